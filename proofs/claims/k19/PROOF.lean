import PyProof.Rows.All
import Wide.All
import OpenK.AllK
import Wide.FinOn
import PyProof.DictFindH
import PyProof.DictRoadsH
import Lean
import PyProof.EqAt
import PyProof.EqKinds
import PyProof.TupleCall
import PyProof.NeKinds
import PyProof.ListRange
import PyProof.TupleOfSeq
import KE.KSortTup
import PyProof.TupleKey
import PyProof.Rows.SetFrom
import PyProof.SetRoads
import KE.KDictList
import KE.KDictOf
import PyProof.AttrMiss
import PyProof.IsiH_list
import PyProof.AutoListH
import PySem.Challenge.RW_noughtways_k19_orders_and_rings_told
set_option Elab.async false
set_option linter.all false
set_option maxRecDepth 100000
open List (all_cons all_eq_true all_nil any_cons any_eq_false any_eq_true append_assoc append_nil cons_append filter_congr filter_cons find?_cons find?_eq_none flatMap_append flatMap_cons flatMap_nil getD_eq_getElem?_getD getElem?_cons_succ getElem?_cons_zero getElem?_eq_getElem getElem?_eq_none getElem?_map getElem?_set_ne getElem_mem length_append length_cons length_drop length_erase_of_mem length_filter_le length_map length_nil length_range length_replicate length_set length_singleton length_take map_append map_congr_left map_cons map_id map_id'' map_map map_nil mem_append mem_append_left mem_append_right mem_cons mem_cons_of_mem mem_cons_self mem_filter mem_flatMap mem_map mem_of_find?_eq_some mem_of_getElem? mem_of_mem_erase mem_range mem_singleton nodup_cons not_mem_nil range_succ replicate_succ set_set size_toArray)
noncomputable section
abbrev Fz:=PySem.W.Frag
abbrev Fy:=PySem.Shared
abbrev Fx:=PySem.Value
abbrev Fw:=PySem.Addr
abbrev Fv:=PySem.Around
abbrev Fu:=PySem.Program
abbrev Ft:=PySem.World
abbrev Fs:=PySem.Stmt
abbrev Fr:=PySem.Expr
abbrev Fq:=PySem.Heap
def Za:=@List.getElem?_eq_getElem
def Zb:=@if_pos
def Zc:=@PySem.wpAny_bind
def Zd:=@if_neg
def Ze:=@List.getElem?_eq_some_iff
def Zf:=@List.length_map
def Zg:=@PySem.Heap.get?_push_of_some
def Zh:=@List.length_cons
def Zi:=@Nat.le_refl
def Zj:=@PySem.Heap.lt_size
def Zk:=@Bool.false_ne_true
def Zl:=@List.getElem?_cons_succ
def Zm:=@Bool.and_eq_true
def Zn:=@List.getD_eq_getElem?_getD
def Zo:=@Option.some.inj
def Zp:=@List.size_toArray
def Zq:=@List.length_append
def Zr:=@if_true
def Zs:=@PySem.wpAny_pure
def Zt:=@PySem.Heap.get?_push_size
def Zu:=@List.length_nil
def Zv:=@Nat.ne_of_lt
def Zw:=@List.mem_append_right
def Zx:=@List.mem_singleton
def Zy:=@Nat.lt_of_lt_of_le
def Zz:=@Array.length_toList
def Z0:=@List.mem_map
def Z1:=@List.all_eq_true
def Z2:=@List.mem_of_getElem?
def Z3:=@List.lookup_cons
def Z4:=@decide_eq_false
def Z5:=@decide_eq_true_eq
def Z6:=@List.length_set
def Z7:=@List.mem_cons
def Z8:=@List.getElem?_map
def Z9:=@PySem.F.plainAttrs_list
def Zaa:=@Bool.false_eq_true
def Zab:=@List.mem_range
def Zac:=@List.length_range
def Zad:=@List.mem_append_left
def Zae:=@Nat.zero_add
def Zaf:=@decide_eq_true
def Zag:=@PySem.wpAny_newObj_type
def Zah:=@List.mem_append
def Zai:=@PySem.mem_of_lookup
def Zaj:=@List.length_erase_of_mem
def Zak:=@List.mem_cons_of_mem
def Zal:=@List.append_nil
def Zam:=@Bool.and_true
def Zan:=@List.map_append
def Zao:=@List.append_assoc
def Zap:=@List.pairwise_cons
def Zaq:=@List.map_cons
def Zar:=@Bool.not_false
def Zas:=@Nat.lt_irrefl
def Zat:=@Bool.not_true
def Zau:=@PySem.sizeLine_eq
def Zav:=@Nat.le_trans
def Zaw:=@Int.toNat_natCast
def Zax:=@List.mem_filter
def Zay:=@List.getElem?_cons_zero
def Zaz:=@PySem.W.kia_one
def Za0:=@Option.getD_some
def Za1:=@PySem.Heap.get?_update_other
def Za2:=@if_false
def Za3:=@List.mem_flatMap
def Za4:=@List.flatten_cons
def Za5:=@PySem.F.slot_list_append
def Za6:=@PySem.F.type_list_append
def Za7:=@List.all_cons
def Za8:=@List.mem_cons_self
def Za9:=@PySem.call_meets
def Zba:=@List.flatMap_cons
def Zbb:=@Nat.zero_le
def Zbc:=@PySem.wpAny_field
def Zbd:=@List.getElem?_eq_none
def Zbe:=@PySem.AutoSeq1.wpAny_loadPart'
def Zbf:=@Option.isSome_iff_exists
def Zbg:=@List.mem_of_find?_eq_some
def Zbh:=@PySem.wpAny_truthy_bool
def Zbi:=@Nat.lt_succ_of_lt
def Zbj:=@of_decide_eq_true
def Zbk:=@PySem.wpAny_callSpecial?_slot
def Zbl:=@PySem.wpAny_mono
def Zbm:=@List.nodup_cons
def Zbn:=@List.nil_append
def Zbo:=@PySem.W.cellsFrom_some
def Zbp:=@List.getElem?_append_right
def Zbq:=@PySem.Heap.get?_update_self
def Zbr:=@List.getElem?_append_left
def Zbs:=@List.pairwise_iff_getElem
def Zbt:=@List.getElem?_set_ne
def Zbu:=@PySem.wpAny_passesOwn
def Zbv:=@Bool.eq_iff_iff
def Zbw:=@List.not_mem_nil
def Zbx:=@Nat.lt_or_ge
def Zby:=@PySem.Heap.get?_push_ne
def Zbz:=@List.map_map
def Zb0:=@List.replicate_succ
def Zb1:=@List.length_replicate
def Zb2:=@PySem.wpAny_call_entry
def Zb3:=@List.length_singleton
def Zb4:=@PySem.Heap.size_update
def Zb5:=@List.mem_of_mem_erase
def Zb6:=@List.length_filter_le
def Zb7:=@List.getElem?_replicate
def Zb8:=@List.length_eq_zero_iff
def Zb9:=@Int.eq_ofNat_of_zero_le
def Zca:=@List.any_eq_true
def Zcb:=@Int.zero_add
def Zcc:=@PySem.Obj.data_mapFields
def Zcd:=@List.getElem?_set_self
def Zce:=@PySem.codeAny_compStart_list
def Zcf:=@List.pairwise_lt_range
def Zcg:=@PySem.wpAny_holding
def Zch:=@PySem.Obj.isFreed_of_fields
def Zci:=@Bool.not_eq_true'
def Zcj:=@PySem.Heap.size_push
def Zck:=@List.map_congr_left
def Zcl:=@List.getElem_toArray
def Zcm:=@decide_false
def Zcn:=@List.getElem?_eq_none_iff
def Zco:=@List.getElem?_range
def Zcp:=@PySem.F.args_tuple_add_2
def Zcq:=@Bool.or_eq_true
def Zcr:=@PySem.PassesOwn.never
def Zcs:=@PySem.wpAny_Call_Name_kw
def Zct:=@PySem.SeqAt.EqAt.int_int
def Zcu:=@PySem.wpAny_pyIter_tuple
def Zcv:=@List.length_take
def Zcw:=@List.getElem_mem
def Zcx:=@PySem.F.entry_tuple_add
def Zcy:=@List.pairwise_singleton
def Zcz:=@List.map_nil
def Zc0:=@List.any_eq_false
def Zc1:=@PySem.wpAny_setField
def Zc2:=@List.flatMap_append
def Zc3:=@PySem.wpAny_pyIter_enum
def Zc4:=@List.pairwise_map
def Zc5:=@PySem.F.slot_tuple_add
def Zc6:=@Array.getElem?_toList
def Zc7:=@List.pairwise_flatMap
def Zc8:=@List.eq_nil_iff_forall_not_mem
def Zc9:=@Ne.symm
def Zda:=@List.find?_eq_none
def Zdb:=@List.length_drop
def Zdc:=@List.filter_cons
def Zdd:=@List.mem_iff_getElem
def Zde:=@List.perm_cons_erase
def Zdf:=@List.pairwise_append
def Zdg:=@Nat.pow_le_pow_right
def Zdh:=@PySem.wpAny_execs_nil
def Zdi:=@PySem.pushCells_keeps
def Zdj:=@Int.emod_nonneg
def Zdk:=@List.dropLast_concat_getLast
def Zdl:=@List.filterMap_cons
def Zdm:=@List.length_zipWith
def Zdn:=@List.filter_sublist
def Zdo:=@PySem.codeAny_mono
def Zdp:=@Nat.mul_comm
def Zdq:=@List.idxOf_lt_length_of_mem
def Zdr:=@or_false
def Zds:=@List.find?_cons
def Zdt:=@PyProof.Rows.assignInOrder_cons
def Zdu:=@Int.emod_lt_of_pos
def Zdv:=@PySem.Calls.Name_function_global
def Zdw:=@Int.fdiv_eq_ediv_of_nonneg
def Zdx:=@Int.fmod_eq_emod_of_nonneg
def Zdy:=@PySem.wpAny_letOwnedTupleGo_enum
def Zdz:=@PySem.wpAny_binaryOp_repeat_ref
def Zd0:=@List.drop_eq_getElem_cons
def Zd1:=@List.mem_or_eq_of_mem_set
def Zd2:=@List.set_set
def Zd3:=@List.cons_append
def Zd4:=@List.flatMap_nil
def Zd5:=@Nat.le_of_succ_le
def Zd6:=@PySem.wpAny_pyIter_list
def Zd7:=@List.nodup_append
def Zd8:=@Bool.eq_false_iff
def Zd9:=@List.mem_range'_1
def Zea:=@PySem.wpAny_standAt
def Zeb:=@Bool.true_and
def Zec:=@PySem.AutoSeq1.sub_tuple_tuple
def Zed:=@PySem.wpAny_comprehension_free
def Zee:=@PySem.noFill_tuple_add
def Zef:=@PySem.AutoSeq1.idx_int
def Zeg:=@List.length_eraseIdx_le
def Zeh:=@PySem.typeIs_int
def Zei:=@List.range_succ
def Zej:=@PySem.wpAny_typeOf
def Zek:=@Nat.le_of_eq
def Zel:=@List.filter_congr
def Zem:=@PyProof.Rows.subscriptTail_builtinR
def Zen:=@PySem.wpAny_isSame_ref_other
def Zeo:=@List.range_succ_eq_map
def Zep:=@List.drop_of_length_le
def Zeq:=@List.take_of_length_le
def Zer:=@List.filter_eq_nil_iff
def Zes:=@List.of_mem_zip
def Zet:=@List.find?_some
def Zeu:=@List.filter_nil
def Zev:=@PySem.wpAny_isTrue_Compare1
def Zew:=@Nat.le_succ
def Zex:=@decide_true
def Zey:=@Bool.false_and
def Zez:=@Bool.and_false
def Ze0:=@PySem.isSubtype_type
def Ze1:=@List.all_nil
def Ze2:=@PySem.rangeSize_one
def Ze3:=@PySem.seq_tuple_add
def Ze4:=@PyProof.Rows.listUpdate_at
def Ze5:=@beq_iff_eq
def Ze6:=@PyProof.Rows.size_push'
def Ze7:=@Nat.le_of_lt
def Ze8:=@Nat.ne_of_gt
def Ze9:=@PySem.concat_meets
def Zfa:=@PySem.SeqAt.EqAt.same
theorem Zfb {p:Prop}(h:False):p:=h.elim
namespace L2
open PySem
section
variable {prog:Fu} {w:Ft} {K:Type} [DecidableEq K] {ka:HeapKind prog w K} {A:Fv} {E:Fx→Fy→Prop} {s:Fy}
end
open PySem PySem.Spec PyProof.Rows
abbrev Key:=Sum Int Str
def Q4x:Key→Fx→Bool
 | .inl k,v=>Value.isInt k v
 | .inr x,v=>Value.isStrOf x v
def keyH (w:Ft):Key→Int
 | .inl k=>hashInt k
 | .inr x=>hashStr w x
theorem Qbk:∀ {k:Key} {v:Fx},Q4x k v=true→(∃ i t,k=Sum.inl i∧v=Value.int i t)∨(∃ x t,k=Sum.inr x∧v=Value.str x t)
 | .inl i,v,h=>by
  obtain ⟨t,e⟩:=Value.isInt_shape (k:=i) (v:=v) h
  exact .inl ⟨i,t,rfl,e⟩
 | .inr x,v,h=>by
  obtain ⟨t,e⟩:=Value.isStrOf_shape (x:=x) (v:=v) h
  exact .inr ⟨x,t,rfl,e⟩
theorem Q6d (a b:Int):decide ((Sum.inl a:Key)=Sum.inl b)=(a==b):=by
 by_cases e:a=b
 ·subst e;simp
 ·have h:¬ (Sum.inl a:Key)=Sum.inl b:=fun q=>e (Sum.inl.inj q)
  rw [Z4 h]
  exact (beq_eq_false_iff_ne.mpr e).symm
theorem Q6e (a b:Str):decide ((Sum.inr a:Key)=Sum.inr b)=decide (a=b):=by
 by_cases e:a=b
 ·subst e;simp
 ·have h:¬ (Sum.inr a:Key)=Sum.inr b:=fun q=>e (Sum.inr.inj q)
  rw [Z4 h,Z4 e]
theorem Q6f (a:Int) (b:Str):decide ((Sum.inl a:Key)=Sum.inr b)=false:=Z4 (fun q=>nomatch q)
theorem Q6g (a:Str) (b:Int):decide ((Sum.inr a:Key)=Sum.inl b)=false:=Z4 (fun q=>nomatch q)
def Qty (prog:Fu) (w:Ft):PySem.KeyKind prog w Key where
 is:=Q4x
 hash:=keyH w
 inj:=fun v a b ha hb=>by
  rcases Qbk ha with ⟨i,t,rfl,rfl⟩ | ⟨x,t,rfl,rfl⟩
  ·rcases Qbk hb with ⟨j,u,rfl,e⟩ | ⟨y,u,rfl,e⟩
   ·injection e with e1 _;rw [e1]
   ·exact nomatch e
  ·rcases Qbk hb with ⟨j,u,rfl,e⟩ | ⟨y,u,rfl,e⟩
   ·exact nomatch e
   ·injection e with e1 _;rw [e1]
 byValue:=fun k v h=>by
  rcases Qbk h with ⟨i,t,rfl,rfl⟩ | ⟨x,t,rfl,rfl⟩ <;> rfl
 pyHash:=fun hv h=>by
  rcases Qbk hv with ⟨i,t,rfl,rfl⟩ | ⟨x,t,rfl,rfl⟩
  ·exact wpAny_pyHash_int h
  ·exact wpAny_pyHash_str h
 eqBool:=fun hu hv h=>by
  rcases Qbk hu with ⟨i,t,rfl,rfl⟩ | ⟨x,t,rfl,rfl⟩
  ·rcases Qbk hv with ⟨j,u,rfl,rfl⟩ | ⟨y,u,rfl,rfl⟩
   ·rw [Q6d] at h;exact wpAny_eqBool_int h
   ·rw [Q6f] at h;exact SeqAt.EqAt.int_str i t y u _ _ _ _ h
  ·rcases Qbk hv with ⟨j,u,rfl,rfl⟩ | ⟨y,u,rfl,rfl⟩
   ·rw [Q6g] at h;exact SeqAt.EqAt.str_int x t j u _ _ _ _ h
   ·rw [Q6e] at h;exact wpAny_eqBool_str h
 «strs»:=fun k x t v h=>by
  rcases Qbk h with ⟨i,u,rfl,e⟩ | ⟨y,u,rfl,e⟩
  ·exact nomatch e
  ·injection e with e1 _
   subst e1
   cases v <;> rfl
inductive V where
 | non | bl (b:Bool) | int (i:Int) | str (x:Str) | byt (b:Array UInt8) | flt (b:UInt64) | ref (a:Fw) | ty (n:String)
 deriving DecidableEq
def RelV:V→Fx→Prop
 | .non,u=>u=Value.none
 | .bl b,u=>u=Value.bool b
 | .int i,u=>∃ t,u=Value.int i t
 | .str x,u=>∃ t,u=Value.str x t
 | .byt b,u=>∃ t,u=Value.bytes b t
 | .flt b,u=>∃ t,u=Value.float b t
 | .ref a,u=>u=Value.ref a
 | .ty n,u=>u=Value.type n
abbrev Vals:List V→List Fx→Prop:=Paired RelV
theorem Vals.length {xs:List V} {us:List Fx} (r:Vals xs us):xs.length=us.length:=Paired.length r
theorem Vals.get:∀ {xs:List V} {us:List Fx} {i:Nat} {x:V},Vals xs us→xs[i]?=some x→∃ u,us[i]?=some u∧RelV x u
 | _,_,_,_,.nil,e=>by simp at e
 | _,_,0,_,.cons r _,e=>by simp at e;subst e;exact ⟨_,rfl,r⟩
 | _,_,i+1,x,.cons _ t,e=>by
  obtain ⟨u,h1,h2⟩:=Vals.get (i:=i) (x:=x) t (by simpa using e)
  exact ⟨u,by simpa using h1,h2⟩
theorem Vals.set {x:V} {u:Fx} (r:RelV x u):∀ {xs:List V} {us:List Fx} (i:Nat),Vals xs us→Vals (xs.set i x) (us.set i u)
 | _,_,_,.nil=>.nil
 | _,_,0,.cons _ t=>.cons r t
 | _,_,i+1,.cons q t=>.cons q (Vals.set r i t)
theorem Vals.append:∀ {xs ys:List V} {us ws:List Fx},Vals xs us→Vals ys ws→Vals (xs++ys) (us++ws)
 | _,_,_,_,.nil,s=>s
 | _,_,_,_,.cons r t,s=>.cons r (Vals.append t s)
theorem Vals.take:∀ {xs:List V} {us:List Fx} (n:Nat),Vals xs us→Vals (xs.take n) (us.take n)
 | _,_,0,_=>.nil
 | _,_,_+1,.nil=>.nil
 | _,_,n+1,.cons r t=>.cons r (Vals.take n t)
theorem Vals.drop:∀ {xs:List V} {us:List Fx} (n:Nat),Vals xs us→Vals (xs.drop n) (us.drop n)
 | _,_,0,r=>r
 | _,_,_+1,.nil=>.nil
 | _,_,n+1,.cons _ t=>Vals.drop n t
def RelO:Option V→Option Fx→Prop
 | some v,some u=>RelV v u
 | none,none=>True
 | _,_=>False
def KV {κ:Type}:List (κ×V)→List (κ×Fx)→Prop:=Paired fun (p:κ×V) (q:κ×Fx)=>p.1=q.1∧RelV p.2 q.2
def kV:Key→V
 | .inl i=>.int i
 | .inr x=>.str x
inductive HO where
  | lst (xs:List V)
  | tup (xs:List V)
  | dK (aC:List (Key×V)) | dT (aC:List (List Key×V))
  | set (S:Int→Bool) (n:Nat)
  | ins (C dx:Fw) (fs:List (Str×V))
  | own (x:Fw)
  | xd (fs:List (Str×V))
  | met (f x:Fw)
  | rng (lo hi:Int)
  | frz (o:Obj) (u:HO)
  | tbl (q:Str)
 | cod (q:Str)
  | ext (φ:Fq→Prop)
abbrev Hp:=Fw→Option HO
def upd (H:Hp) (a:Fw) (o:HO):Hp:=fun b=>if b=a then some o else H b
theorem Qt {H:Hp} {a:Fw} {o:HO}:upd H a o a=some o:=by unfold upd;rw [Zb rfl]
theorem Q3 {H:Hp} {a b:Fw} {o:HO} (h:b≠a):upd H a o b=H b:=by unfold upd;rw [Zd h]
theorem Qb1 {H:Hp} {a b:Fw} {o:HO} (h:H a=some o) (h':H b=none):a≠b:=by
 intro e;subst e;rw [h] at h';cases h'
def IsTupD (h:Fq) (a:Fw) (ac:Array Fx):Prop:=∃ o,h.get? a=some o∧o.cls=.type "tuple" ∧ ∃ n,o.data=.seq ac n∧o.dict=none
theorem IsTupD.tup {h:Fq} {a:Fw} {ac:Array Fx} (x:IsTupD h a ac):IsTup h a ac:=let ⟨o,e,c,n,d,_⟩:=x;⟨o,e,c,n,d⟩
theorem IsTupD.new (h:Fq) (ac:Array Fx):IsTupD (h.push { cls:=.type "tuple",data:=.seq ac }) h.objs.size ac:=⟨_,Zt _ rfl,rfl,_,rfl,rfl⟩
section
variable (P:Fu) (w:Ft)
def ObjOk (H:Hp) (h:Fq) (a:Fw):HO→Prop
 | .lst xs=>xs.length≤sizeLine∧∃ (ac:List Fx) (n:Nat),Vals xs ac∧h.get? a=some { cls:=.type "list",data:=.seq ac.toArray n }
 | .tup xs=>xs.length≤sizeLine∧∃ ac:List Fx,Vals xs ac∧IsTupD h a ac.toArray
 | .dK aC=>aC.length≤sizeLine∧(a==sysModules)=false∧∃ vs,KV aC vs∧h.DictOf (Qty P w) a vs
 | .dT aC=>aC.length≤sizeLine∧(a==sysModules)=false∧∃ xs:List (List Key×Fw×Fx),
   Paired (fun (p:List Key×V) (q:List Key×Fw×Fx)=>p.1=q.1∧H q.2.1=some (.tup (p.1.map kV))∧RelV p.2 q.2.2) aC xs ∧
   ∃ o es ep,h.get? a=some o∧o.ExactDict∧o.data=.dict es ep∧es.toList=xs.map (entryOfKey (tupleKind (Qty P w)))∧(xs.map (·.1)).Nodup∧ep=es.size
 | .set S n=>h.SetOf (intKind P w) a S n
 | .ins C dx fs=>H dx=some (.own a)∧fs.length≤1000∧dx≠a∧h.get? a=some (PySem.W.instObj C dx) ∧
   ∃ mA,h.Ns1 dx mA∧(∀ f,RelO (fs.lookup f) (mA f))∧PySem.Within mA (fs.map (·.1))
 | .own _=>∃ o,h.get? a=some o
 | .xd fs=>∃ mA,h.Ns1 a mA∧∀ f,RelO (fs.lookup f) (mA f)
 | .rng lo hi=>∃ t u v,h.get? a=some { cls:=.type "range",data:=.fields #[.int lo t,.int hi u,.int 1 v] }
 | .frz o u=>h.get? a=some o∧ObjOk H h a u
 | .tbl q=>∃ ps:Array Fx,h.get? a=some { cls:=.none,data:=.fields ps }∧TriplesOk ps.toList∧∀ pos cv,codeAmong pos ps.toList=some cv→∃ c,cv=.ref c∧H c=some (.cod q)
 | .cod q=>h.CodeRec (.ref a) q
 | .met f x=>h.get? a=some (PySem.W.methodObj (.ref f) (.ref x))
 | .ext φ=>φ h∧(∃ o,h.get? a=some o)∧∀ h1 h2:Fq,φ h1→(∀ o,h1.get? a=some o→h2.get? a=some o)→φ h2
def HOk (H:Hp) (h:Fq):Prop:=∀ a o,H a=some o→ObjOk P w H h a o
end
section
variable {P:Fu} {w:Ft} {H H':Hp} {h h':Fq} {a:Fw} {o:HO}
theorem ObjOk.lt (x:ObjOk P w H h a o):a<h.objs.size:=by
 cases o with
 | lst xs=>obtain ⟨_,_,_,_,e⟩:=x;exact Zj e
 | tup xs=>obtain ⟨_,_,_,p⟩:=x;exact p.tup.lt
 | dK aC=>obtain ⟨_,_,_,_,o,_,_,e,_⟩:=x;exact Zj e
 | dT aC=>obtain ⟨_,_,_,_,o,_,_,e,_⟩:=x;exact Zj e
 | set S n=>obtain ⟨o,_,_,_,e,_⟩:=x;exact Zj e
 | ins C dx fs=>obtain ⟨_,_,_,e,_⟩:=x;exact Zj e
 | own y=>obtain ⟨_,e⟩:=x;exact Zj e
 | xd fs=>obtain ⟨_,⟨_,_,_,e,_⟩,_⟩:=x;exact Zj e
 | rng lo hi=>obtain ⟨_,_,_,e⟩:=x;exact Zj e
 | frz ob u=>obtain ⟨e,_⟩:=x;exact Zj e
 | tbl q=>obtain ⟨_,e,_⟩:=x;exact Zj e
 | cod q=>obtain ⟨_,_,_,_,e,e1,_⟩:=x;cases e;exact Zj e1
 | met f y=>exact Zj (show h.get? a=some _ from x)
 | ext φ=>obtain ⟨_,⟨_,e⟩,_⟩:=x;exact Zj e
theorem Paired.mapP {α β:Type} {F G:α→β→Prop}:∀ {l₁:List α} {l₂:List β},Paired F l₁ l₂→(∀ a b,F a b→G a b)→Paired G l₁ l₂
 | _,_,.nil,_=>.nil
 | _,_,.cons r t,f=>.cons (f _ _ r) (Paired.mapP t f)
theorem ObjOk.stay (x:ObjOk P w H h a o) (k:∀ b u,(b=a∨H b=some (.own a))→h.get? b=some u→h'.get? b=some u)
  (ho:∀ b,H b=some (.own a)→H' b=some (.own a)) (ht:∀ b xs,H b=some (.tup xs)→H' b=some (.tup xs)) (gh:∀ b q,H b=some (.cod q)→H' b=some (.cod q):=by exact fun _ _ q=>q):ObjOk P w H' h' a o:=by
 induction o with
 | lst xs=>obtain ⟨z,ac,n,r,e⟩:=x;exact ⟨z,ac,n,r,k _ _ (.inl rfl) e⟩
 | tup xs=>obtain ⟨z,ac,r,ob,e,c⟩:=x;exact ⟨z,ac,r,ob,k _ _ (.inl rfl) e,c⟩
 | dK aC=>obtain ⟨z,y,vs,r,ob,es,ep,e,c⟩:=x;exact ⟨z,y,vs,r,ob,es,ep,k _ _ (.inl rfl) e,c⟩
 | dT aC =>
  obtain ⟨z,y,xs,r,ob,es,ep,e,c⟩:=x
  exact ⟨z,y,xs,Paired.mapP r fun p q z=>⟨z.1,ht _ _ z.2.1,z.2.2⟩,ob,es,ep,k _ _ (.inl rfl) e,c⟩
 | set S n=>obtain ⟨ob,es,ep,t,e,c⟩:=x;exact ⟨ob,es,ep,t,k _ _ (.inl rfl) e,c⟩
 | ins C dx fs =>
  obtain ⟨d,z,ne,e,mA,⟨od,es,ep,e2,c⟩,r⟩:=x
  exact ⟨ho _ d,z,ne,k _ _ (.inl rfl) e,mA,⟨od,es,ep,k _ _ (.inr d) e2,c⟩,r⟩
 | own y=>obtain ⟨ob,e⟩:=x;exact ⟨ob,k _ _ (.inl rfl) e⟩
 | xd fs=>obtain ⟨mA,⟨od,es,ep,e,c⟩,r⟩:=x;exact ⟨mA,⟨od,es,ep,k _ _ (.inl rfl) e,c⟩,r⟩
 | rng lo hi=>obtain ⟨t,u,v,e⟩:=x;exact ⟨t,u,v,k _ _ (.inl rfl) e⟩
 | frz ob u ih=>obtain ⟨e,q⟩:=x;exact ⟨k _ _ (.inl rfl) e,ih q⟩
 | tbl q =>
  obtain ⟨ps,e,tr,al⟩:=x
  refine ⟨ps,k _ _ (.inl rfl) e,tr,fun pos cv hc=>?_⟩
  obtain ⟨c,ec,hH⟩:=al pos cv hc
  exact ⟨c,ec,gh _ _ hH⟩
 | cod q =>
  obtain ⟨c,o,vs,t,e,e1,r⟩:=x
  cases e
  exact ⟨_,o,vs,t,rfl,k _ _ (.inl rfl) e1,r⟩
 | met f y =>
  have e:h.get? a=some (PySem.W.methodObj (.ref f) (.ref y)):=x
  show h'.get? a=some (PySem.W.methodObj (.ref f) (.ref y))
  exact k a _ (.inl rfl) e
 | ext φ=>obtain ⟨p,⟨o,e⟩,st⟩:=x;exact ⟨st _ _ p fun o q=>k _ _ (.inl rfl) q,⟨o,k _ _ (.inl rfl) e⟩,st⟩
theorem HOk.lt (x:HOk P w H h) (e:H a=some o):a<h.objs.size:=(x a o e).lt
theorem HOk.fresh (x:HOk P w H h) (e:h.objs.size≤a):H a=none:=by
 cases q:H a with
 | none=>rfl
 | some u=>exact absurd (Zy (x.lt q) e) (Zas _)
theorem HOk.kept (x:HOk P w H h) (k:∀ b u,h.get? b=some u→h'.get? b=some u):HOk P w H h':=fun a o e =>
 (x a o e).stay (fun b u _ q=>k b u q) (fun _ q=>q) fun _ _ q=>q
theorem HOk.laid (x:HOk P w H h) (k:∀ b u,h.get? b=some u→h'.get? b=some u) (hp:h.objs.size≤a) (new:ObjOk P w (upd H a o) h' a o):HOk P w (upd H a o) h':=fun b u e=>by
 have hn:=x.fresh hp
 by_cases hb:b=a
 ·subst hb;rw [Qt] at e;cases e;exact new
 ·rw [Q3 hb] at e
  exact (x b u e).stay (fun c v _ q=>k c v q) (fun c q=>by rw [Q3 (Qb1 q hn)];exact q) (fun c xs q=>by rw [Q3 (Qb1 q hn)];exact q) fun c xs q=>by rw [Q3 (Qb1 q hn)];exact q
end
def Rd (H:Hp) (a:Fw) (u:HO):Prop:=H a=some u∨∃ o,H a=some (.frz o u)
theorem Rd.ok {P:Fu} {w:Ft} {H:Hp} {h:Fq} {a:Fw} {u:HO} (r:Rd H a u) (x:HOk P w H h):ObjOk P w H h a u:=by
 rcases r with r | ⟨o,r⟩
 ·exact x a u r
 ·obtain ⟨_,q⟩:=x a _ r
  exact q
def Mut:Option HO→Prop
 | some (.lst _)=>True
 | some (.dK _)=>True
 | some (.dT _)=>True
 | some (.set _ _)=>True
 | some (.ins _ _ _)=>True
 | some (.ext _)=>True
 | _=>False
section
variable {P:Fu} {w:Ft} {H:Hp} {h h':Fq} {x e:Fw} {o':HO}
theorem HOk.write (ok:HOk P w H h) (mu:Mut (H x)) (he:e=x∨H e=some (.own x)) (k:∀ b u,b≠e→h.get? b=some u→h'.get? b=some u) (dD:∃ u,h'.get? e=some u)
  (new:ObjOk P w (upd H x o') h' x o'):HOk P w (upd H x o') h':=fun b u q=>by
 have eU:∀ c y,H c=some (.own y)→c≠x:=fun c y r z=>by subst z;rw [r] at mu;exact mu
 have fR:∀ c xs,H c=some (.tup xs)→c≠x:=fun c xs r z=>by subst z;rw [r] at mu;exact mu
 by_cases hb:b=x
 ·subst hb;rw [Qt] at q;cases q;exact new
 ·rw [Q3 hb] at q
  by_cases bN:b=e
  ·have q':H b=some (.own x):=by
    rcases he with z | z
    ·exact absurd (bN.trans z) hb
    ·rw [bN];exact z
   rw [q] at q';cases q'
   obtain ⟨v,hv⟩:=dD
   exact ⟨v,by rw [bN];exact hv⟩
  ·refine (ok b u q).stay (fun c v hc r=>k c v ?_ r) (fun c r=>by rw [Q3 (eU c b r)];exact r) (fun c xs r=>by rw [Q3 (fR c xs r)];exact r) fun c y r=>by rw [Q3 (fun z=>by subst z;rw [r] at mu;exact mu)];exact r
   rcases hc with rfl | hc
   ·exact bN
   ·rintro rfl
    rcases he with z | z
    ·exact eU c b hc z
    ·rw [hc] at z;cases z;exact hb rfl
end
structure Un (fs ex:List Fw) (H H':Hp) (h h':Fq):Prop where
 keep:∀ b o,h.get? b=some o→H b=none→b∉fs→b∉ex→h'.get? b=some o
 slot:∀ b o,h.get? b=some o→H b=none→b∈fs→b∉ex→∃ sl,h'.get? b=some { o with slots:=sl }
 free:∀ b o,h.get? b=some o→H b=none→b∉ex→H' b=none
 there:∀ b o,h.get? b=some o→b∉ex→∃ o',h'.get? b=some o'
 tups:∀ b xs,H b=some (.tup xs)→H' b=some (.tup xs)
 frzs:∀ b o u,H b=some (.frz o u)→H' b=some (.frz o u)
 tbls:∀ b q,H b=some (.tbl q)→H' b=some (.tbl q)
section
variable {fs fu ex kf:List Fw} {H H1 H2:Hp} {h h1 h2 h':Fq} {a x e:Fw} {o:HO}
theorem Un.any (u:Un fs ex H H1 h h1) {b:Fw} {ob:Obj} (q:h.get? b=some ob) (n:H b=none) (hx:b∉ex):∃ sl,h1.get? b=some { ob with slots:=sl }:=by
 by_cases hb:b∈fs
 ·exact u.slot b ob q n hb hx
 ·exact ⟨ob.slots,u.keep b ob q n hb hx⟩
theorem Un.kept (k:∀ b u,h.get? b=some u→h'.get? b=some u):Un fs ex H H h h' :=
 ⟨fun b ob q _ _ _=>k b ob q,fun b ob q _ _ _=>⟨ob.slots,k b ob q⟩,fun _ _ _ n _=>n,fun b ob q _=>⟨ob,k b ob q⟩,fun _ _ q=>q,fun _ _ _ q=>q,fun _ _ q=>q⟩
theorem Un.refl:Un fs ex H H h h:=Un.kept fun _ _ q=>q
theorem Un.laid (k:∀ b u,h.get? b=some u→h'.get? b=some u) (hp:h.objs.size≤a) (hn:H a=none):Un fs ex H (upd H a o) h h' where
 keep:=fun b u q _ _ _=>k b u q
 slot:=fun b u q _ _ _=>⟨u.slots,k b u q⟩
 free:=fun b u q n _=>by rw [Q3 (Zv (Zy (Zj q) hp))];exact n
 there:=fun b u q _=>⟨u,k b u q⟩
 tups:=fun b xs q=>by rw [Q3 (Qb1 q hn)];exact q
 frzs:=fun b u xs q=>by rw [Q3 (Qb1 q hn)];exact q
 tbls:=fun b ps q=>by rw [Q3 (Qb1 q hn)];exact q
theorem Un.write (mu:Mut (H x)) (he:e=x∨H e=some (.own x)) (k:∀ b u,b≠e→h.get? b=some u→h'.get? b=some u) (dD:∃ u,h'.get? e=some u):Un fs ex H (upd H x o) h h':=by
 have hx:∀ b,H b=none→b≠x:=fun b n z=>by subst z;rw [n] at mu;exact mu
 have hb:∀ b,H b=none→b≠e:=fun b n z=>by
  subst z
  rcases he with r | r
  ·exact hx b n r
  ·rw [n] at r;cases r
 have hm:∀ b u,H b=some u→¬ Mut (some u)→b≠x:=fun b u q nm z=>by subst z;rw [q] at mu;exact nm mu
 refine ⟨fun b u q n _ _=>k b u (hb b n) q,fun b u q n _ _=>⟨u.slots,k b u (hb b n) q⟩,fun b u q n _=>by rw [Q3 (hx b n)];exact n,fun b u q _=>?_,
  fun b xs q=>by rw [Q3 (hm b _ q fun z=>z)];exact q,fun b u xs q=>by rw [Q3 (hm b _ q fun z=>z)];exact q,fun b ps q=>by rw [Q3 (hm b _ q fun z=>z)];exact q⟩
 by_cases bN:b=e
 ·subst bN;exact dD
 ·exact ⟨u,k b u bN q⟩
end
def trk (h:Fq) (H:Hp):List Fw:=(List.range h.objs.size).filter fun a=>(H a).isSome
def Qn2 (h:Fq) (H:Hp):Fq:=PySem.W.hideAll h (trk h H)
theorem Qvy (h:Fq) (H:Hp):(Qn2 h H).objs.size=h.objs.size:=PySem.W.hideAll_size _ _
theorem Qxe {h:Fq} {H:Hp} {b:Fw} {o:Obj} (e:h.get? b=some o) (n:H b=none):(Qn2 h H).get? b=some o :=
 PySem.W.hideAll_get _ e fun hm=>by
  have q:(H b).isSome=true:=(Zax.mp hm).2
  rw [n] at q;simp at q
theorem Q1x {h:Fq} {H:Hp} {b:Fw} {o:Obj} (e:(Qn2 h H).get? b=some o):h.get? b=some o∧H b=none:=by
 have e':h.get? b=some o:=PySem.W.of_hideAll (trk h H) e
 refine ⟨e',?_⟩
 cases q:H b with
 | none=>rfl
 | some x =>
  have hm:b∈trk h H:=Zax.mpr ⟨Zab.mpr (Zj e'),by simp [q]⟩
  have z:(Qn2 h H).get? b=none:=PySem.W.hideAll_none (trk h H) hm
  rw [z] at e;cases e
def Q1y (g h:Fq) (L:Fw):List (Fw×Obj):=(List.range h.objs.size).filterMap fun a=>if a=L∨(g.get? a).isSome=true then none else (h.get? a).map fun o=>(a,o)
def rest (g h:Fq) (L d:Fw):List (Fw×Obj):=(Q1y g h L).filter fun p=>decide (p.1≠d)
structure Mod (K:Fz) (mg:Str→Option Fx) (base:Fq):Prop where
 kin:K.In base
 glob:base.Ns mainGlobals mg
 blt:∃ mb,base.Ns builtinsNs mb∧∀ x:Str,x ≠ "__name__" → mb x=bootBuiltins x
 nolimit:base.NoLimit
 bm:∃ bm ob,mg "__builtins__" = some (.ref bm)∧bm≠builtinsNs∧base.get? bm=some ob∧ob.cls=.type "module" ∧ ob.dict=some builtinsNs∧ob.data=.plain
def Qxf (K:Fz) (a:Fw) (q:Str):Prop:=∃ b t,K.getLast?=some (b,{ cls:=.none,data:=.fields #[.ref a,.str q t] })
def Qxg (K:Fz) (H:Hp):Prop:=∀ a q,Qxf K a q→H a=some (.tbl q)
structure Cx where
 prog:Fu
 w:Ft
 K:Fz
 mg:Str→Option Fx
 base:Fq
 A:Fv
 N:List Str
 s₀:Fy
 H₀:Hp
 env:Env
 outer:List Env
 stack:List Env
 ex:List Fw
 fn:Str→Bool
 calm:Bool
 pn:List (Fw×Obj)
 xe:Fx→Fy→Prop
def frs (l:List Env):List Fw:=l.filterMap (·.frame)
abbrev Cx.fs (X:Cx):List Fw:=frs X.outer
def Vis (sc:Scope) (x:Str):Prop:=sc.names.lookup x=some .local∨sc.names.lookup x=some .cell∨sc.names.lookup x=some .free
def Loc (sc:Scope) (x:Str):Prop:=sc.names.lookup x=some .local∨sc.names.lookup x=some .cell
def Look (env:Env) (h:Fq) (m:Str→Option Fx) (x:Str) (u:Fx):Prop :=
 (env.kindOf x=some .local∧m x=some u)∨((env.kindOf x=some .cell∨env.kindOf x=some .free)∧∃ c,env.cells.lookup x=some c∧h.IsCell c (some u))
structure Cx.Ok (X:Cx):Prop where
 mod:Mod X.K X.mg X.base
 kind:X.env.scope.kind=.function
 glob:X.env.globals=mainGlobals
 blt:X.env.builtins=builtinsNs
 above:X.s₀.heap.objs.size≤X.env.locals
 inj:∀ x y c,X.env.cells.lookup x=some c→X.env.cells.lookup y=some c→x=y
 has:∀ x,(X.env.kindOf x=some .cell∨X.env.kindOf x=some .free)→∃ c,X.env.cells.lookup x=some c
 cab:∀ x c,X.fn x=true→X.env.cells.lookup x=some c→X.s₀.heap.objs.size≤c
 hd:X.calm=true→X.A.handled=none
 frames:X.A.frames=some X.stack
 stk:X.stack=X.outer∨(X.stack=X.env::X.outer∧X.env.frame=some X.env.locals)
 exf:∀ b∈X.ex,b≠X.env.locals∧∀ x c,X.env.cells.lookup x=some c→c≠b
 bs:∀ b o,X.base.get? b=some o→X.s₀.heap.get? b=some o∧X.H₀ b=none
 bsz:X.base.objs.size≤X.s₀.heap.objs.size
 noex:∀ b o,X.base.get? b=some o→b∉X.ex
 exfs:∀ b∈X.ex,b∉X.fs
 funs:X.s₀.heap.FunFrames X.base X.outer
 frf:(∀ b∈X.fs,X.H₀ b=none)∧Qxg X.K X.H₀
structure Inv (X:Cx) (aa:List (Fw×Obj)) (σ:List (Option V)) (H:Hp) (s:Fy):Prop where
 ok:X.Ok
 os:s.os=X.s₀.os
 bare:AllBare s.gens
 base:Un X.fs X.ex X.H₀ H X.s₀.heap s.heap
 loc:∃ m,s.heap.Ns X.env.locals m∧∀ (i:Nat) (x:Str) (v:V),X.N[i]?=some x→σ[i]?=some (some v)→Vis X.env.scope x→∃ u,RelV v u∧Look X.env s.heap m x u
 cell:∀ x c,X.env.cells.lookup x=some c→∃ v,s.heap.IsCell c v
 free:H X.env.locals=none
 freeC:∀ x c,X.env.cells.lookup x=some c→H c=none∨(X.fn x=false∧∃ o u,H c=some (.frz o u))
 pin:∀ p∈X.pn++aa,s.heap.get? p.1=some p.2∧H p.1=none∧p.1≠X.env.locals∧p.1∉X.fs∧∀ v,p.2.data≠.cell v
 hok:HOk X.prog X.w H s.heap
 len:σ.length=X.N.length
section
variable {X:Cx} {aa:List (Fw×Obj)} {σ:List (Option V)} {H H':Hp} {s:Fy} {h':Fq}
theorem Cx.Ok.nofr (ok:X.Ok) {b:Fw} {o:Obj} (e:X.base.get? b=some o):b∉X.fs:=fun hb=>by
 have:=(ok.funs.mem hb).1
 rw [e] at this;cases this
theorem Inv.bs (I:Inv X aa σ H s):∀ b o,X.base.get? b=some o→s.heap.get? b=some o∧H b=none:=fun b o e =>
 ⟨I.base.keep b o (I.ok.bs b o e).1 (I.ok.bs b o e).2 (I.ok.nofr e) (I.ok.noex b o e),I.base.free b o (I.ok.bs b o e).1 (I.ok.bs b o e).2 (I.ok.noex b o e)⟩
theorem Inv.bk (I:Inv X aa σ H s):∀ b o,X.base.get? b=some o→s.heap.get? b=some o:=fun b o e=>(I.bs b o e).1
theorem Inv.mod (I:Inv X aa σ H s):Mod X.K X.mg X.base:=I.ok.mod
theorem Inv.kIn (I:Inv X aa σ H s):X.K.In s.heap:=I.ok.mod.kin.keeps I.bk
theorem Inv.lt (I:Inv X aa σ H s):X.env.locals<s.heap.objs.size:=let ⟨_,hn,_⟩:=I.loc;hn.lt
theorem Inv.sz (I:Inv X aa σ H s):X.s₀.heap.objs.size≤s.heap.objs.size:=Zav I.ok.above (Ze7 I.lt)
theorem Inv.nofs (I:Inv X aa σ H s) {a:Fw} (h:s.heap.objs.size≤a):a∉X.fs:=fun hb=>by
 obtain ⟨_,o,ho,_⟩:=I.ok.funs.mem hb
 exact absurd (Zy (Zj ho) (Zav I.sz h)) (Zas _)
theorem Inv.cne (I:Inv X aa σ H s):∀ x c,X.env.cells.lookup x=some c→c≠X.env.locals:=fun x c e z=>by
 obtain ⟨v,o,ho,hd⟩:=I.cell x c e
 obtain ⟨m,⟨o',es,ep,bM,fB,_⟩,_⟩:=I.loc
 rw [z,bM] at ho;cases ho;rw [fB] at hd;cases hd
theorem Inv.funs (I:Inv X aa σ H s):s.heap.FunFrames X.base X.outer:=by
 have all:∀ (l:List Env),(∀ b∈frs l,b∈X.fs)→X.s₀.heap.FunFrames X.base l→s.heap.FunFrames X.base l:=by
  intro l
  induction l with
  | nil=>intro _ _;trivial
  | cons env r ih =>
   intro hs hl
   obtain ⟨hk,⟨L,o,hf,hn,ho,hd⟩,hr⟩:=hl
   have hL:L∈X.fs:=hs L (by unfold frs;rw [Zdl,hf];exact Za8)
   obtain ⟨sl,e⟩:=I.base.slot L o ho (I.ok.frf.1 L hL) hL fun z=>I.ok.exfs L z hL
   exact ⟨hk,⟨L,_,hf,hn,e,hd⟩,ih (fun b hb=>hs b (by unfold frs;rw [Zdl,hf];exact Zak _ hb)) hr⟩
 exact all X.outer (fun _ hb=>hb) I.ok.funs
theorem Inv.stack (I:Inv X aa σ H s):s.heap.FunFrames X.base X.stack:=by
 rcases I.ok.stk with e | ⟨e,hf⟩
 ·rw [e];exact I.funs
 ·rw [e]
  obtain ⟨m,hn,_⟩:=I.loc
  refine .cons (by rw [I.ok.kind];decide) hf hn ?_ I.funs
  exact Heap.get?_none_of_le (Zav I.ok.bsz I.ok.above)
theorem Inv.stkSub (I:Inv X aa σ H s):∀ b∈frs X.stack,b∈X.env.locals::X.fs:=fun b hb=>by
 rcases I.ok.stk with e | ⟨e,hf⟩
 ·rw [e] at hb;exact Zak _ hb
 ·rw [e] at hb
  unfold frs at hb
  rw [Zdl,hf] at hb
  exact hb
theorem Inv.stkFree (I:Inv X aa σ H s):∀ b∈frs X.stack,H b=none:=fun b hb=>by
 rcases Z7.mp (I.stkSub b hb) with e | hb
 ·rw [e];exact I.free
 ·obtain ⟨_,o,ho,_⟩:=I.ok.funs.mem hb
  exact I.base.free b o ho (I.ok.frf.1 b hb) fun z=>I.ok.exfs b z hb
theorem Inv.tab (I:Inv X aa σ H s):Qxg X.K H:=fun a q h=>I.base.tbls a q (I.ok.frf.2 a q h)
theorem Inv.step {g':Array GenState} {t':Nat} {d':Drawn} {ch:List Fw} (I:Inv X aa σ H s)
  (aZ:∀ b∈ch,(b∈X.ex∨X.s₀.heap.objs.size≤b)∧b≠X.env.locals∧(∀ x c,X.env.cells.lookup x=some c→c≠b)∧∀ p∈X.pn++aa,p.1≠b)
  (keep:∀ b o,b≠X.env.locals→b∉X.fs→b∉ch→s.heap.get? b=some o→H b=none→h'.get? b=some o)
  (slot:∀ b o,b≠X.env.locals→b∈X.fs→b∉ch→s.heap.get? b=some o→H b=none→∃ sl,h'.get? b=some { o with slots:=sl }) (free:∀ b o,b∉ch→s.heap.get? b=some o→H b=none→H' b=none)
  (there:∀ b o,b∉ch→s.heap.get? b=some o→∃ o',h'.get? b=some o')
  (tups:∀ b xs,H b=some (.tup xs)→H' b=some (.tup xs)) (frzs:∀ b o u,H b=some (.frz o u)→H' b=some (.frz o u)) (tbls:∀ b q,H b=some (.tbl q)→H' b=some (.tbl q))
  (ns:∀ m,s.heap.Ns X.env.locals m→h'.Ns X.env.locals m) (hok:HOk X.prog X.w H' h') (hg:AllBare g') :
  Inv X aa σ H' { s with heap:=h',gens:=g',drawn:=d',toks:=t' }:=by
 have iL:∀ b o,X.s₀.heap.get? b=some o→b≠X.env.locals:=fun b o e=>Zv (Zy (Zj e) I.ok.above)
 have fw:∀ b o,X.s₀.heap.get? b=some o→b∉X.ex→b∉ch:=fun b o e hx hb=>by
  rcases (aZ b hb).1 with z | z
  ·exact hx z
  ·exact absurd (Zy (Zj e) z) (Zas _)
 have cI:∀ x c,X.env.cells.lookup x=some c→∀ v,s.heap.IsCell c v→h'.IsCell c v:=fun x c e v ⟨o,ho,hd⟩=>by
  have dW:c∉ch:=fun z=>(aZ c z).2.2.1 x c e rfl
  rcases I.freeC x c e with fc | ⟨_,of,u,fc⟩
  ·by_cases hc:c∈X.fs
   ·obtain ⟨sl,q⟩:=slot c o (I.cne x c e) hc dW ho fc
    exact ⟨_,q,hd⟩
   ·exact ⟨o,keep c o (I.cne x c e) hc dW ho fc,hd⟩
  ·have e1:=(I.hok c _ fc).1
   rw [ho] at e1
   cases e1
   exact ⟨_,(hok c _ (frzs c _ _ fc)).1,hd⟩
 refine ⟨I.ok,I.os,hg,⟨fun b o e n hb hx=>?_,fun b o e n hb hx=>?_,fun b o e n hx=>?_,fun b o e hx=>?_,fun b xs e=>tups b xs (I.base.tups b xs e),fun b o xs e=>frzs b o xs (I.base.frzs b o xs e),fun b ps e=>?_⟩,?_,fun x c e=>?_,?_,fun x c e=>?_,fun p hp=>?_,hok,I.len⟩
 ·exact keep b o (iL b o e) hb (fw b o e hx) (I.base.keep b o e n hb hx) (I.base.free b o e n hx)
 ·obtain ⟨sl,e1⟩:=I.base.slot b o e n hb hx
  obtain ⟨du,e2⟩:=slot b _ (iL b o e) hb (fw b o e hx) e1 (I.base.free b o e n hx)
  exact ⟨du,e2⟩
 ·obtain ⟨o',e1⟩:=I.base.there b o e hx
  exact free b o' (fw b o e hx) e1 (I.base.free b o e n hx)
 ·obtain ⟨o',e1⟩:=I.base.there b o e hx
  exact there b o' (fw b o e hx) e1
 ·exact tbls b ps (I.base.tbls b ps e)
 ·obtain ⟨m,hn,hl⟩:=I.loc
  refine ⟨m,ns m hn,fun i x v e1 e2 e3=>?_⟩
  obtain ⟨u,r,l⟩:=hl i x v e1 e2 e3
  refine ⟨u,r,?_⟩
  rcases l with l | ⟨k,c,e,z⟩
  ·exact .inl l
  ·exact .inr ⟨k,c,e,cI x c e _ z⟩
 ·obtain ⟨v,z⟩:=I.cell x c e
  exact ⟨v,cI x c e v z⟩
 ·obtain ⟨m,⟨o,_,_,ho,_⟩,_⟩:=I.loc
  exact free _ o (fun z=>(aZ _ z).2.1 rfl) ho I.free
 ·obtain ⟨v,o,ho,hd⟩:=I.cell x c e
  rcases I.freeC x c e with fc | ⟨fn,of,u,fc⟩
  ·exact .inl (free c o (fun z=>(aZ c z).2.2.1 x c e rfl) ho fc)
  ·exact .inr ⟨fn,of,u,frzs c _ _ fc⟩
 ·obtain ⟨e,n,ne,nf,d⟩:=I.pin p hp
  have dW:p.1∉ch:=fun z=>(aZ p.1 z).2.2.2 p hp rfl
  exact ⟨keep p.1 p.2 ne nf dW e n,free p.1 p.2 dW e n,ne,nf,d⟩
theorem Inv.un {t':Nat} (I:Inv X aa σ H s) (u:Un X.fs [] H H' s.heap h') (hok:HOk X.prog X.w H' h'):Inv X aa σ H' { s with heap:=h',toks:=t' }:=by
 obtain ⟨m,⟨o,es,ep,ho,r⟩,_⟩:=id I.loc
 obtain ⟨sl,hL⟩:=u.any ho I.free (by simp)
 exact I.step (g':=s.gens) (d':=s.drawn) (ch:=[]) (fun _ z=>nomatch z) (fun b o _ hb _ e n=>u.keep b o e n hb (by simp)) (fun b o _ hb _ e n=>u.slot b o e n hb (by simp)) (fun b o _ e n=>u.free b o e n (by simp)) (fun b o _ e=>u.there b o e (by simp)) u.tups u.frzs u.tbls (fun m' hm=>by
  obtain ⟨o',aq,gO,bM,r'⟩:=hm
  rw [ho] at bM;cases bM
  exact ⟨_,aq,gO,hL,r'⟩) hok I.bare
theorem Inv.call {g':Array GenState} {t':Nat} {d':Drawn} {ch:List Fw} (I:Inv X aa σ H s) (u:Un (frs X.stack) ch H H' s.heap h') (hok:HOk X.prog X.w H' h') (hg:AllBare g')
  (aZ:∀ b∈ch,(b∈X.ex∨X.s₀.heap.objs.size≤b)∧b≠X.env.locals∧(∀ x c,X.env.cells.lookup x=some c→c≠b)∧∀ p∈X.pn++aa,p.1≠b) :
  Inv X aa σ H' { s with heap:=h',gens:=g',drawn:=d',toks:=t' }:=by
 obtain ⟨m,⟨o,es,ep,ho,r⟩,_⟩:=id I.loc
 obtain ⟨sl,hL⟩:=u.any ho I.free fun z=>(aZ _ z).2.1 rfl
 exact I.step (ch:=ch) aZ (fun b o hL hb hc e n=>u.keep b o e n (fun z=>(Z7.mp (I.stkSub b z)).elim hL hb) hc) (fun b o _ _ hc e n=>u.any e n hc) (fun b o hc e n=>u.free b o e n hc) (fun b o hc e=>u.there b o e hc) u.tups u.frzs u.tbls (fun m' hm=>by
  obtain ⟨o',aq,gO,bM,r'⟩:=hm
  rw [ho] at bM;cases bM
  exact ⟨_,aq,gO,hL,r'⟩) hok hg
theorem Inv.turned {t':Nat} {it:Fw} (I:Inv X aa σ H s) (k:∀ b o,b≠it→s.heap.get? b=some o→h'.get? b=some o) (hn:H it=none) (hL:it≠X.env.locals)
  (h1:it∈X.ex∨X.s₀.heap.objs.size≤it) (h2:∀ x c,X.env.cells.lookup x=some c→c≠it) (h3:∀ p∈X.pn++aa,p.1≠it):Inv X aa σ H { s with heap:=h',toks:=t' }:=by
 have dR:∀ b u,H b=some u→b≠it:=fun b u e z=>by rw [z,hn] at e;cases e
 refine I.step (g':=s.gens) (d':=s.drawn) (ch:=[it]) (fun b hb=>?_) (fun b o _ _ hc e _=>k b o (fun z=>hc (by simp [z])) e) (fun b o _ _ hc e _=>⟨o.slots,k b o (fun z=>hc (by simp [z])) e⟩) (fun _ _ _ _ n=>n)
  (fun b o hc e=>⟨o,k b o (fun z=>hc (by simp [z])) e⟩) (fun _ _ e=>e) (fun _ _ _ e=>e) (fun _ _ e=>e) (fun m hm=>?_) (fun b u e=>?_) I.bare
 ·have e:b=it:=by simpa using hb
  subst e
  exact ⟨h1,hL,h2,h3⟩
 ·obtain ⟨o,es,ep,ho,r⟩:=hm
  exact ⟨o,es,ep,k _ o (Zc9 hL) ho,r⟩
 ·refine (I.hok b u e).stay (fun c v hc q=>k c v ?_ q) (fun _ q=>q) fun _ _ q=>q
  rcases hc with z | z
  ·rw [z];exact dR b u e
  ·exact dR c _ z
theorem Inv.tok (I:Inv X aa σ H s) (t:Nat):Inv X aa σ H { s with toks:=t }:=I.un (h':=s.heap) (t':=t) Un.refl I.hok
theorem Inv.kept {t':Nat} (I:Inv X aa σ H s) (k:∀ b u,s.heap.get? b=some u→h'.get? b=some u):Inv X aa σ H { s with heap:=h',toks:=t' }:=I.un (Un.kept k) (I.hok.kept k)
theorem Inv.laid {a:Fw} {o:HO} {t':Nat} (I:Inv X aa σ H s) (k:∀ b u,s.heap.get? b=some u→h'.get? b=some u) (hp:s.heap.objs.size≤a) (new:ObjOk X.prog X.w (upd H a o) h' a o) :
  Inv X aa σ (upd H a o) { s with heap:=h',toks:=t' }:=I.un (Un.laid k hp (I.hok.fresh hp)) (I.hok.laid k hp new)
theorem Inv.write {x e:Fw} {o:HO} {t':Nat} (I:Inv X aa σ H s) (mu:Mut (H x)) (he:e=x∨H e=some (.own x)) (k:∀ b u,b≠e→s.heap.get? b=some u→h'.get? b=some u) (dD:∃ u,h'.get? e=some u)
  (new:ObjOk X.prog X.w (upd H x o) h' x o):Inv X aa σ (upd H x o) { s with heap:=h',toks:=t' }:=I.un (Un.write mu he k dD) (I.hok.write mu he k dD new)
theorem Inv.pins_of {cE:List (Fw×Obj)} (I:Inv X aa σ H s) (h:∀ p∈cE,s.heap.get? p.1=some p.2∧H p.1=none∧p.1≠X.env.locals∧p.1∉X.fs∧∀ v,p.2.data≠.cell v):Inv X cE σ H s :=
 ⟨I.ok,I.os,I.bare,I.base,I.loc,I.cell,I.free,I.freeC,fun p hp=>(Zah.mp hp).elim (fun z=>I.pin p (Zad _ z)) (h p),I.hok,I.len⟩
theorem Qpq {N:List Str} (hN:N.Nodup) {i j:Nat} {x:Str} (a:N[i]?=some x) (b:N[j]?=some x):i=j:=by
 obtain ⟨h1,e1⟩:=Ze.mp a
 obtain ⟨h2,e2⟩:=Ze.mp b
 exact (List.getElem_inj hN).mp (e1.trans e2.symm)
theorem Qvz {M:Model} {A:Fv} {E:Fx→Fy→Prop} {i:Nat} {x:Str} {v:V} {u:Fx} {Q:Unit→Fy→Prop} (I:Inv X aa σ H s) (hN:X.N.Nodup) (hi:X.N[i]?=some x) (hx:Loc X.env.scope x) (r:RelV v u)
  (h:∀ s',Inv X aa (σ.set i (some v)) H s'→(∃ a,Heap.SameBut a s.heap s'.heap∧(a=X.env.locals∨X.env.cells.lookup x=some a))→Q () s') (hf:X.fn x=true∨X.env.scope.names.lookup x=some .local:=by first | exact .inl rfl | exact .inr rfl | assumption):wpAny M A (storeName X.env x u) Q E s:=by
 obtain ⟨m,hn,hl⟩:=id I.loc
 have gv:(X.env.scope.kind==.class||(X.env.scope.kind==.module&&X.env.locals != X.env.globals))=false:=by rw [I.ok.kind];rfl
 have dL:i<σ.length:=by rw [I.len];exact (Ze.mp hi).1
 have cne:=I.cne
 have bg:∀ {a:Fw} {h':Fq},(∃ o,s.heap.get? a=some o∧H a=none)→Heap.SameBut a s.heap h'→HOk X.prog X.w H h':=fun {a h'} ha hs b ob e=>by
  obtain ⟨_,_,c7⟩:=ha
  refine (I.hok b ob e).stay (fun c w' hc q=>(hs.2 c ?_).trans q) (fun _ q=>q) fun _ _ q=>q
  rintro rfl
  rcases hc with rfl | hc
  ·rw [c7] at e;cases e
  ·rw [c7] at hc;cases hc
 rcases hx with hk | hk
 ·refine wpAny_storeName_local hk hn (fun h' jN hs=>?_) gv
  obtain ⟨oL,_,_,eG,_⟩:=id hn
  refine h _ ⟨I.ok,I.os,I.bare,⟨fun b o e n hb hx=>?_,fun b o e n hb hx=>?_,I.base.free,fun b o e hx=>?_,I.base.tups,I.base.frzs,I.base.tbls⟩,⟨_,jN,fun j y v' e1 e2 e3=>?_⟩,fun y c e=>?_,I.free,I.freeC,fun p hp=>?_,bg ⟨oL,eG,I.free⟩ hs,by simpa using I.len⟩ ⟨_,hs,.inl rfl⟩
  ·exact (hs.2 b (Zv (Zy (Zj e) I.ok.above))).trans (I.base.keep b o e n hb hx)
  ·obtain ⟨sl,e1⟩:=I.base.slot b o e n hb hx
   exact ⟨sl,(hs.2 b (Zv (Zy (Zj e) I.ok.above))).trans e1⟩
  ·obtain ⟨o',e1⟩:=I.base.there b o e hx
   exact ⟨o',(hs.2 b (Zv (Zy (Zj e) I.ok.above))).trans e1⟩
  ·by_cases hj:j=i
   ·subst hj
    rw [hi] at e1;cases e1
    rw [Zcd dL] at e2
    cases e2
    exact ⟨u,r,.inl ⟨hk,by simp⟩⟩
   ·rw [Zbt (Zc9 hj)] at e2
    obtain ⟨u',r',q⟩:=hl j y v' e1 e2 e3
    refine ⟨u',r',?_⟩
    rcases q with ⟨k,e⟩ | ⟨k,c,e,z⟩
    ·refine .inl ⟨k,?_⟩
     have:y≠x:=fun e=>hj (Qpq hN e1 (e ▸ hi))
     simp [this,e]
    ·exact .inr ⟨k,c,e,z.sameBut hs (cne y c e)⟩
  ·obtain ⟨w',z⟩:=I.cell y c e
   exact ⟨w',z.sameBut hs (cne y c e)⟩
  ·obtain ⟨e,n,ne,nf,d⟩:=I.pin p hp
   exact ⟨(hs.2 p.1 ne).trans e,n,ne,nf,d⟩
 ·have f8:X.fn x=true:=by
   rcases hf with z | z
   ·exact z
   ·rw [z] at hk;cases hk
  obtain ⟨c,hc⟩:=I.ok.has x (.inl hk)
  obtain ⟨w',z⟩:=I.cell x c hc
  refine wpAny_storeName_cell I.ok.kind hk hc z (fun h' cU hs=>?_)
  obtain ⟨oc,hU,g5⟩:=id z
  refine h { s with heap:=h' } ⟨I.ok,I.os,I.bare,⟨fun b o e n hb hx=>?_,fun b o e n hb hx=>?_,I.base.free,fun b o e hx=>?_,I.base.tups,I.base.frzs,I.base.tbls⟩,⟨m,hn.sameBut hs (Zc9 (cne x c hc)),fun j y v' e1 e2 e3=>?_⟩,fun y c' e=>?_,I.free,I.freeC,fun p hp=>?_,bg ⟨oc,hU,(I.freeC x c hc).resolve_right fun z=>by rw [f8] at z;cases z.1⟩ hs,by simpa using I.len⟩ ⟨c,hs,.inr hc⟩
  ·exact (hs.2 b (Zv (Zy (Zj e) (I.ok.cab x c f8 hc)))).trans (I.base.keep b o e n hb hx)
  ·obtain ⟨sl,e1⟩:=I.base.slot b o e n hb hx
   exact ⟨sl,(hs.2 b (Zv (Zy (Zj e) (I.ok.cab x c f8 hc)))).trans e1⟩
  ·obtain ⟨o',e1⟩:=I.base.there b o e hx
   exact ⟨o',(hs.2 b (Zv (Zy (Zj e) (I.ok.cab x c f8 hc)))).trans e1⟩
  ·by_cases hj:j=i
   ·subst hj
    rw [hi] at e1;cases e1
    rw [Zcd dL] at e2
    cases e2
    exact ⟨u,r,.inr ⟨.inl hk,c,hc,cU⟩⟩
   ·rw [Zbt (Zc9 hj)] at e2
    obtain ⟨u',r',q⟩:=hl j y v' e1 e2 e3
    refine ⟨u',r',?_⟩
    rcases q with q | ⟨k,c',e,z'⟩
    ·exact .inl q
    ·refine .inr ⟨k,c',e,z'.sameBut hs ?_⟩
     rintro rfl
     exact hj (Qpq hN e1 (I.ok.inj _ _ _ e hc ▸ hi))
  ·by_cases hcc:c'=c
   ·subst hcc;exact ⟨_,cU⟩
   ·obtain ⟨w2,z2⟩:=I.cell y c' e
    exact ⟨w2,z2.sameBut hs hcc⟩
  ·obtain ⟨e,n,ne,nf,d⟩:=I.pin p hp
   refine ⟨(hs.2 p.1 ?_).trans e,n,ne,nf,d⟩
   intro q
   rw [q,hU] at e
   have q':oc=p.2:=Zo e
   exact d w' (by rw [←q'];exact g5)
theorem Qid {M:Model} {A:Fv} {E:Fx→Fy→Prop} {i:Nat} {x:Str} {v:V} {u:Fx} {Q:Unit→Fy→Prop} (I:Inv X aa σ H s) (hN:X.N.Nodup) (hi:X.N[i]?=some x) (hx:Loc X.env.scope x) (r:RelV v u)
  (h:∀ s',Inv X aa (σ.set i (some v)) H s'→Q () s') (hf:X.fn x=true∨X.env.scope.names.lookup x=some .local:=by first | exact .inl rfl | exact .inr rfl | assumption):wpAny M A (storeName X.env x u) Q E s :=
 Qvz I hN hi hx r (fun s' I' _=>h s' I') hf
theorem Inv.call' {s':Fy} {ch:List Fw} (I:Inv X aa σ H s) (ho:s'.os=s.os) (u:Un (frs X.stack) ch H H' s.heap s'.heap) (hok:HOk X.prog X.w H' s'.heap) (hg:AllBare s'.gens)
  (aZ:∀ b∈ch,(b∈X.ex∨X.s₀.heap.objs.size≤b)∧b≠X.env.locals∧(∀ x c,X.env.cells.lookup x=some c→c≠b)∧∀ p∈X.pn++aa,p.1≠b):Inv X aa σ H' s':=by
 obtain ⟨h',g',d',t',o'⟩:=s'
 have e:o'=s.os:=ho
 subst e
 exact I.call (g':=g') (t':=t') (d':=d') u hok hg aZ
end
abbrev XK:=Fx→Option Fw→Hp→Prop
abbrev St:=List (Option V)
abbrev VK:=V→Hp→Prop
abbrev TE:=St→Hp→VK→Prop
abbrev TT:=St→Hp→(Bool→Hp→Prop)→Prop
abbrev TA:=St→Hp→(List V→Hp→Prop)→Prop
structure Ends where
 nx:St→Hp→Prop
 rt:VK
 bk:St→Hp→Prop:=fun _ _=>False
 ct:St→Hp→Prop:=fun _ _=>False
abbrev TS:=Ends→St→Hp→Prop
def EP (X:Cx) (aa:List (Fw×Obj)) (σ:St) (Q:VK) (u:Fx) (s':Fy):Prop:=∃ v H',Inv X aa σ H' s'∧RelV v u∧Q v H'
def TP (X:Cx) (aa:List (Fw×Obj)) (σ:St) (Q:Bool→Hp→Prop) (b:Bool) (s':Fy):Prop:=∃ H',Inv X aa σ H' s'∧Q b H'
def AP (X:Cx) (aa:List (Fw×Obj)) (σ:St) (Q:List V→Hp→Prop) (us:List Fx) (s':Fy):Prop:=∃ vs H',Inv X aa σ H' s'∧Vals vs us∧Q vs H'
def SP (X:Cx) (aa:List (Fw×Obj)) (D:Ends) (f:Flow) (s':Fy):Prop :=
 match f with
 | .next=>∃ σ' H',Inv X aa σ' H' s'∧D.nx σ' H'
 | .brk=>∃ σ' H',Inv X aa σ' H' s'∧D.bk σ' H'
 | .cont=>∃ σ' H',Inv X aa σ' H' s'∧D.ct σ' H'
 | .ret u=>∃ v σ' H',Inv X aa σ' H' s'∧RelV v u∧D.rt v H'
def PE (X:Cx) (e:Fr) (t:TE):Prop :=
 ∀ (aa:List (Fw×Obj)) (s:Fy) (σ:St) (H:Hp) (Q:VK),Inv X aa σ H s→t σ H Q→wpAny (model X.prog X.w) X.A (eval e X.env) (EP X aa σ Q) X.xe s
def PT (X:Cx) (e:Fr) (t:TT):Prop :=
 ∀ (aa:List (Fw×Obj)) (s:Fy) (σ:St) (H:Hp) (Q:Bool→Hp→Prop),Inv X aa σ H s→t σ H Q→wpAny (model X.prog X.w) X.A (isTrue e X.env (eval e X.env)) (TP X aa σ Q) X.xe s
def PW (X:Cx) (e:Fr) (t:TT):Prop :=
 ∀ (au:Sem Fx) (aa:List (Fw×Obj)) (s:Fy) (σ:St) (H:Hp) (Q:Bool→Hp→Prop),Inv X aa σ H s→t σ H Q→wpAny (model X.prog X.w) X.A (isTrue e X.env au) (TP X aa σ Q) X.xe s
theorem PW.pt {X:Cx} {e:Fr} {t:TT} (h:PW X e t):PT X e t:=h _
def PA (X:Cx) (es:List Fr) (t:TA):Prop :=
 ∀ (pos:Pos) (aa:List (Fw×Obj)) (s:Fy) (σ:St) (H:Hp) (Q:List V→Hp→Prop),Inv X aa σ H s→t σ H Q→wpAny (model X.prog X.w) X.A (spliced (backTo pos (starEach es X.env))) (AP X aa σ Q) X.xe s
def PS (X:Cx) (st:Fs) (t:TS):Prop :=
 ∀ (aa:List (Fw×Obj)) (s:Fy) (σ:St) (H:Hp) (D:Ends),Inv X aa σ H s→t D σ H→wpAny (model X.prog X.w) X.A (exec st X.env) (SP X aa D) X.xe s
def PSs (X:Cx) (st:List Fs) (t:TS):Prop :=
 ∀ (aa:List (Fw×Obj)) (s:Fy) (σ:St) (H:Hp) (D:Ends),Inv X aa σ H s→t D σ H→wpAny (model X.prog X.w) X.A (execs st X.env) (SP X aa D) X.xe s
theorem thn {α:Type} {t:Sem α} {Q Q':α→Fy→Prop} {M:Model} {A:Fv} {E:Fx→Fy→Prop} {s:Fy} (h:wpAny M A t Q E s) (hQ:∀ a s,Q a s→Q' a s):wpAny M A t Q' E s:=Zbl h hQ fun _ _ x=>x
section
variable {X:Cx}
theorem bin {a b:Fr} {ta tb:TE} (ha:PE X a ta) (hb:PE X b tb) {aa:List (Fw×Obj)} {s:Fy} {σ:St} {H:Hp} {R:V→V→Hp→Prop} (I:Inv X aa σ H s) (h:ta σ H fun x H1=>tb σ H1 fun y H2=>R x y H2)
  {α:Type} {Q:α→Fy→Prop} {f:Fx→Fx→Sem α}
  (hf:∀ v u s2 x y H2,Inv X aa σ H2 s2→RelV x v→RelV y u→R x y H2→wpAny (model X.prog X.w) X.A (f v u) Q X.xe s2) :
  wpAny (model X.prog X.w) X.A (eval a X.env) (fun v s₁=>wpAny (model X.prog X.w) X.A (eval b X.env) (fun u s₂=>wpAny (model X.prog X.w) X.A (f v u) Q X.xe s₂) X.xe s₁) X.xe s:=by
 refine thn (ha aa s σ H _ I h) fun v s1 ⟨x,H1,I1,r1,q1⟩=>?_
 refine thn (hb aa s1 σ H1 _ I1 q1) fun u s2 ⟨y,H2,I2,r2,q2⟩=>?_
 exact hf v u s2 x y H2 I2 r1 r2 q2
abbrev Qch (i:Nat):TE:=fun σ H Q=>∃ v,σ[i]?=some (some v)∧Q v H
abbrev tC (v:V):TE:=fun _ H Q=>Q v H
theorem Q6h {i:Nat} {x:Str} {pos:Pos} (hN:X.N[i]?=some x) (hv:Vis X.env.scope x) (hd:(x==("__debug__" : Str))=false:=by decide) (aT:(x==("__classdict__" : Str))=false:=by decide):PE X (.Name x pos) (Qch i):=by
 intro aa s σ H Q I h
 obtain ⟨v,e,h⟩:=h
 obtain ⟨m,hn,hl⟩:=I.loc
 obtain ⟨u,r,l⟩:=hl i x v hN e hv
 have fin:EP X aa σ Q u s:=⟨v,H,I,r,h⟩
 rcases l with ⟨hk,hm⟩ | ⟨hk,c,hc,cJ⟩
 ·exact wpAny_Name (wpAny_loadName_local I.ok.kind hk hn hm fin) hd
 ·rcases hk with hk | hk
  ·exact wpAny_Name (wpAny_loadName_cell I.ok.kind hk hc cJ fin) hd
  ·exact wpAny_Name (wpAny_loadName_free I.ok.kind hk hc cJ fin aT) hd
theorem Q6i {i j pos}:PE X (.Constant (.int i) j pos) (tC (.int i)):=fun _ _ _ H _ I h=>wpAny_Constant_int ⟨.int i,H,I.tok _,⟨_,rfl⟩,h⟩
theorem Qaae {b j pos}:PE X (.Constant (.bool b) j pos) (tC (.bl b)):=fun _ _ _ H _ I h=>Constant_bool ⟨.bl b,H,I,rfl,h⟩
theorem Q6j {j pos}:PE X (.Constant .none j pos) (tC .non):=fun _ _ _ H _ I h=>Constant_none ⟨.non,H,I,rfl,h⟩
def Gl (X:Cx) (x:Str):Prop:=X.env.kindOf x=some .globalImplicit
theorem Qn3 {E:Fx→Fy→Prop} {aa:List (Fw×Obj)} {s:Fy} {σ:St} {H:Hp} {x:Str} {u:Fx} {pos:Pos} {Q:Fx→Fy→Prop} (I:Inv X aa σ H s) (hg:Gl X x) (hm:X.mg x=some u) (h:Q u s)
  (hd:(x==("__debug__" : Str))=false:=by decide):wpAny (model X.prog X.w) X.A (eval (.Name x pos) X.env) Q E s :=
 Zdv I.ok.kind hg (Calls.loadGlobal_global (by rw [I.ok.glob];exact I.mod.glob.keeps I.bk) hm h) hd
theorem Qjd {E:Fx→Fy→Prop} {aa:List (Fw×Obj)} {s:Fy} {σ:St} {H:Hp} {x:Str} {u:Fx} {pos:Pos} {Q:Fx→Fy→Prop} (I:Inv X aa σ H s) (hg:Gl X x) (hm:X.mg x=none) (hv:bootBuiltins x=some u) (h:Q u s)
  (hn:x ≠ "__name__" := by decide) (hd:(x==("__debug__" : Str))=false:=by decide):wpAny (model X.prog X.w) X.A (eval (.Name x pos) X.env) Q E s:=by
 obtain ⟨mb,h1,h2⟩:=I.mod.blt
 exact Zdv I.ok.kind hg (Calls.loadGlobal_builtin (by rw [I.ok.glob];exact I.mod.glob.keeps I.bk) hm (by rw [I.ok.blt];exact h1.keeps I.bk) ((h2 x hn).trans hv) h) hd
theorem Q1z {x:Str} {v:V} {u:Fx} {pos:Pos} (hg:Gl X x) (hm:X.mg x=some u) (r:RelV v u) (hd:(x==("__debug__" : Str))=false:=by decide):PE X (.Name x pos) (tC v) :=
 fun _ _ _ H _ I h=>Qn3 I hg hm ⟨v,H,I,r,h⟩ hd
theorem Q10 {x:Str} {v:V} {u:Fx} {pos:Pos} (hg:Gl X x) (hm:X.mg x=none) (hv:bootBuiltins x=some u) (r:RelV v u) (hn:x ≠ "__name__" := by decide) (hd:(x==("__debug__" : Str))=false:=by decide):PE X (.Name x pos) (tC v) :=
 fun _ _ _ H _ I h=>Qjd I hg hm hv ⟨v,H,I,r,h⟩ hn hd
variable {a b:Fr} {ta tb:TE} {pos:Pos}
def PC (X:Cx) (op:CmpOp) (a b:Fr) (t:TE):Prop :=
 ∀ (aa:List (Fw×Obj)) (s:Fy) (σ:St) (H:Hp) (Q:VK),Inv X aa σ H s→t σ H Q →
  wpAny (model X.prog X.w) X.A (eval a X.env) (fun v s₁=>wpAny (model X.prog X.w) X.A (eval b X.env) (fun u s₂=>wpAny (model X.prog X.w) X.A (compareOp op v u) (EP X aa σ Q) X.xe s₂) X.xe s₁) X.xe s
theorem Qxh (b:Fr) {op:CmpOp} (h:op≠.In) (h2:op≠.NotIn):behindInMarks op b=false:=by
 have e1:(op==CmpOp.In)=false:=by cases op <;> first | rfl | exact absurd rfl h
 have e2:(op==CmpOp.NotIn)=false:=by cases op <;> first | rfl | exact absurd rfl h2
 cases b <;> simp [behindInMarks,e1,e2]
abbrev tB (t:TE):TT:=fun σ H Q=>t σ H fun x H1=>∃ c,x=.bl c∧Q c H1
theorem pt_cmp {op:CmpOp} {t:TE} (h:PC X op a b t) (h1:behindInMarks op b=false:=by first | exact Qxh _ (by decide) (by decide) | rfl):PT X (.Compare a [op] [b] pos) (tB t):=by
 intro aa s σ H Q I hw
 refine Zev (thn (h aa s σ H _ I hw) fun v s1 h1=>thn h1 fun u s2 h2=>thn h2 fun c s3 ⟨x,H1,I1,r1,q1⟩=>?_) h1
 obtain ⟨d,rfl,q⟩:=q1
 cases r1
 exact Zbh ⟨H1,I1,q⟩
theorem Q6k {e:Fr} {t:TE} (h:PE X e t) (he:∀ au,isTrue e X.env au=(do let v ← au;standAt e.pos;holding [v] (truthy v)):=by intro _;rfl):PT X e (tB t):=by
 intro aa s σ H Q I hw
 refine isTrue_plain (thn (h aa s σ H _ I hw) fun v s1 ⟨x,H1,I1,r1,q1⟩=>?_) (he _)
 obtain ⟨d,rfl,q⟩:=q1
 cases r1
 exact Zbh ⟨H1,I1,q⟩
variable {tA cr:TT} {rest:List Fr}
abbrev tAnd (t u:TT):TT:=fun σ H Q=>t σ H fun c H1=>if c=true then u σ H1 Q else Q false H1
abbrev tOr (t u:TT):TT:=fun σ H Q=>t σ H fun c H1=>if c=true then Q true H1 else u σ H1 Q
abbrev tNot (t:TT):TT:=fun σ H Q=>t σ H fun c H1=>Q (!c) H1
theorem Q11 (ha:PT X a tA):PW X (.BoolOp .And [a] pos) tA:=by
 intro wh aa s σ H Q I h
 refine isTrue_and (thn (ha aa s σ H Q I h) fun c s1 e=>?_)
 cases c with
 | true=>exact isTrue_and_nil e
 | false=>exact e
theorem Q6l (ha:PT X a tA):PW X (.BoolOp .Or [a] pos) tA:=by
 intro wh aa s σ H Q I h
 refine isTrue_or (thn (ha aa s σ H Q I h) fun c s1 e=>?_)
 cases c with
 | false=>exact isTrue_or_nil e
 | true=>exact e
theorem Q6m (ha:PT X a tA) (hb:PW X (.BoolOp .And (b::rest) pos) cr):PW X (.BoolOp .And (a::b::rest) pos) (tAnd tA cr):=by
 intro wh aa s σ H Q I h
 refine isTrue_and (thn (ha aa s σ H _ I h) fun c s1 ⟨H1,I1,q1⟩=>?_)
 cases c with
 | true=>exact hb wh aa s1 σ H1 Q I1 q1
 | false=>exact ⟨H1,I1,q1⟩
theorem Qaah (ha:PT X a tA) (hb:PW X (.BoolOp .Or (b::rest) pos) cr):PW X (.BoolOp .Or (a::b::rest) pos) (tOr tA cr):=by
 intro wh aa s σ H Q I h
 refine isTrue_or (thn (ha aa s σ H _ I h) fun c s1 ⟨H1,I1,q1⟩=>?_)
 cases c with
 | true=>exact ⟨H1,I1,q1⟩
 | false=>exact hb wh aa s1 σ H1 Q I1 q1
theorem Q6n (ha:PT X a tA):PT X (.UnaryOp .Not a pos) (tNot tA):=by
 intro aa s σ H Q I h
 exact isTrue_not (ha aa s σ H (fun c H1=>Q (!c) H1) I h)
abbrev Q4y (ta tb:TE):TE:=fun σ H Q=>ta σ H fun x H1=>∃ c,x=.bl c∧if c=true then tb σ H1 Q else Q (.bl false) H1
abbrev tOrV (ta tb:TE):TE:=fun σ H Q=>ta σ H fun x H1=>∃ c,x=.bl c∧if c=true then Q (.bl true) H1 else tb σ H1 Q
abbrev Q4z (ta:TE):TE:=fun σ H Q=>ta σ H fun x H1=>∃ c,x=.bl c∧Q (.bl (!c)) H1
theorem Q6o {op} {t:TE} (h:PE X a t):PE X (.BoolOp op [a] pos) t:=fun aa s σ H Q I hw=>BoolOp_one (h aa s σ H Q I hw)
theorem Q6p (ha:PE X a ta) (hb:PE X (.BoolOp .And (b::rest) pos) tb):PE X (.BoolOp .And (a::b::rest) pos) (Q4y ta tb):=by
 intro aa s σ H Q I h
 refine BoolOp_and (thn (ha aa s σ H _ I h) fun v s1 ⟨x,H1,I1,r1,q1⟩=>?_)
 obtain ⟨c,rfl,q1⟩:=q1
 cases r1
 refine Zbh ?_
 cases c with
 | true=>exact hb aa s1 σ H1 Q I1 q1
 | false=>exact ⟨.bl false,H1,I1,rfl,q1⟩
theorem Qaaj (ha:PE X a ta) (hb:PE X (.BoolOp .Or (b::rest) pos) tb):PE X (.BoolOp .Or (a::b::rest) pos) (tOrV ta tb):=by
 intro aa s σ H Q I h
 refine BoolOp_or (thn (ha aa s σ H _ I h) fun v s1 ⟨x,H1,I1,r1,q1⟩=>?_)
 obtain ⟨c,rfl,q1⟩:=q1
 cases r1
 refine Zbh ?_
 cases c with
 | false=>exact hb aa s1 σ H1 Q I1 q1
 | true=>exact ⟨.bl true,H1,I1,rfl,q1⟩
theorem Q6q (ha:PE X a ta):PE X (.UnaryOp .Not a pos) (Q4z ta):=by
 intro aa s σ H Q I h
 refine UnaryOp_ (thn (ha aa s σ H _ I h) fun v s1 ⟨x,H1,I1,r1,q1⟩=>?_)
 obtain ⟨c,rfl,q1⟩:=q1
 cases r1
 exact not_of (Zbh ⟨.bl (!c),H1,I1,rfl,q1⟩)
end
def SqL (K:Fz) (H:Hp) (a:Fw) (xs:List V):Prop :=
 Rd H a (.lst xs) ∨
  ∃ (o:Obj) (ac:Array Fx) (n:Nat),K.lookup a=some o∧o.cls=.type "list" ∧ o.dict=none∧o.data=.seq ac n∧ac.size≤sizeLine∧Vals xs ac.toList
def SqT (K:Fz) (H:Hp) (a:Fw) (xs:List V):Prop :=
 Rd H a (.tup xs) ∨
  ∃ (o:Obj) (ac:Array Fx) (n:Nat),K.lookup a=some o∧o.cls=.type "tuple" ∧ o.data=.seq ac n∧ac.size≤sizeLine∧Vals xs ac.toList
def absV:Fx→Option V
 | .none=>some .non
 | .bool b=>some (.bl b)
 | .int i _=>some (.int i)
 | .str x _=>some (.str x)
 | .bytes b _=>some (.byt b)
 | .float b _=>some (.flt b)
 | .ref a=>some (.ref a)
 | .type n=>some (.ty n)
 | _=>none
theorem RelV.abs {x:V} {u:Fx} (r:RelV x u):absV u=some x:=by
 cases x with
 | non=>cases r;rfl
 | bl _=>cases r;rfl
 | int _=>obtain ⟨t,rfl⟩:=r;rfl
 | str _=>obtain ⟨t,rfl⟩:=r;rfl
 | byt _=>obtain ⟨t,rfl⟩:=r;rfl
 | flt _=>obtain ⟨t,rfl⟩:=r;rfl
 | ref _=>cases r;rfl
 | ty _=>cases r;rfl
theorem RelV.inj {x y:V} {u:Fx} (r:RelV x u) (q:RelV y u):x=y:=Zo (r.abs.symm.trans q.abs)
theorem Vals.inj:∀ {xs ys:List V} {us:List Fx},Vals xs us→Vals ys us→xs=ys
 | _,_,_,.nil,.nil=>rfl
 | _,_,_,.cons r t,.cons r' t'=>by rw [r.inj r',Vals.inj t t']
section
variable {X:Cx} {aa:List (Fw×Obj)} {σ:St} {H:Hp} {s:Fy} {a:Fw} {xs ys:List V}
theorem SqL.of {K:Fz} (h:H a=some (.lst xs)):SqL K H a xs:=.inl (.inl h)
theorem SqT.of {K:Fz} (h:H a=some (.tup xs)):SqT K H a xs:=.inl (.inl h)
theorem Inv.list (I:Inv X aa σ H s) (h:SqL X.K H a xs):∃ ac:List Fx,Vals xs ac∧PlainL s.heap a ac.toArray∧xs.length≤sizeLine:=by
 rcases h with h | ⟨o,ac,n,hk,hc,hd,hs,hz,r⟩
 ·obtain ⟨z,ac,n,r,e⟩:=h.ok I.hok
  exact ⟨ac,r,⟨_,n,e,rfl,rfl,rfl⟩,z⟩
 ·refine ⟨ac.toList,r,⟨o,n,I.kIn a o hk,hc,hd,by simpa using hs⟩,?_⟩
  have e:=r.length
  simp only [Zz] at e
  omega
theorem Inv.tuple (I:Inv X aa σ H s) (h:SqT X.K H a xs):∃ ac:List Fx,Vals xs ac∧IsTup s.heap a ac.toArray∧xs.length≤sizeLine:=by
 rcases h with h | ⟨o,ac,n,hk,hc,hs,hz,r⟩
 ·obtain ⟨z,ac,r,p⟩:=h.ok I.hok
  exact ⟨ac,r,p.tup,z⟩
 ·refine ⟨ac.toList,r,⟨o,I.kIn a o hk,hc,n,by simpa using hs⟩,?_⟩
  have e:=r.length
  simp only [Zz] at e
  omega
theorem Inv.list_inj (I:Inv X aa σ H s) (h:SqL X.K H a xs) (h':SqL X.K H a ys):xs=ys:=by
 obtain ⟨ac,r,⟨o,n,e,_,_,d⟩,_⟩:=I.list h
 obtain ⟨its',r',⟨o',n',e',_,_,d'⟩,_⟩:=I.list h'
 rw [e] at e';cases e'
 rw [d] at d'
 injection d' with d1 _
 have:ac=its':=by simpa using congrArg Array.toList d1
 subst this
 exact r.inj r'
theorem Inv.tuple_inj (I:Inv X aa σ H s) (h:SqT X.K H a xs) (h':SqT X.K H a ys):xs=ys:=by
 obtain ⟨ac,r,⟨o,e,_,n,d⟩,_⟩:=I.tuple h
 obtain ⟨its',r',⟨o',e',_,n',d'⟩,_⟩:=I.tuple h'
 rw [e] at e';cases e'
 rw [d] at d'
 injection d' with d1 _
 have:ac=its':=by simpa using congrArg Array.toList d1
 subst this
 exact r.inj r'
end
abbrev Cx.wish (X:Cx) (E:Fx→Fy→Prop):Cx:={ X with xe:=E }
abbrev Cx.nox (X:Cx):Cx:=X.wish fun _ _=>False
theorem Cx.Ok.wish {X:Cx} (ok:X.Ok) (E:Fx→Fy→Prop):(X.wish E).Ok :=
 ⟨ok.mod,ok.kind,ok.glob,ok.blt,ok.above,ok.inj,ok.has,ok.cab,ok.hd,ok.frames,ok.stk,ok.exf,ok.bs,ok.bsz,ok.noex,ok.exfs,ok.funs,ok.frf⟩
theorem Cx.Ok.unwish {X:Cx} {E:Fx→Fy→Prop} (ok:(X.wish E).Ok):X.Ok :=
 ⟨ok.mod,ok.kind,ok.glob,ok.blt,ok.above,ok.inj,ok.has,ok.cab,ok.hd,ok.frames,ok.stk,ok.exf,ok.bs,ok.bsz,ok.noex,ok.exfs,ok.funs,ok.frf⟩
section
variable {X:Cx} {aa:List (Fw×Obj)} {σ:St} {H:Hp} {s:Fy} {E:Fx→Fy→Prop}
theorem Inv.wish (I:Inv X aa σ H s) (E:Fx→Fy→Prop):Inv (X.wish E) aa σ H s:=⟨I.ok.wish E,I.os,I.bare,I.base,I.loc,I.cell,I.free,I.freeC,I.pin,I.hok,I.len⟩
theorem Inv.unwish (I:Inv (X.wish E) aa σ H s):Inv X aa σ H s:=⟨I.ok.unwish,I.os,I.bare,I.base,I.loc,I.cell,I.free,I.freeC,I.pin,I.hok,I.len⟩
theorem SP.unwish {D:Ends} {f:Flow} {s':Fy} (h:SP (X.wish E) aa D f s'):SP X aa D f s':=by
 cases f with
 | next=>obtain ⟨σ',H',I,q⟩:=h;exact ⟨σ',H',I.unwish,q⟩
 | brk=>obtain ⟨σ',H',I,q⟩:=h;exact ⟨σ',H',I.unwish,q⟩
 | cont=>obtain ⟨σ',H',I,q⟩:=h;exact ⟨σ',H',I.unwish,q⟩
 | ret u=>obtain ⟨v,σ',H',I,r,q⟩:=h;exact ⟨v,σ',H',I.unwish,r,q⟩
theorem PSs.nox {st:List Fs} {t:TS} (h:PSs X.nox st t):PSs X st t:=fun aa s σ H D I hw =>
 Zbl (h aa s σ H D (I.wish _) hw) (fun _ _ q=>q.unwish) fun _ _ z=>Zfb z
end
section
variable {X:Cx} {st:Fs} {rest:List Fs} {t u:TS} {e:Fr} {te:TE} {pos:Pos}
abbrev Qpr:TS:=fun D σ H=>D.nx σ H
abbrev Qgr (t u:TS):TS:=fun D σ H=>t { D with nx:=u D } σ H
theorem Q12:PSs X [] Qpr:=fun _ _ σ H _ I h=>Zdh ⟨σ,H,I,h⟩
theorem Qxi (h1:PS X st t) (h2:PSs X rest u):PSs X (st::rest) (Qgr t u):=by
 intro aa s σ H D I h
 refine wpAny_execs_cons (thn (h1 aa s σ H { D with nx:=u D } I h) fun f s1 q=>?_)
 cases f with
 | next =>
  obtain ⟨σ',H',I',q⟩:=q
  exact h2 aa s1 σ' H' D I' q
 | ret v=>exact q
 | brk=>exact q
 | cont=>exact q
theorem Q13 (h1:PS X st t):PSs X [st] t:=by
 intro aa s σ H D I h
 refine wpAny_execs_cons (thn (h1 aa s σ H D I h) fun f s1 q=>?_)
 cases f with
 | next=>exact Zdh q
 | ret v=>exact q
 | brk=>exact q
 | cont=>exact q
theorem Inv.quiet {aa:List (Fw×Obj)} {σ:St} {H:Hp} {s:Fy} (I:Inv X aa σ H s):interactive X.env=false:=by simp [interactive,I.ok.kind]
abbrev Qgs (te:TE):TS:=fun D σ H=>te σ H fun _ H1=>D.nx σ H1
theorem Q14 (he:PE X e te) (hs:swapsWith e none pos.line X.env=pure false:=by rfl):PS X (.Expr e pos) (Qgs te):=by
 intro aa s σ H D I h
 exact wpAny_Expr_any (thn (he aa s σ H _ I h) fun v s1 ⟨x,H1,I1,r1,q1⟩=>⟨σ,H1,I1,q1⟩) I.quiet hs
abbrev Q6r (te:TE):TS:=fun D σ H=>te σ H D.rt
theorem Q6s (he:PE X e te):PS X (.Return (some e) pos) (Q6r te):=by
 intro aa s σ H D I h
 exact wpAny_Return_some (thn (he aa s σ H _ I h) fun v s1 ⟨x,H1,I1,r1,q1⟩=>⟨x,σ,H1,I1,r1,q1⟩)
abbrev Qxj (c:TT) (t u:TS):TS:=fun D σ H=>c σ H fun b H1=>if b=true then t D σ H1 else u D σ H1
theorem Qaak {c:Fr} {a b:List Fs} {tc:TT} (hc:PT X c tc) (ha:PSs X a t) (hb:PSs X b u):PS X (.If c a b pos) (Qxj tc t u):=by
 intro aa s σ H D I h
 refine wpAny_If (thn (hc aa s σ H _ I h) fun d s1 ⟨H1,I1,q1⟩=>?_)
 cases d with
 | true=>exact ha aa s1 σ H1 D I1 q1
 | false=>exact hb aa s1 σ H1 D I1 q1
end
abbrev TG:=V→St→Hp→(St→Hp→Prop)→Prop
abbrev TGs:=List V→St→Hp→(St→Hp→Prop)→Prop
def PG (X:Cx) (aI:Fr) (t:TG):Prop :=
 ∀ (aa:List (Fw×Obj)) (s:Fy) (σ:St) (H:Hp) (v:V) (u:Fx) (Q:St→Hp→Prop),Inv X aa σ H s→RelV v u→t v σ H Q →
  wpAny (model X.prog X.w) X.A (assign aI X.env u) (fun _ s'=>∃ σ' H',Inv X aa σ' H' s'∧Q σ' H') X.xe s
def PGs (X:Cx) (ts:List Fr) (t:TGs):Prop :=
 ∀ (aa:List (Fw×Obj)) (s:Fy) (σ:St) (H:Hp) (vs:List V) (us:List Fx) (Q:St→Hp→Prop),Inv X aa σ H s→Vals vs us→t vs σ H Q →
  wpAny (model X.prog X.w) X.A (assignInOrder ((assignEach ts X.env).map (·.2)) us) (fun _ s'=>∃ σ' H',Inv X aa σ' H' s'∧Q σ' H') X.xe s
abbrev Q6t:=V→V→V→Hp→(Hp→Prop)→Prop
def PSet (X:Cx) (t:Q6t):Prop :=
 ∀ (aa:List (Fw×Obj)) (s:Fy) (σ:St) (H:Hp) (o i v:V) (ov iv u:Fx) (Q:Hp→Prop),Inv X aa σ H s→RelV o ov→RelV i iv→RelV v u→t o i v H Q →
  wpAny (model X.prog X.w) X.A (setItem ov iv u) (fun _ s'=>∃ H',Inv X aa σ H' s'∧Q H') X.xe s
section
variable {X:Cx} {pos:Pos}
abbrev Qcr (i:Nat):TG:=fun v σ H Q=>Q (σ.set i (some v)) H
theorem Q15 {i:Nat} {x:Str} (hN:X.N.Nodup) (hi:X.N[i]?=some x) (hx:Loc X.env.scope x) (hf:X.fn x=true∨X.env.scope.names.lookup x=some .local:=by first | exact .inl rfl | exact .inr rfl | assumption):PG X (.Name x pos) (Qcr i):=by
 intro aa s σ H v u Q I r h
 exact wpAny_assign_Name (Qid I hN hi hx r (fun s' I'=>⟨_,H,I',h⟩) hf)
abbrev Q6u:TGs:=fun vs σ H Q=>vs=[]∧Q σ H
abbrev Qxk (t:TG) (u:TGs):TGs:=fun vs σ H Q=>∃ v r,vs=v::r∧t v σ H fun σ' H'=>u r σ' H' Q
theorem Q16:PGs X [] Q6u:=by
 intro aa s σ H vs us Q I r h
 obtain ⟨e,h⟩:=h
 subst e
 cases r
 exact assignInOrder_nil ⟨σ,H,I,h⟩
theorem Qxl {e:Fr} {es:List Fr} {t:TG} {u:TGs} (h1:PG X e t) (h2:PGs X es u)
  (hs:(assignEach (e::es) X.env).map (·.2)=assign e X.env::(assignEach es X.env).map (·.2):=by rfl):PGs X (e::es) (Qxk t u):=by
 intro aa s σ H vs us Q I r h
 obtain ⟨v,vr,e1,h⟩:=h
 subst e1
 cases r with
 | cons r rr =>
  rw [hs]
  refine Zdt (thn (h1 aa s σ H _ _ _ I r h) fun _ s1 ⟨σ1,H1,I1,q1⟩=>?_)
  exact h2 aa s1 σ1 H1 _ _ Q I1 rr q1
def Q17 (K:Fz) (n:Nat) (t:TGs):TG:=fun v σ H Q=>∃ a xs,v=.ref a∧SqT K H a xs∧xs.length=n∧t xs σ H Q
theorem Q6v {es:List Fr} {k:Nat} {t:TGs} {n:Nat} (hc:X.calm=true) (h:PGs X es t)
  (hn:(assignEach es X.env).length=n:=by rfl) (eJ:(assignEach es X.env).findIdx? (·.1)=none:=by rfl):PG X (.Tuple es k pos) (Q17 X.K n t):=by
 intro aa s σ H v u Q I r hw
 obtain ⟨a,xs,e1,hq,hl,hw⟩:=hw
 subst e1
 cases r
 obtain ⟨ac,rv,ht,hz⟩:=I.tuple hq
 refine assign_Tuple_tuple (I.ok.hd hc) ht (by simp [hn,←hl,rv.length]) eJ fun h' hx=>?_
 have I1:Inv X aa σ H { s with heap:=h' }:=I.kept (t':=s.toks) fun b o e=>hx b o (Zv (Zj e)) e
 exact h aa _ σ H xs _ Q I1 (by simpa using rv) hw
abbrev Qps (to ti:TE) (t:Q6t):TG:=fun v σ H Q=>to σ H fun o H1=>ti σ H1 fun i H2=>t o i v H2 fun H3=>Q σ H3
theorem Q6w {o i:Fr} {to ti:TE} {t:Q6t} (ho:PE X o to) (hi:PE X i ti) (hs:PSet X t)
  (ha:∀ v,assign (.Subscript o i pos) X.env v=(do
   let ov ← holding [v] (eval o X.env)
   let iv ← holding [v,ov] (eval i X.env)
   standAt pos
   holding [v,ov,iv] (setItem ov iv v)
   release [v,ov,iv] []):=by intro _;rfl):PG X (.Subscript o i pos) (Qps to ti t):=by
 intro aa s σ H v u Q I r h
 rw [ha]
 refine Zc (Zcg (thn (ho aa s σ H _ I h) fun ov s1 ⟨x,H1,I1,r1,q1⟩=>?_))
 refine Zc (Zcg (thn (hi aa s1 σ H1 _ I1 q1) fun iv s2 ⟨y,H2,I2,r2,q2⟩=>?_))
 refine Zc (Zea (Zc (Zcg (thn (hs aa s2 σ H2 x y v ov iv u _ I2 r1 r2 r q2) fun _ s3 ⟨H3,I3,q3⟩=>?_))))
 exact wpAny_release ⟨σ,H3,I3,q3⟩
abbrev Qh1 (te:TE) (g:TG):TS:=fun D σ H=>te σ H fun x H1=>g x σ H1 D.nx
theorem Q6x {tg e:Fr} {te:TE} {g:TG} (he:PE X e te) (hg:PG X tg g) (hs:swapsWithSole [tg] e pos.line X.env=pure false:=by rfl) (hw:swappedStores [tg] e X.env=pure none:=by rfl)
  (h1:(assignEach [tg] X.env).map (·.2)=[assign tg X.env]:=by rfl):PS X (.Assign [tg] e pos) (Qh1 te g):=by
 intro aa s σ H D I h
 refine wpAny_Assign_stores (thn (he aa s σ H _ I h) fun v s1 ⟨x,H1,I1,r1,q1⟩=>?_) hs hw
 rw [h1]
 exact thn (hg aa s1 σ H1 x v _ I1 r1 q1) fun _ s2 q=>q
theorem Q6y {i:Nat} {x:Str} {e:Fr} {te:TE} {bW:Pos} (hN:X.N.Nodup) (hi:X.N[i]?=some x) (hx:Loc X.env.scope x) (he:PE X e te) (hs:swapsWith e (some (.Name x bW)) pos.line X.env=pure false:=by rfl) (hf:X.fn x=true∨X.env.scope.names.lookup x=some .local:=by first | exact .inl rfl | exact .inr rfl | assumption) :
  PS X (.Assign [.Name x bW] e pos) (Qh1 te (Qcr i)):=by
 intro aa s σ H D I h
 refine wpAny_Assign_Name (thn (he aa s σ H _ I h) fun v s1 ⟨y,H1,I1,r1,q1⟩=>?_) hs
 exact Qid I1 hN hi hx r1 (fun s2 I2=>⟨_,H1,I2,q1⟩) hf
abbrev Q6z (i j:Nat) (ta:TA):TS:=fun D σ H=>ta σ H fun vs H1=>∃ v w,vs=[v,w]∧D.nx ((σ.set i (some v)).set j (some w)) H1
theorem Q60 {i j:Nat} {x y:Str} {a b:Fr} {ta:TA} {px py pt:Pos} {kt k2 pt2} (hc:X.calm=true) (hN:X.N.Nodup) (hi:X.N[i]?=some x) (hj:X.N[j]?=some y) (cQ:i≠j)
  (hx:X.env.scope.names.lookup x=some .local) (hy:X.env.scope.names.lookup y=some .local) (ha:PA X [a,b] ta)
  (hw:swappedStores [.Tuple [.Name x px,.Name y py] kt pt] (.Tuple [a,b] k2 pt2) X.env=pure (some [x,y]))
  (hs:swapsWithSole [.Tuple [.Name x px,.Name y py] kt pt] (.Tuple [a,b] k2 pt2) pos.line X.env=pure false:=by rfl) :
  PS X (.Assign [.Tuple [.Name x px,.Name y py] kt pt] (.Tuple [a,b] k2 pt2) pos) (Q6z i j ta):=by
 intro aa s σ H D I h
 rw [exec_Assign_arm]
 refine Zc (Zea ?_)
 rw [hs]
 refine Zc (Zs ?_)
 rw [Zd (by decide)]
 refine Zc (Tuple_ (thn (ha _ aa s σ H _ I h) fun us s1 ⟨vs,H1,I1,r1,q1⟩=>?_))
 obtain ⟨v,w,e1,q1⟩:=q1
 subst e1
 obtain ⟨u1,u2,rfl,rv,dS⟩:∃ u1 u2,us=[u1,u2]∧RelV v u1∧RelV w u2:=by
  cases r1 with
  | cons p q =>
   cases q with
   | cons p' q' =>
    cases q'
    exact ⟨_,_,rfl,p,p'⟩
 refine Zag ?_ (by show 2≤sizeLine;decide)
 have I2:Inv X aa σ H1 { s1 with heap:=s1.heap.push { cls:=.type "tuple",data:=.seq [u1,u2].toArray } }:=I1.kept (t':=s1.toks) fun b o e=>Zg _ e
 rw [hw]
 refine Zc (Zs ?_)
 show wpAny (model X.prog X.w) X.A (do rule "assign.swapped-stores";let items ← unpackItems (.ref s1.heap.objs.size) 2 none;assignInOrder [fun v=>bindName X.env y v,fun v=>bindName X.env x v] items.reverse;pure Flow.next) _ _ _
 refine Zc (wpAny_rule (Zc (unpackItems_tuple (items:=#[u1,u2]) (I.ok.hd hc) (IsTup.new s1.heap _) fun h' cM=>?_)))
 have I3:=I2.kept (h':=h') (t':=s1.toks) fun b o e=>cM b o (Zv (Zj e)) e
 show wpAny _ _ (assignInOrder [fun v=>bindName X.env y v,fun v=>bindName X.env x v] [u2,u1] >>= fun _=>pure Flow.next) _ _ _
 refine Zc (Zdt (wpAny_bindName (Qid I3 hN hj (.inl hy) dS (fun s2 I4=>?_) (.inr hy))))
 refine Zdt (wpAny_bindName (Qid I4 hN hi (.inl hx) rv (fun s3 I5=>assignInOrder_nil (Zs ?_)) (.inr hx)))
 rw [List.set_comm _ _ (Zc9 cQ)] at I5
 exact ⟨_,H1,I5,q1⟩
def Qxm (c:TT) (tb:TS):TS:=fun D σ H=>∃ W:Nat→St→Hp→Prop,(∃ m,W m σ H)∧∀ m σ H,W m σ H →
 c σ H fun b H1=>if b=true then ∃ N:St→Hp→Prop,(∀ σ' H',N σ' H'→∃ m',m'<m∧W m' σ' H')∧tb { D with nx:=N,ct:=N,bk:=D.nx } σ H1 else D.nx σ H1
theorem Qxn {c:Fr} {body:List Fs} {tc:TT} {tb:TS} (hp:PassesOwn (model X.prog X.w) X.A X.env X.xe) (hc:PT X c tc) (hb:PSs X body tb):PS X (.While c body [] pos) (Qxm tc tb):=by
 intro aa s σ H D I h
 obtain ⟨W,⟨m0,w0⟩,turn⟩:=h
 refine wpAny_While (codeAny_whileLoop (fun n s'=>∃ σ' H',Inv X aa σ' H' s'∧W n σ' H') ?_ m0 ⟨σ,H,I,w0⟩)
 rintro n s1 ⟨σ1,H1,I1,w1⟩
 refine Zbu hp (thn (hc aa s1 σ1 H1 _ I1 (turn n σ1 H1 w1)) fun b s2 ⟨H2,I2,q2⟩=>?_)
 cases b with
 | true =>
  obtain ⟨N,hN,q2⟩:=q2
  rw [Zb rfl]
  refine Zbu hp (thn (hb aa s2 σ1 H2 _ I2 q2) fun f s3 q3=>?_)
  cases f with
  | next =>
   obtain ⟨σ3,H3,I3,n3⟩:=q3
   obtain ⟨m',hm,w3⟩:=hN σ3 H3 n3
   exact ⟨m',hm,σ3,H3,I3,w3⟩
  | cont =>
   obtain ⟨σ3,H3,I3,n3⟩:=q3
   obtain ⟨m',hm,w3⟩:=hN σ3 H3 n3
   exact ⟨m',hm,σ3,H3,I3,w3⟩
  | brk=>exact q3
  | ret v=>exact q3
 | false =>
  rw [Zd Zk]
  exact Zdh ⟨σ1,H2,I2,q2⟩
end
structure It where
 go:Nat→Hp→Prop
 yld:Nat→Hp→V→Hp→Prop
 stop:Nat→Hp→Prop
def Qgt (X:Cx) (aa:List (Fw×Obj)) (H:Hp) (b:Fw):Prop :=
 H b=none∧b≠X.env.locals∧b∉X.fs∧(b∈X.ex∨X.s₀.heap.objs.size≤b)∧(∀ x c,X.env.cells.lookup x=some c→c≠b)∧∀ p∈X.pn++aa,p.1≠b
theorem Inv.fpOk {X:Cx} {aa:List (Fw×Obj)} {σ:St} {H H':Hp} {s:Fy} {b:Fw} (I:Inv X aa σ H s) (hb:s.heap.objs.size≤b) (hn:H' b=none):Qgt X aa H' b:=by
 refine ⟨hn,Ze8 (Zy I.lt hb),I.nofs hb,.inr (Zav I.sz hb),fun x c e z=>?_,fun p hp z=>?_⟩
 ·obtain ⟨v,q⟩:=I.cell x c e
  exact absurd (Zy q.lt (by rw [z];exact hb)) (Zas _)
 ·exact absurd (Zy (Zj (I.pin p hp).1) (by rw [z];exact hb)) (Zas _)
structure Turn (P:Fu) (w:Ft) (K:Fz) (tg:Fr) (J:It) (fp:List Fw) (it:Fw) (tn:Nat→Fq→Prop):Prop where
 mem:it∈fp
 obj:∀ i h,tn i h→∀ b∈fp,∃ o,h.get? b=some o∧∀ v,o.data≠.cell v
 keep:∀ i h h',tn i h→(∀ b∈fp,∀ o,h.get? b=some o→h'.get? b=some o)→tn i h'
 item:∀ (X:Cx),X.prog=P→X.w=w→X.K=K→X.calm=true→∀ (i:Nat) (aa:List (Fw×Obj)) (s:Fy) (σ:St) (H:Hp) (E:Fx→Fy→Prop),Inv X aa σ H s→(∀ b∈fp,Qgt X aa H b)→tn i s.heap→J.go i H →
  wpAny (model P w) X.A (pyNext (.ref it)) (fun r s1=>∃ u,r=some u ∧
   wpAny (model P w) X.A (letOwnedTupleGo tg (.ref it) u) (fun _ s2=>∃ x H',Inv X aa σ H' s2∧RelV x u∧J.yld i H x H'∧tn (i+1) s2.heap∧∀ b∈fp,H' b=none) E s1) E s
 done:∀ (X:Cx),X.prog=P→X.w=w→X.K=K→X.calm=true→∀ (i:Nat) (aa:List (Fw×Obj)) (s:Fy) (σ:St) (H:Hp) (E:Fx→Fy→Prop),Inv X aa σ H s→(∀ b∈fp,Qgt X aa H b)→tn i s.heap→J.stop i H →
  wpAny (model P w) X.A (pyNext (.ref it)) (fun r s1=>r=none∧Inv X aa σ H s1) E s
 self:∀ (A:Fv) (i:Nat) (s:Fy) (Q:Fx→Fy→Prop) (E:Fx→Fy→Prop),tn i s.heap→Q (.ref it) s→wpAny (model P w) A (pyIter (.ref it)) Q E s
abbrev TI:=St→Hp→(It→Hp→Prop)→Prop
def PIE (X:Cx) (aa:List (Fw×Obj)) (σ:St) (tg:Fr) (R:It→Hp→Prop) (fG:Fx) (s2:Fy):Prop :=
 ∃ (it:Fw) (fp:List Fw) (tn:Nat→Fq→Prop) (J:It) (H':Hp),fG=.ref it∧Inv X aa σ H' s2∧Turn X.prog X.w X.K tg J fp it tn∧tn 0 s2.heap∧(∀ b∈fp,Qgt X aa H' b)∧R J H'
def PI (X:Cx) (tg af:Fr) (wi:TI):Prop :=
 ∀ (aa:List (Fw×Obj)) (s:Fy) (σ:St) (H:Hp) (R:It→Hp→Prop),Inv X aa σ H s→wi σ H R →
  wpAny (model X.prog X.w) X.A (eval af X.env) (fun v s1=>wpAny (model X.prog X.w) X.A (pyIter v) (PIE X aa σ tg R) X.xe s1) X.xe s
theorem Qxo {M:Model} {A:Fv} {E:Fx→Fy→Prop} {s:Fy} {tg:Fr} {it:Fw} {u:Fx} {o:Obj} {n:String} {vs:Array Fx} {Q:Unit→Fy→Prop} (ho:s.heap.get? it=some o) (hc:o.cls=.type n) (hd:o.data=.fields vs)
  (hn:["enumerate","zip","dict_itemiterator","dict_reverseitemiterator","odict_iterator","itertools.zip_longest","itertools.pairwise"].contains n=false) (hQ:Q () s):wpAny M A (letOwnedTupleGo tg (.ref it) u) Q E s:=by
 unfold letOwnedTupleGo
 cases tg <;> first
  | exact Zs hQ
  | (cases u <;> first
    | exact Zs hQ
    | (refine Zc (wpAny_load ho ?_)
       rw [hc,hd]
       show wpAny M A (if (["enumerate","zip","dict_itemiterator","dict_reverseitemiterator","odict_iterator","itertools.zip_longest","itertools.pairwise"].contains n&&vs[0]?==some (rawInt _))=true then _ else _) Q E s
       rw [Zd (by intro h;rw [hn,Zey] at h;cases h)]
       exact Zs hQ))
def Itl (K:Fz) (a:Fw):It :=
 ⟨fun i H=>∃ xs x,SqL K H a xs∧xs[i]?=some x,fun i H x H'=>H'=H∧∀ xs,SqL K H a xs→xs[i]?=some x,fun i H=>∃ xs,SqL K H a xs∧xs.length≤i⟩
def Itt (K:Fz) (a:Fw):It :=
 ⟨fun i H=>∃ xs x,SqT K H a xs∧xs[i]?=some x,fun i H x H'=>H'=H∧∀ xs,SqT K H a xs→xs[i]?=some x,fun i H=>∃ xs,SqT K H a xs∧xs.length≤i⟩
def Itr (lo:Int) (n:Nat):It:=⟨fun i _=>i<n,fun i H x H'=>H'=H∧x=.int (lo+i),fun i _=>n≤i⟩
theorem Qv0 {P:Fu} {w:Ft} {K:Fz} {tg:Fr} (a it:Fw):Turn P w K tg (Itl K a) [it] it (fun i h=>h.IsListIter it a i) where
 mem:=by simp
 obj:=fun i h st b hb=>by
  have e:b=it:=by simpa using hb
  subst e
  obtain ⟨o,e,c,d⟩:=st
  exact ⟨o,e,fun v z=>by rw [d] at z;cases z⟩
 keep:=fun i h h' st k=>st.at fun o e=>k it (by simp) o e
 item:=by
  intro X hP hw hK hc i aa s σ H E I hf st hg
  subst hP hw hK
  obtain ⟨xs,x,hq,hx⟩:=hg
  obtain ⟨ac,rv,p,hz⟩:=I.list hq
  obtain ⟨u,hu,ru⟩:=rv.get hx
  obtain ⟨f0,f1,f2,f3,f4,f5⟩:=hf it (by simp)
  refine wpAny_pyNext_list_item st p.isList (x:=u) (by simpa using hu) fun h' bJ sb=>?_
  have I1:Inv X aa σ H { s with heap:=h' }:=I.turned (t':=s.toks) (fun b o hb e=>(sb.2 b hb).trans e) f0 f1 f3 f4 f5
  obtain ⟨o,e,c,d⟩:=id bJ
  exact ⟨u,rfl,Qxo (s:={ s with heap:=h' }) e c d (by decide) ⟨x,H,I1,ru,⟨rfl,fun ys hy=>by rw [I.list_inj hy hq];exact hx⟩,bJ,fun b hb=>(hf b hb).1⟩⟩
 done:=by
  intro X hP hw hK hc i aa s σ H E I hf st hg
  subst hP hw hK
  obtain ⟨xs,hq,hx⟩:=hg
  obtain ⟨ac,rv,p,hz⟩:=I.list hq
  obtain ⟨f0,f1,f2,f3,f4,f5⟩:=hf it (by simp)
  have hl:=rv.length
  exact wpAny_pyNext_list_end (I.ok.hd hc) st p.isList (by simp;omega) fun h' eb=>⟨rfl,I.turned (t':=s.toks) (fun b o hb e=>eb b o hb e) f0 f1 f3 f4 f5⟩
 self:=fun _ _ _ _ _ st h=>wpAny_pyIter_listiter st h
theorem Qr0 {P:Fu} {w:Ft} {K:Fz} {tg:Fr} (a it:Fw):Turn P w K tg (Itt K a) [it] it (fun i h=>h.IsTupleIter it a i) where
 mem:=by simp
 obj:=fun i h st b hb=>by
  have e:b=it:=by simpa using hb
  subst e
  obtain ⟨o,e,c,d⟩:=st
  exact ⟨o,e,fun v z=>by rw [d] at z;cases z⟩
 keep:=fun i h h' st k=>st.at fun o e=>k it (by simp) o e
 item:=by
  intro X hP hw hK hc i aa s σ H E I hf st hg
  subst hP hw hK
  obtain ⟨xs,x,hq,hx⟩:=hg
  obtain ⟨ac,rv,p,hz⟩:=I.tuple hq
  obtain ⟨u,hu,ru⟩:=rv.get hx
  obtain ⟨f0,f1,f2,f3,f4,f5⟩:=hf it (by simp)
  refine wpAny_pyNext_tuple_item st (show s.heap.IsTuple a ac.toArray from p) (x:=u) (by simpa using hu) fun h' bJ sb=>?_
  have I1:Inv X aa σ H { s with heap:=h' }:=I.turned (t':=s.toks) (fun b o hb e=>(sb.2 b hb).trans e) f0 f1 f3 f4 f5
  obtain ⟨o,e,c,d⟩:=id bJ
  exact ⟨u,rfl,Qxo (s:={ s with heap:=h' }) e c d (by decide) ⟨x,H,I1,ru,⟨rfl,fun ys hy=>by rw [I.tuple_inj hy hq];exact hx⟩,bJ,fun b hb=>(hf b hb).1⟩⟩
 done:=by
  intro X hP hw hK hc i aa s σ H E I hf st hg
  subst hP hw hK
  obtain ⟨xs,hq,hx⟩:=hg
  obtain ⟨ac,rv,p,hz⟩:=I.tuple hq
  obtain ⟨f0,f1,f2,f3,f4,f5⟩:=hf it (by simp)
  have hl:=rv.length
  exact wpAny_pyNext_tuple_end (I.ok.hd hc) st (show s.heap.IsTuple a ac.toArray from p) (by simp;omega) fun h' eb=>⟨rfl,I.turned (t':=s.toks) (fun b o hb e=>eb b o hb e) f0 f1 f3 f4 f5⟩
 self:=fun _ _ _ _ _ st h=>wpAny_pyIter_tupleiter st h
theorem Qr1 {P:Fu} {w:Ft} {K:Fz} {tg:Fr} (it:Fw) (lo:Int) (n:Nat):Turn P w K tg (Itr lo n) [it] it (fun i h=>IsRangeIter h it (lo+(i:Nat)*1) ((n:Int)-(i:Nat)) 1) where
 mem:=by simp
 obj:=fun i h st b hb=>by
  have e:b=it:=by simpa using hb
  subst e
  exact ⟨_,st,fun v z=>by
   have z':Data.fields _=Data.cell v:=z
   cases z'⟩
 keep:=fun i h h' st k=>k it (by simp) _ st
 item:=by
  intro X hP hw hK hc i aa s σ H E I hf st hg
  subst hP hw hK
  obtain ⟨f0,f1,f2,f3,f4,f5⟩:=hf it (by simp)
  have W:=Walks.range (prog:=X.prog) (w:=X.w) (I.ok.hd hc) it lo 1 n
  refine W.item i s _ _ hg st fun v h' tk hv bJ kk=>?_
  obtain ⟨t,rfl⟩:=hv
  have I1:Inv X aa σ H { s with heap:=h',toks:=tk }:=I.turned (fun b o hb e=>kk b o (by simpa using hb) e) f0 f1 f3 f4 f5
  refine ⟨_,rfl,Qxo (s:={ s with heap:=h',toks:=tk }) (n := "range_iterator") bJ rfl rfl (by decide) ⟨.int (lo+i),H,I1,⟨t,?_⟩,⟨rfl,rfl⟩,bJ,fun b hb=>(hf b hb).1⟩⟩
  rw [Int.mul_one]
 done:=by
  intro X hP hw hK hc i aa s σ H E I hf st hg
  subst hP hw hK
  obtain ⟨f0,f1,f2,f3,f4,f5⟩:=hf it (by simp)
  exact wpAny_pyNext_range_end (I.ok.hd hc) st (by have:n≤i:=hg;omega) fun h' eb=>⟨rfl,I.turned (t':=s.toks) (fun b o hb e=>eb b o hb e) f0 f1 f3 f4 f5⟩
 self:=fun _ _ _ _ _ st h=>wpAny_pyIter_rangeiter st h
section
variable {X:Cx} {tg:Fr}
theorem Qpt {aa:List (Fw×Obj)} {σ:St} {H:Hp} {s:Fy} {R:It→Hp→Prop} {E:Fx→Fy→Prop} {lo hi:Int} {t u v:Tok} {tk:Nat} (I:Inv X aa σ H s) (h1:-(2^62)≤lo) (h2:lo<2^62) (h3:-(2^62)≤hi) (h4:hi<2^62)
  (q:R (Itr lo (hi-lo).toNat) H):wpAny (model X.prog X.w) X.A (pyIter (.ref s.heap.objs.size)) (PIE X aa σ tg R) E { s with heap:=s.heap.push { cls:=.type "range",data:=.fields #[.int lo t,.int hi u,.int 1 v] },toks:=tk }:=by
 refine wpAny_pyIter_range (IsRange.new ..) (small_one h1 h2 h3 h4) ?_
 have I1:Inv X aa σ H { s with heap:=s.heap.push { cls:=.type "range",data:=.fields #[.int lo t,.int hi u,.int 1 v] },toks:=tk }:=I.kept fun b o e=>Zg _ e
 refine ⟨(s.heap.push { cls:=.type "range",data:=.fields #[.int lo t,.int hi u,.int 1 v] }).objs.size,[(s.heap.push { cls:=.type "range",data:=.fields #[.int lo t,.int hi u,.int 1 v] }).objs.size],_,_,H,rfl,
  I1.kept (t':=tk) fun b o e=>Zg _ e,Qr1 _ lo (hi-lo).toNat,?_,fun b hb=>?_,q⟩
 ·have e1:lo+((0:Nat):Int)*1=lo:=by simp
  have e2:(((hi-lo).toNat:Nat):Int)-((0:Nat):Int)=Builtin.Range.rangeSize lo hi 1:=by rw [Ze2];split <;> omega
  show IsRangeIter _ _ (lo+((0:Nat):Int)*1) ((((hi-lo).toNat:Nat):Int)-((0:Nat):Int)) 1
  rw [e1,e2]
  exact Zt _ rfl
 ·have e:b=(s.heap.push { cls:=.type "range",data:=.fields #[.int lo t,.int hi u,.int 1 v] }).objs.size:=by simpa using hb
  subst e
  exact I1.fpOk (Zi _) (I1.hok.fresh (Zi _))
def Qkv (ta:TA):TI:=fun σ H R=>ta σ H fun vs H1=>∃ j:Int,vs=[.int j] ∧ -(2^62)≤j∧j<2^62∧R (Itr 0 j.toNat) H1
def Q40 (ta:TA):TI:=fun σ H R=>ta σ H fun vs H1=>∃ i j:Int,vs=[.int i,.int j]∧(-(2^62)≤i∧i<2^62 ∧ -(2^62)≤j∧j<2^62)∧R (Itr i (j-i).toNat) H1
theorem Qv1 {a:Fr} {ta:TA} {p pos:Pos} (hg:Gl X "range") (hm:X.mg "range" = none) (ha:PA X [a] ta) (hs:starEach [a] X.env=[(false,eval a X.env)]:=by rfl):PI X tg (.Call (.Name "range" p) [a] [] pos) (Qkv ta):=by
 intro aa s σ H R I h
 refine Call_ (Qjd I hg hm boot_range (PyProof.Rows.callWith_type1 (thn (ha pos aa s σ H _ I h) fun us s1 ⟨vs,H1,I1,r1,q1⟩=>?_) hs rfl))
 obtain ⟨j,e,q1,q2,q⟩:=q1
 subst e
 cases r1 with
 | cons r rr =>
  cases rr
  obtain ⟨t,rfl⟩:=r
  exact call_range_1 (Qpt I1 (by omega) (by omega) q1 q2 (by simpa using q))
theorem Qv2 {a b:Fr} {ta:TA} {p pos:Pos} (hg:Gl X "range") (hm:X.mg "range" = none) (ha:PA X [a,b] ta) (hs:starEach [a,b] X.env=[(false,eval a X.env),(false,eval b X.env)]:=by rfl) (ay:starEach [b] X.env=[(false,eval b X.env)]:=by rfl) :
  PI X tg (.Call (.Name "range" p) [a,b] [] pos) (Q40 ta):=by
 intro aa s σ H R I h
 refine Call_ (Qjd I hg hm boot_range (PyProof.Rows.callWith_type1 (thn (ha pos aa s σ H _ I h) fun us s1 ⟨vs,H1,I1,r1,q1⟩=>?_) (by rw [hs,ay]) (by rw [ay];rfl)))
 obtain ⟨i,j,e,⟨q1,q2,q3,q4⟩,q⟩:=q1
 subst e
 cases r1 with
 | cons r rr =>
  cases rr with
  | cons r' rr =>
   cases rr
   obtain ⟨t,rfl⟩:=r
   obtain ⟨t',rfl⟩:=r'
   exact call_range_2 (Qpt I1 q1 q2 q3 q4 q)
def Qmf (wi:TI) (g:TG) (tb:TS):TS:=fun D σ H=>wi σ H fun J H1=>∃ W:Nat→Nat→St→Hp→Prop,(∃ m,W 0 m σ H1)∧∀ i m σ H,W i m σ H →
 (J.stop i H∧D.nx σ H)∨(J.go i H∧∃ N:St→Hp→Prop,(∀ σ' H',N σ' H'→∃ m',m'<m∧W (i+1) m' σ' H')∧∀ x H',J.yld i H x H'→g x σ H' fun σ2 H2=>tb { D with nx:=N,ct:=N,bk:=D.nx } σ2 H2)
def Qje (fp:List Fw) (h:Fq):List (Fw×Obj):=fp.filterMap fun b=>(h.get? b).map fun o=>(b,o)
theorem Qci {fp:List Fw} {h:Fq} {b:Fw} {o:Obj} (hb:b∈fp) (e:h.get? b=some o):(b,o)∈Qje fp h:=List.mem_filterMap.mpr ⟨b,hb,by rw [e];rfl⟩
theorem Qv3 {fp:List Fw} {h:Fq} {p:Fw×Obj} (hp:p∈Qje fp h):p.1∈fp∧h.get? p.1=some p.2:=by
 obtain ⟨b,hb,e⟩:=List.mem_filterMap.mp hp
 cases q:h.get? b with
 | none=>rw [q] at e;cases e
 | some o =>
  rw [q] at e
  have e':(b,o)=p:=Zo e
  subst e'
  exact ⟨hb,q⟩
theorem Inv.pinned {aa:List (Fw×Obj)} {σ:St} {H:Hp} {s:Fy} {fp:List Fw} (I:Inv X aa σ H s) (hf:∀ b∈fp,Qgt X aa H b) (ho:∀ b∈fp,∃ o,s.heap.get? b=some o∧∀ v,o.data≠.cell v):Inv X (aa++Qje fp s.heap) σ H s :=
 I.pins_of fun p hp=>(Zah.mp hp).elim (fun z=>I.pin p (Zw _ z)) fun z=>by
  obtain ⟨hb,e⟩:=Qv3 z
  obtain ⟨f0,f1,f2,_⟩:=hf p.1 hb
  obtain ⟨o,e',d⟩:=ho p.1 hb
  rw [e] at e';cases e'
  exact ⟨e,f0,f1,f2,d⟩
theorem Inv.unpinned {aa pl:List (Fw×Obj)} {σ:St} {H:Hp} {s:Fy} (I:Inv X (aa++pl) σ H s):Inv X aa σ H s:=I.pins_of fun p hp=>I.pin p (Zw _ (Zad _ hp))
theorem Q61 {af:Fr} {body:List Fs} {wi:TI} {g:TG} {tb:TS} {pos:Pos} (hp:PassesOwn (model X.prog X.w) X.A X.env X.xe) (hc:X.calm=true) (hi:PI X tg af wi) (hg:PG X tg g) (hb:PSs X body tb)
  (hs:∀ x,foldedSetIterable af X.env x=pure x:=by intro _;rfl):PS X (.For tg af body [] pos) (Qmf wi g tb):=by
 intro aa s σ H D I h
 refine wpAny_For (thn (hi aa s σ H _ I h) fun v s1 h1=>thn h1 fun fG s2 h2=>?_) hs
 obtain ⟨it,fp,tn,J,H2,e,I2,T,bP,f2,W,⟨m0,w0⟩,turn⟩:=h2
 subst e
 -- what stays true of the iterator's objects through the aN
 have cO:∀ {H':Hp},(∀ b∈fp,H' b=none)→∀ b∈fp,Qgt X aa H' b:=fun hn b hb=>⟨hn b hb,(f2 b hb).2⟩
 refine codeAny_forLoop_any (fun n s'=>∃ i σ' H',Inv X aa σ' H' s'∧tn i s'.heap∧(∀ b∈fp,H' b=none)∧W i n σ' H') ?_ m0 ⟨0,σ,H2,I2,bP,fun b hb=>(f2 b hb).1,w0⟩
 rintro n s3 ⟨i,σ3,H3,I3,iP,iA,w3⟩
 rcases turn i n σ3 H3 w3 with ⟨stop,qn⟩ | ⟨go,N,hN,step⟩
 ·refine Zbu hp (thn (T.done X rfl rfl rfl hc i aa s3 σ3 H3 X.xe I3 (cO iA) iP stop) fun r s4 ⟨hr,I4⟩=>?_)
  subst hr
  exact Zdh ⟨σ3,H3,I4,qn⟩
 ·refine Zbu hp (thn (T.item X rfl rfl rfl hc i aa s3 σ3 H3 X.xe I3 (cO iA) iP go) fun r s4 ⟨u,hr,h4⟩=>?_)
  subst hr
  refine Zbu hp (thn h4 fun _ s5 ⟨x,H5,I5,r5,y5,cz,dk⟩=>?_)
  have I5':=I5.pinned (cO dk) (T.obj _ _ cz)
  refine Zbu hp (thn (hg _ s5 σ3 H5 x u _ I5' r5 (step x H5 y5)) fun _ s6 ⟨σ6,H6,I6,q6⟩=>?_)
  refine Zbu hp (thn (hb _ s6 σ6 H6 _ I6 q6) fun f s7 q7=>?_)
  have again:∀ {σ7:St} {H7:Hp},Inv X (aa++Qje fp s5.heap) σ7 H7 s7→N σ7 H7→∃ m,m<n∧∃ i σ' H',Inv X aa σ' H' s7∧tn i s7.heap∧(∀ b∈fp,H' b=none)∧W i m σ' H':=fun {σ7 H7} I7 n7=>by
   obtain ⟨m',hm,w7⟩:=hN σ7 H7 n7
   refine ⟨m',hm,i+1,σ7,H7,I7.unpinned,T.keep _ _ _ cz fun b hb o e=>(I7.pin (b,o) (Zw _ (Zw _ (Qci hb e)))).1,fun b hb=>?_,w7⟩
   obtain ⟨o,e,d⟩:=T.obj _ _ cz b hb
   exact (I7.pin (b,o) (Zw _ (Zw _ (Qci hb e)))).2.1
  cases f with
  | next=>obtain ⟨σ7,H7,I7,n7⟩:=q7;exact again I7 n7
  | cont=>obtain ⟨σ7,H7,I7,n7⟩:=q7;exact again I7 n7
  | brk=>obtain ⟨σ7,H7,I7,q7⟩:=q7;exact ⟨σ7,H7,I7.unpinned,q7⟩
  | ret v=>obtain ⟨x7,σ7,H7,I7,r7,q7⟩:=q7;exact ⟨x7,σ7,H7,I7.unpinned,r7,q7⟩
end
theorem Qxp {K:Fz} {a:Fw} {xs:List V} {g:TG} {tb:TS} {D:Ends} {σ:St} {H:Hp} (Pv:Nat→St→Hp→Prop) (h0:Pv 0 σ H) (hl:∀ i σ H,i≤xs.length→Pv i σ H→SqL K H a xs)
  (hs:∀ i x σ H,xs[i]?=some x→Pv i σ H→g x σ H fun σ2 H2=>tb { D with nx:=Pv (i+1),ct:=Pv (i+1),bk:=D.nx } σ2 H2) (hd:∀ σ H,Pv xs.length σ H→D.nx σ H) :
  ∃ W:Nat→Nat→St→Hp→Prop,(∃ m,W 0 m σ H)∧∀ i m σ H,W i m σ H →
   ((Itl K a).stop i H∧D.nx σ H)∨((Itl K a).go i H∧∃ N:St→Hp→Prop,(∀ σ' H',N σ' H'→∃ m',m'<m∧W (i+1) m' σ' H')∧∀ x H',(Itl K a).yld i H x H'→g x σ H' fun σ2 H2=>tb { D with nx:=N,ct:=N,bk:=D.nx } σ2 H2):=by
 refine ⟨fun i m σ H=>m=xs.length-i∧i≤xs.length∧Pv i σ H,⟨xs.length,by simp,Zbb _,h0⟩,?_⟩
 rintro i m σ H ⟨rfl,hi,p⟩
 have q:=hl i σ H hi p
 by_cases av:i<xs.length
 ·refine .inr ⟨⟨xs,xs[i],q,by simp [av]⟩,Pv (i+1),fun σ' H' p'=>⟨xs.length-(i+1),by omega,rfl,av,p'⟩,fun x H' y=>?_⟩
  obtain ⟨e,y⟩:=y
  subst e
  exact hs i x σ _ (y xs q) p
 ·have e:i=xs.length:=by omega
  subst e
  exact .inl ⟨⟨xs,q,Zi _⟩,hd σ H p⟩
theorem Qmy {lo:Int} {n:Nat} {g:TG} {tb:TS} {D:Ends} {σ:St} {H:Hp} (Pv:Nat→St→Hp→Prop) (h0:Pv 0 σ H)
  (hs:∀ i σ H,i<n→Pv i σ H→g (.int (lo+i)) σ H fun σ2 H2=>tb { D with nx:=Pv (i+1),ct:=Pv (i+1),bk:=D.nx } σ2 H2) (hd:∀ σ H,Pv n σ H→D.nx σ H) :
  ∃ W:Nat→Nat→St→Hp→Prop,(∃ m,W 0 m σ H)∧∀ i m σ H,W i m σ H →
   ((Itr lo n).stop i H∧D.nx σ H)∨((Itr lo n).go i H∧∃ N:St→Hp→Prop,(∀ σ' H',N σ' H'→∃ m',m'<m∧W (i+1) m' σ' H')∧∀ x H',(Itr lo n).yld i H x H'→g x σ H' fun σ2 H2=>tb { D with nx:=N,ct:=N,bk:=D.nx } σ2 H2):=by
 refine ⟨fun i m σ H=>m=n-i∧i≤n∧Pv i σ H,⟨n,by simp,Zbb _,h0⟩,?_⟩
 rintro i m σ H ⟨rfl,hi,p⟩
 by_cases av:i<n
 ·refine .inr ⟨av,Pv (i+1),fun σ' H' p'=>⟨n-(i+1),by omega,rfl,av,p'⟩,fun x H' y=>?_⟩
  obtain ⟨e,y⟩:=y
  subst e y
  exact hs i σ _ av p
 ·have e:i=n:=by omega
  subst e
  exact .inl ⟨Zi _,hd σ H p⟩
abbrev R2:=V→V→Hp→VK→Prop
def OpR (X:Cx) (f:Fx→Fx→Sem Fx) (r:R2):Prop :=
 ∀ (aa:List (Fw×Obj)) (s:Fy) (σ:St) (H:Hp) (x y:V) (v u:Fx) (Q:VK),Inv X aa σ H s→RelV x v→RelV y u→r x y H Q →
  wpAny (model X.prog X.w) X.A (f v u) (EP X aa σ Q) X.xe s
def UnR (X:Cx) (f:Fx→Sem Fx) (r:V→Hp→VK→Prop):Prop :=
 ∀ (aa:List (Fw×Obj)) (s:Fy) (σ:St) (H:Hp) (x:V) (v:Fx) (Q:VK),Inv X aa σ H s→RelV x v→r x H Q →
  wpAny (model X.prog X.w) X.A (f v) (EP X aa σ Q) X.xe s
def CallR (X:Cx) (f:Fx) (r:List V→Hp→VK→Prop):Prop :=
 ∀ (aa:List (Fw×Obj)) (s:Fy) (σ:St) (H:Hp) (xs:List V) (us:List Fx) (Q:VK),Inv X aa σ H s→Vals xs us→r xs H Q →
  wpAny (model X.prog X.w) X.A (call f us) (EP X aa σ Q) X.xe s
abbrev tOp (r:R2) (ta tb:TE):TE:=fun σ H Q=>ta σ H fun x H1=>tb σ H1 fun y H2=>r x y H2 Q
abbrev tUn (r:V→Hp→VK→Prop) (ta:TE):TE:=fun σ H Q=>ta σ H fun x H1=>r x H1 Q
def rI (C:Int→Int→Prop) (g:Int→Int→V):R2:=fun x y H Q=>∃ i j,x=.int i∧y=.int j∧C i j∧Q (g i j) H
def rI0 (g:Int→Int→V):R2:=fun x y H Q=>∃ i j,x=.int i∧y=.int j∧Q (g i j) H
def rU (g:Int→V):V→Hp→VK→Prop:=fun x H Q=>∃ i,x=.int i∧Q (g i) H
section
variable {X:Cx} {a b c:Fr} {ta tb tc:TE} {pos:Pos}
theorem Q62 (ha:PE X a ta) (hb:PE X b tb) {aa:List (Fw×Obj)} {s:Fy} {σ:St} {H:Hp} {R:V→V→Hp→Prop} (I:Inv X aa σ H s)
  (h:ta σ H fun x H1=>tb σ H1 fun y H2=>R x y H2) {Q:Fx→Fy→Prop} {f:Fx→Fx→Sem Fx}
  (hf:∀ v u s2 x y H2,Inv X aa σ H2 s2→RelV x v→RelV y u→R x y H2→wpAny (model X.prog X.w) X.A (f v u) Q X.xe s2) :
  wpAny (model X.prog X.w) X.A (eval a X.env) (fun v s₁=>wpAny (model X.prog X.w) X.A (eval b X.env) (fun u s₂=>wpAny (model X.prog X.w) X.A (f v u) Q X.xe s₂) X.xe s₁) X.xe s:=by
 refine thn (ha aa s σ H _ I h) fun v s1 ⟨x,H1,I1,r1,q1⟩=>?_
 refine thn (hb aa s1 σ H1 _ I1 q1) fun u s2 ⟨y,H2,I2,r2,q2⟩=>?_
 exact hf v u s2 x y H2 I2 r1 r2 q2
theorem Qaam {op:Operator} {r:R2} (ho:OpR X (binaryOp op) r) (ha:PE X a ta) (hb:PE X b tb):PE X (.BinOp a op b pos) (tOp r ta tb):=by
 intro aa s σ H Q I h
 exact wpAny_BinOp (Q62 ha hb I h fun v u s2 x y H2 I2 rx ry q=>ho aa s2 σ H2 x y v u Q I2 rx ry q)
theorem Qaan {op:UnaryOp} {r:V→Hp→VK→Prop} (ho:UnR X (unaryOp op) r) (ha:PE X a ta):PE X (.UnaryOp op a pos) (tUn r ta):=by
 intro aa s σ H Q I h
 exact UnaryOp_ (thn (ha aa s σ H _ I h) fun v s1 ⟨x,H1,I1,r1,q1⟩=>ho aa s1 σ H1 x v Q I1 r1 q1)
theorem opI {f:Fx→Fx→Sem Fx} {C:Int→Int→Prop} {g:Int→Int→Int}
  (rule:∀ (i j:Int) (t u:Tok) (s:Fy) (Q:Fx→Fy→Prop) (E:Fx→Fy→Prop),C i j→Q (.int (g i j) s.toks) { s with toks:=s.toks+1 }→wpAny (model X.prog X.w) X.A (f (.int i t) (.int j u)) Q E s) :
  OpR X f (rI C fun i j=>.int (g i j)):=by
 intro aa s σ H x y v u Q I rx ry h
 obtain ⟨i,j,rfl,rfl,hc,q⟩:=h
 obtain ⟨t,rfl⟩:=rx
 obtain ⟨t',rfl⟩:=ry
 exact rule i j t t' s _ _ hc ⟨.int (g i j),H,I.tok _,⟨_,rfl⟩,q⟩
theorem opI0 {f:Fx→Fx→Sem Fx} {g:Int→Int→Int}
  (rule:∀ (i j:Int) (t u:Tok) (s:Fy) (Q:Fx→Fy→Prop) (E:Fx→Fy→Prop),Q (.int (g i j) s.toks) { s with toks:=s.toks+1 }→wpAny (model X.prog X.w) X.A (f (.int i t) (.int j u)) Q E s) :
  OpR X f (rI0 fun i j=>.int (g i j)):=by
 intro aa s σ H x y v u Q I rx ry h
 obtain ⟨i,j,rfl,rfl,q⟩:=h
 obtain ⟨t,rfl⟩:=rx
 obtain ⟨t',rfl⟩:=ry
 exact rule i j t t' s _ _ ⟨.int (g i j),H,I.tok _,⟨_,rfl⟩,q⟩
theorem Q63 {f:Fx→Fx→Sem Fx} {g:Int→Int→Bool}
  (rule:∀ (i j:Int) (t u:Tok) (s:Fy) (Q:Fx→Fy→Prop) (E:Fx→Fy→Prop),Q (.bool (g i j)) s→wpAny (model X.prog X.w) X.A (f (.int i t) (.int j u)) Q E s) :
  OpR X f (rI0 fun i j=>.bl (g i j)):=by
 intro aa s σ H x y v u Q I rx ry h
 obtain ⟨i,j,rfl,rfl,q⟩:=h
 obtain ⟨t,rfl⟩:=rx
 obtain ⟨t',rfl⟩:=ry
 exact rule i j t t' s _ _ ⟨.bl (g i j),H,I,rfl,q⟩
def Q64 (i j:Int):Prop:=0≤j∧j≤1000000∧i.natAbs<2^64
def CMul (i j:Int):Prop:=(-(2^64)<i∧i<2^64)∨(-(2^64)<j∧j<2^64)
theorem CMul.ok {i j:Int} (h:CMul i j):IntMulOk i j:=by
 rcases h with ⟨h1,h2⟩ | ⟨h1,h2⟩
 ·exact .of_left (intBits_le_64 h1 h2)
 ·exact .of_right (intBits_le_64 h1 h2)
theorem Q65:OpR X (binaryOp .Add) (rI0 fun i j=>.int (i+j)):=opI0 fun _ _ _ _ _ _ _ q=>add_int q
theorem Q66:OpR X (binaryOp .Sub) (rI0 fun i j=>.int (i-j)):=opI0 fun _ _ _ _ _ _ _ q=>sub_int q
theorem Q67:OpR X (binaryOp .Mult) (rI CMul fun i j=>.int (i*j)):=opI fun _ _ _ _ _ _ _ hc q=>mul_int q hc.ok
theorem Q18:OpR X (binaryOp .Mod) (rI (fun _ j=>j≠0) fun i j=>.int (i.fmod j)):=opI fun _ _ _ _ _ _ _ hc q=>mod_int' hc q
theorem Q68:OpR X (binaryOp .Pow) (rI Q64 fun i j=>.int (i^j.toNat)):=opI fun _ _ _ _ _ _ _ hc q=>pow_int_small hc.1 hc.2.1 hc.2.2 q
theorem unI {f:Fx→Sem Fx} {g:Int→Int}
  (rule:∀ (i:Int) (t:Tok) (s:Fy) (Q:Fx→Fy→Prop) (E:Fx→Fy→Prop),Q (.int (g i) s.toks) { s with toks:=s.toks+1 }→wpAny (model X.prog X.w) X.A (f (.int i t)) Q E s) :
  UnR X f (rU fun i=>.int (g i)):=by
 intro aa s σ H x v Q I rx h
 obtain ⟨i,rfl,q⟩:=h
 obtain ⟨t,rfl⟩:=rx
 exact rule i t s _ _ ⟨.int (g i),H,I.tok _,⟨_,rfl⟩,q⟩
theorem Q69:UnR X (unaryOp .USub) (rU fun i=>.int (-i)):=unI fun _ _ _ _ _ q=>neg_int q
end
def Q7a:V→V→Bool
 | .non,.non=>true | .non,.int _=>true | .int _,.non=>true | .non,.bl _=>true | .bl _,.non=>true | .non,.str _=>true | .str _,.non=>true
 | .int _,.int _=>true | .bl _,.bl _=>true | .str _,.str _=>true | .byt _,.byt _=>true
 | .int _,.str _=>true | .str _,.int _=>true | .bl _,.str _=>true | .str _,.bl _=>true
 | _,_=>false
def rEq:R2:=fun x y H Q=>Q7a x y=true∧Q (.bl (decide (x=y))) H
def rNe:R2:=fun x y H Q=>Q7a x y=true∧Q (.bl (!decide (x=y))) H
theorem Qtz {i j:Int}:decide (V.int i=V.int j)=(i==j):=by
 rw [Zbv]
 simp
theorem Qxq {i j:Bool}:decide (V.bl i=V.bl j)=(i==j):=by
 rw [Zbv]
 simp
theorem Qt0 {i j:Str}:decide (V.str i=V.str j)=(i==j):=by
 rw [Zbv]
 simp
theorem Qt1 {i j:Array UInt8}:decide (V.byt i=V.byt j)=(i.toList==j.toList):=by
 rw [Zbv]
 cases i
 cases j
 simp
section
variable {X:Cx} {a b c:Fr} {ta tb tc:TE} {pos:Pos}
theorem Qak {aa:List (Fw×Obj)} {σ:St} {H:Hp} {s:Fy} {Q:VK} {k k':Bool} (I:Inv X aa σ H s) (q:Q (.bl k) H) (e:k=k'):EP X aa σ Q (.bool k') s:=by
 subst e
 exact ⟨.bl k,H,I,rfl,q⟩
theorem Qaap:OpR X (compareOp .Eq) rEq:=by
 intro aa s σ H x y v u Q I rx ry h
 obtain ⟨hs,q⟩:=h
 cases x with
 | non =>
  cases rx
  cases y with
  | non=>cases ry;exact PySem.EqNone.eq_none_none (Qak I q (by simp))
  | bl j=>cases ry;exact PySem.EqNone.eq_none_bool (Qak I q (by simp))
  | int j=>obtain ⟨t',rfl⟩:=ry;exact PySem.EqNone.eq_none_int (Qak I q (by simp))
  | str j=>obtain ⟨t',rfl⟩:=ry;exact PySem.EqNone.eq_none_str (Qak I q (by simp))
  | _=>exact absurd (show false=true from hs) Zk
 | bl i =>
  cases rx
  cases y with
  | non=>cases ry;exact PySem.EqNone.eq_bool_none (Qak I q (by simp))
  | bl j=>cases ry;exact eq_bool (Qak I q Qxq)
  | str j=>obtain ⟨t',rfl⟩:=ry;exact PySem.EqMixed.eq_bool_str (Qak I q (by simp))
  | _=>exact absurd (show false=true from hs) Zk
 | int i =>
  obtain ⟨t,rfl⟩:=rx
  cases y with
  | non=>cases ry;exact PySem.EqNone.eq_int_none (Qak I q (by simp))
  | int j=>obtain ⟨t',rfl⟩:=ry;exact eq_int (Qak I q Qtz)
  | str j=>obtain ⟨t',rfl⟩:=ry;exact PySem.EqMixed.eq_int_str (Qak I q (by simp))
  | _=>exact absurd (show false=true from hs) Zk
 | str i =>
  obtain ⟨t,rfl⟩:=rx
  cases y with
  | non=>cases ry;exact PySem.EqNone.eq_str_none (Qak I q (by simp))
  | bl j=>cases ry;exact PySem.EqMixed.eq_str_bool (Qak I q (by simp))
  | int j=>obtain ⟨t',rfl⟩:=ry;exact PySem.EqMixed.eq_str_int (Qak I q (by simp))
  | str j=>obtain ⟨t',rfl⟩:=ry;exact eq_str (Qak I q Qt0)
  | _=>exact absurd (show false=true from hs) Zk
 | byt i =>
  obtain ⟨t,rfl⟩:=rx
  cases y with
  | byt j=>obtain ⟨t',rfl⟩:=ry;exact PySem.W.eq_bytes (Qak I q Qt1)
  | _=>exact absurd (show false=true from hs) Zk
 | _=>cases y <;> exact absurd (show false=true from hs) Zk
theorem Qaaq:OpR X (compareOp .NotEq) rNe:=by
 intro aa s σ H x y v u Q I rx ry h
 obtain ⟨hs,q⟩:=h
 cases x with
 | non =>
  cases rx
  cases y with
  | non=>cases ry;exact PySem.EqNone.ne_none_none (Qak I q (by simp))
  | bl j=>cases ry;exact PySem.EqNone.ne_none_bool (Qak I q (by simp))
  | int j=>obtain ⟨t',rfl⟩:=ry;exact PySem.EqNone.ne_none_int (Qak I q (by simp))
  | str j=>obtain ⟨t',rfl⟩:=ry;exact PySem.EqNone.ne_none_str (Qak I q (by simp))
  | _=>exact absurd (show false=true from hs) Zk
 | bl i =>
  cases rx
  cases y with
  | non=>cases ry;exact PySem.EqNone.ne_bool_none (Qak I q (by simp))
  | bl j=>cases ry;exact ne_bool (Qak I q (congrArg not Qxq))
  | str j=>obtain ⟨t',rfl⟩:=ry;exact PySem.EqMixed.ne_bool_str (Qak I q (by simp))
  | _=>exact absurd (show false=true from hs) Zk
 | int i =>
  obtain ⟨t,rfl⟩:=rx
  cases y with
  | non=>cases ry;exact PySem.EqNone.ne_int_none (Qak I q (by simp))
  | int j=>obtain ⟨t',rfl⟩:=ry;exact ne_int (Qak I q (congrArg not Qtz))
  | str j=>obtain ⟨t',rfl⟩:=ry;exact PySem.EqMixed.ne_int_str (Qak I q (by simp))
  | _=>exact absurd (show false=true from hs) Zk
 | str i =>
  obtain ⟨t,rfl⟩:=rx
  cases y with
  | non=>cases ry;exact PySem.EqNone.ne_str_none (Qak I q (by simp))
  | bl j=>cases ry;exact PySem.EqMixed.ne_str_bool (Qak I q (by simp))
  | int j=>obtain ⟨t',rfl⟩:=ry;exact PySem.EqMixed.ne_str_int (Qak I q (by simp))
  | str j=>obtain ⟨t',rfl⟩:=ry;exact ne_str (Qak I q (congrArg not Qt0))
  | _=>exact absurd (show false=true from hs) Zk
 | byt i =>
  obtain ⟨t,rfl⟩:=rx
  cases y with
  | byt j=>obtain ⟨t',rfl⟩:=ry;exact PySem.W.ne_bytes (Qak I q (congrArg not Qt1))
  | _=>exact absurd (show false=true from hs) Zk
 | _=>cases y <;> exact absurd (show false=true from hs) Zk
theorem Qaar:OpR X (compareOp .Lt) (rI0 fun i j=>.bl (decide (i<j))):=Q63 fun _ _ _ _ _ _ _ q=>lt_int q
theorem Qaas:OpR X (compareOp .Gt) (rI0 fun i j=>.bl (decide (j<i))):=Q63 fun _ _ _ _ _ _ _ q=>gt_int q
theorem Qaat:OpR X (compareOp .GtE) (rI0 fun i j=>.bl (decide (j≤i))):=Q63 fun _ _ _ _ _ _ _ q=>ge_int q
theorem Q7b:OpR X (compareOp .Is) (fun x y H Q=>y=.non∧Q (.bl (decide (x=.non))) H):=by
 intro aa s σ H x y v u Q I rx ry h
 obtain ⟨rfl,q⟩:=h
 cases ry
 refine is_none_gen (Qak I q ?_)
 cases x <;> first
  | (cases rx;rfl)
  | (obtain ⟨t,rfl⟩:=rx;rfl)
theorem Q19:OpR X (compareOp .IsNot) (fun x y H Q=>y=.non∧Q (.bl (!decide (x=.non))) H):=by
 intro aa s σ H x y v u Q I rx ry h
 obtain ⟨rfl,q⟩:=h
 cases ry
 refine isnot_none_gen (Qak I q ?_)
 cases x <;> first
  | (cases rx;rfl)
  | (obtain ⟨t,rfl⟩:=rx;rfl)
theorem OpR.or {f:Fx→Fx→Sem Fx} {r r':R2} (h:OpR X f r) (h':OpR X f r'):OpR X f (fun x y H Q=>r x y H Q∨r' x y H Q):=by
 intro aa s σ H x y v u Q I rx ry q
 rcases q with q | q
 ·exact h aa s σ H x y v u Q I rx ry q
 ·exact h' aa s σ H x y v u Q I rx ry q
theorem Q7c (b:Fr) {op:CmpOp} (h:op≠.In:=by decide) (h2:op≠.NotIn:=by decide):behindInMarks op b=false:=by
 have e1:(op==CmpOp.In)=false:=by cases op <;> first | rfl | exact absurd rfl h
 have e2:(op==CmpOp.NotIn)=false:=by cases op <;> first | rfl | exact absurd rfl h2
 cases b <;> simp [behindInMarks,e1,e2]
theorem Q2a {op:CmpOp} {r:R2} (ho:OpR X (compareOp op) r) (ha:PE X a ta) (hb:PE X b tb) (hm:behindInMarks op b=false):PE X (.Compare a [op] [b] pos) (tOp r ta tb):=by
 intro aa s σ H Q I h
 exact wpAny_Compare1 (Q62 ha hb I h fun v u s2 x y H2 I2 rx ry q=>ho aa s2 σ H2 x y v u Q I2 rx ry q) hm
abbrev Q41 (t:TE):TT:=fun σ H Q=>t σ H fun x H'=>∃ k,x=.bl k∧Q k H'
theorem Q2b {op:CmpOp} {r:R2} (ho:OpR X (compareOp op) r) (ha:PE X a ta) (hb:PE X b tb) (hm:behindInMarks op b=false):PT X (.Compare a [op] [b] pos) (Q41 (tOp r ta tb)):=by
 intro aa s σ H Q I h
 refine Zev (thn (ha aa s σ H _ I h) fun v s1 ⟨x,H1,I1,r1,q1⟩=>thn (hb aa s1 σ H1 _ I1 q1) fun u s2 ⟨y,H2,I2,r2,q2⟩ =>
  thn (ho aa s2 σ H2 x y v u _ I2 r1 r2 q2) fun c s3 ⟨z,H3,I3,r3,k,e,q3⟩=>?_) hm
 subst e
 cases r3
 exact Zbh ⟨H3,I3,q3⟩
theorem Qkw:(sizeLine:Nat)<2^63:=by rw [Zau];decide
theorem Qgk {x:V} {us:List Fx} (r:Vals [x] us):∃ u,us=[u]∧RelV x u:=by
 cases r with
 | cons r1 r2=>cases r2;exact ⟨_,rfl,r1⟩
theorem Qxr {x y:V} {us:List Fx} (r:Vals [x,y] us):∃ u w',us=[u,w']∧RelV x u∧RelV y w':=by
 cases r with
 | cons r1 r2 =>
  cases r2 with
  | cons r3 r4=>cases r4;exact ⟨_,_,rfl,r1,r3⟩
theorem Qxs:CallR X (.builtin "abs") (fun xs H Q=>∃ i,xs=[.int i]∧Q (.int (if i<0 then -i else i)) H):=by
 intro aa s σ H xs us Q I r h
 obtain ⟨i,rfl,q⟩:=h
 obtain ⟨u,rfl,t,rfl⟩:=Qgk r
 exact call_abs_int fun u tk=>⟨.int (if i<0 then -i else i),H,I.tok _,⟨_,rfl⟩,q⟩
theorem Qv4 (hc:X.calm=true):CallR X (.builtin "max") (fun xs H Q=>∃ i j,xs=[.int i,.int j]∧Q (.int (if j>i then j else i)) H):=by
 intro aa s σ H xs us Q I r h
 obtain ⟨i,j,rfl,q⟩:=h
 obtain ⟨u,w',rfl,⟨t,rfl⟩,⟨t',rfl⟩⟩:=Qxr r
 refine max_two_ints (I.ok.hd hc) fun h' tk k=>⟨_,H,I.kept k,?_,q⟩
 by_cases hj:j>i
 ·rw [Zb hj,Zb hj];exact ⟨_,rfl⟩
 ·rw [Zd hj,Zd hj];exact ⟨_,rfl⟩
theorem Qv5:CallR X (.type "int") (fun xs H Q=>(∃ i,xs=[.int i]∧Q (.int i) H)∨∃ k,xs=[.bl k]∧Q (.int (if k then 1 else 0)) H):=by
 intro aa s σ H xs us Q I r h
 rcases h with ⟨i,rfl,q⟩ | ⟨k,rfl,q⟩
 ·obtain ⟨u,rfl,t,rfl⟩:=Qgk r
  exact call_int_int ⟨.int i,H,I,⟨_,rfl⟩,q⟩
 ·obtain ⟨u,rfl,r1⟩:=Qgk r
  cases r1
  exact call_int_bool ⟨.int (if k then 1 else 0),H,I.tok _,⟨_,rfl⟩,q⟩
end
structure ObjM (h:Fq) (x dx C:Fw) (mA:Str→Option Fx):Prop where
 obj:h.get? x=some (PySem.W.instObj C dx)
 ns:h.Ns1 dx mA
 ne:dx≠x
theorem Qv6 {h:Fq} {dx:Fw} {mA:Str→Option Fx} (n:h.Ns1 dx mA):∃ od,h.get? dx=some od∧∀ name,PySem.W.lookIn name od=some (mA name):=by
 obtain ⟨o,es,ep,ho,hd,hk,_,hm⟩:=n
 refine ⟨o,ho,fun name=>?_⟩
 have e:=hm name
 unfold nsFind findBy at e
 rw [←Array.find?_toList] at e
 unfold PySem.W.lookIn
 rw [hd]
 dsimp only
 split
 ·rename_i y q
  rw [q] at e
  exact congrArg some e
 ·rename_i q
  rw [q] at e
  have a:es.toList.any (·.refKey)=false:=by
   rw [Zc0]
   intro y hy
   obtain ⟨z,t,gT⟩:=hk y (Array.mem_toList_iff.mp hy)
   simp [DictEntry.refKey,gT]
  have a':¬ es.toList.any (·.refKey)=true:=by rw [a];exact Zk
  rw [Zd a']
  exact congrArg some e
theorem ObjM.look {h:Fq} {x dx C:Fw} {mA:Str→Option Fx} (I:ObjM h x dx C mA):∃ od,PySem.W.InstAt h x (PySem.W.instObj C dx) C (some od)∧∀ name,PySem.W.lookIn name od=some (mA name) :=
 let ⟨od,ho,hl⟩:=Qv6 I.ns
 ⟨od,⟨I.obj,rfl,rfl,ho⟩,hl⟩
section
variable {prog:Fu} {w:Ft} {A:Fv} {E:Fx→Fy→Prop} {s:Fy} {K:Fz} {x dx C f:Fw} {mA:Str→Option Fx} {name:Str} {v:Fx}
end
section
variable {P:Fu} {w:Ft} {H H':Hp} {h h':Fq} {a C dx:Fw} {fs fu:List (Str×V)}
theorem Q2c (hok:HOk P w H h) (e:H a=some (.ins C dx fs)):∃ mA,ObjM h a dx C mA∧(∀ f,RelO (fs.lookup f) (mA f))∧PySem.Within mA (fs.map (·.1))∧fs.length≤1000∧H dx=some (.own a):=by
 obtain ⟨d,z,ne,ob,mA,n,r,q⟩:=(show ObjOk P w H h a (.ins C dx fs) from hok a _ e)
 exact ⟨mA,⟨ob,n,ne⟩,r,q,z,d⟩
end
structure Cls (K:Fz) (C:Fw):Prop where
 pg:PySem.W.plainGet K C Str.empty=true
 hd:PySem.W.hasDictIn K C=true
 po:PySem.W.plainOver K C=true
 sa:PySem.W.findIn K (.ref C) "__setattr__" = some (some (.builtin "object.__setattr__"))
theorem Cls.get {K:Fz} {C:Fw} (c:Cls K C) (f:Str):PySem.W.plainGet K C f=true:=c.pg
structure Con (K:Fz) (C:Fw) (f:Str) (v:V) (u:Fx):Prop where
 at_:PySem.W.findIn K (.ref C) f=some (some u)
 rel:RelV v u
 get:PySem.W.specialIn K u "__get__" = some none
 cp:PySem.W.copiedNames.contains f=false
structure Meth (K:Fz) (C:Fw) (m:Str) (f:Fw):Prop where
 at_:PySem.W.findIn K (.ref C) m=some (some (.ref f))
 fn:PySem.W.isFn K (.ref f)=true
 kp:PySem.W.keepIn K (.ref f)=true
section
variable {X:Cx} {aa:List (Fw×Obj)} {σ:St} {H:Hp} {s:Fy} {a C dx:Fw} {fs:List (Str×V)} {f:Str} {v:V} {A:Fv} {E:Fx→Fy→Prop}
end
section
variable {X:Cx} {o e value:Fr} {f:Str} {pos bW fS:Pos} {ta tv:TE}
end
section
variable {X:Cx} {aa:List (Fw×Obj)} {σ:St} {H:Hp} {s:Fy} {A:Fv} {E:Fx→Fy→Prop} {Q:Fx→Fy→Prop} {c:Fx} {b:Bool}
inductive TyOf (K:Fz) (H:Hp):V→Fx→Prop where
 | non:TyOf K H .non (.type "NoneType")
 | bl (x:Bool):TyOf K H (.bl x) (.type "bool")
 | int (i:Int):TyOf K H (.int i) (.type "int")
 | str (x:Str):TyOf K H (.str x) (.type "str")
 | flt (x:UInt64):TyOf K H (.flt x) (.type "float")
 | lst {a:Fw} {xs:List V} (e:H a=some (.lst xs)):TyOf K H (.ref a) (.type "list")
 | frz {a:Fw} {o:Obj} {xs:List V} (e:H a=some (.frz o (.lst xs))):TyOf K H (.ref a) (.type "list")
 | tup {a:Fw} {xs:List V} (e:H a=some (.tup xs)):TyOf K H (.ref a) (.type "tuple")
 | dK {a:Fw} {aC:List (Key×V)} (e:H a=some (.dK aC)):TyOf K H (.ref a) (.type "dict")
 | dT {a:Fw} {aC:List (List Key×V)} (e:H a=some (.dT aC)):TyOf K H (.ref a) (.type "dict")
 | ins {a C dx:Fw} {fs:List (Str×V)} (e:H a=some (.ins C dx fs)) (cl:Cls K C) (ha:PySem.W.findIn K (.ref C) "__class__" = some (some (.builtin "object.__class__")))
   (hn:PySem.W.specialIn K (.builtin "object.__class__") "__get__" = some (some (.builtin "getset_descriptor.__get__"))) (h9:PySem.W.takesIn K (.builtin "object.__class__")=some true)
   (hm:PySem.W.mroIn K C (.type "object")=some true):TyOf K H (.ref a) (.ref C)
theorem Qv7 {x:V} {u t:Fx} (I:Inv X aa σ H s) (rx:RelV x u) (ty:TyOf X.K H x t) (e:PySem.W.kitOne X.K t c=some b) (h:∀ tk,Q (.bool b) { s with toks:=tk }) :
  wpAny (model X.prog X.w) A (call (.builtin "isinstance") [u,c]) Q E s:=by
 cases ty with
 | non=>cases (show u=Value.none from rx);exact Zaz PySem.W.kitx_none I.kIn True.intro e (fun z=>nomatch z) h
 | bl y=>cases (show u=Value.bool y from rx);exact Zaz PySem.W.kitx_bool I.kIn True.intro e (fun z=>nomatch z) h
 | int i=>obtain ⟨t,q⟩:=(show ∃ t,u=Value.int i t from rx);cases q;exact Zaz PySem.W.kitx_int I.kIn True.intro e (fun z=>nomatch z) h
 | str y=>obtain ⟨t,q⟩:=(show ∃ t,u=Value.str y t from rx);cases q;exact Zaz PySem.W.kitx_str I.kIn True.intro e (fun z=>nomatch z) h
 | flt y=>obtain ⟨t,q⟩:=(show ∃ t,u=Value.float y t from rx);cases q;exact Zaz PySem.W.kitx_float I.kIn True.intro e (fun z=>nomatch z) h
 | @lst a xs ea =>
  cases (show u=Value.ref a from rx)
  obtain ⟨_,_,n,_,h1⟩:=(show ObjOk X.prog X.w H s.heap a (.lst xs) from I.hok a _ ea)
  exact Zaz PySem.W.kitx_list I.kIn ⟨_,h1,rfl⟩ e (fun z=>nomatch z) h
 | @frz a ob xs ea =>
  cases (show u=Value.ref a from rx)
  obtain ⟨_,_,_,n,_,h1⟩:=(show ObjOk X.prog X.w H s.heap a (.frz ob (.lst xs)) from I.hok a _ ea)
  exact Zaz PySem.W.kitx_list I.kIn ⟨_,h1,rfl⟩ e (fun z=>nomatch z) h
 | @tup a xs ea =>
  cases (show u=Value.ref a from rx)
  obtain ⟨_,_,_,p⟩:=(show ObjOk X.prog X.w H s.heap a (.tup xs) from I.hok a _ ea)
  obtain ⟨o,h1,h2,_⟩:=p
  exact Zaz PySem.W.kitx_tuple I.kIn ⟨o,h1,h2⟩ e (fun z=>nomatch z) h
 | @dK a aC ea =>
  cases (show u=Value.ref a from rx)
  obtain ⟨_,_,vs,_,p⟩:=(show ObjOk X.prog X.w H s.heap a (.dK aC) from I.hok a _ ea)
  obtain ⟨o,es,ep,h1,h2,_⟩:=p
  exact Zaz PySem.W.kitx_dict I.kIn ⟨o,h1,h2.1⟩ e (fun z=>nomatch z) h
 | @dT a aC ea =>
  cases (show u=Value.ref a from rx)
  obtain ⟨_,_,xs,_,o,es,ep,h1,h2,_⟩:=(show ObjOk X.prog X.w H s.heap a (.dT aC) from I.hok a _ ea)
  exact Zaz PySem.W.kitx_dict I.kIn ⟨o,h1,h2.1⟩ e (fun z=>nomatch z) h
 | @ins a C dx fs ea cl ha hn h9 hm =>
  cases (show u=Value.ref a from rx)
  obtain ⟨mA,O,_⟩:=Q2c I.hok ea
  obtain ⟨od,J,_⟩:=O.look
  exact Zaz (PySem.W.kitx_own (cl.get _) cl.hd ha hn h9 hm) I.kIn J e (fun z=>nomatch z) h
end
structure Room (k:Nat) (A:Fv):Prop where
 hd:A.handled=none
 dp:A.depth+3*k+5<recursionLimit
 un:A.units+16*k+200<cLine
 gd:A.guards=some []
theorem Room.mono {j k:Nat} {A:Fv} (r:Room k A) (h:j≤k):Room j A:=⟨r.hd,by have:=r.dp;omega,by have:=r.un;omega,r.gd⟩
theorem Room.deeper {k:Nat} {A:Fv} (r:Room (k+1) A) (env:Env):Room k (A.deeper env) :=
 ⟨r.hd,by have:=r.dp;show A.depth+1+3*k+5<_;omega,by have:=r.un;show A.units+3+16*k+200<_;omega,r.gd⟩
theorem Room.depth {k:Nat} {A:Fv} (r:Room k A):A.depth<recursionLimit:=by have:=r.dp;omega
theorem Room.units {k:Nat} {A:Fv} (r:Room k A):A.units+64<cLine:=by have:=r.un;omega
abbrev Qfs:TA:=fun _ H Q=>Q [] H
abbrev Qca (ta:TE) (tr:TA):TA:=fun σ H Q=>ta σ H fun x H1=>tr σ H1 fun xs H2=>Q (x::xs) H2
section
variable {X:Cx} {e:Fr} {es:List Fr} {te:TE} {t:TA} {pos:Pos}
theorem Q7d:PA X [] Qfs:=fun _ _ _ _ H Q I h=>Calls.spliced_nil ⟨[],H,I,.nil,h⟩
theorem Q2d (ha:PE X e te) (hr:PA X es t) (hs:starEach (e::es) X.env=(false,eval e X.env)::starEach es X.env:=by rfl):PA X (e::es) (Qca te t):=by
 intro pos aa s σ H Q I h
 rw [hs]
 show wpAny _ _ (spliced ((false,eval e X.env)::backTo pos (starEach es X.env))) _ _ s
 refine Calls.spliced_cons (thn (ha aa s σ H _ I h) fun u s1 ⟨x,H1,I1,r1,q1⟩=>?_)
 exact thn (hr pos aa s1 σ H1 _ I1 q1) fun us s2 ⟨xs,H2,I2,r2,q2⟩=>⟨x::xs,H2,I2,.cons r1 r2,q2⟩
abbrev tTup (t:TA):TE:=fun σ H Q=>t σ H fun xs H1=>xs.length≤sizeLine∧∀ p,H1 p=none→Q (.ref p) (upd H1 p (.tup xs))
abbrev tLst (t:TA):TE:=fun σ H Q=>t σ H fun xs H1=>xs.length≤sizeLine∧∀ p,H1 p=none→Q (.ref p) (upd H1 p (.lst xs))
theorem Q7e {x1} (h:PA X es t):PE X (.Tuple es x1 pos) (tTup t):=by
 intro aa s σ H Q I hq
 refine wpAny_Tuple_spliced (thn (h pos aa s σ H _ I hq) fun us s1 ⟨xs,H1,I1,r,z,q⟩=>⟨by rw [←r.length];exact z,?_⟩)
 have hf:H1 s1.heap.objs.size=none:=I1.hok.fresh (Zi _)
 refine ⟨.ref s1.heap.objs.size,upd H1 s1.heap.objs.size (.tup xs),I1.laid (t':=s1.toks) (fun b u e=>Zg _ e) (Zi _) ?_,rfl,q _ hf⟩
 exact ⟨z,us,r,⟨_,Zt _ rfl,rfl,_,rfl,rfl⟩⟩
theorem Q7f (h:PA X es t):PE X (.List es pos) (tLst t):=by
 intro aa s σ H Q I hq
 refine wpAny_List_spliced (thn (h pos aa s σ H _ I hq) fun us s1 ⟨xs,H1,I1,r,z,q⟩=>⟨by rw [←r.length];exact z,?_⟩)
 have hf:H1 s1.heap.objs.size=none:=I1.hok.fresh (Zi _)
 refine ⟨.ref s1.heap.objs.size,upd H1 s1.heap.objs.size (.lst xs),I1.laid (t':=s1.toks) (fun b u e=>Zg _ e) (Zi _) ?_,rfl,q _ hf⟩
 exact ⟨z,us,0,r,Zt _ rfl⟩
end
abbrev Sp:=List V→Hp→VK→XK→Prop
abbrev CXT:=List Env→Hp→Fy→XK→Fx→Fy→Prop
structure Env0 (P:Fu) (w:Ft) (K:Fz) (mg:Str→Option Fx) (base:Fq) (A:Fv) (outer:List Env) (s:Fy) (H:Hp):Prop where
 frames:A.frames=some outer
 mod:Mod K mg base
 bs:∀ b o,base.get? b=some o→s.heap.get? b=some o∧H b=none
 bsz:base.objs.size≤s.heap.objs.size
 funs:s.heap.FunFrames base outer
 frf:(∀ b∈frs outer,H b=none)∧Qxg K H
 hok:HOk P w H s.heap
 bare:AllBare s.gens
def CE (outer:List Env) (P:Fu) (w:Ft) (H:Hp) (s:Fy) (Q:VK) (u:Fx) (s':Fy):Prop :=
 ∃ v H',s'.os=s.os∧AllBare s'.gens∧Un (frs outer) [] H H' s.heap s'.heap∧HOk P w H' s'.heap∧RelV v u∧Q v H'
def CR (CX:CXT) (outer:List Env) (P:Fu) (w:Ft) (H:Hp) (s:Fy) (Q:VK) (E:XK) (r:Result) (s':Fy):Prop :=
 match r with
 | .ok (.ret u)=>CE outer P w H s Q u s'
 | .ok _=>False
 | .error e=>CX outer H s E e s'
structure FnOk (P:Fu) (w:Ft) (K:Fz) (mg:Str→Option Fx) (base:Fq) (CX:CXT) (k:Nat) (f:Fw) (fd:FuncData) (ps:List Str) (sp:Sp):Prop where
 len:∀ vs H Q E,sp vs H Q E→vs.length=ps.length
 run:∀ (A:Fv) (outer:List Env) (s:Fy) (H:Hp) (args:Args) (us:List Fx) (vs:List V) (Q:VK) (E:XK),Room k A→Env0 P w K mg base A outer s H→BindsTo s fd args (ps.zip us)→Vals vs us→sp vs H Q E →
  codeAny (model P w) A (.call (.ref f) args) (CR CX outer P w H s Q E) s
theorem FnOk.mono {P:Fu} {w:Ft} {K:Fz} {mg:Str→Option Fx} {base:Fq} {CX:CXT} {j k:Nat} {f:Fw} {fd:FuncData} {ps:List Str} {sp:Sp} (F:FnOk P w K mg base CX j f fd ps sp) (h:j≤k) :
  FnOk P w K mg base CX k f fd ps sp:=⟨F.len,fun A outer s H args us vs Q E hr=>F.run A outer s H args us vs Q E (hr.mono h)⟩
section
variable {X:Cx} {aa:List (Fw×Obj)} {σ:St} {H:Hp} {s s':Fy}
theorem Inv.env0 (I:Inv X aa σ H s):Env0 X.prog X.w X.K X.mg X.base X.A X.stack s H :=
 ⟨I.ok.frames,I.ok.mod,I.bs,Zav I.ok.bsz I.sz,I.stack,⟨I.stkFree,I.tab⟩,I.hok,I.bare⟩
theorem Inv.after {Q:VK} {u:Fx} (I:Inv X aa σ H s) (h:CE X.stack X.prog X.w H s Q u s'):EP X aa σ Q u s':=by
 obtain ⟨v,H',os,bare,un,hok,r,q⟩:=h
 obtain ⟨hh,g,d,t,jp⟩:=s'
 obtain rfl:jp=s.os:=os
 exact ⟨v,H',I.call (h':=hh) (g':=g) (d':=d) (t':=t) (ch:=[]) un hok bare (fun b z=>absurd z (by simp)),r,q⟩
end
abbrev Qt2 (sp:Sp) (cH:List V) (E:XK) (t:TA):TE:=fun σ H Q=>t σ H fun vs H1=>sp (vs++cH) H1 Q E
def Binds (K:Fz) (fd:FuncData) (ps:List Str) (ds:List Fx):Prop :=
 ∀ (s:Fy) (us:List Fx),K.In s.heap→(us++ds).length=ps.length→BindsTo s fd ⟨us,[]⟩ (ps.zip (us++ds))
theorem Binds.all {K:Fz} {fd:FuncData} {ps:List Str} (h:∀ us:List Fx,us.length=ps.length→bindArgs fd ⟨us,[]⟩=pure (ps.zip us)):Binds K fd ps []:=fun s us _ hl=>by
 rw [Zal] at hl ⊢
 exact .of_eq (h us hl)
def Qr2 (CX:CXT) (X:Cx) (E:XK):Prop:=∀ (aa:List (Fw×Obj)) (σ:St) (H:Hp) (s:Fy) (e:Fx) (s':Fy),Inv X aa σ H s→CX X.stack H s E e s'→X.xe e s'
section
variable {X:Cx} {CX:CXT} {k:Nat} {f C:Fw} {fd:FuncData} {ps:List Str} {sp:Sp} {cH:List V} {ds:List Fx} {E:XK} {x m:Str} {p pos a9:Pos} {e o:Fr} {es:List Fr} {ta:TE} {t:TA}
theorem Q7g {aa:List (Fw×Obj)} {σ:St} {H:Hp} {s:Fy} {Q:VK} {us:List Fx} {vs:List V} (F:FnOk X.prog X.w X.K X.mg X.base CX k f fd ps sp) (hr:Room k X.A) (hb:Binds X.K fd ps ds) (hd:Vals cH ds) (hx:Qr2 CX X E)
  (I:Inv X aa σ H s) (r:Vals vs us) (h:sp (vs++cH) H Q E):wpAny (model X.prog X.w) X.A (call (.ref f) us) (EP X aa σ Q) X.xe s:=by
 have r2:Vals (vs++cH) (us++ds):=r.append hd
 have hl:(us++ds).length=ps.length:=by rw [←r2.length];exact F.len _ _ _ _ h
 refine wpAny_call (Zdo (F.run X.A X.stack s H ⟨us,[]⟩ (us++ds) (vs++cH) Q E hr I.env0 (hb s us I.kIn hl) r2 h) fun r s' hq=>?_)
 cases r with
 | error e=>exact hx aa σ H s e s' I hq
 | ok fl =>
  cases fl with
  | ret u=>exact I.after hq
  | next=>exact Zfb hq
  | brk=>exact Zfb hq
  | cont=>exact Zfb hq
theorem Q2e (F:FnOk X.prog X.w X.K X.mg X.base CX k f fd ps sp) (hr:Room k X.A) (hg:Gl X x) (hm:X.mg x=some (.ref f)) (hk:PySem.W.keepIn X.K (.ref f)=true) (hb:Binds X.K fd ps ds) (hd:Vals cH ds) (hx:Qr2 CX X E)
  (ha:PA X (e::es) t) (aD:(x==("__debug__" : Str))=false:=by decide) (he:starEach (e::es) X.env=(false,eval e X.env)::starEach es X.env:=by rfl) (bo:(backTo pos (starEach es X.env)).any (·.1)=false:=by rfl) :
  PE X (.Call (.Name x p) (e::es) [] pos) (Qt2 sp cH E t):=by
 intro aa s σ H Q I h
 refine Zcs (Qn3 I hg hm ?_ aD)
 refine PySem.W.callWith_K (h₀:=X.base) I.ok.mod.kin hk (thn (ha pos aa s σ H _ I h) fun us s1 ⟨vs,H1,I1,r,q⟩=>⟨I1.kIn,?_⟩) he bo
 exact Q7g F hr hb hd hx I1 r q
structure Mk (K:Fz) (C f:Fw):Prop where
 makes:PySem.W.makesIn K C=true
 init:PySem.W.findIn K (.ref C) "__init__" = some (some (.ref f))
 fn:PySem.W.isFn K (.ref f)=true
 kp:PySem.W.keepIn K (.ref C)=true
end
section
variable {X:Cx} {CX:CXT} {k:Nat} {f C:Fw} {fd:FuncData} {ps ks:List Str} {sp:Sp} {E:XK} {x m:Str} {p pos a9 jH:Pos} {e o:Fr} {es:List Fr} {km:List Keyword} {te ta:TE} {t tk:TA} {nm:Option Str}
structure KBinds (K:Fz) (fd:FuncData) (ps ks:List Str) (g:List Fx→List Fx→List Fx) (gV:List V→List V→List V):Prop where
 to:∀ (s:Fy) (us ws:List Fx),K.In s.heap→(g us ws).length=ps.length→BindsTo s fd ⟨us,ks.zip ws⟩ (ps.zip (g us ws))
 rel:∀ {vs:List V} {us:List Fx} {zs:List V} {ws:List Fx},Vals vs us→Vals zs ws→Vals (gV vs zs) (g us ws)
variable {g:List Fx→List Fx→List Fx} {gV:List V→List V→List V}
end
structure FnScope (N P:List Str) (sc:Scope):Prop where
 kind:sc.kind=.function
 co:sc.isCoroutine=false
 gen:sc.isGenerator=false
 nd:N.Nodup
 pre:N.take P.length=P
 par:∀ x∈P,sc.names.lookup x=some .local∨sc.names.lookup x=some .cell
 nofree:∀ y∈sc.names,y.2≠.free
theorem Qmz {kindOf:Str→Option NameKind} {x:Str}:∀ {binds:List (Str×Fx)} {m:Str→Option Fx},(∀ v,(x,v)∉binds)→bindL kindOf binds m x=m x
 | [],_,_=>rfl
 | (n,v)::r,m,h=>by
  unfold bindL
  rw [Qmz fun w hw=>h w (Zak _ hw)]
  split
  ·have:x≠n:=by rintro rfl;exact h v Za8
   simp [this]
  ·rfl
theorem Qm0 {kindOf:Str→Option NameKind} {x:Str}:∀ {binds:List (Str×Fx)} {m:Str→Option Fx},(∀ v,(x,v)∉binds)→bindC kindOf binds m x=m x
 | [],_,_=>rfl
 | (n,v)::r,m,h=>by
  unfold bindC
  rw [Qm0 fun w hw=>h w (Zak _ hw)]
  split
  ·rfl
  ·have:x≠n:=by rintro rfl;exact h v Za8
   simp [this]
theorem Qm1 {kindOf:Str→Option NameKind} {x:Str} {v:Fx}:∀ {P:List Str} {vs:List Fx} {i:Nat} {m:Str→Option Fx},P.Nodup→P[i]?=some x→vs[i]?=some v→kindOf x=some .local →
  bindL kindOf (P.zip vs) m x=some v
 | [],_,_,_,_,h,_,_=>by simp at h
 | _::_,[],_,_,_,_,h,_=>by simp at h
 | p::P,w::vs,0,m,nd,h1,h2,hk=>by
  simp at h1 h2;subst h1;subst h2
  show bindL kindOf ((p,w)::P.zip vs) m p=_
  unfold bindL
  rw [Qmz fun v hv=>(Zbm.mp nd).1 (Zes hv).1,Zb hk]
  simp
 | p::P,w::vs,i+1,m,nd,h1,h2,hk=>by
  show bindL kindOf ((p,w)::P.zip vs) m x=_
  unfold bindL
  exact Qm1 (i:=i) (Zbm.mp nd).2 (by simpa using h1) (by simpa using h2) hk
theorem Qm2 {kindOf:Str→Option NameKind} {x:Str} {v:Fx}:∀ {P:List Str} {vs:List Fx} {i:Nat} {m:Str→Option Fx},P.Nodup→P[i]?=some x→vs[i]?=some v→kindOf x≠some .local →
  bindC kindOf (P.zip vs) m x=some v
 | [],_,_,_,_,h,_,_=>by simp at h
 | _::_,[],_,_,_,_,h,_=>by simp at h
 | p::P,w::vs,0,m,nd,h1,h2,hk=>by
  simp at h1 h2;subst h1;subst h2
  show bindC kindOf ((p,w)::P.zip vs) m p=_
  unfold bindC
  rw [Qm0 fun v hv=>(Zbm.mp nd).1 (Zes hv).1,Zd hk]
  simp
 | p::P,w::vs,i+1,m,nd,h1,h2,hk=>by
  show bindC kindOf ((p,w)::P.zip vs) m x=_
  unfold bindC
  exact Qm2 (i:=i) (Zbm.mp nd).2 (by simpa using h1) (by simpa using h2) hk
def Qb2 (N:List Str) (vs:List V):St:=vs.map some++List.replicate (N.length-vs.length) none
def Qhp (g:Str→Bool) (CX:CXT) (P:Fu) (w:Ft) (K:Fz) (mg:Str→Option Fx) (base:Fq) (N:List Str) (qual:Str) (scope:Scope) (f:Fw) (cd:Fx) (A:Fv) (outer:List Env) (s:Fy) (H:Hp) (E:XK):Cx where
 prog:=P
 w:=w
 K:=K
 mg:=mg
 base:=base
 A:=A.deeper (envOfC qual scope s.heap.objs.size f cd)
 N:=N
 s₀:=s
 H₀:=H
 env:=envOfC qual scope s.heap.objs.size f cd
 outer:=outer
 stack:=envOfC qual scope s.heap.objs.size f cd::outer
 ex:=[]
 calm:=true
 fn:=g
 pn:=[]
 xe:=fun e s'=>wpAny (model P w) (A.deeper (envOfC qual scope s.heap.objs.size f cd)) (leaving (envOfC qual scope s.heap.objs.size f cd) e) (fun _ dy=>CX outer H s E e dy) (fun e' dy=>CX outer H s E e' dy) s'
theorem Qpu {sc:Scope} {n:Nat} {x:Str} (h:sc.names.lookup x=some .cell):∃ c,(cellsFrom n sc.names []).lookup x=some c:=by
 have q:=Zbo sc.names n [] (.inl h)
 exact Zbf.mp q
theorem Qv8 {g:Str→Bool} {CX:CXT} {P:Fu} {w:Ft} {K:Fz} {mg:Str→Option Fx} {base:Fq} {N ps:List Str} {qual:Str} {scope:Scope} {f:Fw} {cd:Fx} {A:Fv} {outer:List Env} {s s1:Fy} {H:Hp} {E:XK} {us:List Fx} {vs:List V}
  (S:FnScope N ps scope) (hd:A.handled=none) (e0:Env0 P w K mg base A outer s H) (hl:vs.length=ps.length) (r:Vals vs us)
  (x:InCallC s s.heap.objs.size (bindL (envOfC qual scope s.heap.objs.size f cd).kindOf (ps.zip us) fun _=>none) (cellsFrom (s.heap.objs.size+1) scope.names []) (bindC (envOfC qual scope s.heap.objs.size f cd).kindOf (ps.zip us) fun _=>none) s1) :
  Inv (Qhp g CX P w K mg base N qual scope f cd A outer s H E) [] (Qb2 N vs) H s1:=by
 have bo:ps.length≤N.length:=by have:=congrArg List.length S.pre;rw [Zcv] at this;omega
 obtain ⟨h1,tk,rfl,hk⟩:=x.done
 have dQ:∀ b:Fw,b∉(Qhp g CX P w K mg base N qual scope f cd A outer s H E).ex:=fun b z=>absurd (show b∈([]:List Fw) from z) (by simp)
 refine ⟨⟨e0.mod,S.kind,rfl,rfl,Zi _,fun y z c h1 h2=>?_,fun y hy=>?_,fun y c _ h=>?_,fun _=>hd,Around.frames_deeper e0.frames,.inr ⟨rfl,rfl⟩,fun b z=>absurd z (dQ b),e0.bs,e0.bsz,fun b _ _=>dQ b,fun b z=>absurd z (dQ b),e0.funs,e0.frf⟩,
  rfl,e0.bare,Un.kept hk,⟨_,x.toInCall.ns,fun i y v h1 h2 h3=>?_⟩,fun y c h=>⟨_,x.cell y c h⟩,e0.hok.fresh (Zi _),fun y c h=>?_,fun p hp=>absurd (show p∈([]:List (Fw×Obj)) from hp) (by simp),e0.hok.kept hk,?_⟩
 ·exact name_of_addr x.apart (Zai h1) (Zai h2)
 ·have hy:scope.names.lookup y=some .cell∨scope.names.lookup y=some .free:=hy
  rcases hy with hy | hy
  ·exact Qpu hy
  ·exact absurd rfl (S.nofree _ (Zai hy))
 ·exact Ze7 (x.above y c (Zai h))
 ·have hi:i<vs.length:=by
   unfold Qb2 at h2
   by_cases hi:i<vs.length
   ·exact hi
   ·rw [Zbp (by simpa using hi),Zb7] at h2
    split at h2 <;> cases h2
  have ha:vs[i]?=some v:=by
   unfold Qb2 at h2
   rw [Zbr (by simpa using hi),Z8] at h2
   cases e:vs[i]? with
   | none=>rw [e] at h2;cases h2
   | some a=>rw [e] at h2;cases h2;rfl
  obtain ⟨u,hu,rv⟩:=r.get ha
  have hp:ps[i]?=some y:=by
   rw [←S.pre,List.getElem?_take_of_lt (by omega)];exact h1
  have io:ps.Nodup:=by rw [←S.pre];exact S.nd.sublist (List.take_sublist _ _)
  refine ⟨u,rv,?_⟩
  rcases S.par y (Z2 hp) with k | k
  ·exact .inl ⟨k,Qm1 io hp hu k⟩
  ·obtain ⟨c,e⟩:=Qpu (n:=s.heap.objs.size+1) k
   refine .inr ⟨.inl k,c,e,?_⟩
   have q:=x.cell y c e
   rw [Qm2 io hp hu (by show scope.names.lookup y≠_;rw [k];decide)] at q
   exact q
 ·exact .inl (e0.hok.fresh (Ze7 (x.above y c (Zai h))))
 ·unfold Qb2
  show _=N.length
  rw [Zq,Zf,Zb1]
  omega
theorem Q42 {g:Str→Bool} {CX:CXT} {P:Fu} {w:Ft} {K:Fz} {mg:Str→Option Fx} {base:Fq} {k:Nat} {f:Fw} {name qual:Str} {params:Arguments} {body:List Fs} {scope:Scope} {dV kV aG pm ag ct oc:Fx} {an od:Option Fw}
  {bn:Array (Option Fx)} {N ps:List Str} {sp:Sp} (lk:K.lookup f=some ⟨oc,od,.func (PySem.W.fnOf name qual params body scope dV kV aG pm an ag ct),bn⟩) (aT:PySem.W.codeIn K ag qual=true) (S:FnScope N ps scope)
  (len:∀ vs H Q E,sp vs H Q E→vs.length=ps.length)
  (aw:∀ (A:Fv) (outer:List Env) (s:Fy) (H:Hp) (vs:List V) (Q:VK) (E:XK),Room k (A.deeper (envOfC qual scope s.heap.objs.size f ag))→sp vs H Q E →
   ∃ t,PSs (Qhp g CX P w K mg base N qual scope f ag A outer s H E) body t∧t { nx:=fun _ H'=>Q .non H',rt:=Q } (Qb2 N vs) H) :
  FnOk P w K mg base CX (k+1) f (PySem.W.fnOf name qual params body scope dV kV aG pm an ag ct) ps sp:=by
 refine ⟨len,fun A outer s H args us vs Q E hr e0 hb r bA=>?_⟩
 have hl:=len _ _ _ _ bA
 have KX:K.In s.heap:=e0.mod.kin.keeps fun b o e=>(e0.bs b o e).1
 have jd:s.heap.NoLimit:=e0.mod.nolimit.keeps fun b o e=>(e0.bs b o e).1
 have e8:∀ y∈ps.zip us,scope.names.lookup y.1=some .local∨(scope.names.lookup y.1=some .cell∧((cellsFrom (s.heap.objs.size+1) scope.names []).lookup y.1).isSome=true):=fun ⟨n,v⟩ hy=>by
  rcases S.par n (Zes hy).1 with q | q
  ·exact .inl q
  ·exact .inr ⟨q,Zbo _ _ _ (.inl q)⟩
 refine codeAny_call_function hr.depth (KX _ _ lk) rfl S.co S.gen rfl (PySem.W.codeRec_of KX aT) (hb _ _ _ _ ?_)
 refine wpAny_newFunctionEnv_cells S.kind e8 fun env he s1 x=>?_
 subst he
 refine ⟨jd.keeps x.toInCall.keep,codeAny_func ?_⟩
 obtain ⟨t,ht,hq⟩:=aw A outer s H vs Q E (hr.deeper _) bA
 have I:Inv (Qhp g CX P w K mg base N qual scope f ag A outer s H E) [] (Qb2 N vs) H s1:=Qv8 S hr.hd e0 hl r x
 refine Zbl (ht [] s1 (Qb2 N vs) H _ I hq) (fun fl s' hs=>?_) fun e s' hs=>hs
 have fin:∀ {σ':St} {H':Hp} {v:V} {u:Fx},Inv (Qhp g CX P w K mg base N qual scope f ag A outer s H E) [] σ' H' s'→RelV v u→Q v H'→CE outer P w H s Q u s' :=
  fun {σ' H' v u} J rv q=>⟨v,H',J.os,J.bare,J.base,J.hok,rv,q⟩
 cases fl with
 | ret u =>
  obtain ⟨v,σ',H',J,rv,q⟩:=hs
  exact fin J rv q
 | next =>
  obtain ⟨σ',H',J,q⟩:=hs
  exact fin (v:=V.non) (u:=Value.none) J rfl q
 | brk =>
  obtain ⟨_,_,_,q⟩:=hs
  exact Zfb q
 | cont =>
  obtain ⟨_,_,_,q⟩:=hs
  exact Zfb q
section
variable {X:Cx} {x:Str} {p pos:Pos} {e:Fr} {es:List Fr} {t:TA} {id T:String} {r:List V→Hp→VK→Prop}
abbrev tCB (r:List V→Hp→VK→Prop) (t:TA):TE:=fun σ H Q=>t σ H fun vs H1=>r vs H1 Q
theorem Qxt (hc:CallR X (.builtin id) r) (hg:Gl X x) (hm:X.mg x=none) (hv:bootBuiltins x=some (.builtin id)) (ha:PA X (e::es) t) (hn:x ≠ "__name__" := by decide) (aD:(x==("__debug__" : Str))=false:=by decide)
  (he:starEach (e::es) X.env=(false,eval e X.env)::starEach es X.env:=by rfl) (bo:(backTo pos (starEach es X.env)).any (·.1)=false:=by rfl):PE X (.Call (.Name x p) (e::es) [] pos) (tCB r t):=by
 intro aa s σ H Q I h
 refine Zcs (Qjd I hg hm hv ?_ hn aD)
 exact PyProof.Rows.callWith_builtin1 (thn (ha pos aa s σ H _ I h) fun us s1 ⟨vs,H1,I1,r1,q1⟩=>hc aa s1 σ H1 vs us Q I1 r1 q1) he bo
theorem Qv9 (hc:CallR X (.type T) r) (hg:Gl X x) (hm:X.mg x=none) (hv:bootBuiltins x=some (.type T)) (ha:PA X (e::es) t) (hn:x ≠ "__name__" := by decide) (aD:(x==("__debug__" : Str))=false:=by decide)
  (he:starEach (e::es) X.env=(false,eval e X.env)::starEach es X.env:=by rfl) (bo:(backTo pos (starEach es X.env)).any (·.1)=false:=by rfl):PE X (.Call (.Name x p) (e::es) [] pos) (tCB r t):=by
 intro aa s σ H Q I h
 refine Zcs (Qjd I hg hm hv ?_ hn aD)
 exact PyProof.Rows.callWith_type1 (thn (ha pos aa s σ H _ I h) fun us s1 ⟨vs,H1,I1,r1,q1⟩=>hc aa s1 σ H1 vs us Q I1 r1 q1) he bo
end
end L2
namespace HT
open PySem PyProof.Rows
def lexLt:List Int→List Int→Bool
 | [],[]=>false
 | [],_::_=>true
 | _::_,[]=>false
 | x::xs,y::ys=>if x=y then lexLt xs ys else decide (x<y)
theorem lexLt_cons (x y:Int) (xs ys:List Int):lexLt (x::xs) (y::ys)=if x=y then lexLt xs ys else decide (x<y):=rfl
theorem lexLt_nil_nil:lexLt [] []=false:=rfl
theorem lexLt_nil_cons (y:Int) (ys:List Int):lexLt [] (y::ys)=true:=rfl
theorem lexLt_cons_nil (x:Int) (xs:List Int):lexLt (x::xs) []=false:=rfl
theorem eqAt_int (A:Fv) (s:Fy) (a:Int) (t:Tok) (c:Int) (u:Tok):∃ e,SeqAt.EqAt A s (.int a t) (.int c u) e∧(e=true↔a=c) :=
 ⟨(a==c),Zct a t c u,by simp⟩
theorem rcLt_int (A:Fv) (s:Fy) (a:Int) (t:Tok) (c:Int) (u:Tok) (prog:Fu) (w:Ft) (E:Fx→Fy→Prop) (Q:Fx→Fy→Prop) (h:Q (.bool (decide (a<c))) s) :
  wpAny (model prog w) A (richCompare .Lt (.int a t) (.int c u)) Q E s :=
 (PyProof.Rows.lt_int h:wpAny (model prog w) A (compareOp .Lt (.int a t) (.int c u)) Q E s)
section
open PySem.SeqAt
open PySem.AutoSeq1 (wpAny_loadPart')
open PySem.MeetsSeq PySem.MeetsSeq2 PySem.MeetsSeq3
theorem tuple_lt_ints (l b:Fw) (items ae:Array Fx) (n n2:Nat) (dd aU:Option Fw) (sl aV:Array (Option Fx)) (ns ms:List Int) (hi:IntsAre items.toList ns) (hj:IntsAre ae.toList ms) :
  Meets (Builtin.«tuple.__lt__» ⟨[.ref l,.ref b],[]⟩)
   (fun _ R s=>s.heap.get? l=some { cls:=.type "tuple",dict:=dd,data:=.seq items n,slots:=sl }∧s.heap.get? b=some { cls:=.type "tuple",dict:=aU,data:=.seq ae n2,slots:=aV } ∧
    R (.ok (.ret (.bool (lexLt ns ms)))) s) :=
 .of_wp fun prog w A R s h=>by
  obtain ⟨hp,g,d,tk,os⟩:=s;obtain ⟨hl,hb,h⟩:=h
  have f2:=Zec
  have z1:items.size=ns.length:=by rw [←hi.length];simp
  have z2:ae.size=ms.length:=by rw [←hj.length];simp
  wp_walk using wpAny_loadPart' hl,wpAny_loadPart' hb,wpAny_forIn_list _ (fun rest b s'=>b.1=none∧s'=⟨hp,g,d,tk,os⟩∧∃ (vs ws:List Fx) (dF dw:List Int),rest=vs.zip ws ∧
   IntsAre vs dF∧IntsAre ws dw∧dF.length+ae.size=dw.length+items.size∧R (.ok (.ret (.bool (lexLt dF dw)))) ⟨hp,g,d,tk,os⟩) _
  case turn =>
   rintro ⟨y,x⟩ rest b s' ⟨cw,rfl,vs,ws,dF,dw,hz,fM,fF,ah,hR⟩
   cases fM with
   | nil=>rw [List.zip_nil_left] at hz;cases hz
   | cons a t hvi' =>
    cases fF with
    | nil=>rw [List.zip_nil_right] at hz;cases hz
    | cons c u hwi' =>
     rw [List.zip_cons_cons] at hz
     injection hz with jf dZ
     injection jf with hy hx
     subst hy hx
     rw [lexLt_cons] at hR
     simp only [Zh] at ah
     obtain ⟨e,he,eT⟩:=eqAt_int A.in1 ⟨hp,g,d,tk,os⟩ a t c u
     refine Zc (he prog w _ _ ?_)
     cases e with
     | true =>
      rw [Zb (eT.mp rfl)] at hR
      wp_walk
      exact ⟨rfl,rfl,_,_,_,_,dZ,hvi',hwi',by omega,hR⟩
     | false =>
      rw [Zd (fun q=>absurd (eT.mpr q) Zk)] at hR
      have jL:=rcLt_int A.in1 ⟨hp,g,d,tk,os⟩ a t c u prog w
      wp_walk using jL
      exact ⟨_,rfl,by simpa using hR⟩
  case fin =>
   rintro ⟨b1,b2⟩ s' ⟨cw,rfl,vs,ws,dF,dw,hz,fM,fF,ah,hR⟩
   simp only at cw
   subst cw
   have hv:lexLt dF dw=decide (items.size<ae.size):=by
    cases fM with
    | nil =>
     cases fF with
     | nil =>
      simp only [Zu] at ah
      rw [lexLt_nil_nil]
      exact (Z4 (by omega)).symm
     | cons c u hw =>
      simp only [Zu,Zh] at ah
      rw [lexLt_nil_cons]
      exact (Zaf (by omega)).symm
    | cons a t hv =>
     cases fF with
     | nil =>
      simp only [Zu,Zh] at ah
      rw [lexLt_cons_nil]
      exact (Z4 (by omega)).symm
     | cons c u hw =>
      rw [List.zip_cons_cons] at hz
      cases hz
   rw [hv] at hR
   wp_walk
   exact ⟨_,rfl,by simpa [Builtin.Tuple.tupleCompareSizes] using hR⟩
  case h =>
   exact ⟨rfl,rfl,items.toList,ae.toList,ns,ms,rfl,hi,hj,by omega,h⟩
end
section
variable {prog:Fu} {w:Ft} {A:Fv} {E:Fx→Fy→Prop} {s:Fy}
theorem lt_tupInts {l b:Fw} {items ae:Array Fx} {ns ms:List Int} {Q:Fx→Fy→Prop} (hl:IsTup s.heap l items) (hb:IsTup s.heap b ae) (hi:IntsAre items.toList ns) (hj:IntsAre ae.toList ms)
  (hu:A.units<cLine) (h:Q (.bool (lexLt ns ms)) s):wpAny (model prog w) A (compareOp .Lt (.ref l) (.ref b)) Q E s:=by
 obtain ⟨⟨cls,dd,data,sl⟩,ho,hc,n,hd⟩:=id hl
 obtain ⟨⟨c4,aU,data2,aV⟩,a7,bE,n2,b8⟩:=id hb
 simp only at hc hd bE b8
 subst hc hd bE b8
 exact richCompare_meets_room (op:=.Lt) ⟨_,ho,rfl⟩ ⟨_,a7,rfl⟩ PySem.F.slot_tuple_lt PySem.F.entry_tuple_lt (PySem.F.args_tuple_lt_2 _ _) (tuple_lt_ints l b items ae n n2 dd aU sl aV ns ms hi hj)
  ⟨ho,a7,show Value.bool (lexLt ns ms)≠Value.notImplemented∧Q (.bool (lexLt ns ms)) s from ⟨(fun x=>nomatch x),h⟩⟩ hu
theorem cat_tup {t b:Fw} {vs ws:List Fx} {Q:Fx→Fy→Prop} (ht:IsTup s.heap t vs.toArray) (hb:IsTup s.heap b ws.toArray) (hv:vs≠[])
  (h1:ws=[]→Q (.ref t) s) (h2:ws≠[]→Q (.ref s.heap.objs.size) { s with heap:=s.heap.push { cls:=.type "tuple",data:=.seq (vs++ws).toArray } })
  (aE:vs.length+ws.length≤sizeLine):wpAny (model prog w) A (binaryOp .Add (.ref t) (.ref b)) Q E s:=by
 obtain ⟨⟨cls,dd,data,sl⟩,ho,hc,n,hd⟩:=id ht
 obtain ⟨⟨c4,aU,data2,aV⟩,a7,bE,n2,b8⟩:=id hb
 simp only at hc hd bE b8
 subst hc hd bE b8
 have e:vs.toArray++ws.toArray=(vs++ws).toArray:=by simp
 by_cases hw:ws=[]
 ·exact Ze9 ⟨_,ho,rfl⟩ ⟨_,a7,rfl⟩ Zee Ze3 Zc5 Zcx (Zcp _ _)
   (tuple_addW1 t b vs.toArray ws.toArray n n2 dd aU sl aV (by simpa using hv) (by simp [hw])) ⟨ho,a7,h1 hw⟩
 ·refine Ze9 ⟨_,ho,rfl⟩ ⟨_,a7,rfl⟩ Zee Ze3 Zc5 Zcx (Zcp _ _)
   (tuple_addW2 t b vs.toArray ws.toArray n n2 dd aU sl aV (by simpa using hv) (by simpa using hw) (by rw [Zp,Zp];exact aE)) ⟨ho,a7,?_⟩
  rw [e]
  exact h2 hw
def sIx (n d:Nat):Option Int→Nat
 | none=>d
 | some v=>if v<0 then (v+(n:Int)).toNat else min v.toNat n
theorem sIx_none (n d:Nat):sIx n d none=d:=rfl
theorem sIx_nat (n d k:Nat):sIx n d (some (k:Int))=min k n:=by
 show (if (k:Int)<0 then ((k:Int)+(n:Int)).toNat else min (k:Int).toNat n)=min k n
 rw [Zd (by omega),Zaw]
theorem sIx_le (n d:Nat) (hd:d≤n) (o:Option Int):sIx n d o≤n:=by
 cases o with
 | none=>exact hd
 | some v =>
  show (if v<0 then (v+(n:Int)).toNat else min v.toNat n)≤n
  by_cases hv:v<0
  ·rw [Zb hv];omega
  ·rw [Zd hv];exact Nat.min_le_right _ _
theorem clip_eq (v:Int) (n d:Nat):(if v<0 then max (v+(n:Int)) 0 else min v (n:Int))=((sIx n d (some v):Nat):Int):=by
 show (if v<0 then max (v+(n:Int)) 0 else min v (n:Int))=(((if v<0 then (v+(n:Int)).toNat else min v.toNat n):Nat):Int)
 by_cases hv:v<0
 ·simp only [Zb hv];omega
 ·simp only [Zd hv];omega
theorem adjust_gen (lo hi:Option Int) (n:Nat):Builtin.Slice.sliceAdjust lo hi 1 (n:Int)=(((sIx n 0 lo:Nat):Int),((sIx n n hi:Nat):Int)):=by
 have h1:¬ ((1:Int)<0):=by omega
 unfold Builtin.Slice.sliceAdjust
 simp only [h1,Za2]
 refine Prod.ext ?_ ?_
 ·cases lo with
  | none=>rfl
  | some v=>exact clip_eq v n 0
 ·cases hi with
  | none=>rfl
  | some v=>exact clip_eq v n n
theorem places_gen (i j:Nat):Builtin.Slice.slicePlaces (i:Int) (j:Int) 1=j-i:=by
 unfold Builtin.Slice.slicePlaces
 have h1:(1:Int)>0:=by omega
 simp only [h1,Zr,Int.ediv_one]
 split <;> omega
theorem slicePart_ {v:Fx} {o:Option Int} {Q:Option Int→Fy→Prop} (p:IsPart v o) (h:Q o s):wpAny (model prog w) A (Builtin.Slice.slicePartIndex v) Q E s:=by
 cases p with
 | none=>exact slicePart_none h
 | int i t=>exact slicePart_int h
theorem sliceApplied_gen {sl:Fw} {vl vu:Fx} {lo hi:Option Int} {n:Nat} {Q:Int×Int×Nat→Fy→Prop} (hs:s.heap.IsSliceOf sl vl vu .none) (pl:IsPart vl lo) (pu:IsPart vu hi)
  (h:Q (((sIx n 0 lo:Nat):Int),1,sIx n n hi-sIx n 0 lo) s):wpAny (model prog w) A (Builtin.Slice.sliceApplied (.ref sl) (pure (n:Int))) Q E s:=by
 obtain ⟨os,br,ft,dN⟩:=id hs
 unfold Builtin.Slice.sliceApplied Builtin.Slice.sliceFields
 refine Zc (Zc (Zbc br dN (x:=vl) rfl (Zc (Zbc br dN (x:=vu) rfl (Zc (Zbc br dN (x:=.none) rfl (Zs ?_)))))))
 refine Zc (slicePart_none ?_)
 show wpAny _ _ (if ((1:Int)==0)=true then _ else _) _ _ s
 rw [Zd (by decide)]
 refine Zc (slicePart_ pl (Zc (slicePart_ pu (Zc (Zs ?_)))))
 show wpAny _ _ (match Builtin.Slice.sliceAdjust lo hi 1 (n:Int) with | (lo,hi)=>pure (lo,(1:Int),Builtin.Slice.slicePlaces lo hi 1)) _ _ s
 rw [adjust_gen lo hi n]
 show wpAny _ _ (pure (((sIx n 0 lo:Nat):Int),(1:Int),Builtin.Slice.slicePlaces ((sIx n 0 lo:Nat):Int) ((sIx n n hi:Nat):Int) 1)) _ _ s
 rw [places_gen]
 exact Zs h
theorem pick_gen (xs:Array Fx) (i k:Nat):((List.range k).filterMap fun (m:Nat)=>xs[((i:Int)+(m:Int)*1).toNat]?).toArray=((xs.toList.drop i).take k).toArray:=by
 have e:(fun (m:Nat)=>xs[((i:Int)+(m:Int)*1).toNat]?)=fun m=>xs[i+m]?:=by
  funext m
  have:((i:Int)+(m:Int)*1).toNat=i+m:=by omega
  rw [this]
 rw [e]
 have:=pick_run xs i k
 rw [List.filterMap_map] at this
 have e2:((fun x=>xs[x]?) ∘ fun x=>i+x)=fun m=>xs[i+m]?:=rfl
 rw [e2] at this
 rw [this]
theorem getItem_tuple_cut {t sl:Fw} {items:Array Fx} {vl vu:Fx} {lo hi:Option Int} {Q:Fx→Fy→Prop} (ht:IsTup s.heap t items) (hs:s.heap.IsSliceOf sl vl vu .none) (pl:IsPart vl lo) (pu:IsPart vu hi)
  (hw:¬ (sIx items.size 0 lo=0∧sIx items.size items.size hi=items.size))
  (h:Q (.ref s.heap.objs.size) { s with heap:=s.heap.push { cls:=.type "tuple",data:=.seq ((items.toList.drop (sIx items.size 0 lo)).take (sIx items.size items.size hi-sIx items.size 0 lo)).toArray } })
  (aE:items.size≤sizeLine):wpAny (model prog w) A (getItem (.ref t) (.ref sl)) Q E s:=by
 have bF:sizeOk (.seq ((items.toList.drop (sIx items.size 0 lo)).take (sIx items.size items.size hi-sIx items.size 0 lo)).toArray):=by
  show ((items.toList.drop (sIx items.size 0 lo)).take (sIx items.size items.size hi-sIx items.size 0 lo)).toArray.size≤sizeLine
  rw [Zp,Zcv,Zdb,Zz]
  omega
 have hj:sIx items.size items.size hi≤items.size:=sIx_le _ _ (Zi _) hi
 obtain ⟨os,br,ft,dN⟩:=id hs
 have fL:s.TypeIs (.ref sl) "slice" := ⟨os,br,ft⟩
 unfold getItem
 try with_reducible refine Zcg ?_
 first | refine Zc (Zs ?_) | skip
 refine Zc (wpAny_sequenceKey ht.typeIs (by decide) ?_)
 refine Zc (Zbk (name:=Str.ofString "__getitem__") ht.typeIs PyProof.Rows.slot_tuple_getitem
  (Zb2 PyProof.Rows.slot_tuple_getitem ht.typeIs entry_tuple_getitem ?_ (args_tuple_getitem _ _)))
 show wpAny _ _ (Builtin.Tuple.tupleItemsOf (.ref t) >>= _) _ _ s
 refine Zc (tupleItemsOf_ ht ?_)
 refine Zc (Zej fL ?_)
 rw [Zb (by decide)]
 refine Zc (sliceApplied_gen hs pl pu ?_)
 have eI:¬ ((((sIx items.size 0 lo:Nat):Int)==0&&(1:Int)==1&&(sIx items.size items.size hi-sIx items.size 0 lo)==items.size)=true):=by
  intro q
  rw [Zm,Zm] at q
  have q1:((sIx items.size 0 lo:Nat):Int)=0:=eq_of_beq q.1.1
  have q2:sIx items.size items.size hi-sIx items.size 0 lo=items.size:=eq_of_beq q.2
  exact hw ⟨by omega,by omega⟩
 show wpAny _ _ (if (((sIx items.size 0 lo:Nat):Int)==0&&(1:Int)==1&&(sIx items.size items.size hi-sIx items.size 0 lo)==items.size)=true then _ else _) _ _ s
 rw [Zd eI,pick_gen]
 first
  | exact Zc (m:=Builtin.Tuple.tupleExact _) (Zag (Zs ⟨_,rfl,Zs h⟩) bF)
  | exact Zc (m:=Builtin.Tuple.tupleExact _) (Zag (Zc (Zs (Zs ⟨_,rfl,Zs h⟩))) bF)
  | exact Zc (Zc (m:=Builtin.Tuple.tupleExact _) (Zag (Zs (Zs ⟨_,rfl,Zs h⟩)) bF))
  | exact Zc (Zc (m:=Builtin.Tuple.tupleExact _) (Zag (Zs ⟨_,rfl,Zs h⟩) bF))
end
end HT
namespace L2
open PySem PySem.Spec PyProof.Rows
abbrev TO:=St→Hp→(Option Int→Hp→Prop)→Prop
def PO (X:Cx) (e:Option Fr) (t:TO):Prop :=
 ∀ (aa:List (Fw×Obj)) (s:Fy) (σ:St) (H:Hp) (Q:Option Int→Hp→Prop),Inv X aa σ H s→t σ H Q →
  wpAny (model X.prog X.w) X.A (evalPart e X.env) (fun u s'=>∃ o H',Inv X aa σ H' s'∧IsPart u o∧Q o H') X.xe s
abbrev Qt3:TO:=fun _ H Q=>Q none H
abbrev Qt4 (t:TE):TO:=fun σ H Q=>t σ H fun x H1=>∃ i,x=.int i∧Q (some i) H1
theorem Qft {ns:List Int}:∀ {us:List Fx},Vals (ns.map V.int) us→IntsAre us ns:=by
 induction ns with
 | nil=>intro us r;rw [Zcz] at r;cases r;exact .nil
 | cons n ns ih =>
  intro us r
  rw [Zaq] at r
  cases r with
  | cons r1 r2 =>
   obtain ⟨t,e⟩:=r1
   subst e
   exact .cons n t (ih r2)
section
variable {X:Cx} {e:Fr} {te:TE} {lo hi:Option Fr} {tl th:TO} {pos p2:Pos}
theorem Q2f:PO X none Qt3:=by
 intro aa s σ H Q I h
 rw [evalPart_none]
 exact Zs ⟨none,H,I,.none,h⟩
theorem Q2g (h:PE X e te):PO X (some e) (Qt4 te):=by
 intro aa s σ H Q I hw
 rw [evalPart_some]
 refine thn (h aa s σ H _ I hw) fun u s1 ⟨x,H1,I1,r1,q1⟩=>?_
 obtain ⟨i,rfl,q⟩:=q1
 obtain ⟨t,rfl⟩:=r1
 exact ⟨some i,H1,I1,.int i t,q⟩
def SlR (X:Cx) (r:V→Option Int→Option Int→Hp→VK→Prop):Prop :=
 ∀ (aa:List (Fw×Obj)) (s:Fy) (σ:St) (H:Hp) (x:V) (v vl vu:Fx) (lo hi:Option Int) (sl:Fw) (Q:VK),Inv X aa σ H s→RelV x v→s.heap.IsSliceOf sl vl vu .none→IsPart vl lo→IsPart vu hi→r x lo hi H Q →
  ∃ T id,typeLookup (.type T) "__getitem__" = pure (some (.builtin id))∧s.TypeIs v T∧wpAny (model X.prog X.w) X.A (getItem v (.ref sl)) (EP X aa σ Q) X.xe s
theorem SlR.or {r r':V→Option Int→Option Int→Hp→VK→Prop} (h:SlR X r) (h':SlR X r'):SlR X (fun x lo hi H Q=>r x lo hi H Q∨r' x lo hi H Q):=by
 intro aa s σ H x v vl vu lo hi sl Q I rx hs pl pu q
 rcases q with q | q
 ·exact h aa s σ H x v vl vu lo hi sl Q I rx hs pl pu q
 ·exact h' aa s σ H x v vl vu lo hi sl Q I rx hs pl pu q
abbrev tSl (r:V→Option Int→Option Int→Hp→VK→Prop) (te:TE) (tl th:TO):TE:=fun σ H Q=>te σ H fun x H1=>tl σ H1 fun l H2=>th σ H2 fun u H3=>r x l u H3 Q
theorem Qxu {r:V→Option Int→Option Int→Hp→VK→Prop} (hr:SlR X r) (he:PE X e te) (hl:PO X lo tl) (hu:PO X hi th):PE X (.Subscript e (.Slice lo hi none p2) pos) (tSl r te tl th):=by
 intro aa s σ H Q I h
 refine Subscript_ (thn (he aa s σ H _ I h) fun v s1 ⟨x,H1,I1,r1,q1⟩=>?_)
 refine wpAny_Slice (thn (hl aa s1 σ H1 _ I1 q1) fun vl s2 ⟨l,H2,I2,pl,q2⟩=>thn (hu aa s2 σ H2 _ I2 q2) fun vu s3 ⟨u,H3,I3,pu,q3⟩=>?_)
 rw [evalPart_none]
 refine Zs ?_
 have I4:Inv X aa σ H3 { s3 with heap:=s3.heap.push { cls:=.type "slice",data:=.fields #[vl,vu,.none] } }:=I3.kept (t':=s3.toks) fun b ob q=>Zg _ q
 obtain ⟨T,id,hT,ht,hg⟩:=hr aa { s3 with heap:=s3.heap.push { cls:=.type "slice",data:=.fields #[vl,vu,.none] } } σ H3 x v vl vu l u s3.heap.objs.size Q I4 r1 (Heap.IsSliceOf.new ..) pl pu q3
 show wpAny (model X.prog X.w) X.A (subscriptTail e (.Slice lo hi none p2) v (.ref s3.heap.objs.size)) (EP X aa σ Q) X.xe { s3 with heap:=s3.heap.push { cls:=.type "slice",data:=.fields #[vl,vu,.none] } }
 exact tail_any (ops:=[.ref s3.heap.objs.size,v]) ht hT hg (by with_unfolding_all rfl)
def Qgu (xs:List V) (lo hi:Option Int):List V:=(xs.drop (HT.sIx xs.length 0 lo)).take (HT.sIx xs.length xs.length hi-HT.sIx xs.length 0 lo)
theorem Qgv (xs:List V) (lo hi:Option Int):(Qgu xs lo hi).length≤xs.length:=by
 unfold Qgu
 rw [Zcv,Zdb]
 omega
def rSlT (K:Fz):V→Option Int→Option Int→Hp→VK→Prop:=fun x lo hi H Q=>∃ a xs,x=.ref a∧SqT K H a xs ∧
 ¬ (HT.sIx xs.length 0 lo=0∧HT.sIx xs.length xs.length hi=xs.length)∧∀ p,H p=none→Q (.ref p) (upd H p (.tup (Qgu xs lo hi)))
theorem Q7h:SlR X (rSlT X.K):=by
 intro aa s σ H x v vl vu lo hi sl Q I rx hs pl pu h
 obtain ⟨a,xs,rfl,hx,hw,q⟩:=h
 cases rx
 obtain ⟨ac,r,ht,hz⟩:=I.tuple hx
 have ah:ac.toArray.size=xs.length:=by rw [Zp];exact r.length.symm
 refine ⟨"tuple",_,PyProof.Rows.slot_tuple_getitem.lookup,ht.typeIs,?_⟩
 refine HT.getItem_tuple_cut ht hs pl pu (by rw [ah];exact hw) ?_ (by rw [ah];exact hz)
 rw [ah]
 refine ⟨.ref s.heap.objs.size,_,I.laid (t':=s.toks) (o:=.tup (Qgu xs lo hi)) (fun b ob q=>Zg _ q) (Zi _) ?_,rfl,q _ (I.hok.fresh (Zi _))⟩
 exact ⟨Zav (Qgv xs lo hi) hz,_,(r.drop (HT.sIx xs.length 0 lo)).take (HT.sIx xs.length xs.length hi-HT.sIx xs.length 0 lo),IsTupD.new _ _⟩
def Qaau (K:Fz):R2:=fun x y H Q=>∃ a b xs ys,x=.ref a∧y=.ref b∧SqT K H a xs∧SqT K H b ys∧xs≠[]∧xs.length+ys.length≤sizeLine ∧
 (ys=[]→Q (.ref a) H)∧(ys≠[]→∀ p,H p=none→Q (.ref p) (upd H p (.tup (xs++ys))))
theorem Vals.nil_iff {xs:List V} {us:List Fx} (r:Vals xs us):us=[]↔xs=[]:=by
 cases r with
 | nil=>simp
 | cons _ _=>simp
theorem Q2h:OpR X (binaryOp .Add) (Qaau X.K):=by
 intro aa s σ H x y v u Q I rx ry h
 obtain ⟨a,b,xs,ys,rfl,rfl,ha,hb,hx,hz,q1,q2⟩:=h
 cases rx
 cases ry
 obtain ⟨ac,r1,p1,_⟩:=I.tuple ha
 obtain ⟨ak,r2,p2,_⟩:=I.tuple hb
 refine HT.cat_tup p1 p2 (fun z=>hx (r1.nil_iff.mp z)) (fun z=>⟨.ref a,H,I,rfl,q1 (r2.nil_iff.mp z)⟩) (fun z=>?_) (by rw [←r1.length,←r2.length];exact hz)
 refine ⟨.ref s.heap.objs.size,_,I.laid (t':=s.toks) (o:=.tup (xs++ys)) (fun b ob q=>Zg _ q) (Zi _) ?_,rfl,q2 (fun w=>z (r2.nil_iff.mpr w)) _ (I.hok.fresh (Zi _))⟩
 exact ⟨by rw [Zq];exact hz,_,r1.append r2,IsTupD.new _ _⟩
end
def ixN (n:Nat) (i:Int):Option Nat:=if 0≤i then (if i<n then some i.toNat else none) else if -(n:Int)≤i then some (i+n).toNat else none
def atI {α:Type} (xs:List α) (i:Int):Option α:=(ixN xs.length i).bind fun j=>xs[j]?
theorem Qn4 {n:Nat} {i:Int} {j:Nat} (h:ixN n i=some j):seqIndex? i n=some j∧j<n ∧ -(n:Int)≤i∧i<n:=by
 unfold ixN at h
 by_cases h0:0≤i
 ·rw [Zb h0] at h
  by_cases h1:i<n
  ·rw [Zb h1] at h
   have e:i.toNat=j:=Zo h
   exact ⟨by rw [seqIndex_of h0 h1,e],by omega,by omega,h1⟩
  ·rw [Zd h1] at h;cases h
 ·rw [Zd h0] at h
  by_cases h1:-(n:Int)≤i
  ·rw [Zb h1] at h
   have e:(i+n).toNat=j:=Zo h
   exact ⟨by rw [seqIndex_neg (by omega) h1,e],by omega,h1,by omega⟩
  ·rw [Zd h1] at h;cases h
theorem Qn5 {α:Type} {xs:List α} {i:Int} {v:α} (h:atI xs i=some v):∃ j,seqIndex? i xs.length=some j∧xs[j]?=some v∧j<xs.length ∧ -(xs.length:Int)≤i∧i<xs.length:=by
 unfold atI at h
 cases e:ixN xs.length i with
 | none=>rw [e] at h;cases h
 | some j =>
  rw [e] at h
  obtain ⟨h1,h2,h3,h4⟩:=Qn4 e
  exact ⟨j,h1,h,h2,h3,h4⟩
theorem Qcs {α:Type} {xs:List α} {j:Nat} {v:α} (h:xs[j]?=some v):atI xs (j:Int)=some v:=by
 have hj:j<xs.length:=(Ze.mp h).1
 have e:ixN xs.length (j:Int)=some j:=by
  unfold ixN
  rw [Zb (by omega),Zb (by omega)];simp
 unfold atI;rw [e];exact h
def Qkf (b:Fr):Prop:=∀ o i,subscripted b false o i=operate [o,i] (getItem o i)
def IxR (X:Cx) (r:R2):Prop :=
 ∀ (value aL:Fr) (aa:List (Fw×Obj)) (s:Fy) (σ:St) (H:Hp) (x y:V) (v u:Fx) (Q:VK),Inv X aa σ H s→RelV x v→RelV y u→r x y H Q →
  subscripted aL false v u=operate [v,u] (getItem v u)→wpAny (model X.prog X.w) X.A (subscriptTail value aL v u) (EP X aa σ Q) X.xe s
def MtR (X:Cx) (id:String) (r:V→List V→Hp→VK→Prop):Prop :=
 ∀ (aa:List (Fw×Obj)) (s:Fy) (σ:St) (H:Hp) (x:V) (xs:List V) (v:Fx) (us:List Fx) (Q:VK),Inv X aa σ H s→RelV x v→Vals xs us→r x xs H Q →
  wpAny (model X.prog X.w) X.A (call (.builtin id) (v::us)) (EP X aa σ Q) X.xe s
section
variable {X:Cx} {a b:Fr} {ta tb:TE} {pos:Pos}
theorem IxR.or {r r':R2} (h:IxR X r) (h':IxR X r'):IxR X (fun x y H Q=>r x y H Q∨r' x y H Q):=by
 intro value aL aa s σ H x y v u Q I rx ry q hs
 rcases q with q | q
 ·exact h value aL aa s σ H x y v u Q I rx ry q hs
 ·exact h' value aL aa s σ H x y v u Q I rx ry q hs
theorem Qaav {r:R2} (hr:IxR X r) (ha:PE X a ta) (hb:PE X b tb) (hs:Qkf b):PE X (.Subscript a b pos) (tOp r ta tb):=by
 intro aa s σ H Q I h
 exact Subscript_ (Q62 ha hb I h fun v u s2 x y H2 I2 rx ry q=>hr a b aa s2 σ H2 x y v u Q I2 rx ry q (hs _ _))
def Qjf (K:Fz):R2:=fun x y H Q=>∃ p xs i v,x=.ref p∧y=.int i∧SqL K H p xs∧atI xs i=some v∧Q v H
def rIxT (K:Fz):R2:=fun x y H Q=>∃ p xs i v,x=.ref p∧y=.int i∧SqT K H p xs∧atI xs i=some v∧Q v H
def rIxS:R2:=fun x y H Q=>∃ z i c,x=.str z∧y=.int i∧z.length≤sizeLine∧atI z.cps.toList i=some c∧Q (.str ⟨#[c]⟩) H
theorem Qt5:IxR X (Qjf X.K):=by
 intro value aL aa s σ H x y v u Q I rx ry h hs
 obtain ⟨p,xs,i,z,rfl,rfl,hq,he,q⟩:=h
 cases rx
 obtain ⟨t,rfl⟩:=ry
 obtain ⟨ac,r,pl,hz⟩:=I.list hq
 obtain ⟨j,h1,h2,h3,h4,h5⟩:=Qn5 he
 obtain ⟨w,ew,dS⟩:=r.get h2
 have hl:=r.length
 have hn:=Qkw
 have fin:EP X aa σ Q w s:=⟨z,H,I,dS,q⟩
 by_cases h0:0≤i
 ·have hj:i.toNat=j:=by
   rw [seqIndex_of h0 h5] at h1
   exact Zo h1
  exact item_listR pl.isList h0 (by omega) (by rw [hj];simpa using ew) fin hs
 ·have hj:(i+(ac.toArray.size:Int)).toNat=j:=by
   rw [seqIndex_neg (by omega) h4] at h1
   rw [Zp,←hl]
   exact Zo h1
  exact Zem (x:=w) pl.isList.typeIs slot_list_getitem.lookup
   (wpAny_getItem_list_neg (Q:=fun r s'=>r=w∧EP X aa σ Q r s') pl.isList (by omega) (by rw [Zp] <;> omega) (by omega) (by rw [hj];simpa using ew) ⟨rfl,fin⟩) hs
theorem Q7i:IxR X (rIxT X.K):=by
 intro value aL aa s σ H x y v u Q I rx ry h hs
 obtain ⟨p,xs,i,z,rfl,rfl,hq,he,q⟩:=h
 cases rx
 obtain ⟨t,rfl⟩:=ry
 obtain ⟨ac,r,pl,hz⟩:=I.tuple hq
 obtain ⟨j,h1,h2,h3,h4,h5⟩:=Qn5 he
 obtain ⟨w,ew,dS⟩:=r.get h2
 have hl:=r.length
 have hn:=Qkw
 have fin:EP X aa σ Q w s:=⟨z,H,I,dS,q⟩
 exact Zem (x:=w) pl.typeIs slot_tuple_getitem.lookup
  (getItem_tuple (j:=j) (Q:=fun r s'=>r=w∧EP X aa σ Q r s') pl (by omega) (by omega) (by rw [Zp,←hl];exact h1) (by simpa using ew) ⟨rfl,fin⟩) hs
theorem Q7j:IxR X rIxS:=by
 intro value aL aa s σ H x y v u Q I rx ry h hs
 obtain ⟨z,i,c,rfl,rfl,hz,he,q⟩:=h
 obtain ⟨t,rfl⟩:=rx
 obtain ⟨t',rfl⟩:=ry
 obtain ⟨j,h1,h2,h3,h4,h5⟩:=Qn5 he
 have hl:z.cps.toList.length=z.length:=by simp [Str.length]
 rw [hl] at h1 h4 h5
 have hn:=Qkw
 exact tail_any (typeIs_str s z t) slot_str_getitem.lookup (getItem_str (c:=c) (by
  have e1:decide (i < -(2^63:Int))=false:=Z4 (by omega)
  have e2:decide (i≥2^63)=false:=Z4 (by omega)
  rw [e1,e2,Bool.or_false]) (by rw [h1];simpa using h2) ⟨.str ⟨#[c]⟩,H,I.tok _,⟨_,rfl⟩,q⟩) hs
def rIx (K:Fz):R2:=fun x y H Q=>Qjf K x y H Q∨rIxT K x y H Q∨rIxS x y H Q
theorem Q7k:IxR X (rIx X.K):=Qt5.or (Q7i.or Q7j)
theorem Qr3 (ac:List Fx) (n j:Nat) (u:Fx):Obj.mapSeq (·.setIfInBounds j u) { cls:=.type "list",data:=.seq ac.toArray n }={ cls:=.type "list",data:=.seq (ac.set j u).toArray n }:=by
 simp [Obj.mapSeq]
theorem Inv.lst {aa:List (Fw×Obj)} {σ:St} {H:Hp} {s:Fy} {p:Fw} {xs:List V} (I:Inv X aa σ H s) (h:H p=some (.lst xs)) :
  ∃ (ac:List Fx) (n:Nat),Vals xs ac∧s.heap.get? p=some { cls:=.type "list",data:=.seq ac.toArray n }∧xs.length≤sizeLine:=by
 obtain ⟨z,ac,n,r,e⟩:=I.hok p _ h
 exact ⟨ac,n,r,e,z⟩
theorem Inv.lstUpd {aa:List (Fw×Obj)} {σ:St} {H:Hp} {s:Fy} {p:Fw} {xs ys:List V} {ac its':List Fx} {n n':Nat} {f:Obj→Obj} (I:Inv X aa σ H s) (h:H p=some (.lst xs))
  (ho:s.heap.get? p=some { cls:=.type "list",data:=.seq ac.toArray n }) (hf:f { cls:=.type "list",data:=.seq ac.toArray n }={ cls:=.type "list",data:=.seq its'.toArray n' }) (r:Vals ys its') (hz:ys.length≤sizeLine) (t:Nat) :
  Inv X aa σ (upd H p (.lst ys)) { s with heap:=s.heap.update p f,toks:=t }:=by
 have e:(s.heap.update p f).get? p=some { cls:=.type "list",data:=.seq its'.toArray n' }:=by
  rw [Zbq f ho (by rw [hf] <;> rfl),hf]
 refine I.write (x:=p) (e:=p) (by rw [h];trivial) (.inl rfl) (fun b u hb q=>(Za1 _ _ (Zc9 hb)).trans q) ⟨_,e⟩ ?_
 exact ⟨hz,its',n',r,e⟩
def Qhr:V→V→V→Hp→(Hp→Prop)→Prop:=fun o i v H Q=>∃ p xs k j,o=.ref p∧i=.int k∧H p=some (.lst xs)∧ixN xs.length k=some j∧Q (upd H p (.lst (xs.set j v)))
theorem Qxv:PSet X Qhr:=by
 intro aa s σ H o i v ov iv u Q I ro ri rv h
 obtain ⟨p,xs,k,j,rfl,rfl,hp,hj,q⟩:=h
 cases ro
 obtain ⟨t,rfl⟩:=ri
 obtain ⟨ac,n,r,ho,hz⟩:=I.lst hp
 obtain ⟨h1,h2,h3,h4⟩:=Qn4 hj
 have hl:=r.length
 have hn:=Qkw
 have I':Inv X aa σ (upd H p (.lst (xs.set j v))) { s with heap:=s.heap.update p (Obj.mapSeq (·.setIfInBounds j u)) } :=
  I.lstUpd hp ho (Qr3 ac n j u) (r.set rv j) (by rw [Z6];exact hz) s.toks
 by_cases h0:0≤k
 ·have hk:k.toNat=j:=by
   rw [seqIndex_of h0 h4] at h1
   exact Zo h1
  exact PySem.W.ki_setAt ho h0 (by omega) (by rw [Zp,←hl];exact h4) (by rw [hk];exact ⟨_,I',q⟩)
 ·have hk:(k+(ac.toArray.size:Int)).toNat=j:=by
   rw [seqIndex_neg (by omega) h3] at h1
   rw [Zp,←hl]
   exact Zo h1
  exact PySem.W.ki_setBack ho (by omega) (by rw [Zp,←hl];exact h3) (by omega) (by rw [hk];exact ⟨_,I',q⟩)
theorem Qn6 (lo hi:Option Int) (n:Nat):(sliceBounds lo hi none n).1=((HT.sIx n 0 lo:Nat):Int)∧(sliceBounds lo hi none n).2.1=((HT.sIx n n hi:Nat):Int)∧(sliceBounds lo hi none n).2.2=1:=by
 refine ⟨?_,?_,rfl⟩
 ·cases lo with
  | none=>simp [sliceBounds,HT.sIx]
  | some i =>
   simp only [sliceBounds,HT.sIx,Option.getD_none,show (1:Int)>0 by decide,Zr]
   by_cases h:i<0
   ·simp only [h,Zr] <;> omega
   ·simp only [h,Za2] <;> omega
 ·cases hi with
  | none=>simp [sliceBounds,HT.sIx]
  | some i =>
   simp only [sliceBounds,HT.sIx,Option.getD_none,show (1:Int)>0 by decide,Zr]
   by_cases h:i<0
   ·simp only [h,Zr] <;> omega
   ·simp only [h,Za2] <;> omega
theorem Qmg (ac:List Fx) (lo hi:Option Int):slicePick ac.toArray lo hi none=((ac.drop (HT.sIx ac.length 0 lo)).take (HT.sIx ac.length ac.length hi-HT.sIx ac.length 0 lo)).toArray:=by
 obtain ⟨h1,h2,h3⟩:=Qn6 lo hi ac.toArray.size
 unfold slicePick
 rw [h1,h2,h3]
 simp only [sliceRange_one,pick_run,Zp] <;> rfl
def rSlL (K:Fz):V→Option Int→Option Int→Hp→VK→Prop:=fun x lo hi H Q=>∃ a xs,x=.ref a∧SqL K H a xs∧∀ p,H p=none→Q (.ref p) (upd H p (.lst (Qgu xs lo hi)))
theorem Q2i:SlR X (rSlL X.K):=by
 intro aa s σ H x v vl vu lo hi sl Q I rx hs pl pu h
 obtain ⟨a,xs,rfl,hx,q⟩:=h
 cases rx
 obtain ⟨ac,r,ht,hz⟩:=I.list hx
 have ah:=r.length
 refine ⟨"list",_,slot_list_getitem.lookup,ht.isList.typeIs,?_⟩
 refine wpAny_getItem_list_slice ht.isList hs pl pu .none (by simp) ?_ (by rw [Zp] <;> omega)
 rw [Qmg,←ah]
 refine ⟨.ref s.heap.objs.size,_,I.laid (t':=s.toks) (o:=.lst (Qgu xs lo hi)) (fun b ob q=>Zg _ q) (Zi _) ?_,rfl,q _ (I.hok.fresh (Zi _))⟩
 exact ⟨Zav (Qgv xs lo hi) hz,_,0,(r.drop (HT.sIx xs.length 0 lo)).take (HT.sIx xs.length xs.length hi-HT.sIx xs.length 0 lo),Zt _ rfl⟩
theorem Qn7:CallR X (.builtin "len") (fun xs H Q=>∃ p ys,xs=[.ref p]∧(SqL X.K H p ys∨SqT X.K H p ys)∧Q (.int ys.length) H):=by
 intro aa s σ H xs us Q I r h
 obtain ⟨p,ys,rfl,hq,q⟩:=h
 obtain ⟨u,rfl,rx⟩:=Qgk r
 cases rx
 have hn:=Qkw
 rcases hq with hq | hq
 ·obtain ⟨ac,r',pl,hz⟩:=I.list hq
  have ah:=r'.length
  exact Calls.call_len_list pl.isList (by simp only [Zp] <;> omega) ⟨.int ys.length,H,I.tok _,⟨s.toks+1,by rw [Zp,ah]⟩,q⟩
 ·obtain ⟨ac,r',pl,hz⟩:=I.tuple hq
  have ah:=r'.length
  exact len_tuple pl (by simp only [Zp] <;> omega) ⟨.int ys.length,H,I.tok _,⟨s.toks+1,by rw [Zp,ah]⟩,q⟩
theorem CallR.or {f:Fx} {r r':List V→Hp→VK→Prop} (h:CallR X f r) (h':CallR X f r'):CallR X f (fun xs H Q=>r xs H Q∨r' xs H Q):=by
 intro aa s σ H xs us Q I rs q
 rcases q with q | q
 ·exact h aa s σ H xs us Q I rs q
 ·exact h' aa s σ H xs us Q I rs q
theorem Qmh:CallR X (.type "tuple") (fun xs H Q=>∃ p ys,xs=[.ref p]∧((SqL X.K H p ys∧∀ l,H l=none→Q (.ref l) (upd H l (.tup ys)))∨(SqT X.K H p ys∧Q (.ref p) H))):=by
 intro aa s σ H xs us Q I r h
 obtain ⟨p,ys,rfl,h⟩:=h
 obtain ⟨u,rfl,rx⟩:=Qgk r
 cases rx
 rcases h with ⟨hq,q⟩ | ⟨hq,q⟩
 ·obtain ⟨ac,r',pl,hz⟩:=I.list hq
  have ah:=r'.length
  refine call_tuple_list pl.isList (fun h' kp=>?_) (by simp only [Zp] <;> omega)
  have I1:Inv X aa σ H { s with heap:=h' }:=I.kept (t':=s.toks) kp
  have I2:Inv X aa σ (upd H h'.objs.size (.tup ys)) { s with heap:=h'.push { cls:=.type "tuple",data:=.seq ac.toArray } } :=
   I1.laid (t':=s.toks) (fun b o e=>Zg _ e) (Zi _) (show ObjOk X.prog X.w _ _ _ (.tup ys) from ⟨hz,ac,r',IsTupD.new _ _⟩)
  exact ⟨.ref h'.objs.size,_,I2,rfl,q _ (I1.hok.fresh (Zi _))⟩
 ·obtain ⟨ac,r',pl,hz⟩:=I.tuple hq
  exact call_tuple_same pl ⟨.ref p,H,I,rfl,q⟩
def tyV (K:Fz) (T:String) (x:V) (H:Hp):Prop:=match x with
 | .str _=>T = "str"
 | .int _=>T = "int"
 | .ref p=>(T = "list" ∧ ∃ xs,SqL K H p xs)∨(T = "tuple" ∧ ∃ o,K.lookup p=some o∧o.cls=.type "tuple" ∧ o.dict=none) ∨
   (T = "dict" ∧ ((∃ aC,H p=some (.dK aC))∨∃ aC,H p=some (.dT aC)))∨(T = "set" ∧ ∃ S n,H p=some (.set S n))
 | _=>False
theorem Q7l {aa:List (Fw×Obj)} {σ:St} {H:Hp} {s:Fy} {T:String} {x:V} {v:Fx} (I:Inv X aa σ H s) (r:RelV x v) (ty:tyV X.K T x H) :
  s.TypeIs v T∧∀ a,v=.ref a→∃ ob,s.heap.get? a=some ob∧ob.dict=none:=by
 cases x with
 | str z =>
  obtain ⟨t,rfl⟩:=r
  cases (show T = "str" from ty)
  exact ⟨typeIs_str s z t,fun _ e=>nomatch e⟩
 | int i =>
  obtain ⟨t,rfl⟩:=r
  cases (show T = "int" from ty)
  exact ⟨Zeh s i t,fun _ e=>nomatch e⟩
 | ref p =>
  cases r
  rcases ty with ⟨rfl,xs,hq⟩ | ⟨rfl,o,hk,hc,hd⟩ | ⟨rfl,hk⟩ | ⟨rfl,S,n,hk⟩
  ·obtain ⟨ac,_,pl,_⟩:=I.list hq
   refine ⟨pl.isList.typeIs,fun a e=>?_⟩
   cases e
   obtain ⟨o,n,e,c,hd,_⟩:=pl
   exact ⟨o,e,hd⟩
  ·refine ⟨⟨o,I.kIn p o hk,hc⟩,fun a e=>?_⟩
   cases e
   exact ⟨o,I.kIn _ o hk,hd⟩
  ·have z:∃ o,s.heap.get? p=some o∧o.ExactDict:=by
    rcases hk with ⟨aC,hk⟩ | ⟨aC,hk⟩
    ·obtain ⟨_,_,_,_,o,_,_,e,ex,_⟩:=I.hok p _ hk
     exact ⟨o,e,ex⟩
    ·obtain ⟨_,_,_,_,o,_,_,e,ex,_⟩:=I.hok p _ hk
     exact ⟨o,e,ex⟩
   obtain ⟨o,e,ex⟩:=z
   refine ⟨⟨o,e,ex.1⟩,fun a e2=>?_⟩
   cases e2
   exact ⟨o,e,ex.2.1⟩
  ·obtain ⟨o,_,_,_,e,ex,_⟩:=I.hok p _ hk
   refine ⟨⟨o,e,ex.1⟩,fun a e2=>?_⟩
   cases e2
   exact ⟨o,e,ex.2.1⟩
 | _=>exact Zfb ty
abbrev tBM (K:Fz) (T:String) (r:V→List V→Hp→VK→Prop) (to:TE) (t:TA):TE:=fun σ H Q=>to σ H fun x H1=>tyV K T x H1∧t σ H1 fun xs H2=>r x xs H2 Q
variable {o e:Fr} {es:List Fr} {to:TE} {t:TA} {name:Str} {a9 aj:Pos} {T id:String} {r:V→List V→Hp→VK→Prop}
theorem Qaaz (pa:PlainAttrs T) (slot:Slot T name id) (dJ:typeOf (.builtin id)=pure (.type "method_descriptor")) (hm:MtR X id r) (ho:PE X o to) (ha:PA X (e::es) t)
  (bu:attributeBase o name X.env (eval o X.env)=eval o X.env:=by rfl)
  (bV:((backTo aj (starEach (e::es) X.env)).all (fun x=>!x.1)&&(backToKw aj (keywordEach [] X.env)).all (fun x=>x.1.isSome)
   && decide ((e::es).length+([]:List Keyword).length+(if ([]:List Keyword).isEmpty then 0 else 1)<30))=true:=by rfl)
  (bz:(a9.endLine==aj.line)=true:=by rfl) (hs:starEach (e::es) X.env=(false,eval e X.env)::starEach es X.env:=by rfl) (aP:(backTo aj (starEach es X.env)).any (·.1)=false:=by rfl) :
  PE X (.Call (.Attribute o name a9) (e::es) [] aj) (tBM X.K T r to t):=by
 intro aa s σ H Q I h
 refine wpAny_Call_method_late bu bV bz rfl (thn (ho aa s σ H _ I h) fun v s1 ⟨x,H1,I1,r1,ty,q1⟩=>?_)
 obtain ⟨h1,h2⟩:=Q7l I1 r1 ty
 refine ⟨T,id,pa,slot,dJ,h1,h2,?_⟩
 have hA:=ha aj aa s1 σ H1 _ I1 q1
 rw [hs] at hA ⊢
 refine Calls.callWith_builtin (by show (false||(backTo aj (starEach es X.env)).any (·.1))=false;rw [aP] <;> rfl) (Calls.evalArgs_plain ?_)
 exact thn hA fun us s2 ⟨vs,H2,I2,r2,q2⟩=>hm aa s2 σ H2 x vs v us Q I2 r1 r2 q2
end
def MtM (X:Cx) (id:String) (r:V→List V→Hp→VK→Prop):Prop :=
 ∀ (aa:List (Fw×Obj)) (s:Fy) (σ:St) (H:Hp) (x:V) (xs:List V) (v:Fx) (us:List Fx) (Q:VK),Inv X aa σ H s→RelV x v→Vals xs us→r x xs H Q →
  wpAny (model X.prog X.w) X.A (call (.builtin id) (v::us)) (EP X aa σ Q) X.xe s
theorem Vals.one:∀ {x:V} {us:List Fx},Vals [x] us→∃ u,us=[u]∧RelV x u
 | _,_,.cons r .nil=>⟨_,rfl,r⟩
theorem Vals.eraseIdx:∀ {xs:List V} {us:List Fx} (i:Nat),Vals xs us→Vals (xs.eraseIdx i) (us.eraseIdx i)
 | _,_,_,.nil=>.nil
 | _,_,0,.cons _ t=>t
 | _,_,i+1,.cons r t=>.cons r (Vals.eraseIdx i t)
theorem Vals.rep {xs:List V} {us:List Fx} (h:Vals xs us):∀ k:Nat,Vals (List.replicate k xs).flatten (List.replicate k us).flatten
 | 0=>.nil
 | k+1=>by
  rw [Zb0,Zb0,Za4,Za4]
  exact Vals.append h (Vals.rep h k)
theorem Qjg (ac:List Fx):∀ (k:Nat) (acc:List Fx),
  List.foldl (fun x1 x2=>x1++x2) acc.toArray (List.replicate k ac.toArray)=(acc++(List.replicate k ac).flatten).toArray
 | 0,acc=>by simp
 | k+1,acc=>by
  have e:acc.toArray++ac.toArray=(acc++ac).toArray:=by simp
  have e2:(acc++ac)++(List.replicate k ac).flatten=acc++(List.replicate (k+1) ac).flatten:=by
   rw [Zb0,Za4,Zao]
  rw [←e2,←Qjg ac k (acc++ac),←e,Zb0,List.foldl_cons]
section
variable {X:Cx} {aa:List (Fw×Obj)} {σ:St} {H:Hp} {s:Fy} {l b:Fw} {xs ys zs:List V}
theorem Inv.lset {ac its':List Fx} {n:Nat} {f:Array Fx→Array Fx} {t':Nat} (I:Inv X aa σ H s) (hH:H l=some (.lst xs))
  (e:s.heap.get? l=some { cls:=.type "list",data:=.seq ac.toArray n }) (hf:f ac.toArray=its'.toArray) (hv:Vals ys its') (hz:ys.length≤sizeLine) :
  Inv X aa σ (upd H l (.lst ys)) { s with heap:=s.heap.update l (Obj.mapSeq f),toks:=t' }:=by
 have q:=PySem.IsL.update e f
 rw [hf] at q
 refine I.write (x:=l) (e:=l) (by rw [hH];exact trivial) (.inl rfl) (fun b' u hb hu=>(Za1 s.heap (Obj.mapSeq f) (Zc9 hb)).trans hu) ⟨_,q⟩ ?_
 exact ⟨hz,its',_,hv,q⟩
theorem Inv.lnew {ac:List Fx} {t':Nat} (I:Inv X aa σ H s) (hv:Vals ys ac) (hz:ys.length≤sizeLine) :
  Inv X aa σ (upd H s.heap.objs.size (.lst ys)) { s with heap:=s.heap.push { cls:=.type "list",data:=.seq ac.toArray },toks:=t' } :=
 I.laid (fun _ _ q=>Zg _ q) (Zi _) ⟨hz,ac,0,hv,Zt _ rfl⟩
theorem Inv.fresh (I:Inv X aa σ H s):H s.heap.objs.size=none:=I.hok.fresh (Zi _)
theorem Inv.lstM (I:Inv X aa σ H s) (hH:H l=some (.lst xs)):xs.length≤sizeLine∧∃ (ac:List Fx) (n:Nat),Vals xs ac∧xs.length=ac.length∧s.heap.get? l=some { cls:=.type "list",data:=.seq ac.toArray n }:=by
 obtain ⟨z,ac,n,r,e⟩:=I.hok l _ hH
 exact ⟨z,ac,n,r,r.length,e⟩
theorem Qkx {n:Nat} (h:n≤sizeLine):Builtin.List.listTooLong n=false:=by
 unfold Builtin.List.listTooLong
 exact Z4 (by omega)
end
section
variable {X:Cx}
def Qdz:V→List V→Hp→VK→Prop:=fun x vs H Q=>∃ l xs y,x=.ref l∧vs=[y]∧H l=some (.lst xs)∧xs.length<sizeLine∧Q .non (upd H l (.lst (xs++[y])))
theorem Qjh:MtM X "list.append" Qdz:=by
 intro aa s σ H x vs v us Q I rx rv h
 obtain ⟨l,xs,y,rfl,rfl,hH,hz,q⟩:=h
 cases rx
 obtain ⟨u,rfl,ru⟩:=rv.one
 obtain ⟨z,ac,n,r,hl,e⟩:=I.lstM hH
 refine Za9 F.slot_list_append ⟨_,e,rfl⟩ F.entry_list_append (F.args_list_append_2 _ _) (PySem.list_append l ac.toArray n u (by rw [Zp];omega)) ⟨e,?_⟩
 refine ⟨.non,_,I.lset (its':=ac++[u]) hH e (by simp) (r.append (.cons ru .nil)) ?_,rfl,q⟩
 rw [Zq,Zb3]
 omega
def Q2j:V→List V→Hp→VK→Prop:=fun x vs H Q=>∃ l b xs zs,x=.ref l∧vs=[.ref b]∧H l=some (.lst xs)∧H b=some (.lst zs)∧xs.length+zs.length≤sizeLine∧Q .non (upd H l (.lst (xs++zs)))
theorem mt_extend:MtM X "list.extend" Q2j:=by
 intro aa s σ H x vs v us Q I rx rv h
 obtain ⟨l,b,xs,zs,rfl,rfl,hH,hB,hz,q⟩:=h
 cases rx
 obtain ⟨u,rfl,ru⟩:=rv.one
 cases ru
 obtain ⟨z,ac,n,r,hl,e⟩:=I.lstM hH
 obtain ⟨z2,ak,n2,r2,cm,e2⟩:=I.lstM hB
 have aE:ac.toArray.size+ak.toArray.size≤sizeLine:=by rw [Zp,Zp];omega
 have bv:¬ (!ac.toArray.isEmpty&&Builtin.List.listTooLong (ac.toArray.size+ak.toArray.size))=true:=by
  rw [Qkx aE,Zez]
  exact Zk
 refine Za9 F.slot_list_extend ⟨_,e,rfl⟩ F.entry_list_extend (F.args_list_extend_2 _ _)
  (AutoSeq1.list_extend_list_list_0 l ac.toArray n b ak.toArray n2 bv (by rw [Zp];omega) (by omega)) ⟨e,e2,?_⟩
 refine ⟨.non,_,I.lset (its':=ac++ak) hH e (by simp) (r.append r2) ?_,rfl,q⟩
 rw [Zq]
 omega
def rCat:R2:=fun x y H Q=>∃ l b xs zs,x=.ref l∧y=.ref b∧H l=some (.lst xs)∧H b=some (.lst zs)∧xs.length+zs.length≤sizeLine∧∀ p,H p=none→Q (.ref p) (upd H p (.lst (xs++zs)))
theorem Q7m:OpR X (binaryOp .Add) rCat:=by
 intro aa s σ H x y v u Q I rx ry h
 obtain ⟨l,b,xs,zs,rfl,rfl,hH,hB,hz,q⟩:=h
 cases rx
 cases ry
 obtain ⟨z,ac,n,r,hl,e⟩:=I.lstM hH
 obtain ⟨z2,ak,n2,r2,cm,e2⟩:=I.lstM hB
 refine PySem.P.add_list e e2 ?_ (by rw [Zp,Zp];omega)
 have ea:ac.toArray++ak.toArray=(ac++ak).toArray:=by simp
 rw [ea]
 exact ⟨.ref _,_,I.lnew (t':=s.toks) (r.append r2) (by rw [Zq];omega),rfl,q _ I.fresh⟩
def rRep:R2:=fun x y H Q=>∃ l k xs,x=.ref l∧y=.int k∧H l=some (.lst xs) ∧ -(2^63)≤k∧k<2^63∧xs.length*k.toNat≤sizeLine ∧
 ∀ p,H p=none→Q (.ref p) (upd H p (.lst (List.replicate k.toNat xs).flatten))
theorem Qie {α:Type} (xs:List α) (k:Nat):(List.replicate k xs).flatten.length=k*xs.length:=by
 induction k with
 | zero=>simp
 | succ k ih=>rw [Zb0,Za4,Zq,ih,Nat.succ_mul,Nat.add_comm]
theorem Q7n:OpR X (binaryOp .Mult) rRep:=by
 intro aa s σ H x y v u Q I rx ry h
 obtain ⟨l,k,xs,rfl,rfl,hH,h1,h2,hz,q⟩:=h
 cases rx
 obtain ⟨t,rfl⟩:=ry
 obtain ⟨z,ac,n,r,hl,e⟩:=I.lstM hH
 have ah:ac.toArray.size*k.toNat≤sizeLine:=by rw [Zp,←hl];exact hz
 have b7:¬ ac.toArray.size*k.toNat>(2^63-1) / 8:=by
  have:(sizeLine:Nat)≤(2^63-1) / 8:=by decide
  omega
 have gJ:¬ (!Builtin.List.listFitsIndex k)=true:=by
  rw [fitsIndex_both h1 h2]
  exact Zk
 have bv:¬ Builtin.List.listTooLong (ac.toArray.size*k.toNat)=true:=by
  rw [Qkx ah]
  exact Zk
 have cy:List.foldl (fun x1 x2=>x1++x2) #[] (List.replicate (if ac.toArray.isEmpty=true then 0 else k.toNat) ac.toArray)=(List.replicate k.toNat ac).flatten.toArray:=by
  have f0:∀ m:Nat,List.foldl (fun x1 x2=>x1++x2) #[] (List.replicate m ac.toArray)=(List.replicate m ac).flatten.toArray:=fun m=>by
   have:=Qjg ac m []
   rw [Zbn] at this
   exact this
  rw [f0]
  cases ac with
  | nil=>simp
  | cons a r'=>rw [Zd (by simp)]
 refine Zdz (T := "list") (U := "int") (by decide) ⟨_,e,rfl⟩ (fun s'=>Zeh s' k t) noFill_list_mul F.fills_int_mul F.slot_int_rmul repeat_list F.slot_int_index.lookup
  (Za9 F.slot_int_rmul (Zeh s k t) F.entry_int_rmul (F.args_int_rmul_2 _ _) (int___rmul___int_list k t l ac.toArray n)
   ⟨e,rfl,⟨_,e,rfl⟩,Za9 F.slot_list_mul ⟨_,e,rfl⟩ F.entry_list_mul (F.args_list_mul_2 _ _) (AutoListH.list___mul___list_int_3 l ac.toArray n k t gJ b7 bv) ⟨e,?_⟩⟩)
 rw [cy]
 exact ⟨.ref _,_,I.lnew (t':=s.toks) (r.rep k.toNat) (by rw [Qie,Zdp];exact hz),rfl,q _ I.fresh⟩
end
section
variable {prog:Fu} {w:Ft} {A:Fv} {E:Fx→Fy→Prop} {s:Fy}
end
section
variable {X:Cx}
end
end L2
namespace Att
open PySem PySem.W PySem.Calls PyProof.Rows
theorem ints_of_wellAll {P:Params} {h:Fq}:∀ (ns:List Int) (vs:List Fx),WellAll P h vs (ns.map WData.int)→IntsAre vs ns:=by
 intro ns
 induction ns with
 | nil =>
  intro vs w
  rw [Zcz] at w
  cases w
  exact .nil
 | cons n ns ih =>
  intro vs w
  rw [Zaq] at w
  cases w with
  | cons a b =>
   cases a
   exact .cons _ _ (ih _ b)
theorem script_of {l:OpenLaw} {n:Nat} (hn:l.most=some n) {P:Params} {h:Fq} {args:List WData} {cP:List Fx}
  (cx:l.row.toRowW.claim.pre args=true) (gU:WellAll P h cP args) :
  ∃ a vs ns,cP=[Value.ref a]∧args=[WData.list (ns.map WData.int)]∧h.get? a=some { cls:=.type "list",data:=.seq vs.toArray }∧IntsAre vs ns∧ns.length≤n:=by
 have jM:WShape.hasAll [] args [.list .int]=true:=(pre_splitW cx).1
 have hc:l.pre.holds [] { args:=args }=true:=(pre_splitW cx).2
 obtain ⟨d,r,rfl,h1,h2⟩:=hasAllW_cons jM
 obtain rfl:=hasAllW_nil h2
 obtain ⟨xs,rfl,h3⟩:=hasW_list h1
 obtain ⟨ns,rfl⟩:=items_int h3
 have ah:ns.length≤n:=by
  unfold OpenLaw.pre at hc
  have h4:(WTm.not (.lt (.lit (.int (n:Int))) (.len (.arg 0)))).holds [] { args:=[.list (ns.map .int)] }=true:=by
   have h4:=(holds_andW hc).1
   rw [hn] at h4
   exact h4
  have h5:=condW_of h4 (w_not (w_lt w_lit (w_len_list (w_arg rfl))))
  rw [Zf] at h5
  refine Nat.le_of_not_lt fun q=>?_
  have q':(n:Int)<((ns.length:Nat):Int):=by omega
  first
   | (rw [Zaf q'] at h5;exact absurd h5 (by decide))
   | (simp at h5;omega)
 cases gU with
 | cons w1 w2 =>
  cases w2
  cases w1 with
  | list ho hall=>exact ⟨_,_,ns,rfl,rfl,ho,ints_of_wellAll ns _ hall,ah⟩
theorem post_true (l:OpenLaw) (args:List WData):l.row.toRowW.claim.post args (.bool true) args=true :=
 postW_of (r:=l.row.toRowW) (X:=(true==true))
  (show WShape.has [] (.bool true) .bool=true by first | rfl | decide | simp [WShape.has,WShape.arms,WShape.armsAll])
  (show (WTm.eq .res (.lit (.bool true))).value [] { args:=args,res:=some (.bool true),after:=args }=some (.bool (true==true)) from w_eq_bool (w_res rfl) w_lit) rfl
theorem attach_call {l:OpenLaw} {n:Nat} {q:Fu} {bf:List Str} {XP:(Str→Option Fx)→Fq→Prop} {YP:Ft→Fq→Prop} {d:DefRec}
  (hn:l.most=some n) (eE:d.params.defaults=[])
  (call:∀ (w:Ft) (s₀ s₁:Fy) (mg mb:Str→Option Fx) (fa:Fw) (o:Obj) (pm cd aG:Fx) (a:Fw) (vs:List Fx) (ns:List Int),
   Ground q bf [] XP w s₀ mg mb s₁.heap→YP w s₁.heap →
   s₁.heap.get? fa=some o→o.data=.func (docDef d.name d.params d.body d.scope pm cd aG)→s₁.heap.CodeRec cd d.name→mg d.name=some (.ref fa) →
   s₁.heap.get? a=some { cls:=.type "list",data:=.seq vs.toArray }→IntsAre vs ns→ns.length≤n→s₁.gens = #[] →
   codeAny (model l.prog w) callerA (.call (.ref fa) ⟨[.ref a],[]⟩) (fun r s'=>r=.ok (.ret (.bool true))∧OldK s₁.heap s'.heap∧s'.os=s₁.os∧AllBare s'.gens) s₁) :
  WalkO q bf XP YP l.row.toRowW d [] (fun f vs=>PySem.call f vs):=by
 intro w s₀ s₁ mg mb G Y fa o pm cd aG dV kV ho hd aT hD gw hg args cP as cx jT kb gU kj
 obtain rfl:dV=.none:=Dflts.none hD eE
 obtain rfl:kV=.none:=Dflts.noKw hD
 obtain ⟨a,vs,ns,rfl,rfl,di,bQ,ah⟩:=script_of hn cx gU
 refine enter_call (Zdo (call w s₀ s₁ mg mb fa o pm cd aG a vs ns G Y ho (fd_plain hd) aT gw di bQ ah hg) fun r s' hq=>?_)
 obtain ⟨rfl,h2,h3,h4⟩:=hq
 exact ⟨.inl ⟨.bool true,.bool true,[],rfl,fun _=>rfl,.bool true,post_true l _,fun _=>⟨List.Pairwise.nil,fun _ hm=>(nomatch hm)⟩⟩,h2,h3,h4⟩
section
variable {prog:Fu} {w:Ft} {A:Fv} {E:Fx→Fy→Prop} {s:Fy} {K:Frag}
end
end Att
namespace L2
open PySem PySem.Spec PyProof.Rows
theorem Qm3:∀ {vs:List Fx} {ns:List Int},IntsAre vs ns→Vals (ns.map V.int) vs
 | _,_,.nil=>.nil
 | _,_,.cons n t h=>.cons ⟨t,rfl⟩ (Qm3 h)
def Q2k (H:Hp):Prop:=∀ b,H b=none∨∃ o xs,H b=some (.frz o (.lst xs))
theorem Qxw {P:Fu} {w:Ft} {K:Fz} {mg mb:Str→Option Fx} {CX:CXT} {k:Nat} {fa a:Fw} {fd:FuncData} {x:Str} {sp:Sp} {s₁:Fy} {vs:List Fx} {ns:List Int}
  (KX:K.In s₁.heap) (bS:s₁.heap.Ns mainGlobals mg) (hb:s₁.heap.Ns builtinsNs mb) (j0:∀ x:Str,x ≠ "__name__" → mb x=bootBuiltins x) (fY:s₁.heap.NoLimit) (hg:s₁.gens = #[])
  (ha:s₁.heap.get? a=some { cls:=.type "list",data:=.seq vs.toArray }) (hi:IntsAre vs ns) (hl:ns.length≤sizeLine) (hr:Room k callerA)
  (F:∀ base:Fq,K.In base→base.Ns mainGlobals mg→FnOk P w K mg base CX k fa fd [x] sp) (eY:∀ (s:Fy) (u:Fx),BindsTo s fd ⟨[u],[]⟩ [(x,u)])
  (bA:∀ H:Hp,Q2k H→SqL K H a (ns.map V.int)→sp [.ref a] H (fun v _=>v=.bl true) fun _ _ _=>False)
  (eV:∀ H e s',CX [] H s₁ (fun _ _ _=>False) e s'→False)
  (jm:∃ bm ob,mg "__builtins__" = some (.ref bm)∧bm≠builtinsNs∧s₁.heap.get? bm=some ob∧ob.cls=.type "module" ∧ ob.dict=some builtinsNs∧ob.data=.plain) (hT:∀ a q,¬ Qxf K a q) :
  codeAny (model P w) callerA (.call (.ref fa) ⟨[.ref a],[]⟩) (fun r s'=>r=.ok (.ret (.bool true))∧OldK s₁.heap s'.heap∧s'.os=s₁.os∧AllBare s'.gens) s₁:=by
 have rv:=Qm3 hi
 have gQ:=hi.length
 -- from an abstract heap in which nothing but the script may be bg
 have eO:∀ H:Hp,Q2k H→SqL K H a (ns.map V.int)→HOk P w H s₁.heap→(∀ b,H b≠none→b=a)→(H a≠none→K.lookup a=none) →
   codeAny (model P w) callerA (.call (.ref fa) ⟨[.ref a],[]⟩) (fun r s'=>r=.ok (.ret (.bool true))∧OldK s₁.heap s'.heap∧s'.os=s₁.os∧AllBare s'.gens) s₁:=by
  intro H hO hS hok hA hK
  have bh:∀ {b:Fw} {o:Obj},s₁.heap.get? b=some o→H b=none→(Qn2 s₁.heap H).get? b=some o:=fun e n=>Qxe e n
  have dQ:∀ {b:Fw} {o:Obj} {es:Array DictEntry} {ep:Nat},s₁.heap.get? b=some o→o.data=.dict es ep→H b=none:=fun {b o es ep} e d=>by
   cases q:H b with
   | none=>rfl
   | some u =>
    have e':b=a:=hA b (by rw [q];simp)
    subst e'
    rw [ha] at e;cases e
    have d':Data.seq vs.toArray _=Data.dict es ep:=d
    cases d'
  have jX:∀ {b:Fw} {o:Obj},s₁.heap.get? b=some o→o.data=.plain→H b=none:=fun {b o} e d=>by
   cases q:H b with
   | none=>rfl
   | some u =>
    have e':b=a:=hA b (by rw [q];simp)
    subst e'
    rw [ha] at e;cases e
    cases (show Data.seq vs.toArray _=Data.plain from d)
  have fC:∀ {b:Fw} {m:Str→Option Fx},s₁.heap.Ns b m→(Qn2 s₁.heap H).Ns b m:=fun {b m} ⟨o,es,ep,e,d,r⟩=>⟨o,es,ep,bh e (dQ e d),d,r⟩
  have ib:K.In (Qn2 s₁.heap H):=fun b o e=>bh (KX b o e) (by
   cases q:H b with
   | none=>rfl
   | some u =>
    have e':b=a:=hA b (by rw [q];simp)
    subst e'
    rw [hK (by rw [q];simp)] at e;cases e)
  have hM:Mod K mg (Qn2 s₁.heap H):=⟨ib,fC bS,⟨mb,fC hb,j0⟩,let ⟨mc,h1,h2⟩:=fY;⟨mc,fC h1,h2⟩,let ⟨bm,ob,b1,b2,b3,b4,b5,b6⟩:=jm;⟨bm,ob,b1,b2,bh b3 (jX b3 b6),b4,b5,b6⟩⟩
  have e0:Env0 P w K mg (Qn2 s₁.heap H) callerA [] s₁ H:=⟨rfl,hM,fun b o e=>Q1x e,Zek (Qvy _ _),trivial,⟨fun b hb=>absurd (show b∈([]:List Fw) from hb) (by simp),fun a q z=>(hT a q z).elim⟩,hok,.of_eq hg⟩
  refine Zdo ((F _ ib (fC bS)).run callerA [] s₁ H ⟨[.ref a],[]⟩ [.ref a] [.ref a] _ _ hr e0 (eY s₁ (.ref a)) (.cons rfl .nil) (bA H hO hS)) fun r s' h=>?_
  cases r with
  | error e=>exact (eV H e s' h).elim
  | ok fl =>
   cases fl with
   | next=>exact Zfb h
   | brk=>exact Zfb h
   | cont=>exact Zfb h
   | ret u =>
    obtain ⟨v,H',os,bare,un,fT,r',q⟩:=h
    have q':v=.bl true:=q
    subst q'
    obtain rfl:u=Value.bool true:=r'
    refine ⟨rfl,OldK.of_keep fun b o e=>?_,os,bare⟩
    cases q:H b with
    | none=>exact un.keep b o e q (by intro z;exact absurd (show b∈([]:List Fw) from z) (by simp)) (by simp)
    | some u =>
     rcases hO b with z | ⟨ob,xs,z⟩
     ·rw [q] at z;cases z
     ·have z2:=un.frzs b ob _ z
      obtain ⟨e1,_⟩:=hok b _ z
      obtain ⟨e2,_⟩:=fT b _ z2
      rw [e] at e1;cases e1
      exact e2
 cases hk:K.lookup a with
 | some o =>
  -- the script is one of the module's own objects
  have e:=KX a o hk
  rw [ha] at e
  cases e
  refine eO (fun _=>none) (fun _=>.inl rfl) (.inr ⟨_,vs.toArray,_,hk,rfl,rfl,rfl,by rw [Zp,gQ];exact hl,by simpa using rv⟩) (fun b u z=>by have z':(none:Option HO)=some u:=z;cases z') (fun b z=>absurd rfl z) fun z=>absurd rfl z
 | none =>
  refine eO (fun b=>if b=a then some (.frz { cls:=.type "list",data:=.seq vs.toArray } (.lst (ns.map V.int))) else none) (fun b=>?_) (.inl (.inr ⟨{ cls:=.type "list",data:=.seq vs.toArray },Zb rfl⟩)) (fun b u z=>?_) (fun b z=>?_) fun _=>hk
  ·by_cases hb:b=a
   ·exact .inr ⟨_,_,Zb hb⟩
   ·exact .inl (Zd hb)
  ·by_cases hb:b=a
   ·have z':=(Zb hb).symm.trans z
    cases z'
    subst hb
    exact ⟨ha,by rw [Zf];exact hl,vs,_,rv,ha⟩
   ·have z':=(Zd hb).symm.trans z
    cases z'
  ·by_cases hb:b=a
   ·exact hb
   ·exact absurd (Zd hb) z
abbrev KOf {K:Fz} {h:Fq} (_:K.In h):Fz:=K
theorem Q2l {l:PySem.W.OpenLaw} {n k:Nat} {q:Fu} {bf:List Str} {XP:(Str→Option Fx)→Fq→Prop} {YP:Ft→Fq→Prop} {d:DefRec} {K:Params→Fz} {CX:Ft→CXT} {sp:Ft→Sp} {x:Str}
  (hn:l.most=some n) (fZ:n≤sizeLine) (eE:d.params.defaults=[]) (hr:Room k callerA)
  (hY:∀ (w:Ft) (h:Fq),YP w h→(K w.params).In h)
  (F:∀ (w:Ft) (mg:Str→Option Fx) (fa:Fw) (h:Fq),(K w.params).In h→h.Ns mainGlobals mg→mg d.name=some (.ref fa) →
   ∃ fd:FuncData,(∀ (s:Fy) (u:Fx),BindsTo s fd ⟨[u],[]⟩ [(x,u)]) ∧
    ∀ base:Fq,(K w.params).In base→base.Ns mainGlobals mg→FnOk l.prog w (K w.params) mg base (CX w) k fa fd [x] (sp w))
  (bA:∀ (w:Ft) (H:Hp) (a:Fw) (ns:List Int),ns.length≤n→Q2k H→SqL (K w.params) H a (ns.map V.int)→sp w [.ref a] H (fun v _=>v=.bl true) fun _ _ _=>False)
  (eV:∀ (w:Ft) (H:Hp) (s:Fy) (e:Fx) (s':Fy),CX w [] H s (fun _ _ _=>False) e s'→False) (hT:∀ (w:Ft) a q,¬ Qxf (K w.params) a q) :
  PySem.W.WalkO q bf XP YP l.row.toRowW d [] (fun f vs=>PySem.call f vs):=by
 refine Att.attach_call hn eE fun w s₀ s₁ mg mb fa o pm cd aG a vs ns G Y ho hd aT gw di bQ ah hg=>?_
 have KX:=hY w _ Y
 obtain ⟨fd,hb,hF⟩:=F w mg fa _ KX G.T.g gw
 exact Qxw KX G.T.g G.T.b G.T.builtins G.T.nolimit hg di bQ (Zav ah fZ) hr hF hb (fun H hO hS=>bA w H a ns ah hO hS) (fun H e s'=>eV w H s₁ e s') G.T.bmain (hT w)
theorem Qxx {l:PySem.W.OpenLaw} {n k:Nat} {q:Fu} {bf:List Str} {XP:(Str→Option Fx)→Fq→Prop} {YP:Ft→Fq→Prop} {d:DefRec} {K:Params→Fz} {CX:CXT} {sp:Fz→Sp} {x:Str}
  (hn:l.most=some n) (fZ:n≤sizeLine) (eE:d.params.defaults=[]) (hr:Room k callerA)
  (hY:∀ (w:Ft) (h:Fq),YP w h→(K w.params).In h)
  (F:∀ (w:Ft) (mg:Str→Option Fx) (fa:Fw) (h:Fq),(K w.params).In h→h.Ns mainGlobals mg→mg d.name=some (.ref fa) →
   ∃ fd:FuncData,(∀ (s:Fy) (u:Fx),BindsTo s fd ⟨[u],[]⟩ [(x,u)]) ∧
    ∀ base:Fq,(K w.params).In base→base.Ns mainGlobals mg→FnOk l.prog w (K w.params) mg base CX k fa fd [x] (sp (K w.params)))
  (bA:∀ (K:Fz) (H:Hp) (a:Fw) (ns:List Int),ns.length≤n→Q2k H→SqL K H a (ns.map V.int)→sp K [.ref a] H (fun v _=>v=.bl true) fun _ _ _=>False)
  (eV:∀ (H:Hp) (s:Fy) (e:Fx) (s':Fy),CX [] H s (fun _ _ _=>False) e s'→False) (hT:∀ (w:Ft) a q,¬ Qxf (K w.params) a q) :
  PySem.W.WalkO q bf XP YP l.row.toRowW d [] (fun f vs=>PySem.call f vs) :=
 Q2l (K:=K) (CX:=fun _=>CX) (sp:=fun w=>sp (K w.params)) hn fZ eE hr hY F (fun w H a ns h1 h2 h3=>bA (K w.params) H a ns h1 h2 h3) (fun _ H s e s'=>eV H s e s') hT
def Qd0 (s:Fs):Arguments:=match s with
 | .FunctionDef _ a _ _ _ _ _ _ _ _=>a
 | _=>{ posonlyargs:=[],args:=[],vararg:=none,kwonlyargs:=[],kw_defaults:=[],kwarg:=none,defaults:=[] }
def Qbh (s:Fs):List Fs:=match s with
 | .FunctionDef _ _ b _ _ _ _ _ _ _=>b
 | _=>[]
def Qi (s:Fs):Scope:=match s with
 | .FunctionDef _ _ _ _ _ _ sc _ _ _=>sc
 | _=>{ kind:=.function,names:=[],isGenerator:=false,isCoroutine:=false }
abbrev CX0:CXT:=fun _ _ _ _ _ _=>False
abbrev E0:XK:=fun _ _ _=>False
theorem Qaa2 {X:Cx}:Qr2 CX0 X E0:=fun _ _ _ _ _ _ _ h=>h.elim
structure Fun (K:Fz) (x qual:Str) (st:Fs) (f:Fw) (fd:FuncData):Prop where
 ex:∃ (oc:Fx) (od:Option Fw) (kV aG pm:Fx) (an:Option Fw) (ag ct:Fx) (bn:Array (Option Fx)),
  fd=PySem.W.fnOf x qual (Qd0 st) (Qbh st) (Qi st) .none kV aG pm an ag ct∧K.lookup f=some ⟨oc,od,.func fd,bn⟩∧PySem.W.codeIn K ag qual=true
 kp:PySem.W.keepIn K (.ref f)=true
section
variable {P:Fu} {w:Ft} {K:Fz} {mg:Str→Option Fx} {base:Fq}
theorem Fun.ok {x qual:Str} {st:Fs} {f:Fw} {fd:FuncData} {N ps:List Str} {k:Nat} {sp:Sp} (F:Fun K x qual st f fd) (S:FnScope N ps (Qi st)) (len:∀ vs H Q E,sp vs H Q E→vs.length=ps.length)
  (aw:∀ (ag:Fx) (A:Fv) (outer:List Env) (s:Fy) (H:Hp) (vs:List V) (Q:VK) (E:XK),Room k (A.deeper (envOfC qual (Qi st) s.heap.objs.size f ag))→sp vs H Q E →
   ∃ t,PSs (Qhp (fun _=>true) CX0 P w K mg base N qual (Qi st) f ag A outer s H E).nox (Qbh st) t∧t { nx:=fun _ H'=>Q .non H',rt:=Q } (Qb2 N vs) H):FnOk P w K mg base CX0 (k+1) f fd ps sp:=by
 obtain ⟨oc,od,kV,aG,pm,an,ag,ct,bn,rfl,lk,aT⟩:=F.ex
 refine Q42 (g:=fun _=>true) lk aT S len fun A outer s H vs Q E hr bA=>?_
 obtain ⟨t,h,q⟩:=aw ag A outer s H vs Q E hr bA
 exact ⟨t,h.nox,q⟩
theorem Fun.binds {x qual:Str} {st:Fs} {f:Fw} {fd:FuncData} {ps:List Str} (F:Fun K x qual st f fd)
  (h:∀ (kV aG pm:Fx) (an:Option Fw) (ag ct:Fx) (us:List Fx),us.length=ps.length→bindArgs (PySem.W.fnOf x qual (Qd0 st) (Qbh st) (Qi st) .none kV aG pm an ag ct) ⟨us,[]⟩=pure (ps.zip us)):Binds K fd ps []:=by
 obtain ⟨oc,od,kV,aG,pm,an,ag,ct,bn,rfl,lk,aT⟩:=F.ex
 exact .all (h kV aG pm an ag ct)
theorem Q7o {x qual:Str} {st:Fs} {f:Fw} {oc:Fx} {od an:Option Fw} {bn:Array (Option Fx)} {kV aG pm ag ct:Fx} (l:K.lookup f=some ⟨oc,od,.func (PySem.W.fnOf x qual (Qd0 st) (Qbh st) (Qi st) .none kV aG pm an ag ct),bn⟩)
  (c:PySem.W.codeIn K ag qual=true) (k:PySem.W.keepIn K (.ref f)=true):Fun K x qual st f (PySem.W.fnOf x qual (Qd0 st) (Qbh st) (Qi st) .none kV aG pm an ag ct):=⟨⟨oc,od,kV,aG,pm,an,ag,ct,bn,rfl,l,c⟩,k⟩
end
section
variable {X:Cx}
theorem pv (i:Nat) {x:Str} {pos:Pos} (hN:X.N[i]?=some x:=by rfl) (hv:Vis X.env.scope x:=by first | exact Or.inl rfl | exact Or.inr (Or.inl rfl) | exact Or.inr (Or.inr rfl)) (hd:(x==("__debug__" : Str))=false:=by decide)
  (aT:(x==("__classdict__" : Str))=false:=by decide):PE X (.Name x pos) (Qch i):=Q6h hN hv hd aT
end
theorem ite2 {c A B:Prop} [Decidable c] (h1:c→A) (h2:¬ c→B):if c then A else B:=by
 by_cases h:c
 ·rw [Zb h]
  exact h1 h
 ·rw [Zd h]
  exact h2 h
def Same (H H':Hp):Prop:=∀ b o,H b=some o→H' b=some o
theorem Same.refl (H:Hp):Same H H:=fun _ _ h=>h
theorem Same.trans {H H1 H2:Hp} (a:Same H H1) (b:Same H1 H2):Same H H2:=fun c o h=>b c o (a c o h)
theorem Same.seq {K:Fz} {H H':Hp} {a:Fw} {xs:List V} (e:Same H H') (h:SqL K H a xs):SqL K H' a xs:=by
 rcases h with (h | ⟨o,h⟩) | h
 ·exact .inl (.inl (e _ _ h))
 ·exact .inl (.inr ⟨o,e _ _ h⟩)
 ·exact .inr h
structure LamT where
 qual:Str
 params:Arguments
 body:Fr
 scope:Scope
 caps:List Str
 ps:List Str
def Qxy:List (Nat×LamT):=[]
section
variable {κ:Type} [DecidableEq κ]
theorem RelO.isSome_eq {o:Option V} {u:Option Fx} (r:RelO o u):o.isSome=u.isSome:=by
 cases o with
 | none=>cases u with
  | none=>rfl
  | some _=>exact (show False from r).elim
 | some _=>cases u with
  | none=>exact (show False from r).elim
  | some _=>rfl
end
section
variable {P:Fu} {w:Ft} {H:Hp} {h:Fq} {a:Fw}
end
section
variable {X:Cx} {aa:List (Fw×Obj)} {σ:St} {H:Hp} {s:Fy} {a:Fw} {y v:V} {u r:Fx} {o:Option V} {A:Fv} {E:Fx→Fy→Prop}
end
section
variable {X:Cx} {aa:List (Fw×Obj)} {σ:St} {H:Hp} {s:Fy} {a:Fw} {aC:List (Key×V)} {k:Key} {u:Fx} {A:Fv} {E:Fx→Fy→Prop}
end
section
variable {X:Cx} {o i e value:Fr} {pos bW fS:Pos} {td ty tv:TE}
end
section
variable {X:Cx} {pos:Pos}
end
structure M1 (X:Cx) (o:Fr) (m:Str) (a9:Pos) (e:Fr) (aj:Pos):Prop where
 base:attributeBase o m X.env (eval o X.env)=eval o X.env
 few:((backTo aj (starEach [e] X.env)).all (fun x=>!x.1)&&(backToKw aj (keywordEach [] X.env)).all (fun x=>x.1.isSome)
  && decide (([e]:List Fr).length+([]:List Keyword).length+(if ([]:List Keyword).isEmpty then 0 else 1)<30))=true
 line:(a9.endLine==aj.line)=true
 trees:backTo aj (starEach [e] X.env)=[(false,eval e X.env)]
structure M2 (X:Cx) (o:Fr) (m:Str) (a9:Pos) (e f:Fr) (aj:Pos):Prop where
 base:attributeBase o m X.env (eval o X.env)=eval o X.env
 few:((backTo aj (starEach [e,f] X.env)).all (fun x=>!x.1)&&(backToKw aj (keywordEach [] X.env)).all (fun x=>x.1.isSome)
  && decide (([e,f]:List Fr).length+([]:List Keyword).length+(if ([]:List Keyword).isEmpty then 0 else 1)<30))=true
 line:(a9.endLine==aj.line)=true
 trees:backTo aj (starEach [e,f] X.env)=[(false,eval e X.env),(false,eval f X.env)]
section
variable {X:Cx} {aa:List (Fw×Obj)} {σ:St} {H:Hp} {s:Fy} {a:Fw} {y d:V} {u r:Fx} {o:Option V} {A:Fv} {E:Fx→Fy→Prop}
end
section
variable {X:Cx} {o e f:Fr} {a9 aj:Pos} {td ty tx:TE}
end
section
variable {X:Cx} {aa:List (Fw×Obj)} {σ:St} {H:Hp} {s:Fy} {a:Fw} {aC:List (Key×V)} {A:Fv} {E:Fx→Fy→Prop}
end
section
variable {X:Cx} {aa:List (Fw×Obj)} {σ:St} {H:Hp} {s:Fy} {a:Fw} {y:V} {u:Fx} {A:Fv} {E:Fx→Fy→Prop}
end
def Qif (env:Env):List (Str×NameKind)→List (Str×Fw)→List (Str×Fw)
 | [],acc=>acc
 | (n,k)::r,acc=>if k==.free then Qif env r ((n,(env.cells.lookup n).getD 0)::acc) else Qif env r acc
theorem Qh2 {env:Env}:∀ (names:List (Str×NameKind)) (acc:List (Str×Fw)),(∀ x∈names,x.2=.free→∃ c,env.cells.lookup x.1=some c) →
  (forIn names acc (fun (x:Str×NameKind) (cs:List (Str×Fw))=>(if (x.2==.free)=true then do let a ← cellOf env x.1;pure (ForInStep.yield ((x.1,a)::cs)) else pure (ForInStep.yield cs):Sem (ForInStep (List (Str×Fw))))))=(pure (Qif env names acc):Sem (List (Str×Fw)))
 | [],acc,_=>by rw [List.forIn_nil];rfl
 | (n,k)::r,acc,h=>by
  have hr:∀ x∈r,x.2=.free→∃ c,env.cells.lookup x.1=some c:=fun x hx=>h x (Zak _ hx)
  rw [List.forIn_cons]
  unfold Qif
  by_cases hk:(k==NameKind.free)=true
  ·obtain ⟨c,hc⟩:=h (n,k) Za8 (by simpa using hk)
   have cU:env.cells.lookup n=some c:=hc
   rw [Zb hk]
   simp only [hk,Zr,cellOf,cU,pure_bind,Za0]
   exact Qh2 r _ hr
  ·rw [Zd hk]
   simp only [hk,Za2,pure_bind,Zaa]
   exact Qh2 r _ hr
theorem Qky {env:Env} {scope:Scope} (h:∀ x∈scope.names,x.2=.free→∃ c,env.cells.lookup x.1=some c):closureFor scope env=pure (Qif env scope.names []):=by
 have q:=Qh2 (env:=env) scope.names [] h
 unfold closureFor
 simp only [bind_pure_comp] at q ⊢
 have e:(fun (x:Str×NameKind) (r:List (Str×Fw))=>(if (x.2==NameKind.free)=true then (fun a=>ForInStep.yield ((x.1,a)::r)) <$> cellOf env x.1 else pure (ForInStep.yield r):Sem (ForInStep (List (Str×Fw)))))=(fun (x:Str×NameKind) (cs:List (Str×Fw))=>(match x with | (name,kind)=>if (kind==NameKind.free)=true then (fun a=>ForInStep.yield ((name,a)::cs)) <$> cellOf env name else pure (ForInStep.yield cs):Sem (ForInStep (List (Str×Fw))))):=by
  funext x cs
  obtain ⟨n,k⟩:=x
  rfl
 rw [e] at q
 simpa using q
theorem Qb3 {env:Env} {x:Str} {c:Fw}:∀ (names:List (Str×NameKind)) (acc:List (Str×Fw)),(∀ y∈names,y.2=.free→∃ c,env.cells.lookup y.1=some c)→(Qif env names acc).lookup x=some c →
  acc.lookup x=some c∨env.cells.lookup x=some c
 | [],acc,_,h=>.inl h
 | (n,k)::r,acc,hf,h=>by
  have hr:∀ x∈r,x.2=.free→∃ c,env.cells.lookup x.1=some c:=fun x hx=>hf x (Zak _ hx)
  unfold Qif at h
  by_cases hk:(k==NameKind.free)=true
  ·rw [Zb hk] at h
   obtain ⟨d,hd⟩:=hf (n,k) Za8 (by simpa using hk)
   have fB:env.cells.lookup n=some d:=hd
   rcases Qb3 r _ hr h with q | q
   ·rw [Z3,fB] at q
    by_cases hx:(x==n)=true
    ·rw [hx] at q
     have e:x=n:=by simpa using hx
     subst e
     simp only [Za0] at q
     exact .inr (fB.trans q)
    ·have cM:(x==n)=false:=by simpa using hx
     rw [cM] at q
     exact .inl q
   ·exact .inr q
  ·rw [Zd hk] at h
   exact Qb3 r _ hr h
theorem Qig {env:Env} {x:Str}:∀ (names:List (Str×NameKind)) (acc:List (Str×Fw)),((x,NameKind.free)∈names∨∃ c,acc.lookup x=some c)→∃ c,(Qif env names acc).lookup x=some c
 | [],acc,h=>by
  rcases h with h | h
  ·cases h
  ·exact h
 | (n,k)::r,acc,h=>by
  unfold Qif
  by_cases hk:(k==NameKind.free)=true
  ·rw [Zb hk]
   refine Qig r _ ?_
   by_cases hx:(x==n)=true
   ·exact .inr ⟨_,by rw [Z3,hx]⟩
   ·have cM:(x==n)=false:=by simpa using hx
    rcases h with h | ⟨c,h⟩
    ·rcases Z7.mp h with e | h
     ·cases e;simp at hx
     ·exact .inl h
    ·exact .inr ⟨c,by rw [Z3,cM];exact h⟩
  ·rw [Zd hk]
   refine Qig r _ ?_
   rcases h with h | h
   ·rcases Z7.mp h with e | h
    ·cases e;simp at hk
    ·exact .inl h
   ·exact .inr h
theorem Qb7 {x:Str} {c:Fw}:∀ (names:List (Str×NameKind)) (n:Nat) (acc:List (Str×Fw)),(cellsFrom n names acc).lookup x=some c→acc.lookup x=some c∨(n≤c∧(x,NameKind.cell)∈names)
 | [],_,_,h=>.inl h
 | (y,k)::r,n,acc,h=>by
  unfold cellsFrom at h
  by_cases hk:(k==NameKind.cell)=true
  ·rw [Zb hk] at h
   have cg:k=.cell:=by simpa using hk
   rcases Qb7 r _ _ h with q | ⟨q1,q2⟩
   ·rw [Z3] at q
    by_cases hx:(x==y)=true
    ·rw [hx] at q
     cases q
     exact .inr ⟨Zi _,by rw [show x=y by simpa using hx,cg];exact Za8⟩
    ·rw [show (x==y)=false by simpa using hx] at q
     exact .inl q
   ·exact .inr ⟨by omega,Zak _ q2⟩
  ·rw [Zd hk] at h
   rcases Qb7 r _ _ h with q | ⟨q1,q2⟩
   ·exact .inl q
   ·exact .inr ⟨q1,Zak _ q2⟩
theorem Qdi {x:Str} {c:Fw}:∀ (names:List (Str×NameKind)) (n:Nat) (acc:List (Str×Fw)),(x,NameKind.cell)∈names→(cellsFrom n names acc).lookup x=some c→n≤c
 | [],_,_,h,_=>by cases h
 | (y,k)::r,n,acc,hm,h=>by
  unfold cellsFrom at h
  by_cases hk:(k==NameKind.cell)=true
  ·rw [Zb hk] at h
   by_cases hx:(x==y)=true
   ·rcases Qb7 r _ _ h with q | ⟨q1,q2⟩
    ·rw [Z3,hx] at q
     cases q
     exact Zi _
    ·omega
   ·rcases Z7.mp hm with e | hm
    ·cases e;simp at hx
    ·have:=Qdi r _ _ hm h
     omega
  ·rw [Zd hk] at h
   rcases Z7.mp hm with e | hm
   ·cases e;simp at hk
   ·exact Qdi r _ _ hm h
theorem Qe3:∀ (names:List (Str×NameKind)) (n:Nat) (acc:List (Str×Fw)),(∀ x c,acc.lookup x=some c→c<n)→(∀ x y c,acc.lookup x=some c→acc.lookup y=some c→x=y) →
  ∀ x y c,(cellsFrom n names acc).lookup x=some c→(cellsFrom n names acc).lookup y=some c→x=y
 | [],_,_,_,hi=>hi
 | (z,k)::r,n,acc,hb,hi=>by
  unfold cellsFrom
  by_cases hk:(k==NameKind.cell)=true
  ·rw [Zb hk]
   refine Qe3 r (n+1) _ (fun x c h=>?_) (fun x y c h1 h2=>?_)
   ·rw [Z3] at h
    by_cases hx:(x==z)=true
    ·rw [hx] at h;cases h;exact Nat.lt_succ_self _
    ·rw [show (x==z)=false by simpa using hx] at h
     exact Zbi (hb x c h)
   ·rw [Z3] at h1 h2
    by_cases hx:(x==z)=true
    ·rw [hx] at h1;cases h1
     by_cases hy:(y==z)=true
     ·rw [show x=z by simpa using hx,show y=z by simpa using hy]
     ·rw [show (y==z)=false by simpa using hy] at h2
      exact absurd (hb y n h2) (Zas _)
    ·rw [show (x==z)=false by simpa using hx] at h1
     by_cases hy:(y==z)=true
     ·rw [hy] at h2;cases h2
      exact absurd (hb x n h1) (Zas _)
     ·rw [show (y==z)=false by simpa using hy] at h2
      exact hi x y c h1 h2
  ·rw [Zd hk]
   exact Qe3 r n acc hb hi
theorem Qdc {names:List (Str×NameKind)}:∀ (names:List (Str×NameKind)) (h:Fq) (acc:List (Str×Fw)),(∀ x c,acc.lookup x=some c→∃ v,h.IsCell c v)→∀ x c,(cellsFrom h.objs.size names acc).lookup x=some c→∃ v,(pushCells h names).IsCell c v
 | [],_,_,hi=>hi
 | (z,k)::r,h,acc,hi=>by
  unfold cellsFrom pushCells
  by_cases hk:(k==NameKind.cell)=true
  ·rw [Zb hk,Zb hk]
   have q:=Qdc (names:=names) r (h.push { cls:=.type "cell",data:=.cell none }) ((z,h.objs.size)::acc) (fun x c hx=>by
    rw [Z3] at hx
    by_cases hz:(x==z)=true
    ·rw [hz] at hx;cases hx
     exact ⟨none,⟨_,Zt _ rfl,rfl⟩⟩
    ·rw [show (x==z)=false by simpa using hz] at hx
     obtain ⟨v,w⟩:=hi x c hx
     exact ⟨v,w.keeps fun b o e=>Zg _ e⟩)
   rwa [Zcj] at q
  ·rw [Zd hk,Zd hk]
   exact Qdc (names:=names) r h acc hi
theorem Qjw {M:Model} {A:Fv} {E:Fx→Fy→Prop} {s:Fy} {scope:Scope} {globals:Fw} {cl:List (Str×Fw)} {qual:Str} {env:Env} {Q:Env→Fy→Prop}
  (hQ:Q { scope:=scope,locals:=s.heap.objs.size,globals:=globals,cells:=cellsFrom (s.heap.objs.size+1) scope.names cl,qual:=qual,func:=none,code:=env.code,frame:=env.frame,builtins:=env.builtins } { s with heap:=pushCells (s.heap.push { cls:=.type "dict",data:=.dict #[] }) scope.names }) :
  wpAny M A (newFunctionEnv scope globals cl [] qual none .none (some env)) Q E s:=by
 simp only [newFunctionEnv,Option.isSome_some,Zr]
 refine Zc (wpAny_alloc ?_)
 refine Zc (wpAny_layCells _ (fun name kind cells=>by cases hkc:kind==NameKind.cell <;> simp [hkc]) _ _ _ _ ?_)
 rw [show ({ s with heap:=s.heap.push { cls:=.type "dict",data:=.dict #[] } }:Fy).heap.objs.size=s.heap.objs.size+1 from Zcj ..]
 simp only [List.forIn_nil,pure_bind]
 exact Zs hQ
theorem Qih {prog:Fu} {w:Ft} {A:Fv} {R:Result→Fy→Prop} {s:Fy} {elt aI af:Fr} {az:List Fr} {scope:Scope} {pos:Pos} {it acc:Fx} {env:Env} (I:Nat→Fy→Prop)
  (turn:∀ n s,I n s→wpAny (model prog w) A (pyNext it) (fun r s1=>match r with
   | none=>R (.ok .next) s1
   | some v=>wpAny (model prog w) A (letOwnedTupleGo aI it v) (fun _ iD=>wpAny (model prog w) A (assign aI env v) (fun _ s2 =>
     wpAny (model prog w) A (forIn az true fun c r=>if r=true then do let ok ← isTrue c env (eval c env);pure (ForInStep.yield ok) else pure (ForInStep.yield r)) (fun ok s3 =>
      if ok=true then wpAny (model prog w) A (eval elt env) (fun x s4 =>
       wpAny (model prog w) A (call (.builtin "list.append") [acc,x]) (fun _ s5=>∃ m,m<n∧I m s5) (fun _ _=>False) s4) (fun _ _=>False) s3
      else ∃ m,m<n∧I m s3) (fun _ _=>False) s2) (fun _ _=>False) iD) (fun _ _=>False) s1) (fun _ _=>False) s)
  (n:Nat) (h:I n s) :
  codeAny (model prog w) A (.compLoop (.ListComp elt [⟨aI,af,az,0⟩] scope pos) 0 it acc env) R s:=by
 refine codeAny_loop rfl I (fun n s hI=>?_) n h
 show wpAny _ A ((compTurn (.ListComp elt [⟨aI,af,az,0⟩] scope pos) 0 it acc env).onRaise (fun x=>do noteFrame x env;theTreesLotGoes x)) _ _ s
 refine wpAny_noted ?_
 rw [compTurn_list]
 refine Zc (Zea (Zc (Zbl (turn n s hI) (fun r s1 h1=>?_) fun _ _ h'=>h'.elim)))
 cases r with
 | none=>exact Zs h1
 | some v =>
  refine Zc (Zbl h1 (fun _ iD cY=>Zc (Zbl cY (fun _ s2 h2=>Zc (Zbl h2 (fun ok s3 h3=>?_) fun _ _ h'=>h'.elim)) fun _ _ h'=>h'.elim)) fun _ _ h'=>h'.elim)
  cases ok with
  | false=>exact Zs ⟨rfl,h3⟩
  | true =>
   exact Zc (Zc (Zbl h3 (fun x s4 h4=>Zc (Zbl h4 (fun _ s5 h5=>Zs (Zs ⟨rfl,h5⟩)) fun _ _ h'=>h'.elim)) fun _ _ h'=>h'.elim))
def Q9 (X:Cx) (scope:Scope) (N:List Str) (s:Fy) (H:Hp) (fp:List Fw):Cx where
 prog:=X.prog
 w:=X.w
 K:=X.K
 mg:=X.mg
 base:=X.base
 A:=X.A
 N:=N
 s₀:=s
 H₀:=H
 env:={ scope:=relabel scope X.env,locals:=s.heap.objs.size,globals:=X.env.globals,cells:=cellsFrom (s.heap.objs.size+1) scope.names (Qif X.env scope.names []),qual:=X.env.qual,func:=none,code:=X.env.code,frame:=X.env.frame,builtins:=X.env.builtins }
 outer:=X.stack
 stack:=X.stack
 ex:=fp
 fn:=fun x=>decide ((x,NameKind.cell)∈scope.names)
 calm:=X.calm
 pn:=[]
 xe:=fun _ _=>False
def Qfc (js:List (Option Nat)) (σ:St):St:=js.map fun o=>match o with | none=>none | some j=>(σ[j]?).join
def Qii (X:Cx) (scope:Scope) (N:List Str) (js:List (Option Nat)):Bool :=
 (N.length==js.length)&&(N.zip js).all fun p=>match p.2 with
  | none=>true
  | some j=>X.N[j]?==some p.1&&(scope.names.lookup p.1==some .free&&(X.env.scope.names.lookup p.1==some .cell||X.env.scope.names.lookup p.1==some .free))
def scOk (X:Cx) (scope:Scope):Bool :=
 scope.names.all fun p=>(p.2 != .free||(X.env.scope.names.lookup p.1==some .cell||X.env.scope.names.lookup p.1==some .free))&&scope.names.lookup p.1==some p.2
section
variable {X:Cx} {aa:List (Fw×Obj)} {σ:St} {H:Hp} {s:Fy} {scope:Scope}
theorem scOk.get (h:scOk X scope=true) {p:Str×NameKind} (hp:p∈scope.names):(p.2=.free→X.env.scope.names.lookup p.1=some .cell∨X.env.scope.names.lookup p.1=some .free)∧scope.names.lookup p.1=some p.2:=by
 have q:=Z1.mp h p hp
 rw [Zm] at q
 refine ⟨fun e=>?_,by simpa using q.2⟩
 have q1:=q.1
 rw [e] at q1
 simpa using q1
theorem scOk.cells (I:Inv X aa σ H s) (h:scOk X scope=true):∀ x∈scope.names,x.2=.free→∃ c,X.env.cells.lookup x.1=some c:=fun x hx e=>I.ok.has x.1 ((scOk.get h hx).1 e)
theorem scOk.one (h:scOk X scope=true) {x:Str} {k j:NameKind} (e:(x,k)∈scope.names) (e':(x,j)∈scope.names):k=j:=by
 have q1:=(scOk.get h e).2
 have q2:=(scOk.get h e').2
 exact Zo (q1.symm.trans q2)
theorem Qji (I:Inv X aa σ H s) (h:scOk X scope=true) {n:Nat} {x:Str} {c:Fw} (e:(cellsFrom n scope.names (Qif X.env scope.names [])).lookup x=some c):X.env.cells.lookup x=some c∨(n≤c∧(x,NameKind.cell)∈scope.names):=by
 rcases Qb7 _ _ _ e with q | q
 ·rcases Qb3 _ _ (scOk.cells I h) q with z | z
  ·cases z
  ·exact .inl z
 ·exact .inr q
theorem Qct {env:Env} {x:Str} {k:NameKind}:∀ {names:List (Str×NameKind)},(names.map fun (n,k)=>if (k==NameKind.free&&env.scope.kind==.function&&env.kindOf n==some .cell) then (n,NameKind.cell) else (n,k)).lookup x=some k →
  names.lookup x=some k∨(k=.cell∧names.lookup x=some .free)
 | [],h=>by cases h
 | (n,j)::r,h=>by
  rw [Zaq] at h
  replace h:List.lookup x ((if (j==NameKind.free&&env.scope.kind==.function&&env.kindOf n==some .cell)=true then (n,NameKind.cell) else (n,j))::_)=some k:=h
  by_cases hc:(j==NameKind.free&&env.scope.kind==.function&&env.kindOf n==some .cell)=true
  ·rw [Zb hc,Z3] at h
   rw [Z3]
   by_cases hx:(x==n)=true
   ·rw [hx] at h ⊢
    cases h
    simp only [Zm] at hc
    exact .inr ⟨rfl,by rw [show j=.free by simpa using hc.1.1]⟩
   ·rw [show (x==n)=false by simpa using hx] at h ⊢
    exact Qct h
  ·rw [Zd hc,Z3] at h
   rw [Z3]
   by_cases hx:(x==n)=true
   ·rw [hx] at h ⊢
    exact .inl h
   ·rw [show (x==n)=false by simpa using hx] at h ⊢
    exact Qct h
theorem Qfu {env:Env} {x:Str}:∀ {names:List (Str×NameKind)},names.lookup x=some .free →
  (names.map fun (n,k)=>if (k==NameKind.free&&env.scope.kind==.function&&env.kindOf n==some .cell) then (n,NameKind.cell) else (n,k)).lookup x=some .cell ∨
  (names.map fun (n,k)=>if (k==NameKind.free&&env.scope.kind==.function&&env.kindOf n==some .cell) then (n,NameKind.cell) else (n,k)).lookup x=some .free
 | [],h=>by cases h
 | (n,j)::r,h=>by
  rw [Zaq]
  show List.lookup x ((if (j==NameKind.free&&env.scope.kind==.function&&env.kindOf n==some .cell)=true then (n,NameKind.cell) else (n,j))::_)=some .cell∨List.lookup x ((if (j==NameKind.free&&env.scope.kind==.function&&env.kindOf n==some .cell)=true then (n,NameKind.cell) else (n,j))::_)=some .free
  rw [Z3] at h
  by_cases hx:(x==n)=true
  ·rw [hx] at h
   cases h
   by_cases hc:(NameKind.free==NameKind.free&&env.scope.kind==.function&&env.kindOf n==some .cell)=true
   ·rw [Zb hc,Z3,hx];exact .inl rfl
   ·rw [Zd hc,Z3,hx];exact .inr rfl
  ·rw [show (x==n)=false by simpa using hx] at h
   by_cases hc:(j==NameKind.free&&env.scope.kind==.function&&env.kindOf n==some .cell)=true
   ·rw [Zb hc,Z3,show (x==n)=false by simpa using hx];exact Qfu h
   ·rw [Zd hc,Z3,show (x==n)=false by simpa using hx];exact Qfu h
theorem Q2m {N:List Str} {fp:List Fw} (I:Inv X aa σ H s) (hk:scope.kind=.function) (h:scOk X scope=true) (hf:∀ b∈fp,Qgt X aa H b) (ho:∀ b∈fp,∃ o,s.heap.get? b=some o∧∀ v,o.data≠.cell v):(Q9 X scope N s H fp).Ok where
 mod:=I.ok.mod
 kind:=hk
 glob:=I.ok.glob
 blt:=I.ok.blt
 above:=Zi _
 inj:=fun x y c h1 h2=>Qe3 _ _ _ (fun z c hz=>by
   rcases Qb3 _ _ (scOk.cells I h) hz with q | q
   ·cases q
   ·obtain ⟨v,w⟩:=I.cell z c q
    exact Zbi w.lt) (fun y z c h1 h2=>by
   rcases Qb3 _ _ (scOk.cells I h) h1 with q | q
   ·cases q
   ·rcases Qb3 _ _ (scOk.cells I h) h2 with q' | q'
    ·cases q'
    ·exact I.ok.inj y z c q q') x y c h1 h2
 has:=fun x hx=>by
  have ax:(x,NameKind.cell)∈scope.names∨(x,NameKind.free)∈scope.names:=by
   rcases hx with hx | hx
   ·rcases Qct hx with q | ⟨_,q⟩
    ·exact .inl (Zai q)
    ·exact .inr (Zai q)
   ·rcases Qct hx with q | ⟨q,_⟩
    ·exact .inr (Zai q)
    ·cases q
  rcases ax with q | q
  ·have e:scope.names.lookup x=some .cell:=(scOk.get h q).2
   exact Zbf.mp (Zbo scope.names _ _ (.inl e))
  ·obtain ⟨c,hc⟩:=Qig (env:=X.env) scope.names [] (.inl q)
   exact Zbf.mp (Zbo scope.names _ _ (.inr (by rw [hc];rfl)))
 cab:=fun x c hx hc=>Zd5 (Qdi _ _ _ (Zbj hx) hc)
 hd:=I.ok.hd
 frames:=I.ok.frames
 stk:=.inl rfl
 exf:=fun b hb=>by
  obtain ⟨o,e,d⟩:=ho b hb
  refine ⟨Zv (Zj e),fun x c hc z=>?_⟩
  rcases Qji I h hc with q | ⟨q,_⟩
  ·exact (hf b hb).2.2.2.2.1 x c q z
  ·rw [z] at q
   exact absurd (Zy (Zj e) (Zd5 q)) (Zas _)
 bs:=I.bs
 bsz:=Zav I.ok.bsz I.sz
 noex:=fun b o e hb=>by
  rcases (hf b hb).2.2.2.1 with q | q
  ·exact I.ok.noex b o e q
  ·exact absurd (Zy (Zj e) (Zav I.ok.bsz q)) (Zas _)
 exfs:=fun b hb hs=>by
  rcases Z7.mp (I.stkSub b hs) with q | q
  ·exact (hf b hb).2.1 q
  ·exact (hf b hb).2.2.1 q
 funs:=I.stack
 frf:=⟨I.stkFree,I.tab⟩
theorem Qpv {N:List Str} {js:List (Option Nat)} {fp:List Fw} (I:Inv X aa σ H s) (hk:scope.kind=.function) (h:scOk X scope=true) (hc:Qii X scope N js=true) (hf:∀ b∈fp,Qgt X aa H b) (ho:∀ b∈fp,∃ o,s.heap.get? b=some o∧∀ v,o.data≠.cell v) :
  Inv (Q9 X scope N s H fp) [] (Qfc js σ) H { s with heap:=pushCells (s.heap.push { cls:=.type "dict",data:=.dict #[] }) scope.names }:=by
 have kp:∀ b o,s.heap.get? b=some o→(pushCells (s.heap.push { cls:=.type "dict",data:=.dict #[] }) scope.names).get? b=some o:=fun b o e=>Zdi _ _ _ _ (Zg _ e)
 have b7:N.length=js.length∧∀ p∈N.zip js,∀ j,p.2=some j→X.N[j]?=some p.1∧scope.names.lookup p.1=some .free∧(X.env.scope.names.lookup p.1=some .cell∨X.env.scope.names.lookup p.1=some .free):=by
  unfold Qii at hc
  rw [Zm] at hc
  refine ⟨by simpa using hc.1,fun p hp j e=>?_⟩
  have q:=Z1.mp hc.2 p hp
  rw [e] at q
  simpa using q
 refine ⟨Q2m I hk h hf ho,rfl,I.bare,Un.kept kp,?_,fun x c e=>?_,I.hok.fresh (Zi _),fun x c e=>?_,fun p hp=>absurd (show p∈([]:List (Fw×Obj)) from hp) (by simp),I.hok.kept kp,?_⟩
 ·refine ⟨fun _=>none,(Heap.Ns.new s.heap (.type "dict")).keeps (Zdi _ _),fun i x v h1 h2 h3=>?_⟩
  obtain ⟨o,fE,a7⟩:∃ o,js[i]?=some o∧(match o with | none=>none | some j=>(σ[j]?).join)=some v:=by
   unfold Qfc at h2
   rw [Z8] at h2
   cases e:js[i]? with
   | none=>rw [e] at h2;cases h2
   | some o=>rw [e] at h2;exact ⟨o,rfl,Zo h2⟩
  cases o with
  | none=>cases a7
  | some j =>
   have hz:(x,some j)∈N.zip js:=Z2 (i:=i) (by rw [List.getElem?_zip_eq_some];exact ⟨h1,fE⟩)
   obtain ⟨q1,q2,q3⟩:=b7.2 _ hz j rfl
   have hσ:σ[j]?=some (some v):=by
    have a7:(σ[j]?).join=some v:=a7
    cases e:σ[j]? with
    | none=>rw [e] at a7;cases a7
    | some w=>rw [e] at a7;exact congrArg some a7
   obtain ⟨m,hn,hl⟩:=I.loc
   obtain ⟨u,r,l⟩:=hl j x v q1 hσ (by rcases q3 with z | z;exact .inr (.inl z);exact .inr (.inr z))
   refine ⟨u,r,.inr ⟨Qfu q2,?_⟩⟩
   have fin:∀ c,X.env.cells.lookup x=some c→s.heap.IsCell c (some u)→∃ c,(cellsFrom (s.heap.objs.size+1) scope.names (Qif X.env scope.names [])).lookup x=some c∧(pushCells (s.heap.push { cls:=.type "dict",data:=.dict #[] }) scope.names).IsCell c (some u):=fun c hc hv=>by
    obtain ⟨d,hd⟩:=Qig (env:=X.env) scope.names [] (.inl (Zai q2))
    obtain ⟨c',cU⟩:=Zbf.mp (Zbo scope.names (s.heap.objs.size+1) (Qif X.env scope.names []) (.inr (by rw [hd];rfl)))
    refine ⟨c',cU,?_⟩
    rcases Qji I h cU with z | ⟨_,z⟩
    ·rw [hc] at z;cases z
     exact hv.keeps kp
    ·have:=scOk.one h z (Zai q2)
     cases this
   rcases l with ⟨hk,_⟩ | ⟨_,c,hc,hv⟩
   ·have hk:X.env.scope.names.lookup x=some .local:=hk
    rcases q3 with z | z <;> (rw [z] at hk;cases hk)
   ·exact fin c hc hv
 ·have q:=Qdc (names:=[]) scope.names (s.heap.push { cls:=.type "dict",data:=.dict #[] }) (Qif X.env scope.names []) (fun y d hd=>by
   rcases Qb3 _ _ (scOk.cells I h) hd with z | z
   ·cases z
   ·obtain ⟨v,w⟩:=I.cell y d z
    exact ⟨v,w.keeps fun b o e=>Zg _ e⟩)
  rw [Zcj] at q
  exact q x c e
 ·rcases Qji I h e with q | ⟨q,_⟩
  ·rcases I.freeC x c q with z | ⟨_,z⟩
   ·exact .inl z
   ·refine .inr ⟨?_,z⟩
    show decide ((x,NameKind.cell)∈scope.names)=false
    refine Z4 fun hx=>?_
    have h1:=Qdi _ _ _ hx e
    obtain ⟨v,w⟩:=I.cell x c q
    exact absurd (Zy (Zbi w.lt) h1) (Zas _)
  ·exact .inl (I.hok.fresh (Zd5 q))
 ·show (Qfc js σ).length=N.length
  unfold Qfc
  rw [Zf,b7.1]
end
def Qaa3 (J:It) (l:Fw) (σ:St) (H1:Hp) (g:TG) (tc:TT) (te:TE) (Q:VK):Prop:=∃ W:Nat→Nat→List V→St→Hp→Prop,
 (∃ m,W 0 m [] σ (upd H1 l (.lst [])))∧∀ i m ys σ2 H2,W i m ys σ2 H2 →
  (J.stop i H2∧Q (.ref l) H2) ∨
  (J.go i H2∧∀ x H3,J.yld i H2 x H3→g x σ2 H3 fun σ4 H4=>tc σ4 H4 fun b H5 =>
   if b=true then te σ4 H5 fun y H6=>H6 l=some (.lst ys)∧ys.length<sizeLine∧∃ m',m'<m∧W (i+1) m' (ys++[y]) σ4 (upd H6 l (.lst (ys++[y])))
   else ∃ m',m'<m∧W (i+1) m' ys σ4 H5)
abbrev Qpw (wi:TI) (js:List (Option Nat)) (g:TG) (tc:TT) (te:TE):TE:=fun σ H Q=>wi σ H fun J H1=>∀ l,H1 l=none→Qaa3 J l (Qfc js σ) H1 g tc te Q
def PTs (X:Cx) (az:List Fr) (t:TT):Prop :=
 ∀ (aa:List (Fw×Obj)) (s:Fy) (σ:St) (H:Hp) (Q:Bool→Hp→Prop),Inv X aa σ H s→t σ H Q →
  wpAny (model X.prog X.w) X.A (forIn az true fun c r=>if r=true then do let ok ← isTrue c X.env (eval c X.env);pure (ForInStep.yield ok) else pure (ForInStep.yield r)) (TP X aa σ Q) X.xe s
abbrev tYes:TT:=fun _ H Q=>Q true H
theorem Q2n {X:Cx}:PTs X [] tYes:=fun aa s σ H Q I h=>wpAny_tests_nil ⟨H,I,h⟩
theorem Q2o {X:Cx} {c:Fr} {t:TT} (h:PT X c t):PTs X [c] t:=fun aa s σ H Q I q=>wpAny_tests_one (h aa s σ H Q I q)
theorem Qxz {X:Cx} {tg elt af:Fr} {az:List Fr} {scope:Scope} {pos:Pos} {N:List Str} {js:List (Option Nat)} {wi:TI} {g:TG} {tc:TT} {te:TE} (ao:X.calm=true)
  (hi:PI X tg af wi) (hg:∀ s H fp,PG (Q9 X scope N s H fp) tg g) (hc:∀ s H fp,PTs (Q9 X scope N s H fp) az tc) (he:∀ s H fp,PE (Q9 X scope N s H fp) elt te)
  (hk:scope.kind=.function:=by rfl) (h1:scOk X scope=true:=by rfl) (h2:Qii X scope N js=true:=by rfl)
  (hs:∀ x,foldedSetIterable af X.env x=pure x:=by intro _;rfl):PE X (.ListComp elt [⟨tg,af,az,0⟩] scope pos) (Qpw wi js g tc te):=by
 intro aa s σ H Q I h
 rw [eval_ListComp]
 refine Zed (use:=none) rfl hs (Qky (scOk.cells I h1)) hk (fun x hx hl=>by rw [(scOk.get h1 hx).2,hl]) ?_
 refine thn (hi aa s σ H _ I h) fun v s1 cY=>thn cY fun fG s2 cC=>?_
 obtain ⟨it,fp,tn,J,H2,e,I2,T,bP,f2,q⟩:=cC
 subst e
 refine Zag ?_
 have hl:H2 s2.heap.objs.size=none:=I2.hok.fresh (Zi _)
 obtain ⟨W,⟨m0,w0⟩,turn⟩:=q _ hl
 have I3:Inv X aa σ (upd H2 s2.heap.objs.size (.lst [])) { s2 with heap:=s2.heap.push { cls:=.type "list",data:=.seq ([]:List Fx).toArray } }:=I2.lnew (t':=s2.toks) (ys:=[]) .nil (Zbb _)
 generalize hs3:({ s2 with heap:=s2.heap.push { cls:=.type "list",data:=.seq ([]:List Fx).toArray } }:Fy)=s3 at I3
 generalize hH3:upd H2 s2.heap.objs.size (.lst [])=H3 at I3 w0
 generalize ce:s2.heap.objs.size=l at turn hH3 hl
 have dU:∀ b o,s2.heap.get? b=some o→s3.heap.get? b=some o:=fun b o e=>by rw [←hs3];exact Zg _ e
 have fN:∀ b∈fp,∃ o,s3.heap.get? b=some o∧∀ v,o.data≠.cell v:=fun b hb=>by
  obtain ⟨o,e,d⟩:=T.obj _ _ bP b hb
  exact ⟨o,dU b o e,d⟩
 have f3:∀ b∈fp,Qgt X aa H3 b:=fun b hb=>by
  obtain ⟨o,e,d⟩:=T.obj _ _ bP b hb
  refine ⟨?_,(f2 b hb).2⟩
  rw [←hH3,Q3 (Zv (by rw [←ce];exact Zj e))]
  exact (f2 b hb).1
 refine Qjw ?_
 have I4:=Qpv (N:=N) (js:=js) I3 hk h1 h2 f3 fN
 have c5:tn 0 (pushCells (s3.heap.push { cls:=.type "dict",data:=.dict #[] }) scope.names):=T.keep _ _ _ bP fun b hb o e=>Zdi _ _ _ _ (Zg _ (dU b o e))
 have fK:∀ b∈fp,H3 b=none:=fun b hb=>(f3 b hb).1
 have cZ:∀ {H':Hp},(∀ b∈fp,H' b=none)→∀ b∈fp,Qgt (Q9 X scope N s3 H3 fp) [] H' b:=fun hn b hb=>by
  have ok:=I4.ok
  refine ⟨hn b hb,(ok.exf b hb).1,ok.exfs b hb,.inl hb,(ok.exf b hb).2,fun p hp=>absurd (show p∈([]:List (Fw×Obj)) from hp) (by simp)⟩
 -- the block's end
 have fin:∀ {σ':St} {H':Hp} {s':Fy},Inv (Q9 X scope N s3 H3 fp) [] σ' H' s'→Q (.ref l) H'→compPost (model X.prog X.w) X.A X.xe none (EP X aa σ Q) (.ref l) s3.heap.objs.size (.ok .next) s':=fun {σ' H' s'} I' q'=>by
  obtain ⟨m,hn,_⟩:=id I'.loc
  refine ⟨m,hn,fun h' bU=>⟨.ref l,H',?_,rfl,q'⟩⟩
  have b9:H' s3.heap.objs.size=none:=I'.free
  refine I3.call' (s':={ s' with heap:=h' }) (ch:=fp) I'.os ⟨fun b o e n hb hx=>?_,fun b o e n hb hx=>?_,I'.base.free,fun b o e hx=>?_,I'.base.tups,I'.base.frzs,I'.base.tbls⟩ (fun b u e=>?_) I'.bare (fun b hb=>⟨(f3 b hb).2.2.2.1,(f3 b hb).2.1,(f3 b hb).2.2.2.2.1,(f3 b hb).2.2.2.2.2⟩)
  ·exact (bU.2 b (Zv (Zj e))).trans (I'.base.keep b o e n hb hx)
  ·obtain ⟨sl,z⟩:=I'.base.slot b o e n hb hx
   exact ⟨sl,(bU.2 b (Zv (Zj e))).trans z⟩
  ·obtain ⟨o',z⟩:=I'.base.there b o e hx
   exact ⟨o',(bU.2 b (Zv (Zj e))).trans z⟩
  ·refine (I'.hok b u e).stay (fun c w' hc z=>(bU.2 c ?_).trans z) (fun _ z=>z) fun _ _ z=>z
   rintro rfl
   rcases hc with rfl | hc
   ·rw [b9] at e;cases e
   ·rw [b9] at hc;cases hc
 have aN:codeAny (model X.prog X.w) X.A (.compLoop (.ListComp elt [⟨tg,af,az,0⟩] scope pos) 0 (.ref it) (.ref l) (Q9 X scope N s3 H3 fp).env) (compPost (model X.prog X.w) X.A X.xe none (EP X aa σ Q) (.ref l) s3.heap.objs.size)
   { s3 with heap:=pushCells (s3.heap.push { cls:=.type "dict",data:=.dict #[] }) scope.names }:=by
  refine Qih (fun n s'=>∃ i ys σ' H',Inv (Q9 X scope N s3 H3 fp) [] σ' H' s'∧tn i s'.heap∧(∀ b∈fp,H' b=none)∧W i n ys σ' H') ?_ m0 ⟨0,[],Qfc js σ,H3,I4,c5,fK,w0⟩
  rintro n s5 ⟨i,ys,σ5,H5,I5,cz,dk,w5⟩
  rcases turn i n ys σ5 H5 w5 with ⟨stop,qn⟩ | ⟨go,step⟩
  ·refine thn (T.done (Q9 X scope N s3 H3 fp) rfl rfl rfl ao i [] s5 σ5 H5 _ I5 (cZ dk) cz stop) fun r s6 ⟨hr,I6⟩=>?_
   subst hr
   exact fin I6 qn
  ·refine thn (T.item (Q9 X scope N s3 H3 fp) rfl rfl rfl ao i [] s5 σ5 H5 _ I5 (cZ dk) cz go) fun r s6 ⟨u,hr,h6⟩=>?_
   subst hr
   refine thn h6 fun _ s7 ⟨x,H7,I7,r7,y7,st7,fr7⟩=>?_
   have I7':=I7.pinned (cZ fr7) (T.obj _ _ st7)
   have again:∀ {σ8:St} {H8:Hp} {s8:Fy} {db:List V},Inv (Q9 X scope N s3 H3 fp) ([]++Qje fp s7.heap) σ8 H8 s8→(∃ m',m'<n∧W (i+1) m' db σ8 H8) →
     ∃ m,m<n∧∃ i ys σ' H',Inv (Q9 X scope N s3 H3 fp) [] σ' H' s8∧tn i s8.heap∧(∀ b∈fp,H' b=none)∧W i m ys σ' H':=fun {σ8 H8 s8 db} I8 ⟨m',hm,w8⟩=>by
    refine ⟨m',hm,i+1,db,σ8,H8,I8.unpinned,T.keep _ _ _ st7 fun b hb o e=>(I8.pin (b,o) (Zw _ (Zw _ (Qci hb e)))).1,fun b hb=>?_,w8⟩
    obtain ⟨o,e,d⟩:=T.obj _ _ st7 b hb
    exact (I8.pin (b,o) (Zw _ (Zw _ (Qci hb e)))).2.1
   refine thn (hg s3 H3 fp _ s7 σ5 H7 x u _ I7' r7 (step x H7 y7)) fun _ s8 ⟨σ8,H8,I8,q8⟩=>?_
   refine thn (hc s3 H3 fp _ s8 σ8 H8 _ I8 q8) fun ok s9 ⟨H9,I9,q9⟩=>?_
   cases ok with
   | false =>
    rw [Zd Zk] at q9 ⊢
    exact again I9 q9
   | true =>
    rw [Zb rfl] at q9 ⊢
    refine thn (he s3 H3 fp _ s9 σ8 H9 _ I9 q9) fun y s10 ⟨vy,H10,I10,r10,a10,z10,q10⟩=>?_
    refine thn (Qjh (X:=Q9 X scope N s3 H3 fp) _ s10 σ8 H10 (.ref l) [vy] (.ref l) [y] (fun _ H'=>∃ m',m'<n∧W (i+1) m' (ys++[vy]) σ8 H') I10 rfl (.cons r10 .nil) ⟨l,ys,vy,rfl,rfl,a10,z10,q10⟩) fun _ s11 ⟨_,H11,I11,_,q11⟩=>?_
    exact again I11 q11
 first
  | exact Zce aN (T.self _ 0 _ _ _ c5 aN)
  | (rw [← hs3] at aN c5
     exact Zce aN (T.self _ 0 _ _ _ c5 aN))
section
variable {X:Cx}
theorem Qpx:CallR X (.builtin "isinstance") (fun xs H Q=>∃ x T t b,xs=[x,.ty T]∧TyOf X.K H x t∧PySem.W.kitOne X.K t (.type T)=some b∧Q (.bl b) H):=by
 intro aa s σ H xs us Q I r h
 obtain ⟨x,T,t,b,rfl,ty,e,q⟩:=h
 obtain ⟨u,w',rfl,rx,ry⟩:=Qxr r
 obtain rfl:w'=Value.type T:=ry
 exact Qv7 I rx ty e fun tk=>⟨.bl b,H,I.tok _,rfl,q⟩
def Qkb:V→Bool
 | .bl b=>b
 | .int i=>i != 0
 | _=>false
def Qkz:V→Bool
 | .bl _=>true
 | .int _=>true
 | .non=>true
 | _=>false
theorem Qpy {A:Fv} {s:Fy} {x:V} {v:Fx} {Q:Bool→Fy→Prop} {E:Fx→Fy→Prop} (r:RelV x v) (f:Qkz x=true) (h:Q (Qkb x) s):wpAny (model X.prog X.w) A (truthy v) Q E s:=by
 cases x with
 | bl b=>cases r;exact Zbh h
 | int i=>obtain ⟨t,rfl⟩:=r;exact truthy_int h
 | non=>cases r;exact truthy_none h
 | _=>exact absurd (show false=true from f) Zk
theorem Qr4 {α:Type} (f:α→Bool) (d:α) (xs:List α):((List.range xs.length).all fun i=>f (xs.getD i d))=xs.all f:=by
 rw [Zbv,Z1,Z1]
 constructor
 ·intro h x hx
  obtain ⟨i,hi,rfl⟩:=List.getElem_of_mem hx
  have:=h i (Zab.mpr hi)
  rwa [Zn,Za hi,Za0] at this
 ·intro h i hi
  have hi:=Zab.mp hi
  rw [Zn,Za hi,Za0]
  exact h _ (Zcw hi)
theorem Qr5 {α:Type} (f:α→Bool) (d:α) (xs:List α):((List.range xs.length).any fun i=>f (xs.getD i d))=xs.any f:=by
 rw [Zbv,Zca,Zca]
 constructor
 ·rintro ⟨i,hi,h⟩
  have hi:=Zab.mp hi
  rw [Zn,Za hi,Za0] at h
  exact ⟨_,Zcw hi,h⟩
 ·rintro ⟨x,hx,h⟩
  obtain ⟨i,hi,rfl⟩:=List.getElem_of_mem hx
  exact ⟨i,Zab.mpr hi,by rw [Zn,Za hi,Za0];exact h⟩
theorem Qx0 (hc:X.calm=true):CallR X (.builtin "all") (fun xs H Q=>∃ p ys,xs=[.ref p]∧SqL X.K H p ys∧ys.all Qkz=true∧Q (.bl (ys.all Qkb)) H):=by
 intro aa s σ H xs us Q I r h
 obtain ⟨p,ys,rfl,hq,hf,q⟩:=h
 obtain ⟨u,rfl,rx⟩:=Qgk r
 cases rx
 obtain ⟨ac,r',pl,hz⟩:=I.list hq
 have av:p<s.heap.objs.size:=by obtain ⟨_,e,_⟩:=pl.isList;exact Zj e
 have ah:=r'.length
 refine call_all_walk (Zd6 pl.isList ?_)
 refine ⟨s.heap.objs.size,[s.heap.objs.size,p],[s.heap.objs.size],ac.toArray.size,_,_,fun i=>Qkb (ys.getD i .non),rfl,Walks.list (A:=X.A.in1) (I.ok.hd hc) _ p (Zv av) ac.toArray,
  ⟨⟨_,Zt _ rfl,rfl,rfl⟩,pl.isList.push _⟩,fun i v s' Q' E' hP hQ=>?_,fun h' tk hk=>?_⟩
 ·have hi:ac[i]?=some v:=by simpa using hP
  have hy:∃ y,ys[i]?=some y:=by
   have:=(Ze.mp hi).1
   exact ⟨ys[i],Za (by omega)⟩
  obtain ⟨y,hy⟩:=hy
  obtain ⟨v',eL,rv⟩:=r'.get hy
  rw [hi] at eL;cases eL
  refine Qpy (X:=X) rv (Z1.mp hf y (Z2 hy)) ?_
  have hQ:Q' (Qkb (ys.getD i V.non)) s':=hQ
  rw [Zn,hy,Za0] at hQ
  exact hQ
 ·rw [Zp,←ah,Qr4]
  exact ⟨.bl _,H,I.kept fun b x e=>hk b x (fun hm=>by rw [Zx.mp hm] at e;exact Zas _ (Zj e)) (Zg _ e),rfl,q⟩
theorem Qx1 (hc:X.calm=true):CallR X (.builtin "any") (fun xs H Q=>∃ p ys,xs=[.ref p]∧SqL X.K H p ys∧ys.all Qkz=true∧Q (.bl (ys.any Qkb)) H):=by
 intro aa s σ H xs us Q I r h
 obtain ⟨p,ys,rfl,hq,hf,q⟩:=h
 obtain ⟨u,rfl,rx⟩:=Qgk r
 cases rx
 obtain ⟨ac,r',pl,hz⟩:=I.list hq
 have av:p<s.heap.objs.size:=by obtain ⟨_,e,_⟩:=pl.isList;exact Zj e
 have ah:=r'.length
 refine call_any_walk (Zd6 pl.isList ?_)
 refine ⟨s.heap.objs.size,[s.heap.objs.size,p],[s.heap.objs.size],ac.toArray.size,_,_,fun i=>Qkb (ys.getD i .non),rfl,Walks.list (A:=X.A.in1) (I.ok.hd hc) _ p (Zv av) ac.toArray,
  ⟨⟨_,Zt _ rfl,rfl,rfl⟩,pl.isList.push _⟩,fun i v s' Q' E' hP hQ=>?_,fun h' tk hk=>?_⟩
 ·have hi:ac[i]?=some v:=by simpa using hP
  have hy:∃ y,ys[i]?=some y:=by
   have:=(Ze.mp hi).1
   exact ⟨ys[i],Za (by omega)⟩
  obtain ⟨y,hy⟩:=hy
  obtain ⟨v',eL,rv⟩:=r'.get hy
  rw [hi] at eL;cases eL
  refine Qpy (X:=X) rv (Z1.mp hf y (Z2 hy)) ?_
  have hQ:Q' (Qkb (ys.getD i V.non)) s':=hQ
  rw [Zn,hy,Za0] at hQ
  exact hQ
 ·rw [Zp,←ah,Qr5]
  exact ⟨.bl _,H,I.kept fun b x e=>hk b x (fun hm=>by rw [Zx.mp hm] at e;exact Zas _ (Zj e)) (Zg _ e),rfl,q⟩
theorem Qwa (hc:X.calm=true):CallR X (.builtin "max") (fun xs H Q=>∃ (p:Fw) (ns:List Int),xs=[.ref p]∧SqL X.K H p (ns.map V.int)∧ns≠[]∧∀ M,M∈ns→(∀ a∈ns,a≤M)→Q (.int M) H):=by
 intro aa s σ H xs us Q I r h
 obtain ⟨p,ns,rfl,hq,am,q⟩:=h
 obtain ⟨u,rfl,rx⟩:=Qgk r
 cases rx
 obtain ⟨ac,r',pl,hz⟩:=I.list hq
 have hi:IntsAre ac ns:=Qft r'
 obtain ⟨xs,e⟩:=hi.allInts.items
 have bS:ns=xs.toList.map (·.1):=by rw [←hi.numsOf,←nums_intItems,←e]
 have aE:0<xs.size:=by
  have h3:0<ns.length:=List.length_pos_iff.mpr am
  rw [bS,Zf,Zz] at h3;exact h3
 have hl:=pl.isList
 rw [e] at hl
 refine max_intList (I.ok.hd hc) hl aE fun v h' tk hv hk=>?_
 obtain ⟨t,rfl⟩:=intItems_at hv
 obtain ⟨h1,h2⟩:=argBest_gt (numAt xs) (xs.size-1)
 refine ⟨.int _,H,I.kept hk,⟨t,rfl⟩,q _ ?_ fun a ha=>?_⟩
 ·rw [bS,numAt_eq];exact getD_mem (by rw [Zf,Zz];omega)
 ·rw [bS] at ha
  obtain ⟨j,hj,rfl⟩:=mem_getD ha
  rw [Zf,Zz] at hj
  rw [←numAt_eq];exact h2 j (by omega)
end
open PySem.AutoSeq1 (wpAny_loadPart')
theorem Same.upd {H:Hp} {a:Fw} {o:HO} (h:H a=none):Same H (upd H a o):=fun b u e=>by rw [Q3 (Qb1 e h)];exact e
theorem Qn8 (l:Fw) (items:Array Fx) (n:Nat) (b:Fw) (ae:Array Fx) (n2:Nat) (dd:Option Fw) (sl:Array (Option Fx)) (ke:¬(!items.isEmpty&&Builtin.List.listTooLong (items.size+ae.size))=true) (eD:items.size≤sizeLine) (ay:items.size+ae.size≤sizeLine+1) :
  Meets (Builtin.«list.extend» ⟨[.ref l,.ref b],[]⟩) (fun _ R s=>s.heap.get? l=some { cls:=.type "list",dict:=none,data:=.seq items n,slots:=#[] }∧s.heap.get? b=some { cls:=.type "tuple",dict:=dd,data:=.seq ae n2,slots:=sl }∧R (.ok (.ret Value.none)) { s with heap:=s.heap.update l (Obj.mapSeq fun x=>x++ae),toks:=s.toks }) :=
 .of_wp fun prog w A R s h=>by
  obtain ⟨hp,g,d,tk,os⟩:=s;obtain ⟨hl,hb,h⟩:=h;have f1:=Zef;have f2:=Zec;have f3:=AutoSeq1.sub_list_list;have f4:=AutoSeq1.sub_tuple_list;have f5:=AutoSeq1.sub_list_tuple
  have ee:(items++ae).size≤sizeLine+1:=by rw [Array.size_append];exact ay
  wp_walk using (wpAny_updateSeq hl rfl (hz:=eD) (_hz':=ee)),wpAny_loadPart' hl,wpAny_loadPart' hb;exact ⟨_,rfl,h⟩
theorem Qr6 (l:Fw) (items:Array Fx) (n:Nat) (x:Int) (u:Tok) (dd:Option Fw) (sl:Array (Option Fx)) (h0:¬ (x < -(2^63)||x≥2^63)=true) (h1:¬ (items.isEmpty||x==1)=true) (h2:¬ (x≤0||items.isEmpty)=true) (h3:¬ items.size*x>(2^63-1) / 8) (h4:¬ Builtin.Tuple.tupleTooMany (items.size*x)=true)
  (hz:(List.foldl (fun x1 x2=>x1++x2) #[] (List.replicate x.toNat items)).size≤sizeLine) :
  Meets (Builtin.«tuple.__mul__» ⟨[.ref l,.int x u],[]⟩) (fun _ R s=>s.heap.get? l=some { cls:=.type "tuple",dict:=dd,data:=.seq items n,slots:=sl }∧R (.ok (.ret (Value.ref s.heap.objs.size))) { s with heap:=s.heap.push { cls:=Value.type "tuple",data:=Data.seq (List.foldl (fun x1 x2=>x1++x2) #[] (List.replicate x.toNat items)) },toks:=s.toks }) :=
 .of_wp fun prog w A R s h=>by
  obtain ⟨hp,g,d,tk,os⟩:=s;obtain ⟨hl,h⟩:=h;have f1:=Zef
  wp_walk using wpAny_loadPart' hl
  rw [Zd h0]
  wp_walk using wpAny_loadPart' hl
  rw [Zd h3]
  wp_walk using wpAny_loadPart' hl
  exact ⟨_,rfl,h⟩
theorem Qpz (l:Fw) (items:Array Fx) (n:Nat) (x:Int) (u:Tok) (dd:Option Fw) (sl:Array (Option Fx)) (h0:¬ (x < -(2^63)||x≥2^63)=true) (h1:(items.isEmpty||x==1)=true) :
  Meets (Builtin.«tuple.__mul__» ⟨[.ref l,.int x u],[]⟩) (fun _ R s=>s.heap.get? l=some { cls:=.type "tuple",dict:=dd,data:=.seq items n,slots:=sl }∧R (.ok (.ret (Value.ref l))) s) :=
 .of_wp fun prog w A R s h=>by
  obtain ⟨hp,g,d,tk,os⟩:=s;obtain ⟨hl,h⟩:=h;have f1:=Zef
  wp_walk using wpAny_loadPart' hl
  rw [Zd h0]
  wp_walk using wpAny_loadPart' hl
  exact ⟨_,rfl,h⟩
theorem Qk0 (a:Int) (t:Tok) (l:Fw) (items:Array Fx) (n:Nat) (dd:Option Fw) (sl:Array (Option Fx)) :
  Meets (Builtin.«int.__rmul__» ⟨[.int a t,.ref l],[]⟩) (fun _ R s=>s.heap.get? l=some { cls:=.type "tuple",dict:=dd,data:=.seq items n,slots:=sl }∧R (.ok (.ret Value.notImplemented)) s) :=
 .of_wp fun prog w A R s h=>by obtain ⟨hp,g,d,tk,os⟩:=s;obtain ⟨hl,h⟩:=h;wp_walk;exact ⟨_,rfl,h⟩
theorem Qjj:fillsNumberSlot (.type "tuple") "mul" = pure false :=
 PySem.fillsNumberSlot_seq (id := "tuple.__mul__") (r:=some (.builtin "tuple.__rmul__")) F.slot_tuple_mul.lookup (by decide +kernel) F.slot_tuple_rmul.lookup (by decide +kernel)
theorem Qn9:seqRepeat? (.type "tuple")=pure (some (.builtin "tuple.__mul__")):=by
 unfold seqRepeat?
 rw [PySem.seqSlot_of (T := "tuple") (name := "__mul__") (id := "tuple.__mul__") F.slot_tuple_mul.lookup (by decide +kernel),PySem.seqSlot_of (T := "tuple") (name := "__rmul__") (id := "tuple.__rmul__") F.slot_tuple_rmul.lookup (by decide +kernel)]
 rfl
section
variable {X:Cx}
def Qgw (K:Fz):V→List V→Hp→VK→Prop:=fun x vs H Q=>∃ l b xs zs,x=.ref l∧vs=[.ref b]∧H l=some (.lst xs)∧SqT K H b zs∧xs.length+zs.length≤sizeLine∧Q .non (upd H l (.lst (xs++zs)))
theorem Qr7:MtM X "list.extend" (Qgw X.K):=by
 intro aa s σ H x vs v us Q I rx rv h
 obtain ⟨l,b,xs,zs,rfl,rfl,hH,hB,hz,q⟩:=h
 cases rx
 obtain ⟨u,rfl,ru⟩:=rv.one
 cases ru
 obtain ⟨z,ac,n,r,hl,e⟩:=I.lstM hH
 obtain ⟨ak,r2,⟨⟨cls,dd,data,sl⟩,e2,hc,n2,hd⟩,_⟩:=I.tuple hB
 simp only at hc hd
 subst hc hd
 have cm:=r2.length
 have aE:ac.toArray.size+ak.toArray.size≤sizeLine:=by rw [Zp,Zp];omega
 have bv:¬ (!ac.toArray.isEmpty&&Builtin.List.listTooLong (ac.toArray.size+ak.toArray.size))=true:=by
  rw [Qkx aE,Zez]
  exact Zk
 refine Za9 F.slot_list_extend ⟨_,e,rfl⟩ F.entry_list_extend (F.args_list_extend_2 _ _)
  (Qn8 l ac.toArray n b ak.toArray n2 dd sl bv (by rw [Zp];omega) (by omega)) ⟨e,e2,?_⟩
 refine ⟨.non,_,I.lset (its':=ac++ak) hH e (by simp) (r.append r2) ?_,rfl,q⟩
 rw [Zq]
 omega
def Q43 (K:Fz):R2:=fun x y H Q=>∃ a b xs ys,x=.ref a∧y=.ref b∧H a=some (.tup xs)∧H b=some (.tup ys)∧xs.length+ys.length≤sizeLine∧∀ p H',Same H H'→H' p=some (.tup (xs++ys))→(p=a∨p=b∨H p=none)→Q (.ref p) H'
theorem Q2p:OpR X (binaryOp .Add) (Q43 X.K):=by
 intro aa s σ H x y v u Q I rx ry h
 obtain ⟨a,b,xs,ys,rfl,rfl,ha,hb,hz,q⟩:=h
 by_cases hx:xs=[]
 ·cases rx
  cases ry
  subst hx
  obtain ⟨ac,r1,⟨⟨cls,dd,data,sl⟩,e1,hc,n,hd⟩,_⟩:=I.tuple (SqT.of ha)
  obtain ⟨ak,r2,⟨⟨c4,aU,data2,aV⟩,e2,bE,n2,b8⟩,_⟩:=I.tuple (SqT.of hb)
  simp only at hc hd bE b8
  subst hc hd bE b8
  cases r1
  exact Ze9 ⟨_,e1,rfl⟩ ⟨_,e2,rfl⟩ Zee Ze3 Zc5 Zcx (Zcp _ _)
   (tuple_addW0 a b _ _ n n2 dd aU sl aV rfl) ⟨e1,e2,⟨.ref b,H,I,rfl,q b H (Same.refl H) hb (.inr (.inl rfl))⟩⟩
 ·refine Q2h aa s σ H _ _ v u Q I rx ry ⟨a,b,xs,ys,rfl,rfl,SqT.of ha,SqT.of hb,hx,hz,fun e=>q a H (Same.refl H) (by rw [ha,e,Zal]) (.inl rfl),fun _ p hp=>q p _ (Same.upd hp) Qt (.inr (.inr hp))⟩
def rSlS (K:Fz):V→Option Int→Option Int→Hp→VK→Prop:=fun x lo hi H Q=>∃ a xs,x=.ref a∧H a=some (.tup xs)∧∀ p H',Same H H'→H' p=some (.tup (Qgu xs lo hi))→(p=a∨H p=none)→Q (.ref p) H'
theorem Q2q:SlR X (rSlS X.K):=by
 intro aa s σ H x v vl vu lo hi sl Q I rx hs pl pu h
 obtain ⟨a,xs,rfl,hx,q⟩:=h
 by_cases hw:HT.sIx xs.length 0 lo=0∧HT.sIx xs.length xs.length hi=xs.length
 ·cases rx
  obtain ⟨ac,r,ht,hz⟩:=I.tuple (SqT.of (K:=X.K) hx)
  have ah:ac.toArray.size=xs.length:=by rw [Zp];exact r.length.symm
  refine ⟨"tuple",_,PyProof.Rows.slot_tuple_getitem.lookup,ht.typeIs,?_⟩
  have gP:Qgu xs lo hi=xs:=by
   unfold Qgu
   rw [hw.1,hw.2,List.drop_zero,Nat.sub_zero,List.take_length]
  obtain ⟨os,br,ft,dN⟩:=id hs
  have fL:s.TypeIs (.ref sl) "slice" := ⟨os,br,ft⟩
  unfold getItem
  try with_reducible refine Zcg ?_
  first | refine Zc (Zs ?_) | skip
  refine Zc (wpAny_sequenceKey ht.typeIs (by decide) ?_)
  refine Zc (Zbk (name:=Str.ofString "__getitem__") ht.typeIs PyProof.Rows.slot_tuple_getitem
   (Zb2 PyProof.Rows.slot_tuple_getitem ht.typeIs entry_tuple_getitem ?_ (args_tuple_getitem _ _)))
  show wpAny _ _ (Builtin.Tuple.tupleItemsOf (.ref a) >>= _) _ _ s
  refine Zc (tupleItemsOf_ ht ?_)
  refine Zc (Zej fL ?_)
  rw [Zb (by decide)]
  refine Zc (HT.sliceApplied_gen hs pl pu ?_)
  rw [ah,hw.1,hw.2]
  show wpAny _ _ (if ((((0:Nat):Int)==0&&(1:Int)==1&&(xs.length-0)==xs.length)=true) then _ else _) _ _ s
  rw [Zb (by simp)]
  have fin:EP X aa σ Q (.ref a) s:=⟨.ref a,H,I,rfl,q a H (Same.refl H) (by rw [gP];exact hx) (.inl rfl)⟩
  refine Zc (Zc (Zej ht.typeIs (Zs ?_)))
  rw [Zb (by decide)]
  exact Zc (wpAny_rule (Zs ⟨_,rfl,Zs fin⟩))
 ·exact Q7h aa s σ H _ v vl vu lo hi sl Q I rx hs pl pu ⟨a,xs,rfl,SqT.of hx,hw,fun p hp=>q p _ (Same.upd hp) Qt (.inr hp)⟩
end
open PySem.AutoSeq1 (wpAny_loadPart')
section
variable {X:Cx}
def Q44:R2:=fun x y H Q=>∃ a k xs,x=.ref a∧y=.int k∧H a=some (.tup xs)∧xs≠[]∧1≤k∧k<2^31∧xs.length*k.toNat≤sizeLine∧∀ p H',Same H H'→H' p=some (.tup (List.replicate k.toNat xs).flatten)→(p=a∨H p=none)→Q (.ref p) H'
theorem Q2r:OpR X (binaryOp .Mult) Q44:=by
 intro aa s σ H x y v u Q I rx ry h
 obtain ⟨a,k,xs,rfl,rfl,hH,am,h1,h2,hz,q⟩:=h
 cases rx
 obtain ⟨t,rfl⟩:=ry
 obtain ⟨ac,r,⟨⟨cls,dd,data,sl⟩,e,hc,n,hd⟩,_⟩:=I.tuple (SqT.of (K:=X.K) hH)
 simp only at hc hd
 subst hc hd
 have hl:=r.length
 have jV:ac≠[]:=fun z=>am (r.nil_iff.mp z)
 have hZ:ac.toArray.isEmpty=false:=by
  cases ac with
  | nil=>exact absurd rfl jV
  | cons _ _=>rfl
 have h0:¬ (decide (k < -(2^63))||decide (k≥2^63))=true:=by
  simp only [Zcq,Z5]
  omega
 refine Zdz (T := "tuple") (U := "int") (by decide) ⟨_,e,rfl⟩ (fun s'=>Zeh s' k t) Qjj F.fills_int_mul F.slot_int_rmul Qn9 F.slot_int_index.lookup
  (Za9 F.slot_int_rmul (Zeh s k t) F.entry_int_rmul (F.args_int_rmul_2 _ _) (Qk0 k t a ac.toArray n dd sl) ⟨e,rfl,⟨_,e,rfl⟩,?_⟩)
 by_cases hk:k=1
 ·subst hk
  refine Za9 F.slot_tuple_mul ⟨_,e,rfl⟩ F.entry_tuple_mul (F.args_tuple_mul_2 _ _) (Qpz a ac.toArray n 1 t dd sl h0 (by simp)) ⟨e,?_⟩
  exact ⟨.ref a,H,I,rfl,q a H (Same.refl H) (by rw [hH];simp) (.inl rfl)⟩
 ·have ah:ac.toArray.size*k.toNat≤sizeLine:=by rw [Zp,←hl];exact hz
  have i6:(ac.toArray.size:Int)*k=((ac.toArray.size*k.toNat:Nat):Int):=by
   rw [Int.natCast_mul,Int.toNat_of_nonneg (by omega)]
  have hs:sizeLine=16777216:=Zau
  have cy:List.foldl (fun x1 x2=>x1++x2) #[] (List.replicate k.toNat ac.toArray)=(List.replicate k.toNat ac).flatten.toArray:=by
   have:=Qjg ac k.toNat []
   rw [Zbn] at this
   exact this
  refine Za9 F.slot_tuple_mul ⟨_,e,rfl⟩ F.entry_tuple_mul (F.args_tuple_mul_2 _ _) (Qr6 a ac.toArray n k t dd sl h0 (by rw [hZ];simpa using hk) (by rw [hZ];simp;omega)
   (by rw [i6];omega) (by rw [i6];unfold Builtin.Tuple.tupleTooMany;rw [Z5];omega) (by rw [cy,Zp,Qie,←hl,Zdp];exact hz)) ⟨e,?_⟩
  rw [cy]
  have I2:Inv X aa σ (upd H s.heap.objs.size (.tup (List.replicate k.toNat xs).flatten)) { s with heap:=s.heap.push { cls:=.type "tuple",data:=.seq (List.replicate k.toNat ac).flatten.toArray },toks:=s.toks } :=
   I.laid (fun b o e=>Zg _ e) (Zi _) ⟨by rw [Qie,Zdp];exact hz,_,r.rep k.toNat,IsTupD.new _ _⟩
  exact ⟨.ref _,_,I2,rfl,q _ _ (Same.upd I.fresh) Qt (.inr I.fresh)⟩
theorem Qwb {j:Int} (h0:0<j) (h:j<2^64):j.natAbs.log2<9000:=by
 have h1:j.natAbs≠0:=by omega
 have h2:j.natAbs.log2<64:=(Nat.log2_lt h1).mpr (by omega)
 omega
def CDv (i j:Int):Prop:=0<j∧j<2^64
theorem Qx2:CallR X (.builtin "divmod") (fun xs H Q=>∃ i j,xs=[.int i,.int j]∧CDv i j∧∀ p,H p=none→Q (.ref p) (upd H p (.tup [.int (i / j),.int (i%j)]))):=by
 intro aa s σ H xs us Q I r h
 obtain ⟨i,j,rfl,⟨h1,h2⟩,q⟩:=h
 obtain ⟨u,w',rfl,⟨t,rfl⟩,⟨t',rfl⟩⟩:=Qxr r
 refine divmod_int (by omega) ?_ (.inl (PyProof.noPylong_of_log2 (Qwb h1 h2)))
 rw [Zdw i (by omega),Zdx i (by omega)]
 have hn:H s.heap.objs.size=none:=I.hok.fresh (Zi _)
 refine ⟨.ref s.heap.objs.size,_,?_,rfl,q _ hn⟩
 refine I.laid (fun b o e=>Zg _ e) (Zi _) ⟨by simp only [Zh,Zu];rw [Zau];decide,[.int (i / j) s.toks,.int (i%j) (s.toks+1)],.cons ⟨_,rfl⟩ (.cons ⟨_,rfl⟩ .nil),?_⟩
 exact ⟨_,Zt s.heap rfl,rfl,0,rfl,rfl⟩
def Qm4 (K:Fz):R2:=fun x y H Q=>(rI0 fun i j=>.int (i+j)) x y H Q∨rCat x y H Q∨Q43 K x y H Q
theorem uAdd:OpR X (binaryOp .Add) (Qm4 X.K):=Q65.or (Q7m.or Q2p)
def Q45:R2:=fun x y H Q=>(rI CMul fun i j=>.int (i*j)) x y H Q∨rRep x y H Q∨Q44 x y H Q
theorem uMul:OpR X (binaryOp .Mult) Q45:=Q67.or (Q7n.or Q2r)
abbrev Q2s (K:Fz) (tl:TE):TI:=fun σ H R=>tl σ H fun x H1=>∃ a,x=.ref a∧(((∃ xs,SqL K H1 a xs)∧R (Itl K a) H1)∨((∃ xs,SqT K H1 a xs)∧R (Itt K a) H1))
theorem Q7p {tg l:Fr} {tl:TE} (hl:PE X l tl):PI X tg l (Q2s X.K tl):=by
 intro aa s σ H R I h
 refine thn (hl aa s σ H _ I h) fun v s1 ⟨x,H1,I1,r1,q1⟩=>?_
 obtain ⟨a,e,q⟩:=q1
 subst e
 cases r1
 rcases q with ⟨⟨xs,hq⟩,q⟩ | ⟨⟨xs,hq⟩,q⟩
 ·obtain ⟨ac,rv,p,hz⟩:=I1.list hq
  refine Zd6 p.isList ?_
  refine ⟨s1.heap.objs.size,[s1.heap.objs.size],_,_,H1,rfl,I1.kept (t':=s1.toks) fun b o e=>Zg _ e,Qv0 a _,⟨_,Zt _ rfl,rfl,rfl⟩,fun b hb=>?_,q⟩
  have e:b=s1.heap.objs.size:=by simpa using hb
  subst e
  exact I1.fpOk (Zi _) (I1.hok.fresh (Zi _))
 ·obtain ⟨ac,rv,p,hz⟩:=I1.tuple hq
  refine Zcu (show s1.heap.IsTuple a ac.toArray from p) ?_
  refine ⟨s1.heap.objs.size,[s1.heap.objs.size],_,_,H1,rfl,I1.kept (t':=s1.toks) fun b o e=>Zg _ e,Qr0 a _,⟨_,Zt _ rfl,rfl,rfl⟩,fun b hb=>?_,q⟩
  have e:b=s1.heap.objs.size:=by simpa using hb
  subst e
  exact I1.fpOk (Zi _) (I1.hok.fresh (Zi _))
def Qx3 (K:Fz):V→Option Int→Option Int→Hp→VK→Prop:=fun x lo hi H Q=>rSlL K x lo hi H Q∨rSlS K x lo hi H Q
theorem uSl:SlR X (Qx3 X.K):=Q2i.or Q2q
end
structure Dfn (K:Fz) (mg:Str→Option Fx) (x:Str) (st:Fs):Prop where
 ex:∃ f fd,Fun K x x st f fd∧mg x=some (.ref f)
def Has (P:Fu) (w:Ft) (K:Fz) (mg:Str→Option Fx) (base:Fq) (x:Str) (ps:List Str) (k:Nat) (sp:Sp):Prop :=
 ∃ f fd,PySem.W.keepIn K (.ref f)=true∧mg x=some (.ref f)∧Binds K fd ps []∧FnOk P w K mg base CX0 k f fd ps sp
def Qal (x:Str) (st:Fs) (ps:List Str):Prop:=∀ (kV aG pm:Fx) (an:Option Fw) (ag ct:Fx) (us:List Fx),us.length=ps.length→bindArgs (PySem.W.fnOf x x (Qd0 st) (Qbh st) (Qi st) .none kV aG pm an ag ct) ⟨us,[]⟩=pure (ps.zip us)
section
variable {P:Fu} {w:Ft} {K:Fz} {mg:Str→Option Fx} {base:Fq}
theorem Q7q {x:Str} {st:Fs} {N ps:List Str} {k:Nat} {sp:Sp} (d:Dfn K mg x st) (S:FnScope N ps (Qi st)) (bd:Qal x st ps) (len:∀ vs H Q E,sp vs H Q E→vs.length=ps.length)
  (aw:∀ (f:Fw) (ag:Fx) (A:Fv) (outer:List Env) (s:Fy) (H:Hp) (vs:List V) (Q:VK) (E:XK),Room k (A.deeper (envOfC x (Qi st) s.heap.objs.size f ag))→sp vs H Q E →
   ∃ t,PSs (Qhp (fun _=>true) CX0 P w K mg base N x (Qi st) f ag A outer s H E).nox (Qbh st) t∧t { nx:=fun _ H'=>Q .non H',rt:=Q } (Qb2 N vs) H):Has P w K mg base x ps (k+1) sp:=by
 obtain ⟨f,fd,F,m⟩:=d.ex
 exact ⟨f,fd,F.kp,m,F.binds bd,F.ok S len fun ag A outer s H vs Q E hr hs=>aw f ag A outer s H vs Q E hr hs⟩
end
theorem Qx4 {X:Cx} {x:Str} {ps:List Str} {k:Nat} {sp:Sp} {e:Fr} {es:List Fr} {t:TA} {p pos:Pos} (h:Has X.prog X.w X.K X.mg X.base x ps k sp) (hr:Room k X.A) (ha:PA X (e::es) t) (hg:Gl X x:=by rfl)
  (aD:(x==("__debug__" : Str))=false:=by decide) (he:starEach (e::es) X.env=(false,eval e X.env)::starEach es X.env:=by rfl) (bo:(backTo pos (starEach es X.env)).any (·.1)=false:=by rfl) :
  PE X (.Call (.Name x p) (e::es) [] pos) (Qt2 sp [] E0 t):=by
 obtain ⟨f,fd,kp,m,b,F⟩:=h
 exact Q2e F hr hg m kp b .nil Qaa2 ha aD he bo
inductive T where
 | non | bl (b:Bool) | int (i:Int) | str (x:Str) | tup (ts:List T) | lst (ts:List T) | dct (ks:List Key) (ts:List T) | dtt (ks:List (List Int)) (ts:List T) | clo (k:Nat) (ts:List T)
def kIs (ks:List Int):List Key:=ks.map Sum.inl
def CellsAt (H:Hp):List Fw→List V→Prop
 | [],vs=>vs=[]
 | c::cs,vs=>∃ v r oc u w,vs=v::r∧H c=some (.frz oc w)∧oc.data=.cell (some u)∧RelV v u∧CellsAt H cs r
def CloAt (H:Hp) (f:Fw) (l:LamT) (us:List V):Prop:=∃ cs c' pm eC,cs.Nodup∧cs.length=l.caps.length∧H f=some (.frz (PySem.W.kla_obj "<lambda>" l.qual l.params l.body l.scope (l.caps.zip cs) pm c' eC) (.own f))∧H c'=some (.cod l.qual)∧CellsAt H cs us
theorem CellsAt.mono {H H':Hp} (h:Same H H'):∀ {cs:List Fw} {vs:List V},CellsAt H cs vs→CellsAt H' cs vs
 | [],_,r=>r
 | c::cs,_,r=>by
  obtain ⟨v,w,oc,u,w',e,a,b,d,q⟩:=r
  exact ⟨v,w,oc,u,w',e,h _ _ a,b,d,CellsAt.mono h q⟩
theorem CloAt.mono {H H':Hp} (h:Same H H') {f:Fw} {l:LamT} {us:List V} (r:CloAt H f l us):CloAt H' f l us:=by
 obtain ⟨cs,c',pm,eC,a,b,c,d,e⟩:=r
 exact ⟨cs,c',pm,eC,a,b,h _ _ c,h _ _ d,e.mono h⟩
mutual
def Is (H:Hp):V→T→Prop
 | v,.non=>v=.non
 | v,.bl b=>v=.bl b
 | v,.int i=>v=.int i
 | v,.str x=>v=.str x
 | v,.tup ts=>ts.length≤100000∧∃ a vs,v=.ref a∧H a=some (.tup vs)∧IsL H vs ts
 | v,.lst ts=>ts.length≤100000∧∃ a vs,v=.ref a∧H a=some (.lst vs)∧IsL H vs ts
 | v,.dct ks ts=>∃ a vs,v=.ref a∧H a=some (.dK (ks.zip vs))∧ks.length=vs.length∧IsL H vs ts
 | v,.dtt ks ts=>ks.length≤100000∧∃ a vs,v=.ref a∧H a=some (.dT ((ks.map kIs).zip vs))∧ks.length=vs.length∧IsL H vs ts
 | v,.clo k ts=>∃ f us l,v=.ref f∧Qxy.lookup k=some l∧CloAt H f l us∧IsL H us ts
def IsL (H:Hp):List V→List T→Prop
 | vs,[]=>vs=[]
 | vs,t::ts=>∃ v r,vs=v::r∧Is H v t∧IsL H r ts
end
mutual
theorem Is.mono {H H':Hp} (h:Same H H'):∀ {v:V} {t:T},Is H v t→Is H' v t
 | v,.non,r=>by unfold Is at r ⊢;exact r
 | v,.bl b,r=>by unfold Is at r ⊢;exact r
 | v,.int i,r=>by unfold Is at r ⊢;exact r
 | v,.str x,r=>by unfold Is at r ⊢;exact r
 | v,.tup ts,r=>by
  unfold Is at r ⊢
  obtain ⟨z,a,vs,e,ha,q⟩:=r
  exact ⟨z,a,vs,e,h _ _ ha,IsL.mono h q⟩
 | v,.lst ts,r=>by
  unfold Is at r ⊢
  obtain ⟨z,a,vs,e,ha,q⟩:=r
  exact ⟨z,a,vs,e,h _ _ ha,IsL.mono h q⟩
 | v,.dct ks ts,r=>by
  unfold Is at r ⊢
  obtain ⟨a,vs,e,ha,l,q⟩:=r
  exact ⟨a,vs,e,h _ _ ha,l,IsL.mono h q⟩
 | v,.dtt ks ts,r=>by
  unfold Is at r ⊢
  obtain ⟨z,a,vs,e,ha,l,q⟩:=r
  exact ⟨z,a,vs,e,h _ _ ha,l,IsL.mono h q⟩
 | v,.clo l ts,r=>by
  unfold Is at r ⊢
  obtain ⟨f,us,l,e,k,c,q⟩:=r
  exact ⟨f,us,l,e,k,c.mono h,IsL.mono h q⟩
theorem IsL.mono {H H':Hp} (h:Same H H'):∀ {vs:List V} {ts:List T},IsL H vs ts→IsL H' vs ts
 | vs,[],r=>by unfold IsL at r ⊢;exact r
 | vs,t::ts,r=>by
  unfold IsL at r ⊢
  obtain ⟨v,w,e,a,b⟩:=r
  exact ⟨v,w,e,Is.mono h a,IsL.mono h b⟩
end
theorem IsL.nil {H:Hp}:IsL H [] []:=by unfold IsL;rfl
theorem IsL.cons {H:Hp} {v:V} {t:T} {vs:List V} {ts:List T} (a:Is H v t) (b:IsL H vs ts):IsL H (v::vs) (t::ts):=by unfold IsL;exact ⟨v,vs,rfl,a,b⟩
theorem IsL.cons_inv {H:Hp} {vs:List V} {t:T} {ts:List T} (r:IsL H vs (t::ts)):∃ v w,vs=v::w∧Is H v t∧IsL H w ts:=by unfold IsL at r;exact r
theorem IsL.nil_inv {H:Hp} {vs:List V} (r:IsL H vs []):vs=[]:=by unfold IsL at r;exact r
theorem IsL.length {H:Hp}:∀ {ts:List T} {vs:List V},IsL H vs ts→vs.length=ts.length
 | [],vs,r=>by rw [r.nil_inv];rfl
 | t::ts,vs,r=>by
  obtain ⟨v,w,rfl,_,q⟩:=r.cons_inv
  rw [Zh,Zh,q.length]
theorem IsL.get {H:Hp}:∀ {ts:List T} {vs:List V} {i:Nat} {v:V},IsL H vs ts→vs[i]?=some v→∃ t,ts[i]?=some t∧Is H v t
 | [],vs,i,v,r,e=>by rw [r.nil_inv] at e;simp at e
 | t::ts,vs,0,v,r,e=>by
  obtain ⟨x,w,rfl,a,q⟩:=r.cons_inv
  rw [Zay] at e ⊢
  cases e
  exact ⟨t,rfl,a⟩
 | t::ts,vs,i+1,v,r,e=>by
  obtain ⟨x,w,rfl,a,q⟩:=r.cons_inv
  rw [Zl] at e ⊢
  exact IsL.get q e
theorem IsL.getT {H:Hp}:∀ {ts:List T} {vs:List V} {i:Nat} {t:T},IsL H vs ts→ts[i]?=some t→∃ v,vs[i]?=some v∧Is H v t
 | [],vs,i,v,r,e=>by simp at e
 | t::ts,vs,0,v,r,e=>by
  obtain ⟨x,w,rfl,a,q⟩:=r.cons_inv
  rw [Zay] at e ⊢
  cases e
  exact ⟨x,rfl,a⟩
 | t::ts,vs,i+1,v,r,e=>by
  obtain ⟨x,w,rfl,a,q⟩:=r.cons_inv
  rw [Zl] at e ⊢
  exact IsL.getT q e
theorem IsL.append {H:Hp}:∀ {ts us:List T} {vs ws:List V},IsL H vs ts→IsL H ws us→IsL H (vs++ws) (ts++us)
 | [],us,vs,ws,r,q=>by rw [r.nil_inv];exact q
 | t::ts,us,vs,ws,r,q=>by
  obtain ⟨x,w,rfl,a,r⟩:=r.cons_inv
  exact .cons a (r.append q)
theorem IsL.take {H:Hp}:∀ {ts:List T} {vs:List V} (n:Nat),IsL H vs ts→IsL H (vs.take n) (ts.take n)
 | _,_,0,_=>by rw [List.take_zero,List.take_zero];exact .nil
 | [],vs,n+1,r=>by rw [r.nil_inv];exact .nil
 | t::ts,vs,n+1,r=>by
  obtain ⟨x,w,rfl,a,r⟩:=r.cons_inv
  exact .cons a (r.take n)
theorem IsL.drop {H:Hp}:∀ {ts:List T} {vs:List V} (n:Nat),IsL H vs ts→IsL H (vs.drop n) (ts.drop n)
 | _,_,0,r=>r
 | [],vs,n+1,r=>by rw [r.nil_inv];exact .nil
 | t::ts,vs,n+1,r=>by
  obtain ⟨x,w,rfl,a,r⟩:=r.cons_inv
  exact r.drop n
theorem IsL.flat {H:Hp}:∀ (k:Nat) {ts:List T} {vs:List V},IsL H vs ts→IsL H (List.replicate k vs).flatten (List.replicate k ts).flatten
 | 0,ts,vs,r=>by simpa using IsL.nil
 | k+1,ts,vs,r=>by
  rw [Zb0,Zb0,Za4,Za4]
  exact r.append (IsL.flat k r)
theorem IsL.one {H:Hp} {v:V} {t:T} (a:Is H v t):IsL H [v] [t]:=.cons a .nil
theorem Is.int {H:Hp} {i:Int}:Is H (.int i) (.int i):=by unfold Is;rfl
theorem Is.bl {H:Hp} {b:Bool}:Is H (.bl b) (.bl b):=by unfold Is;rfl
theorem Is.non {H:Hp}:Is H .non .non:=by unfold Is;rfl
theorem Is.tup {H:Hp} {a:Fw} {vs:List V} {ts:List T} (h:H a=some (.tup vs)) (r:IsL H vs ts) (z:ts.length≤100000):Is H (.ref a) (.tup ts):=by unfold Is;exact ⟨z,a,vs,rfl,h,r⟩
theorem Is.lst {H:Hp} {a:Fw} {vs:List V} {ts:List T} (h:H a=some (.lst vs)) (r:IsL H vs ts) (z:ts.length≤100000):Is H (.ref a) (.lst ts):=by unfold Is;exact ⟨z,a,vs,rfl,h,r⟩
theorem Is.int_inv {H:Hp} {v:V} {i:Int} (r:Is H v (.int i)):v=.int i:=by unfold Is at r;exact r
theorem Is.tup_inv {H:Hp} {v:V} {ts:List T} (r:Is H v (.tup ts)):∃ a vs,v=.ref a∧H a=some (.tup vs)∧IsL H vs ts:=by unfold Is at r;exact r.2
theorem Is.tup_len {H:Hp} {v:V} {ts:List T} (r:Is H v (.tup ts)):ts.length≤100000:=by unfold Is at r;exact r.1
theorem Is.lst_len {H:Hp} {v:V} {ts:List T} (r:Is H v (.lst ts)):ts.length≤100000:=by unfold Is at r;exact r.1
theorem Is.lst_inv {H:Hp} {v:V} {ts:List T} (r:Is H v (.lst ts)):∃ a vs,v=.ref a∧H a=some (.lst vs)∧IsL H vs ts:=by unfold Is at r;exact r.2
theorem IsL.ints {H:Hp}:∀ (ns:List Int),IsL H (ns.map V.int) (ns.map T.int)
 | []=>.nil
 | n::ns=>.cons Is.int (IsL.ints ns)
theorem IsL.ints_inv {H:Hp}:∀ {ns:List Int} {vs:List V},IsL H vs (ns.map T.int)→vs=ns.map V.int
 | [],vs,r=>r.nil_inv
 | n::ns,vs,r=>by
  obtain ⟨x,w,rfl,a,r⟩:=r.cons_inv
  rw [a.int_inv,r.ints_inv]
  rfl
theorem Qbo {n:Nat} (h:n≤100000):n≤sizeLine:=by rw [Zau];omega
def tyT:T→String
 | .non => "NoneType" | .bl _ => "bool" | .int _ => "int" | .str _ => "str" | .tup _ => "tuple" | .lst _ => "list" | .dct _ _ => "dict" | .dtt _ _ => "dict" | .clo _ _ => "function"
def Qhs:T→Bool
 | .clo _ _=>true
 | _=>false
theorem Is.tyOf {K:Fz} {H:Hp} {v:V} {t:T} (r:Is H v t) (hc:Qhs t=false):TyOf K H v (.type (tyT t)):=by
 cases t with
 | non=>unfold Is at r;subst r;exact .non
 | bl b=>unfold Is at r;subst r;exact .bl b
 | int i=>unfold Is at r;subst r;exact .int i
 | str x=>unfold Is at r;subst r;exact .str x
 | tup ts=>obtain ⟨a,vs,rfl,h,_⟩:=r.tup_inv;exact .tup h
 | lst ts=>obtain ⟨a,vs,rfl,h,_⟩:=r.lst_inv;exact .lst h
 | dct ks ts=>unfold Is at r;obtain ⟨a,vs,rfl,h,_⟩:=r;exact .dK h
 | dtt ks ts=>unfold Is at r;obtain ⟨_,a,vs,rfl,h,_⟩:=r;exact .dT h
 | clo l ts=>cases hc
def Qk1 (a c:String):Bool:=a==c||(a == "bool" && c == "int")
theorem Q2t (K:Fz):∀ a∈["NoneType","bool","int","str","tuple","list","dict"],∀ c∈["int","bool","tuple","list","dict","str"],PySem.W.kitOne K (.type a) (.type c)=some (Qk1 a c):=by
 intro a ha c hc
 simp only [Z7,Zbw,Zdr] at ha hc
 rcases ha with rfl | rfl | rfl | rfl | rfl | rfl | rfl <;> rcases hc with rfl | rfl | rfl | rfl | rfl | rfl <;> rfl
theorem Qwc {X:Cx}:CallR X (.builtin "isinstance") (fun xs H Q=>∃ x c t,xs=[x,.ty c]∧Is H x t∧Qhs t=false∧c∈["int","bool","tuple","list","dict","str"]∧Q (.bl (Qk1 (tyT t) c)) H):=by
 intro aa s σ H xs us Q I r h
 obtain ⟨x,c,t,e,ty,nc,hc,q⟩:=h
 refine Qpx aa s σ H xs us Q I r ⟨x,c,_,_,e,ty.tyOf nc,Q2t X.K (tyT t) ?_ c hc,q⟩
 cases t <;> first | (cases nc;done) | simp [tyT]
def Qr:Fr→Bool
 | .Starred _ _=>false
 | _=>true
theorem Qa1 {e:Fr} {es:List Fr} {env:Env} (h:Qr e=true):starEach (e::es) env=(false,eval e env)::starEach es env:=by
 cases e <;> first | rfl | exact absurd h Zk
theorem paC {X:Cx} {e:Fr} {es:List Fr} {te:TE} {t:TA} (ha:PE X e te) (hr:PA X es t) (hs:Qr e=true:=by rfl):PA X (e::es) (Qca te t):=Q2d ha hr (Qa1 hs)
section
variable {X:Cx} {e a b:Fr} {es:List Fr} {t:T} {ts:List T} {pos:Pos}
theorem PE.weak {te gZ:TE} (h:PE X e te) (q:∀ σ H Q,gZ σ H Q→te σ H Q):PE X e gZ:=fun aa s σ H Q I hq=>h aa s σ H Q I (q _ _ _ hq)
theorem PA.weak {ta gX:TA} (h:PA X es ta) (q:∀ σ H Q,gX σ H Q→ta σ H Q):PA X es gX:=fun pos aa s σ H Q I hq=>h pos aa s σ H Q I (q _ _ _ hq)
end
structure Wk (J:It) (xs:List V) (P:Hp→Prop):Prop where
 go:∀ i H,i<xs.length→P H→J.go i H
 yld:∀ i H x H',i<xs.length→P H→J.yld i H x H'→H'=H∧xs[i]?=some x
 stop:∀ i H,xs.length≤i→P H→J.stop i H
 mono:∀ H H',Same H H'→P H→P H'
def Qkc (lo:Int) (n:Nat):List V:=(List.range n).map fun i=>V.int (lo+(i:Nat))
theorem Qij (lo:Int) (n:Nat):(Qkc lo n).length=n:=by unfold Qkc;rw [Zf,Zac]
theorem Qx5 {lo:Int} {n i:Nat} {v:V} (h:(Qkc lo n)[i]?=some v):i<n∧v=.int (lo+i):=by
 have hi:i<n:=by
  have:=(Ze.mp h).1
  rwa [Qij] at this
 unfold Qkc at h
 rw [Z8,Zco hi] at h
 exact ⟨hi,(Zo h).symm⟩
section
variable {X:Cx}
def Q7r (K:Fz):List V→Hp→VK→Prop:=fun xs H Q=>∃ p ys,xs=[.ref p]∧(SqL K H p ys∨SqT K H p ys)∧Q (.int ys.length) H
theorem kLen (K:Fz) (hK:X.K=K):CallR X (.builtin "len") (Q7r K):=by subst hK;exact Qn7
def Q7s (K:Fz):List V→Hp→VK→Prop:=fun xs H Q=>∃ p ys,xs=[.ref p]∧SqL K H p ys∧ys.all Qkz=true∧Q (.bl (ys.all Qkb)) H
theorem kAll (K:Fz) (hK:X.K=K) (hc:X.calm=true):CallR X (.builtin "all") (Q7s K):=by subst hK;exact Qx0 hc
def Q7t (K:Fz):List V→Hp→VK→Prop:=fun xs H Q=>∃ p ys,xs=[.ref p]∧SqL K H p ys∧ys.all Qkz=true∧Q (.bl (ys.any Qkb)) H
theorem kAny (K:Fz) (hK:X.K=K) (hc:X.calm=true):CallR X (.builtin "any") (Q7t K):=by subst hK;exact Qx1 hc
def Qx6 (K:Fz):List V→Hp→VK→Prop:=fun xs H Q=>∃ (p:Fw) (ns:List Int),xs=[.ref p]∧SqL K H p (ns.map V.int)∧ns≠[]∧∀ M,M∈ns→(∀ a∈ns,a≤M)→Q (.int M) H
theorem Qaa6 (K:Fz) (hK:X.K=K) (hc:X.calm=true):CallR X (.builtin "max") (Qx6 K):=by subst hK;exact Qwa hc
def Qr8 (K:Fz):List V→Hp→VK→Prop:=fun xs H Q=>∃ p ys,xs=[.ref p]∧((SqL K H p ys∧∀ l,H l=none→Q (.ref l) (upd H l (.tup ys)))∨(SqT K H p ys∧Q (.ref p) H))
theorem Q7u (K:Fz) (hK:X.K=K):CallR X (.type "tuple") (Qr8 K):=by subst hK;exact Qmh
def Q46:List V→Hp→VK→Prop:=fun xs H Q=>∃ x c t,xs=[x,.ty c]∧Is H x t∧Qhs t=false∧c∈["int","bool","tuple","list","dict","str"]∧Q (.bl (Qk1 (tyT t) c)) H
theorem Qaa7:CallR X (.builtin "isinstance") Q46:=Qwc
theorem kAdd (K:Fz) (hK:X.K=K):OpR X (binaryOp .Add) (Qm4 K):=by subst hK;exact uAdd
theorem kIx (K:Fz) (hK:X.K=K):IxR X (rIx K):=by subst hK;exact Q7k
theorem kSl (K:Fz) (hK:X.K=K):SlR X (Qx3 K):=by subst hK;exact uSl
theorem kSeq (K:Fz) (hK:X.K=K) {tg l:Fr} {tl:TE} (hl:PE X l tl):PI X tg l (Q2s K tl):=by subst hK;exact Q7p hl
theorem kTup (K:Fz) (hK:X.K=K) {es:List Fr} {k:Nat} {t:TGs} {n:Nat} {pos:Pos} (hc:X.calm=true) (h:PGs X es t)
  (hn:(assignEach es X.env).length=n:=by rfl) (eJ:(assignEach es X.env).findIdx? (·.1)=none:=by rfl):PG X (.Tuple es k pos) (Q17 K n t):=by subst hK;exact Q6v hc h hn eJ
theorem Qx7 (K:Fz) (hK:X.K=K):MtM X "list.extend" (Qgw K):=by subst hK;exact Qr7
theorem kBm (K:Fz) (hK:X.K=K) {T:String} {o e:Fr} {es:List Fr} {to:TE} {t:TA} {name:Str} {a9 aj:Pos} {id:String} {r:V→List V→Hp→VK→Prop} (pa:PlainAttrs T) (slot:Slot T name id) (dJ:typeOf (.builtin id)=pure (.type "method_descriptor")) (hm:MtR X id r) (ho:PE X o to) (ha:PA X (e::es) t)
  (bu:attributeBase o name X.env (eval o X.env)=eval o X.env:=by rfl)
  (bV:((backTo aj (starEach (e::es) X.env)).all (fun x=>!x.1)&&(backToKw aj (keywordEach [] X.env)).all (fun x=>x.1.isSome)
   && decide ((e::es).length+([]:List Keyword).length+(if ([]:List Keyword).isEmpty then 0 else 1)<30))=true:=by rfl)
  (bz:(a9.endLine==aj.line)=true:=by rfl) (hs:starEach (e::es) X.env=(false,eval e X.env)::starEach es X.env:=by rfl) (aP:(backTo aj (starEach es X.env)).any (·.1)=false:=by rfl) :
  PE X (.Call (.Attribute o name a9) (e::es) [] aj) (tBM K T r to t):=by
 subst hK
 exact Qaaz pa slot dJ hm ho ha bu bV bz hs aP
end
def Tups (H H':Hp):Prop:=∀ a xs,H a=some (.tup xs)→H' a=some (.tup xs)
def MkT (xs:List V) (H:Hp) (Q:VK):Prop:=xs.length≤sizeLine∧∀ p,H p=none→Q (.ref p) (upd H p (.tup xs))
def MkL (xs:List V) (H:Hp) (Q:VK):Prop:=xs.length≤sizeLine∧∀ p,H p=none→Q (.ref p) (upd H p (.lst xs))
abbrev Qaa8 (t:TA):TE:=fun σ H Q=>t σ H fun xs H1=>MkT xs H1 Q
abbrev Q47 (t:TA):TE:=fun σ H Q=>t σ H fun xs H1=>MkL xs H1 Q
structure QE (X:Cx) (e:Fr) (t:TE):Prop where
 h:PE X e t
structure QT (X:Cx) (e:Fr) (t:TT):Prop where
 h:PT X e t
structure QW (X:Cx) (e:Fr) (t:TT):Prop where
 h:PW X e t
structure QA (X:Cx) (es:List Fr) (t:TA):Prop where
 h:PA X es t
structure QS (X:Cx) (st:Fs) (t:TS):Prop where
 h:PS X st t
structure QB (X:Cx) (st:List Fs) (t:TS):Prop where
 h:PSs X st t
structure QI (X:Cx) (tg it:Fr) (t:TI):Prop where
 h:PI X tg it t
structure QG (X:Cx) (tg:Fr) (t:TG):Prop where
 h:PG X tg t
structure QGs (X:Cx) (tg:List Fr) (t:TGs):Prop where
 h:PGs X tg t
structure QC (X:Cx) (az:List Fr) (t:TT):Prop where
 h:PTs X az t
structure QO (X:Cx) (e:Option Fr) (t:TO):Prop where
 h:PO X e t
structure QOp (X:Cx) (f:Fx→Fx→Sem Fx) (r:R2):Prop where
 h:OpR X f r
structure QUn (X:Cx) (f:Fx→Sem Fx) (r:V→Hp→VK→Prop):Prop where
 h:UnR X f r
structure QCl (X:Cx) (f:Fx) (r:List V→Hp→VK→Prop):Prop where
 h:CallR X f r
structure QIx (X:Cx) (r:R2):Prop where
 h:IxR X r
structure QSl (X:Cx) (r:V→Option Int→Option Int→Hp→VK→Prop):Prop where
 h:SlR X r
structure QMt (X:Cx) (id:String) (r:V→List V→Hp→VK→Prop):Prop where
 h:MtR X id r
section
variable {X:Cx} {e a b:Fr} {es rest:List Fr} {te ta tb:TE} {t:TA} {tt uu tA cr:TT} {pos p p2:Pos} {x:Str}
theorem Qd1 (i:Nat) (hN:X.N[i]?=some x:=by rfl) (hv:Vis X.env.scope x:=by first | exact Or.inl rfl | exact Or.inr (Or.inl rfl) | exact Or.inr (Or.inr rfl)) (hd:(x==("__debug__" : Str))=false:=by decide)
  (aT:(x==("__classdict__" : Str))=false:=by decide):QE X (.Name x pos) (Qch i):=⟨pv i hN hv hd aT⟩
theorem Qm5 {i j}:QE X (.Constant (.int i) j pos) (tC (.int i)):=⟨Q6i⟩
theorem q_bl {b j}:QE X (.Constant (.bool b) j pos) (tC (.bl b)):=⟨Qaae⟩
theorem Qaba {j}:QE X (.Constant .none j pos) (tC .non):=⟨Q6j⟩
theorem Q7v {v:V} (h:∃ u,X.mg x=some u∧RelV v u) (hg:Gl X x:=by rfl) (hd:(x==("__debug__" : Str))=false:=by decide):QE X (.Name x pos) (tC v):=by
 obtain ⟨u,m,r⟩:=h
 exact ⟨Q1z hg m r hd⟩
theorem Qp0 (T:String) (hm:X.mg x=none) (hv:bootBuiltins x=some (.type T)) (hg:Gl X x:=by rfl) (hn:x ≠ "__name__" := by decide) (hd:(x==("__debug__" : Str))=false:=by decide):QE X (.Name x pos) (tC (.ty T)):=⟨Q10 (v:=.ty T) hg hm hv rfl hn hd⟩
theorem q_op {op:Operator} {r:R2} (ho:QOp X (binaryOp op) r) (ha:QE X a ta) (hb:QE X b tb):QE X (.BinOp a op b pos) (tOp r ta tb):=⟨Qaam ho.h ha.h hb.h⟩
theorem q_un {op:UnaryOp} {r:V→Hp→VK→Prop} (ho:QUn X (unaryOp op) r) (ha:QE X a ta):QE X (.UnaryOp op a pos) (tUn r ta):=⟨Qaan ho.h ha.h⟩
theorem Qabc (ha:QE X a ta):QE X (.UnaryOp .Not a pos) (Q4z ta):=⟨Q6q ha.h⟩
theorem Qabd {op} (ha:QE X a ta):QE X (.BoolOp op [a] pos) ta:=⟨Q6o ha.h⟩
theorem Qabe (ha:QE X a ta) (hb:QE X (.BoolOp .And (b::rest) pos) tb):QE X (.BoolOp .And (a::b::rest) pos) (Q4y ta tb):=⟨Q6p ha.h hb.h⟩
theorem q_or (ha:QE X a ta) (hb:QE X (.BoolOp .Or (b::rest) pos) tb):QE X (.BoolOp .Or (a::b::rest) pos) (tOrV ta tb):=⟨Qaaj ha.h hb.h⟩
theorem Qabf {op:CmpOp} {r:R2} (ho:QOp X (compareOp op) r) (ha:QE X a ta) (hb:QE X b tb) (hm:behindInMarks op b=false):QE X (.Compare a [op] [b] pos) (tOp r ta tb):=⟨Q2a ho.h ha.h hb.h hm⟩
theorem Qx8 {op:CmpOp} {r:R2} (ho:QOp X (compareOp op) r) (ha:QE X a ta) (hb:QE X b tb) (hm:behindInMarks op b=false):QT X (.Compare a [op] [b] pos) (Q41 (tOp r ta tb)):=⟨Q2b ho.h ha.h hb.h hm⟩
theorem Q7w (ha:QE X e te) (he:∀ au,isTrue e X.env au=(do let v ← au;standAt e.pos;holding [v] (truthy v)):=by intro _;rfl):QT X e (tB te):=⟨Q6k ha.h he⟩
theorem Q7x (ha:QT X a tA):QT X (.UnaryOp .Not a pos) (tNot tA):=⟨Q6n ha.h⟩
theorem q_wt (ha:QW X e tA):QT X e tA:=⟨ha.h.pt⟩
theorem Q2u (ha:QT X a tA):QW X (.BoolOp .And [a] pos) tA:=⟨Q11 ha.h⟩
theorem Q7y (ha:QT X a tA):QW X (.BoolOp .Or [a] pos) tA:=⟨Q6l ha.h⟩
theorem Q7z (ha:QT X a tA) (hb:QW X (.BoolOp .And (b::rest) pos) cr):QW X (.BoolOp .And (a::b::rest) pos) (tAnd tA cr):=⟨Q6m ha.h hb.h⟩
theorem Qabg (ha:QT X a tA) (hb:QW X (.BoolOp .Or (b::rest) pos) cr):QW X (.BoolOp .Or (a::b::rest) pos) (tOr tA cr):=⟨Qaah ha.h hb.h⟩
theorem Qby:QA X [] Qfs:=⟨Q7d⟩
theorem Qas (ha:QE X e te) (hr:QA X es t) (hs:Qr e=true:=by rfl):QA X (e::es) (Qca te t):=⟨paC ha.h hr.h hs⟩
theorem Qabh {x1} (h:QA X es t):QE X (.Tuple es x1 pos) (Qaa8 t):=⟨Q7e h.h⟩
theorem Q48 (h:QA X es t):QE X (.List es pos) (Q47 t):=⟨Q7f h.h⟩
variable {ts:List T} {u:T}
theorem q_fn {ps:List Str} {k:Nat} {sp:Sp} (h:Has X.prog X.w X.K X.mg X.base x ps k sp) (hr:Room k X.A) (ha:QA X (e::es) t) (hg:Gl X x:=by rfl)
  (aD:(x==("__debug__" : Str))=false:=by decide) (he:Qr e=true:=by rfl) (bo:(backTo pos (starEach es X.env)).any (·.1)=false:=by rfl):QE X (.Call (.Name x p) (e::es) [] pos) (Qt2 sp [] E0 t):=⟨Qx4 h hr ha.h hg aD (Qa1 he) bo⟩
theorem Q70 {id:String} {r:List V→Hp→VK→Prop} (hc:QCl X (.builtin id) r) (hm:X.mg x=none) (hv:bootBuiltins x=some (.builtin id)) (ha:QA X (e::es) t) (hg:Gl X x:=by rfl) (hn:x ≠ "__name__" := by decide) (aD:(x==("__debug__" : Str))=false:=by decide)
  (he:Qr e=true:=by rfl) (bo:(backTo pos (starEach es X.env)).any (·.1)=false:=by rfl):QE X (.Call (.Name x p) (e::es) [] pos) (tCB r t):=⟨Qxt hc.h hg hm hv ha.h hn aD (Qa1 he) bo⟩
theorem Qp1 {T:String} {r:List V→Hp→VK→Prop} (hc:QCl X (.type T) r) (hm:X.mg x=none) (hv:bootBuiltins x=some (.type T)) (ha:QA X (e::es) t) (hg:Gl X x:=by rfl) (hn:x ≠ "__name__" := by decide) (aD:(x==("__debug__" : Str))=false:=by decide)
  (he:Qr e=true:=by rfl) (bo:(backTo pos (starEach es X.env)).any (·.1)=false:=by rfl):QE X (.Call (.Name x p) (e::es) [] pos) (tCB r t):=⟨Qv9 hc.h hg hm hv ha.h hn aD (Qa1 he) bo⟩
theorem Qmi (K:Fz) (hK:X.K=K) {T:String} {o:Fr} {to:TE} {name:Str} {a9 aj:Pos} {id:String} {r:V→List V→Hp→VK→Prop} (pa:PlainAttrs T) (slot:Slot T name id) (dJ:typeOf (.builtin id)=pure (.type "method_descriptor")) (hm:QMt X id r) (ho:QE X o to) (ha:QA X (e::es) t)
  (bu:attributeBase o name X.env (eval o X.env)=eval o X.env:=by rfl)
  (bV:((backTo aj (starEach (e::es) X.env)).all (fun x=>!x.1)&&(backToKw aj (keywordEach [] X.env)).all (fun x=>x.1.isSome)
   && decide ((e::es).length+([]:List Keyword).length+(if ([]:List Keyword).isEmpty then 0 else 1)<30))=true:=by rfl)
  (bz:(a9.endLine==aj.line)=true:=by rfl) (hs:Qr e=true:=by rfl) (aP:(backTo aj (starEach es X.env)).any (·.1)=false:=by rfl) :
  QE X (.Call (.Attribute o name a9) (e::es) [] aj) (tBM K T r to t):=⟨kBm K hK pa slot dJ hm.h ho.h ha.h bu bV bz (Qa1 hs) aP⟩
theorem Q2v {r:R2} (hr:QIx X r) (ha:QE X a ta) (hb:QE X b tb) (hs:Qkf b:=by exact fun _ _=>rfl):QE X (.Subscript a b pos) (tOp r ta tb):=⟨Qaav hr.h ha.h hb.h hs⟩
theorem q_sl {r:V→Option Int→Option Int→Hp→VK→Prop} {lo hi:Option Fr} {tl th:TO} (hr:QSl X r) (he:QE X e te) (hl:QO X lo tl) (hu:QO X hi th):QE X (.Subscript e (.Slice lo hi none p2) pos) (tSl r te tl th):=⟨Qxu hr.h he.h hl.h hu.h⟩
theorem q_no:QO X none Qt3:=⟨Q2f⟩
theorem Qr9 (h:QE X e te):QO X (some e) (Qt4 te):=⟨Q2g h.h⟩
variable {tg:Fr}
theorem Q49 (K:Fz) (hK:X.K=K) (hl:QE X e te):QI X tg e (Q2s K te):=⟨kSeq K hK hl.h⟩
theorem Qsa (hm:X.mg "range" = none) (ha:QA X [a] t) (hg:Gl X "range" := by rfl) (hs:Qr a=true:=by rfl):QI X tg (.Call (.Name "range" p) [a] [] pos) (Qkv t):=⟨Qv1 hg hm ha.h (Qa1 hs)⟩
theorem Q71 (hm:X.mg "range" = none) (ha:QA X [a,b] t) (hg:Gl X "range" := by rfl) (hs:Qr a=true:=by rfl) (ay:Qr b=true:=by rfl):QI X tg (.Call (.Name "range" p) [a,b] [] pos) (Q40 t) :=
 ⟨Qv2 hg hm ha.h (by rw [Qa1 hs,Qa1 ay];rfl) (Qa1 ay)⟩
theorem Q5 {i:Nat} (hN:X.N.Nodup) (hi:X.N[i]?=some x:=by rfl) (hx:Loc X.env.scope x:=by first | exact Or.inl rfl | exact Or.inr rfl) (hf:X.fn x=true∨X.env.scope.names.lookup x=some .local:=by first | exact .inl rfl | exact .inr rfl | exact .inl (by decide +kernel)):QG X (.Name x pos) (Qcr i):=⟨Q15 hN hi hx hf⟩
theorem Qx9:QGs X [] Q6u:=⟨Q16⟩
theorem Qkg {es:List Fr} {t:TG} {u:TGs} (h1:QG X e t) (h2:QGs X es u) (hs:(assignEach (e::es) X.env).map (·.2)=assign e X.env::(assignEach es X.env).map (·.2):=by rfl):QGs X (e::es) (Qxk t u):=⟨Qxl h1.h h2.h hs⟩
theorem Qya (K:Fz) (hK:X.K=K) {es:List Fr} {k:Nat} {t:TGs} {n:Nat} (hc:X.calm=true) (h:QGs X es t) (hn:(assignEach es X.env).length=n:=by rfl) (eJ:(assignEach es X.env).findIdx? (·.1)=none:=by rfl):QG X (.Tuple es k pos) (Q17 K n t):=⟨kTup K hK hc h.h hn eJ⟩
theorem Qsb {o i:Fr} {to ti:TE} (ho:QE X o to) (hi:QE X i ti)
  (ha:∀ v,assign (.Subscript o i pos) X.env v=(do
   let ov ← holding [v] (eval o X.env)
   let iv ← holding [v,ov] (eval i X.env)
   standAt pos
   holding [v,ov,iv] (setItem ov iv v)
   release [v,ov,iv] []):=by intro _;rfl):QG X (.Subscript o i pos) (Qps to ti Qhr):=⟨Q6w ho.h hi.h Qxv ha⟩
theorem q_c0:QC X [] tYes:=⟨Q2n⟩
theorem q_c1 (h:QT X e tt):QC X [e] tt:=⟨Q2o h.h⟩
theorem Q72 {elt af:Fr} {az:List Fr} {scope:Scope} (N:List Str) (js:List (Option Nat)) {wi:TI} {g:TG} {tc:TT} (ao:X.calm=true)
  (hi:QI X tg af wi) (hg:∀ s H fp,QG (Q9 X scope N s H fp) tg g) (hc:∀ s H fp,QC (Q9 X scope N s H fp) az tc) (he:∀ s H fp,QE (Q9 X scope N s H fp) elt te)
  (hk:scope.kind=.function:=by rfl) (h1:scOk X scope=true:=by rfl) (h2:Qii X scope N js=true:=by rfl)
  (hs:∀ x,foldedSetIterable af X.env x=pure x:=by intro _;rfl):QE X (.ListComp elt [⟨tg,af,az,0⟩] scope pos) (Qpw wi js g tc te):=⟨Qxz ao hi.h (fun s H fp=>(hg s H fp).h) (fun s H fp=>(hc s H fp).h) (fun s H fp=>(he s H fp).h) hk h1 h2 hs⟩
variable {st:Fs} {bH:List Fs} {t1 t2:TS}
theorem Qsc:QB X [] Qpr:=⟨Q12⟩
theorem Qdj (h1:QS X st t1) (h2:QB X bH t2):QB X (st::bH) (Qgr t1 t2):=⟨Qxi h1.h h2.h⟩
theorem Qh3 (h1:QS X st t1):QB X [st] t1:=⟨Q13 h1.h⟩
theorem Qe4 (he:QE X e te) (hs:swapsWith e none pos.line X.env=pure false:=by rfl):QS X (.Expr e pos) (Qgs te):=⟨Q14 he.h hs⟩
theorem Qt6 (he:QE X e te):QS X (.Return (some e) pos) (Q6r te):=⟨Q6s he.h⟩
theorem Qyb {c:Fr} {bs cs:List Fs} (hc:QT X c tt) (ha:QB X bs t1) (hb:QB X cs t2):QS X (.If c bs cs pos) (Qxj tt t1 t2):=⟨Qaak hc.h ha.h hb.h⟩
theorem Qt7 {af:Fr} {body:List Fs} {wi:TI} {g:TG} (hp:PassesOwn (model X.prog X.w) X.A X.env X.xe) (hc:X.calm=true) (hi:QI X tg af wi) (hg:QG X tg g) (hb:QB X body t1)
  (hs:∀ x,foldedSetIterable af X.env x=pure x:=by intro _;rfl):QS X (.For tg af body [] pos) (Qmf wi g t1):=⟨Q61 hp hc hi.h hg.h hb.h hs⟩
theorem Qa7 {i:Nat} (hN:X.N.Nodup) (he:QE X e te) (hi:X.N[i]?=some x:=by rfl) (hx:Loc X.env.scope x:=by first | exact Or.inl rfl | exact Or.inr rfl) (hs:swapsWith e (some (.Name x p2)) pos.line X.env=pure false:=by rfl) (hf:X.fn x=true∨X.env.scope.names.lookup x=some .local:=by first | exact .inl rfl | exact .inr rfl) :
  QS X (.Assign [.Name x p2] e pos) (Qh1 te (Qcr i)):=⟨Q6y hN hi hx he.h hs hf⟩
theorem Qt8 {g:TG} (he:QE X e te) (hg:QG X tg g) (hs:swapsWithSole [tg] e pos.line X.env=pure false:=by rfl) (hw:swappedStores [tg] e X.env=pure none:=by rfl)
  (h1:(assignEach [tg] X.env).map (·.2)=[assign tg X.env]:=by rfl):QS X (.Assign [tg] e pos) (Qh1 te g):=⟨Q6x he.h hg.h hs hw h1⟩
theorem Qabj (i j:Nat) {y:Str} {px py pt:Pos} {kt k2 pt2} (hN:X.N.Nodup) (cQ:i≠j) (ha:QA X [a,b] t) (hi:X.N[i]?=some x:=by rfl) (hj:X.N[j]?=some y:=by rfl)
  (hx:X.env.scope.names.lookup x=some .local:=by rfl) (hy:X.env.scope.names.lookup y=some .local:=by rfl) (hc:X.calm=true:=by rfl)
  (hw:swappedStores [.Tuple [.Name x px,.Name y py] kt pt] (.Tuple [a,b] k2 pt2) X.env=pure (some [x,y]):=by rfl)
  (hs:swapsWithSole [.Tuple [.Name x px,.Name y py] kt pt] (.Tuple [a,b] k2 pt2) pos.line X.env=pure false:=by rfl) :
  QS X (.Assign [.Tuple [.Name x px,.Name y py] kt pt] (.Tuple [a,b] k2 pt2) pos) (Q6z i j t):=⟨Q60 hc hN hi hj cQ hx hy ha.h hw hs⟩
theorem Q2w {c:Fr} {body:List Fs} (hp:PassesOwn (model X.prog X.w) X.A X.env X.xe) (hc:QT X c tt) (hb:QB X body t1):QS X (.While c body [] pos) (Qxm tt t1):=⟨Qxn hp hc.h hb.h⟩
theorem Q5a (K:Fz) (hK:X.K=K):QOp X (binaryOp .Add) (Qm4 K):=⟨kAdd K hK⟩
theorem Qabk:QOp X (binaryOp .Sub) (rI0 fun i j=>.int (i-j)):=⟨Q66⟩
theorem Qabl:QOp X (binaryOp .Pow) (rI Q64 fun i j=>.int (i^j.toNat)):=⟨Q68⟩
theorem Qabm:QUn X (unaryOp .USub) (rU fun i=>.int (-i)):=⟨Q69⟩
theorem o_eq:QOp X (compareOp .Eq) rEq:=⟨Qaap⟩
theorem o_ne:QOp X (compareOp .NotEq) rNe:=⟨Qaaq⟩
theorem Q73:QOp X (compareOp .Lt) (rI0 fun i j=>.bl (decide (i<j))):=⟨Qaar⟩
theorem o_gt:QOp X (compareOp .Gt) (rI0 fun i j=>.bl (decide (j<i))):=⟨Qaas⟩
theorem o_ge:QOp X (compareOp .GtE) (rI0 fun i j=>.bl (decide (j≤i))):=⟨Qaat⟩
def rIsN:R2:=fun x y H Q=>y=.non∧Q (.bl (decide (x=.non))) H
def Q5b:R2:=fun x y H Q=>y=.non∧Q (.bl (!decide (x=.non))) H
theorem Q5c:QOp X (compareOp .Is) rIsN:=⟨Q7b⟩
theorem Q74:QOp X (compareOp .IsNot) Q5b:=⟨Q19⟩
theorem o_ix (K:Fz) (hK:X.K=K):QIx X (rIx K):=⟨kIx K hK⟩
theorem o_sl (K:Fz) (hK:X.K=K):QSl X (Qx3 K):=⟨kSl K hK⟩
theorem Qfd:QMt X "list.append" Qdz:=⟨Qjh⟩
theorem Qwd (K:Fz) (hK:X.K=K):QMt X "list.extend" (Qgw K):=⟨Qx7 K hK⟩
theorem Q75:QCl X (.builtin "isinstance") Q46:=⟨Qaa7⟩
theorem Qc4 (K:Fz) (hK:X.K=K):QCl X (.builtin "len") (Q7r K):=⟨kLen K hK⟩
theorem Qt9 (K:Fz) (hK:X.K=K) (hc:X.calm=true:=by rfl):QCl X (.builtin "all") (Q7s K):=⟨kAll K hK hc⟩
theorem Qyc (K:Fz) (hK:X.K=K) (hc:X.calm=true:=by rfl):QCl X (.builtin "any") (Q7t K):=⟨kAny K hK hc⟩
theorem Q76 (K:Fz) (hK:X.K=K) (hc:X.calm=true:=by rfl):QCl X (.builtin "max") (Qx6 K):=⟨Qaa6 K hK hc⟩
def Q5d:List V→Hp→VK→Prop:=fun xs H Q=>∃ i j,xs=[.int i,.int j]∧Q (.int (if j>i then j else i)) H
theorem Q77 (hc:X.calm=true:=by rfl):QCl X (.builtin "max") Q5d:=⟨Qv4 hc⟩
def rAbs:List V→Hp→VK→Prop:=fun xs H Q=>∃ i,xs=[.int i]∧Q (.int (if i<0 then -i else i)) H
theorem Qabr:QCl X (.builtin "abs") rAbs:=⟨Qxs⟩
def rDvm:List V→Hp→VK→Prop:=fun xs H Q=>∃ i j,xs=[.int i,.int j]∧CDv i j∧∀ p,H p=none→Q (.ref p) (upd H p (.tup [.int (i / j),.int (i%j)]))
theorem Qabt:QCl X (.builtin "divmod") rDvm:=⟨Qx2⟩
def Q5e:List V→Hp→VK→Prop:=fun xs H Q=>(∃ i,xs=[.int i]∧Q (.int i) H)∨∃ k,xs=[.bl k]∧Q (.int (if k then 1 else 0)) H
theorem Qyd:QCl X (.type "int") Q5e:=⟨Qv5⟩
theorem Qua (K:Fz) (hK:X.K=K):QCl X (.type "tuple") (Qr8 K):=⟨Q7u K hK⟩
end
section
variable {P:Fu} {w:Ft} {K:Fz} {mg:Str→Option Fx} {base:Fq}
theorem Qabu {x:Str} {st:Fs} {N ps:List Str} {k:Nat} {sp:Sp} (d:Dfn K mg x st) (S:FnScope N ps (Qi st)) (bd:Qal x st ps) (len:∀ vs H Q E,sp vs H Q E→vs.length=ps.length)
  (aw:∀ (f:Fw) (ag:Fx) (A:Fv) (outer:List Env) (s:Fy) (H:Hp) (vs:List V) (Q:VK) (E:XK),Room k (A.deeper (envOfC x (Qi st) s.heap.objs.size f ag))→sp vs H Q E →
   ∃ t,QB (Qhp (fun _=>true) CX0 P w K mg base N x (Qi st) f ag A outer s H E).nox (Qbh st) t∧t { nx:=fun _ H'=>Q .non H',rt:=Q } (Qb2 N vs) H):Has P w K mg base x ps (k+1) sp :=
 Q7q d S bd len fun f ag A outer s H vs Q E hr hs=>let ⟨t,a,b⟩:=aw f ag A outer s H vs Q E hr hs;⟨t,a.h,b⟩
end
open Classical in
def dls (H:Hp) (S:Fw→Prop):Hp:=fun b=>if S b then none else H b
theorem Qba {H:Hp} {S:Fw→Prop} {b:Fw} (h:¬ S b):dls H S b=H b:=by unfold dls;rw [Zd h]
theorem Qv {H:Hp} {S:Fw→Prop} {b:Fw} {o:HO} (e:dls H S b=some o):¬ S b∧H b=some o:=by
 unfold dls at e
 by_cases h:S b
 ·rw [Zb h] at e;cases e
 ·rw [Zd h] at e;exact ⟨h,e⟩
theorem Qye (H:Hp) (S:Fw→Prop):Same (dls H S) H:=fun b o e=>(Qv e).2
theorem Qa8 {S:Fw→Prop} {H H':Hp} (s:Same H H'):Same (dls H S) (dls H' S):=fun b o e=>by
 obtain ⟨n,e⟩:=Qv e
 rw [Qba n];exact s b o e
theorem Qce {S S':Fw→Prop} {H:Hp} (h:∀ b,S b→S' b):Same (dls H S') (dls H S):=fun b o e=>by
 obtain ⟨n,e⟩:=Qv e
 rw [Qba fun z=>n (h b z)];exact e
def Q78:HO→Bool
 | .lst _=>true
 | .dT _=>true
 | _=>false
def Pen (H:Hp) (S:Fw→Prop):Prop:=∀ b,S b→∃ o,H b=some o∧Q78 o=true
theorem Pen.mono {H H':Hp} {S:Fw→Prop} (h:Pen H S) (s:Same H H'):Pen H' S:=fun b hb=>by
 obtain ⟨xs,e,p⟩:=h b hb
 exact ⟨xs,s _ _ e,p⟩
theorem Pen.new {H:Hp} {S:Fw→Prop} {q:Fw} (h:Pen H S) (hq:H q=none):¬ S q:=fun z=>by
 obtain ⟨xs,e,_⟩:=h q z
 rw [hq] at e;cases e
theorem Qyf {H:Hp} {S:Fw→Prop} (h:Pen H S):Tups H (dls H S):=fun a ys e=>by
 rw [Qba fun z=>by
  obtain ⟨xs,e',p⟩:=h a z
  rw [e] at e';cases e';cases p]
 exact e
section
variable {K:Fz} {H:Hp} {S:Fw→Prop} {x y:V} {ts us:List T} {Q:VK}
theorem Qwe {H':Hp} {a:Fw} {vs:List V} (hp:Pen H' S) (e:H' a=some (.tup vs)):dls H' S a=some (.tup vs):=Qyf hp a vs e
theorem Qd2 {a:Fw} {vs:List V} (hp:Pen H S) (e:H a=some (.tup vs)) (r:IsL (dls H S) vs ts) (z:ts.length≤100000):Is (dls H S) (.ref a) (.tup ts):=.tup (Qwe hp e) r z
def Qhq (ts:List T) (lo hi:Option Int):List T:=(ts.drop (HT.sIx ts.length 0 lo)).take (HT.sIx ts.length ts.length hi-HT.sIx ts.length 0 lo)
theorem Qp2 (ts:List T) (lo hi:Option Int):(Qhq ts lo hi).length≤ts.length:=by
 unfold Qhq
 rw [Zcv,Zdb]
 omega
theorem IsL.cut {D:Hp} {vs:List V} (r:IsL D vs ts) (lo hi:Option Int):IsL D (Qgu vs lo hi) (Qhq ts lo hi):=by
 unfold Qgu Qhq
 rw [r.length]
 exact (r.drop _).take _
theorem Qyg {lo hi:Option Int} (hp:Pen H S) (it:Is (dls H S) x (.tup ts)) (k:∀ y H',Same H H'→Is (dls H' S) y (.tup (Qhq ts lo hi))→Q y H'):Qx3 K x lo hi H Q:=by
 obtain ⟨a,vs,rfl,ha,r⟩:=it.tup_inv
 refine .inr ⟨a,vs,rfl,(Qv ha).2,fun q H' s' e' _=>k _ H' s' (Qd2 (hp.mono s') e' ((r.cut lo hi).mono (Qa8 s')) ?_)⟩
 have:=Qp2 ts lo hi
 have:=it.tup_len
 omega
theorem Q79 (hp:Pen H S) (ix:Is (dls H S) x (.tup ts)) (iy:Is (dls H S) y (.tup us)) (hz:ts.length+us.length≤100000) (k:∀ z H',Same H H'→Is (dls H' S) z (.tup (ts++us))→Q z H'):Qm4 K x y H Q:=by
 obtain ⟨a,vs,rfl,ha,r⟩:=ix.tup_inv
 obtain ⟨b,ws,rfl,hb,r2⟩:=iy.tup_inv
 refine .inr (.inr ⟨a,b,vs,ws,rfl,rfl,(Qv ha).2,(Qv hb).2,Qbo (by rw [r.length,r2.length];exact hz),fun q H' s' e' _=>k _ H' s' (Qd2 (hp.mono s') e' ((r.append r2).mono (Qa8 s')) (by rw [Zq];exact hz))⟩)
theorem Q8a {vs:List V} (hp:Pen H S) (r:IsL (dls H S) vs ts) (hz:ts.length≤100000) (k:∀ z H',Same H H'→Is (dls H' S) z (.tup ts)→Q z H'):MkT vs H Q :=
 ⟨Qbo (by rw [r.length];exact hz),fun q hq=>k _ _ (Same.upd hq) (Qd2 (hp.mono (Same.upd hq)) Qt (r.mono (Qa8 (Same.upd hq))) hz)⟩
theorem Q8b {vs:List V} (hp:Pen H S) (r:IsL (dls H S) vs ts) (hz:ts.length≤100000) (k:∀ l H',Same H H'→H l=none→H' l=some (.lst vs)→Is (dls H' S) (.ref l) (.lst ts)→Q (.ref l) H'):MkL vs H Q :=
 ⟨Qbo (by rw [r.length];exact hz),fun q hq=>k _ _ (Same.upd hq) hq Qt (.lst (by rw [Qba (hp.new hq),Qt]) (r.mono (Qa8 (Same.upd hq))) hz)⟩
end
structure Raw (fs:List Fw) (g:Fq) (H:Hp) (h h':Fq):Prop where
 keep:∀ b o,h.get? b=some o→((∃ u,g.get? b=some u)∨H b≠none)→b∉fs→h'.get? b=some o
 slot:∀ b o,h.get? b=some o→((∃ u,g.get? b=some u)∨H b≠none)→∃ sl,h'.get? b=some { o with slots:=sl }
 size:h.objs.size≤h'.objs.size
theorem Raw.refl (fs:List Fw) (g:Fq) (H:Hp) (h:Fq):Raw fs g H h h:=⟨fun _ _ e _ _=>e,fun _ o e _=>⟨o.slots,e⟩,Zi _⟩
theorem Raw.trans {fs:List Fw} {g:Fq} {H:Hp} {h h1 h2:Fq} (a:Raw fs g H h h1) (b:Raw fs g H h1 h2):Raw fs g H h h2 where
 keep:=fun c o e p q=>b.keep c o (a.keep c o e p q) p q
 slot:=fun c o e p=>by
  obtain ⟨sl,e1⟩:=a.slot c o e p
  obtain ⟨du,e2⟩:=b.slot c _ e1 p
  exact ⟨du,e2⟩
 size:=Zav a.size b.size
def XObj (H:Hp) (h:Fq) (g:Fq) (e:Fw) (cls:Fx) (dx:Option Fw):Prop :=
 g.get? e=none∧H e=none∧∃ oe vs,h.get? e=some oe∧oe.cls=cls∧oe.dict=dx∧oe.data=.fields vs∧1<vs.size ∧
  (vs[1]?=some .none∨∃ T oT ts,vs[1]?=some (.ref T)∧T≠e∧g.get? T=none∧H T=none∧h.get? T=some oT∧oT.data=.fields ts∧3<ts.size)
section
variable {M:Model} {A:Fv} {E:Fx→Fy→Prop} {s:Fy} {H:Hp} {g:Fq} {e L:Fw} {cls:Fx} {dx:Option Fw} {env:Env} {outer:List Env} {base:Fq} {Q:Unit→Fy→Prop}
theorem Qoa {fs:List Fw} {h:Fq} {a:Fw} {f:Obj→Obj} (ha:g.get? a=none) (hH:H a=none):Raw fs g H h (h.update a f):=by
 have ne:∀ b,((∃ u,g.get? b=some u)∨H b≠none)→a≠b:=fun b p z=>by
  subst z
  rcases p with p | p
  ·obtain ⟨u,q⟩:=p
   rw [ha] at q;cases q
  ·exact p hH
 refine ⟨fun b o e p _=>?_,fun b o e p=>⟨o.slots,?_⟩,?_⟩
 ·rw [Za1 _ _ (ne b p)];exact e
 ·rw [Za1 _ _ (ne b p)];exact e
 ·exact Zek (by rw [Zb4])
theorem Qyh {fs:List Fw} {h:Fq} {o:Obj}:Raw fs g H h (h.push o) :=
 ⟨fun _ _ e _ _=>Zg _ e,fun _ u e _=>⟨u.slots,Zg _ e⟩,by rw [Zcj];omega⟩
theorem Qwf {fs:List Fw} {h h':Fq} (x:Heap.SlotsOnly fs h h'):Raw fs g H h h' :=
 ⟨fun b o e _ q=>(x.2.1 b q).trans e,fun b o e _=>x.2.2 b o e,Zek x.1.symm⟩
theorem Qm6 {iE:Fx} {nx:Bool} (b9:A.frames=some (env::outer)) (hl:s.heap.FunFrames base (env::outer)) (hf:env.frame=some L) (fresh:∀ b,s.heap.objs.size≤b→H b=none) (hn:∀ b o,g.get? b=some o→b<s.heap.objs.size)
  (X:XObj H s.heap g e cls dx) (h:∀ h',XObj H h' g e cls dx→Raw (frs (env::outer)) g H s.heap h'→Q () { s with heap:=h' }) :
  wpAny M A (do let a ← frameOf env;let pl ← entryPlaceOf L nx;let b ← EntryCells.newEntry iE a .none (rawInt L) .none pl;setField (.ref e) 1 b) Q E s:=by
 obtain ⟨am,dA,oe,vs,he,hc,dO,hd,aE,_⟩:=X
 have nofr:e∉frs (env::outer):=fun hm=>by
  obtain ⟨_,o,ho,g0⟩:=hl.mem hm
  rw [he] at ho;cases ho;exact g0 vs hd
 refine Zc (wpAny_frameOf_fun b9 hl hf fun h1 eD=>Zc (wpAny_entryPlaceOf fun pl bo=>?_))
 unfold EntryCells.newEntry newFields
 refine Zc (Zag ?_ (bo.sizeOk5 _ _ _ _ _))
 have iK:h1.get? e=some oe:=(eD.2.1 e nofr).trans he
 have jS:h1.objs.size=s.heap.objs.size:=eD.1
 generalize hob:({ cls:=.type "traceback",dict:=none,data:=.fields ([iE,.ref L,.none,rawInt L,.none]++(if pl.isEmpty then List.replicate 6 Value.none else pl)).toArray }:Obj)=ob
 have dq:(h1.push ob).get? e=some oe:=Zg _ iK
 have cA:h1.objs.size≠e:=Ze8 (Zj iK)
 have dd:=Zcc hd (·.setIfInBounds 1 (Value.ref h1.objs.size))
 refine Zc1 dq hd aE (h _ ?_ (((Qwf eD).trans Qyh).trans (Qoa am dA)))
 refine ⟨am,dA,_,_,Zbq _ dq (Zch dd),(Obj.cls_mapFields _ _).trans hc,?_,dd,by simpa using aE,.inr ⟨h1.objs.size,ob,_,by simp [aE],cA,?_,fresh _ (by omega),?_,by rw [←hob],?_⟩⟩
 ·rw [←dO]
  cases oe
  subst hd
  rfl
 ·cases z:g.get? h1.objs.size with
  | none=>rfl
  | some o=>exact absurd (hn _ _ z) (by rw [jS];exact Zas _)
 ·rw [Za1 _ _ (Zc9 cA)]
  exact Zt h1 (by rw [←hob];rfl)
 ·simp only [Zp,Zq,Zh,Zu]
  omega
theorem Qyi (b9:A.frames=some (env::outer)) (hl:s.heap.FunFrames base (env::outer)) (hf:env.frame=some L) (fresh:∀ b,s.heap.objs.size≤b→H b=none) (hn:∀ b o,g.get? b=some o→b<s.heap.objs.size)
  (X:XObj H s.heap g e cls dx) (h:∀ h',XObj H h' g e cls dx→Raw (frs (env::outer)) g H s.heap h'→Q () { s with heap:=h' }) :
  wpAny M A (noteFrame (.ref e) env) Q E s:=by
 obtain ⟨am,dA,oe,vs,he,hc,dO,hd,aE,h1⟩:=id X
 unfold noteFrame
 simp only [hf]
 rcases h1 with h1 | ⟨T,oT,ts,h1,cA,eA,fe,hT,dg,h3⟩
 ·refine Zc (Zbc he hd h1 ?_)
  rw [Zd (by decide)]
  exact Qm6 b9 hl hf fresh hn X h
 ·refine Zc (Zbc he hd h1 ?_)
  rw [Zb (by simp)]
  refine Zc (Zbc hT dg (Array.getElem?_eq_getElem h3) ?_)
  by_cases hz:(ts[3]==rawInt L)=true
  ·rw [Zb hz]
   exact Zs (h _ X (Raw.refl _ _ _ _))
  ·rw [Zd hz]
   refine Zc (Zc1 hT dg h3 ?_)
   have gs:Raw (frs (env::outer)) g H s.heap (s.heap.update T (Obj.mapFields (·.setIfInBounds 3 Value.none))):=Qoa eA fe
   have h7:∀ b,b≠T→(s.heap.update T (Obj.mapFields (·.setIfInBounds 3 Value.none))).get? b=s.heap.get? b:=fun b hb=>Za1 _ _ (Zc9 hb)
   have dT:=Zcc dg (·.setIfInBounds 3 Value.none)
   refine Qm6 (s:={ s with heap:=s.heap.update T (Obj.mapFields (·.setIfInBounds 3 Value.none)) }) b9 (hl.of_keeps fun b o hb g0=>⟨o,(h7 b ?_).trans hb,rfl⟩) hf (fun b hb=>fresh b (Zav gs.size hb)) (fun b o q=>Zy (hn b o q) gs.size)
    ⟨am,dA,oe,vs,(h7 e (Zc9 cA)).trans he,hc,dO,hd,aE,.inr ⟨T,_,_,h1,cA,eA,fe,Zbq _ hT (Zch dT),dT,by simpa using h3⟩⟩ fun h' x r=>h h' x (gs.trans r)
   intro z
   rw [z,hT] at hb
   cases hb
   exact g0 ts dg
theorem Qsd {fs:List Fw} (X:XObj H s.heap g e cls dx) (h:∀ h',XObj H h' g e cls dx→Raw fs g H s.heap h'→Q () { s with heap:=h' }):wpAny M A (setFlight (.ref e) none) Q E s:=by
 obtain ⟨am,dA,oe,vs,he,hc,dO,hd,aE,h1⟩:=id X
 unfold setFlight
 rcases h1 with h1 | ⟨T,oT,ts,h1,cA,eA,fe,hT,dg,h3⟩
 ·refine Zc (Zbc he hd h1 ?_)
  rw [Zd (by decide)]
  exact Zs (h _ X (Raw.refl _ _ _ _))
 ·refine Zc (Zbc he hd h1 ?_)
  rw [Zb (by simp)]
  have dT:=Zcc dg (·.setIfInBounds 3 Value.none)
  refine Zc1 hT dg h3 (h _ ⟨am,dA,oe,vs,?_,hc,dO,hd,aE,.inr ⟨T,_,_,h1,cA,eA,fe,Zbq _ hT (Zch dT),dT,by simpa using h3⟩⟩ (Qoa eA fe))
  rw [Za1 _ _ cA]
  exact he
theorem Qwg (b9:A.frames=some (env::outer)) (hl:s.heap.FunFrames base (env::outer)) (hf:env.frame=some L) (fresh:∀ b,s.heap.objs.size≤b→H b=none) (hn:∀ b o,g.get? b=some o→b<s.heap.objs.size)
  (X:XObj H s.heap g e cls dx) (h:∀ h',XObj H h' g e cls dx→Raw (frs (env::outer)) g H s.heap h'→Q () { s with heap:=h' }) :
  wpAny M A (leaving env (.ref e)) Q E s:=by
 unfold leaving
 exact Zc (Qyi b9 hl hf fresh hn X fun h1 x1 r1=>Qsd x1 fun h2 x2 r2=>h h2 x2 (r1.trans r2))
end
def CXE (P:Fu) (w:Ft):CXT:=fun outer H s E e s'=>∃ a cls dx H',e=.ref a∧s'.os=s.os∧AllBare s'.gens∧Un (frs outer) [] H H' s.heap s'.heap∧HOk P w H' s'.heap∧XObj H' s'.heap s.heap a cls dx∧E cls dx H'
abbrev XR:=Fx→Option Fw→St→Hp→Prop
def Qik (X:Cx) (R:XR):Prop:=∀ (aa:List (Fw×Obj)) (σ:St) (H:Hp) (s:Fy) (e:Fx) (s':Fy),Inv X aa σ H s→CXE X.prog X.w X.stack H s (fun cls dx H'=>R cls dx σ H') e s'→X.xe e s'
section
variable {P:Fu} {w:Ft} {H H0:Hp} {h h' h0 g:Fq} {fs fu:List Fw}
theorem Raw.hok (r:Raw fs g H h h') (ok:HOk P w H h) (hf:∀ b∈fs,H b=none):HOk P w H h':=fun a o e=>by
 have ht:∀ b u,H b=some u→((∃ u,g.get? b=some u)∨H b≠none)∧b∉fs:=fun b u q=>⟨.inr (by rw [q];simp),fun z=>by rw [hf b z] at q;cases q⟩
 refine (ok a o e).stay (fun b u hb q=>?_) (fun _ q=>q) fun _ _ q=>q
 rcases hb with rfl | hb
 ·exact r.keep _ u q (ht _ _ e).1 (ht _ _ e).2
 ·exact r.keep _ u q (ht _ _ hb).1 (ht _ _ hb).2
theorem Raw.un (r:Raw fu g H h h') (u:Un fs [] H0 H h0 h) (hg:∀ b o,h0.get? b=some o→∃ v,g.get? b=some v) (hs:∀ b∈fu,b∈fs∨h0.objs.size≤b):Un fs [] H0 H h0 h' where
 keep:=fun b o e n hb hx=>r.keep b o (u.keep b o e n hb hx) (.inl (hg b o e)) fun z=>by
  rcases hs b z with z | z
  ·exact hb z
  ·exact absurd (Zy (Zj e) z) (Zas _)
 slot:=fun b o e n hb hx=>by
  obtain ⟨sl,q⟩:=u.slot b o e n hb hx
  obtain ⟨du,q'⟩:=r.slot b _ q (.inl (hg b o e))
  exact ⟨du,q'⟩
 free:=u.free
 there:=fun b o e hx=>by
  obtain ⟨o',q⟩:=u.there b o e hx
  obtain ⟨du,q'⟩:=r.slot b _ q (.inl (hg b o e))
  exact ⟨_,q'⟩
 tups:=u.tups
 frzs:=u.frzs
 tbls:=u.tbls
theorem XObj.mono {e:Fw} {cls:Fx} {dx:Option Fw} {g':Fq} (x:XObj H h g e cls dx) (hg:∀ b o,g'.get? b=some o→∃ v,g.get? b=some v):XObj H h g' e cls dx:=by
 have nn:∀ b,g.get? b=none→g'.get? b=none:=fun b q=>by
  cases z:g'.get? b with
  | none=>rfl
  | some o =>
   obtain ⟨v,q'⟩:=hg b o z
   rw [q] at q';cases q'
 obtain ⟨h1,h2,oe,vs,a1,a2,a3,a4,a5,a6⟩:=x
 refine ⟨nn _ h1,h2,oe,vs,a1,a2,a3,a4,a5,a6.imp (fun z=>z) fun ⟨T,oT,ts,b1,b2,b3,b4⟩=>⟨T,oT,ts,b1,b2,nn _ b3,b4⟩⟩
end
section
variable {X:Cx} {aa:List (Fw×Obj)} {σ:St} {H H':Hp} {s s':Fy} {e:Fw} {cls:Fx} {dx:Option Fw}
theorem Inv.thrown (I:Inv X aa σ H s) (os:s'.os=s.os) (bare:AllBare s'.gens) (un:Un (frs X.stack) [] H H' s.heap s'.heap) (hok:HOk X.prog X.w H' s'.heap):Inv X aa σ H' s' :=
 I.call' (ch:=[]) os un hok bare fun b z=>absurd z (by simp)
end
theorem Qabv {g:Str→Bool} {P:Fu} {w:Ft} {K:Fz} {mg:Str→Option Fx} {base:Fq} {N:List Str} {qual:Str} {scope:Scope} {f:Fw} {cd:Fx} {A:Fv} {outer:List Env} {s0:Fy} {H0:Hp} {E:XK} :
  Qik (Qhp g (CXE P w) P w K mg base N qual scope f cd A outer s0 H0 E) (fun cls dx _ H=>E cls dx H):=by
 intro aa σ H s e s' I h
 obtain ⟨a,cls,dx,H',rfl,os,bare,un,hok,xo,hE⟩:=h
 have J:=I.thrown os bare un hok
 show wpAny _ _ (leaving _ _) _ _ _
 refine Qwg (base:=base) (outer:=outer) J.ok.frames J.stack rfl (fun b hb=>J.hok.fresh hb) (fun b o q=>?_) xo fun h' x' r'=>?_
 ·obtain ⟨o',q'⟩:=un.there b o q (by simp)
  exact Zj q'
 ·have hg:∀ b o,s0.heap.get? b=some o→∃ v,s.heap.get? b=some v:=fun b o q=>I.base.there b o q (by intro z;exact absurd (show b∈([]:List Fw) from z) (by simp))
  refine ⟨a,cls,dx,H',rfl,J.os,J.bare,r'.un J.base hg (fun b hb=>?_),r'.hok hok J.stkFree,x'.mono hg,hE⟩
  rcases Z7.mp (J.stkSub b hb) with z | z
  ·rw [z];exact .inr J.ok.above
  ·exact .inl z
def Qse (K:Fz) (mg:Str→Option Fx) (x:Str) (ag:Fx):Prop:=∃ f oc od fd bn,mg x=some (.ref f)∧K.lookup f=some ⟨oc,od,.func fd,bn⟩∧fd.code=ag
def HasE (P:Fu) (w:Ft) (K:Fz) (mg:Str→Option Fx) (base:Fq) (x:Str) (ps:List Str) (k:Nat) (sp:Sp):Prop :=
 ∃ f fd,PySem.W.keepIn K (.ref f)=true∧mg x=some (.ref f)∧Binds K fd ps []∧FnOk P w K mg base (CXE P w) k f fd ps sp
section
variable {P:Fu} {w:Ft} {K:Fz} {mg:Str→Option Fx} {base:Fq}
theorem Q8c {g:Str→Bool} {x:Str} {st:Fs} {N ps:List Str} {k:Nat} {sp:Sp} (d:Dfn K mg x st) (S:FnScope N ps (Qi st)) (bd:Qal x st ps) (len:∀ vs H Q E,sp vs H Q E→vs.length=ps.length)
  (aw:∀ (X:Cx) (f:Fw) (ag:Fx) (A:Fv) (outer:List Env) (s:Fy) (H:Hp) (vs:List V) (Q:VK) (E:XK),X=Qhp g (CXE P w) P w K mg base N x (Qi st) f ag A outer s H E→Qse K mg x ag→Qik (Qhp g (CXE P w) P w K mg base N x (Qi st) f ag A outer s H E) (fun cls dx _ H=>E cls dx H) →
   Room k (A.deeper (envOfC x (Qi st) s.heap.objs.size f ag))→sp vs H Q E →
   ∃ t,QB (Qhp g (CXE P w) P w K mg base N x (Qi st) f ag A outer s H E) (Qbh st) t∧t { nx:=fun _ H'=>Q .non H',rt:=Q } (Qb2 N vs) H):HasE P w K mg base x ps (k+1) sp:=by
 obtain ⟨f,fd,F,m⟩:=d.ex
 refine ⟨f,fd,F.kp,m,F.binds bd,?_⟩
 obtain ⟨oc,od,kV,aG,pm,an,ag,ct,bn,rfl,lk,aT⟩:=F.ex
 refine Q42 (g:=g) lk aT S len fun A outer s H vs Q E hr bA=>?_
 obtain ⟨t,h,q⟩:=aw _ f ag A outer s H vs Q E rfl ⟨f,_,_,_,_,m,lk,rfl⟩ Qabv hr bA
 exact ⟨t,h.h,q⟩
theorem HasE.mono {x:Str} {ps:List Str} {j k:Nat} {sp:Sp} (h:HasE P w K mg base x ps j sp) (hj:j≤k):HasE P w K mg base x ps k sp:=by
 obtain ⟨f,fd,a,b,c,d⟩:=h
 exact ⟨f,fd,a,b,c,d.mono hj⟩
end
abbrev Qsf (sp:Sp) (R:XR) (t:TA):TE:=fun σ H Q=>t σ H fun vs H1=>sp vs H1 Q (fun cls dx H2=>R cls dx σ H2)
section
variable {X:Cx} {x:Str} {ps:List Str} {k:Nat} {sp:Sp} {e:Fr} {es:List Fr} {t:TA} {p pos aj np:Pos} {R:XR}
theorem Q5f (h:HasE X.prog X.w X.K X.mg X.base x ps k sp) (pz:Qik X R) (hr:Room k X.A) (ha:QA X (e::es) t) (hg:Gl X x:=by rfl)
  (aD:(x==("__debug__" : Str))=false:=by decide) (he:starEach (e::es) X.env=(false,eval e X.env)::starEach es X.env:=by rfl) (bo:(backTo pos (starEach es X.env)).any (·.1)=false:=by rfl) :
  QE X (.Call (.Name x p) (e::es) [] pos) (Qsf sp R t):=by
 obtain ⟨f,fd,kp,m,b,F⟩:=h
 refine ⟨fun aa s σ H Q I hq=>?_⟩
 refine Zcs (Qn3 I hg m ?_ aD)
 refine PySem.W.callWith_K (h₀:=X.base) I.ok.mod.kin kp (thn (ha.h pos aa s σ H _ I hq) fun us s1 ⟨vs,H1,I1,r,q⟩=>⟨I1.kIn,?_⟩) he bo
 have hl:(us++[]).length=ps.length:=by rw [Zal,←r.length];exact F.len _ _ _ _ q
 have r2:Vals vs (us++[]):=by rw [Zal];exact r
 refine wpAny_call (Zdo (F.run X.A X.stack s1 H1 ⟨us,[]⟩ (us++[]) vs Q _ hr I1.env0 (b s1 us I1.kIn hl) r2 q) fun rr s' de=>?_)
 cases rr with
 | error ev=>exact pz aa σ H1 s1 ev s' I1 de
 | ok fl =>
  cases fl with
  | ret u=>exact I1.after de
  | next=>exact Zfb de
  | brk=>exact Zfb de
  | cont=>exact Zfb de
theorem Q2x {st:Fs}:QS X st (fun _ _ _=>False):=⟨fun _ _ _ _ _ _ h=>h.elim⟩
theorem Q2y {st:Fs} {t:TS} (h:QS X.nox st t):QS X st t:=⟨fun aa s σ H D I hw=>Zbl (h.h aa s σ H D (I.wish _) hw) (fun _ _ q=>q.unwish) fun _ _ z=>Zfb z⟩
end
section
variable {X:Cx} {x:Str} {e:Fr} {es:List Fr} {t:TA} {pos aj np:Pos} {R:XR} {C:Fw} {B bX gB:String} {dv:List Fx}
end
structure RoomH (k:Nat) (A:Fv):Prop where
 dp:A.depth+3*k+5<recursionLimit
 un:A.units+16*k+200<cLine
structure FnOkH (P:Fu) (w:Ft) (K:Fz) (mg:Str→Option Fx) (base:Fq) (CX:CXT) (k:Nat) (f:Fw) (fd:FuncData) (ps:List Str) (sp:Sp):Prop where
 len:∀ vs H Q E,sp vs H Q E→vs.length=ps.length
 run:∀ (A:Fv) (outer:List Env) (s:Fy) (H:Hp) (args:Args) (us:List Fx) (vs:List V) (Q:VK) (E:XK),RoomH k A→Env0 P w K mg base A outer s H→BindsTo s fd args (ps.zip us)→Vals vs us→sp vs H Q E →
  codeAny (model P w) A (.call (.ref f) args) (CR CX outer P w H s Q E) s
section
variable {X:Cx} {aa p2:List (Fw×Obj)} {σ σ0:St} {H H0:Hp} {s s0:Fy} {h':Fq} {R:XR}
end
section
variable {X:Cx} {aa:List (Fw×Obj)} {σ:St} {H:Hp} {s:Fy} {M:Model} {A:Fv} {E:Fx→Fy→Prop} {Q:Unit→Fy→Prop} {i:Nat} {x:Str} {v:V}
end
section
variable {X:Cx} {body c8:List Fs} {b0:Fs} {x n:Str} {np eK pos:Pos} {tb:XR→TS} {th:TS} {i:Nat} {C0:Fw} {dv:List Fx} {bX:String}
end
end L2
namespace PySem.SeqAt
open PySem PySem.Spec PyProof PyProof.Rows
theorem sub_tuple_dict:isSubtype (.type "tuple") (.type "dict")=pure false:=by rw [Ze0];kernel_rfl
theorem sub_dict_tuple:isSubtype (.type "dict") (.type "tuple")=pure false:=by rw [Ze0];kernel_rfl
theorem sub_dict_dict:isSubtype (.type "dict") (.type "dict")=pure true:=by rw [Ze0];kernel_rfl
theorem dict_ne_declines_tuple (l b:Fw) (da:Data) (ae:Array Fx) (n2:Nat) (dd aU:Option Fw) (sl aV:Array (Option Fx)) :
  Meets (Builtin.«dict.__ne__» ⟨[.ref l,.ref b],[]⟩) (fun _ R s=>s.heap.get? l=some { cls:=.type "dict",dict:=dd,data:=da,slots:=sl }∧s.heap.get? b=some { cls:=.type "tuple",dict:=aU,data:=.seq ae n2,slots:=aV }∧R (.ok (.ret .notImplemented)) s) :=
 .of_wp fun prog w A R s h=>by obtain ⟨hp,g,d,tk,os⟩:=s;obtain ⟨hl,hb,h⟩:=h;have f1:=sub_tuple_dict;have f2:=sub_dict_dict;wp_walk using wpAny_loadPart' hl,wpAny_loadPart' hb;exact ⟨_,rfl,h⟩
theorem tuple_ne_declines_dict (l b:Fw) (da:Data) (items:Array Fx) (n:Nat) (dd aU:Option Fw) (sl aV:Array (Option Fx)) :
  Meets (Builtin.«tuple.__ne__» ⟨[.ref l,.ref b],[]⟩) (fun _ R s=>s.heap.get? l=some { cls:=.type "tuple",dict:=dd,data:=.seq items n,slots:=sl }∧s.heap.get? b=some { cls:=.type "dict",dict:=aU,data:=da,slots:=aV }∧R (.ok (.ret .notImplemented)) s) :=
 .of_wp fun prog w A R s h=>by obtain ⟨hp,g,d,tk,os⟩:=s;obtain ⟨hl,hb,h⟩:=h;have f1:=sub_dict_tuple;wp_walk using wpAny_loadPart' hl,wpAny_loadPart' hb;exact ⟨_,rfl,h⟩
theorem dict_eq_declines_tuple (l b:Fw) (da:Data) (ae:Array Fx) (n2:Nat) (dd aU:Option Fw) (sl aV:Array (Option Fx)) :
  Meets (Builtin.«dict.__eq__» ⟨[.ref l,.ref b],[]⟩) (fun _ R s=>s.heap.get? l=some { cls:=.type "dict",dict:=dd,data:=da,slots:=sl }∧s.heap.get? b=some { cls:=.type "tuple",dict:=aU,data:=.seq ae n2,slots:=aV }∧R (.ok (.ret .notImplemented)) s) :=
 .of_wp fun prog w A R s h=>by obtain ⟨hp,g,d,tk,os⟩:=s;obtain ⟨hl,hb,h⟩:=h;have f1:=sub_tuple_dict;have f2:=sub_dict_dict;wp_walk using wpAny_loadPart' hl,wpAny_loadPart' hb;exact ⟨_,rfl,h⟩
theorem tuple_eq_declines_dict (l b:Fw) (da:Data) (items:Array Fx) (n:Nat) (dd aU:Option Fw) (sl aV:Array (Option Fx)) :
  Meets (Builtin.«tuple.__eq__» ⟨[.ref l,.ref b],[]⟩) (fun _ R s=>s.heap.get? l=some { cls:=.type "tuple",dict:=dd,data:=.seq items n,slots:=sl }∧s.heap.get? b=some { cls:=.type "dict",dict:=aU,data:=da,slots:=aV }∧R (.ok (.ret .notImplemented)) s) :=
 .of_wp fun prog w A R s h=>by obtain ⟨hp,g,d,tk,os⟩:=s;obtain ⟨hl,hb,h⟩:=h;have f1:=sub_dict_tuple;wp_walk using wpAny_loadPart' hl,wpAny_loadPart' hb;exact ⟨_,rfl,h⟩
section
variable {A:Fv} {s:Fy}
theorem RcNeAt.dict_tuple {l b:Fw} {o:Obj} {ae:Array Fx} (ho:s.heap.get? l=some o) (hc:o.cls=.type "dict") (hb:s.heap.IsTuple b ae) (hu:A.units<cLine):RcNeAt A s (.ref l) (.ref b) true:=fun prog w E Q h=>by
 obtain ⟨⟨c4,aU,data2,aV⟩,a7,bE,n2,b8⟩:=id hb
 obtain ⟨cls,dd,data,sl⟩:=o
 simp only at hc bE b8
 subst hc bE b8
 have am:l≠b:=fun z=>by subst z;rw [ho] at a7;have e:(Value.type "dict")=.type "tuple" := congrArg (·.cls) (Zo a7);exact absurd e (by decide)
 exact (rc_ne_decline_or (k:=false) ⟨_,ho,rfl⟩ ⟨_,a7,rfl⟩ (by decide) sub_tuple_dict F.slot_dict_ne F.slot_tuple_ne_refl
  (fun _ hq=>Za9 F.slot_dict_ne ⟨_,ho,rfl⟩ F.entry_dict_ne (F.args_dict_ne_2 _ _) (dict_ne_declines_tuple l b data ae n2 dd aU sl aV) ⟨ho,a7,hq⟩)
  (fun _ hq=>Za9 F.slot_tuple_ne_refl ⟨_,a7,rfl⟩ F.entry_tuple_ne (F.args_tuple_ne_2 _ _) (tuple_ne_declines_dict b l data ae n2 aU dd aV sl) ⟨a7,ho,hq⟩)
  (fun _ hq=>Zen am ho a7 (by simp) hq) (.inr hu) h)
theorem RcAt.dict_tuple {l b:Fw} {o:Obj} {ae:Array Fx} (ho:s.heap.get? l=some o) (hc:o.cls=.type "dict") (hb:s.heap.IsTuple b ae) (hu:A.units<cLine):RcAt A s (.ref l) (.ref b) false:=fun prog w E Q h=>by
 obtain ⟨⟨c4,aU,data2,aV⟩,a7,bE,n2,b8⟩:=id hb
 obtain ⟨cls,dd,data,sl⟩:=o
 simp only at hc bE b8
 subst hc bE b8
 have am:l≠b:=fun z=>by subst z;rw [ho] at a7;have e:(Value.type "dict")=.type "tuple" := congrArg (·.cls) (Zo a7);exact absurd e (by decide)
 exact (rc_eq_decline_or (k:=false) ⟨_,ho,rfl⟩ ⟨_,a7,rfl⟩ (by decide) sub_tuple_dict F.slot_dict_eq F.slot_tuple_eq_refl
  (fun _ hq=>Za9 F.slot_dict_eq ⟨_,ho,rfl⟩ F.entry_dict_eq (F.args_dict_eq_2 _ _) (dict_eq_declines_tuple l b data ae n2 dd aU sl aV) ⟨ho,a7,hq⟩)
  (fun _ hq=>Za9 F.slot_tuple_eq_refl ⟨_,a7,rfl⟩ F.entry_tuple_eq (F.args_tuple_eq_2 _ _) (tuple_eq_declines_dict b l data ae n2 aU dd aV sl) ⟨a7,ho,hq⟩)
  (fun _ hq=>Zen am ho a7 (by simp) hq) (.inr hu) h)
end
end PySem.SeqAt
namespace L2
open PySem PySem.Spec PyProof.Rows
mutual
def eqT:T→T→Bool
 | .non,.non=>true
 | .bl a,.bl b=>a==b
 | .int a,.int b=>a==b
 | .bl a,.int b=>(if a then 1 else 0)==b
 | .int a,.bl b=>a==(if b then 1 else 0)
 | .str a,.str b=>a==b
 | .tup a,.tup b=>eqL a b
 | .lst a,.lst b=>eqL a b
 | _,_=>false
def eqL:List T→List T→Bool
 | [],[]=>true
 | x::xs,y::ys=>eqT x y&&eqL xs ys
 | _,_=>false
end
def Ql:Nat→T→Bool
 | _,.non=>true
 | _,.bl _=>true
 | _,.int _=>true
 | _,.str _=>true
 | n+1,.tup ts=>ts.all (Ql n)
 | n+1,.lst ts=>ts.all (Ql n)
 | _,_=>false
theorem Qil:eqL [] []=true:=by unfold eqL;rfl
theorem Qgx (x y:T) (xs ys:List T):eqL (x::xs) (y::ys)=(eqT x y&&eqL xs ys):=by rw [eqL]
theorem Qim:∀ {xs ys:List T},xs.length≠ys.length→eqL xs ys=false
 | [],[],h=>absurd rfl h
 | [],_::_,_=>by unfold eqL;rfl
 | _::_,[],_=>by unfold eqL;rfl
 | x::xs,y::ys,h=>by rw [Qgx,Qim (xs:=xs) (ys:=ys) (by simpa using h),Zez]
theorem Qm7:∀ {xs ys:List T} {e:Nat→Bool},(∀ (j:Nat) a b,xs[j]?=some a→ys[j]?=some b→e j=eqT a b)→((List.range (min xs.length ys.length)).all e&&(xs.length==ys.length))=eqL xs ys
 | [],[],e,_=>by rw [Qil];rfl
 | [],y::ys,e,_=>by rw [Qim (by simp)];simp
 | x::xs,[],e,_=>by rw [Qim (by simp)];simp
 | x::xs,y::ys,e,h=>by
  rw [Qgx,←Qm7 (xs:=xs) (ys:=ys) (e:=fun j=>e (j+1)) fun j a b p q=>h (j+1) a b p q,Zh,Zh,Nat.succ_min_succ,Zeo,Za7,List.all_map,←h 0 x y rfl rfl,Bool.and_assoc]
  congr 2
  simp
theorem Qk2:∀ (n:Nat) (t:T),Ql n t=true→eqT t t=true
 | _,.non,_=>by rw [eqT]
 | _,.bl b,_=>by rw [eqT];simp
 | _,.int i,_=>by rw [eqT];simp
 | _,.str x,_=>by rw [eqT];simp
 | n+1,.tup ts,h=>by
  have h:ts.all (Ql n)=true:=by rw [Ql] at h;exact h
  have go:∀ ts:List T,ts.all (Ql n)=true→eqL ts ts=true:=fun ts=>by
   induction ts with
   | nil=>intro _;exact Qil
   | cons x xs ih =>
    intro h
    rw [Za7,Zm] at h
    rw [Qgx,Qk2 n x h.1,ih h.2]
    rfl
  rw [eqT];exact go ts h
 | n+1,.lst ts,h=>by
  have h:ts.all (Ql n)=true:=by rw [Ql] at h;exact h
  have go:∀ ts:List T,ts.all (Ql n)=true→eqL ts ts=true:=fun ts=>by
   induction ts with
   | nil=>intro _;exact Qil
   | cons x xs ih =>
    intro h
    rw [Za7,Zm] at h
    rw [Qgx,Qk2 n x h.1,ih h.2]
    rfl
  rw [eqT];exact go ts h
 | 0,.tup _,h=>by simp [Ql] at h
 | 0,.lst _,h=>by simp [Ql] at h
 | 0,.dct _ _,h=>by simp [Ql] at h
 | 0,.clo _ _,h=>by simp [Ql] at h
 | _+1,.dct _ _,h=>by simp [Ql] at h
 | _+1,.clo _ _,h=>by simp [Ql] at h
 | 0,.dtt _ _,h=>by simp [Ql] at h
 | _+1,.dtt _ _,h=>by simp [Ql] at h
theorem Q5g {H:Hp}:∀ (n:Nat) {v:V} {t t':T},Is H v t→Is H v t'→Ql n t=true→Ql n t'=true→eqT t t'=true:=by
 intro n
 induction n with
 | zero =>
  intro v t t' i j h h'
  cases t <;> first | (simp [Ql] at h;done) | skip
  all_goals (cases t' <;> first | (simp [Ql] at h';done) | skip)
  all_goals (unfold Is at i j;rw [i] at j;first | (cases j;simp [eqT];done) | cases j)
 | succ n ih =>
  intro v t t' i j h h'
  have go:∀ (ts us:List T) (vs:List V),IsL H vs ts→IsL H vs us→ts.all (Ql n)=true→us.all (Ql n)=true→eqL ts us=true:=by
   intro ts
   induction ts with
   | nil =>
    intro us vs q1 q2 _ _
    rw [q1.nil_inv] at q2
    cases us with
    | nil=>exact Qil
    | cons y ys=>obtain ⟨_,_,z,_⟩:=q2.cons_inv;cases z
   | cons x xs ihx =>
    intro us vs q1 q2 a1 a2
    obtain ⟨v,r,rfl,c1,c2⟩:=q1.cons_inv
    cases us with
    | nil=>have:=q2.nil_inv;cases this
    | cons y ys =>
     obtain ⟨v',r',z,d1,d2⟩:=q2.cons_inv
     cases z
     rw [Za7,Zm] at a1 a2
     rw [Qgx,ihx ys r c2 d2 a1.2 a2.2,Zam]
     exact ih c1 d1 a1.1 a2.1
  cases t with
  | dct _ _=>simp [Ql] at h
  | clo _ _=>simp [Ql] at h
  | dtt _ _=>simp [Ql] at h
  | tup ts =>
   obtain ⟨a,vs,rfl,ha,q⟩:=i.tup_inv
   cases t' with
   | tup us =>
    obtain ⟨a',fb,e,bL,q'⟩:=j.tup_inv
    cases e
    rw [ha] at bL
    cases bL
    rw [eqT]
    exact go ts us vs q q' (by simpa only [Ql] using h) (by simpa only [Ql] using h')
   | lst us =>
    obtain ⟨a',fb,e,bL,q'⟩:=j.lst_inv
    cases e
    rw [ha] at bL
    cases bL
   | dct _ _=>simp [Ql] at h'
   | clo _ _=>simp [Ql] at h'
   | dtt _ _=>simp [Ql] at h'
   | _=>unfold Is at j;cases j
  | lst ts =>
   obtain ⟨a,vs,rfl,ha,q⟩:=i.lst_inv
   cases t' with
   | lst us =>
    obtain ⟨a',fb,e,bL,q'⟩:=j.lst_inv
    cases e
    rw [ha] at bL
    cases bL
    rw [eqT]
    exact go ts us vs q q' (by simpa only [Ql] using h) (by simpa only [Ql] using h')
   | tup us =>
    obtain ⟨a',fb,e,bL,q'⟩:=j.tup_inv
    cases e
    rw [ha] at bL
    cases bL
   | dct _ _=>simp [Ql] at h'
   | clo _ _=>simp [Ql] at h'
   | dtt _ _=>simp [Ql] at h'
   | _=>unfold Is at j;cases j
  | _ =>
   cases t' with
   | dct _ _=>simp [Ql] at h'
   | clo _ _=>simp [Ql] at h'
   | dtt _ _=>simp [Ql] at h'
   | tup us =>
    obtain ⟨a',fb,e,bL,q'⟩:=j.tup_inv
    unfold Is at i
    rw [i] at e;cases e
   | lst us =>
    obtain ⟨a',fb,e,bL,q'⟩:=j.lst_inv
    unfold Is at i
    rw [i] at e;cases e
   | _=>unfold Is at i j;rw [i] at j;first | (cases j;simp [eqT];done) | cases j
inductive Shp (P:Fu) (w:Ft) (H:Hp) (h:Fq):T→Fx→Prop
 | non:Shp P w H h .non .none
 | bl (b):Shp P w H h (.bl b) (.bool b)
 | int (i t):Shp P w H h (.int i) (.int i t)
 | str (x t):Shp P w H h (.str x) (.str x t)
 | tup {a vs ts ac}:Is H (.ref a) (.tup ts)→IsL H vs ts→Vals vs ac→h.IsTuple a ac.toArray→Shp P w H h (.tup ts) (.ref a)
 | lst {a vs ts ac}:Is H (.ref a) (.lst ts)→IsL H vs ts→Vals vs ac→h.IsList a ac.toArray→Shp P w H h (.lst ts) (.ref a)
 | dct {ks ts u}:Shp P w H h (.dct ks ts) u
 | clo {l ts u}:Shp P w H h (.clo l ts) u
 | dtt {ks ts u}:Shp P w H h (.dtt ks ts) u
theorem Is.shp {P:Fu} {w:Ft} {H:Hp} {h:Fq} {v:V} {u:Fx}:∀ {t:T},Is H v t→RelV v u→HOk P w H h→Shp P w H h t u
 | .non,i,r,_=>by unfold Is at i;subst i;cases r;exact .non
 | .bl b,i,r,_=>by unfold Is at i;subst i;cases r;exact .bl b
 | .int n,i,r,_=>by unfold Is at i;subst i;obtain ⟨t,rfl⟩:=r;exact .int n t
 | .str x,i,r,_=>by unfold Is at i;subst i;obtain ⟨t,rfl⟩:=r;exact .str x t
 | .tup ts,i,r,ok=>by
  obtain ⟨a,vs,rfl,ha,q⟩:=i.tup_inv
  cases r
  obtain ⟨_,ac,rv,p⟩:=ok a _ ha
  exact .tup i q rv p.tup
 | .lst ts,i,r,ok=>by
  obtain ⟨a,vs,rfl,ha,q⟩:=i.lst_inv
  cases r
  obtain ⟨_,ac,n,rv,p⟩:=ok a _ ha
  exact .lst i q rv ⟨_,p,rfl,n,rfl⟩
 | .dct ks ts,_,_,_=>.dct
 | .clo l ts,_,_,_=>.clo
 | .dtt ks ts,_,_,_=>.dtt
section
variable {P:Fu} {w:Ft} {H:Hp}
def eAt (ts us:List T) (j:Nat):Bool:=eqT (ts.getD j .non) (us.getD j .non)
theorem Qm8 (ts us:List T):((List.range (min ts.length us.length)).all (eAt ts us)&&(ts.length==us.length))=eqL ts us :=
 Qm7 fun j a b p q=>by unfold eAt;rw [Zn,Zn,p,q];rfl
theorem Qp3 {s:Fy} {A:Fv} {n:Nat} {ts us:List T} {vs ws:List V} {ac ak:List Fx} (i1:IsL H vs ts) (i2:IsL H ws us) (r1:Vals vs ac) (r2:Vals ws ak) (ok:HOk P w H s.heap) (h1:ts.all (Ql n)=true) (h2:us.all (Ql n)=true)
  (ih:∀ (t t':T) (u u':Fx),Ql n t=true→Ql n t'=true→Shp P w H s.heap t u→Shp P w H s.heap t' u'→SeqAt.EqAt A s u u' (eqT t t')) :
  ∀ (j:Nat) (g1:j<ac.toArray.size) (g2:j<ak.toArray.size),SeqAt.EqAt A s ac.toArray[j] ak.toArray[j] (eAt ts us j):=by
 intro j g1 g2
 have iQ:j<ac.length:=by simpa using g1
 have iJ:j<ak.length:=by simpa using g2
 have l1:j<vs.length:=by rw [r1.length];exact iQ
 have l2:j<ws.length:=by rw [r2.length];exact iJ
 obtain ⟨u,hu,ru⟩:=r1.get (Za l1)
 obtain ⟨u',iU,jJ⟩:=r2.get (Za l2)
 obtain ⟨t,ht,it⟩:=i1.get (Za l1)
 obtain ⟨t',i8,j8⟩:=i2.get (Za l2)
 have e1:ac.toArray[j]=u:=by
  rw [Za iQ] at hu
  simpa using hu
 have e2:ak.toArray[j]=u':=by
  rw [Za iJ] at iU
  simpa using iU
 have e3:eAt ts us j=eqT t t':=by unfold eAt;rw [Zn,Zn,ht,i8];rfl
 rw [e1,e2,e3]
 exact ih t t' u u' (Z1.mp h1 t (Z2 ht)) (Z1.mp h2 t' (Z2 i8)) (it.shp ru ok) (j8.shp jJ ok)
theorem Qin {ts:List T} {vs:List V} {ac:List Fx} (i:IsL H vs ts) (r:Vals vs ac):ac.toArray.size=ts.length:=by
 rw [Zp,←r.length,i.length]
open SeqAt in
theorem Qyj {s:Fy} {A:Fv} {n:Nat} {ts us:List T} {a b:Fw} {vs ws:List V} {ac ak:List Fx} (i1:IsL H vs ts) (i2:IsL H ws us) (r1:Vals vs ac) (r2:Vals ws ak) (ok:HOk P w H s.heap) (h1:ts.all (Ql n)=true) (h2:us.all (Ql n)=true)
  (hl:s.heap.IsTuple a ac.toArray) (hb:s.heap.IsTuple b ak.toArray) (hu:A.units<cLine) (ih:∀ (t t':T) (u u':Fx),Ql n t=true→Ql n t'=true→Shp P w H s.heap t u→Shp P w H s.heap t' u'→EqAt A.in1 s u u' (eqT t t')) :
  RcAt A s (.ref a) (.ref b) (eqL ts us)∧RcNeAt A s (.ref a) (.ref b) (!eqL ts us):=by
 have ax:=Qp3 i1 i2 r1 r2 ok h1 h2 ih
 have l1:=Qin i1 r1
 have l2:=Qin i2 r2
 have k1:=RcAt.tuples hl hb hu ax
 have k2:=RcNeAt.tuples hl hb hu ax
 rw [l1,l2,Qm8] at k1 k2
 exact ⟨k1,k2⟩
open SeqAt in
theorem Qyk {s:Fy} {A:Fv} {n:Nat} {ts us:List T} {a b:Fw} {vs ws:List V} {ac ak:List Fx} (i1:IsL H vs ts) (i2:IsL H ws us) (r1:Vals vs ac) (r2:Vals ws ak) (ok:HOk P w H s.heap) (h1:ts.all (Ql n)=true) (h2:us.all (Ql n)=true)
  (hl:s.heap.IsList a ac.toArray) (hb:s.heap.IsList b ak.toArray) (hu:A.units<cLine) (ih:∀ (t t':T) (u u':Fx),Ql n t=true→Ql n t'=true→Shp P w H s.heap t u→Shp P w H s.heap t' u'→EqAt A.in1 s u u' (eqT t t')) :
  RcAt A s (.ref a) (.ref b) (eqL ts us)∧RcNeAt A s (.ref a) (.ref b) (!eqL ts us):=by
 have ax:=Qp3 i1 i2 r1 r2 ok h1 h2 ih
 have l1:=Qin i1 r1
 have l2:=Qin i2 r2
 by_cases hz:ts.length=us.length
 ·have k1:=RcAt.lists hl hb (by rw [l1,l2,hz]) hu ax
  have k2:=RcNeAt.lists hl hb (by rw [l1,l2,hz]) hu ax
  have e:=Qm8 ts us
  rw [hz,Nat.min_self,beq_self_eq_true,Zam] at e
  rw [l1,hz,e] at k1 k2
  exact ⟨k1,k2⟩
 ·rw [Qim hz]
  have cw:(ac.toArray.size != ak.toArray.size)=true:=by rw [l1,l2];simpa using hz
  exact ⟨RcAt.lists_lengths hl hb cw hu,RcNeAt.lists_lengths hl hb cw hu⟩
open SeqAt in
theorem Qyl:∀ (n:Nat) {s:Fy} {A:Fv},HOk P w H s.heap→A.units+n<cLine→∀ (t t':T) (u u':Fx),Ql n t=true→Ql n t'=true→Shp P w H s.heap t u→Shp P w H s.heap t' u'→EqAt A s u u' (eqT t t'):=by
 intro n
 induction n with
 | zero =>
  intro s A ok hu t t' u u' h1 h2 s1 s2
  cases s1 with
  | dct=>simp [Ql] at h1
  | clo=>simp [Ql] at h1
  | dtt=>simp [Ql] at h1
  | tup j1 i1 r1 p1=>simp [Ql] at h1
  | lst j1 i1 r1 p1=>simp [Ql] at h1
  | non =>
   cases s2 with
   | dct=>simp [Ql] at h2
   | clo=>simp [Ql] at h2
   | dtt=>simp [Ql] at h2
   | tup j2 i2 r2 p2=>simp [Ql] at h2
   | lst j2 i2 r2 p2=>simp [Ql] at h2
   | non=>simp only [eqT];exact Zfa _
   | bl b=>simp only [eqT];exact EqAt.none_bool  b
   | int i t=>simp only [eqT];exact EqAt.none_int  i t
   | str x t=>simp only [eqT];exact EqAt.none_str  x t
  | bl c =>
   cases s2 with
   | dct=>simp [Ql] at h2
   | clo=>simp [Ql] at h2
   | dtt=>simp [Ql] at h2
   | tup j2 i2 r2 p2=>simp [Ql] at h2
   | lst j2 i2 r2 p2=>simp [Ql] at h2
   | non=>simp only [eqT];exact EqAt.bool_none c
   | bl b=>simp only [eqT];exact EqAt.bool_bool c b
   | int i t=>simp only [eqT];exact EqAt.bool_int c i t
   | str x t=>simp only [eqT];exact EqAt.bool_str c x t
  | int c ct =>
   cases s2 with
   | dct=>simp [Ql] at h2
   | clo=>simp [Ql] at h2
   | dtt=>simp [Ql] at h2
   | tup j2 i2 r2 p2=>simp [Ql] at h2
   | lst j2 i2 r2 p2=>simp [Ql] at h2
   | non=>simp only [eqT];exact EqAt.int_none c ct
   | bl b=>simp only [eqT];exact EqAt.int_bool c ct b
   | int i t=>simp only [eqT];exact EqAt.int_int c ct i t
   | str x t=>simp only [eqT];exact EqAt.int_str c ct x t
  | str c ct =>
   cases s2 with
   | dct=>simp [Ql] at h2
   | clo=>simp [Ql] at h2
   | dtt=>simp [Ql] at h2
   | tup j2 i2 r2 p2=>simp [Ql] at h2
   | lst j2 i2 r2 p2=>simp [Ql] at h2
   | non=>simp only [eqT];exact EqAt.str_none c ct
   | bl b=>simp only [eqT];exact EqAt.str_bool c ct b
   | int i t=>simp only [eqT];exact EqAt.str_int c ct i t
   | str x t=>simp only [eqT];exact EqAt.str_str c ct x t
 | succ n ih =>
  intro s A ok hu t t' u u' h1 h2 s1 s2
  have ba:A.units<cLine:=by omega
  have hW:=ih (s:=s) (A:=A.in1) ok (by show A.units+1+n<cLine;omega)
  cases s1 with
  | dct=>simp [Ql] at h1
  | clo=>simp [Ql] at h1
  | dtt=>simp [Ql] at h1
  | tup j1 i1 r1 p1 =>
   have g1:=h1
   rw [Ql] at g1
   cases s2 with
   | dct=>simp [Ql] at h2
   | clo=>simp [Ql] at h2
   | dtt=>simp [Ql] at h2
   | tup j2 i2 r2 p2 =>
    have g2:=h2
    rw [Ql] at g2
    rename_i a vs ts ac b ws us ak
    by_cases bx:a=b
    ·subst bx
     rw [Q5g (n+1) j1 j2 h1 h2]
     exact Zfa _
    ·rw [eqT]
     exact EqAt.of_refs bx (Qyj i1 i2 r1 r2 ok g1 g2 p1 p2 ba hW).1
   | lst j2 i2 r2 p2=>simp only [eqT];exact EqAt.tuple_list p1 p2 ba
   | non=>simp only [eqT];exact EqAt.tuple_none p1 ba
   | bl b=>simp only [eqT];exact EqAt.tuple_bool b p1 ba
   | int i t=>simp only [eqT];exact EqAt.tuple_int i t p1 ba
   | str x t=>simp only [eqT];exact EqAt.tuple_str x t p1 ba
  | lst j1 i1 r1 p1 =>
   have g1:=h1
   rw [Ql] at g1
   cases s2 with
   | dct=>simp [Ql] at h2
   | clo=>simp [Ql] at h2
   | dtt=>simp [Ql] at h2
   | lst j2 i2 r2 p2 =>
    have g2:=h2
    rw [Ql] at g2
    rename_i a vs ts ac b ws us ak
    by_cases bx:a=b
    ·subst bx
     rw [Q5g (n+1) j1 j2 h1 h2]
     exact Zfa _
    ·rw [eqT]
     exact EqAt.of_refs bx (Qyk i1 i2 r1 r2 ok g1 g2 p1 p2 ba hW).1
   | tup j2 i2 r2 p2=>simp only [eqT];exact EqAt.list_tuple p1 p2 ba
   | non=>simp only [eqT];exact EqAt.list_none p1 ba
   | bl b=>simp only [eqT];exact EqAt.list_bool b p1 ba
   | int i t=>simp only [eqT];exact EqAt.list_int i t p1 ba
   | str x t=>simp only [eqT];exact EqAt.list_str x t p1 ba
  | non =>
   cases s2 with
   | dct=>simp [Ql] at h2
   | clo=>simp [Ql] at h2
   | dtt=>simp [Ql] at h2
   | tup j2 i2 r2 p2=>simp only [eqT];exact EqAt.none_tuple p2 ba
   | lst j2 i2 r2 p2=>simp only [eqT];exact EqAt.none_list p2 ba
   | non=>simp only [eqT];exact Zfa _
   | bl b=>simp only [eqT];exact EqAt.none_bool b
   | int i t=>simp only [eqT];exact EqAt.none_int i t
   | str x t=>simp only [eqT];exact EqAt.none_str x t
  | bl c =>
   cases s2 with
   | dct=>simp [Ql] at h2
   | clo=>simp [Ql] at h2
   | dtt=>simp [Ql] at h2
   | tup j2 i2 r2 p2=>simp only [eqT];exact EqAt.bool_tuple c p2 ba
   | lst j2 i2 r2 p2=>simp only [eqT];exact EqAt.bool_list c p2 ba
   | non=>simp only [eqT];exact EqAt.bool_none c
   | bl b=>simp only [eqT];exact EqAt.bool_bool c b
   | int i t=>simp only [eqT];exact EqAt.bool_int c i t
   | str x t=>simp only [eqT];exact EqAt.bool_str c x t
  | int c ct =>
   cases s2 with
   | dct=>simp [Ql] at h2
   | clo=>simp [Ql] at h2
   | dtt=>simp [Ql] at h2
   | tup j2 i2 r2 p2=>simp only [eqT];exact EqAt.int_tuple c ct p2 ba
   | lst j2 i2 r2 p2=>simp only [eqT];exact EqAt.int_list c ct p2 ba
   | non=>simp only [eqT];exact EqAt.int_none c ct
   | bl b=>simp only [eqT];exact EqAt.int_bool c ct b
   | int i t=>simp only [eqT];exact EqAt.int_int c ct i t
   | str x t=>simp only [eqT];exact EqAt.int_str c ct x t
  | str c ct =>
   cases s2 with
   | dct=>simp [Ql] at h2
   | clo=>simp [Ql] at h2
   | dtt=>simp [Ql] at h2
   | tup j2 i2 r2 p2=>simp only [eqT];exact EqAt.str_tuple c ct p2 ba
   | lst j2 i2 r2 p2=>simp only [eqT];exact EqAt.str_list c ct p2 ba
   | non=>simp only [eqT];exact EqAt.str_none c ct
   | bl b=>simp only [eqT];exact EqAt.str_bool c ct b
   | int i t=>simp only [eqT];exact EqAt.str_int c ct i t
   | str x t=>simp only [eqT];exact EqAt.str_str c ct x t
end
section
variable {X:Cx}
def Q2z (neg:Bool):R2:=fun x y H Q=>∃ t t',Is H x t∧Is H y t'∧Ql 50 t=true∧Ql 50 t'=true∧((∃ ts us,t=.tup ts∧t'=.tup us)∨∃ ts us,t=.lst ts∧t'=.lst us)∧Q (.bl (if neg then !eqT t t' else eqT t t')) H
theorem Qm9 (hu:X.A.units+64<cLine) {aa:List (Fw×Obj)} {σ:St} {H:Hp} {s:Fy} (I:Inv X aa σ H s) {x y:V} {v u:Fx} {t t':T} (rx:RelV x v) (ry:RelV y u) (i:Is H x t) (j:Is H y t') (h1:Ql 50 t=true) (h2:Ql 50 t'=true)
  (hk:(∃ ts us,t=.tup ts∧t'=.tup us)∨∃ ts us,t=.lst ts∧t'=.lst us):SeqAt.RcAt X.A s v u (eqT t t')∧SeqAt.RcNeAt X.A s v u (!eqT t t'):=by
 have ih:=Qyl 49 (A:=X.A.in1) (P:=X.prog) (w:=X.w) I.hok (by show X.A.units+1+49<cLine;omega)
 have s1:=i.shp rx I.hok
 have s2:=j.shp ry I.hok
 rcases hk with ⟨ts,us,rfl,rfl⟩ | ⟨ts,us,rfl,rfl⟩
 ·rw [Ql] at h1 h2
  rw [eqT]
  cases s1 with
  | tup j1 i1 r1 p1 =>
   cases s2 with
   | tup j2 i2 r2 p2=>exact Qyj i1 i2 r1 r2 I.hok h1 h2 p1 p2 (by omega) ih
 ·rw [Ql] at h1 h2
  rw [eqT]
  cases s1 with
  | lst j1 i1 r1 p1 =>
   cases s2 with
   | lst j2 i2 r2 p2=>exact Qyk i1 i2 r1 r2 I.hok h1 h2 p1 p2 (by omega) ih
theorem Qabw (hu:X.A.units+64<cLine):QOp X (compareOp .Eq) (Q2z false):=⟨by
 intro aa s σ H x y v u Q I rx ry q
 obtain ⟨t,t',i,j,h1,h2,hk,q⟩:=q
 exact (Qm9 hu I rx ry i j h1 h2 hk).1 _ _ _ _ ⟨.bl _,H,I,rfl,q⟩⟩
theorem Qabx (hu:X.A.units+64<cLine):QOp X (compareOp .NotEq) (Q2z true):=⟨by
 intro aa s σ H x y v u Q I rx ry q
 obtain ⟨t,t',i,j,h1,h2,hk,q⟩:=q
 exact (Qm9 hu I rx ry i j h1 h2 hk).2 _ _ _ _ ⟨.bl _,H,I,rfl,q⟩⟩
def Q20:T→T→Bool
 | .tup _,.non=>true
 | .tup _,.bl _=>true
 | .tup _,.int _=>true
 | .tup _,.str _=>true
 | .tup _,.lst _=>true
 | .non,.tup _=>true
 | .bl _,.tup _=>true
 | .int _,.tup _=>true
 | .str _,.tup _=>true
 | .lst _,.tup _=>true
 | .dct _ _,.tup _=>true
 | _,_=>false
def Q21 (neg:Bool):R2:=fun x y H Q=>∃ t t',Is H x t∧Is H y t'∧Q20 t t'=true∧Q (.bl neg) H
theorem Qp4 (hu:X.A.units+64<cLine) {aa:List (Fw×Obj)} {σ:St} {H:Hp} {s:Fy} (I:Inv X aa σ H s) {x y:V} {v u:Fx} {t t':T} (rx:RelV x v) (ry:RelV y u) (i:Is H x t) (j:Is H y t') (hk:Q20 t t'=true):SeqAt.RcAt X.A s v u false∧SeqAt.RcNeAt X.A s v u true:=by
 have s1:=i.shp rx I.hok
 have s2:=j.shp ry I.hok
 have hu:X.A.units<cLine:=by omega
 cases s1 with
 | non =>
  cases s2 with
  | tup _ _ _ p=>exact ⟨SeqAt.RcAt.none_tuple p hu,SeqAt.RcNeAt.none_tuple p hu⟩
  | _=>cases hk
 | bl b =>
  cases s2 with
  | tup _ _ _ p=>exact ⟨SeqAt.RcAt.bool_tuple b p hu,SeqAt.RcNeAt.bool_tuple b p hu⟩
  | _=>cases hk
 | int b c =>
  cases s2 with
  | tup _ _ _ p=>exact ⟨SeqAt.RcAt.int_tuple b c p hu,SeqAt.RcNeAt.int_tuple b c p hu⟩
  | _=>cases hk
 | str b c =>
  cases s2 with
  | tup _ _ _ p=>exact ⟨SeqAt.RcAt.str_tuple b c p hu,SeqAt.RcNeAt.str_tuple b c p hu⟩
  | _=>cases hk
 | tup _ _ _ p =>
  cases s2 with
  | non=>exact ⟨SeqAt.RcAt.tuple_none p hu,SeqAt.RcNeAt.tuple_none p hu⟩
  | bl b=>exact ⟨SeqAt.RcAt.tuple_bool b p hu,SeqAt.RcNeAt.tuple_bool b p hu⟩
  | int b c=>exact ⟨SeqAt.RcAt.tuple_int b c p hu,SeqAt.RcNeAt.tuple_int b c p hu⟩
  | str b c=>exact ⟨SeqAt.RcAt.tuple_str b c p hu,SeqAt.RcNeAt.tuple_str b c p hu⟩
  | lst _ _ _ q=>exact ⟨SeqAt.RcAt.tuple_list p q hu,SeqAt.RcNeAt.tuple_list p q hu⟩
  | _=>cases hk
 | lst _ _ _ p =>
  cases s2 with
  | tup _ _ _ q=>exact ⟨SeqAt.RcAt.list_tuple p q hu,SeqAt.RcNeAt.list_tuple p q hu⟩
  | _=>cases hk
 | dct =>
  cases s2 with
  | tup _ _ _ p =>
   unfold Is at i
   obtain ⟨a,vs,rfl,ha,_⟩:=i
   cases rx
   obtain ⟨_,_,ws,_,ob,es,ep,e,c,_⟩:=(show ObjOk X.prog X.w H s.heap a (.dK _) from I.hok a _ ha)
   exact ⟨SeqAt.RcAt.dict_tuple e c.1 p hu,SeqAt.RcNeAt.dict_tuple e c.1 p hu⟩
  | _=>cases hk
 | _=>cases s2 <;> cases hk
theorem Qaby (hu:X.A.units+64<cLine):QOp X (compareOp .Eq) (Q21 false):=⟨by
 intro aa s σ H x y v u Q I rx ry q
 obtain ⟨t,t',i,j,hk,q⟩:=q
 exact (Qp4 hu I rx ry i j hk).1 _ _ _ _ ⟨.bl _,H,I,rfl,q⟩⟩
theorem Qabz (hu:X.A.units+64<cLine):QOp X (compareOp .NotEq) (Q21 true):=⟨by
 intro aa s σ H x y v u Q I rx ry q
 obtain ⟨t,t',i,j,hk,q⟩:=q
 exact (Qp4 hu I rx ry i j hk).2 _ _ _ _ ⟨.bl _,H,I,rfl,q⟩⟩
end
section
open PySem.W
end
def xcOk (K:Fz) (D:Fw):Bool:=PySem.W.findIn K (.ref D) "__getattribute__" == some (some (.builtin "BaseException.__getattribute__"))&&PySem.W.findIn K (.ref D) "__getattr__" == some none&&PySem.W.mroIn K D (.type "BaseException")==some true&&(PySem.W.clsIn K D).isSome&&PySem.W.findIn K (.ref D) "__class__" == some (some (.builtin "object.__class__")) &&
 PySem.W.specialIn K (.builtin "object.__class__") "__get__" == some (some (.builtin "getset_descriptor.__get__"))&&PySem.W.takesIn K (.builtin "object.__class__")==some true&&PySem.W.mroIn K D (.type "object")==some true
section
variable {X:Cx}
end
section
variable {P:Fu} {w:Ft} {K:Fz} {mg:Str→Option Fx} {base:Fq}
end
section
variable {X:Cx} {x:Str} {ps:List Str} {k:Nat} {sp:Sp} {e:Fr} {es:List Fr} {t:TA} {p pos:Pos}
end
def cad (mg:Str→Option Fx) (x:Str):Fw:=match mg x with
 | some (.ref a)=>a
 | _=>0
def bmV:List Fx:=[.type "ValueError",.type "Exception",.type "BaseException",.type "object"]
def Qsg:List Str:=["NoTable","NoWay","NoSet","NoRest","NoLine","NoRow","NoTables","Below","NoText","TooGreat"]
def Qab0 (K:Fz) (c0:Fw) (cs:List Fw):Bool :=
 PySem.W.excIn K c0 bmV "ValueError.__new__" && (cs.take 6).all (fun c=>PySem.W.excIn K c bmV "ValueError.__new__")&&cs.all (fun c=>xcOk K c&&PySem.W.mroIn K c (.ref c0)==some true&&PySem.W.kitOne K (.ref c) (.type "ValueError")==some true) &&
  cs.zipIdx.all (fun p=>cs.zipIdx.all fun q=>PySem.W.kitOne K (.ref p.1) (.ref q.1)==some (p.2==q.2))
structure Exs (K:Fz) (mg:Str→Option Fx):Prop where
 m0:mg "NoughtError" = some (.ref (cad mg "NoughtError"))
 m:∀ (i:Nat) (x:Str),Qsg[i]?=some x→mg x=some (.ref (cad mg x))
 ok:Qab0 K (cad mg "NoughtError") (Qsg.map (cad mg))=true
section
variable {K:Fz} {mg:Str→Option Fx}
end
section
variable {X:Cx} {aa:List (Fw×Obj)} {σ:St} {H:Hp} {s:Fy} {h':Fq}
theorem Inv.turnedL {t':Nat} {fp:List Fw} (I:Inv X aa σ H s) (k:∀ b o,b∉fp→s.heap.get? b=some o→h'.get? b=some o) (hf:∀ b∈fp,Qgt X aa H b):Inv X aa σ H { s with heap:=h',toks:=t' }:=by
 have dR:∀ b u,H b=some u→b∉fp:=fun b u e z=>by rw [(hf b z).1] at e;cases e
 refine I.step (g':=s.gens) (d':=s.drawn) (ch:=fp) (fun b hb=>?_) (fun b o _ _ hc e _=>k b o hc e) (fun b o _ _ hc e _=>⟨o.slots,k b o hc e⟩) (fun _ _ _ _ n=>n)
  (fun b o hc e=>⟨o,k b o hc e⟩) (fun _ _ e=>e) (fun _ _ _ e=>e) (fun _ _ e=>e) (fun m hm=>?_) (fun b u e=>?_) I.bare
 ·obtain ⟨_,f1,_,f3,f4,f5⟩:=hf b hb
  exact ⟨f3,f1,f4,f5⟩
 ·obtain ⟨o,es,ep,ho,r⟩:=hm
  exact ⟨o,es,ep,k _ o (fun z=>(hf _ z).2.1 rfl) ho,r⟩
 ·refine (I.hok b u e).stay (fun c v hc q=>k c v ?_ q) (fun _ q=>q) fun _ _ q=>q
  rcases hc with z | z
  ·rw [z];exact dR b u e
  ·exact dR c _ z
end
def Ite (K:Fz) (a:Fw):It :=
 ⟨fun i H=>∃ xs x,SqL K H a xs∧xs[i]?=some x,fun i H v H'=>∃ p x,v=.ref p∧H p=none∧(∀ xs,SqL K H a xs→xs[i]?=some x)∧H'=upd H p (.tup [.int (i:Nat),x]),fun i H=>∃ xs,SqL K H a xs∧xs.length≤i⟩
theorem Qwh {P:Fu} {w:Ft} {K:Fz} {es:List Fr} {x1} {tp:Pos} (a e it:Fw) (am:e≠it):Turn P w K (.Tuple es x1 tp) (Ite K a) [e,it] e (fun i h=>(∃ aB,IsEnum h e it ((i:Nat):Int) aB)∧h.IsListIter it a i) where
 mem:=by simp
 obj:=fun i h st b hb=>by
  obtain ⟨⟨aB,he⟩,o,ho,c,d⟩:=st
  have hb:b=e∨b=it:=by simpa using hb
  rcases hb with rfl | rfl
  ·exact ⟨_,he,fun v z=>by
    have z':Data.fields _=Data.cell v:=z
    cases z'⟩
  ·exact ⟨o,ho,fun v z=>by rw [d] at z;cases z⟩
 keep:=fun i h h' st k=>⟨let ⟨aB,he⟩:=st.1;⟨aB,k e (by simp) _ he⟩,st.2.at fun o q=>k it (by simp) o q⟩
 item:=by
  intro X hP hw hK hc i aa s σ H E I hf st hg
  subst hP hw hK
  obtain ⟨xs,x,hq,hx⟩:=hg
  obtain ⟨ac,rv,p,hz⟩:=I.list hq
  obtain ⟨u,hu,ru⟩:=rv.get hx
  obtain ⟨⟨aB,he⟩,bB⟩:=st
  have g9:e<s.heap.objs.size:=Zj he
  refine wpAny_pyNext_enum_item he bB p.isList (x:=u) (by simpa using hu) am fun h1 ho cL hT aE hk=>⟨_,rfl,?_⟩
  refine Zdy (s:={ s with heap:=h1,toks:=s.toks+1 }) ho fun h2 dq ay=>?_
  have ay:Heap.SameBut e h1 h2:=ay
  have g6:H s.heap.objs.size=none:=I.hok.fresh (Zi _)
  have I1:Inv X aa σ (upd H s.heap.objs.size (.tup [.int (i:Nat),x])) { s with heap:=s.heap.push { cls:=.type "tuple",data:=.seq #[.int (i:Nat) s.toks,u] },toks:=s.toks } :=
   I.laid (fun b o q=>Zg _ q) (Zi _) ⟨by show 2≤sizeLine;decide,[.int (i:Nat) s.toks,u],.cons ⟨_,rfl⟩ (.cons ru .nil),⟨_,Zt _ rfl,rfl,_,rfl,rfl⟩⟩
  have ne:∀ b∈[e,it],b≠s.heap.objs.size:=fun b hb=>by
   have hb:b=e∨b=it:=by simpa using hb
   obtain ⟨_,bM,_⟩:=bB
   rcases hb with rfl | rfl
   ·exact Zv g9
   ·exact Zv (Zj bM)
  have dI:∀ b∈[e,it],Qgt X aa (upd H s.heap.objs.size (.tup [.int (i:Nat),x])) b:=fun b hb=>⟨by rw [Q3 (ne b hb)];exact (hf b hb).1,(hf b hb).2⟩
  have I2:=I1.turnedL (h':=h2) (t':=s.toks+1) (fp:=[e,it]) (fun b o hb q=>by
   have bN:b≠e:=fun z=>hb (by simp [z])
   have gM:b≠it:=fun z=>hb (by simp [z])
   rw [ay.2 b bN]
   rcases Heap.get?_push_cases q with ⟨rfl,rfl⟩ | q
   ·exact hT
   ·exact hk b o bN gM q) dI
  refine ⟨.ref s.heap.objs.size,_,I2,rfl,⟨_,x,rfl,g6,fun ys hy=>by rw [I.list_inj hy hq];exact hx,rfl⟩,⟨⟨u,?_⟩,cL.at fun o q=>(ay.2 it am.symm).trans q⟩,fun b hb=>(dI b hb).1⟩
  have:((i+1:Nat):Int)=(i:Int)+1:=by push_cast;rfl
  rw [this]
  exact dq
 done:=by
  intro X hP hw hK hc i aa s σ H E I hf st hg
  subst hP hw hK
  obtain ⟨xs,hq,hx⟩:=hg
  obtain ⟨ac,rv,p,hz⟩:=I.list hq
  obtain ⟨⟨aB,he⟩,bB⟩:=st
  have hl:=rv.length
  refine wpAny_pyNext_enum_end (I.ok.hd hc) he bB p.isList (by simp;omega) fun h1 eb=>⟨rfl,I.turnedL (t':=s.toks) (fp:=[e,it]) (fun b o hb q=>eb b o (fun z=>hb (by simp [z])) q) hf⟩
 self:=fun _ _ _ _ _ st h=>let ⟨_,he⟩:=st.1;Zc3 he h
section
variable {X:Cx}
end
section
variable {P:Fu} {w:Ft} {A:Fv} {E:Fx→Fy→Prop} {s:Fy}
theorem Qsh {j t:Fw} {n:Nat} {vs:Array Fx} {v:Fx} {Q:Fx→Fy→Prop} (hj:s.heap.IsTupleIter j t n) (ht:s.heap.IsTuple t vs) (hv:vs[n]?=some v)
  (q:∀ g,g.IsTupleIter j t (n+1)→Heap.SameBut j s.heap g→Q v { s with heap:=g }):wpAny (model P w) A (Builtin.SmallTypes.nextOf (.ref j)) Q E s:=by
 obtain ⟨oj,ej,cj,dj⟩:=id hj
 obtain ⟨ot,et,_,m,dt⟩:=ht
 unfold Builtin.SmallTypes.nextOf
 refine Zc (Zbk (name:=Str.ofString "__next__") hj.typeIs F.slot_tuple_iterator_next (Zb2 F.slot_tuple_iterator_next hj.typeIs F.entry_tuple_iterator_next ?_ (F.args_tuple_iterator_next_1 _)))
 show wpAny _ _ (field (.ref j) 0 >>= _) _ _ s
 refine Zc (Zbc ej dj (x:=.ref t) rfl ?_)
 show wpAny _ _ (if (Value.ref t==Value.none)=true then _ else _) _ _ s;rw [Zd (show ¬ ((Value.ref t==Value.none)=true) from Zk)]
 show wpAny _ _ (field (.ref j) 1 >>= _) _ _ s
 refine Zc (Zbc ej dj (x:=.int n 0) rfl ?_)
 show wpAny _ _ (seqItems? (.ref t) >>= _) _ _ s;refine Zc (wpAny_seqItems et dt ?_)
 simp only [Zaw,hv]
 refine Zc (Zc1 ej dj (by simp) (Zs ⟨v,rfl,Zs (q _ ?_ (Heap.SameBut.update ..))⟩))
 exact ⟨_,Zbq _ ej (Zch (Zcc dj _)),(Obj.cls_mapFields ..).trans cj,by rw [Zcc dj];simp [rawInt]⟩
theorem Qna {j t:Fw} {n:Nat} {vs:Array Fx} {Q:Fx→Fy→Prop} (hh:A.handled=none) (hj:s.heap.IsTupleIter j t n) (ht:s.heap.IsTuple t vs) (hv:vs[n]?=none)
  (q:∀ g e,Heap.ExtBut j s.heap g→(∃ o,g.get? e=some o∧o.cls=.type "StopIteration")→E (.ref e) { s with heap:=g }):wpAny (model P w) A (Builtin.SmallTypes.nextOf (.ref j)) Q E s:=by
 obtain ⟨oj,ej,cj,dj⟩:=id hj
 obtain ⟨ot,et,_,m,dt⟩:=ht
 unfold Builtin.SmallTypes.nextOf
 refine Zc (Zbk (name:=Str.ofString "__next__") hj.typeIs F.slot_tuple_iterator_next (Zb2 F.slot_tuple_iterator_next hj.typeIs F.entry_tuple_iterator_next ?_ (F.args_tuple_iterator_next_1 _)))
 show wpAny _ _ (field (.ref j) 0 >>= _) _ _ s
 refine Zc (Zbc ej dj (x:=.ref t) rfl ?_)
 show wpAny _ _ (if (Value.ref t==Value.none)=true then _ else _) _ _ s;rw [Zd (show ¬ ((Value.ref t==Value.none)=true) from Zk)]
 show wpAny _ _ (field (.ref j) 1 >>= _) _ _ s
 refine Zc (Zbc ej dj (x:=.int n 0) rfl ?_)
 show wpAny _ _ (seqItems? (.ref t) >>= _) _ _ s;refine Zc (wpAny_seqItems et dt ?_)
 simp only [Zaw,hv]
 refine Zc (wpAny_rule (Zc (Zc1 ej dj (by simp) ?_)))
 show wpAny _ _ (newExc (.type "StopIteration") [] >>= _) _ _ _;refine Zc ?_
 simp only [newExc,newTuple]
 refine Zc (Zag ?_ (by size_fits));refine Zc (m:=firstArgMember _ _) (wpAny_of_eq (a:=Value.none) (by first | rfl | (simp only [firstArgMember];rfl)) ?_)
 refine Zag ?_ (by size_fits);simp only [raiseNew]
 refine Zc (wpAny_handled ?_);first | rw [show A.in1.handled=none from hh] | rw [hh]
 exact Zc (Zs (wpAny_throw (q _ _ (((Heap.SameBut.update ..).extBut.push _).push _) ⟨_,Zt _ rfl,rfl⟩)))
def IsIt:Bool→Fq→Fw→Fw→Nat→Prop
 | true,h,i,l,n=>h.IsListIter i l n
 | false,h,i,l,n=>h.IsTupleIter i l n
def IsSq:Bool→Fq→Fw→Array Fx→Prop
 | true,h,l,xs=>h.IsList l xs
 | false,h,l,xs=>h.IsTuple l xs
structure ZT (lb lc:Bool) (h:Fq) (z ti to i1 i2 l1 l2:Fw) (n:Nat) (xs ys:Array Fx):Prop where
 z:IsZip h z ti to .none
 ti:IsPair h ti (.ref i1) (.ref i2)
 to:∃ a b,IsPair h to a b
 i1:IsIt lb h i1 l1 n
 i2:IsIt lc h i2 l2 n
 l1:IsSq lb h l1 xs
 l2:IsSq lc h l2 ys
end
section
variable {X:Cx}
end
theorem Q8d {prog:Fu} {w:Ft} {A:Fv} (hh:A.handled=none) (it l:Fw) (am:l≠it) (items:Array Fx) :
  Draws prog w A it [it,l] items.size (fun i v=>items[i]?=some v) (fun i h=>h.IsTupleIter it l i∧h.IsTuple l items) where
 live:=fun _ _ st=>let ⟨o,ho,_⟩:=st.1;⟨o,ho⟩
 frame:=fun _ _ _ st hk=>⟨let ⟨o,e,r⟩:=st.1;⟨o,hk it (by simp) o e,r⟩,let ⟨o,e,r⟩:=st.2;⟨o,hk l (by simp) o e,r⟩⟩
 item:=fun i s Q E hi st hQ=>by
  refine Qsh st.1 st.2 (v:=items[i]) (by simp [hi]) fun h' fQ f7=>?_
  exact hQ _ h' s.toks (by simp [hi]) ⟨fQ,let ⟨o,e,r⟩:=st.2;⟨o,f7.extBut _ _ am e,r⟩⟩ f7
 done:=fun s Q E st hE=>Qna hh st.1 st.2 (by simp) hE
set_option maxHeartbeats 1000000 in
theorem Qp5 (l:Fw) (items:Array Fx) (n:Nat) (dct:Option Fw) (sl:Array (Option Fx)) :
  Meets (Builtin.«enumerate.__new__» ⟨[.type "enumerate",.ref l],[]⟩) (fun _ R s=>s.heap.get? l=some { cls:=.type "tuple",dict:=dct,data:=.seq items n,slots:=sl } ∧
   R (.ok (.ret (.ref (s.heap.push { cls:=.type "tuple_iterator",data:=.fields #[.ref l,.int 0 0] }).objs.size)))
    { s with heap:=(s.heap.push { cls:=.type "tuple_iterator",data:=.fields #[.ref l,.int 0 0] }).push { cls:=.type "enumerate",data:=.fields #[.none,.bool false,.ref s.heap.objs.size,rawInt 0,.none,.none] } }) :=
 .of_wp fun prog w A R s h=>by
  obtain ⟨hp,g,d,tk,os⟩:=s;obtain ⟨hl,h⟩:=h
  have gC:=sub_enumerate
  have hL:Heap.IsTuple (Shared.heap ⟨hp,g,d,tk,os⟩) l items:=⟨_,hl,rfl,n,rfl⟩
  wp_walk using Zbe hl
  refine wpAny_stack_any fun st=>Zs ?_
  split
  ·rename_i c _ _ _ _ _
   cases (c==Value.type "enumerate")
   ·wp_walk using Zbe hl,Zcu hL
    exact ⟨_,rfl,h⟩
   ·wp_walk using Zbe hl,Zcu hL
    exact ⟨_,rfl,h⟩
  ·wp_walk using Zbe hl,Zcu hL
   exact ⟨_,rfl,h⟩
section
variable {prog:Fu} {w:Ft} {A:Fv} {E:Fx→Fy→Prop} {s:Fy}
theorem Qsi {l:Fw} {items:Array Fx} {Q:Fx→Fy→Prop} (hL:s.heap.IsTuple l items)
  (h:∀ h',IsEnum h' (s.heap.objs.size+1) s.heap.objs.size 0 .none→h'.IsTupleIter s.heap.objs.size l 0→h'.objs.size=s.heap.objs.size+2 →
   (∀ b o,s.heap.get? b=some o→h'.get? b=some o)→Q (.ref (s.heap.objs.size+1)) { s with heap:=h' }) :
  wpAny (model prog w) A (call (.type "enumerate") [.ref l]) Q E s:=by
 obtain ⟨⟨c,dct,dt,sl⟩,hl,hc,n,hd⟩:=hL
 replace hc:c=.type "tuple" := hc
 replace hd:dt=.seq items n:=hd
 subst hc hd
 refine callType_new F.called_enumerate (by decide) (F.typeCall_enumerate_1 _) (F.newCall_enumerate_1 _) (fun obj=>F.args_object_init_2 obj _) F.entry_enumerate_new
  (Qp5 l items n dct sl) ⟨hl,?_⟩
 have hz:(s.heap.push { cls:=.type "tuple_iterator",data:=.fields #[.ref l,.int 0 0] }).objs.size=s.heap.objs.size+1:=Zcj ..
 show _∧_
 rw [hz]
 have he:IsEnum ((s.heap.push { cls:=.type "tuple_iterator",data:=.fields #[.ref l,.int 0 0] }).push
   { cls:=.type "enumerate",data:=.fields #[.none,.bool false,.ref s.heap.objs.size,rawInt 0,.none,.none] }) (s.heap.objs.size+1) s.heap.objs.size 0 .none:=by
  have:=Zt (s.heap.push { cls:=.type "tuple_iterator",data:=.fields #[.ref l,.int 0 0] })
   (o:={ cls:=.type "enumerate",data:=.fields #[.none,.bool false,.ref s.heap.objs.size,rawInt 0,.none,.none] }) rfl
  rw [hz] at this;exact this
 refine ⟨⟨_,he,rfl⟩,h _ he ⟨_,Zg _ (Zt _ rfl),rfl,rfl⟩ (by rw [Zcj,hz]) fun b o x=>Zg _ (Zg _ x)⟩
theorem Qwi {e it l:Fw} {i:Nat} {items:Array Fx} {aB:Fx} {Q:Option Fx→Fy→Prop} (hh:A.handled=none)
  (he:IsEnum s.heap e it i aB) (bB:s.heap.IsTupleIter it l i) (hl:s.heap.IsTuple l items) (hx:items[i]?=none)
  (hQ:∀ h',Heap.ExtBut it s.heap h'→Q none { s with heap:=h' }):wpAny (model prog w) A (pyNext (.ref e)) Q E s:=by
 have hT:s.TypeIs (.ref e) "enumerate" := ⟨_,he,rfl⟩
 unfold pyNext
 refine Zc (wpAny_attempt (Zbk (name:=Str.ofString "__next__") hT F.slot_enumerate_next
  (Zb2 F.slot_enumerate_next hT F.entry_enumerate_next ?_ (F.args_enumerate_next_1 _))))
 show wpAny _ _ (field (.ref e) 2 >>= _) _ _ _
 refine Zc (Zbc he rfl (x:=.ref it) rfl ?_)
 refine Zc (Qna hh bB hl hx fun h' x jQ cM=>?_)
 obtain ⟨o,ho,hc⟩:=cM
 refine Zc (wpAny_isInstance (T := "StopIteration") (b:=true) ⟨o,ho,hc⟩ isSubtype_stop ?_)
 exact Zs (hQ _ jQ)
end
def Q8e (K:Fz) (a:Fw):It :=
 ⟨fun i H=>∃ xs x,SqT K H a xs∧xs[i]?=some x,fun i H v H'=>∃ p x,v=.ref p∧H p=none∧(∀ xs,SqT K H a xs→xs[i]?=some x)∧H'=upd H p (.tup [.int (i:Nat),x]),fun i H=>∃ xs,SqT K H a xs∧xs.length≤i⟩
theorem Qsj {P:Fu} {w:Ft} {K:Fz} {es:List Fr} {x1} {tp:Pos} (a e it:Fw) (am:e≠it) (ja:e≠a) (je:a≠it):Turn P w K (.Tuple es x1 tp) (Q8e K a) [e,it] e (fun i h=>(∃ aB,IsEnum h e it ((i:Nat):Int) aB)∧h.IsTupleIter it a i) where
 mem:=by simp
 obj:=fun i h st b hb=>by
  obtain ⟨⟨aB,he⟩,o,ho,c,d⟩:=st
  have hb:b=e∨b=it:=by simpa using hb
  rcases hb with rfl | rfl
  ·exact ⟨_,he,fun v z=>by
    have z':Data.fields _=Data.cell v:=z
    cases z'⟩
  ·exact ⟨o,ho,fun v z=>by rw [d] at z;cases z⟩
 keep:=fun i h h' st k=>⟨let ⟨aB,he⟩:=st.1;⟨aB,k e (by simp) _ he⟩,let ⟨o,ho,r⟩:=st.2;⟨o,k it (by simp) o ho,r⟩⟩
 item:=by
  intro X hP hw hK hc i aa s σ H E I hf st hg
  subst hP hw hK
  obtain ⟨xs,x,hq,hx⟩:=hg
  obtain ⟨ac,rv,p,hz⟩:=I.tuple hq
  obtain ⟨u,hu,ru⟩:=rv.get hx
  obtain ⟨⟨aB,he⟩,bB⟩:=st
  have g9:e<s.heap.objs.size:=Zj he
  have hh:=I.ok.hd hc
  have av:i<ac.toArray.size:=by
   have:=(Ze.mp hu).1
   simpa using this
  refine wpAny_pyNext_enum_itemD (Q8d (A:=X.A.in1) hh it a je ac.toArray) he ⟨bB,p⟩ av am (by simp [am,ja]) fun y h1 tk hy ho cL hT aE hk=>⟨_,rfl,?_⟩
  have ey:y=u:=by
   have:ac.toArray[i]?=some u:=by simpa using hu
   rw [this] at hy
   exact (Zo hy).symm
  subst ey
  refine Zdy (s:={ s with heap:=h1,toks:=tk+1 }) ho fun h2 dq ay=>?_
  have ay:Heap.SameBut e h1 h2:=ay
  have g6:H s.heap.objs.size=none:=I.hok.fresh (Zi _)
  have I1:Inv X aa σ (upd H s.heap.objs.size (.tup [.int (i:Nat),x])) { s with heap:=s.heap.push { cls:=.type "tuple",data:=.seq #[.int (i:Nat) tk,y] },toks:=s.toks } :=
   I.laid (fun b o q=>Zg _ q) (Zi _) ⟨by show 2≤sizeLine;decide,[.int (i:Nat) tk,y],.cons ⟨_,rfl⟩ (.cons ru .nil),⟨_,Zt _ rfl,rfl,_,rfl,rfl⟩⟩
  have ne:∀ b∈[e,it],b≠s.heap.objs.size:=fun b hb=>by
   have hb:b=e∨b=it:=by simpa using hb
   obtain ⟨_,bM,_⟩:=bB
   rcases hb with rfl | rfl
   ·exact Zv g9
   ·exact Zv (Zj bM)
  have dI:∀ b∈[e,it],Qgt X aa (upd H s.heap.objs.size (.tup [.int (i:Nat),x])) b:=fun b hb=>⟨by rw [Q3 (ne b hb)];exact (hf b hb).1,(hf b hb).2⟩
  have I2:=I1.turnedL (h':=h2) (t':=tk+1) (fp:=[e,it]) (fun b o hb q=>by
   have bN:b≠e:=fun z=>hb (by simp [z])
   have gM:b≠it:=fun z=>hb (by simp [z])
   rw [ay.2 b bN]
   rcases Heap.get?_push_cases q with ⟨rfl,rfl⟩ | q
   ·exact hT
   ·exact hk b o bN gM q) dI
  refine ⟨.ref s.heap.objs.size,_,I2,rfl,⟨_,x,rfl,g6,fun ys hy=>by rw [I.tuple_inj hy hq];exact hx,rfl⟩,⟨⟨y,?_⟩,let ⟨o,bM,r⟩:=cL.1;⟨o,(ay.2 it am.symm).trans bM,r⟩⟩,fun b hb=>(dI b hb).1⟩
  have:((i+1:Nat):Int)=(i:Int)+1:=by push_cast;rfl
  rw [this]
  exact dq
 done:=by
  intro X hP hw hK hc i aa s σ H E I hf st hg
  subst hP hw hK
  obtain ⟨xs,hq,hx⟩:=hg
  obtain ⟨ac,rv,p,hz⟩:=I.tuple hq
  obtain ⟨⟨aB,he⟩,bB⟩:=st
  have hl:=rv.length
  refine Qwi (I.ok.hd hc) he bB p (by simp;omega) fun h1 eb=>⟨rfl,I.turnedL (t':=s.toks) (fp:=[e,it]) (fun b o hb q=>eb b o (fun z=>hb (by simp [z])) q) hf⟩
 self:=fun _ _ _ _ _ st h=>let ⟨_,he⟩:=st.1;Zc3 he h
section
variable {X:Cx}
def Qym (K:Fz) (ta:TA):TI:=fun σ H R=>ta σ H fun vs H1=>∃ a xs,vs=[.ref a]∧((SqL K H1 a xs∧R (Ite K a) H1)∨(SqT K H1 a xs∧R (Q8e K a) H1))
theorem Qyn {a:Fr} {ta:TA} {es:List Fr} {x1} {tp p pos:Pos} (K:Fz) (hK:X.K=K) (hg:Gl X "enumerate") (hm:X.mg "enumerate" = none) (hb:PySem.bootBuiltins "enumerate" = some (.type "enumerate")) (ha:PA X [a] ta) (hs:starEach [a] X.env=[(false,eval a X.env)]:=by rfl) :
  PI X (.Tuple es x1 tp) (.Call (.Name "enumerate" p) [a] [] pos) (Qym K ta):=by
 subst hK
 intro aa s σ H R I h
 refine Call_ (Qjd I hg hm hb (PyProof.Rows.callWith_type1 (thn (ha pos aa s σ H _ I h) fun us s1 ⟨vs,H1,I1,r1,q1⟩=>?_) hs rfl))
 obtain ⟨b,xs,e,q⟩:=q1
 subst e
 cases r1 with
 | cons r rr =>
  cases rr
  cases r
  have fp:∀ c∈[s1.heap.objs.size+1,s1.heap.objs.size],Qgt X aa H1 c:=fun c hc=>by
   have hc:c=s1.heap.objs.size+1∨c=s1.heap.objs.size:=by simpa using hc
   rcases hc with rfl | rfl
   ·exact I1.fpOk (Zew _) (I1.hok.fresh (Zew _))
   ·exact I1.fpOk (Zi _) (I1.hok.fresh (Zi _))
  rcases q with ⟨hq,q⟩ | ⟨hq,q⟩
  ·obtain ⟨ac,rv,pl,hz⟩:=I1.list hq
   refine call_enumerate_list pl.isList fun h1 he bB aE hk=>Zc3 he ?_
   exact ⟨s1.heap.objs.size+1,[s1.heap.objs.size+1,s1.heap.objs.size],_,_,H1,rfl,I1.kept (t':=s1.toks) hk,Qwh b _ _ (Nat.succ_ne_self _),⟨⟨_,he⟩,bB⟩,fp,q⟩
  ·obtain ⟨ac,rv,pl,hz⟩:=I1.tuple hq
   have av:b<s1.heap.objs.size:=let ⟨o,e,_⟩:=pl;Zj e
   refine Qsi pl fun h1 he bB aE hk=>Zc3 he ?_
   exact ⟨s1.heap.objs.size+1,[s1.heap.objs.size+1,s1.heap.objs.size],_,_,H1,rfl,I1.kept (t':=s1.toks) hk,Qsj b _ _ (Nat.succ_ne_self _) (Ze8 (Zbi av)) (Zv av),⟨⟨_,he⟩,bB⟩,fp,q⟩
theorem Q22 {a:Fr} {ta:TA} {es:List Fr} {x1} {tp p pos:Pos} (K:Fz) (hK:X.K=K) (hm:X.mg "enumerate" = none) (hb:PySem.bootBuiltins "enumerate" = some (.type "enumerate")) (ha:QA X [a] ta) (hg:Gl X "enumerate" := by rfl) (hs:Qr a=true:=by rfl) :
  QI X (.Tuple es x1 tp) (.Call (.Name "enumerate" p) [a] [] pos) (Qym K ta):=⟨Qyn K hK hg hm hb ha.h (Qa1 hs)⟩
end
def excF (K:Fz) (c0 C:Fw) (dv:List Fx) (bX:String) (f:Fw):Bool:=match K.lookup C with
 | some ⟨.type "type",_,.cls cl,ks⟩=>(match cl.mro,ks.toList with
  | .ref C1::.ref b0::tl,[_,_,_,_,some (.builtin n1),_]=>C1==C&&n1==bX&&b0==c0&&tl==dv && !cl.hasDel&&cl.hasDict&&PySem.W.tailIn K dv (.ref b0::tl)
  | _,_=>false)
 | _=>false
def Q8f (K:Fz) (c0 C f:Fw):Bool:=excF K c0 C bmV "ValueError.__new__" f&&PySem.W.findIn K (.ref C) "__init__" == some (some (.ref f))&&PySem.W.findIn K (.ref C) "__setattr__" == some (some (.builtin "object.__setattr__"))&&PySem.W.findIn K (.ref C) "at" == some none&&PySem.W.mroIn K C (.type "object")==some true
section
variable {prog:Fu} {w:Ft} {A:Fv} {E:Fx→Fy→Prop} {h:Fq} {g:Array GenState} {d:Drawn} {t:Nat} {os:OsState}
variable {nm q:Str} {C N c0:Fw} {bs bm dv:List Fx} {hd:Bool} {sn:List Str} {sub:List Fx} {ab:Bool} {iO:Option Bool} {dd:Option Fw} {k0 k1 k2 k3 k5:Option Fx} {B hJ jl:String}
structure Ini (K:Fz) (c0 C:Fw):Prop where
 ex:∃ (f:Fw) (fd:FuncData) (qn:Str) (st:Fs) (p1 p2 p3 p4:Pos),Q8f K c0 C f=true∧Fun K "__init__" qn st f fd∧(∃ od bn,K.lookup f=some ⟨.type "function",od,.func fd,bn⟩)∧FnScope ["self","at"] ["self","at"] (Qi st) ∧
  (Qi st).names.lookup ("self" : Str)=some .local∧(Qi st).names.lookup ("at" : Str)=some .local∧Binds K fd ["self","at"] []∧Qbh st=[.Assign [.Attribute (.Name "self" p1) "at" p2] (.Name "at" p3) p4]
end
section
variable {X:Cx} {aa:List (Fw×Obj)} {σ:St} {H:Hp} {s:Fy}
end
section
variable {M:Model} {A:Fv} {E:Fx→Fy→Prop} {env:Env} {nm q:Str} {C N:Fw} {bs bm:List Fx} {hd:Bool} {sn:List Str} {sub:List Fx} {ab:Bool} {iO:Option Bool} {dd:Option Fw} {k0 k1 k2 k3 k5:Option Fx} {hJ:String}
end
section
variable {X:Cx} {x:Str} {e:Fr} {t:TA} {pos aj np:Pos} {R:XR} {c0 C:Fw} {k:Nat}
end
section
variable {X:Cx} {e:Fr} {te:TE} {pos:Pos}
end
section
variable {prog:Fu} {w:Ft} {A:Fv} {E:Fx→Fy→Prop} {h:Fq} {g:Array GenState} {d:Drawn} {t:Nat} {os:OsState}
variable {nm q:Str} {C N c0:Fw} {bs bm dv:List Fx} {hd:Bool} {sn:List Str} {sub:List Fx} {ab:Bool} {iO:Option Bool} {dd:Option Fw} {k0 k1 k2 k3 k5:Option Fx} {B hJ jl:String}
def Q23 (K:Fz) (c0 C f:Fw):Bool:=excF K c0 C bmV "ValueError.__new__" f&&PySem.W.findIn K (.ref C) "__init__" == some (some (.ref f))&&PySem.W.findIn K (.ref C) "__setattr__" == some (some (.builtin "object.__setattr__"))&&PySem.W.findIn K (.ref C) "many" == some none&&PySem.W.findIn K (.ref C) "most" == some none&&PySem.W.mroIn K C (.type "object")==some true
structure Ini2 (K:Fz) (c0 C:Fw):Prop where
 ex:∃ (f:Fw) (fd:FuncData) (qn:Str) (st:Fs) (p1 p2 p3 p4 q1 q2 q3 q4:Pos),Q23 K c0 C f=true∧Fun K "__init__" qn st f fd∧(∃ od bn,K.lookup f=some ⟨.type "function",od,.func fd,bn⟩)∧FnScope ["self","many","most"] ["self","many","most"] (Qi st) ∧
  (Qi st).names.lookup ("self" : Str)=some .local∧(Qi st).names.lookup ("many" : Str)=some .local∧(Qi st).names.lookup ("most" : Str)=some .local∧Binds K fd ["self","many","most"] [] ∧
  Qbh st=[.Assign [.Attribute (.Name "self" p1) "many" p2] (.Name "many" p3) p4,.Assign [.Attribute (.Name "self" q1) "most" q2] (.Name "most" q3) q4]
end
section
variable {X:Cx} {aa:List (Fw×Obj)} {σ:St} {H:Hp} {s:Fy}
end
section
variable {X:Cx} {x:Str} {e e2:Fr} {t:TA} {pos aj np:Pos} {R:XR} {c0 C:Fw} {k:Nat}
end
section
variable {X:Cx} {e:Fr} {te:TE} {pos:Pos}
end
section
variable {X:Cx}
def isI (n:Int) (v:Fx):Bool:=match v with
 | .int m _=>m==n
 | _=>false
end
theorem Qsk {X:Cx} {tg elt af:Fr} {az:List Fr} {scope:Scope} {pos fX:Pos} {N:List Str} {js:List (Option Nat)} {wi:TI} {g:TG} {tc:TT} {te:TE} {use:Option (Fx→Sem Unit)} {R:Fx→Fy→Prop} (ao:X.calm=true)
  (hi:PI X tg af wi) (hg:∀ s H fp,PG (Q9 X scope N s H fp) tg g) (hc:∀ s H fp,PTs (Q9 X scope N s H fp) az tc) (he:∀ s H fp,PE (Q9 X scope N s H fp) elt te)
  (hk:scope.kind=.function) (h1:scOk X scope=true) (h2:Qii X scope N js=true) (hs:∀ x,foldedSetIterable af X.env x=pure x) {aa:List (Fw×Obj)} {s:Fy} {σ:St} {H:Hp} {Q:VK} (I:Inv X aa σ H s) (h:Qpw wi js g tc te σ H Q)
  (gK:∀ (l C:Fw) (H':Hp) (s':Fy),(∃ m,s'.heap.Ns C m)→(∀ h',Heap.SameBut C s'.heap h'→Inv X aa σ H' { s' with heap:=h' })→Qgt X aa H' C→Q (.ref l) H'→compPost (model X.prog X.w) X.A X.xe use R (.ref l) C (.ok .next) s') :
  wpAny (model X.prog X.w) X.A (comprehension (.ListComp elt [⟨tg,af,az,0⟩] scope pos) scope X.env fX (newList []) false (firstIter [⟨tg,af,az,0⟩] X.env) use) R X.xe s:=by
 refine Zed (use:=use) rfl hs (Qky (scOk.cells I h1)) hk (fun x hx hl=>by rw [(scOk.get h1 hx).2,hl]) ?_
 refine thn (hi aa s σ H _ I h) fun v s1 cY=>thn cY fun fG s2 cC=>?_
 obtain ⟨it,fp,tn,J,H2,e,I2,T,bP,f2,q⟩:=cC
 subst e
 refine Zag ?_
 have hl:H2 s2.heap.objs.size=none:=I2.hok.fresh (Zi _)
 obtain ⟨W,⟨m0,w0⟩,turn⟩:=q _ hl
 have I3:Inv X aa σ (upd H2 s2.heap.objs.size (.lst [])) { s2 with heap:=s2.heap.push { cls:=.type "list",data:=.seq ([]:List Fx).toArray } }:=I2.lnew (t':=s2.toks) (ys:=[]) .nil (Zbb _)
 generalize hs3:({ s2 with heap:=s2.heap.push { cls:=.type "list",data:=.seq ([]:List Fx).toArray } }:Fy)=s3 at I3
 generalize hH3:upd H2 s2.heap.objs.size (.lst [])=H3 at I3 w0
 generalize ce:s2.heap.objs.size=l at turn hH3 hl
 have dU:∀ b o,s2.heap.get? b=some o→s3.heap.get? b=some o:=fun b o e=>by rw [←hs3];exact Zg _ e
 have fN:∀ b∈fp,∃ o,s3.heap.get? b=some o∧∀ v,o.data≠.cell v:=fun b hb=>by
  obtain ⟨o,e,d⟩:=T.obj _ _ bP b hb
  exact ⟨o,dU b o e,d⟩
 have f3:∀ b∈fp,Qgt X aa H3 b:=fun b hb=>by
  obtain ⟨o,e,d⟩:=T.obj _ _ bP b hb
  refine ⟨?_,(f2 b hb).2⟩
  rw [←hH3,Q3 (Zv (by rw [←ce];exact Zj e))]
  exact (f2 b hb).1
 refine Qjw ?_
 have I4:=Qpv (N:=N) (js:=js) I3 hk h1 h2 f3 fN
 have c5:tn 0 (pushCells (s3.heap.push { cls:=.type "dict",data:=.dict #[] }) scope.names):=T.keep _ _ _ bP fun b hb o e=>Zdi _ _ _ _ (Zg _ (dU b o e))
 have fK:∀ b∈fp,H3 b=none:=fun b hb=>(f3 b hb).1
 have cZ:∀ {H':Hp},(∀ b∈fp,H' b=none)→∀ b∈fp,Qgt (Q9 X scope N s3 H3 fp) [] H' b:=fun hn b hb=>by
  have ok:=I4.ok
  refine ⟨hn b hb,(ok.exf b hb).1,ok.exfs b hb,.inl hb,(ok.exf b hb).2,fun p hp=>absurd (show p∈([]:List (Fw×Obj)) from hp) (by simp)⟩
 -- the block's end
 have fin:∀ {σ':St} {H':Hp} {s':Fy},Inv (Q9 X scope N s3 H3 fp) [] σ' H' s'→Q (.ref l) H'→compPost (model X.prog X.w) X.A X.xe use R (.ref l) s3.heap.objs.size (.ok .next) s':=fun {σ' H' s'} I' q'=>by
  obtain ⟨m,hn,_⟩:=id I'.loc
  have b9:H' s3.heap.objs.size=none:=I'.free
  refine gK l _ H' s' ⟨m,hn⟩ (fun h' bU=>?_) (I3.fpOk (Zi _) b9) q'
  refine I3.call' (s':={ s' with heap:=h' }) (ch:=fp) I'.os ⟨fun b o e n hb hx=>?_,fun b o e n hb hx=>?_,I'.base.free,fun b o e hx=>?_,I'.base.tups,I'.base.frzs,I'.base.tbls⟩ (fun b u e=>?_) I'.bare (fun b hb=>⟨(f3 b hb).2.2.2.1,(f3 b hb).2.1,(f3 b hb).2.2.2.2.1,(f3 b hb).2.2.2.2.2⟩)
  ·exact (bU.2 b (Zv (Zj e))).trans (I'.base.keep b o e n hb hx)
  ·obtain ⟨sl,z⟩:=I'.base.slot b o e n hb hx
   exact ⟨sl,(bU.2 b (Zv (Zj e))).trans z⟩
  ·obtain ⟨o',z⟩:=I'.base.there b o e hx
   exact ⟨o',(bU.2 b (Zv (Zj e))).trans z⟩
  ·refine (I'.hok b u e).stay (fun c w' hc z=>(bU.2 c ?_).trans z) (fun _ z=>z) fun _ _ z=>z
   rintro rfl
   rcases hc with rfl | hc
   ·rw [b9] at e;cases e
   ·rw [b9] at hc;cases hc
 have aN:codeAny (model X.prog X.w) X.A (.compLoop (.ListComp elt [⟨tg,af,az,0⟩] scope pos) 0 (.ref it) (.ref l) (Q9 X scope N s3 H3 fp).env) (compPost (model X.prog X.w) X.A X.xe use R (.ref l) s3.heap.objs.size)
   { s3 with heap:=pushCells (s3.heap.push { cls:=.type "dict",data:=.dict #[] }) scope.names }:=by
  refine Qih (fun n s'=>∃ i ys σ' H',Inv (Q9 X scope N s3 H3 fp) [] σ' H' s'∧tn i s'.heap∧(∀ b∈fp,H' b=none)∧W i n ys σ' H') ?_ m0 ⟨0,[],Qfc js σ,H3,I4,c5,fK,w0⟩
  rintro n s5 ⟨i,ys,σ5,H5,I5,cz,dk,w5⟩
  rcases turn i n ys σ5 H5 w5 with ⟨stop,qn⟩ | ⟨go,step⟩
  ·refine thn (T.done (Q9 X scope N s3 H3 fp) rfl rfl rfl ao i [] s5 σ5 H5 _ I5 (cZ dk) cz stop) fun r s6 ⟨hr,I6⟩=>?_
   subst hr
   exact fin I6 qn
  ·refine thn (T.item (Q9 X scope N s3 H3 fp) rfl rfl rfl ao i [] s5 σ5 H5 _ I5 (cZ dk) cz go) fun r s6 ⟨u,hr,h6⟩=>?_
   subst hr
   refine thn h6 fun _ s7 ⟨x,H7,I7,r7,y7,st7,fr7⟩=>?_
   have I7':=I7.pinned (cZ fr7) (T.obj _ _ st7)
   have again:∀ {σ8:St} {H8:Hp} {s8:Fy} {db:List V},Inv (Q9 X scope N s3 H3 fp) ([]++Qje fp s7.heap) σ8 H8 s8→(∃ m',m'<n∧W (i+1) m' db σ8 H8) →
     ∃ m,m<n∧∃ i ys σ' H',Inv (Q9 X scope N s3 H3 fp) [] σ' H' s8∧tn i s8.heap∧(∀ b∈fp,H' b=none)∧W i m ys σ' H':=fun {σ8 H8 s8 db} I8 ⟨m',hm,w8⟩=>by
    refine ⟨m',hm,i+1,db,σ8,H8,I8.unpinned,T.keep _ _ _ st7 fun b hb o e=>(I8.pin (b,o) (Zw _ (Zw _ (Qci hb e)))).1,fun b hb=>?_,w8⟩
    obtain ⟨o,e,d⟩:=T.obj _ _ st7 b hb
    exact (I8.pin (b,o) (Zw _ (Zw _ (Qci hb e)))).2.1
   refine thn (hg s3 H3 fp _ s7 σ5 H7 x u _ I7' r7 (step x H7 y7)) fun _ s8 ⟨σ8,H8,I8,q8⟩=>?_
   refine thn (hc s3 H3 fp _ s8 σ8 H8 _ I8 q8) fun ok s9 ⟨H9,I9,q9⟩=>?_
   cases ok with
   | false =>
    rw [Zd Zk] at q9 ⊢
    exact again I9 q9
   | true =>
    rw [Zb rfl] at q9 ⊢
    refine thn (he s3 H3 fp _ s9 σ8 H9 _ I9 q9) fun y s10 ⟨vy,H10,I10,r10,a10,z10,q10⟩=>?_
    refine thn (Qjh (X:=Q9 X scope N s3 H3 fp) _ s10 σ8 H10 (.ref l) [vy] (.ref l) [y] (fun _ H'=>∃ m',m'<n∧W (i+1) m' (ys++[vy]) σ8 H') I10 rfl (.cons r10 .nil) ⟨l,ys,vy,rfl,rfl,a10,z10,q10⟩) fun _ s11 ⟨_,H11,I11,_,q11⟩=>?_
    exact again I11 q11
 first
  | exact Zce aN (T.self _ 0 _ _ _ c5 aN)
  | (rw [← hs3] at aN c5
     exact Zce aN (T.self _ 0 _ _ _ c5 aN))
theorem Qsl {X:Cx} {aH tg elt af:Fr} {az:List Fr} {scope:Scope} {pos aj:Pos} {N:List Str} {js:List (Option Nat)} {wi:TI} {g g2:TG} {tc:TT} {te:TE} (ao:X.calm=true)
  (hi:PI X tg af wi) (hg:∀ s H fp,PG (Q9 X scope N s H fp) tg g) (hc:∀ s H fp,PTs (Q9 X scope N s H fp) az tc) (he:∀ s H fp,PE (Q9 X scope N s H fp) elt te) (jc:PG X aH g2)
  (hk:scope.kind=.function) (h1:scOk X scope=true) (h2:Qii X scope N js=true) (hs:∀ x,foldedSetIterable af X.env x=pure x)
  (g4:swapsWithSole [aH] (.ListComp elt [⟨tg,af,az,0⟩] scope aj) pos.line X.env=pure true) (ha:(assignEach [aH] X.env).map (·.2)=[assign aH X.env]) :
  PS X (.Assign [aH] (.ListComp elt [⟨tg,af,az,0⟩] scope aj) pos) (Qh1 (Qpw wi js g tc te) g2):=by
 intro aa s σ H D I h
 rw [arm_exec_Assign]
 refine Zc (Zea ?_)
 rw [g4]
 refine Zc (Zs ?_)
 rw [Zb rfl]
 refine Zc ?_
 rw [arm_evalThenUse_ListComp,ha]
 refine Zc (Qsk (use:=some fun v=>assignAll v [assign aH X.env]) ao hi hg hc he hk h1 h2 hs I h fun l C H' s' bS gz h8 q=>?_)
 obtain ⟨m,o,es,ep,ho,hd,r⟩:=bS
 have J0:Inv X aa σ H' s':=gz s'.heap (Heap.SameBut.refl ..)
 have J1:=J0.pinned (fp:=[C]) (fun b hb=>by rw [Zx.mp hb];exact h8) (fun b hb=>by
  rw [Zx.mp hb]
  exact ⟨o,ho,fun v z=>by rw [hd] at z;cases z⟩)
 show wpAny _ _ (assign aH X.env (.ref l)) _ _ _
 refine thn (jc _ s' σ H' (.ref l) (.ref l) D.nx J1 rfl q) fun _ s2 ⟨σ2,H2,I2,q2⟩=>?_
 have hp:=I2.pin (C,o) (Zw _ (Zw _ (Qci (Zx.mpr rfl) ho)))
 refine ⟨m,⟨o,es,ep,hp.1,hd,r⟩,fun h' bU=>?_⟩
 have I3:=I2.unpinned.turnedL (h':=h') (t':=s2.toks) (fp:=[C]) (fun b o' hb e=>by
  rw [bU.2 b (fun z=>hb (by rw [z];exact Zx.mpr rfl))]
  exact e) (fun b hb=>by
  rw [Zx.mp hb]
  exact ⟨hp.2.1,h8.2⟩)
 exact Zs (Zs ⟨σ2,H2,I3,q2⟩)
def keyD:Key→PyData
 | .inl i=>.int i
 | .inr x=>.str x
mutual
def pyD:T→PyData
 | .non=>.none
 | .bl b=>.bool b
 | .int i=>.int i
 | .str x=>.str x
 | .tup ts=>.tuple (Qmj ts)
 | .lst ts=>.list (Qmj ts)
 | .dct ks ts=>.dict ((ks.map keyD).zip (Qmj ts))
 | .dtt _ _=>.none
 | .clo _ _=>.none
def Qmj:List T→List PyData
 | []=>[]
 | t::ts=>pyD t::Qmj ts
end
mutual
def Qeg:T→Bool
 | .tup ts=>Qk3 ts
 | .lst ts=>Qk3 ts
 | .dct _ _=>false
 | .clo _ _=>false
 | .dtt _ _=>false
 | _=>true
def Qk3:List T→Bool
 | []=>true
 | t::ts=>Qeg t&&Qk3 ts
end
mutual
theorem Qp6:∀ t:T,Qeg t=true→(pyD t).hasDict=false
 | .non,_=>by simp only [pyD,PyData.hasDict]
 | .bl _,_=>by simp only [pyD,PyData.hasDict]
 | .int _,_=>by simp only [pyD,PyData.hasDict]
 | .str _,_=>by simp only [pyD,PyData.hasDict]
 | .tup ts,h=>by simp only [pyD,PyData.hasDict];exact Qfv ts (by simpa only [Qeg] using h)
 | .lst ts,h=>by simp only [pyD,PyData.hasDict];exact Qfv ts (by simpa only [Qeg] using h)
 | .dct _ _,h=>by simp only [Qeg] at h;cases h
 | .clo _ _,h=>by simp only [Qeg] at h;cases h
 | .dtt _ _,h=>by simp only [Qeg] at h;cases h
theorem Qfv:∀ ts:List T,Qk3 ts=true→PyData.hasDictAll (Qmj ts)=false
 | [],_=>by simp only [Qmj,PyData.hasDictAll]
 | t::ts,h=>by
  simp only [Qk3,Zm] at h
  simp only [Qmj,PyData.hasDictAll,Qp6 t h.1,Qfv ts h.2,Bool.or_false]
end
section
variable {P:Fu} {w:Ft} {H:Hp} {h:Fq}
mutual
theorem Qyo (ok:HOk P w H h):∀ (t:T) {v:V} {u:Fx},Qeg t=true→Is H v t→RelV v u→∃ as,Reads h u (pyD t) as
 | .non,v,u,_,i,r=>by unfold Is at i;subst i;cases r;exact ⟨_,by unfold pyD;exact .none⟩
 | .bl b,v,u,_,i,r=>by unfold Is at i;subst i;cases r;exact ⟨_,by unfold pyD;exact .bool b⟩
 | .int n,v,u,_,i,r=>by unfold Is at i;subst i;obtain ⟨t,rfl⟩:=r;exact ⟨_,by unfold pyD;exact .int n t⟩
 | .str x,v,u,_,i,r=>by unfold Is at i;subst i;obtain ⟨t,rfl⟩:=r;exact ⟨_,by unfold pyD;exact .str x t⟩
 | .tup ts,v,u,f,i,r=>by
  obtain ⟨a,vs,rfl,ha,q⟩:=i.tup_inv
  cases r
  obtain ⟨_,ac,rv,o,e,c,n,d,_⟩:=(show ObjOk P w H h a (.tup vs) from ok a _ ha)
  obtain ⟨as,R⟩:=Qjk ok ts (by simpa only [Qeg] using f) q rv
  exact ⟨as,by unfold pyD;exact .tuple e c d (by simpa using R)⟩
 | .lst ts,v,u,f,i,r=>by
  obtain ⟨a,vs,rfl,ha,q⟩:=i.lst_inv
  cases r
  obtain ⟨_,ac,n,rv,e⟩:=(show ObjOk P w H h a (.lst vs) from ok a _ ha)
  obtain ⟨as,R⟩:=Qjk ok ts (by simpa only [Qeg] using f) q rv
  exact ⟨a::as,by unfold pyD;exact .list e rfl rfl (by simpa using R)⟩
 | .dct _ _,v,u,f,i,r=>by simp only [Qeg] at f;cases f
 | .clo _ _,v,u,f,i,r=>by simp only [Qeg] at f;cases f
 | .dtt _ _,v,u,f,i,r=>by simp only [Qeg] at f;cases f
theorem Qjk (ok:HOk P w H h):∀ (ts:List T) {vs:List V} {us:List Fx},Qk3 ts=true→IsL H vs ts→Vals vs us→∃ as,ReadsAll h us (Qmj ts) as
 | [],vs,us,_,i,r=>by
  rw [i.nil_inv] at r
  cases r
  exact ⟨_,by unfold Qmj;exact .nil⟩
 | t::ts,vs,us,f,i,r=>by
  obtain ⟨v,w',rfl,iv,iw⟩:=i.cons_inv
  simp only [Qk3,Zm] at f
  cases r with
  | cons r0 rr =>
   obtain ⟨as,R⟩:=Qyo ok t f.1 iv r0
   obtain ⟨bs,R2⟩:=Qjk ok ts f.2 iw rr
   exact ⟨_,by unfold Qmj;exact .cons R R2⟩
end
end
def isD:T→Bool
 | .dct [] []=>true
 | .dct [.inr _] [.int _]=>true
 | _=>false
def shOk (t:T):Bool:=(pyD t).showable&&decide ((pyD t).shown.length≤sizeLine)&&decide ((pyD t).depth≤40)&&(Qeg t||isD t)
section
variable {X:Cx}
end
structure ShD (c d:Nat) (t:T):Prop where
 b:(pyD t).bulk≤c
 l:(pyD t).leavesShort 32=true
 s:(pyD t).showable=true
 d:(pyD t).depth≤d
 f:Qeg t=true
namespace Z
section
variable {H:Hp} {S:Fw→Prop} {x y:V} {Q:VK} {K:Fz}
variable {r:Nat}
end
end Z
end L2
namespace PySem
open Sem (wp)
open AutoSeq1 (wpAny_loadPart')
section
variable {prog:Fu} {w:Ft} {A:Fv} {E:Fx→Fy→Prop} {s:Fy}
theorem wpAny_collect_range {Q:List Fx→Fy→Prop} {r:Fw} {a b c:Int} {t u v:Tok} {n:Nat} (hh:A.handled=none) (hr:IsRange s.heap r a b c t u v) (aS:Builtin.Range.small a b c=true)
  (hn:Builtin.Range.rangeSize a b c=n) (ah:n≤2^24)
  (hQ:∀ h' tk acc,(∀ b o',s.heap.get? b=some o'→h'.get? b=some o')→ItemsOf (fun i v=>∃ t,v=.int (a+i*c) t) acc n→Q acc.toList { s with heap:=h',toks:=tk }) :
  wpAny (model prog w) A (collect (.ref r)) Q E s:=by
 unfold collect
 refine Zc (wpAny_runValue (codeAny_builtin F.entry_proto_collect ?_))
 rw [Around.under_plainId F.plain_proto_collect _]
 show wpAny _ A.in1 (newList [] >>= fun l=>again (.builtin "list.__iadd__" ⟨[l,.ref r],[]⟩)) _ _ s
 refine Zc (Zag ?_)
 refine Zs ⟨plainId_quiet F.plain_list_iadd _,codeAny_builtin F.entry_list_iadd ?_⟩
 rw [Around.under_plainId F.plain_list_iadd _]
 show wpAny _ A.in1 (Builtin.List.listExtendWith (.ref s.heap.objs.size) (.ref r) (.ref s.heap.objs.size)) _ _ _
 have hS:(s.heap.push { cls:=.type "list",data:=.seq ([]:List Fx).toArray }).get? s.heap.objs.size=some { cls:=.type "list",data:=.seq #[] 0 }:=Zt _ rfl
 refine Zbl (wpAny_extend_range (A:=A) (R:=fun q s'=>q=.ok (.ret (.ref s.heap.objs.size))∧∃ h' tk acc c',s'={ s with heap:=h',toks:=tk }∧(∀ b o,s.heap.get? b=some o→h'.get? b=some o)∧h'.get? s.heap.objs.size=some { cls:=.type "list",dict:=none,data:=.seq acc c',slots:=#[] }∧ItemsOf (fun i v=>∃ t,v=.int (a+i*c) t) acc n)
  (s:={ s with heap:=s.heap.push { cls:=.type "list",data:=.seq ([]:List Fx).toArray } }) hh (Zg _ hr) aS hn ah _ (.ref s.heap.objs.size) 0 hS
  fun h' tk c6 c' hk bZ a8=>⟨rfl,h',tk,c6,c',rfl,fun b o e=>hk b o (Zv (Zj e)) (Zg _ e),bZ,a8⟩) (fun fin s' h=>?_) (fun e s' h=>?_)
 ·have e7 : ∀ h' tk acc c', (∀ b o, s.heap.get? b = some o → h'.get? b = some o) → h'.get? s.heap.objs.size = some { cls := .type "list", dict := none, data := .seq acc c', slots := #[] } → ItemsOf (fun i v => ∃ t, v = .int (a + i * c) t) acc n → wpAny (model prog w) A (match Value.ref s.heap.objs.size with
    | Value.ref a=>do
     match (← load a).data with
      | Data.seq xs _=>pure xs.toList
      | _=>unsupported "internal:collect"
    | _=>unsupported "internal:collect") Q E { s with heap:=h',toks:=tk }:=fun h' tk acc c' hk bZ a8=>by
   show wpAny _ A (load s.heap.objs.size >>= _) _ _ _
   refine Zc (wpAny_load bZ ?_)
   exact Zs (hQ h' tk acc hk a8)
  cases fin with
  | done f =>
   obtain ⟨e,h',tk,acc,c',rfl,hk,bZ,a8⟩:=h
   cases e
   exact e7 h' tk acc c' hk bZ a8
  | again c'=>exact ⟨h.1,Zdo h.2 fun q dy hq=>by obtain ⟨rfl,h',tk,acc,c',rfl,hk,bZ,a8⟩:=hq;exact e7 h' tk acc c' hk bZ a8⟩
 ·exact absurd h.1 (by simp)
end
theorem meets_tuple_new_range {r:Fw} {a b c:Int} {t u v:Tok} {n:Nat} (aS:Builtin.Range.small a b c=true) (hn:Builtin.Range.rangeSize a b c=n) (ah:n≤2^24) (hz:n≤sizeLine) :
  Meets (Builtin.«tuple.__new__» ⟨[.type "tuple",.ref r],[]⟩)
   (fun A R s=>A.handled=none∧IsRange s.heap r a b c t u v∧∀ (h':Fq) (tk:Nat) (acc:Array Fx),(∀ b o',s.heap.get? b=some o'→h'.get? b=some o')→ItemsOf (fun i v=>∃ t,v=.int (a+i*c) t) acc n→R (.ok (.ret (.ref h'.objs.size))) { s with heap:=h'.push { cls:=.type "tuple",data:=.seq acc },toks:=tk }) :=
 .of_wp fun prog w A R s h=>by
  obtain ⟨hp,g,d,tk,os⟩:=s;obtain ⟨hh,ht,h⟩:=h
  have gC:=sub_tuple_self
  have hV:=init_tuple_lookup
  have kl:=madeHere_tuple
  have hT:Shared.TypeIs ⟨hp,g,d,tk,os⟩ (.ref r) "range" := ⟨_,ht,rfl⟩
  wp_walk using wpAny_loadPart' ht,Zej hT,wpAny_collect_range (A:=A.in1) hh ht aS hn ah
  intro h' jk acc hk a8
  show wpAny _ _ (Builtin.Tuple.tupleExact acc.toList.toArray >>= fun v=>ret v) _ _ _
  unfold Builtin.Tuple.tupleExact
  refine Zc (Zag ?_ (by show acc.toList.toArray.size≤sizeLine;simp only [Array.toArray_toList];rw [a8.1];exact hz))
  refine Zs ⟨_,rfl,?_⟩
  have e:acc.toList.toArray=acc:=by simp
  rw [e]
  exact h h' jk acc hk a8
theorem call_tuple_range {prog:Fu} {w:Ft} {A:Fv} {E:Fx→Fy→Prop} {s:Fy} {Q:Fx→Fy→Prop} {r:Fw} {a b c:Int} {t u v:Tok} {n:Nat} (hh:A.handled=none) (hr:IsRange s.heap r a b c t u v) (aS:Builtin.Range.small a b c=true) (hn:Builtin.Range.rangeSize a b c=n) (ah:n≤2^24) (hz:n≤sizeLine)
  (h:∀ (h':Fq) (tk:Nat) (acc:Array Fx),(∀ b o',s.heap.get? b=some o'→h'.get? b=some o')→ItemsOf (fun i v=>∃ t,v=.int (a+i*c) t) acc n→Q (.ref h'.objs.size) { s with heap:=h'.push { cls:=.type "tuple",data:=.seq acc },toks:=tk }) :
  wpAny (model prog w) A (call (.type "tuple") [.ref r]) Q E s :=
 callType_new F.called_tuple (by decide) (F.typeCall_tuple_1 _) (F.newCall_tuple_1 _) (fun obj=>F.args_object_init_2 obj _) F.entry_tuple_new
  (meets_tuple_new_range aS hn ah hz) ⟨hh,hr,fun h' tk acc hk a8=>⟨⟨_,Zt _ rfl,rfl⟩,h h' tk acc hk a8⟩⟩
end PySem
namespace L2
open PySem PySem.Spec PyProof.Rows
section
variable {X:Cx}
theorem Qp7:∀ {xs:List V} {us:List Fx},xs.length=us.length→(∀ (j:Nat) x u,xs[j]?=some x→us[j]?=some u→RelV x u)→Vals xs us
 | [],[],_,_=>.nil
 | [],_::_,h,_=>by cases h
 | _::_,[],h,_=>by cases h
 | x::xs,u::us,h,g=>.cons (g 0 x u rfl rfl) (Qp7 (by simpa using h) fun j a b e1 e2=>g (j+1) a b (by rw [Zl];exact e1) (by rw [Zl];exact e2))
theorem Qk4 {lo:Int} {n:Nat} {acc:Array Fx} (h:ItemsOf (fun i v=>∃ t,v=Value.int (lo+i*1) t) acc n):Vals (Qkc lo n) acc.toList:=by
 refine Qp7 (by rw [Qij,Zz,h.1]) fun j x u e1 e2=>?_
 obtain ⟨_,rfl⟩:=Qx5 e1
 obtain ⟨t,rfl⟩:=h.2 j u (by simpa using e2)
 exact ⟨t,by simp⟩
def Q24:List V→Hp→VK→Prop:=fun xs H Q=>∃ j:Int,xs=[.int j]∧∀ p,H p=none→Q (.ref p) (upd H p (.rng 0 j))
theorem Qp8:QCl X (.type "range") Q24:=⟨by
 intro aa s σ H xs us Q I r h
 obtain ⟨j,rfl,q⟩:=h
 obtain ⟨u,rfl,⟨t,rfl⟩⟩:=Qgk r
 refine call_range_1 ⟨.ref s.heap.objs.size,_,I.laid (o:=.rng 0 j) (fun b o e=>Zg _ e) (Zi _) ?_,rfl,q _ I.fresh⟩
 exact ⟨_,_,_,Zt _ rfl⟩⟩
def Qab4:List V→Hp→VK→Prop:=fun xs H Q=>∃ (p:Fw) (lo hi:Int),xs=[.ref p]∧H p=some (.rng lo hi)∧(-(2^62)≤lo∧lo<2^62 ∧ -(2^62)≤hi∧hi<2^62)∧(hi-lo).toNat≤100000∧∀ l,H l=none→Q (.ref l) (upd H l (.tup (Qkc lo (hi-lo).toNat)))
def Qab5:List V→Hp→VK→Prop:=fun xs H Q=>∃ (p:Fw) (lo hi:Int),xs=[.ref p]∧H p=some (.rng lo hi)∧(-(2^62)≤lo∧lo<2^62 ∧ -(2^62)≤hi∧hi<2^62)∧(hi-lo).toNat≤100000∧∀ l,H l=none→Q (.ref l) (upd H l (.lst (Qkc lo (hi-lo).toNat)))
theorem Q8g (hc:X.calm=true:=by rfl):QCl X (.type "tuple") Qab4:=⟨by
 intro aa s σ H xs us Q I r h
 obtain ⟨p,lo,hi,rfl,hp,⟨h1,h2,h3,h4⟩,hz,q⟩:=h
 obtain ⟨u,rfl,rx⟩:=Qgk r
 cases rx
 obtain ⟨t,u,v,e⟩:=(show ObjOk X.prog X.w H s.heap p (.rng lo hi) from I.hok p _ hp)
 have aE:(hi-lo).toNat≤sizeLine:=Qbo hz
 refine call_tuple_range (n:=(hi-lo).toNat) (I.ok.hd hc) e (small_one h1 h2 h3 h4) (by rw [Ze2];split <;> omega) (by omega) aE fun h' tk acc hk a8=>?_
 have I1:Inv X aa σ H { s with heap:=h' }:=I.kept (t':=s.toks) hk
 have I2:Inv X aa σ (upd H h'.objs.size (.tup (Qkc lo (hi-lo).toNat))) { s with heap:=h'.push { cls:=.type "tuple",data:=.seq acc },toks:=tk } :=
  I1.laid (t':=tk) (fun b o e=>Zg _ e) (Zi _) (show ObjOk X.prog X.w _ _ _ (.tup (Qkc lo (hi-lo).toNat)) from ⟨by rw [Qij];exact aE,acc.toList,Qk4 a8,by have:=IsTupD.new h' acc;simpa using this⟩)
 exact ⟨.ref h'.objs.size,_,I2,rfl,q _ (I1.hok.fresh (Zi _))⟩⟩
theorem Q8h (hc:X.calm=true:=by rfl):QCl X (.type "list") Qab5:=⟨by
 intro aa s σ H xs us Q I r h
 obtain ⟨p,lo,hi,rfl,hp,⟨h1,h2,h3,h4⟩,hz,q⟩:=h
 obtain ⟨u,rfl,rx⟩:=Qgk r
 cases rx
 obtain ⟨t,u,v,e⟩:=(show ObjOk X.prog X.w H s.heap p (.rng lo hi) from I.hok p _ hp)
 have aE:(hi-lo).toNat≤sizeLine:=Qbo hz
 refine call_list_range (n:=(hi-lo).toNat) (I.ok.hd hc) e (small_one h1 h2 h3 h4) (by rw [Ze2];split <;> omega) (by omega) fun h' tk acc c' hk hS a8=>?_
 exact ⟨.ref s.heap.objs.size,_,I.laid (t':=tk) hk (Zi _) (show ObjOk X.prog X.w _ h' _ (.lst (Qkc lo (hi-lo).toNat)) from ⟨by rw [Qij];exact aE,acc.toList,c',Qk4 a8,by simpa using hS⟩),rfl,q _ (I.hok.fresh (Zi _))⟩⟩
end
end L2
namespace L2
open PySem PySem.Spec PyProof.Rows PySem.W PySem.Calls
def Qa5 {α:Type} (lt:Nat→Nat→Bool):KasT α→α
 | .ret a=>a
 | .ask i j k=>Qa5 lt (k (lt i j))
def OkK {α:Type} (n:Nat) (P:α→Prop):KasT α→Prop
 | .ret a=>P a
 | .ask i j k=>i<n∧j<n∧∀ b,OkK n P (k b)
theorem OkK.bind {α β:Type} {n:Nat} {P:α→Prop} {P':β→Prop} {f:α→KasT β} (hf:∀ a,P a→OkK n P' (f a)):∀ {t:KasT α},OkK n P t→OkK n P' (t.bind f)
 | .ret a,h=>hf a h
 | .ask i j k,h=>⟨h.1,h.2.1,fun b=>OkK.bind hf (h.2.2 b)⟩
theorem OkK.bd {α β:Type} {n:Nat} {P:α→Prop} {P':β→Prop} {t:KasT α} {f:α→KasT β} (h:OkK n P t) (hf:∀ a,P a→OkK n P' (f a)):OkK n P' (t.bind f):=OkK.bind hf h
theorem Qub {α:Type} {n:Nat} {P:α→Prop} {cmp:Nat→Nat→(Bool→Fy→Prop)→Fy→Prop} {lt:Nat→Nat→Bool} {s:Fy} (h:∀ i j C,i<n→j<n→C (lt i j) s→cmp i j C s) :
  ∀ (t:KasT α) {Q:α→Fy→Prop},OkK n P t→(P (Qa5 lt t)→Q (Qa5 lt t) s)→t.kasWp cmp Q s
 | .ret a,Q,o,q=>q o
 | .ask i j k,Q,o,q=>h i j _ o.1 o.2.1 (Qub h (k (lt i j)) (o.2.2 _) q)
theorem Qob {α:Type} {n:Nat} {P:α→Prop} (lt:Nat→Nat→Bool):∀ (t:KasT α),OkK n P t→P (Qa5 lt t)
 | .ret a,o=>o
 | .ask i j k,o=>Qob lt (k (lt i j)) (o.2.2 _)
def Bd (n:Nat) (p:Array Nat):Prop:=0<n∧(∀ x∈p,x<n)∧p.size=n
theorem Bd.at {n:Nat} {p:Array Nat} (h:Bd n p) (k:Nat):p.getD k 0<n:=by
 unfold Array.getD
 split
 ·exact h.2.1 _ (Array.getElem_mem _)
 ·exact h.1
theorem Bd.perm {n:Nat} {p q:Array Nat} (h:Bd n p) (e:q.Perm p):Bd n q:=⟨h.1,fun x hx=>h.2.1 x (e.mem_iff.mp hx),e.size_eq.trans h.2.2⟩
theorem Bd.rev {n:Nat} {p:Array Nat} (h:Bd n p) (i j:Nat):Bd n (kas_rev p i j):=h.perm (mirror_perm _ _ _ _)
theorem Bd.bub {n:Nat} {p:Array Nat} (h:Bd n p) (i j:Nat):Bd n (bubble p i j):=h.perm (bubble_perm _ _ _)
theorem Qeh {α:Type} {n:Nat} {P:α→Prop} {c:Prop} [Decidable c] {t u:KasT α} (h1:OkK n P t) (h2:OkK n P u):OkK n P (if c then t else u):=by split <;> assumption
theorem Qsm {n:Nat} {p:Array Nat} (h:Bd n p):∀ (f k:Nat),OkK n (fun _=>True) (kas_asc p f k)
 | 0,_=>trivial
 | f+1,k=>⟨h.at _,h.at _,fun b=>Qeh trivial (Qsm h f (k+1))⟩
theorem Qkh {n:Nat}:∀ (f:Nat) {p:Array Nat} (k q:Nat),Bd n p→OkK n (fun r=>Bd n r.1) (kas_desc f p k q)
 | 0,_,_,_,h=>h
 | f+1,p,k,q,h=>⟨h.at _,h.at _,fun b=>Qeh (Qeh (Qkh f _ _ (h.rev _ _)) (Qkh f _ _ h)) ⟨h.at _,h.at _,fun d=>Qeh h (Qkh f _ _ h)⟩⟩
theorem Qp9 {n:Nat} {p:Array Nat} (h:Bd n p) (k m:Nat):OkK n (fun r=>Bd n r.2) (kas_tail3 k m p):=by
 unfold kas_tail3
 exact (Qsm (h.rev _ _) _ _).bd fun _ _=>h.rev _ _
theorem Qjx {n:Nat} {p:Array Nat} (h:Bd n p) (k m:Nat):OkK n (fun r=>Bd n r.2) (kas_descPart k m p):=by
 unfold kas_descPart
 exact (Qkh _ _ _ h).bd fun r hr=>Qeh (Qp9 (Bd.rev hr _ _) _ _) (Qp9 hr _ _)
theorem Qyp {n:Nat} {p:Array Nat} (h:Bd n p) (m:Nat):OkK n (fun r=>Bd n r.2) (kas_count m p):=by
 unfold kas_count
 exact (Qsm h _ _).bd fun k _=>Qeh (show OkK n _ (KasT.ret _) from h) (Qeh ⟨h.at _,h.at _,fun b=>Qeh (show OkK n _ (KasT.ret _) from h) (Qjx (h.rev _ _) _ _)⟩ (Qjx h _ _))
theorem Qk5 {n:Nat} {p:Array Nat} (h:Bd n p) (k:Nat):∀ (f l r:Nat),OkK n (fun _=>True) (kas_place p k f l r)
 | 0,_,_=>trivial
 | f+1,l,r=>Qeh (c:=l≥r) trivial ⟨h.at _,h.at _,fun b=>Qeh (Qk5 h k f _ _) (Qk5 h k f _ _)⟩
theorem Qyq {n:Nat}:∀ (f:Nat) {p:Array Nat} (k:Nat),Bd n p→OkK n (Bd n) (kas_bin f p k)
 | 0,_,_,h=>h
 | f+1,p,k,h=>OkK.bind (P:=fun _=>True) (fun l _=>Qyq f _ (h.bub _ _)) (Qk5 h k _ _ _)
theorem Qoc {n:Nat} (h:0<n):OkK n (Bd n) (kas_sort n):=by
 unfold kas_sort
 exact (Qyp (n:=n) (p:=(List.range n).toArray) ⟨h,fun x hx=>by simpa using hx,by simp⟩ n).bd fun r hr=>Qeh (Qyq _ _ hr) (show OkK n _ (KasT.ret _) from hr)
def Qfw (n:Nat) (lt:Nat→Nat→Bool):List Nat:=if n<2 then List.range n else (Qa5 lt (kas_sort n)).toList
theorem Qod {n:Nat} (lt:Nat→Nat→Bool):∀ i∈Qfw n lt,i<n:=fun i hi=>by
 unfold Qfw at hi
 split at hi
 ·exact Zab.mp hi
 ·exact (Qob lt _ (Qoc (n:=n) (by omega))).2.1 i (by simpa using hi)
theorem Qqa (n:Nat) (lt:Nat→Nat→Bool):(Qfw n lt).length=n:=by
 unfold Qfw
 split
 ·exact Zac
 ·rw [Zz];exact (Qob lt _ (Qoc (n:=n) (by omega))).2.2
def Qdd {α:Type} (vs:List α) (d:α) (is:List Nat):List α:=is.map fun i=>vs.getD i d
abbrev ltK (ks:List (List Int)):Nat→Nat→Bool:=fun i j=>HT.lexLt (ks.getD i []) (ks.getD j [])
def Qdo (ks:List (List Int)):List (List Int):=Qdd ks [] (Qfw ks.length (ltK ks))
def Q5h (_:List (List Int)):Bool:=true
end L2
namespace L2
open PySem PySem.Spec PyProof.Rows PySem.W PySem.Calls
structure OrdN (lt:Nat→Nat→Bool) (n:Nat):Prop where
 tr:∀ a b c,a<n→b<n→c<n→lt a b=true→lt b c=true→lt a c=true
 tot:∀ a b,a<n→b<n→a≠b→lt a b=true∨lt b a=true
 as:∀ a b,a<n→b<n→lt a b=true→lt b a=false
theorem Qee {lt:Nat→Nat→Bool} {α β:Type} (f:α→KasT β):∀ t:KasT α,Qa5 lt (t.bind f)=Qa5 lt (f (Qa5 lt t))
 | .ret a=>rfl
 | .ask i j k=>Qee f (k (lt i j))
abbrev gN (p:Array Nat) (i:Nat):Nat:=p.getD i 0
theorem Qe5 (p:Array Nat) (i:Nat):gN p i=p[i]?.getD 0:=by rw [←Array.getD_eq_getD_getElem?]
theorem Qyr {p:Array Nat} {cc d:Nat} (hs:cc<p.size) (hd:d≤cc) (k:Nat):gN (bubble p cc d) k=if k=cc-d then gN p cc else if cc-d<k∧k≤cc then gN p (k-1) else gN p k:=by
 rw [Qe5,getElem?_bubble hs d hd k]
 by_cases h1:k=cc-d
 ·rw [Zb h1,Zb h1,Qe5]
 ·rw [Zd h1,Zd h1]
  by_cases h2:cc-d<k∧k≤cc
  ·rw [Zb h2,Zb h2,Qe5]
  ·rw [Zd h2,Zd h2,Qe5]
theorem Qys {p:Array Nat} {n:Nat} (hn:n≤p.size) (k:Nat):gN (kas_rev p 0 n) k=if k<n then gN p (n-1-k) else gN p k:=by
 unfold kas_rev
 rw [Qe5,getElem?_mirror_all hn k]
 by_cases h:k<n
 ·rw [Zb ⟨Zbb _,h⟩,Zb h,Qe5,Zae]
 ·rw [Zd (fun z=>h z.2),Zd h,Qe5]
def Pm (n:Nat) (p:Array Nat):Prop:=p.toList.Perm (List.range n)
theorem Pm.size {n:Nat} {p:Array Nat} (h:Pm n p):p.size=n:=by
 have:=h.length_eq
 rwa [Zz,Zac] at this
theorem Pm.lt {n:Nat} {p:Array Nat} (h:Pm n p) {i:Nat} (hi:i<n):gN p i<n:=by
 have cD:i<p.toList.length:=by rw [Zz,h.size];exact hi
 have e:gN p i=p.toList[i]:=by rw [Qe5,←Zc6,Za cD];rfl
 rw [e]
 exact Zab.mp (h.mem_iff.mp (Zcw cD))
theorem Pm.ne {n:Nat} {p:Array Nat} (h:Pm n p) {i j:Nat} (cQ:i<j) (hj:j<n):gN p i≠gN p j:=by
 have nd:p.toList.Nodup:=h.nodup_iff.mpr List.nodup_range
 have dY:j<p.toList.length:=by rw [Zz,h.size];exact hj
 have e:∀ k (hk:k<p.toList.length),gN p k=p.toList[k]:=fun k hk=>by rw [Qe5,←Zc6,Za hk];rfl
 rw [e i (by omega),e j dY]
 exact (Zbs.mp nd) i j (by omega) dY cQ
theorem Pm.perm {n:Nat} {p q:Array Nat} (h:Pm n p) (e:q.Perm p):Pm n q:=(Array.perm_iff_toList_perm.mp e).trans h
theorem Pm.rev {n:Nat} {p:Array Nat} (h:Pm n p) (i j:Nat):Pm n (kas_rev p i j):=h.perm (mirror_perm _ _ _ _)
theorem Pm.bub {n:Nat} {p:Array Nat} (h:Pm n p) (i j:Nat):Pm n (bubble p i j):=h.perm (bubble_perm _ _ _)
section
variable {lt:Nat→Nat→Bool} {N:Nat} (o:OrdN lt N)
def SPk (lt:Nat→Nat→Bool) (p:Array Nat) (k:Nat):Prop:=∀ a b,a<b→b<k→lt (gN p a) (gN p b)=true
include o
theorem Qyt {p:Array Nat} (h:Pm N p) {k:Nat} (hk:k≤N) (ha:∀ i,1≤i→i<k→lt (gN p (i-1)) (gN p i)=true):SPk lt p k:=by
 intro a b bx
 induction b with
 | zero=>omega
 | succ b ih =>
  intro hb
  have s:=ha (b+1) (by omega) hb
  rw [Nat.add_sub_cancel] at s
  by_cases e:a=b
  ·subst e;exact s
  ·exact o.tr _ _ _ (h.lt (by omega)) (h.lt (by omega)) (h.lt (by omega)) (ih (by omega) (by omega)) s
theorem Qoe {p:Array Nat} (h:Pm N p):∀ (f n:Nat),1≤n→n+f≤N→n≤Qa5 lt (kas_asc p f n)∧Qa5 lt (kas_asc p f n)≤n+f∧(∀ i,n≤i→i<Qa5 lt (kas_asc p f n)→lt (gN p (i-1)) (gN p i)=true) ∧
  (Qa5 lt (kas_asc p f n)<n+f→lt (gN p (Qa5 lt (kas_asc p f n))) (gN p (Qa5 lt (kas_asc p f n)-1))=true)
 | 0,n,_,_=>⟨Zi _,Zi _,fun i h1 h2=>absurd (show i<n from h2) (by omega),fun z=>absurd (show n<n+0 from z) (by omega)⟩
 | f+1,n,h1,hn=>by
  show n≤Qa5 lt (if lt (gN p n) (gN p (n-1))=true then .ret n else kas_asc p f (n+1))∧Qa5 lt (if lt (gN p n) (gN p (n-1))=true then .ret n else kas_asc p f (n+1))≤n+(f+1)∧(∀ i,n≤i→i<Qa5 lt (if lt (gN p n) (gN p (n-1))=true then .ret n else kas_asc p f (n+1))→lt (gN p (i-1)) (gN p i)=true) ∧
   (Qa5 lt (if lt (gN p n) (gN p (n-1))=true then .ret n else kas_asc p f (n+1))<n+(f+1)→lt (gN p (Qa5 lt (if lt (gN p n) (gN p (n-1))=true then .ret n else kas_asc p f (n+1)))) (gN p (Qa5 lt (if lt (gN p n) (gN p (n-1))=true then .ret n else kas_asc p f (n+1))-1))=true)
  by_cases c:lt (gN p n) (gN p (n-1))=true
  ·rw [Zb c]
   exact ⟨Zi _,by show n≤_;omega,fun i h1 h2=>absurd (show i<n from h2) (by omega),fun _=>c⟩
  ·rw [Zd c]
   obtain ⟨a1,a2,a3,a4⟩:=Qoe h f (n+1) (by omega) (by omega)
   refine ⟨by omega,by omega,fun i i1 i2=>?_,fun z=>a4 (by omega)⟩
   by_cases e:i=n
   ·subst e
    rcases o.tot _ _ (h.lt (show i-1<N by omega)) (h.lt (show i<N by omega)) (h.ne (by omega) (by omega)) with z | z
    ·exact z
    ·exact absurd z c
   ·exact a3 i (by omega) i2
theorem Qqb {p:Array Nat} (h:Pm N p):∀ (f n:Nat),1≤n→n+f≤N→∃ m,Qa5 lt (kas_desc f p n 0)=(p,m,0)∧n≤m∧m≤n+f∧∀ i,n≤i→i<m→lt (gN p i) (gN p (i-1))=true
 | 0,n,_,_=>⟨n,rfl,Zi _,Zi _,fun i h1 h2=>absurd h2 (by omega)⟩
 | f+1,n,h1,hn=>by
  by_cases c:lt (gN p n) (gN p (n-1))=true
  ·obtain ⟨m,e,a1,a2,a3⟩:=Qqb h f (n+1) (by omega) (by omega)
   refine ⟨m,?_,by omega,by omega,fun i i1 i2=>?_⟩
   ·show Qa5 lt (if lt (gN p n) (gN p (n-1))=true then (if 0>0 then _ else kas_desc f p (n+1) 0) else _)=_
    rw [Zb c,Zd (by omega)]
    exact e
   ·by_cases e:i=n
    ·subst e;exact c
    ·exact a3 i (by omega) i2
  ·refine ⟨n,?_,Zi _,by omega,fun i i1 i2=>absurd i2 (by omega)⟩
   have d:lt (gN p (n-1)) (gN p n)=true:=by
    rcases o.tot _ _ (h.lt (show n-1<N by omega)) (h.lt (show n<N by omega)) (h.ne (by omega) (by omega)) with z | z
    ·exact z
    ·exact absurd z c
   show Qa5 lt (if lt (gN p n) (gN p (n-1))=true then _ else KasT.ask (gN p (n-1)) (gN p n) fun d=>if d=true then .ret (p,n,0) else _)=_
   rw [Zd c]
   show Qa5 lt (if lt (gN p (n-1)) (gN p n)=true then .ret (p,n,0) else _)=_
   rw [Zb d]
   rfl
theorem Qyu {p:Array Nat} (h:Pm N p) {n:Nat} (h1:1≤n) (hn:n≤N) (hd:∀ i,1≤i→i<n→lt (gN p i) (gN p (i-1))=true):∃ m q,Qa5 lt (kas_tail3 n N p)=(m,q)∧Pm N q∧1≤m∧m≤N∧SPk lt q m:=by
 have hq:=h.rev 0 n
 obtain ⟨a1,a2,a3,_⟩:=Qoe o hq (N-n) n h1 (by omega)
 refine ⟨Qa5 lt (kas_asc (kas_rev p 0 n) (N-n) n),kas_rev p 0 n,?_,hq,by omega,by omega,Qyt o hq (by omega) fun i i1 i2=>?_⟩
 ·unfold kas_tail3
  rw [Qee]
  rfl
 ·by_cases c:n≤i
  ·exact a3 i c i2
  ·rw [Qys (by rw [h.size];exact hn),Qys (by rw [h.size];exact hn),Zb (by omega),Zb (by omega)]
   have:=hd (n-i) (by omega) (by omega)
   rwa [show n-i=n-1-(i-1) by omega,show n-1-(i-1)-1=n-1-i by omega] at this
theorem Qwj {p:Array Nat} (h:Pm N p) (h1:1≤N):∃ m q,Qa5 lt (kas_count N p)=(m,q)∧Pm N q∧1≤m∧m≤N∧SPk lt q m:=by
 obtain ⟨a1,a2,a3,a4⟩:=Qoe o h (N-1) 1 (Zi _) (by omega)
 unfold kas_count
 rw [Qee]
 generalize Qa5 lt (kas_asc p (N-1) 1)=n at a1 a2 a3 a4 ⊢
 have sp:SPk lt p n:=Qyt o h (by omega) a3
 by_cases c:n=N
 ·rw [Zb (by simpa using c)]
  exact ⟨n,p,rfl,h,a1,by omega,sp⟩
 ·rw [Zd (by simpa using c)]
  by_cases c2:n>1
  ·rw [Zb c2]
   refine ⟨n,p,?_,h,a1,by omega,sp⟩
   show Qa5 lt (if lt (gN p 0) (gN p (n-1))=true then .ret (n,p) else _)=_
   rw [Zb (sp 0 (n-1) (by omega) (by omega))]
   rfl
  ·rw [Zd c2]
   have e:n=1:=by omega
   subst e
   have d1:=a4 (by omega)
   unfold kas_descPart
   rw [Qee]
   obtain ⟨m,e,b1,b2,b3⟩:=Qqb o h (N-(1+1)) (1+1) (by omega) (by omega)
   rw [e]
   dsimp only
   rw [Zd (by omega)]
   exact Qyu o h (by omega) (by omega) fun i i1 i2=>by
    by_cases e:i=1
    ·subst e;exact d1
    ·exact b3 i (by omega) i2
theorem Qjl {p:Array Nat} (h:Pm N p) {k:Nat} (hk:k<N) (sp:SPk lt p k):∀ (f l r:Nat),l≤r→r≤k→r-l≤f→(∀ i,i<l→lt (gN p i) (gN p k)=true)→(∀ i,r≤i→i<k→lt (gN p k) (gN p i)=true) →
  Qa5 lt (kas_place p k f l r)≤k∧(∀ i,i<Qa5 lt (kas_place p k f l r)→lt (gN p i) (gN p k)=true)∧∀ i,Qa5 lt (kas_place p k f l r)≤i→i<k→lt (gN p k) (gN p i)=true
 | 0,l,r,h1,h2,h3,ha,hb=>⟨show l≤k by omega,ha,fun i i1 i2=>hb i (by have:l≤i:=i1;omega) i2⟩
 | f+1,l,r,h1,h2,h3,ha,hb=>by
  show Qa5 lt (if l≥r then KasT.ret l else .ask (gN p k) (gN p ((l+r) / 2)) fun c=>if c=true then kas_place p k f l ((l+r) / 2) else kas_place p k f ((l+r) / 2+1) r)≤k∧(∀ i,i<Qa5 lt (if l≥r then KasT.ret l else .ask (gN p k) (gN p ((l+r) / 2)) fun c=>if c=true then kas_place p k f l ((l+r) / 2) else kas_place p k f ((l+r) / 2+1) r)→lt (gN p i) (gN p k)=true)∧∀ i,Qa5 lt (if l≥r then KasT.ret l else .ask (gN p k) (gN p ((l+r) / 2)) fun c=>if c=true then kas_place p k f l ((l+r) / 2) else kas_place p k f ((l+r) / 2+1) r)≤i→i<k→lt (gN p k) (gN p i)=true
  by_cases c:l≥r
  ·rw [Zb c]
   exact ⟨show l≤k by omega,ha,fun i i1 i2=>hb i (by have:l≤i:=i1;omega) i2⟩
  ·rw [Zd c]
   show Qa5 lt (if lt (gN p k) (gN p ((l+r) / 2))=true then kas_place p k f l ((l+r) / 2) else kas_place p k f ((l+r) / 2+1) r)≤k∧(∀ i,i<Qa5 lt (if lt (gN p k) (gN p ((l+r) / 2))=true then kas_place p k f l ((l+r) / 2) else kas_place p k f ((l+r) / 2+1) r)→lt (gN p i) (gN p k)=true)∧∀ i,Qa5 lt (if lt (gN p k) (gN p ((l+r) / 2))=true then kas_place p k f l ((l+r) / 2) else kas_place p k f ((l+r) / 2+1) r)≤i→i<k→lt (gN p k) (gN p i)=true
   have hm:(l+r) / 2<r:=by omega
   by_cases d:lt (gN p k) (gN p ((l+r) / 2))=true
   ·rw [Zb d]
    refine Qjl h hk sp f l _ (by omega) (by omega) (by omega) ha fun i i1 i2=>?_
    by_cases e:i=(l+r) / 2
    ·subst e;exact d
    ·exact o.tr _ _ _ (h.lt hk) (h.lt (by omega)) (h.lt (by omega)) d (sp _ _ (by omega) i2)
   ·rw [Zd d]
    have d':lt (gN p ((l+r) / 2)) (gN p k)=true:=by
     rcases o.tot _ _ (h.lt (show (l+r) / 2<N by omega)) (h.lt hk) (h.ne (by omega) hk) with z | z
     ·exact z
     ·exact absurd z d
    refine Qjl h hk sp f _ r (by omega) h2 (by omega) (fun i i1=>?_) hb
    by_cases e:i=(l+r) / 2
    ·subst e;exact d'
    ·exact o.tr _ _ _ (h.lt (by omega)) (h.lt (by omega)) (h.lt hk) (sp _ _ (by omega) (by omega)) d'
theorem Quc:∀ (f:Nat) {p:Array Nat} (k:Nat),Pm N p→SPk lt p k→k+f=N→Pm N (Qa5 lt (kas_bin f p k))∧SPk lt (Qa5 lt (kas_bin f p k)) N
 | 0,p,k,h,sp,e=>⟨h,by rw [←e];exact sp⟩
 | f+1,p,k,h,sp,e=>by
  have hk:k<N:=by omega
  obtain ⟨b1,b2,b3⟩:=Qjl o h hk sp k 0 k (by omega) (Zi _) (by omega) (fun i i1=>absurd i1 (by omega)) (fun i i1 i2=>absurd i2 (by omega))
  show Pm N (Qa5 lt ((kas_place p k k 0 k).bind fun l=>kas_bin f (bubble p k (k-l)) (k+1)))∧SPk lt (Qa5 lt ((kas_place p k k 0 k).bind fun l=>kas_bin f (bubble p k (k-l)) (k+1))) N
  rw [Qee]
  generalize Qa5 lt (kas_place p k k 0 k)=l at b1 b2 b3 ⊢
  refine Quc f (k+1) (h.bub _ _) (fun a b bx hb=>?_) (by omega)
  have hs:k<p.size:=by rw [h.size];exact hk
  rw [Qyr hs (by omega),Qyr hs (by omega),show k-(k-l)=l by omega]
  by_cases ea:a=l
  ·rw [Zb ea,Zd (by omega),Zb (by omega)]
   exact b3 (b-1) (by omega) (by omega)
  ·rw [Zd ea]
   by_cases eb:b=l
   ·rw [Zb eb,Zd (by omega)]
    exact b2 a (by omega)
   ·rw [Zd eb]
    by_cases ca:l<a∧a≤k
    ·rw [Zb ca,Zb (by omega)]
     exact sp _ _ (by omega) (by omega)
    ·rw [Zd ca]
     by_cases cb:l<b∧b≤k
     ·rw [Zb cb]
      exact sp _ _ (by omega) (by omega)
     ·rw [Zd cb]
      exact sp _ _ bx (by omega)
theorem Qyv (h1:1≤N):Pm N (Qa5 lt (kas_sort N))∧SPk lt (Qa5 lt (kas_sort N)) N:=by
 have h:Pm N (List.range N).toArray:=List.Perm.refl _
 obtain ⟨m,q,e,hq,m1,m2,sp⟩:=Qwj o h h1
 unfold kas_sort
 rw [Qee,e]
 dsimp only
 by_cases c:m<N
 ·rw [Zb c,show max m 1=m by omega]
  exact Quc o (N-m) m hq sp (by omega)
 ·rw [Zd c]
  have:m=N:=by omega
  subst this
  exact ⟨hq,sp⟩
theorem Qjy:(Qfw N lt).Perm (List.range N)∧(Qfw N lt).Pairwise fun a b=>lt a b=true:=by
 unfold Qfw
 split
 ·rename_i h
  refine ⟨List.Perm.refl _,?_⟩
  match N,h with
  | 0,_=>exact .nil
  | 1,_=>exact Zcy _ _
 ·rename_i h
  obtain ⟨h1,h2⟩:=Qyv o (by omega)
  refine ⟨h1,Zbs.mpr fun i j hi hj cQ=>?_⟩
  have e:∀ k (hk:k<(Qa5 lt (kas_sort N)).toList.length),gN (Qa5 lt (kas_sort N)) k=(Qa5 lt (kas_sort N)).toList[k]:=fun k hk=>by rw [Qe5,←Zc6,Za hk];rfl
  rw [←e i hi,←e j hj]
  exact h2 i j cQ (by rw [Zz,h1.size] at hj;exact hj)
end
theorem Qki:∀ a:List Int,HT.lexLt a a=false
 | []=>HT.lexLt_nil_nil
 | x::a=>by rw [HT.lexLt_cons,Zb rfl];exact Qki a
theorem Qud:∀ a b:List Int,a≠b→HT.lexLt a b=true∨HT.lexLt b a=true
 | [],[],h=>absurd rfl h
 | [],_::_,_=>.inl (HT.lexLt_nil_cons ..)
 | _::_,[],_=>.inr (HT.lexLt_nil_cons ..)
 | x::a,y::b,h=>by
  rw [HT.lexLt_cons,HT.lexLt_cons]
  by_cases e:x=y
  ·rw [Zb e,Zb e.symm]
   exact Qud a b fun z=>h (by rw [e,z])
  ·rw [Zd e,Zd (Zc9 e),Z5,Z5]
   omega
theorem Qof:∀ a b c:List Int,HT.lexLt a b=true→HT.lexLt b c=true→HT.lexLt a c=true
 | [],[],c,h,_=>by rw [HT.lexLt_nil_nil] at h;cases h
 | _::_,[],c,h,_=>by rw [HT.lexLt_cons_nil] at h;cases h
 | a,y::b,[],_,h=>by rw [HT.lexLt_cons_nil] at h;cases h
 | [],y::b,z::c,_,_=>HT.lexLt_nil_cons ..
 | x::a,y::b,z::c,h1,h2=>by
  rw [HT.lexLt_cons] at h1 h2 ⊢
  by_cases e1:x=y
  ·subst e1
   rw [Zb rfl] at h1
   by_cases e2:x=z
   ·subst e2
    rw [Zb rfl] at h2 ⊢
    exact Qof a b c h1 h2
   ·rw [Zd e2] at h2 ⊢
    exact h2
  ·rw [Zd e1,Z5] at h1
   by_cases e2:y=z
   ·subst e2
    rw [Zd e1,Z5]
    exact h1
   ·rw [Zd e2,Z5] at h2
    rw [Zd (by omega),Z5]
    omega
theorem Q8i {a b:List Int} (h:HT.lexLt a b=true):HT.lexLt b a=false:=by
 cases e:HT.lexLt b a with
 | false=>rfl
 | true=>have:=Qof a b a h e;rw [Qki] at this;cases this
theorem Que {ks:List (List Int)} (h:ks.Nodup):OrdN (ltK ks) ks.length where
 tr a b c _ _ _ h1 h2:=Qof _ _ _ h1 h2
 tot a b ha hb bx:=by
  refine Qud _ _ fun e=>?_
  rw [Zn,Zn,Za ha,Za hb] at e
  have e:ks[a]=ks[b]:=e
  have p:=Zbs.mp h
  rcases Nat.lt_or_gt_of_ne bx with z | z
  ·exact p a b ha hb z e
  ·exact p b a hb ha z e.symm
 as a b _ _ h:=Q8i h
theorem Qsn {α:Type} (ks:List α) (d:α):Qdd ks d (List.range ks.length)=ks:=by
 unfold Qdd
 refine List.ext_getElem (by simp) fun i h1 h2=>?_
 rw [List.getElem_map,List.getElem_range,Zn,Za h2]
 rfl
theorem Qnb {ks:List (List Int)} (h:ks.Nodup):(Qdo ks).Perm ks:=by
 have:=((Qjy (Que h)).1.map fun i=>ks.getD i [])
 have e:((List.range ks.length).map fun i=>ks.getD i [])=ks:=Qsn ks []
 rw [e] at this
 exact this
theorem Qqc {ks:List (List Int)} (h:ks.Nodup):(Qdo ks).Pairwise fun a b=>HT.lexLt a b=true:=by
 unfold Qdo Qdd
 rw [Zc4]
 exact (Qjy (Que h)).2
end L2
namespace L2
open PySem PySem.Spec PyProof.Rows PySem.W PySem.Calls
def Quf (k:List Int):Int:=reduceHash (Builtin.Tuple.tupleHashOf (k.map hashInt))
def Qnc (ks:List (List Int)) (j:Nat):List Int:=ks.getD j []
def hAt (ks:List (List Int)) (es:Array Nat) (i:Nat):Int:=(es[i]?.map fun x=>Quf (Qnc ks x)).getD 0
def Qab6 (ks:List (List Int)) (j:Nat) (r:SetTable×Array Nat):Option (SetTable×Array Nat) :=
 match r.1.probe (hAt ks r.2) (Quf (Qnc ks j)) (r.1.probeStart (Quf (Qnc ks j))) with
 | some (.empty s none) =>
  if (r.1.put s).1.fits (SetTable.insertAt r.2 (r.1.put s).2 j).size && !(r.1.put s).1.tooFull && !(r.1.put s).1.gaveWay&&decide ((SetTable.insertAt r.2 (r.1.put s).2 j).size≤1000) then some ((r.1.put s).1,SetTable.insertAt r.2 (r.1.put s).2 j) else none
 | some (.candidate _ i _)=>match r.2[i]? with
  | some x=>if Qnc ks x=Qnc ks j then some r else none
  | none=>none
 | _=>none
def Qyw (led:Bool) (ks:List (List Int)):Nat→Option (SetTable×Array Nat)
 | 0=>some (.fresh 0 0 led,#[])
 | n+1=>match Qyw led ks n with
  | some r=>Qab6 ks n r
  | none=>none
def Qab7 (t:SetTable):Nat→Nat
 | 0=>0
 | i+1=>t.place.getD i 0+1
def Qyx (t:SetTable) (n:Nat):Bool:=(List.range (n+1)).all fun i=>SetTable.below t.place (Qab7 t i)==i
def Qyy (ks:List (List Int)) (is:List Nat):List (List Int):=Qdd ks [] is
def srtS (ks:List (List Int)):Option (List (List Int)) :=
 match Qyw true ks ks.length,Qyw false ks ks.length with
 | some (t,es),some (t',aq) =>
  if Qyx t es.size&&decide (es.size<60)&&(es.toList.all fun j=>decide (j<ks.length))&&decide (aq.toList=es.toList)&&decide ((Qyy ks es.toList).Nodup) then some (Qdo (Qyy ks es.toList)) else none
 | _,_=>none
end L2
namespace L2
open PySem PySem.Spec PyProof.Rows PySem.W PySem.Calls
abbrev btx (w:Ft):Bool:=w.params.followText "set-order"
structure SOk (w:Ft) (es:Array (Int×Fx)) (t:SetTable):Prop where
 fits:t.fits es.size=true
 plain:t.plain=true
 led:btx w=false→t.led=true
 wk:btx w=false→Qyx t es.size=true
section
variable {prog:Fu} {w:Ft} {A:Fv} {E:Fx→Fy→Prop} {s:Fy} {it d:Fw} {i ep:Nat} {es:Array (Int×Fx)} {t:SetTable}
end
set_option genInjectivity false
set_option genSizeOf false
inductive PV where
 | fz (t:T) | ow (t:T) | sl (i:Nat)
inductive Slot where
 | un | fz (t:T) | ow (t:T) | ml (t:T) | ro (t:T) | pin (a:Fw) | fx (t:T)
abbrev En:=List Slot
structure Xn where
 c:Nat
 arg:List Int
inductive Out (α:Type) where
 | ok (a:α) (ρ:En) | xn (x:Xn) (ρ:En) | no
def Out.bind {α β:Type} (o:Out α) (k:α→En→Out β):Out β:=match o with
 | .ok a ρ=>k a ρ
 | .xn x ρ=>.xn x ρ
 | .no=>.no
def Out.opt {α:Type} (o:Option α) (ρ:En):Out α:=match o with
 | some a=>.ok a ρ
 | none=>.no
def Slot.prv:Slot→Option T
 | .ow t=>some t | .ml t=>some t | .ro t=>some t | _=>none
def Slot.mut:Slot→Bool
 | .ow (.lst _)=>true | .ml (.lst _)=>true | _=>false
def Slot.mutD:Slot→Bool
 | .ow (.dtt _ _)=>true | .ml (.dtt _ _)=>true | _=>false
def Slot.put (t:T):Slot→Slot
 | .ow _=>.ow t | .ml _=>.ml t | s=>s
def Slot.lend:Slot→Slot
 | .ow t=>.ml t | .pin _=>.un | .fx t=>.fz t | s=>s
def Qa (ρ:En) (i:Nat):Slot:=match ρ[i]? with
 | some s=>s
 | none=>.un
def cont (ρ:En):PV→Option T
 | .fz t=>some t
 | .ow t=>some t
 | .sl i=>(Qa ρ i).prv
def frz:PV→Option T
 | .fz t=>some t
 | .ow t=>some t
 | .sl _=>none
def Qbw:List PV→Option (List T)
 | []=>some []
 | r::rs=>match frz r,Qbw rs with
  | some t,some ts=>some (t::ts)
  | _,_=>none
inductive BOp where
 | add | sub | mul | fdv | mod | pow | shl | shr | band
inductive COp where
 | eq | ne | lt | le | gt | ge | isn | isnn | inn | nin
inductive Bi where
 | len | abs | all | any | sum | max | min | dvm | int | list | tup | repr | dct | lstD | dcl | maxT | minT | srt | srtS | srtP
inductive Tg where
 | nm (i:Nat) | tp (is:List Nat)
mutual
inductive E where
 | var (i:Nat) | int (i:Int) | bl (b:Bool) | non | str (x:Str)
 | tup (es:Es) | lst (es:Es)
 | bin (o:BOp) (a b:E) | neg (a:E)
 | not (a:E) | and (a b:E) | or (a b:E) | ite (c a b:E)
 | cmp (o:COp) (a b:E)
 | isI (a:E) (n:String)
 | inR (ng:Bool) (a lo hi:E) | srk (f:Nat) (e:E)
 | call (f:Nat) (es:Es)
 | bi (b:Bi) (es:Es)
 | cnt (a b:E)
 | ix (a i:E) | slc (a:E) (lo hi:Es) | rev (a:E)
 | comp (w:W) (js:List (Option Nat)) (tg:Tg) (cs:Es) (e:E)
 | tupR (l:Bool) (a:E)
 | dnew | din (ng:Bool) (k d:E) | dix (d k:E)
 | tcall (f:Nat) (es:Es) | lstR2 (a b:E) | lit (t:T) | dg1 (d k:E) | dg2 (d k x:E) | d1 (k x:E)
 | app (i:Nat) (es:Es) | lam (k:Nat) (js:List Nat) | lix (i:Nat) (a:E) | compS (i:Nat) (js:List (Option Nat)) (tg:Tg) (cs:Es) (e:E) | compZ (i j:Nat) (js:List (Option Nat)) (tg:Tg) (cs:Es) (e:E) | chl (a b c:E) | orv (a b:E)
 | fzE (e:E) | bad
inductive Es where
 | nil | cons (e:E) (es:Es)
inductive W where
 | seq (e:E) | rng1 (a:E) | rng2 (a b:E) | enm (e:E) | zip (a b:E) | dks (e:E)
end
inductive S where
 | nil | seq (a b:S) | expr (e:E) | set (i:Nat) (e:E) | setF (i:Nat) (e:E) | unp (is:List Nat) (e:E) | par (i j:Nat) (a b:E)
 | app (i:Nat) (e:E) | ext (i:Nat) (e:E) | put (i:Nat) (k e:E) | dput (i:Nat) (k e:E) | swp (i j k:Nat) | mov (i j:Nat) | look (i:Nat) (b:S)
 | ret (e:E) | retN | ite (c:E) (a b:S) | whl (c:E) (b:S) | for_ (w:W) (tg:Tg) (b:S) | forX (w:W) (tg:Tg) (b:S) | forS (i:Nat) (tg:Tg) (b:S) | extL (i:Nat) (e:E)
 | brk | cnt | frz (i:Nat) | raise (c:Nat) (es:Es) | scr (i a b f:Nat) (c1 c2:E) | ins (i:Nat) (k e:E) | rem (i:Nat) (e:E) | nest (iF iR iH iW iS iT iN:Nat) (a0 a:S) (c v e1 e2:E) | parO (i j:Nat) (a b:E) | tryR (i:Nat) (b:S) (h:Nat→List Int→Option T) | bad
inductive Arg where
 | fz (t:T) | ml (t:T) | ro (t:T)
inductive FR where
 | ok (r:PV) (fin:List T) | xn (x:Xn) (fin:List T) | no
inductive SO where
 | nx (ρ:En) | rt (r:PV) (ρ:En) | bk (ρ:En) | ct (ρ:En) | xn (x:Xn) (ρ:En) | no
abbrev CF:=Nat→List Arg→FR
def Qer (i j:Int):Bool:=decide (i.natAbs<2^64)||(decide (j.natAbs<2^64)||((decide (i.natAbs<2^250)&&decide (j.natAbs<2^250))||(decide (i.natAbs.log2<9000)&&decide (j.natAbs.log2<9000))))
def asI:T→Option Int
 | .int i=>some i
 | _=>none
def opN:BOp→Int→Int→Option PV
 | .add,i,j=>some (.fz (.int (i+j)))
 | .sub,i,j=>some (.fz (.int (i-j)))
 | .mul,i,j=>if Qer i j=true then some (.fz (.int (i*j))) else none
 | .fdv,i,j=>if 0<j∧j.natAbs<2^64 then some (.fz (.int (i / j))) else if j≠0∧j.natAbs<2^250 then some (.fz (.int (i.fdiv j))) else none
 | .mod,i,j=>if 0<j then some (.fz (.int (i%j))) else if j<0 then some (.fz (.int (i.fmod j))) else none
 | .pow,i,j=>if 0≤j∧j.natAbs≤1000000∧i.natAbs<2^64 then some (.fz (.int (i^j.toNat))) else none
 | .shl,i,j=>if 0≤j∧j.natAbs≤64∧i.natAbs<2^64 then some (.fz (.int (i*2^j.toNat))) else none
 | .shr,i,j=>if 0≤j∧j.natAbs≤64 then some (.fz (.int (i / 2^j.toNat))) else none
 | .band,i,j=>if j=1 then some (.fz (.int (i%2))) else none
def Q8j:T→T→Option PV
 | .tup a,.tup b=>if a.length+b.length≤100000 then some (.fz (.tup (a++b))) else none
 | .lst a,.lst b=>if a.length+b.length≤100000 then some (.ow (.lst (a++b))) else none
 | _,_=>none
def Q8k:T→Option Int→Option PV
 | .tup a,some k=>if a.length*k.toNat≤100000∧1≤k∧k.natAbs≤100000∧a≠[] then some (.fz (.tup (List.replicate k.toNat a).flatten)) else none
 | .lst a,some k=>if a.length*k.toNat≤100000∧1≤k∧k.natAbs≤100000 then some (.ow (.lst (List.replicate k.toNat a).flatten)) else none
 | _,_=>none
def opX:BOp→T→T→Option PV
 | .add,t,u=>Q8j t u
 | .mul,t,u=>Q8k t (asI u)
 | _,_,_=>none
def opB (o:BOp) (t u:T):Option PV:=match asI t,asI u with
 | some i,some j=>opN o i j
 | _,_=>opX o t u
def Qk6:T→Bool
 | .non=>true | .bl _=>true | .int _=>true | .str _=>true | _=>false
def eqO:T→T→Option Bool
 | .int i,.int j=>some (decide (i=j))
 | .bl i,.bl j=>some (decide (i=j))
 | .str i,.str j=>some (decide (i=j))
 | .non,.non=>some true
 | .non,.int _=>some false | .int _,.non=>some false | .non,.bl _=>some false | .bl _,.non=>some false | .non,.str _=>some false | .str _,.non=>some false
 | .int _,.str _=>some false | .str _,.int _=>some false | .bl _,.str _=>some false | .str _,.bl _=>some false
 | .tup a,.tup b=>if Ql 50 (.tup a)=true∧Ql 50 (.tup b)=true then some (eqT (.tup a) (.tup b)) else none
 | .lst a,.lst b=>if Ql 50 (.lst a)=true∧Ql 50 (.lst b)=true then some (eqT (.lst a) (.lst b)) else none
 | t,u=>if Q20 t u=true then some false else none
def Qdy:T→Bool
 | .non=>true
 | _=>false
def Qwk (f:Int→Int→Bool) (t u:T):Option Bool:=match asI t,asI u with
 | some i,some j=>some (f i j)
 | _,_=>none
def Qcc:T→Option (List T)
 | .lst a=>some a
 | .tup a=>some a
 | _=>none
def inO (x t:T):Option Bool:=match Qcc t with
 | some ts=>if Ql 49 x=true∧ts.all (Ql 49)=true then some (ts.any fun u=>eqT u x) else none
 | none=>none
def opC:COp→T→T→Option Bool
 | .eq,a,b=>eqO a b
 | .ne,a,b=>(eqO a b).map (!·)
 | .lt,a,b=>Qwk (fun i j=>decide (i<j)) a b
 | .le,a,b=>Qwk (fun i j=>decide (i≤j)) a b
 | .gt,a,b=>Qwk (fun i j=>decide (j<i)) a b
 | .ge,a,b=>Qwk (fun i j=>decide (j≤i)) a b
 | .isn,a,b=>if Qdy b then some (Qdy a) else none
 | .isnn,a,b=>if Qdy b then some (!Qdy a) else none
 | .inn,a,b=>inO a b
 | .nin,a,b=>(inO a b).map (!·)
def truT:T→Option Bool
 | .bl b=>some b
 | .int i=>some (decide (i≠0))
 | _=>none
def Qgy:List T→Option (List Bool)
 | []=>some []
 | t::ts=>match truT t,Qgy ts with
  | some b,some bs=>some (b::bs)
  | _,_=>none
def Qb8:List T→Option (List Int)
 | []=>some []
 | .int i::ts=>match Qb8 ts with
  | some is=>some (i::is)
  | none=>none
 | _::_=>none
def Qso:List (List Int)→List T→List Int→Option T
 | j::ks,t::ts,k=>if j=k then some t else Qso ks ts k
 | _,_,_=>none
def dRep:List (List Int)→List T→List Int→T→List T
 | j::ks,t::ts,k,u=>(if j=k then u else t)::dRep ks ts k u
 | _,_,_,_=>[]
def dPut (ks:List (List Int)) (ts:List T) (k:List Int) (u:T):T:=match Qso ks ts k with
 | some _=>.dtt ks (dRep ks ts k u)
 | none=>.dtt (ks++[k]) (ts++[u])
def Q5i:Option T→Bool
 | some (.dtt _ _)=>true
 | _=>false
def Qwl:PV→Option (List Int)
 | .fz (.tup us)=>Qb8 us
 | _=>none
def Qyz:List T→Option (List (List Int))
 | []=>some []
 | .tup us::ts=>match Qb8 us,Qyz ts with
  | some k,some ks=>some (k::ks)
  | _,_=>none
 | _=>none
def Qcu:List Int→T
 | []=>.non
 | i::k=>.tup [.int i,.tup (k.map .int)]
def Qe6:List T→Option (List (List Int))
 | []=>some []
 | .tup [.int i,.tup us]::ts=>match Qb8 us,Qe6 ts with
  | some k,some ks=>some ((i::k)::ks)
  | _,_=>none
 | _=>none
def Qkd:Int→List Int→Int
 | m,[]=>m
 | m,x::xs=>Qkd (if m<x then x else m) xs
def Q8l:Int→List Int→Int
 | m,[]=>m
 | m,x::xs=>Q8l (if x<m then x else m) xs
def Qke:Bi→List T→Option PV
 | .len,[.lst a]=>some (.fz (.int a.length))
 | .len,[.tup a]=>some (.fz (.int a.length))
 | .abs,[.int i]=>some (.fz (.int (if i<0 then -i else i)))
 | .all,[.lst a]=>(Qgy a).map fun bs=>.fz (.bl (bs.all id))
 | .any,[.lst a]=>(Qgy a).map fun bs=>.fz (.bl (bs.any id))
 | .sum,[.lst a]=>(Qb8 a).map fun is=>.fz (.int is.sum)
 | .max,[.int i,.int j]=>some (.fz (.int (if j>i then j else i)))
 | .min,[.int i,.int j]=>some (.fz (.int (if j<i then j else i)))
 | .srt,[.lst a]=>match Qyz a with
  | some ks=>if ks.length<64∧Q5h ks=true then some (.ow (.lst ((Qdo ks).map fun k=>T.tup (k.map T.int)))) else none
  | none=>none
 | .srt,[.dtt ks _]=>if ks.length<64∧Q5h ks=true∧ks.all (fun k=>decide (k.length≤100000))=true then some (.ow (.lst ((Qdo ks).map fun k=>T.tup (k.map T.int)))) else none
 | .srtP,[.lst a]=>match Qe6 a with
  | some ks=>if ks.length<64 then some (.ow (.lst ((Qdo ks).map Qcu))) else none
  | none=>none
 | .srtS,[.lst a]=>match Qyz a with
  | some ks=>match srtS ks with
   | some r=>some (.ow (.lst (r.map fun k=>T.tup (k.map T.int))))
   | none=>none
  | none=>none
 | .maxT,[.tup a]=>match Qb8 a with
  | some (x::xs)=>some (.fz (.int (Qkd x xs)))
  | _=>none
 | .minT,[.tup a]=>match Qb8 a with
  | some (x::xs)=>some (.fz (.int (Q8l x xs)))
  | _=>none
 | .max,[.lst a]=>match Qb8 a with
  | some (x::xs)=>some (.fz (.int (Qkd x xs)))
  | _=>none
 | .min,[.lst a]=>match Qb8 a with
  | some (x::xs)=>some (.fz (.int (Q8l x xs)))
  | _=>none
 | .dvm,[.int i,.int j]=>if 0<j∧j.natAbs<2^64 then some (.fz (.tup [.int (i / j),.int (i%j)])) else none
 | .int,[.int i]=>some (.fz (.int i))
 | .int,[.bl b]=>some (.fz (.int (if b then 1 else 0)))
 | .list,[.lst a]=>some (.ow (.lst a))
 | .list,[.tup a]=>some (.ow (.lst a))
 | .tup,[.lst a]=>some (.fz (.tup a))
 | .tup,[.tup a]=>some (.fz (.tup a))
 | .lstD,[.dtt ks _]=>if ks.length≤100000∧ks.all (fun k=>decide (k.length≤100000))=true then some (.ow (.lst (ks.map fun k=>T.tup (k.map T.int)))) else none
 | .dct,[.dtt [k] [t]]=>some (.ow (.dtt [k] [t]))
 | .dcl,[.lst [.tup [.tup us,t]]]=>match Qb8 us with
  | some is=>some (.ow (.dtt [is] [t]))
  | none=>none
 | .repr,[t]=>if shOk t=true then some (.fz (.str (pyD t).shown)) else none
 | _,_=>none
def Qy0:T→T→Option T
 | .lst a,.int i=>atI a i
 | .tup a,.int i=>atI a i
 | _,_=>none
def Q25:T→Option Int→Option Int→Option PV
 | .lst a,lo,hi=>some (.ow (.lst (Qhq a lo hi)))
 | .tup a,lo,hi=>some (.fz (.tup (Qhq a lo hi)))
 | _,_,_=>none
def Qmk:List PV→Option (Option Int)
 | []=>some none
 | [.fz (.int i)]=>some (some i)
 | _=>none
def Qa2 (ρ:En):List PV→Option (List T)
 | []=>some []
 | r::rs=>match cont ρ r,Qa2 ρ rs with
  | some t,some ts=>some (t::ts)
  | _,_=>none
def Qk7 (n:String):Bool:=n == "int" || n == "bool" || n == "tuple" || n == "list" || n == "dict" || n == "str"
def Qaq (ρ:En):PV→Option Arg
 | .fz t=>some (.fz t)
 | .ow t=>some (.fz t)
 | .sl i=>match Qa ρ i with
  | .ow t=>some (.ml t)
  | .ml t=>some (.ml t)
  | .ro t=>some (.ro t)
  | _=>none
def Q1 (ρ:En):List PV→Option (List Arg)
 | []=>some []
 | r::rs=>match Qaq ρ r,Q1 ρ rs with
  | some t,some ts=>some (t::ts)
  | _,_=>none
def Qz:List PV→Bool
 | []=>true
 | .sl i::rs=>(rs.all fun r=>match r with | .sl j=>i != j | _=>true)&&Qz rs
 | _::rs=>Qz rs
def Qm:List PV→Nat→Option Nat
 | [],_=>none
 | .sl j::rs,i=>if j=i then some 0 else (Qm rs i).map (· + 1)
 | .fz _::rs,i=>(Qm rs i).map (· + 1)
 | .ow _::rs,i=>(Qm rs i).map (· + 1)
def Q4 (rs:List PV) (fin:List T) (i:Nat) (s:Slot):Slot:=match Qm rs i with
 | some k=>match fin[k]? with
  | some t=>s.put t
  | none=>s
 | none=>s
def Qo (rs:List PV) (fin:List T):Nat→En→En
 | _,[]=>[]
 | i,s::ρ=>Q4 rs fin i s::Qo rs fin (i+1) ρ
def Qa9 (ρ:En) (rs:List PV) (fin:List T):En:=Qo rs fin 0 ρ
def Qio (cf:CF) (f:Nat) (rs:List PV) (ρ:En):Out PV :=
 if Qz rs=true then
  match Q1 ρ rs with
  | some as=>match cf f as with
   | .ok r fin=>.ok r (Qa9 ρ rs fin)
   | .xn x fin=>.xn x (Qa9 ρ rs fin)
   | .no=>.no
  | none=>.no
 else .no
def fzL:List PV→Option (List T)
 | []=>some []
 | .fz t::rs=>match fzL rs with
  | some ts=>some (t::ts)
  | none=>none
 | _::_=>none
def Qk8 (cf:CF) (f:Nat) (rs:List PV) (ρ:En):Out PV:=match rs with
 | .ow t::rs'=>match fzL rs' with
  | some ts=>match cf f (.ml t::ts.map Arg.fz) with
   | .ok r _=>.ok r ρ
   | .xn x _=>.xn x ρ
   | .no=>.no
  | none=>.no
 | _=>.no
def Qbi (i:Nat) (s:Slot) (ρ:En):Option En:=if i<ρ.length then (match Qa ρ i with
 | .ml _=>none
 | .ro _=>none
 | .pin _=>none
 | .fx _=>none
 | _=>some (ρ.set i s)) else none
def Qbl:List Nat→List T→En→Option En
 | [],[],ρ=>some ρ
 | i::is,t::ts,ρ=>match Qbi i (.fz t) ρ with
  | some ρ'=>Qbl is ts ρ'
  | none=>none
 | _,_,_=>none
def Qcl:Tg→T→En→Option En
 | .nm i,t,ρ=>Qbi i (.fz t) ρ
 | .tp is,.tup ts,ρ=>Qbl is ts ρ
 | .tp _,_,_=>none
def Qd3 (js:List (Option Nat)) (ρ:En):En:=js.map fun o=>match o with
 | none=>.un
 | some j=>(Qa ρ j).lend
def Qht (js:List (Option Nat)) (ρi:En) (j:Nat) (s:Slot):Slot:=match js.idxOf? (some j) with
 | some k=>match Qa ρi k with
  | .ml t=>s.put t
  | _=>s
 | none=>s
def Qdk (js:List (Option Nat)) (ρi:En):Nat→En→En
 | _,[]=>[]
 | j,s::ρ=>Qht js ρi j s::Qdk js ρi (j+1) ρ
def Qk9 (js:List (Option Nat)) (ρi ρ:En):En:=Qdk js ρi 0 ρ
def Qfe (tg:Tg) (c:En→Out Bool) (e:En→Out PV):List T→List T→En→Out (List T)
 | [],acc,ρ=>.ok acc ρ
 | x::xs,acc,ρ=>match Qcl tg x ρ with
  | none=>.no
  | some ρ1=>(c ρ1).bind fun b ρ2=>if b then (e ρ2).bind fun r ρ3=>match frz r with
    | some t=>if acc.length<100000 then Qfe tg c e xs (acc++[t]) ρ3 else .no
    | none=>.no
   else Qfe tg c e xs acc ρ2
def Qff:En→En→Bool
 | .ml _::ρ0,s::ρ=>(match s with | .ml _=>true | _=>false)&&Qff ρ0 ρ
 | _::ρ0,_::ρ=>Qff ρ0 ρ
 | [],[]=>true
 | _,_=>false
def Qcj:List (Option Nat)→Bool
 | []=>true
 | some i::rs=>(rs.all fun r=>match r with | some j=>i != j | none=>true)&&Qcj rs
 | none::rs=>Qcj rs
def Q6 (o:Out PV):Out Bool:=o.bind fun r ρ=>match r with
 | .fz (.bl b)=>.ok b ρ
 | _=>.no
def Qad (lo:Int) (n:Nat):List T:=(List.range n).map fun i=>T.int (lo+(i:Nat))
def Qip:Nat→List T→List T
 | _,[]=>[]
 | n,t::ts=>.tup [.int n,t]::Qip (n+1) ts
def Qy1:List T→List T→List T
 | x::xs,y::ys=>.tup [x,y]::Qy1 xs ys
 | _,_=>[]
def fzAt:List Nat→En→Option (List T)
 | [],_=>some []
 | j::js,ρ=>match Qa ρ j,fzAt js ρ with
  | .fz t,some ts=>some (t::ts)
  | _,_=>none
def Qacc (o:Out PV):Out PV:=match o with
 | .ok r ρ=>.ok r ρ
 | _=>.no
def Q8m:Slot→Bool
 | .fz (.clo _ _)=>true
 | _=>false
def appO (cf:CF) (i:Nat) (rs:List PV) (ρ:En):Out PV:=match Qa ρ i with
 | .fz (.clo k ts)=>Qacc (Qio cf k (rs++ts.map PV.fz) ρ)
 | _=>.no
def Qfx:PV→Option Nat
 | .sl i=>some i
 | _=>none
def ixI (n:Int):List Int→Option Nat
 | []=>none
 | m::ms=>if m=n then some 0 else (ixI n ms).map (· + 1)
def Qwm (n:Int):Option T→Option Int
 | some (.lst ts)=>match Qb8 ts with
  | some is=>if is.length≤1000 then (ixI n is).map fun j=>(j:Int) else none
  | none=>none
 | _=>none
def Qml (ts:List T) (n:Nat) (t:T):List T:=ts.take n++t::ts.drop n
mutual
def evE (cf:CF):E→En→Out PV
 | .var i,ρ=>match Qa ρ i with
  | .fz t=>.ok (.fz t) ρ
  | .un=>.no
  | .pin _=>.no
  | .fx t=>.ok (.fz t) ρ
  | _=>.ok (.sl i) ρ
 | .int i,ρ=>.ok (.fz (.int i)) ρ
 | .bl b,ρ=>.ok (.fz (.bl b)) ρ
 | .non,ρ=>.ok (.fz .non) ρ
 | .str x,ρ=>.ok (.fz (.str x)) ρ
 | .tup es,ρ=>(evA cf es ρ).bind fun rs ρ1=>match Qbw rs with
  | some ts=>if ts.length≤100000 then .ok (.fz (.tup ts)) ρ1 else .no
  | none=>.no
 | .lst es,ρ=>(evA cf es ρ).bind fun rs ρ1=>match Qbw rs with
  | some ts=>if ts.length≤100000 then .ok (.ow (.lst ts)) ρ1 else .no
  | none=>.no
 | .bin o a b,ρ=>(evE cf a ρ).bind fun ra ρ1=>(evE cf b ρ1).bind fun rb ρ2=>match cont ρ2 ra,cont ρ2 rb with
  | some x,some y=>.opt (opB o x y) ρ2
  | _,_=>.no
 | .neg a,ρ=>(evE cf a ρ).bind fun ra ρ1=>match ra with
  | .fz (.int i)=>.ok (.fz (.int (-i))) ρ1
  | _=>.no
 | .not a,ρ=>(Q6 (evE cf a ρ)).bind fun b ρ1=>.ok (.fz (.bl (!b))) ρ1
 | .and a b,ρ=>(Q6 (evE cf a ρ)).bind fun c ρ1=>if c then (Q6 (evE cf b ρ1)).bind fun d ρ2=>.ok (.fz (.bl d)) ρ2 else .ok (.fz (.bl false)) ρ1
 | .or a b,ρ=>(Q6 (evE cf a ρ)).bind fun c ρ1=>if c then .ok (.fz (.bl true)) ρ1 else (Q6 (evE cf b ρ1)).bind fun d ρ2=>.ok (.fz (.bl d)) ρ2
 | .ite c a b,ρ=>(Q6 (evE cf c ρ)).bind fun k ρ1=>if k then evE cf a ρ1 else evE cf b ρ1
 | .cmp o a b,ρ=>(evE cf a ρ).bind fun ra ρ1=>(evE cf b ρ1).bind fun rb ρ2=>match cont ρ2 ra,cont ρ2 rb with
  | some x,some y=>match opC o x y with
   | some k=>.ok (.fz (.bl k)) ρ2
   | none=>.no
  | _,_=>.no
 | .isI a n,ρ=>(evE cf a ρ).bind fun ra ρ1=>match cont ρ1 ra with
  | some t=>if Qk7 n && !Qhs t then .ok (.fz (.bl (Qk1 (tyT t) n))) ρ1 else .no
  | none=>.no
 | .srk f e,ρ=>(evE cf e ρ).bind fun r ρ1=>match r with
  | .fz (.lst [t])=>match Qio cf f [.fz t] ρ1 with
   | .ok _ ρ2=>.ok (.ow (.lst [t])) ρ2
   | _=>.no
  | _=>.no
 | .inR ng a lo hi,ρ=>(evE cf a ρ).bind fun ra ρ1=>(evE cf lo ρ1).bind fun rl ρ2=>(evE cf hi ρ2).bind fun rh ρ3=>match ra,rl,rh with
  | .fz (.int i),.fz (.int l),.fz (.int h)=>.ok (.fz (.bl (if ng then !decide (l≤i∧i<h) else decide (l≤i∧i<h)))) ρ3
  | _,_,_=>.no
 | .call f es,ρ=>(evA cf es ρ).bind fun rs ρ1=>Qio cf f rs ρ1
 | .bi b es,ρ=>(evA cf es ρ).bind fun rs ρ1=>match Qa2 ρ1 rs with
  | some ts=>.opt (Qke b ts) ρ1
  | none=>.no
 | .cnt a b,ρ=>(evE cf a ρ).bind fun ra ρ1=>match ra with
  | .fz (.tup ts)=>(evE cf b ρ1).bind fun rb ρ2=>match rb,Qb8 ts with
   | .fz (.int j),some is=>.ok (.fz (.int (is.count j:Nat))) ρ2
   | _,_=>.no
  | _=>.no
 | .ix a i,ρ=>(evE cf a ρ).bind fun ra ρ1=>(evE cf i ρ1).bind fun rb ρ2=>match cont ρ2 ra,cont ρ2 rb with
  | some x,some y=>match Qy0 x y with
   | some t=>.ok (.fz t) ρ2
   | none=>.no
  | _,_=>.no
 | .slc a lo hi,ρ=>(evE cf a ρ).bind fun ra ρ1=>(evA cf lo ρ1).bind fun rl ρ2=>match Qmk rl with
  | none=>.no
  | some l=>(evA cf hi ρ2).bind fun rh ρ3=>match Qmk rh with
   | none=>.no
   | some h=>match cont ρ3 ra with
    | some x=>.opt (Q25 x l h) ρ3
    | none=>.no
 | .rev a,ρ=>(evE cf a ρ).bind fun ra ρ1=>match ra with
  | .fz (.tup ts)=>.ok (.fz (.tup ts.reverse)) ρ1
  | _=>.no
 | .comp w js tg cs e,ρ=>(evW cf w ρ).bind fun ac ρ1=>match ac.2 with
  | some _=>.no
  | none=>match Qfe tg (evC cf cs) (evE cf e) ac.1 [] (Qd3 js ρ1) with
   | .ok ts ρi=>if Qff (Qd3 js ρ1) ρi=true∧Qcj js=true then .ok (.ow (.lst ts)) (Qk9 js ρi ρ1) else .no
   | _=>.no
 | .compS i js tg cs e,ρ=>match (Qa ρ i).prv with
  | some (.lst ts)=>if js.all (fun j=>decide (j≠some i))=true then match Qfe tg (evC cf cs) (evE cf e) ts [] (Qd3 js ρ) with
   | .ok us ρi=>if Qff (Qd3 js ρ) ρi=true∧Qcj js=true then .ok (.ow (.lst us)) (Qk9 js ρi ρ) else .no
   | _=>.no
   else .no
  | _=>.no
 | .orv a b,ρ=>(evE cf a ρ).bind fun ra ρ1=>match ra with
  | .fz .non=>evE cf b ρ1
  | .fz (.tup [])=>evE cf b ρ1
  | .fz (.tup (x::xs))=>.ok (.fz (.tup (x::xs))) ρ1
  | _=>.no
 | .chl a b c,ρ=>(evE cf a ρ).bind fun ra ρ1=>(evE cf b ρ1).bind fun rb ρ2=>match ra,rb with
  | .fz (.int i),.fz (.int j)=>if i≤j then (evE cf c ρ2).bind fun rc ρ3=>match rc with
   | .fz (.int k)=>.ok (.fz (.bl (decide (j≤k)))) ρ3
   | _=>.no
   else .ok (.fz (.bl false)) ρ2
  | _,_=>.no
 | .compZ i j js tg cs e,ρ=>match (Qa ρ i).prv,Qa ρ j with
  | some (.lst ts),.fz (.lst us)=>if js.all (fun j=>decide (j≠some i))=true then match Qfe tg (evC cf cs) (evE cf e) (Qy1 ts us) [] (Qd3 js ρ) with
   | .ok us ρi=>if Qff (Qd3 js ρ) ρi=true∧Qcj js=true then .ok (.ow (.lst us)) (Qk9 js ρi ρ) else .no
   | _=>.no
   else .no
  | _,_=>.no
 | .lix i a,ρ=>if (Qa ρ i).mut=true then (evE cf a ρ).bind fun r ρ1=>match r with
  | .fz (.int n)=>(match Qwm n ((Qa ρ1 i).prv) with
   | some j=>.ok (.fz (.int j)) ρ1
   | none=>.no)
  | _=>.no
  else .no
 | .tupR l a,ρ=>(evE cf a ρ).bind fun r ρ1=>match r with
  | .fz (.int j)=>if j.natAbs≤100000 then .ok (if l then .ow (.lst (Qad 0 j.toNat)) else .fz (.tup (Qad 0 j.toNat))) ρ1 else .no
  | _=>.no
 | .lstR2 a b,ρ=>(evE cf a ρ).bind fun r ρ1=>(evE cf b ρ1).bind fun r2 ρ2=>match r,r2 with
  | .fz (.int i),.fz (.int j)=>if i.natAbs≤100000∧j.natAbs≤100000∧(j-i).natAbs≤100000 then .ok (.ow (.lst (Qad i (j-i).toNat))) ρ2 else .no
  | _,_=>.no
 | .lit t,ρ=>.ok (.fz t) ρ
 | .dg1 d k,ρ=>(evE cf d ρ).bind fun rd ρ1=>if Q5i (cont ρ1 rd)=true then (evE cf k ρ1).bind fun rk ρ2=>match Qwl rk,cont ρ2 rd with
   | some is,some (.dtt ks ts)=>.ok (.fz ((Qso ks ts is).getD .non)) ρ2
   | _,_=>.no
  else .no
 | .dg2 d k x,ρ=>(evE cf d ρ).bind fun rd ρ1=>if Q5i (cont ρ1 rd)=true then (evE cf k ρ1).bind fun rk ρ2=>(evE cf x ρ2).bind fun rx ρ3=>match Qwl rk,cont ρ3 rd,rx with
   | some is,some (.dtt ks ts),.fz u=>.ok (.fz ((Qso ks ts is).getD u)) ρ3
   | _,_,_=>.no
  else .no
 | .dnew,ρ=>.ok (.ow (.dtt [] [])) ρ
 | .d1 k x,ρ=>(evE cf k ρ).bind fun rk ρ1=>(evE cf x ρ1).bind fun rx ρ2=>match Qwl rk,rx with
  | some is,.fz t=>.ok (.ow (.dtt [is] [t])) ρ2
  | _,_=>.no
 | .tcall f es,ρ=>(evA cf es ρ).bind fun rs ρ1=>Qk8 cf f rs ρ1
 | .din ng k d,ρ=>(evE cf k ρ).bind fun rk ρ1=>(evE cf d ρ1).bind fun rd ρ2=>match Qwl rk,cont ρ2 rd with
  | some is,some (.dtt ks ts)=>.ok (.fz (.bl (if ng then !(Qso ks ts is).isSome else (Qso ks ts is).isSome))) ρ2
  | _,_=>.no
 | .dix d k,ρ=>(evE cf d ρ).bind fun rd ρ1=>(evE cf k ρ1).bind fun rk ρ2=>match Qwl rk,cont ρ2 rd with
  | some is,some (.dtt ks ts)=>match Qso ks ts is with
   | some t=>.ok (.fz t) ρ2
   | none=>.no
  | _,_=>.no
 | .app i es,ρ=>if Q8m (Qa ρ i)=true then (evA cf es ρ).bind fun rs ρ1=>appO cf i rs ρ1 else .no
 | .lam k js,ρ=>match fzAt js ρ with
  | some ts=>.ok (.fz (.clo k ts)) ρ
  | none=>.no
 | .fzE e,ρ=>(evE cf e ρ).bind fun r ρ1=>match frz r with
  | some t=>.ok (.fz t) ρ1
  | none=>.no
 | .bad,_=>.no
def evA (cf:CF):Es→En→Out (List PV)
 | .nil,ρ=>.ok [] ρ
 | .cons e es,ρ=>(evE cf e ρ).bind fun r ρ1=>(evA cf es ρ1).bind fun rs ρ2=>.ok (r::rs) ρ2
def evC (cf:CF):Es→En→Out Bool
 | .nil,ρ=>.ok true ρ
 | .cons e .nil,ρ=>Q6 (evE cf e ρ)
 | .cons _ _,_=>.no
def evW (cf:CF):W→En→Out (List T×Option Nat)
 | .seq e,ρ=>(evE cf e ρ).bind fun r ρ1=>match cont ρ1 r with
  | some t=>match Qcc t with
   | some ts=>.ok (ts,Qfx r) ρ1
   | none=>.no
  | none=>.no
 | .rng1 a,ρ=>(evE cf a ρ).bind fun r ρ1=>match r with
  | .fz (.int j)=>if j.natAbs≤100000 then .ok (Qad 0 j.toNat,none) ρ1 else .no
  | _=>.no
 | .rng2 a b,ρ=>(evE cf a ρ).bind fun r ρ1=>(evE cf b ρ1).bind fun r2 ρ2=>match r,r2 with
  | .fz (.int i),.fz (.int j)=>if i.natAbs≤100000∧j.natAbs≤100000 then .ok (Qad i (j-i).toNat,none) ρ2 else .no
  | _,_=>.no
 | .enm e,ρ=>(evE cf e ρ).bind fun r ρ1=>match cont ρ1 r with
  | some (.lst ts)=>.ok (Qip 0 ts,Qfx r) ρ1
  | some (.tup ts)=>.ok (Qip 0 ts,Qfx r) ρ1
  | _=>.no
 | .zip a b,ρ=>(evE cf a ρ).bind fun r ρ1=>(evE cf b ρ1).bind fun r2 ρ2=>match r,r2 with
  | .fz (.tup xs),.fz (.tup ys)=>.ok (Qy1 xs ys,none) ρ2
  | .fz (.lst xs),.fz (.tup ys)=>.ok (Qy1 xs ys,none) ρ2
  | .fz (.lst xs),.fz (.lst ys)=>.ok (Qy1 xs ys,none) ρ2
  | _,_=>.no
 | .dks e,ρ=>(evE cf e ρ).bind fun r ρ1=>match r with
  | .fz (.dtt ks _)=>if ks.all (fun k=>decide (k.length≤100000))=true then .ok (ks.map fun k=>T.tup (k.map T.int),none) ρ1 else .no
  | _=>.no
end
def SO.seq (o:SO) (k:En→SO):SO:=match o with
 | .nx ρ=>k ρ
 | o=>o
def ofO {α:Type} (o:Out α) (k:α→En→SO):SO:=match o with
 | .ok a ρ=>k a ρ
 | .xn x ρ=>.xn x ρ
 | .no=>.no
def Qae {α:Type} (o:Option α) (k:α→SO):SO:=match o with
 | some a=>k a
 | none=>.no
def Qep (c:En→Out Bool) (b:En→SO):Nat→En→SO
 | 0,_=>.no
 | n+1,ρ=>ofO (c ρ) fun k ρ1=>if k then (match b ρ1 with
   | .nx ρ2=>Qep c b n ρ2
   | .ct ρ2=>Qep c b n ρ2
   | .bk ρ2=>.nx ρ2
   | o=>o) else .nx ρ1
def Qap (tg:Tg) (b:En→SO):List T→En→SO
 | [],ρ=>.nx ρ
 | x::xs,ρ=>match Qcl tg x ρ with
  | none=>.no
  | some ρ1=>match b ρ1 with
   | .nx ρ2=>Qap tg b xs ρ2
   | .ct ρ2=>Qap tg b xs ρ2
   | .bk ρ2=>.nx ρ2
   | o=>o
def Q8n (i:Nat) (tg:Tg) (b:En→SO):Nat→Nat→En→SO
 | 0,_,_=>.no
 | m+1,n,ρ=>match Qa ρ i with
  | .ro (.lst us)=>match us[n]? with
   | none=>.nx ρ
   | some x=>match Qcl tg x ρ with
    | none=>.no
    | some ρ1=>match b ρ1 with
     | .nx ρ2=>Q8n i tg b m (n+1) ρ2
     | .ct ρ2=>Q8n i tg b m (n+1) ρ2
     | .bk ρ2=>.nx ρ2
     | o=>o
  | _=>.no
def unE (i:Nat) (ρ:En):Option En:=match Qa ρ i with
 | .ro t=>some (ρ.set i (.ow t))
 | _=>none
def unl (i:Nat):SO→SO
 | .nx ρ=>Qae (unE i ρ) .nx
 | .rt (.fz t) ρ=>Qae (unE i ρ) (.rt (.fz t))
 | _=>.no
def Qhu (o:SO):SO:=match o with
 | .xn _ _=>.no
 | o=>o
def Qla (i:Nat) (r:PV) (ρ:En):SO:=match r with
 | .fz t=>Qae (Qbi i (.fz t) ρ) .nx
 | .ow t=>Qae (Qbi i (.ow t) ρ) .nx
 | .sl _=>.no
def isRf:T→Bool
 | .tup _=>true
 | .lst _=>true
 | _=>false
def flaT:T→Bool
 | .int _=>true
 | .bl _=>true
 | .str _=>true
 | .non=>true
 | _=>false
def Qwn:T→Bool
 | .tup ts=>ts.all flaT
 | t=>flaT t
def Qwo:T→Bool
 | .tup ts=>!ts.all flaT
 | .lst _=>true
 | _=>false
def lkS:Slot→Slot
 | .fz t=>if Qwo t=true then .fx t else .fz t
 | s=>s
def Qmm:Slot→Bool
 | .un=>true
 | .fz t=>isRf t||flaT t
 | .pin _=>true
 | _=>false
def Q26:Slot→Bool
 | .fx _=>true
 | _=>false
def lkB:Slot→Slot→Slot
 | s0,.fx _=>s0
 | _,.fz t=>if Qwn t=true then .fz t else .un
 | _,.pin a=>.pin a
 | _,_=>.un
def lkO (i:Nat) (ρ:En):SO→SO
 | .nx ρ1=>if Q26 (Qa ρ1 i)=true∧ρ1.length=ρ.length then .nx (List.zipWith lkB ρ ρ1) else .no
 | .rt (.fz (.bl b)) ρ1=>.rt (.fz (.bl b)) (ρ1.map fun _=>.un)
 | _=>.no
def Qacd:Slot→Bool
 | .un=>true
 | .fz _=>true
 | _=>false
abbrev Qao (is:List Int):T:=.lst (is.map T.int)
abbrev Qk (M:List (List Int)):T:=.lst (M.map Qao)
def Qsp (fA:En→SO) (iF iR iH:Nat) (Ms:List (List (List Int))) (R:List (List Int)) (ρ:En):Option (List (List Int)×En) :=
 match fA ((ρ.set iF (.ro (.lst (Ms.map Qk)))).set iR (.ro (.lst (R.map Qao)))) with
 | .nx ρ1=>match Qa ρ1 iF,Qa ρ1 iR,Qa ρ1 iH with
  | .ro _,.ro _,.ow (.lst us)=>match Qb8 us with
   | some is=>if is.length≤1000∧R.length<1000 then some (R++[is],((((ρ1.set iR (.ow (.lst (R.map Qao)))).set iF (.ow (.lst (Ms.map Qk)))).set iH (.fz (Qao is))).set iR (.ow (.lst ((R++[is]).map Qao))))) else none
   | none=>none
  | _,_,_=>none
 | _=>none
def Qes (fA:En→SO) (iF iR iH iW:Nat) (Ms:List (List (List Int))) (R0:List (List Int)) (ρ0:En):Nat→Option (List (List Int)×En)
 | 0=>some (R0,ρ0)
 | n+1=>match Qes fA iF iR iH iW Ms R0 ρ0 n with
  | some q=>if iW<q.2.length then Qsp fA iF iR iH Ms q.1 (q.2.set iW (.fz (.int n))) else none
  | none=>none
def Qsq (f0 fA:En→SO) (iF iR iH iW iS:Nat) (Ms:List (List (List Int))) (ρ:En):Option (List (List (List Int))×En) :=
 match f0 (ρ.set iF (.ro (.lst (Ms.map Qk)))) with
 | .nx ρ1=>match Qa ρ1 iF,Qa ρ1 iR,Qa (ρ1.set iF (.ow (.lst (Ms.map Qk)))) iS with
  | .ro _,.ow (.lst []),.fz (.int j)=>if j.natAbs≤1000 then (match Qes fA iF iR iH iW Ms [] (ρ1.set iF (.ow (.lst (Ms.map Qk)))) j.toNat with
   | some q=>if q.1.length≤1000∧Ms.length<1000 then some (Ms++[q.1],(q.2.set iR (.fz (Qk q.1))).set iF (.ow (.lst ((Ms++[q.1]).map Qk)))) else none
   | none=>none) else none
  | _,_,_=>none
 | _=>none
def Qet (f0 fA:En→SO) (iF iR iH iW iS iT:Nat) (ρ0:En):Nat→Option (List (List (List Int))×En)
 | 0=>some ([],ρ0)
 | n+1=>match Qet f0 fA iF iR iH iW iS iT ρ0 n with
  | some q=>if iT<q.2.length then Qsq f0 fA iF iR iH iW iS q.1 (q.2.set iT (.fz (.int n))) else none
  | none=>none
def Qbu:Slot→Slot
 | .ml (.lst ts)=>if (Qb8 ts).isSome=true then .ml (.lst ts) else .un
 | _=>.un
def Qwp (fV f1 f2:En→Out PV) (iF:Nat):List (List (List Int))→En→Option En
 | [],_=>none
 | M::Ms,ρ=>if (M::Ms).length≤1000 then (match fV (ρ.set iF (.ro (.lst ((M::Ms).map Qk)))) with
  | .ok (.fz (.int v)) ρ1=>(match Qa ρ1 iF,f1 (ρ1.set iF (.ro (.lst ((M::Ms).map Qk)))) with
   | .ro _,.ok (.fz (.int j)) ρ2=>(match Qa ρ2 iF,f2 (ρ2.set iF (.ro (.lst ((M::Ms).map Qk)))) with
    | .ro _,.ok (.fz (.int k)) ρ3=>(match Qa ρ3 iF,ixN M.length j with
     | .ro _,some x=>(match M[x]? with
      | some is=>(match ixN is.length k with
       | some y=>some ((ρ3.map Qbu).set iF (.ow (.lst ((M.set x (is.set y v)::Ms).map Qk))))
       | none=>none)
      | none=>none)
     | _,_=>none)
    | _,_=>none)
   | _,_=>none)
  | _=>none) else none
def Qhv (f0 fA:En→SO) (fc:En→Out Bool) (fV f1 f2:En→Out PV) (iF iR iH iW iS iT iN:Nat) (ρ:En):SO :=
 match Qa ρ iF,Qa ρ iN with
 | .ow (.lst []),.fz (.int n)=>if n.natAbs≤1000 then (match Qet f0 fA iF iR iH iW iS iT ρ n.toNat with
  | some q=>if q.1.length≤1000 then (match fc (q.2.set iF (.ro (.lst (q.1.map Qk)))) with
   | .ok b ρ2=>(match Qa ρ2 iF with
    | .ro _=>if b=true then (match Qwp fV f1 f2 iF q.1 (ρ2.set iF (.ow (.lst (q.1.map Qk)))) with
     | some ρ3=>.nx ρ3
     | none=>.no) else .nx (ρ2.set iF (.ow (.lst (q.1.map Qk))))
    | _=>.no)
   | _=>.no) else .no
  | none=>.no) else .no
 | _,_=>.no
def exS (cf:CF):S→En→SO
 | .nil,ρ=>.nx ρ
 | .seq a b,ρ=>(exS cf a ρ).seq (exS cf b)
 | .expr e,ρ=>ofO (evE cf e ρ) fun _ ρ1=>.nx ρ1
 | .set i e,ρ=>ofO (evE cf e ρ) fun r ρ1=>Qla i r ρ1
 | .setF i e,ρ=>ofO (evE cf e ρ) fun r ρ1=>match frz r with
  | some t=>Qae (Qbi i (.fz t) ρ1) .nx
  | none=>.no
 | .unp is e,ρ=>ofO (evE cf e ρ) fun r ρ1=>match r with
  | .fz (.tup ts)=>Qae (Qbl is ts ρ1) .nx
  | _=>.no
 | .par i j a b,ρ=>ofO (evE cf a ρ) fun ra ρ1=>ofO (evE cf b ρ1) fun rb ρ2=>match ra,rb with
  | .fz x,.fz y=>Qae (Qbl [i,j] [x,y] ρ2) .nx
  | _,_=>.no
 | .app i e,ρ=>if (Qa ρ i).mut=true then ofO (evE cf e ρ) fun r ρ1=>match frz r with
   | none=>.no
   | some t=>match Qa ρ1 i with
    | .ow (.lst ts)=>if ts.length<100000 then .nx (ρ1.set i (.ow (.lst (ts++[t])))) else .no
    | .ml (.lst ts)=>if ts.length<100000 then .nx (ρ1.set i (.ml (.lst (ts++[t])))) else .no
    | _=>.no
  else .no
 | .ext i e,ρ=>if (Qa ρ i).mut=true then ofO (evE cf e ρ) fun r ρ1=>match r with
   | .fz (.tup us)=>match Qa ρ1 i with
    | .ow (.lst ts)=>if ts.length+us.length≤100000 then .nx (ρ1.set i (.ow (.lst (ts++us)))) else .no
    | .ml (.lst ts)=>if ts.length+us.length≤100000 then .nx (ρ1.set i (.ml (.lst (ts++us)))) else .no
    | _=>.no
   | _=>.no
  else .no
 | .put i k e,ρ=>ofO (evE cf e ρ) fun r ρ1=>match frz r with
  | none=>.no
  | some t=>if (Qa ρ1 i).mut=true then ofO (evE cf k ρ1) fun rk ρ2=>match rk with
    | .fz (.int j)=>match Qa ρ2 i with
     | .ow (.lst ts)=>Qae (ixN ts.length j) fun n=>.nx (ρ2.set i (.ow (.lst (ts.set n t))))
     | .ml (.lst ts)=>Qae (ixN ts.length j) fun n=>.nx (ρ2.set i (.ml (.lst (ts.set n t))))
     | _=>.no
    | _=>.no
   else .no
 | .dput i k e,ρ=>ofO (evE cf e ρ) fun r ρ1=>match frz r with
  | none=>.no
  | some t=>if (Qa ρ1 i).mutD=true then ofO (evE cf k ρ1) fun rk ρ2=>match Qwl rk with
    | some is=>match Qa ρ2 i with
     | .ow (.dtt ks ts)=>if ks.length<100000 then .nx (ρ2.set i (.ow (dPut ks ts is t))) else .no
     | .ml (.dtt ks ts)=>if ks.length<100000 then .nx (ρ2.set i (.ml (dPut ks ts is t))) else .no
     | _=>.no
    | none=>.no
   else .no
 | .look i b,ρ=>match Qa ρ i with
  | .ow (.lst ts)=>if (ρ.set i .un).all Qmm=true then lkO i ρ (exS cf b ((ρ.set i (.fz (.lst ts))).map lkS)) else .no
  | _=>.no
 | .swp i j k,ρ=>ofO (evE cf (.tup (.cons (.ix (.var i) (.var k)) (.cons (.ix (.var i) (.var j)) .nil))) ρ) fun r ρ1=>match r with
  | .fz (.tup [u,v])=>match Qa ρ1 j,Qa ρ1 k,Qa ρ1 i with
   | .fz (.int x),.fz (.int y),.ow (.lst ts)=>Qae (ixN ts.length x) fun m=>Qae (ixN ts.length y) fun n=>.nx (ρ1.set i (.ow (.lst ((ts.set m u).set n v))))
   | _,_,_=>.no
  | _=>.no
 | .ret e,ρ=>ofO (evE cf e ρ) fun r ρ1=>.rt r ρ1
 | .retN,ρ=>.rt (.fz .non) ρ
 | .ite c a b,ρ=>ofO (Q6 (evE cf c ρ)) fun k ρ1=>if k then exS cf a ρ1 else exS cf b ρ1
 | .whl c b,ρ=>Qhu (Qep (fun ρ=>Q6 (evE cf c ρ)) (exS cf b) 1000000 ρ)
 | .for_ w tg b,ρ=>Qhu (ofO (evW cf w ρ) fun ac ρ1=>match ac.2 with
  | some _=>.no
  | none=>Qap tg (exS cf b) ac.1 ρ1)
 | .mov i j,ρ=>match Qa ρ j with
  | .ow t=>if i≠j∧i<ρ.length then .nx ((ρ.set j .un).set i (.ow t)) else .no
  | _=>.no
 | .forX w tg b,ρ=>ofO (evW cf w ρ) fun ac ρ1=>match ac.2 with
  | some _=>.no
  | none=>Qap tg (exS cf b) ac.1 ρ1
 | .extL i e,ρ=>if (Qa ρ i).mut=true then ofO (evE cf e ρ) fun r ρ1=>match r with
   | .ow (.lst us)=>match Qa ρ1 i with
    | .ow (.lst ts)=>if ts.length+us.length≤100000 then .nx (ρ1.set i (.ow (.lst (ts++us)))) else .no
    | _=>.no
   | _=>.no
  else .no
 | .forS i tg b,ρ=>match Qa ρ i with
  | .ow (.lst ts)=>unl i (Q8n i tg (exS cf b) 100001 0 (ρ.set i (.ro (.lst ts))))
  | _=>.no
 | .brk,ρ=>.bk ρ
 | .cnt,ρ=>.ct ρ
 | .frz i,ρ=>match Qa ρ i with
  | .ow t=>.nx (ρ.set i (.fz t))
  | .ml _=>.no
  | .ro _=>.no
  | _=>.nx ρ
 | .raise c es,ρ=>ofO (evA cf es ρ) fun rs ρ1=>match rs with
  | [.fz (.int i)]=>if 6≤c∧c<9 then .xn ⟨c,[i]⟩ ρ1 else .no
  | [.fz (.str _)]=>if c<6 then .xn ⟨c,[]⟩ ρ1 else .no
  | [.fz (.int i),.fz (.int j)]=>if c=9 then .xn ⟨c,[i,j]⟩ ρ1 else .no
  | _=>.no
 | .ins i k e,ρ=>if (Qa ρ i).mut=true then ofO (evE cf k ρ) fun rk ρ1=>match rk with
   | .fz (.int j)=>ofO (evE cf e ρ1) fun r ρ2=>match r with
    | .fz t=>match Qa ρ2 i with
     | .ow (.lst ts)=>if ts.length<100000∧0≤j∧j≤ts.length then .nx (ρ2.set i (.ow (.lst (Qml ts j.toNat t)))) else .no
     | _=>.no
    | _=>.no
   | _=>.no
  else .no
 | .rem i e,ρ=>if (Qa ρ i).mut=true then ofO (evE cf e ρ) fun r ρ1=>match r with
   | .fz (.int n)=>match Qa ρ1 i with
    | .ow (.lst ts)=>match Qb8 ts with
     | some is=>match ixI n is with
      | some j=>.nx (ρ1.set i (.ow (.lst (ts.eraseIdx j))))
      | none=>.no
     | none=>.no
    | _=>.no
   | _=>.no
  else .no
 | .scr i a b f c1 c2,ρ=>if ρ.all Qacd=true then (match Qa ρ a,Qa ρ b with
  | .fz (.int x),.fz (.int y)=>match cf f [.fz (.int x),.fz (.int y)] with
   | .ok (.fz (.tup [u,.lst ts])) _=>match Qbi i (.fz (.tup [u,.lst ts])) ρ with
    | some ρ1=>match Q6 (evE cf c1 ρ1) with
     | .ok false _=>match Q6 (evE cf c2 ρ1) with
      | .ok false _=>if ts.length<100000 then .nx (ρ.set i .un) else .no
      | _=>.no
     | _=>.no
    | none=>.no
   | _=>.no
  | _,_=>.no) else .no
 | .nest iF iR iH iW iS iT iN a0 a c v e1 e2,ρ=>Qhv (exS cf a0) (exS cf a) (fun ρ=>Q6 (evE cf c ρ)) (evE cf v) (evE cf e1) (evE cf e2) iF iR iH iW iS iT iN ρ
 | .tryR i b h,ρ=>match exS cf b ρ with
  | .xn x ρ1=>(match h x.c x.arg with
   | some t=>.rt (.fz t) ρ1
   | none=>.no)
  | o=>o
 | .parO i j a b,ρ=>ofO (evE cf a ρ) fun ra ρ1=>ofO (evE cf b ρ1) fun rb ρ2=>match ra,rb with
  | .ow x,.ow y=>Qae (Qbi i (.ow x) ρ2) fun ρ3=>Qae (Qbi j (.ow y) ρ3) .nx
  | _,_=>.no
 | .bad,_=>.no
structure Fn where
 ps:Nat
 sz:Nat
 body:S
def Qe7 (fn:Fn) (as:List Arg):En:=(as.map fun a=>match a with
 | .fz t=>Slot.fz t
 | .ml t=>.ml t
 | .ro t=>.ro t)++List.replicate (fn.sz-fn.ps) .un
def Qaa:List Arg→En→Option (List T)
 | [],_=>some []
 | .ml _::as,.ml t::ρ=>(Qaa as ρ).map (t :: ·)
 | .ml _::_,_=>none
 | .fz _::as,_::ρ=>(Qaa as ρ).map (.non :: ·)
 | .ro _::as,_::ρ=>(Qaa as ρ).map (.non :: ·)
 | _,[]=>none
def Qbd (ρ:En):PV→Option PV
 | .fz t=>some (.fz t)
 | .ow t=>some (.ow t)
 | .sl i=>match Qa ρ i with
  | .ow t=>some (.ow t)
  | _=>none
def Qcv (cf:CF) (fn:Fn) (as:List Arg):FR :=
 if as.length=fn.ps then match exS cf fn.body (Qe7 fn as) with
  | .nx ρ=>match Qaa as ρ with
   | some fin=>.ok (.fz .non) fin
   | none=>.no
  | .rt r ρ=>match Qbd ρ r,Qaa as ρ with
   | some r,some fin=>.ok r fin
   | _,_=>.no
  | .xn x ρ=>match Qaa as ρ with
   | some fin=>.xn x fin
   | none=>.no
  | _=>.no
 else .no
def evF (tab:Nat→Option Fn):Nat→CF
 | 0,_,_=>.no
 | n+1,f,as=>match tab f with
  | some fn=>Qcv (evF tab n) fn as
  | none=>.no
structure Bs where
 H:Hp
 G:Fw→Prop
 O:Fw→Prop
 M:Fw→Prop
 P:Nat→Fw→Prop
def OwnO (D:Hp):T→HO→Prop
 | .lst ts,.lst vs=>ts.length≤100000∧IsL D vs ts
 | .dtt ks ts,.dT aC=>ks.length≤100000∧∃ vs,aC=(ks.map kIs).zip vs∧ks.length=vs.length∧IsL D vs ts
 | _,_=>False
theorem OwnO.mono {D D':Hp} {t:T} {o:HO} (h:OwnO D t o) (s:Same D D'):OwnO D' t o:=by
 cases t with
 | lst ts=>cases o <;> first | exact ⟨h.1,h.2.mono s⟩ | exact h.elim
 | dtt ks ts =>
  cases o with
  | dT aC=>obtain ⟨z,vs,e,l,q⟩:=h;exact ⟨z,vs,e,l,q.mono s⟩
  | _=>exact h.elim
 | _=>cases o <;> exact h.elim
theorem OwnO.pen {D:Hp} {t:T} {o:HO} (h:OwnO D t o):Q78 o=true:=by
 cases t with
 | lst ts=>cases o <;> first | rfl | exact h.elim
 | dtt ks ts=>cases o <;> first | rfl | exact h.elim
 | _=>cases o <;> exact h.elim
theorem OwnO.is {D D':Hp} {t:T} {o:HO} {a:Fw} (h:OwnO D t o) (e:D' a=some o) (s:Same D D'):Is D' (.ref a) t:=by
 cases t with
 | lst ts =>
  cases o with
  | lst vs=>exact .lst e (h.2.mono s) h.1
  | _=>exact h.elim
 | dtt ks ts =>
  cases o with
  | dT aC =>
   obtain ⟨z,vs,rfl,l,q⟩:=h
   unfold Is
   exact ⟨z,a,vs,rfl,e,l,q.mono s⟩
  | _=>exact h.elim
 | _=>cases o <;> exact h.elim
def OwnAt (H:Hp) (G:Fw→Prop) (a:Fw) (t:T):Prop:=∃ o,H a=some o∧OwnO (dls H G) t o
theorem OwnAt.lst_inv {H:Hp} {G:Fw→Prop} {a:Fw} {ts:List T} (h:OwnAt H G a (.lst ts)):∃ vs,ts.length≤100000∧H a=some (.lst vs)∧IsL (dls H G) vs ts:=by
 obtain ⟨o,e,q⟩:=h
 cases o with
 | lst vs=>exact ⟨vs,q.1,e,q.2⟩
 | _=>exact q.elim
theorem OwnAt.of_lst {H:Hp} {G:Fw→Prop} {a:Fw} {ts:List T} {vs:List V} (z:ts.length≤100000) (e:H a=some (.lst vs)) (r:IsL (dls H G) vs ts):OwnAt H G a (.lst ts):=⟨_,e,z,r⟩
theorem OwnAt.no_tup {H:Hp} {G:Fw→Prop} {a:Fw} {ts:List T} (h:OwnAt H G a (.tup ts)):False:=by
 obtain ⟨o,e,q⟩:=h
 cases o <;> exact q
def Qiq (H:Hp) (G:Fw→Prop) (σ:St) (i:Nat):Slot→Prop
 | .un=>True
 | .fz t=>∃ v,σ[i]?=some (some v)∧Is (dls H G) v t
 | .ow t=>∃ a,σ[i]?=some (some (.ref a))∧G a∧OwnAt H G a t
 | .ml t=>∃ a,σ[i]?=some (some (.ref a))∧G a∧OwnAt H G a t
 | .ro t=>∃ a,σ[i]?=some (some (.ref a))∧G a∧OwnAt H G a t
 | .pin a=>σ[i]?=some (some (.ref a))
 | .fx t=>∃ a o,σ[i]?=some (some (.ref a))∧dls H G a=some o∧Is (dls H G) (.ref a) t
def PrvAt (σ:St) (ρ:En) (i:Nat) (a:Fw):Prop:=(∃ t,(Qa ρ i).prv=some t)∧σ[i]?=some (some (.ref a))
def OwA (σ:St) (ρ:En) (a:Fw):Prop:=∃ i t,Qa ρ i=.ow t∧σ[i]?=some (some (.ref a))
def MlA (σ:St) (ρ:En) (a:Fw):Prop:=∃ i t,Qa ρ i=.ml t∧σ[i]?=some (some (.ref a))
def PnA (σ:St) (ρ:En) (i:Nat) (a:Fw):Prop:=(∃ t,Qa ρ i=.ml t∨Qa ρ i=.ro t∨Qa ρ i=.fx t)∧σ[i]?=some (some (.ref a))
structure FI (B:Bs) (H:Hp) (G:Fw→Prop) (σ:St) (ρ:En):Prop where
 len:σ.length=ρ.length
 slot:∀ i,Qiq H G σ i (Qa ρ i)
 apart:∀ i j a,PrvAt σ ρ i a→PrvAt σ ρ j a→i=j
 prv:Pen H G
 chg:∀ b o,¬ B.O b→¬ B.M b→B.H b=some o→H b=some o
 keep:∀ b o,B.H b=some o→∃ o',H b=some o'
 newO:∀ a,OwA σ ρ a→B.H a=none∨B.O a
 newM:∀ a,MlA σ ρ a→B.M a
 fix:∀ i a,PnA σ ρ i a→B.P i a
 gg:∀ b,B.G b→G b
 gn:∀ b,G b→B.G b∨B.H b=none
 bp:∀ b,B.G b→∃ o,B.H b=some o
abbrev Qan (H:Hp) (G:Fw→Prop) (σ:St) (ρ:En):Bs:=⟨H,G,OwA σ ρ,MlA σ ρ,PnA σ ρ⟩
section
variable {B:Bs} {H H1 H2:Hp} {G G1:Fw→Prop} {σ σ1:St} {ρ ρ1 ρ2:En}
theorem FI.self (F:FI B H G σ ρ):FI (Qan H G σ ρ) H G σ ρ :=
 ⟨F.len,F.slot,F.apart,F.prv,fun _ _ _ _ e=>e,fun _ o e=>⟨o,e⟩,fun _ h=>.inr h,fun _ h=>h,fun _ _ h=>h,fun _ h=>h,fun _ h=>.inl h,fun b h=>let ⟨xs,e,_⟩:=F.prv b h;⟨_,e⟩⟩
theorem FI.ownG (F:FI B H G σ ρ) {a:Fw} (h:OwA σ ρ a):G a:=by
 obtain ⟨i,t,e,s⟩:=h
 have q:=F.slot i
 rw [e] at q
 obtain ⟨b,hb,g,_⟩:=q
 rw [s] at hb
 cases hb
 exact g
theorem FI.mlG (F:FI B H G σ ρ) {a:Fw} (h:MlA σ ρ a):G a:=by
 obtain ⟨i,t,e,s⟩:=h
 have q:=F.slot i
 rw [e] at q
 obtain ⟨b,hb,g,_⟩:=q
 rw [s] at hb
 cases hb
 exact g
theorem FI.same (F0:FI B H G σ ρ) (F:FI (Qan H G σ ρ) H1 G1 σ1 ρ1):Same (dls H G) (dls H1 G1):=fun b o e=>by
 obtain ⟨n,e⟩:=Qv e
 have e1:=F.chg b o (fun z=>n (F0.ownG z)) (fun z=>n (F0.mlG z)) e
 rw [Qba fun z=>?_]
 ·exact e1
 ·rcases F.gn b z with z | z
  ·exact n z
  ·rw [show H b=none from z] at e;cases e
theorem FI.trans (F0:FI B H G σ ρ) (F:FI (Qan H G σ ρ) H1 G1 σ1 ρ1):FI B H1 G1 σ1 ρ1 where
 len:=F.len
 slot:=F.slot
 apart:=F.apart
 prv:=F.prv
 chg:=fun b o h1 h2 e=>F.chg b o (fun z=>by
  rcases F0.newO b z with z | z
  ·rw [e] at z;cases z
  ·exact h1 z) (fun z=>h2 (F0.newM b z)) (F0.chg b o h1 h2 e)
 keep:=fun b o e=>by
  obtain ⟨o1,e1⟩:=F0.keep b o e
  exact F.keep b o1 e1
 newO:=fun a h=>by
  rcases F.newO a h with z | z
  ·refine .inl ?_
   cases e:B.H a with
   | none=>rfl
   | some o =>
    obtain ⟨o1,e1⟩:=F0.keep a o e
    rw [show H a=none from z] at e1
    cases e1
  ·exact F0.newO a z
 newM:=fun a h=>F0.newM a (F.newM a h)
 fix:=fun i a h=>F0.fix i a (F.fix i a h)
 gg:=fun b h=>F.gg b (F0.gg b h)
 gn:=fun b h=>by
  rcases F.gn b h with z | z
  ·exact F0.gn b z
  ·refine .inr ?_
   cases e:B.H b with
   | none=>rfl
   | some o =>
    obtain ⟨o1,e1⟩:=F0.keep b o e
    rw [show H b=none from z] at e1
    cases e1
 bp:=F0.bp
theorem FI.free (F:FI B H G σ ρ) {b:Fw} (h:H b=none):B.H b=none:=by
 cases e:B.H b with
 | none=>rfl
 | some o =>
  obtain ⟨o1,e1⟩:=F.keep b o e
  rw [h] at e1
  cases e1
theorem FI.grow (F:FI B H G σ ρ) (s:Same H H1):FI B H1 G σ ρ where
 len:=F.len
 slot:=fun i=>by
  have q:=F.slot i
  cases hs:Qa ρ i with
  | un=>trivial
  | fz t=>rw [hs] at q;obtain ⟨v,a,b⟩:=q;exact ⟨v,a,b.mono (Qa8 s)⟩
  | ow t=>rw [hs] at q;obtain ⟨a,h1,h2,o,h5,h6⟩:=q;exact ⟨a,h1,h2,o,s _ _ h5,h6.mono (Qa8 s)⟩
  | ml t=>rw [hs] at q;obtain ⟨a,h1,h2,o,h5,h6⟩:=q;exact ⟨a,h1,h2,o,s _ _ h5,h6.mono (Qa8 s)⟩
  | ro t=>rw [hs] at q;obtain ⟨a,h1,h2,o,h5,h6⟩:=q;exact ⟨a,h1,h2,o,s _ _ h5,h6.mono (Qa8 s)⟩
  | pin a=>rw [hs] at q;exact q
  | fx t=>rw [hs] at q;obtain ⟨v,o,a,e,b⟩:=q;exact ⟨v,o,a,Qa8 s _ _ e,b.mono (Qa8 s)⟩
 apart:=F.apart
 prv:=F.prv.mono s
 chg:=fun b o h1 h2 e=>s b o (F.chg b o h1 h2 e)
 keep:=fun b o e=>by
  obtain ⟨o1,e1⟩:=F.keep b o e
  exact ⟨o1,s _ _ e1⟩
 newO:=F.newO
 newM:=F.newM
 fix:=F.fix
 gg:=F.gg
 gn:=F.gn
 bp:=F.bp
end
section
variable {B:Bs} {H H1 H2:Hp} {G G1:Fw→Prop} {σ σ1:St} {ρ ρ1 ρ2:En} {t:T}
theorem FI.prvAt (F:FI B H G σ ρ) {i:Nat} (e:(Qa ρ i).prv=some t):∃ a,σ[i]?=some (some (.ref a))∧G a∧OwnAt H G a t:=by
 have q:=F.slot i
 cases hs:Qa ρ i with
 | un=>rw [hs] at e;cases e
 | fz t=>rw [hs] at e;cases e
 | ow t=>rw [hs] at e q;cases e;exact q
 | ml t=>rw [hs] at e q;cases e;exact q
 | ro t=>rw [hs] at e q;cases e;exact q
 | pin a=>rw [hs] at e;cases e
 | fx t=>rw [hs] at e;cases e
theorem Qfy {i:Nat} {s:Slot} (h:Qiq H G σ i s) (sm:Same (dls H G) (dls H1 G1)) (hk:∀ a o,(∃ t,s.prv=some t)→σ[i]?=some (some (.ref a))→H a=some o→H1 a=some o∧G1 a):Qiq H1 G1 σ i s:=by
 cases s with
 | un=>trivial
 | fz t=>obtain ⟨v,a,b⟩:=h;exact ⟨v,a,b.mono sm⟩
 | ow t=>obtain ⟨a,h1,h2,o,h5,h6⟩:=h;exact ⟨a,h1,(hk a _ ⟨_,rfl⟩ h1 h5).2,o,(hk a _ ⟨_,rfl⟩ h1 h5).1,h6.mono sm⟩
 | ml t=>obtain ⟨a,h1,h2,o,h5,h6⟩:=h;exact ⟨a,h1,(hk a _ ⟨_,rfl⟩ h1 h5).2,o,(hk a _ ⟨_,rfl⟩ h1 h5).1,h6.mono sm⟩
 | ro t=>obtain ⟨a,h1,h2,o,h5,h6⟩:=h;exact ⟨a,h1,(hk a _ ⟨_,rfl⟩ h1 h5).2,o,(hk a _ ⟨_,rfl⟩ h1 h5).1,h6.mono sm⟩
 | pin a=>exact h
 | fx t=>obtain ⟨v,o,a,e,b⟩:=h;exact ⟨v,o,a,sm _ _ e,b.mono sm⟩
theorem PrvAt.at (F:FI B H G σ ρ) {i:Nat} {a:Fw} (h:PrvAt σ ρ i a):G a∧∃ t,OwnAt H G a t:=by
 obtain ⟨⟨t,e⟩,s⟩:=h
 obtain ⟨b,sb,g,o⟩:=F.prvAt e
 rw [s] at sb
 cases sb
 exact ⟨g,t,o⟩
theorem OwA.prv {a:Fw} (h:OwA σ ρ a):∃ i,PrvAt σ ρ i a:=by
 obtain ⟨i,t,e,s⟩:=h
 exact ⟨i,⟨t,by rw [e];rfl⟩,s⟩
theorem MlA.prv {a:Fw} (h:MlA σ ρ a):∃ i,PrvAt σ ρ i a:=by
 obtain ⟨i,t,e,s⟩:=h
 exact ⟨i,⟨t,by rw [e];rfl⟩,s⟩
theorem Qwq {i:Nat} {a:Fw} (h:PrvAt σ ρ i a):OwA σ ρ a∨MlA σ ρ a∨PnA σ ρ i a:=by
 obtain ⟨⟨t,e⟩,s⟩:=h
 cases hs:Qa ρ i with
 | un=>rw [hs] at e;cases e
 | fz t=>rw [hs] at e;cases e
 | ow t=>exact .inl ⟨i,t,hs,s⟩
 | ml t=>exact .inr (.inl ⟨i,t,hs,s⟩)
 | ro t=>exact .inr (.inr ⟨⟨t,.inr (.inl hs)⟩,s⟩)
 | pin a=>rw [hs] at e;cases e
 | fx t=>rw [hs] at e;cases e
theorem FI.reG (F:FI B H G σ ρ) (sm:Same (dls H G) (dls H1 G1)) (s:Same H H1) (hk:∀ i a,PrvAt σ ρ i a→G1 a) (hp:Pen H1 G1) (gg:∀ b,B.G b→G1 b) (gn:∀ b,G1 b→B.G b∨B.H b=none):FI B H1 G1 σ ρ where
 len:=F.len
 slot:=fun i=>Qfy (F.slot i) sm fun a o h1 h2 e=>⟨s _ _ e,hk i a ⟨h1,h2⟩⟩
 apart:=F.apart
 prv:=hp
 chg:=fun b o h1 h2 e=>s b o (F.chg b o h1 h2 e)
 keep:=fun b o e=>by
  obtain ⟨o1,e1⟩:=F.keep b o e
  exact ⟨o1,s _ _ e1⟩
 newO:=F.newO
 newM:=F.newM
 fix:=F.fix
 gg:=gg
 gn:=gn
 bp:=F.bp
theorem FI.lessG (F:FI B H G σ ρ) (Z:Fw→Prop) (hz:∀ b,Z b→B.H b=none∧∀ i,¬ PrvAt σ ρ i b):FI B H (fun b=>G b∧¬ Z b) σ ρ:=by
 refine F.reG (Qce fun b h=>h.1) (Same.refl H) (fun i a h=>⟨(PrvAt.at F h).1,fun z=>(hz a z).2 i h⟩) (fun b h=>F.prv b h.1) (fun b h=>⟨F.gg b h,fun z=>?_⟩) fun b h=>F.gn b h.1
 obtain ⟨o,e⟩:=F.bp b h
 rw [(hz b z).1] at e
 cases e
theorem FI.addG (F:FI B H G σ ρ) {l:Fw} {vs:HO} (hl:H l=none) (s:Same H H1) (e:H1 l=some vs) (jA:Q78 vs=true):FI B H1 (fun b=>G b∨b=l) σ ρ:=by
 refine F.reG (fun b o eb=>?_) s (fun i a h=>.inl (PrvAt.at F h).1) (fun b hb=>?_) (fun b h=>.inl (F.gg b h)) (fun b h=>?_)
 ·obtain ⟨nb,eb⟩:=Qv eb
  rw [Qba fun z=>?_]
  ·exact s b o eb
  ·rcases z with z | z
   ·exact nb z
   ·rw [z,hl] at eb;cases eb
 ·rcases hb with hb | hb
  ·exact F.prv.mono s b hb
  ·exact ⟨vs,hb ▸ e,jA⟩
 ·rcases h with h | h
  ·exact F.gn b h
  ·exact .inr (h ▸ F.free hl)
end
def TmpR (H0:Hp) (H:Hp) (G:Fw→Prop) (σ:St) (ρ:En) (v:V) (t:T):Prop:=∃ a,v=.ref a∧H0 a=none∧G a∧(∀ i,¬ PrvAt σ ρ i a)∧OwnAt H G a t
def PVR (H0:Hp) (H:Hp) (G:Fw→Prop) (σ:St) (ρ:En) (v:V):PV→Prop
 | .fz t=>Is (dls H G) v t
 | .ow t=>TmpR H0 H G σ ρ v t
 | .sl i=>σ[i]?=some (some v)
section
variable {H0 H:Hp} {G:Fw→Prop} {σ:St} {ρ:En}
theorem PVR.is {v:V} {t:T} (h:PVR H0 H G σ ρ v (.fz t)):Is (dls H G) v t:=h
theorem pvI {i:Int}:PVR H0 H G σ ρ (.int i) (.fz (.int i)):=show Is (dls H G) (.int i) (.int i) from Is.int
theorem pvB {i:Bool}:PVR H0 H G σ ρ (.bl i) (.fz (.bl i)):=show Is (dls H G) (.bl i) (.bl i) from Is.bl
theorem pvN:PVR H0 H G σ ρ .non (.fz .non):=show Is (dls H G) .non .non from Is.non
end
def Rdb (H:Hp) (G:Fw→Prop) (v:V) (t:T):Prop:=Is (dls H G) v t∨∃ a,v=.ref a∧OwnAt H G a t
theorem Rdb.is {H:Hp} {G:Fw→Prop} {v:V} {t:T} (h:Rdb H G v t):Is H v t:=by
 rcases h with h | ⟨a,rfl,o,e,q⟩
 ·exact h.mono (Qye _ _)
 ·exact q.is e (Qye _ _)
theorem Rdb.lst {H:Hp} {G:Fw→Prop} {v:V} {ts:List T} (h:Rdb H G v (.lst ts)):∃ a vs,v=.ref a∧ts.length≤100000∧H a=some (.lst vs)∧IsL (dls H G) vs ts:=by
 rcases h with h | ⟨a,rfl,q⟩
 ·obtain ⟨a,vs,rfl,e,r⟩:=h.lst_inv
  exact ⟨a,vs,rfl,h.lst_len,(Qv e).2,r⟩
 ·obtain ⟨vs,z,h,r⟩:=q.lst_inv
  exact ⟨a,vs,rfl,z,h,r⟩
theorem Rdb.tup {H:Hp} {G:Fw→Prop} {v:V} {ts:List T} (h:Rdb H G v (.tup ts)):Is (dls H G) v (.tup ts):=by
 rcases h with h | ⟨a,_,q⟩
 ·exact h
 ·exact q.no_tup.elim
theorem Rdb.int {H:Hp} {G:Fw→Prop} {v:V} {i:Int} (h:Rdb H G v (.int i)):v=.int i:=h.is.int_inv
theorem Rdb.bl {H:Hp} {G:Fw→Prop} {v:V} {b:Bool} (h:Rdb H G v (.bl b)):v=.bl b:=by
 have q:=h.is
 unfold Is at q
 exact q
theorem Rdb.str {H:Hp} {G:Fw→Prop} {v:V} {b:Str} (h:Rdb H G v (.str b)):v=.str b:=by
 have q:=h.is
 unfold Is at q
 exact q
theorem Rdb.non {H:Hp} {G:Fw→Prop} {v:V} (h:Rdb H G v .non):v=.non:=by
 have q:=h.is
 unfold Is at q
 exact q
section
variable {B:Bs} {H H0 H1 H2:Hp} {G G1 G2:Fw→Prop} {σ σ1:St} {ρ ρ1 ρ2:En} {v:V} {r:PV} {t:T}
theorem PVR.rdb (h:PVR H0 H G σ ρ1 v r) (F:FI B H G σ ρ) (e:cont ρ r=some t):Rdb H G v t:=by
 cases r with
 | fz t=>cases e;exact .inl h
 | ow t =>
  cases e
  obtain ⟨a,rfl,_,_,_,q⟩:=h
  exact .inr ⟨a,rfl,q⟩
 | sl i =>
  obtain ⟨a,s,g,q⟩:=F.prvAt e
  have h:σ[i]?=some (some v):=h
  rw [s] at h
  cases h
  exact .inr ⟨a,rfl,q⟩
theorem OwnAt.mono {a:Fw} (h:OwnAt H G a t) (s:Same (dls H G) (dls H1 G1)) (e:∀ o,H a=some o→H1 a=some o):OwnAt H1 G1 a t:=by
 obtain ⟨o,h3,h4⟩:=h
 exact ⟨o,e _ h3,h4.mono s⟩
theorem FI.nobody (F0:FI B H G σ ρ) (F:FI (Qan H G σ ρ) H1 G1 σ ρ1) {a:Fw} {o:HO} (e:H a=some o) (n:∀ i,¬ PrvAt σ ρ i a):∀ i,¬ PrvAt σ ρ1 i a:=fun i h=>by
 have h0:=h
 rcases Qwq h with h | h | h
 ·rcases F.newO a h with z | z
  ·rw [show H a=none from z] at e;cases e
  ·obtain ⟨j,z⟩:=OwA.prv z;exact n j z
 ·obtain ⟨j,z⟩:=MlA.prv (F.newM a h);exact n j z
 ·obtain ⟨⟨t,z⟩,s⟩:=F.fix i a h
  have g1:=(PrvAt.at F h0).1
  rcases z with z | z | z
  ·exact n i ⟨⟨t,by rw [z];rfl⟩,s⟩
  ·exact n i ⟨⟨t,by rw [z];rfl⟩,s⟩
  ·have q:=F0.slot i
   rw [z] at q
   obtain ⟨b,o',sb,eb,_⟩:=q
   rw [s] at sb
   cases sb
   obtain ⟨ng,hb⟩:=Qv eb
   rcases F.gn a g1 with z | z
   ·exact ng z
   ·rw [show H a=none from z] at hb;cases hb
theorem PVR.step (h:PVR H0 H G σ ρ v r) (F0:FI B H G σ ρ) (F:FI (Qan H G σ ρ) H1 G1 σ ρ1):PVR H0 H1 G1 σ ρ1 v r:=by
 cases r with
 | fz t=>exact Is.mono (F0.same F) h
 | sl i=>exact h
 | ow t =>
  obtain ⟨a,rfl,n,g,np,q⟩:=h
  have q':=q
  obtain ⟨ob,ea,_⟩:=q
  refine ⟨a,rfl,n,F.gg a g,F0.nobody F ea np,q'.mono (F0.same F) fun o e=>F.chg a o (fun z=>?_) (fun z=>?_) e⟩
  ·obtain ⟨j,z⟩:=OwA.prv z;exact np j z
  ·obtain ⟨j,z⟩:=MlA.prv z;exact np j z
theorem PVR.early (h:PVR H1 H2 G2 σ ρ2 v r) (F:FI (Qan H G σ ρ) H1 G1 σ ρ1):PVR H H2 G2 σ ρ2 v r:=by
 cases r with
 | fz t=>exact h
 | sl i=>exact h
 | ow t =>
  obtain ⟨a,rfl,n,g⟩:=h
  exact ⟨a,rfl,F.free n,g⟩
end
def argR (H:Hp) (dx:Option Fw):List Int→Prop
 | []=>dx=none
 | [i]=>∃ d,dx=some d∧H d=some (.xd [("at",.int i)])
 | [i,j]=>∃ d,dx=some d∧H d=some (.xd [("many",.int i),("most",.int j)])
 | _=>False
def Q8o (mg:Str→Option Fx) (H:Hp) (x:Xn) (cls:Fx) (dx:Option Fw):Prop:=∃ nm,Qsg[x.c]?=some nm∧cls=.ref (cad mg nm)∧argR H dx x.arg
structure Pr where
 cf:CF
 R:XR
 mg:Str→Option Fx
def Fin (p:Pr) (B:Bs) (σ:St) {α:Type} (o:Out α) (K:α→En→Prop):Prop:=match o with
 | .ok a ρ1=>K a ρ1
 | .xn x ρ1=>∀ cls dx H1 G1,FI B H1 G1 σ ρ1→Q8o p.mg H1 x cls dx→p.R cls dx σ H1
 | .no=>False
def tE (p:Pr) (e:E):TE:=fun σ H Q=>∃ G ρ,FI (Qan H G σ ρ) H G σ ρ∧Fin p (Qan H G σ ρ) σ (evE p.cf e ρ) fun r ρ1=>∀ v H1 G1,FI (Qan H G σ ρ) H1 G1 σ ρ1→PVR H H1 G1 σ ρ1 v r→Q v H1
inductive PVRs (H0:Hp) (H:Hp) (G:Fw→Prop) (σ:St) (ρ:En):List V→List PV→Prop where
 | nil:PVRs H0 H G σ ρ [] []
 | cons {v r vs rs}:PVR H0 H G σ ρ v r→PVRs H0 H G σ ρ vs rs→PVRs H0 H G σ ρ (v::vs) (r::rs)
def tA (p:Pr) (es:Es):TA:=fun σ H Q=>∃ G ρ,FI (Qan H G σ ρ) H G σ ρ∧Fin p (Qan H G σ ρ) σ (evA p.cf es ρ) fun rs ρ1=>∀ vs H1 G1,FI (Qan H G σ ρ) H1 G1 σ ρ1→PVRs H H1 G1 σ ρ1 vs rs→Q vs H1
def tT (p:Pr) (e:E):TT:=fun σ H Q=>∃ G ρ,FI (Qan H G σ ρ) H G σ ρ∧Fin p (Qan H G σ ρ) σ (Q6 (evE p.cf e ρ)) fun b ρ1=>∀ H1 G1,FI (Qan H G σ ρ) H1 G1 σ ρ1→Q b H1
section
variable {p:Pr} {B:Bs} {H H0 H1 H2:Hp} {G G1:Fw→Prop} {σ:St} {ρ ρ1 ρ2:En} {α β:Type}
theorem Fin.bind {o:Out α} {k:α→En→Out β} {K:β→En→Prop} (h:Fin p B σ (o.bind k) K):Fin p B σ o fun a ρ1=>Fin p B σ (k a ρ1) K:=by
 cases o with
 | ok a ρ1=>exact h
 | xn x ρ1=>exact h
 | no=>exact h
theorem Fin.imp {o:Out α} {K K':α→En→Prop} (h:Fin p B σ o K) (q:∀ a ρ1,K a ρ1→K' a ρ1):Fin p B σ o K':=by
 cases o with
 | ok a ρ1=>exact q _ _ h
 | xn x ρ1=>exact h
 | no=>exact h
theorem Fin.rebase {o:Out α} {K K':α→En→Prop} (F:FI B H1 G σ ρ1) (h:Fin p B σ o K) (q:∀ a ρ2,K a ρ2→K' a ρ2):Fin p (Qan H1 G σ ρ1) σ o K':=by
 cases o with
 | ok a ρ1=>exact q _ _ h
 | xn x ρ1=>exact fun cls dx H2 G2 F2=>h cls dx H2 G2 (F.trans F2)
 | no=>exact h
theorem Qug {e:E} {Q:VK} {K:PV→En→Prop} (F:FI B H1 G σ ρ1) (h:Fin p B σ (evE p.cf e ρ1) K) (q:∀ r ρ2 v H2 G2,K r ρ2→FI B H2 G2 σ ρ2→FI (Qan H1 G σ ρ1) H2 G2 σ ρ2→PVR H1 H2 G2 σ ρ2 v r→Q v H2):tE p e σ H1 Q :=
 ⟨G,ρ1,F.self,h.rebase F fun r ρ2 k v H2 G2 F2 pv=>q r ρ2 v H2 G2 k (F.trans F2) F2 pv⟩
theorem Qacf {es:Es} {Q:List V→Hp→Prop} {K:List PV→En→Prop} (F:FI B H1 G σ ρ1) (h:Fin p B σ (evA p.cf es ρ1) K) (q:∀ r ρ2 v H2 G2,K r ρ2→FI B H2 G2 σ ρ2→FI (Qan H1 G σ ρ1) H2 G2 σ ρ2→PVRs H1 H2 G2 σ ρ2 v r→Q v H2):tA p es σ H1 Q :=
 ⟨G,ρ1,F.self,h.rebase F fun r ρ2 k v H2 G2 F2 pv=>q r ρ2 v H2 G2 k (F.trans F2) F2 pv⟩
theorem Qy2 {e:E} {Q:Bool→Hp→Prop} {K:Bool→En→Prop} (F:FI B H1 G σ ρ1) (h:Fin p B σ (Q6 (evE p.cf e ρ1)) K) (q:∀ b ρ2 H2 G2,K b ρ2→FI B H2 G2 σ ρ2→FI (Qan H1 G σ ρ1) H2 G2 σ ρ2→Q b H2):tT p e σ H1 Q :=
 ⟨G,ρ1,F.self,h.rebase F fun r ρ2 k H2 G2 F2=>q r ρ2 H2 G2 k (F.trans F2) F2⟩
theorem tE2 {a b:E} {f:PV→PV→En→Out β} {K:β→En→Prop} {Z:V→V→Hp→Prop} (F:FI (Qan H G σ ρ) H G σ ρ) (h:Fin p (Qan H G σ ρ) σ ((evE p.cf a ρ).bind fun ra ρ1=>(evE p.cf b ρ1).bind fun rb ρ2=>f ra rb ρ2) K)
  (q:∀ ra rb ρ2 x y H2 G2,FI (Qan H G σ ρ) H2 G2 σ ρ2→PVR H H2 G2 σ ρ2 x ra→PVR H H2 G2 σ ρ2 y rb→Fin p (Qan H G σ ρ) σ (f ra rb ρ2) K→Z x y H2):tE p a σ H fun x H1=>tE p b σ H1 fun y H2=>Z x y H2:=by
 refine ⟨G,ρ,F,h.bind.imp fun ra ρ1 h1 x H1 G1 F1 r1=>?_⟩
 refine Qug F1 h1.bind fun rb ρ2 y H2 G2 h2 F2 F2' r2=>?_
 exact q ra rb ρ2 x y H2 G2 F2 (r1.step F1 F2') (r2.early F1) h2
theorem Qlb {o:Out PV} {K:Bool→En→Prop} (h:Fin p B σ (Q6 o) K):Fin p B σ o fun r ρ1=>∃ b,r=.fz (.bl b)∧K b ρ1:=by
 cases o with
 | ok r ρ1 =>
  cases r with
  | fz t=>cases t <;> first | exact ⟨_,rfl,h⟩ | exact Zfb h
  | ow t=>exact Zfb h
  | sl i=>exact Zfb h
 | xn x ρ1=>exact h
 | no=>exact h
end
theorem QE.weak {X:Cx} {e:Fr} {t t':TE} (h:QE X e t) (q:∀ σ H Q,t' σ H Q→t σ H Q):QE X e t':=⟨h.h.weak q⟩
theorem QA.weak {X:Cx} {e:List Fr} {t t':TA} (h:QA X e t) (q:∀ σ H Q,t' σ H Q→t σ H Q):QA X e t':=⟨h.h.weak q⟩
theorem QT.weak {X:Cx} {e:Fr} {t t':TT} (h:QT X e t) (q:∀ σ H Q,t' σ H Q→t σ H Q):QT X e t':=⟨fun aa s σ H Q I z=>h.h aa s σ H Q I (q _ _ _ z)⟩
theorem QW.weak {X:Cx} {e:Fr} {t t':TT} (h:QW X e t) (q:∀ σ H Q,t' σ H Q→t σ H Q):QW X e t':=⟨fun wh aa s σ H Q I z=>h.h wh aa s σ H Q I (q _ _ _ z)⟩
section
variable {X:Cx} {p:Pr} {e a b:Fr} {es:List Fr} {e' a' b' c':E} {aq:Es} {pos p1 p2 p3:Pos} {x:Str}
theorem Qacg {i:Nat} (hN:X.N[i]?=some x) (hv:Vis X.env.scope x) (hd:(x==("__debug__" : Str))=false) (aT:(x==("__classdict__" : Str))=false):QE X (.Name x pos) (tE p (.var i)) :=
 (Qd1 i hN hv hd aT).weak fun σ H Q ⟨G,ρ,F,h⟩=>by
  have q:=F.slot i
  unfold evE at h
  cases hs:Qa ρ i with
  | un=>rw [hs] at h;exact Zfb h
  | pin _=>rw [hs] at h;exact Zfb h
  | fx t=>rw [hs] at h q;obtain ⟨v,o,e,_,r⟩:=q;exact ⟨_,e,h _ H G F r⟩
  | fz t=>rw [hs] at h q;obtain ⟨v,e,r⟩:=q;exact ⟨v,e,h v H G F r⟩
  | ow t=>rw [hs] at h q;obtain ⟨a,e,_⟩:=q;exact ⟨_,e,h _ H G F e⟩
  | ml t=>rw [hs] at h q;obtain ⟨a,e,_⟩:=q;exact ⟨_,e,h _ H G F e⟩
  | ro t=>rw [hs] at h q;obtain ⟨a,e,_⟩:=q;exact ⟨_,e,h _ H G F e⟩
theorem Qu {i j}:QE X (.Constant (.int i) j pos) (tE p (.int i)):=Qm5.weak fun σ H Q ⟨G,ρ,F,h⟩=>by unfold evE at h;exact h _ H G F pvI
theorem Qqd {i j}:QE X (.Constant (.bool i) j pos) (tE p (.bl i)):=q_bl.weak fun σ H Q ⟨G,ρ,F,h⟩=>by unfold evE at h;exact h _ H G F pvB
theorem Qgl {j}:QE X (.Constant .none j pos) (tE p .non):=Qaba.weak fun σ H Q ⟨G,ρ,F,h⟩=>by unfold evE at h;exact h _ H G F pvN
theorem Q8p {i:Int} (h:∃ u,X.mg x=some u∧RelV (.int i) u) (hg:Gl X x) (hd:(x==("__debug__" : Str))=false):QE X (.Name x pos) (tE p (.int i)) :=
 (Q7v h hg hd).weak fun σ H Q ⟨G,ρ,F,h⟩=>by unfold evE at h;exact h _ H G F pvI
theorem Qj:QA X [] (tA p .nil):=Qby.weak fun σ H Q ⟨G,ρ,F,h⟩=>by unfold evA at h;exact h [] H G F .nil
theorem PVRs.early {H H1 H2:Hp} {G G1 G2:Fw→Prop} {σ:St} {ρ ρ1 ρ2:En} {vs:List V} {rs:List PV} (h:PVRs H1 H2 G2 σ ρ2 vs rs) (F:FI (Qan H G σ ρ) H1 G1 σ ρ1):PVRs H H2 G2 σ ρ2 vs rs:=by
 induction h with
 | nil=>exact .nil
 | cons a _ ih=>exact .cons (a.early F) ih
theorem Q8q (ha:QE X e (tE p e')) (hr:QA X es (tA p aq)) (hs:Qr e=true):QA X (e::es) (tA p (.cons e' aq)) :=
 (Qas ha hr hs).weak fun σ H Q ⟨G,ρ,F,h⟩=>by
  unfold evA at h
  refine ⟨G,ρ,F,h.bind.imp fun r ρ1 h1 v H1 G1 F1 r1=>?_⟩
  refine Qacf F1 h1.bind fun rs ρ2 vs H2 G2 h2 F2 F2' r2=>?_
  exact h2 (v::vs) H2 G2 F2 (.cons (r1.step F1 F2') (r2.early F1))
def Qlc:List V→List PV→Fw→Prop
 | v::vs,.ow _::rs,b=>v=.ref b∨Qlc vs rs b
 | _::vs,_::rs,b=>Qlc vs rs b
 | _,_,_=>False
theorem PVRs.tmp {H0 H:Hp} {G:Fw→Prop} {σ:St} {ρ:En} {vs:List V} {rs:List PV} (h:PVRs H0 H G σ ρ vs rs) {b:Fw} (z:Qlc vs rs b):H0 b=none∧∀ i,¬ PrvAt σ ρ i b:=by
 induction h with
 | nil=>exact Zfb z
 | cons a _ ih =>
  rename_i v r vs rs _
  cases r with
  | fz t=>exact ih z
  | sl i=>exact ih z
  | ow t =>
   rcases z with z | z
   ·obtain ⟨c,e,n,_,np,_⟩:=a
    rw [z] at e
    cases e
    exact ⟨n,np⟩
   ·exact ih z
theorem PVRs.frz {H0 H:Hp} {G G':Fw→Prop} {σ:St} {ρ:En} {vs:List V} {rs:List PV} (h:PVRs H0 H G σ ρ vs rs) (s:∀ b,G' b→G b) (n:∀ b,Qlc vs rs b→¬ G' b):∀ {ts:List T},Qbw rs=some ts→IsL (dls H G') vs ts:=by
 induction h with
 | nil=>intro ts e;cases e;exact .nil
 | cons a _ ih =>
  intro ts e
  rename_i v r vs rs _
  unfold Qbw at e
  cases h1:L2.frz r with
  | none=>rw [h1] at e;cases e
  | some t =>
   cases h2:Qbw rs with
   | none=>rw [h1,h2] at e;cases e
   | some us =>
    rw [h1,h2] at e
    cases e
    cases r with
    | sl i=>cases h1
    | fz t' =>
     cases h1
     exact .cons (Is.mono (Qce s) a) (ih (fun b z=>n b z) h2)
    | ow t' =>
     cases h1
     obtain ⟨c,rfl,_,_,_,ob,ec,q⟩:=a
     exact .cons (q.is (by rw [Qba (n c (.inl rfl))];exact ec) (Qce s)) (ih (fun b z=>n b (.inr z)) h2)
theorem PVRs.lay {B:Bs} {H:Hp} {G:Fw→Prop} {σ:St} {ρ:En} {vs:List V} {rs:List PV} {ts:List T} (h:PVRs B.H H G σ ρ vs rs) (F:FI B H G σ ρ) (e:Qbw rs=some ts):∃ G',FI B H G' σ ρ∧IsL (dls H G') vs ts∧∀ b,G' b→G b :=
 ⟨_,F.lessG (Qlc vs rs) fun b z=>h.tmp z,h.frz (fun b z=>z.1) (fun b z y=>y.2 z) e,fun b z=>z.1⟩
theorem PVR.lay {B:Bs} {H:Hp} {G:Fw→Prop} {σ:St} {ρ:En} {v:V} {r:PV} {t:T} (h:PVR B.H H G σ ρ v r) (F:FI B H G σ ρ) (e:L2.frz r=some t):∃ G',FI B H G' σ ρ∧Is (dls H G') v t∧∀ b,G' b→G b:=by
 obtain ⟨G',F',i,s⟩:=PVRs.lay (.cons h .nil) F (ts:=[t]) (by unfold Qbw;rw [e];rfl)
 obtain ⟨v',w,e,a,_⟩:=i.cons_inv
 cases e
 exact ⟨G',F',a,s⟩
theorem Qcm {x1} (h:QA X es (tA p aq)):QE X (.Tuple es x1 pos) (tE p (.tup aq)) :=
 (Qabh h).weak fun σ H Q ⟨G,ρ,F,h⟩=>by
  unfold evE at h
  refine ⟨G,ρ,F,h.bind.imp fun rs ρ1 h1 vs H1 G1 F1 r1=>?_⟩
  cases e:Qbw rs with
  | none=>rw [e] at h1;exact Zfb h1
  | some ts =>
   rw [e] at h1
   by_cases z:ts.length≤100000
   ·simp only [Zb z] at h1
    obtain ⟨G',F',r,_⟩:=PVRs.lay (B:=Qan H G σ ρ) r1 F1 e
    refine Q8a F'.prv r z fun y H2 s2 i2=>h1 y H2 G' (F'.grow s2) i2
   ·simp only [Zd z] at h1
    exact Zfb h1
theorem Qy3 {B:Bs} {H H1:Hp} {G:Fw→Prop} {σ:St} {ρ:En} {l:Fw} {ob:HO} {t:T} (F:FI B H G σ ρ) (hl:H l=none) (s:Same H H1) (e:H1 l=some ob) (r:OwnO (dls H G) t ob) :
  FI B H1 (fun b=>G b∨b=l) σ ρ∧PVR B.H H1 (fun b=>G b∨b=l) σ ρ (.ref l) (.ow t):=by
 refine ⟨F.addG hl s e r.pen,l,rfl,F.free hl,.inr rfl,fun i h=>?_,ob,e,r.mono fun b o eb=>?_⟩
 ·obtain ⟨_,t,o,ea,_⟩:=PrvAt.at F h
  rw [hl] at ea
  cases ea
 ·obtain ⟨nb,eb⟩:=Qv eb
  rw [Qba fun z=>?_]
  ·exact s b o eb
  ·rcases z with z | z
   ·exact nb z
   ·rw [z,hl] at eb;cases eb
theorem Qhh {B:Bs} {H H1:Hp} {G:Fw→Prop} {σ:St} {ρ:En} {l:Fw} {vs:List V} {ts:List T} (F:FI B H G σ ρ) (hl:H l=none) (s:Same H H1) (e:H1 l=some (.lst vs)) (r:IsL (dls H G) vs ts) (z:ts.length≤100000) :
  FI B H1 (fun b=>G b∨b=l) σ ρ∧PVR B.H H1 (fun b=>G b∨b=l) σ ρ (.ref l) (.ow (.lst ts)):=Qy3 F hl s e ⟨z,r⟩
theorem Qb4 (h:QA X es (tA p aq)):QE X (.List es pos) (tE p (.lst aq)) :=
 (Q48 h).weak fun σ H Q ⟨G,ρ,F,h⟩=>by
  unfold evE at h
  refine ⟨G,ρ,F,h.bind.imp fun rs ρ1 h1 vs H1 G1 F1 r1=>?_⟩
  cases e:Qbw rs with
  | none=>rw [e] at h1;exact Zfb h1
  | some ts =>
   rw [e] at h1
   by_cases z:ts.length≤100000
   ·simp only [Zb z] at h1
    obtain ⟨G',F',r,_⟩:=PVRs.lay (B:=Qan H G σ ρ) r1 F1 e
    refine Q8b F'.prv r z fun l H2 s2 n2 e2 i2=>?_
    obtain ⟨F2,r2⟩:=Qhh F' n2 s2 e2 r z
    exact h1 _ H2 _ F2 r2
   ·simp only [Zd z] at h1
    exact Zfb h1
theorem Qog {B:Bs} {σ:St} {ρ:En} {α:Type} {o:Option α} {K:α→En→Prop} (h:Fin p B σ (.opt o ρ) K):∃ a,o=some a∧K a ρ:=by
 cases o with
 | none=>exact Zfb h
 | some a=>exact ⟨a,rfl,h⟩
theorem Qy4 {B:Bs} {σ:St} {ρ:En} {α:Type} {ra rb:PV} {f:T→T→Out α} {K:α→En→Prop} (h:Fin p B σ (match cont ρ ra,cont ρ rb with | some x,some y=>f x y | _,_=>.no) K):∃ x y,cont ρ ra=some x∧cont ρ rb=some y∧Fin p B σ (f x y) K:=by
 cases h1:cont ρ ra with
 | none=>rw [h1] at h;exact Zfb h
 | some x =>
  cases h2:cont ρ rb with
  | none=>rw [h1,h2] at h;exact Zfb h
  | some y=>rw [h1,h2] at h;exact ⟨x,y,rfl,rfl,h⟩
def Op2 (r:R2) (f:T→T→Option PV):Prop:=∀ (B:Bs) (H:Hp) (G:Fw→Prop) (σ:St) (ρ:En) (x y:V) (t u:T) (w:PV) (Q:VK),FI B H G σ ρ→Rdb H G x t→Rdb H G y u→f t u=some w→(∀ v H1 G1,FI B H1 G1 σ ρ→PVR B.H H1 G1 σ ρ v w→Q v H1)→r x y H Q
theorem Qnd {op:Operator} {r:R2} {o:BOp} (ho:QOp X (binaryOp op) r) (hs:Op2 r (opB o)) (ha:QE X a (tE p a')) (hb:QE X b (tE p b')):QE X (.BinOp a op b pos) (tE p (.bin o a' b')) :=
 (q_op ho ha hb).weak fun σ H Q ⟨G,ρ,F,h⟩=>by
  unfold evE at h
  refine tE2 F h fun ra rb ρ2 x y H2 G2 F2 r1 r2 h2=>?_
  obtain ⟨t,u,c1,c2,h3⟩:=Qy4 h2
  obtain ⟨w,e,k⟩:=Qog h3
  exact hs _ H2 G2 σ ρ2 x y t u w Q F2 (r1.rdb F2 c1) (r2.rdb F2 c2) e fun v H3 G3 F3 pv=>k v H3 G3 F3 pv
theorem Qeu {t:T} {i:Int} (e:asI t=some i):t=.int i:=by
 cases t <;> first | (cases e;done) | skip
 cases e
 rfl
theorem Qkj {o:BOp} {t u:T} {w:PV} (e:opB o t u=some w) (hx:∀ t u,opX o t u=none):∃ i j,t=.int i∧u=.int j∧opN o i j=some w:=by
 unfold opB at e
 cases h1:asI t with
 | none=>rw [h1] at e;exact absurd e (by simp [hx])
 | some i =>
  cases h2:asI u with
  | none=>rw [h1,h2] at e;exact absurd e (by simp [hx])
  | some j=>rw [h1,h2] at e;exact ⟨i,j,Qeu h1,Qeu h2,e⟩
theorem Quh {o:BOp} {t u:T} {w:PV} (e:opB o t u=some w):(∃ i j,t=.int i∧u=.int j∧opN o i j=some w)∨opX o t u=some w:=by
 unfold opB at e
 cases h1:asI t with
 | none=>rw [h1] at e;exact .inr e
 | some i =>
  cases h2:asI u with
  | none=>rw [h1,h2] at e;exact .inr e
  | some j=>rw [h1,h2] at e;exact .inl ⟨i,j,Qeu h1,Qeu h2,e⟩
theorem Q27 (K:Fz):Op2 (Qm4 K) (opB .add):=by
 intro B H G σ ρ x y t u w Q F hx hy e q
 rcases Quh e with ⟨i,j,rfl,rfl,e⟩ | e1
 ·obtain rfl:=hx.int
  obtain rfl:=hy.int
  cases e
  exact .inl ⟨_,_,rfl,rfl,q _ H G F pvI⟩
 replace e:Q8j t u=some w:=e1
 clear e1
 unfold Q8j at e
 split at e
 ·rename_i ts us
  by_cases z:ts.length+us.length≤100000
  ·rw [Zb z] at e;cases e
   exact Q79 F.prv hx.tup hy.tup z fun v H1 s1 i1=>q v H1 G (F.grow s1) i1
  ·rw [Zd z] at e;cases e
 ·rename_i ts us
  by_cases z:ts.length+us.length≤100000
  ·rw [Zb z] at e;cases e
   obtain ⟨a,vs,rfl,z1,ea,r1⟩:=hx.lst
   obtain ⟨b,ws,rfl,z2,eb,r2⟩:=hy.lst
   refine .inr (.inl ⟨a,b,vs,ws,rfl,rfl,ea,eb,Qbo (by rw [r1.length,r2.length];exact z),fun l hl=>?_⟩)
   obtain ⟨F2,r3⟩:=Qhh F hl (Same.upd hl) Qt (r1.append r2) (by rw [Zq];exact z)
   exact q _ _ _ F2 r3
  ·rw [Zd z] at e;cases e
 ·cases e
theorem Q28:Op2 (rI0 fun i j=>.int (i-j)) (opB .sub):=by
 intro B H G σ ρ x y t u w Q F hx hy e q
 obtain ⟨i,j,rfl,rfl,e⟩:=Qkj e fun _ _=>rfl
 obtain rfl:=hx.int
 obtain rfl:=hy.int
 cases e
 exact ⟨_,_,rfl,rfl,q _ H G F pvI⟩
theorem Qqe {i:Int} (h:i.natAbs<2^250):Builtin.Int.intBits i≤2^20:=by
 have h1:Builtin.Int.intBits i≤250:=by
  unfold Builtin.Int.intBits
  split
  ·exact Zbb _
  ·rename_i hn
   have h0:i.natAbs≠0:=by
    intro z
    exact hn (by simpa using z)
   have h2:i.natAbs.log2<250:=(Nat.log2_lt h0).mpr h
   omega
 exact Zav h1 (by decide)
theorem Qqf {i:Int} (h:i.natAbs.log2<9000):Builtin.Int.intBits i≤2^20:=by
 have h1:Builtin.Int.intBits i≤9000:=by
  unfold Builtin.Int.intBits
  split
  ·exact Zbb _
  ·omega
 exact Zav h1 (by decide)
theorem Q29 {i j:Int} (h:Qer i j=true):IntMulOk i j:=by
 unfold Qer at h
 simp only [Zcq,Zm,Z5] at h
 rcases h with h | h | ⟨h1,h2⟩ | ⟨h1,h2⟩
 ·exact CMul.ok (.inl ⟨by omega,by omega⟩)
 ·exact CMul.ok (.inr ⟨by omega,by omega⟩)
 ·exact .of_bits (Qqe h1) (Qqe h2)
 ·exact .of_bits (Qqf h1) (Qqf h2)
def Q5j:R2:=fun x y H Q=>(rI (fun i j=>IntMulOk i j) fun i j=>.int (i*j)) x y H Q∨Q45 x y H Q
theorem Q8r:QOp X (binaryOp .Mult) Q5j:=⟨(opI fun _ _ _ _ _ _ _ hc q=>mul_int q hc).or uMul⟩
theorem Q3a:Op2 Q5j (opB .mul):=by
 intro B H G σ ρ x y t u w Q F hx hy e q
 rcases Quh e with ⟨i,j,rfl,rfl,e⟩ | e1
 ·obtain rfl:=hx.int
  obtain rfl:=hy.int
  have e':(if Qer i j=true then some (PV.fz (.int (i*j))) else none)=some w:=e
  by_cases z:Qer i j=true
  ·rw [Zb z] at e';cases e'
   exact .inl ⟨_,_,rfl,rfl,Q29 z,q _ H G F pvI⟩
  ·rw [Zd z] at e';cases e'
 replace e:Q8k t (asI u)=some w:=e1
 clear e1
 unfold Q8k at e
 split at e
 ·rename_i ts k hk
  obtain rfl:=Qeu hk
  obtain rfl:=hy.int
  by_cases z:ts.length*k.toNat≤100000∧1≤k∧k.natAbs≤100000∧ts≠[]
  ·rw [Zb z] at e;cases e
   obtain ⟨a,vs,rfl,ha,r⟩:=hx.tup.tup_inv
   obtain ⟨z1,z2,z3,z4⟩:=z
   have hl:=r.length
   refine .inr (.inr (.inr ⟨a,k,vs,rfl,rfl,(Qv ha).2,fun e=>?_,z2,by omega,Qbo (by rw [hl];exact z1),fun l H1 s1 e1 _=>q _ H1 G (F.grow s1) (Qd2 (F.prv.mono s1) e1 ((r.flat k.toNat).mono (Qa8 s1)) ?_)⟩))
   ·rw [e] at hl
    exact z4 (Zb8.mp hl.symm)
   ·rw [Qie,Zdp];exact z1
  ·rw [Zd z] at e;cases e
 ·rename_i ts k hk
  obtain rfl:=Qeu hk
  obtain rfl:=hy.int
  by_cases z:ts.length*k.toNat≤100000∧1≤k∧k.natAbs≤100000
  ·rw [Zb z] at e;cases e
   obtain ⟨a,vs,rfl,z1,ea,r1⟩:=hx.lst
   obtain ⟨z2,z3,z4⟩:=z
   refine .inr (.inr (.inl ⟨a,k,vs,rfl,rfl,ea,by omega,by omega,Qbo (by rw [r1.length];exact z2),fun l hl=>?_⟩))
   obtain ⟨F2,r3⟩:=Qhh F hl (Same.upd hl) Qt (r1.flat k.toNat) (by rw [Qie,Zdp];exact z2)
   exact q _ _ _ F2 r3
  ·rw [Zd z] at e;cases e
 ·cases e
def CDvF (i j:Int):Prop:=j≠0∧j.natAbs<2^250
theorem Q8s:QOp X (binaryOp .FloorDiv) (rI CDvF fun i j=>.int (i.fdiv j)):=⟨opI fun i j _ _ _ _ _ hc q=>floordiv_int hc.1 q (.inl (PyProof.noPylong_of_log2 (by
 have h1:j.natAbs≠0:=by have:=hc.1;omega
 have h2:j.natAbs.log2<250:=(Nat.log2_lt h1).mpr hc.2
 omega)))⟩
theorem Q8t:QOp X (binaryOp .Mod) (rI (fun _ j=>j≠0) fun i j=>.int (i.fmod j)):=⟨Q18⟩
theorem Q3b:Op2 (rI CDvF fun i j=>.int (i.fdiv j)) (opB .fdv):=by
 intro B H G σ ρ x y t u w Q F hx hy e q
 obtain ⟨i,j,rfl,rfl,e⟩:=Qkj e fun _ _=>rfl
 obtain rfl:=hx.int
 obtain rfl:=hy.int
 have e':(if 0<j∧j.natAbs<2^64 then some (PV.fz (.int (i / j))) else if j≠0∧j.natAbs<2^250 then some (.fz (.int (i.fdiv j))) else none)=some w:=e
 by_cases z:0<j∧j.natAbs<2^64
 ·rw [Zb z] at e';cases e'
  refine ⟨_,_,rfl,rfl,⟨by omega,Nat.lt_trans z.2 (by decide)⟩,?_⟩
  show Q (.int (i.fdiv j)) H
  rw [Zdw i (by omega)]
  exact q _ H G F pvI
 ·rw [Zd z] at e'
  by_cases z2:j≠0∧j.natAbs<2^250
  ·rw [Zb z2] at e';cases e'
   exact ⟨_,_,rfl,rfl,z2,q _ H G F pvI⟩
  ·rw [Zd z2] at e';cases e'
theorem Q3c:Op2 (rI (fun _ j=>j≠0) fun i j=>.int (i.fmod j)) (opB .mod):=by
 intro B H G σ ρ x y t u w Q F hx hy e q
 obtain ⟨i,j,rfl,rfl,e⟩:=Qkj e fun _ _=>rfl
 obtain rfl:=hx.int
 obtain rfl:=hy.int
 have e':(if 0<j then some (PV.fz (.int (i%j))) else if j<0 then some (.fz (.int (i.fmod j))) else none)=some w:=e
 by_cases z:0<j
 ·rw [Zb z] at e';cases e'
  refine ⟨_,_,rfl,rfl,by omega,?_⟩
  show Q (.int (i.fmod j)) H
  rw [Zdx i (by omega)]
  exact q _ H G F pvI
 ·rw [Zd z] at e'
  by_cases z2:j<0
  ·rw [Zb z2] at e';cases e'
   exact ⟨_,_,rfl,rfl,by omega,q _ H G F pvI⟩
  ·rw [Zd z2] at e';cases e'
theorem Q3d:Op2 (rI Q64 fun i j=>.int (i^j.toNat)) (opB .pow):=by
 intro B H G σ ρ x y t u w Q F hx hy e q
 obtain ⟨i,j,rfl,rfl,e⟩:=Qkj e fun _ _=>rfl
 obtain rfl:=hx.int
 obtain rfl:=hy.int
 have e':(if 0≤j∧j.natAbs≤1000000∧i.natAbs<2^64 then some (PV.fz (.int (i^j.toNat))) else none)=some w:=e
 by_cases z:0≤j∧j.natAbs≤1000000∧i.natAbs<2^64
 ·rw [Zb z] at e';cases e'
  exact ⟨_,_,rfl,rfl,⟨z.1,by omega,z.2.2⟩,q _ H G F pvI⟩
 ·rw [Zd z] at e';cases e'
theorem Qui (ha:QE X a (tE p a')):QE X (.UnaryOp .USub a pos) (tE p (.neg a')) :=
 (q_un Qabm ha).weak fun σ H Q ⟨G,ρ,F,h⟩=>by
  unfold evE at h
  refine ⟨G,ρ,F,h.bind.imp fun r ρ1 h1 v H1 G1 F1 r1=>?_⟩
  cases r with
  | fz t =>
   cases t <;> first | exact Zfb h1 | skip
   obtain rfl:=r1.is.int_inv
   exact ⟨_,rfl,h1 _ H1 G1 F1 pvI⟩
  | ow t=>exact Zfb h1
  | sl i=>exact Zfb h1
theorem PVR.bl {H0 H:Hp} {G:Fw→Prop} {σ:St} {ρ:En} {v:V} {b:Bool} (h:PVR H0 H G σ ρ v (.fz (.bl b))):v=.bl b:=by
 have q:=h.is
 unfold Is at q
 exact q
theorem Qqg {Q:Bool→Hp→Prop} {σ:St} {H:Hp} (h:tT p e' σ H Q):tE p e' σ H fun x H1=>∃ c,x=.bl c∧Q c H1:=by
 obtain ⟨G,ρ,F,h⟩:=h
 refine ⟨G,ρ,F,(Qlb h).imp ?_⟩
 rintro r ρ1 ⟨b,rfl,k⟩ v H1 G1 F1 r1
 exact ⟨b,r1.bl,k H1 G1 F1⟩
def Q5k (ha:QE X a (tE p a')):QE X (.UnaryOp .Not a pos) (tE p (.not a')) :=
 (Qabc ha).weak fun σ H Q ⟨G,ρ,F,h⟩=>by
  unfold evE at h
  exact Qqg (Q:=fun c H1=>Q (.bl (!c)) H1) ⟨G,ρ,F,h.bind.imp fun b ρ1 k H1 G1 F1=>k _ H1 G1 F1 pvB⟩
def Quj {rest:List Fr} (ha:QE X a (tE p a')) (hb:QE X (.BoolOp .And (b::rest) pos) (tE p b')):QE X (.BoolOp .And (a::b::rest) pos) (tE p (.and a' b')) :=
 (Qabe ha hb).weak fun σ H Q ⟨G,ρ,F,h⟩=>by
  unfold evE at h
  refine Qqg (Q:=fun c H1=>if c=true then tE p b' σ H1 Q else Q (.bl false) H1) ⟨G,ρ,F,h.bind.imp fun c ρ1 k H1 G1 F1=>?_⟩
  cases c with
  | false=>exact k _ H1 G1 F1 pvB
  | true =>
   show tE p b' σ H1 Q
   refine Qug F1 (Qlb k.bind) ?_
   rintro r ρ2 v H2 G2 ⟨d,rfl,k2⟩ F2 F2' r2
   exact k2 v H2 G2 F2 r2
def s_or {rest:List Fr} (ha:QE X a (tE p a')) (hb:QE X (.BoolOp .Or (b::rest) pos) (tE p b')):QE X (.BoolOp .Or (a::b::rest) pos) (tE p (.or a' b')) :=
 (q_or ha hb).weak fun σ H Q ⟨G,ρ,F,h⟩=>by
  unfold evE at h
  refine Qqg (Q:=fun c H1=>if c=true then Q (.bl true) H1 else tE p b' σ H1 Q) ⟨G,ρ,F,h.bind.imp fun c ρ1 k H1 G1 F1=>?_⟩
  cases c with
  | true=>exact k _ H1 G1 F1 pvB
  | false =>
   show tE p b' σ H1 Q
   refine Qug F1 (Qlb k.bind) ?_
   rintro r ρ2 v H2 G2 ⟨d,rfl,k2⟩ F2 F2' r2
   exact k2 v H2 G2 F2 r2
def Quk {op} (ha:QE X a (tE p a')):QE X (.BoolOp op [a] pos) (tE p a'):=Qabd ha
def Qaci (ha:QE X e (tE p e')) (he:∀ au,isTrue e X.env au=(do let v ← au;standAt e.pos;holding [v] (truthy v))):QT X e (tT p e'):=(Q7w ha he).weak fun σ H Q h=>Qqg h
def Qhw (ha:QT X a (tT p a')):QT X (.UnaryOp .Not a pos) (tT p (.not a')) :=
 (Q7x ha).weak fun σ H Q ⟨G,ρ,F,h⟩=>by
  unfold evE at h
  refine ⟨G,ρ,F,?_⟩
  cases e:Q6 (evE p.cf a' ρ) with
  | ok b ρ1=>rw [e] at h;exact h
  | xn x ρ1=>rw [e] at h;exact h
  | no=>rw [e] at h;exact h
def Qy5 {rest:List Fr} (ha:QT X a (tT p a')) (hb:QW X (.BoolOp .And (b::rest) pos) (tT p b')):QW X (.BoolOp .And (a::b::rest) pos) (tT p (.and a' b')) :=
 (Q7z ha hb).weak fun σ H Q ⟨G,ρ,F,h⟩=>by
  unfold evE at h
  have h2:Fin p (Qan H G σ ρ) σ (Q6 (evE p.cf a' ρ)) fun c ρ1=>Fin p (Qan H G σ ρ) σ (if c then Q6 (evE p.cf b' ρ1) else .ok false ρ1) fun b ρ1=>∀ H1 G1,FI (Qan H G σ ρ) H1 G1 σ ρ1→Q b H1:=by
   cases e:Q6 (evE p.cf a' ρ) with
   | ok b ρ1 =>
    rw [e] at h
    cases b with
    | false=>exact h
    | true =>
     show Fin _ _ _ (Q6 (evE p.cf b' ρ1)) _
     cases e2:Q6 (evE p.cf b' ρ1) with
     | ok b ρ2=>simp only [Out.bind,Zr,e2] at h;exact h
     | xn x ρ2=>simp only [Out.bind,Zr,e2] at h;exact h
     | no=>simp only [Out.bind,Zr,e2] at h;exact h
   | xn x ρ1=>rw [e] at h;exact h
   | no=>rw [e] at h;exact h
  refine ⟨G,ρ,F,h2.imp fun c ρ1 k H1 G1 F1=>?_⟩
  cases c with
  | false=>exact k H1 G1 F1
  | true=>exact Qy2 F1 k fun b ρ2 H2 G2 k2 F2 _=>k2 H2 G2 F2
def Qsr {rest:List Fr} (ha:QT X a (tT p a')) (hb:QW X (.BoolOp .Or (b::rest) pos) (tT p b')):QW X (.BoolOp .Or (a::b::rest) pos) (tT p (.or a' b')) :=
 (Qabg ha hb).weak fun σ H Q ⟨G,ρ,F,h⟩=>by
  unfold evE at h
  have h2:Fin p (Qan H G σ ρ) σ (Q6 (evE p.cf a' ρ)) fun c ρ1=>Fin p (Qan H G σ ρ) σ (if c then .ok true ρ1 else Q6 (evE p.cf b' ρ1)) fun b ρ1=>∀ H1 G1,FI (Qan H G σ ρ) H1 G1 σ ρ1→Q b H1:=by
   cases e:Q6 (evE p.cf a' ρ) with
   | ok b ρ1 =>
    rw [e] at h
    cases b with
    | true=>exact h
    | false =>
     show Fin _ _ _ (Q6 (evE p.cf b' ρ1)) _
     cases e2:Q6 (evE p.cf b' ρ1) with
     | ok b ρ2=>simp only [Out.bind,e2] at h;exact h
     | xn x ρ2=>simp only [Out.bind,e2] at h;exact h
     | no=>simp only [Out.bind,e2] at h;exact h
   | xn x ρ1=>rw [e] at h;exact h
   | no=>rw [e] at h;exact h
  refine ⟨G,ρ,F,h2.imp fun c ρ1 k H1 G1 F1=>?_⟩
  cases c with
  | true=>exact k H1 G1 F1
  | false=>exact Qy2 F1 k fun b ρ2 H2 G2 k2 F2 _=>k2 H2 G2 F2
def Qjz {op} (ha:QT X a (tT p a')):QW X (.BoolOp op [a] pos) (tT p a'):=by
 cases op with
 | And=>exact Q2u ha
 | Or=>exact Q7y ha
def t_w (h:QW X e (tT p e')):QT X e (tT p e'):=q_wt h
def Oc2 (r:R2) (f:T→T→Option Bool):Prop:=∀ (H:Hp) (G:Fw→Prop) (x y:V) (t u:T) (k:Bool) (Q:VK),Rdb H G x t→Rdb H G y u→f t u=some k→Q (.bl k) H→r x y H Q
def Qy6 {r:R2} {o:COp} (hs:Oc2 r (opC o)) {σ:St} {H:Hp} {Q:VK} (h:tE p (.cmp o a' b') σ H Q):tOp r (tE p a') (tE p b') σ H Q:=by
 obtain ⟨G,ρ,F,h⟩:=h
 unfold evE at h
 refine tE2 F h fun ra rb ρ2 x y H2 G2 F2 r1 r2 h2=>?_
 obtain ⟨t,u,c1,c2,h3⟩:=Qy4 h2
 cases e:opC o t u with
 | none=>rw [e] at h3;exact Zfb h3
 | some k =>
  rw [e] at h3
  exact hs H2 G2 x y t u k Q (r1.rdb F2 c1) (r2.rdb F2 c2) e (h3 _ H2 G2 F2 pvB)
def Qne {op:CmpOp} {r:R2} {o:COp} (ho:QOp X (compareOp op) r) (hs:Oc2 r (opC o)) (ha:QE X a (tE p a')) (hb:QE X b (tE p b')) (hm:behindInMarks op b=false):QE X (.Compare a [op] [b] pos) (tE p (.cmp o a' b')) :=
 (Qabf ho ha hb hm).weak fun σ H Q h=>Qy6 hs h
def Qj0 {op:CmpOp} {r:R2} {o:COp} (ho:QOp X (compareOp op) r) (hs:Oc2 r (opC o)) (ha:QE X a (tE p a')) (hb:QE X b (tE p b')) (hm:behindInMarks op b=false):QT X (.Compare a [op] [b] pos) (tT p (.cmp o a' b')) :=
 (Qx8 ho ha hb hm).weak fun σ H Q h=>Qy6 hs (Qqg h)
def vOf:T→V
 | .non=>.non | .bl b=>.bl b | .int i=>.int i | .str x=>.str x | _=>.non
def Rdb.vOf {H:Hp} {G:Fw→Prop} {v:V} {t:T} (h:Rdb H G v t) (e:Qk6 t=true):v=vOf t:=by
 cases t with
 | non=>exact h.non
 | bl b=>exact h.bl
 | int i=>exact h.int
 | str x=>exact h.str
 | tup ts=>cases e
 | lst ts=>cases e
 | dct ks ts=>cases e
 | clo ks ts=>cases e
 | dtt ks ts=>cases e
def Qqh {t u:T} {k:Bool} (e:eqO t u=some k) (h1:Qk6 t=true) (h2:Qk6 u=true):Q7a (vOf t) (vOf u)=true∧decide (vOf t=vOf u)=k:=by
 cases t <;> first | (cases h1;done) | skip
 all_goals (cases u <;> first | (cases h2;done) | skip)
 all_goals (first | (cases e;done) | skip)
 all_goals (have e':=Zo e;subst e';refine ⟨rfl,?_⟩;simp [vOf])
def Qqi {t u:T} {k:Bool} (e:eqO t u=some k):(Qk6 t=true∧Qk6 u=true)∨(Ql 50 t=true∧Ql 50 u=true∧((∃ ts us,t=.tup ts∧u=.tup us)∨∃ ts us,t=.lst ts∧u=.lst us)∧k=eqT t u)∨(Q20 t u=true∧k=false):=by
 cases t <;> cases u <;> first | (cases e;done) | exact .inl ⟨rfl,rfl⟩ | exact .inr (.inr ⟨rfl,(Zo e).symm⟩) | skip
 ·rename_i ts us
  have e:(if Ql 50 (.tup ts)=true∧Ql 50 (.tup us)=true then some (eqT (.tup ts) (.tup us)) else none)=some k:=e
  by_cases z:Ql 50 (.tup ts)=true∧Ql 50 (.tup us)=true
  ·rw [Zb z] at e
   exact .inr (.inl ⟨z.1,z.2,.inl ⟨_,_,rfl,rfl⟩,(Zo e).symm⟩)
  ·rw [Zd z] at e;cases e
 ·rename_i ts us
  have e:(if Ql 50 (.lst ts)=true∧Ql 50 (.lst us)=true then some (eqT (.lst ts) (.lst us)) else none)=some k:=e
  by_cases z:Ql 50 (.lst ts)=true∧Ql 50 (.lst us)=true
  ·rw [Zb z] at e
   exact .inr (.inl ⟨z.1,z.2,.inr ⟨_,_,rfl,rfl⟩,(Zo e).symm⟩)
  ·rw [Zd z] at e;cases e
def rEqU:R2:=fun x y H Q=>rEq x y H Q∨(Q2z false x y H Q∨Q21 false x y H Q)
def rNeU:R2:=fun x y H Q=>rNe x y H Q∨(Q2z true x y H Q∨Q21 true x y H Q)
def Q5l (hu:X.A.units+64<cLine):QOp X (compareOp .Eq) rEqU:=⟨o_eq.h.or ((Qabw hu).h.or (Qaby hu).h)⟩
def Q5m (hu:X.A.units+64<cLine):QOp X (compareOp .NotEq) rNeU:=⟨o_ne.h.or ((Qabx hu).h.or (Qabz hu).h)⟩
def Qy7:Oc2 rEqU (opC .eq):=by
 intro H G x y t u k Q hx hy e q
 have e:eqO t u=some k:=e
 rcases Qqi e with ⟨h1,h2⟩ | ⟨h1,h2,h3,rfl⟩ | ⟨h1,rfl⟩
 ·obtain ⟨z1,z2⟩:=Qqh e h1 h2
  rw [hx.vOf h1,hy.vOf h2]
  exact .inl ⟨z1,by rw [z2];exact q⟩
 ·exact .inr (.inl ⟨t,u,hx.is,hy.is,h1,h2,h3,q⟩)
 ·exact .inr (.inr ⟨t,u,hx.is,hy.is,h1,q⟩)
def Qy8:Oc2 rNeU (opC .ne):=by
 intro H G x y t u k Q hx hy e q
 have e:(eqO t u).map (!·)=some k:=e
 cases e0:eqO t u with
 | none=>rw [e0] at e;cases e
 | some k0 =>
  rw [e0] at e
  cases e
  rcases Qqi e0 with ⟨h1,h2⟩ | ⟨h1,h2,h3,rfl⟩ | ⟨h1,rfl⟩
  ·obtain ⟨z1,z2⟩:=Qqh e0 h1 h2
   rw [hx.vOf h1,hy.vOf h2]
   exact .inl ⟨z1,by rw [z2];exact q⟩
  ·exact .inr (.inl ⟨t,u,hx.is,hy.is,h1,h2,h3,q⟩)
  ·exact .inr (.inr ⟨t,u,hx.is,hy.is,h1,q⟩)
def Qld {f:Int→Int→Bool} {t u:T} {k:Bool} (e:Qwk f t u=some k):∃ i j,t=.int i∧u=.int j∧f i j=k:=by
 unfold Qwk at e
 cases h1:asI t with
 | none=>rw [h1] at e;cases e
 | some i =>
  cases h2:asI u with
  | none=>rw [h1,h2] at e;cases e
  | some j=>rw [h1,h2] at e;exact ⟨i,j,Qeu h1,Qeu h2,Zo e⟩
def Qy9:Oc2 (rI0 fun i j=>.bl (decide (i<j))) (opC .lt):=by
 intro H G x y t u k Q hx hy e q
 obtain ⟨i,j,rfl,rfl,rfl⟩:=Qld e
 obtain rfl:=hx.int
 obtain rfl:=hy.int
 exact ⟨_,_,rfl,rfl,q⟩
def Q8u:Oc2 (rI0 fun i j=>.bl (decide (j<i))) (opC .gt):=by
 intro H G x y t u k Q hx hy e q
 obtain ⟨i,j,rfl,rfl,rfl⟩:=Qld e
 obtain rfl:=hx.int
 obtain rfl:=hy.int
 exact ⟨_,_,rfl,rfl,q⟩
def Q8v:Oc2 (rI0 fun i j=>.bl (decide (j≤i))) (opC .ge):=by
 intro H G x y t u k Q hx hy e q
 obtain ⟨i,j,rfl,rfl,rfl⟩:=Qld e
 obtain rfl:=hx.int
 obtain rfl:=hy.int
 exact ⟨_,_,rfl,rfl,q⟩
def Qul {H:Hp} {v:V} {t:T} (h:Is H v t):decide (v=.non)=Qdy t:=by
 cases t with
 | non=>unfold Is at h;subst h;rfl
 | bl b=>unfold Is at h;subst h;rfl
 | int i=>unfold Is at h;subst h;rfl
 | str x=>unfold Is at h;subst h;rfl
 | tup ts=>obtain ⟨a,vs,rfl,_⟩:=h.tup_inv;rfl
 | lst ts=>obtain ⟨a,vs,rfl,_⟩:=h.lst_inv;rfl
 | dct ks ts=>unfold Is at h;obtain ⟨a,vs,rfl,_⟩:=h;rfl
 | clo ks ts=>unfold Is at h;obtain ⟨a,vs,l,rfl,_⟩:=h;rfl
 | dtt ks ts=>unfold Is at h;obtain ⟨_,a,vs,rfl,_⟩:=h;rfl
def Qum:Oc2 rIsN (opC .isn):=by
 intro H G x y t u k Q hx hy e q
 cases u <;> first | (cases e;done) | skip
 have e:some (Qdy t)=some k:=e
 cases e
 exact ⟨hy.non,by rw [Qul hx.is];exact q⟩
def Qza:Oc2 Q5b (opC .isnn):=by
 intro H G x y t u k Q hx hy e q
 cases u <;> first | (cases e;done) | skip
 have e:some (!Qdy t)=some k:=e
 cases e
 exact ⟨hy.non,by rw [Qul hx.is];exact q⟩
def Qzb {n:String} (h:Qk7 n=true):n∈["int","bool","tuple","list","dict","str"]:=by
 unfold Qk7 at h
 simp only [Zcq,Ze5] at h
 simp only [Z7,Zbw,Zdr]
 rcases h with ((((h | h) | h) | h) | h) | h <;> subst h <;> simp
def Qacl {n:String} {tn:Fr} (hm:X.mg "isinstance" = none) (hv:bootBuiltins "isinstance" = some (.builtin "isinstance")) (ha:QE X a (tE p a')) (ht:QE X tn (tC (.ty n))) (hg:Gl X "isinstance") (h1:Qr a=true) (h2:Qr tn=true):QE X (.Call (.Name "isinstance" p1) [a,tn] [] pos) (tE p (.isI a' n)) :=
 (Q70 Q75 hm hv (Qas ha (Qas ht Qby h2) h1) hg (by decide) (by decide) h1 (by rw [Qa1 h2];rfl)).weak fun σ H Q ⟨G,ρ,F,h⟩=>by
  unfold evE at h
  refine ⟨G,ρ,F,h.bind.imp fun r ρ1 h1 v H1 G1 F1 r1=>?_⟩
  cases e:cont ρ1 r with
  | none=>rw [e] at h1;exact Zfb h1
  | some t =>
   rw [e] at h1
   by_cases z:(Qk7 n && !Qhs t)=true
   ·simp only [Zb z] at h1
    rw [Zm,Zci] at z
    exact ⟨v,n,t,rfl,(r1.rdb F1 e).is,z.2,Qzb z.1,h1 _ H1 G1 F1 pvB⟩
   ·simp only [Zd z] at h1
    exact Zfb h1
inductive Rdbs (H:Hp) (G:Fw→Prop):List V→List T→Prop where
 | nil:Rdbs H G [] []
 | cons {v t vs ts}:Rdb H G v t→Rdbs H G vs ts→Rdbs H G (v::vs) (t::ts)
def PVRs.rdbs {B:Bs} {H0 H:Hp} {G:Fw→Prop} {σ:St} {ρ:En} {vs:List V} {rs:List PV} (h:PVRs H0 H G σ ρ vs rs) (F:FI B H G σ ρ):∀ {ts:List T},Qa2 ρ rs=some ts→Rdbs H G vs ts:=by
 induction h with
 | nil=>intro ts e;cases e;exact .nil
 | cons a _ ih =>
  intro ts e
  rename_i v r vs rs _
  unfold Qa2 at e
  cases h1:cont ρ r with
  | none=>rw [h1] at e;cases e
  | some t =>
   cases h2:Qa2 ρ rs with
   | none=>rw [h1,h2] at e;cases e
   | some us =>
    rw [h1,h2] at e
    cases e
    exact .cons (a.rdb F h1) (ih h2)
def Ob (r:List V→Hp→VK→Prop) (b:Bi):Prop:=∀ (B:Bs) (H:Hp) (G:Fw→Prop) (σ:St) (ρ:En) (vs:List V) (ts:List T) (w:PV) (Q:VK),FI B H G σ ρ→Rdbs H G vs ts→Qke b ts=some w→(∀ v H1 G1,FI B H1 G1 σ ρ→PVR B.H H1 G1 σ ρ v w→Q v H1)→r vs H Q
def Q5n {r:List V→Hp→VK→Prop} {b:Bi} (hs:Ob r b) {σ:St} {H:Hp} {Q:VK} (h:tE p (.bi b aq) σ H Q):tCB r (tA p aq) σ H Q:=by
 obtain ⟨G,ρ,F,h⟩:=h
 unfold evE at h
 refine ⟨G,ρ,F,h.bind.imp fun rs ρ1 h1 vs H1 G1 F1 r1=>?_⟩
 cases e:Qa2 ρ1 rs with
 | none=>rw [e] at h1;exact Zfb h1
 | some ts =>
  rw [e] at h1
  obtain ⟨w,ew,k⟩:=Qog h1
  exact hs _ H1 G1 σ ρ1 vs ts w Q F1 (r1.rdbs F1 e) ew fun v H2 G2 F2 r2=>k v H2 G2 F2 r2
def Rdbs.one {H:Hp} {G:Fw→Prop} {vs:List V} {t:T} (h:Rdbs H G vs [t]):∃ v,vs=[v]∧Rdb H G v t:=by
 cases h with
 | cons a b=>cases b;exact ⟨_,rfl,a⟩
def Rdbs.two {H:Hp} {G:Fw→Prop} {vs:List V} {t u:T} (h:Rdbs H G vs [t,u]):∃ v w,vs=[v,w]∧Rdb H G v t∧Rdb H G w u:=by
 cases h with
 | cons a b =>
  cases b with
  | cons c d=>cases d;exact ⟨_,_,rfl,a,c⟩
def Qei:∀ {ts:List T} {is:List Int},Qb8 ts=some is→ts=is.map T.int
 | [],is,e=>by cases e;rfl
 | .int i::ts,is,e=>by
  unfold Qb8 at e
  cases h:Qb8 ts with
  | none=>rw [h] at e;cases e
  | some js=>rw [h] at e;cases e;rw [Qei h];rfl
 | .non::_,_,e=>by cases e
 | .bl _::_,_,e=>by cases e
 | .str _::_,_,e=>by cases e
 | .tup _::_,_,e=>by cases e
 | .lst _::_,_,e=>by cases e
 | .dct _ _::_,_,e=>by cases e
 | .clo _ _::_,_,e=>by cases e
 | .dtt _ _::_,_,e=>by cases e
def Qle {D:Hp}:∀ {ts:List T} {bs:List Bool} {vs:List V},Qgy ts=some bs→IsL D vs ts→vs.all Qkz=true∧vs.all Qkb=bs.all id∧vs.any Qkb=bs.any id
 | [],bs,vs,e,r=>by cases e;rw [r.nil_inv];exact ⟨rfl,rfl,rfl⟩
 | t::ts,bs,vs,e,r=>by
  obtain ⟨v,w,rfl,a,q⟩:=r.cons_inv
  unfold Qgy at e
  cases h1:truT t with
  | none=>rw [h1] at e;cases e
  | some b =>
   cases h2:Qgy ts with
   | none=>rw [h1,h2] at e;cases e
   | some cs =>
    rw [h1,h2] at e
    cases e
    obtain ⟨q1,q2,q3⟩:=Qle h2 q
    have hv:Qkz v=true∧Qkb v=b:=by
     cases t <;> first | (cases h1;done) | skip
     ·unfold Is at a;subst a;cases h1;exact ⟨rfl,rfl⟩
     ·obtain rfl:=a.int_inv;cases h1
      refine ⟨rfl,?_⟩
      rename_i i
      show (i != 0)=decide (i≠0)
      by_cases z:i=0 <;> simp [z]
    rw [Za7,Za7,any_cons,Za7,any_cons,q1,q2,q3,hv.1,hv.2]
    exact ⟨rfl,rfl,rfl⟩
def Qb5 (K:Fz):Ob (Q7r K) .len:=by
 intro B H G σ ρ vs ts w Q F r e q
 match ts,e,r with
 | [.lst a],e,r =>
  cases e
  obtain ⟨v,rfl,h⟩:=r.one
  obtain ⟨l,ws,rfl,z,el,rl⟩:=h.lst
  exact ⟨l,ws,rfl,.inl (SqL.of el),by rw [rl.length];exact q _ H G F pvI⟩
 | [.tup a],e,r =>
  cases e
  obtain ⟨v,rfl,h⟩:=r.one
  obtain ⟨l,ws,rfl,el,rl⟩:=h.tup.tup_inv
  exact ⟨l,ws,rfl,.inr (SqT.of (Qv el).2),by rw [rl.length];exact q _ H G F pvI⟩
def Q8w:Ob rAbs .abs:=by
 intro B H G σ ρ vs ts w Q F r e q
 match ts,e,r with
 | [.int i],e,r =>
  cases e
  obtain ⟨v,rfl,h⟩:=r.one
  obtain rfl:=h.int
  exact ⟨i,rfl,q _ H G F pvI⟩
def Qoh (K:Fz):Ob (Q7s K) .all:=by
 intro B H G σ ρ vs ts w Q F r e q
 match ts,e,r with
 | [.lst a],e,r =>
  obtain ⟨v,rfl,h⟩:=r.one
  obtain ⟨l,ws,rfl,z,el,rl⟩:=h.lst
  have e:(Qgy a).map (fun bs=>PV.fz (.bl (bs.all id)))=some w:=e
  cases h1:Qgy a with
  | none=>rw [h1] at e;cases e
  | some bs =>
   rw [h1] at e
   cases e
   obtain ⟨q1,q2,q3⟩:=Qle h1 rl
   exact ⟨l,ws,rfl,SqL.of el,q1,by rw [q2];exact q _ H G F pvB⟩
def Qss (K:Fz):Ob (Q7t K) .any:=by
 intro B H G σ ρ vs ts w Q F r e q
 match ts,e,r with
 | [.lst a],e,r =>
  obtain ⟨v,rfl,h⟩:=r.one
  obtain ⟨l,ws,rfl,z,el,rl⟩:=h.lst
  have e:(Qgy a).map (fun bs=>PV.fz (.bl (bs.any id)))=some w:=e
  cases h1:Qgy a with
  | none=>rw [h1] at e;cases e
  | some bs =>
   rw [h1] at e
   cases e
   obtain ⟨q1,q2,q3⟩:=Qle h1 rl
   exact ⟨l,ws,rfl,SqL.of el,q1,by rw [q3];exact q _ H G F pvB⟩
def Qun:∀ (xs:List Int) (m:Int),m≤Qkd m xs∧(∀ a∈xs,a≤Qkd m xs)∧(Qkd m xs=m∨Qkd m xs∈xs)
 | [],m=>⟨Int.le_refl _,fun _ h=>(nomatch h),.inl rfl⟩
 | x::xs,m=>by
  unfold Qkd
  obtain ⟨h1,h2,h3⟩:=Qun xs (if m<x then x else m)
  have k1:m≤(if m<x then x else m):=by split <;> omega
  have k2:x≤(if m<x then x else m):=by split <;> omega
  refine ⟨by omega,fun a ha=>?_,?_⟩
  ·rcases Z7.mp ha with rfl | ha
   ·omega
   ·exact h2 a ha
  ·rcases h3 with h3 | h3
   ·rw [h3]
    split
    ·exact .inr Za8
    ·exact .inl rfl
   ·exact .inr (Zak _ h3)
def Q5o (K:Fz):List V→Hp→VK→Prop:=fun xs H Q=>Q5d xs H Q∨Qx6 K xs H Q
def Qzc (K:Fz) (hK:X.K=K) (hc:X.calm=true):QCl X (.builtin "max") (Q5o K):=⟨(Q77 hc).h.or (Q76 K hK hc).h⟩
def Qzd (K:Fz):Ob (Q5o K) .max:=by
 intro B H G σ ρ vs ts w Q F r e q
 match ts,e,r with
 | [.int i,.int j],e,r =>
  cases e
  obtain ⟨v,u,rfl,h1,h2⟩:=r.two
  obtain rfl:=h1.int
  obtain rfl:=h2.int
  exact .inl ⟨i,j,rfl,q _ H G F pvI⟩
 | [.lst a],e,r =>
  obtain ⟨v,rfl,h⟩:=r.one
  obtain ⟨l,ws,rfl,z,el,rl⟩:=h.lst
  have e:(match Qb8 a with | some (x::xs)=>some (PV.fz (.int (Qkd x xs))) | _=>none)=some w:=e
  cases h1:Qb8 a with
  | none=>rw [h1] at e;cases e
  | some is =>
   rw [h1] at e
   cases is with
   | nil=>cases e
   | cons i is =>
    cases e
    rw [Qei h1] at rl
    rw [rl.ints_inv] at el
    obtain ⟨k1,k2,k3⟩:=Qun is i
    refine .inr ⟨l,i::is,rfl,SqL.of el,by simp,fun M hM jW=>?_⟩
    have e:M=Qkd i is:=by
     have a1:=jW (Qkd i is) (k3.elim (fun k3=>by rw [k3];exact Za8) fun k3=>Zak _ k3)
     have a2:M≤Qkd i is:=by
      rcases Z7.mp hM with rfl | hM
      ·exact k1
      ·exact k2 M hM
     omega
    rw [e]
    exact q _ H G F pvI
def Q8x:Ob rDvm .dvm:=by
 intro B H G σ ρ vs ts w Q F r e q
 match ts,e,r with
 | [.int i,.int j],e,r =>
  have e:(if 0<j∧j.natAbs<2^64 then some (PV.fz (.tup [.int (i / j),.int (i%j)])) else none)=some w:=e
  by_cases z:0<j∧j.natAbs<2^64
  ·rw [Zb z] at e;cases e
   obtain ⟨v,u,rfl,h1,h2⟩:=r.two
   obtain rfl:=h1.int
   obtain rfl:=h2.int
   refine ⟨i,j,rfl,⟨z.1,by omega⟩,fun l hl=>q _ _ G (F.grow (Same.upd hl)) ?_⟩
   exact Qd2 (F.prv.mono (Same.upd hl)) Qt (.cons Is.int (.one Is.int)) (by show 2≤100000;decide)
  ·rw [Zd z] at e;cases e
def Qze:Ob Q5e .int:=by
 intro B H G σ ρ vs ts w Q F r e q
 match ts,e,r with
 | [.int i],e,r =>
  cases e
  obtain ⟨v,rfl,h⟩:=r.one
  obtain rfl:=h.int
  exact .inl ⟨i,rfl,q _ H G F pvI⟩
 | [.bl b],e,r =>
  cases e
  obtain ⟨v,rfl,h⟩:=r.one
  obtain rfl:=h.bl
  exact .inr ⟨b,rfl,q _ H G F pvI⟩
def Qzf (K:Fz):Ob (Qr8 K) .tup:=by
 intro B H G σ ρ vs ts w Q F r e q
 match ts,e,r with
 | [.lst a],e,r =>
  cases e
  obtain ⟨v,rfl,h⟩:=r.one
  obtain ⟨l,ws,rfl,z,el,rl⟩:=h.lst
  exact ⟨l,ws,rfl,.inl ⟨SqL.of el,fun l2 hl=>q _ _ G (F.grow (Same.upd hl)) (Qd2 (F.prv.mono (Same.upd hl)) Qt (rl.mono (Qa8 (Same.upd hl))) z)⟩⟩
 | [.tup a],e,r =>
  cases e
  obtain ⟨v,rfl,h⟩:=r.one
  have h0:=h.tup
  obtain ⟨l,ws,rfl,el,rl⟩:=h.tup.tup_inv
  exact ⟨l,ws,rfl,.inr ⟨SqT.of (Qv el).2,q _ H G F h0⟩⟩
def Qgz:∀ {es:List Fr} {env:Env} {pos:Pos},es.all Qr=true→(backTo pos (starEach es env)).any (·.1)=false
 | [],_,_,_=>rfl
 | e::es,env,pos,h=>by
  rw [Za7,Zm] at h
  rw [Qa1 h.1]
  have q:=Qgz (env:=env) (pos:=pos) h.2
  unfold backTo at q ⊢
  rw [Zaq,any_cons,q]
  rfl
def s_bi {id:String} {r:List V→Hp→VK→Prop} {b:Bi} (hc:QCl X (.builtin id) r) (hs:Ob r b) (hm:X.mg x=none) (hv:bootBuiltins x=some (.builtin id)) (ha:QA X (e::es) (tA p aq)) (hg:Gl X x) (hn:x ≠ "__name__") (aD:(x==("__debug__" : Str))=false) (h1:Qr e=true) (h2:es.all Qr=true) :
  QE X (.Call (.Name x p1) (e::es) [] pos) (tE p (.bi b aq)):=(Q70 hc hm hv ha hg hn aD h1 (Qgz h2)).weak fun σ H Q h=>Q5n hs h
def Qacm {T:String} {r:List V→Hp→VK→Prop} {b:Bi} (hc:QCl X (.type T) r) (hs:Ob r b) (hm:X.mg x=none) (hv:bootBuiltins x=some (.type T)) (ha:QA X (e::es) (tA p aq)) (hg:Gl X x) (hn:x ≠ "__name__") (aD:(x==("__debug__" : Str))=false) (h1:Qr e=true) (h2:es.all Qr=true) :
  QE X (.Call (.Name x p1) (e::es) [] pos) (tE p (.bi b aq)):=(Qp1 hc hm hv ha hg hn aD h1 (Qgz h2)).weak fun σ H Q h=>Q5n hs h
def IsL.atI {D:Hp} {vs:List V} {ts:List T} {i:Int} {t:T} (r:IsL D vs ts) (h:atI ts i=some t):∃ v,L2.atI vs i=some v∧Is D v t:=by
 unfold L2.atI at h ⊢
 rw [r.length]
 cases e:ixN ts.length i with
 | none=>rw [e] at h;cases h
 | some j =>
  rw [e] at h
  exact r.getT h
def s_ix (K:Fz) (hK:X.K=K) (ha:QE X a (tE p a')) (hb:QE X b (tE p b')) (hs:Qkf b):QE X (.Subscript a b pos) (tE p (.ix a' b')) :=
 (Q2v (o_ix K hK) ha hb hs).weak fun σ H Q ⟨G,ρ,F,h⟩=>by
  unfold evE at h
  refine tE2 F h fun ra rb ρ2 x y H2 G2 F2 r1 r2 h2=>?_
  obtain ⟨t,u,c1,c2,h3⟩:=Qy4 h2
  have hx:=r1.rdb F2 c1
  have hy:=r2.rdb F2 c2
  cases e:Qy0 t u with
  | none=>rw [e] at h3;exact Zfb h3
  | some w =>
   rw [e] at h3
   cases t <;> first | (cases e;done) | skip
   all_goals (cases u <;> first | (cases e;done) | skip)
   ·obtain rfl:=hy.int
    obtain ⟨l,ws,rfl,el,rl⟩:=hx.tup.tup_inv
    obtain ⟨v,ev,iv⟩:=rl.atI e
    exact .inr (.inl ⟨l,ws,_,v,rfl,rfl,SqT.of (Qv el).2,ev,h3 v H2 G2 F2 iv⟩)
   ·obtain rfl:=hy.int
    obtain ⟨l,ws,rfl,z,el,rl⟩:=hx.lst
    obtain ⟨v,ev,iv⟩:=rl.atI e
    exact .inl ⟨l,ws,_,v,rfl,rfl,SqL.of el,ev,h3 v H2 G2 F2 iv⟩
def tO (p:Pr) (es:Es):TO:=fun σ H Q=>∃ G ρ,FI (Qan H G σ ρ) H G σ ρ∧Fin p (Qan H G σ ρ) σ (evA p.cf es ρ) fun rs ρ1=>∃ i,Qmk rs=some i∧∀ H1 G1,FI (Qan H G σ ρ) H1 G1 σ ρ1→Q i H1
def QO.weak {X:Cx} {e:Option Fr} {t t':TO} (h:QO X e t) (q:∀ σ H Q,t' σ H Q→t σ H Q):QO X e t':=⟨fun aa s σ H Q I z=>h.h aa s σ H Q I (q _ _ _ z)⟩
def Quo:QO X none (tO p .nil):=q_no.weak fun σ H Q ⟨G,ρ,F,h⟩=>by
 unfold evA at h
 obtain ⟨i,e,k⟩:=h
 cases e
 exact k H G F
def Q3e {r:PV} {i:Option Int} (h:Qmk [r]=some i):∃ j,r=.fz (.int j)∧i=some j:=by
 cases r with
 | fz t=>cases t <;> first | (cases h;done) | exact ⟨_,rfl,(Zo h).symm⟩
 | ow t=>cases h
 | sl i=>cases h
def Qup (ha:QE X a (tE p a')):QO X (some a) (tO p (.cons a' .nil)):=(Qr9 ha).weak fun σ H Q ⟨G,ρ,F,h⟩=>by
 unfold evA at h
 refine ⟨G,ρ,F,h.bind.imp fun r ρ1 h1 v H1 G1 F1 r1=>?_⟩
 have h1:=h1.bind
 unfold evA at h1
 obtain ⟨i,e,k⟩:=h1
 obtain ⟨j,rfl,rfl⟩:=Q3e e
 obtain rfl:=r1.is.int_inv
 exact ⟨j,rfl,k H1 G1 F1⟩
def Qacn (K:Fz) (hK:X.K=K) {lo hi:Option Fr} {dH cD:Es} (ha:QE X a (tE p a')) (hl:QO X lo (tO p dH)) (hh:QO X hi (tO p cD)):QE X (.Subscript a (.Slice lo hi none p2) pos) (tE p (.slc a' dH cD)) :=
 (q_sl (o_sl K hK) ha hl hh).weak fun σ H Q ⟨G,ρ,F,h⟩=>by
  unfold evE at h
  refine ⟨G,ρ,F,h.bind.imp fun ra ρ1 h1 v H1 G1 F1 r1=>?_⟩
  refine ⟨G1,ρ1,F1.self,h1.bind.rebase F1 fun rl ρ2 h2=>?_⟩
  cases el:Qmk rl with
  | none=>rw [el] at h2;exact Zfb h2
  | some l =>
   rw [el] at h2
   refine ⟨l,rfl,fun H2 G2 F2=>⟨G2,ρ2,F2.self,h2.bind.rebase (F1.trans F2) fun rh ρ3 h3=>?_⟩⟩
   cases eh:Qmk rh with
   | none=>rw [eh] at h3;exact Zfb h3
   | some u =>
    rw [eh] at h3
    refine ⟨u,rfl,fun H3 G3 F3=>?_⟩
    have F12:=F1.trans F2
    have F4:=F12.trans F3
    cases ec:cont ρ3 ra with
    | none=>rw [ec] at h3;exact Zfb h3
    | some t =>
     rw [ec] at h3
     obtain ⟨w,ew,k⟩:=Qog h3
     have hx:=((r1.step F1 F2).step F12 F3).rdb F4 ec
     cases t <;> first | (cases ew;done) | skip
     ·cases ew
      exact Qyg F4.prv hx.tup fun y H5 s5 i5=>k y H5 G3 (F4.grow s5) i5
     ·cases ew
      rename_i ts
      obtain ⟨c,ws,rfl,z,ec,rl⟩:=hx.lst
      refine .inl ⟨c,ws,rfl,SqL.of ec,fun q hq=>?_⟩
      obtain ⟨F5,r5⟩:=Qhh F4 hq (Same.upd hq) Qt (rl.cut l u) (by have:=Qp2 ts l u;omega)
      exact k _ _ _ F5 r5
end
def Qfz (i:Nat):Qa [] i=.un:=rfl
def Qb (s:Slot) (ρ:En):Qa (s::ρ) 0=s:=rfl
def Qc (s:Slot) (ρ:En) (i:Nat):Qa (s::ρ) (i+1)=Qa ρ i:=by unfold Qa;rw [Zl]
def Qh {ρ:En} {i j:Nat} {s:Slot}:Qa (ρ.set j s) i=if i=j∧j<ρ.length then s else Qa ρ i:=by
 unfold Qa
 by_cases h:i=j∧j<ρ.length
 ·rw [Zb h]
  obtain ⟨rfl,hj⟩:=h
  rw [Zcd hj]
 ·rw [Zd h]
  by_cases e:i=j
  ·subst e
   have hl:ρ.length≤i:=by
    rcases Zbx i ρ.length with z | z
    ·exact absurd ⟨rfl,z⟩ h
    ·exact z
   rw [List.set_eq_of_length_le hl]
  ·rw [Zbt (fun z=>e z.symm)]
def Qhi {ρ:En} {i:Nat} (h:Qa ρ i≠.un):i<ρ.length:=by
 rcases Zbx i ρ.length with z | z
 ·exact z
 ·exact absurd (by unfold Qa;rw [Zcn.mpr z]) h
def Qbv (rs:List PV) (fin:List T) (i:Nat) (s:Slot):Q4 rs fin i s=s∨∃ k t,Qm rs i=some k∧fin[k]?=some t∧Q4 rs fin i s=s.put t:=by
 unfold Q4
 cases h1:Qm rs i with
 | none=>exact .inl rfl
 | some k =>
  cases h2:fin[k]? with
  | none=>exact .inl (by simp only [h2])
  | some t=>exact .inr ⟨k,t,rfl,h2,by simp only [h2]⟩
def Qgm (rs:List PV) (fin:List T):∀ (ρ:En) (n i:Nat),Qa (Qo rs fin n ρ) i=Q4 rs fin (n+i) (Qa ρ i)
 | [],n,i=>by
  unfold Qo
  rw [Qfz]
  rcases Qbv rs fin (n+i) .un with h | ⟨k,t,_,_,h⟩
  ·exact h.symm
  ·rw [h];rfl
 | s::ρ,n,0=>by unfold Qo;rfl
 | s::ρ,n,i+1=>by
  unfold Qo
  rw [Qc,Qc,Qgm rs fin ρ (n+1) i,show n+1+i=n+(i+1) by omega]
def Qcn (ρ:En) (rs:List PV) (fin:List T) (i:Nat):Qa (Qa9 ρ rs fin) i=Q4 rs fin i (Qa ρ i):=by
 unfold Qa9
 rw [Qgm,Zae]
def Qir (rs:List PV) (fin:List T):∀ (ρ:En) (n:Nat),(Qo rs fin n ρ).length=ρ.length
 | [],_=>rfl
 | s::ρ,n=>by unfold Qo;rw [Zh,Zh,Qir rs fin ρ (n+1)]
def Qis (ρ:En) (i:Nat):Qaq ρ (.sl i)=match Qa ρ i with
 | .ow t=>some (.ml t)
 | .ml t=>some (.ml t)
 | .ro t=>some (.ro t)
 | _=>none:=rfl
def PVRs.len {H0 H:Hp} {G:Fw→Prop} {σ:St} {ρ:En} {vs:List V} {rs:List PV} (h:PVRs H0 H G σ ρ vs rs):vs.length=rs.length:=by
 induction h with
 | nil=>rfl
 | cons _ _ ih=>rw [Zh,Zh,ih]
def PVRs.get {H0 H:Hp} {G:Fw→Prop} {σ:St} {ρ:En} {vs:List V} {rs:List PV} (h:PVRs H0 H G σ ρ vs rs):∀ {i:Nat} {v:V} {r:PV},vs[i]?=some v→rs[i]?=some r→PVR H0 H G σ ρ v r:=by
 induction h with
 | nil=>intro i v r e;simp at e
 | cons a _ ih =>
  intro i v r e1 e2
  cases i with
  | zero=>simp at e1 e2;subst e1;subst e2;exact a
  | succ i=>rw [Zl] at e1 e2;exact ih e1 e2
def Qf0 {ρ:En}:∀ {rs:List PV} {as:List Arg},Q1 ρ rs=some as→as.length=rs.length∧∀ (i:Nat) (a:Arg),as[i]?=some a→∃ r,rs[i]?=some r∧Qaq ρ r=some a
 | [],as,e=>by cases e;exact ⟨rfl,fun i a h=>by simp at h⟩
 | r::rs,as,e=>by
  unfold Q1 at e
  cases h1:Qaq ρ r with
  | none=>rw [h1] at e;cases e
  | some a0 =>
   cases h2:Q1 ρ rs with
   | none=>rw [h1,h2] at e;cases e
   | some as0 =>
    rw [h1,h2] at e
    cases e
    obtain ⟨q1,q2⟩:=Qf0 h2
    refine ⟨by rw [Zh,Zh,q1],fun i a h=>?_⟩
    cases i with
    | zero=>simp at h;subst h;exact ⟨r,rfl,h1⟩
    | succ i=>rw [Zl] at h ⊢;exact q2 i a h
def Qlf:∀ {rs:List PV},Qz rs=true→∀ (i j k:Nat),rs[i]?=some (.sl k)→rs[j]?=some (.sl k)→i=j
 | [],_,i,j,k,e,_=>by simp at e
 | r::rs,h,i,j,k,e1,e2=>by
  have tl:Qz rs=true:=by
   cases r with
   | sl p=>unfold Qz at h;rw [Zm] at h;exact h.2
   | fz t=>exact h
   | ow t=>exact h
  have hd:∀ (m:Nat),r=PV.sl k→rs[m]?=some (PV.sl k)→False:=fun m er em=>by
   subst er
   unfold Qz at h
   rw [Zm] at h
   have q:=Z1.mp h.1 _ (Z2 em)
   simp at q
  cases i with
  | zero =>
   cases j with
   | zero=>rfl
   | succ j=>simp at e1;rw [Zl] at e2;exact (hd j e1 e2).elim
  | succ i =>
   cases j with
   | zero=>simp at e2;rw [Zl] at e1;exact (hd i e2 e1).elim
   | succ j =>
    rw [Zl] at e1 e2
    rw [Qlf tl i j k e1 e2]
def Qd4:∀ {rs:List PV} {i k:Nat},Qm rs i=some k→rs[k]?=some (.sl i)
 | [],i,k,e=>by cases e
 | .sl j::rs,i,k,e=>by
  unfold Qm at e
  by_cases h:j=i
  ·rw [Zb h] at e;cases e;rw [h];rfl
  ·rw [Zd h] at e
   cases h2:Qm rs i with
   | none=>rw [h2] at e;cases e
   | some m=>rw [h2] at e;cases e;rw [Zl];exact Qd4 h2
 | .fz t::rs,i,k,e=>by
  unfold Qm at e
  cases h2:Qm rs i with
  | none=>rw [h2] at e;cases e
  | some m=>rw [h2] at e;cases e;rw [Zl];exact Qd4 h2
 | .ow t::rs,i,k,e=>by
  unfold Qm at e
  cases h2:Qm rs i with
  | none=>rw [h2] at e;cases e
  | some m=>rw [h2] at e;cases e;rw [Zl];exact Qd4 h2
def Qit:∀ {rs:List PV} {i k:Nat},Qm rs i=none→rs[k]?≠some (.sl i)
 | [],i,k,_,e=>by simp at e
 | r::rs,i,k,h,e=>by
  have tl:Qm rs i=none:=by
   cases r with
   | sl j =>
    unfold Qm at h
    by_cases z:j=i
    ·rw [Zb z] at h;cases h
    ·rw [Zd z] at h;simpa using h
   | fz t=>unfold Qm at h;simpa using h
   | ow t=>unfold Qm at h;simpa using h
  cases k with
  | zero =>
   simp at e
   subst e
   unfold Qm at h
   rw [Zb rfl] at h
   cases h
  | succ k=>rw [Zl] at e;exact Qit tl e
def Qnf:∀ {vs:List V} {rs:List PV} {i:Nat} {t:T} {b:Fw},vs[i]?=some (.ref b)→rs[i]?=some (.ow t)→Qlc vs rs b
 | [],_,_,_,_,e,_=>by simp at e
 | _::_,[],_,_,_,_,e=>by simp at e
 | v::vs,r::rs,0,t,b,e1,e2=>by
  simp at e1 e2
  subst e1;subst e2
  exact .inl rfl
 | v::vs,r::rs,i+1,t,b,e1,e2=>by
  rw [Zl] at e1 e2
  have q:=Qnf e1 e2
  cases r with
  | fz t=>exact q
  | sl j=>exact q
  | ow t=>exact .inr q
def ArgR (H:Hp) (G:Fw→Prop) (v:V):Arg→Prop
 | .fz t=>Is (dls H G) v t
 | .ml t=>∃ a,v=.ref a∧G a∧OwnAt H G a t
 | .ro t=>∃ a,v=.ref a∧G a∧OwnAt H G a t
def Arg.prv:Arg→Bool
 | .fz _=>false
 | _=>true
structure ArgsR (H:Hp) (G:Fw→Prop) (vs:List V) (as:List Arg):Prop where
 len:vs.length=as.length
 get:∀ (i:Nat) (v:V) (a:Arg),vs[i]?=some v→as[i]?=some a→ArgR H G v a
 apart:∀ (i j:Nat) (b:Fw) (x y:Arg),as[i]?=some x→as[j]?=some y→x.prv=true→y.prv=true→vs[i]?=some (.ref b)→vs[j]?=some (.ref b)→i=j
def Qng (vs:List V) (as:List Arg) (b:Fw):Prop:=∃ (i:Nat) (t:T),as[i]?=some (.ml t)∧vs[i]?=some (.ref b)
structure CallP (H:Hp) (G:Fw→Prop) (vs:List V) (as:List Arg) (H':Hp) (G':Fw→Prop) (fin:List T):Prop where
 prv:Pen H' G'
 chg:∀ b o,¬ Qng vs as b→H b=some o→H' b=some o
 keep:∀ b o,H b=some o→∃ o',H' b=some o'
 gg:∀ b,G b→G' b
 gn:∀ b,G' b→G b∨H b=none
 fin:∀ (i:Nat) (t:T) (a:Fw),as[i]?=some (.ml t)→vs[i]?=some (.ref a)→∃ t',fin[i]?=some t'∧OwnAt H' G' a t'
def RetR (H H':Hp) (G':Fw→Prop) (v:V):PV→Prop
 | .fz t=>Is (dls H' G') v t
 | .ow t=>∃ a,v=.ref a∧H a=none∧G' a∧OwnAt H' G' a t
 | .sl _=>False
def FROk (mg:Str→Option Fx) (H:Hp) (G:Fw→Prop) (vs:List V) (as:List Arg) (o:FR) (Q:VK) (E:XK):Prop:=match o with
 | .ok r fin=>∀ v H' G',CallP H G vs as H' G' fin→RetR H H' G' v r→Q v H'
 | .xn x fin=>∀ cls dx H' G',CallP H G vs as H' G' fin→Q8o mg H' x cls dx→E cls dx H'
 | .no=>False
def spF (cf:CF) (mg:Str→Option Fx) (f:Nat):Sp:=fun vs H Q E=>∃ G as,ArgsR H G vs as∧Pen H G∧FROk mg H G vs as (cf f as) Q E
section
variable {p:Pr} {B:Bs} {H H1 H2:Hp} {G G1 G2:Fw→Prop} {σ:St} {ρ:En} {vs:List V} {rs:List PV} {as:List Arg} {fin:List T}
def Qnh {r:PV} {a:Arg} (e:Qaq ρ r=some a) (h:a.prv=true):∃ i t,r=.sl i∧(Qa ρ i).prv=some t:=by
 cases r with
 | fz t=>cases e;cases h
 | ow t=>cases e;cases h
 | sl i =>
  rw [Qis] at e
  cases hs:Qa ρ i with
  | un=>rw [hs] at e;cases e
  | pin _=>rw [hs] at e;cases e
  | fx _=>rw [hs] at e;cases e
  | fz t=>rw [hs] at e;cases e
  | ow t=>exact ⟨i,t,rfl,by rw [hs];rfl⟩
  | ml t=>exact ⟨i,t,rfl,by rw [hs];rfl⟩
  | ro t=>exact ⟨i,t,rfl,by rw [hs];rfl⟩
def Qzg {r:PV} {t:T} (e:Qaq ρ r=some (.ml t)):∃ i,r=.sl i∧(Qa ρ i=.ow t∨Qa ρ i=.ml t):=by
 cases r with
 | fz t=>cases e
 | ow t=>cases e
 | sl i =>
  rw [Qis] at e
  cases hs:Qa ρ i with
  | un=>rw [hs] at e;cases e
  | pin _=>rw [hs] at e;cases e
  | fx _=>rw [hs] at e;cases e
  | fz t=>rw [hs] at e;cases e
  | ow t=>rw [hs] at e;cases e;exact ⟨i,rfl,.inl hs⟩
  | ml t=>rw [hs] at e;cases e;exact ⟨i,rfl,.inr hs⟩
  | ro t=>rw [hs] at e;cases e
def Q3f (F:FI B H G σ ρ) (r:PVRs B.H H G σ ρ vs rs) (ea:Q1 ρ rs=some as) (hb:Qz rs=true):∃ G',FI B H G' σ ρ∧ArgsR H G' vs as:=by
 have F':=F.lessG (Qlc vs rs) fun b z=>r.tmp z
 obtain ⟨l1,g1⟩:=Qf0 ea
 refine ⟨_,F',by rw [l1];exact r.len,fun i v a ev e=>?_,fun i j b x y ex ey px py vx vy=>?_⟩
 ·obtain ⟨q,eq,ar⟩:=g1 i a e
  have pv:=r.get ev eq
  cases q with
  | fz t=>cases ar;exact Is.mono (Qce fun b h=>h.1) pv.is
  | ow t =>
   cases ar
   obtain ⟨c,rfl,_,_,_,ob,ec,ql⟩:=pv
   exact ql.is (by rw [Qba fun z=>z.2 (Qnf ev eq)];exact ec) (Qce fun b h=>h.1)
  | sl k =>
   have pv:σ[k]?=some (some v):=pv
   rw [Qis] at ar
   have sk:=F'.slot k
   cases hs:Qa ρ k with
   | un=>rw [hs] at ar;cases ar
   | pin _=>rw [hs] at ar;cases ar
   | fx _=>rw [hs] at ar;cases ar
   | fz t=>rw [hs] at ar;cases ar
   | ow t=>rw [hs] at ar sk;cases ar;obtain ⟨c,h1,h2,h3⟩:=sk;rw [pv] at h1;cases h1;exact ⟨c,rfl,h2,h3⟩
   | ml t=>rw [hs] at ar sk;cases ar;obtain ⟨c,h1,h2,h3⟩:=sk;rw [pv] at h1;cases h1;exact ⟨c,rfl,h2,h3⟩
   | ro t=>rw [hs] at ar sk;cases ar;obtain ⟨c,h1,h2,h3⟩:=sk;rw [pv] at h1;cases h1;exact ⟨c,rfl,h2,h3⟩
 ·obtain ⟨q1,e1,a1⟩:=g1 i x ex
  obtain ⟨q2,e2,a2⟩:=g1 j y ey
  obtain ⟨k1,t1,rfl,s1⟩:=Qnh a1 px
  obtain ⟨k2,t2,rfl,s2⟩:=Qnh a2 py
  have p1:σ[k1]?=some (some (.ref b)):=r.get vx e1
  have p2:σ[k2]?=some (some (.ref b)):=r.get vy e2
  have ek:=F.apart k1 k2 b ⟨⟨t1,s1⟩,p1⟩ ⟨⟨t2,s2⟩,p2⟩
  subst ek
  exact Qlf hb i j k1 e1 e2
def Qoi {s:Slot} {t u:T} (h:(s.put t).prv=some u):∃ w,s.prv=some w:=by
 cases s <;> first | exact ⟨_,rfl⟩ | cases h
def Qlg {i:Nat} {u:T} (h:(Qa (Qa9 ρ rs fin) i).prv=some u):∃ w,(Qa ρ i).prv=some w:=by
 rw [Qcn] at h
 rcases Qbv rs fin i (Qa ρ i) with e | ⟨k,t,_,_,e⟩
 ·rw [e] at h;exact ⟨u,h⟩
 ·rw [e] at h;exact Qoi h
def Q3g {i:Nat} {u:T} (h:Qa (Qa9 ρ rs fin) i=.ow u):∃ w,Qa ρ i=.ow w:=by
 rw [Qcn] at h
 rcases Qbv rs fin i (Qa ρ i) with e | ⟨k,t,_,_,e⟩
 ·rw [e] at h;exact ⟨u,h⟩
 ·rw [e] at h
  cases hs:Qa ρ i <;> rw [hs] at h <;> first | exact ⟨_,rfl⟩ | cases h
def Quq {i:Nat} {u:T} (h:Qa (Qa9 ρ rs fin) i=.ml u):∃ w,Qa ρ i=.ml w:=by
 rw [Qcn] at h
 rcases Qbv rs fin i (Qa ρ i) with e | ⟨k,t,_,_,e⟩
 ·rw [e] at h;exact ⟨u,h⟩
 ·rw [e] at h
  cases hs:Qa ρ i <;> rw [hs] at h <;> first | exact ⟨_,rfl⟩ | cases h
def Q3h {i:Nat} {u:T} (h:Qa (Qa9 ρ rs fin) i=.ro u):∃ w,Qa ρ i=.ro w:=by
 rw [Qcn] at h
 rcases Qbv rs fin i (Qa ρ i) with e | ⟨k,t,_,_,e⟩
 ·rw [e] at h;exact ⟨u,h⟩
 ·rw [e] at h
  cases hs:Qa ρ i <;> rw [hs] at h <;> first | exact ⟨_,rfl⟩ | cases h
def Q3i {i:Nat} {u:T} (h:Qa (Qa9 ρ rs fin) i=.fx u):∃ w,Qa ρ i=.fx w:=by
 rw [Qcn] at h
 rcases Qbv rs fin i (Qa ρ i) with e | ⟨k,t,_,_,e⟩
 ·rw [e] at h;exact ⟨u,h⟩
 ·rw [e] at h
  cases hs:Qa ρ i <;> rw [hs] at h <;> first | exact ⟨_,rfl⟩ | cases h
def FI.called (F:FI B H G σ ρ) (A:ArgsR H G vs as) (hv:∀ (k i:Nat) (v:V),rs[k]?=some (.sl i)→vs[k]?=some v→σ[i]?=some (some v)) (hl:vs.length=rs.length) (ea:Q1 ρ rs=some as) (hb:Qz rs=true) (C:CallP H G vs as H1 G1 fin):FI B H1 G1 σ (Qa9 ρ rs fin):=by
 have ml:∀ b,Qng vs as b→∃ (k i:Nat) (t:T),rs[k]?=some (.sl i)∧as[k]?=some (.ml t)∧vs[k]?=some (.ref b)∧(Qa ρ i=.ow t∨Qa ρ i=.ml t)∧σ[i]?=some (some (.ref b)):=fun b h=>by
  obtain ⟨k,t,e1,e2⟩:=h
  obtain ⟨q,eq,ar⟩:=(Qf0 ea).2 k _ e1
  obtain ⟨i,rfl,hs⟩:=Qzg ar
  exact ⟨k,i,t,eq,e1,e2,hs,hv k i _ eq e2⟩
 have mp:∀ b,Qng vs as b→OwA σ ρ b∨MlA σ ρ b:=fun b h=>by
  obtain ⟨k,i,t,_,_,_,hs | hs,e⟩:=ml b h
  ·exact .inl ⟨i,t,hs,e⟩
  ·exact .inr ⟨i,t,hs,e⟩
 have sm:Same (dls H G) (dls H1 G1):=fun b o e=>by
  obtain ⟨n,e⟩:=Qv e
  have e1:=C.chg b o (fun z=>n ((mp b z).elim F.ownG F.mlG)) e
  rw [Qba fun z=>?_]
  ·exact e1
  ·rcases C.gn b z with z | z
   ·exact n z
   ·rw [z] at e;cases e
 -- a slot's list that is not bD
 have stay:∀ i a t,(Qa ρ i).prv=some t→σ[i]?=some (some (.ref a))→OwnAt H G a t→((∀ t,Qa ρ i≠.ow t)∧(∀ t,Qa ρ i≠.ml t)∨Qm rs i=none)→OwnAt H1 G1 a t:=fun i a t e s o h=>by
  refine o.mono sm fun u eu=>C.chg a u (fun z=>?_) eu
  obtain ⟨k,j,t',e1,_,_,hs,e2⟩:=ml a z
  have ej:j=i:=F.apart j i a ⟨⟨t',by rcases hs with hs | hs <;> rw [hs] <;> rfl⟩,e2⟩ ⟨⟨t,e⟩,s⟩
  subst ej
  rcases h with ⟨h1,h2⟩ | h
  ·rcases hs with hs | hs
   ·exact h1 _ hs
   ·exact h2 _ hs
  ·exact Qit h e1
 -- one that is bD
 have bD:∀ i a t k,(Qa ρ i=.ow t∨Qa ρ i=.ml t)→σ[i]?=some (some (.ref a))→Qm rs i=some k→∃ t',fin[k]?=some t'∧OwnAt H1 G1 a t':=fun i a t k hs s hk=>by
  have e1:=Qd4 hk
  have cg:k<vs.length:=by rw [hl];exact (Ze.mp e1).1
  have e2:=hv k i _ e1 (Za cg)
  rw [s] at e2
  have e3:vs[k]?=some (.ref a):=by rw [Za cg];rw [←Zo (Zo e2)]
  have hX:k<as.length:=by rw [←A.len];exact cg
  obtain ⟨q,eq,ar⟩:=(Qf0 ea).2 k _ (Za hX)
  rw [e1] at eq
  cases eq
  have e4:as[k]?=some (.ml t):=by
   rw [Za hX,←ar,Qis]
   rcases hs with hs | hs <;> rw [hs]
  exact C.fin k t a e4 e3
 exact {
  len:=by unfold Qa9;rw [Qir];exact F.len
  slot:=fun i=>by
   have q:=F.slot i
   have bc:=Qbv rs fin i (Qa ρ i)
   rw [Qcn]
   cases hs:Qa ρ i with
   | un =>
    rw [hs] at bc
    rcases bc with e | ⟨k,t,_,_,e⟩ <;> rw [e] <;> trivial
   | pin a =>
    rw [hs] at q bc
    rcases bc with e | ⟨k,t,_,_,e⟩ <;> rw [e] <;> exact q
   | fz t =>
    rw [hs] at q bc
    obtain ⟨v,e1,e2⟩:=q
    rcases bc with e | ⟨k,t,_,_,e⟩ <;> rw [e] <;> exact ⟨v,e1,e2.mono sm⟩
   | fx t =>
    rw [hs] at q bc
    obtain ⟨v,o,e1,e3,e2⟩:=q
    rcases bc with e | ⟨k,t,_,_,e⟩ <;> rw [e] <;> exact ⟨v,o,e1,sm _ _ e3,e2.mono sm⟩
   | ro t =>
    rw [hs] at q bc
    obtain ⟨a,e1,g,o⟩:=q
    have o':=stay i a t (by rw [hs];rfl) e1 o (.inl ⟨fun t z=>(by rw [hs] at z;cases z),fun t z=>(by rw [hs] at z;cases z)⟩)
    rcases bc with e | ⟨k,t,_,_,e⟩ <;> rw [e] <;> exact ⟨a,e1,C.gg a g,o'⟩
   | ow t =>
    rw [hs] at q bc
    obtain ⟨a,e1,g,o⟩:=q
    cases hp:Qm rs i with
    | none =>
     have o':=stay i a t (by rw [hs];rfl) e1 o (.inr hp)
     rcases bc with e | ⟨k,t',h,_,e⟩
     ·rw [e];exact ⟨a,e1,C.gg a g,o'⟩
     ·rw [hp] at h;cases h
    | some k =>
     obtain ⟨t',ef,o'⟩:=bD i a t k (.inl hs) e1 hp
     have e:Q4 rs fin i (.ow t)=.ow t':=by unfold Q4;rw [hp];simp only [ef];rfl
     rw [e]
     exact ⟨a,e1,C.gg a g,o'⟩
   | ml t =>
    rw [hs] at q bc
    obtain ⟨a,e1,g,o⟩:=q
    cases hp:Qm rs i with
    | none =>
     have o':=stay i a t (by rw [hs];rfl) e1 o (.inr hp)
     rcases bc with e | ⟨k,t',h,_,e⟩
     ·rw [e];exact ⟨a,e1,C.gg a g,o'⟩
     ·rw [hp] at h;cases h
    | some k =>
     obtain ⟨t',ef,o'⟩:=bD i a t k (.inr hs) e1 hp
     have e:Q4 rs fin i (.ml t)=.ml t':=by unfold Q4;rw [hp];simp only [ef];rfl
     rw [e]
     exact ⟨a,e1,C.gg a g,o'⟩
  apart:=fun i j a h1 h2=>F.apart i j a ⟨let ⟨u,e⟩:=h1.1;Qlg e,h1.2⟩ ⟨let ⟨u,e⟩:=h2.1;Qlg e,h2.2⟩
  prv:=C.prv
  chg:=fun b o h1 h2 e=>C.chg b o (fun z=>by
   rcases mp b z with z | z
   ·rcases F.newO b z with z | z
    ·rw [e] at z;cases z
    ·exact h1 z
   ·exact h2 (F.newM b z)) (F.chg b o h1 h2 e)
  keep:=fun b o e=>by
   obtain ⟨o1,e1⟩:=F.keep b o e
   exact C.keep b o1 e1
  newO:=fun a h=>by
   obtain ⟨i,t,e,s⟩:=h
   obtain ⟨w,e⟩:=Q3g e
   exact F.newO a ⟨i,w,e,s⟩
  newM:=fun a h=>by
   obtain ⟨i,t,e,s⟩:=h
   obtain ⟨w,e⟩:=Quq e
   exact F.newM a ⟨i,w,e,s⟩
  fix:=fun i a h=>by
   obtain ⟨⟨t,e⟩,s⟩:=h
   refine F.fix i a ⟨?_,s⟩
   rcases e with e | e | e
   ·obtain ⟨w,e⟩:=Quq e;exact ⟨w,.inl e⟩
   ·obtain ⟨w,e⟩:=Q3h e;exact ⟨w,.inr (.inl e)⟩
   ·obtain ⟨w,e⟩:=Q3i e;exact ⟨w,.inr (.inr e)⟩
  gg:=fun b h=>C.gg b (F.gg b h)
  gn:=fun b h=>by
   rcases C.gn b h with z | z
   ·exact F.gn b z
   ·exact .inr (F.free z)
  bp:=F.bp }
end
section
variable {X:Cx} {p:Pr} {x:Str} {e:Fr} {es:List Fr} {aq:Es} {f k:Nat} {ps:List Str} {pos p1:Pos}
def Q3j {σ:St} {H:Hp} {Q:VK} (h:tE p (.call f aq) σ H Q):Qsf (spF p.cf p.mg f) p.R (tA p aq) σ H Q:=by
 obtain ⟨G,ρ,F,h⟩:=h
 unfold evE at h
 refine ⟨G,ρ,F,h.bind.imp fun rs ρ1 h1 vs H1 G1 F1 r1=>?_⟩
 unfold Qio at h1
 by_cases hb:Qz rs=true
 ·rw [Zb hb] at h1
  cases ea:Q1 ρ1 rs with
  | none=>rw [ea] at h1;exact Zfb h1
  | some as =>
   rw [ea] at h1
   replace h1:Fin p (Qan H G σ ρ) σ (match p.cf f as with | .ok r fin=>.ok r (Qa9 ρ1 rs fin) | .xn x fin=>.xn x (Qa9 ρ1 rs fin) | .no=>.no) _:=h1
   obtain ⟨G',F',A⟩:=Q3f (B:=Qan H G σ ρ) F1 r1 ea hb
   have hv:∀ (k i:Nat) (v:V),rs[k]?=some (.sl i)→vs[k]?=some v→σ[i]?=some (some v):=fun k i v e1 e2=>r1.get e2 e1
   refine ⟨G',as,A,F'.prv,?_⟩
   cases ec:p.cf f as with
   | no=>rw [ec] at h1;exact Zfb h1
   | xn z fin =>
    rw [ec] at h1
    exact fun cls dx H' G2 C xr=>h1 cls dx H' G2 (F'.called A hv r1.len ea hb C) xr
   | ok r fin =>
    rw [ec] at h1
    refine fun v H' G2 C rr=>h1 v H' G2 (F'.called A hv r1.len ea hb C) ?_
    cases r with
    | sl i=>exact Zfb rr
    | fz t=>exact rr
    | ow t =>
     obtain ⟨a,rfl,n,g,o⟩:=rr
     refine ⟨a,rfl,F'.free n,g,fun i hp=>?_,o⟩
     obtain ⟨w,e⟩:=Qlg hp.1.choose_spec
     obtain ⟨_,t,ob,ea,_⟩:=PrvAt.at F' ⟨⟨w,e⟩,hp.2⟩
     rw [n] at ea
     cases ea
 ·rw [Zd hb] at h1
  exact Zfb h1
def Qur:∀ {rs:List PV} {ts:List T},fzL rs=some ts→rs=ts.map PV.fz
 | [],ts,e=>by cases e;rfl
 | .ow t::rs,ts,e=>by cases e
 | .sl i::rs,ts,e=>by cases e
 | .fz t::rs,ts,e=>by
  unfold fzL at e
  cases h:fzL rs with
  | none=>rw [h] at e;cases e
  | some us=>rw [h] at e;cases e;rw [Qur h];rfl
def FI.calledT {B:Bs} {H H1:Hp} {G G1:Fw→Prop} {σ:St} {ρ:En} {vs:List V} {as:List Arg} {fin:List T} {l:Fw} (F:FI B H G σ ρ) (gl:G l) (hl:B.H l=none) (np:∀ i,¬ PrvAt σ ρ i l) (hm:∀ b,Qng vs as b→b=l) (C:CallP H G vs as H1 G1 fin):FI B H1 G1 σ ρ:=by
 have sm:Same (dls H G) (dls H1 G1):=fun b o e=>by
  obtain ⟨n,e⟩:=Qv e
  have e1:=C.chg b o (fun z=>n (by rw [hm b z];exact gl)) e
  rw [Qba fun z=>?_]
  ·exact e1
  ·rcases C.gn b z with z | z
   ·exact n z
   ·rw [z] at e;cases e
 exact {
  len:=F.len
  slot:=fun i=>Qfy (F.slot i) sm fun a o h1 h2 e=>⟨C.chg a o (fun z=>np i ⟨h1,by rw [←hm a z];exact h2⟩) e,C.gg a (PrvAt.at F ⟨h1,h2⟩).1⟩
  apart:=F.apart
  prv:=C.prv
  chg:=fun b o h1 h2 e=>C.chg b o (fun z=>by rw [hm b z,hl] at e;cases e) (F.chg b o h1 h2 e)
  keep:=fun b o e=>by
   obtain ⟨o1,e1⟩:=F.keep b o e
   exact C.keep b o1 e1
  newO:=F.newO
  newM:=F.newM
  fix:=F.fix
  gg:=fun b h=>C.gg b (F.gg b h)
  gn:=fun b h=>by
   rcases C.gn b h with z | z
   ·exact F.gn b z
   ·exact .inr (F.free z)
  bp:=F.bp }
def Qzh {σ:St} {H:Hp} {Q:VK} (h:tE p (.tcall f aq) σ H Q):Qsf (spF p.cf p.mg f) p.R (tA p aq) σ H Q:=by
 obtain ⟨G,ρ,F,h⟩:=h
 unfold evE at h
 refine ⟨G,ρ,F,h.bind.imp fun rs ρ1 h1 vs H1 G1 F1 r1=>?_⟩
 unfold Qk8 at h1
 cases r1 with
 | nil=>exact Zfb h1
 | @cons v r vs rs pv rr =>
  cases r with
  | fz t=>exact Zfb h1
  | sl i=>exact Zfb h1
  | ow t =>
   obtain ⟨l,rfl,nl,gl,np,ow⟩:=pv
   dsimp only at h1
   cases ez:fzL rs with
   | none=>rw [ez] at h1;exact Zfb h1
   | some ts =>
    rw [ez] at h1
    replace h1:Fin p (Qan H G σ ρ) σ (match p.cf f (.ml t::ts.map Arg.fz) with | .ok r _=>.ok r ρ1 | .xn x _=>.xn x ρ1 | .no=>.no) _:=h1
    have ie:=Qur ez
    have gt:∀ (i:Nat) (a:Arg),(ts.map Arg.fz)[i]?=some a→∃ u,a=.fz u∧rs[i]?=some (.fz u):=fun i a e=>by
     rw [Z8] at e
     cases hu:ts[i]? with
     | none=>rw [hu] at e;cases e
     | some u=>rw [hu] at e;cases e;exact ⟨u,rfl,by rw [ie,Z8,hu];rfl⟩
    have A:ArgsR H1 G1 (.ref l::vs) (.ml t::ts.map Arg.fz):=by
     refine ⟨by rw [Zh,Zh,Zf,rr.len,ie,Zf],fun i v a ev e=>?_,fun i j b x y ex ey px py vx vy=>?_⟩
     ·cases i with
      | zero=>simp at ev e;subst ev;subst e;exact ⟨l,rfl,gl,ow⟩
      | succ i =>
       rw [Zl] at ev e
       obtain ⟨u,rfl,er⟩:=gt i a e
       exact rr.get ev er
     ·cases i with
      | zero =>
       cases j with
       | zero=>rfl
       | succ j=>rw [Zl] at ey;obtain ⟨u,rfl,_⟩:=gt j y ey;cases py
      | succ i=>rw [Zl] at ex;obtain ⟨u,rfl,_⟩:=gt i x ex;cases px
    have hm:∀ b,Qng (.ref l::vs) (.ml t::ts.map Arg.fz) b→b=l:=fun b ⟨i,u,e1,e2⟩=>by
     cases i with
     | zero=>simp at e2;exact e2.symm
     | succ i=>rw [Zl] at e1;obtain ⟨u',z,_⟩:=gt i _ e1;cases z
    refine ⟨G1,_,A,F1.prv,?_⟩
    cases ec:p.cf f (.ml t::ts.map Arg.fz) with
    | no=>rw [ec] at h1;exact Zfb h1
    | xn z fin =>
     rw [ec] at h1
     exact fun cls dx H' G2 C xr=>h1 cls dx H' G2 (F1.calledT gl nl np hm C) xr
    | ok r fin =>
     rw [ec] at h1
     refine fun v H' G2 C rr=>h1 v H' G2 (F1.calledT gl nl np hm C) ?_
     cases r with
     | sl i=>exact Zfb rr
     | fz t=>exact rr
     | ow t =>
      obtain ⟨a,rfl,n,g,o⟩:=rr
      refine ⟨a,rfl,F1.free n,g,fun i hp=>?_,o⟩
      obtain ⟨_,t,ob,ea,_⟩:=PrvAt.at F1 hp
      rw [n] at ea
      cases ea
def Q3k (h:HasE X.prog X.w X.K X.mg X.base x ps k (spF p.cf p.mg f)) (pz:Qik X p.R) (hr:Room k X.A) (ha:QA X (e::es) (tA p aq)) (hg:Gl X x) (aD:(x==("__debug__" : Str))=false) (h1:Qr e=true) (h2:es.all Qr=true) :
  QE X (.Call (.Name x p1) (e::es) [] pos) (tE p (.tcall f aq)):=(Q5f h pz hr ha hg aD (Qa1 h1) (Qgz h2)).weak fun σ H Q h=>Qzh h
def Q8y (h:HasE X.prog X.w X.K X.mg X.base x ps k (spF p.cf p.mg f)) (pz:Qik X p.R) (hr:Room k X.A) (ha:QA X (e::es) (tA p aq)) (hg:Gl X x) (aD:(x==("__debug__" : Str))=false) (h1:Qr e=true) (h2:es.all Qr=true) :
  QE X (.Call (.Name x p1) (e::es) [] pos) (tE p (.call f aq)):=(Q5f h pz hr ha hg aD (Qa1 h1) (Qgz h2)).weak fun σ H Q h=>Q3j h
end
section
variable {B:Bs} {H H1:Hp} {G G1:Fw→Prop} {σ:St} {ρ ρ':En} {i:Nat} {v:V} {t:T}
def Qlh {w:Option V} (h:i<σ.length):(σ.set i w)[i]?=some w:=by rw [Zcd h]
def Qgn {j:Nat} {w:Option V} (h:j≠i):(σ.set i w)[j]?=σ[j]?:=by rw [Zbt (fun z=>h z.symm)]
def FI.lay (F:FI B H G σ ρ) (hi:i<ρ.length) {s:Slot} {w:Option V} (hs:Qiq H G (σ.set i w) i s) (hp:∀ a,(∃ t,s.prv=some t)→w=some (.ref a)→∀ j,j≠i→¬ PrvAt σ ρ j a)
  (ho:∀ t a,s=.ow t→w=some (.ref a)→B.H a=none∨B.O a) (hm:∀ t,s≠.ml t) (hr:∀ t,s≠.ro t) (hx:∀ t,s≠.fx t:=by intro _ z;cases z):FI B H G (σ.set i w) (ρ.set i s):=by
 have hl:i<σ.length:=by rw [F.len];exact hi
 have sa:∀ j,Qa (ρ.set i s) j=if j=i then s else Qa ρ j:=fun j=>by
  rw [Qh]
  by_cases e:j=i
  ·rw [Zb ⟨e,hi⟩,Zb e]
  ·rw [Zd (fun z=>e z.1),Zd e]
 have aB:∀ j a,PrvAt (σ.set i w) (ρ.set i s) j a→j≠i→PrvAt σ ρ j a:=fun j a h n=>by
  obtain ⟨⟨u,e⟩,q⟩:=h
  rw [sa,Zd n] at e
  rw [Qgn n] at q
  exact ⟨⟨u,e⟩,q⟩
 have ci:∀ a,PrvAt (σ.set i w) (ρ.set i s) i a→(∃ t,s.prv=some t)∧w=some (.ref a):=fun a h=>by
  obtain ⟨⟨u,e⟩,q⟩:=h
  rw [sa,Zb rfl] at e
  rw [Qlh hl] at q
  exact ⟨⟨u,e⟩,Zo q⟩
 exact {
  len:=by rw [Z6,Z6];exact F.len
  slot:=fun j=>by
   rw [sa]
   by_cases e:j=i
   ·rw [Zb e,e];exact hs
   ·rw [Zd e]
    have q:=F.slot j
    cases hh:Qa ρ j with
    | un=>trivial
    | pin a=>rw [hh] at q;show (σ.set i _)[j]?=_;rw [Qgn e];exact q
    | fz t=>rw [hh] at q;obtain ⟨v,a,b⟩:=q;exact ⟨v,by rw [Qgn e];exact a,b⟩
    | fx t=>rw [hh] at q;obtain ⟨v,o,a,b⟩:=q;exact ⟨v,o,by rw [Qgn e];exact a,b⟩
    | ow t=>rw [hh] at q;obtain ⟨v,a,b⟩:=q;exact ⟨v,by rw [Qgn e];exact a,b⟩
    | ml t=>rw [hh] at q;obtain ⟨v,a,b⟩:=q;exact ⟨v,by rw [Qgn e];exact a,b⟩
    | ro t=>rw [hh] at q;obtain ⟨v,a,b⟩:=q;exact ⟨v,by rw [Qgn e];exact a,b⟩
  apart:=fun j k a h1 h2=>by
   by_cases e1:j=i
   ·by_cases e2:k=i
    ·rw [e1,e2]
    ·rw [e1] at h1
     exact (hp a (ci a h1).1 (ci a h1).2 k e2 (aB k a h2 e2)).elim
   ·by_cases e2:k=i
    ·rw [e2] at h2
     exact (hp a (ci a h2).1 (ci a h2).2 j e1 (aB j a h1 e1)).elim
    ·exact F.apart j k a (aB j a h1 e1) (aB k a h2 e2)
  prv:=F.prv
  chg:=F.chg
  keep:=F.keep
  newO:=fun a h=>by
   obtain ⟨j,u,e,q⟩:=h
   rw [sa] at e
   by_cases z:j=i
   ·rw [Zb z] at e
    rw [z,Qlh hl] at q
    exact ho u a e (Zo q)
   ·rw [Zd z] at e
    rw [Qgn z] at q
    exact F.newO a ⟨j,u,e,q⟩
  newM:=fun a h=>by
   obtain ⟨j,u,e,q⟩:=h
   rw [sa] at e
   by_cases z:j=i
   ·rw [Zb z] at e;exact (hm u e).elim
   ·rw [Zd z] at e
    rw [Qgn z] at q
    exact F.newM a ⟨j,u,e,q⟩
  fix:=fun j a h=>by
   obtain ⟨⟨u,e⟩,q⟩:=h
   rw [sa] at e
   by_cases z:j=i
   ·rw [Zb z] at e
    rcases e with e | e | e
    ·exact (hm u e).elim
    ·exact (hr u e).elim
    ·exact (hx u e).elim
   ·rw [Zd z] at e
    rw [Qgn z] at q
    exact F.fix j a ⟨⟨u,e⟩,q⟩
  gg:=F.gg
  gn:=F.gn
  bp:=F.bp }
def FI.setFz (F:FI B H G σ ρ) (hi:i<ρ.length) (hv:Is (dls H G) v t):FI B H G (σ.set i (some v)) (ρ.set i (.fz t)) :=
 F.lay hi ⟨v,Qlh (by rw [F.len];exact hi),hv⟩ (fun a h=>by obtain ⟨u,e⟩:=h;cases e) (fun _ _ e=>by cases e) (fun _ e=>by cases e) (fun _ e=>by cases e)
def Qjm {s:Slot} (h:Qbi i s ρ=some ρ'):i<ρ.length∧ρ'=ρ.set i s:=by
 unfold Qbi at h
 by_cases z:i<ρ.length
 ·rw [Zb z] at h
  cases hs:Qa ρ i <;> rw [hs] at h <;> first | (cases h;done) | exact ⟨z,(Zo h).symm⟩
 ·rw [Zd z] at h;cases h
def FI.setS (F:FI B H G σ ρ) (h:L2.Qbi i (.fz t) ρ=some ρ') (hv:Is (dls H G) v t):FI B H G (σ.set i (some v)) ρ':=by
 obtain ⟨h1,rfl⟩:=Qjm h
 exact F.setFz h1 hv
def FI.setOw {H0:Hp} (F:FI B H G σ ρ) (hb:B.H=H0) (h:L2.Qbi i (.ow t) ρ=some ρ') (hv:TmpR H0 H G σ ρ v t):FI B H G (σ.set i (some v)) ρ':=by
 obtain ⟨h1,rfl⟩:=Qjm h
 obtain ⟨a,rfl,n,g,np,o⟩:=hv
 refine F.lay h1 ⟨a,Qlh (by rw [F.len];exact h1),g,o⟩ (fun b _ e j _=>?_) (fun _ b _ e=>?_) (fun _ e=>by cases e) (fun _ e=>by cases e)
 ·cases e;exact np j
 ·cases e;exact .inl (by rw [hb];exact n)
def FI.forget (F:FI B H G σ ρ) (i:Nat):FI B H G σ (ρ.set i .un):=by
 have sa:∀ j,Qa (ρ.set i .un) j=.un∨Qa (ρ.set i .un) j=Qa ρ j:=fun j=>by
  rw [Qh]
  by_cases e:j=i∧i<ρ.length
  ·rw [Zb e];exact .inl rfl
  ·rw [Zd e];exact .inr rfl
 have aB:∀ j a,PrvAt σ (ρ.set i .un) j a→PrvAt σ ρ j a:=fun j a h=>by
  obtain ⟨⟨u,e⟩,q⟩:=h
  rcases sa j with z | z
  ·rw [z] at e;cases e
  ·rw [z] at e;exact ⟨⟨u,e⟩,q⟩
 exact { F with
  len:=by rw [Z6];exact F.len
  slot:=fun j=>by
   rcases sa j with z | z
   ·rw [z];trivial
   ·rw [z];exact F.slot j
  apart:=fun j k a h1 h2=>F.apart j k a (aB j a h1) (aB k a h2)
  newO:=fun a h=>by
   obtain ⟨j,u,e,q⟩:=h
   rcases sa j with z | z
   ·rw [z] at e;cases e
   ·rw [z] at e;exact F.newO a ⟨j,u,e,q⟩
  newM:=fun a h=>by
   obtain ⟨j,u,e,q⟩:=h
   rcases sa j with z | z
   ·rw [z] at e;cases e
   ·rw [z] at e;exact F.newM a ⟨j,u,e,q⟩
  fix:=fun j a h=>by
   obtain ⟨⟨u,e⟩,q⟩:=h
   rcases sa j with z | z
   ·rw [z] at e;rcases e with e | e | e <;> cases e
   ·rw [z] at e;exact F.fix j a ⟨⟨u,e⟩,q⟩ }
def FI.freeze (F:FI B H G σ ρ) (hO:∀ a,¬ B.O a) (hs:Qa ρ i=.ow t):∃ G1,FI B H G1 σ (ρ.set i (.fz t))∧Same (dls H G) (dls H G1):=by
 have hi:i<ρ.length:=Qhi (by rw [hs];intro z;cases z)
 have q:=F.slot i
 rw [hs] at q
 obtain ⟨a,e,g,ob,ea,il⟩:=q
 have F1:=F.forget i
 have np:∀ j,¬ PrvAt σ (ρ.set i .un) j a:=fun j h=>by
  have hj:j≠i:=fun z=>by
   obtain ⟨⟨u,e⟩,_⟩:=h
   rw [z,Qh,Zb ⟨rfl,hi⟩] at e
   cases e
  obtain ⟨⟨u,e2⟩,q2⟩:=h
  rw [Qh,Zd (fun z=>hj z.1)] at e2
  exact hj (F.apart j i a ⟨⟨u,e2⟩,q2⟩ ⟨⟨_,by rw [hs];rfl⟩,e⟩)
 have hb:B.H a=none:=by
  rcases F.newO a ⟨i,_,hs,e⟩ with z | z
  ·exact z
  ·exact (hO a z).elim
 have F2:=F1.lessG (fun b=>b=a) fun b cw=>⟨cw ▸ hb,cw ▸ np⟩
 have hv:Is (dls H fun b=>G b∧¬ b=a) (.ref a) t:=il.is (by rw [Qba fun z=>z.2 rfl];exact ea) (Qce fun b h=>h.1)
 have F3:=F2.setFz (i:=i) (by rw [Z6];exact hi) hv
 rw [Zd2] at F3
 have e3:σ.set i (some (.ref a))=σ:=by
  apply List.ext_getElem?
  intro j
  by_cases hj:j=i
  ·rw [hj,e,Qlh (by rw [F.len];exact hi)]
  ·rw [Qgn hj]
 rw [e3] at F3
 exact ⟨_,F3,Qce fun b h=>h.1⟩
def FI.changeO (F:FI B H G σ ρ) {t0 u0:T} {ob:HO} {s':Slot} (hs:(Qa ρ i=.ow t0∧s'=.ow u0)∨(Qa ρ i=.ml t0∧s'=.ml u0)) {a:Fw} (e:σ[i]?=some (some (.ref a))) (il:OwnO (dls H G) u0 ob) :
  FI B (upd H a ob) G σ (ρ.set i s')∧Same (dls H G) (dls (upd H a ob) G):=by
 have gG:(Qa ρ i).prv=some t0:=by rcases hs with ⟨h,_⟩ | ⟨h,_⟩ <;> rw [h] <;> rfl
 have hi:i<ρ.length:=Qhi (by rcases hs with ⟨h,_⟩ | ⟨h,_⟩ <;> rw [h] <;> intro z <;> cases z)
 obtain ⟨a',e',g,o',ea,_⟩:=F.prvAt gG
 rw [e] at e'
 cases e'
 have sa:∀ j,Qa (ρ.set i s') j=if j=i then s' else Qa ρ j:=fun j=>by
  rw [Qh]
  by_cases e:j=i
  ·rw [Zb ⟨e,hi⟩,Zb e]
  ·rw [Zd (fun z=>e z.1),Zd e]
 have sm:Same (dls H G) (dls (upd H a ob) G):=fun b o eb=>by
  obtain ⟨n,eb⟩:=Qv eb
  rw [Qba n,Q3 (fun (z:b=a)=>n (by rw [z];exact g))]
  exact eb
 have ik:∀ j b,PrvAt σ (ρ.set i s') j b→PrvAt σ ρ j b:=fun j b h=>by
  obtain ⟨⟨u,e1⟩,q⟩:=h
  rw [sa] at e1
  by_cases hj:j=i
  ·rw [hj] at q ⊢;exact ⟨⟨_,gG⟩,q⟩
  ·rw [Zd hj] at e1;exact ⟨⟨u,e1⟩,q⟩
 have own:OwnAt (upd H a ob) G a u0:=⟨ob,Qt,il.mono sm⟩
 refine ⟨{
  len:=by rw [Z6];exact F.len
  slot:=fun j=>by
   rw [sa]
   by_cases hj:j=i
   ·rw [Zb hj,hj]
    rcases hs with ⟨_,h⟩ | ⟨_,h⟩ <;> rw [h] <;> exact ⟨a,e,g,own⟩
   ·rw [Zd hj]
    refine Qfy (F.slot j) sm fun b o eP cB eb=>?_
    have nb:b≠a:=fun z=>hj (F.apart j i a ⟨eP,z ▸ cB⟩ ⟨⟨_,gG⟩,e⟩)
    exact ⟨by rw [Q3 nb];exact eb,(PrvAt.at F ⟨eP,cB⟩).1⟩
  apart:=fun j k b h1 h2=>F.apart j k b (ik j b h1) (ik k b h2)
  prv:=fun b hb=>by
   by_cases h:b=a
   ·exact ⟨ob,by rw [h,Qt],il.pen⟩
   ·rw [Q3 h];exact F.prv b hb
  chg:=fun b o h1 h2 eb=>by
   have nb:b≠a:=fun z=>by
    rcases hs with ⟨h,_⟩ | ⟨h,_⟩
    ·rcases F.newO a ⟨i,_,h,e⟩ with y | y
     ·rw [z,y] at eb;cases eb
     ·exact h1 (z ▸ y)
    ·exact h2 (z ▸ F.newM a ⟨i,_,h,e⟩)
   rw [Q3 nb]
   exact F.chg b o h1 h2 eb
  keep:=fun b o eb=>by
   by_cases h:b=a
   ·exact ⟨_,by rw [h,Qt]⟩
   ·rw [Q3 h];exact F.keep b o eb
  newO:=fun b h=>by
   obtain ⟨j,u,e1,q⟩:=h
   rw [sa] at e1
   by_cases hj:j=i
   ·rw [Zb hj] at e1
    rcases hs with ⟨h,h2⟩ | ⟨h,h2⟩
    ·exact F.newO b ⟨i,_,h,hj ▸ q⟩
    ·rw [h2] at e1;cases e1
   ·rw [Zd hj] at e1;exact F.newO b ⟨j,u,e1,q⟩
  newM:=fun b h=>by
   obtain ⟨j,u,e1,q⟩:=h
   rw [sa] at e1
   by_cases hj:j=i
   ·rw [Zb hj] at e1
    rcases hs with ⟨h,h2⟩ | ⟨h,h2⟩
    ·rw [h2] at e1;cases e1
    ·exact F.newM b ⟨i,_,h,hj ▸ q⟩
   ·rw [Zd hj] at e1;exact F.newM b ⟨j,u,e1,q⟩
  fix:=fun j b h=>by
   obtain ⟨⟨u,e1⟩,q⟩:=h
   rw [sa] at e1
   by_cases hj:j=i
   ·rw [Zb hj] at e1
    rcases hs with ⟨h,h2⟩ | ⟨h,h2⟩
    ·rw [h2] at e1;rcases e1 with e1 | e1 | e1 <;> cases e1
    ·exact F.fix j b ⟨⟨_,.inl (by rw [hj];exact h)⟩,q⟩
   ·rw [Zd hj] at e1;exact F.fix j b ⟨⟨u,e1⟩,q⟩
  gg:=F.gg
  gn:=F.gn
  bp:=F.bp },sm⟩
def FI.change (F:FI B H G σ ρ) {ts us:List T} {ws:List V} {s':Slot} (hs:(Qa ρ i=.ow (.lst ts)∧s'=.ow (.lst us))∨(Qa ρ i=.ml (.lst ts)∧s'=.ml (.lst us))) {a:Fw} (e:σ[i]?=some (some (.ref a))) (il:IsL (dls H G) ws us) (z:us.length≤100000) :
  FI B (upd H a (.lst ws)) G σ (ρ.set i s')∧Same (dls H G) (dls (upd H a (.lst ws)) G):=F.changeO hs e ⟨z,il⟩
end
def QG.weak {X:Cx} {e:Fr} {t t':TG} (h:QG X e t) (q:∀ v σ H Q,t' v σ H Q→t v σ H Q):QG X e t':=⟨fun aa s σ H v u Q I r z=>h.h aa s σ H v u Q I r (q _ _ _ _ z)⟩
def QI.weak {X:Cx} {tg e:Fr} {t t':TI} (h:QI X tg e t) (q:∀ σ H R,t' σ H R→t σ H R):QI X tg e t':=⟨fun aa s σ H R I z=>h.h aa s σ H R I (q _ _ _ z)⟩
def QC.weak {X:Cx} {e:List Fr} {t t':TT} (h:QC X e t) (q:∀ σ H Q,t' σ H Q→t σ H Q):QC X e t':=⟨fun aa s σ H Q I z=>h.h aa s σ H Q I (q _ _ _ z)⟩
def tG (tg:Tg):TG:=fun v σ H Q=>∃ B G ρ t ρ',FI B H G σ ρ∧Is (dls H G) v t∧Qcl tg t ρ=some ρ'∧∀ σ',FI B H G σ' ρ'→(∀ k a,PrvAt σ' ρ' k a→PrvAt σ ρ k a)→Q σ' H
def Qqj {i:Nat} {t:T} {σ:St} {ρ ρ':En} {v:V} (h:Qbi i (.fz t) ρ=some ρ'):∀ k a,PrvAt (σ.set i (some v)) ρ' k a→PrvAt σ ρ k a:=fun k a hk=>by
 obtain ⟨h1,rfl⟩:=Qjm h
 obtain ⟨⟨u,e⟩,q⟩:=hk
 rw [Qh] at e
 by_cases z:k=i∧i<ρ.length
 ·rw [Zb z] at e;cases e
 ·rw [Zd z] at e
  have hk:k≠i:=fun y=>z ⟨y,h1⟩
  rw [Qgn hk] at q
  exact ⟨⟨u,e⟩,q⟩
def Qzi:List Nat→TGs
 | []=>Q6u
 | i::is=>Qxk (Qcr i) (Qzi is)
section
variable {X:Cx} {e:Fr} {es:List Fr} {pos:Pos}
def Q7 {i:Nat} (h:QG X e (Qcr i)):QG X e (tG (.nm i)):=h.weak fun v σ H Q ⟨B,G,ρ,t,ρ',F,hv,hs,q⟩=>q _ (F.setS hs hv) (Qqj hs)
def Qus {B:Bs} {H:Hp} {G:Fw→Prop} {Q:St→Hp→Prop}:∀ {is:List Nat} {ts:List T} {xs:List V} {σ:St} {ρ ρ':En},FI B H G σ ρ→IsL (dls H G) xs ts→Qbl is ts ρ=some ρ'→(∀ σ',FI B H G σ' ρ'→(∀ k a,PrvAt σ' ρ' k a→PrvAt σ ρ k a)→Q σ' H)→Qzi is xs σ H Q
 | [],[],xs,σ,ρ,ρ',F,r,e,q=>by
  cases e
  exact ⟨r.nil_inv,q σ F fun _ _ h=>h⟩
 | i::is,t::ts,xs,σ,ρ,ρ',F,r,e,q=>by
  obtain ⟨v,w,rfl,a,r⟩:=r.cons_inv
  unfold Qbl at e
  cases h:Qbi i (.fz t) ρ with
  | none=>rw [h] at e;cases e
  | some ρ1 =>
   rw [h] at e
   exact ⟨v,w,rfl,Qus (F.setS h a) r e fun σ' F' o=>q σ' F' fun k b hk=>Qqj h k b (o k b hk)⟩
 | [],_::_,_,_,_,_,_,_,e,_=>by cases e
 | _::_,[],_,_,_,_,_,_,e,_=>by cases e
def Qj1:∀ {is:List Nat} {ts:List T} {ρ ρ':En},Qbl is ts ρ=some ρ'→ts.length=is.length
 | [],[],_,_,_=>rfl
 | i::is,t::ts,ρ,ρ',e=>by
  unfold Qbl at e
  cases h:Qbi i (.fz t) ρ with
  | none=>rw [h] at e;cases e
  | some ρ1=>rw [h] at e;rw [Zh,Zh,Qj1 e]
 | [],_::_,_,_,e=>by cases e
 | _::_,[],_,_,e=>by cases e
def Qzj {K:Fz} {n:Nat} {is:List Nat} (h:QG X e (Q17 K n (Qzi is))) (hn:is.length=n):QG X e (tG (.tp is)):=h.weak fun v σ H Q ⟨B,G,ρ,t,ρ',F,hv,hs,q⟩=>by
 cases t <;> first | (cases hs;done) | skip
 have hs:Qbl is _ ρ=some ρ':=hs
 obtain ⟨a,vs,rfl,ea,r⟩:=hv.tup_inv
 exact ⟨a,vs,rfl,SqT.of (Qv ea).2,by rw [r.length,Qj1 hs,hn],Qus F r hs q⟩
end
structure WkR (J:It) (H0:Hp) (G0:Fw→Prop) (Ok:Hp→Prop) (ts:List T):Prop where
 go:∀ i H,i<ts.length→Ok H→J.go i H
 stop:∀ i H,ts.length≤i→Ok H→J.stop i H
 yld:∀ i H x H',i<ts.length→Ok H→J.yld i H x H'→Same H H'∧∃ t,ts[i]?=some t∧∀ G,Pen H G→Same (dls H0 G0) (dls H G)→Is (dls H' G) x t
def tW (p:Pr) (w:W):TI:=fun σ H R=>∃ G ρ,FI (Qan H G σ ρ) H G σ ρ∧Fin p (Qan H G σ ρ) σ (evW p.cf w ρ) fun ac ρ1=>ac.2=none∧∀ J H1 G1 Ok,FI (Qan H G σ ρ) H1 G1 σ ρ1→WkR J H1 G1 Ok ac.1→(∀ H' G',Same (dls H1 G1) (dls H' G')→Ok H')→R J H1
section
variable {X:Cx} {p:Pr} {e a b tg:Fr} {a' b' e':E} {pos p1:Pos} {K:Fz}
def wk_l {H:Hp} {G:Fw→Prop} {l:Fw} {vs:List V} {ts:List T} (r:IsL (dls H G) vs ts):WkR (Itl K l) H G (fun H'=>SqL K H' l vs) ts where
 go:=fun i H' hi ok=>⟨vs,_,ok,Za (by rw [r.length];exact hi)⟩
 stop:=fun i H' hi ok=>⟨vs,ok,by rw [r.length];exact hi⟩
 yld:=fun i H' x H2 hi ok y=>by
  obtain ⟨rfl,hx⟩:=y
  obtain ⟨t,et,it⟩:=r.get (hx vs ok)
  exact ⟨Same.refl _,t,et,fun G' _ s=>it.mono s⟩
def wk_t {H:Hp} {G:Fw→Prop} {l:Fw} {vs:List V} {ts:List T} (r:IsL (dls H G) vs ts):WkR (Itt K l) H G (fun H'=>SqT K H' l vs) ts where
 go:=fun i H' hi ok=>⟨vs,_,ok,Za (by rw [r.length];exact hi)⟩
 stop:=fun i H' hi ok=>⟨vs,ok,by rw [r.length];exact hi⟩
 yld:=fun i H' x H2 hi ok y=>by
  obtain ⟨rfl,hx⟩:=y
  obtain ⟨t,et,it⟩:=r.get (hx vs ok)
  exact ⟨Same.refl _,t,et,fun G' _ s=>it.mono s⟩
def Qat (lo:Int) (n:Nat):(Qad lo n).length=n:=by unfold Qad;rw [Zf,Zac]
def Qfg {lo:Int} {n i:Nat} (hi:i<n):(Qad lo n)[i]?=some (.int (lo+i)):=by
 unfold Qad
 rw [Z8,Zco hi]
 rfl
def wk_r {H:Hp} {G:Fw→Prop} {lo:Int} {n:Nat}:WkR (Itr lo n) H G (fun _=>True) (Qad lo n) where
 go:=fun i H' hi _=>by rw [Qat] at hi;exact hi
 stop:=fun i H' hi _=>by rw [Qat] at hi;exact hi
 yld:=fun i H' x H2 hi _ y=>by
  rw [Qat] at hi
  obtain ⟨rfl,rfl⟩:=y
  exact ⟨Same.refl _,_,Qfg hi,fun _ _ _=>Is.int⟩
def Qg0:∀ (ts:List T) (n:Nat),(Qip n ts).length=ts.length
 | [],_=>rfl
 | t::ts,n=>by unfold Qip;rw [Zh,Zh,Qg0 ts]
def Qli:∀ (ts:List T) (n i:Nat) (t:T),ts[i]?=some t→(Qip n ts)[i]?=some (.tup [.int ((n+i:Nat):Int),t])
 | [],_,_,_,e=>by simp at e
 | t::ts,n,0,u,e=>by
  simp at e
  subst e
  rfl
 | t::ts,n,i+1,u,e=>by
  rw [Zl] at e
  unfold Qip
  rw [Zl,Qli ts (n+1) i u e,show n+1+i=n+(i+1) by omega]
def wk_e {H:Hp} {G:Fw→Prop} {l:Fw} {vs:List V} {ts:List T} (r:IsL (dls H G) vs ts):WkR (Ite K l) H G (fun H'=>SqL K H' l vs) (Qip 0 ts) where
 go:=fun i H' hi ok=>⟨vs,_,ok,Za (by rw [Qg0] at hi;rw [r.length];exact hi)⟩
 stop:=fun i H' hi ok=>⟨vs,ok,by rw [Qg0] at hi;rw [r.length];exact hi⟩
 yld:=fun i H' x H2 hi ok y=>by
  obtain ⟨q,x,rfl,hq,hx,rfl⟩:=y
  obtain ⟨t,et,it⟩:=r.get (hx vs ok)
  refine ⟨Same.upd hq,_,Qli ts 0 i t et,fun G' pn s=>?_⟩
  rw [Zae]
  exact Qd2 (pn.mono (Same.upd hq)) Qt (.cons Is.int (.one (it.mono (s.trans (Qa8 (Same.upd hq)))))) (by show 2≤100000;decide)
def Qacr {H:Hp} {G:Fw→Prop} {l:Fw} {vs:List V} {ts:List T} (r:IsL (dls H G) vs ts):WkR (Q8e K l) H G (fun H'=>SqT K H' l vs) (Qip 0 ts) where
 go:=fun i H' hi ok=>⟨vs,_,ok,Za (by rw [Qg0] at hi;rw [r.length];exact hi)⟩
 stop:=fun i H' hi ok=>⟨vs,ok,by rw [Qg0] at hi;rw [r.length];exact hi⟩
 yld:=fun i H' x H2 hi ok y=>by
  obtain ⟨q,x,rfl,hq,hx,rfl⟩:=y
  obtain ⟨t,et,it⟩:=r.get (hx vs ok)
  refine ⟨Same.upd hq,_,Qli ts 0 i t et,fun G' pn s=>?_⟩
  rw [Zae]
  exact Qd2 (pn.mono (Same.upd hq)) Qt (.cons Is.int (.one (it.mono (s.trans (Qa8 (Same.upd hq)))))) (by show 2≤100000;decide)
def Qlj {r:PV} {ρ:En} {t:T} (h:Qfx r=none) (e:cont ρ r=some t):frz r=some t:=by
 cases r with
 | fz t=>exact e
 | ow t=>exact e
 | sl i=>cases h
def Qbp (hK:X.K=K) (ha:QE X e (tE p e')):QI X tg e (tW p (.seq e')):=(Q49 K hK ha).weak fun σ H R ⟨G,ρ,F,h⟩=>by
 unfold evW at h
 refine ⟨G,ρ,F,h.bind.imp fun r ρ1 h1 v H1 G1 F1 r1=>?_⟩
 cases ec:cont ρ1 r with
 | none=>rw [ec] at h1;exact Zfb h1
 | some t =>
  rw [ec] at h1
  cases es:Qcc t with
  | none =>
   replace h1:Fin p (Qan H G σ ρ) σ (match Qcc t with | some ts=>.ok (ts,Qfx r) ρ1 | none=>.no) _:=h1
   rw [es] at h1
   exact Zfb h1
  | some ts =>
   replace h1:Fin p (Qan H G σ ρ) σ (match Qcc t with | some ts=>.ok (ts,Qfx r) ρ1 | none=>.no) _:=h1
   rw [es] at h1
   obtain ⟨hn,k⟩:=h1
   obtain ⟨G',F',hv,_⟩:=PVR.lay (B:=Qan H G σ ρ) r1 F1 (Qlj hn ec)
   cases t <;> first | (cases es;done) | skip
   ·cases es
    obtain ⟨l,vs,rfl,el,rl⟩:=hv.tup_inv
    exact ⟨l,rfl,.inr ⟨⟨vs,SqT.of (Qv el).2⟩,k _ H1 G' _ F' (wk_t rl) fun H' G2 s=>SqT.of (Qv (s _ _ el)).2⟩⟩
   ·cases es
    obtain ⟨l,vs,rfl,el,rl⟩:=hv.lst_inv
    exact ⟨l,rfl,.inl ⟨⟨vs,SqL.of (Qv el).2⟩,k _ H1 G' _ F' (wk_l rl) fun H' G2 s=>SqL.of (Qv (s _ _ el)).2⟩⟩
def Q3l (hm:X.mg "range" = none) (ha:QE X a (tE p a')) (hg:Gl X "range") (hs:Qr a=true):QI X tg (.Call (.Name "range" p1) [a] [] pos) (tW p (.rng1 a')):=(Qsa hm (Qas ha Qby hs) hg hs).weak fun σ H R ⟨G,ρ,F,h⟩=>by
 unfold evW at h
 refine ⟨G,ρ,F,h.bind.imp fun r ρ1 h1 v H1 G1 F1 r1=>?_⟩
 cases r with
 | ow t=>exact Zfb h1
 | sl i=>exact Zfb h1
 | fz t =>
  cases t <;> first | exact Zfb h1 | skip
  rename_i j
  replace h1:Fin p (Qan H G σ ρ) σ (if j.natAbs≤100000 then .ok (Qad 0 j.toNat,none) ρ1 else .no) _:=h1
  by_cases z:j.natAbs≤100000
  ·rw [Zb z] at h1
   obtain rfl:=r1.is.int_inv
   exact ⟨j,rfl,by omega,by omega,h1.2 _ H1 G1 _ F1 wk_r fun _ _ _=>trivial⟩
  ·rw [Zd z] at h1;exact Zfb h1
def Q3m (hm:X.mg "range" = none) (ha:QE X a (tE p a')) (hb:QE X b (tE p b')) (hg:Gl X "range") (hs:Qr a=true) (ay:Qr b=true):QI X tg (.Call (.Name "range" p1) [a,b] [] pos) (tW p (.rng2 a' b')):=(Q71 hm (Qas ha (Qas hb Qby ay) hs) hg hs ay).weak fun σ H R ⟨G,ρ,F,h⟩=>by
 unfold evW at h
 refine tE2 F h fun ra rb ρ2 x y H2 G2 F2 r1 r2 h2=>?_
 cases ra with
 | ow t=>cases rb <;> exact Zfb h2
 | sl i=>cases rb <;> exact Zfb h2
 | fz t =>
  cases rb with
  | ow u=>cases t <;> exact Zfb h2
  | sl i=>cases t <;> exact Zfb h2
  | fz u =>
   cases t <;> first | exact Zfb h2 | skip
   cases u <;> first | exact Zfb h2 | skip
   rename_i i j
   replace h2:Fin p (Qan H G σ ρ) σ (if i.natAbs≤100000∧j.natAbs≤100000 then .ok (Qad i (j-i).toNat,none) ρ2 else .no) _:=h2
   by_cases z:i.natAbs≤100000∧j.natAbs≤100000
   ·rw [Zb z] at h2
    obtain rfl:=r1.is.int_inv
    obtain rfl:=r2.is.int_inv
    exact ⟨i,j,rfl,⟨by omega,by omega,by omega,by omega⟩,h2.2 _ H2 G2 _ F2 wk_r fun _ _ _=>trivial⟩
   ·rw [Zd z] at h2;exact Zfb h2
def Q8z {es:List Fr} {x1} {tp:Pos} (hK:X.K=K) (hm:X.mg "enumerate" = none) (hb:PySem.bootBuiltins "enumerate" = some (.type "enumerate")) (ha:QE X a (tE p a')) (hg:Gl X "enumerate") (hs:Qr a=true):QI X (.Tuple es x1 tp) (.Call (.Name "enumerate" p1) [a] [] pos) (tW p (.enm a')):=(Q22 K hK hm hb (Qas ha Qby hs) hg hs).weak fun σ H R ⟨G,ρ,F,h⟩=>by
 unfold evW at h
 refine ⟨G,ρ,F,h.bind.imp fun r ρ1 h1 v H1 G1 F1 r1=>?_⟩
 cases ec:cont ρ1 r with
 | none=>rw [ec] at h1;exact Zfb h1
 | some t =>
  rw [ec] at h1
  cases t <;> first | exact Zfb h1 | skip
  ·obtain ⟨hn,k⟩:=h1
   obtain ⟨G',F',hv,_⟩:=PVR.lay (B:=Qan H G σ ρ) r1 F1 (Qlj hn ec)
   obtain ⟨l,vs,rfl,el,rl⟩:=hv.tup_inv
   exact ⟨l,vs,rfl,.inr ⟨SqT.of (Qv el).2,k _ H1 G' _ F' (Qacr rl) fun H' G2 s=>SqT.of (Qv (s _ _ el)).2⟩⟩
  ·obtain ⟨hn,k⟩:=h1
   obtain ⟨G',F',hv,_⟩:=PVR.lay (B:=Qan H G σ ρ) r1 F1 (Qlj hn ec)
   obtain ⟨l,vs,rfl,el,rl⟩:=hv.lst_inv
   exact ⟨l,vs,rfl,.inl ⟨SqL.of (Qv el).2,k _ H1 G' _ F' (wk_e rl) fun H' G2 s=>SqL.of (Qv (s _ _ el)).2⟩⟩
end
def Qdp (js:List (Option Nat)) (ρ:En) (k:Nat):Qa (Qd3 js ρ) k=match js[k]? with
  | some (some j)=>(Qa ρ j).lend
  | _=>.un:=by
 show (match (js.map fun o=>match o with | none=>Slot.un | some j=>(Qa ρ j).lend)[k]? with | some s=>s | none=>Slot.un)=_
 rw [Z8]
 cases js[k]? with
 | none=>rfl
 | some o=>cases o <;> rfl
def Qiu (js:List (Option Nat)) (σ:St) (k:Nat):(Qfc js σ)[k]?=match js[k]? with
  | some (some j)=>some ((σ[j]?).join)
  | some none=>some none
  | none=>none:=by
 unfold Qfc
 rw [Z8]
 cases js[k]? with
 | none=>rfl
 | some o=>cases o <;> rfl
def Qg1 (js:List (Option Nat)) (ρi:En):∀ (ρ:En) (n j:Nat),Qa (Qdk js ρi n ρ) j=if j<ρ.length then Qht js ρi (n+j) (Qa ρ j) else .un
 | [],n,j=>by
  unfold Qdk
  rw [Zd (by simp),Qfz]
 | s::ρ,n,0=>by unfold Qdk;rw [Zb (by simp)];rfl
 | s::ρ,n,j+1=>by
  unfold Qdk
  rw [Qc,Qc,Qg1 js ρi ρ (n+1) j,show n+1+j=n+(j+1) by omega]
  by_cases h:j<ρ.length
  ·rw [Zb h,Zb (by rw [Zh];omega)]
  ·rw [Zd h,Zd (by rw [Zh];omega)]
def Qj2 (js:List (Option Nat)) (ρi:En):∀ (ρ:En) (n:Nat),(Qdk js ρi n ρ).length=ρ.length
 | [],_=>rfl
 | s::ρ,n=>by unfold Qdk;rw [Zh,Zh,Qj2 js ρi ρ (n+1)]
def Qdq (js:List (Option Nat)) (ρi:En) (j:Nat) (s:Slot):Qht js ρi j s=s∨∃ k t,js.idxOf? (some j)=some k∧Qa ρi k=.ml t∧Qht js ρi j s=s.put t:=by
 unfold Qht
 cases h1:js.idxOf? (some j) with
 | none=>exact .inl rfl
 | some k =>
  cases h2:Qa ρi k with
  | ml t=>exact .inr ⟨k,t,rfl,h2,by simp only [h2]⟩
  | un=>exact .inl (by simp only [h2])
  | pin _=>exact .inl (by simp only [h2])
  | fx _=>exact .inl (by simp only [h2])
  | fz t=>exact .inl (by simp only [h2])
  | ow t=>exact .inl (by simp only [h2])
  | ro t=>exact .inl (by simp only [h2])
def Qg2 (js:List (Option Nat)) (ρi ρ:En) (j:Nat):Qa (Qk9 js ρi ρ) j=Qht js ρi j (Qa ρ j):=by
 unfold Qk9
 rw [Qg1,Zae]
 by_cases h:j<ρ.length
 ·rw [Zb h]
 ·rw [Zd h]
  have e:Qa ρ j=.un:=by
   unfold Qa
   rw [Zcn.mpr (by omega)]
  rw [e]
  rcases Qdq js ρi j .un with z | ⟨k,t,_,_,z⟩ <;> rw [z] <;> rfl
def Q3n:∀ {js:List (Option Nat)} {j k:Nat},js.idxOf? (some j)=some k→js[k]?=some (some j):=by
 intro js j k h
 have:=List.idxOf?_eq_some_iff.mp h
 obtain ⟨h1,h2,_⟩:=this
 rw [Za h1,h2]
def Qzk {js:List (Option Nat)} {j k:Nat} (h:js.idxOf? (some j)=none):js[k]?≠some (some j):=fun e=>by
 have:=List.idxOf?_eq_none_iff.mp h
 exact this (Z2 e)
def Qlk:∀ {js:List (Option Nat)},Qcj js=true→∀ (i k j:Nat),js[i]?=some (some j)→js[k]?=some (some j)→i=k
 | [],_,i,k,j,e,_=>by simp at e
 | r::js,h,i,k,j,e1,e2=>by
  have tl:Qcj js=true:=by
   cases r with
   | some q=>unfold Qcj at h;rw [Zm] at h;exact h.2
   | none=>exact h
  have hd:∀ (m:Nat),r=some j→js[m]?=some (some j)→False:=fun m er em=>by
   subst er
   unfold Qcj at h
   rw [Zm] at h
   have q:=Z1.mp h.1 _ (Z2 em)
   simp at q
  cases i with
  | zero =>
   cases k with
   | zero=>rfl
   | succ k=>simp at e1;rw [Zl] at e2;exact (hd k e1 e2).elim
  | succ i =>
   cases k with
   | zero=>simp at e2;rw [Zl] at e1;exact (hd i e2 e1).elim
   | succ k =>
    rw [Zl] at e1 e2
    rw [Qlk tl i k j e1 e2]
def Qni:∀ {ρ0 ρ:En},Qff ρ0 ρ=true→∀ (i:Nat) (t:T),Qa ρ0 i=.ml t→∃ t',Qa ρ i=.ml t'
 | [],[],_,i,t,e=>by rw [Qfz] at e;cases e
 | [],_::_,h,_,_,_=>by cases h
 | s0::ρ0,[],h,_,_,_=>by cases s0 <;> cases h
 | s0::ρ0,s::ρ,h,i,t,e=>by
  have tl:Qff ρ0 ρ=true:=by
   cases s0 <;> first | exact h | skip
   unfold Qff at h
   rw [Zm] at h
   exact h.2
  cases i with
  | zero =>
   rw [Qb] at e
   subst e
   unfold Qff at h
   rw [Zm] at h
   cases s <;> first | (simp at h;done) | exact ⟨_,rfl⟩
  | succ i =>
   rw [Qc] at e ⊢
   exact Qni tl i t e
section
variable {B:Bs} {H H1 H2:Hp} {G G1 G2:Fw→Prop} {σ σ2:St} {ρ ρi:En} {js:List (Option Nat)}
def Qzl {s:Slot} {t:T} (h:s.lend.prv=some t):s.prv=some t:=by cases s <;> exact h
def FI.cap (F:FI B H G σ ρ) (hj:Qcj js=true):FI (Qan H G (Qfc js σ) (Qd3 js ρ)) H G (Qfc js σ) (Qd3 js ρ):=by
 have pv:∀ k a,PrvAt (Qfc js σ) (Qd3 js ρ) k a→∃ j,js[k]?=some (some j)∧PrvAt σ ρ j a:=fun k a h=>by
  obtain ⟨⟨t,e⟩,q⟩:=h
  rw [Qdp] at e
  rw [Qiu] at q
  cases hk:js[k]? with
  | none=>rw [hk] at e;cases e
  | some o =>
   cases o with
   | none=>rw [hk] at e;cases e
   | some j =>
    rw [hk] at e q
    refine ⟨j,rfl,⟨t,Qzl e⟩,?_⟩
    replace q:some (σ[j]?.join)=some (some (.ref a)):=q
    cases hs:σ[j]? with
    | none=>rw [hs] at q;cases q
    | some w=>rw [hs] at q;exact q
 refine ⟨by unfold Qfc Qd3;rw [Zf,Zf],fun k=>?_,fun i k a h1 h2=>?_,F.prv,fun _ _ _ _ e=>e,fun _ o e=>⟨o,e⟩,fun _ h=>.inr h,fun _ h=>h,fun _ _ h=>h,fun _ h=>h,fun _ h=>.inl h,fun b h=>let ⟨xs,e,_⟩:=F.prv b h;⟨_,e⟩⟩
 ·rw [Qdp]
  cases hk:js[k]? with
  | none=>trivial
  | some o =>
   cases o with
   | none=>trivial
   | some j =>
    have q:=F.slot j
    have gt:∀ v,σ[j]?=some (some v)→(Qfc js σ)[k]?=some (some v):=fun v e=>by
     rw [Qiu,hk]
     show some (σ[j]?.join)=_
     rw [e]
     rfl
    show Qiq H G (Qfc js σ) k (Qa ρ j).lend
    cases hs:Qa ρ j with
    | un=>trivial
    | pin a=>trivial
    | fx t=>rw [hs] at q;obtain ⟨v,o,e,_,i⟩:=q;exact ⟨_,gt _ e,i⟩
    | fz t=>rw [hs] at q;obtain ⟨v,e,i⟩:=q;exact ⟨v,gt _ e,i⟩
    | ow t=>rw [hs] at q;obtain ⟨v,e,i⟩:=q;exact ⟨v,gt _ e,i⟩
    | ml t=>rw [hs] at q;obtain ⟨v,e,i⟩:=q;exact ⟨v,gt _ e,i⟩
    | ro t=>rw [hs] at q;obtain ⟨v,e,i⟩:=q;exact ⟨v,gt _ e,i⟩
 ·obtain ⟨j1,e1,p1⟩:=pv i a h1
  obtain ⟨j2,e2,p2⟩:=pv k a h2
  have ej:=F.apart j1 j2 a p1 p2
  subst ej
  exact Qlk hj i k j1 e1 e2
def FI.uncap (F:FI B H G σ ρ) (hj:Qcj js=true) (I:FI (Qan H G (Qfc js σ) (Qd3 js ρ)) H2 G2 σ2 ρi) (hk:Qff (Qd3 js ρ) ρi=true):FI B H2 G2 σ (Qk9 js ρi ρ):=by
 have Fc:=F.cap hj
 have sm:=Fc.same I
 have i0:∀ a,¬ OwA (Qfc js σ) (Qd3 js ρ) a:=fun a h=>by
  obtain ⟨k,t,e,_⟩:=h
  rw [Qdp] at e
  cases hk:js[k]? with
  | none=>rw [hk] at e;cases e
  | some o =>
   cases o with
   | none=>rw [hk] at e;cases e
   | some j =>
    rw [hk] at e
    have e:(Qa ρ j).lend=.ow t:=e
    cases hs:Qa ρ j <;> rw [hs] at e <;> cases e
 have iz:∀ a,MlA (Qfc js σ) (Qd3 js ρ) a→∃ (k j:Nat) (t:T),js[k]?=some (some j)∧(Qa ρ j=.ow t∨Qa ρ j=.ml t)∧σ[j]?=some (some (.ref a)):=fun a h=>by
  obtain ⟨k,t,e,q⟩:=h
  rw [Qdp] at e
  rw [Qiu] at q
  cases hk:js[k]? with
  | none=>rw [hk] at e;cases e
  | some o =>
   cases o with
   | none=>rw [hk] at e;cases e
   | some j =>
    rw [hk] at e q
    have e:(Qa ρ j).lend=.ml t:=e
    refine ⟨k,j,t,hk,?_,?_⟩
    ·cases hs:Qa ρ j <;> rw [hs] at e <;> cases e
     ·exact .inl rfl
     ·exact .inr rfl
    ·replace q:some (σ[j]?.join)=some (some (.ref a)):=q
     cases hs:σ[j]? with
     | none=>rw [hs] at q;cases q
     | some w=>rw [hs] at q;exact q
 -- a list of the frame that the block can't change
 have stay:∀ j a t,(Qa ρ j).prv=some t→σ[j]?=some (some (.ref a))→OwnAt H G a t→((∀ t,Qa ρ j≠.ow t)∧(∀ t,Qa ρ j≠.ml t)∨js.idxOf? (some j)=none)→OwnAt H2 G2 a t:=fun j a t e s o h=>by
  refine o.mono sm fun u eu=>I.chg a u (i0 a) (fun z=>?_) eu
  obtain ⟨k,j',t',e1,hs,e2⟩:=iz a z
  have ej:j'=j:=F.apart j' j a ⟨⟨t',by rcases hs with hs | hs <;> rw [hs] <;> rfl⟩,e2⟩ ⟨⟨t,e⟩,s⟩
  subst ej
  rcases h with ⟨h1,h2⟩ | h
  ·rcases hs with hs | hs
   ·exact h1 _ hs
   ·exact h2 _ hs
  ·exact Qzk h e1
 -- one that it may
 have bD:∀ j a t k,(Qa ρ j=.ow t∨Qa ρ j=.ml t)→σ[j]?=some (some (.ref a))→js.idxOf? (some j)=some k→∃ t',Qa ρi k=.ml t'∧OwnAt H2 G2 a t':=fun j a t k hs s hx=>by
  have e1:=Q3n hx
  have e0:Qa (Qd3 js ρ) k=.ml t:=by
   rw [Qdp,e1]
   show (Qa ρ j).lend=_
   rcases hs with hs | hs <;> rw [hs] <;> rfl
  obtain ⟨t',e2⟩:=Qni hk k t e0
  have q:=I.slot k
  rw [e2] at q
  obtain ⟨a',q1,_,q3⟩:=q
  obtain ⟨_,q4⟩:=I.fix k a' ⟨⟨t',.inl e2⟩,q1⟩
  rw [Qiu,e1] at q4
  replace q4:some (σ[j]?.join)=some (some (.ref a')):=q4
  rw [s] at q4
  have q5:a=a':=by
   have:=Zo q4
   have:=Zo (show some (V.ref a)=some (V.ref a') from this)
   cases this
   rfl
  subst q5
  exact ⟨t',e2,q3⟩
 have kd:∀ j s',Qa (Qk9 js ρi ρ) j=s'→(s'=Qa ρ j∨∃ t,s'=(Qa ρ j).put t):=fun j s' h=>by
  rw [Qg2] at h
  rcases Qdq js ρi j (Qa ρ j) with z | ⟨k,t,_,_,z⟩
  ·rw [z] at h;exact .inl h.symm
  ·rw [z] at h;exact .inr ⟨t,h.symm⟩
 have pv:∀ j a,PrvAt σ (Qk9 js ρi ρ) j a→PrvAt σ ρ j a:=fun j a h=>by
  obtain ⟨⟨u,e⟩,q⟩:=h
  refine ⟨?_,q⟩
  rcases kd j _ rfl with z | ⟨t,z⟩
  ·rw [z] at e;exact ⟨u,e⟩
  ·rw [z] at e;exact Qoi e
 exact {
  len:=by unfold Qk9;rw [Qj2];exact F.len
  slot:=fun j=>by
   have q:=F.slot j
   have bc:=Qdq js ρi j (Qa ρ j)
   rw [Qg2]
   cases hs:Qa ρ j with
   | un =>
    rw [hs] at bc
    rcases bc with e | ⟨k,t,_,_,e⟩ <;> rw [e] <;> trivial
   | pin a =>
    rw [hs] at q bc
    rcases bc with e | ⟨k,t,_,_,e⟩ <;> rw [e] <;> exact q
   | fz t =>
    rw [hs] at q bc
    obtain ⟨v,e1,e2⟩:=q
    rcases bc with e | ⟨k,t,_,_,e⟩ <;> rw [e] <;> exact ⟨v,e1,e2.mono sm⟩
   | fx t =>
    rw [hs] at q bc
    obtain ⟨v,o,e1,e3,e2⟩:=q
    rcases bc with e | ⟨k,t,_,_,e⟩ <;> rw [e] <;> exact ⟨v,o,e1,sm _ _ e3,e2.mono sm⟩
   | ro t =>
    rw [hs] at q bc
    obtain ⟨a,e1,g,o⟩:=q
    have o':=stay j a t (by rw [hs];rfl) e1 o (.inl ⟨fun t z=>(by rw [hs] at z;cases z),fun t z=>(by rw [hs] at z;cases z)⟩)
    rcases bc with e | ⟨k,t,_,_,e⟩ <;> rw [e] <;> exact ⟨a,e1,I.gg a g,o'⟩
   | ow t =>
    rw [hs] at q bc
    obtain ⟨a,e1,g,o⟩:=q
    cases hp:js.idxOf? (some j) with
    | none =>
     have o':=stay j a t (by rw [hs];rfl) e1 o (.inr hp)
     rcases bc with e | ⟨k,t',h,_,e⟩
     ·rw [e];exact ⟨a,e1,I.gg a g,o'⟩
     ·rw [hp] at h;cases h
    | some k =>
     obtain ⟨t',ef,o'⟩:=bD j a t k (.inl hs) e1 hp
     have e:Qht js ρi j (.ow t)=.ow t':=by unfold Qht;rw [hp];simp only [ef];rfl
     rw [e]
     exact ⟨a,e1,I.gg a g,o'⟩
   | ml t =>
    rw [hs] at q bc
    obtain ⟨a,e1,g,o⟩:=q
    cases hp:js.idxOf? (some j) with
    | none =>
     have o':=stay j a t (by rw [hs];rfl) e1 o (.inr hp)
     rcases bc with e | ⟨k,t',h,_,e⟩
     ·rw [e];exact ⟨a,e1,I.gg a g,o'⟩
     ·rw [hp] at h;cases h
    | some k =>
     obtain ⟨t',ef,o'⟩:=bD j a t k (.inr hs) e1 hp
     have e:Qht js ρi j (.ml t)=.ml t':=by unfold Qht;rw [hp];simp only [ef];rfl
     rw [e]
     exact ⟨a,e1,I.gg a g,o'⟩
  apart:=fun i j a h1 h2=>F.apart i j a (pv i a h1) (pv j a h2)
  prv:=I.prv
  chg:=fun b o h1 h2 e=>I.chg b o (i0 b) (fun z=>by
   obtain ⟨k,j,t,_,hs,q⟩:=iz b z
   rcases hs with hs | hs
   ·rcases F.newO b ⟨j,t,hs,q⟩ with y | y
    ·rw [e] at y;cases y
    ·exact h1 y
   ·exact h2 (F.newM b ⟨j,t,hs,q⟩)) (F.chg b o h1 h2 e)
  keep:=fun b o e=>by
   obtain ⟨o1,e1⟩:=F.keep b o e
   exact I.keep b o1 e1
  newO:=fun a h=>by
   obtain ⟨j,t,e,s⟩:=h
   rcases kd j _ e with z | ⟨u,z⟩
   ·exact F.newO a ⟨j,t,z.symm,s⟩
   ·cases hs:Qa ρ j <;> rw [hs] at z <;> cases z
    exact F.newO a ⟨j,_,hs,s⟩
  newM:=fun a h=>by
   obtain ⟨j,t,e,s⟩:=h
   rcases kd j _ e with z | ⟨u,z⟩
   ·exact F.newM a ⟨j,t,z.symm,s⟩
   ·cases hs:Qa ρ j <;> rw [hs] at z <;> cases z
    exact F.newM a ⟨j,_,hs,s⟩
  fix:=fun j a h=>by
   obtain ⟨⟨t,e⟩,s⟩:=h
   refine F.fix j a ⟨?_,s⟩
   rcases e with e | e | e
   ·rcases kd j _ e with z | ⟨u,z⟩
    ·exact ⟨t,.inl z.symm⟩
    ·cases hs:Qa ρ j <;> rw [hs] at z <;> cases z
     exact ⟨_,.inl rfl⟩
   ·rcases kd j _ e with z | ⟨u,z⟩
    ·exact ⟨t,.inr (.inl z.symm)⟩
    ·cases hs:Qa ρ j <;> rw [hs] at z <;> cases z
     exact ⟨_,.inr (.inl rfl)⟩
   ·rcases kd j _ e with z | ⟨u,z⟩
    ·exact ⟨t,.inr (.inr z.symm)⟩
    ·cases hs:Qa ρ j <;> rw [hs] at z <;> cases z
     exact ⟨_,.inr (.inr rfl)⟩
  gg:=fun b h=>I.gg b (F.gg b h)
  gn:=fun b h=>by
   rcases I.gn b h with z | z
   ·exact F.gn b z
   ·exact .inr (F.free z)
  bp:=F.bp }
end
def tCs (p:Pr) (cs:Es):TT:=fun σ H Q=>∃ G ρ,FI (Qan H G σ ρ) H G σ ρ∧Fin p (Qan H G σ ρ) σ (evC p.cf cs ρ) fun b ρ1=>∀ H1 G1,FI (Qan H G σ ρ) H1 G1 σ ρ1→Q b H1
section
variable {X:Cx} {p:Pr} {a:Fr} {a':E}
def Qej:QC X [] (tCs p .nil):=q_c0.weak fun σ H Q ⟨G,ρ,F,h⟩=>by unfold evC at h;exact h H G F
def Qll (ha:QT X a (tT p a')):QC X [a] (tCs p (.cons a' .nil)):=(q_c1 ha).weak fun σ H Q ⟨G,ρ,F,h⟩=>by unfold evC at h;exact ⟨G,ρ,F,h⟩
end
abbrev Pr.calm (p:Pr):Pr:={ p with R:=fun _ _ _ _=>False }
def Qut {α β:Type} {o:Out α} {k:α→En→Out β} {b:β} {ρ:En} (h:o.bind k=.ok b ρ):∃ a ρ1,o=.ok a ρ1∧k a ρ1=.ok b ρ:=by
 cases o with
 | ok a ρ1=>exact ⟨a,ρ1,rfl,h⟩
 | xn x ρ1=>cases h
 | no=>cases h
def FI.under {B:Bs} {H:Hp} {G:Fw→Prop} {σ:St} {ρ:En} (F:FI B H G σ ρ) {l:Fw} {ys:List V} (g:G l) (np:∀ k,¬ PrvAt σ ρ k l) (hb:B.H l=none):FI B (upd H l (.lst ys)) G σ ρ∧Same (dls H G) (dls (upd H l (.lst ys)) G):=by
 have sm:Same (dls H G) (dls (upd H l (.lst ys)) G):=fun b o eb=>by
  obtain ⟨n,eb⟩:=Qv eb
  rw [Qba n,Q3 (fun (z:b=l)=>n (by rw [z];exact g))]
  exact eb
 refine ⟨{ F with
  slot:=fun j=>Qfy (F.slot j) sm fun b o eP cB eb=>?_
  prv:=fun b hb=>?_
  chg:=fun b o h1 h2 eb=>?_
  keep:=fun b o eb=>?_ },sm⟩
 ·have nb:b≠l:=fun z=>np j ⟨eP,z ▸ cB⟩
  exact ⟨by rw [Q3 nb];exact eb,(PrvAt.at F ⟨eP,cB⟩).1⟩
 ·by_cases h:b=l
  ·exact ⟨.lst ys,by rw [h,Qt],rfl⟩
  ·rw [Q3 h];exact F.prv b hb
 ·have nb:b≠l:=fun z=>by rw [z,hb] at eb;cases eb
  rw [Q3 nb]
  exact F.chg b o h1 h2 eb
 ·by_cases h:b=l
  ·exact ⟨_,by rw [h,Qt]⟩
  ·rw [Q3 h];exact F.keep b o eb
def Quu {p:Pr} {js:List (Option Nat)} {w:W} {tg:Tg} {cs:Es} {e':E} {σ:St} {H:Hp} {Q:VK} (h:tE p (.comp w js tg cs e') σ H Q):Qpw (tW p w) js (tG tg) (tCs p.calm cs) (tE p.calm e') σ H Q:=by
  obtain ⟨G,ρ,F,h⟩:=h
  unfold evE at h
  refine ⟨G,ρ,F,h.bind.imp fun ac ρ1 h1=>?_⟩
  obtain ⟨ts,lk⟩:=ac
  cases lk with
  | some _=>exact Zfb h1
  | none =>
   refine ⟨rfl,fun J H1 G1 Ok F1 wk cX l hl=>?_⟩
   replace wk:WkR J H1 G1 Ok ts:=wk
   replace h1:Fin p (Qan H G σ ρ) σ (match Qfe tg (evC p.cf cs) (evE p.cf e') ts [] (Qd3 js ρ1) with
    | .ok us ρi=>if Qff (Qd3 js ρ1) ρi=true∧Qcj js=true then Out.ok (PV.ow (.lst us)) (Qk9 js ρi ρ1) else .no
    | _=>.no) _:=h1
   cases ec:Qfe tg (evC p.cf cs) (evE p.cf e') ts [] (Qd3 js ρ1) with
   | no=>rw [ec] at h1;exact Zfb h1
   | xn x ρx=>rw [ec] at h1;exact Zfb h1
   | ok tsF ρF =>
    rw [ec] at h1
    by_cases hz:Qff (Qd3 js ρ1) ρF=true∧Qcj js=true
    ·simp only [Zb hz] at h1
     obtain ⟨fg,dC⟩:=hz
     have Fc:=F1.cap dC
     refine ⟨fun i m ys σ2 H2=>i+m=ts.length∧∃ G2 ρi acc,FI (Qan H1 G1 (Qfc js σ) (Qd3 js ρ1)) H2 G2 σ2 ρi∧G2 l∧(∀ k,¬ PrvAt σ2 ρi k l)∧H2 l=some (.lst ys)∧IsL (dls H2 G2) ys acc∧acc.length≤100000 ∧
      Qfe tg (evC p.cf cs) (evE p.cf e') (ts.drop i) acc ρi=.ok tsF ρF,⟨ts.length,Zae _,_,_,[],Fc.addG hl (Same.upd hl) Qt rfl,.inr rfl,fun k hk=>?_,Qt,.nil,Zbb _,ec⟩,?_⟩
     ·obtain ⟨_,t,ob,ea,_⟩:=PrvAt.at Fc hk
      rw [hl] at ea
      cases ea
     rintro i m ys σ2 H2 ⟨jb,G2,ρi,acc,I2,gl,np,el,il,zl,cl⟩
     have cW:Ok H2:=cX H2 G2 (Fc.same I2)
     by_cases av:i<ts.length
     ·refine .inr ⟨wk.go i H2 av cW,fun x H3 y=>?_⟩
      obtain ⟨s3,t,et,ix⟩:=wk.yld i H2 x H3 av cW y
      have I3:=I2.grow s3
      have gj:=ix G2 I2.prv (Fc.same I2)
      rw [Zd0 av] at cl
      have gx:ts[i]=t:=by rw [Za av] at et;exact Zo et
      rw [gx] at cl
      unfold Qfe at cl
      cases est:Qcl tg t ρi with
      | none=>rw [est] at cl;cases cl
      | some ρ4 =>
       rw [est] at cl
       replace cl:(evC p.cf cs ρ4).bind _=.ok tsF ρF:=cl
       obtain ⟨b,ρ5,eb,cl⟩:=Qut cl
       refine ⟨_,G2,ρi,t,ρ4,I3,gj,est,fun σ4 I4 aB=>?_⟩
       have gD:∀ k,¬ PrvAt σ4 ρ4 k l:=fun k hk=>np k (aB k l hk)
       refine ⟨G2,ρ4,I4.self,?_⟩
       rw [show p.calm.cf=p.cf from rfl,eb]
       intro H5 G5 I5
       have f6:=I4.nobody I5 (s3 _ _ el) gD
       have I5':=I4.trans I5
       have gk:H5 l=some (.lst ys):=I5.chg l _ (fun z=>by obtain ⟨j,z⟩:=OwA.prv z;exact gD j z) (fun z=>by obtain ⟨j,z⟩:=MlA.prv z;exact gD j z) (s3 _ _ el)
       have iq:IsL (dls H5 G5) ys acc:=(il.mono (Qa8 s3)).mono (I4.same I5)
       cases b with
       | false =>
        simp only [Zaa,Za2] at cl ⊢
        exact ⟨m-1,by omega,by omega,G5,ρ5,acc,I5',I5.gg l gl,f6,gk,iq,zl,cl⟩
       | true =>
        simp only [Zr] at cl ⊢
        obtain ⟨r,ρ6,er,cl⟩:=Qut cl
        refine ⟨G5,ρ5,I5'.self,?_⟩
        rw [show p.calm.cf=p.cf from rfl,er]
        intro v H6 G6 I6 r6
        cases ef:frz r with
        | none=>rw [ef] at cl;cases cl
        | some t6 =>
         rw [ef] at cl
         replace cl:(if acc.length<100000 then Qfe tg (evC p.cf cs) (evE p.cf e') (ts.drop (i+1)) (acc++[t6]) ρ6 else .no)=.ok tsF ρF:=cl
         by_cases za:acc.length<100000
         ·rw [Zb za] at cl
          have iV:=I5'.nobody I6 gk f6
          have jU:H6 l=some (.lst ys):=I6.chg l _ (fun z=>by obtain ⟨j,z⟩:=OwA.prv z;exact f6 j z) (fun z=>by obtain ⟨j,z⟩:=MlA.prv z;exact f6 j z) gk
          have iC:IsL (dls H6 G6) ys acc:=iq.mono (I5'.same I6)
          obtain ⟨G7,I7,i7,s7⟩:=PVR.lay (B:=Qan H5 G5 σ4 ρ5) r6 I6 ef
          have g7:G7 l:=I7.gg l (I5.gg l gl)
          have I7':=I5'.trans I7
          have hb:(Qan H1 G1 (Qfc js σ) (Qd3 js ρ1)).H l=none:=hl
          obtain ⟨I8,s8⟩:=I7'.under (ys:=ys++[v]) g7 iV hb
          have zy:=iC.length
          refine ⟨jU,by rw [zy,Zau];omega,m-1,by omega,by omega,G7,ρ6,acc++[t6],I8,g7,iV,Qt,((iC.mono (Qce s7)).append (.one i7)).mono s8,by rw [Zq,Zb3];omega,cl⟩
         ·rw [Zd za] at cl;cases cl
     ·have e0:ts.drop i=[]:=Zep (by omega)
      rw [e0] at cl
      cases cl
      refine .inl ⟨wk.stop i H2 (by omega) cW,h1 _ H2 G2 (F1.uncap dC I2 fg) ?_⟩
      refine ⟨l,rfl,F1.free hl,gl,fun k hk=>?_,.lst ys,el,zl,il⟩
      obtain ⟨⟨u,eu⟩,q⟩:=hk
      rw [Qg2] at eu
      have:∃ u,(Qa ρ1 k).prv=some u:=by
       rcases Qdq js ρF k (Qa ρ1 k) with z | ⟨_,t,_,_,z⟩
       ·rw [z] at eu;exact ⟨u,eu⟩
       ·rw [z] at eu;exact Qoi eu
      obtain ⟨_,t,ob,ea,_⟩:=PrvAt.at F1 ⟨this,q⟩
      rw [hl] at ea
      cases ea
    ·simp only [Zd hz] at h1
     exact Zfb h1
def Q80 {X:Cx} {p:Pr} {aH elt af:Fr} {az:List Fr} {scope:Scope} {pos:Pos} {N:List Str} {js:List (Option Nat)} {w:W} {tg:Tg} {cs:Es} {e':E} (ao:X.calm=true)
  (hi:QI X aH af (tW p w)) (hg:∀ s H fp,QG (Q9 X scope N s H fp) aH (tG tg)) (hc:∀ s H fp,QC (Q9 X scope N s H fp) az (tCs p.calm cs)) (he:∀ s H fp,QE (Q9 X scope N s H fp) elt (tE p.calm e'))
  (hk:scope.kind=.function) (h1:scOk X scope=true) (h2:Qii X scope N js=true) (hs:∀ x,foldedSetIterable af X.env x=pure x):QE X (.ListComp elt [⟨aH,af,az,0⟩] scope pos) (tE p (.comp w js tg cs e')) :=
 (Q72 N js ao hi hg hc he hk h1 h2 hs).weak fun σ H Q h=>Quu h
def QS.weak {X:Cx} {e:Fs} {t t':TS} (h:QS X e t) (q:∀ D σ H,t' D σ H→t D σ H):QS X e t':=⟨fun aa s σ H D I z=>h.h aa s σ H D I (q _ _ _ z)⟩
def QB.weak {X:Cx} {e:List Fs} {t t':TS} (h:QB X e t) (q:∀ D σ H,t' D σ H→t D σ H):QB X e t':=⟨fun aa s σ H D I z=>h.h aa s σ H D I (q _ _ _ z)⟩
def SFin (p:Pr) (B:Bs) (H:Hp) (G:Fw→Prop) (D:Ends):SO→Prop
 | .nx ρ1=>∀ σ1 H1 G1,FI B H1 G1 σ1 ρ1→Same (dls H G) (dls H1 G1)→D.nx σ1 H1
 | .bk ρ1=>∀ σ1 H1 G1,FI B H1 G1 σ1 ρ1→Same (dls H G) (dls H1 G1)→D.bk σ1 H1
 | .ct ρ1=>∀ σ1 H1 G1,FI B H1 G1 σ1 ρ1→Same (dls H G) (dls H1 G1)→D.ct σ1 H1
 | .rt r ρ1=>∀ v σ1 H1 G1,FI B H1 G1 σ1 ρ1→PVR B.H H1 G1 σ1 ρ1 v r→D.rt v H1
 | .xn x ρ1=>∀ cls dx σ1 H1 G1,FI B H1 G1 σ1 ρ1→Q8o p.mg H1 x cls dx→p.R cls dx σ1 H1
 | .no=>False
def tS (p:Pr) (s:S):TS:=fun D σ H=>∃ B G ρ,FI B H G σ ρ∧(∀ a,¬ B.O a)∧SFin p B H G D (exS p.cf s ρ)
section
variable {p:Pr} {B:Bs} {H H1:Hp} {G G1:Fw→Prop} {D:Ends} {σ:St} {ρ ρ1:En} {α:Type}
def SFin.late {o:SO} (h:SFin p B H G D o) (s:Same (dls H G) (dls H1 G1)):SFin p B H1 G1 D o:=by
 cases o with
 | nx ρ1=>exact fun σ1 H2 G2 F q=>h σ1 H2 G2 F (s.trans q)
 | bk ρ1=>exact fun σ1 H2 G2 F q=>h σ1 H2 G2 F (s.trans q)
 | ct ρ1=>exact fun σ1 H2 G2 F q=>h σ1 H2 G2 F (s.trans q)
 | rt r ρ1=>exact h
 | xn x ρ1=>exact h
 | no=>exact h
def Qg3 {o:Out α} {k:α→En→SO} (h:SFin p B H G D (ofO o k)):Fin p B σ o fun a ρ1=>SFin p B H G D (k a ρ1):=by
 cases o with
 | ok a ρ1=>exact h
 | xn x ρ1=>exact fun cls dx H1 G1 F xr=>h cls dx σ H1 G1 F xr
 | no=>exact h
def Qfh {o:Option α} {k:α→SO} (h:SFin p B H G D (Qae o k)):∃ a,o=some a∧SFin p B H G D (k a):=by
 cases o with
 | none=>exact Zfb h
 | some a=>exact ⟨a,rfl,h⟩
def PVR.base {H2:Hp} {G2:Fw→Prop} {ρ2:En} {v:V} {r:PV} (h:PVR H1 H2 G2 σ ρ2 v r) (F:FI B H1 G1 σ ρ1):PVR B.H H2 G2 σ ρ2 v r:=by
 cases r with
 | fz t=>exact h
 | sl i=>exact h
 | ow t =>
  obtain ⟨a,rfl,n,g⟩:=h
  exact ⟨a,rfl,F.free n,g⟩
def Qgo {e:E} {Q:VK} {K:PV→En→SO} (F:FI B H G σ ρ) (h:SFin p B H G D (ofO (evE p.cf e ρ) K)) (q:∀ r ρ2 v H2 G2,SFin p B H2 G2 D (K r ρ2)→FI B H2 G2 σ ρ2→FI (Qan H G σ ρ) H2 G2 σ ρ2→PVR B.H H2 G2 σ ρ2 v r→Same (dls H G) (dls H2 G2)→Q v H2):tE p e σ H Q :=
 Qug F (Qg3 h) fun r ρ2 v H2 G2 k F2 F2' r2=>q r ρ2 v H2 G2 (k.late (F.same F2')) F2 F2' (r2.base F) (F.same F2')
def Qzm {e:E} {Q:Bool→Hp→Prop} {K:Bool→En→SO} (F:FI B H G σ ρ) (h:SFin p B H G D (ofO (Q6 (evE p.cf e ρ)) K)) (q:∀ b ρ2 H2 G2,SFin p B H2 G2 D (K b ρ2)→FI B H2 G2 σ ρ2→Same (dls H G) (dls H2 G2)→Q b H2):tT p e σ H Q :=
 Qy2 F (Qg3 h) fun b ρ2 H2 G2 k F2 F2'=>q b ρ2 H2 G2 (k.late (F.same F2')) F2 (F.same F2')
end
section
variable {X:Cx} {p:Pr} {e a b:Fr} {e' a' b' c':E} {st:Fs} {bH:List Fs} {s s1 s2:S} {pos p1 p2:Pos} {x:Str}
def Qcw:QB X [] (tS p .nil):=Qsc.weak fun D σ H ⟨B,G,ρ,F,hO,h⟩=>h σ H G F (Same.refl _)
def Qst {D:Ends} {σ:St} {H:Hp} (h:tS p (.seq s1 s2) D σ H):Qgr (tS p s1) (tS p s2) D σ H:=by
 obtain ⟨B,G,ρ,F,hO,h⟩:=h
 refine ⟨B,G,ρ,F,hO,?_⟩
 unfold exS at h
 cases e:exS p.cf s1 ρ with
 | nx ρ1=>rw [e] at h;exact fun σ1 H1 G1 F1 q=>⟨B,G1,ρ1,F1,hO,SFin.late (p:=p) (D:=D) h q⟩
 | bk ρ1=>rw [e] at h;exact h
 | ct ρ1=>rw [e] at h;exact h
 | rt r ρ1=>rw [e] at h;exact h
 | xn x ρ1=>rw [e] at h;exact h
 | no=>rw [e] at h;exact h
def Qq (h1:QS X st (tS p s1)) (h2:QB X bH (tS p s2)):QB X (st::bH) (tS p (.seq s1 s2)):=(Qdj h1 h2).weak fun D σ H h=>Qst h
def Qy (h1:QS X st (tS p s1)):QB X [st] (tS p s1):=Qh3 h1
def Qacs {i:Nat} (h:QB X bH (tS p s)):QB X bH (tS p (.seq (.frz i) s)):=h.weak fun D σ H ⟨B,G,ρ,F,hO,h⟩=>by
 unfold exS at h
 have e:exS p.cf (.frz i) ρ=match Qa ρ i with | .ow t=>.nx (ρ.set i (.fz t)) | .ml _=>.no | .ro _=>.no | _=>.nx ρ:=by rw [exS];try (cases Qa ρ i <;> rfl)
 rw [e] at h
 cases hs:Qa ρ i with
 | un=>rw [hs] at h;exact ⟨B,G,ρ,F,hO,h⟩
 | pin _=>rw [hs] at h;exact ⟨B,G,ρ,F,hO,h⟩
 | fx _=>rw [hs] at h;exact ⟨B,G,ρ,F,hO,h⟩
 | fz t=>rw [hs] at h;exact ⟨B,G,ρ,F,hO,h⟩
 | ml t=>rw [hs] at h;exact Zfb h
 | ro t=>rw [hs] at h;exact Zfb h
 | ow t =>
  rw [hs] at h
  obtain ⟨G1,F1,s1⟩:=F.freeze hO hs
  exact ⟨B,G1,_,F1,hO,SFin.late h s1⟩
def Q81 (he:QE X e (tE p e')) (hs:swapsWith e none pos.line X.env=pure false):QS X (.Expr e pos) (tS p (.expr e')):=(Qe4 he hs).weak fun D σ H ⟨B,G,ρ,F,hO,h⟩=>by
 unfold exS at h
 exact Qgo F h fun r ρ2 v H2 G2 k F2 _ _ sm=>k σ H2 G2 F2 (Same.refl _)
def Qau (he:QE X e (tE p e')):QS X (.Return (some e) pos) (tS p (.ret e')):=(Qt6 he).weak fun D σ H ⟨B,G,ρ,F,hO,h⟩=>by
 unfold exS at h
 exact Qgo F h fun r ρ2 v H2 G2 k F2 _ pv _=>k v σ H2 G2 F2 pv
def Qf1 {c:Fr} {bs cs:List Fs} (hc:QT X c (tT p c')) (ha:QB X bs (tS p s1)) (hb:QB X cs (tS p s2)):QS X (.If c bs cs pos) (tS p (.ite c' s1 s2)):=(Qyb hc ha hb).weak fun D σ H ⟨B,G,ρ,F,hO,h⟩=>by
 unfold exS at h
 refine Qzm F h fun k ρ2 H2 G2 h2 F2 sm=>?_
 cases k with
 | true=>exact ⟨B,G2,ρ2,F2,hO,h2⟩
 | false=>exact ⟨B,G2,ρ2,F2,hO,h2⟩
def Q3o {B:Bs} {H:Hp} {G:Fw→Prop} {D:Ends} {σ:St} {ρ:En} {i:Nat} {r:PV} {v:V} (F:FI B H G σ ρ) (pv:PVR B.H H G σ ρ v r) (h:SFin p B H G D (Qla i r ρ)):D.nx (σ.set i (some v)) H:=by
 cases r with
 | sl j=>exact Zfb h
 | fz t =>
  obtain ⟨ρ',e,k⟩:=Qfh h
  exact k _ H G (F.setS e pv.is) (Same.refl _)
 | ow t =>
  obtain ⟨ρ',e,k⟩:=Qfh h
  exact k _ H G (F.setOw rfl e pv) (Same.refl _)
def Qiv {i:Nat} (h:QS X st (Qh1 (tE p e') (Qcr i))):QS X st (tS p (.set i e')):=h.weak fun D σ H ⟨B,G,ρ,F,hO,h⟩=>by
 unfold exS at h
 exact Qgo F h fun r ρ2 v H2 G2 k F2 _ pv _=>Q3o F2 pv k
def Qav {i:Nat} (h:QS X st (Qh1 (tE p e') (Qcr i))):QS X st (tS p (.setF i e')):=h.weak fun D σ H ⟨B,G,ρ,F,hO,h⟩=>by
 unfold exS at h
 refine Qgo F h fun r ρ2 v H2 G2 k F2 _ pv _=>?_
 cases ef:frz r with
 | none=>rw [ef] at k;exact Zfb k
 | some t =>
  rw [ef] at k
  obtain ⟨ρ',e,k⟩:=Qfh k
  obtain ⟨G3,F3,i3,s3⟩:=PVR.lay pv F2 ef
  exact k _ H2 G3 (F3.setS e i3) (Qce s3)
def Qact {is:List Nat} (h:QS X st (Qh1 (tE p e') (tG (.tp is)))):QS X st (tS p (.unp is e')):=h.weak fun D σ H ⟨B,G,ρ,F,hO,h⟩=>by
 unfold exS at h
 refine Qgo F h fun r ρ2 v H2 G2 k F2 _ pv _=>?_
 cases r with
 | ow t=>exact Zfb k
 | sl i=>exact Zfb k
 | fz t =>
  cases t <;> first | exact Zfb k | skip
  obtain ⟨ρ',e,k⟩:=Qfh k
  exact ⟨B,G2,ρ2,_,ρ',F2,pv.is,e,fun σ' F' _=>k σ' H2 G2 F' (Same.refl _)⟩
def Qacu {i j:Nat} (h:QS X st (Q6z i j (tA p (.cons a' (.cons b' .nil))))):QS X st (tS p (.par i j a' b')):=h.weak fun D σ H ⟨B,G,ρ,F,hO,h⟩=>by
 unfold exS at h
 refine ⟨G,ρ,F.self,?_⟩
 unfold evA
 have h1:=Qg3 (σ:=σ) h
 cases ea:evE p.cf a' ρ with
 | no=>rw [ea] at h1;exact Zfb h1
 | xn x ρ1=>rw [ea] at h1;exact fun cls dx H1 G1 F1 xr=>h1 cls dx H1 G1 (F.trans F1) xr
 | ok ra ρ1 =>
  rw [ea] at h1
  show Fin p _ σ ((evA p.cf (.cons b' .nil) ρ1).bind fun rs ρ2=>.ok (ra::rs) ρ2) _
  unfold evA
  have h2:=Qg3 (σ:=σ) (show SFin p B H G D _ from h1)
  cases eb:evE p.cf b' ρ1 with
  | no=>rw [eb] at h2;exact Zfb h2
  | xn x ρ2=>rw [eb] at h2;exact fun cls dx H1 G1 F1 xr=>h2 cls dx H1 G1 (F.trans F1) xr
  | ok rb ρ2 =>
   rw [eb] at h2
   unfold evA
   intro vs H1 G1 F1 pv
   cases pv with
   | cons pa pr =>
    cases pr with
    | cons pb pn =>
     cases pn
     rename_i v w
     refine ⟨v,w,rfl,?_⟩
     cases ra with
     | ow t=>exact Zfb h2
     | sl i=>exact Zfb h2
     | fz x =>
      cases rb with
      | ow t=>exact Zfb h2
      | sl i=>exact Zfb h2
      | fz y =>
       obtain ⟨ρ',e,k⟩:=Qfh (show SFin p B H G D (Qae (Qbl [i,j] [x,y] ρ2) .nx) from h2)
       have F2:=F.trans F1
       unfold Qbl at e
       cases e1:Qbi i (.fz x) ρ2 with
       | none=>rw [e1] at e;cases e
       | some ρ3 =>
        rw [e1] at e
        replace e:Qbl [j] [y] ρ3=some ρ':=e
        unfold Qbl at e
        cases e2:Qbi j (.fz y) ρ3 with
        | none=>rw [e2] at e;cases e
        | some ρ4 =>
         rw [e2] at e
         cases e
         exact k _ H1 G1 ((F2.setS e1 pa.is).setS e2 pb.is) (F.same F1)
end
section
variable {X:Cx} {p:Pr} {e a b:Fr} {e' a' b' c':E} {st:Fs} {bH:List Fs} {s s1 s2:S} {pos p1 p2:Pos} {x:Str} {K:Fz}
def FI.mutAt {B:Bs} {H:Hp} {G:Fw→Prop} {σ:St} {ρ:En} {i:Nat} (F:FI B H G σ ρ) (h:(Qa ρ i).mut=true):∃ a vs,σ[i]?=some (some (.ref a))∧H a=some (.lst vs):=by
 have:∃ t,(Qa ρ i).prv=some (.lst t):=by
  cases hs:Qa ρ i <;> rw [hs] at h <;> first | (cases h;done) | skip
  all_goals (rename_i t;cases t <;> first | exact ⟨_,rfl⟩ | cases h)
 obtain ⟨t,e⟩:=this
 obtain ⟨a,s,_,o⟩:=F.prvAt e
 obtain ⟨vs,_,ea,_⟩:=o.lst_inv
 exact ⟨a,vs,s,ea⟩
def IsL.set {D:Hp} {v:V} {t:T} (hv:Is D v t):∀ {vs:List V} {ts:List T} (n:Nat),IsL D vs ts→IsL D (vs.set n v) (ts.set n t)
 | vs,[],n,r=>by rw [r.nil_inv];exact .nil
 | vs,u::us,0,r=>by
  obtain ⟨w,ws,rfl,a,q⟩:=r.cons_inv
  exact .cons hv q
 | vs,u::us,n+1,r=>by
  obtain ⟨w,ws,rfl,a,q⟩:=r.cons_inv
  exact .cons a (IsL.set hv n q)
def Quv {i:Nat} (h:QS X st (Qgs (tBM K "list" Qdz (Qch i) (Qca (tE p e') Qfs)))):QS X st (tS p (.app i e')):=h.weak fun D σ H ⟨B,G,ρ,F,hO,h⟩=>by
 unfold exS at h
 by_cases hm:(Qa ρ i).mut=true
 ·simp only [Zb hm] at h
  obtain ⟨a,eN,sa,ea⟩:=F.mutAt hm
  refine ⟨_,sa,.inl ⟨rfl,_,SqL.of ea⟩,?_⟩
  refine Qgo F h fun r ρ2 v H2 G2 k F2 _ pv _=>?_
  cases ef:frz r with
  | none=>rw [ef] at k;exact Zfb k
  | some t =>
   rw [ef] at k
   obtain ⟨G3,F3,i3,s3⟩:=PVR.lay pv F2 ef
   have sl:=F3.slot i
   replace k:SFin p B H2 G2 D (match Qa ρ2 i with
    | .ow (.lst ts)=>if ts.length<100000 then .nx (ρ2.set i (.ow (.lst (ts++[t])))) else .no
    | .ml (.lst ts)=>if ts.length<100000 then .nx (ρ2.set i (.ml (.lst (ts++[t])))) else .no
    | _=>.no):=k
   have fin:∀ ts s',(Qa ρ2 i=.ow (.lst ts)∧s'=Slot.ow (.lst (ts++[t])))∨(Qa ρ2 i=.ml (.lst ts)∧s'=Slot.ml (.lst (ts++[t])))→SFin p B H2 G2 D (if ts.length<100000 then .nx (ρ2.set i s') else .no)→Qdz (.ref a) [v] H2 fun _ H1=>D.nx σ H1:=fun ts s' hs k=>by
    have hp:(Qa ρ2 i).prv=some (.lst ts):=by rcases hs with ⟨h,_⟩ | ⟨h,_⟩ <;> rw [h] <;> rfl
    obtain ⟨a',bw,g,o1⟩:=F3.prvAt hp
    obtain ⟨vs,z,el,il⟩:=o1.lst_inv
    rw [sa] at bw
    cases bw
    by_cases zt:ts.length<100000
    ·rw [Zb zt] at k
     have lz:=il.length
     obtain ⟨F4,s4⟩:=F3.change hs sa (il.append (.one i3)) (by rw [Zq,Zb3];omega)
     exact ⟨a,vs,v,rfl,rfl,el,by rw [lz,Zau];omega,k σ _ G3 F4 ((Qce s3).trans s4)⟩
    ·rw [Zd zt] at k;exact Zfb k
   cases hs:Qa ρ2 i with
   | un=>rw [hs] at k;exact Zfb k
   | pin _=>rw [hs] at k;exact Zfb k
   | fx _=>rw [hs] at k;exact Zfb k
   | fz t=>rw [hs] at k;exact Zfb k
   | ro t=>rw [hs] at k;exact Zfb k
   | ow u =>
    rw [hs] at k sl
    cases u <;> first | exact Zfb k | skip
    exact fin _ _ (.inl ⟨hs,rfl⟩) k
   | ml u =>
    rw [hs] at k sl
    cases u <;> first | exact Zfb k | skip
    exact fin _ _ (.inr ⟨hs,rfl⟩) k
 ·simp only [Zd hm] at h
  exact Zfb h
def Qacv {i:Nat} (h:QS X st (Qgs (tBM K "list" (Qgw K) (Qch i) (Qca (tE p e') Qfs)))):QS X st (tS p (.ext i e')):=h.weak fun D σ H ⟨B,G,ρ,F,hO,h⟩=>by
 unfold exS at h
 by_cases hm:(Qa ρ i).mut=true
 ·simp only [Zb hm] at h
  obtain ⟨a,eN,sa,ea⟩:=F.mutAt hm
  refine ⟨_,sa,.inl ⟨rfl,_,SqL.of ea⟩,?_⟩
  refine Qgo F h fun r ρ2 v H2 G2 k F2 _ pv _=>?_
  cases r with
  | ow t=>exact Zfb k
  | sl j=>exact Zfb k
  | fz t =>
   cases t <;> first | exact Zfb k | skip
   rename_i us
   have iv:=pv.is
   obtain ⟨b,ws,rfl,eb,rb⟩:=iv.tup_inv
   replace k:SFin p B H2 G2 D (match Qa ρ2 i with
    | .ow (.lst ts)=>if ts.length+us.length≤100000 then .nx (ρ2.set i (.ow (.lst (ts++us)))) else .no
    | .ml (.lst ts)=>if ts.length+us.length≤100000 then .nx (ρ2.set i (.ml (.lst (ts++us)))) else .no
    | _=>.no):=k
   have fin:∀ ts s',(Qa ρ2 i=.ow (.lst ts)∧s'=Slot.ow (.lst (ts++us)))∨(Qa ρ2 i=.ml (.lst ts)∧s'=Slot.ml (.lst (ts++us)))→SFin p B H2 G2 D (if ts.length+us.length≤100000 then .nx (ρ2.set i s') else .no)→Qgw K (.ref a) [.ref b] H2 fun _ H1=>D.nx σ H1:=fun ts s' hs k=>by
    have hp:(Qa ρ2 i).prv=some (.lst ts):=by rcases hs with ⟨h,_⟩ | ⟨h,_⟩ <;> rw [h] <;> rfl
    obtain ⟨a',bw,g,o1⟩:=F2.prvAt hp
    obtain ⟨vs,z,el,il⟩:=o1.lst_inv
    rw [sa] at bw
    cases bw
    by_cases zt:ts.length+us.length≤100000
    ·rw [Zb zt] at k
     have lz:=il.length
     have lb:=rb.length
     obtain ⟨F4,s4⟩:=F2.change hs sa (il.append rb) (by rw [Zq];exact zt)
     exact ⟨a,b,vs,ws,rfl,rfl,el,SqT.of (Qv eb).2,Qbo (by rw [lz,lb];exact zt),k σ _ G2 F4 s4⟩
    ·rw [Zd zt] at k;exact Zfb k
   cases hs:Qa ρ2 i with
   | un=>rw [hs] at k;exact Zfb k
   | pin _=>rw [hs] at k;exact Zfb k
   | fx _=>rw [hs] at k;exact Zfb k
   | fz t=>rw [hs] at k;exact Zfb k
   | ro t=>rw [hs] at k;exact Zfb k
   | ow u =>
    rw [hs] at k
    cases u <;> first | exact Zfb k | skip
    exact fin _ _ (.inl ⟨hs,rfl⟩) k
   | ml u =>
    rw [hs] at k
    cases u <;> first | exact Zfb k | skip
    exact fin _ _ (.inr ⟨hs,rfl⟩) k
 ·simp only [Zd hm] at h
  exact Zfb h
def Q5p {i:Nat} (h:QS X st (Qh1 (tE p e') (Qps (Qch i) (tE p a') Qhr))):QS X st (tS p (.put i a' e')):=h.weak fun D σ H ⟨B,G,ρ,F,hO,h⟩=>by
 unfold exS at h
 refine Qgo F h fun r ρ2 v H2 G2 k F2 _ pv _=>?_
 cases ef:frz r with
 | none=>rw [ef] at k;exact Zfb k
 | some t =>
  rw [ef] at k
  obtain ⟨G3,F3,i3,s3⟩:=PVR.lay pv F2 ef
  by_cases hm:(Qa ρ2 i).mut=true
  ·simp only [Zb hm] at k
   obtain ⟨a,eN,sa,ea⟩:=F3.mutAt hm
   refine ⟨_,sa,?_⟩
   refine Qgo F3 (SFin.late k (Qce s3)) fun rk ρ4 w H4 G4 k4 F4 F4' pk sm=>?_
   have i4:=i3.mono sm
   cases rk with
   | ow t=>exact Zfb k4
   | sl j=>exact Zfb k4
   | fz u =>
    cases u <;> first | exact Zfb k4 | skip
    rename_i j
    obtain rfl:=pk.is.int_inv
    replace k4:SFin p B H4 G4 D (match Qa ρ4 i with
     | .ow (.lst ts)=>Qae (ixN ts.length j) fun n=>.nx (ρ4.set i (.ow (.lst (ts.set n t))))
     | .ml (.lst ts)=>Qae (ixN ts.length j) fun n=>.nx (ρ4.set i (.ml (.lst (ts.set n t))))
     | _=>.no):=k4
    have fin:∀ ts (s':Nat→Slot),(∀ n,(Qa ρ4 i=.ow (.lst ts)∧s' n=Slot.ow (.lst (ts.set n t)))∨(Qa ρ4 i=.ml (.lst ts)∧s' n=Slot.ml (.lst (ts.set n t))))→SFin p B H4 G4 D (Qae (ixN ts.length j) fun n=>.nx (ρ4.set i (s' n)))→Qhr (.ref a) (.int j) v H4 fun H1=>D.nx σ H1:=fun ts s' hs k=>by
     have hp:(Qa ρ4 i).prv=some (.lst ts):=by rcases hs 0 with ⟨h,_⟩ | ⟨h,_⟩ <;> rw [h] <;> rfl
     obtain ⟨a',bw,g,o1⟩:=F4.prvAt hp
     obtain ⟨vs,z,el,il⟩:=o1.lst_inv
     rw [sa] at bw
     cases bw
     obtain ⟨n,en,k⟩:=Qfh k
     have lz:=il.length
     obtain ⟨F5,s5⟩:=F4.change (hs n) sa (il.set i4 n) (by rw [Z6];exact z)
     exact ⟨a,vs,j,n,rfl,rfl,el,by rw [lz];exact en,k σ _ G4 F5 s5⟩
    cases hs:Qa ρ4 i with
    | un=>rw [hs] at k4;exact Zfb k4
    | pin _=>rw [hs] at k4;exact Zfb k4
    | fx _=>rw [hs] at k4;exact Zfb k4
    | fz t=>rw [hs] at k4;exact Zfb k4
    | ro t=>rw [hs] at k4;exact Zfb k4
    | ow u =>
     rw [hs] at k4
     cases u <;> first | exact Zfb k4 | skip
     exact fin _ _ (fun n=>.inl ⟨hs,rfl⟩) k4
    | ml u =>
     rw [hs] at k4
     cases u <;> first | exact Zfb k4 | skip
     exact fin _ _ (fun n=>.inr ⟨hs,rfl⟩) k4
  ·simp only [Zd hm] at k
   exact Zfb k
def Qnj {p:Pr} {B:Bs} {H:Hp} {G:Fw→Prop} {D:Ends} {o:SO} (h:SFin p B H G D (Qhu o)):SFin p.calm B H G D o:=by
 cases o with
 | xn x ρ1=>exact Zfb h
 | nx ρ1=>exact h
 | bk ρ1=>exact h
 | ct ρ1=>exact h
 | rt r ρ1=>exact h
 | no=>exact h
def Q5q {c:Fr} {body:List Fs} (hc:QT X.nox c (tT p.calm c')) (hb:QB X.nox body (tS p.calm s)):QS X (.While c body [] pos) (tS p (.whl c' s)) :=
 (Q2y (Q2w Zcr hc hb)).weak fun D σ H ⟨B,G,ρ,F,hO,h⟩=>by
  unfold exS at h
  have h:=Qnj h
  refine ⟨fun m σ2 H2=>∃ G2 ρ2,FI B H2 G2 σ2 ρ2∧SFin p.calm B H2 G2 D (Qep (fun ρ=>Q6 (evE p.cf c' ρ)) (exS p.cf s) m ρ2),⟨1000000,G,ρ,F,h⟩,?_⟩
  rintro m σ2 H2 ⟨G2,ρ2,F2,h2⟩
  cases m with
  | zero=>exact Zfb h2
  | succ m =>
   unfold Qep at h2
   refine Qzm (p:=p.calm) F2 h2 fun k ρ3 H3 G3 h3 F3 sm=>?_
   cases k with
   | false=>exact h3 σ2 H3 G3 F3 (Same.refl _)
   | true =>
    refine ⟨fun σ' H'=>∃ G' ρ',FI B H' G' σ' ρ'∧SFin p.calm B H' G' D (Qep (fun ρ=>Q6 (evE p.cf c' ρ)) (exS p.cf s) m ρ'),fun σ' H' q=>⟨m,Nat.lt_succ_self m,q⟩,B,G3,ρ3,F3,hO,?_⟩
    replace h3:SFin p.calm B H3 G3 D (match exS p.cf s ρ3 with
     | .nx ρ2=>Qep (fun ρ=>Q6 (evE p.cf c' ρ)) (exS p.cf s) m ρ2
     | .ct ρ2=>Qep (fun ρ=>Q6 (evE p.cf c' ρ)) (exS p.cf s) m ρ2
     | .bk ρ2=>.nx ρ2
     | o=>o):=h3
    show SFin p.calm B H3 G3 _ (exS p.cf s ρ3)
    cases eb:exS p.cf s ρ3 with
    | nx ρ4=>rw [eb] at h3;exact fun σ4 H4 G4 F4 s4=>⟨G4,ρ4,F4,SFin.late h3 s4⟩
    | ct ρ4=>rw [eb] at h3;exact fun σ4 H4 G4 F4 s4=>⟨G4,ρ4,F4,SFin.late h3 s4⟩
    | bk ρ4=>rw [eb] at h3;exact h3
    | rt r ρ4=>rw [eb] at h3;exact h3
    | xn x ρ4=>rw [eb] at h3;exact h3
    | no=>rw [eb] at h3;exact h3
def Q82 {w:W} {tg:Tg} {D:Ends} {σ:St} {H:Hp} {B:Bs} {G:Fw→Prop} {ρ:En} (F:FI B H G σ ρ) (hO:∀ a,¬ B.O a) (h:SFin p B H G D (ofO (evW p.cf w ρ) fun ac ρ1=>match ac.2 with
  | some _=>.no
  | none=>Qap tg (exS p.cf s) ac.1 ρ1)):Qmf (tW p w) (tG tg) (tS p s) D σ H:=by
 refine ⟨G,ρ,F.self,(Qg3 (σ:=σ) h).rebase F fun ac ρ1 h1=>?_⟩
 obtain ⟨ts,lk⟩:=ac
 cases lk with
 | some _=>exact Zfb h1
 | none =>
  refine ⟨rfl,fun J H1 G1 Ok F1 wk cX=>?_⟩
  replace wk:WkR J H1 G1 Ok ts:=wk
  have F1':=F.trans F1
  have s1:=F.same F1
  refine ⟨fun i m σ2 H2=>i+m=ts.length∧∃ G2 ρ2,FI B H2 G2 σ2 ρ2∧Same (dls H1 G1) (dls H2 G2)∧SFin p B H2 G2 D (Qap tg (exS p.cf s) (ts.drop i) ρ2),⟨ts.length,Zae _,G1,ρ1,F1',Same.refl _,SFin.late h1 s1⟩,?_⟩
  rintro i m σ2 H2 ⟨jb,G2,ρ2,F2,s2,h2⟩
  have cW:=cX H2 G2 s2
  by_cases av:i<ts.length
  ·refine .inr ⟨wk.go i H2 av cW,fun σ' H'=>∃ G' ρ',FI B H' G' σ' ρ'∧Same (dls H1 G1) (dls H' G')∧SFin p B H' G' D (Qap tg (exS p.cf s) (ts.drop (i+1)) ρ'),fun σ' H' q=>⟨m-1,by omega,by omega,q⟩,fun x H3 y=>?_⟩
   obtain ⟨s3,t,et,ix⟩:=wk.yld i H2 x H3 av cW y
   have F3:=F2.grow s3
   have gj:=ix G2 F2.prv s2
   rw [Zd0 av] at h2
   have gx:ts[i]=t:=by rw [Za av] at et;exact Zo et
   rw [gx] at h2
   unfold Qap at h2
   cases est:Qcl tg t ρ2 with
   | none=>rw [est] at h2;exact Zfb h2
   | some ρ4 =>
    rw [est] at h2
    refine ⟨B,G2,ρ2,t,ρ4,F3,gj,est,fun σ4 F4 _=>⟨B,G2,ρ4,F4,hO,?_⟩⟩
    replace h2:SFin p B H2 G2 D (match exS p.cf s ρ4 with
     | .nx ρ2=>Qap tg (exS p.cf s) (ts.drop (i+1)) ρ2
     | .ct ρ2=>Qap tg (exS p.cf s) (ts.drop (i+1)) ρ2
     | .bk ρ2=>.nx ρ2
     | o=>o):=h2
    have iM:Same (dls H2 G2) (dls H3 G2):=Qa8 s3
    have h2:=SFin.late h2 iM
    have s13:=s2.trans iM
    show SFin p B H3 G2 _ (exS p.cf s ρ4)
    cases eb:exS p.cf s ρ4 with
    | nx ρ5=>rw [eb] at h2;exact fun σ5 H5 G5 F5 s5=>⟨G5,ρ5,F5,s13.trans s5,SFin.late h2 s5⟩
    | ct ρ5=>rw [eb] at h2;exact fun σ5 H5 G5 F5 s5=>⟨G5,ρ5,F5,s13.trans s5,SFin.late h2 s5⟩
    | bk ρ5=>rw [eb] at h2;exact h2
    | rt r ρ5=>rw [eb] at h2;exact h2
    | xn x ρ5=>rw [eb] at h2;exact h2
    | no=>rw [eb] at h2;exact h2
  ·have e0:ts.drop i=[]:=Zep (by omega)
   rw [e0] at h2
   exact .inl ⟨wk.stop i H2 (by omega) cW,h2 σ2 H2 G2 F2 (Same.refl _)⟩
def Qacw {af aH:Fr} {body:List Fs} {w:W} {tg:Tg} (hc:X.calm=true) (hi:QI X.nox aH af (tW p.calm w)) (hg:QG X.nox aH (tG tg)) (hb:QB X.nox body (tS p.calm s)) (hs:∀ x,foldedSetIterable af X.env x=pure x):QS X (.For aH af body [] pos) (tS p (.for_ w tg s)) :=
 (Q2y (Qt7 Zcr hc hi hg hb hs)).weak fun D σ H ⟨B,G,ρ,F,hO,h⟩=>by
  unfold exS at h
  exact Q82 (p:=p.calm) F hO (Qnj h)
end
def FI.lock {B:Bs} {H:Hp} {G:Fw→Prop} {σ:St} {ρ:En} {i:Nat} {l:Fw} {t:T} (F:FI B H G σ ρ) (hs:Qa ρ i=.ow t) (sl:σ[i]?=some (some (.ref l))):FI ⟨B.H,B.G,B.O,B.M,fun j a=>(j≠i∧B.P j a)∨(j=i∧a=l)⟩ H G σ (ρ.set i (.ro t)):=by
 have bI:∀ j,(j=i∧Qa (ρ.set i (.ro t)) j=.ro t)∨(Qa (ρ.set i (.ro t)) j=Qa ρ j∧(j=i→False)):=fun j=>by
  rw [Qh]
  by_cases e:j=i
  ·subst e
   have hl:j<ρ.length:=by
    rcases Zbx j ρ.length with h | h
    ·exact h
    ·unfold Qa at hs;rw [Zbd h] at hs;cases hs
   exact .inl ⟨rfl,by rw [Zb ⟨rfl,hl⟩]⟩
  ·exact .inr ⟨by rw [Zd (fun h=>e h.1)],e⟩
 have aB:∀ j a,PrvAt σ (ρ.set i (.ro t)) j a→PrvAt σ ρ j a:=fun j a h=>by
  obtain ⟨⟨u,e⟩,q⟩:=h
  rcases bI j with ⟨rfl,ej⟩ | ⟨ej,_⟩
  ·exact ⟨⟨t,by rw [hs];rfl⟩,q⟩
  ·rw [ej] at e;exact ⟨⟨u,e⟩,q⟩
 refine ⟨by rw [Z6];exact F.len,fun j=>?_,fun j k a h1 h2=>F.apart j k a (aB j a h1) (aB k a h2),F.prv,F.chg,F.keep,fun a h=>?_,fun a h=>?_,fun j a h=>?_,F.gg,F.gn,F.bp⟩
 ·rcases bI j with ⟨rfl,ej⟩ | ⟨ej,_⟩
  ·rw [ej]
   have q:=F.slot j
   rw [hs] at q
   exact q
  ·rw [ej];exact F.slot j
 ·obtain ⟨j,u,e,q⟩:=h
  rcases bI j with ⟨rfl,ej⟩ | ⟨ej,_⟩
  ·rw [ej] at e;cases e
  ·rw [ej] at e;exact F.newO a ⟨j,u,e,q⟩
 ·obtain ⟨j,u,e,q⟩:=h
  rcases bI j with ⟨rfl,ej⟩ | ⟨ej,_⟩
  ·rw [ej] at e;cases e
  ·rw [ej] at e;exact F.newM a ⟨j,u,e,q⟩
 ·obtain ⟨⟨u,e⟩,q⟩:=h
  rcases bI j with ⟨rfl,ej⟩ | ⟨ej,ne⟩
  ·rw [sl] at q;cases q;exact .inr ⟨rfl,rfl⟩
  ·rw [ej] at e;exact .inl ⟨ne,F.fix j a ⟨⟨u,e⟩,q⟩⟩
def FI.unlock {B:Bs} {H:Hp} {G:Fw→Prop} {σ:St} {ρ:En} {i:Nat} {l:Fw} {t:T} (F:FI ⟨B.H,B.G,B.O,B.M,fun j a=>(j≠i∧B.P j a)∨(j=i∧a=l)⟩ H G σ ρ) (hs:Qa ρ i=.ro t) (hb:B.H l=none∨B.O l):FI B H G σ (ρ.set i (.ow t)):=by
 have bI:∀ j,(j=i∧Qa (ρ.set i (.ow t)) j=.ow t)∨(Qa (ρ.set i (.ow t)) j=Qa ρ j∧(j=i→False)):=fun j=>by
  rw [Qh]
  by_cases e:j=i
  ·subst e
   have hl:j<ρ.length:=by
    rcases Zbx j ρ.length with h | h
    ·exact h
    ·unfold Qa at hs;rw [Zbd h] at hs;cases hs
   exact .inl ⟨rfl,by rw [Zb ⟨rfl,hl⟩]⟩
  ·exact .inr ⟨by rw [Zd (fun h=>e h.1)],e⟩
 have aB:∀ j a,PrvAt σ (ρ.set i (.ow t)) j a→PrvAt σ ρ j a:=fun j a h=>by
  obtain ⟨⟨u,e⟩,q⟩:=h
  rcases bI j with ⟨rfl,ej⟩ | ⟨ej,_⟩
  ·exact ⟨⟨t,by rw [hs];rfl⟩,q⟩
  ·rw [ej] at e;exact ⟨⟨u,e⟩,q⟩
 refine ⟨by rw [Z6];exact F.len,fun j=>?_,fun j k a h1 h2=>F.apart j k a (aB j a h1) (aB k a h2),F.prv,F.chg,F.keep,fun a h=>?_,fun a h=>?_,fun j a h=>?_,F.gg,F.gn,F.bp⟩
 ·rcases bI j with ⟨rfl,ej⟩ | ⟨ej,_⟩
  ·rw [ej]
   have q:=F.slot j
   rw [hs] at q
   exact q
  ·rw [ej];exact F.slot j
 ·obtain ⟨j,u,e,q⟩:=h
  rcases bI j with ⟨rfl,ej⟩ | ⟨ej,_⟩
  ·rcases F.fix j a ⟨⟨t,.inr (.inl hs)⟩,q⟩ with ⟨n,_⟩ | ⟨_,rfl⟩
   ·exact (n rfl).elim
   ·exact hb
  ·rw [ej] at e;exact F.newO a ⟨j,u,e,q⟩
 ·obtain ⟨j,u,e,q⟩:=h
  rcases bI j with ⟨rfl,ej⟩ | ⟨ej,_⟩
  ·rw [ej] at e;cases e
  ·rw [ej] at e;exact F.newM a ⟨j,u,e,q⟩
 ·obtain ⟨⟨u,e⟩,q⟩:=h
  rcases bI j with ⟨rfl,ej⟩ | ⟨ej,ne⟩
  ·rw [ej] at e;rcases e with e | e | e <;> cases e
  ·rw [ej] at e
   rcases F.fix j a ⟨⟨u,e⟩,q⟩ with ⟨_,h⟩ | ⟨h,_⟩
   ·exact h
   ·exact (ne h).elim
section
variable {X:Cx} {p:Pr} {s:S} {pos:Pos} {K:Fz}
end
def Qsu:Arg→Slot
 | .fz t=>.fz t
 | .ml t=>.ml t
 | .ro t=>.ro t
def Qnk (fn:Fn) (as:List Arg):Qe7 fn as=as.map Qsu++List.replicate (fn.sz-fn.ps) .un:=by
 unfold Qe7
 congr 1
def Qcx (fn:Fn) (as:List Arg) (i:Nat):Qa (Qe7 fn as) i=match as[i]? with
  | some a=>Qsu a
  | none=>.un:=by
 rw [Qnk]
 unfold Qa
 rcases Zbx i as.length with h | h
 ·rw [Zbr (by rw [Zf];exact h),Z8,Za h]
  rfl
 ·rw [Zbp (by rw [Zf];exact h),Zcn.mpr h,Zb7]
  split <;> rename_i e
  ·split at e
   ·cases e;rfl
   ·cases e
  ·rfl
def Qnl {N:List Str} {vs:List V} {i:Nat} {v:V} (h:vs[i]?=some v):(Qb2 N vs)[i]?=some (some v):=by
 unfold Qb2
 have hi:i<vs.length:=(Ze.mp h).1
 rw [Zbr (by rw [Zf];exact hi),Z8,h]
 rfl
def Qnm {N:List Str} {vs:List V} {i:Nat} {v:V} (h:(Qb2 N vs)[i]?=some (some v)):vs[i]?=some v:=by
 unfold Qb2 at h
 rcases Zbx i vs.length with hi | hi
 ·rw [Zbr (by rw [Zf];exact hi),Z8] at h
  cases e:vs[i]? with
  | none=>rw [e] at h;cases h
  | some w=>rw [e] at h;cases h;rfl
 ·rw [Zbp (by rw [Zf];exact hi),Zb7] at h
  split at h <;> cases h
abbrev Qzn (H:Hp) (G:Fw→Prop) (vs:List V) (as:List Arg):Bs:=⟨H,G,fun _=>False,Qng vs as,fun i a=>(∃ x,as[i]?=some x∧x.prv=true)∧vs[i]?=some (.ref a)⟩
section
variable {H H1:Hp} {G G1:Fw→Prop} {vs:List V} {as:List Arg} {fn:Fn} {N:List Str} {σ1:St} {ρ1:En} {fin:List T} {mg:Str→Option Fx}
def Qsv {x:Arg} {t:T} (h:(Qsu x).prv=some t):x.prv=true:=by
 cases x <;> first | rfl | cases h
def Qzo (A:ArgsR H G vs as) (pn:Pen H G) (h1:vs.length≤N.length) (h2:fn.ps=as.length) (h3:fn.sz=N.length):FI (Qzn H G vs as) H G (Qb2 N vs) (Qe7 fn as):=by
 have pv:∀ i a,PrvAt (Qb2 N vs) (Qe7 fn as) i a→(∃ x,as[i]?=some x∧x.prv=true)∧vs[i]?=some (.ref a):=fun i a h=>by
  obtain ⟨⟨t,e⟩,q⟩:=h
  rw [Qcx] at e
  cases hx:as[i]? with
  | none=>rw [hx] at e;cases e
  | some x=>rw [hx] at e;exact ⟨⟨x,rfl,Qsv e⟩,Qnm q⟩
 refine ⟨?_,fun i=>?_,fun i j a h1 h2=>?_,pn,fun _ _ _ _ e=>e,fun _ o e=>⟨o,e⟩,fun a h=>?_,fun a h=>?_,fun i a h=>?_,fun _ h=>h,fun _ h=>.inl h,fun b h=>let ⟨xs,e,_⟩:=pn b h;⟨_,e⟩⟩
 ·rw [Qnk]
  unfold Qb2
  have:=A.len
  simp only [Zq,Zf,Zb1]
  omega
 ·rw [Qcx]
  cases hx:as[i]? with
  | none=>trivial
  | some x =>
   have hi:i<vs.length:=by rw [A.len];exact (Ze.mp hx).1
   have ev:vs[i]?=some vs[i]:=Za hi
   have q:=A.get i _ x ev hx
   have s:=Qnl (N:=N) ev
   cases x with
   | fz t=>exact ⟨_,s,q⟩
   | ml t=>obtain ⟨a,e,g,o⟩:=q;rw [e] at s;exact ⟨a,s,g,o⟩
   | ro t=>obtain ⟨a,e,g,o⟩:=q;rw [e] at s;exact ⟨a,s,g,o⟩
 ·obtain ⟨⟨x,ex,px⟩,vx⟩:=pv i a h1
  obtain ⟨⟨y,ey,py⟩,vy⟩:=pv j a h2
  exact A.apart i j a x y ex ey px py vx vy
 ·obtain ⟨i,t,e,q⟩:=h
  rw [Qcx] at e
  cases hx:as[i]? with
  | none=>rw [hx] at e;cases e
  | some x=>rw [hx] at e;cases x <;> cases e
 ·obtain ⟨i,t,e,q⟩:=h
  rw [Qcx] at e
  cases hx:as[i]? with
  | none=>rw [hx] at e;cases e
  | some x =>
   rw [hx] at e
   cases x <;> cases e
   exact ⟨i,_,hx,Qnm q⟩
 ·obtain ⟨⟨t,e⟩,q⟩:=h
  refine pv i a ⟨⟨t,?_⟩,q⟩
  rcases e with e | e | e
  ·rw [e];rfl
  ·rw [e];rfl
  ·rw [Qcx] at e
   cases hx:as[i]? with
   | none=>rw [hx] at e;cases e
   | some x=>rw [hx] at e;cases x <;> cases e
def Qhj:∀ {as:List Arg} {ρ:En} {fin:List T},Qaa as ρ=some fin→∀ (i:Nat) (t:T),as[i]?=some (.ml t)→∃ t',Qa ρ i=.ml t'∧fin[i]?=some t'
 | [],_,_,_,i,t,h=>by simp at h
 | .ml u::as,[],fin,e,_,_,_=>by cases e
 | .fz u::as,[],fin,e,_,_,_=>by cases e
 | .ro u::as,[],fin,e,_,_,_=>by cases e
 | .ml u::as,s::ρ,fin,e,i,t,h=>by
  cases s <;> first | (cases e;done) | skip
  rename_i w
  replace e:(Qaa as ρ).map (w :: ·)=some fin:=e
  cases e2:Qaa as ρ with
  | none=>rw [e2] at e;cases e
  | some f2 =>
   rw [e2] at e
   cases e
   cases i with
   | zero=>exact ⟨w,rfl,rfl⟩
   | succ i=>rw [Zl] at h ⊢;rw [Qc];exact Qhj e2 i t h
 | .fz u::as,s::ρ,fin,e,i,t,h=>by
  replace e:(Qaa as ρ).map (T.non :: ·)=some fin:=e
  cases e2:Qaa as ρ with
  | none=>rw [e2] at e;cases e
  | some f2 =>
   rw [e2] at e
   cases e
   cases i with
   | zero=>simp at h
   | succ i=>rw [Zl] at h ⊢;rw [Qc];exact Qhj e2 i t h
 | .ro u::as,s::ρ,fin,e,i,t,h=>by
  replace e:(Qaa as ρ).map (T.non :: ·)=some fin:=e
  cases e2:Qaa as ρ with
  | none=>rw [e2] at e;cases e
  | some f2 =>
   rw [e2] at e
   cases e
   cases i with
   | zero=>simp at h
   | succ i=>rw [Zl] at h ⊢;rw [Qc];exact Qhj e2 i t h
def Qlm (F:FI (Qzn H G vs as) H1 G1 σ1 ρ1) (e:Qaa as ρ1=some fin):CallP H G vs as H1 G1 fin where
 prv:=F.prv
 chg:=fun b o h e=>F.chg b o (fun z=>z) h e
 keep:=F.keep
 gg:=F.gg
 gn:=F.gn
 fin:=fun i t a h1 h2=>by
  obtain ⟨t',e1,e2⟩:=Qhj e i t h1
  have q:=F.slot i
  rw [e1] at q
  obtain ⟨a',q1,_,q3⟩:=q
  have q4:=(F.fix i a' ⟨⟨t',.inl e1⟩,q1⟩).2
  rw [h2] at q4
  cases q4
  exact ⟨t',e2,q3⟩
def Q3p {v:V} {r r':PV} (F:FI (Qzn H G vs as) H1 G1 σ1 ρ1) (pv:PVR H H1 G1 σ1 ρ1 v r) (e:Qbd ρ1 r=some r'):RetR H H1 G1 v r':=by
 cases r with
 | fz t=>cases e;exact pv
 | ow t =>
  cases e
  obtain ⟨a,rfl,n,g,_,o⟩:=pv
  exact ⟨a,rfl,n,g,o⟩
 | sl i =>
  have e:(match Qa ρ1 i with | .ow t=>some (PV.ow t) | _=>none)=some r':=e
  have q:=F.slot i
  cases hs:Qa ρ1 i with
  | un=>rw [hs] at e;cases e
  | pin _=>rw [hs] at e;cases e
  | fx _=>rw [hs] at e;cases e
  | fz t=>rw [hs] at e;cases e
  | ml t=>rw [hs] at e;cases e
  | ro t=>rw [hs] at e;cases e
  | ow t =>
   rw [hs] at e q
   cases e
   obtain ⟨a,q1,g,o⟩:=q
   have pv:σ1[i]?=some (some v):=pv
   rw [q1] at pv
   cases pv
   refine ⟨a,rfl,?_,g,o⟩
   rcases F.newO a ⟨i,t,hs,q1⟩ with z | z
   ·exact z
   ·exact z.elim
def Q83 {cf:CF} {Q:VK} {E:XK} (A:ArgsR H G vs as) (pn:Pen H G) (h1:vs.length≤N.length) (h3:fn.sz=N.length) (h:FROk mg H G vs as (Qcv cf fn as) Q E):tS ⟨cf,fun cls dx _ H=>E cls dx H,mg⟩ fn.body { nx:=fun _ H'=>Q .non H',rt:=Q } (Qb2 N vs) H:=by
 unfold Qcv at h
 by_cases h2:as.length=fn.ps
 ·rw [Zb h2] at h
  refine ⟨_,G,_,Qzo A pn h1 h2.symm h3,fun _ z=>z,?_⟩
  show SFin _ _ _ _ _ (exS cf fn.body (Qe7 fn as))
  cases e:exS cf fn.body (Qe7 fn as) with
  | no=>rw [e] at h;exact Zfb h
  | bk ρ=>rw [e] at h;exact Zfb h
  | ct ρ=>rw [e] at h;exact Zfb h
  | nx ρ =>
   rw [e] at h
   intro σ1 H1 G1 F _
   cases ef:Qaa as ρ with
   | none=>simp only [ef] at h;exact Zfb h
   | some fin=>simp only [ef] at h;exact h .non H1 G1 (Qlm F ef) (show Is (dls H1 G1) .non .non from Is.non)
  | rt r ρ =>
   rw [e] at h
   intro v σ1 H1 G1 F pv
   cases er:Qbd ρ r with
   | none=>simp only [er] at h;exact Zfb h
   | some r' =>
    cases ef:Qaa as ρ with
    | none=>simp only [er,ef] at h;exact Zfb h
    | some fin=>simp only [er,ef] at h;exact h v H1 G1 (Qlm F ef) (Q3p F pv er)
  | xn x ρ =>
   rw [e] at h
   intro cls dx σ1 H1 G1 F xr
   cases ef:Qaa as ρ with
   | none=>simp only [ef] at h;exact Zfb h
   | some fin=>simp only [ef] at h;exact h cls dx H1 G1 (Qlm F ef) xr
 ·rw [Zd h2] at h
  exact Zfb h
end
def Qx {X:Cx}:Qik X (fun _ _ _ _=>False):=fun aa σ H s e s' I h=>by
 obtain ⟨a,cls,dx,H',_,_,_,_,_,_,z⟩:=h
 exact z.elim
structure Df where
 x:Str
 st:Fs
 N:List Str
 ps:List Str
 fn:Fn
 fc:Str→Bool:=fun _=>true
 f1:Str→Bool:=fc
abbrev Qiw (ds:List Df):Nat→Option Fn:=fun f=>match ds[f]? with
 | some d=>some d.fn
 | none=>none
structure DfOk (K:Fz) (mg:Str→Option Fx) (d:Df):Prop where
 dfn:Dfn K mg d.x d.st
 sc:FnScope d.N d.ps (Qi d.st)
 bd:Qal d.x d.st d.ps
 ps:d.fn.ps=d.ps.length
 sz:d.fn.sz=d.N.length
def Qoj (P:Fu) (w:Ft) (K:Fz) (mg:Str→Option Fx) (base:Fq) (ds:List Df) (cf:CF) (n:Nat):Prop:=∀ (f:Nat) (d:Df),ds[f]?=some d→HasE P w K mg base d.x d.ps n (spF cf mg f)
def Qa6 (P:Fu) (w:Ft) (K:Fz) (mg:Str→Option Fx) (base:Fq) (ds:List Df) (d:Df):Prop :=
 ∀ (cf:CF) (n:Nat) (R:XR) (f:Fw) (ag:Fx) (A:Fv) (outer:List Env) (s:Fy) (H:Hp) (E:XK),Qoj P w K mg base ds cf n→1≤n∧Qoj P w K mg base ds cf (n-1)→Qse K mg d.x ag→Qik (Qhp d.fc (CXE P w) P w K mg base d.N d.x (Qi d.st) f ag A outer s H E) R →
  Room n (A.deeper (envOfC d.x (Qi d.st) s.heap.objs.size f ag))→QB (Qhp d.fc (CXE P w) P w K mg base d.N d.x (Qi d.st) f ag A outer s H E) (Qbh d.st) (tS ⟨cf,R,mg⟩ d.fn.body)
section
variable {P:Fu} {w:Ft} {K:Fz} {mg:Str→Option Fx} {base:Fq} {ds:List Df}
def Quw {cf:CF} {f:Nat} {vs:List V} {H:Hp} {Q:VK} {E:XK} {d:Df} (h:spF (evF (Qiw ds) 0) mg f vs H Q E):False:=by
 obtain ⟨G,as,_,_,z⟩:=h
 exact z
def Qnn (ok:∀ (f:Nat) (d:Df),ds[f]?=some d→DfOk K mg d∧Qa6 P w K mg base ds d):∀ n,Qoj P w K mg base ds (evF (Qiw ds) n) (2*n+1)
 | 0,f,d,e=>by
  obtain ⟨g,fd,F,m⟩:=(ok f d e).1.dfn.ex
  exact ⟨g,fd,F.kp,m,F.binds (ok f d e).1.bd,⟨fun vs H Q E h=>(Quw (d:=d) (cf:=fun _ _=>.no) h).elim,fun A outer s H args us vs Q E _ _ _ _ h=>(Quw (d:=d) (cf:=fun _ _=>.no) h).elim⟩⟩
 | n+1,f,d,e=>by
  obtain ⟨o,b⟩:=ok f d e
  have ih:=Qnn ok n
  have iY:∀ as,evF (Qiw ds) (n+1) f as=Qcv (evF (Qiw ds) n) d.fn as:=fun as=>by
   show (match Qiw ds f with | some fn=>Qcv (evF (Qiw ds) n) fn as | none=>.no)=_
   unfold Qiw
   rw [e]
  refine Q8c (g:=d.fc) (k:=2*n+2) o.dfn o.sc o.bd (fun vs H Q E h=>?_) (fun X g ag A outer s H vs Q E _ aT pz hr h=>?_)
  ·obtain ⟨G,as,a,_,z⟩:=h
   rw [iY] at z
   unfold Qcv at z
   by_cases h2:as.length=d.fn.ps
   ·rw [a.len,h2,o.ps]
   ·rw [Zd h2] at z;exact z.elim
  ·obtain ⟨G,as,a,pn,z⟩:=h
   refine ⟨_,b (evF (Qiw ds) n) (2*n+2) _ g ag A outer s H E (fun f d e=>(ih f d e).mono (Zew _)) ⟨Nat.le_add_left 1 _,ih⟩ aT pz hr,?_⟩
   rw [iY] at z
   have hl:as.length=d.fn.ps:=by
    unfold Qcv at z
    by_cases h2:as.length=d.fn.ps
    ·exact h2
    ·rw [Zd h2] at z;exact z.elim
   have hN:d.ps.length≤d.N.length:=by
    have:=congrArg List.length o.sc.pre
    rw [Zcv] at this
    omega
   exact Q83 a pn (by rw [a.len,hl,o.ps];exact hN) o.sz z
end
section
variable {X:Cx} {p:Pr} {e a b c:Fr} {es rest:List Fr} {e' a' b' c':E} {aq:Es} {pos p1 p2 p3:Pos} {x:Str} {st:Fs} {s:S} {K:Fz}
def Q5r:QS X st (tS p .bad):=Q2x.weak fun D σ H ⟨B,G,ρ,F,hO,h⟩=>Zfb h
def Qe (i:Nat) (hN:X.N[i]?=some x:=by rfl) (hv:Vis X.env.scope x:=by first | exact Or.inl rfl | exact Or.inr (Or.inl rfl) | exact Or.inr (Or.inr rfl)) (hd:(x==("__debug__" : Str))=false:=by decide)
  (aT:(x==("__classdict__" : Str))=false:=by decide):QE X (.Name x pos) (tE p (.var i)):=Qacg hN hv hd aT
def Qzp {i:Int} (h:∃ u,X.mg x=some u∧RelV (.int i) u) (hg:Gl X x:=by rfl) (hd:(x==("__debug__" : Str))=false:=by decide):QE X (.Name x pos) (tE p (.int i)):=Q8p h hg hd
def Qf (ha:QE X e (tE p e')) (hr:QA X es (tA p aq)) (hs:Qr e=true:=by rfl):QA X (e::es) (tA p (.cons e' aq)):=Q8q ha hr hs
def Qc5 (hK:X.K=K) (ha:QE X a (tE p a')) (hb:QE X b (tE p b')):QE X (.BinOp a .Add b pos) (tE p (.bin .add a' b')):=Qnd (Q5a K hK) (Q27 K) ha hb
def Q5s (ha:QE X a (tE p a')) (hb:QE X b (tE p b')):QE X (.BinOp a .Sub b pos) (tE p (.bin .sub a' b')):=Qnd Qabk Q28 ha hb
def Qux (ha:QE X a (tE p a')) (hb:QE X b (tE p b')):QE X (.BinOp a .Mult b pos) (tE p (.bin .mul a' b')):=Qnd Q8r Q3a ha hb
def Qacx (ha:QE X a (tE p a')) (hb:QE X b (tE p b')):QE X (.BinOp a .FloorDiv b pos) (tE p (.bin .fdv a' b')):=Qnd Q8s Q3b ha hb
def Qqk (ha:QE X a (tE p a')) (hb:QE X b (tE p b')):QE X (.BinOp a .Mod b pos) (tE p (.bin .mod a' b')):=Qnd Q8t Q3c ha hb
def Q5t (ha:QE X a (tE p a')) (hb:QE X b (tE p b')):QE X (.BinOp a .Pow b pos) (tE p (.bin .pow a' b')):=Qnd Qabl Q3d ha hb
def Qln {op:CmpOp} (h1:op≠.In) (h2:op≠.NotIn):behindInMarks op b=false:=by
 unfold behindInMarks
 cases b <;> try rfl
 cases op <;> simp_all
def g_eq (hu:X.A.units+64<cLine) (ha:QE X a (tE p a')) (hb:QE X b (tE p b')):QE X (.Compare a [.Eq] [b] pos) (tE p (.cmp .eq a' b')):=Qne (Q5l hu) Qy7 ha hb (Qln (by decide) (by decide))
def g_ne (hu:X.A.units+64<cLine) (ha:QE X a (tE p a')) (hb:QE X b (tE p b')):QE X (.Compare a [.NotEq] [b] pos) (tE p (.cmp .ne a' b')):=Qne (Q5m hu) Qy8 ha hb (Qln (by decide) (by decide))
def g_lt (ha:QE X a (tE p a')) (hb:QE X b (tE p b')):QE X (.Compare a [.Lt] [b] pos) (tE p (.cmp .lt a' b')):=Qne Q73 Qy9 ha hb (Qln (by decide) (by decide))
def g_ge (ha:QE X a (tE p a')) (hb:QE X b (tE p b')):QE X (.Compare a [.GtE] [b] pos) (tE p (.cmp .ge a' b')):=Qne o_ge Q8v ha hb (Qln (by decide) (by decide))
def Qzq (ha:QE X a (tE p a')) (hb:QE X b (tE p b')):QE X (.Compare a [.Is] [b] pos) (tE p (.cmp .isn a' b')):=Qne Q5c Qum ha hb (Qln (by decide) (by decide))
def t_eq (hu:X.A.units+64<cLine) (ha:QE X a (tE p a')) (hb:QE X b (tE p b')):QT X (.Compare a [.Eq] [b] pos) (tT p (.cmp .eq a' b')):=Qj0 (Q5l hu) Qy7 ha hb (Qln (by decide) (by decide))
def Qsw (hu:X.A.units+64<cLine) (ha:QE X a (tE p a')) (hb:QE X b (tE p b')):QT X (.Compare a [.NotEq] [b] pos) (tT p (.cmp .ne a' b')):=Qj0 (Q5m hu) Qy8 ha hb (Qln (by decide) (by decide))
def t_lt (ha:QE X a (tE p a')) (hb:QE X b (tE p b')):QT X (.Compare a [.Lt] [b] pos) (tT p (.cmp .lt a' b')):=Qj0 Q73 Qy9 ha hb (Qln (by decide) (by decide))
def Q84 (ha:QE X a (tE p a')) (hb:QE X b (tE p b')):QT X (.Compare a [.Gt] [b] pos) (tT p (.cmp .gt a' b')):=Qj0 o_gt Q8u ha hb (Qln (by decide) (by decide))
def Q5u (ha:QE X a (tE p a')) (hb:QE X b (tE p b')):QT X (.Compare a [.Is] [b] pos) (tT p (.cmp .isn a' b')):=Qj0 Q5c Qum ha hb (Qln (by decide) (by decide))
def Q85 (ha:QE X a (tE p a')) (hb:QE X b (tE p b')):QT X (.Compare a [.IsNot] [b] pos) (tT p (.cmp .isnn a' b')):=Qj0 Q74 Qza ha hb (Qln (by decide) (by decide))
def Qck (ha:QE X e (tE p e')) (he:∀ au,isTrue e X.env au=(do let v ← au;standAt e.pos;holding [v] (truthy v)):=by intro _;rfl):QT X e (tT p e'):=Qaci ha he
def Qj3 {n:String} {tn:Fr} (hm:X.mg "isinstance" = none) (hv:bootBuiltins "isinstance" = some (.builtin "isinstance")) (ha:QE X a (tE p a')) (ht:QE X tn (tC (.ty n))) (hg:Gl X "isinstance" := by rfl) (h1:Qr a=true:=by rfl) (h2:Qr tn=true:=by rfl):QE X (.Call (.Name "isinstance" p1) [a,tn] [] pos) (tE p (.isI a' n)):=Qacl hm hv ha ht hg h1 h2
def Qcy {id:String} {r:List V→Hp→VK→Prop} {b:Bi} (hc:QCl X (.builtin id) r) (hs:Ob r b) (hm:X.mg x=none) (hv:bootBuiltins x=some (.builtin id)) (ha:QA X (e::es) (tA p aq)) (hg:Gl X x:=by rfl) (hn:x ≠ "__name__" := by decide) (aD:(x==("__debug__" : Str))=false:=by decide) (h1:Qr e=true:=by rfl) (h2:es.all Qr=true:=by rfl) :
  QE X (.Call (.Name x p1) (e::es) [] pos) (tE p (.bi b aq)):=s_bi hc hs hm hv ha hg hn aD h1 h2
def Quy {T:String} {r:List V→Hp→VK→Prop} {b:Bi} (hc:QCl X (.type T) r) (hs:Ob r b) (hm:X.mg x=none) (hv:bootBuiltins x=some (.type T)) (ha:QA X (e::es) (tA p aq)) (hg:Gl X x:=by rfl) (hn:x ≠ "__name__" := by decide) (aD:(x==("__debug__" : Str))=false:=by decide) (h1:Qr e=true:=by rfl) (h2:es.all Qr=true:=by rfl) :
  QE X (.Call (.Name x p1) (e::es) [] pos) (tE p (.bi b aq)):=Qacm hc hs hm hv ha hg hn aD h1 h2
def Qde (hK:X.K=K) (ha:QE X a (tE p a')) (hb:QE X b (tE p b')) (hs:Qkf b:=by exact fun _ _=>rfl):QE X (.Subscript a b pos) (tE p (.ix a' b')):=s_ix K hK ha hb hs
def Q5v (hK:X.K=K) {lo hi:Option Fr} {dH cD:Es} (ha:QE X a (tE p a')) (hl:QO X lo (tO p dH)) (hh:QO X hi (tO p cD)):QE X (.Subscript a (.Slice lo hi none p2) pos) (tE p (.slc a' dH cD)):=Qacn K hK ha hl hh
def Qaf {f k:Nat} {ps:List Str} (h:HasE X.prog X.w X.K X.mg X.base x ps k (spF p.cf p.mg f)) (pz:Qik X p.R) (hr:Room k X.A) (ha:QA X (e::es) (tA p aq)) (hg:Gl X x:=by rfl) (aD:(x==("__debug__" : Str))=false:=by decide) (h1:Qr e=true:=by rfl) (h2:es.all Qr=true:=by rfl) :
  QE X (.Call (.Name x p1) (e::es) [] pos) (tE p (.call f aq)):=Q8y h pz hr ha hg aD h1 h2
def Q3q {f k:Nat} {ps:List Str} (h:HasE X.prog X.w X.K X.mg X.base x ps k (spF p.cf p.mg f)) (pz:Qik X p.R) (hr:Room k X.A) (ha:QA X (e::es) (tA p aq)) (hg:Gl X x:=by rfl) (aD:(x==("__debug__" : Str))=false:=by decide) (h1:Qr e=true:=by rfl) (h2:es.all Qr=true:=by rfl) :
  QE X (.Call (.Name x p1) (e::es) [] pos) (tE p (.tcall f aq)):=Q3k h pz hr ha hg aD h1 h2
def Qcz {aH elt af:Fr} {az:List Fr} {scope:Scope} (N:List Str) (js:List (Option Nat)) {w:W} {tg:Tg} {cs:Es} (ao:X.calm=true)
  (hi:QI X aH af (tW p w)) (hg:∀ s H fp,QG (Q9 X scope N s H fp) aH (tG tg)) (hc:∀ s H fp,QC (Q9 X scope N s H fp) az (tCs p.calm cs)) (he:∀ s H fp,QE (Q9 X scope N s H fp) elt (tE p.calm e'))
  (hk:scope.kind=.function:=by rfl) (h1:scOk X scope=true:=by rfl) (h2:Qii X scope N js=true:=by rfl) (hs:∀ x,foldedSetIterable af X.env x=pure x:=by intro _;rfl):QE X (.ListComp elt [⟨aH,af,az,0⟩] scope pos) (tE p (.comp w js tg cs e')):=Q80 ao hi hg hc he hk h1 h2 hs
def Qzr {aH elt af:Fr} {az:List Fr} {scope:Scope} (N:List Str) (js:List (Option Nat)) {w:W} {tg:Tg} {cs:Es} {i:Nat} (ao:X.calm=true)
  (hi:QI X aH af (tW p w)) (hg:∀ s H fp,QG (Q9 X scope N s H fp) aH (tG tg)) (hc:∀ s H fp,QC (Q9 X scope N s H fp) az (tCs p.calm cs)) (he:∀ s H fp,QE (Q9 X scope N s H fp) elt (tE p.calm e')) (hn:QG X (.Name x p2) (Qcr i))
  (hk:scope.kind=.function:=by rfl) (h1:scOk X scope=true:=by rfl) (h2:Qii X scope N js=true:=by rfl) (hs:∀ x,foldedSetIterable af X.env x=pure x:=by intro _;rfl)
  (g4:swapsWithSole [.Name x p2] (.ListComp elt [⟨aH,af,az,0⟩] scope p1) pos.line X.env=pure true:=by rfl) (ha:(assignEach [.Name x p2] X.env).map (·.2)=[assign (.Name x p2) X.env]:=by rfl) :
  QS X (.Assign [.Name x p2] (.ListComp elt [⟨aH,af,az,0⟩] scope p1) pos) (Qh1 (tE p (.comp w js tg cs e')) (Qcr i)) :=
 QS.weak ⟨Qsl ao hi.h (fun s H fp=>(hg s H fp).h) (fun s H fp=>(hc s H fp).h) (fun s H fp=>(he s H fp).h) hn.h hk h1 h2 hs g4 ha⟩ fun D σ H h=>Quu h
variable {tg:Fr}
def Qek (hm:X.mg "range" = none) (ha:QE X a (tE p a')) (hg:Gl X "range" := by rfl) (hs:Qr a=true:=by rfl):QI X tg (.Call (.Name "range" p1) [a] [] pos) (tW p (.rng1 a')):=Q3l hm ha hg hs
def Q86 (hm:X.mg "range" = none) (ha:QE X a (tE p a')) (hb:QE X b (tE p b')) (hg:Gl X "range" := by rfl) (hs:Qr a=true:=by rfl) (ay:Qr b=true:=by rfl):QI X tg (.Call (.Name "range" p1) [a,b] [] pos) (tW p (.rng2 a' b')):=Q3m hm ha hb hg hs ay
def Qac3 {es:List Fr} {x1} {tp:Pos} (hK:X.K=K) (hm:X.mg "enumerate" = none) (hb:PySem.bootBuiltins "enumerate" = some (.type "enumerate")) (ha:QE X a (tE p a')) (hg:Gl X "enumerate" := by rfl) (hs:Qr a=true:=by rfl):QI X (.Tuple es x1 tp) (.Call (.Name "enumerate" p1) [a] [] pos) (tW p (.enm a')):=Q8z hK hm hb ha hg hs
def Qsx (he:QE X e (tE p e')) (hs:swapsWith e none pos.line X.env=pure false:=by rfl):QS X (.Expr e pos) (tS p (.expr e')):=Q81 he hs
def Qc6 {af aH:Fr} {body:List Fs} {w:W} {tg:Tg} (hc:X.calm=true) (hi:QI X.nox aH af (tW p.calm w)) (hg:QG X.nox aH (tG tg)) (hb:QB X.nox body (tS p.calm s)) (hs:∀ x,foldedSetIterable af X.env x=pure x:=by intro _;rfl):QS X (.For aH af body [] pos) (tS p (.for_ w tg s)):=Qacw hc hi hg hb hs
def Quz {D:Hp} (lo:Int) (n:Nat):IsL D (Qkc lo n) (Qad lo n):=by
 unfold Qkc Qad
 have:∀ l:List Nat,IsL D (l.map fun i=>V.int (lo+(i:Nat))) (l.map fun i=>T.int (lo+(i:Nat))):=fun l=>by
  induction l with
  | nil=>exact .nil
  | cons x xs ih=>exact .cons Is.int ih
 exact this _
def g_tupR (hm:X.mg "tuple" = none) (hv:bootBuiltins "tuple" = some (.type "tuple")) (fO:X.mg "range" = none) (gc:bootBuiltins "range" = some (.type "range")) (hc:X.calm=true) (ha:QE X a (tE p a')) (hg:Gl X "tuple" := by rfl) (gL:Gl X "range" := by rfl) (h1:Qr a=true:=by rfl) :
  QE X (.Call (.Name "tuple" p1) [.Call (.Name "range" p2) [a] [] p3] [] pos) (tE p (.tupR false a')) :=
 (Qp1 (Q8g hc) hm hv (Qas (Qp1 Qp8 fO gc (Qas ha Qby h1) gL (by decide) (by decide) h1 rfl) Qby rfl) hg (by decide) (by decide) rfl rfl).weak fun σ H Q ⟨G,ρ,F,h⟩=>by
  unfold evE at h
  refine ⟨G,ρ,F,h.bind.imp fun r ρ1 h1 v H1 G1 F1 r1=>?_⟩
  cases r with
  | ow t=>exact Zfb h1
  | sl i=>exact Zfb h1
  | fz t =>
   cases t <;> first | exact Zfb h1 | skip
   rename_i j
   obtain rfl:=r1.is.int_inv
   replace h1:Fin p (Qan H G σ ρ) σ (if j.natAbs≤100000 then .ok (if false=true then PV.ow (.lst (Qad 0 j.toNat)) else .fz (.tup (Qad 0 j.toNat))) ρ1 else .no) _:=h1
   by_cases z:j.natAbs≤100000
   ·rw [Zb z] at h1
    refine ⟨j,rfl,fun q hq=>⟨q,0,j,rfl,Qt,⟨by decide,by decide,by omega,by omega⟩,by omega,fun l hl=>?_⟩⟩
    have F2:=F1.grow (Same.upd (o:=.rng 0 j) hq)
    refine h1 _ _ G1 (F2.grow (Same.upd hl)) ?_
    rw [show (j-0).toNat=j.toNat by omega]
    exact Qd2 (F2.prv.mono (Same.upd hl)) Qt (Quz 0 j.toNat) (by unfold Qad;rw [Zf,Zac];omega)
   ·rw [Zd z] at h1;exact Zfb h1
def Q87 (hm:X.mg "list" = none) (hv:bootBuiltins "list" = some (.type "list")) (fO:X.mg "range" = none) (gc:bootBuiltins "range" = some (.type "range")) (hc:X.calm=true) (ha:QE X a (tE p a')) (hg:Gl X "list" := by rfl) (gL:Gl X "range" := by rfl) (h1:Qr a=true:=by rfl) :
  QE X (.Call (.Name "list" p1) [.Call (.Name "range" p2) [a] [] p3] [] pos) (tE p (.tupR true a')) :=
 (Qp1 (Q8h hc) hm hv (Qas (Qp1 Qp8 fO gc (Qas ha Qby h1) gL (by decide) (by decide) h1 rfl) Qby rfl) hg (by decide) (by decide) rfl rfl).weak fun σ H Q ⟨G,ρ,F,h⟩=>by
  unfold evE at h
  refine ⟨G,ρ,F,h.bind.imp fun r ρ1 h1 v H1 G1 F1 r1=>?_⟩
  cases r with
  | ow t=>exact Zfb h1
  | sl i=>exact Zfb h1
  | fz t =>
   cases t <;> first | exact Zfb h1 | skip
   rename_i j
   obtain rfl:=r1.is.int_inv
   replace h1:Fin p (Qan H G σ ρ) σ (if j.natAbs≤100000 then .ok (if true=true then PV.ow (.lst (Qad 0 j.toNat)) else .fz (.tup (Qad 0 j.toNat))) ρ1 else .no) _:=h1
   by_cases z:j.natAbs≤100000
   ·rw [Zb z,Zb rfl] at h1
    refine ⟨j,rfl,fun q hq=>⟨q,0,j,rfl,Qt,⟨by decide,by decide,by omega,by omega⟩,by omega,fun l hl=>?_⟩⟩
    have F2:=F1.grow (Same.upd (o:=.rng 0 j) hq)
    rw [show (j-0).toNat=j.toNat by omega]
    obtain ⟨F3,r3⟩:=Qhh F2 hl (Same.upd hl) Qt (Quz 0 j.toNat) (by unfold Qad;rw [Zf,Zac];omega)
    exact h1 _ _ _ F3 r3
   ·rw [Zd z] at h1;exact Zfb h1
end
end L2
set_option maxHeartbeats 2000000
namespace L2
open PySem PySem.Spec PyProof.Rows PySem.W PySem.Calls
variable {X:Cx} {p:Pr} {st:Fs}
end L2
namespace L2
open PySem PySem.Spec PyProof.Rows PySem.W PySem.Calls
section
variable {X:Cx} {aa:List (Fw×Obj)} {σ σ0:St} {H H0:Hp} {s s0:Fy}
end
section
variable {X:Cx} {x:Str} {ps:List Str} {k:Nat} {sp:Sp} {e eb:Fr} {te:TE} {p1 p2 k1 k2 pos:Pos}
end
section
variable {X:Cx} {p:Pr} {f:Nat} {e':E} {K:Fz}
end
section
variable {X:Cx} {p:Pr} {f k:Nat} {e':E} {x:Str} {ps:List Str} {e:Fr} {p1 p2 k1 k2 kp pos:Pos}
end
end L2
namespace L2
open PySem PySem.Spec PyProof.Rows PySem.W PySem.Calls
def Qno {f:Slot→Slot} (hf:f .un=.un) (ρ:En) (j:Nat):Qa (ρ.map f) j=f (Qa ρ j):=by
 unfold Qa
 rw [Z8]
 cases ρ[j]? with
 | none=>exact hf.symm
 | some s=>rfl
def Qh4 {ρ ρ1:En} (h:ρ1.length=ρ.length) (j:Nat):Qa (List.zipWith lkB ρ ρ1) j=lkB (Qa ρ j) (Qa ρ1 j):=by
 unfold Qa
 by_cases hj:j<ρ.length
 ·have h1:j<ρ1.length:=by omega
  rw [Za hj,Za h1,Za (by rw [Zdm];omega),List.getElem_zipWith]
 ·have h0:(List.zipWith lkB ρ ρ1)[j]?=none:=Zbd (by rw [Zdm];omega)
  have h1:ρ[j]?=none:=Zbd (by omega)
  have h2:ρ1[j]?=none:=Zbd (by omega)
  rw [h0,h1,h2]
  rfl
section
variable {X:Cx} {p:Pr} {st:Fs} {B:Bs} {H H1:Hp} {G G1:Fw→Prop} {σ σ1:St} {ρ ρ1:En} {i:Nat} {ts:List T}
def Qql {f:Slot→Bool} (hf:f .un=true) (h:ρ.all f=true) (j:Nat):f (Qa ρ j)=true:=by
 unfold Qa
 cases e:ρ[j]? with
 | none=>exact hf
 | some s=>exact Z1.mp h s (Z2 e)
abbrev lkE (i:Nat) (ts:List T) (ρ:En):En:=(ρ.set i (.fz (.lst ts))).map lkS
def Qok (hi:i<ρ.length) (j:Nat):Qa (lkE i ts ρ) j=if j=i then .fx (.lst ts) else lkS (Qa ρ j):=by
 rw [Qno rfl,Qh]
 by_cases e:j=i
 ·rw [Zb ⟨e,hi⟩,Zb e];rfl
 ·rw [Zd (fun z=>e z.1),Zd e]
def FI.look (F:FI B H G σ ρ) (hO:∀ a,¬ B.O a) (hs:Qa ρ i=.ow (.lst ts)) (hk:(ρ.set i .un).all Qmm=true) :
  ∃ a G',σ[i]?=some (some (.ref a))∧G a∧B.H a=none∧(∀ b,G' b↔G b∧b≠a)∧FI ⟨B.H,B.G,B.O,B.M,PnA σ (lkE i ts ρ)⟩ H G' σ (lkE i ts ρ):=by
 have hi:i<ρ.length:=Qhi (by rw [hs];intro z;cases z)
 have q:=F.slot i
 rw [hs] at q
 obtain ⟨a,e,g,ob,ea,il⟩:=q
 have hb:B.H a=none:=by
  rcases F.newO a ⟨i,_,hs,e⟩ with z | z
  ·exact z
  ·exact (hO a z).elim
 have ok:∀ j,j≠i→Qmm (Qa ρ j)=true:=fun j hj=>by
  have:=Qql rfl hk j
  rwa [Qh,Zd (fun z=>hj z.1)] at this
 have sub:Same (dls H G) (dls H fun b=>G b∧b≠a):=Qce fun b h=>h.1
 refine ⟨a,fun b=>G b∧b≠a,e,g,hb,fun b=>Iff.rfl,?_⟩
 have fP:∀ j c,¬ PrvAt σ (lkE i ts ρ) j c:=fun j c h=>by
  obtain ⟨⟨u,h⟩,_⟩:=h
  rw [Qok hi] at h
  by_cases z:j=i
  ·rw [Zb z] at h;cases h
  ·rw [Zd z] at h
   have k:=ok j z
   cases ay:Qa ρ j <;> rw [ay] at h k <;> first | (cases h;done) | (cases k;done) | skip
   rename_i t
   have h:(if Qwo t=true then Slot.fx t else Slot.fz t).prv=some u:=h
   by_cases r:Qwo t=true
   ·rw [Zb r] at h;cases h
   ·rw [Zd r] at h;cases h
 exact {
  len:=by rw [Zf,Z6];exact F.len
  slot:=fun j=>by
   rw [Qok hi]
   by_cases z:j=i
   ·rw [Zb z,z]
    refine ⟨a,ob,e,by rw [Qba fun y=>y.2 rfl];exact ea,il.is (by rw [Qba fun y=>y.2 rfl];exact ea) sub⟩
   ·rw [Zd z]
    have q:=F.slot j
    have k:=ok j z
    cases ay:Qa ρ j <;> rw [ay] at q k <;> first | (cases k;done) | trivial | exact q | skip
    rename_i t
    obtain ⟨v,ev,iv⟩:=q
    have iv:=iv.mono sub
    by_cases r:Qwo t=true
    ·show Qiq _ _ _ _ (if Qwo t=true then _ else _)
     rw [Zb r]
     cases t <;> first | (cases r;done) | skip
     ·obtain ⟨c,vs,rfl,hc,_⟩:=iv.tup_inv;exact ⟨c,_,ev,hc,iv⟩
     ·obtain ⟨c,vs,rfl,hc,_⟩:=iv.lst_inv;exact ⟨c,_,ev,hc,iv⟩
    ·show Qiq _ _ _ _ (if Qwo t=true then _ else _)
     rw [Zd r]
     exact ⟨v,ev,iv⟩
  apart:=fun j k c h _=>(fP j c h).elim
  prv:=fun b h=>F.prv b h.1
  chg:=F.chg
  keep:=F.keep
  newO:=fun c h=>let ⟨j,h⟩:=OwA.prv h;(fP j c h).elim
  newM:=fun c h=>let ⟨j,h⟩:=MlA.prv h;(fP j c h).elim
  fix:=fun _ _ h=>h
  gg:=fun b h=>⟨F.gg b h,fun z=>by obtain ⟨o,e⟩:=F.bp b h;rw [z,hb] at e;cases e⟩
  gn:=fun b h=>F.gn b h.1
  bp:=F.bp }
def Qnp (s0 s1:Slot):(∃ t,s1=.fx t∧lkB s0 s1=s0)∨(∃ t,s1=.fz t∧Qwn t=true∧lkB s0 s1=.fz t)∨(∃ a,s1=.pin a∧lkB s0 s1=.pin a)∨lkB s0 s1=.un:=by
 cases s1 with
 | fx t=>exact .inl ⟨t,rfl,rfl⟩
 | fz t =>
  by_cases h:Qwn t=true
  ·exact .inr (.inl ⟨t,rfl,h,Zb h⟩)
  ·exact .inr (.inr (.inr (Zd h)))
 | pin a=>exact .inr (.inr (.inl ⟨a,rfl,rfl⟩))
 | un=>exact .inr (.inr (.inr rfl))
 | ow t=>exact .inr (.inr (.inr rfl))
 | ml t=>exact .inr (.inr (.inr rfl))
 | ro t=>exact .inr (.inr (.inr rfl))
def Qu0 {D D1:Hp} {v:V} {t:T} (h:flaT t=true) (r:Is D v t):Is D1 v t:=by
 cases t <;> first | (cases h;done) | (unfold Is at r ⊢;exact r)
def Qqm {D D1:Hp}:∀ {ts:List T} {vs:List V},ts.all flaT=true→IsL D vs ts→IsL D1 vs ts
 | [],vs,_,r=>by rw [r.nil_inv];exact .nil
 | t::ts,vs,h,r=>by
  rw [Za7,Zm] at h
  obtain ⟨v,w,rfl,a,b⟩:=r.cons_inv
  exact .cons (Qu0 h.1 a) (Qqm h.2 b)
def Qzs {D D1:Hp} {v:V} {t:T} (h:Qwn t=true) (k:∀ b xs,D b=some (.tup xs)→D1 b=some (.tup xs)) (r:Is D v t):Is D1 v t:=by
 cases t with
 | tup ts =>
  have z:ts.length≤100000:=by unfold Is at r;exact r.1
  obtain ⟨b,vs,rfl,e,l⟩:=r.tup_inv
  exact .tup (k b vs e) (Qqm h l) z
 | _=>exact Qu0 h r
def FI.unlook {a:Fw} {G':Fw→Prop} (F:FI B H G σ ρ) (hO:∀ a,¬ B.O a) (hs:Qa ρ i=.ow (.lst ts)) (hk:(ρ.set i .un).all Qmm=true) (ea:σ[i]?=some (some (.ref a))) (ga:G a) (hb:B.H a=none) (hG:∀ b,G' b↔G b∧b≠a)
  (F1:FI ⟨B.H,B.G,B.O,B.M,PnA σ (lkE i ts ρ)⟩ H1 G1 σ1 ρ1) (s1:Same (dls H G') (dls H1 G1)) (hx:Q26 (Qa ρ1 i)=true) (hl:ρ1.length=ρ.length) :
  FI B H1 (fun b=>G1 b∨b=a) σ1 (List.zipWith lkB ρ ρ1)∧Same (dls H G) (dls H1 fun b=>G1 b∨b=a):=by
 have hi:i<ρ.length:=Qhi (by rw [hs];intro z;cases z)
 have ok:∀ j,j≠i→Qmm (Qa ρ j)=true:=fun j hj=>by
  have:=Qql rfl hk j
  rwa [Qh,Zd (fun z=>hj z.1)] at this
 obtain ⟨ob,eo,il⟩:∃ ob,H a=some ob∧OwnO (dls H G) (.lst ts) ob:=by
  have q:=F.slot i
  rw [hs] at q
  obtain ⟨c,e,_,ob,eo,il⟩:=q
  rw [ea] at e
  cases e
  exact ⟨ob,eo,il⟩
 have a0:dls H G' a=some ob:=by rw [Qba fun z=>((hG a).mp z).2 rfl];exact eo
 obtain ⟨na,a1⟩:=Qv (s1 _ _ a0)
 have sm:Same (dls H G) (dls H1 fun b=>G1 b∨b=a):=fun b o e=>by
  obtain ⟨nb,e⟩:=Qv e
  have j4:b≠a:=fun z=>nb (z ▸ ga)
  have e2:dls H G' b=some o:=by rw [Qba fun z=>nb ((hG b).mp z).1];exact e
  obtain ⟨n1,e3⟩:=Qv (s1 _ _ e2)
  rw [Qba fun z=>z.elim n1 j4]
  exact e3
 have fW:∀ j t,Qa ρ1 j=.fx t→∃ c,σ1[j]?=some (some (.ref c))∧σ[j]?=some (some (.ref c)):=fun j t e=>by
  have q:=F1.slot j
  rw [e] at q
  obtain ⟨c,o,ec,_,_⟩:=q
  have:=F1.fix j c ⟨⟨t,.inr (.inr e)⟩,ec⟩
  exact ⟨c,ec,this.2⟩
 have iB:∀ j t,Qa ρ1 j=.fx t→j≠i→∃ u,Qa ρ j=.fz u:=fun j t e hj=>by
  obtain ⟨c,ec,_⟩:=fW j t e
  obtain ⟨⟨u,z⟩,_⟩:=F1.fix j c ⟨⟨t,.inr (.inr e)⟩,ec⟩
  rw [Qok hi,Zd hj] at z
  have k:=ok j hj
  cases ay:Qa ρ j with
  | fz u=>exact ⟨u,rfl⟩
  | un=>rw [ay] at z;rcases z with z | z | z <;> cases z
  | ow t=>rw [ay] at k;cases k
  | ml t=>rw [ay] at k;cases k
  | ro t=>rw [ay] at k;cases k
  | pin a=>rw [ay] at z;rcases z with z | z | z <;> cases z
  | fx t=>rw [ay] at k;cases k
 have ei:Qa (List.zipWith lkB ρ ρ1) i=.ow (.lst ts):=by
  rw [Qh4 hl,hs]
  cases h:Qa ρ1 i <;> rw [h] at hx <;> first | (cases hx;done) | rfl
 have ai:σ1[i]?=some (some (.ref a)):=by
  cases h:Qa ρ1 i <;> rw [h] at hx <;> first | (cases hx;done) | skip
  obtain ⟨c,ec,fI⟩:=fW i _ h
  rw [ea] at fI
  cases fI
  exact ec
 have bR:∀ j,j≠i→Qa (List.zipWith lkB ρ ρ1) j=.un∨(∃ t,Qa (List.zipWith lkB ρ ρ1) j=.fz t)∨∃ c,Qa (List.zipWith lkB ρ ρ1) j=.pin c:=fun j hj=>by
  rw [Qh4 hl]
  rcases Qnp (Qa ρ j) (Qa ρ1 j) with ⟨t,e1,e2⟩ | ⟨t,e1,f,e2⟩ | ⟨c,e1,e2⟩ | e2
  ·obtain ⟨u,e3⟩:=iB j t e1 hj
   rw [e2,e3]
   exact .inr (.inl ⟨u,rfl⟩)
  ·rw [e2];exact .inr (.inl ⟨t,rfl⟩)
  ·rw [e2];exact .inr (.inr ⟨c,rfl⟩)
  ·rw [e2];exact .inl rfl
 have only:∀ j c,PrvAt σ1 (List.zipWith lkB ρ ρ1) j c→j=i∧c=a:=fun j c h=>by
  obtain ⟨⟨u,h⟩,q⟩:=h
  by_cases hj:j=i
  ·subst hj;rw [ai] at q;cases q;exact ⟨rfl,rfl⟩
  ·rcases bR j hj with z | ⟨t,z⟩ | ⟨c,z⟩ <;> rw [z] at h <;> cases h
 refine ⟨?_,sm⟩
 exact {
  len:=by rw [Zdm,F1.len];omega
  slot:=fun j=>by
   by_cases hj:j=i
   ·subst hj
    rw [ei]
    exact ⟨a,ai,.inr rfl,ob,a1,il.mono sm⟩
   ·rw [Qh4 hl]
    rcases Qnp (Qa ρ j) (Qa ρ1 j) with ⟨t,e1,e2⟩ | ⟨t,e1,f,e2⟩ | ⟨c,e1,e2⟩ | e2
    ·obtain ⟨u,e3⟩:=iB j t e1 hj
     obtain ⟨c,ec,fI⟩:=fW j t e1
     rw [e2,e3]
     have q:=F.slot j
     rw [e3] at q
     obtain ⟨v,ev,iv⟩:=q
     rw [fI] at ev
     cases ev
     exact ⟨_,ec,iv.mono sm⟩
    ·rw [e2]
     have q:=F1.slot j
     rw [e1] at q
     obtain ⟨v,ev,iv⟩:=q
     exact ⟨v,ev,Qzs f (fun b xs e=>by
      obtain ⟨n1,e3⟩:=Qv e
      have nb:b≠a:=fun z=>by
       rw [z,a1] at e3
       cases e3
       exact il
      rw [Qba fun z=>z.elim n1 nb]
      exact e3) iv⟩
    ·rw [e2]
     have q:=F1.slot j
     rw [e1] at q
     exact q
    ·rw [e2];trivial
  apart:=fun j k c h1 h2=>by rw [(only j c h1).1,(only k c h2).1]
  prv:=fun b h=>by
   rcases h with h | h
   ·exact F1.prv b h
   ·rw [h];exact ⟨ob,a1,il.pen⟩
  chg:=F1.chg
  keep:=F1.keep
  newO:=fun c h=>by
   obtain ⟨j,h⟩:=OwA.prv h
   rw [(only j c h).2]
   exact .inl hb
  newM:=fun c h=>by
   obtain ⟨j,t,e,q⟩:=h
   by_cases hj:j=i
   ·subst hj;rw [ei] at e;cases e
   ·rcases bR j hj with z | ⟨t,z⟩ | ⟨c,z⟩ <;> rw [z] at e <;> cases e
  fix:=fun j c h=>by
   obtain ⟨⟨t,e⟩,q⟩:=h
   by_cases hj:j=i
   ·subst hj;rw [ei] at e;rcases e with e | e | e <;> cases e
   ·rcases bR j hj with z | ⟨t,z⟩ | ⟨c,z⟩ <;> rw [z] at e <;> rcases e with e | e | e <;> cases e
  gg:=fun b h=>.inl (F1.gg b h)
  gn:=fun b h=>by
   rcases h with h | h
   ·exact F1.gn b h
   ·rw [h];exact .inr hb
  bp:=F1.bp }
def Q88 {s:S} (h:QS X st (tS p s)):QS X st (tS p (.look i s)):=h.weak fun D σ H ⟨B,G,ρ,F,hO,h⟩=>by
 unfold exS at h
 cases hs:Qa ρ i with
 | un=>rw [hs] at h;exact Zfb h
 | fz t=>rw [hs] at h;exact Zfb h
 | ml t=>rw [hs] at h;exact Zfb h
 | ro t=>rw [hs] at h;exact Zfb h
 | pin t=>rw [hs] at h;exact Zfb h
 | fx t=>rw [hs] at h;exact Zfb h
 | ow t =>
  rw [hs] at h
  cases t <;> first | exact Zfb h | skip
  rename_i ts
  replace h:SFin p B H G D (if (ρ.set i .un).all Qmm=true then lkO i ρ (exS p.cf s (lkE i ts ρ)) else .no):=h
  by_cases hk:(ρ.set i .un).all Qmm=true
  ·rw [Zb hk] at h
   obtain ⟨a,G',ea,ga,hb,hG,F0⟩:=F.look hO hs hk
   refine ⟨_,G',_,F0,hO,?_⟩
   cases e:exS p.cf s (lkE i ts ρ) with
   | nx ρ1 =>
    rw [e] at h
    replace h:SFin p B H G D (if Q26 (Qa ρ1 i)=true∧ρ1.length=ρ.length then .nx (List.zipWith lkB ρ ρ1) else .no):=h
    by_cases c:Q26 (Qa ρ1 i)=true∧ρ1.length=ρ.length
    ·rw [Zb c] at h
     intro σ1 H1 G1 F1 s1
     obtain ⟨F2,s2⟩:=F.unlook hO hs hk ea ga hb hG F1 s1 c.1 c.2
     exact h σ1 H1 _ F2 s2
    ·rw [Zd c] at h;exact Zfb h
   | rt r ρ1 =>
    rw [e] at h
    cases r with
    | ow t=>exact Zfb h
    | sl j=>exact Zfb h
    | fz t =>
     cases t <;> first | exact Zfb h | skip
     rename_i b
     replace h:SFin p B H G D (.rt (.fz (.bl b)) (ρ1.map fun _=>.un)):=h
     intro v σ1 H1 G1 F1 pv
     have un:∀ j,Qa (ρ1.map fun _=>Slot.un) j=.un:=fun j=>by rw [Qno rfl]
     refine h v σ1 H1 G1 ?_ pv
     exact {
      len:=by rw [Zf];exact F1.len
      slot:=fun j=>by rw [un];trivial
      apart:=fun j k c h1 _=>by obtain ⟨⟨u,z⟩,_⟩:=h1;rw [un] at z;cases z
      prv:=F1.prv
      chg:=F1.chg
      keep:=F1.keep
      newO:=fun c z=>by obtain ⟨j,t,e,_⟩:=z;rw [un] at e;cases e
      newM:=fun c z=>by obtain ⟨j,t,e,_⟩:=z;rw [un] at e;cases e
      fix:=fun j c z=>by obtain ⟨⟨t,e⟩,_⟩:=z;rw [un] at e;rcases e with e | e | e <;> cases e
      gg:=F1.gg
      gn:=F1.gn
      bp:=F1.bp }
   | bk ρ1=>rw [e] at h;exact Zfb h
   | ct ρ1=>rw [e] at h;exact Zfb h
   | xn x ρ1=>rw [e] at h;exact Zfb h
   | no=>rw [e] at h;exact Zfb h
  ·rw [Zd hk] at h;exact Zfb h
end
section
variable {X:Cx} {p:Pr} {e a b:Fr} {e' a' b':E} {pos p1 p2 bW:Pos} {x:Str}
end
section
variable {P:Fu} {w:Ft} {H:Hp}
open Classical in
def Qkk {s:Fy} {A:Fv} {ts:List T} {vs:List V} {ac:List Fx} {tx:T} {u:Fx} (i1:IsL H vs ts) (r1:Vals vs ac) (ok:HOk P w H s.heap) (h1:ts.all (Ql 49)=true) (h2:Ql 49 tx=true) (sx:Shp P w H s.heap tx u) (hu:A.units+64<cLine) :
  ∃ e:Fx→Bool,(∀ y,y∈ac.toArray→SeqAt.EqAt A.in1 s y u (e y))∧ac.toArray.any e=ts.any fun t=>eqT t tx:=by
 have ax:∀ (j:Nat) (y:Fx),ac[j]?=some y→∃ t,ts[j]?=some t∧SeqAt.EqAt A.in1 s y u (eqT t tx):=fun j y hy=>by
  have hj:j<ac.length:=by
   rcases Zbx j ac.length with z | z
   ·exact z
   ·rw [Zbd z] at hy;cases hy
  have l1:j<vs.length:=by rw [r1.length];exact hj
  obtain ⟨y',iI,ry⟩:=r1.get (Za l1)
  rw [hy] at iI
  cases iI
  obtain ⟨t,ht,it⟩:=i1.get (Za l1)
  exact ⟨t,ht,Qyl 49 ok (by show A.units+1+49<cLine;omega) t tx y u (Z1.mp h1 t (Z2 ht)) h2 (it.shp ry ok) sx⟩
 have len:ac.length=ts.length:=by rw [←r1.length,i1.length]
 refine ⟨fun y=>decide (∃ (j:Nat) (t:T),ac[j]?=some y∧ts[j]?=some t∧eqT t tx=true),fun y hy=>?_,?_⟩
 ·have hy:y∈ac:=by simpa using hy
  obtain ⟨j,hj⟩:=List.getElem?_of_mem hy
  obtain ⟨t,ht,et⟩:=ax j y hj
  show SeqAt.EqAt A.in1 s y u (decide (∃ (j:Nat) (t:T),ac[j]?=some y∧ts[j]?=some t∧eqT t tx=true))
  by_cases z:∃ (j:Nat) (t:T),ac[j]?=some y∧ts[j]?=some t∧eqT t tx=true
  ·rw [Zaf z]
   obtain ⟨k,t',hk,cg,e'⟩:=z
   obtain ⟨t2,e2,q⟩:=ax k y hk
   rw [cg] at e2
   cases e2
   rw [e'] at q
   exact q
  ·rw [Z4 z]
   have:eqT t tx=false:=by
    cases e:eqT t tx with
    | false=>rfl
    | true=>exact absurd ⟨j,t,hj,ht,e⟩ z
   rw [this] at et
   exact et
 ·rw [Zbv]
  constructor
  ·intro z
   have z:ac.any (fun y=>decide (∃ (j:Nat) (t:T),ac[j]?=some y∧ts[j]?=some t∧eqT t tx=true))=true:=by simpa only [List.any_toArray] using z
   obtain ⟨y,hy,z⟩:=Zca.mp z
   obtain ⟨j,t,_,ht,et⟩:=Zbj z
   exact Zca.mpr ⟨t,Z2 ht,et⟩
  ·intro z
   obtain ⟨t,ht,et⟩:=Zca.mp z
   obtain ⟨j,hj⟩:=List.getElem?_of_mem ht
   have hl:j<ac.length:=by
    rw [len]
    rcases Zbx j ts.length with z | z
    ·exact z
    ·rw [Zbd z] at hj;cases hj
   have:ac.any (fun y=>decide (∃ (j:Nat) (t:T),ac[j]?=some y∧ts[j]?=some t∧eqT t tx=true))=true :=
    Zca.mpr ⟨ac[j],Zcw hl,Zaf ⟨j,t,Za hl,hj,et⟩⟩
   simpa only [List.any_toArray] using this
end
section
variable {X:Cx} {p:Pr} {a b:Fr} {a' b':E} {pos:Pos}
def Q3r (neg:Bool):R2:=fun x y H Q=>∃ t t' ts,Is H x t∧Is H y t'∧Qcc t'=some ts∧Ql 49 t=true∧ts.all (Ql 49)=true∧Q (.bl (if neg then !(ts.any fun u=>eqT u t) else ts.any fun u=>eqT u t)) H
def Q5w (hu:X.A.units+64<cLine):QOp X (compareOp .In) (Q3r false):=⟨by
 intro aa s σ H x y v u Q I rx ry ⟨t,t',ts,i,j,hs,h1,h2,q⟩
 have s1:=i.shp rx I.hok (P:=X.prog) (w:=X.w)
 have s2:=j.shp ry I.hok (P:=X.prog) (w:=X.w)
 cases s2 <;> first | (cases hs;done) | skip
 ·rename_i j1 i1 r1 p1
  cases hs
  obtain ⟨e,he,hq⟩:=Qkk i1 r1 I.hok h2 h1 s1 hu
  exact SeqAt.in_tupleAt e p1 he ⟨.bl _,H,I,rfl,by rw [hq];exact q⟩
 ·rename_i j1 i1 r1 p1
  cases hs
  obtain ⟨e,he,hq⟩:=Qkk i1 r1 I.hok h2 h1 s1 hu
  exact SeqAt.in_listAt e p1 he ⟨.bl _,H,I,rfl,by rw [hq];exact q⟩⟩
def Q89 (hu:X.A.units+64<cLine):QOp X (compareOp .NotIn) (Q3r true):=⟨by
 intro aa s σ H x y v u Q I rx ry ⟨t,t',ts,i,j,hs,h1,h2,q⟩
 have s1:=i.shp rx I.hok (P:=X.prog) (w:=X.w)
 have s2:=j.shp ry I.hok (P:=X.prog) (w:=X.w)
 cases s2 <;> first | (cases hs;done) | skip
 ·rename_i j1 i1 r1 p1
  cases hs
  obtain ⟨e,he,hq⟩:=Qkk i1 r1 I.hok h2 h1 s1 hu
  exact SeqAt.notIn_tupleAt e p1 he ⟨.bl _,H,I,rfl,by rw [hq];exact q⟩
 ·rename_i j1 i1 r1 p1
  cases hs
  obtain ⟨e,he,hq⟩:=Qkk i1 r1 I.hok h2 h1 s1 hu
  exact SeqAt.notIn_listAt e p1 he ⟨.bl _,H,I,rfl,by rw [hq];exact q⟩⟩
def Qu1 {t u:T} {k:Bool} (e:inO t u=some k):∃ ts,Qcc u=some ts∧Ql 49 t=true∧ts.all (Ql 49)=true∧k=ts.any fun u=>eqT u t:=by
 unfold inO at e
 cases es:Qcc u with
 | none=>rw [es] at e;cases e
 | some ts =>
  rw [es] at e
  have e:(if Ql 49 t=true∧ts.all (Ql 49)=true then some (ts.any fun u=>eqT u t) else none)=some k:=e
  by_cases z:Ql 49 t=true∧ts.all (Ql 49)=true
  ·rw [Zb z] at e
   exact ⟨ts,rfl,z.1,z.2,(Zo e).symm⟩
  ·rw [Zd z] at e;cases e
def Qzt:Oc2 (Q3r false) (opC .inn):=by
 intro H G x y t u k Q hx hy e q
 obtain ⟨ts,h1,h2,h3,rfl⟩:=Qu1 (show inO t u=some k from e)
 exact ⟨t,u,ts,hx.is,hy.is,h1,h2,h3,q⟩
def Q3s:Oc2 (Q3r true) (opC .nin):=by
 intro H G x y t u k Q hx hy e q
 have e:(inO t u).map (!·)=some k:=e
 cases e0:inO t u with
 | none=>rw [e0] at e;cases e
 | some k0 =>
  rw [e0] at e
  obtain ⟨ts,h1,h2,h3,rfl⟩:=Qu1 e0
  have e:=Zo e
  subst e
  exact ⟨t,u,ts,hx.is,hy.is,h1,h2,h3,q⟩
def g_in (hu:X.A.units+64<cLine) (ha:QE X a (tE p a')) (hb:QE X b (tE p b')) (hm:behindInMarks .In b=false:=by rfl):QE X (.Compare a [.In] [b] pos) (tE p (.cmp .inn a' b')):=Qne (Q5w hu) Qzt ha hb hm
def t_in (hu:X.A.units+64<cLine) (ha:QE X a (tE p a')) (hb:QE X b (tE p b')) (hm:behindInMarks .In b=false:=by rfl):QT X (.Compare a [.In] [b] pos) (tT p (.cmp .inn a' b')):=Qj0 (Q5w hu) Qzt ha hb hm
def Qzu (hu:X.A.units+64<cLine) (ha:QE X a (tE p a')) (hb:QE X b (tE p b')) (hm:behindInMarks .NotIn b=false:=by rfl):QT X (.Compare a [.NotIn] [b] pos) (tT p (.cmp .nin a' b')):=Qj0 (Q89 hu) Q3s ha hb hm
end
section
variable {X:Cx} {k v:Fr} {tk tv:TE} {pos:Pos}
end
section
variable {X:Cx} {p:Pr} {a b:Fr} {a' b':E} {pos:Pos}
end
section
variable {prog:Fu} {w:Ft} {A:Fv} {E:Fx→Fy→Prop} {s:Fy}
end
section
variable {X:Cx}
end
end L2
namespace L2
open PySem PySem.Spec PyProof.Rows PySem.W
section
variable {prog:Fu} {w:Ft} {A:Fv} {E:Fx→Fy→Prop} {s:Fy} {it d:Fw} {i ep:Nat} {es:Array DictEntry}
end
section
variable {X:Cx}
end
section
variable {prog:Fu} {w:Ft} {A:Fv} {E:Fx→Fy→Prop} {h:Fq} {g:Array GenState} {d:Drawn} {t:Nat} {os:OsState} {a:Fw} {ac:Array Fx} {n:Nat}
end
section
variable {prog:Fu} {w:Ft} {A:Fv} {E:Fx→Fy→Prop} {s:Fy}
end
section
variable {X:Cx}
end
section
variable {prog:Fu} {w:Ft} {A:Fv} {E:Fx→Fy→Prop} {s:Fy} {l:Fw} {xs:Array (Int×Tok)}
end
section
variable {X:Cx}
end
section
variable {prog:Fu} {w:Ft} {A:Fv} {E:Fx→Fy→Prop} {s:Fy} {l:Fw} {xs:Array (Int×Tok)}
end
section
variable {X:Cx}
end
end L2
namespace L2
open PySem PySem.Spec PyProof.Rows PySem.W PySem.Calls
section
variable {prog:Fu} {w:Ft} {A:Fv} {E:Fx→Fy→Prop} {s:Fy}
def Asks (prog:Fu) (w:Ft) (A:Fv) (vs:List Fx) (lt:Nat→Nat→Bool) (s:Fy):Prop :=
 ∃ κ:SortKind,(∀ Q:SortKind→Fy→Prop,Q κ s→wpAny (model prog w) A (keyKind' vs.toArray) Q (fun _ _=>False) s)∧∀ i j C,i<vs.length→j<vs.length→C (lt i j) s→kas_ask prog w A κ vs i j C s
def Qzv {a:Fw} {vs:List Fx} {lt:Nat→Nat→Bool} {n:Nat} {P:PySem.Fin→Fy→Prop} (ho:s.heap.get? a=some (seqObj "list" vs.toArray n)) (fy:vs.length<64)
  (hq:2≤vs.length→∀ s':Fy,(∀ b o,b≠a→s.heap.get? b=some o→s'.heap.get? b=some o)→Asks prog w A vs lt s')
  (h:P (.done (.ret .none)) { s with heap:=sortedHeap s.heap a vs (Qdd vs Value.none (Qfw vs.length lt)).toArray }):wpAny (model prog w) A (Builtin.«list.sort» ⟨[.ref a],[]⟩) P E s:=by
 rw [list_sort_plain]
 have ha:a<s.heap.objs.size:=Zj ho
 refine Zc (listItems_at ho rfl ?_)
 refine Zc (Ze4 ho rfl ?_ (by rw [Zp,Zau];omega) (Zbb _))
 obtain ⟨e1,fE⟩:∃ e1,(s.heap.update a (Obj.mapSeq fun _=>(#[]:Array Fx))).get? a=some (seqObj "list" #[] e1):=⟨_,get?_update_seq ho fun _=>#[]⟩
 refine Zc (seqEpoch_at fE rfl ?_)
 refine Zc (wpAny_newTuple ?_ (by show vs.length≤_;rw [Zau];omega))
 refine Zc (wpAny_newList ?_ (Zbb _))
 refine Zcg ?_
 have fq:(((s.heap.update a (Obj.mapSeq fun _=>#[])).push (seqObj "tuple" vs.toArray 0)).push (seqObj "list" #[] 0)).get? a=some (seqObj "list" #[] e1):=by
  rw [Zby _ _ _ (by rw [Ze6,Zb4];exact Zv (Zbi ha)),Zby _ _ _ (by rw [Zb4];exact Zv ha)]
  exact fE
 show wpAny (model prog w) A _ P E { s with heap:=((s.heap.update a (Obj.mapSeq fun _=>#[])).push (seqObj "tuple" vs.toArray 0)).push (seqObj "list" #[] 0) }
 dsimp only
 by_cases h2:vs.toArray.size<2
 ·have cC:vs.length<2:=by simpa using h2
  have eo:Qdd vs Value.none (Qfw vs.length lt)=vs:=by
   unfold Qdd Qfw
   rw [Zb cC]
   refine List.ext_getElem (by simp) fun i h1 h2=>?_
   rw [List.getElem_map,List.getElem_range]
   simp [h2]
  rw [eo] at h
  rw [Zb h2,Zb h2]
  refine Zc (Zs ?_)
  rw [StateT.run_pure]
  refine Zc (Zs ?_)
  dsimp only
  have ez:(vs.toArray.zip vs.toArray).map (·.2)=vs.toArray:=by
   apply Array.toList_inj.mp
   simp [List.map_snd_zip]
  rw [ez]
  refine Zc (seqEpoch_at fq rfl ?_)
  refine Zc (Ze4 fq rfl ?_ (Zbb _) (by rw [Zp,Zau];omega))
  simp only [bne_self_eq_false,Zaa,Za2]
  exact Zs h
 ·have cC:2≤vs.length:=by simpa using h2
  rw [Zd h2,Zd h2]
  obtain ⟨κ,hκ,gA⟩:=hq cC { s with heap:=((s.heap.update a (Obj.mapSeq fun _=>#[])).push (seqObj "tuple" vs.toArray 0)).push (seqObj "list" #[] 0) } fun b o hb e=>by
   have av:b<s.heap.objs.size:=Zj e
   show (((s.heap.update a (Obj.mapSeq fun _=>#[])).push (seqObj "tuple" vs.toArray 0)).push (seqObj "list" #[] 0)).get? b=some o
   rw [Zby _ _ _ (by rw [Ze6,Zb4];exact Zv (Zbi av)),Zby _ _ _ (by rw [Zb4];exact Zv av),Heap.get?_update_ne _ _ _ _ hb]
   exact e
  refine Zc (Zbl (hκ (fun κ' s'=>κ'=κ∧s'=_) ⟨rfl,rfl⟩) ?_ fun _ _ x=>x.elim)
  rintro κ' s' ⟨rfl,rfl⟩
  refine Zc (Zbl (kat_run (κ:=κ') (Q:=fun bJ s'=>s'={ s with heap:=((s.heap.update a (Obj.mapSeq fun _=>#[])).push (seqObj "tuple" vs.toArray 0)).push (seqObj "list" #[] 0) }∧arrOf bJ=(Qa5 lt (kas_sort vs.length)).map (kas_item (vs.toArray.zip vs.toArray))∧failedOf bJ=none∧(Qa5 lt (kas_sort vs.length)).size=vs.length)
   (G:=fun p s'=>p=Qa5 lt (kas_sort vs.length)∧s'={ s with heap:=((s.heap.update a (Obj.mapSeq fun _=>#[])).push (seqObj "tuple" vs.toArray 0)).push (seqObj "list" #[] 0) }) rfl cC fy (fun p' bJ s' a1 a2 a3 a4=>by
    obtain ⟨rfl,rfl⟩:=a4
    exact ⟨rfl,a2,a3,a1⟩) (Qub (n:=vs.length) (P:=Bd vs.length) gA _ (Qoc (by omega)) fun _=>⟨rfl,rfl⟩)) ?_ fun _ _ e=>e)
  rintro ⟨⟨⟩,bJ⟩ s' ⟨rfl,jt,hf,hp⟩
  dsimp only
  have gI:(arrOf bJ).map (·.2)=(Qdd vs Value.none (Qfw vs.length lt)).toArray:=by
   have e:=kat_snds (ks:=vs) (vs:=vs) rfl jt
   rw [e]
   unfold Qdd Qfw
   rw [Zd (by omega)]
  have aE:(Qdd vs Value.none (Qfw vs.length lt)).toArray.size=vs.length:=by
   unfold Qdd Qfw
   rw [Zd (by omega),Zp,Zf,Zz,hp]
  rw [gI]
  refine Zc (seqEpoch_at fq rfl ?_)
  refine Zc (Ze4 fq rfl ?_ (Zbb _) (Zav (Zek aE) (by rw [Zau];omega)))
  rw [hf]
  simp only [bne_self_eq_false,Zaa,Za2]
  exact Zs h
end
inductive TupsI (h:Fq):List Fx→List (List Int)→Prop
 | nil:TupsI h [] []
 | cons {a:Fw} {ac:List Fx} {k:List Int} {vs:List Fx} {ks:List (List Int)} (ht:h.IsTuple a ac.toArray) (hi:IntsAre ac k) (t:TupsI h vs ks):TupsI h (.ref a::vs) (k::ks)
section
variable {prog:Fu} {w:Ft} {A:Fv} {E:Fx→Fy→Prop} {s:Fy}
def Qu2 (prog:Fu) (w:Ft) (s:Fy) (x:Fx) (vs:List Fx) (A:Fv):Prop :=
 ∀ (Q:List Fx→Fy→Prop) (E:Fx→Fy→Prop),(∀ h' tk,(∀ b o,s.heap.get? b=some o→h'.get? b=some o)→s.heap.objs.size≤h'.objs.size→Q vs { s with heap:=h',toks:=tk })→wpAny (model prog w) A (collect x) Q E s
def Qol {l:Fw} {vs:List Fx} (hl:s.heap.IsList l vs.toArray) (hz:vs.length≤1000):Qu2 prog w s (.ref l) vs A:=fun Q E h =>
 collect_list hl (h _ s.toks (fun b o e=>by
  have av:b<s.heap.objs.size:=Zj e
  rw [Heap.get?_update_ne _ _ _ _ (Zv av),Zby _ _ _ (Zv av)]
  exact e) (by rw [Zb4,Ze6];exact Zew _)) (by rw [Zau];omega)
end
inductive TupsV (K:Fz) (H:Hp):List V→List (List Int)→Prop
 | nil:TupsV K H [] []
 | cons {b:Fw} {k:List Int} {ys:List V} {ks:List (List Int)} (hq:SqT K H b (k.map V.int)) (t:TupsV K H ys ks):TupsV K H (.ref b::ys) (k::ks)
def Qnq {xs:List V} {us:List Fx} (r:Vals xs us):∀ (is:List Nat),(∀ i∈is,i<xs.length)→Vals (Qdd xs V.non is) (Qdd us Value.none is)
 | [],_=>.nil
 | i::is,h=>by
  have hi:=h i (.head _)
  obtain ⟨u,e,q⟩:=Vals.get r (Za hi)
  refine .cons ?_ (Qnq r is fun j hj=>h j (.tail _ hj))
  show RelV (xs.getD i V.non) (us.getD i Value.none)
  rw [Zn,Zn,e,Za hi]
  exact q
section
variable {X:Cx}
def Qqn {α:Type} (xs:List α) (d:α) (is:List Nat):(Qdd xs d is).length=is.length:=by unfold Qdd;rw [Zf]
def Q3t {aa:List (Fw×Obj)} {σ:St} {H:Hp} {s:Fy} (I:Inv X aa σ H s) {ys:List V} {us:List Fx} {is:List Nat} {Q:VK} (q:∀ l,H l=none→Q (.ref l) (upd H l (.lst (Qdd ys V.non is)))) {h':Fq} {tk l c:Nat}
  (hk:∀ b o,s.heap.get? b=some o→h'.get? b=some o) (hl:s.heap.objs.size≤l) (r:Vals ys us) (hi:∀ i∈is,i<ys.length) (hz:is.length≤100000) (hc:h'.get? l=some (seqObj "list" (Qdd us Value.none is).toArray c)) :
  ∃ x H',Inv X aa σ H' { s with heap:=h',toks:=tk }∧RelV x (Value.ref l)∧Q x H' :=
 ⟨.ref l,_,I.laid (o:=.lst (Qdd ys V.non is)) (t':=tk) hk hl ⟨by rw [Qqn,Zau];omega,_,c,Qnq r is hi,hc⟩,rfl,q _ (I.hok.fresh hl)⟩
def Qqo {D:Hp} {ws:List V} {ts:List T} (r:IsL D ws ts):∀ (is:List Nat),(∀ i∈is,i<ws.length)→IsL D (Qdd ws V.non is) (Qdd ts T.non is)
 | [],_=>IsL.nil
 | i::is,h=>by
  have hi:=h i (.head _)
  obtain ⟨t,e,a⟩:=IsL.get r (Za hi)
  have c:Is D (ws.getD i V.non) (ts.getD i T.non):=by
   rw [Zn,Zn,e,Za hi]
   exact a
  exact IsL.cons c (Qqo r is fun j hj=>h j (.tail _ hj))
def Qzw {α β:Type} (f:α→β) {ks:List α} {d:α} {d':β} {is:List Nat} (h:∀ i∈is,i<ks.length):Qdd (ks.map f) d' is=(Qdd ks d is).map f:=by
 unfold Qdd
 rw [Zbz]
 refine Zck fun i hi=>?_
 have:=h i hi
 show (ks.map f).getD i d'=f (ks.getD i d)
 rw [Zn,Zn,Z8,Za this]
 rfl
def Qqp (ks:List (List Int)):(Qdo ks).length=ks.length:=by unfold Qdo;rw [Qqn,Qqa]
end
end L2
namespace L2
open PySem PySem.Spec PyProof.Rows PySem.W PySem.Calls
inductive PairI (h:Fq):List Fx→List (List Int)→Prop
 | nil:PairI h [] []
 | cons {a b:Fw} {i:Int} {tk:Tok} {ac:List Fx} {k:List Int} {vs:List Fx} {ks:List (List Int)} (ha:h.IsTuple a #[.int i tk,.ref b]) (hb:h.IsTuple b ac.toArray) (hi:IntsAre ac k) (t:PairI h vs ks):PairI h (.ref a::vs) ((i::k)::ks)
def PairI.kept {h h':Fq} {vs:List Fx} {ks:List (List Int)} (t:PairI h vs ks) (hk:∀ a o,h.get? a=some o→h'.get? a=some o):PairI h' vs ks:=by
 induction t with
 | nil=>exact .nil
 | cons ha hb hi t ih =>
  obtain ⟨o,e,r⟩:=ha
  obtain ⟨o2,e2,r2⟩:=hb
  exact .cons ⟨o,hk _ o e,r⟩ ⟨o2,hk _ o2 e2,r2⟩ hi ih
def PairI.at {h:Fq} {vs:List Fx} {ks:List (List Int)} (t:PairI h vs ks):∀ {n:Nat},n<vs.length→∃ a b i tk ac k,vs.getD n Value.none=.ref a∧h.IsTuple a #[.int i tk,.ref b]∧h.IsTuple b ac∧IntsAre ac.toList k∧ks.getD n []=i::k:=by
 induction t with
 | nil=>intro i hi;cases hi
 | cons ha hb hi t ih =>
  intro n hn
  cases n with
  | zero=>exact ⟨_,_,_,_,_,_,rfl,ha,hb,hi,rfl⟩
  | succ n =>
   obtain ⟨a,b,i,tk,ac,k,e,r⟩:=ih (n:=n) (by simpa using hn)
   exact ⟨a,b,i,tk,ac,k,by simpa using e,by simpa using r⟩
section
variable {prog:Fu} {w:Ft} {A:Fv} {E:Fx→Fy→Prop} {s:Fy}
def Q3u {h:Fq} {vs:List Fx} {ks:List (List Int)} (t:PairI h vs ks):∃ fs,KatTups h vs fs∧fs.length=vs.length∧∀ v∈fs,∃ i t,v=Value.int i t:=by
 induction t with
 | nil=>exact ⟨[],KatTups.nil,rfl,fun v hv=>(nomatch hv)⟩
 | @cons a b i tk ac k vs ks ha hb hi t ih =>
  obtain ⟨fs,h1,h2,h3⟩:=ih
  obtain ⟨o,ho,hc,n,hd⟩:=ha
  exact ⟨.int i tk::fs,KatTups.cons ho hc hd (by simp) h1,by rw [Zh,Zh,h2],fun v hv=>by
   rcases Z7.mp hv with rfl | hv
   ·exact ⟨_,_,rfl⟩
   ·exact h3 v hv⟩
def Qlo:∀ {us:List Fx} {k:List Int},IntsAre us k→us.length=k.length∧∀ (j:Nat) (h:j<us.length),∃ t,us[j]=Value.int (k.getD j 0) t
 | _,_,.nil=>⟨rfl,fun j h=>absurd h (by simp)⟩
 | _,_,.cons n t r=>by
  obtain ⟨e,g⟩:=Qlo r
  refine ⟨by rw [Zh,Zh,e],fun j h=>?_⟩
  cases j with
  | zero=>exact ⟨t,rfl⟩
  | succ j=>exact g j (by simpa using h)
def Qzx:∀ (k l:List Int),((List.range (min k.length l.length)).all (fun j=>k.getD j 0==l.getD j 0)&&(k.length==l.length))=decide (k=l)
 | [],[]=>rfl
 | [],_::_=>by simp
 | _::_,[]=>by simp
 | x::k,y::l=>by
  have ih:=Qzx k l
  rw [Zh,Zh,Nat.succ_min_succ,Zeo,Za7,List.all_map]
  have e:((List.range (min k.length l.length)).all ((fun j=>(x::k).getD j 0==(y::l).getD j 0) ∘ Nat.succ))=(List.range (min k.length l.length)).all (fun j=>k.getD j 0==l.getD j 0):=rfl
  have e2:(k.length+1==l.length+1)=(k.length==l.length):=by simp
  rw [e,e2,Bool.and_assoc,ih]
  show ((x==y)&&_)=_
  by_cases h1:x=y <;> by_cases h2:k=l <;> simp [h1,h2]
def Qac6 {b c:Fw} {ac ak:Array Fx} {k l:List Int} (hb:s.heap.IsTuple b ac) (hc:s.heap.IsTuple c ak) (hx:IntsAre ac.toList k) (hy:IntsAre ak.toList l) (hu:A.units<cLine):SeqAt.EqAt A s (.ref b) (.ref c) (decide (k=l)):=by
 by_cases hbc:b=c
 ·subst hbc
  have:ac=ak:=by
   obtain ⟨o,e,_,n,d⟩:=hb
   obtain ⟨o2,e2,_,n2,d2⟩:=hc
   rw [e] at e2
   cases e2
   rw [d] at d2
   injection d2
  subst this
  have:k=l:=by
   have:∀ {us:List Fx} {k l:List Int},IntsAre us k→IntsAre us l→k=l:=by
    intro us k l h
    induction h generalizing l with
    | nil=>intro h';cases h';rfl
    | cons n t r ih =>
     intro h'
     cases h' with
     | cons _ _ r'=>rw [ih r']
   exact this hx hy
  rw [Zaf this]
  exact SeqAt.EqAt.same _
 ·obtain ⟨l1,g1⟩:=Qlo hx
  obtain ⟨l2,g2⟩:=Qlo hy
  have jw:ac.size=k.length:=by rw [←Zz];exact l1
  have j7:ak.size=l.length:=by rw [←Zz];exact l2
  have ax:=SeqAt.RcAt.tuples (e:=fun j=>k.getD j 0==l.getD j 0) hb hc hu (fun j h1 h2=>by
   obtain ⟨t,e1⟩:=g1 j (by rw [Zz];exact h1)
   obtain ⟨u,e2⟩:=g2 j (by rw [Zz];exact h2)
   rw [Array.getElem_toList] at e1 e2
   rw [e1,e2]
   exact Zct _ _ _ _)
  rw [jw,j7,Qzx] at ax
  exact SeqAt.EqAt.of_refs hbc ax
def Q9a {vs:List Fx} {ks:List (List Int)} (hu:A.units+4<cLine) (t:PairI s.heap vs ks) (h2:2≤vs.length) :
  Asks prog w A vs (fun i j=>HT.lexLt (ks.getD i []) (ks.getD j [])) s:=by
 obtain ⟨fs,f1,f2,f3⟩:=Q3u t
 refine ⟨tuples' true,fun Q q=>?_,fun i j C hi hj hC=>?_⟩
 ·refine kat_kind (T:=.type "int") f1 (by omega) (fun v hv=>?_) (by decide) q
  obtain ⟨i,tk,rfl⟩:=f3 v hv
  exact .now
 ·obtain ⟨a,b,x,tk,ac,k,e1,ht,hb,hx,ek⟩:=t.at hi
  obtain ⟨a2,b2,y,gW,ak,l,e2,j9,cB,hy,el⟩:=t.at hj
  unfold kas_ask
  rw [e1,e2]
  have hC:C (HT.lexLt (ks.getD i []) (ks.getD j [])) s:=hC
  rw [ek,el,HT.lexLt_cons] at hC
  obtain ⟨o,ho,_,n,hd⟩:=ht
  obtain ⟨o2,a7,_,n2,b8⟩:=j9
  refine kat_lt ho hd a7 b8 ?_
  show KatLex prog w A true (decide (2<2)) C [(.int x tk,.int y gW),(.ref b,.ref b2)] 0 s
  refine kat_cons (Zct x tk y gW prog w _ _ ?_)
  by_cases h:x=y
  ·rw [Zb h] at hC
   rw [show (x==y)=true from by simp [h]]
   refine kat_yes (kat_cons (Qac6 hb cB hx hy (by omega) prog w _ _ ?_))
   by_cases hkl:k=l
   ·subst hkl
    rw [Zaf rfl]
    refine kat_yes (kat_nil ?_)
    have:HT.lexLt k k=false:=by
     clear hC hx hy ek el
     induction k with
     | nil=>rfl
     | cons x k ih=>rw [HT.lexLt_cons,Zb rfl];exact ih
    rw [this] at hC
    exact hC
   ·rw [Z4 hkl]
    exact kat_no (kat_one _ _ (HT.lt_tupInts hb cB hx hy (by omega) hC))
  ·rw [Zd h] at hC
   rw [show (x==y)=false from by simp [h]]
   exact kat_no (oneLt_int hC)
def Qsy {x:Fx} {vs:List Fx} {ks:List (List Int)} {Q:Fx→Fy→Prop} (hu:A.units+16<cLine) (hg:Qu2 prog w s x vs A.in1) (t:PairI s.heap vs ks) (fy:vs.length<64)
  (h:∀ h' tk l c,(∀ b o,s.heap.get? b=some o→h'.get? b=some o)→s.heap.objs.size≤l→h'.get? l=some (seqObj "list" (Qdd vs Value.none (Qfw vs.length fun i j=>HT.lexLt (ks.getD i []) (ks.getD j []))).toArray c)→Q (.ref l) { s with heap:=h',toks:=tk }) :
  wpAny (model prog w) A (call (.builtin "sorted") [x]) Q E s:=by
 refine Calls.call_function_entry kind_sorted plain_sorted entry_sorted (args_sorted1 _) ?_
 unfold Builtin.«sorted»
 refine Zc (m:=checkCount "sorted" 1 1 _) (Zs ?_)
 refine Zc (hg _ _ fun h' tk hk hz=>?_)
 refine Zc (wpAny_newList ?_ (by rw [Zau];omega))
 have eG:(h'.push (seqObj "list" vs.toArray 0)).get? h'.objs.size=some (seqObj "list" vs.toArray 0):=Zt _ rfl
 show wpAny _ _ _ _ _ { s with heap:=h'.push (seqObj "list" vs.toArray 0),toks:=tk }
 refine Zc (Zcg (Zb2 slot_list_sort ⟨_,eG,rfl⟩ entry_list_sort (Qzv (lt:=fun i j=>HT.lexLt (ks.getD i []) (ks.getD j [])) (s:={ s with heap:=h'.push (seqObj "list" vs.toArray 0),toks:=tk }) eG fy (fun h2 s' f7=>?_) ⟨_,rfl,?_⟩) (args_list_sort _)))
 ·refine Q9a (by show A.units+1+1+4<cLine;omega) (t.kept fun a o e=>?_) h2
  have av:a<h'.objs.size:=Zj (hk a o e)
  exact f7 a o (Zv av) (Zg _ (hk a o e))
 ·obtain ⟨c,hc⟩:=sortedHeap_at (out:=(Qdd vs Value.none (Qfw vs.length fun i j=>HT.lexLt (ks.getD i []) (ks.getD j []))).toArray) eG
  refine Zs ⟨_,rfl,h _ tk _ c (fun b o e=>?_) hz hc⟩
  have av:b<h'.objs.size:=Zj (hk b o e)
  show (sortedHeap (h'.push (seqObj "list" vs.toArray 0)) h'.objs.size vs _).get? b=some o
  rw [sortedHeap_old (Zv av) (by rw [Ze6];exact Zbi av),Zby _ _ _ (Zv av)]
  exact hk b o e
end
inductive PairV (K:Fz) (H:Hp):List V→List (List Int)→Prop
 | nil:PairV K H [] []
 | cons {a b:Fw} {i:Int} {k:List Int} {ys:List V} {ks:List (List Int)} (ha:SqT K H a [.int i,.ref b]) (hb:SqT K H b (k.map V.int)) (t:PairV K H ys ks):PairV K H (.ref a::ys) ((i::k)::ks)
def PairV.len {K:Fz} {H:Hp} {ys:List V} {ks:List (List Int)} (t:PairV K H ys ks):ys.length=ks.length:=by
 induction t with
 | nil=>rfl
 | cons _ _ _ ih=>rw [Zh,Zh,ih]
section
variable {X:Cx}
def PairV.pairs {aa:List (Fw×Obj)} {σ:St} {H:Hp} {s:Fy} (I:Inv X aa σ H s) {ys:List V} {ks:List (List Int)} (t:PairV X.K H ys ks):∀ {us:List Fx},Vals ys us→PairI s.heap us ks:=by
 induction t with
 | nil=>intro us r;cases r;exact .nil
 | cons ha hb t ih =>
  intro us r
  cases r with
  | cons q r =>
   cases q
   obtain ⟨ac,r',pl,hz⟩:=I.tuple ha
   obtain ⟨ak,r2,jF,ig⟩:=I.tuple hb
   cases r' with
   | cons q1 r1 =>
    cases r1 with
    | cons q2 r3 =>
     cases r3
     obtain ⟨tk,rfl⟩:=q1
     cases q2
     exact .cons pl jF (Qft r2) (ih r)
def Qzy (K:Fz):List V→Hp→VK→Prop:=fun xs H Q=>∃ p ys ks,xs=[.ref p]∧SqL K H p ys∧PairV K H ys ks∧ks.length<64∧∀ l,H l=none→Q (.ref l) (upd H l (.lst (Qdd ys V.non (Qfw ks.length (ltK ks)))))
def Qwr (K:Fz) (hK:X.K=K) (hu:X.A.units+64<cLine):CallR X (.builtin "sorted") (Qzy K):=by
 subst hK
 intro aa s σ H xs us Q I r h
 obtain ⟨p,ys,ks,rfl,hq,tv,fy,q⟩:=h
 obtain ⟨u,rfl,rx⟩:=Qgk r
 cases rx
 obtain ⟨ac,r',pl,hz⟩:=I.list hq
 have hl:=r'.length
 have hk:=tv.len
 have cm:ks.length=ac.length:=by rw [←hk,hl]
 refine Qsy (by omega) (Qol pl.isList (by omega)) (tv.pairs I r') (by omega) fun h' tk l c cg ce hc=>?_
 rw [←cm] at hc
 exact Q3t I q cg ce r' (fun i hi=>by have:=Qod _ i hi;omega) (by rw [Qqa];omega) hc
def Q9b (K:Fz) (hK:X.K=K) (hu:X.A.units+64<cLine):QCl X (.builtin "sorted") (Qzy K):=⟨Qwr K hK hu⟩
def Qlp:∀ (a:List T) {ks:List (List Int)},Qe6 a=some ks→a=ks.map Qcu∧∀ k∈ks,k≠[]
 | [],ks,h=>by
  have h:some []=some ks:=h
  cases h
  exact ⟨rfl,fun k hk=>(nomatch hk)⟩
 | t::ts,ks,h=>by
  unfold Qe6 at h
  split at h
  ·rename_i he;cases he
  ·rename_i i us ts' he
   cases he
   cases h1:Qb8 us with
   | none=>rw [h1] at h;cases h
   | some k =>
    cases h2:Qe6 ts with
    | none=>rw [h1,h2] at h;cases h
    | some ks' =>
     rw [h1,h2] at h
     cases h
     obtain ⟨e,g⟩:=Qlp ts h2
     refine ⟨by rw [Zaq,←e,Qei h1];rfl,fun k hk=>?_⟩
     rcases Z7.mp hk with rfl | hk
     ·exact List.cons_ne_nil _ _
     ·exact g k hk
  ·cases h
def Qqq {K:Fz} {H:Hp} {G:Fw→Prop}:∀ {ks:List (List Int)} {ws:List V},(∀ k∈ks,k≠[])→IsL (dls H G) ws (ks.map Qcu)→PairV K H ws ks
 | [],ws,_,r=>by rw [r.nil_inv];exact .nil
 | []::ks,ws,h,r=>absurd rfl (h [] (.head _))
 | (i::k)::ks,ws,h,r=>by
  rw [Zaq] at r
  obtain ⟨x,w,rfl,a,r2⟩:=r.cons_inv
  obtain ⟨p,vs,rfl,hp,il⟩:=Is.tup_inv (show Is (dls H G) x (.tup [.int i,.tup (k.map T.int)]) from a)
  obtain ⟨x1,w1,rfl,a1,r3⟩:=il.cons_inv
  obtain ⟨x2,w2,rfl,a2,r4⟩:=r3.cons_inv
  rw [r4.nil_inv] at hp
  obtain ⟨p2,jY,rfl,jv,fv⟩:=a2.tup_inv
  have ev:=IsL.ints_inv fv
  subst ev
  have e1:x1=.int i:=by unfold Is at a1;exact a1
  subst e1
  exact .cons (.inl (.inl (Qv hp).2)) (.inl (.inl (Qv jv).2)) (Qqq (fun k hk=>h k (.tail _ hk)) r2)
def Q3v (K:Fz):Ob (Qzy K) .srtP:=by
 intro B H G σ ρ vs ts w Q F r e q
 match ts,e,r with
 | [.lst a],e,r =>
  obtain ⟨v,rfl,h⟩:=r.one
  obtain ⟨l,ws,rfl,z,el,rl⟩:=h.lst
  have e:(match Qe6 a with | some ks=>(if ks.length<64 then some (PV.ow (.lst ((Qdo ks).map Qcu))) else none) | none=>none)=some w:=e
  cases h1:Qe6 a with
  | none=>rw [h1] at e;cases e
  | some ks =>
   rw [h1] at e
   have e:(if ks.length<64 then some (PV.ow (.lst ((Qdo ks).map Qcu))) else none)=some w:=e
   by_cases zz:ks.length<64
   ·rw [Zb zz] at e
    cases e
    obtain ⟨em,am⟩:=Qlp a h1
    rw [em] at rl
    refine ⟨l,ws,ks,rfl,SqL.of el,Qqq am rl,zz,fun l2 cm=>?_⟩
    have hl:=rl.length
    rw [Zf] at hl
    have ip:=Qqo rl (Qfw ks.length (ltK ks)) fun i hi=>by have:=Qod _ i hi;omega
    rw [Qzw (d:=[]) _ fun i hi=>Qod _ i hi] at ip
    obtain ⟨F2,r2⟩:=Qhh F cm (Same.upd cm) Qt (ts:=(Qdo ks).map Qcu) ip (by rw [Zf,Qqp];omega)
    exact q _ _ _ F2 r2
   ·rw [Zd zz] at e;cases e
end
end L2
namespace L2
open PySem PySem.Spec PyProof.Rows PySem.W PySem.Calls
section
variable {prog:Fu} {w:Ft} {A:Fv} {E:Fx→Fy→Prop} {s:Fy}
def elt (vs:List Fx) (ks:List (List Int)) (j:Nat):Int×Fx:=(Quf (Qnc ks j),vs.getD j Value.none)
structure MOk (ks:List (List Int)) (led:Bool) (r:SetTable×Array Nat):Prop where
 fits:r.1.fits r.2.size=true
 plain:r.1.plain=true
 gave:r.1.gaveWay=false
 led:r.1.led=led
 size:r.2.size≤1000
 lt:∀ x∈r.2,x<ks.length
end
section
variable {prog:Fu} {w:Ft} {A:Fv} {R:Result→Fy→Prop} {I:Fw} {fp wr:List Fw} {G:Array GenState→Array GenState→Prop} {n:Nat} {P:Nat→Fx→Prop} {St:Nat→Fy→Prop}
end
section
variable {prog:Fu} {w:Ft} {A:Fv} {E:Fx→Fy→Prop} {s:Fy}
end
end L2
namespace L2
open PySem PySem.Spec PyProof.Rows PySem.W PySem.Calls
section
variable {prog:Fu} {w:Ft} {A:Fv} {E:Fx→Fy→Prop} {s:Fy}
end
section
variable {X:Cx}
end
section
variable {H H1:Hp} {b:Fw} {o:HO}
end
section
variable {X:Cx}
def Qmn (n:Int) (v:Fx):Bool:=match v with
 | .int m _=>m==n
 | _=>false
def Qsz {n:Int}:∀ {is:List Int} {j:Nat},ixI n is=some j→is[j]?=some n∧∀ m,m<j→is[m]?≠some n
 | [],j,h=>by cases h
 | i::is,j,h=>by
  unfold ixI at h
  by_cases e:i=n
  ·rw [Zb e] at h
   cases h
   exact ⟨by rw [e];rfl,fun m hm=>absurd hm (Nat.not_lt_zero _)⟩
  ·rw [Zd e] at h
   cases h2:ixI n is with
   | none=>rw [h2] at h;cases h
   | some k =>
    rw [h2] at h
    cases h
    obtain ⟨a,b⟩:=Qsz h2
    refine ⟨a,fun m hm=>?_⟩
    cases m with
    | zero=>intro z;exact e (Zo z)
    | succ m=>rw [Zl];exact b m (Nat.lt_of_succ_lt_succ hm)
def Qom:V→List V→Hp→VK→Prop:=fun x vs H Q=>∃ (l:Fw) (is:List Int) (n:Int) (j:Nat),x=.ref l∧vs=[.int n]∧H l=some (.lst (is.map V.int))∧is.length≤1000∧ixI n is=some j∧Q (.int (j:Nat)) H
def Qws:MtM X "list.index" Qom:=by
 intro aa s σ H x vs v us Q I rx rv h
 obtain ⟨l,is,n,j,rfl,rfl,hH,hz,hj,q⟩:=h
 obtain ⟨hj,eI⟩:=Qsz hj
 cases rx
 obtain ⟨u,rfl,ru⟩:=rv.one
 obtain ⟨tk,rfl⟩:=ru
 obtain ⟨z,ac,c,r,hl,e⟩:=I.lstM hH
 have ia:=Qft r
 have ah:=r.length
 rw [Zf] at ah
 have jR:j<is.length:=(Ze.mp hj).1
 have cS:∀ (m:Nat) (hm:m<ac.length),∃ t,ac[m]=.int (is.getD m 0) t:=fun m hm=>IntsAre.int_at ia m _ (Za hm)
 refine Za9 F.slot_list_index ⟨_,e,rfl⟩ F.entry_list_index (F.args_list_index_2 _ _) (SeqAt.list_indexAt l _ c none #[] (.int n tk) (Qmn n) j (by simp;omega) (by omega) ?_ ?_) ⟨e,fun y hy=>?_,⟨.int _,H,I.tok _,⟨_,rfl⟩,q⟩⟩
 ·obtain ⟨t,et⟩:=cS j (by omega)
  have e1:is.getD j 0=n:=by rw [Zn,hj];rfl
  show Qmn n (ac.toArray[j]'(by simp;omega))=true
  rw [Zcl,et,e1]
  unfold Qmn
  simp
 ·intro m hm gb
  have cF:m<ac.length:=by simpa using hm
  obtain ⟨t,et⟩:=cS m cF
  have e1:is.getD m 0≠n:=fun z=>eI m gb (by rw [Za (show m<is.length by omega)];rw [Zn,Za (show m<is.length by omega)] at z;exact congrArg some z)
  show Qmn n (ac.toArray[m]'hm)=false
  rw [Zcl,et]
  unfold Qmn
  simpa using e1
 ·have hy:y∈ac:=by simpa using hy
  obtain ⟨m,hm,rfl⟩:=Zdd.mp hy
  obtain ⟨t,et⟩:=cS m hm
  rw [et]
  exact Zct _ t n tk
def Qlq:V→List V→Hp→VK→Prop:=fun x vs H Q=>∃ (l:Fw) (is:List Int) (n:Int) (j:Nat),x=.ref l∧vs=[.int n]∧H l=some (.lst (is.map V.int))∧ixI n is=some j∧Q .non (upd H l (.lst ((is.map V.int).eraseIdx j)))
def Qs0:MtM X "list.remove" Qlq:=by
 intro aa s σ H x vs v us Q I rx rv h
 obtain ⟨l,is,n,j,rfl,rfl,hH,hj,q⟩:=h
 obtain ⟨hj,eI⟩:=Qsz hj
 cases rx
 obtain ⟨u,rfl,ru⟩:=rv.one
 obtain ⟨tk,rfl⟩:=ru
 obtain ⟨z,ac,c,r,hl,e⟩:=I.lstM hH
 have ia:=Qft r
 have ah:=r.length
 have eB:=ah
 rw [Zf] at ah
 have jR:j<is.length:=(Ze.mp hj).1
 have cS:∀ (m:Nat) (hm:m<ac.length),∃ t,ac[m]=.int (is.getD m 0) t:=fun m hm=>IntsAre.int_at ia m _ (Za hm)
 have hz:ac.toArray.size≤sizeLine:=by rw [Zp,←eB];exact z
 refine Za9 F.slot_list_remove ⟨_,e,rfl⟩ F.entry_list_remove (F.args_list_remove_2 _ _) (MeetsSeq.list_remove l _ c (.int n tk) (Qmn n) (fun y hy=>?_) j (by simp;omega) ?_ ?_ hz) ⟨e,?_⟩
 ·have hy:y∈ac:=by simpa using hy
  obtain ⟨m,hm,rfl⟩:=Zdd.mp hy
  obtain ⟨t,et⟩:=cS m hm
  rw [et]
  exact MeetsSeq.EqGives.int _ n t tk
 ·obtain ⟨t,et⟩:=cS j (by omega)
  have e1:is.getD j 0=n:=by rw [Zn,hj];rfl
  show Qmn n (ac.toArray[j]'(by simp;omega))=true
  rw [Zcl,et,e1]
  unfold Qmn
  simp
 ·intro m hm gb
  have cF:m<ac.length:=by simpa using hm
  obtain ⟨t,et⟩:=cS m cF
  have e1:is.getD m 0≠n:=fun z=>eI m gb (by rw [Za (show m<is.length by omega)];rw [Zn,Za (show m<is.length by omega)] at z;exact congrArg some z)
  show Qmn n (ac.toArray[m]'hm)=false
  rw [Zcl,et]
  unfold Qmn
  simpa using e1
 ·refine ⟨.non,_,I.lset (its':=ac.eraseIdx j) hH e ?_ (r.eraseIdx j) ?_,rfl,q⟩
  ·show ac.toArray.eraseIdxIfInBounds j=(ac.eraseIdx j).toArray
   rw [List.eraseIdxIfInBounds_toArray]
  ·have:=Zeg (is.map V.int) j
   omega
def Qwt:QMt X "list.remove" Qlq:=⟨Qs0⟩
def Qzz:QMt X "list.index" Qom:=⟨Qws⟩
def Qon:V→List V→Hp→VK→Prop:=fun x vs H Q=>∃ (l:Fw) (xs:List V) (i:Nat) (y:V),x=.ref l∧vs=[.int (i:Int),y]∧H l=some (.lst xs)∧i≤xs.length∧xs.length<1000000∧Q .non (upd H l (.lst (xs.take i++y::xs.drop i)))
def Qqr {y:V} {u:Fx} (h:RelV y u):∀ {xs:List V} {ac:List Fx},Vals xs ac→∀ i:Nat,Vals (xs.take i++y::xs.drop i) (ac.take i++u::ac.drop i)
 | _,_,r,0=>.cons h r
 | _,_,.nil,i+1=>.cons h .nil
 | _,_,.cons a r,i+1=>.cons a (Qqr h r i)
def Qu3 {α:Type} (xs:List α) (i:Nat) (y:α):(xs.take i++y::xs.drop i).length=xs.length+1:=by
 rw [Zq,Zh,Zcv,Zdb]
 omega
def Q3w (ac:List Fx) (u:Fx) {i:Nat} (hi:i≤ac.length):((ac.toArray.extract 0 i).push u++ac.toArray.extract i)=(ac.take i++u::ac.drop i).toArray:=by
 apply Array.toList_inj.mp
 simp
 rw [Zeq (by rw [Zdb];omega)]
def insS (l:Fw) (items:Array Fx) (n:Nat) (x:Int) (y:Fx):PySem.Spec:=fun _ R s=>s.heap.get? l=some { cls:=.type "list",dict:=none,data:=.seq items n,slots:=#[] }∧R (.ok (.ret Value.none)) { s with heap:=s.heap.update l (Obj.mapSeq fun xs=>have k:=if x<0 then (x+((xs.size:Nat):Int)).toNat else min x.toNat xs.size;(xs.extract 0 k).push y++xs.extract k),toks:=s.toks }
def Qwu (l:Fw) (items:Array Fx) (n:Nat) (x:Int) (u:Tok) (y:Fx) (gE:¬(!Builtin.List.listFitsIndex x)=true) (aE:items.size≤sizeLine):Meets (Builtin.«list.insert» ⟨[.ref l,.int x u,y],[]⟩) (insS l items n x y):=@PySem.AutoListH.list_insert_list_int_val_1 l items n x u y gE aE
def Qwv:MtM X "list.insert" Qon:=by
 intro aa s σ H x vs v us Q I rx rv h
 obtain ⟨l,xs,i,y,rfl,rfl,hH,hi,hz,q⟩:=h
 cases rx
 cases rv with
 | cons r1 rv =>
  cases rv with
  | @cons _ u _ _ ru rn =>
  cases rn
  obtain ⟨tk,rfl⟩:=r1
  obtain ⟨z,ac,n,r,hl,e⟩:=I.lstM hH
  have ah:=r.length
  have jn:Builtin.List.listFitsIndex (i:Int)=true:=by
   unfold Builtin.List.listFitsIndex
   rw [Zm,Z5,Z5]
   exact ⟨by omega,by omega⟩
  have gE:¬(!Builtin.List.listFitsIndex (i:Int))=true:=by rw [jn];exact Zk
  have aE:ac.toArray.size≤sizeLine:=by rw [Zp,Zau];omega
  have mm:=@Qwu l ac.toArray n (i:Int) tk u gE aE
  have ty:s.TypeIs (.ref l) "list" := ⟨_,e,rfl⟩
  have ar:=F.args_list_insert_3 (.ref l) (.int (i:Int) tk) u
  refine @Za9 X.prog X.w X.A X.xe s "list" "insert" "list.insert" Builtin.«list.insert» (.ref l) [.int (i:Int) tk,u] (insS l ac.toArray n (i:Int) u) _ F.slot_list_insert ty F.entry_list_insert ar @mm ?_
  refine ⟨e,?_⟩
  refine ⟨.non,_,I.lset (its':=ac.take i++u::ac.drop i) hH e ?_ (Qqr ru r i) ?_,rfl,q⟩
  ·show (ac.toArray.extract 0 (if (i:Int)<0 then ((i:Int)+((ac.toArray.size:Nat):Int)).toNat else min (i:Int).toNat ac.toArray.size)).push u++ac.toArray.extract (if (i:Int)<0 then ((i:Int)+((ac.toArray.size:Nat):Int)).toNat else min (i:Int).toNat ac.toArray.size)=_
   rw [Zd (by omega),Zaw,Nat.min_eq_left (by rw [Zp];omega)]
   exact Q3w ac u (by omega)
  ·rw [Qu3,Zau];omega
def Qz0:QMt X "list.insert" Qon:=⟨Qwv⟩
end
section
variable {X:Cx} {p:Pr} {e a b:Fr} {e' a' k':E} {st:Fs} {pos p1 a9:Pos} {x:Str} {K:Fz}
def IsL.ins {D:Hp} {v:V} {t:T} (hv:Is D v t):∀ {vs:List V} {ts:List T} (n:Nat),IsL D vs ts→IsL D (vs.take n++v::vs.drop n) (Qml ts n t)
 | vs,ts,0,r=>.cons hv r
 | vs,[],n+1,r=>by rw [r.nil_inv];exact .cons hv .nil
 | vs,u::us,n+1,r=>by
  obtain ⟨w,ws,rfl,a,q⟩:=r.cons_inv
  exact .cons a (IsL.ins hv n q)
def Qz1 (ts:List T) (n:Nat) (t:T):(Qml ts n t).length=ts.length+1:=Qu3 ts n t
def Qac8 {i:Nat} (h:QS X st (Qgs (tBM K "list" Qon (Qch i) (Qca (tE p k') (Qca (tE p e') Qfs))))):QS X st (tS p (.ins i k' e')):=h.weak fun D σ H ⟨B,G,ρ,F,hO,h⟩=>by
 unfold exS at h
 by_cases hm:(Qa ρ i).mut=true
 ·simp only [Zb hm] at h
  obtain ⟨a,eN,sa,ea⟩:=F.mutAt hm
  refine ⟨_,sa,.inl ⟨rfl,_,SqL.of ea⟩,?_⟩
  refine Qgo F h fun rk ρ1 vk H1 G1 k1 F1 _ pk s1=>?_
  cases rk with
  | ow t=>exact Zfb k1
  | sl j=>exact Zfb k1
  | fz tk =>
   cases tk <;> first | exact Zfb k1 | skip
   rename_i j
   have ev:vk=.int j:=by have a:=pk.is;unfold Is at a;exact a
   subst ev
   refine Qgo F1 k1 fun r ρ2 v H2 G2 k F2 _ pv s2=>?_
   cases r with
   | ow t=>exact Zfb k
   | sl j=>exact Zfb k
   | fz t =>
    replace k:SFin p B H2 G2 D (match Qa ρ2 i with
     | .ow (.lst ts)=>if ts.length<100000∧0≤j∧j≤ts.length then .nx (ρ2.set i (.ow (.lst (Qml ts j.toNat t)))) else .no
     | _=>.no):=k
    cases hs:Qa ρ2 i with
    | un=>rw [hs] at k;exact Zfb k
    | pin _=>rw [hs] at k;exact Zfb k
    | fx _=>rw [hs] at k;exact Zfb k
    | fz t=>rw [hs] at k;exact Zfb k
    | ro t=>rw [hs] at k;exact Zfb k
    | ml t=>rw [hs] at k;exact Zfb k
    | ow u =>
     rw [hs] at k
     cases u <;> first | exact Zfb k | skip
     rename_i ts
     replace k:SFin p B H2 G2 D (if ts.length<100000∧0≤j∧j≤ts.length then .nx (ρ2.set i (.ow (.lst (Qml ts j.toNat t)))) else .no):=k
     by_cases z:ts.length<100000∧0≤j∧j≤ts.length
     ·rw [Zb z] at k
      obtain ⟨n,rfl⟩:=Zb9 z.2.1
      rw [Zaw] at k
      obtain ⟨a',bw,g,o1⟩:=F2.prvAt (t:=.lst ts) (by rw [hs];rfl)
      obtain ⟨vs,zz,el,il⟩:=o1.lst_inv
      rw [sa] at bw
      cases bw
      have lz:=il.length
      obtain ⟨F4,s4⟩:=F2.change (s':=.ow (.lst (Qml ts n t))) (.inl ⟨hs,rfl⟩) sa (IsL.ins pv.is n il) (by rw [Qz1];omega)
      exact ⟨a,vs,n,v,rfl,rfl,el,by omega,by omega,k σ _ G2 F4 s4⟩
     ·rw [Zd z] at k;exact Zfb k
 ·simp only [Zd hm] at h
  exact Zfb h
def Qac9 {i:Nat} (h:QE X e (tBM K "list" Qom (Qch i) (Qca (tE p a') Qfs))):QE X e (tE p (.lix i a')):=h.weak fun σ H Q ⟨G,ρ,F,h⟩=>by
 unfold evE at h
 by_cases hm:(Qa ρ i).mut=true
 ·rw [Zb hm] at h
  obtain ⟨a,eN,sa,ea⟩:=F.mutAt hm
  refine ⟨_,sa,.inl ⟨rfl,_,SqL.of ea⟩,⟨G,ρ,F,h.bind.imp fun r ρ1 h1 v H1 G1 F1 r1=>?_⟩⟩
  cases r with
  | ow t=>exact Zfb h1
  | sl j=>exact Zfb h1
  | fz t =>
   cases t <;> first | exact Zfb h1 | skip
   rename_i n
   have ev:v=.int n:=by have a:=r1.is;unfold Is at a;exact a
   subst ev
   replace h1:Fin p (Qan H G σ ρ) σ (match Qwm n (Qa ρ1 i).prv with | some j=>.ok (PV.fz (.int j)) ρ1 | none=>.no) _:=h1
   cases hp:(Qa ρ1 i).prv with
   | none=>rw [hp] at h1;exact Zfb h1
   | some t =>
    rw [hp] at h1
    cases t <;> first | exact Zfb h1 | skip
    rename_i ts
    replace h1:Fin p (Qan H G σ ρ) σ (match (match Qb8 ts with | some is=>if is.length≤1000 then (ixI n is).map (fun j=>(j:Int)) else none | none=>none) with | some j=>.ok (PV.fz (.int j)) ρ1 | none=>.no) _:=h1
    cases hi:Qb8 ts with
    | none=>rw [hi] at h1;exact Zfb h1
    | some is =>
     rw [hi] at h1
     replace h1:Fin p (Qan H G σ ρ) σ (match (if is.length≤1000 then (ixI n is).map (fun j=>(j:Int)) else none) with | some j=>.ok (PV.fz (.int j)) ρ1 | none=>.no) _:=h1
     by_cases hz:is.length≤1000
     ·rw [Zb hz] at h1
      cases hj:ixI n is with
      | none=>rw [hj] at h1;exact Zfb h1
      | some j =>
       rw [hj] at h1
       obtain ⟨a',bw,g,o1⟩:=F1.prvAt hp
       obtain ⟨vs,zz,el,il⟩:=o1.lst_inv
       rw [sa] at bw
       cases bw
       rw [Qei hi] at il
       have eX:=IsL.ints_inv il
       subst eX
       exact ⟨a,is,n,j,rfl,rfl,el,hz,hj,h1 (.int j) H1 G1 F1 pvI⟩
     ·rw [Zd hz] at h1;exact Zfb h1
 ·rw [Zd hm] at h
  exact Zfb h
def IsL.erase {D:Hp}:∀ {vs:List V} {ts:List T} (n:Nat),IsL D vs ts→IsL D (vs.eraseIdx n) (ts.eraseIdx n)
 | vs,[],n,r=>by rw [r.nil_inv];exact .nil
 | vs,u::us,0,r=>by
  obtain ⟨w,ws,rfl,a,q⟩:=r.cons_inv
  exact q
 | vs,u::us,n+1,r=>by
  obtain ⟨w,ws,rfl,a,q⟩:=r.cons_inv
  exact .cons a (IsL.erase n q)
def Qada {i:Nat} (h:QS X st (Qgs (tBM K "list" Qlq (Qch i) (Qca (tE p e') Qfs)))):QS X st (tS p (.rem i e')):=h.weak fun D σ H ⟨B,G,ρ,F,hO,h⟩=>by
 unfold exS at h
 by_cases hm:(Qa ρ i).mut=true
 ·simp only [Zb hm] at h
  obtain ⟨a,eN,sa,ea⟩:=F.mutAt hm
  refine ⟨_,sa,.inl ⟨rfl,_,SqL.of ea⟩,?_⟩
  refine Qgo F h fun r ρ2 v H2 G2 k F2 _ pv s2=>?_
  cases r with
  | ow t=>exact Zfb k
  | sl j=>exact Zfb k
  | fz tk =>
   cases tk <;> first | exact Zfb k | skip
   rename_i n
   have ev:v=.int n:=by have a:=pv.is;unfold Is at a;exact a
   subst ev
   replace k:SFin p B H2 G2 D (match Qa ρ2 i with
    | .ow (.lst ts)=>(match Qb8 ts with
     | some is=>(match ixI n is with
      | some j=>.nx (ρ2.set i (.ow (.lst (ts.eraseIdx j))))
      | none=>.no)
     | none=>.no)
    | _=>.no):=k
   cases hs:Qa ρ2 i with
   | un=>rw [hs] at k;exact Zfb k
   | pin _=>rw [hs] at k;exact Zfb k
   | fx _=>rw [hs] at k;exact Zfb k
   | fz t=>rw [hs] at k;exact Zfb k
   | ro t=>rw [hs] at k;exact Zfb k
   | ml t=>rw [hs] at k;exact Zfb k
   | ow u =>
    rw [hs] at k
    cases u <;> first | exact Zfb k | skip
    rename_i ts
    replace k:SFin p B H2 G2 D (match Qb8 ts with
     | some is=>(match ixI n is with
      | some j=>.nx (ρ2.set i (.ow (.lst (ts.eraseIdx j))))
      | none=>.no)
     | none=>.no):=k
    cases hi:Qb8 ts with
    | none=>rw [hi] at k;exact Zfb k
    | some is =>
     rw [hi] at k
     replace k:SFin p B H2 G2 D (match ixI n is with
      | some j=>.nx (ρ2.set i (.ow (.lst (ts.eraseIdx j))))
      | none=>.no):=k
     cases hj:ixI n is with
     | none=>rw [hj] at k;exact Zfb k
     | some j =>
      rw [hj] at k
      obtain ⟨a',bw,g,o1⟩:=F2.prvAt (t:=.lst ts) (by rw [hs];rfl)
      obtain ⟨vs,zz,el,il⟩:=o1.lst_inv
      rw [sa] at bw
      cases bw
      have lz:=il.length
      obtain ⟨F4,s4⟩:=F2.change (s':=.ow (.lst (ts.eraseIdx j))) (.inl ⟨hs,rfl⟩) sa (IsL.erase j il) (by have:=Zeg ts j;omega)
      have fv:=il
      rw [Qei hi] at fv
      have eX:=IsL.ints_inv fv
      subst eX
      exact ⟨a,is,n,j,rfl,rfl,el,hj,k σ _ G2 F4 s4⟩
 ·simp only [Zd hm] at h
  exact Zfb h
end
end L2
namespace L2
open PySem PySem.Spec PyProof.Rows PySem.W
section
variable {X:Cx} {tg l e:Fr} {tl:TE}
end
section
variable {X:Cx} {p:Pr} {tg e:Fr} {e':E}
end
def Qnr (H:Hp) (σ:St) (ρ:En):Hp:=by
 classical
 exact fun b=>if OwA σ ρ b then none else H b
section
variable {B:Bs} {H H1:Hp} {G G1:Fw→Prop} {σ σ1:St} {ρ ρ1:En} {b:Fw} {o:HO}
def Qlr (h:OwA σ ρ b):Qnr H σ ρ b=none:=by
 unfold Qnr
 exact Zb h
def Qdl (h:¬ OwA σ ρ b):Qnr H σ ρ b=H b:=by
 unfold Qnr
 exact Zd h
def Qns (h:Qnr H σ ρ b=some o):¬ OwA σ ρ b∧H b=some o:=by
 by_cases z:OwA σ ρ b
 ·rw [Qlr z] at h;cases h
 ·rw [Qdl z] at h;exact ⟨z,h⟩
abbrev bsB (H:Hp) (G:Fw→Prop) (σ:St) (ρ:En):Bs:=⟨Qnr H σ ρ,fun b=>G b∧¬ OwA σ ρ b,fun _=>False,MlA σ ρ,PnA σ ρ⟩
def FI.rebase (F:FI B H G σ ρ):FI (bsB H G σ ρ) H G σ ρ where
 len:=F.len
 slot:=F.slot
 apart:=F.apart
 prv:=F.prv
 chg:=fun b o _ _ e=>(Qns e).2
 keep:=fun b o e=>⟨o,(Qns e).2⟩
 newO:=fun a h=>.inl (Qlr h)
 newM:=fun a h=>h
 fix:=fun i a h=>h
 gg:=fun b h=>h.1
 gn:=fun b h=>by
  by_cases z:OwA σ ρ b
  ·exact .inr (Qlr z)
  ·exact .inl ⟨h,z⟩
 bp:=fun b h=>by
  obtain ⟨o,e,_⟩:=F.prv b h.1
  exact ⟨o,(Qdl h.2).trans e⟩
def FI.transR (F:FI B H G σ ρ) (hO:∀ a,¬ B.O a) (F1:FI (bsB H G σ ρ) H1 G1 σ1 ρ1):FI B H1 G1 σ1 ρ1 where
 len:=F1.len
 slot:=F1.slot
 apart:=F1.apart
 prv:=F1.prv
 chg:=fun b o h1 h2 e=>by
  have z:¬ OwA σ ρ b:=fun z=>(F.newO b z).elim (fun q=>by rw [q] at e;cases e) (hO b)
  exact F1.chg b o (fun q=>q) (fun q=>h2 (F.newM b q)) ((Qdl z).trans (F.chg b o h1 h2 e))
 keep:=fun b o e=>by
  have z:¬ OwA σ ρ b:=fun z=>(F.newO b z).elim (fun q=>by rw [q] at e;cases e) (hO b)
  obtain ⟨o',e'⟩:=F.keep b o e
  exact F1.keep b o' ((Qdl z).trans e')
 newO:=fun a h=>by
  rcases F1.newO a h with q | q
  ·by_cases z:OwA σ ρ a
   ·exact F.newO a z
   ·exact .inl (F.free ((Qdl z).symm.trans q))
  ·exact q.elim
 newM:=fun a h=>F.newM a (F1.newM a h)
 fix:=fun i a h=>F.fix i a (F1.fix i a h)
 gg:=fun b h=>by
  have z:¬ OwA σ ρ b:=fun z=>by
   obtain ⟨o,e⟩:=F.bp b h
   exact (F.newO b z).elim (fun q=>by rw [q] at e;cases e) (hO b)
  exact F1.gg b ⟨F.gg b h,z⟩
 gn:=fun b h=>by
  rcases F1.gn b h with q | q
  ·exact F.gn b q.1
  ·by_cases z:OwA σ ρ b
   ·exact .inr ((F.newO b z).resolve_right (hO b))
   ·exact .inr (F.free ((Qdl z).symm.trans q))
 bp:=F.bp
def blk {p:Pr} {s:S} {D:Ends} (F:FI B H G σ ρ) (hO:∀ a,¬ B.O a) (e:exS p.cf s ρ=.nx ρ1)
  (k:∀ σ1 H1 G1,FI B H1 G1 σ1 ρ1→Same (dls H G) (dls H1 G1)→(∀ b o,¬ OwA σ ρ b→¬ MlA σ ρ b→H b=some o→H1 b=some o)→(∀ b,G b→¬ OwA σ ρ b→G1 b)→(∀ a,OwA σ1 ρ1 a→H a=none∨OwA σ ρ a)→(∀ i a,PnA σ1 ρ1 i a→PnA σ ρ i a)→D.nx σ1 H1):tS p s D σ H:=by
 refine ⟨bsB H G σ ρ,G,ρ,F.rebase,fun _ q=>q,?_⟩
 rw [e]
 intro σ1 H1 G1 F1 sm
 refine k σ1 H1 G1 (F.transR hO F1) sm (fun b o h1 h2 e=>F1.chg b o (fun q=>q) h2 ((Qdl h1).trans e)) (fun b g h1=>F1.gg b ⟨g,h1⟩) (fun a h=>?_) fun i a h=>F1.fix i a h
 rcases F1.newO a h with q | q
 ·by_cases z:OwA σ ρ a
  ·exact .inr z
  ·exact .inl ((Qdl z).symm.trans q)
 ·exact q.elim
def IsL.app1 {D:Hp}:∀ {vs:List V} {ts:List T} {v:V} {t:T},IsL D vs ts→Is D v t→IsL D (vs++[v]) (ts++[t])
 | vs,[],v,t,r,h=>by rw [r.nil_inv];exact .cons h .nil
 | vs,u::us,v,t,r,h=>by
  obtain ⟨w,ws,rfl,a,q⟩:=r.cons_inv
  exact .cons a (IsL.app1 q h)
def Qz2 (F:FI B H G σ ρ) (hO:∀ a,¬ B.O a) {iR iH:Nat} (am:iR≠iH) {lr r:Fw} {ts us:List T} {vs:List V} (sR:Qa ρ iR=.ow (.lst ts)) (eR:σ[iR]?=some (some (.ref lr))) (i9:H lr=some (.lst vs))
  (sH:Qa ρ iH=.ow (.lst us)) (eH:σ[iH]?=some (some (.ref r))) (z:ts.length<100000) (jo:∀ t∈ts,∃ us,t=.lst us) :
  V.ref r∉vs∧B.H r=none∧r≠lr∧G r∧∃ G1,¬ G1 r∧FI B (upd H lr (.lst (vs++[.ref r]))) G1 σ ((ρ.set iH (.fz (.lst us))).set iR (.ow (.lst (ts++[.lst us]))))∧Same (dls H G) (dls (upd H lr (.lst (vs++[.ref r]))) G1):=by
 obtain ⟨a1,x1,g1,o1⟩:=F.prvAt (i:=iR) (t:=.lst ts) (by rw [sR];rfl)
 rw [eR] at x1
 cases x1
 obtain ⟨ki,_,e1,il⟩:=o1.lst_inv
 rw [i9] at e1
 cases e1
 obtain ⟨a2,x2,g2,o2⟩:=F.prvAt (i:=iH) (t:=.lst us) (by rw [sH];rfl)
 rw [eH] at x2
 cases x2
 have hr:V.ref r∉vs:=fun hm=>by
  obtain ⟨k,hk,ek⟩:=Zdd.mp hm
  obtain ⟨t,et,it⟩:=IsL.get il (Za hk)
  rw [ek] at it
  obtain ⟨kh,rfl⟩:=jo t (Z2 et)
  obtain ⟨b,ws,eb,hb,_⟩:=it.lst_inv
  cases eb
  exact (Qv hb).1 g2
 have dr:r≠lr:=fun z=>by
  subst z
  exact am (F.apart iR iH r ⟨⟨_,by rw [sR];rfl⟩,eR⟩ ⟨⟨_,by rw [sH];rfl⟩,eH⟩)
 have hB:B.H r=none:=(F.newO r ⟨iH,_,sH,eH⟩).resolve_right (hO r)
 obtain ⟨G1,F1,s1⟩:=F.freeze hO sH
 have dB:Qa (ρ.set iH (.fz (.lst us))) iR=.ow (.lst ts):=by
  rw [Qh,Zd fun z=>am z.1]
  exact sR
 obtain ⟨a3,x3,g3,o3⟩:=F1.prvAt (i:=iR) (t:=.lst ts) (by rw [dB];rfl)
 rw [eR] at x3
 cases x3
 obtain ⟨kg,_,e3,j5⟩:=o3.lst_inv
 rw [i9] at e3
 cases e3
 have hi:iH<ρ.length:=by
  rw [←F.len]
  exact (Ze.mp eH).1
 have sl:=F1.slot iH
 have jz:Qa (ρ.set iH (.fz (.lst us))) iH=.fz (.lst us):=by
  rw [Qh,Zb ⟨rfl,hi⟩]
 rw [jz] at sl
 obtain ⟨v,ev,iv⟩:=sl
 rw [eH] at ev
 cases ev
 have jx:¬ G1 r:=by
  obtain ⟨b,ws,eb,hb,_⟩:=iv.lst_inv
  cases eb
  exact (Qv hb).1
 obtain ⟨F2,s2⟩:=F1.change (s':=.ow (.lst (ts++[.lst us]))) (.inl ⟨dB,rfl⟩) eR (IsL.app1 j5 iv) (by rw [Zq,Zb3];omega)
 exact ⟨hr,hB,dr,g2,G1,jx,F2,s1.trans s2⟩
def FI.weakE {ρ':En} (F:FI B H G σ ρ) (hl:ρ'.length=ρ.length) (hw:∀ i,Qa ρ' i=.un∨Qa ρ' i=Qa ρ i):FI B H G σ ρ' where
 len:=by rw [hl];exact F.len
 slot:=fun i=>by
  rcases hw i with e | e
  ·rw [e];trivial
  ·rw [e];exact F.slot i
 apart:=fun i j a h1 h2=>F.apart i j a (by
  obtain ⟨⟨t,e⟩,s⟩:=h1
  rcases hw i with z | z <;> rw [z] at e
  ·cases e
  ·exact ⟨⟨t,e⟩,s⟩) (by
  obtain ⟨⟨t,e⟩,s⟩:=h2
  rcases hw j with z | z <;> rw [z] at e
  ·cases e
  ·exact ⟨⟨t,e⟩,s⟩)
 prv:=F.prv
 chg:=F.chg
 keep:=F.keep
 newO:=fun a h=>by
  obtain ⟨i,t,e,s⟩:=h
  rcases hw i with z | z <;> rw [z] at e
  ·cases e
  ·exact F.newO a ⟨i,t,e,s⟩
 newM:=fun a h=>by
  obtain ⟨i,t,e,s⟩:=h
  rcases hw i with z | z <;> rw [z] at e
  ·cases e
  ·exact F.newM a ⟨i,t,e,s⟩
 fix:=fun i a h=>by
  obtain ⟨⟨t,e⟩,s⟩:=h
  rcases hw i with z | z <;> rw [z] at e
  ·rcases e with e | e | e <;> cases e
  ·exact F.fix i a ⟨⟨t,e⟩,s⟩
 gg:=F.gg
 gn:=F.gn
 bp:=F.bp
def Slot.kd:Slot→Nat
 | .un=>0
 | .fz _=>1
 | .ow _=>2
 | .ml _=>3
 | .ro _=>4
 | .pin _=>5
 | .fx _=>6
def FI.poke {ρ':En} {r:Fw} {ws cK:List V} (F:FI B H G σ ρ) (hr:H r=some (.lst ws)) (hg:¬ G r) (hB:B.H r=none) (hl:ρ'.length=ρ.length) (hk:∀ i,(Qa ρ' i).kd=(Qa ρ i).kd)
  (hs:∀ i,Qiq (upd H r (.lst cK)) G σ i (Qa ρ' i)):FI B (upd H r (.lst cK)) G σ ρ':=by
 have pv:∀ i a,PrvAt σ ρ' i a→PrvAt σ ρ i a:=fun i a h=>by
  obtain ⟨⟨t,e⟩,s⟩:=h
  have k:=hk i
  refine ⟨?_,s⟩
  cases e1:Qa ρ' i <;> rw [e1] at k e <;> first | (cases e;done) | skip
  all_goals (cases e2:Qa ρ i <;> rw [e2] at k <;> first | (cases k;done) | exact ⟨_,rfl⟩)
 have ow:∀ a,OwA σ ρ' a→OwA σ ρ a:=fun a h=>by
  obtain ⟨i,t,e,s⟩:=h
  have k:=hk i
  rw [e] at k
  cases e2:Qa ρ i <;> rw [e2] at k <;> first | (cases k;done) | exact ⟨i,_,e2,s⟩
 have ml:∀ a,MlA σ ρ' a→MlA σ ρ a:=fun a h=>by
  obtain ⟨i,t,e,s⟩:=h
  have k:=hk i
  rw [e] at k
  cases e2:Qa ρ i <;> rw [e2] at k <;> first | (cases k;done) | exact ⟨i,_,e2,s⟩
 have pn:∀ i a,PnA σ ρ' i a→PnA σ ρ i a:=fun i a h=>by
  obtain ⟨⟨t,e⟩,s⟩:=h
  have k:=hk i
  refine ⟨?_,s⟩
  rcases e with e | e | e
  ·rw [e] at k
   cases e2:Qa ρ i <;> rw [e2] at k <;> first | (cases k;done) | exact ⟨_,.inl rfl⟩
  ·rw [e] at k
   cases e2:Qa ρ i <;> rw [e2] at k <;> first | (cases k;done) | exact ⟨_,.inr (.inl rfl)⟩
  ·rw [e] at k
   cases e2:Qa ρ i <;> rw [e2] at k <;> first | (cases k;done) | exact ⟨_,.inr (.inr rfl)⟩
 refine ⟨by rw [hl];exact F.len,hs,fun i j a h1 h2=>F.apart i j a (pv i a h1) (pv j a h2),fun b h=>?_,fun b o h1 h2 e=>?_,fun b o e=>?_,fun a h=>F.newO a (ow a h),fun a h=>F.newM a (ml a h),fun i a h=>F.fix i a (pn i a h),F.gg,F.gn,F.bp⟩
 ·obtain ⟨o,e,q⟩:=F.prv b h
  have nb:b≠r:=fun z=>hg (by rw [←z];exact h)
  exact ⟨o,by rw [Q3 nb];exact e,q⟩
 ·rw [Q3 fun z=>by rw [z,hB] at e;cases e]
  exact F.chg b o h1 h2 e
 ·obtain ⟨o',e'⟩:=F.keep b o e
  exact ⟨o',by rw [Q3 fun z=>by rw [z,hB] at e;cases e];exact e'⟩
def FI.tell {ρ':En} (F:FI B H G σ ρ) (hl:ρ'.length=ρ.length) (hk:∀ i,(Qa ρ' i).kd=(Qa ρ i).kd) (hs:∀ i,Qiq H G σ i (Qa ρ' i)):FI B H G σ ρ':=by
 have pv:∀ i a,PrvAt σ ρ' i a→PrvAt σ ρ i a:=fun i a h=>by
  obtain ⟨⟨t,e⟩,s⟩:=h
  have k:=hk i
  refine ⟨?_,s⟩
  cases e1:Qa ρ' i <;> rw [e1] at k e <;> first | (cases e;done) | skip
  all_goals (cases e2:Qa ρ i <;> rw [e2] at k <;> first | (cases k;done) | exact ⟨_,rfl⟩)
 have ow:∀ a,OwA σ ρ' a→OwA σ ρ a:=fun a h=>by
  obtain ⟨i,t,e,s⟩:=h
  have k:=hk i
  rw [e] at k
  cases e2:Qa ρ i <;> rw [e2] at k <;> first | (cases k;done) | exact ⟨i,_,e2,s⟩
 have ml:∀ a,MlA σ ρ' a→MlA σ ρ a:=fun a h=>by
  obtain ⟨i,t,e,s⟩:=h
  have k:=hk i
  rw [e] at k
  cases e2:Qa ρ i <;> rw [e2] at k <;> first | (cases k;done) | exact ⟨i,_,e2,s⟩
 have pn:∀ i a,PnA σ ρ' i a→PnA σ ρ i a:=fun i a h=>by
  obtain ⟨⟨t,e⟩,s⟩:=h
  have k:=hk i
  refine ⟨?_,s⟩
  rcases e with e | e | e
  ·rw [e] at k
   cases e2:Qa ρ i <;> rw [e2] at k <;> first | (cases k;done) | exact ⟨_,.inl rfl⟩
  ·rw [e] at k
   cases e2:Qa ρ i <;> rw [e2] at k <;> first | (cases k;done) | exact ⟨_,.inr (.inl rfl)⟩
  ·rw [e] at k
   cases e2:Qa ρ i <;> rw [e2] at k <;> first | (cases k;done) | exact ⟨_,.inr (.inr rfl)⟩
 exact ⟨by rw [hl];exact F.len,hs,fun i j a h1 h2=>F.apart i j a (pv i a h1) (pv j a h2),F.prv,F.chg,F.keep,fun a h=>F.newO a (ow a h),fun a h=>F.newM a (ml a h),fun i a h=>F.fix i a (pn i a h),F.gg,F.gn,F.bp⟩
def FI.tellO {i:Nat} {l:Fw} {t t':T} (F:FI B H G σ ρ) (s:Qa ρ i=.ow t) (e:σ[i]?=some (some (.ref l))) (g:G l) (o:OwnAt H G l t'):FI B H G σ (ρ.set i (.ow t')):=by
 have bI:∀ j,(j=i∧Qa (ρ.set i (.ow t')) j=.ow t')∨Qa (ρ.set i (.ow t')) j=Qa ρ j:=fun j=>by
  rw [Qh]
  by_cases z:j=i∧i<ρ.length
  ·rw [Zb z];exact .inl ⟨z.1,rfl⟩
  ·rw [Zd z];exact .inr rfl
 refine F.tell (by rw [Z6]) (fun j=>?_) fun j=>?_
 ·rcases bI j with ⟨rfl,z⟩ | z
  ·rw [z,s];rfl
  ·rw [z]
 ·rcases bI j with ⟨rfl,z⟩ | z
  ·rw [z];exact ⟨l,e,g,o⟩
  ·rw [z];exact F.slot j
def RowR (H:Hp) (G:Fw→Prop) (r:Fw) (is:List Int):Prop:=¬ G r∧H r=some (.lst (is.map V.int))∧is.length≤1000
def TabR (H:Hp) (G:Fw→Prop) (q:Fw×List Fw) (M:List (List Int)):Prop:=¬ G q.1∧H q.1=some (.lst (q.2.map V.ref))∧Paired (RowR H G) q.2 M∧M.length≤1000
abbrev Qh5 (ps:List (Fw×List Fw)):List Fw:=ps.map (·.1)++ps.flatMap (·.2)
structure Tree (H:Hp) (G:Fw→Prop) (lf:Fw) (ps:List (Fw×List Fw)) (Ms:List (List (List Int))):Prop where
 own:G lf
 top:H lf=some (.lst (ps.map fun q=>V.ref q.1))
 tabs:Paired (TabR H G) ps Ms
 nd:(Qh5 ps).Nodup
def RowR.is {r:Fw} {is:List Int} (h:RowR H G r is):Is (dls H G) (.ref r) (Qao is):=by
 unfold Is
 exact ⟨by rw [Zf];have:=h.2.2;omega,r,_,rfl,by rw [Qba h.1];exact h.2.1,IsL.ints is⟩
def Qls:∀ {rs:List Fw} {M:List (List Int)},Paired (RowR H G) rs M→IsL (dls H G) (rs.map V.ref) (M.map Qao)
 | _,_,.nil=>.nil
 | _,_,.cons h t=>.cons h.is (Qls t)
def TabR.is {q:Fw×List Fw} {M:List (List Int)} (h:TabR H G q M):Is (dls H G) (.ref q.1) (Qk M):=by
 unfold Is
 exact ⟨by rw [Zf];have:=h.2.2.2;omega,q.1,_,rfl,by rw [Qba h.1];exact h.2.1,Qls h.2.2.1⟩
def Qqs:∀ {ps:List (Fw×List Fw)} {Ms:List (List (List Int))},Paired (TabR H G) ps Ms→IsL (dls H G) (ps.map fun q=>V.ref q.1) (Ms.map Qk)
 | _,_,.nil=>.nil
 | _,_,.cons h t=>.cons h.is (Qqs t)
def Tree.ownAt {lf:Fw} {ps:List (Fw×List Fw)} {Ms:List (List (List Int))} (h:Tree H G lf ps Ms) (z:Ms.length≤100000):OwnAt H G lf (.lst (Ms.map Qk)) :=
 ⟨_,h.top,by rw [Zf];exact z,Qqs h.tabs⟩
def RowR.poke {r r':Fw} {is:List Int} {cK:List V} (h:RowR H G r' is) (ne:r'≠r):RowR (upd H r (.lst cK)) G r' is:=⟨h.1,by rw [Q3 ne];exact h.2.1,h.2.2⟩
def Qjn {r:Fw} {cK:List V}:∀ {rs:List Fw} {M:List (List Int)},Paired (RowR H G) rs M→r∉rs→Paired (RowR (upd H r (.lst cK)) G) rs M
 | _,_,.nil,_=>.nil
 | _,_,.cons h t,n=>.cons (h.poke fun z=>n (by rw [z];exact .head _)) (Qjn t fun z=>n (.tail _ z))
def Qqt {r:Fw} {is':List Int} (hz:is'.length≤1000):∀ {rs:List Fw} {M:List (List Int)} {x:Nat},Paired (RowR H G) rs M→rs.Nodup→rs[x]?=some r→Paired (RowR (upd H r (.lst (is'.map V.int))) G) rs (M.set x is')
 | _,_,0,.cons h t,nd,e=>by
  cases e
  exact .cons ⟨h.1,Qt,hz⟩ (Qjn t (Zbm.mp nd).1)
 | _,_,x+1,.cons (a:=a) h t,nd,e=>by
  rw [Zl] at e
  have ne:a≠r:=fun z=>(Zbm.mp nd).1 (by rw [z];exact Z2 e)
  exact .cons (h.poke ne) (Qqt hz t (Zbm.mp nd).2 e)
def Qnt {r:Fw} {cK:List V}:∀ {ps:List (Fw×List Fw)} {Ms:List (List (List Int))},Paired (TabR H G) ps Ms→r∉Qh5 ps→Paired (TabR (upd H r (.lst cK)) G) ps Ms
 | _,_,.nil,_=>.nil
 | q::ps,_,.cons h t,n=>by
  have n1:q.1≠r:=fun z=>n (Zad _ (by rw [Zaq,z];exact .head _))
  have n2:r∉q.2:=fun z=>n (Zw _ (by rw [Zba];exact Zad _ z))
  have n3:r∉Qh5 ps:=fun z=>n (by
   rcases Zah.mp z with z | z
   ·exact Zad _ (by rw [Zaq];exact .tail _ z)
   ·exact Zw _ (by rw [Zba];exact Zw _ z))
  exact .cons ⟨h.1,by rw [Q3 n1];exact h.2.1,Qjn h.2.2.1 n2,h.2.2.2⟩ (Qnt t n3)
def Paired.at {α β:Type} {R:α→β→Prop}:∀ {xs:List α} {ys:List β} {i:Nat} {x:α},Paired R xs ys→xs[i]?=some x→∃ y,ys[i]?=some y∧R x y
 | _,_,0,x,.cons h t,e=>by cases e;exact ⟨_,rfl,h⟩
 | _,_,i+1,x,.cons h t,e=>by rw [Zl] at e ⊢;exact Paired.at t e
def Tree.poke0 {lf r:Fw} {q:Fw×List Fw} {ps:List (Fw×List Fw)} {M:List (List Int)} {Ms:List (List (List Int))} {x:Nat} {is':List Int} (h:Tree H G lf (q::ps) (M::Ms)) (e:q.2[x]?=some r) (hz:is'.length≤1000) :
  ¬ G r∧Tree (upd H r (.lst (is'.map V.int))) G lf (q::ps) (M.set x is'::Ms):=by
 obtain ⟨ow,top,tabs,nd⟩:=h
 cases tabs with
 | cons hq t =>
  have hm:r∈q.2:=Z2 e
  obtain ⟨is,_,hr⟩:=Paired.at hq.2.2.1 e
  have ng:¬ G r:=hr.1
  have ji:(q.1::(ps.map (·.1)++(q.2++ps.flatMap (·.2)))).Nodup:=by
   have:Qh5 (q::ps)=q.1::(ps.map (·.1)++(q.2++ps.flatMap (·.2))):=by
    show (q::ps).map (·.1)++(q::ps).flatMap (·.2)=_
    rw [Zaq,Zba,Zd3]
   rw [←this];exact nd
  obtain ⟨a1,a2⟩:=Zbm.mp ji
  obtain ⟨b1,b2,b3⟩:=Zd7.mp a2
  obtain ⟨c1,c2,c3⟩:=Zd7.mp b2
  have n1:q.1≠r:=fun z=>a1 (Zw _ (Zad _ (by rw [z];exact hm)))
  have n2:r∉Qh5 ps:=fun z=>by
   rcases Zah.mp z with z | z
   ·exact b3 r z r (Zad _ hm) rfl
   ·exact c3 r hm r z rfl
  refine ⟨ng,ow,by rw [Q3 fun z=>ng (by rw [←z];exact ow)];exact top,.cons ⟨hq.1,by rw [Q3 n1];exact hq.2.1,Qqt hz hq.2.2.1 c1 e,by rw [Z6];exact hq.2.2.2⟩ (Qnt t n2),nd⟩
def Q9c {iF x:Nat} {lf r:Fw} {q:Fw×List Fw} {ps:List (Fw×List Fw)} {M:List (List Int)} {Ms:List (List (List Int))} {is':List Int} (F:FI B H G σ ρ) (jC:iF<ρ.length) (sF:Qa ρ iF=.ow (.lst ((M::Ms).map Qk))) (eF:σ[iF]?=some (some (.ref lf)))
  (h:Tree H G lf (q::ps) (M::Ms)) (e:q.2[x]?=some r) (hB:B.H r=none) (hz:is'.length≤1000) (hM:(M::Ms).length≤100000) (ho:∀ i,i≠iF→Qa ρ i=.un∨∃ ns:List Int,Qa ρ i=.ml (.lst (ns.map T.int))) :
  FI B (upd H r (.lst (is'.map V.int))) G σ (ρ.set iF (.ow (.lst ((M.set x is'::Ms).map Qk)))):=by
 obtain ⟨ng,T2⟩:=h.poke0 e hz
 have hr:∃ ws,H r=some (.lst ws):=by
  obtain ⟨_,_,tabs,_⟩:=h
  cases tabs with
  | cons hq t =>
   obtain ⟨is,_,hr⟩:=Paired.at hq.2.2.1 e
   exact ⟨_,hr.2.1⟩
 obtain ⟨ws,hr⟩:=hr
 have sa:∀ i,Qa (ρ.set iF (.ow (.lst ((M.set x is'::Ms).map Qk)))) i=if i=iF then .ow (.lst ((M.set x is'::Ms).map Qk)) else Qa ρ i:=fun i=>by
  rw [Qh]
  by_cases z:i=iF
  ·rw [Zb ⟨z,jC⟩,Zb z]
  ·rw [Zd fun y=>z y.1,Zd z]
 refine F.poke hr ng hB (by rw [Z6]) (fun i=>?_) fun i=>?_
 ·rw [sa]
  by_cases z:i=iF
  ·rw [Zb z,z,sF];rfl
  ·rw [Zd z]
 ·rw [sa]
  by_cases z:i=iF
  ·rw [Zb z,z]
   exact ⟨lf,eF,T2.own,T2.ownAt hM⟩
  ·rw [Zd z]
   rcases ho i z with y | ⟨ns,y⟩
   ·rw [y];trivial
   ·rw [y]
    have sl:=F.slot i
    rw [y] at sl
    obtain ⟨a,ea,ga,oa⟩:=sl
    obtain ⟨vs,zz,el,il⟩:=oa.lst_inv
    have eX:=IsL.ints_inv il
    subst eX
    exact ⟨a,ea,ga,OwnAt.of_lst zz (by rw [Q3 fun w=>ng (by rw [←w];exact ga)];exact el) (IsL.ints ns)⟩
def blk2 {p:Pr} {s:S} {D:Ends} {iF iR:Nat} {lf lr:Fw} {tF tR uF uR:T} (F:FI B H G σ ρ) (hO:∀ a,¬ B.O a) (am:iF≠iR) (sF:Qa ρ iF=.ow tF) (eF:σ[iF]?=some (some (.ref lf))) (sR:Qa ρ iR=.ow tR) (eR:σ[iR]?=some (some (.ref lr)))
  (e:exS p.cf s ((ρ.set iF (.ro tF)).set iR (.ro tR))=.nx ρ1) (bt:Qa ρ1 iF=.ro uF) (dG:Qa ρ1 iR=.ro uR)
  (k:∀ σ1 H1 G1,FI B H1 G1 σ1 ((ρ1.set iR (.ow uR)).set iF (.ow uF))→Same (dls H G) (dls H1 G1)→(∀ o,H lf=some o→H1 lf=some o)→(∀ o,H lr=some o→H1 lr=some o)→G1 lf→G1 lr→σ1[iF]?=some (some (.ref lf))→σ1[iR]?=some (some (.ref lr))→D.nx σ1 H1):tS p s D σ H:=by
 have bj:iF<ρ.length:=by rw [←F.len];exact (Ze.mp eF).1
 have dh:iR<ρ.length:=by rw [←F.len];exact (Ze.mp eR).1
 have cT:=F.newO lf ⟨iF,tF,sF,eF⟩
 have jy:=F.newO lr ⟨iR,tR,sR,eR⟩
 have ap:lf≠lr:=fun z=>am (F.apart iF iR lf ⟨⟨_,by rw [sF];rfl⟩,eF⟩ ⟨⟨_,by rw [sR];rfl⟩,by rw [z];exact eR⟩)
 have F1:=F.lock sF eF
 have dB:Qa (ρ.set iF (.ro tF)) iR=.ow tR:=by rw [Qh,Zd fun z=>am z.1.symm];exact sR
 have F2:=F1.lock dB eR
 have aF:Qa ((ρ.set iF (.ro tF)).set iR (.ro tR)) iF=.ro tF:=by rw [Qh,Zd fun z=>am z.1,Qh,Zb ⟨rfl,bj⟩]
 have aR:Qa ((ρ.set iF (.ro tF)).set iR (.ro tR)) iR=.ro tR:=by rw [Qh,Zb ⟨rfl,by rw [Z6];exact dh⟩]
 have dX:∀ a,OwA σ ((ρ.set iF (.ro tF)).set iR (.ro tR)) a→a≠lf∧a≠lr:=fun a h=>by
  obtain ⟨j,t,ej,sj⟩:=h
  have pj:PrvAt σ ((ρ.set iF (.ro tF)).set iR (.ro tR)) j a:=⟨⟨_,by rw [ej];rfl⟩,sj⟩
  refine ⟨fun z=>?_,fun z=>?_⟩
  ·have:=F2.apart j iF a pj ⟨⟨_,by rw [aF];rfl⟩,by rw [z];exact eF⟩
   rw [this,aF] at ej
   cases ej
  ·have:=F2.apart j iR a pj ⟨⟨_,by rw [aR];rfl⟩,by rw [z];exact eR⟩
   rw [this,aR] at ej
   cases ej
 have dM:∀ a,MlA σ ((ρ.set iF (.ro tF)).set iR (.ro tR)) a→a≠lf∧a≠lr:=fun a h=>by
  obtain ⟨j,t,ej,sj⟩:=h
  have pj:PrvAt σ ((ρ.set iF (.ro tF)).set iR (.ro tR)) j a:=⟨⟨_,by rw [ej];rfl⟩,sj⟩
  refine ⟨fun z=>?_,fun z=>?_⟩
  ·have:=F2.apart j iF a pj ⟨⟨_,by rw [aF];rfl⟩,by rw [z];exact eF⟩
   rw [this,aF] at ej
   cases ej
  ·have:=F2.apart j iR a pj ⟨⟨_,by rw [aR];rfl⟩,by rw [z];exact eR⟩
   rw [this,aR] at ej
   cases ej
 have nF:¬ OwA σ ((ρ.set iF (.ro tF)).set iR (.ro tR)) lf:=fun z=>(dX lf z).1 rfl
 have nR:¬ OwA σ ((ρ.set iF (.ro tF)).set iR (.ro tR)) lr:=fun z=>(dX lr z).2 rfl
 refine blk F2 hO e fun σ1 H1 G1 F3 sm ch gg _ pn=>?_
 have g2:=F2.slot iF
 rw [aF] at g2
 obtain ⟨a2,x2,gf,_⟩:=g2
 rw [eF] at x2
 cases x2
 have g3:=F2.slot iR
 rw [aR] at g3
 obtain ⟨a3,x3,gr,_⟩:=g3
 rw [eR] at x3
 cases x3
 have m1:=F3.slot iF
 rw [bt] at m1
 obtain ⟨b1,y1,_,_⟩:=m1
 have z1:=(pn iF b1 ⟨⟨_,.inr (.inl bt)⟩,y1⟩).2
 rw [eF] at z1
 cases z1
 have m2:=F3.slot iR
 rw [dG] at m2
 obtain ⟨b2,y2,_,_⟩:=m2
 have z2:=(pn iR b2 ⟨⟨_,.inr (.inl dG)⟩,y2⟩).2
 rw [eR] at z2
 cases z2
 have F4:=F3.unlock dG jy
 have iZ:Qa (ρ1.set iR (.ow uR)) iF=.ro uF:=by rw [Qh,Zd fun z=>am z.1];exact bt
 have F5:=F4.unlock iZ cT
 exact k σ1 H1 G1 F5 sm (fun o h=>ch lf o nF (fun z=>(dM lf z).1 rfl) h) (fun o h=>ch lr o nR (fun z=>(dM lr z).2 rfl) h) (gg lf gf nF) (gg lr gr nR) y1 y2
def Qqu (s:Same (dls H G) (dls H1 G1)) (g:¬ G b) (e:H b=some o):¬ G1 b∧H1 b=some o:=Qv (s b o (by rw [Qba g];exact e))
def RowR.same {r:Fw} {is:List Int} (h:RowR H G r is) (s:Same (dls H G) (dls H1 G1)):RowR H1 G1 r is :=
 let q:=Qqu s h.1 h.2.1
 ⟨q.1,q.2,h.2.2⟩
def Qfi (s:Same (dls H G) (dls H1 G1)):∀ {rs:List Fw} {M:List (List Int)},Paired (RowR H G) rs M→Paired (RowR H1 G1) rs M
 | _,_,.nil=>.nil
 | _,_,.cons h t=>.cons (h.same s) (Qfi s t)
def Qdf (s:Same (dls H G) (dls H1 G1)):∀ {ps:List (Fw×List Fw)} {Ms:List (List (List Int))},Paired (TabR H G) ps Ms→Paired (TabR H1 G1) ps Ms
 | _,_,.nil=>.nil
 | _,_,.cons h t =>
  let q:=Qqu s h.1 h.2.1
  .cons ⟨q.1,q.2,Qfi s h.2.2.1,h.2.2.2⟩ (Qdf s t)
def Tree.same {lf:Fw} {ps:List (Fw×List Fw)} {Ms:List (List (List Int))} (h:Tree H G lf ps Ms) (s:Same (dls H G) (dls H1 G1)) (g:G1 lf) (e:H1 lf=H lf):Tree H1 G1 lf ps Ms:=⟨g,by rw [e];exact h.top,Qdf s h.tabs,h.nd⟩
def Qqv {r:Fw} {is:List Int}:∀ {rs:List Fw} {M:List (List Int)},Paired (RowR H G) rs M→RowR H G r is→Paired (RowR H G) (rs++[r]) (M++[is])
 | _,_,.nil,h=>.cons h .nil
 | _,_,.cons a t,h=>.cons a (Qqv t h)
def Qqw {q:Fw×List Fw} {M:List (List Int)}:∀ {ps:List (Fw×List Fw)} {Ms:List (List (List Int))},Paired (TabR H G) ps Ms→TabR H G q M→Paired (TabR H G) (ps++[q]) (Ms++[M])
 | _,_,.nil,h=>.cons h .nil
 | _,_,.cons a t,h=>.cons a (Qqw t h)
def Qix {r:Fw} (g:G r):∀ {rs:List Fw} {M:List (List Int)},Paired (RowR H G) rs M→r∉rs
 | _,_,.nil,z=>(nomatch z)
 | _,_,.cons h t,z=>by
  rcases Z7.mp z with e | z
  ·exact h.1 (by rw [←e];exact g)
  ·exact Qix g t z
def Qiy {r:Fw} (g:G r):∀ {ps:List (Fw×List Fw)} {Ms:List (List (List Int))},Paired (TabR H G) ps Ms→r∉Qh5 ps
 | _,_,.nil,z=>(nomatch z)
 | q::ps,_,.cons h t,z=>by
  rcases Zah.mp z with z | z
  ·rw [Zaq] at z
   rcases Z7.mp z with e | z
   ·exact h.1 (by rw [←e];exact g)
   ·exact Qiy g t (Zad _ z)
  ·rw [Zba] at z
   rcases Zah.mp z with z | z
   ·exact Qix g h.2.2.1 z
   ·exact Qiy g t (Zw _ z)
structure Lv (B:Bs) (iF iR:Nat) (H:Hp) (G:Fw→Prop) (σ:St) (ρ:En) (lf lr:Fw) (ps:List (Fw×List Fw)) (Ms:List (List (List Int))) (rs:List Fw) (R:List (List Int)):Prop where
 F:FI B H G σ ρ
 sF:Qa ρ iF=.ow (.lst (Ms.map Qk))
 eF:σ[iF]?=some (some (.ref lf))
 sR:Qa ρ iR=.ow (.lst (R.map Qao))
 eR:σ[iR]?=some (some (.ref lr))
 tr:Tree H G lf ps Ms
 hr:H lr=some (.lst (rs.map V.ref))
 rows:Paired (RowR H G) rs R
 nd:(rs++Qh5 ps).Nodup
 fr:∀ b∈rs++Qh5 ps,B.H b=none
structure Lf (B:Bs) (iF:Nat) (H:Hp) (G:Fw→Prop) (σ:St) (ρ:En) (lf:Fw) (ps:List (Fw×List Fw)) (Ms:List (List (List Int))):Prop where
 F:FI B H G σ ρ
 sF:Qa ρ iF=.ow (.lst (Ms.map Qk))
 eF:σ[iF]?=some (some (.ref lf))
 tr:Tree H G lf ps Ms
 fr:∀ b∈Qh5 ps,B.H b=none
variable {iF iR iH:Nat} {lf lr:Fw} {ps:List (Fw×List Fw)} {Ms:List (List (List Int))} {rs:List Fw} {R:List (List Int)} {is:List Int}
def Lv.row (L:Lv B iF iR H G σ ρ lf lr ps Ms rs R) (hO:∀ a,¬ B.O a) (aK:iF≠iR) (bG:iR≠iH) (bK:iF≠iH) (sH:Qa ρ iH=.ow (.lst (is.map T.int))) (zi:is.length≤1000) (zR:R.length<1000) :
  ∃ r G1,σ[iH]?=some (some (.ref r))∧Lv B iF iR (upd H lr (.lst (rs.map V.ref++[.ref r]))) G1 σ ((ρ.set iH (.fz (Qao is))).set iR (.ow (.lst ((R++[is]).map Qao)))) lf lr ps Ms (rs++[r]) (R++[is])∧Same (dls H G) (dls (upd H lr (.lst (rs.map V.ref++[.ref r]))) G1):=by
 obtain ⟨r,eH,gr,oH⟩:=L.F.prvAt (i:=iH) (t:=.lst (is.map T.int)) (by rw [sH];rfl)
 obtain ⟨ws,_,hr,jO⟩:=oH.lst_inv
 have ew:=IsL.ints_inv jO
 subst ew
 obtain ⟨_,hB,dr,_,G1,ng,F1,s1⟩:=Qz2 L.F hO bG L.sR L.eR L.hr sH eH (by rw [Zf];omega) (fun t ht=>by
  obtain ⟨x,_,rfl⟩:=Z0.mp ht
  exact ⟨_,rfl⟩)
 have cR:(R.map Qao++[Qao is])=(R++[is]).map Qao:=by rw [Zan,Zaq,Zcz]
 have F1':FI B (upd H lr (.lst (rs.map V.ref++[.ref r]))) G1 σ ((ρ.set iH (.fz (Qao is))).set iR (.ow (.lst ((R++[is]).map Qao)))):=by rw [←cR];exact F1
 have dh:iR<ρ.length:=by rw [←L.F.len];exact (Ze.mp L.eR).1
 have dP:Qa ((ρ.set iH (.fz (Qao is))).set iR (.ow (.lst ((R++[is]).map Qao)))) iF=.ow (.lst (Ms.map Qk)):=by
  rw [Qh,Zd fun z=>aK z.1,Qh,Zd fun z=>bK z.1]
  exact L.sF
 have dB:Qa ((ρ.set iH (.fz (Qao is))).set iR (.ow (.lst ((R++[is]).map Qao)))) iR=.ow (.lst ((R++[is]).map Qao)):=by
  rw [Qh,Zb ⟨rfl,by rw [Z6];exact dh⟩]
 obtain ⟨a',x',gF,_⟩:=F1'.prvAt (i:=iF) (t:=.lst (Ms.map Qk)) (by rw [dP];rfl)
 rw [L.eF] at x'
 cases x'
 have b9:lf≠lr:=fun z=>aK (L.F.apart iF iR lf ⟨⟨_,by rw [L.sF];rfl⟩,L.eF⟩ ⟨⟨_,by rw [L.sR];rfl⟩,by rw [z];exact L.eR⟩)
 have n1:r∉rs:=Qix gr L.rows
 have n2:r∉Qh5 ps:=Qiy gr L.tr.tabs
 refine ⟨r,G1,eH,⟨F1',dP,L.eF,dB,L.eR,L.tr.same s1 gF (by rw [Q3 b9]),by rw [Qt,Zan];rfl,Qqv (Qfi s1 L.rows) ⟨ng,by rw [Q3 dr];exact hr,zi⟩,?_,?_⟩,s1⟩
 ·rw [Zao]
  refine List.Perm.nodup (List.perm_middle (l₁:=rs) (l₂:=Qh5 ps) (a:=r)).symm (Zbm.mpr ⟨fun z=>?_,L.nd⟩)
  rcases Zah.mp z with z | z
  ·exact n1 z
  ·exact n2 z
 ·intro b hb
  rw [Zao] at hb
  rcases Zah.mp hb with hb | hb
  ·exact L.fr b (Zad _ hb)
  ·rcases Z7.mp hb with rfl | hb
   ·exact hB
   ·exact L.fr b (Zw _ hb)
def Qz3 (ps:List (Fw×List Fw)) (lr:Fw) (rs:List Fw):(Qh5 (ps++[(lr,rs)])).Perm (lr::(rs++Qh5 ps)):=by
 have e:Qh5 (ps++[(lr,rs)])=ps.map (·.1)++lr::(ps.flatMap (·.2)++rs):=by
  show (ps++[(lr,rs)]).map (·.1)++(ps++[(lr,rs)]).flatMap (·.2)=_
  rw [Zan,Zc2,Zaq,Zcz,Zba,Zd4,Zal,Zao]
  rfl
 rw [e]
 refine List.perm_middle.trans (List.Perm.cons _ ?_)
 rw [←Zao]
 exact List.perm_append_comm
def Lv.tab (L:Lv B iF iR H G σ ρ lf lr ps Ms rs R) (hO:∀ a,¬ B.O a) (aK:iF≠iR) (zR:R.length≤1000) (zM:Ms.length<1000) :
  ∃ G1,Lf B iF (upd H lf (.lst ((ps.map fun q=>V.ref q.1)++[.ref lr]))) G1 σ ((ρ.set iR (.fz (Qk R))).set iF (.ow (.lst ((Ms++[R]).map Qk)))) lf (ps++[(lr,rs)]) (Ms++[R])∧Same (dls H G) (dls (upd H lf (.lst ((ps.map fun q=>V.ref q.1)++[.ref lr]))) G1):=by
 have zl:=L.tr.tabs
 obtain ⟨_,hB,dr,gr,G1,ng,F1,s1⟩:=Qz2 L.F hO aK L.sF L.eF L.tr.top L.sR L.eR (by rw [Zf];omega) (fun t ht=>by
  obtain ⟨x,_,rfl⟩:=Z0.mp ht
  exact ⟨_,rfl⟩)
 have cR:(Ms.map Qk++[Qk R])=(Ms++[R]).map Qk:=by rw [Zan,Zaq,Zcz]
 have F1':FI B (upd H lf (.lst ((ps.map fun q=>V.ref q.1)++[.ref lr]))) G1 σ ((ρ.set iR (.fz (Qk R))).set iF (.ow (.lst ((Ms++[R]).map Qk)))):=by rw [←cR];exact F1
 have bj:iF<ρ.length:=by rw [←L.F.len];exact (Ze.mp L.eF).1
 have dP:Qa ((ρ.set iR (.fz (Qk R))).set iF (.ow (.lst ((Ms++[R]).map Qk)))) iF=.ow (.lst ((Ms++[R]).map Qk)):=by
  rw [Qh,Zb ⟨rfl,by rw [Z6];exact bj⟩]
 obtain ⟨a',x',gF,_⟩:=F1'.prvAt (i:=iF) (t:=.lst ((Ms++[R]).map Qk)) (by rw [dP];rfl)
 rw [L.eF] at x'
 cases x'
 have n1:lr∉rs:=Qix gr L.rows
 have n2:lr∉Qh5 ps:=Qiy gr L.tr.tabs
 have pm:=Qz3 ps lr rs
 refine ⟨G1,⟨F1',dP,L.eF,⟨gF,by rw [Qt,Zan];rfl,Qqw (Qdf s1 L.tr.tabs) ⟨ng,by rw [Q3 dr];exact L.hr,Qfi s1 L.rows,zR⟩,?_⟩,?_⟩,s1⟩
 ·refine List.Perm.nodup pm.symm (Zbm.mpr ⟨fun z=>?_,L.nd⟩)
  rcases Zah.mp z with z | z
  ·exact n1 z
  ·exact n2 z
 ·intro b hb
  rcases Z7.mp (pm.mem_iff.mp hb) with rfl | hb
  ·exact hB
  ·exact L.fr b hb
def Lv.blk {p:Pr} {s:S} {D:Ends} {uF uR:T} (L:Lv B iF iR H G σ ρ lf lr ps Ms rs R) (hO:∀ a,¬ B.O a) (aK:iF≠iR) (zM:Ms.length≤1000) (zR:R.length≤1000)
  (e:exS p.cf s ((ρ.set iF (.ro (.lst (Ms.map Qk)))).set iR (.ro (.lst (R.map Qao))))=.nx ρ1) (bt:Qa ρ1 iF=.ro uF) (dG:Qa ρ1 iR=.ro uR)
  (k:∀ σ1 H1 G1,Lv B iF iR H1 G1 σ1 ((ρ1.set iR (.ow (.lst (R.map Qao)))).set iF (.ow (.lst (Ms.map Qk)))) lf lr ps Ms rs R→Same (dls H G) (dls H1 G1)→D.nx σ1 H1):tS p s D σ H :=
 blk2 L.F hO aK L.sF L.eF L.sR L.eR e bt dG fun σ1 H1 G1 F1 sm hF hR gF gR xF xR=>by
  have bj:iF<((ρ1.set iR (.ow uR)).set iF (.ow uF)).length:=by rw [←F1.len];exact (Ze.mp xF).1
  have dh:iR<((ρ1.set iR (.ow uR)).set iF (.ow uF)).length:=by rw [←F1.len];exact (Ze.mp xR).1
  rw [Z6,Z6] at bj dh
  have bT:Tree H1 G1 lf ps Ms:=⟨gF,hF _ L.tr.top,Qdf sm L.tr.tabs,L.tr.nd⟩
  have r1:=Qfi sm L.rows
  have F2:=F1.tellO (t:=uF) (by rw [Qh,Zb ⟨rfl,by rw [Z6];exact bj⟩]) xF gF (bT.ownAt (by omega))
  rw [Zd2] at F2
  have F3:=F2.tellO (t:=uR) (by rw [Qh,Zd fun z=>aK z.1.symm,Qh,Zb ⟨rfl,dh⟩]) xR gR (OwnAt.of_lst (by rw [Zf];omega) (hR _ L.hr) (Qls r1))
  rw [List.set_comm _ _ aK,Zd2] at F3
  refine k σ1 H1 G1 ⟨F3,?_,xF,?_,xR,bT,hR _ L.hr,r1,L.nd,L.fr⟩ sm
  ·rw [Qh,Zb ⟨rfl,by rw [Z6];exact bj⟩]
  ·rw [Qh,Zd fun z=>aK z.1.symm,Qh,Zb ⟨rfl,dh⟩]
def blk1 {p:Pr} {s:S} {D:Ends} {tF uF:T} (F:FI B H G σ ρ) (hO:∀ a,¬ B.O a) (sF:Qa ρ iF=.ow tF) (eF:σ[iF]?=some (some (.ref lf)))
  (e:exS p.cf s (ρ.set iF (.ro tF))=.nx ρ1) (bt:Qa ρ1 iF=.ro uF)
  (k:∀ σ1 H1 G1,FI B H1 G1 σ1 (ρ1.set iF (.ow uF))→Same (dls H G) (dls H1 G1)→(∀ o,H lf=some o→H1 lf=some o)→G1 lf→σ1[iF]?=some (some (.ref lf))→D.nx σ1 H1):tS p s D σ H:=by
 have bj:iF<ρ.length:=by rw [←F.len];exact (Ze.mp eF).1
 have cT:=F.newO lf ⟨iF,tF,sF,eF⟩
 have F2:=F.lock sF eF
 have aF:Qa (ρ.set iF (.ro tF)) iF=.ro tF:=by rw [Qh,Zb ⟨rfl,bj⟩]
 have nF:¬ OwA σ (ρ.set iF (.ro tF)) lf:=fun h=>by
  obtain ⟨j,t,ej,sj⟩:=h
  have:=F2.apart j iF lf ⟨⟨_,by rw [ej];rfl⟩,sj⟩ ⟨⟨_,by rw [aF];rfl⟩,eF⟩
  rw [this,aF] at ej
  cases ej
 have mF:¬ MlA σ (ρ.set iF (.ro tF)) lf:=fun h=>by
  obtain ⟨j,t,ej,sj⟩:=h
  have:=F2.apart j iF lf ⟨⟨_,by rw [ej];rfl⟩,sj⟩ ⟨⟨_,by rw [aF];rfl⟩,eF⟩
  rw [this,aF] at ej
  cases ej
 refine blk F2 hO e fun σ1 H1 G1 F3 sm ch gg _ pn=>?_
 have g2:=F2.slot iF
 rw [aF] at g2
 obtain ⟨a2,x2,gf,_⟩:=g2
 rw [eF] at x2
 cases x2
 have m1:=F3.slot iF
 rw [bt] at m1
 obtain ⟨b1,y1,_,_⟩:=m1
 have z1:=(pn iF b1 ⟨⟨_,.inr (.inl bt)⟩,y1⟩).2
 rw [eF] at z1
 cases z1
 exact k σ1 H1 G1 (F3.unlock bt cT) sm (fun o h=>ch lf o nF mF h) (gg lf gf nF) y1
def Lf.blk {p:Pr} {s:S} {D:Ends} {uF:T} (L:Lf B iF H G σ ρ lf ps Ms) (hO:∀ a,¬ B.O a) (zM:Ms.length≤1000)
  (e:exS p.cf s (ρ.set iF (.ro (.lst (Ms.map Qk))))=.nx ρ1) (bt:Qa ρ1 iF=.ro uF)
  (k:∀ σ1 H1 G1,Lf B iF H1 G1 σ1 (ρ1.set iF (.ow (.lst (Ms.map Qk)))) lf ps Ms→Same (dls H G) (dls H1 G1)→D.nx σ1 H1):tS p s D σ H :=
 blk1 L.F hO L.sF L.eF e bt fun σ1 H1 G1 F1 sm hF gF xF=>by
  have bj:iF<(ρ1.set iF (.ow uF)).length:=by rw [←F1.len];exact (Ze.mp xF).1
  rw [Z6] at bj
  have bT:Tree H1 G1 lf ps Ms:=⟨gF,hF _ L.tr.top,Qdf sm L.tr.tabs,L.tr.nd⟩
  have F2:=F1.tellO (t:=uF) (by rw [Qh,Zb ⟨rfl,bj⟩]) xF gF (bT.ownAt (by omega))
  rw [Zd2] at F2
  exact k σ1 H1 G1 ⟨F2,by rw [Qh,Zb ⟨rfl,bj⟩],xF,bT,L.fr⟩ sm
def Lf.start (L:Lf B iF H G σ ρ lf ps Ms) (sR:Qa ρ iR=.ow (.lst [])):∃ lr,Lv B iF iR H G σ ρ lf lr ps Ms [] []:=by
 obtain ⟨lr,eR,_,oR⟩:=L.F.prvAt (i:=iR) (t:=.lst []) (by rw [sR];rfl)
 obtain ⟨ws,_,hr,il⟩:=oR.lst_inv
 cases il
 exact ⟨lr,L.F,L.sF,L.eF,sR,eR,L.tr,hr,.nil,L.tr.nd,L.fr⟩
def FI.found (F:FI B H G σ ρ) (sF:Qa ρ iF=.ow (.lst [])):∃ lf,Lf B iF H G σ ρ lf [] []:=by
 obtain ⟨lf,eF,gF,oF⟩:=F.prvAt (i:=iF) (t:=.lst []) (by rw [sF];rfl)
 obtain ⟨ws,_,hr,il⟩:=oF.lst_inv
 cases il
 exact ⟨lf,F,sF,eF,⟨gF,hr,.nil,.nil⟩,fun b hb=>nomatch hb⟩
def Qf2 {α β:Type} {Rr:α→β→Prop}:∀ {xs:List α} {ys:List β},Paired Rr xs ys→xs.length=ys.length
 | _,_,.nil=>rfl
 | _,_,.cons _ t=>by rw [Zh,Zh,Qf2 t]
def Lv.rowT {D:Ends} {K:Fz} (L:Lv B iF iR H G σ ρ lf lr ps Ms rs R) (hO:∀ a,¬ B.O a) (aK:iF≠iR) (bG:iR≠iH) (bK:iF≠iH) (sH:Qa ρ iH=.ow (.lst (is.map T.int))) (zi:is.length≤1000) (zR:R.length<1000)
  (k:∀ r H1 G1,Lv B iF iR H1 G1 σ ((ρ.set iH (.fz (Qao is))).set iR (.ow (.lst ((R++[is]).map Qao)))) lf lr ps Ms (rs++[r]) (R++[is])→Same (dls H G) (dls H1 G1)→D.nx σ H1):Qgs (tBM K "list" Qdz (Qch iR) (Qca (Qch iH) Qfs)) D σ H:=by
 obtain ⟨r,G1,eH,L1,s1⟩:=L.row hO aK bG bK sH zi zR
 have lz:=Qf2 L.rows
 exact ⟨_,L.eR,.inl ⟨rfl,_,SqL.of L.hr⟩,_,eH,lr,rs.map V.ref,.ref r,rfl,rfl,L.hr,by rw [Zf,lz,Zau];omega,k r _ G1 L1 s1⟩
def Lv.tabT {D:Ends} {K:Fz} (L:Lv B iF iR H G σ ρ lf lr ps Ms rs R) (hO:∀ a,¬ B.O a) (aK:iF≠iR) (zR:R.length≤1000) (zM:Ms.length<1000)
  (k:∀ H1 G1,Lf B iF H1 G1 σ ((ρ.set iR (.fz (Qk R))).set iF (.ow (.lst ((Ms++[R]).map Qk)))) lf (ps++[(lr,rs)]) (Ms++[R])→Same (dls H G) (dls H1 G1)→D.nx σ H1):Qgs (tBM K "list" Qdz (Qch iF) (Qca (Qch iR) Qfs)) D σ H:=by
 obtain ⟨G1,L1,s1⟩:=L.tab hO aK zR zM
 have lz:=Qf2 L.tr.tabs
 exact ⟨_,L.eF,.inl ⟨rfl,_,SqL.of L.tr.top⟩,_,L.eR,lf,_,.ref lr,rfl,rfl,L.tr.top,by rw [Zf,lz,Zau];omega,k _ G1 L1 s1⟩
def Qz4 {fA:En→SO} {R1:List (List Int)} {ρ2:En} (e:Qsp fA iF iR iH Ms R ρ=some (R1,ρ2)):∃ ρ1 uF uR is,fA ((ρ.set iF (.ro (.lst (Ms.map Qk)))).set iR (.ro (.lst (R.map Qao))))=.nx ρ1∧Qa ρ1 iF=.ro uF∧Qa ρ1 iR=.ro uR∧Qa ρ1 iH=.ow (.lst (is.map T.int))∧is.length≤1000∧R.length<1000∧R1=R++[is]
  ∧ ρ2=((((ρ1.set iR (.ow (.lst (R.map Qao)))).set iF (.ow (.lst (Ms.map Qk)))).set iH (.fz (Qao is))).set iR (.ow (.lst ((R++[is]).map Qao)))):=by
 unfold Qsp at e
 split at e
 ·rename_i ρ1 e1
  split at e
  ·rename_i uF uR us eF eR eH
   split at e
   ·rename_i is ei
    split at e
    ·rename_i z
     have:=Qei ei
     subst this
     cases e
     exact ⟨ρ1,uF,uR,is,e1,eF,eR,eH,z.1,z.2,rfl,rfl⟩
    ·cases e
   ·cases e
  ·cases e
 ·cases e
def Q3x {p:Pr} {A:S} {D:Ends} {K:Fz} {R1:List (List Int)} {ρ2:En} (L:Lv B iF iR H G σ ρ lf lr ps Ms rs R) (hO:∀ a,¬ B.O a) (aK:iF≠iR) (bG:iR≠iH) (bK:iF≠iH) (zM:Ms.length≤1000) (e:Qsp (exS p.cf A) iF iR iH Ms R ρ=some (R1,ρ2))
  (k:∀ σ1 H1 G1 cG,Lv B iF iR H1 G1 σ1 ρ2 lf lr ps Ms cG R1→Same (dls H G) (dls H1 G1)→D.nx σ1 H1):Qgr (tS p A) (Qgs (tBM K "list" Qdz (Qch iR) (Qca (Qch iH) Qfs))) D σ H:=by
 obtain ⟨ρ1,uF,uR,is,e1,eF,eR,eH,z1,z2,rfl,rfl⟩:=Qz4 e
 refine L.blk hO aK zM (by omega) e1 eF eR fun σ1 H1 G1 L1 s1=>?_
 refine L1.rowT hO aK bG bK (is:=is) ?_ z1 z2 fun r H2 G2 L2 s2=>k σ1 H2 G2 _ L2 (s1.trans s2)
 rw [Qh,Zd fun z=>bK z.1.symm,Qh,Zd fun z=>bG z.1.symm]
 exact eH
def Lv.setW {iW:Nat} {j:Int} (L:Lv B iF iR H G σ ρ lf lr ps Ms rs R) (hF:iF≠iW) (hR:iR≠iW) (hi:iW<ρ.length):Lv B iF iR H G (σ.set iW (some (.int j))) (ρ.set iW (.fz (.int j))) lf lr ps Ms rs R :=
 ⟨L.F.setFz hi (by unfold Is;rfl),by rw [Qh,Zd fun z=>hF z.1];exact L.sF,by rw [Zbt hF.symm];exact L.eF,by rw [Qh,Zd fun z=>hR z.1];exact L.sR,by rw [Zbt hR.symm];exact L.eR,L.tr,L.hr,L.rows,L.nd,L.fr⟩
def Lf.setW {iW:Nat} {j:Int} (L:Lf B iF H G σ ρ lf ps Ms) (hF:iF≠iW) (hi:iW<ρ.length):Lf B iF H G (σ.set iW (some (.int j))) (ρ.set iW (.fz (.int j))) lf ps Ms :=
 ⟨L.F.setFz hi (by unfold Is;rfl),by rw [Qh,Zd fun z=>hF z.1];exact L.sF,by rw [Zbt hF.symm];exact L.eF,L.tr,L.fr⟩
def Qqx {fA:En→SO} {iW:Nat} {R0:List (List Int)} {ρ0:En}:∀ {n i:Nat} {q:List (List Int)×En},i≤n→Qes fA iF iR iH iW Ms R0 ρ0 n=some q→∃ q',Qes fA iF iR iH iW Ms R0 ρ0 i=some q'
 | 0,i,q,h,e=>by
  have:i=0:=by omega
  subst this
  exact ⟨q,e⟩
 | n+1,i,q,h,e=>by
  by_cases z:i=n+1
  ·subst z
   exact ⟨q,e⟩
  ·unfold Qes at e
   split at e
   ·rename_i q1 e1
    exact Qqx (by omega) e1
   ·cases e
def Qz5 {p:Pr} {A:S} {D:Ends} {K:Fz} {iW n:Nat} {R0 R1:List (List Int)} {ρ2:En} (L:Lv B iF iR H G σ ρ lf lr ps Ms rs R0) (hO:∀ a,¬ B.O a) (aK:iF≠iR) (bG:iR≠iH) (bK:iF≠iH) (cN:iF≠iW) (dm:iR≠iW) (zM:Ms.length≤1000)
  (e:Qes (exS p.cf A) iF iR iH iW Ms R0 ρ n=some (R1,ρ2)) (k:∀ σ1 H1 G1 cG,Lv B iF iR H1 G1 σ1 ρ2 lf lr ps Ms cG R1→Same (dls H G) (dls H1 G1)→D.nx σ1 H1) :
  ∃ W:Nat→Nat→St→Hp→Prop,(∃ m,W 0 m σ H)∧∀ i m σ H,W i m σ H →
   ((Itr 0 n).stop i H∧D.nx σ H)∨((Itr 0 n).go i H∧∃ N:St→Hp→Prop,(∀ σ' H',N σ' H'→∃ m',m'<m∧W (i+1) m' σ' H')∧∀ x H',(Itr 0 n).yld i H x H'→Qcr iW x σ H' fun σ2 H2=>Qgr (tS p A) (Qgs (tBM K "list" Qdz (Qch iR) (Qca (Qch iH) Qfs))) { D with nx:=N,ct:=N,bk:=D.nx } σ2 H2):=by
 refine Qmy (fun i σ1 H1=>∃ G1 cG q,Qes (exS p.cf A) iF iR iH iW Ms R0 ρ i=some q∧Lv B iF iR H1 G1 σ1 q.2 lf lr ps Ms cG q.1∧Same (dls H G) (dls H1 G1)) ⟨G,rs,(R0,ρ),rfl,L,Same.refl _⟩ (fun i σ1 H1 hi ⟨G1,cG,q,eq,L1,s1⟩=>?_) fun σ1 H1 ⟨G1,cG,q,eq,L1,s1⟩=>?_
 ·obtain ⟨q',eW⟩:=Qqx (i:=i+1) (by omega) e
  have e2:=eW
  unfold Qes at e2
  rw [eq] at e2
  by_cases hl:iW<q.2.length
  ·simp only [Zb hl] at e2
   rw [Zcb]
   exact Q3x (L1.setW cN dm hl) hO aK bG bK zM e2 fun σ2 H2 G2 iX L2 s2=>⟨G2,iX,q',eW,L2,s1.trans s2⟩
  ·simp only [Zd hl] at e2
   cases e2
 ·rw [e] at eq
  cases eq
  exact k σ1 H1 G1 cG L1 s1
def Qz6 {f0 fA:En→SO} {iW iS:Nat} {q2:List (List (List Int))×En} (e:Qsq f0 fA iF iR iH iW iS Ms ρ=some q2):∃ ρ1 uF j q,f0 (ρ.set iF (.ro (.lst (Ms.map Qk))))=.nx ρ1∧Qa ρ1 iF=.ro uF∧Qa ρ1 iR=.ow (.lst [])∧Qa (ρ1.set iF (.ow (.lst (Ms.map Qk)))) iS=.fz (.int j)∧j.natAbs≤1000
  ∧ Qes fA iF iR iH iW Ms [] (ρ1.set iF (.ow (.lst (Ms.map Qk)))) j.toNat=some q∧q.1.length≤1000∧Ms.length<1000∧q2=(Ms++[q.1],(q.2.set iR (.fz (Qk q.1))).set iF (.ow (.lst ((Ms++[q.1]).map Qk)))):=by
 unfold Qsq at e
 split at e
 ·rename_i ρ1 e1
  split at e
  ·rename_i uF j eF eR eS
   split at e
   ·rename_i zj
    split at e
    ·rename_i q eq
     split at e
     ·rename_i z
      cases e
      exact ⟨ρ1,uF,j,q,e1,eF,eR,eS,zj,eq,z.1,z.2,rfl⟩
     ·cases e
    ·cases e
   ·cases e
  ·cases e
 ·cases e
abbrev Qu4 (K:Fz) (i j:Nat):TS:=Qgs (tBM K "list" Qdz (Qch i) (Qca (Qch j) Qfs))
def Q3y {p:Pr} {A0 A:S} {D:Ends} {K:Fz} {iW iS:Nat} {q2:List (List (List Int))×En} (L:Lf B iF H G σ ρ lf ps Ms) (hO:∀ a,¬ B.O a) (aK:iF≠iR) (bG:iR≠iH) (bK:iF≠iH) (cN:iF≠iW) (dm:iR≠iW)
  (e:Qsq (exS p.cf A0) (exS p.cf A) iF iR iH iW iS Ms ρ=some q2) (k:∀ σ1 H1 G1 ck,Lf B iF H1 G1 σ1 q2.2 lf ck q2.1→Same (dls H G) (dls H1 G1)→D.nx σ1 H1) :
  Qgr (tS p A0) (Qgr (Qmf (Qkv (Qca (Qch iS) Qfs)) (Qcr iW) (Qgr (tS p A) (Qu4 K iR iH))) (Qu4 K iF iR)) D σ H:=by
 obtain ⟨ρ1,uF,j,q,e1,eF,eR,eS,zj,eq,z1,z2,rfl⟩:=Qz6 e
 refine L.blk hO (by omega) e1 eF fun σ1 H1 G1 L1 s1=>?_
 obtain ⟨lr,V1⟩:=L1.start (iR:=iR) (by rw [Qh,Zd fun z=>aK z.1.symm];exact eR)
 have sl:=L1.F.slot iS
 rw [eS] at sl
 obtain ⟨v,ev,iv⟩:=sl
 have:v=.int j:=by unfold Is at iv;exact iv
 subst this
 refine ⟨_,ev,j,rfl,by omega,by omega,?_⟩
 refine Qz5 V1 hO aK bG bK cN dm (by omega) eq fun σ2 H2 G2 iX V2 s2=>?_
 exact V2.tabT hO aK z1 z2 fun H3 G3 L3 s3=>k σ2 H3 G3 _ L3 ((s1.trans s2).trans s3)
def Qqy {f0 fA:En→SO} {iW iS iT:Nat} {ρ0:En}:∀ {n i:Nat} {q:List (List (List Int))×En},i≤n→Qet f0 fA iF iR iH iW iS iT ρ0 n=some q→∃ q',Qet f0 fA iF iR iH iW iS iT ρ0 i=some q'
 | 0,i,q,h,e=>by
  have:i=0:=by omega
  subst this
  exact ⟨q,e⟩
 | n+1,i,q,h,e=>by
  by_cases z:i=n+1
  ·subst z
   exact ⟨q,e⟩
  ·unfold Qet at e
   split at e
   ·rename_i q1 e1
    exact Qqy (by omega) e1
   ·cases e
abbrev Q3z (p:Pr) (K:Fz) (iF iR iH iW iS:Nat) (A0 A:S):TS:=Qgr (tS p A0) (Qgr (Qmf (Qkv (Qca (Qch iS) Qfs)) (Qcr iW) (Qgr (tS p A) (Qu4 K iR iH))) (Qu4 K iF iR))
def Qz7 {p:Pr} {A0 A:S} {D:Ends} {K:Fz} {iW iS iT n:Nat} {q2:List (List (List Int))×En} (L:Lf B iF H G σ ρ lf [] []) (hO:∀ a,¬ B.O a) (aK:iF≠iR) (bG:iR≠iH) (bK:iF≠iH) (cN:iF≠iW) (dm:iR≠iW) (g8:iF≠iT)
  (e:Qet (exS p.cf A0) (exS p.cf A) iF iR iH iW iS iT ρ n=some q2) (k:∀ σ1 H1 G1 ck,Lf B iF H1 G1 σ1 q2.2 lf ck q2.1→Same (dls H G) (dls H1 G1)→D.nx σ1 H1) :
  ∃ W:Nat→Nat→St→Hp→Prop,(∃ m,W 0 m σ H)∧∀ i m σ H,W i m σ H →
   ((Itr 0 n).stop i H∧D.nx σ H)∨((Itr 0 n).go i H∧∃ N:St→Hp→Prop,(∀ σ' H',N σ' H'→∃ m',m'<m∧W (i+1) m' σ' H')∧∀ x H',(Itr 0 n).yld i H x H'→Qcr iT x σ H' fun σ2 H2=>Q3z p K iF iR iH iW iS A0 A { D with nx:=N,ct:=N,bk:=D.nx } σ2 H2):=by
 refine Qmy (fun i σ1 H1=>∃ G1 ck q,Qet (exS p.cf A0) (exS p.cf A) iF iR iH iW iS iT ρ i=some q∧Lf B iF H1 G1 σ1 q.2 lf ck q.1∧Same (dls H G) (dls H1 G1)) ⟨G,[],([],ρ),rfl,L,Same.refl _⟩ (fun i σ1 H1 hi ⟨G1,ck,q,eq,L1,s1⟩=>?_) fun σ1 H1 ⟨G1,ck,q,eq,L1,s1⟩=>?_
 ·obtain ⟨q',eW⟩:=Qqy (i:=i+1) (by omega) e
  have e2:=eW
  unfold Qet at e2
  rw [eq] at e2
  by_cases hl:iT<q.2.length
  ·simp only [Zb hl] at e2
   rw [Zcb]
   exact Q3y (L1.setW g8 hl) hO aK bG bK cN dm e2 fun σ2 H2 G2 jj L2 s2=>⟨G2,jj,q',eW,L2,s1.trans s2⟩
  ·simp only [Zd hl] at e2
   cases e2
 ·rw [e] at eq
  cases eq
  exact k σ1 H1 G1 ck L1 s1
def Lf.evI {p:Pr} {ex:E} {Q:VK} {uF:T} {j:Int} (L:Lf B iF H G σ ρ lf ps Ms) (zM:Ms.length≤1000) (e:evE p.cf ex (ρ.set iF (.ro (.lst (Ms.map Qk))))=.ok (.fz (.int j)) ρ1) (bt:Qa ρ1 iF=.ro uF)
  (k:∀ H1 G1,Lf B iF H1 G1 σ (ρ1.set iF (.ow (.lst (Ms.map Qk)))) lf ps Ms→Same (dls H G) (dls H1 G1)→Q (.int j) H1):tE p ex σ H Q:=by
 have bj:iF<ρ.length:=by rw [←L.F.len];exact (Ze.mp L.eF).1
 have cT:=L.F.newO lf ⟨iF,_,L.sF,L.eF⟩
 have F2:=L.F.lock L.sF L.eF
 have aF:Qa (ρ.set iF (.ro (.lst (Ms.map Qk)))) iF=.ro (.lst (Ms.map Qk)):=by rw [Qh,Zb ⟨rfl,bj⟩]
 have nF:¬ OwA σ (ρ.set iF (.ro (.lst (Ms.map Qk)))) lf:=fun h=>by
  obtain ⟨j,t,ej,sj⟩:=h
  have:=F2.apart j iF lf ⟨⟨_,by rw [ej];rfl⟩,sj⟩ ⟨⟨_,by rw [aF];rfl⟩,L.eF⟩
  rw [this,aF] at ej
  cases ej
 have mF:¬ MlA σ (ρ.set iF (.ro (.lst (Ms.map Qk)))) lf:=fun h=>by
  obtain ⟨j,t,ej,sj⟩:=h
  have:=F2.apart j iF lf ⟨⟨_,by rw [ej];rfl⟩,sj⟩ ⟨⟨_,by rw [aF];rfl⟩,L.eF⟩
  rw [this,aF] at ej
  cases ej
 refine ⟨G,_,F2.self,?_⟩
 rw [e]
 intro v H1 G1 F3 pv
 have ev:v=.int j:=by
  have a:=pv.is
  unfold Is at a
  exact a
 subst ev
 have F4:=F2.trans F3
 have sm:=F2.same F3
 have hf:=F3.chg lf _ nF mF L.tr.top
 have m1:=F4.slot iF
 rw [bt] at m1
 obtain ⟨b1,y1,gF,_⟩:=m1
 rw [L.eF] at y1
 cases y1
 have F5:=F4.unlock bt cT
 have df:iF<ρ1.length:=by
  have:=F5.len
  rw [Z6] at this
  rw [←this]
  exact (Ze.mp L.eF).1
 have bT:Tree H1 G1 lf ps Ms:=⟨gF,hf,Qdf sm L.tr.tabs,L.tr.nd⟩
 have F6:=F5.tellO (t:=uF) (by rw [Qh,Zb ⟨rfl,df⟩]) L.eF gF (bT.ownAt (by omega))
 rw [Zd2] at F6
 exact k H1 G1 ⟨F6,by rw [Qh,Zb ⟨rfl,df⟩],L.eF,bT,L.fr⟩ sm
def Lf.put {q:Fw×List Fw} {M:List (List Int)} {r:Fw} {x y:Nat} {k v:Int} {Q:Hp→Prop} (L:Lf B iF H G σ ρ lf (q::ps) (M::Ms)) (zM:(M::Ms).length≤1000) (er:q.2[x]?=some r) (eM:M[x]?=some is) (ey:ixN is.length k=some y)
  (ho:∀ i,i≠iF→Qa ρ i=.un∨∃ ns:List Int,Qa ρ i=.ml (.lst (ns.map T.int)))
  (kk:∀ H1,FI B H1 G σ (ρ.set iF (.ow (.lst ((M.set x (is.set y v)::Ms).map Qk))))→Q H1):Qhr (.ref r) (.int k) (.int v) H Q:=by
 have bj:iF<ρ.length:=by rw [←L.F.len];exact (Ze.mp L.eF).1
 have hT:TabR H G q M:=by
  have:=L.tr.tabs
  cases this with
  | cons h _=>exact h
 obtain ⟨is',ei,hR⟩:=Paired.at hT.2.2.1 er
 rw [eM] at ei
 cases ei
 have hB:B.H r=none:=L.fr r (Zw _ (by rw [Zba];exact Zad _ (Z2 er)))
 have F1:=Q9c (is':=is.set y v) L.F bj L.sF L.eF L.tr er hB (by rw [Z6];exact hR.2.2) (by omega) ho
 refine ⟨r,is.map V.int,k,y,rfl,rfl,hR.2.1,by rw [Zf];exact ey,?_⟩
 rw [←List.map_set]
 exact kk _ F1
def ixN0 (n:Nat):ixN (n+1) 0=some 0:=by
 unfold ixN
 simp
def Lf.putT {p:Pr} {D:Ends} {K:Fz} {q:Fw×List Fw} {M:List (List Int)} {x y:Nat} {j k v:Int} {V0 E1 E2:E} {u0 u1 u2:T} {ρ2 ρ3 ρ':En} {t0:TE} (h0:∀ σ H Q,Q (.int 0) H→t0 σ H Q) (L:Lf B iF H G σ ρ lf (q::ps) (M::Ms)) (zM:(M::Ms).length≤1000)
  (e0:evE p.cf V0 (ρ.set iF (.ro (.lst ((M::Ms).map Qk))))=.ok (.fz (.int v)) ρ1) (s0:Qa ρ1 iF=.ro u0)
  (e1:evE p.cf E1 (ρ1.set iF (.ro (.lst ((M::Ms).map Qk))))=.ok (.fz (.int j)) ρ2) (s1:Qa ρ2 iF=.ro u1)
  (e2:evE p.cf E2 (ρ2.set iF (.ro (.lst ((M::Ms).map Qk))))=.ok (.fz (.int k)) ρ3) (s2:Qa ρ3 iF=.ro u2)
  (ex:ixN M.length j=some x) (eM:M[x]?=some is) (ey:ixN is.length k=some y)
  (hl:ρ'.length=ρ3.length) (hF:Qa ρ' iF=.ow (.lst ((M::Ms).map Qk))) (hw:∀ i,i≠iF→Qa ρ' i=.un∨(Qa ρ' i=Qa ρ3 i∧∃ ns:List Int,Qa ρ' i=.ml (.lst (ns.map T.int))))
  (kk:∀ H1 G1,FI B H1 G1 σ (ρ'.set iF (.ow (.lst ((M.set x (is.set y v)::Ms).map Qk))))→D.nx σ H1) :
  Qh1 (tE p V0) (Qps (tOp (Qjf K) (tOp (Qjf K) (Qch iF) t0) (tE p E1)) (tE p E2) Qhr) D σ H:=by
 refine L.evI zM e0 s0 fun H1 G1 L1 _=>?_
 refine ⟨_,L1.eF,h0 _ _ _ ⟨lf,_,0,.ref q.1,rfl,rfl,SqL.of L1.tr.top,?_,?_⟩⟩
 ·unfold atI
  rw [Zaq,Zh,ixN0]
  rfl
 refine L1.evI zM (by rw [Zd2];exact e1) s1 fun H2 G2 L2 _=>?_
 have hT:TabR H2 G2 q M:=by
  have:=L2.tr.tabs
  cases this with
  | cons h _=>exact h
 have lz:=Qf2 hT.2.2.1
 have hx:x<q.2.length:=by rw [lz];exact (Qn4 ex).2.1
 refine ⟨q.1,_,j,.ref q.2[x],rfl,rfl,SqL.of hT.2.1,?_,?_⟩
 ·unfold atI
  rw [Zf,lz,ex]
  show (q.2.map V.ref)[x]?=_
  rw [Z8,Za hx]
  rfl
 refine L2.evI zM (by rw [Zd2];exact e2) s2 fun H3 G3 L3 _=>?_
 have F3:FI B H3 G3 σ ρ':=L3.F.weakE (by rw [Z6];exact hl) fun i=>by
  by_cases z:i=iF
  ·right
   rw [z,hF,L3.sF]
  ·rcases hw i z with w | ⟨w,_⟩
   ·exact .inl w
   ·right
    rw [w,Qh,Zd fun c=>z c.1]
 have L4:Lf B iF H3 G3 σ ρ' lf (q::ps) (M::Ms):=⟨F3,hF,L3.eF,L3.tr,L3.fr⟩
 exact L4.put zM (Za hx) eM ey (fun i hi=>(hw i hi).imp id fun w=>w.2) fun H4 F4=>kk H4 G3 F4
def Lf.tst {p:Pr} {ex:E} {Q:Bool→Hp→Prop} {uF:T} {bb:Bool} (L:Lf B iF H G σ ρ lf ps Ms) (zM:Ms.length≤1000) (e:Q6 (evE p.cf ex (ρ.set iF (.ro (.lst (Ms.map Qk)))))=.ok bb ρ1) (bt:Qa ρ1 iF=.ro uF)
  (k:∀ H1 G1,Lf B iF H1 G1 σ (ρ1.set iF (.ow (.lst (Ms.map Qk)))) lf ps Ms→Same (dls H G) (dls H1 G1)→Q bb H1):tT p ex σ H Q:=by
 have bj:iF<ρ.length:=by rw [←L.F.len];exact (Ze.mp L.eF).1
 have cT:=L.F.newO lf ⟨iF,_,L.sF,L.eF⟩
 have F2:=L.F.lock L.sF L.eF
 have aF:Qa (ρ.set iF (.ro (.lst (Ms.map Qk)))) iF=.ro (.lst (Ms.map Qk)):=by rw [Qh,Zb ⟨rfl,bj⟩]
 have nF:¬ OwA σ (ρ.set iF (.ro (.lst (Ms.map Qk)))) lf:=fun h=>by
  obtain ⟨j,t,ej,sj⟩:=h
  have:=F2.apart j iF lf ⟨⟨_,by rw [ej];rfl⟩,sj⟩ ⟨⟨_,by rw [aF];rfl⟩,L.eF⟩
  rw [this,aF] at ej
  cases ej
 have mF:¬ MlA σ (ρ.set iF (.ro (.lst (Ms.map Qk)))) lf:=fun h=>by
  obtain ⟨j,t,ej,sj⟩:=h
  have:=F2.apart j iF lf ⟨⟨_,by rw [ej];rfl⟩,sj⟩ ⟨⟨_,by rw [aF];rfl⟩,L.eF⟩
  rw [this,aF] at ej
  cases ej
 refine ⟨G,_,F2.self,?_⟩
 rw [e]
 intro H1 G1 F3
 have F4:=F2.trans F3
 have sm:=F2.same F3
 have hf:=F3.chg lf _ nF mF L.tr.top
 have m1:=F4.slot iF
 rw [bt] at m1
 obtain ⟨b1,y1,gF,_⟩:=m1
 rw [L.eF] at y1
 cases y1
 have F5:=F4.unlock bt cT
 have df:iF<ρ1.length:=by
  have:=F5.len
  rw [Z6] at this
  rw [←this]
  exact (Ze.mp L.eF).1
 have bT:Tree H1 G1 lf ps Ms:=⟨gF,hf,Qdf sm L.tr.tabs,L.tr.nd⟩
 have F6:=F5.tellO (t:=uF) (by rw [Qh,Zb ⟨rfl,df⟩]) L.eF gF (bT.ownAt (by omega))
 rw [Zd2] at F6
 exact k H1 G1 ⟨F6,by rw [Qh,Zb ⟨rfl,df⟩],L.eF,bT,L.fr⟩ sm
def Qoo (s:Slot):Qbu s=.un∨(Qbu s=s∧∃ ns:List Int,Qbu s=.ml (.lst (ns.map T.int))):=by
 unfold Qbu
 split
 ·rename_i ts
  split
  ·rename_i z
   obtain ⟨is,e⟩:=Zbf.mp z
   exact .inr ⟨rfl,is,by rw [Qei e]⟩
  ·exact .inl rfl
 ·exact .inl rfl
def Qs1 (ρ:En) (i:Nat):Qa (ρ.map Qbu) i=Qbu (Qa ρ i):=by
 unfold Qa
 rw [Z8]
 cases ρ[i]? <;> rfl
def Q30 {p:Pr} {D:Ends} {K:Fz} {V0 E1 E2:E} {ρ':En} {t0:TE} (h0:∀ σ H Q,Q (.int 0) H→t0 σ H Q) (L:Lf B iF H G σ ρ lf ps Ms) (e:Qwp (evE p.cf V0) (evE p.cf E1) (evE p.cf E2) iF Ms ρ=some ρ') (kk:∀ H1 G1,FI B H1 G1 σ ρ'→D.nx σ H1) :
  Qh1 (tE p V0) (Qps (tOp (Qjf K) (tOp (Qjf K) (Qch iF) t0) (tE p E1)) (tE p E2) Qhr) D σ H:=by
 unfold Qwp at e
 split at e
 ·cases e
 rename_i M Ms
 split at e
 case isFalse=>cases e
 rename_i zM
 split at e
 case h_2=>cases e
 rename_i v ρ1 e0
 split at e
 case h_2=>cases e
 rename_i u0 j ρ2 s0 e1
 split at e
 case h_2=>cases e
 rename_i u1 k ρ3 s1 e2
 split at e
 case h_2=>cases e
 rename_i u2 x s2 ex
 split at e
 case h_2=>cases e
 rename_i is eM
 split at e
 case h_2=>cases e
 rename_i y ey
 cases e
 have hp:=L.tr.tabs
 cases ps with
 | nil=>cases hp
 | cons q ps =>
  have jg:iF<ρ3.length:=by
   by_cases z:iF<ρ3.length
   ·exact z
   ·unfold Qa at s2
    rw [Zbd (by omega)] at s2
    cases s2
  refine L.putT h0 zM e0 s0 e1 s1 e2 s2 ex eM ey (ρ':=(ρ3.map Qbu).set iF (.ow (.lst ((M::Ms).map Qk)))) (by rw [Z6,Zf]) (by rw [Qh,Zb ⟨rfl,by rw [Zf];exact jg⟩]) (fun i hi=>?_) fun H1 G1 F1=>kk H1 G1 (by rw [Zd2] at F1;exact F1)
  rw [Qh,Zd fun z=>hi z.1,Qs1]
  exact Qoo _
def FI.sameR (F:FI B H G σ ρ) (F1:FI (bsB H G σ ρ) H1 G1 σ1 ρ1):Same (dls H G) (dls H1 G1):=fun b o e=>by
 obtain ⟨g,e'⟩:=Qv e
 have nO:¬ OwA σ ρ b:=fun ⟨i,t,ei,si⟩=>by
  obtain ⟨a,x,ga,_⟩:=F.prvAt (i:=i) (t:=t) (by rw [ei];rfl)
  rw [si] at x
  cases x
  exact g ga
 have nM:¬ MlA σ ρ b:=fun ⟨i,t,ei,si⟩=>by
  obtain ⟨a,x,ga,_⟩:=F.prvAt (i:=i) (t:=t) (by rw [ei];rfl)
  rw [si] at x
  cases x
  exact g ga
 have h1:=F1.chg b o (fun q=>q) nM ((Qdl nO).trans e')
 have ng:¬ G1 b:=fun z=>by
  rcases F1.gn b z with q | q
  ·exact g q.1
  ·have:=(Qdl (H:=H) nO).symm.trans q
   rw [e'] at this
   cases this
 rw [Qba ng]
 exact h1
def Qz8 {p:Pr} {D:Ends} {K:Fz} {A0 A:S} {c V0 E1 E2:E} {iW iS iT iN:Nat} {t0:TE} (h0:∀ σ H Q,Q (.int 0) H→t0 σ H Q) (F:FI B H G σ ρ) (hO:∀ a,¬ B.O a) (aK:iF≠iR) (bG:iR≠iH) (bK:iF≠iH) (cN:iF≠iW) (dm:iR≠iW) (g8:iF≠iT)
  (h:SFin p B H G D (Qhv (exS p.cf A0) (exS p.cf A) (fun ρ=>Q6 (evE p.cf c ρ)) (evE p.cf V0) (evE p.cf E1) (evE p.cf E2) iF iR iH iW iS iT iN ρ)) :
  Qgr (Qmf (Qkv (Qca (Qch iN) Qfs)) (Qcr iT) (Q3z p K iF iR iH iW iS A0 A)) (Qxj (tT p c) (Qh1 (tE p V0) (Qps (tOp (Qjf K) (tOp (Qjf K) (Qch iF) t0) (tE p E1)) (tE p E2) Qhr)) Qpr) D σ H:=by
 unfold Qhv at h
 split at h
 case h_2=>exact h.elim
 rename_i n sF sN
 split at h
 case isFalse=>exact h.elim
 rename_i zn
 split at h
 case h_2=>exact h.elim
 rename_i q eq
 split at h
 case isFalse=>exact h.elim
 rename_i zq
 split at h
 case h_2=>exact h.elim
 rename_i b ρ2 eb
 split at h
 case h_2=>exact h.elim
 rename_i u2 s2
 have F0:=F.rebase
 obtain ⟨lf,L⟩:=F0.found sF
 have sl:=F.slot iN
 rw [sN] at sl
 obtain ⟨v,ev,iv⟩:=sl
 have:v=.int n:=by unfold Is at iv;exact iv
 subst this
 refine ⟨_,ev,n,rfl,by omega,by omega,?_⟩
 refine Qz7 L (fun _ z=>z) aK bG bK cN dm g8 eq fun σ1 H1 G1 ck L1 s1=>?_
 refine L1.tst zq eb s2 fun H2 G2 L2 ko=>?_
 cases b with
 | true =>
  simp only [Zb] at h
  split at h
  case h_2=>exact h.elim
  rename_i ρ3 e3
  exact Q30 h0 L2 e3 fun H3 G3 F3=>h σ1 H3 G3 (F.transR hO F3) (F.sameR F3)
 | false =>
  rw [Zd Zk] at h
  exact h σ1 H2 G2 (F.transR hO L2.F) (F.sameR L2.F)
end
def Qs2 {f0 fA:En→SO} {fc:En→Out Bool} {fV f1 f2:En→Out PV} {iF iR iH iW iS iT iN:Nat} {ρ ρ':En} {x:Xn}:Qhv f0 fA fc fV f1 f2 iF iR iH iW iS iT iN ρ≠.xn x ρ':=fun h=>by
 unfold Qhv at h
 repeat' split at h
 all_goals cases h
def Qz9 {p:Pr} {B:Bs} {H:Hp} {G:Fw→Prop} {D:Ends} {o:SO} (n:∀ x ρ,o≠.xn x ρ) (h:SFin p B H G D o):SFin p.calm B H G D o:=by
 cases o with
 | xn x ρ1=>exact (n _ _ rfl).elim
 | nx ρ1=>exact h
 | bk ρ1=>exact h
 | ct ρ1=>exact h
 | rt r ρ1=>exact h
 | no=>exact h
abbrev tN0:TE:=tC (.int 0)
def Q31 {p:Pr} {D:Ends} {σ:St} {H:Hp} {K:Fz} {A0 A:S} {c V0 E1 E2:E} {iF iR iH iW iS iT iN:Nat} (hd:iF≠iR∧iR≠iH∧iF≠iH∧iF≠iW∧iR≠iW∧iF≠iT) (h:tS p (.nest iF iR iH iW iS iT iN A0 A c V0 E1 E2) D σ H) :
  Qgr (Qmf (Qkv (Qca (Qch iN) Qfs)) (Qcr iT) (Q3z p.calm K iF iR iH iW iS A0 A)) (Qxj (tT p.calm c) (Qh1 (tE p.calm V0) (Qps (tOp (Qjf K) (tOp (Qjf K) (Qch iF) tN0) (tE p.calm E1)) (tE p.calm E2) Qhr)) Qpr) D σ H:=by
 obtain ⟨B,G,ρ,F,hO,h⟩:=h
 unfold exS at h
 exact Qz8 (p:=p.calm) (fun _ _ _ q=>q) F hO hd.1 hd.2.1 hd.2.2.1 hd.2.2.2.1 hd.2.2.2.2.1 hd.2.2.2.2.2 (Qz9 (fun _ _=>Qs2) h)
def Q9d {X:Cx} {gY bP:Fs} {bH:List Fs} {p:Pr} {K:Fz} {A0 A s:S} {c V0 E1 E2:E} {iF iR iH iW iS iT iN:Nat} (hd:iF≠iR∧iR≠iH∧iF≠iH∧iF≠iW∧iR≠iW∧iF≠iT)
  (h1:QS X.nox gY (Qmf (Qkv (Qca (Qch iN) Qfs)) (Qcr iT) (Q3z p.calm K iF iR iH iW iS A0 A))) (h2:QS X.nox bP (Qxj (tT p.calm c) (Qh1 (tE p.calm V0) (Qps (tOp (Qjf K) (tOp (Qjf K) (Qch iF) tN0) (tE p.calm E1)) (tE p.calm E2) Qhr)) Qpr)) (h3:QB X bH (tS p s)) :
  QB X (gY::bP::bH) (tS p (.seq (.nest iF iR iH iW iS iT iN A0 A c V0 E1 E2) s)) :=
 (Qdj (Q2y h1) (Qdj (Q2y h2) h3)).weak fun D σ H h=>Q31 (D:={ D with nx:=tS p s D }) hd (Qst h)
def Q0a {X:Cx} {st:Fs} {bH:List Fs} {p:Pr} {s1 s2:S} {t:TS} (h1:QS X st (tS p s1)) (h2:QB X bH (Qgr (tS p s2) t)):QB X (st::bH) (Qgr (tS p (.seq s1 s2)) t) :=
 (Qdj h1 h2).weak fun D σ H h=>Qst (D:={ D with nx:=t D }) h
def Q5x {X:Cx} (K:Fz) (hK:X.K=K):QIx X (Qjf K):=⟨by subst hK;exact Qt5⟩
section
variable {X:Cx} {p:Pr} {body c8:List Fs} {b0:Fs} {n:Str} {np eK pos:Pos} {i:Nat} {b:S} {h:Nat→List Int→Option T}
end
section
variable {X:Cx} {p:Pr} {e:Fr} {es:List Fr} {aq:Es} {x nm:Str} {np aj pos:Pos} {c k:Nat} {D:Ends} {σ:St} {H:Hp}
end
section
variable {X:Cx} {p:Pr} {body c8:List Fs} {b0:Fs} {n:Str} {np eK pos:Pos} {i:Nat} {b:S} {h:Nat→List Int→Option T}
end
section
variable {X:Cx} {p:Pr} {a b c:Fr} {a' b' c':E} {pos:Pos}
end
section
variable {prog:Fu} {w:Ft} {A:Fv} {E:Fx→Fy→Prop} {s:Fy}
end
section
variable {X:Cx} {a b:Fr} {rest:List Fr} {ta tb:TE} {pos:Pos}
end
section
variable {cf:CF} {ρ:En}
end
section
variable {X:Cx} {aa:List (Fw×Obj)} {σ:St} {H:Hp} {s:Fy}
end
section
variable {X:Cx} {p:Pr}
end
section
variable {X:Cx} {p:Pr} {x:Str} {i n:Nat} {e:Fr} {es:List Fr} {aq:Es} {p1 pos:Pos}
end
structure LamSc (l:LamT):Prop where
 kind:l.scope.kind=.function
 co:l.scope.isCoroutine=false
 gen:l.scope.isGenerator=false
 nd:(l.ps++l.caps).Nodup
 par:∀ x∈l.ps,l.scope.names.lookup x=some .local
 cap:∀ x∈l.caps,l.scope.names.lookup x=some .free
 nocell:∀ y∈l.scope.names,y.2≠.cell
 free:∀ y∈l.scope.names,y.2=.free→y.1∈l.caps
 bind:∀ (cl:List (Str×Fw)) (pm ag eC:Fx) (us:List Fx),us.length=l.ps.length→bindArgs (PySem.W.kla_fn "<lambda>" l.qual l.params l.body l.scope cl pm ag eC) ⟨us,[]⟩=pure (l.ps.zip us)
section
variable {P:Fu} {w:Ft} {K:Fz} {mg:Str→Option Fx} {base:Fq}
abbrev swX (X:Cx) (g:Str→Bool):Cx:={ X with fn:=g }
structure QB0 (X:Cx) (g:Str→Bool) (st:List Fs) (t:TS):Prop where
 h:∀ (aa:List (Fw×Obj)) (s:Fy) (σ:St) (H:Hp) (D:Ends),Inv X aa σ H s→t D σ H→wpAny (model X.prog X.w) X.A (execs st X.env) (SP (swX X g) aa D) X.xe s
end
section
variable {K:Fz} {tb:Fw} {qn:Str} {mg:Str→Option Fx}
structure MakesL (K:Fz) (mg:Str→Option Fx) (x:Str) (c tb:Fw):Prop where
 tab:K.lookup tb=none
 of:Qse K mg x (.ref c)
 hd:∃ o vs gq tf ff tg ju gm tt,K.lookup c=some o∧o.cls=.type "code" ∧ o.data=.fields vs∧vs[11]?=some (.ref tb)∧vs.getD 11 .none=.ref tb∧vs.getD 18 .none=.str gq tf∧vs.getD 7 .none=.int ff tg∧vs.getD 9 .none=.bool ju∧vs.getD 10 .none=.int gm tt
end
section
variable {X:Cx} {p:Pr} {x:Str} {e:Fr} {es:List Fr} {aq:Es} {p1 pos:Pos}
end
abbrev uns (n:Nat):En:=List.replicate n .un
def Qdg (n i:Nat):Qa (uns n) i=.un:=by
 unfold Qa uns
 rw [Zb7]
 split <;> rename_i e
 ·split at e <;> cases e
  rfl
 ·rfl
abbrev bs0 (H:Hp):Bs:=⟨H,fun _=>False,fun _=>False,fun _=>False,fun _ _=>False⟩
def Q9e (H:Hp) {σ:St} {n:Nat} (hl:σ.length=n):FI (bs0 H) H (fun _=>False) σ (uns n) where
 len:=by rw [hl,Zb1]
 slot:=fun i=>by rw [Qdg];trivial
 apart:=fun i j a h _=>by obtain ⟨⟨t,e⟩,_⟩:=h;rw [Qdg] at e;cases e
 prv:=fun b h=>h.elim
 chg:=fun _ _ _ _ e=>e
 keep:=fun _ o e=>⟨o,e⟩
 newO:=fun a h=>by obtain ⟨i,t,e,_⟩:=h;rw [Qdg] at e;cases e
 newM:=fun a h=>by obtain ⟨i,t,e,_⟩:=h;rw [Qdg] at e;cases e
 fix:=fun i a h=>by obtain ⟨⟨t,e⟩,_⟩:=h;rw [Qdg] at e;rcases e with e | e | e <;> cases e
 gg:=fun _ h=>h
 gn:=fun _ h=>.inl h
 bp:=fun _ h=>h.elim
def Qlt (K:Fz):Sp:=fun vs H Q _=>∃ (a:Fw) (ns:List Int) (k:Nat),vs=[.ref a,.int k]∧SqL K H a (ns.map V.int)∧∀ i:Int,Q (.int i) H
abbrev Q0b (K:Fz) (hi:Int):TI:=Q2s K (tOp (Qm4 K) (Q47 (Qca (Qt2 (Qlt K) [] E0 (Qca (Qch 0) (Qca (tC (.int 0)) Qfs))) Qfs)) (tSl (Qx3 K) (Qch 0) (Qt4 (tC (.int 1))) (Qt4 (tC (.int hi)))))
def Q0c {p:Pr} {K:Fz} {σ:St} {H:Hp} {D:Ends} {a:Fw} {ns:List Int} {ic n:Nat} {body:S} {hi:Int} (hσ:σ[0]?=some (some (.ref a))) (hs:SqL K H a (ns.map V.int)) (bS:ns.length≤63) (hl:σ.length=n) (gS:ic<n)
  (hb:∀ m:Int,∃ ρ',exS p.cf body ((uns n).set ic (.fz (.int m)))=.nx ρ'∧ρ'.length=n) (hD:∀ σ' H',D.nx σ' H'):Qmf (Q0b K hi) (Qcr ic) (tS p body) D σ H:=by
 refine ⟨_,hσ,a,ns,0,rfl,hs,fun c0=>⟨by show 1≤sizeLine;decide,fun l7 n7=>?_⟩⟩
 have jD:=(Same.upd (o:=.lst [.int c0]) n7).seq hs
 refine ⟨_,hσ,_,rfl,_,rfl,.inl ⟨a,_,rfl,jD,fun l8 n8=>?_⟩⟩
 have jE:l7≠l8:=Qb1 Qt n8
 have bO:=Qgv (ns.map V.int) (some 1) (some hi)
 refine .inr (.inl ⟨l7,l8,_,_,rfl,rfl,by rw [Q3 jE,Qt],Qt,?_,fun l9 n9=>?_⟩)
 ·refine Qbo ?_
  rw [Zf] at bO
  show 1+_≤100000
  omega
 generalize hH9:upd (upd (upd H l7 (.lst [.int c0])) l8 (.lst (Qgu (ns.map V.int) (some 1) (some hi)))) l9 (.lst ([.int c0]++Qgu (ns.map V.int) (some 1) (some hi)))=H9
 have e9:H9 l9=some (.lst ([.int c0]++Qgu (ns.map V.int) (some 1) (some hi))):=by rw [←hH9,Qt]
 have gy:∀ x∈[V.int c0]++Qgu (ns.map V.int) (some 1) (some hi),∃ i:Int,x=.int i:=fun x hx=>by
  rcases Zah.mp hx with hx | hx
  ·exact ⟨c0,Zx.mp hx⟩
  ·have hx:=List.mem_of_mem_drop (List.mem_of_mem_take hx)
   obtain ⟨n,_,e⟩:=Z0.mp hx
   exact ⟨n,e.symm⟩
 refine ⟨l9,rfl,.inl ⟨⟨_,SqL.of e9⟩,Qxp (K:=K) (a:=l9) (xs:=[V.int c0]++Qgu (ns.map V.int) (some 1) (some hi)) (fun i σ H10=>σ.length=n∧H10 l9=some (.lst ([.int c0]++Qgu (ns.map V.int) (some 1) (some hi)))) ⟨hl,e9⟩ (fun i σ H10 _ h=>SqL.of h.2) ?_ ?_⟩⟩
 ·rintro i x σ2 H2 hx ⟨cm,e2⟩
  obtain ⟨m,rfl⟩:=gy x (Z2 hx)
  obtain ⟨ρ',eb,lb⟩:=hb m
  have F0:=(Q9e H2 cm).setFz (i:=ic) (v:=.int m) (t:=.int m) (by rw [Zb1];exact gS) Is.int
  refine ⟨bs0 H2,fun _=>False,_,F0,fun _ z=>z,?_⟩
  rw [eb]
  exact fun σ1 H1 G1 F1 _=>⟨by rw [F1.len,lb],F1.chg l9 _ (fun z=>z) (fun z=>z) e2⟩
 ·rintro σ2 H2 _
  exact hD σ2 H2
def Qs3 (K:Fz):Sp:=fun vs H Q _=>∃ (a:Fw) (ns:List Int),vs=[.ref a]∧SqL K H a (ns.map V.int)∧ns.length≤63∧∀ H',Q (.bl true) H'
def Qiz:Slot→Bool
 | .ml _=>false
 | _=>true
def Qu5:∀ {ρ:En},ρ.all Qiz=true→∀ k t,Qa ρ k≠.ml t
 | [],_,k,t,e=>by rw [Qfz] at e;cases e
 | s::ρ,h,0,t,e=>by
  rw [Qb] at e
  subst e
  simp [Qiz] at h
 | s::ρ,h,k+1,t,e=>by
  rw [Za7,Zm] at h
  rw [Qc] at e
  exact Qu5 h.2 k t e
def Qlu {js:List (Option Nat)} {ρi:En} (h:ρi.all Qiz=true):∀ (ρ:En) (n:Nat),Qdk js ρi n ρ=ρ
 | [],_=>rfl
 | s::ρ,n=>by
  unfold Qdk
  rw [Qlu h ρ (n+1)]
  rcases Qdq js ρi n s with e | ⟨k,t,_,e,_⟩
  ·rw [e]
  ·exact absurd e (Qu5 h k t)
def Q32 {js:List (Option Nat)} {ρi ρ:En} (h:ρi.all Qiz=true):Qk9 js ρi ρ=ρ:=Qlu h ρ 0
def Qqz:∀ {ρ0 ρ:En},ρ0.all Qiz=true→ρ0.length=ρ.length→Qff ρ0 ρ=true
 | [],[],_,_=>rfl
 | [],_::_,_,h=>by cases h
 | _::_,[],_,h=>by cases h
 | s0::ρ0,s::ρ,h,hl=>by
  rw [Za7,Zm] at h
  have q:=Qqz (ρ0:=ρ0) (ρ:=ρ) h.2 (by simpa using hl)
  cases s0 <;> first | exact q | (simp [Qiz] at h)
def Qab:Slot→Bool
 | .un=>true
 | .fz _=>true
 | _=>false
def Q0d {s:Slot} {rest:En} {x:T} (h:Qab s=true):Qcl (.nm 0) x (s::rest)=some (.fz x::rest):=by
 cases s <;> first | rfl | cases h
def Qlv {c:En→Out Bool} {el:En→Out PV} {rest:En} {g:T→Bool} {f:T→T}:∀ {xs acc:List T} {s0:Slot},Qab s0=true→(∀ x∈xs,c (.fz x::rest)=.ok (g x) (.fz x::rest))→(∀ x∈xs,g x=true→∃ r,el (.fz x::rest)=.ok r (.fz x::rest)∧frz r=some (f x))→acc.length+xs.length≤100000 →
  ∃ s,Qfe (.nm 0) c el xs acc (s0::rest)=.ok (acc++(xs.filter g).map f) (s::rest)∧Qab s=true
 | [],acc,s0,h0,hc,he,hz=>⟨s0,by unfold Qfe;simp,h0⟩
 | x::xs,acc,s0,h0,hc,he,hz=>by
  rw [Zh] at hz
  have ih:=fun c6 (ee:c6.length+xs.length≤100000)=>Qlv (c:=c) (el:=el) (rest:=rest) (g:=g) (f:=f) (xs:=xs) (acc:=c6) (s0:=.fz x) rfl (fun y hy=>hc y (Zak _ hy)) (fun y hy=>he y (Zak _ hy)) ee
  unfold Qfe
  rw [Q0d h0]
  simp only [hc x Za8,Out.bind]
  cases hg:g x with
  | false =>
   obtain ⟨s,e,o⟩:=ih acc (by omega)
   refine ⟨s,?_,o⟩
   simp only [Zaa,Za2,e,Zdc,hg]
  | true =>
   obtain ⟨r,er,fr⟩:=he x Za8 hg
   simp only [Zr,er,fr]
   have za:acc.length<100000:=by omega
   rw [Zb za]
   obtain ⟨s,e,o⟩:=ih (acc++[f x]) (by rw [Zq,Zb3];omega)
   refine ⟨s,?_,o⟩
   simp only [e,Zdc,hg,Zr,Zaq,Zao,List.singleton_append]
def Qi0 {cf:CF} {w:W} {js:List (Option Nat)} {cs:Es} {e:E} {ρ rest:En} {xs:List T} {g:T→Bool} {f:T→T} (hw:evW cf w ρ=.ok (xs,none) ρ) (b7:Qd3 js ρ=.un::rest) (cF:rest.all Qiz=true) (dC:Qcj js=true)
  (hc:∀ x∈xs,evC cf cs (.fz x::rest)=.ok (g x) (.fz x::rest)) (he:∀ x∈xs,g x=true→∃ r,evE cf e (.fz x::rest)=.ok r (.fz x::rest)∧frz r=some (f x)) (hz:xs.length≤100000) :
  evE cf (.comp w js (.nm 0) cs e) ρ=.ok (.ow (.lst ((xs.filter g).map f))) ρ:=by
 obtain ⟨s,e1,o⟩:=Qlv (c:=evC cf cs) (el:=evE cf e) (rest:=rest) (g:=g) (f:=f) (xs:=xs) (acc:=[]) (s0:=.un) rfl hc he (by simpa using hz)
 have hs:(s::rest).all Qiz=true:=by
  rw [Za7,cF]
  cases s <;> first | rfl | cases o
 unfold evE
 rw [hw]
 simp only [Out.bind,b7,e1]
 rw [Zb ⟨Qqz (by rw [Za7,cF];rfl) rfl,dC⟩,Q32 hs]
 rfl
def Qcd {cf:CF} {w:W} {js:List (Option Nat)} {e:E} {ρ rest:En} {xs:List T} {f:T→T} (hw:evW cf w ρ=.ok (xs,none) ρ) (b7:Qd3 js ρ=.un::rest) (cF:rest.all Qiz=true) (dC:Qcj js=true)
  (he:∀ x∈xs,∃ r,evE cf e (.fz x::rest)=.ok r (.fz x::rest)∧frz r=some (f x)) (hz:xs.length≤100000) :
  evE cf (.comp w js (.nm 0) .nil e) ρ=.ok (.ow (.lst (xs.map f))) ρ:=by
 rw [Qi0 (g:=fun _=>true) (f:=f) hw b7 cF dC (fun x _=>by unfold evC;rfl) (fun x hx _=>he x hx) hz,List.filter_eq_self.mpr (fun _ _=>rfl)]
def Qdr {tg:Tg} {b:En→SO} (J:Nat→En→Prop):∀ {xs:List T} {n:Nat} {ρ:En},J n ρ→(∀ (i:Nat) x ρ,xs[i]?=some x→J (n+i) ρ→∃ ρ1 ρ2,Qcl tg x ρ=some ρ1∧(b ρ1=.nx ρ2∨b ρ1=.ct ρ2)∧J (n+i+1) ρ2)→∃ ρ',Qap tg b xs ρ=.nx ρ'∧J (n+xs.length) ρ'
 | [],n,ρ,h,_=>⟨ρ,rfl,h⟩
 | x::xs,n,ρ,h,hs=>by
  obtain ⟨ρ1,ρ2,e1,e2,j⟩:=hs 0 x ρ rfl h
  obtain ⟨ρ',e3,j3⟩:=Qdr (tg:=tg) (b:=b) J (xs:=xs) (n:=n+1) (ρ:=ρ2) (by simpa using j) fun i y ρ hy hj=>by
   have:=hs (i+1) y ρ (by rw [Zl];exact hy) (by rw [show n+(i+1)=n+1+i by omega];exact hj)
   rw [show n+(i+1)+1=n+1+i+1 by omega] at this
   exact this
  refine ⟨ρ',?_,by rw [Zh,show n+(xs.length+1)=n+1+xs.length by omega];exact j3⟩
  unfold Qap
  rw [e1]
  rcases e2 with e2 | e2 <;> simp only [e2] <;> exact e3
def Q9f (Q:Df→Prop):List Df→Prop
 | []=>True
 | d::ds=>Q d∧Q9f Q ds
def Q0e {Q:Df→Prop}:∀ {ds:List Df},Q9f Q ds→∀ (f:Nat) (d:Df),ds[f]?=some d→Q d
 | [],_,f,d,e=>by simp at e
 | c::ds,h,0,d,e=>by simp at e;subst e;exact h.1
 | c::ds,h,f+1,d,e=>by rw [Zl] at e;exact Q0e h.2 f d e
variable {cf:CF} {ρ ρ1 ρ2:En} {α β:Type}
def Q0 {a:α} {k:α→En→Out β}:(Out.ok a ρ).bind k=k a ρ:=rfl
def Q2 (i:Nat) (ρ:En):Slot→Out PV
 | .fz t=>.ok (.fz t) ρ
 | .un=>.no
 | .pin _=>.no
 | .fx t=>.ok (.fz t) ρ
 | _=>.ok (.sl i) ρ
def Qn {i:Nat}:evE cf (.var i) ρ=Q2 i ρ (Qa ρ i):=by rw [evE];cases Qa ρ i <;> rfl
def Qa3 {i:Int}:evE cf (.int i) ρ=.ok (.fz (.int i)) ρ:=by rw [evE]
def Q9g {i:Bool}:evE cf (.bl i) ρ=.ok (.fz (.bl i)) ρ:=by rw [evE]
def Qgp:evE cf .non ρ=.ok (.fz .non) ρ:=by rw [evE]
def Qlw (rs:List PV) (ρ:En):Out PV:=match Qbw rs with
 | some ts=>if ts.length≤100000 then .ok (.fz (.tup ts)) ρ else .no
 | none=>.no
def Qf3 (rs:List PV) (ρ:En):Out PV:=match Qbw rs with
 | some ts=>if ts.length≤100000 then .ok (.ow (.lst ts)) ρ else .no
 | none=>.no
def Qhx {es:Es}:evE cf (.tup es) ρ=(evA cf es ρ).bind Qlw:=by rw [evE];rfl
def Qc7 {es:Es}:evE cf (.lst es) ρ=(evA cf es ρ).bind Qf3:=by rw [evE];rfl
def Qc8 (o:BOp) (ρ:En):Option T→Option T→Out PV
 | some x,some y=>.opt (opB o x y) ρ
 | _,_=>.no
def Qc9 (o:BOp) (ra rb:PV) (ρ:En):Out PV:=Qc8 o ρ (cont ρ ra) (cont ρ rb)
def Qda (cf:CF) (o:BOp) (b:E) (ra:PV) (ρ:En):Out PV:=(evE cf b ρ).bind (Qc9 o ra)
def Qds {o:BOp} {a b:E}:evE cf (.bin o a b) ρ=(evE cf a ρ).bind (Qda cf o b):=by rw [evE];rfl
def Qww:PV→En→Out PV
 | .fz (.int i),ρ=>.ok (.fz (.int (-i))) ρ
 | _,_=>.no
def Qq0 {a:E}:evE cf (.neg a) ρ=(evE cf a ρ).bind Qww:=by rw [evE];congr 1;funext r ρ1;cases r with
 | fz t=>cases t <;> rfl
 | ow t=>rfl
 | sl i=>rfl
def yBl:PV→En→Out Bool
 | .fz (.bl b),ρ=>.ok b ρ
 | _,_=>.no
def Qw {o:Out PV}:Q6 o=o.bind yBl:=by unfold Q6;congr 1;funext r ρ1;cases r with
 | fz t=>cases t <;> rfl
 | ow t=>rfl
 | sl i=>rfl
def Qmo (b:Bool) (ρ:En):Out PV:=.ok (.fz (.bl (!b))) ρ
def Qi1 {a:E}:evE cf (.not a) ρ=(Q6 (evE cf a ρ)).bind Qmo:=by rw [evE];rfl
def yB (b:Bool) (ρ:En):Out PV:=.ok (.fz (.bl b)) ρ
def Qq1 (cf:CF) (b:E):Bool→En→Out PV
 | true,ρ=>(Q6 (evE cf b ρ)).bind yB
 | false,ρ=>.ok (.fz (.bl false)) ρ
def yOr (cf:CF) (b:E):Bool→En→Out PV
 | false,ρ=>(Q6 (evE cf b ρ)).bind yB
 | true,ρ=>.ok (.fz (.bl true)) ρ
def Qlx {a b:E}:evE cf (.and a b) ρ=(Q6 (evE cf a ρ)).bind (Qq1 cf b):=by rw [evE];congr 1;funext c ρ1;cases c <;> rfl
def Qq2 {a b:E}:evE cf (.or a b) ρ=(Q6 (evE cf a ρ)).bind (yOr cf b):=by rw [evE];congr 1;funext c ρ1;cases c <;> rfl
def Qaw (ρ:En):Option Bool→Out PV
 | some k=>.ok (.fz (.bl k)) ρ
 | none=>.no
def Qax (o:COp) (ρ:En):Option T→Option T→Out PV
 | some x,some y=>Qaw ρ (opC o x y)
 | _,_=>.no
def Qay (o:COp) (ra rb:PV) (ρ:En):Out PV:=Qax o ρ (cont ρ ra) (cont ρ rb)
def Qaz (cf:CF) (o:COp) (b:E) (ra:PV) (ρ:En):Out PV:=(evE cf b ρ).bind (Qay o ra)
def Qa4 {o:COp} {a b:E}:evE cf (.cmp o a b) ρ=(evE cf a ρ).bind (Qaz cf o b):=by
 rw [evE]
 rfl
def Qq3 (n:String) (ρ:En):Option T→Out PV
 | some t=>if Qk7 n && !Qhs t then .ok (.fz (.bl (Qk1 (tyT t) n))) ρ else .no
 | none=>.no
def Q0f (n:String) (ra:PV) (ρ:En):Out PV:=Qq3 n ρ (cont ρ ra)
def Qu6 {a:E} {n:String}:evE cf (.isI a n) ρ=(evE cf a ρ).bind (Q0f n):=by
 rw [evE]
 rfl
def Qaj {f:Nat} {es:Es}:evE cf (.call f es) ρ=(evA cf es ρ).bind (Qio cf f):=by rw [evE]
def Q33 {f:Nat} {es:Es}:evE cf (.tcall f es) ρ=(evA cf es ρ).bind (Qk8 cf f):=by rw [evE]
def Qc3 (b:Bi) (ρ:En):Option (List T)→Out PV
 | some ts=>.opt (Qke b ts) ρ
 | none=>.no
def yBi (b:Bi) (rs:List PV) (ρ:En):Out PV:=Qc3 b ρ (Qa2 ρ rs)
def Qdh {b:Bi} {es:Es}:evE cf (.bi b es) ρ=(evA cf es ρ).bind (yBi b):=by
 rw [evE]
 rfl
def Qfj (ρ:En):Option T→Out PV
 | some t=>.ok (.fz t) ρ
 | none=>.no
def Qfk (ρ:En):Option T→Option T→Out PV
 | some x,some y=>Qfj ρ (Qy0 x y)
 | _,_=>.no
def Qfl (ra rb:PV) (ρ:En):Out PV:=Qfk ρ (cont ρ ra) (cont ρ rb)
def Qfm (cf:CF) (b:E) (ra:PV) (ρ:En):Out PV:=(evE cf b ρ).bind (Qfl ra)
def Qf4 {a b:E}:evE cf (.ix a b) ρ=(evE cf a ρ).bind (Qfm cf b):=by
 rw [evE]
 rfl
def Qadb (ρ:En):PV→Option (List Int)→Out PV
 | .fz (.int j),some is=>.ok (.fz (.int (is.count j:Nat))) ρ
 | _,_=>.no
def Qadc (ts:List T) (rb:PV) (ρ:En):Out PV:=Qadb ρ rb (Qb8 ts)
def yCnt1 (cf:CF) (b:E):PV→En→Out PV
 | .fz (.tup ts),ρ=>(evE cf b ρ).bind (Qadc ts)
 | _,_=>.no
def Q9h (l h:Option Int) (ρ:En):Option T→Out PV
 | some x=>.opt (Q25 x l h) ρ
 | none=>.no
def Q0g (ra:PV) (l:Option Int) (ρ:En):Option (Option Int)→Out PV
 | none=>.no
 | some h=>Q9h l h ρ (cont ρ ra)
def Q9i (ra:PV) (l:Option Int) (rh:List PV) (ρ:En):Out PV:=Q0g ra l ρ (Qmk rh)
def Q0h (cf:CF) (hi:Es) (ra:PV) (ρ:En):Option (Option Int)→Out PV
 | none=>.no
 | some l=>(evA cf hi ρ).bind (Q9i ra l)
def Q9j (cf:CF) (hi:Es) (ra:PV) (rl:List PV) (ρ:En):Out PV:=Q0h cf hi ra ρ (Qmk rl)
def Q9k (cf:CF) (lo hi:Es) (ra:PV) (ρ:En):Out PV:=(evA cf lo ρ).bind (Q9j cf hi ra)
def Q5y {a:E} {lo hi:Es}:evE cf (.slc a lo hi) ρ=(evE cf a ρ).bind (Q9k cf lo hi):=by
 rw [evE]
 rfl
def Q0i (l:Bool):PV→En→Out PV
 | .fz (.int j),ρ=>if j.natAbs≤100000 then .ok (if l then .ow (.lst (Qad 0 j.toNat)) else .fz (.tup (Qad 0 j.toNat))) ρ else .no
 | _,_=>.no
def Q0j {l:Bool} {a:E}:evE cf (.tupR l a) ρ=(evE cf a ρ).bind (Q0i l):=by
 rw [evE]
 congr 1;funext r ρ1
 cases r with
 | fz t=>cases t <;> rfl
 | ow t=>rfl
 | sl i=>rfl
def Qs:evA cf .nil ρ=.ok [] ρ:=by rw [evA]
def yC2 (r:PV) (rs:List PV) (ρ:En):Out (List PV):=.ok (r::rs) ρ
def yC1 (cf:CF) (es:Es) (r:PV) (ρ:En):Out (List PV):=(evA cf es ρ).bind (yC2 r)
def Qp {e:E} {es:Es}:evA cf (.cons e es) ρ=(evE cf e ρ).bind (yC1 cf es):=by rw [evA];rfl
def Qfn (r:PV) (ρ:En):Option (List T)→Out (List T×Option Nat)
 | some ts=>.ok (ts,Qfx r) ρ
 | none=>.no
def Qfo (r:PV) (ρ:En):Option T→Out (List T×Option Nat)
 | some t=>Qfn r ρ (Qcc t)
 | none=>.no
def Qjo (r:PV) (ρ:En):Out (List T×Option Nat):=Qfo r ρ (cont ρ r)
def Qgq {e:E}:evW cf (.seq e) ρ=(evE cf e ρ).bind Qjo:=by
 rw [evW]
 rfl
def Qq4:PV→En→Out (List T×Option Nat)
 | .fz (.int j),ρ=>if j.natAbs≤100000 then .ok (Qad 0 j.toNat,none) ρ else .no
 | _,_=>.no
def Qf5 {a:E}:evW cf (.rng1 a) ρ=(evE cf a ρ).bind Qq4:=by
 rw [evW]
 congr 1;funext r ρ1
 cases r with
 | fz t=>cases t <;> rfl
 | ow t=>rfl
 | sl i=>rfl
def Q0k:PV→PV→En→Out (List T×Option Nat)
 | .fz (.int i),.fz (.int j),ρ=>if i.natAbs≤100000∧j.natAbs≤100000 then .ok (Qad i (j-i).toNat,none) ρ else .no
 | _,_,_=>.no
def Q5z (cf:CF) (b:E) (r:PV) (ρ:En):Out (List T×Option Nat):=(evE cf b ρ).bind (Q0k r)
def Q9l {a b:E}:evW cf (.rng2 a b) ρ=(evE cf a ρ).bind (Q5z cf b):=by
 rw [evW]
 congr 1;funext r ρ1
 show _=(evE cf b ρ1).bind _
 congr 1;funext r2 ρ2
 cases r with
 | fz t=>cases t <;> cases r2 <;> first | rfl | (rename_i u;cases u <;> rfl)
 | ow t=>cases r2 <;> rfl
 | sl i=>cases r2 <;> rfl
def Qag (rs:List PV) (ρ:En):FR→Out PV
 | .ok r fin=>.ok r (Qa9 ρ rs fin)
 | .xn x fin=>.xn x (Qa9 ρ rs fin)
 | .no=>.no
def Qah (cf:CF) (f:Nat) (rs:List PV) (ρ:En):Option (List Arg)→Out PV
 | some as=>Qag rs ρ (cf f as)
 | none=>.no
def Q34 {f:Nat} {rs:List PV} (h:Qz rs=true):Qio cf f rs ρ=Qah cf f rs ρ (Q1 ρ rs):=by
 unfold Qio
 rw [Zb h]
 cases Q1 ρ rs with
 | none=>rfl
 | some as =>
  show (match cf f as with | .ok r fin=>Out.ok r (Qa9 ρ rs fin) | .xn x fin=>.xn x (Qa9 ρ rs fin) | .no=>.no)=Qag rs ρ (cf f as)
  cases cf f as <;> rfl
def Qam {a:α} {k:α→En→SO}:ofO (.ok a ρ) k=k a ρ:=rfl
def Qbc {k:En→SO}:(SO.nx ρ).seq k=k ρ:=rfl
def Qq5 {r:PV} {k:En→SO}:(SO.rt r ρ).seq k=.rt r ρ:=rfl
def Qco:exS cf .nil ρ=.nx ρ:=by rw [exS]
def Qac {a b:S}:exS cf (.seq a b) ρ=(exS cf a ρ).seq (exS cf b):=by rw [exS]
def Qnu (_:PV) (ρ:En):SO:=.nx ρ
def Qly {e:E}:exS cf (.expr e) ρ=ofO (evE cf e ρ) Qnu:=by rw [exS];rfl
def Qj4 {i:Nat} {e:E}:exS cf (.set i e) ρ=ofO (evE cf e ρ) (Qla i):=by rw [exS]
def Qbj (i:Nat) (ρ:En):Option T→SO
 | some t=>Qae (Qbi i (.fz t) ρ) .nx
 | none=>.no
def Qcb (i:Nat) (r:PV) (ρ:En):SO:=Qbj i ρ (frz r)
def Qbe {i:Nat} {e:E}:exS cf (.setF i e) ρ=ofO (evE cf e ρ) (Qcb i):=by
 rw [exS]
 rfl
def yUnp (is:List Nat):PV→En→SO
 | .fz (.tup ts),ρ=>Qae (Qbl is ts ρ) .nx
 | _,_=>.no
def Qade {is:List Nat} {e:E}:exS cf (.unp is e) ρ=ofO (evE cf e ρ) (yUnp is):=by
 rw [exS]
 congr 1;funext r ρ1
 cases r with
 | fz t=>cases t <;> rfl
 | ow t=>rfl
 | sl i=>rfl
def Q50 (i j:Nat):PV→PV→En→SO
 | .fz x,.fz y,ρ=>Qae (Qbl [i,j] [x,y] ρ) .nx
 | _,_,_=>.no
def Q51 (cf:CF) (i j:Nat) (b:E) (ra:PV) (ρ:En):SO:=ofO (evE cf b ρ) (Q50 i j ra)
def Qadf {i j:Nat} {a b:E}:exS cf (.par i j a b) ρ=ofO (evE cf a ρ) (Q51 cf i j b):=by
 rw [exS]
 congr 1;funext ra ρ1
 show _=ofO (evE cf b ρ1) _
 congr 1;funext rb ρ2
 cases ra <;> cases rb <;> rfl
def Qq6 (i:Nat) (ρ:En) (t:T):Slot→SO
 | .ow (.lst ts)=>if ts.length<100000 then .nx (ρ.set i (.ow (.lst (ts++[t])))) else .no
 | .ml (.lst ts)=>if ts.length<100000 then .nx (ρ.set i (.ml (.lst (ts++[t])))) else .no
 | _=>.no
def Qq7 (i:Nat) (ρ:En):Option T→SO
 | none=>.no
 | some t=>Qq6 i ρ t (Qa ρ i)
def Qwx (i:Nat) (r:PV) (ρ:En):SO:=Qq7 i ρ (frz r)
def Qadg {i:Nat} {e:E} (h:(Qa ρ i).mut=true):exS cf (.app i e) ρ=ofO (evE cf e ρ) (Qwx i):=by
 rw [exS,Zb h]
 rfl
def Q52 (i:Nat) (ρ:En) (us:List T):Slot→SO
 | .ow (.lst ts)=>if ts.length+us.length≤100000 then .nx (ρ.set i (.ow (.lst (ts++us)))) else .no
 | .ml (.lst ts)=>if ts.length+us.length≤100000 then .nx (ρ.set i (.ml (.lst (ts++us)))) else .no
 | _=>.no
def Q9m (i:Nat):PV→En→SO
 | .fz (.tup us),ρ=>Q52 i ρ us (Qa ρ i)
 | _,_=>.no
def Qadh {i:Nat} {e:E} (h:(Qa ρ i).mut=true):exS cf (.ext i e) ρ=ofO (evE cf e ρ) (Q9m i):=by
 rw [exS,Zb h]
 congr 1;funext r ρ1
 cases r with
 | fz t=>cases t <;> rfl
 | ow t=>rfl
 | sl i=>rfl
def Q0l (i:Nat) (t:T) (j:Int) (ρ:En):Slot→SO
 | .ow (.lst ts)=>Qae (ixN ts.length j) fun n=>.nx (ρ.set i (.ow (.lst (ts.set n t))))
 | .ml (.lst ts)=>Qae (ixN ts.length j) fun n=>.nx (ρ.set i (.ml (.lst (ts.set n t))))
 | _=>.no
def Qu7 (i:Nat) (t:T):PV→En→SO
 | .fz (.int j),ρ=>Q0l i t j ρ (Qa ρ i)
 | _,_=>.no
def Q0m (cf:CF) (i:Nat) (k:E) (ρ:En):Option T→SO
 | none=>.no
 | some t=>if (Qa ρ i).mut=true then ofO (evE cf k ρ) (Qu7 i t) else .no
def Q35 (cf:CF) (i:Nat) (k:E) (r:PV) (ρ:En):SO:=Q0m cf i k ρ (frz r)
def Q53 {i:Nat} {k e:E}:exS cf (.put i k e) ρ=ofO (evE cf e ρ) (Q35 cf i k):=by
 rw [exS]
 congr 1;funext r ρ1
 unfold Q35
 cases frz r with
 | none=>rfl
 | some t =>
  show _=(if (Qa ρ1 i).mut=true then ofO (evE cf k ρ1) (Qu7 i t) else .no)
  by_cases h:(Qa ρ1 i).mut=true
  ·simp only [Zb h]
   congr 1;funext rk ρ2
   cases rk with
   | fz u=>cases u <;> rfl
   | ow u=>rfl
   | sl j=>rfl
  ·simp only [Zd h]
def Qop {i:Nat} {e:E}:exS cf (.app i e) ρ=if (Qa ρ i).mut=true then ofO (evE cf e ρ) (Qwx i) else .no:=by
 by_cases h:(Qa ρ i).mut=true
 ·rw [Zb h,Qadg h]
 ·rw [Zd h,exS,Zd h]
def Q9n {i:Nat} {e:E}:exS cf (.ext i e) ρ=if (Qa ρ i).mut=true then ofO (evE cf e ρ) (Q9m i) else .no:=by
 by_cases h:(Qa ρ i).mut=true
 ·rw [Zb h,Qadh h]
 ·rw [Zd h,exS,Zd h]
def Q8 {f:Nat} {rs:List PV}:Qio cf f rs ρ=if Qz rs=true then Qah cf f rs ρ (Q1 ρ rs) else .no:=by
 by_cases h:Qz rs=true
 ·rw [Zb h,Q34 h]
 ·rw [Zd h];unfold Qio;rw [Zd h]
def Qd5 (r:PV) (ρ:En):SO:=.rt r ρ
def Qb6 {e:E}:exS cf (.ret e) ρ=ofO (evE cf e ρ) Qd5:=by rw [exS];rfl
def yIf (cf:CF) (a b:S):Bool→En→SO
 | true,ρ=>exS cf a ρ
 | false,ρ=>exS cf b ρ
def Qbm {c:E} {a b:S}:exS cf (.ite c a b) ρ=ofO (Q6 (evE cf c ρ)) (yIf cf a b):=by rw [exS];congr 1;funext k ρ1;cases k <;> rfl
def Qfp (cf:CF) (tg:Tg) (b:S):List T×Option Nat→En→SO
 | (ts,none),ρ=>Qap tg (exS cf b) ts ρ
 | (_,some _),_=>.no
def Qdb {w:W} {tg:Tg} {b:S}:exS cf (.for_ w tg b) ρ=Qhu (ofO (evW cf w ρ) (Qfp cf tg b)):=by
 rw [exS]
 congr 2;funext ac ρ1
 obtain ⟨ts,lk⟩:=ac
 cases lk <;> rfl
def Qbn (r:PV):Option (List T)→FR
 | some fin=>.ok r fin
 | none=>.no
def Qbt (o:Option (List T)):Option PV→FR
 | some r=>Qbn r o
 | none=>.no
def Qd6 (as:List Arg):SO→FR
 | .nx ρ=>Qbn (.fz .non) (Qaa as ρ)
 | .rt r ρ=>Qbt (Qaa as ρ) (Qbd ρ r)
 | .xn x ρ=>match Qaa as ρ with
  | some fin=>.xn x fin
  | none=>.no
 | _=>.no
def Qcp {fn:Fn} {as:List Arg} (h:as.length=fn.ps):Qcv cf fn as=Qd6 as (exS cf fn.body (Qe7 fn as)):=by
 unfold Qcv
 rw [Zb h]
 cases exS cf fn.body (Qe7 fn as) with
 | nx ρ=>show (match Qaa as ρ with | some fin=>FR.ok (.fz .non) fin | none=>.no)=Qbn _ (Qaa as ρ);cases Qaa as ρ <;> rfl
 | rt r ρ =>
  show (match Qbd ρ r,Qaa as ρ with | some r,some fin=>FR.ok r fin | _,_=>.no)=Qbt (Qaa as ρ) (Qbd ρ r)
  cases Qbd ρ r <;> cases Qaa as ρ <;> rfl
 | xn x ρ=>rfl
 | bk ρ=>rfl
 | ct ρ=>rfl
 | no=>rfl
section
variable {b:Bool} {i:Int} {x:Str} {ts:List T}
def Qlz:Qk7 "tuple" = true:=rfl
def Q36:Qk7 "list" = true:=rfl
def Qf6:Qk1 (tyT (.tup ts)) "tuple" = true:=rfl
def Qq8:Qk1 (tyT (.lst ts)) "list" = true:=rfl
end
def Q0n {as:List Arg} {ρ:En}:Qd6 as (.nx ρ)=Qbn (.fz .non) (Qaa as ρ):=rfl
def Qbf {as:List Arg} {ρ:En} {r:PV}:Qd6 as (.rt r ρ)=Qbt (Qaa as ρ) (Qbd ρ r):=rfl
def Qbs {ρ:En}:Qhu (.nx ρ)=.nx ρ:=rfl
def Qoq {ρ:En} {r:PV}:Qhu (.rt r ρ)=.rt r ρ:=rfl
def Qg4 {α:Type} (g:α→Bool):∀ (xs:List α),Qgy (xs.map fun x=>T.bl (g x))=some (xs.map g)
 | []=>rfl
 | x::xs=>by
  rw [Zaq,Zaq]
  unfold Qgy
  rw [Qg4 g xs]
  rfl
def Qwy (n:Nat) (xs:List Int):Ql (n+1) (.tup (xs.map T.int))=true:=by
 rw [Ql,Z1]
 intro t ht
 obtain ⟨i,_,rfl⟩:=Z0.mp ht
 simp [Ql]
def at_0 {a:T} {l:List T}:atI (a::l) 0=some a:=by
 have:atI (a::l) ((0:Nat):Int)=some a:=Qcs rfl
 exact this
def at_1 {a b:T} {l:List T}:atI (a::b::l) 1=some b:=by
 have:atI (a::b::l) ((1:Nat):Int)=some b:=Qcs rfl
 exact this
def Q54 {n:Nat}:ixN (n+1) 0=some 0:=by
 unfold ixN
 rw [Zb (by omega),Zb (by omega)]
 rfl
inductive All2 (F:T→T→Prop):List T→List T→Prop where
 | nil:All2 F [] []
 | cons {x y xs ys}:F x y→All2 F xs ys→All2 F (x::xs) (y::ys)
inductive Ran (F:T→T→Prop):List T→List T→Prop where
 | nil:Ran F [] []
 | skip {x xs ys}:Ran F xs ys→Ran F (x::xs) ys
 | take {x y xs ys}:F x y→Ran F xs ys→Ran F (x::xs) (y::ys)
variable {cf:CF} {P:T→Prop} {F:T→T→Prop} {rest:T→En}
def Qu8 {e:E} {ρ:En}:evC cf (.cons e .nil) ρ=Q6 (evE cf e ρ):=by rw [evC]
def rngI {j:Int} {ρ:En} (h0:0≤j) (h:j≤100000):Qq4 (.fz (.int j)) ρ=.ok (Qad 0 j.toNat,none) ρ:=by
 show (if j.natAbs≤100000 then _ else _)=_
 rw [Zb (by omega)]
def Qq9 {n:Nat} {ρ:En} (h:n≤100000):Qq4 (.fz (.int (n:Int))) ρ=.ok (Qad 0 n,none) ρ:=by
 rw [rngI (by omega) (by omega),Zaw]
def Qor {α:Type} {xs:List α}:Qgy (xs.map fun _=>T.bl true)=some (xs.map fun _=>true):=Qg4 (fun _=>true) xs
def Qs4 {α:Type} {xs:List α}:(xs.map fun _=>true).all id=true:=by rw [Z1];intro b hb;obtain ⟨_,_,rfl⟩:=Z0.mp hb;rfl
def rngA {j:Int} {ρ:En} (h:j.natAbs≤100000):Qq4 (.fz (.int j)) ρ=.ok (Qad 0 j.toNat,none) ρ:=by
 show (if j.natAbs≤100000 then _ else _)=_
 rw [Zb h]
def Qev {i j:Int}:eqO (.int i) (.int j)=some (decide (i=j)):=rfl
def Q0o {i j:Bool}:eqO (.bl i) (.bl j)=some (decide (i=j)):=rfl
def Qel {a:Fw} {n i:Nat}:Qa (.pin a::uns n) i=.un∨(i=0∧Qa (.pin a::uns n) i=.pin a):=by
 cases i with
 | zero=>exact .inr ⟨rfl,rfl⟩
 | succ i=>left;rw [Qc];exact Qdg n i
def Q9o (H:Hp) {σ:St} {n:Nat} {a:Fw} (hl:σ.length=n+1) (h0:σ[0]?=some (some (.ref a))):FI (bs0 H) H (fun _=>False) σ (.pin a::uns n) where
 len:=by rw [hl,Zh,Zb1]
 slot:=fun i=>by
  rcases Qel (a:=a) (n:=n) (i:=i) with e | ⟨rfl,e⟩
  ·rw [e];trivial
  ·rw [e];exact h0
 apart:=fun i j b h _=>by
  obtain ⟨⟨t,e⟩,_⟩:=h
  rcases Qel (a:=a) (n:=n) (i:=i) with z | ⟨_,z⟩ <;> rw [z] at e <;> cases e
 prv:=fun b h=>h.elim
 chg:=fun _ _ _ _ e=>e
 keep:=fun _ o e=>⟨o,e⟩
 newO:=fun b h=>by
  obtain ⟨i,t,e,_⟩:=h
  rcases Qel (a:=a) (n:=n) (i:=i) with z | ⟨_,z⟩ <;> rw [z] at e <;> cases e
 newM:=fun b h=>by
  obtain ⟨i,t,e,_⟩:=h
  rcases Qel (a:=a) (n:=n) (i:=i) with z | ⟨_,z⟩ <;> rw [z] at e <;> cases e
 fix:=fun i b h=>by
  obtain ⟨⟨t,e⟩,_⟩:=h
  rcases Qel (a:=a) (n:=n) (i:=i) with z | ⟨_,z⟩ <;> rw [z] at e <;> rcases e with e | e | e <;> cases e
 gg:=fun _ h=>h
 gn:=fun _ h=>.inl h
 bp:=fun _ h=>h.elim
abbrev Q55 (p:Pr) (K:Fz) (pre:S) (ic:Nat) (hi:Int) (body:S):TS:=Qgr (tS p pre) (Qgr (Qmf (Q0b K hi) (Qcr ic) (tS p body)) (Q6r (tC (.bl true))))
def Q37 {p:Pr} {K:Fz} {H:Hp} {vs:List V} {Q:VK} {E:XK} {N:List Str} {pre:S} {ic:Nat} {hi:Int} {body:S} (h:Qs3 K vs H Q E) (hN:1≤N.length) (gS:ic<N.length)
  (hc:∀ a:Fw,∃ ρ',exS p.cf pre (.pin a::uns (N.length-1))=.nx (.pin a::ρ')∧ρ'.length=N.length-1)
  (hb:∀ m:Int,∃ ρ',exS p.cf body ((uns N.length).set ic (.fz (.int m)))=.nx ρ'∧ρ'.length=N.length):Q55 p K pre ic hi body { nx:=fun _ H'=>Q .non H',rt:=Q } (Qb2 N vs) H:=by
 obtain ⟨a,ns,rfl,hs,bS,q⟩:=h
 have hl:(Qb2 N [.ref a]).length=N.length:=by unfold Qb2;simp only [Zq,Zf,Zb1,Zh,Zu];omega
 obtain ⟨ρ',e,hρ⟩:=hc a
 refine ⟨bs0 H,fun _=>False,_,Q9o H (n:=N.length-1) (by rw [hl];omega) (Qnl rfl),fun _ z=>z,?_⟩
 rw [e]
 intro σ1 H1 G1 F1 _
 have h0:σ1[0]?=some (some (.ref a)):=F1.slot 0
 have df:σ1.length=N.length:=by rw [F1.len,Zh,hρ];omega
 have s1:Same H H1:=fun b o eb=>F1.chg b o (fun z=>z) (fun z=>z) eb
 exact Q0c h0 (s1.seq hs) bS df gS hb fun σ' H'=>q H'
end L2
namespace L2
variable {i j:Int} {a b:List T} {x y:T} {lo hi:Option Int} {c:Bool}
def uo1:opB .add (.int i) (.int j)=some (.fz (.int (i+j))):=rfl
def uo4:opB .sub (.int i) (.int j)=some (.fz (.int (i-j))):=rfl
def uo5:opB .mul (.int i) (.int j)=if Qer i j=true then some (.fz (.int (i*j))) else none:=rfl
def uo7:opB .fdv (.int i) (.int j)=if 0<j∧j.natAbs<2^64 then some (.fz (.int (i / j))) else if j≠0∧j.natAbs<2^250 then some (.fz (.int (i.fdiv j))) else none:=rfl
def uo8:opB .mod (.int i) (.int j)=if 0<j then some (.fz (.int (i%j))) else if j<0 then some (.fz (.int (i.fmod j))) else none:=rfl
def uo9:opB .pow (.int i) (.int j)=if 0≤j∧j.natAbs≤1000000∧i.natAbs<2^64 then some (.fz (.int (i^j.toNat))) else none:=rfl
def uc1:opC .eq x y=eqO x y:=rfl
def uc2:opC .ne x y=(eqO x y).map (!·):=rfl
def uc3:opC .lt (.int i) (.int j)=some (decide (i<j)):=rfl
def uc5:opC .gt (.int i) (.int j)=some (decide (j<i)):=rfl
def uc6:opC .ge (.int i) (.int j)=some (decide (j≤i)):=rfl
def uc7:opC .isn x .non=some (Qdy x):=rfl
def uc8:opC .isnn x .non=some (!Qdy x):=rfl
def ui1:Qy0 (.lst a) (.int i)=atI a i:=rfl
def ui2:Qy0 (.tup a) (.int i)=atI a i:=rfl
def ui3:Q25 (.lst a) lo hi=some (.ow (.lst (Qhq a lo hi))):=rfl
def ub1:Qke .len [.lst a]=some (.fz (.int a.length)):=rfl
def ub2:Qke .len [.tup a]=some (.fz (.int a.length)):=rfl
def ub3:Qke .all [.lst a]=(Qgy a).map fun bs=>.fz (.bl (bs.all id)):=rfl
def ub4:Qke .any [.lst a]=(Qgy a).map fun bs=>.fz (.bl (bs.any id)):=rfl
def ub6:Qke .max [.int i,.int j]=some (.fz (.int (if j>i then j else i))):=rfl
def ub7:Qke .dvm [.int i,.int j]=if 0<j∧j.natAbs<2^64 then some (.fz (.tup [.int (i / j),.int (i%j)])) else none:=rfl
def ub8:Qke .int [.bl c]=some (.fz (.int (if c then 1 else 0))):=rfl
def ub9:Qke .tup [.lst a]=some (.fz (.tup a)):=rfl
section
variable {cf:CF} {ρ:En}
end
section
variable {cf:CF} {ρ ρ1 ρ2:En}
def yFrz (i:Nat) (ρ:En):Slot→SO
 | .ow t=>.nx (ρ.set i (.fz t))
 | .ml _=>.no
 | .ro _=>.no
 | _=>.nx ρ
def Qadl {i:Nat}:exS cf (.frz i) ρ=yFrz i ρ (Qa ρ i):=by
 rw [exS]
 cases Qa ρ i <;> rfl
def Qadm {i:Nat} {a:E} {n j:Int} (h:(Qa ρ i).mut=true) (e:evE cf a ρ=.ok (.fz (.int n)) ρ1) (s:Qwm n (Qa ρ1 i).prv=some j):evE cf (.lix i a) ρ=.ok (.fz (.int j)) ρ1:=by
 rw [evE,Zb h,e]
 show (match Qwm n (Qa ρ1 i).prv with | some j=>Out.ok (PV.fz (.int j)) ρ1 | none=>.no)=_
 rw [s]
def Qadn {i:Nat} {k e:E} {j:Int} {t:T} {ts:List T} (h:(Qa ρ i).mut=true) (e1:evE cf k ρ=.ok (.fz (.int j)) ρ1) (e2:evE cf e ρ1=.ok (.fz t) ρ2) (s:Qa ρ2 i=.ow (.lst ts)) (c:ts.length<100000∧0≤j∧j≤ts.length):exS cf (.ins i k e) ρ=.nx (ρ2.set i (.ow (.lst (Qml ts j.toNat t)))):=by
 rw [exS,Zb h,e1]
 show ofO (evE cf e ρ1) _=_
 rw [e2]
 show (match Qa ρ2 i with
  | .ow (.lst ts)=>if ts.length<100000∧0≤j∧j≤ts.length then SO.nx (ρ2.set i (.ow (.lst (Qml ts j.toNat t)))) else .no
  | _=>.no)=_
 rw [s]
 show (if _ then _ else _)=_
 rw [Zb c]
def Qos:∀ (xs:List Int),Qb8 (xs.map T.int)=some xs
 | []=>rfl
 | x::xs=>by
  show (match Qb8 (xs.map T.int) with | some is=>some (x::is) | none=>none)=_
  rw [Qos xs]
end
section
variable {fA f0:En→SO} {fc:En→Out Bool} {fV f1 f2:En→Out PV} {iF iR iH iW iS iT iN:Nat} {Ms:List (List (List Int))} {R M:List (List Int)} {is:List Int} {ρ ρ1 ρ2 ρ3:En}
def Q38 {uF uR:T} (e:fA ((ρ.set iF (.ro (.lst (Ms.map Qk)))).set iR (.ro (.lst (R.map Qao))))=.nx ρ1) (hF:Qa ρ1 iF=.ro uF) (hR:Qa ρ1 iR=.ro uR) (hH:Qa ρ1 iH=.ow (.lst (is.map T.int))) (c:is.length≤1000∧R.length<1000) :
  Qsp fA iF iR iH Ms R ρ=some (R++[is],((((ρ1.set iR (.ow (.lst (R.map Qao)))).set iF (.ow (.lst (Ms.map Qk)))).set iH (.fz (Qao is))).set iR (.ow (.lst ((R++[is]).map Qao))))):=by
 unfold Qsp
 rw [e]
 dsimp only
 rw [hF,hR,hH]
 dsimp only
 rw [Qos]
 dsimp only
 rw [Zb c]
def Qs5 {R0:List (List Int)} {q:List (List Int)×En} {n:Nat} (e:Qes fA iF iR iH iW Ms R0 ρ n=some q) (c:iW<q.2.length):Qes fA iF iR iH iW Ms R0 ρ (n+1)=Qsp fA iF iR iH Ms q.1 (q.2.set iW (.fz (.int n))):=by
 rw [Qes,e]
 dsimp only
 rw [Zb c]
def Q39 {uF:T} {j:Int} {q:List (List Int)×En} (e:f0 (ρ.set iF (.ro (.lst (Ms.map Qk))))=.nx ρ1) (hF:Qa ρ1 iF=.ro uF) (hR:Qa ρ1 iR=.ow (.lst [])) (hS:Qa (ρ1.set iF (.ow (.lst (Ms.map Qk)))) iS=.fz (.int j)) (cj:j.natAbs≤1000)
  (eq:Qes fA iF iR iH iW Ms [] (ρ1.set iF (.ow (.lst (Ms.map Qk)))) j.toNat=some q) (c:q.1.length≤1000∧Ms.length<1000) :
  Qsq f0 fA iF iR iH iW iS Ms ρ=some (Ms++[q.1],(q.2.set iR (.fz (Qk q.1))).set iF (.ow (.lst ((Ms++[q.1]).map Qk)))):=by
 unfold Qsq
 rw [e]
 dsimp only
 rw [hF,hR,hS]
 dsimp only
 rw [Zb cj,eq]
 dsimp only
 rw [Zb c]
def Qs6 {q:List (List (List Int))×En} {n:Nat} (e:Qet f0 fA iF iR iH iW iS iT ρ n=some q) (c:iT<q.2.length):Qet f0 fA iF iR iH iW iS iT ρ (n+1)=Qsq f0 fA iF iR iH iW iS q.1 (q.2.set iT (.fz (.int n))):=by
 rw [Qet,e]
 dsimp only
 rw [Zb c]
def Q4a {u0 u1 u2:T} {v j k:Int} {x y:Nat} (c:(M::Ms).length≤1000) (e0:fV (ρ.set iF (.ro (.lst ((M::Ms).map Qk))))=.ok (.fz (.int v)) ρ1) (s0:Qa ρ1 iF=.ro u0) (e1:f1 (ρ1.set iF (.ro (.lst ((M::Ms).map Qk))))=.ok (.fz (.int j)) ρ2) (s1:Qa ρ2 iF=.ro u1)
  (e2:f2 (ρ2.set iF (.ro (.lst ((M::Ms).map Qk))))=.ok (.fz (.int k)) ρ3) (s2:Qa ρ3 iF=.ro u2) (ex:ixN M.length j=some x) (eM:M[x]?=some is) (ey:ixN is.length k=some y) :
  Qwp fV f1 f2 iF (M::Ms) ρ=some ((ρ3.map Qbu).set iF (.ow (.lst ((M.set x (is.set y v)::Ms).map Qk)))):=by
 unfold Qwp
 dsimp only
 rw [Zb c,e0]
 dsimp only
 rw [s0,e1]
 dsimp only
 rw [s1,e2]
 dsimp only
 rw [s2,ex]
 dsimp only
 rw [eM]
 dsimp only
 rw [ey]
def Q4b {n:Int} {q:List (List (List Int))×En} {u:T} (hF:Qa ρ iF=.ow (.lst [])) (hN:Qa ρ iN=.fz (.int n)) (cn:n.natAbs≤1000) (eq:Qet f0 fA iF iR iH iW iS iT ρ n.toNat=some q) (cq:q.1.length≤1000) (ec:fc (q.2.set iF (.ro (.lst (q.1.map Qk))))=.ok true ρ2) (s2:Qa ρ2 iF=.ro u) (ep:Qwp fV f1 f2 iF q.1 (ρ2.set iF (.ow (.lst (q.1.map Qk))))=some ρ3) :
  Qhv f0 fA fc fV f1 f2 iF iR iH iW iS iT iN ρ=.nx ρ3:=by
 unfold Qhv
 rw [hF,hN]
 dsimp only
 rw [Zb cn,eq]
 dsimp only
 rw [Zb cq,ec]
 dsimp only
 rw [s2]
 dsimp only
 rw [Zb rfl,ep]
def Q4c {n:Int} {q:List (List (List Int))×En} {u:T} (hF:Qa ρ iF=.ow (.lst [])) (hN:Qa ρ iN=.fz (.int n)) (cn:n.natAbs≤1000) (eq:Qet f0 fA iF iR iH iW iS iT ρ n.toNat=some q) (cq:q.1.length≤1000) (ec:fc (q.2.set iF (.ro (.lst (q.1.map Qk))))=.ok false ρ2) (s2:Qa ρ2 iF=.ro u) :
  Qhv f0 fA fc fV f1 f2 iF iR iH iW iS iT iN ρ=.nx (ρ2.set iF (.ow (.lst (q.1.map Qk)))):=by
 unfold Qhv
 rw [hF,hN]
 dsimp only
 rw [Zb cn,eq]
 dsimp only
 rw [Zb cq,ec]
 dsimp only
 rw [s2]
 rfl
end
def Qu9:∀ {is:List Int} {n:Int},n∈is→∃ j:Nat,ixI n is=some j
 | [],_,h=>by cases h
 | m::ms,n,h=>by
  unfold ixI
  by_cases e:m=n
  ·rw [Zb e];exact ⟨0,rfl⟩
  ·rw [Zd e]
   rcases Z7.mp h with z | z
   ·exact absurd z.symm e
   ·obtain ⟨j,hj⟩:=Qu9 z
    rw [hj];exact ⟨j+1,rfl⟩
def Q0p {is:List Int} {n:Int} (h:n∈is) (z:is.length≤1000):∃ j:Int,Qwm n (some (.lst (is.map T.int)))=some j:=by
 obtain ⟨j,hj⟩:=Qu9 h
 refine ⟨(j:Int),?_⟩
 unfold Qwm
 dsimp only
 rw [Qos]
 dsimp only
 rw [Zb z,hj]
 rfl
def Q0q (os:List Int) (n:Nat) (x:Int):Qml (os.map T.int) n (.int x)=(os.take n++x::os.drop n).map T.int:=by
 unfold Qml
 rw [Zan,Zaq,List.map_take,List.map_drop]
def Q0r {cf:CF} {ρ:En} {iF iR iH iW iS iT iN:Nat} {a0 a:S} {c v e1 e2:E}:exS cf (.nest iF iR iH iW iS iT iN a0 a c v e1 e2) ρ=Qhv (exS cf a0) (exS cf a) (fun ρ=>Q6 (evE cf c ρ)) (evE cf v) (evE cf e1) (evE cf e2) iF iR iH iW iS iT iN ρ:=by rw [exS]
def Qva (K:Fz):Bool:=match K.getLast? with
 | some (_,o)=>(match o.data with
  | .fields a=>a.size != 2
  | _=>true)
 | none=>true
def Qado {K:Fz} (h:Qva K=true) (a:PySem.Addr) (q:PySem.Str):¬ Qxf K a q:=fun ⟨b,t,e⟩=>by
 unfold Qva at h
 rw [e] at h
 cases h
section
variable {cf:CF} {ρ ρ1 ρ2:En}
end
section
variable {cf:CF} {ρ:En} {x:Xn} {α β:Type}
end
end L2
set_option maxHeartbeats 4000000
namespace My
open PySem L2
def top (i:Nat):Fs:=PySem.Challenge.pw_noughtways_k19_orders_and_rings_told.main.body.getD i (.Pass ⟨0,0,0,0⟩)
def Qh6 {x:Str} {st:Fs} {p0:Str} (h:∀ (kV aG pm:Fx) (an:Option Fw) (ag ct:Fx) (a0:Fx),bindArgs (PySem.W.fnOf x x (Qd0 st) (Qbh st) (Qi st) .none kV aG pm an ag ct) ⟨[a0],[]⟩=pure [(p0,a0)]):Qal x st [p0]:=fun a b c d e f us hl=>match us,hl with | [a0],_=>h a b c d e f a0
def Qot {x:Str} {st:Fs} {p0 p1:Str} (h:∀ (kV aG pm:Fx) (an:Option Fw) (ag ct:Fx) (a0 a1:Fx),bindArgs (PySem.W.fnOf x x (Qd0 st) (Qbh st) (Qi st) .none kV aG pm an ag ct) ⟨[a0,a1],[]⟩=pure [(p0,a0),(p1,a1)]):Qal x st [p0,p1]:=fun a b c d e f us hl=>match us,hl with | [a0,a1],_=>h a b c d e f a0 a1
def bdN3 {x:Str} {st:Fs} {p0 p1 p2:Str} (h:∀ (kV aG pm:Fx) (an:Option Fw) (ag ct:Fx) (a0 a1 a2:Fx),bindArgs (PySem.W.fnOf x x (Qd0 st) (Qbh st) (Qi st) .none kV aG pm an ag ct) ⟨[a0,a1,a2],[]⟩=pure [(p0,a0),(p1,a1),(p2,a2)]):Qal x st [p0,p1,p2]:=fun a b c d e f us hl=>match us,hl with | [a0,a1,a2],_=>h a b c d e f a0 a1 a2
abbrev Qf7:Fs:=top 7
def Qra:FnScope ["thing"] ["thing"] (Qi Qf7):=by constructor<;>first|exact rfl|decide +kernel
def Qrb:Qal "is_whole" Qf7 ["thing"]:=Qh6 fun _ _ _ _ _ _ _=>rfl
abbrev Qi2:Fs:=top 8
def Qwz:FnScope ["thing","size"] ["thing","size"] (Qi Qi2):=by constructor<;>first|exact rfl|decide +kernel
def Qw0:Qal "is_row" Qi2 ["thing","size"]:=Qot fun _ _ _ _ _ _ _ _=>rfl
abbrev Qhk:Fs:=top 9
def Qs7:FnScope ["thing"] ["thing"] (Qi Qhk):=by constructor<;>first|exact rfl|decide +kernel
def Qs8:Qal "is_grid" Qhk ["thing"]:=Qh6 fun _ _ _ _ _ _ _=>rfl
abbrev Qd7:Fs:=top 10
def Qe8:FnScope ["grid","numbers","row"] ["grid"] (Qi Qd7):=by constructor<;>first|exact rfl|decide +kernel
def Qmp:Qal "numbers_of" Qd7 ["grid"]:=Qh6 fun _ _ _ _ _ _ _=>rfl
abbrev Qd8:Fs:=top 11
def Qmq:FnScope ["grid"] ["grid"] (Qi Qd8):=by constructor<;>first|exact rfl|decide +kernel
def Qmr:Qal "is_bounded" Qd8 ["grid"]:=Qh6 fun _ _ _ _ _ _ _=>rfl
abbrev Qf8:Fs:=top 12
def Qj5:FnScope ["thing","bounded","at"] ["thing","bounded"] (Qi Qf8):=by constructor<;>first|exact rfl|decide +kernel
def Qrc:Qal "wrong_at" Qf8 ["thing","bounded"]:=Qot fun _ _ _ _ _ _ _ _=>rfl
abbrev Qdm:Fs:=top 13
def Qg5:FnScope ["thing","at"] ["thing"] (Qi Qdm):=by constructor<;>first|exact rfl|decide +kernel
def Ql0:Qal "need_tables" Qdm ["thing"]:=Qh6 fun _ _ _ _ _ _ _=>rfl
abbrev Qbz:Fs:=top 14
def Qem:FnScope ["thing","at"] ["thing"] (Qi Qbz):=by constructor<;>first|exact rfl|decide +kernel
def Qh7:Qal "need_none_below" Qbz ["thing"]:=Qh6 fun _ _ _ _ _ _ _=>rfl
abbrev Qew:Fs:=top 16
def Qou:FnScope ["tables","one","other"] ["tables","one","other"] (Qi Qew):=by constructor<;>first|exact rfl|decide +kernel
def Qov:Qal "is_linked" Qew ["tables","one","other"]:=bdN3 fun _ _ _ _ _ _ _ _ _=>rfl
abbrev Qd9:Fs:=top 17
def Qhy:FnScope ["tables","places","place"] ["tables","places"] (Qi Qd9):=by constructor<;>first|exact rfl|decide +kernel
def Qms:Qal "first_free" Qd9 ["tables","places"]:=Qot fun _ _ _ _ _ _ _ _=>rfl
abbrev Qf9:Fs:=top 18
def Qdt:FnScope ["tables","order","left","place"] ["tables"] (Qi Qf9):=by constructor<;>first|exact rfl|decide +kernel
def Qrd:Qal "order_of" Qf9 ["tables"]:=Qh6 fun _ _ _ _ _ _ _=>rfl
abbrev Qdn:Fs:=top 19
def Qc0:FnScope ["tables","rows","longer","row","place"] ["tables","rows"] (Qi Qdn):=by constructor<;>first|exact rfl|decide +kernel
def Ql1:Qal "longer_rows" Qdn ["tables","rows"]:=Qot fun _ _ _ _ _ _ _ _=>rfl
abbrev Qhl:Fs:=top 20
def Qga:FnScope ["tables","rows","row"] ["tables"] (Qi Qhl):=by constructor<;>first|exact rfl|decide +kernel
def Qs9:Qal "ring_of" Qhl ["tables"]:=Qh6 fun _ _ _ _ _ _ _=>rfl
abbrev Qen:Fs:=top 22
def Qre:FnScope ["_law_script","_law_k"] ["_law_script","_law_k"] (Qi Qen):=by constructor<;>first|exact rfl|decide +kernel
def Qrf:Qal "_law_cell" Qen ["_law_script","_law_k"]:=Qot fun _ _ _ _ _ _ _ _=>rfl
abbrev Qhm:Fs:=top 23
def Ql2:FnScope ["_law_cell_here","_law_left"] ["_law_cell_here"] (Qi Qhm):=by constructor<;>first|exact rfl|decide +kernel
def Qta:Qal "_law_pen" Qhm ["_law_cell_here"]:=Qh6 fun _ _ _ _ _ _ _=>rfl
abbrev Qgb:Fs:=top 24
def Qdu:FnScope ["_law_pen_here","_law_many","_law_left","_law_found","_law_stir"] ["_law_pen_here","_law_many"] (Qi Qgb):=by constructor<;>first|exact rfl|decide +kernel
def Qrg:Qal "_law_draw" Qgb ["_law_pen_here","_law_many"]:=Qot fun _ _ _ _ _ _ _ _=>rfl
abbrev Qex:Fs:=top 25
def Qow:FnScope ["_law_thing"] ["_law_thing"] (Qi Qex):=by constructor<;>first|exact rfl|decide +kernel
def Qox:Qal "_law_whole" Qex ["_law_thing"]:=Qh6 fun _ _ _ _ _ _ _=>rfl
abbrev Qey:Fs:=top 26
def Qai:FnScope ["_law_pen_here","_law_size","_law_many","_law_order","_law_place","_law_way","_law_found","_law_turn","_law_rows","_law_row","_law_later","_law_row_here","_law_column","_law_number"] ["_law_pen_here"] (Qi Qey):=by constructor<;>first|exact rfl|decide +kernel
def Qoy:Qal "_law_signs" Qey ["_law_pen_here"]:=Qh6 fun _ _ _ _ _ _ _=>rfl
abbrev Qgc:Fs:=top 27
def Qg6:FnScope ["_law_tables","_law_place","_law_found","_law_other"] ["_law_tables","_law_place"] (Qi Qgc):=by constructor<;>first|exact rfl|decide +kernel
def Qrh:Qal "_law_next" Qgc ["_law_tables","_law_place"]:=Qot fun _ _ _ _ _ _ _ _=>rfl
abbrev Qea:Fs:=top 28
def Qbq:FnScope ["_law_many","_law_found","_law_turn","_law_more","_law_row"] ["_law_many"] (Qi Qea):=by constructor<;>first|exact rfl|decide +kernel
def Qmt:Qal "_law_orders" Qea ["_law_many"]:=Qh6 fun _ _ _ _ _ _ _=>rfl
abbrev Qgd:Fs:=top 29
def Qg7:FnScope ["_law_tables","_law_row","_law_at","_law_place"] ["_law_tables","_law_row"] (Qi Qgd):=by constructor<;>first|exact rfl|decide +kernel
def Qri:Qal "_law_fits" Qgd ["_law_tables","_law_row"]:=Qot fun _ _ _ _ _ _ _ _=>rfl
abbrev Qez:Fs:=top 30
def Qar:FnScope ["_law_tables","_law_size","_law_found","_law_first","_law_paths","_law_turn","_law_more","_law_path","_law_there"] ["_law_tables"] (Qi Qez):=by constructor<;>first|exact rfl|decide +kernel
def Qoz:Qal "_law_rings" Qez ["_law_tables"]:=Qh6 fun _ _ _ _ _ _ _=>rfl
abbrev Qi3:Fs:=top 31
def Qw1:FnScope ["_law_found","_law_due"] ["_law_found","_law_due"] (Qi Qi3):=by constructor<;>first|exact rfl|decide +kernel
def Qw2:Qal "_law_is" Qi3 ["_law_found","_law_due"]:=Qot fun _ _ _ _ _ _ _ _=>rfl
abbrev Qe0:Fs:=top 32
def Qb9:FnScope ["_law_tables","_law_rows","_law_rings_here","_law_due","_law_other","_law_turn"] ["_law_tables"] (Qi Qe0):=by constructor<;>first|exact rfl|decide +kernel
def Qo0:Qal "_law_right" Qe0 ["_law_tables"]:=Qh6 fun _ _ _ _ _ _ _=>rfl
abbrev Qj6:Fs:=top 33
def Qtb:FnScope ["_law_script","_law_tables","_law_cell_here"] ["_law_script"] (Qi Qj6):=by constructor<;>first|exact rfl|decide +kernel
def Q9p:Qal "law" Qj6 ["_law_script"]:=Qh6 fun _ _ _ _ _ _ _=>rfl
def Q9q:PySem.bootBuiltins "abs" = some (.builtin "abs"):=by decide +kernel
def Qo1:PySem.bootBuiltins "all" = some (.builtin "all"):=by decide +kernel
def Qtc:PySem.bootBuiltins "any" = some (.builtin "any"):=by decide +kernel
def Qvb:PySem.bootBuiltins "bool" = some (.type "bool"):=by decide +kernel
def Qw3:PySem.bootBuiltins "divmod" = some (.builtin "divmod"):=by decide +kernel
def Qo2:PySem.bootBuiltins "enumerate" = some (.type "enumerate"):=by decide +kernel
def Qo3:PySem.bootBuiltins "int" = some (.type "int"):=by decide +kernel
def Qbb:PySem.bootBuiltins "isinstance" = some (.builtin "isinstance"):=by decide +kernel
def Qbx:PySem.bootBuiltins "len" = some (.builtin "len"):=by decide +kernel
def Qvc:PySem.bootBuiltins "list" = some (.type "list"):=by decide +kernel
def Q0s:PySem.bootBuiltins "max" = some (.builtin "max"):=by decide +kernel
def Q0t:PySem.bootBuiltins "range" = some (.type "range"):=by decide +kernel
def Qw4:PySem.bootBuiltins "sorted" = some (.builtin "sorted"):=by decide +kernel
def Qg8:PySem.bootBuiltins "tuple" = some (.type "tuple"):=by decide +kernel
structure Txt (K:Fz) (mg:Str→Option Fx):Prop where
 n_abs:mg "abs" = none
 n_all:mg "all" = none
 n_any:mg "any" = none
 n_bool:mg "bool" = none
 n_divmod:mg "divmod" = none
 n_enumerate:mg "enumerate" = none
 n_int:mg "int" = none
 n_isinstance:mg "isinstance" = none
 n_len:mg "len" = none
 n_list:mg "list" = none
 n_max:mg "max" = none
 n_range:mg "range" = none
 n_sorted:mg "sorted" = none
 n_tuple:mg "tuple" = none
 m_MOST_ROWS:∃ u,mg "MOST_ROWS" = some u∧RelV (.int (4)) u
 m_MOST_TABLES:∃ u,mg "MOST_TABLES" = some u∧RelV (.int (4)) u
abbrev Qtd:L2.S:=(.ret (.and (.isI (.var 0) "int") (.not (.isI (.var 0) "bool"))))
abbrev Qh8:L2.Df:=⟨"is_whole",Qf7,["thing"],["thing"],⟨1,1,Qtd⟩,fun _=>true,fun _=>true⟩
abbrev Ql3:L2.S:=(.seq (.ite (.or (.not (.isI (.var 0) "tuple")) (.cmp .ne (.bi .len (.cons (.var 0) .nil)) (.var 1))) (.ret (.bl false)) .nil)
 (.ret (.bi .all (.cons (.comp (.seq (.var 0)) [none] (.nm 0) .nil (.call 0 (.cons (.var 0) .nil))) .nil))))
abbrev Ql4:L2.Df:=⟨"is_row",Qi2,["thing","size"],["thing","size"],⟨2,2,Ql3⟩,fun _=>true,fun _=>true⟩
abbrev Qjp:L2.S:=(.seq (.ite (.or (.not (.isI (.var 0) "tuple")) (.or (.cmp .lt (.bi .len (.cons (.var 0) .nil)) (.int 1)) (.cmp .gt (.bi .len (.cons (.var 0) .nil)) (.int (4))))) (.ret (.bl false)) .nil)
 (.ret (.bi .all (.cons (.comp (.seq (.var 0)) [none,some 0] (.nm 0) .nil (.call 1 (.cons (.var 0) (.cons (.bi .len (.cons (.var 1) .nil)) .nil)))) .nil))))
abbrev Qjq:L2.Df:=⟨"is_grid",Qhk,["thing"],["thing"],⟨1,1,Qjp⟩,fun _=>true,fun _=>true⟩
abbrev Qge:L2.S:=(.seq (.set 1 (.lst .nil))
 (.seq (.for_ (.seq (.var 0)) (.nm 2) (.ext 1 (.var 2)))
 (.ret (.var 1))))
abbrev Qeb:L2.Df:=⟨"numbers_of",Qd7,["grid","numbers","row"],["grid"],⟨1,3,Qge⟩,fun _=>true,fun _=>true⟩
abbrev Qo4:L2.S:=(.ret (.bi .all (.cons (.comp (.seq (.call 3 (.cons (.var 0) .nil))) [none] (.nm 0) .nil (.cmp .lt (.bi .abs (.cons (.var 0) .nil)) (.bin .pow (.int 10) (.int 12)))) .nil)))
abbrev Qgf:L2.Df:=⟨"is_bounded",Qd8,["grid"],["grid"],⟨1,1,Qo4⟩,fun _=>true,fun _=>true⟩
abbrev Qh9:L2.S:=(.seq (.ite (.or (.not (.isI (.var 0) "list")) (.or (.cmp .lt (.bi .len (.cons (.var 0) .nil)) (.int 1)) (.cmp .gt (.bi .len (.cons (.var 0) .nil)) (.int (4))))) (.ret (.neg (.int 1))) .nil)
 (.seq (.for_ (.rng1 (.bi .len (.cons (.var 0) .nil))) (.nm 2) (.seq (.ite (.or (.not (.call 2 (.cons (.ix (.var 0) (.var 2)) .nil))) (.cmp .ne (.bi .len (.cons (.ix (.var 0) (.var 2)) .nil)) (.bi .len (.cons (.ix (.var 0) (.int 0)) .nil)))) (.ret (.var 2)) .nil)
 (.ite (.and (.var 1) (.not (.call 4 (.cons (.ix (.var 0) (.var 2)) .nil)))) (.ret (.var 2)) .nil)))
 (.ret .non)))
abbrev Qia:L2.Df:=⟨"wrong_at",Qf8,["thing","bounded","at"],["thing","bounded"],⟨2,3,Qh9⟩,fun _=>true,fun _=>true⟩
abbrev Qe9:L2.S:=(.seq (.setF 1 (.call 5 (.cons (.var 0) (.cons (.bl false) .nil))))
 (.ite (.cmp .isnn (.var 1) .non) .bad .nil))
abbrev Qfa:L2.Df:=⟨"need_tables",Qdm,["thing","at"],["thing"],⟨1,2,Qe9⟩,fun _=>true,fun _=>true⟩
abbrev Qc1:L2.S:=(.seq (.expr (.call 6 (.cons (.var 0) .nil)))
 (.for_ (.rng1 (.bi .len (.cons (.var 0) .nil))) (.nm 1) (.ite (.bi .any (.cons (.comp (.seq (.call 3 (.cons (.ix (.var 0) (.var 1)) .nil))) [none] (.nm 0) .nil (.cmp .lt (.var 0) (.int 0))) .nil)) .bad .nil)))
abbrev Qb0:L2.Df:=⟨"need_none_below",Qbz,["thing","at"],["thing"],⟨1,2,Qc1⟩,fun _=>true,fun _=>true⟩
abbrev Qj7:L2.S:=(.ret (.bi .any (.cons (.comp (.seq (.var 0)) [none,some 2,some 1] (.nm 0) .nil (.cmp .ne (.ix (.ix (.var 0) (.var 2)) (.var 1)) (.int 0))) .nil)))
abbrev Qdv:L2.Df:=⟨"is_linked",Qew,["tables","one","other"],["tables","one","other"],⟨3,3,Qj7⟩,fun _=>true,fun _=>true⟩
abbrev Qi4:L2.S:=(.seq (.for_ (.seq (.var 1)) (.nm 2) (.ite (.not (.bi .any (.cons (.comp (.seq (.var 1)) [none,some 0,some 2] (.nm 0) .nil (.call 8 (.cons (.var 1) (.cons (.var 0) (.cons (.var 2) .nil))))) .nil))) (.ret (.var 2)) .nil))
 (.ret .non))
abbrev Qgg:L2.Df:=⟨"first_free",Qd9,["tables","places","place"],["tables","places"],⟨2,3,Qi4⟩,fun _=>true,fun _=>true⟩
abbrev Ql5:L2.S:=(.seq (.expr (.call 7 (.cons (.var 0) .nil)))
 (.seq (.setF 1 (.tup .nil))
 (.seq (.set 2 (.tupR true (.bi .len (.cons (.ix (.var 0) (.int 0)) .nil))))
 (.seq (.whl (.cmp .ne (.var 2) (.lst .nil)) (.seq (.look 2 (.setF 3 (.call 9 (.cons (.var 0) (.cons (.var 2) .nil)))))
 (.seq (.ite (.cmp .isn (.var 3) .non) (.ret .non) .nil)
 (.seq (.setF 1 (.bin .add (.var 1) (.tup (.cons (.var 3) .nil))))
 (.rem 2 (.var 3))))))
 (.ret (.var 1))))))
abbrev Qib:L2.Df:=⟨"order_of",Qf9,["tables","order","left","place"],["tables"],⟨1,4,Ql5⟩,fun _=>true,fun _=>true⟩
abbrev Qhz:L2.S:=(.seq (.set 2 (.lst .nil))
 (.seq (.for_ (.seq (.var 1)) (.nm 3) (.for_ (.rng2 (.bin .add (.ix (.var 3) (.int 0)) (.int 1)) (.bi .len (.cons (.ix (.var 0) (.int 0)) .nil))) (.nm 4) (.ite (.and (.cmp .nin (.var 4) (.var 3)) (.call 8 (.cons (.var 0) (.cons (.ix (.var 3) (.neg (.int 1))) (.cons (.var 4) .nil))))) (.app 2 (.bin .add (.var 3) (.tup (.cons (.var 4) .nil)))) .nil)))
 (.ret (.var 2))))
abbrev Qfb:L2.Df:=⟨"longer_rows",Qdn,["tables","rows","longer","row","place"],["tables","rows"],⟨2,5,Qhz⟩,fun _=>true,fun _=>true⟩
abbrev Qnv:L2.S:=(.seq (.expr (.call 7 (.cons (.var 0) .nil)))
 (.seq (.setF 1 (.comp (.rng1 (.bi .len (.cons (.ix (.var 0) (.int 0)) .nil))) [none] (.nm 0) .nil (.tup (.cons (.var 0) .nil))))
 (.seq (.whl (.cmp .ne (.var 1) (.lst .nil)) (.seq (.for_ (.seq (.var 1)) (.nm 2) (.ite (.call 8 (.cons (.var 0) (.cons (.ix (.var 2) (.neg (.int 1))) (.cons (.ix (.var 2) (.int 0)) .nil)))) (.ret (.var 2)) .nil))
 (.setF 1 (.call 11 (.cons (.var 0) (.cons (.var 1) .nil))))))
 (.ret .non))))
abbrev Qjr:L2.Df:=⟨"ring_of",Qhl,["tables","rows","row"],["tables"],⟨1,3,Qnv⟩,fun _=>true,fun _=>true⟩
abbrev Qjs:L2.S:=(.seq (.setF 1 (.bi .max (.cons (.var 0) (.cons (.bin .sub (.int 0) (.var 0)) .nil))))
 (.ret (.lst (.cons (.var 1) (.cons (.bi .int (.cons (.cmp .ge (.var 1) (.bin .pow (.int 10) (.int 18))) .nil)) .nil)))))
abbrev Qjt:L2.Df:=⟨"_law_pen",Qhm,["_law_cell_here","_law_left"],["_law_cell_here"],⟨1,2,Qjs⟩,fun _=>true,fun _=>true⟩
abbrev Qeo:L2.S:=(.seq (.ite (.cmp .eq (.ix (.var 0) (.int 1)) (.int 1)) (.seq (.unp [2,3] (.bi .dvm (.cons (.ix (.var 0) (.int 0)) (.cons (.var 1) .nil))))
 (.seq (.put 0 (.int 0) (.var 2))
 (.ret (.var 3)))) .nil)
 (.seq (.setF 4 (.bin .mod (.bin .mul (.bin .add (.bin .mod (.ix (.var 0) (.int 0)) (.int 2147483647)) (.int 40503)) (.int 69621)) (.int 2147483629)))
 (.seq (.setF 4 (.bin .mod (.bin .add (.bin .mul (.var 4) (.var 4)) (.int 7817)) (.int 2147483587)))
 (.seq (.put 0 (.int 0) (.bin .mod (.bin .add (.bin .mul (.var 4) (.int 48271)) (.int 11)) (.int 2147483629)))
 (.ret (.bin .mod (.bin .fdv (.ix (.var 0) (.int 0)) (.int 32)) (.var 1)))))))
abbrev Qbr:L2.Df:=⟨"_law_draw",Qgb,["_law_pen_here","_law_many","_law_left","_law_found","_law_stir"],["_law_pen_here","_law_many"],⟨2,5,Qeo⟩,fun _=>true,fun _=>true⟩
abbrev Qrj:L2.S:=(.ret (.and (.isI (.var 0) "int") (.not (.isI (.var 0) "bool"))))
abbrev Qg9:L2.Df:=⟨"_law_whole",Qex,["_law_thing"],["_law_thing"],⟨1,1,Qrj⟩,fun _=>true,fun _=>true⟩
abbrev Qha:L2.S:=(.seq (.par 1 2 (.bin .add (.int 1) (.call 14 (.cons (.var 0) (.cons (.int 4) .nil)))) (.bin .add (.int 1) (.call 14 (.cons (.var 0) (.cons (.int 3) .nil)))))
 (.seq (.set 3 (.lst .nil))
 (.seq (.for_ (.rng1 (.var 1)) (.nm 4) (.ins 3 (.call 14 (.cons (.var 0) (.cons (.bin .add (.var 4) (.int 1)) .nil))) (.var 4)))
 (.seq (.setF 5 (.call 14 (.cons (.var 0) (.cons (.int 4) .nil))))
 (.seq (.set 6 (.lst .nil))
 (.seq (.nest 6 8 11 9 1 7 2 (.set 8 (.lst .nil)) (.seq (.setF 10 (.slc (.var 3) (.cons (.bin .add (.lix 3 (.var 9)) (.int 1)) .nil) .nil))
 (.seq (.set 11 (.lst .nil))
 (.for_ (.rng1 (.var 1)) (.nm 12) (.seq (.setF 13 (.bi .max (.cons (.int 0) (.cons (.bin .sub (.call 14 (.cons (.var 0) (.cons (.int 4) .nil))) (.int 1)) .nil))))
 (.app 11 (.bin .mul (.var 13) (.bi .int (.cons (.or (.cmp .inn (.var 12) (.var 10)) (.cmp .eq (.var 5) (.int 3))) .nil)))))))) (.cmp .eq (.var 5) (.int 2)) (.bin .add (.int 1) (.call 14 (.cons (.var 0) (.cons (.int 9) .nil)))) (.call 14 (.cons (.var 0) (.cons (.var 1) .nil))) (.call 14 (.cons (.var 0) (.cons (.var 1) .nil))))
 (.seq (.frz 6) (.ret (.comp (.seq (.var 6)) [none] (.nm 0) .nil (.bi .tup (.cons (.comp (.seq (.var 0)) [none] (.nm 0) .nil (.bi .tup (.cons (.var 0) .nil))) .nil)))))))))))
abbrev Qhb:L2.Df:=⟨"_law_signs",Qey,["_law_pen_here","_law_size","_law_many","_law_order","_law_place","_law_way","_law_found","_law_turn","_law_rows","_law_row","_law_later","_law_row_here","_law_column","_law_number"],["_law_pen_here"],⟨1,14,Qha⟩,fun _=>true,fun _=>true⟩
abbrev Ql6:L2.S:=(.seq (.set 2 (.lst .nil))
 (.seq (.for_ (.rng1 (.bi .len (.cons (.ix (.var 0) (.int 0)) .nil))) (.nm 3) (.ite (.cmp .ne (.comp (.seq (.var 0)) [none,some 3,some 1] (.nm 0) (.cons (.cmp .ne (.ix (.ix (.var 0) (.var 2)) (.var 1)) (.int 0)) .nil) (.var 0)) (.lst .nil)) (.app 2 (.var 3)) .nil))
 (.ret (.var 2))))
abbrev Qgh:L2.Df:=⟨"_law_next",Qgc,["_law_tables","_law_place","_law_found","_law_other"],["_law_tables","_law_place"],⟨2,4,Ql6⟩,fun _=>true,fun _=>true⟩
abbrev Qo5:L2.S:=(.seq (.setF 1 (.lst (.cons (.tup .nil) .nil)))
 (.seq (.for_ (.rng1 (.var 0)) (.nm 2) (.seq (.setF 3 (.lst .nil))
 (.seq (.for_ (.seq (.var 1)) (.nm 4) (.setF 3 (.bin .add (.var 3) (.comp (.rng1 (.var 0)) [none,some 4] (.nm 0) (.cons (.cmp .nin (.var 0) (.var 1)) .nil) (.bin .add (.var 1) (.tup (.cons (.var 0) .nil)))))))
 (.setF 1 (.var 3)))))
 (.ret (.var 1))))
abbrev Qgi:L2.Df:=⟨"_law_orders",Qea,["_law_many","_law_found","_law_turn","_law_more","_law_row"],["_law_many"],⟨1,5,Qo5⟩,fun _=>true,fun _=>true⟩
abbrev Ql7:L2.S:=(.seq (.for_ (.enm (.var 1)) (.tp [2,3]) (.ite (.cmp .ne (.comp (.seq (.call 17 (.cons (.var 0) (.cons (.var 3) .nil)))) [none,some 1,some 2] (.nm 0) (.cons (.cmp .inn (.var 0) (.slc (.var 1) .nil (.cons (.bin .add (.var 2) (.int 1)) .nil))) .nil) (.var 0)) (.lst .nil)) (.ret (.bl false)) .nil))
 (.ret (.bl true)))
abbrev Qic:L2.Df:=⟨"_law_fits",Qgd,["_law_tables","_law_row","_law_at","_law_place"],["_law_tables","_law_row"],⟨2,4,Ql7⟩,fun _=>true,fun _=>true⟩
abbrev Qj8:L2.S:=(.seq (.setF 1 (.bi .len (.cons (.ix (.var 0) (.int 0)) .nil)))
 (.seq (.set 2 (.lst .nil))
 (.seq (.for_ (.rng1 (.var 1)) (.nm 3) (.seq (.setF 4 (.lst (.cons (.tup (.cons (.var 3) .nil)) .nil)))
 (.for_ (.rng1 (.var 1)) (.nm 5) (.seq (.setF 6 (.lst .nil))
 (.seq (.for_ (.seq (.var 4)) (.nm 7) (.seq (.setF 8 (.call 17 (.cons (.var 0) (.cons (.ix (.var 7) (.neg (.int 1))) .nil))))
 (.seq (.ite (.cmp .inn (.var 3) (.var 8)) (.app 2 (.var 7)) .nil)
 (.setF 6 (.bin .add (.var 6) (.comp (.seq (.var 8)) [none,some 7,some 3] (.nm 0) (.cons (.and (.cmp .gt (.var 0) (.var 2)) (.cmp .nin (.var 0) (.var 1))) .nil) (.bin .add (.var 1) (.tup (.cons (.var 0) .nil)))))))))
 (.setF 4 (.var 6)))))))
 (.ret (.var 2)))))
abbrev Qhc:L2.Df:=⟨"_law_rings",Qez,["_law_tables","_law_size","_law_found","_law_first","_law_paths","_law_turn","_law_more","_law_path","_law_there"],["_law_tables"],⟨1,9,Qj8⟩,fun _=>true,fun _=>true⟩
abbrev Qi5:L2.S:=(.seq (.ite (.cmp .isn (.var 1) .non) (.ret (.cmp .isn (.var 0) .non)) .nil)
 (.ret (.and (.isI (.var 0) "tuple") (.and (.cmp .eq (.var 0) (.var 1)) (.bi .all (.cons (.comp (.seq (.var 0)) [none] (.nm 0) .nil (.call 15 (.cons (.var 0) .nil))) .nil))))))
abbrev Qi6:L2.Df:=⟨"_law_is",Qi3,["_law_found","_law_due"],["_law_found","_law_due"],⟨2,2,Qi5⟩,fun _=>true,fun _=>true⟩
abbrev Qj9:L2.S:=(.seq (.setF 1 (.comp (.seq (.call 18 (.cons (.bi .len (.cons (.ix (.var 0) (.int 0)) .nil)) .nil))) [none,some 0] (.nm 0) (.cons (.call 19 (.cons (.var 1) (.cons (.var 0) .nil))) .nil) (.var 0)))
 (.seq (.setF 2 (.bi .srtP (.cons (.comp (.seq (.call 20 (.cons (.var 0) .nil))) [none] (.nm 0) .nil (.tup (.cons (.bi .len (.cons (.var 0) .nil)) (.cons (.var 0) .nil)))) .nil)))
 (.seq (.setF 3 (.ix (.bin .add (.var 1) (.lst (.cons .non .nil))) (.int 0)))
 (.seq (.setF 4 (.ix (.ix (.bin .add (.var 2) (.lst (.cons (.tup (.cons (.int 0) (.cons .non .nil))) .nil))) (.int 0)) (.int 1)))
 (.seq (.for_ (.rng1 (.int 2)) (.nm 5) (.ite (.or (.not (.call 21 (.cons (.call 10 (.cons (.var 0) .nil)) (.cons (.var 3) .nil)))) (.not (.call 21 (.cons (.call 12 (.cons (.var 0) .nil)) (.cons (.var 4) .nil))))) (.ret (.bl false)) .nil))
 (.ret (.cmp .ne (.cmp .isn (.var 3) .non) (.cmp .isn (.var 4) .non))))))))
abbrev Qe1:L2.Df:=⟨"_law_right",Qe0,["_law_tables","_law_rows","_law_rings_here","_law_due","_law_other","_law_turn"],["_law_tables"],⟨1,6,Qj9⟩,fun _=>true,fun _=>true⟩
abbrev ds:List L2.Df:=[Qh8,Ql4,Qjq,Qeb,Qgf,Qia,Qfa,Qb0,Qdv,Qgg,Qib,Qfb,Qjr,Qjt,Qbr,Qg9,Qhb,Qgh,Qgi,Qic,Qhc,Qi6,Qe1]
section
variable {P:Fu} {w:Ft} {K:Fz} {mg:Str→Option Fx} {base:Fq}
def Qte (tx:Txt K mg):Qa6 P w K mg base ds Qh8:=fun cf n R f ag A outer s H E hc h1 co pz hr =>
 (Qy (Qau (Quj (Qj3 tx.n_isinstance Qbb (Qe 0) (Qp0 "int" tx.n_int Qo3)) (Quk (Q5k (Qj3 tx.n_isinstance Qbb (Qe 0) (Qp0 "bool" tx.n_bool Qvb)))))))
def Q0u (tx:Txt K mg):Qa6 P w K mg base ds Ql4:=fun cf n R f ag A outer s H E hc h1 co pz hr =>
 (Qq (Qf1 (t_w (Qsr (Qhw (Qck (Qj3 tx.n_isinstance Qbb (Qe 0) (Qp0 "tuple" tx.n_tuple Qg8)))) (Qjz (Qsw hr.units (Qcy (Qc4 K rfl) (Qb5 K) tx.n_len Qbx (Qf (Qe 0) Qj)) (Qe 1))))) (Qy (Qau Qqd)) Qcw)
  (Qy (Qau (Qcy (Qt9 K rfl) (Qoh K) tx.n_all Qo1 (Qf (Qcz ["number"] [none] rfl (Qbp rfl (Qe 0)) (fun _ _ _=>(Q7 (Q5 (i:=0) (show List.Nodup (["number"]:List PySem.Str) by decide +kernel)))) (fun _ _ _=>Qej) (fun _ _ _=>(Qaf (hc 0 Qh8 rfl) Qx hr (Qf (Qe 0) Qj)))) Qj)))))
def Qw5 (tx:Txt K mg):Qa6 P w K mg base ds Qjq:=fun cf n R f ag A outer s H E hc h1 co pz hr =>
 (Qq (Qf1 (t_w (Qsr (Qhw (Qck (Qj3 tx.n_isinstance Qbb (Qe 0) (Qp0 "tuple" tx.n_tuple Qg8)))) (Qsr (t_lt (Qcy (Qc4 K rfl) (Qb5 K) tx.n_len Qbx (Qf (Qe 0) Qj)) Qu) (Qjz (Q84 (Qcy (Qc4 K rfl) (Qb5 K) tx.n_len Qbx (Qf (Qe 0) Qj)) (Qzp tx.m_MOST_ROWS)))))) (Qy (Qau Qqd)) Qcw)
  (Qy (Qau (Qcy (Qt9 K rfl) (Qoh K) tx.n_all Qo1 (Qf (Qcz ["row","thing"] [none,some 0] rfl (Qbp rfl (Qe 0)) (fun _ _ _=>(Q7 (Q5 (i:=0) (show List.Nodup (["row","thing"]:List PySem.Str) by decide +kernel)))) (fun _ _ _=>Qej) (fun _ _ _=>(Qaf (hc 1 Ql4 rfl) Qx hr (Qf (Qe 0) (Qf (Qcy (Qc4 K rfl) (Qb5 K) tx.n_len Qbx (Qf (Qe 1) Qj)) Qj))))) Qj)))))
def Qo6 (tx:Txt K mg):Qa6 P w K mg base ds Qeb:=fun cf n R f ag A outer s H E hc h1 co pz hr =>
 (Qq (Qiv (Qa7 (i:=1) Qe8.nd (Qb4 Qj)))
  (Qq (Qc6 rfl (Qbp rfl (Qe 0)) (Q7 (Q5 (i:=2) Qe8.nd)) (Qy (Qacv (Qe4 (Qmi K rfl Z9 PySem.F.slot_list_extend PySem.F.type_list_extend (Qwd K rfl) (Qd1 1) (Qas (Qe 2) Qby))))))
  (Qy (Qau (Qe 1)))))
def Qo7 (tx:Txt K mg):Qa6 P w K mg base ds Qgf:=fun cf n R f ag A outer s H E hc h1 co pz hr =>
 (Qy (Qau (Qcy (Qt9 K rfl) (Qoh K) tx.n_all Qo1 (Qf (Qcz ["number"] [none] rfl (Qbp rfl (Qaf (hc 3 Qeb rfl) pz hr (Qf (Qe 0) Qj))) (fun _ _ _=>(Q7 (Q5 (i:=0) (show List.Nodup (["number"]:List PySem.Str) by decide +kernel)))) (fun _ _ _=>Qej) (fun _ _ _=>(g_lt (Qcy Qabr Q8w tx.n_abs Q9q (Qf (Qe 0) Qj)) (Q5t Qu Qu)))) Qj))))
def Qtf (tx:Txt K mg):Qa6 P w K mg base ds Qia:=fun cf n R f ag A outer s H E hc h1 co pz hr =>
 (Qq (Qf1 (t_w (Qsr (Qhw (Qck (Qj3 tx.n_isinstance Qbb (Qe 0) (Qp0 "list" tx.n_list Qvc)))) (Qsr (t_lt (Qcy (Qc4 K rfl) (Qb5 K) tx.n_len Qbx (Qf (Qe 0) Qj)) Qu) (Qjz (Q84 (Qcy (Qc4 K rfl) (Qb5 K) tx.n_len Qbx (Qf (Qe 0) Qj)) (Qzp tx.m_MOST_TABLES)))))) (Qy (Qau (Qui Qu))) Qcw)
  (Qq (Qc6 rfl (Qek tx.n_range (Qcy (Qc4 K rfl) (Qb5 K) tx.n_len Qbx (Qf (Qe 0) Qj))) (Q7 (Q5 (i:=2) Qj5.nd)) (Qq (Qf1 (t_w (Qsr (Qhw (Qck (Qaf (hc 2 Qjq rfl) Qx hr (Qf (Qde rfl (Qe 0) (Qe 2)) Qj)))) (Qjz (Qsw hr.units (Qcy (Qc4 K rfl) (Qb5 K) tx.n_len Qbx (Qf (Qde rfl (Qe 0) (Qe 2)) Qj)) (Qcy (Qc4 K rfl) (Qb5 K) tx.n_len Qbx (Qf (Qde rfl (Qe 0) Qu) Qj)))))) (Qy (Qau (Qe 2))) Qcw)
  (Qy (Qf1 (t_w (Qy5 (Qck (Qe 1)) (Qjz (Qhw (Qck (Qaf (hc 4 Qgf rfl) Qx hr (Qf (Qde rfl (Qe 0) (Qe 2)) Qj))))))) (Qy (Qau (Qe 2))) Qcw))))
  (Qy (Qau Qgl))))
def Qmu (tx:Txt K mg):Qa6 P w K mg base ds Qfa:=fun cf n R f ag A outer s H E hc h1 co pz hr =>
 (Qq (Qav (Qa7 (i:=1) Qg5.nd (Qaf (hc 5 Qia rfl) pz hr (Qf (Qe 0) (Qf Qqd Qj)))))
  (Qy (Qf1 (Q85 (Qe 1) Qgl) (Qy Q5r) Qcw)))
def Qi7 (tx:Txt K mg):Qa6 P w K mg base ds Qb0:=fun cf n R f ag A outer s H E hc h1 co pz hr =>
 (Qq (Qsx (Qaf (hc 6 Qfa rfl) pz hr (Qf (Qe 0) Qj)))
  (Qy (Qc6 rfl (Qek tx.n_range (Qcy (Qc4 K rfl) (Qb5 K) tx.n_len Qbx (Qf (Qe 0) Qj))) (Q7 (Q5 (i:=1) Qem.nd)) (Qy (Qf1 (Qck (Qcy (Qyc K rfl) (Qss K) tx.n_any Qtc (Qf (Qcz ["number"] [none] rfl (Qbp rfl (Qaf (hc 3 Qeb rfl) Qx hr (Qf (Qde rfl (Qe 0) (Qe 1)) Qj))) (fun _ _ _=>(Q7 (Q5 (i:=0) (show List.Nodup (["number"]:List PySem.Str) by decide +kernel)))) (fun _ _ _=>Qej) (fun _ _ _=>(g_lt (Qe 0) Qu))) Qj))) (Qy Q5r) Qcw)))))
def Qrk (tx:Txt K mg):Qa6 P w K mg base ds Qdv:=fun cf n R f ag A outer s H E hc h1 co pz hr =>
 (Qy (Qau (Qcy (Qyc K rfl) (Qss K) tx.n_any Qtc (Qf (Qcz ["table","other","one"] [none,some 2,some 1] rfl (Qbp rfl (Qe 0)) (fun _ _ _=>(Q7 (Q5 (i:=0) (show List.Nodup (["table","other","one"]:List PySem.Str) by decide +kernel)))) (fun _ _ _=>Qej) (fun _ _ _=>(g_ne hr.units (Qde rfl (Qde rfl (Qe 0) (Qe 2)) (Qe 1)) Qu))) Qj))))
def Qo8 (tx:Txt K mg):Qa6 P w K mg base ds Qgg:=fun cf n R f ag A outer s H E hc h1 co pz hr =>
 (Qq (Qc6 rfl (Qbp rfl (Qe 1)) (Q7 (Q5 (i:=2) Qhy.nd)) (Qy (Qf1 (Qhw (Qck (Qcy (Qyc K rfl) (Qss K) tx.n_any Qtc (Qf (Qcz ["other","tables","place"] [none,some 0,some 2] rfl (Qbp rfl (Qe 1)) (fun _ _ _=>(Q7 (Q5 (i:=0) (show List.Nodup (["other","tables","place"]:List PySem.Str) by decide +kernel)))) (fun _ _ _=>Qej) (fun _ _ _=>(Qaf (hc 8 Qdv rfl) Qx hr (Qf (Qe 1) (Qf (Qe 0) (Qf (Qe 2) Qj)))))) Qj)))) (Qy (Qau (Qe 2))) Qcw)))
  (Qy (Qau Qgl)))
def Qtg (tx:Txt K mg):Qa6 P w K mg base ds Qib:=fun cf n R f ag A outer s H E hc h1 co pz hr =>
 (Qq (Qsx (Qaf (hc 7 Qb0 rfl) pz hr (Qf (Qe 0) Qj)))
  (Qq (Qav (Qa7 (i:=1) Qdt.nd (Qcm Qj)))
  (Qq (Qiv (Qa7 (i:=2) Qdt.nd (Q87 tx.n_list Qvc tx.n_range Q0t rfl (Qcy (Qc4 K rfl) (Qb5 K) tx.n_len Qbx (Qf (Qde rfl (Qe 0) Qu) Qj)))))
  (Qq (Q5q (Qsw hr.units (Qe 2) (Qb4 Qj)) (Qq (Q88 (i:=2) (Qav (Qa7 (i:=3) Qdt.nd (Qaf (hc 9 Qgg rfl) Qx hr (Qf (Qe 0) (Qf (Qe 2) Qj))))))
  (Qq (Qf1 (Q5u (Qe 3) Qgl) (Qy (Qau Qgl)) Qcw)
  (Qq (Qav (Qa7 (i:=1) Qdt.nd (Qc5 rfl (Qe 1) (Qcm (Qf (Qe 3) Qj)))))
  (Qy (Qada (Qe4 (Qmi K rfl Z9 PySem.F.slot_list_remove PySem.F.type_list_remove Qwt (Qd1 2) (Qas (Qe 3) Qby)))))))))
  (Qy (Qau (Qe 1)))))))
def Qmv (tx:Txt K mg):Qa6 P w K mg base ds Qfb:=fun cf n R f ag A outer s H E hc h1 co pz hr =>
 (Qq (Qiv (Qa7 (i:=2) Qc0.nd (Qb4 Qj)))
  (Qq (Qc6 rfl (Qbp rfl (Qe 1)) (Q7 (Q5 (i:=3) Qc0.nd)) (Qy (Qc6 rfl (Q86 tx.n_range (Qc5 rfl (Qde rfl (Qe 3) Qu) Qu) (Qcy (Qc4 K rfl) (Qb5 K) tx.n_len Qbx (Qf (Qde rfl (Qe 0) Qu) Qj))) (Q7 (Q5 (i:=4) Qc0.nd)) (Qy (Qf1 (t_w (Qy5 (Qzu hr.units (Qe 4) (Qe 3)) (Qjz (Qck (Qaf (hc 8 Qdv rfl) Qx hr (Qf (Qe 0) (Qf (Qde rfl (Qe 3) (Qui Qu)) (Qf (Qe 4) Qj)))))))) (Qy (Quv (Qe4 (Qmi K rfl Z9 Za5 Za6 Qfd (Qd1 2) (Qas (Qc5 rfl (Qe 3) (Qcm (Qf (Qe 4) Qj))) Qby))))) Qcw)))))
  (Qy (Qau (Qe 2)))))
def Qw6 (tx:Txt K mg):Qa6 P w K mg base ds Qjr:=fun cf n R f ag A outer s H E hc h1 co pz hr =>
 (Qq (Qsx (Qaf (hc 7 Qb0 rfl) pz hr (Qf (Qe 0) Qj)))
  (Qq (Qav (Qzr ["place"] [none] rfl (Qek tx.n_range (Qcy (Qc4 K rfl) (Qb5 K) tx.n_len Qbx (Qf (Qde rfl (Qe 0) Qu) Qj))) (fun _ _ _=>(Q7 (Q5 (i:=0) (show List.Nodup (["place"]:List PySem.Str) by decide +kernel)))) (fun _ _ _=>Qej) (fun _ _ _=>(Qcm (Qf (Qe 0) Qj))) (Q5 (i:=1) Qga.nd)))
  (Qq (Q5q (Qsw hr.units (Qe 1) (Qb4 Qj)) (Qq (Qc6 rfl (Qbp rfl (Qe 1)) (Q7 (Q5 (i:=2) Qga.nd)) (Qy (Qf1 (Qck (Qaf (hc 8 Qdv rfl) Qx hr (Qf (Qe 0) (Qf (Qde rfl (Qe 2) (Qui Qu)) (Qf (Qde rfl (Qe 2) Qu) Qj))))) (Qy (Qau (Qe 2))) Qcw)))
  (Qy (Qav (Qa7 (i:=1) Qga.nd (Qaf (hc 11 Qfb rfl) Qx hr (Qf (Qe 0) (Qf (Qe 1) Qj))))))))
  (Qy (Qau Qgl)))))
def Qw7 (tx:Txt K mg):Qa6 P w K mg base ds Qjt:=fun cf n R f ag A outer s H E hc h1 co pz hr =>
 (Qq (Qav (Qa7 (i:=1) Ql2.nd (Qcy (Qzc K rfl rfl) (Qzd K) tx.n_max Q0s (Qf (Qe 0) (Qf (Q5s Qu (Qe 0)) Qj)))))
  (Qy (Qau (Qb4 (Qf (Qe 1) (Qf (Quy Qyd Qze tx.n_int Qo3 (Qf (g_ge (Qe 1) (Q5t Qu Qu)) Qj)) Qj))))))
def Qth (tx:Txt K mg):Qa6 P w K mg base ds Qbr:=fun cf n R f ag A outer s H E hc h1 co pz hr =>
 (Qq (Qf1 (t_eq hr.units (Qde rfl (Qe 0) Qu) Qu) (Qq (Qact (Qt8 (Qcy Qabt Q8x tx.n_divmod Qw3 (Qf (Qde rfl (Qe 0) Qu) (Qf (Qe 1) Qj))) (Qzj (is:=[2,3]) (Qya K rfl rfl (Qkg (Q5 (i:=2) Qdu.nd) (Qkg (Q5 (i:=3) Qdu.nd) Qx9))) rfl)))
  (Qq (Q5p (Qt8 (Qe 2) (Qsb (Qd1 0) Qu)))
  (Qy (Qau (Qe 3))))) Qcw)
  (Qq (Qav (Qa7 (i:=4) Qdu.nd (Qqk (Qux (Qc5 rfl (Qqk (Qde rfl (Qe 0) Qu) Qu) Qu) Qu) Qu)))
  (Qq (Qav (Qa7 (i:=4) Qdu.nd (Qqk (Qc5 rfl (Qux (Qe 4) (Qe 4)) Qu) Qu)))
  (Qq (Q5p (Qt8 (Qqk (Qc5 rfl (Qux (Qe 4) Qu) Qu) Qu) (Qsb (Qd1 0) Qu)))
  (Qy (Qau (Qqk (Qacx (Qde rfl (Qe 0) Qu) Qu) (Qe 1))))))))
def Qrl (tx:Txt K mg):Qa6 P w K mg base ds Qg9:=fun cf n R f ag A outer s H E hc h1 co pz hr =>
 (Qy (Qau (Quj (Qj3 tx.n_isinstance Qbb (Qe 0) (Qp0 "int" tx.n_int Qo3)) (Quk (Q5k (Qj3 tx.n_isinstance Qbb (Qe 0) (Qp0 "bool" tx.n_bool Qvb)))))))
def Qrm (tx:Txt K mg):Qa6 P w K mg base ds Qhb:=fun cf n R f ag A outer s H E hc h1 co pz hr =>
 (Qq (Qacu (Qabj 1 2 Qai.nd (by decide) (Qf (Qc5 rfl Qu (Qaf (hc 14 Qbr rfl) pz hr (Qf (Qe 0) (Qf Qu Qj)))) (Qf (Qc5 rfl Qu (Qaf (hc 14 Qbr rfl) pz hr (Qf (Qe 0) (Qf Qu Qj)))) Qj))))
  (Qq (Qiv (Qa7 (i:=3) Qai.nd (Qb4 Qj)))
  (Qq (Qc6 rfl (Qek tx.n_range (Qe 1)) (Q7 (Q5 (i:=4) Qai.nd)) (Qy (Qac8 (Qe4 (Qmi K rfl Z9 PySem.F.slot_list_insert PySem.F.type_list_insert Qz0 (Qd1 3) (Qas (Qaf (hc 14 Qbr rfl) Qx hr (Qf (Qe 0) (Qf (Qc5 rfl (Qe 4) Qu) Qj))) (Qas (Qe 4) Qby)))))))
  (Qq (Qav (Qa7 (i:=5) Qai.nd (Qaf (hc 14 Qbr rfl) pz hr (Qf (Qe 0) (Qf Qu Qj)))))
  (Qq (Qiv (Qa7 (i:=6) Qai.nd (Qb4 Qj)))
  (Q9d (K:=K) ⟨by decide,by decide,by decide,by decide,by decide,by decide⟩ (Qt7 Zcr rfl (Qsa tx.n_range (Qas (Qd1 2) Qby)) (Q5 (i:=7) Qai.nd) (Qdj (Qiv (Qa7 (i:=8) Qai.nd (Qb4 Qj))) (Qdj (Qt7 Zcr rfl (Qsa tx.n_range (Qas (Qd1 1) Qby)) (Q5 (i:=9) Qai.nd) (Q0a (Qav (Qa7 (i:=10) Qai.nd (Q5v rfl (Qe 3) (Qup (Qc5 rfl (Qac9 (Qmi K rfl Z9 PySem.F.slot_list_index PySem.F.type_list_index Qzz (Qd1 3) (Qas (Qe 9) Qby))) Qu)) Quo)))
  (Q0a (Qiv (Qa7 (i:=11) Qai.nd (Qb4 Qj)))
  (Qdj (Qc6 rfl (Qek tx.n_range (Qe 1)) (Q7 (Q5 (i:=12) Qai.nd)) (Qq (Qav (Qa7 (i:=13) Qai.nd (Qcy (Qzc K rfl rfl) (Qzd K) tx.n_max Q0s (Qf Qu (Qf (Q5s (Qaf (hc 14 Qbr rfl) Qx hr (Qf (Qe 0) (Qf Qu Qj))) Qu) Qj)))))
  (Qy (Quv (Qe4 (Qmi K rfl Z9 Za5 Za6 Qfd (Qd1 11) (Qas (Qux (Qe 13) (Quy Qyd Qze tx.n_int Qo3 (Qf (s_or (g_in hr.units (Qe 12) (Qe 10)) (Quk (g_eq hr.units (Qe 5) Qu))) Qj))) Qby))))))) (Qh3 (Qe4 (Qmi K rfl Z9 Za5 Za6 Qfd (Qd1 8) (Qas (Qd1 11) Qby)))))))) (Qh3 (Qe4 (Qmi K rfl Z9 Za5 Za6 Qfd (Qd1 6) (Qas (Qd1 8) Qby))))))) (Qyb (t_eq hr.units (Qe 5) Qu) (Qh3 (Qt8 (Qc5 rfl Qu (Qaf (hc 14 Qbr rfl) Qx hr (Qf (Qe 0) (Qf Qu Qj)))) (Qsb (Q2v (Q5x K rfl) (Q2v (Q5x K rfl) (Qd1 6) Qm5) (Qaf (hc 14 Qbr rfl) Qx hr (Qf (Qe 0) (Qf (Qe 1) Qj)))) (Qaf (hc 14 Qbr rfl) Qx hr (Qf (Qe 0) (Qf (Qe 1) Qj)))))) Qsc)
  (Qacs (Qy (Qau (Qcz ["_law_rows"] [none] rfl (Qbp rfl (Qe 6)) (fun _ _ _=>(Q7 (Q5 (i:=0) (show List.Nodup (["_law_rows"]:List PySem.Str) by decide +kernel)))) (fun _ _ _=>Qej) (fun _ _ _=>(Quy (Qua K rfl) (Qzf K) tx.n_tuple Qg8 (Qf (Qcz ["_law_row"] [none] rfl (Qbp rfl (Qe 0)) (fun _ _ _=>(Q7 (Q5 (i:=0) (show List.Nodup (["_law_row"]:List PySem.Str) by decide +kernel)))) (fun _ _ _=>Qej) (fun _ _ _=>(Quy (Qua K rfl) (Qzf K) tx.n_tuple Qg8 (Qf (Qe 0) Qj)))) Qj)))))))))))))
def Qti (tx:Txt K mg):Qa6 P w K mg base ds Qgh:=fun cf n R f ag A outer s H E hc h1 co pz hr =>
 (Qq (Qiv (Qa7 (i:=2) Qg6.nd (Qb4 Qj)))
  (Qq (Qc6 rfl (Qek tx.n_range (Qcy (Qc4 K rfl) (Qb5 K) tx.n_len Qbx (Qf (Qde rfl (Qe 0) Qu) Qj))) (Q7 (Q5 (i:=3) Qg6.nd)) (Qy (Qf1 (Qsw hr.units (Qcz ["_law_table","_law_other","_law_place"] [none,some 3,some 1] rfl (Qbp rfl (Qe 0)) (fun _ _ _=>(Q7 (Q5 (i:=0) (show List.Nodup (["_law_table","_law_other","_law_place"]:List PySem.Str) by decide +kernel)))) (fun _ _ _=>(Qll (Qsw hr.units (Qde rfl (Qde rfl (Qe 0) (Qe 2)) (Qe 1)) Qu))) (fun _ _ _=>(Qe 0))) (Qb4 Qj)) (Qy (Quv (Qe4 (Qmi K rfl Z9 Za5 Za6 Qfd (Qd1 2) (Qas (Qe 3) Qby))))) Qcw)))
  (Qy (Qau (Qe 2)))))
def Qo9 (tx:Txt K mg):Qa6 P w K mg base ds Qgi:=fun cf n R f ag A outer s H E hc h1 co pz hr =>
 (Qq (Qav (Qa7 (i:=1) Qbq.nd (Qb4 (Qf (Qcm Qj) Qj))))
  (Qq (Qc6 rfl (Qek tx.n_range (Qe 0)) (Q7 (Q5 (i:=2) Qbq.nd)) (Qq (Qav (Qa7 (i:=3) Qbq.nd (Qb4 Qj)))
  (Qq (Qc6 rfl (Qbp rfl (Qe 1)) (Q7 (Q5 (i:=4) Qbq.nd)) (Qy (Qav (Qa7 (i:=3) Qbq.nd (Qc5 rfl (Qe 3) (Qcz ["_law_one","_law_row"] [none,some 4] rfl (Qek tx.n_range (Qe 0)) (fun _ _ _=>(Q7 (Q5 (i:=0) (show List.Nodup (["_law_one","_law_row"]:List PySem.Str) by decide +kernel)))) (fun _ _ _=>(Qll (Qzu hr.units (Qe 0) (Qe 1)))) (fun _ _ _=>(Qc5 rfl (Qe 1) (Qcm (Qf (Qe 0) Qj))))))))))
  (Qy (Qav (Qa7 (i:=1) Qbq.nd (Qe 3)))))))
  (Qy (Qau (Qe 1)))))
def Qtj (tx:Txt K mg):Qa6 P w K mg base ds Qic:=fun cf n R f ag A outer s H E hc h1 co pz hr =>
 (Qq (Qc6 rfl (Qac3 rfl tx.n_enumerate Qo2 (Qe 1)) (Qzj (is:=[2,3]) (Qya K rfl rfl (Qkg (Q5 (i:=2) Qg7.nd) (Qkg (Q5 (i:=3) Qg7.nd) Qx9))) rfl) (Qy (Qf1 (Qsw hr.units (Qcz ["_law_other","_law_row","_law_at"] [none,some 1,some 2] rfl (Qbp rfl (Qaf (hc 17 Qgh rfl) Qx hr (Qf (Qe 0) (Qf (Qe 3) Qj)))) (fun _ _ _=>(Q7 (Q5 (i:=0) (show List.Nodup (["_law_other","_law_row","_law_at"]:List PySem.Str) by decide +kernel)))) (fun _ _ _=>(Qll (t_in hr.units (Qe 0) (Q5v rfl (Qe 1) Quo (Qup (Qc5 rfl (Qe 2) Qu)))))) (fun _ _ _=>(Qe 0))) (Qb4 Qj)) (Qy (Qau Qqd)) Qcw)))
  (Qy (Qau Qqd)))
def Qrn (tx:Txt K mg):Qa6 P w K mg base ds Qhc:=fun cf n R f ag A outer s H E hc h1 co pz hr =>
 (Qq (Qav (Qa7 (i:=1) Qar.nd (Qcy (Qc4 K rfl) (Qb5 K) tx.n_len Qbx (Qf (Qde rfl (Qe 0) Qu) Qj))))
  (Qq (Qiv (Qa7 (i:=2) Qar.nd (Qb4 Qj)))
  (Qq (Qc6 rfl (Qek tx.n_range (Qe 1)) (Q7 (Q5 (i:=3) Qar.nd)) (Qq (Qav (Qa7 (i:=4) Qar.nd (Qb4 (Qf (Qcm (Qf (Qe 3) Qj)) Qj))))
  (Qy (Qc6 rfl (Qek tx.n_range (Qe 1)) (Q7 (Q5 (i:=5) Qar.nd)) (Qq (Qav (Qa7 (i:=6) Qar.nd (Qb4 Qj)))
  (Qq (Qc6 rfl (Qbp rfl (Qe 4)) (Q7 (Q5 (i:=7) Qar.nd)) (Qq (Qav (Qa7 (i:=8) Qar.nd (Qaf (hc 17 Qgh rfl) Qx hr (Qf (Qe 0) (Qf (Qde rfl (Qe 7) (Qui Qu)) Qj)))))
  (Qq (Qf1 (t_in hr.units (Qe 3) (Qe 8)) (Qy (Quv (Qe4 (Qmi K rfl Z9 Za5 Za6 Qfd (Qd1 2) (Qas (Qe 7) Qby))))) Qcw)
  (Qy (Qav (Qa7 (i:=6) Qar.nd (Qc5 rfl (Qe 6) (Qcz ["_law_one","_law_path","_law_first"] [none,some 7,some 3] rfl (Qbp rfl (Qe 8)) (fun _ _ _=>(Q7 (Q5 (i:=0) (show List.Nodup (["_law_one","_law_path","_law_first"]:List PySem.Str) by decide +kernel)))) (fun _ _ _=>(Qll (t_w (Qy5 (Q84 (Qe 0) (Qe 2)) (Qjz (Qzu hr.units (Qe 0) (Qe 1))))))) (fun _ _ _=>(Qc5 rfl (Qe 1) (Qcm (Qf (Qe 0) Qj))))))))))))
  (Qy (Qav (Qa7 (i:=4) Qar.nd (Qe 6))))))))))
  (Qy (Qau (Qe 2))))))
def Q0v (tx:Txt K mg):Qa6 P w K mg base ds Qi6:=fun cf n R f ag A outer s H E hc h1 co pz hr =>
 (Qq (Qf1 (Q5u (Qe 1) Qgl) (Qy (Qau (Qzq (Qe 0) Qgl))) Qcw)
  (Qy (Qau (Quj (Qj3 tx.n_isinstance Qbb (Qe 0) (Qp0 "tuple" tx.n_tuple Qg8)) (Quj (g_eq hr.units (Qe 0) (Qe 1)) (Quk (Qcy (Qt9 K rfl) (Qoh K) tx.n_all Qo1 (Qf (Qcz ["_law_place"] [none] rfl (Qbp rfl (Qe 0)) (fun _ _ _=>(Q7 (Q5 (i:=0) (show List.Nodup (["_law_place"]:List PySem.Str) by decide +kernel)))) (fun _ _ _=>Qej) (fun _ _ _=>(Qaf (hc 15 Qg9 rfl) Qx hr (Qf (Qe 0) Qj)))) Qj))))))))
def Qro (tx:Txt K mg):Qa6 P w K mg base ds Qe1:=fun cf n R f ag A outer s H E hc h1 co pz hr =>
 (Qq (Qav (Qzr ["_law_row","_law_tables"] [none,some 0] rfl (Qbp rfl (Qaf (hc 18 Qgi rfl) pz hr (Qf (Qcy (Qc4 K rfl) (Qb5 K) tx.n_len Qbx (Qf (Qde rfl (Qe 0) Qu) Qj)) Qj))) (fun _ _ _=>(Q7 (Q5 (i:=0) (show List.Nodup (["_law_row","_law_tables"]:List PySem.Str) by decide +kernel)))) (fun _ _ _=>(Qll (Qck (Qaf (hc 19 Qic rfl) Qx hr (Qf (Qe 1) (Qf (Qe 0) Qj)))))) (fun _ _ _=>(Qe 0)) (Q5 (i:=1) Qb9.nd)))
  (Qq (Qav (Qa7 (i:=2) Qb9.nd (Qcy (Q9b K rfl hr.units) (Q3v K) tx.n_sorted Qw4 (Qf (Qcz ["_law_ring"] [none] rfl (Qbp rfl (Qaf (hc 20 Qhc rfl) pz hr (Qf (Qe 0) Qj))) (fun _ _ _=>(Q7 (Q5 (i:=0) (show List.Nodup (["_law_ring"]:List PySem.Str) by decide +kernel)))) (fun _ _ _=>Qej) (fun _ _ _=>(Qcm (Qf (Qcy (Qc4 K rfl) (Qb5 K) tx.n_len Qbx (Qf (Qe 0) Qj)) (Qf (Qe 0) Qj))))) Qj))))
  (Qq (Qav (Qa7 (i:=3) Qb9.nd (Qde rfl (Qc5 rfl (Qe 1) (Qb4 (Qf Qgl Qj))) Qu)))
  (Qq (Qav (Qa7 (i:=4) Qb9.nd (Qde rfl (Qde rfl (Qc5 rfl (Qe 2) (Qb4 (Qf (Qcm (Qf Qu (Qf Qgl Qj))) Qj))) Qu) Qu)))
  (Qq (Qc6 rfl (Qek tx.n_range Qu) (Q7 (Q5 (i:=5) Qb9.nd)) (Qy (Qf1 (t_w (Qsr (Qhw (Qck (Qaf (hc 21 Qi6 rfl) Qx hr (Qf (Qaf (hc 10 Qib rfl) Qx hr (Qf (Qe 0) Qj)) (Qf (Qe 3) Qj))))) (Qjz (Qhw (Qck (Qaf (hc 21 Qi6 rfl) Qx hr (Qf (Qaf (hc 12 Qjr rfl) Qx hr (Qf (Qe 0) Qj)) (Qf (Qe 4) Qj)))))))) (Qy (Qau Qqd)) Qcw)))
  (Qy (Qau (g_ne hr.units (Qzq (Qe 3) Qgl) (Qzq (Qe 4) Qgl)))))))))
def Qpa (d:Dfn K mg "_law_cell" Qen) (tx:Txt K mg):Has P w K mg base "_law_cell" ["_law_script","_law_k"] 1 (Qlt K):=by
 refine Qabu (k:=0) d Qre Qrf (fun vs H Q E h=>?_) (fun f ag A outer s H vs Q E hr h=>?_)
 ·obtain ⟨a,ns,k,rfl,_⟩:=h
  rfl
 ·obtain ⟨a,ns,k,rfl,hs,q⟩:=h
  refine ⟨_,(Qdj (Qyb (Qx8 Q73 (Qd1 1) (Q70 (Qc4 K rfl) tx.n_len Qbx (Qas (Qd1 0) Qby)) (Q7c _)) (Qh3 (Qt6 (Q2v (o_ix K rfl) (Qd1 0) (Qd1 1)))) Qsc)
   (Qh3 (Qt6 Qm5))),?_⟩
  refine ⟨_,rfl,_,rfl,a,_,rfl,.inl hs,_,_,rfl,rfl,_,rfl,?_⟩
  refine ite2 (fun c=>?_) (fun c=>?_)
  ·have c:(k:Int)<(ns.map V.int).length:=by simpa using c
   have hk:k<ns.length:=by rw [Zf] at c;omega
   refine ⟨_,rfl,_,rfl,.inl ⟨a,_,_,_,rfl,rfl,hs,Qcs (v:=V.int ns[k]) ?_,q _⟩⟩
   rw [Z8,Za hk]
   rfl
  ·exact q _
abbrev Q0w:L2.S:=(.for_ (.seq (.lst (.cons (.lst (.cons (.tup (.cons (.tup (.cons (.int 0) .nil)) .nil)) .nil)) (.cons (.lst (.cons (.tup (.cons (.tup (.cons (.int 5) .nil)) .nil)) .nil)) (.cons (.lst (.cons (.tup (.cons (.tup (.cons (.int 0) (.cons (.int 1) .nil))) (.cons (.tup (.cons (.int 0) (.cons (.int 0) .nil))) .nil))) (.cons (.tup (.cons (.tup (.cons (.int 0) (.cons (.int 0) .nil))) (.cons (.tup (.cons (.int 1) (.cons (.int 0) .nil))) .nil))) .nil))) .nil))))) (.nm 1) (.ite (.not (.call 22 (.cons (.var 1) .nil))) (.ret (.bl false)) .nil))
abbrev Qtk:L2.S:=(.ite (.not (.call 22 (.cons (.tcall 16 (.cons (.call 13 (.cons (.var 2) .nil)) .nil)) .nil))) (.ret (.bl false)) .nil)
def Qadp (tx:Txt K mg) {cf:CF} {f:Fw} {ag:Fx} {A:Fv} {outer:List Env} {s:Fy} {H:Hp} {E:XK} (hc:Qoj P w K mg base ds cf 29) (cV:Has P w K mg base "_law_cell" ["_law_script","_law_k"] 1 (Qlt K)) (hr:Room 29 (A.deeper (PyProof.Rows.envOfC "law" (Qi Qj6) s.heap.objs.size f ag))) :
  QB (Qhp (fun _=>true) CX0 P w K mg base ["_law_script","_law_tables","_law_cell_here"] "law" (Qi Qj6) f ag A outer s H E).nox (Qbh Qj6) (Q55 ⟨cf,fun _ _ _ _=>False,mg⟩ K Q0w 2 5 Qtk) :=
 Qdj (Qc6 rfl (Qbp rfl (Qb4 (Qf (Qb4 (Qf (Qcm (Qf (Qcm (Qf Qu Qj)) Qj)) Qj)) (Qf (Qb4 (Qf (Qcm (Qf (Qcm (Qf Qu Qj)) Qj)) Qj)) (Qf (Qb4 (Qf (Qcm (Qf (Qcm (Qf Qu (Qf Qu Qj))) (Qf (Qcm (Qf Qu (Qf Qu Qj))) Qj))) (Qf (Qcm (Qf (Qcm (Qf Qu (Qf Qu Qj))) (Qf (Qcm (Qf Qu (Qf Qu Qj))) Qj))) Qj))) Qj))))) (Q7 (Q5 (i:=1) Qtb.nd)) (Qy (Qf1 (Qhw (Qck (Qaf (hc 22 Qe1 rfl) Qx hr (Qf (Qe 1) Qj)))) (Qy (Qau Qqd)) Qcw)))
  (Qdj (Qt7 Zcr rfl (Q49 K rfl (q_op (Q5a K rfl) (Q48 (Qas (q_fn cV (hr.mono (by decide)) (Qas (Qd1 0) (Qas Qm5 Qby))) Qby)) (q_sl (o_sl K rfl) (Qd1 0) (Qr9 Qm5) (Qr9 Qm5)))) (Q5 (i:=2) Qtb.nd)
   (Qy (Qf1 (Qhw (Qck (Qaf (hc 22 Qe1 rfl) Qx hr (Qf (Q3q (hc 16 Qhb rfl) Qx hr (Qf (Qaf (hc 13 Qjt rfl) Qx hr (Qf (Qe 2) Qj)) Qj)) Qj)))) (Qy (Qau Qqd)) Qcw)))
  (Qh3 (Qt6 q_bl)))
end
open PySem L2
section
variable (lk:Nat→Nat→Bool)
def Fit (r:List Nat):Prop:=r.Pairwise (fun x y=>lk y x=false)∧∀ x∈r,lk x x=false
def Qdw:List Nat→Bool
 | []=>true
 | x::r=>!lk x x&&r.all (fun y=>!lk y x)&&Qdw r
def Qi8:∀ r,Qdw lk r=true↔Fit lk r
 | []=>⟨fun _=>⟨.nil,fun x hx=>(nomatch hx)⟩,fun _=>rfl⟩
 | x::r=>by
  unfold Qdw
  rw [Zm,Zm,Qi8 r,Z1]
  constructor
  ·rintro ⟨⟨h1,h2⟩,h3,h4⟩
   refine ⟨Zap.mpr ⟨fun y hy=>by simpa using h2 y hy,h3⟩,fun y hy=>?_⟩
   rcases Z7.mp hy with rfl | hy
   ·simpa using h1
   ·exact h4 y hy
  ·rintro ⟨h1,h2⟩
   obtain ⟨a,b⟩:=Zap.mp h1
   exact ⟨⟨by simpa using h2 x (.head _),fun y hy=>by simpa using a y hy⟩,b,fun y hy=>h2 y (.tail _ hy)⟩
def Qdx (left:List Nat) (p:Nat):Bool:=!left.any fun q=>lk q p
def gr:Nat→List Nat→Option (List Nat)
 | 0,_=>some []
 | m+1,left=>match left.find? (Qdx lk left) with
  | none=>none
  | some p=>(gr m (left.erase p)).map (p :: ·)
def Qpb (m:Nat) (left:List Nat):gr lk (m+1) left=match left.find? (Qdx lk left) with | none=>none | some p=>(gr lk m (left.erase p)).map (p :: ·):=rfl
variable {lk}
def Qtl {left:List Nat} {p:Nat} (h:Qdx lk left p=true):∀ q∈left,lk q p=false:=by
 unfold Qdx at h
 intro q hq
 simp only [Zci,Zc0] at h
 simpa using h q hq
def Q0x {left:List Nat} {p:Nat} (h:∀ q∈left,lk q p=false):Qdx lk left p=true:=by
 unfold Qdx
 simp only [Zci,Zc0]
 intro q hq
 rw [h q hq]
 exact Zk
def Fit.sub {r s:List Nat} (h:Fit lk r) (e:s.Sublist r):Fit lk s:=⟨h.1.sublist e,fun x hx=>h.2 x (e.subset hx)⟩
def Qvd:∀ (m:Nat) {left:List Nat},left.length=m→(∃ r:List Nat,r.Perm left∧Fit lk r)→∃ s,gr lk m left=some s
 | 0,left,_,_=>⟨[],rfl⟩
 | m+1,left,hl,⟨r,hp,hf⟩=>by
  cases r with
  | nil=>have:=hp.length_eq;rw [hl] at this;cases this
  | cons x r =>
   have hx:Qdx lk left x=true:=Q0x fun q hq=>by
    rcases Z7.mp (hp.mem_iff.mpr hq) with rfl | h
    ·exact hf.2 q (.head _)
    ·exact (Zap.mp hf.1).1 q h
   cases e:left.find? (Qdx lk left) with
   | none=>exact absurd hx (by simpa using Zda.mp e x (hp.mem_iff.mp (.head _)))
   | some p =>
    have hm:=Zbg e
    obtain ⟨s,hs⟩:=Qvd m (left:=left.erase p) (by rw [Zaj hm,hl];rfl) ⟨(x::r).erase p,hp.erase p,hf.sub List.erase_sublist⟩
    exact ⟨p::s,by unfold gr;rw [e];dsimp only;rw [hs];rfl⟩
def Qpc:∀ (m:Nat) {left s:List Nat},left.length=m→gr lk m left=some s→s.Perm left∧Fit lk s
 | 0,left,s,hl,h=>by
  rw [Zb8.mp hl]
  cases h
  exact ⟨.refl _,.nil,fun x hx=>(nomatch hx)⟩
 | m+1,left,s,hl,h=>by
  unfold gr at h
  cases e:left.find? (Qdx lk left) with
  | none=>rw [e] at h;cases h
  | some p =>
   rw [e] at h
   have h:(gr lk m (left.erase p)).map (p :: ·)=some s:=h
   have hm:=Zbg e
   have hs:=Qtl (Zet e)
   cases e2:gr lk m (left.erase p) with
   | none=>rw [e2] at h;cases h
   | some t =>
    rw [e2] at h
    cases h
    obtain ⟨h1,h2⟩:=Qpc m (left:=left.erase p) (by rw [Zaj hm,hl];rfl) e2
    refine ⟨(List.Perm.cons p h1).trans (Zde hm).symm,Zap.mpr ⟨fun y hy=>hs y (Zb5 (h1.mem_iff.mp hy)),h2.1⟩,fun x hx=>?_⟩
    rcases Z7.mp hx with rfl | hx
    ·exact hs _ hm
    ·exact h2.2 x hx
def lft (n:Nat) (row:List Nat):List Nat:=(List.range n).filter fun c=>!row.contains c
def ext (n:Nat):Nat→List Nat→List (List Nat)
 | 0,row=>[row]
 | m+1,row=>(lft n row).flatMap fun c=>ext n m (row++[c])
def Q9r (n:Nat) (row:List Nat):(lft n row).Nodup:=List.nodup_range.sublist Zdn
def Qef {n:Nat} {row:List Nat} (c:Nat):(lft n row).erase c=lft n (row++[c]):=by
 rw [(Q9r n row).erase_eq_filter]
 unfold lft
 rw [List.filter_filter]
 refine Zel fun x _=>?_
 by_cases h:x=c
 ·subst h;simp
 ·simp [h]
def Qpd {n:Nat}:∀ (m:Nat) {row r:List Nat},(lft n row).length=m→r∈ext n m row→∃ t,r=row++t∧t.Perm (lft n row)
 | 0,row,r,hl,h=>by
  rw [Zb8.mp hl]
  exact ⟨[],by rw [Zx.mp h,Zal],.refl _⟩
 | m+1,row,r,hl,h=>by
  obtain ⟨c,hc,h⟩:=Za3.mp h
  have ce:(lft n (row++[c])).length=m:=by rw [←Qef,Zaj hc,hl];rfl
  obtain ⟨t,e,p⟩:=Qpd m ce h
  refine ⟨c::t,by rw [e,Zao];rfl,?_⟩
  rw [←Qef] at p
  exact (List.Perm.cons c p).trans (Zde hc).symm
def Qrp {n:Nat}:∀ (m:Nat) {row:List Nat},(lft n row).length=m→Fit lk row→(∀ x∈row,∀ q∈lft n row,lk q x=false)→(ext n m row).find? (Qdw lk)=(gr lk m (lft n row)).map (row ++ ·)
 | 0,row,hl,hf,hs=>by
  show [row].find? (Qdw lk)=some (row++[])
  rw [Zds,(Qi8 lk row).mpr hf,Zal]
 | m+1,row,hl,hf,hs=>by
  have ce:∀ c∈lft n row,(lft n (row++[c])).length=m:=fun c hc=>by rw [←Qef,Zaj hc,hl];rfl
  have gi:∀ c∈lft n row,Qdx lk (lft n row) c=true→(ext n m (row++[c])).find? (Qdw lk)=(gr lk m ((lft n row).erase c)).map ((row++[c]) ++ ·):=fun c hc h=>by
   have h:=Qtl h
   rw [Qef]
   refine Qrp m (ce c hc) ⟨Zdf.mpr ⟨hf.1,Zcy _ _,fun x hx y hy=>?_⟩,fun x hx=>?_⟩ fun x hx q hq=>?_
   ·rw [Zx.mp hy];exact hs x hx c hc
   ·rcases Zah.mp hx with z | z
    ·exact hf.2 x z
    ·rw [Zx.mp z];exact h c hc
   ·rw [←Qef] at hq
    have hq:=Zb5 hq
    rcases Zah.mp hx with z | z
    ·exact hs x z q hq
    ·rw [Zx.mp z];exact h q hq
  have bad:∀ c∈lft n row,Qdx lk (lft n row) c=false→(ext n m (row++[c])).find? (Qdw lk)=none:=fun c hc h=>by
   rw [Zda]
   intro r hr z
   have z:=(Qi8 lk r).mp z
   obtain ⟨t,e,p⟩:=Qpd m (ce c hc) hr
   rw [Zao] at e
   refine absurd (Q0x (left:=lft n row) (p:=c) fun q hq=>?_) (by rw [h];exact Zk)
   by_cases hqc:q=c
   ·subst hqc
    exact z.2 q (by rw [e];simp)
   ·have de:q∈t:=p.mem_iff.mpr (by rw [←Qef];exact (List.mem_erase_of_ne hqc).mpr hq)
    have zp:=z.1
    rw [e] at zp
    exact (Zap.mp (Zdf.mp zp).2.1).1 q de
  show ((lft n row).flatMap fun c=>ext n m (row++[c])).find? (Qdw lk)=_
  have ax:∀ L:List Nat,(∀ c∈L,c∈lft n row)→(L.flatMap fun c=>ext n m (row++[c])).find? (Qdw lk)=match L.find? (Qdx lk (lft n row)) with
    | none=>none
    | some p=>(gr lk m ((lft n row).erase p)).map ((row++[p]) ++ ·):=by
   intro L
   induction L with
   | nil=>intro _;rfl
   | cons c L ih =>
    intro hL
    have ih:=ih fun x hx=>hL x (.tail _ hx)
    rw [Zba,List.find?_append,Zds]
    cases e:Qdx lk (lft n row) c with
    | false=>rw [bad c (hL c (.head _)) e,Option.none_or,ih]
    | true =>
     rw [gi c (hL c (.head _)) e]
     dsimp only
     cases e2:gr lk m ((lft n row).erase c) with
     | some s=>rfl
     | none =>
      rw [Option.map_none,Option.none_or,ih]
      cases e3:L.find? (Qdx lk (lft n row)) with
      | none=>rfl
      | some p =>
       have hp:=hL p (.tail _ (Zbg e3))
       dsimp only
       cases e4:gr lk m ((lft n row).erase p) with
       | none=>rfl
       | some s =>
        obtain ⟨s1,s2⟩:=Qpc m (by rw [Zaj hp,hl];rfl) e4
        have bA:=Qtl (Zet e3)
        have fp:Fit lk (p::s):=⟨Zap.mpr ⟨fun y hy=>bA y (Zb5 (s1.mem_iff.mp hy)),s2.1⟩,fun x hx=>by
         rcases Z7.mp hx with rfl | hx
         ·exact bA _ hp
         ·exact s2.2 x hx⟩
        have pp:(p::s).Perm (lft n row):=(List.Perm.cons p s1).trans (Zde hp).symm
        have hc:=hL c (.head _)
        obtain ⟨t,ht⟩:=Qvd m (left:=(lft n row).erase c) (by rw [Zaj hc,hl];rfl) ⟨(p::s).erase c,pp.erase c,fp.sub List.erase_sublist⟩
        rw [e2] at ht
        cases ht
  rw [ax _ fun _ h=>h,Qpb]
  cases e:(lft n row).find? (Qdx lk (lft n row)) with
  | none=>rfl
  | some p =>
   dsimp only
   rw [Option.map_map]
   congr 1
   funext s
   show (row++[p])++s=row++(p::s)
   rw [Zao]
   rfl
def Qkl (n:Nat):lft n []=List.range n:=List.filter_eq_self.mpr fun _ _=>rfl
def Q0y (n:Nat):(ext n n []).find? (Qdw lk)=gr lk n (List.range n):=by
 have:=Qrp (lk:=lk) (n:=n) n (row:=[]) (by rw [Qkl,Zac]) ⟨.nil,fun x hx=>(nomatch hx)⟩ fun x hx=>(nomatch hx)
 rw [Qkl] at this
 rw [this]
 cases gr lk n (List.range n) <;> rfl
end
section
variable (lk:Nat→Nat→Bool)
abbrev zi (r:List Nat):List Int:=r.map fun (j:Nat)=>(j:Int)
abbrev Qa0 (r:List Nat):Nat:=r.getLastD 0
abbrev headN (r:List Nat):Nat:=r.headD 0
def Qfq (bq:List Nat→List Nat) (S:List (List Nat)):List (List Nat):=S.flatMap fun r=>(bq r).map fun c=>r++[c]
def cnd (n:Nat) (r:List Nat):List Nat:=(List.range n).filter fun c=>decide (headN r<c) && !r.contains c&&lk (Qa0 r) c
def Rn (n:Nat):Nat→List (List Nat)
 | 0=>(List.range n).map fun p=>[p]
 | l+1=>Qfq (cnd lk n) (Rn n l)
def Pn (n f:Nat):Nat→List (List Nat)
 | 0=>[[f]]
 | l+1=>Qfq (cnd lk n) (Pn n f l)
def clo (r:List Nat):Bool:=lk (Qa0 r) (headN r)
variable {lk}
def Qve:∀ {a b:List Int} (x y:Int),a.length=b.length→HT.lexLt a b=true→HT.lexLt (a++[x]) (b++[y])=true
 | [],[],x,y,_,h=>by rw [HT.lexLt_nil_nil] at h;cases h
 | [],_::_,_,_,h,_=>by cases h
 | _::_,[],_,_,h,_=>by cases h
 | u::a,v::b,x,y,hl,h=>by
  rw [HT.lexLt_cons] at h
  rw [Zd3,Zd3,HT.lexLt_cons]
  by_cases e:u=v
  ·rw [Zb e] at h ⊢
   exact Qve x y (by simpa using hl) h
  ·rw [Zd e] at h ⊢
   exact h
def Qpe:∀ (a:List Int) {x y:Int},x<y→HT.lexLt (a++[x]) (a++[y])=true
 | [],x,y,h=>by
  show HT.lexLt [x] [y]=true
  rw [HT.lexLt_cons,Zd (by omega),Z5]
  exact h
 | u::a,x,y,h=>by
  rw [Zd3,Zd3,HT.lexLt_cons,Zb rfl]
  exact Qpe a h
structure Rs (l:Nat) (S:List (List Nat)):Prop where
 up:S.Pairwise fun a b=>HT.lexLt (zi a) (zi b)=true
 len:∀ r∈S,r.length=l
def Rs.grow {l:Nat} {S:List (List Nat)} {bq:List Nat→List Nat} (h:Rs l S) (hc:∀ r,(bq r).Pairwise (· < ·)):Rs (l+1) (Qfq bq S):=by
 constructor
 ·unfold My.Qfq
  rw [Zc7]
  refine ⟨fun r _=>?_,h.up.imp_of_mem ?_⟩
  ·rw [Zc4]
   refine (hc r).imp fun {x y} kc=>?_
   show HT.lexLt (zi (r++[x])) (zi (r++[y]))=true
   unfold zi
   rw [Zan,Zan]
   exact Qpe _ (show (x:Int)<(y:Int) by omega)
  ·intro a b ha hb bx x hx y hy
   obtain ⟨c,_,rfl⟩:=Z0.mp hx
   obtain ⟨d,_,rfl⟩:=Z0.mp hy
   unfold zi
   rw [Zan,Zan]
   exact Qve _ _ (by rw [Zf,Zf,h.len a ha,h.len b hb]) bx
 ·intro r hr
  obtain ⟨a,ha,hr⟩:=Za3.mp hr
  obtain ⟨c,_,rfl⟩:=Z0.mp hr
  rw [Zq,h.len a ha]
  rfl
def Q0z (n:Nat) (r:List Nat):(cnd lk n r).Pairwise (· < ·):=Zcf.sublist Zdn
def Qfr (n:Nat):∀ l,Rs (l+1) (Rn lk n l)
 | 0=>by
  refine ⟨?_,fun r hr=>?_⟩
  ·unfold Rn
   rw [Zc4]
   refine Zcf.imp fun {x y} h=>?_
   exact Qpe [] (show (x:Int)<(y:Int) by omega)
  ·obtain ⟨c,_,rfl⟩:=Z0.mp hr
   rfl
 | l+1=>(Qfr n l).grow (Q0z n)
def Qka (n f:Nat):∀ l,Rs (l+1) (Pn lk n f l)
 | 0=>⟨Zcy _ _,fun r hr=>by rw [Zx.mp hr];rfl⟩
 | l+1=>(Qka n f l).grow (Q0z n)
def Qhd (r:List Nat) (c:Nat) (h:r≠[]):headN (r++[c])=headN r:=by
 cases r with
 | nil=>exact absurd rfl h
 | cons x r=>rfl
def Qcq {r:List Nat} {l:Nat} (h:r.length=l+1):r≠[]:=fun z=>by rw [z] at h;cases h
def Qrq (n:Nat):∀ l r,r∈Rn lk n l↔headN r<n∧r∈Pn lk n (headN r) l
 | 0,r=>by
  constructor
  ·intro h
   obtain ⟨c,hc,rfl⟩:=Z0.mp h
   exact ⟨Zab.mp hc,.head _⟩
  ·rintro ⟨h1,h2⟩
   exact Z0.mpr ⟨headN r,Zab.mpr h1,(Zx.mp h2).symm⟩
 | l+1,r=>by
  constructor
  ·intro h
   obtain ⟨a,ha,hr⟩:=Za3.mp h
   obtain ⟨c,hc,rfl⟩:=Z0.mp hr
   obtain ⟨h1,h2⟩:=(Qrq n l a).mp ha
   rw [Qhd a c (Qcq ((Qfr n l).len a ha))]
   exact ⟨h1,Za3.mpr ⟨a,h2,Z0.mpr ⟨c,hc,rfl⟩⟩⟩
  ·rintro ⟨h1,h2⟩
   obtain ⟨a,ha,hr⟩:=Za3.mp h2
   obtain ⟨c,hc,rfl⟩:=Z0.mp hr
   rw [Qhd a c (Qcq ((Qka n _ l).len a ha))] at h1 ha
   exact Za3.mpr ⟨a,(Qrq n l a).mpr ⟨h1,ha⟩,Z0.mpr ⟨c,hc,rfl⟩⟩
def Qhn (n f:Nat):∀ l,∀ r∈Pn lk n f l,headN r=f
 | 0,r,h=>by rw [Zx.mp h];rfl
 | l+1,r,h=>by
  obtain ⟨a,ha,hr⟩:=Za3.mp h
  obtain ⟨c,hc,rfl⟩:=Z0.mp hr
  rw [Qhd a c (Qcq ((Qka n f l).len a ha))]
  exact Qhn n f l a ha
variable (lk)
def fnd (n:Nat):List (List Nat):=(List.range n).flatMap fun f=>(List.range n).flatMap fun l=>(Pn lk n f l).filter (clo lk)
def rg (n:Nat):Nat→Nat→Option (List Nat)
 | 0,_=>none
 | m+1,l=>match (Rn lk n l).find? (clo lk) with
  | some r=>some r
  | none=>rg n m (l+1)
variable {lk}
def Qgj {n:Nat} {r:List Nat}:r∈fnd lk n↔∃ l,l<n∧r∈Rn lk n l∧clo lk r=true:=by
 unfold fnd
 simp only [Za3,Zab,Zax]
 constructor
 ·rintro ⟨f,hf,l,hl,hr,hc⟩
  have e:=Qhn n f l r hr
  exact ⟨l,hl,(Qrq n l r).mpr ⟨by rw [e];exact hf,by rw [e];exact hr⟩,hc⟩
 ·rintro ⟨l,hl,hr,hc⟩
  obtain ⟨h1,h2⟩:=(Qrq n l r).mp hr
  exact ⟨headN r,h1,l,hl,h2,hc⟩
def Qadq {l:Nat} {S:List (List Nat)} (h:Rs l S):S.Nodup:=h.up.imp fun {a b} bx e=>by rw [e,Qki] at bx;cases bx
def Q00 (n:Nat):(fnd lk n).Nodup:=by
 unfold fnd List.Nodup
 rw [Zc7]
 refine ⟨fun f _=>?_,Zcf.imp fun {f g} jZ x hx y hy e=>?_⟩
 ·rw [Zc7]
  refine ⟨fun l _=>(Qadq (Qka n f l)).sublist Zdn,Zcf.imp fun {l m} kn x hx y hy e=>?_⟩
  have a:=(Qka n f l).len x (Zax.mp hx).1
  have b:=(Qka n f m).len y (Zax.mp hy).1
  rw [e] at a
  omega
 ·obtain ⟨l,_,hx⟩:=Za3.mp hx
  obtain ⟨m,_,hy⟩:=Za3.mp hy
  have a:=Qhn n f l x (Zax.mp hx).1
  have b:=Qhn n g m y (Zax.mp hy).1
  rw [e] at a
  omega
abbrev kz (r:List Nat):List Int:=(r.length:Int)::zi r
def Q01 {a b:List Nat} (h:zi a=zi b):a=b:=(List.map_inj_right (f:=fun (j:Nat)=>(j:Int)) (fun x y e=>Int.ofNat_inj.mp e)).mp h
def Qtm {S:List (List Nat)} {l:Nat} (h:Rs l S) {r:List Nat} (hr:S.find? (clo lk)=some r):∀ x∈S,clo lk x=true→x=r∨HT.lexLt (zi r) (zi x)=true:=by
 obtain ⟨hc,as,bs,e,ha⟩:=List.find?_eq_some_iff_append.mp hr
 intro x hx jP
 rw [e] at hx
 rcases Zah.mp hx with z | z
 ·have:=ha x z
  rw [jP] at this
  cases this
 ·rcases Z7.mp z with rfl | z
  ·exact .inl rfl
  ·have p:=h.up
   rw [e] at p
   exact .inr ((Zap.mp (Zdf.mp p).2.1).1 x z)
def Qi9 (n:Nat):∀ (m l:Nat),l+m=n→(∀ i,i<l→(Rn lk n i).find? (clo lk)=none) →
  match rg lk n m l with
  | some r=>r∈fnd lk n∧∀ x∈fnd lk n,x=r∨HT.lexLt (kz r) (kz x)=true
  | none=>fnd lk n=[]
 | 0,l,e,h=>by
  show fnd lk n=[]
  refine Zc8.mpr fun r hr=>?_
  obtain ⟨i,hi,h1,h2⟩:=Qgj.mp hr
  exact absurd h2 (by simpa using Zda.mp (h i (by omega)) r h1)
 | m+1,l,e,h=>by
  unfold rg
  cases hf:(Rn lk n l).find? (clo lk) with
  | none =>
   exact Qi9 n m (l+1) (by omega) fun i hi=>by
    by_cases c:i=l
    ·subst c;exact hf
    ·exact h i (by omega)
  | some r =>
   have hm:=Zbg hf
   have lr:=(Qfr n l).len r hm
   refine ⟨Qgj.mpr ⟨l,by omega,hm,Zet hf⟩,fun x hx=>?_⟩
   obtain ⟨i,hi,h1,h2⟩:=Qgj.mp hx
   have lx:=(Qfr n i).len x h1
   by_cases c:i<l
   ·exact absurd h2 (by simpa using Zda.mp (h i c) x h1)
   ·by_cases c2:i=l
    ·subst c2
     rcases Qtm (Qfr n i) hf x h1 h2 with z | z
     ·exact .inl z
     ·refine .inr ?_
      rw [HT.lexLt_cons,Zb (by rw [lr,lx])]
      exact z
    ·refine .inr ?_
     rw [HT.lexLt_cons,Zd (by omega),Z5]
     omega
def Q56 (n:Nat):((fnd lk n).map kz).Nodup:=by
 unfold List.Nodup
 rw [Zc4]
 exact (Q00 n).imp fun {a b} bx e=>bx (Q01 (List.cons.inj e).2)
def Qw8 (n:Nat):((Qdo ((fnd lk n).map kz)).head?).map List.tail=(rg lk n n 0).map zi:=by
 have nd:=Q56 (lk:=lk) n
 have ax:=Qi9 (lk:=lk) n n 0 (by omega) fun i hi=>absurd hi (by omega)
 have p:=Qnb nd
 have u:=Qqc nd
 cases e:rg lk n n 0 with
 | none =>
  rw [e] at ax
  have ax:fnd lk n=[]:=ax
  rw [ax] at p ⊢
  have:Qdo ([].map kz)=[]:=List.Perm.eq_nil p
  rw [this]
  rfl
 | some r =>
  rw [e] at ax
  obtain ⟨h1,h2⟩:=ax
  cases hs:Qdo ((fnd lk n).map kz) with
  | nil =>
   rw [hs] at p
   have:=(p.mem_iff (a:=kz r)).mpr (Z0.mpr ⟨r,h1,rfl⟩)
   cases this
  | cons y L =>
   rw [hs] at p u
   obtain ⟨x,hx,rfl⟩:=Z0.mp (p.mem_iff.mp (.head _))
   show some (zi x)=some (zi r)
   rcases h2 x hx with rfl | z
   ·rfl
   ·have hr:kz r∈kz x::L:=p.mem_iff.mpr (Z0.mpr ⟨r,h1,rfl⟩)
    rcases Z7.mp hr with w | w
    ·exact congrArg some (List.cons.inj w).2.symm
    ·have:=Qof _ _ _ z ((Zap.mp u).1 _ w)
     rw [Qki] at this
     cases this
end
open PySem L2
section
variable {lk:Nat→Nat→Bool}
def Ql8 (r:List Nat) (c:Nat):Qa0 (r++[c])=c:=by simp [Qa0,List.getLastD_eq_getLast?]
def Qvf {s:List Nat} (h:Fit lk s) {x y:Nat} (hx:x∈s) (hy:y∈s) (hl:lk x y=true):s.idxOf x<s.idxOf y:=by
 rcases Zbx (s.idxOf x) (s.idxOf y) with z | z
 ·exact z
 ·have ix:s.idxOf x<s.length:=Zdq hx
  have iy:s.idxOf y<s.length:=Zdq hy
  have ex:s[s.idxOf x]=x:=List.getElem_idxOf ix
  have ey:s[s.idxOf y]=y:=List.getElem_idxOf iy
  exfalso
  by_cases e:s.idxOf y=s.idxOf x
  ·have:x=y:=by
    have e2:s[s.idxOf y]=s[s.idxOf x]:=by congr 1
    rw [ex,ey] at e2
    exact e2.symm
   subst this
   rw [h.2 x hx] at hl
   cases hl
  ·have:=(Zbs.mp h.1) (s.idxOf y) (s.idxOf x) iy ix (by omega)
   rw [ex,ey,hl] at this
   cases this
def Qvg {n:Nat} {s:List Nat} (hp:s.Perm (List.range n)) (hf:Fit lk s):∀ l,∀ r∈Rn lk n l,headN r<n∧Qa0 r<n∧s.idxOf (headN r)≤s.idxOf (Qa0 r)
 | 0,r,h=>by
  obtain ⟨c,hc,rfl⟩:=Z0.mp h
  exact ⟨Zab.mp hc,Zab.mp hc,Zi _⟩
 | l+1,r,h=>by
  obtain ⟨a,ha,hr⟩:=Za3.mp h
  obtain ⟨c,hc,rfl⟩:=Z0.mp hr
  obtain ⟨h1,h2,h3⟩:=Qvg hp hf l a ha
  unfold cnd at hc
  rw [Zax,Zab] at hc
  obtain ⟨c1,c2⟩:=hc
  rw [Zm] at c2
  rw [Qhd a c (Qcq ((Qfr n l).len a ha)),Ql8]
  have:=Qvf hf (hp.mem_iff.mpr (Zab.mpr h2)) (hp.mem_iff.mpr (Zab.mpr c1)) c2.2
  exact ⟨h1,c1,by omega⟩
def Q57 {n:Nat}:∀ (m:Nat) {left:List Nat},left.length=m→(∀ x∈left,x<n)→gr lk m left=none→∃ S:List Nat,S≠[]∧(∀ x∈S,x<n)∧∀ p∈S,∃ q∈S,lk q p=true
 | 0,left,_,_,h=>by cases h
 | m+1,left,hl,hn,h=>by
  rw [Qpb] at h
  cases e:left.find? (Qdx lk left) with
  | none =>
   refine ⟨left,(fun z=>by rw [z] at hl;cases hl),hn,fun p hp=>?_⟩
   have:=Zda.mp e p hp
   unfold Qdx at this
   simp only [Zci,Bool.not_eq_false,Zca] at this
   exact this
  | some p =>
   rw [e] at h
   have h:(gr lk m (left.erase p)).map (p :: ·)=none:=h
   exact Q57 m (by rw [Zaj (Zbg e),hl];rfl) (fun x hx=>hn x (Zb5 hx)) (Option.map_eq_none_iff.mp h)
def rings4:List (List Nat):=[[0],[1],[2],[3],[0,1],[0,2],[0,3],[1,2],[1,3],[2,3],[0,1,2],[0,2,1],[0,1,3],[0,3,1],[0,2,3],[0,3,2],[1,2,3],[1,3,2],[0,1,2,3],[0,1,3,2],[0,2,1,3],[0,2,3,1],[0,3,1,2],[0,3,2,1]]
def chB (F:Nat→Nat):List Nat→Bool
 | u::v::r=>(F v==u)&&chB F (v::r)
 | _=>true
def okR:List Nat→Bool
 | [_]=>true
 | [u,v]=>decide (u<v)
 | [u,v,w]=>decide (u<v∧u<w∧v≠w)
 | [u,v,w,x]=>decide (u<v∧u<w∧u<x∧v≠w∧v≠x∧w≠x)
 | _=>false
def f4 (a b c d:Nat):Nat→Nat
 | 0=>a
 | 1=>b
 | 2=>c
 | _=>d
def Qw9:((List.range 4).all fun a=>(List.range 4).all fun b=>(List.range 4).all fun c=>(List.range 4).all fun d=>rings4.any fun r=>chB (f4 a b c d) r&&(f4 a b c d (headN r)==Qa0 r)&&okR r)=true:=by decide +kernel
def Qho {n l:Nat} {r:List Nat} {c:Nat} (hr:r∈Rn lk n l) (h1:c<n) (h2:headN r<c) (h3:c∉r) (h4:lk (Qa0 r) c=true):r++[c]∈Rn lk n (l+1):=by
 refine Za3.mpr ⟨r,hr,Z0.mpr ⟨c,?_,rfl⟩⟩
 unfold cnd
 rw [Zax,Zab]
 refine ⟨h1,?_⟩
 rw [Zaf h2,h4,Zam,Zeb]
 simpa using h3
def Qpf {n u:Nat} (h:u<n):[u]∈Rn lk n 0:=Z0.mpr ⟨u,Zab.mpr h,rfl⟩
def Qmw {n:Nat} (h4:n≤4) {S:List Nat} (am:S≠[]) (hS:∀ x∈S,x<n) (hp:∀ p∈S,∃ q∈S,lk q p=true):fnd lk n≠[]:=by
 classical
 obtain ⟨x0,S',rfl⟩:∃ x S',S=x::S':=by
  cases S with
  | nil=>exact absurd rfl am
  | cons x S'=>exact ⟨x,S',rfl⟩
 have ex:∀ p,∃ q,q∈x0::S'∧(p∈x0::S'→lk q p=true):=fun p=>by
  by_cases c:p∈x0::S'
  ·obtain ⟨q,hq,e⟩:=hp p c
   exact ⟨q,hq,fun _=>e⟩
  ·exact ⟨x0,.head _,fun z=>absurd z c⟩
 have F0:∃ F:Nat→Nat,∀ p,F p∈x0::S'∧(p∈x0::S'→lk (F p) p=true):=⟨fun p=>Classical.choose (ex p),fun p=>Classical.choose_spec (ex p)⟩
 obtain ⟨F,hF⟩:=F0
 have lt:∀ p,F p<4:=fun p=>by have:=hS _ (hF p).1;omega
 have q:=Qw9
 simp only [Z1,Zab,Zca,Zm,Ze5] at q
 obtain ⟨r,_,⟨aZ,bO⟩,hok⟩:=q _ (lt 0) _ (lt 1) _ (lt 2) _ (lt 3)
 have eF:∀ p,∃ p',f4 (F 0) (F 1) (F 2) (F 3) p=F p'∧(p<4→p'=p):=fun p=>by
  match p with
  | 0=>exact ⟨0,rfl,fun _=>rfl⟩
  | 1=>exact ⟨1,rfl,fun _=>rfl⟩
  | 2=>exact ⟨2,rfl,fun _=>rfl⟩
  | 3=>exact ⟨3,rfl,fun _=>rfl⟩
  | p+4=>exact ⟨3,rfl,fun z=>by omega⟩
 generalize f4 (F 0) (F 1) (F 2) (F 3)=f at aZ bO eF
 have im:∀ p,f p∈x0::S':=fun p=>by obtain ⟨p',e,_⟩:=eF p;rw [e];exact (hF p').1
 have ln:∀ p,p∈x0::S'→lk (f p) p=true:=fun p h=>by
  obtain ⟨p',e,g⟩:=eF p
  have:=g (by have:=hS p h;omega)
  subst this
  rw [e]
  exact (hF p').2 h
 have fin:∀ l,r∈Rn lk n l→l<n→clo lk r=true→fnd lk n≠[]:=fun l h1 h2 h3 z=>by
  have:=Qgj.mpr ⟨l,h2,h1,h3⟩
  rw [z] at this
  cases this
 match r,aZ,bO,hok,fin with
 | [u],_,bO,_,fin =>
  have eu:f u=u:=bO
  have mu:u∈x0::S':=eu ▸ im u
  have cu:lk u u=true:=by have:=ln u mu;rwa [eu] at this
  have:=hS u mu
  exact fin 0 (Qpf this) (by omega) cu
 | [u,v],aZ,bO,hok,fin =>
  have ev:f v=u:=by simpa [chB] using aZ
  have eu:f u=v:=bO
  have mu:u∈x0::S':=ev ▸ im v
  have mv:v∈x0::S':=eu ▸ im u
  have hok:u<v:=Zbj hok
  have l1:lk u v=true:=by have:=ln v mv;rwa [ev] at this
  have l2:lk v u=true:=by have:=ln u mu;rwa [eu] at this
  have nv:=hS v mv
  exact fin 1 (Qho (Qpf (hS u mu)) nv hok (by simp;omega) l1) (by omega) l2
 | [u,v,w],aZ,bO,hok,fin =>
  simp only [chB,Zm,Ze5] at aZ
  obtain ⟨ev,ew,_⟩:=aZ
  have eu:f u=w:=bO
  have mu:u∈x0::S':=ev ▸ im v
  have mv:v∈x0::S':=ew ▸ im w
  have mw:w∈x0::S':=eu ▸ im u
  obtain ⟨o1,o2,o3⟩:=Zbj hok
  have l1:lk u v=true:=by have:=ln v mv;rwa [ev] at this
  have l2:lk v w=true:=by have:=ln w mw;rwa [ew] at this
  have l3:lk w u=true:=by have:=ln u mu;rwa [eu] at this
  have nw:=hS w mw
  have nv:=hS v mv
  have r1:=Qho (Qpf (hS u mu)) nv o1 (by simp;omega) l1
  have r2:=Qho r1 nw o2 (by simp;omega) l2
  exact fin 2 r2 (by omega) l3
 | [u,v,w,x],aZ,bO,hok,fin =>
  simp only [chB,Zm,Ze5] at aZ
  obtain ⟨ev,ew,ex,_⟩:=aZ
  have eu:f u=x:=bO
  have mu:u∈x0::S':=ev ▸ im v
  have mv:v∈x0::S':=ew ▸ im w
  have mw:w∈x0::S':=ex ▸ im x
  have mx:x∈x0::S':=eu ▸ im u
  obtain ⟨o1,o2,o3,o4,o5,o6⟩:=Zbj hok
  have l1:lk u v=true:=by have:=ln v mv;rwa [ev] at this
  have l2:lk v w=true:=by have:=ln w mw;rwa [ew] at this
  have l3:lk w x=true:=by have:=ln x mx;rwa [ex] at this
  have l4:lk x u=true:=by have:=ln u mu;rwa [eu] at this
  have nx:=hS x mx
  have nw:=hS w mw
  have nv:=hS v mv
  have r1:=Qho (Qpf (hS u mu)) nv o1 (by simp;omega) l1
  have r2:=Qho r1 nw o2 (by simp;omega) l2
  have r3:=Qho r2 nx o3 (by simp;omega) l3
  exact fin 3 r3 (by omega) l4
def Q9s {n:Nat} (h4:n≤4):(gr lk n (List.range n)).isNone = !(rg lk n n 0).isNone:=by
 have ax:=Qi9 (lk:=lk) n n 0 (by omega) fun i hi=>absurd hi (by omega)
 cases e:gr lk n (List.range n) with
 | none =>
  obtain ⟨S,s1,s2,s3⟩:=Q57 (n:=n) n Zac (fun x hx=>Zab.mp hx) e
  have:=Qmw h4 s1 s2 s3
  cases e2:rg lk n n 0 with
  | none=>rw [e2] at ax;exact absurd ax this
  | some r=>rfl
 | some s =>
  obtain ⟨hp,hf⟩:=Qpc n Zac e
  cases e2:rg lk n n 0 with
  | none=>rfl
  | some r =>
   rw [e2] at ax
   obtain ⟨l,_,h1,h2⟩:=Qgj.mp ax.1
   obtain ⟨n1,n2,n3⟩:=Qvg hp hf l r h1
   have:=Qvf hf (hp.mem_iff.mpr (Zab.mpr n2)) (hp.mem_iff.mpr (Zab.mpr n1)) h2
   omega
end
open PySem L2
abbrev cfn (k:Nat):CF:=evF (Qiw ds) k
abbrev Tb:=List (List Int)
abbrev Qja (r:List Int):T:=.tup (r.map .int)
abbrev Qc2 (M:Tb):T:=.tup (M.map Qja)
abbrev Qd (Ms:List Tb):T:=.lst (Ms.map Qc2)
structure Sq (n:Nat) (M:Tb):Prop where
 len:M.length=n
 row:∀ r∈M,r.length=n
 pos:∀ r∈M,∀ x∈r,(0:Int)≤x
 bd:∀ r∈M,∀ x∈r,(x:Int).natAbs≤1000000000000
structure Tabs (n:Nat) (Ms:List Tb):Prop where
 n1:1≤n
 n4:n≤4
 m1:1≤Ms.length
 m4:Ms.length≤4
 sq:∀ M∈Ms,Sq n M
def Q02 (k:Nat) (r:List Int) (hr:r.length≤1000):cfn (k+2) 1 [.fz (Qja r),.fz (.int r.length)]=.ok (.fz (.bl true)) [.non,.non]:=by
 have aA:evE (cfn (k+1)) (.comp (.seq (.var 0)) [none] (.nm 0) .nil (.call 0 (.cons (.var 0) .nil))) [.fz (Qja r),.fz (.int r.length)]=.ok (.ow (.lst ((r.map T.int).map fun _=>T.bl true))) [.fz (Qja r),.fz (.int r.length)] :=
  Qcd (rest:=[]) rfl rfl rfl rfl (fun x hx=>by
   obtain ⟨i,_,rfl⟩:=Z0.mp hx
   exact ⟨.fz (.bl true),rfl,rfl⟩) (by rw [Zf];omega)
 show Qcv (cfn (k+1)) ⟨2,2,Ql3⟩ _=_
 rw [Qcp rfl]
 show Qd6 _ (exS _ Ql3 [.fz (Qja r),.fz (.int r.length)])=_
 simp only [Qac,Qbm,Qq2,Qi1,Qu6,Qn,Q2,Qb,Q0,Q0f,Qq3,cont,Qlz,Qhs,Zar,Zam,Qf6,Zr,Qw,yBl,Qmo,Zat,yOr,Qa4,Qdh,Qp,yC1,Qs,yC2,yBi,Qc3,Qa2,Out.opt,ub2,Zf,Qaz,Qc,Qay,Qax,Qaw,uc2,Option.map,Qev,Zex,yB,Qam,yIf,Qco,Qbc,Qb6,aA,ub3,Qor,Qs4,Qd5,Qbf,Qbt,Qbd,Qbn,Qaa]
def Qxa (k:Nat) {n:Nat} {M:Tb} (h:Sq n M) (h1:1≤n) (h4:n≤4):cfn (k+3) 2 [.fz (Qc2 M)]=.ok (.fz (.bl true)) [.non]:=by
 have hl:=h.len
 have aA:evE (cfn (k+2)) (.comp (.seq (.var 0)) [none,some 0] (.nm 0) .nil (.call 1 (.cons (.var 0) (.cons (.bi .len (.cons (.var 1) .nil)) .nil)))) [.fz (Qc2 M)]=.ok (.ow (.lst ((M.map Qja).map fun _=>T.bl true))) [.fz (Qc2 M)] :=
  Qcd (rest:=[.fz (Qc2 M)]) rfl rfl rfl rfl (fun x hx=>by
   obtain ⟨r,hr,rfl⟩:=Z0.mp hx
   have dr:=h.row r hr
   have q:=Q02 k r (by omega)
   rw [show ((r.length:Nat):Int)=(M.length:Nat) by omega] at q
   refine ⟨.fz (.bl true),?_,rfl⟩
   simp only [Qaj,Qp,Qn,Q2,Qb,Q0,yC1,Qdh,Qc,Qs,yC2,yBi,Qc3,Qa2,cont,Out.opt,ub2,Zf,Q8,Qz,Qah,Q1,Qaq,Qag,q,Qa9,Qo,Q4,L2.Qm,Option.map,Zr]) (by rw [Zf];omega)
 show Qcv (cfn (k+2)) ⟨1,1,Qjp⟩ _=_
 rw [Qcp rfl]
 show Qd6 _ (exS _ Qjp [.fz (Qc2 M)])=_
 have c1:¬ ((M.length:Int)<1):=by omega
 have c2:¬ (4<(M.length:Int)):=by omega
 simp only [Qac,Qbm,Qq2,Qi1,Qu6,Qn,Q2,Qb,Q0,Q0f,Qq3,cont,Qlz,Qhs,Zar,Zam,Qf6,Zr,Qw,yBl,Qmo,Zat,yOr,Qa4,Qdh,Qp,yC1,Qs,yC2,yBi,Qc3,Qa2,Out.opt,ub2,Zf,Qaz,Qa3,Qay,Qax,Qaw,uc3,c1,Zcm,uc5,c2,yB,Qam,yIf,Qco,Qbc,Qb6,aA,ub3,Option.map,Qor,Qs4,Qd5,Qbf,Qbt,Qbd,Qbn,Qaa]
def Qnw {cf:CF} {g:Slot}:∀ (rows:Tb) (acc:List Int) (s:Slot),Qab s=true→acc.length+rows.flatten.length≤1000→∃ s',Qap (.nm 2) (exS cf (.ext 1 (.var 2))) (rows.map Qja) [g,.ow (.lst (acc.map .int)),s]=.nx [g,.ow (.lst ((acc++rows.flatten).map .int)),s']
 | [],acc,s,_,_=>⟨s,by simp [Qap]⟩
 | r::rows,acc,s,hs,hz=>by
  rw [Za4,Zq] at hz
  obtain ⟨s',e⟩:=Qnw (cf:=cf) (g:=g) rows (acc++r) (.fz (Qja r)) rfl (by rw [Zq];omega)
  refine ⟨s',?_⟩
  have e0:Qcl (.nm 2) (Qja r) [g,.ow (.lst (acc.map .int)),s]=some [g,.ow (.lst (acc.map .int)),.fz (Qja r)]:=by
   cases s <;> first | rfl | cases hs
  rw [Zaq]
  unfold Qap
  rw [e0]
  have z:acc.length+r.length≤100000:=by omega
  simp only [Q9n,Slot.mut,Qc,Qb,Qn,Q2,Qam,Q9m,Q52,Zf,z,List.set,Zr]
  rw [←Zan,e,Za4,Zao]
def Qpg (k:Nat) (M:Tb) (hz:M.flatten.length≤1000):cfn (k+1) 3 [.fz (Qc2 M)]=.ok (.ow (.lst (M.flatten.map .int))) [.non]:=by
 obtain ⟨s',e⟩:=Qnw (cf:=cfn k) (g:=.fz (Qc2 M)) M [] .un rfl (by simpa using hz)
 rw [Zcz,Zbn] at e
 show Qcv (cfn k) ⟨1,3,Qge⟩ _=_
 rw [Qcp rfl]
 show Qd6 _ (exS _ Qge [.fz (Qc2 M),.un,.un])=_
 simp only [Qac,Qj4,Qc7,Qs,Q0,Qf3,Qbw,Zu,Nat.reduceLeDiff,Zr,Qam,Qla,Qae,Qbi,Zh,Nat.reduceAdd,Nat.reduceLT,Qc,Qb,List.set,Qbc,Qdb,Qgq,Qn,Q2,Qjo,Qfo,cont,Qfn,Qcc,Qfx,Qfp,e,Qbs,Qb6,Qd5,Qbf,Qbt,Qbd,Qbn,Qaa,Option.map]
def Qrr {n:Nat}:∀ {M:Tb},(∀ r∈M,r.length=n)→M.flatten.length=M.length*n
 | [],_=>by simp
 | r::M,h=>by
  rw [Za4,Zq,h r Za8,Qrr (fun x hx=>h x (Zak _ hx)),Zh,Nat.add_mul,Nat.one_mul,Nat.add_comm]
def Sq.flat {n:Nat} {M:Tb} (h:Sq n M) (h4:n≤4):M.flatten.length≤1000:=by
 rw [Qrr h.row,h.len]
 have:n*n≤4*4:=Nat.mul_le_mul h4 h4
 omega
def Qkm {n:Nat} {Ms:List Tb} (h:Tabs n Ms) {i:Nat} (hi:i<Ms.length):atI (Ms.map Qc2) (i:Int)=some (Qc2 Ms[i])∧Sq n Ms[i] :=
 ⟨Qcs (by rw [Z8,Za hi];rfl),h.sq _ (Zcw hi)⟩
abbrev Qph:S:=.ite (.or (.not (.call 2 (.cons (.ix (.var 0) (.var 2)) .nil))) (.cmp .ne (.bi .len (.cons (.ix (.var 0) (.var 2)) .nil)) (.bi .len (.cons (.ix (.var 0) (.int 0)) .nil)))) (.ret (.var 2)) .nil
abbrev Qpi:S:=.ite (.and (.var 1) (.not (.call 4 (.cons (.ix (.var 0) (.var 2)) .nil)))) (.ret (.var 2)) .nil
def Qrs (k:Nat) {n:Nat} {Ms:List Tb} (h:Tabs n Ms) {i:Nat} (hi:i<Ms.length):exS (cfn (k+3)) Qph [.fz (Qd Ms),.fz (.bl false),.fz (.int i)]=.nx [.fz (Qd Ms),.fz (.bl false),.fz (.int i)]:=by
 obtain ⟨a1,q1⟩:=Qkm h hi
 obtain ⟨a0,q0⟩:=Qkm h (show 0<Ms.length by omega)
 have jh:atI (Ms.map Qc2) 0=some (Qc2 Ms[0]):=a0
 have g:=Qxa k q1 h.n1 h.n4
 have l1:=q1.len
 have l0:=q0.len
 simp only [Qbm,Qq2,Qi1,Qaj,Qp,Qf4,Qn,Q2,Qb,Q0,Qfm,Qc,Qfl,Qfk,cont,Qfj,ui1,a1,yC1,Qs,yC2,Q8,Qz,Qah,Q1,Qaq,Qag,g,Qa9,Qo,Q4,L2.Qm,Option.map,Zr,Qw,yBl,Qmo,Zat,yOr,Qa4,Qdh,yBi,Qc3,Qa2,Out.opt,ub2,Zf,l1,Qaz,Qa3,jh,l0,Qay,Qax,Qaw,uc2,Qev,Zex,yB,Qam,yIf,Qco]
def Qrt (k:Nat) {Ms:List Tb} {i:Nat}:exS (cfn (k+3)) Qpi [.fz (Qd Ms),.fz (.bl false),.fz (.int i)]=.nx [.fz (Qd Ms),.fz (.bl false),.fz (.int i)]:=by
 simp only [Qbm,Qlx,Qn,Q2,Qc,Qb,Qw,Q0,yBl,Qq1,Qam,yIf,Qco]
def Qtn (k:Nat) {n:Nat} {Ms:List Tb} (h:Tabs n Ms):∃ s,Qap (.nm 2) (exS (cfn (k+3)) (.seq Qph Qpi)) (Qad 0 Ms.length) [.fz (Qd Ms),.fz (.bl false),.un]=.nx [.fz (Qd Ms),.fz (.bl false),s]:=by
 obtain ⟨ρ',e,s,_,rfl⟩:=Qdr (fun _ ρ=>∃ s,Qab s=true∧ρ=[.fz (Qd Ms),.fz (.bl false),s]) (tg:=.nm 2) (b:=exS (cfn (k+3)) (.seq Qph Qpi)) (xs:=Qad 0 Ms.length) (n:=0) (ρ:=[.fz (Qd Ms),.fz (.bl false),.un]) ⟨.un,rfl,rfl⟩ (by
  rintro i x ρ hx ⟨s,hs,rfl⟩
  have hi:i<Ms.length:=by have:=(Ze.mp hx).1;rwa [Qat] at this
  rw [Qfg hi] at hx
  cases hx
  rw [Zcb]
  refine ⟨[.fz (Qd Ms),.fz (.bl false),.fz (.int i)],[.fz (Qd Ms),.fz (.bl false),.fz (.int i)],(by cases s <;> first | rfl | cases hs),.inl ?_,.fz (.int i),rfl,rfl⟩
  rw [Qac,Qrs k h hi,Qbc,Qrt])
 exact ⟨s,e⟩
def Qto (k:Nat) {n:Nat} {Ms:List Tb} (h:Tabs n Ms):cfn (k+4) 5 [.fz (Qd Ms),.fz (.bl false)]=.ok (.fz .non) [.non,.non]:=by
 have h1:=h.m1
 have h4:=h.m4
 obtain ⟨s,e⟩:=Qtn k h
 show Qcv (cfn (k+3)) ⟨2,3,Qh9⟩ _=_
 rw [Qcp rfl]
 show Qd6 _ (exS _ Qh9 [.fz (Qd Ms),.fz (.bl false),.un])=_
 have c1:¬ ((Ms.length:Int)<1):=by omega
 have c2:¬ (4<(Ms.length:Int)):=by omega
 have c3:Ms.length≤100000:=by omega
 simp only [Qac,Qbm,Qq2,Qi1,Qu6,Qn,Q2,Qb,Q0,Q0f,Qq3,cont,Q36,Qhs,Zar,Zam,Qq8,Zr,Qw,yBl,Qmo,Zat,yOr,Qa4,Qdh,Qp,yC1,Qs,yC2,yBi,Qc3,Qa2,Out.opt,ub1,Zf,Qaz,Qa3,Qay,Qax,Qaw,uc3,c1,Zcm,uc5,c2,yB,Qam,yIf,Qco,Qbc,Qdb,Qf5,Qq9 c3,Qfp,e,Qbs,Qb6,Qgp,Qd5,Qbf,Qbt,Qbd,Qbn,Qaa,Option.map]
def Qmx (k:Nat) {n:Nat} {Ms:List Tb} (h:Tabs n Ms):cfn (k+5) 6 [.fz (Qd Ms)]=.ok (.fz .non) [.non]:=by
 have e:=Qto k h
 show Qcv (cfn (k+4)) ⟨1,2,Qe9⟩ _=_
 rw [Qcp rfl]
 show Qd6 _ (exS _ Qe9 [.fz (Qd Ms),.un])=_
 simp only [Qac,Qbe,Qaj,Qp,Qn,Q2,Qb,Q0,yC1,Q9g,Qs,yC2,Q8,Qz,Qah,Q1,Qaq,Qag,e,Qa9,Qo,Q4,L2.Qm,Option.map,Zr,Qam,Qcb,Qbj,frz,Qae,Qbi,Zh,Zu,Nat.reduceAdd,Nat.reduceLT,Qc,List.set,Qbc,Qbm,Qa4,Qaz,Qgp,Qay,Qax,cont,Qaw,uc8,Qdy,Zat,Qw,yBl,yIf,Qco,Q0n,Qbn,Qaa]
abbrev Qpj:S:=.ite (.bi .any (.cons (.comp (.seq (.call 3 (.cons (.ix (.var 0) (.var 1)) .nil))) [none] (.nm 0) .nil (.cmp .lt (.var 0) (.int 0))) .nil)) .bad .nil
def Q4d {α:Type} {xs:List α}:Qgy (xs.map fun _=>T.bl false)=some (xs.map fun _=>false):=Qg4 (fun _=>false) xs
def Q9t {α:Type} {xs:List α}:(xs.map fun _=>false).any id=false:=by rw [Zc0];intro b hb;obtain ⟨_,_,rfl⟩:=Z0.mp hb;simp
def Qtp (k:Nat) {n:Nat} {Ms:List Tb} (h:Tabs n Ms) {i:Nat} (hi:i<Ms.length):exS (cfn (k+1)) Qpj [.fz (Qd Ms),.fz (.int i)]=.nx [.fz (Qd Ms),.fz (.int i)]:=by
 obtain ⟨a1,q1⟩:=Qkm h hi
 have hz:=q1.flat h.n4
 have en:=Qpg k Ms[i] hz
 have hw:evW (cfn (k+1)) (.seq (.call 3 (.cons (.ix (.var 0) (.var 1)) .nil))) [.fz (Qd Ms),.fz (.int i)]=.ok ((Ms[i]).flatten.map T.int,none) [.fz (Qd Ms),.fz (.int i)]:=by
  simp only [Qgq,Qaj,Qp,Qf4,Qn,Q2,Qb,Q0,Qfm,Qc,Qfl,Qfk,cont,Qfj,ui1,a1,yC1,Qs,yC2,Q8,Qz,Qah,Q1,Qaq,Qag,en,Qa9,Qo,Q4,L2.Qm,Option.map,Zr,Qjo,Qfo,Qfn,Qcc,Qfx]
 have aA:evE (cfn (k+1)) (.comp (.seq (.call 3 (.cons (.ix (.var 0) (.var 1)) .nil))) [none] (.nm 0) .nil (.cmp .lt (.var 0) (.int 0))) [.fz (Qd Ms),.fz (.int i)]=.ok (.ow (.lst (((Ms[i]).flatten.map T.int).map fun _=>T.bl false))) [.fz (Qd Ms),.fz (.int i)] :=
  Qcd (rest:=[]) hw rfl rfl rfl (fun x hx=>by
   obtain ⟨z,hz,rfl⟩:=Z0.mp hx
   obtain ⟨r,hr,jB⟩:=List.mem_flatten.mp hz
   have p:=q1.pos r hr z jB
   have c:¬ z<0:=by omega
   refine ⟨.fz (.bl false),?_,rfl⟩
   simp only [Qa4,Qn,Q2,Qb,Q0,Qaz,Qa3,Qay,Qax,cont,Qaw,uc3,c,Zcm]) (by rw [Zf];omega)
 simp only [Qbm,Qdh,Qp,aA,Q0,yC1,Qs,yC2,yBi,Qc3,Qa2,cont,Out.opt,ub4,Option.map,Q4d,Q9t,Qw,yBl,Qam,yIf,Qco]
def Qtq (k:Nat) {n:Nat} {Ms:List Tb} (h:Tabs n Ms):∃ s,Qap (.nm 1) (exS (cfn (k+1)) Qpj) (Qad 0 Ms.length) [.fz (Qd Ms),.un]=.nx [.fz (Qd Ms),s]:=by
 obtain ⟨ρ',e,s,_,rfl⟩:=Qdr (fun _ ρ=>∃ s,Qab s=true∧ρ=[.fz (Qd Ms),s]) (tg:=.nm 1) (b:=exS (cfn (k+1)) Qpj) (xs:=Qad 0 Ms.length) (n:=0) (ρ:=[.fz (Qd Ms),.un]) ⟨.un,rfl,rfl⟩ (by
  rintro i x ρ hx ⟨s,hs,rfl⟩
  have hi:i<Ms.length:=by have:=(Ze.mp hx).1;rwa [Qat] at this
  rw [Qfg hi] at hx
  cases hx
  rw [Zcb]
  exact ⟨[.fz (Qd Ms),.fz (.int i)],[.fz (Qd Ms),.fz (.int i)],(by cases s <;> first | rfl | cases hs),.inl (Qtp k h hi),.fz (.int i),rfl,rfl⟩)
 exact ⟨s,e⟩
def Qe2 (k:Nat) {n:Nat} {Ms:List Tb} (h:Tabs n Ms):cfn (k+6) 7 [.fz (Qd Ms)]=.ok (.fz .non) [.non]:=by
 have h4:=h.m4
 have e:=Qmx k h
 obtain ⟨s,el⟩:=Qtq (k+4) h
 have c3:Ms.length≤100000:=by omega
 show Qcv (cfn (k+5)) ⟨1,2,Qc1⟩ _=_
 rw [Qcp rfl]
 show Qd6 _ (exS _ Qc1 [.fz (Qd Ms),.un])=_
 simp only [Qac,Qly,Qaj,Qp,Qn,Q2,Qb,Q0,yC1,Qs,yC2,Q8,Qz,Qah,Q1,Qaq,Qag,e,Qa9,Qo,Q4,L2.Qm,Option.map,Zr,Qam,Qnu,Qbc,Qdb,Qf5,Qdh,yBi,Qc3,Qa2,cont,Out.opt,ub1,Zf,Qq9 c3,Qfp,el,Qbs,Q0n,Qbn,Qaa]
open PySem L2
def at2 (M:Tb) (p:Int) (j:Nat):Int:=(M.getD p.toNat []).getD j 0
def Q9u {n:Nat} {M:Tb} (h:Sq n M) {p:Int} (h0:0≤p) (h1:p<(n:Int)):∃ r,atI (M.map Qja) p=some (Qja r)∧∀ j:Nat,j<n→atI (r.map T.int) (j:Int)=some (.int (at2 M p j)):=by
 obtain ⟨i,rfl⟩:=Zb9 h0
 have hi:i<M.length:=by rw [h.len];omega
 refine ⟨M[i],Qcs (by rw [Z8,Za hi];rfl),fun j hj=>?_⟩
 have dY:j<(M[i]).length:=by rw [h.row _ (Zcw hi)];exact hj
 refine Qcs ?_
 rw [Z8,Za dY]
 show some (T.int _)=some (T.int _)
 congr 2
 unfold at2
 rw [Zaw,Zn,Zn,Za hi,Za0,Za dY,Za0]
def Q03:∀ (ts:List T),eqL ts []=ts.isEmpty
 | []=>by rw [Qil];rfl
 | t::ts=>by rw [Qim (by simp)];rfl
def Qkn {ts:List T} (h:ts.all (Ql 49)=true):eqO (.lst ts) (.lst [])=some ts.isEmpty:=by
 show (if _ then _ else _)=_
 rw [Zb ⟨by rw [Ql];exact h,by simp [Ql]⟩,eqT,Q03]
def Qxb {n:Nat} {Ms:List Tb} (h:Tabs n Ms):∃ M,atI (Ms.map Qc2) 0=some (Qc2 M)∧M.length=n:=by
 obtain ⟨a0,q0⟩:=Qkm h (show 0<Ms.length by have:=h.m1;omega)
 exact ⟨_,a0,q0.len⟩
open PySem L2
def Qeq (q:T):Prop:=∃ n f:Int,0≤n∧q=.lst [.int n,.int f]
def Qhe (k:Nat) {m:Int} (h0:0<m) (h1:m.natAbs<2^64) {q:T} (hq:Qeq q):∃ r q',0≤r∧r<m∧Qeq q'∧cfn (k+1) 14 [.ml q,.fz (.int m)]=.ok (.fz (.int r)) [q',.non]:=by
 obtain ⟨n,f,hn,rfl⟩:=hq
 have cY:m.natAbs<18446744073709551616:=h1
 have jq:(32:Int).natAbs<18446744073709551616:=by decide
 by_cases hf:f=1
 ·refine ⟨n%m,.lst [.int (n / m),.int f],Zdj _ (by omega),Zdu _ h0,⟨_,_,Int.ediv_nonneg hn (by omega),rfl⟩,?_⟩
  show Qcv (cfn k) ⟨2,5,Qeo⟩ _=_
  rw [Qcp rfl]
  show Qd6 _ (exS _ Qeo [.ml (.lst [.int n,.int f]),.fz (.int m),.un,.un,.un])=_
  subst hf
  simp only [Qac,Qbm,Qa4,Qf4,Qn,Q2,Qb,Q0,Qfm,Qa3,Qfl,Qfk,cont,Slot.prv,Qfj,ui1,at_1,Qaz,Qay,Qax,Qaw,uc1,Qev,Zex,Qw,yBl,Qam,yIf,Qade,Qdh,Qp,at_0,yC1,Qc,Qs,yC2,yBi,Qc3,Qa2,Out.opt,ub7,h0,Nat.reducePow,cY,and_self,Zr,yUnp,Qae,Qbl,Qbi,Zh,Zu,Nat.reduceAdd,Nat.reduceLT,List.set,Qbc,Q53,Q35,Q0m,frz,Slot.mut,Qu7,Q0l,Q54,Qb6,Qd5,Qq5,Qbf,Qbt,Qbd,Qbn,Qaa,Option.map]
 ·refine ⟨(((((n%2147483647+40503)*69621%2147483629)*((n%2147483647+40503)*69621%2147483629)+7817)%2147483587)*48271+11)%2147483629 / 32%m,
   .lst [.int ((((((n%2147483647+40503)*69621%2147483629)*((n%2147483647+40503)*69621%2147483629)+7817)%2147483587)*48271+11)%2147483629),.int f],Zdj _ (by omega),Zdu _ h0,⟨_,_,Zdj _ (by decide),rfl⟩,?_⟩
  show Qcv (cfn k) ⟨2,5,Qeo⟩ _=_
  rw [Qcp rfl]
  show Qd6 _ (exS _ Qeo [.ml (.lst [.int n,.int f]),.fz (.int m),.un,.un,.un])=_
  have b1:Qer (n%2147483647+40503) 69621=true:=by unfold Qer;simp
  have m1:0≤(n%2147483647+40503)*69621%2147483629:=Zdj _ (by decide)
  have m2:(n%2147483647+40503)*69621%2147483629<2147483629:=Zdu _ (by decide)
  generalize hs:(n%2147483647+40503)*69621%2147483629=st at m1 m2 ⊢
  have b2:Qer st st=true:=by
   unfold Qer
   simp only [Zcq,Z5]
   exact .inl (by omega)
  have b3:∀ z,Qer z 48271=true:=fun z=>by unfold Qer;simp
  simp only [Qac,Qbm,Qa4,Qf4,Qn,Q2,Qb,Q0,Qfm,Qa3,Qfl,Qfk,cont,Slot.prv,Qfj,ui1,at_1,Qaz,Qay,Qax,Qaw,uc1,Qev,hf,Zcm,Qw,yBl,Qam,yIf,Qco,Qbc,Qbe,Qds,at_0,Qda,Qc9,Qc8,Out.opt,uo8,Int.reduceLT,Za2,Zr,uo1,uo5,b1,hs,Qcb,Qbj,frz,Qae,Qbi,Zh,Zu,Nat.reduceAdd,Nat.reduceLT,Qc,List.set,b2,Q53,b3,Q35,Q0m,Slot.mut,Qu7,Q0l,Q54,Qb6,uo7,Nat.reducePow,jq,and_self,h0,Qd5,Qbf,Qbt,Qbd,Qbn,Qaa,Option.map]
def Qadr (k:Nat) (c:Int):∃ q,Qeq q∧cfn (k+1) 13 [.fz (.int c)]=.ok (.ow q) [.non]:=by
 refine ⟨.lst [.int (if 0-c>c then 0-c else c),.int (if decide (10^18≤(if 0-c>c then 0-c else c))=true then 1 else 0)],⟨_,_,?_,rfl⟩,?_⟩
 ·split <;> omega
 ·have p1:(18:Int).natAbs≤1000000:=by decide
  have p2:(10:Int).natAbs<18446744073709551616:=by decide
  show Qcv (cfn k) ⟨1,2,Qjs⟩ _=_
  rw [Qcp rfl]
  show Qd6 _ (exS _ Qjs [.fz (.int c),.un])=_
  have z2:(2:Nat)≤100000:=by decide
  simp only [Qac,Qbe,Qdh,Qp,Qn,Q2,Qb,Q0,yC1,Qds,Qa3,Qda,Qc9,Qc8,cont,Out.opt,uo4,Qs,yC2,yBi,Qc3,Qa2,ub6,Qam,Qcb,Qbj,frz,Qae,Qbi,Zh,Zu,Nat.reduceAdd,Nat.reduceLT,Qc,List.set,Zr,Qbc,Qb6,Qc7,Qa4,Qaz,uo9,Int.reduceLE,p1,Nat.reducePow,p2,and_self,Int.reduceToNat,Int.reducePow,Qay,Qax,Qaw,uc6,ub8,Qf3,Qbw,z2,Qd5,Qbf,Qbt,Qbd,Qbn,Qaa,Option.map]
def Rows (n i:Nat) (rows:Tb):Prop:=rows.length=i∧∀ r∈rows,r.length=n∧∀ x∈r,(0:Int)≤x∧x≤1000000
def Rows.snoc {n i:Nat} {rows:Tb} {r:List Int} (h:Rows n i rows) (hl:r.length=n) (hr:∀ x∈r,0≤x∧x≤1000000):Rows n (i+1) (rows++[r]):=by
 refine ⟨by rw [Zq,h.1];rfl,fun x hx=>?_⟩
 rcases Zah.mp hx with hx | hx
 ·exact h.2 x hx
 ·rw [Zx.mp hx];exact ⟨hl,hr⟩
def Q4e:Slot→Bool
 | .un=>true
 | .fz _=>true
 | .ow _=>true
 | _=>false
abbrev sg (q:T) (n m:Nat) (os:List Int) (s4:Slot) (w:Int) (sF s7 sR s9 s10 s11 s12 s13:Slot):En:=[.ml q,.fz (.int n),.fz (.int m),.ow (.lst (os.map T.int)),s4,.fz (.int w),sF,s7,sR,s9,s10,s11,s12,s13]
abbrev Qtr:S:=.ins 3 (.call 14 (.cons (.var 0) (.cons (.bin .add (.var 4) (.int 1)) .nil))) (.var 4)
def Q04 (k:Nat) {n m:Nat} (h4:n≤4) {q:T} (hq:Qeq q):∃ (q':T) (os:List Int) (s4:Slot),Qap (.nm 4) (exS (cfn (k+1)) Qtr) (Qad 0 n) [.ml q,.fz (.int n),.fz (.int m),.ow (.lst []),.un,.un,.un,.un,.un,.un,.un,.un,.un,.un] =
  .nx [.ml q',.fz (.int n),.fz (.int m),.ow (.lst (os.map T.int)),s4,.un,.un,.un,.un,.un,.un,.un,.un,.un]∧Qeq q'∧Qab s4=true∧os.length=n∧∀ i:Nat,i<n→(i:Int)∈os:=by
 obtain ⟨ρ',e,q',os,s4,p,o,hl,hm,rfl⟩:=Qdr (fun j ρ=>∃ (q':T) (os:List Int) (s4:Slot),Qeq q'∧Qab s4=true∧os.length=j∧(∀ i:Nat,i<j→(i:Int)∈os)∧ρ=[.ml q',.fz (.int n),.fz (.int m),.ow (.lst (os.map T.int)),s4,.un,.un,.un,.un,.un,.un,.un,.un,.un]) (tg:=.nm 4) (b:=exS (cfn (k+1)) Qtr) (xs:=Qad 0 n) (n:=0)
  (ρ:=[.ml q,.fz (.int n),.fz (.int m),.ow (.lst []),.un,.un,.un,.un,.un,.un,.un,.un,.un,.un]) ⟨q,[],.un,hq,rfl,rfl,fun i hi=>absurd hi (Nat.not_lt_zero _),rfl⟩ (by
  rintro i x ρ hx ⟨q1,os,s4,p1,o4,hl,hm,rfl⟩
  have hi:i<n:=by have:=(Ze.mp hx).1;rwa [Qat] at this
  rw [Qfg hi] at hx
  cases hx
  rw [Zae] at hl hm
  obtain ⟨r,q2,r0,r1,p2,e2⟩:=Qhe k (m:=0+(i:Int)+1) (by omega) (by omega) p1
  have ek:evE (cfn (k+1)) (.call 14 (.cons (.var 0) (.cons (.bin .add (.var 4) (.int 1)) .nil))) [.ml q1,.fz (.int n),.fz (.int m),.ow (.lst (os.map T.int)),.fz (.int (0+(i:Int))),.un,.un,.un,.un,.un,.un,.un,.un,.un]=.ok (.fz (.int r)) [.ml q2,.fz (.int n),.fz (.int m),.ow (.lst (os.map T.int)),.fz (.int (0+(i:Int))),.un,.un,.un,.un,.un,.un,.un,.un,.un]:=by
   simp only [Qaj,Qp,Qn,Q2,Qb,Q0,yC1,Qds,Qc,Qda,Qa3,Qc9,Qc8,cont,Out.opt,uo1,Qs,yC2,Q8,Qz,Za7,Ze1,Zam,Qah,Q1,Qaq,Qag,e2,Qa9,Qo,Q4,L2.Qm,Option.map,Zr,Zay,Slot.put,Nat.reduceAdd,reduceCtorEq,Za2]
  have ei:=Qadn (cf:=cfn (k+1)) (i:=3) (e:=.var 4) (t:=.int (0+(i:Int))) (ts:=os.map T.int) (ρ2:=[.ml q2,.fz (.int n),.fz (.int m),.ow (.lst (os.map T.int)),.fz (.int (0+(i:Int))),.un,.un,.un,.un,.un,.un,.un,.un,.un]) rfl ek (by simp only [Qn,Q2,Qc,Qb]) rfl ⟨by rw [Zf];omega,r0,by rw [Zf];omega⟩
  rw [Q0q] at ei
  refine ⟨_,_,(by cases s4 <;> first | rfl | (cases o4;done)),.inl ei,q2,os.take r.toNat++(0+(i:Int))::os.drop r.toNat,.fz (.int (0+(i:Int))),p2,rfl,?_,?_,rfl⟩
  ·rw [Zq,Zh,Zcv,Zdb];omega
  ·intro j hj
   by_cases z:j=i
   ·rw [z,Zcb];exact Zw _ (.head _)
   ·have:=hm j (by omega)
    rw [←List.take_append_drop r.toNat os] at this
    rcases Zah.mp this with y | y
    ·exact Zad _ y
    ·exact Zw _ (.tail _ y))
 rw [Qat,Zae] at hl hm
 exact ⟨q',os,s4,e,p,o,hl,hm⟩
abbrev Qpk:S:=.setF 13 (.bi .max (.cons (.int 0) (.cons (.bin .sub (.call 14 (.cons (.var 0) (.cons (.int 4) .nil))) (.int 1)) .nil)))
abbrev Q05:E:=.bi .int (.cons (.or (.cmp .inn (.var 12) (.var 10)) (.cmp .eq (.var 5) (.int 3))) .nil)
abbrev Qts:S:=.app 11 (.bin .mul (.var 13) Q05)
def Q9v (k:Nat) {n m:Nat} {os:List Int} {s4:Slot} {w:Int} {F R:T} {s7 s9:Slot} {la:List T} (dE:la.all (Ql 49)=true) {q:T} (hq:Qeq q) {acc:List Int} (hz:acc.length≤1000) {c:Int} {s13:Slot} (c9:Qab s13=true) :
  ∃ (q':T) (v:Int) (aJ:Slot),Qeq q'∧0≤v∧v≤1000000∧Qab aJ=true∧exS (cfn (k+1)) (.seq Qpk Qts) (sg q n m os s4 w (.ro F) s7 (.ro R) s9 (.fz (.lst la)) (.ow (.lst (acc.map T.int))) (.fz (.int c)) s13)=.nx (sg q' n m os s4 w (.ro F) s7 (.ro R) s9 (.fz (.lst la)) (.ow (.lst ((acc++[v]).map T.int))) (.fz (.int c)) aJ):=by
 obtain ⟨r,q1,r0,r1,p1,e1⟩:=Qhe k (m:=4) (by decide) (by decide) hq
 obtain ⟨b,hb⟩:∃ b,opC .inn (.int c) (.lst la)=some b:=by
  refine ⟨la.any fun u=>eqT u (.int c),?_⟩
  show (if Ql 49 (.int c)=true∧la.all (Ql 49)=true then some (la.any fun u=>eqT u (.int c)) else none)=_
  rw [Zb ⟨rfl,dE⟩]
 have n0:0≤(if r-1>0 then r-1 else 0:Int)∧(if r-1>0 then r-1 else 0:Int)≤4:=by split <;> constructor <;> omega
 have es:exS (cfn (k+1)) Qpk (sg q n m os s4 w (.ro F) s7 (.ro R) s9 (.fz (.lst la)) (.ow (.lst (acc.map T.int))) (.fz (.int c)) s13)=.nx (sg q1 n m os s4 w (.ro F) s7 (.ro R) s9 (.fz (.lst la)) (.ow (.lst (acc.map T.int))) (.fz (.int c)) (.fz (.int (if r-1>0 then r-1 else 0)))):=by
  have e':evE (cfn (k+1)) (.bi .max (.cons (.int 0) (.cons (.bin .sub (.call 14 (.cons (.var 0) (.cons (.int 4) .nil))) (.int 1)) .nil))) (sg q n m os s4 w (.ro F) s7 (.ro R) s9 (.fz (.lst la)) (.ow (.lst (acc.map T.int))) (.fz (.int c)) s13)=.ok (.fz (.int (if r-1>0 then r-1 else 0))) (sg q1 n m os s4 w (.ro F) s7 (.ro R) s9 (.fz (.lst la)) (.ow (.lst (acc.map T.int))) (.fz (.int c)) s13):=by
   unfold sg
   simp only [Qdh,Qp,Qa3,Q0,yC1,Qds,Qaj,Qn,Q2,Qb,Qs,yC2,Q8,Qz,Za7,Ze1,Zam,Qah,Q1,Qaq,Qag,e1,Qa9,Qo,Q4,L2.Qm,Option.map,Zr,Zay,Slot.put,Nat.reduceAdd,reduceCtorEq,Za2,Qda,Qc9,Qc8,cont,Out.opt,uo4,yBi,Qc3,Qa2,ub6]
  rw [Qbe,e']
  cases s13 <;> first | rfl | (cases c9;done)
 generalize (if r-1>0 then r-1 else 0:Int)=nu at n0 es
 have ef:∃ z:Int,(z=0∨z=1)∧evE (cfn (k+1)) Q05 (sg q1 n m os s4 w (.ro F) s7 (.ro R) s9 (.fz (.lst la)) (.ow (.lst (acc.map T.int))) (.fz (.int c)) (.fz (.int nu)))=.ok (.fz (.int z)) (sg q1 n m os s4 w (.ro F) s7 (.ro R) s9 (.fz (.lst la)) (.ow (.lst (acc.map T.int))) (.fz (.int c)) (.fz (.int nu))):=by
  unfold sg
  cases b with
  | true=>exact ⟨1,.inr rfl,by simp only [Qdh,Qp,Qq2,Qa4,Qn,Q2,Qc,Qb,Q0,Qaz,Qay,Qax,cont,Qaw,hb,Qw,yBl,yOr,yC1,Qs,yC2,yBi,Qc3,Qa2,Out.opt,ub8,Zr]⟩
  | false =>
   by_cases hw:w=3
   ·exact ⟨1,.inr rfl,by simp only [hw,Qdh,Qp,Qq2,Qa4,Qn,Q2,Qc,Qb,Q0,Qaz,Qay,Qax,cont,Qaw,hb,Qw,yBl,yOr,Qa3,uc1,Qev,Zex,yB,yC1,Qs,yC2,yBi,Qc3,Qa2,Out.opt,ub8,Zr]⟩
   ·exact ⟨0,.inl rfl,by simp only [Qdh,Qp,Qq2,Qa4,Qn,Q2,Qc,Qb,Q0,Qaz,Qay,Qax,cont,Qaw,hb,Qw,yBl,yOr,Qa3,uc1,Qev,hw,Zcm,yB,yC1,Qs,yC2,yBi,Qc3,Qa2,Out.opt,ub8,Zaa,Za2]⟩
 obtain ⟨z,ij,ef⟩:=ef
 have mo:Qer nu z=true:=by
  unfold Qer
  simp only [Zcq,Z5]
  exact .inl (by omega)
 have zl:acc.length<100000:=by omega
 refine ⟨q1,nu*z,.fz (.int nu),p1,?_,?_,rfl,?_⟩
 ·rcases ij with rfl | rfl <;> omega
 ·rcases ij with rfl | rfl <;> omega
 ·rw [Qac,es,Qbc,Zan]
  unfold sg at ef ⊢
  simp only [Qop,Slot.mut,Qc,Qb,Qds,Qn,Q2,Q0,Qda,ef,Qc9,Qc8,cont,Out.opt,uo5,mo,Zr,Qam,Qwx,Qq7,frz,Qq6,Zf,zl,List.set,Zaq,Zcz]
abbrev Qvh:S:=.for_ (.rng1 (.var 1)) (.nm 12) (.seq Qpk Qts)
def Q9w (k:Nat) {n m:Nat} (h4:n≤4) {os:List Int} {s4:Slot} {w:Int} {F R:T} {s7 s9:Slot} {la:List T} (dE:la.all (Ql 49)=true) {q:T} (hq:Qeq q) {s12 s13:Slot} (dz:Qab s12=true) (c9:Qab s13=true) :
  ∃ (q':T) (r:List Int) (aY aJ:Slot),Qeq q'∧r.length=n∧(∀ x∈r,0≤x∧x≤1000000)∧Qab aY=true∧Qab aJ=true∧exS (cfn (k+1)) Qvh (sg q n m os s4 w (.ro F) s7 (.ro R) s9 (.fz (.lst la)) (.ow (.lst [])) s12 s13)=.nx (sg q' n m os s4 w (.ro F) s7 (.ro R) s9 (.fz (.lst la)) (.ow (.lst (r.map T.int))) aY aJ):=by
 obtain ⟨ρ',e,q',r,aY,aJ,p,hl,hr,o,o',rfl⟩:=Qdr (fun j ρ=>∃ (q':T) (r:List Int) (aY aJ:Slot),Qeq q'∧r.length=j∧(∀ x∈r,0≤x∧x≤1000000)∧Qab aY=true∧Qab aJ=true∧ρ=sg q' n m os s4 w (.ro F) s7 (.ro R) s9 (.fz (.lst la)) (.ow (.lst (r.map T.int))) aY aJ) (tg:=.nm 12) (b:=exS (cfn (k+1)) (.seq Qpk Qts)) (xs:=Qad 0 n) (n:=0)
  (ρ:=sg q n m os s4 w (.ro F) s7 (.ro R) s9 (.fz (.lst la)) (.ow (.lst [])) s12 s13) ⟨q,[],s12,s13,hq,rfl,fun x hx=>(nomatch hx),dz,c9,rfl⟩ (by
  rintro i x ρ hx ⟨q1,r,aM,aO,p1,hl,hr,o,o',rfl⟩
  have hi:i<n:=by have:=(Ze.mp hx).1;rwa [Qat] at this
  rw [Qfg hi] at hx
  cases hx
  rw [Zae] at hl
  obtain ⟨q2,v,dn,p2,v0,v1,eQ,e⟩:=Q9v k (n:=n) (m:=m) (os:=os) (s4:=s4) (w:=w) (F:=F) (R:=R) (s7:=s7) (s9:=s9) dE p1 (acc:=r) (by omega) (c:=0+(i:Int)) o'
  refine ⟨_,_,(by cases aM <;> first | rfl | (cases o;done)),.inl e,q2,r++[v],_,dn,p2,by rw [Zq,hl,Zae];rfl,fun y hy=>?_,rfl,eQ,rfl⟩
  rcases Zah.mp hy with y' | y'
  ·exact hr y y'
  ·rw [Zx.mp y'];exact ⟨v0,v1⟩)
 rw [Qat,Zae] at hl
 have c:n≤100000:=by omega
 refine ⟨q',r,aY,aJ,p,hl,hr,o,o',?_⟩
 unfold sg at e ⊢
 simp only [Qdb,Qf5,Qn,Q2,Qc,Qb,Q0,Qq9 c,Qam,Qfp,e,Qbs]
abbrev Ql9:E:=.slc (.var 3) (.cons (.bin .add (.lix 3 (.var 9)) (.int 1)) .nil) .nil
abbrev Q4f:S:=.seq (.setF 10 Ql9) (.seq (.set 11 (.lst .nil)) Qvh)
def Q06 (k:Nat) {n m:Nat} (h4:n≤4) {os:List Int} (bY:os.length≤1000) {i:Nat} (hi:(i:Int)∈os) {s4:Slot} {w:Int} {F R:T} {s7:Slot} {q:T} (hq:Qeq q) {s10 s11 s12 s13:Slot} (fj:Qab s10=true) (fh:Q4e s11=true) (dz:Qab s12=true) (c9:Qab s13=true) :
  ∃ (q':T) (r:List Int) (eZ aY aJ:Slot),Qeq q'∧r.length=n∧(∀ x∈r,0≤x∧x≤1000000)∧Qab eZ=true∧Qab aY=true∧Qab aJ=true∧exS (cfn (k+1)) Q4f (sg q n m os s4 w (.ro F) s7 (.ro R) (.fz (.int i)) s10 s11 s12 s13)=.nx (sg q' n m os s4 w (.ro F) s7 (.ro R) (.fz (.int i)) eZ (.ow (.lst (r.map T.int))) aY aJ):=by
 obtain ⟨j,hj⟩:=Q0p hi bY
 have ei:evE (cfn (k+1)) (.lix 3 (.var 9)) (sg q n m os s4 w (.ro F) s7 (.ro R) (.fz (.int i)) s10 s11 s12 s13)=.ok (.fz (.int j)) (sg q n m os s4 w (.ro F) s7 (.ro R) (.fz (.int i)) s10 s11 s12 s13):=Qadm rfl (by unfold sg;simp only [Qn,Q2,Qc,Qb]) hj
 have e1:exS (cfn (k+1)) (.setF 10 Ql9) (sg q n m os s4 w (.ro F) s7 (.ro R) (.fz (.int i)) s10 s11 s12 s13)=.nx (sg q n m os s4 w (.ro F) s7 (.ro R) (.fz (.int i)) (.fz (.lst (Qhq (os.map T.int) (some (j+1)) none))) s11 s12 s13):=by
  have e':evE (cfn (k+1)) Ql9 (sg q n m os s4 w (.ro F) s7 (.ro R) (.fz (.int i)) s10 s11 s12 s13)=.ok (.ow (.lst (Qhq (os.map T.int) (some (j+1)) none))) (sg q n m os s4 w (.ro F) s7 (.ro R) (.fz (.int i)) s10 s11 s12 s13):=by
   unfold sg at ei ⊢
   simp only [Q5y,Qn,Q2,Qc,Qb,Q0,Q9k,Qp,Qds,ei,Qda,Qa3,Qc9,Qc8,cont,Out.opt,uo1,yC1,Qs,yC2,Q9j,Q0h,Qmk,Q9i,Q0g,Q9h,Slot.prv,ui3]
  rw [Qbe,e']
  cases s10 <;> first | rfl | (cases fj;done)
 have dE:(Qhq (os.map T.int) (some (j+1)) none).all (Ql 49)=true:=by
  rw [Z1]
  intro t ht
  unfold Qhq at ht
  obtain ⟨y,_,rfl⟩:=Z0.mp (List.mem_of_mem_drop (List.mem_of_mem_take ht))
  rfl
 generalize Qhq (os.map T.int) (some (j+1)) none=la at dE e1
 have e2:exS (cfn (k+1)) (.set 11 (.lst .nil)) (sg q n m os s4 w (.ro F) s7 (.ro R) (.fz (.int i)) (.fz (.lst la)) s11 s12 s13)=.nx (sg q n m os s4 w (.ro F) s7 (.ro R) (.fz (.int i)) (.fz (.lst la)) (.ow (.lst [])) s12 s13):=by
  cases s11 <;> first | rfl | (cases fh;done)
 obtain ⟨q',r,aM,aO,p,hl,hr,o,o',e3⟩:=Q9w k (m:=m) h4 (os:=os) (s4:=s4) (w:=w) (F:=F) (R:=R) (s7:=s7) (s9:=.fz (.int i)) dE hq dz c9
 refine ⟨q',r,.fz (.lst la),aM,aO,p,hl,hr,rfl,o,o',?_⟩
 rw [Qac,e1,Qbc,Qac,e2,Qbc,e3]
def Qvi (k:Nat) {n m:Nat} (h4:n≤4) {os:List Int} (bY:os.length≤1000) (br:∀ i:Nat,i<n→(i:Int)∈os) {s4:Slot} {w:Int} {Ms:List Tb} {s7:Slot} {q:T} (hq:Qeq q) {s9 s10 s11 s12 s13:Slot} (o9:Qab s9=true) (fj:Qab s10=true) (fh:Q4e s11=true) (dz:Qab s12=true) (c9:Qab s13=true) :
  ∀ j,j≤n→∃ (R:Tb) (q':T) (t9 aW aX aM aO:Slot),Qeq q'∧Rows n j R∧Qab t9=true∧Qab aW=true∧Q4e aX=true∧Qab aM=true∧Qab aO=true ∧
   Qes (exS (cfn (k+1)) Q4f) 6 8 11 9 Ms [] (sg q n m os s4 w (.ow (.lst (Ms.map Qk))) s7 (.ow (.lst [])) s9 s10 s11 s12 s13) j=some (R,sg q' n m os s4 w (.ow (.lst (Ms.map Qk))) s7 (.ow (.lst (R.map Qao))) t9 aW aX aM aO)
 | 0,_=>⟨[],q,s9,s10,s11,s12,s13,hq,⟨rfl,fun r hr=>(nomatch hr)⟩,o9,fj,fh,dz,c9,rfl⟩
 | j+1,hj=>by
  obtain ⟨R,q1,t9,aW,aX,aM,aO,p1,hR,p9,fk,fD,fi,fJ,e⟩:=Qvi k h4 bY br hq o9 fj fh dz c9 j (by omega)
  obtain ⟨q2,r,fH,f9,dn,p2,hl,hr,gu,gH,eQ,eb⟩:=Q06 k (m:=m) h4 bY (br j (by omega)) (s4:=s4) (w:=w) (F:=.lst (Ms.map Qk)) (R:=.lst (R.map Qao)) (s7:=s7) p1 fk fD fi fJ
  refine ⟨R++[r],q2,.fz (.int j),fH,.fz (Qao r),f9,dn,p2,hR.snoc hl hr,rfl,gu,rfl,gH,eQ,?_⟩
  rw [Qs5 e (by show 9<14;decide)]
  exact Q38 (is:=r) (ρ1:=sg q2 n m os s4 w (.ro (.lst (Ms.map Qk))) s7 (.ro (.lst (R.map Qao))) (.fz (.int j)) fH (.ow (.lst (r.map T.int))) f9 dn) eb rfl rfl rfl ⟨by omega,by have:=hR.1;show R.length<1000;omega⟩
def Qvj (k:Nat) {n m:Nat} (h4:n≤4) (hm:m≤4) {os:List Int} (bY:os.length≤1000) (br:∀ i:Nat,i<n→(i:Int)∈os) {s4:Slot} {w:Int} {q:T} (hq:Qeq q) :
  ∀ j,j≤m→∃ (Ms:List Tb) (q':T) (t7 t8 t9 aW aX aM aO:Slot),Qeq q'∧Ms.length=j∧(∀ M∈Ms,Rows n n M)∧Qab t7=true∧Qab t8=true∧Qab t9=true∧Qab aW=true∧Q4e aX=true∧Qab aM=true∧Qab aO=true ∧
   Qet (exS (cfn (k+1)) (.set 8 (.lst .nil))) (exS (cfn (k+1)) Q4f) 6 8 11 9 1 7 (sg q n m os s4 w (.ow (.lst [])) .un .un .un .un .un .un .un) j=some (Ms,sg q' n m os s4 w (.ow (.lst (Ms.map Qk))) t7 t8 t9 aW aX aM aO)
 | 0,_=>⟨[],q,.un,.un,.un,.un,.un,.un,.un,hq,rfl,fun r hr=>(nomatch hr),rfl,rfl,rfl,rfl,rfl,rfl,rfl,rfl⟩
 | j+1,hj=>by
  obtain ⟨Ms,q1,t7,t8,t9,aW,aX,aM,aO,p1,hl,hs,p7,p8,p9,fk,fD,fi,fJ,e⟩:=Qvj k h4 hm bY br hq j (by omega)
  obtain ⟨R,q2,u9,fH,jG,f9,dn,p2,hR,w9,gu,j6,gH,eQ,eR⟩:=Qvi k (m:=m) h4 bY br (s4:=s4) (w:=w) (Ms:=Ms) (s7:=.fz (.int j)) p1 p9 fk fD fi fJ n (Zi _)
  refine ⟨Ms++[R],q2,.fz (.int j),.fz (Qk R),u9,fH,jG,f9,dn,p2,by rw [Zq,hl];rfl,fun M hM=>?_,rfl,rfl,w9,gu,j6,gH,eQ,?_⟩
  ·rcases Zah.mp hM with z | z
   ·exact hs M z
   ·rw [Zx.mp z];exact hR
  ·rw [Qs6 e (by show 7<14;decide)]
   exact Q39 (j:=(n:Int)) (ρ1:=sg q1 n m os s4 w (.ro (.lst (Ms.map Qk))) (.fz (.int j)) (.ow (.lst [])) t9 aW aX aM aO) (by cases t8 <;> first | rfl | (cases p8;done)) rfl rfl rfl (by omega) eR ⟨by have:=hR.1;show R.length≤1000;omega,by show Ms.length<1000;omega⟩
def Q07 {n:Nat} {M:Tb} (h:Rows n n M) {x y:Nat} {is:List Int} {v:Int} (hx:M[x]?=some is) (v0:0≤v) (v1:v≤1000000):Rows n n (M.set x (is.set y v)):=by
 refine ⟨by rw [Z6];exact h.1,fun r hr=>?_⟩
 rcases Zd1 hr with z | z
 ·exact h.2 r z
 ·rw [z]
  obtain ⟨l,hv⟩:=h.2 is (Z2 hx)
  refine ⟨by rw [Z6];exact l,fun a ha=>?_⟩
  rcases Zd1 ha with z | z
  ·exact hv a z
  ·rw [z];exact ⟨v0,v1⟩
def Q58 {n:Nat} {j:Int} (h0:0≤j) (h1:j<n):ixN n j=some j.toNat:=by
 unfold ixN
 rw [Zb h0,Zb h1]
def Q08 {q:T} (h:Qeq q):Qbu (.ml q)=.ml q:=by
 obtain ⟨a,b,_,rfl⟩:=h
 rfl
abbrev Q4g:S:=.nest 6 8 11 9 1 7 2 (.set 8 (.lst .nil)) Q4f (.cmp .eq (.var 5) (.int 2)) (.bin .add (.int 1) (.call 14 (.cons (.var 0) (.cons (.int 9) .nil)))) (.call 14 (.cons (.var 0) (.cons (.var 1) .nil))) (.call 14 (.cons (.var 0) (.cons (.var 1) .nil)))
def Q9x (k:Nat) {n m:Nat} (h1:1≤n) (h4:n≤4) (m1:1≤m) (hm:m≤4) {os:List Int} (bY:os.length≤1000) (br:∀ i:Nat,i<n→(i:Int)∈os) {s4:Slot} (o4:Qab s4=true) {w:Int} {q:T} (hq:Qeq q) :
  ∃ (Ms:List Tb) (q':T) (s1 s2 s3 gp s5 s7 s8 s9 s10 s11 s12 s13:Slot),Qeq q'∧Ms.length=m∧(∀ M∈Ms,Rows n n M)∧exS (cfn (k+1)) Q4g (sg q n m os s4 w (.ow (.lst [])) .un .un .un .un .un .un .un)=.nx [.ml q',s1,s2,s3,gp,s5,.ow (.lst (Ms.map Qk)),s7,s8,s9,s10,s11,s12,s13]:=by
 obtain ⟨Ms,q1,t7,t8,t9,aW,aX,aM,aO,p1,hl,hs,p7,p8,p9,fk,fD,fi,fJ,e⟩:=Qvj k h4 hm bY br (s4:=s4) (w:=w) hq m (Zi _)
 have ec:Q6 (evE (cfn (k+1)) (.cmp .eq (.var 5) (.int 2)) (sg q1 n m os s4 w (.ro (.lst (Ms.map Qk))) t7 t8 t9 aW aX aM aO))=.ok (decide (w=2)) (sg q1 n m os s4 w (.ro (.lst (Ms.map Qk))) t7 t8 t9 aW aX aM aO):=by
  unfold sg
  simp only [Qa4,Qn,Q2,Qc,Qb,Q0,Qaz,Qa3,Qay,Qax,cont,Qaw,uc1,Qev,Qw,yBl]
 by_cases hw:w=2
 ·rw [Zaf hw] at ec
  obtain ⟨v,q2,v0,v1,p2,e2⟩:=Qhe k (m:=9) (by decide) (by decide) p1
  obtain ⟨a,q3,a0,a1,p3,e3⟩:=Qhe k (m:=(n:Int)) (by omega) (by omega) p2
  obtain ⟨b,q4,b0,b1,p4,e4⟩:=Qhe k (m:=(n:Int)) (by omega) (by omega) p3
  cases Ms with
  | nil=>rw [Zu] at hl;omega
  | cons M Ms =>
   have hM:=hs M (.head _)
   have hx:a.toNat<M.length:=by rw [hM.1];omega
   have hr:=hM.2 _ (Zcw hx)
   have c1:(M::Ms).length≤1000:=by omega
   have f0:evE (cfn (k+1)) (.bin .add (.int 1) (.call 14 (.cons (.var 0) (.cons (.int 9) .nil)))) (sg q1 n m os s4 w (.ro (.lst ((M::Ms).map Qk))) t7 t8 t9 aW aX aM aO)=.ok (.fz (.int (1+v))) (sg q2 n m os s4 w (.ro (.lst ((M::Ms).map Qk))) t7 t8 t9 aW aX aM aO):=by
    unfold sg
    generalize (M::Ms).map Qk=X
    simp only [Qds,Qa3,Q0,Qda,Qaj,Qp,Qn,Q2,Qb,yC1,Qs,yC2,Q8,Qz,Za7,Ze1,Zam,Qah,Q1,Qaq,Qag,e2,Qa9,Qo,Q4,L2.Qm,Option.map,Zr,Zay,Slot.put,Nat.reduceAdd,reduceCtorEq,Za2,Qc9,Qc8,cont,Out.opt,uo1]
   have f1:evE (cfn (k+1)) (.call 14 (.cons (.var 0) (.cons (.var 1) .nil))) (sg q2 n m os s4 w (.ro (.lst ((M::Ms).map Qk))) t7 t8 t9 aW aX aM aO)=.ok (.fz (.int a)) (sg q3 n m os s4 w (.ro (.lst ((M::Ms).map Qk))) t7 t8 t9 aW aX aM aO):=by
    unfold sg
    generalize (M::Ms).map Qk=X
    simp only [Qaj,Qp,Qn,Q2,Qb,Q0,yC1,Qc,Qs,yC2,Q8,Qz,Za7,Ze1,Zam,Qah,Q1,Qaq,Qag,e3,Qa9,Qo,Q4,L2.Qm,Option.map,Zr,Zay,Slot.put,Nat.reduceAdd,reduceCtorEq,Za2]
   have f2:evE (cfn (k+1)) (.call 14 (.cons (.var 0) (.cons (.var 1) .nil))) (sg q3 n m os s4 w (.ro (.lst ((M::Ms).map Qk))) t7 t8 t9 aW aX aM aO)=.ok (.fz (.int b)) (sg q4 n m os s4 w (.ro (.lst ((M::Ms).map Qk))) t7 t8 t9 aW aX aM aO):=by
    unfold sg
    generalize (M::Ms).map Qk=X
    simp only [Qaj,Qp,Qn,Q2,Qb,Q0,yC1,Qc,Qs,yC2,Q8,Qz,Za7,Ze1,Zam,Qah,Q1,Qaq,Qag,e4,Qa9,Qo,Q4,L2.Qm,Option.map,Zr,Zay,Slot.put,Nat.reduceAdd,reduceCtorEq,Za2]
   have ep:=Q4a (fV:=evE (cfn (k+1)) (.bin .add (.int 1) (.call 14 (.cons (.var 0) (.cons (.int 9) .nil))))) (f1:=evE (cfn (k+1)) (.call 14 (.cons (.var 0) (.cons (.var 1) .nil)))) (f2:=evE (cfn (k+1)) (.call 14 (.cons (.var 0) (.cons (.var 1) .nil)))) (iF:=6) (ρ:=sg q1 n m os s4 w (.ow (.lst ((M::Ms).map Qk))) t7 t8 t9 aW aX aM aO) (is:=M[a.toNat]) (y:=b.toNat) c1 f0 rfl f1 rfl f2 rfl (Q58 a0 (by rw [hM.1];omega)) (Za hx) (Q58 b0 (by rw [hr.1];omega))
   refine ⟨M.set a.toNat ((M[a.toNat]).set b.toNat (1+v))::Ms,q4,.un,.un,.un,Qbu s4,.un,Qbu t7,Qbu t8,Qbu t9,Qbu aW,Qbu aX,Qbu aM,Qbu aO,p4,hl,fun N hN=>?_,?_⟩
   ·rcases Z7.mp hN with z | z
    ·rw [z];exact Q07 hM (Za hx) (by omega) (by omega)
    ·exact hs N (.tail _ z)
   ·rw [Q0r,Q4b (fc:=fun ρ=>Q6 (evE (cfn (k+1)) (.cmp .eq (.var 5) (.int 2)) ρ)) (iN:=2) (n:=(m:Int)) (ρ2:=sg q1 n m os s4 w (.ro (.lst ((M::Ms).map Qk))) t7 t8 t9 aW aX aM aO) rfl rfl (by omega) e (by show (M::Ms).length≤1000;omega) ec rfl ep]
    show SO.nx (Qbu (.ml q4)::_)=_
    rw [Q08 p4]
    rfl
 ·rw [Z4 hw] at ec
  refine ⟨Ms,q1,.fz (.int n),.fz (.int m),.ow (.lst (os.map T.int)),s4,.fz (.int w),t7,t8,t9,aW,aX,aM,aO,p1,hl,hs,?_⟩
  rw [Q0r,Q4c (fc:=fun ρ=>Q6 (evE (cfn (k+1)) (.cmp .eq (.var 5) (.int 2)) ρ)) (iN:=2) (n:=(m:Int)) (ρ2:=sg q1 n m os s4 w (.ro (.lst (Ms.map Qk))) t7 t8 t9 aW aX aM aO) rfl rfl (by omega) e (by show Ms.length≤1000;omega) ec rfl]
  rfl
def Qru:T→T
 | .lst ts=>.tup ts
 | _=>.non
def Q59:T→T
 | .lst ts=>.tup (ts.map Qru)
 | _=>.non
def Q09 (Ms:List Tb):(Ms.map Qk).map Q59=Ms.map Qc2:=by
 rw [Zbz]
 refine Zck fun M _=>?_
 show T.tup ((M.map Qao).map Qru)=_
 rw [Zbz]
 rfl
abbrev Q1a:E:=.bi .tup (.cons (.comp (.seq (.var 0)) [none] (.nm 0) .nil (.bi .tup (.cons (.var 0) .nil))) .nil)
def Q9y (k:Nat) {n:Nat} (h4:n≤4) {Ms:List Tb} (hl:Ms.length≤4) (hs:∀ M∈Ms,Rows n n M) {q:T} {s1 s2 s3 s4 s5 s7 s8 s9 s10 s11 s12 s13:Slot} :
  exS (cfn k) (.seq (.frz 6) (.ret (.comp (.seq (.var 6)) [none] (.nm 0) .nil Q1a))) [.ml q,s1,s2,s3,s4,s5,.ow (.lst (Ms.map Qk)),s7,s8,s9,s10,s11,s12,s13]=.rt (.ow (Qd Ms)) [.ml q,s1,s2,s3,s4,s5,.fz (.lst (Ms.map Qk)),s7,s8,s9,s10,s11,s12,s13]:=by
 have aA:=Qcd (cf:=cfn k) (w:=.seq (.var 6)) (js:=[none]) (e:=Q1a) (ρ:=[.ml q,s1,s2,s3,s4,s5,.fz (.lst (Ms.map Qk)),s7,s8,s9,s10,s11,s12,s13]) (rest:=[]) (xs:=Ms.map Qk) (f:=Q59) rfl rfl rfl rfl (fun x hx=>by
  obtain ⟨M,hM,rfl⟩:=Z0.mp hx
  have hR:=hs M hM
  have iG:=Qcd (cf:=cfn k) (w:=.seq (.var 0)) (js:=[none]) (e:=.bi .tup (.cons (.var 0) .nil)) (ρ:=[.fz (Qk M)]) (rest:=[]) (xs:=M.map Qao) (f:=Qru) rfl rfl rfl rfl (fun y hy=>by
   obtain ⟨r,_,rfl⟩:=Z0.mp hy
   exact ⟨.fz (.tup (r.map T.int)),rfl,rfl⟩) (by rw [Zf,hR.1];omega)
  refine ⟨.fz (.tup ((M.map Qao).map Qru)),?_,rfl⟩
  generalize (M.map Qao).map Qru=L at iG ⊢
  simp only [Qdh,Qp,iG,Q0,yC1,Qs,yC2,yBi,Qc3,Qa2,cont,Out.opt,ub9]) (by rw [Zf];omega)
 rw [Q09] at aA
 show _=SO.rt (.ow (.lst (Ms.map Qc2))) _
 generalize Ms.map Qc2=L at aA ⊢
 generalize Ms.map Qk=L' at aA ⊢
 simp only [Qac,Qadl,yFrz,Qc,Qb,List.set,Qbc,Qb6,aA,Qam,Qd5]
def Q4h (k:Nat) {q:T} (hq:Qeq q):∃ n Ms q',Tabs n Ms∧Qeq q'∧cfn (k+2) 16 [.ml q]=.ok (.ow (Qd Ms)) [q']:=by
 obtain ⟨r1,q1,a0,a1,p1,e1⟩:=Qhe k (m:=4) (by decide) (by decide) hq
 obtain ⟨r2,q2,b0,b1,p2,e2⟩:=Qhe k (m:=3) (by decide) (by decide) p1
 obtain ⟨n,hn⟩:=Zb9 (show 0≤1+r1 by omega)
 obtain ⟨m,hm⟩:=Zb9 (show 0≤1+r2 by omega)
 obtain ⟨q3,os,s4,e3,p3,o4,bY,br⟩:=Q04 k (n:=n) (m:=m) (by omega) p2
 obtain ⟨w,q4,w0,w1,p4,e4⟩:=Qhe k (m:=4) (by decide) (by decide) p3
 obtain ⟨Ms,q5,s1,s2,s3,gp,s5,s7,s8,s9,s10,s11,s12,s13,p5,hl,hs,e5⟩:=Q9x k (show 1≤n by omega) (show n≤4 by omega) (show 1≤m by omega) (show m≤4 by omega) (os:=os) (by omega) br o4 (w:=w) p4
 have e6:=Q9y (k+1) (n:=n) (by omega) (Ms:=Ms) (by omega) hs (q:=q5) (s1:=s1) (s2:=s2) (s3:=s3) (s4:=gp) (s5:=s5) (s7:=s7) (s8:=s8) (s9:=s9) (s10:=s10) (s11:=s11) (s12:=s12) (s13:=s13)
 refine ⟨n,Ms,q5,⟨by omega,by omega,by omega,by omega,fun M hM=>?_⟩,p5,?_⟩
 ·have hR:=hs M hM
  exact ⟨hR.1,fun r hr=>(hR.2 r hr).1,fun r hr x hx=>((hR.2 r hr).2 x hx).1,fun r hr x hx=>by have:=(hR.2 r hr).2 x hx;omega⟩
 ·have c:n≤100000:=by omega
  have z0:(0:Nat)≤100000:=by decide
  show Qcv (cfn (k+1)) ⟨1,14,Qha⟩ _=_
  rw [Qcp rfl]
  show Qd6 _ (exS _ Qha [.ml q,.un,.un,.un,.un,.un,.un,.un,.un,.un,.un,.un,.un,.un])=_
  have ea:exS (cfn (k+1)) (.par 1 2 (.bin .add (.int 1) (.call 14 (.cons (.var 0) (.cons (.int 4) .nil)))) (.bin .add (.int 1) (.call 14 (.cons (.var 0) (.cons (.int 3) .nil))))) [.ml q,.un,.un,.un,.un,.un,.un,.un,.un,.un,.un,.un,.un,.un]=.nx [.ml q2,.fz (.int n),.fz (.int m),.un,.un,.un,.un,.un,.un,.un,.un,.un,.un,.un]:=by
   simp only [Qadf,Qds,Qa3,Q0,Qda,Qaj,Qp,Qn,Q2,Qb,yC1,Qs,yC2,Q8,Qz,Za7,Ze1,Zam,Qah,Q1,Qaq,Qag,e1,Qa9,Qo,Q4,L2.Qm,Option.map,Zr,Zay,Slot.put,Nat.reduceAdd,reduceCtorEq,Za2,Qc9,Qc8,cont,Out.opt,uo1,hn,Qam,Q51,e2,hm,Q50,Qae,Qbl,Qbi,Zh,Zu,Nat.reduceLT,Qc,List.set]
  have eb:exS (cfn (k+1)) (.seq (.set 3 (.lst .nil)) (.for_ (.rng1 (.var 1)) (.nm 4) Qtr)) [.ml q2,.fz (.int n),.fz (.int m),.un,.un,.un,.un,.un,.un,.un,.un,.un,.un,.un]=.nx [.ml q3,.fz (.int n),.fz (.int m),.ow (.lst (os.map T.int)),s4,.un,.un,.un,.un,.un,.un,.un,.un,.un]:=by
   simp only [Qac,Qj4,Qc7,Qs,Q0,Qf3,Qbw,Zu,z0,Zr,Qam,Qla,Qae,Qbi,Zh,Nat.reduceAdd,Nat.reduceLT,Qc,Qb,List.set,Qbc,Qdb,Qf5,Qn,Q2,Qq9 c,Qfp,e3,Qbs]
  have ed:exS (cfn (k+1)) (.seq (.setF 5 (.call 14 (.cons (.var 0) (.cons (.int 4) .nil)))) (.set 6 (.lst .nil))) [.ml q3,.fz (.int n),.fz (.int m),.ow (.lst (os.map T.int)),s4,.un,.un,.un,.un,.un,.un,.un,.un,.un]=.nx (sg q4 n m os s4 w (.ow (.lst [])) .un .un .un .un .un .un .un):=by
   unfold sg
   simp only [Qac,Qbe,Qaj,Qp,Qn,Q2,Qb,Q0,yC1,Qa3,Qs,yC2,Q8,Qz,Za7,Ze1,Zam,Qah,Q1,Qaq,Qag,e4,Qa9,Qo,Q4,L2.Qm,Option.map,Zr,Zay,Slot.put,Nat.reduceAdd,reduceCtorEq,Za2,Qam,Qcb,Qbj,frz,Qae,Qbi,Zh,Zu,Nat.reduceLT,Qc,List.set,Qbc,Qj4,Qc7,Qf3,Qbw,z0,Qla]
  rw [Qac] at eb ed
  rw [Qac,ea,Qbc,Qac]
  cases x1:exS (cfn (k+1)) (.set 3 (.lst .nil)) [.ml q2,.fz (.int n),.fz (.int m),.un,.un,.un,.un,.un,.un,.un,.un,.un,.un,.un] with
  | nx ρ1 =>
   rw [x1,Qbc] at eb
   rw [Qbc,Qac,eb,Qbc,Qac]
   cases x2:exS (cfn (k+1)) (.setF 5 (.call 14 (.cons (.var 0) (.cons (.int 4) .nil)))) [.ml q3,.fz (.int n),.fz (.int m),.ow (.lst (os.map T.int)),s4,.un,.un,.un,.un,.un,.un,.un,.un,.un] with
   | nx ρ2 =>
    rw [x2,Qbc] at ed
    rw [Qbc,Qac,ed,Qbc,Qac,e5,Qbc,e6]
    generalize Qd Ms=X
    simp only [Qbf,Qbt,Qbd,Qbn,Qaa,Option.map]
   | _=>rw [x2] at ed;cases ed
  | _=>rw [x1] at eb;cases eb
open PySem L2
abbrev iT (r:List Nat):List T:=r.map fun (j:Nat)=>T.int (j:Int)
abbrev Qg (r:List Nat):T:=.tup (iT r)
def Q1b:T→Int
 | .int i=>i
 | _=>0
def iOf:T→List Int
 | .tup ts=>ts.map Q1b
 | _=>[]
def Q4i (r:List Int):iOf (Qja r)=r:=by
 show (r.map T.int).map Q1b=r
 rw [Zbz]
 exact map_id'' (fun _=>rfl) r
def mOf:T→Tb
 | .tup ts=>ts.map iOf
 | _=>[]
def Qko (M:Tb):mOf (Qc2 M)=M:=by
 show (M.map Qja).map iOf=M
 rw [Zbz]
 exact map_id'' Q4i M
abbrev nzA (i j:Nat) (M:Tb):Bool:=!decide (at2 M (i:Int) j=0)
def lkM (Ms:List Tb) (i j:Nat):Bool:=Ms.any (nzA i j)
abbrev Qtt:E:=.cmp .ne (.ix (.ix (.var 0) (.var 2)) (.var 1)) (.int 0)
def Q6a {cf:CF} {n:Nat} {M:Tb} (h:Sq n M) {i j:Nat} (hi:i<n) (hj:j<n):evE cf Qtt [.fz (Qc2 M),.fz (.int j),.fz (.int i)]=.ok (.fz (.bl (nzA i j M))) [.fz (Qc2 M),.fz (.int j),.fz (.int i)]:=by
 obtain ⟨r,a,b⟩:=Q9u h (p:=(i:Int)) (by omega) (by omega)
 have b:=b j hj
 simp only [Qa4,Qf4,Qn,Q2,Qb,Q0,Qfm,Qc,Qfl,Qfk,cont,Qfj,ui2,a,b,Qaz,Qa3,Qay,Qax,Qaw,uc2,Option.map,Qev]
def Qvk {α:Type} (g:α→Bool) (xs:List α):(xs.map g).any id=xs.any g:=by rw [List.any_map];rfl
section
variable {n:Nat} {Ms:List Tb} (h:Tabs n Ms)
include h
def Qhf (k:Nat) {i j:Nat} (hi:i<n) (hj:j<n):cfn (k+1) 8 [.fz (Qd Ms),.fz (.int i),.fz (.int j)]=.ok (.fz (.bl (lkM Ms i j))) [.non,.non,.non]:=by
 have q:=Qcd (cf:=cfn k) (w:=.seq (.var 0)) (js:=[none,some 2,some 1]) (e:=Qtt) (ρ:=[.fz (Qd Ms),.fz (.int i),.fz (.int j)]) (rest:=[.fz (.int j),.fz (.int i)]) (xs:=Ms.map Qc2) (f:=fun t=>.bl (nzA i j (mOf t))) rfl rfl rfl rfl (fun t ht=>by
  obtain ⟨M,hM,rfl⟩:=Z0.mp ht
  refine ⟨.fz (.bl (nzA i j M)),Q6a (h.sq M hM) hi hj,by rw [Qko];rfl⟩) (by have:=h.m4;rw [Zf];omega)
 have em:(Ms.map Qc2).map (fun t=>T.bl (nzA i j (mOf t)))=Ms.map fun M=>T.bl (nzA i j M):=by
  rw [Zbz]
  refine Zck fun M _=>?_
  show T.bl (nzA i j (mOf (Qc2 M)))=_
  rw [Qko]
 rw [em] at q
 have tr:=Qg4 (nzA i j) Ms
 have an:=Qvk (nzA i j) Ms
 show Qcv (cfn k) ⟨3,3,Qj7⟩ _=_
 rw [Qcp rfl]
 show Qd6 _ (exS _ (.ret (.bi .any (.cons (.comp (.seq (.var 0)) [none,some 2,some 1] (.nm 0) .nil Qtt) .nil))) [.fz (Qd Ms),.fz (.int i),.fz (.int j)])=_
 generalize Ms.map (fun M=>T.bl (nzA i j M))=L1 at q tr
 generalize Ms.map (nzA i j)=LB at tr an
 simp only [Qb6,Qdh,Qp,q,Q0,yC1,Qs,yC2,yBi,Qc3,Qa2,cont,Out.opt,ub4,Option.map,tr,an,Qam,Qd5,Qbf,Qbt,Qbd,Qbn,Qaa]
 rfl
abbrev nx (Ms:List Tb) (n i:Nat):List Nat:=(List.range n).filter (lkM Ms i)
abbrev Qkp:E:=.comp (.seq (.var 0)) [none,some 3,some 1] (.nm 0) (.cons (.cmp .ne (.ix (.ix (.var 0) (.var 2)) (.var 1)) (.int 0)) .nil) (.var 0)
abbrev Qvl:S:=.ite (.cmp .ne Qkp (.lst .nil)) (.app 2 (.var 3)) .nil
omit h in
def Q1c (m:Nat) (M:Tb):Ql (m+2) (Qc2 M)=true:=by
 rw [Ql,Z1]
 intro t ht
 obtain ⟨r,_,rfl⟩:=Z0.mp ht
 exact Qwy m r
def Q4j (k:Nat) {i j:Nat} (hi:i<n) (hj:j<n) {acc:List T} (ha:acc.length<1000):exS (cfn k) Qvl [.fz (Qd Ms),.fz (.int i),.ow (.lst acc),.fz (.int j)]=.nx [.fz (Qd Ms),.fz (.int i),.ow (.lst (acc++if lkM Ms i j=true then [.int j] else [])),.fz (.int j)]:=by
 have q:=Qi0 (cf:=cfn k) (w:=.seq (.var 0)) (js:=[none,some 3,some 1]) (cs:=.cons (.cmp .ne (.ix (.ix (.var 0) (.var 2)) (.var 1)) (.int 0)) .nil) (e:=.var 0) (ρ:=[.fz (Qd Ms),.fz (.int i),.ow (.lst acc),.fz (.int j)]) (rest:=[.fz (.int j),.fz (.int i)]) (xs:=Ms.map Qc2) (g:=fun t=>nzA i j (mOf t)) (f:=id) rfl rfl rfl rfl (fun t ht=>by
  obtain ⟨M,hM,rfl⟩:=Z0.mp ht
  have e:=Q6a (cf:=cfn k) (h.sq M hM) hi hj
  rw [Qko,Qu8,e]
  rfl) (fun t ht _=>⟨.fz t,by simp only [Qn,Q2,Qb],rfl⟩) (by have:=h.m4;rw [Zf];omega)
 rw [map_id] at q
 have ok:(((Ms.map Qc2).filter fun t=>nzA i j (mOf t)).all (Ql 49))=true:=by
  rw [Z1]
  intro t ht
  obtain ⟨M,_,rfl⟩:=Z0.mp (Zax.mp ht).1
  exact Q1c 47 M
 have e0:=Qkn ok
 have em:((Ms.map Qc2).filter fun t=>nzA i j (mOf t)).isEmpty = !lkM Ms i j:=by
  unfold lkM
  clear q ok e0 h
  induction Ms with
  | nil=>rfl
  | cons M Ms ih =>
   rw [Zaq,Zdc,Qko,any_cons]
   cases nzA i j M with
   | true=>rfl
   | false=>exact ih
 rw [em] at e0
 have z0:(0:Nat)≤100000:=by decide
 have za:acc.length<100000:=by omega
 generalize (Ms.map Qc2).filter (fun t=>nzA i j (mOf t))=FL at q e0
 have q:evE (cfn k) Qkp _=_:=q
 show exS (cfn k) (.ite (.cmp .ne Qkp (.lst .nil)) _ _) _=_
 generalize Qkp=E0 at q ⊢
 cases hb:lkM Ms i j with
 | true =>
  rw [hb] at e0
  simp only [Qbm,Qa4,q,Q0,Qaz,Qc7,Qs,Qf3,Qbw,Zu,z0,Zr,Qay,Qax,cont,Qaw,uc2,Option.map,e0,Zat,Zar,Qw,yBl,Qam,yIf,Qop,Slot.mut,Qc,Qb,Qn,Q2,Qwx,Qq7,frz,Qq6,za,List.set]
 | false =>
  rw [hb] at e0
  simp only [Qbm,Qa4,q,Q0,Qaz,Qc7,Qs,Qf3,Qbw,Zu,z0,Zr,Qay,Qax,cont,Qaw,uc2,Option.map,e0,Zar,Zat,Qw,yBl,Qam,yIf,Qco,Zaa,Za2]
  rw [Zal]
def Q1d (k:Nat) {i:Nat} (hi:i<n):cfn (k+1) 17 [.fz (Qd Ms),.fz (.int i)]=.ok (.ow (.lst (iT (nx Ms n i)))) [.non,.non]:=by
 have n4:=h.n4
 obtain ⟨ρ',e,s,_,rfl⟩:=Qdr (fun m ρ=>∃ s:Slot,Qab s=true∧ρ=[.fz (Qd Ms),.fz (.int i),.ow (.lst (iT ((List.range m).filter (lkM Ms i)))),s]) (tg:=.nm 3) (b:=exS (cfn k) Qvl) (xs:=Qad 0 n) (n:=0) (ρ:=[.fz (Qd Ms),.fz (.int i),.ow (.lst []),.un]) ⟨.un,rfl,rfl⟩ (by
  rintro m x ρ hx ⟨s,os,rfl⟩
  have hm:m<n:=by have:=(Ze.mp hx).1;rwa [Qat] at this
  have ex:x=.int (m:Int):=by
   unfold Qad at hx
   rw [Z8,Zco hm] at hx
   cases hx
   show T.int (0+(m:Int))=_
   rw [Zcb]
  subst ex
  rw [Zae]
  have t:=Q4j h k hi hm (acc:=iT ((List.range m).filter (lkM Ms i))) (by
   rw [Zf]
   have:=Zb6 (lkM Ms i) (List.range m)
   rw [Zac] at this
   omega)
  refine ⟨[.fz (Qd Ms),.fz (.int i),.ow (.lst (iT ((List.range m).filter (lkM Ms i)))),.fz (.int m)],_,(by cases s <;> first | rfl | (cases os;done)),.inl t,.fz (.int m),rfl,?_⟩
  have e:iT ((List.range (m+1)).filter (lkM Ms i))=iT ((List.range m).filter (lkM Ms i))++(if lkM Ms i m=true then [T.int (m:Int)] else []):=by
   unfold iT
   rw [Zei,List.filter_append,Zan,Zdc,Zeu]
   cases lkM Ms i m <;> rfl
  rw [e])
 rw [Qat,Zae] at e
 obtain ⟨M0,a0,l0⟩:=Qxb h
 have z0:(0:Nat)≤100000:=by decide
 have c:n≤100000:=by omega
 show Qcv (cfn k) ⟨2,4,Ql6⟩ _=_
 rw [Qcp rfl]
 show Qd6 _ (exS _ (.seq _ (.seq (.for_ _ (.nm 3) Qvl) _)) [.fz (Qd Ms),.fz (.int i),.un,.un])=_
 generalize Qvl=B0 at e ⊢
 generalize iT ((List.range n).filter (lkM Ms i))=R0 at e ⊢
 simp only [Qac,Qj4,Qc7,Qs,Q0,Qf3,Qbw,Zu,z0,Zr,Qam,Qla,Qae,Qbi,Zh,Nat.reduceAdd,Nat.reduceLT,Qc,Qb,List.set,Qbc,Qdb,Qf5,Qdh,Qp,Qf4,Qn,Q2,Qfm,Qa3,Qfl,Qfk,cont,Qfj,ui1,a0,yC1,yC2,yBi,Qc3,Qa2,Out.opt,ub2,Zf,l0,Qq9 c,Qfp,e,Qbs,Qb6,Qd5,Qbf,Qbt,Qbd,Qbn,Qaa,Option.map]
def oN:Option Nat→T
 | some j=>.int j
 | none=>.non
omit h in
def Qnx {b:En→SO} {f:Nat→Bool} {env:Slot→En} {i:Nat} (hs:∀ s t,Qab s=true→Qcl (.nm i) t (env s)=some (env (.fz t))) :
  ∀ (ns:List Nat) (s:Slot),Qab s=true→(∀ j∈ns,b (env (.fz (.int j)))=if f j=true then .rt (.fz (.int j)) (env (.fz (.int j))) else .nx (env (.fz (.int j)))) →
   ∃ s',Qap (.nm i) b (iT ns) (env s)=match ns.find? f with | some j=>.rt (.fz (.int j)) (env s') | none=>.nx (env s')
 | [],s,_,_=>⟨s,by unfold Qap;rfl⟩
 | j::ns,s,o,h=>by
  have hj:=h j (.head _)
  by_cases c:f j=true
  ·rw [Zb c] at hj
   refine ⟨.fz (.int j),?_⟩
   rw [Zds,c]
   show Qap (.nm i) b (T.int j::_) (env s)=_
   unfold Qap
   rw [hs s _ o]
   dsimp only
   rw [hj]
  ·rw [Zd c] at hj
   obtain ⟨s',e⟩:=Qnx hs ns (.fz (.int j)) rfl fun k hk=>h k (.tail _ hk)
   refine ⟨s',?_⟩
   rw [Zds,Zd8.mpr c]
   show Qap (.nm i) b (T.int j::_) (env s)=_
   unfold Qap
   rw [hs s _ o]
   dsimp only
   rw [hj]
   exact e
def nOf:T→Nat
 | .int i=>i.toNat
 | _=>0
abbrev Qkq:E:=.comp (.seq (.var 1)) [none,some 0,some 2] (.nm 0) .nil (.call 8 (.cons (.var 1) (.cons (.var 0) (.cons (.var 2) .nil))))
abbrev Q1e:S:=.ite (.not (.bi .any (.cons Qkq .nil))) (.ret (.var 2)) .nil
def Qpl (k:Nat) {left:List Nat} (hl:∀ x∈left,x<n) (hz:left.length≤1000):cfn (k+2) 9 [.fz (Qd Ms),.fz (.lst (iT left))]=.ok (.fz (oN (left.find? (Qdx (lkM Ms) left)))) [.non,.non]:=by
 obtain ⟨s',el⟩:=Qnx (b:=exS (cfn (k+1)) Q1e) (f:=Qdx (lkM Ms) left) (env:=fun s=>[.fz (Qd Ms),.fz (.lst (iT left)),s]) (i:=2) (fun s t o=>by cases s <;> first | rfl | (cases o;done)) left .un rfl (fun p hp=>by
  have q:=Qcd (cf:=cfn (k+1)) (w:=.seq (.var 1)) (js:=[none,some 0,some 2]) (e:=.call 8 (.cons (.var 1) (.cons (.var 0) (.cons (.var 2) .nil)))) (ρ:=[.fz (Qd Ms),.fz (.lst (iT left)),.fz (.int p)]) (rest:=[.fz (Qd Ms),.fz (.int p)]) (xs:=iT left) (f:=fun t=>.bl (lkM Ms (nOf t) p)) rfl rfl rfl rfl (fun t ht=>by
   obtain ⟨x,hx,rfl⟩:=Z0.mp ht
   have e:=Qhf h k (hl x hx) (hl p hp)
   refine ⟨.fz (.bl (lkM Ms x p)),?_,rfl⟩
   simp only [Qaj,Qp,Qn,Q2,Qc,Qb,Q0,yC1,Qs,yC2,Q8,Qz,Qah,Q1,Qaq,Qag,e,Qa9,Qo,Q4,L2.Qm,Option.map,Zr]) (by rw [Zf];omega)
  have em:(iT left).map (fun t=>T.bl (lkM Ms (nOf t) p))=left.map fun x=>T.bl (lkM Ms x p):=by
   unfold iT
   rw [Zbz]
   rfl
  rw [em] at q
  have tr:=Qg4 (fun x=>lkM Ms x p) left
  have an:=Qvk (fun x=>lkM Ms x p) left
  have q:evE (cfn (k+1)) Qkq _=_:=q
  show exS (cfn (k+1)) (.ite (.not (.bi .any (.cons Qkq .nil))) (.ret (.var 2)) .nil) _=_
  generalize left.map (fun x=>T.bl (lkM Ms x p))=L1 at q tr
  generalize left.map (fun x=>lkM Ms x p)=L2' at tr an
  generalize Qkq=E0 at q ⊢
  cases hb:left.any (fun x=>lkM Ms x p) with
  | true =>
   rw [hb] at an
   rw [Zd (by unfold Qdx;rw [hb];decide)]
   simp only [Qbm,Qi1,Qdh,Qp,q,Q0,yC1,Qs,yC2,yBi,Qc3,Qa2,cont,Out.opt,ub4,Option.map,tr,an,Qw,yBl,Qmo,Zat,Qam,yIf,Qco]
  | false =>
   rw [hb] at an
   rw [Zb (by unfold Qdx;rw [hb];rfl)]
   simp only [Qbm,Qi1,Qdh,Qp,q,Q0,yC1,Qs,yC2,yBi,Qc3,Qa2,cont,Out.opt,ub4,Option.map,tr,an,Qw,yBl,Qmo,Zar,Qam,yIf,Qb6,Qn,Q2,Qc,Qb,Qd5])
 show Qcv (cfn (k+1)) ⟨2,3,Qi4⟩ _=_
 rw [Qcp rfl]
 show Qd6 _ (exS _ (.seq (.for_ _ (.nm 2) Q1e) _) [.fz (Qd Ms),.fz (.lst (iT left)),.un])=_
 generalize Q1e=B0 at el ⊢
 generalize iT left=L1 at el ⊢
 cases hf:left.find? (Qdx (lkM Ms) left) with
 | some j =>
  rw [hf] at el
  simp only [Qac,Qdb,Qgq,Qn,Q2,Qc,Qb,Q0,Qjo,Qfo,cont,Qfn,Qcc,Qfx,Qam,Qfp,el,Qoq,Qq5,Qbf,Qbt,Qbd,Qbn,Qaa,Option.map]
  rfl
 | none =>
  rw [hf] at el
  simp only [Qac,Qdb,Qgq,Qn,Q2,Qc,Qb,Q0,Qjo,Qfo,cont,Qfn,Qcc,Qfx,Qam,Qfp,el,Qbs,Qbc,Qb6,Qgp,Qd5,Qbf,Qbt,Qbd,Qbn,Qaa,Option.map]
  rfl
end
open PySem L2
def Qpm:∀ r:List Nat,Qb8 (iT r)=some (zi r)
 | []=>rfl
 | x::r=>by
  show (match Qb8 (iT r) with | some is=>some ((x:Int)::is) | none=>none)=_
  rw [Qpm r]
  rfl
def Q1f:∀ {r:List Nat} {p:Nat},p∈r→∃ j,ixI (p:Int) (zi r)=some j∧(iT r).eraseIdx j=iT (r.erase p)
 | x::r,p,h=>by
  by_cases e:x=p
  ·subst e
   refine ⟨0,?_,by rw [List.erase_cons_head];rfl⟩
   show (if (x:Int)=(x:Int) then some 0 else _)=_
   rw [Zb rfl]
  ·obtain ⟨j,h1,h2⟩:=Q1f (r:=r) (p:=p) ((Z7.mp h).resolve_left fun z=>e z.symm)
   refine ⟨j+1,?_,?_⟩
   ·show (if (x:Int)=(p:Int) then some 0 else (ixI (p:Int) (zi r)).map (· + 1))=_
    rw [Zd (by omega),h1]
    rfl
   ·rw [List.erase_cons_tail (by simpa using e)]
    show T.int (x:Int)::(iT r).eraseIdx j=_
    rw [h2]
    rfl
def Qads {cf:CF} {ρ ρ1:En} {i j:Nat} {e:E} {n:Int} {ts:List T} {is:List Int} (h:(Qa ρ i).mut=true) (e1:evE cf e ρ=.ok (.fz (.int n)) ρ1) (s:Qa ρ1 i=.ow (.lst ts)) (hi:Qb8 ts=some is) (hj:ixI n is=some j):exS cf (.rem i e) ρ=.nx (ρ1.set i (.ow (.lst (ts.eraseIdx j)))):=by
 rw [exS,Zb h,e1]
 show (match Qa ρ1 i with | .ow (.lst ts)=>(match Qb8 ts with | some is=>(match ixI n is with | some j=>SO.nx (ρ1.set i (.ow (.lst (ts.eraseIdx j)))) | none=>.no) | none=>.no) | _=>.no)=_
 rw [s]
 dsimp only
 rw [hi]
 dsimp only
 rw [hj]
def Q9z {cf:CF} {i:Nat} {b:S} {ρ:En} {ts:List T} (hs:Qa ρ i=.ow (.lst ts)) (hk:(ρ.set i .un).all Qmm=true):exS cf (.look i b) ρ=lkO i ρ (exS cf b ((ρ.set i (.fz (.lst ts))).map lkS)):=by
 rw [exS,hs]
 simp only [Zb hk]
def Q90 (r:List Nat):(iT r).all flaT=true:=by
 rw [Z1]
 intro t ht
 obtain ⟨x,_,rfl⟩:=Z0.mp ht
 rfl
def Q6b {a b:List T} (h:a.length+b.length≤100000):opB .add (.tup a) (.tup b)=some (.fz (.tup (a++b))):=Zb h
def Q1g {a b:List T} (h:a.length+b.length≤100000):opB .add (.lst a) (.lst b)=some (.ow (.lst (a++b))):=Zb h
def Qjb (r:List Nat):(iT r).all (Ql 49)=true:=by
 rw [Z1]
 intro t ht
 obtain ⟨x,_,rfl⟩:=Z0.mp ht
 rfl
abbrev Qju:S:=.setF 3 (.call 9 (.cons (.var 0) (.cons (.var 2) .nil)))
abbrev Q4k:S:=.seq (.ite (.cmp .isn (.var 3) .non) (.ret .non) .nil) (.seq (.setF 1 (.bin .add (.var 1) (.tup (.cons (.var 3) .nil)))) (.rem 2 (.var 3)))
abbrev Qcf:S:=.seq (.look 2 Qju) Q4k
abbrev Qec:E:=.cmp .ne (.var 2) (.lst .nil)
def flN:Slot→Prop:=fun s=>s=.un∨∃ o,s=.fz (oN o)
section
variable {n:Nat} {Ms:List Tb} (h:Tabs n Ms)
include h
def Q4l (k:Nat) {ord left:List Nat} (hl:∀ x∈left,x<n) (hz:left.length≤1000) {s3:Slot} (o3:flN s3) :
  exS (cfn (k+2)) (.look 2 Qju) [.fz (Qd Ms),.fz (Qg ord),.ow (.lst (iT left)),s3]=.nx [.fz (Qd Ms),.fz (Qg ord),.ow (.lst (iT left)),.fz (oN (left.find? (Qdx (lkM Ms) left)))]:=by
 have e1:=Qpl h k hl hz
 have fo:=Q90 ord
 show exS (cfn (k+2)) (.look 2 Qju) [.fz (Qd Ms),.fz (.tup (iT ord)),.ow (.lst (iT left)),s3]=.nx [.fz (Qd Ms),.fz (.tup (iT ord)),.ow (.lst (iT left)),_]
 generalize iT ord=R at fo ⊢
 generalize iT left=LL at e1 ⊢
 generalize left.find? (Qdx (lkM Ms) left)=o at e1 ⊢
 have fU:Qwn (oN o)=true:=by cases o <;> rfl
 have e:∀ s:Slot,Qab s=true→exS (cfn (k+2)) Qju [.fx (Qd Ms),.fz (.tup R),.fx (.lst LL),s]=.nx [.fx (Qd Ms),.fz (.tup R),.fx (.lst LL),.fz (oN o)]:=fun s os=>by
  (cases s <;> cases os) <;> simp only [Qbe,Qaj,Qp,Qn,Q2,Qb,Q0,yC1,Qc,Qs,yC2,Q8,Qz,Qah,Q1,Qaq,Qag,e1,Qa9,Qo,Q4,L2.Qm,Option.map,Zr,Qam,Qcb,Qbj,frz,Qae,Qbi,Zh,Zu,Nat.reduceAdd,Nat.reduceLT,List.set]
 have rx:(if (!R.all flaT)=true then Slot.fx (.tup R) else .fz (.tup R))=.fz (.tup R):=by rw [fo];rfl
 have rb:(if R.all flaT=true then Slot.fz (.tup R) else .un)=.fz (.tup R):=Zb fo
 have go:∀ s:Slot,Qab s=true→Qmm s=true→lkS s=s→exS (cfn (k+2)) (.look 2 Qju) [.fz (Qd Ms),.fz (.tup R),.ow (.lst LL),s]=.nx [.fz (Qd Ms),.fz (.tup R),.ow (.lst LL),.fz (oN o)]:=fun s os ok ks=>by
  rw [Q9z (ts:=LL) rfl (by show (true&&(true&&(true&&(Qmm s&&true))))=true;rw [ok];rfl)]
  show lkO 2 _ (exS (cfn (k+2)) Qju [.fx (Qd Ms),(if (!R.all flaT)=true then Slot.fx (.tup R) else .fz (.tup R)),.fx (.lst LL),lkS s])=_
  rw [ks,rx,e s os]
  show SO.nx [.fz (Qd Ms),(if R.all flaT=true then Slot.fz (.tup R) else .un),.ow (.lst LL),if Qwn (oN o)=true then .fz (oN o) else .un]=_
  rw [Zb fU,rb]
 rcases o3 with rfl | ⟨o,rfl⟩
 ·exact go .un rfl rfl rfl
 ·cases o with
  | none=>exact go (.fz .non) rfl rfl rfl
  | some l=>exact go (.fz (.int l)) rfl rfl rfl
def Qvm (k:Nat):∀ (m aQ:Nat) {left ord:List Nat} {s3:Slot},left.length=m→m≤100→m<aQ→ord.length+m≤1000→(∀ x∈left,x<n)→flN s3 →
  ∃ ρ',Qep (fun ρ=>Q6 (evE (cfn (k+2)) Qec ρ)) (exS (cfn (k+2)) Qcf) aQ [.fz (Qd Ms),.fz (Qg ord),.ow (.lst (iT left)),s3]=match gr (lkM Ms) m left with
   | some s=>.nx (.fz (Qd Ms)::.fz (Qg (ord++s))::ρ')
   | none=>.rt (.fz .non) (.fz (Qd Ms)::ρ')
 | m,0,_,_,_,_,_,hf,_,_,_=>absurd hf (by omega)
 | m,aQ+1,left,ord,s3,hl,hm,hf,ho,hn,o3=>by
  have en:=Qkn (Qjb left)
  have z0:(0:Nat)≤100000:=by decide
  have et:Q6 (evE (cfn (k+2)) Qec [.fz (Qd Ms),.fz (Qg ord),.ow (.lst (iT left)),s3])=.ok (!(iT left).isEmpty) [.fz (Qd Ms),.fz (Qg ord),.ow (.lst (iT left)),s3]:=by
   generalize iT left=LL at en ⊢
   simp only [Qa4,Qn,Q2,Qc,Qb,Q0,Qaz,Qc7,Qs,Qf3,Qbw,Zu,z0,Zr,Qay,Qax,cont,Slot.prv,Qaw,uc2,Option.map,en,Qw,yBl]
  cases m with
  | zero =>
   have e:left=[]:=Zb8.mp hl
   subst e
   refine ⟨[.ow (.lst []),s3],?_⟩
   unfold Qep
   rw [et]
   show SO.nx _=SO.nx _
   rw [Zal]
   rfl
  | succ m =>
   have am:(iT left).isEmpty=false:=by
    cases left with
    | nil=>cases hl
    | cons x l=>rfl
   rw [am] at et
   have lk:=Q4l h k (ord:=ord) hn (by omega) o3
   rw [Qpb]
   cases hp:left.find? (Qdx (lkM Ms) left) with
   | none =>
    rw [hp] at lk
    refine ⟨[.fz (Qg ord),.ow (.lst (iT left)),.fz .non],?_⟩
    have eb:exS (cfn (k+2)) Qcf [.fz (Qd Ms),.fz (Qg ord),.ow (.lst (iT left)),s3]=.rt (.fz .non) [.fz (Qd Ms),.fz (Qg ord),.ow (.lst (iT left)),.fz .non]:=by
     rw [Qac,lk,Qbc]
     generalize iT left=LL
     simp only [oN,Qac,Qbm,Qa4,Qn,Q2,Qc,Qb,Q0,Qaz,Qgp,Qay,Qax,cont,Qaw,uc7,Qdy,Qw,yBl,Qam,yIf,Qb6,Qd5,Qq5]
    unfold Qep
    rw [et]
    show (match exS (cfn (k+2)) Qcf _ with | .nx ρ2=>_ | .ct ρ2=>_ | .bk ρ2=>_ | o=>o)=_
    rw [eb]
   | some p =>
    rw [hp] at lk
    have pm:=Zbg hp
    obtain ⟨j,j1,j2⟩:=Q1f pm
    have ea:opB .add (Qg ord) (.tup [.int (p:Int)])=some (.fz (Qg (ord++[p]))):=by
     have:=Q6b (a:=iT ord) (b:=[T.int (p:Int)]) (by rw [Zf];show _+1≤_;omega)
     rw [this]
     unfold Qg iT
     rw [Zan]
     rfl
    have z1:(1:Nat)≤100000:=by decide
    have eb:exS (cfn (k+2)) Qcf [.fz (Qd Ms),.fz (Qg ord),.ow (.lst (iT left)),s3]=.nx [.fz (Qd Ms),.fz (Qg (ord++[p])),.ow (.lst (iT (left.erase p))),.fz (.int p)]:=by
     rw [Qac,lk,Qbc]
     have er:=Qads (cf:=cfn (k+2)) (ρ:=[.fz (Qd Ms),.fz (Qg (ord++[p])),.ow (.lst (iT left)),.fz (.int p)]) (ρ1:=[.fz (Qd Ms),.fz (Qg (ord++[p])),.ow (.lst (iT left)),.fz (.int p)]) (i:=2) (e:=.var 3) (n:=(p:Int)) rfl rfl rfl (Qpm left) j1
     rw [j2] at er
     have er:exS (cfn (k+2)) (.rem 2 (.var 3)) [.fz (Qd Ms),.fz (Qg (ord++[p])),.ow (.lst (iT left)),.fz (.int p)]=.nx [.fz (Qd Ms),.fz (Qg (ord++[p])),.ow (.lst (iT (left.erase p))),.fz (.int p)]:=er
     show exS _ (.seq _ (.seq _ (.rem 2 (.var 3)))) [.fz (Qd Ms),.fz (Qg ord),.ow (.lst (iT left)),.fz (.int p)]=_
     generalize iT (left.erase p)=LE at er ⊢
     generalize iT left=LL at er ⊢
     generalize Qg (ord++[p])=RO at ea er ⊢
     generalize Qg ord=RN at ea ⊢
     simp only [Qac,Qbm,Qa4,Qn,Q2,Qc,Qb,Q0,Qaz,Qgp,Qay,Qax,cont,Qaw,uc7,Qdy,Qw,yBl,Qam,yIf,Qco,Qbc,Qbe,Qds,Qda,Qhx,Qp,yC1,Qs,yC2,Qlw,Qbw,frz,Zh,Zu,Nat.reduceAdd,z1,Zr,Qc9,Qc8,Out.opt,ea,Qcb,Qbj,Qae,Qbi,Nat.reduceLT,List.set,er]
    obtain ⟨ρ',e⟩:=Qvm k m aQ (left:=left.erase p) (ord:=ord++[p]) (s3:=.fz (.int p)) (by rw [Zaj pm,hl];rfl) (by omega) (by omega) (by rw [Zq];show ord.length+1+m≤1000;omega) (fun x hx=>hn x (Zb5 hx)) (.inr ⟨some p,rfl⟩)
    refine ⟨ρ',?_⟩
    unfold Qep
    rw [et]
    show (match exS (cfn (k+2)) Qcf _ with | .nx ρ2=>Qep _ _ aQ ρ2 | .ct ρ2=>_ | .bk ρ2=>_ | o=>o)=_
    rw [eb]
    dsimp only
    rw [e]
    cases gr (lkM Ms) m (left.erase p) with
    | none=>rfl
    | some s =>
     show SO.nx (_::.fz (Qg (ord++[p]++s))::_)=SO.nx (_::.fz (Qg (ord++(p::s)))::_)
     rw [Zao]
     rfl
def oR:Option (List Nat)→T
 | some s=>Qg s
 | none=>.non
omit h in
def Q1h (n:Nat):Qad 0 n=iT (List.range n):=by
 unfold Qad iT
 refine Zck fun i _=>?_
 rw [Zcb]
def Qtu (k:Nat):cfn (k+7) 10 [.fz (Qd Ms)]=.ok (.fz (oR (gr (lkM Ms) n (List.range n)))) [.non]:=by
 have n4:=h.n4
 have e1:=Qe2 k h
 obtain ⟨M0,a0,l0⟩:=Qxb h
 obtain ⟨ρ',el⟩:=Qvm h (k+4) n 1000000 (left:=List.range n) (ord:=[]) (s3:=.un) Zac (by omega) (by omega) (by show 0+n≤1000;omega) (fun x hx=>Zab.mp hx) (.inl rfl)
 have z0:(0:Nat)≤100000:=by decide
 have c:n≤100000:=by omega
 have eu:=Q1h n
 show Qcv (cfn (k+6)) ⟨1,4,Ql5⟩ _=_
 rw [Qcp rfl]
 show Qd6 _ (exS _ (.seq _ (.seq _ (.seq _ (.seq (.whl Qec Qcf) _)))) [.fz (Qd Ms),.un,.un,.un])=_
 rw [←eu] at el
 cases hg:gr (lkM Ms) n (List.range n) with
 | some s =>
  rw [hg] at el
  have ew:exS (cfn (k+6)) (.whl Qec Qcf) [.fz (Qd Ms),.fz (.tup []),.ow (.lst (Qad 0 n)),.un]=.nx (.fz (Qd Ms)::.fz (Qg s)::ρ'):=by
   rw [exS]
   show Qhu (Qep (fun ρ=>Q6 (evE (cfn (k+4+2)) Qec ρ)) (exS (cfn (k+4+2)) Qcf) 1000000 [.fz (Qd Ms),.fz (Qg []),.ow (.lst (Qad 0 n)),.un])=_
   rw [el]
   rfl
  generalize Qec=E0 at ew ⊢
  generalize Qcf=B0 at ew ⊢
  simp only [Qac,Qly,Qaj,Qp,Qn,Q2,Qb,Q0,yC1,Qs,yC2,Q8,Qz,Qah,Q1,Qaq,Qag,e1,Qa9,Qo,Q4,L2.Qm,Option.map,Zr,Qam,Qnu,Qbc,Qbe,Qhx,Qlw,Qbw,Zu,z0,Qcb,Qbj,frz,Qae,Qbi,Zh,Nat.reduceAdd,Nat.reduceLT,Qc,List.set,Qj4,Q0j,Qdh,Qf4,Qfm,Qa3,Qfl,Qfk,cont,Qfj,ui1,a0,yBi,Qc3,Qa2,Out.opt,ub2,Zf,l0,Q0i,Int.natAbs_natCast,c,Zaw,Qla,ew,Qb6,Qd5,Qbf,Qbt,Qbd,Qbn,Qaa]
  rfl
 | none =>
  rw [hg] at el
  have ew:exS (cfn (k+6)) (.whl Qec Qcf) [.fz (Qd Ms),.fz (.tup []),.ow (.lst (Qad 0 n)),.un]=.rt (.fz .non) (.fz (Qd Ms)::ρ'):=by
   rw [exS]
   show Qhu (Qep (fun ρ=>Q6 (evE (cfn (k+4+2)) Qec ρ)) (exS (cfn (k+4+2)) Qcf) 1000000 [.fz (Qd Ms),.fz (Qg []),.ow (.lst (Qad 0 n)),.un])=_
   rw [el]
   rfl
  generalize Qec=E0 at ew ⊢
  generalize Qcf=B0 at ew ⊢
  simp only [Qac,Qly,Qaj,Qp,Qn,Q2,Qb,Q0,yC1,Qs,yC2,Q8,Qz,Qah,Q1,Qaq,Qag,e1,Qa9,Qo,Q4,L2.Qm,Option.map,Zr,Qam,Qnu,Qbc,Qbe,Qhx,Qlw,Qbw,Zu,z0,Qcb,Qbj,frz,Qae,Qbi,Zh,Nat.reduceAdd,Nat.reduceLT,Qc,List.set,Qj4,Q0j,Qdh,Qf4,Qfm,Qa3,Qfl,Qfk,cont,Qfj,ui1,a0,yBi,Qc3,Qa2,Out.opt,ub2,Zf,l0,Q0i,Int.natAbs_natCast,c,Zaw,Qla,ew,Qq5,Qbf,Qbt,Qbd,Qbn,Qaa]
  rfl
end
open PySem L2
def Q1i (k:Nat) {n:Nat} (h1:1≤n) (h4:n≤4):cfn (k+1) 18 [.fz (.int n)]=.ok (.fz (.lst ((ext n n []).map Qg))) [.non]:=by
 match n,h1,h4 with
 | 1,_,_=>kernel_rfl
 | 2,_,_=>kernel_rfl
 | 3,_,_=>kernel_rfl
 | 4,_,_=>kernel_rfl
def Qtv (x:Nat):∀ r:List Nat,((iT r).any fun u=>eqT u (.int (x:Int)))=decide (x∈r)
 | []=>by simp
 | y::r=>by
  show (eqT (.int (y:Int)) (.int (x:Int))||(iT r).any _)=_
  rw [Qtv x r]
  unfold eqT
  by_cases e:y=x
  ·subst e;simp
  ·have:¬ ((y:Int)=(x:Int)):=by omega
   have e':¬ x=y:=fun z=>e z.symm
   simp [this,e']
def Q6c (x:Nat) (r:List Nat):inO (.int (x:Int)) (Qg r)=some (decide (x∈r)):=by
 show (if Ql 49 (.int (x:Int))=true∧(iT r).all (Ql 49)=true then some ((iT r).any fun u=>eqT u (.int (x:Int))) else none)=_
 rw [Zb ⟨rfl,Qjb r⟩,Qtv]
def Q91 (x:Nat) (r:List Nat):opC .inn (.int (x:Int)) (Qg r)=some (decide (x∈r)):=Q6c x r
def Q1j (x:Nat) (r:List Nat):opC .nin (.int (x:Int)) (Qg r)=some (!decide (x∈r)):=by
 show (inO (.int (x:Int)) (Qg r)).map (!·)=_
 rw [Q6c]
 rfl
def Q92 (x:Nat) (r:List Nat):opC .inn (.int (x:Int)) (.lst (iT r))=some (decide (x∈r)):=by
 show (if Ql 49 (.int (x:Int))=true∧(iT r).all (Ql 49)=true then some ((iT r).any fun u=>eqT u (.int (x:Int))) else none)=_
 rw [Zb ⟨rfl,Qjb r⟩,Qtv]
def Q1k (xs:List T) (k:Nat):Qhq xs none (some (k:Int))=xs.take k:=by
 unfold Qhq
 rw [HT.sIx_none,HT.sIx_nat,List.drop_zero,Nat.sub_zero]
 by_cases h:k≤xs.length
 ·rw [Nat.min_eq_left h]
 ·rw [Nat.min_eq_right (by omega),List.take_length,Zeq (by omega)]
def chk (lk:Nat→Nat→Bool):List Nat→List Nat→Bool
 | _,[]=>true
 | pre,x::suf=>!(pre++[x]).any (lk x)&&chk lk (pre++[x]) suf
def Qvn {lk:Nat→Nat→Bool}:∀ (suf pre:List Nat),chk lk pre suf=true↔(∀ x∈suf,∀ y∈pre,lk x y=false)∧Fit lk suf
 | [],pre=>⟨fun _=>⟨fun x hx=>(nomatch hx),.nil,fun x hx=>(nomatch hx)⟩,fun _=>rfl⟩
 | x::suf,pre=>by
  unfold chk
  rw [Zm,Qvn suf (pre++[x]),Zci,Zc0]
  constructor
  ·rintro ⟨a,b,c⟩
   have a':∀ y∈pre++[x],lk x y=false:=fun y hy=>by simpa using a y hy
   refine ⟨fun y hy z hz=>?_,Zap.mpr ⟨fun y hy=>b y hy x (by simp),c.1⟩,fun y hy=>?_⟩
   ·rcases Z7.mp hy with rfl | hy
    ·exact a' z (Zad _ hz)
    ·exact b y hy z (Zad _ hz)
   ·rcases Z7.mp hy with rfl | hy
    ·exact a' y (by simp)
    ·exact c.2 y hy
  ·rintro ⟨a,b,c⟩
   obtain ⟨b1,b2⟩:=Zap.mp b
   refine ⟨fun y hy=>?_,fun y hy z hz=>?_,b2,fun y hy=>c y (.tail _ hy)⟩
   ·rcases Zah.mp hy with z | z
    ·rw [a x (.head _) y z];exact Zk
    ·rw [Zx.mp z,c x (.head _)];exact Zk
   ·rcases Zah.mp hz with w | w
    ·exact a y (.tail _ hy) z w
    ·rw [Zx.mp w];exact b1 y hy
def Q4m {lk:Nat→Nat→Bool} (r:List Nat):chk lk [] r=Qdw lk r:=by
 have a:=Qvn (lk:=lk) r []
 have b:=Qi8 lk r
 cases h1:chk lk [] r <;> cases h2:Qdw lk r <;> simp_all
abbrev Qkr:E:=.comp (.seq (.call 17 (.cons (.var 0) (.cons (.var 3) .nil)))) [none,some 1,some 2] (.nm 0) (.cons (.cmp .inn (.var 0) (.slc (.var 1) .nil (.cons (.bin .add (.var 2) (.int 1)) .nil))) .nil) (.var 0)
abbrev Qny:S:=.ite (.cmp .ne Qkr (.lst .nil)) (.ret (.bl false)) .nil
section
variable {n:Nat} {Ms:List Tb} (h:Tabs n Ms)
include h
def Q4n (k:Nat) {pre suf:List Nat} {x:Nat} (hr:∀ y∈pre++x::suf,y<n):exS (cfn (k+1)) Qny [.fz (Qd Ms),.fz (Qg (pre++x::suf)),.fz (.int pre.length),.fz (.int x)]=if (pre++[x]).any (lkM Ms x)=true then .rt (.fz (.bl false)) [.fz (Qd Ms),.fz (Qg (pre++x::suf)),.fz (.int pre.length),.fz (.int x)] else .nx [.fz (Qd Ms),.fz (Qg (pre++x::suf)),.fz (.int pre.length),.fz (.int x)]:=by
 have hx:x<n:=hr x (by simp)
 have e1:=Q1d h k hx
 have et:(iT (pre++x::suf)).take (pre.length+1)=iT (pre++[x]):=by
  unfold iT
  rw [←List.map_take,show pre++x::suf=(pre++[x])++suf by simp,show pre.length+1=(pre++[x]).length by simp,List.take_left]
 have es:Q25 (Qg (pre++x::suf)) none (some ((pre.length:Int)+1))=some (.fz (Qg (pre++[x]))):=by
  show some (PV.fz (.tup (Qhq (iT (pre++x::suf)) none (some ((pre.length:Int)+1)))))=_
  rw [show ((pre.length:Int)+1)=((pre.length+1:Nat):Int) by omega,Q1k,et]
 have hw:evW (cfn (k+1)) (.seq (.call 17 (.cons (.var 0) (.cons (.var 3) .nil)))) [.fz (Qd Ms),.fz (Qg (pre++x::suf)),.fz (.int pre.length),.fz (.int x)]=.ok (iT (nx Ms n x),none) [.fz (Qd Ms),.fz (Qg (pre++x::suf)),.fz (.int pre.length),.fz (.int x)]:=by
  generalize iT (nx Ms n x)=N1 at e1 ⊢
  generalize Qg (pre++x::suf)=R1
  simp only [Qgq,Qaj,Qp,Qn,Q2,Qb,Q0,yC1,Qc,Qs,yC2,Q8,Qz,Qah,Q1,Qaq,Qag,e1,Qa9,Qo,Q4,L2.Qm,Option.map,Zr,Qjo,Qfo,cont,Qfn,Qcc,Qfx]
 have q:=Qi0 (cf:=cfn (k+1)) (js:=[none,some 1,some 2]) (cs:=.cons (.cmp .inn (.var 0) (.slc (.var 1) .nil (.cons (.bin .add (.var 2) (.int 1)) .nil))) .nil) (e:=.var 0) (rest:=[.fz (Qg (pre++x::suf)),.fz (.int pre.length)]) (g:=fun t=>decide (nOf t∈pre++[x])) (f:=id) hw rfl rfl rfl (fun t ht=>by
  obtain ⟨y,_,rfl⟩:=Z0.mp ht
  have ei:=Q91 y (pre++[x])
  rw [Qu8]
  show Q6 _=.ok (decide (y∈pre++[x])) _
  generalize Qg (pre++x::suf)=R1 at es ⊢
  generalize Qg (pre++[x])=R2 at es ei
  simp only [Qa4,Qn,Q2,Qb,Q0,Qaz,Q5y,Qc,Q9k,Qs,Q9j,Q0h,Qmk,Qp,Qds,Qda,Qa3,Qc9,Qc8,cont,Out.opt,uo1,yC1,yC2,Q9i,Q0g,Q9h,es,Qay,Qax,Qaw,ei,Qw,yBl]) (fun t ht _=>⟨.fz t,by simp only [Qn,Q2,Qb],rfl⟩) (by
   rw [Zf]
   have:=Zb6 (lkM Ms x) (List.range n)
   rw [Zac] at this
   have:=h.n4
   show ((List.range n).filter (lkM Ms x)).length≤_
   omega)
 rw [map_id] at q
 have ok:(((iT (nx Ms n x)).filter fun t=>decide (nOf t∈pre++[x])).all (Ql 49))=true:=by
  rw [Z1]
  intro t ht
  exact Z1.mp (Qjb (nx Ms n x)) t (Zax.mp ht).1
 have e0:=Qkn ok
 have em:((iT (nx Ms n x)).filter fun t=>decide (nOf t∈pre++[x])).isEmpty = !(pre++[x]).any (lkM Ms x):=by
  cases hb:(pre++[x]).any (lkM Ms x) with
  | true =>
   obtain ⟨y,hy,ly⟩:=Zca.mp hb
   have hm:T.int (y:Int)∈(iT (nx Ms n x)).filter fun t=>decide (nOf t∈pre++[x]):=by
    refine Zax.mpr ⟨Z0.mpr ⟨y,Zax.mpr ⟨Zab.mpr (hr y ?_),ly⟩,rfl⟩,Zaf (show y∈pre++[x] from hy)⟩
    rcases Zah.mp hy with z | z
    ·exact Zad _ z
    ·rw [Zx.mp z];simp
   cases hL:(iT (nx Ms n x)).filter fun t=>decide (nOf t∈pre++[x]) with
   | nil=>rw [hL] at hm;cases hm
   | cons a b=>rfl
  | false =>
   have:((iT (nx Ms n x)).filter fun t=>decide (nOf t∈pre++[x]))=[]:=by
    rw [Zer]
    intro t ht
    obtain ⟨y,hy,rfl⟩:=Z0.mp ht
    have ly:=(Zax.mp hy).2
    intro z
    have z:y∈pre++[x]:=Zbj z
    exact absurd ly (Zc0.mp hb y z)
   rw [this]
   rfl
 rw [em] at e0
 have z0:(0:Nat)≤100000:=by decide
 have q:evE (cfn (k+1)) Qkr _=_:=q
 show exS (cfn (k+1)) (.ite (.cmp .ne Qkr (.lst .nil)) _ _) _=_
 generalize (iT (nx Ms n x)).filter (fun t=>decide (nOf t∈pre++[x]))=FL at q e0
 generalize Qg (pre++x::suf)=R1 at q ⊢
 generalize Qkr=E0 at q ⊢
 cases hb:(pre++[x]).any (lkM Ms x) with
 | true =>
  rw [hb] at e0
  simp only [Qbm,Qa4,q,Q0,Qaz,Qc7,Qs,Qf3,Qbw,Zu,z0,Zr,Qay,Qax,cont,Qaw,uc2,Option.map,e0,Zat,Zar,Qw,yBl,Qam,yIf,Qb6,Q9g,Qd5]
 | false =>
  rw [hb] at e0
  simp only [Qbm,Qa4,q,Q0,Qaz,Qc7,Qs,Qf3,Qbw,Zu,z0,Zr,Qay,Qax,cont,Qaw,uc2,Option.map,e0,Zar,Zat,Qw,yBl,Qam,yIf,Qco,Zaa,Za2]
def Qvo (k:Nat):∀ (suf pre:List Nat) (s2 s3:Slot),Qab s2=true→Qab s3=true→(∀ y∈pre++suf,y<n)→∃ t2 t3,Qap (.tp [2,3]) (exS (cfn (k+1)) Qny) (Qip pre.length (iT suf)) [.fz (Qd Ms),.fz (Qg (pre++suf)),s2,s3] =
  if chk (lkM Ms) pre suf=true then .nx [.fz (Qd Ms),.fz (Qg (pre++suf)),t2,t3] else .rt (.fz (.bl false)) [.fz (Qd Ms),.fz (Qg (pre++suf)),t2,t3]
 | [],pre,s2,s3,_,_,_=>⟨s2,s3,by show Qap _ _ [] _=_;unfold Qap;exact (Zb (show chk (lkM Ms) pre []=true from rfl)).symm⟩
 | x::suf,pre,s2,s3,o2,o3,hr=>by
  have t:=Q4n h k (pre:=pre) (suf:=suf) (x:=x) hr
  have st:Qcl (.tp [2,3]) (.tup [.int pre.length,.int x]) [.fz (Qd Ms),.fz (Qg (pre++x::suf)),s2,s3]=some [.fz (Qd Ms),.fz (Qg (pre++x::suf)),.fz (.int pre.length),.fz (.int x)]:=by
   (cases s2 <;> cases o2) <;> (cases s3 <;> cases o3) <;> rfl
  show ∃ t2 t3,Qap (.tp [2,3]) (exS (cfn (k+1)) Qny) (.tup [.int pre.length,.int x]::Qip (pre.length+1) (iT suf)) _=_
  unfold Qap
  rw [st]
  dsimp only
  rw [t]
  unfold chk
  by_cases c:(pre++[x]).any (lkM Ms x)=true
  ·rw [Zb c,c]
   exact ⟨_,_,rfl⟩
  ·rw [Zd c,Zd8.mpr c]
   have ea:pre++x::suf=(pre++[x])++suf:=by simp
   obtain ⟨t2,t3,e⟩:=Qvo k suf (pre++[x]) (.fz (.int pre.length)) (.fz (.int x)) rfl rfl (by rw [←ea];exact hr)
   rw [←ea,Zq] at e
   exact ⟨t2,t3,e⟩
def Q93 (k:Nat) {r:List Nat} (hr:∀ y∈r,y<n):cfn (k+2) 19 [.fz (Qd Ms),.fz (Qg r)]=.ok (.fz (.bl (Qdw (lkM Ms) r))) [.non,.non]:=by
 obtain ⟨t2,t3,e⟩:=Qvo h k r [] .un .un rfl rfl hr
 rw [Zbn,Q4m] at e
 show Qcv (cfn (k+1)) ⟨2,4,Ql7⟩ _=_
 rw [Qcp rfl]
 show Qd6 _ (exS _ (.seq (.for_ (.enm (.var 1)) (.tp [2,3]) Qny) (.ret (.bl true))) [.fz (Qd Ms),.fz (Qg r),.un,.un])=_
 have ew:evW (cfn (k+1)) (.enm (.var 1)) [.fz (Qd Ms),.fz (Qg r),.un,.un]=.ok (Qip 0 (iT r),none) [.fz (Qd Ms),.fz (Qg r),.un,.un]:=rfl
 have e:Qap (.tp [2,3]) (exS (cfn (k+1)) Qny) (Qip 0 (iT r)) [.fz (Qd Ms),.fz (Qg r),.un,.un]=_:=e
 rw [Qac,Qdb,ew]
 generalize Qny=B0 at e ⊢
 generalize Qip 0 (iT r)=L0 at e ⊢
 generalize Qg r=R1 at e ⊢
 cases hb:Qdw (lkM Ms) r with
 | true =>
  rw [hb,Zb rfl] at e
  simp only [Qam,Qfp,e,Qbs,Qbc,Qb6,Q9g,Qd5,Qbf,Qbt,Qbd,Qbn,Qaa,Option.map]
 | false =>
  rw [hb,Zd Zk] at e
  simp only [Qam,Qfp,e,Qoq,Qq5,Qbf,Qbt,Qbd,Qbn,Qaa,Option.map]
end
open PySem L2
def Qpn {r:List Nat} (hr:r≠[]):atI (iT r) (-1)=some (.int (Qa0 r)):=by
 have:r=r.dropLast++[r.getLast hr]:=(Zdk hr).symm
 rw [this]
 unfold iT
 rw [Zan]
 show atI (iT r.dropLast++[T.int _]) (-1)=_
 rw [Ql8]
 generalize iT r.dropLast=L
 unfold atI
 have:ixN (L++[T.int (r.getLast hr:Int)]).length (-1)=some L.length:=by
  rw [Zq,Zb3]
  unfold ixN
  rw [Zd (by omega)]
  show (if _ then _ else _)=_
  rw [Zb (by omega)]
  congr 1
  omega
 rw [this]
 show (L++[_])[L.length]?=_
 rw [Zbp (Zi _),Nat.sub_self]
 rfl
def Qvp {r:List Nat} (hr:r≠[]):atI (iT r) 0=some (.int (headN r)):=by
 cases r with
 | nil=>exact absurd rfl hr
 | cons x r=>exact Qcs (xs:=iT (x::r)) (j:=0) rfl
def Qma {r:List Nat} (hr:r≠[]):Qa0 r∈r:=by
 have e:r=r.dropLast++[r.getLast hr]:=(Zdk hr).symm
 have:Qa0 r=r.getLast hr:=by
  conv=>lhs;rw [e]
  exact Ql8 _ _
 rw [this]
 exact List.getLast_mem hr
def Qmb {r:List Nat} (hr:r≠[]):headN r∈r:=by
 cases r with
 | nil=>exact absurd rfl hr
 | cons x r=>exact .head _
abbrev qc (lk:Nat→Nat→Bool) (r:List Nat) (c:Nat):Bool:=!decide (c∈r)&&lk (Qa0 r) c
def Qxc {lk:Nat→Nat→Bool} {n:Nat} {r:List Nat} (hn:headN r<n):(List.range' (headN r+1) (n-(headN r+1))).filter (qc lk r)=cnd lk n r:=by
 unfold cnd
 have e:List.range n=List.range' 0 (headN r+1)++List.range' (headN r+1) (n-(headN r+1)):=by
  rw [List.range_eq_range',show n=(headN r+1)+(n-(headN r+1)) by omega,←List.range'_append_1]
  congr 2
  ·omega
  ·omega
 rw [e,List.filter_append]
 have e1:(List.range' 0 (headN r+1)).filter (fun c=>decide (headN r<c) && !r.contains c&&lk (Qa0 r) c)=[]:=by
  rw [Zer]
  intro c hc
  obtain ⟨_,hc⟩:=Zd9.mp hc
  rw [Z4 (by omega)]
  simp
 rw [e1,Zbn]
 refine Zel fun c hc=>?_
 obtain ⟨hc,_⟩:=Zd9.mp hc
 rw [Zaf (show headN r<c by omega),Zeb]
 show (!decide (c∈r)&&_)=(!r.contains c&&_)
 congr 2
 simp
def Qvq (r:List Nat) (c:Nat) (hz:r.length≤1000):opB .add (Qg r) (.tup [.int (c:Int)])=some (.fz (Qg (r++[c]))):=by
 have:=Q6b (a:=iT r) (b:=[T.int (c:Int)]) (by rw [Zf];show _+1≤_;omega)
 rw [this]
 unfold Qg iT
 rw [Zan]
 rfl
abbrev Qnz:S:=.ite (.and (.cmp .nin (.var 4) (.var 3)) (.call 8 (.cons (.var 0) (.cons (.ix (.var 3) (.neg (.int 1))) (.cons (.var 4) .nil))))) (.app 2 (.bin .add (.var 3) (.tup (.cons (.var 4) .nil)))) .nil
section
variable {n:Nat} {Ms:List Tb} (h:Tabs n Ms)
include h
def Q4o (k:Nat) {r:List Nat} (am:r≠[]) (hr:∀ y∈r,y<n) (hz:r.length≤1000) {c:Nat} (hc:c<n) {a:Slot} {acc:List T} (ha:acc.length<10000) :
  exS (cfn (k+1)) Qnz [.fz (Qd Ms),a,.ow (.lst acc),.fz (Qg r),.fz (.int c)]=.nx [.fz (Qd Ms),a,.ow (.lst (acc++if qc (lkM Ms) r c=true then [Qg (r++[c])] else [])),.fz (Qg r),.fz (.int c)]:=by
 have e1:=Qhf h k (hr _ (Qma am)) hc
 have e2:=Q1j c r
 have e3:=Qpn am
 have e4:=Qvq r c hz
 have za:acc.length<100000:=by omega
 have z1:(1:Nat)≤100000:=by decide
 generalize Qg (r++[c])=R2 at e4 ⊢
 unfold qc
 show exS (cfn (k+1)) Qnz [.fz (Qd Ms),a,.ow (.lst acc),.fz (.tup (iT r)),.fz (.int c)]=.nx [.fz (Qd Ms),a,_,.fz (.tup (iT r)),.fz (.int c)]
 have e2:opC .nin (.int (c:Int)) (.tup (iT r))=_:=e2
 have e4:opB .add (.tup (iT r)) (.tup [.int (c:Int)])=_:=e4
 generalize iT r=RR at e2 e3 e4 ⊢
 cases h1:decide (c∈r) with
 | true =>
  rw [h1] at e2
  simp only [Qbm,Qlx,Qa4,Qn,Q2,Qc,Qb,Q0,Qaz,Qay,Qax,cont,Qaw,e2,Zat,Qw,yBl,Qq1,Qam,yIf,Qco,Zey,Zaa,Za2]
  rw [Zal]
 | false =>
  rw [h1] at e2
  cases h2:lkM Ms (Qa0 r) c with
  | true =>
   rw [h2] at e1
   simp only [Qbm,Qlx,Qa4,Qn,Q2,Qc,Qb,Q0,Qaz,Qay,Qax,cont,Qaw,e2,Zar,Qw,yBl,Qq1,Qaj,Qp,yC1,Qf4,Qfm,Qq0,Qa3,Qww,Int.reduceNeg,Qfl,Qfk,Qfj,ui2,e3,Qs,yC2,Q8,Qz,Qah,Q1,Qaq,Qag,e1,Qa9,Qo,Q4,L2.Qm,Option.map,Zr,yB,Qam,yIf,Qop,Slot.mut,Qds,Qda,Qhx,Qlw,Qbw,frz,Zh,Zu,Nat.reduceAdd,z1,Qc9,Qc8,Out.opt,e4,Qwx,Qq7,Qq6,za,List.set,Zam]
  | false =>
   rw [h2] at e1
   simp only [Qbm,Qlx,Qa4,Qn,Q2,Qc,Qb,Q0,Qaz,Qay,Qax,cont,Qaw,e2,Zar,Qw,yBl,Qq1,Qaj,Qp,yC1,Qf4,Qfm,Qq0,Qa3,Qww,Int.reduceNeg,Qfl,Qfk,Qfj,ui2,e3,Qs,yC2,Q8,Qz,Qah,Q1,Qaq,Qag,e1,Qa9,Qo,Q4,L2.Qm,Option.map,Zr,yB,Qam,yIf,Qco,Zeb,Zaa,Za2]
   rw [Zal]
def Qrv (k:Nat) {r:List Nat} (am:r≠[]) (hr:∀ y∈r,y<n) (hz:r.length≤1000) {a:Slot}:∀ (cs:List Nat) (acc:List T) (s4:Slot),(∀ c∈cs,c<n)→acc.length+cs.length≤10000→Qab s4=true →
  ∃ t4,Qab t4=true∧Qap (.nm 4) (exS (cfn (k+1)) Qnz) (iT cs) [.fz (Qd Ms),a,.ow (.lst acc),.fz (Qg r),s4]=.nx [.fz (Qd Ms),a,.ow (.lst (acc++(cs.filter (qc (lkM Ms) r)).map fun c=>Qg (r++[c]))),.fz (Qg r),t4]
 | [],acc,s4,_,_,o=>⟨s4,o,by show Qap _ _ [] _=_;unfold Qap;rw [Zeu,Zcz,Zal]⟩
 | c::cs,acc,s4,hc,ig,o=>by
  rw [Zh] at ig
  have t:=Q4o h k am hr hz (hc c (.head _)) (a:=a) (acc:=acc) (by omega)
  obtain ⟨t4,o4,e⟩:=Qrv k am hr hz (a:=a) cs (acc++if qc (lkM Ms) r c=true then [Qg (r++[c])] else []) (.fz (.int c)) (fun x hx=>hc x (.tail _ hx)) (by rw [Zq];split <;> simp <;> omega) rfl
  refine ⟨t4,o4,?_⟩
  show Qap (.nm 4) _ (T.int (c:Int)::iT cs) _=_
  unfold Qap
  rw [show Qcl (.nm 4) (T.int (c:Int)) [.fz (Qd Ms),a,.ow (.lst acc),.fz (Qg r),s4]=some [.fz (Qd Ms),a,.ow (.lst acc),.fz (Qg r),.fz (.int c)] by cases s4 <;> first | rfl | (cases o;done)]
  dsimp only
  rw [t]
  dsimp only
  rw [e,Zao,Zdc]
  cases qc (lkM Ms) r c <;> rfl
abbrev Qpo:S:=.for_ (.rng2 (.bin .add (.ix (.var 3) (.int 0)) (.int 1)) (.bi .len (.cons (.ix (.var 0) (.int 0)) .nil))) (.nm 4) Qnz
def OkS (n:Nat) (S:List (List Nat)):Prop:=∀ r∈S,r≠[]∧r.length≤100∧∀ y∈r,y<n
omit h in
def Qjv (bq:List Nat→List Nat) (r:List Nat) (S:List (List Nat)):Qfq bq (r::S)=((bq r).map fun c=>r++[c])++Qfq bq S:=by unfold Qfq;rw [Zba]
omit h in
def Qks {lk:Nat→Nat→Bool} {n:Nat} (r:List Nat):(cnd lk n r).length≤n:=by
 have:=Zb6 (fun c=>decide (headN r<c) && !r.contains c&&lk (Qa0 r) c) (List.range n)
 rw [Zac] at this
 exact this
def Q94 (k:Nat) {r:List Nat} (am:r≠[]) (hr:∀ y∈r,y<n) (hz:r.length≤100) {a s4:Slot} (o4:Qab s4=true) {acc:List T} (ha:acc.length≤9000) :
  ∃ t4,Qab t4=true∧exS (cfn (k+1)) Qpo [.fz (Qd Ms),a,.ow (.lst acc),.fz (Qg r),s4]=.nx [.fz (Qd Ms),a,.ow (.lst (acc++(cnd (lkM Ms) n r).map fun c=>Qg (r++[c]))),.fz (Qg r),t4]:=by
 have n4:=h.n4
 have hh:=hr _ (Qmb am)
 obtain ⟨t4,o,e⟩:=Qrv h k am hr (by omega) (a:=a) (List.range' (headN r+1) (n-(headN r+1))) acc s4 (fun c hc=>by have:=Zd9.mp hc;omega) (by rw [List.length_range'];omega) o4
 rw [Qxc hh] at e
 refine ⟨t4,o,?_⟩
 obtain ⟨M0,a0,l0⟩:=Qxb h
 have eh:=Qvp am
 have er:∀ ρ:En,Q0k (.fz (.int ((headN r:Int)+1))) (.fz (.int (n:Int))) ρ=.ok (iT (List.range' (headN r+1) (n-(headN r+1))),none) ρ:=fun ρ=>by
  show (if ((headN r:Int)+1).natAbs≤100000∧(n:Int).natAbs≤100000 then Out.ok (Qad ((headN r:Int)+1) ((n:Int)-((headN r:Int)+1)).toNat,none) ρ else .no)=_
  rw [Zb ⟨by omega,by omega⟩,show ((n:Int)-((headN r:Int)+1)).toNat=n-(headN r+1) by omega]
  have eu:Qad ((headN r:Int)+1) (n-(headN r+1))=iT (List.range' (headN r+1) (n-(headN r+1))):=by
   unfold Qad iT
   rw [List.range'_eq_map_range,Zbz]
   refine Zck fun i _=>?_
   show T.int ((headN r:Int)+1+(i:Int))=T.int ((headN r+1+i:Nat):Int)
   congr 1
  rw [eu]
 have ew:evW (cfn (k+1)) (.rng2 (.bin .add (.ix (.var 3) (.int 0)) (.int 1)) (.bi .len (.cons (.ix (.var 0) (.int 0)) .nil))) [.fz (Qd Ms),a,.ow (.lst acc),.fz (Qg r),s4]=.ok (iT (List.range' (headN r+1) (n-(headN r+1))),none) [.fz (Qd Ms),a,.ow (.lst acc),.fz (Qg r),s4]:=by
  generalize iT (List.range' (headN r+1) (n-(headN r+1)))=RL at er ⊢
  show evW _ _ [.fz (Qd Ms),a,.ow (.lst acc),.fz (.tup (iT r)),s4]=.ok _ [.fz (Qd Ms),a,.ow (.lst acc),.fz (.tup (iT r)),s4]
  generalize iT r=RR at eh ⊢
  simp only [Q9l,Qds,Qf4,Qn,Q2,Qc,Qb,Q0,Qfm,Qa3,Qfl,Qfk,cont,Qfj,ui2,eh,Qda,Qc9,Qc8,Out.opt,uo1,Q5z,Qdh,Qp,ui1,a0,yC1,Qs,yC2,yBi,Qc3,Qa2,ub2,Zf,l0,er]
 show exS (cfn (k+1)) (.for_ _ (.nm 4) Qnz) _=_
 rw [Qdb,ew]
 generalize Qnz=B0 at e ⊢
 generalize Qg r=R1 at e ⊢
 simp only [Qam,Qfp,e,Qbs]
def Q1l (k:Nat) {S:List (List Nat)} (hS:OkS n S) (hz:S.length≤1000):cfn (k+2) 11 [.fz (Qd Ms),.fz (.lst (S.map Qg))]=.ok (.ow (.lst ((Qfq (cnd (lkM Ms) n) S).map Qg))) [.non,.non]:=by
 have n4:=h.n4
 have ax:∀ (S':List (List Nat)) (acc:List T) (s3 s4:Slot),OkS n S'→acc.length+4*S'.length≤8000→Qab s3=true→Qab s4=true→∃ t3 t4,Qap (.nm 3) (exS (cfn (k+1)) Qpo) (S'.map Qg) [.fz (Qd Ms),.fz (.lst (S.map Qg)),.ow (.lst acc),s3,s4]=.nx [.fz (Qd Ms),.fz (.lst (S.map Qg)),.ow (.lst (acc++(Qfq (cnd (lkM Ms) n) S').map Qg)),t3,t4]:=by
  intro S'
  induction S' with
  | nil =>
   intro acc s3 s4 _ _ _ _
   exact ⟨s3,s4,by rw [Zcz];unfold Qap;show _=SO.nx [_,_,.ow (.lst (acc++[])),_,_];rw [Zal]⟩
  | cons r S' ih =>
   intro acc s3 s4 bZ ee o3 o4
   rw [Zh] at ee
   obtain ⟨r1,r2,r3⟩:=bZ r (.head _)
   obtain ⟨t4,jI,e⟩:=Q94 h k r1 r3 r2 (a:=.fz (.lst (S.map Qg))) o4 (acc:=acc) (by omega)
   have cl:=Qks (lk:=lkM Ms) (n:=n) r
   obtain ⟨u3,u4,e2⟩:=ih (acc++(cnd (lkM Ms) n r).map fun c=>Qg (r++[c])) (.fz (Qg r)) t4 (fun x hx=>bZ x (.tail _ hx)) (by rw [Zq,Zf];omega) rfl jI
   refine ⟨u3,u4,?_⟩
   rw [Zaq]
   unfold Qap
   rw [show Qcl (.nm 3) (Qg r) [.fz (Qd Ms),.fz (.lst (S.map Qg)),.ow (.lst acc),s3,s4]=some [.fz (Qd Ms),.fz (.lst (S.map Qg)),.ow (.lst acc),.fz (Qg r),s4] by cases s3 <;> first | rfl | (cases o3;done)]
   dsimp only
   rw [e]
   dsimp only
   rw [e2,Qjv,Zan,Zbz,Zao]
   rfl
 obtain ⟨t3,t4,e⟩:=ax S [] .un .un hS (by show 0+_≤_;omega) rfl rfl
 have z0:(0:Nat)≤100000:=by decide
 show Qcv (cfn (k+1)) ⟨2,5,Qhz⟩ _=_
 rw [Qcp rfl]
 show Qd6 _ (exS _ (.seq _ (.seq (.for_ _ (.nm 3) Qpo) _)) [.fz (Qd Ms),.fz (.lst (S.map Qg)),.un,.un,.un])=_
 generalize Qpo=B0 at e ⊢
 rw [Zbn] at e
 generalize (Qfq (cnd (lkM Ms) n) S).map Qg=G0 at e ⊢
 generalize S.map Qg=L0 at e ⊢
 simp only [Qac,Qj4,Qc7,Qs,Q0,Qf3,Qbw,Zu,z0,Zr,Qam,Qla,Qae,Qbi,Zh,Nat.reduceAdd,Nat.reduceLT,Qc,Qb,List.set,Qbc,Qdb,Qgq,Qn,Q2,Qjo,Qfo,cont,Qfn,Qcc,Qfx,Qfp,e,Qbs,Qb6,Qd5,Qbf,Qbt,Qbd,Qbn,Qaa,Option.map]
end
open PySem L2
def Qmc {b:En→SO} {f:List Nat→Bool} {env:Slot→En} {i:Nat} (hs:∀ s t,Qab s=true→Qcl (.nm i) t (env s)=some (env (.fz t))) :
  ∀ (S:List (List Nat)) (s:Slot),Qab s=true→(∀ r∈S,b (env (.fz (Qg r)))=if f r=true then .rt (.fz (Qg r)) (env (.fz (Qg r))) else .nx (env (.fz (Qg r)))) →
   ∃ s',Qab s'=true∧Qap (.nm i) b (S.map Qg) (env s)=match S.find? f with | some r=>.rt (.fz (Qg r)) (env s') | none=>.nx (env s')
 | [],s,o,_=>⟨s,o,by rw [Zcz];unfold Qap;rfl⟩
 | r::S,s,o,h=>by
  have hj:=h r (.head _)
  by_cases c:f r=true
  ·rw [Zb c] at hj
   refine ⟨.fz (Qg r),rfl,?_⟩
   rw [Zds,c,Zaq]
   unfold Qap
   rw [hs s _ o]
   dsimp only
   rw [hj]
  ·rw [Zd c] at hj
   obtain ⟨s',o',e⟩:=Qmc hs S (.fz (Qg r)) rfl fun k hk=>h k (.tail _ hk)
   refine ⟨s',o',?_⟩
   rw [Zds,Zd8.mpr c,Zaq]
   unfold Qap
   rw [hs s _ o]
   dsimp only
   rw [hj]
   exact e
def Qn0 (lk:Nat→Nat→Bool) (n:Nat):∀ l,∀ r∈Rn lk n l,r.Nodup∧∀ y∈r,y<n
 | 0,r,hr=>by
  obtain ⟨c,hc,rfl⟩:=Z0.mp hr
  exact ⟨Zbm.mpr ⟨Zbw,List.nodup_nil⟩,fun y hy=>by rw [Zx.mp hy];exact Zab.mp hc⟩
 | l+1,r,hr=>by
  obtain ⟨a,ha,hr⟩:=Za3.mp hr
  obtain ⟨c,hc,rfl⟩:=Z0.mp hr
  obtain ⟨h1,h2⟩:=Qn0 lk n l a ha
  unfold cnd at hc
  rw [Zax,Zab,Zm,Zm] at hc
  have hn:c∉a:=by have:=hc.2.1.2;simpa using this
  refine ⟨Zd7.mpr ⟨h1,Zbm.mpr ⟨Zbw,List.nodup_nil⟩,fun u hu v hv e=>hn ?_⟩,fun y hy=>?_⟩
  ·rw [Zx.mp hv] at e
   rw [←e]
   exact hu
  ·rcases Zah.mp hy with z | z
   ·exact h2 y z
   ·rw [Zx.mp z];exact hc.1
def Q95 {n:Nat}:∀ {r:List Nat},r.Nodup→(∀ y∈r,y<n)→r.length≤n:=by
 induction n with
 | zero =>
  intro r _ h
  cases r with
  | nil=>exact Zi _
  | cons x r=>exact absurd (h x (.head _)) (by omega)
 | succ n ih =>
  intro r nd h
  have:=ih (r:=r.erase n) (nd.erase n) fun y hy=>by
   have h1:=h y (Zb5 hy)
   have h2:y≠n:=fun e=>by rw [e] at hy;exact (nd.mem_erase_iff.mp hy).1 rfl
   omega
  by_cases c:n∈r
  ·rw [Zaj c] at this
   omega
  ·rw [List.erase_of_not_mem c] at this
   omega
def Q96 (lk:Nat→Nat→Bool) (n:Nat):Rn lk n n=[]:=by
 refine Zc8.mpr fun r hr=>?_
 obtain ⟨h1,h2⟩:=Qn0 lk n n r hr
 have:=Q95 h1 h2
 have:=(Qfr n n).len r hr
 omega
def Qmd {lk:Nat→Nat→Bool} {n:Nat} (h4:n≤4):∀ S:List (List Nat),(Qfq (cnd lk n) S).length≤4*S.length
 | []=>Zi _
 | r::S=>by
  have ih:=Qmd (lk:=lk) h4 S
  rw [Qjv,Zq,Zf,Zh]
  have:=Qks (lk:=lk) (n:=n) r
  omega
def Q1m (lk:Nat→Nat→Bool) {n:Nat} (h4:n≤4):∀ l,(Rn lk n l).length≤4^(l+1)
 | 0=>by show ((List.range n).map _).length≤4;rw [Zf,Zac];exact h4
 | l+1=>by
  have ih:=Q1m lk h4 l
  have:=Qmd (lk:=lk) h4 (Rn lk n l)
  show (Qfq (cnd lk n) (Rn lk n l)).length≤4^(l+2)
  rw [Nat.pow_succ]
  omega
def Q1n {lk:Nat→Nat→Bool} {n:Nat}:∀ (m l:Nat),Rn lk n l=[]→rg lk n m l=none
 | 0,l,_=>rfl
 | m+1,l,e=>by
  unfold rg
  rw [e]
  show rg lk n m (l+1)=none
  refine Q1n m (l+1) ?_
  show Qfq _ (Rn lk n l)=[]
  rw [e]
  rfl
abbrev Qh0:S:=.ite (.call 8 (.cons (.var 0) (.cons (.ix (.var 2) (.neg (.int 1))) (.cons (.ix (.var 2) (.int 0)) .nil)))) (.ret (.var 2)) .nil
abbrev Qcg:S:=.seq (.for_ (.seq (.var 1)) (.nm 2) Qh0) (.setF 1 (.call 11 (.cons (.var 0) (.cons (.var 1) .nil))))
abbrev Qed:E:=.cmp .ne (.var 1) (.lst .nil)
def Q4p (S:List (List Nat)):(S.map Qg).all (Ql 49)=true:=by
 rw [Z1]
 intro t ht
 obtain ⟨r,_,rfl⟩:=Z0.mp ht
 show Ql 49 (.tup (iT r))=true
 rw [Ql,Z1]
 intro u hu
 obtain ⟨x,_,rfl⟩:=Z0.mp hu
 rfl
section
variable {n:Nat} {Ms:List Tb} (h:Tabs n Ms)
include h
def Q97 (k l:Nat) {s2:Slot} (o2:Qab s2=true):∃ s',Qab s'=true∧Qap (.nm 2) (exS (cfn (k+2)) Qh0) ((Rn (lkM Ms) n l).map Qg) [.fz (Qd Ms),.fz (.lst ((Rn (lkM Ms) n l).map Qg)),s2]=match (Rn (lkM Ms) n l).find? (clo (lkM Ms)) with
  | some r=>.rt (.fz (Qg r)) [.fz (Qd Ms),.fz (.lst ((Rn (lkM Ms) n l).map Qg)),s']
  | none=>.nx [.fz (Qd Ms),.fz (.lst ((Rn (lkM Ms) n l).map Qg)),s'] :=
 Qmc (b:=exS (cfn (k+2)) Qh0) (f:=clo (lkM Ms)) (env:=fun s=>[.fz (Qd Ms),.fz (.lst ((Rn (lkM Ms) n l).map Qg)),s]) (i:=2) (fun s t o=>by cases s <;> first | rfl | (cases o;done)) (Rn (lkM Ms) n l) s2 o2 (fun r hr=>by
  have am:=Qcq ((Qfr n l).len r hr)
  obtain ⟨_,hb⟩:=Qn0 (lkM Ms) n l r hr
  have e1:=Qhf h (k+1) (hb _ (Qma am)) (hb _ (Qmb am))
  have e2:=Qpn am
  have e3:=Qvp am
  show exS (cfn (k+2)) Qh0 [.fz (Qd Ms),.fz (.lst ((Rn (lkM Ms) n l).map Qg)),.fz (.tup (iT r))]=if lkM Ms (Qa0 r) (headN r)=true then .rt (.fz (.tup (iT r))) [.fz (Qd Ms),.fz (.lst ((Rn (lkM Ms) n l).map Qg)),.fz (.tup (iT r))] else .nx [.fz (Qd Ms),.fz (.lst ((Rn (lkM Ms) n l).map Qg)),.fz (.tup (iT r))]
  generalize iT r=RR at e2 e3 ⊢
  generalize (Rn (lkM Ms) n l).map Qg=RL
  cases hb:lkM Ms (Qa0 r) (headN r) with
  | true =>
   rw [hb] at e1
   simp only [Qbm,Qaj,Qp,Qn,Q2,Qb,Q0,yC1,Qf4,Qc,Qfm,Qq0,Qa3,Qww,Int.reduceNeg,Qfl,Qfk,cont,Qfj,ui2,e2,e3,Qs,yC2,Q8,Qz,Qah,Q1,Qaq,Qag,e1,Qa9,Qo,Q4,L2.Qm,Option.map,Zr,Qw,yBl,Qam,yIf,Qb6,Qd5]
  | false =>
   rw [hb] at e1
   simp only [Qbm,Qaj,Qp,Qn,Q2,Qb,Q0,yC1,Qf4,Qc,Qfm,Qq0,Qa3,Qww,Int.reduceNeg,Qfl,Qfk,cont,Qfj,ui2,e2,e3,Qs,yC2,Q8,Qz,Qah,Q1,Qaq,Qag,e1,Qa9,Qo,Q4,L2.Qm,Option.map,Zr,Qw,yBl,Qam,yIf,Qco,Zaa,Za2])
def Qvr (k : Nat) : ∀ (m l aQ : Nat) {s2 : Slot}, l + m = n → m < aQ → Qab s2 = true → ∃ s', Qep (fun ρ => Q6 (evE (cfn (k + 2)) Qed ρ)) (exS (cfn (k + 2)) Qcg) aQ [.fz (Qd Ms), .fz (.lst ((Rn (lkM Ms) n l).map Qg)), s2] = match rg (lkM Ms) n m l with
   | some r=>.rt (.fz (Qg r)) (.fz (Qd Ms)::s')
   | none=>.nx (.fz (Qd Ms)::s')
 | m,l,0,_,_,hf,_=>absurd hf (by omega)
 | m,l,aQ+1,s2,hl,hf,o2=>by
  have n4:=h.n4
  have en:=Qkn (Q4p (Rn (lkM Ms) n l))
  have z0:(0:Nat)≤100000:=by decide
  have et:Q6 (evE (cfn (k+2)) Qed [.fz (Qd Ms),.fz (.lst ((Rn (lkM Ms) n l).map Qg)),s2])=.ok (!((Rn (lkM Ms) n l).map Qg).isEmpty) [.fz (Qd Ms),.fz (.lst ((Rn (lkM Ms) n l).map Qg)),s2]:=by
   generalize (Rn (lkM Ms) n l).map Qg=RL at en ⊢
   simp only [Qa4,Qn,Q2,Qc,Qb,Q0,Qaz,Qc7,Qs,Qf3,Qbw,Zu,z0,Zr,Qay,Qax,cont,Qaw,uc2,Option.map,en,Qw,yBl]
  by_cases he:Rn (lkM Ms) n l=[]
  ·rw [Q1n m l he]
   refine ⟨[.fz (.lst ((Rn (lkM Ms) n l).map Qg)),s2],?_⟩
   unfold Qep
   rw [et,he]
   rfl
  ·have am:((Rn (lkM Ms) n l).map Qg).isEmpty=false:=by
    cases hr:Rn (lkM Ms) n l with
    | nil=>exact absurd hr he
    | cons a b=>rfl
   rw [am] at et
   cases m with
   | zero =>
    have:l=n:=by omega
    subst this
    exact absurd (Q96 (lkM Ms) l) he
   | succ m =>
    obtain ⟨s',o',ef⟩:=Q97 h k l o2
    cases hp:(Rn (lkM Ms) n l).find? (clo (lkM Ms)) with
    | some r =>
     rw [hp] at ef
     have ef:Qap (.nm 2) (exS (cfn (k+2)) Qh0) ((Rn (lkM Ms) n l).map Qg) [.fz (Qd Ms),.fz (.lst ((Rn (lkM Ms) n l).map Qg)),s2]=.rt (.fz (Qg r)) [.fz (Qd Ms),.fz (.lst ((Rn (lkM Ms) n l).map Qg)),s']:=ef
     have eb:exS (cfn (k+2)) Qcg [.fz (Qd Ms),.fz (.lst ((Rn (lkM Ms) n l).map Qg)),s2]=.rt (.fz (Qg r)) [.fz (Qd Ms),.fz (.lst ((Rn (lkM Ms) n l).map Qg)),s']:=by
      show exS (cfn (k+2)) (.seq (.for_ _ (.nm 2) Qh0) _) _=_
      generalize Qh0=B0 at ef ⊢
      generalize (Rn (lkM Ms) n l).map Qg=RL at ef ⊢
      simp only [Qac,Qdb,Qgq,Qn,Q2,Qc,Qb,Q0,Qjo,Qfo,cont,Qfn,Qcc,Qfx,Qam,Qfp,ef,Qoq,Qq5]
     refine ⟨[.fz (.lst ((Rn (lkM Ms) n l).map Qg)),s'],?_⟩
     unfold Qep rg
     rw [et,hp]
     show (match exS (cfn (k+2)) Qcg _ with | .nx ρ2=>_ | .ct ρ2=>_ | .bk ρ2=>_ | o=>o)=_
     rw [eb]
    | none =>
     rw [hp] at ef
     have ef:Qap (.nm 2) (exS (cfn (k+2)) Qh0) ((Rn (lkM Ms) n l).map Qg) [.fz (Qd Ms),.fz (.lst ((Rn (lkM Ms) n l).map Qg)),s2]=.nx [.fz (Qd Ms),.fz (.lst ((Rn (lkM Ms) n l).map Qg)),s']:=ef
     have lb:=Q1m (lkM Ms) n4 l
     have l5:4^(l+1)≤4^4:=Zdg (by decide) (by omega)
     have eg:=Q1l h k (S:=Rn (lkM Ms) n l) (fun r hr=>⟨Qcq ((Qfr n l).len r hr),by have:=(Qfr n l).len r hr;omega,(Qn0 (lkM Ms) n l r hr).2⟩) (by omega)
     have eb:exS (cfn (k+2)) Qcg [.fz (Qd Ms),.fz (.lst ((Rn (lkM Ms) n l).map Qg)),s2]=.nx [.fz (Qd Ms),.fz (.lst ((Rn (lkM Ms) n (l+1)).map Qg)),s']:=by
      show exS (cfn (k+2)) (.seq (.for_ _ (.nm 2) Qh0) _) _=.nx [_,.fz (.lst ((Qfq (cnd (lkM Ms) n) (Rn (lkM Ms) n l)).map Qg)),_]
      generalize (Qfq (cnd (lkM Ms) n) (Rn (lkM Ms) n l)).map Qg=RG at eg ⊢
      generalize Qh0=B0 at ef ⊢
      generalize (Rn (lkM Ms) n l).map Qg=RL at ef eg ⊢
      simp only [Qac,Qdb,Qgq,Qn,Q2,Qc,Qb,Q0,Qjo,Qfo,cont,Qfn,Qcc,Qfx,Qam,Qfp,ef,Qbs,Qbc,Qbe,Qaj,Qp,yC1,Qs,yC2,Q8,Qz,Qah,Q1,Qaq,Qag,eg,Qa9,Qo,Q4,L2.Qm,Option.map,Zr,Qcb,Qbj,frz,Qae,Qbi,Zh,Zu,Nat.reduceAdd,Nat.reduceLT,List.set]
     obtain ⟨dy,e⟩:=Qvr k m (l+1) aQ (s2:=s') (by omega) (by omega) o'
     refine ⟨dy,?_⟩
     unfold Qep rg
     rw [et,hp]
     show (match exS (cfn (k+2)) Qcg _ with | .nx ρ2=>Qep _ _ aQ ρ2 | .ct ρ2=>_ | .bk ρ2=>_ | o=>o)=_
     rw [eb]
     exact e
def Qxd (k:Nat):cfn (k+7) 12 [.fz (Qd Ms)]=.ok (.fz (oR (rg (lkM Ms) n n 0))) [.non]:=by
 have n4:=h.n4
 have e1:=Qe2 k h
 obtain ⟨M0,a0,l0⟩:=Qxb h
 obtain ⟨s',el⟩:=Qvr h (k+4) n 0 1000000 (s2:=.un) (by omega) (by omega) rfl
 have c:n≤100000:=by omega
 have z1:(1:Nat)≤100000:=by decide
 have q:=Qcd (cf:=cfn (k+6)) (w:=.rng1 (.bi .len (.cons (.ix (.var 0) (.int 0)) .nil))) (js:=[none]) (e:=.tup (.cons (.var 0) .nil)) (ρ:=[.fz (Qd Ms),.un,.un]) (rest:=[]) (xs:=iT (List.range n)) (f:=fun t=>.tup [t]) (by
  have eu:=Q1h n
  simp only [Qf5,Qdh,Qp,Qf4,Qn,Q2,Qb,Q0,Qfm,Qa3,Qfl,Qfk,cont,Qfj,ui1,a0,yC1,Qs,yC2,yBi,Qc3,Qa2,Out.opt,ub2,Zf,l0,Qq9 c,eu]) rfl rfl rfl (fun t ht=>⟨.fz (.tup [t]),by simp only [Qhx,Qp,Qn,Q2,Qb,Q0,yC1,Qs,yC2,Qlw,Qbw,frz,Zh,Zu,Nat.reduceAdd,z1,Zr],rfl⟩) (by rw [Zf,Zac];omega)
 have em:(iT (List.range n)).map (fun t=>T.tup [t])=(Rn (lkM Ms) n 0).map Qg:=by
  unfold Rn iT
  rw [Zbz,Zbz]
  rfl
 rw [em] at q
 show Qcv (cfn (k+6)) ⟨1,3,Qnv⟩ _=_
 rw [Qcp rfl]
 show Qd6 _ (exS _ (.seq _ (.seq _ (.seq (.whl Qed Qcg) _))) [.fz (Qd Ms),.un,.un])=_
 cases hg:rg (lkM Ms) n n 0 with
 | some r =>
  rw [hg] at el
  have ew:exS (cfn (k+6)) (.whl Qed Qcg) [.fz (Qd Ms),.fz (.lst ((Rn (lkM Ms) n 0).map Qg)),.un]=.rt (.fz (Qg r)) (.fz (Qd Ms)::s'):=by
   rw [exS]
   show Qhu (Qep (fun ρ=>Q6 (evE (cfn (k+4+2)) Qed ρ)) (exS (cfn (k+4+2)) Qcg) 1000000 _)=_
   rw [el]
   rfl
  generalize (Rn (lkM Ms) n 0).map Qg=RL at q ew
  generalize Qed=E0 at ew ⊢
  generalize Qcg=B0 at ew ⊢
  simp only [Qac,Qly,Qaj,Qp,Qn,Q2,Qb,Q0,yC1,Qs,yC2,Q8,Qz,Qah,Q1,Qaq,Qag,e1,Qa9,Qo,Q4,L2.Qm,Option.map,Zr,Qam,Qnu,Qbc,Qbe,q,Qcb,Qbj,frz,Qae,Qbi,Zh,Zu,Nat.reduceAdd,Nat.reduceLT,Qc,List.set,ew,Qq5,Qbf,Qbt,Qbd,Qbn,Qaa]
  rfl
 | none =>
  rw [hg] at el
  have ew:exS (cfn (k+6)) (.whl Qed Qcg) [.fz (Qd Ms),.fz (.lst ((Rn (lkM Ms) n 0).map Qg)),.un]=.nx (.fz (Qd Ms)::s'):=by
   rw [exS]
   show Qhu (Qep (fun ρ=>Q6 (evE (cfn (k+4+2)) Qed ρ)) (exS (cfn (k+4+2)) Qcg) 1000000 _)=_
   rw [el]
   rfl
  generalize (Rn (lkM Ms) n 0).map Qg=RL at q ew
  generalize Qed=E0 at ew ⊢
  generalize Qcg=B0 at ew ⊢
  simp only [Qac,Qly,Qaj,Qp,Qn,Q2,Qb,Q0,yC1,Qs,yC2,Q8,Qz,Qah,Q1,Qaq,Qag,e1,Qa9,Qo,Q4,L2.Qm,Option.map,Zr,Qam,Qnu,Qbc,Qbe,q,Qcb,Qbj,frz,Qae,Qbi,Zh,Zu,Nat.reduceAdd,Nat.reduceLT,Qc,List.set,ew,Qb6,Qgp,Qd5,Qbf,Qbt,Qbd,Qbn,Qaa]
  rfl
end
open PySem L2
abbrev Qtw:S:=.setF 8 (.call 17 (.cons (.var 0) (.cons (.ix (.var 7) (.neg (.int 1))) .nil)))
abbrev Q1o:S:=.ite (.cmp .inn (.var 3) (.var 8)) (.app 2 (.var 7)) .nil
abbrev Qjc:E:=.comp (.seq (.var 8)) [none,some 7,some 3] (.nm 0) (.cons (.and (.cmp .gt (.var 0) (.var 2)) (.cmp .nin (.var 0) (.var 1))) .nil) (.bin .add (.var 1) (.tup (.cons (.var 0) .nil)))
abbrev Qrw:S:=.seq Qtw (.seq Q1o (.setF 6 (.bin .add (.var 6) Qjc)))
def Q98 (Ms:List Tb) (n:Nat) (r:List Nat):(nx Ms n (Qa0 r)).filter (fun c=>decide (headN r<c) && !decide (c∈r))=cnd (lkM Ms) n r:=by
 unfold cnd nx
 rw [List.filter_filter]
 refine Zel fun c _=>?_
 have:(!decide (c∈r)) = !r.contains c:=by congr 1;simp
 rw [this]
section
variable {n:Nat} {Ms:List Tb} (h:Tabs n Ms)
include h
def Q4q (k:Nat) {r:List Nat} (am:r≠[]) (hb:∀ y∈r,y<n) (hz:r.length≤100) {s1 s2 s4 s5 s6:Slot} :
  evE (cfn (k+1)) Qjc [.fz (Qd Ms),s1,s2,.fz (.int (headN r)),s4,s5,s6,.fz (Qg r),.fz (.lst (iT (nx Ms n (Qa0 r))))]=.ok (.ow (.lst ((cnd (lkM Ms) n r).map fun c=>Qg (r++[c])))) [.fz (Qd Ms),s1,s2,.fz (.int (headN r)),s4,s5,s6,.fz (Qg r),.fz (.lst (iT (nx Ms n (Qa0 r))))]:=by
 have n4:=h.n4
 have q:=Qi0 (cf:=cfn (k+1)) (w:=.seq (.var 8)) (js:=[none,some 7,some 3]) (cs:=.cons (.and (.cmp .gt (.var 0) (.var 2)) (.cmp .nin (.var 0) (.var 1))) .nil) (e:=.bin .add (.var 1) (.tup (.cons (.var 0) .nil))) (ρ:=[.fz (Qd Ms),s1,s2,.fz (.int (headN r)),s4,s5,s6,.fz (Qg r),.fz (.lst (iT (nx Ms n (Qa0 r))))]) (rest:=[.fz (Qg r),.fz (.int (headN r))]) (xs:=iT (nx Ms n (Qa0 r))) (g:=fun t=>decide (headN r<nOf t) && !decide (nOf t∈r)) (f:=fun t=>Qg (r++[nOf t])) rfl rfl rfl rfl (fun t ht=>by
  obtain ⟨c,_,rfl⟩:=Z0.mp ht
  have e1:=Q1j c r
  rw [Qu8]
  show Q6 _=.ok (decide (headN r<c) && !decide (c∈r)) _
  generalize Qg r=RR at e1 ⊢
  by_cases hc:headN r<c
  ·rw [Zaf hc,Zeb]
   have hg:decide (((headN r:Nat):Int)<(c:Int))=true:=Zaf (by omega)
   generalize (!decide (c∈r))=bb at e1 ⊢
   simp only [Qlx,Qa4,Qn,Q2,Qb,Q0,Qaz,Qc,Qay,Qax,cont,Qaw,uc5,hg,Qw,yBl,Qq1,e1,yB]
  ·rw [Z4 hc,Zey]
   have hg:decide (((headN r:Nat):Int)<(c:Int))=false:=Z4 (by omega)
   simp only [Qlx,Qa4,Qn,Q2,Qb,Q0,Qaz,Qc,Qay,Qax,cont,Qaw,uc5,hg,Qw,yBl,Qq1]) (fun t ht _=>by
  obtain ⟨c,_,rfl⟩:=Z0.mp ht
  have e4:=Qvq r c (by omega)
  have z1:(1:Nat)≤100000:=by decide
  refine ⟨.fz (Qg (r++[c])),?_,rfl⟩
  generalize Qg (r++[c])=R2 at e4 ⊢
  generalize Qg r=RR at e4 ⊢
  simp only [Qds,Qn,Q2,Qc,Qb,Q0,Qda,Qhx,Qp,yC1,Qs,yC2,Qlw,Qbw,frz,Zh,Zu,Nat.reduceAdd,z1,Zr,Qc9,Qc8,cont,Out.opt,e4]) (by
   rw [Zf]
   have:=Zb6 (lkM Ms (Qa0 r)) (List.range n)
   rw [Zac] at this
   show ((List.range n).filter (lkM Ms (Qa0 r))).length≤_
   omega)
 have em:((iT (nx Ms n (Qa0 r))).filter fun t=>decide (headN r<nOf t) && !decide (nOf t∈r)).map (fun t=>Qg (r++[nOf t]))=(cnd (lkM Ms) n r).map fun c=>Qg (r++[c]):=by
  rw [←Q98]
  unfold iT
  rw [List.filter_map,Zbz]
  rfl
 rw [em] at q
 exact q
def Q4r (k:Nat) {r:List Nat} (am:r≠[]) (hb:∀ y∈r,y<n) (hz:r.length≤100) {s1 s4 s5 s8:Slot} (o8:Qab s8=true) {found more:List T} (hf:found.length<10000) (hm:more.length≤9000) :
  exS (cfn (k+1)) Qrw [.fz (Qd Ms),s1,.ow (.lst found),.fz (.int (headN r)),s4,s5,.fz (.lst more),.fz (Qg r),s8]=.nx [.fz (Qd Ms),s1,.ow (.lst (found++if clo (lkM Ms) r=true then [Qg r] else [])),.fz (.int (headN r)),s4,s5,.fz (.lst (more++(cnd (lkM Ms) n r).map fun c=>Qg (r++[c]))),.fz (Qg r),.fz (.lst (iT (nx Ms n (Qa0 r))))]:=by
 have n4:=h.n4
 have e1:=Q1d h k (hb _ (Qma am))
 have e2:=Qpn am
 have e3:=Q92 (headN r) (nx Ms n (Qa0 r))
 have jr:decide (headN r∈nx Ms n (Qa0 r))=clo (lkM Ms) r:=by
  have hh:=hb _ (Qmb am)
  unfold clo
  cases hc:lkM Ms (Qa0 r) (headN r) with
  | true=>exact Zaf (Zax.mpr ⟨Zab.mpr hh,hc⟩)
  | false=>exact Z4 fun z=>by have:=(Zax.mp z).2;rw [hc] at this;cases this
 rw [jr] at e3
 have cl:=Qks (lk:=lkM Ms) (n:=n) r
 have e4:∀ {bC:T},evE (cfn (k+1)) Qjc [.fz (Qd Ms),s1,.ow bC,.fz (.int (headN r)),s4,s5,.fz (.lst more),.fz (Qg r),.fz (.lst (iT (nx Ms n (Qa0 r))))]=_:=fun {bC}=>Q4q h k am hb hz (s1:=s1) (s2:=.ow bC) (s4:=s4) (s5:=s5) (s6:=.fz (.lst more))
 have e5:opB .add (.lst more) (.lst ((cnd (lkM Ms) n r).map fun c=>Qg (r++[c])))=some (.ow (.lst (more++(cnd (lkM Ms) n r).map fun c=>Qg (r++[c])))):=Q1g (by rw [Zf];omega)
 have zf:found.length<100000:=by omega
 have g1:exS (cfn (k+1)) Qtw [.fz (Qd Ms),s1,.ow (.lst found),.fz (.int (headN r)),s4,s5,.fz (.lst more),.fz (Qg r),s8]=.nx [.fz (Qd Ms),s1,.ow (.lst found),.fz (.int (headN r)),s4,s5,.fz (.lst more),.fz (Qg r),.fz (.lst (iT (nx Ms n (Qa0 r))))]:=by
  show exS _ _ [.fz (Qd Ms),s1,.ow (.lst found),.fz (.int (headN r)),s4,s5,.fz (.lst more),.fz (.tup (iT r)),s8]=.nx [.fz (Qd Ms),s1,.ow (.lst found),.fz (.int (headN r)),s4,s5,.fz (.lst more),.fz (.tup (iT r)),.fz (.lst (iT (nx Ms n (Qa0 r))))]
  generalize iT (nx Ms n (Qa0 r))=NN at e1 ⊢
  generalize iT r=RR at e2 ⊢
  (cases s8 <;> cases o8) <;> simp only [Qbe,Qaj,Qp,Qn,Q2,Qb,Q0,yC1,Qf4,Qc,Qfm,Qq0,Qa3,Qww,Int.reduceNeg,Qfl,Qfk,cont,Qfj,ui2,e2,Qs,yC2,Q8,Qz,Qah,Q1,Qaq,Qag,e1,Qa9,Qo,Q4,L2.Qm,Option.map,Zr,Qam,Qcb,Qbj,frz,Qae,Qbi,Zh,Zu,Nat.reduceAdd,Nat.reduceLT,List.set]
 show exS (cfn (k+1)) (.seq Qtw (.seq Q1o (.setF 6 (.bin .add (.var 6) Qjc)))) _=_
 rw [Qac,g1,Qbc]
 generalize (cnd (lkM Ms) n r).map (fun c=>Qg (r++[c]))=CC at e4 e5 ⊢
 generalize more++CC=MM at e5 ⊢
 generalize iT (nx Ms n (Qa0 r))=NN at e3 e4 ⊢
 generalize Qg r=RR at e4 ⊢
 generalize Qjc=E0 at e4 ⊢
 cases hc:clo (lkM Ms) r with
 | true =>
  rw [hc] at e3
  simp only [Qac,Qbm,Qa4,Qn,Q2,Qc,Qb,Q0,Qaz,Qay,Qax,cont,Qaw,e3,Qw,yBl,Qam,yIf,Qop,Slot.mut,Qwx,Qq7,frz,Qq6,zf,List.set,Zr,Qbc,Qbe,Qds,Qda,e4,Qc9,Qc8,Out.opt,e5,Qcb,Qbj,Qae,Qbi,Zh,Zu,Nat.reduceAdd,Nat.reduceLT]
 | false =>
  rw [hc] at e3
  simp only [Qac,Qbm,Qa4,Qn,Q2,Qc,Qb,Q0,Qaz,Qay,Qax,cont,Qaw,e3,Qw,yBl,Qam,yIf,Qco,Qbc,Qbe,Qds,Qda,e4,Qc9,Qc8,Out.opt,e5,Qcb,Qbj,frz,Qae,Qbi,Zh,Zu,Nat.reduceAdd,Nat.reduceLT,List.set,Zr,Zaa,Za2]
  rw [Zal]
def Qrx (k:Nat) {f:Nat} {s1 s4 s5:Slot}:∀ (S:List (List Nat)) (found more:List T) (s7 s8:Slot),(∀ r∈S,headN r=f)→OkS n S→found.length+S.length≤9000→more.length+4*S.length≤8000→Qab s7=true→Qab s8=true →
  ∃ t7 t8,Qab t7=true∧Qab t8=true∧Qap (.nm 7) (exS (cfn (k+1)) Qrw) (S.map Qg) [.fz (Qd Ms),s1,.ow (.lst found),.fz (.int f),s4,s5,.fz (.lst more),s7,s8]=.nx [.fz (Qd Ms),s1,.ow (.lst (found++(S.filter (clo (lkM Ms))).map Qg)),.fz (.int f),s4,s5,.fz (.lst (more++(Qfq (cnd (lkM Ms) n) S).map Qg)),t7,t8]
 | [],found,more,s7,s8,_,_,_,_,o7,o8=>⟨s7,s8,o7,o8,by rw [Zcz];unfold Qap;rw [Zeu,Zcz,Zal];show _=SO.nx [_,_,_,_,_,_,.fz (.lst (more++[])),_,_];rw [Zal]⟩
 | r::S,found,more,s7,s8,hh,hS,z1,z2,o7,o8=>by
  have n4:=h.n4
  rw [Zh] at z1 z2
  obtain ⟨r1,r2,r3⟩:=hS r (.head _)
  have hf:=hh r (.head _)
  have t:=Q4r h k r1 r3 r2 (s1:=s1) (s4:=s4) (s5:=s5) o8 (found:=found) (more:=more) (by omega) (by omega)
  rw [hf] at t
  have cl:=Qks (lk:=lkM Ms) (n:=n) r
  obtain ⟨t7,t8,q7,q8,e⟩:=Qrx k (f:=f) (s1:=s1) (s4:=s4) (s5:=s5) S (found++if clo (lkM Ms) r=true then [Qg r] else []) (more++(cnd (lkM Ms) n r).map fun c=>Qg (r++[c])) (.fz (Qg r)) (.fz (.lst (iT (nx Ms n (Qa0 r))))) (fun x hx=>hh x (.tail _ hx)) (fun x hx=>hS x (.tail _ hx)) (by rw [Zq];split <;> simp <;> omega) (by rw [Zq,Zf];omega) rfl rfl
  refine ⟨t7,t8,q7,q8,?_⟩
  rw [Zaq]
  unfold Qap
  rw [show Qcl (.nm 7) (Qg r) [.fz (Qd Ms),s1,.ow (.lst found),.fz (.int f),s4,s5,.fz (.lst more),s7,s8]=some [.fz (Qd Ms),s1,.ow (.lst found),.fz (.int f),s4,s5,.fz (.lst more),.fz (Qg r),s8] by cases s7 <;> first | rfl | (cases o7;done)]
  dsimp only
  rw [t]
  dsimp only
  rw [e,Qjv,Zan,Zbz,Zao,Zao,Zdc]
  cases clo (lkM Ms) r <;> rfl
omit h in
def Qadt (lk:Nat→Nat→Bool) {n f:Nat} (hf:f<n) (l:Nat):∀ r∈Pn lk n f l,∀ y∈r,y<n:=fun r hr=>by
 have e:=Qhn n f l r hr
 exact (Qn0 lk n l r ((Qrq n l r).mpr ⟨by rw [e];exact hf,by rw [e];exact hr⟩)).2
omit h in
def Qtx (lk:Nat→Nat→Bool) {n:Nat} (h4:n≤4) (f:Nat):∀ l,(Pn lk n f l).length≤4^l
 | 0=>Zi _
 | l+1=>by
  have ih:=Qtx lk h4 f l
  have:=Qmd (lk:=lk) h4 (Pn lk n f l)
  show (Qfq (cnd lk n) (Pn lk n f l)).length≤4^(l+1)
  rw [Nat.pow_succ]
  omega
abbrev Qhg:S:=.seq (.setF 6 (.lst .nil)) (.seq (.for_ (.seq (.var 4)) (.nm 7) Qrw) (.setF 4 (.var 6)))
abbrev clf (Ms:List Tb) (n f m:Nat):List (List Nat):=(List.range m).flatMap fun l=>(Pn (lkM Ms) n f l).filter (clo (lkM Ms))
omit h in
def Qpp (Ms:List Tb) {n:Nat} (h4:n≤4) (f:Nat):∀ m,m≤4→(clf Ms n f m).length≤64*m
 | 0,_=>Zi _
 | m+1,hm=>by
  have ih:=Qpp Ms h4 f m (by omega)
  unfold clf at ih ⊢
  rw [Zei,Zc2,Zq,Zba,Zd4,Zal]
  have a:=Zb6 (clo (lkM Ms)) (Pn (lkM Ms) n f m)
  have b:=Qtx (lkM Ms) h4 f m
  have c:4^m≤4^3:=Zdg (by decide) (by omega)
  omega
def Q1p (k:Nat) {f:Nat} (hf:f<n) {found:List T} (hz:found.length≤5000) {s5 s6 s7 s8:Slot} (o5:Qab s5=true) (o6:Qab s6=true) (o7:Qab s7=true) (o8:Qab s8=true) :
  ∃ t4 t5 t6 t7 t8,Qab t4=true∧Qab t5=true∧Qab t6=true∧Qab t7=true∧Qab t8=true∧Qap (.nm 5) (exS (cfn (k+1)) Qhg) (Qad 0 n) [.fz (Qd Ms),.fz (.int n),.ow (.lst found),.fz (.int f),.fz (.lst [Qg [f]]),s5,s6,s7,s8]=.nx [.fz (Qd Ms),.fz (.int n),.ow (.lst (found++(clf Ms n f n).map Qg)),.fz (.int f),t4,t5,t6,t7,t8]:=by
 have n4:=h.n4
 obtain ⟨ρ',e,t5,t6,t7,t8,q5,q6,q7,q8,rfl⟩:=Qdr (fun m ρ=>∃ s5 s6 s7 s8:Slot,Qab s5=true∧Qab s6=true∧Qab s7=true∧Qab s8=true∧ρ=[.fz (Qd Ms),.fz (.int n),.ow (.lst (found++(clf Ms n f m).map Qg)),.fz (.int f),.fz (.lst ((Pn (lkM Ms) n f m).map Qg)),s5,s6,s7,s8]) (tg:=.nm 5) (b:=exS (cfn (k+1)) Qhg) (xs:=Qad 0 n) (n:=0) (ρ:=[.fz (Qd Ms),.fz (.int n),.ow (.lst found),.fz (.int f),.fz (.lst [Qg [f]]),s5,s6,s7,s8]) ⟨s5,s6,s7,s8,o5,o6,o7,o8,by show _=[_,_,Slot.ow (.lst (found++[])),_,_,_,_,_,_];rw [Zal];rfl⟩ (by
  rintro m x ρ hx ⟨s5,s6,s7,s8,o5,o6,o7,o8,rfl⟩
  have hm:m<n:=by have:=(Ze.mp hx).1;rwa [Qat] at this
  rw [Zae]
  have cl:=Qpp Ms n4 f m (by omega)
  have pl:=Qtx (lkM Ms) n4 f m
  have c3:4^m≤4^3:=Zdg (by decide) (by omega)
  obtain ⟨t7,t8,q7,q8,ep⟩:=Qrx h k (f:=f) (s1:=.fz (.int n)) (s4:=.fz (.lst ((Pn (lkM Ms) n f m).map Qg))) (s5:=.fz x) (Pn (lkM Ms) n f m) (found++(clf Ms n f m).map Qg) [] s7 s8 (Qhn n f m) (fun r hr=>⟨Qcq ((Qka n f m).len r hr),by have:=(Qka n f m).len r hr;omega,Qadt (lkM Ms) hf m r hr⟩) (by rw [Zq,Zf];omega) (by show 0+_≤_;omega) o7 o8
  have ec:found++(clf Ms n f m).map Qg++((Pn (lkM Ms) n f m).filter (clo (lkM Ms))).map Qg=found++(clf Ms n f (m+1)).map Qg:=by
   unfold clf
   rw [Zei,Zc2,Zba,Zd4,Zal,Zan,Zao]
  rw [ec,Zbn] at ep
  refine ⟨[.fz (Qd Ms),.fz (.int n),.ow (.lst (found++(clf Ms n f m).map Qg)),.fz (.int f),.fz (.lst ((Pn (lkM Ms) n f m).map Qg)),.fz x,s6,s7,s8],[.fz (Qd Ms),.fz (.int n),.ow (.lst (found++(clf Ms n f (m+1)).map Qg)),.fz (.int f),.fz (.lst ((Pn (lkM Ms) n f (m+1)).map Qg)),.fz x,.fz (.lst ((Pn (lkM Ms) n f (m+1)).map Qg)),t7,t8],(by cases s5 <;> first | rfl | (cases o5;done)),.inl ?_,.fz x,_,t7,t8,rfl,rfl,q7,q8,rfl⟩
  show exS (cfn (k+1)) (.seq _ (.seq (.for_ _ (.nm 7) Qrw) _)) _=.nx [_,_,_,_,.fz (.lst ((Qfq (cnd (lkM Ms) n) (Pn (lkM Ms) n f m)).map Qg)),_,.fz (.lst ((Qfq (cnd (lkM Ms) n) (Pn (lkM Ms) n f m)).map Qg)),_,_]
  have z0:(0:Nat)≤100000:=by decide
  generalize Qrw=B0 at ep ⊢
  generalize (Qfq (cnd (lkM Ms) n) (Pn (lkM Ms) n f m)).map Qg=GG at ep ⊢
  generalize found++(clf Ms n f (m+1)).map Qg=F2 at ep ⊢
  generalize found++(clf Ms n f m).map Qg=F1 at ep ⊢
  generalize (Pn (lkM Ms) n f m).map Qg=PP at ep ⊢
  (cases s6 <;> cases o6) <;> simp only [Qac,Qbe,Qc7,Qs,Q0,Qf3,Qbw,Zu,z0,Zr,Qam,Qcb,Qbj,frz,Qae,Qbi,Zh,Nat.reduceAdd,Nat.reduceLT,Qc,Qb,List.set,Qbc,Qdb,Qgq,Qn,Q2,Qjo,Qfo,cont,Qfn,Qcc,Qfx,Qfp,ep,Qbs])
 rw [Qat,Zae] at e
 exact ⟨_,t5,t6,t7,t8,rfl,q5,q6,q7,q8,e⟩
abbrev Qme:S:=.seq (.setF 4 (.lst (.cons (.tup (.cons (.var 3) .nil)) .nil))) (.for_ (.rng1 (.var 1)) (.nm 5) Qhg)
def Q4s (k:Nat):cfn (k+2) 20 [.fz (Qd Ms)]=.ok (.ow (.lst ((fnd (lkM Ms) n).map Qg))) [.non]:=by
 have n4:=h.n4
 have z1:(1:Nat)≤100000:=by decide
 have z0:(0:Nat)≤100000:=by decide
 have c:n≤100000:=by omega
 have fl:∀ m,m≤4→((List.range m).flatMap fun f=>clf Ms n f n).length≤256*m:=by
  intro m
  induction m with
  | zero=>exact fun _=>Zi _
  | succ m ih =>
   intro hm
   have ih:=ih (by omega)
   rw [Zei,Zc2,Zq,Zba,Zd4,Zal]
   have:=Qpp Ms n4 m n n4
   omega
 obtain ⟨ρ',e,t3,t4,t5,t6,t7,t8,_,_,_,_,_,_,rfl⟩:=Qdr (fun m ρ=>∃ s3 s4 s5 s6 s7 s8:Slot,Qab s3=true∧Qab s4=true∧Qab s5=true∧Qab s6=true∧Qab s7=true∧Qab s8=true∧ρ=[.fz (Qd Ms),.fz (.int n),.ow (.lst (((List.range m).flatMap fun f=>clf Ms n f n).map Qg)),s3,s4,s5,s6,s7,s8]) (tg:=.nm 3) (b:=exS (cfn (k+1)) Qme) (xs:=Qad 0 n) (n:=0) (ρ:=[.fz (Qd Ms),.fz (.int n),.ow (.lst []),.un,.un,.un,.un,.un,.un]) ⟨.un,.un,.un,.un,.un,.un,rfl,rfl,rfl,rfl,rfl,rfl,rfl⟩ (by
  rintro m x ρ hx ⟨s3,s4,s5,s6,s7,s8,o3,o4,o5,o6,o7,o8,rfl⟩
  have hm:m<n:=by have:=(Ze.mp hx).1;rwa [Qat] at this
  have ex:x=.int (m:Int):=by
   unfold Qad at hx
   rw [Z8,Zco hm] at hx
   cases hx
   show T.int (0+(m:Int))=_
   rw [Zcb]
  subst ex
  rw [Zae]
  have fm:=fl m (by omega)
  obtain ⟨t4,t5,t6,t7,t8,q4,q5,q6,q7,q8,et⟩:=Q1p h k hm (found:=((List.range m).flatMap fun f=>clf Ms n f n).map Qg) (by rw [Zf];omega) o5 o6 o7 o8
  have ec:((List.range m).flatMap fun f=>clf Ms n f n).map Qg++(clf Ms n m n).map Qg=((List.range (m+1)).flatMap fun f=>clf Ms n f n).map Qg:=by
   rw [Zei,Zc2,Zba,Zd4,Zal,Zan]
  rw [ec] at et
  refine ⟨[.fz (Qd Ms),.fz (.int n),.ow (.lst (((List.range m).flatMap fun f=>clf Ms n f n).map Qg)),.fz (.int m),s4,s5,s6,s7,s8],_,(by cases s3 <;> first | rfl | (cases o3;done)),.inl ?_,.fz (.int m),t4,t5,t6,t7,t8,rfl,q4,q5,q6,q7,q8,rfl⟩
  show exS (cfn (k+1)) (.seq _ (.for_ _ (.nm 5) Qhg)) _=_
  generalize Qhg=B0 at et ⊢
  generalize ((List.range (m+1)).flatMap fun f=>clf Ms n f n).map Qg=F2 at et ⊢
  generalize ((List.range m).flatMap fun f=>clf Ms n f n).map Qg=F1 at et ⊢
  have et:Qap (.nm 5) (exS (cfn (k+1)) B0) (Qad 0 n) [.fz (Qd Ms),.fz (.int n),.ow (.lst F1),.fz (.int m),.fz (.lst [.tup [.int (m:Int)]]),s5,s6,s7,s8]=_:=et
  (cases s4 <;> cases o4) <;> simp only [Qac,Qbe,Qc7,Qp,Qhx,Qn,Q2,Qc,Qb,Q0,yC1,Qs,yC2,Qlw,Qbw,frz,Zh,Zu,Nat.reduceAdd,z1,Zr,Qf3,Qam,Qcb,Qbj,Qae,Qbi,Nat.reduceLT,List.set,Qbc,Qdb,Qf5,Qq9 c,Qfp,et,Qbs])
 rw [Qat,Zae] at e
 obtain ⟨M0,a0,l0⟩:=Qxb h
 show Qcv (cfn (k+1)) ⟨1,9,Qj8⟩ _=_
 rw [Qcp rfl]
 show Qd6 _ (exS _ (.seq _ (.seq _ (.seq (.for_ _ (.nm 3) Qme) _))) [.fz (Qd Ms),.un,.un,.un,.un,.un,.un,.un,.un])=.ok (.ow (.lst (((List.range n).flatMap fun f=>clf Ms n f n).map Qg))) [.non]
 generalize Qme=B0 at e ⊢
 generalize ((List.range n).flatMap fun f=>clf Ms n f n).map Qg=F1 at e ⊢
 simp only [Qac,Qbe,Qdh,Qp,Qf4,Qn,Q2,Qb,Q0,Qfm,Qa3,Qfl,Qfk,cont,Qfj,ui1,a0,yC1,Qs,yC2,yBi,Qc3,Qa2,Out.opt,ub2,Zf,l0,Qam,Qcb,Qbj,frz,Qae,Qbi,Zh,Zu,Nat.reduceAdd,Nat.reduceLT,Qc,List.set,Zr,Qbc,Qj4,Qc7,Qf3,Qbw,z0,Qla,Qdb,Qf5,Qq9 c,Qfp,e,Qbs,Qb6,Qd5,Qbf,Qbt,Qbd,Qbn,Qaa,Option.map]
end
open PySem L2
def Qry (k:Nat) (i:Int):cfn (k+1) 15 [.fz (.int i)]=.ok (.fz (.bl true)) [.non]:=rfl
def Q4t (r:List Nat):eqO (Qg r) (Qg r)=some true:=by
 have ok:Ql 50 (Qg r)=true:=by rw [Ql];exact Qjb r
 show (if _ then _ else _)=_
 rw [Zb ⟨ok,ok⟩,Qk2 50 _ ok]
def e_is (k:Nat) (o:Option (List Nat)) (hz:∀ r,o=some r→r.length≤1000):cfn (k+2) 21 [.fz (oR o),.fz (oR o)]=.ok (.fz (.bl true)) [.non,.non]:=by
 show Qcv (cfn (k+1)) ⟨2,2,Qi5⟩ _=_
 rw [Qcp rfl]
 cases o with
 | none =>
  show Qd6 _ (exS _ Qi5 [.fz .non,.fz .non])=_
  simp only [Qac,Qbm,Qa4,Qn,Q2,Qc,Qb,Q0,Qaz,Qgp,Qay,Qax,cont,Qaw,uc7,Qdy,Qw,yBl,Qam,yIf,Qb6,Qd5,Qq5,Qbf,Qbt,Qbd,Qbn,Qaa,Option.map]
 | some r =>
  have hz:=hz r rfl
  have q:=Qcd (cf:=cfn (k+1)) (w:=.seq (.var 0)) (js:=[none]) (e:=.call 15 (.cons (.var 0) .nil)) (ρ:=[.fz (.tup (iT r)),.fz (.tup (iT r))]) (rest:=[]) (xs:=iT r) (f:=fun _=>T.bl true) rfl rfl rfl rfl (fun t ht=>by
   obtain ⟨x,_,rfl⟩:=Z0.mp ht
   have e:=Qry k (x:Int)
   refine ⟨.fz (.bl true),?_,rfl⟩
   simp only [Qaj,Qp,Qn,Q2,Qb,Q0,yC1,Qs,yC2,Q8,Qz,Qah,Q1,Qaq,Qag,e,Qa9,Qo,Q4,L2.Qm,Option.map,Zr]) (by rw [Zf];omega)
  have tt:Qgy ((iT r).map fun _=>T.bl true)=some ((iT r).map fun _=>true):=Qor
  have ir:((iT r).map fun _=>true).all id=true:=Qs4
  have eq:eqO (.tup (iT r)) (.tup (iT r))=some true:=Q4t r
  show Qd6 _ (exS _ Qi5 [.fz (.tup (iT r)),.fz (.tup (iT r))])=_
  generalize (iT r).map (fun _=>T.bl true)=L1 at q tt
  generalize (iT r).map (fun _=>true)=L2' at tt ir
  generalize iT r=RR at q eq ⊢
  simp only [Qac,Qbm,Qa4,Qn,Q2,Qc,Qb,Q0,Qaz,Qgp,Qay,Qax,cont,Qaw,uc7,Qdy,Qw,yBl,Qam,yIf,Qco,Qbc,Qb6,Qlx,Qu6,Q0f,Qq3,Qlz,Qhs,Zar,Zam,Qf6,Zr,Qq1,uc1,eq,Qdh,Qp,q,yC1,Qs,yC2,yBi,Qc3,Qa2,Out.opt,ub3,Option.map,tt,ir,yB,Qd5,Qbf,Qbt,Qbd,Qbn,Qaa]
def Q99 {n:Nat}:∀ r∈ext n n [],(∀ y∈r,y<n)∧r.length=n:=fun r hr=>by
 obtain ⟨t,e,p⟩:=Qpd (n:=n) n (row:=[]) (by rw [Qkl,Zac]) hr
 rw [Zbn] at e
 subst e
 rw [Qkl] at p
 exact ⟨fun y hy=>Zab.mp (p.mem_iff.mp hy),by rw [p.length_eq,Zac]⟩
def Qvs {n:Nat} (h1:1≤n) (h4:n≤4):(ext n n []).length≤24:=by
 match n,h1,h4 with
 | 1,_,_=>decide +kernel
 | 2,_,_=>decide +kernel
 | 3,_,_=>decide +kernel
 | 4,_,_=>decide +kernel
def L4:Nat→List (List Nat)
 | 0=>[[]]
 | m+1=>(List.range 4).flatMap fun x=>(L4 m).map (x :: ·)
def Q1q:∀ {r:List Nat},(∀ y∈r,y<4)→r∈L4 r.length
 | [],_=>.head _
 | x::r,h=>Za3.mpr ⟨x,Zab.mpr (h x (.head _)),Z0.mpr ⟨r,Q1q fun y hy=>h y (.tail _ hy),rfl⟩⟩
def Qaaa:((List.range 4).all fun m=>(L4 (m+1)).all fun r=>!(decide r.Nodup&&r.tail.all fun y=>decide (headN r<y))||rings4.contains r)=true:=by decide +kernel
def Qvt {lk:Nat→Nat→Bool} {n:Nat}:∀ l,∀ r∈Rn lk n l,∀ y∈r.tail,headN r<y
 | 0,r,hr,y,hy=>by
  obtain ⟨c,_,rfl⟩:=Z0.mp hr
  cases hy
 | l+1,r,hr,y,hy=>by
  obtain ⟨a,ha,hr⟩:=Za3.mp hr
  obtain ⟨c,hc,rfl⟩:=Z0.mp hr
  have am:=Qcq ((Qfr n l).len a ha)
  rw [Qhd a c am]
  unfold cnd at hc
  rw [Zax,Zm,Zm] at hc
  cases a with
  | nil=>exact absurd rfl am
  | cons x a =>
   have hy:y∈a++[c]:=hy
   rcases Zah.mp hy with z | z
   ·exact Qvt l _ ha y z
   ·rw [Zx.mp z];exact Zbj hc.2.1.1
def Qvu {lk:Nat→Nat→Bool} {n:Nat} (h4:n≤4):(fnd lk n).length<64:=by
 have ax:∀ r∈fnd lk n,r∈rings4:=fun r hr=>by
  obtain ⟨l,hl,h1,_⟩:=Qgj.mp hr
  obtain ⟨nd,hb⟩:=Qn0 lk n l r h1
  have m:=Q1q (r:=r) fun y hy=>by have:=hb y hy;omega
  rw [(Qfr n l).len r h1] at m
  have q:=Z1.mp (Z1.mp Qaaa l (Zab.mpr (by omega))) r m
  rw [Zaf nd,Z1.mpr fun y hy=>Zaf (Qvt l r h1 y hy)] at q
  simpa using q
 have gen:∀ (L K:List (List Nat)),L.Nodup→(∀ x∈L,x∈K)→L.length≤K.length:=by
  intro L
  induction L with
  | nil=>exact fun K _ _=>Zbb _
  | cons x L ih =>
   intro K nd hK
   have hx:=hK x (.head _)
   obtain ⟨n1,n2⟩:=Zbm.mp nd
   have:=ih (K.erase x) n2 fun y hy=>(List.mem_erase_of_ne (fun e=>n1 (by rw [←e];exact hy))).mpr (hK y (.tail _ hy))
   rw [Zaj hx] at this
   have:=List.length_pos_of_mem hx
   rw [Zh]
   omega
 have:=gen (fnd lk n) rings4 (Q00 n) ax
 have:rings4.length=24:=rfl
 omega
def Qn1:∀ S:List (List Nat),Qe6 (S.map fun r=>T.tup [.int (r.length:Int),Qg r])=some (S.map kz)
 | []=>rfl
 | r::S=>by
  show (match Qb8 (iT r),Qe6 (S.map fun r=>T.tup [.int (r.length:Int),Qg r]) with | some k,some ks=>some (((r.length:Int)::k)::ks) | _,_=>none)=_
  rw [Qpm,Qn1 S]
  rfl
def Q1r (r:List Nat):(iOf (Qg r)).map Int.toNat=r:=by
 show ((iT r).map Q1b).map Int.toNat=r
 unfold iT
 rw [Zbz,Zbz]
 exact map_id'' (fun x=>Zaw x) r
section
variable {n:Nat} {Ms:List Tb} (h:Tabs n Ms)
include h
abbrev Qvv:S:=.setF 1 (.comp (.seq (.call 18 (.cons (.bi .len (.cons (.ix (.var 0) (.int 0)) .nil)) .nil))) [none,some 0] (.nm 0) (.cons (.call 19 (.cons (.var 1) (.cons (.var 0) .nil))) .nil) (.var 0))
def rt_1 (k:Nat):exS (cfn (k+2)) Qvv [.fz (Qd Ms),.un,.un,.un,.un,.un]=.nx [.fz (Qd Ms),.fz (.lst (((ext n n []).filter (Qdw (lkM Ms))).map Qg)),.un,.un,.un,.un]:=by
 obtain ⟨M0,a0,l0⟩:=Qxb h
 have e1:=Q1i (k+1) h.n1 h.n4
 have hw:evW (cfn (k+2)) (.seq (.call 18 (.cons (.bi .len (.cons (.ix (.var 0) (.int 0)) .nil)) .nil))) [.fz (Qd Ms),.un,.un,.un,.un,.un]=.ok ((ext n n []).map Qg,none) [.fz (Qd Ms),.un,.un,.un,.un,.un]:=by
  generalize (ext n n []).map Qg=EE at e1 ⊢
  simp only [Qgq,Qaj,Qp,Qdh,Qf4,Qn,Q2,Qb,Q0,Qfm,Qa3,Qfl,Qfk,cont,Qfj,ui1,a0,yC1,Qs,yC2,yBi,Qc3,Qa2,Out.opt,ub2,Zf,l0,Q8,Qz,Qah,Q1,Qaq,Qag,e1,Qa9,Qo,Q4,L2.Qm,Option.map,Zr,Qjo,Qfo,Qfn,Qcc,Qfx]
 have q:=Qi0 (cf:=cfn (k+2)) (js:=[none,some 0]) (cs:=.cons (.call 19 (.cons (.var 1) (.cons (.var 0) .nil))) .nil) (e:=.var 0) (rest:=[.fz (Qd Ms)]) (g:=fun t=>Qdw (lkM Ms) ((iOf t).map Int.toNat)) (f:=id) hw rfl rfl rfl (fun t ht=>by
  obtain ⟨r,hr,rfl⟩:=Z0.mp ht
  have e:=Q93 h k (Q99 r hr).1
  rw [Q1r,Qu8]
  generalize Qg r=RR at e ⊢
  simp only [Qaj,Qp,Qn,Q2,Qc,Qb,Q0,yC1,Qs,yC2,Q8,Qz,Qah,Q1,Qaq,Qag,e,Qa9,Qo,Q4,L2.Qm,Option.map,Zr,Qw,yBl]) (fun t ht _=>⟨.fz t,by simp only [Qn,Q2,Qb],rfl⟩) (by have:=Qvs h.n1 h.n4;rw [Zf];omega)
 have em:(((ext n n []).map Qg).filter fun t=>Qdw (lkM Ms) ((iOf t).map Int.toNat)).map id=((ext n n []).filter (Qdw (lkM Ms))).map Qg:=by
  rw [map_id,List.filter_map]
  refine congrArg (List.map Qg) (Zel fun r _=>?_)
  show Qdw (lkM Ms) ((iOf (Qg r)).map Int.toNat)=Qdw (lkM Ms) r
  rw [Q1r]
 rw [em] at q
 generalize ((ext n n []).filter (Qdw (lkM Ms))).map Qg=FF at q ⊢
 show exS (cfn (k+2)) (.setF 1 (.comp _ [none,some 0] (.nm 0) _ _)) _=_
 simp only [Qbe,q,Qam,Qcb,Qbj,frz,Qae,Qbi,Zh,Zu,Nat.reduceAdd,Nat.reduceLT,Qc,Qb,List.set,Zr]
abbrev Qrz:S:=.setF 2 (.bi .srtP (.cons (.comp (.seq (.call 20 (.cons (.var 0) .nil))) [none] (.nm 0) .nil (.tup (.cons (.bi .len (.cons (.var 0) .nil)) (.cons (.var 0) .nil)))) .nil))
def rt_2 (k:Nat) {s1:Slot}:exS (cfn (k+2)) Qrz [.fz (Qd Ms),s1,.un,.un,.un,.un]=.nx [.fz (Qd Ms),s1,.fz (.lst ((Qdo ((fnd (lkM Ms) n).map kz)).map Qcu)),.un,.un,.un]:=by
 have e1:=Q4s h k
 have fl:=Qvu (lk:=lkM Ms) h.n4
 have hw:evW (cfn (k+2)) (.seq (.call 20 (.cons (.var 0) .nil))) [.fz (Qd Ms),s1,.un,.un,.un,.un]=.ok ((fnd (lkM Ms) n).map Qg,none) [.fz (Qd Ms),s1,.un,.un,.un,.un]:=by
  generalize (fnd (lkM Ms) n).map Qg=EE at e1 ⊢
  simp only [Qgq,Qaj,Qp,Qn,Q2,Qb,Q0,yC1,Qs,yC2,Q8,Qz,Qah,Q1,Qaq,Qag,e1,Qa9,Qo,Q4,L2.Qm,Option.map,Zr,Qjo,Qfo,cont,Qfn,Qcc,Qfx]
 have z2:(2:Nat)≤100000:=by decide
 have q:=Qcd (cf:=cfn (k+2)) (js:=[none]) (e:=.tup (.cons (.bi .len (.cons (.var 0) .nil)) (.cons (.var 0) .nil))) (rest:=[]) (f:=fun t=>T.tup [.int ((iOf t).length:Int),t]) hw rfl rfl rfl (fun t ht=>by
  obtain ⟨r,hr,rfl⟩:=Z0.mp ht
  refine ⟨.fz (.tup [.int ((iOf (Qg r)).length:Int),Qg r]),?_,rfl⟩
  have el:(iOf (Qg r)).length=(iT r).length:=by show ((iT r).map Q1b).length=_;rw [Zf]
  rw [el]
  show evE _ _ [.fz (.tup (iT r))]=.ok (.fz (.tup [.int ((iT r).length:Int),.tup (iT r)])) [.fz (.tup (iT r))]
  generalize iT r=RR
  simp only [Qhx,Qp,Qdh,Qn,Q2,Qb,Q0,yC1,Qs,yC2,yBi,Qc3,Qa2,cont,Out.opt,ub2,Qlw,Qbw,frz,Zh,Zu,Nat.reduceAdd,z2,Zr]) (by rw [Zf];omega)
 have em:((fnd (lkM Ms) n).map Qg).map (fun t=>T.tup [.int ((iOf t).length:Int),t])=(fnd (lkM Ms) n).map fun r=>T.tup [.int (r.length:Int),Qg r]:=by
  rw [Zbz]
  refine Zck fun r _=>?_
  show T.tup [.int ((iOf (Qg r)).length:Int),Qg r]=_
  have el:(iOf (Qg r)).length=r.length:=by show ((iT r).map Q1b).length=_;rw [Zf,Zf]
  rw [el]
 rw [em] at q
 have es:Qke .srtP [.lst ((fnd (lkM Ms) n).map fun r=>T.tup [.int (r.length:Int),Qg r])]=some (.ow (.lst ((Qdo ((fnd (lkM Ms) n).map kz)).map Qcu))):=by
  show (match Qe6 ((fnd (lkM Ms) n).map fun r=>T.tup [.int (r.length:Int),Qg r]) with | some ks=>(if ks.length<64 then some (PV.ow (.lst ((Qdo ks).map Qcu))) else none) | none=>none)=_
  rw [Qn1]
  dsimp only
  rw [Zb (by rw [Zf];exact fl)]
 generalize (Qdo ((fnd (lkM Ms) n).map kz)).map Qcu=SS at es ⊢
 generalize ((fnd (lkM Ms) n).map fun r=>T.tup [.int (r.length:Int),Qg r])=PP at q es
 show exS (cfn (k+2)) (.setF 2 (.bi .srtP (.cons (.comp _ [none] (.nm 0) .nil _) .nil))) _=_
 simp only [Qbe,Qdh,Qp,q,Q0,yC1,Qs,yC2,yBi,Qc3,Qa2,cont,Out.opt,es,Qam,Qcb,Qbj,frz,Qae,Qbi,Zh,Zu,Nat.reduceAdd,Nat.reduceLT,Qc,Qb,List.set,Zr]
abbrev Q1s:S:=.setF 3 (.ix (.bin .add (.var 1) (.lst (.cons .non .nil))) (.int 0))
omit h in
def rt_3 {cf:CF} {S:List (List Nat)} (hz:S.length≤1000) {s0 s2:Slot}:exS cf Q1s [s0,.fz (.lst (S.map Qg)),s2,.un,.un,.un]=.nx [s0,.fz (.lst (S.map Qg)),s2,.fz (oR S.head?),.un,.un]:=by
 have z1:(1:Nat)≤100000:=by decide
 have e1:opB .add (.lst (S.map Qg)) (.lst [.non])=some (.ow (.lst (S.map Qg++[.non]))):=Q1g (by rw [Zf];show _+1≤_;omega)
 have e2:atI (S.map Qg++[.non]) 0=some (oR S.head?):=by
  refine Qcs (j:=0) ?_
  cases S <;> rfl
 generalize S.map Qg++[T.non]=L2' at e1 e2
 generalize S.map Qg=L1 at e1 ⊢
 generalize oR S.head?=OO at e2 ⊢
 simp only [Qbe,Qf4,Qds,Qn,Q2,Qc,Qb,Q0,Qda,Qc7,Qp,Qgp,yC1,Qs,yC2,Qf3,Qbw,frz,Zh,Zu,Nat.reduceAdd,z1,Zr,Qc9,Qc8,cont,Out.opt,e1,Qfm,Qa3,Qfl,Qfk,Qfj,ui1,e2,Qam,Qcb,Qbj,Qae,Qbi,Nat.reduceLT,List.set]
abbrev Q1t:S:=.setF 4 (.ix (.ix (.bin .add (.var 2) (.lst (.cons (.tup (.cons (.int 0) (.cons .non .nil))) .nil))) (.int 0)) (.int 1))
def rt_4 {cf:CF} {s0 s1 s3:Slot}:exS cf Q1t [s0,s1,.fz (.lst ((Qdo ((fnd (lkM Ms) n).map kz)).map Qcu)),s3,.un,.un]=.nx [s0,s1,.fz (.lst ((Qdo ((fnd (lkM Ms) n).map kz)).map Qcu)),s3,.fz (oR (rg (lkM Ms) n n 0)),.un]:=by
 have z1:(1:Nat)≤100000:=by decide
 have z2:(2:Nat)≤100000:=by decide
 have sf:=Qw8 (lk:=lkM Ms) n
 have sl:(Qdo ((fnd (lkM Ms) n).map kz)).length<64:=by rw [Qqp,Zf];exact Qvu h.n4
 have ne:∀ k∈Qdo ((fnd (lkM Ms) n).map kz),∃ r:List Nat,k=kz r:=fun k hk=>by
  obtain ⟨r,_,e⟩:=Z0.mp ((Qnb (Q56 n)).mem_iff.mp hk)
  exact ⟨r,e.symm⟩
 generalize Qdo ((fnd (lkM Ms) n).map kz)=KK at sf sl ne
 have e1:opB .add (.lst (KK.map Qcu)) (.lst [.tup [.int 0,.non]])=some (.ow (.lst (KK.map Qcu++[.tup [.int 0,.non]]))):=Q1g (by rw [Zf];show _+1≤_;omega)
 obtain ⟨a,e2⟩:∃ a,atI (KK.map Qcu++[.tup [.int 0,.non]]) 0=some (.tup [a,oR (rg (lkM Ms) n n 0)]):=by
  cases KK with
  | nil =>
   have:rg (lkM Ms) n n 0=none:=by
    cases hr:rg (lkM Ms) n n 0 with
    | none=>rfl
    | some r=>rw [hr] at sf;cases sf
   rw [this]
   exact ⟨.int 0,Qcs (j:=0) rfl⟩
  | cons k KK =>
   obtain ⟨r,rfl⟩:=ne k (.head _)
   cases hr:rg (lkM Ms) n n 0 with
   | none=>rw [hr] at sf;cases sf
   | some r' =>
    rw [hr] at sf
    have:r=r':=Q01 (Zo sf)
    subst this
    refine ⟨.int (r.length:Int),Qcs (j:=0) ?_⟩
    show some (T.tup [.int (r.length:Int),.tup ((zi r).map T.int)])=some (.tup [_,.tup (iT r)])
    unfold zi iT
    rw [Zbz]
    rfl
 have e3:atI [a,oR (rg (lkM Ms) n n 0)] 1=some (oR (rg (lkM Ms) n n 0)):=Qcs (j:=1) rfl
 generalize KK.map Qcu++[T.tup [.int 0,.non]]=L2' at e1 e2
 generalize KK.map Qcu=L1 at e1 ⊢
 generalize oR (rg (lkM Ms) n n 0)=OO at e2 e3 ⊢
 simp only [Qbe,Qf4,Qds,Qn,Q2,Qc,Qb,Q0,Qda,Qc7,Qp,Qhx,Qa3,yC1,Qgp,Qs,yC2,Qlw,Qbw,frz,Zh,Zu,Nat.reduceAdd,z2,Zr,Qf3,z1,Qc9,Qc8,cont,Out.opt,e1,Qfm,Qfl,Qfk,Qfj,ui1,e2,ui2,e3,Qam,Qcb,Qbj,Qae,Qbi,Nat.reduceLT,List.set]
abbrev Qvw:S:=.ite (.or (.not (.call 21 (.cons (.call 10 (.cons (.var 0) .nil)) (.cons (.var 3) .nil)))) (.not (.call 21 (.cons (.call 12 (.cons (.var 0) .nil)) (.cons (.var 4) .nil))))) (.ret (.bl false)) .nil
def Qkt (k:Nat):cfn (k+8) 22 [.fz (Qd Ms)]=.ok (.fz (.bl true)) [.non]:=by
 have n4:=h.n4
 have w1:=rt_1 h (k+5)
 have w2:=rt_2 h (k+5) (s1:=.fz (.lst (((ext n n []).filter (Qdw (lkM Ms))).map Qg)))
 have w3:=rt_3 (cf:=cfn (k+7)) (S:=(ext n n []).filter (Qdw (lkM Ms))) (by have:=Qvs h.n1 h.n4;have:=Zb6 (Qdw (lkM Ms)) (ext n n []);omega) (s0:=.fz (Qd Ms)) (s2:=.fz (.lst ((Qdo ((fnd (lkM Ms) n).map kz)).map Qcu)))
 rw [List.head?_filter,Q0y] at w3
 have w4:=rt_4 h (cf:=cfn (k+7)) (s0:=.fz (Qd Ms)) (s1:=.fz (.lst (((ext n n []).filter (Qdw (lkM Ms))).map Qg))) (s3:=.fz (oR (gr (lkM Ms) n (List.range n))))
 have e1:=Qtu h k
 have e2:=Qxd h k
 have e3:=e_is (k+5) (gr (lkM Ms) n (List.range n)) (fun r hr=>by have:=(Qpc n Zac hr).1.length_eq;rw [Zac] at this;omega)
 have ax:=Qi9 (lk:=lkM Ms) n n 0 (by omega) fun i hi=>absurd hi (by omega)
 have e4:=e_is (k+5) (rg (lkM Ms) n n 0) (fun r hr=>by
  rw [hr] at ax
  obtain ⟨l,hl,h1,_⟩:=Qgj.mp ax.1
  have:=(Qfr n l).len r h1
  omega)
 have one:=Q9s (lk:=lkM Ms) n4
 have r2:∀ ρ,Qq4 (.fz (.int 2)) ρ=.ok ([T.int 0,T.int 1],none) ρ:=fun ρ=>rngA (by decide)
 generalize (.lst (((ext n n []).filter (Qdw (lkM Ms))).map Qg):T)=V1 at w1 w2 w3 w4
 generalize (.lst ((Qdo ((fnd (lkM Ms) n).map kz)).map Qcu):T)=V2 at w2 w3 w4
 have fin:∀ (o p:Option (List Nat)),o.isNone = !p.isNone→evE (cfn (k+7)) (.cmp .ne (.cmp .isn (.var 3) .non) (.cmp .isn (.var 4) .non)) [.fz (Qd Ms),.fz V1,.fz V2,.fz (oR o),.fz (oR p),.fz (.int 1)]=.ok (.fz (.bl true)) [.fz (Qd Ms),.fz V1,.fz V2,.fz (oR o),.fz (oR p),.fz (.int 1)]:=fun o p iu=>by
  cases o with
  | none =>
   cases p with
   | none=>cases iu
   | some r =>
    show evE _ _ [.fz (Qd Ms),.fz V1,.fz V2,.fz .non,.fz (.tup (iT r)),.fz (.int 1)]=.ok _ [.fz (Qd Ms),.fz V1,.fz V2,.fz .non,.fz (.tup (iT r)),.fz (.int 1)]
    generalize iT r=RR
    simp only [Qa4,Qn,Q2,Qc,Qb,Q0,Qaz,Qgp,Qay,Qax,cont,Qaw,uc7,Qdy,uc2,Option.map,Q0o,reduceCtorEq,Zcm,Zar]
  | some s =>
   cases p with
   | none =>
    show evE _ _ [.fz (Qd Ms),.fz V1,.fz V2,.fz (.tup (iT s)),.fz .non,.fz (.int 1)]=.ok _ [.fz (Qd Ms),.fz V1,.fz V2,.fz (.tup (iT s)),.fz .non,.fz (.int 1)]
    generalize iT s=RR
    simp only [Qa4,Qn,Q2,Qc,Qb,Q0,Qaz,Qgp,Qay,Qax,cont,Qaw,uc7,Qdy,uc2,Option.map,Q0o,Zaa,Zcm,Zar]
   | some r=>cases iu
 have fin:=fin _ _ one
 generalize oR (gr (lkM Ms) n (List.range n))=O1 at w3 w4 e1 e3 fin
 generalize oR (rg (lkM Ms) n n 0)=O2 at w4 e2 e4 fin
 have tn:∀ s:Slot,exS (cfn (k+7)) Qvw [.fz (Qd Ms),.fz V1,.fz V2,.fz O1,.fz O2,s]=.nx [.fz (Qd Ms),.fz V1,.fz V2,.fz O1,.fz O2,s]:=fun s=>by
  simp only [Qbm,Qq2,Qi1,Qaj,Qp,Qn,Q2,Qb,Q0,yC1,Qs,yC2,Q8,Qz,Qah,Q1,Qaq,Qag,e1,Qa9,Qo,Q4,L2.Qm,Option.map,Zr,Qc,e3,Qw,yBl,Qmo,Zat,yOr,e2,e4,yB,Qam,yIf,Qco]
 have el:Qap (.nm 5) (exS (cfn (k+7)) Qvw) [T.int 0,T.int 1] [.fz (Qd Ms),.fz V1,.fz V2,.fz O1,.fz O2,.un]=.nx [.fz (Qd Ms),.fz V1,.fz V2,.fz O1,.fz O2,.fz (.int 1)]:=by
  unfold Qap
  rw [show Qcl (.nm 5) (.int 0) [.fz (Qd Ms),.fz V1,.fz V2,.fz O1,.fz O2,.un]=some [.fz (Qd Ms),.fz V1,.fz V2,.fz O1,.fz O2,.fz (.int 0)] from rfl]
  dsimp only
  rw [tn]
  dsimp only
  unfold Qap
  rw [show Qcl (.nm 5) (.int 1) [.fz (Qd Ms),.fz V1,.fz V2,.fz O1,.fz O2,.fz (.int 0)]=some [.fz (Qd Ms),.fz V1,.fz V2,.fz O1,.fz O2,.fz (.int 1)] from rfl]
  dsimp only
  rw [tn]
  dsimp only
  unfold Qap
  rfl
 show Qcv (cfn (k+7)) ⟨1,6,Qj9⟩ _=_
 rw [Qcp rfl]
 show Qd6 _ (exS _ (.seq Qvv (.seq Qrz (.seq Q1s (.seq Q1t (.seq (.for_ _ (.nm 5) Qvw) (.ret (.cmp .ne (.cmp .isn (.var 3) .non) (.cmp .isn (.var 4) .non)))))))) [.fz (Qd Ms),.un,.un,.un,.un,.un])=_
 rw [Qac,w1,Qbc,Qac,w2,Qbc,Qac,w3,Qbc,Qac,w4,Qbc]
 generalize Qvw=B0 at el ⊢
 generalize (E.cmp .ne (.cmp .isn (.var 3) .non) (.cmp .isn (.var 4) .non))=E0 at fin ⊢
 simp only [Qac,Qdb,Qf5,Qa3,Q0,r2,Qam,Qfp,el,Qbs,Qbc,Qb6,fin,Qd5,Qbf,Qbt,Qbd,Qbn,Qaa,Option.map]
end
abbrev Qku:S:=.ite (.not (.call 22 (.cons (.var 1) .nil))) (.ret (.bl false)) .nil
def Q1u {x:Int} (h0:0≤x) (h1:x≤1000):Tabs 1 [[[x]]]:=⟨by decide,by decide,Zi 1,(show 1≤4 by decide),fun M hM=>by
 rw [Zx.mp hM]
 exact ⟨rfl,fun r hr=>by rw [Zx.mp hr];rfl,fun r hr y hy=>by rw [Zx.mp hr] at hy;rw [Zx.mp hy];exact h0,fun r hr y hy=>by rw [Zx.mp hr] at hy;rw [Zx.mp hy];omega⟩⟩
def sq_2 {a b c d:Int} (h:∀ x∈[a,b,c,d],0≤x∧x≤1000):Sq 2 [[a,b],[c,d]]:=by
 have ha:=h a (by simp)
 have hb:=h b (by simp)
 have hc:=h c (by simp)
 have hd:=h d (by simp)
 refine ⟨rfl,fun r hr=>?_,fun r hr x hx=>?_,fun r hr x hx=>?_⟩
 ·simp only [Z7,Zbw,Zdr] at hr
  rcases hr with rfl | rfl <;> rfl
 ·simp only [Z7,Zbw,Zdr] at hr
  rcases hr with rfl | rfl <;> simp only [Z7,Zbw,Zdr] at hx <;> rcases hx with rfl | rfl <;> omega
 ·simp only [Z7,Zbw,Zdr] at hr
  rcases hr with rfl | rfl <;> simp only [Z7,Zbw,Zdr] at hx <;> rcases hx with rfl | rfl <;> omega
def Qaab:Tabs 2 [[[0,1],[0,0]],[[0,0],[1,0]]]:=⟨by decide,by decide,by decide,by decide,fun M hM=>by
 simp only [Z7,Zbw,Zdr] at hM
 rcases hM with rfl | rfl <;> exact sq_2 (by decide)⟩
abbrev Qvx:E:=.lst (.cons (.lst (.cons (.tup (.cons (.tup (.cons (.int 0) .nil)) .nil)) .nil)) (.cons (.lst (.cons (.tup (.cons (.tup (.cons (.int 5) .nil)) .nil)) .nil)) (.cons (.lst (.cons (.tup (.cons (.tup (.cons (.int 0) (.cons (.int 1) .nil))) (.cons (.tup (.cons (.int 0) (.cons (.int 0) .nil))) .nil))) (.cons (.tup (.cons (.tup (.cons (.int 0) (.cons (.int 0) .nil))) (.cons (.tup (.cons (.int 1) (.cons (.int 0) .nil))) .nil))) .nil))) .nil)))
def Q4u {cf:CF} {A B C:T} (hA:A=.lst [.tup [.tup [.int 0]]]) (hB:B=.lst [.tup [.tup [.int 5]]]) (hC:C=.lst [.tup [.tup [.int 0,.int 1],.tup [.int 0,.int 0]],.tup [.tup [.int 0,.int 0],.tup [.int 1,.int 0]]])
  (e1:cf 22 [.fz A]=.ok (.fz (.bl true)) [.non]) (e2:cf 22 [.fz B]=.ok (.fz (.bl true)) [.non]) (e3:cf 22 [.fz C]=.ok (.fz (.bl true)) [.non]) (a:Fw):∃ ρ',exS cf Q0w (.pin a::uns 2)=.nx (.pin a::ρ')∧ρ'.length=2:=by
 have z1:(1:Nat)≤100000:=by decide
 have z2:(2:Nat)≤100000:=by decide
 have z3:(3:Nat)≤100000:=by decide
 have ew:evW cf (.seq Qvx) [.pin a,.un,.un]=.ok ([A,B,C],none) [.pin a,.un,.un]:=by
  subst hA hB hC
  simp only [Qgq,Qc7,Qp,Qhx,Qa3,Q0,yC1,Qs,yC2,Qlw,Qbw,frz,Zh,Zu,Nat.reduceAdd,z1,Zr,Qf3,z2,z3,Qjo,Qfo,cont,Qfn,Qcc,Qfx]
 have t:∀ X:T,cf 22 [.fz X]=.ok (.fz (.bl true)) [.non]→exS cf Qku [.pin a,.fz X,.un]=.nx [.pin a,.fz X,.un]:=fun X e=>by
  simp only [Qbm,Qi1,Qaj,Qp,Qn,Q2,Qc,Qb,Q0,yC1,Qs,yC2,Q8,Qz,Qah,Q1,Qaq,Qag,e,Qa9,Qo,Q4,L2.Qm,Option.map,Zr,Qw,yBl,Qmo,Zat,Qam,yIf,Qco]
 have el:Qap (.nm 1) (exS cf Qku) [A,B,C] [.pin a,.un,.un]=.nx [.pin a,.fz C,.un]:=by
  unfold Qap
  rw [show Qcl (.nm 1) A [.pin a,.un,.un]=some [.pin a,.fz A,.un] from rfl]
  dsimp only
  rw [t A e1]
  dsimp only
  unfold Qap
  rw [show Qcl (.nm 1) B [.pin a,.fz A,.un]=some [.pin a,.fz B,.un] from rfl]
  dsimp only
  rw [t B e2]
  dsimp only
  unfold Qap
  rw [show Qcl (.nm 1) C [.pin a,.fz B,.un]=some [.pin a,.fz C,.un] from rfl]
  dsimp only
  rw [t C e3]
  dsimp only
  unfold Qap
  rfl
 refine ⟨[.fz C,.un],?_,rfl⟩
 show exS cf (.for_ (.seq Qvx) (.nm 1) Qku) [.pin a,.un,.un]=_
 rw [Qdb,ew]
 generalize Qku=B0 at el ⊢
 simp only [Qam,Qfp,el,Qbs]
def Q4v:∀ a:Fw,∃ ρ',exS (cfn 14) Q0w (.pin a::uns 2)=.nx (.pin a::ρ')∧ρ'.length=2:=fun a =>
 Q4u (cf:=cfn (6+8)) (A:=Qd [[[0]]]) (B:=Qd [[[5]]]) (C:=Qd [[[0,1],[0,0]],[[0,0],[1,0]]]) rfl rfl rfl (Qkt (Q1u (by decide) (by decide)) 6) (Qkt (Q1u (by decide) (by decide)) 6) (Qkt Qaab 6) a
def Q1v:∀ m:Int,∃ ρ',exS (cfn 14) Qtk ((uns 3).set 2 (.fz (.int m)))=.nx ρ'∧ρ'.length=3:=by
 intro m
 obtain ⟨q,hq,e0⟩:=Qadr 13 m
 obtain ⟨n,Ms,q1,hM,p1,e1⟩:=Q4h 12 hq
 have e2:=Qkt hM 6
 refine ⟨[.un,.un,.fz (.int m)],?_,rfl⟩
 show exS (cfn 14) Qtk [.un,.un,.fz (.int m)]=_
 have e3:evE (cfn 14) (.tcall 16 (.cons (.call 13 (.cons (.var 2) .nil)) .nil)) [.un,.un,.fz (.int m)]=.ok (.ow (Qd Ms)) [.un,.un,.fz (.int m)]:=by
  have ea:evE (cfn 14) (.call 13 (.cons (.var 2) .nil)) [.un,.un,.fz (.int m)]=.ok (.ow q) [.un,.un,.fz (.int m)]:=by
   simp only [Qaj,Qp,Qn,Q2,Qc,Qb,Q0,yC1,Qs,yC2,Q8,Qz,Qah,Q1,Qaq,Qag,e0,Qa9,Qo,Q4,L2.Qm,Option.map,Zr]
  have h:evA (cfn 14) (.cons (.call 13 (.cons (.var 2) .nil)) .nil) [.un,.un,.fz (.int m)]=.ok [.ow q] [.un,.un,.fz (.int m)]:=by
   rw [evA,ea]
   have e0:evA (cfn 14) .nil [.un,.un,.fz (.int m)]=.ok [] [.un,.un,.fz (.int m)]:=by rw [evA]
   simp only [Out.bind,e0]
  have e1:cfn 14 16 [.ml q]=.ok (.ow (Qd Ms)) [q1]:=e1
  rw [Q33,h]
  show Qk8 (cfn 14) 16 [.ow q] [.un,.un,.fz (.int m)]=_
  unfold Qk8
  show (match cfn 14 16 [.ml q] with | .ok r _=>Out.ok r [.un,.un,.fz (.int m)] | .xn x _=>.xn x [.un,.un,.fz (.int m)] | .no=>.no)=_
  rw [e1]
 have e2:cfn 14 22 [.fz (Qd Ms)]=.ok (.fz (.bl true)) [.non]:=e2
 generalize Qd Ms=X at e2 e3
 simp only [Qbm,Qi1,Qaj,Qp,e3,Q0,yC1,Qs,yC2,Q8,Qz,Qah,Q1,Qaq,Qag,e2,Qa9,Qo,Q4,L2.Qm,Option.map,Zr,Qw,yBl,Qmo,Zat,Qam,yIf,Qco]
open PySem L2
section
variable {P:Fu} {w:Ft} {K:Fz} {mg:Str→Option Fx} {base:Fq}
def ok_q {x:Str} {st:Fs} {f:Fw} {fd:FuncData} {N ps:List Str} {k:Nat} {sp:Sp} (F:Fun K x x st f fd) (S:FnScope N ps (Qi st)) (len:∀ vs H Q E,sp vs H Q E→vs.length=ps.length)
  (aw:∀ (ag:Fx) (A:Fv) (outer:List Env) (s:Fy) (H:Hp) (vs:List V) (Q:VK) (E:XK),Room k (A.deeper (PyProof.Rows.envOfC x (Qi st) s.heap.objs.size f ag))→sp vs H Q E →
   ∃ t,QB (Qhp (fun _=>true) CX0 P w K mg base N x (Qi st) f ag A outer s H E).nox (Qbh st) t∧t { nx:=fun _ H'=>Q .non H',rt:=Q } (Qb2 N vs) H):FnOk P w K mg base CX0 (k+1) f fd ps sp :=
 F.ok S len fun ag A outer s H vs Q E hr hs=>let ⟨t,a,b⟩:=aw ag A outer s H vs Q E hr hs;⟨t,a.h,b⟩
def Qaac {h:Fq} {x:Str} {st:Fs} {f:Fw} {oc:Fx} {od an:Option Fw} {bn:Array (Option Fx)} {kV aG pm ag ct:Fx} (X:K.In h) (G:h.Ns mainGlobals mg) (a:PySem.W.nsIn K mainGlobals x=some (some (.ref f)))
  (l:K.lookup f=some ⟨oc,od,.func (PySem.W.fnOf x x (Qd0 st) (Qbh st) (Qi st) .none kV aG pm an ag ct),bn⟩) (c:PySem.W.codeIn K ag x=true) (k:PySem.W.keepIn K (.ref f)=true):Dfn K mg x st:=⟨⟨f,_,Q7o l c k,PySem.W.mg_of X G a⟩⟩
def Q1w {h:Fq} {x:Str} {i:Int} {t:Tok} (X:K.In h) (G:h.Ns mainGlobals mg) (a:PySem.W.nsIn K mainGlobals x=some (some (.int i t))):∃ u,mg x=some u∧RelV (.int i) u:=⟨_,PySem.W.mg_of X G a,t,rfl⟩
def Q4w {lf:Fw} {ii:FuncData} (F:Fun K "law" "law" Qj6 lf ii) (s:Fy) (v:Fx):BindsTo s ii ⟨[v],[]⟩ [("_law_script",v)]:=by
 obtain ⟨oc,od,kV,aG,pm,an,ag,ct,bn,rfl,lk,aT⟩:=F.ex
 exact .of_eq (Q9p _ _ _ _ _ _ [v] rfl)
def Qbg {xs:List Df} {d:Df} (i:Nat) (h:xs[i]?=some d):d∈xs:=Z2 h
def Qaad {l:PySem.W.OpenLaw} {fa:Fw} (jK:mg "law" = some (.ref fa)) (tx:Txt K mg) (dl:Dfn K mg "law" Qj6) (dc:Dfn K mg "_law_cell" Qen) (D:∀ d∈ds,Dfn K mg d.x d.st) :
  ∃ fd:FuncData,(∀ (s:Fy) (v:Fx),BindsTo s fd ⟨[v],[]⟩ [("_law_script",v)])∧∀ base:Fq,K.In base→base.Ns mainGlobals mg→FnOk l.prog w K mg base CX0 30 fa fd ["_law_script"] (Qs3 K):=by
 obtain ⟨f,fd,F,m⟩:=dl.ex
 have e:=jK.symm.trans m
 cases e
 refine ⟨fd,Q4w F,fun base _ _=>?_⟩
 have A:Q9f (fun d=>DfOk K mg d∧Qa6 l.prog w K mg base ds d) ds:=⟨⟨⟨D _ (Qbg 0 rfl),Qra,Qrb,rfl,rfl⟩,Qte tx⟩,⟨⟨D _ (Qbg 1 rfl),Qwz,Qw0,rfl,rfl⟩,Q0u tx⟩,⟨⟨D _ (Qbg 2 rfl),Qs7,Qs8,rfl,rfl⟩,Qw5 tx⟩,⟨⟨D _ (Qbg 3 rfl),Qe8,Qmp,rfl,rfl⟩,Qo6 tx⟩,⟨⟨D _ (Qbg 4 rfl),Qmq,Qmr,rfl,rfl⟩,Qo7 tx⟩,⟨⟨D _ (Qbg 5 rfl),Qj5,Qrc,rfl,rfl⟩,Qtf tx⟩,⟨⟨D _ (Qbg 6 rfl),Qg5,Ql0,rfl,rfl⟩,Qmu tx⟩,⟨⟨D _ (Qbg 7 rfl),Qem,Qh7,rfl,rfl⟩,Qi7 tx⟩,⟨⟨D _ (Qbg 8 rfl),Qou,Qov,rfl,rfl⟩,Qrk tx⟩,⟨⟨D _ (Qbg 9 rfl),Qhy,Qms,rfl,rfl⟩,Qo8 tx⟩,⟨⟨D _ (Qbg 10 rfl),Qdt,Qrd,rfl,rfl⟩,Qtg tx⟩,⟨⟨D _ (Qbg 11 rfl),Qc0,Ql1,rfl,rfl⟩,Qmv tx⟩,⟨⟨D _ (Qbg 12 rfl),Qga,Qs9,rfl,rfl⟩,Qw6 tx⟩,⟨⟨D _ (Qbg 13 rfl),Ql2,Qta,rfl,rfl⟩,Qw7 tx⟩,⟨⟨D _ (Qbg 14 rfl),Qdu,Qrg,rfl,rfl⟩,Qth tx⟩,⟨⟨D _ (Qbg 15 rfl),Qow,Qox,rfl,rfl⟩,Qrl tx⟩,⟨⟨D _ (Qbg 16 rfl),Qai,Qoy,rfl,rfl⟩,Qrm tx⟩,⟨⟨D _ (Qbg 17 rfl),Qg6,Qrh,rfl,rfl⟩,Qti tx⟩,⟨⟨D _ (Qbg 18 rfl),Qbq,Qmt,rfl,rfl⟩,Qo9 tx⟩,⟨⟨D _ (Qbg 19 rfl),Qg7,Qri,rfl,rfl⟩,Qtj tx⟩,⟨⟨D _ (Qbg 20 rfl),Qar,Qoz,rfl,rfl⟩,Qrn tx⟩,⟨⟨D _ (Qbg 21 rfl),Qw1,Qw2,rfl,rfl⟩,Q0v tx⟩,⟨⟨D _ (Qbg 22 rfl),Qb9,Qo0,rfl,rfl⟩,Qro tx⟩,trivial⟩
 have hc:=Qnn (Q0e A) 14
 refine ok_q (k:=29) F Qtb (fun vs H Q E h=>?_) (fun ag A outer s H vs Q E hr h=>?_)
 ·obtain ⟨a,ns,rfl,_⟩:=h
  rfl
 ·exact ⟨_,Qadp tx hc (Qpa dc tx) hr,Q37 h (by decide) (by decide) Q4v Q1v⟩
end
end My
namespace PySem.W.Fast
def tw3815655422202964107:=()
def tw11450290506464730964:=()
def tw4552570244775410574:=()
def tw15254928710370204321:=()
def tw8259783720976158622:=()
def tw11612592882610460473:=()
def tw5229471245946717049:=()
def tw14872329884123938547:=()
def tw8268164699772368862:=()
def tw8566536232384788990:=()
def tw16728398499554365512:=()
def tw16695477215406754933:=()
def tw5391074281296871893:=()
def tw3002644054597614168:=()
def tw13551035768477573059:=()
def tw17916825933224067836:=()
def tw11270671047605571041:=()
def tw10502038130664975863:=()
def tw799134255847923293:=()
def tw11855726026807853826:=()
def tw7459032222941082677:=()
def tw16345496023882196443:=()
def tw6673976397059154787:=()
def tw5958633693339934159:=()
def tw14646615428288380042:=()
def tw1185484271730518038:=()
def tw6572452476510334678:=()
def tw14109497544716055152:=()
def tw8157573740218403272:=()
def tw5837912514869598485:=()
def tw7707081424908162678:=()
def tw16997824772615501663:=()
def tw3170345527751051220:=()
def tw375473329422439112:=()
def tw946378166480462707:=()
def tw9250711084041785276:=()
def tw9697382000873006342:=()
def tw2909146587982850239:=()
def tw1660204449399543850:=()
def tw15814165506989528062:=()
def tw2013803305406255265:=()
def tw17166020528705949089:=()
def tw15474302434614601664:=()
def tw17989697990880181226:=()
def tw13783014755129301989:=()
def tw14653669373377394525:=()
def tw2856958407735161376:=()
def tw3183806884011662566:=()
def tw8590866183462779462:=()
def tw16143815950769464204:=()
def tw11437884908711014965:=()
def tw7015333481121959467:=()
def tw6059147074150161647:=()
def tw6023192860625923378:=()
def tw16879752027041425156:=()
def tw2325186138995365642:=()
def tw5037661254760552455:=()
def tw11298131629875423396:=()
def tw1379448859863746549:=()
def tw15797045006170113278:=()
def tw10320674866120310090:=()
def tw1097364038751677016:=()
def tw9701299514561943438:=()
def tw10528504092551251387:=()
def tw7998862819736100400:=()
def tw14208096707130012582:=()
def tw10427334603203513536:=()
def tw16899660306183696633:=()
def tw9023159815286376447:=()
def tw6768851919555439024:=()
def tw9473633603645520461:=()
def tw16906955212965535847:=()
def tw11296648063248105153:=()
def tw17881618391129781558:=()
def tw6416827711532714487:=()
def tw2469097679839847214:=()
def tw17913882099445947829:=()
def tw18294939408024749888:=()
def tw4751931686419063171:=()
def tw16362018414602576087:=()
def tw13402414590825122983:=()
def tw5611781886498634218:=()
def tw1248408190467756224:=()
def tw8160449724796963710:=()
def tw17833344844771132679:=()
def tw2050995641447210538:=()
def tw15366895121213521315:=()
def tw16143512776177171489:=()
def tw15943925786680489856:=()
def tw8329049388666903469:=()
def tw17450722585232018762:=()
def tw11311381220370637575:=()
def tw17683976473498928917:=()
def tw7722049216204504541:=()
def tw7554096904627382496:=()
def tw3731163401347126449:=()
def tw3210636811422305911:=()
def tw5251471841654564639:=()
def tw4675092849264425284:=()
def tw7677389638513890749:=()
def tw4684571134598945699:=()
def tw7852954574966897280:=()
def tw5362189448539992235:=()
def tw15484648911533359993:=()
def tw4032321457460045609:=()
def tw802844677563925755:=()
def tw15024783537335809776:=()
def tw6723628030814511440:=()
def tw12550275213653250319:=()
def tw5751769123520987852:=()
def tw3244672270577651596:=()
def tw6665553797709405820:=()
def tw1975723290727049324:=()
def tw6994097417977185147:=()
def tw10488689919639172852:=()
def tw8332481450601856925:=()
def tw349443595204085941:=()
def tw9844139179670622525:=()
def tw10364515294046250404:=()
def tw7217160388855387529:=()
def tw17080531809986978207:=()
def tw6939470251718682032:=()
def tw14879598139742652622:=()
def tw11028704048317908938:=()
def tw2293256919789737891:=()
def tw2086751805357848379:=()
def tw2524386070814131379:=()
def tw5126654773422994886:=()
end PySem.W.Fast
open PySem PySem.W PyProof.Rows
set_option maxRecDepth 100000 in
set_option maxHeartbeats 0 in
theorem PySem.Challenge.cw_noughtways_k19_orders_and_rings_told_holds : PySem.Challenge.rw_noughtways_k19_orders_and_rings_told.Holds := by
 w_on;o_law;k_head;(case hw=>w_witness2)
 k_fill
 refine L2.Qxx (l:=PySem.Challenge.rw_noughtways_k19_orders_and_rings_told) (n:=63) (k:=30) (x := "_law_script") (CX:=L2.CX0) (sp:=L2.Qs3) rfl (by decide) rfl ⟨rfl,by decide,by decide,rfl⟩ (fun w h Y=>PySem.W.kIn_of Y) ?F ?S ?C ?T
 case F =>
  intro w mg fa h KX G hmg
  have ⟨d0,d1,d2,d3,d4,d5,d6,d7,d8,d9,d10,d11,d12,d13,d14,d15,d16,d17,d18,d19,d20,d21,d22,d23,d24⟩:L2.Dfn (L2.KOf KX) mg "law" My.Qj6∧L2.Dfn (L2.KOf KX) mg "_law_cell" My.Qen∧L2.Dfn (L2.KOf KX) mg "is_whole" My.Qf7∧L2.Dfn (L2.KOf KX) mg "is_row" My.Qi2∧L2.Dfn (L2.KOf KX) mg "is_grid" My.Qhk∧L2.Dfn (L2.KOf KX) mg "numbers_of" My.Qd7∧L2.Dfn (L2.KOf KX) mg "is_bounded" My.Qd8∧L2.Dfn (L2.KOf KX) mg "wrong_at" My.Qf8∧L2.Dfn (L2.KOf KX) mg "need_tables" My.Qdm∧L2.Dfn (L2.KOf KX) mg "need_none_below" My.Qbz∧L2.Dfn (L2.KOf KX) mg "is_linked" My.Qew∧L2.Dfn (L2.KOf KX) mg "first_free" My.Qd9∧L2.Dfn (L2.KOf KX) mg "order_of" My.Qf9∧L2.Dfn (L2.KOf KX) mg "longer_rows" My.Qdn∧L2.Dfn (L2.KOf KX) mg "ring_of" My.Qhl∧L2.Dfn (L2.KOf KX) mg "_law_pen" My.Qhm∧L2.Dfn (L2.KOf KX) mg "_law_draw" My.Qgb∧L2.Dfn (L2.KOf KX) mg "_law_whole" My.Qex∧L2.Dfn (L2.KOf KX) mg "_law_signs" My.Qey∧L2.Dfn (L2.KOf KX) mg "_law_next" My.Qgc∧L2.Dfn (L2.KOf KX) mg "_law_orders" My.Qea∧L2.Dfn (L2.KOf KX) mg "_law_fits" My.Qgd∧L2.Dfn (L2.KOf KX) mg "_law_rings" My.Qez∧L2.Dfn (L2.KOf KX) mg "_law_is" My.Qi3∧L2.Dfn (L2.KOf KX) mg "_law_right" My.Qe0:=by
   refine ⟨?_,?_,?_,?_,?_,?_,?_,?_,?_,?_,?_,?_,?_,?_,?_,?_,?_,?_,?_,?_,?_,?_,?_,?_,?_⟩ <;> (dsimp only [L2.KOf];refine' My.Qaac KX G ?a ?l ?c ?k;(case a=>k_is);(case l=>k_is);(case c=>k_is);(case k=>k_is))
  have ⟨z0,z1,z2,z3,z4,z5,z6,z7,z8,z9,z10,z11,z12,z13⟩:mg "abs" = none∧mg "all" = none∧mg "any" = none∧mg "bool" = none∧mg "divmod" = none∧mg "enumerate" = none∧mg "int" = none∧mg "isinstance" = none∧mg "len" = none∧mg "list" = none∧mg "max" = none∧mg "range" = none∧mg "sorted" = none∧mg "tuple" = none:=by
   refine ⟨?_,?_,?_,?_,?_,?_,?_,?_,?_,?_,?_,?_,?_,?_⟩ <;> (refine PySem.W.mg_none_of KX G ?_;(try dsimp only [L2.KOf]);k_is)
  have y0:∃ u,mg "MOST_ROWS" = some u∧L2.RelV (L2.V.int (4)) u:=by
   refine' My.Q1w (K:=L2.KOf KX) KX G ?a
   (case a=>(try dsimp only [L2.KOf]);k_is)
  have y1:∃ u,mg "MOST_TABLES" = some u∧L2.RelV (L2.V.int (4)) u:=by
   refine' My.Q1w (K:=L2.KOf KX) KX G ?a
   (case a=>(try dsimp only [L2.KOf]);k_is)
  have tx:My.Txt (L2.KOf KX) mg:=⟨z0,z1,z2,z3,z4,z5,z6,z7,z8,z9,z10,z11,z12,z13,y0,y1⟩
  refine My.Qaad hmg tx d0 d1 fun d hd=>?_
  simp only [My.ds,mem_cons,not_mem_nil,or_false] at hd
  rcases hd with rfl | rfl | rfl | rfl | rfl | rfl | rfl | rfl | rfl | rfl | rfl | rfl | rfl | rfl | rfl | rfl | rfl | rfl | rfl | rfl | rfl | rfl | rfl
  ·exact d2
  ·exact d3
  ·exact d4
  ·exact d5
  ·exact d6
  ·exact d7
  ·exact d8
  ·exact d9
  ·exact d10
  ·exact d11
  ·exact d12
  ·exact d13
  ·exact d14
  ·exact d15
  ·exact d16
  ·exact d17
  ·exact d18
  ·exact d19
  ·exact d20
  ·exact d21
  ·exact d22
  ·exact d23
  ·exact d24
 case S=>exact fun K H a ns hl _ hS=>⟨a,ns,rfl,hS,hl,fun _=>rfl⟩
 case C=>exact fun _ _ _ _ z=>z
 case T=>exact fun w a q=>L2.Qado (by first | kernel_rfl | exact rfl | decide) a q
