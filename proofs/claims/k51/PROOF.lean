import PyProof.Rows.All
import Wide.All
import OpenK.AllK
import Wide.FinOn
import PyProof.DictFindH
import PyProof.DictRoadsH
import Lean
import PyProof.EqAt
import PyProof.EqKinds
import PyProof.TupleCall
import PyProof.NeKinds
import PyProof.ListRange
import PyProof.TupleOfSeq
import KE.KSortTup
import PyProof.TupleKey
import PyProof.Rows.SetFrom
import PyProof.SetRoads
import KE.KDictList
import KE.KDictOf
import PyProof.AttrMiss
import PyProof.IsiH_list
import PyProof.AutoListH
import PySem.Challenge.RW_noughtways_k51_how_many_ways
set_option Elab.async false
set_option linter.all false
set_option maxRecDepth 100000
namespace L2
open PySem
variable {us:List Value} {h:Heap} {α:Type} {P:Program} {w:World} {t' k n iW iS iT:Nat} {N ps:List Str} {j:Int} {A:Around} {s:Shared} {pins:List (Addr×Obj)} {pos:Pos} {op:CmpOp} {c tg iter tgE:Expr} {es ifs:List Expr} {body:List Stmt} {kindOf:Str→Option NameKind} {qual:Str} {scope:Scope} {st:Stmt} {env:Env} {js:List (Option Nat)} {G:Addr→Prop}
abbrev Frg:=PySem.W.Frag
variable {K:Frg}
def Qvr (h:Heap) (d:Addr):Prop:=∃ o es,h.get? d=some o∧o.data=.dict es es.size
section
variable {prog:Program} {w:World} {K:Type} [DecidableEq K] {knd:HeapKind prog w K} {A:Around} {E:Value→Shared→Prop} {s:Shared}
theorem Qkw {d a:Addr}{xs:List (K×Addr×Value)}{k:K}{v:Value}{Q:Unit→Shared→Prop}(hu:knd.room A)(hkey:knd.is s.heap k a)(hm:s.heap.DictOfH knd d xs)(hep:Qvr s.heap d)
  (hQ:∀ h',h'.DictOfH knd d (storedH xs k a v)→Qvr h' d→Heap.SameBut d s.heap h'→Q () { s with heap:=h',toks:=s.toks+knd.draws k }) (hsz:xs.length≤sizeLine) :
  wpAny (model prog w) A (dictSet d (.ref a) v) Q E s:=by
 obtain ⟨o,es,ep,ho,hc,hd,he,his,hn⟩:=hm
 obtain ⟨o2,es2,ho2,hd2⟩:=hep
 rw [ho] at ho2
 cases ho2
 rw [hd] at hd2
 have ee:ep=es.size:=by cases hd2;rfl
 subst ee
 unfold dictSet
 try with_reducible refine wpAny_holding ?_
 refine wpAny_bind (knd.pyHash hu hkey ?_)
 unfold dictSetHashed
 try with_reducible refine wpAny_holding ?_
 refine wpAny_bind (wpAny_dictFind_heap (s:={ s with toks:=s.toks+knd.draws k }) hu hkey ho hd he his hn ?_ ?_)
 ·intro hno
  have hnot:k∉xs.map (·.1):=not_mem_keys_of_get hno
  have hg:=Heap.get?_update_self (Obj.mapDictKeys (·.push ⟨knd.hash k,.ref a,v⟩)) ho (Obj.isFreed_of_dict (Obj.data_mapDictKeys hd _))
  refine wpAny_bind (wpAny_rule (wpAny_updateDictKeys (hz:=by have e:=size_of_entries he;omega) (s:={ s with toks:=s.toks+knd.draws k }) ho hd (hQ _ ⟨_,_,es.size+1,hg,hc.mapDictKeys _,Obj.data_mapDictKeys hd _,?_,?_,?_⟩ ⟨_,es.push ⟨knd.hash k,.ref a,v⟩,hg,?_⟩ (Heap.SameBut.update ..))))
  ·rw [storedH_new (atKey_none_of_get hno)]
   simp [he,entryOfKey]
  ·rw [storedH_new (atKey_none_of_get hno)]
   intro x hx
   rcases List.mem_append.mp hx with hx | hx
   ·exact knd.keeps (his x hx) ho hd (Heap.SameBut.update ..)
   ·simp only [List.mem_singleton] at hx
    subst hx
    exact knd.keeps hkey ho hd (Heap.SameBut.update ..)
  ·rw [storedH_new (atKey_none_of_get hno),List.map_append,List.nodup_append]
   refine ⟨hn,by simp,?_⟩
   intro x hx y hy
   simp only [List.map_cons,List.map_nil,List.mem_singleton] at hy
   subst hy
   exact fun e=>hnot (e ▸ hx)
  ·rw [Obj.data_mapDictKeys hd,Array.size_push]
 ·intro j p hj
  have hg:=Heap.get?_update_self (Obj.mapDict (·.modify j fun e=>{ e with val:=v })) ho (Obj.isFreed_of_dict (Obj.data_mapDict hd _))
  refine wpAny_bind (wpAny_rule (wpAny_bind (wpAny_updateDict (s:={ s with toks:=s.toks+knd.draws k }) ho hd (wpAny_point (hQ _ ⟨_,_,es.size,hg,hc.mapDict _,Obj.data_mapDict hd _,?_,?_,?_⟩ ⟨_,es.modify j fun e=>{ e with val:=v },hg,?_⟩ (Heap.SameBut.update ..))))))
  ·rw [storedH_old (atKey_of_get hn hj)]
   have:=modify_map_putAt (entryOfKey knd) (fun e:DictEntry=>{ e with val:=v }) k v (fun _ _=>rfl) hn hj
   rw [←he] at this
   obtain ⟨l⟩:=es
   simpa using this
  ·rw [storedH_old (atKey_of_get hn hj)]
   intro x hx
   obtain ⟨y,hy,rfl⟩:=List.mem_map.mp hx
   unfold putAt
   split <;> exact knd.keeps (his y hy) ho hd (Heap.SameBut.update ..)
  ·rw [storedH_old (atKey_of_get hn hj),keys_map_putAt];exact hn
  ·rw [Obj.data_mapDict hd,Array.size_modify]
theorem Qsk {d a:Addr}{xs:List (K×Addr×Value)}{k:K}{v:Value}{Q:Unit→Shared→Prop}(hu:knd.room A.in1)(hkey:knd.is s.heap k a)(hm:s.heap.DictOfH knd d xs)(hep:Qvr s.heap d)
  (hQ:∀ h',h'.DictOfH knd d (storedH xs k a v)→Qvr h' d→Heap.SameBut d s.heap h'→Q () { s with heap:=h',toks:=s.toks+knd.draws k }) (hsz:xs.length≤sizeLine) :
  wpAny (model prog w) A (setItem (.ref d) (.ref a) v) Q E s:=by
 unfold setItem
 try with_reducible refine wpAny_holding ?_
 refine wpAny_bind (wpAny_sequenceKey hm.typeIs (by decide) ?_)
 refine wpAny_bind (wpAny_callSpecial?_slot (name:=Str.ofString "__setitem__") hm.typeIs slot_dict_setitem (wpAny_call_entry slot_dict_setitem hm.typeIs entry_dict_setitem ?_ (args_dict_setitem _ _ _)))
 show wpAny _ _ (Builtin.Dict.notOrdered "__setitem__" ⟨[.ref d,.ref a,v],[]⟩ >>= _) _ _ s
 refine wpAny_bind (wpAny_notOrdered_dict hm.typeIs ?_)
 show wpAny _ _ (dictSet d (.ref a) v >>= _) _ _ s
 exact wpAny_bind (Qkw hu hkey hm hep (fun h' hm' hep' hs'=>wpAny_pure ⟨.none,rfl,wpAny_pure (hQ h' hm' hep' hs')⟩) hsz)
end
open PySem PySem.Spec PyProof.Rows
abbrev Key:=Sum Int Str
def Qm6:Key→Value→Bool
 | .inl k,v=>Value.isInt k v
 | .inr x,v=>Value.isStrOf x v
def keyH (w:World):Key→Int
 | .inl k=>hashInt k
 | .inr x=>hashStr w x
theorem Qbf:∀ {k:Key} {v:Value},Qm6 k v=true→(∃ i t,k=Sum.inl i∧v=Value.int i t)∨(∃ x t,k=Sum.inr x∧v=Value.str x t)
 | .inl i,v,h=>by
  obtain ⟨t,e⟩:=Value.isInt_shape (k:=i) (v:=v) h
  exact .inl ⟨i,t,rfl,e⟩
 | .inr x,v,h=>by
  obtain ⟨t,e⟩:=Value.isStrOf_shape (x:=x) (v:=v) h
  exact .inr ⟨x,t,rfl,e⟩
theorem Qvs (i:Int)(t:Tok):Qm6 (.inl i) (.int i t)=true:=by simp [Qm6,Value.isInt]
theorem Qvt (x:Str)(t:Tok):Qm6 (.inr x) (.str x t)=true:=by simp [Qm6,Value.isStrOf]
theorem Q7a (a b:Int):decide ((Sum.inl a:Key)=Sum.inl b)=(a==b):=by
 by_cases e:a=b
 ·subst e;simp
 ·have h:¬ (Sum.inl a:Key)=Sum.inl b:=fun q=>e (Sum.inl.inj q)
  rw [decide_eq_false h]
  exact (beq_eq_false_iff_ne.mpr e).symm
theorem Q7b (a b:Str):decide ((Sum.inr a:Key)=Sum.inr b)=decide (a=b):=by
 by_cases e:a=b
 ·subst e;simp
 ·have h:¬ (Sum.inr a:Key)=Sum.inr b:=fun q=>e (Sum.inr.inj q)
  rw [decide_eq_false h,decide_eq_false e]
theorem Q7c (a:Int)(b:Str):decide ((Sum.inl a:Key)=Sum.inr b)=false:=decide_eq_false (fun q=>nomatch q)
theorem Q7d (a:Str)(b:Int):decide ((Sum.inr a:Key)=Sum.inl b)=false:=decide_eq_false (fun q=>nomatch q)
def Qbg (prog:Program) (w:World):PySem.KeyKind prog w Key where
 is:=Qm6
 hash:=keyH w
 inj:=fun v a b ha hb=>by
  rcases Qbf ha with ⟨i,t,rfl,rfl⟩ | ⟨x,t,rfl,rfl⟩
  ·rcases Qbf hb with ⟨j,u,rfl,e⟩ | ⟨y,u,rfl,e⟩
   ·injection e with e1 _;rw [e1]
   ·exact nomatch e
  ·rcases Qbf hb with ⟨j,u,rfl,e⟩ | ⟨y,u,rfl,e⟩
   ·exact nomatch e
   ·injection e with e1 _;rw [e1]
 byValue:=fun k v h=>by
  rcases Qbf h with ⟨i,t,rfl,rfl⟩ | ⟨x,t,rfl,rfl⟩ <;> rfl
 pyHash:=fun hv h=>by
  rcases Qbf hv with ⟨i,t,rfl,rfl⟩ | ⟨x,t,rfl,rfl⟩
  ·exact wpAny_pyHash_int h
  ·exact wpAny_pyHash_str h
 eqBool:=fun hu hv h=>by
  rcases Qbf hu with ⟨i,t,rfl,rfl⟩ | ⟨x,t,rfl,rfl⟩
  ·rcases Qbf hv with ⟨j,u,rfl,rfl⟩ | ⟨y,u,rfl,rfl⟩
   ·rw [Q7a] at h;exact wpAny_eqBool_int h
   ·rw [Q7c] at h;exact SeqAt.EqAt.int_str i t y u _ _ _ _ h
  ·rcases Qbf hv with ⟨j,u,rfl,rfl⟩ | ⟨y,u,rfl,rfl⟩
   ·rw [Q7d] at h;exact SeqAt.EqAt.str_int x t j u _ _ _ _ h
   ·rw [Q7b] at h;exact wpAny_eqBool_str h
 «strs»:=fun k x t v h=>by
  rcases Qbf h with ⟨i,u,rfl,e⟩ | ⟨y,u,rfl,e⟩
  ·exact nomatch e
  ·injection e with e1 _
   subst e1
   cases v <;> rfl
theorem Qp8 (prog:Program)(w:World)(i:Int)(t:Tok):(Qbg prog w).is (.inl i) (.int i t)=true:=Qvs i t
theorem Qp9 (prog:Program)(w:World)(x:Str)(t:Tok):(Qbg prog w).is (.inr x) (.str x t)=true:=Qvt x t
inductive V where
 | non | bl (b:Bool) | int (i:Int) | str (x:Str) | byt (b:Array UInt8) | flt (b:UInt64) | ref (a:Addr) | ty (n:String)
 deriving DecidableEq
variable {kvs:List (List Key×V)}
def RelV:V→Value→Prop
 | .non,u=>u=Value.none
 | .bl b,u=>u=Value.bool b
 | .int i,u=>∃ t,u=Value.int i t
 | .str x,u=>∃ t,u=Value.str x t
 | .byt b,u=>∃ t,u=Value.bytes b t
 | .flt b,u=>∃ t,u=Value.float b t
 | .ref a,u=>u=Value.ref a
 | .ty n,u=>u=Value.type n
abbrev Vals:List V→List Value→Prop:=Paired RelV
theorem Vals.length {xs:List V}(r:Vals xs us):xs.length=us.length:=Paired.length r
theorem Vals.get:∀ {xs:List V} {us:List Value} {i:Nat} {x:V},Vals xs us→xs[i]?=some x→∃ u,us[i]?=some u∧RelV x u
 | _,_,_,_,.nil,e=>by simp at e
 | _,_,0,_,.cons r _,e=>by simp at e;subst e;exact ⟨_,rfl,r⟩
 | _,_,i+1,x,.cons _ t,e=>by
  obtain ⟨u,h1,h2⟩:=Vals.get (i:=i) (x:=x) t (by simpa using e)
  exact ⟨u,by simpa using h1,h2⟩
theorem Vals.set {x:V}{u:Value}(r:RelV x u):∀ {xs:List V} {us:List Value} (i:Nat),Vals xs us→Vals (xs.set i x) (us.set i u)
 | _,_,_,.nil=>.nil
 | _,_,0,.cons _ t=>.cons r t
 | _,_,i+1,.cons q t=>.cons q (Vals.set r i t)
theorem Vals.append:∀ {xs ys:List V} {us ws:List Value},Vals xs us→Vals ys ws→Vals (xs++ys) (us++ws)
 | _,_,_,_,.nil,s=>s
 | _,_,_,_,.cons r t,s=>.cons r (Vals.append t s)
theorem Vals.take:∀ {xs:List V} {us:List Value} (n:Nat),Vals xs us→Vals (xs.take n) (us.take n)
 | _,_,0,_=>.nil
 | _,_,_+1,.nil=>.nil
 | _,_,n+1,.cons r t=>.cons r (Vals.take n t)
theorem Vals.drop:∀ {xs:List V} {us:List Value} (n:Nat),Vals xs us→Vals (xs.drop n) (us.drop n)
 | _,_,0,r=>r
 | _,_,_+1,.nil=>.nil
 | _,_,n+1,.cons _ t=>Vals.drop n t
def RelO:Option V→Option Value→Prop
 | some v,some u=>RelV v u
 | none,none=>True
 | _,_=>False
def KV {κ:Type}:List (κ×V)→List (κ×Value)→Prop:=Paired fun (p:κ×V) (q:κ×Value)=>p.1=q.1∧RelV p.2 q.2
def kV:Key→V
 | .inl i=>.int i
 | .inr x=>.str x
inductive HO where
  | lst (xs:List V)
  | tup (xs:List V)
  | dK (kvs:List (Key×V)) | dT (kvs:List (List Key×V))
  | set (S:Int→Bool) (n:Nat)
  | ins (C dx:Addr) (fs:List (Str×V))
  | own (x:Addr)
  | xd (fs:List (Str×V))
  | met (f x:Addr)
  | rng (lo hi:Int)
  | frz (o:Obj) (u:HO)
  | tbl (q:Str)
 | cod (q:Str)
  | ext (φ:Heap→Prop)
variable {o:HO}
abbrev Hp:=Addr→Option HO
variable {H H' H0:Hp}
def upd (H:Hp) (a:Addr) (o:HO):Hp:=fun b=>if b=a then some o else H b
theorem Qr {a:Addr}:upd H a o a=some o:=by unfold upd;rw [if_pos rfl]
theorem Qw {a b:Addr}(h:b≠a):upd H a o b=H b:=by unfold upd;rw [if_neg h]
theorem Q5j {a b:Addr}{u:HO}(h:H a=some o)(h':H b=some u)(d:o≠u):a≠b:=by
 intro e;subst e;rw [h] at h';exact d (Option.some.inj h')
theorem Qb4 {a b:Addr}(h:H a=some o)(h':H b=none):a≠b:=by
 intro e;subst e;rw [h] at h';cases h'
def IsTupD (h:Heap) (a:Addr) (its:Array Value):Prop:=∃ o,h.get? a=some o∧o.cls=.type "tuple" ∧ ∃ n,o.data=.seq its n∧o.dict=none
theorem IsTupD.tup {a:Addr}{its:Array Value}(x:IsTupD h a its):IsTup h a its:=let ⟨o,e,c,n,d,_⟩:=x;⟨o,e,c,n,d⟩
theorem IsTupD.new (h:Heap)(its:Array Value):IsTupD (h.push { cls:=.type "tuple",data:=.seq its }) h.objs.size its:=⟨_,Heap.get?_push_size _ rfl,rfl,_,rfl,rfl⟩
section
variable (P:Program) (w:World)
def ObjOk (H:Hp) (h:Heap) (a:Addr):HO→Prop
 | .lst xs=>xs.length≤sizeLine∧∃ (its:List Value) (n:Nat),Vals xs its∧h.get? a=some { cls:=.type "list",data:=.seq its.toArray n }
 | .tup xs=>xs.length≤sizeLine∧∃ its:List Value,Vals xs its∧IsTupD h a its.toArray
 | .dK kvs=>kvs.length≤sizeLine∧(a==sysModules)=false∧∃ vs,KV kvs vs∧h.DictOf (Qbg P w) a vs
 | .dT kvs=>kvs.length≤sizeLine∧(a==sysModules)=false∧∃ xs:List (List Key×Addr×Value),
   Paired (fun (p:List Key×V) (q:List Key×Addr×Value)=>p.1=q.1∧H q.2.1=some (.tup (p.1.map kV))∧RelV p.2 q.2.2) kvs xs ∧
   ∃ o es ep,h.get? a=some o∧o.ExactDict∧o.data=.dict es ep∧es.toList=xs.map (entryOfKey (tupleKind (Qbg P w)))∧(xs.map (·.1)).Nodup∧ep=es.size
 | .set S n=>h.SetOf (intKind P w) a S n
 | .ins C dx fs=>H dx=some (.own a)∧fs.length≤1000∧dx≠a∧h.get? a=some (PySem.W.instObj C dx) ∧
   ∃ mA,h.Ns1 dx mA∧(∀ f,RelO (fs.lookup f) (mA f))∧PySem.Within mA (fs.map (·.1))
 | .own _=>∃ o,h.get? a=some o
 | .xd fs=>∃ mA,h.Ns1 a mA∧∀ f,RelO (fs.lookup f) (mA f)
 | .rng lo hi=>∃ t u v,h.get? a=some { cls:=.type "range",data:=.fields #[.int lo t,.int hi u,.int 1 v] }
 | .frz o u=>h.get? a=some o∧ObjOk H h a u
 | .tbl q=>∃ ps:Array Value,h.get? a=some { cls:=.none,data:=.fields ps }∧TriplesOk ps.toList∧∀ pos cv,codeAmong pos ps.toList=some cv→∃ c,cv=.ref c∧H c=some (.cod q)
 | .cod q=>h.CodeRec (.ref a) q
 | .met f x=>h.get? a=some (PySem.W.methodObj (.ref f) (.ref x))
 | .ext φ=>φ h∧(∃ o,h.get? a=some o)∧∀ h1 h2:Heap,φ h1→(∀ o,h1.get? a=some o→h2.get? a=some o)→φ h2
def HOk (H:Hp) (h:Heap):Prop:=∀ a o,H a=some o→ObjOk P w H h a o
end
section
variable {P:Program} {w:World} {H H':Hp} {h h':Heap} {a:Addr} {o:HO}
theorem ObjOk.lt (x:ObjOk P w H h a o):a<h.objs.size:=by
 cases o with
 | lst xs=>obtain ⟨_,_,_,_,e⟩:=x;exact Heap.lt_size e
 | tup xs=>obtain ⟨_,_,_,p⟩:=x;exact p.tup.lt
 | dK kvs=>obtain ⟨_,_,_,_,o,_,_,e,_⟩:=x;exact Heap.lt_size e
 | dT kvs=>obtain ⟨_,_,_,_,o,_,_,e,_⟩:=x;exact Heap.lt_size e
 | set S n=>obtain ⟨o,_,_,_,e,_⟩:=x;exact Heap.lt_size e
 | ins C dx fs=>obtain ⟨_,_,_,e,_⟩:=x;exact Heap.lt_size e
 | own y=>obtain ⟨_,e⟩:=x;exact Heap.lt_size e
 | xd fs=>obtain ⟨_,⟨_,_,_,e,_⟩,_⟩:=x;exact Heap.lt_size e
 | rng lo hi=>obtain ⟨_,_,_,e⟩:=x;exact Heap.lt_size e
 | frz ob u=>obtain ⟨e,_⟩:=x;exact Heap.lt_size e
 | tbl q=>obtain ⟨_,e,_⟩:=x;exact Heap.lt_size e
 | cod q=>obtain ⟨_,_,_,_,e,e1,_⟩:=x;cases e;exact Heap.lt_size e1
 | met f y=>exact Heap.lt_size (show h.get? a=some _ from x)
 | ext φ=>obtain ⟨_,⟨_,e⟩,_⟩:=x;exact Heap.lt_size e
theorem Paired.mapP {β:Type}{F G:α→β→Prop}:∀ {l₁:List α} {l₂:List β},Paired F l₁ l₂→(∀ a b,F a b→G a b)→Paired G l₁ l₂
 | _,_,.nil,_=>.nil
 | _,_,.cons r t,f=>.cons (f _ _ r) (Paired.mapP t f)
theorem ObjOk.stay (x:ObjOk P w H h a o)(k:∀ b u,(b=a∨H b=some (.own a))→h.get? b=some u→h'.get? b=some u)
  (ho:∀ b,H b=some (.own a)→H' b=some (.own a)) (ht:∀ b xs,H b=some (.tup xs)→H' b=some (.tup xs)) (hcod:∀ b q,H b=some (.cod q)→H' b=some (.cod q):=by exact fun _ _ q=>q):ObjOk P w H' h' a o:=by
 induction o with
 | lst xs=>obtain ⟨z,its,n,r,e⟩:=x;exact ⟨z,its,n,r,k _ _ (.inl rfl) e⟩
 | tup xs=>obtain ⟨z,its,r,ob,e,c⟩:=x;exact ⟨z,its,r,ob,k _ _ (.inl rfl) e,c⟩
 | dK kvs=>obtain ⟨z,y,vs,r,ob,es,ep,e,c⟩:=x;exact ⟨z,y,vs,r,ob,es,ep,k _ _ (.inl rfl) e,c⟩
 | dT kvs =>
  obtain ⟨z,y,xs,r,ob,es,ep,e,c⟩:=x
  exact ⟨z,y,xs,Paired.mapP r fun p q z=>⟨z.1,ht _ _ z.2.1,z.2.2⟩,ob,es,ep,k _ _ (.inl rfl) e,c⟩
 | set S n=>obtain ⟨ob,es,ep,t,e,c⟩:=x;exact ⟨ob,es,ep,t,k _ _ (.inl rfl) e,c⟩
 | ins C dx fs =>
  obtain ⟨d,z,ne,e,mA,⟨od,es,ep,e2,c⟩,r⟩:=x
  exact ⟨ho _ d,z,ne,k _ _ (.inl rfl) e,mA,⟨od,es,ep,k _ _ (.inr d) e2,c⟩,r⟩
 | own y=>obtain ⟨ob,e⟩:=x;exact ⟨ob,k _ _ (.inl rfl) e⟩
 | xd fs=>obtain ⟨mA,⟨od,es,ep,e,c⟩,r⟩:=x;exact ⟨mA,⟨od,es,ep,k _ _ (.inl rfl) e,c⟩,r⟩
 | rng lo hi=>obtain ⟨t,u,v,e⟩:=x;exact ⟨t,u,v,k _ _ (.inl rfl) e⟩
 | frz ob u ih=>obtain ⟨e,q⟩:=x;exact ⟨k _ _ (.inl rfl) e,ih q⟩
 | tbl q =>
  obtain ⟨ps,e,tr,al⟩:=x
  refine ⟨ps,k _ _ (.inl rfl) e,tr,fun pos cv hc=>?_⟩
  obtain ⟨c,ec,hH⟩:=al pos cv hc
  exact ⟨c,ec,hcod _ _ hH⟩
 | cod q =>
  obtain ⟨c,o,vs,t,e,e1,r⟩:=x
  cases e
  exact ⟨_,o,vs,t,rfl,k _ _ (.inl rfl) e1,r⟩
 | met f y =>
  have e:h.get? a=some (PySem.W.methodObj (.ref f) (.ref y)):=x
  show h'.get? a=some (PySem.W.methodObj (.ref f) (.ref y))
  exact k a _ (.inl rfl) e
 | ext φ=>obtain ⟨p,⟨o,e⟩,st⟩:=x;exact ⟨st _ _ p fun o q=>k _ _ (.inl rfl) q,⟨o,k _ _ (.inl rfl) e⟩,st⟩
theorem HOk.lt (x:HOk P w H h)(e:H a=some o):a<h.objs.size:=(x a o e).lt
theorem HOk.fresh (x:HOk P w H h)(e:h.objs.size≤a):H a=none:=by
 cases q:H a with
 | none=>rfl
 | some u=>exact absurd (Nat.lt_of_lt_of_le (x.lt q) e) (Nat.lt_irrefl _)
theorem HOk.kept (x:HOk P w H h)(k:∀ b u,h.get? b=some u→h'.get? b=some u):HOk P w H h':=fun a o e =>
 (x a o e).stay (fun b u _ q=>k b u q) (fun _ q=>q) fun _ _ q=>q
theorem HOk.laid (x:HOk P w H h)(k:∀ b u,h.get? b=some u→h'.get? b=some u)(hp:h.objs.size≤a)(new:ObjOk P w (upd H a o) h' a o):HOk P w (upd H a o) h':=fun b u e=>by
 have hn:=x.fresh hp
 by_cases hb:b=a
 ·subst hb;rw [Qr] at e;cases e;exact new
 ·rw [Qw hb] at e
  exact (x b u e).stay (fun c v _ q=>k c v q) (fun c q=>by rw [Qw (Qb4 q hn)];exact q) (fun c xs q=>by rw [Qw (Qb4 q hn)];exact q) fun c xs q=>by rw [Qw (Qb4 q hn)];exact q
end
def Rd (H:Hp) (a:Addr) (u:HO):Prop:=H a=some u∨∃ o,H a=some (.frz o u)
theorem Rd.ok {a:Addr}{u:HO}(r:Rd H a u)(x:HOk P w H h):ObjOk P w H h a u:=by
 rcases r with r | ⟨o,r⟩
 ·exact x a u r
 ·obtain ⟨_,q⟩:=x a _ r
  exact q
def Mut:Option HO→Prop
 | some (.lst _)=>True
 | some (.dK _)=>True
 | some (.dT _)=>True
 | some (.set _ _)=>True
 | some (.ins _ _ _)=>True
 | some (.ext _)=>True
 | _=>False
section
variable {P:Program} {w:World} {H:Hp} {h h':Heap} {x e:Addr} {o':HO}
theorem HOk.write (ok:HOk P w H h)(mu:Mut (H x))(he:e=x∨H e=some (.own x))(k:∀ b u,b≠e→h.get? b=some u→h'.get? b=some u)(heo:∃ u,h'.get? e=some u)
  (new:ObjOk P w (upd H x o') h' x o'):HOk P w (upd H x o') h':=fun b u q=>by
 have nown:∀ c y,H c=some (.own y)→c≠x:=fun c y r z=>by subst z;rw [r] at mu;exact mu
 have ntup:∀ c xs,H c=some (.tup xs)→c≠x:=fun c xs r z=>by subst z;rw [r] at mu;exact mu
 by_cases hb:b=x
 ·subst hb;rw [Qr] at q;cases q;exact new
 ·rw [Qw hb] at q
  by_cases hbe:b=e
  ·have q':H b=some (.own x):=by
    rcases he with z | z
    ·exact absurd (hbe.trans z) hb
    ·rw [hbe];exact z
   rw [q] at q';cases q'
   obtain ⟨v,hv⟩:=heo
   exact ⟨v,by rw [hbe];exact hv⟩
  ·refine (ok b u q).stay (fun c v hc r=>k c v ?_ r) (fun c r=>by rw [Qw (nown c b r)];exact r) (fun c xs r=>by rw [Qw (ntup c xs r)];exact r) fun c y r=>by rw [Qw (fun z=>by subst z;rw [r] at mu;exact mu)];exact r
   rcases hc with rfl | hc
   ·exact hbe
   ·rintro rfl
    rcases he with z | z
    ·exact nown c b hc z
    ·rw [hc] at z;cases z;exact hb rfl
end
structure Un (fs ex:List Addr) (H H':Hp) (h h':Heap):Prop where
 keep:∀ b o,h.get? b=some o→H b=none→b∉fs→b∉ex→h'.get? b=some o
 slot:∀ b o,h.get? b=some o→H b=none→b∈fs→b∉ex→∃ sl,h'.get? b=some { o with slots:=sl }
 free:∀ b o,h.get? b=some o→H b=none→b∉ex→H' b=none
 there:∀ b o,h.get? b=some o→b∉ex→∃ o',h'.get? b=some o'
 tups:∀ b xs,H b=some (.tup xs)→H' b=some (.tup xs)
 frzs:∀ b o u,H b=some (.frz o u)→H' b=some (.frz o u)
 tbls:∀ b q,H b=some (.tbl q)→H' b=some (.tbl q)
section
variable {fs fs' ex ex':List Addr} {H H1 H2:Hp} {h h1 h2 h':Heap} {a x e:Addr} {o:HO}
theorem Un.any (u:Un fs ex H H1 h h1){b:Addr}{ob:Obj}(q:h.get? b=some ob)(n:H b=none)(hx:b∉ex):∃ sl,h1.get? b=some { ob with slots:=sl }:=by
 by_cases hb:b∈fs
 ·exact u.slot b ob q n hb hx
 ·exact ⟨ob.slots,u.keep b ob q n hb hx⟩
theorem Un.kept (k:∀ b u,h.get? b=some u→h'.get? b=some u):Un fs ex H H h h' :=
 ⟨fun b ob q _ _ _=>k b ob q,fun b ob q _ _ _=>⟨ob.slots,k b ob q⟩,fun _ _ _ n _=>n,fun b ob q _=>⟨ob,k b ob q⟩,fun _ _ q=>q,fun _ _ _ q=>q,fun _ _ q=>q⟩
theorem Un.refl:Un fs ex H H h h:=Un.kept fun _ _ q=>q
theorem Un.laid (k:∀ b u,h.get? b=some u→h'.get? b=some u)(hp:h.objs.size≤a)(hn:H a=none):Un fs ex H (upd H a o) h h' where
 keep:=fun b u q _ _ _=>k b u q
 slot:=fun b u q _ _ _=>⟨u.slots,k b u q⟩
 free:=fun b u q n _=>by rw [Qw (Nat.ne_of_lt (Nat.lt_of_lt_of_le (Heap.lt_size q) hp))];exact n
 there:=fun b u q _=>⟨u,k b u q⟩
 tups:=fun b xs q=>by rw [Qw (Qb4 q hn)];exact q
 frzs:=fun b u xs q=>by rw [Qw (Qb4 q hn)];exact q
 tbls:=fun b ps q=>by rw [Qw (Qb4 q hn)];exact q
theorem Un.write (mu:Mut (H x))(he:e=x∨H e=some (.own x))(k:∀ b u,b≠e→h.get? b=some u→h'.get? b=some u)(heo:∃ u,h'.get? e=some u):Un fs ex H (upd H x o) h h':=by
 have hx:∀ b,H b=none→b≠x:=fun b n z=>by subst z;rw [n] at mu;exact mu
 have hb:∀ b,H b=none→b≠e:=fun b n z=>by
  subst z
  rcases he with r | r
  ·exact hx b n r
  ·rw [n] at r;cases r
 have hm:∀ b u,H b=some u→¬ Mut (some u)→b≠x:=fun b u q nm z=>by subst z;rw [q] at mu;exact nm mu
 refine ⟨fun b u q n _ _=>k b u (hb b n) q,fun b u q n _ _=>⟨u.slots,k b u (hb b n) q⟩,fun b u q n _=>by rw [Qw (hx b n)];exact n,fun b u q _=>?_,
  fun b xs q=>by rw [Qw (hm b _ q fun z=>z)];exact q,fun b u xs q=>by rw [Qw (hm b _ q fun z=>z)];exact q,fun b ps q=>by rw [Qw (hm b _ q fun z=>z)];exact q⟩
 by_cases hbe:b=e
 ·subst hbe;exact heo
 ·exact ⟨u,k b u hbe q⟩
end
def trk (h:Heap) (H:Hp):List Addr:=(List.range h.objs.size).filter fun a=>(H a).isSome
def Qoe (h:Heap) (H:Hp):Heap:=PySem.W.hideAll h (trk h H)
theorem Qvu (h:Heap)(H:Hp):(Qoe h H).objs.size=h.objs.size:=PySem.W.hideAll_size _ _
theorem Qw6 {b:Addr}{o:Obj}(e:h.get? b=some o)(n:H b=none):(Qoe h H).get? b=some o :=
 PySem.W.hideAll_get _ e fun hm=>by
  have q:(H b).isSome=true:=(List.mem_filter.mp hm).2
  rw [n] at q;simp at q
theorem Q15 {b:Addr}{o:Obj}(e:(Qoe h H).get? b=some o):h.get? b=some o∧H b=none:=by
 have e':h.get? b=some o:=PySem.W.of_hideAll (trk h H) e
 refine ⟨e',?_⟩
 cases q:H b with
 | none=>rfl
 | some x =>
  have hm:b∈trk h H:=List.mem_filter.mpr ⟨List.mem_range.mpr (Heap.lt_size e'),by simp [q]⟩
  have z:(Qoe h H).get? b=none:=PySem.W.hideAll_none (trk h H) hm
  rw [z] at e;cases e
def Q16 (g h:Heap) (L:Addr):List (Addr×Obj):=(List.range h.objs.size).filterMap fun a=>if a=L∨(g.get? a).isSome=true then none else (h.get? a).map fun o=>(a,o)
def rest (g h:Heap) (L d:Addr):List (Addr×Obj):=(Q16 g h L).filter fun p=>decide (p.1≠d)
structure Mod (K:Frg) (mg:Str→Option Value) (base:Heap):Prop where
 kin:K.In base
 glob:base.Ns mainGlobals mg
 blt:∃ mb,base.Ns builtinsNs mb∧∀ x:Str,x ≠ "__name__" → mb x=bootBuiltins x
 nolimit:base.NoLimit
 bm:∃ bm ob,mg "__builtins__" = some (.ref bm)∧bm≠builtinsNs∧base.get? bm=some ob∧ob.cls=.type "module" ∧ ob.dict=some builtinsNs∧ob.data=.plain
def Qw7 (K:Frg) (a:Addr) (q:Str):Prop:=∃ b t,K.getLast?=some (b,{ cls:=.none,data:=.fields #[.ref a,.str q t] })
def Qw8 (K:Frg) (H:Hp):Prop:=∀ a q,Qw7 K a q→H a=some (.tbl q)
structure Cx where
 prog:Program
 w:World
 K:Frg
 mg:Str→Option Value
 base:Heap
 A:Around
 N:List Str
 s₀:Shared
 H₀:Hp
 env:Env
 outer:List Env
 stack:List Env
 ex:List Addr
 fn:Str→Bool
 calm:Bool
 pn:List (Addr×Obj)
 xe:Value→Shared→Prop
variable {X:Cx}
def frs (l:List Env):List Addr:=l.filterMap (·.frame)
abbrev Cx.fs (X:Cx):List Addr:=frs X.outer
def Vis (sc:Scope) (x:Str):Prop:=sc.names.lookup x=some .local∨sc.names.lookup x=some .cell∨sc.names.lookup x=some .free
def Loc (sc:Scope) (x:Str):Prop:=sc.names.lookup x=some .local∨sc.names.lookup x=some .cell
def Look (env:Env) (h:Heap) (m:Str→Option Value) (x:Str) (u:Value):Prop :=
 (env.kindOf x=some .local∧m x=some u)∨((env.kindOf x=some .cell∨env.kindOf x=some .free)∧∃ c,env.cells.lookup x=some c∧h.IsCell c (some u))
structure Cx.Ok (X:Cx):Prop where
 mod:Mod X.K X.mg X.base
 kind:X.env.scope.kind=.function
 glob:X.env.globals=mainGlobals
 blt:X.env.builtins=builtinsNs
 above:X.s₀.heap.objs.size≤X.env.locals
 inj:∀ x y c,X.env.cells.lookup x=some c→X.env.cells.lookup y=some c→x=y
 has:∀ x,(X.env.kindOf x=some .cell∨X.env.kindOf x=some .free)→∃ c,X.env.cells.lookup x=some c
 cab:∀ x c,X.fn x=true→X.env.cells.lookup x=some c→X.s₀.heap.objs.size≤c
 hd:X.calm=true→X.A.handled=none
 frames:X.A.frames=some X.stack
 stk:X.stack=X.outer∨(X.stack=X.env::X.outer∧X.env.frame=some X.env.locals)
 exf:∀ b∈X.ex,b≠X.env.locals∧∀ x c,X.env.cells.lookup x=some c→c≠b
 bs:∀ b o,X.base.get? b=some o→X.s₀.heap.get? b=some o∧X.H₀ b=none
 bsz:X.base.objs.size≤X.s₀.heap.objs.size
 noex:∀ b o,X.base.get? b=some o→b∉X.ex
 exfs:∀ b∈X.ex,b∉X.fs
 funs:X.s₀.heap.FunFrames X.base X.outer
 frf:(∀ b∈X.fs,X.H₀ b=none)∧Qw8 X.K X.H₀
structure Inv (X:Cx) (pins:List (Addr×Obj)) (σ:List (Option V)) (H:Hp) (s:Shared):Prop where
 ok:X.Ok
 os:s.os=X.s₀.os
 bare:AllBare s.gens
 base:Un X.fs X.ex X.H₀ H X.s₀.heap s.heap
 loc:∃ m,s.heap.Ns X.env.locals m∧∀ (i:Nat) (x:Str) (v:V),X.N[i]?=some x→σ[i]?=some (some v)→Vis X.env.scope x→∃ u,RelV v u∧Look X.env s.heap m x u
 cell:∀ x c,X.env.cells.lookup x=some c→∃ v,s.heap.IsCell c v
 free:H X.env.locals=none
 freeC:∀ x c,X.env.cells.lookup x=some c→H c=none∨(X.fn x=false∧∃ o u,H c=some (.frz o u))
 pin:∀ p∈X.pn++pins,s.heap.get? p.1=some p.2∧H p.1=none∧p.1≠X.env.locals∧p.1∉X.fs∧∀ v,p.2.data≠.cell v
 hok:HOk X.prog X.w H s.heap
 len:σ.length=X.N.length
section
variable {X:Cx} {pins:List (Addr×Obj)} {σ:List (Option V)} {H H':Hp} {s:Shared} {h':Heap}
theorem Cx.Ok.nofr (ok:X.Ok){b:Addr}{o:Obj}(e:X.base.get? b=some o):b∉X.fs:=fun hb=>by
 have:=(ok.funs.mem hb).1
 rw [e] at this;cases this
theorem Inv.bs (I:Inv X pins σ H s):∀ b o,X.base.get? b=some o→s.heap.get? b=some o∧H b=none:=fun b o e =>
 ⟨I.base.keep b o (I.ok.bs b o e).1 (I.ok.bs b o e).2 (I.ok.nofr e) (I.ok.noex b o e),I.base.free b o (I.ok.bs b o e).1 (I.ok.bs b o e).2 (I.ok.noex b o e)⟩
theorem Inv.bk (I:Inv X pins σ H s):∀ b o,X.base.get? b=some o→s.heap.get? b=some o:=fun b o e=>(I.bs b o e).1
theorem Inv.mod (I:Inv X pins σ H s):Mod X.K X.mg X.base:=I.ok.mod
theorem Inv.kIn (I:Inv X pins σ H s):X.K.In s.heap:=I.ok.mod.kin.keeps I.bk
theorem Inv.lt (I:Inv X pins σ H s):X.env.locals<s.heap.objs.size:=let ⟨_,hn,_⟩:=I.loc;hn.lt
theorem Inv.sz (I:Inv X pins σ H s):X.s₀.heap.objs.size≤s.heap.objs.size:=Nat.le_trans I.ok.above (Nat.le_of_lt I.lt)
theorem Inv.nofs (I:Inv X pins σ H s){a:Addr}(h:s.heap.objs.size≤a):a∉X.fs:=fun hb=>by
 obtain ⟨_,o,ho,_⟩:=I.ok.funs.mem hb
 exact absurd (Nat.lt_of_lt_of_le (Heap.lt_size ho) (Nat.le_trans I.sz h)) (Nat.lt_irrefl _)
theorem Inv.cne (I:Inv X pins σ H s):∀ x c,X.env.cells.lookup x=some c→c≠X.env.locals:=fun x c e z=>by
 obtain ⟨v,o,ho,hd⟩:=I.cell x c e
 obtain ⟨m,⟨o',es,ep,ho',hd',_⟩,_⟩:=I.loc
 rw [z,ho'] at ho;cases ho;rw [hd'] at hd;cases hd
theorem Inv.funs (I:Inv X pins σ H s):s.heap.FunFrames X.base X.outer:=by
 have all:∀ (l:List Env),(∀ b∈frs l,b∈X.fs)→X.s₀.heap.FunFrames X.base l→s.heap.FunFrames X.base l:=by
  intro l
  induction l with
  | nil=>intro _ _;trivial
  | cons env r ih =>
   intro hs hl
   obtain ⟨hk,⟨L,o,hf,hn,ho,hd⟩,hr⟩:=hl
   have hL:L∈X.fs:=hs L (by unfold frs;rw [List.filterMap_cons,hf];exact List.mem_cons_self)
   obtain ⟨sl,e⟩:=I.base.slot L o ho (I.ok.frf.1 L hL) hL fun z=>I.ok.exfs L z hL
   exact ⟨hk,⟨L,_,hf,hn,e,hd⟩,ih (fun b hb=>hs b (by unfold frs;rw [List.filterMap_cons,hf];exact List.mem_cons_of_mem _ hb)) hr⟩
 exact all X.outer (fun _ hb=>hb) I.ok.funs
theorem Inv.stack (I:Inv X pins σ H s):s.heap.FunFrames X.base X.stack:=by
 rcases I.ok.stk with e | ⟨e,hf⟩
 ·rw [e];exact I.funs
 ·rw [e]
  obtain ⟨m,hn,_⟩:=I.loc
  refine .cons (by rw [I.ok.kind];decide) hf hn ?_ I.funs
  exact Heap.get?_none_of_le (Nat.le_trans I.ok.bsz I.ok.above)
theorem Inv.stkSub (I:Inv X pins σ H s):∀ b∈frs X.stack,b∈X.env.locals::X.fs:=fun b hb=>by
 rcases I.ok.stk with e | ⟨e,hf⟩
 ·rw [e] at hb;exact List.mem_cons_of_mem _ hb
 ·rw [e] at hb
  unfold frs at hb
  rw [List.filterMap_cons,hf] at hb
  exact hb
theorem Inv.stkFree (I:Inv X pins σ H s):∀ b∈frs X.stack,H b=none:=fun b hb=>by
 rcases List.mem_cons.mp (I.stkSub b hb) with e | hb
 ·rw [e];exact I.free
 ·obtain ⟨_,o,ho,_⟩:=I.ok.funs.mem hb
  exact I.base.free b o ho (I.ok.frf.1 b hb) fun z=>I.ok.exfs b z hb
theorem Inv.tab (I:Inv X pins σ H s):Qw8 X.K H:=fun a q h=>I.base.tbls a q (I.ok.frf.2 a q h)
theorem Inv.step {g':Array GenState}{d':Drawn}{ch:List Addr}(I:Inv X pins σ H s)
  (hch:∀ b∈ch,(b∈X.ex∨X.s₀.heap.objs.size≤b)∧b≠X.env.locals∧(∀ x c,X.env.cells.lookup x=some c→c≠b)∧∀ p∈X.pn++pins,p.1≠b)
  (keep:∀ b o,b≠X.env.locals→b∉X.fs→b∉ch→s.heap.get? b=some o→H b=none→h'.get? b=some o)
  (slot:∀ b o,b≠X.env.locals→b∈X.fs→b∉ch→s.heap.get? b=some o→H b=none→∃ sl,h'.get? b=some { o with slots:=sl }) (free:∀ b o,b∉ch→s.heap.get? b=some o→H b=none→H' b=none)
  (there:∀ b o,b∉ch→s.heap.get? b=some o→∃ o',h'.get? b=some o')
  (tups:∀ b xs,H b=some (.tup xs)→H' b=some (.tup xs)) (frzs:∀ b o u,H b=some (.frz o u)→H' b=some (.frz o u)) (tbls:∀ b q,H b=some (.tbl q)→H' b=some (.tbl q))
  (ns:∀ m,s.heap.Ns X.env.locals m→h'.Ns X.env.locals m) (hok:HOk X.prog X.w H' h') (hg:AllBare g') :
  Inv X pins σ H' { s with heap:=h',gens:=g',drawn:=d',toks:=t' }:=by
 have neL:∀ b o,X.s₀.heap.get? b=some o→b≠X.env.locals:=fun b o e=>Nat.ne_of_lt (Nat.lt_of_lt_of_le (Heap.lt_size e) I.ok.above)
 have neC:∀ b o,X.s₀.heap.get? b=some o→b∉X.ex→b∉ch:=fun b o e hx hb=>by
  rcases (hch b hb).1 with z | z
  ·exact hx z
  ·exact absurd (Nat.lt_of_lt_of_le (Heap.lt_size e) z) (Nat.lt_irrefl _)
 have cellK:∀ x c,X.env.cells.lookup x=some c→∀ v,s.heap.IsCell c v→h'.IsCell c v:=fun x c e v ⟨o,ho,hd⟩=>by
  have nch:c∉ch:=fun z=>(hch c z).2.2.1 x c e rfl
  rcases I.freeC x c e with fc | ⟨_,of,u,fc⟩
  ·by_cases hc:c∈X.fs
   ·obtain ⟨sl,q⟩:=slot c o (I.cne x c e) hc nch ho fc
    exact ⟨_,q,hd⟩
   ·exact ⟨o,keep c o (I.cne x c e) hc nch ho fc,hd⟩
  ·have e1:=(I.hok c _ fc).1
   rw [ho] at e1
   cases e1
   exact ⟨_,(hok c _ (frzs c _ _ fc)).1,hd⟩
 refine ⟨I.ok,I.os,hg,⟨fun b o e n hb hx=>?_,fun b o e n hb hx=>?_,fun b o e n hx=>?_,fun b o e hx=>?_,fun b xs e=>tups b xs (I.base.tups b xs e),fun b o xs e=>frzs b o xs (I.base.frzs b o xs e),fun b ps e=>?_⟩,?_,fun x c e=>?_,?_,fun x c e=>?_,fun p hp=>?_,hok,I.len⟩
 ·exact keep b o (neL b o e) hb (neC b o e hx) (I.base.keep b o e n hb hx) (I.base.free b o e n hx)
 ·obtain ⟨sl,e1⟩:=I.base.slot b o e n hb hx
  obtain ⟨sl',e2⟩:=slot b _ (neL b o e) hb (neC b o e hx) e1 (I.base.free b o e n hx)
  exact ⟨sl',e2⟩
 ·obtain ⟨o',e1⟩:=I.base.there b o e hx
  exact free b o' (neC b o e hx) e1 (I.base.free b o e n hx)
 ·obtain ⟨o',e1⟩:=I.base.there b o e hx
  exact there b o' (neC b o e hx) e1
 ·exact tbls b ps (I.base.tbls b ps e)
 ·obtain ⟨m,hn,hl⟩:=I.loc
  refine ⟨m,ns m hn,fun i x v e1 e2 e3=>?_⟩
  obtain ⟨u,r,l⟩:=hl i x v e1 e2 e3
  refine ⟨u,r,?_⟩
  rcases l with l | ⟨k,c,e,z⟩
  ·exact .inl l
  ·exact .inr ⟨k,c,e,cellK x c e _ z⟩
 ·obtain ⟨v,z⟩:=I.cell x c e
  exact ⟨v,cellK x c e v z⟩
 ·obtain ⟨m,⟨o,_,_,ho,_⟩,_⟩:=I.loc
  exact free _ o (fun z=>(hch _ z).2.1 rfl) ho I.free
 ·obtain ⟨v,o,ho,hd⟩:=I.cell x c e
  rcases I.freeC x c e with fc | ⟨fn,of,u,fc⟩
  ·exact .inl (free c o (fun z=>(hch c z).2.2.1 x c e rfl) ho fc)
  ·exact .inr ⟨fn,of,u,frzs c _ _ fc⟩
 ·obtain ⟨e,n,ne,nf,d⟩:=I.pin p hp
  have nch:p.1∉ch:=fun z=>(hch p.1 z).2.2.2 p hp rfl
  exact ⟨keep p.1 p.2 ne nf nch e n,free p.1 p.2 nch e n,ne,nf,d⟩
theorem Inv.un (I:Inv X pins σ H s)(u:Un X.fs [] H H' s.heap h')(hok:HOk X.prog X.w H' h'):Inv X pins σ H' { s with heap:=h',toks:=t' }:=by
 obtain ⟨m,⟨o,es,ep,ho,r⟩,_⟩:=id I.loc
 obtain ⟨sl,hL⟩:=u.any ho I.free (by simp)
 exact I.step (g':=s.gens) (d':=s.drawn) (ch:=[]) (fun _ z=>nomatch z) (fun b o _ hb _ e n=>u.keep b o e n hb (by simp)) (fun b o _ hb _ e n=>u.slot b o e n hb (by simp)) (fun b o _ e n=>u.free b o e n (by simp)) (fun b o _ e=>u.there b o e (by simp)) u.tups u.frzs u.tbls (fun m' hm=>by
  obtain ⟨o',es',ep',ho',r'⟩:=hm
  rw [ho] at ho';cases ho'
  exact ⟨_,es',ep',hL,r'⟩) hok I.bare
theorem Inv.call {g':Array GenState}{d':Drawn}{ch:List Addr}(I:Inv X pins σ H s)(u:Un (frs X.stack) ch H H' s.heap h')(hok:HOk X.prog X.w H' h')(hg:AllBare g')
  (hch:∀ b∈ch,(b∈X.ex∨X.s₀.heap.objs.size≤b)∧b≠X.env.locals∧(∀ x c,X.env.cells.lookup x=some c→c≠b)∧∀ p∈X.pn++pins,p.1≠b) :
  Inv X pins σ H' { s with heap:=h',gens:=g',drawn:=d',toks:=t' }:=by
 obtain ⟨m,⟨o,es,ep,ho,r⟩,_⟩:=id I.loc
 obtain ⟨sl,hL⟩:=u.any ho I.free fun z=>(hch _ z).2.1 rfl
 exact I.step (ch:=ch) hch (fun b o hL hb hc e n=>u.keep b o e n (fun z=>(List.mem_cons.mp (I.stkSub b z)).elim hL hb) hc) (fun b o _ _ hc e n=>u.any e n hc) (fun b o hc e n=>u.free b o e n hc) (fun b o hc e=>u.there b o e hc) u.tups u.frzs u.tbls (fun m' hm=>by
  obtain ⟨o',es',ep',ho',r'⟩:=hm
  rw [ho] at ho';cases ho'
  exact ⟨_,es',ep',hL,r'⟩) hok hg
theorem Inv.turned {it:Addr}(I:Inv X pins σ H s)(k:∀ b o,b≠it→s.heap.get? b=some o→h'.get? b=some o)(hn:H it=none)(hL:it≠X.env.locals)
  (h1:it∈X.ex∨X.s₀.heap.objs.size≤it) (h2:∀ x c,X.env.cells.lookup x=some c→c≠it) (h3:∀ p∈X.pn++pins,p.1≠it):Inv X pins σ H { s with heap:=h',toks:=t' }:=by
 have nit:∀ b u,H b=some u→b≠it:=fun b u e z=>by rw [z,hn] at e;cases e
 refine I.step (g':=s.gens) (d':=s.drawn) (ch:=[it]) (fun b hb=>?_) (fun b o _ _ hc e _=>k b o (fun z=>hc (by simp [z])) e) (fun b o _ _ hc e _=>⟨o.slots,k b o (fun z=>hc (by simp [z])) e⟩) (fun _ _ _ _ n=>n)
  (fun b o hc e=>⟨o,k b o (fun z=>hc (by simp [z])) e⟩) (fun _ _ e=>e) (fun _ _ _ e=>e) (fun _ _ e=>e) (fun m hm=>?_) (fun b u e=>?_) I.bare
 ·have e:b=it:=by simpa using hb
  subst e
  exact ⟨h1,hL,h2,h3⟩
 ·obtain ⟨o,es,ep,ho,r⟩:=hm
  exact ⟨o,es,ep,k _ o (Ne.symm hL) ho,r⟩
 ·refine (I.hok b u e).stay (fun c v hc q=>k c v ?_ q) (fun _ q=>q) fun _ _ q=>q
  rcases hc with z | z
  ·rw [z];exact nit b u e
  ·exact nit c _ z
theorem Inv.tok (I:Inv X pins σ H s)(t:Nat):Inv X pins σ H { s with toks:=t }:=I.un (h':=s.heap) (t':=t) Un.refl I.hok
theorem Inv.kept (I:Inv X pins σ H s)(k:∀ b u,s.heap.get? b=some u→h'.get? b=some u):Inv X pins σ H { s with heap:=h',toks:=t' }:=I.un (Un.kept k) (I.hok.kept k)
theorem Inv.laid {a:Addr}(I:Inv X pins σ H s)(k:∀ b u,s.heap.get? b=some u→h'.get? b=some u)(hp:s.heap.objs.size≤a)(new:ObjOk X.prog X.w (upd H a o) h' a o) :
  Inv X pins σ (upd H a o) { s with heap:=h',toks:=t' }:=I.un (Un.laid k hp (I.hok.fresh hp)) (I.hok.laid k hp new)
theorem Inv.write {x e:Addr}(I:Inv X pins σ H s)(mu:Mut (H x))(he:e=x∨H e=some (.own x))(k:∀ b u,b≠e→s.heap.get? b=some u→h'.get? b=some u)(heo:∃ u,h'.get? e=some u)
  (new:ObjOk X.prog X.w (upd H x o) h' x o):Inv X pins σ (upd H x o) { s with heap:=h',toks:=t' }:=I.un (Un.write mu he k heo) (I.hok.write mu he k heo new)
theorem Inv.pins_of {pins':List (Addr×Obj)}(I:Inv X pins σ H s)(h:∀ p∈pins',s.heap.get? p.1=some p.2∧H p.1=none∧p.1≠X.env.locals∧p.1∉X.fs∧∀ v,p.2.data≠.cell v):Inv X pins' σ H s :=
 ⟨I.ok,I.os,I.bare,I.base,I.loc,I.cell,I.free,I.freeC,fun p hp=>(List.mem_append.mp hp).elim (fun z=>I.pin p (List.mem_append_left _ z)) (h p),I.hok,I.len⟩
theorem Qqa (hN:N.Nodup){i j:Nat}{x:Str}(a:N[i]?=some x)(b:N[j]?=some x):i=j:=by
 obtain ⟨h1,e1⟩:=List.getElem?_eq_some_iff.mp a
 obtain ⟨h2,e2⟩:=List.getElem?_eq_some_iff.mp b
 exact (List.getElem_inj hN).mp (e1.trans e2.symm)
theorem Qvv {M:Model}{E:Value→Shared→Prop}{i:Nat}{x:Str}{v:V}{u:Value}{Q:Unit→Shared→Prop}(I:Inv X pins σ H s)(hN:X.N.Nodup)(hi:X.N[i]?=some x)(hx:Loc X.env.scope x)(r:RelV v u)
  (h:∀ s',Inv X pins (σ.set i (some v)) H s'→(∃ a,Heap.SameBut a s.heap s'.heap∧(a=X.env.locals∨X.env.cells.lookup x=some a))→Q () s') (hf:X.fn x=true∨X.env.scope.names.lookup x=some .local:=by first | exact .inl rfl | exact .inr rfl | assumption):wpAny M A (storeName X.env x u) Q E s:=by
 obtain ⟨m,hn,hl⟩:=id I.loc
 have hcls:(X.env.scope.kind==.class||(X.env.scope.kind==.module&&X.env.locals != X.env.globals))=false:=by rw [I.ok.kind];rfl
 have hiσ:i<σ.length:=by rw [I.len];exact (List.getElem?_eq_some_iff.mp hi).1
 have cne:=I.cne
 have tracked:∀ {a:Addr} {h':Heap},(∃ o,s.heap.get? a=some o∧H a=none)→Heap.SameBut a s.heap h'→HOk X.prog X.w H h':=fun {a h'} ha hs b ob e=>by
  obtain ⟨_,_,hfree⟩:=ha
  refine (I.hok b ob e).stay (fun c w' hc q=>(hs.2 c ?_).trans q) (fun _ q=>q) fun _ _ q=>q
  rintro rfl
  rcases hc with rfl | hc
  ·rw [hfree] at e;cases e
  ·rw [hfree] at hc;cases hc
 rcases hx with hk | hk
 ·refine wpAny_storeName_local hk hn (fun h' hn' hs=>?_) hcls
  obtain ⟨oL,_,_,hoL,_⟩:=id hn
  refine h _ ⟨I.ok,I.os,I.bare,⟨fun b o e n hb hx=>?_,fun b o e n hb hx=>?_,I.base.free,fun b o e hx=>?_,I.base.tups,I.base.frzs,I.base.tbls⟩,⟨_,hn',fun j y v' e1 e2 e3=>?_⟩,fun y c e=>?_,I.free,I.freeC,fun p hp=>?_,tracked ⟨oL,hoL,I.free⟩ hs,by simpa using I.len⟩ ⟨_,hs,.inl rfl⟩
  ·exact (hs.2 b (Nat.ne_of_lt (Nat.lt_of_lt_of_le (Heap.lt_size e) I.ok.above))).trans (I.base.keep b o e n hb hx)
  ·obtain ⟨sl,e1⟩:=I.base.slot b o e n hb hx
   exact ⟨sl,(hs.2 b (Nat.ne_of_lt (Nat.lt_of_lt_of_le (Heap.lt_size e) I.ok.above))).trans e1⟩
  ·obtain ⟨o',e1⟩:=I.base.there b o e hx
   exact ⟨o',(hs.2 b (Nat.ne_of_lt (Nat.lt_of_lt_of_le (Heap.lt_size e) I.ok.above))).trans e1⟩
  ·by_cases hj:j=i
   ·subst hj
    rw [hi] at e1;cases e1
    rw [List.getElem?_set_self hiσ] at e2
    cases e2
    exact ⟨u,r,.inl ⟨hk,by simp⟩⟩
   ·rw [List.getElem?_set_ne (Ne.symm hj)] at e2
    obtain ⟨u',r',q⟩:=hl j y v' e1 e2 e3
    refine ⟨u',r',?_⟩
    rcases q with ⟨k,e⟩ | ⟨k,c,e,z⟩
    ·refine .inl ⟨k,?_⟩
     have:y≠x:=fun e=>hj (Qqa hN e1 (e ▸ hi))
     simp [this,e]
    ·exact .inr ⟨k,c,e,z.sameBut hs (cne y c e)⟩
  ·obtain ⟨w',z⟩:=I.cell y c e
   exact ⟨w',z.sameBut hs (cne y c e)⟩
  ·obtain ⟨e,n,ne,nf,d⟩:=I.pin p hp
   exact ⟨(hs.2 p.1 ne).trans e,n,ne,nf,d⟩
 ·have hfn:X.fn x=true:=by
   rcases hf with z | z
   ·exact z
   ·rw [z] at hk;cases hk
  obtain ⟨c,hc⟩:=I.ok.has x (.inl hk)
  obtain ⟨w',z⟩:=I.cell x c hc
  refine wpAny_storeName_cell I.ok.kind hk hc z (fun h' hc' hs=>?_)
  obtain ⟨oc,hoc,hocd⟩:=id z
  refine h { s with heap:=h' } ⟨I.ok,I.os,I.bare,⟨fun b o e n hb hx=>?_,fun b o e n hb hx=>?_,I.base.free,fun b o e hx=>?_,I.base.tups,I.base.frzs,I.base.tbls⟩,⟨m,hn.sameBut hs (Ne.symm (cne x c hc)),fun j y v' e1 e2 e3=>?_⟩,fun y c' e=>?_,I.free,I.freeC,fun p hp=>?_,tracked ⟨oc,hoc,(I.freeC x c hc).resolve_right fun z=>by rw [hfn] at z;cases z.1⟩ hs,by simpa using I.len⟩ ⟨c,hs,.inr hc⟩
  ·exact (hs.2 b (Nat.ne_of_lt (Nat.lt_of_lt_of_le (Heap.lt_size e) (I.ok.cab x c hfn hc)))).trans (I.base.keep b o e n hb hx)
  ·obtain ⟨sl,e1⟩:=I.base.slot b o e n hb hx
   exact ⟨sl,(hs.2 b (Nat.ne_of_lt (Nat.lt_of_lt_of_le (Heap.lt_size e) (I.ok.cab x c hfn hc)))).trans e1⟩
  ·obtain ⟨o',e1⟩:=I.base.there b o e hx
   exact ⟨o',(hs.2 b (Nat.ne_of_lt (Nat.lt_of_lt_of_le (Heap.lt_size e) (I.ok.cab x c hfn hc)))).trans e1⟩
  ·by_cases hj:j=i
   ·subst hj
    rw [hi] at e1;cases e1
    rw [List.getElem?_set_self hiσ] at e2
    cases e2
    exact ⟨u,r,.inr ⟨.inl hk,c,hc,hc'⟩⟩
   ·rw [List.getElem?_set_ne (Ne.symm hj)] at e2
    obtain ⟨u',r',q⟩:=hl j y v' e1 e2 e3
    refine ⟨u',r',?_⟩
    rcases q with q | ⟨k,c',e,z'⟩
    ·exact .inl q
    ·refine .inr ⟨k,c',e,z'.sameBut hs ?_⟩
     rintro rfl
     exact hj (Qqa hN e1 (I.ok.inj _ _ _ e hc ▸ hi))
  ·by_cases hcc:c'=c
   ·subst hcc;exact ⟨_,hc'⟩
   ·obtain ⟨w2,z2⟩:=I.cell y c' e
    exact ⟨w2,z2.sameBut hs hcc⟩
  ·obtain ⟨e,n,ne,nf,d⟩:=I.pin p hp
   refine ⟨(hs.2 p.1 ?_).trans e,n,ne,nf,d⟩
   intro q
   rw [q,hoc] at e
   have q':oc=p.2:=Option.some.inj e
   exact d w' (by rw [←q'];exact hocd)
theorem Qib {M:Model}{E:Value→Shared→Prop}{i:Nat}{x:Str}{v:V}{u:Value}{Q:Unit→Shared→Prop}(I:Inv X pins σ H s)(hN:X.N.Nodup)(hi:X.N[i]?=some x)(hx:Loc X.env.scope x)(r:RelV v u)
  (h:∀ s',Inv X pins (σ.set i (some v)) H s'→Q () s') (hf:X.fn x=true∨X.env.scope.names.lookup x=some .local:=by first | exact .inl rfl | exact .inr rfl | assumption):wpAny M A (storeName X.env x u) Q E s :=
 Qvv I hN hi hx r (fun s' I' _=>h s' I') hf
theorem Inv.call' {s':Shared}{ch:List Addr}(I:Inv X pins σ H s)(ho:s'.os=s.os)(u:Un (frs X.stack) ch H H' s.heap s'.heap)(hok:HOk X.prog X.w H' s'.heap)(hg:AllBare s'.gens)
  (hch:∀ b∈ch,(b∈X.ex∨X.s₀.heap.objs.size≤b)∧b≠X.env.locals∧(∀ x c,X.env.cells.lookup x=some c→c≠b)∧∀ p∈X.pn++pins,p.1≠b):Inv X pins σ H' s':=by
 obtain ⟨h',g',d',t',o'⟩:=s'
 have e:o'=s.os:=ho
 subst e
 exact I.call (g':=g') (t':=t') (d':=d') u hok hg hch
end
abbrev XK:=Value→Option Addr→Hp→Prop
abbrev St:=List (Option V)
variable {σ:St}
abbrev VK:=V→Hp→Prop
variable {Q:VK}
abbrev TE:=St→Hp→VK→Prop
variable {te:TE}
abbrev TT:=St→Hp→(Bool→Hp→Prop)→Prop
abbrev TA:=St→Hp→(List V→Hp→Prop)→Prop
structure Ends where
 nx:St→Hp→Prop
 rt:VK
 bk:St→Hp→Prop:=fun _ _=>False
 ct:St→Hp→Prop:=fun _ _=>False
variable {D:Ends}
abbrev TS:=Ends→St→Hp→Prop
def EP (X:Cx) (pins:List (Addr×Obj)) (σ:St) (Q:VK) (u:Value) (s':Shared):Prop:=∃ v H',Inv X pins σ H' s'∧RelV v u∧Q v H'
def TP (X:Cx) (pins:List (Addr×Obj)) (σ:St) (Q:Bool→Hp→Prop) (b:Bool) (s':Shared):Prop:=∃ H',Inv X pins σ H' s'∧Q b H'
def AP (X:Cx) (pins:List (Addr×Obj)) (σ:St) (Q:List V→Hp→Prop) (us:List Value) (s':Shared):Prop:=∃ vs H',Inv X pins σ H' s'∧Vals vs us∧Q vs H'
def SP (X:Cx) (pins:List (Addr×Obj)) (D:Ends) (f:Flow) (s':Shared):Prop :=
 match f with
 | .next=>∃ σ' H',Inv X pins σ' H' s'∧D.nx σ' H'
 | .brk=>∃ σ' H',Inv X pins σ' H' s'∧D.bk σ' H'
 | .cont=>∃ σ' H',Inv X pins σ' H' s'∧D.ct σ' H'
 | .ret u=>∃ v σ' H',Inv X pins σ' H' s'∧RelV v u∧D.rt v H'
def PE (X:Cx) (e:Expr) (t:TE):Prop :=
 ∀ (pins:List (Addr×Obj)) (s:Shared) (σ:St) (H:Hp) (Q:VK),Inv X pins σ H s→t σ H Q→wpAny (model X.prog X.w) X.A (eval e X.env) (EP X pins σ Q) X.xe s
def PT (X:Cx) (e:Expr) (t:TT):Prop :=
 ∀ (pins:List (Addr×Obj)) (s:Shared) (σ:St) (H:Hp) (Q:Bool→Hp→Prop),Inv X pins σ H s→t σ H Q→wpAny (model X.prog X.w) X.A (isTrue e X.env (eval e X.env)) (TP X pins σ Q) X.xe s
def PW (X:Cx) (e:Expr) (t:TT):Prop :=
 ∀ (whole:Sem Value) (pins:List (Addr×Obj)) (s:Shared) (σ:St) (H:Hp) (Q:Bool→Hp→Prop),Inv X pins σ H s→t σ H Q→wpAny (model X.prog X.w) X.A (isTrue e X.env whole) (TP X pins σ Q) X.xe s
theorem PW.pt {e:Expr}{t:TT}(h:PW X e t):PT X e t:=h _
def PA (X:Cx) (es:List Expr) (t:TA):Prop :=
 ∀ (pos:Pos) (pins:List (Addr×Obj)) (s:Shared) (σ:St) (H:Hp) (Q:List V→Hp→Prop),Inv X pins σ H s→t σ H Q→wpAny (model X.prog X.w) X.A (spliced (backTo pos (starEach es X.env))) (AP X pins σ Q) X.xe s
def PS (X:Cx) (st:Stmt) (t:TS):Prop :=
 ∀ (pins:List (Addr×Obj)) (s:Shared) (σ:St) (H:Hp) (D:Ends),Inv X pins σ H s→t D σ H→wpAny (model X.prog X.w) X.A (exec st X.env) (SP X pins D) X.xe s
def PSs (X:Cx) (st:List Stmt) (t:TS):Prop :=
 ∀ (pins:List (Addr×Obj)) (s:Shared) (σ:St) (H:Hp) (D:Ends),Inv X pins σ H s→t D σ H→wpAny (model X.prog X.w) X.A (execs st X.env) (SP X pins D) X.xe s
theorem thn {t:Sem α}{Q Q':α→Shared→Prop}{M:Model}{E:Value→Shared→Prop}(h:wpAny M A t Q E s)(hQ:∀ a s,Q a s→Q' a s):wpAny M A t Q' E s:=wpAny_mono h hQ fun _ _ x=>x
section
variable {X:Cx}
theorem bin {a b:Expr}{ta tb:TE}(ha:PE X a ta)(hb:PE X b tb){R:V→V→Hp→Prop}(I:Inv X pins σ H s)(h:ta σ H fun x H1=>tb σ H1 fun y H2=>R x y H2)
  {α:Type} {Q:α→Shared→Prop} {f:Value→Value→Sem α}
  (hf:∀ v u s2 x y H2,Inv X pins σ H2 s2→RelV x v→RelV y u→R x y H2→wpAny (model X.prog X.w) X.A (f v u) Q X.xe s2) :
  wpAny (model X.prog X.w) X.A (eval a X.env) (fun v s₁=>wpAny (model X.prog X.w) X.A (eval b X.env) (fun u s₂=>wpAny (model X.prog X.w) X.A (f v u) Q X.xe s₂) X.xe s₁) X.xe s:=by
 refine thn (ha pins s σ H _ I h) fun v s1 ⟨x,H1,I1,r1,q1⟩=>?_
 refine thn (hb pins s1 σ H1 _ I1 q1) fun u s2 ⟨y,H2,I2,r2,q2⟩=>?_
 exact hf v u s2 x y H2 I2 r1 r2 q2
abbrev Qcc (i:Nat):TE:=fun σ H Q=>∃ v,σ[i]?=some (some v)∧Q v H
abbrev tC (v:V):TE:=fun _ H Q=>Q v H
theorem Q7e {i:Nat}{x:Str}(hN:X.N[i]?=some x)(hv:Vis X.env.scope x)(hd:(x==("__debug__" : Str))=false:=by decide)(hcd:(x==("__classdict__" : Str))=false:=by decide):PE X (.Name x pos) (Qcc i):=by
 intro pins s σ H Q I h
 obtain ⟨v,e,h⟩:=h
 obtain ⟨m,hn,hl⟩:=I.loc
 obtain ⟨u,r,l⟩:=hl i x v hN e hv
 have fin:EP X pins σ Q u s:=⟨v,H,I,r,h⟩
 rcases l with ⟨hk,hm⟩ | ⟨hk,c,hc,hcell⟩
 ·exact wpAny_Name (wpAny_loadName_local I.ok.kind hk hn hm fin) hd
 ·rcases hk with hk | hk
  ·exact wpAny_Name (wpAny_loadName_cell I.ok.kind hk hc hcell fin) hd
  ·exact wpAny_Name (wpAny_loadName_free I.ok.kind hk hc hcell fin hcd) hd
theorem Q7f {i j pos}:PE X (.Constant (.int i) j pos) (tC (.int i)):=fun _ _ _ H _ I h=>wpAny_Constant_int ⟨.int i,H,I.tok _,⟨_,rfl⟩,h⟩
theorem Qaa6 {b j pos}:PE X (.Constant (.bool b) j pos) (tC (.bl b)):=fun _ _ _ H _ I h=>Constant_bool ⟨.bl b,H,I,rfl,h⟩
theorem Q7g {j pos}:PE X (.Constant .none j pos) (tC .non):=fun _ _ _ H _ I h=>Constant_none ⟨.non,H,I,rfl,h⟩
def Gl (X:Cx) (x:Str):Prop:=X.env.kindOf x=some .globalImplicit
theorem Qof {E:Value→Shared→Prop}{x:Str}{u:Value}{Q:Value→Shared→Prop}(I:Inv X pins σ H s)(hg:Gl X x)(hm:X.mg x=some u)(h:Q u s)
  (hd:(x==("__debug__" : Str))=false:=by decide):wpAny (model X.prog X.w) X.A (eval (.Name x pos) X.env) Q E s :=
 Calls.Name_function_global I.ok.kind hg (Calls.loadGlobal_global (by rw [I.ok.glob];exact I.mod.glob.keeps I.bk) hm h) hd
theorem Qjb {E:Value→Shared→Prop}{x:Str}{u:Value}{Q:Value→Shared→Prop}(I:Inv X pins σ H s)(hg:Gl X x)(hm:X.mg x=none)(hv:bootBuiltins x=some u)(h:Q u s)
  (hn:x ≠ "__name__" := by decide) (hd:(x==("__debug__" : Str))=false:=by decide):wpAny (model X.prog X.w) X.A (eval (.Name x pos) X.env) Q E s:=by
 obtain ⟨mb,h1,h2⟩:=I.mod.blt
 exact Calls.Name_function_global I.ok.kind hg (Calls.loadGlobal_builtin (by rw [I.ok.glob];exact I.mod.glob.keeps I.bk) hm (by rw [I.ok.blt];exact h1.keeps I.bk) ((h2 x hn).trans hv) h) hd
theorem Q17 {x:Str}{v:V}{u:Value}(hg:Gl X x)(hm:X.mg x=some u)(r:RelV v u)(hd:(x==("__debug__" : Str))=false:=by decide):PE X (.Name x pos) (tC v) :=
 fun _ _ _ H _ I h=>Qof I hg hm ⟨v,H,I,r,h⟩ hd
theorem Q18 {x:Str}{v:V}{u:Value}(hg:Gl X x)(hm:X.mg x=none)(hv:bootBuiltins x=some u)(r:RelV v u)(hn:x ≠ "__name__" := by decide)(hd:(x==("__debug__" : Str))=false:=by decide):PE X (.Name x pos) (tC v) :=
 fun _ _ _ H _ I h=>Qjb I hg hm hv ⟨v,H,I,r,h⟩ hn hd
variable {a b:Expr} {ta tb:TE} {pos:Pos}
def PC (X:Cx) (op:CmpOp) (a b:Expr) (t:TE):Prop :=
 ∀ (pins:List (Addr×Obj)) (s:Shared) (σ:St) (H:Hp) (Q:VK),Inv X pins σ H s→t σ H Q →
  wpAny (model X.prog X.w) X.A (eval a X.env) (fun v s₁=>wpAny (model X.prog X.w) X.A (eval b X.env) (fun u s₂=>wpAny (model X.prog X.w) X.A (compareOp op v u) (EP X pins σ Q) X.xe s₂) X.xe s₁) X.xe s
theorem Qw9 (b:Expr)(h:op≠.In)(h2:op≠.NotIn):behindInMarks op b=false:=by
 have e1:(op==CmpOp.In)=false:=by cases op <;> first | rfl | exact absurd rfl h
 have e2:(op==CmpOp.NotIn)=false:=by cases op <;> first | rfl | exact absurd rfl h2
 cases b <;> simp [behindInMarks,e1,e2]
abbrev tB (t:TE):TT:=fun σ H Q=>t σ H fun x H1=>∃ c,x=.bl c∧Q c H1
theorem Q7h {t:TE}(h:PC X op a b t)(h1:behindInMarks op b=false:=by first | exact Qw9 _ (by decide) (by decide) | rfl):PT X (.Compare a [op] [b] pos) (tB t):=by
 intro pins s σ H Q I hw
 refine wpAny_isTrue_Compare1 (thn (h pins s σ H _ I hw) fun v s1 h1=>thn h1 fun u s2 h2=>thn h2 fun c s3 ⟨x,H1,I1,r1,q1⟩=>?_) h1
 obtain ⟨d,rfl,q⟩:=q1
 cases r1
 exact wpAny_truthy_bool ⟨H1,I1,q⟩
theorem Q7i {e:Expr}{t:TE}(h:PE X e t)(he:∀ whole,isTrue e X.env whole=(do let v ← whole;standAt e.pos;holding [v] (truthy v)):=by intro _;rfl):PT X e (tB t):=by
 intro pins s σ H Q I hw
 refine isTrue_plain (thn (h pins s σ H _ I hw) fun v s1 ⟨x,H1,I1,r1,q1⟩=>?_) (he _)
 obtain ⟨d,rfl,q⟩:=q1
 cases r1
 exact wpAny_truthy_bool ⟨H1,I1,q⟩
variable {tA tB':TT} {rest:List Expr}
abbrev tAnd (t u:TT):TT:=fun σ H Q=>t σ H fun c H1=>if c=true then u σ H1 Q else Q false H1
abbrev tOr (t u:TT):TT:=fun σ H Q=>t σ H fun c H1=>if c=true then Q true H1 else u σ H1 Q
abbrev tNot (t:TT):TT:=fun σ H Q=>t σ H fun c H1=>Q (!c) H1
theorem Q19 (ha:PT X a tA):PW X (.BoolOp .And [a] pos) tA:=by
 intro wh pins s σ H Q I h
 refine isTrue_and (thn (ha pins s σ H Q I h) fun c s1 e=>?_)
 cases c with
 | true=>exact isTrue_and_nil e
 | false=>exact e
theorem Q7j (ha:PT X a tA):PW X (.BoolOp .Or [a] pos) tA:=by
 intro wh pins s σ H Q I h
 refine isTrue_or (thn (ha pins s σ H Q I h) fun c s1 e=>?_)
 cases c with
 | false=>exact isTrue_or_nil e
 | true=>exact e
theorem Q7k (ha:PT X a tA)(hb:PW X (.BoolOp .And (b::rest) pos) tB'):PW X (.BoolOp .And (a::b::rest) pos) (tAnd tA tB'):=by
 intro wh pins s σ H Q I h
 refine isTrue_and (thn (ha pins s σ H _ I h) fun c s1 ⟨H1,I1,q1⟩=>?_)
 cases c with
 | true=>exact hb wh pins s1 σ H1 Q I1 q1
 | false=>exact ⟨H1,I1,q1⟩
theorem Qaa9 (ha:PT X a tA)(hb:PW X (.BoolOp .Or (b::rest) pos) tB'):PW X (.BoolOp .Or (a::b::rest) pos) (tOr tA tB'):=by
 intro wh pins s σ H Q I h
 refine isTrue_or (thn (ha pins s σ H _ I h) fun c s1 ⟨H1,I1,q1⟩=>?_)
 cases c with
 | true=>exact ⟨H1,I1,q1⟩
 | false=>exact hb wh pins s1 σ H1 Q I1 q1
theorem Q7l (ha:PT X a tA):PT X (.UnaryOp .Not a pos) (tNot tA):=by
 intro pins s σ H Q I h
 exact isTrue_not (ha pins s σ H (fun c H1=>Q (!c) H1) I h)
abbrev Q5k (ta tb:TE):TE:=fun σ H Q=>ta σ H fun x H1=>∃ c,x=.bl c∧if c=true then tb σ H1 Q else Q (.bl false) H1
abbrev tOrV (ta tb:TE):TE:=fun σ H Q=>ta σ H fun x H1=>∃ c,x=.bl c∧if c=true then Q (.bl true) H1 else tb σ H1 Q
abbrev Q5l (ta:TE):TE:=fun σ H Q=>ta σ H fun x H1=>∃ c,x=.bl c∧Q (.bl (!c)) H1
theorem Q7m {op}{t:TE}(h:PE X a t):PE X (.BoolOp op [a] pos) t:=fun pins s σ H Q I hw=>BoolOp_one (h pins s σ H Q I hw)
theorem Q7n (ha:PE X a ta)(hb:PE X (.BoolOp .And (b::rest) pos) tb):PE X (.BoolOp .And (a::b::rest) pos) (Q5k ta tb):=by
 intro pins s σ H Q I h
 refine BoolOp_and (thn (ha pins s σ H _ I h) fun v s1 ⟨x,H1,I1,r1,q1⟩=>?_)
 obtain ⟨c,rfl,q1⟩:=q1
 cases r1
 refine wpAny_truthy_bool ?_
 cases c with
 | true=>exact hb pins s1 σ H1 Q I1 q1
 | false=>exact ⟨.bl false,H1,I1,rfl,q1⟩
theorem Qabb (ha:PE X a ta)(hb:PE X (.BoolOp .Or (b::rest) pos) tb):PE X (.BoolOp .Or (a::b::rest) pos) (tOrV ta tb):=by
 intro pins s σ H Q I h
 refine BoolOp_or (thn (ha pins s σ H _ I h) fun v s1 ⟨x,H1,I1,r1,q1⟩=>?_)
 obtain ⟨c,rfl,q1⟩:=q1
 cases r1
 refine wpAny_truthy_bool ?_
 cases c with
 | false=>exact hb pins s1 σ H1 Q I1 q1
 | true=>exact ⟨.bl true,H1,I1,rfl,q1⟩
theorem Q7o (ha:PE X a ta):PE X (.UnaryOp .Not a pos) (Q5l ta):=by
 intro pins s σ H Q I h
 refine UnaryOp_ (thn (ha pins s σ H _ I h) fun v s1 ⟨x,H1,I1,r1,q1⟩=>?_)
 obtain ⟨c,rfl,q1⟩:=q1
 cases r1
 exact not_of (wpAny_truthy_bool ⟨.bl (!c),H1,I1,rfl,q1⟩)
abbrev tIf (t:TT) (ta tb:TE):TE:=fun σ H Q=>t σ H fun c H1=>if c=true then ta σ H1 Q else tb σ H1 Q
theorem Qxa (hc:PT X c tA)(ha:PE X a ta)(hb:PE X b tb):PE X (.IfExp c a b pos) (tIf tA ta tb):=by
 intro pins s σ H Q I h
 refine wpAny_IfExp (thn (hc pins s σ H _ I h) fun d s1 ⟨H1,I1,q1⟩=>?_)
 cases d with
 | true=>exact ha pins s1 σ H1 Q I1 q1
 | false=>exact hb pins s1 σ H1 Q I1 q1
end
def SqL (K:Frg) (H:Hp) (a:Addr) (xs:List V):Prop :=
 Rd H a (.lst xs) ∨
  ∃ (o:Obj) (its:Array Value) (n:Nat),K.lookup a=some o∧o.cls=.type "list" ∧ o.dict=none∧o.data=.seq its n∧its.size≤sizeLine∧Vals xs its.toList
def SqT (K:Frg) (H:Hp) (a:Addr) (xs:List V):Prop :=
 Rd H a (.tup xs) ∨
  ∃ (o:Obj) (its:Array Value) (n:Nat),K.lookup a=some o∧o.cls=.type "tuple" ∧ o.data=.seq its n∧its.size≤sizeLine∧Vals xs its.toList
def absV:Value→Option V
 | .none=>some .non
 | .bool b=>some (.bl b)
 | .int i _=>some (.int i)
 | .str x _=>some (.str x)
 | .bytes b _=>some (.byt b)
 | .float b _=>some (.flt b)
 | .ref a=>some (.ref a)
 | .type n=>some (.ty n)
 | _=>none
theorem RelV.abs {x:V}{u:Value}(r:RelV x u):absV u=some x:=by
 cases x with
 | non=>cases r;rfl
 | bl _=>cases r;rfl
 | int _=>obtain ⟨t,rfl⟩:=r;rfl
 | str _=>obtain ⟨t,rfl⟩:=r;rfl
 | byt _=>obtain ⟨t,rfl⟩:=r;rfl
 | flt _=>obtain ⟨t,rfl⟩:=r;rfl
 | ref _=>cases r;rfl
 | ty _=>cases r;rfl
theorem RelV.inj {x y:V}{u:Value}(r:RelV x u)(q:RelV y u):x=y:=Option.some.inj (r.abs.symm.trans q.abs)
theorem Vals.inj:∀ {xs ys:List V} {us:List Value},Vals xs us→Vals ys us→xs=ys
 | _,_,_,.nil,.nil=>rfl
 | _,_,_,.cons r t,.cons r' t'=>by rw [r.inj r',Vals.inj t t']
section
variable {X:Cx} {pins:List (Addr×Obj)} {σ:St} {H:Hp} {s:Shared} {a:Addr} {xs ys:List V}
theorem SqL.of (h:H a=some (.lst xs)):SqL K H a xs:=.inl (.inl h)
theorem SqT.of (h:H a=some (.tup xs)):SqT K H a xs:=.inl (.inl h)
theorem Inv.list (I:Inv X pins σ H s)(h:SqL X.K H a xs):∃ its:List Value,Vals xs its∧PlainL s.heap a its.toArray∧xs.length≤sizeLine:=by
 rcases h with h | ⟨o,its,n,hk,hc,hd,hs,hz,r⟩
 ·obtain ⟨z,its,n,r,e⟩:=h.ok I.hok
  exact ⟨its,r,⟨_,n,e,rfl,rfl,rfl⟩,z⟩
 ·refine ⟨its.toList,r,⟨o,n,I.kIn a o hk,hc,hd,by simpa using hs⟩,?_⟩
  have e:=r.length
  simp only [Array.length_toList] at e
  omega
theorem Inv.tuple (I:Inv X pins σ H s)(h:SqT X.K H a xs):∃ its:List Value,Vals xs its∧IsTup s.heap a its.toArray∧xs.length≤sizeLine:=by
 rcases h with h | ⟨o,its,n,hk,hc,hs,hz,r⟩
 ·obtain ⟨z,its,r,p⟩:=h.ok I.hok
  exact ⟨its,r,p.tup,z⟩
 ·refine ⟨its.toList,r,⟨o,I.kIn a o hk,hc,n,by simpa using hs⟩,?_⟩
  have e:=r.length
  simp only [Array.length_toList] at e
  omega
theorem Inv.list_inj (I:Inv X pins σ H s)(h:SqL X.K H a xs)(h':SqL X.K H a ys):xs=ys:=by
 obtain ⟨its,r,⟨o,n,e,_,_,d⟩,_⟩:=I.list h
 obtain ⟨its',r',⟨o',n',e',_,_,d'⟩,_⟩:=I.list h'
 rw [e] at e';cases e'
 rw [d] at d'
 injection d' with d1 _
 have:its=its':=by simpa using congrArg Array.toList d1
 subst this
 exact r.inj r'
theorem Inv.tuple_inj (I:Inv X pins σ H s)(h:SqT X.K H a xs)(h':SqT X.K H a ys):xs=ys:=by
 obtain ⟨its,r,⟨o,e,_,n,d⟩,_⟩:=I.tuple h
 obtain ⟨its',r',⟨o',e',_,n',d'⟩,_⟩:=I.tuple h'
 rw [e] at e';cases e'
 rw [d] at d'
 injection d' with d1 _
 have:its=its':=by simpa using congrArg Array.toList d1
 subst this
 exact r.inj r'
end
abbrev Cx.wish (X:Cx) (E:Value→Shared→Prop):Cx:={ X with xe:=E }
abbrev Cx.nox (X:Cx):Cx:=X.wish fun _ _=>False
theorem Cx.Ok.wish (ok:X.Ok)(E:Value→Shared→Prop):(X.wish E).Ok :=
 ⟨ok.mod,ok.kind,ok.glob,ok.blt,ok.above,ok.inj,ok.has,ok.cab,ok.hd,ok.frames,ok.stk,ok.exf,ok.bs,ok.bsz,ok.noex,ok.exfs,ok.funs,ok.frf⟩
theorem Cx.Ok.unwish {E:Value→Shared→Prop}(ok:(X.wish E).Ok):X.Ok :=
 ⟨ok.mod,ok.kind,ok.glob,ok.blt,ok.above,ok.inj,ok.has,ok.cab,ok.hd,ok.frames,ok.stk,ok.exf,ok.bs,ok.bsz,ok.noex,ok.exfs,ok.funs,ok.frf⟩
section
variable {X:Cx} {pins:List (Addr×Obj)} {σ:St} {H:Hp} {s:Shared} {E:Value→Shared→Prop}
theorem Inv.wish (I:Inv X pins σ H s)(E:Value→Shared→Prop):Inv (X.wish E) pins σ H s:=⟨I.ok.wish E,I.os,I.bare,I.base,I.loc,I.cell,I.free,I.freeC,I.pin,I.hok,I.len⟩
theorem Inv.unwish (I:Inv (X.wish E) pins σ H s):Inv X pins σ H s:=⟨I.ok.unwish,I.os,I.bare,I.base,I.loc,I.cell,I.free,I.freeC,I.pin,I.hok,I.len⟩
theorem SP.unwish {f:Flow}{s':Shared}(h:SP (X.wish E) pins D f s'):SP X pins D f s':=by
 cases f with
 | next=>obtain ⟨σ',H',I,q⟩:=h;exact ⟨σ',H',I.unwish,q⟩
 | brk=>obtain ⟨σ',H',I,q⟩:=h;exact ⟨σ',H',I.unwish,q⟩
 | cont=>obtain ⟨σ',H',I,q⟩:=h;exact ⟨σ',H',I.unwish,q⟩
 | ret u=>obtain ⟨v,σ',H',I,r,q⟩:=h;exact ⟨v,σ',H',I.unwish,r,q⟩
theorem PSs.nox {st:List Stmt}{t:TS}(h:PSs X.nox st t):PSs X st t:=fun pins s σ H D I hw =>
 wpAny_mono (h pins s σ H D (I.wish _) hw) (fun _ _ q=>q.unwish) fun _ _ z=>False.elim z
end
section
variable {X:Cx} {st:Stmt} {rest:List Stmt} {t u:TS} {e:Expr} {te:TE} {pos:Pos}
abbrev Qm7:TS:=fun D σ H=>D.nx σ H
abbrev Qgs (t u:TS):TS:=fun D σ H=>t { D with nx:=u D } σ H
theorem Q2a:PSs X [] Qm7:=fun _ _ σ H _ I h=>wpAny_execs_nil ⟨σ,H,I,h⟩
theorem Qxb (h1:PS X st t)(h2:PSs X rest u):PSs X (st::rest) (Qgs t u):=by
 intro pins s σ H D I h
 refine wpAny_execs_cons (thn (h1 pins s σ H { D with nx:=u D } I h) fun f s1 q=>?_)
 cases f with
 | next =>
  obtain ⟨σ',H',I',q⟩:=q
  exact h2 pins s1 σ' H' D I' q
 | ret v=>exact q
 | brk=>exact q
 | cont=>exact q
theorem Q2b (h1:PS X st t):PSs X [st] t:=by
 intro pins s σ H D I h
 refine wpAny_execs_cons (thn (h1 pins s σ H D I h) fun f s1 q=>?_)
 cases f with
 | next=>exact wpAny_execs_nil q
 | ret v=>exact q
 | brk=>exact q
 | cont=>exact q
theorem Inv.quiet (I:Inv X pins σ H s):interactive X.env=false:=by simp [interactive,I.ok.kind]
abbrev Qhq (te:TE):TS:=fun D σ H=>te σ H fun _ H1=>D.nx σ H1
theorem Q2c (he:PE X e te)(hs:swapsWith e none pos.line X.env=pure false:=by rfl):PS X (.Expr e pos) (Qhq te):=by
 intro pins s σ H D I h
 exact wpAny_Expr_any (thn (he pins s σ H _ I h) fun v s1 ⟨x,H1,I1,r1,q1⟩=>⟨σ,H1,I1,q1⟩) I.quiet hs
abbrev Q7p (te:TE):TS:=fun D σ H=>te σ H D.rt
theorem Q7q (he:PE X e te):PS X (.Return (some e) pos) (Q7p te):=by
 intro pins s σ H D I h
 exact wpAny_Return_some (thn (he pins s σ H _ I h) fun v s1 ⟨x,H1,I1,r1,q1⟩=>⟨x,σ,H1,I1,r1,q1⟩)
abbrev Qvw (c:TT) (t u:TS):TS:=fun D σ H=>c σ H fun b H1=>if b=true then t D σ H1 else u D σ H1
theorem Qabc {a b:List Stmt}{tc:TT}(hc:PT X c tc)(ha:PSs X a t)(hb:PSs X b u):PS X (.If c a b pos) (Qvw tc t u):=by
 intro pins s σ H D I h
 refine wpAny_If (thn (hc pins s σ H _ I h) fun d s1 ⟨H1,I1,q1⟩=>?_)
 cases d with
 | true=>exact ha pins s1 σ H1 D I1 q1
 | false=>exact hb pins s1 σ H1 D I1 q1
end
abbrev TG:=V→St→Hp→(St→Hp→Prop)→Prop
variable {g:TG}
abbrev TGs:=List V→St→Hp→(St→Hp→Prop)→Prop
def PG (X:Cx) (target:Expr) (t:TG):Prop :=
 ∀ (pins:List (Addr×Obj)) (s:Shared) (σ:St) (H:Hp) (v:V) (u:Value) (Q:St→Hp→Prop),Inv X pins σ H s→RelV v u→t v σ H Q →
  wpAny (model X.prog X.w) X.A (assign target X.env u) (fun _ s'=>∃ σ' H',Inv X pins σ' H' s'∧Q σ' H') X.xe s
def PGs (X:Cx) (ts:List Expr) (t:TGs):Prop :=
 ∀ (pins:List (Addr×Obj)) (s:Shared) (σ:St) (H:Hp) (vs:List V) (us:List Value) (Q:St→Hp→Prop),Inv X pins σ H s→Vals vs us→t vs σ H Q →
  wpAny (model X.prog X.w) X.A (assignInOrder ((assignEach ts X.env).map (·.2)) us) (fun _ s'=>∃ σ' H',Inv X pins σ' H' s'∧Q σ' H') X.xe s
abbrev Q7r:=V→V→V→Hp→(Hp→Prop)→Prop
def PSet (X:Cx) (t:Q7r):Prop :=
 ∀ (pins:List (Addr×Obj)) (s:Shared) (σ:St) (H:Hp) (o i v:V) (ov iv u:Value) (Q:Hp→Prop),Inv X pins σ H s→RelV o ov→RelV i iv→RelV v u→t o i v H Q →
  wpAny (model X.prog X.w) X.A (setItem ov iv u) (fun _ s'=>∃ H',Inv X pins σ H' s'∧Q H') X.xe s
section
variable {X:Cx} {pos:Pos}
abbrev Qc0 (i:Nat):TG:=fun v σ H Q=>Q (σ.set i (some v)) H
theorem Q2d {i:Nat}{x:Str}(hN:X.N.Nodup)(hi:X.N[i]?=some x)(hx:Loc X.env.scope x)(hf:X.fn x=true∨X.env.scope.names.lookup x=some .local:=by first | exact .inl rfl | exact .inr rfl | assumption):PG X (.Name x pos) (Qc0 i):=by
 intro pins s σ H v u Q I r h
 exact wpAny_assign_Name (Qib I hN hi hx r (fun s' I'=>⟨_,H,I',h⟩) hf)
abbrev Q7s:TGs:=fun vs σ H Q=>vs=[]∧Q σ H
abbrev Qxc (t:TG) (u:TGs):TGs:=fun vs σ H Q=>∃ v r,vs=v::r∧t v σ H fun σ' H'=>u r σ' H' Q
theorem Q2e:PGs X [] Q7s:=by
 intro pins s σ H vs us Q I r h
 obtain ⟨e,h⟩:=h
 subst e
 cases r
 exact assignInOrder_nil ⟨σ,H,I,h⟩
theorem Qxd {e:Expr}{t:TG}{u:TGs}(h1:PG X e t)(h2:PGs X es u)
  (hs:(assignEach (e::es) X.env).map (·.2)=assign e X.env::(assignEach es X.env).map (·.2):=by rfl):PGs X (e::es) (Qxc t u):=by
 intro pins s σ H vs us Q I r h
 obtain ⟨v,vr,e1,h⟩:=h
 subst e1
 cases r with
 | cons r rr =>
  rw [hs]
  refine assignInOrder_cons (thn (h1 pins s σ H _ _ _ I r h) fun _ s1 ⟨σ1,H1,I1,q1⟩=>?_)
  exact h2 pins s1 σ1 H1 _ _ Q I1 rr q1
def Q2f (K:Frg) (n:Nat) (t:TGs):TG:=fun v σ H Q=>∃ a xs,v=.ref a∧SqT K H a xs∧xs.length=n∧t xs σ H Q
theorem Q7t {t:TGs}(hc:X.calm=true)(h:PGs X es t)
  (hn:(assignEach es X.env).length=n:=by rfl) (hst:(assignEach es X.env).findIdx? (·.1)=none:=by rfl):PG X (.Tuple es k pos) (Q2f X.K n t):=by
 intro pins s σ H v u Q I r hw
 obtain ⟨a,xs,e1,hq,hl,hw⟩:=hw
 subst e1
 cases r
 obtain ⟨its,rv,ht,hz⟩:=I.tuple hq
 refine assign_Tuple_tuple (I.ok.hd hc) ht (by simp [hn,←hl,rv.length]) hst fun h' hx=>?_
 have I1:Inv X pins σ H { s with heap:=h' }:=I.kept (t':=s.toks) fun b o e=>hx b o (Nat.ne_of_lt (Heap.lt_size e)) e
 exact h pins _ σ H xs _ Q I1 (by simpa using rv) hw
abbrev Qqb (to ti:TE) (t:Q7r):TG:=fun v σ H Q=>to σ H fun o H1=>ti σ H1 fun i H2=>t o i v H2 fun H3=>Q σ H3
theorem Q7u {o i:Expr}{to ti:TE}{t:Q7r}(ho:PE X o to)(hi:PE X i ti)(hs:PSet X t)
  (ha:∀ v,assign (.Subscript o i pos) X.env v=(do
   let ov ← holding [v] (eval o X.env)
   let iv ← holding [v,ov] (eval i X.env)
   standAt pos
   holding [v,ov,iv] (setItem ov iv v)
   release [v,ov,iv] []):=by intro _;rfl):PG X (.Subscript o i pos) (Qqb to ti t):=by
 intro pins s σ H v u Q I r h
 rw [ha]
 refine wpAny_bind (wpAny_holding (thn (ho pins s σ H _ I h) fun ov s1 ⟨x,H1,I1,r1,q1⟩=>?_))
 refine wpAny_bind (wpAny_holding (thn (hi pins s1 σ H1 _ I1 q1) fun iv s2 ⟨y,H2,I2,r2,q2⟩=>?_))
 refine wpAny_bind (wpAny_standAt (wpAny_bind (wpAny_holding (thn (hs pins s2 σ H2 x y v ov iv u _ I2 r1 r2 r q2) fun _ s3 ⟨H3,I3,q3⟩=>?_))))
 exact wpAny_release ⟨σ,H3,I3,q3⟩
abbrev Qhz (te:TE) (g:TG):TS:=fun D σ H=>te σ H fun x H1=>g x σ H1 D.nx
theorem Q7v {e:Expr}(he:PE X e te)(hg:PG X tg g)(hs:swapsWithSole [tg] e pos.line X.env=pure false:=by rfl)(hw:swappedStores [tg] e X.env=pure none:=by rfl)
  (h1:(assignEach [tg] X.env).map (·.2)=[assign tg X.env]:=by rfl):PS X (.Assign [tg] e pos) (Qhz te g):=by
 intro pins s σ H D I h
 refine wpAny_Assign_stores (thn (he pins s σ H _ I h) fun v s1 ⟨x,H1,I1,r1,q1⟩=>?_) hs hw
 rw [h1]
 exact thn (hg pins s1 σ H1 x v _ I1 r1 q1) fun _ s2 q=>q
theorem Q7w {i:Nat}{x:Str}{e:Expr}{pos':Pos}(hN:X.N.Nodup)(hi:X.N[i]?=some x)(hx:Loc X.env.scope x)(he:PE X e te)(hs:swapsWith e (some (.Name x pos')) pos.line X.env=pure false:=by rfl)(hf:X.fn x=true∨X.env.scope.names.lookup x=some .local:=by first | exact .inl rfl | exact .inr rfl | assumption) :
  PS X (.Assign [.Name x pos'] e pos) (Qhz te (Qc0 i)):=by
 intro pins s σ H D I h
 refine wpAny_Assign_Name (thn (he pins s σ H _ I h) fun v s1 ⟨y,H1,I1,r1,q1⟩=>?_) hs
 exact Qib I1 hN hi hx r1 (fun s2 I2=>⟨_,H1,I2,q1⟩) hf
abbrev Q2g (i j:Nat) (ta:TA):TS:=fun D σ H=>ta σ H fun vs H1=>∃ v w,vs=[v,w]∧D.nx ((σ.set i (some v)).set j (some w)) H1
theorem Q7x {i j:Nat}{x y:Str}{a b:Expr}{ta:TA}{px py pt:Pos}{kt k2 pt2}(hc:X.calm=true)(hN:X.N.Nodup)(hi:X.N[i]?=some x)(hj:X.N[j]?=some y)(hij:i≠j)
  (hx:X.env.scope.names.lookup x=some .local) (hy:X.env.scope.names.lookup y=some .local) (ha:PA X [a,b] ta)
  (hw:swappedStores [.Tuple [.Name x px,.Name y py] kt pt] (.Tuple [a,b] k2 pt2) X.env=pure (some [x,y]))
  (hs:swapsWithSole [.Tuple [.Name x px,.Name y py] kt pt] (.Tuple [a,b] k2 pt2) pos.line X.env=pure false:=by rfl) :
  PS X (.Assign [.Tuple [.Name x px,.Name y py] kt pt] (.Tuple [a,b] k2 pt2) pos) (Q2g i j ta):=by
 intro pins s σ H D I h
 rw [exec_Assign_arm]
 refine wpAny_bind (wpAny_standAt ?_)
 rw [hs]
 refine wpAny_bind (wpAny_pure ?_)
 rw [if_neg (by decide)]
 refine wpAny_bind (Tuple_ (thn (ha _ pins s σ H _ I h) fun us s1 ⟨vs,H1,I1,r1,q1⟩=>?_))
 obtain ⟨v,w,e1,q1⟩:=q1
 subst e1
 obtain ⟨u1,u2,rfl,rv,rw'⟩:∃ u1 u2,us=[u1,u2]∧RelV v u1∧RelV w u2:=by
  cases r1 with
  | cons p q =>
   cases q with
   | cons p' q' =>
    cases q'
    exact ⟨_,_,rfl,p,p'⟩
 refine wpAny_newObj_type ?_ (by show 2≤sizeLine;decide)
 have I2:Inv X pins σ H1 { s1 with heap:=s1.heap.push { cls:=.type "tuple",data:=.seq [u1,u2].toArray } }:=I1.kept (t':=s1.toks) fun b o e=>Heap.get?_push_of_some _ e
 rw [hw]
 refine wpAny_bind (wpAny_pure ?_)
 show wpAny (model X.prog X.w) X.A (do rule "assign.swapped-stores";let items ← unpackItems (.ref s1.heap.objs.size) 2 none;assignInOrder [fun v=>bindName X.env y v,fun v=>bindName X.env x v] items.reverse;pure Flow.next) _ _ _
 refine wpAny_bind (wpAny_rule (wpAny_bind (unpackItems_tuple (items:=#[u1,u2]) (I.ok.hd hc) (IsTup.new s1.heap _) fun h' hx'=>?_)))
 have I3:=I2.kept (h':=h') (t':=s1.toks) fun b o e=>hx' b o (Nat.ne_of_lt (Heap.lt_size e)) e
 show wpAny _ _ (assignInOrder [fun v=>bindName X.env y v,fun v=>bindName X.env x v] [u2,u1] >>= fun _=>pure Flow.next) _ _ _
 refine wpAny_bind (assignInOrder_cons (wpAny_bindName (Qib I3 hN hj (.inl hy) rw' (fun s2 I4=>?_) (.inr hy))))
 refine assignInOrder_cons (wpAny_bindName (Qib I4 hN hi (.inl hx) rv (fun s3 I5=>assignInOrder_nil (wpAny_pure ?_)) (.inr hx)))
 rw [List.set_comm _ _ (Ne.symm hij)] at I5
 exact ⟨_,H1,I5,q1⟩
end
section
variable {X:Cx} {pos:Pos}
def Qxe (c:TT) (tb:TS):TS:=fun D σ H=>∃ W:Nat→St→Hp→Prop,(∃ m,W m σ H)∧∀ m σ H,W m σ H →
 c σ H fun b H1=>if b=true then ∃ N:St→Hp→Prop,(∀ σ' H',N σ' H'→∃ m',m'<m∧W m' σ' H')∧tb { D with nx:=N,ct:=N,bk:=D.nx } σ H1 else D.nx σ H1
theorem Qxf {tc:TT}{tb:TS}(hp:PassesOwn (model X.prog X.w) X.A X.env X.xe)(hc:PT X c tc)(hb:PSs X body tb):PS X (.While c body [] pos) (Qxe tc tb):=by
 intro pins s σ H D I h
 obtain ⟨W,⟨m0,w0⟩,turn⟩:=h
 refine wpAny_While (codeAny_whileLoop (fun n s'=>∃ σ' H',Inv X pins σ' H' s'∧W n σ' H') ?_ m0 ⟨σ,H,I,w0⟩)
 rintro n s1 ⟨σ1,H1,I1,w1⟩
 refine wpAny_passesOwn hp (thn (hc pins s1 σ1 H1 _ I1 (turn n σ1 H1 w1)) fun b s2 ⟨H2,I2,q2⟩=>?_)
 cases b with
 | true =>
  obtain ⟨N,hN,q2⟩:=q2
  rw [if_pos rfl]
  refine wpAny_passesOwn hp (thn (hb pins s2 σ1 H2 _ I2 q2) fun f s3 q3=>?_)
  cases f with
  | next =>
   obtain ⟨σ3,H3,I3,n3⟩:=q3
   obtain ⟨m',hm,w3⟩:=hN σ3 H3 n3
   exact ⟨m',hm,σ3,H3,I3,w3⟩
  | cont =>
   obtain ⟨σ3,H3,I3,n3⟩:=q3
   obtain ⟨m',hm,w3⟩:=hN σ3 H3 n3
   exact ⟨m',hm,σ3,H3,I3,w3⟩
  | brk=>exact q3
  | ret v=>exact q3
 | false =>
  rw [if_neg Bool.false_ne_true]
  exact wpAny_execs_nil ⟨σ1,H2,I2,q2⟩
end
structure It where
 go:Nat→Hp→Prop
 yld:Nat→Hp→V→Hp→Prop
 stop:Nat→Hp→Prop
def Qh0 (X:Cx) (pins:List (Addr×Obj)) (H:Hp) (b:Addr):Prop :=
 H b=none∧b≠X.env.locals∧b∉X.fs∧(b∈X.ex∨X.s₀.heap.objs.size≤b)∧(∀ x c,X.env.cells.lookup x=some c→c≠b)∧∀ p∈X.pn++pins,p.1≠b
theorem Inv.fpOk {b:Addr}(I:Inv X pins σ H s)(hb:s.heap.objs.size≤b)(hn:H' b=none):Qh0 X pins H' b:=by
 refine ⟨hn,Nat.ne_of_gt (Nat.lt_of_lt_of_le I.lt hb),I.nofs hb,.inr (Nat.le_trans I.sz hb),fun x c e z=>?_,fun p hp z=>?_⟩
 ·obtain ⟨v,q⟩:=I.cell x c e
  exact absurd (Nat.lt_of_lt_of_le q.lt (by rw [z];exact hb)) (Nat.lt_irrefl _)
 ·exact absurd (Nat.lt_of_lt_of_le (Heap.lt_size (I.pin p hp).1) (by rw [z];exact hb)) (Nat.lt_irrefl _)
structure Turn (P:Program) (w:World) (K:Frg) (tg:Expr) (J:It) (fp:List Addr) (it:Addr) (tn:Nat→Heap→Prop):Prop where
 mem:it∈fp
 obj:∀ i h,tn i h→∀ b∈fp,∃ o,h.get? b=some o∧∀ v,o.data≠.cell v
 keep:∀ i h h',tn i h→(∀ b∈fp,∀ o,h.get? b=some o→h'.get? b=some o)→tn i h'
 item:∀ (X:Cx),X.prog=P→X.w=w→X.K=K→X.calm=true→∀ (i:Nat) (pins:List (Addr×Obj)) (s:Shared) (σ:St) (H:Hp) (E:Value→Shared→Prop),Inv X pins σ H s→(∀ b∈fp,Qh0 X pins H b)→tn i s.heap→J.go i H →
  wpAny (model P w) X.A (pyNext (.ref it)) (fun r s1=>∃ u,r=some u ∧
   wpAny (model P w) X.A (letOwnedTupleGo tg (.ref it) u) (fun _ s2=>∃ x H',Inv X pins σ H' s2∧RelV x u∧J.yld i H x H'∧tn (i+1) s2.heap∧∀ b∈fp,H' b=none) E s1) E s
 done:∀ (X:Cx),X.prog=P→X.w=w→X.K=K→X.calm=true→∀ (i:Nat) (pins:List (Addr×Obj)) (s:Shared) (σ:St) (H:Hp) (E:Value→Shared→Prop),Inv X pins σ H s→(∀ b∈fp,Qh0 X pins H b)→tn i s.heap→J.stop i H →
  wpAny (model P w) X.A (pyNext (.ref it)) (fun r s1=>r=none∧Inv X pins σ H s1) E s
 self:∀ (A:Around) (i:Nat) (s:Shared) (Q:Value→Shared→Prop) (E:Value→Shared→Prop),tn i s.heap→Q (.ref it) s→wpAny (model P w) A (pyIter (.ref it)) Q E s
abbrev TI:=St→Hp→(It→Hp→Prop)→Prop
def PIE (X:Cx) (pins:List (Addr×Obj)) (σ:St) (tg:Expr) (R:It→Hp→Prop) (itv:Value) (s2:Shared):Prop :=
 ∃ (it:Addr) (fp:List Addr) (tn:Nat→Heap→Prop) (J:It) (H':Hp),itv=.ref it∧Inv X pins σ H' s2∧Turn X.prog X.w X.K tg J fp it tn∧tn 0 s2.heap∧(∀ b∈fp,Qh0 X pins H' b)∧R J H'
def PI (X:Cx) (tg iter:Expr) (wi:TI):Prop :=
 ∀ (pins:List (Addr×Obj)) (s:Shared) (σ:St) (H:Hp) (R:It→Hp→Prop),Inv X pins σ H s→wi σ H R →
  wpAny (model X.prog X.w) X.A (eval iter X.env) (fun v s1=>wpAny (model X.prog X.w) X.A (pyIter v) (PIE X pins σ tg R) X.xe s1) X.xe s
theorem Qt8 {M:Model}{E:Value→Shared→Prop}{it:Addr}{u:Value}{o:Obj}{n:String}{vs:Array Value}{Q:Unit→Shared→Prop}(ho:s.heap.get? it=some o)(hc:o.cls=.type n)(hd:o.data=.fields vs)
  (hn:["enumerate","zip","dict_itemiterator","dict_reverseitemiterator","odict_iterator","itertools.zip_longest","itertools.pairwise"].contains n=false) (hQ:Q () s):wpAny M A (letOwnedTupleGo tg (.ref it) u) Q E s:=by
 unfold letOwnedTupleGo
 cases tg <;> first
  | exact wpAny_pure hQ
  | (cases u <;> first
    | exact wpAny_pure hQ
    | (refine wpAny_bind (wpAny_load ho ?_)
       rw [hc,hd]
       show wpAny M A (if (["enumerate","zip","dict_itemiterator","dict_reverseitemiterator","odict_iterator","itertools.zip_longest","itertools.pairwise"].contains n&&vs[0]?==some (rawInt _))=true then _ else _) Q E s
       rw [if_neg (by intro h;rw [hn,Bool.false_and] at h;cases h)]
       exact wpAny_pure hQ))
def Itl (K:Frg) (a:Addr):It :=
 ⟨fun i H=>∃ xs x,SqL K H a xs∧xs[i]?=some x,fun i H x H'=>H'=H∧∀ xs,SqL K H a xs→xs[i]?=some x,fun i H=>∃ xs,SqL K H a xs∧xs.length≤i⟩
def Itt (K:Frg) (a:Addr):It :=
 ⟨fun i H=>∃ xs x,SqT K H a xs∧xs[i]?=some x,fun i H x H'=>H'=H∧∀ xs,SqT K H a xs→xs[i]?=some x,fun i H=>∃ xs,SqT K H a xs∧xs.length≤i⟩
def Itr (lo:Int) (n:Nat):It:=⟨fun i _=>i<n,fun i H x H'=>H'=H∧x=.int (lo+i),fun i _=>n≤i⟩
theorem Qvx (a it:Addr):Turn P w K tg (Itl K a) [it] it (fun i h=>h.IsListIter it a i) where
 mem:=by simp
 obj:=fun i h st b hb=>by
  have e:b=it:=by simpa using hb
  subst e
  obtain ⟨o,e,c,d⟩:=st
  exact ⟨o,e,fun v z=>by rw [d] at z;cases z⟩
 keep:=fun i h h' st k=>st.at fun o e=>k it (by simp) o e
 item:=by
  intro X hP hw hK hc i pins s σ H E I hf st hg
  subst hP hw hK
  obtain ⟨xs,x,hq,hx⟩:=hg
  obtain ⟨its,rv,p,hz⟩:=I.list hq
  obtain ⟨u,hu,ru⟩:=rv.get hx
  obtain ⟨f0,f1,f2,f3,f4,f5⟩:=hf it (by simp)
  refine wpAny_pyNext_list_item st p.isList (x:=u) (by simpa using hu) fun h' st' sb=>?_
  have I1:Inv X pins σ H { s with heap:=h' }:=I.turned (t':=s.toks) (fun b o hb e=>(sb.2 b hb).trans e) f0 f1 f3 f4 f5
  obtain ⟨o,e,c,d⟩:=id st'
  exact ⟨u,rfl,Qt8 (s:={ s with heap:=h' }) e c d (by decide) ⟨x,H,I1,ru,⟨rfl,fun ys hy=>by rw [I.list_inj hy hq];exact hx⟩,st',fun b hb=>(hf b hb).1⟩⟩
 done:=by
  intro X hP hw hK hc i pins s σ H E I hf st hg
  subst hP hw hK
  obtain ⟨xs,hq,hx⟩:=hg
  obtain ⟨its,rv,p,hz⟩:=I.list hq
  obtain ⟨f0,f1,f2,f3,f4,f5⟩:=hf it (by simp)
  have hl:=rv.length
  exact wpAny_pyNext_list_end (I.ok.hd hc) st p.isList (by simp;omega) fun h' eb=>⟨rfl,I.turned (t':=s.toks) (fun b o hb e=>eb b o hb e) f0 f1 f3 f4 f5⟩
 self:=fun _ _ _ _ _ st h=>wpAny_pyIter_listiter st h
theorem Qsl (a it:Addr):Turn P w K tg (Itt K a) [it] it (fun i h=>h.IsTupleIter it a i) where
 mem:=by simp
 obj:=fun i h st b hb=>by
  have e:b=it:=by simpa using hb
  subst e
  obtain ⟨o,e,c,d⟩:=st
  exact ⟨o,e,fun v z=>by rw [d] at z;cases z⟩
 keep:=fun i h h' st k=>st.at fun o e=>k it (by simp) o e
 item:=by
  intro X hP hw hK hc i pins s σ H E I hf st hg
  subst hP hw hK
  obtain ⟨xs,x,hq,hx⟩:=hg
  obtain ⟨its,rv,p,hz⟩:=I.tuple hq
  obtain ⟨u,hu,ru⟩:=rv.get hx
  obtain ⟨f0,f1,f2,f3,f4,f5⟩:=hf it (by simp)
  refine wpAny_pyNext_tuple_item st (show s.heap.IsTuple a its.toArray from p) (x:=u) (by simpa using hu) fun h' st' sb=>?_
  have I1:Inv X pins σ H { s with heap:=h' }:=I.turned (t':=s.toks) (fun b o hb e=>(sb.2 b hb).trans e) f0 f1 f3 f4 f5
  obtain ⟨o,e,c,d⟩:=id st'
  exact ⟨u,rfl,Qt8 (s:={ s with heap:=h' }) e c d (by decide) ⟨x,H,I1,ru,⟨rfl,fun ys hy=>by rw [I.tuple_inj hy hq];exact hx⟩,st',fun b hb=>(hf b hb).1⟩⟩
 done:=by
  intro X hP hw hK hc i pins s σ H E I hf st hg
  subst hP hw hK
  obtain ⟨xs,hq,hx⟩:=hg
  obtain ⟨its,rv,p,hz⟩:=I.tuple hq
  obtain ⟨f0,f1,f2,f3,f4,f5⟩:=hf it (by simp)
  have hl:=rv.length
  exact wpAny_pyNext_tuple_end (I.ok.hd hc) st (show s.heap.IsTuple a its.toArray from p) (by simp;omega) fun h' eb=>⟨rfl,I.turned (t':=s.toks) (fun b o hb e=>eb b o hb e) f0 f1 f3 f4 f5⟩
 self:=fun _ _ _ _ _ st h=>wpAny_pyIter_tupleiter st h
theorem Qsm (it:Addr)(lo:Int)(n:Nat):Turn P w K tg (Itr lo n) [it] it (fun i h=>IsRangeIter h it (lo+(i:Nat)*1) ((n:Int)-(i:Nat)) 1) where
 mem:=by simp
 obj:=fun i h st b hb=>by
  have e:b=it:=by simpa using hb
  subst e
  exact ⟨_,st,fun v z=>by
   have z':Data.fields _=Data.cell v:=z
   cases z'⟩
 keep:=fun i h h' st k=>k it (by simp) _ st
 item:=by
  intro X hP hw hK hc i pins s σ H E I hf st hg
  subst hP hw hK
  obtain ⟨f0,f1,f2,f3,f4,f5⟩:=hf it (by simp)
  have W:=Walks.range (prog:=X.prog) (w:=X.w) (I.ok.hd hc) it lo 1 n
  refine W.item i s _ _ hg st fun v h' tk hv st' kk=>?_
  obtain ⟨t,rfl⟩:=hv
  have I1:Inv X pins σ H { s with heap:=h',toks:=tk }:=I.turned (fun b o hb e=>kk b o (by simpa using hb) e) f0 f1 f3 f4 f5
  refine ⟨_,rfl,Qt8 (s:={ s with heap:=h',toks:=tk }) (n := "range_iterator") st' rfl rfl (by decide) ⟨.int (lo+i),H,I1,⟨t,?_⟩,⟨rfl,rfl⟩,st',fun b hb=>(hf b hb).1⟩⟩
  rw [Int.mul_one]
 done:=by
  intro X hP hw hK hc i pins s σ H E I hf st hg
  subst hP hw hK
  obtain ⟨f0,f1,f2,f3,f4,f5⟩:=hf it (by simp)
  exact wpAny_pyNext_range_end (I.ok.hd hc) st (by have:n≤i:=hg;omega) fun h' eb=>⟨rfl,I.turned (t':=s.toks) (fun b o hb e=>eb b o hb e) f0 f1 f3 f4 f5⟩
 self:=fun _ _ _ _ _ st h=>wpAny_pyIter_rangeiter st h
section
variable {X:Cx} {tg:Expr}
theorem Qqc {R:It→Hp→Prop}{E:Value→Shared→Prop}{lo hi:Int}{t u v:Tok}{tk:Nat}(I:Inv X pins σ H s)(h1:-(2^62)≤lo)(h2:lo<2^62)(h3:-(2^62)≤hi)(h4:hi<2^62)
  (q:R (Itr lo (hi-lo).toNat) H):wpAny (model X.prog X.w) X.A (pyIter (.ref s.heap.objs.size)) (PIE X pins σ tg R) E { s with heap:=s.heap.push { cls:=.type "range",data:=.fields #[.int lo t,.int hi u,.int 1 v] },toks:=tk }:=by
 refine wpAny_pyIter_range (IsRange.new ..) (small_one h1 h2 h3 h4) ?_
 have I1:Inv X pins σ H { s with heap:=s.heap.push { cls:=.type "range",data:=.fields #[.int lo t,.int hi u,.int 1 v] },toks:=tk }:=I.kept fun b o e=>Heap.get?_push_of_some _ e
 refine ⟨(s.heap.push { cls:=.type "range",data:=.fields #[.int lo t,.int hi u,.int 1 v] }).objs.size,[(s.heap.push { cls:=.type "range",data:=.fields #[.int lo t,.int hi u,.int 1 v] }).objs.size],_,_,H,rfl,
  I1.kept (t':=tk) fun b o e=>Heap.get?_push_of_some _ e,Qsm _ lo (hi-lo).toNat,?_,fun b hb=>?_,q⟩
 ·have e1:lo+((0:Nat):Int)*1=lo:=by simp
  have e2:(((hi-lo).toNat:Nat):Int)-((0:Nat):Int)=Builtin.Range.rangeSize lo hi 1:=by rw [rangeSize_one];split <;> omega
  show IsRangeIter _ _ (lo+((0:Nat):Int)*1) ((((hi-lo).toNat:Nat):Int)-((0:Nat):Int)) 1
  rw [e1,e2]
  exact Heap.get?_push_size _ rfl
 ·have e:b=(s.heap.push { cls:=.type "range",data:=.fields #[.int lo t,.int hi u,.int 1 v] }).objs.size:=by simpa using hb
  subst e
  exact I1.fpOk (Nat.le_refl _) (I1.hok.fresh (Nat.le_refl _))
def Qkx (ta:TA):TI:=fun σ H R=>ta σ H fun vs H1=>∃ j:Int,vs=[.int j] ∧ -(2^62)≤j∧j<2^62∧R (Itr 0 j.toNat) H1
def Q5m (ta:TA):TI:=fun σ H R=>ta σ H fun vs H1=>∃ i j:Int,vs=[.int i,.int j]∧(-(2^62)≤i∧i<2^62 ∧ -(2^62)≤j∧j<2^62)∧R (Itr i (j-i).toNat) H1
theorem Qvy {a:Expr}{ta:TA}{p:Pos}(hg:Gl X "range")(hm:X.mg "range" = none)(ha:PA X [a] ta)(hs:starEach [a] X.env=[(false,eval a X.env)]:=by rfl):PI X tg (.Call (.Name "range" p) [a] [] pos) (Qkx ta):=by
 intro pins s σ H R I h
 refine Call_ (Qjb I hg hm boot_range (PyProof.Rows.callWith_type1 (thn (ha pos pins s σ H _ I h) fun us s1 ⟨vs,H1,I1,r1,q1⟩=>?_) hs rfl))
 obtain ⟨j,e,q1,q2,q⟩:=q1
 subst e
 cases r1 with
 | cons r rr =>
  cases rr
  obtain ⟨t,rfl⟩:=r
  exact call_range_1 (Qqc I1 (by omega) (by omega) q1 q2 (by simpa using q))
theorem Qvz {a b:Expr}{ta:TA}{p:Pos}(hg:Gl X "range")(hm:X.mg "range" = none)(ha:PA X [a,b] ta)(hs:starEach [a,b] X.env=[(false,eval a X.env),(false,eval b X.env)]:=by rfl)(hs2:starEach [b] X.env=[(false,eval b X.env)]:=by rfl) :
  PI X tg (.Call (.Name "range" p) [a,b] [] pos) (Q5m ta):=by
 intro pins s σ H R I h
 refine Call_ (Qjb I hg hm boot_range (PyProof.Rows.callWith_type1 (thn (ha pos pins s σ H _ I h) fun us s1 ⟨vs,H1,I1,r1,q1⟩=>?_) (by rw [hs,hs2]) (by rw [hs2];rfl)))
 obtain ⟨i,j,e,⟨q1,q2,q3,q4⟩,q⟩:=q1
 subst e
 cases r1 with
 | cons r rr =>
  cases rr with
  | cons r' rr =>
   cases rr
   obtain ⟨t,rfl⟩:=r
   obtain ⟨t',rfl⟩:=r'
   exact call_range_2 (Qqc I1 q1 q2 q3 q4 q)
def Qog (wi:TI) (g:TG) (tb:TS):TS:=fun D σ H=>wi σ H fun J H1=>∃ W:Nat→Nat→St→Hp→Prop,(∃ m,W 0 m σ H1)∧∀ i m σ H,W i m σ H →
 (J.stop i H∧D.nx σ H)∨(J.go i H∧∃ N:St→Hp→Prop,(∀ σ' H',N σ' H'→∃ m',m'<m∧W (i+1) m' σ' H')∧∀ x H',J.yld i H x H'→g x σ H' fun σ2 H2=>tb { D with nx:=N,ct:=N,bk:=D.nx } σ2 H2)
def Qjc (fp:List Addr) (h:Heap):List (Addr×Obj):=fp.filterMap fun b=>(h.get? b).map fun o=>(b,o)
theorem Qcw {fp:List Addr}{b:Addr}{o:Obj}(hb:b∈fp)(e:h.get? b=some o):(b,o)∈Qjc fp h:=List.mem_filterMap.mpr ⟨b,hb,by rw [e];rfl⟩
theorem Qv0 {fp:List Addr}{p:Addr×Obj}(hp:p∈Qjc fp h):p.1∈fp∧h.get? p.1=some p.2:=by
 obtain ⟨b,hb,e⟩:=List.mem_filterMap.mp hp
 cases q:h.get? b with
 | none=>rw [q] at e;cases e
 | some o =>
  rw [q] at e
  have e':(b,o)=p:=Option.some.inj e
  subst e'
  exact ⟨hb,q⟩
theorem Inv.pinned {fp:List Addr}(I:Inv X pins σ H s)(hf:∀ b∈fp,Qh0 X pins H b)(ho:∀ b∈fp,∃ o,s.heap.get? b=some o∧∀ v,o.data≠.cell v):Inv X (pins++Qjc fp s.heap) σ H s :=
 I.pins_of fun p hp=>(List.mem_append.mp hp).elim (fun z=>I.pin p (List.mem_append_right _ z)) fun z=>by
  obtain ⟨hb,e⟩:=Qv0 z
  obtain ⟨f0,f1,f2,_⟩:=hf p.1 hb
  obtain ⟨o,e',d⟩:=ho p.1 hb
  rw [e] at e';cases e'
  exact ⟨e,f0,f1,f2,d⟩
theorem Inv.unpinned {pl:List (Addr×Obj)}(I:Inv X (pins++pl) σ H s):Inv X pins σ H s:=I.pins_of fun p hp=>I.pin p (List.mem_append_right _ (List.mem_append_left _ hp))
theorem Q7y {wi:TI}{tb:TS}(hp:PassesOwn (model X.prog X.w) X.A X.env X.xe)(hc:X.calm=true)(hi:PI X tg iter wi)(hg:PG X tg g)(hb:PSs X body tb)
  (hs:∀ x,foldedSetIterable iter X.env x=pure x:=by intro _;rfl):PS X (.For tg iter body [] pos) (Qog wi g tb):=by
 intro pins s σ H D I h
 refine wpAny_For (thn (hi pins s σ H _ I h) fun v s1 h1=>thn h1 fun itv s2 h2=>?_) hs
 obtain ⟨it,fp,tn,J,H2,e,I2,T,st2,f2,W,⟨m0,w0⟩,turn⟩:=h2
 subst e
 -- what stays true of the iterator's objects through the loop
 have stat:∀ {H':Hp},(∀ b∈fp,H' b=none)→∀ b∈fp,Qh0 X pins H' b:=fun hn b hb=>⟨hn b hb,(f2 b hb).2⟩
 refine codeAny_forLoop_any (fun n s'=>∃ i σ' H',Inv X pins σ' H' s'∧tn i s'.heap∧(∀ b∈fp,H' b=none)∧W i n σ' H') ?_ m0 ⟨0,σ,H2,I2,st2,fun b hb=>(f2 b hb).1,w0⟩
 rintro n s3 ⟨i,σ3,H3,I3,st3,fr3,w3⟩
 rcases turn i n σ3 H3 w3 with ⟨stop,qn⟩ | ⟨go,N,hN,step⟩
 ·refine wpAny_passesOwn hp (thn (T.done X rfl rfl rfl hc i pins s3 σ3 H3 X.xe I3 (stat fr3) st3 stop) fun r s4 ⟨hr,I4⟩=>?_)
  subst hr
  exact wpAny_execs_nil ⟨σ3,H3,I4,qn⟩
 ·refine wpAny_passesOwn hp (thn (T.item X rfl rfl rfl hc i pins s3 σ3 H3 X.xe I3 (stat fr3) st3 go) fun r s4 ⟨u,hr,h4⟩=>?_)
  subst hr
  refine wpAny_passesOwn hp (thn h4 fun _ s5 ⟨x,H5,I5,r5,y5,st5,fr5⟩=>?_)
  have I5':=I5.pinned (stat fr5) (T.obj _ _ st5)
  refine wpAny_passesOwn hp (thn (hg _ s5 σ3 H5 x u _ I5' r5 (step x H5 y5)) fun _ s6 ⟨σ6,H6,I6,q6⟩=>?_)
  refine wpAny_passesOwn hp (thn (hb _ s6 σ6 H6 _ I6 q6) fun f s7 q7=>?_)
  have again:∀ {σ7:St} {H7:Hp},Inv X (pins++Qjc fp s5.heap) σ7 H7 s7→N σ7 H7→∃ m,m<n∧∃ i σ' H',Inv X pins σ' H' s7∧tn i s7.heap∧(∀ b∈fp,H' b=none)∧W i m σ' H':=fun {σ7 H7} I7 n7=>by
   obtain ⟨m',hm,w7⟩:=hN σ7 H7 n7
   refine ⟨m',hm,i+1,σ7,H7,I7.unpinned,T.keep _ _ _ st5 fun b hb o e=>(I7.pin (b,o) (List.mem_append_right _ (List.mem_append_right _ (Qcw hb e)))).1,fun b hb=>?_,w7⟩
   obtain ⟨o,e,d⟩:=T.obj _ _ st5 b hb
   exact (I7.pin (b,o) (List.mem_append_right _ (List.mem_append_right _ (Qcw hb e)))).2.1
  cases f with
  | next=>obtain ⟨σ7,H7,I7,n7⟩:=q7;exact again I7 n7
  | cont=>obtain ⟨σ7,H7,I7,n7⟩:=q7;exact again I7 n7
  | brk=>obtain ⟨σ7,H7,I7,q7⟩:=q7;exact ⟨σ7,H7,I7.unpinned,q7⟩
  | ret v=>obtain ⟨x7,σ7,H7,I7,r7,q7⟩:=q7;exact ⟨x7,σ7,H7,I7.unpinned,r7,q7⟩
end
theorem Qxg {a:Addr}{xs:List V}{tb:TS}(Pv:Nat→St→Hp→Prop)(h0:Pv 0 σ H)(hl:∀ i σ H,i≤xs.length→Pv i σ H→SqL K H a xs)
  (hs:∀ i x σ H,xs[i]?=some x→Pv i σ H→g x σ H fun σ2 H2=>tb { D with nx:=Pv (i+1),ct:=Pv (i+1),bk:=D.nx } σ2 H2) (hd:∀ σ H,Pv xs.length σ H→D.nx σ H) :
  ∃ W:Nat→Nat→St→Hp→Prop,(∃ m,W 0 m σ H)∧∀ i m σ H,W i m σ H →
   ((Itl K a).stop i H∧D.nx σ H)∨((Itl K a).go i H∧∃ N:St→Hp→Prop,(∀ σ' H',N σ' H'→∃ m',m'<m∧W (i+1) m' σ' H')∧∀ x H',(Itl K a).yld i H x H'→g x σ H' fun σ2 H2=>tb { D with nx:=N,ct:=N,bk:=D.nx } σ2 H2):=by
 refine ⟨fun i m σ H=>m=xs.length-i∧i≤xs.length∧Pv i σ H,⟨xs.length,by simp,Nat.zero_le _,h0⟩,?_⟩
 rintro i m σ H ⟨rfl,hi,p⟩
 have q:=hl i σ H hi p
 by_cases hlt:i<xs.length
 ·refine .inr ⟨⟨xs,xs[i],q,by simp [hlt]⟩,Pv (i+1),fun σ' H' p'=>⟨xs.length-(i+1),by omega,rfl,hlt,p'⟩,fun x H' y=>?_⟩
  obtain ⟨e,y⟩:=y
  subst e
  exact hs i x σ _ (y xs q) p
 ·have e:i=xs.length:=by omega
  subst e
  exact .inl ⟨⟨xs,q,Nat.le_refl _⟩,hd σ H p⟩
theorem Qm8 {lo:Int}{tb:TS}(Pv:Nat→St→Hp→Prop)(h0:Pv 0 σ H)
  (hs:∀ i σ H,i<n→Pv i σ H→g (.int (lo+i)) σ H fun σ2 H2=>tb { D with nx:=Pv (i+1),ct:=Pv (i+1),bk:=D.nx } σ2 H2) (hd:∀ σ H,Pv n σ H→D.nx σ H) :
  ∃ W:Nat→Nat→St→Hp→Prop,(∃ m,W 0 m σ H)∧∀ i m σ H,W i m σ H →
   ((Itr lo n).stop i H∧D.nx σ H)∨((Itr lo n).go i H∧∃ N:St→Hp→Prop,(∀ σ' H',N σ' H'→∃ m',m'<m∧W (i+1) m' σ' H')∧∀ x H',(Itr lo n).yld i H x H'→g x σ H' fun σ2 H2=>tb { D with nx:=N,ct:=N,bk:=D.nx } σ2 H2):=by
 refine ⟨fun i m σ H=>m=n-i∧i≤n∧Pv i σ H,⟨n,by simp,Nat.zero_le _,h0⟩,?_⟩
 rintro i m σ H ⟨rfl,hi,p⟩
 by_cases hlt:i<n
 ·refine .inr ⟨hlt,Pv (i+1),fun σ' H' p'=>⟨n-(i+1),by omega,rfl,hlt,p'⟩,fun x H' y=>?_⟩
  obtain ⟨e,y⟩:=y
  subst e y
  exact hs i σ _ hlt p
 ·have e:i=n:=by omega
  subst e
  exact .inl ⟨Nat.le_refl _,hd σ H p⟩
abbrev R2:=V→V→Hp→VK→Prop
def OpR (X:Cx) (f:Value→Value→Sem Value) (r:R2):Prop :=
 ∀ (pins:List (Addr×Obj)) (s:Shared) (σ:St) (H:Hp) (x y:V) (v u:Value) (Q:VK),Inv X pins σ H s→RelV x v→RelV y u→r x y H Q →
  wpAny (model X.prog X.w) X.A (f v u) (EP X pins σ Q) X.xe s
def UnR (X:Cx) (f:Value→Sem Value) (r:V→Hp→VK→Prop):Prop :=
 ∀ (pins:List (Addr×Obj)) (s:Shared) (σ:St) (H:Hp) (x:V) (v:Value) (Q:VK),Inv X pins σ H s→RelV x v→r x H Q →
  wpAny (model X.prog X.w) X.A (f v) (EP X pins σ Q) X.xe s
def CallR (X:Cx) (f:Value) (r:List V→Hp→VK→Prop):Prop :=
 ∀ (pins:List (Addr×Obj)) (s:Shared) (σ:St) (H:Hp) (xs:List V) (us:List Value) (Q:VK),Inv X pins σ H s→Vals xs us→r xs H Q →
  wpAny (model X.prog X.w) X.A (call f us) (EP X pins σ Q) X.xe s
abbrev tOp (r:R2) (ta tb:TE):TE:=fun σ H Q=>ta σ H fun x H1=>tb σ H1 fun y H2=>r x y H2 Q
abbrev tUn (r:V→Hp→VK→Prop) (ta:TE):TE:=fun σ H Q=>ta σ H fun x H1=>r x H1 Q
def rI (C:Int→Int→Prop) (g:Int→Int→V):R2:=fun x y H Q=>∃ i j,x=.int i∧y=.int j∧C i j∧Q (g i j) H
def rI0 (g:Int→Int→V):R2:=fun x y H Q=>∃ i j,x=.int i∧y=.int j∧Q (g i j) H
def rU (g:Int→V):V→Hp→VK→Prop:=fun x H Q=>∃ i,x=.int i∧Q (g i) H
section
variable {X:Cx} {a b c:Expr} {ta tb tc:TE} {pos:Pos}
theorem Q7z (ha:PE X a ta)(hb:PE X b tb){R:V→V→Hp→Prop}(I:Inv X pins σ H s)
  (h:ta σ H fun x H1=>tb σ H1 fun y H2=>R x y H2) {Q:Value→Shared→Prop} {f:Value→Value→Sem Value}
  (hf:∀ v u s2 x y H2,Inv X pins σ H2 s2→RelV x v→RelV y u→R x y H2→wpAny (model X.prog X.w) X.A (f v u) Q X.xe s2) :
  wpAny (model X.prog X.w) X.A (eval a X.env) (fun v s₁=>wpAny (model X.prog X.w) X.A (eval b X.env) (fun u s₂=>wpAny (model X.prog X.w) X.A (f v u) Q X.xe s₂) X.xe s₁) X.xe s:=by
 refine thn (ha pins s σ H _ I h) fun v s1 ⟨x,H1,I1,r1,q1⟩=>?_
 refine thn (hb pins s1 σ H1 _ I1 q1) fun u s2 ⟨y,H2,I2,r2,q2⟩=>?_
 exact hf v u s2 x y H2 I2 r1 r2 q2
theorem Qabe {op:Operator}{r:R2}(ho:OpR X (binaryOp op) r)(ha:PE X a ta)(hb:PE X b tb):PE X (.BinOp a op b pos) (tOp r ta tb):=by
 intro pins s σ H Q I h
 exact wpAny_BinOp (Q7z ha hb I h fun v u s2 x y H2 I2 rx ry q=>ho pins s2 σ H2 x y v u Q I2 rx ry q)
theorem Qabf {op:UnaryOp}{r:V→Hp→VK→Prop}(ho:UnR X (unaryOp op) r)(ha:PE X a ta):PE X (.UnaryOp op a pos) (tUn r ta):=by
 intro pins s σ H Q I h
 exact UnaryOp_ (thn (ha pins s σ H _ I h) fun v s1 ⟨x,H1,I1,r1,q1⟩=>ho pins s1 σ H1 x v Q I1 r1 q1)
theorem opI {f:Value→Value→Sem Value}{C:Int→Int→Prop}{g:Int→Int→Int}
  (rule:∀ (i j:Int) (t u:Tok) (s:Shared) (Q:Value→Shared→Prop) (E:Value→Shared→Prop),C i j→Q (.int (g i j) s.toks) { s with toks:=s.toks+1 }→wpAny (model X.prog X.w) X.A (f (.int i t) (.int j u)) Q E s) :
  OpR X f (rI C fun i j=>.int (g i j)):=by
 intro pins s σ H x y v u Q I rx ry h
 obtain ⟨i,j,rfl,rfl,hc,q⟩:=h
 obtain ⟨t,rfl⟩:=rx
 obtain ⟨t',rfl⟩:=ry
 exact rule i j t t' s _ _ hc ⟨.int (g i j),H,I.tok _,⟨_,rfl⟩,q⟩
theorem opI0 {f:Value→Value→Sem Value}{g:Int→Int→Int}
  (rule:∀ (i j:Int) (t u:Tok) (s:Shared) (Q:Value→Shared→Prop) (E:Value→Shared→Prop),Q (.int (g i j) s.toks) { s with toks:=s.toks+1 }→wpAny (model X.prog X.w) X.A (f (.int i t) (.int j u)) Q E s) :
  OpR X f (rI0 fun i j=>.int (g i j)):=by
 intro pins s σ H x y v u Q I rx ry h
 obtain ⟨i,j,rfl,rfl,q⟩:=h
 obtain ⟨t,rfl⟩:=rx
 obtain ⟨t',rfl⟩:=ry
 exact rule i j t t' s _ _ ⟨.int (g i j),H,I.tok _,⟨_,rfl⟩,q⟩
theorem Q70 {f:Value→Value→Sem Value}{g:Int→Int→Bool}
  (rule:∀ (i j:Int) (t u:Tok) (s:Shared) (Q:Value→Shared→Prop) (E:Value→Shared→Prop),Q (.bool (g i j)) s→wpAny (model X.prog X.w) X.A (f (.int i t) (.int j u)) Q E s) :
  OpR X f (rI0 fun i j=>.bl (g i j)):=by
 intro pins s σ H x y v u Q I rx ry h
 obtain ⟨i,j,rfl,rfl,q⟩:=h
 obtain ⟨t,rfl⟩:=rx
 obtain ⟨t',rfl⟩:=ry
 exact rule i j t t' s _ _ ⟨.bl (g i j),H,I,rfl,q⟩
def Q71 (i j:Int):Prop:=0≤j∧j≤1000000∧i.natAbs<2^64
def CMul (i j:Int):Prop:=(-(2^64)<i∧i<2^64)∨(-(2^64)<j∧j<2^64)
theorem CMul.ok {i:Int}(h:CMul i j):IntMulOk i j:=by
 rcases h with ⟨h1,h2⟩ | ⟨h1,h2⟩
 ·exact .of_left (intBits_le_64 h1 h2)
 ·exact .of_right (intBits_le_64 h1 h2)
theorem Q72:OpR X (binaryOp .Add) (rI0 fun i j=>.int (i+j)):=opI0 fun _ _ _ _ _ _ _ q=>add_int q
theorem Q73:OpR X (binaryOp .Sub) (rI0 fun i j=>.int (i-j)):=opI0 fun _ _ _ _ _ _ _ q=>sub_int q
theorem Q74:OpR X (binaryOp .Mult) (rI CMul fun i j=>.int (i*j)):=opI fun _ _ _ _ _ _ _ hc q=>mul_int q hc.ok
theorem Q2h:OpR X (binaryOp .Mod) (rI (fun _ j=>j≠0) fun i j=>.int (i.fmod j)):=opI fun _ _ _ _ _ _ _ hc q=>mod_int' hc q
theorem Q75:OpR X (binaryOp .Pow) (rI Q71 fun i j=>.int (i^j.toNat)):=opI fun _ _ _ _ _ _ _ hc q=>pow_int_small hc.1 hc.2.1 hc.2.2 q
theorem unI {f:Value→Sem Value}{g:Int→Int}
  (rule:∀ (i:Int) (t:Tok) (s:Shared) (Q:Value→Shared→Prop) (E:Value→Shared→Prop),Q (.int (g i) s.toks) { s with toks:=s.toks+1 }→wpAny (model X.prog X.w) X.A (f (.int i t)) Q E s) :
  UnR X f (rU fun i=>.int (g i)):=by
 intro pins s σ H x v Q I rx h
 obtain ⟨i,rfl,q⟩:=h
 obtain ⟨t,rfl⟩:=rx
 exact rule i t s _ _ ⟨.int (g i),H,I.tok _,⟨_,rfl⟩,q⟩
theorem Q76:UnR X (unaryOp .USub) (rU fun i=>.int (-i)):=unI fun _ _ _ _ _ q=>neg_int q
end
def Q77:V→V→Bool
 | .non,.non=>true | .non,.int _=>true | .int _,.non=>true | .non,.bl _=>true | .bl _,.non=>true | .non,.str _=>true | .str _,.non=>true
 | .int _,.int _=>true | .bl _,.bl _=>true | .str _,.str _=>true | .byt _,.byt _=>true
 | .int _,.str _=>true | .str _,.int _=>true | .bl _,.str _=>true | .str _,.bl _=>true
 | _,_=>false
def rEq:R2:=fun x y H Q=>Q77 x y=true∧Q (.bl (decide (x=y))) H
def rNe:R2:=fun x y H Q=>Q77 x y=true∧Q (.bl (!decide (x=y))) H
theorem Qt9 {i:Int}:decide (V.int i=V.int j)=(i==j):=by
 rw [Bool.eq_iff_iff]
 simp
theorem Qxh {i j:Bool}:decide (V.bl i=V.bl j)=(i==j):=by
 rw [Bool.eq_iff_iff]
 simp
theorem Qua {i j:Str}:decide (V.str i=V.str j)=(i==j):=by
 rw [Bool.eq_iff_iff]
 simp
theorem Qub {i j:Array UInt8}:decide (V.byt i=V.byt j)=(i.toList==j.toList):=by
 rw [Bool.eq_iff_iff]
 cases i
 cases j
 simp
section
variable {X:Cx} {a b c:Expr} {ta tb tc:TE} {pos:Pos}
theorem Qar {k k':Bool}(I:Inv X pins σ H s)(q:Q (.bl k) H)(e:k=k'):EP X pins σ Q (.bool k') s:=by
 subst e
 exact ⟨.bl k,H,I,rfl,q⟩
theorem Qabh:OpR X (compareOp .Eq) rEq:=by
 intro pins s σ H x y v u Q I rx ry h
 obtain ⟨hs,q⟩:=h
 cases x with
 | non =>
  cases rx
  cases y with
  | non=>cases ry;exact PySem.EqNone.eq_none_none (Qar I q (by simp))
  | bl j=>cases ry;exact PySem.EqNone.eq_none_bool (Qar I q (by simp))
  | int j=>obtain ⟨t',rfl⟩:=ry;exact PySem.EqNone.eq_none_int (Qar I q (by simp))
  | str j=>obtain ⟨t',rfl⟩:=ry;exact PySem.EqNone.eq_none_str (Qar I q (by simp))
  | _=>exact absurd (show false=true from hs) Bool.false_ne_true
 | bl i =>
  cases rx
  cases y with
  | non=>cases ry;exact PySem.EqNone.eq_bool_none (Qar I q (by simp))
  | bl j=>cases ry;exact eq_bool (Qar I q Qxh)
  | str j=>obtain ⟨t',rfl⟩:=ry;exact PySem.EqMixed.eq_bool_str (Qar I q (by simp))
  | _=>exact absurd (show false=true from hs) Bool.false_ne_true
 | int i =>
  obtain ⟨t,rfl⟩:=rx
  cases y with
  | non=>cases ry;exact PySem.EqNone.eq_int_none (Qar I q (by simp))
  | int j=>obtain ⟨t',rfl⟩:=ry;exact eq_int (Qar I q Qt9)
  | str j=>obtain ⟨t',rfl⟩:=ry;exact PySem.EqMixed.eq_int_str (Qar I q (by simp))
  | _=>exact absurd (show false=true from hs) Bool.false_ne_true
 | str i =>
  obtain ⟨t,rfl⟩:=rx
  cases y with
  | non=>cases ry;exact PySem.EqNone.eq_str_none (Qar I q (by simp))
  | bl j=>cases ry;exact PySem.EqMixed.eq_str_bool (Qar I q (by simp))
  | int j=>obtain ⟨t',rfl⟩:=ry;exact PySem.EqMixed.eq_str_int (Qar I q (by simp))
  | str j=>obtain ⟨t',rfl⟩:=ry;exact eq_str (Qar I q Qua)
  | _=>exact absurd (show false=true from hs) Bool.false_ne_true
 | byt i =>
  obtain ⟨t,rfl⟩:=rx
  cases y with
  | byt j=>obtain ⟨t',rfl⟩:=ry;exact PySem.W.eq_bytes (Qar I q Qub)
  | _=>exact absurd (show false=true from hs) Bool.false_ne_true
 | _=>cases y <;> exact absurd (show false=true from hs) Bool.false_ne_true
theorem Qabi:OpR X (compareOp .NotEq) rNe:=by
 intro pins s σ H x y v u Q I rx ry h
 obtain ⟨hs,q⟩:=h
 cases x with
 | non =>
  cases rx
  cases y with
  | non=>cases ry;exact PySem.EqNone.ne_none_none (Qar I q (by simp))
  | bl j=>cases ry;exact PySem.EqNone.ne_none_bool (Qar I q (by simp))
  | int j=>obtain ⟨t',rfl⟩:=ry;exact PySem.EqNone.ne_none_int (Qar I q (by simp))
  | str j=>obtain ⟨t',rfl⟩:=ry;exact PySem.EqNone.ne_none_str (Qar I q (by simp))
  | _=>exact absurd (show false=true from hs) Bool.false_ne_true
 | bl i =>
  cases rx
  cases y with
  | non=>cases ry;exact PySem.EqNone.ne_bool_none (Qar I q (by simp))
  | bl j=>cases ry;exact ne_bool (Qar I q (congrArg not Qxh))
  | str j=>obtain ⟨t',rfl⟩:=ry;exact PySem.EqMixed.ne_bool_str (Qar I q (by simp))
  | _=>exact absurd (show false=true from hs) Bool.false_ne_true
 | int i =>
  obtain ⟨t,rfl⟩:=rx
  cases y with
  | non=>cases ry;exact PySem.EqNone.ne_int_none (Qar I q (by simp))
  | int j=>obtain ⟨t',rfl⟩:=ry;exact ne_int (Qar I q (congrArg not Qt9))
  | str j=>obtain ⟨t',rfl⟩:=ry;exact PySem.EqMixed.ne_int_str (Qar I q (by simp))
  | _=>exact absurd (show false=true from hs) Bool.false_ne_true
 | str i =>
  obtain ⟨t,rfl⟩:=rx
  cases y with
  | non=>cases ry;exact PySem.EqNone.ne_str_none (Qar I q (by simp))
  | bl j=>cases ry;exact PySem.EqMixed.ne_str_bool (Qar I q (by simp))
  | int j=>obtain ⟨t',rfl⟩:=ry;exact PySem.EqMixed.ne_str_int (Qar I q (by simp))
  | str j=>obtain ⟨t',rfl⟩:=ry;exact ne_str (Qar I q (congrArg not Qua))
  | _=>exact absurd (show false=true from hs) Bool.false_ne_true
 | byt i =>
  obtain ⟨t,rfl⟩:=rx
  cases y with
  | byt j=>obtain ⟨t',rfl⟩:=ry;exact PySem.W.ne_bytes (Qar I q (congrArg not Qub))
  | _=>exact absurd (show false=true from hs) Bool.false_ne_true
 | _=>cases y <;> exact absurd (show false=true from hs) Bool.false_ne_true
theorem Qabj:OpR X (compareOp .Lt) (rI0 fun i j=>.bl (decide (i<j))):=Q70 fun _ _ _ _ _ _ _ q=>lt_int q
theorem Qabk:OpR X (compareOp .Gt) (rI0 fun i j=>.bl (decide (j<i))):=Q70 fun _ _ _ _ _ _ _ q=>gt_int q
theorem Qabl:OpR X (compareOp .GtE) (rI0 fun i j=>.bl (decide (j≤i))):=Q70 fun _ _ _ _ _ _ _ q=>ge_int q
theorem Q2i:OpR X (compareOp .IsNot) (fun x y H Q=>y=.non∧Q (.bl (!decide (x=.non))) H):=by
 intro pins s σ H x y v u Q I rx ry h
 obtain ⟨rfl,q⟩:=h
 cases ry
 refine isnot_none_gen (Qar I q ?_)
 cases x <;> first
  | (cases rx;rfl)
  | (obtain ⟨t,rfl⟩:=rx;rfl)
theorem OpR.or {f:Value→Value→Sem Value}{r r':R2}(h:OpR X f r)(h':OpR X f r'):OpR X f (fun x y H Q=>r x y H Q∨r' x y H Q):=by
 intro pins s σ H x y v u Q I rx ry q
 rcases q with q | q
 ·exact h pins s σ H x y v u Q I rx ry q
 ·exact h' pins s σ H x y v u Q I rx ry q
theorem Q78 (b:Expr)(h:op≠.In:=by decide)(h2:op≠.NotIn:=by decide):behindInMarks op b=false:=by
 have e1:(op==CmpOp.In)=false:=by cases op <;> first | rfl | exact absurd rfl h
 have e2:(op==CmpOp.NotIn)=false:=by cases op <;> first | rfl | exact absurd rfl h2
 cases b <;> simp [behindInMarks,e1,e2]
theorem Q2j {r:R2}(ho:OpR X (compareOp op) r)(ha:PE X a ta)(hb:PE X b tb)(hm:behindInMarks op b=false):PE X (.Compare a [op] [b] pos) (tOp r ta tb):=by
 intro pins s σ H Q I h
 exact wpAny_Compare1 (Q7z ha hb I h fun v u s2 x y H2 I2 rx ry q=>ho pins s2 σ H2 x y v u Q I2 rx ry q) hm
abbrev Q5n (t:TE):TT:=fun σ H Q=>t σ H fun x H'=>∃ k,x=.bl k∧Q k H'
theorem Q2k {r:R2}(ho:OpR X (compareOp op) r)(ha:PE X a ta)(hb:PE X b tb)(hm:behindInMarks op b=false):PT X (.Compare a [op] [b] pos) (Q5n (tOp r ta tb)):=by
 intro pins s σ H Q I h
 refine wpAny_isTrue_Compare1 (thn (ha pins s σ H _ I h) fun v s1 ⟨x,H1,I1,r1,q1⟩=>thn (hb pins s1 σ H1 _ I1 q1) fun u s2 ⟨y,H2,I2,r2,q2⟩ =>
  thn (ho pins s2 σ H2 x y v u _ I2 r1 r2 q2) fun c s3 ⟨z,H3,I3,r3,k,e,q3⟩=>?_) hm
 subst e
 cases r3
 exact wpAny_truthy_bool ⟨H3,I3,q3⟩
theorem Qky:(sizeLine:Nat)<2^63:=by rw [sizeLine_eq];decide
theorem Qgl {x:V}(r:Vals [x] us):∃ u,us=[u]∧RelV x u:=by
 cases r with
 | cons r1 r2=>cases r2;exact ⟨_,rfl,r1⟩
theorem Quc {x y:V}(r:Vals [x,y] us):∃ u w',us=[u,w']∧RelV x u∧RelV y w':=by
 cases r with
 | cons r1 r2 =>
  cases r2 with
  | cons r3 r4=>cases r4;exact ⟨_,_,rfl,r1,r3⟩
theorem Qxi:CallR X (.builtin "abs") (fun xs H Q=>∃ i,xs=[.int i]∧Q (.int (if i<0 then -i else i)) H):=by
 intro pins s σ H xs us Q I r h
 obtain ⟨i,rfl,q⟩:=h
 obtain ⟨u,rfl,t,rfl⟩:=Qgl r
 exact call_abs_int fun u tk=>⟨.int (if i<0 then -i else i),H,I.tok _,⟨_,rfl⟩,q⟩
theorem Qv1 (hc:X.calm=true):CallR X (.builtin "max") (fun xs H Q=>∃ i j,xs=[.int i,.int j]∧Q (.int (if j>i then j else i)) H):=by
 intro pins s σ H xs us Q I r h
 obtain ⟨i,j,rfl,q⟩:=h
 obtain ⟨u,w',rfl,⟨t,rfl⟩,⟨t',rfl⟩⟩:=Quc r
 refine max_two_ints (I.ok.hd hc) fun h' tk k=>⟨_,H,I.kept k,?_,q⟩
 by_cases hj:j>i
 ·rw [if_pos hj,if_pos hj];exact ⟨_,rfl⟩
 ·rw [if_neg hj,if_neg hj];exact ⟨_,rfl⟩
theorem Qv2 (hc:X.calm=true):CallR X (.builtin "min") (fun xs H Q=>∃ i j,xs=[.int i,.int j]∧Q (.int (if j<i then j else i)) H):=by
 intro pins s σ H xs us Q I r h
 obtain ⟨i,j,rfl,q⟩:=h
 obtain ⟨u,w',rfl,⟨t,rfl⟩,⟨t',rfl⟩⟩:=Quc r
 refine min_two_ints (I.ok.hd hc) fun h' tk k=>⟨_,H,I.kept k,?_,q⟩
 by_cases hj:j<i
 ·rw [if_pos hj,if_pos hj];exact ⟨_,rfl⟩
 ·rw [if_neg hj,if_neg hj];exact ⟨_,rfl⟩
theorem Qv3:CallR X (.type "int") (fun xs H Q=>(∃ i,xs=[.int i]∧Q (.int i) H)∨∃ k,xs=[.bl k]∧Q (.int (if k then 1 else 0)) H):=by
 intro pins s σ H xs us Q I r h
 rcases h with ⟨i,rfl,q⟩ | ⟨k,rfl,q⟩
 ·obtain ⟨u,rfl,t,rfl⟩:=Qgl r
  exact call_int_int ⟨.int i,H,I,⟨_,rfl⟩,q⟩
 ·obtain ⟨u,rfl,r1⟩:=Qgl r
  cases r1
  exact call_int_bool ⟨.int (if k then 1 else 0),H,I.tok _,⟨_,rfl⟩,q⟩
end
structure ObjM (h:Heap) (x dx C:Addr) (mA:Str→Option Value):Prop where
 obj:h.get? x=some (PySem.W.instObj C dx)
 ns:h.Ns1 dx mA
 ne:dx≠x
theorem Qv4 {dx:Addr}{mA:Str→Option Value}(n:h.Ns1 dx mA):∃ od,h.get? dx=some od∧∀ name,PySem.W.lookIn name od=some (mA name):=by
 obtain ⟨o,es,ep,ho,hd,hk,_,hm⟩:=n
 refine ⟨o,ho,fun name=>?_⟩
 have e:=hm name
 unfold nsFind findBy at e
 rw [←Array.find?_toList] at e
 unfold PySem.W.lookIn
 rw [hd]
 dsimp only
 split
 ·rename_i y q
  rw [q] at e
  exact congrArg some e
 ·rename_i q
  rw [q] at e
  have a:es.toList.any (·.refKey)=false:=by
   rw [List.any_eq_false]
   intro y hy
   obtain ⟨z,t,hkey⟩:=hk y (Array.mem_toList_iff.mp hy)
   simp [DictEntry.refKey,hkey]
  have a':¬ es.toList.any (·.refKey)=true:=by rw [a];exact Bool.false_ne_true
  rw [if_neg a']
  exact congrArg some e
theorem ObjM.look {x dx C:Addr}{mA:Str→Option Value}(I:ObjM h x dx C mA):∃ od,PySem.W.InstAt h x (PySem.W.instObj C dx) C (some od)∧∀ name,PySem.W.lookIn name od=some (mA name) :=
 let ⟨od,ho,hl⟩:=Qv4 I.ns
 ⟨od,⟨I.obj,rfl,rfl,ho⟩,hl⟩
section
variable {prog:Program} {w:World} {A:Around} {E:Value→Shared→Prop} {s:Shared} {K:Frg} {x dx C f:Addr} {mA:Str→Option Value} {name:Str} {v:Value}
end
theorem RelO.some_of {v:V}{o:Option Value}(r:RelO (some v) o):∃ u,o=some u∧RelV v u:=by
 cases o with
 | none=>exact (show False from r).elim
 | some u=>exact ⟨u,rfl,r⟩
section
variable {P:Program} {w:World} {H H':Hp} {h h':Heap} {a C dx:Addr} {fs fs':List (Str×V)}
theorem Q2l (hok:HOk P w H h)(e:H a=some (.ins C dx fs)):∃ mA,ObjM h a dx C mA∧(∀ f,RelO (fs.lookup f) (mA f))∧PySem.Within mA (fs.map (·.1))∧fs.length≤1000∧H dx=some (.own a):=by
 obtain ⟨d,z,ne,ob,mA,n,r,q⟩:=(show ObjOk P w H h a (.ins C dx fs) from hok a _ e)
 exact ⟨mA,⟨ob,n,ne⟩,r,q,z,d⟩
end
structure Cls (K:Frg) (C:Addr):Prop where
 pg:PySem.W.plainGet K C Str.empty=true
 hd:PySem.W.hasDictIn K C=true
 po:PySem.W.plainOver K C=true
 sa:PySem.W.findIn K (.ref C) "__setattr__" = some (some (.builtin "object.__setattr__"))
theorem Cls.get {C:Addr}(c:Cls K C)(f:Str):PySem.W.plainGet K C f=true:=c.pg
structure Con (K:Frg) (C:Addr) (f:Str) (v:V) (u:Value):Prop where
 at_:PySem.W.findIn K (.ref C) f=some (some u)
 rel:RelV v u
 get:PySem.W.specialIn K u "__get__" = some none
 cp:PySem.W.copiedNames.contains f=false
structure Meth (K:Frg) (C:Addr) (m:Str) (f:Addr):Prop where
 at_:PySem.W.findIn K (.ref C) m=some (some (.ref f))
 fn:PySem.W.isFn K (.ref f)=true
 kp:PySem.W.keepIn K (.ref f)=true
section
variable {X:Cx} {pins:List (Addr×Obj)} {σ:St} {H:Hp} {s:Shared} {a C dx:Addr} {fs:List (Str×V)} {f:Str} {v:V} {A:Around} {E:Value→Shared→Prop}
end
section
variable {X:Cx} {o e value:Expr} {f:Str} {pos pos' tpos:Pos} {ta tv:TE}
end
section
variable {X:Cx} {pins:List (Addr×Obj)} {σ:St} {H:Hp} {s:Shared} {A:Around} {E:Value→Shared→Prop} {Q:Value→Shared→Prop} {c:Value} {b:Bool}
inductive TyOf (K:Frg) (H:Hp):V→Value→Prop where
 | non:TyOf K H .non (.type "NoneType")
 | bl (x:Bool):TyOf K H (.bl x) (.type "bool")
 | int (i:Int):TyOf K H (.int i) (.type "int")
 | str (x:Str):TyOf K H (.str x) (.type "str")
 | flt (x:UInt64):TyOf K H (.flt x) (.type "float")
 | lst {a:Addr} {xs:List V} (e:H a=some (.lst xs)):TyOf K H (.ref a) (.type "list")
 | frz {a:Addr} {o:Obj} {xs:List V} (e:H a=some (.frz o (.lst xs))):TyOf K H (.ref a) (.type "list")
 | tup {a:Addr} {xs:List V} (e:H a=some (.tup xs)):TyOf K H (.ref a) (.type "tuple")
 | dK {a:Addr} {kvs:List (Key×V)} (e:H a=some (.dK kvs)):TyOf K H (.ref a) (.type "dict")
 | dT {a:Addr} {kvs:List (List Key×V)} (e:H a=some (.dT kvs)):TyOf K H (.ref a) (.type "dict")
 | ins {a C dx:Addr} {fs:List (Str×V)} (e:H a=some (.ins C dx fs)) (cl:Cls K C) (ha:PySem.W.findIn K (.ref C) "__class__" = some (some (.builtin "object.__class__")))
   (hn:PySem.W.specialIn K (.builtin "object.__class__") "__get__" = some (some (.builtin "getset_descriptor.__get__"))) (htk:PySem.W.takesIn K (.builtin "object.__class__")=some true)
   (hm:PySem.W.mroIn K C (.type "object")=some true):TyOf K H (.ref a) (.ref C)
theorem Qv5 {x:V}{u t:Value}(I:Inv X pins σ H s)(rx:RelV x u)(ty:TyOf X.K H x t)(e:PySem.W.kitOne X.K t c=some b)(h:∀ tk,Q (.bool b) { s with toks:=tk }) :
  wpAny (model X.prog X.w) A (call (.builtin "isinstance") [u,c]) Q E s:=by
 cases ty with
 | non=>cases (show u=Value.none from rx);exact PySem.W.kia_one PySem.W.kitx_none I.kIn True.intro e (fun z=>nomatch z) h
 | bl y=>cases (show u=Value.bool y from rx);exact PySem.W.kia_one PySem.W.kitx_bool I.kIn True.intro e (fun z=>nomatch z) h
 | int i=>obtain ⟨t,q⟩:=(show ∃ t,u=Value.int i t from rx);cases q;exact PySem.W.kia_one PySem.W.kitx_int I.kIn True.intro e (fun z=>nomatch z) h
 | str y=>obtain ⟨t,q⟩:=(show ∃ t,u=Value.str y t from rx);cases q;exact PySem.W.kia_one PySem.W.kitx_str I.kIn True.intro e (fun z=>nomatch z) h
 | flt y=>obtain ⟨t,q⟩:=(show ∃ t,u=Value.float y t from rx);cases q;exact PySem.W.kia_one PySem.W.kitx_float I.kIn True.intro e (fun z=>nomatch z) h
 | @lst a xs ea =>
  cases (show u=Value.ref a from rx)
  obtain ⟨_,_,n,_,h1⟩:=(show ObjOk X.prog X.w H s.heap a (.lst xs) from I.hok a _ ea)
  exact PySem.W.kia_one PySem.W.kitx_list I.kIn ⟨_,h1,rfl⟩ e (fun z=>nomatch z) h
 | @frz a ob xs ea =>
  cases (show u=Value.ref a from rx)
  obtain ⟨_,_,_,n,_,h1⟩:=(show ObjOk X.prog X.w H s.heap a (.frz ob (.lst xs)) from I.hok a _ ea)
  exact PySem.W.kia_one PySem.W.kitx_list I.kIn ⟨_,h1,rfl⟩ e (fun z=>nomatch z) h
 | @tup a xs ea =>
  cases (show u=Value.ref a from rx)
  obtain ⟨_,_,_,p⟩:=(show ObjOk X.prog X.w H s.heap a (.tup xs) from I.hok a _ ea)
  obtain ⟨o,h1,h2,_⟩:=p
  exact PySem.W.kia_one PySem.W.kitx_tuple I.kIn ⟨o,h1,h2⟩ e (fun z=>nomatch z) h
 | @dK a kvs ea =>
  cases (show u=Value.ref a from rx)
  obtain ⟨_,_,vs,_,p⟩:=(show ObjOk X.prog X.w H s.heap a (.dK kvs) from I.hok a _ ea)
  obtain ⟨o,es,ep,h1,h2,_⟩:=p
  exact PySem.W.kia_one PySem.W.kitx_dict I.kIn ⟨o,h1,h2.1⟩ e (fun z=>nomatch z) h
 | @dT a kvs ea =>
  cases (show u=Value.ref a from rx)
  obtain ⟨_,_,xs,_,o,es,ep,h1,h2,_⟩:=(show ObjOk X.prog X.w H s.heap a (.dT kvs) from I.hok a _ ea)
  exact PySem.W.kia_one PySem.W.kitx_dict I.kIn ⟨o,h1,h2.1⟩ e (fun z=>nomatch z) h
 | @ins a C dx fs ea cl ha hn htk hm =>
  cases (show u=Value.ref a from rx)
  obtain ⟨mA,O,_⟩:=Q2l I.hok ea
  obtain ⟨od,J,_⟩:=O.look
  exact PySem.W.kia_one (PySem.W.kitx_own (cl.get _) cl.hd ha hn htk hm) I.kIn J e (fun z=>nomatch z) h
end
structure Room (k:Nat) (A:Around):Prop where
 hd:A.handled=none
 dp:A.depth+3*k+5<recursionLimit
 un:A.units+16*k+200<cLine
 gd:A.guards=some []
theorem Room.mono {j:Nat}(r:Room k A)(h:j≤k):Room j A:=⟨r.hd,by have:=r.dp;omega,by have:=r.un;omega,r.gd⟩
theorem Room.deeper (r:Room (k+1) A)(env:Env):Room k (A.deeper env) :=
 ⟨r.hd,by have:=r.dp;show A.depth+1+3*k+5<_;omega,by have:=r.un;show A.units+3+16*k+200<_;omega,r.gd⟩
theorem Room.depth (r:Room k A):A.depth<recursionLimit:=by have:=r.dp;omega
theorem Room.units (r:Room k A):A.units+64<cLine:=by have:=r.un;omega
abbrev Qfw:TA:=fun _ H Q=>Q [] H
abbrev Qb5 (ta:TE) (tr:TA):TA:=fun σ H Q=>ta σ H fun x H1=>tr σ H1 fun xs H2=>Q (x::xs) H2
section
variable {X:Cx} {e:Expr} {es:List Expr} {te:TE} {t:TA} {pos:Pos}
theorem Q79:PA X [] Qfw:=fun _ _ _ _ H Q I h=>Calls.spliced_nil ⟨[],H,I,.nil,h⟩
theorem Q2m (ha:PE X e te)(hr:PA X es t)(hs:starEach (e::es) X.env=(false,eval e X.env)::starEach es X.env:=by rfl):PA X (e::es) (Qb5 te t):=by
 intro pos pins s σ H Q I h
 rw [hs]
 show wpAny _ _ (spliced ((false,eval e X.env)::backTo pos (starEach es X.env))) _ _ s
 refine Calls.spliced_cons (thn (ha pins s σ H _ I h) fun u s1 ⟨x,H1,I1,r1,q1⟩=>?_)
 exact thn (hr pos pins s1 σ H1 _ I1 q1) fun us s2 ⟨xs,H2,I2,r2,q2⟩=>⟨x::xs,H2,I2,.cons r1 r2,q2⟩
abbrev tTup (t:TA):TE:=fun σ H Q=>t σ H fun xs H1=>xs.length≤sizeLine∧∀ p,H1 p=none→Q (.ref p) (upd H1 p (.tup xs))
abbrev tLst (t:TA):TE:=fun σ H Q=>t σ H fun xs H1=>xs.length≤sizeLine∧∀ p,H1 p=none→Q (.ref p) (upd H1 p (.lst xs))
theorem Q8a {x1}(h:PA X es t):PE X (.Tuple es x1 pos) (tTup t):=by
 intro pins s σ H Q I hq
 refine wpAny_Tuple_spliced (thn (h pos pins s σ H _ I hq) fun us s1 ⟨xs,H1,I1,r,z,q⟩=>⟨by rw [←r.length];exact z,?_⟩)
 have hf:H1 s1.heap.objs.size=none:=I1.hok.fresh (Nat.le_refl _)
 refine ⟨.ref s1.heap.objs.size,upd H1 s1.heap.objs.size (.tup xs),I1.laid (t':=s1.toks) (fun b u e=>Heap.get?_push_of_some _ e) (Nat.le_refl _) ?_,rfl,q _ hf⟩
 exact ⟨z,us,r,⟨_,Heap.get?_push_size _ rfl,rfl,_,rfl,rfl⟩⟩
theorem Q8b (h:PA X es t):PE X (.List es pos) (tLst t):=by
 intro pins s σ H Q I hq
 refine wpAny_List_spliced (thn (h pos pins s σ H _ I hq) fun us s1 ⟨xs,H1,I1,r,z,q⟩=>⟨by rw [←r.length];exact z,?_⟩)
 have hf:H1 s1.heap.objs.size=none:=I1.hok.fresh (Nat.le_refl _)
 refine ⟨.ref s1.heap.objs.size,upd H1 s1.heap.objs.size (.lst xs),I1.laid (t':=s1.toks) (fun b u e=>Heap.get?_push_of_some _ e) (Nat.le_refl _) ?_,rfl,q _ hf⟩
 exact ⟨z,us,0,r,Heap.get?_push_size _ rfl⟩
end
abbrev Sp:=List V→Hp→VK→XK→Prop
variable {sp:Sp}
abbrev CXT:=List Env→Hp→Shared→XK→Value→Shared→Prop
structure Env0 (P:Program) (w:World) (K:Frg) (mg:Str→Option Value) (base:Heap) (A:Around) (outer:List Env) (s:Shared) (H:Hp):Prop where
 frames:A.frames=some outer
 mod:Mod K mg base
 bs:∀ b o,base.get? b=some o→s.heap.get? b=some o∧H b=none
 bsz:base.objs.size≤s.heap.objs.size
 funs:s.heap.FunFrames base outer
 frf:(∀ b∈frs outer,H b=none)∧Qw8 K H
 hok:HOk P w H s.heap
 bare:AllBare s.gens
def CE (outer:List Env) (P:Program) (w:World) (H:Hp) (s:Shared) (Q:VK) (u:Value) (s':Shared):Prop :=
 ∃ v H',s'.os=s.os∧AllBare s'.gens∧Un (frs outer) [] H H' s.heap s'.heap∧HOk P w H' s'.heap∧RelV v u∧Q v H'
def CR (CX:CXT) (outer:List Env) (P:Program) (w:World) (H:Hp) (s:Shared) (Q:VK) (E:XK) (r:Result) (s':Shared):Prop :=
 match r with
 | .ok (.ret u)=>CE outer P w H s Q u s'
 | .ok _=>False
 | .error e=>CX outer H s E e s'
structure FnOk (P:Program) (w:World) (K:Frg) (mg:Str→Option Value) (base:Heap) (CX:CXT) (k:Nat) (f:Addr) (fd:FuncData) (ps:List Str) (sp:Sp):Prop where
 len:∀ vs H Q E,sp vs H Q E→vs.length=ps.length
 run:∀ (A:Around) (outer:List Env) (s:Shared) (H:Hp) (args:Args) (us:List Value) (vs:List V) (Q:VK) (E:XK),Room k A→Env0 P w K mg base A outer s H→BindsTo s fd args (ps.zip us)→Vals vs us→sp vs H Q E →
  codeAny (model P w) A (.call (.ref f) args) (CR CX outer P w H s Q E) s
section
variable {X:Cx} {pins:List (Addr×Obj)} {σ:St} {H:Hp} {s s':Shared}
theorem Inv.env0 (I:Inv X pins σ H s):Env0 X.prog X.w X.K X.mg X.base X.A X.stack s H :=
 ⟨I.ok.frames,I.ok.mod,I.bs,Nat.le_trans I.ok.bsz I.sz,I.stack,⟨I.stkFree,I.tab⟩,I.hok,I.bare⟩
theorem Inv.after {u:Value}(I:Inv X pins σ H s)(h:CE X.stack X.prog X.w H s Q u s'):EP X pins σ Q u s':=by
 obtain ⟨v,H',os,bare,un,hok,r,q⟩:=h
 obtain ⟨hh,g,d,t,os'⟩:=s'
 obtain rfl:os'=s.os:=os
 exact ⟨v,H',I.call (h':=hh) (g':=g) (d':=d) (t':=t) (ch:=[]) un hok bare (fun b z=>absurd z (by simp)),r,q⟩
end
abbrev Qud (sp:Sp) (dvs:List V) (E:XK) (t:TA):TE:=fun σ H Q=>t σ H fun vs H1=>sp (vs++dvs) H1 Q E
def Binds (K:Frg) (fd:FuncData) (ps:List Str) (ds:List Value):Prop :=
 ∀ (s:Shared) (us:List Value),K.In s.heap→(us++ds).length=ps.length→BindsTo s fd ⟨us,[]⟩ (ps.zip (us++ds))
theorem Binds.all {fd:FuncData}(h:∀ us:List Value,us.length=ps.length→bindArgs fd ⟨us,[]⟩=pure (ps.zip us)):Binds K fd ps []:=fun s us _ hl=>by
 rw [List.append_nil] at hl ⊢
 exact .of_eq (h us hl)
def Qsn (CX:CXT) (X:Cx) (E:XK):Prop:=∀ (pins:List (Addr×Obj)) (σ:St) (H:Hp) (s:Shared) (e:Value) (s':Shared),Inv X pins σ H s→CX X.stack H s E e s'→X.xe e s'
section
variable {X:Cx} {CX:CXT} {k:Nat} {f C:Addr} {fd:FuncData} {ps:List Str} {sp:Sp} {dvs:List V} {ds:List Value} {E:XK} {x m:Str} {p pos apos:Pos} {e o:Expr} {es:List Expr} {ta:TE} {t:TA}
theorem Q8c {vs:List V}(F:FnOk X.prog X.w X.K X.mg X.base CX k f fd ps sp)(hr:Room k X.A)(hb:Binds X.K fd ps ds)(hd:Vals dvs ds)(hx:Qsn CX X E)
  (I:Inv X pins σ H s) (r:Vals vs us) (h:sp (vs++dvs) H Q E):wpAny (model X.prog X.w) X.A (call (.ref f) us) (EP X pins σ Q) X.xe s:=by
 have r2:Vals (vs++dvs) (us++ds):=r.append hd
 have hl:(us++ds).length=ps.length:=by rw [←r2.length];exact F.len _ _ _ _ h
 refine wpAny_call (codeAny_mono (F.run X.A X.stack s H ⟨us,[]⟩ (us++ds) (vs++dvs) Q E hr I.env0 (hb s us I.kIn hl) r2 h) fun r s' hq=>?_)
 cases r with
 | error e=>exact hx pins σ H s e s' I hq
 | ok fl =>
  cases fl with
  | ret u=>exact I.after hq
  | next=>exact False.elim hq
  | brk=>exact False.elim hq
  | cont=>exact False.elim hq
theorem Q2n (F:FnOk X.prog X.w X.K X.mg X.base CX k f fd ps sp)(hr:Room k X.A)(hg:Gl X x)(hm:X.mg x=some (.ref f))(hk:PySem.W.keepIn X.K (.ref f)=true)(hb:Binds X.K fd ps ds)(hd:Vals dvs ds)(hx:Qsn CX X E)
  (ha:PA X (e::es) t) (hdb:(x==("__debug__" : Str))=false:=by decide) (he:starEach (e::es) X.env=(false,eval e X.env)::starEach es X.env:=by rfl) (hpl:(backTo pos (starEach es X.env)).any (·.1)=false:=by rfl) :
  PE X (.Call (.Name x p) (e::es) [] pos) (Qud sp dvs E t):=by
 intro pins s σ H Q I h
 refine wpAny_Call_Name_kw (Qof I hg hm ?_ hdb)
 refine PySem.W.callWith_K (h₀:=X.base) I.ok.mod.kin hk (thn (ha pos pins s σ H _ I h) fun us s1 ⟨vs,H1,I1,r,q⟩=>⟨I1.kIn,?_⟩) he hpl
 exact Q8c F hr hb hd hx I1 r q
structure Mk (K:Frg) (C f:Addr):Prop where
 makes:PySem.W.makesIn K C=true
 init:PySem.W.findIn K (.ref C) "__init__" = some (some (.ref f))
 fn:PySem.W.isFn K (.ref f)=true
 kp:PySem.W.keepIn K (.ref C)=true
end
section
variable {X:Cx} {CX:CXT} {k:Nat} {f C:Addr} {fd:FuncData} {ps ks:List Str} {sp:Sp} {E:XK} {x m:Str} {p pos apos kpos:Pos} {e o:Expr} {es:List Expr} {kws:List Keyword} {te ta:TE} {t tk:TA} {nm:Option Str}
structure KBinds (K:Frg) (fd:FuncData) (ps ks:List Str) (g:List Value→List Value→List Value) (gV:List V→List V→List V):Prop where
 to:∀ (s:Shared) (us ws:List Value),K.In s.heap→(g us ws).length=ps.length→BindsTo s fd ⟨us,ks.zip ws⟩ (ps.zip (g us ws))
 rel:∀ {vs:List V} {us:List Value} {zs:List V} {ws:List Value},Vals vs us→Vals zs ws→Vals (gV vs zs) (g us ws)
variable {g:List Value→List Value→List Value} {gV:List V→List V→List V}
end
structure FnScope (N P:List Str) (sc:Scope):Prop where
 kind:sc.kind=.function
 co:sc.isCoroutine=false
 gen:sc.isGenerator=false
 nd:N.Nodup
 pre:N.take P.length=P
 par:∀ x∈P,sc.names.lookup x=some .local∨sc.names.lookup x=some .cell
 nofree:∀ y∈sc.names,y.2≠.free
theorem Qm9 {x:Str}:∀ {binds:List (Str×Value)} {m:Str→Option Value},(∀ v,(x,v)∉binds)→bindL kindOf binds m x=m x
 | [],_,_=>rfl
 | (n,v)::r,m,h=>by
  unfold bindL
  rw [Qm9 fun w hw=>h w (List.mem_cons_of_mem _ hw)]
  split
  ·have:x≠n:=by rintro rfl;exact h v List.mem_cons_self
   simp [this]
  ·rfl
theorem Qna {x:Str}:∀ {binds:List (Str×Value)} {m:Str→Option Value},(∀ v,(x,v)∉binds)→bindC kindOf binds m x=m x
 | [],_,_=>rfl
 | (n,v)::r,m,h=>by
  unfold bindC
  rw [Qna fun w hw=>h w (List.mem_cons_of_mem _ hw)]
  split
  ·rfl
  ·have:x≠n:=by rintro rfl;exact h v List.mem_cons_self
   simp [this]
theorem Qnb {x:Str}{v:Value}:∀ {P:List Str} {vs:List Value} {i:Nat} {m:Str→Option Value},P.Nodup→P[i]?=some x→vs[i]?=some v→kindOf x=some .local →
  bindL kindOf (P.zip vs) m x=some v
 | [],_,_,_,_,h,_,_=>by simp at h
 | _::_,[],_,_,_,_,h,_=>by simp at h
 | p::P,w::vs,0,m,nd,h1,h2,hk=>by
  simp at h1 h2;subst h1;subst h2
  show bindL kindOf ((p,w)::P.zip vs) m p=_
  unfold bindL
  rw [Qm9 fun v hv=>(List.nodup_cons.mp nd).1 (List.of_mem_zip hv).1,if_pos hk]
  simp
 | p::P,w::vs,i+1,m,nd,h1,h2,hk=>by
  show bindL kindOf ((p,w)::P.zip vs) m x=_
  unfold bindL
  exact Qnb (i:=i) (List.nodup_cons.mp nd).2 (by simpa using h1) (by simpa using h2) hk
theorem Qnc {x:Str}{v:Value}:∀ {P:List Str} {vs:List Value} {i:Nat} {m:Str→Option Value},P.Nodup→P[i]?=some x→vs[i]?=some v→kindOf x≠some .local →
  bindC kindOf (P.zip vs) m x=some v
 | [],_,_,_,_,h,_,_=>by simp at h
 | _::_,[],_,_,_,_,h,_=>by simp at h
 | p::P,w::vs,0,m,nd,h1,h2,hk=>by
  simp at h1 h2;subst h1;subst h2
  show bindC kindOf ((p,w)::P.zip vs) m p=_
  unfold bindC
  rw [Qna fun v hv=>(List.nodup_cons.mp nd).1 (List.of_mem_zip hv).1,if_neg hk]
  simp
 | p::P,w::vs,i+1,m,nd,h1,h2,hk=>by
  show bindC kindOf ((p,w)::P.zip vs) m x=_
  unfold bindC
  exact Qnc (i:=i) (List.nodup_cons.mp nd).2 (by simpa using h1) (by simpa using h2) hk
def Qb6 (N:List Str) (vs:List V):St:=vs.map some++List.replicate (N.length-vs.length) none
def Qhm (g:Str→Bool) (CX:CXT) (P:Program) (w:World) (K:Frg) (mg:Str→Option Value) (base:Heap) (N:List Str) (qual:Str) (scope:Scope) (f:Addr) (cd:Value) (A:Around) (outer:List Env) (s:Shared) (H:Hp) (E:XK):Cx where
 prog:=P
 w:=w
 K:=K
 mg:=mg
 base:=base
 A:=A.deeper (envOfC qual scope s.heap.objs.size f cd)
 N:=N
 s₀:=s
 H₀:=H
 env:=envOfC qual scope s.heap.objs.size f cd
 outer:=outer
 stack:=envOfC qual scope s.heap.objs.size f cd::outer
 ex:=[]
 calm:=true
 fn:=g
 pn:=[]
 xe:=fun e s'=>wpAny (model P w) (A.deeper (envOfC qual scope s.heap.objs.size f cd)) (leaving (envOfC qual scope s.heap.objs.size f cd) e) (fun _ s''=>CX outer H s E e s'') (fun e' s''=>CX outer H s E e' s'') s'
theorem Qqd {sc:Scope}{x:Str}(h:sc.names.lookup x=some .cell):∃ c,(cellsFrom n sc.names []).lookup x=some c:=by
 have q:=PySem.W.cellsFrom_some sc.names n [] (.inl h)
 exact Option.isSome_iff_exists.mp q
theorem Qv6 {g:Str→Bool}{CX:CXT}{mg:Str→Option Value}{base:Heap}{f:Addr}{cd:Value}{outer:List Env}{s1:Shared}{E:XK}{vs:List V}
  (S:FnScope N ps scope) (hd:A.handled=none) (e0:Env0 P w K mg base A outer s H) (hl:vs.length=ps.length) (r:Vals vs us)
  (x:InCallC s s.heap.objs.size (bindL (envOfC qual scope s.heap.objs.size f cd).kindOf (ps.zip us) fun _=>none) (cellsFrom (s.heap.objs.size+1) scope.names []) (bindC (envOfC qual scope s.heap.objs.size f cd).kindOf (ps.zip us) fun _=>none) s1) :
  Inv (Qhm g CX P w K mg base N qual scope f cd A outer s H E) [] (Qb6 N vs) H s1:=by
 have hpl:ps.length≤N.length:=by have:=congrArg List.length S.pre;rw [List.length_take] at this;omega
 obtain ⟨h1,tk,rfl,hk⟩:=x.done
 have noA:∀ b:Addr,b∉(Qhm g CX P w K mg base N qual scope f cd A outer s H E).ex:=fun b z=>absurd (show b∈([]:List Addr) from z) (by simp)
 refine ⟨⟨e0.mod,S.kind,rfl,rfl,Nat.le_refl _,fun y z c h1 h2=>?_,fun y hy=>?_,fun y c _ h=>?_,fun _=>hd,Around.frames_deeper e0.frames,.inr ⟨rfl,rfl⟩,fun b z=>absurd z (noA b),e0.bs,e0.bsz,fun b _ _=>noA b,fun b z=>absurd z (noA b),e0.funs,e0.frf⟩,
  rfl,e0.bare,Un.kept hk,⟨_,x.toInCall.ns,fun i y v h1 h2 h3=>?_⟩,fun y c h=>⟨_,x.cell y c h⟩,e0.hok.fresh (Nat.le_refl _),fun y c h=>?_,fun p hp=>absurd (show p∈([]:List (Addr×Obj)) from hp) (by simp),e0.hok.kept hk,?_⟩
 ·exact name_of_addr x.apart (PySem.mem_of_lookup h1) (PySem.mem_of_lookup h2)
 ·have hy:scope.names.lookup y=some .cell∨scope.names.lookup y=some .free:=hy
  rcases hy with hy | hy
  ·exact Qqd hy
  ·exact absurd rfl (S.nofree _ (PySem.mem_of_lookup hy))
 ·exact Nat.le_of_lt (x.above y c (PySem.mem_of_lookup h))
 ·have hi:i<vs.length:=by
   unfold Qb6 at h2
   by_cases hi:i<vs.length
   ·exact hi
   ·rw [List.getElem?_append_right (by simpa using hi)] at h2
    rw [List.getElem?_replicate] at h2
    split at h2 <;> cases h2
  have ha:vs[i]?=some v:=by
   unfold Qb6 at h2
   rw [List.getElem?_append_left (by simpa using hi),List.getElem?_map] at h2
   cases e:vs[i]? with
   | none=>rw [e] at h2;cases h2
   | some a=>rw [e] at h2;cases h2;rfl
  obtain ⟨u,hu,rv⟩:=r.get ha
  have hp:ps[i]?=some y:=by
   rw [←S.pre,List.getElem?_take_of_lt (by omega)];exact h1
  have ndP:ps.Nodup:=by rw [←S.pre];exact S.nd.sublist (List.take_sublist _ _)
  refine ⟨u,rv,?_⟩
  rcases S.par y (List.mem_of_getElem? hp) with k | k
  ·exact .inl ⟨k,Qnb ndP hp hu k⟩
  ·obtain ⟨c,e⟩:=Qqd (n:=s.heap.objs.size+1) k
   refine .inr ⟨.inl k,c,e,?_⟩
   have q:=x.cell y c e
   rw [Qnc ndP hp hu (by show scope.names.lookup y≠_;rw [k];decide)] at q
   exact q
 ·exact .inl (e0.hok.fresh (Nat.le_of_lt (x.above y c (PySem.mem_of_lookup h))))
 ·unfold Qb6
  show _=N.length
  rw [List.length_append,List.length_map,List.length_replicate]
  omega
theorem Q5o {g:Str→Bool}{CX:CXT}{mg:Str→Option Value}{base:Heap}{f:Addr}{name:Str}{params:Arguments}{dV kV doc pm cdv ct oc:Value}{an od:Option Addr}
  {osl:Array (Option Value)} {N ps:List Str} {sp:Sp} (lk:K.lookup f=some ⟨oc,od,.func (PySem.W.fnOf name qual params body scope dV kV doc pm an cdv ct),osl⟩) (hcd:PySem.W.codeIn K cdv qual=true) (S:FnScope N ps scope)
  (len:∀ vs H Q E,sp vs H Q E→vs.length=ps.length)
  (hbody:∀ (A:Around) (outer:List Env) (s:Shared) (H:Hp) (vs:List V) (Q:VK) (E:XK),Room k (A.deeper (envOfC qual scope s.heap.objs.size f cdv))→sp vs H Q E →
   ∃ t,PSs (Qhm g CX P w K mg base N qual scope f cdv A outer s H E) body t∧t { nx:=fun _ H'=>Q .non H',rt:=Q } (Qb6 N vs) H) :
  FnOk P w K mg base CX (k+1) f (PySem.W.fnOf name qual params body scope dV kV doc pm an cdv ct) ps sp:=by
 refine ⟨len,fun A outer s H args us vs Q E hr e0 hb r hsp=>?_⟩
 have hl:=len _ _ _ _ hsp
 have KX:K.In s.heap:=e0.mod.kin.keeps fun b o e=>(e0.bs b o e).1
 have lim:s.heap.NoLimit:=e0.mod.nolimit.keeps fun b o e=>(e0.bs b o e).1
 have hkind:∀ y∈ps.zip us,scope.names.lookup y.1=some .local∨(scope.names.lookup y.1=some .cell∧((cellsFrom (s.heap.objs.size+1) scope.names []).lookup y.1).isSome=true):=fun ⟨n,v⟩ hy=>by
  rcases S.par n (List.of_mem_zip hy).1 with q | q
  ·exact .inl q
  ·exact .inr ⟨q,PySem.W.cellsFrom_some _ _ _ (.inl q)⟩
 refine codeAny_call_function hr.depth (KX _ _ lk) rfl S.co S.gen rfl (PySem.W.codeRec_of KX hcd) (hb _ _ _ _ ?_)
 refine wpAny_newFunctionEnv_cells S.kind hkind fun env he s1 x=>?_
 subst he
 refine ⟨lim.keeps x.toInCall.keep,codeAny_func ?_⟩
 obtain ⟨t,ht,hq⟩:=hbody A outer s H vs Q E (hr.deeper _) hsp
 have I:Inv (Qhm g CX P w K mg base N qual scope f cdv A outer s H E) [] (Qb6 N vs) H s1:=Qv6 S hr.hd e0 hl r x
 refine wpAny_mono (ht [] s1 (Qb6 N vs) H _ I hq) (fun fl s' hs=>?_) fun e s' hs=>hs
 have fin:∀ {σ':St} {H':Hp} {v:V} {u:Value},Inv (Qhm g CX P w K mg base N qual scope f cdv A outer s H E) [] σ' H' s'→RelV v u→Q v H'→CE outer P w H s Q u s' :=
  fun {σ' H' v u} J rv q=>⟨v,H',J.os,J.bare,J.base,J.hok,rv,q⟩
 cases fl with
 | ret u =>
  obtain ⟨v,σ',H',J,rv,q⟩:=hs
  exact fin J rv q
 | next =>
  obtain ⟨σ',H',J,q⟩:=hs
  exact fin (v:=V.non) (u:=Value.none) J rfl q
 | brk =>
  obtain ⟨_,_,_,q⟩:=hs
  exact False.elim q
 | cont =>
  obtain ⟨_,_,_,q⟩:=hs
  exact False.elim q
section
variable {X:Cx} {x:Str} {p pos:Pos} {e:Expr} {es:List Expr} {t:TA} {id T:String} {r:List V→Hp→VK→Prop}
abbrev tCB (r:List V→Hp→VK→Prop) (t:TA):TE:=fun σ H Q=>t σ H fun vs H1=>r vs H1 Q
theorem Qxj (hc:CallR X (.builtin id) r)(hg:Gl X x)(hm:X.mg x=none)(hv:bootBuiltins x=some (.builtin id))(ha:PA X (e::es) t)(hn:x ≠ "__name__" := by decide)(hdb:(x==("__debug__" : Str))=false:=by decide)
  (he:starEach (e::es) X.env=(false,eval e X.env)::starEach es X.env:=by rfl) (hpl:(backTo pos (starEach es X.env)).any (·.1)=false:=by rfl):PE X (.Call (.Name x p) (e::es) [] pos) (tCB r t):=by
 intro pins s σ H Q I h
 refine wpAny_Call_Name_kw (Qjb I hg hm hv ?_ hn hdb)
 exact PyProof.Rows.callWith_builtin1 (thn (ha pos pins s σ H _ I h) fun us s1 ⟨vs,H1,I1,r1,q1⟩=>hc pins s1 σ H1 vs us Q I1 r1 q1) he hpl
theorem Qv7 (hc:CallR X (.type T) r)(hg:Gl X x)(hm:X.mg x=none)(hv:bootBuiltins x=some (.type T))(ha:PA X (e::es) t)(hn:x ≠ "__name__" := by decide)(hdb:(x==("__debug__" : Str))=false:=by decide)
  (he:starEach (e::es) X.env=(false,eval e X.env)::starEach es X.env:=by rfl) (hpl:(backTo pos (starEach es X.env)).any (·.1)=false:=by rfl):PE X (.Call (.Name x p) (e::es) [] pos) (tCB r t):=by
 intro pins s σ H Q I h
 refine wpAny_Call_Name_kw (Qjb I hg hm hv ?_ hn hdb)
 exact PyProof.Rows.callWith_type1 (thn (ha pos pins s σ H _ I h) fun us s1 ⟨vs,H1,I1,r1,q1⟩=>hc pins s1 σ H1 vs us Q I1 r1 q1) he hpl
end
end L2
namespace HT
open PySem PyProof.Rows
def lexLt:List Int→List Int→Bool
 | [],[]=>false
 | [],_::_=>true
 | _::_,[]=>false
 | x::xs,y::ys=>if x=y then lexLt xs ys else decide (x<y)
section
open PySem.SeqAt
open PySem.AutoSeq1 (wpAny_loadPart')
open PySem.MeetsSeq PySem.MeetsSeq2 PySem.MeetsSeq3
end
section
variable {prog:Program} {w:World} {A:Around} {E:Value→Shared→Prop} {s:Shared}
theorem cat_tup {t b:Addr}{vs ws:List Value}{Q:Value→Shared→Prop}(ht:IsTup s.heap t vs.toArray)(hb:IsTup s.heap b ws.toArray)(hv:vs≠[])
  (h1:ws=[]→Q (.ref t) s) (h2:ws≠[]→Q (.ref s.heap.objs.size) { s with heap:=s.heap.push { cls:=.type "tuple",data:=.seq (vs++ws).toArray } })
  (hsz:vs.length+ws.length≤sizeLine):wpAny (model prog w) A (binaryOp .Add (.ref t) (.ref b)) Q E s:=by
 obtain ⟨⟨cls,dd,data,sl⟩,ho,hc,n,hd⟩:=id ht
 obtain ⟨⟨cls2,dd2,data2,sl2⟩,ho2,hc2,n2,hd2⟩:=id hb
 simp only at hc hd hc2 hd2
 subst hc hd hc2 hd2
 have e:vs.toArray++ws.toArray=(vs++ws).toArray:=by simp
 by_cases hw:ws=[]
 ·exact concat_meets ⟨_,ho,rfl⟩ ⟨_,ho2,rfl⟩ noFill_tuple_add seq_tuple_add PySem.F.slot_tuple_add PySem.F.entry_tuple_add (PySem.F.args_tuple_add_2 _ _)
   (tuple_addW1 t b vs.toArray ws.toArray n n2 dd dd2 sl sl2 (by simpa using hv) (by simp [hw])) ⟨ho,ho2,h1 hw⟩
 ·refine concat_meets ⟨_,ho,rfl⟩ ⟨_,ho2,rfl⟩ noFill_tuple_add seq_tuple_add PySem.F.slot_tuple_add PySem.F.entry_tuple_add (PySem.F.args_tuple_add_2 _ _)
   (tuple_addW2 t b vs.toArray ws.toArray n n2 dd dd2 sl sl2 (by simpa using hv) (by simpa using hw) (by rw [List.size_toArray,List.size_toArray];exact hsz)) ⟨ho,ho2,?_⟩
  rw [e]
  exact h2 hw
def sIx (n d:Nat):Option Int→Nat
 | none=>d
 | some v=>if v<0 then (v+(n:Int)).toNat else min v.toNat n
theorem sIx_nat (n d k:Nat):sIx n d (some (k:Int))=min k n:=by
 show (if (k:Int)<0 then ((k:Int)+(n:Int)).toNat else min (k:Int).toNat n)=min k n
 rw [if_neg (by omega),Int.toNat_natCast]
theorem sIx_le (n d:Nat)(hd:d≤n)(o:Option Int):sIx n d o≤n:=by
 cases o with
 | none=>exact hd
 | some v =>
  show (if v<0 then (v+(n:Int)).toNat else min v.toNat n)≤n
  by_cases hv:v<0
  ·rw [if_pos hv];omega
  ·rw [if_neg hv];exact Nat.min_le_right _ _
theorem clip_eq (v:Int)(n d:Nat):(if v<0 then max (v+(n:Int)) 0 else min v (n:Int))=((sIx n d (some v):Nat):Int):=by
 show (if v<0 then max (v+(n:Int)) 0 else min v (n:Int))=(((if v<0 then (v+(n:Int)).toNat else min v.toNat n):Nat):Int)
 by_cases hv:v<0
 ·simp only [if_pos hv];omega
 ·simp only [if_neg hv];omega
theorem adjust_gen (lo hi:Option Int)(n:Nat):Builtin.Slice.sliceAdjust lo hi 1 (n:Int)=(((sIx n 0 lo:Nat):Int),((sIx n n hi:Nat):Int)):=by
 have h1:¬ ((1:Int)<0):=by omega
 unfold Builtin.Slice.sliceAdjust
 simp only [h1,if_false]
 refine Prod.ext ?_ ?_
 ·cases lo with
  | none=>rfl
  | some v=>exact clip_eq v n 0
 ·cases hi with
  | none=>rfl
  | some v=>exact clip_eq v n n
theorem places_gen (i j:Nat):Builtin.Slice.slicePlaces (i:Int) (j:Int) 1=j-i:=by
 unfold Builtin.Slice.slicePlaces
 have h1:(1:Int)>0:=by omega
 simp only [h1,if_true,Int.ediv_one]
 split <;> omega
theorem slicePart_ {v:Value}{o:Option Int}{Q:Option Int→Shared→Prop}(p:IsPart v o)(h:Q o s):wpAny (model prog w) A (Builtin.Slice.slicePartIndex v) Q E s:=by
 cases p with
 | none=>exact slicePart_none h
 | int i t=>exact slicePart_int h
theorem sliceApplied_gen {sl:Addr}{vl vu:Value}{lo hi:Option Int}{n:Nat}{Q:Int×Int×Nat→Shared→Prop}(hs:s.heap.IsSliceOf sl vl vu .none)(pl:IsPart vl lo)(pu:IsPart vu hi)
  (h:Q (((sIx n 0 lo:Nat):Int),1,sIx n n hi-sIx n 0 lo) s):wpAny (model prog w) A (Builtin.Slice.sliceApplied (.ref sl) (pure (n:Int))) Q E s:=by
 obtain ⟨os,hos,hcs,hds⟩:=id hs
 unfold Builtin.Slice.sliceApplied Builtin.Slice.sliceFields
 refine wpAny_bind (wpAny_bind (wpAny_field hos hds (x:=vl) rfl (wpAny_bind (wpAny_field hos hds (x:=vu) rfl (wpAny_bind (wpAny_field hos hds (x:=.none) rfl (wpAny_pure ?_)))))))
 refine wpAny_bind (slicePart_none ?_)
 show wpAny _ _ (if ((1:Int)==0)=true then _ else _) _ _ s
 rw [if_neg (by decide)]
 refine wpAny_bind (slicePart_ pl (wpAny_bind (slicePart_ pu (wpAny_bind (wpAny_pure ?_)))))
 show wpAny _ _ (match Builtin.Slice.sliceAdjust lo hi 1 (n:Int) with | (lo,hi)=>pure (lo,(1:Int),Builtin.Slice.slicePlaces lo hi 1)) _ _ s
 rw [adjust_gen lo hi n]
 show wpAny _ _ (pure (((sIx n 0 lo:Nat):Int),(1:Int),Builtin.Slice.slicePlaces ((sIx n 0 lo:Nat):Int) ((sIx n n hi:Nat):Int) 1)) _ _ s
 rw [places_gen]
 exact wpAny_pure h
theorem pick_gen (xs:Array Value)(i k:Nat):((List.range k).filterMap fun (m:Nat)=>xs[((i:Int)+(m:Int)*1).toNat]?).toArray=((xs.toList.drop i).take k).toArray:=by
 have e:(fun (m:Nat)=>xs[((i:Int)+(m:Int)*1).toNat]?)=fun m=>xs[i+m]?:=by
  funext m
  have:((i:Int)+(m:Int)*1).toNat=i+m:=by omega
  rw [this]
 rw [e]
 have:=pick_run xs i k
 rw [List.filterMap_map] at this
 have e2:((fun x=>xs[x]?) ∘ fun x=>i+x)=fun m=>xs[i+m]?:=rfl
 rw [e2] at this
 rw [this]
theorem getItem_tuple_cut {t sl:Addr}{items:Array Value}{vl vu:Value}{lo hi:Option Int}{Q:Value→Shared→Prop}(ht:IsTup s.heap t items)(hs:s.heap.IsSliceOf sl vl vu .none)(pl:IsPart vl lo)(pu:IsPart vu hi)
  (hw:¬ (sIx items.size 0 lo=0∧sIx items.size items.size hi=items.size))
  (h:Q (.ref s.heap.objs.size) { s with heap:=s.heap.push { cls:=.type "tuple",data:=.seq ((items.toList.drop (sIx items.size 0 lo)).take (sIx items.size items.size hi-sIx items.size 0 lo)).toArray } })
  (hsz:items.size≤sizeLine):wpAny (model prog w) A (getItem (.ref t) (.ref sl)) Q E s:=by
 have htake:sizeOk (.seq ((items.toList.drop (sIx items.size 0 lo)).take (sIx items.size items.size hi-sIx items.size 0 lo)).toArray):=by
  show ((items.toList.drop (sIx items.size 0 lo)).take (sIx items.size items.size hi-sIx items.size 0 lo)).toArray.size≤sizeLine
  rw [List.size_toArray,List.length_take,List.length_drop,Array.length_toList]
  omega
 have hj:sIx items.size items.size hi≤items.size:=sIx_le _ _ (Nat.le_refl _) hi
 obtain ⟨os,hos,hcs,hds⟩:=id hs
 have hTs:s.TypeIs (.ref sl) "slice" := ⟨os,hos,hcs⟩
 unfold getItem
 try with_reducible refine wpAny_holding ?_
 first | refine wpAny_bind (wpAny_pure ?_) | skip
 refine wpAny_bind (wpAny_sequenceKey ht.typeIs (by decide) ?_)
 refine wpAny_bind (wpAny_callSpecial?_slot (name:=Str.ofString "__getitem__") ht.typeIs PyProof.Rows.slot_tuple_getitem
  (wpAny_call_entry PyProof.Rows.slot_tuple_getitem ht.typeIs entry_tuple_getitem ?_ (args_tuple_getitem _ _)))
 show wpAny _ _ (Builtin.Tuple.tupleItemsOf (.ref t) >>= _) _ _ s
 refine wpAny_bind (tupleItemsOf_ ht ?_)
 refine wpAny_bind (wpAny_typeOf hTs ?_)
 rw [if_pos (by decide)]
 refine wpAny_bind (sliceApplied_gen hs pl pu ?_)
 have hno:¬ ((((sIx items.size 0 lo:Nat):Int)==0&&(1:Int)==1&&(sIx items.size items.size hi-sIx items.size 0 lo)==items.size)=true):=by
  intro q
  rw [Bool.and_eq_true,Bool.and_eq_true] at q
  have q1:((sIx items.size 0 lo:Nat):Int)=0:=eq_of_beq q.1.1
  have q2:sIx items.size items.size hi-sIx items.size 0 lo=items.size:=eq_of_beq q.2
  exact hw ⟨by omega,by omega⟩
 show wpAny _ _ (if (((sIx items.size 0 lo:Nat):Int)==0&&(1:Int)==1&&(sIx items.size items.size hi-sIx items.size 0 lo)==items.size)=true then _ else _) _ _ s
 rw [if_neg hno,pick_gen]
 first
  | exact wpAny_bind (m:=Builtin.Tuple.tupleExact _) (wpAny_newObj_type (wpAny_pure ⟨_,rfl,wpAny_pure h⟩) htake)
  | exact wpAny_bind (m:=Builtin.Tuple.tupleExact _) (wpAny_newObj_type (wpAny_bind (wpAny_pure (wpAny_pure ⟨_,rfl,wpAny_pure h⟩))) htake)
  | exact wpAny_bind (wpAny_bind (m:=Builtin.Tuple.tupleExact _) (wpAny_newObj_type (wpAny_pure (wpAny_pure ⟨_,rfl,wpAny_pure h⟩)) htake))
  | exact wpAny_bind (wpAny_bind (m:=Builtin.Tuple.tupleExact _) (wpAny_newObj_type (wpAny_pure ⟨_,rfl,wpAny_pure h⟩) htake))
end
end HT
namespace L2
open PySem PySem.Spec PyProof.Rows
variable {us:List Value} {H H' H0:Hp} {o:HO} {h:Heap} {α:Type} {P:Program} {w:World} {t' k n iW iS iT:Nat} {N ps:List Str} {j:Int} {A:Around} {X:Cx} {s:Shared} {pins:List (Addr×Obj)} {σ:St} {pos:Pos} {op:CmpOp} {c tg iter tgE:Expr} {K:Frg} {D:Ends} {es ifs:List Expr} {te:TE} {g:TG} {body:List Stmt} {Q:VK} {kindOf:Str→Option NameKind} {qual:Str} {scope:Scope} {sp:Sp} {st:Stmt} {kvs:List (List Key×V)} {env:Env} {js:List (Option Nat)} {G:Addr→Prop}
abbrev TO:=St→Hp→(Option Int→Hp→Prop)→Prop
def PO (X:Cx) (e:Option Expr) (t:TO):Prop :=
 ∀ (pins:List (Addr×Obj)) (s:Shared) (σ:St) (H:Hp) (Q:Option Int→Hp→Prop),Inv X pins σ H s→t σ H Q →
  wpAny (model X.prog X.w) X.A (evalPart e X.env) (fun u s'=>∃ o H',Inv X pins σ H' s'∧IsPart u o∧Q o H') X.xe s
abbrev Que:TO:=fun _ H Q=>Q none H
abbrev Quf (t:TE):TO:=fun σ H Q=>t σ H fun x H1=>∃ i,x=.int i∧Q (some i) H1
theorem Qh1 {ns:List Int}:∀ {us:List Value},Vals (ns.map V.int) us→IntsAre us ns:=by
 induction ns with
 | nil=>intro us r;rw [List.map_nil] at r;cases r;exact .nil
 | cons n ns ih =>
  intro us r
  rw [List.map_cons] at r
  cases r with
  | cons r1 r2 =>
   obtain ⟨t,e⟩:=r1
   subst e
   exact .cons n t (ih r2)
section
variable {X:Cx} {e:Expr} {te:TE} {lo hi:Option Expr} {tl th:TO} {pos p2:Pos}
theorem Q2o:PO X none Que:=by
 intro pins s σ H Q I h
 rw [evalPart_none]
 exact wpAny_pure ⟨none,H,I,.none,h⟩
theorem Q2p (h:PE X e te):PO X (some e) (Quf te):=by
 intro pins s σ H Q I hw
 rw [evalPart_some]
 refine thn (h pins s σ H _ I hw) fun u s1 ⟨x,H1,I1,r1,q1⟩=>?_
 obtain ⟨i,rfl,q⟩:=q1
 obtain ⟨t,rfl⟩:=r1
 exact ⟨some i,H1,I1,.int i t,q⟩
def SlR (X:Cx) (r:V→Option Int→Option Int→Hp→VK→Prop):Prop :=
 ∀ (pins:List (Addr×Obj)) (s:Shared) (σ:St) (H:Hp) (x:V) (v vl vu:Value) (lo hi:Option Int) (sl:Addr) (Q:VK),Inv X pins σ H s→RelV x v→s.heap.IsSliceOf sl vl vu .none→IsPart vl lo→IsPart vu hi→r x lo hi H Q →
  ∃ T id,typeLookup (.type T) "__getitem__" = pure (some (.builtin id))∧s.TypeIs v T∧wpAny (model X.prog X.w) X.A (getItem v (.ref sl)) (EP X pins σ Q) X.xe s
theorem SlR.or {r r':V→Option Int→Option Int→Hp→VK→Prop}(h:SlR X r)(h':SlR X r'):SlR X (fun x lo hi H Q=>r x lo hi H Q∨r' x lo hi H Q):=by
 intro pins s σ H x v vl vu lo hi sl Q I rx hs pl pu q
 rcases q with q | q
 ·exact h pins s σ H x v vl vu lo hi sl Q I rx hs pl pu q
 ·exact h' pins s σ H x v vl vu lo hi sl Q I rx hs pl pu q
abbrev tSl (r:V→Option Int→Option Int→Hp→VK→Prop) (te:TE) (tl th:TO):TE:=fun σ H Q=>te σ H fun x H1=>tl σ H1 fun l H2=>th σ H2 fun u H3=>r x l u H3 Q
theorem Qxk {r:V→Option Int→Option Int→Hp→VK→Prop}(hr:SlR X r)(he:PE X e te)(hl:PO X lo tl)(hu:PO X hi th):PE X (.Subscript e (.Slice lo hi none p2) pos) (tSl r te tl th):=by
 intro pins s σ H Q I h
 refine Subscript_ (thn (he pins s σ H _ I h) fun v s1 ⟨x,H1,I1,r1,q1⟩=>?_)
 refine wpAny_Slice (thn (hl pins s1 σ H1 _ I1 q1) fun vl s2 ⟨l,H2,I2,pl,q2⟩=>thn (hu pins s2 σ H2 _ I2 q2) fun vu s3 ⟨u,H3,I3,pu,q3⟩=>?_)
 rw [evalPart_none]
 refine wpAny_pure ?_
 have I4:Inv X pins σ H3 { s3 with heap:=s3.heap.push { cls:=.type "slice",data:=.fields #[vl,vu,.none] } }:=I3.kept (t':=s3.toks) fun b ob q=>Heap.get?_push_of_some _ q
 obtain ⟨T,id,hT,ht,hg⟩:=hr pins { s3 with heap:=s3.heap.push { cls:=.type "slice",data:=.fields #[vl,vu,.none] } } σ H3 x v vl vu l u s3.heap.objs.size Q I4 r1 (Heap.IsSliceOf.new ..) pl pu q3
 show wpAny (model X.prog X.w) X.A (subscriptTail e (.Slice lo hi none p2) v (.ref s3.heap.objs.size)) (EP X pins σ Q) X.xe { s3 with heap:=s3.heap.push { cls:=.type "slice",data:=.fields #[vl,vu,.none] } }
 exact tail_any (ops:=[.ref s3.heap.objs.size,v]) ht hT hg (by with_unfolding_all rfl)
def Qgt (xs:List V) (lo hi:Option Int):List V:=(xs.drop (HT.sIx xs.length 0 lo)).take (HT.sIx xs.length xs.length hi-HT.sIx xs.length 0 lo)
theorem Qgu (xs:List V)(lo hi:Option Int):(Qgt xs lo hi).length≤xs.length:=by
 unfold Qgt
 rw [List.length_take,List.length_drop]
 omega
def rSlT (K:Frg):V→Option Int→Option Int→Hp→VK→Prop:=fun x lo hi H Q=>∃ a xs,x=.ref a∧SqT K H a xs ∧
 ¬ (HT.sIx xs.length 0 lo=0∧HT.sIx xs.length xs.length hi=xs.length)∧∀ p,H p=none→Q (.ref p) (upd H p (.tup (Qgt xs lo hi)))
theorem Q8d:SlR X (rSlT X.K):=by
 intro pins s σ H x v vl vu lo hi sl Q I rx hs pl pu h
 obtain ⟨a,xs,rfl,hx,hw,q⟩:=h
 cases rx
 obtain ⟨its,r,ht,hz⟩:=I.tuple hx
 have hlen:its.toArray.size=xs.length:=by rw [List.size_toArray];exact r.length.symm
 refine ⟨"tuple",_,PyProof.Rows.slot_tuple_getitem.lookup,ht.typeIs,?_⟩
 refine HT.getItem_tuple_cut ht hs pl pu (by rw [hlen];exact hw) ?_ (by rw [hlen];exact hz)
 rw [hlen]
 refine ⟨.ref s.heap.objs.size,_,I.laid (t':=s.toks) (o:=.tup (Qgt xs lo hi)) (fun b ob q=>Heap.get?_push_of_some _ q) (Nat.le_refl _) ?_,rfl,q _ (I.hok.fresh (Nat.le_refl _))⟩
 exact ⟨Nat.le_trans (Qgu xs lo hi) hz,_,(r.drop (HT.sIx xs.length 0 lo)).take (HT.sIx xs.length xs.length hi-HT.sIx xs.length 0 lo),IsTupD.new _ _⟩
def Qabm (K:Frg):R2:=fun x y H Q=>∃ a b xs ys,x=.ref a∧y=.ref b∧SqT K H a xs∧SqT K H b ys∧xs≠[]∧xs.length+ys.length≤sizeLine ∧
 (ys=[]→Q (.ref a) H)∧(ys≠[]→∀ p,H p=none→Q (.ref p) (upd H p (.tup (xs++ys))))
theorem Vals.nil_iff {xs:List V}(r:Vals xs us):us=[]↔xs=[]:=by
 cases r with
 | nil=>simp
 | cons _ _=>simp
theorem Q2q:OpR X (binaryOp .Add) (Qabm X.K):=by
 intro pins s σ H x y v u Q I rx ry h
 obtain ⟨a,b,xs,ys,rfl,rfl,ha,hb,hx,hz,q1,q2⟩:=h
 cases rx
 cases ry
 obtain ⟨its,r1,p1,_⟩:=I.tuple ha
 obtain ⟨its2,r2,p2,_⟩:=I.tuple hb
 refine HT.cat_tup p1 p2 (fun z=>hx (r1.nil_iff.mp z)) (fun z=>⟨.ref a,H,I,rfl,q1 (r2.nil_iff.mp z)⟩) (fun z=>?_) (by rw [←r1.length,←r2.length];exact hz)
 refine ⟨.ref s.heap.objs.size,_,I.laid (t':=s.toks) (o:=.tup (xs++ys)) (fun b ob q=>Heap.get?_push_of_some _ q) (Nat.le_refl _) ?_,rfl,q2 (fun w=>z (r2.nil_iff.mpr w)) _ (I.hok.fresh (Nat.le_refl _))⟩
 exact ⟨by rw [List.length_append];exact hz,_,r1.append r2,IsTupD.new _ _⟩
end
def ixN (n:Nat) (i:Int):Option Nat:=if 0≤i then (if i<n then some i.toNat else none) else if -(n:Int)≤i then some (i+n).toNat else none
def atI {α:Type} (xs:List α) (i:Int):Option α:=(ixN xs.length i).bind fun j=>xs[j]?
theorem Qoh {i:Int}{j:Nat}(h:ixN n i=some j):seqIndex? i n=some j∧j<n ∧ -(n:Int)≤i∧i<n:=by
 unfold ixN at h
 by_cases h0:0≤i
 ·rw [if_pos h0] at h
  by_cases h1:i<n
  ·rw [if_pos h1] at h
   have e:i.toNat=j:=Option.some.inj h
   exact ⟨by rw [seqIndex_of h0 h1,e],by omega,by omega,h1⟩
  ·rw [if_neg h1] at h;cases h
 ·rw [if_neg h0] at h
  by_cases h1:-(n:Int)≤i
  ·rw [if_pos h1] at h
   have e:(i+n).toNat=j:=Option.some.inj h
   exact ⟨by rw [seqIndex_neg (by omega) h1,e],by omega,h1,by omega⟩
  ·rw [if_neg h1] at h;cases h
theorem Qoi {xs:List α}{i:Int}{v:α}(h:atI xs i=some v):∃ j,seqIndex? i xs.length=some j∧xs[j]?=some v∧j<xs.length ∧ -(xs.length:Int)≤i∧i<xs.length:=by
 unfold atI at h
 cases e:ixN xs.length i with
 | none=>rw [e] at h;cases h
 | some j =>
  rw [e] at h
  obtain ⟨h1,h2,h3,h4⟩:=Qoh e
  exact ⟨j,h1,h,h2,h3,h4⟩
theorem Qfx {xs:List α}{j:Nat}{v:α}(h:xs[j]?=some v):atI xs (j:Int)=some v:=by
 have hj:j<xs.length:=(List.getElem?_eq_some_iff.mp h).1
 have e:ixN xs.length (j:Int)=some j:=by
  unfold ixN
  rw [if_pos (by omega),if_pos (by omega)];simp
 unfold atI;rw [e];exact h
theorem Qxl (xs:List α)(v:α):atI (xs++[v]) (-1)=some v:=by
 have hl:(xs++[v]).length=xs.length+1:=by simp
 have e:ixN (xs++[v]).length (-1)=some xs.length:=by
  unfold ixN
  rw [hl,if_neg (by decide),if_pos (by omega)]
  congr 1
  omega
 unfold atI
 rw [e]
 show (xs++[v])[xs.length]?=some v
 simp
def Qkk (b:Expr):Prop:=∀ o i,subscripted b false o i=operate [o,i] (getItem o i)
def IxR (X:Cx) (r:R2):Prop :=
 ∀ (value slice:Expr) (pins:List (Addr×Obj)) (s:Shared) (σ:St) (H:Hp) (x y:V) (v u:Value) (Q:VK),Inv X pins σ H s→RelV x v→RelV y u→r x y H Q →
  subscripted slice false v u=operate [v,u] (getItem v u)→wpAny (model X.prog X.w) X.A (subscriptTail value slice v u) (EP X pins σ Q) X.xe s
def MtR (X:Cx) (id:String) (r:V→List V→Hp→VK→Prop):Prop :=
 ∀ (pins:List (Addr×Obj)) (s:Shared) (σ:St) (H:Hp) (x:V) (xs:List V) (v:Value) (us:List Value) (Q:VK),Inv X pins σ H s→RelV x v→Vals xs us→r x xs H Q →
  wpAny (model X.prog X.w) X.A (call (.builtin id) (v::us)) (EP X pins σ Q) X.xe s
section
variable {X:Cx} {a b:Expr} {ta tb:TE} {pos:Pos}
theorem IxR.or {r r':R2}(h:IxR X r)(h':IxR X r'):IxR X (fun x y H Q=>r x y H Q∨r' x y H Q):=by
 intro value slice pins s σ H x y v u Q I rx ry q hs
 rcases q with q | q
 ·exact h value slice pins s σ H x y v u Q I rx ry q hs
 ·exact h' value slice pins s σ H x y v u Q I rx ry q hs
theorem Qabn {r:R2}(hr:IxR X r)(ha:PE X a ta)(hb:PE X b tb)(hs:Qkk b):PE X (.Subscript a b pos) (tOp r ta tb):=by
 intro pins s σ H Q I h
 exact Subscript_ (Q7z ha hb I h fun v u s2 x y H2 I2 rx ry q=>hr a b pins s2 σ H2 x y v u Q I2 rx ry q (hs _ _))
def Qjd (K:Frg):R2:=fun x y H Q=>∃ p xs i v,x=.ref p∧y=.int i∧SqL K H p xs∧atI xs i=some v∧Q v H
def rIxT (K:Frg):R2:=fun x y H Q=>∃ p xs i v,x=.ref p∧y=.int i∧SqT K H p xs∧atI xs i=some v∧Q v H
def rIxS:R2:=fun x y H Q=>∃ z i c,x=.str z∧y=.int i∧z.length≤sizeLine∧atI z.cps.toList i=some c∧Q (.str ⟨#[c]⟩) H
theorem Qug:IxR X (Qjd X.K):=by
 intro value slice pins s σ H x y v u Q I rx ry h hs
 obtain ⟨p,xs,i,z,rfl,rfl,hq,he,q⟩:=h
 cases rx
 obtain ⟨t,rfl⟩:=ry
 obtain ⟨its,r,pl,hz⟩:=I.list hq
 obtain ⟨j,h1,h2,h3,h4,h5⟩:=Qoi he
 obtain ⟨w,ew,rw'⟩:=r.get h2
 have hl:=r.length
 have hn:=Qky
 have fin:EP X pins σ Q w s:=⟨z,H,I,rw',q⟩
 by_cases h0:0≤i
 ·have hj:i.toNat=j:=by
   rw [seqIndex_of h0 h5] at h1
   exact Option.some.inj h1
  exact item_listR pl.isList h0 (by omega) (by rw [hj];simpa using ew) fin hs
 ·have hj:(i+(its.toArray.size:Int)).toNat=j:=by
   rw [seqIndex_neg (by omega) h4] at h1
   rw [List.size_toArray,←hl]
   exact Option.some.inj h1
  exact subscriptTail_builtinR (x:=w) pl.isList.typeIs slot_list_getitem.lookup
   (wpAny_getItem_list_neg (Q:=fun r s'=>r=w∧EP X pins σ Q r s') pl.isList (by omega) (by rw [List.size_toArray] <;> omega) (by omega) (by rw [hj];simpa using ew) ⟨rfl,fin⟩) hs
theorem Q8e:IxR X (rIxT X.K):=by
 intro value slice pins s σ H x y v u Q I rx ry h hs
 obtain ⟨p,xs,i,z,rfl,rfl,hq,he,q⟩:=h
 cases rx
 obtain ⟨t,rfl⟩:=ry
 obtain ⟨its,r,pl,hz⟩:=I.tuple hq
 obtain ⟨j,h1,h2,h3,h4,h5⟩:=Qoi he
 obtain ⟨w,ew,rw'⟩:=r.get h2
 have hl:=r.length
 have hn:=Qky
 have fin:EP X pins σ Q w s:=⟨z,H,I,rw',q⟩
 exact subscriptTail_builtinR (x:=w) pl.typeIs slot_tuple_getitem.lookup
  (getItem_tuple (j:=j) (Q:=fun r s'=>r=w∧EP X pins σ Q r s') pl (by omega) (by omega) (by rw [List.size_toArray,←hl];exact h1) (by simpa using ew) ⟨rfl,fin⟩) hs
theorem Q8f:IxR X rIxS:=by
 intro value slice pins s σ H x y v u Q I rx ry h hs
 obtain ⟨z,i,c,rfl,rfl,hz,he,q⟩:=h
 obtain ⟨t,rfl⟩:=rx
 obtain ⟨t',rfl⟩:=ry
 obtain ⟨j,h1,h2,h3,h4,h5⟩:=Qoi he
 have hl:z.cps.toList.length=z.length:=by simp [Str.length]
 rw [hl] at h1 h4 h5
 have hn:=Qky
 exact tail_any (typeIs_str s z t) slot_str_getitem.lookup (getItem_str (c:=c) (by
  have e1:decide (i < -(2^63:Int))=false:=decide_eq_false (by omega)
  have e2:decide (i≥2^63)=false:=decide_eq_false (by omega)
  rw [e1,e2,Bool.or_false]) (by rw [h1];simpa using h2) ⟨.str ⟨#[c]⟩,H,I.tok _,⟨_,rfl⟩,q⟩) hs
def rIx (K:Frg):R2:=fun x y H Q=>Qjd K x y H Q∨rIxT K x y H Q∨rIxS x y H Q
theorem Q8g:IxR X (rIx X.K):=Qug.or (Q8e.or Q8f)
theorem Qso (its:List Value)(n j:Nat)(u:Value):Obj.mapSeq (·.setIfInBounds j u) { cls:=.type "list",data:=.seq its.toArray n }={ cls:=.type "list",data:=.seq (its.set j u).toArray n }:=by
 simp [Obj.mapSeq]
theorem Inv.lst {p:Addr}{xs:List V}(I:Inv X pins σ H s)(h:H p=some (.lst xs)) :
  ∃ (its:List Value) (n:Nat),Vals xs its∧s.heap.get? p=some { cls:=.type "list",data:=.seq its.toArray n }∧xs.length≤sizeLine:=by
 obtain ⟨z,its,n,r,e⟩:=I.hok p _ h
 exact ⟨its,n,r,e,z⟩
theorem Inv.lstUpd {p:Addr}{xs ys:List V}{its its':List Value}{n':Nat}{f:Obj→Obj}(I:Inv X pins σ H s)(h:H p=some (.lst xs))
  (ho:s.heap.get? p=some { cls:=.type "list",data:=.seq its.toArray n }) (hf:f { cls:=.type "list",data:=.seq its.toArray n }={ cls:=.type "list",data:=.seq its'.toArray n' }) (r:Vals ys its') (hz:ys.length≤sizeLine) (t:Nat) :
  Inv X pins σ (upd H p (.lst ys)) { s with heap:=s.heap.update p f,toks:=t }:=by
 have e:(s.heap.update p f).get? p=some { cls:=.type "list",data:=.seq its'.toArray n' }:=by
  rw [Heap.get?_update_self f ho (by rw [hf] <;> rfl),hf]
 refine I.write (x:=p) (e:=p) (by rw [h];trivial) (.inl rfl) (fun b u hb q=>(Heap.get?_update_other _ _ (Ne.symm hb)).trans q) ⟨_,e⟩ ?_
 exact ⟨hz,its',n',r,e⟩
def Qhr:V→V→V→Hp→(Hp→Prop)→Prop:=fun o i v H Q=>∃ p xs k j,o=.ref p∧i=.int k∧H p=some (.lst xs)∧ixN xs.length k=some j∧Q (upd H p (.lst (xs.set j v)))
theorem Qxm:PSet X Qhr:=by
 intro pins s σ H o i v ov iv u Q I ro ri rv h
 obtain ⟨p,xs,k,j,rfl,rfl,hp,hj,q⟩:=h
 cases ro
 obtain ⟨t,rfl⟩:=ri
 obtain ⟨its,n,r,ho,hz⟩:=I.lst hp
 obtain ⟨h1,h2,h3,h4⟩:=Qoh hj
 have hl:=r.length
 have hn:=Qky
 have I':Inv X pins σ (upd H p (.lst (xs.set j v))) { s with heap:=s.heap.update p (Obj.mapSeq (·.setIfInBounds j u)) } :=
  I.lstUpd hp ho (Qso its n j u) (r.set rv j) (by rw [List.length_set];exact hz) s.toks
 by_cases h0:0≤k
 ·have hk:k.toNat=j:=by
   rw [seqIndex_of h0 h4] at h1
   exact Option.some.inj h1
  exact PySem.W.ki_setAt ho h0 (by omega) (by rw [List.size_toArray,←hl];exact h4) (by rw [hk];exact ⟨_,I',q⟩)
 ·have hk:(k+(its.toArray.size:Int)).toNat=j:=by
   rw [seqIndex_neg (by omega) h3] at h1
   rw [List.size_toArray,←hl]
   exact Option.some.inj h1
  exact PySem.W.ki_setBack ho (by omega) (by rw [List.size_toArray,←hl];exact h3) (by omega) (by rw [hk];exact ⟨_,I',q⟩)
theorem Qoj (lo hi:Option Int)(n:Nat):(sliceBounds lo hi none n).1=((HT.sIx n 0 lo:Nat):Int)∧(sliceBounds lo hi none n).2.1=((HT.sIx n n hi:Nat):Int)∧(sliceBounds lo hi none n).2.2=1:=by
 refine ⟨?_,?_,rfl⟩
 ·cases lo with
  | none=>simp [sliceBounds,HT.sIx]
  | some i =>
   simp only [sliceBounds,HT.sIx,Option.getD_none,show (1:Int)>0 by decide,if_true]
   by_cases h:i<0
   ·simp only [h,if_true] <;> omega
   ·simp only [h,if_false] <;> omega
 ·cases hi with
  | none=>simp [sliceBounds,HT.sIx]
  | some i =>
   simp only [sliceBounds,HT.sIx,Option.getD_none,show (1:Int)>0 by decide,if_true]
   by_cases h:i<0
   ·simp only [h,if_true] <;> omega
   ·simp only [h,if_false] <;> omega
theorem Qml (its:List Value)(lo hi:Option Int):slicePick its.toArray lo hi none=((its.drop (HT.sIx its.length 0 lo)).take (HT.sIx its.length its.length hi-HT.sIx its.length 0 lo)).toArray:=by
 obtain ⟨h1,h2,h3⟩:=Qoj lo hi its.toArray.size
 unfold slicePick
 rw [h1,h2,h3]
 simp only [sliceRange_one,pick_run,List.size_toArray] <;> rfl
def rSlL (K:Frg):V→Option Int→Option Int→Hp→VK→Prop:=fun x lo hi H Q=>∃ a xs,x=.ref a∧SqL K H a xs∧∀ p,H p=none→Q (.ref p) (upd H p (.lst (Qgt xs lo hi)))
theorem Q2r:SlR X (rSlL X.K):=by
 intro pins s σ H x v vl vu lo hi sl Q I rx hs pl pu h
 obtain ⟨a,xs,rfl,hx,q⟩:=h
 cases rx
 obtain ⟨its,r,ht,hz⟩:=I.list hx
 have hlen:=r.length
 refine ⟨"list",_,slot_list_getitem.lookup,ht.isList.typeIs,?_⟩
 refine wpAny_getItem_list_slice ht.isList hs pl pu .none (by simp) ?_ (by rw [List.size_toArray] <;> omega)
 rw [Qml,←hlen]
 refine ⟨.ref s.heap.objs.size,_,I.laid (t':=s.toks) (o:=.lst (Qgt xs lo hi)) (fun b ob q=>Heap.get?_push_of_some _ q) (Nat.le_refl _) ?_,rfl,q _ (I.hok.fresh (Nat.le_refl _))⟩
 exact ⟨Nat.le_trans (Qgu xs lo hi) hz,_,0,(r.drop (HT.sIx xs.length 0 lo)).take (HT.sIx xs.length xs.length hi-HT.sIx xs.length 0 lo),Heap.get?_push_size _ rfl⟩
theorem Qok:CallR X (.builtin "len") (fun xs H Q=>∃ p ys,xs=[.ref p]∧(SqL X.K H p ys∨SqT X.K H p ys)∧Q (.int ys.length) H):=by
 intro pins s σ H xs us Q I r h
 obtain ⟨p,ys,rfl,hq,q⟩:=h
 obtain ⟨u,rfl,rx⟩:=Qgl r
 cases rx
 have hn:=Qky
 rcases hq with hq | hq
 ·obtain ⟨its,r',pl,hz⟩:=I.list hq
  have hlen:=r'.length
  exact Calls.call_len_list pl.isList (by simp only [List.size_toArray] <;> omega) ⟨.int ys.length,H,I.tok _,⟨s.toks+1,by rw [List.size_toArray,hlen]⟩,q⟩
 ·obtain ⟨its,r',pl,hz⟩:=I.tuple hq
  have hlen:=r'.length
  exact len_tuple pl (by simp only [List.size_toArray] <;> omega) ⟨.int ys.length,H,I.tok _,⟨s.toks+1,by rw [List.size_toArray,hlen]⟩,q⟩
theorem CallR.or {f:Value}{r r':List V→Hp→VK→Prop}(h:CallR X f r)(h':CallR X f r'):CallR X f (fun xs H Q=>r xs H Q∨r' xs H Q):=by
 intro pins s σ H xs us Q I rs q
 rcases q with q | q
 ·exact h pins s σ H xs us Q I rs q
 ·exact h' pins s σ H xs us Q I rs q
theorem Qol:CallR X (.type "list") (fun xs H Q=>∃ p ys,xs=[.ref p]∧(SqL X.K H p ys∨SqT X.K H p ys)∧∀ l,H l=none→Q (.ref l) (upd H l (.lst ys))):=by
 intro pins s σ H xs us Q I r h
 obtain ⟨p,ys,rfl,hq,q⟩:=h
 obtain ⟨u,rfl,rx⟩:=Qgl r
 cases rx
 have fin:∀ (its:List Value),Vals ys its→ys.length≤sizeLine→∀ (h':Heap) (c':Nat),(∀ b o',s.heap.get? b=some o'→h'.get? b=some o') →
   h'.get? s.heap.objs.size=some { cls:=.type "list",dict:=none,data:=.seq its.toArray c',slots:=#[] }→EP X pins σ Q (.ref s.heap.objs.size) { s with heap:=h' }:=fun its r' hz h' c' kp e =>
  ⟨.ref s.heap.objs.size,_,I.laid (t':=s.toks) kp (Nat.le_refl _) (show ObjOk X.prog X.w _ h' _ (.lst ys) from ⟨hz,its,c',r',e⟩),rfl,q _ (I.hok.fresh (Nat.le_refl _))⟩
 rcases hq with hq | hq
 ·obtain ⟨its,r',pl,hz⟩:=I.list hq
  have hlen:=r'.length
  obtain ⟨o,ho,hc,n,hd⟩:=pl.isList
  exact call_list_seq p (.inl rfl) ho hc hd (fun h' c' kp e=>fin its r' hz h' c' kp e) (by simp only [List.size_toArray] <;> omega)
 ·obtain ⟨its,r',pl,hz⟩:=I.tuple hq
  have hlen:=r'.length
  obtain ⟨o,ho,hc,n,hd⟩:=pl
  exact call_list_seq p (.inr rfl) ho hc hd (fun h' c' kp e=>fin its r' hz h' c' kp e) (by simp only [List.size_toArray] <;> omega)
theorem Qmm:CallR X (.type "tuple") (fun xs H Q=>∃ p ys,xs=[.ref p]∧((SqL X.K H p ys∧∀ l,H l=none→Q (.ref l) (upd H l (.tup ys)))∨(SqT X.K H p ys∧Q (.ref p) H))):=by
 intro pins s σ H xs us Q I r h
 obtain ⟨p,ys,rfl,h⟩:=h
 obtain ⟨u,rfl,rx⟩:=Qgl r
 cases rx
 rcases h with ⟨hq,q⟩ | ⟨hq,q⟩
 ·obtain ⟨its,r',pl,hz⟩:=I.list hq
  have hlen:=r'.length
  refine call_tuple_list pl.isList (fun h' kp=>?_) (by simp only [List.size_toArray] <;> omega)
  have I1:Inv X pins σ H { s with heap:=h' }:=I.kept (t':=s.toks) kp
  have I2:Inv X pins σ (upd H h'.objs.size (.tup ys)) { s with heap:=h'.push { cls:=.type "tuple",data:=.seq its.toArray } } :=
   I1.laid (t':=s.toks) (fun b o e=>Heap.get?_push_of_some _ e) (Nat.le_refl _) (show ObjOk X.prog X.w _ _ _ (.tup ys) from ⟨hz,its,r',IsTupD.new _ _⟩)
  exact ⟨.ref h'.objs.size,_,I2,rfl,q _ (I1.hok.fresh (Nat.le_refl _))⟩
 ·obtain ⟨its,r',pl,hz⟩:=I.tuple hq
  exact call_tuple_same pl ⟨.ref p,H,I,rfl,q⟩
def tyV (K:Frg) (T:String) (x:V) (H:Hp):Prop:=match x with
 | .str _=>T = "str"
 | .int _=>T = "int"
 | .ref p=>(T = "list" ∧ ∃ xs,SqL K H p xs)∨(T = "tuple" ∧ ∃ o,K.lookup p=some o∧o.cls=.type "tuple" ∧ o.dict=none) ∨
   (T = "dict" ∧ ((∃ kvs,H p=some (.dK kvs))∨∃ kvs,H p=some (.dT kvs)))∨(T = "set" ∧ ∃ S n,H p=some (.set S n))
 | _=>False
theorem Q8h {T:String}{x:V}{v:Value}(I:Inv X pins σ H s)(r:RelV x v)(ty:tyV X.K T x H) :
  s.TypeIs v T∧∀ a,v=.ref a→∃ ob,s.heap.get? a=some ob∧ob.dict=none:=by
 cases x with
 | str z =>
  obtain ⟨t,rfl⟩:=r
  cases (show T = "str" from ty)
  exact ⟨typeIs_str s z t,fun _ e=>nomatch e⟩
 | int i =>
  obtain ⟨t,rfl⟩:=r
  cases (show T = "int" from ty)
  exact ⟨typeIs_int s i t,fun _ e=>nomatch e⟩
 | ref p =>
  cases r
  rcases ty with ⟨rfl,xs,hq⟩ | ⟨rfl,o,hk,hc,hd⟩ | ⟨rfl,hk⟩ | ⟨rfl,S,n,hk⟩
  ·obtain ⟨its,_,pl,_⟩:=I.list hq
   refine ⟨pl.isList.typeIs,fun a e=>?_⟩
   cases e
   obtain ⟨o,n,e,c,hd,_⟩:=pl
   exact ⟨o,e,hd⟩
  ·refine ⟨⟨o,I.kIn p o hk,hc⟩,fun a e=>?_⟩
   cases e
   exact ⟨o,I.kIn _ o hk,hd⟩
  ·have z:∃ o,s.heap.get? p=some o∧o.ExactDict:=by
    rcases hk with ⟨kvs,hk⟩ | ⟨kvs,hk⟩
    ·obtain ⟨_,_,_,_,o,_,_,e,ex,_⟩:=I.hok p _ hk
     exact ⟨o,e,ex⟩
    ·obtain ⟨_,_,_,_,o,_,_,e,ex,_⟩:=I.hok p _ hk
     exact ⟨o,e,ex⟩
   obtain ⟨o,e,ex⟩:=z
   refine ⟨⟨o,e,ex.1⟩,fun a e2=>?_⟩
   cases e2
   exact ⟨o,e,ex.2.1⟩
  ·obtain ⟨o,_,_,_,e,ex,_⟩:=I.hok p _ hk
   refine ⟨⟨o,e,ex.1⟩,fun a e2=>?_⟩
   cases e2
   exact ⟨o,e,ex.2.1⟩
 | _=>exact False.elim ty
abbrev tBM (K:Frg) (T:String) (r:V→List V→Hp→VK→Prop) (to:TE) (t:TA):TE:=fun σ H Q=>to σ H fun x H1=>tyV K T x H1∧t σ H1 fun xs H2=>r x xs H2 Q
variable {o e:Expr} {es:List Expr} {to:TE} {t:TA} {name:Str} {apos cpos:Pos} {T id:String} {r:V→List V→Hp→VK→Prop}
theorem Qabr (pa:PlainAttrs T)(slot:Slot T name id)(hty:typeOf (.builtin id)=pure (.type "method_descriptor"))(hm:MtR X id r)(ho:PE X o to)(ha:PA X (e::es) t)
  (hbase:attributeBase o name X.env (eval o X.env)=eval o X.env:=by rfl)
  (hfew:((backTo cpos (starEach (e::es) X.env)).all (fun x=>!x.1)&&(backToKw cpos (keywordEach [] X.env)).all (fun x=>x.1.isSome)
   && decide ((e::es).length+([]:List Keyword).length+(if ([]:List Keyword).isEmpty then 0 else 1)<30))=true:=by rfl)
  (hline:(apos.endLine==cpos.line)=true:=by rfl) (hs:starEach (e::es) X.env=(false,eval e X.env)::starEach es X.env:=by rfl) (hplain:(backTo cpos (starEach es X.env)).any (·.1)=false:=by rfl) :
  PE X (.Call (.Attribute o name apos) (e::es) [] cpos) (tBM X.K T r to t):=by
 intro pins s σ H Q I h
 refine wpAny_Call_method_late hbase hfew hline rfl (thn (ho pins s σ H _ I h) fun v s1 ⟨x,H1,I1,r1,ty,q1⟩=>?_)
 obtain ⟨h1,h2⟩:=Q8h I1 r1 ty
 refine ⟨T,id,pa,slot,hty,h1,h2,?_⟩
 have hA:=ha cpos pins s1 σ H1 _ I1 q1
 rw [hs] at hA ⊢
 refine Calls.callWith_builtin (by show (false||(backTo cpos (starEach es X.env)).any (·.1))=false;rw [hplain] <;> rfl) (Calls.evalArgs_plain ?_)
 exact thn hA fun us s2 ⟨vs,H2,I2,r2,q2⟩=>hm pins s2 σ H2 x vs v us Q I2 r1 r2 q2
end
def MtM (X:Cx) (id:String) (r:V→List V→Hp→VK→Prop):Prop :=
 ∀ (pins:List (Addr×Obj)) (s:Shared) (σ:St) (H:Hp) (x:V) (xs:List V) (v:Value) (us:List Value) (Q:VK),Inv X pins σ H s→RelV x v→Vals xs us→r x xs H Q →
  wpAny (model X.prog X.w) X.A (call (.builtin id) (v::us)) (EP X pins σ Q) X.xe s
theorem Vals.one:∀ {x:V} {us:List Value},Vals [x] us→∃ u,us=[u]∧RelV x u
 | _,_,.cons r .nil=>⟨_,rfl,r⟩
theorem Vals.rep {xs:List V}(h:Vals xs us):∀ k:Nat,Vals (List.replicate k xs).flatten (List.replicate k us).flatten
 | 0=>.nil
 | k+1=>by
  rw [List.replicate_succ,List.replicate_succ,List.flatten_cons,List.flatten_cons]
  exact Vals.append h (Vals.rep h k)
theorem Qje (its:List Value):∀ (k:Nat) (acc:List Value),
  List.foldl (fun x1 x2=>x1++x2) acc.toArray (List.replicate k its.toArray)=(acc++(List.replicate k its).flatten).toArray
 | 0,acc=>by simp
 | k+1,acc=>by
  have e:acc.toArray++its.toArray=(acc++its).toArray:=by simp
  have e2:(acc++its)++(List.replicate k its).flatten=acc++(List.replicate (k+1) its).flatten:=by
   rw [List.replicate_succ,List.flatten_cons,List.append_assoc]
  rw [←e2,←Qje its k (acc++its),←e,List.replicate_succ,List.foldl_cons]
section
variable {X:Cx} {pins:List (Addr×Obj)} {σ:St} {H:Hp} {s:Shared} {l b:Addr} {xs ys zs:List V}
theorem Inv.lset {its its':List Value}{f:Array Value→Array Value}(I:Inv X pins σ H s)(hH:H l=some (.lst xs))
  (e:s.heap.get? l=some { cls:=.type "list",data:=.seq its.toArray n }) (hf:f its.toArray=its'.toArray) (hv:Vals ys its') (hz:ys.length≤sizeLine) :
  Inv X pins σ (upd H l (.lst ys)) { s with heap:=s.heap.update l (Obj.mapSeq f),toks:=t' }:=by
 have q:=PySem.IsL.update e f
 rw [hf] at q
 refine I.write (x:=l) (e:=l) (by rw [hH];exact trivial) (.inl rfl) (fun b' u hb hu=>(Heap.get?_update_other s.heap (Obj.mapSeq f) (Ne.symm hb)).trans hu) ⟨_,q⟩ ?_
 exact ⟨hz,its',_,hv,q⟩
theorem Inv.lnew {its:List Value}(I:Inv X pins σ H s)(hv:Vals ys its)(hz:ys.length≤sizeLine) :
  Inv X pins σ (upd H s.heap.objs.size (.lst ys)) { s with heap:=s.heap.push { cls:=.type "list",data:=.seq its.toArray },toks:=t' } :=
 I.laid (fun _ _ q=>Heap.get?_push_of_some _ q) (Nat.le_refl _) ⟨hz,its,0,hv,Heap.get?_push_size _ rfl⟩
theorem Inv.fresh (I:Inv X pins σ H s):H s.heap.objs.size=none:=I.hok.fresh (Nat.le_refl _)
theorem Inv.lstM (I:Inv X pins σ H s)(hH:H l=some (.lst xs)):xs.length≤sizeLine∧∃ (its:List Value) (n:Nat),Vals xs its∧xs.length=its.length∧s.heap.get? l=some { cls:=.type "list",data:=.seq its.toArray n }:=by
 obtain ⟨z,its,n,r,e⟩:=I.hok l _ hH
 exact ⟨z,its,n,r,r.length,e⟩
theorem Qkz (h:n≤sizeLine):Builtin.List.listTooLong n=false:=by
 unfold Builtin.List.listTooLong
 exact decide_eq_false (by omega)
end
section
variable {X:Cx}
def Qd9:V→List V→Hp→VK→Prop:=fun x vs H Q=>∃ l xs y,x=.ref l∧vs=[y]∧H l=some (.lst xs)∧xs.length<sizeLine∧Q .non (upd H l (.lst (xs++[y])))
theorem Qjf:MtM X "list.append" Qd9:=by
 intro pins s σ H x vs v us Q I rx rv h
 obtain ⟨l,xs,y,rfl,rfl,hH,hz,q⟩:=h
 cases rx
 obtain ⟨u,rfl,ru⟩:=rv.one
 obtain ⟨z,its,n,r,hl,e⟩:=I.lstM hH
 refine call_meets F.slot_list_append ⟨_,e,rfl⟩ F.entry_list_append (F.args_list_append_2 _ _) (PySem.list_append l its.toArray n u (by rw [List.size_toArray];omega)) ⟨e,?_⟩
 refine ⟨.non,_,I.lset (its':=its++[u]) hH e (by simp) (r.append (.cons ru .nil)) ?_,rfl,q⟩
 rw [List.length_append,List.length_singleton]
 omega
def Q2s:V→List V→Hp→VK→Prop:=fun x vs H Q=>∃ l b xs zs,x=.ref l∧vs=[.ref b]∧H l=some (.lst xs)∧H b=some (.lst zs)∧xs.length+zs.length≤sizeLine∧Q .non (upd H l (.lst (xs++zs)))
theorem mt_extend:MtM X "list.extend" Q2s:=by
 intro pins s σ H x vs v us Q I rx rv h
 obtain ⟨l,b,xs,zs,rfl,rfl,hH,hB,hz,q⟩:=h
 cases rx
 obtain ⟨u,rfl,ru⟩:=rv.one
 cases ru
 obtain ⟨z,its,n,r,hl,e⟩:=I.lstM hH
 obtain ⟨z2,its2,n2,r2,hl2,e2⟩:=I.lstM hB
 have hsz:its.toArray.size+its2.toArray.size≤sizeLine:=by rw [List.size_toArray,List.size_toArray];omega
 have hlong:¬ (!its.toArray.isEmpty&&Builtin.List.listTooLong (its.toArray.size+its2.toArray.size))=true:=by
  rw [Qkz hsz,Bool.and_false]
  exact Bool.false_ne_true
 refine call_meets F.slot_list_extend ⟨_,e,rfl⟩ F.entry_list_extend (F.args_list_extend_2 _ _)
  (AutoSeq1.list_extend_list_list_0 l its.toArray n b its2.toArray n2 hlong (by rw [List.size_toArray];omega) (by omega)) ⟨e,e2,?_⟩
 refine ⟨.non,_,I.lset (its':=its++its2) hH e (by simp) (r.append r2) ?_,rfl,q⟩
 rw [List.length_append]
 omega
def rCat:R2:=fun x y H Q=>∃ l b xs zs,x=.ref l∧y=.ref b∧H l=some (.lst xs)∧H b=some (.lst zs)∧xs.length+zs.length≤sizeLine∧∀ p,H p=none→Q (.ref p) (upd H p (.lst (xs++zs)))
theorem Q8i:OpR X (binaryOp .Add) rCat:=by
 intro pins s σ H x y v u Q I rx ry h
 obtain ⟨l,b,xs,zs,rfl,rfl,hH,hB,hz,q⟩:=h
 cases rx
 cases ry
 obtain ⟨z,its,n,r,hl,e⟩:=I.lstM hH
 obtain ⟨z2,its2,n2,r2,hl2,e2⟩:=I.lstM hB
 refine PySem.P.add_list e e2 ?_ (by rw [List.size_toArray,List.size_toArray];omega)
 have ea:its.toArray++its2.toArray=(its++its2).toArray:=by simp
 rw [ea]
 exact ⟨.ref _,_,I.lnew (t':=s.toks) (r.append r2) (by rw [List.length_append];omega),rfl,q _ I.fresh⟩
def rRep:R2:=fun x y H Q=>∃ l k xs,x=.ref l∧y=.int k∧H l=some (.lst xs) ∧ -(2^63)≤k∧k<2^63∧xs.length*k.toNat≤sizeLine ∧
 ∀ p,H p=none→Q (.ref p) (upd H p (.lst (List.replicate k.toNat xs).flatten))
theorem Qkl (xs:List α)(k:Nat):(List.replicate k xs).flatten.length=k*xs.length:=by
 induction k with
 | zero=>simp
 | succ k ih=>rw [List.replicate_succ,List.flatten_cons,List.length_append,ih,Nat.succ_mul,Nat.add_comm]
theorem Q8j:OpR X (binaryOp .Mult) rRep:=by
 intro pins s σ H x y v u Q I rx ry h
 obtain ⟨l,k,xs,rfl,rfl,hH,h1,h2,hz,q⟩:=h
 cases rx
 obtain ⟨t,rfl⟩:=ry
 obtain ⟨z,its,n,r,hl,e⟩:=I.lstM hH
 have hlen:its.toArray.size*k.toNat≤sizeLine:=by rw [List.size_toArray,←hl];exact hz
 have hcap:¬ its.toArray.size*k.toNat>(2^63-1) / 8:=by
  have:(sizeLine:Nat)≤(2^63-1) / 8:=by decide
  omega
 have hfit:¬ (!Builtin.List.listFitsIndex k)=true:=by
  rw [fitsIndex_both h1 h2]
  exact Bool.false_ne_true
 have hlong:¬ Builtin.List.listTooLong (its.toArray.size*k.toNat)=true:=by
  rw [Qkz hlen]
  exact Bool.false_ne_true
 have hnew:List.foldl (fun x1 x2=>x1++x2) #[] (List.replicate (if its.toArray.isEmpty=true then 0 else k.toNat) its.toArray)=(List.replicate k.toNat its).flatten.toArray:=by
  have f0:∀ m:Nat,List.foldl (fun x1 x2=>x1++x2) #[] (List.replicate m its.toArray)=(List.replicate m its).flatten.toArray:=fun m=>by
   have:=Qje its m []
   rw [List.nil_append] at this
   exact this
  rw [f0]
  cases its with
  | nil=>simp
  | cons a r'=>rw [if_neg (by simp)]
 refine wpAny_binaryOp_repeat_ref (T := "list") (U := "int") (by decide) ⟨_,e,rfl⟩ (fun s'=>typeIs_int s' k t) noFill_list_mul F.fills_int_mul F.slot_int_rmul repeat_list F.slot_int_index.lookup
  (call_meets F.slot_int_rmul (typeIs_int s k t) F.entry_int_rmul (F.args_int_rmul_2 _ _) (int___rmul___int_list k t l its.toArray n)
   ⟨e,rfl,⟨_,e,rfl⟩,call_meets F.slot_list_mul ⟨_,e,rfl⟩ F.entry_list_mul (F.args_list_mul_2 _ _) (AutoListH.list___mul___list_int_3 l its.toArray n k t hfit hcap hlong) ⟨e,?_⟩⟩)
 rw [hnew]
 exact ⟨.ref _,_,I.lnew (t':=s.toks) (r.rep k.toNat) (by rw [Qkl,Nat.mul_comm];exact hz),rfl,q _ I.fresh⟩
end
section
variable {prog:Program} {w:World} {A:Around} {E:Value→Shared→Prop} {s:Shared}
end
section
variable {X:Cx}
end
end L2
namespace Att
open PySem PySem.W PySem.Calls PyProof.Rows
theorem ints_of_wellAll {P:Params}{h:Heap}:∀ (ns:List Int) (vs:List Value),WellAll P h vs (ns.map WData.int)→IntsAre vs ns:=by
 intro ns
 induction ns with
 | nil =>
  intro vs w
  rw [List.map_nil] at w
  cases w
  exact .nil
 | cons n ns ih =>
  intro vs w
  rw [List.map_cons] at w
  cases w with
  | cons a b =>
   cases a
   exact .cons _ _ (ih _ b)
theorem script_of {l:OpenLaw}{n:Nat}(hn:l.most=some n){P:Params}{h:Heap}{args:List WData}{vals:List Value}
  (hpre:l.row.toRowW.claim.pre args=true) (hwl:WellAll P h vals args) :
  ∃ a vs ns,vals=[Value.ref a]∧args=[WData.list (ns.map WData.int)]∧h.get? a=some { cls:=.type "list",data:=.seq vs.toArray }∧IntsAre vs ns∧ns.length≤n:=by
 have hsh:WShape.hasAll [] args [.list .int]=true:=(pre_splitW hpre).1
 have hc:l.pre.holds [] { args:=args }=true:=(pre_splitW hpre).2
 obtain ⟨d,r,rfl,h1,h2⟩:=hasAllW_cons hsh
 obtain rfl:=hasAllW_nil h2
 obtain ⟨xs,rfl,h3⟩:=hasW_list h1
 obtain ⟨ns,rfl⟩:=items_int h3
 have hlen:ns.length≤n:=by
  unfold OpenLaw.pre at hc
  have h4:(WTm.not (.lt (.lit (.int (n:Int))) (.len (.arg 0)))).holds [] { args:=[.list (ns.map .int)] }=true:=by
   have h4:=(holds_andW hc).1
   rw [hn] at h4
   exact h4
  have h5:=condW_of h4 (w_not (w_lt w_lit (w_len_list (w_arg rfl))))
  rw [List.length_map] at h5
  refine Nat.le_of_not_lt fun q=>?_
  have q':(n:Int)<((ns.length:Nat):Int):=by omega
  first
   | (rw [decide_eq_true q'] at h5;exact absurd h5 (by decide))
   | (simp at h5;omega)
 cases hwl with
 | cons w1 w2 =>
  cases w2
  cases w1 with
  | list ho hall=>exact ⟨_,_,ns,rfl,rfl,ho,ints_of_wellAll ns _ hall,hlen⟩
theorem post_true (l:OpenLaw)(args:List WData):l.row.toRowW.claim.post args (.bool true) args=true :=
 postW_of (r:=l.row.toRowW) (X:=(true==true))
  (show WShape.has [] (.bool true) .bool=true by first | rfl | decide | simp [WShape.has,WShape.arms,WShape.armsAll])
  (show (WTm.eq .res (.lit (.bool true))).value [] { args:=args,res:=some (.bool true),after:=args }=some (.bool (true==true)) from w_eq_bool (w_res rfl) w_lit) rfl
theorem attach_call {l:OpenLaw}{n:Nat}{q:Program}{loose:List Str}{XP:(Str→Option Value)→Heap→Prop}{YP:World→Heap→Prop}{d:DefRec}
  (hn:l.most=some n) (hdf:d.params.defaults=[])
  (call:∀ (w:World) (s₀ s₁:Shared) (mg mb:Str→Option Value) (fa:Addr) (o:Obj) (pm cd doc:Value) (a:Addr) (vs:List Value) (ns:List Int),
   Ground q loose [] XP w s₀ mg mb s₁.heap→YP w s₁.heap →
   s₁.heap.get? fa=some o→o.data=.func (docDef d.name d.params d.body d.scope pm cd doc)→s₁.heap.CodeRec cd d.name→mg d.name=some (.ref fa) →
   s₁.heap.get? a=some { cls:=.type "list",data:=.seq vs.toArray }→IntsAre vs ns→ns.length≤n→s₁.gens = #[] →
   codeAny (model l.prog w) callerA (.call (.ref fa) ⟨[.ref a],[]⟩) (fun r s'=>r=.ok (.ret (.bool true))∧OldK s₁.heap s'.heap∧s'.os=s₁.os∧AllBare s'.gens) s₁) :
  WalkO q loose XP YP l.row.toRowW d [] (fun f vs=>PySem.call f vs):=by
 intro w s₀ s₁ mg mb G Y fa o pm cd doc dV kV ho hd hcd hD hmg hg args vals as hpre hlay hrd hwl hlo
 obtain rfl:dV=.none:=Dflts.none hD hdf
 obtain rfl:kV=.none:=Dflts.noKw hD
 obtain ⟨a,vs,ns,rfl,rfl,hobj,hints,hlen⟩:=script_of hn hpre hwl
 refine enter_call (codeAny_mono (call w s₀ s₁ mg mb fa o pm cd doc a vs ns G Y ho (fd_plain hd) hcd hmg hobj hints hlen hg) fun r s' hq=>?_)
 obtain ⟨rfl,h2,h3,h4⟩:=hq
 exact ⟨.inl ⟨.bool true,.bool true,[],rfl,fun _=>rfl,.bool true,post_true l _,fun _=>⟨List.Pairwise.nil,fun _ hm=>(nomatch hm)⟩⟩,h2,h3,h4⟩
section
variable {prog:Program} {w:World} {A:Around} {E:Value→Shared→Prop} {s:Shared} {K:Frag}
end
end Att
namespace L2
open PySem PySem.Spec PyProof.Rows
variable {us:List Value} {H H' H0:Hp} {o:HO} {h:Heap} {α:Type} {P:Program} {w:World} {t' k n iW iS iT:Nat} {N ps:List Str} {j:Int} {A:Around} {X:Cx} {s:Shared} {pins:List (Addr×Obj)} {σ:St} {pos:Pos} {op:CmpOp} {c tg iter tgE:Expr} {K:Frg} {D:Ends} {es ifs:List Expr} {te:TE} {g:TG} {body:List Stmt} {Q:VK} {kindOf:Str→Option NameKind} {qual:Str} {scope:Scope} {sp:Sp} {st:Stmt} {kvs:List (List Key×V)} {env:Env} {js:List (Option Nat)} {G:Addr→Prop}
theorem Qnd:∀ {vs:List Value} {ns:List Int},IntsAre vs ns→Vals (ns.map V.int) vs
 | _,_,.nil=>.nil
 | _,_,.cons n t h=>.cons ⟨t,rfl⟩ (Qnd h)
def Q2t (H:Hp):Prop:=∀ b,H b=none∨∃ o xs,H b=some (.frz o (.lst xs))
theorem Qxn {mg mb:Str→Option Value}{CX:CXT}{fa a:Addr}{fd:FuncData}{x:Str}{s₁:Shared}{vs:List Value}{ns:List Int}
  (KX:K.In s₁.heap) (hns:s₁.heap.Ns mainGlobals mg) (hb:s₁.heap.Ns builtinsNs mb) (hbb:∀ x:Str,x ≠ "__name__" → mb x=bootBuiltins x) (hlim:s₁.heap.NoLimit) (hg:s₁.gens = #[])
  (ha:s₁.heap.get? a=some { cls:=.type "list",data:=.seq vs.toArray }) (hi:IntsAre vs ns) (hl:ns.length≤sizeLine) (hr:Room k callerA)
  (F:∀ base:Heap,K.In base→base.Ns mainGlobals mg→FnOk P w K mg base CX k fa fd [x] sp) (hbind:∀ (s:Shared) (u:Value),BindsTo s fd ⟨[u],[]⟩ [(x,u)])
  (hsp:∀ H:Hp,Q2t H→SqL K H a (ns.map V.int)→sp [.ref a] H (fun v _=>v=.bl true) fun _ _ _=>False)
  (hCX:∀ H e s',CX [] H s₁ (fun _ _ _=>False) e s'→False)
  (hbm:∃ bm ob,mg "__builtins__" = some (.ref bm)∧bm≠builtinsNs∧s₁.heap.get? bm=some ob∧ob.cls=.type "module" ∧ ob.dict=some builtinsNs∧ob.data=.plain) (hT:∀ a q,¬ Qw7 K a q) :
  codeAny (model P w) callerA (.call (.ref fa) ⟨[.ref a],[]⟩) (fun r s'=>r=.ok (.ret (.bool true))∧OldK s₁.heap s'.heap∧s'.os=s₁.os∧AllBare s'.gens) s₁:=by
 have rv:=Qnd hi
 have lenV:=hi.length
 -- from an abstract heap in which nothing but the script may be tracked
 have core:∀ H:Hp,Q2t H→SqL K H a (ns.map V.int)→HOk P w H s₁.heap→(∀ b,H b≠none→b=a)→(H a≠none→K.lookup a=none) →
   codeAny (model P w) callerA (.call (.ref fa) ⟨[.ref a],[]⟩) (fun r s'=>r=.ok (.ret (.bool true))∧OldK s₁.heap s'.heap∧s'.os=s₁.os∧AllBare s'.gens) s₁:=by
  intro H hO hS hok hA hK
  have base_of:∀ {b:Addr} {o:Obj},s₁.heap.get? b=some o→H b=none→(Qoe s₁.heap H).get? b=some o:=fun e n=>Qw6 e n
  have noA:∀ {b:Addr} {o:Obj} {es:Array DictEntry} {ep:Nat},s₁.heap.get? b=some o→o.data=.dict es ep→H b=none:=fun {b o es ep} e d=>by
   cases q:H b with
   | none=>rfl
   | some u =>
    have e':b=a:=hA b (by rw [q];simp)
    subst e'
    rw [ha] at e;cases e
    have d':Data.seq vs.toArray _=Data.dict es ep:=d
    cases d'
  have noS:∀ {b:Addr} {o:Obj},s₁.heap.get? b=some o→o.data=.plain→H b=none:=fun {b o} e d=>by
   cases q:H b with
   | none=>rfl
   | some u =>
    have e':b=a:=hA b (by rw [q];simp)
    subst e'
    rw [ha] at e;cases e
    cases (show Data.seq vs.toArray _=Data.plain from d)
  have nsK:∀ {b:Addr} {m:Str→Option Value},s₁.heap.Ns b m→(Qoe s₁.heap H).Ns b m:=fun {b m} ⟨o,es,ep,e,d,r⟩=>⟨o,es,ep,base_of e (noA e d),d,r⟩
  have hKb:K.In (Qoe s₁.heap H):=fun b o e=>base_of (KX b o e) (by
   cases q:H b with
   | none=>rfl
   | some u =>
    have e':b=a:=hA b (by rw [q];simp)
    subst e'
    rw [hK (by rw [q];simp)] at e;cases e)
  have hM:Mod K mg (Qoe s₁.heap H):=⟨hKb,nsK hns,⟨mb,nsK hb,hbb⟩,let ⟨mc,h1,h2⟩:=hlim;⟨mc,nsK h1,h2⟩,let ⟨bm,ob,b1,b2,b3,b4,b5,b6⟩:=hbm;⟨bm,ob,b1,b2,base_of b3 (noS b3 b6),b4,b5,b6⟩⟩
  have e0:Env0 P w K mg (Qoe s₁.heap H) callerA [] s₁ H:=⟨rfl,hM,fun b o e=>Q15 e,Nat.le_of_eq (Qvu _ _),trivial,⟨fun b hb=>absurd (show b∈([]:List Addr) from hb) (by simp),fun a q z=>(hT a q z).elim⟩,hok,.of_eq hg⟩
  refine codeAny_mono ((F _ hKb (nsK hns)).run callerA [] s₁ H ⟨[.ref a],[]⟩ [.ref a] [.ref a] _ _ hr e0 (hbind s₁ (.ref a)) (.cons rfl .nil) (hsp H hO hS)) fun r s' h=>?_
  cases r with
  | error e=>exact (hCX H e s' h).elim
  | ok fl =>
   cases fl with
   | next=>exact False.elim h
   | brk=>exact False.elim h
   | cont=>exact False.elim h
   | ret u =>
    obtain ⟨v,H',os,bare,un,hok',r',q⟩:=h
    have q':v=.bl true:=q
    subst q'
    obtain rfl:u=Value.bool true:=r'
    refine ⟨rfl,OldK.of_keep fun b o e=>?_,os,bare⟩
    cases q:H b with
    | none=>exact un.keep b o e q (by intro z;exact absurd (show b∈([]:List Addr) from z) (by simp)) (by simp)
    | some u =>
     rcases hO b with z | ⟨ob,xs,z⟩
     ·rw [q] at z;cases z
     ·have z2:=un.frzs b ob _ z
      obtain ⟨e1,_⟩:=hok b _ z
      obtain ⟨e2,_⟩:=hok' b _ z2
      rw [e] at e1;cases e1
      exact e2
 cases hk:K.lookup a with
 | some o =>
  -- the script is one of the module's own objects
  have e:=KX a o hk
  rw [ha] at e
  cases e
  refine core (fun _=>none) (fun _=>.inl rfl) (.inr ⟨_,vs.toArray,_,hk,rfl,rfl,rfl,by rw [List.size_toArray,lenV];exact hl,by simpa using rv⟩) (fun b u z=>by have z':(none:Option HO)=some u:=z;cases z') (fun b z=>absurd rfl z) fun z=>absurd rfl z
 | none =>
  refine core (fun b=>if b=a then some (.frz { cls:=.type "list",data:=.seq vs.toArray } (.lst (ns.map V.int))) else none) (fun b=>?_) (.inl (.inr ⟨{ cls:=.type "list",data:=.seq vs.toArray },if_pos rfl⟩)) (fun b u z=>?_) (fun b z=>?_) fun _=>hk
  ·by_cases hb:b=a
   ·exact .inr ⟨_,_,if_pos hb⟩
   ·exact .inl (if_neg hb)
  ·by_cases hb:b=a
   ·have z':=(if_pos hb).symm.trans z
    cases z'
    subst hb
    exact ⟨ha,by rw [List.length_map];exact hl,vs,_,rv,ha⟩
   ·have z':=(if_neg hb).symm.trans z
    cases z'
  ·by_cases hb:b=a
   ·exact hb
   ·exact absurd (if_neg hb) z
abbrev KOf {K:Frg} {h:Heap} (_:K.In h):Frg:=K
theorem Q2u {l:PySem.W.OpenLaw}{q:Program}{loose:List Str}{XP:(Str→Option Value)→Heap→Prop}{YP:World→Heap→Prop}{d:DefRec}{K:Params→Frg}{CX:World→CXT}{sp:World→Sp}{x:Str}
  (hn:l.most=some n) (hn2:n≤sizeLine) (hdf:d.params.defaults=[]) (hr:Room k callerA)
  (hY:∀ (w:World) (h:Heap),YP w h→(K w.params).In h)
  (F:∀ (w:World) (mg:Str→Option Value) (fa:Addr) (h:Heap),(K w.params).In h→h.Ns mainGlobals mg→mg d.name=some (.ref fa) →
   ∃ fd:FuncData,(∀ (s:Shared) (u:Value),BindsTo s fd ⟨[u],[]⟩ [(x,u)]) ∧
    ∀ base:Heap,(K w.params).In base→base.Ns mainGlobals mg→FnOk l.prog w (K w.params) mg base (CX w) k fa fd [x] (sp w))
  (hsp:∀ (w:World) (H:Hp) (a:Addr) (ns:List Int),ns.length≤n→Q2t H→SqL (K w.params) H a (ns.map V.int)→sp w [.ref a] H (fun v _=>v=.bl true) fun _ _ _=>False)
  (hCX:∀ (w:World) (H:Hp) (s:Shared) (e:Value) (s':Shared),CX w [] H s (fun _ _ _=>False) e s'→False) (hT:∀ (w:World) a q,¬ Qw7 (K w.params) a q) :
  PySem.W.WalkO q loose XP YP l.row.toRowW d [] (fun f vs=>PySem.call f vs):=by
 refine Att.attach_call hn hdf fun w s₀ s₁ mg mb fa o pm cd doc a vs ns G Y ho hd hcd hmg hobj hints hlen hg=>?_
 have KX:=hY w _ Y
 obtain ⟨fd,hb,hF⟩:=F w mg fa _ KX G.T.g hmg
 exact Qxn KX G.T.g G.T.b G.T.builtins G.T.nolimit hg hobj hints (Nat.le_trans hlen hn2) hr hF hb (fun H hO hS=>hsp w H a ns hlen hO hS) (fun H e s'=>hCX w H s₁ e s') G.T.bmain (hT w)
theorem Qxo {l:PySem.W.OpenLaw}{q:Program}{loose:List Str}{XP:(Str→Option Value)→Heap→Prop}{YP:World→Heap→Prop}{d:DefRec}{K:Params→Frg}{CX:CXT}{sp:Frg→Sp}{x:Str}
  (hn:l.most=some n) (hn2:n≤sizeLine) (hdf:d.params.defaults=[]) (hr:Room k callerA)
  (hY:∀ (w:World) (h:Heap),YP w h→(K w.params).In h)
  (F:∀ (w:World) (mg:Str→Option Value) (fa:Addr) (h:Heap),(K w.params).In h→h.Ns mainGlobals mg→mg d.name=some (.ref fa) →
   ∃ fd:FuncData,(∀ (s:Shared) (u:Value),BindsTo s fd ⟨[u],[]⟩ [(x,u)]) ∧
    ∀ base:Heap,(K w.params).In base→base.Ns mainGlobals mg→FnOk l.prog w (K w.params) mg base CX k fa fd [x] (sp (K w.params)))
  (hsp:∀ (K:Frg) (H:Hp) (a:Addr) (ns:List Int),ns.length≤n→Q2t H→SqL K H a (ns.map V.int)→sp K [.ref a] H (fun v _=>v=.bl true) fun _ _ _=>False)
  (hCX:∀ (H:Hp) (s:Shared) (e:Value) (s':Shared),CX [] H s (fun _ _ _=>False) e s'→False) (hT:∀ (w:World) a q,¬ Qw7 (K w.params) a q) :
  PySem.W.WalkO q loose XP YP l.row.toRowW d [] (fun f vs=>PySem.call f vs) :=
 Q2u (K:=K) (CX:=fun _=>CX) (sp:=fun w=>sp (K w.params)) hn hn2 hdf hr hY F (fun w H a ns h1 h2 h3=>hsp (K w.params) H a ns h1 h2 h3) (fun _ H s e s'=>hCX H s e s') hT
def Qe2 (s:Stmt):Arguments:=match s with
 | .FunctionDef _ a _ _ _ _ _ _ _ _=>a
 | _=>{ posonlyargs:=[],args:=[],vararg:=none,kwonlyargs:=[],kw_defaults:=[],kwarg:=none,defaults:=[] }
def Qbk (s:Stmt):List Stmt:=match s with
 | .FunctionDef _ _ b _ _ _ _ _ _ _=>b
 | _=>[]
def Qi (s:Stmt):Scope:=match s with
 | .FunctionDef _ _ _ _ _ _ sc _ _ _=>sc
 | _=>{ kind:=.function,names:=[],isGenerator:=false,isCoroutine:=false }
abbrev CX0:CXT:=fun _ _ _ _ _ _=>False
abbrev E0:XK:=fun _ _ _=>False
theorem Qabu:Qsn CX0 X E0:=fun _ _ _ _ _ _ _ h=>h.elim
structure Fun (K:Frg) (x qual:Str) (st:Stmt) (f:Addr) (fd:FuncData):Prop where
 ex:∃ (oc:Value) (od:Option Addr) (kV doc pm:Value) (an:Option Addr) (cdv ct:Value) (osl:Array (Option Value)),
  fd=PySem.W.fnOf x qual (Qe2 st) (Qbk st) (Qi st) .none kV doc pm an cdv ct∧K.lookup f=some ⟨oc,od,.func fd,osl⟩∧PySem.W.codeIn K cdv qual=true
 kp:PySem.W.keepIn K (.ref f)=true
section
variable {P:Program} {w:World} {K:Frg} {mg:Str→Option Value} {base:Heap}
theorem Fun.ok {x:Str}{f:Addr}{fd:FuncData}(F:Fun K x qual st f fd)(S:FnScope N ps (Qi st))(len:∀ vs H Q E,sp vs H Q E→vs.length=ps.length)
  (hbody:∀ (cdv:Value) (A:Around) (outer:List Env) (s:Shared) (H:Hp) (vs:List V) (Q:VK) (E:XK),Room k (A.deeper (envOfC qual (Qi st) s.heap.objs.size f cdv))→sp vs H Q E →
   ∃ t,PSs (Qhm (fun _=>true) CX0 P w K mg base N qual (Qi st) f cdv A outer s H E).nox (Qbk st) t∧t { nx:=fun _ H'=>Q .non H',rt:=Q } (Qb6 N vs) H):FnOk P w K mg base CX0 (k+1) f fd ps sp:=by
 obtain ⟨oc,od,kV,doc,pm,an,cdv,ct,osl,rfl,lk,hcd⟩:=F.ex
 refine Q5o (g:=fun _=>true) lk hcd S len fun A outer s H vs Q E hr hsp=>?_
 obtain ⟨t,h,q⟩:=hbody cdv A outer s H vs Q E hr hsp
 exact ⟨t,h.nox,q⟩
theorem Fun.binds {x:Str}{f:Addr}{fd:FuncData}(F:Fun K x qual st f fd)
  (h:∀ (kV doc pm:Value) (an:Option Addr) (cdv ct:Value) (us:List Value),us.length=ps.length→bindArgs (PySem.W.fnOf x qual (Qe2 st) (Qbk st) (Qi st) .none kV doc pm an cdv ct) ⟨us,[]⟩=pure (ps.zip us)):Binds K fd ps []:=by
 obtain ⟨oc,od,kV,doc,pm,an,cdv,ct,osl,rfl,lk,hcd⟩:=F.ex
 exact .all (h kV doc pm an cdv ct)
theorem Q8k {x:Str}{f:Addr}{oc:Value}{od an:Option Addr}{osl:Array (Option Value)}{kV doc pm cdv ct:Value}(l:K.lookup f=some ⟨oc,od,.func (PySem.W.fnOf x qual (Qe2 st) (Qbk st) (Qi st) .none kV doc pm an cdv ct),osl⟩)
  (c:PySem.W.codeIn K cdv qual=true) (k:PySem.W.keepIn K (.ref f)=true):Fun K x qual st f (PySem.W.fnOf x qual (Qe2 st) (Qbk st) (Qi st) .none kV doc pm an cdv ct):=⟨⟨oc,od,kV,doc,pm,an,cdv,ct,osl,rfl,l,c⟩,k⟩
end
section
variable {X:Cx}
theorem pv (i:Nat){x:Str}(hN:X.N[i]?=some x:=by rfl)(hv:Vis X.env.scope x:=by first | exact Or.inl rfl | exact Or.inr (Or.inl rfl) | exact Or.inr (Or.inr rfl))(hd:(x==("__debug__" : Str))=false:=by decide)
  (hcd:(x==("__classdict__" : Str))=false:=by decide):PE X (.Name x pos) (Qcc i):=Q7e hN hv hd hcd
end
theorem iteF {A B:Prop}(h:B):if false=true then A else B:=by
 rw [if_neg Bool.false_ne_true]
 exact h
theorem ite2 {c A B:Prop}[Decidable c](h1:c→A)(h2:¬ c→B):if c then A else B:=by
 by_cases h:c
 ·rw [if_pos h]
  exact h1 h
 ·rw [if_neg h]
  exact h2 h
def Same (H H':Hp):Prop:=∀ b o,H b=some o→H' b=some o
theorem Same.refl (H:Hp):Same H H:=fun _ _ h=>h
theorem Same.trans {H1 H2:Hp}(a:Same H H1)(b:Same H1 H2):Same H H2:=fun c o h=>b c o (a c o h)
theorem Same.seq {a:Addr}{xs:List V}(e:Same H H')(h:SqL K H a xs):SqL K H' a xs:=by
 rcases h with (h | ⟨o,h⟩) | h
 ·exact .inl (.inl (e _ _ h))
 ·exact .inl (.inr ⟨o,e _ _ h⟩)
 ·exact .inr h
structure LamT where
 qual:Str
 params:Arguments
 body:Expr
 scope:Scope
 caps:List Str
 ps:List Str
def Qxp:List (Nat×LamT):=[]
section
variable {κ:Type} [DecidableEq κ]
def Qhn (kvs:List (κ×V)) (k:κ):Option V:=(kvs.find? fun kv=>decide (kv.1=k)).map (·.2)
def Qgo (kvs:List (κ×V)) (k:κ) (v:V):List (κ×V) :=
 if (kvs.any fun kv=>decide (kv.1=k))=true then kvs.map (fun kv=>if kv.1=k then (kv.1,v) else kv) else kvs++[(k,v)]
theorem Qic {p:κ×V}{r:List (κ×V)}{k:κ}(e:p.1=k):Qhn (p::r) k=some p.2:=by simp [Qhn,List.find?_cons,e]
theorem Qid {p:κ×V}{r:List (κ×V)}{k:κ}(e:¬ p.1=k):Qhn (p::r) k=Qhn r k:=by simp [Qhn,List.find?_cons,e]
theorem Qie (k:κ):∀ kvs:List (κ×V),(kvs.any fun kv=>decide (kv.1=k))=(Qhn kvs k).isSome
 | []=>rfl
 | p::r=>by
  rw [List.any_cons]
  by_cases e:p.1=k
  ·simp only [Qic e,decide_eq_true e,Bool.true_or,Option.isSome_some]
  ·rw [Qid e,decide_eq_false e,Bool.false_or];exact Qie k r
theorem Qgv (kvs:List (κ×V))(k:κ)(v:V):(Qgo kvs k v).length≤kvs.length+1:=by
 unfold Qgo
 split
 ·rw [List.length_map];omega
 ·rw [List.length_append,List.length_cons,List.length_nil];omega
theorem Qxq {kvs:List (κ×V)}{k:κ}(v:V)(h:Qhn kvs k=none):Qgo kvs k v=kvs++[(k,v)]:=by
 unfold Qgo
 rw [Qie,h]
 exact if_neg (by decide)
theorem RelO.isSome_eq {o:Option V}{u:Option Value}(r:RelO o u):o.isSome=u.isSome:=by
 cases o with
 | none=>cases u with
  | none=>rfl
  | some _=>exact (show False from r).elim
 | some _=>cases u with
  | none=>exact (show False from r).elim
  | some _=>rfl
theorem RelO.getD {o:Option V}{u:Option Value}{d:V}{d':Value}(r:RelO o u)(rd:RelV d d'):RelV (o.getD d) (u.getD d'):=by
 cases o with
 | none=>cases u with
  | none=>exact rd
  | some _=>exact (show False from r).elim
 | some _=>cases u with
  | none=>exact (show False from r).elim
  | some _=>exact r
theorem KV.val {kvs:List (κ×V)}{vs:List (κ×Value)}(r:KV kvs vs)(k:κ):RelO (Qhn kvs k) (valueAt vs k):=by
 unfold KV at r
 induction r with
 | nil=>exact True.intro
 | @cons p q ps qs h t ih =>
  obtain ⟨h1,h2⟩:=h
  by_cases e:p.1=k
  ·have e':q.1=k:=h1.symm.trans e
   have b:valueAt (q::qs) k=some q.2:=by simp [valueAt,List.find?_cons,e']
   rw [Qic e,b];exact h2
  ·have e':¬ q.1=k:=fun z=>e (h1.trans z)
   have b:valueAt (q::qs) k=valueAt qs k:=by simp [valueAt,List.find?_cons,e']
   rw [Qid e,b];exact ih
theorem KV.any {kvs:List (κ×V)}{vs:List (κ×Value)}(r:KV kvs vs)(k:κ):(kvs.any fun kv=>decide (kv.1=k))=vs.any fun kv=>decide (kv.1=k):=by
 unfold KV at r
 induction r with
 | nil=>rfl
 | cons h t ih=>rw [List.any_cons,List.any_cons,ih,h.1]
theorem KV.repl {kvs:List (κ×V)}{vs:List (κ×Value)}(r:KV kvs vs)(k:κ){y:V}{u:Value}(ry:RelV y u) :
  KV (kvs.map fun kv=>if kv.1=k then (kv.1,y) else kv) (vs.map fun kv=>if kv.1=k then (kv.1,u) else kv):=by
 unfold KV at r ⊢
 induction r with
 | nil=>exact .nil
 | @cons p q ps qs h t ih =>
  rw [List.map_cons,List.map_cons]
  refine .cons ?_ ih
  obtain ⟨h1,h2⟩:=h
  by_cases e:p.1=k
  ·rw [if_pos e,if_pos (h1.symm.trans e)];exact ⟨h1,ry⟩
  ·rw [if_neg e,if_neg (fun z=>e (h1.trans z))];exact ⟨h1,h2⟩
theorem KV.put {kvs:List (κ×V)}{vs:List (κ×Value)}(r:KV kvs vs)(k:κ){y:V}{u:Value}(ry:RelV y u):KV (Qgo kvs k y) (stored vs k u):=by
 unfold Qgo stored
 rw [r.any k]
 by_cases e:(vs.any fun kv=>decide (kv.1=k))=true
 ·rw [if_pos e,if_pos e];exact r.repl k ry
 ·rw [if_neg e,if_neg e];exact Paired.snoc r ⟨rfl,ry⟩
theorem KV.length {kvs:List (κ×V)}{vs:List (κ×Value)}(r:KV kvs vs):kvs.length=vs.length:=Paired.length r
end
theorem Qqe {k:Key}{u:Value}(r:RelV (kV k) u):(Qbg P w).is k u=true:=by
 cases k with
 | inl i=>obtain ⟨t,e⟩:=(show ∃ t,u=Value.int i t from r);subst e;exact Qp8 P w i t
 | inr x=>obtain ⟨t,e⟩:=(show ∃ t,u=Value.str x t from r);subst e;exact Qp9 P w x t
theorem Qne:∀ {ks:List Key} {us:List Value},Vals (ks.map kV) us→ItemsAre (Qbg P w) ks us
 | [],_,r=>by rw [List.map_nil] at r;cases r;exact .nil
 | k::ks,_,r=>by
  rw [List.map_cons] at r
  cases r with
  | cons h t=>exact .cons (Qqe h) (Qne t)
abbrev KT (H:Hp):List (List Key×V)→List (List Key×Addr×Value)→Prop:=Paired fun p q=>p.1=q.1∧H q.2.1=some (.tup (p.1.map kV))∧RelV p.2 q.2.2
theorem KT.val {xs:List (List Key×Addr×Value)}(r:KT H kvs xs)(k:List Key):RelO (Qhn kvs k) ((atKey xs k).map (·.2)):=by
 induction r with
 | nil=>exact True.intro
 | @cons p q ps qs h t ih =>
  obtain ⟨h1,_,h2⟩:=h
  by_cases e:p.1=k
  ·have e':q.1=k:=h1.symm.trans e
   have b:atKey (q::qs) k=some q.2:=by simp [atKey,List.find?_cons,e']
   rw [Qic e,b];exact h2
  ·have e':¬ q.1=k:=fun z=>e (h1.trans z)
   have b:atKey (q::qs) k=atKey qs k:=by simp [atKey,List.find?_cons,e']
   rw [Qid e,b];exact ih
theorem KT.repl {xs:List (List Key×Addr×Value)}(r:KT H kvs xs)(k:List Key){y:V}{u:Value}(ry:RelV y u) :
  KT H (kvs.map fun kv=>if kv.1=k then (kv.1,y) else kv) (xs.map (putAt k u)):=by
 induction r with
 | nil=>exact .nil
 | @cons p q ps qs h t ih =>
  rw [List.map_cons,List.map_cons]
  refine .cons ?_ ih
  obtain ⟨h1,h2,h3⟩:=h
  unfold putAt
  by_cases e:p.1=k
  ·rw [if_pos e,if_pos (h1.symm.trans e)];exact ⟨h1,h2,ry⟩
  ·rw [if_neg e,if_neg (fun z=>e (h1.trans z))];exact ⟨h1,h2,h3⟩
theorem KT.put {xs:List (List Key×Addr×Value)}(r:KT H kvs xs)(k:List Key){b:Addr}{y:V}{u:Value}(hb:H b=some (.tup (k.map kV)))(ry:RelV y u) :
  KT H (Qgo kvs k y) (storedH xs k b u):=by
 have e:(kvs.any fun kv=>decide (kv.1=k))=(atKey xs k).isSome:=by
  rw [Qie,(r.val k).isSome_eq,Option.isSome_map]
 unfold Qgo storedH
 rw [e]
 by_cases q:(atKey xs k).isSome=true
 ·rw [if_pos q,if_pos q];exact r.repl k ry
 ·rw [if_neg q,if_neg q];exact Paired.snoc r ⟨rfl,hb,ry⟩
theorem KT.keeps {xs:List (List Key×Addr×Value)}(r:KT H kvs xs)(ht:∀ b ys,H b=some (.tup ys)→H' b=some (.tup ys)):KT H' kvs xs :=
 Paired.mapP r fun _ _ z=>⟨z.1,ht _ _ z.2.1,z.2.2⟩
section
variable {P:Program} {w:World} {H:Hp} {h:Heap} {a:Addr}
theorem Qxr {u:HO}(ok:HOk P w H h)(e:Rd H a u):ObjOk P w H h a u:=e.ok ok
theorem Qnf {kvs:List (Key×V)}(ok:HOk P w H h)(e:Rd H a (.dK kvs)):kvs.length≤sizeLine∧(a==sysModules)=false∧∃ vs,KV kvs vs∧h.DictOf (Qbg P w) a vs :=
 show ObjOk P w H h a (.dK kvs) from Qxr ok e
theorem Qabv {kvs:List (Key×V)}(ok:HOk P w H h)(e:H a=some (.dK kvs)):kvs.length≤sizeLine∧(a==sysModules)=false∧∃ vs,KV kvs vs∧h.DictOf (Qbg P w) a vs:=Qnf ok (.inl e)
theorem Qjg {ks:List Key}(ok:HOk P w H h)(e:H a=some (.tup (ks.map kV))):(tupleKind (Qbg P w)).is h ks a:=by
 obtain ⟨_,its,r,o,h1,h2,n,h3,_⟩:=(show ObjOk P w H h a (.tup (ks.map kV)) from ok a _ e)
 exact ⟨o,its.toArray,n,h1,h2,h3,by simpa using Qne r⟩
theorem Qng (ok:HOk P w H h)(e:Rd H a (.dT kvs)):kvs.length≤sizeLine∧(a==sysModules)=false ∧
  ∃ xs,KT H kvs xs∧h.DictOfH (tupleKind (Qbg P w)) a xs:=by
 obtain ⟨z,y,xs,r,o,es,ep,h1,h2,h3,h4,h5,_⟩:=(show ObjOk P w H h a (.dT kvs) from Qxr ok e)
 refine ⟨z,y,xs,r,o,es,ep,h1,h2,h3,h4,fun x hx=>?_,h5⟩
 have all:∀ {l:List (List Key×V)} {m:List (List Key×Addr×Value)},KT H l m→∀ x∈m,(tupleKind (Qbg P w)).is h x.1 x.2.1:=by
  intro l m q
  induction q with
  | nil=>intro x hx;exact nomatch hx
  | @cons p q ps qs hq t ih =>
   intro x hx
   rcases List.mem_cons.mp hx with e | hx
   ·subst e
    exact Qjg ok (by rw [←hq.1];exact hq.2.1)
   ·exact ih x hx
 exact all r x hx
theorem Q5p (ok:HOk P w H h)(e:H a=some (.dT kvs)):kvs.length≤sizeLine∧(a==sysModules)=false ∧
  ∃ xs,KT H kvs xs∧h.DictOfH (tupleKind (Qbg P w)) a xs:=Qng ok (.inl e)
end
theorem Q5q {a:Addr}{o:Obj}{es:Array DictEntry}{ep:Nat}(x:Qvr h a)(ho:h.get? a=some o)(hd:o.data=.dict es ep):ep=es.size:=by
 obtain ⟨o2,es2,e1,e2⟩:=x
 rw [ho] at e1
 cases e1
 rw [hd] at e2
 cases e2
 rfl
theorem Q5r {a:Addr}(ok:HOk P w H h)(e:Rd H a (.dT kvs)):Qvr h a:=by
 obtain ⟨_,_,xs,_,o,es,ep,h1,_,h3,_,_,h6⟩:=(show ObjOk P w H h a (.dT kvs) from Qxr ok e)
 subst h6
 exact ⟨o,es,h1,h3⟩
def DGet (H:Hp) (a:Addr) (y:V) (r:Option V):Prop :=
 (∃ kvs k,Rd H a (.dK kvs)∧y=kV k∧r=Qhn kvs k)∨∃ kvs k b,Rd H a (.dT kvs)∧y=.ref b∧H b=some (.tup (k.map kV))∧r=Qhn kvs k
def DPut (H:Hp) (a:Addr) (y v:V) (H':Hp):Prop :=
 (∃ kvs k,H a=some (.dK kvs)∧y=kV k∧kvs.length<sizeLine∧H'=upd H a (.dK (Qgo kvs k v))) ∨
 ∃ kvs k b,H a=some (.dT kvs)∧y=.ref b∧H b=some (.tup (k.map kV))∧kvs.length<sizeLine∧H'=upd H a (.dT (Qgo kvs k v))
theorem DGet.t {a b:Addr}{k:List Key}(e:H a=some (.dT kvs))(eb:H b=some (.tup (k.map kV))):DGet H a (.ref b) (Qhn kvs k):=.inr ⟨kvs,k,b,.inl e,rfl,eb,rfl⟩
theorem DPut.t {a b:Addr}{k:List Key}{v:V}(e:H a=some (.dT kvs))(eb:H b=some (.tup (k.map kV)))(hl:kvs.length<sizeLine) :
  DPut H a (.ref b) v (upd H a (.dT (Qgo kvs k v))):=.inr ⟨kvs,k,b,e,rfl,eb,hl,rfl⟩
section
variable {X:Cx} {pins:List (Addr×Obj)} {σ:St} {H:Hp} {s:Shared} {a:Addr} {y v:V} {u r:Value} {o:Option V} {A:Around} {E:Value→Shared→Prop}
theorem Inv.big (I:Inv X pins σ H s):sysModules<s.heap.objs.size:=by
 have h:mainGlobals<s.heap.objs.size:=(I.mod.glob.keeps I.bk).lt
 exact Nat.lt_trans (by decide) h
theorem Qv8 {Q:Value→Shared→Prop}(hu:A.units+1<cLine)(I:Inv X pins σ H s)(g:DGet H a y (some v))(ry:RelV y u)(h:∀ w' s',Inv X pins σ H s'→RelV v w'→Q w' s') :
  wpAny (model X.prog X.w) A (getItem (.ref a) u) Q E s:=by
 rcases g with ⟨kvs,k,e,ey,l⟩ | ⟨kvs,k,b,e,ey,eb,l⟩
 ·subst ey
  obtain ⟨z,hd,vs,rel,dd⟩:=Qnf I.hok e
  obtain ⟨w',hw,rw'⟩:=RelO.some_of (v:=v) (o:=valueAt vs k) (by rw [l];exact rel.val k)
  exact wpAny_getItem_of (Qqe ry) dd.mapOf hw (h w' _ (I.tok _) rw')
 ·subst ey
  cases (show u=Value.ref b from ry)
  obtain ⟨z,hd,xs,rel,dd⟩:=Qng I.hok e
  obtain ⟨w',hw,rw'⟩:=RelO.some_of (v:=v) (o:=(atKey xs k).map (·.2)) (by rw [l];exact rel.val k)
  obtain ⟨p,hp,hp2⟩:=Option.map_eq_some_iff.mp hw
  refine wpAny_getItem_heap (tupleKind_room_in1 hu) (Qjg I.hok eb) dd hp ?_
  rw [hp2]
  exact h w' _ (I.tok _) rw'
theorem d_in {Q:Value→Shared→Prop}(hu:A.units+1<cLine)(I:Inv X pins σ H s)(g:DGet H a y o)(ry:RelV y u)(h:∀ s',Inv X pins σ H s'→Q (.bool o.isSome) s') :
  wpAny (model X.prog X.w) A (compareOp .In u (.ref a)) Q E s:=by
 rcases g with ⟨kvs,k,e,ey,l⟩ | ⟨kvs,k,b,e,ey,eb,l⟩
 ·subst ey
  obtain ⟨z,hd,vs,rel,dd⟩:=Qnf I.hok e
  refine wpAny_in_of (Qqe ry) hd dd.mapOf ?_
  rw [←(rel.val k).isSome_eq,←l]
  exact h _ (I.tok _)
 ·subst ey
  cases (show u=Value.ref b from ry)
  obtain ⟨z,hd,xs,rel,dd⟩:=Qng I.hok e
  refine wpAny_in_heap (tupleKind_room_in1 hu) (Qjg I.hok eb) hd dd ?_
  have q:=(rel.val k).isSome_eq
  rw [Option.isSome_map] at q
  rw [←q,←l]
  exact h _ (I.tok _)
theorem Qom {h':Heap}{ob:HO}(I:Inv X pins σ H s)(mu:Mut (H a))(hs:Heap.SameBut a s.heap h')(he:∃ q,h'.get? a=some q)(new:ObjOk X.prog X.w (upd H a ob) h' a ob) :
  Inv X pins σ (upd H a ob) { s with heap:=h',toks:=t' } :=
 I.write (x:=a) (e:=a) mu (.inl rfl) (fun b q hb z=>(hs.2 b hb).trans z) he new
theorem Q8l {h':Heap}{kvs:List (Key×V)}{vs:List (Key×Value)}(z:kvs.length≤sizeLine)(hd:(a==sysModules)=false)(rel:KV kvs vs)(dd:h'.DictOf (Qbg P w) a vs) :
  ObjOk P w H' h' a (.dK kvs):=⟨z,hd,vs,rel,dd⟩
theorem Qv9 {Q:Unit→Shared→Prop}(hu:A.units+1<cLine)(I:Inv X pins σ H s)(g:DPut H a y v H')(ry:RelV y u)(rv:RelV v r)(h:∀ s',Inv X pins σ H' s'→Q () s') :
  wpAny (model X.prog X.w) A (setItem (.ref a) u r) Q E s:=by
 rcases g with ⟨kvs,k,e,ey,l,eH⟩ | ⟨kvs,k,b,e,ey,eb,l,eH⟩
 ·subst ey eH
  obtain ⟨z,hd,vs,rel,dd⟩:=Qabv I.hok e
  have hz:vs.length≤sizeLine:=by rw [←rel.length];exact z
  have hl:(Qgo kvs k v).length≤sizeLine:=by have:=Qgv kvs k v;omega
  refine wpAny_setItem_pairs (hsz:=hz) (Qqe ry) dd fun h' dd' hs=>h _ ?_
  have he:∃ q,h'.get? a=some q:=let ⟨q,_,_,hq,_⟩:=dd';⟨q,hq⟩
  exact Qom I (by rw [e];exact True.intro) hs he (Q8l hl hd (rel.put k rv) dd')
 ·subst ey eH
  cases (show u=Value.ref b from ry)
  obtain ⟨z,hd,xs,rel,dd⟩:=Q5p I.hok e
  have hz:xs.length≤sizeLine:=by rw [←Paired.length rel];exact z
  have hl:(Qgo kvs k v).length≤sizeLine:=by have:=Qgv kvs k v;omega
  refine Qsk (tupleKind_room_in1 hu) (Qjg I.hok eb) dd (Q5r I.hok (.inl e)) (fun h' dd' hep hs=>h _ ?_) hz
  obtain ⟨q,es,ep,hq,h2,h3,h4,_,h5⟩:=dd'
  refine Qom I (by rw [e];exact True.intro) hs ⟨q,hq⟩ ⟨hl,hd,_,(rel.put k eb rv).keeps fun c ys ec=>?_,q,es,ep,hq,h2,h3,h4,h5,Q5q hep hq h3⟩
  rw [Qw (Q5j ec e (fun z=>nomatch z))]
  exact ec
end
section
variable {X:Cx} {pins:List (Addr×Obj)} {σ:St} {H:Hp} {s:Shared} {a:Addr} {kvs:List (Key×V)} {k:Key} {u:Value} {A:Around} {E:Value→Shared→Prop}
end
def Q8m (i:Expr):Prop:=∀ ov iv,subscripted i false ov iv=operate [ov,iv] (getItem ov iv)
theorem Q2v {prog:Program}{E:Value→Shared→Prop}{value slice:Expr}{T id:String}{Q:Value→Shared→Prop}
  (hl:typeLookup (.type T) "__getitem__" = pure (some (.builtin id))) (hs:Q8m slice)
  (h:wpAny (model prog w) A (eval value env) (fun o s₁=>wpAny (model prog w) A (eval slice env) (fun i s₂=>s₂.TypeIs o T∧wpAny (model prog w) A (getItem o i) Q E s₂) E s₁) E s) :
  wpAny (model prog w) A (eval (.Subscript value slice pos) env) Q E s:=by
 refine Subscript_ (wpAny_mono h (fun o s₁ h₁=>wpAny_mono h₁ (fun i s₂ h₂=>?_) fun _ _ x=>x) fun _ _ x=>x)
 obtain ⟨hT,h₂⟩:=h₂
 unfold subscriptTail
 refine wpAny_bind ?_
 rw [getitemInPython_of_ne hT.not_modules]
 refine wpAny_bind (wpAny_specialOf hT hl ?_)
 have fin:wpAny (model prog w) A (subscripted slice false o i) (fun r s₃=>wpAny (model prog w) A (letTemporaryGo value o r >>= fun _=>pure r) Q E s₃) E s₂:=by
  rw [hs o i]
  exact wpAny_operating (wpAny_mono h₂ (fun r s₃ h₃=>wpAny_bind (wpAny_letTemporaryGo (wpAny_pure h₃))) fun _ _ x=>x)
 first
  | exact wpAny_pure (wpAny_bind fin)
  | exact wpAny_bind (wpAny_pure (wpAny_bind fin))
  | exact wpAny_bind fin
theorem Qqf {a:Addr}{y:V}{o:Option V}(I:Inv X pins σ H s)(g:DGet H a y o):s.TypeIs (.ref a) "dict" := by
 rcases g with ⟨kvs,k,e,_,_⟩ | ⟨kvs,k,b,e,_,_,_⟩
 ·obtain ⟨_,_,vs,_,dd⟩:=Qnf I.hok e
  exact dd.typeIs
 ·obtain ⟨_,_,xs,_,dd⟩:=Qng I.hok e
  exact dd.typeIs
def Qabw (td ty:TE):TE:=fun σ H Q=>td σ H fun x H1=>ty σ H1 fun y H2=>∃ a v,x=.ref a∧DGet H2 a y (some v)∧Q v H2
def tDIn (ty td:TE):TE:=fun σ H Q=>ty σ H fun y H1=>td σ H1 fun x H2=>∃ a o,x=.ref a∧DGet H2 a y o∧Q (.bl o.isSome) H2
def Qabx (td ty tv:TE):TS:=fun D σ H=>tv σ H fun v H1=>td σ H1 fun x H2=>ty σ H2 fun y H3=>∃ a H4,x=.ref a∧DPut H3 a y v H4∧D.nx σ H4
section
variable {X:Cx} {o i e value:Expr} {pos pos' tpos:Pos} {td ty tv:TE}
theorem Q2w (hu:X.A.units+1<cLine)(ho:PE X o td)(hi:PE X i ty)(hs:Q8m i):PE X (.Subscript o i pos) (Qabw td ty):=by
 intro pins s σ H Q I h
 refine Q2v PySem.F.slot_dict_getitem.lookup hs (thn (ho pins s σ H _ I h) fun u s1 ⟨x,H1,I1,rx,q1⟩=>thn (hi pins s1 σ H1 _ I1 q1) fun iv s2 ⟨y,H2,I2,ry,a,v,ex,g,q2⟩=>?_)
 subst ex
 obtain rfl:u=Value.ref a:=rx
 exact ⟨Qqf I2 g,Qv8 hu I2 g ry fun w' s3 I3 rw'=>⟨v,H2,I3,rw',q2⟩⟩
theorem Q8n (hu:X.A.units+1<cLine)(hi:PE X i ty)(ho:PE X o td):PC X .In i o (tDIn ty td):=by
 intro pins s σ H Q I h
 refine thn (hi pins s σ H _ I h) fun iv s1 ⟨y,H1,I1,ry,q1⟩=>thn (ho pins s1 σ H1 _ I1 q1) fun u s2 ⟨x,H2,I2,rx,a,ov,ex,g,q2⟩=>?_
 subst ex
 obtain rfl:u=Value.ref a:=rx
 exact d_in hu I2 g ry fun s3 I3=>⟨.bl ov.isSome,H2,I3,rfl,q2⟩
theorem Q2x (hu:X.A.units+1<cLine)(ho:PE X o td)(hi:PE X i ty)(hv:PE X value tv)(hs:swapsWith value (some (.Subscript o i pos')) pos.line X.env=pure false) :
  PS X (.Assign [.Subscript o i pos'] value pos) (Qabx td ty tv):=by
 intro pins s σ H D I h
 refine wpAny_Assign_Subscript (thn (hv pins s σ H _ I h) fun r s1 ⟨v,H1,I1,rv,q1⟩=>thn (ho pins s1 σ H1 _ I1 q1) fun u s2 ⟨x,H2,I2,rx,q2⟩=>thn (hi pins s2 σ H2 _ I2 q2) fun iv s3 ⟨y,H3,I3,ry,a,H4,ex,g,q3⟩=>?_) hs
 subst ex
 obtain rfl:u=Value.ref a:=rx
 exact Qv9 hu I3 g ry rv fun s4 I4=>⟨σ,H4,I4,q3⟩
end
theorem Qqg (h:Heap)(hb:sysModules<h.objs.size):ObjOk P w H (h.push { cls:=.type "dict",data:=.dict #[] }) h.objs.size (.dT []) :=
 ⟨Nat.zero_le _,beq_eq_false_iff_ne.mpr (Ne.symm (Nat.ne_of_lt hb)),[],.nil,_,#[],0,Heap.get?_push_size _ rfl,⟨rfl,rfl,rfl⟩,rfl,rfl,List.nodup_nil,rfl⟩
def Q8o:TE:=fun _ H Q=>∀ p,H p=none→Q (.ref p) (upd H p (.dT []))
section
variable {X:Cx} {pos:Pos}
theorem Qxs:PE X (.Dict [] [] pos) Q8o:=fun pins s σ H Q I h =>
 wpAny_Dict_empty ⟨.ref s.heap.objs.size,_,I.laid (a:=s.heap.objs.size) (o:=.dT []) (t':=s.toks) (fun _ _ q=>Heap.get?_push_of_some _ q) (Nat.le_refl _) (Qqg s.heap I.big),rfl,h _ (I.hok.fresh (Nat.le_refl _))⟩
end
structure M1 (X:Cx) (o:Expr) (m:Str) (apos:Pos) (e:Expr) (cpos:Pos):Prop where
 base:attributeBase o m X.env (eval o X.env)=eval o X.env
 few:((backTo cpos (starEach [e] X.env)).all (fun x=>!x.1)&&(backToKw cpos (keywordEach [] X.env)).all (fun x=>x.1.isSome)
  && decide (([e]:List Expr).length+([]:List Keyword).length+(if ([]:List Keyword).isEmpty then 0 else 1)<30))=true
 line:(apos.endLine==cpos.line)=true
 trees:backTo cpos (starEach [e] X.env)=[(false,eval e X.env)]
structure M2 (X:Cx) (o:Expr) (m:Str) (apos:Pos) (e f:Expr) (cpos:Pos):Prop where
 base:attributeBase o m X.env (eval o X.env)=eval o X.env
 few:((backTo cpos (starEach [e,f] X.env)).all (fun x=>!x.1)&&(backToKw cpos (keywordEach [] X.env)).all (fun x=>x.1.isSome)
  && decide (([e,f]:List Expr).length+([]:List Keyword).length+(if ([]:List Keyword).isEmpty then 0 else 1)<30))=true
 line:(apos.endLine==cpos.line)=true
 trees:backTo cpos (starEach [e,f] X.env)=[(false,eval e X.env),(false,eval f X.env)]
def IsD (H:Hp) (a:Addr):Prop:=(∃ kvs,Rd H a (.dK kvs))∨∃ kvs,Rd H a (.dT kvs)
theorem Q8p {a:Addr}(I:Inv X pins σ H s)(d:IsD H a) :
  s.TypeIs (.ref a) "dict" ∧ (∀ b,Value.ref a=.ref b→∃ ob,s.heap.get? b=some ob∧ob.dict=none)∧(a==sysModules)=false:=by
 rcases d with ⟨kvs,e⟩ | ⟨kvs,e⟩
 ·obtain ⟨_,hd,vs,_,dd⟩:=Qnf I.hok e
  refine ⟨dd.typeIs,fun b q=>?_,hd⟩
  cases q
  obtain ⟨ob,_,_,h1,h2,_⟩:=dd
  exact ⟨ob,h1,h2.2.1⟩
 ·obtain ⟨_,hd,xs,_,dd⟩:=Qng I.hok e
  refine ⟨dd.typeIs,fun b q=>?_,hd⟩
  cases q
  obtain ⟨ob,_,_,h1,h2,_⟩:=dd
  exact ⟨ob,h1,h2.2.1⟩
section
variable {X:Cx} {pins:List (Addr×Obj)} {σ:St} {H:Hp} {s:Shared} {a:Addr} {y d:V} {u r:Value} {o:Option V} {A:Around} {E:Value→Shared→Prop}
theorem Q8q {Q:Value→Shared→Prop}(hu:A.units+1<cLine)(I:Inv X pins σ H s)(g:DGet H a y o)(ry:RelV y u)(rd:RelV d r)(h:∀ w' s',Inv X pins σ H s'→RelV (o.getD d) w'→Q w' s') :
  wpAny (model X.prog X.w) A (call (.builtin "dict.get") [.ref a,u,r]) Q E s:=by
 rcases g with ⟨kvs,k,e,ey,l⟩ | ⟨kvs,k,b,e,ey,eb,l⟩
 ·subst ey
  obtain ⟨z,hd,vs,rel,dd⟩:=Qnf I.hok e
  refine call_meetsIn PySem.F.slot_dict_get dd.typeIs PySem.F.entry_dict_get (PySem.F.args_dict_get_3 _ _ _) (meets_dict_get_default (Qbg X.prog X.w) a (Qqe ry) hd r) ⟨_,dd.mapOf,h _ _ (I.tok _) ?_⟩
  rw [l]
  exact (rel.val k).getD rd
 ·subst ey
  cases (show u=Value.ref b from ry)
  obtain ⟨z,hd,xs,rel,dd⟩:=Qng I.hok e
  refine call_meetsIn PySem.F.slot_dict_get dd.typeIs PySem.F.entry_dict_get (PySem.F.args_dict_get_3 _ _ _) (meetsH_dict_get_default (tupleKind (Qbg X.prog X.w)) a b hd r) ⟨tupleKind_room_in1 hu,k,xs,Qjg I.hok eb,dd,h _ _ (I.tok _) ?_⟩
  rw [l]
  exact (rel.val k).getD rd
end
def Q8r (td ty tx:TE):TE:=fun σ H Q=>td σ H fun x H1=>∃ a,x=.ref a∧IsD H1 a∧ty σ H1 fun y H2=>tx σ H2 fun z H3=>∃ o,DGet H3 a y o∧Q (o.getD z) H3
section
variable {X:Cx} {o e f:Expr} {apos cpos:Pos} {td ty tx:TE}
theorem Qxt (hu:X.A.units+1<cLine)(ho:PE X o td)(he:PE X e ty)(hf:PE X f tx)(m:M2 X o "get" apos e f cpos):PE X (.Call (.Attribute o "get" apos) [e,f] [] cpos) (Q8r td ty tx):=by
 intro pins s σ H Q I h
 refine wpAny_Call_method m.base m.few m.line PySem.F.plainAttrs_dict PySem.F.slot_dict_get PySem.F.type_dict_get (thn (ho pins s σ H _ I h) fun u s1 ⟨x,H1,I1,rx,a,ex,d,q1⟩=>?_)
 subst ex
 obtain rfl:u=Value.ref a:=rx
 obtain ⟨t1,t2,_⟩:=Q8p I1 d
 refine ⟨t1,t2,?_⟩
 rw [m.trees]
 refine Calls.callWith_builtin rfl (Calls.evalArgs_plain (Calls.spliced_cons (thn (he pins s1 σ H1 _ I1 q1) fun iv s2 ⟨y,H2,I2,ry,q2⟩ =>
  Calls.spliced_cons (thn (hf pins s2 σ H2 _ I2 q2) fun fv s3 ⟨z,H3,I3,rz,ov,g,q3⟩=>Calls.spliced_nil ?_))))
 exact Q8q hu I3 g ry rz fun w' s4 I4 rw'=>⟨_,H3,I4,rw',q3⟩
end
section
variable {X:Cx} {pins:List (Addr×Obj)} {σ:St} {H:Hp} {s:Shared} {a:Addr} {kvs:List (Key×V)} {A:Around} {E:Value→Shared→Prop}
end
section
variable {X:Cx} {pins:List (Addr×Obj)} {σ:St} {H:Hp} {s:Shared} {a:Addr} {y:V} {u:Value} {A:Around} {E:Value→Shared→Prop}
end
def Qif (env:Env):List (Str×NameKind)→List (Str×Addr)→List (Str×Addr)
 | [],acc=>acc
 | (n,k)::r,acc=>if k==.free then Qif env r ((n,(env.cells.lookup n).getD 0)::acc) else Qif env r acc
theorem Qh2:∀ (names:List (Str×NameKind)) (acc:List (Str×Addr)),(∀ x∈names,x.2=.free→∃ c,env.cells.lookup x.1=some c) →
  (forIn names acc (fun (x:Str×NameKind) (cs:List (Str×Addr))=>(if (x.2==.free)=true then do let a ← cellOf env x.1;pure (ForInStep.yield ((x.1,a)::cs)) else pure (ForInStep.yield cs):Sem (ForInStep (List (Str×Addr))))))=(pure (Qif env names acc):Sem (List (Str×Addr)))
 | [],acc,_=>by rw [List.forIn_nil];rfl
 | (n,k)::r,acc,h=>by
  have hr:∀ x∈r,x.2=.free→∃ c,env.cells.lookup x.1=some c:=fun x hx=>h x (List.mem_cons_of_mem _ hx)
  rw [List.forIn_cons]
  unfold Qif
  by_cases hk:(k==NameKind.free)=true
  ·obtain ⟨c,hc⟩:=h (n,k) List.mem_cons_self (by simpa using hk)
   have hc':env.cells.lookup n=some c:=hc
   rw [if_pos hk]
   simp only [hk,if_true,cellOf,hc',pure_bind,Option.getD_some]
   exact Qh2 r _ hr
  ·rw [if_neg hk]
   simp only [hk,if_false,pure_bind,Bool.false_eq_true]
   exact Qh2 r _ hr
theorem Qk0 (h:∀ x∈scope.names,x.2=.free→∃ c,env.cells.lookup x.1=some c):closureFor scope env=pure (Qif env scope.names []):=by
 have q:=Qh2 (env:=env) scope.names [] h
 unfold closureFor
 simp only [bind_pure_comp] at q ⊢
 have e:(fun (x:Str×NameKind) (r:List (Str×Addr))=>(if (x.2==NameKind.free)=true then (fun a=>ForInStep.yield ((x.1,a)::r)) <$> cellOf env x.1 else pure (ForInStep.yield r):Sem (ForInStep (List (Str×Addr)))))=(fun (x:Str×NameKind) (cs:List (Str×Addr))=>(match x with | (name,kind)=>if (kind==NameKind.free)=true then (fun a=>ForInStep.yield ((name,a)::cs)) <$> cellOf env name else pure (ForInStep.yield cs):Sem (ForInStep (List (Str×Addr))))):=by
  funext x cs
  obtain ⟨n,k⟩:=x
  rfl
 rw [e] at q
 simpa using q
theorem Qb7 {x:Str}{c:Addr}:∀ (names:List (Str×NameKind)) (acc:List (Str×Addr)),(∀ y∈names,y.2=.free→∃ c,env.cells.lookup y.1=some c)→(Qif env names acc).lookup x=some c →
  acc.lookup x=some c∨env.cells.lookup x=some c
 | [],acc,_,h=>.inl h
 | (n,k)::r,acc,hf,h=>by
  have hr:∀ x∈r,x.2=.free→∃ c,env.cells.lookup x.1=some c:=fun x hx=>hf x (List.mem_cons_of_mem _ hx)
  unfold Qif at h
  by_cases hk:(k==NameKind.free)=true
  ·rw [if_pos hk] at h
   obtain ⟨d,hd⟩:=hf (n,k) List.mem_cons_self (by simpa using hk)
   have hd':env.cells.lookup n=some d:=hd
   rcases Qb7 r _ hr h with q | q
   ·rw [List.lookup_cons,hd'] at q
    by_cases hx:(x==n)=true
    ·rw [hx] at q
     have e:x=n:=by simpa using hx
     subst e
     simp only [Option.getD_some] at q
     exact .inr (hd'.trans q)
    ·have hx':(x==n)=false:=by simpa using hx
     rw [hx'] at q
     exact .inl q
   ·exact .inr q
  ·rw [if_neg hk] at h
   exact Qb7 r _ hr h
theorem Qig {x:Str}:∀ (names:List (Str×NameKind)) (acc:List (Str×Addr)),((x,NameKind.free)∈names∨∃ c,acc.lookup x=some c)→∃ c,(Qif env names acc).lookup x=some c
 | [],acc,h=>by
  rcases h with h | h
  ·cases h
  ·exact h
 | (n,k)::r,acc,h=>by
  unfold Qif
  by_cases hk:(k==NameKind.free)=true
  ·rw [if_pos hk]
   refine Qig r _ ?_
   by_cases hx:(x==n)=true
   ·exact .inr ⟨_,by rw [List.lookup_cons,hx]⟩
   ·have hx':(x==n)=false:=by simpa using hx
    rcases h with h | ⟨c,h⟩
    ·rcases List.mem_cons.mp h with e | h
     ·cases e;simp at hx
     ·exact .inl h
    ·exact .inr ⟨c,by rw [List.lookup_cons,hx'];exact h⟩
  ·rw [if_neg hk]
   refine Qig r _ ?_
   rcases h with h | h
   ·rcases List.mem_cons.mp h with e | h
    ·cases e;simp at hk
    ·exact .inl h
   ·exact .inr h
theorem Qcd {x:Str}{c:Addr}:∀ (names:List (Str×NameKind)) (n:Nat) (acc:List (Str×Addr)),(cellsFrom n names acc).lookup x=some c→acc.lookup x=some c∨(n≤c∧(x,NameKind.cell)∈names)
 | [],_,_,h=>.inl h
 | (y,k)::r,n,acc,h=>by
  unfold cellsFrom at h
  by_cases hk:(k==NameKind.cell)=true
  ·rw [if_pos hk] at h
   have hk':k=.cell:=by simpa using hk
   rcases Qcd r _ _ h with q | ⟨q1,q2⟩
   ·rw [List.lookup_cons] at q
    by_cases hx:(x==y)=true
    ·rw [hx] at q
     cases q
     exact .inr ⟨Nat.le_refl _,by rw [show x=y by simpa using hx,hk'];exact List.mem_cons_self⟩
    ·rw [show (x==y)=false by simpa using hx] at q
     exact .inl q
   ·exact .inr ⟨by omega,List.mem_cons_of_mem _ q2⟩
  ·rw [if_neg hk] at h
   rcases Qcd r _ _ h with q | ⟨q1,q2⟩
   ·exact .inl q
   ·exact .inr ⟨q1,List.mem_cons_of_mem _ q2⟩
theorem Qdi {x:Str}{c:Addr}:∀ (names:List (Str×NameKind)) (n:Nat) (acc:List (Str×Addr)),(x,NameKind.cell)∈names→(cellsFrom n names acc).lookup x=some c→n≤c
 | [],_,_,h,_=>by cases h
 | (y,k)::r,n,acc,hm,h=>by
  unfold cellsFrom at h
  by_cases hk:(k==NameKind.cell)=true
  ·rw [if_pos hk] at h
   by_cases hx:(x==y)=true
   ·rcases Qcd r _ _ h with q | ⟨q1,q2⟩
    ·rw [List.lookup_cons,hx] at q
     cases q
     exact Nat.le_refl _
    ·omega
   ·rcases List.mem_cons.mp hm with e | hm
    ·cases e;simp at hx
    ·have:=Qdi r _ _ hm h
     omega
  ·rw [if_neg hk] at h
   rcases List.mem_cons.mp hm with e | hm
   ·cases e;simp at hk
   ·exact Qdi r _ _ hm h
theorem Qfg:∀ (names:List (Str×NameKind)) (n:Nat) (acc:List (Str×Addr)),(∀ x c,acc.lookup x=some c→c<n)→(∀ x y c,acc.lookup x=some c→acc.lookup y=some c→x=y) →
  ∀ x y c,(cellsFrom n names acc).lookup x=some c→(cellsFrom n names acc).lookup y=some c→x=y
 | [],_,_,_,hi=>hi
 | (z,k)::r,n,acc,hb,hi=>by
  unfold cellsFrom
  by_cases hk:(k==NameKind.cell)=true
  ·rw [if_pos hk]
   refine Qfg r (n+1) _ (fun x c h=>?_) (fun x y c h1 h2=>?_)
   ·rw [List.lookup_cons] at h
    by_cases hx:(x==z)=true
    ·rw [hx] at h;cases h;exact Nat.lt_succ_self _
    ·rw [show (x==z)=false by simpa using hx] at h
     exact Nat.lt_succ_of_lt (hb x c h)
   ·rw [List.lookup_cons] at h1 h2
    by_cases hx:(x==z)=true
    ·rw [hx] at h1;cases h1
     by_cases hy:(y==z)=true
     ·rw [show x=z by simpa using hx,show y=z by simpa using hy]
     ·rw [show (y==z)=false by simpa using hy] at h2
      exact absurd (hb y n h2) (Nat.lt_irrefl _)
    ·rw [show (x==z)=false by simpa using hx] at h1
     by_cases hy:(y==z)=true
     ·rw [hy] at h2;cases h2
      exact absurd (hb x n h1) (Nat.lt_irrefl _)
     ·rw [show (y==z)=false by simpa using hy] at h2
      exact hi x y c h1 h2
  ·rw [if_neg hk]
   exact Qfg r n acc hb hi
theorem Qdf {names:List (Str×NameKind)}:∀ (names:List (Str×NameKind)) (h:Heap) (acc:List (Str×Addr)),(∀ x c,acc.lookup x=some c→∃ v,h.IsCell c v)→∀ x c,(cellsFrom h.objs.size names acc).lookup x=some c→∃ v,(pushCells h names).IsCell c v
 | [],_,_,hi=>hi
 | (z,k)::r,h,acc,hi=>by
  unfold cellsFrom pushCells
  by_cases hk:(k==NameKind.cell)=true
  ·rw [if_pos hk,if_pos hk]
   have q:=Qdf (names:=names) r (h.push { cls:=.type "cell",data:=.cell none }) ((z,h.objs.size)::acc) (fun x c hx=>by
    rw [List.lookup_cons] at hx
    by_cases hz:(x==z)=true
    ·rw [hz] at hx;cases hx
     exact ⟨none,⟨_,Heap.get?_push_size _ rfl,rfl⟩⟩
    ·rw [show (x==z)=false by simpa using hz] at hx
     obtain ⟨v,w⟩:=hi x c hx
     exact ⟨v,w.keeps fun b o e=>Heap.get?_push_of_some _ e⟩)
   rwa [Heap.size_push] at q
  ·rw [if_neg hk,if_neg hk]
   exact Qdf (names:=names) r h acc hi
theorem Qjy {M:Model}{E:Value→Shared→Prop}{globals:Addr}{cl:List (Str×Addr)}{Q:Env→Shared→Prop}
  (hQ:Q { scope:=scope,locals:=s.heap.objs.size,globals:=globals,cells:=cellsFrom (s.heap.objs.size+1) scope.names cl,qual:=qual,func:=none,code:=env.code,frame:=env.frame,builtins:=env.builtins } { s with heap:=pushCells (s.heap.push { cls:=.type "dict",data:=.dict #[] }) scope.names }) :
  wpAny M A (newFunctionEnv scope globals cl [] qual none .none (some env)) Q E s:=by
 simp only [newFunctionEnv,Option.isSome_some,if_true]
 refine wpAny_bind (wpAny_alloc ?_)
 refine wpAny_bind (wpAny_layCells _ (fun name kind cells=>by cases hkc:kind==NameKind.cell <;> simp [hkc]) _ _ _ _ ?_)
 rw [show ({ s with heap:=s.heap.push { cls:=.type "dict",data:=.dict #[] } }:Shared).heap.objs.size=s.heap.objs.size+1 from Heap.size_push ..]
 simp only [List.forIn_nil,pure_bind]
 exact wpAny_pure hQ
theorem Qih {prog:Program}{R:Result→Shared→Prop}{elt target:Expr}{it acc:Value}(I:Nat→Shared→Prop)
  (turn:∀ n s,I n s→wpAny (model prog w) A (pyNext it) (fun r s1=>match r with
   | none=>R (.ok .next) s1
   | some v=>wpAny (model prog w) A (letOwnedTupleGo target it v) (fun _ s1'=>wpAny (model prog w) A (assign target env v) (fun _ s2 =>
     wpAny (model prog w) A (forIn ifs true fun c r=>if r=true then do let ok ← isTrue c env (eval c env);pure (ForInStep.yield ok) else pure (ForInStep.yield r)) (fun ok s3 =>
      if ok=true then wpAny (model prog w) A (eval elt env) (fun x s4 =>
       wpAny (model prog w) A (call (.builtin "list.append") [acc,x]) (fun _ s5=>∃ m,m<n∧I m s5) (fun _ _=>False) s4) (fun _ _=>False) s3
      else ∃ m,m<n∧I m s3) (fun _ _=>False) s2) (fun _ _=>False) s1') (fun _ _=>False) s1) (fun _ _=>False) s)
  (n:Nat) (h:I n s) :
  codeAny (model prog w) A (.compLoop (.ListComp elt [⟨target,iter,ifs,0⟩] scope pos) 0 it acc env) R s:=by
 refine codeAny_loop rfl I (fun n s hI=>?_) n h
 show wpAny _ A ((compTurn (.ListComp elt [⟨target,iter,ifs,0⟩] scope pos) 0 it acc env).onRaise (fun x=>do noteFrame x env;theTreesLotGoes x)) _ _ s
 refine wpAny_noted ?_
 rw [compTurn_list]
 refine wpAny_bind (wpAny_standAt (wpAny_bind (wpAny_mono (turn n s hI) (fun r s1 h1=>?_) fun _ _ h'=>h'.elim)))
 cases r with
 | none=>exact wpAny_pure h1
 | some v =>
  refine wpAny_bind (wpAny_mono h1 (fun _ s1' h1'=>wpAny_bind (wpAny_mono h1' (fun _ s2 h2=>wpAny_bind (wpAny_mono h2 (fun ok s3 h3=>?_) fun _ _ h'=>h'.elim)) fun _ _ h'=>h'.elim)) fun _ _ h'=>h'.elim)
  cases ok with
  | false=>exact wpAny_pure ⟨rfl,h3⟩
  | true =>
   exact wpAny_bind (wpAny_bind (wpAny_mono h3 (fun x s4 h4=>wpAny_bind (wpAny_mono h4 (fun _ s5 h5=>wpAny_pure (wpAny_pure ⟨rfl,h5⟩)) fun _ _ h'=>h'.elim)) fun _ _ h'=>h'.elim))
def Q0 (X:Cx) (scope:Scope) (N:List Str) (s:Shared) (H:Hp) (fp:List Addr):Cx where
 prog:=X.prog
 w:=X.w
 K:=X.K
 mg:=X.mg
 base:=X.base
 A:=X.A
 N:=N
 s₀:=s
 H₀:=H
 env:={ scope:=relabel scope X.env,locals:=s.heap.objs.size,globals:=X.env.globals,cells:=cellsFrom (s.heap.objs.size+1) scope.names (Qif X.env scope.names []),qual:=X.env.qual,func:=none,code:=X.env.code,frame:=X.env.frame,builtins:=X.env.builtins }
 outer:=X.stack
 stack:=X.stack
 ex:=fp
 fn:=fun x=>decide ((x,NameKind.cell)∈scope.names)
 calm:=X.calm
 pn:=[]
 xe:=fun _ _=>False
def Qea (js:List (Option Nat)) (σ:St):St:=js.map fun o=>match o with | none=>none | some j=>(σ[j]?).join
def Qgw (X:Cx) (scope:Scope) (N:List Str) (js:List (Option Nat)):Bool :=
 (N.length==js.length)&&(N.zip js).all fun p=>match p.2 with
  | none=>true
  | some j=>X.N[j]?==some p.1&&(scope.names.lookup p.1==some .free&&(X.env.scope.names.lookup p.1==some .cell||X.env.scope.names.lookup p.1==some .free))
def scOk (X:Cx) (scope:Scope):Bool :=
 scope.names.all fun p=>(p.2 != .free||(X.env.scope.names.lookup p.1==some .cell||X.env.scope.names.lookup p.1==some .free))&&scope.names.lookup p.1==some p.2
section
variable {X:Cx} {pins:List (Addr×Obj)} {σ:St} {H:Hp} {s:Shared} {scope:Scope}
theorem scOk.get (h:scOk X scope=true){p:Str×NameKind}(hp:p∈scope.names):(p.2=.free→X.env.scope.names.lookup p.1=some .cell∨X.env.scope.names.lookup p.1=some .free)∧scope.names.lookup p.1=some p.2:=by
 have q:=List.all_eq_true.mp h p hp
 rw [Bool.and_eq_true] at q
 refine ⟨fun e=>?_,by simpa using q.2⟩
 have q1:=q.1
 rw [e] at q1
 simpa using q1
theorem scOk.cells (I:Inv X pins σ H s)(h:scOk X scope=true):∀ x∈scope.names,x.2=.free→∃ c,X.env.cells.lookup x.1=some c:=fun x hx e=>I.ok.has x.1 ((scOk.get h hx).1 e)
theorem scOk.one (h:scOk X scope=true){x:Str}{k j:NameKind}(e:(x,k)∈scope.names)(e':(x,j)∈scope.names):k=j:=by
 have q1:=(scOk.get h e).2
 have q2:=(scOk.get h e').2
 exact Option.some.inj (q1.symm.trans q2)
theorem Qjh (I:Inv X pins σ H s)(h:scOk X scope=true){x:Str}{c:Addr}(e:(cellsFrom n scope.names (Qif X.env scope.names [])).lookup x=some c):X.env.cells.lookup x=some c∨(n≤c∧(x,NameKind.cell)∈scope.names):=by
 rcases Qcd _ _ _ e with q | q
 ·rcases Qb7 _ _ (scOk.cells I h) q with z | z
  ·cases z
  ·exact .inl z
 ·exact .inr q
theorem Qc1 {x:Str}{k:NameKind}:∀ {names:List (Str×NameKind)},(names.map fun (n,k)=>if (k==NameKind.free&&env.scope.kind==.function&&env.kindOf n==some .cell) then (n,NameKind.cell) else (n,k)).lookup x=some k →
  names.lookup x=some k∨(k=.cell∧names.lookup x=some .free)
 | [],h=>by cases h
 | (n,j)::r,h=>by
  rw [List.map_cons] at h
  replace h:List.lookup x ((if (j==NameKind.free&&env.scope.kind==.function&&env.kindOf n==some .cell)=true then (n,NameKind.cell) else (n,j))::_)=some k:=h
  by_cases hc:(j==NameKind.free&&env.scope.kind==.function&&env.kindOf n==some .cell)=true
  ·rw [if_pos hc,List.lookup_cons] at h
   rw [List.lookup_cons]
   by_cases hx:(x==n)=true
   ·rw [hx] at h ⊢
    cases h
    simp only [Bool.and_eq_true] at hc
    exact .inr ⟨rfl,by rw [show j=.free by simpa using hc.1.1]⟩
   ·rw [show (x==n)=false by simpa using hx] at h ⊢
    exact Qc1 h
  ·rw [if_neg hc,List.lookup_cons] at h
   rw [List.lookup_cons]
   by_cases hx:(x==n)=true
   ·rw [hx] at h ⊢
    exact .inl h
   ·rw [show (x==n)=false by simpa using hx] at h ⊢
    exact Qc1 h
theorem Qfy {x:Str}:∀ {names:List (Str×NameKind)},names.lookup x=some .free →
  (names.map fun (n,k)=>if (k==NameKind.free&&env.scope.kind==.function&&env.kindOf n==some .cell) then (n,NameKind.cell) else (n,k)).lookup x=some .cell ∨
  (names.map fun (n,k)=>if (k==NameKind.free&&env.scope.kind==.function&&env.kindOf n==some .cell) then (n,NameKind.cell) else (n,k)).lookup x=some .free
 | [],h=>by cases h
 | (n,j)::r,h=>by
  rw [List.map_cons]
  show List.lookup x ((if (j==NameKind.free&&env.scope.kind==.function&&env.kindOf n==some .cell)=true then (n,NameKind.cell) else (n,j))::_)=some .cell∨List.lookup x ((if (j==NameKind.free&&env.scope.kind==.function&&env.kindOf n==some .cell)=true then (n,NameKind.cell) else (n,j))::_)=some .free
  rw [List.lookup_cons] at h
  by_cases hx:(x==n)=true
  ·rw [hx] at h
   cases h
   by_cases hc:(NameKind.free==NameKind.free&&env.scope.kind==.function&&env.kindOf n==some .cell)=true
   ·rw [if_pos hc,List.lookup_cons,hx];exact .inl rfl
   ·rw [if_neg hc,List.lookup_cons,hx];exact .inr rfl
  ·rw [show (x==n)=false by simpa using hx] at h
   by_cases hc:(j==NameKind.free&&env.scope.kind==.function&&env.kindOf n==some .cell)=true
   ·rw [if_pos hc,List.lookup_cons,show (x==n)=false by simpa using hx];exact Qfy h
   ·rw [if_neg hc,List.lookup_cons,show (x==n)=false by simpa using hx];exact Qfy h
theorem Q2y {fp:List Addr}(I:Inv X pins σ H s)(hk:scope.kind=.function)(h:scOk X scope=true)(hf:∀ b∈fp,Qh0 X pins H b)(ho:∀ b∈fp,∃ o,s.heap.get? b=some o∧∀ v,o.data≠.cell v):(Q0 X scope N s H fp).Ok where
 mod:=I.ok.mod
 kind:=hk
 glob:=I.ok.glob
 blt:=I.ok.blt
 above:=Nat.le_refl _
 inj:=fun x y c h1 h2=>Qfg _ _ _ (fun z c hz=>by
   rcases Qb7 _ _ (scOk.cells I h) hz with q | q
   ·cases q
   ·obtain ⟨v,w⟩:=I.cell z c q
    exact Nat.lt_succ_of_lt w.lt) (fun y z c h1 h2=>by
   rcases Qb7 _ _ (scOk.cells I h) h1 with q | q
   ·cases q
   ·rcases Qb7 _ _ (scOk.cells I h) h2 with q' | q'
    ·cases q'
    ·exact I.ok.inj y z c q q') x y c h1 h2
 has:=fun x hx=>by
  have key:(x,NameKind.cell)∈scope.names∨(x,NameKind.free)∈scope.names:=by
   rcases hx with hx | hx
   ·rcases Qc1 hx with q | ⟨_,q⟩
    ·exact .inl (PySem.mem_of_lookup q)
    ·exact .inr (PySem.mem_of_lookup q)
   ·rcases Qc1 hx with q | ⟨q,_⟩
    ·exact .inr (PySem.mem_of_lookup q)
    ·cases q
  rcases key with q | q
  ·have e:scope.names.lookup x=some .cell:=(scOk.get h q).2
   exact Option.isSome_iff_exists.mp (PySem.W.cellsFrom_some scope.names _ _ (.inl e))
  ·obtain ⟨c,hc⟩:=Qig (env:=X.env) scope.names [] (.inl q)
   exact Option.isSome_iff_exists.mp (PySem.W.cellsFrom_some scope.names _ _ (.inr (by rw [hc];rfl)))
 cab:=fun x c hx hc=>Nat.le_of_succ_le (Qdi _ _ _ (of_decide_eq_true hx) hc)
 hd:=I.ok.hd
 frames:=I.ok.frames
 stk:=.inl rfl
 exf:=fun b hb=>by
  obtain ⟨o,e,d⟩:=ho b hb
  refine ⟨Nat.ne_of_lt (Heap.lt_size e),fun x c hc z=>?_⟩
  rcases Qjh I h hc with q | ⟨q,_⟩
  ·exact (hf b hb).2.2.2.2.1 x c q z
  ·rw [z] at q
   exact absurd (Nat.lt_of_lt_of_le (Heap.lt_size e) (Nat.le_of_succ_le q)) (Nat.lt_irrefl _)
 bs:=I.bs
 bsz:=Nat.le_trans I.ok.bsz I.sz
 noex:=fun b o e hb=>by
  rcases (hf b hb).2.2.2.1 with q | q
  ·exact I.ok.noex b o e q
  ·exact absurd (Nat.lt_of_lt_of_le (Heap.lt_size e) (Nat.le_trans I.ok.bsz q)) (Nat.lt_irrefl _)
 exfs:=fun b hb hs=>by
  rcases List.mem_cons.mp (I.stkSub b hs) with q | q
  ·exact (hf b hb).2.1 q
  ·exact (hf b hb).2.2.1 q
 funs:=I.stack
 frf:=⟨I.stkFree,I.tab⟩
theorem Qqh {fp:List Addr}(I:Inv X pins σ H s)(hk:scope.kind=.function)(h:scOk X scope=true)(hc:Qgw X scope N js=true)(hf:∀ b∈fp,Qh0 X pins H b)(ho:∀ b∈fp,∃ o,s.heap.get? b=some o∧∀ v,o.data≠.cell v) :
  Inv (Q0 X scope N s H fp) [] (Qea js σ) H { s with heap:=pushCells (s.heap.push { cls:=.type "dict",data:=.dict #[] }) scope.names }:=by
 have kp:∀ b o,s.heap.get? b=some o→(pushCells (s.heap.push { cls:=.type "dict",data:=.dict #[] }) scope.names).get? b=some o:=fun b o e=>pushCells_keeps _ _ _ _ (Heap.get?_push_of_some _ e)
 have hcap:N.length=js.length∧∀ p∈N.zip js,∀ j,p.2=some j→X.N[j]?=some p.1∧scope.names.lookup p.1=some .free∧(X.env.scope.names.lookup p.1=some .cell∨X.env.scope.names.lookup p.1=some .free):=by
  unfold Qgw at hc
  rw [Bool.and_eq_true] at hc
  refine ⟨by simpa using hc.1,fun p hp j e=>?_⟩
  have q:=List.all_eq_true.mp hc.2 p hp
  rw [e] at q
  simpa using q
 refine ⟨Q2y I hk h hf ho,rfl,I.bare,Un.kept kp,?_,fun x c e=>?_,I.hok.fresh (Nat.le_refl _),fun x c e=>?_,fun p hp=>absurd (show p∈([]:List (Addr×Obj)) from hp) (by simp),I.hok.kept kp,?_⟩
 ·refine ⟨fun _=>none,(Heap.Ns.new s.heap (.type "dict")).keeps (pushCells_keeps _ _),fun i x v h1 h2 h3=>?_⟩
  obtain ⟨o,ho1,ho2⟩:∃ o,js[i]?=some o∧(match o with | none=>none | some j=>(σ[j]?).join)=some v:=by
   unfold Qea at h2
   rw [List.getElem?_map] at h2
   cases e:js[i]? with
   | none=>rw [e] at h2;cases h2
   | some o=>rw [e] at h2;exact ⟨o,rfl,Option.some.inj h2⟩
  cases o with
  | none=>cases ho2
  | some j =>
   have hz:(x,some j)∈N.zip js:=List.mem_of_getElem? (i:=i) (by rw [List.getElem?_zip_eq_some];exact ⟨h1,ho1⟩)
   obtain ⟨q1,q2,q3⟩:=hcap.2 _ hz j rfl
   have hσ:σ[j]?=some (some v):=by
    have ho2:(σ[j]?).join=some v:=ho2
    cases e:σ[j]? with
    | none=>rw [e] at ho2;cases ho2
    | some w=>rw [e] at ho2;exact congrArg some ho2
   obtain ⟨m,hn,hl⟩:=I.loc
   obtain ⟨u,r,l⟩:=hl j x v q1 hσ (by rcases q3 with z | z;exact .inr (.inl z);exact .inr (.inr z))
   refine ⟨u,r,.inr ⟨Qfy q2,?_⟩⟩
   have fin:∀ c,X.env.cells.lookup x=some c→s.heap.IsCell c (some u)→∃ c,(cellsFrom (s.heap.objs.size+1) scope.names (Qif X.env scope.names [])).lookup x=some c∧(pushCells (s.heap.push { cls:=.type "dict",data:=.dict #[] }) scope.names).IsCell c (some u):=fun c hc hv=>by
    obtain ⟨d,hd⟩:=Qig (env:=X.env) scope.names [] (.inl (PySem.mem_of_lookup q2))
    obtain ⟨c',hc'⟩:=Option.isSome_iff_exists.mp (PySem.W.cellsFrom_some scope.names (s.heap.objs.size+1) (Qif X.env scope.names []) (.inr (by rw [hd];rfl)))
    refine ⟨c',hc',?_⟩
    rcases Qjh I h hc' with z | ⟨_,z⟩
    ·rw [hc] at z;cases z
     exact hv.keeps kp
    ·have:=scOk.one h z (PySem.mem_of_lookup q2)
     cases this
   rcases l with ⟨hk,_⟩ | ⟨_,c,hc,hv⟩
   ·have hk:X.env.scope.names.lookup x=some .local:=hk
    rcases q3 with z | z <;> (rw [z] at hk;cases hk)
   ·exact fin c hc hv
 ·have q:=Qdf (names:=[]) scope.names (s.heap.push { cls:=.type "dict",data:=.dict #[] }) (Qif X.env scope.names []) (fun y d hd=>by
   rcases Qb7 _ _ (scOk.cells I h) hd with z | z
   ·cases z
   ·obtain ⟨v,w⟩:=I.cell y d z
    exact ⟨v,w.keeps fun b o e=>Heap.get?_push_of_some _ e⟩)
  rw [Heap.size_push] at q
  exact q x c e
 ·rcases Qjh I h e with q | ⟨q,_⟩
  ·rcases I.freeC x c q with z | ⟨_,z⟩
   ·exact .inl z
   ·refine .inr ⟨?_,z⟩
    show decide ((x,NameKind.cell)∈scope.names)=false
    refine decide_eq_false fun hx=>?_
    have h1:=Qdi _ _ _ hx e
    obtain ⟨v,w⟩:=I.cell x c q
    exact absurd (Nat.lt_of_lt_of_le (Nat.lt_succ_of_lt w.lt) h1) (Nat.lt_irrefl _)
  ·exact .inl (I.hok.fresh (Nat.le_of_succ_le q))
 ·show (Qea js σ).length=N.length
  unfold Qea
  rw [List.length_map,hcap.1]
end
def Qaby (J:It) (l:Addr) (σ:St) (H1:Hp) (g:TG) (tc:TT) (te:TE) (Q:VK):Prop:=∃ W:Nat→Nat→List V→St→Hp→Prop,
 (∃ m,W 0 m [] σ (upd H1 l (.lst [])))∧∀ i m ys σ2 H2,W i m ys σ2 H2 →
  (J.stop i H2∧Q (.ref l) H2) ∨
  (J.go i H2∧∀ x H3,J.yld i H2 x H3→g x σ2 H3 fun σ4 H4=>tc σ4 H4 fun b H5 =>
   if b=true then te σ4 H5 fun y H6=>H6 l=some (.lst ys)∧ys.length<sizeLine∧∃ m',m'<m∧W (i+1) m' (ys++[y]) σ4 (upd H6 l (.lst (ys++[y])))
   else ∃ m',m'<m∧W (i+1) m' ys σ4 H5)
abbrev Qnh (wi:TI) (js:List (Option Nat)) (g:TG) (tc:TT) (te:TE):TE:=fun σ H Q=>wi σ H fun J H1=>∀ l,H1 l=none→Qaby J l (Qea js σ) H1 g tc te Q
def PTs (X:Cx) (ifs:List Expr) (t:TT):Prop :=
 ∀ (pins:List (Addr×Obj)) (s:Shared) (σ:St) (H:Hp) (Q:Bool→Hp→Prop),Inv X pins σ H s→t σ H Q →
  wpAny (model X.prog X.w) X.A (forIn ifs true fun c r=>if r=true then do let ok ← isTrue c X.env (eval c X.env);pure (ForInStep.yield ok) else pure (ForInStep.yield r)) (TP X pins σ Q) X.xe s
abbrev tYes:TT:=fun _ H Q=>Q true H
theorem Q2z:PTs X [] tYes:=fun pins s σ H Q I h=>wpAny_tests_nil ⟨H,I,h⟩
theorem Q20 {t:TT}(h:PT X c t):PTs X [c] t:=fun pins s σ H Q I q=>wpAny_tests_one (h pins s σ H Q I q)
theorem Qxu {elt:Expr}{wi:TI}{tc:TT}(hcalm:X.calm=true)
  (hi:PI X tg iter wi) (hg:∀ s H fp,PG (Q0 X scope N s H fp) tg g) (hc:∀ s H fp,PTs (Q0 X scope N s H fp) ifs tc) (he:∀ s H fp,PE (Q0 X scope N s H fp) elt te)
  (hk:scope.kind=.function:=by rfl) (h1:scOk X scope=true:=by rfl) (h2:Qgw X scope N js=true:=by rfl)
  (hs:∀ x,foldedSetIterable iter X.env x=pure x:=by intro _;rfl):PE X (.ListComp elt [⟨tg,iter,ifs,0⟩] scope pos) (Qnh wi js g tc te):=by
 intro pins s σ H Q I h
 rw [eval_ListComp]
 refine wpAny_comprehension_free (use:=none) rfl hs (Qk0 (scOk.cells I h1)) hk (fun x hx hl=>by rw [(scOk.get h1 hx).2,hl]) ?_
 refine thn (hi pins s σ H _ I h) fun v s1 h1'=>thn h1' fun itv s2 h2'=>?_
 obtain ⟨it,fp,tn,J,H2,e,I2,T,st2,f2,q⟩:=h2'
 subst e
 refine wpAny_newObj_type ?_
 have hl:H2 s2.heap.objs.size=none:=I2.hok.fresh (Nat.le_refl _)
 obtain ⟨W,⟨m0,w0⟩,turn⟩:=q _ hl
 have I3:Inv X pins σ (upd H2 s2.heap.objs.size (.lst [])) { s2 with heap:=s2.heap.push { cls:=.type "list",data:=.seq ([]:List Value).toArray } }:=I2.lnew (t':=s2.toks) (ys:=[]) .nil (Nat.zero_le _)
 generalize hs3:({ s2 with heap:=s2.heap.push { cls:=.type "list",data:=.seq ([]:List Value).toArray } }:Shared)=s3 at I3
 generalize hH3:upd H2 s2.heap.objs.size (.lst [])=H3 at I3 w0
 generalize hl':s2.heap.objs.size=l at turn hH3 hl
 have kp3:∀ b o,s2.heap.get? b=some o→s3.heap.get? b=some o:=fun b o e=>by rw [←hs3];exact Heap.get?_push_of_some _ e
 have ob3:∀ b∈fp,∃ o,s3.heap.get? b=some o∧∀ v,o.data≠.cell v:=fun b hb=>by
  obtain ⟨o,e,d⟩:=T.obj _ _ st2 b hb
  exact ⟨o,kp3 b o e,d⟩
 have f3:∀ b∈fp,Qh0 X pins H3 b:=fun b hb=>by
  obtain ⟨o,e,d⟩:=T.obj _ _ st2 b hb
  refine ⟨?_,(f2 b hb).2⟩
  rw [←hH3,Qw (Nat.ne_of_lt (by rw [←hl'];exact Heap.lt_size e))]
  exact (f2 b hb).1
 refine Qjy ?_
 have I4:=Qqh (N:=N) (js:=js) I3 hk h1 h2 f3 ob3
 have st4:tn 0 (pushCells (s3.heap.push { cls:=.type "dict",data:=.dict #[] }) scope.names):=T.keep _ _ _ st2 fun b hb o e=>pushCells_keeps _ _ _ _ (Heap.get?_push_of_some _ (kp3 b o e))
 have fr4:∀ b∈fp,H3 b=none:=fun b hb=>(f3 b hb).1
 have fpX:∀ {H':Hp},(∀ b∈fp,H' b=none)→∀ b∈fp,Qh0 (Q0 X scope N s3 H3 fp) [] H' b:=fun hn b hb=>by
  have ok:=I4.ok
  refine ⟨hn b hb,(ok.exf b hb).1,ok.exfs b hb,.inl hb,(ok.exf b hb).2,fun p hp=>absurd (show p∈([]:List (Addr×Obj)) from hp) (by simp)⟩
 -- the block's end
 have fin:∀ {σ':St} {H':Hp} {s':Shared},Inv (Q0 X scope N s3 H3 fp) [] σ' H' s'→Q (.ref l) H'→compPost (model X.prog X.w) X.A X.xe none (EP X pins σ Q) (.ref l) s3.heap.objs.size (.ok .next) s':=fun {σ' H' s'} I' q'=>by
  obtain ⟨m,hn,_⟩:=id I'.loc
  refine ⟨m,hn,fun h' hsb=>⟨.ref l,H',?_,rfl,q'⟩⟩
  have hfr:H' s3.heap.objs.size=none:=I'.free
  refine I3.call' (s':={ s' with heap:=h' }) (ch:=fp) I'.os ⟨fun b o e n hb hx=>?_,fun b o e n hb hx=>?_,I'.base.free,fun b o e hx=>?_,I'.base.tups,I'.base.frzs,I'.base.tbls⟩ (fun b u e=>?_) I'.bare (fun b hb=>⟨(f3 b hb).2.2.2.1,(f3 b hb).2.1,(f3 b hb).2.2.2.2.1,(f3 b hb).2.2.2.2.2⟩)
  ·exact (hsb.2 b (Nat.ne_of_lt (Heap.lt_size e))).trans (I'.base.keep b o e n hb hx)
  ·obtain ⟨sl,z⟩:=I'.base.slot b o e n hb hx
   exact ⟨sl,(hsb.2 b (Nat.ne_of_lt (Heap.lt_size e))).trans z⟩
  ·obtain ⟨o',z⟩:=I'.base.there b o e hx
   exact ⟨o',(hsb.2 b (Nat.ne_of_lt (Heap.lt_size e))).trans z⟩
  ·refine (I'.hok b u e).stay (fun c w' hc z=>(hsb.2 c ?_).trans z) (fun _ z=>z) fun _ _ z=>z
   rintro rfl
   rcases hc with rfl | hc
   ·rw [hfr] at e;cases e
   ·rw [hfr] at hc;cases hc
 have loop:codeAny (model X.prog X.w) X.A (.compLoop (.ListComp elt [⟨tg,iter,ifs,0⟩] scope pos) 0 (.ref it) (.ref l) (Q0 X scope N s3 H3 fp).env) (compPost (model X.prog X.w) X.A X.xe none (EP X pins σ Q) (.ref l) s3.heap.objs.size)
   { s3 with heap:=pushCells (s3.heap.push { cls:=.type "dict",data:=.dict #[] }) scope.names }:=by
  refine Qih (fun n s'=>∃ i ys σ' H',Inv (Q0 X scope N s3 H3 fp) [] σ' H' s'∧tn i s'.heap∧(∀ b∈fp,H' b=none)∧W i n ys σ' H') ?_ m0 ⟨0,[],Qea js σ,H3,I4,st4,fr4,w0⟩
  rintro n s5 ⟨i,ys,σ5,H5,I5,st5,fr5,w5⟩
  rcases turn i n ys σ5 H5 w5 with ⟨stop,qn⟩ | ⟨go,step⟩
  ·refine thn (T.done (Q0 X scope N s3 H3 fp) rfl rfl rfl hcalm i [] s5 σ5 H5 _ I5 (fpX fr5) st5 stop) fun r s6 ⟨hr,I6⟩=>?_
   subst hr
   exact fin I6 qn
  ·refine thn (T.item (Q0 X scope N s3 H3 fp) rfl rfl rfl hcalm i [] s5 σ5 H5 _ I5 (fpX fr5) st5 go) fun r s6 ⟨u,hr,h6⟩=>?_
   subst hr
   refine thn h6 fun _ s7 ⟨x,H7,I7,r7,y7,st7,fr7⟩=>?_
   have I7':=I7.pinned (fpX fr7) (T.obj _ _ st7)
   have again:∀ {σ8:St} {H8:Hp} {s8:Shared} {ys8:List V},Inv (Q0 X scope N s3 H3 fp) ([]++Qjc fp s7.heap) σ8 H8 s8→(∃ m',m'<n∧W (i+1) m' ys8 σ8 H8) →
     ∃ m,m<n∧∃ i ys σ' H',Inv (Q0 X scope N s3 H3 fp) [] σ' H' s8∧tn i s8.heap∧(∀ b∈fp,H' b=none)∧W i m ys σ' H':=fun {σ8 H8 s8 ys8} I8 ⟨m',hm,w8⟩=>by
    refine ⟨m',hm,i+1,ys8,σ8,H8,I8.unpinned,T.keep _ _ _ st7 fun b hb o e=>(I8.pin (b,o) (List.mem_append_right _ (List.mem_append_right _ (Qcw hb e)))).1,fun b hb=>?_,w8⟩
    obtain ⟨o,e,d⟩:=T.obj _ _ st7 b hb
    exact (I8.pin (b,o) (List.mem_append_right _ (List.mem_append_right _ (Qcw hb e)))).2.1
   refine thn (hg s3 H3 fp _ s7 σ5 H7 x u _ I7' r7 (step x H7 y7)) fun _ s8 ⟨σ8,H8,I8,q8⟩=>?_
   refine thn (hc s3 H3 fp _ s8 σ8 H8 _ I8 q8) fun ok s9 ⟨H9,I9,q9⟩=>?_
   cases ok with
   | false =>
    rw [if_neg Bool.false_ne_true] at q9 ⊢
    exact again I9 q9
   | true =>
    rw [if_pos rfl] at q9 ⊢
    refine thn (he s3 H3 fp _ s9 σ8 H9 _ I9 q9) fun y s10 ⟨vy,H10,I10,r10,a10,z10,q10⟩=>?_
    refine thn (Qjf (X:=Q0 X scope N s3 H3 fp) _ s10 σ8 H10 (.ref l) [vy] (.ref l) [y] (fun _ H'=>∃ m',m'<n∧W (i+1) m' (ys++[vy]) σ8 H') I10 rfl (.cons r10 .nil) ⟨l,ys,vy,rfl,rfl,a10,z10,q10⟩) fun _ s11 ⟨_,H11,I11,_,q11⟩=>?_
    exact again I11 q11
 first
  | exact codeAny_compStart_list loop (T.self _ 0 _ _ _ st4 loop)
  | (rw [← hs3] at loop st4
     exact codeAny_compStart_list loop (T.self _ 0 _ _ _ st4 loop))
section
variable {X:Cx}
theorem Qqi:CallR X (.builtin "isinstance") (fun xs H Q=>∃ x T t b,xs=[x,.ty T]∧TyOf X.K H x t∧PySem.W.kitOne X.K t (.type T)=some b∧Q (.bl b) H):=by
 intro pins s σ H xs us Q I r h
 obtain ⟨x,T,t,b,rfl,ty,e,q⟩:=h
 obtain ⟨u,w',rfl,rx,ry⟩:=Quc r
 obtain rfl:w'=Value.type T:=ry
 exact Qv5 I rx ty e fun tk=>⟨.bl b,H,I.tok _,rfl,q⟩
def Qkb:V→Bool
 | .bl b=>b
 | .int i=>i != 0
 | _=>false
def Qk1:V→Bool
 | .bl _=>true
 | .int _=>true
 | .non=>true
 | _=>false
theorem Qqj {x:V}{v:Value}{Q:Bool→Shared→Prop}{E:Value→Shared→Prop}(r:RelV x v)(f:Qk1 x=true)(h:Q (Qkb x) s):wpAny (model X.prog X.w) A (truthy v) Q E s:=by
 cases x with
 | bl b=>cases r;exact wpAny_truthy_bool h
 | int i=>obtain ⟨t,rfl⟩:=r;exact truthy_int h
 | non=>cases r;exact truthy_none h
 | _=>exact absurd (show false=true from f) Bool.false_ne_true
theorem Qsp (f:α→Bool)(d:α)(xs:List α):((List.range xs.length).all fun i=>f (xs.getD i d))=xs.all f:=by
 rw [Bool.eq_iff_iff,List.all_eq_true,List.all_eq_true]
 constructor
 ·intro h x hx
  obtain ⟨i,hi,rfl⟩:=List.getElem_of_mem hx
  have:=h i (List.mem_range.mpr hi)
  rwa [List.getD_eq_getElem?_getD,List.getElem?_eq_getElem hi,Option.getD_some] at this
 ·intro h i hi
  have hi:=List.mem_range.mp hi
  rw [List.getD_eq_getElem?_getD,List.getElem?_eq_getElem hi,Option.getD_some]
  exact h _ (List.getElem_mem hi)
theorem Qsq (f:α→Bool)(d:α)(xs:List α):((List.range xs.length).any fun i=>f (xs.getD i d))=xs.any f:=by
 rw [Bool.eq_iff_iff,List.any_eq_true,List.any_eq_true]
 constructor
 ·rintro ⟨i,hi,h⟩
  have hi:=List.mem_range.mp hi
  rw [List.getD_eq_getElem?_getD,List.getElem?_eq_getElem hi,Option.getD_some] at h
  exact ⟨_,List.getElem_mem hi,h⟩
 ·rintro ⟨x,hx,h⟩
  obtain ⟨i,hi,rfl⟩:=List.getElem_of_mem hx
  exact ⟨i,List.mem_range.mpr hi,by rw [List.getD_eq_getElem?_getD,List.getElem?_eq_getElem hi,Option.getD_some];exact h⟩
theorem Qxv (hc:X.calm=true):CallR X (.builtin "all") (fun xs H Q=>∃ p ys,xs=[.ref p]∧SqL X.K H p ys∧ys.all Qk1=true∧Q (.bl (ys.all Qkb)) H):=by
 intro pins s σ H xs us Q I r h
 obtain ⟨p,ys,rfl,hq,hf,q⟩:=h
 obtain ⟨u,rfl,rx⟩:=Qgl r
 cases rx
 obtain ⟨its,r',pl,hz⟩:=I.list hq
 have hlt:p<s.heap.objs.size:=by obtain ⟨_,e,_⟩:=pl.isList;exact Heap.lt_size e
 have hlen:=r'.length
 refine call_all_walk (wpAny_pyIter_list pl.isList ?_)
 refine ⟨s.heap.objs.size,[s.heap.objs.size,p],[s.heap.objs.size],its.toArray.size,_,_,fun i=>Qkb (ys.getD i .non),rfl,Walks.list (A:=X.A.in1) (I.ok.hd hc) _ p (Nat.ne_of_lt hlt) its.toArray,
  ⟨⟨_,Heap.get?_push_size _ rfl,rfl,rfl⟩,pl.isList.push _⟩,fun i v s' Q' E' hP hQ=>?_,fun h' tk hk=>?_⟩
 ·have hi:its[i]?=some v:=by simpa using hP
  have hy:∃ y,ys[i]?=some y:=by
   have:=(List.getElem?_eq_some_iff.mp hi).1
   exact ⟨ys[i],List.getElem?_eq_getElem (by omega)⟩
  obtain ⟨y,hy⟩:=hy
  obtain ⟨v',hv',rv⟩:=r'.get hy
  rw [hi] at hv';cases hv'
  refine Qqj (X:=X) rv (List.all_eq_true.mp hf y (List.mem_of_getElem? hy)) ?_
  have hQ:Q' (Qkb (ys.getD i V.non)) s':=hQ
  rw [List.getD_eq_getElem?_getD,hy,Option.getD_some] at hQ
  exact hQ
 ·rw [List.size_toArray,←hlen,Qsp]
  exact ⟨.bl _,H,I.kept fun b x e=>hk b x (fun hm=>by rw [List.mem_singleton.mp hm] at e;exact Nat.lt_irrefl _ (Heap.lt_size e)) (Heap.get?_push_of_some _ e),rfl,q⟩
theorem Qxw (hc:X.calm=true):CallR X (.builtin "any") (fun xs H Q=>∃ p ys,xs=[.ref p]∧SqL X.K H p ys∧ys.all Qk1=true∧Q (.bl (ys.any Qkb)) H):=by
 intro pins s σ H xs us Q I r h
 obtain ⟨p,ys,rfl,hq,hf,q⟩:=h
 obtain ⟨u,rfl,rx⟩:=Qgl r
 cases rx
 obtain ⟨its,r',pl,hz⟩:=I.list hq
 have hlt:p<s.heap.objs.size:=by obtain ⟨_,e,_⟩:=pl.isList;exact Heap.lt_size e
 have hlen:=r'.length
 refine call_any_walk (wpAny_pyIter_list pl.isList ?_)
 refine ⟨s.heap.objs.size,[s.heap.objs.size,p],[s.heap.objs.size],its.toArray.size,_,_,fun i=>Qkb (ys.getD i .non),rfl,Walks.list (A:=X.A.in1) (I.ok.hd hc) _ p (Nat.ne_of_lt hlt) its.toArray,
  ⟨⟨_,Heap.get?_push_size _ rfl,rfl,rfl⟩,pl.isList.push _⟩,fun i v s' Q' E' hP hQ=>?_,fun h' tk hk=>?_⟩
 ·have hi:its[i]?=some v:=by simpa using hP
  have hy:∃ y,ys[i]?=some y:=by
   have:=(List.getElem?_eq_some_iff.mp hi).1
   exact ⟨ys[i],List.getElem?_eq_getElem (by omega)⟩
  obtain ⟨y,hy⟩:=hy
  obtain ⟨v',hv',rv⟩:=r'.get hy
  rw [hi] at hv';cases hv'
  refine Qqj (X:=X) rv (List.all_eq_true.mp hf y (List.mem_of_getElem? hy)) ?_
  have hQ:Q' (Qkb (ys.getD i V.non)) s':=hQ
  rw [List.getD_eq_getElem?_getD,hy,Option.getD_some] at hQ
  exact hQ
 ·rw [List.size_toArray,←hlen,Qsq]
  exact ⟨.bl _,H,I.kept fun b x e=>hk b x (fun hm=>by rw [List.mem_singleton.mp hm] at e;exact Nat.lt_irrefl _ (Heap.lt_size e)) (Heap.get?_push_of_some _ e),rfl,q⟩
theorem Qwa (hc:X.calm=true):CallR X (.builtin "max") (fun xs H Q=>∃ (p:Addr) (ns:List Int),xs=[.ref p]∧SqL X.K H p (ns.map V.int)∧ns≠[]∧∀ M,M∈ns→(∀ a∈ns,a≤M)→Q (.int M) H):=by
 intro pins s σ H xs us Q I r h
 obtain ⟨p,ns,rfl,hq,hne,q⟩:=h
 obtain ⟨u,rfl,rx⟩:=Qgl r
 cases rx
 obtain ⟨its,r',pl,hz⟩:=I.list hq
 have hi:IntsAre its ns:=Qh1 r'
 obtain ⟨xs,e⟩:=hi.allInts.items
 have hns:ns=xs.toList.map (·.1):=by rw [←hi.numsOf,←nums_intItems,←e]
 have hsz:0<xs.size:=by
  have h3:0<ns.length:=List.length_pos_iff.mpr hne
  rw [hns,List.length_map,Array.length_toList] at h3;exact h3
 have hl:=pl.isList
 rw [e] at hl
 refine max_intList (I.ok.hd hc) hl hsz fun v h' tk hv hk=>?_
 obtain ⟨t,rfl⟩:=intItems_at hv
 obtain ⟨h1,h2⟩:=argBest_gt (numAt xs) (xs.size-1)
 refine ⟨.int _,H,I.kept hk,⟨t,rfl⟩,q _ ?_ fun a ha=>?_⟩
 ·rw [hns,numAt_eq];exact getD_mem (by rw [List.length_map,Array.length_toList];omega)
 ·rw [hns] at ha
  obtain ⟨j,hj,rfl⟩:=mem_getD ha
  rw [List.length_map,Array.length_toList] at hj
  rw [←numAt_eq];exact h2 j (by omega)
theorem Qwb (hc:X.calm=true):CallR X (.builtin "min") (fun xs H Q=>∃ (p:Addr) (ns:List Int),xs=[.ref p]∧SqL X.K H p (ns.map V.int)∧ns≠[]∧∀ M,M∈ns→(∀ a∈ns,M≤a)→Q (.int M) H):=by
 intro pins s σ H xs us Q I r h
 obtain ⟨p,ns,rfl,hq,hne,q⟩:=h
 obtain ⟨u,rfl,rx⟩:=Qgl r
 cases rx
 obtain ⟨its,r',pl,hz⟩:=I.list hq
 have hi:IntsAre its ns:=Qh1 r'
 obtain ⟨xs,e⟩:=hi.allInts.items
 have hns:ns=xs.toList.map (·.1):=by rw [←hi.numsOf,←nums_intItems,←e]
 have hsz:0<xs.size:=by
  have h3:0<ns.length:=List.length_pos_iff.mpr hne
  rw [hns,List.length_map,Array.length_toList] at h3;exact h3
 have hl:=pl.isList
 rw [e] at hl
 refine min_intList (I.ok.hd hc) hl hsz fun v h' tk hv hk=>?_
 obtain ⟨t,rfl⟩:=intItems_at hv
 obtain ⟨h1,h2⟩:=argBest_lt (numAt xs) (xs.size-1)
 refine ⟨.int _,H,I.kept hk,⟨t,rfl⟩,q _ ?_ fun a ha=>?_⟩
 ·rw [hns,numAt_eq];exact getD_mem (by rw [List.length_map,Array.length_toList];omega)
 ·rw [hns] at ha
  obtain ⟨j,hj,rfl⟩:=mem_getD ha
  rw [List.length_map,Array.length_toList] at hj
  rw [←numAt_eq];exact h2 j (by omega)
end
open PySem.AutoSeq1 (wpAny_loadPart')
theorem Same.upd {a:Addr}(h:H a=none):Same H (upd H a o):=fun b u e=>by rw [Qw (Qb4 e h)];exact e
theorem Qon (l:Addr)(items:Array Value)(n:Nat)(b:Addr)(items2:Array Value)(n2:Nat)(dd:Option Addr)(sl:Array (Option Value))(hs0:¬(!items.isEmpty&&Builtin.List.listTooLong (items.size+items2.size))=true)(hs1:items.size≤sizeLine)(hs2:items.size+items2.size≤sizeLine+1) :
  Meets (Builtin.«list.extend» ⟨[.ref l,.ref b],[]⟩) (fun _ R s=>s.heap.get? l=some { cls:=.type "list",dict:=none,data:=.seq items n,slots:=#[] }∧s.heap.get? b=some { cls:=.type "tuple",dict:=dd,data:=.seq items2 n2,slots:=sl }∧R (.ok (.ret Value.none)) { s with heap:=s.heap.update l (Obj.mapSeq fun x=>x++items2),toks:=s.toks }) :=
 .of_wp fun prog w A R s h=>by
  obtain ⟨hp,g,d,tk,os⟩:=s;obtain ⟨hl,hb,h⟩:=h;have f1:=AutoSeq1.idx_int;have f2:=AutoSeq1.sub_tuple_tuple;have f3:=AutoSeq1.sub_list_list;have f4:=AutoSeq1.sub_tuple_list;have f5:=AutoSeq1.sub_list_tuple
  have hz':(items++items2).size≤sizeLine+1:=by rw [Array.size_append];exact hs2
  wp_walk using (wpAny_updateSeq hl rfl (hz:=hs1) (_hz':=hz')),wpAny_loadPart' hl,wpAny_loadPart' hb;exact ⟨_,rfl,h⟩
theorem Qsr (l:Addr)(items:Array Value)(n:Nat)(x:Int)(u:Tok)(dd:Option Addr)(sl:Array (Option Value))(h0:¬ (x < -(2^63)||x≥2^63)=true)(h1:¬ (items.isEmpty||x==1)=true)(h2:¬ (x≤0||items.isEmpty)=true)(h3:¬ items.size*x>(2^63-1) / 8)(h4:¬ Builtin.Tuple.tupleTooMany (items.size*x)=true)
  (hz:(List.foldl (fun x1 x2=>x1++x2) #[] (List.replicate x.toNat items)).size≤sizeLine) :
  Meets (Builtin.«tuple.__mul__» ⟨[.ref l,.int x u],[]⟩) (fun _ R s=>s.heap.get? l=some { cls:=.type "tuple",dict:=dd,data:=.seq items n,slots:=sl }∧R (.ok (.ret (Value.ref s.heap.objs.size))) { s with heap:=s.heap.push { cls:=Value.type "tuple",data:=Data.seq (List.foldl (fun x1 x2=>x1++x2) #[] (List.replicate x.toNat items)) },toks:=s.toks }) :=
 .of_wp fun prog w A R s h=>by
  obtain ⟨hp,g,d,tk,os⟩:=s;obtain ⟨hl,h⟩:=h;have f1:=AutoSeq1.idx_int
  wp_walk using wpAny_loadPart' hl
  rw [if_neg h0]
  wp_walk using wpAny_loadPart' hl
  rw [if_neg h3]
  wp_walk using wpAny_loadPart' hl
  exact ⟨_,rfl,h⟩
theorem Qqk (l:Addr)(items:Array Value)(n:Nat)(x:Int)(u:Tok)(dd:Option Addr)(sl:Array (Option Value))(h0:¬ (x < -(2^63)||x≥2^63)=true)(h1:(items.isEmpty||x==1)=true) :
  Meets (Builtin.«tuple.__mul__» ⟨[.ref l,.int x u],[]⟩) (fun _ R s=>s.heap.get? l=some { cls:=.type "tuple",dict:=dd,data:=.seq items n,slots:=sl }∧R (.ok (.ret (Value.ref l))) s) :=
 .of_wp fun prog w A R s h=>by
  obtain ⟨hp,g,d,tk,os⟩:=s;obtain ⟨hl,h⟩:=h;have f1:=AutoSeq1.idx_int
  wp_walk using wpAny_loadPart' hl
  rw [if_neg h0]
  wp_walk using wpAny_loadPart' hl
  exact ⟨_,rfl,h⟩
theorem Qk2 (a:Int)(t:Tok)(l:Addr)(items:Array Value)(n:Nat)(dd:Option Addr)(sl:Array (Option Value)) :
  Meets (Builtin.«int.__rmul__» ⟨[.int a t,.ref l],[]⟩) (fun _ R s=>s.heap.get? l=some { cls:=.type "tuple",dict:=dd,data:=.seq items n,slots:=sl }∧R (.ok (.ret Value.notImplemented)) s) :=
 .of_wp fun prog w A R s h=>by obtain ⟨hp,g,d,tk,os⟩:=s;obtain ⟨hl,h⟩:=h;wp_walk;exact ⟨_,rfl,h⟩
theorem Qji:fillsNumberSlot (.type "tuple") "mul" = pure false :=
 PySem.fillsNumberSlot_seq (id := "tuple.__mul__") (r:=some (.builtin "tuple.__rmul__")) F.slot_tuple_mul.lookup (by decide +kernel) F.slot_tuple_rmul.lookup (by decide +kernel)
theorem Qoo:seqRepeat? (.type "tuple")=pure (some (.builtin "tuple.__mul__")):=by
 unfold seqRepeat?
 rw [PySem.seqSlot_of (T := "tuple") (name := "__mul__") (id := "tuple.__mul__") F.slot_tuple_mul.lookup (by decide +kernel),PySem.seqSlot_of (T := "tuple") (name := "__rmul__") (id := "tuple.__rmul__") F.slot_tuple_rmul.lookup (by decide +kernel)]
 rfl
section
variable {X:Cx}
def Qgx (K:Frg):V→List V→Hp→VK→Prop:=fun x vs H Q=>∃ l b xs zs,x=.ref l∧vs=[.ref b]∧H l=some (.lst xs)∧SqT K H b zs∧xs.length+zs.length≤sizeLine∧Q .non (upd H l (.lst (xs++zs)))
theorem Qss:MtM X "list.extend" (Qgx X.K):=by
 intro pins s σ H x vs v us Q I rx rv h
 obtain ⟨l,b,xs,zs,rfl,rfl,hH,hB,hz,q⟩:=h
 cases rx
 obtain ⟨u,rfl,ru⟩:=rv.one
 cases ru
 obtain ⟨z,its,n,r,hl,e⟩:=I.lstM hH
 obtain ⟨its2,r2,⟨⟨cls,dd,data,sl⟩,e2,hc,n2,hd⟩,_⟩:=I.tuple hB
 simp only at hc hd
 subst hc hd
 have hl2:=r2.length
 have hsz:its.toArray.size+its2.toArray.size≤sizeLine:=by rw [List.size_toArray,List.size_toArray];omega
 have hlong:¬ (!its.toArray.isEmpty&&Builtin.List.listTooLong (its.toArray.size+its2.toArray.size))=true:=by
  rw [Qkz hsz,Bool.and_false]
  exact Bool.false_ne_true
 refine call_meets F.slot_list_extend ⟨_,e,rfl⟩ F.entry_list_extend (F.args_list_extend_2 _ _)
  (Qon l its.toArray n b its2.toArray n2 dd sl hlong (by rw [List.size_toArray];omega) (by omega)) ⟨e,e2,?_⟩
 refine ⟨.non,_,I.lset (its':=its++its2) hH e (by simp) (r.append r2) ?_,rfl,q⟩
 rw [List.length_append]
 omega
def Q5s (K:Frg):R2:=fun x y H Q=>∃ a b xs ys,x=.ref a∧y=.ref b∧H a=some (.tup xs)∧H b=some (.tup ys)∧xs.length+ys.length≤sizeLine∧∀ p H',Same H H'→H' p=some (.tup (xs++ys))→(p=a∨p=b∨H p=none)→Q (.ref p) H'
theorem Q21:OpR X (binaryOp .Add) (Q5s X.K):=by
 intro pins s σ H x y v u Q I rx ry h
 obtain ⟨a,b,xs,ys,rfl,rfl,ha,hb,hz,q⟩:=h
 by_cases hx:xs=[]
 ·cases rx
  cases ry
  subst hx
  obtain ⟨its,r1,⟨⟨cls,dd,data,sl⟩,e1,hc,n,hd⟩,_⟩:=I.tuple (SqT.of ha)
  obtain ⟨its2,r2,⟨⟨cls2,dd2,data2,sl2⟩,e2,hc2,n2,hd2⟩,_⟩:=I.tuple (SqT.of hb)
  simp only at hc hd hc2 hd2
  subst hc hd hc2 hd2
  cases r1
  exact concat_meets ⟨_,e1,rfl⟩ ⟨_,e2,rfl⟩ noFill_tuple_add seq_tuple_add PySem.F.slot_tuple_add PySem.F.entry_tuple_add (PySem.F.args_tuple_add_2 _ _)
   (tuple_addW0 a b _ _ n n2 dd dd2 sl sl2 rfl) ⟨e1,e2,⟨.ref b,H,I,rfl,q b H (Same.refl H) hb (.inr (.inl rfl))⟩⟩
 ·refine Q2q pins s σ H _ _ v u Q I rx ry ⟨a,b,xs,ys,rfl,rfl,SqT.of ha,SqT.of hb,hx,hz,fun e=>q a H (Same.refl H) (by rw [ha,e,List.append_nil]) (.inl rfl),fun _ p hp=>q p _ (Same.upd hp) Qr (.inr (.inr hp))⟩
def rSlS (K:Frg):V→Option Int→Option Int→Hp→VK→Prop:=fun x lo hi H Q=>∃ a xs,x=.ref a∧H a=some (.tup xs)∧∀ p H',Same H H'→H' p=some (.tup (Qgt xs lo hi))→(p=a∨H p=none)→Q (.ref p) H'
theorem Q22:SlR X (rSlS X.K):=by
 intro pins s σ H x v vl vu lo hi sl Q I rx hs pl pu h
 obtain ⟨a,xs,rfl,hx,q⟩:=h
 by_cases hw:HT.sIx xs.length 0 lo=0∧HT.sIx xs.length xs.length hi=xs.length
 ·cases rx
  obtain ⟨its,r,ht,hz⟩:=I.tuple (SqT.of (K:=X.K) hx)
  have hlen:its.toArray.size=xs.length:=by rw [List.size_toArray];exact r.length.symm
  refine ⟨"tuple",_,PyProof.Rows.slot_tuple_getitem.lookup,ht.typeIs,?_⟩
  have hcut:Qgt xs lo hi=xs:=by
   unfold Qgt
   rw [hw.1,hw.2,List.drop_zero,Nat.sub_zero,List.take_length]
  obtain ⟨os,hos,hcs,hds⟩:=id hs
  have hTs:s.TypeIs (.ref sl) "slice" := ⟨os,hos,hcs⟩
  unfold getItem
  try with_reducible refine wpAny_holding ?_
  first | refine wpAny_bind (wpAny_pure ?_) | skip
  refine wpAny_bind (wpAny_sequenceKey ht.typeIs (by decide) ?_)
  refine wpAny_bind (wpAny_callSpecial?_slot (name:=Str.ofString "__getitem__") ht.typeIs PyProof.Rows.slot_tuple_getitem
   (wpAny_call_entry PyProof.Rows.slot_tuple_getitem ht.typeIs entry_tuple_getitem ?_ (args_tuple_getitem _ _)))
  show wpAny _ _ (Builtin.Tuple.tupleItemsOf (.ref a) >>= _) _ _ s
  refine wpAny_bind (tupleItemsOf_ ht ?_)
  refine wpAny_bind (wpAny_typeOf hTs ?_)
  rw [if_pos (by decide)]
  refine wpAny_bind (HT.sliceApplied_gen hs pl pu ?_)
  rw [hlen,hw.1,hw.2]
  show wpAny _ _ (if ((((0:Nat):Int)==0&&(1:Int)==1&&(xs.length-0)==xs.length)=true) then _ else _) _ _ s
  rw [if_pos (by simp)]
  have fin:EP X pins σ Q (.ref a) s:=⟨.ref a,H,I,rfl,q a H (Same.refl H) (by rw [hcut];exact hx) (.inl rfl)⟩
  refine wpAny_bind (wpAny_bind (wpAny_typeOf ht.typeIs (wpAny_pure ?_)))
  rw [if_pos (by decide)]
  exact wpAny_bind (wpAny_rule (wpAny_pure ⟨_,rfl,wpAny_pure fin⟩))
 ·exact Q8d pins s σ H _ v vl vu lo hi sl Q I rx hs pl pu ⟨a,xs,rfl,SqT.of hx,hw,fun p hp=>q p _ (Same.upd hp) Qr (.inr hp)⟩
end
open PySem.AutoSeq1 (wpAny_loadPart')
section
variable {X:Cx}
def Q5t:R2:=fun x y H Q=>∃ a k xs,x=.ref a∧y=.int k∧H a=some (.tup xs)∧xs≠[]∧1≤k∧k<2^31∧xs.length*k.toNat≤sizeLine∧∀ p H',Same H H'→H' p=some (.tup (List.replicate k.toNat xs).flatten)→(p=a∨H p=none)→Q (.ref p) H'
theorem Q23:OpR X (binaryOp .Mult) Q5t:=by
 intro pins s σ H x y v u Q I rx ry h
 obtain ⟨a,k,xs,rfl,rfl,hH,hne,h1,h2,hz,q⟩:=h
 cases rx
 obtain ⟨t,rfl⟩:=ry
 obtain ⟨its,r,⟨⟨cls,dd,data,sl⟩,e,hc,n,hd⟩,_⟩:=I.tuple (SqT.of (K:=X.K) hH)
 simp only at hc hd
 subst hc hd
 have hl:=r.length
 have hn0:its≠[]:=fun z=>hne (r.nil_iff.mp z)
 have hem:its.toArray.isEmpty=false:=by
  cases its with
  | nil=>exact absurd rfl hn0
  | cons _ _=>rfl
 have h0:¬ (decide (k < -(2^63))||decide (k≥2^63))=true:=by
  simp only [Bool.or_eq_true,decide_eq_true_eq]
  omega
 refine wpAny_binaryOp_repeat_ref (T := "tuple") (U := "int") (by decide) ⟨_,e,rfl⟩ (fun s'=>typeIs_int s' k t) Qji F.fills_int_mul F.slot_int_rmul Qoo F.slot_int_index.lookup
  (call_meets F.slot_int_rmul (typeIs_int s k t) F.entry_int_rmul (F.args_int_rmul_2 _ _) (Qk2 k t a its.toArray n dd sl) ⟨e,rfl,⟨_,e,rfl⟩,?_⟩)
 by_cases hk:k=1
 ·subst hk
  refine call_meets F.slot_tuple_mul ⟨_,e,rfl⟩ F.entry_tuple_mul (F.args_tuple_mul_2 _ _) (Qqk a its.toArray n 1 t dd sl h0 (by simp)) ⟨e,?_⟩
  exact ⟨.ref a,H,I,rfl,q a H (Same.refl H) (by rw [hH];simp) (.inl rfl)⟩
 ·have hlen:its.toArray.size*k.toNat≤sizeLine:=by rw [List.size_toArray,←hl];exact hz
  have hki:(its.toArray.size:Int)*k=((its.toArray.size*k.toNat:Nat):Int):=by
   rw [Int.natCast_mul,Int.toNat_of_nonneg (by omega)]
  have hs:sizeLine=16777216:=sizeLine_eq
  have hnew:List.foldl (fun x1 x2=>x1++x2) #[] (List.replicate k.toNat its.toArray)=(List.replicate k.toNat its).flatten.toArray:=by
   have:=Qje its k.toNat []
   rw [List.nil_append] at this
   exact this
  refine call_meets F.slot_tuple_mul ⟨_,e,rfl⟩ F.entry_tuple_mul (F.args_tuple_mul_2 _ _) (Qsr a its.toArray n k t dd sl h0 (by rw [hem];simpa using hk) (by rw [hem];simp;omega)
   (by rw [hki];omega) (by rw [hki];unfold Builtin.Tuple.tupleTooMany;rw [decide_eq_true_eq];omega) (by rw [hnew,List.size_toArray,Qkl,←hl,Nat.mul_comm];exact hz)) ⟨e,?_⟩
  rw [hnew]
  have I2:Inv X pins σ (upd H s.heap.objs.size (.tup (List.replicate k.toNat xs).flatten)) { s with heap:=s.heap.push { cls:=.type "tuple",data:=.seq (List.replicate k.toNat its).flatten.toArray },toks:=s.toks } :=
   I.laid (fun b o e=>Heap.get?_push_of_some _ e) (Nat.le_refl _) ⟨by rw [Qkl,Nat.mul_comm];exact hz,_,r.rep k.toNat,IsTupD.new _ _⟩
  exact ⟨.ref _,_,I2,rfl,q _ _ (Same.upd I.fresh) Qr (.inr I.fresh)⟩
end
section
variable {X:Cx}
theorem Qwc (h0:0<j)(h:j<2^64):j.natAbs.log2<9000:=by
 have h1:j.natAbs≠0:=by omega
 have h2:j.natAbs.log2<64:=(Nat.log2_lt h1).mpr (by omega)
 omega
def CDv (i j:Int):Prop:=0<j∧j<2^64
theorem Qxx:CallR X (.builtin "divmod") (fun xs H Q=>∃ i j,xs=[.int i,.int j]∧CDv i j∧∀ p,H p=none→Q (.ref p) (upd H p (.tup [.int (i / j),.int (i%j)]))):=by
 intro pins s σ H xs us Q I r h
 obtain ⟨i,j,rfl,⟨h1,h2⟩,q⟩:=h
 obtain ⟨u,w',rfl,⟨t,rfl⟩,⟨t',rfl⟩⟩:=Quc r
 refine divmod_int (by omega) ?_ (.inl (PyProof.noPylong_of_log2 (Qwc h1 h2)))
 rw [Int.fdiv_eq_ediv_of_nonneg i (by omega),Int.fmod_eq_emod_of_nonneg i (by omega)]
 have hn:H s.heap.objs.size=none:=I.hok.fresh (Nat.le_refl _)
 refine ⟨.ref s.heap.objs.size,_,?_,rfl,q _ hn⟩
 refine I.laid (fun b o e=>Heap.get?_push_of_some _ e) (Nat.le_refl _) ⟨by simp only [List.length_cons,List.length_nil];rw [sizeLine_eq];decide,[.int (i / j) s.toks,.int (i%j) (s.toks+1)],.cons ⟨_,rfl⟩ (.cons ⟨_,rfl⟩ .nil),?_⟩
 exact ⟨_,Heap.get?_push_size s.heap rfl,rfl,0,rfl,rfl⟩
def Qni (K:Frg):R2:=fun x y H Q=>(rI0 fun i j=>.int (i+j)) x y H Q∨rCat x y H Q∨Q5s K x y H Q
theorem uAdd:OpR X (binaryOp .Add) (Qni X.K):=Q72.or (Q8i.or Q21)
def Q5u:R2:=fun x y H Q=>(rI CMul fun i j=>.int (i*j)) x y H Q∨rRep x y H Q∨Q5t x y H Q
theorem uMul:OpR X (binaryOp .Mult) Q5u:=Q74.or (Q8j.or Q23)
abbrev Qst (K:Frg) (tl:TE):TI:=fun σ H R=>tl σ H fun x H1=>∃ a,x=.ref a∧(((∃ xs,SqL K H1 a xs)∧R (Itl K a) H1)∨((∃ xs,SqT K H1 a xs)∧R (Itt K a) H1))
theorem Q8s {l:Expr}{tl:TE}(hl:PE X l tl):PI X tg l (Qst X.K tl):=by
 intro pins s σ H R I h
 refine thn (hl pins s σ H _ I h) fun v s1 ⟨x,H1,I1,r1,q1⟩=>?_
 obtain ⟨a,e,q⟩:=q1
 subst e
 cases r1
 rcases q with ⟨⟨xs,hq⟩,q⟩ | ⟨⟨xs,hq⟩,q⟩
 ·obtain ⟨its,rv,p,hz⟩:=I1.list hq
  refine wpAny_pyIter_list p.isList ?_
  refine ⟨s1.heap.objs.size,[s1.heap.objs.size],_,_,H1,rfl,I1.kept (t':=s1.toks) fun b o e=>Heap.get?_push_of_some _ e,Qvx a _,⟨_,Heap.get?_push_size _ rfl,rfl,rfl⟩,fun b hb=>?_,q⟩
  have e:b=s1.heap.objs.size:=by simpa using hb
  subst e
  exact I1.fpOk (Nat.le_refl _) (I1.hok.fresh (Nat.le_refl _))
 ·obtain ⟨its,rv,p,hz⟩:=I1.tuple hq
  refine wpAny_pyIter_tuple (show s1.heap.IsTuple a its.toArray from p) ?_
  refine ⟨s1.heap.objs.size,[s1.heap.objs.size],_,_,H1,rfl,I1.kept (t':=s1.toks) fun b o e=>Heap.get?_push_of_some _ e,Qsl a _,⟨_,Heap.get?_push_size _ rfl,rfl,rfl⟩,fun b hb=>?_,q⟩
  have e:b=s1.heap.objs.size:=by simpa using hb
  subst e
  exact I1.fpOk (Nat.le_refl _) (I1.hok.fresh (Nat.le_refl _))
def Qxy (K:Frg):V→Option Int→Option Int→Hp→VK→Prop:=fun x lo hi H Q=>rSlL K x lo hi H Q∨rSlS K x lo hi H Q
theorem uSl:SlR X (Qxy X.K):=Q2r.or Q22
end
structure Dfn (K:Frg) (mg:Str→Option Value) (x:Str) (st:Stmt):Prop where
 ex:∃ f fd,Fun K x x st f fd∧mg x=some (.ref f)
def Has (P:Program) (w:World) (K:Frg) (mg:Str→Option Value) (base:Heap) (x:Str) (ps:List Str) (k:Nat) (sp:Sp):Prop :=
 ∃ f fd,PySem.W.keepIn K (.ref f)=true∧mg x=some (.ref f)∧Binds K fd ps []∧FnOk P w K mg base CX0 k f fd ps sp
def Qam (x:Str) (st:Stmt) (ps:List Str):Prop:=∀ (kV doc pm:Value) (an:Option Addr) (cdv ct:Value) (us:List Value),us.length=ps.length→bindArgs (PySem.W.fnOf x x (Qe2 st) (Qbk st) (Qi st) .none kV doc pm an cdv ct) ⟨us,[]⟩=pure (ps.zip us)
section
variable {P:Program} {w:World} {K:Frg} {mg:Str→Option Value} {base:Heap}
theorem Q8t {x:Str}(d:Dfn K mg x st)(S:FnScope N ps (Qi st))(bd:Qam x st ps)(len:∀ vs H Q E,sp vs H Q E→vs.length=ps.length)
  (hbody:∀ (f:Addr) (cdv:Value) (A:Around) (outer:List Env) (s:Shared) (H:Hp) (vs:List V) (Q:VK) (E:XK),Room k (A.deeper (envOfC x (Qi st) s.heap.objs.size f cdv))→sp vs H Q E →
   ∃ t,PSs (Qhm (fun _=>true) CX0 P w K mg base N x (Qi st) f cdv A outer s H E).nox (Qbk st) t∧t { nx:=fun _ H'=>Q .non H',rt:=Q } (Qb6 N vs) H):Has P w K mg base x ps (k+1) sp:=by
 obtain ⟨f,fd,F,m⟩:=d.ex
 exact ⟨f,fd,F.kp,m,F.binds bd,F.ok S len fun cdv A outer s H vs Q E hr hs=>hbody f cdv A outer s H vs Q E hr hs⟩
end
theorem Qxz {x:Str}{e:Expr}{t:TA}{p:Pos}(h:Has X.prog X.w X.K X.mg X.base x ps k sp)(hr:Room k X.A)(ha:PA X (e::es) t)(hg:Gl X x:=by rfl)
  (hdb:(x==("__debug__" : Str))=false:=by decide) (he:starEach (e::es) X.env=(false,eval e X.env)::starEach es X.env:=by rfl) (hpl:(backTo pos (starEach es X.env)).any (·.1)=false:=by rfl) :
  PE X (.Call (.Name x p) (e::es) [] pos) (Qud sp [] E0 t):=by
 obtain ⟨f,fd,kp,m,b,F⟩:=h
 exact Q2n F hr hg m kp b .nil Qabu ha hdb he hpl
inductive T where
 | non | bl (b:Bool) | int (i:Int) | str (x:Str) | tup (ts:List T) | lst (ts:List T) | dct (ks:List Key) (ts:List T) | dtt (ks:List (List Int)) (ts:List T) | clo (k:Nat) (ts:List T)
variable {uF:T}
def kIs (ks:List Int):List Key:=ks.map Sum.inl
def CellsAt (H:Hp):List Addr→List V→Prop
 | [],vs=>vs=[]
 | c::cs,vs=>∃ v r oc u w,vs=v::r∧H c=some (.frz oc w)∧oc.data=.cell (some u)∧RelV v u∧CellsAt H cs r
def CloAt (H:Hp) (f:Addr) (l:LamT) (us:List V):Prop:=∃ cs c' pm ctv,cs.Nodup∧cs.length=l.caps.length∧H f=some (.frz (PySem.W.kla_obj "<lambda>" l.qual l.params l.body l.scope (l.caps.zip cs) pm c' ctv) (.own f))∧H c'=some (.cod l.qual)∧CellsAt H cs us
theorem CellsAt.mono (h:Same H H'):∀ {cs:List Addr} {vs:List V},CellsAt H cs vs→CellsAt H' cs vs
 | [],_,r=>r
 | c::cs,_,r=>by
  obtain ⟨v,w,oc,u,w',e,a,b,d,q⟩:=r
  exact ⟨v,w,oc,u,w',e,h _ _ a,b,d,CellsAt.mono h q⟩
theorem CloAt.mono (h:Same H H'){f:Addr}{l:LamT}{us:List V}(r:CloAt H f l us):CloAt H' f l us:=by
 obtain ⟨cs,c',pm,ctv,a,b,c,d,e⟩:=r
 exact ⟨cs,c',pm,ctv,a,b,h _ _ c,h _ _ d,e.mono h⟩
mutual
def Is (H:Hp):V→T→Prop
 | v,.non=>v=.non
 | v,.bl b=>v=.bl b
 | v,.int i=>v=.int i
 | v,.str x=>v=.str x
 | v,.tup ts=>ts.length≤100000∧∃ a vs,v=.ref a∧H a=some (.tup vs)∧IsL H vs ts
 | v,.lst ts=>ts.length≤100000∧∃ a vs,v=.ref a∧H a=some (.lst vs)∧IsL H vs ts
 | v,.dct ks ts=>∃ a vs,v=.ref a∧H a=some (.dK (ks.zip vs))∧ks.length=vs.length∧IsL H vs ts
 | v,.dtt ks ts=>ks.length≤100000∧∃ a vs,v=.ref a∧H a=some (.dT ((ks.map kIs).zip vs))∧ks.length=vs.length∧IsL H vs ts
 | v,.clo k ts=>∃ f us l,v=.ref f∧Qxp.lookup k=some l∧CloAt H f l us∧IsL H us ts
def IsL (H:Hp):List V→List T→Prop
 | vs,[]=>vs=[]
 | vs,t::ts=>∃ v r,vs=v::r∧Is H v t∧IsL H r ts
end
mutual
theorem Is.mono (h:Same H H'):∀ {v:V} {t:T},Is H v t→Is H' v t
 | v,.non,r=>by unfold Is at r ⊢;exact r
 | v,.bl b,r=>by unfold Is at r ⊢;exact r
 | v,.int i,r=>by unfold Is at r ⊢;exact r
 | v,.str x,r=>by unfold Is at r ⊢;exact r
 | v,.tup ts,r=>by
  unfold Is at r ⊢
  obtain ⟨z,a,vs,e,ha,q⟩:=r
  exact ⟨z,a,vs,e,h _ _ ha,IsL.mono h q⟩
 | v,.lst ts,r=>by
  unfold Is at r ⊢
  obtain ⟨z,a,vs,e,ha,q⟩:=r
  exact ⟨z,a,vs,e,h _ _ ha,IsL.mono h q⟩
 | v,.dct ks ts,r=>by
  unfold Is at r ⊢
  obtain ⟨a,vs,e,ha,l,q⟩:=r
  exact ⟨a,vs,e,h _ _ ha,l,IsL.mono h q⟩
 | v,.dtt ks ts,r=>by
  unfold Is at r ⊢
  obtain ⟨z,a,vs,e,ha,l,q⟩:=r
  exact ⟨z,a,vs,e,h _ _ ha,l,IsL.mono h q⟩
 | v,.clo l ts,r=>by
  unfold Is at r ⊢
  obtain ⟨f,us,l,e,k,c,q⟩:=r
  exact ⟨f,us,l,e,k,c.mono h,IsL.mono h q⟩
theorem IsL.mono (h:Same H H'):∀ {vs:List V} {ts:List T},IsL H vs ts→IsL H' vs ts
 | vs,[],r=>by unfold IsL at r ⊢;exact r
 | vs,t::ts,r=>by
  unfold IsL at r ⊢
  obtain ⟨v,w,e,a,b⟩:=r
  exact ⟨v,w,e,Is.mono h a,IsL.mono h b⟩
end
theorem IsL.nil:IsL H [] []:=by unfold IsL;rfl
theorem IsL.cons {v:V}{t:T}{vs:List V}{ts:List T}(a:Is H v t)(b:IsL H vs ts):IsL H (v::vs) (t::ts):=by unfold IsL;exact ⟨v,vs,rfl,a,b⟩
theorem IsL.cons_inv {vs:List V}{t:T}{ts:List T}(r:IsL H vs (t::ts)):∃ v w,vs=v::w∧Is H v t∧IsL H w ts:=by unfold IsL at r;exact r
theorem IsL.nil_inv {vs:List V}(r:IsL H vs []):vs=[]:=by unfold IsL at r;exact r
theorem IsL.length:∀ {ts:List T} {vs:List V},IsL H vs ts→vs.length=ts.length
 | [],vs,r=>by rw [r.nil_inv];rfl
 | t::ts,vs,r=>by
  obtain ⟨v,w,rfl,_,q⟩:=r.cons_inv
  rw [List.length_cons,List.length_cons,q.length]
theorem IsL.get:∀ {ts:List T} {vs:List V} {i:Nat} {v:V},IsL H vs ts→vs[i]?=some v→∃ t,ts[i]?=some t∧Is H v t
 | [],vs,i,v,r,e=>by rw [r.nil_inv] at e;simp at e
 | t::ts,vs,0,v,r,e=>by
  obtain ⟨x,w,rfl,a,q⟩:=r.cons_inv
  rw [List.getElem?_cons_zero] at e ⊢
  cases e
  exact ⟨t,rfl,a⟩
 | t::ts,vs,i+1,v,r,e=>by
  obtain ⟨x,w,rfl,a,q⟩:=r.cons_inv
  rw [List.getElem?_cons_succ] at e ⊢
  exact IsL.get q e
theorem IsL.getT:∀ {ts:List T} {vs:List V} {i:Nat} {t:T},IsL H vs ts→ts[i]?=some t→∃ v,vs[i]?=some v∧Is H v t
 | [],vs,i,v,r,e=>by simp at e
 | t::ts,vs,0,v,r,e=>by
  obtain ⟨x,w,rfl,a,q⟩:=r.cons_inv
  rw [List.getElem?_cons_zero] at e ⊢
  cases e
  exact ⟨x,rfl,a⟩
 | t::ts,vs,i+1,v,r,e=>by
  obtain ⟨x,w,rfl,a,q⟩:=r.cons_inv
  rw [List.getElem?_cons_succ] at e ⊢
  exact IsL.getT q e
theorem IsL.append:∀ {ts us:List T} {vs ws:List V},IsL H vs ts→IsL H ws us→IsL H (vs++ws) (ts++us)
 | [],us,vs,ws,r,q=>by rw [r.nil_inv];exact q
 | t::ts,us,vs,ws,r,q=>by
  obtain ⟨x,w,rfl,a,r⟩:=r.cons_inv
  exact .cons a (r.append q)
theorem IsL.take:∀ {ts:List T} {vs:List V} (n:Nat),IsL H vs ts→IsL H (vs.take n) (ts.take n)
 | _,_,0,_=>by rw [List.take_zero,List.take_zero];exact .nil
 | [],vs,n+1,r=>by rw [r.nil_inv];exact .nil
 | t::ts,vs,n+1,r=>by
  obtain ⟨x,w,rfl,a,r⟩:=r.cons_inv
  exact .cons a (r.take n)
theorem IsL.drop:∀ {ts:List T} {vs:List V} (n:Nat),IsL H vs ts→IsL H (vs.drop n) (ts.drop n)
 | _,_,0,r=>r
 | [],vs,n+1,r=>by rw [r.nil_inv];exact .nil
 | t::ts,vs,n+1,r=>by
  obtain ⟨x,w,rfl,a,r⟩:=r.cons_inv
  exact r.drop n
theorem IsL.flat:∀ (k:Nat) {ts:List T} {vs:List V},IsL H vs ts→IsL H (List.replicate k vs).flatten (List.replicate k ts).flatten
 | 0,ts,vs,r=>by simpa using IsL.nil
 | k+1,ts,vs,r=>by
  rw [List.replicate_succ,List.replicate_succ,List.flatten_cons,List.flatten_cons]
  exact r.append (IsL.flat k r)
theorem IsL.one {v:V}{t:T}(a:Is H v t):IsL H [v] [t]:=.cons a .nil
theorem Is.int {i:Int}:Is H (.int i) (.int i):=by unfold Is;rfl
theorem Is.bl {b:Bool}:Is H (.bl b) (.bl b):=by unfold Is;rfl
theorem Is.non:Is H .non .non:=by unfold Is;rfl
theorem Is.tup {a:Addr}{vs:List V}{ts:List T}(h:H a=some (.tup vs))(r:IsL H vs ts)(z:ts.length≤100000):Is H (.ref a) (.tup ts):=by unfold Is;exact ⟨z,a,vs,rfl,h,r⟩
theorem Is.lst {a:Addr}{vs:List V}{ts:List T}(h:H a=some (.lst vs))(r:IsL H vs ts)(z:ts.length≤100000):Is H (.ref a) (.lst ts):=by unfold Is;exact ⟨z,a,vs,rfl,h,r⟩
theorem Is.int_inv {v:V}{i:Int}(r:Is H v (.int i)):v=.int i:=by unfold Is at r;exact r
theorem Is.tup_inv {v:V}{ts:List T}(r:Is H v (.tup ts)):∃ a vs,v=.ref a∧H a=some (.tup vs)∧IsL H vs ts:=by unfold Is at r;exact r.2
theorem Is.tup_len {v:V}{ts:List T}(r:Is H v (.tup ts)):ts.length≤100000:=by unfold Is at r;exact r.1
theorem Is.lst_len {v:V}{ts:List T}(r:Is H v (.lst ts)):ts.length≤100000:=by unfold Is at r;exact r.1
theorem Is.lst_inv {v:V}{ts:List T}(r:Is H v (.lst ts)):∃ a vs,v=.ref a∧H a=some (.lst vs)∧IsL H vs ts:=by unfold Is at r;exact r.2
theorem IsL.ints:∀ (ns:List Int),IsL H (ns.map V.int) (ns.map T.int)
 | []=>.nil
 | n::ns=>.cons Is.int (IsL.ints ns)
theorem IsL.ints_inv:∀ {ns:List Int} {vs:List V},IsL H vs (ns.map T.int)→vs=ns.map V.int
 | [],vs,r=>r.nil_inv
 | n::ns,vs,r=>by
  obtain ⟨x,w,rfl,a,r⟩:=r.cons_inv
  rw [a.int_inv,r.ints_inv]
  rfl
theorem Qbq (h:n≤100000):n≤sizeLine:=by rw [sizeLine_eq];omega
def tyT:T→String
 | .non => "NoneType" | .bl _ => "bool" | .int _ => "int" | .str _ => "str" | .tup _ => "tuple" | .lst _ => "list" | .dct _ _ => "dict" | .dtt _ _ => "dict" | .clo _ _ => "function"
def Qhs:T→Bool
 | .clo _ _=>true
 | _=>false
theorem Is.tyOf {v:V}{t:T}(r:Is H v t)(hc:Qhs t=false):TyOf K H v (.type (tyT t)):=by
 cases t with
 | non=>unfold Is at r;subst r;exact .non
 | bl b=>unfold Is at r;subst r;exact .bl b
 | int i=>unfold Is at r;subst r;exact .int i
 | str x=>unfold Is at r;subst r;exact .str x
 | tup ts=>obtain ⟨a,vs,rfl,h,_⟩:=r.tup_inv;exact .tup h
 | lst ts=>obtain ⟨a,vs,rfl,h,_⟩:=r.lst_inv;exact .lst h
 | dct ks ts=>unfold Is at r;obtain ⟨a,vs,rfl,h,_⟩:=r;exact .dK h
 | dtt ks ts=>unfold Is at r;obtain ⟨_,a,vs,rfl,h,_⟩:=r;exact .dT h
 | clo l ts=>cases hc
def Qk3 (a c:String):Bool:=a==c||(a == "bool" && c == "int")
theorem Q24 (K:Frg):∀ a∈["NoneType","bool","int","str","tuple","list","dict"],∀ c∈["int","bool","tuple","list","dict","str"],PySem.W.kitOne K (.type a) (.type c)=some (Qk3 a c):=by
 intro a ha c hc
 simp only [List.mem_cons,List.not_mem_nil,or_false] at ha hc
 rcases ha with rfl | rfl | rfl | rfl | rfl | rfl | rfl <;> rcases hc with rfl | rfl | rfl | rfl | rfl | rfl <;> rfl
theorem Qwd:CallR X (.builtin "isinstance") (fun xs H Q=>∃ x c t,xs=[x,.ty c]∧Is H x t∧Qhs t=false∧c∈["int","bool","tuple","list","dict","str"]∧Q (.bl (Qk3 (tyT t) c)) H):=by
 intro pins s σ H xs us Q I r h
 obtain ⟨x,c,t,e,ty,nc,hc,q⟩:=h
 refine Qqi pins s σ H xs us Q I r ⟨x,c,_,_,e,ty.tyOf nc,Q24 X.K (tyT t) ?_ c hc,q⟩
 cases t <;> first | (cases nc;done) | simp [tyT]
def Qu:Expr→Bool
 | .Starred _ _=>false
 | _=>true
theorem Qa3 {e:Expr}(h:Qu e=true):starEach (e::es) env=(false,eval e env)::starEach es env:=by
 cases e <;> first | rfl | exact absurd h Bool.false_ne_true
theorem paC {e:Expr}{t:TA}(ha:PE X e te)(hr:PA X es t)(hs:Qu e=true:=by rfl):PA X (e::es) (Qb5 te t):=Q2m ha hr (Qa3 hs)
section
variable {X:Cx} {e a b:Expr} {es:List Expr} {t:T} {ts:List T} {pos:Pos}
theorem PE.weak {te':TE}(h:PE X e te)(q:∀ σ H Q,te' σ H Q→te σ H Q):PE X e te':=fun pins s σ H Q I hq=>h pins s σ H Q I (q _ _ _ hq)
theorem PA.weak {ta ta':TA}(h:PA X es ta)(q:∀ σ H Q,ta' σ H Q→ta σ H Q):PA X es ta':=fun pos pins s σ H Q I hq=>h pos pins s σ H Q I (q _ _ _ hq)
end
structure Wk (J:It) (xs:List V) (P:Hp→Prop):Prop where
 go:∀ i H,i<xs.length→P H→J.go i H
 yld:∀ i H x H',i<xs.length→P H→J.yld i H x H'→H'=H∧xs[i]?=some x
 stop:∀ i H,xs.length≤i→P H→J.stop i H
 mono:∀ H H',Same H H'→P H→P H'
def Qmn (lo:Int) (n:Nat):List V:=(List.range n).map fun i=>V.int (lo+(i:Nat))
theorem Qk4 (lo:Int)(n:Nat):(Qmn lo n).length=n:=by unfold Qmn;rw [List.length_map,List.length_range]
theorem Qx0 {lo:Int}{i:Nat}{v:V}(h:(Qmn lo n)[i]?=some v):i<n∧v=.int (lo+i):=by
 have hi:i<n:=by
  have:=(List.getElem?_eq_some_iff.mp h).1
  rwa [Qk4] at this
 unfold Qmn at h
 rw [List.getElem?_map,List.getElem?_range hi] at h
 exact ⟨hi,(Option.some.inj h).symm⟩
section
variable {X:Cx}
def Q8u (K:Frg):List V→Hp→VK→Prop:=fun xs H Q=>∃ p ys,xs=[.ref p]∧(SqL K H p ys∨SqT K H p ys)∧Q (.int ys.length) H
theorem kLen (K:Frg)(hK:X.K=K):CallR X (.builtin "len") (Q8u K):=by subst hK;exact Qok
def Q8v (K:Frg):List V→Hp→VK→Prop:=fun xs H Q=>∃ p ys,xs=[.ref p]∧SqL K H p ys∧ys.all Qk1=true∧Q (.bl (ys.all Qkb)) H
theorem kAll (K:Frg)(hK:X.K=K)(hc:X.calm=true):CallR X (.builtin "all") (Q8v K):=by subst hK;exact Qxv hc
def Q8w (K:Frg):List V→Hp→VK→Prop:=fun xs H Q=>∃ p ys,xs=[.ref p]∧SqL K H p ys∧ys.all Qk1=true∧Q (.bl (ys.any Qkb)) H
theorem kAny (K:Frg)(hK:X.K=K)(hc:X.calm=true):CallR X (.builtin "any") (Q8w K):=by subst hK;exact Qxw hc
def Qx1 (K:Frg):List V→Hp→VK→Prop:=fun xs H Q=>∃ (p:Addr) (ns:List Int),xs=[.ref p]∧SqL K H p (ns.map V.int)∧ns≠[]∧∀ M,M∈ns→(∀ a∈ns,a≤M)→Q (.int M) H
theorem Qab1 (K:Frg)(hK:X.K=K)(hc:X.calm=true):CallR X (.builtin "max") (Qx1 K):=by subst hK;exact Qwa hc
def Qx2 (K:Frg):List V→Hp→VK→Prop:=fun xs H Q=>∃ (p:Addr) (ns:List Int),xs=[.ref p]∧SqL K H p (ns.map V.int)∧ns≠[]∧∀ M,M∈ns→(∀ a∈ns,M≤a)→Q (.int M) H
theorem Qab2 (K:Frg)(hK:X.K=K)(hc:X.calm=true):CallR X (.builtin "min") (Qx2 K):=by subst hK;exact Qwb hc
def Qop (K:Frg):List V→Hp→VK→Prop:=fun xs H Q=>∃ p ys,xs=[.ref p]∧(SqL K H p ys∨SqT K H p ys)∧∀ l,H l=none→Q (.ref l) (upd H l (.lst ys))
theorem Q25 (K:Frg)(hK:X.K=K):CallR X (.type "list") (Qop K):=by subst hK;exact Qol
def Qsu (K:Frg):List V→Hp→VK→Prop:=fun xs H Q=>∃ p ys,xs=[.ref p]∧((SqL K H p ys∧∀ l,H l=none→Q (.ref l) (upd H l (.tup ys)))∨(SqT K H p ys∧Q (.ref p) H))
theorem Q8x (K:Frg)(hK:X.K=K):CallR X (.type "tuple") (Qsu K):=by subst hK;exact Qmm
def Q5v:List V→Hp→VK→Prop:=fun xs H Q=>∃ x c t,xs=[x,.ty c]∧Is H x t∧Qhs t=false∧c∈["int","bool","tuple","list","dict","str"]∧Q (.bl (Qk3 (tyT t) c)) H
theorem Qab3:CallR X (.builtin "isinstance") Q5v:=Qwd
theorem kAdd (K:Frg)(hK:X.K=K):OpR X (binaryOp .Add) (Qni K):=by subst hK;exact uAdd
theorem kIx (K:Frg)(hK:X.K=K):IxR X (rIx K):=by subst hK;exact Q8g
theorem kSl (K:Frg)(hK:X.K=K):SlR X (Qxy K):=by subst hK;exact uSl
theorem kSeq (K:Frg)(hK:X.K=K){l:Expr}{tl:TE}(hl:PE X l tl):PI X tg l (Qst K tl):=by subst hK;exact Q8s hl
theorem kTup (K:Frg)(hK:X.K=K){t:TGs}(hc:X.calm=true)(h:PGs X es t)
  (hn:(assignEach es X.env).length=n:=by rfl) (hst:(assignEach es X.env).findIdx? (·.1)=none:=by rfl):PG X (.Tuple es k pos) (Q2f K n t):=by subst hK;exact Q7t hc h hn hst
theorem Qx3 (K:Frg)(hK:X.K=K):MtM X "list.extend" (Qgx K):=by subst hK;exact Qss
theorem kBm (K:Frg)(hK:X.K=K){T:String}{o e:Expr}{to:TE}{t:TA}{name:Str}{apos cpos:Pos}{id:String}{r:V→List V→Hp→VK→Prop}(pa:PlainAttrs T)(slot:Slot T name id)(hty:typeOf (.builtin id)=pure (.type "method_descriptor"))(hm:MtR X id r)(ho:PE X o to)(ha:PA X (e::es) t)
  (hbase:attributeBase o name X.env (eval o X.env)=eval o X.env:=by rfl)
  (hfew:((backTo cpos (starEach (e::es) X.env)).all (fun x=>!x.1)&&(backToKw cpos (keywordEach [] X.env)).all (fun x=>x.1.isSome)
   && decide ((e::es).length+([]:List Keyword).length+(if ([]:List Keyword).isEmpty then 0 else 1)<30))=true:=by rfl)
  (hline:(apos.endLine==cpos.line)=true:=by rfl) (hs:starEach (e::es) X.env=(false,eval e X.env)::starEach es X.env:=by rfl) (hplain:(backTo cpos (starEach es X.env)).any (·.1)=false:=by rfl) :
  PE X (.Call (.Attribute o name apos) (e::es) [] cpos) (tBM K T r to t):=by
 subst hK
 exact Qabr pa slot hty hm ho ha hbase hfew hline hs hplain
end
def Tups (H H':Hp):Prop:=∀ a xs,H a=some (.tup xs)→H' a=some (.tup xs)
def MkT (xs:List V) (H:Hp) (Q:VK):Prop:=xs.length≤sizeLine∧∀ p,H p=none→Q (.ref p) (upd H p (.tup xs))
def MkL (xs:List V) (H:Hp) (Q:VK):Prop:=xs.length≤sizeLine∧∀ p,H p=none→Q (.ref p) (upd H p (.lst xs))
abbrev Qab4 (t:TA):TE:=fun σ H Q=>t σ H fun xs H1=>MkT xs H1 Q
abbrev Q5w (t:TA):TE:=fun σ H Q=>t σ H fun xs H1=>MkL xs H1 Q
structure QE (X:Cx) (e:Expr) (t:TE):Prop where
 h:PE X e t
structure QT (X:Cx) (e:Expr) (t:TT):Prop where
 h:PT X e t
structure QW (X:Cx) (e:Expr) (t:TT):Prop where
 h:PW X e t
structure QA (X:Cx) (es:List Expr) (t:TA):Prop where
 h:PA X es t
structure QS (X:Cx) (st:Stmt) (t:TS):Prop where
 h:PS X st t
structure QB (X:Cx) (st:List Stmt) (t:TS):Prop where
 h:PSs X st t
structure QI (X:Cx) (tg it:Expr) (t:TI):Prop where
 h:PI X tg it t
structure QG (X:Cx) (tg:Expr) (t:TG):Prop where
 h:PG X tg t
structure QGs (X:Cx) (tg:List Expr) (t:TGs):Prop where
 h:PGs X tg t
structure QC (X:Cx) (ifs:List Expr) (t:TT):Prop where
 h:PTs X ifs t
structure QO (X:Cx) (e:Option Expr) (t:TO):Prop where
 h:PO X e t
structure QOp (X:Cx) (f:Value→Value→Sem Value) (r:R2):Prop where
 h:OpR X f r
structure QUn (X:Cx) (f:Value→Sem Value) (r:V→Hp→VK→Prop):Prop where
 h:UnR X f r
structure QCl (X:Cx) (f:Value) (r:List V→Hp→VK→Prop):Prop where
 h:CallR X f r
structure QIx (X:Cx) (r:R2):Prop where
 h:IxR X r
structure QSl (X:Cx) (r:V→Option Int→Option Int→Hp→VK→Prop):Prop where
 h:SlR X r
structure QMt (X:Cx) (id:String) (r:V→List V→Hp→VK→Prop):Prop where
 h:MtR X id r
section
variable {X:Cx} {e a b:Expr} {es rest:List Expr} {te ta tb:TE} {t:TA} {tt uu tA tB':TT} {pos p p2:Pos} {x:Str}
theorem Qc2 (i:Nat)(hN:X.N[i]?=some x:=by rfl)(hv:Vis X.env.scope x:=by first | exact Or.inl rfl | exact Or.inr (Or.inl rfl) | exact Or.inr (Or.inr rfl))(hd:(x==("__debug__" : Str))=false:=by decide)
  (hcd:(x==("__classdict__" : Str))=false:=by decide):QE X (.Name x pos) (Qcc i):=⟨pv i hN hv hd hcd⟩
theorem Qnj {i j}:QE X (.Constant (.int i) j pos) (tC (.int i)):=⟨Q7f⟩
theorem q_bl {b j}:QE X (.Constant (.bool b) j pos) (tC (.bl b)):=⟨Qaa6⟩
theorem Qab6 {j}:QE X (.Constant .none j pos) (tC .non):=⟨Q7g⟩
theorem Q8y {v:V}(h:∃ u,X.mg x=some u∧RelV v u)(hg:Gl X x:=by rfl)(hd:(x==("__debug__" : Str))=false:=by decide):QE X (.Name x pos) (tC v):=by
 obtain ⟨u,m,r⟩:=h
 exact ⟨Q17 hg m r hd⟩
theorem Qql (T:String)(hm:X.mg x=none)(hv:bootBuiltins x=some (.type T))(hg:Gl X x:=by rfl)(hn:x ≠ "__name__" := by decide)(hd:(x==("__debug__" : Str))=false:=by decide):QE X (.Name x pos) (tC (.ty T)):=⟨Q18 (v:=.ty T) hg hm hv rfl hn hd⟩
theorem q_op {op:Operator}{r:R2}(ho:QOp X (binaryOp op) r)(ha:QE X a ta)(hb:QE X b tb):QE X (.BinOp a op b pos) (tOp r ta tb):=⟨Qabe ho.h ha.h hb.h⟩
theorem q_un {op:UnaryOp}{r:V→Hp→VK→Prop}(ho:QUn X (unaryOp op) r)(ha:QE X a ta):QE X (.UnaryOp op a pos) (tUn r ta):=⟨Qabf ho.h ha.h⟩
theorem Qab8 (ha:QE X a ta):QE X (.UnaryOp .Not a pos) (Q5l ta):=⟨Q7o ha.h⟩
theorem Qab9 {op}(ha:QE X a ta):QE X (.BoolOp op [a] pos) ta:=⟨Q7m ha.h⟩
theorem Qaca (ha:QE X a ta)(hb:QE X (.BoolOp .And (b::rest) pos) tb):QE X (.BoolOp .And (a::b::rest) pos) (Q5k ta tb):=⟨Q7n ha.h hb.h⟩
theorem q_or (ha:QE X a ta)(hb:QE X (.BoolOp .Or (b::rest) pos) tb):QE X (.BoolOp .Or (a::b::rest) pos) (tOrV ta tb):=⟨Qabb ha.h hb.h⟩
theorem q_if (hc:QT X c tA)(ha:QE X a ta)(hb:QE X b tb):QE X (.IfExp c a b pos) (tIf tA ta tb):=⟨Qxa hc.h ha.h hb.h⟩
theorem Qacb {r:R2}(ho:QOp X (compareOp op) r)(ha:QE X a ta)(hb:QE X b tb)(hm:behindInMarks op b=false):QE X (.Compare a [op] [b] pos) (tOp r ta tb):=⟨Q2j ho.h ha.h hb.h hm⟩
theorem Qx4 {r:R2}(ho:QOp X (compareOp op) r)(ha:QE X a ta)(hb:QE X b tb)(hm:behindInMarks op b=false):QT X (.Compare a [op] [b] pos) (Q5n (tOp r ta tb)):=⟨Q2k ho.h ha.h hb.h hm⟩
theorem Q8z (ha:QE X e te)(he:∀ whole,isTrue e X.env whole=(do let v ← whole;standAt e.pos;holding [v] (truthy v)):=by intro _;rfl):QT X e (tB te):=⟨Q7i ha.h he⟩
theorem Q80 (ha:QT X a tA):QT X (.UnaryOp .Not a pos) (tNot tA):=⟨Q7l ha.h⟩
theorem q_wt (ha:QW X e tA):QT X e tA:=⟨ha.h.pt⟩
theorem Q26 (ha:QT X a tA):QW X (.BoolOp .And [a] pos) tA:=⟨Q19 ha.h⟩
theorem Q81 (ha:QT X a tA):QW X (.BoolOp .Or [a] pos) tA:=⟨Q7j ha.h⟩
theorem Q82 (ha:QT X a tA)(hb:QW X (.BoolOp .And (b::rest) pos) tB'):QW X (.BoolOp .And (a::b::rest) pos) (tAnd tA tB'):=⟨Q7k ha.h hb.h⟩
theorem Qacc (ha:QT X a tA)(hb:QW X (.BoolOp .Or (b::rest) pos) tB'):QW X (.BoolOp .Or (a::b::rest) pos) (tOr tA tB'):=⟨Qaa9 ha.h hb.h⟩
theorem Qbu:QA X [] Qfw:=⟨Q79⟩
theorem Qat (ha:QE X e te)(hr:QA X es t)(hs:Qu e=true:=by rfl):QA X (e::es) (Qb5 te t):=⟨paC ha.h hr.h hs⟩
theorem Qacd {x1}(h:QA X es t):QE X (.Tuple es x1 pos) (Qab4 t):=⟨Q8a h.h⟩
theorem Q5x (h:QA X es t):QE X (.List es pos) (Q5w t):=⟨Q8b h.h⟩
variable {ts:List T} {u:T}
theorem q_fn (h:Has X.prog X.w X.K X.mg X.base x ps k sp)(hr:Room k X.A)(ha:QA X (e::es) t)(hg:Gl X x:=by rfl)
  (hdb:(x==("__debug__" : Str))=false:=by decide) (he:Qu e=true:=by rfl) (hpl:(backTo pos (starEach es X.env)).any (·.1)=false:=by rfl):QE X (.Call (.Name x p) (e::es) [] pos) (Qud sp [] E0 t):=⟨Qxz h hr ha.h hg hdb (Qa3 he) hpl⟩
theorem Q83 {id:String}{r:List V→Hp→VK→Prop}(hc:QCl X (.builtin id) r)(hm:X.mg x=none)(hv:bootBuiltins x=some (.builtin id))(ha:QA X (e::es) t)(hg:Gl X x:=by rfl)(hn:x ≠ "__name__" := by decide)(hdb:(x==("__debug__" : Str))=false:=by decide)
  (he:Qu e=true:=by rfl) (hpl:(backTo pos (starEach es X.env)).any (·.1)=false:=by rfl):QE X (.Call (.Name x p) (e::es) [] pos) (tCB r t):=⟨Qxj hc.h hg hm hv ha.h hn hdb (Qa3 he) hpl⟩
theorem Qx5 {T:String}{r:List V→Hp→VK→Prop}(hc:QCl X (.type T) r)(hm:X.mg x=none)(hv:bootBuiltins x=some (.type T))(ha:QA X (e::es) t)(hg:Gl X x:=by rfl)(hn:x ≠ "__name__" := by decide)(hdb:(x==("__debug__" : Str))=false:=by decide)
  (he:Qu e=true:=by rfl) (hpl:(backTo pos (starEach es X.env)).any (·.1)=false:=by rfl):QE X (.Call (.Name x p) (e::es) [] pos) (tCB r t):=⟨Qv7 hc.h hg hm hv ha.h hn hdb (Qa3 he) hpl⟩
theorem Qkc (K:Frg)(hK:X.K=K){T:String}{o:Expr}{to:TE}{name:Str}{apos cpos:Pos}{id:String}{r:V→List V→Hp→VK→Prop}(pa:PlainAttrs T)(slot:Slot T name id)(hty:typeOf (.builtin id)=pure (.type "method_descriptor"))(hm:QMt X id r)(ho:QE X o to)(ha:QA X (e::es) t)
  (hbase:attributeBase o name X.env (eval o X.env)=eval o X.env:=by rfl)
  (hfew:((backTo cpos (starEach (e::es) X.env)).all (fun x=>!x.1)&&(backToKw cpos (keywordEach [] X.env)).all (fun x=>x.1.isSome)
   && decide ((e::es).length+([]:List Keyword).length+(if ([]:List Keyword).isEmpty then 0 else 1)<30))=true:=by rfl)
  (hline:(apos.endLine==cpos.line)=true:=by rfl) (hs:Qu e=true:=by rfl) (hplain:(backTo cpos (starEach es X.env)).any (·.1)=false:=by rfl) :
  QE X (.Call (.Attribute o name apos) (e::es) [] cpos) (tBM K T r to t):=⟨kBm K hK pa slot hty hm.h ho.h ha.h hbase hfew hline (Qa3 hs) hplain⟩
theorem Q27 {r:R2}(hr:QIx X r)(ha:QE X a ta)(hb:QE X b tb)(hs:Qkk b:=by exact fun _ _=>rfl):QE X (.Subscript a b pos) (tOp r ta tb):=⟨Qabn hr.h ha.h hb.h hs⟩
theorem q_sl {r:V→Option Int→Option Int→Hp→VK→Prop}{lo hi:Option Expr}{tl th:TO}(hr:QSl X r)(he:QE X e te)(hl:QO X lo tl)(hu:QO X hi th):QE X (.Subscript e (.Slice lo hi none p2) pos) (tSl r te tl th):=⟨Qxk hr.h he.h hl.h hu.h⟩
theorem q_no:QO X none Que:=⟨Q2o⟩
theorem Qsv (h:QE X e te):QO X (some e) (Quf te):=⟨Q2p h.h⟩
variable {tg:Expr}
theorem Qx6 (K:Frg)(hK:X.K=K)(hl:QE X e te):QI X tg e (Qst K te):=⟨kSeq K hK hl.h⟩
theorem Qsw (hm:X.mg "range" = none)(ha:QA X [a] t)(hg:Gl X "range" := by rfl)(hs:Qu a=true:=by rfl):QI X tg (.Call (.Name "range" p) [a] [] pos) (Qkx t):=⟨Qvy hg hm ha.h (Qa3 hs)⟩
theorem Q84 (hm:X.mg "range" = none)(ha:QA X [a,b] t)(hg:Gl X "range" := by rfl)(hs:Qu a=true:=by rfl)(hs2:Qu b=true:=by rfl):QI X tg (.Call (.Name "range" p) [a,b] [] pos) (Q5m t) :=
 ⟨Qvz hg hm ha.h (by rw [Qa3 hs,Qa3 hs2];rfl) (Qa3 hs2)⟩
theorem Q7 {i:Nat}(hN:X.N.Nodup)(hi:X.N[i]?=some x:=by rfl)(hx:Loc X.env.scope x:=by first | exact Or.inl rfl | exact Or.inr rfl)(hf:X.fn x=true∨X.env.scope.names.lookup x=some .local:=by first | exact .inl rfl | exact .inr rfl | exact .inl (by decide +kernel)):QG X (.Name x pos) (Qc0 i):=⟨Q2d hN hi hx hf⟩
theorem Qoq:QGs X [] Q7s:=⟨Q2e⟩
theorem Qe3 {t:TG}{u:TGs}(h1:QG X e t)(h2:QGs X es u)(hs:(assignEach (e::es) X.env).map (·.2)=assign e X.env::(assignEach es X.env).map (·.2):=by rfl):QGs X (e::es) (Qxc t u):=⟨Qxd h1.h h2.h hs⟩
theorem Qor (K:Frg)(hK:X.K=K){t:TGs}(hc:X.calm=true)(h:QGs X es t)(hn:(assignEach es X.env).length=n:=by rfl)(hst:(assignEach es X.env).findIdx? (·.1)=none:=by rfl):QG X (.Tuple es k pos) (Q2f K n t):=⟨kTup K hK hc h.h hn hst⟩
theorem Qsx {o i:Expr}{to ti:TE}(ho:QE X o to)(hi:QE X i ti)
  (ha:∀ v,assign (.Subscript o i pos) X.env v=(do
   let ov ← holding [v] (eval o X.env)
   let iv ← holding [v,ov] (eval i X.env)
   standAt pos
   holding [v,ov,iv] (setItem ov iv v)
   release [v,ov,iv] []):=by intro _;rfl):QG X (.Subscript o i pos) (Qqb to ti Qhr):=⟨Q7u ho.h hi.h Qxm ha⟩
theorem q_c0:QC X [] tYes:=⟨Q2z⟩
theorem q_c1 (h:QT X e tt):QC X [e] tt:=⟨Q20 h.h⟩
theorem Qx7 {elt:Expr}(N:List Str)(js:List (Option Nat)){wi:TI}{tc:TT}(hcalm:X.calm=true)
  (hi:QI X tg iter wi) (hg:∀ s H fp,QG (Q0 X scope N s H fp) tg g) (hc:∀ s H fp,QC (Q0 X scope N s H fp) ifs tc) (he:∀ s H fp,QE (Q0 X scope N s H fp) elt te)
  (hk:scope.kind=.function:=by rfl) (h1:scOk X scope=true:=by rfl) (h2:Qgw X scope N js=true:=by rfl)
  (hs:∀ x,foldedSetIterable iter X.env x=pure x:=by intro _;rfl):QE X (.ListComp elt [⟨tg,iter,ifs,0⟩] scope pos) (Qnh wi js g tc te):=⟨Qxu hcalm hi.h (fun s H fp=>(hg s H fp).h) (fun s H fp=>(hc s H fp).h) (fun s H fp=>(he s H fp).h) hk h1 h2 hs⟩
variable {st:Stmt} {sts:List Stmt} {t1 t2:TS}
theorem Qos:QB X [] Qm7:=⟨Q2a⟩
theorem Qdj (h1:QS X st t1)(h2:QB X sts t2):QB X (st::sts) (Qgs t1 t2):=⟨Qxb h1.h h2.h⟩
theorem Qh3 (h1:QS X st t1):QB X [st] t1:=⟨Q2b h1.h⟩
theorem Qdz (he:QE X e te)(hs:swapsWith e none pos.line X.env=pure false:=by rfl):QS X (.Expr e pos) (Qhq te):=⟨Q2c he.h hs⟩
theorem Quh (he:QE X e te):QS X (.Return (some e) pos) (Q7p te):=⟨Q7q he.h⟩
theorem Qui {bs cs:List Stmt}(hc:QT X c tt)(ha:QB X bs t1)(hb:QB X cs t2):QS X (.If c bs cs pos) (Qvw tt t1 t2):=⟨Qabc hc.h ha.h hb.h⟩
theorem Quj {wi:TI}(hp:PassesOwn (model X.prog X.w) X.A X.env X.xe)(hc:X.calm=true)(hi:QI X tg iter wi)(hg:QG X tg g)(hb:QB X body t1)
  (hs:∀ x,foldedSetIterable iter X.env x=pure x:=by intro _;rfl):QS X (.For tg iter body [] pos) (Qog wi g t1):=⟨Q7y hp hc hi.h hg.h hb.h hs⟩
theorem Qa7 {i:Nat}(hN:X.N.Nodup)(he:QE X e te)(hi:X.N[i]?=some x:=by rfl)(hx:Loc X.env.scope x:=by first | exact Or.inl rfl | exact Or.inr rfl)(hs:swapsWith e (some (.Name x p2)) pos.line X.env=pure false:=by rfl)(hf:X.fn x=true∨X.env.scope.names.lookup x=some .local:=by first | exact .inl rfl | exact .inr rfl) :
  QS X (.Assign [.Name x p2] e pos) (Qhz te (Qc0 i)):=⟨Q7w hN hi hx he.h hs hf⟩
theorem Quk (he:QE X e te)(hg:QG X tg g)(hs:swapsWithSole [tg] e pos.line X.env=pure false:=by rfl)(hw:swappedStores [tg] e X.env=pure none:=by rfl)
  (h1:(assignEach [tg] X.env).map (·.2)=[assign tg X.env]:=by rfl):QS X (.Assign [tg] e pos) (Qhz te g):=⟨Q7v he.h hg.h hs hw h1⟩
theorem Q5y (i j:Nat){y:Str}{px py pt:Pos}{kt k2 pt2}(hN:X.N.Nodup)(hij:i≠j)(ha:QA X [a,b] t)(hi:X.N[i]?=some x:=by rfl)(hj:X.N[j]?=some y:=by rfl)
  (hx:X.env.scope.names.lookup x=some .local:=by rfl) (hy:X.env.scope.names.lookup y=some .local:=by rfl) (hc:X.calm=true:=by rfl)
  (hw:swappedStores [.Tuple [.Name x px,.Name y py] kt pt] (.Tuple [a,b] k2 pt2) X.env=pure (some [x,y]):=by rfl)
  (hs:swapsWithSole [.Tuple [.Name x px,.Name y py] kt pt] (.Tuple [a,b] k2 pt2) pos.line X.env=pure false:=by rfl) :
  QS X (.Assign [.Tuple [.Name x px,.Name y py] kt pt] (.Tuple [a,b] k2 pt2) pos) (Q2g i j t):=⟨Q7x hc hN hi hj hij hx hy ha.h hw hs⟩
theorem Q28 (hp:PassesOwn (model X.prog X.w) X.A X.env X.xe)(hc:QT X c tt)(hb:QB X body t1):QS X (.While c body [] pos) (Qxe tt t1):=⟨Qxf hp hc.h hb.h⟩
theorem Q5z (K:Frg)(hK:X.K=K):QOp X (binaryOp .Add) (Qni K):=⟨kAdd K hK⟩
theorem Qacf:QOp X (binaryOp .Sub) (rI0 fun i j=>.int (i-j)):=⟨Q73⟩
theorem Qacg:QOp X (binaryOp .Pow) (rI Q71 fun i j=>.int (i^j.toNat)):=⟨Q75⟩
theorem Qach:QUn X (unaryOp .USub) (rU fun i=>.int (-i)):=⟨Q76⟩
theorem o_eq:QOp X (compareOp .Eq) rEq:=⟨Qabh⟩
theorem o_ne:QOp X (compareOp .NotEq) rNe:=⟨Qabi⟩
theorem Q85:QOp X (compareOp .Lt) (rI0 fun i j=>.bl (decide (i<j))):=⟨Qabj⟩
theorem o_gt:QOp X (compareOp .Gt) (rI0 fun i j=>.bl (decide (j<i))):=⟨Qabk⟩
theorem o_ge:QOp X (compareOp .GtE) (rI0 fun i j=>.bl (decide (j≤i))):=⟨Qabl⟩
def Q50:R2:=fun x y H Q=>y=.non∧Q (.bl (!decide (x=.non))) H
theorem Q86:QOp X (compareOp .IsNot) Q50:=⟨Q2i⟩
theorem o_ix (K:Frg)(hK:X.K=K):QIx X (rIx K):=⟨kIx K hK⟩
theorem o_sl (K:Frg)(hK:X.K=K):QSl X (Qxy K):=⟨kSl K hK⟩
theorem Qc3:QMt X "list.append" Qd9:=⟨Qjf⟩
theorem Qwe (K:Frg)(hK:X.K=K):QMt X "list.extend" (Qgx K):=⟨Qx3 K hK⟩
theorem Q87:QCl X (.builtin "isinstance") Q5v:=⟨Qab3⟩
theorem Qbz (K:Frg)(hK:X.K=K):QCl X (.builtin "len") (Q8u K):=⟨kLen K hK⟩
theorem Qul (K:Frg)(hK:X.K=K)(hc:X.calm=true:=by rfl):QCl X (.builtin "all") (Q8v K):=⟨kAll K hK hc⟩
theorem Q51 (K:Frg)(hK:X.K=K)(hc:X.calm=true:=by rfl):QCl X (.builtin "any") (Q8w K):=⟨kAny K hK hc⟩
theorem Q88 (K:Frg)(hK:X.K=K)(hc:X.calm=true:=by rfl):QCl X (.builtin "max") (Qx1 K):=⟨Qab1 K hK hc⟩
theorem Q89 (K:Frg)(hK:X.K=K)(hc:X.calm=true:=by rfl):QCl X (.builtin "min") (Qx2 K):=⟨Qab2 K hK hc⟩
def Q52:List V→Hp→VK→Prop:=fun xs H Q=>∃ i j,xs=[.int i,.int j]∧Q (.int (if j>i then j else i)) H
def Q53:List V→Hp→VK→Prop:=fun xs H Q=>∃ i j,xs=[.int i,.int j]∧Q (.int (if j<i then j else i)) H
theorem Q9a (hc:X.calm=true:=by rfl):QCl X (.builtin "max") Q52:=⟨Qv1 hc⟩
theorem Q9b (hc:X.calm=true:=by rfl):QCl X (.builtin "min") Q53:=⟨Qv2 hc⟩
def rAbs:List V→Hp→VK→Prop:=fun xs H Q=>∃ i,xs=[.int i]∧Q (.int (if i<0 then -i else i)) H
theorem Qacl:QCl X (.builtin "abs") rAbs:=⟨Qxi⟩
def rDvm:List V→Hp→VK→Prop:=fun xs H Q=>∃ i j,xs=[.int i,.int j]∧CDv i j∧∀ p,H p=none→Q (.ref p) (upd H p (.tup [.int (i / j),.int (i%j)]))
theorem Qacn:QCl X (.builtin "divmod") rDvm:=⟨Qxx⟩
def Q54:List V→Hp→VK→Prop:=fun xs H Q=>(∃ i,xs=[.int i]∧Q (.int i) H)∨∃ k,xs=[.bl k]∧Q (.int (if k then 1 else 0)) H
theorem Qot:QCl X (.type "int") Q54:=⟨Qv3⟩
theorem Qx8 (K:Frg)(hK:X.K=K):QCl X (.type "list") (Qop K):=⟨Q25 K hK⟩
theorem Qkm (K:Frg)(hK:X.K=K):QCl X (.type "tuple") (Qsu K):=⟨Q8x K hK⟩
end
section
variable {P:Program} {w:World} {K:Frg} {mg:Str→Option Value} {base:Heap}
theorem Qaco {x:Str}(d:Dfn K mg x st)(S:FnScope N ps (Qi st))(bd:Qam x st ps)(len:∀ vs H Q E,sp vs H Q E→vs.length=ps.length)
  (hbody:∀ (f:Addr) (cdv:Value) (A:Around) (outer:List Env) (s:Shared) (H:Hp) (vs:List V) (Q:VK) (E:XK),Room k (A.deeper (envOfC x (Qi st) s.heap.objs.size f cdv))→sp vs H Q E →
   ∃ t,QB (Qhm (fun _=>true) CX0 P w K mg base N x (Qi st) f cdv A outer s H E).nox (Qbk st) t∧t { nx:=fun _ H'=>Q .non H',rt:=Q } (Qb6 N vs) H):Has P w K mg base x ps (k+1) sp :=
 Q8t d S bd len fun f cdv A outer s H vs Q E hr hs=>let ⟨t,a,b⟩:=hbody f cdv A outer s H vs Q E hr hs;⟨t,a.h,b⟩
end
open Classical in
noncomputable def dls (H:Hp) (S:Addr→Prop):Hp:=fun b=>if S b then none else H b
theorem Qbr {S:Addr→Prop}{b:Addr}(h:¬ S b):dls H S b=H b:=by unfold dls;rw [if_neg h]
theorem Q5 {S:Addr→Prop}{b:Addr}(e:dls H S b=some o):¬ S b∧H b=some o:=by
 unfold dls at e
 by_cases h:S b
 ·rw [if_pos h] at e;cases e
 ·rw [if_neg h] at e;exact ⟨h,e⟩
theorem Qx9 (H:Hp)(S:Addr→Prop):Same (dls H S) H:=fun b o e=>(Q5 e).2
theorem Qbh {S:Addr→Prop}(s:Same H H'):Same (dls H S) (dls H' S):=fun b o e=>by
 obtain ⟨n,e⟩:=Q5 e
 rw [Qbr n];exact s b o e
theorem Qce {S S':Addr→Prop}(h:∀ b,S b→S' b):Same (dls H S') (dls H S):=fun b o e=>by
 obtain ⟨n,e⟩:=Q5 e
 rw [Qbr fun z=>n (h b z)];exact e
def Q29:HO→Bool
 | .lst _=>true
 | .dT _=>true
 | _=>false
def Pen (H:Hp) (S:Addr→Prop):Prop:=∀ b,S b→∃ o,H b=some o∧Q29 o=true
theorem Pen.mono {S:Addr→Prop}(h:Pen H S)(s:Same H H'):Pen H' S:=fun b hb=>by
 obtain ⟨xs,e,p⟩:=h b hb
 exact ⟨xs,s _ _ e,p⟩
theorem Pen.new {S:Addr→Prop}{q:Addr}(h:Pen H S)(hq:H q=none):¬ S q:=fun z=>by
 obtain ⟨xs,e,_⟩:=h q z
 rw [hq] at e;cases e
theorem Qya {S:Addr→Prop}(h:Pen H S):Tups H (dls H S):=fun a ys e=>by
 rw [Qbr fun z=>by
  obtain ⟨xs,e',p⟩:=h a z
  rw [e] at e';cases e';cases p]
 exact e
section
variable {K:Frg} {H:Hp} {S:Addr→Prop} {x y:V} {ts us:List T} {Q:VK}
theorem Qwf {a:Addr}{vs:List V}(hp:Pen H' S)(e:H' a=some (.tup vs)):dls H' S a=some (.tup vs):=Qya hp a vs e
theorem Qeb {a:Addr}{vs:List V}(hp:Pen H S)(e:H a=some (.tup vs))(r:IsL (dls H S) vs ts)(z:ts.length≤100000):Is (dls H S) (.ref a) (.tup ts):=.tup (Qwf hp e) r z
def Qgp (ts:List T) (lo hi:Option Int):List T:=(ts.drop (HT.sIx ts.length 0 lo)).take (HT.sIx ts.length ts.length hi-HT.sIx ts.length 0 lo)
theorem Qqm (ts:List T)(lo hi:Option Int):(Qgp ts lo hi).length≤ts.length:=by
 unfold Qgp
 rw [List.length_take,List.length_drop]
 omega
theorem IsL.cut {D:Hp}{vs:List V}(r:IsL D vs ts)(lo hi:Option Int):IsL D (Qgt vs lo hi) (Qgp ts lo hi):=by
 unfold Qgt Qgp
 rw [r.length]
 exact (r.drop _).take _
theorem Qyb {lo hi:Option Int}(hp:Pen H S)(it:Is (dls H S) x (.tup ts))(k:∀ y H',Same H H'→Is (dls H' S) y (.tup (Qgp ts lo hi))→Q y H'):Qxy K x lo hi H Q:=by
 obtain ⟨a,vs,rfl,ha,r⟩:=it.tup_inv
 refine .inr ⟨a,vs,rfl,(Q5 ha).2,fun q H' s' e' _=>k _ H' s' (Qeb (hp.mono s') e' ((r.cut lo hi).mono (Qbh s')) ?_)⟩
 have:=Qqm ts lo hi
 have:=it.tup_len
 omega
theorem Q9c (hp:Pen H S)(ix:Is (dls H S) x (.tup ts))(iy:Is (dls H S) y (.tup us))(hz:ts.length+us.length≤100000)(k:∀ z H',Same H H'→Is (dls H' S) z (.tup (ts++us))→Q z H'):Qni K x y H Q:=by
 obtain ⟨a,vs,rfl,ha,r⟩:=ix.tup_inv
 obtain ⟨b,ws,rfl,hb,r2⟩:=iy.tup_inv
 refine .inr (.inr ⟨a,b,vs,ws,rfl,rfl,(Q5 ha).2,(Q5 hb).2,Qbq (by rw [r.length,r2.length];exact hz),fun q H' s' e' _=>k _ H' s' (Qeb (hp.mono s') e' ((r.append r2).mono (Qbh s')) (by rw [List.length_append];exact hz))⟩)
theorem Q9d {vs:List V}(hp:Pen H S)(r:IsL (dls H S) vs ts)(hz:ts.length≤100000)(k:∀ z H',Same H H'→Is (dls H' S) z (.tup ts)→Q z H'):MkT vs H Q :=
 ⟨Qbq (by rw [r.length];exact hz),fun q hq=>k _ _ (Same.upd hq) (Qeb (hp.mono (Same.upd hq)) Qr (r.mono (Qbh (Same.upd hq))) hz)⟩
theorem Q9e {vs:List V}(hp:Pen H S)(r:IsL (dls H S) vs ts)(hz:ts.length≤100000)(k:∀ l H',Same H H'→H l=none→H' l=some (.lst vs)→Is (dls H' S) (.ref l) (.lst ts)→Q (.ref l) H'):MkL vs H Q :=
 ⟨Qbq (by rw [r.length];exact hz),fun q hq=>k _ _ (Same.upd hq) hq Qr (.lst (by rw [Qbr (hp.new hq),Qr]) (r.mono (Qbh (Same.upd hq))) hz)⟩
end
structure Raw (fs:List Addr) (g:Heap) (H:Hp) (h h':Heap):Prop where
 keep:∀ b o,h.get? b=some o→((∃ u,g.get? b=some u)∨H b≠none)→b∉fs→h'.get? b=some o
 slot:∀ b o,h.get? b=some o→((∃ u,g.get? b=some u)∨H b≠none)→∃ sl,h'.get? b=some { o with slots:=sl }
 size:h.objs.size≤h'.objs.size
theorem Raw.refl (fs:List Addr)(g:Heap)(H:Hp)(h:Heap):Raw fs g H h h:=⟨fun _ _ e _ _=>e,fun _ o e _=>⟨o.slots,e⟩,Nat.le_refl _⟩
theorem Raw.trans {fs:List Addr}{g:Heap}{h1 h2:Heap}(a:Raw fs g H h h1)(b:Raw fs g H h1 h2):Raw fs g H h h2 where
 keep:=fun c o e p q=>b.keep c o (a.keep c o e p q) p q
 slot:=fun c o e p=>by
  obtain ⟨sl,e1⟩:=a.slot c o e p
  obtain ⟨sl',e2⟩:=b.slot c _ e1 p
  exact ⟨sl',e2⟩
 size:=Nat.le_trans a.size b.size
def XObj (H:Hp) (h:Heap) (g:Heap) (e:Addr) (cls:Value) (dx:Option Addr):Prop :=
 g.get? e=none∧H e=none∧∃ oe vs,h.get? e=some oe∧oe.cls=cls∧oe.dict=dx∧oe.data=.fields vs∧1<vs.size ∧
  (vs[1]?=some .none∨∃ T oT ts,vs[1]?=some (.ref T)∧T≠e∧g.get? T=none∧H T=none∧h.get? T=some oT∧oT.data=.fields ts∧3<ts.size)
section
variable {M:Model} {A:Around} {E:Value→Shared→Prop} {s:Shared} {H:Hp} {g:Heap} {e L:Addr} {cls:Value} {dx:Option Addr} {env:Env} {outer:List Env} {base:Heap} {Q:Unit→Shared→Prop}
theorem Qou {fs:List Addr}{a:Addr}{f:Obj→Obj}(ha:g.get? a=none)(hH:H a=none):Raw fs g H h (h.update a f):=by
 have ne:∀ b,((∃ u,g.get? b=some u)∨H b≠none)→a≠b:=fun b p z=>by
  subst z
  rcases p with p | p
  ·obtain ⟨u,q⟩:=p
   rw [ha] at q;cases q
  ·exact p hH
 refine ⟨fun b o e p _=>?_,fun b o e p=>⟨o.slots,?_⟩,?_⟩
 ·rw [Heap.get?_update_other _ _ (ne b p)];exact e
 ·rw [Heap.get?_update_other _ _ (ne b p)];exact e
 ·exact Nat.le_of_eq (by rw [Heap.size_update])
theorem Qyc {fs:List Addr}{o:Obj}:Raw fs g H h (h.push o) :=
 ⟨fun _ _ e _ _=>Heap.get?_push_of_some _ e,fun _ u e _=>⟨u.slots,Heap.get?_push_of_some _ e⟩,by rw [Heap.size_push];omega⟩
theorem Qwg {fs:List Addr}{h':Heap}(x:Heap.SlotsOnly fs h h'):Raw fs g H h h' :=
 ⟨fun b o e _ q=>(x.2.1 b q).trans e,fun b o e _=>x.2.2 b o e,Nat.le_of_eq x.1.symm⟩
theorem Qnk {hd0:Value}{nx:Bool}(hfr:A.frames=some (env::outer))(hl:s.heap.FunFrames base (env::outer))(hf:env.frame=some L)(fresh:∀ b,s.heap.objs.size≤b→H b=none)(hn:∀ b o,g.get? b=some o→b<s.heap.objs.size)
  (X:XObj H s.heap g e cls dx) (h:∀ h',XObj H h' g e cls dx→Raw (frs (env::outer)) g H s.heap h'→Q () { s with heap:=h' }) :
  wpAny M A (do let a ← frameOf env;let pl ← entryPlaceOf L nx;let b ← EntryCells.newEntry hd0 a .none (rawInt L) .none pl;setField (.ref e) 1 b) Q E s:=by
 obtain ⟨hne,hHe,oe,vs,he,hc,hdx,hd,hsz,_⟩:=X
 have nofr:e∉frs (env::outer):=fun hm=>by
  obtain ⟨_,o,ho,hnf⟩:=hl.mem hm
  rw [he] at ho;cases ho;exact hnf vs hd
 refine wpAny_bind (wpAny_frameOf_fun hfr hl hf fun h1 hs1=>wpAny_bind (wpAny_entryPlaceOf fun pl hpl=>?_))
 unfold EntryCells.newEntry newFields
 refine wpAny_bind (wpAny_newObj_type ?_ (hpl.sizeOk5 _ _ _ _ _))
 have he1:h1.get? e=some oe:=(hs1.2.1 e nofr).trans he
 have sz1:h1.objs.size=s.heap.objs.size:=hs1.1
 generalize hob:({ cls:=.type "traceback",dict:=none,data:=.fields ([hd0,.ref L,.none,rawInt L,.none]++(if pl.isEmpty then List.replicate 6 Value.none else pl)).toArray }:Obj)=ob
 have he2:(h1.push ob).get? e=some oe:=Heap.get?_push_of_some _ he1
 have hTe:h1.objs.size≠e:=Nat.ne_of_gt (Heap.lt_size he1)
 have dd:=Obj.data_mapFields hd (·.setIfInBounds 1 (Value.ref h1.objs.size))
 refine wpAny_setField he2 hd hsz (h _ ?_ (((Qwg hs1).trans Qyc).trans (Qou hne hHe)))
 refine ⟨hne,hHe,_,_,Heap.get?_update_self _ he2 (Obj.isFreed_of_fields dd),(Obj.cls_mapFields _ _).trans hc,?_,dd,by simpa using hsz,.inr ⟨h1.objs.size,ob,_,by simp [hsz],hTe,?_,fresh _ (by omega),?_,by rw [←hob],?_⟩⟩
 ·rw [←hdx]
  cases oe
  subst hd
  rfl
 ·cases z:g.get? h1.objs.size with
  | none=>rfl
  | some o=>exact absurd (hn _ _ z) (by rw [sz1];exact Nat.lt_irrefl _)
 ·rw [Heap.get?_update_other _ _ (Ne.symm hTe)]
  exact Heap.get?_push_size h1 (by rw [←hob];rfl)
 ·simp only [List.size_toArray,List.length_append,List.length_cons,List.length_nil]
  omega
theorem Qyd (hfr:A.frames=some (env::outer))(hl:s.heap.FunFrames base (env::outer))(hf:env.frame=some L)(fresh:∀ b,s.heap.objs.size≤b→H b=none)(hn:∀ b o,g.get? b=some o→b<s.heap.objs.size)
  (X:XObj H s.heap g e cls dx) (h:∀ h',XObj H h' g e cls dx→Raw (frs (env::outer)) g H s.heap h'→Q () { s with heap:=h' }) :
  wpAny M A (noteFrame (.ref e) env) Q E s:=by
 obtain ⟨hne,hHe,oe,vs,he,hc,hdx,hd,hsz,h1⟩:=id X
 unfold noteFrame
 simp only [hf]
 rcases h1 with h1 | ⟨T,oT,ts,h1,hTe,hnT,hHT,hT,hdT,h3⟩
 ·refine wpAny_bind (wpAny_field he hd h1 ?_)
  rw [if_neg (by decide)]
  exact Qnk hfr hl hf fresh hn X h
 ·refine wpAny_bind (wpAny_field he hd h1 ?_)
  rw [if_pos (by simp)]
  refine wpAny_bind (wpAny_field hT hdT (Array.getElem?_eq_getElem h3) ?_)
  by_cases hz:(ts[3]==rawInt L)=true
  ·rw [if_pos hz]
   exact wpAny_pure (h _ X (Raw.refl _ _ _ _))
  ·rw [if_neg hz]
   refine wpAny_bind (wpAny_setField hT hdT h3 ?_)
   have rw1:Raw (frs (env::outer)) g H s.heap (s.heap.update T (Obj.mapFields (·.setIfInBounds 3 Value.none))):=Qou hnT hHT
   have oth:∀ b,b≠T→(s.heap.update T (Obj.mapFields (·.setIfInBounds 3 Value.none))).get? b=s.heap.get? b:=fun b hb=>Heap.get?_update_other _ _ (Ne.symm hb)
   have dT:=Obj.data_mapFields hdT (·.setIfInBounds 3 Value.none)
   refine Qnk (s:={ s with heap:=s.heap.update T (Obj.mapFields (·.setIfInBounds 3 Value.none)) }) hfr (hl.of_keeps fun b o hb hnf=>⟨o,(oth b ?_).trans hb,rfl⟩) hf (fun b hb=>fresh b (Nat.le_trans rw1.size hb)) (fun b o q=>Nat.lt_of_lt_of_le (hn b o q) rw1.size)
    ⟨hne,hHe,oe,vs,(oth e (Ne.symm hTe)).trans he,hc,hdx,hd,hsz,.inr ⟨T,_,_,h1,hTe,hnT,hHT,Heap.get?_update_self _ hT (Obj.isFreed_of_fields dT),dT,by simpa using h3⟩⟩ fun h' x r=>h h' x (rw1.trans r)
   intro z
   rw [z,hT] at hb
   cases hb
   exact hnf ts hdT
theorem Qsy {fs:List Addr}(X:XObj H s.heap g e cls dx)(h:∀ h',XObj H h' g e cls dx→Raw fs g H s.heap h'→Q () { s with heap:=h' }):wpAny M A (setFlight (.ref e) none) Q E s:=by
 obtain ⟨hne,hHe,oe,vs,he,hc,hdx,hd,hsz,h1⟩:=id X
 unfold setFlight
 rcases h1 with h1 | ⟨T,oT,ts,h1,hTe,hnT,hHT,hT,hdT,h3⟩
 ·refine wpAny_bind (wpAny_field he hd h1 ?_)
  rw [if_neg (by decide)]
  exact wpAny_pure (h _ X (Raw.refl _ _ _ _))
 ·refine wpAny_bind (wpAny_field he hd h1 ?_)
  rw [if_pos (by simp)]
  have dT:=Obj.data_mapFields hdT (·.setIfInBounds 3 Value.none)
  refine wpAny_setField hT hdT h3 (h _ ⟨hne,hHe,oe,vs,?_,hc,hdx,hd,hsz,.inr ⟨T,_,_,h1,hTe,hnT,hHT,Heap.get?_update_self _ hT (Obj.isFreed_of_fields dT),dT,by simpa using h3⟩⟩ (Qou hnT hHT))
  rw [Heap.get?_update_other _ _ hTe]
  exact he
theorem Qwh (hfr:A.frames=some (env::outer))(hl:s.heap.FunFrames base (env::outer))(hf:env.frame=some L)(fresh:∀ b,s.heap.objs.size≤b→H b=none)(hn:∀ b o,g.get? b=some o→b<s.heap.objs.size)
  (X:XObj H s.heap g e cls dx) (h:∀ h',XObj H h' g e cls dx→Raw (frs (env::outer)) g H s.heap h'→Q () { s with heap:=h' }) :
  wpAny M A (leaving env (.ref e)) Q E s:=by
 unfold leaving
 exact wpAny_bind (Qyd hfr hl hf fresh hn X fun h1 x1 r1=>Qsy x1 fun h2 x2 r2=>h h2 x2 (r1.trans r2))
end
def CXE (P:Program) (w:World):CXT:=fun outer H s E e s'=>∃ a cls dx H',e=.ref a∧s'.os=s.os∧AllBare s'.gens∧Un (frs outer) [] H H' s.heap s'.heap∧HOk P w H' s'.heap∧XObj H' s'.heap s.heap a cls dx∧E cls dx H'
abbrev XR:=Value→Option Addr→St→Hp→Prop
def Qii (X:Cx) (R:XR):Prop:=∀ (pins:List (Addr×Obj)) (σ:St) (H:Hp) (s:Shared) (e:Value) (s':Shared),Inv X pins σ H s→CXE X.prog X.w X.stack H s (fun cls dx H'=>R cls dx σ H') e s'→X.xe e s'
section
variable {P:Program} {w:World} {H H0:Hp} {h h' h0 g:Heap} {fs fs':List Addr}
theorem Raw.hok (r:Raw fs g H h h')(ok:HOk P w H h)(hf:∀ b∈fs,H b=none):HOk P w H h':=fun a o e=>by
 have ht:∀ b u,H b=some u→((∃ u,g.get? b=some u)∨H b≠none)∧b∉fs:=fun b u q=>⟨.inr (by rw [q];simp),fun z=>by rw [hf b z] at q;cases q⟩
 refine (ok a o e).stay (fun b u hb q=>?_) (fun _ q=>q) fun _ _ q=>q
 rcases hb with rfl | hb
 ·exact r.keep _ u q (ht _ _ e).1 (ht _ _ e).2
 ·exact r.keep _ u q (ht _ _ hb).1 (ht _ _ hb).2
theorem Raw.un (r:Raw fs' g H h h')(u:Un fs [] H0 H h0 h)(hg:∀ b o,h0.get? b=some o→∃ v,g.get? b=some v)(hs:∀ b∈fs',b∈fs∨h0.objs.size≤b):Un fs [] H0 H h0 h' where
 keep:=fun b o e n hb hx=>r.keep b o (u.keep b o e n hb hx) (.inl (hg b o e)) fun z=>by
  rcases hs b z with z | z
  ·exact hb z
  ·exact absurd (Nat.lt_of_lt_of_le (Heap.lt_size e) z) (Nat.lt_irrefl _)
 slot:=fun b o e n hb hx=>by
  obtain ⟨sl,q⟩:=u.slot b o e n hb hx
  obtain ⟨sl',q'⟩:=r.slot b _ q (.inl (hg b o e))
  exact ⟨sl',q'⟩
 free:=u.free
 there:=fun b o e hx=>by
  obtain ⟨o',q⟩:=u.there b o e hx
  obtain ⟨sl',q'⟩:=r.slot b _ q (.inl (hg b o e))
  exact ⟨_,q'⟩
 tups:=u.tups
 frzs:=u.frzs
 tbls:=u.tbls
theorem XObj.mono {e:Addr}{cls:Value}{dx:Option Addr}{g':Heap}(x:XObj H h g e cls dx)(hg:∀ b o,g'.get? b=some o→∃ v,g.get? b=some v):XObj H h g' e cls dx:=by
 have nn:∀ b,g.get? b=none→g'.get? b=none:=fun b q=>by
  cases z:g'.get? b with
  | none=>rfl
  | some o =>
   obtain ⟨v,q'⟩:=hg b o z
   rw [q] at q';cases q'
 obtain ⟨h1,h2,oe,vs,a1,a2,a3,a4,a5,a6⟩:=x
 refine ⟨nn _ h1,h2,oe,vs,a1,a2,a3,a4,a5,a6.imp (fun z=>z) fun ⟨T,oT,ts,b1,b2,b3,b4⟩=>⟨T,oT,ts,b1,b2,nn _ b3,b4⟩⟩
end
section
variable {X:Cx} {pins:List (Addr×Obj)} {σ:St} {H H':Hp} {s s':Shared} {e:Addr} {cls:Value} {dx:Option Addr}
theorem Inv.thrown (I:Inv X pins σ H s)(os:s'.os=s.os)(bare:AllBare s'.gens)(un:Un (frs X.stack) [] H H' s.heap s'.heap)(hok:HOk X.prog X.w H' s'.heap):Inv X pins σ H' s' :=
 I.call' (ch:=[]) os un hok bare fun b z=>absurd z (by simp)
end
theorem Qacp {g:Str→Bool}{mg:Str→Option Value}{base:Heap}{f:Addr}{cd:Value}{outer:List Env}{s0:Shared}{E:XK} :
  Qii (Qhm g (CXE P w) P w K mg base N qual scope f cd A outer s0 H0 E) (fun cls dx _ H=>E cls dx H):=by
 intro pins σ H s e s' I h
 obtain ⟨a,cls,dx,H',rfl,os,bare,un,hok,xo,hE⟩:=h
 have J:=I.thrown os bare un hok
 show wpAny _ _ (leaving _ _) _ _ _
 refine Qwh (base:=base) (outer:=outer) J.ok.frames J.stack rfl (fun b hb=>J.hok.fresh hb) (fun b o q=>?_) xo fun h' x' r'=>?_
 ·obtain ⟨o',q'⟩:=un.there b o q (by simp)
  exact Heap.lt_size q'
 ·have hg:∀ b o,s0.heap.get? b=some o→∃ v,s.heap.get? b=some v:=fun b o q=>I.base.there b o q (by intro z;exact absurd (show b∈([]:List Addr) from z) (by simp))
  refine ⟨a,cls,dx,H',rfl,J.os,J.bare,r'.un J.base hg (fun b hb=>?_),r'.hok hok J.stkFree,x'.mono hg,hE⟩
  rcases List.mem_cons.mp (J.stkSub b hb) with z | z
  ·rw [z];exact .inr J.ok.above
  ·exact .inl z
def Qsz (K:Frg) (mg:Str→Option Value) (x:Str) (cdv:Value):Prop:=∃ f oc od fd osl,mg x=some (.ref f)∧K.lookup f=some ⟨oc,od,.func fd,osl⟩∧fd.code=cdv
def Qs0 (P:Program) (w:World) (K:Frg) (mg:Str→Option Value) (base:Heap) (x:Str) (ps:List Str) (k:Nat) (sp:Sp):Prop :=
 ∃ f fd,PySem.W.keepIn K (.ref f)=true∧mg x=some (.ref f)∧Binds K fd ps []∧FnOk P w K mg base (CXE P w) k f fd ps sp
section
variable {P:Program} {w:World} {K:Frg} {mg:Str→Option Value} {base:Heap}
theorem Q9f {g:Str→Bool}{x:Str}(d:Dfn K mg x st)(S:FnScope N ps (Qi st))(bd:Qam x st ps)(len:∀ vs H Q E,sp vs H Q E→vs.length=ps.length)
  (hbody:∀ (X:Cx) (f:Addr) (cdv:Value) (A:Around) (outer:List Env) (s:Shared) (H:Hp) (vs:List V) (Q:VK) (E:XK),X=Qhm g (CXE P w) P w K mg base N x (Qi st) f cdv A outer s H E→Qsz K mg x cdv→Qii (Qhm g (CXE P w) P w K mg base N x (Qi st) f cdv A outer s H E) (fun cls dx _ H=>E cls dx H) →
   Room k (A.deeper (envOfC x (Qi st) s.heap.objs.size f cdv))→sp vs H Q E →
   ∃ t,QB (Qhm g (CXE P w) P w K mg base N x (Qi st) f cdv A outer s H E) (Qbk st) t∧t { nx:=fun _ H'=>Q .non H',rt:=Q } (Qb6 N vs) H):Qs0 P w K mg base x ps (k+1) sp:=by
 obtain ⟨f,fd,F,m⟩:=d.ex
 refine ⟨f,fd,F.kp,m,F.binds bd,?_⟩
 obtain ⟨oc,od,kV,doc,pm,an,cdv,ct,osl,rfl,lk,hcd⟩:=F.ex
 refine Q5o (g:=g) lk hcd S len fun A outer s H vs Q E hr hsp=>?_
 obtain ⟨t,h,q⟩:=hbody _ f cdv A outer s H vs Q E rfl ⟨f,_,_,_,_,m,lk,rfl⟩ Qacp hr hsp
 exact ⟨t,h.h,q⟩
end
abbrev Qs1 (sp:Sp) (R:XR) (t:TA):TE:=fun σ H Q=>t σ H fun vs H1=>sp vs H1 Q (fun cls dx H2=>R cls dx σ H2)
section
variable {X:Cx} {x:Str} {ps:List Str} {k:Nat} {sp:Sp} {e:Expr} {es:List Expr} {t:TA} {p pos cpos np:Pos} {R:XR}
theorem Q55 (h:Qs0 X.prog X.w X.K X.mg X.base x ps k sp)(pz:Qii X R)(hr:Room k X.A)(ha:QA X (e::es) t)(hg:Gl X x:=by rfl)
  (hdb:(x==("__debug__" : Str))=false:=by decide) (he:starEach (e::es) X.env=(false,eval e X.env)::starEach es X.env:=by rfl) (hpl:(backTo pos (starEach es X.env)).any (·.1)=false:=by rfl) :
  QE X (.Call (.Name x p) (e::es) [] pos) (Qs1 sp R t):=by
 obtain ⟨f,fd,kp,m,b,F⟩:=h
 refine ⟨fun pins s σ H Q I hq=>?_⟩
 refine wpAny_Call_Name_kw (Qof I hg m ?_ hdb)
 refine PySem.W.callWith_K (h₀:=X.base) I.ok.mod.kin kp (thn (ha.h pos pins s σ H _ I hq) fun us s1 ⟨vs,H1,I1,r,q⟩=>⟨I1.kIn,?_⟩) he hpl
 have hl:(us++[]).length=ps.length:=by rw [List.append_nil,←r.length];exact F.len _ _ _ _ q
 have r2:Vals vs (us++[]):=by rw [List.append_nil];exact r
 refine wpAny_call (codeAny_mono (F.run X.A X.stack s1 H1 ⟨us,[]⟩ (us++[]) vs Q _ hr I1.env0 (b s1 us I1.kIn hl) r2 q) fun rr s' hq'=>?_)
 cases rr with
 | error ev=>exact pz pins σ H1 s1 ev s' I1 hq'
 | ok fl =>
  cases fl with
  | ret u=>exact I1.after hq'
  | next=>exact False.elim hq'
  | brk=>exact False.elim hq'
  | cont=>exact False.elim hq'
theorem Q3a:QS X st (fun _ _ _=>False):=⟨fun _ _ _ _ _ _ h=>h.elim⟩
theorem Q3b {t:TS}(h:QS X.nox st t):QS X st t:=⟨fun pins s σ H D I hw=>wpAny_mono (h.h pins s σ H D (I.wish _) hw) (fun _ _ q=>q.unwish) fun _ _ z=>False.elim z⟩
end
section
variable {X:Cx} {x:Str} {e:Expr} {es:List Expr} {t:TA} {pos cpos np:Pos} {R:XR} {C:Addr} {B newId initId:String} {bmB:List Value}
end
structure RoomH (k:Nat) (A:Around):Prop where
 dp:A.depth+3*k+5<recursionLimit
 un:A.units+16*k+200<cLine
structure FnOkH (P:Program) (w:World) (K:Frg) (mg:Str→Option Value) (base:Heap) (CX:CXT) (k:Nat) (f:Addr) (fd:FuncData) (ps:List Str) (sp:Sp):Prop where
 len:∀ vs H Q E,sp vs H Q E→vs.length=ps.length
 run:∀ (A:Around) (outer:List Env) (s:Shared) (H:Hp) (args:Args) (us:List Value) (vs:List V) (Q:VK) (E:XK),RoomH k A→Env0 P w K mg base A outer s H→BindsTo s fd args (ps.zip us)→Vals vs us→sp vs H Q E →
  codeAny (model P w) A (.call (.ref f) args) (CR CX outer P w H s Q E) s
section
variable {X:Cx} {pins p2:List (Addr×Obj)} {σ σ0:St} {H H0:Hp} {s s0:Shared} {h':Heap} {R:XR}
end
section
variable {X:Cx} {pins:List (Addr×Obj)} {σ:St} {H:Hp} {s:Shared} {M:Model} {A:Around} {E:Value→Shared→Prop} {Q:Unit→Shared→Prop} {i:Nat} {x:Str} {v:V}
end
section
variable {X:Cx} {body suite:List Stmt} {b0:Stmt} {x n:Str} {np hpos pos:Pos} {tb:XR→TS} {th:TS} {i:Nat} {C0:Addr} {bmB:List Value} {newId:String}
end
mutual
def eqT:T→T→Bool
 | .non,.non=>true
 | .bl a,.bl b=>a==b
 | .int a,.int b=>a==b
 | .bl a,.int b=>(if a then 1 else 0)==b
 | .int a,.bl b=>a==(if b then 1 else 0)
 | .str a,.str b=>a==b
 | .tup a,.tup b=>eqL a b
 | .lst a,.lst b=>eqL a b
 | _,_=>false
def eqL:List T→List T→Bool
 | [],[]=>true
 | x::xs,y::ys=>eqT x y&&eqL xs ys
 | _,_=>false
end
def Qk:Nat→T→Bool
 | _,.non=>true
 | _,.bl _=>true
 | _,.int _=>true
 | _,.str _=>true
 | n+1,.tup ts=>ts.all (Qk n)
 | n+1,.lst ts=>ts.all (Qk n)
 | _,_=>false
theorem Qhg:eqL [] []=true:=by unfold eqL;rfl
theorem Qfo (x y:T)(xs ys:List T):eqL (x::xs) (y::ys)=(eqT x y&&eqL xs ys):=by rw [eqL]
theorem Qfz:∀ {xs ys:List T},xs.length≠ys.length→eqL xs ys=false
 | [],[],h=>absurd rfl h
 | [],_::_,_=>by unfold eqL;rfl
 | _::_,[],_=>by unfold eqL;rfl
 | x::xs,y::ys,h=>by rw [Qfo,Qfz (xs:=xs) (ys:=ys) (by simpa using h),Bool.and_false]
theorem Qnl:∀ {xs ys:List T} {e:Nat→Bool},(∀ (j:Nat) a b,xs[j]?=some a→ys[j]?=some b→e j=eqT a b)→((List.range (min xs.length ys.length)).all e&&(xs.length==ys.length))=eqL xs ys
 | [],[],e,_=>by rw [Qhg];rfl
 | [],y::ys,e,_=>by rw [Qfz (by simp)];simp
 | x::xs,[],e,_=>by rw [Qfz (by simp)];simp
 | x::xs,y::ys,e,h=>by
  rw [Qfo,←Qnl (xs:=xs) (ys:=ys) (e:=fun j=>e (j+1)) fun j a b p q=>h (j+1) a b p q,List.length_cons,List.length_cons,Nat.succ_min_succ,List.range_succ_eq_map,List.all_cons,List.all_map,←h 0 x y rfl rfl,Bool.and_assoc]
  congr 2
  simp
theorem Qk5:∀ (n:Nat) (t:T),Qk n t=true→eqT t t=true
 | _,.non,_=>by rw [eqT]
 | _,.bl b,_=>by rw [eqT];simp
 | _,.int i,_=>by rw [eqT];simp
 | _,.str x,_=>by rw [eqT];simp
 | n+1,.tup ts,h=>by
  have h:ts.all (Qk n)=true:=by rw [Qk] at h;exact h
  have go:∀ ts:List T,ts.all (Qk n)=true→eqL ts ts=true:=fun ts=>by
   induction ts with
   | nil=>intro _;exact Qhg
   | cons x xs ih =>
    intro h
    rw [List.all_cons,Bool.and_eq_true] at h
    rw [Qfo,Qk5 n x h.1,ih h.2]
    rfl
  rw [eqT];exact go ts h
 | n+1,.lst ts,h=>by
  have h:ts.all (Qk n)=true:=by rw [Qk] at h;exact h
  have go:∀ ts:List T,ts.all (Qk n)=true→eqL ts ts=true:=fun ts=>by
   induction ts with
   | nil=>intro _;exact Qhg
   | cons x xs ih =>
    intro h
    rw [List.all_cons,Bool.and_eq_true] at h
    rw [Qfo,Qk5 n x h.1,ih h.2]
    rfl
  rw [eqT];exact go ts h
 | 0,.tup _,h=>by simp [Qk] at h
 | 0,.lst _,h=>by simp [Qk] at h
 | 0,.dct _ _,h=>by simp [Qk] at h
 | 0,.clo _ _,h=>by simp [Qk] at h
 | _+1,.dct _ _,h=>by simp [Qk] at h
 | _+1,.clo _ _,h=>by simp [Qk] at h
 | 0,.dtt _ _,h=>by simp [Qk] at h
 | _+1,.dtt _ _,h=>by simp [Qk] at h
theorem Q56:∀ (n:Nat) {v:V} {t t':T},Is H v t→Is H v t'→Qk n t=true→Qk n t'=true→eqT t t'=true:=by
 intro n
 induction n with
 | zero =>
  intro v t t' i j h h'
  cases t <;> first | (simp [Qk] at h;done) | skip
  all_goals (cases t' <;> first | (simp [Qk] at h';done) | skip)
  all_goals (unfold Is at i j;rw [i] at j;first | (cases j;simp [eqT];done) | cases j)
 | succ n ih =>
  intro v t t' i j h h'
  have go:∀ (ts us:List T) (vs:List V),IsL H vs ts→IsL H vs us→ts.all (Qk n)=true→us.all (Qk n)=true→eqL ts us=true:=by
   intro ts
   induction ts with
   | nil =>
    intro us vs q1 q2 _ _
    rw [q1.nil_inv] at q2
    cases us with
    | nil=>exact Qhg
    | cons y ys=>obtain ⟨_,_,z,_⟩:=q2.cons_inv;cases z
   | cons x xs ihx =>
    intro us vs q1 q2 a1 a2
    obtain ⟨v,r,rfl,c1,c2⟩:=q1.cons_inv
    cases us with
    | nil=>have:=q2.nil_inv;cases this
    | cons y ys =>
     obtain ⟨v',r',z,d1,d2⟩:=q2.cons_inv
     cases z
     rw [List.all_cons,Bool.and_eq_true] at a1 a2
     rw [Qfo,ihx ys r c2 d2 a1.2 a2.2,Bool.and_true]
     exact ih c1 d1 a1.1 a2.1
  cases t with
  | dct _ _=>simp [Qk] at h
  | clo _ _=>simp [Qk] at h
  | dtt _ _=>simp [Qk] at h
  | tup ts =>
   obtain ⟨a,vs,rfl,ha,q⟩:=i.tup_inv
   cases t' with
   | tup us =>
    obtain ⟨a',vs',e,ha',q'⟩:=j.tup_inv
    cases e
    rw [ha] at ha'
    cases ha'
    rw [eqT]
    exact go ts us vs q q' (by simpa only [Qk] using h) (by simpa only [Qk] using h')
   | lst us =>
    obtain ⟨a',vs',e,ha',q'⟩:=j.lst_inv
    cases e
    rw [ha] at ha'
    cases ha'
   | dct _ _=>simp [Qk] at h'
   | clo _ _=>simp [Qk] at h'
   | dtt _ _=>simp [Qk] at h'
   | _=>unfold Is at j;cases j
  | lst ts =>
   obtain ⟨a,vs,rfl,ha,q⟩:=i.lst_inv
   cases t' with
   | lst us =>
    obtain ⟨a',vs',e,ha',q'⟩:=j.lst_inv
    cases e
    rw [ha] at ha'
    cases ha'
    rw [eqT]
    exact go ts us vs q q' (by simpa only [Qk] using h) (by simpa only [Qk] using h')
   | tup us =>
    obtain ⟨a',vs',e,ha',q'⟩:=j.tup_inv
    cases e
    rw [ha] at ha'
    cases ha'
   | dct _ _=>simp [Qk] at h'
   | clo _ _=>simp [Qk] at h'
   | dtt _ _=>simp [Qk] at h'
   | _=>unfold Is at j;cases j
  | _ =>
   cases t' with
   | dct _ _=>simp [Qk] at h'
   | clo _ _=>simp [Qk] at h'
   | dtt _ _=>simp [Qk] at h'
   | tup us =>
    obtain ⟨a',vs',e,ha',q'⟩:=j.tup_inv
    unfold Is at i
    rw [i] at e;cases e
   | lst us =>
    obtain ⟨a',vs',e,ha',q'⟩:=j.lst_inv
    unfold Is at i
    rw [i] at e;cases e
   | _=>unfold Is at i j;rw [i] at j;first | (cases j;simp [eqT];done) | cases j
inductive Shp (P:Program) (w:World) (H:Hp) (h:Heap):T→Value→Prop
 | non:Shp P w H h .non .none
 | bl (b):Shp P w H h (.bl b) (.bool b)
 | int (i t):Shp P w H h (.int i) (.int i t)
 | str (x t):Shp P w H h (.str x) (.str x t)
 | tup {a vs ts its}:Is H (.ref a) (.tup ts)→IsL H vs ts→Vals vs its→h.IsTuple a its.toArray→Shp P w H h (.tup ts) (.ref a)
 | lst {a vs ts its}:Is H (.ref a) (.lst ts)→IsL H vs ts→Vals vs its→h.IsList a its.toArray→Shp P w H h (.lst ts) (.ref a)
 | dct {ks ts u}:Shp P w H h (.dct ks ts) u
 | clo {l ts u}:Shp P w H h (.clo l ts) u
 | dtt {ks ts u}:Shp P w H h (.dtt ks ts) u
theorem Is.shp {v:V}{u:Value}:∀ {t:T},Is H v t→RelV v u→HOk P w H h→Shp P w H h t u
 | .non,i,r,_=>by unfold Is at i;subst i;cases r;exact .non
 | .bl b,i,r,_=>by unfold Is at i;subst i;cases r;exact .bl b
 | .int n,i,r,_=>by unfold Is at i;subst i;obtain ⟨t,rfl⟩:=r;exact .int n t
 | .str x,i,r,_=>by unfold Is at i;subst i;obtain ⟨t,rfl⟩:=r;exact .str x t
 | .tup ts,i,r,ok=>by
  obtain ⟨a,vs,rfl,ha,q⟩:=i.tup_inv
  cases r
  obtain ⟨_,its,rv,p⟩:=ok a _ ha
  exact .tup i q rv p.tup
 | .lst ts,i,r,ok=>by
  obtain ⟨a,vs,rfl,ha,q⟩:=i.lst_inv
  cases r
  obtain ⟨_,its,n,rv,p⟩:=ok a _ ha
  exact .lst i q rv ⟨_,p,rfl,n,rfl⟩
 | .dct ks ts,_,_,_=>.dct
 | .clo l ts,_,_,_=>.clo
 | .dtt ks ts,_,_,_=>.dtt
section
variable {P:Program} {w:World} {H:Hp}
noncomputable def eAt (ts us:List T) (j:Nat):Bool:=eqT (ts.getD j .non) (us.getD j .non)
theorem Qnm (ts us:List T):((List.range (min ts.length us.length)).all (eAt ts us)&&(ts.length==us.length))=eqL ts us :=
 Qnl fun j a b p q=>by unfold eAt;rw [List.getD_eq_getElem?_getD,List.getD_eq_getElem?_getD,p,q];rfl
theorem Qqn {ts us:List T}{vs ws:List V}{its its2:List Value}(i1:IsL H vs ts)(i2:IsL H ws us)(r1:Vals vs its)(r2:Vals ws its2)(ok:HOk P w H s.heap)(h1:ts.all (Qk n)=true)(h2:us.all (Qk n)=true)
  (ih:∀ (t t':T) (u u':Value),Qk n t=true→Qk n t'=true→Shp P w H s.heap t u→Shp P w H s.heap t' u'→SeqAt.EqAt A s u u' (eqT t t')) :
  ∀ (j:Nat) (g1:j<its.toArray.size) (g2:j<its2.toArray.size),SeqAt.EqAt A s its.toArray[j] its2.toArray[j] (eAt ts us j):=by
 intro j g1 g2
 have g1':j<its.length:=by simpa using g1
 have g2':j<its2.length:=by simpa using g2
 have l1:j<vs.length:=by rw [r1.length];exact g1'
 have l2:j<ws.length:=by rw [r2.length];exact g2'
 obtain ⟨u,hu,ru⟩:=r1.get (List.getElem?_eq_getElem l1)
 obtain ⟨u',hu',ru'⟩:=r2.get (List.getElem?_eq_getElem l2)
 obtain ⟨t,ht,it⟩:=i1.get (List.getElem?_eq_getElem l1)
 obtain ⟨t',ht',it'⟩:=i2.get (List.getElem?_eq_getElem l2)
 have e1:its.toArray[j]=u:=by
  rw [List.getElem?_eq_getElem g1'] at hu
  simpa using hu
 have e2:its2.toArray[j]=u':=by
  rw [List.getElem?_eq_getElem g2'] at hu'
  simpa using hu'
 have e3:eAt ts us j=eqT t t':=by unfold eAt;rw [List.getD_eq_getElem?_getD,List.getD_eq_getElem?_getD,ht,ht'];rfl
 rw [e1,e2,e3]
 exact ih t t' u u' (List.all_eq_true.mp h1 t (List.mem_of_getElem? ht)) (List.all_eq_true.mp h2 t' (List.mem_of_getElem? ht')) (it.shp ru ok) (it'.shp ru' ok)
theorem Qij {ts:List T}{vs:List V}{its:List Value}(i:IsL H vs ts)(r:Vals vs its):its.toArray.size=ts.length:=by
 rw [List.size_toArray,←r.length,i.length]
open SeqAt in
theorem Qye {ts us:List T}{a b:Addr}{vs ws:List V}{its its2:List Value}(i1:IsL H vs ts)(i2:IsL H ws us)(r1:Vals vs its)(r2:Vals ws its2)(ok:HOk P w H s.heap)(h1:ts.all (Qk n)=true)(h2:us.all (Qk n)=true)
  (hl:s.heap.IsTuple a its.toArray) (hb:s.heap.IsTuple b its2.toArray) (hu:A.units<cLine) (ih:∀ (t t':T) (u u':Value),Qk n t=true→Qk n t'=true→Shp P w H s.heap t u→Shp P w H s.heap t' u'→EqAt A.in1 s u u' (eqT t t')) :
  RcAt A s (.ref a) (.ref b) (eqL ts us)∧RcNeAt A s (.ref a) (.ref b) (!eqL ts us):=by
 have key:=Qqn i1 i2 r1 r2 ok h1 h2 ih
 have l1:=Qij i1 r1
 have l2:=Qij i2 r2
 have k1:=RcAt.tuples hl hb hu key
 have k2:=RcNeAt.tuples hl hb hu key
 rw [l1,l2,Qnm] at k1 k2
 exact ⟨k1,k2⟩
open SeqAt in
theorem Qyf {ts us:List T}{a b:Addr}{vs ws:List V}{its its2:List Value}(i1:IsL H vs ts)(i2:IsL H ws us)(r1:Vals vs its)(r2:Vals ws its2)(ok:HOk P w H s.heap)(h1:ts.all (Qk n)=true)(h2:us.all (Qk n)=true)
  (hl:s.heap.IsList a its.toArray) (hb:s.heap.IsList b its2.toArray) (hu:A.units<cLine) (ih:∀ (t t':T) (u u':Value),Qk n t=true→Qk n t'=true→Shp P w H s.heap t u→Shp P w H s.heap t' u'→EqAt A.in1 s u u' (eqT t t')) :
  RcAt A s (.ref a) (.ref b) (eqL ts us)∧RcNeAt A s (.ref a) (.ref b) (!eqL ts us):=by
 have key:=Qqn i1 i2 r1 r2 ok h1 h2 ih
 have l1:=Qij i1 r1
 have l2:=Qij i2 r2
 by_cases hz:ts.length=us.length
 ·have k1:=RcAt.lists hl hb (by rw [l1,l2,hz]) hu key
  have k2:=RcNeAt.lists hl hb (by rw [l1,l2,hz]) hu key
  have e:=Qnm ts us
  rw [hz,Nat.min_self,beq_self_eq_true,Bool.and_true] at e
  rw [l1,hz,e] at k1 k2
  exact ⟨k1,k2⟩
 ·rw [Qfz hz]
  have hb':(its.toArray.size != its2.toArray.size)=true:=by rw [l1,l2];simpa using hz
  exact ⟨RcAt.lists_lengths hl hb hb' hu,RcNeAt.lists_lengths hl hb hb' hu⟩
open SeqAt in
theorem Qyg:∀ (n:Nat) {s:Shared} {A:Around},HOk P w H s.heap→A.units+n<cLine→∀ (t t':T) (u u':Value),Qk n t=true→Qk n t'=true→Shp P w H s.heap t u→Shp P w H s.heap t' u'→EqAt A s u u' (eqT t t'):=by
 intro n
 induction n with
 | zero =>
  intro s A ok hu t t' u u' h1 h2 s1 s2
  cases s1 with
  | dct=>simp [Qk] at h1
  | clo=>simp [Qk] at h1
  | dtt=>simp [Qk] at h1
  | tup j1 i1 r1 p1=>simp [Qk] at h1
  | lst j1 i1 r1 p1=>simp [Qk] at h1
  | non =>
   cases s2 with
   | dct=>simp [Qk] at h2
   | clo=>simp [Qk] at h2
   | dtt=>simp [Qk] at h2
   | tup j2 i2 r2 p2=>simp [Qk] at h2
   | lst j2 i2 r2 p2=>simp [Qk] at h2
   | non=>simp only [eqT];exact EqAt.same _
   | bl b=>simp only [eqT];exact EqAt.none_bool  b
   | int i t=>simp only [eqT];exact EqAt.none_int  i t
   | str x t=>simp only [eqT];exact EqAt.none_str  x t
  | bl c =>
   cases s2 with
   | dct=>simp [Qk] at h2
   | clo=>simp [Qk] at h2
   | dtt=>simp [Qk] at h2
   | tup j2 i2 r2 p2=>simp [Qk] at h2
   | lst j2 i2 r2 p2=>simp [Qk] at h2
   | non=>simp only [eqT];exact EqAt.bool_none c
   | bl b=>simp only [eqT];exact EqAt.bool_bool c b
   | int i t=>simp only [eqT];exact EqAt.bool_int c i t
   | str x t=>simp only [eqT];exact EqAt.bool_str c x t
  | int c ct =>
   cases s2 with
   | dct=>simp [Qk] at h2
   | clo=>simp [Qk] at h2
   | dtt=>simp [Qk] at h2
   | tup j2 i2 r2 p2=>simp [Qk] at h2
   | lst j2 i2 r2 p2=>simp [Qk] at h2
   | non=>simp only [eqT];exact EqAt.int_none c ct
   | bl b=>simp only [eqT];exact EqAt.int_bool c ct b
   | int i t=>simp only [eqT];exact EqAt.int_int c ct i t
   | str x t=>simp only [eqT];exact EqAt.int_str c ct x t
  | str c ct =>
   cases s2 with
   | dct=>simp [Qk] at h2
   | clo=>simp [Qk] at h2
   | dtt=>simp [Qk] at h2
   | tup j2 i2 r2 p2=>simp [Qk] at h2
   | lst j2 i2 r2 p2=>simp [Qk] at h2
   | non=>simp only [eqT];exact EqAt.str_none c ct
   | bl b=>simp only [eqT];exact EqAt.str_bool c ct b
   | int i t=>simp only [eqT];exact EqAt.str_int c ct i t
   | str x t=>simp only [eqT];exact EqAt.str_str c ct x t
 | succ n ih =>
  intro s A ok hu t t' u u' h1 h2 s1 s2
  have hu0:A.units<cLine:=by omega
  have ih':=ih (s:=s) (A:=A.in1) ok (by show A.units+1+n<cLine;omega)
  cases s1 with
  | dct=>simp [Qk] at h1
  | clo=>simp [Qk] at h1
  | dtt=>simp [Qk] at h1
  | tup j1 i1 r1 p1 =>
   have g1:=h1
   rw [Qk] at g1
   cases s2 with
   | dct=>simp [Qk] at h2
   | clo=>simp [Qk] at h2
   | dtt=>simp [Qk] at h2
   | tup j2 i2 r2 p2 =>
    have g2:=h2
    rw [Qk] at g2
    rename_i a vs ts its b ws us its2
    by_cases hab:a=b
    ·subst hab
     rw [Q56 (n+1) j1 j2 h1 h2]
     exact EqAt.same _
    ·rw [eqT]
     exact EqAt.of_refs hab (Qye i1 i2 r1 r2 ok g1 g2 p1 p2 hu0 ih').1
   | lst j2 i2 r2 p2=>simp only [eqT];exact EqAt.tuple_list p1 p2 hu0
   | non=>simp only [eqT];exact EqAt.tuple_none p1 hu0
   | bl b=>simp only [eqT];exact EqAt.tuple_bool b p1 hu0
   | int i t=>simp only [eqT];exact EqAt.tuple_int i t p1 hu0
   | str x t=>simp only [eqT];exact EqAt.tuple_str x t p1 hu0
  | lst j1 i1 r1 p1 =>
   have g1:=h1
   rw [Qk] at g1
   cases s2 with
   | dct=>simp [Qk] at h2
   | clo=>simp [Qk] at h2
   | dtt=>simp [Qk] at h2
   | lst j2 i2 r2 p2 =>
    have g2:=h2
    rw [Qk] at g2
    rename_i a vs ts its b ws us its2
    by_cases hab:a=b
    ·subst hab
     rw [Q56 (n+1) j1 j2 h1 h2]
     exact EqAt.same _
    ·rw [eqT]
     exact EqAt.of_refs hab (Qyf i1 i2 r1 r2 ok g1 g2 p1 p2 hu0 ih').1
   | tup j2 i2 r2 p2=>simp only [eqT];exact EqAt.list_tuple p1 p2 hu0
   | non=>simp only [eqT];exact EqAt.list_none p1 hu0
   | bl b=>simp only [eqT];exact EqAt.list_bool b p1 hu0
   | int i t=>simp only [eqT];exact EqAt.list_int i t p1 hu0
   | str x t=>simp only [eqT];exact EqAt.list_str x t p1 hu0
  | non =>
   cases s2 with
   | dct=>simp [Qk] at h2
   | clo=>simp [Qk] at h2
   | dtt=>simp [Qk] at h2
   | tup j2 i2 r2 p2=>simp only [eqT];exact EqAt.none_tuple p2 hu0
   | lst j2 i2 r2 p2=>simp only [eqT];exact EqAt.none_list p2 hu0
   | non=>simp only [eqT];exact EqAt.same _
   | bl b=>simp only [eqT];exact EqAt.none_bool b
   | int i t=>simp only [eqT];exact EqAt.none_int i t
   | str x t=>simp only [eqT];exact EqAt.none_str x t
  | bl c =>
   cases s2 with
   | dct=>simp [Qk] at h2
   | clo=>simp [Qk] at h2
   | dtt=>simp [Qk] at h2
   | tup j2 i2 r2 p2=>simp only [eqT];exact EqAt.bool_tuple c p2 hu0
   | lst j2 i2 r2 p2=>simp only [eqT];exact EqAt.bool_list c p2 hu0
   | non=>simp only [eqT];exact EqAt.bool_none c
   | bl b=>simp only [eqT];exact EqAt.bool_bool c b
   | int i t=>simp only [eqT];exact EqAt.bool_int c i t
   | str x t=>simp only [eqT];exact EqAt.bool_str c x t
  | int c ct =>
   cases s2 with
   | dct=>simp [Qk] at h2
   | clo=>simp [Qk] at h2
   | dtt=>simp [Qk] at h2
   | tup j2 i2 r2 p2=>simp only [eqT];exact EqAt.int_tuple c ct p2 hu0
   | lst j2 i2 r2 p2=>simp only [eqT];exact EqAt.int_list c ct p2 hu0
   | non=>simp only [eqT];exact EqAt.int_none c ct
   | bl b=>simp only [eqT];exact EqAt.int_bool c ct b
   | int i t=>simp only [eqT];exact EqAt.int_int c ct i t
   | str x t=>simp only [eqT];exact EqAt.int_str c ct x t
  | str c ct =>
   cases s2 with
   | dct=>simp [Qk] at h2
   | clo=>simp [Qk] at h2
   | dtt=>simp [Qk] at h2
   | tup j2 i2 r2 p2=>simp only [eqT];exact EqAt.str_tuple c ct p2 hu0
   | lst j2 i2 r2 p2=>simp only [eqT];exact EqAt.str_list c ct p2 hu0
   | non=>simp only [eqT];exact EqAt.str_none c ct
   | bl b=>simp only [eqT];exact EqAt.str_bool c ct b
   | int i t=>simp only [eqT];exact EqAt.str_int c ct i t
   | str x t=>simp only [eqT];exact EqAt.str_str c ct x t
end
section
variable {X:Cx}
def Q3c (neg:Bool):R2:=fun x y H Q=>∃ t t',Is H x t∧Is H y t'∧Qk 50 t=true∧Qk 50 t'=true∧((∃ ts us,t=.tup ts∧t'=.tup us)∨∃ ts us,t=.lst ts∧t'=.lst us)∧Q (.bl (if neg then !eqT t t' else eqT t t')) H
theorem Qnn (hu:X.A.units+64<cLine)(I:Inv X pins σ H s){x y:V}{v u:Value}{t t':T}(rx:RelV x v)(ry:RelV y u)(i:Is H x t)(j:Is H y t')(h1:Qk 50 t=true)(h2:Qk 50 t'=true)
  (hk:(∃ ts us,t=.tup ts∧t'=.tup us)∨∃ ts us,t=.lst ts∧t'=.lst us):SeqAt.RcAt X.A s v u (eqT t t')∧SeqAt.RcNeAt X.A s v u (!eqT t t'):=by
 have ih:=Qyg 49 (A:=X.A.in1) (P:=X.prog) (w:=X.w) I.hok (by show X.A.units+1+49<cLine;omega)
 have s1:=i.shp rx I.hok
 have s2:=j.shp ry I.hok
 rcases hk with ⟨ts,us,rfl,rfl⟩ | ⟨ts,us,rfl,rfl⟩
 ·rw [Qk] at h1 h2
  rw [eqT]
  cases s1 with
  | tup j1 i1 r1 p1 =>
   cases s2 with
   | tup j2 i2 r2 p2=>exact Qye i1 i2 r1 r2 I.hok h1 h2 p1 p2 (by omega) ih
 ·rw [Qk] at h1 h2
  rw [eqT]
  cases s1 with
  | lst j1 i1 r1 p1 =>
   cases s2 with
   | lst j2 i2 r2 p2=>exact Qyf i1 i2 r1 r2 I.hok h1 h2 p1 p2 (by omega) ih
theorem Qacq (hu:X.A.units+64<cLine):QOp X (compareOp .Eq) (Q3c false):=⟨by
 intro pins s σ H x y v u Q I rx ry q
 obtain ⟨t,t',i,j,h1,h2,hk,q⟩:=q
 exact (Qnn hu I rx ry i j h1 h2 hk).1 _ _ _ _ ⟨.bl _,H,I,rfl,q⟩⟩
theorem Qacr (hu:X.A.units+64<cLine):QOp X (compareOp .NotEq) (Q3c true):=⟨by
 intro pins s σ H x y v u Q I rx ry q
 obtain ⟨t,t',i,j,h1,h2,hk,q⟩:=q
 exact (Qnn hu I rx ry i j h1 h2 hk).2 _ _ _ _ ⟨.bl _,H,I,rfl,q⟩⟩
end
section
open PySem.W
end
def xcOk (K:Frg) (D:Addr):Bool:=PySem.W.findIn K (.ref D) "__getattribute__" == some (some (.builtin "BaseException.__getattribute__"))&&PySem.W.findIn K (.ref D) "__getattr__" == some none&&PySem.W.mroIn K D (.type "BaseException")==some true&&(PySem.W.clsIn K D).isSome&&PySem.W.findIn K (.ref D) "__class__" == some (some (.builtin "object.__class__")) &&
 PySem.W.specialIn K (.builtin "object.__class__") "__get__" == some (some (.builtin "getset_descriptor.__get__"))&&PySem.W.takesIn K (.builtin "object.__class__")==some true&&PySem.W.mroIn K D (.type "object")==some true
section
variable {X:Cx}
end
section
variable {P:Program} {w:World} {K:Frg} {mg:Str→Option Value} {base:Heap}
end
section
variable {X:Cx} {x:Str} {ps:List Str} {k:Nat} {sp:Sp} {e:Expr} {es:List Expr} {t:TA} {p pos:Pos}
end
def cad (mg:Str→Option Value) (x:Str):Addr:=match mg x with
 | some (.ref a)=>a
 | _=>0
def bmV:List Value:=[.type "ValueError",.type "Exception",.type "BaseException",.type "object"]
def Qs2:List Str:=["NoTable","NoWay","NoSet","NoRest","NoLine","NoRow","NoTables","Below","NoText","TooGreat"]
def Qacs (K:Frg) (c0:Addr) (cs:List Addr):Bool :=
 PySem.W.excIn K c0 bmV "ValueError.__new__" && (cs.take 6).all (fun c=>PySem.W.excIn K c bmV "ValueError.__new__")&&cs.all (fun c=>xcOk K c&&PySem.W.mroIn K c (.ref c0)==some true&&PySem.W.kitOne K (.ref c) (.type "ValueError")==some true) &&
  cs.zipIdx.all (fun p=>cs.zipIdx.all fun q=>PySem.W.kitOne K (.ref p.1) (.ref q.1)==some (p.2==q.2))
structure Exs (K:Frg) (mg:Str→Option Value):Prop where
 m0:mg "NoughtError" = some (.ref (cad mg "NoughtError"))
 m:∀ (i:Nat) (x:Str),Qs2[i]?=some x→mg x=some (.ref (cad mg x))
 ok:Qacs K (cad mg "NoughtError") (Qs2.map (cad mg))=true
section
variable {K:Frg} {mg:Str→Option Value}
end
section
variable {X:Cx} {pins:List (Addr×Obj)} {σ:St} {H:Hp} {s:Shared} {h':Heap}
theorem Inv.turnedL {fp:List Addr}(I:Inv X pins σ H s)(k:∀ b o,b∉fp→s.heap.get? b=some o→h'.get? b=some o)(hf:∀ b∈fp,Qh0 X pins H b):Inv X pins σ H { s with heap:=h',toks:=t' }:=by
 have nit:∀ b u,H b=some u→b∉fp:=fun b u e z=>by rw [(hf b z).1] at e;cases e
 refine I.step (g':=s.gens) (d':=s.drawn) (ch:=fp) (fun b hb=>?_) (fun b o _ _ hc e _=>k b o hc e) (fun b o _ _ hc e _=>⟨o.slots,k b o hc e⟩) (fun _ _ _ _ n=>n)
  (fun b o hc e=>⟨o,k b o hc e⟩) (fun _ _ e=>e) (fun _ _ _ e=>e) (fun _ _ e=>e) (fun m hm=>?_) (fun b u e=>?_) I.bare
 ·obtain ⟨_,f1,_,f3,f4,f5⟩:=hf b hb
  exact ⟨f3,f1,f4,f5⟩
 ·obtain ⟨o,es,ep,ho,r⟩:=hm
  exact ⟨o,es,ep,k _ o (fun z=>(hf _ z).2.1 rfl) ho,r⟩
 ·refine (I.hok b u e).stay (fun c v hc q=>k c v ?_ q) (fun _ q=>q) fun _ _ q=>q
  rcases hc with z | z
  ·rw [z];exact nit b u e
  ·exact nit c _ z
end
def Ite (K:Frg) (a:Addr):It :=
 ⟨fun i H=>∃ xs x,SqL K H a xs∧xs[i]?=some x,fun i H v H'=>∃ p x,v=.ref p∧H p=none∧(∀ xs,SqL K H a xs→xs[i]?=some x)∧H'=upd H p (.tup [.int (i:Nat),x]),fun i H=>∃ xs,SqL K H a xs∧xs.length≤i⟩
theorem Qwi {x1}{tp:Pos}(a e it:Addr)(hne:e≠it):Turn P w K (.Tuple es x1 tp) (Ite K a) [e,it] e (fun i h=>(∃ old,IsEnum h e it ((i:Nat):Int) old)∧h.IsListIter it a i) where
 mem:=by simp
 obj:=fun i h st b hb=>by
  obtain ⟨⟨old,he⟩,o,ho,c,d⟩:=st
  have hb:b=e∨b=it:=by simpa using hb
  rcases hb with rfl | rfl
  ·exact ⟨_,he,fun v z=>by
    have z':Data.fields _=Data.cell v:=z
    cases z'⟩
  ·exact ⟨o,ho,fun v z=>by rw [d] at z;cases z⟩
 keep:=fun i h h' st k=>⟨let ⟨old,he⟩:=st.1;⟨old,k e (by simp) _ he⟩,st.2.at fun o q=>k it (by simp) o q⟩
 item:=by
  intro X hP hw hK hc i pins s σ H E I hf st hg
  subst hP hw hK
  obtain ⟨xs,x,hq,hx⟩:=hg
  obtain ⟨its,rv,p,hz⟩:=I.list hq
  obtain ⟨u,hu,ru⟩:=rv.get hx
  obtain ⟨⟨old,he⟩,hit⟩:=st
  have hel:e<s.heap.objs.size:=Heap.lt_size he
  refine wpAny_pyNext_enum_item he hit p.isList (x:=u) (by simpa using hu) hne fun h1 ho hit1 hT hsz hk=>⟨_,rfl,?_⟩
  refine wpAny_letOwnedTupleGo_enum (s:={ s with heap:=h1,toks:=s.toks+1 }) ho fun h2 he2 hs2=>?_
  have hs2:Heap.SameBut e h1 h2:=hs2
  have hf0:H s.heap.objs.size=none:=I.hok.fresh (Nat.le_refl _)
  have I1:Inv X pins σ (upd H s.heap.objs.size (.tup [.int (i:Nat),x])) { s with heap:=s.heap.push { cls:=.type "tuple",data:=.seq #[.int (i:Nat) s.toks,u] },toks:=s.toks } :=
   I.laid (fun b o q=>Heap.get?_push_of_some _ q) (Nat.le_refl _) ⟨by show 2≤sizeLine;decide,[.int (i:Nat) s.toks,u],.cons ⟨_,rfl⟩ (.cons ru .nil),⟨_,Heap.get?_push_size _ rfl,rfl,_,rfl,rfl⟩⟩
  have ne:∀ b∈[e,it],b≠s.heap.objs.size:=fun b hb=>by
   have hb:b=e∨b=it:=by simpa using hb
   obtain ⟨_,ho',_⟩:=hit
   rcases hb with rfl | rfl
   ·exact Nat.ne_of_lt hel
   ·exact Nat.ne_of_lt (Heap.lt_size ho')
  have hf1:∀ b∈[e,it],Qh0 X pins (upd H s.heap.objs.size (.tup [.int (i:Nat),x])) b:=fun b hb=>⟨by rw [Qw (ne b hb)];exact (hf b hb).1,(hf b hb).2⟩
  have I2:=I1.turnedL (h':=h2) (t':=s.toks+1) (fp:=[e,it]) (fun b o hb q=>by
   have hbe:b≠e:=fun z=>hb (by simp [z])
   have hbi:b≠it:=fun z=>hb (by simp [z])
   rw [hs2.2 b hbe]
   rcases Heap.get?_push_cases q with ⟨rfl,rfl⟩ | q
   ·exact hT
   ·exact hk b o hbe hbi q) hf1
  refine ⟨.ref s.heap.objs.size,_,I2,rfl,⟨_,x,rfl,hf0,fun ys hy=>by rw [I.list_inj hy hq];exact hx,rfl⟩,⟨⟨u,?_⟩,hit1.at fun o q=>(hs2.2 it hne.symm).trans q⟩,fun b hb=>(hf1 b hb).1⟩
  have:((i+1:Nat):Int)=(i:Int)+1:=by push_cast;rfl
  rw [this]
  exact he2
 done:=by
  intro X hP hw hK hc i pins s σ H E I hf st hg
  subst hP hw hK
  obtain ⟨xs,hq,hx⟩:=hg
  obtain ⟨its,rv,p,hz⟩:=I.list hq
  obtain ⟨⟨old,he⟩,hit⟩:=st
  have hl:=rv.length
  refine wpAny_pyNext_enum_end (I.ok.hd hc) he hit p.isList (by simp;omega) fun h1 eb=>⟨rfl,I.turnedL (t':=s.toks) (fp:=[e,it]) (fun b o hb q=>eb b o (fun z=>hb (by simp [z])) q) hf⟩
 self:=fun _ _ _ _ _ st h=>let ⟨_,he⟩:=st.1;wpAny_pyIter_enum he h
section
variable {X:Cx}
def Q57 (K:Frg) (ta:TA):TI:=fun σ H R=>ta σ H fun vs H1=>∃ a xs,vs=[.ref a]∧SqL K H1 a xs∧R (Ite K a) H1
theorem Q3d {a:Expr}{ta:TA}{x1}{tp p:Pos}(K:Frg)(hK:X.K=K)(hg:Gl X "enumerate")(hm:X.mg "enumerate" = none)(hb:PySem.bootBuiltins "enumerate" = some (.type "enumerate"))(ha:PA X [a] ta)(hs:starEach [a] X.env=[(false,eval a X.env)]:=by rfl) :
  PI X (.Tuple es x1 tp) (.Call (.Name "enumerate" p) [a] [] pos) (Q57 K ta):=by
 subst hK
 intro pins s σ H R I h
 refine Call_ (Qjb I hg hm hb (PyProof.Rows.callWith_type1 (thn (ha pos pins s σ H _ I h) fun us s1 ⟨vs,H1,I1,r1,q1⟩=>?_) hs rfl))
 obtain ⟨b,xs,e,hq,q⟩:=q1
 subst e
 cases r1 with
 | cons r rr =>
  cases rr
  cases r
  obtain ⟨its,rv,pl,hz⟩:=I1.list hq
  refine call_enumerate_list pl.isList fun h1 he hit hsz hk=>wpAny_pyIter_enum he ?_
  refine ⟨s1.heap.objs.size+1,[s1.heap.objs.size+1,s1.heap.objs.size],_,_,H1,rfl,I1.kept (t':=s1.toks) hk,Qwi b _ _ (Nat.succ_ne_self _),⟨⟨_,he⟩,hit⟩,fun c hc=>?_,q⟩
  have hc:c=s1.heap.objs.size+1∨c=s1.heap.objs.size:=by simpa using hc
  rcases hc with rfl | rfl
  ·exact I1.fpOk (Nat.le_succ _) (I1.hok.fresh (Nat.le_succ _))
  ·exact I1.fpOk (Nat.le_refl _) (I1.hok.fresh (Nat.le_refl _))
theorem Q9g {a:Expr}{ta:TA}{x1}{tp p:Pos}(K:Frg)(hK:X.K=K)(hm:X.mg "enumerate" = none)(hb:PySem.bootBuiltins "enumerate" = some (.type "enumerate"))(ha:QA X [a] ta)(hg:Gl X "enumerate" := by rfl)(hs:Qu a=true:=by rfl) :
  QI X (.Tuple es x1 tp) (.Call (.Name "enumerate" p) [a] [] pos) (Q57 K ta):=⟨Q3d K hK hg hm hb ha.h (Qa3 hs)⟩
end
section
variable {P:Program} {w:World} {A:Around} {E:Value→Shared→Prop} {s:Shared}
def IsIt:Bool→Heap→Addr→Addr→Nat→Prop
 | true,h,i,l,n=>h.IsListIter i l n
 | false,h,i,l,n=>h.IsTupleIter i l n
def IsSq:Bool→Heap→Addr→Array Value→Prop
 | true,h,l,xs=>h.IsList l xs
 | false,h,l,xs=>h.IsTuple l xs
structure ZT (lb:Bool) (h:Heap) (z ti to i1 i2 l1 l2:Addr) (n:Nat) (xs ys:Array Value):Prop where
 z:IsZip h z ti to .none
 ti:IsPair h ti (.ref i1) (.ref i2)
 to:∃ a b,IsPair h to a b
 i1:IsIt lb h i1 l1 n
 i2:h.IsTupleIter i2 l2 n
 l1:IsSq lb h l1 xs
 l2:h.IsTuple l2 ys
end
section
variable {P:Program} {w:World} {A:Around} {E:Value→Shared→Prop} {s:Shared}
end
section
variable {X:Cx}
end
def excF (K:Frg) (c0 C:Addr) (bmB:List Value) (newId:String) (f:Addr):Bool:=match K.lookup C with
 | some ⟨.type "type",_,.cls cl,ks⟩=>(match cl.mro,ks.toList with
  | .ref C1::.ref b0::tl,[_,_,_,_,some (.builtin n1),_]=>C1==C&&n1==newId&&b0==c0&&tl==bmB && !cl.hasDel&&cl.hasDict&&PySem.W.tailIn K bmB (.ref b0::tl)
  | _,_=>false)
 | _=>false
def Q9h (K:Frg) (c0 C f:Addr):Bool:=excF K c0 C bmV "ValueError.__new__" f&&PySem.W.findIn K (.ref C) "__init__" == some (some (.ref f))&&PySem.W.findIn K (.ref C) "__setattr__" == some (some (.builtin "object.__setattr__"))&&PySem.W.findIn K (.ref C) "at" == some none&&PySem.W.mroIn K C (.type "object")==some true
section
variable {prog:Program} {w:World} {A:Around} {E:Value→Shared→Prop} {h:Heap} {g:Array GenState} {d:Drawn} {t:Nat} {os:OsState}
variable {nm q:Str} {C N c0:Addr} {bs bm bmB:List Value} {hd:Bool} {sn:List Str} {sub:List Value} {ab:Bool} {col:Option Bool} {dd:Option Addr} {k0 k1 k2 k3 k5:Option Value} {B nid iid:String}
structure Ini (K:Frg) (c0 C:Addr):Prop where
 ex:∃ (f:Addr) (fd:FuncData) (qn:Str) (st:Stmt) (p1 p2 p3 p4:Pos),Q9h K c0 C f=true∧Fun K "__init__" qn st f fd∧(∃ od osl,K.lookup f=some ⟨.type "function",od,.func fd,osl⟩)∧FnScope ["self","at"] ["self","at"] (Qi st) ∧
  (Qi st).names.lookup ("self" : Str)=some .local∧(Qi st).names.lookup ("at" : Str)=some .local∧Binds K fd ["self","at"] []∧Qbk st=[.Assign [.Attribute (.Name "self" p1) "at" p2] (.Name "at" p3) p4]
end
section
variable {X:Cx} {pins:List (Addr×Obj)} {σ:St} {H:Hp} {s:Shared}
end
section
variable {M:Model} {A:Around} {E:Value→Shared→Prop} {env:Env} {nm q:Str} {C N:Addr} {bs bm:List Value} {hd:Bool} {sn:List Str} {sub:List Value} {ab:Bool} {col:Option Bool} {dd:Option Addr} {k0 k1 k2 k3 k5:Option Value} {nid:String}
end
section
variable {X:Cx} {x:Str} {e:Expr} {t:TA} {pos cpos np:Pos} {R:XR} {c0 C:Addr} {k:Nat}
end
section
variable {X:Cx} {e:Expr} {te:TE} {pos:Pos}
end
section
variable {X:Cx}
noncomputable def isI (n:Int) (v:Value):Bool:=match v with
 | .int m _=>m==n
 | _=>false
end
theorem Qs3 {elt:Expr}{ppos:Pos}{wi:TI}{tc:TT}{use:Option (Value→Sem Unit)}{R:Value→Shared→Prop}(hcalm:X.calm=true)
  (hi:PI X tg iter wi) (hg:∀ s H fp,PG (Q0 X scope N s H fp) tg g) (hc:∀ s H fp,PTs (Q0 X scope N s H fp) ifs tc) (he:∀ s H fp,PE (Q0 X scope N s H fp) elt te)
  (hk:scope.kind=.function) (h1:scOk X scope=true) (h2:Qgw X scope N js=true) (hs:∀ x,foldedSetIterable iter X.env x=pure x) {pins:List (Addr×Obj)} {s:Shared} {σ:St} {H:Hp} {Q:VK} (I:Inv X pins σ H s) (h:Qnh wi js g tc te σ H Q)
  (fin0:∀ (l C:Addr) (H':Hp) (s':Shared),(∃ m,s'.heap.Ns C m)→(∀ h',Heap.SameBut C s'.heap h'→Inv X pins σ H' { s' with heap:=h' })→Qh0 X pins H' C→Q (.ref l) H'→compPost (model X.prog X.w) X.A X.xe use R (.ref l) C (.ok .next) s') :
  wpAny (model X.prog X.w) X.A (comprehension (.ListComp elt [⟨tg,iter,ifs,0⟩] scope pos) scope X.env ppos (newList []) false (firstIter [⟨tg,iter,ifs,0⟩] X.env) use) R X.xe s:=by
 refine wpAny_comprehension_free (use:=use) rfl hs (Qk0 (scOk.cells I h1)) hk (fun x hx hl=>by rw [(scOk.get h1 hx).2,hl]) ?_
 refine thn (hi pins s σ H _ I h) fun v s1 h1'=>thn h1' fun itv s2 h2'=>?_
 obtain ⟨it,fp,tn,J,H2,e,I2,T,st2,f2,q⟩:=h2'
 subst e
 refine wpAny_newObj_type ?_
 have hl:H2 s2.heap.objs.size=none:=I2.hok.fresh (Nat.le_refl _)
 obtain ⟨W,⟨m0,w0⟩,turn⟩:=q _ hl
 have I3:Inv X pins σ (upd H2 s2.heap.objs.size (.lst [])) { s2 with heap:=s2.heap.push { cls:=.type "list",data:=.seq ([]:List Value).toArray } }:=I2.lnew (t':=s2.toks) (ys:=[]) .nil (Nat.zero_le _)
 generalize hs3:({ s2 with heap:=s2.heap.push { cls:=.type "list",data:=.seq ([]:List Value).toArray } }:Shared)=s3 at I3
 generalize hH3:upd H2 s2.heap.objs.size (.lst [])=H3 at I3 w0
 generalize hl':s2.heap.objs.size=l at turn hH3 hl
 have kp3:∀ b o,s2.heap.get? b=some o→s3.heap.get? b=some o:=fun b o e=>by rw [←hs3];exact Heap.get?_push_of_some _ e
 have ob3:∀ b∈fp,∃ o,s3.heap.get? b=some o∧∀ v,o.data≠.cell v:=fun b hb=>by
  obtain ⟨o,e,d⟩:=T.obj _ _ st2 b hb
  exact ⟨o,kp3 b o e,d⟩
 have f3:∀ b∈fp,Qh0 X pins H3 b:=fun b hb=>by
  obtain ⟨o,e,d⟩:=T.obj _ _ st2 b hb
  refine ⟨?_,(f2 b hb).2⟩
  rw [←hH3,Qw (Nat.ne_of_lt (by rw [←hl'];exact Heap.lt_size e))]
  exact (f2 b hb).1
 refine Qjy ?_
 have I4:=Qqh (N:=N) (js:=js) I3 hk h1 h2 f3 ob3
 have st4:tn 0 (pushCells (s3.heap.push { cls:=.type "dict",data:=.dict #[] }) scope.names):=T.keep _ _ _ st2 fun b hb o e=>pushCells_keeps _ _ _ _ (Heap.get?_push_of_some _ (kp3 b o e))
 have fr4:∀ b∈fp,H3 b=none:=fun b hb=>(f3 b hb).1
 have fpX:∀ {H':Hp},(∀ b∈fp,H' b=none)→∀ b∈fp,Qh0 (Q0 X scope N s3 H3 fp) [] H' b:=fun hn b hb=>by
  have ok:=I4.ok
  refine ⟨hn b hb,(ok.exf b hb).1,ok.exfs b hb,.inl hb,(ok.exf b hb).2,fun p hp=>absurd (show p∈([]:List (Addr×Obj)) from hp) (by simp)⟩
 -- the block's end
 have fin:∀ {σ':St} {H':Hp} {s':Shared},Inv (Q0 X scope N s3 H3 fp) [] σ' H' s'→Q (.ref l) H'→compPost (model X.prog X.w) X.A X.xe use R (.ref l) s3.heap.objs.size (.ok .next) s':=fun {σ' H' s'} I' q'=>by
  obtain ⟨m,hn,_⟩:=id I'.loc
  have hfr:H' s3.heap.objs.size=none:=I'.free
  refine fin0 l _ H' s' ⟨m,hn⟩ (fun h' hsb=>?_) (I3.fpOk (Nat.le_refl _) hfr) q'
  refine I3.call' (s':={ s' with heap:=h' }) (ch:=fp) I'.os ⟨fun b o e n hb hx=>?_,fun b o e n hb hx=>?_,I'.base.free,fun b o e hx=>?_,I'.base.tups,I'.base.frzs,I'.base.tbls⟩ (fun b u e=>?_) I'.bare (fun b hb=>⟨(f3 b hb).2.2.2.1,(f3 b hb).2.1,(f3 b hb).2.2.2.2.1,(f3 b hb).2.2.2.2.2⟩)
  ·exact (hsb.2 b (Nat.ne_of_lt (Heap.lt_size e))).trans (I'.base.keep b o e n hb hx)
  ·obtain ⟨sl,z⟩:=I'.base.slot b o e n hb hx
   exact ⟨sl,(hsb.2 b (Nat.ne_of_lt (Heap.lt_size e))).trans z⟩
  ·obtain ⟨o',z⟩:=I'.base.there b o e hx
   exact ⟨o',(hsb.2 b (Nat.ne_of_lt (Heap.lt_size e))).trans z⟩
  ·refine (I'.hok b u e).stay (fun c w' hc z=>(hsb.2 c ?_).trans z) (fun _ z=>z) fun _ _ z=>z
   rintro rfl
   rcases hc with rfl | hc
   ·rw [hfr] at e;cases e
   ·rw [hfr] at hc;cases hc
 have loop:codeAny (model X.prog X.w) X.A (.compLoop (.ListComp elt [⟨tg,iter,ifs,0⟩] scope pos) 0 (.ref it) (.ref l) (Q0 X scope N s3 H3 fp).env) (compPost (model X.prog X.w) X.A X.xe use R (.ref l) s3.heap.objs.size)
   { s3 with heap:=pushCells (s3.heap.push { cls:=.type "dict",data:=.dict #[] }) scope.names }:=by
  refine Qih (fun n s'=>∃ i ys σ' H',Inv (Q0 X scope N s3 H3 fp) [] σ' H' s'∧tn i s'.heap∧(∀ b∈fp,H' b=none)∧W i n ys σ' H') ?_ m0 ⟨0,[],Qea js σ,H3,I4,st4,fr4,w0⟩
  rintro n s5 ⟨i,ys,σ5,H5,I5,st5,fr5,w5⟩
  rcases turn i n ys σ5 H5 w5 with ⟨stop,qn⟩ | ⟨go,step⟩
  ·refine thn (T.done (Q0 X scope N s3 H3 fp) rfl rfl rfl hcalm i [] s5 σ5 H5 _ I5 (fpX fr5) st5 stop) fun r s6 ⟨hr,I6⟩=>?_
   subst hr
   exact fin I6 qn
  ·refine thn (T.item (Q0 X scope N s3 H3 fp) rfl rfl rfl hcalm i [] s5 σ5 H5 _ I5 (fpX fr5) st5 go) fun r s6 ⟨u,hr,h6⟩=>?_
   subst hr
   refine thn h6 fun _ s7 ⟨x,H7,I7,r7,y7,st7,fr7⟩=>?_
   have I7':=I7.pinned (fpX fr7) (T.obj _ _ st7)
   have again:∀ {σ8:St} {H8:Hp} {s8:Shared} {ys8:List V},Inv (Q0 X scope N s3 H3 fp) ([]++Qjc fp s7.heap) σ8 H8 s8→(∃ m',m'<n∧W (i+1) m' ys8 σ8 H8) →
     ∃ m,m<n∧∃ i ys σ' H',Inv (Q0 X scope N s3 H3 fp) [] σ' H' s8∧tn i s8.heap∧(∀ b∈fp,H' b=none)∧W i m ys σ' H':=fun {σ8 H8 s8 ys8} I8 ⟨m',hm,w8⟩=>by
    refine ⟨m',hm,i+1,ys8,σ8,H8,I8.unpinned,T.keep _ _ _ st7 fun b hb o e=>(I8.pin (b,o) (List.mem_append_right _ (List.mem_append_right _ (Qcw hb e)))).1,fun b hb=>?_,w8⟩
    obtain ⟨o,e,d⟩:=T.obj _ _ st7 b hb
    exact (I8.pin (b,o) (List.mem_append_right _ (List.mem_append_right _ (Qcw hb e)))).2.1
   refine thn (hg s3 H3 fp _ s7 σ5 H7 x u _ I7' r7 (step x H7 y7)) fun _ s8 ⟨σ8,H8,I8,q8⟩=>?_
   refine thn (hc s3 H3 fp _ s8 σ8 H8 _ I8 q8) fun ok s9 ⟨H9,I9,q9⟩=>?_
   cases ok with
   | false =>
    rw [if_neg Bool.false_ne_true] at q9 ⊢
    exact again I9 q9
   | true =>
    rw [if_pos rfl] at q9 ⊢
    refine thn (he s3 H3 fp _ s9 σ8 H9 _ I9 q9) fun y s10 ⟨vy,H10,I10,r10,a10,z10,q10⟩=>?_
    refine thn (Qjf (X:=Q0 X scope N s3 H3 fp) _ s10 σ8 H10 (.ref l) [vy] (.ref l) [y] (fun _ H'=>∃ m',m'<n∧W (i+1) m' (ys++[vy]) σ8 H') I10 rfl (.cons r10 .nil) ⟨l,ys,vy,rfl,rfl,a10,z10,q10⟩) fun _ s11 ⟨_,H11,I11,_,q11⟩=>?_
    exact again I11 q11
 first
  | exact codeAny_compStart_list loop (T.self _ 0 _ _ _ st4 loop)
  | (rw [← hs3] at loop st4
     exact codeAny_compStart_list loop (T.self _ 0 _ _ _ st4 loop))
theorem Qs4 {elt:Expr}{cpos:Pos}{wi:TI}{g2:TG}{tc:TT}(hcalm:X.calm=true)
  (hi:PI X tg iter wi) (hg:∀ s H fp,PG (Q0 X scope N s H fp) tg g) (hc:∀ s H fp,PTs (Q0 X scope N s H fp) ifs tc) (he:∀ s H fp,PE (Q0 X scope N s H fp) elt te) (h2g:PG X tgE g2)
  (hk:scope.kind=.function) (h1:scOk X scope=true) (h2:Qgw X scope N js=true) (hs:∀ x,foldedSetIterable iter X.env x=pure x)
  (hsw:swapsWithSole [tgE] (.ListComp elt [⟨tg,iter,ifs,0⟩] scope cpos) pos.line X.env=pure true) (ha:(assignEach [tgE] X.env).map (·.2)=[assign tgE X.env]) :
  PS X (.Assign [tgE] (.ListComp elt [⟨tg,iter,ifs,0⟩] scope cpos) pos) (Qhz (Qnh wi js g tc te) g2):=by
 intro pins s σ H D I h
 rw [arm_exec_Assign]
 refine wpAny_bind (wpAny_standAt ?_)
 rw [hsw]
 refine wpAny_bind (wpAny_pure ?_)
 rw [if_pos rfl]
 refine wpAny_bind ?_
 rw [arm_evalThenUse_ListComp,ha]
 refine wpAny_bind (Qs3 (use:=some fun v=>assignAll v [assign tgE X.env]) hcalm hi hg hc he hk h1 h2 hs I h fun l C H' s' hns hInv fpC q=>?_)
 obtain ⟨m,o,es,ep,ho,hd,r⟩:=hns
 have J0:Inv X pins σ H' s':=hInv s'.heap (Heap.SameBut.refl ..)
 have J1:=J0.pinned (fp:=[C]) (fun b hb=>by rw [List.mem_singleton.mp hb];exact fpC) (fun b hb=>by
  rw [List.mem_singleton.mp hb]
  exact ⟨o,ho,fun v z=>by rw [hd] at z;cases z⟩)
 show wpAny _ _ (assign tgE X.env (.ref l)) _ _ _
 refine thn (h2g _ s' σ H' (.ref l) (.ref l) D.nx J1 rfl q) fun _ s2 ⟨σ2,H2,I2,q2⟩=>?_
 have hp:=I2.pin (C,o) (List.mem_append_right _ (List.mem_append_right _ (Qcw (List.mem_singleton.mpr rfl) ho)))
 refine ⟨m,⟨o,es,ep,hp.1,hd,r⟩,fun h' hsb=>?_⟩
 have I3:=I2.unpinned.turnedL (h':=h') (t':=s2.toks) (fp:=[C]) (fun b o' hb e=>by
  rw [hsb.2 b (fun z=>hb (by rw [z];exact List.mem_singleton.mpr rfl))]
  exact e) (fun b hb=>by
  rw [List.mem_singleton.mp hb]
  exact ⟨hp.2.1,fpC.2⟩)
 exact wpAny_pure (wpAny_pure ⟨σ2,H2,I3,q2⟩)
def keyD:Key→PyData
 | .inl i=>.int i
 | .inr x=>.str x
mutual
def pyD:T→PyData
 | .non=>.none
 | .bl b=>.bool b
 | .int i=>.int i
 | .str x=>.str x
 | .tup ts=>.tuple (Qmo ts)
 | .lst ts=>.list (Qmo ts)
 | .dct ks ts=>.dict ((ks.map keyD).zip (Qmo ts))
 | .dtt _ _=>.none
 | .clo _ _=>.none
def Qmo:List T→List PyData
 | []=>[]
 | t::ts=>pyD t::Qmo ts
end
mutual
def Qep:T→Bool
 | .tup ts=>Qk6 ts
 | .lst ts=>Qk6 ts
 | .dct _ _=>false
 | .clo _ _=>false
 | .dtt _ _=>false
 | _=>true
def Qk6:List T→Bool
 | []=>true
 | t::ts=>Qep t&&Qk6 ts
end
mutual
theorem Qqo:∀ t:T,Qep t=true→(pyD t).hasDict=false
 | .non,_=>by simp only [pyD,PyData.hasDict]
 | .bl _,_=>by simp only [pyD,PyData.hasDict]
 | .int _,_=>by simp only [pyD,PyData.hasDict]
 | .str _,_=>by simp only [pyD,PyData.hasDict]
 | .tup ts,h=>by simp only [pyD,PyData.hasDict];exact Qf0 ts (by simpa only [Qep] using h)
 | .lst ts,h=>by simp only [pyD,PyData.hasDict];exact Qf0 ts (by simpa only [Qep] using h)
 | .dct _ _,h=>by simp only [Qep] at h;cases h
 | .clo _ _,h=>by simp only [Qep] at h;cases h
 | .dtt _ _,h=>by simp only [Qep] at h;cases h
theorem Qf0:∀ ts:List T,Qk6 ts=true→PyData.hasDictAll (Qmo ts)=false
 | [],_=>by simp only [Qmo,PyData.hasDictAll]
 | t::ts,h=>by
  simp only [Qk6,Bool.and_eq_true] at h
  simp only [Qmo,PyData.hasDictAll,Qqo t h.1,Qf0 ts h.2,Bool.or_false]
end
section
variable {P:Program} {w:World} {H:Hp} {h:Heap}
mutual
theorem Qyh (ok:HOk P w H h):∀ (t:T) {v:V} {u:Value},Qep t=true→Is H v t→RelV v u→∃ as,Reads h u (pyD t) as
 | .non,v,u,_,i,r=>by unfold Is at i;subst i;cases r;exact ⟨_,by unfold pyD;exact .none⟩
 | .bl b,v,u,_,i,r=>by unfold Is at i;subst i;cases r;exact ⟨_,by unfold pyD;exact .bool b⟩
 | .int n,v,u,_,i,r=>by unfold Is at i;subst i;obtain ⟨t,rfl⟩:=r;exact ⟨_,by unfold pyD;exact .int n t⟩
 | .str x,v,u,_,i,r=>by unfold Is at i;subst i;obtain ⟨t,rfl⟩:=r;exact ⟨_,by unfold pyD;exact .str x t⟩
 | .tup ts,v,u,f,i,r=>by
  obtain ⟨a,vs,rfl,ha,q⟩:=i.tup_inv
  cases r
  obtain ⟨_,its,rv,o,e,c,n,d,_⟩:=(show ObjOk P w H h a (.tup vs) from ok a _ ha)
  obtain ⟨as,R⟩:=Qjj ok ts (by simpa only [Qep] using f) q rv
  exact ⟨as,by unfold pyD;exact .tuple e c d (by simpa using R)⟩
 | .lst ts,v,u,f,i,r=>by
  obtain ⟨a,vs,rfl,ha,q⟩:=i.lst_inv
  cases r
  obtain ⟨_,its,n,rv,e⟩:=(show ObjOk P w H h a (.lst vs) from ok a _ ha)
  obtain ⟨as,R⟩:=Qjj ok ts (by simpa only [Qep] using f) q rv
  exact ⟨a::as,by unfold pyD;exact .list e rfl rfl (by simpa using R)⟩
 | .dct _ _,v,u,f,i,r=>by simp only [Qep] at f;cases f
 | .clo _ _,v,u,f,i,r=>by simp only [Qep] at f;cases f
 | .dtt _ _,v,u,f,i,r=>by simp only [Qep] at f;cases f
theorem Qjj (ok:HOk P w H h):∀ (ts:List T) {vs:List V} {us:List Value},Qk6 ts=true→IsL H vs ts→Vals vs us→∃ as,ReadsAll h us (Qmo ts) as
 | [],vs,us,_,i,r=>by
  rw [i.nil_inv] at r
  cases r
  exact ⟨_,by unfold Qmo;exact .nil⟩
 | t::ts,vs,us,f,i,r=>by
  obtain ⟨v,w',rfl,iv,iw⟩:=i.cons_inv
  simp only [Qk6,Bool.and_eq_true] at f
  cases r with
  | cons r0 rr =>
   obtain ⟨as,R⟩:=Qyh ok t f.1 iv r0
   obtain ⟨bs,R2⟩:=Qjj ok ts f.2 iw rr
   exact ⟨_,by unfold Qmo;exact .cons R R2⟩
end
end
def isD:T→Bool
 | .dct [] []=>true
 | .dct [.inr _] [.int _]=>true
 | _=>false
def shOk (t:T):Bool:=(pyD t).showable&&decide ((pyD t).shown.length≤sizeLine)&&decide ((pyD t).depth≤40)&&(Qep t||isD t)
section
variable {X:Cx}
end
structure ShD (c d:Nat) (t:T):Prop where
 b:(pyD t).bulk≤c
 l:(pyD t).leavesShort 32=true
 s:(pyD t).showable=true
 d:(pyD t).depth≤d
 f:Qep t=true
namespace Z
section
variable {H:Hp} {S:Addr→Prop} {x y:V} {Q:VK} {K:Frg}
variable {r:Nat}
end
end Z
end L2
namespace PySem
open Sem (wp)
open AutoSeq1 (wpAny_loadPart')
section
variable {prog:Program} {w:World} {A:Around} {E:Value→Shared→Prop} {s:Shared}
theorem wpAny_collect_range {Q:List Value→Shared→Prop}{r:Addr}{a b c:Int}{t u v:Tok}{n:Nat}(hh:A.handled=none)(hr:IsRange s.heap r a b c t u v)(hsmall:Builtin.Range.small a b c=true)
  (hn:Builtin.Range.rangeSize a b c=n) (hlen:n≤2^24)
  (hQ:∀ h' tk acc,(∀ b o',s.heap.get? b=some o'→h'.get? b=some o')→ItemsOf (fun i v=>∃ t,v=.int (a+i*c) t) acc n→Q acc.toList { s with heap:=h',toks:=tk }) :
  wpAny (model prog w) A (collect (.ref r)) Q E s:=by
 unfold collect
 refine wpAny_bind (wpAny_runValue (codeAny_builtin F.entry_proto_collect ?_))
 rw [Around.under_plainId F.plain_proto_collect _]
 show wpAny _ A.in1 (newList [] >>= fun l=>again (.builtin "list.__iadd__" ⟨[l,.ref r],[]⟩)) _ _ s
 refine wpAny_bind (wpAny_newObj_type ?_)
 refine wpAny_pure ⟨plainId_quiet F.plain_list_iadd _,codeAny_builtin F.entry_list_iadd ?_⟩
 rw [Around.under_plainId F.plain_list_iadd _]
 show wpAny _ A.in1 (Builtin.List.listExtendWith (.ref s.heap.objs.size) (.ref r) (.ref s.heap.objs.size)) _ _ _
 have hS:(s.heap.push { cls:=.type "list",data:=.seq ([]:List Value).toArray }).get? s.heap.objs.size=some { cls:=.type "list",data:=.seq #[] 0 }:=Heap.get?_push_size _ rfl
 refine wpAny_mono (wpAny_extend_range (A:=A) (R:=fun q s'=>q=.ok (.ret (.ref s.heap.objs.size))∧∃ h' tk acc c',s'={ s with heap:=h',toks:=tk }∧(∀ b o,s.heap.get? b=some o→h'.get? b=some o)∧h'.get? s.heap.objs.size=some { cls:=.type "list",dict:=none,data:=.seq acc c',slots:=#[] }∧ItemsOf (fun i v=>∃ t,v=.int (a+i*c) t) acc n)
  (s:={ s with heap:=s.heap.push { cls:=.type "list",data:=.seq ([]:List Value).toArray } }) hh (Heap.get?_push_of_some _ hr) hsmall hn hlen _ (.ref s.heap.objs.size) 0 hS
  fun h' tk acc' c' hk hS' hacc=>⟨rfl,h',tk,acc',c',rfl,fun b o e=>hk b o (Nat.ne_of_lt (Heap.lt_size e)) (Heap.get?_push_of_some _ e),hS',hacc⟩) (fun fin s' h=>?_) (fun e s' h=>?_)
 ·have fin' : ∀ h' tk acc c', (∀ b o, s.heap.get? b = some o → h'.get? b = some o) → h'.get? s.heap.objs.size = some { cls := .type "list", dict := none, data := .seq acc c', slots := #[] } → ItemsOf (fun i v => ∃ t, v = .int (a + i * c) t) acc n → wpAny (model prog w) A (match Value.ref s.heap.objs.size with
    | Value.ref a=>do
     match (← load a).data with
      | Data.seq xs _=>pure xs.toList
      | _=>unsupported "internal:collect"
    | _=>unsupported "internal:collect") Q E { s with heap:=h',toks:=tk }:=fun h' tk acc c' hk hS' hacc=>by
   show wpAny _ A (load s.heap.objs.size >>= _) _ _ _
   refine wpAny_bind (wpAny_load hS' ?_)
   exact wpAny_pure (hQ h' tk acc hk hacc)
  cases fin with
  | done f =>
   obtain ⟨e,h',tk,acc,c',rfl,hk,hS',hacc⟩:=h
   cases e
   exact fin' h' tk acc c' hk hS' hacc
  | again c'=>exact ⟨h.1,codeAny_mono h.2 fun q s'' hq=>by obtain ⟨rfl,h',tk,acc,c',rfl,hk,hS',hacc⟩:=hq;exact fin' h' tk acc c' hk hS' hacc⟩
 ·exact absurd h.1 (by simp)
end
theorem meets_tuple_new_range {r:Addr}{a b c:Int}{t u v:Tok}{n:Nat}(hsmall:Builtin.Range.small a b c=true)(hn:Builtin.Range.rangeSize a b c=n)(hlen:n≤2^24)(hz:n≤sizeLine) :
  Meets (Builtin.«tuple.__new__» ⟨[.type "tuple",.ref r],[]⟩)
   (fun A R s=>A.handled=none∧IsRange s.heap r a b c t u v∧∀ (h':Heap) (tk:Nat) (acc:Array Value),(∀ b o',s.heap.get? b=some o'→h'.get? b=some o')→ItemsOf (fun i v=>∃ t,v=.int (a+i*c) t) acc n→R (.ok (.ret (.ref h'.objs.size))) { s with heap:=h'.push { cls:=.type "tuple",data:=.seq acc },toks:=tk }) :=
 .of_wp fun prog w A R s h=>by
  obtain ⟨hp,g,d,tk,os⟩:=s;obtain ⟨hh,ht,h⟩:=h
  have hsub:=sub_tuple_self
  have hinit:=init_tuple_lookup
  have hmh:=madeHere_tuple
  have hT:Shared.TypeIs ⟨hp,g,d,tk,os⟩ (.ref r) "range" := ⟨_,ht,rfl⟩
  wp_walk using wpAny_loadPart' ht,wpAny_typeOf hT,wpAny_collect_range (A:=A.in1) hh ht hsmall hn hlen
  intro h' tk' acc hk hacc
  show wpAny _ _ (Builtin.Tuple.tupleExact acc.toList.toArray >>= fun v=>ret v) _ _ _
  unfold Builtin.Tuple.tupleExact
  refine wpAny_bind (wpAny_newObj_type ?_ (by show acc.toList.toArray.size≤sizeLine;simp only [Array.toArray_toList];rw [hacc.1];exact hz))
  refine wpAny_pure ⟨_,rfl,?_⟩
  have e:acc.toList.toArray=acc:=by simp
  rw [e]
  exact h h' tk' acc hk hacc
theorem call_tuple_range {prog:Program}{w:World}{A:Around}{E:Value→Shared→Prop}{s:Shared}{Q:Value→Shared→Prop}{r:Addr}{a b c:Int}{t u v:Tok}{n:Nat}(hh:A.handled=none)(hr:IsRange s.heap r a b c t u v)(hsmall:Builtin.Range.small a b c=true)(hn:Builtin.Range.rangeSize a b c=n)(hlen:n≤2^24)(hz:n≤sizeLine)
  (h:∀ (h':Heap) (tk:Nat) (acc:Array Value),(∀ b o',s.heap.get? b=some o'→h'.get? b=some o')→ItemsOf (fun i v=>∃ t,v=.int (a+i*c) t) acc n→Q (.ref h'.objs.size) { s with heap:=h'.push { cls:=.type "tuple",data:=.seq acc },toks:=tk }) :
  wpAny (model prog w) A (call (.type "tuple") [.ref r]) Q E s :=
 callType_new F.called_tuple (by decide) (F.typeCall_tuple_1 _) (F.newCall_tuple_1 _) (fun obj=>F.args_object_init_2 obj _) F.entry_tuple_new
  (meets_tuple_new_range hsmall hn hlen hz) ⟨hh,hr,fun h' tk acc hk hacc=>⟨⟨_,Heap.get?_push_size _ rfl,rfl⟩,h h' tk acc hk hacc⟩⟩
end PySem
namespace L2
open PySem PySem.Spec PyProof.Rows
variable {us:List Value} {H H' H0:Hp} {o:HO} {h:Heap} {α:Type} {P:Program} {w:World} {t' k n iW iS iT:Nat} {N ps:List Str} {j:Int} {A:Around} {X:Cx} {s:Shared} {pins:List (Addr×Obj)} {σ:St} {pos:Pos} {op:CmpOp} {c tg iter tgE:Expr} {K:Frg} {D:Ends} {es ifs:List Expr} {te:TE} {g:TG} {body:List Stmt} {Q:VK} {kindOf:Str→Option NameKind} {qual:Str} {scope:Scope} {sp:Sp} {st:Stmt} {kvs:List (List Key×V)} {env:Env} {js:List (Option Nat)} {G:Addr→Prop} {uF:T}
section
variable {X:Cx}
theorem Qqp:∀ {xs:List V} {us:List Value},xs.length=us.length→(∀ (j:Nat) x u,xs[j]?=some x→us[j]?=some u→RelV x u)→Vals xs us
 | [],[],_,_=>.nil
 | [],_::_,h,_=>by cases h
 | _::_,[],h,_=>by cases h
 | x::xs,u::us,h,g=>.cons (g 0 x u rfl rfl) (Qqp (by simpa using h) fun j a b e1 e2=>g (j+1) a b (by rw [List.getElem?_cons_succ];exact e1) (by rw [List.getElem?_cons_succ];exact e2))
theorem Qs5 {lo:Int}{acc:Array Value}(h:ItemsOf (fun i v=>∃ t,v=Value.int (lo+i*1) t) acc n):Vals (Qmn lo n) acc.toList:=by
 refine Qqp (by rw [Qk4,Array.length_toList,h.1]) fun j x u e1 e2=>?_
 obtain ⟨_,rfl⟩:=Qx0 e1
 obtain ⟨t,rfl⟩:=h.2 j u (by simpa using e2)
 exact ⟨t,by simp⟩
def Q3e:List V→Hp→VK→Prop:=fun xs H Q=>∃ j:Int,xs=[.int j]∧∀ p,H p=none→Q (.ref p) (upd H p (.rng 0 j))
theorem Qyi:QCl X (.type "range") Q3e:=⟨by
 intro pins s σ H xs us Q I r h
 obtain ⟨j,rfl,q⟩:=h
 obtain ⟨u,rfl,⟨t,rfl⟩⟩:=Qgl r
 refine call_range_1 ⟨.ref s.heap.objs.size,_,I.laid (o:=.rng 0 j) (fun b o e=>Heap.get?_push_of_some _ e) (Nat.le_refl _) ?_,rfl,q _ I.fresh⟩
 exact ⟨_,_,_,Heap.get?_push_size _ rfl⟩⟩
def Qact:List V→Hp→VK→Prop:=fun xs H Q=>∃ (p:Addr) (lo hi:Int),xs=[.ref p]∧H p=some (.rng lo hi)∧(-(2^62)≤lo∧lo<2^62 ∧ -(2^62)≤hi∧hi<2^62)∧(hi-lo).toNat≤100000∧∀ l,H l=none→Q (.ref l) (upd H l (.tup (Qmn lo (hi-lo).toNat)))
theorem Q9i (hc:X.calm=true:=by rfl):QCl X (.type "tuple") Qact:=⟨by
 intro pins s σ H xs us Q I r h
 obtain ⟨p,lo,hi,rfl,hp,⟨h1,h2,h3,h4⟩,hz,q⟩:=h
 obtain ⟨u,rfl,rx⟩:=Qgl r
 cases rx
 obtain ⟨t,u,v,e⟩:=(show ObjOk X.prog X.w H s.heap p (.rng lo hi) from I.hok p _ hp)
 have hsz:(hi-lo).toNat≤sizeLine:=Qbq hz
 refine call_tuple_range (n:=(hi-lo).toNat) (I.ok.hd hc) e (small_one h1 h2 h3 h4) (by rw [rangeSize_one];split <;> omega) (by omega) hsz fun h' tk acc hk hacc=>?_
 have I1:Inv X pins σ H { s with heap:=h' }:=I.kept (t':=s.toks) hk
 have I2:Inv X pins σ (upd H h'.objs.size (.tup (Qmn lo (hi-lo).toNat))) { s with heap:=h'.push { cls:=.type "tuple",data:=.seq acc },toks:=tk } :=
  I1.laid (t':=tk) (fun b o e=>Heap.get?_push_of_some _ e) (Nat.le_refl _) (show ObjOk X.prog X.w _ _ _ (.tup (Qmn lo (hi-lo).toNat)) from ⟨by rw [Qk4];exact hsz,acc.toList,Qs5 hacc,by have:=IsTupD.new h' acc;simpa using this⟩)
 exact ⟨.ref h'.objs.size,_,I2,rfl,q _ (I1.hok.fresh (Nat.le_refl _))⟩⟩
end
end L2
namespace L2
open PySem PySem.Spec PyProof.Rows PySem.W PySem.Calls
variable {us:List Value} {H H' H0:Hp} {o:HO} {h:Heap} {α:Type} {P:Program} {w:World} {t' k n iW iS iT:Nat} {N ps:List Str} {j:Int} {A:Around} {X:Cx} {s:Shared} {pins:List (Addr×Obj)} {σ:St} {pos:Pos} {op:CmpOp} {c tg iter tgE:Expr} {K:Frg} {D:Ends} {es ifs:List Expr} {te:TE} {g:TG} {body:List Stmt} {Q:VK} {kindOf:Str→Option NameKind} {qual:Str} {scope:Scope} {sp:Sp} {st:Stmt} {kvs:List (List Key×V)} {env:Env} {js:List (Option Nat)} {G:Addr→Prop} {uF:T}
def runK {α:Type} (lt:Nat→Nat→Bool):KasT α→α
 | .ret a=>a
 | .ask i j k=>runK lt (k (lt i j))
def ordK (n:Nat) (lt:Nat→Nat→Bool):List Nat:=if n<2 then List.range n else (runK lt (kas_sort n)).toList
def pick {α:Type} (vs:List α) (d:α) (is:List Nat):List α:=is.map fun i=>vs.getD i d
abbrev ltK (ks:List (List Int)):Nat→Nat→Bool:=fun i j=>HT.lexLt (ks.getD i []) (ks.getD j [])
def Qyj (ks:List (List Int)):List (List Int):=pick ks [] (ordK ks.length (ltK ks))
def Q58:List (List Int)→Bool
 | []=>true
 | k::_=>!k.isEmpty
end L2
namespace L2
open PySem PySem.Spec PyProof.Rows PySem.W PySem.Calls
variable {us:List Value} {H H' H0:Hp} {o:HO} {h:Heap} {α:Type} {P:Program} {w:World} {t' k n iW iS iT:Nat} {N ps:List Str} {j:Int} {A:Around} {X:Cx} {s:Shared} {pins:List (Addr×Obj)} {σ:St} {pos:Pos} {op:CmpOp} {c tg iter tgE:Expr} {K:Frg} {D:Ends} {es ifs:List Expr} {te:TE} {g:TG} {body:List Stmt} {Q:VK} {kindOf:Str→Option NameKind} {qual:Str} {scope:Scope} {sp:Sp} {st:Stmt} {kvs:List (List Key×V)} {env:Env} {js:List (Option Nat)} {G:Addr→Prop} {uF:T}
def Qum (k:List Int):Int:=reduceHash (Builtin.Tuple.tupleHashOf (k.map hashInt))
def Qk7 (ks:List (List Int)) (j:Nat):List Int:=ks.getD j []
def hAt (ks:List (List Int)) (es:Array Nat) (i:Nat):Int:=(es[i]?.map fun x=>Qum (Qk7 ks x)).getD 0
def Qacw (ks:List (List Int)) (j:Nat) (r:SetTable×Array Nat):Option (SetTable×Array Nat) :=
 match r.1.probe (hAt ks r.2) (Qum (Qk7 ks j)) (r.1.probeStart (Qum (Qk7 ks j))) with
 | some (.empty s none) =>
  if (r.1.put s).1.fits (SetTable.insertAt r.2 (r.1.put s).2 j).size && !(r.1.put s).1.tooFull && !(r.1.put s).1.gaveWay&&decide ((SetTable.insertAt r.2 (r.1.put s).2 j).size≤1000) then some ((r.1.put s).1,SetTable.insertAt r.2 (r.1.put s).2 j) else none
 | some (.candidate _ i _)=>match r.2[i]? with
  | some x=>if Qk7 ks x=Qk7 ks j then some r else none
  | none=>none
 | _=>none
def Qyk (led:Bool) (ks:List (List Int)):Nat→Option (SetTable×Array Nat)
 | 0=>some (.fresh 0 0 led,#[])
 | n+1=>match Qyk led ks n with
  | some r=>Qacw ks n r
  | none=>none
def Qacx (t:SetTable):Nat→Nat
 | 0=>0
 | i+1=>t.place.getD i 0+1
def Qyl (t:SetTable) (n:Nat):Bool:=(List.range (n+1)).all fun i=>SetTable.below t.place (Qacx t i)==i
def Qun (x:Nat):List Nat→List (List Nat)
 | []=>[[x]]
 | y::ys=>(x::y::ys)::(Qun x ys).map (y :: ·)
def Q59:List Nat→List (List Nat)
 | []=>[[]]
 | x::xs=>(Q59 xs).flatMap (Qun x)
def Qs6 (ks:List (List Int)) (is:List Nat):List (List Int):=pick ks [] is
def srtS (ks:List (List Int)):Option (List (List Int)) :=
 match Qyk true ks ks.length,Qyk false ks ks.length with
 | some (t,es),some (t',es') =>
  if Qyl t es.size&&decide (es.size<6)&&(es.toList.all fun j=>decide (j<ks.length) && !(Qk7 ks j).isEmpty)&&decide (es'.toList=es.toList) &&
    (Q59 es.toList).all (fun is=>decide (Qyj (Qs6 ks is)=Qyj (Qs6 ks es.toList))) then some (Qyj (Qs6 ks es.toList)) else none
 | _,_=>none
end L2
namespace L2
open PySem PySem.Spec PyProof.Rows PySem.W PySem.Calls
variable {us:List Value} {H H' H0:Hp} {o:HO} {h:Heap} {α:Type} {P:Program} {w:World} {t' k n iW iS iT:Nat} {N ps:List Str} {j:Int} {A:Around} {X:Cx} {s:Shared} {pins:List (Addr×Obj)} {σ:St} {pos:Pos} {op:CmpOp} {c tg iter tgE:Expr} {K:Frg} {D:Ends} {es ifs:List Expr} {te:TE} {g:TG} {body:List Stmt} {Q:VK} {kindOf:Str→Option NameKind} {qual:Str} {scope:Scope} {sp:Sp} {st:Stmt} {kvs:List (List Key×V)} {env:Env} {js:List (Option Nat)} {G:Addr→Prop} {uF:T}
abbrev btx (w:World):Bool:=w.params.followText "set-order"
structure SOk (w:World) (es:Array (Int×Value)) (t:SetTable):Prop where
 fits:t.fits es.size=true
 plain:t.plain=true
 led:btx w=false→t.led=true
 wk:btx w=false→Qyl t es.size=true
section
variable {prog:Program} {w:World} {A:Around} {E:Value→Shared→Prop} {s:Shared} {it d:Addr} {i ep:Nat} {es:Array (Int×Value)} {t:SetTable}
end
set_option genInjectivity false
set_option genSizeOf false
inductive PV where
 | fz (t:T) | ow (t:T) | sl (i:Nat)
inductive Slot where
 | un | fz (t:T) | ow (t:T) | ml (t:T) | ro (t:T) | pin (a:Addr)
abbrev En:=List Slot
variable {ρ ρ':En}
structure Xn where
 c:Nat
 arg:Option Int
inductive Out (α:Type) where
 | ok (a:α) (ρ:En) | xn (x:Xn) (ρ:En) | no
def Out.bind {α β:Type} (o:Out α) (k:α→En→Out β):Out β:=match o with
 | .ok a ρ=>k a ρ
 | .xn x ρ=>.xn x ρ
 | .no=>.no
def Out.opt {α:Type} (o:Option α) (ρ:En):Out α:=match o with
 | some a=>.ok a ρ
 | none=>.no
def Slot.prv:Slot→Option T
 | .ow t=>some t | .ml t=>some t | .ro t=>some t | _=>none
def Slot.mut:Slot→Bool
 | .ow (.lst _)=>true | .ml (.lst _)=>true | _=>false
def Slot.mutD:Slot→Bool
 | .ow (.dtt _ _)=>true | .ml (.dtt _ _)=>true | _=>false
def Slot.put (t:T):Slot→Slot
 | .ow _=>.ow t | .ml _=>.ml t | s=>s
def Slot.lend:Slot→Slot
 | .ow t=>.ml t | .pin _=>.un | s=>s
def Qa (ρ:En) (i:Nat):Slot:=match ρ[i]? with
 | some s=>s
 | none=>.un
def cont (ρ:En):PV→Option T
 | .fz t=>some t
 | .ow t=>some t
 | .sl i=>(Qa ρ i).prv
def frz:PV→Option T
 | .fz t=>some t
 | .ow t=>some t
 | .sl _=>none
def Qck:List PV→Option (List T)
 | []=>some []
 | r::rs=>match frz r,Qck rs with
  | some t,some ts=>some (t::ts)
  | _,_=>none
inductive BOp where
 | add | sub | mul | fdv | mod | pow | shl | shr | band
inductive COp where
 | eq | ne | lt | le | gt | ge | isn | isnn | inn | nin
inductive Bi where
 | len | abs | all | any | sum | max | min | dvm | int | list | tup | repr | dct | lstD | dcl | maxT | srt | srtS
inductive Tg where
 | nm (i:Nat) | tp (is:List Nat)
mutual
inductive E where
 | var (i:Nat) | int (i:Int) | bl (b:Bool) | non | str (x:Str)
 | tup (es:Es) | lst (es:Es)
 | bin (o:BOp) (a b:E) | neg (a:E)
 | not (a:E) | and (a b:E) | or (a b:E) | ite (c a b:E)
 | cmp (o:COp) (a b:E)
 | isI (a:E) (n:String)
 | inR (ng:Bool) (a lo hi:E)
 | call (f:Nat) (es:Es)
 | bi (b:Bi) (es:Es)
 | cnt (a b:E)
 | ix (a i:E) | slc (a:E) (lo hi:Es) | rev (a:E)
 | comp (w:W) (js:List (Option Nat)) (tg:Tg) (cs:Es) (e:E)
 | tupR (l:Bool) (a:E)
 | dnew | din (ng:Bool) (k d:E) | dix (d k:E)
 | tcall (f:Nat) (es:Es) | lstR2 (a b:E) | lit (t:T) | dg1 (d k:E) | dg2 (d k x:E) | d1 (k x:E)
 | app (i:Nat) (es:Es) | lam (k:Nat) (js:List Nat) | lix (i:Nat) (a:E) | compS (i:Nat) (js:List (Option Nat)) (tg:Tg) (cs:Es) (e:E)
 | fzE (e:E) | bad
inductive Es where
 | nil | cons (e:E) (es:Es)
inductive W where
 | seq (e:E) | rng1 (a:E) | rng2 (a b:E) | enm (e:E) | zip (a b:E) | dks (e:E)
end
variable {e:E} {cs:Es}
inductive S where
 | nil | seq (a b:S) | expr (e:E) | set (i:Nat) (e:E) | setF (i:Nat) (e:E) | unp (is:List Nat) (e:E) | par (i j:Nat) (a b:E)
 | app (i:Nat) (e:E) | ext (i:Nat) (e:E) | put (i:Nat) (k e:E) | dput (i:Nat) (k e:E)
 | ret (e:E) | retN | ite (c:E) (a b:S) | whl (c:E) (b:S) | for_ (w:W) (tg:Tg) (b:S) | forS (i:Nat) (tg:Tg) (b:S) | extL (i:Nat) (e:E)
 | brk | cnt | frz (i:Nat) | raise (c:Nat) (es:Es) | scr (i a b f:Nat) (c1 c2:E) | ins (i:Nat) (k e:E) | rem (i:Nat) (e:E) | nest (iF iR iH iW iS iT iN:Nat) (a0 a:S) (c v e1 e2:E) | parO (i j:Nat) (a b:E) | tryR (i:Nat) (b:S) (h:Nat→Option Int→Option T) | bad
inductive Arg where
 | fz (t:T) | ml (t:T) | ro (t:T)
inductive FR where
 | ok (r:PV) (fin:List T) | xn (x:Xn) (fin:List T) | no
inductive SO where
 | nx (ρ:En) | rt (r:PV) (ρ:En) | bk (ρ:En) | ct (ρ:En) | xn (x:Xn) (ρ:En) | no
abbrev CF:=Nat→List Arg→FR
def Qd6 (i j:Int):Bool:=decide (i.natAbs<2^64)||(decide (j.natAbs<2^64)||(decide (i.natAbs<2^250)&&decide (j.natAbs<2^250)))
def asI:T→Option Int
 | .int i=>some i
 | _=>none
def opN:BOp→Int→Int→Option PV
 | .add,i,j=>some (.fz (.int (i+j)))
 | .sub,i,j=>some (.fz (.int (i-j)))
 | .mul,i,j=>if Qd6 i j=true then some (.fz (.int (i*j))) else none
 | .fdv,i,j=>if 0<j∧j.natAbs<2^64 then some (.fz (.int (i / j))) else if j≠0∧j.natAbs<2^250 then some (.fz (.int (i.fdiv j))) else none
 | .mod,i,j=>if 0<j then some (.fz (.int (i%j))) else if j<0 then some (.fz (.int (i.fmod j))) else none
 | .pow,i,j=>if 0≤j∧j.natAbs≤1000000∧i.natAbs<2^64 then some (.fz (.int (i^j.toNat))) else none
 | .shl,i,j=>if 0≤j∧j.natAbs≤64∧i.natAbs<2^64 then some (.fz (.int (i*2^j.toNat))) else none
 | .shr,i,j=>if 0≤j∧j.natAbs≤64 then some (.fz (.int (i / 2^j.toNat))) else none
 | .band,i,j=>if j=1 then some (.fz (.int (i%2))) else none
def Q9j:T→T→Option PV
 | .tup a,.tup b=>if a.length+b.length≤100000 then some (.fz (.tup (a++b))) else none
 | .lst a,.lst b=>if a.length+b.length≤100000 then some (.ow (.lst (a++b))) else none
 | _,_=>none
def Q9k:T→Option Int→Option PV
 | .tup a,some k=>if a.length*k.toNat≤100000∧1≤k∧k.natAbs≤100000∧a≠[] then some (.fz (.tup (List.replicate k.toNat a).flatten)) else none
 | _,_=>none
def opX:BOp→T→T→Option PV
 | .add,t,u=>Q9j t u
 | .mul,t,u=>Q9k t (asI u)
 | _,_,_=>none
def opB (o:BOp) (t u:T):Option PV:=match asI t,asI u with
 | some i,some j=>opN o i j
 | _,_=>opX o t u
def Qk8:T→Bool
 | .non=>true | .bl _=>true | .int _=>true | .str _=>true | _=>false
def eqO:T→T→Option Bool
 | .int i,.int j=>some (decide (i=j))
 | .bl i,.bl j=>some (decide (i=j))
 | .str i,.str j=>some (decide (i=j))
 | .non,.non=>some true
 | .non,.int _=>some false | .int _,.non=>some false | .non,.bl _=>some false | .bl _,.non=>some false | .non,.str _=>some false | .str _,.non=>some false
 | .int _,.str _=>some false | .str _,.int _=>some false | .bl _,.str _=>some false | .str _,.bl _=>some false
 | .tup a,.tup b=>if Qk 50 (.tup a)=true∧Qk 50 (.tup b)=true then some (eqT (.tup a) (.tup b)) else none
 | .lst a,.lst b=>if Qk 50 (.lst a)=true∧Qk 50 (.lst b)=true then some (eqT (.lst a) (.lst b)) else none
 | _,_=>none
def Qjz:T→Bool
 | .non=>true
 | _=>false
def Qwj (f:Int→Int→Bool) (t u:T):Option Bool:=match asI t,asI u with
 | some i,some j=>some (f i j)
 | _,_=>none
def Qdb:T→Option (List T)
 | .lst a=>some a
 | .tup a=>some a
 | _=>none
def inO (x t:T):Option Bool:=match Qdb t with
 | some ts=>if Qk 49 x=true∧ts.all (Qk 49)=true then some (ts.any fun u=>eqT u x) else none
 | none=>none
def opC:COp→T→T→Option Bool
 | .eq,a,b=>eqO a b
 | .ne,a,b=>(eqO a b).map (!·)
 | .lt,a,b=>Qwj (fun i j=>decide (i<j)) a b
 | .le,a,b=>Qwj (fun i j=>decide (i≤j)) a b
 | .gt,a,b=>Qwj (fun i j=>decide (j<i)) a b
 | .ge,a,b=>Qwj (fun i j=>decide (j≤i)) a b
 | .isn,a,b=>if Qjz b then some (Qjz a) else none
 | .isnn,a,b=>if Qjz b then some (!Qjz a) else none
 | .inn,a,b=>inO a b
 | .nin,a,b=>(inO a b).map (!·)
def truT:T→Option Bool
 | .bl b=>some b
 | .int i=>some (decide (i≠0))
 | _=>none
def Qfp:List T→Option (List Bool)
 | []=>some []
 | t::ts=>match truT t,Qfp ts with
  | some b,some bs=>some (b::bs)
  | _,_=>none
def Qda:List T→Option (List Int)
 | []=>some []
 | .int i::ts=>match Qda ts with
  | some is=>some (i::is)
  | none=>none
 | _::_=>none
def Qd0:List (List Int)→List T→List Int→Option T
 | j::ks,t::ts,k=>if j=k then some t else Qd0 ks ts k
 | _,_,_=>none
def Qqq:List (List Int)→List T→List Int→T→List T
 | j::ks,t::ts,k,u=>(if j=k then u else t)::Qqq ks ts k u
 | _,_,_,_=>[]
def Qik (ks:List (List Int)) (ts:List T) (k:List Int) (u:T):T:=match Qd0 ks ts k with
 | some _=>.dtt ks (Qqq ks ts k u)
 | none=>.dtt (ks++[k]) (ts++[u])
def Qk9:Option T→Bool
 | some (.dtt _ _)=>true
 | _=>false
def Qf1:PV→Option (List Int)
 | .fz (.tup us)=>Qda us
 | _=>none
def Qym:List T→Option (List (List Int))
 | []=>some []
 | .tup us::ts=>match Qda us,Qym ts with
  | some k,some ks=>some (k::ks)
  | _,_=>none
 | _=>none
def Qkd:Int→List Int→Int
 | m,[]=>m
 | m,x::xs=>Qkd (if m<x then x else m) xs
def Qla:Int→List Int→Int
 | m,[]=>m
 | m,x::xs=>Qla (if x<m then x else m) xs
def Qjk:Bi→List T→Option PV
 | .len,[.lst a]=>some (.fz (.int a.length))
 | .len,[.tup a]=>some (.fz (.int a.length))
 | .abs,[.int i]=>some (.fz (.int (if i<0 then -i else i)))
 | .all,[.lst a]=>(Qfp a).map fun bs=>.fz (.bl (bs.all id))
 | .any,[.lst a]=>(Qfp a).map fun bs=>.fz (.bl (bs.any id))
 | .sum,[.lst a]=>(Qda a).map fun is=>.fz (.int is.sum)
 | .max,[.int i,.int j]=>some (.fz (.int (if j>i then j else i)))
 | .min,[.int i,.int j]=>some (.fz (.int (if j<i then j else i)))
 | .srt,[.lst a]=>match Qym a with
  | some ks=>if ks.length<64∧Q58 ks=true then some (.ow (.lst ((Qyj ks).map fun k=>T.tup (k.map T.int)))) else none
  | none=>none
 | .srt,[.dtt ks _]=>if ks.length<64∧Q58 ks=true∧ks.all (fun k=>decide (k.length≤100000))=true then some (.ow (.lst ((Qyj ks).map fun k=>T.tup (k.map T.int)))) else none
 | .srtS,[.lst a]=>match Qym a with
  | some ks=>match srtS ks with
   | some r=>some (.ow (.lst (r.map fun k=>T.tup (k.map T.int))))
   | none=>none
  | none=>none
 | .maxT,[.tup a]=>match Qda a with
  | some (x::xs)=>some (.fz (.int (Qkd x xs)))
  | _=>none
 | .max,[.lst a]=>match Qda a with
  | some (x::xs)=>some (.fz (.int (Qkd x xs)))
  | _=>none
 | .min,[.lst a]=>match Qda a with
  | some (x::xs)=>some (.fz (.int (Qla x xs)))
  | _=>none
 | .dvm,[.int i,.int j]=>if 0<j∧j.natAbs<2^64 then some (.fz (.tup [.int (i / j),.int (i%j)])) else none
 | .int,[.int i]=>some (.fz (.int i))
 | .int,[.bl b]=>some (.fz (.int (if b then 1 else 0)))
 | .list,[.lst a]=>some (.ow (.lst a))
 | .list,[.tup a]=>some (.ow (.lst a))
 | .tup,[.lst a]=>some (.fz (.tup a))
 | .tup,[.tup a]=>some (.fz (.tup a))
 | .lstD,[.dtt ks _]=>if ks.length≤100000∧ks.all (fun k=>decide (k.length≤100000))=true then some (.ow (.lst (ks.map fun k=>T.tup (k.map T.int)))) else none
 | .dct,[.dtt [k] [t]]=>some (.ow (.dtt [k] [t]))
 | .dcl,[.lst [.tup [.tup us,t]]]=>match Qda us with
  | some is=>some (.ow (.dtt [is] [t]))
  | none=>none
 | .repr,[t]=>if shOk t=true then some (.fz (.str (pyD t).shown)) else none
 | _,_=>none
def Qyn:T→T→Option T
 | .lst a,.int i=>atI a i
 | .tup a,.int i=>atI a i
 | _,_=>none
def Q3f:T→Option Int→Option Int→Option PV
 | .lst a,lo,hi=>some (.ow (.lst (Qgp a lo hi)))
 | .tup a,lo,hi=>some (.fz (.tup (Qgp a lo hi)))
 | _,_,_=>none
def Qke:List PV→Option (Option Int)
 | []=>some none
 | [.fz (.int i)]=>some (some i)
 | _=>none
def Qau (ρ:En):List PV→Option (List T)
 | []=>some []
 | r::rs=>match cont ρ r,Qau ρ rs with
  | some t,some ts=>some (t::ts)
  | _,_=>none
def Qlb (n:String):Bool:=n == "int" || n == "bool" || n == "tuple" || n == "list" || n == "dict" || n == "str"
def Qaq (ρ:En):PV→Option Arg
 | .fz t=>some (.fz t)
 | .ow t=>some (.fz t)
 | .sl i=>match Qa ρ i with
  | .ow t=>some (.ml t)
  | .ml t=>some (.ml t)
  | .ro t=>some (.ro t)
  | _=>none
def Q1 (ρ:En):List PV→Option (List Arg)
 | []=>some []
 | r::rs=>match Qaq ρ r,Q1 ρ rs with
  | some t,some ts=>some (t::ts)
  | _,_=>none
def Qx:List PV→Bool
 | []=>true
 | .sl i::rs=>(rs.all fun r=>match r with | .sl j=>i != j | _=>true)&&Qx rs
 | _::rs=>Qx rs
def Ql:List PV→Nat→Option Nat
 | [],_=>none
 | .sl j::rs,i=>if j=i then some 0 else (Ql rs i).map (· + 1)
 | .fz _::rs,i=>(Ql rs i).map (· + 1)
 | .ow _::rs,i=>(Ql rs i).map (· + 1)
def Q4 (rs:List PV) (fin:List T) (i:Nat) (s:Slot):Slot:=match Ql rs i with
 | some k=>match fin[k]? with
  | some t=>s.put t
  | none=>s
 | none=>s
def Qn (rs:List PV) (fin:List T):Nat→En→En
 | _,[]=>[]
 | i,s::ρ=>Q4 rs fin i s::Qn rs fin (i+1) ρ
def Qa2 (ρ:En) (rs:List PV) (fin:List T):En:=Qn rs fin 0 ρ
def Qj0 (cf:CF) (f:Nat) (rs:List PV) (ρ:En):Out PV :=
 if Qx rs=true then
  match Q1 ρ rs with
  | some as=>match cf f as with
   | .ok r fin=>.ok r (Qa2 ρ rs fin)
   | .xn x fin=>.xn x (Qa2 ρ rs fin)
   | .no=>.no
  | none=>.no
 else .no
def fzL:List PV→Option (List T)
 | []=>some []
 | .fz t::rs=>match fzL rs with
  | some ts=>some (t::ts)
  | none=>none
 | _::_=>none
def Qov (cf:CF) (f:Nat) (rs:List PV) (ρ:En):Out PV:=match rs with
 | .ow t::rs'=>match fzL rs' with
  | some ts=>match cf f (.ml t::ts.map Arg.fz) with
   | .ok r _=>.ok r ρ
   | .xn x _=>.xn x ρ
   | .no=>.no
  | none=>.no
 | _=>.no
def Qa8 (i:Nat) (s:Slot) (ρ:En):Option En:=if i<ρ.length then (match Qa ρ i with
 | .ml _=>none
 | .ro _=>none
 | .pin _=>none
 | _=>some (ρ.set i s)) else none
def Qbi:List Nat→List T→En→Option En
 | [],[],ρ=>some ρ
 | i::is,t::ts,ρ=>match Qa8 i (.fz t) ρ with
  | some ρ'=>Qbi is ts ρ'
  | none=>none
 | _,_,_=>none
def Qdp:Tg→T→En→Option En
 | .nm i,t,ρ=>Qa8 i (.fz t) ρ
 | .tp is,.tup ts,ρ=>Qbi is ts ρ
 | .tp _,_,_=>none
def Qcl (js:List (Option Nat)) (ρ:En):En:=js.map fun o=>match o with
 | none=>.un
 | some j=>(Qa ρ j).lend
def Qht (js:List (Option Nat)) (ρi:En) (j:Nat) (s:Slot):Slot:=match js.idxOf? (some j) with
 | some k=>match Qa ρi k with
  | .ml t=>s.put t
  | _=>s
 | none=>s
def Qdk (js:List (Option Nat)) (ρi:En):Nat→En→En
 | _,[]=>[]
 | j,s::ρ=>Qht js ρi j s::Qdk js ρi (j+1) ρ
def Qlc (js:List (Option Nat)) (ρi ρ:En):En:=Qdk js ρi 0 ρ
def Qb8 (tg:Tg) (c:En→Out Bool) (e:En→Out PV):List T→List T→En→Out (List T)
 | [],acc,ρ=>.ok acc ρ
 | x::xs,acc,ρ=>match Qdp tg x ρ with
  | none=>.no
  | some ρ1=>(c ρ1).bind fun b ρ2=>if b then (e ρ2).bind fun r ρ3=>match frz r with
    | some t=>if acc.length<100000 then Qb8 tg c e xs (acc++[t]) ρ3 else .no
    | none=>.no
   else Qb8 tg c e xs acc ρ2
def Qe4:En→En→Bool
 | .ml _::ρ0,s::ρ=>(match s with | .ml _=>true | _=>false)&&Qe4 ρ0 ρ
 | _::ρ0,_::ρ=>Qe4 ρ0 ρ
 | [],[]=>true
 | _,_=>false
def Qbs:List (Option Nat)→Bool
 | []=>true
 | some i::rs=>(rs.all fun r=>match r with | some j=>i != j | none=>true)&&Qbs rs
 | none::rs=>Qbs rs
def Qab (o:Out PV):Out Bool:=o.bind fun r ρ=>match r with
 | .fz (.bl b)=>.ok b ρ
 | _=>.no
def Q3 (lo:Int) (n:Nat):List T:=(List.range n).map fun i=>T.int (lo+(i:Nat))
def Qmp:Nat→List T→List T
 | _,[]=>[]
 | n,t::ts=>.tup [.int n,t]::Qmp (n+1) ts
def Q9l:List T→List T→List T
 | x::xs,y::ys=>.tup [x,y]::Q9l xs ys
 | _,_=>[]
def fzAt:List Nat→En→Option (List T)
 | [],_=>some []
 | j::js,ρ=>match Qa ρ j,fzAt js ρ with
  | .fz t,some ts=>some (t::ts)
  | _,_=>none
def Qac0 (o:Out PV):Out PV:=match o with
 | .ok r ρ=>.ok r ρ
 | _=>.no
def Q9m:Slot→Bool
 | .fz (.clo _ _)=>true
 | _=>false
def appO (cf:CF) (i:Nat) (rs:List PV) (ρ:En):Out PV:=match Qa ρ i with
 | .fz (.clo k ts)=>Qac0 (Qj0 cf k (rs++ts.map PV.fz) ρ)
 | _=>.no
def Qgy:PV→Option Nat
 | .sl i=>some i
 | _=>none
def ixI (n:Int):List Int→Option Nat
 | []=>none
 | m::ms=>if m=n then some 0 else (ixI n ms).map (· + 1)
def Qwk (n:Int):Option T→Option Int
 | some (.lst ts)=>match Qda ts with
  | some is=>if is.length≤1000 then (ixI n is).map fun j=>(j:Int) else none
  | none=>none
 | _=>none
def Qmq (ts:List T) (n:Nat) (t:T):List T:=ts.take n++t::ts.drop n
mutual
def evE (cf:CF):E→En→Out PV
 | .var i,ρ=>match Qa ρ i with
  | .fz t=>.ok (.fz t) ρ
  | .un=>.no
  | .pin _=>.no
  | _=>.ok (.sl i) ρ
 | .int i,ρ=>.ok (.fz (.int i)) ρ
 | .bl b,ρ=>.ok (.fz (.bl b)) ρ
 | .non,ρ=>.ok (.fz .non) ρ
 | .str x,ρ=>.ok (.fz (.str x)) ρ
 | .tup es,ρ=>(evA cf es ρ).bind fun rs ρ1=>match Qck rs with
  | some ts=>if ts.length≤100000 then .ok (.fz (.tup ts)) ρ1 else .no
  | none=>.no
 | .lst es,ρ=>(evA cf es ρ).bind fun rs ρ1=>match Qck rs with
  | some ts=>if ts.length≤100000 then .ok (.ow (.lst ts)) ρ1 else .no
  | none=>.no
 | .bin o a b,ρ=>(evE cf a ρ).bind fun ra ρ1=>(evE cf b ρ1).bind fun rb ρ2=>match cont ρ2 ra,cont ρ2 rb with
  | some x,some y=>.opt (opB o x y) ρ2
  | _,_=>.no
 | .neg a,ρ=>(evE cf a ρ).bind fun ra ρ1=>match ra with
  | .fz (.int i)=>.ok (.fz (.int (-i))) ρ1
  | _=>.no
 | .not a,ρ=>(Qab (evE cf a ρ)).bind fun b ρ1=>.ok (.fz (.bl (!b))) ρ1
 | .and a b,ρ=>(Qab (evE cf a ρ)).bind fun c ρ1=>if c then (Qab (evE cf b ρ1)).bind fun d ρ2=>.ok (.fz (.bl d)) ρ2 else .ok (.fz (.bl false)) ρ1
 | .or a b,ρ=>(Qab (evE cf a ρ)).bind fun c ρ1=>if c then .ok (.fz (.bl true)) ρ1 else (Qab (evE cf b ρ1)).bind fun d ρ2=>.ok (.fz (.bl d)) ρ2
 | .ite c a b,ρ=>(Qab (evE cf c ρ)).bind fun k ρ1=>if k then evE cf a ρ1 else evE cf b ρ1
 | .cmp o a b,ρ=>(evE cf a ρ).bind fun ra ρ1=>(evE cf b ρ1).bind fun rb ρ2=>match cont ρ2 ra,cont ρ2 rb with
  | some x,some y=>match opC o x y with
   | some k=>.ok (.fz (.bl k)) ρ2
   | none=>.no
  | _,_=>.no
 | .isI a n,ρ=>(evE cf a ρ).bind fun ra ρ1=>match cont ρ1 ra with
  | some t=>if Qlb n && !Qhs t then .ok (.fz (.bl (Qk3 (tyT t) n))) ρ1 else .no
  | none=>.no
 | .inR ng a lo hi,ρ=>(evE cf a ρ).bind fun ra ρ1=>(evE cf lo ρ1).bind fun rl ρ2=>(evE cf hi ρ2).bind fun rh ρ3=>match ra,rl,rh with
  | .fz (.int i),.fz (.int l),.fz (.int h)=>.ok (.fz (.bl (if ng then !decide (l≤i∧i<h) else decide (l≤i∧i<h)))) ρ3
  | _,_,_=>.no
 | .call f es,ρ=>(evA cf es ρ).bind fun rs ρ1=>Qj0 cf f rs ρ1
 | .bi b es,ρ=>(evA cf es ρ).bind fun rs ρ1=>match Qau ρ1 rs with
  | some ts=>.opt (Qjk b ts) ρ1
  | none=>.no
 | .cnt a b,ρ=>(evE cf a ρ).bind fun ra ρ1=>match ra with
  | .fz (.tup ts)=>(evE cf b ρ1).bind fun rb ρ2=>match rb,Qda ts with
   | .fz (.int j),some is=>.ok (.fz (.int (is.count j:Nat))) ρ2
   | _,_=>.no
  | _=>.no
 | .ix a i,ρ=>(evE cf a ρ).bind fun ra ρ1=>(evE cf i ρ1).bind fun rb ρ2=>match cont ρ2 ra,cont ρ2 rb with
  | some x,some y=>match Qyn x y with
   | some t=>.ok (.fz t) ρ2
   | none=>.no
  | _,_=>.no
 | .slc a lo hi,ρ=>(evE cf a ρ).bind fun ra ρ1=>(evA cf lo ρ1).bind fun rl ρ2=>match Qke rl with
  | none=>.no
  | some l=>(evA cf hi ρ2).bind fun rh ρ3=>match Qke rh with
   | none=>.no
   | some h=>match cont ρ3 ra with
    | some x=>.opt (Q3f x l h) ρ3
    | none=>.no
 | .rev a,ρ=>(evE cf a ρ).bind fun ra ρ1=>match ra with
  | .fz (.tup ts)=>.ok (.fz (.tup ts.reverse)) ρ1
  | _=>.no
 | .comp w js tg cs e,ρ=>(evW cf w ρ).bind fun its ρ1=>match its.2 with
  | some _=>.no
  | none=>match Qb8 tg (evC cf cs) (evE cf e) its.1 [] (Qcl js ρ1) with
   | .ok ts ρi=>if Qe4 (Qcl js ρ1) ρi=true∧Qbs js=true then .ok (.ow (.lst ts)) (Qlc js ρi ρ1) else .no
   | _=>.no
 | .compS i js tg cs e,ρ=>match (Qa ρ i).prv with
  | some (.lst ts)=>if js.all (fun j=>decide (j≠some i))=true then match Qb8 tg (evC cf cs) (evE cf e) ts [] (Qcl js ρ) with
   | .ok us ρi=>if Qe4 (Qcl js ρ) ρi=true∧Qbs js=true then .ok (.ow (.lst us)) (Qlc js ρi ρ) else .no
   | _=>.no
   else .no
  | _=>.no
 | .lix i a,ρ=>if (Qa ρ i).mut=true then (evE cf a ρ).bind fun r ρ1=>match r with
  | .fz (.int n)=>(match Qwk n ((Qa ρ1 i).prv) with
   | some j=>.ok (.fz (.int j)) ρ1
   | none=>.no)
  | _=>.no
  else .no
 | .tupR l a,ρ=>(evE cf a ρ).bind fun r ρ1=>match r with
  | .fz (.int j)=>if j.natAbs≤100000 then .ok (if l then .ow (.lst (Q3 0 j.toNat)) else .fz (.tup (Q3 0 j.toNat))) ρ1 else .no
  | _=>.no
 | .lstR2 a b,ρ=>(evE cf a ρ).bind fun r ρ1=>(evE cf b ρ1).bind fun r2 ρ2=>match r,r2 with
  | .fz (.int i),.fz (.int j)=>if i.natAbs≤100000∧j.natAbs≤100000∧(j-i).natAbs≤100000 then .ok (.ow (.lst (Q3 i (j-i).toNat))) ρ2 else .no
  | _,_=>.no
 | .lit t,ρ=>.ok (.fz t) ρ
 | .dg1 d k,ρ=>(evE cf d ρ).bind fun rd ρ1=>if Qk9 (cont ρ1 rd)=true then (evE cf k ρ1).bind fun rk ρ2=>match Qf1 rk,cont ρ2 rd with
   | some is,some (.dtt ks ts)=>.ok (.fz ((Qd0 ks ts is).getD .non)) ρ2
   | _,_=>.no
  else .no
 | .dg2 d k x,ρ=>(evE cf d ρ).bind fun rd ρ1=>if Qk9 (cont ρ1 rd)=true then (evE cf k ρ1).bind fun rk ρ2=>(evE cf x ρ2).bind fun rx ρ3=>match Qf1 rk,cont ρ3 rd,rx with
   | some is,some (.dtt ks ts),.fz u=>.ok (.fz ((Qd0 ks ts is).getD u)) ρ3
   | _,_,_=>.no
  else .no
 | .dnew,ρ=>.ok (.ow (.dtt [] [])) ρ
 | .d1 k x,ρ=>(evE cf k ρ).bind fun rk ρ1=>(evE cf x ρ1).bind fun rx ρ2=>match Qf1 rk,rx with
  | some is,.fz t=>.ok (.ow (.dtt [is] [t])) ρ2
  | _,_=>.no
 | .tcall f es,ρ=>(evA cf es ρ).bind fun rs ρ1=>Qov cf f rs ρ1
 | .din ng k d,ρ=>(evE cf k ρ).bind fun rk ρ1=>(evE cf d ρ1).bind fun rd ρ2=>match Qf1 rk,cont ρ2 rd with
  | some is,some (.dtt ks ts)=>.ok (.fz (.bl (if ng then !(Qd0 ks ts is).isSome else (Qd0 ks ts is).isSome))) ρ2
  | _,_=>.no
 | .dix d k,ρ=>(evE cf d ρ).bind fun rd ρ1=>(evE cf k ρ1).bind fun rk ρ2=>match Qf1 rk,cont ρ2 rd with
  | some is,some (.dtt ks ts)=>match Qd0 ks ts is with
   | some t=>.ok (.fz t) ρ2
   | none=>.no
  | _,_=>.no
 | .app i es,ρ=>if Q9m (Qa ρ i)=true then (evA cf es ρ).bind fun rs ρ1=>appO cf i rs ρ1 else .no
 | .lam k js,ρ=>match fzAt js ρ with
  | some ts=>.ok (.fz (.clo k ts)) ρ
  | none=>.no
 | .fzE e,ρ=>(evE cf e ρ).bind fun r ρ1=>match frz r with
  | some t=>.ok (.fz t) ρ1
  | none=>.no
 | .bad,_=>.no
def evA (cf:CF):Es→En→Out (List PV)
 | .nil,ρ=>.ok [] ρ
 | .cons e es,ρ=>(evE cf e ρ).bind fun r ρ1=>(evA cf es ρ1).bind fun rs ρ2=>.ok (r::rs) ρ2
def evC (cf:CF):Es→En→Out Bool
 | .nil,ρ=>.ok true ρ
 | .cons e .nil,ρ=>Qab (evE cf e ρ)
 | .cons _ _,_=>.no
def evW (cf:CF):W→En→Out (List T×Option Nat)
 | .seq e,ρ=>(evE cf e ρ).bind fun r ρ1=>match cont ρ1 r with
  | some t=>match Qdb t with
   | some ts=>.ok (ts,Qgy r) ρ1
   | none=>.no
  | none=>.no
 | .rng1 a,ρ=>(evE cf a ρ).bind fun r ρ1=>match r with
  | .fz (.int j)=>if j.natAbs≤100000 then .ok (Q3 0 j.toNat,none) ρ1 else .no
  | _=>.no
 | .rng2 a b,ρ=>(evE cf a ρ).bind fun r ρ1=>(evE cf b ρ1).bind fun r2 ρ2=>match r,r2 with
  | .fz (.int i),.fz (.int j)=>if i.natAbs≤100000∧j.natAbs≤100000 then .ok (Q3 i (j-i).toNat,none) ρ2 else .no
  | _,_=>.no
 | .enm e,ρ=>(evE cf e ρ).bind fun r ρ1=>match cont ρ1 r with
  | some (.lst ts)=>.ok (Qmp 0 ts,Qgy r) ρ1
  | _=>.no
 | .zip a b,ρ=>(evE cf a ρ).bind fun r ρ1=>(evE cf b ρ1).bind fun r2 ρ2=>match r,r2 with
  | .fz (.tup xs),.fz (.tup ys)=>.ok (Q9l xs ys,none) ρ2
  | .fz (.lst xs),.fz (.tup ys)=>.ok (Q9l xs ys,none) ρ2
  | _,_=>.no
 | .dks e,ρ=>(evE cf e ρ).bind fun r ρ1=>match r with
  | .fz (.dtt ks _)=>if ks.all (fun k=>decide (k.length≤100000))=true then .ok (ks.map fun k=>T.tup (k.map T.int),none) ρ1 else .no
  | _=>.no
end
def SO.seq (o:SO) (k:En→SO):SO:=match o with
 | .nx ρ=>k ρ
 | o=>o
def ofO {α:Type} (o:Out α) (k:α→En→SO):SO:=match o with
 | .ok a ρ=>k a ρ
 | .xn x ρ=>.xn x ρ
 | .no=>.no
def Qak {α:Type} (o:Option α) (k:α→SO):SO:=match o with
 | some a=>k a
 | none=>.no
def Qqr (c:En→Out Bool) (b:En→SO):Nat→En→SO
 | 0,_=>.no
 | n+1,ρ=>ofO (c ρ) fun k ρ1=>if k then (match b ρ1 with
   | .nx ρ2=>Qqr c b n ρ2
   | .ct ρ2=>Qqr c b n ρ2
   | .bk ρ2=>.nx ρ2
   | o=>o) else .nx ρ1
def Qcp (tg:Tg) (b:En→SO):List T→En→SO
 | [],ρ=>.nx ρ
 | x::xs,ρ=>match Qdp tg x ρ with
  | none=>.no
  | some ρ1=>match b ρ1 with
   | .nx ρ2=>Qcp tg b xs ρ2
   | .ct ρ2=>Qcp tg b xs ρ2
   | .bk ρ2=>.nx ρ2
   | o=>o
def Q9n (i:Nat) (tg:Tg) (b:En→SO):Nat→Nat→En→SO
 | 0,_,_=>.no
 | m+1,n,ρ=>match Qa ρ i with
  | .ro (.lst us)=>match us[n]? with
   | none=>.nx ρ
   | some x=>match Qdp tg x ρ with
    | none=>.no
    | some ρ1=>match b ρ1 with
     | .nx ρ2=>Q9n i tg b m (n+1) ρ2
     | .ct ρ2=>Q9n i tg b m (n+1) ρ2
     | .bk ρ2=>.nx ρ2
     | o=>o
  | _=>.no
def unE (i:Nat) (ρ:En):Option En:=match Qa ρ i with
 | .ro t=>some (ρ.set i (.ow t))
 | _=>none
def unl (i:Nat):SO→SO
 | .nx ρ=>Qak (unE i ρ) .nx
 | .rt (.fz t) ρ=>Qak (unE i ρ) (.rt (.fz t))
 | _=>.no
def Qno (o:SO):SO:=match o with
 | .xn _ _=>.no
 | o=>o
def Qld (i:Nat) (r:PV) (ρ:En):SO:=match r with
 | .fz t=>Qak (Qa8 i (.fz t) ρ) .nx
 | .ow t=>Qak (Qa8 i (.ow t) ρ) .nx
 | .sl _=>.no
def Qac1:Slot→Bool
 | .un=>true
 | .fz _=>true
 | _=>false
abbrev Qav (is:List Int):T:=.lst (is.map T.int)
abbrev Qj (M:List (List Int)):T:=.lst (M.map Qav)
def Qs7 (fA:En→SO) (iF iR iH:Nat) (Ms:List (List (List Int))) (R:List (List Int)) (ρ:En):Option (List (List Int)×En) :=
 match fA ((ρ.set iF (.ro (.lst (Ms.map Qj)))).set iR (.ro (.lst (R.map Qav)))) with
 | .nx ρ1=>match Qa ρ1 iF,Qa ρ1 iR,Qa ρ1 iH with
  | .ro _,.ro _,.ow (.lst us)=>match Qda us with
   | some is=>if is.length≤1000∧R.length<1000 then some (R++[is],((((ρ1.set iR (.ow (.lst (R.map Qav)))).set iF (.ow (.lst (Ms.map Qj)))).set iH (.fz (Qav is))).set iR (.ow (.lst ((R++[is]).map Qav))))) else none
   | none=>none
  | _,_,_=>none
 | _=>none
def Qe5 (fA:En→SO) (iF iR iH iW:Nat) (Ms:List (List (List Int))) (R0:List (List Int)) (ρ0:En):Nat→Option (List (List Int)×En)
 | 0=>some (R0,ρ0)
 | n+1=>match Qe5 fA iF iR iH iW Ms R0 ρ0 n with
  | some q=>if iW<q.2.length then Qs7 fA iF iR iH Ms q.1 (q.2.set iW (.fz (.int n))) else none
  | none=>none
def Qs8 (f0 fA:En→SO) (iF iR iH iW iS:Nat) (Ms:List (List (List Int))) (ρ:En):Option (List (List (List Int))×En) :=
 match f0 (ρ.set iF (.ro (.lst (Ms.map Qj)))) with
 | .nx ρ1=>match Qa ρ1 iF,Qa ρ1 iR,Qa (ρ1.set iF (.ow (.lst (Ms.map Qj)))) iS with
  | .ro _,.ow (.lst []),.fz (.int j)=>if j.natAbs≤1000 then (match Qe5 fA iF iR iH iW Ms [] (ρ1.set iF (.ow (.lst (Ms.map Qj)))) j.toNat with
   | some q=>if q.1.length≤1000∧Ms.length<1000 then some (Ms++[q.1],(q.2.set iR (.fz (Qj q.1))).set iF (.ow (.lst ((Ms++[q.1]).map Qj)))) else none
   | none=>none) else none
  | _,_,_=>none
 | _=>none
def Qe6 (f0 fA:En→SO) (iF iR iH iW iS iT:Nat) (ρ0:En):Nat→Option (List (List (List Int))×En)
 | 0=>some ([],ρ0)
 | n+1=>match Qe6 f0 fA iF iR iH iW iS iT ρ0 n with
  | some q=>if iT<q.2.length then Qs8 f0 fA iF iR iH iW iS q.1 (q.2.set iT (.fz (.int n))) else none
  | none=>none
def Qbt:Slot→Slot
 | .ml (.lst ts)=>if (Qda ts).isSome=true then .ml (.lst ts) else .un
 | _=>.un
def Qwl (fV f1 f2:En→Out PV) (iF:Nat):List (List (List Int))→En→Option En
 | [],_=>none
 | M::Ms,ρ=>if (M::Ms).length≤1000 then (match fV (ρ.set iF (.ro (.lst ((M::Ms).map Qj)))) with
  | .ok (.fz (.int v)) ρ1=>(match Qa ρ1 iF,f1 (ρ1.set iF (.ro (.lst ((M::Ms).map Qj)))) with
   | .ro _,.ok (.fz (.int j)) ρ2=>(match Qa ρ2 iF,f2 (ρ2.set iF (.ro (.lst ((M::Ms).map Qj)))) with
    | .ro _,.ok (.fz (.int k)) ρ3=>(match Qa ρ3 iF,ixN M.length j with
     | .ro _,some x=>(match M[x]? with
      | some is=>(match ixN is.length k with
       | some y=>some ((ρ3.map Qbt).set iF (.ow (.lst ((M.set x (is.set y v)::Ms).map Qj))))
       | none=>none)
      | none=>none)
     | _,_=>none)
    | _,_=>none)
   | _,_=>none)
  | _=>none) else none
def Qhu (f0 fA:En→SO) (fc:En→Out Bool) (fV f1 f2:En→Out PV) (iF iR iH iW iS iT iN:Nat) (ρ:En):SO :=
 match Qa ρ iF,Qa ρ iN with
 | .ow (.lst []),.fz (.int n)=>if n.natAbs≤1000 then (match Qe6 f0 fA iF iR iH iW iS iT ρ n.toNat with
  | some q=>if q.1.length≤1000 then (match fc (q.2.set iF (.ro (.lst (q.1.map Qj)))) with
   | .ok b ρ2=>(match Qa ρ2 iF with
    | .ro _=>if b=true then (match Qwl fV f1 f2 iF q.1 (ρ2.set iF (.ow (.lst (q.1.map Qj)))) with
     | some ρ3=>.nx ρ3
     | none=>.no) else .nx (ρ2.set iF (.ow (.lst (q.1.map Qj))))
    | _=>.no)
   | _=>.no) else .no
  | none=>.no) else .no
 | _,_=>.no
def exS (cf:CF):S→En→SO
 | .nil,ρ=>.nx ρ
 | .seq a b,ρ=>(exS cf a ρ).seq (exS cf b)
 | .expr e,ρ=>ofO (evE cf e ρ) fun _ ρ1=>.nx ρ1
 | .set i e,ρ=>ofO (evE cf e ρ) fun r ρ1=>Qld i r ρ1
 | .setF i e,ρ=>ofO (evE cf e ρ) fun r ρ1=>match frz r with
  | some t=>Qak (Qa8 i (.fz t) ρ1) .nx
  | none=>.no
 | .unp is e,ρ=>ofO (evE cf e ρ) fun r ρ1=>match r with
  | .fz (.tup ts)=>Qak (Qbi is ts ρ1) .nx
  | _=>.no
 | .par i j a b,ρ=>ofO (evE cf a ρ) fun ra ρ1=>ofO (evE cf b ρ1) fun rb ρ2=>match ra,rb with
  | .fz x,.fz y=>Qak (Qbi [i,j] [x,y] ρ2) .nx
  | _,_=>.no
 | .app i e,ρ=>if (Qa ρ i).mut=true then ofO (evE cf e ρ) fun r ρ1=>match frz r with
   | none=>.no
   | some t=>match Qa ρ1 i with
    | .ow (.lst ts)=>if ts.length<100000 then .nx (ρ1.set i (.ow (.lst (ts++[t])))) else .no
    | .ml (.lst ts)=>if ts.length<100000 then .nx (ρ1.set i (.ml (.lst (ts++[t])))) else .no
    | _=>.no
  else .no
 | .ext i e,ρ=>if (Qa ρ i).mut=true then ofO (evE cf e ρ) fun r ρ1=>match r with
   | .fz (.tup us)=>match Qa ρ1 i with
    | .ow (.lst ts)=>if ts.length+us.length≤100000 then .nx (ρ1.set i (.ow (.lst (ts++us)))) else .no
    | .ml (.lst ts)=>if ts.length+us.length≤100000 then .nx (ρ1.set i (.ml (.lst (ts++us)))) else .no
    | _=>.no
   | _=>.no
  else .no
 | .put i k e,ρ=>ofO (evE cf e ρ) fun r ρ1=>match frz r with
  | none=>.no
  | some t=>if (Qa ρ1 i).mut=true then ofO (evE cf k ρ1) fun rk ρ2=>match rk with
    | .fz (.int j)=>match Qa ρ2 i with
     | .ow (.lst ts)=>Qak (ixN ts.length j) fun n=>.nx (ρ2.set i (.ow (.lst (ts.set n t))))
     | .ml (.lst ts)=>Qak (ixN ts.length j) fun n=>.nx (ρ2.set i (.ml (.lst (ts.set n t))))
     | _=>.no
    | _=>.no
   else .no
 | .dput i k e,ρ=>ofO (evE cf e ρ) fun r ρ1=>match frz r with
  | none=>.no
  | some t=>if (Qa ρ1 i).mutD=true then ofO (evE cf k ρ1) fun rk ρ2=>match Qf1 rk with
    | some is=>match Qa ρ2 i with
     | .ow (.dtt ks ts)=>if ks.length<100000 then .nx (ρ2.set i (.ow (Qik ks ts is t))) else .no
     | .ml (.dtt ks ts)=>if ks.length<100000 then .nx (ρ2.set i (.ml (Qik ks ts is t))) else .no
     | _=>.no
    | none=>.no
   else .no
 | .ret e,ρ=>ofO (evE cf e ρ) fun r ρ1=>.rt r ρ1
 | .retN,ρ=>.rt (.fz .non) ρ
 | .ite c a b,ρ=>ofO (Qab (evE cf c ρ)) fun k ρ1=>if k then exS cf a ρ1 else exS cf b ρ1
 | .whl c b,ρ=>Qno (Qqr (fun ρ=>Qab (evE cf c ρ)) (exS cf b) 1000000 ρ)
 | .for_ w tg b,ρ=>Qno (ofO (evW cf w ρ) fun its ρ1=>match its.2 with
  | some _=>.no
  | none=>Qcp tg (exS cf b) its.1 ρ1)
 | .extL i e,ρ=>if (Qa ρ i).mut=true then ofO (evE cf e ρ) fun r ρ1=>match r with
   | .ow (.lst us)=>match Qa ρ1 i with
    | .ow (.lst ts)=>if ts.length+us.length≤100000 then .nx (ρ1.set i (.ow (.lst (ts++us)))) else .no
    | _=>.no
   | _=>.no
  else .no
 | .forS i tg b,ρ=>match Qa ρ i with
  | .ow (.lst ts)=>unl i (Q9n i tg (exS cf b) 100001 0 (ρ.set i (.ro (.lst ts))))
  | _=>.no
 | .brk,ρ=>.bk ρ
 | .cnt,ρ=>.ct ρ
 | .frz i,ρ=>match Qa ρ i with
  | .ow t=>.nx (ρ.set i (.fz t))
  | .ml _=>.no
  | .ro _=>.no
  | _=>.nx ρ
 | .raise c es,ρ=>ofO (evA cf es ρ) fun rs ρ1=>match rs with
  | [.fz (.int i)]=>if 6≤c then .xn ⟨c,some i⟩ ρ1 else .no
  | [.fz (.str _)]=>if c<6 then .xn ⟨c,none⟩ ρ1 else .no
  | _=>.no
 | .ins i k e,ρ=>if (Qa ρ i).mut=true then ofO (evE cf k ρ) fun rk ρ1=>match rk with
   | .fz (.int j)=>ofO (evE cf e ρ1) fun r ρ2=>match r with
    | .fz t=>match Qa ρ2 i with
     | .ow (.lst ts)=>if ts.length<100000∧0≤j∧j≤ts.length then .nx (ρ2.set i (.ow (.lst (Qmq ts j.toNat t)))) else .no
     | _=>.no
    | _=>.no
   | _=>.no
  else .no
 | .rem i e,ρ=>if (Qa ρ i).mut=true then ofO (evE cf e ρ) fun r ρ1=>match r with
   | .fz (.int n)=>match Qa ρ1 i with
    | .ow (.lst ts)=>match Qda ts with
     | some is=>match ixI n is with
      | some j=>.nx (ρ1.set i (.ow (.lst (ts.eraseIdx j))))
      | none=>.no
     | none=>.no
    | _=>.no
   | _=>.no
  else .no
 | .scr i a b f c1 c2,ρ=>if ρ.all Qac1=true then (match Qa ρ a,Qa ρ b with
  | .fz (.int x),.fz (.int y)=>match cf f [.fz (.int x),.fz (.int y)] with
   | .ok (.fz (.tup [u,.lst ts])) _=>match Qa8 i (.fz (.tup [u,.lst ts])) ρ with
    | some ρ1=>match Qab (evE cf c1 ρ1) with
     | .ok false _=>match Qab (evE cf c2 ρ1) with
      | .ok false _=>if ts.length<100000 then .nx (ρ.set i .un) else .no
      | _=>.no
     | _=>.no
    | none=>.no
   | _=>.no
  | _,_=>.no) else .no
 | .nest iF iR iH iW iS iT iN a0 a c v e1 e2,ρ=>Qhu (exS cf a0) (exS cf a) (fun ρ=>Qab (evE cf c ρ)) (evE cf v) (evE cf e1) (evE cf e2) iF iR iH iW iS iT iN ρ
 | .tryR i b h,ρ=>match exS cf b ρ with
  | .xn x ρ1=>(match h x.c x.arg with
   | some t=>.rt (.fz t) ρ1
   | none=>.no)
  | o=>o
 | .parO i j a b,ρ=>ofO (evE cf a ρ) fun ra ρ1=>ofO (evE cf b ρ1) fun rb ρ2=>match ra,rb with
  | .ow x,.ow y=>Qak (Qa8 i (.ow x) ρ2) fun ρ3=>Qak (Qa8 j (.ow y) ρ3) .nx
  | _,_=>.no
 | .bad,_=>.no
structure Fn where
 ps:Nat
 sz:Nat
 body:S
def Qfh (fn:Fn) (as:List Arg):En:=(as.map fun a=>match a with
 | .fz t=>Slot.fz t
 | .ml t=>.ml t
 | .ro t=>.ro t)++List.replicate (fn.sz-fn.ps) .un
def Qae:List Arg→En→Option (List T)
 | [],_=>some []
 | .ml _::as,.ml t::ρ=>(Qae as ρ).map (t :: ·)
 | .ml _::_,_=>none
 | .fz _::as,_::ρ=>(Qae as ρ).map (.non :: ·)
 | .ro _::as,_::ρ=>(Qae as ρ).map (.non :: ·)
 | _,[]=>none
def Qbc (ρ:En):PV→Option PV
 | .fz t=>some (.fz t)
 | .ow t=>some (.ow t)
 | .sl i=>match Qa ρ i with
  | .ow t=>some (.ow t)
  | _=>none
def Qcq (cf:CF) (fn:Fn) (as:List Arg):FR :=
 if as.length=fn.ps then match exS cf fn.body (Qfh fn as) with
  | .nx ρ=>match Qae as ρ with
   | some fin=>.ok (.fz .non) fin
   | none=>.no
  | .rt r ρ=>match Qbc ρ r,Qae as ρ with
   | some r,some fin=>.ok r fin
   | _,_=>.no
  | .xn x ρ=>match Qae as ρ with
   | some fin=>.xn x fin
   | none=>.no
  | _=>.no
 else .no
def evF (tab:Nat→Option Fn):Nat→CF
 | 0,_,_=>.no
 | n+1,f,as=>match tab f with
  | some fn=>Qcq (evF tab n) fn as
  | none=>.no
structure Bs where
 H:Hp
 G:Addr→Prop
 O:Addr→Prop
 M:Addr→Prop
 P:Nat→Addr→Prop
variable {B:Bs}
def OwnO (D:Hp):T→HO→Prop
 | .lst ts,.lst vs=>ts.length≤100000∧IsL D vs ts
 | .dtt ks ts,.dT kvs=>ks.length≤100000∧∃ vs,kvs=(ks.map kIs).zip vs∧ks.length=vs.length∧IsL D vs ts
 | _,_=>False
theorem OwnO.mono {D D':Hp}{t:T}(h:OwnO D t o)(s:Same D D'):OwnO D' t o:=by
 cases t with
 | lst ts=>cases o <;> first | exact ⟨h.1,h.2.mono s⟩ | exact h.elim
 | dtt ks ts =>
  cases o with
  | dT kvs=>obtain ⟨z,vs,e,l,q⟩:=h;exact ⟨z,vs,e,l,q.mono s⟩
  | _=>exact h.elim
 | _=>cases o <;> exact h.elim
theorem OwnO.pen {D:Hp}{t:T}(h:OwnO D t o):Q29 o=true:=by
 cases t with
 | lst ts=>cases o <;> first | rfl | exact h.elim
 | dtt ks ts=>cases o <;> first | rfl | exact h.elim
 | _=>cases o <;> exact h.elim
theorem OwnO.is {D D':Hp}{t:T}{a:Addr}(h:OwnO D t o)(e:D' a=some o)(s:Same D D'):Is D' (.ref a) t:=by
 cases t with
 | lst ts =>
  cases o with
  | lst vs=>exact .lst e (h.2.mono s) h.1
  | _=>exact h.elim
 | dtt ks ts =>
  cases o with
  | dT kvs =>
   obtain ⟨z,vs,rfl,l,q⟩:=h
   unfold Is
   exact ⟨z,a,vs,rfl,e,l,q.mono s⟩
  | _=>exact h.elim
 | _=>cases o <;> exact h.elim
def OwnAt (H:Hp) (G:Addr→Prop) (a:Addr) (t:T):Prop:=∃ o,H a=some o∧OwnO (dls H G) t o
theorem OwnAt.lst_inv {a:Addr}{ts:List T}(h:OwnAt H G a (.lst ts)):∃ vs,ts.length≤100000∧H a=some (.lst vs)∧IsL (dls H G) vs ts:=by
 obtain ⟨o,e,q⟩:=h
 cases o with
 | lst vs=>exact ⟨vs,q.1,e,q.2⟩
 | _=>exact q.elim
theorem OwnAt.of_lst {a:Addr}{ts:List T}{vs:List V}(z:ts.length≤100000)(e:H a=some (.lst vs))(r:IsL (dls H G) vs ts):OwnAt H G a (.lst ts):=⟨_,e,z,r⟩
theorem OwnAt.no_tup {a:Addr}{ts:List T}(h:OwnAt H G a (.tup ts)):False:=by
 obtain ⟨o,e,q⟩:=h
 cases o <;> exact q
def Qle (H:Hp) (G:Addr→Prop) (σ:St) (i:Nat):Slot→Prop
 | .un=>True
 | .fz t=>∃ v,σ[i]?=some (some v)∧Is (dls H G) v t
 | .ow t=>∃ a,σ[i]?=some (some (.ref a))∧G a∧OwnAt H G a t
 | .ml t=>∃ a,σ[i]?=some (some (.ref a))∧G a∧OwnAt H G a t
 | .ro t=>∃ a,σ[i]?=some (some (.ref a))∧G a∧OwnAt H G a t
 | .pin a=>σ[i]?=some (some (.ref a))
def PrvAt (σ:St) (ρ:En) (i:Nat) (a:Addr):Prop:=(∃ t,(Qa ρ i).prv=some t)∧σ[i]?=some (some (.ref a))
def OwA (σ:St) (ρ:En) (a:Addr):Prop:=∃ i t,Qa ρ i=.ow t∧σ[i]?=some (some (.ref a))
def MlA (σ:St) (ρ:En) (a:Addr):Prop:=∃ i t,Qa ρ i=.ml t∧σ[i]?=some (some (.ref a))
def PnA (σ:St) (ρ:En) (i:Nat) (a:Addr):Prop:=(∃ t,Qa ρ i=.ml t∨Qa ρ i=.ro t)∧σ[i]?=some (some (.ref a))
structure FI (B:Bs) (H:Hp) (G:Addr→Prop) (σ:St) (ρ:En):Prop where
 len:σ.length=ρ.length
 slot:∀ i,Qle H G σ i (Qa ρ i)
 apart:∀ i j a,PrvAt σ ρ i a→PrvAt σ ρ j a→i=j
 prv:Pen H G
 chg:∀ b o,¬ B.O b→¬ B.M b→B.H b=some o→H b=some o
 keep:∀ b o,B.H b=some o→∃ o',H b=some o'
 newO:∀ a,OwA σ ρ a→B.H a=none∨B.O a
 newM:∀ a,MlA σ ρ a→B.M a
 fix:∀ i a,PnA σ ρ i a→B.P i a
 gg:∀ b,B.G b→G b
 gn:∀ b,G b→B.G b∨B.H b=none
 bp:∀ b,B.G b→∃ o,B.H b=some o
abbrev Qan (H:Hp) (G:Addr→Prop) (σ:St) (ρ:En):Bs:=⟨H,G,OwA σ ρ,MlA σ ρ,PnA σ ρ⟩
section
variable {B:Bs} {H H1 H2:Hp} {G G1:Addr→Prop} {σ σ1:St} {ρ ρ1 ρ2:En}
theorem FI.self (F:FI B H G σ ρ):FI (Qan H G σ ρ) H G σ ρ :=
 ⟨F.len,F.slot,F.apart,F.prv,fun _ _ _ _ e=>e,fun _ o e=>⟨o,e⟩,fun _ h=>.inr h,fun _ h=>h,fun _ _ h=>h,fun _ h=>h,fun _ h=>.inl h,fun b h=>let ⟨xs,e,_⟩:=F.prv b h;⟨_,e⟩⟩
theorem FI.ownG (F:FI B H G σ ρ){a:Addr}(h:OwA σ ρ a):G a:=by
 obtain ⟨i,t,e,s⟩:=h
 have q:=F.slot i
 rw [e] at q
 obtain ⟨b,hb,g,_⟩:=q
 rw [s] at hb
 cases hb
 exact g
theorem FI.mlG (F:FI B H G σ ρ){a:Addr}(h:MlA σ ρ a):G a:=by
 obtain ⟨i,t,e,s⟩:=h
 have q:=F.slot i
 rw [e] at q
 obtain ⟨b,hb,g,_⟩:=q
 rw [s] at hb
 cases hb
 exact g
theorem FI.same (F0:FI B H G σ ρ)(F:FI (Qan H G σ ρ) H1 G1 σ1 ρ1):Same (dls H G) (dls H1 G1):=fun b o e=>by
 obtain ⟨n,e⟩:=Q5 e
 have e1:=F.chg b o (fun z=>n (F0.ownG z)) (fun z=>n (F0.mlG z)) e
 rw [Qbr fun z=>?_]
 ·exact e1
 ·rcases F.gn b z with z | z
  ·exact n z
  ·rw [show H b=none from z] at e;cases e
theorem FI.trans (F0:FI B H G σ ρ)(F:FI (Qan H G σ ρ) H1 G1 σ1 ρ1):FI B H1 G1 σ1 ρ1 where
 len:=F.len
 slot:=F.slot
 apart:=F.apart
 prv:=F.prv
 chg:=fun b o h1 h2 e=>F.chg b o (fun z=>by
  rcases F0.newO b z with z | z
  ·rw [e] at z;cases z
  ·exact h1 z) (fun z=>h2 (F0.newM b z)) (F0.chg b o h1 h2 e)
 keep:=fun b o e=>by
  obtain ⟨o1,e1⟩:=F0.keep b o e
  exact F.keep b o1 e1
 newO:=fun a h=>by
  rcases F.newO a h with z | z
  ·refine .inl ?_
   cases e:B.H a with
   | none=>rfl
   | some o =>
    obtain ⟨o1,e1⟩:=F0.keep a o e
    rw [show H a=none from z] at e1
    cases e1
  ·exact F0.newO a z
 newM:=fun a h=>F0.newM a (F.newM a h)
 fix:=fun i a h=>F0.fix i a (F.fix i a h)
 gg:=fun b h=>F.gg b (F0.gg b h)
 gn:=fun b h=>by
  rcases F.gn b h with z | z
  ·exact F0.gn b z
  ·refine .inr ?_
   cases e:B.H b with
   | none=>rfl
   | some o =>
    obtain ⟨o1,e1⟩:=F0.keep b o e
    rw [show H b=none from z] at e1
    cases e1
 bp:=F0.bp
theorem FI.free (F:FI B H G σ ρ){b:Addr}(h:H b=none):B.H b=none:=by
 cases e:B.H b with
 | none=>rfl
 | some o =>
  obtain ⟨o1,e1⟩:=F.keep b o e
  rw [h] at e1
  cases e1
theorem FI.grow (F:FI B H G σ ρ)(s:Same H H1):FI B H1 G σ ρ where
 len:=F.len
 slot:=fun i=>by
  have q:=F.slot i
  cases hs:Qa ρ i with
  | un=>trivial
  | fz t=>rw [hs] at q;obtain ⟨v,a,b⟩:=q;exact ⟨v,a,b.mono (Qbh s)⟩
  | ow t=>rw [hs] at q;obtain ⟨a,h1,h2,o,h5,h6⟩:=q;exact ⟨a,h1,h2,o,s _ _ h5,h6.mono (Qbh s)⟩
  | ml t=>rw [hs] at q;obtain ⟨a,h1,h2,o,h5,h6⟩:=q;exact ⟨a,h1,h2,o,s _ _ h5,h6.mono (Qbh s)⟩
  | ro t=>rw [hs] at q;obtain ⟨a,h1,h2,o,h5,h6⟩:=q;exact ⟨a,h1,h2,o,s _ _ h5,h6.mono (Qbh s)⟩
  | pin a=>rw [hs] at q;exact q
 apart:=F.apart
 prv:=F.prv.mono s
 chg:=fun b o h1 h2 e=>s b o (F.chg b o h1 h2 e)
 keep:=fun b o e=>by
  obtain ⟨o1,e1⟩:=F.keep b o e
  exact ⟨o1,s _ _ e1⟩
 newO:=F.newO
 newM:=F.newM
 fix:=F.fix
 gg:=F.gg
 gn:=F.gn
 bp:=F.bp
end
section
variable {B:Bs} {H H1 H2:Hp} {G G1:Addr→Prop} {σ σ1:St} {ρ ρ1 ρ2:En} {t:T}
theorem FI.prvAt (F:FI B H G σ ρ){i:Nat}(e:(Qa ρ i).prv=some t):∃ a,σ[i]?=some (some (.ref a))∧G a∧OwnAt H G a t:=by
 have q:=F.slot i
 cases hs:Qa ρ i with
 | un=>rw [hs] at e;cases e
 | fz t=>rw [hs] at e;cases e
 | ow t=>rw [hs] at e q;cases e;exact q
 | ml t=>rw [hs] at e q;cases e;exact q
 | ro t=>rw [hs] at e q;cases e;exact q
 | pin a=>rw [hs] at e;cases e
theorem Qeq {i:Nat}{s:Slot}(h:Qle H G σ i s)(sm:Same (dls H G) (dls H1 G1))(hk:∀ a o,(∃ t,s.prv=some t)→σ[i]?=some (some (.ref a))→H a=some o→H1 a=some o∧G1 a):Qle H1 G1 σ i s:=by
 cases s with
 | un=>trivial
 | fz t=>obtain ⟨v,a,b⟩:=h;exact ⟨v,a,b.mono sm⟩
 | ow t=>obtain ⟨a,h1,h2,o,h5,h6⟩:=h;exact ⟨a,h1,(hk a _ ⟨_,rfl⟩ h1 h5).2,o,(hk a _ ⟨_,rfl⟩ h1 h5).1,h6.mono sm⟩
 | ml t=>obtain ⟨a,h1,h2,o,h5,h6⟩:=h;exact ⟨a,h1,(hk a _ ⟨_,rfl⟩ h1 h5).2,o,(hk a _ ⟨_,rfl⟩ h1 h5).1,h6.mono sm⟩
 | ro t=>obtain ⟨a,h1,h2,o,h5,h6⟩:=h;exact ⟨a,h1,(hk a _ ⟨_,rfl⟩ h1 h5).2,o,(hk a _ ⟨_,rfl⟩ h1 h5).1,h6.mono sm⟩
 | pin a=>exact h
theorem PrvAt.at (F:FI B H G σ ρ){i:Nat}{a:Addr}(h:PrvAt σ ρ i a):G a∧∃ t,OwnAt H G a t:=by
 obtain ⟨⟨t,e⟩,s⟩:=h
 obtain ⟨b,sb,g,o⟩:=F.prvAt e
 rw [s] at sb
 cases sb
 exact ⟨g,t,o⟩
theorem OwA.prv {a:Addr}(h:OwA σ ρ a):∃ i,PrvAt σ ρ i a:=by
 obtain ⟨i,t,e,s⟩:=h
 exact ⟨i,⟨t,by rw [e];rfl⟩,s⟩
theorem MlA.prv {a:Addr}(h:MlA σ ρ a):∃ i,PrvAt σ ρ i a:=by
 obtain ⟨i,t,e,s⟩:=h
 exact ⟨i,⟨t,by rw [e];rfl⟩,s⟩
theorem Qwm {i:Nat}{a:Addr}(h:PrvAt σ ρ i a):OwA σ ρ a∨MlA σ ρ a∨PnA σ ρ i a:=by
 obtain ⟨⟨t,e⟩,s⟩:=h
 cases hs:Qa ρ i with
 | un=>rw [hs] at e;cases e
 | fz t=>rw [hs] at e;cases e
 | ow t=>exact .inl ⟨i,t,hs,s⟩
 | ml t=>exact .inr (.inl ⟨i,t,hs,s⟩)
 | ro t=>exact .inr (.inr ⟨⟨t,.inr hs⟩,s⟩)
 | pin a=>rw [hs] at e;cases e
theorem FI.reG (F:FI B H G σ ρ)(sm:Same (dls H G) (dls H1 G1))(s:Same H H1)(hk:∀ i a,PrvAt σ ρ i a→G1 a)(hp:Pen H1 G1)(gg:∀ b,B.G b→G1 b)(gn:∀ b,G1 b→B.G b∨B.H b=none):FI B H1 G1 σ ρ where
 len:=F.len
 slot:=fun i=>Qeq (F.slot i) sm fun a o h1 h2 e=>⟨s _ _ e,hk i a ⟨h1,h2⟩⟩
 apart:=F.apart
 prv:=hp
 chg:=fun b o h1 h2 e=>s b o (F.chg b o h1 h2 e)
 keep:=fun b o e=>by
  obtain ⟨o1,e1⟩:=F.keep b o e
  exact ⟨o1,s _ _ e1⟩
 newO:=F.newO
 newM:=F.newM
 fix:=F.fix
 gg:=gg
 gn:=gn
 bp:=F.bp
theorem FI.lessG (F:FI B H G σ ρ)(Z:Addr→Prop)(hz:∀ b,Z b→B.H b=none∧∀ i,¬ PrvAt σ ρ i b):FI B H (fun b=>G b∧¬ Z b) σ ρ:=by
 refine F.reG (Qce fun b h=>h.1) (Same.refl H) (fun i a h=>⟨(PrvAt.at F h).1,fun z=>(hz a z).2 i h⟩) (fun b h=>F.prv b h.1) (fun b h=>⟨F.gg b h,fun z=>?_⟩) fun b h=>F.gn b h.1
 obtain ⟨o,e⟩:=F.bp b h
 rw [(hz b z).1] at e
 cases e
theorem FI.addG (F:FI B H G σ ρ){l:Addr}{vs:HO}(hl:H l=none)(s:Same H H1)(e:H1 l=some vs)(hpn:Q29 vs=true):FI B H1 (fun b=>G b∨b=l) σ ρ:=by
 refine F.reG (fun b o eb=>?_) s (fun i a h=>.inl (PrvAt.at F h).1) (fun b hb=>?_) (fun b h=>.inl (F.gg b h)) (fun b h=>?_)
 ·obtain ⟨nb,eb⟩:=Q5 eb
  rw [Qbr fun z=>?_]
  ·exact s b o eb
  ·rcases z with z | z
   ·exact nb z
   ·rw [z,hl] at eb;cases eb
 ·rcases hb with hb | hb
  ·exact F.prv.mono s b hb
  ·exact ⟨vs,hb ▸ e,hpn⟩
 ·rcases h with h | h
  ·exact F.gn b h
  ·exact .inr (h ▸ F.free hl)
end
def TmpR (H0:Hp) (H:Hp) (G:Addr→Prop) (σ:St) (ρ:En) (v:V) (t:T):Prop:=∃ a,v=.ref a∧H0 a=none∧G a∧(∀ i,¬ PrvAt σ ρ i a)∧OwnAt H G a t
def PVR (H0:Hp) (H:Hp) (G:Addr→Prop) (σ:St) (ρ:En) (v:V):PV→Prop
 | .fz t=>Is (dls H G) v t
 | .ow t=>TmpR H0 H G σ ρ v t
 | .sl i=>σ[i]?=some (some v)
section
variable {H0 H:Hp} {G:Addr→Prop} {σ:St} {ρ:En}
theorem PVR.is {v:V}{t:T}(h:PVR H0 H G σ ρ v (.fz t)):Is (dls H G) v t:=h
theorem pvI {i:Int}:PVR H0 H G σ ρ (.int i) (.fz (.int i)):=show Is (dls H G) (.int i) (.int i) from Is.int
theorem pvB {i:Bool}:PVR H0 H G σ ρ (.bl i) (.fz (.bl i)):=show Is (dls H G) (.bl i) (.bl i) from Is.bl
theorem pvN:PVR H0 H G σ ρ .non (.fz .non):=show Is (dls H G) .non .non from Is.non
end
def Rdb (H:Hp) (G:Addr→Prop) (v:V) (t:T):Prop:=Is (dls H G) v t∨∃ a,v=.ref a∧OwnAt H G a t
theorem Rdb.is {v:V}{t:T}(h:Rdb H G v t):Is H v t:=by
 rcases h with h | ⟨a,rfl,o,e,q⟩
 ·exact h.mono (Qx9 _ _)
 ·exact q.is e (Qx9 _ _)
theorem Rdb.lst {v:V}{ts:List T}(h:Rdb H G v (.lst ts)):∃ a vs,v=.ref a∧ts.length≤100000∧H a=some (.lst vs)∧IsL (dls H G) vs ts:=by
 rcases h with h | ⟨a,rfl,q⟩
 ·obtain ⟨a,vs,rfl,e,r⟩:=h.lst_inv
  exact ⟨a,vs,rfl,h.lst_len,(Q5 e).2,r⟩
 ·obtain ⟨vs,z,h,r⟩:=q.lst_inv
  exact ⟨a,vs,rfl,z,h,r⟩
theorem Rdb.tup {v:V}{ts:List T}(h:Rdb H G v (.tup ts)):Is (dls H G) v (.tup ts):=by
 rcases h with h | ⟨a,_,q⟩
 ·exact h
 ·exact q.no_tup.elim
theorem Rdb.int {v:V}{i:Int}(h:Rdb H G v (.int i)):v=.int i:=h.is.int_inv
theorem Rdb.bl {v:V}{b:Bool}(h:Rdb H G v (.bl b)):v=.bl b:=by
 have q:=h.is
 unfold Is at q
 exact q
theorem Rdb.str {v:V}{b:Str}(h:Rdb H G v (.str b)):v=.str b:=by
 have q:=h.is
 unfold Is at q
 exact q
theorem Rdb.non {v:V}(h:Rdb H G v .non):v=.non:=by
 have q:=h.is
 unfold Is at q
 exact q
section
variable {B:Bs} {H H0 H1 H2:Hp} {G G1 G2:Addr→Prop} {σ σ1:St} {ρ ρ1 ρ2:En} {v:V} {r:PV} {t:T}
theorem PVR.rdb (h:PVR H0 H G σ ρ1 v r)(F:FI B H G σ ρ)(e:cont ρ r=some t):Rdb H G v t:=by
 cases r with
 | fz t=>cases e;exact .inl h
 | ow t =>
  cases e
  obtain ⟨a,rfl,_,_,_,q⟩:=h
  exact .inr ⟨a,rfl,q⟩
 | sl i =>
  obtain ⟨a,s,g,q⟩:=F.prvAt e
  have h:σ[i]?=some (some v):=h
  rw [s] at h
  cases h
  exact .inr ⟨a,rfl,q⟩
theorem OwnAt.mono {a:Addr}(h:OwnAt H G a t)(s:Same (dls H G) (dls H1 G1))(e:∀ o,H a=some o→H1 a=some o):OwnAt H1 G1 a t:=by
 obtain ⟨o,h3,h4⟩:=h
 exact ⟨o,e _ h3,h4.mono s⟩
theorem FI.nobody (F0:FI B H G σ ρ)(F:FI (Qan H G σ ρ) H1 G1 σ ρ1){a:Addr}(e:H a=some o)(n:∀ i,¬ PrvAt σ ρ i a):∀ i,¬ PrvAt σ ρ1 i a:=fun i h=>by
 rcases Qwm h with h | h | h
 ·rcases F.newO a h with z | z
  ·rw [show H a=none from z] at e;cases e
  ·obtain ⟨j,z⟩:=OwA.prv z;exact n j z
 ·obtain ⟨j,z⟩:=MlA.prv (F.newM a h);exact n j z
 ·obtain ⟨⟨t,z⟩,s⟩:=F.fix i a h
  refine n i ⟨⟨t,?_⟩,s⟩
  rcases z with z | z <;> rw [z] <;> rfl
theorem PVR.step (h:PVR H0 H G σ ρ v r)(F0:FI B H G σ ρ)(F:FI (Qan H G σ ρ) H1 G1 σ ρ1):PVR H0 H1 G1 σ ρ1 v r:=by
 cases r with
 | fz t=>exact Is.mono (F0.same F) h
 | sl i=>exact h
 | ow t =>
  obtain ⟨a,rfl,n,g,np,q⟩:=h
  have q':=q
  obtain ⟨ob,ea,_⟩:=q
  refine ⟨a,rfl,n,F.gg a g,F0.nobody F ea np,q'.mono (F0.same F) fun o e=>F.chg a o (fun z=>?_) (fun z=>?_) e⟩
  ·obtain ⟨j,z⟩:=OwA.prv z;exact np j z
  ·obtain ⟨j,z⟩:=MlA.prv z;exact np j z
theorem PVR.early (h:PVR H1 H2 G2 σ ρ2 v r)(F:FI (Qan H G σ ρ) H1 G1 σ ρ1):PVR H H2 G2 σ ρ2 v r:=by
 cases r with
 | fz t=>exact h
 | sl i=>exact h
 | ow t =>
  obtain ⟨a,rfl,n,g⟩:=h
  exact ⟨a,rfl,F.free n,g⟩
end
def Q9o (mg:Str→Option Value) (H:Hp) (x:Xn) (cls:Value) (dx:Option Addr):Prop:=∃ nm,Qs2[x.c]?=some nm∧cls=.ref (cad mg nm)∧match x.arg with
 | none=>dx=none
 | some i=>∃ d,dx=some d∧H d=some (.xd [("at",.int i)])
structure Pr where
 cf:CF
 R:XR
 mg:Str→Option Value
variable {p:Pr}
def Fin (p:Pr) (B:Bs) (σ:St) {α:Type} (o:Out α) (K:α→En→Prop):Prop:=match o with
 | .ok a ρ1=>K a ρ1
 | .xn x ρ1=>∀ cls dx H1 G1,FI B H1 G1 σ ρ1→Q9o p.mg H1 x cls dx→p.R cls dx σ H1
 | .no=>False
def tE (p:Pr) (e:E):TE:=fun σ H Q=>∃ G ρ,FI (Qan H G σ ρ) H G σ ρ∧Fin p (Qan H G σ ρ) σ (evE p.cf e ρ) fun r ρ1=>∀ v H1 G1,FI (Qan H G σ ρ) H1 G1 σ ρ1→PVR H H1 G1 σ ρ1 v r→Q v H1
inductive PVRs (H0:Hp) (H:Hp) (G:Addr→Prop) (σ:St) (ρ:En):List V→List PV→Prop where
 | nil:PVRs H0 H G σ ρ [] []
 | cons {v r vs rs}:PVR H0 H G σ ρ v r→PVRs H0 H G σ ρ vs rs→PVRs H0 H G σ ρ (v::vs) (r::rs)
def tA (p:Pr) (es:Es):TA:=fun σ H Q=>∃ G ρ,FI (Qan H G σ ρ) H G σ ρ∧Fin p (Qan H G σ ρ) σ (evA p.cf es ρ) fun rs ρ1=>∀ vs H1 G1,FI (Qan H G σ ρ) H1 G1 σ ρ1→PVRs H H1 G1 σ ρ1 vs rs→Q vs H1
def tT (p:Pr) (e:E):TT:=fun σ H Q=>∃ G ρ,FI (Qan H G σ ρ) H G σ ρ∧Fin p (Qan H G σ ρ) σ (Qab (evE p.cf e ρ)) fun b ρ1=>∀ H1 G1,FI (Qan H G σ ρ) H1 G1 σ ρ1→Q b H1
section
variable {p:Pr} {B:Bs} {H H0 H1 H2:Hp} {G G1:Addr→Prop} {σ:St} {ρ ρ1 ρ2:En} {α β:Type}
theorem Fin.bind {o:Out α}{k:α→En→Out β}{K:β→En→Prop}(h:Fin p B σ (o.bind k) K):Fin p B σ o fun a ρ1=>Fin p B σ (k a ρ1) K:=by
 cases o with
 | ok a ρ1=>exact h
 | xn x ρ1=>exact h
 | no=>exact h
theorem Fin.imp {o:Out α}{K K':α→En→Prop}(h:Fin p B σ o K)(q:∀ a ρ1,K a ρ1→K' a ρ1):Fin p B σ o K':=by
 cases o with
 | ok a ρ1=>exact q _ _ h
 | xn x ρ1=>exact h
 | no=>exact h
theorem Fin.rebase {o:Out α}{K K':α→En→Prop}(F:FI B H1 G σ ρ1)(h:Fin p B σ o K)(q:∀ a ρ2,K a ρ2→K' a ρ2):Fin p (Qan H1 G σ ρ1) σ o K':=by
 cases o with
 | ok a ρ1=>exact q _ _ h
 | xn x ρ1=>exact fun cls dx H2 G2 F2=>h cls dx H2 G2 (F.trans F2)
 | no=>exact h
theorem Qgz {K:PV→En→Prop}(F:FI B H1 G σ ρ1)(h:Fin p B σ (evE p.cf e ρ1) K)(q:∀ r ρ2 v H2 G2,K r ρ2→FI B H2 G2 σ ρ2→FI (Qan H1 G σ ρ1) H2 G2 σ ρ2→PVR H1 H2 G2 σ ρ2 v r→Q v H2):tE p e σ H1 Q :=
 ⟨G,ρ1,F.self,h.rebase F fun r ρ2 k v H2 G2 F2 pv=>q r ρ2 v H2 G2 k (F.trans F2) F2 pv⟩
theorem Qac3 {es:Es}{Q:List V→Hp→Prop}{K:List PV→En→Prop}(F:FI B H1 G σ ρ1)(h:Fin p B σ (evA p.cf es ρ1) K)(q:∀ r ρ2 v H2 G2,K r ρ2→FI B H2 G2 σ ρ2→FI (Qan H1 G σ ρ1) H2 G2 σ ρ2→PVRs H1 H2 G2 σ ρ2 v r→Q v H2):tA p es σ H1 Q :=
 ⟨G,ρ1,F.self,h.rebase F fun r ρ2 k v H2 G2 F2 pv=>q r ρ2 v H2 G2 k (F.trans F2) F2 pv⟩
theorem Qyo {Q:Bool→Hp→Prop}{K:Bool→En→Prop}(F:FI B H1 G σ ρ1)(h:Fin p B σ (Qab (evE p.cf e ρ1)) K)(q:∀ b ρ2 H2 G2,K b ρ2→FI B H2 G2 σ ρ2→FI (Qan H1 G σ ρ1) H2 G2 σ ρ2→Q b H2):tT p e σ H1 Q :=
 ⟨G,ρ1,F.self,h.rebase F fun r ρ2 k H2 G2 F2=>q r ρ2 H2 G2 k (F.trans F2) F2⟩
theorem tE2 {a b:E}{f:PV→PV→En→Out β}{K:β→En→Prop}{Z:V→V→Hp→Prop}(F:FI (Qan H G σ ρ) H G σ ρ)(h:Fin p (Qan H G σ ρ) σ ((evE p.cf a ρ).bind fun ra ρ1=>(evE p.cf b ρ1).bind fun rb ρ2=>f ra rb ρ2) K)
  (q:∀ ra rb ρ2 x y H2 G2,FI (Qan H G σ ρ) H2 G2 σ ρ2→PVR H H2 G2 σ ρ2 x ra→PVR H H2 G2 σ ρ2 y rb→Fin p (Qan H G σ ρ) σ (f ra rb ρ2) K→Z x y H2):tE p a σ H fun x H1=>tE p b σ H1 fun y H2=>Z x y H2:=by
 refine ⟨G,ρ,F,h.bind.imp fun ra ρ1 h1 x H1 G1 F1 r1=>?_⟩
 refine Qgz F1 h1.bind fun rb ρ2 y H2 G2 h2 F2 F2' r2=>?_
 exact q ra rb ρ2 x y H2 G2 F2 (r1.step F1 F2') (r2.early F1) h2
theorem Qlf {o:Out PV}{K:Bool→En→Prop}(h:Fin p B σ (Qab o) K):Fin p B σ o fun r ρ1=>∃ b,r=.fz (.bl b)∧K b ρ1:=by
 cases o with
 | ok r ρ1 =>
  cases r with
  | fz t=>cases t <;> first | exact ⟨_,rfl,h⟩ | exact False.elim h
  | ow t=>exact False.elim h
  | sl i=>exact False.elim h
 | xn x ρ1=>exact h
 | no=>exact h
end
theorem QE.weak {e:Expr}{t t':TE}(h:QE X e t)(q:∀ σ H Q,t' σ H Q→t σ H Q):QE X e t':=⟨h.h.weak q⟩
theorem QA.weak {e:List Expr}{t t':TA}(h:QA X e t)(q:∀ σ H Q,t' σ H Q→t σ H Q):QA X e t':=⟨h.h.weak q⟩
theorem QT.weak {e:Expr}{t t':TT}(h:QT X e t)(q:∀ σ H Q,t' σ H Q→t σ H Q):QT X e t':=⟨fun pins s σ H Q I z=>h.h pins s σ H Q I (q _ _ _ z)⟩
theorem QW.weak {e:Expr}{t t':TT}(h:QW X e t)(q:∀ σ H Q,t' σ H Q→t σ H Q):QW X e t':=⟨fun wh pins s σ H Q I z=>h.h wh pins s σ H Q I (q _ _ _ z)⟩
section
variable {X:Cx} {p:Pr} {e a b:Expr} {es:List Expr} {e' a' b' c':E} {es':Es} {pos p1 p2 p3:Pos} {x:Str}
theorem Qac4 {i:Nat}(hN:X.N[i]?=some x)(hv:Vis X.env.scope x)(hd:(x==("__debug__" : Str))=false)(hcd:(x==("__classdict__" : Str))=false):QE X (.Name x pos) (tE p (.var i)) :=
 (Qc2 i hN hv hd hcd).weak fun σ H Q ⟨G,ρ,F,h⟩=>by
  have q:=F.slot i
  unfold evE at h
  cases hs:Qa ρ i with
  | un=>rw [hs] at h;exact False.elim h
  | pin _=>rw [hs] at h;exact False.elim h
  | fz t=>rw [hs] at h q;obtain ⟨v,e,r⟩:=q;exact ⟨v,e,h v H G F r⟩
  | ow t=>rw [hs] at h q;obtain ⟨a,e,_⟩:=q;exact ⟨_,e,h _ H G F e⟩
  | ml t=>rw [hs] at h q;obtain ⟨a,e,_⟩:=q;exact ⟨_,e,h _ H G F e⟩
  | ro t=>rw [hs] at h q;obtain ⟨a,e,_⟩:=q;exact ⟨_,e,h _ H G F e⟩
theorem Qp {i j}:QE X (.Constant (.int i) j pos) (tE p (.int i)):=Qnj.weak fun σ H Q ⟨G,ρ,F,h⟩=>by unfold evE at h;exact h _ H G F pvI
theorem Qkf {i j}:QE X (.Constant (.bool i) j pos) (tE p (.bl i)):=q_bl.weak fun σ H Q ⟨G,ρ,F,h⟩=>by unfold evE at h;exact h _ H G F pvB
theorem Q6a {j}:QE X (.Constant .none j pos) (tE p .non):=Qab6.weak fun σ H Q ⟨G,ρ,F,h⟩=>by unfold evE at h;exact h _ H G F pvN
theorem Q9p {i:Int}(h:∃ u,X.mg x=some u∧RelV (.int i) u)(hg:Gl X x)(hd:(x==("__debug__" : Str))=false):QE X (.Name x pos) (tE p (.int i)) :=
 (Q8y h hg hd).weak fun σ H Q ⟨G,ρ,F,h⟩=>by unfold evE at h;exact h _ H G F pvI
theorem Qh:QA X [] (tA p .nil):=Qbu.weak fun σ H Q ⟨G,ρ,F,h⟩=>by unfold evA at h;exact h [] H G F .nil
theorem PVRs.early {H1 H2:Hp}{G1 G2:Addr→Prop}{ρ1 ρ2:En}{vs:List V}{rs:List PV}(h:PVRs H1 H2 G2 σ ρ2 vs rs)(F:FI (Qan H G σ ρ) H1 G1 σ ρ1):PVRs H H2 G2 σ ρ2 vs rs:=by
 induction h with
 | nil=>exact .nil
 | cons a _ ih=>exact .cons (a.early F) ih
theorem Q9q (ha:QE X e (tE p e'))(hr:QA X es (tA p es'))(hs:Qu e=true):QA X (e::es) (tA p (.cons e' es')) :=
 (Qat ha hr hs).weak fun σ H Q ⟨G,ρ,F,h⟩=>by
  unfold evA at h
  refine ⟨G,ρ,F,h.bind.imp fun r ρ1 h1 v H1 G1 F1 r1=>?_⟩
  refine Qac3 F1 h1.bind fun rs ρ2 vs H2 G2 h2 F2 F2' r2=>?_
  exact h2 (v::vs) H2 G2 F2 (.cons (r1.step F1 F2') (r2.early F1))
def Qlg:List V→List PV→Addr→Prop
 | v::vs,.ow _::rs,b=>v=.ref b∨Qlg vs rs b
 | _::vs,_::rs,b=>Qlg vs rs b
 | _,_,_=>False
theorem PVRs.tmp {vs:List V}{rs:List PV}(h:PVRs H0 H G σ ρ vs rs){b:Addr}(z:Qlg vs rs b):H0 b=none∧∀ i,¬ PrvAt σ ρ i b:=by
 induction h with
 | nil=>exact False.elim z
 | cons a _ ih =>
  rename_i v r vs rs _
  cases r with
  | fz t=>exact ih z
  | sl i=>exact ih z
  | ow t =>
   rcases z with z | z
   ·obtain ⟨c,e,n,_,np,_⟩:=a
    rw [z] at e
    cases e
    exact ⟨n,np⟩
   ·exact ih z
theorem PVRs.frz {G':Addr→Prop}{vs:List V}{rs:List PV}(h:PVRs H0 H G σ ρ vs rs)(s:∀ b,G' b→G b)(n:∀ b,Qlg vs rs b→¬ G' b):∀ {ts:List T},Qck rs=some ts→IsL (dls H G') vs ts:=by
 induction h with
 | nil=>intro ts e;cases e;exact .nil
 | cons a _ ih =>
  intro ts e
  rename_i v r vs rs _
  unfold Qck at e
  cases h1:L2.frz r with
  | none=>rw [h1] at e;cases e
  | some t =>
   cases h2:Qck rs with
   | none=>rw [h1,h2] at e;cases e
   | some us =>
    rw [h1,h2] at e
    cases e
    cases r with
    | sl i=>cases h1
    | fz t' =>
     cases h1
     exact .cons (Is.mono (Qce s) a) (ih (fun b z=>n b z) h2)
    | ow t' =>
     cases h1
     obtain ⟨c,rfl,_,_,_,ob,ec,q⟩:=a
     exact .cons (q.is (by rw [Qbr (n c (.inl rfl))];exact ec) (Qce s)) (ih (fun b z=>n b (.inr z)) h2)
theorem PVRs.lay {vs:List V}{rs:List PV}{ts:List T}(h:PVRs B.H H G σ ρ vs rs)(F:FI B H G σ ρ)(e:Qck rs=some ts):∃ G',FI B H G' σ ρ∧IsL (dls H G') vs ts∧∀ b,G' b→G b :=
 ⟨_,F.lessG (Qlg vs rs) fun b z=>h.tmp z,h.frz (fun b z=>z.1) (fun b z y=>y.2 z) e,fun b z=>z.1⟩
theorem PVR.lay {v:V}{r:PV}{t:T}(h:PVR B.H H G σ ρ v r)(F:FI B H G σ ρ)(e:L2.frz r=some t):∃ G',FI B H G' σ ρ∧Is (dls H G') v t∧∀ b,G' b→G b:=by
 obtain ⟨G',F',i,s⟩:=PVRs.lay (.cons h .nil) F (ts:=[t]) (by unfold Qck;rw [e];rfl)
 obtain ⟨v',w,e,a,_⟩:=i.cons_inv
 cases e
 exact ⟨G',F',a,s⟩
theorem Qd7 {x1}(h:QA X es (tA p es')):QE X (.Tuple es x1 pos) (tE p (.tup es')) :=
 (Qacd h).weak fun σ H Q ⟨G,ρ,F,h⟩=>by
  unfold evE at h
  refine ⟨G,ρ,F,h.bind.imp fun rs ρ1 h1 vs H1 G1 F1 r1=>?_⟩
  cases e:Qck rs with
  | none=>rw [e] at h1;exact False.elim h1
  | some ts =>
   rw [e] at h1
   by_cases z:ts.length≤100000
   ·simp only [if_pos z] at h1
    obtain ⟨G',F',r,_⟩:=PVRs.lay (B:=Qan H G σ ρ) r1 F1 e
    refine Q9d F'.prv r z fun y H2 s2 i2=>h1 y H2 G' (F'.grow s2) i2
   ·simp only [if_neg z] at h1
    exact False.elim h1
theorem Qlh {H1:Hp}{l:Addr}{ob:HO}{t:T}(F:FI B H G σ ρ)(hl:H l=none)(s:Same H H1)(e:H1 l=some ob)(r:OwnO (dls H G) t ob) :
  FI B H1 (fun b=>G b∨b=l) σ ρ∧PVR B.H H1 (fun b=>G b∨b=l) σ ρ (.ref l) (.ow t):=by
 refine ⟨F.addG hl s e r.pen,l,rfl,F.free hl,.inr rfl,fun i h=>?_,ob,e,r.mono fun b o eb=>?_⟩
 ·obtain ⟨_,t,o,ea,_⟩:=PrvAt.at F h
  rw [hl] at ea
  cases ea
 ·obtain ⟨nb,eb⟩:=Q5 eb
  rw [Qbr fun z=>?_]
  ·exact s b o eb
  ·rcases z with z | z
   ·exact nb z
   ·rw [z,hl] at eb;cases eb
theorem Qil {H1:Hp}{l:Addr}{vs:List V}{ts:List T}(F:FI B H G σ ρ)(hl:H l=none)(s:Same H H1)(e:H1 l=some (.lst vs))(r:IsL (dls H G) vs ts)(z:ts.length≤100000) :
  FI B H1 (fun b=>G b∨b=l) σ ρ∧PVR B.H H1 (fun b=>G b∨b=l) σ ρ (.ref l) (.ow (.lst ts)):=Qlh F hl s e ⟨z,r⟩
theorem Qdc (h:QA X es (tA p es')):QE X (.List es pos) (tE p (.lst es')) :=
 (Q5x h).weak fun σ H Q ⟨G,ρ,F,h⟩=>by
  unfold evE at h
  refine ⟨G,ρ,F,h.bind.imp fun rs ρ1 h1 vs H1 G1 F1 r1=>?_⟩
  cases e:Qck rs with
  | none=>rw [e] at h1;exact False.elim h1
  | some ts =>
   rw [e] at h1
   by_cases z:ts.length≤100000
   ·simp only [if_pos z] at h1
    obtain ⟨G',F',r,_⟩:=PVRs.lay (B:=Qan H G σ ρ) r1 F1 e
    refine Q9e F'.prv r z fun l H2 s2 n2 e2 i2=>?_
    obtain ⟨F2,r2⟩:=Qil F' n2 s2 e2 r z
    exact h1 _ H2 _ F2 r2
   ·simp only [if_neg z] at h1
    exact False.elim h1
theorem Qow {o:Option α}{K:α→En→Prop}(h:Fin p B σ (.opt o ρ) K):∃ a,o=some a∧K a ρ:=by
 cases o with
 | none=>exact False.elim h
 | some a=>exact ⟨a,rfl,h⟩
theorem Qyp {ra rb:PV}{f:T→T→Out α}{K:α→En→Prop}(h:Fin p B σ (match cont ρ ra,cont ρ rb with | some x,some y=>f x y | _,_=>.no) K):∃ x y,cont ρ ra=some x∧cont ρ rb=some y∧Fin p B σ (f x y) K:=by
 cases h1:cont ρ ra with
 | none=>rw [h1] at h;exact False.elim h
 | some x =>
  cases h2:cont ρ rb with
  | none=>rw [h1,h2] at h;exact False.elim h
  | some y=>rw [h1,h2] at h;exact ⟨x,y,rfl,rfl,h⟩
def Op2 (r:R2) (f:T→T→Option PV):Prop:=∀ (B:Bs) (H:Hp) (G:Addr→Prop) (σ:St) (ρ:En) (x y:V) (t u:T) (w:PV) (Q:VK),FI B H G σ ρ→Rdb H G x t→Rdb H G y u→f t u=some w→(∀ v H1 G1,FI B H1 G1 σ ρ→PVR B.H H1 G1 σ ρ v w→Q v H1)→r x y H Q
theorem Qnp {op:Operator}{r:R2}{o:BOp}(ho:QOp X (binaryOp op) r)(hs:Op2 r (opB o))(ha:QE X a (tE p a'))(hb:QE X b (tE p b')):QE X (.BinOp a op b pos) (tE p (.bin o a' b')) :=
 (q_op ho ha hb).weak fun σ H Q ⟨G,ρ,F,h⟩=>by
  unfold evE at h
  refine tE2 F h fun ra rb ρ2 x y H2 G2 F2 r1 r2 h2=>?_
  obtain ⟨t,u,c1,c2,h3⟩:=Qyp h2
  obtain ⟨w,e,k⟩:=Qow h3
  exact hs _ H2 G2 σ ρ2 x y t u w Q F2 (r1.rdb F2 c1) (r2.rdb F2 c2) e fun v H3 G3 F3 pv=>k v H3 G3 F3 pv
theorem Qf2 {t:T}{i:Int}(e:asI t=some i):t=.int i:=by
 cases t <;> first | (cases e;done) | skip
 cases e
 rfl
theorem Qkn {o:BOp}{t u:T}{w:PV}(e:opB o t u=some w)(hx:∀ t u,opX o t u=none):∃ i j,t=.int i∧u=.int j∧opN o i j=some w:=by
 unfold opB at e
 cases h1:asI t with
 | none=>rw [h1] at e;exact absurd e (by simp [hx])
 | some i =>
  cases h2:asI u with
  | none=>rw [h1,h2] at e;exact absurd e (by simp [hx])
  | some j=>rw [h1,h2] at e;exact ⟨i,j,Qf2 h1,Qf2 h2,e⟩
theorem Quo {o:BOp}{t u:T}{w:PV}(e:opB o t u=some w):(∃ i j,t=.int i∧u=.int j∧opN o i j=some w)∨opX o t u=some w:=by
 unfold opB at e
 cases h1:asI t with
 | none=>rw [h1] at e;exact .inr e
 | some i =>
  cases h2:asI u with
  | none=>rw [h1,h2] at e;exact .inr e
  | some j=>rw [h1,h2] at e;exact .inl ⟨i,j,Qf2 h1,Qf2 h2,e⟩
theorem Q3g (K:Frg):Op2 (Qni K) (opB .add):=by
 intro B H G σ ρ x y t u w Q F hx hy e q
 rcases Quo e with ⟨i,j,rfl,rfl,e⟩ | e1
 ·obtain rfl:=hx.int
  obtain rfl:=hy.int
  cases e
  exact .inl ⟨_,_,rfl,rfl,q _ H G F pvI⟩
 replace e:Q9j t u=some w:=e1
 clear e1
 unfold Q9j at e
 split at e
 ·rename_i ts us
  by_cases z:ts.length+us.length≤100000
  ·rw [if_pos z] at e;cases e
   exact Q9c F.prv hx.tup hy.tup z fun v H1 s1 i1=>q v H1 G (F.grow s1) i1
  ·rw [if_neg z] at e;cases e
 ·rename_i ts us
  by_cases z:ts.length+us.length≤100000
  ·rw [if_pos z] at e;cases e
   obtain ⟨a,vs,rfl,z1,ea,r1⟩:=hx.lst
   obtain ⟨b,ws,rfl,z2,eb,r2⟩:=hy.lst
   refine .inr (.inl ⟨a,b,vs,ws,rfl,rfl,ea,eb,Qbq (by rw [r1.length,r2.length];exact z),fun l hl=>?_⟩)
   obtain ⟨F2,r3⟩:=Qil F hl (Same.upd hl) Qr (r1.append r2) (by rw [List.length_append];exact z)
   exact q _ _ _ F2 r3
  ·rw [if_neg z] at e;cases e
 ·cases e
theorem Q3h:Op2 (rI0 fun i j=>.int (i-j)) (opB .sub):=by
 intro B H G σ ρ x y t u w Q F hx hy e q
 obtain ⟨i,j,rfl,rfl,e⟩:=Qkn e fun _ _=>rfl
 obtain rfl:=hx.int
 obtain rfl:=hy.int
 cases e
 exact ⟨_,_,rfl,rfl,q _ H G F pvI⟩
theorem Qqs {i:Int}(h:i.natAbs<2^250):Builtin.Int.intBits i≤2^20:=by
 have h1:Builtin.Int.intBits i≤250:=by
  unfold Builtin.Int.intBits
  split
  ·exact Nat.zero_le _
  ·rename_i hn
   have h0:i.natAbs≠0:=by
    intro z
    exact hn (by simpa using z)
   have h2:i.natAbs.log2<250:=(Nat.log2_lt h0).mpr h
   omega
 exact Nat.le_trans h1 (by decide)
theorem Q3i {i:Int}(h:Qd6 i j=true):IntMulOk i j:=by
 unfold Qd6 at h
 simp only [Bool.or_eq_true,Bool.and_eq_true,decide_eq_true_eq] at h
 rcases h with h | h | ⟨h1,h2⟩
 ·exact CMul.ok (.inl ⟨by omega,by omega⟩)
 ·exact CMul.ok (.inr ⟨by omega,by omega⟩)
 ·exact .of_bits (Qqs h1) (Qqs h2)
def Q6b:R2:=fun x y H Q=>(rI (fun i j=>IntMulOk i j) fun i j=>.int (i*j)) x y H Q∨Q5u x y H Q
theorem Q9r:QOp X (binaryOp .Mult) Q6b:=⟨(opI fun _ _ _ _ _ _ _ hc q=>mul_int q hc).or uMul⟩
theorem Q3j:Op2 Q6b (opB .mul):=by
 intro B H G σ ρ x y t u w Q F hx hy e q
 rcases Quo e with ⟨i,j,rfl,rfl,e⟩ | e1
 ·obtain rfl:=hx.int
  obtain rfl:=hy.int
  have e':(if Qd6 i j=true then some (PV.fz (.int (i*j))) else none)=some w:=e
  by_cases z:Qd6 i j=true
  ·rw [if_pos z] at e';cases e'
   exact .inl ⟨_,_,rfl,rfl,Q3i z,q _ H G F pvI⟩
  ·rw [if_neg z] at e';cases e'
 replace e:Q9k t (asI u)=some w:=e1
 clear e1
 unfold Q9k at e
 split at e
 ·rename_i ts k hk
  obtain rfl:=Qf2 hk
  obtain rfl:=hy.int
  by_cases z:ts.length*k.toNat≤100000∧1≤k∧k.natAbs≤100000∧ts≠[]
  ·rw [if_pos z] at e;cases e
   obtain ⟨a,vs,rfl,ha,r⟩:=hx.tup.tup_inv
   obtain ⟨z1,z2,z3,z4⟩:=z
   have hl:=r.length
   refine .inr (.inr (.inr ⟨a,k,vs,rfl,rfl,(Q5 ha).2,fun e=>?_,z2,by omega,Qbq (by rw [hl];exact z1),fun l H1 s1 e1 _=>q _ H1 G (F.grow s1) (Qeb (F.prv.mono s1) e1 ((r.flat k.toNat).mono (Qbh s1)) ?_)⟩))
   ·rw [e] at hl
    exact z4 (List.length_eq_zero_iff.mp hl.symm)
   ·rw [Qkl,Nat.mul_comm];exact z1
  ·rw [if_neg z] at e;cases e
 ·cases e
def CDvF (i j:Int):Prop:=j≠0∧j.natAbs<2^250
theorem Q9s:QOp X (binaryOp .FloorDiv) (rI CDvF fun i j=>.int (i.fdiv j)):=⟨opI fun i j _ _ _ _ _ hc q=>floordiv_int hc.1 q (.inl (PyProof.noPylong_of_log2 (by
 have h1:j.natAbs≠0:=by have:=hc.1;omega
 have h2:j.natAbs.log2<250:=(Nat.log2_lt h1).mpr hc.2
 omega)))⟩
theorem Q9t:QOp X (binaryOp .Mod) (rI (fun _ j=>j≠0) fun i j=>.int (i.fmod j)):=⟨Q2h⟩
theorem Q3k:Op2 (rI CDvF fun i j=>.int (i.fdiv j)) (opB .fdv):=by
 intro B H G σ ρ x y t u w Q F hx hy e q
 obtain ⟨i,j,rfl,rfl,e⟩:=Qkn e fun _ _=>rfl
 obtain rfl:=hx.int
 obtain rfl:=hy.int
 have e':(if 0<j∧j.natAbs<2^64 then some (PV.fz (.int (i / j))) else if j≠0∧j.natAbs<2^250 then some (.fz (.int (i.fdiv j))) else none)=some w:=e
 by_cases z:0<j∧j.natAbs<2^64
 ·rw [if_pos z] at e';cases e'
  refine ⟨_,_,rfl,rfl,⟨by omega,Nat.lt_trans z.2 (by decide)⟩,?_⟩
  show Q (.int (i.fdiv j)) H
  rw [Int.fdiv_eq_ediv_of_nonneg i (by omega)]
  exact q _ H G F pvI
 ·rw [if_neg z] at e'
  by_cases z2:j≠0∧j.natAbs<2^250
  ·rw [if_pos z2] at e';cases e'
   exact ⟨_,_,rfl,rfl,z2,q _ H G F pvI⟩
  ·rw [if_neg z2] at e';cases e'
theorem Q3l:Op2 (rI (fun _ j=>j≠0) fun i j=>.int (i.fmod j)) (opB .mod):=by
 intro B H G σ ρ x y t u w Q F hx hy e q
 obtain ⟨i,j,rfl,rfl,e⟩:=Qkn e fun _ _=>rfl
 obtain rfl:=hx.int
 obtain rfl:=hy.int
 have e':(if 0<j then some (PV.fz (.int (i%j))) else if j<0 then some (.fz (.int (i.fmod j))) else none)=some w:=e
 by_cases z:0<j
 ·rw [if_pos z] at e';cases e'
  refine ⟨_,_,rfl,rfl,by omega,?_⟩
  show Q (.int (i.fmod j)) H
  rw [Int.fmod_eq_emod_of_nonneg i (by omega)]
  exact q _ H G F pvI
 ·rw [if_neg z] at e'
  by_cases z2:j<0
  ·rw [if_pos z2] at e';cases e'
   exact ⟨_,_,rfl,rfl,by omega,q _ H G F pvI⟩
  ·rw [if_neg z2] at e';cases e'
theorem Q3m:Op2 (rI Q71 fun i j=>.int (i^j.toNat)) (opB .pow):=by
 intro B H G σ ρ x y t u w Q F hx hy e q
 obtain ⟨i,j,rfl,rfl,e⟩:=Qkn e fun _ _=>rfl
 obtain rfl:=hx.int
 obtain rfl:=hy.int
 have e':(if 0≤j∧j.natAbs≤1000000∧i.natAbs<2^64 then some (PV.fz (.int (i^j.toNat))) else none)=some w:=e
 by_cases z:0≤j∧j.natAbs≤1000000∧i.natAbs<2^64
 ·rw [if_pos z] at e';cases e'
  exact ⟨_,_,rfl,rfl,⟨z.1,by omega,z.2.2⟩,q _ H G F pvI⟩
 ·rw [if_neg z] at e';cases e'
theorem Qyq (ha:QE X a (tE p a')):QE X (.UnaryOp .USub a pos) (tE p (.neg a')) :=
 (q_un Qach ha).weak fun σ H Q ⟨G,ρ,F,h⟩=>by
  unfold evE at h
  refine ⟨G,ρ,F,h.bind.imp fun r ρ1 h1 v H1 G1 F1 r1=>?_⟩
  cases r with
  | fz t =>
   cases t <;> first | exact False.elim h1 | skip
   obtain rfl:=r1.is.int_inv
   exact ⟨_,rfl,h1 _ H1 G1 F1 pvI⟩
  | ow t=>exact False.elim h1
  | sl i=>exact False.elim h1
theorem PVR.bl {v:V}{b:Bool}(h:PVR H0 H G σ ρ v (.fz (.bl b))):v=.bl b:=by
 have q:=h.is
 unfold Is at q
 exact q
theorem Qnq {Q:Bool→Hp→Prop}(h:tT p e' σ H Q):tE p e' σ H fun x H1=>∃ c,x=.bl c∧Q c H1:=by
 obtain ⟨G,ρ,F,h⟩:=h
 refine ⟨G,ρ,F,(Qlf h).imp ?_⟩
 rintro r ρ1 ⟨b,rfl,k⟩ v H1 G1 F1 r1
 exact ⟨b,r1.bl,k H1 G1 F1⟩
theorem Q6c (ha:QE X a (tE p a')):QE X (.UnaryOp .Not a pos) (tE p (.not a')) :=
 (Qab8 ha).weak fun σ H Q ⟨G,ρ,F,h⟩=>by
  unfold evE at h
  exact Qnq (Q:=fun c H1=>Q (.bl (!c)) H1) ⟨G,ρ,F,h.bind.imp fun b ρ1 k H1 G1 F1=>k _ H1 G1 F1 pvB⟩
theorem Qyr {rest:List Expr}(ha:QE X a (tE p a'))(hb:QE X (.BoolOp .And (b::rest) pos) (tE p b')):QE X (.BoolOp .And (a::b::rest) pos) (tE p (.and a' b')) :=
 (Qaca ha hb).weak fun σ H Q ⟨G,ρ,F,h⟩=>by
  unfold evE at h
  refine Qnq (Q:=fun c H1=>if c=true then tE p b' σ H1 Q else Q (.bl false) H1) ⟨G,ρ,F,h.bind.imp fun c ρ1 k H1 G1 F1=>?_⟩
  cases c with
  | false=>exact k _ H1 G1 F1 pvB
  | true =>
   show tE p b' σ H1 Q
   refine Qgz F1 (Qlf k.bind) ?_
   rintro r ρ2 v H2 G2 ⟨d,rfl,k2⟩ F2 F2' r2
   exact k2 v H2 G2 F2 r2
theorem s_or {rest:List Expr}(ha:QE X a (tE p a'))(hb:QE X (.BoolOp .Or (b::rest) pos) (tE p b')):QE X (.BoolOp .Or (a::b::rest) pos) (tE p (.or a' b')) :=
 (q_or ha hb).weak fun σ H Q ⟨G,ρ,F,h⟩=>by
  unfold evE at h
  refine Qnq (Q:=fun c H1=>if c=true then Q (.bl true) H1 else tE p b' σ H1 Q) ⟨G,ρ,F,h.bind.imp fun c ρ1 k H1 G1 F1=>?_⟩
  cases c with
  | true=>exact k _ H1 G1 F1 pvB
  | false =>
   show tE p b' σ H1 Q
   refine Qgz F1 (Qlf k.bind) ?_
   rintro r ρ2 v H2 G2 ⟨d,rfl,k2⟩ F2 F2' r2
   exact k2 v H2 G2 F2 r2
theorem Qup {op}(ha:QE X a (tE p a')):QE X (.BoolOp op [a] pos) (tE p a'):=Qab9 ha
theorem Qac6 (hc:QT X c (tT p c'))(ha:QE X a (tE p a'))(hb:QE X b (tE p b')):QE X (.IfExp c a b pos) (tE p (.ite c' a' b')) :=
 (q_if hc ha hb).weak fun σ H Q ⟨G,ρ,F,h⟩=>by
  unfold evE at h
  refine ⟨G,ρ,F,h.bind.imp fun k ρ1 h1 H1 G1 F1=>?_⟩
  cases k with
  | true=>exact Qgz F1 h1 fun r ρ2 v H2 G2 k2 F2 F2' r2=>k2 v H2 G2 F2 (r2.early F1)
  | false=>exact Qgz F1 h1 fun r ρ2 v H2 G2 k2 F2 F2' r2=>k2 v H2 G2 F2 (r2.early F1)
theorem Qac7 (ha:QE X e (tE p e'))(he:∀ whole,isTrue e X.env whole=(do let v ← whole;standAt e.pos;holding [v] (truthy v))):QT X e (tT p e'):=(Q8z ha he).weak fun σ H Q h=>Qnq h
theorem Qe7 (ha:QT X a (tT p a')):QT X (.UnaryOp .Not a pos) (tT p (.not a')) :=
 (Q80 ha).weak fun σ H Q ⟨G,ρ,F,h⟩=>by
  unfold evE at h
  refine ⟨G,ρ,F,?_⟩
  cases e:Qab (evE p.cf a' ρ) with
  | ok b ρ1=>rw [e] at h;exact h
  | xn x ρ1=>rw [e] at h;exact h
  | no=>rw [e] at h;exact h
theorem Qac8 {rest:List Expr}(ha:QT X a (tT p a'))(hb:QW X (.BoolOp .And (b::rest) pos) (tT p b')):QW X (.BoolOp .And (a::b::rest) pos) (tT p (.and a' b')) :=
 (Q82 ha hb).weak fun σ H Q ⟨G,ρ,F,h⟩=>by
  unfold evE at h
  have h2:Fin p (Qan H G σ ρ) σ (Qab (evE p.cf a' ρ)) fun c ρ1=>Fin p (Qan H G σ ρ) σ (if c then Qab (evE p.cf b' ρ1) else .ok false ρ1) fun b ρ1=>∀ H1 G1,FI (Qan H G σ ρ) H1 G1 σ ρ1→Q b H1:=by
   cases e:Qab (evE p.cf a' ρ) with
   | ok b ρ1 =>
    rw [e] at h
    cases b with
    | false=>exact h
    | true =>
     show Fin _ _ _ (Qab (evE p.cf b' ρ1)) _
     cases e2:Qab (evE p.cf b' ρ1) with
     | ok b ρ2=>simp only [Out.bind,if_true,e2] at h;exact h
     | xn x ρ2=>simp only [Out.bind,if_true,e2] at h;exact h
     | no=>simp only [Out.bind,if_true,e2] at h;exact h
   | xn x ρ1=>rw [e] at h;exact h
   | no=>rw [e] at h;exact h
  refine ⟨G,ρ,F,h2.imp fun c ρ1 k H1 G1 F1=>?_⟩
  cases c with
  | false=>exact k H1 G1 F1
  | true=>exact Qyo F1 k fun b ρ2 H2 G2 k2 F2 _=>k2 H2 G2 F2
theorem Qmr {rest:List Expr}(ha:QT X a (tT p a'))(hb:QW X (.BoolOp .Or (b::rest) pos) (tT p b')):QW X (.BoolOp .Or (a::b::rest) pos) (tT p (.or a' b')) :=
 (Qacc ha hb).weak fun σ H Q ⟨G,ρ,F,h⟩=>by
  unfold evE at h
  have h2:Fin p (Qan H G σ ρ) σ (Qab (evE p.cf a' ρ)) fun c ρ1=>Fin p (Qan H G σ ρ) σ (if c then .ok true ρ1 else Qab (evE p.cf b' ρ1)) fun b ρ1=>∀ H1 G1,FI (Qan H G σ ρ) H1 G1 σ ρ1→Q b H1:=by
   cases e:Qab (evE p.cf a' ρ) with
   | ok b ρ1 =>
    rw [e] at h
    cases b with
    | true=>exact h
    | false =>
     show Fin _ _ _ (Qab (evE p.cf b' ρ1)) _
     cases e2:Qab (evE p.cf b' ρ1) with
     | ok b ρ2=>simp only [Out.bind,e2] at h;exact h
     | xn x ρ2=>simp only [Out.bind,e2] at h;exact h
     | no=>simp only [Out.bind,e2] at h;exact h
   | xn x ρ1=>rw [e] at h;exact h
   | no=>rw [e] at h;exact h
  refine ⟨G,ρ,F,h2.imp fun c ρ1 k H1 G1 F1=>?_⟩
  cases c with
  | true=>exact k H1 G1 F1
  | false=>exact Qyo F1 k fun b ρ2 H2 G2 k2 F2 _=>k2 H2 G2 F2
theorem Qli {op}(ha:QT X a (tT p a')):QW X (.BoolOp op [a] pos) (tT p a'):=by
 cases op with
 | And=>exact Q26 ha
 | Or=>exact Q81 ha
theorem t_w (h:QW X e (tT p e')):QT X e (tT p e'):=q_wt h
end
section
variable {X:Cx} {p:Pr} {e a b:Expr} {es:List Expr} {e' a' b' c':E} {es':Es} {pos p1 p2 p3:Pos} {x:Str}
def Oc2 (r:R2) (f:T→T→Option Bool):Prop:=∀ (H:Hp) (G:Addr→Prop) (x y:V) (t u:T) (k:Bool) (Q:VK),Rdb H G x t→Rdb H G y u→f t u=some k→Q (.bl k) H→r x y H Q
theorem Qys {r:R2}{o:COp}(hs:Oc2 r (opC o))(h:tE p (.cmp o a' b') σ H Q):tOp r (tE p a') (tE p b') σ H Q:=by
 obtain ⟨G,ρ,F,h⟩:=h
 unfold evE at h
 refine tE2 F h fun ra rb ρ2 x y H2 G2 F2 r1 r2 h2=>?_
 obtain ⟨t,u,c1,c2,h3⟩:=Qyp h2
 cases e:opC o t u with
 | none=>rw [e] at h3;exact False.elim h3
 | some k =>
  rw [e] at h3
  exact hs H2 G2 x y t u k Q (r1.rdb F2 c1) (r2.rdb F2 c2) e (h3 _ H2 G2 F2 pvB)
theorem Qqt {r:R2}{o:COp}(ho:QOp X (compareOp op) r)(hs:Oc2 r (opC o))(ha:QE X a (tE p a'))(hb:QE X b (tE p b'))(hm:behindInMarks op b=false):QE X (.Compare a [op] [b] pos) (tE p (.cmp o a' b')) :=
 (Qacb ho ha hb hm).weak fun σ H Q h=>Qys hs h
theorem Qqu {r:R2}{o:COp}(ho:QOp X (compareOp op) r)(hs:Oc2 r (opC o))(ha:QE X a (tE p a'))(hb:QE X b (tE p b'))(hm:behindInMarks op b=false):QT X (.Compare a [op] [b] pos) (tT p (.cmp o a' b')) :=
 (Qx4 ho ha hb hm).weak fun σ H Q h=>Qys hs (Qnq h)
def vOf:T→V
 | .non=>.non | .bl b=>.bl b | .int i=>.int i | .str x=>.str x | _=>.non
theorem Rdb.vOf {v:V}{t:T}(h:Rdb H G v t)(e:Qk8 t=true):v=vOf t:=by
 cases t with
 | non=>exact h.non
 | bl b=>exact h.bl
 | int i=>exact h.int
 | str x=>exact h.str
 | tup ts=>cases e
 | lst ts=>cases e
 | dct ks ts=>cases e
 | clo ks ts=>cases e
 | dtt ks ts=>cases e
theorem Qqv {t u:T}{k:Bool}(e:eqO t u=some k)(h1:Qk8 t=true)(h2:Qk8 u=true):Q77 (vOf t) (vOf u)=true∧decide (vOf t=vOf u)=k:=by
 cases t <;> first | (cases h1;done) | skip
 all_goals (cases u <;> first | (cases h2;done) | skip)
 all_goals (first | (cases e;done) | skip)
 all_goals (have e':=Option.some.inj e;subst e';refine ⟨rfl,?_⟩;simp [vOf])
theorem Qqw {t u:T}{k:Bool}(e:eqO t u=some k):(Qk8 t=true∧Qk8 u=true)∨(Qk 50 t=true∧Qk 50 u=true∧((∃ ts us,t=.tup ts∧u=.tup us)∨∃ ts us,t=.lst ts∧u=.lst us)∧k=eqT t u):=by
 cases t <;> cases u <;> first | (cases e;done) | exact .inl ⟨rfl,rfl⟩ | skip
 ·rename_i ts us
  have e:(if Qk 50 (.tup ts)=true∧Qk 50 (.tup us)=true then some (eqT (.tup ts) (.tup us)) else none)=some k:=e
  by_cases z:Qk 50 (.tup ts)=true∧Qk 50 (.tup us)=true
  ·rw [if_pos z] at e
   exact .inr ⟨z.1,z.2,.inl ⟨_,_,rfl,rfl⟩,(Option.some.inj e).symm⟩
  ·rw [if_neg z] at e;cases e
 ·rename_i ts us
  have e:(if Qk 50 (.lst ts)=true∧Qk 50 (.lst us)=true then some (eqT (.lst ts) (.lst us)) else none)=some k:=e
  by_cases z:Qk 50 (.lst ts)=true∧Qk 50 (.lst us)=true
  ·rw [if_pos z] at e
   exact .inr ⟨z.1,z.2,.inr ⟨_,_,rfl,rfl⟩,(Option.some.inj e).symm⟩
  ·rw [if_neg z] at e;cases e
def rEqU:R2:=fun x y H Q=>rEq x y H Q∨Q3c false x y H Q
def rNeU:R2:=fun x y H Q=>rNe x y H Q∨Q3c true x y H Q
theorem Q6d (hu:X.A.units+64<cLine):QOp X (compareOp .Eq) rEqU:=⟨o_eq.h.or (Qacq hu).h⟩
theorem Q6e (hu:X.A.units+64<cLine):QOp X (compareOp .NotEq) rNeU:=⟨o_ne.h.or (Qacr hu).h⟩
theorem Qyt:Oc2 rEqU (opC .eq):=by
 intro H G x y t u k Q hx hy e q
 have e:eqO t u=some k:=e
 rcases Qqw e with ⟨h1,h2⟩ | ⟨h1,h2,h3,rfl⟩
 ·obtain ⟨z1,z2⟩:=Qqv e h1 h2
  rw [hx.vOf h1,hy.vOf h2]
  exact .inl ⟨z1,by rw [z2];exact q⟩
 ·exact .inr ⟨t,u,hx.is,hy.is,h1,h2,h3,q⟩
theorem Qyu:Oc2 rNeU (opC .ne):=by
 intro H G x y t u k Q hx hy e q
 have e:(eqO t u).map (!·)=some k:=e
 cases e0:eqO t u with
 | none=>rw [e0] at e;cases e
 | some k0 =>
  rw [e0] at e
  cases e
  rcases Qqw e0 with ⟨h1,h2⟩ | ⟨h1,h2,h3,rfl⟩
  ·obtain ⟨z1,z2⟩:=Qqv e0 h1 h2
   rw [hx.vOf h1,hy.vOf h2]
   exact .inl ⟨z1,by rw [z2];exact q⟩
  ·exact .inr ⟨t,u,hx.is,hy.is,h1,h2,h3,q⟩
theorem Qlj {f:Int→Int→Bool}{t u:T}{k:Bool}(e:Qwj f t u=some k):∃ i j,t=.int i∧u=.int j∧f i j=k:=by
 unfold Qwj at e
 cases h1:asI t with
 | none=>rw [h1] at e;cases e
 | some i =>
  cases h2:asI u with
  | none=>rw [h1,h2] at e;cases e
  | some j=>rw [h1,h2] at e;exact ⟨i,j,Qf2 h1,Qf2 h2,Option.some.inj e⟩
theorem Qyv:Oc2 (rI0 fun i j=>.bl (decide (i<j))) (opC .lt):=by
 intro H G x y t u k Q hx hy e q
 obtain ⟨i,j,rfl,rfl,rfl⟩:=Qlj e
 obtain rfl:=hx.int
 obtain rfl:=hy.int
 exact ⟨_,_,rfl,rfl,q⟩
theorem Q9u:Oc2 (rI0 fun i j=>.bl (decide (j<i))) (opC .gt):=by
 intro H G x y t u k Q hx hy e q
 obtain ⟨i,j,rfl,rfl,rfl⟩:=Qlj e
 obtain rfl:=hx.int
 obtain rfl:=hy.int
 exact ⟨_,_,rfl,rfl,q⟩
theorem Q9v:Oc2 (rI0 fun i j=>.bl (decide (j≤i))) (opC .ge):=by
 intro H G x y t u k Q hx hy e q
 obtain ⟨i,j,rfl,rfl,rfl⟩:=Qlj e
 obtain rfl:=hx.int
 obtain rfl:=hy.int
 exact ⟨_,_,rfl,rfl,q⟩
theorem Q3n {v:V}{t:T}(h:Is H v t):decide (v=.non)=Qjz t:=by
 cases t with
 | non=>unfold Is at h;subst h;rfl
 | bl b=>unfold Is at h;subst h;rfl
 | int i=>unfold Is at h;subst h;rfl
 | str x=>unfold Is at h;subst h;rfl
 | tup ts=>obtain ⟨a,vs,rfl,_⟩:=h.tup_inv;rfl
 | lst ts=>obtain ⟨a,vs,rfl,_⟩:=h.lst_inv;rfl
 | dct ks ts=>unfold Is at h;obtain ⟨a,vs,rfl,_⟩:=h;rfl
 | clo ks ts=>unfold Is at h;obtain ⟨a,vs,l,rfl,_⟩:=h;rfl
 | dtt ks ts=>unfold Is at h;obtain ⟨_,a,vs,rfl,_⟩:=h;rfl
theorem Qyw:Oc2 Q50 (opC .isnn):=by
 intro H G x y t u k Q hx hy e q
 cases u <;> first | (cases e;done) | skip
 have e:some (!Qjz t)=some k:=e
 cases e
 exact ⟨hy.non,by rw [Q3n hx.is];exact q⟩
theorem Qyx {n:String}(h:Qlb n=true):n∈["int","bool","tuple","list","dict","str"]:=by
 unfold Qlb at h
 simp only [Bool.or_eq_true,beq_iff_eq] at h
 simp only [List.mem_cons,List.not_mem_nil,or_false]
 rcases h with ((((h | h) | h) | h) | h) | h <;> subst h <;> simp
theorem Qadb {n:String}{tn:Expr}(hm:X.mg "isinstance" = none)(hv:bootBuiltins "isinstance" = some (.builtin "isinstance"))(ha:QE X a (tE p a'))(ht:QE X tn (tC (.ty n)))(hg:Gl X "isinstance")(h1:Qu a=true)(h2:Qu tn=true):QE X (.Call (.Name "isinstance" p1) [a,tn] [] pos) (tE p (.isI a' n)) :=
 (Q83 Q87 hm hv (Qat ha (Qat ht Qbu h2) h1) hg (by decide) (by decide) h1 (by rw [Qa3 h2];rfl)).weak fun σ H Q ⟨G,ρ,F,h⟩=>by
  unfold evE at h
  refine ⟨G,ρ,F,h.bind.imp fun r ρ1 h1 v H1 G1 F1 r1=>?_⟩
  cases e:cont ρ1 r with
  | none=>rw [e] at h1;exact False.elim h1
  | some t =>
   rw [e] at h1
   by_cases z:(Qlb n && !Qhs t)=true
   ·simp only [if_pos z] at h1
    rw [Bool.and_eq_true,Bool.not_eq_true'] at z
    exact ⟨v,n,t,rfl,(r1.rdb F1 e).is,z.2,Qyx z.1,h1 _ H1 G1 F1 pvB⟩
   ·simp only [if_neg z] at h1
    exact False.elim h1
inductive Rdbs (H:Hp) (G:Addr→Prop):List V→List T→Prop where
 | nil:Rdbs H G [] []
 | cons {v t vs ts}:Rdb H G v t→Rdbs H G vs ts→Rdbs H G (v::vs) (t::ts)
theorem PVRs.rdbs {vs:List V}{rs:List PV}(h:PVRs H0 H G σ ρ vs rs)(F:FI B H G σ ρ):∀ {ts:List T},Qau ρ rs=some ts→Rdbs H G vs ts:=by
 induction h with
 | nil=>intro ts e;cases e;exact .nil
 | cons a _ ih =>
  intro ts e
  rename_i v r vs rs _
  unfold Qau at e
  cases h1:cont ρ r with
  | none=>rw [h1] at e;cases e
  | some t =>
   cases h2:Qau ρ rs with
   | none=>rw [h1,h2] at e;cases e
   | some us =>
    rw [h1,h2] at e
    cases e
    exact .cons (a.rdb F h1) (ih h2)
def Ob (r:List V→Hp→VK→Prop) (b:Bi):Prop:=∀ (B:Bs) (H:Hp) (G:Addr→Prop) (σ:St) (ρ:En) (vs:List V) (ts:List T) (w:PV) (Q:VK),FI B H G σ ρ→Rdbs H G vs ts→Qjk b ts=some w→(∀ v H1 G1,FI B H1 G1 σ ρ→PVR B.H H1 G1 σ ρ v w→Q v H1)→r vs H Q
theorem Q6f {r:List V→Hp→VK→Prop}{b:Bi}(hs:Ob r b)(h:tE p (.bi b es') σ H Q):tCB r (tA p es') σ H Q:=by
 obtain ⟨G,ρ,F,h⟩:=h
 unfold evE at h
 refine ⟨G,ρ,F,h.bind.imp fun rs ρ1 h1 vs H1 G1 F1 r1=>?_⟩
 cases e:Qau ρ1 rs with
 | none=>rw [e] at h1;exact False.elim h1
 | some ts =>
  rw [e] at h1
  obtain ⟨w,ew,k⟩:=Qow h1
  exact hs _ H1 G1 σ ρ1 vs ts w Q F1 (r1.rdbs F1 e) ew fun v H2 G2 F2 r2=>k v H2 G2 F2 r2
theorem Rdbs.one {vs:List V}{t:T}(h:Rdbs H G vs [t]):∃ v,vs=[v]∧Rdb H G v t:=by
 cases h with
 | cons a b=>cases b;exact ⟨_,rfl,a⟩
theorem Rdbs.two {vs:List V}{t u:T}(h:Rdbs H G vs [t,u]):∃ v w,vs=[v,w]∧Rdb H G v t∧Rdb H G w u:=by
 cases h with
 | cons a b =>
  cases b with
  | cons c d=>cases d;exact ⟨_,_,rfl,a,c⟩
theorem Qer:∀ {ts:List T} {is:List Int},Qda ts=some is→ts=is.map T.int
 | [],is,e=>by cases e;rfl
 | .int i::ts,is,e=>by
  unfold Qda at e
  cases h:Qda ts with
  | none=>rw [h] at e;cases e
  | some js=>rw [h] at e;cases e;rw [Qer h];rfl
 | .non::_,_,e=>by cases e
 | .bl _::_,_,e=>by cases e
 | .str _::_,_,e=>by cases e
 | .tup _::_,_,e=>by cases e
 | .lst _::_,_,e=>by cases e
 | .dct _ _::_,_,e=>by cases e
 | .clo _ _::_,_,e=>by cases e
 | .dtt _ _::_,_,e=>by cases e
theorem Qlk {D:Hp}:∀ {ts:List T} {bs:List Bool} {vs:List V},Qfp ts=some bs→IsL D vs ts→vs.all Qk1=true∧vs.all Qkb=bs.all id∧vs.any Qkb=bs.any id
 | [],bs,vs,e,r=>by cases e;rw [r.nil_inv];exact ⟨rfl,rfl,rfl⟩
 | t::ts,bs,vs,e,r=>by
  obtain ⟨v,w,rfl,a,q⟩:=r.cons_inv
  unfold Qfp at e
  cases h1:truT t with
  | none=>rw [h1] at e;cases e
  | some b =>
   cases h2:Qfp ts with
   | none=>rw [h1,h2] at e;cases e
   | some cs =>
    rw [h1,h2] at e
    cases e
    obtain ⟨q1,q2,q3⟩:=Qlk h2 q
    have hv:Qk1 v=true∧Qkb v=b:=by
     cases t <;> first | (cases h1;done) | skip
     ·unfold Is at a;subst a;cases h1;exact ⟨rfl,rfl⟩
     ·obtain rfl:=a.int_inv;cases h1
      refine ⟨rfl,?_⟩
      rename_i i
      show (i != 0)=decide (i≠0)
      by_cases z:i=0 <;> simp [z]
    rw [List.all_cons,List.all_cons,List.any_cons,List.all_cons,List.any_cons,q1,q2,q3,hv.1,hv.2]
    exact ⟨rfl,rfl,rfl⟩
theorem Qa9 (K:Frg):Ob (Q8u K) .len:=by
 intro B H G σ ρ vs ts w Q F r e q
 match ts,e,r with
 | [.lst a],e,r =>
  cases e
  obtain ⟨v,rfl,h⟩:=r.one
  obtain ⟨l,ws,rfl,z,el,rl⟩:=h.lst
  exact ⟨l,ws,rfl,.inl (SqL.of el),by rw [rl.length];exact q _ H G F pvI⟩
 | [.tup a],e,r =>
  cases e
  obtain ⟨v,rfl,h⟩:=r.one
  obtain ⟨l,ws,rfl,el,rl⟩:=h.tup.tup_inv
  exact ⟨l,ws,rfl,.inr (SqT.of (Q5 el).2),by rw [rl.length];exact q _ H G F pvI⟩
theorem Q9w:Ob rAbs .abs:=by
 intro B H G σ ρ vs ts w Q F r e q
 match ts,e,r with
 | [.int i],e,r =>
  cases e
  obtain ⟨v,rfl,h⟩:=r.one
  obtain rfl:=h.int
  exact ⟨i,rfl,q _ H G F pvI⟩
theorem Qox (K:Frg):Ob (Q8v K) .all:=by
 intro B H G σ ρ vs ts w Q F r e q
 match ts,e,r with
 | [.lst a],e,r =>
  obtain ⟨v,rfl,h⟩:=r.one
  obtain ⟨l,ws,rfl,z,el,rl⟩:=h.lst
  have e:(Qfp a).map (fun bs=>PV.fz (.bl (bs.all id)))=some w:=e
  cases h1:Qfp a with
  | none=>rw [h1] at e;cases e
  | some bs =>
   rw [h1] at e
   cases e
   obtain ⟨q1,q2,q3⟩:=Qlk h1 rl
   exact ⟨l,ws,rfl,SqL.of el,q1,by rw [q2];exact q _ H G F pvB⟩
theorem Qyy (K:Frg):Ob (Q8w K) .any:=by
 intro B H G σ ρ vs ts w Q F r e q
 match ts,e,r with
 | [.lst a],e,r =>
  obtain ⟨v,rfl,h⟩:=r.one
  obtain ⟨l,ws,rfl,z,el,rl⟩:=h.lst
  have e:(Qfp a).map (fun bs=>PV.fz (.bl (bs.any id)))=some w:=e
  cases h1:Qfp a with
  | none=>rw [h1] at e;cases e
  | some bs =>
   rw [h1] at e
   cases e
   obtain ⟨q1,q2,q3⟩:=Qlk h1 rl
   exact ⟨l,ws,rfl,SqL.of el,q1,by rw [q3];exact q _ H G F pvB⟩
theorem Quq:∀ (xs:List Int) (m:Int),m≤Qkd m xs∧(∀ a∈xs,a≤Qkd m xs)∧(Qkd m xs=m∨Qkd m xs∈xs)
 | [],m=>⟨Int.le_refl _,fun _ h=>(nomatch h),.inl rfl⟩
 | x::xs,m=>by
  unfold Qkd
  obtain ⟨h1,h2,h3⟩:=Quq xs (if m<x then x else m)
  have k1:m≤(if m<x then x else m):=by split <;> omega
  have k2:x≤(if m<x then x else m):=by split <;> omega
  refine ⟨by omega,fun a ha=>?_,?_⟩
  ·rcases List.mem_cons.mp ha with rfl | ha
   ·omega
   ·exact h2 a ha
  ·rcases h3 with h3 | h3
   ·rw [h3]
    split
    ·exact .inr List.mem_cons_self
    ·exact .inl rfl
   ·exact .inr (List.mem_cons_of_mem _ h3)
theorem Qur:∀ (xs:List Int) (m:Int),Qla m xs≤m∧(∀ a∈xs,Qla m xs≤a)∧(Qla m xs=m∨Qla m xs∈xs)
 | [],m=>⟨Int.le_refl _,fun _ h=>(nomatch h),.inl rfl⟩
 | x::xs,m=>by
  unfold Qla
  obtain ⟨h1,h2,h3⟩:=Qur xs (if x<m then x else m)
  have k1:(if x<m then x else m)≤m:=by split <;> omega
  have k2:(if x<m then x else m)≤x:=by split <;> omega
  refine ⟨by omega,fun a ha=>?_,?_⟩
  ·rcases List.mem_cons.mp ha with rfl | ha
   ·omega
   ·exact h2 a ha
  ·rcases h3 with h3 | h3
   ·rw [h3]
    split
    ·exact .inr List.mem_cons_self
    ·exact .inl rfl
   ·exact .inr (List.mem_cons_of_mem _ h3)
def Q6g (K:Frg):List V→Hp→VK→Prop:=fun xs H Q=>Q52 xs H Q∨Qx1 K xs H Q
def Q6h (K:Frg):List V→Hp→VK→Prop:=fun xs H Q=>Q53 xs H Q∨Qx2 K xs H Q
theorem Qyz (K:Frg)(hK:X.K=K)(hc:X.calm=true):QCl X (.builtin "max") (Q6g K):=⟨(Q9a hc).h.or (Q88 K hK hc).h⟩
theorem Q9x (K:Frg)(hK:X.K=K)(hc:X.calm=true):QCl X (.builtin "min") (Q6h K):=⟨(Q9b hc).h.or (Q89 K hK hc).h⟩
theorem Qy0 (K:Frg):Ob (Q6g K) .max:=by
 intro B H G σ ρ vs ts w Q F r e q
 match ts,e,r with
 | [.int i,.int j],e,r =>
  cases e
  obtain ⟨v,u,rfl,h1,h2⟩:=r.two
  obtain rfl:=h1.int
  obtain rfl:=h2.int
  exact .inl ⟨i,j,rfl,q _ H G F pvI⟩
 | [.lst a],e,r =>
  obtain ⟨v,rfl,h⟩:=r.one
  obtain ⟨l,ws,rfl,z,el,rl⟩:=h.lst
  have e:(match Qda a with | some (x::xs)=>some (PV.fz (.int (Qkd x xs))) | _=>none)=some w:=e
  cases h1:Qda a with
  | none=>rw [h1] at e;cases e
  | some is =>
   rw [h1] at e
   cases is with
   | nil=>cases e
   | cons i is =>
    cases e
    rw [Qer h1] at rl
    rw [rl.ints_inv] at el
    obtain ⟨k1,k2,k3⟩:=Quq is i
    refine .inr ⟨l,i::is,rfl,SqL.of el,by simp,fun M hM hle=>?_⟩
    have e:M=Qkd i is:=by
     have a1:=hle (Qkd i is) (k3.elim (fun k3=>by rw [k3];exact List.mem_cons_self) fun k3=>List.mem_cons_of_mem _ k3)
     have a2:M≤Qkd i is:=by
      rcases List.mem_cons.mp hM with rfl | hM
      ·exact k1
      ·exact k2 M hM
     omega
    rw [e]
    exact q _ H G F pvI
theorem Q9y (K:Frg):Ob (Q6h K) .min:=by
 intro B H G σ ρ vs ts w Q F r e q
 match ts,e,r with
 | [.int i,.int j],e,r =>
  cases e
  obtain ⟨v,u,rfl,h1,h2⟩:=r.two
  obtain rfl:=h1.int
  obtain rfl:=h2.int
  exact .inl ⟨i,j,rfl,q _ H G F pvI⟩
 | [.lst a],e,r =>
  obtain ⟨v,rfl,h⟩:=r.one
  obtain ⟨l,ws,rfl,z,el,rl⟩:=h.lst
  have e:(match Qda a with | some (x::xs)=>some (PV.fz (.int (Qla x xs))) | _=>none)=some w:=e
  cases h1:Qda a with
  | none=>rw [h1] at e;cases e
  | some is =>
   rw [h1] at e
   cases is with
   | nil=>cases e
   | cons i is =>
    cases e
    rw [Qer h1] at rl
    rw [rl.ints_inv] at el
    obtain ⟨k1,k2,k3⟩:=Qur is i
    refine .inr ⟨l,i::is,rfl,SqL.of el,by simp,fun M hM hle=>?_⟩
    have e:M=Qla i is:=by
     have a1:=hle (Qla i is) (k3.elim (fun k3=>by rw [k3];exact List.mem_cons_self) fun k3=>List.mem_cons_of_mem _ k3)
     have a2:Qla i is≤M:=by
      rcases List.mem_cons.mp hM with rfl | hM
      ·exact k1
      ·exact k2 M hM
     omega
    rw [e]
    exact q _ H G F pvI
theorem Q9z:Ob rDvm .dvm:=by
 intro B H G σ ρ vs ts w Q F r e q
 match ts,e,r with
 | [.int i,.int j],e,r =>
  have e:(if 0<j∧j.natAbs<2^64 then some (PV.fz (.tup [.int (i / j),.int (i%j)])) else none)=some w:=e
  by_cases z:0<j∧j.natAbs<2^64
  ·rw [if_pos z] at e;cases e
   obtain ⟨v,u,rfl,h1,h2⟩:=r.two
   obtain rfl:=h1.int
   obtain rfl:=h2.int
   refine ⟨i,j,rfl,⟨z.1,by omega⟩,fun l hl=>q _ _ G (F.grow (Same.upd hl)) ?_⟩
   exact Qeb (F.prv.mono (Same.upd hl)) Qr (.cons Is.int (.one Is.int)) (by show 2≤100000;decide)
  ·rw [if_neg z] at e;cases e
theorem Qoy:Ob Q54 .int:=by
 intro B H G σ ρ vs ts w Q F r e q
 match ts,e,r with
 | [.int i],e,r =>
  cases e
  obtain ⟨v,rfl,h⟩:=r.one
  obtain rfl:=h.int
  exact .inl ⟨i,rfl,q _ H G F pvI⟩
 | [.bl b],e,r =>
  cases e
  obtain ⟨v,rfl,h⟩:=r.one
  obtain rfl:=h.bl
  exact .inr ⟨b,rfl,q _ H G F pvI⟩
theorem Qus (K:Frg):Ob (Qop K) .list:=by
 intro B H G σ ρ vs ts w Q F r e q
 match ts,e,r with
 | [.lst a],e,r =>
  cases e
  obtain ⟨v,rfl,h⟩:=r.one
  obtain ⟨l,ws,rfl,z,el,rl⟩:=h.lst
  refine ⟨l,ws,rfl,.inl (SqL.of el),fun l2 hl=>?_⟩
  obtain ⟨F2,r2⟩:=Qil F hl (Same.upd hl) Qr rl z
  exact q _ _ _ F2 r2
 | [.tup a],e,r =>
  cases e
  obtain ⟨v,rfl,h⟩:=r.one
  have z:=h.tup.tup_len
  obtain ⟨l,ws,rfl,el,rl⟩:=h.tup.tup_inv
  refine ⟨l,ws,rfl,.inr (SqT.of (Q5 el).2),fun l2 hl=>?_⟩
  obtain ⟨F2,r2⟩:=Qil F hl (Same.upd hl) Qr rl z
  exact q _ _ _ F2 r2
theorem Qoz (K:Frg):Ob (Qsu K) .tup:=by
 intro B H G σ ρ vs ts w Q F r e q
 match ts,e,r with
 | [.lst a],e,r =>
  cases e
  obtain ⟨v,rfl,h⟩:=r.one
  obtain ⟨l,ws,rfl,z,el,rl⟩:=h.lst
  exact ⟨l,ws,rfl,.inl ⟨SqL.of el,fun l2 hl=>q _ _ G (F.grow (Same.upd hl)) (Qeb (F.prv.mono (Same.upd hl)) Qr (rl.mono (Qbh (Same.upd hl))) z)⟩⟩
 | [.tup a],e,r =>
  cases e
  obtain ⟨v,rfl,h⟩:=r.one
  have h0:=h.tup
  obtain ⟨l,ws,rfl,el,rl⟩:=h.tup.tup_inv
  exact ⟨l,ws,rfl,.inr ⟨SqT.of (Q5 el).2,q _ H G F h0⟩⟩
theorem Qg0:∀ {es:List Expr} {env:Env} {pos:Pos},es.all Qu=true→(backTo pos (starEach es env)).any (·.1)=false
 | [],_,_,_=>rfl
 | e::es,env,pos,h=>by
  rw [List.all_cons,Bool.and_eq_true] at h
  rw [Qa3 h.1]
  have q:=Qg0 (env:=env) (pos:=pos) h.2
  unfold backTo at q ⊢
  rw [List.map_cons,List.any_cons,q]
  rfl
theorem s_bi {id:String}{r:List V→Hp→VK→Prop}{b:Bi}(hc:QCl X (.builtin id) r)(hs:Ob r b)(hm:X.mg x=none)(hv:bootBuiltins x=some (.builtin id))(ha:QA X (e::es) (tA p es'))(hg:Gl X x)(hn:x ≠ "__name__")(hdb:(x==("__debug__" : Str))=false)(h1:Qu e=true)(h2:es.all Qu=true) :
  QE X (.Call (.Name x p1) (e::es) [] pos) (tE p (.bi b es')):=(Q83 hc hm hv ha hg hn hdb h1 (Qg0 h2)).weak fun σ H Q h=>Q6f hs h
theorem Qadc {T:String}{r:List V→Hp→VK→Prop}{b:Bi}(hc:QCl X (.type T) r)(hs:Ob r b)(hm:X.mg x=none)(hv:bootBuiltins x=some (.type T))(ha:QA X (e::es) (tA p es'))(hg:Gl X x)(hn:x ≠ "__name__")(hdb:(x==("__debug__" : Str))=false)(h1:Qu e=true)(h2:es.all Qu=true) :
  QE X (.Call (.Name x p1) (e::es) [] pos) (tE p (.bi b es')):=(Qx5 hc hm hv ha hg hn hdb h1 (Qg0 h2)).weak fun σ H Q h=>Q6f hs h
theorem IsL.atI {D:Hp}{vs:List V}{ts:List T}{i:Int}{t:T}(r:IsL D vs ts)(h:atI ts i=some t):∃ v,L2.atI vs i=some v∧Is D v t:=by
 unfold L2.atI at h ⊢
 rw [r.length]
 cases e:ixN ts.length i with
 | none=>rw [e] at h;cases h
 | some j =>
  rw [e] at h
  exact r.getT h
theorem s_ix (K:Frg)(hK:X.K=K)(ha:QE X a (tE p a'))(hb:QE X b (tE p b'))(hs:Qkk b):QE X (.Subscript a b pos) (tE p (.ix a' b')) :=
 (Q27 (o_ix K hK) ha hb hs).weak fun σ H Q ⟨G,ρ,F,h⟩=>by
  unfold evE at h
  refine tE2 F h fun ra rb ρ2 x y H2 G2 F2 r1 r2 h2=>?_
  obtain ⟨t,u,c1,c2,h3⟩:=Qyp h2
  have hx:=r1.rdb F2 c1
  have hy:=r2.rdb F2 c2
  cases e:Qyn t u with
  | none=>rw [e] at h3;exact False.elim h3
  | some w =>
   rw [e] at h3
   cases t <;> first | (cases e;done) | skip
   all_goals (cases u <;> first | (cases e;done) | skip)
   ·obtain rfl:=hy.int
    obtain ⟨l,ws,rfl,el,rl⟩:=hx.tup.tup_inv
    obtain ⟨v,ev,iv⟩:=rl.atI e
    exact .inr (.inl ⟨l,ws,_,v,rfl,rfl,SqT.of (Q5 el).2,ev,h3 v H2 G2 F2 iv⟩)
   ·obtain rfl:=hy.int
    obtain ⟨l,ws,rfl,z,el,rl⟩:=hx.lst
    obtain ⟨v,ev,iv⟩:=rl.atI e
    exact .inl ⟨l,ws,_,v,rfl,rfl,SqL.of el,ev,h3 v H2 G2 F2 iv⟩
def tO (p:Pr) (es:Es):TO:=fun σ H Q=>∃ G ρ,FI (Qan H G σ ρ) H G σ ρ∧Fin p (Qan H G σ ρ) σ (evA p.cf es ρ) fun rs ρ1=>∃ i,Qke rs=some i∧∀ H1 G1,FI (Qan H G σ ρ) H1 G1 σ ρ1→Q i H1
theorem QO.weak {e:Option Expr}{t t':TO}(h:QO X e t)(q:∀ σ H Q,t' σ H Q→t σ H Q):QO X e t':=⟨fun pins s σ H Q I z=>h.h pins s σ H Q I (q _ _ _ z)⟩
theorem Qo0:QO X none (tO p .nil):=q_no.weak fun σ H Q ⟨G,ρ,F,h⟩=>by
 unfold evA at h
 obtain ⟨i,e,k⟩:=h
 cases e
 exact k H G F
theorem Q3o {r:PV}{i:Option Int}(h:Qke [r]=some i):∃ j,r=.fz (.int j)∧i=some j:=by
 cases r with
 | fz t=>cases t <;> first | (cases h;done) | exact ⟨_,rfl,(Option.some.inj h).symm⟩
 | ow t=>cases h
 | sl i=>cases h
theorem Qo1 (ha:QE X a (tE p a')):QO X (some a) (tO p (.cons a' .nil)):=(Qsv ha).weak fun σ H Q ⟨G,ρ,F,h⟩=>by
 unfold evA at h
 refine ⟨G,ρ,F,h.bind.imp fun r ρ1 h1 v H1 G1 F1 r1=>?_⟩
 have h1:=h1.bind
 unfold evA at h1
 obtain ⟨i,e,k⟩:=h1
 obtain ⟨j,rfl,rfl⟩:=Q3o e
 obtain rfl:=r1.is.int_inv
 exact ⟨j,rfl,k H1 G1 F1⟩
theorem Qadd (K:Frg)(hK:X.K=K){lo hi:Option Expr}{lo' hi':Es}(ha:QE X a (tE p a'))(hl:QO X lo (tO p lo'))(hh:QO X hi (tO p hi')):QE X (.Subscript a (.Slice lo hi none p2) pos) (tE p (.slc a' lo' hi')) :=
 (q_sl (o_sl K hK) ha hl hh).weak fun σ H Q ⟨G,ρ,F,h⟩=>by
  unfold evE at h
  refine ⟨G,ρ,F,h.bind.imp fun ra ρ1 h1 v H1 G1 F1 r1=>?_⟩
  refine ⟨G1,ρ1,F1.self,h1.bind.rebase F1 fun rl ρ2 h2=>?_⟩
  cases el:Qke rl with
  | none=>rw [el] at h2;exact False.elim h2
  | some l =>
   rw [el] at h2
   refine ⟨l,rfl,fun H2 G2 F2=>⟨G2,ρ2,F2.self,h2.bind.rebase (F1.trans F2) fun rh ρ3 h3=>?_⟩⟩
   cases eh:Qke rh with
   | none=>rw [eh] at h3;exact False.elim h3
   | some u =>
    rw [eh] at h3
    refine ⟨u,rfl,fun H3 G3 F3=>?_⟩
    have F12:=F1.trans F2
    have F4:=F12.trans F3
    cases ec:cont ρ3 ra with
    | none=>rw [ec] at h3;exact False.elim h3
    | some t =>
     rw [ec] at h3
     obtain ⟨w,ew,k⟩:=Qow h3
     have hx:=((r1.step F1 F2).step F12 F3).rdb F4 ec
     cases t <;> first | (cases ew;done) | skip
     ·cases ew
      exact Qyb F4.prv hx.tup fun y H5 s5 i5=>k y H5 G3 (F4.grow s5) i5
     ·cases ew
      rename_i ts
      obtain ⟨c,ws,rfl,z,ec,rl⟩:=hx.lst
      refine .inl ⟨c,ws,rfl,SqL.of ec,fun q hq=>?_⟩
      obtain ⟨F5,r5⟩:=Qil F4 hq (Same.upd hq) Qr (rl.cut l u) (by have:=Qqm ts l u;omega)
      exact k _ _ _ F5 r5
end
theorem Qf3 (i:Nat):Qa [] i=.un:=rfl
theorem Qb (s:Slot)(ρ:En):Qa (s::ρ) 0=s:=rfl
theorem Qc (s:Slot)(ρ:En)(i:Nat):Qa (s::ρ) (i+1)=Qa ρ i:=by unfold Qa;rw [List.getElem?_cons_succ]
theorem Qg {i j:Nat}{s:Slot}:Qa (ρ.set j s) i=if i=j∧j<ρ.length then s else Qa ρ i:=by
 unfold Qa
 by_cases h:i=j∧j<ρ.length
 ·rw [if_pos h]
  obtain ⟨rfl,hj⟩:=h
  rw [List.getElem?_set_self hj]
 ·rw [if_neg h]
  by_cases e:i=j
  ·subst e
   have hl:ρ.length≤i:=by
    rcases Nat.lt_or_ge i ρ.length with z | z
    ·exact absurd ⟨rfl,z⟩ h
    ·exact z
   rw [List.set_eq_of_length_le hl]
  ·rw [List.getElem?_set_ne (fun z=>e z.symm)]
theorem Qnr {i:Nat}(h:Qa ρ i≠.un):i<ρ.length:=by
 rcases Nat.lt_or_ge i ρ.length with z | z
 ·exact z
 ·exact absurd (by unfold Qa;rw [List.getElem?_eq_none_iff.mpr z]) h
theorem Qcf (rs:List PV)(fin:List T)(i:Nat)(s:Slot):Q4 rs fin i s=s∨∃ k t,Ql rs i=some k∧fin[k]?=some t∧Q4 rs fin i s=s.put t:=by
 unfold Q4
 cases h1:Ql rs i with
 | none=>exact .inl rfl
 | some k =>
  cases h2:fin[k]? with
  | none=>exact .inl (by simp only [h2])
  | some t=>exact .inr ⟨k,t,rfl,h2,by simp only [h2]⟩
theorem Qgm (rs:List PV)(fin:List T):∀ (ρ:En) (n i:Nat),Qa (Qn rs fin n ρ) i=Q4 rs fin (n+i) (Qa ρ i)
 | [],n,i=>by
  unfold Qn
  rw [Qf3]
  rcases Qcf rs fin (n+i) .un with h | ⟨k,t,_,_,h⟩
  ·exact h.symm
  ·rw [h];rfl
 | s::ρ,n,0=>by unfold Qn;rfl
 | s::ρ,n,i+1=>by
  unfold Qn
  rw [Qc,Qc,Qgm rs fin ρ (n+1) i,show n+1+i=n+(i+1) by omega]
theorem Qdq (ρ:En)(rs:List PV)(fin:List T)(i:Nat):Qa (Qa2 ρ rs fin) i=Q4 rs fin i (Qa ρ i):=by
 unfold Qa2
 rw [Qgm,Nat.zero_add]
theorem Qim (rs:List PV)(fin:List T):∀ (ρ:En) (n:Nat),(Qn rs fin n ρ).length=ρ.length
 | [],_=>rfl
 | s::ρ,n=>by unfold Qn;rw [List.length_cons,List.length_cons,Qim rs fin ρ (n+1)]
theorem Qin (ρ:En)(i:Nat):Qaq ρ (.sl i)=match Qa ρ i with
 | .ow t=>some (.ml t)
 | .ml t=>some (.ml t)
 | .ro t=>some (.ro t)
 | _=>none:=rfl
theorem PVRs.len {vs:List V}{rs:List PV}(h:PVRs H0 H G σ ρ vs rs):vs.length=rs.length:=by
 induction h with
 | nil=>rfl
 | cons _ _ ih=>rw [List.length_cons,List.length_cons,ih]
theorem PVRs.get {vs:List V}{rs:List PV}(h:PVRs H0 H G σ ρ vs rs):∀ {i:Nat} {v:V} {r:PV},vs[i]?=some v→rs[i]?=some r→PVR H0 H G σ ρ v r:=by
 induction h with
 | nil=>intro i v r e;simp at e
 | cons a _ ih =>
  intro i v r e1 e2
  cases i with
  | zero=>simp at e1 e2;subst e1;subst e2;exact a
  | succ i=>rw [List.getElem?_cons_succ] at e1 e2;exact ih e1 e2
theorem Qf4:∀ {rs:List PV} {as:List Arg},Q1 ρ rs=some as→as.length=rs.length∧∀ (i:Nat) (a:Arg),as[i]?=some a→∃ r,rs[i]?=some r∧Qaq ρ r=some a
 | [],as,e=>by cases e;exact ⟨rfl,fun i a h=>by simp at h⟩
 | r::rs,as,e=>by
  unfold Q1 at e
  cases h1:Qaq ρ r with
  | none=>rw [h1] at e;cases e
  | some a0 =>
   cases h2:Q1 ρ rs with
   | none=>rw [h1,h2] at e;cases e
   | some as0 =>
    rw [h1,h2] at e
    cases e
    obtain ⟨q1,q2⟩:=Qf4 h2
    refine ⟨by rw [List.length_cons,List.length_cons,q1],fun i a h=>?_⟩
    cases i with
    | zero=>simp at h;subst h;exact ⟨r,rfl,h1⟩
    | succ i=>rw [List.getElem?_cons_succ] at h ⊢;exact q2 i a h
theorem Qll:∀ {rs:List PV},Qx rs=true→∀ (i j k:Nat),rs[i]?=some (.sl k)→rs[j]?=some (.sl k)→i=j
 | [],_,i,j,k,e,_=>by simp at e
 | r::rs,h,i,j,k,e1,e2=>by
  have tl:Qx rs=true:=by
   cases r with
   | sl p=>unfold Qx at h;rw [Bool.and_eq_true] at h;exact h.2
   | fz t=>exact h
   | ow t=>exact h
  have hd:∀ (m:Nat),r=PV.sl k→rs[m]?=some (PV.sl k)→False:=fun m er em=>by
   subst er
   unfold Qx at h
   rw [Bool.and_eq_true] at h
   have q:=List.all_eq_true.mp h.1 _ (List.mem_of_getElem? em)
   simp at q
  cases i with
  | zero =>
   cases j with
   | zero=>rfl
   | succ j=>simp at e1;rw [List.getElem?_cons_succ] at e2;exact (hd j e1 e2).elim
  | succ i =>
   cases j with
   | zero=>simp at e2;rw [List.getElem?_cons_succ] at e1;exact (hd i e2 e1).elim
   | succ j =>
    rw [List.getElem?_cons_succ] at e1 e2
    rw [Qll tl i j k e1 e2]
theorem Qec:∀ {rs:List PV} {i k:Nat},Ql rs i=some k→rs[k]?=some (.sl i)
 | [],i,k,e=>by cases e
 | .sl j::rs,i,k,e=>by
  unfold Ql at e
  by_cases h:j=i
  ·rw [if_pos h] at e;cases e;rw [h];rfl
  ·rw [if_neg h] at e
   cases h2:Ql rs i with
   | none=>rw [h2] at e;cases e
   | some m=>rw [h2] at e;cases e;rw [List.getElem?_cons_succ];exact Qec h2
 | .fz t::rs,i,k,e=>by
  unfold Ql at e
  cases h2:Ql rs i with
  | none=>rw [h2] at e;cases e
  | some m=>rw [h2] at e;cases e;rw [List.getElem?_cons_succ];exact Qec h2
 | .ow t::rs,i,k,e=>by
  unfold Ql at e
  cases h2:Ql rs i with
  | none=>rw [h2] at e;cases e
  | some m=>rw [h2] at e;cases e;rw [List.getElem?_cons_succ];exact Qec h2
theorem Qio:∀ {rs:List PV} {i k:Nat},Ql rs i=none→rs[k]?≠some (.sl i)
 | [],i,k,_,e=>by simp at e
 | r::rs,i,k,h,e=>by
  have tl:Ql rs i=none:=by
   cases r with
   | sl j =>
    unfold Ql at h
    by_cases z:j=i
    ·rw [if_pos z] at h;cases h
    ·rw [if_neg z] at h;simpa using h
   | fz t=>unfold Ql at h;simpa using h
   | ow t=>unfold Ql at h;simpa using h
  cases k with
  | zero =>
   simp at e
   subst e
   unfold Ql at h
   rw [if_pos rfl] at h
   cases h
  | succ k=>rw [List.getElem?_cons_succ] at e;exact Qio tl e
theorem Qns:∀ {vs:List V} {rs:List PV} {i:Nat} {t:T} {b:Addr},vs[i]?=some (.ref b)→rs[i]?=some (.ow t)→Qlg vs rs b
 | [],_,_,_,_,e,_=>by simp at e
 | _::_,[],_,_,_,_,e=>by simp at e
 | v::vs,r::rs,0,t,b,e1,e2=>by
  simp at e1 e2
  subst e1;subst e2
  exact .inl rfl
 | v::vs,r::rs,i+1,t,b,e1,e2=>by
  rw [List.getElem?_cons_succ] at e1 e2
  have q:=Qns e1 e2
  cases r with
  | fz t=>exact q
  | sl j=>exact q
  | ow t=>exact .inr q
def ArgR (H:Hp) (G:Addr→Prop) (v:V):Arg→Prop
 | .fz t=>Is (dls H G) v t
 | .ml t=>∃ a,v=.ref a∧G a∧OwnAt H G a t
 | .ro t=>∃ a,v=.ref a∧G a∧OwnAt H G a t
def Arg.prv:Arg→Bool
 | .fz _=>false
 | _=>true
structure ArgsR (H:Hp) (G:Addr→Prop) (vs:List V) (as:List Arg):Prop where
 len:vs.length=as.length
 get:∀ (i:Nat) (v:V) (a:Arg),vs[i]?=some v→as[i]?=some a→ArgR H G v a
 apart:∀ (i j:Nat) (b:Addr) (x y:Arg),as[i]?=some x→as[j]?=some y→x.prv=true→y.prv=true→vs[i]?=some (.ref b)→vs[j]?=some (.ref b)→i=j
def Qnt (vs:List V) (as:List Arg) (b:Addr):Prop:=∃ (i:Nat) (t:T),as[i]?=some (.ml t)∧vs[i]?=some (.ref b)
structure CallP (H:Hp) (G:Addr→Prop) (vs:List V) (as:List Arg) (H':Hp) (G':Addr→Prop) (fin:List T):Prop where
 prv:Pen H' G'
 chg:∀ b o,¬ Qnt vs as b→H b=some o→H' b=some o
 keep:∀ b o,H b=some o→∃ o',H' b=some o'
 gg:∀ b,G b→G' b
 gn:∀ b,G' b→G b∨H b=none
 fin:∀ (i:Nat) (t:T) (a:Addr),as[i]?=some (.ml t)→vs[i]?=some (.ref a)→∃ t',fin[i]?=some t'∧OwnAt H' G' a t'
def RetR (H H':Hp) (G':Addr→Prop) (v:V):PV→Prop
 | .fz t=>Is (dls H' G') v t
 | .ow t=>∃ a,v=.ref a∧H a=none∧G' a∧OwnAt H' G' a t
 | .sl _=>False
def FROk (mg:Str→Option Value) (H:Hp) (G:Addr→Prop) (vs:List V) (as:List Arg) (o:FR) (Q:VK) (E:XK):Prop:=match o with
 | .ok r fin=>∀ v H' G',CallP H G vs as H' G' fin→RetR H H' G' v r→Q v H'
 | .xn x fin=>∀ cls dx H' G',CallP H G vs as H' G' fin→Q9o mg H' x cls dx→E cls dx H'
 | .no=>False
def spF (cf:CF) (mg:Str→Option Value) (f:Nat):Sp:=fun vs H Q E=>∃ G as,ArgsR H G vs as∧Pen H G∧FROk mg H G vs as (cf f as) Q E
section
variable {p:Pr} {B:Bs} {H H1 H2:Hp} {G G1 G2:Addr→Prop} {σ:St} {ρ:En} {vs:List V} {rs:List PV} {as:List Arg} {fin:List T}
theorem Qnu {r:PV}{a:Arg}(e:Qaq ρ r=some a)(h:a.prv=true):∃ i t,r=.sl i∧(Qa ρ i).prv=some t:=by
 cases r with
 | fz t=>cases e;cases h
 | ow t=>cases e;cases h
 | sl i =>
  rw [Qin] at e
  cases hs:Qa ρ i with
  | un=>rw [hs] at e;cases e
  | pin _=>rw [hs] at e;cases e
  | fz t=>rw [hs] at e;cases e
  | ow t=>exact ⟨i,t,rfl,by rw [hs];rfl⟩
  | ml t=>exact ⟨i,t,rfl,by rw [hs];rfl⟩
  | ro t=>exact ⟨i,t,rfl,by rw [hs];rfl⟩
theorem Qy1 {r:PV}{t:T}(e:Qaq ρ r=some (.ml t)):∃ i,r=.sl i∧(Qa ρ i=.ow t∨Qa ρ i=.ml t):=by
 cases r with
 | fz t=>cases e
 | ow t=>cases e
 | sl i =>
  rw [Qin] at e
  cases hs:Qa ρ i with
  | un=>rw [hs] at e;cases e
  | pin _=>rw [hs] at e;cases e
  | fz t=>rw [hs] at e;cases e
  | ow t=>rw [hs] at e;cases e;exact ⟨i,rfl,.inl hs⟩
  | ml t=>rw [hs] at e;cases e;exact ⟨i,rfl,.inr hs⟩
  | ro t=>rw [hs] at e;cases e
theorem Q3p (F:FI B H G σ ρ)(r:PVRs B.H H G σ ρ vs rs)(ea:Q1 ρ rs=some as)(hb:Qx rs=true):∃ G',FI B H G' σ ρ∧ArgsR H G' vs as:=by
 have F':=F.lessG (Qlg vs rs) fun b z=>r.tmp z
 obtain ⟨l1,g1⟩:=Qf4 ea
 refine ⟨_,F',by rw [l1];exact r.len,fun i v a ev e=>?_,fun i j b x y ex ey px py vx vy=>?_⟩
 ·obtain ⟨q,eq,ar⟩:=g1 i a e
  have pv:=r.get ev eq
  cases q with
  | fz t=>cases ar;exact Is.mono (Qce fun b h=>h.1) pv.is
  | ow t =>
   cases ar
   obtain ⟨c,rfl,_,_,_,ob,ec,ql⟩:=pv
   exact ql.is (by rw [Qbr fun z=>z.2 (Qns ev eq)];exact ec) (Qce fun b h=>h.1)
  | sl k =>
   have pv:σ[k]?=some (some v):=pv
   rw [Qin] at ar
   have sk:=F'.slot k
   cases hs:Qa ρ k with
   | un=>rw [hs] at ar;cases ar
   | pin _=>rw [hs] at ar;cases ar
   | fz t=>rw [hs] at ar;cases ar
   | ow t=>rw [hs] at ar sk;cases ar;obtain ⟨c,h1,h2,h3⟩:=sk;rw [pv] at h1;cases h1;exact ⟨c,rfl,h2,h3⟩
   | ml t=>rw [hs] at ar sk;cases ar;obtain ⟨c,h1,h2,h3⟩:=sk;rw [pv] at h1;cases h1;exact ⟨c,rfl,h2,h3⟩
   | ro t=>rw [hs] at ar sk;cases ar;obtain ⟨c,h1,h2,h3⟩:=sk;rw [pv] at h1;cases h1;exact ⟨c,rfl,h2,h3⟩
 ·obtain ⟨q1,e1,a1⟩:=g1 i x ex
  obtain ⟨q2,e2,a2⟩:=g1 j y ey
  obtain ⟨k1,t1,rfl,s1⟩:=Qnu a1 px
  obtain ⟨k2,t2,rfl,s2⟩:=Qnu a2 py
  have p1:σ[k1]?=some (some (.ref b)):=r.get vx e1
  have p2:σ[k2]?=some (some (.ref b)):=r.get vy e2
  have ek:=F.apart k1 k2 b ⟨⟨t1,s1⟩,p1⟩ ⟨⟨t2,s2⟩,p2⟩
  subst ek
  exact Qll hb i j k1 e1 e2
theorem Qko {s:Slot}{t u:T}(h:(s.put t).prv=some u):∃ w,s.prv=some w:=by
 cases s <;> first | exact ⟨_,rfl⟩ | cases h
theorem Qlm {i:Nat}{u:T}(h:(Qa (Qa2 ρ rs fin) i).prv=some u):∃ w,(Qa ρ i).prv=some w:=by
 rw [Qdq] at h
 rcases Qcf rs fin i (Qa ρ i) with e | ⟨k,t,_,_,e⟩
 ·rw [e] at h;exact ⟨u,h⟩
 ·rw [e] at h;exact Qko h
theorem Q3q {i:Nat}{u:T}(h:Qa (Qa2 ρ rs fin) i=.ow u):∃ w,Qa ρ i=.ow w:=by
 rw [Qdq] at h
 rcases Qcf rs fin i (Qa ρ i) with e | ⟨k,t,_,_,e⟩
 ·rw [e] at h;exact ⟨u,h⟩
 ·rw [e] at h
  cases hs:Qa ρ i <;> rw [hs] at h <;> first | exact ⟨_,rfl⟩ | cases h
theorem Qut {i:Nat}{u:T}(h:Qa (Qa2 ρ rs fin) i=.ml u):∃ w,Qa ρ i=.ml w:=by
 rw [Qdq] at h
 rcases Qcf rs fin i (Qa ρ i) with e | ⟨k,t,_,_,e⟩
 ·rw [e] at h;exact ⟨u,h⟩
 ·rw [e] at h
  cases hs:Qa ρ i <;> rw [hs] at h <;> first | exact ⟨_,rfl⟩ | cases h
theorem Q3r {i:Nat}{u:T}(h:Qa (Qa2 ρ rs fin) i=.ro u):∃ w,Qa ρ i=.ro w:=by
 rw [Qdq] at h
 rcases Qcf rs fin i (Qa ρ i) with e | ⟨k,t,_,_,e⟩
 ·rw [e] at h;exact ⟨u,h⟩
 ·rw [e] at h
  cases hs:Qa ρ i <;> rw [hs] at h <;> first | exact ⟨_,rfl⟩ | cases h
theorem FI.called (F:FI B H G σ ρ)(A:ArgsR H G vs as)(hv:∀ (k i:Nat) (v:V),rs[k]?=some (.sl i)→vs[k]?=some v→σ[i]?=some (some v))(hl:vs.length=rs.length)(ea:Q1 ρ rs=some as)(hb:Qx rs=true)(C:CallP H G vs as H1 G1 fin):FI B H1 G1 σ (Qa2 ρ rs fin):=by
 have ml:∀ b,Qnt vs as b→∃ (k i:Nat) (t:T),rs[k]?=some (.sl i)∧as[k]?=some (.ml t)∧vs[k]?=some (.ref b)∧(Qa ρ i=.ow t∨Qa ρ i=.ml t)∧σ[i]?=some (some (.ref b)):=fun b h=>by
  obtain ⟨k,t,e1,e2⟩:=h
  obtain ⟨q,eq,ar⟩:=(Qf4 ea).2 k _ e1
  obtain ⟨i,rfl,hs⟩:=Qy1 ar
  exact ⟨k,i,t,eq,e1,e2,hs,hv k i _ eq e2⟩
 have mp:∀ b,Qnt vs as b→OwA σ ρ b∨MlA σ ρ b:=fun b h=>by
  obtain ⟨k,i,t,_,_,_,hs | hs,e⟩:=ml b h
  ·exact .inl ⟨i,t,hs,e⟩
  ·exact .inr ⟨i,t,hs,e⟩
 have sm:Same (dls H G) (dls H1 G1):=fun b o e=>by
  obtain ⟨n,e⟩:=Q5 e
  have e1:=C.chg b o (fun z=>n ((mp b z).elim F.ownG F.mlG)) e
  rw [Qbr fun z=>?_]
  ·exact e1
  ·rcases C.gn b z with z | z
   ·exact n z
   ·rw [z] at e;cases e
 -- a slot's list that is not lent
 have stay:∀ i a t,(Qa ρ i).prv=some t→σ[i]?=some (some (.ref a))→OwnAt H G a t→((∀ t,Qa ρ i≠.ow t)∧(∀ t,Qa ρ i≠.ml t)∨Ql rs i=none)→OwnAt H1 G1 a t:=fun i a t e s o h=>by
  refine o.mono sm fun u eu=>C.chg a u (fun z=>?_) eu
  obtain ⟨k,j,t',e1,_,_,hs,e2⟩:=ml a z
  have ej:j=i:=F.apart j i a ⟨⟨t',by rcases hs with hs | hs <;> rw [hs] <;> rfl⟩,e2⟩ ⟨⟨t,e⟩,s⟩
  subst ej
  rcases h with ⟨h1,h2⟩ | h
  ·rcases hs with hs | hs
   ·exact h1 _ hs
   ·exact h2 _ hs
  ·exact Qio h e1
 -- one that is lent
 have lent:∀ i a t k,(Qa ρ i=.ow t∨Qa ρ i=.ml t)→σ[i]?=some (some (.ref a))→Ql rs i=some k→∃ t',fin[k]?=some t'∧OwnAt H1 G1 a t':=fun i a t k hs s hk=>by
  have e1:=Qec hk
  have hk':k<vs.length:=by rw [hl];exact (List.getElem?_eq_some_iff.mp e1).1
  have e2:=hv k i _ e1 (List.getElem?_eq_getElem hk')
  rw [s] at e2
  have e3:vs[k]?=some (.ref a):=by rw [List.getElem?_eq_getElem hk'];rw [←Option.some.inj (Option.some.inj e2)]
  have hk2:k<as.length:=by rw [←A.len];exact hk'
  obtain ⟨q,eq,ar⟩:=(Qf4 ea).2 k _ (List.getElem?_eq_getElem hk2)
  rw [e1] at eq
  cases eq
  have e4:as[k]?=some (.ml t):=by
   rw [List.getElem?_eq_getElem hk2,←ar]
   rw [Qin]
   rcases hs with hs | hs <;> rw [hs]
  exact C.fin k t a e4 e3
 exact {
  len:=by unfold Qa2;rw [Qim];exact F.len
  slot:=fun i=>by
   have q:=F.slot i
   have bc:=Qcf rs fin i (Qa ρ i)
   rw [Qdq]
   cases hs:Qa ρ i with
   | un =>
    rw [hs] at bc
    rcases bc with e | ⟨k,t,_,_,e⟩ <;> rw [e] <;> trivial
   | pin a =>
    rw [hs] at q bc
    rcases bc with e | ⟨k,t,_,_,e⟩ <;> rw [e] <;> exact q
   | fz t =>
    rw [hs] at q bc
    obtain ⟨v,e1,e2⟩:=q
    rcases bc with e | ⟨k,t,_,_,e⟩ <;> rw [e] <;> exact ⟨v,e1,e2.mono sm⟩
   | ro t =>
    rw [hs] at q bc
    obtain ⟨a,e1,g,o⟩:=q
    have o':=stay i a t (by rw [hs];rfl) e1 o (.inl ⟨fun t z=>(by rw [hs] at z;cases z),fun t z=>(by rw [hs] at z;cases z)⟩)
    rcases bc with e | ⟨k,t,_,_,e⟩ <;> rw [e] <;> exact ⟨a,e1,C.gg a g,o'⟩
   | ow t =>
    rw [hs] at q bc
    obtain ⟨a,e1,g,o⟩:=q
    cases hp:Ql rs i with
    | none =>
     have o':=stay i a t (by rw [hs];rfl) e1 o (.inr hp)
     rcases bc with e | ⟨k,t',h,_,e⟩
     ·rw [e];exact ⟨a,e1,C.gg a g,o'⟩
     ·rw [hp] at h;cases h
    | some k =>
     obtain ⟨t',ef,o'⟩:=lent i a t k (.inl hs) e1 hp
     have e:Q4 rs fin i (.ow t)=.ow t':=by unfold Q4;rw [hp];simp only [ef];rfl
     rw [e]
     exact ⟨a,e1,C.gg a g,o'⟩
   | ml t =>
    rw [hs] at q bc
    obtain ⟨a,e1,g,o⟩:=q
    cases hp:Ql rs i with
    | none =>
     have o':=stay i a t (by rw [hs];rfl) e1 o (.inr hp)
     rcases bc with e | ⟨k,t',h,_,e⟩
     ·rw [e];exact ⟨a,e1,C.gg a g,o'⟩
     ·rw [hp] at h;cases h
    | some k =>
     obtain ⟨t',ef,o'⟩:=lent i a t k (.inr hs) e1 hp
     have e:Q4 rs fin i (.ml t)=.ml t':=by unfold Q4;rw [hp];simp only [ef];rfl
     rw [e]
     exact ⟨a,e1,C.gg a g,o'⟩
  apart:=fun i j a h1 h2=>F.apart i j a ⟨let ⟨u,e⟩:=h1.1;Qlm e,h1.2⟩ ⟨let ⟨u,e⟩:=h2.1;Qlm e,h2.2⟩
  prv:=C.prv
  chg:=fun b o h1 h2 e=>C.chg b o (fun z=>by
   rcases mp b z with z | z
   ·rcases F.newO b z with z | z
    ·rw [e] at z;cases z
    ·exact h1 z
   ·exact h2 (F.newM b z)) (F.chg b o h1 h2 e)
  keep:=fun b o e=>by
   obtain ⟨o1,e1⟩:=F.keep b o e
   exact C.keep b o1 e1
  newO:=fun a h=>by
   obtain ⟨i,t,e,s⟩:=h
   obtain ⟨w,e⟩:=Q3q e
   exact F.newO a ⟨i,w,e,s⟩
  newM:=fun a h=>by
   obtain ⟨i,t,e,s⟩:=h
   obtain ⟨w,e⟩:=Qut e
   exact F.newM a ⟨i,w,e,s⟩
  fix:=fun i a h=>by
   obtain ⟨⟨t,e⟩,s⟩:=h
   refine F.fix i a ⟨?_,s⟩
   rcases e with e | e
   ·obtain ⟨w,e⟩:=Qut e;exact ⟨w,.inl e⟩
   ·obtain ⟨w,e⟩:=Q3r e;exact ⟨w,.inr e⟩
  gg:=fun b h=>C.gg b (F.gg b h)
  gn:=fun b h=>by
   rcases C.gn b h with z | z
   ·exact F.gn b z
   ·exact .inr (F.free z)
  bp:=F.bp }
end
section
variable {X:Cx} {p:Pr} {x:Str} {e:Expr} {es:List Expr} {es':Es} {f k:Nat} {ps:List Str} {pos p1:Pos}
theorem Q3s (h:tE p (.call f es') σ H Q):Qs1 (spF p.cf p.mg f) p.R (tA p es') σ H Q:=by
 obtain ⟨G,ρ,F,h⟩:=h
 unfold evE at h
 refine ⟨G,ρ,F,h.bind.imp fun rs ρ1 h1 vs H1 G1 F1 r1=>?_⟩
 unfold Qj0 at h1
 by_cases hb:Qx rs=true
 ·rw [if_pos hb] at h1
  cases ea:Q1 ρ1 rs with
  | none=>rw [ea] at h1;exact False.elim h1
  | some as =>
   rw [ea] at h1
   replace h1:Fin p (Qan H G σ ρ) σ (match p.cf f as with | .ok r fin=>.ok r (Qa2 ρ1 rs fin) | .xn x fin=>.xn x (Qa2 ρ1 rs fin) | .no=>.no) _:=h1
   obtain ⟨G',F',A⟩:=Q3p (B:=Qan H G σ ρ) F1 r1 ea hb
   have hv:∀ (k i:Nat) (v:V),rs[k]?=some (.sl i)→vs[k]?=some v→σ[i]?=some (some v):=fun k i v e1 e2=>r1.get e2 e1
   refine ⟨G',as,A,F'.prv,?_⟩
   cases ec:p.cf f as with
   | no=>rw [ec] at h1;exact False.elim h1
   | xn z fin =>
    rw [ec] at h1
    exact fun cls dx H' G2 C xr=>h1 cls dx H' G2 (F'.called A hv r1.len ea hb C) xr
   | ok r fin =>
    rw [ec] at h1
    refine fun v H' G2 C rr=>h1 v H' G2 (F'.called A hv r1.len ea hb C) ?_
    cases r with
    | sl i=>exact False.elim rr
    | fz t=>exact rr
    | ow t =>
     obtain ⟨a,rfl,n,g,o⟩:=rr
     refine ⟨a,rfl,F'.free n,g,fun i hp=>?_,o⟩
     obtain ⟨w,e⟩:=Qlm hp.1.choose_spec
     obtain ⟨_,t,ob,ea,_⟩:=PrvAt.at F' ⟨⟨w,e⟩,hp.2⟩
     rw [n] at ea
     cases ea
 ·rw [if_neg hb] at h1
  exact False.elim h1
theorem Quu:∀ {rs:List PV} {ts:List T},fzL rs=some ts→rs=ts.map PV.fz
 | [],ts,e=>by cases e;rfl
 | .ow t::rs,ts,e=>by cases e
 | .sl i::rs,ts,e=>by cases e
 | .fz t::rs,ts,e=>by
  unfold fzL at e
  cases h:fzL rs with
  | none=>rw [h] at e;cases e
  | some us=>rw [h] at e;cases e;rw [Quu h];rfl
theorem FI.calledT {H1:Hp}{G1:Addr→Prop}{vs:List V}{as:List Arg}{fin:List T}{l:Addr}(F:FI B H G σ ρ)(gl:G l)(hl:B.H l=none)(np:∀ i,¬ PrvAt σ ρ i l)(hm:∀ b,Qnt vs as b→b=l)(C:CallP H G vs as H1 G1 fin):FI B H1 G1 σ ρ:=by
 have sm:Same (dls H G) (dls H1 G1):=fun b o e=>by
  obtain ⟨n,e⟩:=Q5 e
  have e1:=C.chg b o (fun z=>n (by rw [hm b z];exact gl)) e
  rw [Qbr fun z=>?_]
  ·exact e1
  ·rcases C.gn b z with z | z
   ·exact n z
   ·rw [z] at e;cases e
 exact {
  len:=F.len
  slot:=fun i=>Qeq (F.slot i) sm fun a o h1 h2 e=>⟨C.chg a o (fun z=>np i ⟨h1,by rw [←hm a z];exact h2⟩) e,C.gg a (PrvAt.at F ⟨h1,h2⟩).1⟩
  apart:=F.apart
  prv:=C.prv
  chg:=fun b o h1 h2 e=>C.chg b o (fun z=>by rw [hm b z,hl] at e;cases e) (F.chg b o h1 h2 e)
  keep:=fun b o e=>by
   obtain ⟨o1,e1⟩:=F.keep b o e
   exact C.keep b o1 e1
  newO:=F.newO
  newM:=F.newM
  fix:=F.fix
  gg:=fun b h=>C.gg b (F.gg b h)
  gn:=fun b h=>by
   rcases C.gn b h with z | z
   ·exact F.gn b z
   ·exact .inr (F.free z)
  bp:=F.bp }
theorem Qy2 (h:tE p (.tcall f es') σ H Q):Qs1 (spF p.cf p.mg f) p.R (tA p es') σ H Q:=by
 obtain ⟨G,ρ,F,h⟩:=h
 unfold evE at h
 refine ⟨G,ρ,F,h.bind.imp fun rs ρ1 h1 vs H1 G1 F1 r1=>?_⟩
 unfold Qov at h1
 cases r1 with
 | nil=>exact False.elim h1
 | @cons v r vs rs pv rr =>
  cases r with
  | fz t=>exact False.elim h1
  | sl i=>exact False.elim h1
  | ow t =>
   obtain ⟨l,rfl,nl,gl,np,ow⟩:=pv
   dsimp only at h1
   cases ez:fzL rs with
   | none=>rw [ez] at h1;exact False.elim h1
   | some ts =>
    rw [ez] at h1
    replace h1:Fin p (Qan H G σ ρ) σ (match p.cf f (.ml t::ts.map Arg.fz) with | .ok r _=>.ok r ρ1 | .xn x _=>.xn x ρ1 | .no=>.no) _:=h1
    have ers:=Quu ez
    have gt:∀ (i:Nat) (a:Arg),(ts.map Arg.fz)[i]?=some a→∃ u,a=.fz u∧rs[i]?=some (.fz u):=fun i a e=>by
     rw [List.getElem?_map] at e
     cases hu:ts[i]? with
     | none=>rw [hu] at e;cases e
     | some u=>rw [hu] at e;cases e;exact ⟨u,rfl,by rw [ers,List.getElem?_map,hu];rfl⟩
    have A:ArgsR H1 G1 (.ref l::vs) (.ml t::ts.map Arg.fz):=by
     refine ⟨by rw [List.length_cons,List.length_cons,List.length_map,rr.len,ers,List.length_map],fun i v a ev e=>?_,fun i j b x y ex ey px py vx vy=>?_⟩
     ·cases i with
      | zero=>simp at ev e;subst ev;subst e;exact ⟨l,rfl,gl,ow⟩
      | succ i =>
       rw [List.getElem?_cons_succ] at ev e
       obtain ⟨u,rfl,er⟩:=gt i a e
       exact rr.get ev er
     ·cases i with
      | zero =>
       cases j with
       | zero=>rfl
       | succ j=>rw [List.getElem?_cons_succ] at ey;obtain ⟨u,rfl,_⟩:=gt j y ey;cases py
      | succ i=>rw [List.getElem?_cons_succ] at ex;obtain ⟨u,rfl,_⟩:=gt i x ex;cases px
    have hm:∀ b,Qnt (.ref l::vs) (.ml t::ts.map Arg.fz) b→b=l:=fun b ⟨i,u,e1,e2⟩=>by
     cases i with
     | zero=>simp at e2;exact e2.symm
     | succ i=>rw [List.getElem?_cons_succ] at e1;obtain ⟨u',z,_⟩:=gt i _ e1;cases z
    refine ⟨G1,_,A,F1.prv,?_⟩
    cases ec:p.cf f (.ml t::ts.map Arg.fz) with
    | no=>rw [ec] at h1;exact False.elim h1
    | xn z fin =>
     rw [ec] at h1
     exact fun cls dx H' G2 C xr=>h1 cls dx H' G2 (F1.calledT gl nl np hm C) xr
    | ok r fin =>
     rw [ec] at h1
     refine fun v H' G2 C rr=>h1 v H' G2 (F1.calledT gl nl np hm C) ?_
     cases r with
     | sl i=>exact False.elim rr
     | fz t=>exact rr
     | ow t =>
      obtain ⟨a,rfl,n,g,o⟩:=rr
      refine ⟨a,rfl,F1.free n,g,fun i hp=>?_,o⟩
      obtain ⟨_,t,ob,ea,_⟩:=PrvAt.at F1 hp
      rw [n] at ea
      cases ea
theorem Q3t (h:Qs0 X.prog X.w X.K X.mg X.base x ps k (spF p.cf p.mg f))(pz:Qii X p.R)(hr:Room k X.A)(ha:QA X (e::es) (tA p es'))(hg:Gl X x)(hdb:(x==("__debug__" : Str))=false)(h1:Qu e=true)(h2:es.all Qu=true) :
  QE X (.Call (.Name x p1) (e::es) [] pos) (tE p (.tcall f es')):=(Q55 h pz hr ha hg hdb (Qa3 h1) (Qg0 h2)).weak fun σ H Q h=>Qy2 h
theorem Q90 (h:Qs0 X.prog X.w X.K X.mg X.base x ps k (spF p.cf p.mg f))(pz:Qii X p.R)(hr:Room k X.A)(ha:QA X (e::es) (tA p es'))(hg:Gl X x)(hdb:(x==("__debug__" : Str))=false)(h1:Qu e=true)(h2:es.all Qu=true) :
  QE X (.Call (.Name x p1) (e::es) [] pos) (tE p (.call f es')):=(Q55 h pz hr ha hg hdb (Qa3 h1) (Qg0 h2)).weak fun σ H Q h=>Q3s h
end
section
variable {B:Bs} {H H1:Hp} {G G1:Addr→Prop} {σ:St} {ρ ρ':En} {i:Nat} {v:V} {t:T}
theorem Qjl {w:Option V}(h:i<σ.length):(σ.set i w)[i]?=some w:=by rw [List.getElem?_set_self h]
theorem Qg1 {j:Nat}{w:Option V}(h:j≠i):(σ.set i w)[j]?=σ[j]?:=by rw [List.getElem?_set_ne (fun z=>h z.symm)]
theorem FI.lay (F:FI B H G σ ρ)(hi:i<ρ.length){s:Slot}{w:Option V}(hs:Qle H G (σ.set i w) i s)(hp:∀ a,(∃ t,s.prv=some t)→w=some (.ref a)→∀ j,j≠i→¬ PrvAt σ ρ j a)
  (ho:∀ t a,s=.ow t→w=some (.ref a)→B.H a=none∨B.O a) (hm:∀ t,s≠.ml t) (hr:∀ t,s≠.ro t):FI B H G (σ.set i w) (ρ.set i s):=by
 have hl:i<σ.length:=by rw [F.len];exact hi
 have sa:∀ j,Qa (ρ.set i s) j=if j=i then s else Qa ρ j:=fun j=>by
  rw [Qg]
  by_cases e:j=i
  ·rw [if_pos ⟨e,hi⟩,if_pos e]
  ·rw [if_neg (fun z=>e z.1),if_neg e]
 have old:∀ j a,PrvAt (σ.set i w) (ρ.set i s) j a→j≠i→PrvAt σ ρ j a:=fun j a h n=>by
  obtain ⟨⟨u,e⟩,q⟩:=h
  rw [sa,if_neg n] at e
  rw [Qg1 n] at q
  exact ⟨⟨u,e⟩,q⟩
 have here:∀ a,PrvAt (σ.set i w) (ρ.set i s) i a→(∃ t,s.prv=some t)∧w=some (.ref a):=fun a h=>by
  obtain ⟨⟨u,e⟩,q⟩:=h
  rw [sa,if_pos rfl] at e
  rw [Qjl hl] at q
  exact ⟨⟨u,e⟩,Option.some.inj q⟩
 exact {
  len:=by rw [List.length_set,List.length_set];exact F.len
  slot:=fun j=>by
   rw [sa]
   by_cases e:j=i
   ·rw [if_pos e,e];exact hs
   ·rw [if_neg e]
    have q:=F.slot j
    cases hh:Qa ρ j with
    | un=>trivial
    | pin a=>rw [hh] at q;show (σ.set i _)[j]?=_;rw [Qg1 e];exact q
    | fz t=>rw [hh] at q;obtain ⟨v,a,b⟩:=q;exact ⟨v,by rw [Qg1 e];exact a,b⟩
    | ow t=>rw [hh] at q;obtain ⟨v,a,b⟩:=q;exact ⟨v,by rw [Qg1 e];exact a,b⟩
    | ml t=>rw [hh] at q;obtain ⟨v,a,b⟩:=q;exact ⟨v,by rw [Qg1 e];exact a,b⟩
    | ro t=>rw [hh] at q;obtain ⟨v,a,b⟩:=q;exact ⟨v,by rw [Qg1 e];exact a,b⟩
  apart:=fun j k a h1 h2=>by
   by_cases e1:j=i
   ·by_cases e2:k=i
    ·rw [e1,e2]
    ·rw [e1] at h1
     exact (hp a (here a h1).1 (here a h1).2 k e2 (old k a h2 e2)).elim
   ·by_cases e2:k=i
    ·rw [e2] at h2
     exact (hp a (here a h2).1 (here a h2).2 j e1 (old j a h1 e1)).elim
    ·exact F.apart j k a (old j a h1 e1) (old k a h2 e2)
  prv:=F.prv
  chg:=F.chg
  keep:=F.keep
  newO:=fun a h=>by
   obtain ⟨j,u,e,q⟩:=h
   rw [sa] at e
   by_cases z:j=i
   ·rw [if_pos z] at e
    rw [z,Qjl hl] at q
    exact ho u a e (Option.some.inj q)
   ·rw [if_neg z] at e
    rw [Qg1 z] at q
    exact F.newO a ⟨j,u,e,q⟩
  newM:=fun a h=>by
   obtain ⟨j,u,e,q⟩:=h
   rw [sa] at e
   by_cases z:j=i
   ·rw [if_pos z] at e;exact (hm u e).elim
   ·rw [if_neg z] at e
    rw [Qg1 z] at q
    exact F.newM a ⟨j,u,e,q⟩
  fix:=fun j a h=>by
   obtain ⟨⟨u,e⟩,q⟩:=h
   rw [sa] at e
   by_cases z:j=i
   ·rw [if_pos z] at e
    rcases e with e | e
    ·exact (hm u e).elim
    ·exact (hr u e).elim
   ·rw [if_neg z] at e
    rw [Qg1 z] at q
    exact F.fix j a ⟨⟨u,e⟩,q⟩
  gg:=F.gg
  gn:=F.gn
  bp:=F.bp }
theorem FI.setFz (F:FI B H G σ ρ)(hi:i<ρ.length)(hv:Is (dls H G) v t):FI B H G (σ.set i (some v)) (ρ.set i (.fz t)) :=
 F.lay hi ⟨v,Qjl (by rw [F.len];exact hi),hv⟩ (fun a h=>by obtain ⟨u,e⟩:=h;cases e) (fun _ _ e=>by cases e) (fun _ e=>by cases e) (fun _ e=>by cases e)
theorem Qhh {s:Slot}(h:Qa8 i s ρ=some ρ'):i<ρ.length∧ρ'=ρ.set i s:=by
 unfold Qa8 at h
 by_cases z:i<ρ.length
 ·rw [if_pos z] at h
  cases hs:Qa ρ i <;> rw [hs] at h <;> first | (cases h;done) | exact ⟨z,(Option.some.inj h).symm⟩
 ·rw [if_neg z] at h;cases h
theorem FI.setS (F:FI B H G σ ρ)(h:L2.Qa8 i (.fz t) ρ=some ρ')(hv:Is (dls H G) v t):FI B H G (σ.set i (some v)) ρ':=by
 obtain ⟨h1,rfl⟩:=Qhh h
 exact F.setFz h1 hv
theorem FI.setOw (F:FI B H G σ ρ)(hb:B.H=H0)(h:L2.Qa8 i (.ow t) ρ=some ρ')(hv:TmpR H0 H G σ ρ v t):FI B H G (σ.set i (some v)) ρ':=by
 obtain ⟨h1,rfl⟩:=Qhh h
 obtain ⟨a,rfl,n,g,np,o⟩:=hv
 refine F.lay h1 ⟨a,Qjl (by rw [F.len];exact h1),g,o⟩ (fun b _ e j _=>?_) (fun _ b _ e=>?_) (fun _ e=>by cases e) (fun _ e=>by cases e)
 ·cases e;exact np j
 ·cases e;exact .inl (by rw [hb];exact n)
theorem FI.forget (F:FI B H G σ ρ)(i:Nat):FI B H G σ (ρ.set i .un):=by
 have sa:∀ j,Qa (ρ.set i .un) j=.un∨Qa (ρ.set i .un) j=Qa ρ j:=fun j=>by
  rw [Qg]
  by_cases e:j=i∧i<ρ.length
  ·rw [if_pos e];exact .inl rfl
  ·rw [if_neg e];exact .inr rfl
 have old:∀ j a,PrvAt σ (ρ.set i .un) j a→PrvAt σ ρ j a:=fun j a h=>by
  obtain ⟨⟨u,e⟩,q⟩:=h
  rcases sa j with z | z
  ·rw [z] at e;cases e
  ·rw [z] at e;exact ⟨⟨u,e⟩,q⟩
 exact { F with
  len:=by rw [List.length_set];exact F.len
  slot:=fun j=>by
   rcases sa j with z | z
   ·rw [z];trivial
   ·rw [z];exact F.slot j
  apart:=fun j k a h1 h2=>F.apart j k a (old j a h1) (old k a h2)
  newO:=fun a h=>by
   obtain ⟨j,u,e,q⟩:=h
   rcases sa j with z | z
   ·rw [z] at e;cases e
   ·rw [z] at e;exact F.newO a ⟨j,u,e,q⟩
  newM:=fun a h=>by
   obtain ⟨j,u,e,q⟩:=h
   rcases sa j with z | z
   ·rw [z] at e;cases e
   ·rw [z] at e;exact F.newM a ⟨j,u,e,q⟩
  fix:=fun j a h=>by
   obtain ⟨⟨u,e⟩,q⟩:=h
   rcases sa j with z | z
   ·rw [z] at e;rcases e with e | e <;> cases e
   ·rw [z] at e;exact F.fix j a ⟨⟨u,e⟩,q⟩ }
theorem FI.freeze (F:FI B H G σ ρ)(hO:∀ a,¬ B.O a)(hs:Qa ρ i=.ow t):∃ G1,FI B H G1 σ (ρ.set i (.fz t))∧Same (dls H G) (dls H G1):=by
 have hi:i<ρ.length:=Qnr (by rw [hs];intro z;cases z)
 have q:=F.slot i
 rw [hs] at q
 obtain ⟨a,e,g,ob,ea,il⟩:=q
 have F1:=F.forget i
 have np:∀ j,¬ PrvAt σ (ρ.set i .un) j a:=fun j h=>by
  have hj:j≠i:=fun z=>by
   obtain ⟨⟨u,e⟩,_⟩:=h
   rw [z,Qg,if_pos ⟨rfl,hi⟩] at e
   cases e
  obtain ⟨⟨u,e2⟩,q2⟩:=h
  rw [Qg,if_neg (fun z=>hj z.1)] at e2
  exact hj (F.apart j i a ⟨⟨u,e2⟩,q2⟩ ⟨⟨_,by rw [hs];rfl⟩,e⟩)
 have hb:B.H a=none:=by
  rcases F.newO a ⟨i,_,hs,e⟩ with z | z
  ·exact z
  ·exact (hO a z).elim
 have F2:=F1.lessG (fun b=>b=a) fun b hb'=>⟨hb' ▸ hb,hb' ▸ np⟩
 have hv:Is (dls H fun b=>G b∧¬ b=a) (.ref a) t:=il.is (by rw [Qbr fun z=>z.2 rfl];exact ea) (Qce fun b h=>h.1)
 have F3:=F2.setFz (i:=i) (by rw [List.length_set];exact hi) hv
 rw [List.set_set] at F3
 have e3:σ.set i (some (.ref a))=σ:=by
  apply List.ext_getElem?
  intro j
  by_cases hj:j=i
  ·rw [hj,e,Qjl (by rw [F.len];exact hi)]
  ·rw [Qg1 hj]
 rw [e3] at F3
 exact ⟨_,F3,Qce fun b h=>h.1⟩
theorem FI.changeO (F:FI B H G σ ρ){t0 u0:T}{ob:HO}{s':Slot}(hs:(Qa ρ i=.ow t0∧s'=.ow u0)∨(Qa ρ i=.ml t0∧s'=.ml u0)){a:Addr}(e:σ[i]?=some (some (.ref a)))(il:OwnO (dls H G) u0 ob) :
  FI B (upd H a ob) G σ (ρ.set i s')∧Same (dls H G) (dls (upd H a ob) G):=by
 have hpv:(Qa ρ i).prv=some t0:=by rcases hs with ⟨h,_⟩ | ⟨h,_⟩ <;> rw [h] <;> rfl
 have hi:i<ρ.length:=Qnr (by rcases hs with ⟨h,_⟩ | ⟨h,_⟩ <;> rw [h] <;> intro z <;> cases z)
 obtain ⟨a',e',g,o',ea,_⟩:=F.prvAt hpv
 rw [e] at e'
 cases e'
 have sa:∀ j,Qa (ρ.set i s') j=if j=i then s' else Qa ρ j:=fun j=>by
  rw [Qg]
  by_cases e:j=i
  ·rw [if_pos ⟨e,hi⟩,if_pos e]
  ·rw [if_neg (fun z=>e z.1),if_neg e]
 have sm:Same (dls H G) (dls (upd H a ob) G):=fun b o eb=>by
  obtain ⟨n,eb⟩:=Q5 eb
  rw [Qbr n,Qw (fun (z:b=a)=>n (by rw [z];exact g))]
  exact eb
 have pv':∀ j b,PrvAt σ (ρ.set i s') j b→PrvAt σ ρ j b:=fun j b h=>by
  obtain ⟨⟨u,e1⟩,q⟩:=h
  rw [sa] at e1
  by_cases hj:j=i
  ·rw [hj] at q ⊢;exact ⟨⟨_,hpv⟩,q⟩
  ·rw [if_neg hj] at e1;exact ⟨⟨u,e1⟩,q⟩
 have own:OwnAt (upd H a ob) G a u0:=⟨ob,Qr,il.mono sm⟩
 refine ⟨{
  len:=by rw [List.length_set];exact F.len
  slot:=fun j=>by
   rw [sa]
   by_cases hj:j=i
   ·rw [if_pos hj,hj]
    rcases hs with ⟨_,h⟩ | ⟨_,h⟩ <;> rw [h] <;> exact ⟨a,e,g,own⟩
   ·rw [if_neg hj]
    refine Qeq (F.slot j) sm fun b o hb1 hb2 eb=>?_
    have nb:b≠a:=fun z=>hj (F.apart j i a ⟨hb1,z ▸ hb2⟩ ⟨⟨_,hpv⟩,e⟩)
    exact ⟨by rw [Qw nb];exact eb,(PrvAt.at F ⟨hb1,hb2⟩).1⟩
  apart:=fun j k b h1 h2=>F.apart j k b (pv' j b h1) (pv' k b h2)
  prv:=fun b hb=>by
   by_cases h:b=a
   ·exact ⟨ob,by rw [h,Qr],il.pen⟩
   ·rw [Qw h];exact F.prv b hb
  chg:=fun b o h1 h2 eb=>by
   have nb:b≠a:=fun z=>by
    rcases hs with ⟨h,_⟩ | ⟨h,_⟩
    ·rcases F.newO a ⟨i,_,h,e⟩ with y | y
     ·rw [z,y] at eb;cases eb
     ·exact h1 (z ▸ y)
    ·exact h2 (z ▸ F.newM a ⟨i,_,h,e⟩)
   rw [Qw nb]
   exact F.chg b o h1 h2 eb
  keep:=fun b o eb=>by
   by_cases h:b=a
   ·exact ⟨_,by rw [h,Qr]⟩
   ·rw [Qw h];exact F.keep b o eb
  newO:=fun b h=>by
   obtain ⟨j,u,e1,q⟩:=h
   rw [sa] at e1
   by_cases hj:j=i
   ·rw [if_pos hj] at e1
    rcases hs with ⟨h,h2⟩ | ⟨h,h2⟩
    ·exact F.newO b ⟨i,_,h,hj ▸ q⟩
    ·rw [h2] at e1;cases e1
   ·rw [if_neg hj] at e1;exact F.newO b ⟨j,u,e1,q⟩
  newM:=fun b h=>by
   obtain ⟨j,u,e1,q⟩:=h
   rw [sa] at e1
   by_cases hj:j=i
   ·rw [if_pos hj] at e1
    rcases hs with ⟨h,h2⟩ | ⟨h,h2⟩
    ·rw [h2] at e1;cases e1
    ·exact F.newM b ⟨i,_,h,hj ▸ q⟩
   ·rw [if_neg hj] at e1;exact F.newM b ⟨j,u,e1,q⟩
  fix:=fun j b h=>by
   obtain ⟨⟨u,e1⟩,q⟩:=h
   rw [sa] at e1
   by_cases hj:j=i
   ·rw [if_pos hj] at e1
    rcases hs with ⟨h,h2⟩ | ⟨h,h2⟩
    ·rw [h2] at e1;rcases e1 with e1 | e1 <;> cases e1
    ·exact F.fix j b ⟨⟨_,.inl (by rw [hj];exact h)⟩,q⟩
   ·rw [if_neg hj] at e1;exact F.fix j b ⟨⟨u,e1⟩,q⟩
  gg:=F.gg
  gn:=F.gn
  bp:=F.bp },sm⟩
theorem FI.change (F:FI B H G σ ρ){ts us:List T}{ws:List V}{s':Slot}(hs:(Qa ρ i=.ow (.lst ts)∧s'=.ow (.lst us))∨(Qa ρ i=.ml (.lst ts)∧s'=.ml (.lst us))){a:Addr}(e:σ[i]?=some (some (.ref a)))(il:IsL (dls H G) ws us)(z:us.length≤100000) :
  FI B (upd H a (.lst ws)) G σ (ρ.set i s')∧Same (dls H G) (dls (upd H a (.lst ws)) G):=F.changeO hs e ⟨z,il⟩
end
theorem QG.weak {e:Expr}{t t':TG}(h:QG X e t)(q:∀ v σ H Q,t' v σ H Q→t v σ H Q):QG X e t':=⟨fun pins s σ H v u Q I r z=>h.h pins s σ H v u Q I r (q _ _ _ _ z)⟩
theorem QI.weak {e:Expr}{t t':TI}(h:QI X tg e t)(q:∀ σ H R,t' σ H R→t σ H R):QI X tg e t':=⟨fun pins s σ H R I z=>h.h pins s σ H R I (q _ _ _ z)⟩
theorem QC.weak {e:List Expr}{t t':TT}(h:QC X e t)(q:∀ σ H Q,t' σ H Q→t σ H Q):QC X e t':=⟨fun pins s σ H Q I z=>h.h pins s σ H Q I (q _ _ _ z)⟩
def tG (tg:Tg):TG:=fun v σ H Q=>∃ B G ρ t ρ',FI B H G σ ρ∧Is (dls H G) v t∧Qdp tg t ρ=some ρ'∧∀ σ',FI B H G σ' ρ'→(∀ k a,PrvAt σ' ρ' k a→PrvAt σ ρ k a)→Q σ' H
theorem Qqx {i:Nat}{t:T}{v:V}(h:Qa8 i (.fz t) ρ=some ρ'):∀ k a,PrvAt (σ.set i (some v)) ρ' k a→PrvAt σ ρ k a:=fun k a hk=>by
 obtain ⟨h1,rfl⟩:=Qhh h
 obtain ⟨⟨u,e⟩,q⟩:=hk
 rw [Qg] at e
 by_cases z:k=i∧i<ρ.length
 ·rw [if_pos z] at e;cases e
 ·rw [if_neg z] at e
  have hk:k≠i:=fun y=>z ⟨y,h1⟩
  rw [Qg1 hk] at q
  exact ⟨⟨u,e⟩,q⟩
def Qy3:List Nat→TGs
 | []=>Q7s
 | i::is=>Qxc (Qc0 i) (Qy3 is)
section
variable {X:Cx} {e:Expr} {es:List Expr} {pos:Pos}
theorem Qad {i:Nat}(h:QG X e (Qc0 i)):QG X e (tG (.nm i)):=h.weak fun v σ H Q ⟨B,G,ρ,t,ρ',F,hv,hs,q⟩=>q _ (F.setS hs hv) (Qqx hs)
theorem Quv {Q:St→Hp→Prop}:∀ {is:List Nat} {ts:List T} {xs:List V} {σ:St} {ρ ρ':En},FI B H G σ ρ→IsL (dls H G) xs ts→Qbi is ts ρ=some ρ'→(∀ σ',FI B H G σ' ρ'→(∀ k a,PrvAt σ' ρ' k a→PrvAt σ ρ k a)→Q σ' H)→Qy3 is xs σ H Q
 | [],[],xs,σ,ρ,ρ',F,r,e,q=>by
  cases e
  exact ⟨r.nil_inv,q σ F fun _ _ h=>h⟩
 | i::is,t::ts,xs,σ,ρ,ρ',F,r,e,q=>by
  obtain ⟨v,w,rfl,a,r⟩:=r.cons_inv
  unfold Qbi at e
  cases h:Qa8 i (.fz t) ρ with
  | none=>rw [h] at e;cases e
  | some ρ1 =>
   rw [h] at e
   exact ⟨v,w,rfl,Quv (F.setS h a) r e fun σ' F' o=>q σ' F' fun k b hk=>Qqx h k b (o k b hk)⟩
 | [],_::_,_,_,_,_,_,_,e,_=>by cases e
 | _::_,[],_,_,_,_,_,_,e,_=>by cases e
theorem Qj1:∀ {is:List Nat} {ts:List T} {ρ ρ':En},Qbi is ts ρ=some ρ'→ts.length=is.length
 | [],[],_,_,_=>rfl
 | i::is,t::ts,ρ,ρ',e=>by
  unfold Qbi at e
  cases h:Qa8 i (.fz t) ρ with
  | none=>rw [h] at e;cases e
  | some ρ1=>rw [h] at e;rw [List.length_cons,List.length_cons,Qj1 e]
 | [],_::_,_,_,e=>by cases e
 | _::_,[],_,_,e=>by cases e
theorem Qo2 {is:List Nat}(h:QG X e (Q2f K n (Qy3 is)))(hn:is.length=n):QG X e (tG (.tp is)):=h.weak fun v σ H Q ⟨B,G,ρ,t,ρ',F,hv,hs,q⟩=>by
 cases t <;> first | (cases hs;done) | skip
 have hs:Qbi is _ ρ=some ρ':=hs
 obtain ⟨a,vs,rfl,ea,r⟩:=hv.tup_inv
 exact ⟨a,vs,rfl,SqT.of (Q5 ea).2,by rw [r.length,Qj1 hs,hn],Quv F r hs q⟩
end
structure WkR (J:It) (H0:Hp) (G0:Addr→Prop) (Ok:Hp→Prop) (ts:List T):Prop where
 go:∀ i H,i<ts.length→Ok H→J.go i H
 stop:∀ i H,ts.length≤i→Ok H→J.stop i H
 yld:∀ i H x H',i<ts.length→Ok H→J.yld i H x H'→Same H H'∧∃ t,ts[i]?=some t∧∀ G,Pen H G→Same (dls H0 G0) (dls H G)→Is (dls H' G) x t
def tW (p:Pr) (w:W):TI:=fun σ H R=>∃ G ρ,FI (Qan H G σ ρ) H G σ ρ∧Fin p (Qan H G σ ρ) σ (evW p.cf w ρ) fun its ρ1=>its.2=none∧∀ J H1 G1 Ok,FI (Qan H G σ ρ) H1 G1 σ ρ1→WkR J H1 G1 Ok its.1→(∀ H' G',Same (dls H1 G1) (dls H' G')→Ok H')→R J H1
section
variable {X:Cx} {p:Pr} {e a b tg:Expr} {a' b' e':E} {pos p1:Pos} {K:Frg}
theorem wk_l {l:Addr}{vs:List V}{ts:List T}(r:IsL (dls H G) vs ts):WkR (Itl K l) H G (fun H'=>SqL K H' l vs) ts where
 go:=fun i H' hi ok=>⟨vs,_,ok,List.getElem?_eq_getElem (by rw [r.length];exact hi)⟩
 stop:=fun i H' hi ok=>⟨vs,ok,by rw [r.length];exact hi⟩
 yld:=fun i H' x H2 hi ok y=>by
  obtain ⟨rfl,hx⟩:=y
  obtain ⟨t,et,it⟩:=r.get (hx vs ok)
  exact ⟨Same.refl _,t,et,fun G' _ s=>it.mono s⟩
theorem wk_t {l:Addr}{vs:List V}{ts:List T}(r:IsL (dls H G) vs ts):WkR (Itt K l) H G (fun H'=>SqT K H' l vs) ts where
 go:=fun i H' hi ok=>⟨vs,_,ok,List.getElem?_eq_getElem (by rw [r.length];exact hi)⟩
 stop:=fun i H' hi ok=>⟨vs,ok,by rw [r.length];exact hi⟩
 yld:=fun i H' x H2 hi ok y=>by
  obtain ⟨rfl,hx⟩:=y
  obtain ⟨t,et,it⟩:=r.get (hx vs ok)
  exact ⟨Same.refl _,t,et,fun G' _ s=>it.mono s⟩
theorem Q9 (lo:Int)(n:Nat):(Q3 lo n).length=n:=by unfold Q3;rw [List.length_map,List.length_range]
theorem Qeo {lo:Int}{i:Nat}(hi:i<n):(Q3 lo n)[i]?=some (.int (lo+i)):=by
 unfold Q3
 rw [List.getElem?_map,List.getElem?_range hi]
 rfl
theorem wk_r {lo:Int}:WkR (Itr lo n) H G (fun _=>True) (Q3 lo n) where
 go:=fun i H' hi _=>by rw [Q9] at hi;exact hi
 stop:=fun i H' hi _=>by rw [Q9] at hi;exact hi
 yld:=fun i H' x H2 hi _ y=>by
  rw [Q9] at hi
  obtain ⟨rfl,rfl⟩:=y
  exact ⟨Same.refl _,_,Qeo hi,fun _ _ _=>Is.int⟩
theorem Qln:∀ (ts:List T) (n:Nat),(Qmp n ts).length=ts.length
 | [],_=>rfl
 | t::ts,n=>by unfold Qmp;rw [List.length_cons,List.length_cons,Qln ts]
theorem Qqy:∀ (ts:List T) (n i:Nat) (t:T),ts[i]?=some t→(Qmp n ts)[i]?=some (.tup [.int ((n+i:Nat):Int),t])
 | [],_,_,_,e=>by simp at e
 | t::ts,n,0,u,e=>by
  simp at e
  subst e
  rfl
 | t::ts,n,i+1,u,e=>by
  rw [List.getElem?_cons_succ] at e
  unfold Qmp
  rw [List.getElem?_cons_succ,Qqy ts (n+1) i u e,show n+1+i=n+(i+1) by omega]
theorem wk_e {l:Addr}{vs:List V}{ts:List T}(r:IsL (dls H G) vs ts):WkR (Ite K l) H G (fun H'=>SqL K H' l vs) (Qmp 0 ts) where
 go:=fun i H' hi ok=>⟨vs,_,ok,List.getElem?_eq_getElem (by rw [Qln] at hi;rw [r.length];exact hi)⟩
 stop:=fun i H' hi ok=>⟨vs,ok,by rw [Qln] at hi;rw [r.length];exact hi⟩
 yld:=fun i H' x H2 hi ok y=>by
  obtain ⟨q,x,rfl,hq,hx,rfl⟩:=y
  obtain ⟨t,et,it⟩:=r.get (hx vs ok)
  refine ⟨Same.upd hq,_,Qqy ts 0 i t et,fun G' pn s=>?_⟩
  rw [Nat.zero_add]
  exact Qeb (pn.mono (Same.upd hq)) Qr (.cons Is.int (.one (it.mono (s.trans (Qbh (Same.upd hq)))))) (by show 2≤100000;decide)
theorem Qqz {r:PV}{t:T}(h:Qgy r=none)(e:cont ρ r=some t):frz r=some t:=by
 cases r with
 | fz t=>exact e
 | ow t=>exact e
 | sl i=>cases h
theorem Qcm (hK:X.K=K)(ha:QE X e (tE p e')):QI X tg e (tW p (.seq e')):=(Qx6 K hK ha).weak fun σ H R ⟨G,ρ,F,h⟩=>by
 unfold evW at h
 refine ⟨G,ρ,F,h.bind.imp fun r ρ1 h1 v H1 G1 F1 r1=>?_⟩
 cases ec:cont ρ1 r with
 | none=>rw [ec] at h1;exact False.elim h1
 | some t =>
  rw [ec] at h1
  cases es:Qdb t with
  | none =>
   replace h1:Fin p (Qan H G σ ρ) σ (match Qdb t with | some ts=>.ok (ts,Qgy r) ρ1 | none=>.no) _:=h1
   rw [es] at h1
   exact False.elim h1
  | some ts =>
   replace h1:Fin p (Qan H G σ ρ) σ (match Qdb t with | some ts=>.ok (ts,Qgy r) ρ1 | none=>.no) _:=h1
   rw [es] at h1
   obtain ⟨hn,k⟩:=h1
   obtain ⟨G',F',hv,_⟩:=PVR.lay (B:=Qan H G σ ρ) r1 F1 (Qqz hn ec)
   cases t <;> first | (cases es;done) | skip
   ·cases es
    obtain ⟨l,vs,rfl,el,rl⟩:=hv.tup_inv
    exact ⟨l,rfl,.inr ⟨⟨vs,SqT.of (Q5 el).2⟩,k _ H1 G' _ F' (wk_t rl) fun H' G2 s=>SqT.of (Q5 (s _ _ el)).2⟩⟩
   ·cases es
    obtain ⟨l,vs,rfl,el,rl⟩:=hv.lst_inv
    exact ⟨l,rfl,.inl ⟨⟨vs,SqL.of (Q5 el).2⟩,k _ H1 G' _ F' (wk_l rl) fun H' G2 s=>SqL.of (Q5 (s _ _ el)).2⟩⟩
theorem Q3u (hm:X.mg "range" = none)(ha:QE X a (tE p a'))(hg:Gl X "range")(hs:Qu a=true):QI X tg (.Call (.Name "range" p1) [a] [] pos) (tW p (.rng1 a')):=(Qsw hm (Qat ha Qbu hs) hg hs).weak fun σ H R ⟨G,ρ,F,h⟩=>by
 unfold evW at h
 refine ⟨G,ρ,F,h.bind.imp fun r ρ1 h1 v H1 G1 F1 r1=>?_⟩
 cases r with
 | ow t=>exact False.elim h1
 | sl i=>exact False.elim h1
 | fz t =>
  cases t <;> first | exact False.elim h1 | skip
  rename_i j
  replace h1:Fin p (Qan H G σ ρ) σ (if j.natAbs≤100000 then .ok (Q3 0 j.toNat,none) ρ1 else .no) _:=h1
  by_cases z:j.natAbs≤100000
  ·rw [if_pos z] at h1
   obtain rfl:=r1.is.int_inv
   exact ⟨j,rfl,by omega,by omega,h1.2 _ H1 G1 _ F1 wk_r fun _ _ _=>trivial⟩
  ·rw [if_neg z] at h1;exact False.elim h1
theorem Q3v (hm:X.mg "range" = none)(ha:QE X a (tE p a'))(hb:QE X b (tE p b'))(hg:Gl X "range")(hs:Qu a=true)(hs2:Qu b=true):QI X tg (.Call (.Name "range" p1) [a,b] [] pos) (tW p (.rng2 a' b')):=(Q84 hm (Qat ha (Qat hb Qbu hs2) hs) hg hs hs2).weak fun σ H R ⟨G,ρ,F,h⟩=>by
 unfold evW at h
 refine tE2 F h fun ra rb ρ2 x y H2 G2 F2 r1 r2 h2=>?_
 cases ra with
 | ow t=>cases rb <;> exact False.elim h2
 | sl i=>cases rb <;> exact False.elim h2
 | fz t =>
  cases rb with
  | ow u=>cases t <;> exact False.elim h2
  | sl i=>cases t <;> exact False.elim h2
  | fz u =>
   cases t <;> first | exact False.elim h2 | skip
   cases u <;> first | exact False.elim h2 | skip
   rename_i i j
   replace h2:Fin p (Qan H G σ ρ) σ (if i.natAbs≤100000∧j.natAbs≤100000 then .ok (Q3 i (j-i).toNat,none) ρ2 else .no) _:=h2
   by_cases z:i.natAbs≤100000∧j.natAbs≤100000
   ·rw [if_pos z] at h2
    obtain rfl:=r1.is.int_inv
    obtain rfl:=r2.is.int_inv
    exact ⟨i,j,rfl,⟨by omega,by omega,by omega,by omega⟩,h2.2 _ H2 G2 _ F2 wk_r fun _ _ _=>trivial⟩
   ·rw [if_neg z] at h2;exact False.elim h2
theorem Q91 {x1}{tp:Pos}(hK:X.K=K)(hm:X.mg "enumerate" = none)(hb:PySem.bootBuiltins "enumerate" = some (.type "enumerate"))(ha:QE X a (tE p a'))(hg:Gl X "enumerate")(hs:Qu a=true):QI X (.Tuple es x1 tp) (.Call (.Name "enumerate" p1) [a] [] pos) (tW p (.enm a')):=(Q9g K hK hm hb (Qat ha Qbu hs) hg hs).weak fun σ H R ⟨G,ρ,F,h⟩=>by
 unfold evW at h
 refine ⟨G,ρ,F,h.bind.imp fun r ρ1 h1 v H1 G1 F1 r1=>?_⟩
 cases ec:cont ρ1 r with
 | none=>rw [ec] at h1;exact False.elim h1
 | some t =>
  rw [ec] at h1
  cases t <;> first | exact False.elim h1 | skip
  obtain ⟨hn,k⟩:=h1
  obtain ⟨G',F',hv,_⟩:=PVR.lay (B:=Qan H G σ ρ) r1 F1 (Qqz hn ec)
  obtain ⟨l,vs,rfl,el,rl⟩:=hv.lst_inv
  exact ⟨l,vs,rfl,SqL.of (Q5 el).2,k _ H1 G' _ F' (wk_e rl) fun H' G2 s=>SqL.of (Q5 (s _ _ el)).2⟩
end
theorem Qcy (js:List (Option Nat))(ρ:En)(k:Nat):Qa (Qcl js ρ) k=match js[k]? with
  | some (some j)=>(Qa ρ j).lend
  | _=>.un:=by
 show (match (js.map fun o=>match o with | none=>Slot.un | some j=>(Qa ρ j).lend)[k]? with | some s=>s | none=>Slot.un)=_
 rw [List.getElem?_map]
 cases js[k]? with
 | none=>rfl
 | some o=>cases o <;> rfl
theorem Qg2 (js:List (Option Nat))(σ:St)(k:Nat):(Qea js σ)[k]?=match js[k]? with
  | some (some j)=>some ((σ[j]?).join)
  | some none=>some none
  | none=>none:=by
 unfold Qea
 rw [List.getElem?_map]
 cases js[k]? with
 | none=>rfl
 | some o=>cases o <;> rfl
theorem Qg3 (js:List (Option Nat))(ρi:En):∀ (ρ:En) (n j:Nat),Qa (Qdk js ρi n ρ) j=if j<ρ.length then Qht js ρi (n+j) (Qa ρ j) else .un
 | [],n,j=>by
  unfold Qdk
  rw [if_neg (by simp),Qf3]
 | s::ρ,n,0=>by unfold Qdk;rw [if_pos (by simp)];rfl
 | s::ρ,n,j+1=>by
  unfold Qdk
  rw [Qc,Qc,Qg3 js ρi ρ (n+1) j,show n+1+j=n+(j+1) by omega]
  by_cases h:j<ρ.length
  ·rw [if_pos h,if_pos (by rw [List.length_cons];omega)]
  ·rw [if_neg h,if_neg (by rw [List.length_cons];omega)]
theorem Qj2 (js:List (Option Nat))(ρi:En):∀ (ρ:En) (n:Nat),(Qdk js ρi n ρ).length=ρ.length
 | [],_=>rfl
 | s::ρ,n=>by unfold Qdk;rw [List.length_cons,List.length_cons,Qj2 js ρi ρ (n+1)]
theorem Qcz (js:List (Option Nat))(ρi:En)(j:Nat)(s:Slot):Qht js ρi j s=s∨∃ k t,js.idxOf? (some j)=some k∧Qa ρi k=.ml t∧Qht js ρi j s=s.put t:=by
 unfold Qht
 cases h1:js.idxOf? (some j) with
 | none=>exact .inl rfl
 | some k =>
  cases h2:Qa ρi k with
  | ml t=>exact .inr ⟨k,t,rfl,h2,by simp only [h2]⟩
  | un=>exact .inl (by simp only [h2])
  | pin _=>exact .inl (by simp only [h2])
  | fz t=>exact .inl (by simp only [h2])
  | ow t=>exact .inl (by simp only [h2])
  | ro t=>exact .inl (by simp only [h2])
theorem Qe8 (js:List (Option Nat))(ρi ρ:En)(j:Nat):Qa (Qlc js ρi ρ) j=Qht js ρi j (Qa ρ j):=by
 unfold Qlc
 rw [Qg3,Nat.zero_add]
 by_cases h:j<ρ.length
 ·rw [if_pos h]
 ·rw [if_neg h]
  have e:Qa ρ j=.un:=by
   unfold Qa
   rw [List.getElem?_eq_none_iff.mpr (by omega)]
  rw [e]
  rcases Qcz js ρi j .un with z | ⟨k,t,_,_,z⟩ <;> rw [z] <;> rfl
theorem Q3w:∀ {js:List (Option Nat)} {j k:Nat},js.idxOf? (some j)=some k→js[k]?=some (some j):=by
 intro js j k h
 have:=List.idxOf?_eq_some_iff.mp h
 obtain ⟨h1,h2,_⟩:=this
 rw [List.getElem?_eq_getElem h1,h2]
theorem Qy4 {j:Nat}(h:js.idxOf? (some j)=none):js[k]?≠some (some j):=fun e=>by
 have:=List.idxOf?_eq_none_iff.mp h
 exact this (List.mem_of_getElem? e)
theorem Qlo:∀ {js:List (Option Nat)},Qbs js=true→∀ (i k j:Nat),js[i]?=some (some j)→js[k]?=some (some j)→i=k
 | [],_,i,k,j,e,_=>by simp at e
 | r::js,h,i,k,j,e1,e2=>by
  have tl:Qbs js=true:=by
   cases r with
   | some q=>unfold Qbs at h;rw [Bool.and_eq_true] at h;exact h.2
   | none=>exact h
  have hd:∀ (m:Nat),r=some j→js[m]?=some (some j)→False:=fun m er em=>by
   subst er
   unfold Qbs at h
   rw [Bool.and_eq_true] at h
   have q:=List.all_eq_true.mp h.1 _ (List.mem_of_getElem? em)
   simp at q
  cases i with
  | zero =>
   cases k with
   | zero=>rfl
   | succ k=>simp at e1;rw [List.getElem?_cons_succ] at e2;exact (hd k e1 e2).elim
  | succ i =>
   cases k with
   | zero=>simp at e2;rw [List.getElem?_cons_succ] at e1;exact (hd i e2 e1).elim
   | succ k =>
    rw [List.getElem?_cons_succ] at e1 e2
    rw [Qlo tl i k j e1 e2]
theorem Qnv:∀ {ρ0 ρ:En},Qe4 ρ0 ρ=true→∀ (i:Nat) (t:T),Qa ρ0 i=.ml t→∃ t',Qa ρ i=.ml t'
 | [],[],_,i,t,e=>by rw [Qf3] at e;cases e
 | [],_::_,h,_,_,_=>by cases h
 | s0::ρ0,[],h,_,_,_=>by cases s0 <;> cases h
 | s0::ρ0,s::ρ,h,i,t,e=>by
  have tl:Qe4 ρ0 ρ=true:=by
   cases s0 <;> first | exact h | skip
   unfold Qe4 at h
   rw [Bool.and_eq_true] at h
   exact h.2
  cases i with
  | zero =>
   rw [Qb] at e
   subst e
   unfold Qe4 at h
   rw [Bool.and_eq_true] at h
   cases s <;> first | (simp at h;done) | exact ⟨_,rfl⟩
  | succ i =>
   rw [Qc] at e ⊢
   exact Qnv tl i t e
section
variable {B:Bs} {H H1 H2:Hp} {G G1 G2:Addr→Prop} {σ σ2:St} {ρ ρi:En} {js:List (Option Nat)}
theorem Qy5 {s:Slot}{t:T}(h:s.lend.prv=some t):s.prv=some t:=by cases s <;> exact h
theorem FI.cap (F:FI B H G σ ρ)(hj:Qbs js=true):FI (Qan H G (Qea js σ) (Qcl js ρ)) H G (Qea js σ) (Qcl js ρ):=by
 have pv:∀ k a,PrvAt (Qea js σ) (Qcl js ρ) k a→∃ j,js[k]?=some (some j)∧PrvAt σ ρ j a:=fun k a h=>by
  obtain ⟨⟨t,e⟩,q⟩:=h
  rw [Qcy] at e
  rw [Qg2] at q
  cases hk:js[k]? with
  | none=>rw [hk] at e;cases e
  | some o =>
   cases o with
   | none=>rw [hk] at e;cases e
   | some j =>
    rw [hk] at e q
    refine ⟨j,rfl,⟨t,Qy5 e⟩,?_⟩
    replace q:some (σ[j]?.join)=some (some (.ref a)):=q
    cases hs:σ[j]? with
    | none=>rw [hs] at q;cases q
    | some w=>rw [hs] at q;exact q
 refine ⟨by unfold Qea Qcl;rw [List.length_map,List.length_map],fun k=>?_,fun i k a h1 h2=>?_,F.prv,fun _ _ _ _ e=>e,fun _ o e=>⟨o,e⟩,fun _ h=>.inr h,fun _ h=>h,fun _ _ h=>h,fun _ h=>h,fun _ h=>.inl h,fun b h=>let ⟨xs,e,_⟩:=F.prv b h;⟨_,e⟩⟩
 ·rw [Qcy]
  cases hk:js[k]? with
  | none=>trivial
  | some o =>
   cases o with
   | none=>trivial
   | some j =>
    have q:=F.slot j
    have gt:∀ v,σ[j]?=some (some v)→(Qea js σ)[k]?=some (some v):=fun v e=>by
     rw [Qg2,hk]
     show some (σ[j]?.join)=_
     rw [e]
     rfl
    show Qle H G (Qea js σ) k (Qa ρ j).lend
    cases hs:Qa ρ j with
    | un=>trivial
    | pin a=>trivial
    | fz t=>rw [hs] at q;obtain ⟨v,e,i⟩:=q;exact ⟨v,gt _ e,i⟩
    | ow t=>rw [hs] at q;obtain ⟨v,e,i⟩:=q;exact ⟨v,gt _ e,i⟩
    | ml t=>rw [hs] at q;obtain ⟨v,e,i⟩:=q;exact ⟨v,gt _ e,i⟩
    | ro t=>rw [hs] at q;obtain ⟨v,e,i⟩:=q;exact ⟨v,gt _ e,i⟩
 ·obtain ⟨j1,e1,p1⟩:=pv i a h1
  obtain ⟨j2,e2,p2⟩:=pv k a h2
  have ej:=F.apart j1 j2 a p1 p2
  subst ej
  exact Qlo hj i k j1 e1 e2
theorem FI.uncap (F:FI B H G σ ρ)(hj:Qbs js=true)(I:FI (Qan H G (Qea js σ) (Qcl js ρ)) H2 G2 σ2 ρi)(hk:Qe4 (Qcl js ρ) ρi=true):FI B H2 G2 σ (Qlc js ρi ρ):=by
 have Fc:=F.cap hj
 have sm:=Fc.same I
 have noO:∀ a,¬ OwA (Qea js σ) (Qcl js ρ) a:=fun a h=>by
  obtain ⟨k,t,e,_⟩:=h
  rw [Qcy] at e
  cases hk:js[k]? with
  | none=>rw [hk] at e;cases e
  | some o =>
   cases o with
   | none=>rw [hk] at e;cases e
   | some j =>
    rw [hk] at e
    have e:(Qa ρ j).lend=.ow t:=e
    cases hs:Qa ρ j <;> rw [hs] at e <;> cases e
 have isM:∀ a,MlA (Qea js σ) (Qcl js ρ) a→∃ (k j:Nat) (t:T),js[k]?=some (some j)∧(Qa ρ j=.ow t∨Qa ρ j=.ml t)∧σ[j]?=some (some (.ref a)):=fun a h=>by
  obtain ⟨k,t,e,q⟩:=h
  rw [Qcy] at e
  rw [Qg2] at q
  cases hk:js[k]? with
  | none=>rw [hk] at e;cases e
  | some o =>
   cases o with
   | none=>rw [hk] at e;cases e
   | some j =>
    rw [hk] at e q
    have e:(Qa ρ j).lend=.ml t:=e
    refine ⟨k,j,t,hk,?_,?_⟩
    ·cases hs:Qa ρ j <;> rw [hs] at e <;> cases e
     ·exact .inl rfl
     ·exact .inr rfl
    ·replace q:some (σ[j]?.join)=some (some (.ref a)):=q
     cases hs:σ[j]? with
     | none=>rw [hs] at q;cases q
     | some w=>rw [hs] at q;exact q
 -- a list of the frame that the block can't change
 have stay:∀ j a t,(Qa ρ j).prv=some t→σ[j]?=some (some (.ref a))→OwnAt H G a t→((∀ t,Qa ρ j≠.ow t)∧(∀ t,Qa ρ j≠.ml t)∨js.idxOf? (some j)=none)→OwnAt H2 G2 a t:=fun j a t e s o h=>by
  refine o.mono sm fun u eu=>I.chg a u (noO a) (fun z=>?_) eu
  obtain ⟨k,j',t',e1,hs,e2⟩:=isM a z
  have ej:j'=j:=F.apart j' j a ⟨⟨t',by rcases hs with hs | hs <;> rw [hs] <;> rfl⟩,e2⟩ ⟨⟨t,e⟩,s⟩
  subst ej
  rcases h with ⟨h1,h2⟩ | h
  ·rcases hs with hs | hs
   ·exact h1 _ hs
   ·exact h2 _ hs
  ·exact Qy4 h e1
 -- one that it may
 have lent:∀ j a t k,(Qa ρ j=.ow t∨Qa ρ j=.ml t)→σ[j]?=some (some (.ref a))→js.idxOf? (some j)=some k→∃ t',Qa ρi k=.ml t'∧OwnAt H2 G2 a t':=fun j a t k hs s hx=>by
  have e1:=Q3w hx
  have e0:Qa (Qcl js ρ) k=.ml t:=by
   rw [Qcy,e1]
   show (Qa ρ j).lend=_
   rcases hs with hs | hs <;> rw [hs] <;> rfl
  obtain ⟨t',e2⟩:=Qnv hk k t e0
  have q:=I.slot k
  rw [e2] at q
  obtain ⟨a',q1,_,q3⟩:=q
  obtain ⟨_,q4⟩:=I.fix k a' ⟨⟨t',.inl e2⟩,q1⟩
  rw [Qg2,e1] at q4
  replace q4:some (σ[j]?.join)=some (some (.ref a')):=q4
  rw [s] at q4
  have q5:a=a':=by
   have:=Option.some.inj q4
   have:=Option.some.inj (show some (V.ref a)=some (V.ref a') from this)
   cases this
   rfl
  subst q5
  exact ⟨t',e2,q3⟩
 have kd:∀ j s',Qa (Qlc js ρi ρ) j=s'→(s'=Qa ρ j∨∃ t,s'=(Qa ρ j).put t):=fun j s' h=>by
  rw [Qe8] at h
  rcases Qcz js ρi j (Qa ρ j) with z | ⟨k,t,_,_,z⟩
  ·rw [z] at h;exact .inl h.symm
  ·rw [z] at h;exact .inr ⟨t,h.symm⟩
 have pv:∀ j a,PrvAt σ (Qlc js ρi ρ) j a→PrvAt σ ρ j a:=fun j a h=>by
  obtain ⟨⟨u,e⟩,q⟩:=h
  refine ⟨?_,q⟩
  rcases kd j _ rfl with z | ⟨t,z⟩
  ·rw [z] at e;exact ⟨u,e⟩
  ·rw [z] at e;exact Qko e
 exact {
  len:=by unfold Qlc;rw [Qj2];exact F.len
  slot:=fun j=>by
   have q:=F.slot j
   have bc:=Qcz js ρi j (Qa ρ j)
   rw [Qe8]
   cases hs:Qa ρ j with
   | un =>
    rw [hs] at bc
    rcases bc with e | ⟨k,t,_,_,e⟩ <;> rw [e] <;> trivial
   | pin a =>
    rw [hs] at q bc
    rcases bc with e | ⟨k,t,_,_,e⟩ <;> rw [e] <;> exact q
   | fz t =>
    rw [hs] at q bc
    obtain ⟨v,e1,e2⟩:=q
    rcases bc with e | ⟨k,t,_,_,e⟩ <;> rw [e] <;> exact ⟨v,e1,e2.mono sm⟩
   | ro t =>
    rw [hs] at q bc
    obtain ⟨a,e1,g,o⟩:=q
    have o':=stay j a t (by rw [hs];rfl) e1 o (.inl ⟨fun t z=>(by rw [hs] at z;cases z),fun t z=>(by rw [hs] at z;cases z)⟩)
    rcases bc with e | ⟨k,t,_,_,e⟩ <;> rw [e] <;> exact ⟨a,e1,I.gg a g,o'⟩
   | ow t =>
    rw [hs] at q bc
    obtain ⟨a,e1,g,o⟩:=q
    cases hp:js.idxOf? (some j) with
    | none =>
     have o':=stay j a t (by rw [hs];rfl) e1 o (.inr hp)
     rcases bc with e | ⟨k,t',h,_,e⟩
     ·rw [e];exact ⟨a,e1,I.gg a g,o'⟩
     ·rw [hp] at h;cases h
    | some k =>
     obtain ⟨t',ef,o'⟩:=lent j a t k (.inl hs) e1 hp
     have e:Qht js ρi j (.ow t)=.ow t':=by unfold Qht;rw [hp];simp only [ef];rfl
     rw [e]
     exact ⟨a,e1,I.gg a g,o'⟩
   | ml t =>
    rw [hs] at q bc
    obtain ⟨a,e1,g,o⟩:=q
    cases hp:js.idxOf? (some j) with
    | none =>
     have o':=stay j a t (by rw [hs];rfl) e1 o (.inr hp)
     rcases bc with e | ⟨k,t',h,_,e⟩
     ·rw [e];exact ⟨a,e1,I.gg a g,o'⟩
     ·rw [hp] at h;cases h
    | some k =>
     obtain ⟨t',ef,o'⟩:=lent j a t k (.inr hs) e1 hp
     have e:Qht js ρi j (.ml t)=.ml t':=by unfold Qht;rw [hp];simp only [ef];rfl
     rw [e]
     exact ⟨a,e1,I.gg a g,o'⟩
  apart:=fun i j a h1 h2=>F.apart i j a (pv i a h1) (pv j a h2)
  prv:=I.prv
  chg:=fun b o h1 h2 e=>I.chg b o (noO b) (fun z=>by
   obtain ⟨k,j,t,_,hs,q⟩:=isM b z
   rcases hs with hs | hs
   ·rcases F.newO b ⟨j,t,hs,q⟩ with y | y
    ·rw [e] at y;cases y
    ·exact h1 y
   ·exact h2 (F.newM b ⟨j,t,hs,q⟩)) (F.chg b o h1 h2 e)
  keep:=fun b o e=>by
   obtain ⟨o1,e1⟩:=F.keep b o e
   exact I.keep b o1 e1
  newO:=fun a h=>by
   obtain ⟨j,t,e,s⟩:=h
   rcases kd j _ e with z | ⟨u,z⟩
   ·exact F.newO a ⟨j,t,z.symm,s⟩
   ·cases hs:Qa ρ j <;> rw [hs] at z <;> cases z
    exact F.newO a ⟨j,_,hs,s⟩
  newM:=fun a h=>by
   obtain ⟨j,t,e,s⟩:=h
   rcases kd j _ e with z | ⟨u,z⟩
   ·exact F.newM a ⟨j,t,z.symm,s⟩
   ·cases hs:Qa ρ j <;> rw [hs] at z <;> cases z
    exact F.newM a ⟨j,_,hs,s⟩
  fix:=fun j a h=>by
   obtain ⟨⟨t,e⟩,s⟩:=h
   refine F.fix j a ⟨?_,s⟩
   rcases e with e | e
   ·rcases kd j _ e with z | ⟨u,z⟩
    ·exact ⟨t,.inl z.symm⟩
    ·cases hs:Qa ρ j <;> rw [hs] at z <;> cases z
     exact ⟨_,.inl rfl⟩
   ·rcases kd j _ e with z | ⟨u,z⟩
    ·exact ⟨t,.inr z.symm⟩
    ·cases hs:Qa ρ j <;> rw [hs] at z <;> cases z
     exact ⟨_,.inr rfl⟩
  gg:=fun b h=>I.gg b (F.gg b h)
  gn:=fun b h=>by
   rcases I.gn b h with z | z
   ·exact F.gn b z
   ·exact .inr (F.free z)
  bp:=F.bp }
end
def tCs (p:Pr) (cs:Es):TT:=fun σ H Q=>∃ G ρ,FI (Qan H G σ ρ) H G σ ρ∧Fin p (Qan H G σ ρ) σ (evC p.cf cs ρ) fun b ρ1=>∀ H1 G1,FI (Qan H G σ ρ) H1 G1 σ ρ1→Q b H1
section
variable {X:Cx} {p:Pr} {a:Expr} {a':E}
theorem Qd1:QC X [] (tCs p .nil):=q_c0.weak fun σ H Q ⟨G,ρ,F,h⟩=>by unfold evC at h;exact h H G F
theorem Qo3 (ha:QT X a (tT p a')):QC X [a] (tCs p (.cons a' .nil)):=(q_c1 ha).weak fun σ H Q ⟨G,ρ,F,h⟩=>by unfold evC at h;exact ⟨G,ρ,F,h⟩
end
abbrev Pr.calm (p:Pr):Pr:={ p with R:=fun _ _ _ _=>False }
theorem Qkp {β:Type}{o:Out α}{k:α→En→Out β}{b:β}(h:o.bind k=.ok b ρ):∃ a ρ1,o=.ok a ρ1∧k a ρ1=.ok b ρ:=by
 cases o with
 | ok a ρ1=>exact ⟨a,ρ1,rfl,h⟩
 | xn x ρ1=>cases h
 | no=>cases h
theorem FI.under (F:FI B H G σ ρ){l:Addr}{ys:List V}(g:G l)(np:∀ k,¬ PrvAt σ ρ k l)(hb:B.H l=none):FI B (upd H l (.lst ys)) G σ ρ∧Same (dls H G) (dls (upd H l (.lst ys)) G):=by
 have sm:Same (dls H G) (dls (upd H l (.lst ys)) G):=fun b o eb=>by
  obtain ⟨n,eb⟩:=Q5 eb
  rw [Qbr n,Qw (fun (z:b=l)=>n (by rw [z];exact g))]
  exact eb
 refine ⟨{ F with
  slot:=fun j=>Qeq (F.slot j) sm fun b o hb1 hb2 eb=>?_
  prv:=fun b hb=>?_
  chg:=fun b o h1 h2 eb=>?_
  keep:=fun b o eb=>?_ },sm⟩
 ·have nb:b≠l:=fun z=>np j ⟨hb1,z ▸ hb2⟩
  exact ⟨by rw [Qw nb];exact eb,(PrvAt.at F ⟨hb1,hb2⟩).1⟩
 ·by_cases h:b=l
  ·exact ⟨.lst ys,by rw [h,Qr],rfl⟩
  ·rw [Qw h];exact F.prv b hb
 ·have nb:b≠l:=fun z=>by rw [z,hb] at eb;cases eb
  rw [Qw nb]
  exact F.chg b o h1 h2 eb
 ·by_cases h:b=l
  ·exact ⟨_,by rw [h,Qr]⟩
  ·rw [Qw h];exact F.keep b o eb
theorem Quw {w:W}{tg:Tg}{e':E}(h:tE p (.comp w js tg cs e') σ H Q):Qnh (tW p w) js (tG tg) (tCs p.calm cs) (tE p.calm e') σ H Q:=by
  obtain ⟨G,ρ,F,h⟩:=h
  unfold evE at h
  refine ⟨G,ρ,F,h.bind.imp fun its ρ1 h1=>?_⟩
  obtain ⟨ts,lk⟩:=its
  cases lk with
  | some _=>exact False.elim h1
  | none =>
   refine ⟨rfl,fun J H1 G1 Ok F1 wk stab l hl=>?_⟩
   replace wk:WkR J H1 G1 Ok ts:=wk
   replace h1:Fin p (Qan H G σ ρ) σ (match Qb8 tg (evC p.cf cs) (evE p.cf e') ts [] (Qcl js ρ1) with
    | .ok us ρi=>if Qe4 (Qcl js ρ1) ρi=true∧Qbs js=true then Out.ok (PV.ow (.lst us)) (Qlc js ρi ρ1) else .no
    | _=>.no) _:=h1
   cases ec:Qb8 tg (evC p.cf cs) (evE p.cf e') ts [] (Qcl js ρ1) with
   | no=>rw [ec] at h1;exact False.elim h1
   | xn x ρx=>rw [ec] at h1;exact False.elim h1
   | ok tsF ρF =>
    rw [ec] at h1
    by_cases hz:Qe4 (Qcl js ρ1) ρF=true∧Qbs js=true
    ·simp only [if_pos hz] at h1
     obtain ⟨hkept,hap⟩:=hz
     have Fc:=F1.cap hap
     refine ⟨fun i m ys σ2 H2=>i+m=ts.length∧∃ G2 ρi acc,FI (Qan H1 G1 (Qea js σ) (Qcl js ρ1)) H2 G2 σ2 ρi∧G2 l∧(∀ k,¬ PrvAt σ2 ρi k l)∧H2 l=some (.lst ys)∧IsL (dls H2 G2) ys acc∧acc.length≤100000 ∧
      Qb8 tg (evC p.cf cs) (evE p.cf e') (ts.drop i) acc ρi=.ok tsF ρF,⟨ts.length,Nat.zero_add _,_,_,[],Fc.addG hl (Same.upd hl) Qr rfl,.inr rfl,fun k hk=>?_,Qr,.nil,Nat.zero_le _,ec⟩,?_⟩
     ·obtain ⟨_,t,ob,ea,_⟩:=PrvAt.at Fc hk
      rw [hl] at ea
      cases ea
     rintro i m ys σ2 H2 ⟨him,G2,ρi,acc,I2,gl,np,el,il,zl,cl⟩
     have ok2:Ok H2:=stab H2 G2 (Fc.same I2)
     by_cases hlt:i<ts.length
     ·refine .inr ⟨wk.go i H2 hlt ok2,fun x H3 y=>?_⟩
      obtain ⟨s3,t,et,ix⟩:=wk.yld i H2 x H3 hlt ok2 y
      have I3:=I2.grow s3
      have ix3:=ix G2 I2.prv (Fc.same I2)
      rw [List.drop_eq_getElem_cons hlt] at cl
      have et':ts[i]=t:=by rw [List.getElem?_eq_getElem hlt] at et;exact Option.some.inj et
      rw [et'] at cl
      unfold Qb8 at cl
      cases est:Qdp tg t ρi with
      | none=>rw [est] at cl;cases cl
      | some ρ4 =>
       rw [est] at cl
       replace cl:(evC p.cf cs ρ4).bind _=.ok tsF ρF:=cl
       obtain ⟨b,ρ5,eb,cl⟩:=Qkp cl
       refine ⟨_,G2,ρi,t,ρ4,I3,ix3,est,fun σ4 I4 old=>?_⟩
       have np4:∀ k,¬ PrvAt σ4 ρ4 k l:=fun k hk=>np k (old k l hk)
       refine ⟨G2,ρ4,I4.self,?_⟩
       rw [show p.calm.cf=p.cf from rfl,eb]
       intro H5 G5 I5
       have np5:=I4.nobody I5 (s3 _ _ el) np4
       have I5':=I4.trans I5
       have el5:H5 l=some (.lst ys):=I5.chg l _ (fun z=>by obtain ⟨j,z⟩:=OwA.prv z;exact np4 j z) (fun z=>by obtain ⟨j,z⟩:=MlA.prv z;exact np4 j z) (s3 _ _ el)
       have il5:IsL (dls H5 G5) ys acc:=(il.mono (Qbh s3)).mono (I4.same I5)
       cases b with
       | false =>
        simp only [Bool.false_eq_true,if_false] at cl ⊢
        exact ⟨m-1,by omega,by omega,G5,ρ5,acc,I5',I5.gg l gl,np5,el5,il5,zl,cl⟩
       | true =>
        simp only [if_true] at cl ⊢
        obtain ⟨r,ρ6,er,cl⟩:=Qkp cl
        refine ⟨G5,ρ5,I5'.self,?_⟩
        rw [show p.calm.cf=p.cf from rfl,er]
        intro v H6 G6 I6 r6
        cases ef:frz r with
        | none=>rw [ef] at cl;cases cl
        | some t6 =>
         rw [ef] at cl
         replace cl:(if acc.length<100000 then Qb8 tg (evC p.cf cs) (evE p.cf e') (ts.drop (i+1)) (acc++[t6]) ρ6 else .no)=.ok tsF ρF:=cl
         by_cases za:acc.length<100000
         ·rw [if_pos za] at cl
          have np6:=I5'.nobody I6 el5 np5
          have el6:H6 l=some (.lst ys):=I6.chg l _ (fun z=>by obtain ⟨j,z⟩:=OwA.prv z;exact np5 j z) (fun z=>by obtain ⟨j,z⟩:=MlA.prv z;exact np5 j z) el5
          have il6:IsL (dls H6 G6) ys acc:=il5.mono (I5'.same I6)
          obtain ⟨G7,I7,i7,s7⟩:=PVR.lay (B:=Qan H5 G5 σ4 ρ5) r6 I6 ef
          have g7:G7 l:=I7.gg l (I5.gg l gl)
          have I7':=I5'.trans I7
          have hb:(Qan H1 G1 (Qea js σ) (Qcl js ρ1)).H l=none:=hl
          obtain ⟨I8,s8⟩:=I7'.under (ys:=ys++[v]) g7 np6 hb
          have zy:=il6.length
          refine ⟨el6,by rw [zy,sizeLine_eq];omega,m-1,by omega,by omega,G7,ρ6,acc++[t6],I8,g7,np6,Qr,((il6.mono (Qce s7)).append (.one i7)).mono s8,by rw [List.length_append,List.length_singleton];omega,cl⟩
         ·rw [if_neg za] at cl;cases cl
     ·have e0:ts.drop i=[]:=List.drop_of_length_le (by omega)
      rw [e0] at cl
      cases cl
      refine .inl ⟨wk.stop i H2 (by omega) ok2,h1 _ H2 G2 (F1.uncap hap I2 hkept) ?_⟩
      refine ⟨l,rfl,F1.free hl,gl,fun k hk=>?_,.lst ys,el,zl,il⟩
      obtain ⟨⟨u,eu⟩,q⟩:=hk
      rw [Qe8] at eu
      have:∃ u,(Qa ρ1 k).prv=some u:=by
       rcases Qcz js ρF k (Qa ρ1 k) with z | ⟨_,t,_,_,z⟩
       ·rw [z] at eu;exact ⟨u,eu⟩
       ·rw [z] at eu;exact Qko eu
      obtain ⟨_,t,ob,ea,_⟩:=PrvAt.at F1 ⟨this,q⟩
      rw [hl] at ea
      cases ea
    ·simp only [if_neg hz] at h1
     exact False.elim h1
theorem Q92 {elt:Expr}{w:W}{tg:Tg}{e':E}(hcalm:X.calm=true)
  (hi:QI X tgE iter (tW p w)) (hg:∀ s H fp,QG (Q0 X scope N s H fp) tgE (tG tg)) (hc:∀ s H fp,QC (Q0 X scope N s H fp) ifs (tCs p.calm cs)) (he:∀ s H fp,QE (Q0 X scope N s H fp) elt (tE p.calm e'))
  (hk:scope.kind=.function) (h1:scOk X scope=true) (h2:Qgw X scope N js=true) (hs:∀ x,foldedSetIterable iter X.env x=pure x):QE X (.ListComp elt [⟨tgE,iter,ifs,0⟩] scope pos) (tE p (.comp w js tg cs e')) :=
 (Qx7 N js hcalm hi hg hc he hk h1 h2 hs).weak fun σ H Q h=>Quw h
theorem QS.weak {e:Stmt}{t t':TS}(h:QS X e t)(q:∀ D σ H,t' D σ H→t D σ H):QS X e t':=⟨fun pins s σ H D I z=>h.h pins s σ H D I (q _ _ _ z)⟩
theorem QB.weak {e:List Stmt}{t t':TS}(h:QB X e t)(q:∀ D σ H,t' D σ H→t D σ H):QB X e t':=⟨fun pins s σ H D I z=>h.h pins s σ H D I (q _ _ _ z)⟩
def SFin (p:Pr) (B:Bs) (H:Hp) (G:Addr→Prop) (D:Ends):SO→Prop
 | .nx ρ1=>∀ σ1 H1 G1,FI B H1 G1 σ1 ρ1→Same (dls H G) (dls H1 G1)→D.nx σ1 H1
 | .bk ρ1=>∀ σ1 H1 G1,FI B H1 G1 σ1 ρ1→Same (dls H G) (dls H1 G1)→D.bk σ1 H1
 | .ct ρ1=>∀ σ1 H1 G1,FI B H1 G1 σ1 ρ1→Same (dls H G) (dls H1 G1)→D.ct σ1 H1
 | .rt r ρ1=>∀ v σ1 H1 G1,FI B H1 G1 σ1 ρ1→PVR B.H H1 G1 σ1 ρ1 v r→D.rt v H1
 | .xn x ρ1=>∀ cls dx σ1 H1 G1,FI B H1 G1 σ1 ρ1→Q9o p.mg H1 x cls dx→p.R cls dx σ1 H1
 | .no=>False
def tS (p:Pr) (s:S):TS:=fun D σ H=>∃ B G ρ,FI B H G σ ρ∧(∀ a,¬ B.O a)∧SFin p B H G D (exS p.cf s ρ)
section
variable {p:Pr} {B:Bs} {H H1:Hp} {G G1:Addr→Prop} {D:Ends} {σ:St} {ρ ρ1:En} {α:Type}
theorem SFin.late {o:SO}(h:SFin p B H G D o)(s:Same (dls H G) (dls H1 G1)):SFin p B H1 G1 D o:=by
 cases o with
 | nx ρ1=>exact fun σ1 H2 G2 F q=>h σ1 H2 G2 F (s.trans q)
 | bk ρ1=>exact fun σ1 H2 G2 F q=>h σ1 H2 G2 F (s.trans q)
 | ct ρ1=>exact fun σ1 H2 G2 F q=>h σ1 H2 G2 F (s.trans q)
 | rt r ρ1=>exact h
 | xn x ρ1=>exact h
 | no=>exact h
theorem Qfq {o:Out α}{k:α→En→SO}(h:SFin p B H G D (ofO o k)):Fin p B σ o fun a ρ1=>SFin p B H G D (k a ρ1):=by
 cases o with
 | ok a ρ1=>exact h
 | xn x ρ1=>exact fun cls dx H1 G1 F xr=>h cls dx σ H1 G1 F xr
 | no=>exact h
theorem Qdr {o:Option α}{k:α→SO}(h:SFin p B H G D (Qak o k)):∃ a,o=some a∧SFin p B H G D (k a):=by
 cases o with
 | none=>exact False.elim h
 | some a=>exact ⟨a,rfl,h⟩
theorem PVR.base {H2:Hp}{G2:Addr→Prop}{ρ2:En}{v:V}{r:PV}(h:PVR H1 H2 G2 σ ρ2 v r)(F:FI B H1 G1 σ ρ1):PVR B.H H2 G2 σ ρ2 v r:=by
 cases r with
 | fz t=>exact h
 | sl i=>exact h
 | ow t =>
  obtain ⟨a,rfl,n,g⟩:=h
  exact ⟨a,rfl,F.free n,g⟩
theorem Qe9 {K:PV→En→SO}(F:FI B H G σ ρ)(h:SFin p B H G D (ofO (evE p.cf e ρ) K))(q:∀ r ρ2 v H2 G2,SFin p B H2 G2 D (K r ρ2)→FI B H2 G2 σ ρ2→FI (Qan H G σ ρ) H2 G2 σ ρ2→PVR B.H H2 G2 σ ρ2 v r→Same (dls H G) (dls H2 G2)→Q v H2):tE p e σ H Q :=
 Qgz F (Qfq h) fun r ρ2 v H2 G2 k F2 F2' r2=>q r ρ2 v H2 G2 (k.late (F.same F2')) F2 F2' (r2.base F) (F.same F2')
theorem Qy6 {Q:Bool→Hp→Prop}{K:Bool→En→SO}(F:FI B H G σ ρ)(h:SFin p B H G D (ofO (Qab (evE p.cf e ρ)) K))(q:∀ b ρ2 H2 G2,SFin p B H2 G2 D (K b ρ2)→FI B H2 G2 σ ρ2→Same (dls H G) (dls H2 G2)→Q b H2):tT p e σ H Q :=
 Qyo F (Qfq h) fun b ρ2 H2 G2 k F2 F2'=>q b ρ2 H2 G2 (k.late (F.same F2')) F2 (F.same F2')
end
section
variable {X:Cx} {p:Pr} {e a b:Expr} {e' a' b' c':E} {st:Stmt} {sts:List Stmt} {s s1 s2:S} {pos p1 p2:Pos} {x:Str}
theorem Qes:QB X [] (tS p .nil):=Qos.weak fun D σ H ⟨B,G,ρ,F,hO,h⟩=>h σ H G F (Same.refl _)
theorem Qs9 (h:tS p (.seq s1 s2) D σ H):Qgs (tS p s1) (tS p s2) D σ H:=by
 obtain ⟨B,G,ρ,F,hO,h⟩:=h
 refine ⟨B,G,ρ,F,hO,?_⟩
 unfold exS at h
 cases e:exS p.cf s1 ρ with
 | nx ρ1=>rw [e] at h;exact fun σ1 H1 G1 F1 q=>⟨B,G1,ρ1,F1,hO,SFin.late (p:=p) (D:=D) h q⟩
 | bk ρ1=>rw [e] at h;exact h
 | ct ρ1=>rw [e] at h;exact h
 | rt r ρ1=>rw [e] at h;exact h
 | xn x ρ1=>rw [e] at h;exact h
 | no=>rw [e] at h;exact h
theorem Qs (h1:QS X st (tS p s1))(h2:QB X sts (tS p s2)):QB X (st::sts) (tS p (.seq s1 s2)):=(Qdj h1 h2).weak fun D σ H h=>Qs9 h
theorem Q8 (h1:QS X st (tS p s1)):QB X [st] (tS p s1):=Qh3 h1
theorem Qy7 {i:Nat}(h:QB X sts (tS p s)):QB X sts (tS p (.seq (.frz i) s)):=h.weak fun D σ H ⟨B,G,ρ,F,hO,h⟩=>by
 unfold exS at h
 have e:exS p.cf (.frz i) ρ=match Qa ρ i with | .ow t=>.nx (ρ.set i (.fz t)) | .ml _=>.no | .ro _=>.no | _=>.nx ρ:=by rw [exS];try (cases Qa ρ i <;> rfl)
 rw [e] at h
 cases hs:Qa ρ i with
 | un=>rw [hs] at h;exact ⟨B,G,ρ,F,hO,h⟩
 | pin _=>rw [hs] at h;exact ⟨B,G,ρ,F,hO,h⟩
 | fz t=>rw [hs] at h;exact ⟨B,G,ρ,F,hO,h⟩
 | ml t=>rw [hs] at h;exact False.elim h
 | ro t=>rw [hs] at h;exact False.elim h
 | ow t =>
  rw [hs] at h
  obtain ⟨G1,F1,s1⟩:=F.freeze hO hs
  exact ⟨B,G1,_,F1,hO,SFin.late h s1⟩
theorem Q93 (he:QE X e (tE p e'))(hs:swapsWith e none pos.line X.env=pure false):QS X (.Expr e pos) (tS p (.expr e')):=(Qdz he hs).weak fun D σ H ⟨B,G,ρ,F,hO,h⟩=>by
 unfold exS at h
 exact Qe9 F h fun r ρ2 v H2 G2 k F2 _ _ sm=>k σ H2 G2 F2 (Same.refl _)
theorem Qa0 (he:QE X e (tE p e')):QS X (.Return (some e) pos) (tS p (.ret e')):=(Quh he).weak fun D σ H ⟨B,G,ρ,F,hO,h⟩=>by
 unfold exS at h
 exact Qe9 F h fun r ρ2 v H2 G2 k F2 _ pv _=>k v σ H2 G2 F2 pv
theorem Qh4 {bs cs:List Stmt}(hc:QT X c (tT p c'))(ha:QB X bs (tS p s1))(hb:QB X cs (tS p s2)):QS X (.If c bs cs pos) (tS p (.ite c' s1 s2)):=(Qui hc ha hb).weak fun D σ H ⟨B,G,ρ,F,hO,h⟩=>by
 unfold exS at h
 refine Qy6 F h fun k ρ2 H2 G2 h2 F2 sm=>?_
 cases k with
 | true=>exact ⟨B,G2,ρ2,F2,hO,h2⟩
 | false=>exact ⟨B,G2,ρ2,F2,hO,h2⟩
theorem Q3x {i:Nat}{r:PV}{v:V}(F:FI B H G σ ρ)(pv:PVR B.H H G σ ρ v r)(h:SFin p B H G D (Qld i r ρ)):D.nx (σ.set i (some v)) H:=by
 cases r with
 | sl j=>exact False.elim h
 | fz t =>
  obtain ⟨ρ',e,k⟩:=Qdr h
  exact k _ H G (F.setS e pv.is) (Same.refl _)
 | ow t =>
  obtain ⟨ρ',e,k⟩:=Qdr h
  exact k _ H G (F.setOw rfl e pv) (Same.refl _)
theorem Qg4 {i:Nat}(h:QS X st (Qhz (tE p e') (Qc0 i))):QS X st (tS p (.set i e')):=h.weak fun D σ H ⟨B,G,ρ,F,hO,h⟩=>by
 unfold exS at h
 exact Qe9 F h fun r ρ2 v H2 G2 k F2 _ pv _=>Q3x F2 pv k
theorem Qbd {i:Nat}(h:QS X st (Qhz (tE p e') (Qc0 i))):QS X st (tS p (.setF i e')):=h.weak fun D σ H ⟨B,G,ρ,F,hO,h⟩=>by
 unfold exS at h
 refine Qe9 F h fun r ρ2 v H2 G2 k F2 _ pv _=>?_
 cases ef:frz r with
 | none=>rw [ef] at k;exact False.elim k
 | some t =>
  rw [ef] at k
  obtain ⟨ρ',e,k⟩:=Qdr k
  obtain ⟨G3,F3,i3,s3⟩:=PVR.lay pv F2 ef
  exact k _ H2 G3 (F3.setS e i3) (Qce s3)
theorem Qadi {is:List Nat}(h:QS X st (Qhz (tE p e') (tG (.tp is)))):QS X st (tS p (.unp is e')):=h.weak fun D σ H ⟨B,G,ρ,F,hO,h⟩=>by
 unfold exS at h
 refine Qe9 F h fun r ρ2 v H2 G2 k F2 _ pv _=>?_
 cases r with
 | ow t=>exact False.elim k
 | sl i=>exact False.elim k
 | fz t =>
  cases t <;> first | exact False.elim k | skip
  obtain ⟨ρ',e,k⟩:=Qdr k
  exact ⟨B,G2,ρ2,_,ρ',F2,pv.is,e,fun σ' F' _=>k σ' H2 G2 F' (Same.refl _)⟩
theorem Qadj {i j:Nat}(h:QS X st (Q2g i j (tA p (.cons a' (.cons b' .nil))))):QS X st (tS p (.par i j a' b')):=h.weak fun D σ H ⟨B,G,ρ,F,hO,h⟩=>by
 unfold exS at h
 refine ⟨G,ρ,F.self,?_⟩
 unfold evA
 have h1:=Qfq (σ:=σ) h
 cases ea:evE p.cf a' ρ with
 | no=>rw [ea] at h1;exact False.elim h1
 | xn x ρ1=>rw [ea] at h1;exact fun cls dx H1 G1 F1 xr=>h1 cls dx H1 G1 (F.trans F1) xr
 | ok ra ρ1 =>
  rw [ea] at h1
  show Fin p _ σ ((evA p.cf (.cons b' .nil) ρ1).bind fun rs ρ2=>.ok (ra::rs) ρ2) _
  unfold evA
  have h2:=Qfq (σ:=σ) (show SFin p B H G D _ from h1)
  cases eb:evE p.cf b' ρ1 with
  | no=>rw [eb] at h2;exact False.elim h2
  | xn x ρ2=>rw [eb] at h2;exact fun cls dx H1 G1 F1 xr=>h2 cls dx H1 G1 (F.trans F1) xr
  | ok rb ρ2 =>
   rw [eb] at h2
   unfold evA
   intro vs H1 G1 F1 pv
   cases pv with
   | cons pa pr =>
    cases pr with
    | cons pb pn =>
     cases pn
     rename_i v w
     refine ⟨v,w,rfl,?_⟩
     cases ra with
     | ow t=>exact False.elim h2
     | sl i=>exact False.elim h2
     | fz x =>
      cases rb with
      | ow t=>exact False.elim h2
      | sl i=>exact False.elim h2
      | fz y =>
       obtain ⟨ρ',e,k⟩:=Qdr (show SFin p B H G D (Qak (Qbi [i,j] [x,y] ρ2) .nx) from h2)
       have F2:=F.trans F1
       unfold Qbi at e
       cases e1:Qa8 i (.fz x) ρ2 with
       | none=>rw [e1] at e;cases e
       | some ρ3 =>
        rw [e1] at e
        replace e:Qbi [j] [y] ρ3=some ρ':=e
        unfold Qbi at e
        cases e2:Qa8 j (.fz y) ρ3 with
        | none=>rw [e2] at e;cases e
        | some ρ4 =>
         rw [e2] at e
         cases e
         exact k _ H1 G1 ((F2.setS e1 pa.is).setS e2 pb.is) (F.same F1)
end
section
variable {X:Cx} {p:Pr} {e a b:Expr} {e' a' b' c':E} {st:Stmt} {sts:List Stmt} {s s1 s2:S} {pos p1 p2:Pos} {x:Str} {K:Frg}
theorem FI.mutAt {i:Nat}(F:FI B H G σ ρ)(h:(Qa ρ i).mut=true):∃ a vs,σ[i]?=some (some (.ref a))∧H a=some (.lst vs):=by
 have:∃ t,(Qa ρ i).prv=some (.lst t):=by
  cases hs:Qa ρ i <;> rw [hs] at h <;> first | (cases h;done) | skip
  all_goals (rename_i t;cases t <;> first | exact ⟨_,rfl⟩ | cases h)
 obtain ⟨t,e⟩:=this
 obtain ⟨a,s,_,o⟩:=F.prvAt e
 obtain ⟨vs,_,ea,_⟩:=o.lst_inv
 exact ⟨a,vs,s,ea⟩
theorem IsL.set {D:Hp}{v:V}{t:T}(hv:Is D v t):∀ {vs:List V} {ts:List T} (n:Nat),IsL D vs ts→IsL D (vs.set n v) (ts.set n t)
 | vs,[],n,r=>by rw [r.nil_inv];exact .nil
 | vs,u::us,0,r=>by
  obtain ⟨w,ws,rfl,a,q⟩:=r.cons_inv
  exact .cons hv q
 | vs,u::us,n+1,r=>by
  obtain ⟨w,ws,rfl,a,q⟩:=r.cons_inv
  exact .cons a (IsL.set hv n q)
theorem Qlp {i:Nat}(h:QS X st (Qhq (tBM K "list" Qd9 (Qcc i) (Qb5 (tE p e') Qfw)))):QS X st (tS p (.app i e')):=h.weak fun D σ H ⟨B,G,ρ,F,hO,h⟩=>by
 unfold exS at h
 by_cases hm:(Qa ρ i).mut=true
 ·simp only [if_pos hm] at h
  obtain ⟨a,vs0,sa,ea⟩:=F.mutAt hm
  refine ⟨_,sa,.inl ⟨rfl,_,SqL.of ea⟩,?_⟩
  refine Qe9 F h fun r ρ2 v H2 G2 k F2 _ pv _=>?_
  cases ef:frz r with
  | none=>rw [ef] at k;exact False.elim k
  | some t =>
   rw [ef] at k
   obtain ⟨G3,F3,i3,s3⟩:=PVR.lay pv F2 ef
   have sl:=F3.slot i
   replace k:SFin p B H2 G2 D (match Qa ρ2 i with
    | .ow (.lst ts)=>if ts.length<100000 then .nx (ρ2.set i (.ow (.lst (ts++[t])))) else .no
    | .ml (.lst ts)=>if ts.length<100000 then .nx (ρ2.set i (.ml (.lst (ts++[t])))) else .no
    | _=>.no):=k
   have fin:∀ ts s',(Qa ρ2 i=.ow (.lst ts)∧s'=Slot.ow (.lst (ts++[t])))∨(Qa ρ2 i=.ml (.lst ts)∧s'=Slot.ml (.lst (ts++[t])))→SFin p B H2 G2 D (if ts.length<100000 then .nx (ρ2.set i s') else .no)→Qd9 (.ref a) [v] H2 fun _ H1=>D.nx σ H1:=fun ts s' hs k=>by
    have hp:(Qa ρ2 i).prv=some (.lst ts):=by rcases hs with ⟨h,_⟩ | ⟨h,_⟩ <;> rw [h] <;> rfl
    obtain ⟨a',sa',g,o1⟩:=F3.prvAt hp
    obtain ⟨vs,z,el,il⟩:=o1.lst_inv
    rw [sa] at sa'
    cases sa'
    by_cases zt:ts.length<100000
    ·rw [if_pos zt] at k
     have lz:=il.length
     obtain ⟨F4,s4⟩:=F3.change hs sa (il.append (.one i3)) (by rw [List.length_append,List.length_singleton];omega)
     exact ⟨a,vs,v,rfl,rfl,el,by rw [lz,sizeLine_eq];omega,k σ _ G3 F4 ((Qce s3).trans s4)⟩
    ·rw [if_neg zt] at k;exact False.elim k
   cases hs:Qa ρ2 i with
   | un=>rw [hs] at k;exact False.elim k
   | pin _=>rw [hs] at k;exact False.elim k
   | fz t=>rw [hs] at k;exact False.elim k
   | ro t=>rw [hs] at k;exact False.elim k
   | ow u =>
    rw [hs] at k sl
    cases u <;> first | exact False.elim k | skip
    exact fin _ _ (.inl ⟨hs,rfl⟩) k
   | ml u =>
    rw [hs] at k sl
    cases u <;> first | exact False.elim k | skip
    exact fin _ _ (.inr ⟨hs,rfl⟩) k
 ·simp only [if_neg hm] at h
  exact False.elim h
theorem Qadk {i:Nat}(h:QS X st (Qhq (tBM K "list" (Qgx K) (Qcc i) (Qb5 (tE p e') Qfw)))):QS X st (tS p (.ext i e')):=h.weak fun D σ H ⟨B,G,ρ,F,hO,h⟩=>by
 unfold exS at h
 by_cases hm:(Qa ρ i).mut=true
 ·simp only [if_pos hm] at h
  obtain ⟨a,vs0,sa,ea⟩:=F.mutAt hm
  refine ⟨_,sa,.inl ⟨rfl,_,SqL.of ea⟩,?_⟩
  refine Qe9 F h fun r ρ2 v H2 G2 k F2 _ pv _=>?_
  cases r with
  | ow t=>exact False.elim k
  | sl j=>exact False.elim k
  | fz t =>
   cases t <;> first | exact False.elim k | skip
   rename_i us
   have iv:=pv.is
   obtain ⟨b,ws,rfl,eb,rb⟩:=iv.tup_inv
   replace k:SFin p B H2 G2 D (match Qa ρ2 i with
    | .ow (.lst ts)=>if ts.length+us.length≤100000 then .nx (ρ2.set i (.ow (.lst (ts++us)))) else .no
    | .ml (.lst ts)=>if ts.length+us.length≤100000 then .nx (ρ2.set i (.ml (.lst (ts++us)))) else .no
    | _=>.no):=k
   have fin:∀ ts s',(Qa ρ2 i=.ow (.lst ts)∧s'=Slot.ow (.lst (ts++us)))∨(Qa ρ2 i=.ml (.lst ts)∧s'=Slot.ml (.lst (ts++us)))→SFin p B H2 G2 D (if ts.length+us.length≤100000 then .nx (ρ2.set i s') else .no)→Qgx K (.ref a) [.ref b] H2 fun _ H1=>D.nx σ H1:=fun ts s' hs k=>by
    have hp:(Qa ρ2 i).prv=some (.lst ts):=by rcases hs with ⟨h,_⟩ | ⟨h,_⟩ <;> rw [h] <;> rfl
    obtain ⟨a',sa',g,o1⟩:=F2.prvAt hp
    obtain ⟨vs,z,el,il⟩:=o1.lst_inv
    rw [sa] at sa'
    cases sa'
    by_cases zt:ts.length+us.length≤100000
    ·rw [if_pos zt] at k
     have lz:=il.length
     have lb:=rb.length
     obtain ⟨F4,s4⟩:=F2.change hs sa (il.append rb) (by rw [List.length_append];exact zt)
     exact ⟨a,b,vs,ws,rfl,rfl,el,SqT.of (Q5 eb).2,Qbq (by rw [lz,lb];exact zt),k σ _ G2 F4 s4⟩
    ·rw [if_neg zt] at k;exact False.elim k
   cases hs:Qa ρ2 i with
   | un=>rw [hs] at k;exact False.elim k
   | pin _=>rw [hs] at k;exact False.elim k
   | fz t=>rw [hs] at k;exact False.elim k
   | ro t=>rw [hs] at k;exact False.elim k
   | ow u =>
    rw [hs] at k
    cases u <;> first | exact False.elim k | skip
    exact fin _ _ (.inl ⟨hs,rfl⟩) k
   | ml u =>
    rw [hs] at k
    cases u <;> first | exact False.elim k | skip
    exact fin _ _ (.inr ⟨hs,rfl⟩) k
 ·simp only [if_neg hm] at h
  exact False.elim h
theorem Q6i {i:Nat}(h:QS X st (Qhz (tE p e') (Qqb (Qcc i) (tE p a') Qhr))):QS X st (tS p (.put i a' e')):=h.weak fun D σ H ⟨B,G,ρ,F,hO,h⟩=>by
 unfold exS at h
 refine Qe9 F h fun r ρ2 v H2 G2 k F2 _ pv _=>?_
 cases ef:frz r with
 | none=>rw [ef] at k;exact False.elim k
 | some t =>
  rw [ef] at k
  obtain ⟨G3,F3,i3,s3⟩:=PVR.lay pv F2 ef
  by_cases hm:(Qa ρ2 i).mut=true
  ·simp only [if_pos hm] at k
   obtain ⟨a,vs0,sa,ea⟩:=F3.mutAt hm
   refine ⟨_,sa,?_⟩
   refine Qe9 F3 (SFin.late k (Qce s3)) fun rk ρ4 w H4 G4 k4 F4 F4' pk sm=>?_
   have i4:=i3.mono sm
   cases rk with
   | ow t=>exact False.elim k4
   | sl j=>exact False.elim k4
   | fz u =>
    cases u <;> first | exact False.elim k4 | skip
    rename_i j
    obtain rfl:=pk.is.int_inv
    replace k4:SFin p B H4 G4 D (match Qa ρ4 i with
     | .ow (.lst ts)=>Qak (ixN ts.length j) fun n=>.nx (ρ4.set i (.ow (.lst (ts.set n t))))
     | .ml (.lst ts)=>Qak (ixN ts.length j) fun n=>.nx (ρ4.set i (.ml (.lst (ts.set n t))))
     | _=>.no):=k4
    have fin:∀ ts (s':Nat→Slot),(∀ n,(Qa ρ4 i=.ow (.lst ts)∧s' n=Slot.ow (.lst (ts.set n t)))∨(Qa ρ4 i=.ml (.lst ts)∧s' n=Slot.ml (.lst (ts.set n t))))→SFin p B H4 G4 D (Qak (ixN ts.length j) fun n=>.nx (ρ4.set i (s' n)))→Qhr (.ref a) (.int j) v H4 fun H1=>D.nx σ H1:=fun ts s' hs k=>by
     have hp:(Qa ρ4 i).prv=some (.lst ts):=by rcases hs 0 with ⟨h,_⟩ | ⟨h,_⟩ <;> rw [h] <;> rfl
     obtain ⟨a',sa',g,o1⟩:=F4.prvAt hp
     obtain ⟨vs,z,el,il⟩:=o1.lst_inv
     rw [sa] at sa'
     cases sa'
     obtain ⟨n,en,k⟩:=Qdr k
     have lz:=il.length
     obtain ⟨F5,s5⟩:=F4.change (hs n) sa (il.set i4 n) (by rw [List.length_set];exact z)
     exact ⟨a,vs,j,n,rfl,rfl,el,by rw [lz];exact en,k σ _ G4 F5 s5⟩
    cases hs:Qa ρ4 i with
    | un=>rw [hs] at k4;exact False.elim k4
    | pin _=>rw [hs] at k4;exact False.elim k4
    | fz t=>rw [hs] at k4;exact False.elim k4
    | ro t=>rw [hs] at k4;exact False.elim k4
    | ow u =>
     rw [hs] at k4
     cases u <;> first | exact False.elim k4 | skip
     exact fin _ _ (fun n=>.inl ⟨hs,rfl⟩) k4
    | ml u =>
     rw [hs] at k4
     cases u <;> first | exact False.elim k4 | skip
     exact fin _ _ (fun n=>.inr ⟨hs,rfl⟩) k4
  ·simp only [if_neg hm] at k
   exact False.elim k
theorem Qnw {o:SO}(h:SFin p B H G D (Qno o)):SFin p.calm B H G D o:=by
 cases o with
 | xn x ρ1=>exact False.elim h
 | nx ρ1=>exact h
 | bk ρ1=>exact h
 | ct ρ1=>exact h
 | rt r ρ1=>exact h
 | no=>exact h
theorem s_whl (hc:QT X.nox c (tT p.calm c'))(hb:QB X.nox body (tS p.calm s)):QS X (.While c body [] pos) (tS p (.whl c' s)) :=
 (Q3b (Q28 PassesOwn.never hc hb)).weak fun D σ H ⟨B,G,ρ,F,hO,h⟩=>by
  unfold exS at h
  have h:=Qnw h
  refine ⟨fun m σ2 H2=>∃ G2 ρ2,FI B H2 G2 σ2 ρ2∧SFin p.calm B H2 G2 D (Qqr (fun ρ=>Qab (evE p.cf c' ρ)) (exS p.cf s) m ρ2),⟨1000000,G,ρ,F,h⟩,?_⟩
  rintro m σ2 H2 ⟨G2,ρ2,F2,h2⟩
  cases m with
  | zero=>exact False.elim h2
  | succ m =>
   unfold Qqr at h2
   refine Qy6 (p:=p.calm) F2 h2 fun k ρ3 H3 G3 h3 F3 sm=>?_
   cases k with
   | false=>exact h3 σ2 H3 G3 F3 (Same.refl _)
   | true =>
    refine ⟨fun σ' H'=>∃ G' ρ',FI B H' G' σ' ρ'∧SFin p.calm B H' G' D (Qqr (fun ρ=>Qab (evE p.cf c' ρ)) (exS p.cf s) m ρ'),fun σ' H' q=>⟨m,Nat.lt_succ_self m,q⟩,B,G3,ρ3,F3,hO,?_⟩
    replace h3:SFin p.calm B H3 G3 D (match exS p.cf s ρ3 with
     | .nx ρ2=>Qqr (fun ρ=>Qab (evE p.cf c' ρ)) (exS p.cf s) m ρ2
     | .ct ρ2=>Qqr (fun ρ=>Qab (evE p.cf c' ρ)) (exS p.cf s) m ρ2
     | .bk ρ2=>.nx ρ2
     | o=>o):=h3
    show SFin p.calm B H3 G3 _ (exS p.cf s ρ3)
    cases eb:exS p.cf s ρ3 with
    | nx ρ4=>rw [eb] at h3;exact fun σ4 H4 G4 F4 s4=>⟨G4,ρ4,F4,SFin.late h3 s4⟩
    | ct ρ4=>rw [eb] at h3;exact fun σ4 H4 G4 F4 s4=>⟨G4,ρ4,F4,SFin.late h3 s4⟩
    | bk ρ4=>rw [eb] at h3;exact h3
    | rt r ρ4=>rw [eb] at h3;exact h3
    | xn x ρ4=>rw [eb] at h3;exact h3
    | no=>rw [eb] at h3;exact h3
theorem Qadl {w:W}{tg:Tg}(hc:X.calm=true)(hi:QI X.nox tgE iter (tW p.calm w))(hg:QG X.nox tgE (tG tg))(hb:QB X.nox body (tS p.calm s))(hs:∀ x,foldedSetIterable iter X.env x=pure x):QS X (.For tgE iter body [] pos) (tS p (.for_ w tg s)) :=
 (Q3b (Quj PassesOwn.never hc hi hg hb hs)).weak fun D σ H ⟨B,G,ρ,F,hO,h⟩=>by
  unfold exS at h
  have h:=Qnw h
  refine ⟨G,ρ,F.self,(Qfq (σ:=σ) h).rebase F fun its ρ1 h1=>?_⟩
  obtain ⟨ts,lk⟩:=its
  cases lk with
  | some _=>exact False.elim h1
  | none =>
   refine ⟨rfl,fun J H1 G1 Ok F1 wk stab=>?_⟩
   replace wk:WkR J H1 G1 Ok ts:=wk
   have F1':=F.trans F1
   have s1:=F.same F1
   refine ⟨fun i m σ2 H2=>i+m=ts.length∧∃ G2 ρ2,FI B H2 G2 σ2 ρ2∧Same (dls H1 G1) (dls H2 G2)∧SFin p.calm B H2 G2 D (Qcp tg (exS p.cf s) (ts.drop i) ρ2),⟨ts.length,Nat.zero_add _,G1,ρ1,F1',Same.refl _,SFin.late h1 s1⟩,?_⟩
   rintro i m σ2 H2 ⟨him,G2,ρ2,F2,s2,h2⟩
   have ok2:=stab H2 G2 s2
   by_cases hlt:i<ts.length
   ·refine .inr ⟨wk.go i H2 hlt ok2,fun σ' H'=>∃ G' ρ',FI B H' G' σ' ρ'∧Same (dls H1 G1) (dls H' G')∧SFin p.calm B H' G' D (Qcp tg (exS p.cf s) (ts.drop (i+1)) ρ'),fun σ' H' q=>⟨m-1,by omega,by omega,q⟩,fun x H3 y=>?_⟩
    obtain ⟨s3,t,et,ix⟩:=wk.yld i H2 x H3 hlt ok2 y
    have F3:=F2.grow s3
    have ix3:=ix G2 F2.prv s2
    rw [List.drop_eq_getElem_cons hlt] at h2
    have et':ts[i]=t:=by rw [List.getElem?_eq_getElem hlt] at et;exact Option.some.inj et
    rw [et'] at h2
    unfold Qcp at h2
    cases est:Qdp tg t ρ2 with
    | none=>rw [est] at h2;exact False.elim h2
    | some ρ4 =>
     rw [est] at h2
     refine ⟨B,G2,ρ2,t,ρ4,F3,ix3,est,fun σ4 F4 _=>⟨B,G2,ρ4,F4,hO,?_⟩⟩
     replace h2:SFin p.calm B H2 G2 D (match exS p.cf s ρ4 with
      | .nx ρ2=>Qcp tg (exS p.cf s) (ts.drop (i+1)) ρ2
      | .ct ρ2=>Qcp tg (exS p.cf s) (ts.drop (i+1)) ρ2
      | .bk ρ2=>.nx ρ2
      | o=>o):=h2
     have s23:Same (dls H2 G2) (dls H3 G2):=Qbh s3
     have h2:=SFin.late h2 s23
     have s13:=s2.trans s23
     show SFin p.calm B H3 G2 _ (exS p.cf s ρ4)
     cases eb:exS p.cf s ρ4 with
     | nx ρ5=>rw [eb] at h2;exact fun σ5 H5 G5 F5 s5=>⟨G5,ρ5,F5,s13.trans s5,SFin.late h2 s5⟩
     | ct ρ5=>rw [eb] at h2;exact fun σ5 H5 G5 F5 s5=>⟨G5,ρ5,F5,s13.trans s5,SFin.late h2 s5⟩
     | bk ρ5=>rw [eb] at h2;exact h2
     | rt r ρ5=>rw [eb] at h2;exact h2
     | xn x ρ5=>rw [eb] at h2;exact h2
     | no=>rw [eb] at h2;exact h2
   ·have e0:ts.drop i=[]:=List.drop_of_length_le (by omega)
    rw [e0] at h2
    exact .inl ⟨wk.stop i H2 (by omega) ok2,h2 σ2 H2 G2 F2 (Same.refl _)⟩
end
theorem FI.lock {i:Nat}{l:Addr}{t:T}(F:FI B H G σ ρ)(hs:Qa ρ i=.ow t)(sl:σ[i]?=some (some (.ref l))):FI ⟨B.H,B.G,B.O,B.M,fun j a=>(j≠i∧B.P j a)∨(j=i∧a=l)⟩ H G σ (ρ.set i (.ro t)):=by
 have at1:∀ j,(j=i∧Qa (ρ.set i (.ro t)) j=.ro t)∨(Qa (ρ.set i (.ro t)) j=Qa ρ j∧(j=i→False)):=fun j=>by
  rw [Qg]
  by_cases e:j=i
  ·subst e
   have hl:j<ρ.length:=by
    rcases Nat.lt_or_ge j ρ.length with h | h
    ·exact h
    ·unfold Qa at hs;rw [List.getElem?_eq_none h] at hs;cases hs
   exact .inl ⟨rfl,by rw [if_pos ⟨rfl,hl⟩]⟩
  ·exact .inr ⟨by rw [if_neg (fun h=>e h.1)],e⟩
 have old:∀ j a,PrvAt σ (ρ.set i (.ro t)) j a→PrvAt σ ρ j a:=fun j a h=>by
  obtain ⟨⟨u,e⟩,q⟩:=h
  rcases at1 j with ⟨rfl,ej⟩ | ⟨ej,_⟩
  ·exact ⟨⟨t,by rw [hs];rfl⟩,q⟩
  ·rw [ej] at e;exact ⟨⟨u,e⟩,q⟩
 refine ⟨by rw [List.length_set];exact F.len,fun j=>?_,fun j k a h1 h2=>F.apart j k a (old j a h1) (old k a h2),F.prv,F.chg,F.keep,fun a h=>?_,fun a h=>?_,fun j a h=>?_,F.gg,F.gn,F.bp⟩
 ·rcases at1 j with ⟨rfl,ej⟩ | ⟨ej,_⟩
  ·rw [ej]
   have q:=F.slot j
   rw [hs] at q
   exact q
  ·rw [ej];exact F.slot j
 ·obtain ⟨j,u,e,q⟩:=h
  rcases at1 j with ⟨rfl,ej⟩ | ⟨ej,_⟩
  ·rw [ej] at e;cases e
  ·rw [ej] at e;exact F.newO a ⟨j,u,e,q⟩
 ·obtain ⟨j,u,e,q⟩:=h
  rcases at1 j with ⟨rfl,ej⟩ | ⟨ej,_⟩
  ·rw [ej] at e;cases e
  ·rw [ej] at e;exact F.newM a ⟨j,u,e,q⟩
 ·obtain ⟨⟨u,e⟩,q⟩:=h
  rcases at1 j with ⟨rfl,ej⟩ | ⟨ej,ne⟩
  ·rw [sl] at q;cases q;exact .inr ⟨rfl,rfl⟩
  ·rw [ej] at e;exact .inl ⟨ne,F.fix j a ⟨⟨u,e⟩,q⟩⟩
theorem FI.unlock {i:Nat}{l:Addr}{t:T}(F:FI ⟨B.H,B.G,B.O,B.M,fun j a=>(j≠i∧B.P j a)∨(j=i∧a=l)⟩ H G σ ρ)(hs:Qa ρ i=.ro t)(hb:B.H l=none∨B.O l):FI B H G σ (ρ.set i (.ow t)):=by
 have at1:∀ j,(j=i∧Qa (ρ.set i (.ow t)) j=.ow t)∨(Qa (ρ.set i (.ow t)) j=Qa ρ j∧(j=i→False)):=fun j=>by
  rw [Qg]
  by_cases e:j=i
  ·subst e
   have hl:j<ρ.length:=by
    rcases Nat.lt_or_ge j ρ.length with h | h
    ·exact h
    ·unfold Qa at hs;rw [List.getElem?_eq_none h] at hs;cases hs
   exact .inl ⟨rfl,by rw [if_pos ⟨rfl,hl⟩]⟩
  ·exact .inr ⟨by rw [if_neg (fun h=>e h.1)],e⟩
 have old:∀ j a,PrvAt σ (ρ.set i (.ow t)) j a→PrvAt σ ρ j a:=fun j a h=>by
  obtain ⟨⟨u,e⟩,q⟩:=h
  rcases at1 j with ⟨rfl,ej⟩ | ⟨ej,_⟩
  ·exact ⟨⟨t,by rw [hs];rfl⟩,q⟩
  ·rw [ej] at e;exact ⟨⟨u,e⟩,q⟩
 refine ⟨by rw [List.length_set];exact F.len,fun j=>?_,fun j k a h1 h2=>F.apart j k a (old j a h1) (old k a h2),F.prv,F.chg,F.keep,fun a h=>?_,fun a h=>?_,fun j a h=>?_,F.gg,F.gn,F.bp⟩
 ·rcases at1 j with ⟨rfl,ej⟩ | ⟨ej,_⟩
  ·rw [ej]
   have q:=F.slot j
   rw [hs] at q
   exact q
  ·rw [ej];exact F.slot j
 ·obtain ⟨j,u,e,q⟩:=h
  rcases at1 j with ⟨rfl,ej⟩ | ⟨ej,_⟩
  ·rcases F.fix j a ⟨⟨t,.inr hs⟩,q⟩ with ⟨n,_⟩ | ⟨_,rfl⟩
   ·exact (n rfl).elim
   ·exact hb
  ·rw [ej] at e;exact F.newO a ⟨j,u,e,q⟩
 ·obtain ⟨j,u,e,q⟩:=h
  rcases at1 j with ⟨rfl,ej⟩ | ⟨ej,_⟩
  ·rw [ej] at e;cases e
  ·rw [ej] at e;exact F.newM a ⟨j,u,e,q⟩
 ·obtain ⟨⟨u,e⟩,q⟩:=h
  rcases at1 j with ⟨rfl,ej⟩ | ⟨ej,ne⟩
  ·rw [ej] at e;rcases e with e | e <;> cases e
  ·rw [ej] at e
   rcases F.fix j a ⟨⟨u,e⟩,q⟩ with ⟨_,h⟩ | ⟨h,_⟩
   ·exact h
   ·exact (ne h).elim
section
variable {X:Cx} {p:Pr} {s:S} {pos:Pos} {K:Frg}
end
def Qta:Arg→Slot
 | .fz t=>.fz t
 | .ml t=>.ml t
 | .ro t=>.ro t
theorem Qnx (fn:Fn)(as:List Arg):Qfh fn as=as.map Qta++List.replicate (fn.sz-fn.ps) .un:=by
 unfold Qfh
 congr 1
theorem Qed (fn:Fn)(as:List Arg)(i:Nat):Qa (Qfh fn as) i=match as[i]? with
  | some a=>Qta a
  | none=>.un:=by
 rw [Qnx]
 unfold Qa
 rcases Nat.lt_or_ge i as.length with h | h
 ·rw [List.getElem?_append_left (by rw [List.length_map];exact h),List.getElem?_map,List.getElem?_eq_getElem h]
  rfl
 ·rw [List.getElem?_append_right (by rw [List.length_map];exact h),List.getElem?_eq_none_iff.mpr h,List.getElem?_replicate]
  split <;> rename_i e
  ·split at e
   ·cases e;rfl
   ·cases e
  ·rfl
theorem Qny {vs:List V}{i:Nat}{v:V}(h:vs[i]?=some v):(Qb6 N vs)[i]?=some (some v):=by
 unfold Qb6
 have hi:i<vs.length:=(List.getElem?_eq_some_iff.mp h).1
 rw [List.getElem?_append_left (by rw [List.length_map];exact hi),List.getElem?_map,h]
 rfl
theorem Qnz {vs:List V}{i:Nat}{v:V}(h:(Qb6 N vs)[i]?=some (some v)):vs[i]?=some v:=by
 unfold Qb6 at h
 rcases Nat.lt_or_ge i vs.length with hi | hi
 ·rw [List.getElem?_append_left (by rw [List.length_map];exact hi),List.getElem?_map] at h
  cases e:vs[i]? with
  | none=>rw [e] at h;cases h
  | some w=>rw [e] at h;cases h;rfl
 ·rw [List.getElem?_append_right (by rw [List.length_map];exact hi),List.getElem?_replicate] at h
  split at h <;> cases h
abbrev Qy8 (H:Hp) (G:Addr→Prop) (vs:List V) (as:List Arg):Bs:=⟨H,G,fun _=>False,Qnt vs as,fun i a=>(∃ x,as[i]?=some x∧x.prv=true)∧vs[i]?=some (.ref a)⟩
section
variable {H H1:Hp} {G G1:Addr→Prop} {vs:List V} {as:List Arg} {fn:Fn} {N:List Str} {σ1:St} {ρ1:En} {fin:List T} {mg:Str→Option Value}
theorem Qtb {x:Arg}{t:T}(h:(Qta x).prv=some t):x.prv=true:=by
 cases x <;> first | rfl | cases h
theorem Qy9 (A:ArgsR H G vs as)(pn:Pen H G)(h1:vs.length≤N.length)(h2:fn.ps=as.length)(h3:fn.sz=N.length):FI (Qy8 H G vs as) H G (Qb6 N vs) (Qfh fn as):=by
 have pv:∀ i a,PrvAt (Qb6 N vs) (Qfh fn as) i a→(∃ x,as[i]?=some x∧x.prv=true)∧vs[i]?=some (.ref a):=fun i a h=>by
  obtain ⟨⟨t,e⟩,q⟩:=h
  rw [Qed] at e
  cases hx:as[i]? with
  | none=>rw [hx] at e;cases e
  | some x=>rw [hx] at e;exact ⟨⟨x,rfl,Qtb e⟩,Qnz q⟩
 refine ⟨?_,fun i=>?_,fun i j a h1 h2=>?_,pn,fun _ _ _ _ e=>e,fun _ o e=>⟨o,e⟩,fun a h=>?_,fun a h=>?_,fun i a h=>?_,fun _ h=>h,fun _ h=>.inl h,fun b h=>let ⟨xs,e,_⟩:=pn b h;⟨_,e⟩⟩
 ·rw [Qnx]
  unfold Qb6
  have:=A.len
  simp only [List.length_append,List.length_map,List.length_replicate]
  omega
 ·rw [Qed]
  cases hx:as[i]? with
  | none=>trivial
  | some x =>
   have hi:i<vs.length:=by rw [A.len];exact (List.getElem?_eq_some_iff.mp hx).1
   have ev:vs[i]?=some vs[i]:=List.getElem?_eq_getElem hi
   have q:=A.get i _ x ev hx
   have s:=Qny (N:=N) ev
   cases x with
   | fz t=>exact ⟨_,s,q⟩
   | ml t=>obtain ⟨a,e,g,o⟩:=q;rw [e] at s;exact ⟨a,s,g,o⟩
   | ro t=>obtain ⟨a,e,g,o⟩:=q;rw [e] at s;exact ⟨a,s,g,o⟩
 ·obtain ⟨⟨x,ex,px⟩,vx⟩:=pv i a h1
  obtain ⟨⟨y,ey,py⟩,vy⟩:=pv j a h2
  exact A.apart i j a x y ex ey px py vx vy
 ·obtain ⟨i,t,e,q⟩:=h
  rw [Qed] at e
  cases hx:as[i]? with
  | none=>rw [hx] at e;cases e
  | some x=>rw [hx] at e;cases x <;> cases e
 ·obtain ⟨i,t,e,q⟩:=h
  rw [Qed] at e
  cases hx:as[i]? with
  | none=>rw [hx] at e;cases e
  | some x =>
   rw [hx] at e
   cases x <;> cases e
   exact ⟨i,_,hx,Qnz q⟩
 ·obtain ⟨⟨t,e⟩,q⟩:=h
  refine pv i a ⟨⟨t,?_⟩,q⟩
  rcases e with e | e <;> rw [e] <;> rfl
theorem Qhi:∀ {as:List Arg} {ρ:En} {fin:List T},Qae as ρ=some fin→∀ (i:Nat) (t:T),as[i]?=some (.ml t)→∃ t',Qa ρ i=.ml t'∧fin[i]?=some t'
 | [],_,_,_,i,t,h=>by simp at h
 | .ml u::as,[],fin,e,_,_,_=>by cases e
 | .fz u::as,[],fin,e,_,_,_=>by cases e
 | .ro u::as,[],fin,e,_,_,_=>by cases e
 | .ml u::as,s::ρ,fin,e,i,t,h=>by
  cases s <;> first | (cases e;done) | skip
  rename_i w
  replace e:(Qae as ρ).map (w :: ·)=some fin:=e
  cases e2:Qae as ρ with
  | none=>rw [e2] at e;cases e
  | some f2 =>
   rw [e2] at e
   cases e
   cases i with
   | zero=>exact ⟨w,rfl,rfl⟩
   | succ i=>rw [List.getElem?_cons_succ] at h ⊢;rw [Qc];exact Qhi e2 i t h
 | .fz u::as,s::ρ,fin,e,i,t,h=>by
  replace e:(Qae as ρ).map (T.non :: ·)=some fin:=e
  cases e2:Qae as ρ with
  | none=>rw [e2] at e;cases e
  | some f2 =>
   rw [e2] at e
   cases e
   cases i with
   | zero=>simp at h
   | succ i=>rw [List.getElem?_cons_succ] at h ⊢;rw [Qc];exact Qhi e2 i t h
 | .ro u::as,s::ρ,fin,e,i,t,h=>by
  replace e:(Qae as ρ).map (T.non :: ·)=some fin:=e
  cases e2:Qae as ρ with
  | none=>rw [e2] at e;cases e
  | some f2 =>
   rw [e2] at e
   cases e
   cases i with
   | zero=>simp at h
   | succ i=>rw [List.getElem?_cons_succ] at h ⊢;rw [Qc];exact Qhi e2 i t h
theorem Qlq (F:FI (Qy8 H G vs as) H1 G1 σ1 ρ1)(e:Qae as ρ1=some fin):CallP H G vs as H1 G1 fin where
 prv:=F.prv
 chg:=fun b o h e=>F.chg b o (fun z=>z) h e
 keep:=F.keep
 gg:=F.gg
 gn:=F.gn
 fin:=fun i t a h1 h2=>by
  obtain ⟨t',e1,e2⟩:=Qhi e i t h1
  have q:=F.slot i
  rw [e1] at q
  obtain ⟨a',q1,_,q3⟩:=q
  have q4:=(F.fix i a' ⟨⟨t',.inl e1⟩,q1⟩).2
  rw [h2] at q4
  cases q4
  exact ⟨t',e2,q3⟩
theorem Q3y {v:V}{r r':PV}(F:FI (Qy8 H G vs as) H1 G1 σ1 ρ1)(pv:PVR H H1 G1 σ1 ρ1 v r)(e:Qbc ρ1 r=some r'):RetR H H1 G1 v r':=by
 cases r with
 | fz t=>cases e;exact pv
 | ow t =>
  cases e
  obtain ⟨a,rfl,n,g,_,o⟩:=pv
  exact ⟨a,rfl,n,g,o⟩
 | sl i =>
  have e:(match Qa ρ1 i with | .ow t=>some (PV.ow t) | _=>none)=some r':=e
  have q:=F.slot i
  cases hs:Qa ρ1 i with
  | un=>rw [hs] at e;cases e
  | pin _=>rw [hs] at e;cases e
  | fz t=>rw [hs] at e;cases e
  | ml t=>rw [hs] at e;cases e
  | ro t=>rw [hs] at e;cases e
  | ow t =>
   rw [hs] at e q
   cases e
   obtain ⟨a,q1,g,o⟩:=q
   have pv:σ1[i]?=some (some v):=pv
   rw [q1] at pv
   cases pv
   refine ⟨a,rfl,?_,g,o⟩
   rcases F.newO a ⟨i,t,hs,q1⟩ with z | z
   ·exact z
   ·exact z.elim
theorem Q94 {cf:CF}{E:XK}(A:ArgsR H G vs as)(pn:Pen H G)(h1:vs.length≤N.length)(h3:fn.sz=N.length)(h:FROk mg H G vs as (Qcq cf fn as) Q E):tS ⟨cf,fun cls dx _ H=>E cls dx H,mg⟩ fn.body { nx:=fun _ H'=>Q .non H',rt:=Q } (Qb6 N vs) H:=by
 unfold Qcq at h
 by_cases h2:as.length=fn.ps
 ·rw [if_pos h2] at h
  refine ⟨_,G,_,Qy9 A pn h1 h2.symm h3,fun _ z=>z,?_⟩
  show SFin _ _ _ _ _ (exS cf fn.body (Qfh fn as))
  cases e:exS cf fn.body (Qfh fn as) with
  | no=>rw [e] at h;exact False.elim h
  | bk ρ=>rw [e] at h;exact False.elim h
  | ct ρ=>rw [e] at h;exact False.elim h
  | nx ρ =>
   rw [e] at h
   intro σ1 H1 G1 F _
   cases ef:Qae as ρ with
   | none=>simp only [ef] at h;exact False.elim h
   | some fin=>simp only [ef] at h;exact h .non H1 G1 (Qlq F ef) (show Is (dls H1 G1) .non .non from Is.non)
  | rt r ρ =>
   rw [e] at h
   intro v σ1 H1 G1 F pv
   cases er:Qbc ρ r with
   | none=>simp only [er] at h;exact False.elim h
   | some r' =>
    cases ef:Qae as ρ with
    | none=>simp only [er,ef] at h;exact False.elim h
    | some fin=>simp only [er,ef] at h;exact h v H1 G1 (Qlq F ef) (Q3y F pv er)
  | xn x ρ =>
   rw [e] at h
   intro cls dx σ1 H1 G1 F xr
   cases ef:Qae as ρ with
   | none=>simp only [ef] at h;exact False.elim h
   | some fin=>simp only [ef] at h;exact h cls dx H1 G1 (Qlq F ef) xr
 ·rw [if_neg h2] at h
  exact False.elim h
end
theorem Qt:Qii X (fun _ _ _ _=>False):=fun pins σ H s e s' I h=>by
 obtain ⟨a,cls,dx,H',_,_,_,_,_,_,z⟩:=h
 exact z.elim
structure Df where
 x:Str
 st:Stmt
 N:List Str
 ps:List Str
 fn:Fn
 fc:Str→Bool:=fun _=>true
abbrev Qip (ds:List Df):Nat→Option Fn:=fun f=>match ds[f]? with
 | some d=>some d.fn
 | none=>none
structure DfOk (K:Frg) (mg:Str→Option Value) (d:Df):Prop where
 dfn:Dfn K mg d.x d.st
 sc:FnScope d.N d.ps (Qi d.st)
 bd:Qam d.x d.st d.ps
 ps:d.fn.ps=d.ps.length
 sz:d.fn.sz=d.N.length
def Qtc (P:Program) (w:World) (K:Frg) (mg:Str→Option Value) (base:Heap) (ds:List Df) (cf:CF) (n:Nat):Prop:=∀ (f:Nat) (d:Df),ds[f]?=some d→Qs0 P w K mg base d.x d.ps n (spF cf mg f)
def Qax (P:Program) (w:World) (K:Frg) (mg:Str→Option Value) (base:Heap) (ds:List Df) (d:Df):Prop :=
 ∀ (cf:CF) (n:Nat) (R:XR) (f:Addr) (cdv:Value) (A:Around) (outer:List Env) (s:Shared) (H:Hp) (E:XK),Qtc P w K mg base ds cf n→Qsz K mg d.x cdv→Qii (Qhm d.fc (CXE P w) P w K mg base d.N d.x (Qi d.st) f cdv A outer s H E) R →
  Room n (A.deeper (envOfC d.x (Qi d.st) s.heap.objs.size f cdv))→QB (Qhm d.fc (CXE P w) P w K mg base d.N d.x (Qi d.st) f cdv A outer s H E) (Qbk d.st) (tS ⟨cf,R,mg⟩ d.fn.body)
section
variable {P:Program} {w:World} {K:Frg} {mg:Str→Option Value} {base:Heap} {ds:List Df}
theorem Qux {cf:CF}{f:Nat}{vs:List V}{E:XK}{d:Df}(h:spF (evF (Qip ds) 0) mg f vs H Q E):False:=by
 obtain ⟨G,as,_,_,z⟩:=h
 exact z
theorem Qn0 (ok:∀ (f:Nat) (d:Df),ds[f]?=some d→DfOk K mg d∧Qax P w K mg base ds d):∀ n,Qtc P w K mg base ds (evF (Qip ds) n) n
 | 0,f,d,e=>by
  obtain ⟨g,fd,F,m⟩:=(ok f d e).1.dfn.ex
  exact ⟨g,fd,F.kp,m,F.binds (ok f d e).1.bd,⟨fun vs H Q E h=>(Qux (d:=d) (cf:=fun _ _=>.no) h).elim,fun A outer s H args us vs Q E _ _ _ _ h=>(Qux (d:=d) (cf:=fun _ _=>.no) h).elim⟩⟩
 | n+1,f,d,e=>by
  obtain ⟨o,b⟩:=ok f d e
  have ih:=Qn0 ok n
  have hcf:∀ as,evF (Qip ds) (n+1) f as=Qcq (evF (Qip ds) n) d.fn as:=fun as=>by
   show (match Qip ds f with | some fn=>Qcq (evF (Qip ds) n) fn as | none=>.no)=_
   unfold Qip
   rw [e]
  refine Q9f (g:=d.fc) o.dfn o.sc o.bd (fun vs H Q E h=>?_) (fun X g cdv A outer s H vs Q E _ hcd pz hr h=>?_)
  ·obtain ⟨G,as,a,_,z⟩:=h
   rw [hcf] at z
   unfold Qcq at z
   by_cases h2:as.length=d.fn.ps
   ·rw [a.len,h2,o.ps]
   ·rw [if_neg h2] at z;exact z.elim
  ·obtain ⟨G,as,a,pn,z⟩:=h
   refine ⟨_,b (evF (Qip ds) n) n _ g cdv A outer s H E ih hcd pz hr,?_⟩
   rw [hcf] at z
   have hl:as.length=d.fn.ps:=by
    unfold Qcq at z
    by_cases h2:as.length=d.fn.ps
    ·exact h2
    ·rw [if_neg h2] at z;exact z.elim
   have hN:d.ps.length≤d.N.length:=by
    have:=congrArg List.length o.sc.pre
    rw [List.length_take] at this
    omega
   exact Q94 a pn (by rw [a.len,hl,o.ps];exact hN) o.sz z
end
section
variable {X:Cx} {p:Pr} {e a b c:Expr} {es rest:List Expr} {e' a' b' c':E} {es':Es} {pos p1 p2 p3:Pos} {x:Str} {st:Stmt} {s:S} {K:Frg}
theorem Q6j:QS X st (tS p .bad):=Q3a.weak fun D σ H ⟨B,G,ρ,F,hO,h⟩=>False.elim h
theorem Qe (i:Nat)(hN:X.N[i]?=some x:=by rfl)(hv:Vis X.env.scope x:=by first | exact Or.inl rfl | exact Or.inr (Or.inl rfl) | exact Or.inr (Or.inr rfl))(hd:(x==("__debug__" : Str))=false:=by decide)
  (hcd:(x==("__classdict__" : Str))=false:=by decide):QE X (.Name x pos) (tE p (.var i)):=Qac4 hN hv hd hcd
theorem Qza {i:Int}(h:∃ u,X.mg x=some u∧RelV (.int i) u)(hg:Gl X x:=by rfl)(hd:(x==("__debug__" : Str))=false:=by decide):QE X (.Name x pos) (tE p (.int i)):=Q9p h hg hd
theorem Qd (ha:QE X e (tE p e'))(hr:QA X es (tA p es'))(hs:Qu e=true:=by rfl):QA X (e::es) (tA p (.cons e' es')):=Q9q ha hr hs
theorem Qdd (hK:X.K=K)(ha:QE X a (tE p a'))(hb:QE X b (tE p b')):QE X (.BinOp a .Add b pos) (tE p (.bin .add a' b')):=Qnp (Q5z K hK) (Q3g K) ha hb
theorem Qq0 (ha:QE X a (tE p a'))(hb:QE X b (tE p b')):QE X (.BinOp a .Sub b pos) (tE p (.bin .sub a' b')):=Qnp Qacf Q3h ha hb
theorem Qn1 (ha:QE X a (tE p a'))(hb:QE X b (tE p b')):QE X (.BinOp a .Mult b pos) (tE p (.bin .mul a' b')):=Qnp Q9r Q3j ha hb
theorem Qadm (ha:QE X a (tE p a'))(hb:QE X b (tE p b')):QE X (.BinOp a .FloorDiv b pos) (tE p (.bin .fdv a' b')):=Qnp Q9s Q3k ha hb
theorem Qq1 (ha:QE X a (tE p a'))(hb:QE X b (tE p b')):QE X (.BinOp a .Mod b pos) (tE p (.bin .mod a' b')):=Qnp Q9t Q3l ha hb
theorem Q6k (ha:QE X a (tE p a'))(hb:QE X b (tE p b')):QE X (.BinOp a .Pow b pos) (tE p (.bin .pow a' b')):=Qnp Qacg Q3m ha hb
theorem Qo4 (h1:op≠.In)(h2:op≠.NotIn):behindInMarks op b=false:=by
 unfold behindInMarks
 cases b <;> try rfl
 cases op <;> simp_all
theorem g_eq (hu:X.A.units+64<cLine)(ha:QE X a (tE p a'))(hb:QE X b (tE p b')):QE X (.Compare a [.Eq] [b] pos) (tE p (.cmp .eq a' b')):=Qqt (Q6d hu) Qyt ha hb (Qo4 (by decide) (by decide))
theorem g_ne (hu:X.A.units+64<cLine)(ha:QE X a (tE p a'))(hb:QE X b (tE p b')):QE X (.Compare a [.NotEq] [b] pos) (tE p (.cmp .ne a' b')):=Qqt (Q6e hu) Qyu ha hb (Qo4 (by decide) (by decide))
theorem Q3z (ha:QE X a (tE p a'))(hb:QE X b (tE p b')):QE X (.Compare a [.Lt] [b] pos) (tE p (.cmp .lt a' b')):=Qqt Q85 Qyv ha hb (Qo4 (by decide) (by decide))
theorem g_ge (ha:QE X a (tE p a'))(hb:QE X b (tE p b')):QE X (.Compare a [.GtE] [b] pos) (tE p (.cmp .ge a' b')):=Qqt o_ge Q9v ha hb (Qo4 (by decide) (by decide))
theorem Q30 (hu:X.A.units+64<cLine)(ha:QE X a (tE p a'))(hb:QE X b (tE p b')):QT X (.Compare a [.Eq] [b] pos) (tT p (.cmp .eq a' b')):=Qqu (Q6d hu) Qyt ha hb (Qo4 (by decide) (by decide))
theorem Qzb (hu:X.A.units+64<cLine)(ha:QE X a (tE p a'))(hb:QE X b (tE p b')):QT X (.Compare a [.NotEq] [b] pos) (tT p (.cmp .ne a' b')):=Qqu (Q6e hu) Qyu ha hb (Qo4 (by decide) (by decide))
theorem Q95 (ha:QE X a (tE p a'))(hb:QE X b (tE p b')):QT X (.Compare a [.Lt] [b] pos) (tT p (.cmp .lt a' b')):=Qqu Q85 Qyv ha hb (Qo4 (by decide) (by decide))
theorem t_gt (ha:QE X a (tE p a'))(hb:QE X b (tE p b')):QT X (.Compare a [.Gt] [b] pos) (tT p (.cmp .gt a' b')):=Qqu o_gt Q9u ha hb (Qo4 (by decide) (by decide))
theorem Q96 (ha:QE X a (tE p a'))(hb:QE X b (tE p b')):QT X (.Compare a [.IsNot] [b] pos) (tT p (.cmp .isnn a' b')):=Qqu Q86 Qyw ha hb (Qo4 (by decide) (by decide))
theorem Qby (ha:QE X e (tE p e'))(he:∀ whole,isTrue e X.env whole=(do let v ← whole;standAt e.pos;holding [v] (truthy v)):=by intro _;rfl):QT X e (tT p e'):=Qac7 ha he
theorem Qj3 {n:String}{tn:Expr}(hm:X.mg "isinstance" = none)(hv:bootBuiltins "isinstance" = some (.builtin "isinstance"))(ha:QE X a (tE p a'))(ht:QE X tn (tC (.ty n)))(hg:Gl X "isinstance" := by rfl)(h1:Qu a=true:=by rfl)(h2:Qu tn=true:=by rfl):QE X (.Call (.Name "isinstance" p1) [a,tn] [] pos) (tE p (.isI a' n)):=Qadb hm hv ha ht hg h1 h2
theorem Qcg {id:String}{r:List V→Hp→VK→Prop}{b:Bi}(hc:QCl X (.builtin id) r)(hs:Ob r b)(hm:X.mg x=none)(hv:bootBuiltins x=some (.builtin id))(ha:QA X (e::es) (tA p es'))(hg:Gl X x:=by rfl)(hn:x ≠ "__name__" := by decide)(hdb:(x==("__debug__" : Str))=false:=by decide)(h1:Qu e=true:=by rfl)(h2:es.all Qu=true:=by rfl) :
  QE X (.Call (.Name x p1) (e::es) [] pos) (tE p (.bi b es')):=s_bi hc hs hm hv ha hg hn hdb h1 h2
theorem Qhv {T:String}{r:List V→Hp→VK→Prop}{b:Bi}(hc:QCl X (.type T) r)(hs:Ob r b)(hm:X.mg x=none)(hv:bootBuiltins x=some (.type T))(ha:QA X (e::es) (tA p es'))(hg:Gl X x:=by rfl)(hn:x ≠ "__name__" := by decide)(hdb:(x==("__debug__" : Str))=false:=by decide)(h1:Qu e=true:=by rfl)(h2:es.all Qu=true:=by rfl) :
  QE X (.Call (.Name x p1) (e::es) [] pos) (tE p (.bi b es')):=Qadc hc hs hm hv ha hg hn hdb h1 h2
theorem Qds (hK:X.K=K)(ha:QE X a (tE p a'))(hb:QE X b (tE p b'))(hs:Qkk b:=by exact fun _ _=>rfl):QE X (.Subscript a b pos) (tE p (.ix a' b')):=s_ix K hK ha hb hs
theorem Qzc (hK:X.K=K){lo hi:Option Expr}{lo' hi':Es}(ha:QE X a (tE p a'))(hl:QO X lo (tO p lo'))(hh:QO X hi (tO p hi')):QE X (.Subscript a (.Slice lo hi none p2) pos) (tE p (.slc a' lo' hi')):=Qadd K hK ha hl hh
theorem Qaa {f:Nat}(h:Qs0 X.prog X.w X.K X.mg X.base x ps k (spF p.cf p.mg f))(pz:Qii X p.R)(hr:Room k X.A)(ha:QA X (e::es) (tA p es'))(hg:Gl X x:=by rfl)(hdb:(x==("__debug__" : Str))=false:=by decide)(h1:Qu e=true:=by rfl)(h2:es.all Qu=true:=by rfl) :
  QE X (.Call (.Name x p1) (e::es) [] pos) (tE p (.call f es')):=Q90 h pz hr ha hg hdb h1 h2
theorem Qkq {f:Nat}(h:Qs0 X.prog X.w X.K X.mg X.base x ps k (spF p.cf p.mg f))(pz:Qii X p.R)(hr:Room k X.A)(ha:QA X (e::es) (tA p es'))(hg:Gl X x:=by rfl)(hdb:(x==("__debug__" : Str))=false:=by decide)(h1:Qu e=true:=by rfl)(h2:es.all Qu=true:=by rfl) :
  QE X (.Call (.Name x p1) (e::es) [] pos) (tE p (.tcall f es')):=Q3t h pz hr ha hg hdb h1 h2
theorem Qdg {elt:Expr}(N:List Str)(js:List (Option Nat)){w:W}{tg:Tg}(hcalm:X.calm=true)
  (hi:QI X tgE iter (tW p w)) (hg:∀ s H fp,QG (Q0 X scope N s H fp) tgE (tG tg)) (hc:∀ s H fp,QC (Q0 X scope N s H fp) ifs (tCs p.calm cs)) (he:∀ s H fp,QE (Q0 X scope N s H fp) elt (tE p.calm e'))
  (hk:scope.kind=.function:=by rfl) (h1:scOk X scope=true:=by rfl) (h2:Qgw X scope N js=true:=by rfl) (hs:∀ x,foldedSetIterable iter X.env x=pure x:=by intro _;rfl):QE X (.ListComp elt [⟨tgE,iter,ifs,0⟩] scope pos) (tE p (.comp w js tg cs e')):=Q92 hcalm hi hg hc he hk h1 h2 hs
theorem Qzd {elt:Expr}(N:List Str)(js:List (Option Nat)){w:W}{tg:Tg}{i:Nat}(hcalm:X.calm=true)
  (hi:QI X tgE iter (tW p w)) (hg:∀ s H fp,QG (Q0 X scope N s H fp) tgE (tG tg)) (hc:∀ s H fp,QC (Q0 X scope N s H fp) ifs (tCs p.calm cs)) (he:∀ s H fp,QE (Q0 X scope N s H fp) elt (tE p.calm e')) (hn:QG X (.Name x p2) (Qc0 i))
  (hk:scope.kind=.function:=by rfl) (h1:scOk X scope=true:=by rfl) (h2:Qgw X scope N js=true:=by rfl) (hs:∀ x,foldedSetIterable iter X.env x=pure x:=by intro _;rfl)
  (hsw:swapsWithSole [.Name x p2] (.ListComp elt [⟨tgE,iter,ifs,0⟩] scope p1) pos.line X.env=pure true:=by rfl) (ha:(assignEach [.Name x p2] X.env).map (·.2)=[assign (.Name x p2) X.env]:=by rfl) :
  QS X (.Assign [.Name x p2] (.ListComp elt [⟨tgE,iter,ifs,0⟩] scope p1) pos) (Qhz (tE p (.comp w js tg cs e')) (Qc0 i)) :=
 QS.weak ⟨Qs4 hcalm hi.h (fun s H fp=>(hg s H fp).h) (fun s H fp=>(hc s H fp).h) (fun s H fp=>(he s H fp).h) hn.h hk h1 h2 hs hsw ha⟩ fun D σ H h=>Quw h
variable {tg:Expr}
theorem Qd2 (hm:X.mg "range" = none)(ha:QE X a (tE p a'))(hg:Gl X "range" := by rfl)(hs:Qu a=true:=by rfl):QI X tg (.Call (.Name "range" p1) [a] [] pos) (tW p (.rng1 a')):=Q3u hm ha hg hs
theorem Qze (hm:X.mg "range" = none)(ha:QE X a (tE p a'))(hb:QE X b (tE p b'))(hg:Gl X "range" := by rfl)(hs:Qu a=true:=by rfl)(hs2:Qu b=true:=by rfl):QI X tg (.Call (.Name "range" p1) [a,b] [] pos) (tW p (.rng2 a' b')):=Q3v hm ha hb hg hs hs2
theorem Qado {x1}{tp:Pos}(hK:X.K=K)(hm:X.mg "enumerate" = none)(hb:PySem.bootBuiltins "enumerate" = some (.type "enumerate"))(ha:QE X a (tE p a'))(hg:Gl X "enumerate" := by rfl)(hs:Qu a=true:=by rfl):QI X (.Tuple es x1 tp) (.Call (.Name "enumerate" p1) [a] [] pos) (tW p (.enm a')):=Q91 hK hm hb ha hg hs
theorem Qzf (he:QE X e (tE p e'))(hs:swapsWith e none pos.line X.env=pure false:=by rfl):QS X (.Expr e pos) (tS p (.expr e')):=Q93 he hs
theorem Qde {w:W}{tg:Tg}(hc:X.calm=true)(hi:QI X.nox tgE iter (tW p.calm w))(hg:QG X.nox tgE (tG tg))(hb:QB X.nox body (tS p.calm s))(hs:∀ x,foldedSetIterable iter X.env x=pure x:=by intro _;rfl):QS X (.For tgE iter body [] pos) (tS p (.for_ w tg s)):=Qadl hc hi hg hb hs
theorem Q31 {D:Hp}(lo:Int)(n:Nat):IsL D (Qmn lo n) (Q3 lo n):=by
 unfold Qmn Q3
 have:∀ l:List Nat,IsL D (l.map fun i=>V.int (lo+(i:Nat))) (l.map fun i=>T.int (lo+(i:Nat))):=fun l=>by
  induction l with
  | nil=>exact .nil
  | cons x xs ih=>exact .cons Is.int ih
 exact this _
theorem Qo5 (hm:X.mg "tuple" = none)(hv:bootBuiltins "tuple" = some (.type "tuple"))(hm2:X.mg "range" = none)(hv2:bootBuiltins "range" = some (.type "range"))(hc:X.calm=true)(ha:QE X a (tE p a'))(hg:Gl X "tuple" := by rfl)(hg2:Gl X "range" := by rfl)(h1:Qu a=true:=by rfl) :
  QE X (.Call (.Name "tuple" p1) [.Call (.Name "range" p2) [a] [] p3] [] pos) (tE p (.tupR false a')) :=
 (Qx5 (Q9i hc) hm hv (Qat (Qx5 Qyi hm2 hv2 (Qat ha Qbu h1) hg2 (by decide) (by decide) h1 rfl) Qbu rfl) hg (by decide) (by decide) rfl rfl).weak fun σ H Q ⟨G,ρ,F,h⟩=>by
  unfold evE at h
  refine ⟨G,ρ,F,h.bind.imp fun r ρ1 h1 v H1 G1 F1 r1=>?_⟩
  cases r with
  | ow t=>exact False.elim h1
  | sl i=>exact False.elim h1
  | fz t =>
   cases t <;> first | exact False.elim h1 | skip
   rename_i j
   obtain rfl:=r1.is.int_inv
   replace h1:Fin p (Qan H G σ ρ) σ (if j.natAbs≤100000 then .ok (if false=true then PV.ow (.lst (Q3 0 j.toNat)) else .fz (.tup (Q3 0 j.toNat))) ρ1 else .no) _:=h1
   by_cases z:j.natAbs≤100000
   ·rw [if_pos z] at h1
    refine ⟨j,rfl,fun q hq=>⟨q,0,j,rfl,Qr,⟨by decide,by decide,by omega,by omega⟩,by omega,fun l hl=>?_⟩⟩
    have F2:=F1.grow (Same.upd (o:=.rng 0 j) hq)
    refine h1 _ _ G1 (F2.grow (Same.upd hl)) ?_
    rw [show (j-0).toNat=j.toNat by omega]
    exact Qeb (F2.prv.mono (Same.upd hl)) Qr (Q31 0 j.toNat) (by unfold Q3;rw [List.length_map,List.length_range];omega)
   ·rw [if_neg z] at h1;exact False.elim h1
end
theorem Qo6:∀ {a b:List Int},kIs a=kIs b→a=b
 | [],[],_=>rfl
 | [],_::_,h=>by cases h
 | _::_,[],h=>by cases h
 | x::a,y::b,h=>by
  have h:(Sum.inl x::kIs a:List Key)=Sum.inl y::kIs b:=h
  injection h with h1 h2
  injection h1 with h1
  rw [h1,Qo6 h2]
theorem Q97 (ns:List Int):(kIs ns).map kV=ns.map V.int:=by
 unfold kIs
 rw [List.map_map]
 rfl
theorem Qg5 {D:Hp}(k:List Int):∀ (ks:List (List Int)) {vs:List V} {ts:List T},ks.length=vs.length→IsL D vs ts→(∃ v t,Qhn ((ks.map kIs).zip vs) (kIs k)=some v∧Qd0 ks ts k=some t∧Is D v t)∨(Qhn ((ks.map kIs).zip vs) (kIs k)=none∧Qd0 ks ts k=none)
 | [],vs,ts,_,_=>.inr ⟨rfl,by unfold Qd0;rfl⟩
 | j::ks,[],ts,h,_=>by cases h
 | j::ks,v::vs,[],_,r=>by cases r.nil_inv
 | j::ks,v::vs,t::ts,h,r=>by
  obtain ⟨v',vs',e,a,q⟩:=r.cons_inv
  cases e
  rw [List.map_cons,List.zip_cons_cons]
  unfold Qd0
  by_cases hj:j=k
  ·exact .inl ⟨v,t,Qic (by rw [hj]),by rw [if_pos hj],a⟩
  ·rw [Qid (fun z=>hj (Qo6 z)),if_neg hj]
   exact Qg5 k ks (by simpa using h) q
def Qms:List (List Int)→List V→List Int→V→List V
 | j::ks,v::vs,k,u=>(if j=k then u else v)::Qms ks vs k u
 | _,_,_,_=>[]
theorem Qq2 (k:List Int)(u:V):∀ (ks:List (List Int)) (vs:List V),ks.length=vs.length→ks.length=(Qms ks vs k u).length
 | [],_,_=>by unfold Qms;rfl
 | j::ks,[],h=>by cases h
 | j::ks,v::vs,h=>by
  unfold Qms
  rw [List.length_cons,List.length_cons,←Qq2 k u ks vs (by simpa using h)]
theorem Qq3 (k:List Int)(u:V):∀ (ks:List (List Int)) (vs:List V),ks.length=vs.length→((ks.map kIs).zip vs).map (fun kv=>if kv.1=kIs k then (kv.1,u) else kv)=(ks.map kIs).zip (Qms ks vs k u)
 | [],_,_=>rfl
 | j::ks,[],h=>by cases h
 | j::ks,v::vs,h=>by
  unfold Qms
  rw [List.map_cons,List.zip_cons_cons,List.zip_cons_cons,List.map_cons,Qq3 k u ks vs (by simpa using h)]
  by_cases hj:j=k
  ·rw [if_pos hj,if_pos (by rw [hj])]
  ·rw [if_neg hj,if_neg (fun z=>hj (Qo6 z))]
theorem Quy {D:Hp}(k:List Int){u:V}{x:T}(hu:Is D u x):∀ (ks:List (List Int)) {vs:List V} {ts:List T},ks.length=vs.length→IsL D vs ts→IsL D (Qms ks vs k u) (Qqq ks ts k x)
 | [],vs,ts,_,_=>by unfold Qms Qqq;exact .nil
 | j::ks,[],ts,h,_=>by cases h
 | j::ks,v::vs,[],_,r=>by cases r.nil_inv
 | j::ks,v::vs,t::ts,h,r=>by
  obtain ⟨v',vs',e,a,q⟩:=r.cons_inv
  cases e
  unfold Qms Qqq
  refine .cons ?_ (Quy k hu ks (by simpa using h) q)
  by_cases hj:j=k
  ·rw [if_pos hj,if_pos hj];exact hu
  ·rw [if_neg hj,if_neg hj];exact a
theorem Qzg {D:Hp}{ks:List (List Int)}{vs:List V}{ts:List T}{k:List Int}{u:V}{x:T}(h:ks.length=vs.length)(r:IsL D vs ts)(hu:Is D u x)(z:ks.length<100000):OwnO D (Qik ks ts k x) (.dT (Qgo ((ks.map kIs).zip vs) (kIs k) u)):=by
 unfold Qik
 rcases Qg5 k ks h r with ⟨v,t,e1,e2,_⟩ | ⟨e1,e2⟩
 ·rw [e2]
  refine ⟨by omega,Qms ks vs k u,?_,Qq2 k u ks vs h,Quy k hu ks h r⟩
  unfold Qgo
  rw [Qie,e1,if_pos (show (some v).isSome=true from rfl),Qq3 k u ks vs h]
 ·rw [e2]
  refine ⟨by rw [List.length_append,List.length_singleton];omega,vs++[u],?_,by rw [List.length_append,List.length_append,h];rfl,r.append (.one hu)⟩
  rw [Qxq u e1,List.map_append,List.zip_append (by rw [List.length_map,h])]
  rfl
theorem Rdb.dtt {v:V}{ks:List (List Int)}{ts:List T}(h:Rdb H G v (.dtt ks ts)):∃ a vs,v=.ref a∧H a=some (.dT ((ks.map kIs).zip vs))∧ks.length=vs.length∧IsL (dls H G) vs ts:=by
 rcases h with h | ⟨a,rfl,o,e,q⟩
 ·unfold Is at h
  obtain ⟨_,a,vs,rfl,e,l,q⟩:=h
  exact ⟨a,vs,rfl,(Q5 e).2,l,q⟩
 ·cases o with
  | dT kvs=>obtain ⟨_,vs,rfl,l,r⟩:=q;exact ⟨a,vs,rfl,e,l,r⟩
  | _=>exact q.elim
theorem Qfr {v:V}{r:PV}{ns:List Int}(h:PVR H0 H G σ ρ v r)(e:Qf1 r=some ns):∃ b,v=.ref b∧H b=some (.tup ((kIs ns).map kV)):=by
 cases r with
 | ow t=>cases e
 | sl i=>cases e
 | fz t =>
  cases t <;> first | (cases e;done) | skip
  rename_i us
  have e:Qda us=some ns:=e
  obtain ⟨b,vs,rfl,el,rl⟩:=h.is.tup_inv
  rw [Qer e] at rl
  rw [rl.ints_inv] at el
  exact ⟨b,rfl,by rw [Q97];exact (Q5 el).2⟩
section
variable {X:Cx} {p:Pr} {e a b:Expr} {e' a' b':E} {pos p1 p2 pos':Pos} {x:Str}
theorem Qzh:QE X (.Dict [] [] pos) (tE p .dnew):=(QE.mk Qxs).weak fun σ H Q ⟨G,ρ,F,h⟩=>by
 unfold evE at h
 intro l hl
 obtain ⟨F2,r2⟩:=Qlh F hl (Same.upd (o:=.dT []) hl) Qr (t:=.dtt [] []) ⟨Nat.zero_le _,[],rfl,rfl,.nil⟩
 exact h _ _ _ F2 r2
theorem Q98 {ng:Bool}(h:tE p (.din ng a' b') σ H Q):tE p a' σ H fun y H1=>tE p b' σ H1 fun x H2=>∃ l o,x=.ref l∧DGet H2 l y o∧Q (.bl (if ng then !o.isSome else o.isSome)) H2:=by
 obtain ⟨G,ρ,F,h⟩:=h
 unfold evE at h
 refine tE2 F h fun ra rb ρ2 x y H2 G2 F2 r1 r2 h2=>?_
 cases ek:Qf1 ra with
 | none=>rw [ek] at h2;exact False.elim h2
 | some ns =>
  cases ec:cont ρ2 rb with
  | none=>rw [ek,ec] at h2;exact False.elim h2
  | some t =>
   rw [ek,ec] at h2
   cases t <;> first | exact False.elim h2 | skip
   rename_i ks ts
   obtain ⟨l,vs,rfl,el,hl,il⟩:=(r2.rdb F2 ec).dtt
   obtain ⟨b,rfl,eb⟩:=Qfr r1 ek
   refine ⟨l,_,rfl,DGet.t el eb,?_⟩
   have hs:(Qhn ((ks.map kIs).zip vs) (kIs ns)).isSome=(Qd0 ks ts ns).isSome:=by
    rcases Qg5 ns ks hl il with ⟨v,t,e1,e2,_⟩ | ⟨e1,e2⟩ <;> rw [e1,e2] <;> rfl
   rw [hs]
   exact h2 _ H2 G2 F2 pvB
theorem t_din (hu:X.A.units+64<cLine)(ha:QE X a (tE p a'))(hb:QE X b (tE p b'))(hm:behindInMarks .In b=false:=by rfl):QT X (.Compare a [.In] [b] pos) (tT p (.din false a' b')) :=
 (QT.mk (Q7h (Q8n (by omega) ha.h hb.h) hm)).weak fun σ H Q h=>Q98 (Qnq h)
theorem Q6l (hu:X.A.units+64<cLine)(ha:QE X a (tE p a'))(hb:QE X b (tE p b'))(hs:Q8m b:=by intro _ _;rfl):QE X (.Subscript a b pos) (tE p (.dix a' b')) :=
 (QE.mk (Q2w (by omega) ha.h hb.h hs)).weak fun σ H Q ⟨G,ρ,F,h⟩=>by
  unfold evE at h
  refine tE2 F h fun ra rb ρ2 x y H2 G2 F2 r1 r2 h2=>?_
  cases ek:Qf1 rb with
  | none=>rw [ek] at h2;exact False.elim h2
  | some ns =>
   cases ec:cont ρ2 ra with
   | none=>rw [ek,ec] at h2;exact False.elim h2
   | some t =>
    rw [ek,ec] at h2
    cases t <;> first | exact False.elim h2 | skip
    rename_i ks ts
    obtain ⟨l,vs,rfl,el,hl,il⟩:=(r1.rdb F2 ec).dtt
    obtain ⟨b,rfl,eb⟩:=Qfr r2 ek
    rcases Qg5 ns ks hl il with ⟨v,t,e1,e2,iv⟩ | ⟨e1,e2⟩
    ·replace h2:Fin p (Qan H G σ ρ) σ (match Qd0 ks ts ns with | some t=>.ok (PV.fz t) ρ2 | none=>.no) _:=h2
     rw [e2] at h2
     refine ⟨l,v,rfl,?_,h2 v H2 G2 F2 iv⟩
     rw [←e1]
     exact DGet.t el eb
    ·replace h2:Fin p (Qan H G σ ρ) σ (match Qd0 ks ts ns with | some t=>.ok (PV.fz t) ρ2 | none=>.no) _:=h2
     rw [e2] at h2
     exact False.elim h2
theorem Qzi {t:Option T}(h:Qk9 t=true):∃ ks ts,t=some (.dtt ks ts):=by
 unfold Qk9 at h
 split at h
 ·exact ⟨_,_,rfl⟩
 ·cases h
theorem Q99 {D:Hp}{ks:List (List Int)}{vs:List V}{ts:List T}(k:List Int)(h:ks.length=vs.length)(r:IsL D vs ts){v:V}{u:T}(hu:Is D v u):Is D ((Qhn ((ks.map kIs).zip vs) (kIs k)).getD v) ((Qd0 ks ts k).getD u):=by
 rcases Qg5 k ks h r with ⟨w,t,e1,e2,i⟩ | ⟨e1,e2⟩ <;> rw [e1,e2]
 ·exact i
 ·exact hu
theorem Quz {apos:Pos}{c':E}(hu:X.A.units+64<cLine)(ha:QE X a (tE p a'))(hb:QE X b (tE p b'))(hc:QE X c (tE p c'))(m:M2 X a "get" apos b c pos:=by exact ⟨rfl,rfl,rfl,rfl⟩):QE X (.Call (.Attribute a "get" apos) [b,c] [] pos) (tE p (.dg2 a' b' c')) :=
 (QE.mk (Qxt (by omega) ha.h hb.h hc.h m)).weak fun σ H Q ⟨G,ρ,F,h⟩=>by
  unfold evE at h
  refine ⟨G,ρ,F,h.bind.imp fun rd ρ1 h1 v H1 G1 F1 r1=>?_⟩
  by_cases z:Qk9 (cont ρ1 rd)=true
  ·rw [if_pos z] at h1
   obtain ⟨ks0,ts0,ec0⟩:=Qzi z
   obtain ⟨l,vs0,rfl,el0,_⟩:=(r1.rdb F1 ec0).dtt
   refine ⟨l,rfl,.inr ⟨_,.inl el0⟩,Qgz F1 h1.bind fun rk ρ2 w H2 G2 h2 F2 F2' r2=>?_⟩
   refine Qgz F2 h2.bind fun rx ρ3 y H3 G3 h3 F3 F3' r3=>?_
   cases ek:Qf1 rk with
   | none=>rw [ek] at h3;exact False.elim h3
   | some ns =>
    cases ec:cont ρ3 rd with
    | none=>rw [ek,ec] at h3;exact False.elim h3
    | some t =>
     rw [ek,ec] at h3
     cases t <;> first | exact False.elim h3 | skip
     rename_i ks ts
     cases rx with
     | ow t=>exact False.elim h3
     | sl i=>exact False.elim h3
     | fz u =>
      obtain ⟨l',vs,e',el,hl,il⟩:=(((r1.step F1 F2').step F2 F3').rdb F3 ec).dtt
      cases e'
      obtain ⟨b,rfl,eb⟩:=Qfr (r2.step F2 F3') ek
      exact ⟨_,DGet.t el eb,h3 _ H3 G3 F3 (Q99 ns hl il r3.is)⟩
  ·rw [if_neg z] at h1;exact False.elim h1
theorem FI.mutDAt {i:Nat}(F:FI B H G σ ρ)(h:(Qa ρ i).mutD=true):∃ a,σ[i]?=some (some (.ref a)):=by
 have:∃ t,(Qa ρ i).prv=some t:=by
  cases hs:Qa ρ i <;> rw [hs] at h <;> first | (cases h;done) | exact ⟨_,rfl⟩
 obtain ⟨t,e⟩:=this
 obtain ⟨a,s,_⟩:=F.prvAt e
 exact ⟨a,s⟩
theorem Qzj {i:Nat}{value:Expr}(hu:X.A.units+64<cLine)(ho:QE X a (Qcc i))(hb:QE X b (tE p b'))(hv:QE X value (tE p e'))(hs:swapsWith value (some (.Subscript a b pos')) pos.line X.env=pure false:=by rfl):QS X (.Assign [.Subscript a b pos'] value pos) (tS p (.dput i b' e')) :=
 (QS.mk (Q2x (by omega) ho.h hb.h hv.h hs)).weak fun D σ H ⟨B,G,ρ,F,hO,h⟩=>by
  unfold exS at h
  refine Qe9 F h fun r ρ2 v H2 G2 k F2 _ pv _=>?_
  cases ef:frz r with
  | none=>rw [ef] at k;exact False.elim k
  | some t =>
   rw [ef] at k
   obtain ⟨G3,F3,i3,s3⟩:=PVR.lay pv F2 ef
   by_cases hm:(Qa ρ2 i).mutD=true
   ·simp only [if_pos hm] at k
    obtain ⟨l,sa⟩:=F3.mutDAt hm
    refine ⟨_,sa,?_⟩
    refine Qe9 F3 (SFin.late k (Qce s3)) fun rk ρ4 w H4 G4 k4 F4 F4' pk sm=>?_
    have i4:=i3.mono sm
    cases ek:Qf1 rk with
    | none=>rw [ek] at k4;exact False.elim k4
    | some ns =>
     rw [ek] at k4
     obtain ⟨b,rfl,eb⟩:=Qfr pk ek
     replace k4:SFin p B H4 G4 D (match Qa ρ4 i with
      | .ow (.dtt ks ts)=>if ks.length<100000 then .nx (ρ4.set i (.ow (Qik ks ts ns t))) else .no
      | .ml (.dtt ks ts)=>if ks.length<100000 then .nx (ρ4.set i (.ml (Qik ks ts ns t))) else .no
      | _=>.no):=k4
     have fin:∀ ks ts s',(Qa ρ4 i=.ow (.dtt ks ts)∧s'=Slot.ow (Qik ks ts ns t))∨(Qa ρ4 i=.ml (.dtt ks ts)∧s'=Slot.ml (Qik ks ts ns t))→SFin p B H4 G4 D (if ks.length<100000 then .nx (ρ4.set i s') else .no)→∃ a H5,V.ref l=.ref a∧DPut H4 a (.ref b) v H5∧D.nx σ H5:=fun ks ts s' hs k=>by
      have hp:(Qa ρ4 i).prv=some (.dtt ks ts):=by rcases hs with ⟨h,_⟩ | ⟨h,_⟩ <;> rw [h] <;> rfl
      obtain ⟨a',sa',g,o1⟩:=F4.prvAt hp
      rw [sa] at sa'
      cases sa'
      obtain ⟨ob,eo,q⟩:=o1
      cases ob with
      | dT kvs =>
       obtain ⟨_,vs,rfl,hl,il⟩:=q
       by_cases z:ks.length<100000
       ·rw [if_pos z] at k
        obtain ⟨F5,s5⟩:=F4.changeO hs sa (Qzg hl il i4 z (k:=ns))
        refine ⟨l,_,rfl,DPut.t eo eb ?_,k σ _ G4 F5 s5⟩
        have:((ks.map kIs).zip vs).length=ks.length:=by rw [List.length_zip,List.length_map,←hl,Nat.min_self]
        rw [this]
        exact Nat.lt_of_lt_of_le z (Qbq (Nat.le_refl _))
       ·rw [if_neg z] at k;exact False.elim k
      | _=>exact q.elim
     cases hs:Qa ρ4 i with
     | un=>rw [hs] at k4;exact False.elim k4
     | pin _=>rw [hs] at k4;exact False.elim k4
     | fz t=>rw [hs] at k4;exact False.elim k4
     | ro t=>rw [hs] at k4;exact False.elim k4
     | ow u =>
      rw [hs] at k4
      cases u <;> first | exact False.elim k4 | skip
      exact fin _ _ _ (.inl ⟨hs,rfl⟩) k4
     | ml u =>
      rw [hs] at k4
      cases u <;> first | exact False.elim k4 | skip
      exact fin _ _ _ (.inr ⟨hs,rfl⟩) k4
   ·simp only [if_neg hm] at k
    exact False.elim k
end
section
variable {P:Program} {w:World} {H:Hp}
open Classical in
theorem Qu0 {ts:List T}{vs:List V}{its:List Value}{tx:T}{u:Value}(i1:IsL H vs ts)(r1:Vals vs its)(ok:HOk P w H s.heap)(h1:ts.all (Qk 49)=true)(h2:Qk 49 tx=true)(sx:Shp P w H s.heap tx u)(hu:A.units+64<cLine) :
  ∃ e:Value→Bool,(∀ y,y∈its.toArray→SeqAt.EqAt A.in1 s y u (e y))∧its.toArray.any e=ts.any fun t=>eqT t tx:=by
 have key:∀ (j:Nat) (y:Value),its[j]?=some y→∃ t,ts[j]?=some t∧SeqAt.EqAt A.in1 s y u (eqT t tx):=fun j y hy=>by
  have hj:j<its.length:=by
   rcases Nat.lt_or_ge j its.length with z | z
   ·exact z
   ·rw [List.getElem?_eq_none z] at hy;cases hy
  have l1:j<vs.length:=by rw [r1.length];exact hj
  obtain ⟨y',hy',ry⟩:=r1.get (List.getElem?_eq_getElem l1)
  rw [hy] at hy'
  cases hy'
  obtain ⟨t,ht,it⟩:=i1.get (List.getElem?_eq_getElem l1)
  exact ⟨t,ht,Qyg 49 ok (by show A.units+1+49<cLine;omega) t tx y u (List.all_eq_true.mp h1 t (List.mem_of_getElem? ht)) h2 (it.shp ry ok) sx⟩
 have len:its.length=ts.length:=by rw [←r1.length,i1.length]
 refine ⟨fun y=>decide (∃ (j:Nat) (t:T),its[j]?=some y∧ts[j]?=some t∧eqT t tx=true),fun y hy=>?_,?_⟩
 ·have hy:y∈its:=by simpa using hy
  obtain ⟨j,hj⟩:=List.getElem?_of_mem hy
  obtain ⟨t,ht,et⟩:=key j y hj
  show SeqAt.EqAt A.in1 s y u (decide (∃ (j:Nat) (t:T),its[j]?=some y∧ts[j]?=some t∧eqT t tx=true))
  by_cases z:∃ (j:Nat) (t:T),its[j]?=some y∧ts[j]?=some t∧eqT t tx=true
  ·rw [decide_eq_true z]
   obtain ⟨k,t',hk,hk',e'⟩:=z
   obtain ⟨t2,e2,q⟩:=key k y hk
   rw [hk'] at e2
   cases e2
   rw [e'] at q
   exact q
  ·rw [decide_eq_false z]
   have:eqT t tx=false:=by
    cases e:eqT t tx with
    | false=>rfl
    | true=>exact absurd ⟨j,t,hj,ht,e⟩ z
   rw [this] at et
   exact et
 ·rw [Bool.eq_iff_iff]
  constructor
  ·intro z
   have z:its.any (fun y=>decide (∃ (j:Nat) (t:T),its[j]?=some y∧ts[j]?=some t∧eqT t tx=true))=true:=by simpa only [List.any_toArray] using z
   obtain ⟨y,hy,z⟩:=List.any_eq_true.mp z
   obtain ⟨j,t,_,ht,et⟩:=of_decide_eq_true z
   exact List.any_eq_true.mpr ⟨t,List.mem_of_getElem? ht,et⟩
  ·intro z
   obtain ⟨t,ht,et⟩:=List.any_eq_true.mp z
   obtain ⟨j,hj⟩:=List.getElem?_of_mem ht
   have hl:j<its.length:=by
    rw [len]
    rcases Nat.lt_or_ge j ts.length with z | z
    ·exact z
    ·rw [List.getElem?_eq_none z] at hj;cases hj
   have:its.any (fun y=>decide (∃ (j:Nat) (t:T),its[j]?=some y∧ts[j]?=some t∧eqT t tx=true))=true :=
    List.any_eq_true.mpr ⟨its[j],List.getElem_mem hl,decide_eq_true ⟨j,t,List.getElem?_eq_getElem hl,hj,et⟩⟩
   simpa only [List.any_toArray] using this
end
section
variable {X:Cx} {p:Pr} {a b:Expr} {a' b':E} {pos:Pos}
def rInS (neg:Bool):R2:=fun x y H Q=>∃ t t' ts,Is H x t∧Is H y t'∧Qdb t'=some ts∧Qk 49 t=true∧ts.all (Qk 49)=true∧Q (.bl (if neg then !(ts.any fun u=>eqT u t) else ts.any fun u=>eqT u t)) H
theorem Qadq (hu:X.A.units+64<cLine):QOp X (compareOp .In) (rInS false):=⟨by
 intro pins s σ H x y v u Q I rx ry ⟨t,t',ts,i,j,hs,h1,h2,q⟩
 have s1:=i.shp rx I.hok (P:=X.prog) (w:=X.w)
 have s2:=j.shp ry I.hok (P:=X.prog) (w:=X.w)
 cases s2 <;> first | (cases hs;done) | skip
 ·rename_i j1 i1 r1 p1
  cases hs
  obtain ⟨e,he,hq⟩:=Qu0 i1 r1 I.hok h2 h1 s1 hu
  exact SeqAt.in_tupleAt e p1 he ⟨.bl _,H,I,rfl,by rw [hq];exact q⟩
 ·rename_i j1 i1 r1 p1
  cases hs
  obtain ⟨e,he,hq⟩:=Qu0 i1 r1 I.hok h2 h1 s1 hu
  exact SeqAt.in_listAt e p1 he ⟨.bl _,H,I,rfl,by rw [hq];exact q⟩⟩
theorem Q32 {t u:T}{k:Bool}(e:inO t u=some k):∃ ts,Qdb u=some ts∧Qk 49 t=true∧ts.all (Qk 49)=true∧k=ts.any fun u=>eqT u t:=by
 unfold inO at e
 cases es:Qdb u with
 | none=>rw [es] at e;cases e
 | some ts =>
  rw [es] at e
  have e:(if Qk 49 t=true∧ts.all (Qk 49)=true then some (ts.any fun u=>eqT u t) else none)=some k:=e
  by_cases z:Qk 49 t=true∧ts.all (Qk 49)=true
  ·rw [if_pos z] at e
   exact ⟨ts,rfl,z.1,z.2,(Option.some.inj e).symm⟩
  ·rw [if_neg z] at e;cases e
theorem Qaaa:Oc2 (rInS false) (opC .inn):=by
 intro H G x y t u k Q hx hy e q
 obtain ⟨ts,h1,h2,h3,rfl⟩:=Q32 (show inO t u=some k from e)
 exact ⟨t,u,ts,hx.is,hy.is,h1,h2,h3,q⟩
theorem g_in (hu:X.A.units+64<cLine)(ha:QE X a (tE p a'))(hb:QE X b (tE p b'))(hm:behindInMarks .In b=false:=by rfl):QE X (.Compare a [.In] [b] pos) (tE p (.cmp .inn a' b')):=Qqt (Qadq hu) Qaaa ha hb hm
end
section
variable {X:Cx} {k v:Expr} {tk tv:TE} {pos:Pos}
def Qaab (tk tv:TE):TE:=fun σ H Q=>∀ p,H p=none→tk σ (upd H p (.dT [])) fun x H1=>tv σ H1 fun y H2=>H2 p=some (.dT [])∧∃ (ks:List Key) (b:Addr),x=.ref b∧H2 b=some (.tup (ks.map kV))∧Q (.ref p) (upd H2 p (.dT (Qgo [] ks y)))
theorem Qzk (hu:X.A.units+1<cLine)(hk:PE X k tk)(hv:PE X v tv):PE X (.Dict [some k] [v] pos) (Qaab tk tv):=by
 intro pins s σ H Q I q
 have hn:=I.hok.fresh (Nat.le_refl s.heap.objs.size)
 have I1:=I.laid (a:=s.heap.objs.size) (o:=.dT []) (h':=s.heap.push { cls:=.type "dict",data:=.dict #[] }) (t':=s.toks) (fun _ _ q=>Heap.get?_push_of_some _ q) (Nat.le_refl _) (Qqg s.heap I.big)
 refine wpAny_Dict_any rfl rfl (by simp) (by simp) (pairTrees_cons_walk (thn (hk pins _ σ _ _ I1 (q _ hn)) fun u s1 ⟨x,H1,I1,rx,q1⟩=>thn (hv pins s1 σ H1 _ I1 q1) fun w2 s2 ⟨y,H2,I2,ry,q2⟩=>pairTrees_nil_walk ?_))
 obtain ⟨e,ks,b,rfl,eb,q2⟩:=q2
 cases (show u=Value.ref b from rx)
 obtain ⟨z,hd,xs,rel,dd⟩:=Q5p I2.hok e
 cases rel
 unfold storeAll
 rw [List.forIn_cons]
 refine wpAny_bind (wpAny_bind (Qkw (knd:=tupleKind (Qbg X.prog X.w)) (show X.A.units<cLine by omega) (Qjg I2.hok eb) dd (Q5r I2.hok (.inl e)) (fun h' dd' hep hs=>wpAny_pure ?_) (Nat.zero_le _)))
 show wpAny _ _ (forIn ([]:List (Value×Value)) PUnit.unit _) _ _ _
 rw [List.forIn_nil]
 refine wpAny_pure ⟨.ref s.heap.objs.size,_,?_,rfl,q2⟩
 have hl:(Qgo ([]:List (List Key×V)) ks y).length≤sizeLine:=by have:=Qgv ([]:List (List Key×V)) ks y;rw [sizeLine_eq];rw [List.length_nil] at this;omega
 obtain ⟨q,es,ep,hq,h2,h3,h4,_,h5⟩:=dd'
 refine Qom I2 (by rw [e];exact True.intro) hs ⟨q,hq⟩ ⟨hl,hd,_,((show KT H2 [] [] from .nil).put ks eb ry).keeps fun c ys ec=>?_,q,es,ep,hq,h2,h3,h4,h5,Q5q hep hq h3⟩
 rw [Qw (Q5j ec e (fun z=>nomatch z))]
 exact ec
end
theorem FI.underO (F:FI B H G σ ρ){l:Addr}{ob:HO}(hp:Q29 ob=true)(g:G l)(np:∀ k,¬ PrvAt σ ρ k l)(hb:B.H l=none):FI B (upd H l ob) G σ ρ∧Same (dls H G) (dls (upd H l ob) G):=by
 have sm:Same (dls H G) (dls (upd H l ob) G):=fun b o eb=>by
  obtain ⟨n,eb⟩:=Q5 eb
  rw [Qbr n,Qw (fun (z:b=l)=>n (by rw [z];exact g))]
  exact eb
 refine ⟨{ F with
  slot:=fun j=>Qeq (F.slot j) sm fun b o hb1 hb2 eb=>?_
  prv:=fun b hb=>?_
  chg:=fun b o h1 h2 eb=>?_
  keep:=fun b o eb=>?_ },sm⟩
 ·have nb:b≠l:=fun z=>np j ⟨hb1,z ▸ hb2⟩
  exact ⟨by rw [Qw nb];exact eb,(PrvAt.at F ⟨hb1,hb2⟩).1⟩
 ·by_cases h:b=l
  ·exact ⟨ob,by rw [h,Qr],hp⟩
  ·rw [Qw h];exact F.prv b hb
 ·have nb:b≠l:=fun z=>by rw [z,hb] at eb;cases eb
  rw [Qw nb]
  exact F.chg b o h1 h2 eb
 ·by_cases h:b=l
  ·exact ⟨_,by rw [h,Qr]⟩
  ·rw [Qw h];exact F.keep b o eb
section
variable {X:Cx} {p:Pr} {a b:Expr} {a' b':E} {pos:Pos}
theorem g_d1 (hu:X.A.units+64<cLine)(ha:QE X a (tE p a'))(hb:QE X b (tE p b')):QE X (.Dict [some a] [b] pos) (tE p (.d1 a' b')) :=
 (QE.mk (Qzk (by omega) ha.h hb.h)).weak fun σ H Q ⟨G,ρ,F,h⟩=>by
  unfold evE at h
  intro l hl
  obtain ⟨F0,r0⟩:=Qlh F hl (Same.upd (o:=.dT []) hl) Qr (t:=.dtt [] []) ⟨Nat.zero_le _,[],rfl,rfl,.nil⟩
  refine Qgz F0 h.bind fun rk ρ1 x H1 G1 h1 F1 F1' r1=>?_
  refine Qgz F1 h1.bind fun rv ρ2 y H2 G2 h2 F2 F2' r2=>?_
  have s0:=(r0.step F0 F1').step F1 F2'
  have s1:=r1.step F1' F2'
  cases ek:Qf1 rk with
  | none=>rw [ek] at h2;exact False.elim h2
  | some ns =>
   rw [ek] at h2
   cases rv with
   | ow t=>exact False.elim h2
   | sl i=>exact False.elim h2
   | fz t =>
    obtain ⟨b,rfl,eb⟩:=Qfr s1 ek
    obtain ⟨l',e',n0,g0,np,ob,eo,qo⟩:=s0
    cases e'
    cases ob <;> first | exact qo.elim | skip
    obtain ⟨_,vs,ev,lv,_⟩:=qo
    have ev:_=([]:List (List Key×V)):=ev
    subst ev
    refine ⟨eo,kIs ns,b,rfl,eb,?_⟩
    have iy:Is (dls H2 G2) y t:=r2
    obtain ⟨F3,sm⟩:=F2.underO (ob:=.dT (Qgo [] (kIs ns) y)) rfl g0 np n0
    refine h2 _ _ _ F3 ⟨l,rfl,n0,g0,np,_,Qr,by show (1:Nat)≤100000;omega,[y],rfl,rfl,?_⟩
    exact .cons (iy.mono sm) .nil
end
section
variable {prog:Program} {w:World} {A:Around} {E:Value→Shared→Prop} {s:Shared}
end
section
variable {X:Cx}
end
end L2
namespace L2
open PySem PySem.Spec PyProof.Rows PySem.W
variable {us:List Value} {H H' H0:Hp} {o:HO} {h:Heap} {α:Type} {P:Program} {w:World} {t' k n iW iS iT:Nat} {N ps:List Str} {j:Int} {A:Around} {X:Cx} {e:E} {s:Shared} {pins:List (Addr×Obj)} {σ:St} {pos:Pos} {op:CmpOp} {c tg iter tgE:Expr} {K:Frg} {D:Ends} {es ifs:List Expr} {te:TE} {g:TG} {body:List Stmt} {Q:VK} {kindOf:Str→Option NameKind} {qual:Str} {scope:Scope} {sp:Sp} {st:Stmt} {kvs:List (List Key×V)} {env:Env} {js:List (Option Nat)} {G:Addr→Prop} {ρ ρ':En} {B:Bs} {p:Pr} {cs:Es} {uF:T}
def DAt (h:Heap) (d:Addr) (es:Array DictEntry) (ep:Nat):Prop:=∃ o,h.get? d=some o∧o.ExactDict∧o.data=.dict es ep
theorem DAt.typeIs {d:Addr}{es:Array DictEntry}{ep:Nat}(x:DAt s.heap d es ep):s.TypeIs (.ref d) "dict" := let ⟨o,ho,hc,_⟩:=x;⟨o,ho,hc.1⟩
section
variable {prog:Program} {w:World} {A:Around} {E:Value→Shared→Prop} {s:Shared} {it d:Addr} {i ep:Nat} {es:Array DictEntry}
theorem Qzl {Q:Value→Shared→Prop}(hd:(d==sysModules)=false)(hm:DAt s.heap d es ep)
  (hQ:Q (.ref s.heap.objs.size) { s with heap:=s.heap.push { cls:=.type "dict_keyiterator",data:=.fields #[.ref d,.int 0 0,.int es.size 0,.int ep 0] } }):wpAny (model prog w) A (pyIter (.ref d)) Q E s:=by
 obtain ⟨o,ho,hc,hdat⟩:=id hm
 have hT:=hm.typeIs
 refine wpAny_pyIter_slot hT PySem.F.slot_dict_iter (wpAny_call_entry PySem.F.slot_dict_iter hT PySem.F.entry_dict_iter ?_ (PySem.F.args_dict_iter_1 _))
 unfold Builtin.«dict.__iter__»
 refine wpAny_bind ?_
 unfold Builtin.Dict.dictSlotNone
 refine wpAny_bind (wpAny_notOrdered_dict hT ?_)
 show wpAny _ _ (pure (Value.ref d)) _ _ s
 refine wpAny_pure ?_
 show wpAny _ _ (Builtin.Dict.showsAll d >>= _) _ _ s
 unfold Builtin.Dict.showsAll
 rw [if_neg (by rw [hd];exact Bool.false_ne_true)]
 refine wpAny_bind (wpAny_pure ?_)
 refine wpAny_bind (wpAny_dictEntries ho hdat ?_)
 refine wpAny_bind (wpAny_dictEpoch ho hdat ?_)
 refine wpAny_bind (wpAny_newObj_type (wpAny_pure ⟨_,rfl,"dict_keyiterator",_,⟨_,Heap.get?_push_size _ rfl,rfl⟩,PySem.F.slot_dict_keyiterator_next.lookup,?_⟩))
 simpa [rawInt] using hQ
theorem Qzm {Q:Option Value→Shared→Prop}(hit:s.heap.IsKeyIter it d i es.size ep)(hm:DAt s.heap d es ep)(hlt':i<es.size)
  (hQ:∀ h',h'.IsKeyIter it d (i+1) es.size ep→Heap.SameBut it s.heap h'→Q (some es[i].key) { s with heap:=h' }):wpAny (model prog w) A (pyNext (.ref it)) Q E s:=by
 obtain ⟨o,ho,hc,hd⟩:=id hit
 obtain ⟨od,hod,hcd,hdd⟩:=id hm
 unfold pyNext
 refine wpAny_bind (wpAny_attempt (wpAny_callSpecial?_slot (name:=Str.ofString "__next__") hit.typeIs PySem.F.slot_dict_keyiterator_next
  (wpAny_call_entry PySem.F.slot_dict_keyiterator_next hit.typeIs PySem.F.entry_dict_keyiterator_next ?_ (PySem.F.args_dict_keyiterator_next_1 _))))
 refine wpAny_bind (wpAny_pure ?_)
 refine wpAny_bind ?_
 refine wpAny_bind ?_
 first | refine wpAny_bind (wpAny_typeNameOfWhole_keyiter hit.typeIs (wpAny_pure ?_)) | refine wpAny_bind (wpAny_typeNameOf_keyiter hit.typeIs (wpAny_pure ?_))
 refine wpAny_bind (wpAny_fieldsOf ho hd ?_)
 have hown:Builtin.Dict_items.ownsTuple "dict_keyiterator" = false:=by decide
 simp only [hown,Bool.false_eq_true,if_false]
 show wpAny _ _ (if (Value.ref d==Value.none)=true then _ else _) _ _ s
 rw [if_neg (show ¬ ((Value.ref d==Value.none)=true) from Bool.false_ne_true)]
 refine wpAny_bind (wpAny_pure ?_)
 refine wpAny_bind (wpAny_dictEntries hod hdd ?_)
 rw [if_neg (by simp)]
 refine wpAny_bind (wpAny_pure ?_)
 refine wpAny_bind (wpAny_dictEpoch hod hdd ?_)
 rw [if_neg (by simp)]
 refine wpAny_pure ?_
 simp only [show ¬ ((i:Int)<0) from by omega,if_false,Int.toNat_natCast,Array.getElem?_eq_getElem hlt']
 refine wpAny_bind ?_
 first | refine wpAny_bind (wpAny_typeNameOfWhole_keyiter hit.typeIs (wpAny_pure ?_)) | refine wpAny_bind (wpAny_typeNameOf_keyiter hit.typeIs (wpAny_pure ?_))
 refine wpAny_bind (wpAny_isOneOf_keyiter hit.typeIs ?_)
 show wpAny _ _ (setField (.ref it) 1 (rawInt ((i:Int)+1)) >>= _) _ _ s
 refine wpAny_bind (wpAny_setField ho hd (by simp) ?_)
 have hit':(s.heap.update it (Obj.mapFields (·.setIfInBounds 1 (rawInt ((i:Int)+1))))).IsKeyIter it d (i+1) es.size ep :=
  ⟨_,Heap.get?_update_self _ ho (Obj.isFreed_of_fields (Obj.data_mapFields hd _)),(Obj.cls_mapFields ..).trans hc,by rw [Obj.data_mapFields hd];simp [rawInt]⟩
 refine wpAny_bind (wpAny_holding ?_)
 refine wpAny_bind (wpAny_isOneOf_keyiter (s:={ s with heap:=s.heap.update it (Obj.mapFields (·.setIfInBounds 1 (rawInt ((i:Int)+1)))) }) hit'.typeIs ?_)
 show wpAny _ _ (pure es[i].key) _ _ _
 exact wpAny_pure (wpAny_pure ⟨_,rfl,wpAny_pure (hQ _ hit' (Heap.SameBut.update ..))⟩)
theorem Q33 {Q:Option Value→Shared→Prop}(hh:A.handled=none)(hit:s.heap.IsKeyIter it d i es.size ep)(hm:DAt s.heap d es ep)(hi:es.size≤i)
  (hQ:∀ h',Heap.ExtBut it s.heap h'→Q none { s with heap:=h' }):wpAny (model prog w) A (pyNext (.ref it)) Q E s:=by
 obtain ⟨o,ho,hc,hd⟩:=id hit
 obtain ⟨od,hod,hcd,hdd⟩:=id hm
 unfold pyNext
 refine wpAny_bind (wpAny_attempt (wpAny_callSpecial?_slot (name:=Str.ofString "__next__") hit.typeIs PySem.F.slot_dict_keyiterator_next
  (wpAny_call_entry PySem.F.slot_dict_keyiterator_next hit.typeIs PySem.F.entry_dict_keyiterator_next ?_ (PySem.F.args_dict_keyiterator_next_1 _))))
 refine wpAny_bind (wpAny_pure ?_)
 refine wpAny_bind ?_
 refine wpAny_bind ?_
 first | refine wpAny_bind (wpAny_typeNameOfWhole_keyiter hit.typeIs (wpAny_pure ?_)) | refine wpAny_bind (wpAny_typeNameOf_keyiter hit.typeIs (wpAny_pure ?_))
 refine wpAny_bind (wpAny_fieldsOf ho hd ?_)
 have hown:Builtin.Dict_items.ownsTuple "dict_keyiterator" = false:=by decide
 simp only [hown,Bool.false_eq_true,if_false]
 show wpAny _ _ (if (Value.ref d==Value.none)=true then _ else _) _ _ s
 rw [if_neg (show ¬ ((Value.ref d==Value.none)=true) from Bool.false_ne_true)]
 refine wpAny_bind (wpAny_pure ?_)
 refine wpAny_bind (wpAny_dictEntries hod hdd ?_)
 rw [if_neg (by simp)]
 refine wpAny_bind (wpAny_pure ?_)
 refine wpAny_bind (wpAny_dictEpoch hod hdd ?_)
 rw [if_neg (by simp)]
 refine wpAny_pure ?_
 simp only [show ¬ ((i:Int)<0) from by omega,if_false,Int.toNat_natCast,Array.getElem?_eq_none hi]
 refine wpAny_bind ?_
 first | refine wpAny_bind (wpAny_typeNameOfWhole_keyiter hit.typeIs (wpAny_pure ?_)) | refine wpAny_bind (wpAny_typeNameOf_keyiter hit.typeIs (wpAny_pure ?_))
 show wpAny _ _ (setField (.ref it) 0 .none >>= _) _ _ s
 refine wpAny_bind (wpAny_setField ho hd (by simp) ?_)
 show wpAny _ _ (newExc (.type "StopIteration") [] >>= _) _ _ _
 refine wpAny_bind ?_
 simp only [newExc,newTuple]
 refine wpAny_bind (wpAny_newObj_type ?_ (by size_fits))
 refine wpAny_bind (m:=firstArgMember _ _) (wpAny_of_eq (a:=Value.none) (by first | rfl | (simp only [firstArgMember];rfl)) ?_)
 refine wpAny_newObj_type ?_ (by size_fits)
 simp only [raiseNew]
 refine wpAny_bind (wpAny_handled ?_)
 rw [show A.in1.handled=none from hh]
 refine wpAny_bind (wpAny_pure (wpAny_throw ?_))
 refine wpAny_bind (wpAny_isInstance (T := "StopIteration") (b:=true) ⟨_,Heap.get?_push_size _ rfl,rfl⟩ isSubtype_stop ?_)
 exact wpAny_pure (hQ _ (((Heap.SameBut.update ..).extBut.push _).push _))
end
section
variable {X:Cx}
end
section
variable {prog:Program} {w:World} {A:Around} {E:Value→Shared→Prop} {h:Heap} {g:Array GenState} {d:Drawn} {t:Nat} {os:OsState} {a:Addr} {its:Array Value} {n:Nat}
end
section
variable {prog:Program} {w:World} {A:Around} {E:Value→Shared→Prop} {s:Shared}
end
section
variable {X:Cx}
end
section
variable {prog:Program} {w:World} {A:Around} {E:Value→Shared→Prop} {s:Shared} {l:Addr} {xs:Array (Int×Tok)}
end
section
variable {X:Cx}
end
end L2
set_option maxHeartbeats 2000000
namespace L2
open PySem PySem.Spec PyProof.Rows PySem.W PySem.Calls
variable {us:List Value} {H H' H0:Hp} {o:HO} {h:Heap} {α:Type} {P:Program} {w:World} {t' k n iW iS iT:Nat} {N ps:List Str} {j:Int} {A:Around} {X:Cx} {e:E} {s:Shared} {pins:List (Addr×Obj)} {σ:St} {pos:Pos} {op:CmpOp} {c tg iter tgE:Expr} {K:Frg} {D:Ends} {es ifs:List Expr} {te:TE} {g:TG} {body:List Stmt} {Q:VK} {kindOf:Str→Option NameKind} {qual:Str} {scope:Scope} {sp:Sp} {st:Stmt} {kvs:List (List Key×V)} {env:Env} {js:List (Option Nat)} {G:Addr→Prop} {ρ ρ':En} {B:Bs} {p:Pr} {cs:Es} {uF:T}
section
variable {prog:Program} {w:World} {A:Around} {E:Value→Shared→Prop} {s:Shared}
end
inductive TupsI (h:Heap):List Value→List (List Int)→Prop
 | nil:TupsI h [] []
 | cons {a:Addr} {its:List Value} {k:List Int} {vs:List Value} {ks:List (List Int)} (ht:h.IsTuple a its.toArray) (hi:IntsAre its k) (t:TupsI h vs ks):TupsI h (.ref a::vs) (k::ks)
section
variable {prog:Program} {w:World} {A:Around} {E:Value→Shared→Prop} {s:Shared}
end
section
variable {prog:Program} {w:World} {A:Around} {E:Value→Shared→Prop} {s:Shared}
end
inductive TupsV (K:Frg) (H:Hp):List V→List (List Int)→Prop
 | nil:TupsV K H [] []
 | cons {b:Addr} {k:List Int} {ys:List V} {ks:List (List Int)} (hq:SqT K H b (k.map V.int)) (t:TupsV K H ys ks):TupsV K H (.ref b::ys) (k::ks)
section
variable {X:Cx}
end
end L2
namespace L2
open PySem PySem.Spec PyProof.Rows PySem.W PySem.Calls
variable {us:List Value} {H H' H0:Hp} {o:HO} {h:Heap} {α:Type} {P:Program} {w:World} {t' k n iW iS iT:Nat} {N ps:List Str} {j:Int} {A:Around} {X:Cx} {e:E} {s:Shared} {pins:List (Addr×Obj)} {σ:St} {pos:Pos} {op:CmpOp} {c tg iter tgE:Expr} {K:Frg} {D:Ends} {es ifs:List Expr} {te:TE} {g:TG} {body:List Stmt} {Q:VK} {kindOf:Str→Option NameKind} {qual:Str} {scope:Scope} {sp:Sp} {st:Stmt} {kvs:List (List Key×V)} {env:Env} {js:List (Option Nat)} {G:Addr→Prop} {ρ ρ':En} {B:Bs} {p:Pr} {cs:Es} {uF:T}
section
variable {prog:Program} {w:World} {A:Around} {E:Value→Shared→Prop} {s:Shared}
def elt (vs:List Value) (ks:List (List Int)) (j:Nat):Int×Value:=(Qum (Qk7 ks j),vs.getD j Value.none)
structure MOk (ks:List (List Int)) (led:Bool) (r:SetTable×Array Nat):Prop where
 fits:r.1.fits r.2.size=true
 plain:r.1.plain=true
 gave:r.1.gaveWay=false
 led:r.1.led=led
 size:r.2.size≤1000
 lt:∀ x∈r.2,x<ks.length
end
section
variable {prog:Program} {w:World} {A:Around} {R:Result→Shared→Prop} {I:Addr} {fp wr:List Addr} {G:Array GenState→Array GenState→Prop} {n:Nat} {P:Nat→Value→Prop} {St:Nat→Shared→Prop}
end
section
variable {prog:Program} {w:World} {A:Around} {E:Value→Shared→Prop} {s:Shared}
end
end L2
namespace L2
open PySem PySem.Spec PyProof.Rows PySem.W PySem.Calls
variable {us:List Value} {H H' H0:Hp} {o:HO} {h:Heap} {α:Type} {P:Program} {w:World} {t' k n iW iS iT:Nat} {N ps:List Str} {j:Int} {A:Around} {X:Cx} {e:E} {s:Shared} {pins:List (Addr×Obj)} {σ:St} {pos:Pos} {op:CmpOp} {c tg iter tgE:Expr} {K:Frg} {D:Ends} {es ifs:List Expr} {te:TE} {g:TG} {body:List Stmt} {Q:VK} {kindOf:Str→Option NameKind} {qual:Str} {scope:Scope} {sp:Sp} {st:Stmt} {kvs:List (List Key×V)} {env:Env} {js:List (Option Nat)} {G:Addr→Prop} {ρ ρ':En} {B:Bs} {p:Pr} {cs:Es} {uF:T}
section
variable {prog:Program} {w:World} {A:Around} {E:Value→Shared→Prop} {s:Shared}
end
section
variable {X:Cx}
end
theorem Q34 {a:Addr}(h:PrvAt (Qea js σ) (Qcl js ρ) k a):∃ j,js[k]?=some (some j)∧PrvAt σ ρ j a:=by
 obtain ⟨⟨t,e1⟩,e2⟩:=h
 rw [Qcy] at e1
 rw [Qg2] at e2
 cases hj:js[k]? with
 | none=>rw [hj] at e1;cases e1
 | some o =>
  cases o with
  | none=>rw [hj] at e1;cases e1
  | some j =>
   rw [hj] at e1 e2
   refine ⟨j,rfl,?_,?_⟩
   ·have e1:((Qa ρ j).lend).prv=some t:=e1
    cases hs:Qa ρ j <;> rw [hs] at e1 <;> first | (cases e1;done) | exact ⟨_,rfl⟩
   ·have e2:some ((σ[j]?).join)=some (some (.ref a)):=e2
    cases hσ:σ[j]? with
    | none=>rw [hσ] at e2;cases e2
    | some v=>rw [hσ] at e2;exact e2
theorem Qzn {i0:Nat}{tg:Tg}{e':E}(h:tE p (.compS i0 js tg cs e') σ H Q):Qnh (Qst K (Qcc i0)) js (tG tg) (tCs p.calm cs) (tE p.calm e') σ H Q:=by
  obtain ⟨G,ρ,F,h1⟩:=h
  unfold evE at h1
  cases hs:(Qa ρ i0).prv with
  | none=>rw [hs] at h1;exact False.elim h1
  | some t0 =>
   rw [hs] at h1
   cases t0 <;> first | exact False.elim h1 | skip
   rename_i ts
   have hpv:∃ lw,σ[i0]?=some (some (.ref lw))∧OwnAt H G lw (.lst ts):=by
    have q:=F.slot i0
    cases he:Qa ρ i0 with
    | un=>rw [he] at hs;cases hs
    | pin _=>rw [he] at hs;cases hs
    | fz t=>rw [he] at hs;cases hs
    | ml t =>
     rw [he] at hs q
     cases hs
     obtain ⟨l,sl,gl,o0⟩:=q
     exact ⟨l,sl,o0⟩
    | ro t =>
     rw [he] at hs q
     cases hs
     obtain ⟨l,sl,gl,o0⟩:=q
     exact ⟨l,sl,o0⟩
    | ow t =>
     rw [he] at hs q
     cases hs
     obtain ⟨l,sl,gl,o0⟩:=q
     exact ⟨l,sl,o0⟩
   obtain ⟨lw,sl,o0⟩:=hpv
   have pw:PrvAt σ ρ i0 lw:=⟨⟨_,hs⟩,sl⟩
   obtain ⟨vs,z,elw,ilw⟩:=o0.lst_inv
   by_cases hj:js.all (fun j=>decide (j≠some i0))=true
   ·simp only [if_pos hj] at h1
    refine ⟨_,sl,lw,rfl,.inl ⟨⟨vs,SqL.of elw⟩,fun l hl=>?_⟩⟩
    have F1:=F
    have wk:WkR (Itl K lw) H G (fun H'=>SqL K H' lw vs) ts:=wk_l ilw
    have hne:lw≠l:=fun z=>by rw [z,hl] at elw;cases elw
    have npw0:∀ k,¬ PrvAt (Qea js σ) (Qcl js ρ) k lw:=fun k hk=>by
     obtain ⟨j,ej,pj⟩:=Q34 hk
     have:=F.apart j i0 lw pj pw
     subst this
     have:=List.all_eq_true.mp hj _ (List.mem_of_getElem? ej)
     simp at this
    cases ec:Qb8 tg (evC p.cf cs) (evE p.cf e') ts [] (Qcl js ρ) with
    | no=>rw [ec] at h1;exact False.elim h1
    | xn x ρx=>rw [ec] at h1;exact False.elim h1
    | ok tsF ρF =>
     rw [ec] at h1
     by_cases hz:Qe4 (Qcl js ρ) ρF=true∧Qbs js=true
     ·simp only [if_pos hz] at h1
      obtain ⟨hkept,hap⟩:=hz
      have Fc:=F1.cap hap
      refine ⟨fun i m ys σ2 H2=>i+m=ts.length∧∃ G2 ρi acc,FI (Qan H G (Qea js σ) (Qcl js ρ)) H2 G2 σ2 ρi∧G2 l∧(∀ k,¬ PrvAt σ2 ρi k l)∧H2 l=some (.lst ys)∧IsL (dls H2 G2) ys acc∧acc.length≤100000 ∧
       (∀ k,¬ PrvAt σ2 ρi k lw)∧H2 lw=some (.lst vs) ∧
       Qb8 tg (evC p.cf cs) (evE p.cf e') (ts.drop i) acc ρi=.ok tsF ρF,⟨ts.length,Nat.zero_add _,_,_,[],Fc.addG hl (Same.upd hl) Qr rfl,.inr rfl,fun k hk=>?_,Qr,.nil,Nat.zero_le _,npw0,by rw [Qw hne];exact elw,ec⟩,?_⟩
      ·obtain ⟨_,t,ob,ea,_⟩:=PrvAt.at Fc hk
       rw [hl] at ea
       cases ea
      rintro i m ys σ2 H2 ⟨him,G2,ρi,acc,I2,gl,np,el,il,zl,npw,ew,cl⟩
      have ok2:SqL K H2 lw vs:=SqL.of ew
      by_cases hlt:i<ts.length
      ·refine .inr ⟨wk.go i H2 hlt ok2,fun x H3 y=>?_⟩
       obtain ⟨s3,t,et,ix⟩:=wk.yld i H2 x H3 hlt ok2 y
       have I3:=I2.grow s3
       have ix3:=ix G2 I2.prv (Fc.same I2)
       rw [List.drop_eq_getElem_cons hlt] at cl
       have et':ts[i]=t:=by rw [List.getElem?_eq_getElem hlt] at et;exact Option.some.inj et
       rw [et'] at cl
       unfold Qb8 at cl
       cases est:Qdp tg t ρi with
       | none=>rw [est] at cl;cases cl
       | some ρ4 =>
        rw [est] at cl
        replace cl:(evC p.cf cs ρ4).bind _=.ok tsF ρF:=cl
        obtain ⟨b,ρ5,eb,cl⟩:=Qkp cl
        refine ⟨_,G2,ρi,t,ρ4,I3,ix3,est,fun σ4 I4 old=>?_⟩
        have np4:∀ k,¬ PrvAt σ4 ρ4 k l:=fun k hk=>np k (old k l hk)
        have npw4:∀ k,¬ PrvAt σ4 ρ4 k lw:=fun k hk=>npw k (old k lw hk)
        refine ⟨G2,ρ4,I4.self,?_⟩
        rw [show p.calm.cf=p.cf from rfl,eb]
        intro H5 G5 I5
        have np5:=I4.nobody I5 (s3 _ _ el) np4
        have npw5:=I4.nobody I5 (s3 _ _ ew) npw4
        have I5':=I4.trans I5
        have el5:H5 l=some (.lst ys):=I5.chg l _ (fun z=>by obtain ⟨j,z⟩:=OwA.prv z;exact np4 j z) (fun z=>by obtain ⟨j,z⟩:=MlA.prv z;exact np4 j z) (s3 _ _ el)
        have ew5:H5 lw=some (.lst vs):=I5.chg lw _ (fun z=>by obtain ⟨j,z⟩:=OwA.prv z;exact npw4 j z) (fun z=>by obtain ⟨j,z⟩:=MlA.prv z;exact npw4 j z) (s3 _ _ ew)
        have il5:IsL (dls H5 G5) ys acc:=(il.mono (Qbh s3)).mono (I4.same I5)
        cases b with
        | false =>
         simp only [Bool.false_eq_true,if_false] at cl ⊢
         exact ⟨m-1,by omega,by omega,G5,ρ5,acc,I5',I5.gg l gl,np5,el5,il5,zl,npw5,ew5,cl⟩
        | true =>
         simp only [if_true] at cl ⊢
         obtain ⟨r,ρ6,er,cl⟩:=Qkp cl
         refine ⟨G5,ρ5,I5'.self,?_⟩
         rw [show p.calm.cf=p.cf from rfl,er]
         intro v H6 G6 I6 r6
         cases ef:frz r with
         | none=>rw [ef] at cl;cases cl
         | some t6 =>
          rw [ef] at cl
          replace cl:(if acc.length<100000 then Qb8 tg (evC p.cf cs) (evE p.cf e') (ts.drop (i+1)) (acc++[t6]) ρ6 else .no)=.ok tsF ρF:=cl
          by_cases za:acc.length<100000
          ·rw [if_pos za] at cl
           have np6:=I5'.nobody I6 el5 np5
           have npw6:=I5'.nobody I6 ew5 npw5
           have el6:H6 l=some (.lst ys):=I6.chg l _ (fun z=>by obtain ⟨j,z⟩:=OwA.prv z;exact np5 j z) (fun z=>by obtain ⟨j,z⟩:=MlA.prv z;exact np5 j z) el5
           have ew6:H6 lw=some (.lst vs):=I6.chg lw _ (fun z=>by obtain ⟨j,z⟩:=OwA.prv z;exact npw5 j z) (fun z=>by obtain ⟨j,z⟩:=MlA.prv z;exact npw5 j z) ew5
           have il6:IsL (dls H6 G6) ys acc:=il5.mono (I5'.same I6)
           obtain ⟨G7,I7,i7,s7⟩:=PVR.lay (B:=Qan H5 G5 σ4 ρ5) r6 I6 ef
           have g7:G7 l:=I7.gg l (I5.gg l gl)
           have I7':=I5'.trans I7
           have hb:(Qan H G (Qea js σ) (Qcl js ρ)).H l=none:=hl
           obtain ⟨I8,s8⟩:=I7'.under (ys:=ys++[v]) g7 np6 hb
           have zy:=il6.length
           refine ⟨el6,by rw [zy,sizeLine_eq];omega,m-1,by omega,by omega,G7,ρ6,acc++[t6],I8,g7,np6,Qr,((il6.mono (Qce s7)).append (.one i7)).mono s8,by rw [List.length_append,List.length_singleton];omega,npw6,by rw [Qw hne];exact ew6,cl⟩
          ·rw [if_neg za] at cl;cases cl
      ·have e0:ts.drop i=[]:=List.drop_of_length_le (by omega)
       rw [e0] at cl
       cases cl
       refine .inl ⟨wk.stop i H2 (by omega) ok2,h1 _ H2 G2 (F1.uncap hap I2 hkept) ?_⟩
       refine ⟨l,rfl,F1.free hl,gl,fun k hk=>?_,.lst ys,el,zl,il⟩
       obtain ⟨⟨u,eu⟩,q⟩:=hk
       rw [Qe8] at eu
       have:∃ u,(Qa ρ k).prv=some u:=by
        rcases Qcz js ρF k (Qa ρ k) with z | ⟨_,t,_,_,z⟩
        ·rw [z] at eu;exact ⟨u,eu⟩
        ·rw [z] at eu;exact Qko eu
       obtain ⟨_,t,ob,ea,_⟩:=PrvAt.at F1 ⟨this,q⟩
       rw [hl] at ea
       cases ea
     ·simp only [if_neg hz] at h1
      exact False.elim h1
   ·simp only [if_neg hj] at h1
    exact False.elim h1
theorem Q35 {elt:Expr}{i0:Nat}{tg:Tg}{e':E}(hcalm:X.calm=true)
  (hi:QI X tgE iter (Qst K (Qcc i0))) (hg:∀ s H fp,QG (Q0 X scope N s H fp) tgE (tG tg)) (hc:∀ s H fp,QC (Q0 X scope N s H fp) ifs (tCs p.calm cs)) (he:∀ s H fp,QE (Q0 X scope N s H fp) elt (tE p.calm e'))
  (hk:scope.kind=.function) (h1:scOk X scope=true) (h2:Qgw X scope N js=true) (hs:∀ x,foldedSetIterable iter X.env x=pure x):QE X (.ListComp elt [⟨tgE,iter,ifs,0⟩] scope pos) (tE p (.compS i0 js tg cs e')) :=
 (Qx7 N js hcalm hi hg hc he hk h1 h2 hs).weak fun σ H Q h=>Qzn h
theorem Q36 {elt:Expr}{e':E}(N:List Str)(js:List (Option Nat)){i0:Nat}{tg:Tg}(hcalm:X.calm=true)
  (hi:QI X tgE iter (Qst K (Qcc i0))) (hg:∀ s H fp,QG (Q0 X scope N s H fp) tgE (tG tg)) (hc:∀ s H fp,QC (Q0 X scope N s H fp) ifs (tCs p.calm cs)) (he:∀ s H fp,QE (Q0 X scope N s H fp) elt (tE p.calm e'))
  (hk:scope.kind=.function:=by rfl) (h1:scOk X scope=true:=by rfl) (h2:Qgw X scope N js=true:=by rfl) (hs:∀ x,foldedSetIterable iter X.env x=pure x:=by intro _;rfl):QE X (.ListComp elt [⟨tgE,iter,ifs,0⟩] scope pos) (tE p (.compS i0 js tg cs e')):=Q35 hcalm hi hg hc he hk h1 h2 hs
section
variable {H H1:Hp} {b:Addr} {o:HO}
end
section
variable {X:Cx}
noncomputable def Qzo (n:Int) (v:Value):Bool:=match v with
 | .int m _=>m==n
 | _=>false
theorem Qzp {n:Int}:∀ {is:List Int} {j:Nat},ixI n is=some j→is[j]?=some n∧∀ m,m<j→is[m]?≠some n
 | [],j,h=>by cases h
 | i::is,j,h=>by
  unfold ixI at h
  by_cases e:i=n
  ·rw [if_pos e] at h
   cases h
   exact ⟨by rw [e];rfl,fun m hm=>absurd hm (Nat.not_lt_zero _)⟩
  ·rw [if_neg e] at h
   cases h2:ixI n is with
   | none=>rw [h2] at h;cases h
   | some k =>
    rw [h2] at h
    cases h
    obtain ⟨a,b⟩:=Qzp h2
    refine ⟨a,fun m hm=>?_⟩
    cases m with
    | zero=>intro z;exact e (Option.some.inj z)
    | succ m=>rw [List.getElem?_cons_succ];exact b m (Nat.lt_of_succ_lt_succ hm)
def Qo7:V→List V→Hp→VK→Prop:=fun x vs H Q=>∃ (l:Addr) (is:List Int) (n:Int) (j:Nat),x=.ref l∧vs=[.int n]∧H l=some (.lst (is.map V.int))∧is.length≤1000∧ixI n is=some j∧Q (.int (j:Nat)) H
theorem Qwn:MtM X "list.index" Qo7:=by
 intro pins s σ H x vs v us Q I rx rv h
 obtain ⟨l,is,n,j,rfl,rfl,hH,hz,hj,q⟩:=h
 obtain ⟨hj,hno⟩:=Qzp hj
 cases rx
 obtain ⟨u,rfl,ru⟩:=rv.one
 obtain ⟨tk,rfl⟩:=ru
 obtain ⟨z,its,c,r,hl,e⟩:=I.lstM hH
 have ia:=Qh1 r
 have hlen:=r.length
 rw [List.length_map] at hlen
 have hjl:j<is.length:=(List.getElem?_eq_some_iff.mp hj).1
 have hat:∀ (m:Nat) (hm:m<its.length),∃ t,its[m]=.int (is.getD m 0) t:=fun m hm=>IntsAre.int_at ia m _ (List.getElem?_eq_getElem hm)
 refine call_meets F.slot_list_index ⟨_,e,rfl⟩ F.entry_list_index (F.args_list_index_2 _ _) (SeqAt.list_indexAt l _ c none #[] (.int n tk) (Qzo n) j (by simp;omega) (by omega) ?_ ?_) ⟨e,fun y hy=>?_,⟨.int _,H,I.tok _,⟨_,rfl⟩,q⟩⟩
 ·obtain ⟨t,et⟩:=hat j (by omega)
  have e1:is.getD j 0=n:=by rw [List.getD_eq_getElem?_getD,hj];rfl
  show Qzo n (its.toArray[j]'(by simp;omega))=true
  rw [List.getElem_toArray,et,e1]
  unfold Qzo
  simp
 ·intro m hm hmj
  have hml:m<its.length:=by simpa using hm
  obtain ⟨t,et⟩:=hat m hml
  have e1:is.getD m 0≠n:=fun z=>hno m hmj (by rw [List.getElem?_eq_getElem (show m<is.length by omega)];rw [List.getD_eq_getElem?_getD,List.getElem?_eq_getElem (show m<is.length by omega)] at z;exact congrArg some z)
  show Qzo n (its.toArray[m]'hm)=false
  rw [List.getElem_toArray,et]
  unfold Qzo
  simpa using e1
 ·have hy:y∈its:=by simpa using hy
  obtain ⟨m,hm,rfl⟩:=List.mem_iff_getElem.mp hy
  obtain ⟨t,et⟩:=hat m hm
  rw [et]
  exact SeqAt.EqAt.int_int _ t n tk
theorem Qzq:QMt X "list.index" Qo7:=⟨Qwn⟩
def Qo8:V→List V→Hp→VK→Prop:=fun x vs H Q=>∃ (l:Addr) (xs:List V) (i:Nat) (y:V),x=.ref l∧vs=[.int (i:Int),y]∧H l=some (.lst xs)∧i≤xs.length∧xs.length<1000000∧Q .non (upd H l (.lst (xs.take i++y::xs.drop i)))
theorem Qq4 {y:V}{u:Value}(h:RelV y u):∀ {xs:List V} {its:List Value},Vals xs its→∀ i:Nat,Vals (xs.take i++y::xs.drop i) (its.take i++u::its.drop i)
 | _,_,r,0=>.cons h r
 | _,_,.nil,i+1=>.cons h .nil
 | _,_,.cons a r,i+1=>.cons a (Qq4 h r i)
theorem Qu1 (xs:List α)(i:Nat)(y:α):(xs.take i++y::xs.drop i).length=xs.length+1:=by
 rw [List.length_append,List.length_cons,List.length_take,List.length_drop]
 omega
theorem Q37 (its:List Value)(u:Value){i:Nat}(hi:i≤its.length):((its.toArray.extract 0 i).push u++its.toArray.extract i)=(its.take i++u::its.drop i).toArray:=by
 apply Array.toList_inj.mp
 simp
 rw [List.take_of_length_le (by rw [List.length_drop];omega)]
def insS (l:Addr) (items:Array Value) (n:Nat) (x:Int) (y:Value):PySem.Spec:=fun _ R s=>s.heap.get? l=some { cls:=.type "list",dict:=none,data:=.seq items n,slots:=#[] }∧R (.ok (.ret Value.none)) { s with heap:=s.heap.update l (Obj.mapSeq fun xs=>have k:=if x<0 then (x+((xs.size:Nat):Int)).toNat else min x.toNat xs.size;(xs.extract 0 k).push y++xs.extract k),toks:=s.toks }
theorem Qwo (l:Addr)(items:Array Value)(n:Nat)(x:Int)(u:Tok)(y:Value)(hc0:¬(!Builtin.List.listFitsIndex x)=true)(hsz:items.size≤sizeLine):Meets (Builtin.«list.insert» ⟨[.ref l,.int x u,y],[]⟩) (insS l items n x y):=@PySem.AutoListH.list_insert_list_int_val_1 l items n x u y hc0 hsz
theorem Qwp:MtM X "list.insert" Qo8:=by
 intro pins s σ H x vs v us Q I rx rv h
 obtain ⟨l,xs,i,y,rfl,rfl,hH,hi,hz,q⟩:=h
 cases rx
 cases rv with
 | cons r1 rv =>
  cases rv with
  | @cons _ u _ _ ru rn =>
  cases rn
  obtain ⟨tk,rfl⟩:=r1
  obtain ⟨z,its,n,r,hl,e⟩:=I.lstM hH
  have hlen:=r.length
  have hc1:Builtin.List.listFitsIndex (i:Int)=true:=by
   unfold Builtin.List.listFitsIndex
   rw [Bool.and_eq_true,decide_eq_true_eq,decide_eq_true_eq]
   exact ⟨by omega,by omega⟩
  have hc0:¬(!Builtin.List.listFitsIndex (i:Int))=true:=by rw [hc1];exact Bool.false_ne_true
  have hsz:its.toArray.size≤sizeLine:=by rw [List.size_toArray,sizeLine_eq];omega
  have mm:=@Qwo l its.toArray n (i:Int) tk u hc0 hsz
  have ty:s.TypeIs (.ref l) "list" := ⟨_,e,rfl⟩
  have ar:=F.args_list_insert_3 (.ref l) (.int (i:Int) tk) u
  refine @call_meets X.prog X.w X.A X.xe s "list" "insert" "list.insert" Builtin.«list.insert» (.ref l) [.int (i:Int) tk,u] (insS l its.toArray n (i:Int) u) _ F.slot_list_insert ty F.entry_list_insert ar @mm ?_
  refine ⟨e,?_⟩
  refine ⟨.non,_,I.lset (its':=its.take i++u::its.drop i) hH e ?_ (Qq4 ru r i) ?_,rfl,q⟩
  ·show (its.toArray.extract 0 (if (i:Int)<0 then ((i:Int)+((its.toArray.size:Nat):Int)).toNat else min (i:Int).toNat its.toArray.size)).push u++its.toArray.extract (if (i:Int)<0 then ((i:Int)+((its.toArray.size:Nat):Int)).toNat else min (i:Int).toNat its.toArray.size)=_
   rw [if_neg (by omega),Int.toNat_natCast,Nat.min_eq_left (by rw [List.size_toArray];omega)]
   exact Q37 its u (by omega)
  ·rw [Qu1,sizeLine_eq];omega
theorem Qzr:QMt X "list.insert" Qo8:=⟨Qwp⟩
end
section
variable {X:Cx} {p:Pr} {e a b:Expr} {e' a' k':E} {st:Stmt} {pos p1 apos:Pos} {x:Str} {K:Frg}
theorem IsL.ins {D:Hp}{v:V}{t:T}(hv:Is D v t):∀ {vs:List V} {ts:List T} (n:Nat),IsL D vs ts→IsL D (vs.take n++v::vs.drop n) (Qmq ts n t)
 | vs,ts,0,r=>.cons hv r
 | vs,[],n+1,r=>by rw [r.nil_inv];exact .cons hv .nil
 | vs,u::us,n+1,r=>by
  obtain ⟨w,ws,rfl,a,q⟩:=r.cons_inv
  exact .cons a (IsL.ins hv n q)
theorem Qzs (ts:List T)(n:Nat)(t:T):(Qmq ts n t).length=ts.length+1:=Qu1 ts n t
theorem Qadt {i:Nat}(h:QS X st (Qhq (tBM K "list" Qo8 (Qcc i) (Qb5 (tE p k') (Qb5 (tE p e') Qfw))))):QS X st (tS p (.ins i k' e')):=h.weak fun D σ H ⟨B,G,ρ,F,hO,h⟩=>by
 unfold exS at h
 by_cases hm:(Qa ρ i).mut=true
 ·simp only [if_pos hm] at h
  obtain ⟨a,vs0,sa,ea⟩:=F.mutAt hm
  refine ⟨_,sa,.inl ⟨rfl,_,SqL.of ea⟩,?_⟩
  refine Qe9 F h fun rk ρ1 vk H1 G1 k1 F1 _ pk s1=>?_
  cases rk with
  | ow t=>exact False.elim k1
  | sl j=>exact False.elim k1
  | fz tk =>
   cases tk <;> first | exact False.elim k1 | skip
   rename_i j
   have ev:vk=.int j:=by have a:=pk.is;unfold Is at a;exact a
   subst ev
   refine Qe9 F1 k1 fun r ρ2 v H2 G2 k F2 _ pv s2=>?_
   cases r with
   | ow t=>exact False.elim k
   | sl j=>exact False.elim k
   | fz t =>
    replace k:SFin p B H2 G2 D (match Qa ρ2 i with
     | .ow (.lst ts)=>if ts.length<100000∧0≤j∧j≤ts.length then .nx (ρ2.set i (.ow (.lst (Qmq ts j.toNat t)))) else .no
     | _=>.no):=k
    cases hs:Qa ρ2 i with
    | un=>rw [hs] at k;exact False.elim k
    | pin _=>rw [hs] at k;exact False.elim k
    | fz t=>rw [hs] at k;exact False.elim k
    | ro t=>rw [hs] at k;exact False.elim k
    | ml t=>rw [hs] at k;exact False.elim k
    | ow u =>
     rw [hs] at k
     cases u <;> first | exact False.elim k | skip
     rename_i ts
     replace k:SFin p B H2 G2 D (if ts.length<100000∧0≤j∧j≤ts.length then .nx (ρ2.set i (.ow (.lst (Qmq ts j.toNat t)))) else .no):=k
     by_cases z:ts.length<100000∧0≤j∧j≤ts.length
     ·rw [if_pos z] at k
      obtain ⟨n,rfl⟩:=Int.eq_ofNat_of_zero_le z.2.1
      rw [Int.toNat_natCast] at k
      obtain ⟨a',sa',g,o1⟩:=F2.prvAt (t:=.lst ts) (by rw [hs];rfl)
      obtain ⟨vs,zz,el,il⟩:=o1.lst_inv
      rw [sa] at sa'
      cases sa'
      have lz:=il.length
      obtain ⟨F4,s4⟩:=F2.change (s':=.ow (.lst (Qmq ts n t))) (.inl ⟨hs,rfl⟩) sa (IsL.ins pv.is n il) (by rw [Qzs];omega)
      exact ⟨a,vs,n,v,rfl,rfl,el,by omega,by omega,k σ _ G2 F4 s4⟩
     ·rw [if_neg z] at k;exact False.elim k
 ·simp only [if_neg hm] at h
  exact False.elim h
theorem Qadu {i:Nat}(h:QE X e (tBM K "list" Qo7 (Qcc i) (Qb5 (tE p a') Qfw))):QE X e (tE p (.lix i a')):=h.weak fun σ H Q ⟨G,ρ,F,h⟩=>by
 unfold evE at h
 by_cases hm:(Qa ρ i).mut=true
 ·rw [if_pos hm] at h
  obtain ⟨a,vs0,sa,ea⟩:=F.mutAt hm
  refine ⟨_,sa,.inl ⟨rfl,_,SqL.of ea⟩,⟨G,ρ,F,h.bind.imp fun r ρ1 h1 v H1 G1 F1 r1=>?_⟩⟩
  cases r with
  | ow t=>exact False.elim h1
  | sl j=>exact False.elim h1
  | fz t =>
   cases t <;> first | exact False.elim h1 | skip
   rename_i n
   have ev:v=.int n:=by have a:=r1.is;unfold Is at a;exact a
   subst ev
   replace h1:Fin p (Qan H G σ ρ) σ (match Qwk n (Qa ρ1 i).prv with | some j=>.ok (PV.fz (.int j)) ρ1 | none=>.no) _:=h1
   cases hp:(Qa ρ1 i).prv with
   | none=>rw [hp] at h1;exact False.elim h1
   | some t =>
    rw [hp] at h1
    cases t <;> first | exact False.elim h1 | skip
    rename_i ts
    replace h1:Fin p (Qan H G σ ρ) σ (match (match Qda ts with | some is=>if is.length≤1000 then (ixI n is).map (fun j=>(j:Int)) else none | none=>none) with | some j=>.ok (PV.fz (.int j)) ρ1 | none=>.no) _:=h1
    cases hi:Qda ts with
    | none=>rw [hi] at h1;exact False.elim h1
    | some is =>
     rw [hi] at h1
     replace h1:Fin p (Qan H G σ ρ) σ (match (if is.length≤1000 then (ixI n is).map (fun j=>(j:Int)) else none) with | some j=>.ok (PV.fz (.int j)) ρ1 | none=>.no) _:=h1
     by_cases hz:is.length≤1000
     ·rw [if_pos hz] at h1
      cases hj:ixI n is with
      | none=>rw [hj] at h1;exact False.elim h1
      | some j =>
       rw [hj] at h1
       obtain ⟨a',sa',g,o1⟩:=F1.prvAt hp
       obtain ⟨vs,zz,el,il⟩:=o1.lst_inv
       rw [sa] at sa'
       cases sa'
       rw [Qer hi] at il
       have evs:=IsL.ints_inv il
       subst evs
       exact ⟨a,is,n,j,rfl,rfl,el,hz,hj,h1 (.int j) H1 G1 F1 pvI⟩
     ·rw [if_neg hz] at h1;exact False.elim h1
 ·rw [if_neg hm] at h
  exact False.elim h
end
end L2
namespace L2
open PySem PySem.Spec PyProof.Rows PySem.W
variable {us:List Value} {H H' H0:Hp} {o:HO} {h:Heap} {α:Type} {P:Program} {w:World} {t' k n iW iS iT:Nat} {N ps:List Str} {j:Int} {A:Around} {X:Cx} {e:E} {s:Shared} {pins:List (Addr×Obj)} {σ:St} {pos:Pos} {op:CmpOp} {c tg iter tgE:Expr} {K:Frg} {D:Ends} {es ifs:List Expr} {te:TE} {g:TG} {body:List Stmt} {Q:VK} {kindOf:Str→Option NameKind} {qual:Str} {scope:Scope} {sp:Sp} {st:Stmt} {kvs:List (List Key×V)} {env:Env} {js:List (Option Nat)} {G:Addr→Prop} {ρ ρ':En} {B:Bs} {p:Pr} {cs:Es} {uF:T}
def Itd (a:Addr) (kvs:List (List Key×V)):It :=
 ⟨fun i H=>H a=some (.dT kvs)∧i<kvs.length,fun i H x H'=>H'=H∧∃ b p,x=.ref b∧kvs[i]?=some p∧H b=some (.tup (p.1.map kV)),fun i H=>H a=some (.dT kvs)∧kvs.length≤i⟩
theorem Qzt {a:Addr}(ok:HOk P w H h)(e:H a=some (.dT kvs)) :
  (a==sysModules)=false∧∃ (xs:List (List Key×Addr×Value)) (es:Array DictEntry),KT H kvs xs∧DAt h a es kvs.length∧es.toList=xs.map (entryOfKey (tupleKind (Qbg P w)))∧es.size=kvs.length:=by
 obtain ⟨_,hd,xs,rel,o,es,ep,h1,h2,h3,h4,_,h6⟩:=(show ObjOk P w H h a (.dT kvs) from ok a _ e)
 have hn:es.size=xs.length:=size_of_entries h4
 have hl:kvs.length=xs.length:=Paired.length rel
 have ee:ep=kvs.length:=by rw [h6,hn,hl]
 exact ⟨hd,xs,es,rel,⟨o,h1,h2,by rw [h3,ee]⟩,h4,by rw [hn,hl]⟩
theorem KT.get:∀ {kvs:List (List Key×V)} {xs:List (List Key×Addr×Value)},KT H kvs xs→∀ {i:Nat} {p:List Key×V},kvs[i]?=some p→∃ x,xs[i]?=some x∧H x.2.1=some (.tup (p.1.map kV))
 | _,_,.cons h t,0,p,e=>by
  cases e
  exact ⟨_,rfl,h.2.1⟩
 | _,_,.cons h t,i+1,p,e=>by
  rw [List.getElem?_cons_succ] at e ⊢
  exact KT.get t e
theorem Qwq (a it:Addr)(kvs:List (List Key×V)):Turn P w K tg (Itd a kvs) [it] it (fun i h=>h.IsKeyIter it a i kvs.length kvs.length) where
 mem:=by simp
 obj:=fun i h st b hb=>by
  have e:b=it:=by simpa using hb
  subst e
  obtain ⟨o,e,c,d⟩:=st
  exact ⟨o,e,fun v z=>by rw [d] at z;cases z⟩
 keep:=fun i h h' st k=>st.at fun o e=>k it (by simp) o e
 item:=by
  intro X hP hw hK hc i pins s σ H E I hf st hg
  subst hP hw hK
  obtain ⟨ha,hi⟩:=hg
  obtain ⟨hd,xs,es,rel,hm,h4,hz⟩:=Qzt I.hok ha
  obtain ⟨f0,f1,f2,f3,f4,f5⟩:=hf it (by simp)
  rw [←hz] at st hm
  obtain ⟨x,ex,hx⟩:=rel.get (List.getElem?_eq_getElem hi)
  have hie:i<es.size:=by omega
  have ek:es[i].key=.ref x.2.1:=by
   have e2:=entry_at h4 i
   rw [Array.getElem?_eq_getElem hie,ex] at e2
   have e3:=Option.some.inj e2
   rw [e3]
   rfl
  refine Qzm st hm hie fun h' st' sb=>?_
  have I1:Inv X pins σ H { s with heap:=h' }:=I.turned (t':=s.toks) (fun b o hb e=>(sb.2 b hb).trans e) f0 f1 f3 f4 f5
  rw [ek]
  obtain ⟨o,e,c,d⟩:=id st'
  rw [hz] at st'
  exact ⟨.ref x.2.1,rfl,Qt8 (s:={ s with heap:=h' }) e c d (by decide) ⟨.ref x.2.1,H,I1,rfl,⟨rfl,x.2.1,_,rfl,List.getElem?_eq_getElem hi,hx⟩,st',fun b hb=>(hf b hb).1⟩⟩
 done:=by
  intro X hP hw hK hc i pins s σ H E I hf st hg
  subst hP hw hK
  obtain ⟨ha,hi⟩:=hg
  obtain ⟨hd,xs,es,rel,hm,h4,hz⟩:=Qzt I.hok ha
  obtain ⟨f0,f1,f2,f3,f4,f5⟩:=hf it (by simp)
  rw [←hz] at st hm
  exact Q33 (I.ok.hd hc) st hm (by omega) fun h' eb=>⟨rfl,I.turned (t':=s.toks) (fun b o hb e=>eb b o hb e) f0 f1 f3 f4 f5⟩
 self:=fun _ _ _ _ _ st h=>wpAny_pyIter_keyiter st h
section
variable {X:Cx} {tg l e:Expr} {tl:TE}
def iDk (te:TE):TI:=fun σ H R=>te σ H fun v H1=>∃ a kvs,v=.ref a∧H1 a=some (.dT kvs)∧R (Itd a kvs) H1
theorem Q38 (hl:PE X l tl):PI X tg l (iDk tl):=by
 intro pins s σ H R I h
 refine thn (hl pins s σ H _ I h) fun v s1 ⟨x,H1,I1,r1,q1⟩=>?_
 obtain ⟨a,kvs,e,ha,q⟩:=q1
 subst e
 cases r1
 obtain ⟨hd,xs,es,rel,hm,h4,hz⟩:=Qzt I1.hok ha
 refine Qzl hd hm ?_
 refine ⟨s1.heap.objs.size,[s1.heap.objs.size],_,_,H1,rfl,I1.kept (t':=s1.toks) fun b o e=>Heap.get?_push_of_some _ e,Qwq a _ kvs,⟨_,Heap.get?_push_size _ rfl,rfl,by rw [hz];rfl⟩,fun b hb=>?_,q⟩
 have e:b=s1.heap.objs.size:=by simpa using hb
 subst e
 exact I1.fpOk (Nat.le_refl _) (I1.hok.fresh (Nat.le_refl _))
theorem q_dk (hl:QE X l tl):QI X tg l (iDk tl):=⟨Q38 hl.h⟩
end
section
variable {X:Cx} {p:Pr} {tg e:Expr} {e':E}
theorem wk_d {a:Addr}{ks:List (List Int)}{vs:List V}(hl:ks.length=vs.length)(hz:ks.all (fun k=>decide (k.length≤100000))=true) :
  WkR (Itd a ((ks.map kIs).zip vs)) H G (fun H'=>H' a=some (.dT ((ks.map kIs).zip vs))) (ks.map fun k=>T.tup (k.map T.int)) where
 go:=fun i H' hi ok=>⟨ok,by rw [List.length_map] at hi;rw [List.length_zip,List.length_map];omega⟩
 stop:=fun i H' hi ok=>⟨ok,by rw [List.length_map] at hi;rw [List.length_zip,List.length_map];omega⟩
 yld:=fun i H' x H2 hi ok y=>by
  obtain ⟨rfl,b,p,rfl,ep,hb⟩:=y
  rw [List.length_map] at hi
  have hp:p.1=kIs ks[i]:=by
   have hv:i<vs.length:=by omega
   have:=List.getElem?_zip_eq_some.mp (show ((ks.map kIs).zip vs)[i]?=some (p.1,p.2) from ep)
   have h1:=this.1
   rw [List.getElem?_map,List.getElem?_eq_getElem hi] at h1
   exact (Option.some.inj h1).symm
  refine ⟨Same.refl _,_,by rw [List.getElem?_map,List.getElem?_eq_getElem hi];rfl,fun G' pn s=>?_⟩
  rw [hp] at hb
  have hk:(kIs ks[i]).map kV=ks[i].map V.int:=by unfold kIs;rw [List.map_map];rfl
  rw [hk] at hb
  exact Qeb pn hb (IsL.ints _) (by rw [List.length_map];exact of_decide_eq_true (List.all_eq_true.mp hz _ (List.getElem_mem hi)))
theorem Qzu (ha:QE X e (tE p e')):QI X tg e (tW p (.dks e')):=(q_dk ha).weak fun σ H R ⟨G,ρ,F,h⟩=>by
 unfold evW at h
 refine ⟨G,ρ,F,h.bind.imp fun r ρ1 h1 v H1 G1 F1 r1=>?_⟩
 cases r with
 | ow t=>exact False.elim h1
 | sl i=>exact False.elim h1
 | fz t =>
  cases t <;> first | exact False.elim h1 | skip
  rename_i ks ts
  replace h1:Fin p (Qan H G σ ρ) σ (if ks.all (fun k=>decide (k.length≤100000))=true then .ok (ks.map fun k=>T.tup (k.map T.int),none) ρ1 else .no) _:=h1
  by_cases hz:ks.all (fun k=>decide (k.length≤100000))=true
  ·rw [if_pos hz] at h1
   obtain ⟨_,k⟩:=h1
   have iv:=r1.is
   unfold Is at iv
   obtain ⟨_,a,vs,rfl,el,hl,il⟩:=iv
   exact ⟨a,_,rfl,(Q5 el).2,k _ H1 G1 _ F1 (wk_d hl hz) fun H' G2 s=>(Q5 (s _ _ el)).2⟩
  ·rw [if_neg hz] at h1;exact False.elim h1
end
noncomputable def Qn2 (H:Hp) (σ:St) (ρ:En):Hp:=by
 classical
 exact fun b=>if OwA σ ρ b then none else H b
section
variable {B:Bs} {H H1:Hp} {G G1:Addr→Prop} {σ σ1:St} {ρ ρ1:En} {b:Addr} {o:HO}
theorem Qlr (h:OwA σ ρ b):Qn2 H σ ρ b=none:=by
 unfold Qn2
 exact if_pos h
theorem Qdl (h:¬ OwA σ ρ b):Qn2 H σ ρ b=H b:=by
 unfold Qn2
 exact if_neg h
theorem Qn3 (h:Qn2 H σ ρ b=some o):¬ OwA σ ρ b∧H b=some o:=by
 by_cases z:OwA σ ρ b
 ·rw [Qlr z] at h;cases h
 ·rw [Qdl z] at h;exact ⟨z,h⟩
noncomputable abbrev bsB (H:Hp) (G:Addr→Prop) (σ:St) (ρ:En):Bs:=⟨Qn2 H σ ρ,fun b=>G b∧¬ OwA σ ρ b,fun _=>False,MlA σ ρ,PnA σ ρ⟩
theorem FI.rebase (F:FI B H G σ ρ):FI (bsB H G σ ρ) H G σ ρ where
 len:=F.len
 slot:=F.slot
 apart:=F.apart
 prv:=F.prv
 chg:=fun b o _ _ e=>(Qn3 e).2
 keep:=fun b o e=>⟨o,(Qn3 e).2⟩
 newO:=fun a h=>.inl (Qlr h)
 newM:=fun a h=>h
 fix:=fun i a h=>h
 gg:=fun b h=>h.1
 gn:=fun b h=>by
  by_cases z:OwA σ ρ b
  ·exact .inr (Qlr z)
  ·exact .inl ⟨h,z⟩
 bp:=fun b h=>by
  obtain ⟨o,e,_⟩:=F.prv b h.1
  exact ⟨o,(Qdl h.2).trans e⟩
theorem FI.transR (F:FI B H G σ ρ)(hO:∀ a,¬ B.O a)(F1:FI (bsB H G σ ρ) H1 G1 σ1 ρ1):FI B H1 G1 σ1 ρ1 where
 len:=F1.len
 slot:=F1.slot
 apart:=F1.apart
 prv:=F1.prv
 chg:=fun b o h1 h2 e=>by
  have z:¬ OwA σ ρ b:=fun z=>(F.newO b z).elim (fun q=>by rw [q] at e;cases e) (hO b)
  exact F1.chg b o (fun q=>q) (fun q=>h2 (F.newM b q)) ((Qdl z).trans (F.chg b o h1 h2 e))
 keep:=fun b o e=>by
  have z:¬ OwA σ ρ b:=fun z=>(F.newO b z).elim (fun q=>by rw [q] at e;cases e) (hO b)
  obtain ⟨o',e'⟩:=F.keep b o e
  exact F1.keep b o' ((Qdl z).trans e')
 newO:=fun a h=>by
  rcases F1.newO a h with q | q
  ·by_cases z:OwA σ ρ a
   ·exact F.newO a z
   ·exact .inl (F.free ((Qdl z).symm.trans q))
  ·exact q.elim
 newM:=fun a h=>F.newM a (F1.newM a h)
 fix:=fun i a h=>F.fix i a (F1.fix i a h)
 gg:=fun b h=>by
  have z:¬ OwA σ ρ b:=fun z=>by
   obtain ⟨o,e⟩:=F.bp b h
   exact (F.newO b z).elim (fun q=>by rw [q] at e;cases e) (hO b)
  exact F1.gg b ⟨F.gg b h,z⟩
 gn:=fun b h=>by
  rcases F1.gn b h with q | q
  ·exact F.gn b q.1
  ·by_cases z:OwA σ ρ b
   ·exact .inr ((F.newO b z).resolve_right (hO b))
   ·exact .inr (F.free ((Qdl z).symm.trans q))
 bp:=F.bp
theorem blk {s:S}(F:FI B H G σ ρ)(hO:∀ a,¬ B.O a)(e:exS p.cf s ρ=.nx ρ1)
  (k:∀ σ1 H1 G1,FI B H1 G1 σ1 ρ1→Same (dls H G) (dls H1 G1)→(∀ b o,¬ OwA σ ρ b→¬ MlA σ ρ b→H b=some o→H1 b=some o)→(∀ b,G b→¬ OwA σ ρ b→G1 b)→(∀ a,OwA σ1 ρ1 a→H a=none∨OwA σ ρ a)→(∀ i a,PnA σ1 ρ1 i a→PnA σ ρ i a)→D.nx σ1 H1):tS p s D σ H:=by
 refine ⟨bsB H G σ ρ,G,ρ,F.rebase,fun _ q=>q,?_⟩
 rw [e]
 intro σ1 H1 G1 F1 sm
 refine k σ1 H1 G1 (F.transR hO F1) sm (fun b o h1 h2 e=>F1.chg b o (fun q=>q) h2 ((Qdl h1).trans e)) (fun b g h1=>F1.gg b ⟨g,h1⟩) (fun a h=>?_) fun i a h=>F1.fix i a h
 rcases F1.newO a h with q | q
 ·by_cases z:OwA σ ρ a
  ·exact .inr z
  ·exact .inl ((Qdl z).symm.trans q)
 ·exact q.elim
theorem IsL.app1 {D:Hp}:∀ {vs:List V} {ts:List T} {v:V} {t:T},IsL D vs ts→Is D v t→IsL D (vs++[v]) (ts++[t])
 | vs,[],v,t,r,h=>by rw [r.nil_inv];exact .cons h .nil
 | vs,u::us,v,t,r,h=>by
  obtain ⟨w,ws,rfl,a,q⟩:=r.cons_inv
  exact .cons a (IsL.app1 q h)
theorem Qzv (F:FI B H G σ ρ)(hO:∀ a,¬ B.O a){iR iH:Nat}(hne:iR≠iH){lr r:Addr}{ts us:List T}{vs:List V}(sR:Qa ρ iR=.ow (.lst ts))(eR:σ[iR]?=some (some (.ref lr)))(hlr:H lr=some (.lst vs))
  (sH:Qa ρ iH=.ow (.lst us)) (eH:σ[iH]?=some (some (.ref r))) (z:ts.length<100000) (hts:∀ t∈ts,∃ us,t=.lst us) :
  V.ref r∉vs∧B.H r=none∧r≠lr∧G r∧∃ G1,¬ G1 r∧FI B (upd H lr (.lst (vs++[.ref r]))) G1 σ ((ρ.set iH (.fz (.lst us))).set iR (.ow (.lst (ts++[.lst us]))))∧Same (dls H G) (dls (upd H lr (.lst (vs++[.ref r]))) G1):=by
 obtain ⟨a1,x1,g1,o1⟩:=F.prvAt (i:=iR) (t:=.lst ts) (by rw [sR];rfl)
 rw [eR] at x1
 cases x1
 obtain ⟨vs1,_,e1,il⟩:=o1.lst_inv
 rw [hlr] at e1
 cases e1
 obtain ⟨a2,x2,g2,o2⟩:=F.prvAt (i:=iH) (t:=.lst us) (by rw [sH];rfl)
 rw [eH] at x2
 cases x2
 have hr:V.ref r∉vs:=fun hm=>by
  obtain ⟨k,hk,ek⟩:=List.mem_iff_getElem.mp hm
  obtain ⟨t,et,it⟩:=IsL.get il (List.getElem?_eq_getElem hk)
  rw [ek] at it
  obtain ⟨us',rfl⟩:=hts t (List.mem_of_getElem? et)
  obtain ⟨b,ws,eb,hb,_⟩:=it.lst_inv
  cases eb
  exact (Q5 hb).1 g2
 have hrl:r≠lr:=fun z=>by
  subst z
  exact hne (F.apart iR iH r ⟨⟨_,by rw [sR];rfl⟩,eR⟩ ⟨⟨_,by rw [sH];rfl⟩,eH⟩)
 have hB:B.H r=none:=(F.newO r ⟨iH,_,sH,eH⟩).resolve_right (hO r)
 obtain ⟨G1,F1,s1⟩:=F.freeze hO sH
 have sR1:Qa (ρ.set iH (.fz (.lst us))) iR=.ow (.lst ts):=by
  rw [Qg,if_neg fun z=>hne z.1]
  exact sR
 obtain ⟨a3,x3,g3,o3⟩:=F1.prvAt (i:=iR) (t:=.lst ts) (by rw [sR1];rfl)
 rw [eR] at x3
 cases x3
 obtain ⟨vs3,_,e3,il3⟩:=o3.lst_inv
 rw [hlr] at e3
 cases e3
 have hi:iH<ρ.length:=by
  rw [←F.len]
  exact (List.getElem?_eq_some_iff.mp eH).1
 have sl:=F1.slot iH
 have sH1:Qa (ρ.set iH (.fz (.lst us))) iH=.fz (.lst us):=by
  rw [Qg,if_pos ⟨rfl,hi⟩]
 rw [sH1] at sl
 obtain ⟨v,ev,iv⟩:=sl
 rw [eH] at ev
 cases ev
 have hG1:¬ G1 r:=by
  obtain ⟨b,ws,eb,hb,_⟩:=iv.lst_inv
  cases eb
  exact (Q5 hb).1
 obtain ⟨F2,s2⟩:=F1.change (s':=.ow (.lst (ts++[.lst us]))) (.inl ⟨sR1,rfl⟩) eR (IsL.app1 il3 iv) (by rw [List.length_append,List.length_singleton];omega)
 exact ⟨hr,hB,hrl,g2,G1,hG1,F2,s1.trans s2⟩
theorem FI.weakE (F:FI B H G σ ρ)(hl:ρ'.length=ρ.length)(hw:∀ i,Qa ρ' i=.un∨Qa ρ' i=Qa ρ i):FI B H G σ ρ' where
 len:=by rw [hl];exact F.len
 slot:=fun i=>by
  rcases hw i with e | e
  ·rw [e];trivial
  ·rw [e];exact F.slot i
 apart:=fun i j a h1 h2=>F.apart i j a (by
  obtain ⟨⟨t,e⟩,s⟩:=h1
  rcases hw i with z | z <;> rw [z] at e
  ·cases e
  ·exact ⟨⟨t,e⟩,s⟩) (by
  obtain ⟨⟨t,e⟩,s⟩:=h2
  rcases hw j with z | z <;> rw [z] at e
  ·cases e
  ·exact ⟨⟨t,e⟩,s⟩)
 prv:=F.prv
 chg:=F.chg
 keep:=F.keep
 newO:=fun a h=>by
  obtain ⟨i,t,e,s⟩:=h
  rcases hw i with z | z <;> rw [z] at e
  ·cases e
  ·exact F.newO a ⟨i,t,e,s⟩
 newM:=fun a h=>by
  obtain ⟨i,t,e,s⟩:=h
  rcases hw i with z | z <;> rw [z] at e
  ·cases e
  ·exact F.newM a ⟨i,t,e,s⟩
 fix:=fun i a h=>by
  obtain ⟨⟨t,e⟩,s⟩:=h
  rcases hw i with z | z <;> rw [z] at e
  ·rcases e with e | e <;> cases e
  ·exact F.fix i a ⟨⟨t,e⟩,s⟩
 gg:=F.gg
 gn:=F.gn
 bp:=F.bp
def Slot.kd:Slot→Nat
 | .un=>0
 | .fz _=>1
 | .ow _=>2
 | .ml _=>3
 | .ro _=>4
 | .pin _=>5
theorem FI.poke {r:Addr}{ws ws':List V}(F:FI B H G σ ρ)(hr:H r=some (.lst ws))(hg:¬ G r)(hB:B.H r=none)(hl:ρ'.length=ρ.length)(hk:∀ i,(Qa ρ' i).kd=(Qa ρ i).kd)
  (hs:∀ i,Qle (upd H r (.lst ws')) G σ i (Qa ρ' i)):FI B (upd H r (.lst ws')) G σ ρ':=by
 have pv:∀ i a,PrvAt σ ρ' i a→PrvAt σ ρ i a:=fun i a h=>by
  obtain ⟨⟨t,e⟩,s⟩:=h
  have k:=hk i
  refine ⟨?_,s⟩
  cases e1:Qa ρ' i <;> rw [e1] at k e <;> first | (cases e;done) | skip
  all_goals (cases e2:Qa ρ i <;> rw [e2] at k <;> first | (cases k;done) | exact ⟨_,rfl⟩)
 have ow:∀ a,OwA σ ρ' a→OwA σ ρ a:=fun a h=>by
  obtain ⟨i,t,e,s⟩:=h
  have k:=hk i
  rw [e] at k
  cases e2:Qa ρ i <;> rw [e2] at k <;> first | (cases k;done) | exact ⟨i,_,e2,s⟩
 have ml:∀ a,MlA σ ρ' a→MlA σ ρ a:=fun a h=>by
  obtain ⟨i,t,e,s⟩:=h
  have k:=hk i
  rw [e] at k
  cases e2:Qa ρ i <;> rw [e2] at k <;> first | (cases k;done) | exact ⟨i,_,e2,s⟩
 have pn:∀ i a,PnA σ ρ' i a→PnA σ ρ i a:=fun i a h=>by
  obtain ⟨⟨t,e⟩,s⟩:=h
  have k:=hk i
  refine ⟨?_,s⟩
  rcases e with e | e
  ·rw [e] at k
   cases e2:Qa ρ i <;> rw [e2] at k <;> first | (cases k;done) | exact ⟨_,.inl rfl⟩
  ·rw [e] at k
   cases e2:Qa ρ i <;> rw [e2] at k <;> first | (cases k;done) | exact ⟨_,.inr rfl⟩
 refine ⟨by rw [hl];exact F.len,hs,fun i j a h1 h2=>F.apart i j a (pv i a h1) (pv j a h2),fun b h=>?_,fun b o h1 h2 e=>?_,fun b o e=>?_,fun a h=>F.newO a (ow a h),fun a h=>F.newM a (ml a h),fun i a h=>F.fix i a (pn i a h),F.gg,F.gn,F.bp⟩
 ·obtain ⟨o,e,q⟩:=F.prv b h
  have nb:b≠r:=fun z=>hg (by rw [←z];exact h)
  exact ⟨o,by rw [Qw nb];exact e,q⟩
 ·rw [Qw fun z=>by rw [z,hB] at e;cases e]
  exact F.chg b o h1 h2 e
 ·obtain ⟨o',e'⟩:=F.keep b o e
  exact ⟨o',by rw [Qw fun z=>by rw [z,hB] at e;cases e];exact e'⟩
theorem FI.tell (F:FI B H G σ ρ)(hl:ρ'.length=ρ.length)(hk:∀ i,(Qa ρ' i).kd=(Qa ρ i).kd)(hs:∀ i,Qle H G σ i (Qa ρ' i)):FI B H G σ ρ':=by
 have pv:∀ i a,PrvAt σ ρ' i a→PrvAt σ ρ i a:=fun i a h=>by
  obtain ⟨⟨t,e⟩,s⟩:=h
  have k:=hk i
  refine ⟨?_,s⟩
  cases e1:Qa ρ' i <;> rw [e1] at k e <;> first | (cases e;done) | skip
  all_goals (cases e2:Qa ρ i <;> rw [e2] at k <;> first | (cases k;done) | exact ⟨_,rfl⟩)
 have ow:∀ a,OwA σ ρ' a→OwA σ ρ a:=fun a h=>by
  obtain ⟨i,t,e,s⟩:=h
  have k:=hk i
  rw [e] at k
  cases e2:Qa ρ i <;> rw [e2] at k <;> first | (cases k;done) | exact ⟨i,_,e2,s⟩
 have ml:∀ a,MlA σ ρ' a→MlA σ ρ a:=fun a h=>by
  obtain ⟨i,t,e,s⟩:=h
  have k:=hk i
  rw [e] at k
  cases e2:Qa ρ i <;> rw [e2] at k <;> first | (cases k;done) | exact ⟨i,_,e2,s⟩
 have pn:∀ i a,PnA σ ρ' i a→PnA σ ρ i a:=fun i a h=>by
  obtain ⟨⟨t,e⟩,s⟩:=h
  have k:=hk i
  refine ⟨?_,s⟩
  rcases e with e | e
  ·rw [e] at k
   cases e2:Qa ρ i <;> rw [e2] at k <;> first | (cases k;done) | exact ⟨_,.inl rfl⟩
  ·rw [e] at k
   cases e2:Qa ρ i <;> rw [e2] at k <;> first | (cases k;done) | exact ⟨_,.inr rfl⟩
 exact ⟨by rw [hl];exact F.len,hs,fun i j a h1 h2=>F.apart i j a (pv i a h1) (pv j a h2),F.prv,F.chg,F.keep,fun a h=>F.newO a (ow a h),fun a h=>F.newM a (ml a h),fun i a h=>F.fix i a (pn i a h),F.gg,F.gn,F.bp⟩
theorem FI.tellO {i:Nat}{l:Addr}{t t':T}(F:FI B H G σ ρ)(s:Qa ρ i=.ow t)(e:σ[i]?=some (some (.ref l)))(g:G l)(o:OwnAt H G l t'):FI B H G σ (ρ.set i (.ow t')):=by
 have at1:∀ j,(j=i∧Qa (ρ.set i (.ow t')) j=.ow t')∨Qa (ρ.set i (.ow t')) j=Qa ρ j:=fun j=>by
  rw [Qg]
  by_cases z:j=i∧i<ρ.length
  ·rw [if_pos z];exact .inl ⟨z.1,rfl⟩
  ·rw [if_neg z];exact .inr rfl
 refine F.tell (by rw [List.length_set]) (fun j=>?_) fun j=>?_
 ·rcases at1 j with ⟨rfl,z⟩ | z
  ·rw [z,s];rfl
  ·rw [z]
 ·rcases at1 j with ⟨rfl,z⟩ | z
  ·rw [z];exact ⟨l,e,g,o⟩
  ·rw [z];exact F.slot j
def RowR (H:Hp) (G:Addr→Prop) (r:Addr) (is:List Int):Prop:=¬ G r∧H r=some (.lst (is.map V.int))∧is.length≤1000
def TabR (H:Hp) (G:Addr→Prop) (q:Addr×List Addr) (M:List (List Int)):Prop:=¬ G q.1∧H q.1=some (.lst (q.2.map V.ref))∧Paired (RowR H G) q.2 M∧M.length≤1000
abbrev Qh5 (ps:List (Addr×List Addr)):List Addr:=ps.map (·.1)++ps.flatMap (·.2)
structure Tree (H:Hp) (G:Addr→Prop) (lf:Addr) (ps:List (Addr×List Addr)) (Ms:List (List (List Int))):Prop where
 own:G lf
 top:H lf=some (.lst (ps.map fun q=>V.ref q.1))
 tabs:Paired (TabR H G) ps Ms
 nd:(Qh5 ps).Nodup
theorem RowR.is {r:Addr}{is:List Int}(h:RowR H G r is):Is (dls H G) (.ref r) (Qav is):=by
 unfold Is
 exact ⟨by rw [List.length_map];have:=h.2.2;omega,r,_,rfl,by rw [Qbr h.1];exact h.2.1,IsL.ints is⟩
theorem Qls:∀ {rs:List Addr} {M:List (List Int)},Paired (RowR H G) rs M→IsL (dls H G) (rs.map V.ref) (M.map Qav)
 | _,_,.nil=>.nil
 | _,_,.cons h t=>.cons h.is (Qls t)
theorem TabR.is {q:Addr×List Addr}{M:List (List Int)}(h:TabR H G q M):Is (dls H G) (.ref q.1) (Qj M):=by
 unfold Is
 exact ⟨by rw [List.length_map];have:=h.2.2.2;omega,q.1,_,rfl,by rw [Qbr h.1];exact h.2.1,Qls h.2.2.1⟩
theorem Qq5:∀ {ps:List (Addr×List Addr)} {Ms:List (List (List Int))},Paired (TabR H G) ps Ms→IsL (dls H G) (ps.map fun q=>V.ref q.1) (Ms.map Qj)
 | _,_,.nil=>.nil
 | _,_,.cons h t=>.cons h.is (Qq5 t)
theorem Tree.ownAt {lf:Addr}{ps:List (Addr×List Addr)}{Ms:List (List (List Int))}(h:Tree H G lf ps Ms)(z:Ms.length≤100000):OwnAt H G lf (.lst (Ms.map Qj)) :=
 ⟨_,h.top,by rw [List.length_map];exact z,Qq5 h.tabs⟩
theorem RowR.poke {r r':Addr}{is:List Int}{ws':List V}(h:RowR H G r' is)(ne:r'≠r):RowR (upd H r (.lst ws')) G r' is:=⟨h.1,by rw [Qw ne];exact h.2.1,h.2.2⟩
theorem Qjm {r:Addr}{ws':List V}:∀ {rs:List Addr} {M:List (List Int)},Paired (RowR H G) rs M→r∉rs→Paired (RowR (upd H r (.lst ws')) G) rs M
 | _,_,.nil,_=>.nil
 | _,_,.cons h t,n=>.cons (h.poke fun z=>n (by rw [z];exact .head _)) (Qjm t fun z=>n (.tail _ z))
theorem Qq6 {r:Addr}{is':List Int}(hz:is'.length≤1000):∀ {rs:List Addr} {M:List (List Int)} {x:Nat},Paired (RowR H G) rs M→rs.Nodup→rs[x]?=some r→Paired (RowR (upd H r (.lst (is'.map V.int))) G) rs (M.set x is')
 | _,_,0,.cons h t,nd,e=>by
  cases e
  exact .cons ⟨h.1,Qr,hz⟩ (Qjm t (List.nodup_cons.mp nd).1)
 | _,_,x+1,.cons (a:=a) h t,nd,e=>by
  rw [List.getElem?_cons_succ] at e
  have ne:a≠r:=fun z=>(List.nodup_cons.mp nd).1 (by rw [z];exact List.mem_of_getElem? e)
  exact .cons (h.poke ne) (Qq6 hz t (List.nodup_cons.mp nd).2 e)
theorem Qn4 {r:Addr}{ws':List V}:∀ {ps:List (Addr×List Addr)} {Ms:List (List (List Int))},Paired (TabR H G) ps Ms→r∉Qh5 ps→Paired (TabR (upd H r (.lst ws')) G) ps Ms
 | _,_,.nil,_=>.nil
 | q::ps,_,.cons h t,n=>by
  have n1:q.1≠r:=fun z=>n (List.mem_append_left _ (by rw [List.map_cons,z];exact .head _))
  have n2:r∉q.2:=fun z=>n (List.mem_append_right _ (by rw [List.flatMap_cons];exact List.mem_append_left _ z))
  have n3:r∉Qh5 ps:=fun z=>n (by
   rcases List.mem_append.mp z with z | z
   ·exact List.mem_append_left _ (by rw [List.map_cons];exact .tail _ z)
   ·exact List.mem_append_right _ (by rw [List.flatMap_cons];exact List.mem_append_right _ z))
  exact .cons ⟨h.1,by rw [Qw n1];exact h.2.1,Qjm h.2.2.1 n2,h.2.2.2⟩ (Qn4 t n3)
theorem Paired.at {β:Type}{R:α→β→Prop}:∀ {xs:List α} {ys:List β} {i:Nat} {x:α},Paired R xs ys→xs[i]?=some x→∃ y,ys[i]?=some y∧R x y
 | _,_,0,x,.cons h t,e=>by cases e;exact ⟨_,rfl,h⟩
 | _,_,i+1,x,.cons h t,e=>by rw [List.getElem?_cons_succ] at e ⊢;exact Paired.at t e
theorem Tree.poke0 {lf r:Addr}{q:Addr×List Addr}{ps:List (Addr×List Addr)}{M:List (List Int)}{Ms:List (List (List Int))}{x:Nat}{is':List Int}(h:Tree H G lf (q::ps) (M::Ms))(e:q.2[x]?=some r)(hz:is'.length≤1000) :
  ¬ G r∧Tree (upd H r (.lst (is'.map V.int))) G lf (q::ps) (M.set x is'::Ms):=by
 obtain ⟨ow,top,tabs,nd⟩:=h
 cases tabs with
 | cons hq t =>
  have hm:r∈q.2:=List.mem_of_getElem? e
  obtain ⟨is,_,hr⟩:=Paired.at hq.2.2.1 e
  have ng:¬ G r:=hr.1
  have nd':(q.1::(ps.map (·.1)++(q.2++ps.flatMap (·.2)))).Nodup:=by
   have:Qh5 (q::ps)=q.1::(ps.map (·.1)++(q.2++ps.flatMap (·.2))):=by
    show (q::ps).map (·.1)++(q::ps).flatMap (·.2)=_
    rw [List.map_cons,List.flatMap_cons,List.cons_append]
   rw [←this];exact nd
  obtain ⟨a1,a2⟩:=List.nodup_cons.mp nd'
  obtain ⟨b1,b2,b3⟩:=List.nodup_append.mp a2
  obtain ⟨c1,c2,c3⟩:=List.nodup_append.mp b2
  have n1:q.1≠r:=fun z=>a1 (List.mem_append_right _ (List.mem_append_left _ (by rw [z];exact hm)))
  have n2:r∉Qh5 ps:=fun z=>by
   rcases List.mem_append.mp z with z | z
   ·exact b3 r z r (List.mem_append_left _ hm) rfl
   ·exact c3 r hm r z rfl
  refine ⟨ng,ow,by rw [Qw fun z=>ng (by rw [←z];exact ow)];exact top,.cons ⟨hq.1,by rw [Qw n1];exact hq.2.1,Qq6 hz hq.2.2.1 c1 e,by rw [List.length_set];exact hq.2.2.2⟩ (Qn4 t n2),nd⟩
theorem Qaac {iF x:Nat}{lf r:Addr}{q:Addr×List Addr}{ps:List (Addr×List Addr)}{M:List (List Int)}{Ms:List (List (List Int))}{is':List Int}(F:FI B H G σ ρ)(hiF:iF<ρ.length)(sF:Qa ρ iF=.ow (.lst ((M::Ms).map Qj)))(eF:σ[iF]?=some (some (.ref lf)))
  (h:Tree H G lf (q::ps) (M::Ms)) (e:q.2[x]?=some r) (hB:B.H r=none) (hz:is'.length≤1000) (hM:(M::Ms).length≤100000) (ho:∀ i,i≠iF→Qa ρ i=.un∨∃ ns:List Int,Qa ρ i=.ml (.lst (ns.map T.int))) :
  FI B (upd H r (.lst (is'.map V.int))) G σ (ρ.set iF (.ow (.lst ((M.set x is'::Ms).map Qj)))):=by
 obtain ⟨ng,T2⟩:=h.poke0 e hz
 have hr:∃ ws,H r=some (.lst ws):=by
  obtain ⟨_,_,tabs,_⟩:=h
  cases tabs with
  | cons hq t =>
   obtain ⟨is,_,hr⟩:=Paired.at hq.2.2.1 e
   exact ⟨_,hr.2.1⟩
 obtain ⟨ws,hr⟩:=hr
 have sa:∀ i,Qa (ρ.set iF (.ow (.lst ((M.set x is'::Ms).map Qj)))) i=if i=iF then .ow (.lst ((M.set x is'::Ms).map Qj)) else Qa ρ i:=fun i=>by
  rw [Qg]
  by_cases z:i=iF
  ·rw [if_pos ⟨z,hiF⟩,if_pos z]
  ·rw [if_neg fun y=>z y.1,if_neg z]
 refine F.poke hr ng hB (by rw [List.length_set]) (fun i=>?_) fun i=>?_
 ·rw [sa]
  by_cases z:i=iF
  ·rw [if_pos z,z,sF];rfl
  ·rw [if_neg z]
 ·rw [sa]
  by_cases z:i=iF
  ·rw [if_pos z,z]
   exact ⟨lf,eF,T2.own,T2.ownAt hM⟩
  ·rw [if_neg z]
   rcases ho i z with y | ⟨ns,y⟩
   ·rw [y];trivial
   ·rw [y]
    have sl:=F.slot i
    rw [y] at sl
    obtain ⟨a,ea,ga,oa⟩:=sl
    obtain ⟨vs,zz,el,il⟩:=oa.lst_inv
    have evs:=IsL.ints_inv il
    subst evs
    exact ⟨a,ea,ga,OwnAt.of_lst zz (by rw [Qw fun w=>ng (by rw [←w];exact ga)];exact el) (IsL.ints ns)⟩
theorem blk2 {s:S}{iF iR:Nat}{lf lr:Addr}{tF tR uR:T}(F:FI B H G σ ρ)(hO:∀ a,¬ B.O a)(hne:iF≠iR)(sF:Qa ρ iF=.ow tF)(eF:σ[iF]?=some (some (.ref lf)))(sR:Qa ρ iR=.ow tR)(eR:σ[iR]?=some (some (.ref lr)))
  (e:exS p.cf s ((ρ.set iF (.ro tF)).set iR (.ro tR))=.nx ρ1) (s1F:Qa ρ1 iF=.ro uF) (s1R:Qa ρ1 iR=.ro uR)
  (k:∀ σ1 H1 G1,FI B H1 G1 σ1 ((ρ1.set iR (.ow uR)).set iF (.ow uF))→Same (dls H G) (dls H1 G1)→(∀ o,H lf=some o→H1 lf=some o)→(∀ o,H lr=some o→H1 lr=some o)→G1 lf→G1 lr→σ1[iF]?=some (some (.ref lf))→σ1[iR]?=some (some (.ref lr))→D.nx σ1 H1):tS p s D σ H:=by
 have hlF:iF<ρ.length:=by rw [←F.len];exact (List.getElem?_eq_some_iff.mp eF).1
 have hlR:iR<ρ.length:=by rw [←F.len];exact (List.getElem?_eq_some_iff.mp eR).1
 have hbF:=F.newO lf ⟨iF,tF,sF,eF⟩
 have hbR:=F.newO lr ⟨iR,tR,sR,eR⟩
 have ap:lf≠lr:=fun z=>hne (F.apart iF iR lf ⟨⟨_,by rw [sF];rfl⟩,eF⟩ ⟨⟨_,by rw [sR];rfl⟩,by rw [z];exact eR⟩)
 have F1:=F.lock sF eF
 have sR1:Qa (ρ.set iF (.ro tF)) iR=.ow tR:=by rw [Qg,if_neg fun z=>hne z.1.symm];exact sR
 have F2:=F1.lock sR1 eR
 have aF:Qa ((ρ.set iF (.ro tF)).set iR (.ro tR)) iF=.ro tF:=by rw [Qg,if_neg fun z=>hne z.1,Qg,if_pos ⟨rfl,hlF⟩]
 have aR:Qa ((ρ.set iF (.ro tF)).set iR (.ro tR)) iR=.ro tR:=by rw [Qg,if_pos ⟨rfl,by rw [List.length_set];exact hlR⟩]
 have prv2:∀ a,OwA σ ((ρ.set iF (.ro tF)).set iR (.ro tR)) a→a≠lf∧a≠lr:=fun a h=>by
  obtain ⟨j,t,ej,sj⟩:=h
  have pj:PrvAt σ ((ρ.set iF (.ro tF)).set iR (.ro tR)) j a:=⟨⟨_,by rw [ej];rfl⟩,sj⟩
  refine ⟨fun z=>?_,fun z=>?_⟩
  ·have:=F2.apart j iF a pj ⟨⟨_,by rw [aF];rfl⟩,by rw [z];exact eF⟩
   rw [this,aF] at ej
   cases ej
  ·have:=F2.apart j iR a pj ⟨⟨_,by rw [aR];rfl⟩,by rw [z];exact eR⟩
   rw [this,aR] at ej
   cases ej
 have prvM:∀ a,MlA σ ((ρ.set iF (.ro tF)).set iR (.ro tR)) a→a≠lf∧a≠lr:=fun a h=>by
  obtain ⟨j,t,ej,sj⟩:=h
  have pj:PrvAt σ ((ρ.set iF (.ro tF)).set iR (.ro tR)) j a:=⟨⟨_,by rw [ej];rfl⟩,sj⟩
  refine ⟨fun z=>?_,fun z=>?_⟩
  ·have:=F2.apart j iF a pj ⟨⟨_,by rw [aF];rfl⟩,by rw [z];exact eF⟩
   rw [this,aF] at ej
   cases ej
  ·have:=F2.apart j iR a pj ⟨⟨_,by rw [aR];rfl⟩,by rw [z];exact eR⟩
   rw [this,aR] at ej
   cases ej
 have nF:¬ OwA σ ((ρ.set iF (.ro tF)).set iR (.ro tR)) lf:=fun z=>(prv2 lf z).1 rfl
 have nR:¬ OwA σ ((ρ.set iF (.ro tF)).set iR (.ro tR)) lr:=fun z=>(prv2 lr z).2 rfl
 refine blk F2 hO e fun σ1 H1 G1 F3 sm ch gg _ pn=>?_
 have g2:=F2.slot iF
 rw [aF] at g2
 obtain ⟨a2,x2,gf,_⟩:=g2
 rw [eF] at x2
 cases x2
 have g3:=F2.slot iR
 rw [aR] at g3
 obtain ⟨a3,x3,gr,_⟩:=g3
 rw [eR] at x3
 cases x3
 have m1:=F3.slot iF
 rw [s1F] at m1
 obtain ⟨b1,y1,_,_⟩:=m1
 have z1:=(pn iF b1 ⟨⟨_,.inr s1F⟩,y1⟩).2
 rw [eF] at z1
 cases z1
 have m2:=F3.slot iR
 rw [s1R] at m2
 obtain ⟨b2,y2,_,_⟩:=m2
 have z2:=(pn iR b2 ⟨⟨_,.inr s1R⟩,y2⟩).2
 rw [eR] at z2
 cases z2
 have F4:=F3.unlock s1R hbR
 have s4F:Qa (ρ1.set iR (.ow uR)) iF=.ro uF:=by rw [Qg,if_neg fun z=>hne z.1];exact s1F
 have F5:=F4.unlock s4F hbF
 exact k σ1 H1 G1 F5 sm (fun o h=>ch lf o nF (fun z=>(prvM lf z).1 rfl) h) (fun o h=>ch lr o nR (fun z=>(prvM lr z).2 rfl) h) (gg lf gf nF) (gg lr gr nR) y1 y2
theorem Qq7 (s:Same (dls H G) (dls H1 G1))(g:¬ G b)(e:H b=some o):¬ G1 b∧H1 b=some o:=Q5 (s b o (by rw [Qbr g];exact e))
theorem RowR.same {r:Addr}{is:List Int}(h:RowR H G r is)(s:Same (dls H G) (dls H1 G1)):RowR H1 G1 r is :=
 let q:=Qq7 s h.1 h.2.1
 ⟨q.1,q.2,h.2.2⟩
theorem Qfs (s:Same (dls H G) (dls H1 G1)):∀ {rs:List Addr} {M:List (List Int)},Paired (RowR H G) rs M→Paired (RowR H1 G1) rs M
 | _,_,.nil=>.nil
 | _,_,.cons h t=>.cons (h.same s) (Qfs s t)
theorem Qdh (s:Same (dls H G) (dls H1 G1)):∀ {ps:List (Addr×List Addr)} {Ms:List (List (List Int))},Paired (TabR H G) ps Ms→Paired (TabR H1 G1) ps Ms
 | _,_,.nil=>.nil
 | _,_,.cons h t =>
  let q:=Qq7 s h.1 h.2.1
  .cons ⟨q.1,q.2,Qfs s h.2.2.1,h.2.2.2⟩ (Qdh s t)
theorem Tree.same {lf:Addr}{ps:List (Addr×List Addr)}{Ms:List (List (List Int))}(h:Tree H G lf ps Ms)(s:Same (dls H G) (dls H1 G1))(g:G1 lf)(e:H1 lf=H lf):Tree H1 G1 lf ps Ms:=⟨g,by rw [e];exact h.top,Qdh s h.tabs,h.nd⟩
theorem Qq8 {r:Addr}{is:List Int}:∀ {rs:List Addr} {M:List (List Int)},Paired (RowR H G) rs M→RowR H G r is→Paired (RowR H G) (rs++[r]) (M++[is])
 | _,_,.nil,h=>.cons h .nil
 | _,_,.cons a t,h=>.cons a (Qq8 t h)
theorem Qq9 {q:Addr×List Addr}{M:List (List Int)}:∀ {ps:List (Addr×List Addr)} {Ms:List (List (List Int))},Paired (TabR H G) ps Ms→TabR H G q M→Paired (TabR H G) (ps++[q]) (Ms++[M])
 | _,_,.nil,h=>.cons h .nil
 | _,_,.cons a t,h=>.cons a (Qq9 t h)
theorem Qiq {r:Addr}(g:G r):∀ {rs:List Addr} {M:List (List Int)},Paired (RowR H G) rs M→r∉rs
 | _,_,.nil,z=>(nomatch z)
 | _,_,.cons h t,z=>by
  rcases List.mem_cons.mp z with e | z
  ·exact h.1 (by rw [←e];exact g)
  ·exact Qiq g t z
theorem Qir {r:Addr}(g:G r):∀ {ps:List (Addr×List Addr)} {Ms:List (List (List Int))},Paired (TabR H G) ps Ms→r∉Qh5 ps
 | _,_,.nil,z=>(nomatch z)
 | q::ps,_,.cons h t,z=>by
  rcases List.mem_append.mp z with z | z
  ·rw [List.map_cons] at z
   rcases List.mem_cons.mp z with e | z
   ·exact h.1 (by rw [←e];exact g)
   ·exact Qir g t (List.mem_append_left _ z)
  ·rw [List.flatMap_cons] at z
   rcases List.mem_append.mp z with z | z
   ·exact Qiq g h.2.2.1 z
   ·exact Qir g t (List.mem_append_right _ z)
structure Lv (B:Bs) (iF iR:Nat) (H:Hp) (G:Addr→Prop) (σ:St) (ρ:En) (lf lr:Addr) (ps:List (Addr×List Addr)) (Ms:List (List (List Int))) (rs:List Addr) (R:List (List Int)):Prop where
 F:FI B H G σ ρ
 sF:Qa ρ iF=.ow (.lst (Ms.map Qj))
 eF:σ[iF]?=some (some (.ref lf))
 sR:Qa ρ iR=.ow (.lst (R.map Qav))
 eR:σ[iR]?=some (some (.ref lr))
 tr:Tree H G lf ps Ms
 hr:H lr=some (.lst (rs.map V.ref))
 rows:Paired (RowR H G) rs R
 nd:(rs++Qh5 ps).Nodup
 fr:∀ b∈rs++Qh5 ps,B.H b=none
structure Lf (B:Bs) (iF:Nat) (H:Hp) (G:Addr→Prop) (σ:St) (ρ:En) (lf:Addr) (ps:List (Addr×List Addr)) (Ms:List (List (List Int))):Prop where
 F:FI B H G σ ρ
 sF:Qa ρ iF=.ow (.lst (Ms.map Qj))
 eF:σ[iF]?=some (some (.ref lf))
 tr:Tree H G lf ps Ms
 fr:∀ b∈Qh5 ps,B.H b=none
variable {iF iR iH:Nat} {lf lr:Addr} {ps:List (Addr×List Addr)} {Ms:List (List (List Int))} {rs:List Addr} {R:List (List Int)} {is:List Int}
theorem Lv.row (L:Lv B iF iR H G σ ρ lf lr ps Ms rs R)(hO:∀ a,¬ B.O a)(hFR:iF≠iR)(hRH:iR≠iH)(hFH:iF≠iH)(sH:Qa ρ iH=.ow (.lst (is.map T.int)))(zi:is.length≤1000)(zR:R.length<1000) :
  ∃ r G1,σ[iH]?=some (some (.ref r))∧Lv B iF iR (upd H lr (.lst (rs.map V.ref++[.ref r]))) G1 σ ((ρ.set iH (.fz (Qav is))).set iR (.ow (.lst ((R++[is]).map Qav)))) lf lr ps Ms (rs++[r]) (R++[is])∧Same (dls H G) (dls (upd H lr (.lst (rs.map V.ref++[.ref r]))) G1):=by
 obtain ⟨r,eH,gr,oH⟩:=L.F.prvAt (i:=iH) (t:=.lst (is.map T.int)) (by rw [sH];rfl)
 obtain ⟨ws,_,hr,ilr⟩:=oH.lst_inv
 have ew:=IsL.ints_inv ilr
 subst ew
 obtain ⟨_,hB,hrl,_,G1,ng,F1,s1⟩:=Qzv L.F hO hRH L.sR L.eR L.hr sH eH (by rw [List.length_map];omega) (fun t ht=>by
  obtain ⟨x,_,rfl⟩:=List.mem_map.mp ht
  exact ⟨_,rfl⟩)
 have emap:(R.map Qav++[Qav is])=(R++[is]).map Qav:=by rw [List.map_append,List.map_cons,List.map_nil]
 have F1':FI B (upd H lr (.lst (rs.map V.ref++[.ref r]))) G1 σ ((ρ.set iH (.fz (Qav is))).set iR (.ow (.lst ((R++[is]).map Qav)))):=by rw [←emap];exact F1
 have hlR:iR<ρ.length:=by rw [←L.F.len];exact (List.getElem?_eq_some_iff.mp L.eR).1
 have sF1:Qa ((ρ.set iH (.fz (Qav is))).set iR (.ow (.lst ((R++[is]).map Qav)))) iF=.ow (.lst (Ms.map Qj)):=by
  rw [Qg,if_neg fun z=>hFR z.1,Qg,if_neg fun z=>hFH z.1]
  exact L.sF
 have sR1:Qa ((ρ.set iH (.fz (Qav is))).set iR (.ow (.lst ((R++[is]).map Qav)))) iR=.ow (.lst ((R++[is]).map Qav)):=by
  rw [Qg,if_pos ⟨rfl,by rw [List.length_set];exact hlR⟩]
 obtain ⟨a',x',gF,_⟩:=F1'.prvAt (i:=iF) (t:=.lst (Ms.map Qj)) (by rw [sF1];rfl)
 rw [L.eF] at x'
 cases x'
 have hfr:lf≠lr:=fun z=>hFR (L.F.apart iF iR lf ⟨⟨_,by rw [L.sF];rfl⟩,L.eF⟩ ⟨⟨_,by rw [L.sR];rfl⟩,by rw [z];exact L.eR⟩)
 have n1:r∉rs:=Qiq gr L.rows
 have n2:r∉Qh5 ps:=Qir gr L.tr.tabs
 refine ⟨r,G1,eH,⟨F1',sF1,L.eF,sR1,L.eR,L.tr.same s1 gF (by rw [Qw hfr]),by rw [Qr,List.map_append];rfl,Qq8 (Qfs s1 L.rows) ⟨ng,by rw [Qw hrl];exact hr,zi⟩,?_,?_⟩,s1⟩
 ·rw [List.append_assoc]
  refine List.Perm.nodup (List.perm_middle (l₁:=rs) (l₂:=Qh5 ps) (a:=r)).symm (List.nodup_cons.mpr ⟨fun z=>?_,L.nd⟩)
  rcases List.mem_append.mp z with z | z
  ·exact n1 z
  ·exact n2 z
 ·intro b hb
  rw [List.append_assoc] at hb
  rcases List.mem_append.mp hb with hb | hb
  ·exact L.fr b (List.mem_append_left _ hb)
  ·rcases List.mem_cons.mp hb with rfl | hb
   ·exact hB
   ·exact L.fr b (List.mem_append_right _ hb)
theorem Qzw (ps:List (Addr×List Addr))(lr:Addr)(rs:List Addr):(Qh5 (ps++[(lr,rs)])).Perm (lr::(rs++Qh5 ps)):=by
 have e:Qh5 (ps++[(lr,rs)])=ps.map (·.1)++lr::(ps.flatMap (·.2)++rs):=by
  show (ps++[(lr,rs)]).map (·.1)++(ps++[(lr,rs)]).flatMap (·.2)=_
  rw [List.map_append,List.flatMap_append,List.map_cons,List.map_nil,List.flatMap_cons,List.flatMap_nil,List.append_nil,List.append_assoc]
  rfl
 rw [e]
 refine List.perm_middle.trans (List.Perm.cons _ ?_)
 rw [←List.append_assoc]
 exact List.perm_append_comm
theorem Lv.tab (L:Lv B iF iR H G σ ρ lf lr ps Ms rs R)(hO:∀ a,¬ B.O a)(hFR:iF≠iR)(zR:R.length≤1000)(zM:Ms.length<1000) :
  ∃ G1,Lf B iF (upd H lf (.lst ((ps.map fun q=>V.ref q.1)++[.ref lr]))) G1 σ ((ρ.set iR (.fz (Qj R))).set iF (.ow (.lst ((Ms++[R]).map Qj)))) lf (ps++[(lr,rs)]) (Ms++[R])∧Same (dls H G) (dls (upd H lf (.lst ((ps.map fun q=>V.ref q.1)++[.ref lr]))) G1):=by
 have zl:=L.tr.tabs
 obtain ⟨_,hB,hrl,gr,G1,ng,F1,s1⟩:=Qzv L.F hO hFR L.sF L.eF L.tr.top L.sR L.eR (by rw [List.length_map];omega) (fun t ht=>by
  obtain ⟨x,_,rfl⟩:=List.mem_map.mp ht
  exact ⟨_,rfl⟩)
 have emap:(Ms.map Qj++[Qj R])=(Ms++[R]).map Qj:=by rw [List.map_append,List.map_cons,List.map_nil]
 have F1':FI B (upd H lf (.lst ((ps.map fun q=>V.ref q.1)++[.ref lr]))) G1 σ ((ρ.set iR (.fz (Qj R))).set iF (.ow (.lst ((Ms++[R]).map Qj)))):=by rw [←emap];exact F1
 have hlF:iF<ρ.length:=by rw [←L.F.len];exact (List.getElem?_eq_some_iff.mp L.eF).1
 have sF1:Qa ((ρ.set iR (.fz (Qj R))).set iF (.ow (.lst ((Ms++[R]).map Qj)))) iF=.ow (.lst ((Ms++[R]).map Qj)):=by
  rw [Qg,if_pos ⟨rfl,by rw [List.length_set];exact hlF⟩]
 obtain ⟨a',x',gF,_⟩:=F1'.prvAt (i:=iF) (t:=.lst ((Ms++[R]).map Qj)) (by rw [sF1];rfl)
 rw [L.eF] at x'
 cases x'
 have n1:lr∉rs:=Qiq gr L.rows
 have n2:lr∉Qh5 ps:=Qir gr L.tr.tabs
 have pm:=Qzw ps lr rs
 refine ⟨G1,⟨F1',sF1,L.eF,⟨gF,by rw [Qr,List.map_append];rfl,Qq9 (Qdh s1 L.tr.tabs) ⟨ng,by rw [Qw hrl];exact L.hr,Qfs s1 L.rows,zR⟩,?_⟩,?_⟩,s1⟩
 ·refine List.Perm.nodup pm.symm (List.nodup_cons.mpr ⟨fun z=>?_,L.nd⟩)
  rcases List.mem_append.mp z with z | z
  ·exact n1 z
  ·exact n2 z
 ·intro b hb
  rcases List.mem_cons.mp (pm.mem_iff.mp hb) with rfl | hb
  ·exact hB
  ·exact L.fr b hb
theorem Lv.blk {s:S}{uR:T}(L:Lv B iF iR H G σ ρ lf lr ps Ms rs R)(hO:∀ a,¬ B.O a)(hFR:iF≠iR)(zM:Ms.length≤1000)(zR:R.length≤1000)
  (e:exS p.cf s ((ρ.set iF (.ro (.lst (Ms.map Qj)))).set iR (.ro (.lst (R.map Qav))))=.nx ρ1) (s1F:Qa ρ1 iF=.ro uF) (s1R:Qa ρ1 iR=.ro uR)
  (k:∀ σ1 H1 G1,Lv B iF iR H1 G1 σ1 ((ρ1.set iR (.ow (.lst (R.map Qav)))).set iF (.ow (.lst (Ms.map Qj)))) lf lr ps Ms rs R→Same (dls H G) (dls H1 G1)→D.nx σ1 H1):tS p s D σ H :=
 blk2 L.F hO hFR L.sF L.eF L.sR L.eR e s1F s1R fun σ1 H1 G1 F1 sm hF hR gF gR xF xR=>by
  have hlF:iF<((ρ1.set iR (.ow uR)).set iF (.ow uF)).length:=by rw [←F1.len];exact (List.getElem?_eq_some_iff.mp xF).1
  have hlR:iR<((ρ1.set iR (.ow uR)).set iF (.ow uF)).length:=by rw [←F1.len];exact (List.getElem?_eq_some_iff.mp xR).1
  rw [List.length_set,List.length_set] at hlF hlR
  have tr1:Tree H1 G1 lf ps Ms:=⟨gF,hF _ L.tr.top,Qdh sm L.tr.tabs,L.tr.nd⟩
  have r1:=Qfs sm L.rows
  have F2:=F1.tellO (t:=uF) (by rw [Qg,if_pos ⟨rfl,by rw [List.length_set];exact hlF⟩]) xF gF (tr1.ownAt (by omega))
  rw [List.set_set] at F2
  have F3:=F2.tellO (t:=uR) (by rw [Qg,if_neg fun z=>hFR z.1.symm,Qg,if_pos ⟨rfl,hlR⟩]) xR gR (OwnAt.of_lst (by rw [List.length_map];omega) (hR _ L.hr) (Qls r1))
  rw [List.set_comm _ _ hFR,List.set_set] at F3
  refine k σ1 H1 G1 ⟨F3,?_,xF,?_,xR,tr1,hR _ L.hr,r1,L.nd,L.fr⟩ sm
  ·rw [Qg,if_pos ⟨rfl,by rw [List.length_set];exact hlF⟩]
  ·rw [Qg,if_neg fun z=>hFR z.1.symm,Qg,if_pos ⟨rfl,hlR⟩]
theorem blk1 {s:S}{tF:T}(F:FI B H G σ ρ)(hO:∀ a,¬ B.O a)(sF:Qa ρ iF=.ow tF)(eF:σ[iF]?=some (some (.ref lf)))
  (e:exS p.cf s (ρ.set iF (.ro tF))=.nx ρ1) (s1F:Qa ρ1 iF=.ro uF)
  (k:∀ σ1 H1 G1,FI B H1 G1 σ1 (ρ1.set iF (.ow uF))→Same (dls H G) (dls H1 G1)→(∀ o,H lf=some o→H1 lf=some o)→G1 lf→σ1[iF]?=some (some (.ref lf))→D.nx σ1 H1):tS p s D σ H:=by
 have hlF:iF<ρ.length:=by rw [←F.len];exact (List.getElem?_eq_some_iff.mp eF).1
 have hbF:=F.newO lf ⟨iF,tF,sF,eF⟩
 have F2:=F.lock sF eF
 have aF:Qa (ρ.set iF (.ro tF)) iF=.ro tF:=by rw [Qg,if_pos ⟨rfl,hlF⟩]
 have nF:¬ OwA σ (ρ.set iF (.ro tF)) lf:=fun h=>by
  obtain ⟨j,t,ej,sj⟩:=h
  have:=F2.apart j iF lf ⟨⟨_,by rw [ej];rfl⟩,sj⟩ ⟨⟨_,by rw [aF];rfl⟩,eF⟩
  rw [this,aF] at ej
  cases ej
 have mF:¬ MlA σ (ρ.set iF (.ro tF)) lf:=fun h=>by
  obtain ⟨j,t,ej,sj⟩:=h
  have:=F2.apart j iF lf ⟨⟨_,by rw [ej];rfl⟩,sj⟩ ⟨⟨_,by rw [aF];rfl⟩,eF⟩
  rw [this,aF] at ej
  cases ej
 refine blk F2 hO e fun σ1 H1 G1 F3 sm ch gg _ pn=>?_
 have g2:=F2.slot iF
 rw [aF] at g2
 obtain ⟨a2,x2,gf,_⟩:=g2
 rw [eF] at x2
 cases x2
 have m1:=F3.slot iF
 rw [s1F] at m1
 obtain ⟨b1,y1,_,_⟩:=m1
 have z1:=(pn iF b1 ⟨⟨_,.inr s1F⟩,y1⟩).2
 rw [eF] at z1
 cases z1
 exact k σ1 H1 G1 (F3.unlock s1F hbF) sm (fun o h=>ch lf o nF mF h) (gg lf gf nF) y1
theorem Lf.blk {s:S}(L:Lf B iF H G σ ρ lf ps Ms)(hO:∀ a,¬ B.O a)(zM:Ms.length≤1000)
  (e:exS p.cf s (ρ.set iF (.ro (.lst (Ms.map Qj))))=.nx ρ1) (s1F:Qa ρ1 iF=.ro uF)
  (k:∀ σ1 H1 G1,Lf B iF H1 G1 σ1 (ρ1.set iF (.ow (.lst (Ms.map Qj)))) lf ps Ms→Same (dls H G) (dls H1 G1)→D.nx σ1 H1):tS p s D σ H :=
 blk1 L.F hO L.sF L.eF e s1F fun σ1 H1 G1 F1 sm hF gF xF=>by
  have hlF:iF<(ρ1.set iF (.ow uF)).length:=by rw [←F1.len];exact (List.getElem?_eq_some_iff.mp xF).1
  rw [List.length_set] at hlF
  have tr1:Tree H1 G1 lf ps Ms:=⟨gF,hF _ L.tr.top,Qdh sm L.tr.tabs,L.tr.nd⟩
  have F2:=F1.tellO (t:=uF) (by rw [Qg,if_pos ⟨rfl,hlF⟩]) xF gF (tr1.ownAt (by omega))
  rw [List.set_set] at F2
  exact k σ1 H1 G1 ⟨F2,by rw [Qg,if_pos ⟨rfl,hlF⟩],xF,tr1,L.fr⟩ sm
theorem Lf.start (L:Lf B iF H G σ ρ lf ps Ms)(sR:Qa ρ iR=.ow (.lst [])):∃ lr,Lv B iF iR H G σ ρ lf lr ps Ms [] []:=by
 obtain ⟨lr,eR,_,oR⟩:=L.F.prvAt (i:=iR) (t:=.lst []) (by rw [sR];rfl)
 obtain ⟨ws,_,hr,il⟩:=oR.lst_inv
 cases il
 exact ⟨lr,L.F,L.sF,L.eF,sR,eR,L.tr,hr,.nil,L.tr.nd,L.fr⟩
theorem FI.found (F:FI B H G σ ρ)(sF:Qa ρ iF=.ow (.lst [])):∃ lf,Lf B iF H G σ ρ lf [] []:=by
 obtain ⟨lf,eF,gF,oF⟩:=F.prvAt (i:=iF) (t:=.lst []) (by rw [sF];rfl)
 obtain ⟨ws,_,hr,il⟩:=oF.lst_inv
 cases il
 exact ⟨lf,F,sF,eF,⟨gF,hr,.nil,.nil⟩,fun b hb=>nomatch hb⟩
theorem Qf5 {β:Type}{Rr:α→β→Prop}:∀ {xs:List α} {ys:List β},Paired Rr xs ys→xs.length=ys.length
 | _,_,.nil=>rfl
 | _,_,.cons _ t=>by rw [List.length_cons,List.length_cons,Qf5 t]
theorem Lv.rowT (L:Lv B iF iR H G σ ρ lf lr ps Ms rs R)(hO:∀ a,¬ B.O a)(hFR:iF≠iR)(hRH:iR≠iH)(hFH:iF≠iH)(sH:Qa ρ iH=.ow (.lst (is.map T.int)))(zi:is.length≤1000)(zR:R.length<1000)
  (k:∀ r H1 G1,Lv B iF iR H1 G1 σ ((ρ.set iH (.fz (Qav is))).set iR (.ow (.lst ((R++[is]).map Qav)))) lf lr ps Ms (rs++[r]) (R++[is])→Same (dls H G) (dls H1 G1)→D.nx σ H1):Qhq (tBM K "list" Qd9 (Qcc iR) (Qb5 (Qcc iH) Qfw)) D σ H:=by
 obtain ⟨r,G1,eH,L1,s1⟩:=L.row hO hFR hRH hFH sH zi zR
 have lz:=Qf5 L.rows
 exact ⟨_,L.eR,.inl ⟨rfl,_,SqL.of L.hr⟩,_,eH,lr,rs.map V.ref,.ref r,rfl,rfl,L.hr,by rw [List.length_map,lz,sizeLine_eq];omega,k r _ G1 L1 s1⟩
theorem Lv.tabT (L:Lv B iF iR H G σ ρ lf lr ps Ms rs R)(hO:∀ a,¬ B.O a)(hFR:iF≠iR)(zR:R.length≤1000)(zM:Ms.length<1000)
  (k:∀ H1 G1,Lf B iF H1 G1 σ ((ρ.set iR (.fz (Qj R))).set iF (.ow (.lst ((Ms++[R]).map Qj)))) lf (ps++[(lr,rs)]) (Ms++[R])→Same (dls H G) (dls H1 G1)→D.nx σ H1):Qhq (tBM K "list" Qd9 (Qcc iF) (Qb5 (Qcc iR) Qfw)) D σ H:=by
 obtain ⟨G1,L1,s1⟩:=L.tab hO hFR zR zM
 have lz:=Qf5 L.tr.tabs
 exact ⟨_,L.eF,.inl ⟨rfl,_,SqL.of L.tr.top⟩,_,L.eR,lf,_,.ref lr,rfl,rfl,L.tr.top,by rw [List.length_map,lz,sizeLine_eq];omega,k _ G1 L1 s1⟩
theorem Qzx {fA:En→SO}{R1:List (List Int)}{ρ2:En}(e:Qs7 fA iF iR iH Ms R ρ=some (R1,ρ2)):∃ ρ1 uF uR is,fA ((ρ.set iF (.ro (.lst (Ms.map Qj)))).set iR (.ro (.lst (R.map Qav))))=.nx ρ1∧Qa ρ1 iF=.ro uF∧Qa ρ1 iR=.ro uR∧Qa ρ1 iH=.ow (.lst (is.map T.int))∧is.length≤1000∧R.length<1000∧R1=R++[is]
  ∧ ρ2=((((ρ1.set iR (.ow (.lst (R.map Qav)))).set iF (.ow (.lst (Ms.map Qj)))).set iH (.fz (Qav is))).set iR (.ow (.lst ((R++[is]).map Qav)))):=by
 unfold Qs7 at e
 split at e
 ·rename_i ρ1 e1
  split at e
  ·rename_i uF uR us eF eR eH
   split at e
   ·rename_i is ei
    split at e
    ·rename_i z
     have:=Qer ei
     subst this
     cases e
     exact ⟨ρ1,uF,uR,is,e1,eF,eR,eH,z.1,z.2,rfl,rfl⟩
    ·cases e
   ·cases e
  ·cases e
 ·cases e
theorem Q39 {A:S}{R1:List (List Int)}{ρ2:En}(L:Lv B iF iR H G σ ρ lf lr ps Ms rs R)(hO:∀ a,¬ B.O a)(hFR:iF≠iR)(hRH:iR≠iH)(hFH:iF≠iH)(zM:Ms.length≤1000)(e:Qs7 (exS p.cf A) iF iR iH Ms R ρ=some (R1,ρ2))
  (k:∀ σ1 H1 G1 rs1,Lv B iF iR H1 G1 σ1 ρ2 lf lr ps Ms rs1 R1→Same (dls H G) (dls H1 G1)→D.nx σ1 H1):Qgs (tS p A) (Qhq (tBM K "list" Qd9 (Qcc iR) (Qb5 (Qcc iH) Qfw))) D σ H:=by
 obtain ⟨ρ1,uF,uR,is,e1,eF,eR,eH,z1,z2,rfl,rfl⟩:=Qzx e
 refine L.blk hO hFR zM (by omega) e1 eF eR fun σ1 H1 G1 L1 s1=>?_
 refine L1.rowT hO hFR hRH hFH (is:=is) ?_ z1 z2 fun r H2 G2 L2 s2=>k σ1 H2 G2 _ L2 (s1.trans s2)
 rw [Qg,if_neg fun z=>hFH z.1.symm,Qg,if_neg fun z=>hRH z.1.symm]
 exact eH
theorem Lv.setW (L:Lv B iF iR H G σ ρ lf lr ps Ms rs R)(hF:iF≠iW)(hR:iR≠iW)(hi:iW<ρ.length):Lv B iF iR H G (σ.set iW (some (.int j))) (ρ.set iW (.fz (.int j))) lf lr ps Ms rs R :=
 ⟨L.F.setFz hi (by unfold Is;rfl),by rw [Qg,if_neg fun z=>hF z.1];exact L.sF,by rw [List.getElem?_set_ne hF.symm];exact L.eF,by rw [Qg,if_neg fun z=>hR z.1];exact L.sR,by rw [List.getElem?_set_ne hR.symm];exact L.eR,L.tr,L.hr,L.rows,L.nd,L.fr⟩
theorem Lf.setW (L:Lf B iF H G σ ρ lf ps Ms)(hF:iF≠iW)(hi:iW<ρ.length):Lf B iF H G (σ.set iW (some (.int j))) (ρ.set iW (.fz (.int j))) lf ps Ms :=
 ⟨L.F.setFz hi (by unfold Is;rfl),by rw [Qg,if_neg fun z=>hF z.1];exact L.sF,by rw [List.getElem?_set_ne hF.symm];exact L.eF,L.tr,L.fr⟩
theorem Qra {fA:En→SO}{R0:List (List Int)}{ρ0:En}:∀ {n i:Nat} {q:List (List Int)×En},i≤n→Qe5 fA iF iR iH iW Ms R0 ρ0 n=some q→∃ q',Qe5 fA iF iR iH iW Ms R0 ρ0 i=some q'
 | 0,i,q,h,e=>by
  have:i=0:=by omega
  subst this
  exact ⟨q,e⟩
 | n+1,i,q,h,e=>by
  by_cases z:i=n+1
  ·subst z
   exact ⟨q,e⟩
  ·unfold Qe5 at e
   split at e
   ·rename_i q1 e1
    exact Qra (by omega) e1
   ·cases e
theorem Qzy {A:S}{R0 R1:List (List Int)}{ρ2:En}(L:Lv B iF iR H G σ ρ lf lr ps Ms rs R0)(hO:∀ a,¬ B.O a)(hFR:iF≠iR)(hRH:iR≠iH)(hFH:iF≠iH)(hFW:iF≠iW)(hRW:iR≠iW)(zM:Ms.length≤1000)
  (e:Qe5 (exS p.cf A) iF iR iH iW Ms R0 ρ n=some (R1,ρ2)) (k:∀ σ1 H1 G1 rs1,Lv B iF iR H1 G1 σ1 ρ2 lf lr ps Ms rs1 R1→Same (dls H G) (dls H1 G1)→D.nx σ1 H1) :
  ∃ W:Nat→Nat→St→Hp→Prop,(∃ m,W 0 m σ H)∧∀ i m σ H,W i m σ H →
   ((Itr 0 n).stop i H∧D.nx σ H)∨((Itr 0 n).go i H∧∃ N:St→Hp→Prop,(∀ σ' H',N σ' H'→∃ m',m'<m∧W (i+1) m' σ' H')∧∀ x H',(Itr 0 n).yld i H x H'→Qc0 iW x σ H' fun σ2 H2=>Qgs (tS p A) (Qhq (tBM K "list" Qd9 (Qcc iR) (Qb5 (Qcc iH) Qfw))) { D with nx:=N,ct:=N,bk:=D.nx } σ2 H2):=by
 refine Qm8 (fun i σ1 H1=>∃ G1 rs1 q,Qe5 (exS p.cf A) iF iR iH iW Ms R0 ρ i=some q∧Lv B iF iR H1 G1 σ1 q.2 lf lr ps Ms rs1 q.1∧Same (dls H G) (dls H1 G1)) ⟨G,rs,(R0,ρ),rfl,L,Same.refl _⟩ (fun i σ1 H1 hi ⟨G1,rs1,q,eq,L1,s1⟩=>?_) fun σ1 H1 ⟨G1,rs1,q,eq,L1,s1⟩=>?_
 ·obtain ⟨q',eq'⟩:=Qra (i:=i+1) (by omega) e
  have e2:=eq'
  unfold Qe5 at e2
  rw [eq] at e2
  by_cases hl:iW<q.2.length
  ·simp only [if_pos hl] at e2
   rw [Int.zero_add]
   exact Q39 (L1.setW hFW hRW hl) hO hFR hRH hFH zM e2 fun σ2 H2 G2 rs2 L2 s2=>⟨G2,rs2,q',eq',L2,s1.trans s2⟩
  ·simp only [if_neg hl] at e2
   cases e2
 ·rw [e] at eq
  cases eq
  exact k σ1 H1 G1 rs1 L1 s1
theorem Qzz {f0 fA:En→SO}{q2:List (List (List Int))×En}(e:Qs8 f0 fA iF iR iH iW iS Ms ρ=some q2):∃ ρ1 uF j q,f0 (ρ.set iF (.ro (.lst (Ms.map Qj))))=.nx ρ1∧Qa ρ1 iF=.ro uF∧Qa ρ1 iR=.ow (.lst [])∧Qa (ρ1.set iF (.ow (.lst (Ms.map Qj)))) iS=.fz (.int j)∧j.natAbs≤1000
  ∧ Qe5 fA iF iR iH iW Ms [] (ρ1.set iF (.ow (.lst (Ms.map Qj)))) j.toNat=some q∧q.1.length≤1000∧Ms.length<1000∧q2=(Ms++[q.1],(q.2.set iR (.fz (Qj q.1))).set iF (.ow (.lst ((Ms++[q.1]).map Qj)))):=by
 unfold Qs8 at e
 split at e
 ·rename_i ρ1 e1
  split at e
  ·rename_i uF j eF eR eS
   split at e
   ·rename_i zj
    split at e
    ·rename_i q eq
     split at e
     ·rename_i z
      cases e
      exact ⟨ρ1,uF,j,q,e1,eF,eR,eS,zj,eq,z.1,z.2,rfl⟩
     ·cases e
    ·cases e
   ·cases e
  ·cases e
 ·cases e
abbrev Qu2 (K:Frg) (i j:Nat):TS:=Qhq (tBM K "list" Qd9 (Qcc i) (Qb5 (Qcc j) Qfw))
theorem Q4a {A0 A:S}{q2:List (List (List Int))×En}(L:Lf B iF H G σ ρ lf ps Ms)(hO:∀ a,¬ B.O a)(hFR:iF≠iR)(hRH:iR≠iH)(hFH:iF≠iH)(hFW:iF≠iW)(hRW:iR≠iW)
  (e:Qs8 (exS p.cf A0) (exS p.cf A) iF iR iH iW iS Ms ρ=some q2) (k:∀ σ1 H1 G1 ps1,Lf B iF H1 G1 σ1 q2.2 lf ps1 q2.1→Same (dls H G) (dls H1 G1)→D.nx σ1 H1) :
  Qgs (tS p A0) (Qgs (Qog (Qkx (Qb5 (Qcc iS) Qfw)) (Qc0 iW) (Qgs (tS p A) (Qu2 K iR iH))) (Qu2 K iF iR)) D σ H:=by
 obtain ⟨ρ1,uF,j,q,e1,eF,eR,eS,zj,eq,z1,z2,rfl⟩:=Qzz e
 refine L.blk hO (by omega) e1 eF fun σ1 H1 G1 L1 s1=>?_
 obtain ⟨lr,V1⟩:=L1.start (iR:=iR) (by rw [Qg,if_neg fun z=>hFR z.1.symm];exact eR)
 have sl:=L1.F.slot iS
 rw [eS] at sl
 obtain ⟨v,ev,iv⟩:=sl
 have:v=.int j:=by unfold Is at iv;exact iv
 subst this
 refine ⟨_,ev,j,rfl,by omega,by omega,?_⟩
 refine Qzy V1 hO hFR hRH hFH hFW hRW (by omega) eq fun σ2 H2 G2 rs2 V2 s2=>?_
 exact V2.tabT hO hFR z1 z2 fun H3 G3 L3 s3=>k σ2 H3 G3 _ L3 ((s1.trans s2).trans s3)
theorem Qrb {f0 fA:En→SO}{ρ0:En}:∀ {n i:Nat} {q:List (List (List Int))×En},i≤n→Qe6 f0 fA iF iR iH iW iS iT ρ0 n=some q→∃ q',Qe6 f0 fA iF iR iH iW iS iT ρ0 i=some q'
 | 0,i,q,h,e=>by
  have:i=0:=by omega
  subst this
  exact ⟨q,e⟩
 | n+1,i,q,h,e=>by
  by_cases z:i=n+1
  ·subst z
   exact ⟨q,e⟩
  ·unfold Qe6 at e
   split at e
   ·rename_i q1 e1
    exact Qrb (by omega) e1
   ·cases e
abbrev Q4b (p:Pr) (K:Frg) (iF iR iH iW iS:Nat) (A0 A:S):TS:=Qgs (tS p A0) (Qgs (Qog (Qkx (Qb5 (Qcc iS) Qfw)) (Qc0 iW) (Qgs (tS p A) (Qu2 K iR iH))) (Qu2 K iF iR))
theorem Qz0 {A0 A:S}{q2:List (List (List Int))×En}(L:Lf B iF H G σ ρ lf [] [])(hO:∀ a,¬ B.O a)(hFR:iF≠iR)(hRH:iR≠iH)(hFH:iF≠iH)(hFW:iF≠iW)(hRW:iR≠iW)(hFT:iF≠iT)
  (e:Qe6 (exS p.cf A0) (exS p.cf A) iF iR iH iW iS iT ρ n=some q2) (k:∀ σ1 H1 G1 ps1,Lf B iF H1 G1 σ1 q2.2 lf ps1 q2.1→Same (dls H G) (dls H1 G1)→D.nx σ1 H1) :
  ∃ W:Nat→Nat→St→Hp→Prop,(∃ m,W 0 m σ H)∧∀ i m σ H,W i m σ H →
   ((Itr 0 n).stop i H∧D.nx σ H)∨((Itr 0 n).go i H∧∃ N:St→Hp→Prop,(∀ σ' H',N σ' H'→∃ m',m'<m∧W (i+1) m' σ' H')∧∀ x H',(Itr 0 n).yld i H x H'→Qc0 iT x σ H' fun σ2 H2=>Q4b p K iF iR iH iW iS A0 A { D with nx:=N,ct:=N,bk:=D.nx } σ2 H2):=by
 refine Qm8 (fun i σ1 H1=>∃ G1 ps1 q,Qe6 (exS p.cf A0) (exS p.cf A) iF iR iH iW iS iT ρ i=some q∧Lf B iF H1 G1 σ1 q.2 lf ps1 q.1∧Same (dls H G) (dls H1 G1)) ⟨G,[],([],ρ),rfl,L,Same.refl _⟩ (fun i σ1 H1 hi ⟨G1,ps1,q,eq,L1,s1⟩=>?_) fun σ1 H1 ⟨G1,ps1,q,eq,L1,s1⟩=>?_
 ·obtain ⟨q',eq'⟩:=Qrb (i:=i+1) (by omega) e
  have e2:=eq'
  unfold Qe6 at e2
  rw [eq] at e2
  by_cases hl:iT<q.2.length
  ·simp only [if_pos hl] at e2
   rw [Int.zero_add]
   exact Q4a (L1.setW hFT hl) hO hFR hRH hFH hFW hRW e2 fun σ2 H2 G2 ps2 L2 s2=>⟨G2,ps2,q',eq',L2,s1.trans s2⟩
  ·simp only [if_neg hl] at e2
   cases e2
 ·rw [e] at eq
  cases eq
  exact k σ1 H1 G1 ps1 L1 s1
theorem Lf.evI {ex:E}(L:Lf B iF H G σ ρ lf ps Ms)(zM:Ms.length≤1000)(e:evE p.cf ex (ρ.set iF (.ro (.lst (Ms.map Qj))))=.ok (.fz (.int j)) ρ1)(s1F:Qa ρ1 iF=.ro uF)
  (k:∀ H1 G1,Lf B iF H1 G1 σ (ρ1.set iF (.ow (.lst (Ms.map Qj)))) lf ps Ms→Same (dls H G) (dls H1 G1)→Q (.int j) H1):tE p ex σ H Q:=by
 have hlF:iF<ρ.length:=by rw [←L.F.len];exact (List.getElem?_eq_some_iff.mp L.eF).1
 have hbF:=L.F.newO lf ⟨iF,_,L.sF,L.eF⟩
 have F2:=L.F.lock L.sF L.eF
 have aF:Qa (ρ.set iF (.ro (.lst (Ms.map Qj)))) iF=.ro (.lst (Ms.map Qj)):=by rw [Qg,if_pos ⟨rfl,hlF⟩]
 have nF:¬ OwA σ (ρ.set iF (.ro (.lst (Ms.map Qj)))) lf:=fun h=>by
  obtain ⟨j,t,ej,sj⟩:=h
  have:=F2.apart j iF lf ⟨⟨_,by rw [ej];rfl⟩,sj⟩ ⟨⟨_,by rw [aF];rfl⟩,L.eF⟩
  rw [this,aF] at ej
  cases ej
 have mF:¬ MlA σ (ρ.set iF (.ro (.lst (Ms.map Qj)))) lf:=fun h=>by
  obtain ⟨j,t,ej,sj⟩:=h
  have:=F2.apart j iF lf ⟨⟨_,by rw [ej];rfl⟩,sj⟩ ⟨⟨_,by rw [aF];rfl⟩,L.eF⟩
  rw [this,aF] at ej
  cases ej
 refine ⟨G,_,F2.self,?_⟩
 rw [e]
 intro v H1 G1 F3 pv
 have ev:v=.int j:=by
  have a:=pv.is
  unfold Is at a
  exact a
 subst ev
 have F4:=F2.trans F3
 have sm:=F2.same F3
 have hf:=F3.chg lf _ nF mF L.tr.top
 have m1:=F4.slot iF
 rw [s1F] at m1
 obtain ⟨b1,y1,gF,_⟩:=m1
 rw [L.eF] at y1
 cases y1
 have F5:=F4.unlock s1F hbF
 have hl1:iF<ρ1.length:=by
  have:=F5.len
  rw [List.length_set] at this
  rw [←this]
  exact (List.getElem?_eq_some_iff.mp L.eF).1
 have tr1:Tree H1 G1 lf ps Ms:=⟨gF,hf,Qdh sm L.tr.tabs,L.tr.nd⟩
 have F6:=F5.tellO (t:=uF) (by rw [Qg,if_pos ⟨rfl,hl1⟩]) L.eF gF (tr1.ownAt (by omega))
 rw [List.set_set] at F6
 exact k H1 G1 ⟨F6,by rw [Qg,if_pos ⟨rfl,hl1⟩],L.eF,tr1,L.fr⟩ sm
theorem Lf.put {q:Addr×List Addr}{M:List (List Int)}{r:Addr}{x y:Nat}{k v:Int}{Q:Hp→Prop}(L:Lf B iF H G σ ρ lf (q::ps) (M::Ms))(zM:(M::Ms).length≤1000)(er:q.2[x]?=some r)(eM:M[x]?=some is)(ey:ixN is.length k=some y)
  (ho:∀ i,i≠iF→Qa ρ i=.un∨∃ ns:List Int,Qa ρ i=.ml (.lst (ns.map T.int)))
  (kk:∀ H1,FI B H1 G σ (ρ.set iF (.ow (.lst ((M.set x (is.set y v)::Ms).map Qj))))→Q H1):Qhr (.ref r) (.int k) (.int v) H Q:=by
 have hlF:iF<ρ.length:=by rw [←L.F.len];exact (List.getElem?_eq_some_iff.mp L.eF).1
 have hT:TabR H G q M:=by
  have:=L.tr.tabs
  cases this with
  | cons h _=>exact h
 obtain ⟨is',ei,hR⟩:=Paired.at hT.2.2.1 er
 rw [eM] at ei
 cases ei
 have hB:B.H r=none:=L.fr r (List.mem_append_right _ (by rw [List.flatMap_cons];exact List.mem_append_left _ (List.mem_of_getElem? er)))
 have F1:=Qaac (is':=is.set y v) L.F hlF L.sF L.eF L.tr er hB (by rw [List.length_set];exact hR.2.2) (by omega) ho
 refine ⟨r,is.map V.int,k,y,rfl,rfl,hR.2.1,by rw [List.length_map];exact ey,?_⟩
 rw [←List.map_set]
 exact kk _ F1
theorem ixN0 (n:Nat):ixN (n+1) 0=some 0:=by
 unfold ixN
 simp
theorem Lf.putT {q:Addr×List Addr}{M:List (List Int)}{x y:Nat}{k v:Int}{V0 E1 E2:E}{u0 u1 u2:T}{ρ2 ρ3:En}{t0:TE}(h0:∀ σ H Q,Q (.int 0) H→t0 σ H Q)(L:Lf B iF H G σ ρ lf (q::ps) (M::Ms))(zM:(M::Ms).length≤1000)
  (e0:evE p.cf V0 (ρ.set iF (.ro (.lst ((M::Ms).map Qj))))=.ok (.fz (.int v)) ρ1) (s0:Qa ρ1 iF=.ro u0)
  (e1:evE p.cf E1 (ρ1.set iF (.ro (.lst ((M::Ms).map Qj))))=.ok (.fz (.int j)) ρ2) (s1:Qa ρ2 iF=.ro u1)
  (e2:evE p.cf E2 (ρ2.set iF (.ro (.lst ((M::Ms).map Qj))))=.ok (.fz (.int k)) ρ3) (s2:Qa ρ3 iF=.ro u2)
  (ex:ixN M.length j=some x) (eM:M[x]?=some is) (ey:ixN is.length k=some y)
  (hl:ρ'.length=ρ3.length) (hF:Qa ρ' iF=.ow (.lst ((M::Ms).map Qj))) (hw:∀ i,i≠iF→Qa ρ' i=.un∨(Qa ρ' i=Qa ρ3 i∧∃ ns:List Int,Qa ρ' i=.ml (.lst (ns.map T.int))))
  (kk:∀ H1 G1,FI B H1 G1 σ (ρ'.set iF (.ow (.lst ((M.set x (is.set y v)::Ms).map Qj))))→D.nx σ H1) :
  Qhz (tE p V0) (Qqb (tOp (Qjd K) (tOp (Qjd K) (Qcc iF) t0) (tE p E1)) (tE p E2) Qhr) D σ H:=by
 refine L.evI zM e0 s0 fun H1 G1 L1 _=>?_
 refine ⟨_,L1.eF,h0 _ _ _ ⟨lf,_,0,.ref q.1,rfl,rfl,SqL.of L1.tr.top,?_,?_⟩⟩
 ·unfold atI
  rw [List.map_cons,List.length_cons,ixN0]
  rfl
 refine L1.evI zM (by rw [List.set_set];exact e1) s1 fun H2 G2 L2 _=>?_
 have hT:TabR H2 G2 q M:=by
  have:=L2.tr.tabs
  cases this with
  | cons h _=>exact h
 have lz:=Qf5 hT.2.2.1
 have hx:x<q.2.length:=by rw [lz];exact (Qoh ex).2.1
 refine ⟨q.1,_,j,.ref q.2[x],rfl,rfl,SqL.of hT.2.1,?_,?_⟩
 ·unfold atI
  rw [List.length_map,lz,ex]
  show (q.2.map V.ref)[x]?=_
  rw [List.getElem?_map,List.getElem?_eq_getElem hx]
  rfl
 refine L2.evI zM (by rw [List.set_set];exact e2) s2 fun H3 G3 L3 _=>?_
 have F3:FI B H3 G3 σ ρ':=L3.F.weakE (by rw [List.length_set];exact hl) fun i=>by
  by_cases z:i=iF
  ·right
   rw [z,hF,L3.sF]
  ·rcases hw i z with w | ⟨w,_⟩
   ·exact .inl w
   ·right
    rw [w,Qg,if_neg fun c=>z c.1]
 have L4:Lf B iF H3 G3 σ ρ' lf (q::ps) (M::Ms):=⟨F3,hF,L3.eF,L3.tr,L3.fr⟩
 exact L4.put zM (List.getElem?_eq_getElem hx) eM ey (fun i hi=>(hw i hi).imp id fun w=>w.2) fun H4 F4=>kk H4 G3 F4
theorem Lf.tst {ex:E}{Q:Bool→Hp→Prop}{bb:Bool}(L:Lf B iF H G σ ρ lf ps Ms)(zM:Ms.length≤1000)(e:Qab (evE p.cf ex (ρ.set iF (.ro (.lst (Ms.map Qj)))))=.ok bb ρ1)(s1F:Qa ρ1 iF=.ro uF)
  (k:∀ H1 G1,Lf B iF H1 G1 σ (ρ1.set iF (.ow (.lst (Ms.map Qj)))) lf ps Ms→Same (dls H G) (dls H1 G1)→Q bb H1):tT p ex σ H Q:=by
 have hlF:iF<ρ.length:=by rw [←L.F.len];exact (List.getElem?_eq_some_iff.mp L.eF).1
 have hbF:=L.F.newO lf ⟨iF,_,L.sF,L.eF⟩
 have F2:=L.F.lock L.sF L.eF
 have aF:Qa (ρ.set iF (.ro (.lst (Ms.map Qj)))) iF=.ro (.lst (Ms.map Qj)):=by rw [Qg,if_pos ⟨rfl,hlF⟩]
 have nF:¬ OwA σ (ρ.set iF (.ro (.lst (Ms.map Qj)))) lf:=fun h=>by
  obtain ⟨j,t,ej,sj⟩:=h
  have:=F2.apart j iF lf ⟨⟨_,by rw [ej];rfl⟩,sj⟩ ⟨⟨_,by rw [aF];rfl⟩,L.eF⟩
  rw [this,aF] at ej
  cases ej
 have mF:¬ MlA σ (ρ.set iF (.ro (.lst (Ms.map Qj)))) lf:=fun h=>by
  obtain ⟨j,t,ej,sj⟩:=h
  have:=F2.apart j iF lf ⟨⟨_,by rw [ej];rfl⟩,sj⟩ ⟨⟨_,by rw [aF];rfl⟩,L.eF⟩
  rw [this,aF] at ej
  cases ej
 refine ⟨G,_,F2.self,?_⟩
 rw [e]
 intro H1 G1 F3
 have F4:=F2.trans F3
 have sm:=F2.same F3
 have hf:=F3.chg lf _ nF mF L.tr.top
 have m1:=F4.slot iF
 rw [s1F] at m1
 obtain ⟨b1,y1,gF,_⟩:=m1
 rw [L.eF] at y1
 cases y1
 have F5:=F4.unlock s1F hbF
 have hl1:iF<ρ1.length:=by
  have:=F5.len
  rw [List.length_set] at this
  rw [←this]
  exact (List.getElem?_eq_some_iff.mp L.eF).1
 have tr1:Tree H1 G1 lf ps Ms:=⟨gF,hf,Qdh sm L.tr.tabs,L.tr.nd⟩
 have F6:=F5.tellO (t:=uF) (by rw [Qg,if_pos ⟨rfl,hl1⟩]) L.eF gF (tr1.ownAt (by omega))
 rw [List.set_set] at F6
 exact k H1 G1 ⟨F6,by rw [Qg,if_pos ⟨rfl,hl1⟩],L.eF,tr1,L.fr⟩ sm
theorem Qo9 (s:Slot):Qbt s=.un∨(Qbt s=s∧∃ ns:List Int,Qbt s=.ml (.lst (ns.map T.int))):=by
 unfold Qbt
 split
 ·rename_i ts
  split
  ·rename_i z
   obtain ⟨is,e⟩:=Option.isSome_iff_exists.mp z
   exact .inr ⟨rfl,is,by rw [Qer e]⟩
  ·exact .inl rfl
 ·exact .inl rfl
theorem Qtd (ρ:En)(i:Nat):Qa (ρ.map Qbt) i=Qbt (Qa ρ i):=by
 unfold Qa
 rw [List.getElem?_map]
 cases ρ[i]? <;> rfl
theorem Q4c {V0 E1 E2:E}{t0:TE}(h0:∀ σ H Q,Q (.int 0) H→t0 σ H Q)(L:Lf B iF H G σ ρ lf ps Ms)(e:Qwl (evE p.cf V0) (evE p.cf E1) (evE p.cf E2) iF Ms ρ=some ρ')(kk:∀ H1 G1,FI B H1 G1 σ ρ'→D.nx σ H1) :
  Qhz (tE p V0) (Qqb (tOp (Qjd K) (tOp (Qjd K) (Qcc iF) t0) (tE p E1)) (tE p E2) Qhr) D σ H:=by
 unfold Qwl at e
 split at e
 ·cases e
 rename_i M Ms
 split at e
 case isFalse=>cases e
 rename_i zM
 split at e
 case h_2=>cases e
 rename_i v ρ1 e0
 split at e
 case h_2=>cases e
 rename_i u0 j ρ2 s0 e1
 split at e
 case h_2=>cases e
 rename_i u1 k ρ3 s1 e2
 split at e
 case h_2=>cases e
 rename_i u2 x s2 ex
 split at e
 case h_2=>cases e
 rename_i is eM
 split at e
 case h_2=>cases e
 rename_i y ey
 cases e
 have hp:=L.tr.tabs
 cases ps with
 | nil=>cases hp
 | cons q ps =>
  have hl3:iF<ρ3.length:=by
   by_cases z:iF<ρ3.length
   ·exact z
   ·unfold Qa at s2
    rw [List.getElem?_eq_none (by omega)] at s2
    cases s2
  refine L.putT h0 zM e0 s0 e1 s1 e2 s2 ex eM ey (ρ':=(ρ3.map Qbt).set iF (.ow (.lst ((M::Ms).map Qj)))) (by rw [List.length_set,List.length_map]) (by rw [Qg,if_pos ⟨rfl,by rw [List.length_map];exact hl3⟩]) (fun i hi=>?_) fun H1 G1 F1=>kk H1 G1 (by rw [List.set_set] at F1;exact F1)
  rw [Qg,if_neg fun z=>hi z.1,Qtd]
  exact Qo9 _
theorem FI.sameR (F:FI B H G σ ρ)(F1:FI (bsB H G σ ρ) H1 G1 σ1 ρ1):Same (dls H G) (dls H1 G1):=fun b o e=>by
 obtain ⟨g,e'⟩:=Q5 e
 have nO:¬ OwA σ ρ b:=fun ⟨i,t,ei,si⟩=>by
  obtain ⟨a,x,ga,_⟩:=F.prvAt (i:=i) (t:=t) (by rw [ei];rfl)
  rw [si] at x
  cases x
  exact g ga
 have nM:¬ MlA σ ρ b:=fun ⟨i,t,ei,si⟩=>by
  obtain ⟨a,x,ga,_⟩:=F.prvAt (i:=i) (t:=t) (by rw [ei];rfl)
  rw [si] at x
  cases x
  exact g ga
 have h1:=F1.chg b o (fun q=>q) nM ((Qdl nO).trans e')
 have ng:¬ G1 b:=fun z=>by
  rcases F1.gn b z with q | q
  ·exact g q.1
  ·have:=(Qdl (H:=H) nO).symm.trans q
   rw [e'] at this
   cases this
 rw [Qbr ng]
 exact h1
theorem Qz1 {A0 A:S}{c V0 E1 E2:E}{iN:Nat}{t0:TE}(h0:∀ σ H Q,Q (.int 0) H→t0 σ H Q)(F:FI B H G σ ρ)(hO:∀ a,¬ B.O a)(hFR:iF≠iR)(hRH:iR≠iH)(hFH:iF≠iH)(hFW:iF≠iW)(hRW:iR≠iW)(hFT:iF≠iT)
  (h:SFin p B H G D (Qhu (exS p.cf A0) (exS p.cf A) (fun ρ=>Qab (evE p.cf c ρ)) (evE p.cf V0) (evE p.cf E1) (evE p.cf E2) iF iR iH iW iS iT iN ρ)) :
  Qgs (Qog (Qkx (Qb5 (Qcc iN) Qfw)) (Qc0 iT) (Q4b p K iF iR iH iW iS A0 A)) (Qvw (tT p c) (Qhz (tE p V0) (Qqb (tOp (Qjd K) (tOp (Qjd K) (Qcc iF) t0) (tE p E1)) (tE p E2) Qhr)) Qm7) D σ H:=by
 unfold Qhu at h
 split at h
 case h_2=>exact h.elim
 rename_i n sF sN
 split at h
 case isFalse=>exact h.elim
 rename_i zn
 split at h
 case h_2=>exact h.elim
 rename_i q eq
 split at h
 case isFalse=>exact h.elim
 rename_i zq
 split at h
 case h_2=>exact h.elim
 rename_i b ρ2 eb
 split at h
 case h_2=>exact h.elim
 rename_i u2 s2
 have F0:=F.rebase
 obtain ⟨lf,L⟩:=F0.found sF
 have sl:=F.slot iN
 rw [sN] at sl
 obtain ⟨v,ev,iv⟩:=sl
 have:v=.int n:=by unfold Is at iv;exact iv
 subst this
 refine ⟨_,ev,n,rfl,by omega,by omega,?_⟩
 refine Qz0 L (fun _ z=>z) hFR hRH hFH hFW hRW hFT eq fun σ1 H1 G1 ps1 L1 s1=>?_
 refine L1.tst zq eb s2 fun H2 G2 L2 s2'=>?_
 cases b with
 | true =>
  simp only [if_pos] at h
  split at h
  case h_2=>exact h.elim
  rename_i ρ3 e3
  exact Q4c h0 L2 e3 fun H3 G3 F3=>h σ1 H3 G3 (F.transR hO F3) (F.sameR F3)
 | false =>
  rw [if_neg Bool.false_ne_true] at h
  exact h σ1 H2 G2 (F.transR hO L2.F) (F.sameR L2.F)
end
theorem Qte {f0 fA:En→SO}{fc:En→Out Bool}{fV f1 f2:En→Out PV}{iF iR iH iN:Nat}{x:Xn}:Qhu f0 fA fc fV f1 f2 iF iR iH iW iS iT iN ρ≠.xn x ρ':=fun h=>by
 unfold Qhu at h
 repeat' split at h
 all_goals cases h
theorem Qz2 {o:SO}(n:∀ x ρ,o≠.xn x ρ)(h:SFin p B H G D o):SFin p.calm B H G D o:=by
 cases o with
 | xn x ρ1=>exact (n _ _ rfl).elim
 | nx ρ1=>exact h
 | bk ρ1=>exact h
 | ct ρ1=>exact h
 | rt r ρ1=>exact h
 | no=>exact h
abbrev tN0:TE:=tC (.int 0)
theorem Q4d {A0 A:S}{c V0 E1 E2:E}{iF iR iH iN:Nat}(hd:iF≠iR∧iR≠iH∧iF≠iH∧iF≠iW∧iR≠iW∧iF≠iT)(h:tS p (.nest iF iR iH iW iS iT iN A0 A c V0 E1 E2) D σ H) :
  Qgs (Qog (Qkx (Qb5 (Qcc iN) Qfw)) (Qc0 iT) (Q4b p.calm K iF iR iH iW iS A0 A)) (Qvw (tT p.calm c) (Qhz (tE p.calm V0) (Qqb (tOp (Qjd K) (tOp (Qjd K) (Qcc iF) tN0) (tE p.calm E1)) (tE p.calm E2) Qhr)) Qm7) D σ H:=by
 obtain ⟨B,G,ρ,F,hO,h⟩:=h
 unfold exS at h
 exact Qz1 (p:=p.calm) (fun _ _ _ q=>q) F hO hd.1 hd.2.1 hd.2.2.1 hd.2.2.2.1 hd.2.2.2.2.1 hd.2.2.2.2.2 (Qz2 (fun _ _=>Qte) h)
theorem Qaad {st1 st2:Stmt}{sts:List Stmt}{A0 A s:S}{c V0 E1 E2:E}{iF iR iH iN:Nat}(hd:iF≠iR∧iR≠iH∧iF≠iH∧iF≠iW∧iR≠iW∧iF≠iT)
  (h1:QS X.nox st1 (Qog (Qkx (Qb5 (Qcc iN) Qfw)) (Qc0 iT) (Q4b p.calm K iF iR iH iW iS A0 A))) (h2:QS X.nox st2 (Qvw (tT p.calm c) (Qhz (tE p.calm V0) (Qqb (tOp (Qjd K) (tOp (Qjd K) (Qcc iF) tN0) (tE p.calm E1)) (tE p.calm E2) Qhr)) Qm7)) (h3:QB X sts (tS p s)) :
  QB X (st1::st2::sts) (tS p (.seq (.nest iF iR iH iW iS iT iN A0 A c V0 E1 E2) s)) :=
 (Qdj (Q3b h1) (Qdj (Q3b h2) h3)).weak fun D σ H h=>Q4d (D:={ D with nx:=tS p s D }) hd (Qs9 h)
theorem Qz3 {sts:List Stmt}{s1 s2:S}{t:TS}(h1:QS X st (tS p s1))(h2:QB X sts (Qgs (tS p s2) t)):QB X (st::sts) (Qgs (tS p (.seq s1 s2)) t) :=
 (Qdj h1 h2).weak fun D σ H h=>Qs9 (D:={ D with nx:=t D }) h
theorem Q6m (K:Frg)(hK:X.K=K):QIx X (Qjd K):=⟨by subst hK;exact Qug⟩
theorem Q6n {e:Expr}{e':E}(h:QE X e (tE p e')):QE X e (tE p (.fzE e')):=h.weak fun σ H Q ⟨G,ρ,F,h⟩=>by
 unfold evE at h
 refine ⟨G,ρ,F,h.bind.imp fun r ρ1 h1 v H1 G1 F1 r1=>?_⟩
 cases e:frz r with
 | none=>rw [e] at h1;exact False.elim h1
 | some t =>
  rw [e] at h1
  obtain ⟨G',F',i,s⟩:=PVR.lay r1 F1 e
  exact h1 v H1 G' F' i
theorem Qaae {a' b':E}{i j:Nat}(h:QS X st (Q2g i j (Qb5 (tE p a') (Qb5 (tE p b') Qfw)))):QS X st (tS p (.parO i j a' b')):=h.weak fun D σ H ⟨B,G,ρ,F,hO,h⟩=>by
 unfold exS at h
 refine Qe9 F h fun ra ρ1 v H1 G1 k1 F1 _ pa _=>?_
 refine Qgz F1 (Qfq k1) fun rb ρ2 w H2 G2 k2 F2 F2' pb=>?_
 have k2:=k2.late (F1.same F2')
 have pa2:=pa.step F1 F2'
 have pb2:=pb.base F1
 refine ⟨v,w,rfl,?_⟩
 cases ra with
 | fz x=>cases rb <;> exact False.elim k2
 | sl x=>cases rb <;> exact False.elim k2
 | ow x =>
  cases rb with
  | fz y=>exact False.elim k2
  | sl y=>exact False.elim k2
  | ow y =>
   obtain ⟨ρ3,e3,k3⟩:=Qdr (show SFin p B H2 G2 D (Qak (Qa8 i (.ow x) ρ2) fun ρ3=>Qak (Qa8 j (.ow y) ρ3) .nx) from k2)
   obtain ⟨ρ4,e4,k4⟩:=Qdr k3
   have F3:=F2.setOw rfl e3 pa2
   obtain ⟨a,rfl,_,_,_,oa⟩:=pa
   obtain ⟨_,ea,_⟩:=oa
   obtain ⟨b,rfl,nb,_,_,_⟩:=pb
   have hab:a≠b:=fun z=>by rw [z,nb] at ea;cases ea
   obtain ⟨b',eb',n',g',np',o'⟩:=pb2
   cases eb'
   obtain ⟨hi,er⟩:=Qhh e3
   refine k4 _ H2 G2 (F3.setOw rfl e4 ⟨b,rfl,n',g',fun m hm=>?_,o'⟩) (Same.refl _)
   obtain ⟨⟨t,et⟩,es⟩:=hm
   by_cases z:m=i
   ·rw [z,Qjl (by rw [F2.len];exact hi)] at es
    cases es
    exact hab rfl
   ·rw [er,Qg,if_neg fun q=>z q.1] at et
    rw [List.getElem?_set_ne (Ne.symm z)] at es
    exact np' m ⟨⟨t,et⟩,es⟩
section
variable {X:Cx} {p:Pr} {body suite:List Stmt} {b0:Stmt} {n:Str} {np hpos pos:Pos} {i:Nat} {b:S} {h:Nat→Option Int→Option T}
end
section
variable {X:Cx} {p:Pr} {e:Expr} {es:List Expr} {es':Es} {x nm:Str} {np cpos pos:Pos} {c k:Nat} {D:Ends} {σ:St} {H:Hp}
end
section
variable {X:Cx} {p:Pr} {body suite:List Stmt} {b0:Stmt} {n:Str} {np hpos pos:Pos} {i:Nat} {b:S} {h:Nat→Option Int→Option T}
end
section
variable {X:Cx} {pins:List (Addr×Obj)} {σ:St} {H:Hp} {s:Shared}
end
section
variable {X:Cx} {p:Pr}
end
section
variable {X:Cx} {p:Pr} {x:Str} {i n:Nat} {e:Expr} {es:List Expr} {es':Es} {p1 pos:Pos}
end
structure LamSc (l:LamT):Prop where
 kind:l.scope.kind=.function
 co:l.scope.isCoroutine=false
 gen:l.scope.isGenerator=false
 nd:(l.ps++l.caps).Nodup
 par:∀ x∈l.ps,l.scope.names.lookup x=some .local
 cap:∀ x∈l.caps,l.scope.names.lookup x=some .free
 nocell:∀ y∈l.scope.names,y.2≠.cell
 free:∀ y∈l.scope.names,y.2=.free→y.1∈l.caps
 bind:∀ (cl:List (Str×Addr)) (pm cdv ctv:Value) (us:List Value),us.length=l.ps.length→bindArgs (PySem.W.kla_fn "<lambda>" l.qual l.params l.body l.scope cl pm cdv ctv) ⟨us,[]⟩=pure (l.ps.zip us)
section
variable {P:Program} {w:World} {K:Frg} {mg:Str→Option Value} {base:Heap}
end
theorem look_snoc {p:Addr×Obj}{o:Obj}{b:Addr}:∀ {r:Frg},p∈r→(r++[(p.1,o)]).lookup b=r.lookup b
 | [],h=>by cases h
 | (a,u)::r,h=>by
  rw [List.cons_append,List.lookup_cons,List.lookup_cons]
  by_cases hb:b=a
  ·subst hb;rw [beq_self_eq_true]
  ·rw [beq_eq_false_iff_ne.mpr hb]
   rcases List.mem_cons.mp h with z | z
   ·cases r with
    | nil=>simp [z,hb]
    | cons q r =>
     clear h
     have:∀ (r:Frg),(r++[(p.1,o)]).lookup b=r.lookup b:=fun r=>by
      induction r with
      | nil=>simp [z,hb]
      | cons q r ih=>rw [List.cons_append,List.lookup_cons,List.lookup_cons,ih]
     exact this _
   ·exact look_snoc z
section
variable {K:Frg} {tb:Addr} {qn:Str} {mg:Str→Option Value}
structure MakesL (K:Frg) (mg:Str→Option Value) (x:Str) (c tb:Addr):Prop where
 tab:K.lookup tb=none
 of:Qsz K mg x (.ref c)
 hd:∃ o vs file tf flags tg inF text tt,K.lookup c=some o∧o.cls=.type "code" ∧ o.data=.fields vs∧vs[11]?=some (.ref tb)∧vs.getD 11 .none=.ref tb∧vs.getD 18 .none=.str file tf∧vs.getD 7 .none=.int flags tg∧vs.getD 9 .none=.bool inF∧vs.getD 10 .none=.int text tt
end
section
variable {X:Cx} {p:Pr} {x:Str} {e:Expr} {es:List Expr} {es':Es} {p1 pos:Pos}
end
abbrev uns (n:Nat):En:=List.replicate n .un
theorem Qcx (n i:Nat):Qa (uns n) i=.un:=by
 unfold Qa uns
 rw [List.getElem?_replicate]
 split <;> rename_i e
 ·split at e <;> cases e
  rfl
 ·rfl
abbrev bs0 (H:Hp):Bs:=⟨H,fun _=>False,fun _=>False,fun _=>False,fun _ _=>False⟩
theorem Qz4 (H:Hp)(hl:σ.length=n):FI (bs0 H) H (fun _=>False) σ (uns n) where
 len:=by rw [hl,List.length_replicate]
 slot:=fun i=>by rw [Qcx];trivial
 apart:=fun i j a h _=>by obtain ⟨⟨t,e⟩,_⟩:=h;rw [Qcx] at e;cases e
 prv:=fun b h=>h.elim
 chg:=fun _ _ _ _ e=>e
 keep:=fun _ o e=>⟨o,e⟩
 newO:=fun a h=>by obtain ⟨i,t,e,_⟩:=h;rw [Qcx] at e;cases e
 newM:=fun a h=>by obtain ⟨i,t,e,_⟩:=h;rw [Qcx] at e;cases e
 fix:=fun i a h=>by obtain ⟨⟨t,e⟩,_⟩:=h;rw [Qcx] at e;rcases e with e | e <;> cases e
 gg:=fun _ h=>h
 gn:=fun _ h=>.inl h
 bp:=fun _ h=>h.elim
theorem Qaaf {c':E}{ρ1:En}{Q:Bool→Hp→Prop}{b:Bool}(hl:σ.length=n)(e:Qab (evE p.cf c' (uns n))=.ok b ρ1)(q:∀ H1,Same H H1→Q b H1):tT p c' σ H Q:=by
 refine ⟨fun _=>False,uns n,(Qz4 H hl).self,?_⟩
 rw [e]
 intro H1 G1 F1
 refine q H1 fun b o eb=>F1.chg b o (fun h=>?_) (fun h=>?_) eb
 ·obtain ⟨i,t,e,_⟩:=h;rw [Qcx] at e;cases e
 ·obtain ⟨i,t,e,_⟩:=h;rw [Qcx] at e;cases e
def Qlt (K:Frg):Sp:=fun vs H Q _=>∃ (a:Addr) (ns:List Int) (k:Nat),vs=[.ref a,.int k]∧SqL K H a (ns.map V.int)∧∀ i:Int,Q (.int i) H
abbrev Qz5 (K:Frg) (hi:Int):TI:=Qst K (tOp (Qni K) (Q5w (Qb5 (Qud (Qlt K) [] E0 (Qb5 (Qcc 0) (Qb5 (tC (.int 0)) Qfw))) Qfw)) (tSl (Qxy K) (Qcc 0) (Quf (tC (.int 1))) (Quf (tC (.int hi)))))
theorem Qz6 {a:Addr}{ns:List Int}{ic:Nat}{body:S}{hi:Int}(hσ:σ[0]?=some (some (.ref a)))(hs:SqL K H a (ns.map V.int))(hns:ns.length≤63)(hl:σ.length=n)(hic:ic<n)
  (hb:∀ m:Int,∃ ρ',exS p.cf body ((uns n).set ic (.fz (.int m)))=.nx ρ'∧ρ'.length=n) (hD:∀ σ' H',D.nx σ' H'):Qog (Qz5 K hi) (Qc0 ic) (tS p body) D σ H:=by
 refine ⟨_,hσ,a,ns,0,rfl,hs,fun c0=>⟨by show 1≤sizeLine;decide,fun l7 n7=>?_⟩⟩
 have hs7:=(Same.upd (o:=.lst [.int c0]) n7).seq hs
 refine ⟨_,hσ,_,rfl,_,rfl,.inl ⟨a,_,rfl,hs7,fun l8 n8=>?_⟩⟩
 have n78:l7≠l8:=Qb4 Qr n8
 have hcl:=Qgu (ns.map V.int) (some 1) (some hi)
 refine .inr (.inl ⟨l7,l8,_,_,rfl,rfl,by rw [Qw n78,Qr],Qr,?_,fun l9 n9=>?_⟩)
 ·refine Qbq ?_
  rw [List.length_map] at hcl
  show 1+_≤100000
  omega
 generalize hH9:upd (upd (upd H l7 (.lst [.int c0])) l8 (.lst (Qgt (ns.map V.int) (some 1) (some hi)))) l9 (.lst ([.int c0]++Qgt (ns.map V.int) (some 1) (some hi)))=H9
 have e9:H9 l9=some (.lst ([.int c0]++Qgt (ns.map V.int) (some 1) (some hi))):=by rw [←hH9,Qr]
 have allI:∀ x∈[V.int c0]++Qgt (ns.map V.int) (some 1) (some hi),∃ i:Int,x=.int i:=fun x hx=>by
  rcases List.mem_append.mp hx with hx | hx
  ·exact ⟨c0,List.mem_singleton.mp hx⟩
  ·have hx:=List.mem_of_mem_drop (List.mem_of_mem_take hx)
   obtain ⟨n,_,e⟩:=List.mem_map.mp hx
   exact ⟨n,e.symm⟩
 refine ⟨l9,rfl,.inl ⟨⟨_,SqL.of e9⟩,Qxg (K:=K) (a:=l9) (xs:=[V.int c0]++Qgt (ns.map V.int) (some 1) (some hi)) (fun i σ H10=>σ.length=n∧H10 l9=some (.lst ([.int c0]++Qgt (ns.map V.int) (some 1) (some hi)))) ⟨hl,e9⟩ (fun i σ H10 _ h=>SqL.of h.2) ?_ ?_⟩⟩
 ·rintro i x σ2 H2 hx ⟨hl2,e2⟩
  obtain ⟨m,rfl⟩:=allI x (List.mem_of_getElem? hx)
  obtain ⟨ρ',eb,lb⟩:=hb m
  have F0:=(Qz4 H2 hl2).setFz (i:=ic) (v:=.int m) (t:=.int m) (by rw [List.length_replicate];exact hic) Is.int
  refine ⟨bs0 H2,fun _=>False,_,F0,fun _ z=>z,?_⟩
  rw [eb]
  exact fun σ1 H1 G1 F1 _=>⟨by rw [F1.len,lb],F1.chg l9 _ (fun z=>z) (fun z=>z) e2⟩
 ·rintro σ2 H2 _
  exact hD σ2 H2
def Qtf (K:Frg):Sp:=fun vs H Q _=>∃ (a:Addr) (ns:List Int),vs=[.ref a]∧SqL K H a (ns.map V.int)∧ns.length≤63∧∀ H',Q (.bl true) H'
abbrev Q6o (p:Pr) (K:Frg) (c:E) (ic:Nat) (hi:Int) (body:S):TS:=Qgs (Qvw (tT p c) (fun _ _ _=>False) Qm7) (Qgs (Qog (Qz5 K hi) (Qc0 ic) (tS p body)) (Q7p (tC (.bl true))))
theorem Q4e {vs:List V}{E:XK}{c:L2.E}{ic:Nat}{hi:Int}{body:S}{ρ1:En}(h:Qtf K vs H Q E)(hN:1≤N.length)(hic:ic<N.length)(hc:Qab (evE p.cf c (uns N.length))=.ok false ρ1)
  (hb:∀ m:Int,∃ ρ',exS p.cf body ((uns N.length).set ic (.fz (.int m)))=.nx ρ'∧ρ'.length=N.length):Q6o p K c ic hi body { nx:=fun _ H'=>Q .non H',rt:=Q } (Qb6 N vs) H:=by
 obtain ⟨a,ns,rfl,hs,hns,q⟩:=h
 have hl:(Qb6 N [.ref a]).length=N.length:=by unfold Qb6;simp only [List.length_append,List.length_map,List.length_replicate,List.length_cons,List.length_nil];omega
 refine Qaaf hl hc fun H1 s1=>?_
 refine iteF ?_
 refine Qz6 (Qny rfl) (s1.seq hs) hns hl hic hb fun σ' H'=>q H'
def Qfa:Slot→Bool
 | .ml _=>false
 | _=>true
theorem Qu3:∀ {ρ:En},ρ.all Qfa=true→∀ k t,Qa ρ k≠.ml t
 | [],_,k,t,e=>by rw [Qf3] at e;cases e
 | s::ρ,h,0,t,e=>by
  rw [Qb] at e
  subst e
  simp [Qfa] at h
 | s::ρ,h,k+1,t,e=>by
  rw [List.all_cons,Bool.and_eq_true] at h
  rw [Qc] at e
  exact Qu3 h.2 k t e
theorem Qlu {ρi:En}(h:ρi.all Qfa=true):∀ (ρ:En) (n:Nat),Qdk js ρi n ρ=ρ
 | [],_=>rfl
 | s::ρ,n=>by
  unfold Qdk
  rw [Qlu h ρ (n+1)]
  rcases Qcz js ρi n s with e | ⟨k,t,_,e,_⟩
  ·rw [e]
  ·exact absurd e (Qu3 h k t)
theorem Qpa {ρi:En}(h:ρi.all Qfa=true):Qlc js ρi ρ=ρ:=Qlu h ρ 0
theorem Qis:∀ {ρ0 ρ:En},ρ0.all Qfa=true→ρ0.length=ρ.length→Qe4 ρ0 ρ=true
 | [],[],_,_=>rfl
 | [],_::_,_,h=>by cases h
 | _::_,[],_,h=>by cases h
 | s0::ρ0,s::ρ,h,hl=>by
  rw [List.all_cons,Bool.and_eq_true] at h
  have q:=Qis (ρ0:=ρ0) (ρ:=ρ) h.2 (by simpa using hl)
  cases s0 <;> first | exact q | (simp [Qfa] at h)
def Qz:Slot→Bool
 | .un=>true
 | .fz _=>true
 | _=>false
theorem Qz7 {s:Slot}{rest:En}{x:T}(h:Qz s=true):Qdp (.nm 0) x (s::rest)=some (.fz x::rest):=by
 cases s <;> first | rfl | cases h
theorem Qlv {c:En→Out Bool}{el:En→Out PV}{rest:En}{g:T→Bool}{f:T→T}:∀ {xs acc:List T} {s0:Slot},Qz s0=true→(∀ x∈xs,c (.fz x::rest)=.ok (g x) (.fz x::rest))→(∀ x∈xs,g x=true→∃ r,el (.fz x::rest)=.ok r (.fz x::rest)∧frz r=some (f x))→acc.length+xs.length≤100000 →
  ∃ s,Qb8 (.nm 0) c el xs acc (s0::rest)=.ok (acc++(xs.filter g).map f) (s::rest)∧Qz s=true
 | [],acc,s0,h0,hc,he,hz=>⟨s0,by unfold Qb8;simp,h0⟩
 | x::xs,acc,s0,h0,hc,he,hz=>by
  rw [List.length_cons] at hz
  have ih:=fun acc' (hz':acc'.length+xs.length≤100000)=>Qlv (c:=c) (el:=el) (rest:=rest) (g:=g) (f:=f) (xs:=xs) (acc:=acc') (s0:=.fz x) rfl (fun y hy=>hc y (List.mem_cons_of_mem _ hy)) (fun y hy=>he y (List.mem_cons_of_mem _ hy)) hz'
  unfold Qb8
  rw [Qz7 h0]
  simp only [hc x List.mem_cons_self,Out.bind]
  cases hg:g x with
  | false =>
   obtain ⟨s,e,o⟩:=ih acc (by omega)
   refine ⟨s,?_,o⟩
   simp only [Bool.false_eq_true,if_false,e,List.filter_cons,hg]
  | true =>
   obtain ⟨r,er,fr⟩:=he x List.mem_cons_self hg
   simp only [if_true,er,fr]
   have za:acc.length<100000:=by omega
   rw [if_pos za]
   obtain ⟨s,e,o⟩:=ih (acc++[f x]) (by rw [List.length_append,List.length_singleton];omega)
   refine ⟨s,?_,o⟩
   simp only [e,List.filter_cons,hg,if_true,List.map_cons,List.append_assoc,List.singleton_append]
theorem Qkr {cf:CF}{w:W}{rest:En}{xs:List T}{g:T→Bool}{f:T→T}(hw:evW cf w ρ=.ok (xs,none) ρ)(hcap:Qcl js ρ=.un::rest)(hml:rest.all Qfa=true)(hap:Qbs js=true)
  (hc:∀ x∈xs,evC cf cs (.fz x::rest)=.ok (g x) (.fz x::rest)) (he:∀ x∈xs,g x=true→∃ r,evE cf e (.fz x::rest)=.ok r (.fz x::rest)∧frz r=some (f x)) (hz:xs.length≤100000) :
  evE cf (.comp w js (.nm 0) cs e) ρ=.ok (.ow (.lst ((xs.filter g).map f))) ρ:=by
 obtain ⟨s,e1,o⟩:=Qlv (c:=evC cf cs) (el:=evE cf e) (rest:=rest) (g:=g) (f:=f) (xs:=xs) (acc:=[]) (s0:=.un) rfl hc he (by simpa using hz)
 have hs:(s::rest).all Qfa=true:=by
  rw [List.all_cons,hml]
  cases s <;> first | rfl | cases o
 unfold evE
 rw [hw]
 simp only [Out.bind,hcap,e1]
 rw [if_pos ⟨Qis (by rw [List.all_cons,hml];rfl) rfl,hap⟩,Qpa hs]
 rfl
theorem Qcr {cf:CF}{w:W}{rest:En}{xs:List T}{f:T→T}(hw:evW cf w ρ=.ok (xs,none) ρ)(hcap:Qcl js ρ=.un::rest)(hml:rest.all Qfa=true)(hap:Qbs js=true)
  (he:∀ x∈xs,∃ r,evE cf e (.fz x::rest)=.ok r (.fz x::rest)∧frz r=some (f x)) (hz:xs.length≤100000) :
  evE cf (.comp w js (.nm 0) .nil e) ρ=.ok (.ow (.lst (xs.map f))) ρ:=by
 rw [Qkr (g:=fun _=>true) (f:=f) hw hcap hml hap (fun x _=>by unfold evC;rfl) (fun x hx _=>he x hx) hz,List.filter_eq_self.mpr (fun _ _=>rfl)]
theorem Qbv {tg:Tg}{b:En→SO}(J:Nat→En→Prop):∀ {xs:List T} {n:Nat} {ρ:En},J n ρ→(∀ (i:Nat) x ρ,xs[i]?=some x→J (n+i) ρ→∃ ρ1 ρ2,Qdp tg x ρ=some ρ1∧(b ρ1=.nx ρ2∨b ρ1=.ct ρ2)∧J (n+i+1) ρ2)→∃ ρ',Qcp tg b xs ρ=.nx ρ'∧J (n+xs.length) ρ'
 | [],n,ρ,h,_=>⟨ρ,rfl,h⟩
 | x::xs,n,ρ,h,hs=>by
  obtain ⟨ρ1,ρ2,e1,e2,j⟩:=hs 0 x ρ rfl h
  obtain ⟨ρ',e3,j3⟩:=Qbv (tg:=tg) (b:=b) J (xs:=xs) (n:=n+1) (ρ:=ρ2) (by simpa using j) fun i y ρ hy hj=>by
   have:=hs (i+1) y ρ (by rw [List.getElem?_cons_succ];exact hy) (by rw [show n+(i+1)=n+1+i by omega];exact hj)
   rw [show n+(i+1)+1=n+1+i+1 by omega] at this
   exact this
  refine ⟨ρ',?_,by rw [List.length_cons,show n+(xs.length+1)=n+1+xs.length by omega];exact j3⟩
  unfold Qcp
  rw [e1]
  rcases e2 with e2 | e2 <;> simp only [e2] <;> exact e3
def isF:Out Bool→Bool
 | .ok false _=>true
 | _=>false
theorem Qaag {o:Out Bool}(h:isF o=true):∃ ρ,o=.ok false ρ:=by
 cases o with
 | ok b ρ=>cases b <;> first | exact ⟨ρ,rfl⟩ | cases h
 | xn x ρ=>cases h
 | no=>cases h
def AllQ (Q:Df→Prop):List Df→Prop
 | []=>True
 | d::ds=>Q d∧AllQ Q ds
theorem Qz8 {Q:Df→Prop}:∀ {ds:List Df},AllQ Q ds→∀ (f:Nat) (d:Df),ds[f]?=some d→Q d
 | [],_,f,d,e=>by simp at e
 | c::ds,h,0,d,e=>by simp at e;subst e;exact h.1
 | c::ds,h,f+1,d,e=>by rw [List.getElem?_cons_succ] at e;exact Qz8 h.2 f d e
theorem Qz9 {sts:List Stmt}:QB X sts (fun _ _ _=>False):=⟨fun _ _ _ _ _ _ h=>h.elim⟩
variable {cf:CF} {ρ ρ1 ρ2:En} {α β:Type}
theorem Qy {a:α}{k:α→En→Out β}:(Out.ok a ρ).bind k=k a ρ:=rfl
def Q2 (i:Nat) (ρ:En):Slot→Out PV
 | .fz t=>.ok (.fz t) ρ
 | .un=>.no
 | .pin _=>.no
 | _=>.ok (.sl i) ρ
theorem Qm {i:Nat}:evE cf (.var i) ρ=Q2 i ρ (Qa ρ i):=by rw [evE];cases Qa ρ i <;> rfl
theorem Qah {i:Int}:evE cf (.int i) ρ=.ok (.fz (.int i)) ρ:=by rw [evE]
theorem Q0a {i:Bool}:evE cf (.bl i) ρ=.ok (.fz (.bl i)) ρ:=by rw [evE]
theorem Q6p:evE cf .non ρ=.ok (.fz .non) ρ:=by rw [evE]
def Qpb (rs:List PV) (ρ:En):Out PV:=match Qck rs with
 | some ts=>if ts.length≤100000 then .ok (.fz (.tup ts)) ρ else .no
 | none=>.no
def Qho (rs:List PV) (ρ:En):Out PV:=match Qck rs with
 | some ts=>if ts.length≤100000 then .ok (.ow (.lst ts)) ρ else .no
 | none=>.no
theorem Qj4 {es:Es}:evE cf (.tup es) ρ=(evA cf es ρ).bind Qpb:=by rw [evE];rfl
theorem Qet {es:Es}:evE cf (.lst es) ρ=(evA cf es ρ).bind Qho:=by rw [evE];rfl
def Qb0 (o:BOp) (ρ:En):Option T→Option T→Out PV
 | some x,some y=>.opt (opB o x y) ρ
 | _,_=>.no
def Qb1 (o:BOp) (ra rb:PV) (ρ:En):Out PV:=Qb0 o ρ (cont ρ ra) (cont ρ rb)
def Qb2 (cf:CF) (o:BOp) (b:E) (ra:PV) (ρ:En):Out PV:=(evE cf b ρ).bind (Qb1 o ra)
theorem Qb9 {o:BOp}{a b:E}:evE cf (.bin o a b) ρ=(evE cf a ρ).bind (Qb2 cf o b):=by rw [evE];rfl
def Q4f:PV→En→Out PV
 | .fz (.int i),ρ=>.ok (.fz (.int (-i))) ρ
 | _,_=>.no
theorem Q0b {a:E}:evE cf (.neg a) ρ=(evE cf a ρ).bind Q4f:=by rw [evE];congr 1;funext r ρ1;cases r with
 | fz t=>cases t <;> rfl
 | ow t=>rfl
 | sl i=>rfl
def yBl:PV→En→Out Bool
 | .fz (.bl b),ρ=>.ok b ρ
 | _,_=>.no
theorem Qai {o:Out PV}:Qab o=o.bind yBl:=by unfold Qab;congr 1;funext r ρ1;cases r with
 | fz t=>cases t <;> rfl
 | ow t=>rfl
 | sl i=>rfl
def Qjn (b:Bool) (ρ:En):Out PV:=.ok (.fz (.bl (!b))) ρ
theorem Qgn {a:E}:evE cf (.not a) ρ=(Qab (evE cf a ρ)).bind Qjn:=by rw [evE];rfl
def yB (b:Bool) (ρ:En):Out PV:=.ok (.fz (.bl b)) ρ
def yAnd (cf:CF) (b:E):Bool→En→Out PV
 | true,ρ=>(Qab (evE cf b ρ)).bind yB
 | false,ρ=>.ok (.fz (.bl false)) ρ
def yOr (cf:CF) (b:E):Bool→En→Out PV
 | false,ρ=>(Qab (evE cf b ρ)).bind yB
 | true,ρ=>.ok (.fz (.bl true)) ρ
theorem Q6q {a b:E}:evE cf (.and a b) ρ=(Qab (evE cf a ρ)).bind (yAnd cf b):=by rw [evE];congr 1;funext c ρ1;cases c <;> rfl
theorem Qpc {a b:E}:evE cf (.or a b) ρ=(Qab (evE cf a ρ)).bind (yOr cf b):=by rw [evE];congr 1;funext c ρ1;cases c <;> rfl
def yIte (cf:CF) (a b:E):Bool→En→Out PV
 | true,ρ=>evE cf a ρ
 | false,ρ=>evE cf b ρ
theorem Q6r {c a b:E}:evE cf (.ite c a b) ρ=(Qab (evE cf c ρ)).bind (yIte cf a b):=by rw [evE];congr 1;funext c ρ1;cases c <;> rfl
def Qbm (ρ:En):Option Bool→Out PV
 | some k=>.ok (.fz (.bl k)) ρ
 | none=>.no
def Qbn (o:COp) (ρ:En):Option T→Option T→Out PV
 | some x,some y=>Qbm ρ (opC o x y)
 | _,_=>.no
def Qbo (o:COp) (ra rb:PV) (ρ:En):Out PV:=Qbn o ρ (cont ρ ra) (cont ρ rb)
def Qbp (cf:CF) (o:COp) (b:E) (ra:PV) (ρ:En):Out PV:=(evE cf b ρ).bind (Qbo o ra)
theorem Qbw {o:COp}{a b:E}:evE cf (.cmp o a b) ρ=(evE cf a ρ).bind (Qbp cf o b):=by
 rw [evE]
 rfl
def Qrc (n:String) (ρ:En):Option T→Out PV
 | some t=>if Qlb n && !Qhs t then .ok (.fz (.bl (Qk3 (tyT t) n))) ρ else .no
 | none=>.no
def Q0c (n:String) (ra:PV) (ρ:En):Out PV:=Qrc n ρ (cont ρ ra)
theorem Qu4 {a:E}{n:String}:evE cf (.isI a n) ρ=(evE cf a ρ).bind (Q0c n):=by
 rw [evE]
 rfl
theorem Qaj {f:Nat}{es:Es}:evE cf (.call f es) ρ=(evA cf es ρ).bind (Qj0 cf f):=by rw [evE]
def Qch (b:Bi) (ρ:En):Option (List T)→Out PV
 | some ts=>.opt (Qjk b ts) ρ
 | none=>.no
def yBi (b:Bi) (rs:List PV) (ρ:En):Out PV:=Qch b ρ (Qau ρ rs)
theorem Qcn {b:Bi}{es:Es}:evE cf (.bi b es) ρ=(evA cf es ρ).bind (yBi b):=by
 rw [evE]
 rfl
def Qf6 (ρ:En):Option T→Out PV
 | some t=>.ok (.fz t) ρ
 | none=>.no
def Qf7 (ρ:En):Option T→Option T→Out PV
 | some x,some y=>Qf6 ρ (Qyn x y)
 | _,_=>.no
def Qf8 (ra rb:PV) (ρ:En):Out PV:=Qf7 ρ (cont ρ ra) (cont ρ rb)
def Qf9 (cf:CF) (b:E) (ra:PV) (ρ:En):Out PV:=(evE cf b ρ).bind (Qf8 ra)
theorem Qgq {a b:E}:evE cf (.ix a b) ρ=(evE cf a ρ).bind (Qf9 cf b):=by
 rw [evE]
 rfl
def Qadv (ρ:En):PV→Option (List Int)→Out PV
 | .fz (.int j),some is=>.ok (.fz (.int (is.count j:Nat))) ρ
 | _,_=>.no
def Qadw (ts:List T) (rb:PV) (ρ:En):Out PV:=Qadv ρ rb (Qda ts)
def yCnt1 (cf:CF) (b:E):PV→En→Out PV
 | .fz (.tup ts),ρ=>(evE cf b ρ).bind (Qadw ts)
 | _,_=>.no
def Q0d (l h:Option Int) (ρ:En):Option T→Out PV
 | some x=>.opt (Q3f x l h) ρ
 | none=>.no
def Qrd (ra:PV) (l:Option Int) (ρ:En):Option (Option Int)→Out PV
 | none=>.no
 | some h=>Q0d l h ρ (cont ρ ra)
def Q0e (ra:PV) (l:Option Int) (rh:List PV) (ρ:En):Out PV:=Qrd ra l ρ (Qke rh)
def Qre (cf:CF) (hi:Es) (ra:PV) (ρ:En):Option (Option Int)→Out PV
 | none=>.no
 | some l=>(evA cf hi ρ).bind (Q0e ra l)
def Q0f (cf:CF) (hi:Es) (ra:PV) (rl:List PV) (ρ:En):Out PV:=Qre cf hi ra ρ (Qke rl)
def Q0g (cf:CF) (lo hi:Es) (ra:PV) (ρ:En):Out PV:=(evA cf lo ρ).bind (Q0f cf hi ra)
theorem Qu5 {a:E}{lo hi:Es}:evE cf (.slc a lo hi) ρ=(evE cf a ρ).bind (Q0g cf lo hi):=by
 rw [evE]
 rfl
def Qrf (l:Bool):PV→En→Out PV
 | .fz (.int j),ρ=>if j.natAbs≤100000 then .ok (if l then .ow (.lst (Q3 0 j.toNat)) else .fz (.tup (Q3 0 j.toNat))) ρ else .no
 | _,_=>.no
theorem Qpd {l:Bool}{a:E}:evE cf (.tupR l a) ρ=(evE cf a ρ).bind (Qrf l):=by
 rw [evE]
 congr 1;funext r ρ1
 cases r with
 | fz t=>cases t <;> rfl
 | ow t=>rfl
 | sl i=>rfl
theorem Qv:evA cf .nil ρ=.ok [] ρ:=by rw [evA]
def yC2 (r:PV) (rs:List PV) (ρ:En):Out (List PV):=.ok (r::rs) ρ
def yC1 (cf:CF) (es:Es) (r:PV) (ρ:En):Out (List PV):=(evA cf es ρ).bind (yC2 r)
theorem Qo {es:Es}:evA cf (.cons e es) ρ=(evE cf e ρ).bind (yC1 cf es):=by rw [evA];rfl
def Qhw (r:PV) (ρ:En):Option (List T)→Out (List T×Option Nat)
 | some ts=>.ok (ts,Qgy r) ρ
 | none=>.no
def Qhx (r:PV) (ρ:En):Option T→Out (List T×Option Nat)
 | some t=>Qhw r ρ (Qdb t)
 | none=>.no
def Qmt (r:PV) (ρ:En):Out (List T×Option Nat):=Qhx r ρ (cont ρ r)
theorem Qit:evW cf (.seq e) ρ=(evE cf e ρ).bind Qmt:=by
 rw [evW]
 rfl
def Qu6:PV→En→Out (List T×Option Nat)
 | .fz (.int j),ρ=>if j.natAbs≤100000 then .ok (Q3 0 j.toNat,none) ρ else .no
 | _,_=>.no
theorem Qd3 {a:E}:evW cf (.rng1 a) ρ=(evE cf a ρ).bind Qu6:=by
 rw [evW]
 congr 1;funext r ρ1
 cases r with
 | fz t=>cases t <;> rfl
 | ow t=>rfl
 | sl i=>rfl
def Qpe:PV→PV→En→Out (List T×Option Nat)
 | .fz (.int i),.fz (.int j),ρ=>if i.natAbs≤100000∧j.natAbs≤100000 then .ok (Q3 i (j-i).toNat,none) ρ else .no
 | _,_,_=>.no
def Q0h (cf:CF) (b:E) (r:PV) (ρ:En):Out (List T×Option Nat):=(evE cf b ρ).bind (Qpe r)
theorem Q0i {a b:E}:evW cf (.rng2 a b) ρ=(evE cf a ρ).bind (Q0h cf b):=by
 rw [evW]
 congr 1;funext r ρ1
 show _=(evE cf b ρ1).bind _
 congr 1;funext r2 ρ2
 cases r with
 | fz t=>cases t <;> cases r2 <;> first | rfl | (rename_i u;cases u <;> rfl)
 | ow t=>cases r2 <;> rfl
 | sl i=>cases r2 <;> rfl
def Q6s (r:PV) (ρ:En):Option T→Out (List T×Option Nat)
 | some (.lst ts)=>.ok (Qmp 0 ts,Qgy r) ρ
 | _=>.no
def yEnm (r:PV) (ρ:En):Out (List T×Option Nat):=Q6s r ρ (cont ρ r)
theorem Qady:evW cf (.enm e) ρ=(evE cf e ρ).bind yEnm:=by
 rw [evW]
 rfl
def Qaf (rs:List PV) (ρ:En):FR→Out PV
 | .ok r fin=>.ok r (Qa2 ρ rs fin)
 | .xn x fin=>.xn x (Qa2 ρ rs fin)
 | .no=>.no
def Qag (cf:CF) (f:Nat) (rs:List PV) (ρ:En):Option (List Arg)→Out PV
 | some as=>Qaf rs ρ (cf f as)
 | none=>.no
theorem Q4g {f:Nat}{rs:List PV}(h:Qx rs=true):Qj0 cf f rs ρ=Qag cf f rs ρ (Q1 ρ rs):=by
 unfold Qj0
 rw [if_pos h]
 cases Q1 ρ rs with
 | none=>rfl
 | some as =>
  show (match cf f as with | .ok r fin=>Out.ok r (Qa2 ρ rs fin) | .xn x fin=>.xn x (Qa2 ρ rs fin) | .no=>.no)=Qaf rs ρ (cf f as)
  cases cf f as <;> rfl
theorem Qas {a:α}{k:α→En→SO}:ofO (.ok a ρ) k=k a ρ:=rfl
theorem Qaz {k:En→SO}:(SO.nx ρ).seq k=k ρ:=rfl
theorem z_rt {r:PV}{k:En→SO}:(SO.rt r ρ).seq k=.rt r ρ:=rfl
theorem Qdt:exS cf .nil ρ=.nx ρ:=by rw [exS]
theorem Qac {a b:S}:exS cf (.seq a b) ρ=(exS cf a ρ).seq (exS cf b):=by rw [exS]
def Q0j (_:PV) (ρ:En):SO:=.nx ρ
theorem Q0k:exS cf (.expr e) ρ=ofO (evE cf e ρ) Q0j:=by rw [exS];rfl
theorem Qiu {i:Nat}:exS cf (.set i e) ρ=ofO (evE cf e ρ) (Qld i):=by rw [exS]
def Qco (i:Nat) (ρ:En):Option T→SO
 | some t=>Qak (Qa8 i (.fz t) ρ) .nx
 | none=>.no
def Qd8 (i:Nat) (r:PV) (ρ:En):SO:=Qco i ρ (frz r)
theorem Qbl {i:Nat}:exS cf (.setF i e) ρ=ofO (evE cf e ρ) (Qd8 i):=by
 rw [exS]
 rfl
def yUnp (is:List Nat):PV→En→SO
 | .fz (.tup ts),ρ=>Qak (Qbi is ts ρ) .nx
 | _,_=>.no
theorem Qad1 {is:List Nat}:exS cf (.unp is e) ρ=ofO (evE cf e ρ) (yUnp is):=by
 rw [exS]
 congr 1;funext r ρ1
 cases r with
 | fz t=>cases t <;> rfl
 | ow t=>rfl
 | sl i=>rfl
def Q6t (i j:Nat):PV→PV→En→SO
 | .fz x,.fz y,ρ=>Qak (Qbi [i,j] [x,y] ρ) .nx
 | _,_,_=>.no
def Q6u (cf:CF) (i j:Nat) (b:E) (ra:PV) (ρ:En):SO:=ofO (evE cf b ρ) (Q6t i j ra)
theorem Qad2 {i j:Nat}{a b:E}:exS cf (.par i j a b) ρ=ofO (evE cf a ρ) (Q6u cf i j b):=by
 rw [exS]
 congr 1;funext ra ρ1
 show _=ofO (evE cf b ρ1) _
 congr 1;funext rb ρ2
 cases ra <;> cases rb <;> rfl
def Qlw (i:Nat) (ρ:En) (t:T):Slot→SO
 | .ow (.lst ts)=>if ts.length<100000 then .nx (ρ.set i (.ow (.lst (ts++[t])))) else .no
 | .ml (.lst ts)=>if ts.length<100000 then .nx (ρ.set i (.ml (.lst (ts++[t])))) else .no
 | _=>.no
def Qlx (i:Nat) (ρ:En):Option T→SO
 | none=>.no
 | some t=>Qlw i ρ t (Qa ρ i)
def Qrg (i:Nat) (r:PV) (ρ:En):SO:=Qlx i ρ (frz r)
theorem Qad3 {i:Nat}(h:(Qa ρ i).mut=true):exS cf (.app i e) ρ=ofO (evE cf e ρ) (Qrg i):=by
 rw [exS,if_pos h]
 rfl
def Q6v (i:Nat) (ρ:En) (us:List T):Slot→SO
 | .ow (.lst ts)=>if ts.length+us.length≤100000 then .nx (ρ.set i (.ow (.lst (ts++us)))) else .no
 | .ml (.lst ts)=>if ts.length+us.length≤100000 then .nx (ρ.set i (.ml (.lst (ts++us)))) else .no
 | _=>.no
def yExt (i:Nat):PV→En→SO
 | .fz (.tup us),ρ=>Q6v i ρ us (Qa ρ i)
 | _,_=>.no
theorem Qad4 {i:Nat}(h:(Qa ρ i).mut=true):exS cf (.ext i e) ρ=ofO (evE cf e ρ) (yExt i):=by
 rw [exS,if_pos h]
 congr 1;funext r ρ1
 cases r with
 | fz t=>cases t <;> rfl
 | ow t=>rfl
 | sl i=>rfl
def Q0l (i:Nat) (t:T) (j:Int) (ρ:En):Slot→SO
 | .ow (.lst ts)=>Qak (ixN ts.length j) fun n=>.nx (ρ.set i (.ow (.lst (ts.set n t))))
 | .ml (.lst ts)=>Qak (ixN ts.length j) fun n=>.nx (ρ.set i (.ml (.lst (ts.set n t))))
 | _=>.no
def Qu7 (i:Nat) (t:T):PV→En→SO
 | .fz (.int j),ρ=>Q0l i t j ρ (Qa ρ i)
 | _,_=>.no
def Q0m (cf:CF) (i:Nat) (k:E) (ρ:En):Option T→SO
 | none=>.no
 | some t=>if (Qa ρ i).mut=true then ofO (evE cf k ρ) (Qu7 i t) else .no
def Q4h (cf:CF) (i:Nat) (k:E) (r:PV) (ρ:En):SO:=Q0m cf i k ρ (frz r)
theorem Q6w {i:Nat}{k:E}:exS cf (.put i k e) ρ=ofO (evE cf e ρ) (Q4h cf i k):=by
 rw [exS]
 congr 1;funext r ρ1
 unfold Q4h
 cases frz r with
 | none=>rfl
 | some t =>
  show _=(if (Qa ρ1 i).mut=true then ofO (evE cf k ρ1) (Qu7 i t) else .no)
  by_cases h:(Qa ρ1 i).mut=true
  ·simp only [if_pos h]
   congr 1;funext rk ρ2
   cases rk with
   | fz u=>cases u <;> rfl
   | ow u=>rfl
   | sl j=>rfl
  ·simp only [if_neg h]
theorem Qjo {i:Nat}:exS cf (.app i e) ρ=if (Qa ρ i).mut=true then ofO (evE cf e ρ) (Qrg i) else .no:=by
 by_cases h:(Qa ρ i).mut=true
 ·rw [if_pos h,Qad3 h]
 ·rw [if_neg h,exS,if_neg h]
theorem Qaal {i:Nat}:exS cf (.ext i e) ρ=if (Qa ρ i).mut=true then ofO (evE cf e ρ) (yExt i) else .no:=by
 by_cases h:(Qa ρ i).mut=true
 ·rw [if_pos h,Qad4 h]
 ·rw [if_neg h,exS,if_neg h]
theorem Q6 {f:Nat}{rs:List PV}:Qj0 cf f rs ρ=if Qx rs=true then Qag cf f rs ρ (Q1 ρ rs) else .no:=by
 by_cases h:Qx rs=true
 ·rw [if_pos h,Q4g h]
 ·rw [if_neg h];unfold Qj0;rw [if_neg h]
def Qeu (r:PV) (ρ:En):SO:=.rt r ρ
theorem Qcj:exS cf (.ret e) ρ=ofO (evE cf e ρ) Qeu:=by rw [exS];rfl
def yIf (cf:CF) (a b:S):Bool→En→SO
 | true,ρ=>exS cf a ρ
 | false,ρ=>exS cf b ρ
theorem Qc4 {c:E}{a b:S}:exS cf (.ite c a b) ρ=ofO (Qab (evE cf c ρ)) (yIf cf a b):=by rw [exS];congr 1;funext k ρ1;cases k <;> rfl
def Qft (cf:CF) (tg:Tg) (b:S):List T×Option Nat→En→SO
 | (ts,none),ρ=>Qcp tg (exS cf b) ts ρ
 | (_,some _),_=>.no
theorem Qc5 {w:W}{tg:Tg}{b:S}:exS cf (.for_ w tg b) ρ=Qno (ofO (evW cf w ρ) (Qft cf tg b)):=by
 rw [exS]
 congr 2;funext its ρ1
 obtain ⟨ts,lk⟩:=its
 cases lk <;> rfl
def Qbj (r:PV):Option (List T)→FR
 | some fin=>.ok r fin
 | none=>.no
def Qbx (o:Option (List T)):Option PV→FR
 | some r=>Qbj r o
 | none=>.no
def Qdu (as:List Arg):SO→FR
 | .nx ρ=>Qbj (.fz .non) (Qae as ρ)
 | .rt r ρ=>Qbx (Qae as ρ) (Qbc ρ r)
 | .xn x ρ=>match Qae as ρ with
  | some fin=>.xn x fin
  | none=>.no
 | _=>.no
theorem Qca {fn:Fn}{as:List Arg}(h:as.length=fn.ps):Qcq cf fn as=Qdu as (exS cf fn.body (Qfh fn as)):=by
 unfold Qcq
 rw [if_pos h]
 cases exS cf fn.body (Qfh fn as) with
 | nx ρ=>show (match Qae as ρ with | some fin=>FR.ok (.fz .non) fin | none=>.no)=Qbj _ (Qae as ρ);cases Qae as ρ <;> rfl
 | rt r ρ =>
  show (match Qbc ρ r,Qae as ρ with | some r,some fin=>FR.ok r fin | _,_=>.no)=Qbx (Qae as ρ) (Qbc ρ r)
  cases Qbc ρ r <;> cases Qae as ρ <;> rfl
 | xn x ρ=>rfl
 | bk ρ=>rfl
 | ct ρ=>rfl
 | no=>rfl
section
variable {b:Bool} {i:Int} {x:Str} {ts:List T}
theorem Qrh:Qlb "tuple" = true:=rfl
theorem Qu8:Qlb "list" = true:=rfl
theorem Qiv:Qk3 (tyT (.tup ts)) "tuple" = true:=rfl
theorem Qj5:Qk3 (tyT (.lst ts)) "list" = true:=rfl
end
theorem Q0n {as:List Arg}:Qdu as (.nx ρ)=Qbj (.fz .non) (Qae as ρ):=rfl
theorem Qbe {as:List Arg}{r:PV}:Qdu as (.rt r ρ)=Qbx (Qae as ρ) (Qbc ρ r):=rfl
theorem Qbb:Qno (.nx ρ)=.nx ρ:=rfl
theorem Q4i {r:PV}:Qno (.rt r ρ)=.rt r ρ:=rfl
theorem Qly (g:α→Bool):∀ (xs:List α),Qfp (xs.map fun x=>T.bl (g x))=some (xs.map g)
 | []=>rfl
 | x::xs=>by
  rw [List.map_cons,List.map_cons]
  unfold Qfp
  rw [Qly g xs]
  rfl
theorem Qn5 (n:Nat)(xs:List Int):Qk (n+1) (.tup (xs.map T.int))=true:=by
 rw [Qk,List.all_eq_true]
 intro t ht
 obtain ⟨i,_,rfl⟩:=List.mem_map.mp ht
 simp [Qk]
theorem Qri:∀ (xs ys:List Int),eqL (xs.map T.int) (ys.map T.int)=decide (xs=ys)
 | [],[]=>by rw [List.map_nil,Qhg];rfl
 | [],y::ys=>by rw [Qfz (by simp)];simp
 | x::xs,[]=>by rw [Qfz (by simp)];simp
 | x::xs,y::ys=>by
  rw [List.map_cons,List.map_cons,Qfo,Qri xs ys,eqT]
  by_cases h:x=y
  ·subst h;simp
  ·simp [h]
theorem Q4j {xs ys:List Int}:eqO (.tup (xs.map T.int)) (.tup (ys.map T.int))=some (decide (xs=ys)):=by
 show (if _ then _ else _)=_
 rw [if_pos ⟨Qn5 49 xs,Qn5 49 ys⟩,eqT,Qri]
theorem at_0 {a:T}{l:List T}:atI (a::l) 0=some a:=by
 have:atI (a::l) ((0:Nat):Int)=some a:=Qfx rfl
 exact this
theorem at_1 {a b:T}{l:List T}:atI (a::b::l) 1=some b:=by
 have:atI (a::b::l) ((1:Nat):Int)=some b:=Qfx rfl
 exact this
theorem Q6x:ixN (n+1) 0=some 0:=by
 unfold ixN
 rw [if_pos (by omega),if_pos (by omega)]
 rfl
inductive All2 (F:T→T→Prop):List T→List T→Prop where
 | nil:All2 F [] []
 | cons {x y xs ys}:F x y→All2 F xs ys→All2 F (x::xs) (y::ys)
inductive Ran (F:T→T→Prop):List T→List T→Prop where
 | nil:Ran F [] []
 | skip {x xs ys}:Ran F xs ys→Ran F (x::xs) ys
 | take {x y xs ys}:F x y→Ran F xs ys→Ran F (x::xs) (y::ys)
variable {cf:CF} {P:T→Prop} {F:T→T→Prop} {rest:T→En}
theorem Qrj {s t:Slot}{rest:En}{x y:T}(hs:Qz s=true)(ht:Qz t=true):Qdp (.tp [0,1]) (.tup [x,y]) (s::t::rest)=some (.fz x::.fz y::rest):=by
 cases s <;> first | (cases hs;done) | (cases t <;> first | (cases ht;done) | rfl)
theorem Qlz {el:En→Out PV}{rest:En}{a b f:α→T}:∀ {xs:List α} {acc:List T} {s0 s1:Slot},Qz s0=true→Qz s1=true→(∀ p∈xs,∃ r,el (.fz (a p)::.fz (b p)::rest)=.ok r (.fz (a p)::.fz (b p)::rest)∧frz r=some (f p))→acc.length+xs.length≤100000 →
  ∃ s t,Qb8 (.tp [0,1]) (evC cf .nil) el (xs.map fun p=>T.tup [a p,b p]) acc (s0::s1::rest)=.ok (acc++xs.map f) (s::t::rest)∧Qz s=true∧Qz t=true
 | [],acc,s0,s1,h0,h1,he,hz=>⟨s0,s1,by rw [List.map_nil];unfold Qb8;simp,h0,h1⟩
 | p::xs,acc,s0,s1,h0,h1,he,hz=>by
  rw [List.length_cons] at hz
  obtain ⟨r,er,fr⟩:=he p List.mem_cons_self
  obtain ⟨s,t,e,o,o1⟩:=Qlz (el:=el) (rest:=rest) (a:=a) (b:=b) (f:=f) (xs:=xs) (acc:=acc++[f p]) (s0:=.fz (a p)) (s1:=.fz (b p)) rfl rfl (fun z hz=>he z (List.mem_cons_of_mem _ hz)) (by rw [List.length_append,List.length_singleton];omega)
  refine ⟨s,t,?_,o,o1⟩
  rw [List.map_cons]
  unfold Qb8
  rw [Qrj h0 h1]
  have ec:evC cf .nil (.fz (a p)::.fz (b p)::rest)=.ok true (.fz (a p)::.fz (b p)::rest):=by rw [evC]
  simp only [ec,Out.bind,if_true,er,fr]
  have za:acc.length<100000:=by omega
  rw [if_pos za,e,List.append_assoc,List.singleton_append,List.map_cons]
theorem Qwr {w:W}{rest:En}{xs:List α}{a b f:α→T}(hw:evW cf w ρ=.ok (xs.map fun p=>T.tup [a p,b p],none) ρ)(hcap:Qcl js ρ=.un::.un::rest)(hml:rest.all Qfa=true)(hap:Qbs js=true)
  (he:∀ p∈xs,∃ r,evE cf e (.fz (a p)::.fz (b p)::rest)=.ok r (.fz (a p)::.fz (b p)::rest)∧frz r=some (f p)) (hz:xs.length≤100000) :
  evE cf (.comp w js (.tp [0,1]) .nil e) ρ=.ok (.ow (.lst (xs.map f))) ρ:=by
 obtain ⟨s,t,e1,o,o1⟩:=Qlz (cf:=cf) (el:=evE cf e) (rest:=rest) (a:=a) (b:=b) (f:=f) (xs:=xs) (acc:=[]) (s0:=.un) (s1:=.un) rfl rfl he (by simpa using hz)
 have hs:(s::t::rest).all Qfa=true:=by
  rw [List.all_cons,List.all_cons,hml]
  cases s <;> first | (cases o;done) | (cases t <;> first | rfl | (cases o1;done))
 unfold evE
 rw [hw]
 simp only [Out.bind,hcap,e1]
 rw [if_pos ⟨Qis (by rw [List.all_cons,List.all_cons,hml];rfl) rfl,hap⟩,Qpa hs]
 rfl
theorem Qu9:evC cf (.cons e .nil) ρ=Qab (evE cf e ρ):=by rw [evC]
theorem rngI (h0:0≤j)(h:j≤100000):Qu6 (.fz (.int j)) ρ=.ok (Q3 0 j.toNat,none) ρ:=by
 show (if j.natAbs≤100000 then _ else _)=_
 rw [if_pos (by omega)]
theorem Qkg (h:n≤100000):Qu6 (.fz (.int (n:Int))) ρ=.ok (Q3 0 n,none) ρ:=by
 rw [rngI (by omega) (by omega),Int.toNat_natCast]
theorem Qpf {xs:List α}:Qfp (xs.map fun _=>T.bl true)=some (xs.map fun _=>true):=Qly (fun _=>true) xs
theorem Qtg {xs:List α}:(xs.map fun _=>true).all id=true:=by rw [List.all_eq_true];intro b hb;obtain ⟨_,_,rfl⟩:=List.mem_map.mp hb;rfl
theorem Qva {f:T→T}{g:Int→Bool}(h:∀ p,f (.int p)=.bl (g p)):∀ (ps:List Int),Qfp ((ps.map T.int).map f)=some (ps.map g)
 | []=>rfl
 | p::ps=>by
  rw [List.map_cons,List.map_cons,List.map_cons,h]
  unfold Qfp
  rw [Qva h ps]
  rfl
theorem Qee {i:Int}:eqO (.int i) (.int j)=some (decide (i=j)):=rfl
theorem Qth {xs:List Int}:eqO (.tup (xs.map T.int)) (.tup [])=some (decide (xs=[])):=Q4j (xs:=xs) (ys:=[])
end L2
namespace L2
variable {us:List Value} {H H' H0:Hp} {o:HO} {h:Heap} {α:Type} {P:Program} {w:World} {t' k n iW iS iT:Nat} {N ps:List Str} {j:Int} {A:Around} {X:Cx} {e:E} {s:Shared} {pins:List (Addr×Obj)} {σ:St} {pos:Pos} {op:CmpOp} {c tg iter tgE:Expr} {K:Frg} {D:Ends} {es ifs:List Expr} {te:TE} {g:TG} {body:List Stmt} {Q:VK} {kindOf:Str→Option NameKind} {qual:Str} {scope:Scope} {sp:Sp} {st:Stmt} {kvs:List (List Key×V)} {env:Env} {js:List (Option Nat)} {G:Addr→Prop} {ρ ρ':En} {B:Bs} {p:Pr} {cs:Es} {uF:T}
variable {i j:Int} {a b:List T} {x y:T} {lo hi:Option Int} {c:Bool}
theorem uo1:opB .add (.int i) (.int j)=some (.fz (.int (i+j))):=rfl
theorem uo2:opB .add (.tup a) (.tup b)=if a.length+b.length≤100000 then some (.fz (.tup (a++b))) else none:=rfl
theorem uo3:opB .add (.lst a) (.lst b)=if a.length+b.length≤100000 then some (.ow (.lst (a++b))) else none:=rfl
theorem uo4:opB .sub (.int i) (.int j)=some (.fz (.int (i-j))):=rfl
theorem uo5:opB .mul (.int i) (.int j)=if Qd6 i j=true then some (.fz (.int (i*j))) else none:=rfl
theorem uo7:opB .fdv (.int i) (.int j)=if 0<j∧j.natAbs<2^64 then some (.fz (.int (i / j))) else if j≠0∧j.natAbs<2^250 then some (.fz (.int (i.fdiv j))) else none:=rfl
theorem uo8:opB .mod (.int i) (.int j)=if 0<j then some (.fz (.int (i%j))) else if j<0 then some (.fz (.int (i.fmod j))) else none:=rfl
theorem uo9:opB .pow (.int i) (.int j)=if 0≤j∧j.natAbs≤1000000∧i.natAbs<2^64 then some (.fz (.int (i^j.toNat))) else none:=rfl
theorem uc1:opC .eq x y=eqO x y:=rfl
theorem uc2:opC .ne x y=(eqO x y).map (!·):=rfl
theorem uc3:opC .lt (.int i) (.int j)=some (decide (i<j)):=rfl
theorem uc5:opC .gt (.int i) (.int j)=some (decide (j<i)):=rfl
theorem uc6:opC .ge (.int i) (.int j)=some (decide (j≤i)):=rfl
theorem uc8:opC .isnn x .non=some (!Qjz x):=rfl
theorem ui1:Qyn (.lst a) (.int i)=atI a i:=rfl
theorem ui2:Qyn (.tup a) (.int i)=atI a i:=rfl
theorem ui3:Q3f (.lst a) lo hi=some (.ow (.lst (Qgp a lo hi))):=rfl
theorem ui4:Q3f (.tup a) lo hi=some (.fz (.tup (Qgp a lo hi))):=rfl
theorem ub1:Qjk .len [.lst a]=some (.fz (.int a.length)):=rfl
theorem ub2:Qjk .len [.tup a]=some (.fz (.int a.length)):=rfl
theorem ub3:Qjk .all [.lst a]=(Qfp a).map fun bs=>.fz (.bl (bs.all id)):=rfl
theorem ub4:Qjk .any [.lst a]=(Qfp a).map fun bs=>.fz (.bl (bs.any id)):=rfl
theorem ub6:Qjk .max [.int i,.int j]=some (.fz (.int (if j>i then j else i))):=rfl
theorem ub7:Qjk .dvm [.int i,.int j]=if 0<j∧j.natAbs<2^64 then some (.fz (.tup [.int (i / j),.int (i%j)])) else none:=rfl
theorem ub8:Qjk .int [.bl c]=some (.fz (.int (if c then 1 else 0))):=rfl
theorem ub9:Qjk .tup [.lst a]=some (.fz (.tup a)):=rfl
section
variable {cf:CF} {ρ:En}
def yDin2 (ng:Bool) (ρ:En):Option (List Int)→Option T→Out PV
 | some is,some (.dtt ks ts)=>.ok (.fz (.bl (if ng then !(Qd0 ks ts is).isSome else (Qd0 ks ts is).isSome))) ρ
 | _,_=>.no
def Qrk (ρ:En):Option T→Out PV
 | some t=>.ok (.fz t) ρ
 | none=>.no
def Qrl (ρ:En):Option (List Int)→Option T→Out PV
 | some is,some (.dtt ks ts)=>Qrk ρ (Qd0 ks ts is)
 | _,_=>.no
def Qrm (rd rk:PV) (ρ:En):Out PV:=Qrl ρ (Qf1 rk) (cont ρ rd)
def Q0o (cf:CF) (k:E) (rd:PV) (ρ:En):Out PV:=(evE cf k ρ).bind (Qrm rd)
theorem Qvb {d k:E}:evE cf (.dix d k) ρ=(evE cf d ρ).bind (Q0o cf k):=by
 rw [evE];rfl
def yD1b (ρ:En):Option (List Int)→PV→Out PV
 | some is,.fz t=>.ok (.ow (.dtt [is] [t])) ρ
 | _,_=>.no
def yD1a (rk rx:PV) (ρ:En):Out PV:=yD1b ρ (Qf1 rk) rx
def yD1 (cf:CF) (x:E) (rk:PV) (ρ:En):Out PV:=(evE cf x ρ).bind (yD1a rk)
theorem x_d1 {k x:E}:evE cf (.d1 k x) ρ=(evE cf k ρ).bind (yD1 cf x):=by
 rw [evE];rfl
def Q0p (i:Nat) (ρ:En) (is:List Int) (t:T):Slot→SO
 | .ow (.dtt ks ts)=>if ks.length<100000 then .nx (ρ.set i (.ow (Qik ks ts is t))) else .no
 | .ml (.dtt ks ts)=>if ks.length<100000 then .nx (ρ.set i (.ml (Qik ks ts is t))) else .no
 | _=>.no
def Q0q (i:Nat) (ρ:En) (t:T):Option (List Int)→SO
 | some is=>Q0p i ρ is t (Qa ρ i)
 | none=>.no
def Q0r (i:Nat) (t:T) (rk:PV) (ρ:En):SO:=Q0q i ρ t (Qf1 rk)
def Q0s (cf:CF) (i:Nat) (k:E) (ρ:En):Option T→SO
 | none=>.no
 | some t=>if (Qa ρ i).mutD=true then ofO (evE cf k ρ) (Q0r i t) else .no
def yDp (cf:CF) (i:Nat) (k:E) (r:PV) (ρ:En):SO:=Q0s cf i k ρ (frz r)
theorem Qpg {i:Nat}{k:E}:exS cf (.dput i k e) ρ=ofO (evE cf e ρ) (yDp cf i k):=by
 rw [exS];rfl
end
section
variable {cf:CF} {ρ ρ1 ρ2:En}
def Qti (ρ:En):Option (List Int)→Option T→PV→Out PV
 | some is,some (.dtt ks ts),.fz u=>.ok (.fz ((Qd0 ks ts is).getD u)) ρ
 | _,_,_=>.no
def Qtj (rd rk rx:PV) (ρ:En):Out PV:=Qti ρ (Qf1 rk) (cont ρ rd) rx
def Qtk (cf:CF) (x:E) (rd rk:PV) (ρ:En):Out PV:=(evE cf x ρ).bind (Qtj rd rk)
def Qtl (cf:CF) (k x:E) (rd:PV) (ρ:En):Out PV:=if Qk9 (cont ρ rd)=true then (evE cf k ρ).bind (Qtk cf x rd) else .no
theorem Qn6 {d k x:E}:evE cf (.dg2 d k x) ρ=(evE cf d ρ).bind (Qtl cf k x):=by
 rw [evE];rfl
theorem Qhj {ks:List (List Int)}{ts:List T}:Qk9 (some (.dtt ks ts))=true:=rfl
theorem Q0t:evE cf .dnew ρ=.ok (.ow (.dtt [] [])) ρ:=by rw [evE]
def yDks:PV→En→Out (List T×Option Nat)
 | .fz (.dtt ks _),ρ=>if ks.all (fun k=>decide (k.length≤100000))=true then .ok (ks.map fun k=>T.tup (k.map T.int),none) ρ else .no
 | _,_=>.no
theorem Q6y:evW cf (.dks e) ρ=(evE cf e ρ).bind yDks:=by
 rw [evW]
 congr 1;funext r ρ1
 cases r with
 | fz t=>cases t <;> rfl
 | ow t=>rfl
 | sl i=>rfl
def Q4k (i:Nat) (ρ:En):Slot→SO
 | .ow t=>.nx (ρ.set i (.fz t))
 | .ml _=>.no
 | .ro _=>.no
 | _=>.nx ρ
theorem Q0u {i:Nat}:exS cf (.frz i) ρ=Q4k i ρ (Qa ρ i):=by
 rw [exS]
 cases Qa ρ i <;> rfl
theorem Qad7 {i:Nat}{a:E}{n:Int}(h:(Qa ρ i).mut=true)(e:evE cf a ρ=.ok (.fz (.int n)) ρ1)(s:Qwk n (Qa ρ1 i).prv=some j):evE cf (.lix i a) ρ=.ok (.fz (.int j)) ρ1:=by
 rw [evE,if_pos h,e]
 show (match Qwk n (Qa ρ1 i).prv with | some j=>Out.ok (PV.fz (.int j)) ρ1 | none=>.no)=_
 rw [s]
theorem Qad8 {i:Nat}{k:E}{t:T}{ts:List T}(h:(Qa ρ i).mut=true)(e1:evE cf k ρ=.ok (.fz (.int j)) ρ1)(e2:evE cf e ρ1=.ok (.fz t) ρ2)(s:Qa ρ2 i=.ow (.lst ts))(c:ts.length<100000∧0≤j∧j≤ts.length):exS cf (.ins i k e) ρ=.nx (ρ2.set i (.ow (.lst (Qmq ts j.toNat t)))):=by
 rw [exS,if_pos h,e1]
 show ofO (evE cf e ρ1) _=_
 rw [e2]
 show (match Qa ρ2 i with
  | .ow (.lst ts)=>if ts.length<100000∧0≤j∧j≤ts.length then SO.nx (ρ2.set i (.ow (.lst (Qmq ts j.toNat t)))) else .no
  | _=>.no)=_
 rw [s]
 show (if _ then _ else _)=_
 rw [if_pos c]
theorem Qiw:∀ (xs:List Int),Qda (xs.map T.int)=some xs
 | []=>rfl
 | x::xs=>by
  show (match Qda (xs.map T.int) with | some is=>some (x::is) | none=>none)=_
  rw [Qiw xs]
theorem Qdv (z:List Int):Qf1 (.fz (.tup (z.map T.int)))=some z:=Qiw z
end
section
variable {fA f0:En→SO} {fc:En→Out Bool} {fV f1 f2:En→Out PV} {iF iR iH iW iS iT iN:Nat} {Ms:List (List (List Int))} {R M:List (List Int)} {is:List Int} {ρ ρ1 ρ2 ρ3:En}
theorem Q4l {uR:T}(e:fA ((ρ.set iF (.ro (.lst (Ms.map Qj)))).set iR (.ro (.lst (R.map Qav))))=.nx ρ1)(hF:Qa ρ1 iF=.ro uF)(hR:Qa ρ1 iR=.ro uR)(hH:Qa ρ1 iH=.ow (.lst (is.map T.int)))(c:is.length≤1000∧R.length<1000) :
  Qs7 fA iF iR iH Ms R ρ=some (R++[is],((((ρ1.set iR (.ow (.lst (R.map Qav)))).set iF (.ow (.lst (Ms.map Qj)))).set iH (.fz (Qav is))).set iR (.ow (.lst ((R++[is]).map Qav))))):=by
 unfold Qs7
 rw [e]
 dsimp only
 rw [hF,hR,hH]
 dsimp only
 rw [Qiw]
 dsimp only
 rw [if_pos c]
theorem Qtm {R0:List (List Int)}{q:List (List Int)×En}(e:Qe5 fA iF iR iH iW Ms R0 ρ n=some q)(c:iW<q.2.length):Qe5 fA iF iR iH iW Ms R0 ρ (n+1)=Qs7 fA iF iR iH Ms q.1 (q.2.set iW (.fz (.int n))):=by
 rw [Qe5,e]
 dsimp only
 rw [if_pos c]
theorem Q4m {q:List (List Int)×En}(e:f0 (ρ.set iF (.ro (.lst (Ms.map Qj))))=.nx ρ1)(hF:Qa ρ1 iF=.ro uF)(hR:Qa ρ1 iR=.ow (.lst []))(hS:Qa (ρ1.set iF (.ow (.lst (Ms.map Qj)))) iS=.fz (.int j))(cj:j.natAbs≤1000)
  (eq:Qe5 fA iF iR iH iW Ms [] (ρ1.set iF (.ow (.lst (Ms.map Qj)))) j.toNat=some q) (c:q.1.length≤1000∧Ms.length<1000) :
  Qs8 f0 fA iF iR iH iW iS Ms ρ=some (Ms++[q.1],(q.2.set iR (.fz (Qj q.1))).set iF (.ow (.lst ((Ms++[q.1]).map Qj)))):=by
 unfold Qs8
 rw [e]
 dsimp only
 rw [hF,hR,hS]
 dsimp only
 rw [if_pos cj,eq]
 dsimp only
 rw [if_pos c]
theorem Qtn {q:List (List (List Int))×En}(e:Qe6 f0 fA iF iR iH iW iS iT ρ n=some q)(c:iT<q.2.length):Qe6 f0 fA iF iR iH iW iS iT ρ (n+1)=Qs8 f0 fA iF iR iH iW iS q.1 (q.2.set iT (.fz (.int n))):=by
 rw [Qe6,e]
 dsimp only
 rw [if_pos c]
theorem Q4n {u0 u1 u2:T}{v k:Int}{x y:Nat}(c:(M::Ms).length≤1000)(e0:fV (ρ.set iF (.ro (.lst ((M::Ms).map Qj))))=.ok (.fz (.int v)) ρ1)(s0:Qa ρ1 iF=.ro u0)(e1:f1 (ρ1.set iF (.ro (.lst ((M::Ms).map Qj))))=.ok (.fz (.int j)) ρ2)(s1:Qa ρ2 iF=.ro u1)
  (e2:f2 (ρ2.set iF (.ro (.lst ((M::Ms).map Qj))))=.ok (.fz (.int k)) ρ3) (s2:Qa ρ3 iF=.ro u2) (ex:ixN M.length j=some x) (eM:M[x]?=some is) (ey:ixN is.length k=some y) :
  Qwl fV f1 f2 iF (M::Ms) ρ=some ((ρ3.map Qbt).set iF (.ow (.lst ((M.set x (is.set y v)::Ms).map Qj)))):=by
 unfold Qwl
 dsimp only
 rw [if_pos c,e0]
 dsimp only
 rw [s0,e1]
 dsimp only
 rw [s1,e2]
 dsimp only
 rw [s2,ex]
 dsimp only
 rw [eM]
 dsimp only
 rw [ey]
theorem Q4o {n:Int}{q:List (List (List Int))×En}{u:T}(hF:Qa ρ iF=.ow (.lst []))(hN:Qa ρ iN=.fz (.int n))(cn:n.natAbs≤1000)(eq:Qe6 f0 fA iF iR iH iW iS iT ρ n.toNat=some q)(cq:q.1.length≤1000)(ec:fc (q.2.set iF (.ro (.lst (q.1.map Qj))))=.ok true ρ2)(s2:Qa ρ2 iF=.ro u)(ep:Qwl fV f1 f2 iF q.1 (ρ2.set iF (.ow (.lst (q.1.map Qj))))=some ρ3) :
  Qhu f0 fA fc fV f1 f2 iF iR iH iW iS iT iN ρ=.nx ρ3:=by
 unfold Qhu
 rw [hF,hN]
 dsimp only
 rw [if_pos cn,eq]
 dsimp only
 rw [if_pos cq,ec]
 dsimp only
 rw [s2]
 dsimp only
 rw [if_pos rfl,ep]
theorem Q4p {n:Int}{q:List (List (List Int))×En}{u:T}(hF:Qa ρ iF=.ow (.lst []))(hN:Qa ρ iN=.fz (.int n))(cn:n.natAbs≤1000)(eq:Qe6 f0 fA iF iR iH iW iS iT ρ n.toNat=some q)(cq:q.1.length≤1000)(ec:fc (q.2.set iF (.ro (.lst (q.1.map Qj))))=.ok false ρ2)(s2:Qa ρ2 iF=.ro u) :
  Qhu f0 fA fc fV f1 f2 iF iR iH iW iS iT iN ρ=.nx (ρ2.set iF (.ow (.lst (q.1.map Qj)))):=by
 unfold Qhu
 rw [hF,hN]
 dsimp only
 rw [if_pos cn,eq]
 dsimp only
 rw [if_pos cq,ec]
 dsimp only
 rw [s2]
 rfl
end
theorem Qvc:∀ {is:List Int} {n:Int},n∈is→∃ j:Nat,ixI n is=some j
 | [],_,h=>by cases h
 | m::ms,n,h=>by
  unfold ixI
  by_cases e:m=n
  ·rw [if_pos e];exact ⟨0,rfl⟩
  ·rw [if_neg e]
   rcases List.mem_cons.mp h with z | z
   ·exact absurd z.symm e
   ·obtain ⟨j,hj⟩:=Qvc z
    rw [hj];exact ⟨j+1,rfl⟩
theorem Q0v {is:List Int}{n:Int}(h:n∈is)(z:is.length≤1000):∃ j:Int,Qwk n (some (.lst (is.map T.int)))=some j:=by
 obtain ⟨j,hj⟩:=Qvc h
 refine ⟨(j:Int),?_⟩
 unfold Qwk
 dsimp only
 rw [Qiw]
 dsimp only
 rw [if_pos z,hj]
 rfl
theorem Q0w (os:List Int)(n:Nat)(x:Int):Qmq (os.map T.int) n (.int x)=(os.take n++x::os.drop n).map T.int:=by
 unfold Qmq
 rw [List.map_append,List.map_cons,List.map_take,List.map_drop]
theorem Q0x {cf:CF}{iF iR iH iN:Nat}{a0 a:S}{c v e1 e2:E}:exS cf (.nest iF iR iH iW iS iT iN a0 a c v e1 e2) ρ=Qhu (exS cf a0) (exS cf a) (fun ρ=>Qab (evE cf c ρ)) (evE cf v) (evE cf e1) (evE cf e2) iF iR iH iW iS iT iN ρ:=by rw [exS]
def Qvd (K:Frg):Bool:=match K.getLast? with
 | some (_,o)=>(match o.data with
  | .fields a=>a.size != 2
  | _=>true)
 | none=>true
theorem Qad9 (h:Qvd K=true)(a:PySem.Addr)(q:PySem.Str):¬ Qw7 K a q:=fun ⟨b,t,e⟩=>by
 unfold Qvd at h
 rw [e] at h
 cases h
theorem Qj6 {c:En→Out Bool}{el:En→Out PV}{rest:En}{a b f:α→T}{g:α→Bool}:∀ {xs:List α} {acc:List T} {s0 s1:Slot},Qz s0=true→Qz s1=true→(∀ p∈xs,c (.fz (a p)::.fz (b p)::rest)=.ok (g p) (.fz (a p)::.fz (b p)::rest))→(∀ p∈xs,g p=true→∃ r,el (.fz (a p)::.fz (b p)::rest)=.ok r (.fz (a p)::.fz (b p)::rest)∧frz r=some (f p))→acc.length+xs.length≤100000 →
  ∃ s t,Qb8 (.tp [0,1]) c el (xs.map fun p=>T.tup [a p,b p]) acc (s0::s1::rest)=.ok (acc++(xs.filter g).map f) (s::t::rest)∧Qz s=true∧Qz t=true
 | [],acc,s0,s1,h0,h1,hc,he,hz=>⟨s0,s1,by rw [List.map_nil];unfold Qb8;simp,h0,h1⟩
 | p::xs,acc,s0,s1,h0,h1,hc,he,hz=>by
  rw [List.length_cons] at hz
  have ih:=fun acc' (hz':acc'.length+xs.length≤100000)=>Qj6 (c:=c) (el:=el) (rest:=rest) (a:=a) (b:=b) (f:=f) (g:=g) (xs:=xs) (acc:=acc') (s0:=.fz (a p)) (s1:=.fz (b p)) rfl rfl (fun y hy=>hc y (List.mem_cons_of_mem _ hy)) (fun y hy=>he y (List.mem_cons_of_mem _ hy)) hz'
  rw [List.map_cons]
  unfold Qb8
  rw [Qrj h0 h1]
  simp only [hc p List.mem_cons_self,Out.bind]
  cases hg:g p with
  | false =>
   obtain ⟨s,t,e,o,o1⟩:=ih acc (by omega)
   refine ⟨s,t,?_,o,o1⟩
   simp only [Bool.false_eq_true,if_false,e,List.filter_cons,hg]
  | true =>
   obtain ⟨r,er,fr⟩:=he p List.mem_cons_self hg
   simp only [if_true,er,fr]
   have za:acc.length<100000:=by omega
   rw [if_pos za]
   obtain ⟨s,t,e,o,o1⟩:=ih (acc++[f p]) (by rw [List.length_append,List.length_singleton];omega)
   refine ⟨s,t,?_,o,o1⟩
   simp only [e,List.filter_cons,hg,if_true,List.map_cons,List.append_assoc,List.singleton_append]
theorem Q0y {cf:CF}{w:W}{rest:En}{xs:List α}{a b f:α→T}{g:α→Bool}(hw:evW cf w ρ=.ok (xs.map fun p=>T.tup [a p,b p],none) ρ)(hcap:Qcl js ρ=.un::.un::rest)(hml:rest.all Qfa=true)(hap:Qbs js=true)
  (hc:∀ p∈xs,evC cf cs (.fz (a p)::.fz (b p)::rest)=.ok (g p) (.fz (a p)::.fz (b p)::rest)) (he:∀ p∈xs,g p=true→∃ r,evE cf e (.fz (a p)::.fz (b p)::rest)=.ok r (.fz (a p)::.fz (b p)::rest)∧frz r=some (f p)) (hz:xs.length≤100000) :
  evE cf (.comp w js (.tp [0,1]) cs e) ρ=.ok (.ow (.lst ((xs.filter g).map f))) ρ:=by
 obtain ⟨s,t,e1,o,o1⟩:=Qj6 (c:=evC cf cs) (el:=evE cf e) (rest:=rest) (a:=a) (b:=b) (f:=f) (g:=g) (xs:=xs) (acc:=[]) (s0:=.un) (s1:=.un) rfl rfl hc he (by simpa using hz)
 have hs:(s::t::rest).all Qfa=true:=by
  rw [List.all_cons,List.all_cons,hml]
  cases s <;> first | (cases o;done) | (cases t <;> first | rfl | (cases o1;done))
 unfold evE
 rw [hw]
 simp only [Out.bind,hcap,e1]
 rw [if_pos ⟨Qis (by rw [List.all_cons,List.all_cons,hml];rfl) rfl,hap⟩,Qpa hs]
 rfl
section
variable {cf:CF} {ρ ρ1 ρ2:En}
def Q0z (ρ:En):Option T→Out PV
 | some t=>.ok (.fz t) ρ
 | none=>.no
def yFzE (r:PV) (ρ:En):Out PV:=Q0z ρ (frz r)
theorem Q6z:evE cf (.fzE e) ρ=(evE cf e ρ).bind yFzE:=by
 rw [evE];rfl
def yTc3 (ρ:En):FR→Out PV
 | .ok r _=>.ok r ρ
 | .xn x _=>.xn x ρ
 | .no=>.no
theorem Qix {f:Nat}{a b:E}{t u:T}(ea:evE cf a ρ=.ok (.ow t) ρ1)(eb:evE cf b ρ1=.ok (.fz u) ρ2):evE cf (.tcall f (.cons a (.cons b .nil))) ρ=yTc3 ρ2 (cf f [.ml t,.fz u]):=by
 have h:evA cf (.cons a (.cons b .nil)) ρ=.ok [.ow t,.fz u] ρ2:=by
  rw [evA,ea]
  show Out.bind (evA cf (.cons b .nil) ρ1) _=_
  rw [evA,eb]
  have e0:evA cf .nil ρ2=.ok [] ρ2:=by rw [evA]
  simp only [Out.bind,e0]
 rw [evE,h]
 show Qov cf f [.ow t,.fz u] ρ2=_
 unfold Qov
 show (match cf f [.ml t,.fz u] with | .ok r _=>Out.ok r ρ2 | .xn x _=>.xn x ρ2 | .no=>.no)=_
 cases cf f [.ml t,.fz u] <;> rfl
theorem Qaas {i j:Nat}{a b:E}{ρ3 ρ4:En}(ea:evE cf a ρ=.ok (.ow x) ρ1)(eb:evE cf b ρ1=.ok (.ow y) ρ2)(e3:Qa8 i (.ow x) ρ2=some ρ3)(e4:Qa8 j (.ow y) ρ3=some ρ4):exS cf (.parO i j a b) ρ=.nx ρ4:=by
 rw [exS,ea]
 show ofO (evE cf b ρ1) _=_
 rw [eb]
 show Qak (Qa8 i (.ow x) ρ2) (fun ρ3=>Qak (Qa8 j (.ow y) ρ3) .nx)=_
 rw [e3]
 show Qak (Qa8 j (.ow y) ρ3) .nx=_
 rw [e4]
 rfl
end
end L2
set_option maxHeartbeats 4000000
namespace My
open PySem L2
variable {n p:Nat} {s7 s4:Slot} {q:T}
def top (i:Nat):Stmt:=PySem.Challenge.pw_noughtways_k51_how_many_ways.main.body.getD i (.Pass ⟨0,0,0,0⟩)
theorem Ql0 {x:Str}{st:Stmt}{p0:Str}(h:∀ (kV doc pm:Value) (an:Option Addr) (cdv ct:Value) (a0:Value),bindArgs (PySem.W.fnOf x x (Qe2 st) (Qbk st) (Qi st) .none kV doc pm an cdv ct) ⟨[a0],[]⟩=pure [(p0,a0)]):Qam x st [p0]:=fun a b c d e f us hl=>match us,hl with | [a0],_=>h a b c d e f a0
theorem Qhp {x:Str}{st:Stmt}{p0 p1:Str}(h:∀ (kV doc pm:Value) (an:Option Addr) (cdv ct:Value) (a0 a1:Value),bindArgs (PySem.W.fnOf x x (Qe2 st) (Qbk st) (Qi st) .none kV doc pm an cdv ct) ⟨[a0,a1],[]⟩=pure [(p0,a0),(p1,a1)]):Qam x st [p0,p1]:=fun a b c d e f us hl=>match us,hl with | [a0,a1],_=>h a b c d e f a0 a1
abbrev Qga:Stmt:=top 7
theorem Qrn:FnScope ["thing"] ["thing"] (Qi Qga):=⟨rfl,rfl,rfl,by decide +kernel,rfl,by decide +kernel,by decide +kernel⟩
theorem Qro:Qam "is_whole" Qga ["thing"]:=Ql0 fun _ _ _ _ _ _ _=>rfl
abbrev Qiy:Stmt:=top 8
theorem Qws:FnScope ["thing","size"] ["thing","size"] (Qi Qiy):=⟨rfl,rfl,rfl,by decide +kernel,rfl,by decide +kernel,by decide +kernel⟩
theorem Qwt:Qam "is_row" Qiy ["thing","size"]:=Qhp fun _ _ _ _ _ _ _ _=>rfl
abbrev Qhk:Stmt:=top 9
theorem Qto:FnScope ["thing"] ["thing"] (Qi Qhk):=⟨rfl,rfl,rfl,by decide +kernel,rfl,by decide +kernel,by decide +kernel⟩
theorem Qtp:Qam "is_grid" Qhk ["thing"]:=Ql0 fun _ _ _ _ _ _ _=>rfl
abbrev Qef:Stmt:=top 10
theorem Qfi:FnScope ["grid","numbers","row"] ["grid"] (Qi Qef):=⟨rfl,rfl,rfl,by decide +kernel,rfl,by decide +kernel,by decide +kernel⟩
theorem Qmu:Qam "numbers_of" Qef ["grid"]:=Ql0 fun _ _ _ _ _ _ _=>rfl
abbrev Qeg:Stmt:=top 11
theorem Qmv:FnScope ["grid"] ["grid"] (Qi Qeg):=⟨rfl,rfl,rfl,by decide +kernel,rfl,by decide +kernel,by decide +kernel⟩
theorem Qmw:Qam "is_bounded" Qeg ["grid"]:=Ql0 fun _ _ _ _ _ _ _=>rfl
abbrev Qgb:Stmt:=top 12
theorem Qj7:FnScope ["thing","bounded","at"] ["thing","bounded"] (Qi Qgb):=⟨rfl,rfl,rfl,by decide +kernel,rfl,by decide +kernel,by decide +kernel⟩
theorem Qrp:Qam "wrong_at" Qgb ["thing","bounded"]:=Qhp fun _ _ _ _ _ _ _ _=>rfl
abbrev Qdm:Stmt:=top 13
theorem Qg6:FnScope ["thing","at"] ["thing"] (Qi Qdm):=⟨rfl,rfl,rfl,by decide +kernel,rfl,by decide +kernel,by decide +kernel⟩
theorem Ql1:Qam "need_tables" Qdm ["thing"]:=Ql0 fun _ _ _ _ _ _ _=>rfl
abbrev Qb3:Stmt:=top 14
theorem Qev:FnScope ["thing","at"] ["thing"] (Qi Qb3):=⟨rfl,rfl,rfl,by decide +kernel,rfl,by decide +kernel,by decide +kernel⟩
theorem Qh6:Qam "need_none_below" Qb3 ["thing"]:=Ql0 fun _ _ _ _ _ _ _=>rfl
abbrev Qeh:Stmt:=top 16
theorem Qmx:FnScope ["table","places"] ["table","places"] (Qi Qeh):=⟨rfl,rfl,rfl,by decide +kernel,rfl,by decide +kernel,by decide +kernel⟩
theorem Qmy:Qam "set_behind" Qeh ["table","places"]:=Qhp fun _ _ _ _ _ _ _ _=>rfl
abbrev Qei:Stmt:=top 17
theorem Qmz:FnScope ["tables"] ["tables"] (Qi Qei):=⟨rfl,rfl,rfl,by decide +kernel,rfl,by decide +kernel,by decide +kernel⟩
theorem Qm0:Qam "all_places" Qei ["tables"]:=Ql0 fun _ _ _ _ _ _ _=>rfl
abbrev Qiz:Stmt:=top 19
theorem Qfu:FnScope ["tables","led","later","places","table","met"] ["tables","led"] (Qi Qiz):=⟨rfl,rfl,rfl,by decide +kernel,rfl,by decide +kernel,by decide +kernel⟩
theorem Qwu:Qam "led_on" Qiz ["tables","led"]:=Qhp fun _ _ _ _ _ _ _ _=>rfl
abbrev Qi0:Stmt:=top 20
theorem Qjp:FnScope ["tables","places","told","place"] ["tables","places"] (Qi Qi0):=⟨rfl,rfl,rfl,by decide +kernel,rfl,by decide +kernel,by decide +kernel⟩
theorem Qwv:Qam "led_to" Qi0 ["tables","places"]:=Qhp fun _ _ _ _ _ _ _ _=>rfl
abbrev Qfb:Stmt:=top 21
theorem Qph:FnScope ["tables","places"] ["tables","places"] (Qi Qfb):=⟨rfl,rfl,rfl,by decide +kernel,rfl,by decide +kernel,by decide +kernel⟩
theorem Qpi:Qam "ways_many" Qfb ["tables","places"]:=Qhp fun _ _ _ _ _ _ _ _=>rfl
abbrev Qej:Stmt:=top 22
theorem Qhy:FnScope ["tables","places","many"] ["tables","places"] (Qi Qej):=⟨rfl,rfl,rfl,by decide +kernel,rfl,by decide +kernel,by decide +kernel⟩
theorem Qm1:Qam "fresh_many" Qej ["tables","places"]:=Qhp fun _ _ _ _ _ _ _ _=>rfl
abbrev Qew:Stmt:=top 24
theorem Qrq:FnScope ["_law_script","_law_k"] ["_law_script","_law_k"] (Qi Qew):=⟨rfl,rfl,rfl,by decide +kernel,rfl,by decide +kernel,by decide +kernel⟩
theorem Qrr:Qam "_law_cell" Qew ["_law_script","_law_k"]:=Qhp fun _ _ _ _ _ _ _ _=>rfl
abbrev Qhl:Stmt:=top 25
theorem Ql2:FnScope ["_law_cell_here","_law_left"] ["_law_cell_here"] (Qi Qhl):=⟨rfl,rfl,rfl,by decide +kernel,rfl,by decide +kernel,by decide +kernel⟩
theorem Qtq:Qam "_law_pen" Qhl ["_law_cell_here"]:=Ql0 fun _ _ _ _ _ _ _=>rfl
abbrev Qgc:Stmt:=top 26
theorem Qdw:FnScope ["_law_pen_here","_law_many","_law_left","_law_found","_law_stir"] ["_law_pen_here","_law_many"] (Qi Qgc):=⟨rfl,rfl,rfl,by decide +kernel,rfl,by decide +kernel,by decide +kernel⟩
theorem Qrs:Qam "_law_draw" Qgc ["_law_pen_here","_law_many"]:=Qhp fun _ _ _ _ _ _ _ _=>rfl
abbrev Qfc:Stmt:=top 27
theorem Qpj:FnScope ["_law_thing"] ["_law_thing"] (Qi Qfc):=⟨rfl,rfl,rfl,by decide +kernel,rfl,by decide +kernel,by decide +kernel⟩
theorem Qpk:Qam "_law_whole" Qfc ["_law_thing"]:=Ql0 fun _ _ _ _ _ _ _=>rfl
abbrev Qfd:Stmt:=top 28
theorem Qal:FnScope ["_law_pen_here","_law_size","_law_many","_law_order","_law_place","_law_way","_law_found","_law_turn","_law_rows","_law_row","_law_later","_law_row_here","_law_column","_law_number"] ["_law_pen_here"] (Qi Qfd):=⟨rfl,rfl,rfl,by decide +kernel,rfl,by decide +kernel,by decide +kernel⟩
theorem Qpl:Qam "_law_signs" Qfd ["_law_pen_here"]:=Ql0 fun _ _ _ _ _ _ _=>rfl
abbrev Qdn:Stmt:=top 29
theorem Qex:FnScope ["_law_table","_law_places","_law_found","_law_other"] ["_law_table","_law_places"] (Qi Qdn):=⟨rfl,rfl,rfl,by decide +kernel,rfl,by decide +kernel,by decide +kernel⟩
theorem Ql3:Qam "_law_columns" Qdn ["_law_table","_law_places"]:=Qhp fun _ _ _ _ _ _ _ _=>rfl
abbrev Qc6:Stmt:=top 30
theorem Qaw:FnScope ["_law_tables","_law_places","_law_found","_law_turn","_law_more","_law_way","_law_left"] ["_law_tables","_law_places"] (Qi Qc6):=⟨rfl,rfl,rfl,by decide +kernel,rfl,by decide +kernel,by decide +kernel⟩
theorem Qkh:Qam "_law_all_ways" Qc6 ["_law_tables","_law_places"]:=Qhp fun _ _ _ _ _ _ _ _=>rfl
abbrev Qdo:Stmt:=top 31
theorem Qa1:FnScope ["_law_tables","_law_places","_law_found","_law_turn","_law_more","_law_left","_law_table","_law_there"] ["_law_tables","_law_places"] (Qi Qdo):=⟨rfl,rfl,rfl,by decide +kernel,rfl,by decide +kernel,by decide +kernel⟩
theorem Ql4:Qam "_law_counted" Qdo ["_law_tables","_law_places"]:=Qhp fun _ _ _ _ _ _ _ _=>rfl
abbrev Qfe:Stmt:=top 32
theorem Qek:FnScope ["_law_tables","_law_way","_law_left","_law_at"] ["_law_tables","_law_way"] (Qi Qfe):=⟨rfl,rfl,rfl,by decide +kernel,rfl,by decide +kernel,by decide +kernel⟩
theorem Qpm:Qam "_law_fresh" Qfe ["_law_tables","_law_way"]:=Qhp fun _ _ _ _ _ _ _ _=>rfl
abbrev Qi1:Stmt:=top 33
theorem Qww:FnScope ["_law_found","_law_due"] ["_law_found","_law_due"] (Qi Qi1):=⟨rfl,rfl,rfl,by decide +kernel,rfl,by decide +kernel,by decide +kernel⟩
theorem Qwx:Qam "_law_is" Qi1 ["_law_found","_law_due"]:=Qhp fun _ _ _ _ _ _ _ _=>rfl
abbrev Qff:Stmt:=top 34
theorem Qc7:FnScope ["_law_tables","_law_places","_law_due","_law_fresh_here","_law_many","_law_ways","_law_turn"] ["_law_tables","_law_places"] (Qi Qff):=⟨rfl,rfl,rfl,by decide +kernel,rfl,by decide +kernel,by decide +kernel⟩
theorem Qpn:Qam "_law_right" Qff ["_law_tables","_law_places"]:=Qhp fun _ _ _ _ _ _ _ _=>rfl
abbrev Qcu:Stmt:=top 35
theorem Qci:FnScope ["_law_tables","_law_places","_law_due","_law_fresh_here","_law_many"] ["_law_tables","_law_places"] (Qi Qcu):=⟨rfl,rfl,rfl,by decide +kernel,rfl,by decide +kernel,by decide +kernel⟩
theorem Qjq:Qam "_law_far_right" Qcu ["_law_tables","_law_places"]:=Qhp fun _ _ _ _ _ _ _ _=>rfl
abbrev Qj8:Stmt:=top 36
theorem Ql5:FnScope ["_law_script","_law_cell_here","_law_pen_here","_law_tables","_law_places"] ["_law_script"] (Qi Qj8):=⟨rfl,rfl,rfl,by decide +kernel,rfl,by decide +kernel,by decide +kernel⟩
theorem Qaat:Qam "law" Qj8 ["_law_script"]:=Ql0 fun _ _ _ _ _ _ _=>rfl
theorem Qaau:PySem.bootBuiltins "abs" = some (.builtin "abs"):=by decide +kernel
theorem Qpo:PySem.bootBuiltins "all" = some (.builtin "all"):=by decide +kernel
theorem Q00:PySem.bootBuiltins "any" = some (.builtin "any"):=by decide +kernel
theorem Qve:PySem.bootBuiltins "bool" = some (.type "bool"):=by decide +kernel
theorem Qwy:PySem.bootBuiltins "divmod" = some (.builtin "divmod"):=by decide +kernel
theorem Qpp:PySem.bootBuiltins "enumerate" = some (.type "enumerate"):=by decide +kernel
theorem Qjr:PySem.bootBuiltins "int" = some (.type "int"):=by decide +kernel
theorem Qa6:PySem.bootBuiltins "isinstance" = some (.builtin "isinstance"):=by decide +kernel
theorem Qa5:PySem.bootBuiltins "len" = some (.builtin "len"):=by decide +kernel
theorem Qks:PySem.bootBuiltins "list" = some (.type "list"):=by decide +kernel
theorem Q01:PySem.bootBuiltins "max" = some (.builtin "max"):=by decide +kernel
theorem Qaav:PySem.bootBuiltins "min" = some (.builtin "min"):=by decide +kernel
theorem Qi2:PySem.bootBuiltins "range" = some (.type "range"):=by decide +kernel
theorem Qcs:PySem.bootBuiltins "tuple" = some (.type "tuple"):=by decide +kernel
structure Txt (K:Frg) (mg:Str→Option Value):Prop where
 n_abs:mg "abs" = none
 n_all:mg "all" = none
 n_any:mg "any" = none
 n_bool:mg "bool" = none
 n_divmod:mg "divmod" = none
 n_enumerate:mg "enumerate" = none
 n_int:mg "int" = none
 n_isinstance:mg "isinstance" = none
 n_len:mg "len" = none
 n_list:mg "list" = none
 n_max:mg "max" = none
 n_min:mg "min" = none
 n_range:mg "range" = none
 n_tuple:mg "tuple" = none
 m_MOST_ROWS:∃ u,mg "MOST_ROWS" = some u∧RelV (.int (4)) u
 m_MOST_TABLES:∃ u,mg "MOST_TABLES" = some u∧RelV (.int (4)) u
abbrev Qtr:S:=(.ret (.and (.isI (.var 0) "int") (.not (.isI (.var 0) "bool"))))
abbrev Qh7:Df:=⟨"is_whole",Qga,["thing"],["thing"],⟨1,1,Qtr⟩,fun _=>true⟩
abbrev Ql6:S:=(.seq (.ite (.or (.not (.isI (.var 0) "tuple")) (.cmp .ne (.bi .len (.cons (.var 0) .nil)) (.var 1))) (.ret (.bl false)) .nil)
 (.ret (.bi .all (.cons (.comp (.seq (.var 0)) [none] (.nm 0) .nil (.call 0 (.cons (.var 0) .nil))) .nil))))
abbrev Ql7:Df:=⟨"is_row",Qiy,["thing","size"],["thing","size"],⟨2,2,Ql6⟩,fun _=>true⟩
abbrev Qjs:S:=(.seq (.ite (.or (.not (.isI (.var 0) "tuple")) (.or (.cmp .lt (.bi .len (.cons (.var 0) .nil)) (.int 1)) (.cmp .gt (.bi .len (.cons (.var 0) .nil)) (.int (4))))) (.ret (.bl false)) .nil)
 (.ret (.bi .all (.cons (.comp (.seq (.var 0)) [none,some 0] (.nm 0) .nil (.call 1 (.cons (.var 0) (.cons (.bi .len (.cons (.var 1) .nil)) .nil)))) .nil))))
abbrev Qjt:Df:=⟨"is_grid",Qhk,["thing"],["thing"],⟨1,1,Qjs⟩,fun _=>true⟩
abbrev Qgd:S:=(.seq (.set 1 (.lst .nil))
 (.seq (.for_ (.seq (.var 0)) (.nm 2) (.ext 1 (.var 2)))
 (.ret (.var 1))))
abbrev Qel:Df:=⟨"numbers_of",Qef,["grid","numbers","row"],["grid"],⟨1,3,Qgd⟩,fun _=>true⟩
abbrev Qpq:S:=(.ret (.bi .all (.cons (.comp (.seq (.call 3 (.cons (.var 0) .nil))) [none] (.nm 0) .nil (.cmp .lt (.bi .abs (.cons (.var 0) .nil)) (.bin .pow (.int 10) (.int 12)))) .nil)))
abbrev Qge:Df:=⟨"is_bounded",Qeg,["grid"],["grid"],⟨1,1,Qpq⟩,fun _=>true⟩
abbrev Qh8:S:=(.seq (.ite (.or (.not (.isI (.var 0) "list")) (.or (.cmp .lt (.bi .len (.cons (.var 0) .nil)) (.int 1)) (.cmp .gt (.bi .len (.cons (.var 0) .nil)) (.int (4))))) (.ret (.neg (.int 1))) .nil)
 (.seq (.for_ (.rng1 (.bi .len (.cons (.var 0) .nil))) (.nm 2) (.seq (.ite (.or (.not (.call 2 (.cons (.ix (.var 0) (.var 2)) .nil))) (.cmp .ne (.bi .len (.cons (.ix (.var 0) (.var 2)) .nil)) (.bi .len (.cons (.ix (.var 0) (.int 0)) .nil)))) (.ret (.var 2)) .nil)
 (.ite (.and (.var 1) (.not (.call 4 (.cons (.ix (.var 0) (.var 2)) .nil)))) (.ret (.var 2)) .nil)))
 (.ret .non)))
abbrev Qh9:Df:=⟨"wrong_at",Qgb,["thing","bounded","at"],["thing","bounded"],⟨2,3,Qh8⟩,fun _=>true⟩
abbrev Qfj:S:=(.seq (.setF 1 (.call 5 (.cons (.var 0) (.cons (.bl false) .nil))))
 (.ite (.cmp .isnn (.var 1) .non) .bad .nil))
abbrev Qfk:Df:=⟨"need_tables",Qdm,["thing","at"],["thing"],⟨1,2,Qfj⟩,fun _=>true⟩
abbrev Qc8:S:=(.seq (.expr (.call 6 (.cons (.var 0) .nil)))
 (.for_ (.rng1 (.bi .len (.cons (.var 0) .nil))) (.nm 1) (.ite (.bi .any (.cons (.comp (.seq (.call 3 (.cons (.ix (.var 0) (.var 1)) .nil))) [none] (.nm 0) .nil (.cmp .lt (.var 0) (.int 0))) .nil)) .bad .nil)))
abbrev Qc9:Df:=⟨"need_none_below",Qb3,["thing","at"],["thing"],⟨1,2,Qc8⟩,fun _=>true⟩
abbrev Qgf:S:=(.ret (.bi .tup (.cons (.comp (.rng1 (.bi .len (.cons (.var 0) .nil))) [none,some 1,some 0] (.nm 0) (.cons (.bi .any (.cons (.comp (.seq (.var 1)) [none,some 0,some 2] (.nm 0) .nil (.cmp .ne (.ix (.ix (.var 2) (.var 0)) (.var 1)) (.int 0))) .nil)) .nil) (.var 0)) .nil)))
abbrev Qgg:Df:=⟨"set_behind",Qeh,["table","places"],["table","places"],⟨2,2,Qgf⟩,fun _=>true⟩
abbrev Qgh:S:=(.ret (.tupR false (.bi .len (.cons (.ix (.var 0) (.int 0)) .nil))))
abbrev Qgi:Df:=⟨"all_places",Qei,["tables"],["tables"],⟨1,1,Qgh⟩,fun _=>true⟩
abbrev Ql8:S:=(.seq (.set 2 .dnew)
 (.seq (.for_ (.dks (.var 1)) (.nm 3) (.for_ (.seq (.var 0)) (.nm 4) (.seq (.setF 5 (.call 8 (.cons (.var 4) (.cons (.var 3) .nil))))
 (.dput 2 (.var 5) (.bin .add (.dg2 (.var 2) (.var 5) (.int 0)) (.dix (.var 1) (.var 3)))))))
 (.ret (.var 2))))
abbrev Ql9:Df:=⟨"led_on",Qiz,["tables","led","later","places","table","met"],["tables","led"],⟨2,6,Ql8⟩,fun _=>true⟩
abbrev Qma:S:=(.seq (.set 2 (.lst (.cons (.d1 (.call 9 (.cons (.var 0) .nil)) (.int 1)) .nil)))
 (.seq (.for_ (.rng1 (.var 1)) (.nm 3) (.app 2 (.call 10 (.cons (.var 0) (.cons (.ix (.var 2) (.neg (.int 1))) .nil)))))
 (.ret (.var 2))))
abbrev Qmb:Df:=⟨"led_to",Qi0,["tables","places","told","place"],["tables","places"],⟨2,4,Qma⟩,fun _=>true⟩
abbrev Qg7:S:=(.seq (.expr (.call 7 (.cons (.var 0) .nil)))
 (.ret (.comp (.seq (.call 11 (.cons (.var 0) (.cons (.var 1) .nil)))) [none] (.nm 0) .nil (.dg2 (.var 0) (.tup .nil) (.int 0)))))
abbrev Qdx:Df:=⟨"ways_many",Qfb,["tables","places"],["tables","places"],⟨2,2,Qg7⟩,fun _=>true⟩
abbrev Qgj:S:=(.seq (.setF 2 (.call 12 (.cons (.var 0) (.cons (.var 1) .nil))))
 (.ret (.bin .add (.slc (.var 2) .nil (.cons (.int 1) .nil)) (.comp (.rng1 (.var 1)) [none,some 2,some 0] (.nm 0) .nil (.bin .sub (.ix (.var 1) (.bin .add (.var 0) (.int 1))) (.bin .mul (.bi .len (.cons (.var 2) .nil)) (.ix (.var 1) (.var 0))))))))
abbrev Qem:Df:=⟨"fresh_many",Qej,["tables","places","many"],["tables","places"],⟨2,3,Qgj⟩,fun _=>true⟩
abbrev Qju:S:=(.seq (.setF 1 (.bi .max (.cons (.var 0) (.cons (.bin .sub (.int 0) (.var 0)) .nil))))
 (.ret (.lst (.cons (.var 1) (.cons (.bi .int (.cons (.cmp .ge (.var 1) (.bin .pow (.int 10) (.int 18))) .nil)) .nil)))))
abbrev Qjv:Df:=⟨"_law_pen",Qhl,["_law_cell_here","_law_left"],["_law_cell_here"],⟨1,2,Qju⟩,fun _=>true⟩
abbrev Qey:S:=(.seq (.ite (.cmp .eq (.ix (.var 0) (.int 1)) (.int 1)) (.seq (.unp [2,3] (.bi .dvm (.cons (.ix (.var 0) (.int 0)) (.cons (.var 1) .nil))))
 (.seq (.put 0 (.int 0) (.var 2))
 (.ret (.var 3)))) .nil)
 (.seq (.setF 4 (.bin .mod (.bin .mul (.bin .add (.bin .mod (.ix (.var 0) (.int 0)) (.int 2147483647)) (.int 40503)) (.int 69621)) (.int 2147483629)))
 (.seq (.setF 4 (.bin .mod (.bin .add (.bin .mul (.var 4) (.var 4)) (.int 7817)) (.int 2147483587)))
 (.seq (.put 0 (.int 0) (.bin .mod (.bin .add (.bin .mul (.var 4) (.int 48271)) (.int 11)) (.int 2147483629)))
 (.ret (.bin .mod (.bin .fdv (.ix (.var 0) (.int 0)) (.int 32)) (.var 1)))))))
abbrev Qba:Df:=⟨"_law_draw",Qgc,["_law_pen_here","_law_many","_law_left","_law_found","_law_stir"],["_law_pen_here","_law_many"],⟨2,5,Qey⟩,fun _=>true⟩
abbrev Qrt:S:=(.ret (.and (.isI (.var 0) "int") (.not (.isI (.var 0) "bool"))))
abbrev Qg8:Df:=⟨"_law_whole",Qfc,["_law_thing"],["_law_thing"],⟨1,1,Qrt⟩,fun _=>true⟩
abbrev Qg9:S:=(.seq (.par 1 2 (.bin .add (.int 1) (.call 15 (.cons (.var 0) (.cons (.int 4) .nil)))) (.bin .add (.int 1) (.call 15 (.cons (.var 0) (.cons (.int 3) .nil)))))
 (.seq (.set 3 (.lst .nil))
 (.seq (.for_ (.rng1 (.var 1)) (.nm 4) (.ins 3 (.call 15 (.cons (.var 0) (.cons (.bin .add (.var 4) (.int 1)) .nil))) (.var 4)))
 (.seq (.setF 5 (.call 15 (.cons (.var 0) (.cons (.int 4) .nil))))
 (.seq (.set 6 (.lst .nil))
 (.seq (.nest 6 8 11 9 1 7 2 (.set 8 (.lst .nil)) (.seq (.setF 10 (.slc (.var 3) (.cons (.bin .add (.lix 3 (.var 9)) (.int 1)) .nil) .nil))
 (.seq (.set 11 (.lst .nil))
 (.for_ (.rng1 (.var 1)) (.nm 12) (.seq (.setF 13 (.bi .max (.cons (.int 0) (.cons (.bin .sub (.call 15 (.cons (.var 0) (.cons (.int 4) .nil))) (.int 1)) .nil))))
 (.app 11 (.bin .mul (.var 13) (.bi .int (.cons (.or (.cmp .inn (.var 12) (.var 10)) (.cmp .eq (.var 5) (.int 3))) .nil)))))))) (.cmp .eq (.var 5) (.int 2)) (.bin .add (.int 1) (.call 15 (.cons (.var 0) (.cons (.int 9) .nil)))) (.call 15 (.cons (.var 0) (.cons (.var 1) .nil))) (.call 15 (.cons (.var 0) (.cons (.var 1) .nil))))
 (.seq (.frz 6) (.ret (.comp (.seq (.var 6)) [none] (.nm 0) .nil (.bi .tup (.cons (.comp (.seq (.var 0)) [none] (.nm 0) .nil (.bi .tup (.cons (.var 0) .nil))) .nil)))))))))))
abbrev Qha:Df:=⟨"_law_signs",Qfd,["_law_pen_here","_law_size","_law_many","_law_order","_law_place","_law_way","_law_found","_law_turn","_law_rows","_law_row","_law_later","_law_row_here","_law_column","_law_number"],["_law_pen_here"],⟨1,14,Qg9⟩,fun _=>true⟩
abbrev Qfl:S:=(.seq (.set 2 (.lst .nil))
 (.seq (.for_ (.rng1 (.bi .len (.cons (.var 0) .nil))) (.nm 3) (.ite (.cmp .ne (.comp (.seq (.var 1)) [none,some 3,some 0] (.nm 0) (.cons (.cmp .ne (.ix (.ix (.var 2) (.var 0)) (.var 1)) (.int 0)) .nil) (.var 0)) (.lst .nil)) (.app 2 (.var 3)) .nil))
 (.ret (.bi .tup (.cons (.var 2) .nil)))))
abbrev Qct:Df:=⟨"_law_columns",Qdn,["_law_table","_law_places","_law_found","_law_other"],["_law_table","_law_places"],⟨2,4,Qfl⟩,fun _=>true⟩
abbrev Qez:S:=(.seq (.setF 2 (.lst (.cons (.tup (.cons (.tup .nil) (.cons (.tupR false (.bi .len (.cons (.ix (.var 0) (.int 0)) .nil))) .nil))) .nil)))
 (.seq (.for_ (.rng1 (.var 1)) (.nm 3) (.seq (.setF 4 (.lst .nil))
 (.seq (.for_ (.seq (.var 2)) (.tp [5,6]) (.setF 4 (.bin .add (.var 4) (.comp (.enm (.var 0)) [none,none,some 5,some 6] (.tp [0,1]) .nil (.tup (.cons (.bin .add (.var 2) (.tup (.cons (.var 0) .nil))) (.cons (.call 18 (.cons (.var 1) (.cons (.var 3) .nil))) .nil)))))))
 (.setF 2 (.var 4)))))
 (.ret (.var 2))))
abbrev Qe0:Df:=⟨"_law_all_ways",Qc6,["_law_tables","_law_places","_law_found","_law_turn","_law_more","_law_way","_law_left"],["_law_tables","_law_places"],⟨2,7,Qez⟩,fun _=>true⟩
abbrev Qfm:S:=(.seq (.setF 2 (.d1 (.tupR false (.bi .len (.cons (.ix (.var 0) (.int 0)) .nil))) (.int 1)))
 (.seq (.for_ (.rng1 (.var 1)) (.nm 3) (.seq (.set 4 .dnew)
 (.seq (.for_ (.dks (.var 2)) (.nm 5) (.for_ (.seq (.var 0)) (.nm 6) (.seq (.setF 7 (.call 18 (.cons (.var 6) (.cons (.var 5) .nil))))
 (.dput 4 (.var 7) (.bin .add (.dg2 (.var 4) (.var 7) (.int 0)) (.dix (.var 2) (.var 5)))))))
 (.seq (.frz 4) (.setF 2 (.var 4))))))
 (.ret (.var 2))))
abbrev Qfn:Df:=⟨"_law_counted",Qdo,["_law_tables","_law_places","_law_found","_law_turn","_law_more","_law_left","_law_table","_law_there"],["_law_tables","_law_places"],⟨2,8,Qfm⟩,fun _=>true⟩
abbrev Qhb:S:=(.seq (.setF 2 (.tupR false (.bi .len (.cons (.ix (.var 0) (.int 0)) .nil))))
 (.seq (.for_ (.seq (.slc (.var 1) .nil (.cons (.neg (.int 1)) .nil))) (.nm 3) (.seq (.setF 2 (.call 18 (.cons (.ix (.var 0) (.var 3)) (.cons (.var 2) .nil))))
 (.ite (.cmp .eq (.var 2) (.tup .nil)) (.ret (.bl false)) .nil)))
 (.ret (.bl true))))
abbrev Qhc:Df:=⟨"_law_fresh",Qfe,["_law_tables","_law_way","_law_left","_law_at"],["_law_tables","_law_way"],⟨2,4,Qhb⟩,fun _=>true⟩
abbrev Qmc:S:=(.seq (.ite (.or (.not (.isI (.var 0) "list")) (.or (.cmp .ne (.var 0) (.var 1)) (.not (.bi .all (.cons (.compS 0 [none] (.nm 0) .nil (.call 16 (.cons (.var 0) .nil))) .nil))))) (.ret (.bl false)) .nil)
 (.seq (.app 0 (.int 0))
 (.ret (.bl true))))
abbrev Qfv:Df:=⟨"_law_is",Qi1,["_law_found","_law_due"],["_law_found","_law_due"],⟨2,2,Qmc⟩,fun _=>true⟩
abbrev Qhd:S:=(.seq (.parO 2 3 (.lst (.cons (.int 0) .nil)) (.lst (.cons (.int 0) .nil)))
 (.seq (.for_ (.rng2 (.int 1) (.bin .add (.var 1) (.int 1))) (.nm 4) (.seq (.setF 5 (.comp (.seq (.call 19 (.cons (.var 0) (.cons (.var 4) .nil)))) [none,none] (.tp [0,1]) (.cons (.cmp .eq (.var 1) (.tup .nil)) .nil) (.var 0)))
 (.seq (.app 2 (.bi .len (.cons (.var 5) .nil)))
 (.app 3 (.bi .len (.cons (.comp (.seq (.var 5)) [none,some 0] (.nm 0) (.cons (.call 21 (.cons (.var 1) (.cons (.var 0) .nil))) .nil) (.var 0)) .nil))))))
 (.seq (.for_ (.rng1 (.int 2)) (.nm 6) (.seq (.ite (.not (.tcall 22 (.cons (.call 12 (.cons (.var 0) (.cons (.var 1) .nil))) (.cons (.fzE (.bi .list (.cons (.var 2) .nil))) .nil)))) (.ret (.bl false)) .nil)
 (.ite (.not (.tcall 22 (.cons (.call 13 (.cons (.var 0) (.cons (.var 1) .nil))) (.cons (.fzE (.bi .list (.cons (.var 3) .nil))) .nil)))) (.ret (.bl false)) .nil)))
 (.ret (.bl true)))))
abbrev Qdy:Df:=⟨"_law_right",Qff,["_law_tables","_law_places","_law_due","_law_fresh_here","_law_many","_law_ways","_law_turn"],["_law_tables","_law_places"],⟨2,7,Qhd⟩,fun _=>true⟩
abbrev Qd4:S:=(.seq (.setF 2 (.comp (.rng1 (.bin .add (.var 1) (.int 1))) [none,some 0] (.nm 0) .nil (.dg2 (.call 20 (.cons (.var 1) (.cons (.var 0) .nil))) (.tup .nil) (.int 0))))
 (.seq (.set 3 (.lst (.cons (.int 0) .nil)))
 (.seq (.for_ (.rng2 (.int 1) (.bin .add (.var 1) (.int 1))) (.nm 4) (.app 3 (.bin .sub (.ix (.var 2) (.var 4)) (.bin .mul (.bi .len (.cons (.var 0) .nil)) (.ix (.var 2) (.bin .sub (.var 4) (.int 1)))))))
 (.seq (.frz 3) (.ret (.and (.tcall 22 (.cons (.call 12 (.cons (.var 0) (.cons (.var 1) .nil))) (.cons (.var 2) .nil))) (.tcall 22 (.cons (.call 13 (.cons (.var 0) (.cons (.var 1) .nil))) (.cons (.var 3) .nil)))))))))
abbrev Qcv:Df:=⟨"_law_far_right",Qcu,["_law_tables","_law_places","_law_due","_law_fresh_here","_law_many"],["_law_tables","_law_places"],⟨2,5,Qd4⟩,fun _=>true⟩
abbrev ds:List Df:=[Qh7,Ql7,Qjt,Qel,Qge,Qh9,Qfk,Qc9,Qgg,Qgi,Ql9,Qmb,Qdx,Qem,Qjv,Qba,Qg8,Qha,Qct,Qe0,Qfn,Qhc,Qfv,Qdy,Qcv]
section
variable {P:Program} {w:World} {K:Frg} {mg:Str→Option Value} {base:Heap}
theorem Qts (tx:Txt K mg):Qax P w K mg base ds Qh7:=fun cf n R f cdv A outer s H E hc co pz hr =>
 (Q8 (Qa0 (Qyr (Qj3 tx.n_isinstance Qa6 (Qe 0) (Qql "int" tx.n_int Qjr)) (Qup (Q6c (Qj3 tx.n_isinstance Qa6 (Qe 0) (Qql "bool" tx.n_bool Qve)))))))
theorem Q02 (tx:Txt K mg):Qax P w K mg base ds Ql7:=fun cf n R f cdv A outer s H E hc co pz hr =>
 (Qs (Qh4 (t_w (Qmr (Qe7 (Qby (Qj3 tx.n_isinstance Qa6 (Qe 0) (Qql "tuple" tx.n_tuple Qcs)))) (Qli (Qzb hr.units (Qcg (Qbz K rfl) (Qa9 K) tx.n_len Qa5 (Qd (Qe 0) Qh)) (Qe 1))))) (Q8 (Qa0 Qkf)) Qes)
  (Q8 (Qa0 (Qcg (Qul K rfl) (Qox K) tx.n_all Qpo (Qd (Qdg ["number"] [none] rfl (Qcm rfl (Qe 0)) (fun _ _ _=>(Qad (Q7 (i:=0) (show List.Nodup (["number"]:List Str) by decide +kernel)))) (fun _ _ _=>Qd1) (fun _ _ _=>(Qaa (hc 0 Qh7 rfl) Qt hr (Qd (Qe 0) Qh)))) Qh)))))
theorem Qwz (tx:Txt K mg):Qax P w K mg base ds Qjt:=fun cf n R f cdv A outer s H E hc co pz hr =>
 (Qs (Qh4 (t_w (Qmr (Qe7 (Qby (Qj3 tx.n_isinstance Qa6 (Qe 0) (Qql "tuple" tx.n_tuple Qcs)))) (Qmr (Q95 (Qcg (Qbz K rfl) (Qa9 K) tx.n_len Qa5 (Qd (Qe 0) Qh)) Qp) (Qli (t_gt (Qcg (Qbz K rfl) (Qa9 K) tx.n_len Qa5 (Qd (Qe 0) Qh)) (Qza tx.m_MOST_ROWS)))))) (Q8 (Qa0 Qkf)) Qes)
  (Q8 (Qa0 (Qcg (Qul K rfl) (Qox K) tx.n_all Qpo (Qd (Qdg ["row","thing"] [none,some 0] rfl (Qcm rfl (Qe 0)) (fun _ _ _=>(Qad (Q7 (i:=0) (show List.Nodup (["row","thing"]:List Str) by decide +kernel)))) (fun _ _ _=>Qd1) (fun _ _ _=>(Qaa (hc 1 Ql7 rfl) Qt hr (Qd (Qe 0) (Qd (Qcg (Qbz K rfl) (Qa9 K) tx.n_len Qa5 (Qd (Qe 1) Qh)) Qh))))) Qh)))))
theorem Qpr (tx:Txt K mg):Qax P w K mg base ds Qel:=fun cf n R f cdv A outer s H E hc co pz hr =>
 (Qs (Qg4 (Qa7 (i:=1) Qfi.nd (Qdc Qh)))
  (Qs (Qde rfl (Qcm rfl (Qe 0)) (Qad (Q7 (i:=2) Qfi.nd)) (Q8 (Qadk (Qdz (Qkc K rfl F.plainAttrs_list F.slot_list_extend F.type_list_extend (Qwe K rfl) (Qc2 1) (Qat (Qe 2) Qbu))))))
  (Q8 (Qa0 (Qe 1)))))
theorem Qps (tx:Txt K mg):Qax P w K mg base ds Qge:=fun cf n R f cdv A outer s H E hc co pz hr =>
 (Q8 (Qa0 (Qcg (Qul K rfl) (Qox K) tx.n_all Qpo (Qd (Qdg ["number"] [none] rfl (Qcm rfl (Qaa (hc 3 Qel rfl) pz hr (Qd (Qe 0) Qh))) (fun _ _ _=>(Qad (Q7 (i:=0) (show List.Nodup (["number"]:List Str) by decide +kernel)))) (fun _ _ _=>Qd1) (fun _ _ _=>(Q3z (Qcg Qacl Q9w tx.n_abs Qaau (Qd (Qe 0) Qh)) (Q6k Qp Qp)))) Qh))))
theorem Qtt (tx:Txt K mg):Qax P w K mg base ds Qh9:=fun cf n R f cdv A outer s H E hc co pz hr =>
 (Qs (Qh4 (t_w (Qmr (Qe7 (Qby (Qj3 tx.n_isinstance Qa6 (Qe 0) (Qql "list" tx.n_list Qks)))) (Qmr (Q95 (Qcg (Qbz K rfl) (Qa9 K) tx.n_len Qa5 (Qd (Qe 0) Qh)) Qp) (Qli (t_gt (Qcg (Qbz K rfl) (Qa9 K) tx.n_len Qa5 (Qd (Qe 0) Qh)) (Qza tx.m_MOST_TABLES)))))) (Q8 (Qa0 (Qyq Qp))) Qes)
  (Qs (Qde rfl (Qd2 tx.n_range (Qcg (Qbz K rfl) (Qa9 K) tx.n_len Qa5 (Qd (Qe 0) Qh))) (Qad (Q7 (i:=2) Qj7.nd)) (Qs (Qh4 (t_w (Qmr (Qe7 (Qby (Qaa (hc 2 Qjt rfl) Qt hr (Qd (Qds rfl (Qe 0) (Qe 2)) Qh)))) (Qli (Qzb hr.units (Qcg (Qbz K rfl) (Qa9 K) tx.n_len Qa5 (Qd (Qds rfl (Qe 0) (Qe 2)) Qh)) (Qcg (Qbz K rfl) (Qa9 K) tx.n_len Qa5 (Qd (Qds rfl (Qe 0) Qp) Qh)))))) (Q8 (Qa0 (Qe 2))) Qes)
  (Q8 (Qh4 (t_w (Qac8 (Qby (Qe 1)) (Qli (Qe7 (Qby (Qaa (hc 4 Qge rfl) Qt hr (Qd (Qds rfl (Qe 0) (Qe 2)) Qh))))))) (Q8 (Qa0 (Qe 2))) Qes))))
  (Q8 (Qa0 Q6a))))
theorem Qm2 (tx:Txt K mg):Qax P w K mg base ds Qfk:=fun cf n R f cdv A outer s H E hc co pz hr =>
 (Qs (Qbd (Qa7 (i:=1) Qg6.nd (Qaa (hc 5 Qh9 rfl) pz hr (Qd (Qe 0) (Qd Qkf Qh)))))
  (Q8 (Qh4 (Q96 (Qe 1) Q6a) (Q8 Q6j) Qes)))
theorem Qi3 (tx:Txt K mg):Qax P w K mg base ds Qc9:=fun cf n R f cdv A outer s H E hc co pz hr =>
 (Qs (Qzf (Qaa (hc 6 Qfk rfl) pz hr (Qd (Qe 0) Qh)))
  (Q8 (Qde rfl (Qd2 tx.n_range (Qcg (Qbz K rfl) (Qa9 K) tx.n_len Qa5 (Qd (Qe 0) Qh))) (Qad (Q7 (i:=1) Qev.nd)) (Q8 (Qh4 (Qby (Qcg (Q51 K rfl) (Qyy K) tx.n_any Q00 (Qd (Qdg ["number"] [none] rfl (Qcm rfl (Qaa (hc 3 Qel rfl) Qt hr (Qd (Qds rfl (Qe 0) (Qe 1)) Qh))) (fun _ _ _=>(Qad (Q7 (i:=0) (show List.Nodup (["number"]:List Str) by decide +kernel)))) (fun _ _ _=>Qd1) (fun _ _ _=>(Q3z (Qe 0) Qp))) Qh))) (Q8 Q6j) Qes)))))
theorem Qpt (tx:Txt K mg):Qax P w K mg base ds Qgg:=fun cf n R f cdv A outer s H E hc co pz hr =>
 (Q8 (Qa0 (Qhv (Qkm K rfl) (Qoz K) tx.n_tuple Qcs (Qd (Qdg ["k","places","table"] [none,some 1,some 0] rfl (Qd2 tx.n_range (Qcg (Qbz K rfl) (Qa9 K) tx.n_len Qa5 (Qd (Qe 0) Qh))) (fun _ _ _=>(Qad (Q7 (i:=0) (show List.Nodup (["k","places","table"]:List Str) by decide +kernel)))) (fun _ _ _=>(Qo3 (Qby (Qcg (Q51 K rfl) (Qyy K) tx.n_any Q00 (Qd (Qdg ["place","k","table"] [none,some 0,some 2] rfl (Qcm rfl (Qe 1)) (fun _ _ _=>(Qad (Q7 (i:=0) (show List.Nodup (["place","k","table"]:List Str) by decide +kernel)))) (fun _ _ _=>Qd1) (fun _ _ _=>(g_ne hr.units (Qds rfl (Qds rfl (Qe 2) (Qe 0)) (Qe 1)) Qp))) Qh))))) (fun _ _ _=>(Qe 0))) Qh))))
theorem Qpu (tx:Txt K mg):Qax P w K mg base ds Qgi:=fun cf n R f cdv A outer s H E hc co pz hr =>
 (Q8 (Qa0 (Qo5 tx.n_tuple Qcs tx.n_range Qi2 rfl (Qcg (Qbz K rfl) (Qa9 K) tx.n_len Qa5 (Qd (Qds rfl (Qe 0) Qp) Qh)))))
theorem Q03 (tx:Txt K mg):Qax P w K mg base ds Ql9:=fun cf n R f cdv A outer s H E hc co pz hr =>
 (Qs (Qg4 (Qa7 (i:=2) Qfu.nd Qzh))
  (Qs (Qde rfl (Qzu (Qe 1)) (Qad (Q7 (i:=3) Qfu.nd)) (Q8 (Qde rfl (Qcm rfl (Qe 0)) (Qad (Q7 (i:=4) Qfu.nd)) (Qs (Qbd (Qa7 (i:=5) Qfu.nd (Qaa (hc 8 Qgg rfl) Qt hr (Qd (Qe 4) (Qd (Qe 3) Qh)))))
  (Q8 (Qzj hr.units (Qc2 2) (Qe 5) (Qdd rfl (Quz hr.units (Qe 2) (Qe 5) Qp) (Q6l hr.units (Qe 1) (Qe 3)))))))))
  (Q8 (Qa0 (Qe 2)))))
theorem Q04 (tx:Txt K mg):Qax P w K mg base ds Qmb:=fun cf n R f cdv A outer s H E hc co pz hr =>
 (Qs (Qg4 (Qa7 (i:=2) Qjp.nd (Qdc (Qd (g_d1 hr.units (Qaa (hc 9 Qgi rfl) pz hr (Qd (Qe 0) Qh)) Qp) Qh))))
  (Qs (Qde rfl (Qd2 tx.n_range (Qe 1)) (Qad (Q7 (i:=3) Qjp.nd)) (Q8 (Qlp (Qdz (Qkc K rfl F.plainAttrs_list F.slot_list_append F.type_list_append Qc3 (Qc2 2) (Qat (Qaa (hc 10 Ql9 rfl) Qt hr (Qd (Qe 0) (Qd (Qds rfl (Qe 2) (Qyq Qp)) Qh))) Qbu))))))
  (Q8 (Qa0 (Qe 2)))))
theorem Qru (tx:Txt K mg):Qax P w K mg base ds Qdx:=fun cf n R f cdv A outer s H E hc co pz hr =>
 (Qs (Qzf (Qaa (hc 7 Qc9 rfl) pz hr (Qd (Qe 0) Qh)))
  (Q8 (Qa0 (Qdg ["led"] [none] rfl (Qcm rfl (Qaa (hc 11 Qmb rfl) pz hr (Qd (Qe 0) (Qd (Qe 1) Qh)))) (fun _ _ _=>(Qad (Q7 (i:=0) (show List.Nodup (["led"]:List Str) by decide +kernel)))) (fun _ _ _=>Qd1) (fun _ _ _=>(Quz hr.units (Qe 0) (Qd7 Qh) Qp))))))
theorem Qpv (tx:Txt K mg):Qax P w K mg base ds Qem:=fun cf n R f cdv A outer s H E hc co pz hr =>
 (Qs (Qbd (Qa7 (i:=2) Qhy.nd (Qaa (hc 12 Qdx rfl) pz hr (Qd (Qe 0) (Qd (Qe 1) Qh)))))
  (Q8 (Qa0 (Qdd rfl (Qzc rfl (Qe 2) Qo0 (Qo1 Qp)) (Qdg ["k","many","tables"] [none,some 2,some 0] rfl (Qd2 tx.n_range (Qe 1)) (fun _ _ _=>(Qad (Q7 (i:=0) (show List.Nodup (["k","many","tables"]:List Str) by decide +kernel)))) (fun _ _ _=>Qd1) (fun _ _ _=>(Qq0 (Qds rfl (Qe 1) (Qdd rfl (Qe 0) Qp)) (Qn1 (Qcg (Qbz K rfl) (Qa9 K) tx.n_len Qa5 (Qd (Qe 2) Qh)) (Qds rfl (Qe 1) (Qe 0))))))))))
theorem Qw0 (tx:Txt K mg):Qax P w K mg base ds Qjv:=fun cf n R f cdv A outer s H E hc co pz hr =>
 (Qs (Qbd (Qa7 (i:=1) Ql2.nd (Qcg (Qyz K rfl rfl) (Qy0 K) tx.n_max Q01 (Qd (Qe 0) (Qd (Qq0 Qp (Qe 0)) Qh)))))
  (Q8 (Qa0 (Qdc (Qd (Qe 1) (Qd (Qhv Qot Qoy tx.n_int Qjr (Qd (g_ge (Qe 1) (Q6k Qp Qp)) Qh)) Qh))))))
theorem Qtu (tx:Txt K mg):Qax P w K mg base ds Qba:=fun cf n R f cdv A outer s H E hc co pz hr =>
 (Qs (Qh4 (Q30 hr.units (Qds rfl (Qe 0) Qp) Qp) (Qs (Qadi (Quk (Qcg Qacn Q9z tx.n_divmod Qwy (Qd (Qds rfl (Qe 0) Qp) (Qd (Qe 1) Qh))) (Qo2 (is:=[2,3]) (Qor K rfl rfl (Qe3 (Q7 (i:=2) Qdw.nd) (Qe3 (Q7 (i:=3) Qdw.nd) Qoq))) rfl)))
  (Qs (Q6i (Quk (Qe 2) (Qsx (Qc2 0) Qp)))
  (Q8 (Qa0 (Qe 3))))) Qes)
  (Qs (Qbd (Qa7 (i:=4) Qdw.nd (Qq1 (Qn1 (Qdd rfl (Qq1 (Qds rfl (Qe 0) Qp) Qp) Qp) Qp) Qp)))
  (Qs (Qbd (Qa7 (i:=4) Qdw.nd (Qq1 (Qdd rfl (Qn1 (Qe 4) (Qe 4)) Qp) Qp)))
  (Qs (Q6i (Quk (Qq1 (Qdd rfl (Qn1 (Qe 4) Qp) Qp) Qp) (Qsx (Qc2 0) Qp)))
  (Q8 (Qa0 (Qq1 (Qadm (Qds rfl (Qe 0) Qp) Qp) (Qe 1))))))))
theorem Qrv (tx:Txt K mg):Qax P w K mg base ds Qg8:=fun cf n R f cdv A outer s H E hc co pz hr =>
 (Q8 (Qa0 (Qyr (Qj3 tx.n_isinstance Qa6 (Qe 0) (Qql "int" tx.n_int Qjr)) (Qup (Q6c (Qj3 tx.n_isinstance Qa6 (Qe 0) (Qql "bool" tx.n_bool Qve)))))))
theorem Qrw (tx:Txt K mg):Qax P w K mg base ds Qha:=fun cf n R f cdv A outer s H E hc co pz hr =>
 (Qs (Qadj (Q5y 1 2 Qal.nd (by decide) (Qd (Qdd rfl Qp (Qaa (hc 15 Qba rfl) pz hr (Qd (Qe 0) (Qd Qp Qh)))) (Qd (Qdd rfl Qp (Qaa (hc 15 Qba rfl) pz hr (Qd (Qe 0) (Qd Qp Qh)))) Qh))))
  (Qs (Qg4 (Qa7 (i:=3) Qal.nd (Qdc Qh)))
  (Qs (Qde rfl (Qd2 tx.n_range (Qe 1)) (Qad (Q7 (i:=4) Qal.nd)) (Q8 (Qadt (Qdz (Qkc K rfl F.plainAttrs_list F.slot_list_insert F.type_list_insert Qzr (Qc2 3) (Qat (Qaa (hc 15 Qba rfl) Qt hr (Qd (Qe 0) (Qd (Qdd rfl (Qe 4) Qp) Qh))) (Qat (Qe 4) Qbu)))))))
  (Qs (Qbd (Qa7 (i:=5) Qal.nd (Qaa (hc 15 Qba rfl) pz hr (Qd (Qe 0) (Qd Qp Qh)))))
  (Qs (Qg4 (Qa7 (i:=6) Qal.nd (Qdc Qh)))
  (Qaad (K:=K) ⟨by decide,by decide,by decide,by decide,by decide,by decide⟩ (Quj PassesOwn.never rfl (Qsw tx.n_range (Qat (Qc2 2) Qbu)) (Q7 (i:=7) Qal.nd) (Qdj (Qg4 (Qa7 (i:=8) Qal.nd (Qdc Qh))) (Qdj (Quj PassesOwn.never rfl (Qsw tx.n_range (Qat (Qc2 1) Qbu)) (Q7 (i:=9) Qal.nd) (Qz3 (Qbd (Qa7 (i:=10) Qal.nd (Qzc rfl (Qe 3) (Qo1 (Qdd rfl (Qadu (Qkc K rfl F.plainAttrs_list F.slot_list_index F.type_list_index Qzq (Qc2 3) (Qat (Qe 9) Qbu))) Qp)) Qo0)))
  (Qz3 (Qg4 (Qa7 (i:=11) Qal.nd (Qdc Qh)))
  (Qdj (Qde rfl (Qd2 tx.n_range (Qe 1)) (Qad (Q7 (i:=12) Qal.nd)) (Qs (Qbd (Qa7 (i:=13) Qal.nd (Qcg (Qyz K rfl rfl) (Qy0 K) tx.n_max Q01 (Qd Qp (Qd (Qq0 (Qaa (hc 15 Qba rfl) Qt hr (Qd (Qe 0) (Qd Qp Qh))) Qp) Qh)))))
  (Q8 (Qlp (Qdz (Qkc K rfl F.plainAttrs_list F.slot_list_append F.type_list_append Qc3 (Qc2 11) (Qat (Qn1 (Qe 13) (Qhv Qot Qoy tx.n_int Qjr (Qd (s_or (g_in hr.units (Qe 12) (Qe 10)) (Qup (g_eq hr.units (Qe 5) Qp))) Qh))) Qbu))))))) (Qh3 (Qdz (Qkc K rfl F.plainAttrs_list F.slot_list_append F.type_list_append Qc3 (Qc2 8) (Qat (Qc2 11) Qbu)))))))) (Qh3 (Qdz (Qkc K rfl F.plainAttrs_list F.slot_list_append F.type_list_append Qc3 (Qc2 6) (Qat (Qc2 8) Qbu))))))) (Qui (Q30 hr.units (Qe 5) Qp) (Qh3 (Quk (Qdd rfl Qp (Qaa (hc 15 Qba rfl) Qt hr (Qd (Qe 0) (Qd Qp Qh)))) (Qsx (Q27 (Q6m K rfl) (Q27 (Q6m K rfl) (Qc2 6) Qnj) (Qaa (hc 15 Qba rfl) Qt hr (Qd (Qe 0) (Qd (Qe 1) Qh)))) (Qaa (hc 15 Qba rfl) Qt hr (Qd (Qe 0) (Qd (Qe 1) Qh)))))) Qos)
  (Qy7 (Q8 (Qa0 (Qdg ["_law_rows"] [none] rfl (Qcm rfl (Qe 6)) (fun _ _ _=>(Qad (Q7 (i:=0) (show List.Nodup (["_law_rows"]:List Str) by decide +kernel)))) (fun _ _ _=>Qd1) (fun _ _ _=>(Qhv (Qkm K rfl) (Qoz K) tx.n_tuple Qcs (Qd (Qdg ["_law_row"] [none] rfl (Qcm rfl (Qe 0)) (fun _ _ _=>(Qad (Q7 (i:=0) (show List.Nodup (["_law_row"]:List Str) by decide +kernel)))) (fun _ _ _=>Qd1) (fun _ _ _=>(Qhv (Qkm K rfl) (Qoz K) tx.n_tuple Qcs (Qd (Qe 0) Qh)))) Qh)))))))))))))
theorem Qm3 (tx:Txt K mg):Qax P w K mg base ds Qct:=fun cf n R f cdv A outer s H E hc co pz hr =>
 (Qs (Qg4 (Qa7 (i:=2) Qex.nd (Qdc Qh)))
  (Qs (Qde rfl (Qd2 tx.n_range (Qcg (Qbz K rfl) (Qa9 K) tx.n_len Qa5 (Qd (Qe 0) Qh))) (Qad (Q7 (i:=3) Qex.nd)) (Q8 (Qh4 (Qzb hr.units (Qdg ["_law_place","_law_other","_law_table"] [none,some 3,some 0] rfl (Qcm rfl (Qe 1)) (fun _ _ _=>(Qad (Q7 (i:=0) (show List.Nodup (["_law_place","_law_other","_law_table"]:List Str) by decide +kernel)))) (fun _ _ _=>(Qo3 (Qzb hr.units (Qds rfl (Qds rfl (Qe 2) (Qe 0)) (Qe 1)) Qp))) (fun _ _ _=>(Qe 0))) (Qdc Qh)) (Q8 (Qlp (Qdz (Qkc K rfl F.plainAttrs_list F.slot_list_append F.type_list_append Qc3 (Qc2 2) (Qat (Qe 3) Qbu))))) Qes)))
  (Q8 (Qa0 (Qhv (Qkm K rfl) (Qoz K) tx.n_tuple Qcs (Qd (Qe 2) Qh))))))
theorem Qmd (tx:Txt K mg):Qax P w K mg base ds Qe0:=fun cf n R f cdv A outer s H E hc co pz hr =>
 (Qs (Qbd (Qa7 (i:=2) Qaw.nd (Qdc (Qd (Qd7 (Qd (Qd7 Qh) (Qd (Qo5 tx.n_tuple Qcs tx.n_range Qi2 rfl (Qcg (Qbz K rfl) (Qa9 K) tx.n_len Qa5 (Qd (Qds rfl (Qe 0) Qp) Qh))) Qh))) Qh))))
  (Qs (Qde rfl (Qd2 tx.n_range (Qe 1)) (Qad (Q7 (i:=3) Qaw.nd)) (Qs (Qbd (Qa7 (i:=4) Qaw.nd (Qdc Qh)))
  (Qs (Qde rfl (Qcm rfl (Qe 2)) (Qo2 (is:=[5,6]) (Qor K rfl rfl (Qe3 (Q7 (i:=5) Qaw.nd) (Qe3 (Q7 (i:=6) Qaw.nd) Qoq))) rfl) (Q8 (Qbd (Qa7 (i:=4) Qaw.nd (Qdd rfl (Qe 4) (Qdg ["_law_at","_law_table","_law_way","_law_left"] [none,none,some 5,some 6] rfl (Qado rfl tx.n_enumerate Qpp (Qe 0)) (fun _ _ _=>(Qo2 (is:=[0,1]) (Qor K rfl rfl (Qe3 (Q7 (i:=0) (show List.Nodup (["_law_at","_law_table","_law_way","_law_left"]:List Str) by decide +kernel)) (Qe3 (Q7 (i:=1) (show List.Nodup (["_law_at","_law_table","_law_way","_law_left"]:List Str) by decide +kernel)) Qoq))) rfl)) (fun _ _ _=>Qd1) (fun _ _ _=>(Qd7 (Qd (Qdd rfl (Qe 2) (Qd7 (Qd (Qe 0) Qh))) (Qd (Qaa (hc 18 Qct rfl) Qt hr (Qd (Qe 1) (Qd (Qe 3) Qh))) Qh))))))))))
  (Q8 (Qbd (Qa7 (i:=2) Qaw.nd (Qe 4)))))))
  (Q8 (Qa0 (Qe 2)))))
theorem Qm4 (tx:Txt K mg):Qax P w K mg base ds Qfn:=fun cf n R f cdv A outer s H E hc co pz hr =>
 (Qs (Qbd (Qa7 (i:=2) Qa1.nd (g_d1 hr.units (Qo5 tx.n_tuple Qcs tx.n_range Qi2 rfl (Qcg (Qbz K rfl) (Qa9 K) tx.n_len Qa5 (Qd (Qds rfl (Qe 0) Qp) Qh))) Qp)))
  (Qs (Qde rfl (Qd2 tx.n_range (Qe 1)) (Qad (Q7 (i:=3) Qa1.nd)) (Qs (Qg4 (Qa7 (i:=4) Qa1.nd Qzh))
  (Qs (Qde rfl (Qzu (Qe 2)) (Qad (Q7 (i:=5) Qa1.nd)) (Q8 (Qde rfl (Qcm rfl (Qe 0)) (Qad (Q7 (i:=6) Qa1.nd)) (Qs (Qbd (Qa7 (i:=7) Qa1.nd (Qaa (hc 18 Qct rfl) Qt hr (Qd (Qe 6) (Qd (Qe 5) Qh)))))
  (Q8 (Qzj hr.units (Qc2 4) (Qe 7) (Qdd rfl (Quz hr.units (Qe 4) (Qe 7) Qp) (Q6l hr.units (Qe 2) (Qe 5)))))))))
  (Qy7 (Q8 (Qbd (Qa7 (i:=2) Qa1.nd (Qe 4))))))))
  (Q8 (Qa0 (Qe 2)))))
theorem Qrx (tx:Txt K mg):Qax P w K mg base ds Qhc:=fun cf n R f cdv A outer s H E hc co pz hr =>
 (Qs (Qbd (Qa7 (i:=2) Qek.nd (Qo5 tx.n_tuple Qcs tx.n_range Qi2 rfl (Qcg (Qbz K rfl) (Qa9 K) tx.n_len Qa5 (Qd (Qds rfl (Qe 0) Qp) Qh)))))
  (Qs (Qde rfl (Qcm rfl (Qzc rfl (Qe 1) Qo0 (Qo1 (Qyq Qp)))) (Qad (Q7 (i:=3) Qek.nd)) (Qs (Qbd (Qa7 (i:=2) Qek.nd (Qaa (hc 18 Qct rfl) Qt hr (Qd (Qds rfl (Qe 0) (Qe 3)) (Qd (Qe 2) Qh)))))
  (Q8 (Qh4 (Q30 hr.units (Qe 2) (Qd7 Qh)) (Q8 (Qa0 Qkf)) Qes))))
  (Q8 (Qa0 Qkf))))
theorem Q05 (tx:Txt K mg):Qax P w K mg base ds Qfv:=fun cf n R f cdv A outer s H E hc co pz hr =>
 (Qs (Qh4 (t_w (Qmr (Qe7 (Qby (Qj3 tx.n_isinstance Qa6 (Qe 0) (Qql "list" tx.n_list Qks)))) (Qmr (Qzb hr.units (Qe 0) (Qe 1)) (Qli (Qe7 (Qby (Qcg (Qul K rfl) (Qox K) tx.n_all Qpo (Qd (Q36 (K:=K) ["_law_one"] [none] rfl (Qx6 K rfl (Qc2 0)) (fun _ _ _=>(Qad (Q7 (i:=0) (show List.Nodup (["_law_one"]:List Str) by decide +kernel)))) (fun _ _ _=>Qd1) (fun _ _ _=>(Qaa (hc 16 Qg8 rfl) Qt hr (Qd (Qe 0) Qh)))) Qh)))))))) (Q8 (Qa0 Qkf)) Qes)
  (Qs (Qlp (Qdz (Qkc K rfl F.plainAttrs_list F.slot_list_append F.type_list_append Qc3 (Qc2 0) (Qat Qp Qbu))))
  (Q8 (Qa0 Qkf))))
theorem Qry (tx:Txt K mg):Qax P w K mg base ds Qdy:=fun cf n R f cdv A outer s H E hc co pz hr =>
 (Qs (Qaae (Q5y 2 3 Qc7.nd (by decide) (Qat (Qdc (Qd Qp Qh)) (Qat (Qdc (Qd Qp Qh)) Qbu))))
  (Qs (Qde rfl (Qze tx.n_range Qp (Qdd rfl (Qe 1) Qp)) (Qad (Q7 (i:=4) Qc7.nd)) (Qs (Qbd (Qzd ["_law_way","_law_left"] [none,none] rfl (Qcm rfl (Qaa (hc 19 Qe0 rfl) Qt hr (Qd (Qe 0) (Qd (Qe 4) Qh)))) (fun _ _ _=>(Qo2 (is:=[0,1]) (Qor K rfl rfl (Qe3 (Q7 (i:=0) (show List.Nodup (["_law_way","_law_left"]:List Str) by decide +kernel)) (Qe3 (Q7 (i:=1) (show List.Nodup (["_law_way","_law_left"]:List Str) by decide +kernel)) Qoq))) rfl)) (fun _ _ _=>(Qo3 (Q30 hr.units (Qe 1) (Qd7 Qh)))) (fun _ _ _=>(Qe 0)) (Q7 (i:=5) Qc7.nd)))
  (Qs (Qlp (Qdz (Qkc K rfl F.plainAttrs_list F.slot_list_append F.type_list_append Qc3 (Qc2 2) (Qat (Qcg (Qbz K rfl) (Qa9 K) tx.n_len Qa5 (Qd (Qe 5) Qh)) Qbu))))
  (Q8 (Qlp (Qdz (Qkc K rfl F.plainAttrs_list F.slot_list_append F.type_list_append Qc3 (Qc2 3) (Qat (Qcg (Qbz K rfl) (Qa9 K) tx.n_len Qa5 (Qd (Qdg ["_law_way","_law_tables"] [none,some 0] rfl (Qcm rfl (Qe 5)) (fun _ _ _=>(Qad (Q7 (i:=0) (show List.Nodup (["_law_way","_law_tables"]:List Str) by decide +kernel)))) (fun _ _ _=>(Qo3 (Qby (Qaa (hc 21 Qhc rfl) Qt hr (Qd (Qe 1) (Qd (Qe 0) Qh)))))) (fun _ _ _=>(Qe 0))) Qh)) Qbu))))))))
  (Qs (Qde rfl (Qd2 tx.n_range Qp) (Qad (Q7 (i:=6) Qc7.nd)) (Qs (Qh4 (Qe7 (Qby (Qkq (hc 22 Qfv rfl) Qt hr (Qd (Qaa (hc 12 Qdx rfl) Qt hr (Qd (Qe 0) (Qd (Qe 1) Qh))) (Qd (Q6n (Qhv (Qx8 K rfl) (Qus K) tx.n_list Qks (Qd (Qe 2) Qh))) Qh))))) (Q8 (Qa0 Qkf)) Qes)
  (Q8 (Qh4 (Qe7 (Qby (Qkq (hc 22 Qfv rfl) Qt hr (Qd (Qaa (hc 13 Qem rfl) Qt hr (Qd (Qe 0) (Qd (Qe 1) Qh))) (Qd (Q6n (Qhv (Qx8 K rfl) (Qus K) tx.n_list Qks (Qd (Qe 3) Qh))) Qh))))) (Q8 (Qa0 Qkf)) Qes))))
  (Q8 (Qa0 Qkf)))))
theorem Qki (tx:Txt K mg):Qax P w K mg base ds Qcv:=fun cf n R f cdv A outer s H E hc co pz hr =>
 (Qs (Qbd (Qzd ["_law_many","_law_tables"] [none,some 0] rfl (Qd2 tx.n_range (Qdd rfl (Qe 1) Qp)) (fun _ _ _=>(Qad (Q7 (i:=0) (show List.Nodup (["_law_many","_law_tables"]:List Str) by decide +kernel)))) (fun _ _ _=>Qd1) (fun _ _ _=>(Quz hr.units (Qaa (hc 20 Qfn rfl) Qt hr (Qd (Qe 1) (Qd (Qe 0) Qh))) (Qd7 Qh) Qp)) (Q7 (i:=2) Qci.nd)))
  (Qs (Qg4 (Qa7 (i:=3) Qci.nd (Qdc (Qd Qp Qh))))
  (Qs (Qde rfl (Qze tx.n_range Qp (Qdd rfl (Qe 1) Qp)) (Qad (Q7 (i:=4) Qci.nd)) (Q8 (Qlp (Qdz (Qkc K rfl F.plainAttrs_list F.slot_list_append F.type_list_append Qc3 (Qc2 3) (Qat (Qq0 (Qds rfl (Qe 2) (Qe 4)) (Qn1 (Qcg (Qbz K rfl) (Qa9 K) tx.n_len Qa5 (Qd (Qe 0) Qh)) (Qds rfl (Qe 2) (Qq0 (Qe 4) Qp)))) Qbu))))))
  (Qy7 (Q8 (Qa0 (Qyr (Qkq (hc 22 Qfv rfl) pz hr (Qd (Qaa (hc 12 Qdx rfl) pz hr (Qd (Qe 0) (Qd (Qe 1) Qh))) (Qd (Qe 2) Qh))) (Qup (Qkq (hc 22 Qfv rfl) pz hr (Qd (Qaa (hc 13 Qem rfl) pz hr (Qd (Qe 0) (Qd (Qe 1) Qh))) (Qd (Qe 3) Qh)))))))))))
theorem Qpw (d:Dfn K mg "_law_cell" Qew)(tx:Txt K mg):Has P w K mg base "_law_cell" ["_law_script","_law_k"] 1 (Qlt K):=by
 refine Qaco (k:=0) d Qrq Qrr (fun vs H Q E h=>?_) (fun f cdv A outer s H vs Q E hr h=>?_)
 ·obtain ⟨a,ns,k,rfl,_⟩:=h
  rfl
 ·obtain ⟨a,ns,k,rfl,hs,q⟩:=h
  refine ⟨_,(Qdj (Qui (Qx4 Q85 (Qc2 1) (Q83 (Qbz K rfl) tx.n_len Qa5 (Qat (Qc2 0) Qbu)) (Q78 _)) (Qh3 (Quh (Q27 (o_ix K rfl) (Qc2 0) (Qc2 1)))) Qos)
   (Qh3 (Quh Qnj))),?_⟩
  refine ⟨_,rfl,_,rfl,a,_,rfl,.inl hs,_,_,rfl,rfl,_,rfl,?_⟩
  refine ite2 (fun c=>?_) (fun c=>?_)
  ·have c:(k:Int)<(ns.map V.int).length:=by simpa using c
   have hk:k<ns.length:=by rw [List.length_map] at c;omega
   refine ⟨_,rfl,_,rfl,.inl ⟨a,_,_,_,rfl,rfl,hs,Qfx (v:=V.int ns[k]) ?_,q _⟩⟩
   rw [List.getElem?_map,List.getElem?_eq_getElem hk]
   rfl
  ·exact q _
abbrev Qvf:L2.E:=(.or (.not (.call 23 (.cons (.lst (.cons (.tup (.cons (.tup (.cons (.int 0) .nil)) .nil)) .nil)) (.cons (.int 0) .nil)))) (.or (.not (.call 23 (.cons (.lst (.cons (.tup (.cons (.tup (.cons (.int 0) .nil)) .nil)) (.cons (.tup (.cons (.tup (.cons (.int 1) .nil)) .nil)) .nil))) (.cons (.int 3) .nil)))) (.not (.call 24 (.cons (.lst (.cons (.tup (.cons (.tup (.cons (.int 0) .nil)) .nil)) .nil)) (.cons (.int 60) .nil))))))
abbrev Qtv:S:=(.seq (.set 2 (.call 14 (.cons (.var 1) .nil)))
 (.seq (.setF 3 (.call 17 (.cons (.var 2) .nil)))
 (.seq (.setF 4 (.call 15 (.cons (.var 2) (.cons (.int 6) .nil))))
 (.seq (.ite (.not (.call 23 (.cons (.var 3) (.cons (.ite (.cmp .lt (.bi .len (.cons (.var 3) .nil)) (.int 3)) (.var 4) (.bi .min (.cons (.int 4) (.cons (.var 4) .nil)))) .nil)))) (.ret (.bl false)) .nil)
 (.ite (.not (.call 24 (.cons (.var 3) (.cons (.ix (.lst (.cons (.int 8) (.cons (.int 12) (.cons (.int 60) .nil)))) (.bin .add (.bi .int (.cons (.cmp .lt (.bi .len (.cons (.ix (.var 3) (.int 0)) .nil)) (.int 3)) .nil)) (.bi .int (.cons (.cmp .lt (.bi .len (.cons (.ix (.var 3) (.int 0)) .nil)) (.int 2)) .nil)))) .nil)))) (.ret (.bl false)) .nil)))))
theorem Qaea (tx:Txt K mg){cf:CF}{f:Addr}{cdv:Value}{A:Around}{outer:List Env}{s:Shared}{H:Hp}{E:XK}(hc:Qtc P w K mg base ds cf 14)(h_cell:Has P w K mg base "_law_cell" ["_law_script","_law_k"] 1 (Qlt K))(hr:Room 14 (A.deeper (PyProof.Rows.envOfC "law" (Qi Qj8) s.heap.objs.size f cdv))) :
  QB (Qhm (fun _=>true) CX0 P w K mg base ["_law_script","_law_cell_here","_law_pen_here","_law_tables","_law_places"] "law" (Qi Qj8) f cdv A outer s H E).nox (Qbk Qj8) (Q6o ⟨cf,fun _ _ _ _=>False,mg⟩ K Qvf 1 3 Qtv) :=
 Qdj (Qui (t_w (Qmr (Qe7 (Qby (Qaa (hc 23 Qdy rfl) Qt hr (Qd (Qdc (Qd (Qd7 (Qd (Qd7 (Qd Qp Qh)) Qh)) Qh)) (Qd Qp Qh))))) (Qmr (Qe7 (Qby (Qaa (hc 23 Qdy rfl) Qt hr (Qd (Qdc (Qd (Qd7 (Qd (Qd7 (Qd Qp Qh)) Qh)) (Qd (Qd7 (Qd (Qd7 (Qd Qp Qh)) Qh)) Qh))) (Qd Qp Qh))))) (Qli (Qe7 (Qby (Qaa (hc 24 Qcv rfl) Qt hr (Qd (Qdc (Qd (Qd7 (Qd (Qd7 (Qd Qp Qh)) Qh)) Qh)) (Qd Qp Qh))))))))) Qz9 Qos)
  (Qdj (Quj PassesOwn.never rfl (Qx6 K rfl (q_op (Q5z K rfl) (Q5x (Qat (q_fn h_cell (hr.mono (by decide)) (Qat (Qc2 0) (Qat Qnj Qbu))) Qbu)) (q_sl (o_sl K rfl) (Qc2 0) (Qsv Qnj) (Qsv Qnj)))) (Q7 (i:=1) Ql5.nd)
   (Qs (Qg4 (Qa7 (i:=2) Ql5.nd (Qaa (hc 14 Qjv rfl) Qt hr (Qd (Qe 1) Qh))))
  (Qs (Qbd (Qa7 (i:=3) Ql5.nd (Qaa (hc 17 Qha rfl) Qt hr (Qd (Qe 2) Qh))))
  (Qs (Qbd (Qa7 (i:=4) Ql5.nd (Qaa (hc 15 Qba rfl) Qt hr (Qd (Qe 2) (Qd Qp Qh)))))
  (Qs (Qh4 (Qe7 (Qby (Qaa (hc 23 Qdy rfl) Qt hr (Qd (Qe 3) (Qd (Qac6 (Q95 (Qcg (Qbz K rfl) (Qa9 K) tx.n_len Qa5 (Qd (Qe 3) Qh)) Qp) (Qe 4) (Qcg (Q9x K rfl rfl) (Q9y K) tx.n_min Qaav (Qd Qp (Qd (Qe 4) Qh)))) Qh))))) (Q8 (Qa0 Qkf)) Qes)
  (Q8 (Qh4 (Qe7 (Qby (Qaa (hc 24 Qcv rfl) Qt hr (Qd (Qe 3) (Qd (Qds rfl (Qdc (Qd Qp (Qd Qp (Qd Qp Qh)))) (Qdd rfl (Qhv Qot Qoy tx.n_int Qjr (Qd (Q3z (Qcg (Qbz K rfl) (Qa9 K) tx.n_len Qa5 (Qd (Qds rfl (Qe 3) Qp) Qh)) Qp) Qh)) (Qhv Qot Qoy tx.n_int Qjr (Qd (Q3z (Qcg (Qbz K rfl) (Qa9 K) tx.n_len Qa5 (Qd (Qds rfl (Qe 3) Qp) Qh)) Qp) Qh)))) Qh))))) (Q8 (Qa0 Qkf)) Qes)))))))
  (Qh3 (Quh q_bl)))
end
open PySem L2
def Qw1:List Int→List (List Int)
 | []=>[[]]
 | x::xs=>Qw1 xs++(Qw1 xs).map (x :: ·)
theorem Qrz:∀ xs:List Int,(Qw1 xs).length=2^xs.length
 | []=>rfl
 | x::xs=>by rw [Qw1,List.length_append,List.length_map,Qrz xs,List.length_cons,Nat.pow_succ];omega
theorem Q06 {ps qs:List Int}(h:ps.Sublist qs):ps∈Qw1 qs:=by
 induction h with
 | slnil=>exact .head _
 | cons a _ ih=>exact List.mem_append_left _ ih
 | cons_cons a _ ih=>exact List.mem_append_right _ (List.mem_map_of_mem ih)
theorem Q60:∀ (ks L:List (List Int)),ks.Nodup→(∀ x∈ks,x∈L)→ks.length≤L.length
 | [],_,_,_=>Nat.zero_le _
 | k::ks,L,h,s=>by
  obtain ⟨h1,h2⟩:=List.nodup_cons.mp h
  have hk:=s k (.head _)
  have ih:=Q60 ks (L.erase k) h2 fun x hx=>(List.mem_erase_of_ne (show x≠k from fun z=>h1 (by rw [←z];exact hx))).mpr (s x (.tail _ hx))
  rw [List.length_erase_of_mem hk] at ih
  have:0<L.length:=List.length_pos_of_mem hk
  rw [List.length_cons]
  omega
def upS (n:Nat):List Int:=(List.range n).map fun (i:Nat)=>(0:Int)+(i:Int)
theorem Qpx (n:Nat):Q3 0 n=(upS n).map T.int:=by
 unfold Q3 upS
 rw [List.map_map]
 rfl
theorem Qi4 (n:Nat):(upS n).length=n:=by unfold upS;rw [List.length_map,List.length_range]
abbrev Ct:=List (List Int×Int)
variable {D:Ct}
def Qgr (D:Ct) (s:List Int) (v:Int):Ct:=match D.lookup s with
 | some c=>D.map fun p=>if p.1=s then (p.1,c+v) else p
 | none=>D++[(s,0+v)]
abbrev dT (D:Ct):T:=.dtt (D.map (·.1)) (D.map fun p=>T.int p.2)
theorem Qhe (z:List Int):∀ D:Ct,Qd0 (D.map (·.1)) (D.map fun p=>T.int p.2) z=(D.lookup z).map T.int
 | []=>rfl
 | p::D=>by
  rw [List.map_cons,List.map_cons,Qd0,List.lookup_cons]
  by_cases h:p.1=z
  ·rw [if_pos h,←h,beq_self_eq_true];rfl
  ·rw [if_neg h,beq_eq_false_iff_ne.mpr (Ne.symm h)];exact Qhe z D
theorem Q07 (z:List Int)(u:Int):∀ D:Ct,Qqq (D.map (·.1)) (D.map fun p=>T.int p.2) z (.int u)=(D.map fun p=>if p.1=z then (p.1,u) else p).map fun p=>T.int p.2
 | []=>rfl
 | p::D=>by
  rw [List.map_cons,List.map_cons,Qqq,Q07 z u D,List.map_cons,List.map_cons]
  congr 1
  by_cases h:p.1=z
  ·rw [if_pos h,if_pos h]
  ·rw [if_neg h,if_neg h]
theorem Qpy (z:List Int)(u:Int)(D:Ct):(D.map fun p=>if p.1=z then (p.1,u) else p).map (·.1)=D.map (·.1):=by
 rw [List.map_map]
 refine List.map_congr_left fun p _=>?_
 show (if p.1=z then (p.1,u) else p).1=p.1
 split <;> rfl
theorem Q08 {s:List Int}{v c:Int}(h:D.lookup s=some c):Qik (D.map (·.1)) (D.map fun p=>T.int p.2) s (.int (c+v))=dT (Qgr D s v):=by
 unfold Qik Qgr
 rw [Qhe,h]
 show T.dtt _ (Qqq _ _ _ _)=_
 rw [Q07,←Qpy s (c+v) D]
theorem Q09 {s:List Int}{v:Int}(h:D.lookup s=none):Qik (D.map (·.1)) (D.map fun p=>T.int p.2) s (.int (0+v))=dT (Qgr D s v):=by
 unfold Qik Qgr
 rw [Qhe,h]
 show T.dtt _ _=T.dtt _ _
 rw [List.map_append,List.map_append]
 rfl
structure Good (n:Nat) (D:Ct):Prop where
 nd:(D.map (·.1)).Nodup
 sub:∀ k∈D.map (·.1),k.Sublist (upS n)
theorem Qme {s:List Int}(h:s∈D.map (·.1)):∃ c,D.lookup s=some c:=by
 induction D with
 | nil=>cases h
 | cons p D ih =>
  rw [List.lookup_cons]
  by_cases e:s=p.1
  ·rw [e,beq_self_eq_true];exact ⟨_,rfl⟩
  ·rw [beq_eq_false_iff_ne.mpr e]
   rcases List.mem_cons.mp h with z | z
   ·exact absurd z e
   ·exact ih z
theorem Good.cadd (h:Good n D){s:List Int}(hs:s.Sublist (upS n))(v:Int):Good n (Qgr D s v):=by
 unfold My.Qgr
 cases e:D.lookup s with
 | some c =>
  dsimp only
  exact ⟨by rw [Qpy];exact h.nd,by rw [Qpy];exact h.sub⟩
 | none =>
  dsimp only
  rw [show Good n (D++[(s,0+v)])↔_ from Iff.rfl]
  refine ⟨?_,?_⟩
  ·rw [List.map_append,List.nodup_append]
   refine ⟨h.nd,List.nodup_cons.mpr ⟨List.not_mem_nil,List.nodup_nil⟩,fun a ha b hb z=>?_⟩
   rw [List.mem_singleton.mp hb] at z
   subst z
   obtain ⟨c,hc⟩:=Qme ha
   rw [e] at hc
   cases hc
  ·intro k hk
   rw [List.map_append] at hk
   rcases List.mem_append.mp hk with z | z
   ·exact h.sub k z
   ·rw [List.mem_singleton.mp z];exact hs
theorem Good.le (h:Good n D)(h4:n≤4):D.length≤16:=by
 have h1:=Q60 (D.map (·.1)) (Qw1 (upS n)) h.nd fun x hx=>Q06 (h.sub x hx)
 rw [List.length_map,Qrz,Qi4] at h1
 exact Nat.le_trans h1 (Nat.le_trans (Nat.pow_le_pow_right (by decide) h4) (by decide))
theorem Good.klen (h:Good n D)(h4:n≤4){k:List Int}(hk:k∈D.map (·.1)):k.length≤4:=by
 have:=(h.sub k hk).length_le
 rw [Qi4] at this
 omega
def cnt (D:Ct) (s:List Int):Int:=(D.lookup s).getD 0
theorem Qr0 (t:List Int)(u:Int)(s:List Int):∀ D:Ct,(D.map fun p=>if p.1=t then (p.1,u) else p).lookup s=if s=t then (D.lookup s).map fun _=>u else D.lookup s
 | []=>by show none=_;split <;> rfl
 | p::D=>by
  have ih:=Qr0 t u s D
  rw [List.map_cons,List.lookup_cons,List.lookup_cons]
  have e:(if p.1=t then (p.1,u) else p).1=p.1:=by split <;> rfl
  rw [e]
  by_cases h:s=p.1
  ·rw [show (s==p.1)=true by rw [h];exact beq_self_eq_true _]
   dsimp only
   by_cases q:p.1=t
   ·rw [if_pos q,if_pos (h.trans q)];rfl
   ·rw [if_neg q,if_neg fun z=>q (h.symm.trans z)]
  ·rw [beq_eq_false_iff_ne.mpr h]
   exact ih
theorem look_snoc (D:Ct)(t s:List Int)(u:Int)(h:D.lookup t=none):(D++[(t,u)]).lookup s=if s=t then some u else D.lookup s:=by
 induction D with
 | nil =>
  show List.lookup s [(t,u)]=_
  rw [List.lookup_cons]
  by_cases q:s=t
  ·rw [q,beq_self_eq_true,if_pos rfl]
  ·rw [beq_eq_false_iff_ne.mpr q,if_neg q]
 | cons p D ih =>
  rw [List.lookup_cons] at h
  by_cases e:t=p.1
  ·rw [e,beq_self_eq_true] at h;cases h
  ·rw [beq_eq_false_iff_ne.mpr e] at h
   have ih:=ih h
   rw [List.cons_append,List.lookup_cons,List.lookup_cons]
   by_cases z:s=p.1
   ·rw [z,beq_self_eq_true]
    rw [if_neg fun q=>e q.symm]
   ·rw [beq_eq_false_iff_ne.mpr z]
    exact ih
theorem Q4q (D:Ct)(t s:List Int)(v:Int):cnt (Qgr D t v) s=cnt D s+if s=t then v else 0:=by
 unfold cnt Qgr
 cases h:D.lookup t with
 | some c =>
  dsimp only
  rw [Qr0]
  by_cases e:s=t
  ·rw [if_pos e,if_pos e,e,h];rfl
  ·rw [if_neg e,if_neg e,Int.add_zero]
 | none =>
  dsimp only
  rw [look_snoc _ _ _ _ h]
  by_cases e:s=t
  ·rw [if_pos e,if_pos e,e,h];rfl
  ·rw [if_neg e,if_neg e,Int.add_zero]
theorem Qr1 {α:Type}(ks:List α):(ks.map fun _=>(0:Int)).sum=0:=by
 induction ks with
 | nil=>rfl
 | cons k ks ih=>rw [List.map_cons,List.sum_cons,ih];rfl
theorem Q4r {α:Type}(f g:α→Int)(ks:List α):(ks.map fun k=>f k+g k).sum=(ks.map f).sum+(ks.map g).sum:=by
 induction ks with
 | nil=>rfl
 | cons k ks ih=>rw [List.map_cons,List.map_cons,List.map_cons,List.sum_cons,List.sum_cons,List.sum_cons,ih];omega
theorem Qr2 (f:List Int→Int)(l:List Int):∀ {ks:List (List Int)},ks.Nodup→l∈ks→(ks.map fun r=>if r=l then f r else 0).sum=f l
 | [],_,h=>by cases h
 | k::ks,nd,h=>by
  obtain ⟨n1,n2⟩:=List.nodup_cons.mp nd
  rw [List.map_cons,List.sum_cons]
  by_cases e:k=l
  ·subst e
   rw [if_pos rfl]
   have:(ks.map fun r=>if r=k then f r else 0)=ks.map fun _=>(0:Int):=List.map_congr_left fun r hr=>if_neg fun z=>n1 (by rw [←z];exact hr)
   rw [this,Qr1];omega
  ·rw [if_neg e]
   rcases List.mem_cons.mp h with z | z
   ·exact absurd z.symm e
   ·rw [Qr2 f l n2 z];omega
theorem Qn7 (f:List Int→Int){ks:List (List Int)}(nd:ks.Nodup):∀ {L:List (List Int)},(∀ l∈L,l∈ks)→(L.map f).sum=(ks.map fun r=>(L.count r:Int)*f r).sum
 | [],_=>by
  have:(ks.map fun r=>(([]:List (List Int)).count r:Int)*f r)=ks.map fun _=>(0:Int):=List.map_congr_left fun r _=>by rw [List.count_nil];simp
  rw [this,Qr1];rfl
 | l::L,h=>by
  rw [List.map_cons,List.sum_cons,Qn7 f nd (fun x hx=>h x (.tail _ hx))]
  have:(ks.map fun r=>((l::L).count r:Int)*f r)=ks.map fun r=>(L.count r:Int)*f r+if r=l then f r else 0:=List.map_congr_left fun r _=>by
   rw [List.count_cons]
   by_cases e:r=l
   ·subst e
    rw [if_pos rfl,beq_self_eq_true,if_pos rfl,Int.natCast_add,Int.add_mul]
    simp
   ·rw [if_neg e,if_neg (by rw [beq_iff_eq];exact fun z=>e z.symm)]
    simp
  rw [this,Q4r,Qr2 f l nd (h l (.head _))]
  omega
open PySem L2
abbrev cfn (k:Nat):CF:=evF (Qip ds) k
abbrev Tb:=List (List Int)
variable {M:Tb} {Ms:List Tb}
abbrev Qq (r:List Int):T:=.tup (r.map .int)
abbrev Qao (M:Tb):T:=.tup (M.map Qq)
abbrev Qf (Ms:List Tb):T:=.lst (Ms.map Qao)
structure Sq (n:Nat) (M:Tb):Prop where
 len:M.length=n
 row:∀ r∈M,r.length=n
 pos:∀ r∈M,∀ x∈r,(0:Int)≤x
 bd:∀ r∈M,∀ x∈r,(x:Int).natAbs≤1000000000000
structure Tabs (n:Nat) (Ms:List Tb):Prop where
 n1:1≤n
 n4:n≤4
 m1:1≤Ms.length
 m4:Ms.length≤4
 sq:∀ M∈Ms,Sq n M
theorem Q1a (k:Nat)(r:List Int)(hr:r.length≤1000):cfn (k+2) 1 [.fz (Qq r),.fz (.int r.length)]=.ok (.fz (.bl true)) [.non,.non]:=by
 have hcomp:evE (cfn (k+1)) (.comp (.seq (.var 0)) [none] (.nm 0) .nil (.call 0 (.cons (.var 0) .nil))) [.fz (Qq r),.fz (.int r.length)]=.ok (.ow (.lst ((r.map T.int).map fun _=>T.bl true))) [.fz (Qq r),.fz (.int r.length)] :=
  Qcr (rest:=[]) rfl rfl rfl rfl (fun x hx=>by
   obtain ⟨i,_,rfl⟩:=List.mem_map.mp hx
   exact ⟨.fz (.bl true),rfl,rfl⟩) (by rw [List.length_map];omega)
 show Qcq (cfn (k+1)) ⟨2,2,Ql6⟩ _=_
 rw [Qca rfl]
 show Qdu _ (exS _ Ql6 [.fz (Qq r),.fz (.int r.length)])=_
 simp only [Qac,Qc4,Qpc,Qgn,Qu4,Qm,Q2,Qb,Qy,Q0c,Qrc,cont,Qrh,Qhs,Bool.not_false,Bool.and_true,Qiv,if_true,Qai,yBl,Qjn,Bool.not_true,yOr,Qbw,Qcn,Qo,yC1,Qv,yC2,yBi,Qch,Qau,Out.opt,ub2,List.length_map,Qbp,Qc,Qbo,Qbn,Qbm,uc2,Option.map,Qee,decide_true,yB,Qas,yIf,Qdt,Qaz,Qcj,hcomp,ub3,Qpf,Qtg,Qeu,Qbe,Qbx,Qbc,Qbj,Qae]
theorem Qw2 (k:Nat)(h:Sq n M)(h1:1≤n)(h4:n≤4):cfn (k+3) 2 [.fz (Qao M)]=.ok (.fz (.bl true)) [.non]:=by
 have hl:=h.len
 have hcomp:evE (cfn (k+2)) (.comp (.seq (.var 0)) [none,some 0] (.nm 0) .nil (.call 1 (.cons (.var 0) (.cons (.bi .len (.cons (.var 1) .nil)) .nil)))) [.fz (Qao M)]=.ok (.ow (.lst ((M.map Qq).map fun _=>T.bl true))) [.fz (Qao M)] :=
  Qcr (rest:=[.fz (Qao M)]) rfl rfl rfl rfl (fun x hx=>by
   obtain ⟨r,hr,rfl⟩:=List.mem_map.mp hx
   have hrl:=h.row r hr
   have q:=Q1a k r (by omega)
   rw [show ((r.length:Nat):Int)=(M.length:Nat) by omega] at q
   refine ⟨.fz (.bl true),?_,rfl⟩
   simp only [Qaj,Qo,Qm,Q2,Qb,Qy,yC1,Qcn,Qc,Qv,yC2,yBi,Qch,Qau,cont,Out.opt,ub2,List.length_map,Q6,Qx,Qag,Q1,Qaq,Qaf,q,Qa2,Qn,Q4,L2.Ql,Option.map,if_true]) (by rw [List.length_map];omega)
 show Qcq (cfn (k+2)) ⟨1,1,Qjs⟩ _=_
 rw [Qca rfl]
 show Qdu _ (exS _ Qjs [.fz (Qao M)])=_
 have c1:¬ ((M.length:Int)<1):=by omega
 have c2:¬ (4<(M.length:Int)):=by omega
 simp only [Qac,Qc4,Qpc,Qgn,Qu4,Qm,Q2,Qb,Qy,Q0c,Qrc,cont,Qrh,Qhs,Bool.not_false,Bool.and_true,Qiv,if_true,Qai,yBl,Qjn,Bool.not_true,yOr,Qbw,Qcn,Qo,yC1,Qv,yC2,yBi,Qch,Qau,Out.opt,ub2,List.length_map,Qbp,Qah,Qbo,Qbn,Qbm,uc3,c1,decide_false,uc5,c2,yB,Qas,yIf,Qdt,Qaz,Qcj,hcomp,ub3,Option.map,Qpf,Qtg,Qeu,Qbe,Qbx,Qbc,Qbj,Qae]
theorem Qn8 {cf:CF}{g:Slot}:∀ (rows:Tb) (acc:List Int) (s:Slot),Qz s=true→acc.length+rows.flatten.length≤1000→∃ s',Qcp (.nm 2) (exS cf (.ext 1 (.var 2))) (rows.map Qq) [g,.ow (.lst (acc.map .int)),s]=.nx [g,.ow (.lst ((acc++rows.flatten).map .int)),s']
 | [],acc,s,_,_=>⟨s,by simp [Qcp]⟩
 | r::rows,acc,s,hs,hz=>by
  rw [List.flatten_cons,List.length_append] at hz
  obtain ⟨s',e⟩:=Qn8 (cf:=cf) (g:=g) rows (acc++r) (.fz (Qq r)) rfl (by rw [List.length_append];omega)
  refine ⟨s',?_⟩
  have e0:Qdp (.nm 2) (Qq r) [g,.ow (.lst (acc.map .int)),s]=some [g,.ow (.lst (acc.map .int)),.fz (Qq r)]:=by
   cases s <;> first | rfl | cases hs
  rw [List.map_cons]
  unfold Qcp
  rw [e0]
  have z:acc.length+r.length≤100000:=by omega
  simp only [Qaal,Slot.mut,Qc,Qb,Qm,Q2,Qas,yExt,Q6v,List.length_map,z,List.set,if_true]
  rw [←List.map_append,e,List.flatten_cons,List.append_assoc]
theorem Qpz (k:Nat)(M:Tb)(hz:M.flatten.length≤1000):cfn (k+1) 3 [.fz (Qao M)]=.ok (.ow (.lst (M.flatten.map .int))) [.non]:=by
 obtain ⟨s',e⟩:=Qn8 (cf:=cfn k) (g:=.fz (Qao M)) M [] .un rfl (by simpa using hz)
 rw [List.map_nil,List.nil_append] at e
 show Qcq (cfn k) ⟨1,3,Qgd⟩ _=_
 rw [Qca rfl]
 show Qdu _ (exS _ Qgd [.fz (Qao M),.un,.un])=_
 simp only [Qac,Qiu,Qet,Qv,Qy,Qho,Qck,List.length_nil,Nat.reduceLeDiff,if_true,Qas,Qld,Qak,Qa8,List.length_cons,Nat.reduceAdd,Nat.reduceLT,Qc,Qb,List.set,Qaz,Qc5,Qit,Qm,Q2,Qmt,Qhx,cont,Qhw,Qdb,Qgy,Qft,e,Qbb,Qcj,Qeu,Qbe,Qbx,Qbc,Qbj,Qae,Option.map]
theorem Qr3:∀ {M:Tb},(∀ r∈M,r.length=n)→M.flatten.length=M.length*n
 | [],_=>by simp
 | r::M,h=>by
  rw [List.flatten_cons,List.length_append,h r List.mem_cons_self,Qr3 (fun x hx=>h x (List.mem_cons_of_mem _ hx)),List.length_cons,Nat.add_mul,Nat.one_mul,Nat.add_comm]
theorem Sq.flat (h:Sq n M)(h4:n≤4):M.flatten.length≤1000:=by
 rw [Qr3 h.row,h.len]
 have:n*n≤4*4:=Nat.mul_le_mul h4 h4
 omega
theorem Qi5 (h:Tabs n Ms){i:Nat}(hi:i<Ms.length):atI (Ms.map Qao) (i:Int)=some (Qao Ms[i])∧Sq n Ms[i] :=
 ⟨Qfx (by rw [List.getElem?_map,List.getElem?_eq_getElem hi];rfl),h.sq _ (List.getElem_mem hi)⟩
abbrev Qp0:S:=.ite (.or (.not (.call 2 (.cons (.ix (.var 0) (.var 2)) .nil))) (.cmp .ne (.bi .len (.cons (.ix (.var 0) (.var 2)) .nil)) (.bi .len (.cons (.ix (.var 0) (.int 0)) .nil)))) (.ret (.var 2)) .nil
abbrev Qp1:S:=.ite (.and (.var 1) (.not (.call 4 (.cons (.ix (.var 0) (.var 2)) .nil)))) (.ret (.var 2)) .nil
theorem Qr4 (k:Nat)(h:Tabs n Ms){i:Nat}(hi:i<Ms.length):exS (cfn (k+3)) Qp0 [.fz (Qf Ms),.fz (.bl false),.fz (.int i)]=.nx [.fz (Qf Ms),.fz (.bl false),.fz (.int i)]:=by
 obtain ⟨a1,q1⟩:=Qi5 h hi
 obtain ⟨a0,q0⟩:=Qi5 h (show 0<Ms.length by omega)
 have a0':atI (Ms.map Qao) 0=some (Qao Ms[0]):=a0
 have g:=Qw2 k q1 h.n1 h.n4
 have l1:=q1.len
 have l0:=q0.len
 simp only [Qc4,Qpc,Qgn,Qaj,Qo,Qgq,Qm,Q2,Qb,Qy,Qf9,Qc,Qf8,Qf7,cont,Qf6,ui1,a1,yC1,Qv,yC2,Q6,Qx,Qag,Q1,Qaq,Qaf,g,Qa2,Qn,Q4,L2.Ql,Option.map,if_true,Qai,yBl,Qjn,Bool.not_true,yOr,Qbw,Qcn,yBi,Qch,Qau,Out.opt,ub2,List.length_map,l1,Qbp,Qah,a0',l0,Qbo,Qbn,Qbm,uc2,Qee,decide_true,yB,Qas,yIf,Qdt]
theorem Qr5 (k:Nat){i:Nat}:exS (cfn (k+3)) Qp1 [.fz (Qf Ms),.fz (.bl false),.fz (.int i)]=.nx [.fz (Qf Ms),.fz (.bl false),.fz (.int i)]:=by
 simp only [Qc4,Q6q,Qm,Q2,Qc,Qb,Qai,Qy,yBl,yAnd,Qas,yIf,Qdt]
theorem Qtw (k:Nat)(h:Tabs n Ms):∃ s,Qcp (.nm 2) (exS (cfn (k+3)) (.seq Qp0 Qp1)) (Q3 0 Ms.length) [.fz (Qf Ms),.fz (.bl false),.un]=.nx [.fz (Qf Ms),.fz (.bl false),s]:=by
 obtain ⟨ρ',e,s,_,rfl⟩:=Qbv (fun _ ρ=>∃ s,Qz s=true∧ρ=[.fz (Qf Ms),.fz (.bl false),s]) (tg:=.nm 2) (b:=exS (cfn (k+3)) (.seq Qp0 Qp1)) (xs:=Q3 0 Ms.length) (n:=0) (ρ:=[.fz (Qf Ms),.fz (.bl false),.un]) ⟨.un,rfl,rfl⟩ (by
  rintro i x ρ hx ⟨s,hs,rfl⟩
  have hi:i<Ms.length:=by have:=(List.getElem?_eq_some_iff.mp hx).1;rwa [Q9] at this
  rw [Qeo hi] at hx
  cases hx
  rw [Int.zero_add]
  refine ⟨[.fz (Qf Ms),.fz (.bl false),.fz (.int i)],[.fz (Qf Ms),.fz (.bl false),.fz (.int i)],(by cases s <;> first | rfl | cases hs),.inl ?_,.fz (.int i),rfl,rfl⟩
  rw [Qac,Qr4 k h hi,Qaz,Qr5])
 exact ⟨s,e⟩
theorem Qtx (k:Nat)(h:Tabs n Ms):cfn (k+4) 5 [.fz (Qf Ms),.fz (.bl false)]=.ok (.fz .non) [.non,.non]:=by
 have h1:=h.m1
 have h4:=h.m4
 obtain ⟨s,e⟩:=Qtw k h
 show Qcq (cfn (k+3)) ⟨2,3,Qh8⟩ _=_
 rw [Qca rfl]
 show Qdu _ (exS _ Qh8 [.fz (Qf Ms),.fz (.bl false),.un])=_
 have c1:¬ ((Ms.length:Int)<1):=by omega
 have c2:¬ (4<(Ms.length:Int)):=by omega
 have c3:Ms.length≤100000:=by omega
 simp only [Qac,Qc4,Qpc,Qgn,Qu4,Qm,Q2,Qb,Qy,Q0c,Qrc,cont,Qu8,Qhs,Bool.not_false,Bool.and_true,Qj5,if_true,Qai,yBl,Qjn,Bool.not_true,yOr,Qbw,Qcn,Qo,yC1,Qv,yC2,yBi,Qch,Qau,Out.opt,ub1,List.length_map,Qbp,Qah,Qbo,Qbn,Qbm,uc3,c1,decide_false,uc5,c2,yB,Qas,yIf,Qdt,Qaz,Qc5,Qd3,Qkg c3,Qft,e,Qbb,Qcj,Q6p,Qeu,Qbe,Qbx,Qbc,Qbj,Qae,Option.map]
theorem Qm5 (k:Nat)(h:Tabs n Ms):cfn (k+5) 6 [.fz (Qf Ms)]=.ok (.fz .non) [.non]:=by
 have e:=Qtx k h
 show Qcq (cfn (k+4)) ⟨1,2,Qfj⟩ _=_
 rw [Qca rfl]
 show Qdu _ (exS _ Qfj [.fz (Qf Ms),.un])=_
 simp only [Qac,Qbl,Qaj,Qo,Qm,Q2,Qb,Qy,yC1,Q0a,Qv,yC2,Q6,Qx,Qag,Q1,Qaq,Qaf,e,Qa2,Qn,Q4,L2.Ql,Option.map,if_true,Qas,Qd8,Qco,frz,Qak,Qa8,List.length_cons,List.length_nil,Nat.reduceAdd,Nat.reduceLT,Qc,List.set,Qaz,Qc4,Qbw,Qbp,Q6p,Qbo,Qbn,cont,Qbm,uc8,Qjz,Bool.not_true,Qai,yBl,yIf,Qdt,Q0n,Qbj,Qae]
abbrev Qp2:S:=.ite (.bi .any (.cons (.comp (.seq (.call 3 (.cons (.ix (.var 0) (.var 1)) .nil))) [none] (.nm 0) .nil (.cmp .lt (.var 0) (.int 0))) .nil)) .bad .nil
theorem Q4s {α:Type}{xs:List α}:Qfp (xs.map fun _=>T.bl false)=some (xs.map fun _=>false):=Qly (fun _=>false) xs
theorem Qaaw {α:Type}{xs:List α}:(xs.map fun _=>false).any id=false:=by rw [List.any_eq_false];intro b hb;obtain ⟨_,_,rfl⟩:=List.mem_map.mp hb;simp
theorem Qty (k:Nat)(h:Tabs n Ms){i:Nat}(hi:i<Ms.length):exS (cfn (k+1)) Qp2 [.fz (Qf Ms),.fz (.int i)]=.nx [.fz (Qf Ms),.fz (.int i)]:=by
 obtain ⟨a1,q1⟩:=Qi5 h hi
 have hz:=q1.flat h.n4
 have en:=Qpz k Ms[i] hz
 have hw:evW (cfn (k+1)) (.seq (.call 3 (.cons (.ix (.var 0) (.var 1)) .nil))) [.fz (Qf Ms),.fz (.int i)]=.ok ((Ms[i]).flatten.map T.int,none) [.fz (Qf Ms),.fz (.int i)]:=by
  simp only [Qit,Qaj,Qo,Qgq,Qm,Q2,Qb,Qy,Qf9,Qc,Qf8,Qf7,cont,Qf6,ui1,a1,yC1,Qv,yC2,Q6,Qx,Qag,Q1,Qaq,Qaf,en,Qa2,Qn,Q4,L2.Ql,Option.map,if_true,Qmt,Qhx,Qhw,Qdb,Qgy]
 have hcomp:evE (cfn (k+1)) (.comp (.seq (.call 3 (.cons (.ix (.var 0) (.var 1)) .nil))) [none] (.nm 0) .nil (.cmp .lt (.var 0) (.int 0))) [.fz (Qf Ms),.fz (.int i)]=.ok (.ow (.lst (((Ms[i]).flatten.map T.int).map fun _=>T.bl false))) [.fz (Qf Ms),.fz (.int i)] :=
  Qcr (rest:=[]) hw rfl rfl rfl (fun x hx=>by
   obtain ⟨z,hz,rfl⟩:=List.mem_map.mp hx
   obtain ⟨r,hr,hzr⟩:=List.mem_flatten.mp hz
   have p:=q1.pos r hr z hzr
   have c:¬ z<0:=by omega
   refine ⟨.fz (.bl false),?_,rfl⟩
   simp only [Qbw,Qm,Q2,Qb,Qy,Qbp,Qah,Qbo,Qbn,cont,Qbm,uc3,c,decide_false]) (by rw [List.length_map];omega)
 simp only [Qc4,Qcn,Qo,hcomp,Qy,yC1,Qv,yC2,yBi,Qch,Qau,cont,Out.opt,ub4,Option.map,Q4s,Qaaw,Qai,yBl,Qas,yIf,Qdt]
theorem Qtz (k:Nat)(h:Tabs n Ms):∃ s,Qcp (.nm 1) (exS (cfn (k+1)) Qp2) (Q3 0 Ms.length) [.fz (Qf Ms),.un]=.nx [.fz (Qf Ms),s]:=by
 obtain ⟨ρ',e,s,_,rfl⟩:=Qbv (fun _ ρ=>∃ s,Qz s=true∧ρ=[.fz (Qf Ms),s]) (tg:=.nm 1) (b:=exS (cfn (k+1)) Qp2) (xs:=Q3 0 Ms.length) (n:=0) (ρ:=[.fz (Qf Ms),.un]) ⟨.un,rfl,rfl⟩ (by
  rintro i x ρ hx ⟨s,hs,rfl⟩
  have hi:i<Ms.length:=by have:=(List.getElem?_eq_some_iff.mp hx).1;rwa [Q9] at this
  rw [Qeo hi] at hx
  cases hx
  rw [Int.zero_add]
  exact ⟨[.fz (Qf Ms),.fz (.int i)],[.fz (Qf Ms),.fz (.int i)],(by cases s <;> first | rfl | cases hs),.inl (Qty k h hi),.fz (.int i),rfl,rfl⟩)
 exact ⟨s,e⟩
theorem Qi6 (k:Nat)(h:Tabs n Ms):cfn (k+6) 7 [.fz (Qf Ms)]=.ok (.fz .non) [.non]:=by
 have h4:=h.m4
 have e:=Qm5 k h
 obtain ⟨s,el⟩:=Qtz (k+4) h
 have c3:Ms.length≤100000:=by omega
 show Qcq (cfn (k+5)) ⟨1,2,Qc8⟩ _=_
 rw [Qca rfl]
 show Qdu _ (exS _ Qc8 [.fz (Qf Ms),.un])=_
 simp only [Qac,Q0k,Qaj,Qo,Qm,Q2,Qb,Qy,yC1,Qv,yC2,Q6,Qx,Qag,Q1,Qaq,Qaf,e,Qa2,Qn,Q4,L2.Ql,Option.map,if_true,Qas,Q0j,Qaz,Qc5,Qd3,Qcn,yBi,Qch,Qau,cont,Out.opt,ub1,List.length_map,Qkg c3,Qft,el,Qbb,Q0n,Qbj,Qae]
open PySem L2
def InR (n:Nat) (ps:List Int):Prop:=∀ p∈ps,0≤p∧p<(n:Int)
structure Set' (n:Nat) (ps:List Int):Prop where
 inr:InR n ps
 ris:ps.Pairwise (· < ·)
 len:ps.length≤4
def at2 (M:Tb) (p:Int) (j:Nat):Int:=(M.getD p.toNat []).getD j 0
def hit (M:Tb) (ps:List Int) (j:Nat):Bool:=(ps.map fun p=>!decide (at2 M p j=0)).any id
def sb (M:Tb) (ps:List Int):List Int:=((List.range M.length).filter (hit M ps)).map fun (j:Nat)=>(j:Int)
theorem Q1b (h:Sq n M){p:Int}(h0:0≤p)(h1:p<(n:Int)):∃ r,atI (M.map Qq) p=some (Qq r)∧∀ j:Nat,j<n→atI (r.map T.int) (j:Int)=some (.int (at2 M p j)):=by
 obtain ⟨i,rfl⟩:=Int.eq_ofNat_of_zero_le h0
 have hi:i<M.length:=by rw [h.len];omega
 refine ⟨M[i],Qfx (by rw [List.getElem?_map,List.getElem?_eq_getElem hi];rfl),fun j hj=>?_⟩
 have hj':j<(M[i]).length:=by rw [h.row _ (List.getElem_mem hi)];exact hj
 refine Qfx ?_
 rw [List.getElem?_map,List.getElem?_eq_getElem hj']
 show some (T.int _)=some (T.int _)
 congr 2
 unfold at2
 rw [Int.toNat_natCast,List.getD_eq_getElem?_getD,List.getD_eq_getElem?_getD,List.getElem?_eq_getElem hi,Option.getD_some,List.getElem?_eq_getElem hj',Option.getD_some]
def jOf:T→Nat
 | .int i=>i.toNat
 | _=>0
def neT (M:Tb) (j:Nat):T→T
 | .int p=>.bl (!decide (at2 M p j=0))
 | _=>.non
theorem Q4t (g:Nat→Bool)(n:Nat):((Q3 0 n).filter (fun x=>g (jOf x))).map id=(((List.range n).filter g).map fun (j:Nat)=>(j:Int)).map T.int:=by
 unfold Q3
 rw [List.map_id,List.filter_map,List.map_map]
 have e:((fun x=>g (jOf x)) ∘ fun (i:Nat)=>T.int (0+(i:Nat)))=g:=by
  funext i
  show g ((0+(i:Int)).toNat)=g i
  rw [Int.zero_add,Int.toNat_natCast]
 rw [e]
 apply List.map_congr_left
 intro i _
 show T.int (0+(i:Int))=T.int (i:Int)
 rw [Int.zero_add]
theorem Qaax (k:Nat)(h:Sq n M)(h4:n≤4){ps:List Int}(hp:InR n ps)(hz:ps.length≤1000){j:Nat}(hj:j<n):Qab (evE (cfn k) (.bi .any (.cons (.comp (.seq (.var 1)) [none,some 0,some 2] (.nm 0) .nil (.cmp .ne (.ix (.ix (.var 2) (.var 0)) (.var 1)) (.int 0))) .nil)) [.fz (.int (0+(j:Int))),.fz (Qq ps),.fz (Qao M)])=.ok (hit M ps j) [.fz (.int (0+(j:Int))),.fz (Qq ps),.fz (Qao M)]:=by
 have hcomp:evE (cfn k) (.comp (.seq (.var 1)) [none,some 0,some 2] (.nm 0) .nil (.cmp .ne (.ix (.ix (.var 2) (.var 0)) (.var 1)) (.int 0))) [.fz (.int (0+(j:Int))),.fz (Qq ps),.fz (Qao M)]=.ok (.ow (.lst ((ps.map T.int).map (neT M j)))) [.fz (.int (0+(j:Int))),.fz (Qq ps),.fz (Qao M)] :=
  Qcr (rest:=[.fz (.int (0+(j:Int))),.fz (Qao M)]) rfl rfl rfl rfl (fun x hx=>by
   obtain ⟨p,hpm,rfl⟩:=List.mem_map.mp hx
   obtain ⟨r,a1,a2⟩:=Q1b h (hp p hpm).1 (hp p hpm).2
   have a2:=a2 j hj
   refine ⟨.fz (.bl (!decide (at2 M p j=0))),?_,rfl⟩
   simp only [Int.zero_add,Qbw,Qgq,Qm,Q2,Qc,Qb,Qy,Qf9,Qf8,Qf7,cont,Qf6,ui2,a1,a2,Qbp,Qah,Qbo,Qbn,Qbm,uc2,Option.map,Qee]) (by rw [List.length_map];omega)
 have tr:Qfp ((ps.map T.int).map (neT M j))=some (ps.map fun p=>!decide (at2 M p j=0)):=Qva (fun p=>rfl) ps
 simp only [Qcn,Qo,hcomp,Qy,yC1,Qv,yC2,yBi,Qch,Qau,cont,Out.opt,ub4,Option.map,tr,Qai,yBl]
 rfl
theorem Qp3 (k:Nat)(h:Sq n M)(h4:n≤4){ps:List Int}(hp:InR n ps)(hz:ps.length≤1000):cfn (k+1) 8 [.fz (Qao M),.fz (Qq ps)]=.ok (.fz (Qq (sb M ps))) [.non,.non]:=by
 have hl:=h.len
 have hw:evW (cfn k) (.rng1 (.bi .len (.cons (.var 0) .nil))) [.fz (Qao M),.fz (Qq ps)]=.ok (Q3 0 M.length,none) [.fz (Qao M),.fz (Qq ps)]:=by
  have c:M.length≤100000:=by omega
  simp only [Qd3,Qcn,Qo,Qm,Q2,Qb,Qy,yC1,Qv,yC2,yBi,Qch,Qau,cont,Out.opt,ub2,List.length_map,Qkg c]
 have hcomp:=Qkr (cf:=cfn k) (w:=.rng1 (.bi .len (.cons (.var 0) .nil))) (js:=[none,some 1,some 0]) (cs:=.cons (.bi .any (.cons (.comp (.seq (.var 1)) [none,some 0,some 2] (.nm 0) .nil (.cmp .ne (.ix (.ix (.var 2) (.var 0)) (.var 1)) (.int 0))) .nil)) .nil) (e:=.var 0)
  (ρ:=[.fz (Qao M),.fz (Qq ps)]) (rest:=[.fz (Qq ps),.fz (Qao M)]) (g:=fun x=>hit M ps (jOf x)) (f:=id) hw rfl rfl rfl (fun x hx=>by
   unfold Q3 at hx
   obtain ⟨j,hj,rfl⟩:=List.mem_map.mp hx
   have hj:=List.mem_range.mp hj
   rw [Qu9,Qaax k h h4 hp hz (by omega)]
   show Out.ok (hit M ps j) _=Out.ok (hit M ps ((0+(j:Int)).toNat)) _
   rw [Int.zero_add,Int.toNat_natCast]) (fun x hx _=>by
   unfold Q3 at hx
   obtain ⟨j,hj,rfl⟩:=List.mem_map.mp hx
   exact ⟨.fz (.int (0+(j:Int))),rfl,rfl⟩) (by rw [Q9];omega)
 rw [Q4t] at hcomp
 show Qcq (cfn k) ⟨2,2,Qgf⟩ _=_
 rw [Qca rfl]
 show Qdu _ (exS _ Qgf [.fz (Qao M),.fz (Qq ps)])=_
 simp only [Qcj,Qcn,Qo,hcomp,Qy,yC1,Qv,yC2,yBi,Qch,Qau,cont,Out.opt,ub9,Qas,Qeu,Qbe,Qbx,Qbc,Qbj,Qae,Option.map]
 rfl
theorem Q1c:∀ (ts:List T),eqL ts []=ts.isEmpty
 | []=>by rw [Qhg];rfl
 | t::ts=>by rw [Qfz (by simp)];rfl
theorem Q4u {ts:List T}(h:ts.all (Qk 49)=true):eqO (.lst ts) (.lst [])=some ts.isEmpty:=by
 show (if _ then _ else _)=_
 rw [if_pos ⟨by rw [Qk];exact h,by simp [Qk]⟩,eqT,Q1c]
def ifI (g:Int→Bool):T→Bool
 | .int p=>g p
 | _=>false
theorem Qr6 (g:Int→Bool):∀ (ps:List Int),(!((ps.map T.int).filter (ifI g)).isEmpty)=(ps.map g).any id
 | []=>rfl
 | p::ps=>by
  rw [List.map_cons,List.map_cons,List.any_cons,←Qr6 g ps,List.filter_cons]
  show (!(if g p=true then _ else _:List T).isEmpty)=(g p||_)
  cases g p <;> rfl
def St (n:Nat) (s:List Int):Prop:=InR n s∧s.length≤1000
theorem Q1d (h:Tabs n Ms):∃ M,atI (Ms.map Qao) 0=some (Qao M)∧M.length=n:=by
 obtain ⟨a0,q0⟩:=Qi5 h (show 0<Ms.length by have:=h.m1;omega)
 exact ⟨_,a0,q0.len⟩
theorem Qaay (h4:n≤4):St n (upS n):=by
 refine ⟨fun p hp=>?_,by rw [Qi4];omega⟩
 obtain ⟨i,hi,rfl⟩:=List.mem_map.mp hp
 have:=List.mem_range.mp hi
 omega
theorem Qmf (M:Tb)(ps:List Int):(sb M ps).Sublist (upS M.length):=by
 unfold sb upS
 have:(fun (i:Nat)=>(0:Int)+(i:Int))=fun (j:Nat)=>(j:Int):=by funext i;exact Int.zero_add _
 rw [this]
 exact List.filter_sublist.map _
theorem Qvg (h4:n≤4){s:List Int}(h:s.Sublist (upS n)):St n s:=by
 refine ⟨fun p hp=>(Qaay h4).1 p (h.mem hp),?_⟩
 have:=h.length_le
 rw [Qi4] at this
 omega
theorem Qp4 (k:Nat)(h:Tabs n Ms):cfn (k+1) 9 [.fz (Qf Ms)]=.ok (.fz (Qq (upS n))) [.non]:=by
 obtain ⟨M0,a0,l0⟩:=Q1d h
 have n4:=h.n4
 have c:n≤100000:=by omega
 show Qcq (cfn k) ⟨1,1,Qgh⟩ _=_
 rw [Qca rfl]
 show Qdu _ (exS _ Qgh [.fz (Qf Ms)])=_
 simp only [Qcj,Qpd,Qcn,Qo,Qgq,Qm,Q2,Qb,Qy,Qf9,Qah,Qf8,Qf7,cont,Qf6,ui1,a0,yC1,Qv,yC2,yBi,Qch,Qau,Out.opt,ub2,List.length_map,l0,Qrf,Int.natAbs_natCast,c,Bool.false_eq_true,Int.toNat_natCast,Qpx,if_false,if_true,Qas,Qeu,Qbe,Qbx,Qbc,Qbj,Qae,Option.map]
open PySem L2
abbrev Qvh:E:=.cmp .ne (.comp (.seq (.var 1)) [none,some 3,some 0] (.nm 0) (.cons (.cmp .ne (.ix (.ix (.var 2) (.var 0)) (.var 1)) (.int 0)) .nil) (.var 0)) (.lst .nil)
theorem Q4v (k:Nat)(h:Sq n M){ps:List Int}(hp:InR n ps)(hz:ps.length≤1000){j:Nat}(hj:j<n){acc:T}:Qab (evE (cfn k) Qvh [.fz (Qao M),.fz (Qq ps),.ow acc,.fz (.int (0+(j:Int)))])=.ok (hit M ps j) [.fz (Qao M),.fz (Qq ps),.ow acc,.fz (.int (0+(j:Int)))]:=by
 have hcomp:=Qkr (cf:=cfn k) (w:=.seq (.var 1)) (js:=[none,some 3,some 0]) (cs:=.cons (.cmp .ne (.ix (.ix (.var 2) (.var 0)) (.var 1)) (.int 0)) .nil) (e:=.var 0)
  (ρ:=[.fz (Qao M),.fz (Qq ps),.ow acc,.fz (.int (0+(j:Int)))]) (rest:=[.fz (.int (0+(j:Int))),.fz (Qao M)]) (xs:=ps.map T.int) (g:=ifI fun p=>!decide (at2 M p j=0)) (f:=id) rfl rfl rfl rfl (fun x hx=>by
   obtain ⟨p,hpm,rfl⟩:=List.mem_map.mp hx
   obtain ⟨r,a1,a2⟩:=Q1b h (hp p hpm).1 (hp p hpm).2
   have a2:=a2 j hj
   rw [Qu9]
   simp only [Int.zero_add,Qbw,Qgq,Qm,Q2,Qc,Qb,Qy,Qf9,Qf8,Qf7,cont,Qf6,ui2,a1,a2,Qbp,Qah,Qbo,Qbn,Qbm,uc2,Option.map,Qee,Qai,yBl,ifI]) (fun x hx _=>by
   obtain ⟨p,hpm,rfl⟩:=List.mem_map.mp hx
   exact ⟨.fz (.int p),rfl,rfl⟩) (by rw [List.length_map];omega)
 rw [List.map_id] at hcomp
 have ok:((ps.map T.int).filter (ifI fun p=>!decide (at2 M p j=0))).all (Qk 49)=true:=by
  rw [List.all_eq_true]
  intro t ht
  obtain ⟨p,_,rfl⟩:=List.mem_map.mp (List.mem_filter.mp ht).1
  simp [Qk]
 have en:=Q4u ok
 have z:(0:Nat)≤100000:=by omega
 simp only [Qbw,hcomp,Qy,Qbp,Qet,Qv,Qho,Qck,List.length_nil,z,if_true,Qbo,Qbn,cont,Qbm,uc2,Option.map,en,Qai,yBl]
 rw [Qr6]
 rfl
abbrev Q61:S:=.ite Qvh (.app 2 (.var 3)) .nil
def sbU (M:Tb) (ps:List Int) (i:Nat):List Int:=((List.range i).filter (hit M ps)).map fun (j:Nat)=>(j:Int)
theorem Q4w (M:Tb)(ps:List Int)(i:Nat):(sbU M ps i).length≤i:=by
 unfold sbU
 rw [List.length_map]
 have:=List.length_filter_le (hit M ps) (List.range i)
 rwa [List.length_range] at this
theorem Q1e (M:Tb)(ps:List Int)(i:Nat):sbU M ps (i+1)=if hit M ps i=true then sbU M ps i++[(i:Int)] else sbU M ps i:=by
 unfold sbU
 rw [List.range_succ,List.filter_append,List.map_append]
 by_cases h:hit M ps i=true
 ·rw [if_pos h,List.filter_cons_of_pos h];rfl
 ·rw [if_neg h,List.filter_cons_of_neg h,List.filter_nil,List.map_nil,List.append_nil]
theorem Q4x (k:Nat)(h:Sq n M)(h4:n≤4){ps:List Int}(hp:InR n ps)(hz:ps.length≤1000):∃ s,Qcp (.nm 3) (exS (cfn k) Q61) (Q3 0 M.length) [.fz (Qao M),.fz (Qq ps),.ow (.lst []),.un]=.nx [.fz (Qao M),.fz (Qq ps),.ow (.lst ((sb M ps).map T.int)),s]:=by
 obtain ⟨ρ',e,s,_,rfl⟩:=Qbv (fun j ρ=>∃ s,Qz s=true∧ρ=[.fz (Qao M),.fz (Qq ps),.ow (.lst ((sbU M ps j).map T.int)),s]) (tg:=.nm 3) (b:=exS (cfn k) Q61) (xs:=Q3 0 M.length) (n:=0) (ρ:=[.fz (Qao M),.fz (Qq ps),.ow (.lst []),.un]) ⟨.un,rfl,rfl⟩ (by
  rintro i x ρ hx ⟨s,hs,rfl⟩
  have hi:i<M.length:=by have:=(List.getElem?_eq_some_iff.mp hx).1;rwa [Q9] at this
  have hl:=h.len
  rw [Qeo hi] at hx
  cases hx
  rw [Nat.zero_add]
  have e1:=Q4v k h hp hz (j:=i) (by omega) (acc:=.lst ((sbU M ps i).map T.int))
  have l:=Q4w M ps i
  have z:(sbU M ps i).length<100000:=by omega
  refine ⟨[.fz (Qao M),.fz (Qq ps),.ow (.lst ((sbU M ps i).map T.int)),.fz (.int (0+(i:Int)))],[.fz (Qao M),.fz (Qq ps),.ow (.lst ((sbU M ps (i+1)).map T.int)),.fz (.int (0+(i:Int)))],(by cases s <;> first | rfl | cases hs),.inl ?_,.fz (.int (0+(i:Int))),rfl,rfl⟩
  rw [Qc4,e1,Q1e]
  cases hh:hit M ps i with
  | true =>
   simp only [Int.zero_add,Qas,yIf,Qjo,Slot.mut,Qc,Qb,Qm,Q2,Qrg,Qlx,frz,Qlw,List.length_map,z,List.set,if_true,List.map_append,List.map_cons,List.map_nil]
  | false=>simp only [Qas,yIf,Qdt,Bool.false_eq_true,if_false])
 rw [Q9,Nat.zero_add] at e
 exact ⟨s,e⟩
theorem Qjw (k:Nat)(h:Sq n M)(h4:n≤4){ps:List Int}(hp:InR n ps)(hz:ps.length≤1000):cfn (k+1) 18 [.fz (Qao M),.fz (Qq ps)]=.ok (.fz (Qq (sb M ps))) [.non,.non]:=by
 have hl:=h.len
 have c:M.length≤100000:=by omega
 obtain ⟨s,e⟩:=Q4x k h h4 hp hz
 show Qcq (cfn k) ⟨2,4,Qfl⟩ _=_
 rw [Qca rfl]
 show Qdu _ (exS _ Qfl [.fz (Qao M),.fz (Qq ps),.un,.un])=_
 have z0:(0:Nat)≤100000:=by decide
 simp only [Qac,Qiu,Qet,Qv,Qy,Qho,Qck,List.length_nil,z0,if_true,Qas,Qld,Qak,Qa8,List.length_cons,Nat.reduceAdd,Nat.reduceLT,Qc,Qb,List.set,Qaz,Qc5,Qd3,Qcn,Qo,Qm,Q2,yC1,yC2,yBi,Qch,Qau,cont,Out.opt,ub2,List.length_map,Qkg c,Qft,e,Qbb,Qcj,Slot.prv,ub9,Qeu,Qbe,Qbx,Qbc,Qbj,Qae,Option.map]
def Qi7 (Ms:List Tb) (D:Ct) (E:Ct) (r:List Int):Ct:=Ms.foldl (fun E M=>Qgr E (sb M r) ((D.lookup r).getD 0)) E
def Qhf (Ms:List Tb) (D:Ct):Ct:=(D.map (·.1)).foldl (Qi7 Ms D) []
def lev (Ms:List Tb) (n:Nat):Nat→Ct
 | 0=>[(upS n,1)]
 | j+1=>Qhf Ms (lev Ms n j)
theorem Qi8:∀ {Ms:List Tb} {E:Ct} {r:List Int} {v:Int},(∀ M∈Ms,Sq n M)→Good n E→Good n (Ms.foldl (fun E M=>Qgr E (sb M r) v) E)
 | [],E,r,v,_,h=>h
 | M::Ms,E,r,v,hs,h=>by
  rw [List.foldl_cons]
  refine Qi8 (fun N hN=>hs N (.tail _ hN)) (h.cadd ?_ _)
  have:=Qmf M r
  rwa [(hs M (.head _)).len] at this
theorem Qn9 (hs:∀ M∈Ms,Sq n M)(D:Ct):∀ {rs:List (List Int)} {E:Ct},Good n E→Good n (rs.foldl (Qi7 Ms D) E)
 | [],E,h=>h
 | r::rs,E,h=>by
  rw [List.foldl_cons]
  exact Qn9 hs D (Qi8 hs h)
theorem Qmg (n:Nat):Good n []:=⟨List.nodup_nil,fun k hk=>(nomatch hk)⟩
theorem Qmh (hs:∀ M∈Ms,Sq n M):∀ j,Good n (lev Ms n j)
 | 0=>⟨List.nodup_cons.mpr ⟨List.not_mem_nil,List.nodup_nil⟩,fun k hk=>by rw [List.mem_singleton.mp hk];exact List.Sublist.refl _⟩
 | j+1=>Qn9 hs _ (Qmg n)
open PySem L2
abbrev Q1f:S:=.seq (.setF 5 (.call 8 (.cons (.var 4) (.cons (.var 3) .nil)))) (.dput 2 (.var 5) (.bin .add (.dg2 (.var 2) (.var 5) (.int 0)) (.dix (.var 1) (.var 3))))
theorem Q4y (k:Nat)(h:Sq n M)(h4:n≤4){E:Ct}{r:List Int}{v:Int}(hr:St n r)(hv:D.lookup r=some v)(gE:Good n E){a s5:Slot}(o5:Qz s5=true) :
  exS (cfn (k+1)) Q1f [a,.fz (dT D),.ow (dT E),.fz (Qq r),.fz (Qao M),s5]=.nx [a,.fz (dT D),.ow (dT (Qgr E (sb M r) v)),.fz (Qq r),.fz (Qao M),.fz (Qq (sb M r))]:=by
 have e:=Qp3 k h h4 hr.1 hr.2
 have e2:exS (cfn (k+1)) (.setF 5 (.call 8 (.cons (.var 4) (.cons (.var 3) .nil)))) [a,.fz (dT D),.ow (dT E),.fz (Qq r),.fz (Qao M),s5]=.nx [a,.fz (dT D),.ow (dT E),.fz (Qq r),.fz (Qao M),.fz (Qq (sb M r))]:=by
  have e':evE (cfn (k+1)) (.call 8 (.cons (.var 4) (.cons (.var 3) .nil))) [a,.fz (dT D),.ow (dT E),.fz (Qq r),.fz (Qao M),s5]=.ok (.fz (Qq (sb M r))) [a,.fz (dT D),.ow (dT E),.fz (Qq r),.fz (Qao M),s5]:=by
   simp only [Qaj,Qo,Qm,Q2,Qc,Qb,Qy,yC1,Qv,yC2,Q6,Qx,Qag,Q1,Qaq,Qaf,e,Qa2,Qn,Q4,L2.Ql,Option.map,if_true]
  rw [Qbl,e']
  cases s5 <;> first | rfl | (cases o5;done)
 rw [Qac,e2,Qaz]
 have c1:E.length<100000:=by have:=gE.le h4;omega
 cases hs:E.lookup (sb M r) with
 | some c =>
  have pc:=Q08 (v:=v) hs
  simp only [Qpg,Qb9,Qn6,Qm,Q2,Qc,Qb,Qy,Qtl,cont,Slot.prv,Qhj,Qtk,Qah,Qtj,Qti,Qdv,Qhe,Option.map,hs,Option.getD_some,if_true,Qb2,Qvb,Q0o,Qrm,Qrl,Qrk,hv,Qb1,Qb0,Out.opt,uo1,Qas,yDp,Q0s,frz,Slot.mutD,Q0r,Q0q,Q0p,List.length_map,c1,List.set,pc]
 | none =>
  have pc:=Q09 (v:=v) hs
  simp only [Qpg,Qb9,Qn6,Qm,Q2,Qc,Qb,Qy,Qtl,cont,Slot.prv,Qhj,Qtk,Qah,Qtj,Qti,Qdv,Qhe,Option.map,hs,Option.getD_none,if_true,Qb2,Qvb,Q0o,Qrm,Qrl,Qrk,hv,Qb1,Qb0,Out.opt,uo1,Qas,yDp,Q0s,frz,Slot.mutD,Q0r,Q0q,Q0p,List.length_map,c1,List.set,pc]
theorem Qr7 (k:Nat)(h4:n≤4){r:List Int}{v:Int}(hr:St n r)(hv:D.lookup r=some v){a:Slot}:∀ (Ns:List Tb) (E:Ct) (s4 s5:Slot),(∀ M∈Ns,Sq n M)→Good n E→Qz s4=true→Qz s5=true →
  ∃ s4' s5',Qz s4'=true∧Qz s5'=true∧Qcp (.nm 4) (exS (cfn (k+1)) Q1f) (Ns.map Qao) [a,.fz (dT D),.ow (dT E),.fz (Qq r),s4,s5]=.nx [a,.fz (dT D),.ow (dT (Ns.foldl (fun E M=>Qgr E (sb M r) v) E)),.fz (Qq r),s4',s5']
 | [],E,s4,s5,_,_,o4,o5=>⟨s4,s5,o4,o5,rfl⟩
 | M::Ns,E,s4,s5,hs,gE,o4,o5=>by
  have sub:(sb M r).Sublist (upS n):=by have:=Qmf M r;rwa [(hs M (.head _)).len] at this
  have e0:Qdp (.nm 4) (Qao M) [a,.fz (dT D),.ow (dT E),.fz (Qq r),s4,s5]=some [a,.fz (dT D),.ow (dT E),.fz (Qq r),.fz (Qao M),s5]:=by cases s4 <;> first | rfl | (cases o4;done)
  have e1:=Q4y k (hs M (.head _)) h4 hr hv gE (a:=a) o5
  obtain ⟨s4',s5',p4,p5,e⟩:=Qr7 k h4 hr hv (a:=a) Ns (Qgr E (sb M r) v) (.fz (Qao M)) (.fz (Qq (sb M r))) (fun N hN=>hs N (.tail _ hN)) (gE.cadd sub v) rfl rfl
  refine ⟨s4',s5',p4,p5,?_⟩
  rw [List.map_cons,List.foldl_cons]
  unfold Qcp
  rw [e0]
  dsimp only
  rw [e1]
  exact e
abbrev Qt0:S:=.for_ (.seq (.var 0)) (.nm 4) Q1f
theorem Q1g {E:Ct}{r:List Int}{v:Int}(hv:D.lookup r=some v):Qi7 Ms D E r=Ms.foldl (fun E M=>Qgr E (sb M r) v) E:=by
 unfold Qi7
 rw [hv]
 rfl
theorem Qr8 (k:Nat)(h:Tabs n Ms)(gD:Good n D):∀ (rs:List (List Int)) (E:Ct) (s3 s4 s5:Slot),(∀ r∈rs,r∈D.map (·.1))→Good n E→Qz s3=true→Qz s4=true→Qz s5=true →
  ∃ s3' s4' s5',Qcp (.nm 3) (exS (cfn (k+1)) Qt0) (rs.map Qq) [.fz (Qf Ms),.fz (dT D),.ow (dT E),s3,s4,s5]=.nx [.fz (Qf Ms),.fz (dT D),.ow (dT (rs.foldl (Qi7 Ms D) E)),s3',s4',s5']
 | [],E,s3,s4,s5,_,_,_,_,_=>⟨s3,s4,s5,rfl⟩
 | r::rs,E,s3,s4,s5,hr,gE,o3,o4,o5=>by
  obtain ⟨v,hv⟩:=Qme (hr r (.head _))
  have st:=Qvg h.n4 (gD.sub r (hr r (.head _)))
  obtain ⟨t4,t5,p4,p5,e1⟩:=Qr7 k h.n4 st hv (a:=.fz (Qf Ms)) Ms E s4 s5 h.sq gE o4 o5
  rw [←Q1g hv] at e1
  have gE':Good n (Qi7 Ms D E r):=Qi8 h.sq gE
  have e0:Qdp (.nm 3) (Qq r) [.fz (Qf Ms),.fz (dT D),.ow (dT E),s3,s4,s5]=some [.fz (Qf Ms),.fz (dT D),.ow (dT E),.fz (Qq r),s4,s5]:=by cases s3 <;> first | rfl | (cases o3;done)
  have eb:exS (cfn (k+1)) Qt0 [.fz (Qf Ms),.fz (dT D),.ow (dT E),.fz (Qq r),s4,s5]=.nx [.fz (Qf Ms),.fz (dT D),.ow (dT (Qi7 Ms D E r)),.fz (Qq r),t4,t5]:=by
   simp only [Qc5,Qit,Qm,Q2,Qb,Qy,Qmt,Qhx,cont,Qhw,Qdb,Qgy,Qas,Qft,e1,Qbb]
  obtain ⟨s3',s4',s5',e⟩:=Qr8 k h gD rs (Qi7 Ms D E r) (.fz (Qq r)) t4 t5 (fun q hq=>hr q (.tail _ hq)) gE' rfl p4 p5
  refine ⟨s3',s4',s5',?_⟩
  rw [List.map_cons,List.foldl_cons]
  unfold Qcp
  rw [e0]
  dsimp only
  rw [eb]
  exact e
theorem Qvi (h4:n≤4)(gD:Good n D):(D.map (·.1)).all (fun k=>decide (k.length≤100000))=true:=by
 rw [List.all_eq_true]
 intro k hk
 have:=gD.klen h4 hk
 exact decide_eq_true (by omega)
theorem Q1h (k:Nat)(h:Tabs n Ms)(gD:Good n D):cfn (k+2) 10 [.fz (Qf Ms),.fz (dT D)]=.ok (.ow (dT (Qhf Ms D))) [.non,.non]:=by
 obtain ⟨s3,s4,s5,e⟩:=Qr8 k h gD (D.map (·.1)) [] .un .un .un (fun _ q=>q) (Qmg n) rfl rfl rfl
 have e:Qcp (.nm 3) (exS (cfn (k+1)) Qt0) ((D.map (·.1)).map fun k=>T.tup (k.map T.int)) [.fz (Qf Ms),.fz (dT D),.ow (.dtt [] []),.un,.un,.un]=.nx [.fz (Qf Ms),.fz (dT D),.ow (dT (Qhf Ms D)),s3,s4,s5]:=e
 have al:=Qvi h.n4 gD
 show Qcq (cfn (k+1)) ⟨2,6,Ql8⟩ _=_
 rw [Qca rfl]
 show Qdu _ (exS _ Ql8 [.fz (Qf Ms),.fz (dT D),.un,.un,.un,.un])=_
 generalize dT (Qhf Ms D)=X at e ⊢
 simp only [Qac,Qiu,Q0t,Qas,Qld,Qak,Qa8,List.length_cons,List.length_nil,Nat.reduceAdd,Nat.reduceLT,Qc,Qb,List.set,if_true,Qaz,Qc5,Q6y,Qm,Q2,Qy,yDks,al,Qft,e,Qbb,Qcj,Qeu,Qbe,Qbx,Qbc,Qbj,Qae,Option.map]
abbrev Qen (Ms:List Tb) (n m:Nat):List T:=(List.range m).map fun j=>dT (lev Ms n j)
theorem Qoa (Ms:List Tb)(n m:Nat):Qen Ms n (m+1)=Qen Ms n m++[dT (lev Ms n m)]:=by
 unfold Qen
 rw [List.range_succ,List.map_append]
 rfl
theorem Qr9 (Ms:List Tb)(n m:Nat):(Qen Ms n m).length=m:=by unfold Qen;rw [List.length_map,List.length_range]
abbrev Q62:S:=.app 2 (.call 10 (.cons (.var 0) (.cons (.ix (.var 2) (.neg (.int 1))) .nil)))
theorem Q4z (k:Nat)(h:Tabs n Ms){j:Nat}(hj:j≤1000){a s:Slot}:exS (cfn (k+2)) Q62 [.fz (Qf Ms),a,.ow (.lst (Qen Ms n (j+1))),s]=.nx [.fz (Qf Ms),a,.ow (.lst (Qen Ms n (j+1+1))),s]:=by
 have e:=Q1h k h (Qmh h.sq j)
 have at1:atI (Qen Ms n (j+1)) (-1)=some (dT (lev Ms n j)):=by rw [Qoa];exact Qxl _ _
 have z:(Qen Ms n (j+1)).length<100000:=by rw [Qr9];omega
 rw [Qoa Ms n (j+1)]
 show _=SO.nx [.fz (Qf Ms),a,.ow (.lst (Qen Ms n (j+1)++[dT (Qhf Ms (lev Ms n j))])),s]
 generalize Qen Ms n (j+1)=L at at1 z ⊢
 generalize lev Ms n j=D at e at1 ⊢
 simp only [Qjo,Slot.mut,Qc,Qb,Qaj,Qo,Qm,Q2,Qy,yC1,Qgq,Qf9,Q0b,Qah,Q4f,Int.reduceNeg,Qf8,Qf7,cont,Slot.prv,Qf6,ui1,at1,Qv,yC2,Q6,Qx,Qag,Q1,Qaq,Qaf,e,Qa2,Qn,Q4,L2.Ql,Option.map,if_true,Qas,Qrg,Qlx,frz,Qlw,z,List.set]
theorem Q1i (k:Nat)(h:Tabs n Ms)(hp:p≤1000):cfn (k+3) 11 [.fz (Qf Ms),.fz (.int p)]=.ok (.ow (.lst (Qen Ms n (p+1)))) [.non,.non]:=by
 obtain ⟨ρ',e,s,_,rfl⟩:=Qbv (fun j ρ=>∃ s,Qz s=true∧ρ=[.fz (Qf Ms),.fz (.int p),.ow (.lst (Qen Ms n (j+1))),s]) (tg:=.nm 3) (b:=exS (cfn (k+2)) Q62) (xs:=Q3 0 p) (n:=0) (ρ:=[.fz (Qf Ms),.fz (.int p),.ow (.lst (Qen Ms n 1)),.un]) ⟨.un,rfl,rfl⟩ (by
  rintro i x ρ hx ⟨s,hs,rfl⟩
  have hi:i<p:=by have:=(List.getElem?_eq_some_iff.mp hx).1;rwa [Q9] at this
  rw [Nat.zero_add]
  exact ⟨[.fz (Qf Ms),.fz (.int p),.ow (.lst (Qen Ms n (i+1))),.fz x],_,(by cases s <;> first | rfl | cases hs),.inl (Q4z k h (by omega)),.fz x,rfl,rfl⟩)
 rw [Q9,Nat.zero_add] at e
 have e1:=Qp4 (k+1) h
 have z1:(1:Nat)≤100000:=by decide
 have c:p≤100000:=by omega
 have es:exS (cfn (k+2)) (.set 2 (.lst (.cons (.d1 (.call 9 (.cons (.var 0) .nil)) (.int 1)) .nil))) [.fz (Qf Ms),.fz (.int p),.un,.un]=.nx [.fz (Qf Ms),.fz (.int p),.ow (.lst (Qen Ms n 1)),.un]:=by
  simp only [Qiu,Qet,Qo,x_d1,Qaj,Qm,Q2,Qb,Qy,yC1,Qv,yC2,Q6,Qx,Qag,Q1,Qaq,Qaf,e1,Qa2,Qn,Q4,L2.Ql,Option.map,if_true,yD1,Qah,yD1a,yD1b,Qdv,Qho,Qck,frz,List.length_cons,List.length_nil,Nat.reduceAdd,z1,Qas,Qld,Qak,Qa8,Nat.reduceLT,Qc,List.set]
  rfl
 show Qcq (cfn (k+2)) ⟨2,4,Qma⟩ _=_
 rw [Qca rfl]
 show Qdu _ (exS _ Qma [.fz (Qf Ms),.fz (.int p),.un,.un])=_
 generalize Qen Ms n (p+1)=L at e ⊢
 generalize Qen Ms n 1=L1 at e es ⊢
 simp only [Qac,es,Qaz,Qc5,Qd3,Qm,Q2,Qc,Qb,Qy,Qkg c,Qas,Qft,e,Qbb,Qcj,Qeu,Qbe,Qbx,Qbc,Qbj,Qae,Option.map]
def Qw3:T→T
 | .dtt ks ts=>(Qd0 ks ts []).getD (.int 0)
 | _=>.non
def Qap (Ms:List Tb) (n p:Nat):Int:=((lev Ms n p).lookup []).getD 0
theorem Qsa (Ms:List Tb)(n p:Nat):Qw3 (dT (lev Ms n p))=.int (Qap Ms n p):=by
 show (Qd0 _ _ []).getD (.int 0)=_
 rw [Qhe]
 unfold Qap
 cases (lev Ms n p).lookup [] <;> rfl
theorem Qsb (k:Nat)(h:Tabs n Ms)(hp:p≤1000):cfn (k+7) 12 [.fz (Qf Ms),.fz (.int p)]=.ok (.ow (.lst ((Qen Ms n (p+1)).map Qw3))) [.non,.non]:=by
 have e1:=Qi6 k h
 have e2:=Q1i (k+3) h hp
 have hw:evW (cfn (k+6)) (.seq (.call 11 (.cons (.var 0) (.cons (.var 1) .nil)))) [.fz (Qf Ms),.fz (.int p)]=.ok (Qen Ms n (p+1),none) [.fz (Qf Ms),.fz (.int p)]:=by
  generalize Qen Ms n (p+1)=L at e2 ⊢
  simp only [Qit,Qaj,Qo,Qm,Q2,Qb,Qy,yC1,Qc,Qv,yC2,Q6,Qx,Qag,Q1,Qaq,Qaf,e2,Qa2,Qn,Q4,L2.Ql,Option.map,if_true,Qmt,Qhx,cont,Qhw,Qdb,Qgy]
 have dk:Qf1 (.fz (.tup []))=some []:=Qdv []
 have z0:(0:Nat)≤100000:=by decide
 have hcomp:=Qcr (cf:=cfn (k+6)) (w:=.seq (.call 11 (.cons (.var 0) (.cons (.var 1) .nil)))) (js:=[none]) (e:=.dg2 (.var 0) (.tup .nil) (.int 0)) (ρ:=[.fz (Qf Ms),.fz (.int p)]) (rest:=[]) (f:=Qw3) hw rfl rfl rfl (fun x hx=>by
  obtain ⟨j,_,rfl⟩:=List.mem_map.mp hx
  refine ⟨.fz (Qw3 (dT (lev Ms n j))),?_,rfl⟩
  show _=Out.ok (PV.fz ((Qd0 ((lev Ms n j).map (·.1)) ((lev Ms n j).map fun p=>T.int p.2) []).getD (.int 0))) _
  simp only [Qn6,Qm,Q2,Qb,Qy,Qtl,cont,Qhj,Qj4,Qv,Qpb,Qck,List.length_nil,z0,if_true,Qtk,Qah,Qtj,Qti,dk]) (by rw [Qr9];omega)
 show Qcq (cfn (k+6)) ⟨2,2,Qg7⟩ _=_
 rw [Qca rfl]
 show Qdu _ (exS _ Qg7 [.fz (Qf Ms),.fz (.int p)])=_
 generalize (Qen Ms n (p+1)).map Qw3=L at hcomp ⊢
 simp only [Qac,Q0k,Qaj,Qo,Qm,Q2,Qb,Qy,yC1,Qv,yC2,Q6,Qx,Qag,Q1,Qaq,Qaf,e1,Qa2,Qn,Q4,L2.Ql,Option.map,if_true,Qas,Q0j,Qaz,Qcj,hcomp,Qeu,Qbe,Qbx,Qbc,Qbj,Qae]
abbrev Q1j:S:=.seq (.setF 7 (.call 18 (.cons (.var 6) (.cons (.var 5) .nil)))) (.dput 4 (.var 7) (.bin .add (.dg2 (.var 4) (.var 7) (.int 0)) (.dix (.var 2) (.var 5))))
theorem Q40 (k:Nat)(h:Sq n M)(h4:n≤4){E:Ct}{r:List Int}{v:Int}(hr:St n r)(hv:D.lookup r=some v)(gE:Good n E){a b c:Slot}(o7:Qz s7=true) :
  exS (cfn (k+1)) Q1j [a,b,.fz (dT D),c,.ow (dT E),.fz (Qq r),.fz (Qao M),s7]=.nx [a,b,.fz (dT D),c,.ow (dT (Qgr E (sb M r) v)),.fz (Qq r),.fz (Qao M),.fz (Qq (sb M r))]:=by
 have e:=Qjw k h h4 hr.1 hr.2
 have e2:exS (cfn (k+1)) (.setF 7 (.call 18 (.cons (.var 6) (.cons (.var 5) .nil)))) [a,b,.fz (dT D),c,.ow (dT E),.fz (Qq r),.fz (Qao M),s7]=.nx [a,b,.fz (dT D),c,.ow (dT E),.fz (Qq r),.fz (Qao M),.fz (Qq (sb M r))]:=by
  have e':evE (cfn (k+1)) (.call 18 (.cons (.var 6) (.cons (.var 5) .nil))) [a,b,.fz (dT D),c,.ow (dT E),.fz (Qq r),.fz (Qao M),s7]=.ok (.fz (Qq (sb M r))) [a,b,.fz (dT D),c,.ow (dT E),.fz (Qq r),.fz (Qao M),s7]:=by
   simp only [Qaj,Qo,Qm,Q2,Qc,Qb,Qy,yC1,Qv,yC2,Q6,Qx,Qag,Q1,Qaq,Qaf,e,Qa2,Qn,Q4,L2.Ql,Option.map,if_true]
  rw [Qbl,e']
  cases s7 <;> first | rfl | (cases o7;done)
 rw [Qac,e2,Qaz]
 have c1:E.length<100000:=by have:=gE.le h4;omega
 cases hs:E.lookup (sb M r) with
 | some q =>
  have pc:=Q08 (v:=v) hs
  simp only [Qpg,Qb9,Qn6,Qm,Q2,Qc,Qb,Qy,Qtl,cont,Slot.prv,Qhj,Qtk,Qah,Qtj,Qti,Qdv,Qhe,Option.map,hs,Option.getD_some,if_true,Qb2,Qvb,Q0o,Qrm,Qrl,Qrk,hv,Qb1,Qb0,Out.opt,uo1,Qas,yDp,Q0s,frz,Slot.mutD,Q0r,Q0q,Q0p,List.length_map,c1,List.set,pc]
 | none =>
  have pc:=Q09 (v:=v) hs
  simp only [Qpg,Qb9,Qn6,Qm,Q2,Qc,Qb,Qy,Qtl,cont,Slot.prv,Qhj,Qtk,Qah,Qtj,Qti,Qdv,Qhe,Option.map,hs,Option.getD_none,if_true,Qb2,Qvb,Q0o,Qrm,Qrl,Qrk,hv,Qb1,Qb0,Out.opt,uo1,Qas,yDp,Q0s,frz,Slot.mutD,Q0r,Q0q,Q0p,List.length_map,c1,List.set,pc]
theorem Qsc (k:Nat)(h4:n≤4){r:List Int}{v:Int}(hr:St n r)(hv:D.lookup r=some v){a b c:Slot}:∀ (Ns:List Tb) (E:Ct) (s6 s7:Slot),(∀ M∈Ns,Sq n M)→Good n E→Qz s6=true→Qz s7=true →
  ∃ s6' s7',Qz s6'=true∧Qz s7'=true∧Qcp (.nm 6) (exS (cfn (k+1)) Q1j) (Ns.map Qao) [a,b,.fz (dT D),c,.ow (dT E),.fz (Qq r),s6,s7]=.nx [a,b,.fz (dT D),c,.ow (dT (Ns.foldl (fun E M=>Qgr E (sb M r) v) E)),.fz (Qq r),s6',s7']
 | [],E,s6,s7,_,_,o6,o7=>⟨s6,s7,o6,o7,rfl⟩
 | M::Ns,E,s6,s7,hs,gE,o6,o7=>by
  have sub:(sb M r).Sublist (upS n):=by have:=Qmf M r;rwa [(hs M (.head _)).len] at this
  have e0:Qdp (.nm 6) (Qao M) [a,b,.fz (dT D),c,.ow (dT E),.fz (Qq r),s6,s7]=some [a,b,.fz (dT D),c,.ow (dT E),.fz (Qq r),.fz (Qao M),s7]:=by cases s6 <;> first | rfl | (cases o6;done)
  have e1:=Q40 k (hs M (.head _)) h4 hr hv gE (a:=a) (b:=b) (c:=c) o7
  obtain ⟨s6',s7',p6,p7,e⟩:=Qsc k h4 hr hv (a:=a) (b:=b) (c:=c) Ns (Qgr E (sb M r) v) (.fz (Qao M)) (.fz (Qq (sb M r))) (fun N hN=>hs N (.tail _ hN)) (gE.cadd sub v) rfl rfl
  refine ⟨s6',s7',p6,p7,?_⟩
  rw [List.map_cons,List.foldl_cons]
  unfold Qcp
  rw [e0]
  dsimp only
  rw [e1]
  exact e
abbrev Qp5:S:=.for_ (.seq (.var 0)) (.nm 6) Q1j
theorem Qsd (k:Nat)(h:Tabs n Ms)(gD:Good n D){b c:Slot}:∀ (rs:List (List Int)) (E:Ct) (s5 s6 s7:Slot),(∀ r∈rs,r∈D.map (·.1))→Good n E→Qz s5=true→Qz s6=true→Qz s7=true →
  ∃ s5' s6' s7',Qz s5'=true∧Qz s6'=true∧Qz s7'=true∧Qcp (.nm 5) (exS (cfn (k+1)) Qp5) (rs.map Qq) [.fz (Qf Ms),b,.fz (dT D),c,.ow (dT E),s5,s6,s7]=.nx [.fz (Qf Ms),b,.fz (dT D),c,.ow (dT (rs.foldl (Qi7 Ms D) E)),s5',s6',s7']
 | [],E,s5,s6,s7,_,_,o5,o6,o7=>⟨s5,s6,s7,o5,o6,o7,rfl⟩
 | r::rs,E,s5,s6,s7,hr,gE,o5,o6,o7=>by
  obtain ⟨v,hv⟩:=Qme (hr r (.head _))
  have st:=Qvg h.n4 (gD.sub r (hr r (.head _)))
  obtain ⟨t6,t7,p6,p7,e1⟩:=Qsc k h.n4 st hv (a:=.fz (Qf Ms)) (b:=b) (c:=c) Ms E s6 s7 h.sq gE o6 o7
  rw [←Q1g hv] at e1
  have gE':Good n (Qi7 Ms D E r):=Qi8 h.sq gE
  have e0:Qdp (.nm 5) (Qq r) [.fz (Qf Ms),b,.fz (dT D),c,.ow (dT E),s5,s6,s7]=some [.fz (Qf Ms),b,.fz (dT D),c,.ow (dT E),.fz (Qq r),s6,s7]:=by cases s5 <;> first | rfl | (cases o5;done)
  have eb:exS (cfn (k+1)) Qp5 [.fz (Qf Ms),b,.fz (dT D),c,.ow (dT E),.fz (Qq r),s6,s7]=.nx [.fz (Qf Ms),b,.fz (dT D),c,.ow (dT (Qi7 Ms D E r)),.fz (Qq r),t6,t7]:=by
   simp only [Qc5,Qit,Qm,Q2,Qb,Qy,Qmt,Qhx,cont,Qhw,Qdb,Qgy,Qas,Qft,e1,Qbb]
  obtain ⟨s5',s6',s7',q5,q6,q7,e⟩:=Qsd k h gD (b:=b) (c:=c) rs (Qi7 Ms D E r) (.fz (Qq r)) t6 t7 (fun q hq=>hr q (.tail _ hq)) gE' rfl p6 p7
  refine ⟨s5',s6',s7',q5,q6,q7,?_⟩
  rw [List.map_cons,List.foldl_cons]
  unfold Qcp
  rw [e0]
  dsimp only
  rw [eb]
  exact e
abbrev Qse:S:=.seq (.set 4 .dnew) (.seq (.for_ (.dks (.var 2)) (.nm 5) Qp5) (.seq (.frz 4) (.setF 2 (.var 4))))
theorem Q41 (k:Nat)(h:Tabs n Ms)(gD:Good n D){b c s5 s6:Slot}(o4:Qz s4=true)(o5:Qz s5=true)(o6:Qz s6=true)(o7:Qz s7=true) :
  ∃ s4' s5' s6' s7',Qz s4'=true∧Qz s5'=true∧Qz s6'=true∧Qz s7'=true∧exS (cfn (k+1)) Qse [.fz (Qf Ms),b,.fz (dT D),c,s4,s5,s6,s7]=.nx [.fz (Qf Ms),b,.fz (dT (Qhf Ms D)),c,s4',s5',s6',s7']:=by
 obtain ⟨t5,t6,t7,p5,p6,p7,e⟩:=Qsd k h gD (b:=b) (c:=c) (D.map (·.1)) [] s5 s6 s7 (fun _ q=>q) (Qmg n) o5 o6 o7
 have e:Qcp (.nm 5) (exS (cfn (k+1)) Qp5) ((D.map (·.1)).map fun k=>T.tup (k.map T.int)) [.fz (Qf Ms),b,.fz (dT D),c,.ow (.dtt [] []),s5,s6,s7]=.nx [.fz (Qf Ms),b,.fz (dT D),c,.ow (dT (Qhf Ms D)),t5,t6,t7]:=e
 have al:=Qvi h.n4 gD
 have es:exS (cfn (k+1)) (.set 4 .dnew) [.fz (Qf Ms),b,.fz (dT D),c,s4,s5,s6,s7]=.nx [.fz (Qf Ms),b,.fz (dT D),c,.ow (.dtt [] []),s5,s6,s7]:=by
  rw [Qiu,Q0t]
  cases s4 <;> first | rfl | (cases o4;done)
 refine ⟨.fz (dT (Qhf Ms D)),t5,t6,t7,rfl,p5,p6,p7,?_⟩
 rw [Qac,es,Qaz]
 generalize dT (Qhf Ms D)=X at e ⊢
 simp only [Qac,Qc5,Q6y,Qm,Q2,Qc,Qb,Qy,yDks,al,if_true,Qas,Qft,e,Qbb,Qaz,Q0u,Q4k,List.set,Qbl,Qd8,Qco,frz,Qak,Qa8,List.length_cons,List.length_nil,Nat.reduceAdd,Nat.reduceLT]
theorem Qw4 (k:Nat)(h:Tabs n Ms)(hp:p≤1000):cfn (k+2) 20 [.fz (Qf Ms),.fz (.int p)]=.ok (.fz (dT (lev Ms n p))) [.non,.non]:=by
 obtain ⟨ρ',e,s3,s4,s5,s6,s7,_,_,_,_,_,rfl⟩:=Qbv (fun j ρ=>∃ s3 s4 s5 s6 s7,Qz s3=true∧Qz s4=true∧Qz s5=true∧Qz s6=true∧Qz s7=true∧ρ=[.fz (Qf Ms),.fz (.int p),.fz (dT (lev Ms n j)),s3,s4,s5,s6,s7]) (tg:=.nm 3) (b:=exS (cfn (k+1)) Qse) (xs:=Q3 0 p) (n:=0) (ρ:=[.fz (Qf Ms),.fz (.int p),.fz (dT (lev Ms n 0)),.un,.un,.un,.un,.un]) ⟨.un,.un,.un,.un,.un,rfl,rfl,rfl,rfl,rfl,rfl⟩ (by
  rintro i x ρ hx ⟨s3,s4,s5,s6,s7,o3,o4,o5,o6,o7,rfl⟩
  rw [Nat.zero_add]
  obtain ⟨t4,t5,t6,t7,q4,q5,q6,q7,e1⟩:=Q41 k h (Qmh h.sq i) (b:=.fz (.int p)) (c:=.fz x) o4 o5 o6 o7
  exact ⟨[.fz (Qf Ms),.fz (.int p),.fz (dT (lev Ms n i)),.fz x,s4,s5,s6,s7],_,(by cases s3 <;> first | rfl | (cases o3;done)),.inl e1,.fz x,t4,t5,t6,t7,rfl,q4,q5,q6,q7,rfl⟩)
 rw [Q9,Nat.zero_add] at e
 obtain ⟨M0,a0,l0⟩:=Q1d h
 have n4:=h.n4
 have c:n≤100000:=by omega
 have c2:p≤100000:=by omega
 have es:exS (cfn (k+1)) (.setF 2 (.d1 (.tupR false (.bi .len (.cons (.ix (.var 0) (.int 0)) .nil))) (.int 1))) [.fz (Qf Ms),.fz (.int p),.un,.un,.un,.un,.un,.un]=.nx [.fz (Qf Ms),.fz (.int p),.fz (dT (lev Ms n 0)),.un,.un,.un,.un,.un]:=by
  simp only [Qbl,x_d1,Qpd,Qcn,Qo,Qgq,Qm,Q2,Qb,Qy,Qf9,Qah,Qf8,Qf7,cont,Qf6,ui1,a0,yC1,Qv,yC2,yBi,Qch,Qau,Out.opt,ub2,List.length_map,l0,Qrf,Int.natAbs_natCast,c,Bool.false_eq_true,Int.toNat_natCast,Qpx,if_false,if_true,yD1,yD1a,yD1b,Qdv,Qas,Qd8,Qco,frz,Qak,Qa8,List.length_cons,List.length_nil,Nat.reduceAdd,Nat.reduceLT,Qc,List.set]
  rfl
 show Qcq (cfn (k+1)) ⟨2,8,Qfm⟩ _=_
 rw [Qca rfl]
 show Qdu _ (exS _ Qfm [.fz (Qf Ms),.fz (.int p),.un,.un,.un,.un,.un,.un])=_
 generalize dT (lev Ms n p)=X at e ⊢
 generalize dT (lev Ms n 0)=X0 at e es ⊢
 simp only [Qac,es,Qaz,Qc5,Qd3,Qm,Q2,Qc,Qb,Qy,Qkg c2,Qas,Qft,e,Qbb,Qcj,Qeu,Qbe,Qbx,Qbc,Qbj,Qae,Option.map]
open PySem L2
def Qe1 (q:T):Prop:=∃ n f:Int,0≤n∧q=.lst [.int n,.int f]
theorem Qgk (k:Nat){m:Int}(h0:0<m)(h1:m.natAbs<2^64)(hq:Qe1 q):∃ r q',0≤r∧r<m∧Qe1 q'∧cfn (k+1) 15 [.ml q,.fz (.int m)]=.ok (.fz (.int r)) [q',.non]:=by
 obtain ⟨n,f,hn,rfl⟩:=hq
 have h1':m.natAbs<18446744073709551616:=h1
 have h32:(32:Int).natAbs<18446744073709551616:=by decide
 by_cases hf:f=1
 ·refine ⟨n%m,.lst [.int (n / m),.int f],Int.emod_nonneg _ (by omega),Int.emod_lt_of_pos _ h0,⟨_,_,Int.ediv_nonneg hn (by omega),rfl⟩,?_⟩
  show Qcq (cfn k) ⟨2,5,Qey⟩ _=_
  rw [Qca rfl]
  show Qdu _ (exS _ Qey [.ml (.lst [.int n,.int f]),.fz (.int m),.un,.un,.un])=_
  subst hf
  simp only [Qac,Qc4,Qbw,Qgq,Qm,Q2,Qb,Qy,Qf9,Qah,Qf8,Qf7,cont,Slot.prv,Qf6,ui1,at_1,Qbp,Qbo,Qbn,Qbm,uc1,Qee,decide_true,Qai,yBl,Qas,yIf,Qad1,Qcn,Qo,at_0,yC1,Qc,Qv,yC2,yBi,Qch,Qau,Out.opt,ub7,h0,Nat.reducePow,h1',and_self,if_true,yUnp,Qak,Qbi,Qa8,List.length_cons,List.length_nil,Nat.reduceAdd,Nat.reduceLT,List.set,Qaz,Q6w,Q4h,Q0m,frz,Slot.mut,Qu7,Q0l,Q6x,Qcj,Qeu,z_rt,Qbe,Qbx,Qbc,Qbj,Qae,Option.map]
 ·refine ⟨(((((n%2147483647+40503)*69621%2147483629)*((n%2147483647+40503)*69621%2147483629)+7817)%2147483587)*48271+11)%2147483629 / 32%m,
   .lst [.int ((((((n%2147483647+40503)*69621%2147483629)*((n%2147483647+40503)*69621%2147483629)+7817)%2147483587)*48271+11)%2147483629),.int f],Int.emod_nonneg _ (by omega),Int.emod_lt_of_pos _ h0,⟨_,_,Int.emod_nonneg _ (by decide),rfl⟩,?_⟩
  show Qcq (cfn k) ⟨2,5,Qey⟩ _=_
  rw [Qca rfl]
  show Qdu _ (exS _ Qey [.ml (.lst [.int n,.int f]),.fz (.int m),.un,.un,.un])=_
  have b1:Qd6 (n%2147483647+40503) 69621=true:=by unfold Qd6;simp
  have m1:0≤(n%2147483647+40503)*69621%2147483629:=Int.emod_nonneg _ (by decide)
  have m2:(n%2147483647+40503)*69621%2147483629<2147483629:=Int.emod_lt_of_pos _ (by decide)
  generalize hs:(n%2147483647+40503)*69621%2147483629=st at m1 m2 ⊢
  have b2:Qd6 st st=true:=by
   unfold Qd6
   simp only [Bool.or_eq_true,decide_eq_true_eq]
   exact .inl (by omega)
  have b3:∀ z,Qd6 z 48271=true:=fun z=>by unfold Qd6;simp
  simp only [Qac,Qc4,Qbw,Qgq,Qm,Q2,Qb,Qy,Qf9,Qah,Qf8,Qf7,cont,Slot.prv,Qf6,ui1,at_1,Qbp,Qbo,Qbn,Qbm,uc1,Qee,hf,decide_false,Qai,yBl,Qas,yIf,Qdt,Qaz,Qbl,Qb9,at_0,Qb2,Qb1,Qb0,Out.opt,uo8,Int.reduceLT,if_false,if_true,uo1,uo5,b1,hs,Qd8,Qco,frz,Qak,Qa8,List.length_cons,List.length_nil,Nat.reduceAdd,Nat.reduceLT,Qc,List.set,b2,Q6w,b3,Q4h,Q0m,Slot.mut,Qu7,Q0l,Q6x,Qcj,uo7,Nat.reducePow,h32,and_self,h0,Qeu,Qbe,Qbx,Qbc,Qbj,Qae,Option.map]
theorem Qaeb (k:Nat)(c:Int):∃ q,Qe1 q∧cfn (k+1) 14 [.fz (.int c)]=.ok (.ow q) [.non]:=by
 refine ⟨.lst [.int (if 0-c>c then 0-c else c),.int (if decide (10^18≤(if 0-c>c then 0-c else c))=true then 1 else 0)],⟨_,_,?_,rfl⟩,?_⟩
 ·split <;> omega
 ·have p1:(18:Int).natAbs≤1000000:=by decide
  have p2:(10:Int).natAbs<18446744073709551616:=by decide
  show Qcq (cfn k) ⟨1,2,Qju⟩ _=_
  rw [Qca rfl]
  show Qdu _ (exS _ Qju [.fz (.int c),.un])=_
  have z2:(2:Nat)≤100000:=by decide
  simp only [Qac,Qbl,Qcn,Qo,Qm,Q2,Qb,Qy,yC1,Qb9,Qah,Qb2,Qb1,Qb0,cont,Out.opt,uo4,Qv,yC2,yBi,Qch,Qau,ub6,Qas,Qd8,Qco,frz,Qak,Qa8,List.length_cons,List.length_nil,Nat.reduceAdd,Nat.reduceLT,Qc,List.set,if_true,Qaz,Qcj,Qet,Qbw,Qbp,uo9,Int.reduceLE,p1,Nat.reducePow,p2,and_self,Int.reduceToNat,Int.reducePow,Qbo,Qbn,Qbm,uc6,ub8,Qho,Qck,z2,Qeu,Qbe,Qbx,Qbc,Qbj,Qae,Option.map]
def Rows (n i:Nat) (rows:Tb):Prop:=rows.length=i∧∀ r∈rows,r.length=n∧∀ x∈r,(0:Int)≤x∧x≤1000000
theorem Rows.snoc {i:Nat}{rows:Tb}{r:List Int}(h:Rows n i rows)(hl:r.length=n)(hr:∀ x∈r,0≤x∧x≤1000000):Rows n (i+1) (rows++[r]):=by
 refine ⟨by rw [List.length_append,h.1];rfl,fun x hx=>?_⟩
 rcases List.mem_append.mp hx with hx | hx
 ·exact h.2 x hx
 ·rw [List.mem_singleton.mp hx];exact ⟨hl,hr⟩
def Q42:Slot→Bool
 | .un=>true
 | .fz _=>true
 | .ow _=>true
 | _=>false
abbrev sg (q:T) (n m:Nat) (os:List Int) (s4:Slot) (w:Int) (sF s7 sR s9 s10 s11 s12 s13:Slot):En:=[.ml q,.fz (.int n),.fz (.int m),.ow (.lst (os.map T.int)),s4,.fz (.int w),sF,s7,sR,s9,s10,s11,s12,s13]
abbrev Qt1:S:=.ins 3 (.call 15 (.cons (.var 0) (.cons (.bin .add (.var 4) (.int 1)) .nil))) (.var 4)
theorem Q1k (k:Nat){m:Nat}(h4:n≤4)(hq:Qe1 q):∃ (q':T) (os:List Int) (s4:Slot),Qcp (.nm 4) (exS (cfn (k+1)) Qt1) (Q3 0 n) [.ml q,.fz (.int n),.fz (.int m),.ow (.lst []),.un,.un,.un,.un,.un,.un,.un,.un,.un,.un] =
  .nx [.ml q',.fz (.int n),.fz (.int m),.ow (.lst (os.map T.int)),s4,.un,.un,.un,.un,.un,.un,.un,.un,.un]∧Qe1 q'∧Qz s4=true∧os.length=n∧∀ i:Nat,i<n→(i:Int)∈os:=by
 obtain ⟨ρ',e,q',os,s4,p,o,hl,hm,rfl⟩:=Qbv (fun j ρ=>∃ (q':T) (os:List Int) (s4:Slot),Qe1 q'∧Qz s4=true∧os.length=j∧(∀ i:Nat,i<j→(i:Int)∈os)∧ρ=[.ml q',.fz (.int n),.fz (.int m),.ow (.lst (os.map T.int)),s4,.un,.un,.un,.un,.un,.un,.un,.un,.un]) (tg:=.nm 4) (b:=exS (cfn (k+1)) Qt1) (xs:=Q3 0 n) (n:=0)
  (ρ:=[.ml q,.fz (.int n),.fz (.int m),.ow (.lst []),.un,.un,.un,.un,.un,.un,.un,.un,.un,.un]) ⟨q,[],.un,hq,rfl,rfl,fun i hi=>absurd hi (Nat.not_lt_zero _),rfl⟩ (by
  rintro i x ρ hx ⟨q1,os,s4,p1,o4,hl,hm,rfl⟩
  have hi:i<n:=by have:=(List.getElem?_eq_some_iff.mp hx).1;rwa [Q9] at this
  rw [Qeo hi] at hx
  cases hx
  rw [Nat.zero_add] at hl hm
  obtain ⟨r,q2,r0,r1,p2,e2⟩:=Qgk k (m:=0+(i:Int)+1) (by omega) (by omega) p1
  have ek:evE (cfn (k+1)) (.call 15 (.cons (.var 0) (.cons (.bin .add (.var 4) (.int 1)) .nil))) [.ml q1,.fz (.int n),.fz (.int m),.ow (.lst (os.map T.int)),.fz (.int (0+(i:Int))),.un,.un,.un,.un,.un,.un,.un,.un,.un]=.ok (.fz (.int r)) [.ml q2,.fz (.int n),.fz (.int m),.ow (.lst (os.map T.int)),.fz (.int (0+(i:Int))),.un,.un,.un,.un,.un,.un,.un,.un,.un]:=by
   simp only [Qaj,Qo,Qm,Q2,Qb,Qy,yC1,Qb9,Qc,Qb2,Qah,Qb1,Qb0,cont,Out.opt,uo1,Qv,yC2,Q6,Qx,List.all_cons,List.all_nil,Bool.and_true,Qag,Q1,Qaq,Qaf,e2,Qa2,Qn,Q4,L2.Ql,Option.map,if_true,List.getElem?_cons_zero,Slot.put,Nat.reduceAdd,reduceCtorEq,if_false]
  have ei:=Qad8 (cf:=cfn (k+1)) (i:=3) (e:=.var 4) (t:=.int (0+(i:Int))) (ts:=os.map T.int) (ρ2:=[.ml q2,.fz (.int n),.fz (.int m),.ow (.lst (os.map T.int)),.fz (.int (0+(i:Int))),.un,.un,.un,.un,.un,.un,.un,.un,.un]) rfl ek (by simp only [Qm,Q2,Qc,Qb]) rfl ⟨by rw [List.length_map];omega,r0,by rw [List.length_map];omega⟩
  rw [Q0w] at ei
  refine ⟨_,_,(by cases s4 <;> first | rfl | (cases o4;done)),.inl ei,q2,os.take r.toNat++(0+(i:Int))::os.drop r.toNat,.fz (.int (0+(i:Int))),p2,rfl,?_,?_,rfl⟩
  ·rw [List.length_append,List.length_cons,List.length_take,List.length_drop];omega
  ·intro j hj
   by_cases z:j=i
   ·rw [z,Int.zero_add];exact List.mem_append_right _ (.head _)
   ·have:=hm j (by omega)
    rw [←List.take_append_drop r.toNat os] at this
    rcases List.mem_append.mp this with y | y
    ·exact List.mem_append_left _ y
    ·exact List.mem_append_right _ (.tail _ y))
 rw [Q9,Nat.zero_add] at hl hm
 exact ⟨q',os,s4,e,p,o,hl,hm⟩
abbrev Qp6:S:=.setF 13 (.bi .max (.cons (.int 0) (.cons (.bin .sub (.call 15 (.cons (.var 0) (.cons (.int 4) .nil))) (.int 1)) .nil)))
abbrev Q1l:E:=.bi .int (.cons (.or (.cmp .inn (.var 12) (.var 10)) (.cmp .eq (.var 5) (.int 3))) .nil)
abbrev Qt2:S:=.app 11 (.bin .mul (.var 13) Q1l)
theorem Qaaz (k:Nat){m:Nat}{os:List Int}{w:Int}{F R:T}{s9:Slot}{la:List T}(hla:la.all (Qk 49)=true)(hq:Qe1 q){acc:List Int}(hz:acc.length≤1000){c:Int}{s13:Slot}(o13:Qz s13=true) :
  ∃ (q':T) (v:Int) (s13':Slot),Qe1 q'∧0≤v∧v≤1000000∧Qz s13'=true∧exS (cfn (k+1)) (.seq Qp6 Qt2) (sg q n m os s4 w (.ro F) s7 (.ro R) s9 (.fz (.lst la)) (.ow (.lst (acc.map T.int))) (.fz (.int c)) s13)=.nx (sg q' n m os s4 w (.ro F) s7 (.ro R) s9 (.fz (.lst la)) (.ow (.lst ((acc++[v]).map T.int))) (.fz (.int c)) s13'):=by
 obtain ⟨r,q1,r0,r1,p1,e1⟩:=Qgk k (m:=4) (by decide) (by decide) hq
 obtain ⟨b,hb⟩:∃ b,opC .inn (.int c) (.lst la)=some b:=by
  refine ⟨la.any fun u=>eqT u (.int c),?_⟩
  show (if Qk 49 (.int c)=true∧la.all (Qk 49)=true then some (la.any fun u=>eqT u (.int c)) else none)=_
  rw [if_pos ⟨rfl,hla⟩]
 have n0:0≤(if r-1>0 then r-1 else 0:Int)∧(if r-1>0 then r-1 else 0:Int)≤4:=by split <;> constructor <;> omega
 have es:exS (cfn (k+1)) Qp6 (sg q n m os s4 w (.ro F) s7 (.ro R) s9 (.fz (.lst la)) (.ow (.lst (acc.map T.int))) (.fz (.int c)) s13)=.nx (sg q1 n m os s4 w (.ro F) s7 (.ro R) s9 (.fz (.lst la)) (.ow (.lst (acc.map T.int))) (.fz (.int c)) (.fz (.int (if r-1>0 then r-1 else 0)))):=by
  have e':evE (cfn (k+1)) (.bi .max (.cons (.int 0) (.cons (.bin .sub (.call 15 (.cons (.var 0) (.cons (.int 4) .nil))) (.int 1)) .nil))) (sg q n m os s4 w (.ro F) s7 (.ro R) s9 (.fz (.lst la)) (.ow (.lst (acc.map T.int))) (.fz (.int c)) s13)=.ok (.fz (.int (if r-1>0 then r-1 else 0))) (sg q1 n m os s4 w (.ro F) s7 (.ro R) s9 (.fz (.lst la)) (.ow (.lst (acc.map T.int))) (.fz (.int c)) s13):=by
   unfold sg
   simp only [Qcn,Qo,Qah,Qy,yC1,Qb9,Qaj,Qm,Q2,Qb,Qv,yC2,Q6,Qx,List.all_cons,List.all_nil,Bool.and_true,Qag,Q1,Qaq,Qaf,e1,Qa2,Qn,Q4,L2.Ql,Option.map,if_true,List.getElem?_cons_zero,Slot.put,Nat.reduceAdd,reduceCtorEq,if_false,Qb2,Qb1,Qb0,cont,Out.opt,uo4,yBi,Qch,Qau,ub6]
  rw [Qbl,e']
  cases s13 <;> first | rfl | (cases o13;done)
 generalize (if r-1>0 then r-1 else 0:Int)=nu at n0 es
 have ef:∃ z:Int,(z=0∨z=1)∧evE (cfn (k+1)) Q1l (sg q1 n m os s4 w (.ro F) s7 (.ro R) s9 (.fz (.lst la)) (.ow (.lst (acc.map T.int))) (.fz (.int c)) (.fz (.int nu)))=.ok (.fz (.int z)) (sg q1 n m os s4 w (.ro F) s7 (.ro R) s9 (.fz (.lst la)) (.ow (.lst (acc.map T.int))) (.fz (.int c)) (.fz (.int nu))):=by
  unfold sg
  cases b with
  | true=>exact ⟨1,.inr rfl,by simp only [Qcn,Qo,Qpc,Qbw,Qm,Q2,Qc,Qb,Qy,Qbp,Qbo,Qbn,cont,Qbm,hb,Qai,yBl,yOr,yC1,Qv,yC2,yBi,Qch,Qau,Out.opt,ub8,if_true]⟩
  | false =>
   by_cases hw:w=3
   ·exact ⟨1,.inr rfl,by simp only [hw,Qcn,Qo,Qpc,Qbw,Qm,Q2,Qc,Qb,Qy,Qbp,Qbo,Qbn,cont,Qbm,hb,Qai,yBl,yOr,Qah,uc1,Qee,decide_true,yB,yC1,Qv,yC2,yBi,Qch,Qau,Out.opt,ub8,if_true]⟩
   ·exact ⟨0,.inl rfl,by simp only [Qcn,Qo,Qpc,Qbw,Qm,Q2,Qc,Qb,Qy,Qbp,Qbo,Qbn,cont,Qbm,hb,Qai,yBl,yOr,Qah,uc1,Qee,hw,decide_false,yB,yC1,Qv,yC2,yBi,Qch,Qau,Out.opt,ub8,Bool.false_eq_true,if_false]⟩
 obtain ⟨z,hz1,ef⟩:=ef
 have mo:Qd6 nu z=true:=by
  unfold Qd6
  simp only [Bool.or_eq_true,decide_eq_true_eq]
  exact .inl (by omega)
 have zl:acc.length<100000:=by omega
 refine ⟨q1,nu*z,.fz (.int nu),p1,?_,?_,rfl,?_⟩
 ·rcases hz1 with rfl | rfl <;> omega
 ·rcases hz1 with rfl | rfl <;> omega
 ·rw [Qac,es,Qaz,List.map_append]
  unfold sg at ef ⊢
  simp only [Qjo,Slot.mut,Qc,Qb,Qb9,Qm,Q2,Qy,Qb2,ef,Qb1,Qb0,cont,Out.opt,uo5,mo,if_true,Qas,Qrg,Qlx,frz,Qlw,List.length_map,zl,List.set,List.map_cons,List.map_nil]
abbrev Qvj:S:=.for_ (.rng1 (.var 1)) (.nm 12) (.seq Qp6 Qt2)
theorem Qaa0 (k:Nat){m:Nat}(h4:n≤4){os:List Int}{w:Int}{F R:T}{s9:Slot}{la:List T}(hla:la.all (Qk 49)=true)(hq:Qe1 q){s12 s13:Slot}(o12:Qz s12=true)(o13:Qz s13=true) :
  ∃ (q':T) (r:List Int) (s12' s13':Slot),Qe1 q'∧r.length=n∧(∀ x∈r,0≤x∧x≤1000000)∧Qz s12'=true∧Qz s13'=true∧exS (cfn (k+1)) Qvj (sg q n m os s4 w (.ro F) s7 (.ro R) s9 (.fz (.lst la)) (.ow (.lst [])) s12 s13)=.nx (sg q' n m os s4 w (.ro F) s7 (.ro R) s9 (.fz (.lst la)) (.ow (.lst (r.map T.int))) s12' s13'):=by
 obtain ⟨ρ',e,q',r,s12',s13',p,hl,hr,o,o',rfl⟩:=Qbv (fun j ρ=>∃ (q':T) (r:List Int) (s12' s13':Slot),Qe1 q'∧r.length=j∧(∀ x∈r,0≤x∧x≤1000000)∧Qz s12'=true∧Qz s13'=true∧ρ=sg q' n m os s4 w (.ro F) s7 (.ro R) s9 (.fz (.lst la)) (.ow (.lst (r.map T.int))) s12' s13') (tg:=.nm 12) (b:=exS (cfn (k+1)) (.seq Qp6 Qt2)) (xs:=Q3 0 n) (n:=0)
  (ρ:=sg q n m os s4 w (.ro F) s7 (.ro R) s9 (.fz (.lst la)) (.ow (.lst [])) s12 s13) ⟨q,[],s12,s13,hq,rfl,fun x hx=>(nomatch hx),o12,o13,rfl⟩ (by
  rintro i x ρ hx ⟨q1,r,t12,t13,p1,hl,hr,o,o',rfl⟩
  have hi:i<n:=by have:=(List.getElem?_eq_some_iff.mp hx).1;rwa [Q9] at this
  rw [Qeo hi] at hx
  cases hx
  rw [Nat.zero_add] at hl
  obtain ⟨q2,v,u13,p2,v0,v1,w13,e⟩:=Qaaz k (n:=n) (m:=m) (os:=os) (s4:=s4) (w:=w) (F:=F) (R:=R) (s7:=s7) (s9:=s9) hla p1 (acc:=r) (by omega) (c:=0+(i:Int)) o'
  refine ⟨_,_,(by cases t12 <;> first | rfl | (cases o;done)),.inl e,q2,r++[v],_,u13,p2,by rw [List.length_append,hl,Nat.zero_add];rfl,fun y hy=>?_,rfl,w13,rfl⟩
  rcases List.mem_append.mp hy with y' | y'
  ·exact hr y y'
  ·rw [List.mem_singleton.mp y'];exact ⟨v0,v1⟩)
 rw [Q9,Nat.zero_add] at hl
 have c:n≤100000:=by omega
 refine ⟨q',r,s12',s13',p,hl,hr,o,o',?_⟩
 unfold sg at e ⊢
 simp only [Qc5,Qd3,Qm,Q2,Qc,Qb,Qy,Qkg c,Qas,Qft,e,Qbb]
abbrev Qmi:E:=.slc (.var 3) (.cons (.bin .add (.lix 3 (.var 9)) (.int 1)) .nil) .nil
abbrev Q43:S:=.seq (.setF 10 Qmi) (.seq (.set 11 (.lst .nil)) Qvj)
theorem Q1m (k:Nat){m:Nat}(h4:n≤4){os:List Int}(hol:os.length≤1000){i:Nat}(hi:(i:Int)∈os){w:Int}{F R:T}(hq:Qe1 q){s10 s11 s12 s13:Slot}(o10:Qz s10=true)(o11:Q42 s11=true)(o12:Qz s12=true)(o13:Qz s13=true) :
  ∃ (q':T) (r:List Int) (s10' s12' s13':Slot),Qe1 q'∧r.length=n∧(∀ x∈r,0≤x∧x≤1000000)∧Qz s10'=true∧Qz s12'=true∧Qz s13'=true∧exS (cfn (k+1)) Q43 (sg q n m os s4 w (.ro F) s7 (.ro R) (.fz (.int i)) s10 s11 s12 s13)=.nx (sg q' n m os s4 w (.ro F) s7 (.ro R) (.fz (.int i)) s10' (.ow (.lst (r.map T.int))) s12' s13'):=by
 obtain ⟨j,hj⟩:=Q0v hi hol
 have ei:evE (cfn (k+1)) (.lix 3 (.var 9)) (sg q n m os s4 w (.ro F) s7 (.ro R) (.fz (.int i)) s10 s11 s12 s13)=.ok (.fz (.int j)) (sg q n m os s4 w (.ro F) s7 (.ro R) (.fz (.int i)) s10 s11 s12 s13):=Qad7 rfl (by unfold sg;simp only [Qm,Q2,Qc,Qb]) hj
 have e1:exS (cfn (k+1)) (.setF 10 Qmi) (sg q n m os s4 w (.ro F) s7 (.ro R) (.fz (.int i)) s10 s11 s12 s13)=.nx (sg q n m os s4 w (.ro F) s7 (.ro R) (.fz (.int i)) (.fz (.lst (Qgp (os.map T.int) (some (j+1)) none))) s11 s12 s13):=by
  have e':evE (cfn (k+1)) Qmi (sg q n m os s4 w (.ro F) s7 (.ro R) (.fz (.int i)) s10 s11 s12 s13)=.ok (.ow (.lst (Qgp (os.map T.int) (some (j+1)) none))) (sg q n m os s4 w (.ro F) s7 (.ro R) (.fz (.int i)) s10 s11 s12 s13):=by
   unfold sg at ei ⊢
   simp only [Qu5,Qm,Q2,Qc,Qb,Qy,Q0g,Qo,Qb9,ei,Qb2,Qah,Qb1,Qb0,cont,Out.opt,uo1,yC1,Qv,yC2,Q0f,Qre,Qke,Q0e,Qrd,Q0d,Slot.prv,ui3]
  rw [Qbl,e']
  cases s10 <;> first | rfl | (cases o10;done)
 have hla:(Qgp (os.map T.int) (some (j+1)) none).all (Qk 49)=true:=by
  rw [List.all_eq_true]
  intro t ht
  unfold Qgp at ht
  obtain ⟨y,_,rfl⟩:=List.mem_map.mp (List.mem_of_mem_drop (List.mem_of_mem_take ht))
  rfl
 generalize Qgp (os.map T.int) (some (j+1)) none=la at hla e1
 have e2:exS (cfn (k+1)) (.set 11 (.lst .nil)) (sg q n m os s4 w (.ro F) s7 (.ro R) (.fz (.int i)) (.fz (.lst la)) s11 s12 s13)=.nx (sg q n m os s4 w (.ro F) s7 (.ro R) (.fz (.int i)) (.fz (.lst la)) (.ow (.lst [])) s12 s13):=by
  cases s11 <;> first | rfl | (cases o11;done)
 obtain ⟨q',r,t12,t13,p,hl,hr,o,o',e3⟩:=Qaa0 k (m:=m) h4 (os:=os) (s4:=s4) (w:=w) (F:=F) (R:=R) (s7:=s7) (s9:=.fz (.int i)) hla hq o12 o13
 refine ⟨q',r,.fz (.lst la),t12,t13,p,hl,hr,rfl,o,o',?_⟩
 rw [Qac,e1,Qaz,Qac,e2,Qaz,e3]
theorem Qvk (k:Nat){m:Nat}(h4:n≤4){os:List Int}(hol:os.length≤1000)(hos:∀ i:Nat,i<n→(i:Int)∈os){w:Int}(hq:Qe1 q){s9 s10 s11 s12 s13:Slot}(o9:Qz s9=true)(o10:Qz s10=true)(o11:Q42 s11=true)(o12:Qz s12=true)(o13:Qz s13=true) :
  ∀ j,j≤n→∃ (R:Tb) (q':T) (t9 t10 t11 t12 t13:Slot),Qe1 q'∧Rows n j R∧Qz t9=true∧Qz t10=true∧Q42 t11=true∧Qz t12=true∧Qz t13=true ∧
   Qe5 (exS (cfn (k+1)) Q43) 6 8 11 9 Ms [] (sg q n m os s4 w (.ow (.lst (Ms.map Qj))) s7 (.ow (.lst [])) s9 s10 s11 s12 s13) j=some (R,sg q' n m os s4 w (.ow (.lst (Ms.map Qj))) s7 (.ow (.lst (R.map Qav))) t9 t10 t11 t12 t13)
 | 0,_=>⟨[],q,s9,s10,s11,s12,s13,hq,⟨rfl,fun r hr=>(nomatch hr)⟩,o9,o10,o11,o12,o13,rfl⟩
 | j+1,hj=>by
  obtain ⟨R,q1,t9,t10,t11,t12,t13,p1,hR,p9,p10,p11,p12,p13,e⟩:=Qvk k h4 hol hos hq o9 o10 o11 o12 o13 j (by omega)
  obtain ⟨q2,r,u10,u12,u13,p2,hl,hr,w10,w12,w13,eb⟩:=Q1m k (m:=m) h4 hol (hos j (by omega)) (s4:=s4) (w:=w) (F:=.lst (Ms.map Qj)) (R:=.lst (R.map Qav)) (s7:=s7) p1 p10 p11 p12 p13
  refine ⟨R++[r],q2,.fz (.int j),u10,.fz (Qav r),u12,u13,p2,hR.snoc hl hr,rfl,w10,rfl,w12,w13,?_⟩
  rw [Qtm e (by show 9<14;decide)]
  exact Q4l (is:=r) (ρ1:=sg q2 n m os s4 w (.ro (.lst (Ms.map Qj))) s7 (.ro (.lst (R.map Qav))) (.fz (.int j)) u10 (.ow (.lst (r.map T.int))) u12 u13) eb rfl rfl rfl ⟨by omega,by have:=hR.1;show R.length<1000;omega⟩
theorem Qvl (k:Nat){m:Nat}(h4:n≤4)(hm:m≤4){os:List Int}(hol:os.length≤1000)(hos:∀ i:Nat,i<n→(i:Int)∈os){w:Int}(hq:Qe1 q) :
  ∀ j,j≤m→∃ (Ms:List Tb) (q':T) (t7 t8 t9 t10 t11 t12 t13:Slot),Qe1 q'∧Ms.length=j∧(∀ M∈Ms,Rows n n M)∧Qz t7=true∧Qz t8=true∧Qz t9=true∧Qz t10=true∧Q42 t11=true∧Qz t12=true∧Qz t13=true ∧
   Qe6 (exS (cfn (k+1)) (.set 8 (.lst .nil))) (exS (cfn (k+1)) Q43) 6 8 11 9 1 7 (sg q n m os s4 w (.ow (.lst [])) .un .un .un .un .un .un .un) j=some (Ms,sg q' n m os s4 w (.ow (.lst (Ms.map Qj))) t7 t8 t9 t10 t11 t12 t13)
 | 0,_=>⟨[],q,.un,.un,.un,.un,.un,.un,.un,hq,rfl,fun r hr=>(nomatch hr),rfl,rfl,rfl,rfl,rfl,rfl,rfl,rfl⟩
 | j+1,hj=>by
  obtain ⟨Ms,q1,t7,t8,t9,t10,t11,t12,t13,p1,hl,hs,p7,p8,p9,p10,p11,p12,p13,e⟩:=Qvl k h4 hm hol hos hq j (by omega)
  obtain ⟨R,q2,u9,u10,u11,u12,u13,p2,hR,w9,w10,w11,w12,w13,eR⟩:=Qvk k (m:=m) h4 hol hos (s4:=s4) (w:=w) (Ms:=Ms) (s7:=.fz (.int j)) p1 p9 p10 p11 p12 p13 n (Nat.le_refl _)
  refine ⟨Ms++[R],q2,.fz (.int j),.fz (Qj R),u9,u10,u11,u12,u13,p2,by rw [List.length_append,hl];rfl,fun M hM=>?_,rfl,rfl,w9,w10,w11,w12,w13,?_⟩
  ·rcases List.mem_append.mp hM with z | z
   ·exact hs M z
   ·rw [List.mem_singleton.mp z];exact hR
  ·rw [Qtn e (by show 7<14;decide)]
   exact Q4m (j:=(n:Int)) (ρ1:=sg q1 n m os s4 w (.ro (.lst (Ms.map Qj))) (.fz (.int j)) (.ow (.lst [])) t9 t10 t11 t12 t13) (by cases t8 <;> first | rfl | (cases p8;done)) rfl rfl rfl (by omega) eR ⟨by have:=hR.1;show R.length≤1000;omega,by show Ms.length<1000;omega⟩
theorem Q1n (h:Rows n n M){x y:Nat}{is:List Int}{v:Int}(hx:M[x]?=some is)(v0:0≤v)(v1:v≤1000000):Rows n n (M.set x (is.set y v)):=by
 refine ⟨by rw [List.length_set];exact h.1,fun r hr=>?_⟩
 rcases List.mem_or_eq_of_mem_set hr with z | z
 ·exact h.2 r z
 ·rw [z]
  obtain ⟨l,hv⟩:=h.2 is (List.mem_of_getElem? hx)
  refine ⟨by rw [List.length_set];exact l,fun a ha=>?_⟩
  rcases List.mem_or_eq_of_mem_set ha with z | z
  ·exact hv a z
  ·rw [z];exact ⟨v0,v1⟩
theorem Q63 {j:Int}(h0:0≤j)(h1:j<n):ixN n j=some j.toNat:=by
 unfold ixN
 rw [if_pos h0,if_pos h1]
theorem Q1o (h:Qe1 q):Qbt (.ml q)=.ml q:=by
 obtain ⟨a,b,_,rfl⟩:=h
 rfl
abbrev Q44:S:=.nest 6 8 11 9 1 7 2 (.set 8 (.lst .nil)) Q43 (.cmp .eq (.var 5) (.int 2)) (.bin .add (.int 1) (.call 15 (.cons (.var 0) (.cons (.int 9) .nil)))) (.call 15 (.cons (.var 0) (.cons (.var 1) .nil))) (.call 15 (.cons (.var 0) (.cons (.var 1) .nil)))
theorem Qaa1 (k:Nat){m:Nat}(h1:1≤n)(h4:n≤4)(m1:1≤m)(hm:m≤4){os:List Int}(hol:os.length≤1000)(hos:∀ i:Nat,i<n→(i:Int)∈os)(o4:Qz s4=true){w:Int}(hq:Qe1 q) :
  ∃ (Ms:List Tb) (q':T) (s1 s2 s3 s4' s5 s7 s8 s9 s10 s11 s12 s13:Slot),Qe1 q'∧Ms.length=m∧(∀ M∈Ms,Rows n n M)∧exS (cfn (k+1)) Q44 (sg q n m os s4 w (.ow (.lst [])) .un .un .un .un .un .un .un)=.nx [.ml q',s1,s2,s3,s4',s5,.ow (.lst (Ms.map Qj)),s7,s8,s9,s10,s11,s12,s13]:=by
 obtain ⟨Ms,q1,t7,t8,t9,t10,t11,t12,t13,p1,hl,hs,p7,p8,p9,p10,p11,p12,p13,e⟩:=Qvl k h4 hm hol hos (s4:=s4) (w:=w) hq m (Nat.le_refl _)
 have ec:Qab (evE (cfn (k+1)) (.cmp .eq (.var 5) (.int 2)) (sg q1 n m os s4 w (.ro (.lst (Ms.map Qj))) t7 t8 t9 t10 t11 t12 t13))=.ok (decide (w=2)) (sg q1 n m os s4 w (.ro (.lst (Ms.map Qj))) t7 t8 t9 t10 t11 t12 t13):=by
  unfold sg
  simp only [Qbw,Qm,Q2,Qc,Qb,Qy,Qbp,Qah,Qbo,Qbn,cont,Qbm,uc1,Qee,Qai,yBl]
 by_cases hw:w=2
 ·rw [decide_eq_true hw] at ec
  obtain ⟨v,q2,v0,v1,p2,e2⟩:=Qgk k (m:=9) (by decide) (by decide) p1
  obtain ⟨a,q3,a0,a1,p3,e3⟩:=Qgk k (m:=(n:Int)) (by omega) (by omega) p2
  obtain ⟨b,q4,b0,b1,p4,e4⟩:=Qgk k (m:=(n:Int)) (by omega) (by omega) p3
  cases Ms with
  | nil=>rw [List.length_nil] at hl;omega
  | cons M Ms =>
   have hM:=hs M (.head _)
   have hx:a.toNat<M.length:=by rw [hM.1];omega
   have hr:=hM.2 _ (List.getElem_mem hx)
   have c1:(M::Ms).length≤1000:=by omega
   have f0:evE (cfn (k+1)) (.bin .add (.int 1) (.call 15 (.cons (.var 0) (.cons (.int 9) .nil)))) (sg q1 n m os s4 w (.ro (.lst ((M::Ms).map Qj))) t7 t8 t9 t10 t11 t12 t13)=.ok (.fz (.int (1+v))) (sg q2 n m os s4 w (.ro (.lst ((M::Ms).map Qj))) t7 t8 t9 t10 t11 t12 t13):=by
    unfold sg
    generalize (M::Ms).map Qj=X
    simp only [Qb9,Qah,Qy,Qb2,Qaj,Qo,Qm,Q2,Qb,yC1,Qv,yC2,Q6,Qx,List.all_cons,List.all_nil,Bool.and_true,Qag,Q1,Qaq,Qaf,e2,Qa2,Qn,Q4,L2.Ql,Option.map,if_true,List.getElem?_cons_zero,Slot.put,Nat.reduceAdd,reduceCtorEq,if_false,Qb1,Qb0,cont,Out.opt,uo1]
   have f1:evE (cfn (k+1)) (.call 15 (.cons (.var 0) (.cons (.var 1) .nil))) (sg q2 n m os s4 w (.ro (.lst ((M::Ms).map Qj))) t7 t8 t9 t10 t11 t12 t13)=.ok (.fz (.int a)) (sg q3 n m os s4 w (.ro (.lst ((M::Ms).map Qj))) t7 t8 t9 t10 t11 t12 t13):=by
    unfold sg
    generalize (M::Ms).map Qj=X
    simp only [Qaj,Qo,Qm,Q2,Qb,Qy,yC1,Qc,Qv,yC2,Q6,Qx,List.all_cons,List.all_nil,Bool.and_true,Qag,Q1,Qaq,Qaf,e3,Qa2,Qn,Q4,L2.Ql,Option.map,if_true,List.getElem?_cons_zero,Slot.put,Nat.reduceAdd,reduceCtorEq,if_false]
   have f2:evE (cfn (k+1)) (.call 15 (.cons (.var 0) (.cons (.var 1) .nil))) (sg q3 n m os s4 w (.ro (.lst ((M::Ms).map Qj))) t7 t8 t9 t10 t11 t12 t13)=.ok (.fz (.int b)) (sg q4 n m os s4 w (.ro (.lst ((M::Ms).map Qj))) t7 t8 t9 t10 t11 t12 t13):=by
    unfold sg
    generalize (M::Ms).map Qj=X
    simp only [Qaj,Qo,Qm,Q2,Qb,Qy,yC1,Qc,Qv,yC2,Q6,Qx,List.all_cons,List.all_nil,Bool.and_true,Qag,Q1,Qaq,Qaf,e4,Qa2,Qn,Q4,L2.Ql,Option.map,if_true,List.getElem?_cons_zero,Slot.put,Nat.reduceAdd,reduceCtorEq,if_false]
   have ep:=Q4n (fV:=evE (cfn (k+1)) (.bin .add (.int 1) (.call 15 (.cons (.var 0) (.cons (.int 9) .nil))))) (f1:=evE (cfn (k+1)) (.call 15 (.cons (.var 0) (.cons (.var 1) .nil)))) (f2:=evE (cfn (k+1)) (.call 15 (.cons (.var 0) (.cons (.var 1) .nil)))) (iF:=6) (ρ:=sg q1 n m os s4 w (.ow (.lst ((M::Ms).map Qj))) t7 t8 t9 t10 t11 t12 t13) (is:=M[a.toNat]) (y:=b.toNat) c1 f0 rfl f1 rfl f2 rfl (Q63 a0 (by rw [hM.1];omega)) (List.getElem?_eq_getElem hx) (Q63 b0 (by rw [hr.1];omega))
   refine ⟨M.set a.toNat ((M[a.toNat]).set b.toNat (1+v))::Ms,q4,.un,.un,.un,Qbt s4,.un,Qbt t7,Qbt t8,Qbt t9,Qbt t10,Qbt t11,Qbt t12,Qbt t13,p4,hl,fun N hN=>?_,?_⟩
   ·rcases List.mem_cons.mp hN with z | z
    ·rw [z];exact Q1n hM (List.getElem?_eq_getElem hx) (by omega) (by omega)
    ·exact hs N (.tail _ z)
   ·rw [Q0x,Q4o (fc:=fun ρ=>Qab (evE (cfn (k+1)) (.cmp .eq (.var 5) (.int 2)) ρ)) (iN:=2) (n:=(m:Int)) (ρ2:=sg q1 n m os s4 w (.ro (.lst ((M::Ms).map Qj))) t7 t8 t9 t10 t11 t12 t13) rfl rfl (by omega) e (by show (M::Ms).length≤1000;omega) ec rfl ep]
    show SO.nx (Qbt (.ml q4)::_)=_
    rw [Q1o p4]
    rfl
 ·rw [decide_eq_false hw] at ec
  refine ⟨Ms,q1,.fz (.int n),.fz (.int m),.ow (.lst (os.map T.int)),s4,.fz (.int w),t7,t8,t9,t10,t11,t12,t13,p1,hl,hs,?_⟩
  rw [Q0x,Q4p (fc:=fun ρ=>Qab (evE (cfn (k+1)) (.cmp .eq (.var 5) (.int 2)) ρ)) (iN:=2) (n:=(m:Int)) (ρ2:=sg q1 n m os s4 w (.ro (.lst (Ms.map Qj))) t7 t8 t9 t10 t11 t12 t13) rfl rfl (by omega) e (by show Ms.length≤1000;omega) ec rfl]
  rfl
def Qsf:T→T
 | .lst ts=>.tup ts
 | _=>.non
def Q64:T→T
 | .lst ts=>.tup (ts.map Qsf)
 | _=>.non
theorem Q1p (Ms:List Tb):(Ms.map Qj).map Q64=Ms.map Qao:=by
 rw [List.map_map]
 refine List.map_congr_left fun M _=>?_
 show T.tup ((M.map Qav).map Qsf)=_
 rw [List.map_map]
 rfl
abbrev Q1q:E:=.bi .tup (.cons (.comp (.seq (.var 0)) [none] (.nm 0) .nil (.bi .tup (.cons (.var 0) .nil))) .nil)
theorem Qaa2 (k:Nat)(h4:n≤4)(hl:Ms.length≤4)(hs:∀ M∈Ms,Rows n n M){s1 s2 s3 s5 s8 s9 s10 s11 s12 s13:Slot} :
  exS (cfn k) (.seq (.frz 6) (.ret (.comp (.seq (.var 6)) [none] (.nm 0) .nil Q1q))) [.ml q,s1,s2,s3,s4,s5,.ow (.lst (Ms.map Qj)),s7,s8,s9,s10,s11,s12,s13]=.rt (.ow (Qf Ms)) [.ml q,s1,s2,s3,s4,s5,.fz (.lst (Ms.map Qj)),s7,s8,s9,s10,s11,s12,s13]:=by
 have hcomp:=Qcr (cf:=cfn k) (w:=.seq (.var 6)) (js:=[none]) (e:=Q1q) (ρ:=[.ml q,s1,s2,s3,s4,s5,.fz (.lst (Ms.map Qj)),s7,s8,s9,s10,s11,s12,s13]) (rest:=[]) (xs:=Ms.map Qj) (f:=Q64) rfl rfl rfl rfl (fun x hx=>by
  obtain ⟨M,hM,rfl⟩:=List.mem_map.mp hx
  have hR:=hs M hM
  have hin:=Qcr (cf:=cfn k) (w:=.seq (.var 0)) (js:=[none]) (e:=.bi .tup (.cons (.var 0) .nil)) (ρ:=[.fz (Qj M)]) (rest:=[]) (xs:=M.map Qav) (f:=Qsf) rfl rfl rfl rfl (fun y hy=>by
   obtain ⟨r,_,rfl⟩:=List.mem_map.mp hy
   exact ⟨.fz (.tup (r.map T.int)),rfl,rfl⟩) (by rw [List.length_map,hR.1];omega)
  refine ⟨.fz (.tup ((M.map Qav).map Qsf)),?_,rfl⟩
  generalize (M.map Qav).map Qsf=L at hin ⊢
  simp only [Qcn,Qo,hin,Qy,yC1,Qv,yC2,yBi,Qch,Qau,cont,Out.opt,ub9]) (by rw [List.length_map];omega)
 rw [Q1p] at hcomp
 show _=SO.rt (.ow (.lst (Ms.map Qao))) _
 generalize Ms.map Qao=L at hcomp ⊢
 generalize Ms.map Qj=L' at hcomp ⊢
 simp only [Qac,Q0u,Q4k,Qc,Qb,List.set,Qaz,Qcj,hcomp,Qas,Qeu]
theorem Q45 (k:Nat)(hq:Qe1 q):∃ n Ms q',Tabs n Ms∧Qe1 q'∧cfn (k+2) 17 [.ml q]=.ok (.ow (Qf Ms)) [q']:=by
 obtain ⟨r1,q1,a0,a1,p1,e1⟩:=Qgk k (m:=4) (by decide) (by decide) hq
 obtain ⟨r2,q2,b0,b1,p2,e2⟩:=Qgk k (m:=3) (by decide) (by decide) p1
 obtain ⟨n,hn⟩:=Int.eq_ofNat_of_zero_le (show 0≤1+r1 by omega)
 obtain ⟨m,hm⟩:=Int.eq_ofNat_of_zero_le (show 0≤1+r2 by omega)
 obtain ⟨q3,os,s4,e3,p3,o4,hol,hos⟩:=Q1k k (n:=n) (m:=m) (by omega) p2
 obtain ⟨w,q4,w0,w1,p4,e4⟩:=Qgk k (m:=4) (by decide) (by decide) p3
 obtain ⟨Ms,q5,s1,s2,s3,s4',s5,s7,s8,s9,s10,s11,s12,s13,p5,hl,hs,e5⟩:=Qaa1 k (show 1≤n by omega) (show n≤4 by omega) (show 1≤m by omega) (show m≤4 by omega) (os:=os) (by omega) hos o4 (w:=w) p4
 have e6:=Qaa2 (k+1) (n:=n) (by omega) (Ms:=Ms) (by omega) hs (q:=q5) (s1:=s1) (s2:=s2) (s3:=s3) (s4:=s4') (s5:=s5) (s7:=s7) (s8:=s8) (s9:=s9) (s10:=s10) (s11:=s11) (s12:=s12) (s13:=s13)
 refine ⟨n,Ms,q5,⟨by omega,by omega,by omega,by omega,fun M hM=>?_⟩,p5,?_⟩
 ·have hR:=hs M hM
  exact ⟨hR.1,fun r hr=>(hR.2 r hr).1,fun r hr x hx=>((hR.2 r hr).2 x hx).1,fun r hr x hx=>by have:=(hR.2 r hr).2 x hx;omega⟩
 ·have c:n≤100000:=by omega
  have z0:(0:Nat)≤100000:=by decide
  show Qcq (cfn (k+1)) ⟨1,14,Qg9⟩ _=_
  rw [Qca rfl]
  show Qdu _ (exS _ Qg9 [.ml q,.un,.un,.un,.un,.un,.un,.un,.un,.un,.un,.un,.un,.un])=_
  have ea:exS (cfn (k+1)) (.par 1 2 (.bin .add (.int 1) (.call 15 (.cons (.var 0) (.cons (.int 4) .nil)))) (.bin .add (.int 1) (.call 15 (.cons (.var 0) (.cons (.int 3) .nil))))) [.ml q,.un,.un,.un,.un,.un,.un,.un,.un,.un,.un,.un,.un,.un]=.nx [.ml q2,.fz (.int n),.fz (.int m),.un,.un,.un,.un,.un,.un,.un,.un,.un,.un,.un]:=by
   simp only [Qad2,Qb9,Qah,Qy,Qb2,Qaj,Qo,Qm,Q2,Qb,yC1,Qv,yC2,Q6,Qx,List.all_cons,List.all_nil,Bool.and_true,Qag,Q1,Qaq,Qaf,e1,Qa2,Qn,Q4,L2.Ql,Option.map,if_true,List.getElem?_cons_zero,Slot.put,Nat.reduceAdd,reduceCtorEq,if_false,Qb1,Qb0,cont,Out.opt,uo1,hn,Qas,Q6u,e2,hm,Q6t,Qak,Qbi,Qa8,List.length_cons,List.length_nil,Nat.reduceLT,Qc,List.set]
  have eb:exS (cfn (k+1)) (.seq (.set 3 (.lst .nil)) (.for_ (.rng1 (.var 1)) (.nm 4) Qt1)) [.ml q2,.fz (.int n),.fz (.int m),.un,.un,.un,.un,.un,.un,.un,.un,.un,.un,.un]=.nx [.ml q3,.fz (.int n),.fz (.int m),.ow (.lst (os.map T.int)),s4,.un,.un,.un,.un,.un,.un,.un,.un,.un]:=by
   simp only [Qac,Qiu,Qet,Qv,Qy,Qho,Qck,List.length_nil,z0,if_true,Qas,Qld,Qak,Qa8,List.length_cons,Nat.reduceAdd,Nat.reduceLT,Qc,Qb,List.set,Qaz,Qc5,Qd3,Qm,Q2,Qkg c,Qft,e3,Qbb]
  have ed:exS (cfn (k+1)) (.seq (.setF 5 (.call 15 (.cons (.var 0) (.cons (.int 4) .nil)))) (.set 6 (.lst .nil))) [.ml q3,.fz (.int n),.fz (.int m),.ow (.lst (os.map T.int)),s4,.un,.un,.un,.un,.un,.un,.un,.un,.un]=.nx (sg q4 n m os s4 w (.ow (.lst [])) .un .un .un .un .un .un .un):=by
   unfold sg
   simp only [Qac,Qbl,Qaj,Qo,Qm,Q2,Qb,Qy,yC1,Qah,Qv,yC2,Q6,Qx,List.all_cons,List.all_nil,Bool.and_true,Qag,Q1,Qaq,Qaf,e4,Qa2,Qn,Q4,L2.Ql,Option.map,if_true,List.getElem?_cons_zero,Slot.put,Nat.reduceAdd,reduceCtorEq,if_false,Qas,Qd8,Qco,frz,Qak,Qa8,List.length_cons,List.length_nil,Nat.reduceLT,Qc,List.set,Qaz,Qiu,Qet,Qho,Qck,z0,Qld]
  rw [Qac] at eb ed
  rw [Qac,ea,Qaz,Qac]
  cases x1:exS (cfn (k+1)) (.set 3 (.lst .nil)) [.ml q2,.fz (.int n),.fz (.int m),.un,.un,.un,.un,.un,.un,.un,.un,.un,.un,.un] with
  | nx ρ1 =>
   rw [x1,Qaz] at eb
   rw [Qaz,Qac,eb,Qaz,Qac]
   cases x2:exS (cfn (k+1)) (.setF 5 (.call 15 (.cons (.var 0) (.cons (.int 4) .nil)))) [.ml q3,.fz (.int n),.fz (.int m),.ow (.lst (os.map T.int)),s4,.un,.un,.un,.un,.un,.un,.un,.un,.un] with
   | nx ρ2 =>
    rw [x2,Qaz] at ed
    rw [Qaz,Qac,ed,Qaz,Qac,e5,Qaz,e6]
    generalize Qf Ms=X
    simp only [Qbe,Qbx,Qbc,Qbj,Qae,Option.map]
   | _=>rw [x2] at ed;cases ed
  | _=>rw [x1] at eb;cases eb
open PySem L2
abbrev Wy:=List Int×List Int
abbrev tbl (Ms:List Tb) (i:Nat):Tb:=Ms.getD i []
def Qd5 (Ms:List Tb) (p:Wy):List Wy:=(List.range Ms.length).map fun (i:Nat)=>(p.1++[(i:Int)],sb (tbl Ms i) p.2)
def wys (Ms:List Tb) (n:Nat):Nat→List Wy
 | 0=>[([],upS n)]
 | j+1=>(wys Ms n j).flatMap (Qd5 Ms)
theorem Qmj (Ms:List Tb)(p:Wy):(Qd5 Ms p).length=Ms.length:=by unfold Qd5;rw [List.length_map,List.length_range]
theorem Qjx (Ms:List Tb):∀ L:List Wy,(L.flatMap (Qd5 Ms)).length=L.length*Ms.length
 | []=>by simp
 | p::L=>by rw [List.flatMap_cons,List.length_append,Qmj,Qjx Ms L,List.length_cons,Nat.add_mul,Nat.one_mul,Nat.add_comm]
theorem Qvm (Ms:List Tb)(n:Nat):∀ j,(wys Ms n j).length=Ms.length^j
 | 0=>rfl
 | j+1=>by rw [wys,Qjx,Qvm Ms n j,Nat.pow_succ]
theorem Q1r (h4:Ms.length≤4){j:Nat}(hj:j≤5):(wys Ms n j).length≤1024:=by
 rw [Qvm]
 exact Nat.le_trans (Nat.pow_le_pow_left h4 j) (Nat.le_trans (Nat.pow_le_pow_right (by decide) hj) (by decide))
theorem Qt3 (h:Tabs n Ms){i:Nat}(hi:i<Ms.length):atI (Ms.map Qao) (i:Int)=some (Qao (tbl Ms i))∧Sq n (tbl Ms i):=by
 obtain ⟨a,q⟩:=Qi5 h hi
 have e:tbl Ms i=Ms[i]:=by unfold tbl;rw [List.getD_eq_getElem?_getD,List.getElem?_eq_getElem hi,Option.getD_some]
 rw [e]
 exact ⟨a,q⟩
theorem Q46 (Ms:List Tb)(f:Tb→List Int):(List.range Ms.length).map (fun i=>f (tbl Ms i))=Ms.map f:=by
 apply List.ext_getElem?
 intro i
 rw [List.getElem?_map,List.getElem?_map]
 by_cases hi:i<Ms.length
 ·rw [List.getElem?_range hi,List.getElem?_eq_getElem hi]
  show some (f (tbl Ms i))=some (f Ms[i])
  unfold tbl
  rw [List.getD_eq_getElem?_getD,List.getElem?_eq_getElem hi,Option.getD_some]
 ·rw [List.getElem?_eq_none (by rw [List.length_range];omega),List.getElem?_eq_none (by omega)]
  rfl
theorem Qp7 (h:Tabs n Ms):∀ j,∀ p∈wys Ms n j,p.2.Sublist (upS n)∧p.1.length=j∧∀ a∈p.1,∃ i:Nat,i<Ms.length∧a=(i:Int)
 | 0,p,hp=>by rw [List.mem_singleton.mp hp];exact ⟨List.Sublist.refl _,rfl,fun a ha=>(nomatch ha)⟩
 | j+1,p,hp=>by
  obtain ⟨q,hq,hp⟩:=List.mem_flatMap.mp hp
  obtain ⟨i,hi,rfl⟩:=List.mem_map.mp hp
  have hi:=List.mem_range.mp hi
  obtain ⟨_,l,ha⟩:=Qp7 h j q hq
  refine ⟨?_,by rw [List.length_append,l];rfl,fun a h1=>?_⟩
  ·have:=Qmf (tbl Ms i) q.2
   rwa [(Qt3 h hi).2.len] at this
  ·rcases List.mem_append.mp h1 with z | z
   ·exact ha a z
   ·exact ⟨i,hi,List.mem_singleton.mp z⟩
abbrev lfs (Ms:List Tb) (n j:Nat):List (List Int):=(wys Ms n j).map (·.2)
theorem Qob (v:Int)(r s:List Int):∀ (Ms:List Tb) (E:Ct),cnt (Ms.foldl (fun E M=>Qgr E (sb M r) v) E) s=cnt E s+v*((Ms.map fun M=>sb M r).count s:Int)
 | [],E=>by show cnt E s=cnt E s+v*0;simp
 | M::Ms,E=>by
  rw [List.foldl_cons,Qob v r s Ms,Q4q,List.map_cons,List.count_cons]
  by_cases e:s=sb M r
  ·rw [if_pos e,if_pos (by rw [e];exact beq_self_eq_true _),Int.natCast_add,Int.mul_add]
   simp
   omega
  ·rw [if_neg e,if_neg (by rw [beq_iff_eq];exact fun z=>e z.symm)]
   simp
theorem Qoc (Ms:List Tb)(D:Ct)(s:List Int):∀ (rs:List (List Int)) (E:Ct),cnt (rs.foldl (Qi7 Ms D) E) s=cnt E s+(rs.map fun r=>cnt D r*((Ms.map fun M=>sb M r).count s:Int)).sum
 | [],E=>by show cnt E s=cnt E s+0;simp
 | r::rs,E=>by
  rw [List.foldl_cons,Qoc Ms D s rs,List.map_cons,List.sum_cons]
  have:cnt (Qi7 Ms D E r) s=cnt E s+cnt D r*((Ms.map fun M=>sb M r).count s:Int):=Qob _ r s Ms E
  rw [this]
  omega
theorem Qmk (Ms:List Tb)(s:List Int):∀ L:List Wy,(((L.flatMap (Qd5 Ms)).map (·.2)).count s:Int)=((L.map (·.2)).map fun l=>((Ms.map fun M=>sb M l).count s:Int)).sum
 | []=>rfl
 | p::L=>by
  rw [List.flatMap_cons,List.map_append,List.count_append,Int.natCast_add,Qmk Ms s L,List.map_cons,List.map_cons,List.sum_cons]
  congr 3
  unfold Qd5
  rw [List.map_map]
  exact Q46 Ms fun M=>sb M p.2
theorem Qj9 (h:Tabs n Ms):∀ j s,cnt (lev Ms n j) s=((lfs Ms n j).count s:Int)
 | 0,s=>by
  show ([(upS n,(1:Int))].lookup s).getD 0=(([upS n]:List (List Int)).count s:Int)
  rw [List.lookup_cons,List.count_cons,List.count_nil]
  by_cases e:s=upS n
  ·rw [e,beq_self_eq_true];rfl
  ·rw [beq_eq_false_iff_ne.mpr e,beq_eq_false_iff_ne.mpr (Ne.symm e)];rfl
 | j+1,s=>by
  have ih:=Qj9 h j
  show cnt (Qhf Ms (lev Ms n j)) s=(((wys Ms n j).flatMap (Qd5 Ms)).map (·.2)).count s
  rw [Qmk]
  unfold Qhf
  rw [Qoc]
  have g:=Qmh h.sq j
  have hm:∀ l∈(wys Ms n j).map (·.2),l∈(lev Ms n j).map (·.1):=fun l hl=>by
   have c1:0<(lfs Ms n j).count l:=List.count_pos_iff.mpr hl
   have c2:=ih l
   cases e:(lev Ms n j).lookup l with
   | none =>
    unfold cnt at c2
    rw [e] at c2
    have c2:(0:Int)=((lfs Ms n j).count l:Int):=c2
    omega
   | some c =>
    have key:∀ D:Ct,D.lookup l=some c→l∈D.map (·.1):=fun D hD=>by
     induction D with
     | nil=>cases hD
     | cons q D ih2 =>
      rw [List.lookup_cons] at hD
      by_cases z:l=q.1
      ·rw [z];exact .head _
      ·rw [beq_eq_false_iff_ne.mpr z] at hD
       exact .tail _ (ih2 hD)
    exact key _ e
  rw [Qn7 (fun l=>((Ms.map fun M=>sb M l).count s:Int)) g.nd hm]
  show 0+_=_
  rw [Int.zero_add]
  congr 1
  refine List.map_congr_left fun r _=>?_
  rw [ih r]
theorem Qt4 (h:Tabs n Ms)(j:Nat):Qap Ms n j=((wys Ms n j).countP fun p=>decide (p.2=[])):=by
 have:=Qj9 h j []
 show cnt (lev Ms n j) []=_
 rw [this,List.count,List.countP_map]
 congr 1
 apply List.countP_congr
 intro p _
 show ((p.2==[])=true)↔(decide (p.2=[])=true)
 rw [beq_iff_eq,decide_eq_true_eq]
def frB (Ms:List Tb):List Int→List Int→Bool
 | _,[]=>true
 | l,a::w=>if sb (tbl Ms a.toNat) l=[] then false else frB Ms (sb (tbl Ms a.toNat) l) w
def Qw5 (Ms:List Tb):List Int→List Int→List Int
 | l,[]=>l
 | l,a::w=>Qw5 Ms (sb (tbl Ms a.toNat) l) w
theorem Qsg (Ms:List Tb)(i:Int):∀ (w l:List Int),frB Ms l (w++[i])=(frB Ms l w && !decide (sb (tbl Ms i.toNat) (Qw5 Ms l w)=[]))
 | [],l=>by
  show (if sb (tbl Ms i.toNat) l=[] then false else true)=_
  by_cases e:sb (tbl Ms i.toNat) l=[]
  ·rw [if_pos e];show _=(true && !decide (sb (tbl Ms i.toNat) l=[]));rw [decide_eq_true e];rfl
  ·rw [if_neg e];show _=(true && !decide (sb (tbl Ms i.toNat) l=[]));rw [decide_eq_false e];rfl
 | a::w,l=>by
  rw [List.cons_append]
  show (if sb (tbl Ms a.toNat) l=[] then false else frB Ms (sb (tbl Ms a.toNat) l) (w++[i]))=((if sb (tbl Ms a.toNat) l=[] then false else frB Ms (sb (tbl Ms a.toNat) l) w) && !decide (sb (tbl Ms i.toNat) (Qw5 Ms (sb (tbl Ms a.toNat) l) w)=[]))
  by_cases e:sb (tbl Ms a.toNat) l=[]
  ·rw [if_pos e,if_pos e];rfl
  ·rw [if_neg e,if_neg e,Qsg Ms i w]
theorem Qod (Ms:List Tb)(i:Int):∀ (w l:List Int),Qw5 Ms l (w++[i])=sb (tbl Ms i.toNat) (Qw5 Ms l w)
 | [],l=>rfl
 | a::w,l=>Qod Ms i w _
theorem Q1s (M:Tb):sb M []=[]:=by
 unfold sb
 have:(List.range M.length).filter (hit M [])=[]:=by
  rw [List.filter_eq_nil_iff]
  intro a _ h
  cases h
 rw [this]
 rfl
theorem Q1t (h:1≤n):upS n≠[]:=fun e=>by
 have:=Qi4 n
 rw [e] at this
 rw [←this] at h
 cases h
theorem Q1u (h:Tabs n Ms):∀ j,∀ p∈wys Ms n j,Qw5 Ms (upS n) p.1=p.2∧frB Ms (upS n) p.1 = !decide (p.2=[])
 | 0,p,hp=>by
  rw [List.mem_singleton.mp hp]
  exact ⟨rfl,by show true = !decide (upS n=[]);rw [decide_eq_false (Q1t h.n1)];rfl⟩
 | j+1,p,hp=>by
  obtain ⟨q,hq,hp⟩:=List.mem_flatMap.mp hp
  obtain ⟨i,hi,rfl⟩:=List.mem_map.mp hp
  obtain ⟨e1,e2⟩:=Q1u h j q hq
  refine ⟨by rw [Qod,e1,Int.toNat_natCast],?_⟩
  rw [Qsg,e2,e1,Int.toNat_natCast]
  dsimp only
  by_cases z:q.2=[]
  ·rw [z,Q1s];rfl
  ·rw [decide_eq_false z];rfl
def frZ (Ms:List Tb) (n:Nat) (w:List Int):Bool:=frB Ms (upS n) w.dropLast
theorem Qkj (l:List Int)(hl:l=[]):((List.range Ms.length).map fun (i:Nat)=>sb (tbl Ms i) l).countP (fun s=>decide (s=[]))=Ms.length:=by
 subst hl
 rw [List.countP_eq_length.mpr,List.length_map,List.length_range]
 intro s hs
 obtain ⟨i,_,rfl⟩:=List.mem_map.mp hs
 rw [Q1s]
 rfl
theorem Qka (h:Tabs n Ms)(j:Nat):∀ L:List Wy,(∀ p∈L,frB Ms (upS n) p.1 = !decide (p.2=[])) →
  (((L.flatMap (Qd5 Ms)).countP fun p=>decide (p.2=[])&&frZ Ms n p.1:Nat):Int)+(Ms.length:Int)*((L.countP fun p=>decide (p.2=[]):Nat):Int)=((L.flatMap (Qd5 Ms)).countP fun p=>decide (p.2=[]):Nat)
 | [],_=>by simp
 | p::L,hL=>by
  have ih:=Qka h j L fun q hq=>hL q (.tail _ hq)
  have hp:=hL p (.head _)
  rw [List.flatMap_cons,List.countP_append,List.countP_append,List.countP_cons]
  have one:((Qd5 Ms p).countP fun q=>decide (q.2=[])&&frZ Ms n q.1:Nat)=if p.2=[] then 0 else (Qd5 Ms p).countP fun q=>decide (q.2=[]):=by
   by_cases z:p.2=[]
   ·rw [if_pos z,List.countP_eq_zero]
    intro q hq
    obtain ⟨i,_,rfl⟩:=List.mem_map.mp hq
    show ¬ ((decide _&&frB Ms (upS n) (p.1++[(i:Int)]).dropLast)=true)
    rw [List.dropLast_concat,hp,z]
    simp
   ·rw [if_neg z]
    apply List.countP_congr
    intro q hq
    obtain ⟨i,_,rfl⟩:=List.mem_map.mp hq
    show ((decide _&&frB Ms (upS n) (p.1++[(i:Int)]).dropLast)=true)↔_
    rw [List.dropLast_concat,hp,decide_eq_false z]
    simp
  have two:p.2=[]→(Qd5 Ms p).countP (fun q=>decide (q.2=[]))=Ms.length:=fun z=>by
   have:=Qkj (Ms:=Ms) p.2 z
   unfold Qd5
   rw [List.countP_map] at this ⊢
   exact this
  rw [one]
  by_cases z:p.2=[]
  ·rw [if_pos z,two z,decide_eq_true z,if_pos rfl]
   have e1:(Ms.length:Int)*(((L.countP fun p=>decide (p.2=[]))+1:Nat):Int)=(Ms.length:Int)*((L.countP fun p=>decide (p.2=[]):Nat):Int)+Ms.length:=by
    rw [Int.natCast_add,Int.mul_add];simp
   rw [e1]
   omega
  ·rw [if_neg z,decide_eq_false z,if_neg Bool.false_ne_true]
   have e1:(Ms.length:Int)*(((L.countP fun p=>decide (p.2=[]))+0:Nat):Int)=(Ms.length:Int)*((L.countP fun p=>decide (p.2=[]):Nat):Int):=by rw [Nat.add_zero]
   rw [e1]
   omega
theorem Q1v (h:Tabs n Ms)(j:Nat):(((wys Ms n (j+1)).countP fun p=>decide (p.2=[])&&frZ Ms n p.1:Nat):Int)=Qap Ms n (j+1)-(Ms.length:Int)*Qap Ms n j:=by
 have:=Qka h j (wys Ms n j) fun p hp=>(Q1u h j p hp).2
 rw [Qt4 h,Qt4 h]
 show _=(((wys Ms n j).flatMap (Qd5 Ms)).countP fun p=>decide (p.2=[]):Int)-_
 show (((wys Ms n j).flatMap (Qd5 Ms)).countP _:Int)=_
 omega
open PySem L2
abbrev wyT (p:Wy):T:=.tup [Qq p.1,Qq p.2]
abbrev Q65:E:=.tup (.cons (.bin .add (.var 2) (.tup (.cons (.var 0) .nil))) (.cons (.call 18 (.cons (.var 1) (.cons (.var 3) .nil))) .nil))
theorem Q47 (Ms:List Tb):∀ (j:Nat),Qmp j (Ms.map Qao)=(List.range Ms.length).map fun i=>T.tup [.int ((j+i:Nat):Int),Qao (tbl Ms i)]:=by
 induction Ms with
 | nil=>intro j;rfl
 | cons M Ms ih =>
  intro j
  rw [List.map_cons,Qmp,ih (j+1),List.length_cons,List.range_succ_eq_map,List.map_cons,List.map_map]
  congr 1
  refine List.map_congr_left fun i _=>?_
  show _=T.tup [.int ((j+(i+1):Nat):Int),Qao ((M::Ms).getD (i+1) [])]
  rw [show j+(i+1)=j+1+i by omega]
  rfl
abbrev Q1w:S:=.setF 4 (.bin .add (.var 4) (.comp (.enm (.var 0)) [none,none,some 5,some 6] (.tp [0,1]) .nil Q65))
theorem Q48 (k:Nat)(h:Tabs n Ms){a b c:Slot}{acc:List Wy}(hz:acc.length≤1024){p:Wy}(hl:p.2.Sublist (upS n))(hw:p.1.length≤1000) :
  exS (cfn (k+1)) Q1w [.fz (Qf Ms),a,b,c,.fz (.lst (acc.map wyT)),.fz (Qq p.1),.fz (Qq p.2)]=.nx [.fz (Qf Ms),a,b,c,.fz (.lst ((acc++Qd5 Ms p).map wyT)),.fz (Qq p.1),.fz (Qq p.2)]:=by
 have m4:=h.m4
 have st:=Qvg h.n4 hl
 have hcomp:=Qwr (cf:=cfn (k+1)) (w:=.enm (.var 0)) (js:=[none,none,some 5,some 6]) (e:=Q65) (ρ:=[.fz (Qf Ms),a,b,c,.fz (.lst (acc.map wyT)),.fz (Qq p.1),.fz (Qq p.2)]) (rest:=[.fz (Qq p.1),.fz (Qq p.2)]) (α:=Nat) (xs:=List.range Ms.length) (a:=fun i=>T.int ((0+i:Nat):Int)) (b:=fun i=>Qao (tbl Ms i)) (f:=fun i=>wyT (p.1++[(i:Int)],sb (tbl Ms i) p.2))
  (by rw [←Q47];simp only [Qady,Qm,Q2,Qb,Qy,yEnm,Q6s,cont,Qgy]) rfl rfl rfl (fun i hi=>by
   have hi:=List.mem_range.mp hi
   have e:=Qjw k (Qt3 h hi).2 h.n4 st.1 st.2
   have z1:p.1.length+1≤100000:=by omega
   have z2:(2:Nat)≤100000:=by decide
   have z3:(1:Nat)≤100000:=by decide
   refine ⟨.fz (wyT (p.1++[(i:Int)],sb (tbl Ms i) p.2)),?_,rfl⟩
   rw [Nat.zero_add]
   have er:T.tup (p.1.map T.int++[T.int (i:Int)])=Qq (p.1++[(i:Int)]):=by unfold Qq;rw [List.map_append];rfl
   show _=Out.ok (PV.fz (.tup [Qq (p.1++[(i:Int)]),Qq (sb (tbl Ms i) p.2)])) _
   rw [←er]
   generalize tbl Ms i=M at e ⊢
   simp only [Qj4,Qo,Qb9,Qm,Q2,Qc,Qb,Qy,Qb2,yC1,Qv,yC2,Qpb,Qck,frz,List.length_cons,List.length_nil,Nat.reduceAdd,z3,if_true,Qb1,Qb0,cont,Out.opt,uo2,List.length_map,z1,Qaj,Q6,Qx,Qag,Q1,Qaq,Qaf,e,Qa2,Qn,Q4,L2.Ql,Option.map,z2]) (by rw [List.length_range];omega)
 have ex:(List.range Ms.length).map (fun (i:Nat)=>wyT (p.1++[(i:Int)],sb (tbl Ms i) p.2))=(Qd5 Ms p).map wyT:=by unfold Qd5;rw [List.map_map];rfl
 rw [ex] at hcomp
 have l1:=Qmj Ms p
 have z:acc.length+(Qd5 Ms p).length≤100000:=by omega
 rw [List.map_append]
 simp only [Qbl,Qb9,Qm,Q2,Qc,Qb,Qy,Qb2,hcomp,Qb1,Qb0,cont,Out.opt,uo3,List.length_map,z,if_true,Qas,Qd8,Qco,frz,Qak,Qa8,List.length_cons,List.length_nil,Nat.reduceAdd,Nat.reduceLT,List.set]
theorem Qsh (k:Nat)(h:Tabs n Ms){a b c:Slot}:∀ (L acc:List Wy) (s5 s6:Slot),acc.length+L.length*Ms.length≤1024→(∀ p∈L,p.2.Sublist (upS n)∧p.1.length≤1000)→Qz s5=true→Qz s6=true →
  ∃ s5' s6',Qz s5'=true∧Qz s6'=true∧Qcp (.tp [5,6]) (exS (cfn (k+1)) Q1w) (L.map wyT) [.fz (Qf Ms),a,b,c,.fz (.lst (acc.map wyT)),s5,s6]=.nx [.fz (Qf Ms),a,b,c,.fz (.lst ((acc++L.flatMap (Qd5 Ms)).map wyT)),s5',s6']
 | [],acc,s5,s6,_,_,o5,o6=>⟨s5,s6,o5,o6,by rw [List.flatMap_nil,List.append_nil];rfl⟩
 | p::L,acc,s5,s6,hz,hL,o5,o6=>by
  rw [List.length_cons,Nat.add_mul,Nat.one_mul] at hz
  have l1:=Qmj Ms p
  have e0:Qdp (.tp [5,6]) (wyT p) [.fz (Qf Ms),a,b,c,.fz (.lst (acc.map wyT)),s5,s6]=some [.fz (Qf Ms),a,b,c,.fz (.lst (acc.map wyT)),.fz (Qq p.1),.fz (Qq p.2)]:=by
   cases s5 <;> first | (cases o5;done) | (cases s6 <;> first | rfl | (cases o6;done))
  have e1:=Q48 k h (a:=a) (b:=b) (c:=c) (acc:=acc) (by omega) (hL p (.head _)).1 (hL p (.head _)).2
  obtain ⟨s5',s6',p5,p6,e⟩:=Qsh k h (a:=a) (b:=b) (c:=c) L (acc++Qd5 Ms p) (.fz (Qq p.1)) (.fz (Qq p.2)) (by rw [List.length_append];omega) (fun q hq=>hL q (.tail _ hq)) rfl rfl
  refine ⟨s5',s6',p5,p6,?_⟩
  rw [List.map_cons,List.flatMap_cons,←List.append_assoc]
  unfold Qcp
  rw [e0]
  dsimp only
  rw [e1]
  exact e
abbrev Q49:S:=.seq (.setF 4 (.lst .nil)) (.seq (.for_ (.seq (.var 2)) (.tp [5,6]) Q1w) (.setF 2 (.var 4)))
theorem Qt5 (k:Nat)(h:Tabs n Ms)(hp:p≤5):cfn (k+2) 19 [.fz (Qf Ms),.fz (.int p)]=.ok (.fz (.lst ((wys Ms n p).map wyT))) [.non,.non]:=by
 have z0:(0:Nat)≤100000:=by decide
 have z1:(1:Nat)≤100000:=by decide
 have z2:(2:Nat)≤100000:=by decide
 obtain ⟨ρ',e,s3,s4,s5,s6,_,_,_,_,rfl⟩:=Qbv (fun j ρ=>∃ s3 s4 s5 s6,Qz s3=true∧Qz s4=true∧Qz s5=true∧Qz s6=true∧ρ=[.fz (Qf Ms),.fz (.int p),.fz (.lst ((wys Ms n j).map wyT)),s3,s4,s5,s6]) (tg:=.nm 3) (b:=exS (cfn (k+1)) Q49) (xs:=Q3 0 p) (n:=0) (ρ:=[.fz (Qf Ms),.fz (.int p),.fz (.lst ((wys Ms n 0).map wyT)),.un,.un,.un,.un]) ⟨.un,.un,.un,.un,rfl,rfl,rfl,rfl,rfl⟩ (by
  rintro i x ρ hx ⟨s3,s4,s5,s6,o3,o4,o5,o6,rfl⟩
  have hi:i<p:=by have:=(List.getElem?_eq_some_iff.mp hx).1;rwa [Q9] at this
  rw [Nat.zero_add]
  have bd:=Q1r (Ms:=Ms) (n:=n) h.m4 (j:=i+1) (by omega)
  rw [show wys Ms n (i+1)=(wys Ms n i).flatMap (Qd5 Ms) from rfl,Qjx] at bd
  obtain ⟨t5,t6,q5,q6,e1⟩:=Qsh k h (a:=.fz (.int p)) (b:=.fz (.lst ((wys Ms n i).map wyT))) (c:=.fz x) (wys Ms n i) [] s5 s6 (by simpa using bd) (fun q hq=>⟨(Qp7 h i q hq).1,by have:=(Qp7 h i q hq).2.1;omega⟩) o5 o6
  rw [List.nil_append,List.map_nil] at e1
  have es:exS (cfn (k+1)) (.setF 4 (.lst .nil)) [.fz (Qf Ms),.fz (.int p),.fz (.lst ((wys Ms n i).map wyT)),.fz x,s4,s5,s6]=.nx [.fz (Qf Ms),.fz (.int p),.fz (.lst ((wys Ms n i).map wyT)),.fz x,.fz (.lst []),s5,s6]:=by
   cases s4 <;> first | rfl | (cases o4;done)
  refine ⟨[.fz (Qf Ms),.fz (.int p),.fz (.lst ((wys Ms n i).map wyT)),.fz x,s4,s5,s6],[.fz (Qf Ms),.fz (.int p),.fz (.lst ((wys Ms n (i+1)).map wyT)),.fz x,.fz (.lst ((wys Ms n (i+1)).map wyT)),t5,t6],(by cases s3 <;> first | rfl | (cases o3;done)),.inl ?_,.fz x,_,t5,t6,rfl,rfl,q5,q6,rfl⟩
  rw [Qac,es,Qaz]
  show _=SO.nx [.fz (Qf Ms),.fz (.int p),.fz (.lst (((wys Ms n i).flatMap (Qd5 Ms)).map wyT)),.fz x,.fz (.lst (((wys Ms n i).flatMap (Qd5 Ms)).map wyT)),t5,t6]
  generalize ((wys Ms n i).flatMap (Qd5 Ms)).map wyT=L at e1 ⊢
  generalize (wys Ms n i).map wyT=L0 at e1 ⊢
  simp only [Qac,Qc5,Qit,Qm,Q2,Qc,Qb,Qy,Qmt,Qhx,cont,Qhw,Qdb,Qgy,Qas,Qft,e1,Qbb,Qaz,Qbl,Qd8,Qco,frz,Qak,Qa8,List.length_cons,List.length_nil,Nat.reduceAdd,Nat.reduceLT,List.set,if_true])
 rw [Q9,Nat.zero_add] at e
 obtain ⟨M0,a0,l0⟩:=Q1d h
 have n4:=h.n4
 have c:n≤100000:=by omega
 have c2:p≤100000:=by omega
 have es:exS (cfn (k+1)) (.setF 2 (.lst (.cons (.tup (.cons (.tup .nil) (.cons (.tupR false (.bi .len (.cons (.ix (.var 0) (.int 0)) .nil))) .nil))) .nil))) [.fz (Qf Ms),.fz (.int p),.un,.un,.un,.un,.un]=.nx [.fz (Qf Ms),.fz (.int p),.fz (.lst ((wys Ms n 0).map wyT)),.un,.un,.un,.un]:=by
  simp only [Qbl,Qet,Qo,Qj4,Qv,Qy,Qpb,Qck,List.length_nil,z0,if_true,yC1,Qpd,Qcn,Qgq,Qm,Q2,Qb,Qf9,Qah,Qf8,Qf7,cont,Qf6,ui1,a0,yC2,yBi,Qch,Qau,Out.opt,ub2,List.length_map,l0,Qrf,Int.natAbs_natCast,c,Bool.false_eq_true,Int.toNat_natCast,Qpx,if_false,frz,List.length_cons,Nat.reduceAdd,z2,Qho,z1,Qas,Qd8,Qco,Qak,Qa8,Nat.reduceLT,Qc,List.set]
  rfl
 show Qcq (cfn (k+1)) ⟨2,7,Qez⟩ _=_
 rw [Qca rfl]
 show Qdu _ (exS _ Qez [.fz (Qf Ms),.fz (.int p),.un,.un,.un,.un,.un])=_
 generalize (wys Ms n p).map wyT=L at e ⊢
 generalize (wys Ms n 0).map wyT=L0 at e es ⊢
 simp only [Qac,es,Qaz,Qc5,Qd3,Qm,Q2,Qc,Qb,Qy,Qkg c2,Qas,Qft,e,Qbb,Qcj,Qeu,Qbe,Qbx,Qbc,Qbj,Qae,Option.map]
abbrev Q1x:S:=.seq (.setF 2 (.call 18 (.cons (.ix (.var 0) (.var 3)) (.cons (.var 2) .nil)))) (.ite (.cmp .eq (.var 2) (.tup .nil)) (.ret (.bl false)) .nil)
theorem Qvn (k:Nat)(h:Tabs n Ms){b:Slot}:∀ (w l:List Int) (s3:Slot),(∀ a∈w,∃ i:Nat,i<Ms.length∧a=(i:Int))→l.Sublist (upS n)→Qz s3=true →
  ∃ s2' s3',Qcp (.nm 3) (exS (cfn (k+1)) Q1x) (w.map T.int) [.fz (Qf Ms),b,.fz (Qq l),s3]=if frB Ms l w=true then .nx [.fz (Qf Ms),b,s2',s3'] else .rt (.fz (.bl false)) [.fz (Qf Ms),b,s2',s3']
 | [],l,s3,_,_,_=>⟨.fz (Qq l),s3,by show _=if true=true then _ else _;rw [if_pos rfl];rfl⟩
 | a::w,l,s3,hw,hl,o3=>by
  obtain ⟨i,hi,rfl⟩:=hw a (.head _)
  obtain ⟨at1,sq1⟩:=Qt3 h hi
  have st:=Qvg h.n4 hl
  have e:=Qjw k sq1 h.n4 st.1 st.2
  have sub:(sb (tbl Ms i) l).Sublist (upS n):=by have:=Qmf (tbl Ms i) l;rwa [sq1.len] at this
  have e0:Qdp (.nm 3) (.int (i:Int)) [.fz (Qf Ms),b,.fz (Qq l),s3]=some [.fz (Qf Ms),b,.fz (Qq l),.fz (.int (i:Int))]:=by cases s3 <;> first | rfl | (cases o3;done)
  have z0:(0:Nat)≤100000:=by decide
  show ∃ s2' s3',_=if (if sb (tbl Ms ((i:Int).toNat)) l=[] then false else frB Ms (sb (tbl Ms ((i:Int).toNat)) l) w)=true then _ else _
  rw [Int.toNat_natCast,List.map_cons]
  unfold Qcp
  rw [e0]
  dsimp only
  by_cases z:sb (tbl Ms i) l=[]
  ·rw [if_pos z]
   show ∃ s2' s3',_=SO.rt (PV.fz (T.bl false)) [.fz (Qf Ms),b,s2',s3']
   refine ⟨.fz (Qq (sb (tbl Ms i) l)),.fz (.int (i:Int)),?_⟩
   have eb:exS (cfn (k+1)) Q1x [.fz (Qf Ms),b,.fz (Qq l),.fz (.int (i:Int))]=.rt (.fz (.bl false)) [.fz (Qf Ms),b,.fz (Qq (sb (tbl Ms i) l)),.fz (.int (i:Int))]:=by
    simp only [Qac,Qbl,Qaj,Qo,Qgq,Qm,Q2,Qb,Qy,Qf9,Qc,Qf8,Qf7,cont,Qf6,ui1,at1,yC1,Qv,yC2,Q6,Qx,Qag,Q1,Qaq,Qaf,e,z,Qa2,Qn,Q4,L2.Ql,Option.map,if_true,Qas,Qd8,Qco,frz,Qak,Qa8,List.length_cons,List.length_nil,Nat.reduceAdd,Nat.reduceLT,List.set,Qaz,Qc4,Qbw,Qbp,Qj4,Qpb,Qck,z0,Qbo,Qbn,Qbm,uc1,Qth,decide_true,Qai,yBl,yIf,Qcj,Q0a,Qeu]
   rw [eb]
  ·rw [if_neg z]
   obtain ⟨s2',s3',e2⟩:=Qvn k h (b:=b) w (sb (tbl Ms i) l) (.fz (.int (i:Int))) (fun q hq=>hw q (.tail _ hq)) sub rfl
   refine ⟨s2',s3',?_⟩
   have eb:exS (cfn (k+1)) Q1x [.fz (Qf Ms),b,.fz (Qq l),.fz (.int (i:Int))]=.nx [.fz (Qf Ms),b,.fz (Qq (sb (tbl Ms i) l)),.fz (.int (i:Int))]:=by
    simp only [Qac,Qbl,Qaj,Qo,Qgq,Qm,Q2,Qb,Qy,Qf9,Qc,Qf8,Qf7,cont,Qf6,ui1,at1,yC1,Qv,yC2,Q6,Qx,Qag,Q1,Qaq,Qaf,e,Qa2,Qn,Q4,L2.Ql,Option.map,if_true,Qas,Qd8,Qco,frz,Qak,Qa8,List.length_cons,List.length_nil,Nat.reduceAdd,Nat.reduceLT,List.set,Qaz,Qc4,Qbw,Qbp,Qj4,Qpb,Qck,z0,Qbo,Qbn,Qbm,uc1,Qth,z,decide_false,Qai,yBl,yIf,Qdt]
   rw [eb]
   exact e2
theorem Q1y (w:List Int):Qgp (w.map T.int) none (some (-1))=w.dropLast.map T.int:=by
 unfold Qgp
 have h1:HT.sIx (w.map T.int).length 0 none=0:=rfl
 rw [h1,List.drop_zero,Nat.sub_zero,List.dropLast_eq_take,List.map_take]
 congr 1
 rw [List.length_map]
 unfold HT.sIx
 simp
 omega
theorem Q5a (k:Nat)(h:Tabs n Ms){w:List Int}(hw:∀ a∈w,∃ i:Nat,i<Ms.length∧a=(i:Int)):cfn (k+2) 21 [.fz (Qf Ms),.fz (Qq w)]=.ok (.fz (.bl (frZ Ms n w))) [.non,.non]:=by
 obtain ⟨s2,s3,e⟩:=Qvn k h (b:=.fz (Qq w)) w.dropLast (upS n) .un (fun a ha=>hw a (List.dropLast_subset _ ha)) (List.Sublist.refl _) rfl
 obtain ⟨M0,a0,l0⟩:=Q1d h
 have n4:=h.n4
 have c:n≤100000:=by omega
 have cl:=Q1y w
 have es:exS (cfn (k+1)) (.setF 2 (.tupR false (.bi .len (.cons (.ix (.var 0) (.int 0)) .nil)))) [.fz (Qf Ms),.fz (Qq w),.un,.un]=.nx [.fz (Qf Ms),.fz (Qq w),.fz (Qq (upS n)),.un]:=by
  simp only [Qbl,Qpd,Qcn,Qo,Qgq,Qm,Q2,Qb,Qy,Qf9,Qah,Qf8,Qf7,cont,Qf6,ui1,a0,yC1,Qv,yC2,yBi,Qch,Qau,Out.opt,ub2,List.length_map,l0,Qrf,Int.natAbs_natCast,c,Bool.false_eq_true,Int.toNat_natCast,Qpx,if_false,if_true,Qas,Qd8,Qco,frz,Qak,Qa8,List.length_cons,List.length_nil,Nat.reduceAdd,Nat.reduceLT,Qc,List.set]
 show Qcq (cfn (k+1)) ⟨2,4,Qhb⟩ _=_
 rw [Qca rfl]
 show Qdu _ (exS _ Qhb [.fz (Qf Ms),.fz (Qq w),.un,.un])=_
 unfold frZ
 cases hb:frB Ms (upS n) w.dropLast with
 | true =>
  rw [hb,if_pos rfl] at e
  simp only [Qac,es,Qaz,Qc5,Qit,Qu5,Qm,Q2,Qc,Qb,Qy,Q0g,Qv,Q0f,Qre,Qke,Qo,Q0b,Qah,Q4f,Int.reduceNeg,yC1,yC2,Q0e,Qrd,Q0d,cont,Out.opt,ui4,cl,Qmt,Qhx,Qhw,Qdb,Qgy,Qas,Qft,e,Qbb,Qcj,Q0a,Qeu,Qbe,Qbx,Qbc,Qbj,Qae,Option.map]
 | false =>
  rw [hb,if_neg Bool.false_ne_true] at e
  simp only [Qac,es,Qaz,Qc5,Qit,Qu5,Qm,Q2,Qc,Qb,Qy,Q0g,Qv,Q0f,Qre,Qke,Qo,Q0b,Qah,Q4f,Int.reduceNeg,yC1,yC2,Q0e,Qrd,Q0d,cont,Out.opt,ui4,cl,Qmt,Qhx,Qhw,Qdb,Qgy,Qas,Qft,e,Q4i,z_rt,Qbe,Qbx,Qbc,Qbj,Qae,Option.map]
open PySem L2
theorem Q1z {cf:CF}{i:Nat}{js:List (Option Nat)}{e:E}{ρ rest:En}{xs:List T}{f:T→T}(hs:(Qa ρ i).prv=some (.lst xs))(hj:js.all (fun j=>decide (j≠some i))=true)(hcap:Qcl js ρ=.un::rest)(hml:rest.all Qfa=true)(hap:Qbs js=true)
  (he:∀ x∈xs,∃ r,evE cf e (.fz x::rest)=.ok r (.fz x::rest)∧frz r=some (f x)) (hz:xs.length≤100000) :
  evE cf (.compS i js (.nm 0) .nil e) ρ=.ok (.ow (.lst (xs.map f))) ρ:=by
 have q:=Qcr (cf:=cf) (w:=.seq (.lit (.lst xs))) (js:=js) (e:=e) (ρ:=ρ) (rest:=rest) (f:=f) rfl hcap hml hap he hz
 have q2:(match Qb8 (.nm 0) (evC cf .nil) (evE cf e) xs [] (Qcl js ρ) with
   | .ok us ρi=>if Qe4 (Qcl js ρ) ρi=true∧Qbs js=true then Out.ok (PV.ow (.lst us)) (Qlc js ρi ρ) else .no
   | _=>.no)=.ok (.ow (.lst (xs.map f))) ρ:=q
 unfold evE
 rw [hs]
 simp only [if_pos hj]
 exact q2
def Qcb (Ms:List Tb) (n p:Nat):List Int:=(List.range (p+1)).map (Qap Ms n)
def frs (Ms:List Tb) (n j:Nat):List Int:=0::(List.range j).map fun (i:Nat)=>Qap Ms n (i+1)-(Ms.length:Int)*Qap Ms n i
theorem Qi9 (Ms:List Tb)(n p:Nat):(Qcb Ms n p).length=p+1:=by unfold Qcb;rw [List.length_map,List.length_range]
theorem Qkt (Ms:List Tb)(n p:Nat):(frs Ms n p).length=p+1:=by unfold frs;rw [List.length_cons,List.length_map,List.length_range]
theorem top0 (h:Tabs n Ms):Qap Ms n 0=0:=by
 show ([(upS n,(1:Int))].lookup []).getD 0=0
 rw [List.lookup_cons,beq_eq_false_iff_ne.mpr (Ne.symm (Q1t h.n1))]
 rfl
theorem Q5b (Ms:List Tb)(n p:Nat):(Qen Ms n (p+1)).map Qw3=(Qcb Ms n p).map T.int:=by
 unfold Qen Qcb
 rw [List.map_map,List.map_map]
 exact List.map_congr_left fun j _=>Qsa Ms n j
theorem Qku (Ms:List Tb){j:Nat}(hj:j≤p):atI ((Qcb Ms n p).map T.int) (j:Int)=some (.int (Qap Ms n j)):=by
 refine Qfx ?_
 unfold Qcb
 rw [List.map_map,List.getElem?_map,List.getElem?_range (by omega)]
 rfl
def frF (Ms:List Tb) (n:Nat):T→T
 | .int i=>.int (Qap Ms n (i.toNat+1)-(Ms.length:Int)*Qap Ms n i.toNat)
 | _=>.non
theorem Qaa3 (Ms:List Tb)(n p:Nat):(Q3 0 p).map (frF Ms n)=((List.range p).map fun (i:Nat)=>Qap Ms n (i+1)-(Ms.length:Int)*Qap Ms n i).map T.int:=by
 unfold Q3
 rw [List.map_map,List.map_map]
 refine List.map_congr_left fun i _=>?_
 show T.int (Qap Ms n ((0+(i:Int)).toNat+1)-(Ms.length:Int)*Qap Ms n (0+(i:Int)).toNat)=_
 rw [Int.zero_add,Int.toNat_natCast]
 rfl
theorem Qvo (h4:Ms.length≤4)(x:Int):Qd6 (Ms.length:Int) x=true:=by
 unfold Qd6
 simp only [Bool.or_eq_true,decide_eq_true_eq]
 exact .inl (by omega)
theorem Qt6 (k:Nat)(h:Tabs n Ms)(hp:p≤60):cfn (k+7) 12 [.fz (Qf Ms),.fz (.int p)]=.ok (.ow (.lst ((Qcb Ms n p).map T.int))) [.non,.non]:=by
 rw [←Q5b]
 exact Qsb k h (by omega)
theorem Qja (k:Nat)(h:Tabs n Ms)(hp:p≤60):cfn (k+8) 13 [.fz (Qf Ms),.fz (.int p)]=.ok (.ow (.lst ((frs Ms n p).map T.int))) [.non,.non]:=by
 have e1:=Qt6 k h hp
 have tl:=Qi9 Ms n p
 have c:p≤100000:=by omega
 have hw:evW (cfn (k+7)) (.rng1 (.var 1)) [.fz (Qf Ms),.fz (.int p),.fz (.lst ((Qcb Ms n p).map T.int))]=.ok (Q3 0 p,none) [.fz (Qf Ms),.fz (.int p),.fz (.lst ((Qcb Ms n p).map T.int))]:=by
  generalize (Qcb Ms n p).map T.int=L
  simp only [Qd3,Qm,Q2,Qc,Qb,Qy,Qkg c]
 have hcomp:=Qcr (cf:=cfn (k+7)) (w:=.rng1 (.var 1)) (js:=[none,some 2,some 0]) (e:=.bin .sub (.ix (.var 1) (.bin .add (.var 0) (.int 1))) (.bin .mul (.bi .len (.cons (.var 2) .nil)) (.ix (.var 1) (.var 0)))) (ρ:=[.fz (Qf Ms),.fz (.int p),.fz (.lst ((Qcb Ms n p).map T.int))]) (rest:=[.fz (.lst ((Qcb Ms n p).map T.int)),.fz (Qf Ms)]) (f:=frF Ms n) hw rfl rfl rfl (fun x hx=>by
  unfold Q3 at hx
  obtain ⟨j,hj,rfl⟩:=List.mem_map.mp hx
  have hj:=List.mem_range.mp hj
  have a1:=Qku Ms (n:=n) (p:=p) (j:=j+1) (by omega)
  have a2:=Qku Ms (n:=n) (p:=p) (j:=j) (by omega)
  have mo:=Qvo h.m4 (Qap Ms n j)
  have ec:(j:Int)+1=((j+1:Nat):Int):=by omega
  rw [Int.zero_add]
  refine ⟨.fz (.int (Qap Ms n (j+1)-(Ms.length:Int)*Qap Ms n j)),?_,by show _=some (T.int (Qap Ms n ((j:Int).toNat+1)-(Ms.length:Int)*Qap Ms n (j:Int).toNat));rw [Int.toNat_natCast];rfl⟩
  generalize (Qcb Ms n p).map T.int=L at a1 a2 ⊢
  simp only [Qb9,Qgq,Qm,Q2,Qc,Qb,Qy,Qf9,Qb2,Qah,Qb1,Qb0,cont,Out.opt,uo1,ec,Qf8,Qf7,Qf6,ui1,a1,Qcn,Qo,yC1,Qv,yC2,yBi,Qch,Qau,ub1,List.length_map,a2,uo5,mo,if_true,uo4]) (by rw [Q9];omega)
 rw [Qaa3] at hcomp
 have e3:Qgp ((Qcb Ms n p).map T.int) none (some 1)=[T.int 0]:=by
  have e0:(Qcb Ms n p).map T.int=.int 0::(((List.range p).map fun j=>Qap Ms n (j+1)).map T.int):=by
   unfold Qcb
   rw [List.range_succ_eq_map,List.map_cons,List.map_cons,top0 h]
   simp only [List.map_map]
   rfl
  rw [e0]
  unfold Qgp
  rw [show HT.sIx _ 0 none=0 from rfl,List.drop_zero,Nat.sub_zero]
  have:HT.sIx (T.int 0::(((List.range p).map fun j=>Qap Ms n (j+1)).map T.int)).length (T.int 0::(((List.range p).map fun j=>Qap Ms n (j+1)).map T.int)).length (some ((1:Nat):Int))=min 1 _:=HT.sIx_nat _ _ 1
  rw [show (some 1:Option Int)=some ((1:Nat):Int) from rfl,this,List.length_cons,Nat.min_eq_left (by omega)]
  rfl
 have z:(1:Nat)+p≤100000:=by omega
 have ef:(frs Ms n p).map T.int=[T.int 0]++((List.range p).map fun (i:Nat)=>Qap Ms n (i+1)-(Ms.length:Int)*Qap Ms n i).map T.int:=rfl
 rw [ef]
 have lf:(((List.range p).map fun (i:Nat)=>Qap Ms n (i+1)-(Ms.length:Int)*Qap Ms n i).map T.int).length=p:=by rw [List.length_map,List.length_map,List.length_range]
 show Qcq (cfn (k+7)) ⟨2,3,Qgj⟩ _=_
 rw [Qca rfl]
 show Qdu _ (exS _ Qgj [.fz (Qf Ms),.fz (.int p),.un])=_
 generalize (((List.range p).map fun (i:Nat)=>Qap Ms n (i+1)-(Ms.length:Int)*Qap Ms n i).map T.int)=L2' at hcomp lf ⊢
 generalize (Qcb Ms n p).map T.int=L at e1 e3 hcomp ⊢
 simp only [Qac,Qbl,Qaj,Qo,Qm,Q2,Qb,Qy,yC1,Qc,Qv,yC2,Q6,Qx,Qag,Q1,Qaq,Qaf,e1,Qa2,Qn,Q4,L2.Ql,Option.map,if_true,Qas,Qd8,Qco,frz,Qak,Qa8,List.length_cons,List.length_nil,Nat.reduceAdd,Nat.reduceLT,List.set,Qaz,Qcj,Qb9,Qu5,Q0g,Q0f,Qre,Qke,Qah,Q0e,Qrd,Q0d,cont,Out.opt,ui3,e3,Qb2,hcomp,Qb1,Qb0,uo3,lf,z,Qeu,Qbe,Qbx,Qbc,Qbj,Qae]
theorem Qaa4 {xs:List Int}:eqO (.lst (xs.map T.int)) (.lst (xs.map T.int))=some true:=by
 have ok:Qk 50 (.lst (xs.map T.int))=true:=by
  rw [Qk,List.all_eq_true]
  intro t ht
  obtain ⟨r,_,rfl⟩:=List.mem_map.mp ht
  rfl
 show (if _ then _ else _)=_
 rw [if_pos ⟨ok,ok⟩,Qk5 50 _ ok]
theorem Q5c (k:Nat){xs:List Int}(hz:xs.length≤1000):cfn (k+2) 22 [.ml (.lst (xs.map T.int)),.fz (.lst (xs.map T.int))]=.ok (.fz (.bl true)) [.lst (xs.map T.int++[.int 0]),.non]:=by
 have en:=Qaa4 (xs:=xs)
 have hcomp:=Q1z (cf:=cfn (k+1)) (i:=0) (js:=[none]) (e:=.call 16 (.cons (.var 0) .nil)) (ρ:=[.ml (.lst (xs.map T.int)),.fz (.lst (xs.map T.int))]) (rest:=[]) (xs:=xs.map T.int) (f:=fun _=>T.bl true) rfl rfl rfl rfl rfl (fun x hx=>by
  obtain ⟨r,hm,rfl⟩:=List.mem_map.mp hx
  exact ⟨.fz (.bl true),rfl,rfl⟩) (by rw [List.length_map];omega)
 have tt:Qfp ((xs.map T.int).map fun _=>T.bl true)=some ((xs.map T.int).map fun _=>true):=Qpf
 have at':((xs.map T.int).map fun _=>true).all id=true:=Qtg
 have z:xs.length<100000:=by omega
 show Qcq (cfn (k+1)) ⟨2,2,Qmc⟩ _=_
 rw [Qca rfl]
 show Qdu _ (exS _ Qmc [.ml (.lst (xs.map T.int)),.fz (.lst (xs.map T.int))])=_
 simp only [Qac,Qc4,Qpc,Qgn,Qu4,Qm,Q2,Qb,Qy,Q0c,Qrc,cont,Slot.prv,Qu8,Qhs,Bool.not_false,Bool.and_true,Qj5,if_true,Qai,yBl,Qjn,Bool.not_true,yOr,Qbw,Qbp,Qc,Qbo,Qbn,Qbm,uc2,Option.map,en,Qcn,Qo,hcomp,yC1,Qv,yC2,yBi,Qch,Qau,Out.opt,ub3,tt,at',yB,Qas,yIf,Qdt,Qaz,Qjo,Slot.mut,Qah,Qrg,Qlx,frz,Qlw,List.length_map,z,List.set,Qcj,Q0a,Qeu,Qbe,Qbx,Qbc,Qbj,Qae]
def gW (Ms:List Tb) (n:Nat):T→Bool
 | .tup ts=>(match Qda ts with
  | some w=>frZ Ms n w
  | none=>false)
 | _=>false
theorem Q10 (Ms:List Tb)(n:Nat)(w:List Int):gW Ms n (Qq w)=frZ Ms n w:=by
 show (match Qda (w.map T.int) with | some w=>frZ Ms n w | none=>false)=_
 rw [Qiw]
def Qia (Ms:List Tb) (n j:Nat):List Int:=0::(List.range j).map fun (i:Nat)=>Qap Ms n (i+1)
theorem Qsi (h:Tabs n Ms)(p:Nat):Qia Ms n p=Qcb Ms n p:=by
 unfold Qia Qcb
 rw [List.range_succ_eq_map,List.map_cons,top0 h,List.map_map]
 rfl
theorem Q11 (Ms:List Tb)(n j:Nat):Qia Ms n (j+1)=Qia Ms n j++[Qap Ms n (j+1)]:=by
 unfold Qia
 rw [List.range_succ,List.map_append,List.cons_append]
 rfl
theorem Qsj (Ms:List Tb)(n j:Nat):frs Ms n (j+1)=frs Ms n j++[Qap Ms n (j+1)-(Ms.length:Int)*Qap Ms n j]:=by
 unfold frs
 rw [List.range_succ,List.map_append,List.cons_append]
 rfl
abbrev Qvp:E:=.comp (.seq (.call 19 (.cons (.var 0) (.cons (.var 4) .nil)))) [none,none] (.tp [0,1]) (.cons (.cmp .eq (.var 1) (.tup .nil)) .nil) (.var 0)
abbrev Qaed:E:=.comp (.seq (.var 5)) [none,some 0] (.nm 0) (.cons (.call 21 (.cons (.var 1) (.cons (.var 0) .nil))) .nil) (.var 0)
abbrev Q12:S:=.seq (.setF 5 Qvp) (.seq (.app 2 (.bi .len (.cons (.var 5) .nil))) (.app 3 (.bi .len (.cons Qaed .nil))))
theorem Q5d (k:Nat)(h:Tabs n Ms){p:Int}{j:Nat}(hj:j+1≤5){s5 s6:Slot}(o5:Qz s5=true) :
  ∃ t5,Qz t5=true∧exS (cfn (k+2)) Q12 [.fz (Qf Ms),.fz (.int p),.ow (.lst ((Qia Ms n j).map T.int)),.ow (.lst ((frs Ms n j).map T.int)),.fz (.int ((j+1:Nat):Int)),s5,s6]=.nx [.fz (Qf Ms),.fz (.int p),.ow (.lst ((Qia Ms n (j+1)).map T.int)),.ow (.lst ((frs Ms n (j+1)).map T.int)),.fz (.int ((j+1:Nat):Int)),t5,s6]:=by
 have e1:=Qt5 k h (p:=j+1) hj
 have bd:=Q1r (Ms:=Ms) (n:=n) h.m4 hj
 have z0:(0:Nat)≤100000:=by decide
 have hw:evW (cfn (k+2)) (.seq (.call 19 (.cons (.var 0) (.cons (.var 4) .nil)))) [.fz (Qf Ms),.fz (.int p),.ow (.lst ((Qia Ms n j).map T.int)),.ow (.lst ((frs Ms n j).map T.int)),.fz (.int ((j+1:Nat):Int)),s5,s6]=.ok ((wys Ms n (j+1)).map fun q=>T.tup [Qq q.1,Qq q.2],none) [.fz (Qf Ms),.fz (.int p),.ow (.lst ((Qia Ms n j).map T.int)),.ow (.lst ((frs Ms n j).map T.int)),.fz (.int ((j+1:Nat):Int)),s5,s6]:=by
  show _=Out.ok ((wys Ms n (j+1)).map wyT,none) _
  generalize (wys Ms n (j+1)).map wyT=L at e1 ⊢
  generalize ((j+1:Nat):Int)=J at e1 ⊢
  simp only [Qit,Qaj,Qo,Qm,Q2,Qb,Qy,yC1,Qc,Qv,yC2,Q6,Qx,Qag,Q1,Qaq,Qaf,e1,Qa2,Qn,Q4,L2.Ql,Option.map,if_true,Qmt,Qhx,cont,Qhw,Qdb,Qgy]
 have hcomp:=Q0y (cf:=cfn (k+2)) (js:=[none,none]) (cs:=.cons (.cmp .eq (.var 1) (.tup .nil)) .nil) (e:=.var 0) (rest:=[]) (a:=fun q:Wy=>Qq q.1) (b:=fun q:Wy=>Qq q.2) (f:=fun q:Wy=>Qq q.1) (g:=fun q:Wy=>decide (q.2=[])) hw rfl rfl rfl (fun q _=>by
  rw [Qu9]
  simp only [Qbw,Qm,Q2,Qc,Qb,Qy,Qbp,Qj4,Qv,Qpb,Qck,List.length_nil,z0,if_true,Qbo,Qbn,cont,Qbm,uc1,Qth,Qai,yBl]) (fun q _ _=>⟨.fz (Qq q.1),rfl,rfl⟩) (by omega)
 have es:exS (cfn (k+2)) (.setF 5 Qvp) [.fz (Qf Ms),.fz (.int p),.ow (.lst ((Qia Ms n j).map T.int)),.ow (.lst ((frs Ms n j).map T.int)),.fz (.int ((j+1:Nat):Int)),s5,s6]=.nx [.fz (Qf Ms),.fz (.int p),.ow (.lst ((Qia Ms n j).map T.int)),.ow (.lst ((frs Ms n j).map T.int)),.fz (.int ((j+1:Nat):Int)),.fz (.lst (((wys Ms n (j+1)).filter fun q=>decide (q.2=[])).map fun q=>Qq q.1)),s6]:=by
  rw [Qbl,hcomp]
  cases s5 <;> first | rfl | (cases o5;done)
 have t1:=Qt4 h (j+1)
 have t2:=Q1v h j
 have l1:((((wys Ms n (j+1)).filter fun q=>decide (q.2=[])).map fun q=>Qq q.1).length:Int)=Qap Ms n (j+1):=by
  rw [List.length_map,←List.countP_eq_length_filter,t1]
 have hcomp2:=Qkr (cf:=cfn (k+2)) (w:=.seq (.var 5)) (js:=[none,some 0]) (cs:=.cons (.call 21 (.cons (.var 1) (.cons (.var 0) .nil))) .nil) (e:=.var 0) (ρ:=[.fz (Qf Ms),.fz (.int p),.ow (.lst ((Qia Ms n (j+1)).map T.int)),.ow (.lst ((frs Ms n j).map T.int)),.fz (.int ((j+1:Nat):Int)),.fz (.lst (((wys Ms n (j+1)).filter fun q=>decide (q.2=[])).map fun q=>Qq q.1)),s6]) (rest:=[.fz (Qf Ms)]) (xs:=((wys Ms n (j+1)).filter fun q=>decide (q.2=[])).map fun q=>Qq q.1) (g:=gW Ms n) (f:=id) rfl rfl rfl rfl (fun x hx=>by
  obtain ⟨q,hq,rfl⟩:=List.mem_map.mp hx
  have e:=Q5a k h (w:=q.1) (Qp7 h (j+1) q (List.mem_filter.mp hq).1).2.2
  rw [Qu9,Q10]
  simp only [Qaj,Qo,Qm,Q2,Qc,Qb,Qy,yC1,Qv,yC2,Q6,Qx,Qag,Q1,Qaq,Qaf,e,Qa2,Qn,Q4,L2.Ql,Option.map,if_true,Qai,yBl]) (fun x hx _=>⟨.fz x,rfl,rfl⟩) (by
   rw [List.length_map]
   have:=List.length_filter_le (fun q:Wy=>decide (q.2=[])) (wys Ms n (j+1))
   omega)
 have l2:((((((wys Ms n (j+1)).filter fun q=>decide (q.2=[])).map fun q=>Qq q.1).filter (gW Ms n)).map id).length:Int)=Qap Ms n (j+1)-(Ms.length:Int)*Qap Ms n j:=by
  rw [←t2,List.map_id,←List.countP_eq_length_filter,List.countP_map,List.countP_filter]
  congr 1
  apply List.countP_congr
  intro q _
  show ((gW Ms n (Qq q.1)&&decide (q.2=[]))=true)↔_
  rw [Q10,Bool.and_comm]
 have zd:(Qia Ms n j).length<100000:=by rw [Qsi h,Qi9];omega
 have zf:(frs Ms n j).length<100000:=by rw [Qkt];omega
 refine ⟨.fz (.lst (((wys Ms n (j+1)).filter fun q=>decide (q.2=[])).map fun q=>Qq q.1)),rfl,?_⟩
 rw [Qac,es,Qaz]
 rw [Q11] at hcomp2 ⊢
 rw [Qsj,List.map_append,List.map_append]
 rw [List.map_append] at hcomp2
 generalize ((((wys Ms n (j+1)).filter fun q=>decide (q.2=[])).map fun q=>Qq q.1).filter (gW Ms n)).map id=L2' at hcomp2 l2
 generalize ((wys Ms n (j+1)).filter fun q=>decide (q.2=[])).map (fun q=>Qq q.1)=L1 at hcomp2 l1 ⊢
 simp only [List.map_cons,List.map_nil] at hcomp2 ⊢
 simp only [Qac,Qjo,Slot.mut,Qc,Qb,Qcn,Qo,Qm,Q2,Qy,yC1,Qv,yC2,yBi,Qch,Qau,cont,Out.opt,ub1,l1,Qas,Qrg,Qlx,frz,Qlw,List.length_map,zd,List.set,if_true,Qaz,hcomp2,l2,zf]
theorem Q66 {j:Nat}(h:j<p):(Q3 1 p)[j]?=some (.int ((j+1:Nat):Int)):=by
 unfold Q3
 rw [List.getElem?_map,List.getElem?_range h]
 show some (T.int (1+(j:Int)))=_
 rw [show (1:Int)+(j:Int)=((j+1:Nat):Int) by omega]
theorem Q67 {ρ:En}(h:p≤1000):Qpe (.fz (.int 1)) (.fz (.int ((p:Int)+1))) ρ=.ok (Q3 1 p,none) ρ:=by
 show (if (1:Int).natAbs≤100000∧((p:Int)+1).natAbs≤100000 then Out.ok (Q3 1 ((p:Int)+1-1).toNat,none) ρ else .no)=_
 rw [if_pos ⟨by decide,by omega⟩,show ((p:Int)+1-1).toNat=p by omega]
abbrev Q68:S:=.seq (.ite (.not (.tcall 22 (.cons (.call 12 (.cons (.var 0) (.cons (.var 1) .nil))) (.cons (.fzE (.bi .list (.cons (.var 2) .nil))) .nil)))) (.ret (.bl false)) .nil) (.ite (.not (.tcall 22 (.cons (.call 13 (.cons (.var 0) (.cons (.var 1) .nil))) (.cons (.fzE (.bi .list (.cons (.var 3) .nil))) .nil)))) (.ret (.bl false)) .nil)
theorem Q5e (k:Nat)(h:Tabs n Ms)(hp:p≤60){s5:Slot}{x:T} :
  exS (cfn (k+8)) Q68 [.fz (Qf Ms),.fz (.int p),.ow (.lst ((Qcb Ms n p).map T.int)),.ow (.lst ((frs Ms n p).map T.int)),s4,s5,.fz x]=.nx [.fz (Qf Ms),.fz (.int p),.ow (.lst ((Qcb Ms n p).map T.int)),.ow (.lst ((frs Ms n p).map T.int)),s4,s5,.fz x]:=by
 have e1:=Qt6 (k+1) h hp
 have e2:=Qja k h hp
 have i1:=Q5c (k+6) (xs:=Qcb Ms n p) (by rw [Qi9];omega)
 have i2:=Q5c (k+6) (xs:=frs Ms n p) (by rw [Qkt];omega)
 generalize (Qcb Ms n p).map T.int=A at *
 generalize (frs Ms n p).map T.int=B at *
 have ol:∀ X:List T,Qjk .list [.lst X]=some (.ow (.lst X)):=fun _=>rfl
 have t1:=Qix (cf:=cfn (k+8)) (f:=22) (a:=.call 12 (.cons (.var 0) (.cons (.var 1) .nil))) (b:=.fzE (.bi .list (.cons (.var 2) .nil))) (ρ:=[.fz (Qf Ms),.fz (.int p),.ow (.lst A),.ow (.lst B),s4,s5,.fz x]) (ρ1:=[.fz (Qf Ms),.fz (.int p),.ow (.lst A),.ow (.lst B),s4,s5,.fz x]) (ρ2:=[.fz (Qf Ms),.fz (.int p),.ow (.lst A),.ow (.lst B),s4,s5,.fz x]) (t:=.lst A) (u:=.lst A) (by simp only [Qaj,Qo,Qm,Q2,Qb,Qy,yC1,Qc,Qv,yC2,Q6,Qx,Qag,Q1,Qaq,Qaf,e1,Qa2,Qn,Q4,L2.Ql,Option.map,if_true]) (by simp only [Q6z,Qcn,Qo,Qm,Q2,Qc,Qb,Qy,yC1,Qv,yC2,yBi,Qch,Qau,cont,Slot.prv,Out.opt,ol,yFzE,Q0z,frz])
 have t2:=Qix (cf:=cfn (k+8)) (f:=22) (a:=.call 13 (.cons (.var 0) (.cons (.var 1) .nil))) (b:=.fzE (.bi .list (.cons (.var 3) .nil))) (ρ:=[.fz (Qf Ms),.fz (.int p),.ow (.lst A),.ow (.lst B),s4,s5,.fz x]) (ρ1:=[.fz (Qf Ms),.fz (.int p),.ow (.lst A),.ow (.lst B),s4,s5,.fz x]) (ρ2:=[.fz (Qf Ms),.fz (.int p),.ow (.lst A),.ow (.lst B),s4,s5,.fz x]) (t:=.lst B) (u:=.lst B) (by simp only [Qaj,Qo,Qm,Q2,Qb,Qy,yC1,Qc,Qv,yC2,Q6,Qx,Qag,Q1,Qaq,Qaf,e2,Qa2,Qn,Q4,L2.Ql,Option.map,if_true]) (by simp only [Q6z,Qcn,Qo,Qm,Q2,Qc,Qb,Qy,yC1,Qv,yC2,yBi,Qch,Qau,cont,Slot.prv,Out.opt,ol,yFzE,Q0z,frz])
 rw [i1] at t1
 rw [i2] at t2
 simp only [Qac,Qc4,Qgn,t1,yTc3,Qai,Qy,yBl,Qjn,Bool.not_true,Qas,yIf,Qdt,Qaz,t2]
theorem Qkv (k:Nat)(h:Tabs n Ms)(hp:p≤5):cfn (k+9) 23 [.fz (Qf Ms),.fz (.int p)]=.ok (.fz (.bl true)) [.non,.non]:=by
 obtain ⟨ρ',e,s4,s5,o4,o5,rfl⟩:=Qbv (fun j ρ=>∃ s4 s5,Qz s4=true∧Qz s5=true∧ρ=[.fz (Qf Ms),.fz (.int p),.ow (.lst ((Qia Ms n j).map T.int)),.ow (.lst ((frs Ms n j).map T.int)),s4,s5,.un]) (tg:=.nm 4) (b:=exS (cfn (k+8)) Q12) (xs:=Q3 1 p) (n:=0) (ρ:=[.fz (Qf Ms),.fz (.int p),.ow (.lst [.int 0]),.ow (.lst [.int 0]),.un,.un,.un]) ⟨.un,.un,rfl,rfl,rfl⟩ (by
  rintro i x ρ hx ⟨s4,s5,o4,o5,rfl⟩
  have hi:i<p:=by have:=(List.getElem?_eq_some_iff.mp hx).1;rwa [Q9] at this
  rw [Q66 hi] at hx
  cases hx
  rw [Nat.zero_add]
  obtain ⟨t5,q5,e1⟩:=Q5d (k+6) h (p:=(p:Int)) (j:=i) (by omega) (s6:=.un) o5
  exact ⟨[.fz (Qf Ms),.fz (.int p),.ow (.lst ((Qia Ms n i).map T.int)),.ow (.lst ((frs Ms n i).map T.int)),.fz (.int ((i+1:Nat):Int)),s5,.un],_,(by cases s4 <;> first | rfl | (cases o4;done)),.inl e1,.fz (.int ((i+1:Nat):Int)),t5,rfl,q5,rfl⟩)
 rw [Q9,Nat.zero_add,Qsi h] at e
 obtain ⟨ρ2,e5,s6,_,rfl⟩:=Qbv (fun _ ρ=>∃ s6,Qz s6=true∧ρ=[.fz (Qf Ms),.fz (.int p),.ow (.lst ((Qcb Ms n p).map T.int)),.ow (.lst ((frs Ms n p).map T.int)),s4,s5,s6]) (tg:=.nm 6) (b:=exS (cfn (k+8)) Q68) (xs:=Q3 0 2) (n:=0) (ρ:=[.fz (Qf Ms),.fz (.int p),.ow (.lst ((Qcb Ms n p).map T.int)),.ow (.lst ((frs Ms n p).map T.int)),s4,s5,.un]) ⟨.un,rfl,rfl⟩ (by
  rintro i x ρ hx ⟨s6,p6,rfl⟩
  exact ⟨_,_,(by cases s6 <;> first | rfl | (cases p6;done)),.inl (Q5e k h (by omega) (x:=x)),.fz x,rfl,rfl⟩)
 have er:∀ ρ:En,Qu6 (.fz (.int 2)) ρ=.ok (Q3 0 2,none) ρ:=fun ρ=>Qkg (n:=2) (by decide)
 have er2:∀ ρ:En,Qpe (.fz (.int 1)) (.fz (.int ((p:Int)+1))) ρ=.ok (Q3 1 p,none) ρ:=fun ρ=>Q67 (by omega)
 have z1:(1:Nat)≤100000:=by decide
 have ep:=Qaas (cf:=cfn (k+8)) (i:=2) (j:=3) (a:=.lst (.cons (.int 0) .nil)) (b:=.lst (.cons (.int 0) .nil)) (ρ:=[.fz (Qf Ms),.fz (.int p),.un,.un,.un,.un,.un]) (ρ1:=[.fz (Qf Ms),.fz (.int p),.un,.un,.un,.un,.un]) (ρ2:=[.fz (Qf Ms),.fz (.int p),.un,.un,.un,.un,.un]) (x:=.lst [.int 0]) (y:=.lst [.int 0]) (by simp only [Qet,Qo,Qah,Qy,yC1,Qv,yC2,Qho,Qck,frz,List.length_cons,List.length_nil,Nat.reduceAdd,z1,if_true]) (by simp only [Qet,Qo,Qah,Qy,yC1,Qv,yC2,Qho,Qck,frz,List.length_cons,List.length_nil,Nat.reduceAdd,z1,if_true]) rfl rfl
 have ep:exS (cfn (k+8)) (.parO 2 3 (.lst (.cons (.int 0) .nil)) (.lst (.cons (.int 0) .nil))) [.fz (Qf Ms),.fz (.int p),.un,.un,.un,.un,.un]=.nx [.fz (Qf Ms),.fz (.int p),.ow (.lst [.int 0]),.ow (.lst [.int 0]),.un,.un,.un]:=ep
 show Qcq (cfn (k+8)) ⟨2,7,Qhd⟩ _=_
 rw [Qca rfl]
 show Qdu _ (exS _ Qhd [.fz (Qf Ms),.fz (.int p),.un,.un,.un,.un,.un])=_
 generalize (Qcb Ms n p).map T.int=A at *
 generalize (frs Ms n p).map T.int=B at *
 have el:exS (cfn (k+8)) (.for_ (.rng2 (.int 1) (.bin .add (.var 1) (.int 1))) (.nm 4) Q12) [.fz (Qf Ms),.fz (.int p),.ow (.lst [.int 0]),.ow (.lst [.int 0]),.un,.un,.un]=.nx [.fz (Qf Ms),.fz (.int p),.ow (.lst A),.ow (.lst B),s4,s5,.un]:=by
  have ew:evW (cfn (k+8)) (.rng2 (.int 1) (.bin .add (.var 1) (.int 1))) [.fz (Qf Ms),.fz (.int p),.ow (.lst [.int 0]),.ow (.lst [.int 0]),.un,.un,.un]=.ok (Q3 1 p,none) [.fz (Qf Ms),.fz (.int p),.ow (.lst [.int 0]),.ow (.lst [.int 0]),.un,.un,.un]:=by
   simp only [Q0i,Qah,Qy,Q0h,Qb9,Qm,Q2,Qc,Qb,Qb2,Qb1,Qb0,cont,Out.opt,uo1,er2]
  rw [Qc5,ew]
  simp only [Qas,Qft,e,Qbb]
 simp only [Qac,ep,Qaz,el,Qc5,Qd3,Qah,Qy,er,Qas,Qft,e5,Qbb,Qcj,Q0a,Qeu,Qbe,Qbx,Qbc,Qbj,Qae,Option.map]
open PySem L2
def topF (Ms:List Tb) (n:Nat):T→T
 | .int i=>.int (Qap Ms n i.toNat)
 | _=>.non
theorem Q5f (Ms:List Tb)(n p:Nat):(Q3 0 (p+1)).map (topF Ms n)=(Qcb Ms n p).map T.int:=by
 unfold Q3 Qcb
 rw [List.map_map,List.map_map]
 refine List.map_congr_left fun i _=>?_
 show T.int (Qap Ms n (0+(i:Int)).toNat)=T.int (Qap Ms n i)
 rw [Int.zero_add,Int.toNat_natCast]
abbrev Q69:S:=.app 3 (.bin .sub (.ix (.var 2) (.var 4)) (.bin .mul (.bi .len (.cons (.var 0) .nil)) (.ix (.var 2) (.bin .sub (.var 4) (.int 1)))))
theorem Qvq (k:Nat)(h:Tabs n Ms)(hp:p≤60):cfn (k+9) 24 [.fz (Qf Ms),.fz (.int p)]=.ok (.fz (.bl true)) [.non,.non]:=by
 have z0:(0:Nat)≤100000:=by decide
 have z1:(1:Nat)≤100000:=by decide
 have dk:Qf1 (.fz (.tup []))=some []:=Qdv []
 have c1:p+1≤100000:=by omega
 have ec:(p:Int)+1=((p+1:Nat):Int):=by omega
 have hw:evW (cfn (k+8)) (.rng1 (.bin .add (.var 1) (.int 1))) [.fz (Qf Ms),.fz (.int p),.un,.un,.un]=.ok (Q3 0 (p+1),none) [.fz (Qf Ms),.fz (.int p),.un,.un,.un]:=by
  have:=Qkg (ρ:=[.fz (Qf Ms),.fz (.int p),.un,.un,.un]) c1
  simp only [Qd3,Qb9,Qm,Q2,Qc,Qb,Qy,Qb2,Qah,Qb1,Qb0,cont,Out.opt,uo1,ec,this]
 have hcomp:=Qcr (cf:=cfn (k+8)) (w:=.rng1 (.bin .add (.var 1) (.int 1))) (js:=[none,some 0]) (e:=.dg2 (.call 20 (.cons (.var 1) (.cons (.var 0) .nil))) (.tup .nil) (.int 0)) (ρ:=[.fz (Qf Ms),.fz (.int p),.un,.un,.un]) (rest:=[.fz (Qf Ms)]) (f:=topF Ms n) hw rfl rfl rfl (fun x hx=>by
  unfold Q3 at hx
  obtain ⟨j,hj,rfl⟩:=List.mem_map.mp hx
  have hj:=List.mem_range.mp hj
  have e:=Qw4 (k+6) h (p:=j) (by omega)
  have gl:(Qd0 ((lev Ms n j).map (·.1)) ((lev Ms n j).map fun p=>T.int p.2) []).getD (.int 0)=.int (Qap Ms n j):=Qsa Ms n j
  rw [Int.zero_add]
  refine ⟨.fz (.int (Qap Ms n j)),?_,by show _=some (T.int (Qap Ms n (j:Int).toNat));rw [Int.toNat_natCast];rfl⟩
  simp only [Qn6,Qaj,Qo,Qm,Q2,Qc,Qb,Qy,yC1,Qv,yC2,Q6,Qx,Qag,Q1,Qaq,Qaf,e,Qa2,Qn,Q4,L2.Ql,Option.map,if_true,Qtl,cont,Qhj,Qj4,Qpb,Qck,List.length_nil,z0,Qtk,Qah,Qtj,Qti,dk,gl]) (by rw [Q9];omega)
 rw [Q5f] at hcomp
 obtain ⟨ρ',e,s4,_,rfl⟩:=Qbv (fun j ρ=>∃ s4,Qz s4=true∧ρ=[.fz (Qf Ms),.fz (.int p),.fz (.lst ((Qcb Ms n p).map T.int)),.ow (.lst ((frs Ms n j).map T.int)),s4]) (tg:=.nm 4) (b:=exS (cfn (k+8)) Q69) (xs:=Q3 1 p) (n:=0) (ρ:=[.fz (Qf Ms),.fz (.int p),.fz (.lst ((Qcb Ms n p).map T.int)),.ow (.lst [.int 0]),.un]) ⟨.un,rfl,rfl⟩ (by
  rintro i x ρ hx ⟨s4,o4,rfl⟩
  have hi:i<p:=by have:=(List.getElem?_eq_some_iff.mp hx).1;rwa [Q9] at this
  rw [Q66 hi] at hx
  cases hx
  rw [Nat.zero_add]
  have a1:=Qku Ms (n:=n) (p:=p) (j:=i+1) (by omega)
  have a2:=Qku Ms (n:=n) (p:=p) (j:=i) (by omega)
  have mo:=Qvo h.m4 (Qap Ms n i)
  have e1:((i+1:Nat):Int)-1=(i:Int):=by omega
  have zf:(frs Ms n i).length<100000:=by rw [Qkt];omega
  refine ⟨[.fz (Qf Ms),.fz (.int p),.fz (.lst ((Qcb Ms n p).map T.int)),.ow (.lst ((frs Ms n i).map T.int)),.fz (.int ((i+1:Nat):Int))],[.fz (Qf Ms),.fz (.int p),.fz (.lst ((Qcb Ms n p).map T.int)),.ow (.lst ((frs Ms n (i+1)).map T.int)),.fz (.int ((i+1:Nat):Int))],(by cases s4 <;> first | rfl | (cases o4;done)),.inl ?_,.fz (.int ((i+1:Nat):Int)),rfl,rfl⟩
  rw [Qsj,List.map_append]
  generalize (Qcb Ms n p).map T.int=L at a1 a2 ⊢
  generalize ((i+1:Nat):Int)=J at a1 e1 ⊢
  simp only [Qjo,Slot.mut,Qc,Qb,Qb9,Qgq,Qm,Q2,Qy,Qf9,Qf8,Qf7,cont,Qf6,ui1,a1,Qb2,Qcn,Qo,yC1,Qv,yC2,yBi,Qch,Qau,Out.opt,ub1,List.length_map,Qah,Qb1,Qb0,uo4,e1,a2,uo5,mo,if_true,Qas,Qrg,Qlx,frz,Qlw,zf,List.set,List.map_cons,List.map_nil])
 rw [Q9,Nat.zero_add] at e
 have er2:∀ ρ:En,Qpe (.fz (.int 1)) (.fz (.int ((p:Int)+1))) ρ=.ok (Q3 1 p,none) ρ:=fun ρ=>Q67 (by omega)
 have e1:=Qt6 (k+1) h hp
 have e2:=Qja k h hp
 have i1:=Q5c (k+6) (xs:=Qcb Ms n p) (by rw [Qi9];omega)
 have i2:=Q5c (k+6) (xs:=frs Ms n p) (by rw [Qkt];omega)
 show Qcq (cfn (k+8)) ⟨2,5,Qd4⟩ _=_
 rw [Qca rfl]
 show Qdu _ (exS _ Qd4 [.fz (Qf Ms),.fz (.int p),.un,.un,.un])=_
 generalize (Qcb Ms n p).map T.int=A at *
 generalize (frs Ms n p).map T.int=B at *
 have t1:=Qix (cf:=cfn (k+8)) (f:=22) (a:=.call 12 (.cons (.var 0) (.cons (.var 1) .nil))) (b:=.var 2) (ρ:=[.fz (Qf Ms),.fz (.int p),.fz (.lst A),.fz (.lst B),s4]) (ρ1:=[.fz (Qf Ms),.fz (.int p),.fz (.lst A),.fz (.lst B),s4]) (ρ2:=[.fz (Qf Ms),.fz (.int p),.fz (.lst A),.fz (.lst B),s4]) (t:=.lst A) (u:=.lst A) (by simp only [Qaj,Qo,Qm,Q2,Qb,Qy,yC1,Qc,Qv,yC2,Q6,Qx,Qag,Q1,Qaq,Qaf,e1,Qa2,Qn,Q4,L2.Ql,Option.map,if_true]) (by simp only [Qm,Q2,Qc,Qb])
 have t2:=Qix (cf:=cfn (k+8)) (f:=22) (a:=.call 13 (.cons (.var 0) (.cons (.var 1) .nil))) (b:=.var 3) (ρ:=[.fz (Qf Ms),.fz (.int p),.fz (.lst A),.fz (.lst B),s4]) (ρ1:=[.fz (Qf Ms),.fz (.int p),.fz (.lst A),.fz (.lst B),s4]) (ρ2:=[.fz (Qf Ms),.fz (.int p),.fz (.lst A),.fz (.lst B),s4]) (t:=.lst B) (u:=.lst B) (by simp only [Qaj,Qo,Qm,Q2,Qb,Qy,yC1,Qc,Qv,yC2,Q6,Qx,Qag,Q1,Qaq,Qaf,e2,Qa2,Qn,Q4,L2.Ql,Option.map,if_true]) (by simp only [Qm,Q2,Qc,Qb])
 rw [i1] at t1
 rw [i2] at t2
 have el:exS (cfn (k+8)) (.for_ (.rng2 (.int 1) (.bin .add (.var 1) (.int 1))) (.nm 4) Q69) [.fz (Qf Ms),.fz (.int p),.fz (.lst A),.ow (.lst [.int 0]),.un]=.nx [.fz (Qf Ms),.fz (.int p),.fz (.lst A),.ow (.lst B),s4]:=by
  have ew:evW (cfn (k+8)) (.rng2 (.int 1) (.bin .add (.var 1) (.int 1))) [.fz (Qf Ms),.fz (.int p),.fz (.lst A),.ow (.lst [.int 0]),.un]=.ok (Q3 1 p,none) [.fz (Qf Ms),.fz (.int p),.fz (.lst A),.ow (.lst [.int 0]),.un]:=by
   simp only [Q0i,Qah,Qy,Q0h,Qb9,Qm,Q2,Qc,Qb,Qb2,Qb1,Qb0,cont,Out.opt,uo1,er2]
  rw [Qc5,ew]
  simp only [Qas,Qft,e,Qbb]
 simp only [Qac,Qbl,hcomp,Qas,Qd8,Qco,frz,Qak,Qa8,List.length_cons,List.length_nil,Nat.reduceAdd,Nat.reduceLT,Qc,Qb,List.set,if_true,Qaz,Qiu,Qet,Qo,Qah,Qy,yC1,Qv,yC2,Qho,Qck,z1,Qld,el,Q0u,Q4k,Qcj,Q6q,t1,yTc3,Qai,yBl,yAnd,t2,yB,Qeu,Qbe,Qbx,Qbc,Qbj,Qae,Option.map]
theorem Qt7 {x:Int}(h0:0≤x)(h1:x≤1000):Sq 1 [[x]]:=by
 refine ⟨rfl,fun r hr=>by rw [List.mem_singleton.mp hr];rfl,fun r hr y hy=>?_,fun r hr y hy=>?_⟩
 ·rw [List.mem_singleton.mp hr] at hy;rw [List.mem_singleton.mp hy];exact h0
 ·rw [List.mem_singleton.mp hr] at hy;rw [List.mem_singleton.mp hy];omega
theorem Q5g {cf:CF}{A B:T}{x0 x3 x60:Int}(hA:A=.lst [.tup [.tup [.int 0]]])(hB:B=.lst [.tup [.tup [.int 0]],.tup [.tup [.int 1]]])(h0:x0=0)(h3:x3=3)(h60:x60=60)(e1:cf 23 [.fz A,.fz (.int x0)]=.ok (.fz (.bl true)) [.non,.non])
  (e2:cf 24 [.fz A,.fz (.int x60)]=.ok (.fz (.bl true)) [.non,.non]) (e3:cf 23 [.fz B,.fz (.int x3)]=.ok (.fz (.bl true)) [.non,.non]):Qab (evE cf Qvf [.un,.un,.un,.un,.un])=.ok false [.un,.un,.un,.un,.un]:=by
 have z1:(1:Nat)≤100000:=by decide
 have z2:(2:Nat)≤100000:=by decide
 subst hA hB h0 h3 h60
 simp only [Qpc,Qgn,Qaj,Qo,Qet,Qj4,Qah,Qy,yC1,Qv,yC2,Qpb,Qck,frz,List.length_cons,List.length_nil,Nat.reduceAdd,z1,if_true,Qho,Q6,Qx,Qag,Q1,Qaq,Qaf,e1,Qa2,Qn,Q4,L2.Ql,Option.map,Qai,yBl,Qjn,Bool.not_true,yOr,z2,e3,e2,yB]
theorem Q5h:isF (Qab (evE (cfn 14) Qvf (uns 5)))=true:=by
 have a1:Tabs 1 [[[0]]]:=⟨by decide,by decide,by decide,by decide,fun M hM=>by rw [List.mem_singleton.mp hM];exact Qt7 (by decide) (by decide)⟩
 have a3:Tabs 1 [[[0]],[[1]]]:=⟨by decide,by decide,by decide,by decide,fun M hM=>by
  rcases List.mem_cons.mp hM with z | z
  ·rw [z];exact Qt7 (by decide) (by decide)
  ·rw [List.mem_singleton.mp z];exact Qt7 (by decide) (by decide)⟩
 have q:=Q5g (cf:=cfn (5+9)) (A:=Qf [[[0]]]) (B:=Qf [[[0]],[[1]]]) (x0:=((0:Nat):Int)) (x3:=((3:Nat):Int)) (x60:=((60:Nat):Int)) rfl rfl rfl rfl rfl (Qkv 5 a1 (p:=0) (by decide)) (Qvq 5 a1 (p:=60) (by decide)) (Qkv 5 a3 (p:=3) (by decide))
 show isF (Qab (evE (cfn (5+9)) Qvf [.un,.un,.un,.un,.un]))=true
 rw [q]
 rfl
theorem Q13:∀ m:Int,∃ ρ',exS (cfn 14) Qtv ((uns 5).set 1 (.fz (.int m)))=.nx ρ'∧ρ'.length=5:=by
 intro m
 obtain ⟨q,hq,e0⟩:=Qaeb 13 m
 obtain ⟨n,Ms,q1,hM,p1,e1⟩:=Q45 12 hq
 obtain ⟨r,q2,r0,r6,p2,e2⟩:=Qgk 13 (m:=6) (by decide) (by decide) p1
 obtain ⟨M0,a0,l0⟩:=Q1d hM
 have n1:=hM.n1
 have n4:=hM.n4
 have z3:(3:Nat)≤100000:=by decide
 refine ⟨[.un,.fz (.int m),.ow q2,.fz (Qf Ms),.fz (.int r)],?_,rfl⟩
 show exS (cfn 14) Qtv [.un,.fz (.int m),.un,.un,.un]=_
 have ea:exS (cfn 14) (.ite (.not (.call 23 (.cons (.var 3) (.cons (.ite (.cmp .lt (.bi .len (.cons (.var 3) .nil)) (.int 3)) (.var 4) (.bi .min (.cons (.int 4) (.cons (.var 4) .nil)))) .nil)))) (.ret (.bl false)) .nil) [.un,.fz (.int m),.ow q2,.fz (Qf Ms),.fz (.int r)]=.nx [.un,.fz (.int m),.ow q2,.fz (Qf Ms),.fz (.int r)]:=by
  have om:Qjk .min [.int 4,.int r]=some (.fz (.int (if r<4 then r else 4))):=rfl
  by_cases hl:(Ms.length:Int)<3
  ·obtain ⟨p,hp⟩:=Int.eq_ofNat_of_zero_le r0
   subst hp
   have e4:cfn 14 23 [.fz (Qf Ms),.fz (.int (p:Int))]=.ok (.fz (.bl true)) [.non,.non]:=Qkv 5 hM (p:=p) (by omega)
   simp only [Qc4,Qgn,Qaj,Qo,Qm,Q2,Qc,Qb,Qy,yC1,Q6r,Qbw,Qcn,Qv,yC2,yBi,Qch,Qau,cont,Out.opt,ub1,List.length_map,Qbp,Qah,Qbo,Qbn,Qbm,uc3,hl,decide_true,Qai,yBl,yIte,Q6,Qx,Qag,Q1,Qaq,Qaf,e4,Qa2,Qn,Q4,L2.Ql,Option.map,if_true,Qjn,Bool.not_true,Qas,yIf,Qdt]
  ·obtain ⟨p,hp⟩:=Int.eq_ofNat_of_zero_le (show 0≤(if r<4 then r else 4) by split <;> omega)
   have pl:p≤5:=by
    have:(if r<4 then r else 4)≤4:=by split <;> omega
    omega
   have e4:cfn 14 23 [.fz (Qf Ms),.fz (.int (p:Int))]=.ok (.fz (.bl true)) [.non,.non]:=Qkv 5 hM (p:=p) pl
   rw [hp] at om
   simp only [Qc4,Qgn,Qaj,Qo,Qm,Q2,Qc,Qb,Qy,yC1,Q6r,Qbw,Qcn,Qv,yC2,yBi,Qch,Qau,cont,Out.opt,ub1,List.length_map,Qbp,Qah,Qbo,Qbn,Qbm,uc3,hl,decide_false,Qai,yBl,yIte,om,Q6,Qx,Qag,Q1,Qaq,Qaf,e4,Qa2,Qn,Q4,L2.Ql,Option.map,if_true,Qjn,Bool.not_true,Qas,yIf,Qdt]
 have eb:exS (cfn 14) (.ite (.not (.call 24 (.cons (.var 3) (.cons (.ix (.lst (.cons (.int 8) (.cons (.int 12) (.cons (.int 60) .nil)))) (.bin .add (.bi .int (.cons (.cmp .lt (.bi .len (.cons (.ix (.var 3) (.int 0)) .nil)) (.int 3)) .nil)) (.bi .int (.cons (.cmp .lt (.bi .len (.cons (.ix (.var 3) (.int 0)) .nil)) (.int 2)) .nil)))) .nil)))) (.ret (.bl false)) .nil) [.un,.fz (.int m),.ow q2,.fz (Qf Ms),.fz (.int r)]=.nx [.un,.fz (.int m),.ow q2,.fz (Qf Ms),.fz (.int r)]:=by
  have f1:cfn 14 24 [.fz (Qf Ms),.fz (.int 8)]=.ok (.fz (.bl true)) [.non,.non]:=Qvq 5 hM (p:=8) (by decide)
  have f2:cfn 14 24 [.fz (Qf Ms),.fz (.int 12)]=.ok (.fz (.bl true)) [.non,.non]:=Qvq 5 hM (p:=12) (by decide)
  have f3:cfn 14 24 [.fz (Qf Ms),.fz (.int 60)]=.ok (.fz (.bl true)) [.non,.non]:=Qvq 5 hM (p:=60) (by decide)
  have i2:atI [T.int 8,.int 12,.int 60] (1+1)=some (.int 60):=rfl
  have i2':atI [T.int 8,.int 12,.int 60] 2=some (.int 60):=rfl
  have i1:atI [T.int 8,.int 12,.int 60] (1+0)=some (.int 12):=rfl
  have i1':atI [T.int 8,.int 12,.int 60] 1=some (.int 12):=rfl
  have i0:atI [T.int 8,.int 12,.int 60] (0+0)=some (.int 8):=rfl
  by_cases h3:(n:Int)<3
  ·by_cases h2:(n:Int)<2
   ·simp only [Qc4,Qgn,Qaj,Qo,Qm,Q2,Qc,Qb,Qy,yC1,Qgq,Qet,Qah,Qv,yC2,Qho,Qck,frz,List.length_cons,List.length_nil,Nat.reduceAdd,z3,if_true,Qf9,Qb9,Qcn,Qbw,Qf8,Qf7,cont,Qf6,ui1,a0,yBi,Qch,Qau,Out.opt,ub2,List.length_map,l0,Qbp,Qbo,Qbn,Qbm,uc3,h3,decide_true,ub8,Qb2,h2,Qb1,Qb0,uo1,Int.reduceAdd,i2',Q6,Qx,Qag,Q1,Qaq,Qaf,f3,Qa2,Qn,Q4,L2.Ql,Option.map,Qai,yBl,Qjn,Bool.not_true,Qas,yIf,Qdt]
   ·simp only [Qc4,Qgn,Qaj,Qo,Qm,Q2,Qc,Qb,Qy,yC1,Qgq,Qet,Qah,Qv,yC2,Qho,Qck,frz,List.length_cons,List.length_nil,Nat.reduceAdd,z3,if_true,Qf9,Qb9,Qcn,Qbw,Qf8,Qf7,cont,Qf6,ui1,a0,yBi,Qch,Qau,Out.opt,ub2,List.length_map,l0,Qbp,Qbo,Qbn,Qbm,uc3,h3,decide_true,ub8,Qb2,h2,decide_false,Bool.false_eq_true,if_false,Qb1,Qb0,uo1,Int.reduceAdd,i1',Q6,Qx,Qag,Q1,Qaq,Qaf,f2,Qa2,Qn,Q4,L2.Ql,Option.map,Qai,yBl,Qjn,Bool.not_true,Qas,yIf,Qdt]
  ·have h2:¬ (n:Int)<2:=by omega
   simp only [Qc4,Qgn,Qaj,Qo,Qm,Q2,Qc,Qb,Qy,yC1,Qgq,Qet,Qah,Qv,yC2,Qho,Qck,frz,List.length_cons,List.length_nil,Nat.reduceAdd,z3,if_true,Qf9,Qb9,Qcn,Qbw,Qf8,Qf7,cont,Qf6,ui1,a0,yBi,Qch,Qau,Out.opt,ub2,List.length_map,l0,Qbp,Qbo,Qbn,Qbm,uc3,h3,decide_false,ub8,Bool.false_eq_true,if_false,Qb2,h2,Qb1,Qb0,uo1,Int.reduceAdd,at_0,Q6,Qx,Qag,Q1,Qaq,Qaf,f1,Qa2,Qn,Q4,L2.Ql,Option.map,Qai,yBl,Qjn,Bool.not_true,Qas,yIf,Qdt]
 have ec:exS (cfn 14) (.seq (.set 2 (.call 14 (.cons (.var 1) .nil))) (.seq (.setF 3 (.call 17 (.cons (.var 2) .nil))) (.setF 4 (.call 15 (.cons (.var 2) (.cons (.int 6) .nil)))))) [.un,.fz (.int m),.un,.un,.un]=.nx [.un,.fz (.int m),.ow q2,.fz (Qf Ms),.fz (.int r)]:=by
  generalize Qf Ms=X at e1 ⊢
  simp only [Qac,Qiu,Qaj,Qo,Qm,Q2,Qc,Qb,Qy,yC1,Qv,yC2,Q6,Qx,Qag,Q1,Qaq,Qaf,e0,Qa2,Qn,Q4,L2.Ql,Option.map,if_true,Qas,Qld,Qak,Qa8,List.length_cons,List.length_nil,Nat.reduceAdd,Nat.reduceLT,List.set,Qaz,Qbl,List.all_nil,Bool.and_true,e1,reduceCtorEq,if_false,Nat.reduceEqDiff,List.getElem?_cons_zero,Slot.put,Qd8,Qco,frz,Qah,List.all_cons,e2]
 generalize Qf Ms=X at ea eb ec
 rw [Qac] at ec
 rw [Qac]
 cases x1:exS (cfn 14) (.set 2 (.call 14 (.cons (.var 1) .nil))) [.un,.fz (.int m),.un,.un,.un] with
 | nx ρ1 =>
  rw [x1,Qaz,Qac] at ec
  rw [Qaz,Qac]
  cases x2:exS (cfn 14) (.setF 3 (.call 17 (.cons (.var 2) .nil))) ρ1 with
  | nx ρ2 =>
   rw [x2,Qaz] at ec
   rw [Qaz,Qac,ec,Qaz,Qac,ea,Qaz,eb]
  | _=>rw [x2] at ec;cases ec
 | _=>rw [x1] at ec;cases ec
open PySem L2
section
variable {P:Program} {w:World} {K:Frg} {mg:Str→Option Value} {base:Heap}
theorem ok_q {x:Str}{st:Stmt}{f:Addr}{fd:FuncData}{N ps:List Str}{k:Nat}{sp:Sp}(F:Fun K x x st f fd)(S:FnScope N ps (Qi st))(len:∀ vs H Q E,sp vs H Q E→vs.length=ps.length)
  (hbody:∀ (cdv:Value) (A:Around) (outer:List Env) (s:Shared) (H:Hp) (vs:List V) (Q:VK) (E:XK),Room k (A.deeper (PyProof.Rows.envOfC x (Qi st) s.heap.objs.size f cdv))→sp vs H Q E →
   ∃ t,QB (Qhm (fun _=>true) CX0 P w K mg base N x (Qi st) f cdv A outer s H E).nox (Qbk st) t∧t { nx:=fun _ H'=>Q .non H',rt:=Q } (Qb6 N vs) H):FnOk P w K mg base CX0 (k+1) f fd ps sp :=
 F.ok S len fun cdv A outer s H vs Q E hr hs=>let ⟨t,a,b⟩:=hbody cdv A outer s H vs Q E hr hs;⟨t,a.h,b⟩
theorem Qay {h:Heap}{x:Str}{st:Stmt}{f:Addr}{oc:Value}{od an:Option Addr}{osl:Array (Option Value)}{kV doc pm cdv ct:Value}(X:K.In h)(G:h.Ns mainGlobals mg)(a:PySem.W.nsIn K mainGlobals x=some (some (.ref f)))
  (l:K.lookup f=some ⟨oc,od,.func (PySem.W.fnOf x x (Qe2 st) (Qbk st) (Qi st) .none kV doc pm an cdv ct),osl⟩) (c:PySem.W.codeIn K cdv x=true) (k:PySem.W.keepIn K (.ref f)=true):Dfn K mg x st:=⟨⟨f,_,Q8k l c k,PySem.W.mg_of X G a⟩⟩
theorem Q14 {h:Heap}{x:Str}{i:Int}{t:Tok}(X:K.In h)(G:h.Ns mainGlobals mg)(a:PySem.W.nsIn K mainGlobals x=some (some (.int i t))):∃ u,mg x=some u∧RelV (.int i) u:=⟨_,PySem.W.mg_of X G a,t,rfl⟩
theorem Q5i {lf:Addr}{lfd:FuncData}(F:Fun K "law" "law" Qj8 lf lfd)(s:Shared)(v:Value):BindsTo s lfd ⟨[v],[]⟩ [("_law_script",v)]:=by
 obtain ⟨oc,od,kV,doc,pm,an,cdv,ct,osl,rfl,lk,hcd⟩:=F.ex
 exact .of_eq (Qaat _ _ _ _ _ _ [v] rfl)
theorem Qa4 {xs:List Df}{d:Df}(i:Nat)(h:xs[i]?=some d):d∈xs:=List.mem_of_getElem? h
theorem Qaa5 {l:PySem.W.OpenLaw}{fa:Addr}(hfa:mg "law" = some (.ref fa))(tx:Txt K mg)(dl:Dfn K mg "law" Qj8)(dc:Dfn K mg "_law_cell" Qew)(D:∀ d∈ds,Dfn K mg d.x d.st) :
  ∃ fd:FuncData,(∀ (s:Shared) (v:Value),BindsTo s fd ⟨[v],[]⟩ [("_law_script",v)])∧∀ base:Heap,K.In base→base.Ns mainGlobals mg→FnOk l.prog w K mg base CX0 15 fa fd ["_law_script"] (Qtf K):=by
 obtain ⟨f,fd,F,m⟩:=dl.ex
 have e:=hfa.symm.trans m
 cases e
 refine ⟨fd,Q5i F,fun base _ _=>?_⟩
 have A:AllQ (fun d=>DfOk K mg d∧Qax l.prog w K mg base ds d) ds:=⟨⟨⟨D _ (Qa4 0 rfl),Qrn,Qro,rfl,rfl⟩,Qts tx⟩,⟨⟨D _ (Qa4 1 rfl),Qws,Qwt,rfl,rfl⟩,Q02 tx⟩,⟨⟨D _ (Qa4 2 rfl),Qto,Qtp,rfl,rfl⟩,Qwz tx⟩,⟨⟨D _ (Qa4 3 rfl),Qfi,Qmu,rfl,rfl⟩,Qpr tx⟩,⟨⟨D _ (Qa4 4 rfl),Qmv,Qmw,rfl,rfl⟩,Qps tx⟩,⟨⟨D _ (Qa4 5 rfl),Qj7,Qrp,rfl,rfl⟩,Qtt tx⟩,⟨⟨D _ (Qa4 6 rfl),Qg6,Ql1,rfl,rfl⟩,Qm2 tx⟩,⟨⟨D _ (Qa4 7 rfl),Qev,Qh6,rfl,rfl⟩,Qi3 tx⟩,⟨⟨D _ (Qa4 8 rfl),Qmx,Qmy,rfl,rfl⟩,Qpt tx⟩,⟨⟨D _ (Qa4 9 rfl),Qmz,Qm0,rfl,rfl⟩,Qpu tx⟩,⟨⟨D _ (Qa4 10 rfl),Qfu,Qwu,rfl,rfl⟩,Q03 tx⟩,⟨⟨D _ (Qa4 11 rfl),Qjp,Qwv,rfl,rfl⟩,Q04 tx⟩,⟨⟨D _ (Qa4 12 rfl),Qph,Qpi,rfl,rfl⟩,Qru tx⟩,⟨⟨D _ (Qa4 13 rfl),Qhy,Qm1,rfl,rfl⟩,Qpv tx⟩,⟨⟨D _ (Qa4 14 rfl),Ql2,Qtq,rfl,rfl⟩,Qw0 tx⟩,⟨⟨D _ (Qa4 15 rfl),Qdw,Qrs,rfl,rfl⟩,Qtu tx⟩,⟨⟨D _ (Qa4 16 rfl),Qpj,Qpk,rfl,rfl⟩,Qrv tx⟩,⟨⟨D _ (Qa4 17 rfl),Qal,Qpl,rfl,rfl⟩,Qrw tx⟩,⟨⟨D _ (Qa4 18 rfl),Qex,Ql3,rfl,rfl⟩,Qm3 tx⟩,⟨⟨D _ (Qa4 19 rfl),Qaw,Qkh,rfl,rfl⟩,Qmd tx⟩,⟨⟨D _ (Qa4 20 rfl),Qa1,Ql4,rfl,rfl⟩,Qm4 tx⟩,⟨⟨D _ (Qa4 21 rfl),Qek,Qpm,rfl,rfl⟩,Qrx tx⟩,⟨⟨D _ (Qa4 22 rfl),Qww,Qwx,rfl,rfl⟩,Q05 tx⟩,⟨⟨D _ (Qa4 23 rfl),Qc7,Qpn,rfl,rfl⟩,Qry tx⟩,⟨⟨D _ (Qa4 24 rfl),Qci,Qjq,rfl,rfl⟩,Qki tx⟩,trivial⟩
 have hc:=Qn0 (Qz8 A) 14
 refine ok_q (k:=14) F Ql5 (fun vs H Q E h=>?_) (fun cdv A outer s H vs Q E hr h=>?_)
 ·obtain ⟨a,ns,rfl,_⟩:=h
  rfl
 ·obtain ⟨ρ1,e1⟩:=Qaag Q5h
  exact ⟨_,Qaea tx hc (Qpw dc tx) hr,Q4e h (by decide) (by decide) e1 Q13⟩
end
end My
namespace PySem.W.Fast
def tw6692288600087559917:=()
def tw735033151454755396:=()
def tw1906326269105103091:=()
def tw8876166396103142386:=()
def tw15454370053908384666:=()
def tw11619067134053491282:=()
def tw9917648539428901264:=()
def tw6859267113486631793:=()
def tw13095704929526280284:=()
def tw10908170073238537448:=()
def tw18081230843911630062:=()
def tw7992038840662970450:=()
def tw884256873023651800:=()
def tw6173563952542502461:=()
def tw5104894774970394839:=()
def tw5939814491829780643:=()
def tw15397907444537605283:=()
def tw13733835837380404216:=()
def tw14854847573076752837:=()
def tw5738317103871832521:=()
def tw18358292856435487880:=()
def tw7789469021512528170:=()
def tw7911729067408739090:=()
def tw7615992199687836731:=()
def tw16339716883040571795:=()
def tw15595098598860304403:=()
def tw10976617258855339085:=()
def tw15521124234913082727:=()
def tw12887724802830303881:=()
def tw9297338133664284146:=()
def tw12331582591691444550:=()
def tw13697180841043889569:=()
def tw17943798296846752643:=()
def tw18394744051946347680:=()
def tw7610524100712199863:=()
def tw6376760263370455188:=()
def tw5159907961057862457:=()
def tw11601806361050956861:=()
def tw4562540073566499857:=()
def tw1349410369953037243:=()
def tw2551354152760077305:=()
def tw8127139207677305501:=()
def tw14130407028528117118:=()
def tw15448109924962378095:=()
def tw3326932061214148011:=()
def tw16566180303299358580:=()
def tw14889548636286361262:=()
def tw2247692510842891850:=()
def tw13675238871942581212:=()
def tw4990033622877621920:=()
def tw323184554914366295:=()
def tw8258784910616543296:=()
def tw3059498504218453853:=()
def tw12770649938637035447:=()
def tw17792062896499127884:=()
def tw11266244663219333905:=()
def tw8240848590247604641:=()
def tw6681938048479667208:=()
def tw14256655596171804903:=()
def tw17433282446856015574:=()
def tw12774135426428468128:=()
def tw17906521634406366979:=()
def tw9210507515114273689:=()
def tw8384812036235377408:=()
def tw10502526678742526953:=()
def tw9471084921760986184:=()
def tw8372638816497998119:=()
def tw12135251174870636402:=()
def tw2417719620410934111:=()
def tw3627698324074068209:=()
def tw8489749723574593436:=()
def tw5680254530605478100:=()
def tw18002112846325991177:=()
def tw9443076395324488181:=()
def tw16945349418467127162:=()
def tw2915616800140254503:=()
def tw2041056960503739550:=()
def tw191009195875324227:=()
def tw2892738784110663645:=()
def tw15489175939268964804:=()
def tw6988776091758239271:=()
def tw18263323918954093114:=()
def tw17196593976123402380:=()
def tw1760232497160052707:=()
def tw4708834531825671182:=()
def tw8403285947236309183:=()
def tw8125430372001957297:=()
def tw5034531356283466589:=()
def tw557392798021153452:=()
def tw4290194600089802207:=()
def tw10221610593285451206:=()
def tw8010164032143377217:=()
def tw10579580555253954271:=()
def tw15836173270165915503:=()
def tw10899722660734131910:=()
def tw9221352456492265495:=()
def tw6175607847153434186:=()
def tw14250154434610585482:=()
def tw14910848603764565754:=()
def tw8559677276298003890:=()
def tw14901060123474788058:=()
def tw518074327450443481:=()
def tw15779054648532790730:=()
def tw5947972884932686333:=()
def tw1004973086632440282:=()
def tw5120515124900538793:=()
def tw9444730690679098550:=()
def tw13129784881130740408:=()
def tw595636192355801712:=()
def tw10851669035898590578:=()
def tw11481041155356207767:=()
def tw5458635018047390695:=()
def tw2013263390301266093:=()
def tw629999202102264683:=()
def tw4397796286650834257:=()
def tw12464848415563309053:=()
def tw3831527979662077328:=()
def tw15178442725936060273:=()
def tw224246263102127451:=()
def tw9362800953112294469:=()
def tw1829538187959932658:=()
def tw13712563883939039886:=()
def tw18163522773206226129:=()
def tw18071330070572605355:=()
def tw14602755202167413649:=()
def tw13353056185871159626:=()
def tw15340233793945833944:=()
def tw9762355035276214755:=()
def tw16524674307406355176:=()
def tw5752706028810473095:=()
def tw4752651687617184960:=()
def tw13268787277195832114:=()
def tw3513082871687160669:=()
def tw3068262046922122530:=()
def tw17100557519473417227:=()
def tw6246393365077038507:=()
end PySem.W.Fast
open PySem PySem.W PyProof.Rows
set_option maxRecDepth 100000 in
set_option maxHeartbeats 0 in
theorem PySem.Challenge.cw_noughtways_k51_how_many_ways_holds : PySem.Challenge.rw_noughtways_k51_how_many_ways.Holds := by
 w_on;o_law;k_head;(case hw=>w_witness2)
 k_fill
 refine L2.Qxo (l:=PySem.Challenge.rw_noughtways_k51_how_many_ways) (n:=63) (k:=15) (x := "_law_script") (CX:=L2.CX0) (sp:=L2.Qtf) rfl (by decide) rfl ⟨rfl,by decide,by decide,rfl⟩ (fun w h Y=>PySem.W.kIn_of Y) ?F ?S ?C ?T
 case F =>
  intro w mg fa h KX G hmg
  have d0:L2.Dfn (L2.KOf KX) mg "law" My.Qj8:=by
   dsimp only [L2.KOf]
   refine' My.Qay KX G ?a ?l ?c ?k
   (case a=>k_is);(case l=>k_is);(case c=>k_is);(case k=>k_is)
  have d1:L2.Dfn (L2.KOf KX) mg "_law_cell" My.Qew:=by
   dsimp only [L2.KOf]
   refine' My.Qay KX G ?a ?l ?c ?k
   (case a=>k_is);(case l=>k_is);(case c=>k_is);(case k=>k_is)
  have d2:L2.Dfn (L2.KOf KX) mg "is_whole" My.Qga:=by
   dsimp only [L2.KOf]
   refine' My.Qay KX G ?a ?l ?c ?k
   (case a=>k_is);(case l=>k_is);(case c=>k_is);(case k=>k_is)
  have d3:L2.Dfn (L2.KOf KX) mg "is_row" My.Qiy:=by
   dsimp only [L2.KOf]
   refine' My.Qay KX G ?a ?l ?c ?k
   (case a=>k_is);(case l=>k_is);(case c=>k_is);(case k=>k_is)
  have d4:L2.Dfn (L2.KOf KX) mg "is_grid" My.Qhk:=by
   dsimp only [L2.KOf]
   refine' My.Qay KX G ?a ?l ?c ?k
   (case a=>k_is);(case l=>k_is);(case c=>k_is);(case k=>k_is)
  have d5:L2.Dfn (L2.KOf KX) mg "numbers_of" My.Qef:=by
   dsimp only [L2.KOf]
   refine' My.Qay KX G ?a ?l ?c ?k
   (case a=>k_is);(case l=>k_is);(case c=>k_is);(case k=>k_is)
  have d6:L2.Dfn (L2.KOf KX) mg "is_bounded" My.Qeg:=by
   dsimp only [L2.KOf]
   refine' My.Qay KX G ?a ?l ?c ?k
   (case a=>k_is);(case l=>k_is);(case c=>k_is);(case k=>k_is)
  have d7:L2.Dfn (L2.KOf KX) mg "wrong_at" My.Qgb:=by
   dsimp only [L2.KOf]
   refine' My.Qay KX G ?a ?l ?c ?k
   (case a=>k_is);(case l=>k_is);(case c=>k_is);(case k=>k_is)
  have d8:L2.Dfn (L2.KOf KX) mg "need_tables" My.Qdm:=by
   dsimp only [L2.KOf]
   refine' My.Qay KX G ?a ?l ?c ?k
   (case a=>k_is);(case l=>k_is);(case c=>k_is);(case k=>k_is)
  have d9:L2.Dfn (L2.KOf KX) mg "need_none_below" My.Qb3:=by
   dsimp only [L2.KOf]
   refine' My.Qay KX G ?a ?l ?c ?k
   (case a=>k_is);(case l=>k_is);(case c=>k_is);(case k=>k_is)
  have d10:L2.Dfn (L2.KOf KX) mg "set_behind" My.Qeh:=by
   dsimp only [L2.KOf]
   refine' My.Qay KX G ?a ?l ?c ?k
   (case a=>k_is);(case l=>k_is);(case c=>k_is);(case k=>k_is)
  have d11:L2.Dfn (L2.KOf KX) mg "all_places" My.Qei:=by
   dsimp only [L2.KOf]
   refine' My.Qay KX G ?a ?l ?c ?k
   (case a=>k_is);(case l=>k_is);(case c=>k_is);(case k=>k_is)
  have d12:L2.Dfn (L2.KOf KX) mg "led_on" My.Qiz:=by
   dsimp only [L2.KOf]
   refine' My.Qay KX G ?a ?l ?c ?k
   (case a=>k_is);(case l=>k_is);(case c=>k_is);(case k=>k_is)
  have d13:L2.Dfn (L2.KOf KX) mg "led_to" My.Qi0:=by
   dsimp only [L2.KOf]
   refine' My.Qay KX G ?a ?l ?c ?k
   (case a=>k_is);(case l=>k_is);(case c=>k_is);(case k=>k_is)
  have d14:L2.Dfn (L2.KOf KX) mg "ways_many" My.Qfb:=by
   dsimp only [L2.KOf]
   refine' My.Qay KX G ?a ?l ?c ?k
   (case a=>k_is);(case l=>k_is);(case c=>k_is);(case k=>k_is)
  have d15:L2.Dfn (L2.KOf KX) mg "fresh_many" My.Qej:=by
   dsimp only [L2.KOf]
   refine' My.Qay KX G ?a ?l ?c ?k
   (case a=>k_is);(case l=>k_is);(case c=>k_is);(case k=>k_is)
  have d16:L2.Dfn (L2.KOf KX) mg "_law_pen" My.Qhl:=by
   dsimp only [L2.KOf]
   refine' My.Qay KX G ?a ?l ?c ?k
   (case a=>k_is);(case l=>k_is);(case c=>k_is);(case k=>k_is)
  have d17:L2.Dfn (L2.KOf KX) mg "_law_draw" My.Qgc:=by
   dsimp only [L2.KOf]
   refine' My.Qay KX G ?a ?l ?c ?k
   (case a=>k_is);(case l=>k_is);(case c=>k_is);(case k=>k_is)
  have d18:L2.Dfn (L2.KOf KX) mg "_law_whole" My.Qfc:=by
   dsimp only [L2.KOf]
   refine' My.Qay KX G ?a ?l ?c ?k
   (case a=>k_is);(case l=>k_is);(case c=>k_is);(case k=>k_is)
  have d19:L2.Dfn (L2.KOf KX) mg "_law_signs" My.Qfd:=by
   dsimp only [L2.KOf]
   refine' My.Qay KX G ?a ?l ?c ?k
   (case a=>k_is);(case l=>k_is);(case c=>k_is);(case k=>k_is)
  have d20:L2.Dfn (L2.KOf KX) mg "_law_columns" My.Qdn:=by
   dsimp only [L2.KOf]
   refine' My.Qay KX G ?a ?l ?c ?k
   (case a=>k_is);(case l=>k_is);(case c=>k_is);(case k=>k_is)
  have d21:L2.Dfn (L2.KOf KX) mg "_law_all_ways" My.Qc6:=by
   dsimp only [L2.KOf]
   refine' My.Qay KX G ?a ?l ?c ?k
   (case a=>k_is);(case l=>k_is);(case c=>k_is);(case k=>k_is)
  have d22:L2.Dfn (L2.KOf KX) mg "_law_counted" My.Qdo:=by
   dsimp only [L2.KOf]
   refine' My.Qay KX G ?a ?l ?c ?k
   (case a=>k_is);(case l=>k_is);(case c=>k_is);(case k=>k_is)
  have d23:L2.Dfn (L2.KOf KX) mg "_law_fresh" My.Qfe:=by
   dsimp only [L2.KOf]
   refine' My.Qay KX G ?a ?l ?c ?k
   (case a=>k_is);(case l=>k_is);(case c=>k_is);(case k=>k_is)
  have d24:L2.Dfn (L2.KOf KX) mg "_law_is" My.Qi1:=by
   dsimp only [L2.KOf]
   refine' My.Qay KX G ?a ?l ?c ?k
   (case a=>k_is);(case l=>k_is);(case c=>k_is);(case k=>k_is)
  have d25:L2.Dfn (L2.KOf KX) mg "_law_right" My.Qff:=by
   dsimp only [L2.KOf]
   refine' My.Qay KX G ?a ?l ?c ?k
   (case a=>k_is);(case l=>k_is);(case c=>k_is);(case k=>k_is)
  have d26:L2.Dfn (L2.KOf KX) mg "_law_far_right" My.Qcu:=by
   dsimp only [L2.KOf]
   refine' My.Qay KX G ?a ?l ?c ?k
   (case a=>k_is);(case l=>k_is);(case c=>k_is);(case k=>k_is)
  have z0:mg "abs" = none:=by
   have q:PySem.W.nsIn (L2.KOf KX) mainGlobals "abs" = some none:=by
    dsimp only [L2.KOf]
    k_is
   exact PySem.W.mg_none_of KX G q
  have z1:mg "all" = none:=by
   have q:PySem.W.nsIn (L2.KOf KX) mainGlobals "all" = some none:=by
    dsimp only [L2.KOf]
    k_is
   exact PySem.W.mg_none_of KX G q
  have z2:mg "any" = none:=by
   have q:PySem.W.nsIn (L2.KOf KX) mainGlobals "any" = some none:=by
    dsimp only [L2.KOf]
    k_is
   exact PySem.W.mg_none_of KX G q
  have z3:mg "bool" = none:=by
   have q:PySem.W.nsIn (L2.KOf KX) mainGlobals "bool" = some none:=by
    dsimp only [L2.KOf]
    k_is
   exact PySem.W.mg_none_of KX G q
  have z4:mg "divmod" = none:=by
   have q:PySem.W.nsIn (L2.KOf KX) mainGlobals "divmod" = some none:=by
    dsimp only [L2.KOf]
    k_is
   exact PySem.W.mg_none_of KX G q
  have z5:mg "enumerate" = none:=by
   have q:PySem.W.nsIn (L2.KOf KX) mainGlobals "enumerate" = some none:=by
    dsimp only [L2.KOf]
    k_is
   exact PySem.W.mg_none_of KX G q
  have z6:mg "int" = none:=by
   have q:PySem.W.nsIn (L2.KOf KX) mainGlobals "int" = some none:=by
    dsimp only [L2.KOf]
    k_is
   exact PySem.W.mg_none_of KX G q
  have z7:mg "isinstance" = none:=by
   have q:PySem.W.nsIn (L2.KOf KX) mainGlobals "isinstance" = some none:=by
    dsimp only [L2.KOf]
    k_is
   exact PySem.W.mg_none_of KX G q
  have z8:mg "len" = none:=by
   have q:PySem.W.nsIn (L2.KOf KX) mainGlobals "len" = some none:=by
    dsimp only [L2.KOf]
    k_is
   exact PySem.W.mg_none_of KX G q
  have z9:mg "list" = none:=by
   have q:PySem.W.nsIn (L2.KOf KX) mainGlobals "list" = some none:=by
    dsimp only [L2.KOf]
    k_is
   exact PySem.W.mg_none_of KX G q
  have z10:mg "max" = none:=by
   have q:PySem.W.nsIn (L2.KOf KX) mainGlobals "max" = some none:=by
    dsimp only [L2.KOf]
    k_is
   exact PySem.W.mg_none_of KX G q
  have z11:mg "min" = none:=by
   have q:PySem.W.nsIn (L2.KOf KX) mainGlobals "min" = some none:=by
    dsimp only [L2.KOf]
    k_is
   exact PySem.W.mg_none_of KX G q
  have z12:mg "range" = none:=by
   have q:PySem.W.nsIn (L2.KOf KX) mainGlobals "range" = some none:=by
    dsimp only [L2.KOf]
    k_is
   exact PySem.W.mg_none_of KX G q
  have z13:mg "tuple" = none:=by
   have q:PySem.W.nsIn (L2.KOf KX) mainGlobals "tuple" = some none:=by
    dsimp only [L2.KOf]
    k_is
   exact PySem.W.mg_none_of KX G q
  have y0:∃ u,mg "MOST_ROWS" = some u∧L2.RelV (L2.V.int (4)) u:=by
   refine' My.Q14 (K:=L2.KOf KX) KX G ?a
   (case a=>(try dsimp only [L2.KOf]);k_is)
  have y1:∃ u,mg "MOST_TABLES" = some u∧L2.RelV (L2.V.int (4)) u:=by
   refine' My.Q14 (K:=L2.KOf KX) KX G ?a
   (case a=>(try dsimp only [L2.KOf]);k_is)
  have tx:My.Txt (L2.KOf KX) mg:=⟨z0,z1,z2,z3,z4,z5,z6,z7,z8,z9,z10,z11,z12,z13,y0,y1⟩
  refine My.Qaa5 hmg tx d0 d1 fun d hd=>?_
  simp only [My.ds,List.mem_cons,List.not_mem_nil,or_false] at hd
  rcases hd with rfl | rfl | rfl | rfl | rfl | rfl | rfl | rfl | rfl | rfl | rfl | rfl | rfl | rfl | rfl | rfl | rfl | rfl | rfl | rfl | rfl | rfl | rfl | rfl | rfl
  ·exact d2
  ·exact d3
  ·exact d4
  ·exact d5
  ·exact d6
  ·exact d7
  ·exact d8
  ·exact d9
  ·exact d10
  ·exact d11
  ·exact d12
  ·exact d13
  ·exact d14
  ·exact d15
  ·exact d16
  ·exact d17
  ·exact d18
  ·exact d19
  ·exact d20
  ·exact d21
  ·exact d22
  ·exact d23
  ·exact d24
  ·exact d25
  ·exact d26
 case S=>exact fun K H a ns hl _ hS=>⟨a,ns,rfl,hS,hl,fun _=>rfl⟩
 case C=>exact fun _ _ _ _ z=>z
 case T=>exact fun w a q=>L2.Qad9 (by first | kernel_rfl | exact rfl | decide) a q
