import PyProof.Rows.All
import Wide.All
import OpenK.AllK
import Wide.FinOn
import Lean
import PyProof.EqAt
import PyProof.EqKinds
import PyProof.TupleCall
import PyProof.WalkInts
import PyProof.ListRange
import PySem.Challenge.RW_textkinds_k34_lists
set_option Elab.async false
set_option linter.all false
set_option maxRecDepth 100000
set_option maxHeartbeats 0
theorem aa:type_of% @PySem.wpAny_bind:=@PySem.wpAny_bind
theorem ae:type_of% @PySem.Heap.get?_push_of_some:=@PySem.Heap.get?_push_of_some
theorem af:type_of% @List.getElem?_eq_getElem:=@List.getElem?_eq_getElem
theorem ag:type_of% @List.getD_eq_getElem?_getD:=@List.getD_eq_getElem?_getD
theorem ah:type_of% @List.length_map:=@List.length_map
theorem ai:type_of% @PySem.wpAny_pure:=@PySem.wpAny_pure
theorem aj:type_of% @Nat.le_refl:=@Nat.le_refl
theorem ak:type_of% @List.getElem?_map:=@List.getElem?_map
theorem ao:type_of% @List.mem_cons_self:=@List.mem_cons_self
theorem aq:type_of% @List.mem_cons:=@List.mem_cons
theorem ar:type_of% @List.mem_cons_of_mem:=@List.mem_cons_of_mem
theorem au:type_of% @List.mem_map:=@List.mem_map
theorem av:type_of% @List.mem_append_right:=@List.mem_append_right
theorem aw:type_of% @List.map_cons:=@List.map_cons
theorem ax:type_of% @List.length_cons:=@List.length_cons
theorem ay:type_of% @PySem.Heap.lt_size:=@PySem.Heap.lt_size
theorem az:type_of% @Nat.lt_of_lt_of_le:=@Nat.lt_of_lt_of_le
theorem aA:type_of% @List.size_toArray:=@List.size_toArray
theorem aB:type_of% @Nat.ne_of_lt:=@Nat.ne_of_lt
theorem aC:type_of% @Option.some.inj:=@Option.some.inj
theorem aD:type_of% @List.length_append:=@List.length_append
theorem aE:type_of% @List.mem_of_getElem?:=@List.mem_of_getElem?
theorem aF:type_of% @PySem.Heap.get?_push_size:=@PySem.Heap.get?_push_size
theorem aG:type_of% @List.getElem?_set_ne:=@List.getElem?_set_ne
theorem aH:type_of% @if_neg:=@if_neg
theorem aI:type_of% @List.getElem?_append_left:=@List.getElem?_append_left
theorem aJ:type_of% @if_pos:=@if_pos
theorem aK:type_of% @decide_eq_false:=@decide_eq_false
theorem aL:type_of% @List.getElem?_eq_some_iff:=@List.getElem?_eq_some_iff
theorem aM:type_of% @List.getElem?_eq_none_iff:=@List.getElem?_eq_none_iff
theorem aN:type_of% @List.mem_singleton:=@List.mem_singleton
theorem aO:type_of% @List.map_map:=@List.map_map
theorem aP:type_of% @List.not_mem_nil:=@List.not_mem_nil
theorem aQ:type_of% @List.getElem?_append_right:=@List.getElem?_append_right
theorem aR:type_of% @PySem.wpAny_mono:=@PySem.wpAny_mono
theorem aS:type_of% @List.mem_append:=@List.mem_append
theorem aT:type_of% @Nat.lt_irrefl:=@Nat.lt_irrefl
theorem aV:type_of% @List.length_replicate:=@List.length_replicate
theorem aW:type_of% @List.idxOf_lt_length_iff:=@List.idxOf_lt_length_iff
theorem aX:type_of% @Nat.le_trans:=@Nat.le_trans
theorem aY:type_of% @List.getElem?_set_self:=@List.getElem?_set_self
theorem aZ:type_of% @List.length_set:=@List.length_set
theorem b7:type_of% @List.map_append:=@List.map_append
theorem b8:type_of% @List.find?_cons:=@List.find?_cons
theorem b9:type_of% @PySem.PassesOwn.never:=@PySem.PassesOwn.never
theorem ba:type_of% @Nat.zero_le:=@Nat.zero_le
theorem bb:type_of% @PySem.wpAny_newObj_type:=@PySem.wpAny_newObj_type
theorem bc:type_of% @List.map_congr_left:=@List.map_congr_left
theorem be:type_of% @Nat.lt_succ_of_lt:=@Nat.lt_succ_of_lt
theorem bf:type_of% @List.mem_append_left:=@List.mem_append_left
theorem bg:type_of% @Int.toNat_natCast:=@Int.toNat_natCast
theorem bh:type_of% @PyProof.Rows.callWith_type1:=@PyProof.Rows.callWith_type1
theorem bn:type_of% @PySem.wpAny_Call_Name_kw:=@PySem.wpAny_Call_Name_kw
theorem bo:type_of% @PySem.Heap.SameBut.update:=@PySem.Heap.SameBut.update
theorem bp:type_of% @List.mem_range:=@List.mem_range
theorem bq:type_of% @List.replicate_succ:=@List.replicate_succ
theorem bt:type_of% @Ne.symm:=@Ne.symm
theorem bu:type_of% @or_false:=@or_false
theorem bv:type_of% @PySem.Heap.size_push:=@PySem.Heap.size_push
theorem bx:type_of% @List.nodup_cons:=@List.nodup_cons
theorem bz:type_of% @PySem.wpAny_holding:=@PySem.wpAny_holding
theorem bA:type_of% @Nat.lt_or_ge:=@Nat.lt_or_ge
theorem bB:type_of% @PySem.wpAny_callSpecial?_slot:=@PySem.wpAny_callSpecial?_slot
theorem bC:type_of% @List.nodup_append:=@List.nodup_append
theorem bD:type_of% @List.append_nil:=@List.append_nil
theorem bE:type_of% @PySem.wpAny_call_entry:=@PySem.wpAny_call_entry
theorem bF:type_of% @Bool.false_ne_true:=@Bool.false_ne_true
theorem bG:type_of% @List.getElem_mem:=@List.getElem_mem
theorem bJ:type_of% @PySem.wpAny_field:=@PySem.wpAny_field
theorem bK:type_of% @List.append_assoc:=@List.append_assoc
theorem bL:type_of% @beq_eq_false_iff_ne:=@beq_eq_false_iff_ne
theorem bM:type_of% @PySem.mem_of_lookup:=@PySem.mem_of_lookup
theorem bN:type_of% @Array.length_toList:=@Array.length_toList
theorem bO:type_of% @PyProof.Rows.slot_tuple_getitem:=@PyProof.Rows.slot_tuple_getitem
theorem bP:type_of% @List.getElem?_zip_eq_some:=@List.getElem?_zip_eq_some
theorem bQ:type_of% @PySem.Around.in1_units:=@PySem.Around.in1_units
theorem bS:type_of% @List.flatten_cons:=@List.flatten_cons
theorem bT:type_of% @PySem.Calls.spliced_cons:=@PySem.Calls.spliced_cons
theorem bU:type_of% @List.all_eq_true:=@List.all_eq_true
theorem bV:type_of% @decide_eq_true:=@decide_eq_true
theorem bW:type_of% @PySem.W.mg_none_of:=@PySem.W.mg_none_of
theorem bX:type_of% @List.length_singleton:=@List.length_singleton
theorem c6:type_of% @List.nil_append:=@List.nil_append
theorem c7:type_of% @List.length_nil:=@List.length_nil
theorem c8:type_of% @List.forIn_cons:=@List.forIn_cons
theorem cc:type_of% @PySem.wpAny_setField_rec:=@PySem.wpAny_setField_rec
theorem ce:type_of% @PySem.wpAny_seqItems:=@PySem.wpAny_seqItems
theorem cf:type_of% @Nat.lt_succ_self:=@Nat.lt_succ_self
theorem cg:type_of% @List.zipIdx_cons:=@List.zipIdx_cons
theorem ci:type_of% @List.prefix_refl:=@List.prefix_refl
theorem cj:type_of% @Bool.and_eq_true:=@Bool.and_eq_true
theorem ck:type_of% @PySem.Heap.get?_update_self:=@PySem.Heap.get?_update_self
theorem cn:type_of% @PySem.wpAny_pyIter_enum:=@PySem.wpAny_pyIter_enum
theorem cr:type_of% @List.getElem?_eq_none:=@List.getElem?_eq_none
theorem cu:type_of% @List.length_range:=@List.length_range
theorem cx:type_of% @Nat.le_succ:=@Nat.le_succ
theorem cy:type_of% @List.mem_iff_getElem:=@List.mem_iff_getElem
theorem cA:type_of% @List.forall_mem_cons:=@List.forall_mem_cons
theorem cD:type_of% @List.drop_eq_getElem_cons:=@List.drop_eq_getElem_cons
theorem cF:type_of% @PySem.Heap.get?_update_other:=@PySem.Heap.get?_update_other
theorem cI:type_of% @List.any_cons:=@List.any_cons
theorem cJ:type_of% @PySem.F.slot_dict_keyiterator_next:=@PySem.F.slot_dict_keyiterator_next
theorem cQ:type_of% @List.length_eq_zero_iff:=@List.length_eq_zero_iff
theorem cR:type_of% @PySem.Calls.spliced_nil:=@PySem.Calls.spliced_nil
theorem cY:type_of% @decide_eq_true_eq:=@decide_eq_true_eq
theorem cZ:type_of% @Nat.zero_add:=@Nat.zero_add
theorem db:type_of% @Nat.le_of_lt:=@Nat.le_of_lt
theorem de:type_of% @PySem.Calls.evalArgs_plain:=@PySem.Calls.evalArgs_plain
theorem dq:type_of% @List.any_eq_true:=@List.any_eq_true
theorem dw:type_of% @if_false:=@if_false
theorem dE:type_of% @PySem.wpAny_passesOwn:=@PySem.wpAny_passesOwn
theorem dI:type_of% @PySem.F.slot_dict_setdefault:=@PySem.F.slot_dict_setdefault
theorem dJ:type_of% @List.cons.injEq:=@List.cons.injEq
theorem e9:type_of% @PySem.eqIsQuiet_byValue:=@PySem.eqIsQuiet_byValue
theorem ef:type_of% @Int.emod_lt_of_pos:=@Int.emod_lt_of_pos
theorem eg:type_of% @PySem.Calls.callWith_builtin:=@PySem.Calls.callWith_builtin
theorem eh:type_of% @Bool.false_eq_true:=@Bool.false_eq_true
theorem eL:type_of% @List.mem_or_eq_of_mem_set:=@List.mem_or_eq_of_mem_set
theorem eM:type_of% @Array.getElem?_eq_getElem:=@Array.getElem?_eq_getElem
theorem eZ:type_of% @of_decide_eq_true:=@of_decide_eq_true
theorem fh:type_of% @PySem.wpAny_rule:=@PySem.wpAny_rule
theorem fx:type_of% @PySem.wpAny_standAt:=@PySem.wpAny_standAt
theorem fI:type_of% @PySem.wpAny_typeNameOfWhole_keyiter:=@PySem.wpAny_typeNameOfWhole_keyiter
theorem fJ:type_of% @PySem.wpAny_newFunctionEnv:=@PySem.wpAny_newFunctionEnv
theorem fK:type_of% @Nat.succ_ne_self:=@Nat.succ_ne_self
theorem fL:type_of% @List.filter_cons:=@List.filter_cons
theorem fM:type_of% @List.drop_length:=@List.drop_length
theorem gC:type_of% @PySem.F.slot_int_rmul:=@PySem.F.slot_int_rmul
theorem h9:type_of% @List.of_mem_zip:=@List.of_mem_zip
theorem hJ:type_of% @List.mem_filter:=@List.mem_filter
theorem hV:type_of% @List.foldl_cons:=@List.foldl_cons
theorem hZ:type_of% @Int.emod_nonneg:=@Int.emod_nonneg
theorem jq:type_of% @List.nodup_nil:=@List.nodup_nil
theorem jr:type_of% @PySem.F.slot_tuple_iterator_next:=@PySem.F.slot_tuple_iterator_next
noncomputable abbrev Fg9 := PySem.W.Frag
noncomputable abbrev Pn9 := List (PySem.Addr×PySem.Obj)
noncomputable abbrev VS9 := PySem.Value->PySem.Shared->Prop
section
namespace L2
open PySem PySem.Spec PyProof.Rows
noncomputable abbrev A7:=Sum Int Str
noncomputable def Q3k:A7->Value->Bool
 | .inl k,v=>Value.isInt k v
 | .inr x,v=>Value.isStrOf x v
noncomputable def keyH (w:World):A7->Int
 | .inl k=>hashInt k
 | .inr x=>hashStr w x
theorem Q0d:∀{k:A7}{v:Value},Q3k k v=true->(∃i t,k=Sum.inl i/\v=Value.int i t)\/(∃x t,k=Sum.inr x/\v=Value.str x t)
 | .inl i,v,h=>by
  obtain⟨t,e⟩:=Value.isInt_shape (k:=i) (v:=v) h
  exact .inl ⟨i,t,rfl,e⟩
 | .inr x,v,h=>by
  obtain⟨t,e⟩:=Value.isStrOf_shape (x:=x) (v:=v) h
  exact .inr ⟨x,t,rfl,e⟩
theorem Y9t (i:Int) (t:Tok):Q3k (.inl i) (.int i t)=true:=by simp [Q3k,Value.isInt]
theorem Y9u (x:Str) (t:Tok):Q3k (.inr x) (.str x t)=true:=by simp [Q3k,Value.isStrOf]
theorem Y9w (a b:Int):decide ((Sum.inl a:A7)=Sum.inl b)=(a==b):=by
 by_cases e:a=b
 ·subst e;simp
 ·have h:¬ (Sum.inl a:A7)=Sum.inl b:=fun q=>e (Sum.inl.inj q)
  rw [aK h]
  exact(bL.mpr e).symm
theorem Y9z (a b:Str):decide ((Sum.inr a:A7)=Sum.inr b)=decide (a=b):=by
 by_cases e:a=b
 ·subst e;simp
 ·have h:¬ (Sum.inr a:A7)=Sum.inr b:=fun q=>e (Sum.inr.inj q)
  rw [aK h,aK e]
theorem Y9x (a:Int) (b:Str):decide ((Sum.inl a:A7)=Sum.inr b)=false:=aK (fun q=>nomatch q)
theorem Y9y (a:Str) (b:Int):decide ((Sum.inr a:A7)=Sum.inl b)=false:=aK (fun q=>nomatch q)
noncomputable def J5 (prog:Program) (w:World):PySem.KeyKind prog w A7 where
 is:=Q3k
 hash:=keyH w
 inj:=fun v a b ha hb=>by
  rcases Q0d ha with⟨i,t,rfl,rfl⟩ | ⟨x,t,rfl,rfl⟩
  ·rcases Q0d hb with⟨j,u,rfl,e⟩ | ⟨y,u,rfl,e⟩
   ·injection e with e1 _;rw [e1]
   ·exact nomatch e
  ·rcases Q0d hb with⟨j,u,rfl,e⟩ | ⟨y,u,rfl,e⟩
   ·exact nomatch e
   ·injection e with e1 _;rw [e1]
 byValue:=fun k v h=>by
  rcases Q0d h with⟨i,t,rfl,rfl⟩ | ⟨x,t,rfl,rfl⟩ <;> rfl
 pyHash:=fun hv h=>by
  rcases Q0d hv with⟨i,t,rfl,rfl⟩ | ⟨x,t,rfl,rfl⟩
  ·exact wpAny_pyHash_int h
  ·exact wpAny_pyHash_str h
 eqBool:=fun hu hv h=>by
  rcases Q0d hu with⟨i,t,rfl,rfl⟩ | ⟨x,t,rfl,rfl⟩
  ·rcases Q0d hv with⟨j,u,rfl,rfl⟩ | ⟨y,u,rfl,rfl⟩
   ·rw [Y9w]at h;exact wpAny_eqBool_int h
   ·rw [Y9x]at h;exact SeqAt.EqAt.int_str i t y u _ _ _ _ h
  ·rcases Q0d hv with⟨j,u,rfl,rfl⟩ | ⟨y,u,rfl,rfl⟩
   ·rw [Y9y]at h;exact SeqAt.EqAt.str_int x t j u _ _ _ _ h
   ·rw [Y9z]at h;exact wpAny_eqBool_str h
 «strs»:=fun k x t v h=>by
  rcases Q0d h with⟨i,u,rfl,e⟩ | ⟨y,u,rfl,e⟩
  ·exact nomatch e
  ·injection e with e1 _
   subst e1
   cases v <;> rfl
theorem W1h (prog:Program) (w:World) (i:Int) (t:Tok):(J5 prog w).is (.inl i) (.int i t)=true:=Y9t i t
theorem W1i (prog:Program) (w:World) (x:Str) (t:Tok):(J5 prog w).is (.inr x) (.str x t)=true:=Y9u x t
end L2
namespace L2
open PySem PySem.Spec PyProof.Rows
inductive V where
 | non | bl (b:Bool) | int (i:Int) | str (x:Str) | byt (b:Array UInt8) | flt (b:UInt64) | ref (a:Addr) | ty (n:String)
 deriving DecidableEq
noncomputable def B9:V->Value->Prop
 | .non,u=>u=Value.none
 | .bl b,u=>u=Value.bool b
 | .int i,u=>∃t,u=Value.int i t
 | .str x,u=>∃t,u=Value.str x t
 | .byt b,u=>∃t,u=Value.bytes b t
 | .flt b,u=>∃t,u=Value.float b t
 | .ref a,u=>u=Value.ref a
 | .ty n,u=>u=Value.type n
noncomputable abbrev B4:List V->List Value->Prop:=Paired B9
theorem B4.length {xs:List V}{us:List Value} (r:B4 xs us):xs.length=us.length:=Paired.length r
theorem B4.get:∀{xs:List V}{us:List Value}{i:Nat}{x:V},B4 xs us->xs[i]?=some x->∃u,us[i]?=some u/\B9 x u
 | _,_,_,_,.nil,e=>by simp at e
 | _,_,0,_,.cons r _,e=>by simp at e;subst e;exact⟨_,rfl,r⟩
 | _,_,i+1,x,.cons _ t,e=>by
  obtain⟨u,h1,h2⟩:=B4.get (i:=i) (x:=x) t (by simpa using e)
  exact⟨u,by simpa using h1,h2⟩
theorem B4.set {x:V}{u:Value} (r:B9 x u):∀{xs:List V}{us:List Value} (i:Nat),B4 xs us->B4 (xs.set i x) (us.set i u)
 | _,_,_,.nil=>.nil
 | _,_,0,.cons _ t=>.cons r t
 | _,_,i+1,.cons q t=>.cons q (B4.set r i t)
theorem B4.append:∀{xs ys:List V}{us ws:List Value},B4 xs us->B4 ys ws->B4 (xs++ys) (us++ws)
 | _,_,_,_,.nil,s=>s
 | _,_,_,_,.cons r t,s=>.cons r (B4.append t s)
theorem B4.take:∀{xs:List V}{us:List Value} (n:Nat),B4 xs us->B4 (xs.take n) (us.take n)
 | _,_,0,_=>.nil
 | _,_,_+1,.nil=>.nil
 | _,_,n+1,.cons r t=>.cons r (B4.take n t)
theorem B4.drop:∀{xs:List V}{us:List Value} (n:Nat),B4 xs us->B4 (xs.drop n) (us.drop n)
 | _,_,0,r=>r
 | _,_,_+1,.nil=>.nil
 | _,_,n+1,.cons _ t=>B4.drop n t
noncomputable def W7:Option V->Option Value->Prop
 | some v,some u=>B9 v u
 | none,none=>True
 | _,_=>False
noncomputable def KV {κ:Type}:List (κ×V)->List (κ×Value)->Prop:=Paired fun(p:κ×V) (q:κ×Value)=>p.1=q.1/\B9 p.2 q.2
noncomputable def kV:A7->V
 | .inl i=>.int i
 | .inr x=>.str x
inductive HO where
 | lst (xs:List V)
 | tup (xs:List V)
 | dK (kvs:List (A7×V)) | dT (kvs:List (List A7×V))
 | set (S:Int->Bool) (n:Nat)
 | ins (C dx:Addr) (fs:List (Str×V))
 | own (x:Addr)
 | xd (fs:List (Str×V))
 | met (f x:Addr)
 | rng (lo hi:Int)
 | frz (o:Obj) (u:HO)
 | tab
 | tbl (ps:Array Value)
 | ext (φ:Heap->Prop)
noncomputable abbrev Hp:=Addr->Option HO
noncomputable def upd (H:Hp) (a:Addr) (o:HO):Hp:=fun b=>if b=a then some o else H b
theorem upd_same {H:Hp}{a:Addr}{o:HO}:upd H a o a=some o:=by unfold upd;rw [aJ rfl]
theorem A9 {H:Hp}{a b:Addr}{o:HO} (h:b≠a):upd H a o b=H b:=by unfold upd;rw [aH h]
theorem X5 {H:Hp}{a b:Addr}{o u:HO} (h:H a=some o) (h':H b=some u) (d:o≠u):a≠b:=by
 intro e;subst e;rw [h]at h';exact d (aC h')
theorem U3 {H:Hp}{a b:Addr}{o:HO} (h:H a=some o) (h':H b=none):a≠b:=by
 intro e;subst e;rw [h]at h';cases h'
def Q6v (o:Obj):Prop:=∃vs q t,o.data=.fields vs/\vs[1]?=some (Value.str q t)
def Q6w (a:Addr) (u:HO):Prop:=u=.own a\/∃o,u=.frz o (.own a)
section
variable (P:Program) (w:World)
noncomputable def F5 (H:Hp) (h:Heap) (a:Addr):HO->Prop
 | .lst xs=>xs.length<=sizeLine/\∃(aU:List Value) (n:Nat),B4 xs aU/\h.get? a=some { cls:=.type "list",data:=.seq aU.toArray n }
 | .tup xs=>xs.length<=sizeLine/\∃aU:List Value,B4 xs aU/\IsTup h a aU.toArray
 | .dK kvs=>kvs.length<=sizeLine/\(a==sysModules)=false/\∃vs,KV kvs vs/\h.DictOf (J5 P w) a vs
 | .dT kvs=>kvs.length<=sizeLine/\(a==sysModules)=false/\∃xs:List (List A7×Addr×Value),
   Paired (fun(p:List A7×V) (q:List A7×Addr×Value)=>p.1=q.1/\H q.2.1=some (.tup (p.1.map kV))/\B9 p.2 q.2.2) kvs xs /\
   ∃o es ep,h.get? a=some o/\o.ExactDict/\o.data=.dict es ep/\es.toList=xs.map (entryOfKey (tupleKind (J5 P w)))/\(xs.map (·.1)).Nodup
 | .set S n=>h.SetOf (intKind P w) a S n
 | .ins C dx fs=>H dx=some (.own a)/\fs.length<=1000/\dx≠a/\h.get? a=some (PySem.W.instObj C dx) /\
   ∃mA,h.Ns1 dx mA/\(∀f,W7 (fs.lookup f) (mA f))/\PySem.Within mA (fs.map (·.1))
 | .own _=>∃o,h.get? a=some o
 | .xd fs=>∃mA,h.Ns1 a mA/\∀f,W7 (fs.lookup f) (mA f)
 | .rng lo hi=>∃t u v,h.get? a=some { cls:=.type "range",data:=.fields #[.int lo t,.int hi u,.int 1 v] }
 | .frz o u=>h.get? a=some o/\F5 H h a u
 | .tab=>∃ps,h.get? a=some (PySem.W.tabObj ps)/\TriplesOk ps.toList/\∀pos cv,codeAmong pos ps.toList=some cv->∃c' oc,cv=.ref c'/\H c'=some (.frz oc (.own a))/\Q6v oc
 | .tbl ps=>h.get? a=some { cls:=.none,data:=.fields ps }
 | .met f x=>h.get? a=some (PySem.W.methodObj (.ref f) (.ref x))
 | .ext φ=>φ h/\(∃o,h.get? a=some o)/\∀h1 h2:Heap,φ h1->(∀o,h1.get? a=some o->h2.get? a=some o)->φ h2
def F1 (H:Hp) (h:Heap):Prop:=∀a o,H a=some o->F5 P w H h a o
end
section
variable {P:Program}{w:World}{H H':Hp}{h h':Heap}{a:Addr}{o:HO}
theorem F5.lt (x:F5 P w H h a o):a<h.objs.size:=by
 cases o with
 | lst xs=>obtain⟨_,_,_,_,e⟩:=x;exact ay e
 | tup xs=>obtain⟨_,_,_,p⟩:=x;exact p.lt
 | dK kvs=>obtain⟨_,_,_,_,o,_,_,e,_⟩:=x;exact ay e
 | dT kvs=>obtain⟨_,_,_,_,o,_,_,e,_⟩:=x;exact ay e
 | set S n=>obtain⟨o,_,_,_,e,_⟩:=x;exact ay e
 | ins C dx fs=>obtain⟨_,_,_,e,_⟩:=x;exact ay e
 | own y=>obtain⟨_,e⟩:=x;exact ay e
 | xd fs=>obtain⟨_,⟨_,_,_,e,_⟩,_⟩:=x;exact ay e
 | rng lo hi=>obtain⟨_,_,_,e⟩:=x;exact ay e
 | frz ob u=>obtain⟨e,_⟩:=x;exact ay e
 | tab=>obtain⟨_,e,_⟩:=x;exact ay e
 | tbl ps=>exact ay (show h.get? a=some _ from x)
 | met f y=>exact ay (show h.get? a=some _ from x)
 | ext φ=>obtain⟨_,⟨_,e⟩,_⟩:=x;exact ay e
theorem Paired.mapP {α β:Type}{F G:α->β->Prop}:∀{l₁:List α}{l₂:List β},Paired F l₁ l₂->(∀a b,F a b->G a b)->Paired G l₁ l₂
 | _,_,.nil,_=>.nil
 | _,_,.cons r t,f=>.cons (f _ _ r) (Paired.mapP t f)
theorem F5.stay (x:F5 P w H h a o) (k:∀b u,(b=a\/H b=some (.own a))->h.get? b=some u->h'.get? b=some u)
  (ho:∀b u,Q6w a u->H b=some u->H' b=some u) (ht:∀b xs,H b=some (.tup xs)->H' b=some (.tup xs)):F5 P w H' h' a o:=by
 induction o with
 | lst xs=>obtain⟨z,aU,n,r,e⟩:=x;exact⟨z,aU,n,r,k _ _ (.inl rfl) e⟩
 | tup xs=>obtain⟨z,aU,r,ob,e,c⟩:=x;exact⟨z,aU,r,ob,k _ _ (.inl rfl) e,c⟩
 | dK kvs=>obtain⟨z,y,vs,r,ob,es,ep,e,c⟩:=x;exact⟨z,y,vs,r,ob,es,ep,k _ _ (.inl rfl) e,c⟩
 | dT kvs =>
  obtain⟨z,y,xs,r,ob,es,ep,e,c⟩:=x
  exact⟨z,y,xs,Paired.mapP r fun p q z=>⟨z.1,ht _ _ z.2.1,z.2.2⟩,ob,es,ep,k _ _ (.inl rfl) e,c⟩
 | set S n=>obtain⟨ob,es,ep,t,e,c⟩:=x;exact⟨ob,es,ep,t,k _ _ (.inl rfl) e,c⟩
 | ins C dx fs =>
  obtain⟨d,z,ne,e,mA,⟨od,es,ep,e2,c⟩,r⟩:=x
  exact⟨ho _ _ (.inl rfl) d,z,ne,k _ _ (.inl rfl) e,mA,⟨od,es,ep,k _ _ (.inr d) e2,c⟩,r⟩
 | own y=>obtain⟨ob,e⟩:=x;exact⟨ob,k _ _ (.inl rfl) e⟩
 | xd fs=>obtain⟨mA,⟨od,es,ep,e,c⟩,r⟩:=x;exact⟨mA,⟨od,es,ep,k _ _ (.inl rfl) e,c⟩,r⟩
 | rng lo hi=>obtain⟨t,u,v,e⟩:=x;exact⟨t,u,v,k _ _ (.inl rfl) e⟩
 | frz ob u ih=>obtain⟨e,q⟩:=x;exact⟨k _ _ (.inl rfl) e,ih q⟩
 | tab =>
  obtain⟨ps,e,t,en⟩:=x
  exact⟨ps,k _ _ (.inl rfl) e,t,fun pos cv q=>let ⟨c',oc,e1,e2,e3⟩:=en pos cv q;⟨c',oc,e1,ho _ _ (.inr ⟨_,rfl⟩) e2,e3⟩⟩
 | tbl ps =>
  have e:h.get? a=some { cls:=.none,data:=.fields ps }:=x
  show h'.get? a=some { cls:=.none,data:=.fields ps }
  exact k a _ (.inl rfl) e
 | met f y =>
  have e:h.get? a=some (PySem.W.methodObj (.ref f) (.ref y)):=x
  show h'.get? a=some (PySem.W.methodObj (.ref f) (.ref y))
  exact k a _ (.inl rfl) e
 | ext φ=>obtain⟨p,⟨o,e⟩,st⟩:=x;exact⟨st _ _ p fun o q=>k _ _ (.inl rfl) q,⟨o,k _ _ (.inl rfl) e⟩,st⟩
theorem F1.lt (x:F1 P w H h) (e:H a=some o):a<h.objs.size:=(x a o e).lt
theorem F1.fresh (x:F1 P w H h) (e:h.objs.size<=a):H a=none:=by
 cases q:H a with
 | none=>rfl
 | some u=>exact absurd (az (x.lt q) e) (aT _)
theorem F1.kept (x:F1 P w H h) (k:∀b u,h.get? b=some u->h'.get? b=some u):F1 P w H h':=fun a o e =>
 (x a o e).stay (fun b u _ q=>k b u q) (fun _ _ _ q=>q) fun _ _ q=>q
theorem F1.laid (x:F1 P w H h) (k:∀b u,h.get? b=some u->h'.get? b=some u) (hp:h.objs.size<=a) (new:F5 P w (upd H a o) h' a o):F1 P w (upd H a o) h':=fun b u e=>by
 have hn:=x.fresh hp
 by_cases hb:b=a
 ·subst hb;rw [upd_same]at e;cases e;exact new
 ·rw [A9 hb]at e
  exact(x b u e).stay (fun c v _ q=>k c v q) (fun c u _ q=>by rw [A9 (U3 q hn)];exact q) fun c xs q=>by rw [A9 (U3 q hn)];exact q
end
def Rd (H:Hp) (a:Addr) (u:HO):Prop:=H a=some u\/∃o,H a=some (.frz o u)
theorem Rd.ok {P:Program}{w:World}{H:Hp}{h:Heap}{a:Addr}{u:HO} (r:Rd H a u) (x:F1 P w H h):F5 P w H h a u:=by
 rcases r with r | ⟨o,r⟩
 ·exact x a u r
 ·obtain⟨_,q⟩:=x a _ r
  exact q
noncomputable def Mut:Option HO->Prop
 | some (.lst _)=>True
 | some (.dK _)=>True
 | some (.dT _)=>True
 | some (.set _ _)=>True
 | some (.ins _ _ _)=>True
 | some (.ext _)=>True
 | some .tab=>True
 | _=>False
section
variable {P:Program}{w:World}{H:Hp}{h h':Heap}{x e:Addr}{o':HO}
theorem F1.write (ok:F1 P w H h) (mu:Mut (H x)) (he:e=x\/H e=some (.own x)) (k:∀b u,b≠e->h.get? b=some u->h'.get? b=some u) (jo:∃u,h'.get? e=some u)
  (new:F5 P w (upd H x o') h' x o'):F1 P w (upd H x o') h':=fun b u q=>by
 have l8:∀c y,H c=some (.own y)->c≠x:=fun c y r z=>by subst z;rw [r]at mu;exact mu
 have jA:∀c u y,Q6w y u->H c=some u->c≠x:=fun c u y ow r z=>by
  subst z
  rw [r]at mu
  rcases ow with rfl | ⟨o,rfl⟩
  ·exact mu
  ·exact mu
 have l7:∀c xs,H c=some (.tup xs)->c≠x:=fun c xs r z=>by subst z;rw [r]at mu;exact mu
 by_cases hb:b=x
 ·subst hb;rw [upd_same]at q;cases q;exact new
 ·rw [A9 hb]at q
  by_cases hbe:b=e
  ·have q':H b=some (.own x):=by
    rcases he with z | z
    ·exact absurd (hbe.trans z) hb
    ·rw [hbe];exact z
   rw [q]at q';cases q'
   obtain⟨v,hv⟩:=jo
   exact⟨v,by rw [hbe];exact hv⟩
  ·refine(ok b u q).stay (fun c v hc r=>k c v ?_ r) (fun c u ow r=>by rw [A9 (jA c u b ow r)];exact r) fun c xs r=>by rw [A9 (l7 c xs r)];exact r
   rcases hc with rfl | hc
   ·exact hbe
   ·rintro rfl
    rcases he with z | z
    ·exact l8 c b hc z
    ·rw [hc]at z;cases z;exact hb rfl
end
structure Un (fs ex:List Addr) (H H':Hp) (h h':Heap):Prop where
 keep:∀b o,h.get? b=some o->H b=none->b∉fs->b∉ex->h'.get? b=some o
 slot:∀b o,h.get? b=some o->H b=none->b∈fs->b∉ex->∃sl,h'.get? b=some { o with slots:=sl }
 free:∀b o,h.get? b=some o->H b=none->b∉ex->H' b=none
 there:∀b o,h.get? b=some o->b∉ex->∃o',h'.get? b=some o'
 tups:∀b xs,H b=some (.tup xs)->H' b=some (.tup xs)
 frzs:∀b o u,H b=some (.frz o u)->H' b=some (.frz o u)
 tbls:∀b ps,H b=some (.tbl ps)->∃more,H' b=some (.tbl (ps++more))
section
variable {fs r8 ex se:List Addr}{H H1 H2:Hp}{h h1 h2 h':Heap}{a x e:Addr}{o:HO}
theorem Un.any (u:Un fs ex H H1 h h1) {b:Addr}{ob:Obj} (q:h.get? b=some ob) (n:H b=none) (hx:b∉ex):∃sl,h1.get? b=some { ob with slots:=sl }:=by
 by_cases hb:b∈fs
 ·exact u.slot b ob q n hb hx
 ·exact⟨ob.slots,u.keep b ob q n hb hx⟩
theorem Un.kept (k:∀b u,h.get? b=some u->h'.get? b=some u):Un fs ex H H h h' :=
 ⟨fun b ob q _ _ _=>k b ob q,fun b ob q _ _ _=>⟨ob.slots,k b ob q⟩,fun _ _ _ n _=>n,fun b ob q _=>⟨ob,k b ob q⟩,fun _ _ q=>q,fun _ _ _ q=>q,fun _ ps q=>⟨#[],by rw [q];simp⟩⟩
theorem Un.refl:Un fs ex H H h h:=Un.kept fun _ _ q=>q
theorem Un.laid (k:∀b u,h.get? b=some u->h'.get? b=some u) (hp:h.objs.size<=a) (hn:H a=none):Un fs ex H (upd H a o) h h' where
 keep:=fun b u q _ _ _=>k b u q
 slot:=fun b u q _ _ _=>⟨u.slots,k b u q⟩
 free:=fun b u q n _=>by rw [A9 (aB (az (ay q) hp))];exact n
 there:=fun b u q _=>⟨u,k b u q⟩
 tups:=fun b xs q=>by rw [A9 (U3 q hn)];exact q
 frzs:=fun b u xs q=>by rw [A9 (U3 q hn)];exact q
 tbls:=fun b ps q=>⟨#[],by rw [A9 (U3 q hn),q];simp⟩
theorem Un.write (mu:Mut (H x)) (he:e=x\/H e=some (.own x)) (k:∀b u,b≠e->h.get? b=some u->h'.get? b=some u) (jo:∃u,h'.get? e=some u):Un fs ex H (upd H x o) h h':=by
 have hx:∀b,H b=none->b≠x:=fun b n z=>by subst z;rw [n]at mu;exact mu
 have hb:∀b,H b=none->b≠e:=fun b n z=>by
  subst z
  rcases he with r | r
  ·exact hx b n r
  ·rw [n]at r;cases r
 have hm:∀b u,H b=some u->¬ Mut (some u)->b≠x:=fun b u q nm z=>by subst z;rw [q]at mu;exact nm mu
 refine⟨fun b u q n _ _=>k b u (hb b n) q,fun b u q n _ _=>⟨u.slots,k b u (hb b n) q⟩,fun b u q n _=>by rw [A9 (hx b n)];exact n,fun b u q _=>?_,
  fun b xs q=>by rw [A9 (hm b _ q fun z=>z)];exact q,fun b u xs q=>by rw [A9 (hm b _ q fun z=>z)];exact q,fun b ps q=>⟨#[],by rw [A9 (hm b _ q fun z=>z),q];simp⟩⟩
 by_cases hbe:b=e
 ·subst hbe;exact jo
 ·exact⟨u,k b u hbe q⟩
end
noncomputable def trk (h:Heap) (H:Hp):List Addr:=(List.range h.objs.size).filter fun a=>(H a).isSome
noncomputable def Q0b (h:Heap) (H:Hp):Heap:=PySem.W.hideAll h (trk h H)
theorem Y8t (h:Heap) (H:Hp):(Q0b h H).objs.size=h.objs.size:=PySem.W.hideAll_size _ _
theorem Y8s {h:Heap}{H:Hp}{b:Addr}{o:Obj} (e:h.get? b=some o) (n:H b=none):(Q0b h H).get? b=some o :=
 PySem.W.hideAll_get _ e fun hm=>by
  have q:(H b).isSome=true:=(hJ.mp hm).2
  rw [n]at q;simp at q
theorem W2n {h:Heap}{H:Hp}{b:Addr}{o:Obj} (e:(Q0b h H).get? b=some o):h.get? b=some o/\H b=none:=by
 have e':h.get? b=some o:=PySem.W.of_hideAll (trk h H) e
 refine⟨e',?_⟩
 cases q:H b with
 | none=>rfl
 | some x =>
  have hm:b∈trk h H:=hJ.mpr ⟨bp.mpr (ay e'),by simp [q]⟩
  have z:(Q0b h H).get? b=none:=PySem.W.hideAll_none (trk h H) hm
  rw [z]at e;cases e
end L2
namespace L2
open PySem PySem.Spec PyProof.Rows
structure Mod (K:Fg9) (mg:Str->Option Value) (base:Heap):Prop where
 kin:K.In base
 glob:base.Ns mainGlobals mg
 blt:∃mb,base.Ns builtinsNs mb/\∀x:Str,x≠"__name__"->mb x=bootBuiltins x
 nolimit:base.NoLimit
structure Cx where
 prog:Program
 w:World
 K:Fg9
 mg:Str->Option Value
 base:Heap
 A:Around
 N:List Str
 s₀:Shared
 H₀:Hp
 env:Env
 outer:List Env
 stack:List Env
 ex:List Addr
 fn:Str->Bool
 calm:Bool
 pn:Pn9
 xe:VS9
noncomputable def frs (l:List Env):List Addr:=l.filterMap (·.frame)
noncomputable abbrev Cx.fs (X:Cx):List Addr:=frs X.outer
def Vis (sc:Scope) (x:Str):Prop:=sc.names.lookup x=some .local\/sc.names.lookup x=some .cell\/sc.names.lookup x=some .free
def Loc (sc:Scope) (x:Str):Prop:=sc.names.lookup x=some .local\/sc.names.lookup x=some .cell
def Look (env:Env) (h:Heap) (m:Str->Option Value) (x:Str) (u:Value):Prop :=
 (env.kindOf x=some .local/\m x=some u)\/((env.kindOf x=some .cell\/env.kindOf x=some .free)/\∃c,env.cells.lookup x=some c/\h.IsCell c (some u))
structure Cx.Ok (X:Cx):Prop where
 mod:Mod X.K X.mg X.base
 kind:X.env.scope.kind=.function
 glob:X.env.globals=mainGlobals
 blt:X.env.builtins=builtinsNs
 above:X.s₀.heap.objs.size<=X.env.locals
 inj:∀x y c,X.env.cells.lookup x=some c->X.env.cells.lookup y=some c->x=y
 has:∀x,(X.env.kindOf x=some .cell\/X.env.kindOf x=some .free)->∃c,X.env.cells.lookup x=some c
 cab:∀x c,X.fn x=true->X.env.cells.lookup x=some c->X.s₀.heap.objs.size<=c
 hd:X.calm=true->X.A.handled=none
 frames:X.A.frames=some X.stack
 stk:X.stack=X.outer\/(X.stack=X.env::X.outer/\X.env.frame=some X.env.locals)
 exf:∀b∈X.ex,b≠X.env.locals/\∀x c,X.env.cells.lookup x=some c->c≠b
 bs:∀b o,X.base.get? b=some o->X.s₀.heap.get? b=some o/\X.H₀ b=none
 bsz:X.base.objs.size<=X.s₀.heap.objs.size
 noex:∀b o,X.base.get? b=some o->b∉X.ex
 exfs:∀b∈X.ex,b∉X.fs
 funs:X.s₀.heap.FunFrames X.base X.outer
 frf:∀b∈X.fs,X.H₀ b=none
structure A0 (X:Cx) (ac:Pn9) (σ:List (Option V)) (H:Hp) (s:Shared):Prop where
 ok:X.Ok
 os:s.os=X.s₀.os
 bare:AllBare s.gens
 base:Un X.fs X.ex X.H₀ H X.s₀.heap s.heap
 loc:∃m,s.heap.Ns X.env.locals m/\∀(i:Nat) (x:Str) (v:V),X.N[i]?=some x->σ[i]?=some (some v)->Vis X.env.scope x->∃u,B9 v u/\Look X.env s.heap m x u
 cell:∀x c,X.env.cells.lookup x=some c->∃v,s.heap.IsCell c v
 free:H X.env.locals=none
 freeC:∀x c,X.env.cells.lookup x=some c->H c=none
 pin:∀p∈X.pn++ac,s.heap.get? p.1=some p.2/\H p.1=none/\p.1≠X.env.locals/\p.1∉X.fs/\∀v,p.2.data≠.cell v
 hok:F1 X.prog X.w H s.heap
 len:σ.length=X.N.length
section
variable {X:Cx}{ac:Pn9} {σ:List (Option V)}{H H':Hp}{s:Shared}{h':Heap}
theorem Cx.Ok.nofr (ok:X.Ok) {b:Addr}{o:Obj} (e:X.base.get? b=some o):b∉X.fs:=fun hb=>by
 have:=(ok.funs.mem hb).1
 rw [e]at this;cases this
theorem A0.bs (I:A0 X ac σ H s):∀b o,X.base.get? b=some o->s.heap.get? b=some o/\H b=none:=fun b o e =>
 ⟨I.base.keep b o (I.ok.bs b o e).1 (I.ok.bs b o e).2 (I.ok.nofr e) (I.ok.noex b o e),I.base.free b o (I.ok.bs b o e).1 (I.ok.bs b o e).2 (I.ok.noex b o e)⟩
theorem A0.bk (I:A0 X ac σ H s):∀b o,X.base.get? b=some o->s.heap.get? b=some o:=fun b o e=>(I.bs b o e).1
theorem A0.mod (I:A0 X ac σ H s):Mod X.K X.mg X.base:=I.ok.mod
theorem A0.kIn (I:A0 X ac σ H s):X.K.In s.heap:=I.ok.mod.kin.keeps I.bk
theorem A0.lt (I:A0 X ac σ H s):X.env.locals<s.heap.objs.size:=let ⟨_,hn,_⟩:=I.loc;hn.lt
theorem A0.sz (I:A0 X ac σ H s):X.s₀.heap.objs.size<=s.heap.objs.size:=aX I.ok.above (db I.lt)
theorem A0.nofs (I:A0 X ac σ H s) {a:Addr} (h:s.heap.objs.size<=a):a∉X.fs:=fun hb=>by
 obtain⟨_,o,ho,_⟩:=I.ok.funs.mem hb
 exact absurd (az (ay ho) (aX I.sz h)) (aT _)
theorem A0.cne (I:A0 X ac σ H s):∀x c,X.env.cells.lookup x=some c->c≠X.env.locals:=fun x c e z=>by
 obtain⟨v,o,ho,hd⟩:=I.cell x c e
 obtain⟨m,⟨o',es,ep,iY,qF,_⟩,_⟩:=I.loc
 rw [z,iY]at ho;cases ho;rw [qF]at hd;cases hd
theorem A0.funs (I:A0 X ac σ H s):s.heap.FunFrames X.base X.outer:=by
 have all:∀(l:List Env),(∀b∈frs l,b∈X.fs)->X.s₀.heap.FunFrames X.base l->s.heap.FunFrames X.base l:=by
  intro l
  induction l with
  | nil=>intro _ _;trivial
  | cons env r ih =>
   intro hs hl
   obtain⟨hk,⟨L,o,hf,hn,ho,hd⟩,hr⟩:=hl
   have hL:L∈X.fs:=hs L (by unfold frs;rw [List.filterMap_cons,hf];exact ao)
   obtain⟨sl,e⟩:=I.base.slot L o ho (I.ok.frf L hL) hL fun z=>I.ok.exfs L z hL
   exact⟨hk,⟨L,_,hf,hn,e,hd⟩,ih (fun b hb=>hs b (by unfold frs;rw [List.filterMap_cons,hf];exact ar _ hb)) hr⟩
 exact all X.outer (fun _ hb=>hb) I.ok.funs
theorem A0.stack (I:A0 X ac σ H s):s.heap.FunFrames X.base X.stack:=by
 rcases I.ok.stk with e | ⟨e,hf⟩
 ·rw [e];exact I.funs
 ·rw [e]
  obtain⟨m,hn,_⟩:=I.loc
  refine .cons (by rw [I.ok.kind];decide) hf hn ?_ I.funs
  exact Heap.get?_none_of_le (aX I.ok.bsz I.ok.above)
theorem A0.stkSub (I:A0 X ac σ H s):∀b∈frs X.stack,b∈X.env.locals::X.fs:=fun b hb=>by
 rcases I.ok.stk with e | ⟨e,hf⟩
 ·rw [e]at hb;exact ar _ hb
 ·rw [e]at hb
  unfold frs at hb
  rw [List.filterMap_cons,hf]at hb
  exact hb
theorem A0.stkFree (I:A0 X ac σ H s):∀b∈frs X.stack,H b=none:=fun b hb=>by
 rcases aq.mp (I.stkSub b hb)with e | hb
 ·rw [e];exact I.free
 ·obtain⟨_,o,ho,_⟩:=I.ok.funs.mem hb
  exact I.base.free b o ho (I.ok.frf b hb) fun z=>I.ok.exfs b z hb
theorem A0.step {g':Array GenState}{t':Nat}{d':Drawn}{ch:List Addr} (I:A0 X ac σ H s)
  (gx:∀b∈ch,(b∈X.ex\/X.s₀.heap.objs.size<=b)/\b≠X.env.locals/\(∀x c,X.env.cells.lookup x=some c->c≠b)/\∀p∈X.pn++ac,p.1≠b)
  (keep:∀b o,b≠X.env.locals->b∉X.fs->b∉ch->s.heap.get? b=some o->H b=none->h'.get? b=some o)
  (slot:∀b o,b≠X.env.locals->b∈X.fs->b∉ch->s.heap.get? b=some o->H b=none->∃sl,h'.get? b=some { o with slots:=sl }) (free:∀b o,b∉ch->s.heap.get? b=some o->H b=none->H' b=none)
  (there:∀b o,b∉ch->s.heap.get? b=some o->∃o',h'.get? b=some o')
  (tups:∀b xs,H b=some (.tup xs)->H' b=some (.tup xs)) (frzs:∀b o u,H b=some (.frz o u)->H' b=some (.frz o u)) (tbls:∀b ps,H b=some (.tbl ps)->∃more,H' b=some (.tbl (ps++more)))
  (ns:∀m,s.heap.Ns X.env.locals m->h'.Ns X.env.locals m) (hok:F1 X.prog X.w H' h') (hg:AllBare g') :
  A0 X ac σ H' { s with heap:=h',gens:=g',drawn:=d',toks:=t' }:=by
 have mV:∀b o,X.s₀.heap.get? b=some o->b≠X.env.locals:=fun b o e=>aB (az (ay e) I.ok.above)
 have gk:∀b o,X.s₀.heap.get? b=some o->b∉X.ex->b∉ch:=fun b o e hx hb=>by
  rcases (gx b hb).1 with z | z
  ·exact hx z
  ·exact absurd (az (ay e) z) (aT _)
 have iG:∀x c,X.env.cells.lookup x=some c->∀v,s.heap.IsCell c v->h'.IsCell c v:=fun x c e v ⟨o,ho,hd⟩=>by
  have jC:c∉ch:=fun z=>(gx c z).2.2.1 x c e rfl
  by_cases hc:c∈X.fs
  ·obtain⟨sl,q⟩:=slot c o (I.cne x c e) hc jC ho (I.freeC x c e)
   exact⟨_,q,hd⟩
  ·exact⟨o,keep c o (I.cne x c e) hc jC ho (I.freeC x c e),hd⟩
 refine⟨I.ok,I.os,hg,⟨fun b o e n hb hx=>?_,fun b o e n hb hx=>?_,fun b o e n hx=>?_,fun b o e hx=>?_,fun b xs e=>tups b xs (I.base.tups b xs e),fun b o xs e=>frzs b o xs (I.base.frzs b o xs e),fun b ps e=>?_⟩,?_,fun x c e=>?_,?_,fun x c e=>?_,fun p hp=>?_,hok,I.len⟩
 ·exact keep b o (mV b o e) hb (gk b o e hx) (I.base.keep b o e n hb hx) (I.base.free b o e n hx)
 ·obtain⟨sl,e1⟩:=I.base.slot b o e n hb hx
  obtain⟨oM,e2⟩:=slot b _ (mV b o e) hb (gk b o e hx) e1 (I.base.free b o e n hx)
  exact⟨oM,e2⟩
 ·obtain⟨o',e1⟩:=I.base.there b o e hx
  exact free b o' (gk b o e hx) e1 (I.base.free b o e n hx)
 ·obtain⟨o',e1⟩:=I.base.there b o e hx
  exact there b o' (gk b o e hx) e1
 ·obtain⟨m1,e1⟩:=I.base.tbls b ps e
  obtain⟨m2,e2⟩:=tbls b _ e1
  exact⟨m1++m2,by rw [e2,Array.append_assoc]⟩
 ·obtain⟨m,hn,hl⟩:=I.loc
  refine⟨m,ns m hn,fun i x v e1 e2 e3=>?_⟩
  obtain⟨u,r,l⟩:=hl i x v e1 e2 e3
  refine⟨u,r,?_⟩
  rcases l with l | ⟨k,c,e,z⟩
  ·exact .inl l
  ·exact .inr ⟨k,c,e,iG x c e _ z⟩
 ·obtain⟨v,z⟩:=I.cell x c e
  exact⟨v,iG x c e v z⟩
 ·obtain⟨m,⟨o,_,_,ho,_⟩,_⟩:=I.loc
  exact free _ o (fun z=>(gx _ z).2.1 rfl) ho I.free
 ·obtain⟨v,o,ho,hd⟩:=I.cell x c e
  exact free c o (fun z=>(gx c z).2.2.1 x c e rfl) ho (I.freeC x c e)
 ·obtain⟨e,n,ne,nf,d⟩:=I.pin p hp
  have jC:p.1∉ch:=fun z=>(gx p.1 z).2.2.2 p hp rfl
  exact⟨keep p.1 p.2 ne nf jC e n,free p.1 p.2 jC e n,ne,nf,d⟩
theorem A0.un {t':Nat} (I:A0 X ac σ H s) (u:Un X.fs [] H H' s.heap h') (hok:F1 X.prog X.w H' h'):A0 X ac σ H' { s with heap:=h',toks:=t' }:=by
 obtain⟨m,⟨o,es,ep,ho,r⟩,_⟩:=id I.loc
 obtain⟨sl,hL⟩:=u.any ho I.free (by simp)
 exact I.step (g':=s.gens) (d':=s.drawn) (ch:=[]) (fun _ z=>nomatch z) (fun b o _ hb _ e n=>u.keep b o e n hb (by simp)) (fun b o _ hb _ e n=>u.slot b o e n hb (by simp)) (fun b o _ e n=>u.free b o e n (by simp)) (fun b o _ e=>u.there b o e (by simp)) u.tups u.frzs u.tbls (fun m' hm=>by
  obtain⟨o',cH,kK,iY,r'⟩:=hm
  rw [ho]at iY;cases iY
  exact⟨_,cH,kK,hL,r'⟩) hok I.bare
theorem A0.call {g':Array GenState}{t':Nat}{d':Drawn}{ch:List Addr} (I:A0 X ac σ H s) (u:Un (frs X.stack) ch H H' s.heap h') (hok:F1 X.prog X.w H' h') (hg:AllBare g')
  (gx:∀b∈ch,(b∈X.ex\/X.s₀.heap.objs.size<=b)/\b≠X.env.locals/\(∀x c,X.env.cells.lookup x=some c->c≠b)/\∀p∈X.pn++ac,p.1≠b) :
  A0 X ac σ H' { s with heap:=h',gens:=g',drawn:=d',toks:=t' }:=by
 obtain⟨m,⟨o,es,ep,ho,r⟩,_⟩:=id I.loc
 obtain⟨sl,hL⟩:=u.any ho I.free fun z=>(gx _ z).2.1 rfl
 exact I.step (ch:=ch) gx (fun b o hL hb hc e n=>u.keep b o e n (fun z=>(aq.mp (I.stkSub b z)).elim hL hb) hc) (fun b o _ _ hc e n=>u.any e n hc) (fun b o hc e n=>u.free b o e n hc) (fun b o hc e=>u.there b o e hc) u.tups u.frzs u.tbls (fun m' hm=>by
  obtain⟨o',cH,kK,iY,r'⟩:=hm
  rw [ho]at iY;cases iY
  exact⟨_,cH,kK,hL,r'⟩) hok hg
theorem A0.turned {t':Nat}{it:Addr} (I:A0 X ac σ H s) (k:∀b o,b≠it->s.heap.get? b=some o->h'.get? b=some o) (hn:H it=none) (hL:it≠X.env.locals)
  (h1:it∈X.ex\/X.s₀.heap.objs.size<=it) (h2:∀x c,X.env.cells.lookup x=some c->c≠it) (h3:∀p∈X.pn++ac,p.1≠it):A0 X ac σ H { s with heap:=h',toks:=t' }:=by
 have i8:∀b u,H b=some u->b≠it:=fun b u e z=>by rw [z,hn]at e;cases e
 refine I.step (g':=s.gens) (d':=s.drawn) (ch:=[it]) (fun b hb=>?_) (fun b o _ _ hc e _=>k b o (fun z=>hc (by simp [z])) e) (fun b o _ _ hc e _=>⟨o.slots,k b o (fun z=>hc (by simp [z])) e⟩) (fun _ _ _ _ n=>n)
  (fun b o hc e=>⟨o,k b o (fun z=>hc (by simp [z])) e⟩) (fun _ _ e=>e) (fun _ _ _ e=>e) (fun b ps e=>⟨#[],by rw [e];simp⟩) (fun m hm=>?_) (fun b u e=>?_) I.bare
 ·have e:b=it:=by simpa using hb
  subst e
  exact⟨h1,hL,h2,h3⟩
 ·obtain⟨o,es,ep,ho,r⟩:=hm
  exact⟨o,es,ep,k _ o (bt hL) ho,r⟩
 ·refine(I.hok b u e).stay (fun c v hc q=>k c v ?_ q) (fun _ _ _ q=>q) fun _ _ q=>q
  rcases hc with z | z
  ·rw [z];exact i8 b u e
  ·exact i8 c _ z
theorem A0.tok (I:A0 X ac σ H s) (t:Nat):A0 X ac σ H { s with toks:=t }:=I.un (h':=s.heap) (t':=t) Un.refl I.hok
theorem A0.kept {t':Nat} (I:A0 X ac σ H s) (k:∀b u,s.heap.get? b=some u->h'.get? b=some u):A0 X ac σ H { s with heap:=h',toks:=t' }:=I.un (Un.kept k) (I.hok.kept k)
theorem A0.laid {a:Addr}{o:HO}{t':Nat} (I:A0 X ac σ H s) (k:∀b u,s.heap.get? b=some u->h'.get? b=some u) (hp:s.heap.objs.size<=a) (new:F5 X.prog X.w (upd H a o) h' a o) :
  A0 X ac σ (upd H a o) { s with heap:=h',toks:=t' }:=I.un (Un.laid k hp (I.hok.fresh hp)) (I.hok.laid k hp new)
theorem A0.write {x e:Addr}{o:HO}{t':Nat} (I:A0 X ac σ H s) (mu:Mut (H x)) (he:e=x\/H e=some (.own x)) (k:∀b u,b≠e->s.heap.get? b=some u->h'.get? b=some u) (jo:∃u,h'.get? e=some u)
  (new:F5 X.prog X.w (upd H x o) h' x o):A0 X ac σ (upd H x o) { s with heap:=h',toks:=t' }:=I.un (Un.write mu he k jo) (I.hok.write mu he k jo new)
theorem A0.pins_of {i7:Pn9} (I:A0 X ac σ H s) (h:∀p∈i7,s.heap.get? p.1=some p.2/\H p.1=none/\p.1≠X.env.locals/\p.1∉X.fs/\∀v,p.2.data≠.cell v):A0 X i7 σ H s :=
 ⟨I.ok,I.os,I.bare,I.base,I.loc,I.cell,I.free,I.freeC,fun p hp=>(aS.mp hp).elim (fun z=>I.pin p (bf _ z)) (h p),I.hok,I.len⟩
theorem Y0i {N:List Str} (hN:N.Nodup) {i j:Nat}{x:Str} (a:N[i]?=some x) (b:N[j]?=some x):i=j:=by
 obtain⟨h1,e1⟩:=aL.mp a
 obtain⟨h2,e2⟩:=aL.mp b
 exact(List.getElem_inj hN).mp (e1.trans e2.symm)
theorem Q9f {M:Model}{A:Around}{E:VS9}{i:Nat}{x:Str}{v:V}{u:Value}{Q:Unit->Shared->Prop} (I:A0 X ac σ H s) (hN:X.N.Nodup) (hi:X.N[i]?=some x) (hx:Loc X.env.scope x) (r:B9 v u)
  (h:∀s',A0 X ac (σ.set i (some v)) H s'->(∃a,Heap.SameBut a s.heap s'.heap/\(a=X.env.locals\/X.env.cells.lookup x=some a))->Q () s') (hf:X.fn x=true\/X.env.scope.names.lookup x=some .local:=by first | exact .inl rfl | exact .inr rfl | assumption):wpAny M A (storeName X.env x u) Q E s:=by
 obtain⟨m,hn,hl⟩:=id I.loc
 have m8:(X.env.scope.kind==.class||(X.env.scope.kind==.module&&X.env.locals != X.env.globals))=false:=by rw [I.ok.kind];rfl
 have hiσ:i<σ.length:=by rw [I.len];exact(aL.mp hi).1
 have cne:=I.cne
 have tracked:∀{a:Addr}{h':Heap},(∃o,s.heap.get? a=some o/\H a=none)->Heap.SameBut a s.heap h'->F1 X.prog X.w H h':=fun {a h'} ha hs b ob e=>by
  obtain⟨_,_,im⟩:=ha
  refine(I.hok b ob e).stay (fun c w' hc q=>(hs.2 c ?_).trans q) (fun _ _ _ q=>q) fun _ _ q=>q
  rintro rfl
  rcases hc with rfl | hc
  ·rw [im]at e;cases e
  ·rw [im]at hc;cases hc
 rcases hx with hk | hk
 ·refine wpAny_storeName_local hk hn (fun h' qg hs=>?_) m8
  obtain⟨oL,_,_,qe,_⟩:=id hn
  refine h _ ⟨I.ok,I.os,I.bare,⟨fun b o e n hb hx=>?_,fun b o e n hb hx=>?_,I.base.free,fun b o e hx=>?_,I.base.tups,I.base.frzs,I.base.tbls⟩,⟨_,qg,fun j y v' e1 e2 e3=>?_⟩,fun y c e=>?_,I.free,I.freeC,fun p hp=>?_,tracked ⟨oL,qe,I.free⟩ hs,by simpa using I.len⟩ ⟨_,hs,.inl rfl⟩
  ·exact(hs.2 b (aB (az (ay e) I.ok.above))).trans (I.base.keep b o e n hb hx)
  ·obtain⟨sl,e1⟩:=I.base.slot b o e n hb hx
   exact⟨sl,(hs.2 b (aB (az (ay e) I.ok.above))).trans e1⟩
  ·obtain⟨o',e1⟩:=I.base.there b o e hx
   exact⟨o',(hs.2 b (aB (az (ay e) I.ok.above))).trans e1⟩
  ·by_cases hj:j=i
   ·subst hj
    rw [hi]at e1;cases e1
    rw [aY hiσ]at e2
    cases e2
    exact⟨u,r,.inl ⟨hk,by simp⟩⟩
   ·rw [aG (bt hj)]at e2
    obtain⟨u',r',q⟩:=hl j y v' e1 e2 e3
    refine⟨u',r',?_⟩
    rcases q with⟨k,e⟩ | ⟨k,c,e,z⟩
    ·refine .inl ⟨k,?_⟩
     have:y≠x:=fun e=>hj (Y0i hN e1 (e ▸ hi))
     simp [this,e]
    ·exact .inr ⟨k,c,e,z.sameBut hs (cne y c e)⟩
  ·obtain⟨w',z⟩:=I.cell y c e
   exact⟨w',z.sameBut hs (cne y c e)⟩
  ·obtain⟨e,n,ne,nf,d⟩:=I.pin p hp
   exact⟨(hs.2 p.1 ne).trans e,n,ne,nf,d⟩
 ·have gv:X.fn x=true:=by
   rcases hf with z | z
   ·exact z
   ·rw [z]at hk;cases hk
  obtain⟨c,hc⟩:=I.ok.has x (.inl hk)
  obtain⟨w',z⟩:=I.cell x c hc
  refine wpAny_storeName_cell I.ok.kind hk hc z (fun h' cN hs=>?_)
  obtain⟨oc,fq,lO⟩:=id z
  refine h { s with heap:=h' } ⟨I.ok,I.os,I.bare,⟨fun b o e n hb hx=>?_,fun b o e n hb hx=>?_,I.base.free,fun b o e hx=>?_,I.base.tups,I.base.frzs,I.base.tbls⟩,⟨m,hn.sameBut hs (bt (cne x c hc)),fun j y v' e1 e2 e3=>?_⟩,fun y c' e=>?_,I.free,I.freeC,fun p hp=>?_,tracked ⟨oc,fq,I.freeC x c hc⟩ hs,by simpa using I.len⟩ ⟨c,hs,.inr hc⟩
  ·exact(hs.2 b (aB (az (ay e) (I.ok.cab x c gv hc)))).trans (I.base.keep b o e n hb hx)
  ·obtain⟨sl,e1⟩:=I.base.slot b o e n hb hx
   exact⟨sl,(hs.2 b (aB (az (ay e) (I.ok.cab x c gv hc)))).trans e1⟩
  ·obtain⟨o',e1⟩:=I.base.there b o e hx
   exact⟨o',(hs.2 b (aB (az (ay e) (I.ok.cab x c gv hc)))).trans e1⟩
  ·by_cases hj:j=i
   ·subst hj
    rw [hi]at e1;cases e1
    rw [aY hiσ]at e2
    cases e2
    exact⟨u,r,.inr ⟨.inl hk,c,hc,cN⟩⟩
   ·rw [aG (bt hj)]at e2
    obtain⟨u',r',q⟩:=hl j y v' e1 e2 e3
    refine⟨u',r',?_⟩
    rcases q with q | ⟨k,c',e,z'⟩
    ·exact .inl q
    ·refine .inr ⟨k,c',e,z'.sameBut hs ?_⟩
     rintro rfl
     exact hj (Y0i hN e1 (I.ok.inj _ _ _ e hc ▸ hi))
  ·by_cases gR:c'=c
   ·subst gR;exact⟨_,cN⟩
   ·obtain⟨w2,z2⟩:=I.cell y c' e
    exact⟨w2,z2.sameBut hs gR⟩
  ·obtain⟨e,n,ne,nf,d⟩:=I.pin p hp
   refine⟨(hs.2 p.1 ?_).trans e,n,ne,nf,d⟩
   intro q
   rw [q,fq]at e
   have q':oc=p.2:=aC e
   exact d w' (by rw [<- q'];exact lO)
theorem Z3x {M:Model}{A:Around}{E:VS9}{i:Nat}{x:Str}{v:V}{u:Value}{Q:Unit->Shared->Prop} (I:A0 X ac σ H s) (hN:X.N.Nodup) (hi:X.N[i]?=some x) (hx:Loc X.env.scope x) (r:B9 v u)
  (h:∀s',A0 X ac (σ.set i (some v)) H s'->Q () s') (hf:X.fn x=true\/X.env.scope.names.lookup x=some .local:=by first | exact .inl rfl | exact .inr rfl | assumption):wpAny M A (storeName X.env x u) Q E s :=
 Q9f I hN hi hx r (fun s' I' _=>h s' I') hf
theorem A0.call' {s':Shared}{ch:List Addr} (I:A0 X ac σ H s) (ho:s'.os=s.os) (u:Un (frs X.stack) ch H H' s.heap s'.heap) (hok:F1 X.prog X.w H' s'.heap) (hg:AllBare s'.gens)
  (gx:∀b∈ch,(b∈X.ex\/X.s₀.heap.objs.size<=b)/\b≠X.env.locals/\(∀x c,X.env.cells.lookup x=some c->c≠b)/\∀p∈X.pn++ac,p.1≠b):A0 X ac σ H' s':=by
 obtain⟨h',g',d',t',o'⟩:=s'
 have e:o'=s.os:=ho
 subst e
 exact I.call (g':=g') (t':=t') (d':=d') u hok hg gx
end
noncomputable abbrev XK:=Value->Option Addr->Hp->Prop
noncomputable abbrev St:=List (Option V)
noncomputable abbrev VK:=V->Hp->Prop
noncomputable abbrev TE:=St->Hp->VK->Prop
noncomputable abbrev TT:=St->Hp->(Bool->Hp->Prop)->Prop
noncomputable abbrev TA:=St->Hp->(List V->Hp->Prop)->Prop
structure K4 where
 nx:St->Hp->Prop
 rt:VK
 bk:St->Hp->Prop:=fun _ _=>False
 ct:St->Hp->Prop:=fun _ _=>False
noncomputable abbrev TS:=K4->St->Hp->Prop
def EP (X:Cx) (ac:Pn9) (σ:St) (Q:VK) (u:Value) (s':Shared):Prop:=∃v H',A0 X ac σ H' s'/\B9 v u/\Q v H'
def TP (X:Cx) (ac:Pn9) (σ:St) (Q:Bool->Hp->Prop) (b:Bool) (s':Shared):Prop:=∃H',A0 X ac σ H' s'/\Q b H'
def AP (X:Cx) (ac:Pn9) (σ:St) (Q:List V->Hp->Prop) (us:List Value) (s':Shared):Prop:=∃vs H',A0 X ac σ H' s'/\B4 vs us/\Q vs H'
def SP (X:Cx) (ac:Pn9) (D:K4) (f:Flow) (s':Shared):Prop :=
 match f with
 | .next=>∃ σ' H',A0 X ac σ' H' s'/\D.nx σ' H'
 | .brk=>∃ σ' H',A0 X ac σ' H' s'/\D.bk σ' H'
 | .cont=>∃ σ' H',A0 X ac σ' H' s'/\D.ct σ' H'
 | .ret u=>∃v σ' H',A0 X ac σ' H' s'/\B9 v u/\D.rt v H'
def PE (X:Cx) (e:Expr) (t:TE):Prop :=
 ∀(ac:Pn9) (s:Shared) (σ:St) (H:Hp) (Q:VK),A0 X ac σ H s->t σ H Q->wpAny (model X.prog X.w) X.A (eval e X.env) (EP X ac σ Q) X.xe s
def PT (X:Cx) (e:Expr) (t:TT):Prop :=
 ∀(ac:Pn9) (s:Shared) (σ:St) (H:Hp) (Q:Bool->Hp->Prop),A0 X ac σ H s->t σ H Q->wpAny (model X.prog X.w) X.A (isTrue e X.env (eval e X.env)) (TP X ac σ Q) X.xe s
def PW (X:Cx) (e:Expr) (t:TT):Prop :=
 ∀(whole:Sem Value) (ac:Pn9) (s:Shared) (σ:St) (H:Hp) (Q:Bool->Hp->Prop),A0 X ac σ H s->t σ H Q->wpAny (model X.prog X.w) X.A (isTrue e X.env whole) (TP X ac σ Q) X.xe s
theorem PW.pt {X:Cx}{e:Expr}{t:TT} (h:PW X e t):PT X e t:=h _
def PA (X:Cx) (es:List Expr) (t:TA):Prop :=
 ∀(pos:Pos) (ac:Pn9) (s:Shared) (σ:St) (H:Hp) (Q:List V->Hp->Prop),A0 X ac σ H s->t σ H Q->wpAny (model X.prog X.w) X.A (spliced (backTo pos (starEach es X.env))) (AP X ac σ Q) X.xe s
def PS (X:Cx) (st:Stmt) (t:TS):Prop :=
 ∀(ac:Pn9) (s:Shared) (σ:St) (H:Hp) (D:K4),A0 X ac σ H s->t D σ H->wpAny (model X.prog X.w) X.A (exec st X.env) (SP X ac D) X.xe s
def PSs (X:Cx) (st:List Stmt) (t:TS):Prop :=
 ∀(ac:Pn9) (s:Shared) (σ:St) (H:Hp) (D:K4),A0 X ac σ H s->t D σ H->wpAny (model X.prog X.w) X.A (execs st X.env) (SP X ac D) X.xe s
theorem B3 {α:Type}{t:Sem α}{Q Q':α->Shared->Prop}{M:Model}{A:Around}{E:VS9}{s:Shared} (h:wpAny M A t Q E s) (hQ:∀a s,Q a s->Q' a s):wpAny M A t Q' E s:=aR h hQ fun _ _ x=>x
end L2
namespace L2
open PySem PySem.Spec PyProof.Rows
section
variable {X:Cx}
def J8 (i:Nat):TE:=fun σ H Q=>∃v,σ[i]?=some (some v)/\Q v H
def tC (v:V):TE:=fun _ H Q=>Q v H
theorem W3z {i:Nat}{x:Str}{pos:Pos} (hN:X.N[i]?=some x) (hv:Vis X.env.scope x) (hd:(x==("__debug__":Str))=false:=by decide) (dX:(x==("__classdict__":Str))=false:=by decide):PE X (.Name x pos) (J8 i):=by
 intro ac s σ H Q I h
 obtain⟨v,e,h⟩:=h
 obtain⟨m,hn,hl⟩:=I.loc
 obtain⟨u,r,l⟩:=hl i x v hN e hv
 have fin:EP X ac σ Q u s:=⟨v,H,I,r,h⟩
 rcases l with⟨hk,hm⟩ | ⟨hk,c,hc,cT⟩
 ·exact wpAny_Name (wpAny_loadName_local I.ok.kind hk hn hm fin) hd
 ·rcases hk with hk | hk
  ·exact wpAny_Name (wpAny_loadName_cell I.ok.kind hk hc cT fin) hd
  ·exact wpAny_Name (wpAny_loadName_free I.ok.kind hk hc cT fin dX) hd
theorem W3o {i j pos}:PE X (.Constant (.int i) j pos) (tC (.int i)):=fun _ _ _ H _ I h=>wpAny_Constant_int ⟨.int i,H,I.tok _,⟨_,rfl⟩,h⟩
theorem W3d {b j pos}:PE X (.Constant (.bool b) j pos) (tC (.bl b)):=fun _ _ _ H _ I h=>Constant_bool ⟨.bl b,H,I,rfl,h⟩
theorem W3x {x j pos}:PE X (.Constant (.str x) j pos) (tC (.str x)):=fun _ _ _ H _ I h=>Calls.Constant_str ⟨.str x,H,I.tok _,⟨_,rfl⟩,h⟩
def Gl (X:Cx) (x:Str):Prop:=X.env.kindOf x=some .globalImplicit
theorem Q7w {E:VS9}{ac:Pn9}{s:Shared} {σ:St}{H:Hp}{x:Str}{u:Value}{pos:Pos}{Q:VS9} (I:A0 X ac σ H s) (hg:Gl X x) (hm:X.mg x=some u) (h:Q u s)
  (hd:(x==("__debug__":Str))=false:=by decide):wpAny (model X.prog X.w) X.A (eval (.Name x pos) X.env) Q E s :=
 Calls.Name_function_global I.ok.kind hg (Calls.loadGlobal_global (by rw [I.ok.glob];exact I.mod.glob.keeps I.bk) hm h) hd
theorem Q0f {E:VS9}{ac:Pn9}{s:Shared} {σ:St}{H:Hp}{x:Str}{u:Value}{pos:Pos}{Q:VS9} (I:A0 X ac σ H s) (hg:Gl X x) (hm:X.mg x=none) (hv:bootBuiltins x=some u) (h:Q u s)
  (hn:x≠"__name__":=by decide) (hd:(x==("__debug__":Str))=false:=by decide):wpAny (model X.prog X.w) X.A (eval (.Name x pos) X.env) Q E s:=by
 obtain⟨mb,h1,h2⟩:=I.mod.blt
 exact Calls.Name_function_global I.ok.kind hg (Calls.loadGlobal_builtin (by rw [I.ok.glob];exact I.mod.glob.keeps I.bk) hm (by rw [I.ok.blt];exact h1.keeps I.bk) ((h2 x hn).trans hv) h) hd
theorem W3n {x:Str}{v:V}{u:Value}{pos:Pos} (hg:Gl X x) (hm:X.mg x=some u) (r:B9 v u) (hd:(x==("__debug__":Str))=false:=by decide):PE X (.Name x pos) (tC v) :=
 fun _ _ _ H _ I h=>Q7w I hg hm ⟨v,H,I,r,h⟩ hd
variable {a b:Expr}{ta tb:TE}{pos:Pos}
def PC (X:Cx) (op:CmpOp) (a b:Expr) (t:TE):Prop :=
 ∀(ac:Pn9) (s:Shared) (σ:St) (H:Hp) (Q:VK),A0 X ac σ H s->t σ H Q ->
  wpAny (model X.prog X.w) X.A (eval a X.env) (fun v s₁=>wpAny (model X.prog X.w) X.A (eval b X.env) (fun u s₂=>wpAny (model X.prog X.w) X.A (compareOp op v u) (EP X ac σ Q) X.xe s₂) X.xe s₁) X.xe s
def tB (t:TE):TT:=fun σ H Q=>t σ H fun x H1=>∃c,x=.bl c/\Q c H1
theorem W4p {op:CmpOp}{t:TE} (h:PC X op a b t) (h1:behindInMarks op b=false:=by first | exact nobehind _ (by decide) (by decide) | rfl):PT X (.Compare a [op] [b] pos) (tB t):=by
 intro ac s σ H Q I hw
 refine wpAny_isTrue_Compare1 (B3 (h ac s σ H _ I hw) fun v s1 h1=>B3 h1 fun u s2 h2=>B3 h2 fun c s3 br=>?_) h1
 obtain⟨x,H1,I1,r1,q1⟩:=br
 obtain⟨d,rfl,q⟩:=q1
 cases r1
 exact wpAny_truthy_bool ⟨H1,I1,q⟩
variable {tA mM:TT}{rest:List Expr}
def tAnd (t u:TT):TT:=fun σ H Q=>t σ H fun c H1=>if c=true then u σ H1 Q else Q false H1
def tNot (t:TT):TT:=fun σ H Q=>t σ H fun c H1=>Q (!c) H1
theorem W4v (ha:PT X a tA):PW X (.BoolOp .And [a] pos) tA:=by
 intro wh ac s σ H Q I h
 refine isTrue_and (B3 (ha ac s σ H Q I h) fun c s1 e=>?_)
 cases c with
 | true=>exact isTrue_and_nil e
 | false=>exact e
theorem W4u (ha:PT X a tA) (hb:PW X (.BoolOp .And (b::rest) pos) mM):PW X (.BoolOp .And (a::b::rest) pos) (tAnd tA mM):=by
 intro wh ac s σ H Q I h
 refine isTrue_and (B3 (ha ac s σ H _ I h) fun c s1 br=>?_)
 obtain⟨H1,I1,q1⟩:=br
 cases c with
 | true=>exact hb wh ac s1 σ H1 Q I1 q1
 | false=>exact⟨H1,I1,q1⟩
theorem W4r (ha:PT X a tA):PT X (.UnaryOp .Not a pos) (tNot tA):=by
 intro ac s σ H Q I h
 exact isTrue_not (ha ac s σ H (fun c H1=>Q (!c) H1) I h)
def tOrV (ta tb:TE):TE:=fun σ H Q=>ta σ H fun x H1=>∃c,x=.bl c/\if c=true then Q (.bl true) H1 else tb σ H1 Q
theorem W3s {op}{t:TE} (h:PE X a t):PE X (.BoolOp op [a] pos) t:=fun ac s σ H Q I hw=>BoolOp_one (h ac s σ H Q I hw)
theorem W3u (ha:PE X a ta) (hb:PE X (.BoolOp .Or (b::rest) pos) tb):PE X (.BoolOp .Or (a::b::rest) pos) (tOrV ta tb):=by
 intro ac s σ H Q I h
 refine BoolOp_or (B3 (ha ac s σ H _ I h) fun v s1 br=>?_)
 obtain⟨x,H1,I1,r1,q1⟩:=br
 obtain⟨c,rfl,q1⟩:=q1
 cases r1
 refine wpAny_truthy_bool ?_
 cases c with
 | false=>exact hb ac s1 σ H1 Q I1 q1
 | true=>exact⟨.bl true,H1,I1,rfl,q1⟩
end
end L2
namespace L2
open PySem PySem.Spec PyProof.Rows
def D6 (K:Fg9) (H:Hp) (a:Addr) (xs:List V):Prop :=
 Rd H a (.lst xs) \/
  ∃(o:Obj) (aU:Array Value) (n:Nat),K.lookup a=some o/\o.cls=.type "list"/\o.dict=none/\o.data=.seq aU n/\aU.size<=sizeLine/\B4 xs aU.toList
def C4 (K:Fg9) (H:Hp) (a:Addr) (xs:List V):Prop :=
 Rd H a (.tup xs) \/
  ∃(o:Obj) (aU:Array Value) (n:Nat),K.lookup a=some o/\o.cls=.type "tuple"/\o.data=.seq aU n/\aU.size<=sizeLine/\B4 xs aU.toList
noncomputable def absV:Value->Option V
 | .none=>some .non
 | .bool b=>some (.bl b)
 | .int i _=>some (.int i)
 | .str x _=>some (.str x)
 | .bytes b _=>some (.byt b)
 | .float b _=>some (.flt b)
 | .ref a=>some (.ref a)
 | .type n=>some (.ty n)
 | _=>none
theorem B9.abs {x:V}{u:Value} (r:B9 x u):absV u=some x:=by
 cases x with
 | non=>cases r;rfl
 | bl _=>cases r;rfl
 | int _=>obtain⟨t,rfl⟩:=r;rfl
 | str _=>obtain⟨t,rfl⟩:=r;rfl
 | byt _=>obtain⟨t,rfl⟩:=r;rfl
 | flt _=>obtain⟨t,rfl⟩:=r;rfl
 | ref _=>cases r;rfl
 | ty _=>cases r;rfl
theorem B9.inj {x y:V}{u:Value} (r:B9 x u) (q:B9 y u):x=y:=aC (r.abs.symm.trans q.abs)
theorem B4.inj:∀{xs ys:List V}{us:List Value},B4 xs us->B4 ys us->xs=ys
 | _,_,_,.nil,.nil=>rfl
 | _,_,_,.cons r t,.cons r' t'=>by rw [r.inj r',B4.inj t t']
section
variable {X:Cx}{ac:Pn9} {σ:St}{H:Hp}{s:Shared}{a:Addr}{xs ys:List V}
theorem D6.of {K:Fg9} (h:H a=some (.lst xs)):D6 K H a xs:=.inl (.inl h)
theorem C4.of {K:Fg9} (h:H a=some (.tup xs)):C4 K H a xs:=.inl (.inl h)
theorem A0.list (I:A0 X ac σ H s) (h:D6 X.K H a xs):∃aU:List Value,B4 xs aU/\PlainL s.heap a aU.toArray/\xs.length<=sizeLine:=by
 rcases h with h | ⟨o,aU,n,hk,hc,hd,hs,hz,r⟩
 ·obtain⟨z,aU,n,r,e⟩:=h.ok I.hok
  exact⟨aU,r,⟨_,n,e,rfl,rfl,rfl⟩,z⟩
 ·refine⟨aU.toList,r,⟨o,n,I.kIn a o hk,hc,hd,by simpa using hs⟩,?_⟩
  have e:=r.length
  simp only [bN]at e
  omega
theorem A0.tuple (I:A0 X ac σ H s) (h:C4 X.K H a xs):∃aU:List Value,B4 xs aU/\IsTup s.heap a aU.toArray/\xs.length<=sizeLine:=by
 rcases h with h | ⟨o,aU,n,hk,hc,hs,hz,r⟩
 ·obtain⟨z,aU,r,p⟩:=h.ok I.hok
  exact⟨aU,r,p,z⟩
 ·refine⟨aU.toList,r,⟨o,I.kIn a o hk,hc,n,by simpa using hs⟩,?_⟩
  have e:=r.length
  simp only [bN]at e
  omega
theorem A0.list_inj (I:A0 X ac σ H s) (h:D6 X.K H a xs) (h':D6 X.K H a ys):xs=ys:=by
 obtain⟨aU,r,⟨o,n,e,_,_,d⟩,_⟩:=I.list h
 obtain⟨its',r',⟨o',n',e',_,_,d'⟩,_⟩:=I.list h'
 rw [e]at e';cases e'
 rw [d]at d'
 injection d' with d1 _
 have:aU=its':=by simpa using congrArg Array.toList d1
 subst this
 exact r.inj r'
theorem A0.tuple_inj (I:A0 X ac σ H s) (h:C4 X.K H a xs) (h':C4 X.K H a ys):xs=ys:=by
 obtain⟨aU,r,⟨o,e,_,n,d⟩,_⟩:=I.tuple h
 obtain⟨its',r',⟨o',e',_,n',d'⟩,_⟩:=I.tuple h'
 rw [e]at e';cases e'
 rw [d]at d'
 injection d' with d1 _
 have:aU=its':=by simpa using congrArg Array.toList d1
 subst this
 exact r.inj r'
end
noncomputable abbrev Cx.wish (X:Cx) (E:VS9):Cx:={ X with xe:=E }
noncomputable abbrev Cx.nox (X:Cx):Cx:=X.wish fun _ _=>False
theorem Cx.Ok.wish {X:Cx} (ok:X.Ok) (E:VS9):(X.wish E).Ok :=
 ⟨ok.mod,ok.kind,ok.glob,ok.blt,ok.above,ok.inj,ok.has,ok.cab,ok.hd,ok.frames,ok.stk,ok.exf,ok.bs,ok.bsz,ok.noex,ok.exfs,ok.funs,ok.frf⟩
theorem Cx.Ok.unwish {X:Cx}{E:VS9} (ok:(X.wish E).Ok):X.Ok :=
 ⟨ok.mod,ok.kind,ok.glob,ok.blt,ok.above,ok.inj,ok.has,ok.cab,ok.hd,ok.frames,ok.stk,ok.exf,ok.bs,ok.bsz,ok.noex,ok.exfs,ok.funs,ok.frf⟩
section
variable {X:Cx}{ac:Pn9} {σ:St}{H:Hp}{s:Shared}{E:VS9}
theorem A0.wish (I:A0 X ac σ H s) (E:VS9):A0 (X.wish E) ac σ H s:=⟨I.ok.wish E,I.os,I.bare,I.base,I.loc,I.cell,I.free,I.freeC,I.pin,I.hok,I.len⟩
theorem A0.unwish (I:A0 (X.wish E) ac σ H s):A0 X ac σ H s:=⟨I.ok.unwish,I.os,I.bare,I.base,I.loc,I.cell,I.free,I.freeC,I.pin,I.hok,I.len⟩
theorem SP.unwish {D:K4}{f:Flow}{s':Shared} (h:SP (X.wish E) ac D f s'):SP X ac D f s':=by
 cases f with
 | next=>obtain⟨σ',H',I,q⟩:=h;exact⟨σ',H',I.unwish,q⟩
 | brk=>obtain⟨σ',H',I,q⟩:=h;exact⟨σ',H',I.unwish,q⟩
 | cont=>obtain⟨σ',H',I,q⟩:=h;exact⟨σ',H',I.unwish,q⟩
 | ret u=>obtain⟨v,σ',H',I,r,q⟩:=h;exact⟨v,σ',H',I.unwish,r,q⟩
theorem PSs.nox {st:List Stmt}{t:TS} (h:PSs X.nox st t):PSs X st t:=fun ac s σ H D I hw =>
 aR (h ac s σ H D (I.wish _) hw) (fun _ _ q=>q.unwish) fun _ _ z=>False.elim z
end
section
variable {X:Cx}{st:Stmt}{rest:List Stmt}{t u:TS}{e:Expr}{te:TE}{pos:Pos}
def W8q:TS:=fun D σ H=>D.nx σ H
def tSeq (t u:TS):TS:=fun D σ H=>t { D with nx:=u D } σ H
theorem W4o:PSs X [] W8q:=fun _ _ σ H _ I h=>wpAny_execs_nil ⟨σ,H,I,h⟩
theorem Y1l (h1:PS X st t) (h2:PSs X rest u):PSs X (st::rest) (tSeq t u):=by
 intro ac s σ H D I h
 refine wpAny_execs_cons (B3 (h1 ac s σ H { D with nx:=u D } I h) fun f s1 q=>?_)
 cases f with
 | next =>
  obtain⟨σ',H',I',q⟩:=q
  exact h2 ac s1 σ' H' D I' q
 | ret v=>exact q
 | brk=>exact q
 | cont=>exact q
theorem Y1m (h1:PS X st t):PSs X [st] t:=by
 intro ac s σ H D I h
 refine wpAny_execs_cons (B3 (h1 ac s σ H D I h) fun f s1 q=>?_)
 cases f with
 | next=>exact wpAny_execs_nil q
 | ret v=>exact q
 | brk=>exact q
 | cont=>exact q
theorem A0.quiet {ac:Pn9} {σ:St}{H:Hp}{s:Shared} (I:A0 X ac σ H s):interactive X.env=false:=by simp [interactive,I.ok.kind]
def W8o (te:TE):TS:=fun D σ H=>te σ H fun _ H1=>D.nx σ H1
theorem Q8l (he:PE X e te) (hs:swapsWith e none pos.line X.env=pure false:=by rfl):PS X (.Expr e pos) (W8o te):=by
 intro ac s σ H D I h
 exact wpAny_Expr_any (B3 (he ac s σ H _ I h) fun v s1 ⟨x,H1,I1,r1,q1⟩=>⟨σ,H1,I1,q1⟩) I.quiet hs
def tRet (te:TE):TS:=fun D σ H=>te σ H D.rt
theorem Z3h (he:PE X e te):PS X (.Return (some e) pos) (tRet te):=by
 intro ac s σ H D I h
 exact wpAny_Return_some (B3 (he ac s σ H _ I h) fun v s1 ⟨x,H1,I1,r1,q1⟩=>⟨x,σ,H1,I1,r1,q1⟩)
def tIfS (c:TT) (t u:TS):TS:=fun D σ H=>c σ H fun b H1=>if b=true then t D σ H1 else u D σ H1
theorem W4m {c:Expr}{a b:List Stmt}{tc:TT} (hc:PT X c tc) (ha:PSs X a t) (hb:PSs X b u):PS X (.If c a b pos) (tIfS tc t u):=by
 intro ac s σ H D I h
 refine wpAny_If (B3 (hc ac s σ H _ I h) fun d s1 br=>?_)
 obtain⟨H1,I1,q1⟩:=br
 cases d with
 | true=>exact ha ac s1 σ H1 D I1 q1
 | false=>exact hb ac s1 σ H1 D I1 q1
def W8p:TS:=fun _ _ _=>False
theorem V0l {jg:List Stmt}:PSs X jg W8p:=fun _ _ _ _ _ _ h=>h.elim
end
noncomputable abbrev TG:=V->St->Hp->(St->Hp->Prop)->Prop
noncomputable abbrev TGs:=List V->St->Hp->(St->Hp->Prop)->Prop
def PG (X:Cx) (target:Expr) (t:TG):Prop :=
 ∀(ac:Pn9) (s:Shared) (σ:St) (H:Hp) (v:V) (u:Value) (Q:St->Hp->Prop),A0 X ac σ H s->B9 v u->t v σ H Q ->
  wpAny (model X.prog X.w) X.A (assign target X.env u) (fun _ s'=>∃ σ' H',A0 X ac σ' H' s'/\Q σ' H') X.xe s
def PGs (X:Cx) (ts:List Expr) (t:TGs):Prop :=
 ∀(ac:Pn9) (s:Shared) (σ:St) (H:Hp) (vs:List V) (us:List Value) (Q:St->Hp->Prop),A0 X ac σ H s->B4 vs us->t vs σ H Q ->
  wpAny (model X.prog X.w) X.A (assignInOrder ((assignEach ts X.env).map (·.2)) us) (fun _ s'=>∃ σ' H',A0 X ac σ' H' s'/\Q σ' H') X.xe s
noncomputable abbrev Z0u:=V->V->V->Hp->(Hp->Prop)->Prop
def Z0t (X:Cx) (t:Z0u):Prop :=
 ∀(ac:Pn9) (s:Shared) (σ:St) (H:Hp) (o i v:V) (ov iv u:Value) (Q:Hp->Prop),A0 X ac σ H s->B9 o ov->B9 i iv->B9 v u->t o i v H Q ->
  wpAny (model X.prog X.w) X.A (setItem ov iv u) (fun _ s'=>∃H',A0 X ac σ H' s'/\Q H') X.xe s
noncomputable abbrev TIp:=V->V->Hp->VK->Prop
def PIp (X:Cx) (op:Operator) (t:TIp):Prop :=
 ∀(ac:Pn9) (s:Shared) (σ:St) (H:Hp) (x y:V) (v u:Value) (Q:VK),A0 X ac σ H s->B9 x v->B9 y u->t x y H Q ->
  wpAny (model X.prog X.w) X.A (inplaceOp op v u) (EP X ac σ Q) X.xe s
section
variable {X:Cx}{pos:Pos}
noncomputable def Q7o (i:Nat):TG:=fun v σ H Q=>Q (σ.set i (some v)) H
theorem Y1g {i:Nat}{x:Str} (hN:X.N.Nodup) (hi:X.N[i]?=some x) (hx:Loc X.env.scope x) (hf:X.fn x=true\/X.env.scope.names.lookup x=some .local:=by first | exact .inl rfl | exact .inr rfl | assumption):PG X (.Name x pos) (Q7o i):=by
 intro ac s σ H v u Q I r h
 exact wpAny_assign_Name (Z3x I hN hi hx r (fun s' I'=>⟨_,H,I',h⟩) hf)
noncomputable def gNil:TGs:=fun vs σ H Q=>vs=[]/\Q σ H
noncomputable def Y8q (t:TG) (u:TGs):TGs:=fun vs σ H Q=>∃v r,vs=v::r/\t v σ H fun σ' H'=>u r σ' H' Q
theorem W4c:PGs X [] gNil:=by
 intro ac s σ H vs us Q I r h
 obtain⟨e,h⟩:=h
 subst e
 cases r
 exact assignInOrder_nil ⟨σ,H,I,h⟩
theorem W4b {e:Expr}{es:List Expr}{t:TG}{u:TGs} (h1:PG X e t) (h2:PGs X es u)
  (hs:(assignEach (e::es) X.env).map (·.2)=assign e X.env::(assignEach es X.env).map (·.2):=by rfl):PGs X (e::es) (Y8q t u):=by
 intro ac s σ H vs us Q I r h
 obtain⟨v,vr,e1,h⟩:=h
 subst e1
 cases r with
 | cons r rr =>
  rw [hs]
  refine assignInOrder_cons (B3 (h1 ac s σ H _ _ _ I r h) fun _ s1 br=>?_)
  obtain⟨σ1,H1,I1,q1⟩:=br
  exact h2 ac s1 σ1 H1 _ _ Q I1 rr q1
noncomputable def gTup (K:Fg9) (n:Nat) (t:TGs):TG:=fun v σ H Q=>∃a xs,v=.ref a/\C4 K H a xs/\xs.length=n/\t xs σ H Q
theorem W4a {es:List Expr}{k:Nat}{t:TGs}{n:Nat} (hc:X.calm=true) (h:PGs X es t)
  (hn:(assignEach es X.env).length=n:=by rfl) (lG:(assignEach es X.env).findIdx? (·.1)=none:=by rfl):PG X (.Tuple es k pos) (gTup X.K n t):=by
 intro ac s σ H v u Q I r hw
 obtain⟨a,xs,e1,hq,hl,hw⟩:=hw
 subst e1
 cases r
 obtain⟨aU,rv,ht,hz⟩:=I.tuple hq
 refine assign_Tuple_tuple (I.ok.hd hc) ht (by simp [hn,<- hl,rv.length]) lG fun h' hx=>?_
 have I1:A0 X ac σ H { s with heap:=h' }:=I.kept (t':=s.toks) fun b o e=>hx b o (aB (ay e)) e
 exact h ac _ σ H xs _ Q I1 (by simpa using rv) hw
noncomputable def gSub (to ti:TE) (t:Z0u):TG:=fun v σ H Q=>to σ H fun o H1=>ti σ H1 fun i H2=>t o i v H2 fun H3=>Q σ H3
theorem Y1h {o i:Expr}{to ti:TE}{t:Z0u} (ho:PE X o to) (hi:PE X i ti) (hs:Z0t X t)
  (ha:∀v,assign (.Subscript o i pos) X.env v=(do
   let ov <- holding [v] (eval o X.env)
   let iv <- holding [v,ov] (eval i X.env)
   standAt pos
   holding [v,ov,iv] (setItem ov iv v)
   release [v,ov,iv] []):=by intro _;rfl):PG X (.Subscript o i pos) (gSub to ti t):=by
 intro ac s σ H v u Q I r h
 rw [ha]
 refine aa (bz (B3 (ho ac s σ H _ I h) fun ov s1 br=>?_))
 obtain⟨x,H1,I1,r1,q1⟩:=br
 refine aa (bz (B3 (hi ac s1 σ H1 _ I1 q1) fun iv s2 br=>?_))
 obtain⟨y,H2,I2,r2,q2⟩:=br
 refine aa (fx (aa (bz (B3 (hs ac s2 σ H2 x y v ov iv u _ I2 r1 r2 r q2) fun _ s3 br=>?_))))
 obtain⟨H3,I3,q3⟩:=br
 exact wpAny_release ⟨σ,H3,I3,q3⟩
def tAsg (te:TE) (g:TG):TS:=fun D σ H=>te σ H fun x H1=>g x σ H1 D.nx
theorem Z3g {tg e:Expr}{te:TE}{g:TG} (he:PE X e te) (hg:PG X tg g) (hs:swapsWithSole [tg] e pos.line X.env=pure false:=by rfl) (hw:swappedStores [tg] e X.env=pure none:=by rfl)
  (h1:(assignEach [tg] X.env).map (·.2)=[assign tg X.env]:=by rfl):PS X (.Assign [tg] e pos) (tAsg te g):=by
 intro ac s σ H D I h
 refine wpAny_Assign_stores (B3 (he ac s σ H _ I h) fun v s1 br=>?_) hs hw
 obtain⟨x,H1,I1,r1,q1⟩:=br
 rw [h1]
 exact B3 (hg ac s1 σ H1 x v _ I1 r1 q1) fun _ s2 q=>q
theorem Q2p {i:Nat}{x:Str}{e:Expr}{te:TE}{bj:Pos} (hN:X.N.Nodup) (hi:X.N[i]?=some x) (hx:Loc X.env.scope x) (he:PE X e te) (hs:swapsWith e (some (.Name x bj)) pos.line X.env=pure false:=by rfl) (hf:X.fn x=true\/X.env.scope.names.lookup x=some .local:=by first | exact .inl rfl | exact .inr rfl | assumption) :
  PS X (.Assign [.Name x bj] e pos) (tAsg te (Q7o i)):=by
 intro ac s σ H D I h
 refine wpAny_Assign_Name (B3 (he ac s σ H _ I h) fun v s1 br=>?_) hs
 obtain⟨y,H1,I1,r1,q1⟩:=br
 exact Z3x I1 hN hi hx r1 (fun s2 I2=>⟨_,H1,I2,q1⟩) hf
def tAug (i:Nat) (te:TE) (ti:TIp):TS:=fun D σ H=>∃x,σ[i]?=some (some x)/\te σ H fun y H1=>ti x y H1 fun z H2=>D.nx (σ.set i (some z)) H2
theorem W4k {i:Nat}{x:Str}{e:Expr}{te:TE}{op:Operator}{ti:TIp}{bj:Pos} (hN:X.N.Nodup) (hi:X.N[i]?=some x) (hx:Loc X.env.scope x) (he:PE X e te) (ho:PIp X op ti) (hf:X.fn x=true\/X.env.scope.names.lookup x=some .local:=by first | exact .inl rfl | exact .inr rfl | assumption) :
  PS X (.AugAssign (.Name x bj) op e pos) (tAug i te ti):=by
 intro ac s σ H D I h
 obtain⟨v,e1,h⟩:=h
 obtain⟨m,hn,hl⟩:=I.loc
 have oE:Vis X.env.scope x:=by rcases hx with k | k;exact .inl k;exact .inr (.inl k)
 obtain⟨u,r,l⟩:=hl i x v hi e1 oE
 refine wpAny_AugAssign_Name ?_
 have go:wpAny (model X.prog X.w) X.A (eval e X.env) (fun w s₂=>wpAny (model X.prog X.w) X.A (inplaceOp op u w) (fun r s₃=>wpAny (model X.prog X.w) X.A (storeName X.env x r) (fun _=>SP X ac D .next) X.xe s₃) X.xe s₂) X.xe s:=by
  refine B3 (he ac s σ H _ I h) fun w s1 br=>?_
  obtain⟨y,H1,I1,r1,q1⟩:=br
  refine B3 (ho ac s1 σ H1 v y u w _ I1 r r1 q1) fun z s2 br=>?_
  obtain⟨zv,H2,I2,r2,q2⟩:=br
  exact Z3x I2 hN hi hx r2 (fun s3 I3=>⟨_,H2,I3,q2⟩) hf
 rcases l with⟨hk,hm⟩ | ⟨hk,c,hc,cT⟩
 ·exact wpAny_loadName_local I.ok.kind hk hn hm go
 ·rcases hk with hk | hk
  ·exact wpAny_loadName_cell I.ok.kind hk hc cT go
  ·rcases hx with k | k
   ·have:X.env.scope.names.lookup x=some .free:=hk
    rw [k]at this;cases this
   ·have:X.env.scope.names.lookup x=some .free:=hk
    rw [k]at this;cases this
end
section
variable {X:Cx}{pos:Pos}
def W8v (c:TT) (tb:TS):TS:=fun D σ H=>∃W:Nat->St->Hp->Prop,(∃m,W m σ H)/\∀m σ H,W m σ H ->
 c σ H fun b H1=>if b=true then ∃N:St->Hp->Prop,(∀ σ' H',N σ' H'->∃m',m'<m/\W m' σ' H')/\tb { D with nx:=N,ct:=N,bk:=D.nx } σ H1 else D.nx σ H1
theorem W4n {c:Expr}{body:List Stmt}{tc:TT}{tb:TS} (hp:PassesOwn (model X.prog X.w) X.A X.env X.xe) (hc:PT X c tc) (hb:PSs X body tb):PS X (.While c body [] pos) (W8v tc tb):=by
 intro ac s σ H D I h
 obtain⟨W,⟨m0,w0⟩,eN⟩:=h
 refine wpAny_While (codeAny_whileLoop (fun n s'=>∃ σ' H',A0 X ac σ' H' s'/\W n σ' H') ?_ m0 ⟨σ,H,I,w0⟩)
 rintro n s1 ⟨σ1,H1,I1,w1⟩
 refine dE hp (B3 (hc ac s1 σ1 H1 _ I1 (eN n σ1 H1 w1)) fun b s2 br=>?_)
 obtain⟨H2,I2,q2⟩:=br
 cases b with
 | true =>
  obtain⟨N,hN,q2⟩:=q2
  rw [aJ rfl]
  refine dE hp (B3 (hb ac s2 σ1 H2 _ I2 q2) fun f s3 q3=>?_)
  cases f with
  | next =>
   obtain⟨σ3,H3,I3,n3⟩:=q3
   obtain⟨m',hm,w3⟩:=hN σ3 H3 n3
   exact⟨m',hm,σ3,H3,I3,w3⟩
  | cont =>
   obtain⟨σ3,H3,I3,n3⟩:=q3
   obtain⟨m',hm,w3⟩:=hN σ3 H3 n3
   exact⟨m',hm,σ3,H3,I3,w3⟩
  | brk=>exact q3
  | ret v=>exact q3
 | false =>
  rw [aH bF]
  exact wpAny_execs_nil ⟨σ1,H2,I2,q2⟩
end
structure It where
 go:Nat->Hp->Prop
 yld:Nat->Hp->V->Hp->Prop
 stop:Nat->Hp->Prop
def J9 (X:Cx) (ac:Pn9) (H:Hp) (b:Addr):Prop :=
 H b=none/\b≠X.env.locals/\b∉X.fs/\(b∈X.ex\/X.s₀.heap.objs.size<=b)/\(∀x c,X.env.cells.lookup x=some c->c≠b)/\∀p∈X.pn++ac,p.1≠b
theorem A0.fpOk {X:Cx}{ac:Pn9} {σ:St}{H H':Hp}{s:Shared}{b:Addr} (I:A0 X ac σ H s) (hb:s.heap.objs.size<=b) (hn:H' b=none):J9 X ac H' b:=by
 refine⟨hn,Nat.ne_of_gt (az I.lt hb),I.nofs hb,.inr (aX I.sz hb),fun x c e z=>?_,fun p hp z=>?_⟩
 ·obtain⟨v,q⟩:=I.cell x c e
  exact absurd (az q.lt (by rw [z];exact hb)) (aT _)
 ·exact absurd (az (ay (I.pin p hp).1) (by rw [z];exact hb)) (aT _)
structure Z7 (P:Program) (w:World) (K:Fg9) (tg:Expr) (J:It) (fp:List Addr) (it:Addr) (tn:Nat->Heap->Prop):Prop where
 mem:it∈fp
 obj:∀i h,tn i h->∀b∈fp,∃o,h.get? b=some o/\∀v,o.data≠.cell v
 keep:∀i h h',tn i h->(∀b∈fp,∀o,h.get? b=some o->h'.get? b=some o)->tn i h'
 item:∀(X:Cx),X.prog=P->X.w=w->X.K=K->X.calm=true->∀(i:Nat) (ac:Pn9) (s:Shared) (σ:St) (H:Hp) (E:VS9),A0 X ac σ H s->(∀b∈fp,J9 X ac H b)->tn i s.heap->J.go i H ->
  wpAny (model P w) X.A (pyNext (.ref it)) (fun r s1=>∃u,r=some u /\
   wpAny (model P w) X.A (letOwnedTupleGo tg (.ref it) u) (fun _ s2=>∃x H',A0 X ac σ H' s2/\B9 x u/\J.yld i H x H'/\tn (i+1) s2.heap/\∀b∈fp,H' b=none) E s1) E s
 done:∀(X:Cx),X.prog=P->X.w=w->X.K=K->X.calm=true->∀(i:Nat) (ac:Pn9) (s:Shared) (σ:St) (H:Hp) (E:VS9),A0 X ac σ H s->(∀b∈fp,J9 X ac H b)->tn i s.heap->J.stop i H ->
  wpAny (model P w) X.A (pyNext (.ref it)) (fun r s1=>r=none/\A0 X ac σ H s1) E s
 self:∀(A:Around) (i:Nat) (s:Shared) (Q:VS9) (E:VS9),tn i s.heap->Q (.ref it) s->wpAny (model P w) A (pyIter (.ref it)) Q E s
noncomputable abbrev TI:=St->Hp->(It->Hp->Prop)->Prop
def PIE (X:Cx) (ac:Pn9) (σ:St) (tg:Expr) (R:It->Hp->Prop) (ic:Value) (s2:Shared):Prop :=
 ∃(it:Addr) (fp:List Addr) (tn:Nat->Heap->Prop) (J:It) (H':Hp),ic=.ref it/\A0 X ac σ H' s2/\Z7 X.prog X.w X.K tg J fp it tn/\tn 0 s2.heap/\(∀b∈fp,J9 X ac H' b)/\R J H'
def PI (X:Cx) (tg iter:Expr) (wi:TI):Prop :=
 ∀(ac:Pn9) (s:Shared) (σ:St) (H:Hp) (R:It->Hp->Prop),A0 X ac σ H s->wi σ H R ->
  wpAny (model X.prog X.w) X.A (eval iter X.env) (fun v s1=>wpAny (model X.prog X.w) X.A (pyIter v) (PIE X ac σ tg R) X.xe s1) X.xe s
theorem Q5i {M:Model}{A:Around}{E:VS9}{s:Shared}{tg:Expr}{it:Addr}{u:Value}{o:Obj}{n:String}{vs:Array Value}{Q:Unit->Shared->Prop} (ho:s.heap.get? it=some o) (hc:o.cls=.type n) (hd:o.data=.fields vs)
  (hn:["enumerate","zip","dict_itemiterator","dict_reverseitemiterator","odict_iterator","itertools.zip_longest","itertools.pairwise"].contains n=false) (hQ:Q () s):wpAny M A (letOwnedTupleGo tg (.ref it) u) Q E s:=by
 unfold letOwnedTupleGo
 cases tg <;> first
  | exact ai hQ
  | (cases u <;> first
    | exact ai hQ
    | (refine aa (wpAny_load ho ?_)
       rw [hc,hd]
       show wpAny M A (if (["enumerate","zip","dict_itemiterator","dict_reverseitemiterator","odict_iterator","itertools.zip_longest","itertools.pairwise"].contains n&&vs[0]?==some (rawInt _))=true then _ else _) Q E s
       rw [aH (by intro h;rw [hn,Bool.false_and]at h;cases h)]
       exact ai hQ))
noncomputable def Itl (K:Fg9) (a:Addr):It :=
 ⟨fun i H=>∃xs x,D6 K H a xs/\xs[i]?=some x,fun i H x H'=>H'=H/\∀xs,D6 K H a xs->xs[i]?=some x,fun i H=>∃xs,D6 K H a xs/\xs.length<=i⟩
noncomputable def Itt (K:Fg9) (a:Addr):It :=
 ⟨fun i H=>∃xs x,C4 K H a xs/\xs[i]?=some x,fun i H x H'=>H'=H/\∀xs,C4 K H a xs->xs[i]?=some x,fun i H=>∃xs,C4 K H a xs/\xs.length<=i⟩
noncomputable def Itr (lo:Int) (n:Nat):It:=⟨fun i _=>i<n,fun i H x H'=>H'=H/\x=.int (lo+i),fun i _=>n<=i⟩
theorem W9f {P:Program}{w:World}{K:Fg9}{tg:Expr} (a it:Addr):Z7 P w K tg (Itl K a) [it] it (fun i h=>h.IsListIter it a i) where
 mem:=by simp
 obj:=fun i h st b hb=>by
  have e:b=it:=by simpa using hb
  subst e
  obtain⟨o,e,c,d⟩:=st
  exact⟨o,e,fun v z=>by rw [d]at z;cases z⟩
 keep:=fun i h h' st k=>st.at fun o e=>k it (by simp) o e
 item:=by
  intro X hP hw hK hc i ac s σ H E I hf st hg
  subst hP hw hK
  obtain⟨xs,x,hq,hx⟩:=hg
  obtain⟨aU,rv,p,hz⟩:=I.list hq
  obtain⟨u,hu,ru⟩:=rv.get hx
  obtain⟨f0,f1,f2,f3,f4,f5⟩:=hf it (by simp)
  refine wpAny_pyNext_list_item st p.isList (x:=u) (by simpa using hu) fun h' eK sb=>?_
  have I1:A0 X ac σ H { s with heap:=h' }:=I.turned (t':=s.toks) (fun b o hb e=>(sb.2 b hb).trans e) f0 f1 f3 f4 f5
  obtain⟨o,e,c,d⟩:=id eK
  exact⟨u,rfl,Q5i (s:={ s with heap:=h' }) e c d (by decide) ⟨x,H,I1,ru,⟨rfl,fun ys hy=>by rw [I.list_inj hy hq];exact hx⟩,eK,fun b hb=>(hf b hb).1⟩⟩
 done:=by
  intro X hP hw hK hc i ac s σ H E I hf st hg
  subst hP hw hK
  obtain⟨xs,hq,hx⟩:=hg
  obtain⟨aU,rv,p,hz⟩:=I.list hq
  obtain⟨f0,f1,f2,f3,f4,f5⟩:=hf it (by simp)
  have hl:=rv.length
  exact wpAny_pyNext_list_end (I.ok.hd hc) st p.isList (by simp;omega) fun h' eb=>⟨rfl,I.turned (t':=s.toks) (fun b o hb e=>eb b o hb e) f0 f1 f3 f4 f5⟩
 self:=fun _ _ _ _ _ st h=>wpAny_pyIter_listiter st h
theorem W9h {P:Program}{w:World}{K:Fg9}{tg:Expr} (a it:Addr):Z7 P w K tg (Itt K a) [it] it (fun i h=>h.IsTupleIter it a i) where
 mem:=by simp
 obj:=fun i h st b hb=>by
  have e:b=it:=by simpa using hb
  subst e
  obtain⟨o,e,c,d⟩:=st
  exact⟨o,e,fun v z=>by rw [d]at z;cases z⟩
 keep:=fun i h h' st k=>st.at fun o e=>k it (by simp) o e
 item:=by
  intro X hP hw hK hc i ac s σ H E I hf st hg
  subst hP hw hK
  obtain⟨xs,x,hq,hx⟩:=hg
  obtain⟨aU,rv,p,hz⟩:=I.tuple hq
  obtain⟨u,hu,ru⟩:=rv.get hx
  obtain⟨f0,f1,f2,f3,f4,f5⟩:=hf it (by simp)
  refine wpAny_pyNext_tuple_item st (show s.heap.IsTuple a aU.toArray from p) (x:=u) (by simpa using hu) fun h' eK sb=>?_
  have I1:A0 X ac σ H { s with heap:=h' }:=I.turned (t':=s.toks) (fun b o hb e=>(sb.2 b hb).trans e) f0 f1 f3 f4 f5
  obtain⟨o,e,c,d⟩:=id eK
  exact⟨u,rfl,Q5i (s:={ s with heap:=h' }) e c d (by decide) ⟨x,H,I1,ru,⟨rfl,fun ys hy=>by rw [I.tuple_inj hy hq];exact hx⟩,eK,fun b hb=>(hf b hb).1⟩⟩
 done:=by
  intro X hP hw hK hc i ac s σ H E I hf st hg
  subst hP hw hK
  obtain⟨xs,hq,hx⟩:=hg
  obtain⟨aU,rv,p,hz⟩:=I.tuple hq
  obtain⟨f0,f1,f2,f3,f4,f5⟩:=hf it (by simp)
  have hl:=rv.length
  exact wpAny_pyNext_tuple_end (I.ok.hd hc) st (show s.heap.IsTuple a aU.toArray from p) (by simp;omega) fun h' eb=>⟨rfl,I.turned (t':=s.toks) (fun b o hb e=>eb b o hb e) f0 f1 f3 f4 f5⟩
 self:=fun _ _ _ _ _ st h=>wpAny_pyIter_tupleiter st h
theorem W9g {P:Program}{w:World}{K:Fg9}{tg:Expr} (it:Addr) (lo:Int) (n:Nat):Z7 P w K tg (Itr lo n) [it] it (fun i h=>IsRangeIter h it (lo+(i:Nat)*1) ((n:Int)-(i:Nat)) 1) where
 mem:=by simp
 obj:=fun i h st b hb=>by
  have e:b=it:=by simpa using hb
  subst e
  exact⟨_,st,fun v z=>by
   have z':Data.fields _=Data.cell v:=z
   cases z'⟩
 keep:=fun i h h' st k=>k it (by simp) _ st
 item:=by
  intro X hP hw hK hc i ac s σ H E I hf st hg
  subst hP hw hK
  obtain⟨f0,f1,f2,f3,f4,f5⟩:=hf it (by simp)
  have W:=Walks.range (prog:=X.prog) (w:=X.w) (I.ok.hd hc) it lo 1 n
  refine W.item i s _ _ hg st fun v h' tk hv eK kk=>?_
  obtain⟨t,rfl⟩:=hv
  have I1:A0 X ac σ H { s with heap:=h',toks:=tk }:=I.turned (fun b o hb e=>kk b o (by simpa using hb) e) f0 f1 f3 f4 f5
  refine⟨_,rfl,Q5i (s:={ s with heap:=h',toks:=tk }) (n:="range_iterator") eK rfl rfl (by decide) ⟨.int (lo+i),H,I1,⟨t,?_⟩,⟨rfl,rfl⟩,eK,fun b hb=>(hf b hb).1⟩⟩
  rw [Int.mul_one]
 done:=by
  intro X hP hw hK hc i ac s σ H E I hf st hg
  subst hP hw hK
  obtain⟨f0,f1,f2,f3,f4,f5⟩:=hf it (by simp)
  exact wpAny_pyNext_range_end (I.ok.hd hc) st (by have:n<=i:=hg;omega) fun h' eb=>⟨rfl,I.turned (t':=s.toks) (fun b o hb e=>eb b o hb e) f0 f1 f3 f4 f5⟩
 self:=fun _ _ _ _ _ st h=>wpAny_pyIter_rangeiter st h
end L2
namespace L2
open PySem PySem.Spec PyProof.Rows
section
variable {X:Cx}{tg:Expr}
noncomputable def Y8w (K:Fg9) (tl:TE):TI:=fun σ H R=>tl σ H fun x H1=>∃a,x=.ref a/\(∃xs,D6 K H1 a xs)/\R (Itl K a) H1
noncomputable def Q5m (K:Fg9) (tl:TE):TI:=fun σ H R=>tl σ H fun x H1=>∃a,x=.ref a/\(∃xs,C4 K H1 a xs)/\R (Itt K a) H1
theorem Z3f {l:Expr}{tl:TE} (hl:PE X l tl):PI X tg l (Y8w X.K tl):=by
 intro ac s σ H R I h
 refine B3 (hl ac s σ H _ I h) fun v s1 br=>?_
 obtain⟨x,H1,I1,r1,q1⟩:=br
 obtain⟨a,e,⟨xs,hq⟩,q⟩:=q1
 subst e
 cases r1
 obtain⟨aU,rv,p,hz⟩:=I1.list hq
 refine wpAny_pyIter_list p.isList ?_
 refine⟨s1.heap.objs.size,[s1.heap.objs.size],_,_,H1,rfl,I1.kept (t':=s1.toks) fun b o e=>ae _ e,W9f a _,⟨_,aF _ rfl,rfl,rfl⟩,fun b hb=>?_,q⟩
 have e:b=s1.heap.objs.size:=by simpa using hb
 subst e
 exact I1.fpOk (aj _) (I1.hok.fresh (aj _))
theorem Y1j {l:Expr}{tl:TE} (hl:PE X l tl):PI X tg l (Q5m X.K tl):=by
 intro ac s σ H R I h
 refine B3 (hl ac s σ H _ I h) fun v s1 br=>?_
 obtain⟨x,H1,I1,r1,q1⟩:=br
 obtain⟨a,e,⟨xs,hq⟩,q⟩:=q1
 subst e
 cases r1
 obtain⟨aU,rv,p,hz⟩:=I1.tuple hq
 refine wpAny_pyIter_tuple (show s1.heap.IsTuple a aU.toArray from p) ?_
 refine⟨s1.heap.objs.size,[s1.heap.objs.size],_,_,H1,rfl,I1.kept (t':=s1.toks) fun b o e=>ae _ e,W9h a _,⟨_,aF _ rfl,rfl,rfl⟩,fun b hb=>?_,q⟩
 have e:b=s1.heap.objs.size:=by simpa using hb
 subst e
 exact I1.fpOk (aj _) (I1.hok.fresh (aj _))
theorem W5a {ac:Pn9} {σ:St}{H:Hp}{s:Shared}{R:It->Hp->Prop}{E:VS9}{lo hi:Int}{t u v:Tok}{tk:Nat} (I:A0 X ac σ H s) (h1:-(2 ^ 62)<=lo) (h2:lo<2 ^ 62) (h3:-(2 ^ 62)<=hi) (h4:hi<2 ^ 62)
  (q:R (Itr lo (hi-lo).toNat) H):wpAny (model X.prog X.w) X.A (pyIter (.ref s.heap.objs.size)) (PIE X ac σ tg R) E { s with heap:=s.heap.push { cls:=.type "range",data:=.fields #[.int lo t,.int hi u,.int 1 v] },toks:=tk }:=by
 refine wpAny_pyIter_range (IsRange.new ..) (small_one h1 h2 h3 h4) ?_
 have I1:A0 X ac σ H { s with heap:=s.heap.push { cls:=.type "range",data:=.fields #[.int lo t,.int hi u,.int 1 v] },toks:=tk }:=I.kept fun b o e=>ae _ e
 refine⟨(s.heap.push { cls:=.type "range",data:=.fields #[.int lo t,.int hi u,.int 1 v] }).objs.size,[(s.heap.push { cls:=.type "range",data:=.fields #[.int lo t,.int hi u,.int 1 v] }).objs.size],_,_,H,rfl,
  I1.kept (t':=tk) fun b o e=>ae _ e,W9g _ lo (hi-lo).toNat,?_,fun b hb=>?_,q⟩
 ·have e1:lo+((0:Nat):Int)*1=lo:=by simp
  have e2:(((hi-lo).toNat:Nat):Int)-((0:Nat):Int)=Builtin.Range.rangeSize lo hi 1:=by rw [rangeSize_one];split <;> omega
  show IsRangeIter _ _ (lo+((0:Nat):Int)*1) ((((hi-lo).toNat:Nat):Int)-((0:Nat):Int)) 1
  rw [e1,e2]
  exact aF _ rfl
 ·have e:b=(s.heap.push { cls:=.type "range",data:=.fields #[.int lo t,.int hi u,.int 1 v] }).objs.size:=by simpa using hb
  subst e
  exact I1.fpOk (aj _) (I1.hok.fresh (aj _))
noncomputable def X3 (ta:TA):TI:=fun σ H R=>ta σ H fun vs H1=>∃j:Int,vs=[.int j]/\-(2 ^ 62)<=j/\j<2 ^ 62/\R (Itr 0 j.toNat) H1
theorem Y1i {a:Expr}{ta:TA}{p pos:Pos} (hg:Gl X "range") (hm:X.mg "range"=none) (ha:PA X [a] ta) (hs:starEach [a] X.env=[(false,eval a X.env)]:=by rfl):PI X tg (.Call (.Name "range" p) [a] [] pos) (X3 ta):=by
 intro ac s σ H R I h
 refine Call_ (Q0f I hg hm boot_range (bh (B3 (ha pos ac s σ H _ I h) fun us s1 br=>?_) hs rfl))
 obtain⟨vs,H1,I1,r1,q1⟩:=br
 obtain⟨j,e,q1,q2,q⟩:=q1
 subst e
 cases r1 with
 | cons r rr =>
  cases rr
  obtain⟨t,rfl⟩:=r
  exact call_range_1 (W5a I1 (by omega) (by omega) q1 q2 (by simpa using q))
def tFor (wi:TI) (g:TG) (tb:TS):TS:=fun D σ H=>wi σ H fun J H1=>∃W:Nat->Nat->St->Hp->Prop,(∃m,W 0 m σ H1)/\∀i m σ H,W i m σ H ->
 (J.stop i H/\D.nx σ H)\/(J.go i H/\∃N:St->Hp->Prop,(∀ σ' H',N σ' H'->∃m',m'<m/\W (i+1) m' σ' H')/\∀x H',J.yld i H x H'->g x σ H' fun σ2 H2=>tb { D with nx:=N,ct:=N,bk:=D.nx } σ2 H2)
noncomputable def T7 (fp:List Addr) (h:Heap):Pn9:=fp.filterMap fun b=>(h.get? b).map fun o=>(b,o)
theorem Q0i {fp:List Addr}{h:Heap}{b:Addr}{o:Obj} (hb:b∈fp) (e:h.get? b=some o):(b,o)∈T7 fp h:=List.mem_filterMap.mpr ⟨b,hb,by rw [e];rfl⟩
theorem Q6h {fp:List Addr}{h:Heap}{p:Addr×Obj} (hp:p∈T7 fp h):p.1∈fp/\h.get? p.1=some p.2:=by
 obtain⟨b,hb,e⟩:=List.mem_filterMap.mp hp
 cases q:h.get? b with
 | none=>rw [q]at e;cases e
 | some o =>
  rw [q]at e
  have e':(b,o)=p:=aC e
  subst e'
  exact⟨hb,q⟩
theorem A0.pinned {ac:Pn9} {σ:St}{H:Hp}{s:Shared}{fp:List Addr} (I:A0 X ac σ H s) (hf:∀b∈fp,J9 X ac H b) (ho:∀b∈fp,∃o,s.heap.get? b=some o/\∀v,o.data≠.cell v):A0 X (ac++T7 fp s.heap) σ H s :=
 I.pins_of fun p hp=>(aS.mp hp).elim (fun z=>I.pin p (av _ z)) fun z=>by
  obtain⟨hb,e⟩:=Q6h z
  obtain⟨f0,f1,f2,_⟩:=hf p.1 hb
  obtain⟨o,e',d⟩:=ho p.1 hb
  rw [e]at e';cases e'
  exact⟨e,f0,f1,f2,d⟩
theorem A0.unpinned {ac pl:Pn9} {σ:St}{H:Hp}{s:Shared} (I:A0 X (ac++pl) σ H s):A0 X ac σ H s:=I.pins_of fun p hp=>I.pin p (av _ (bf _ hp))
theorem W4l {iter:Expr}{body:List Stmt}{wi:TI}{g:TG}{tb:TS}{pos:Pos} (hp:PassesOwn (model X.prog X.w) X.A X.env X.xe) (hc:X.calm=true) (hi:PI X tg iter wi) (hg:PG X tg g) (hb:PSs X body tb)
  (hs:∀x,foldedSetIterable iter X.env x=pure x:=by intro _;rfl):PS X (.For tg iter body [] pos) (tFor wi g tb):=by
 intro ac s σ H D I h
 refine wpAny_For (B3 (hi ac s σ H _ I h) fun v s1 h1=>B3 h1 fun ic s2 h2=>?_) hs
 obtain⟨it,fp,tn,J,H2,e,I2,T,dG,f2,W,⟨m0,w0⟩,eN⟩:=h2
 subst e
 have iI:∀{H':Hp},(∀b∈fp,H' b=none)->∀b∈fp,J9 X ac H' b:=fun hn b hb=>⟨hn b hb,(f2 b hb).2⟩
 refine codeAny_forLoop_any (fun n s'=>∃i σ' H',A0 X ac σ' H' s'/\tn i s'.heap/\(∀b∈fp,H' b=none)/\W i n σ' H') ?_ m0 ⟨0,σ,H2,I2,dG,fun b hb=>(f2 b hb).1,w0⟩
 rintro n s3 ⟨i,σ3,H3,I3,eJ,fg,w3⟩
 rcases eN i n σ3 H3 w3 with⟨stop,qn⟩ | ⟨go,N,hN,step⟩
 ·refine dE hp (B3 (T.done X rfl rfl rfl hc i ac s3 σ3 H3 X.xe I3 (iI fg) eJ stop) fun r s4 br=>?_)
  obtain⟨hr,I4⟩:=br
  subst hr
  exact wpAny_execs_nil ⟨σ3,H3,I4,qn⟩
 ·refine dE hp (B3 (T.item X rfl rfl rfl hc i ac s3 σ3 H3 X.xe I3 (iI fg) eJ go) fun r s4 br=>?_)
  obtain⟨u,hr,h4⟩:=br
  subst hr
  refine dE hp (B3 h4 fun _ s5 br=>?_)
  obtain⟨x,H5,I5,r5,y5,dF,gX⟩:=br
  have h8:=I5.pinned (iI gX) (T.obj _ _ dF)
  refine dE hp (B3 (hg _ s5 σ3 H5 x u _ h8 r5 (step x H5 y5)) fun _ s6 br=>?_)
  obtain⟨σ6,H6,I6,q6⟩:=br
  refine dE hp (B3 (hb _ s6 σ6 H6 _ I6 q6) fun f s7 q7=>?_)
  have again:∀{σ7:St}{H7:Hp},A0 X (ac++T7 fp s5.heap) σ7 H7 s7->N σ7 H7->∃m,m<n/\∃i σ' H',A0 X ac σ' H' s7/\tn i s7.heap/\(∀b∈fp,H' b=none)/\W i m σ' H':=fun {σ7 H7} I7 n7=>by
   obtain⟨m',hm,w7⟩:=hN σ7 H7 n7
   refine⟨m',hm,i+1,σ7,H7,I7.unpinned,T.keep _ _ _ dF fun b hb o e=>(I7.pin (b,o) (av _ (av _ (Q0i hb e)))).1,fun b hb=>?_,w7⟩
   obtain⟨o,e,d⟩:=T.obj _ _ dF b hb
   exact(I7.pin (b,o) (av _ (av _ (Q0i hb e)))).2.1
  cases f with
  | next=>obtain⟨σ7,H7,I7,n7⟩:=q7;exact again I7 n7
  | cont=>obtain⟨σ7,H7,I7,n7⟩:=q7;exact again I7 n7
  | brk=>obtain⟨σ7,H7,I7,q7⟩:=q7;exact⟨σ7,H7,I7.unpinned,q7⟩
  | ret v=>obtain⟨x7,σ7,H7,I7,r7,q7⟩:=q7;exact⟨x7,σ7,H7,I7.unpinned,r7,q7⟩
end
end L2
namespace L2
open PySem PySem.Spec PyProof.Rows
noncomputable abbrev R2:=V->V->Hp->VK->Prop
def N7 (X:Cx) (f:Value->Value->Sem Value) (r:R2):Prop :=
 ∀(ac:Pn9) (s:Shared) (σ:St) (H:Hp) (x y:V) (v u:Value) (Q:VK),A0 X ac σ H s->B9 x v->B9 y u->r x y H Q ->
  wpAny (model X.prog X.w) X.A (f v u) (EP X ac σ Q) X.xe s
def Q1e (X:Cx) (f:Value) (r:List V->Hp->VK->Prop):Prop :=
 ∀(ac:Pn9) (s:Shared) (σ:St) (H:Hp) (xs:List V) (us:List Value) (Q:VK),A0 X ac σ H s->B4 xs us->r xs H Q ->
  wpAny (model X.prog X.w) X.A (call f us) (EP X ac σ Q) X.xe s
def TruR (X:Cx) (r:V->Hp->(Bool->Hp->Prop)->Prop):Prop :=
 ∀(ac:Pn9) (s:Shared) (σ:St) (H:Hp) (x:V) (v:Value) (Q:Bool->Hp->Prop),A0 X ac σ H s->B9 x v->r x H Q ->
  wpAny (model X.prog X.w) X.A (truthy v) (TP X ac σ Q) X.xe s
def tOp (r:R2) (ta tb:TE):TE:=fun σ H Q=>ta σ H fun x H1=>tb σ H1 fun y H2=>r x y H2 Q
def rI (C:Int->Int->Prop) (g:Int->Int->V):R2:=fun x y H Q=>∃i j,x=.int i/\y=.int j/\C i j/\Q (g i j) H
def rI0 (g:Int->Int->V):R2:=fun x y H Q=>∃i j,x=.int i/\y=.int j/\Q (g i j) H
section
variable {X:Cx}{a b c:Expr}{ta tb tc:TE}{pos:Pos}
theorem Z1a (ha:PE X a ta) (hb:PE X b tb) {ac:Pn9}{s:Shared} {σ:St}{H:Hp}{R:V->V->Hp->Prop} (I:A0 X ac σ H s)
  (h:ta σ H fun x H1=>tb σ H1 fun y H2=>R x y H2) {Q:VS9}{f:Value->Value->Sem Value}
  (hf:∀v u s2 x y H2,A0 X ac σ H2 s2->B9 x v->B9 y u->R x y H2->wpAny (model X.prog X.w) X.A (f v u) Q X.xe s2) :
  wpAny (model X.prog X.w) X.A (eval a X.env) (fun v s₁=>wpAny (model X.prog X.w) X.A (eval b X.env) (fun u s₂=>wpAny (model X.prog X.w) X.A (f v u) Q X.xe s₂) X.xe s₁) X.xe s:=by
 refine B3 (ha ac s σ H _ I h) fun v s1 br=>?_
 obtain⟨x,H1,I1,r1,q1⟩:=br
 refine B3 (hb ac s1 σ H1 _ I1 q1) fun u s2 br=>?_
 obtain⟨y,H2,I2,r2,q2⟩:=br
 exact hf v u s2 x y H2 I2 r1 r2 q2
theorem W3t {op:Operator}{r:R2} (ho:N7 X (binaryOp op) r) (ha:PE X a ta) (hb:PE X b tb):PE X (.BinOp a op b pos) (tOp r ta tb):=by
 intro ac s σ H Q I h
 exact wpAny_BinOp (Z1a ha hb I h fun v u s2 x y H2 I2 rx ry q=>ho ac s2 σ H2 x y v u Q I2 rx ry q)
theorem opI {f:Value->Value->Sem Value}{C:Int->Int->Prop}{g:Int->Int->Int}
  (rule:∀(i j:Int) (t u:Tok) (s:Shared) (Q:VS9) (E:VS9),C i j->Q (.int (g i j) s.toks) { s with toks:=s.toks+1 }->wpAny (model X.prog X.w) X.A (f (.int i t) (.int j u)) Q E s) :
  N7 X f (rI C fun i j=>.int (g i j)):=by
 intro ac s σ H x y v u Q I rx ry h
 obtain⟨i,j,rfl,rfl,hc,q⟩:=h
 obtain⟨t,rfl⟩:=rx
 obtain⟨t',rfl⟩:=ry
 exact rule i j t t' s _ _ hc ⟨.int (g i j),H,I.tok _,⟨_,rfl⟩,q⟩
theorem Z3b {f:Value->Value->Sem Value}{g:Int->Int->Int}
  (rule:∀(i j:Int) (t u:Tok) (s:Shared) (Q:VS9) (E:VS9),Q (.int (g i j) s.toks) { s with toks:=s.toks+1 }->wpAny (model X.prog X.w) X.A (f (.int i t) (.int j u)) Q E s) :
  N7 X f (rI0 fun i j=>.int (g i j)):=by
 intro ac s σ H x y v u Q I rx ry h
 obtain⟨i,j,rfl,rfl,q⟩:=h
 obtain⟨t,rfl⟩:=rx
 obtain⟨t',rfl⟩:=ry
 exact rule i j t t' s _ _ ⟨.int (g i j),H,I.tok _,⟨_,rfl⟩,q⟩
theorem opB0 {f:Value->Value->Sem Value}{g:Int->Int->Bool}
  (rule:∀(i j:Int) (t u:Tok) (s:Shared) (Q:VS9) (E:VS9),Q (.bool (g i j)) s->wpAny (model X.prog X.w) X.A (f (.int i t) (.int j u)) Q E s) :
  N7 X f (rI0 fun i j=>.bl (g i j)):=by
 intro ac s σ H x y v u Q I rx ry h
 obtain⟨i,j,rfl,rfl,q⟩:=h
 obtain⟨t,rfl⟩:=rx
 obtain⟨t',rfl⟩:=ry
 exact rule i j t t' s _ _ ⟨.bl (g i j),H,I,rfl,q⟩
def Z5 (i j:Int):Prop:=0<j/\j<1073741824
def Q1d (i j:Int):Prop:=(-(2 ^ 64)<i/\i<2 ^ 64)\/(-(2 ^ 64)<j/\j<2 ^ 64)
theorem Q1d.ok {i j:Int} (h:Q1d i j):IntMulOk i j:=by
 rcases h with⟨h1,h2⟩ | ⟨h1,h2⟩
 ·exact .of_left (intBits_le_64 h1 h2)
 ·exact .of_right (intBits_le_64 h1 h2)
theorem W2p:N7 X (binaryOp .Add) (rI0 fun i j=>.int (i+j)):=Z3b fun _ _ _ _ _ _ _ q=>add_int q
theorem W2z:N7 X (binaryOp .Sub) (rI0 fun i j=>.int (i-j)):=Z3b fun _ _ _ _ _ _ _ q=>sub_int q
theorem W2x:N7 X (binaryOp .Mult) (rI Q1d fun i j=>.int (i*j)):=opI fun _ _ _ _ _ _ _ hc q=>mul_int q hc.ok
theorem W2t:N7 X (binaryOp .FloorDiv) (rI Z5 fun i j=>.int (i / j)):=opI fun i j _ _ _ _ _ hc q=>by
 have h1:(0:Int)<j:=hc.1
 have h2:j<1073741824:=hc.2
 exact floordiv_int (by omega) (by rw [Int.fdiv_eq_ediv_of_nonneg i (by omega)];exact q) (.inl (PyProof.noPylong_small (by omega)))
theorem W2w:N7 X (binaryOp .Mod) (rI (fun _ j=>0<j) fun i j=>.int (i % j)):=opI fun i j _ _ _ _ _ hc q=>by
 have h1:(0:Int)<j:=hc
 exact mod_int' (by omega) (by rw [Int.fmod_eq_emod_of_nonneg i (by omega)];exact q)
theorem Y9g:N7 X (inplaceOp .Add) (rI0 fun i j=>.int (i+j)):=Z3b fun _ _ _ _ _ _ _ q=>iadd_int q
end
section
variable {X:Cx}{a b c:Expr}{ta tb tc:TE}{pos:Pos}
theorem W2v:N7 X (compareOp .Lt) (rI0 fun i j=>.bl (decide (i<j))):=opB0 fun _ _ _ _ _ _ _ q=>lt_int q
theorem W2u:N7 X (compareOp .GtE) (rI0 fun i j=>.bl (decide (j<=i))):=opB0 fun _ _ _ _ _ _ _ q=>ge_int q
theorem T5 (b:Expr) {op:CmpOp} (h:op≠.In:=by decide) (h2:op≠.NotIn:=by decide):behindInMarks op b=false:=by
 have e1:(op==CmpOp.In)=false:=by cases op <;> first | rfl | exact absurd rfl h
 have e2:(op==CmpOp.NotIn)=false:=by cases op <;> first | rfl | exact absurd rfl h2
 cases b <;> simp [behindInMarks,e1,e2]
theorem W3h {op:CmpOp}{r:R2} (ho:N7 X (compareOp op) r) (ha:PE X a ta) (hb:PE X b tb) (hm:behindInMarks op b=false):PE X (.Compare a [op] [b] pos) (tOp r ta tb):=by
 intro ac s σ H Q I h
 exact wpAny_Compare1 (Z1a ha hb I h fun v u s2 x y H2 I2 rx ry q=>ho ac s2 σ H2 x y v u Q I2 rx ry q) hm
def W8u (t:TE):TT:=fun σ H Q=>t σ H fun x H'=>∃k,x=.bl k/\Q k H'
theorem W4q {op:CmpOp}{r:R2} (ho:N7 X (compareOp op) r) (ha:PE X a ta) (hb:PE X b tb) (hm:behindInMarks op b=false):PT X (.Compare a [op] [b] pos) (W8u (tOp r ta tb)):=by
 intro ac s σ H Q I h
 refine wpAny_isTrue_Compare1 (B3 (ha ac s σ H _ I h) fun v s1 ⟨x,H1,I1,r1,q1⟩=>B3 (hb ac s1 σ H1 _ I1 q1) fun u s2 ⟨y,H2,I2,r2,q2⟩ =>
  B3 (ho ac s2 σ H2 x y v u _ I2 r1 r2 q2) fun c s3 ⟨z,H3,I3,r3,k,e,q3⟩=>?_) hm
 subst e
 cases r3
 exact wpAny_truthy_bool ⟨H3,I3,q3⟩
def Z0v (K:Fg9) (x:V) (H:Hp) (k:Bool):Prop :=
 match x with
 | .non=>k=false
 | .bl b=>k=b
 | .int i=>k=(i != 0)
 | .str y=>y.length<=sizeLine/\k=((y.length:Int) != 0)
 | .byt y=>y.size<=sizeLine/\k=((y.size:Int) != 0)
 | .ref p=>(∃xs,D6 K H p xs/\k=!xs.isEmpty)\/(∃xs,C4 K H p xs/\k=!xs.isEmpty)\/∃kvs,H p=some (.dK kvs)/\k=!kvs.isEmpty
 | _=>False
theorem Y9h {κ:Type}{kvs:List (κ×V)}{vs:List (κ×Value)} (r:KV kvs vs):(!vs.isEmpty)=!kvs.isEmpty:=by
 cases r <;> rfl
theorem Z8t {xs:List V}{aU:List Value} (r:B4 xs aU):(!aU.toArray.isEmpty)=!xs.isEmpty:=by
 cases r <;> simp
theorem Q0y:(sizeLine:Nat)<2 ^ 63:=by rw [sizeLine_eq];decide
theorem W9a:TruR X (fun x H Q=>∃k,Z0v X.K x H k/\Q k H):=by
 intro ac s σ H x v Q I rx h
 obtain⟨k,e,q⟩:=h
 have hl:=Q0y
 have hs:sizeLine=16777216:=sizeLine_eq
 cases x with
 | non =>
  cases rx
  have e':k=false:=e
  subst e'
  exact truthy_none ⟨H,I,q⟩
 | bl b =>
  cases rx
  have e':k=b:=e
  subst e'
  exact wpAny_truthy_bool ⟨H,I,q⟩
 | int i =>
  obtain⟨t,rfl⟩:=rx
  have e':k=(i != 0):=e
  subst e'
  exact PySem.P.truthy_int ⟨H,I,q⟩
 | str y =>
  obtain⟨t,rfl⟩:=rx
  obtain⟨hy,e'⟩:y.length<=sizeLine/\k=((y.length:Int) != 0):=e
  subst e'
  exact PySem.P.truthy_str (by omega) ⟨H,I.tok _,q⟩
 | byt y =>
  obtain⟨t,rfl⟩:=rx
  obtain⟨hy,e'⟩:y.size<=sizeLine/\k=((y.size:Int) != 0):=e
  subst e'
  exact PySem.W.truthy_bytes (by omega) ⟨H,I.tok _,q⟩
 | ref p =>
  cases rx
  have e':(∃xs,D6 X.K H p xs/\k=!xs.isEmpty)\/(∃xs,C4 X.K H p xs/\k=!xs.isEmpty)\/∃kvs,H p=some (.dK kvs)/\k=!kvs.isEmpty:=e
  rcases e' with⟨xs,hx,e'⟩ | ⟨xs,hx,e'⟩ | ⟨kvs,hx,e'⟩
  ·subst e'
   obtain⟨aU,r,pl,hz⟩:=I.list hx
   have bI:=r.length
   exact wpAny_truthy_list pl.isList (by simp only [aA];omega) ⟨H,I.tok _,by rw [Z8t r];exact q⟩
  ·subst e'
   obtain⟨aU,r,pl,hz⟩:=I.tuple hx
   have bI:=r.length
   exact truthy_tuple pl (by simp only [aA];omega) ⟨H,I.tok _,by rw [Z8t r];exact q⟩
  ·subst e'
   obtain⟨hz,hS,vs,r,m⟩:kvs.length<=sizeLine/\(p==sysModules)=false/\∃vs,KV kvs vs/\s.heap.DictOf (J5 X.prog X.w) p vs:=I.hok p _ hx
   have bI:kvs.length=vs.length:=Paired.length r
   exact wpAny_truthy_dict hS m (by omega) ⟨H,I.tok _,by rw [Y9h r];exact q⟩
 | _=>exact(show False from e).elim
theorem W4s (ha:PE X a ta) (he:∀whole,isTrue a X.env whole=(do let v <- whole;standAt a.pos;holding [v] (truthy v))) :
  PT X a (fun σ H Q=>ta σ H fun x H'=>∃k,Z0v X.K x H' k/\Q k H'):=by
 intro ac s σ H Q I h
 exact isTrue_plain (B3 (ha ac s σ H _ I h) fun v s1 ⟨x,H1,I1,r1,q1⟩=>W9a ac s1 σ H1 x v Q I1 r1 q1) (he _)
theorem W2q:N7 X (binaryOp .Add) (fun x y H Q=>∃i j,x=.str i/\y=.str j/\i.length+j.length<=sizeLine/\Q (.str (i++j)) H):=by
 intro ac s σ H x y v u Q I rx ry h
 obtain⟨i,j,rfl,rfl,hz,q⟩:=h
 obtain⟨t,rfl⟩:=rx
 obtain⟨t',rfl⟩:=ry
 exact add_str (fun t' tk=>⟨.str (i++j),H,I.tok _,⟨_,rfl⟩,q⟩) hz
theorem T9 {x:V}{us:List Value} (r:B4 [x] us):∃u,us=[u]/\B9 x u:=by
 cases r with
 | cons r1 r2=>cases r2;exact⟨_,rfl,r1⟩
theorem W9m {x y:V}{us:List Value} (r:B4 [x,y] us):∃u w',us=[u,w']/\B9 x u/\B9 y w':=by
 cases r with
 | cons r1 r2 =>
  cases r2 with
  | cons r3 r4=>cases r4;exact⟨_,_,rfl,r1,r3⟩
def LenV (K:Fg9) (x:V) (H:Hp) (n:Nat):Prop :=
 match x with
 | .str y=>y.length<=sizeLine/\n=y.length
 | .byt y=>y.size<=sizeLine/\n=y.size
 | .ref p=>(∃xs,D6 K H p xs/\n=xs.length)\/∃xs,C4 K H p xs/\n=xs.length
 | _=>False
theorem Q5c:Q1e X (.builtin "len") (fun xs H Q=>∃x n,xs=[x]/\LenV X.K x H n/\Q (.int n) H):=by
 intro ac s σ H xs us Q I r h
 obtain⟨x,n,rfl,e,q⟩:=h
 obtain⟨u,rfl,rx⟩:=T9 r
 have hl:=Q0y
 have hs:sizeLine=16777216:=sizeLine_eq
 cases x with
 | str y =>
  obtain⟨t,rfl⟩:=rx
  obtain⟨hy,e'⟩:y.length<=sizeLine/\n=y.length:=e
  subst e'
  exact len_str (by omega) ⟨.int _,H,I.tok _,⟨_,rfl⟩,q⟩
 | byt y =>
  obtain⟨t,rfl⟩:=rx
  obtain⟨hy,e'⟩:y.size<=sizeLine/\n=y.size:=e
  subst e'
  exact PySem.W.len_bytes (by omega) ⟨.int _,H,I.tok _,⟨_,rfl⟩,q⟩
 | ref p =>
  cases rx
  have e':(∃xs,D6 X.K H p xs/\n=xs.length)\/∃xs,C4 X.K H p xs/\n=xs.length:=e
  rcases e' with⟨xs,hx,e'⟩ | ⟨xs,hx,e'⟩
  ·subst e'
   obtain⟨aU,r',pl,hz⟩:=I.list hx
   have bI:=r'.length
   exact Calls.call_len_list pl.isList (by simp only [aA];omega) ⟨.int xs.length,H,I.tok _,⟨_,by simp only [aA];rw [bI]⟩,q⟩
  ·subst e'
   obtain⟨aU,r',pl,hz⟩:=I.tuple hx
   have bI:=r'.length
   exact len_tuple pl (by simp only [aA];omega) ⟨.int xs.length,H,I.tok _,⟨_,by simp only [aA];rw [bI]⟩,q⟩
 | _=>exact(show False from e).elim
end
end L2
namespace L2
open PySem PySem.Spec PyProof.Rows
section
variable {prog:Program}{w:World}{A:Around}{E:VS9}{s:Shared}{K:Fg9}{x dx C f:Addr}{mA:Str->Option Value}{name:Str}{v:Value}
end
theorem W7.some_of {v:V}{o:Option Value} (r:W7 (some v) o):∃u,o=some u/\B9 v u:=by
 cases o with
 | none=>exact(show False from r).elim
 | some u=>exact⟨u,rfl,r⟩
section
variable {P:Program}{w:World}{H H':Hp}{h h':Heap}{a C dx:Addr}{fs r8:List (Str×V)}
end
section
variable {X:Cx}{ac:Pn9} {σ:St}{H:Hp}{s:Shared}{a C dx:Addr}{fs:List (Str×V)}{f:Str}{v:V}{A:Around}{E:VS9}
end
section
variable {X:Cx}{o e value:Expr}{f:Str}{pos bj kO:Pos}{ta tv:TE}
end
section
variable {X:Cx}{ac:Pn9} {σ:St}{H:Hp}{s:Shared}{A:Around}{E:VS9}{Q:VS9}{c:Value}{b:Bool}
end
end L2
namespace L2
open PySem PySem.Spec PyProof.Rows
structure D5 (k:Nat) (A:Around):Prop where
 hd:A.handled=none
 dp:A.depth+3*k+5<recursionLimit
 un:A.units+16*k+200<cLine
theorem D5.mono {j k:Nat}{A:Around} (r:D5 k A) (h:j<=k):D5 j A:=⟨r.hd,by have:=r.dp;omega,by have:=r.un;omega⟩
theorem D5.deeper {k:Nat}{A:Around} (r:D5 (k+1) A) (env:Env):D5 k (A.deeper env) :=
 ⟨r.hd,by have:=r.dp;show A.depth+1+3*k+5<_;omega,by have:=r.un;show A.units+3+16*k+200<_;omega⟩
theorem D5.depth {k:Nat}{A:Around} (r:D5 k A):A.depth<recursionLimit:=by have:=r.dp;omega
theorem D5.units {k:Nat}{A:Around} (r:D5 k A):A.units+64<cLine:=by have:=r.un;omega
def Z3z:TA:=fun _ H Q=>Q [] H
def Z3y (ta:TE) (tr:TA):TA:=fun σ H Q=>ta σ H fun x H1=>tr σ H1 fun xs H2=>Q (x::xs) H2
section
variable {X:Cx}{e:Expr}{es:List Expr}{te:TE}{t:TA}{pos:Pos}
theorem Q1r:PA X [] Z3z:=fun _ _ _ _ H Q I h=>cR ⟨[],H,I,.nil,h⟩
theorem Q0k (ha:PE X e te) (hr:PA X es t) (hs:starEach (e::es) X.env=(false,eval e X.env)::starEach es X.env:=by rfl):PA X (e::es) (Z3y te t):=by
 intro pos ac s σ H Q I h
 rw [hs]
 show wpAny _ _ (spliced ((false,eval e X.env)::backTo pos (starEach es X.env))) _ _ s
 refine bT (B3 (ha ac s σ H _ I h) fun u s1 br=>?_)
 obtain⟨x,H1,I1,r1,q1⟩:=br
 exact B3 (hr pos ac s1 σ H1 _ I1 q1) fun us s2 ⟨xs,H2,I2,r2,q2⟩=>⟨x::xs,H2,I2,.cons r1 r2,q2⟩
def tTup (t:TA):TE:=fun σ H Q=>t σ H fun xs H1=>xs.length<=sizeLine/\∀p,H1 p=none->Q (.ref p) (upd H1 p (.tup xs))
def tLst (t:TA):TE:=fun σ H Q=>t σ H fun xs H1=>xs.length<=sizeLine/\∀p,H1 p=none->Q (.ref p) (upd H1 p (.lst xs))
theorem W3y {x1} (h:PA X es t):PE X (.Tuple es x1 pos) (tTup t):=by
 intro ac s σ H Q I hq
 refine wpAny_Tuple_spliced (B3 (h pos ac s σ H _ I hq) fun us s1 ⟨xs,H1,I1,r,z,q⟩=>⟨by rw [<- r.length];exact z,?_⟩)
 have hf:H1 s1.heap.objs.size=none:=I1.hok.fresh (aj _)
 refine⟨.ref s1.heap.objs.size,upd H1 s1.heap.objs.size (.tup xs),I1.laid (t':=s1.toks) (fun b u e=>ae _ e) (aj _) ?_,rfl,q _ hf⟩
 exact⟨z,us,r,⟨_,aF _ rfl,rfl,_,rfl⟩⟩
theorem Y1f (h:PA X es t):PE X (.List es pos) (tLst t):=by
 intro ac s σ H Q I hq
 refine wpAny_List_spliced (B3 (h pos ac s σ H _ I hq) fun us s1 ⟨xs,H1,I1,r,z,q⟩=>⟨by rw [<- r.length];exact z,?_⟩)
 have hf:H1 s1.heap.objs.size=none:=I1.hok.fresh (aj _)
 refine⟨.ref s1.heap.objs.size,upd H1 s1.heap.objs.size (.lst xs),I1.laid (t':=s1.toks) (fun b u e=>ae _ e) (aj _) ?_,rfl,q _ hf⟩
 exact⟨z,us,0,r,aF _ rfl⟩
end
noncomputable abbrev Sp:=List V->Hp->VK->XK->Prop
noncomputable abbrev CXT:=List Env->Hp->Shared->XK->Value->Shared->Prop
structure Q2w (P:Program) (w:World) (K:Fg9) (mg:Str->Option Value) (base:Heap) (A:Around) (outer:List Env) (s:Shared) (H:Hp):Prop where
 frames:A.frames=some outer
 mod:Mod K mg base
 bs:∀b o,base.get? b=some o->s.heap.get? b=some o/\H b=none
 bsz:base.objs.size<=s.heap.objs.size
 funs:s.heap.FunFrames base outer
 frf:∀b∈frs outer,H b=none
 hok:F1 P w H s.heap
 bare:AllBare s.gens
def CE (outer:List Env) (P:Program) (w:World) (H:Hp) (s:Shared) (Q:VK) (u:Value) (s':Shared):Prop :=
 ∃v H',s'.os=s.os/\AllBare s'.gens/\Un (frs outer) [] H H' s.heap s'.heap/\F1 P w H' s'.heap/\B9 v u/\Q v H'
def CR (CX:CXT) (outer:List Env) (P:Program) (w:World) (H:Hp) (s:Shared) (Q:VK) (E:XK) (r:Result) (s':Shared):Prop :=
 match r with
 | .ok (.ret u)=>CE outer P w H s Q u s'
 | .ok _=>False
 | .error e=>CX outer H s E e s'
structure O5 (P:Program) (w:World) (K:Fg9) (mg:Str->Option Value) (base:Heap) (CX:CXT) (k:Nat) (f:Addr) (fd:FuncData) (ps:List Str) (sp:Sp):Prop where
 len:∀vs H Q E,sp vs H Q E->vs.length=ps.length
 run:∀(A:Around) (outer:List Env) (s:Shared) (H:Hp) (args:Args) (us:List Value) (vs:List V) (Q:VK) (E:XK),D5 k A->Q2w P w K mg base A outer s H->BindsTo s fd args (ps.zip us)->B4 vs us->sp vs H Q E ->
  codeAny (model P w) A (.call (.ref f) args) (CR CX outer P w H s Q E) s
section
variable {X:Cx}{ac:Pn9} {σ:St}{H:Hp}{s s':Shared}
theorem A0.env0 (I:A0 X ac σ H s):Q2w X.prog X.w X.K X.mg X.base X.A X.stack s H :=
 ⟨I.ok.frames,I.ok.mod,I.bs,aX I.ok.bsz I.sz,I.stack,I.stkFree,I.hok,I.bare⟩
theorem A0.after {Q:VK}{u:Value} (I:A0 X ac σ H s) (h:CE X.stack X.prog X.w H s Q u s'):EP X ac σ Q u s':=by
 obtain⟨v,H',os,bare,un,hok,r,q⟩:=h
 obtain⟨hh,g,d,t,oR⟩:=s'
 obtain rfl:oR=s.os:=os
 exact⟨v,H',I.call (h':=hh) (g':=g) (d':=d) (t':=t) (ch:=[]) un hok bare (fun b z=>absurd z (by simp)),r,q⟩
end
def Y4l (sp:Sp) (ga:List V) (E:XK) (t:TA):TE:=fun σ H Q=>t σ H fun vs H1=>sp (vs++ga) H1 Q E
def V6 (K:Fg9) (fd:FuncData) (ps:List Str) (ds:List Value):Prop :=
 ∀(s:Shared) (us:List Value),K.In s.heap->(us++ds).length=ps.length->BindsTo s fd ⟨us,[]⟩ (ps.zip (us++ds))
theorem V6.all {K:Fg9}{fd:FuncData}{ps:List Str} (h:∀us:List Value,us.length=ps.length->bindArgs fd ⟨us,[]⟩=pure (ps.zip us)):V6 K fd ps []:=fun s us _ hl=>by
 rw [bD]at hl ⊢
 exact .of_eq (h us hl)
def Q6x (CX:CXT) (X:Cx) (E:XK):Prop:=∀(ac:Pn9) (σ:St) (H:Hp) (s:Shared) (e:Value) (s':Shared),A0 X ac σ H s->CX X.stack H s E e s'->X.xe e s'
section
variable {X:Cx}{CX:CXT}{k:Nat}{f C:Addr}{fd:FuncData}{ps:List Str}{sp:Sp}{ga:List V}{ds:List Value}{E:XK}{x m:Str}{p pos apos:Pos}{e o:Expr}{es:List Expr}{ta:TE}{t:TA}
theorem Z3j {ac:Pn9} {σ:St}{H:Hp}{s:Shared}{Q:VK}{us:List Value}{vs:List V} (F:O5 X.prog X.w X.K X.mg X.base CX k f fd ps sp) (hr:D5 k X.A) (hb:V6 X.K fd ps ds) (hd:B4 ga ds) (hx:Q6x CX X E)
  (I:A0 X ac σ H s) (r:B4 vs us) (h:sp (vs++ga) H Q E):wpAny (model X.prog X.w) X.A (call (.ref f) us) (EP X ac σ Q) X.xe s:=by
 have r2:B4 (vs++ga) (us++ds):=r.append hd
 have hl:(us++ds).length=ps.length:=by rw [<- r2.length];exact F.len _ _ _ _ h
 refine wpAny_call (codeAny_mono (F.run X.A X.stack s H ⟨us,[]⟩ (us++ds) (vs++ga) Q E hr I.env0 (hb s us I.kIn hl) r2 h) fun r s' hq=>?_)
 cases r with
 | error e=>exact hx ac σ H s e s' I hq
 | ok fl =>
  cases fl with
  | ret u=>exact I.after hq
  | next=>exact False.elim hq
  | brk=>exact False.elim hq
  | cont=>exact False.elim hq
theorem Y1d (F:O5 X.prog X.w X.K X.mg X.base CX k f fd ps sp) (hr:D5 k X.A) (hg:Gl X x) (hm:X.mg x=some (.ref f)) (hk:PySem.W.keepIn X.K (.ref f)=true) (hb:V6 X.K fd ps ds) (hd:B4 ga ds) (hx:Q6x CX X E)
  (ha:PA X (e::es) t) (dC:(x==("__debug__":Str))=false:=by decide) (he:starEach (e::es) X.env=(false,eval e X.env)::starEach es X.env:=by rfl) (hpl:(backTo pos (starEach es X.env)).any (·.1)=false:=by rfl) :
  PE X (.Call (.Name x p) (e::es) [] pos) (Y4l sp ga E t):=by
 intro ac s σ H Q I h
 refine bn (Q7w I hg hm ?_ dC)
 refine PySem.W.callWith_K (h₀:=X.base) I.ok.mod.kin hk (B3 (ha pos ac s σ H _ I h) fun us s1 ⟨vs,H1,I1,r,q⟩=>⟨I1.kIn,?_⟩) he hpl
 exact Z3j F hr hb hd hx I1 r q
theorem W3e (F:O5 X.prog X.w X.K X.mg X.base CX k f fd ps sp) (hr:D5 k X.A) (hg:Gl X x) (hm:X.mg x=some (.ref f)) (hk:PySem.W.keepIn X.K (.ref f)=true) (hb:V6 X.K fd ps ds) (hd:B4 ga ds) (hx:Q6x CX X E)
  (dC:(x==("__debug__":Str))=false:=by decide):PE X (.Call (.Name x p) [] [] pos) (Y4l sp ga E Z3z):=by
 intro ac s σ H Q I h
 refine bn (Q7w I hg hm ?_ dC)
 exact PySem.W.callWith_K0 I.kIn hk (Z3j (us:=[]) F hr hb hd hx I .nil h)
end
section
variable {X:Cx}{CX:CXT}{k:Nat}{f C:Addr}{fd:FuncData}{ps ks:List Str}{sp:Sp}{E:XK}{x m:Str}{p pos apos pB:Pos}{e o:Expr}{es:List Expr}{rR:List Keyword}{te ta:TE}{t tk:TA}{nm:Option Str}
variable {g:List Value->List Value->List Value}{gV:List V->List V->List V}
end
structure K5 (N P:List Str) (sc:Scope):Prop where
 kind:sc.kind=.function
 co:sc.isCoroutine=false
 gen:sc.isGenerator=false
 nd:N.Nodup
 pre:N.take P.length=P
 par:∀x∈P,sc.names.lookup x=some .local\/sc.names.lookup x=some .cell
 nofree:∀y∈sc.names,y.2≠.free
theorem Z6v {kindOf:Str->Option NameKind}{x:Str}:∀{binds:List (Str×Value)}{m:Str->Option Value},(∀v,(x,v)∉binds)->bindL kindOf binds m x=m x
 | [],_,_=>rfl
 | (n,v)::r,m,h=>by
  unfold bindL
  rw [Z6v fun w hw=>h w (ar _ hw)]
  split
  ·have:x≠n:=by rintro rfl;exact h v ao
   simp [this]
  ·rfl
theorem Z6t {kindOf:Str->Option NameKind}{x:Str}:∀{binds:List (Str×Value)}{m:Str->Option Value},(∀v,(x,v)∉binds)->bindC kindOf binds m x=m x
 | [],_,_=>rfl
 | (n,v)::r,m,h=>by
  unfold bindC
  rw [Z6t fun w hw=>h w (ar _ hw)]
  split
  ·rfl
  ·have:x≠n:=by rintro rfl;exact h v ao
   simp [this]
theorem Z6u {kindOf:Str->Option NameKind}{x:Str}{v:Value}:∀{P:List Str}{vs:List Value}{i:Nat}{m:Str->Option Value},P.Nodup->P[i]?=some x->vs[i]?=some v->kindOf x=some .local ->
  bindL kindOf (P.zip vs) m x=some v
 | [],_,_,_,_,h,_,_=>by simp at h
 | _::_,[],_,_,_,_,h,_=>by simp at h
 | p::P,w::vs,0,m,nd,h1,h2,hk=>by
  simp at h1 h2;subst h1;subst h2
  show bindL kindOf ((p,w)::P.zip vs) m p=_
  unfold bindL
  rw [Z6v fun v hv=>(bx.mp nd).1 (h9 hv).1,aJ hk]
  simp
 | p::P,w::vs,i+1,m,nd,h1,h2,hk=>by
  show bindL kindOf ((p,w)::P.zip vs) m x=_
  unfold bindL
  exact Z6u (i:=i) (bx.mp nd).2 (by simpa using h1) (by simpa using h2) hk
theorem Z6s {kindOf:Str->Option NameKind}{x:Str}{v:Value}:∀{P:List Str}{vs:List Value}{i:Nat}{m:Str->Option Value},P.Nodup->P[i]?=some x->vs[i]?=some v->kindOf x≠some .local ->
  bindC kindOf (P.zip vs) m x=some v
 | [],_,_,_,_,h,_,_=>by simp at h
 | _::_,[],_,_,_,_,h,_=>by simp at h
 | p::P,w::vs,0,m,nd,h1,h2,hk=>by
  simp at h1 h2;subst h1;subst h2
  show bindC kindOf ((p,w)::P.zip vs) m p=_
  unfold bindC
  rw [Z6t fun v hv=>(bx.mp nd).1 (h9 hv).1,aH hk]
  simp
 | p::P,w::vs,i+1,m,nd,h1,h2,hk=>by
  show bindC kindOf ((p,w)::P.zip vs) m x=_
  unfold bindC
  exact Z6s (i:=i) (bx.mp nd).2 (by simpa using h1) (by simpa using h2) hk
noncomputable def start (N:List Str) (vs:List V):St:=vs.map some++List.replicate (N.length-vs.length) none
noncomputable def Z9 (CX:CXT) (P:Program) (w:World) (K:Fg9) (mg:Str->Option Value) (base:Heap) (N:List Str) (qual:Str) (scope:Scope) (f:Addr) (cd:Value) (A:Around) (outer:List Env) (s:Shared) (H:Hp) (E:XK):Cx where
 prog:=P
 w:=w
 K:=K
 mg:=mg
 base:=base
 A:=A.deeper (envOfC qual scope s.heap.objs.size f cd)
 N:=N
 s₀:=s
 H₀:=H
 env:=envOfC qual scope s.heap.objs.size f cd
 outer:=outer
 stack:=envOfC qual scope s.heap.objs.size f cd::outer
 ex:=[]
 calm:=true
 fn:=fun _=>true
 pn:=[]
 xe:=fun e s'=>wpAny (model P w) (A.deeper (envOfC qual scope s.heap.objs.size f cd)) (leaving (envOfC qual scope s.heap.objs.size f cd) e) (fun _ kX=>CX outer H s E e kX) (fun e' kX=>CX outer H s E e' kX) s'
theorem Z7g {sc:Scope}{n:Nat}{x:Str} (h:sc.names.lookup x=some .cell):∃c,(cellsFrom n sc.names []).lookup x=some c:=by
 have q:=PySem.W.cellsFrom_some sc.names n [] (.inl h)
 exact Option.isSome_iff_exists.mp q
theorem Y9e {CX:CXT}{P:Program}{w:World}{K:Fg9}{mg:Str->Option Value}{base:Heap}{N ps:List Str}{qual:Str}{scope:Scope}{f:Addr}{cd:Value}{A:Around}{outer:List Env}{s s1:Shared}{H:Hp}{E:XK}{us:List Value}{vs:List V}
  (S:K5 N ps scope) (hd:A.handled=none) (e0:Q2w P w K mg base A outer s H) (hl:vs.length=ps.length) (r:B4 vs us)
  (x:InCallC s s.heap.objs.size (bindL (envOfC qual scope s.heap.objs.size f cd).kindOf (ps.zip us) fun _=>none) (cellsFrom (s.heap.objs.size+1) scope.names []) (bindC (envOfC qual scope s.heap.objs.size f cd).kindOf (ps.zip us) fun _=>none) s1) :
  A0 (Z9 CX P w K mg base N qual scope f cd A outer s H E) [] (start N vs) H s1:=by
 have hpl:ps.length<=N.length:=by have:=congrArg List.length S.pre;rw [List.length_take]at this;omega
 obtain⟨h1,tk,rfl,hk⟩:=x.done
 have gh:∀b:Addr,b∉(Z9 CX P w K mg base N qual scope f cd A outer s H E).ex:=fun b z=>absurd (show b∈([]:List Addr)from z) (by simp)
 refine⟨⟨e0.mod,S.kind,rfl,rfl,aj _,fun y z c h1 h2=>?_,fun y hy=>?_,fun y c _ h=>?_,fun _=>hd,Around.frames_deeper e0.frames,.inr ⟨rfl,rfl⟩,fun b z=>absurd z (gh b),e0.bs,e0.bsz,fun b _ _=>gh b,fun b z=>absurd z (gh b),e0.funs,e0.frf⟩,
  rfl,e0.bare,Un.kept hk,⟨_,x.toInCall.ns,fun i y v h1 h2 h3=>?_⟩,fun y c h=>⟨_,x.cell y c h⟩,e0.hok.fresh (aj _),fun y c h=>?_,fun p hp=>absurd (show p∈([]:Pn9)from hp) (by simp),e0.hok.kept hk,?_⟩
 ·exact name_of_addr x.apart (bM h1) (bM h2)
 ·have hy:scope.names.lookup y=some .cell\/scope.names.lookup y=some .free:=hy
  rcases hy with hy | hy
  ·exact Z7g hy
  ·exact absurd rfl (S.nofree _ (bM hy))
 ·exact db (x.above y c (bM h))
 ·have hi:i<vs.length:=by
   unfold start at h2
   by_cases hi:i<vs.length
   ·exact hi
   ·rw [aQ (by simpa using hi)]at h2
    rw [List.getElem?_replicate]at h2
    split at h2 <;> cases h2
  have ha:vs[i]?=some v:=by
   unfold start at h2
   rw [aI (by simpa using hi),ak]at h2
   cases e:vs[i]? with
   | none=>rw [e]at h2;cases h2
   | some a=>rw [e]at h2;cases h2;rfl
  obtain⟨u,hu,rv⟩:=r.get ha
  have hp:ps[i]?=some y:=by
   rw [<- S.pre,List.getElem?_take_of_lt (by omega)];exact h1
  have mW:ps.Nodup:=by rw [<- S.pre];exact S.nd.sublist (List.take_sublist _ _)
  refine⟨u,rv,?_⟩
  rcases S.par y (aE hp)with k | k
  ·exact .inl ⟨k,Z6u mW hp hu k⟩
  ·obtain⟨c,e⟩:=Z7g (n:=s.heap.objs.size+1) k
   refine .inr ⟨.inl k,c,e,?_⟩
   have q:=x.cell y c e
   rw [Z6s mW hp hu (by show scope.names.lookup y≠_;rw [k];decide)]at q
   exact q
 ·exact e0.hok.fresh (db (x.above y c (bM h)))
 ·unfold start
  show _=N.length
  rw [aD,ah,aV]
  omega
theorem Z8d {CX:CXT}{P:Program}{w:World}{K:Fg9}{mg:Str->Option Value}{base:Heap}{k:Nat}{f:Addr}{name qual:Str}{params:Arguments}{body:List Stmt}{scope:Scope}{dV kV cP pm cdv ct oc:Value}{an od:Option Addr}
  {dS:Array (Option Value)}{N ps:List Str}{sp:Sp} (lk:K.lookup f=some ⟨oc,od,.func (PySem.W.fnOf name qual params body scope dV kV cP pm an cdv ct),dS⟩) (dX:PySem.W.codeIn K cdv qual=true) (S:K5 N ps scope)
  (len:∀vs H Q E,sp vs H Q E->vs.length=ps.length)
  (cq:∀(A:Around) (outer:List Env) (s:Shared) (H:Hp) (vs:List V) (Q:VK) (E:XK),D5 k (A.deeper (envOfC qual scope s.heap.objs.size f cdv))->sp vs H Q E ->
   ∃t,PSs (Z9 CX P w K mg base N qual scope f cdv A outer s H E) body t/\t { nx:=fun _ H'=>Q .non H',rt:=Q } (start N vs) H) :
  O5 P w K mg base CX (k+1) f (PySem.W.fnOf name qual params body scope dV kV cP pm an cdv ct) ps sp:=by
 refine⟨len,fun A outer s H args us vs Q E hr e0 hb r gp=>?_⟩
 have hl:=len _ _ _ _ gp
 have KX:K.In s.heap:=e0.mod.kin.keeps fun b o e=>(e0.bs b o e).1
 have jD:s.heap.NoLimit:=e0.mod.nolimit.keeps fun b o e=>(e0.bs b o e).1
 have jQ:∀y∈ps.zip us,scope.names.lookup y.1=some .local\/(scope.names.lookup y.1=some .cell/\((cellsFrom (s.heap.objs.size+1) scope.names []).lookup y.1).isSome=true):=fun⟨n,v⟩ hy=>by
  rcases S.par n (h9 hy).1 with q | q
  ·exact .inl q
  ·exact .inr ⟨q,PySem.W.cellsFrom_some _ _ _ (.inl q)⟩
 refine codeAny_call_function hr.depth (KX _ _ lk) rfl S.co S.gen rfl (PySem.W.codeRec_of KX dX) (hb _ _ _ _ ?_)
 refine wpAny_newFunctionEnv_cells S.kind jQ fun env he s1 x=>?_
 subst he
 refine⟨jD.keeps x.toInCall.keep,codeAny_func ?_⟩
 obtain⟨t,ht,hq⟩:=cq A outer s H vs Q E (hr.deeper _) gp
 have I:A0 (Z9 CX P w K mg base N qual scope f cdv A outer s H E) [] (start N vs) H s1:=Y9e S hr.hd e0 hl r x
 refine aR (ht [] s1 (start N vs) H _ I hq) (fun fl s' hs=>?_) fun e s' hs=>hs
 have fin:∀{σ':St}{H':Hp}{v:V}{u:Value},A0 (Z9 CX P w K mg base N qual scope f cdv A outer s H E) [] σ' H' s'->B9 v u->Q v H'->CE outer P w H s Q u s' :=
  fun {σ' H' v u} J rv q=>⟨v,H',J.os,J.bare,J.base,J.hok,rv,q⟩
 cases fl with
 | ret u =>
  obtain⟨v,σ',H',J,rv,q⟩:=hs
  exact fin J rv q
 | next =>
  obtain⟨σ',H',J,q⟩:=hs
  exact fin (v:=V.non) (u:=Value.none) J rfl q
 | brk =>
  obtain⟨_,_,_,q⟩:=hs
  exact False.elim q
 | cont =>
  obtain⟨_,_,_,q⟩:=hs
  exact False.elim q
end L2
namespace L2
open PySem PySem.Spec PyProof.Rows
section
variable {X:Cx}{x:Str}{p pos:Pos}{e:Expr}{es:List Expr}{t:TA}{id T:String}{r:List V->Hp->VK->Prop}
def tCB (r:List V->Hp->VK->Prop) (t:TA):TE:=fun σ H Q=>t σ H fun vs H1=>r vs H1 Q
theorem Z3e (hc:Q1e X (.builtin id) r) (hg:Gl X x) (hm:X.mg x=none) (hv:bootBuiltins x=some (.builtin id)) (ha:PA X (e::es) t) (hn:x≠"__name__":=by decide) (dC:(x==("__debug__":Str))=false:=by decide)
  (he:starEach (e::es) X.env=(false,eval e X.env)::starEach es X.env:=by rfl) (hpl:(backTo pos (starEach es X.env)).any (·.1)=false:=by rfl):PE X (.Call (.Name x p) (e::es) [] pos) (tCB r t):=by
 intro ac s σ H Q I h
 refine bn (Q0f I hg hm hv ?_ hn dC)
 exact PyProof.Rows.callWith_builtin1 (B3 (ha pos ac s σ H _ I h) fun us s1 ⟨vs,H1,I1,r1,q1⟩=>hc ac s1 σ H1 vs us Q I1 r1 q1) he hpl
theorem W3g (hc:Q1e X (.type T) r) (hg:Gl X x) (hm:X.mg x=none) (hv:bootBuiltins x=some (.type T)) (ha:PA X (e::es) t) (hn:x≠"__name__":=by decide) (dC:(x==("__debug__":Str))=false:=by decide)
  (he:starEach (e::es) X.env=(false,eval e X.env)::starEach es X.env:=by rfl) (hpl:(backTo pos (starEach es X.env)).any (·.1)=false:=by rfl):PE X (.Call (.Name x p) (e::es) [] pos) (tCB r t):=by
 intro ac s σ H Q I h
 refine bn (Q0f I hg hm hv ?_ hn dC)
 exact bh (B3 (ha pos ac s σ H _ I h) fun us s1 ⟨vs,H1,I1,r1,q1⟩=>hc ac s1 σ H1 vs us Q I1 r1 q1) he hpl
end
end L2
namespace HT
open PySem PyProof.Rows
section
open PySem.SeqAt
open PySem.AutoSeq1 (wpAny_loadPart')
open PySem.MeetsSeq PySem.MeetsSeq2 PySem.MeetsSeq3
end
section
variable {prog:Program}{w:World}{A:Around}{E:VS9}{s:Shared}
theorem cat_tup {t b:Addr}{vs ws:List Value}{Q:VS9} (ht:IsTup s.heap t vs.toArray) (hb:IsTup s.heap b ws.toArray) (hv:vs≠[])
  (h1:ws=[]->Q (.ref t) s) (h2:ws≠[]->Q (.ref s.heap.objs.size) { s with heap:=s.heap.push { cls:=.type "tuple",data:=.seq (vs++ws).toArray } })
  (hsz:vs.length+ws.length<=sizeLine):wpAny (model prog w) A (binaryOp .Add (.ref t) (.ref b)) Q E s:=by
 obtain⟨⟨cls,dd,data,sl⟩,ho,hc,n,hd⟩:=id ht
 obtain⟨⟨km,jp,data2,jh⟩,fF,iw,n2,ip⟩:=id hb
 simp only at hc hd iw ip
 subst hc hd iw ip
 have e:vs.toArray++ws.toArray=(vs++ws).toArray:=by simp
 by_cases hw:ws=[]
 ·exact concat_meets ⟨_,ho,rfl⟩ ⟨_,fF,rfl⟩ noFill_tuple_add seq_tuple_add PySem.F.slot_tuple_add PySem.F.entry_tuple_add (PySem.F.args_tuple_add_2 _ _)
   (tuple_addW1 t b vs.toArray ws.toArray n n2 dd jp sl jh (by simpa using hv) (by simp [hw])) ⟨ho,fF,h1 hw⟩
 ·refine concat_meets ⟨_,ho,rfl⟩ ⟨_,fF,rfl⟩ noFill_tuple_add seq_tuple_add PySem.F.slot_tuple_add PySem.F.entry_tuple_add (PySem.F.args_tuple_add_2 _ _)
   (tuple_addW2 t b vs.toArray ws.toArray n n2 dd jp sl jh (by simpa using hv) (by simpa using hw) (by rw [aA,aA];exact hsz)) ⟨ho,fF,?_⟩
  rw [e]
  exact h2 hw
noncomputable def sIx (n d:Nat):Option Int->Nat
 | none=>d
 | some v=>if v<0 then(v+(n:Int)).toNat else min v.toNat n
theorem sIx_none (n d:Nat):sIx n d none=d:=rfl
theorem sIx_nat (n d k:Nat):sIx n d (some (k:Int))=min k n:=by
 show(if (k:Int)<0 then((k:Int)+(n:Int)).toNat else min (k:Int).toNat n)=min k n
 rw [aH (by omega),bg]
theorem W6d (n d:Nat) (hd:d<=n) (o:Option Int):sIx n d o<=n:=by
 cases o with
 | none=>exact hd
 | some v =>
  show(if v<0 then(v+(n:Int)).toNat else min v.toNat n)<=n
  by_cases hv:v<0
  ·rw [aJ hv];omega
  ·rw [aH hv];exact Nat.min_le_right _ _
theorem Z7j (v:Int) (n d:Nat):(if v<0 then max (v+(n:Int)) 0 else min v (n:Int))=((sIx n d (some v):Nat):Int):=by
 show(if v<0 then max (v+(n:Int)) 0 else min v (n:Int))=(((if v<0 then(v+(n:Int)).toNat else min v.toNat n):Nat):Int)
 by_cases hv:v<0
 ·simp only [aJ hv];omega
 ·simp only [aH hv];omega
theorem Y6o (lo hi:Option Int) (n:Nat):Builtin.Slice.sliceAdjust lo hi 1 (n:Int)=(((sIx n 0 lo:Nat):Int),((sIx n n hi:Nat):Int)):=by
 have h1:¬ ((1:Int)<0):=by omega
 unfold Builtin.Slice.sliceAdjust
 simp only [h1,dw]
 refine Prod.ext ?_ ?_
 ·cases lo with
  | none=>rfl
  | some v=>exact Z7j v n 0
 ·cases hi with
  | none=>rfl
  | some v=>exact Z7j v n n
theorem W4e (i j:Nat):Builtin.Slice.slicePlaces (i:Int) (j:Int) 1=j-i:=by
 unfold Builtin.Slice.slicePlaces
 have h1:(1:Int) > 0:=by omega
 simp only [h1,if_true,Int.ediv_one]
 split <;> omega
theorem Y4b {v:Value}{o:Option Int}{Q:Option Int->Shared->Prop} (p:IsPart v o) (h:Q o s):wpAny (model prog w) A (Builtin.Slice.slicePartIndex v) Q E s:=by
 cases p with
 | none=>exact slicePart_none h
 | int i t=>exact slicePart_int h
theorem Y4a {sl:Addr}{vl vu:Value}{lo hi:Option Int}{n:Nat}{Q:Int×Int×Nat->Shared->Prop} (hs:s.heap.IsSliceOf sl vl vu .none) (pl:IsPart vl lo) (pu:IsPart vu hi)
  (h:Q (((sIx n 0 lo:Nat):Int),1,sIx n n hi-sIx n 0 lo) s):wpAny (model prog w) A (Builtin.Slice.sliceApplied (.ref sl) (pure (n:Int))) Q E s:=by
 obtain⟨os,fE,g7,ft⟩:=id hs
 unfold Builtin.Slice.sliceApplied Builtin.Slice.sliceFields
 refine aa (aa (bJ fE ft (x:=vl) rfl (aa (bJ fE ft (x:=vu) rfl (aa (bJ fE ft (x:=.none) rfl (ai ?_)))))))
 refine aa (slicePart_none ?_)
 show wpAny _ _ (if ((1:Int)==0)=true then _ else _) _ _ s
 rw [aH (by decide)]
 refine aa (Y4b pl (aa (Y4b pu (aa (ai ?_)))))
 show wpAny _ _ (match Builtin.Slice.sliceAdjust lo hi 1 (n:Int)with | (lo,hi)=>pure (lo,(1:Int),Builtin.Slice.slicePlaces lo hi 1)) _ _ s
 rw [Y6o lo hi n]
 show wpAny _ _ (pure (((sIx n 0 lo:Nat):Int),(1:Int),Builtin.Slice.slicePlaces ((sIx n 0 lo:Nat):Int) ((sIx n n hi:Nat):Int) 1)) _ _ s
 rw [W4e]
 exact ai h
theorem W4d (xs:Array Value) (i k:Nat):((List.range k).filterMap fun(m:Nat)=>xs[((i:Int)+(m:Int)*1).toNat]?).toArray=((xs.toList.drop i).take k).toArray:=by
 have e:(fun(m:Nat)=>xs[((i:Int)+(m:Int)*1).toNat]?)=fun m=>xs[i+m]?:=by
  funext m
  have:((i:Int)+(m:Int)*1).toNat=i+m:=by omega
  rw [this]
 rw [e]
 have:=pick_run xs i k
 rw [List.filterMap_map]at this
 have e2:((fun x=>xs[x]?) ∘ fun x=>i+x)=fun m=>xs[i+m]?:=rfl
 rw [e2]at this
 rw [this]
theorem getItem_tuple_cut {t sl:Addr}{items:Array Value}{vl vu:Value}{lo hi:Option Int}{Q:VS9} (ht:IsTup s.heap t items) (hs:s.heap.IsSliceOf sl vl vu .none) (pl:IsPart vl lo) (pu:IsPart vu hi)
  (hw:¬ (sIx items.size 0 lo=0/\sIx items.size items.size hi=items.size))
  (h:Q (.ref s.heap.objs.size) { s with heap:=s.heap.push { cls:=.type "tuple",data:=.seq ((items.toList.drop (sIx items.size 0 lo)).take (sIx items.size items.size hi-sIx items.size 0 lo)).toArray } })
  (hsz:items.size<=sizeLine):wpAny (model prog w) A (getItem (.ref t) (.ref sl)) Q E s:=by
 have dm:sizeOk (.seq ((items.toList.drop (sIx items.size 0 lo)).take (sIx items.size items.size hi-sIx items.size 0 lo)).toArray):=by
  show((items.toList.drop (sIx items.size 0 lo)).take (sIx items.size items.size hi-sIx items.size 0 lo)).toArray.size<=sizeLine
  rw [aA,List.length_take,List.length_drop,bN]
  omega
 have hj:sIx items.size items.size hi<=items.size:=W6d _ _ (aj _) hi
 obtain⟨os,fE,g7,ft⟩:=id hs
 have mf:s.TypeIs (.ref sl) "slice":=⟨os,fE,g7⟩
 unfold getItem
 try with_reducible refine bz ?_
 first | refine aa (ai ?_) | skip
 refine aa (wpAny_sequenceKey ht.typeIs (by decide) ?_)
 refine aa (bB (name:=Str.ofString "__getitem__") ht.typeIs bO
  (bE bO ht.typeIs entry_tuple_getitem ?_ (args_tuple_getitem _ _)))
 show wpAny _ _ (Builtin.Tuple.tupleItemsOf (.ref t)>>=_) _ _ s
 refine aa (tupleItemsOf_ ht ?_)
 refine aa (wpAny_typeOf mf ?_)
 rw [aJ (by decide)]
 refine aa (Y4a hs pl pu ?_)
 have iZ:¬ ((((sIx items.size 0 lo:Nat):Int)==0&&(1:Int)==1&&(sIx items.size items.size hi-sIx items.size 0 lo)==items.size)=true):=by
  intro q
  rw [cj,cj]at q
  have q1:((sIx items.size 0 lo:Nat):Int)=0:=eq_of_beq q.1.1
  have q2:sIx items.size items.size hi-sIx items.size 0 lo=items.size:=eq_of_beq q.2
  exact hw ⟨by omega,by omega⟩
 show wpAny _ _ (if (((sIx items.size 0 lo:Nat):Int)==0&&(1:Int)==1&&(sIx items.size items.size hi-sIx items.size 0 lo)==items.size)=true then _ else _) _ _ s
 rw [aH iZ,W4d]
 first
  | exact aa (m:=Builtin.Tuple.tupleExact _) (bb (ai ⟨_,rfl,ai h⟩) dm)
  | exact aa (m:=Builtin.Tuple.tupleExact _) (bb (aa (ai (ai ⟨_,rfl,ai h⟩))) dm)
  | exact aa (aa (m:=Builtin.Tuple.tupleExact _) (bb (ai (ai ⟨_,rfl,ai h⟩)) dm))
  | exact aa (aa (m:=Builtin.Tuple.tupleExact _) (bb (ai ⟨_,rfl,ai h⟩) dm))
end
end HT
namespace L2
open PySem PySem.Spec PyProof.Rows
noncomputable abbrev TO:=St->Hp->(Option Int->Hp->Prop)->Prop
def PO (X:Cx) (e:Option Expr) (t:TO):Prop :=
 ∀(ac:Pn9) (s:Shared) (σ:St) (H:Hp) (Q:Option Int->Hp->Prop),A0 X ac σ H s->t σ H Q ->
  wpAny (model X.prog X.w) X.A (evalPart e X.env) (fun u s'=>∃o H',A0 X ac σ H' s'/\IsPart u o/\Q o H') X.xe s
noncomputable def W8r:TO:=fun _ H Q=>Q none H
noncomputable def W8t (t:TE):TO:=fun σ H Q=>t σ H fun x H1=>∃i,x=.int i/\Q (some i) H1
section
variable {X:Cx}{e:Expr}{te:TE}{lo hi:Option Expr}{tl th:TO}{pos p2:Pos}
theorem W4f:PO X none W8r:=by
 intro ac s σ H Q I h
 rw [evalPart_none]
 exact ai ⟨none,H,I,.none,h⟩
theorem W4g (h:PE X e te):PO X (some e) (W8t te):=by
 intro ac s σ H Q I hw
 rw [evalPart_some]
 refine B3 (h ac s σ H _ I hw) fun u s1 br=>?_
 obtain⟨x,H1,I1,r1,q1⟩:=br
 obtain⟨i,rfl,q⟩:=q1
 obtain⟨t,rfl⟩:=r1
 exact⟨some i,H1,I1,.int i t,q⟩
def M5 (X:Cx) (r:V->Option Int->Option Int->Hp->VK->Prop):Prop :=
 ∀(ac:Pn9) (s:Shared) (σ:St) (H:Hp) (x:V) (v vl vu:Value) (lo hi:Option Int) (sl:Addr) (Q:VK),A0 X ac σ H s->B9 x v->s.heap.IsSliceOf sl vl vu .none->IsPart vl lo->IsPart vu hi->r x lo hi H Q ->
  ∃T id,typeLookup (.type T) "__getitem__"=pure (some (.builtin id))/\s.TypeIs v T/\wpAny (model X.prog X.w) X.A (getItem v (.ref sl)) (EP X ac σ Q) X.xe s
theorem M5.or {r r':V->Option Int->Option Int->Hp->VK->Prop} (h:M5 X r) (h':M5 X r'):M5 X (fun x lo hi H Q=>r x lo hi H Q\/r' x lo hi H Q):=by
 intro ac s σ H x v vl vu lo hi sl Q I rx hs pl pu q
 rcases q with q | q
 ·exact h ac s σ H x v vl vu lo hi sl Q I rx hs pl pu q
 ·exact h' ac s σ H x v vl vu lo hi sl Q I rx hs pl pu q
def tSl (r:V->Option Int->Option Int->Hp->VK->Prop) (te:TE) (tl th:TO):TE:=fun σ H Q=>te σ H fun x H1=>tl σ H1 fun l H2=>th σ H2 fun u H3=>r x l u H3 Q
theorem W3w {r:V->Option Int->Option Int->Hp->VK->Prop} (hr:M5 X r) (he:PE X e te) (hl:PO X lo tl) (hu:PO X hi th):PE X (.Subscript e (.Slice lo hi none p2) pos) (tSl r te tl th):=by
 intro ac s σ H Q I h
 refine Subscript_ (B3 (he ac s σ H _ I h) fun v s1 br=>?_)
 obtain⟨x,H1,I1,r1,q1⟩:=br
 refine wpAny_Slice (B3 (hl ac s1 σ H1 _ I1 q1) fun vl s2 ⟨l,H2,I2,pl,q2⟩=>B3 (hu ac s2 σ H2 _ I2 q2) fun vu s3 br=>?_)
 obtain⟨u,H3,I3,pu,q3⟩:=br
 rw [evalPart_none]
 refine ai ?_
 have I4:A0 X ac σ H3 { s3 with heap:=s3.heap.push { cls:=.type "slice",data:=.fields #[vl,vu,.none] } }:=I3.kept (t':=s3.toks) fun b ob q=>ae _ q
 obtain⟨T,id,hT,ht,hg⟩:=hr ac { s3 with heap:=s3.heap.push { cls:=.type "slice",data:=.fields #[vl,vu,.none] } } σ H3 x v vl vu l u s3.heap.objs.size Q I4 r1 (Heap.IsSliceOf.new ..) pl pu q3
 show wpAny (model X.prog X.w) X.A (subscriptTail e (.Slice lo hi none p2) v (.ref s3.heap.objs.size)) (EP X ac σ Q) X.xe { s3 with heap:=s3.heap.push { cls:=.type "slice",data:=.fields #[vl,vu,.none] } }
 exact tail_any (ops:=[.ref s3.heap.objs.size,v]) ht hT hg (by with_unfolding_all rfl)
noncomputable def Y4 (xs:List V) (lo hi:Option Int):List V:=(xs.drop (HT.sIx xs.length 0 lo)).take (HT.sIx xs.length xs.length hi-HT.sIx xs.length 0 lo)
theorem Z7t (xs:List V) (lo hi:Option Int):(Y4 xs lo hi).length<=xs.length:=by
 unfold Y4
 rw [List.length_take,List.length_drop]
 omega
noncomputable def rSlT (K:Fg9):V->Option Int->Option Int->Hp->VK->Prop:=fun x lo hi H Q=>∃a xs,x=.ref a/\C4 K H a xs /\
 ¬ (HT.sIx xs.length 0 lo=0/\HT.sIx xs.length xs.length hi=xs.length)/\∀p,H p=none->Q (.ref p) (upd H p (.tup (Y4 xs lo hi)))
theorem W7z:M5 X (rSlT X.K):=by
 intro ac s σ H x v vl vu lo hi sl Q I rx hs pl pu h
 obtain⟨a,xs,rfl,hx,hw,q⟩:=h
 cases rx
 obtain⟨aU,r,ht,hz⟩:=I.tuple hx
 have bI:aU.toArray.size=xs.length:=by rw [aA];exact r.length.symm
 refine⟨"tuple",_,bO.lookup,ht.typeIs,?_⟩
 refine HT.getItem_tuple_cut ht hs pl pu (by rw [bI];exact hw) ?_ (by rw [bI];exact hz)
 rw [bI]
 refine⟨.ref s.heap.objs.size,_,I.laid (t':=s.toks) (o:=.tup (Y4 xs lo hi)) (fun b ob q=>ae _ q) (aj _) ?_,rfl,q _ (I.hok.fresh (aj _))⟩
 exact⟨aX (Z7t xs lo hi) hz,_,(r.drop (HT.sIx xs.length 0 lo)).take (HT.sIx xs.length xs.length hi-HT.sIx xs.length 0 lo),IsTup.new _ _⟩
def W4x (K:Fg9):R2:=fun x y H Q=>∃a b xs ys,x=.ref a/\y=.ref b/\C4 K H a xs/\C4 K H b ys/\xs≠[]/\xs.length+ys.length<=sizeLine /\
 (ys=[]->Q (.ref a) H)/\(ys≠[]->∀p,H p=none->Q (.ref p) (upd H p (.tup (xs++ys))))
theorem B4.nil_iff {xs:List V}{us:List Value} (r:B4 xs us):us=[] ↔ xs=[]:=by
 cases r with
 | nil=>simp
 | cons _ _=>simp
theorem W2s:N7 X (binaryOp .Add) (W4x X.K):=by
 intro ac s σ H x y v u Q I rx ry h
 obtain⟨a,b,xs,ys,rfl,rfl,ha,hb,hx,hz,q1,q2⟩:=h
 cases rx
 cases ry
 obtain⟨aU,r1,p1,_⟩:=I.tuple ha
 obtain⟨bZ,r2,p2,_⟩:=I.tuple hb
 refine HT.cat_tup p1 p2 (fun z=>hx (r1.nil_iff.mp z)) (fun z=>⟨.ref a,H,I,rfl,q1 (r2.nil_iff.mp z)⟩) (fun z=>?_) (by rw [<- r1.length,<- r2.length];exact hz)
 refine⟨.ref s.heap.objs.size,_,I.laid (t':=s.toks) (o:=.tup (xs++ys)) (fun b ob q=>ae _ q) (aj _) ?_,rfl,q2 (fun w=>z (r2.nil_iff.mpr w)) _ (I.hok.fresh (aj _))⟩
 exact⟨by rw [aD];exact hz,_,r1.append r2,IsTup.new _ _⟩
end
end L2
namespace L2
open PySem PySem.Spec PyProof.Rows
noncomputable def O1 (n:Nat) (i:Int):Option Nat:=if 0<=i then(if i<n then some i.toNat else none)else if -(n:Int)<=i then some (i+n).toNat else none
noncomputable def J3 {α:Type} (xs:List α) (i:Int):Option α:=(O1 xs.length i).bind fun j=>xs[j]?
theorem Q5o {n:Nat}{i:Int}{j:Nat} (h:O1 n i=some j):seqIndex? i n=some j/\j<n/\-(n:Int)<=i/\i<n:=by
 unfold O1 at h
 by_cases h0:0<=i
 ·rw [aJ h0]at h
  by_cases h1:i<n
  ·rw [aJ h1]at h
   have e:i.toNat=j:=aC h
   exact⟨by rw [seqIndex_of h0 h1,e],by omega,by omega,h1⟩
  ·rw [aH h1]at h;cases h
 ·rw [aH h0]at h
  by_cases h1:-(n:Int)<=i
  ·rw [aJ h1]at h
   have e:(i+n).toNat=j:=aC h
   exact⟨by rw [seqIndex_neg (by omega) h1,e],by omega,h1,by omega⟩
  ·rw [aH h1]at h;cases h
theorem Q7e {α:Type}{xs:List α}{i:Int}{v:α} (h:J3 xs i=some v):∃j,seqIndex? i xs.length=some j/\xs[j]?=some v/\j<xs.length/\-(xs.length:Int)<=i/\i<xs.length:=by
 unfold J3 at h
 cases e:O1 xs.length i with
 | none=>rw [e]at h;cases h
 | some j =>
  rw [e]at h
  obtain⟨h1,h2,h3,h4⟩:=Q5o e
  exact⟨j,h1,h,h2,h3,h4⟩
theorem X1 {α:Type}{xs:List α}{j:Nat}{v:α} (h:xs[j]?=some v):J3 xs (j:Int)=some v:=by
 have hj:j<xs.length:=(aL.mp h).1
 have e:O1 xs.length (j:Int)=some j:=by
  unfold O1
  rw [aJ (by omega),aJ (by omega)];simp
 unfold J3;rw [e];exact h
def Q3b (b:Expr):Prop:=∀o i,subscripted b false o i=operate [o,i] (getItem o i)
def IxR (X:Cx) (r:R2):Prop :=
 ∀(value slice:Expr) (ac:Pn9) (s:Shared) (σ:St) (H:Hp) (x y:V) (v u:Value) (Q:VK),A0 X ac σ H s->B9 x v->B9 y u->r x y H Q ->
  subscripted slice false v u=operate [v,u] (getItem v u)->wpAny (model X.prog X.w) X.A (subscriptTail value slice v u) (EP X ac σ Q) X.xe s
def MtR (X:Cx) (id:String) (r:V->List V->Hp->VK->Prop):Prop :=
 ∀(ac:Pn9) (s:Shared) (σ:St) (H:Hp) (x:V) (xs:List V) (v:Value) (us:List Value) (Q:VK),A0 X ac σ H s->B9 x v->B4 xs us->r x xs H Q ->
  wpAny (model X.prog X.w) X.A (call (.builtin id) (v::us)) (EP X ac σ Q) X.xe s
section
variable {X:Cx}{a b:Expr}{ta tb:TE}{pos:Pos}
theorem IxR.or {r r':R2} (h:IxR X r) (h':IxR X r'):IxR X (fun x y H Q=>r x y H Q\/r' x y H Q):=by
 intro value slice ac s σ H x y v u Q I rx ry q hs
 rcases q with q | q
 ·exact h value slice ac s σ H x y v u Q I rx ry q hs
 ·exact h' value slice ac s σ H x y v u Q I rx ry q hs
theorem Q6j {r:R2} (hr:IxR X r) (ha:PE X a ta) (hb:PE X b tb) (hs:Q3b b):PE X (.Subscript a b pos) (tOp r ta tb):=by
 intro ac s σ H Q I h
 exact Subscript_ (Z1a ha hb I h fun v u s2 x y H2 I2 rx ry q=>hr a b ac s2 σ H2 x y v u Q I2 rx ry q (hs _ _))
def rIxL (K:Fg9):R2:=fun x y H Q=>∃p xs i v,x=.ref p/\y=.int i/\D6 K H p xs/\J3 xs i=some v/\Q v H
def rIxT (K:Fg9):R2:=fun x y H Q=>∃p xs i v,x=.ref p/\y=.int i/\C4 K H p xs/\J3 xs i=some v/\Q v H
def rIxS:R2:=fun x y H Q=>∃z i c,x=.str z/\y=.int i/\z.length<=sizeLine/\J3 z.cps.toList i=some c/\Q (.str ⟨#[c]⟩) H
theorem Y9k:IxR X (rIxL X.K):=by
 intro value slice ac s σ H x y v u Q I rx ry h hs
 obtain⟨p,xs,i,z,rfl,rfl,hq,he,q⟩:=h
 cases rx
 obtain⟨t,rfl⟩:=ry
 obtain⟨aU,r,pl,hz⟩:=I.list hq
 obtain⟨j,h1,h2,h3,h4,h5⟩:=Q7e he
 obtain⟨w,ew,fj⟩:=r.get h2
 have hl:=r.length
 have hn:=Q0y
 have fin:EP X ac σ Q w s:=⟨z,H,I,fj,q⟩
 by_cases h0:0<=i
 ·have hj:i.toNat=j:=by
   rw [seqIndex_of h0 h5]at h1
   exact aC h1
  exact item_listR pl.isList h0 (by omega) (by rw [hj];simpa using ew) fin hs
 ·have hj:(i+(aU.toArray.size:Int)).toNat=j:=by
   rw [seqIndex_neg (by omega) h4]at h1
   rw [aA,<- hl]
   exact aC h1
  exact subscriptTail_builtinR (x:=w) pl.isList.typeIs slot_list_getitem.lookup
   (wpAny_getItem_list_neg (Q:=fun r s'=>r=w/\EP X ac σ Q r s') pl.isList (by omega) (by rw [aA] <;> omega) (by omega) (by rw [hj];simpa using ew) ⟨rfl,fin⟩) hs
theorem Y9o:IxR X (rIxT X.K):=by
 intro value slice ac s σ H x y v u Q I rx ry h hs
 obtain⟨p,xs,i,z,rfl,rfl,hq,he,q⟩:=h
 cases rx
 obtain⟨t,rfl⟩:=ry
 obtain⟨aU,r,pl,hz⟩:=I.tuple hq
 obtain⟨j,h1,h2,h3,h4,h5⟩:=Q7e he
 obtain⟨w,ew,fj⟩:=r.get h2
 have hl:=r.length
 have hn:=Q0y
 have fin:EP X ac σ Q w s:=⟨z,H,I,fj,q⟩
 exact subscriptTail_builtinR (x:=w) pl.typeIs slot_tuple_getitem.lookup
  (getItem_tuple (j:=j) (Q:=fun r s'=>r=w/\EP X ac σ Q r s') pl (by omega) (by omega) (by rw [aA,<- hl];exact h1) (by simpa using ew) ⟨rfl,fin⟩) hs
theorem Y9n:IxR X rIxS:=by
 intro value slice ac s σ H x y v u Q I rx ry h hs
 obtain⟨z,i,c,rfl,rfl,hz,he,q⟩:=h
 obtain⟨t,rfl⟩:=rx
 obtain⟨t',rfl⟩:=ry
 obtain⟨j,h1,h2,h3,h4,h5⟩:=Q7e he
 have hl:z.cps.toList.length=z.length:=by simp [Str.length]
 rw [hl]at h1 h4 h5
 have hn:=Q0y
 exact tail_any (typeIs_str s z t) slot_str_getitem.lookup (getItem_str (c:=c) (by
  have e1:decide (i < -(2 ^ 63:Int))=false:=aK (by omega)
  have e2:decide (i ≥ 2 ^ 63)=false:=aK (by omega)
  rw [e1,e2,Bool.or_false]) (by rw [h1];simpa using h2) ⟨.str ⟨#[c]⟩,H,I.tok _,⟨_,rfl⟩,q⟩) hs
def rIx (K:Fg9):R2:=fun x y H Q=>rIxL K x y H Q\/rIxT K x y H Q\/rIxS x y H Q
theorem Y9l:IxR X (rIx X.K):=Y9k.or (Y9o.or Y9n)
theorem Z9r (aU:List Value) (n j:Nat) (u:Value):Obj.mapSeq (·.setIfInBounds j u) { cls:=.type "list",data:=.seq aU.toArray n }={ cls:=.type "list",data:=.seq (aU.set j u).toArray n }:=by
 simp [Obj.mapSeq]
theorem A0.lst {ac:Pn9} {σ:St}{H:Hp}{s:Shared}{p:Addr}{xs:List V} (I:A0 X ac σ H s) (h:H p=some (.lst xs)) :
  ∃(aU:List Value) (n:Nat),B4 xs aU/\s.heap.get? p=some { cls:=.type "list",data:=.seq aU.toArray n }/\xs.length<=sizeLine:=by
 obtain⟨z,aU,n,r,e⟩:=I.hok p _ h
 exact⟨aU,n,r,e,z⟩
theorem A0.lstUpd {ac:Pn9} {σ:St}{H:Hp}{s:Shared}{p:Addr}{xs ys:List V}{aU its':List Value}{n n':Nat}{f:Obj->Obj} (I:A0 X ac σ H s) (h:H p=some (.lst xs))
  (ho:s.heap.get? p=some { cls:=.type "list",data:=.seq aU.toArray n }) (hf:f { cls:=.type "list",data:=.seq aU.toArray n }={ cls:=.type "list",data:=.seq its'.toArray n' }) (r:B4 ys its') (hz:ys.length<=sizeLine) (t:Nat) :
  A0 X ac σ (upd H p (.lst ys)) { s with heap:=s.heap.update p f,toks:=t }:=by
 have e:(s.heap.update p f).get? p=some { cls:=.type "list",data:=.seq its'.toArray n' }:=by
  rw [ck f ho (by rw [hf] <;> rfl),hf]
 refine I.write (x:=p) (e:=p) (by rw [h];trivial) (.inl rfl) (fun b u hb q=>(cF _ _ (bt hb)).trans q) ⟨_,e⟩ ?_
 exact⟨hz,its',n',r,e⟩
noncomputable def W4z:V->V->V->Hp->(Hp->Prop)->Prop:=fun o i v H Q=>∃p xs k j,o=.ref p/\i=.int k/\H p=some (.lst xs)/\O1 xs.length k=some j/\Q (upd H p (.lst (xs.set j v)))
theorem W7t:Z0t X W4z:=by
 intro ac s σ H o i v ov iv u Q I ro ri rv h
 obtain⟨p,xs,k,j,rfl,rfl,hp,hj,q⟩:=h
 cases ro
 obtain⟨t,rfl⟩:=ri
 obtain⟨aU,n,r,ho,hz⟩:=I.lst hp
 obtain⟨h1,h2,h3,h4⟩:=Q5o hj
 have hl:=r.length
 have hn:=Q0y
 have I':A0 X ac σ (upd H p (.lst (xs.set j v))) { s with heap:=s.heap.update p (Obj.mapSeq (·.setIfInBounds j u)) } :=
  I.lstUpd hp ho (Z9r aU n j u) (r.set rv j) (by rw [aZ];exact hz) s.toks
 by_cases h0:0<=k
 ·have hk:k.toNat=j:=by
   rw [seqIndex_of h0 h4]at h1
   exact aC h1
  exact PySem.W.ki_setAt ho h0 (by omega) (by rw [aA,<- hl];exact h4) (by rw [hk];exact⟨_,I',q⟩)
 ·have hk:(k+(aU.toArray.size:Int)).toNat=j:=by
   rw [seqIndex_neg (by omega) h3]at h1
   rw [aA,<- hl]
   exact aC h1
  exact PySem.W.ki_setBack ho (by omega) (by rw [aA,<- hl];exact h3) (by omega) (by rw [hk];exact⟨_,I',q⟩)
theorem W8c (lo hi:Option Int) (n:Nat):(sliceBounds lo hi none n).1=((HT.sIx n 0 lo:Nat):Int)/\(sliceBounds lo hi none n).2.1=((HT.sIx n n hi:Nat):Int)/\(sliceBounds lo hi none n).2.2=1:=by
 refine⟨?_,?_,rfl⟩
 ·cases lo with
  | none=>simp [sliceBounds,HT.sIx]
  | some i =>
   simp only [sliceBounds,HT.sIx,Option.getD_none,show(1:Int) > 0 by decide,if_true]
   by_cases h:i<0
   ·simp only [h,if_true] <;> omega
   ·simp only [h,dw] <;> omega
 ·cases hi with
  | none=>simp [sliceBounds,HT.sIx]
  | some i =>
   simp only [sliceBounds,HT.sIx,Option.getD_none,show(1:Int) > 0 by decide,if_true]
   by_cases h:i<0
   ·simp only [h,if_true] <;> omega
   ·simp only [h,dw] <;> omega
theorem W8b (aU:List Value) (lo hi:Option Int):slicePick aU.toArray lo hi none=((aU.drop (HT.sIx aU.length 0 lo)).take (HT.sIx aU.length aU.length hi-HT.sIx aU.length 0 lo)).toArray:=by
 obtain⟨h1,h2,h3⟩:=W8c lo hi aU.toArray.size
 unfold slicePick
 rw [h1,h2,h3]
 simp only [sliceRange_one,pick_run,aA] <;> rfl
noncomputable def rSlL (K:Fg9):V->Option Int->Option Int->Hp->VK->Prop:=fun x lo hi H Q=>∃a xs,x=.ref a/\D6 K H a xs/\∀p,H p=none->Q (.ref p) (upd H p (.lst (Y4 xs lo hi)))
theorem W7x:M5 X (rSlL X.K):=by
 intro ac s σ H x v vl vu lo hi sl Q I rx hs pl pu h
 obtain⟨a,xs,rfl,hx,q⟩:=h
 cases rx
 obtain⟨aU,r,ht,hz⟩:=I.list hx
 have bI:=r.length
 refine⟨"list",_,slot_list_getitem.lookup,ht.isList.typeIs,?_⟩
 refine wpAny_getItem_list_slice ht.isList hs pl pu .none (by simp) ?_ (by rw [aA] <;> omega)
 rw [W8b,<- bI]
 refine⟨.ref s.heap.objs.size,_,I.laid (t':=s.toks) (o:=.lst (Y4 xs lo hi)) (fun b ob q=>ae _ q) (aj _) ?_,rfl,q _ (I.hok.fresh (aj _))⟩
 exact⟨aX (Z7t xs lo hi) hz,_,0,(r.drop (HT.sIx xs.length 0 lo)).take (HT.sIx xs.length xs.length hi-HT.sIx xs.length 0 lo),aF _ rfl⟩
theorem Y7j:Q1e X (.type "list") (fun xs H Q=>∃p ys,xs=[.ref p]/\(D6 X.K H p ys\/C4 X.K H p ys)/\∀l,H l=none->Q (.ref l) (upd H l (.lst ys))):=by
 intro ac s σ H xs us Q I r h
 obtain⟨p,ys,rfl,hq,q⟩:=h
 obtain⟨u,rfl,rx⟩:=T9 r
 cases rx
 have fin:∀(aU:List Value),B4 ys aU->ys.length<=sizeLine->∀(h':Heap) (c':Nat),(∀b o',s.heap.get? b=some o'->h'.get? b=some o') ->
   h'.get? s.heap.objs.size=some { cls:=.type "list",dict:=none,data:=.seq aU.toArray c',slots:=#[] }->EP X ac σ Q (.ref s.heap.objs.size) { s with heap:=h' }:=fun aU r' hz h' c' kp e =>
  ⟨.ref s.heap.objs.size,_,I.laid (t':=s.toks) kp (aj _) (show F5 X.prog X.w _ h' _ (.lst ys)from⟨hz,aU,c',r',e⟩),rfl,q _ (I.hok.fresh (aj _))⟩
 rcases hq with hq | hq
 ·obtain⟨aU,r',pl,hz⟩:=I.list hq
  have bI:=r'.length
  obtain⟨o,ho,hc,n,hd⟩:=pl.isList
  exact call_list_seq p (.inl rfl) ho hc hd (fun h' c' kp e=>fin aU r' hz h' c' kp e) (by simp only [aA] <;> omega)
 ·obtain⟨aU,r',pl,hz⟩:=I.tuple hq
  have bI:=r'.length
  obtain⟨o,ho,hc,n,hd⟩:=pl
  exact call_list_seq p (.inr rfl) ho hc hd (fun h' c' kp e=>fin aU r' hz h' c' kp e) (by simp only [aA] <;> omega)
theorem Y7o:Q1e X (.type "tuple") (fun xs H Q=>∃p ys,xs=[.ref p]/\((D6 X.K H p ys/\∀l,H l=none->Q (.ref l) (upd H l (.tup ys)))\/(C4 X.K H p ys/\Q (.ref p) H))):=by
 intro ac s σ H xs us Q I r h
 obtain⟨p,ys,rfl,h⟩:=h
 obtain⟨u,rfl,rx⟩:=T9 r
 cases rx
 rcases h with⟨hq,q⟩ | ⟨hq,q⟩
 ·obtain⟨aU,r',pl,hz⟩:=I.list hq
  have bI:=r'.length
  refine call_tuple_list pl.isList (fun h' kp=>?_) (by simp only [aA] <;> omega)
  have I1:A0 X ac σ H { s with heap:=h' }:=I.kept (t':=s.toks) kp
  have I2:A0 X ac σ (upd H h'.objs.size (.tup ys)) { s with heap:=h'.push { cls:=.type "tuple",data:=.seq aU.toArray } } :=
   I1.laid (t':=s.toks) (fun b o e=>ae _ e) (aj _) (show F5 X.prog X.w _ _ _ (.tup ys)from⟨hz,aU,r',IsTup.new _ _⟩)
  exact⟨.ref h'.objs.size,_,I2,rfl,q _ (I1.hok.fresh (aj _))⟩
 ·obtain⟨aU,r',pl,hz⟩:=I.tuple hq
  exact call_tuple_same pl ⟨.ref p,H,I,rfl,q⟩
def tyV (K:Fg9) (T:String) (x:V) (H:Hp):Prop:=match x with
 | .str _=>T="str"
 | .int _=>T="int"
 | .ref p=>(T="list"/\∃xs,D6 K H p xs)\/(T="tuple"/\∃o,K.lookup p=some o/\o.cls=.type "tuple"/\o.dict=none) \/
   (T="dict"/\((∃kvs,H p=some (.dK kvs))\/∃kvs,H p=some (.dT kvs)))\/(T="set"/\∃S n,H p=some (.set S n))
 | _=>False
theorem W9j {ac:Pn9} {σ:St}{H:Hp}{s:Shared}{T:String}{x:V}{v:Value} (I:A0 X ac σ H s) (r:B9 x v) (ty:tyV X.K T x H) :
  s.TypeIs v T/\∀a,v=.ref a->∃ob,s.heap.get? a=some ob/\ob.dict=none:=by
 cases x with
 | str z =>
  obtain⟨t,rfl⟩:=r
  cases (show T="str" from ty)
  exact⟨typeIs_str s z t,fun _ e=>nomatch e⟩
 | int i =>
  obtain⟨t,rfl⟩:=r
  cases (show T="int" from ty)
  exact⟨typeIs_int s i t,fun _ e=>nomatch e⟩
 | ref p =>
  cases r
  rcases ty with⟨rfl,xs,hq⟩ | ⟨rfl,o,hk,hc,hd⟩ | ⟨rfl,hk⟩ | ⟨rfl,S,n,hk⟩
  ·obtain⟨aU,_,pl,_⟩:=I.list hq
   refine⟨pl.isList.typeIs,fun a e=>?_⟩
   cases e
   obtain⟨o,n,e,c,hd,_⟩:=pl
   exact⟨o,e,hd⟩
  ·refine⟨⟨o,I.kIn p o hk,hc⟩,fun a e=>?_⟩
   cases e
   exact⟨o,I.kIn _ o hk,hd⟩
  ·have z:∃o,s.heap.get? p=some o/\o.ExactDict:=by
    rcases hk with⟨kvs,hk⟩ | ⟨kvs,hk⟩
    ·obtain⟨_,_,_,_,o,_,_,e,ex,_⟩:=I.hok p _ hk
     exact⟨o,e,ex⟩
    ·obtain⟨_,_,_,_,o,_,_,e,ex,_⟩:=I.hok p _ hk
     exact⟨o,e,ex⟩
   obtain⟨o,e,ex⟩:=z
   refine⟨⟨o,e,ex.1⟩,fun a e2=>?_⟩
   cases e2
   exact⟨o,e,ex.2.1⟩
  ·obtain⟨o,_,_,_,e,ex,_⟩:=I.hok p _ hk
   refine⟨⟨o,e,ex.1⟩,fun a e2=>?_⟩
   cases e2
   exact⟨o,e,ex.2.1⟩
 | _=>exact False.elim ty
def tBM (K:Fg9) (T:String) (r:V->List V->Hp->VK->Prop) (to:TE) (t:TA):TE:=fun σ H Q=>to σ H fun x H1=>tyV K T x H1/\t σ H1 fun xs H2=>r x xs H2 Q
variable {o e:Expr}{es:List Expr}{to:TE}{t:TA}{name:Str}{apos bi:Pos}{T id:String}{r:V->List V->Hp->VK->Prop}
theorem Z3d (pa:PlainAttrs T) (slot:Slot T name id) (gn:typeOf (.builtin id)=pure (.type "method_descriptor")) (hm:MtR X id r) (ho:PE X o to) (ha:PA X (e::es) t)
  (dD:attributeBase o name X.env (eval o X.env)=eval o X.env:=by rfl)
  (eT:((backTo bi (starEach (e::es) X.env)).all (fun x=>!x.1)&&(backToKw bi (keywordEach [] X.env)).all (fun x=>x.1.isSome)
  &&decide ((e::es).length+([]:List Keyword).length+(if ([]:List Keyword).isEmpty then 0 else 1)<30))=true:=by rfl)
  (dn:(apos.endLine==bi.line)=true:=by rfl) (hs:starEach (e::es) X.env=(false,eval e X.env)::starEach es X.env:=by rfl) (cV:(backTo bi (starEach es X.env)).any (·.1)=false:=by rfl) :
  PE X (.Call (.Attribute o name apos) (e::es) [] bi) (tBM X.K T r to t):=by
 intro ac s σ H Q I h
 refine wpAny_Call_method_late dD eT dn rfl (B3 (ho ac s σ H _ I h) fun v s1 br=>?_)
 obtain⟨x,H1,I1,r1,ty,q1⟩:=br
 obtain⟨h1,h2⟩:=W9j I1 r1 ty
 refine⟨T,id,pa,slot,gn,h1,h2,?_⟩
 have hA:=ha bi ac s1 σ H1 _ I1 q1
 rw [hs]at hA ⊢
 refine eg (by show(false||(backTo bi (starEach es X.env)).any (·.1))=false;rw [cV] <;> rfl) (de ?_)
 exact B3 hA fun us s2 ⟨vs,H2,I2,r2,q2⟩=>hm ac s2 σ H2 x vs v us Q I2 r1 r2 q2
end
end L2
namespace L2
open PySem PySem.Spec PyProof.Rows
def MtM (X:Cx) (id:String) (r:V->List V->Hp->VK->Prop):Prop :=
 ∀(ac:Pn9) (s:Shared) (σ:St) (H:Hp) (x:V) (xs:List V) (v:Value) (us:List Value) (Q:VK),A0 X ac σ H s->B9 x v->B4 xs us->r x xs H Q ->
  wpAny (model X.prog X.w) X.A (call (.builtin id) (v::us)) (EP X ac σ Q) X.xe s
theorem B4.one:∀{x:V}{us:List Value},B4 [x] us->∃u,us=[u]/\B9 x u
 | _,_,.cons r .nil=>⟨_,rfl,r⟩
theorem B4.two:∀{x y:V}{us:List Value},B4 [x,y] us->∃u v,us=[u,v]/\B9 x u/\B9 y v
 | _,_,_,.cons r (.cons q .nil)=>⟨_,_,rfl,r,q⟩
theorem B4.rep {xs:List V}{us:List Value} (h:B4 xs us):∀k:Nat,B4 (List.replicate k xs).flatten (List.replicate k us).flatten
 | 0=>.nil
 | k+1=>by
  rw [bq,bq,bS,bS]
  exact B4.append h (B4.rep h k)
theorem Z8f (aU:List Value):∀(k:Nat) (acc:List Value),
  List.foldl (fun x1 x2=>x1++x2) acc.toArray (List.replicate k aU.toArray)=(acc++(List.replicate k aU).flatten).toArray
 | 0,acc=>by simp
 | k+1,acc=>by
  have e:acc.toArray++aU.toArray=(acc++aU).toArray:=by simp
  have e2:(acc++aU)++(List.replicate k aU).flatten=acc++(List.replicate (k+1) aU).flatten:=by
   rw [bq,bS,bK]
  rw [<- e2,<- Z8f aU k (acc++aU),<- e,bq,hV]
section
variable {X:Cx}{ac:Pn9} {σ:St}{H:Hp}{s:Shared}{l b:Addr}{xs ys zs:List V}
theorem A0.lset {aU its':List Value}{n:Nat}{f:Array Value->Array Value}{t':Nat} (I:A0 X ac σ H s) (hH:H l=some (.lst xs))
  (e:s.heap.get? l=some { cls:=.type "list",data:=.seq aU.toArray n }) (hf:f aU.toArray=its'.toArray) (hv:B4 ys its') (hz:ys.length<=sizeLine) :
  A0 X ac σ (upd H l (.lst ys)) { s with heap:=s.heap.update l (Obj.mapSeq f),toks:=t' }:=by
 have q:=PySem.IsL.update e f
 rw [hf]at q
 refine I.write (x:=l) (e:=l) (by rw [hH];exact trivial) (.inl rfl) (fun b' u hb hu=>(cF s.heap (Obj.mapSeq f) (bt hb)).trans hu) ⟨_,q⟩ ?_
 exact⟨hz,its',_,hv,q⟩
theorem A0.lnew {aU:List Value}{t':Nat} (I:A0 X ac σ H s) (hv:B4 ys aU) (hz:ys.length<=sizeLine) :
  A0 X ac σ (upd H s.heap.objs.size (.lst ys)) { s with heap:=s.heap.push { cls:=.type "list",data:=.seq aU.toArray },toks:=t' } :=
 I.laid (fun _ _ q=>ae _ q) (aj _) ⟨hz,aU,0,hv,aF _ rfl⟩
theorem A0.fresh (I:A0 X ac σ H s):H s.heap.objs.size=none:=I.hok.fresh (aj _)
theorem A0.lstM (I:A0 X ac σ H s) (hH:H l=some (.lst xs)):xs.length<=sizeLine/\∃(aU:List Value) (n:Nat),B4 xs aU/\xs.length=aU.length/\s.heap.get? l=some { cls:=.type "list",data:=.seq aU.toArray n }:=by
 obtain⟨z,aU,n,r,e⟩:=I.hok l _ hH
 exact⟨z,aU,n,r,r.length,e⟩
theorem W1w {n:Nat} (h:n<=sizeLine):Builtin.List.listTooLong n=false:=by
 unfold Builtin.List.listTooLong
 exact aK (by omega)
end
section
variable {X:Cx}
noncomputable def W4w:V->List V->Hp->VK->Prop:=fun x vs H Q=>∃l xs y,x=.ref l/\vs=[y]/\H l=some (.lst xs)/\xs.length<sizeLine/\Q .non (upd H l (.lst (xs++[y])))
theorem W1o:MtM X "list.append" W4w:=by
 intro ac s σ H x vs v us Q I rx rv h
 obtain⟨l,xs,y,rfl,rfl,hH,hz,q⟩:=h
 cases rx
 obtain⟨u,rfl,ru⟩:=rv.one
 obtain⟨z,aU,n,r,hl,e⟩:=I.lstM hH
 refine call_meets F.slot_list_append ⟨_,e,rfl⟩ F.entry_list_append (F.args_list_append_2 _ _) (PySem.list_append l aU.toArray n u (by rw [aA];omega)) ⟨e,?_⟩
 refine⟨.non,_,I.lset (its':=aU++[u]) hH e (by simp) (r.append (.cons ru .nil)) ?_,rfl,q⟩
 rw [aD,bX]
 omega
def rCat:R2:=fun x y H Q=>∃l b xs zs,x=.ref l/\y=.ref b/\H l=some (.lst xs)/\H b=some (.lst zs)/\xs.length+zs.length<=sizeLine/\∀p,H p=none->Q (.ref p) (upd H p (.lst (xs++zs)))
theorem W2r:N7 X (binaryOp .Add) rCat:=by
 intro ac s σ H x y v u Q I rx ry h
 obtain⟨l,b,xs,zs,rfl,rfl,hH,hB,hz,q⟩:=h
 cases rx
 cases ry
 obtain⟨z,aU,n,r,hl,e⟩:=I.lstM hH
 obtain⟨z2,bZ,n2,r2,eG,e2⟩:=I.lstM hB
 refine PySem.P.add_list e e2 ?_ (by rw [aA,aA];omega)
 have ea:aU.toArray++bZ.toArray=(aU++bZ).toArray:=by simp
 rw [ea]
 exact⟨.ref _,_,I.lnew (t':=s.toks) (r.append r2) (by rw [aD];omega),rfl,q _ I.fresh⟩
def rRep:R2:=fun x y H Q=>∃l k xs,x=.ref l/\y=.int k/\H l=some (.lst xs)/\-(2 ^ 63)<=k/\k<2 ^ 63/\xs.length*k.toNat<=sizeLine /\
 ∀p,H p=none->Q (.ref p) (upd H p (.lst (List.replicate k.toNat xs).flatten))
theorem Z2g {α:Type} (xs:List α) (k:Nat):(List.replicate k xs).flatten.length=k*xs.length:=by
 induction k with
 | zero=>simp
 | succ k ih=>rw [bq,bS,aD,ih,Nat.succ_mul,Nat.add_comm]
theorem W2y:N7 X (binaryOp .Mult) rRep:=by
 intro ac s σ H x y v u Q I rx ry h
 obtain⟨l,k,xs,rfl,rfl,hH,h1,h2,hz,q⟩:=h
 cases rx
 obtain⟨t,rfl⟩:=ry
 obtain⟨z,aU,n,r,hl,e⟩:=I.lstM hH
 have bI:aU.toArray.size*k.toNat<=sizeLine:=by rw [aA,<- hl];exact hz
 have m9:¬ aU.toArray.size*k.toNat > (2 ^ 63-1) / 8:=by
  have:(sizeLine:Nat)<=(2 ^ 63-1) / 8:=by decide
  omega
 have lX:¬ (!Builtin.List.listFitsIndex k)=true:=by
  rw [fitsIndex_both h1 h2]
  exact bF
 have jN:¬ Builtin.List.listTooLong (aU.toArray.size*k.toNat)=true:=by
  rw [W1w bI]
  exact bF
 have gO:List.foldl (fun x1 x2=>x1++x2) #[] (List.replicate (if aU.toArray.isEmpty=true then 0 else k.toNat) aU.toArray)=(List.replicate k.toNat aU).flatten.toArray:=by
  have f0:∀m:Nat,List.foldl (fun x1 x2=>x1++x2) #[] (List.replicate m aU.toArray)=(List.replicate m aU).flatten.toArray:=fun m=>by
   have:=Z8f aU m []
   rw [c6]at this
   exact this
  rw [f0]
  cases aU with
  | nil=>simp
  | cons a r'=>rw [aH (by simp)]
 refine wpAny_binaryOp_repeat_ref (T:="list") (U:="int") (by decide) ⟨_,e,rfl⟩ (fun s'=>typeIs_int s' k t) noFill_list_mul F.fills_int_mul gC repeat_list F.slot_int_index.lookup
  (call_meets gC (typeIs_int s k t) F.entry_int_rmul (F.args_int_rmul_2 _ _) (int___rmul___int_list k t l aU.toArray n)
   ⟨e,rfl,⟨_,e,rfl⟩,call_meets F.slot_list_mul ⟨_,e,rfl⟩ F.entry_list_mul (F.args_list_mul_2 _ _) (AutoListH.list___mul___list_int_3 l aU.toArray n k t lX m9 jN) ⟨e,?_⟩⟩)
 rw [gO]
 exact⟨.ref _,_,I.lnew (t':=s.toks) (r.rep k.toNat) (by rw [Z2g,Nat.mul_comm];exact hz),rfl,q _ I.fresh⟩
end
section
variable {prog:Program}{w:World}{A:Around}{E:VS9}{s:Shared}
end
section
variable {X:Cx}
end
end L2
namespace L2
open PySem PySem.Spec PyProof.Rows
section
variable {κ:Type} [DecidableEq κ]
noncomputable def R0 (kvs:List (κ×V)) (k:κ):Option V:=(kvs.find? fun kv=>decide (kv.1=k)).map (·.2)
noncomputable def N1 (kvs:List (κ×V)) (k:κ) (v:V):List (κ×V) :=
 if (kvs.any fun kv=>decide (kv.1=k))=true then kvs.map (fun kv=>if kv.1=k then(kv.1,v)else kv)else kvs++[(k,v)]
theorem Q9k {p:κ×V}{r:List (κ×V)}{k:κ} (e:p.1=k):R0 (p::r) k=some p.2:=by simp [R0,b8,e]
theorem Q9j {p:κ×V}{r:List (κ×V)}{k:κ} (e:¬ p.1=k):R0 (p::r) k=R0 r k:=by simp [R0,b8,e]
theorem Y5h (k:κ):∀kvs:List (κ×V),(kvs.any fun kv=>decide (kv.1=k))=(R0 kvs k).isSome
 | []=>rfl
 | p::r=>by
  rw [cI]
  by_cases e:p.1=k
  ·simp only [Q9k e,bV e,Bool.true_or,Option.isSome_some]
  ·rw [Q9j e,aK e,Bool.false_or];exact Y5h k r
theorem Q5x (kvs:List (κ×V)) (k:κ) (v:V):(N1 kvs k v).length<=kvs.length+1:=by
 unfold N1
 split
 ·rw [ah];omega
 ·rw [aD,ax,c7];omega
theorem W7.isSome_eq {o:Option V}{u:Option Value} (r:W7 o u):o.isSome=u.isSome:=by
 cases o with
 | none=>cases u with
  | none=>rfl
  | some _=>exact(show False from r).elim
 | some _=>cases u with
  | none=>exact(show False from r).elim
  | some _=>rfl
theorem W7.getD {o:Option V}{u:Option Value}{d:V}{d':Value} (r:W7 o u) (rd:B9 d d'):B9 (o.getD d) (u.getD d'):=by
 cases o with
 | none=>cases u with
  | none=>exact rd
  | some _=>exact(show False from r).elim
 | some _=>cases u with
  | none=>exact(show False from r).elim
  | some _=>exact r
theorem KV.val {kvs:List (κ×V)}{vs:List (κ×Value)} (r:KV kvs vs) (k:κ):W7 (R0 kvs k) (valueAt vs k):=by
 unfold KV at r
 induction r with
 | nil=>exact True.intro
 | @cons p q ps qs h t ih =>
  obtain⟨h1,h2⟩:=h
  by_cases e:p.1=k
  ·have e':q.1=k:=h1.symm.trans e
   have b:valueAt (q::qs) k=some q.2:=by simp [valueAt,b8,e']
   rw [Q9k e,b];exact h2
  ·have e':¬ q.1=k:=fun z=>e (h1.trans z)
   have b:valueAt (q::qs) k=valueAt qs k:=by simp [valueAt,b8,e']
   rw [Q9j e,b];exact ih
theorem KV.any {kvs:List (κ×V)}{vs:List (κ×Value)} (r:KV kvs vs) (k:κ):(kvs.any fun kv=>decide (kv.1=k))=vs.any fun kv=>decide (kv.1=k):=by
 unfold KV at r
 induction r with
 | nil=>rfl
 | cons h t ih=>rw [cI,cI,ih,h.1]
theorem KV.repl {kvs:List (κ×V)}{vs:List (κ×Value)} (r:KV kvs vs) (k:κ) {y:V}{u:Value} (ry:B9 y u) :
  KV (kvs.map fun kv=>if kv.1=k then(kv.1,y)else kv) (vs.map fun kv=>if kv.1=k then(kv.1,u)else kv):=by
 unfold KV at r ⊢
 induction r with
 | nil=>exact .nil
 | @cons p q ps qs h t ih =>
  rw [aw,aw]
  refine .cons ?_ ih
  obtain⟨h1,h2⟩:=h
  by_cases e:p.1=k
  ·rw [aJ e,aJ (h1.symm.trans e)];exact⟨h1,ry⟩
  ·rw [aH e,aH (fun z=>e (h1.trans z))];exact⟨h1,h2⟩
theorem KV.put {kvs:List (κ×V)}{vs:List (κ×Value)} (r:KV kvs vs) (k:κ) {y:V}{u:Value} (ry:B9 y u):KV (N1 kvs k y) (stored vs k u):=by
 unfold N1 stored
 rw [r.any k]
 by_cases e:(vs.any fun kv=>decide (kv.1=k))=true
 ·rw [aJ e,aJ e];exact r.repl k ry
 ·rw [aH e,aH e];exact Paired.snoc r ⟨rfl,ry⟩
theorem KV.length {kvs:List (κ×V)}{vs:List (κ×Value)} (r:KV kvs vs):kvs.length=vs.length:=Paired.length r
end
theorem Q1l {P:Program}{w:World}{k:A7}{u:Value} (r:B9 (kV k) u):(J5 P w).is k u=true:=by
 cases k with
 | inl i=>obtain⟨t,e⟩:=(show ∃t,u=Value.int i t from r);subst e;exact W1h P w i t
 | inr x=>obtain⟨t,e⟩:=(show ∃t,u=Value.str x t from r);subst e;exact W1i P w x t
theorem Z8x {P:Program}{w:World}:∀{ks:List A7}{us:List Value},B4 (ks.map kV) us->ItemsAre (J5 P w) ks us
 | [],_,r=>by rw [List.map_nil]at r;cases r;exact .nil
 | k::ks,_,r=>by
  rw [aw]at r
  cases r with
  | cons h t=>exact .cons (Q1l h) (Z8x t)
noncomputable abbrev KT (H:Hp):List (List A7×V)->List (List A7×Addr×Value)->Prop:=Paired fun p q=>p.1=q.1/\H q.2.1=some (.tup (p.1.map kV))/\B9 p.2 q.2.2
theorem KT.val {H:Hp}{kvs:List (List A7×V)}{xs:List (List A7×Addr×Value)} (r:KT H kvs xs) (k:List A7):W7 (R0 kvs k) ((atKey xs k).map (·.2)):=by
 induction r with
 | nil=>exact True.intro
 | @cons p q ps qs h t ih =>
  obtain⟨h1,_,h2⟩:=h
  by_cases e:p.1=k
  ·have e':q.1=k:=h1.symm.trans e
   have b:atKey (q::qs) k=some q.2:=by simp [atKey,b8,e']
   rw [Q9k e,b];exact h2
  ·have e':¬ q.1=k:=fun z=>e (h1.trans z)
   have b:atKey (q::qs) k=atKey qs k:=by simp [atKey,b8,e']
   rw [Q9j e,b];exact ih
theorem KT.repl {H:Hp}{kvs:List (List A7×V)}{xs:List (List A7×Addr×Value)} (r:KT H kvs xs) (k:List A7) {y:V}{u:Value} (ry:B9 y u) :
  KT H (kvs.map fun kv=>if kv.1=k then(kv.1,y)else kv) (xs.map (putAt k u)):=by
 induction r with
 | nil=>exact .nil
 | @cons p q ps qs h t ih =>
  rw [aw,aw]
  refine .cons ?_ ih
  obtain⟨h1,h2,h3⟩:=h
  unfold putAt
  by_cases e:p.1=k
  ·rw [aJ e,aJ (h1.symm.trans e)];exact⟨h1,h2,ry⟩
  ·rw [aH e,aH (fun z=>e (h1.trans z))];exact⟨h1,h2,h3⟩
theorem KT.put {H:Hp}{kvs:List (List A7×V)}{xs:List (List A7×Addr×Value)} (r:KT H kvs xs) (k:List A7) {b:Addr}{y:V}{u:Value} (hb:H b=some (.tup (k.map kV))) (ry:B9 y u) :
  KT H (N1 kvs k y) (storedH xs k b u):=by
 have e:(kvs.any fun kv=>decide (kv.1=k))=(atKey xs k).isSome:=by
  rw [Y5h,(r.val k).isSome_eq,Option.isSome_map]
 unfold N1 storedH
 rw [e]
 by_cases q:(atKey xs k).isSome=true
 ·rw [aJ q,aJ q];exact r.repl k ry
 ·rw [aH q,aH q];exact Paired.snoc r ⟨rfl,hb,ry⟩
theorem KT.keeps {H H':Hp}{kvs:List (List A7×V)}{xs:List (List A7×Addr×Value)} (r:KT H kvs xs) (ht:∀b ys,H b=some (.tup ys)->H' b=some (.tup ys)):KT H' kvs xs :=
 Paired.mapP r fun _ _ z=>⟨z.1,ht _ _ z.2.1,z.2.2⟩
section
variable {P:Program}{w:World}{H:Hp}{h:Heap}{a:Addr}
theorem Y1u {u:HO} (ok:F1 P w H h) (e:Rd H a u):F5 P w H h a u:=e.ok ok
theorem Q3e {kvs:List (A7×V)} (ok:F1 P w H h) (e:Rd H a (.dK kvs)):kvs.length<=sizeLine/\(a==sysModules)=false/\∃vs,KV kvs vs/\h.DictOf (J5 P w) a vs :=
 show F5 P w H h a (.dK kvs)from Y1u ok e
theorem Q7m {kvs:List (A7×V)} (ok:F1 P w H h) (e:H a=some (.dK kvs)):kvs.length<=sizeLine/\(a==sysModules)=false/\∃vs,KV kvs vs/\h.DictOf (J5 P w) a vs:=Q3e ok (.inl e)
theorem Q5s {ks:List A7} (ok:F1 P w H h) (e:H a=some (.tup (ks.map kV))):(tupleKind (J5 P w)).is h ks a:=by
 obtain⟨_,aU,r,o,h1,h2,n,h3⟩:=(show F5 P w H h a (.tup (ks.map kV))from ok a _ e)
 exact⟨o,aU.toArray,n,h1,h2,h3,by simpa using Z8x r⟩
theorem Q3g {kvs:List (List A7×V)} (ok:F1 P w H h) (e:Rd H a (.dT kvs)):kvs.length<=sizeLine/\(a==sysModules)=false /\
  ∃xs,KT H kvs xs/\h.DictOfH (tupleKind (J5 P w)) a xs:=by
 obtain⟨z,y,xs,r,o,es,ep,h1,h2,h3,h4,h5⟩:=(show F5 P w H h a (.dT kvs)from Y1u ok e)
 refine⟨z,y,xs,r,o,es,ep,h1,h2,h3,h4,fun x hx=>?_,h5⟩
 have all:∀{l:List (List A7×V)}{m:List (List A7×Addr×Value)},KT H l m->∀x∈m,(tupleKind (J5 P w)).is h x.1 x.2.1:=by
  intro l m q
  induction q with
  | nil=>intro x hx;exact nomatch hx
  | @cons p q ps qs hq t ih =>
   intro x hx
   rcases aq.mp hx with e | hx
   ·subst e
    exact Q5s ok (by rw [<- hq.1];exact hq.2.1)
   ·exact ih x hx
 exact all r x hx
theorem Y8j {kvs:List (List A7×V)} (ok:F1 P w H h) (e:H a=some (.dT kvs)):kvs.length<=sizeLine/\(a==sysModules)=false /\
  ∃xs,KT H kvs xs/\h.DictOfH (tupleKind (J5 P w)) a xs:=Q3g ok (.inl e)
end
def U9 (H:Hp) (a:Addr) (y:V) (r:Option V):Prop :=
 (∃kvs k,Rd H a (.dK kvs)/\y=kV k/\r=R0 kvs k)\/∃kvs k b,Rd H a (.dT kvs)/\y=.ref b/\H b=some (.tup (k.map kV))/\r=R0 kvs k
def Q1f (H:Hp) (a:Addr) (y v:V) (H':Hp):Prop :=
 (∃kvs k,H a=some (.dK kvs)/\y=kV k/\kvs.length<sizeLine/\H'=upd H a (.dK (N1 kvs k v))) \/
 ∃kvs k b,H a=some (.dT kvs)/\y=.ref b/\H b=some (.tup (k.map kV))/\kvs.length<sizeLine/\H'=upd H a (.dT (N1 kvs k v))
theorem U9.k {H:Hp}{a:Addr}{kvs:List (A7×V)}{k:A7} (e:H a=some (.dK kvs)):U9 H a (kV k) (R0 kvs k):=.inl ⟨kvs,k,.inl e,rfl,rfl⟩
theorem U9.t {H:Hp}{a b:Addr}{kvs:List (List A7×V)}{k:List A7} (e:H a=some (.dT kvs)) (eb:H b=some (.tup (k.map kV))):U9 H a (.ref b) (R0 kvs k):=.inr ⟨kvs,k,b,.inl e,rfl,eb,rfl⟩
theorem Q1f.k {H:Hp}{a:Addr}{kvs:List (A7×V)}{k:A7}{v:V} (e:H a=some (.dK kvs)) (hl:kvs.length<sizeLine):Q1f H a (kV k) v (upd H a (.dK (N1 kvs k v))):=.inl ⟨kvs,k,e,rfl,hl,rfl⟩
theorem Q1f.t {H:Hp}{a b:Addr}{kvs:List (List A7×V)}{k:List A7}{v:V} (e:H a=some (.dT kvs)) (eb:H b=some (.tup (k.map kV))) (hl:kvs.length<sizeLine) :
  Q1f H a (.ref b) v (upd H a (.dT (N1 kvs k v))):=.inr ⟨kvs,k,b,e,rfl,eb,hl,rfl⟩
section
variable {X:Cx}{ac:Pn9} {σ:St}{H:Hp}{s:Shared}{a:Addr}{y v:V}{u r:Value}{o:Option V}{A:Around}{E:VS9}
theorem A0.big (I:A0 X ac σ H s):sysModules<s.heap.objs.size:=by
 have h:mainGlobals<s.heap.objs.size:=(I.mod.glob.keeps I.bk).lt
 exact Nat.lt_trans (by decide) h
theorem Y7y {Q:VS9} (hu:A.units+1<cLine) (I:A0 X ac σ H s) (g:U9 H a y (some v)) (ry:B9 y u) (h:∀w' s',A0 X ac σ H s'->B9 v w'->Q w' s') :
  wpAny (model X.prog X.w) A (getItem (.ref a) u) Q E s:=by
 rcases g with⟨kvs,k,e,ey,l⟩ | ⟨kvs,k,b,e,ey,eb,l⟩
 ·subst ey
  obtain⟨z,hd,vs,rel,dd⟩:=Q3e I.hok e
  obtain⟨w',hw,fj⟩:=W7.some_of (v:=v) (o:=valueAt vs k) (by rw [l];exact rel.val k)
  exact wpAny_getItem_of (Q1l ry) dd.mapOf hw (h w' _ (I.tok _) fj)
 ·subst ey
  cases (show u=Value.ref b from ry)
  obtain⟨z,hd,xs,rel,dd⟩:=Q3g I.hok e
  obtain⟨w',hw,fj⟩:=W7.some_of (v:=v) (o:=(atKey xs k).map (·.2)) (by rw [l];exact rel.val k)
  obtain⟨p,hp,jk⟩:=Option.map_eq_some_iff.mp hw
  refine wpAny_getItem_heap (tupleKind_room_in1 hu) (Q5s I.hok eb) dd hp ?_
  rw [jk]
  exact h w' _ (I.tok _) fj
theorem Y7z {Q:VS9} (hu:A.units+1<cLine) (I:A0 X ac σ H s) (g:U9 H a y o) (ry:B9 y u) (h:∀s',A0 X ac σ H s'->Q (.bool (!o.isSome)) s') :
  wpAny (model X.prog X.w) A (compareOp .NotIn u (.ref a)) Q E s:=by
 rcases g with⟨kvs,k,e,ey,l⟩ | ⟨kvs,k,b,e,ey,eb,l⟩
 ·subst ey
  obtain⟨z,hd,vs,rel,dd⟩:=Q3e I.hok e
  refine wpAny_notIn_of (Q1l ry) hd dd.mapOf ?_
  rw [<- (rel.val k).isSome_eq,<- l]
  exact h _ (I.tok _)
 ·subst ey
  cases (show u=Value.ref b from ry)
  obtain⟨z,hd,xs,rel,dd⟩:=Q3g I.hok e
  refine wpAny_notIn_heap (tupleKind_room_in1 hu) (Q5s I.hok eb) hd dd ?_
  have q:=(rel.val k).isSome_eq
  rw [Option.isSome_map]at q
  rw [<- q,<- l]
  exact h _ (I.tok _)
theorem Q2c {h':Heap}{t':Nat}{ob:HO} (I:A0 X ac σ H s) (mu:Mut (H a)) (hs:Heap.SameBut a s.heap h') (he:∃q,h'.get? a=some q) (new:F5 X.prog X.w (upd H a ob) h' a ob) :
  A0 X ac σ (upd H a ob) { s with heap:=h',toks:=t' } :=
 I.write (x:=a) (e:=a) mu (.inl rfl) (fun b q hb z=>(hs.2 b hb).trans z) he new
theorem Z1l {P:Program}{w:World}{H':Hp}{h':Heap}{kvs:List (A7×V)}{vs:List (A7×Value)} (z:kvs.length<=sizeLine) (hd:(a==sysModules)=false) (rel:KV kvs vs) (dd:h'.DictOf (J5 P w) a vs) :
  F5 P w H' h' a (.dK kvs):=⟨z,hd,vs,rel,dd⟩
theorem Y8a {H':Hp}{Q:Unit->Shared->Prop} (hu:A.units+1<cLine) (I:A0 X ac σ H s) (g:Q1f H a y v H') (ry:B9 y u) (rv:B9 v r) (h:∀s',A0 X ac σ H' s'->Q () s') :
  wpAny (model X.prog X.w) A (setItem (.ref a) u r) Q E s:=by
 rcases g with⟨kvs,k,e,ey,l,eH⟩ | ⟨kvs,k,b,e,ey,eb,l,eH⟩
 ·subst ey eH
  obtain⟨z,hd,vs,rel,dd⟩:=Q7m I.hok e
  have hz:vs.length<=sizeLine:=by rw [<- rel.length];exact z
  have hl:(N1 kvs k v).length<=sizeLine:=by have:=Q5x kvs k v;omega
  refine wpAny_setItem_pairs (hsz:=hz) (Q1l ry) dd fun h' gB hs=>h _ ?_
  have he:∃q,h'.get? a=some q:=let ⟨q,_,_,hq,_⟩:=gB;⟨q,hq⟩
  exact Q2c I (by rw [e];exact True.intro) hs he (Z1l hl hd (rel.put k rv) gB)
 ·subst ey eH
  cases (show u=Value.ref b from ry)
  obtain⟨z,hd,xs,rel,dd⟩:=Y8j I.hok e
  have hz:xs.length<=sizeLine:=by rw [<- Paired.length rel];exact z
  have hl:(N1 kvs k v).length<=sizeLine:=by have:=Q5x kvs k v;omega
  refine wpAny_setItem_heap (hsz:=hz) (tupleKind_room_in1 hu) (Q5s I.hok eb) dd fun h' gB hs=>h _ ?_
  obtain⟨q,es,ep,hq,h2,h3,h4,_,h5⟩:=gB
  refine Q2c I (by rw [e];exact True.intro) hs ⟨q,hq⟩ ⟨hl,hd,_,(rel.put k eb rv).keeps fun c ys ec=>?_,q,es,ep,hq,h2,h3,h4,h5⟩
  rw [A9 (X5 ec e (fun z=>nomatch z))]
  exact ec
end
section
variable {X:Cx}{ac:Pn9} {σ:St}{H:Hp}{s:Shared}{a:Addr}{kvs:List (A7×V)}{k:A7}{u:Value}{A:Around}{E:VS9}
end
def Q2a (i:Expr):Prop:=∀ov iv,subscripted i false ov iv=operate [ov,iv] (getItem ov iv)
theorem W8h {prog:Program}{w:World}{A:Around}{E:VS9}{s:Shared}{env:Env}{value slice:Expr}{pos:Pos}{T id:String}{Q:VS9}
  (hl:typeLookup (.type T) "__getitem__"=pure (some (.builtin id))) (hs:Q2a slice)
  (h:wpAny (model prog w) A (eval value env) (fun o s₁=>wpAny (model prog w) A (eval slice env) (fun i s₂=>s₂.TypeIs o T/\wpAny (model prog w) A (getItem o i) Q E s₂) E s₁) E s) :
  wpAny (model prog w) A (eval (.Subscript value slice pos) env) Q E s:=by
 refine Subscript_ (aR h (fun o s₁ h₁=>aR h₁ (fun i s₂ h₂=>?_) fun _ _ x=>x) fun _ _ x=>x)
 obtain⟨hT,h₂⟩:=h₂
 unfold subscriptTail
 refine aa ?_
 rw [getitemInPython_of_ne hT.not_modules]
 refine aa (wpAny_specialOf hT hl ?_)
 have fin:wpAny (model prog w) A (subscripted slice false o i) (fun r s₃=>wpAny (model prog w) A (letTemporaryGo value o r>>=fun _=>pure r) Q E s₃) E s₂:=by
  rw [hs o i]
  exact wpAny_operating (aR h₂ (fun r s₃ h₃=>aa (wpAny_letTemporaryGo (ai h₃))) fun _ _ x=>x)
 first
  | exact ai (aa fin)
  | exact aa (ai (aa fin))
  | exact aa fin
theorem Y8e {X:Cx}{ac:Pn9} {σ:St}{H:Hp}{s:Shared}{a:Addr}{y:V}{o:Option V} (I:A0 X ac σ H s) (g:U9 H a y o):s.TypeIs (.ref a) "dict":=by
 rcases g with⟨kvs,k,e,_,_⟩ | ⟨kvs,k,b,e,_,_,_⟩
 ·obtain⟨_,_,vs,_,dd⟩:=Q3e I.hok e
  exact dd.typeIs
 ·obtain⟨_,_,xs,_,dd⟩:=Q3g I.hok e
  exact dd.typeIs
def W8i (td ty:TE):TE:=fun σ H Q=>td σ H fun x H1=>ty σ H1 fun y H2=>∃a v,x=.ref a/\U9 H2 a y (some v)/\Q v H2
def W8m (ty td:TE):TE:=fun σ H Q=>ty σ H fun y H1=>td σ H1 fun x H2=>∃a o,x=.ref a/\U9 H2 a y o/\Q (.bl (!o.isSome)) H2
def W6c (td ty tv:TE):TS:=fun D σ H=>tv σ H fun v H1=>td σ H1 fun x H2=>ty σ H2 fun y H3=>∃a H4,x=.ref a/\Q1f H3 a y v H4/\D.nx σ H4
section
variable {X:Cx}{o i e value:Expr}{pos bj kO:Pos}{td ty tv:TE}
theorem Q6i (hu:X.A.units+1<cLine) (ho:PE X o td) (hi:PE X i ty) (hs:Q2a i):PE X (.Subscript o i pos) (W8i td ty):=by
 intro ac s σ H Q I h
 refine W8h PySem.F.slot_dict_getitem.lookup hs (B3 (ho ac s σ H _ I h) fun u s1 ⟨x,H1,I1,rx,q1⟩=>B3 (hi ac s1 σ H1 _ I1 q1) fun iv s2 br=>?_)
 obtain⟨y,H2,I2,ry,a,v,ex,g,q2⟩:=br
 subst ex
 obtain rfl:u=Value.ref a:=rx
 exact⟨Y8e I2 g,Y7y hu I2 g ry fun w' s3 I3 fj=>⟨v,H2,I3,fj,q2⟩⟩
theorem W3c (hu:X.A.units+1<cLine) (hi:PE X i ty) (ho:PE X o td):PC X .NotIn i o (W8m ty td):=by
 intro ac s σ H Q I h
 refine B3 (hi ac s σ H _ I h) fun iv s1 ⟨y,H1,I1,ry,q1⟩=>B3 (ho ac s1 σ H1 _ I1 q1) fun u s2 br=>?_
 obtain⟨x,H2,I2,rx,a,ov,ex,g,q2⟩:=br
 subst ex
 obtain rfl:u=Value.ref a:=rx
 exact Y7z hu I2 g ry fun s3 I3=>⟨.bl (!ov.isSome),H2,I3,rfl,q2⟩
theorem Y1k (hu:X.A.units+1<cLine) (ho:PE X o td) (hi:PE X i ty) (hv:PE X value tv) (hs:swapsWith value (some (.Subscript o i bj)) pos.line X.env=pure false) :
  PS X (.Assign [.Subscript o i bj] value pos) (W6c td ty tv):=by
 intro ac s σ H D I h
 refine wpAny_Assign_Subscript (B3 (hv ac s σ H _ I h) fun r s1 ⟨v,H1,I1,rv,q1⟩=>B3 (ho ac s1 σ H1 _ I1 q1) fun u s2 ⟨x,H2,I2,rx,q2⟩=>B3 (hi ac s2 σ H2 _ I2 q2) fun iv s3 br=>?_) hs
 obtain⟨y,H3,I3,ry,a,H4,ex,g,q3⟩:=br
 subst ex
 obtain rfl:u=Value.ref a:=rx
 exact Y8a hu I3 g ry rv fun s4 I4=>⟨σ,H4,I4,q3⟩
end
theorem Z7w {P:Program}{w:World}{H:Hp} (h:Heap) (hb:sysModules<h.objs.size):F5 P w H (h.push { cls:=.type "dict",data:=.dict #[] }) h.objs.size (.dK []) :=
 ⟨ba _,bL.mpr (bt (aB hb)),[],.nil,Heap.DictOf.new h⟩
theorem Y8i {P:Program}{w:World}{H:Hp} (h:Heap) (hb:sysModules<h.objs.size):F5 P w H (h.push { cls:=.type "dict",data:=.dict #[] }) h.objs.size (.dT []) :=
 ⟨ba _,bL.mpr (bt (aB hb)),[],.nil,_,#[],0,aF _ rfl,⟨rfl,rfl,rfl⟩,rfl,rfl,jq⟩
def W8k:TE:=fun _ H Q=>∀p,H p=none->Q (.ref p) (upd H p (.dK []))
def W8l:TE:=fun _ H Q=>∀p,H p=none->Q (.ref p) (upd H p (.dT []))
section
variable {X:Cx}{pos:Pos}
theorem W3l:PE X (.Dict [] [] pos) W8k:=fun ac s σ H Q I h =>
 wpAny_Dict_empty ⟨.ref s.heap.objs.size,_,I.laid (a:=s.heap.objs.size) (o:=.dK []) (t':=s.toks) (fun _ _ q=>ae _ q) (aj _) (Z7w s.heap I.big),rfl,h _ (I.hok.fresh (aj _))⟩
theorem W3m:PE X (.Dict [] [] pos) W8l:=fun ac s σ H Q I h =>
 wpAny_Dict_empty ⟨.ref s.heap.objs.size,_,I.laid (a:=s.heap.objs.size) (o:=.dT []) (t':=s.toks) (fun _ _ q=>ae _ q) (aj _) (Y8i s.heap I.big),rfl,h _ (I.hok.fresh (aj _))⟩
end
noncomputable def Z4a:List (TE×TE)->St->Hp->(List (V×V)->Hp->Prop)->Prop
 | [],_,H,Q=>Q [] H
 | (tk,tv)::r,σ,H,Q=>tk σ H fun x H1=>tv σ H1 fun y H2=>Z4a r σ H2 fun ps H3=>Q ((x,y)::ps) H3
noncomputable abbrev VV:List (V×V)->List (Value×Value)->Prop:=Paired fun p q=>B9 p.1 q.1/\B9 p.2 q.2
def PPs (X:Cx) (pos:Pos) (keys:List (Option Expr)) (values:List Expr) (gF:List (TE×TE)):Prop :=
 ∀(ac:Pn9) (s:Shared) (σ:St) (H:Hp) (Q:List (V×V)->Hp->Prop),A0 X ac σ H s->Z4a gF σ H Q ->
  wpAny (model X.prog X.w) X.A (evalPairs (pairTrees keys values X.env pos)) (fun vs s'=>∃ps H',A0 X ac σ H' s'/\VV ps vs/\Q ps H') X.xe s
theorem W4j {X:Cx}{pos:Pos}:PPs X pos [] [] []:=fun ac s σ H Q I h=>pairTrees_nil_walk ⟨[],H,I,.nil,h⟩
theorem W4i {X:Cx}{pos:Pos}{k v:Expr}{ks:List (Option Expr)}{vs:List Expr}{tk tv:TE}{gF:List (TE×TE)} (hk:PE X k tk) (hv:PE X v tv) (hr:PPs X pos ks vs gF) :
  PPs X pos (some k::ks) (v::vs) ((tk,tv)::gF):=fun ac s σ H Q I h =>
 pairTrees_cons_walk (B3 (hk ac s σ H _ I h) fun u s1 ⟨x,H1,I1,rx,q1⟩=>B3 (hv ac s1 σ H1 _ I1 q1) fun w2 s2 ⟨y,H2,I2,ry,q2⟩ =>
  B3 (hr ac s2 σ H2 _ I2 q2) fun ws s3 ⟨ps,H3,I3,rel,q3⟩=>⟨(x,y)::ps,H3,I3,.cons ⟨rx,ry⟩ rel,q3⟩)
noncomputable def Q3q (kvs more:List (A7×V)):List (A7×V):=more.foldl (fun acc kv=>N1 acc kv.1 kv.2) kvs
theorem KV.merge:∀{more:List (A7×V)}{rs:List (A7×Value)}{kvs:List (A7×V)}{vs:List (A7×Value)},KV more rs->KV kvs vs->KV (Q3q kvs more) (merged vs rs):=by
 intro more rs kvs vs r
 unfold KV at r
 induction r generalizing kvs vs with
 | nil=>intro q;exact q
 | @cons p q ps qs h t ih =>
  intro r0
  have e:KV (N1 kvs p.1 p.2) (stored vs q.1 q.2):=by
   have:=r0.put p.1 h.2
   rw [<- h.1];exact this
  exact ih e
theorem Z9h:∀(more kvs:List (A7×V)),(Q3q kvs more).length<=kvs.length+more.length
 | [],kvs=>by show kvs.length<=kvs.length+0;omega
 | p::r,kvs=>by
  have h1:=Z9h r (N1 kvs p.1 p.2)
  have h2:=Q5x kvs p.1 p.2
  show(Q3q (N1 kvs p.1 p.2) r).length<=_
  rw [ax];omega
theorem Z7e {P:Program}{w:World}:∀{kvs:List (A7×V)}{ws:List (Value×Value)},VV (kvs.map fun kv=>(kV kv.1,kv.2)) ws->∃rs,Carries (J5 P w) ws rs/\KV kvs rs
 | [],_,r=>by rw [List.map_nil]at r;cases r;exact⟨[],True.intro,.nil⟩
 | p::kvs,_,r=>by
  rw [aw]at r
  cases r with
  | @cons a b as bs h t =>
   obtain⟨rs,c,q⟩:=Z7e (P:=P) (w:=w) t
   obtain⟨b1,b2⟩:=b
   exact⟨(p.1,b2)::rs,⟨Q1l h.1,rfl,c⟩,.cons ⟨rfl,h.2⟩ q⟩
def W8n (gF:List (TE×TE)):TE:=fun σ H Q=>∀p,H p=none->Z4a gF σ (upd H p (.dK [])) fun ps H2=>H2 p=some (.dK [])/\∃kvs:List (A7×V),ps=kvs.map (fun kv=>(kV kv.1,kv.2))/\kvs.length<=15/\Q (.ref p) (upd H2 p (.dK (Q3q [] kvs)))
theorem W3j {X:Cx}{pos:Pos}{keys:List (Option Expr)}{values:List Expr}{gF:List (TE×TE)} (h:PPs X pos keys values gF) (ja:keys.all (·.isSome)=true) (hl:keys.length=values.length) (h0:keys≠[])
  (r6:keys.length<=15):PE X (.Dict keys values pos) (W8n gF):=by
 intro ac s σ H Q I q
 have hn:=I.hok.fresh (aj s.heap.objs.size)
 have I1:=I.laid (a:=s.heap.objs.size) (o:=.dK []) (h':=s.heap.push { cls:=.type "dict",data:=.dict #[] }) (t':=s.toks) (fun _ _ q=>ae _ q) (aj _) (Z7w s.heap I.big)
 refine wpAny_Dict_walk (knd:=J5 X.prog X.w) ja hl h0 r6 (B3 (h ac _ σ _ _ I1 (q _ hn)) fun ws s2 br=>?_)
 obtain⟨ps,H2,I2,rel,e,kvs,ep,lk,q2⟩:=br
 subst ep
 obtain⟨rs,c,rk⟩:=Z7e (P:=X.prog) (w:=X.w) rel
 obtain⟨z,hd,rN,r0,dd⟩:=Q7m I2.hok e
 cases r0
 refine⟨rs,c,dd,fun h' gB hs=>⟨.ref s.heap.objs.size,_,?_,rfl,q2⟩⟩
 have hz:(Q3q [] kvs).length<=sizeLine:=by
  have h1:=Z9h kvs []
  rw [c7]at h1
  rw [sizeLine_eq];omega
 have he:∃q,h'.get? s.heap.objs.size=some q:=let ⟨q,_,_,hq,_⟩:=gB;⟨q,hq⟩
 exact Q2c I2 (by rw [e];exact True.intro) hs he (Z1l hz hd (rk.merge .nil) gB)
structure M1 (X:Cx) (o:Expr) (m:Str) (apos:Pos) (e:Expr) (bi:Pos):Prop where
 base:attributeBase o m X.env (eval o X.env)=eval o X.env
 few:((backTo bi (starEach [e] X.env)).all (fun x=>!x.1)&&(backToKw bi (keywordEach [] X.env)).all (fun x=>x.1.isSome)
 &&decide (([e]:List Expr).length+([]:List Keyword).length+(if ([]:List Keyword).isEmpty then 0 else 1)<30))=true
 line:(apos.endLine==bi.line)=true
 trees:backTo bi (starEach [e] X.env)=[(false,eval e X.env)]
structure M2 (X:Cx) (o:Expr) (m:Str) (apos:Pos) (e f:Expr) (bi:Pos):Prop where
 base:attributeBase o m X.env (eval o X.env)=eval o X.env
 few:((backTo bi (starEach [e,f] X.env)).all (fun x=>!x.1)&&(backToKw bi (keywordEach [] X.env)).all (fun x=>x.1.isSome)
 &&decide (([e,f]:List Expr).length+([]:List Keyword).length+(if ([]:List Keyword).isEmpty then 0 else 1)<30))=true
 line:(apos.endLine==bi.line)=true
 trees:backTo bi (starEach [e,f] X.env)=[(false,eval e X.env),(false,eval f X.env)]
def IsD (H:Hp) (a:Addr):Prop:=(∃kvs,Rd H a (.dK kvs))\/∃kvs,Rd H a (.dT kvs)
theorem Z8s {X:Cx}{ac:Pn9} {σ:St}{H:Hp}{s:Shared}{a:Addr} (I:A0 X ac σ H s) (d:IsD H a) :
  s.TypeIs (.ref a) "dict"/\(∀b,Value.ref a=.ref b->∃ob,s.heap.get? b=some ob/\ob.dict=none)/\(a==sysModules)=false:=by
 rcases d with⟨kvs,e⟩ | ⟨kvs,e⟩
 ·obtain⟨_,hd,vs,_,dd⟩:=Q3e I.hok e
  refine⟨dd.typeIs,fun b q=>?_,hd⟩
  cases q
  obtain⟨ob,_,_,h1,h2,_⟩:=dd
  exact⟨ob,h1,h2.2.1⟩
 ·obtain⟨_,hd,xs,_,dd⟩:=Q3g I.hok e
  refine⟨dd.typeIs,fun b q=>?_,hd⟩
  cases q
  obtain⟨ob,_,_,h1,h2,_⟩:=dd
  exact⟨ob,h1,h2.2.1⟩
section
variable {X:Cx}{ac:Pn9} {σ:St}{H:Hp}{s:Shared}{a:Addr}{y d:V}{u r:Value}{o:Option V}{A:Around}{E:VS9}
theorem Y7x {Q:VS9} (hu:A.units+1<cLine) (I:A0 X ac σ H s) (g:U9 H a y o) (ry:B9 y u) (h:∀w' s',A0 X ac σ H s'->B9 (o.getD .non) w'->Q w' s') :
  wpAny (model X.prog X.w) A (call (.builtin "dict.get") [.ref a,u]) Q E s:=by
 rcases g with⟨kvs,k,e,ey,l⟩ | ⟨kvs,k,b,e,ey,eb,l⟩
 ·subst ey
  obtain⟨z,hd,vs,rel,dd⟩:=Q3e I.hok e
  refine call_meetsIn PySem.F.slot_dict_get dd.typeIs PySem.F.entry_dict_get (PySem.F.args_dict_get_2 _ _) (meets_dict_get (J5 X.prog X.w) a (Q1l ry) hd) ⟨_,dd.mapOf,h _ _ (I.tok _) ?_⟩
  rw [l]
  exact(rel.val k).getD rfl
 ·subst ey
  cases (show u=Value.ref b from ry)
  obtain⟨z,hd,xs,rel,dd⟩:=Q3g I.hok e
  refine call_meetsIn PySem.F.slot_dict_get dd.typeIs PySem.F.entry_dict_get (PySem.F.args_dict_get_2 _ _) (meetsH_dict_get (tupleKind (J5 X.prog X.w)) a b hd) ⟨tupleKind_room_in1 hu,k,xs,Q5s I.hok eb,dd,h _ _ (I.tok _) ?_⟩
  rw [l]
  exact(rel.val k).getD rfl
end
def W8j (td ty:TE):TE:=fun σ H Q=>td σ H fun x H1=>∃a,x=.ref a/\IsD H1 a/\ty σ H1 fun y H2=>∃o,U9 H2 a y o/\Q (o.getD .non) H2
section
variable {X:Cx}{o e f:Expr}{apos bi:Pos}{td ty tx:TE}
theorem W3i (hu:X.A.units+1<cLine) (ho:PE X o td) (he:PE X e ty) (m:M1 X o "get" apos e bi):PE X (.Call (.Attribute o "get" apos) [e] [] bi) (W8j td ty):=by
 intro ac s σ H Q I h
 refine wpAny_Call_method m.base m.few m.line PySem.F.plainAttrs_dict PySem.F.slot_dict_get PySem.F.type_dict_get (B3 (ho ac s σ H _ I h) fun u s1 br=>?_)
 obtain⟨x,H1,I1,rx,a,ex,d,q1⟩:=br
 subst ex
 obtain rfl:u=Value.ref a:=rx
 obtain⟨t1,t2,_⟩:=Z8s I1 d
 refine⟨t1,t2,?_⟩
 rw [m.trees]
 refine eg rfl (de (bT (B3 (he ac s1 σ H1 _ I1 q1) fun iv s2 ⟨y,H2,I2,ry,ov,g,q2⟩=>cR ?_)))
 exact Y7x hu I2 g ry fun w' s3 I3 fj=>⟨_,H2,I3,fj,q2⟩
end
section
variable {X:Cx}{ac:Pn9} {σ:St}{H:Hp}{s:Shared}{a:Addr}{kvs:List (A7×V)}{A:Around}{E:VS9}
end
section
variable {X:Cx}{ac:Pn9} {σ:St}{H:Hp}{s:Shared}{a:Addr}{y:V}{u:Value}{A:Around}{E:VS9}
end
end L2
namespace Att
open PySem PySem.W PySem.Calls PyProof.Rows
theorem Y9b {P:Params}{h:Heap}:∀(ns:List Int) (vs:List Value),WellAll P h vs (ns.map WData.int)->IntsAre vs ns:=by
 intro ns
 induction ns with
 | nil =>
  intro vs w
  rw [List.map_nil]at w
  cases w
  exact .nil
 | cons n ns ih =>
  intro vs w
  rw [aw]at w
  cases w with
  | cons a b =>
   cases a
   exact .cons _ _ (ih _ b)
theorem W7p {l:OpenLaw}{n:Nat} (hn:l.most=some n) {P:Params}{h:Heap}{args:List WData}{fi:List Value}
  (gM:l.row.toRowW.claim.pre args=true) (lD:WellAll P h fi args) :
  ∃a vs ns,fi=[Value.ref a]/\args=[WData.list (ns.map WData.int)]/\h.get? a=some { cls:=.type "list",data:=.seq vs.toArray }/\IntsAre vs ns/\ns.length<=n:=by
 have pW:WShape.hasAll [] args [.list .int]=true:=(pre_splitW gM).1
 have hc:l.pre.holds [] { args:=args }=true:=(pre_splitW gM).2
 obtain⟨d,r,rfl,h1,h2⟩:=hasAllW_cons pW
 obtain rfl:=hasAllW_nil h2
 obtain⟨xs,rfl,h3⟩:=hasW_list h1
 obtain⟨ns,rfl⟩:=items_int h3
 have bI:ns.length<=n:=by
  unfold OpenLaw.pre at hc
  have h4:(WTm.not (.lt (.lit (.int (n:Int))) (.len (.arg 0)))).holds [] { args:=[.list (ns.map .int)] }=true:=by
   have h4:=(holds_andW hc).1
   rw [hn]at h4
   exact h4
  have h5:=condW_of h4 (w_not (w_lt w_lit (w_len_list (w_arg rfl))))
  rw [ah]at h5
  refine Nat.le_of_not_lt fun q=>?_
  have q':(n:Int)<((ns.length:Nat):Int):=by omega
  first
   | (rw [bV q']at h5;exact absurd h5 (by decide))
   | (simp at h5;omega)
 cases lD with
 | cons w1 w2 =>
  cases w2
  cases w1 with
  | list ho ja=>exact⟨_,_,ns,rfl,rfl,ho,Y9b ns _ ja,bI⟩
theorem W4h (l:OpenLaw) (args:List WData):l.row.toRowW.claim.post args (.bool true) args=true :=
 postW_of (r:=l.row.toRowW) (X:=(true==true))
  (show WShape.has [] (.bool true) .bool=true by first | rfl | decide | simp [WShape.has,WShape.arms,WShape.armsAll])
  (show(WTm.eq .res (.lit (.bool true))).value [] { args:=args,res:=some (.bool true),after:=args }=some (.bool (true==true))from w_eq_bool (w_res rfl) w_lit) rfl
theorem attach_call {l:OpenLaw}{n:Nat}{q:Program}{dO:List Str}{XP:(Str->Option Value)->Heap->Prop}{YP:World->Heap->Prop}{d:DefRec}
  (hn:l.most=some n) (jT:d.params.defaults=[])
  (call:∀(w:World) (s₀ s₁:Shared) (mg mb:Str->Option Value) (fa:Addr) (o:Obj) (pm cd cP:Value) (a:Addr) (vs:List Value) (ns:List Int),
   Ground q dO [] XP w s₀ mg mb s₁.heap->YP w s₁.heap ->
   s₁.heap.get? fa=some o->o.data=.func (docDef d.name d.params d.body d.scope pm cd cP)->s₁.heap.CodeRec cd d.name->mg d.name=some (.ref fa) ->
   s₁.heap.get? a=some { cls:=.type "list",data:=.seq vs.toArray }->IntsAre vs ns->ns.length<=n->s₁.gens=#[] ->
   codeAny (model l.prog w) callerA (.call (.ref fa) ⟨[.ref a],[]⟩) (fun r s'=>r=.ok (.ret (.bool true))/\OldK s₁.heap s'.heap/\s'.os=s₁.os/\AllBare s'.gens) s₁) :
  WalkO q dO XP YP l.row.toRowW d [] (fun f vs=>PySem.call f vs):=by
 intro w s₀ s₁ mg mb G Y fa o pm cd cP dV kV ho hd dX hD jK hg args fi as gM qk rT lD rW
 obtain rfl:dV=.none:=Dflts.none hD jT
 obtain rfl:kV=.none:=Dflts.noKw hD
 obtain⟨a,vs,ns,rfl,rfl,iX,fZ,bI⟩:=W7p hn gM lD
 refine enter_call (codeAny_mono (call w s₀ s₁ mg mb fa o pm cd cP a vs ns G Y ho (fd_plain hd) dX jK iX fZ bI hg) fun r s' hq=>?_)
 obtain⟨rfl,h2,h3,h4⟩:=hq
 exact⟨.inl ⟨.bool true,.bool true,[],rfl,fun _=>rfl,.bool true,W4h l _,fun _=>⟨List.Pairwise.nil,fun _ hm=>(nomatch hm)⟩⟩,h2,h3,h4⟩
section
variable {prog:Program}{w:World}{A:Around}{E:VS9}{s:Shared}{K:Frag}
end
end Att
namespace L2
open PySem PySem.Spec PyProof.Rows
theorem Y5j:∀{vs:List Value}{ns:List Int},IntsAre vs ns->B4 (ns.map V.int) vs
 | _,_,.nil=>.nil
 | _,_,.cons n t h=>.cons ⟨t,rfl⟩ (Y5j h)
end L2
namespace L2
open PySem PySem.Spec PyProof.Rows
end L2
namespace L2
open PySem PySem.Spec PyProof.Rows
noncomputable def Y5 (s:Stmt):Arguments:=match s with
 | .FunctionDef _ a _ _ _ _ _ _ _ _=>a
 | _=>{ posonlyargs:=[],args:=[],vararg:=none,kwonlyargs:=[],kw_defaults:=[],kwarg:=none,defaults:=[] }
noncomputable def S0 (s:Stmt):List Stmt:=match s with
 | .FunctionDef _ _ b _ _ _ _ _ _ _=>b
 | _=>[]
noncomputable def C2 (s:Stmt):Scope:=match s with
 | .FunctionDef _ _ _ _ _ _ sc _ _ _=>sc
 | _=>{ kind:=.function,names:=[],isGenerator:=false,isCoroutine:=false }
abbrev L9:CXT:=fun _ _ _ _ _ _=>False
abbrev E0:XK:=fun _ _ _=>False
theorem Q8k {X:Cx}:Q6x L9 X E0:=fun _ _ _ _ _ _ _ h=>h.elim
structure Fun (K:Fg9) (x qual:Str) (st:Stmt) (f:Addr) (fd:FuncData):Prop where
 ex:∃(oc:Value) (od:Option Addr) (kV cP pm:Value) (an:Option Addr) (cdv ct:Value) (dS:Array (Option Value)),
  fd=PySem.W.fnOf x qual (Y5 st) (S0 st) (C2 st) .none kV cP pm an cdv ct/\K.lookup f=some ⟨oc,od,.func fd,dS⟩/\PySem.W.codeIn K cdv qual=true
 kp:PySem.W.keepIn K (.ref f)=true
section
variable {P:Program}{w:World}{K:Fg9}{mg:Str->Option Value}{base:Heap}
theorem Fun.ok {x qual:Str}{st:Stmt}{f:Addr}{fd:FuncData}{N ps:List Str}{k:Nat}{sp:Sp} (F:Fun K x qual st f fd) (S:K5 N ps (C2 st)) (len:∀vs H Q E,sp vs H Q E->vs.length=ps.length)
  (cq:∀(cdv:Value) (A:Around) (outer:List Env) (s:Shared) (H:Hp) (vs:List V) (Q:VK) (E:XK),D5 k (A.deeper (envOfC qual (C2 st) s.heap.objs.size f cdv))->sp vs H Q E ->
   ∃t,PSs (Z9 L9 P w K mg base N qual (C2 st) f cdv A outer s H E).nox (S0 st) t/\t { nx:=fun _ H'=>Q .non H',rt:=Q } (start N vs) H):O5 P w K mg base L9 (k+1) f fd ps sp:=by
 obtain⟨oc,od,kV,cP,pm,an,cdv,ct,dS,rfl,lk,dX⟩:=F.ex
 refine Z8d lk dX S len fun A outer s H vs Q E hr gp=>?_
 obtain⟨t,h,q⟩:=cq cdv A outer s H vs Q E hr gp
 exact⟨t,h.nox,q⟩
theorem Fun.binds {x qual:Str}{st:Stmt}{f:Addr}{fd:FuncData}{ps:List Str} (F:Fun K x qual st f fd)
  (h:∀(kV cP pm:Value) (an:Option Addr) (cdv ct:Value) (us:List Value),us.length=ps.length->bindArgs (PySem.W.fnOf x qual (Y5 st) (S0 st) (C2 st) .none kV cP pm an cdv ct) ⟨us,[]⟩=pure (ps.zip us)):V6 K fd ps []:=by
 obtain⟨oc,od,kV,cP,pm,an,cdv,ct,dS,rfl,lk,dX⟩:=F.ex
 exact .all (h kV cP pm an cdv ct)
theorem Y8p {x qual:Str}{st:Stmt}{f:Addr}{oc:Value}{od an:Option Addr}{dS:Array (Option Value)}{kV cP pm cdv ct:Value} (l:K.lookup f=some ⟨oc,od,.func (PySem.W.fnOf x qual (Y5 st) (S0 st) (C2 st) .none kV cP pm an cdv ct),dS⟩)
  (c:PySem.W.codeIn K cdv qual=true) (k:PySem.W.keepIn K (.ref f)=true):Fun K x qual st f (PySem.W.fnOf x qual (Y5 st) (S0 st) (C2 st) .none kV cP pm an cdv ct):=⟨⟨oc,od,kV,cP,pm,an,cdv,ct,dS,rfl,l,c⟩,k⟩
end
section
variable {X:Cx}
theorem pv (i:Nat) {x:Str}{pos:Pos} (hN:X.N[i]?=some x:=by rfl) (hv:Vis X.env.scope x:=by first | exact Or.inl rfl | exact Or.inr (Or.inl rfl) | exact Or.inr (Or.inr rfl)) (hd:(x==("__debug__":Str))=false:=by decide)
  (dX:(x==("__classdict__":Str))=false:=by decide):PE X (.Name x pos) (J8 i):=W3z hN hv hd dX
end
def A3 (H H':Hp):Prop:=∀b o,H b=some o->H' b=some o
theorem A3.refl (H:Hp):A3 H H:=fun _ _ h=>h
theorem A3.trans {H H1 H2:Hp} (a:A3 H H1) (b:A3 H1 H2):A3 H H2:=fun c o h=>b c o (a c o h)
theorem A3.free {H H':Hp} (e:A3 H H') {l:Addr} (h:H' l=Option.none):H l=Option.none:=by
 cases q:H l with
 | none=>rfl
 | some o =>
  rw [e l o q]at h
  cases h
theorem A3.seq {K:Fg9}{H H':Hp}{a:Addr}{xs:List V} (e:A3 H H') (h:D6 K H a xs):D6 K H' a xs:=by
 rcases h with(h | ⟨o,h⟩) | h
 ·exact .inl (.inl (e _ _ h))
 ·exact .inl (.inr ⟨o,e _ _ h⟩)
 ·exact .inr h
section
variable {κ:Type} [DecidableEq κ]
end
end L2
end
section
namespace TK
open PySem PySem.Spec PyProof.Rows L2
noncomputable abbrev St:=L2.St
inductive D where
 | non | bl (b:Bool) | int (i:Int) | str (x:Str) | tup (xs:List D) | lst (xs:List D)
def FzL (K:Fg9) (H:Hp) (a:Addr) (xs:List V):Prop :=
 (∃o,H a=some (.frz o (.lst xs))) \/
  ∃(o:Obj) (aU:Array Value) (n:Nat),K.lookup a=some o/\o.cls=.type "list"/\o.dict=none/\o.data=.seq aU n/\aU.size<=sizeLine/\B4 xs aU.toList
theorem FzL.sq {K:Fg9}{H:Hp}{a:Addr}{xs:List V} (h:FzL K H a xs):D6 K H a xs:=by
 rcases h with⟨o,h⟩ | h
 ·exact .inl (.inr ⟨o,h⟩)
 ·exact .inr h
structure Kp (H H':Hp):Prop where
 tup:∀a xs,H a=some (.tup xs)->H' a=some (.tup xs)
 frz:∀a o u,H a=some (.frz o u)->H' a=some (.frz o u)
theorem Kp.refl (H:Hp):Kp H H:=⟨fun _ _ h=>h,fun _ _ _ h=>h⟩
theorem Kp.trans {H H1 H2:Hp} (a:Kp H H1) (b:Kp H1 H2):Kp H H2:=⟨fun c xs h=>b.tup c xs (a.tup c xs h),fun c o u h=>b.frz c o u (a.frz c o u h)⟩
theorem Kp.of {H H':Hp} (s:A3 H H'):Kp H H':=⟨fun a xs h=>s a _ h,fun a o u h=>s a _ h⟩
theorem Kp.upd {H:Hp}{a:Addr}{xs:List V} (h:H a=some (.lst xs)) (o:HO):Kp H (upd H a o) :=
 ⟨fun c ys q=>by rw [A9 (X5 q h (by intro z;cases z))];exact q,fun c ob u q=>by rw [A9 (X5 q h (by intro z;cases z))];exact q⟩
theorem Kp.sqT {K:Fg9}{H H':Hp} (k:Kp H H') {a:Addr}{xs:List V} (h:C4 K H a xs):C4 K H' a xs:=by
 rcases h with(h | ⟨o,h⟩) | h
 ·exact .inl (.inl (k.tup _ _ h))
 ·exact .inl (.inr ⟨o,k.frz _ _ _ h⟩)
 ·exact .inr h
theorem Kp.fzL {K:Fg9}{H H':Hp} (k:Kp H H') {a:Addr}{xs:List V} (h:FzL K H a xs):FzL K H' a xs:=by
 rcases h with⟨o,h⟩ | h
 ·exact .inl ⟨o,k.frz _ _ _ h⟩
 ·exact .inr h
theorem C8 {H:Hp}{p:Addr} (h:H p=none) (o:HO):A3 H (upd H p o):=fun b u q=>by rw [A9 (U3 q h)];exact q
mutual
noncomputable def A1 (K:Fg9) (H:Hp):D->V->Prop
 | .non,v=>v=.non
 | .bl b,v=>v=.bl b
 | .int i,v=>v=.int i
 | .str x,v=>v=.str x
 | .tup ds,v=>∃a xs,v=.ref a/\H a=some (.tup xs)/\AllS K H ds xs
 | .lst ds,v=>∃a xs,v=.ref a/\FzL K H a xs/\AllS K H ds xs
noncomputable def AllS (K:Fg9) (H:Hp):List D->List V->Prop
 | [],vs=>vs=[]
 | d::ds,vs=>∃v r,vs=v::r/\A1 K H d v/\AllS K H ds r
end
section
variable {K:Fg9}{H H' H0:Hp}
mutual
theorem A1.mono (k:Kp H H'):∀(d:D) (v:V),A1 K H d v->A1 K H' d v
 | .non,v,h=>h
 | .bl _,v,h=>h
 | .int _,v,h=>h
 | .str _,v,h=>h
 | .tup ds,v,h=>by
  unfold A1 at h ⊢
  obtain⟨a,xs,e,q,r⟩:=h
  exact⟨a,xs,e,k.tup _ _ q,AllS.mono k ds xs r⟩
 | .lst ds,v,h=>by
  unfold A1 at h ⊢
  obtain⟨a,xs,e,q,r⟩:=h
  exact⟨a,xs,e,k.fzL q,AllS.mono k ds xs r⟩
theorem AllS.mono (k:Kp H H'):∀(ds:List D) (vs:List V),AllS K H ds vs->AllS K H' ds vs
 | [],vs,h=>h
 | d::ds,vs,h=>by
  unfold AllS at h ⊢
  obtain⟨v,r,e,q,t⟩:=h
  exact⟨v,r,e,A1.mono k d v q,AllS.mono k ds r t⟩
end
theorem AllS.length:∀{ds:List D}{vs:List V},AllS K H ds vs->ds.length=vs.length
 | [],vs,h=>by unfold AllS at h;subst h;rfl
 | d::ds,vs,h=>by
  unfold AllS at h
  obtain⟨v,r,e,q,t⟩:=h
  subst e
  rw [ax,ax,AllS.length t]
theorem AllS.nil:AllS K H [] []:=by unfold AllS;rfl
theorem AllS.cons {d:D}{ds:List D}{v:V}{vs:List V} (h:A1 K H d v) (t:AllS K H ds vs):AllS K H (d::ds) (v::vs):=by
 unfold AllS;exact⟨v,vs,rfl,h,t⟩
theorem AllS.get:∀{ds:List D}{vs:List V}{i:Nat}{d:D},AllS K H ds vs->ds[i]?=some d->∃v,vs[i]?=some v/\A1 K H d v
 | [],_,_,_,_,e=>by simp at e
 | d::ds,vs,0,x,h,e=>by
  unfold AllS at h
  obtain⟨v,r,rfl,q,t⟩:=h
  simp at e;subst e
  exact⟨v,rfl,q⟩
 | d::ds,vs,i+1,x,h,e=>by
  unfold AllS at h
  obtain⟨v,r,rfl,q,t⟩:=h
  obtain⟨u,h1,h2⟩:=AllS.get (i:=i) t (by simpa using e)
  exact⟨u,by simpa using h1,h2⟩
theorem AllS.append:∀{ds es:List D}{vs us:List V},AllS K H ds vs->AllS K H es us->AllS K H (ds++es) (vs++us)
 | [],_,vs,_,h,t=>by unfold AllS at h;subst h;exact t
 | d::ds,es,vs,us,h,t=>by
  unfold AllS at h
  obtain⟨v,r,rfl,q,s⟩:=h
  exact AllS.cons q (AllS.append s t)
theorem AllS.take:∀{ds:List D}{vs:List V} (n:Nat),AllS K H ds vs->AllS K H (ds.take n) (vs.take n)
 | _,_,0,_=>by simp;exact AllS.nil
 | [],vs,n+1,h=>by unfold AllS at h;subst h;simp;exact AllS.nil
 | d::ds,vs,n+1,h=>by
  unfold AllS at h
  obtain⟨v,r,rfl,q,s⟩:=h
  exact AllS.cons q (AllS.take n s)
theorem AllS.drop:∀{ds:List D}{vs:List V} (n:Nat),AllS K H ds vs->AllS K H (ds.drop n) (vs.drop n)
 | _,_,0,h=>h
 | [],vs,n+1,h=>by unfold AllS at h;subst h;simp;exact AllS.nil
 | d::ds,vs,n+1,h=>by
  unfold AllS at h
  obtain⟨v,r,rfl,q,s⟩:=h
  exact AllS.drop n s
theorem AllS.set {ds:List D}{vs:List V}{d:D}{v:V} (q:A1 K H d v):∀(i:Nat),AllS K H ds vs->AllS K H (ds.set i d) (vs.set i v):=by
 intro i h
 induction ds generalizing vs i with
 | nil=>unfold AllS at h;subst h;exact AllS.nil
 | cons d ds ih =>
  unfold AllS at h
  obtain⟨v,r,rfl,q',s⟩:=h
  cases i with
  | zero=>exact AllS.cons q s
  | succ i=>exact AllS.cons q' (ih i s)
theorem AllS.ints {ns:List Int}:AllS K H (ns.map D.int) (ns.map V.int):=by
 induction ns with
 | nil=>exact AllS.nil
 | cons n r ih=>exact AllS.cons (by unfold A1;rfl) ih
theorem A1.s_int {i:Int}:A1 K H (.int i) (.int i):=by unfold A1;rfl
theorem A1.s_bl {i:Bool}:A1 K H (.bl i) (.bl i):=by unfold A1;rfl
theorem A1.s_str {i:Str}:A1 K H (.str i) (.str i):=by unfold A1;rfl
theorem A1.s_non:A1 K H .non .non:=by unfold A1;rfl
theorem A1.s_tup {ds:List D}{a:Addr}{xs:List V} (q:H a=some (.tup xs)) (r:AllS K H ds xs):A1 K H (.tup ds) (.ref a):=by unfold A1;exact⟨a,xs,rfl,q,r⟩
theorem A1.s_lst {ds:List D}{a:Addr}{xs:List V} (q:FzL K H a xs) (r:AllS K H ds xs):A1 K H (.lst ds) (.ref a):=by unfold A1;exact⟨a,xs,rfl,q,r⟩
end
def Q1y (Φ:Hp->Prop):Prop:=∀H H':Hp,Kp H H'->Φ H->Φ H'
inductive R where
 | st (d:D) | nw (ds:List D) | bw (ds:List D) | dk (kvs:List (A7×D)) | dt (kvs:List (List A7×D)) | ob (a:Addr) | cl (a:Addr) (Φ:Hp->Prop) | ms (a C:Addr) (d:D) (fs:List (Str×D))
noncomputable def B5 {κ:Type} (K:Fg9) (H:Hp):List (κ×D)->List (κ×V)->Prop
 | [],vs=>vs=[]
 | p::ps,vs=>∃v r,vs=(p.1,v)::r/\A1 K H p.2 v/\B5 K H ps r
theorem B5.mono {κ:Type}{K:Fg9}{H H':Hp} (k:Kp H H'):∀(ps:List (κ×D)) (vs:List (κ×V)),B5 K H ps vs->B5 K H' ps vs
 | [],_,h=>h
 | p::ps,vs,h=>by
  obtain⟨v,r,e,q,t⟩:=h
  exact⟨v,r,e,q.mono k _ _,B5.mono k ps r t⟩
noncomputable def E1 (K:Fg9) (H0 H:Hp):R->V->Prop
 | .st d,v=>A1 K H d v
 | .nw ds,v=>∃a xs,v=.ref a/\H0 a=none/\H a=some (.lst xs)/\AllS K H ds xs
 | .bw ds,v=>∃a xs,v=.ref a/\H a=some (.lst xs)/\AllS K H ds xs
 | .dk kvs,v=>∃a ps,v=.ref a/\H a=some (.dK ps)/\B5 K H kvs ps
 | .dt kvs,v=>∃a ps,v=.ref a/\H a=some (.dT ps)/\B5 K H kvs ps
 | .ob a,v=>v=.ref a
 | .cl a Φ,v=>v=.ref a/\Φ H/\Q1y Φ
 | .ms a C d fs,v=>A1 K H d v/\∃dx vs,H a=some (.ins C dx vs)/\B5 K H fs vs
theorem E1.mono {K:Fg9}{H0 H H':Hp} (s:A3 H H'):∀{r:R}{v:V},E1 K H0 H r v->E1 K H0 H' r v
 | .st d,v,h=>A1.mono (Kp.of s) d v h
 | .nw ds,v,h=>by obtain⟨a,xs,e,n,q,t⟩:=h;exact⟨a,xs,e,n,s _ _ q,t.mono (Kp.of s) _ _⟩
 | .bw ds,v,h=>by obtain⟨a,xs,e,q,t⟩:=h;exact⟨a,xs,e,s _ _ q,t.mono (Kp.of s) _ _⟩
 | .dk ds,v,h=>by obtain⟨a,xs,e,q,t⟩:=h;exact⟨a,xs,e,s _ _ q,t.mono (Kp.of s) _ _⟩
 | .dt ds,v,h=>by obtain⟨a,xs,e,q,t⟩:=h;exact⟨a,xs,e,s _ _ q,t.mono (Kp.of s) _ _⟩
 | .ob a,v,h=>h
 | .cl a Φ,v,h=>⟨h.1,h.2.2 _ _ (Kp.of s) h.2.1,h.2.2⟩
 | .ms a C d fs,v,h=>by obtain⟨h1,dx,vs,q,t⟩:=h;exact⟨h1.mono (Kp.of s) _ _,dx,vs,s _ _ q,t.mono (Kp.of s) _ _⟩
theorem E1.older {K:Fg9}{H0 H1 H:Hp} (s:A3 H0 H1):∀{r:R}{v:V},E1 K H1 H r v->E1 K H0 H r v
 | .st d,v,h=>h
 | .nw ds,v,h=>by obtain⟨a,xs,e,n,q,t⟩:=h;exact⟨a,xs,e,s.free n,q,t⟩
 | .bw ds,v,h=>h
 | .dk ds,v,h=>h
 | .dt ds,v,h=>h
 | .ob a,v,h=>h
 | .cl _ _,v,h=>h
 | .ms _ _ _ _,v,h=>h
noncomputable def LO (b:Addr) (xs:List V):Heap->Prop:=fun h=>xs.length<=sizeLine/\∃(aU:List Value) (n:Nat),B4 xs aU/\h.get? b=some { cls:=.type "list",data:=.seq aU.toArray n }
noncomputable def F7 (K:Fg9) (H:Hp):List Addr->List (List D)->Prop
 | [],dss=>dss=[]
 | b::bs,dss=>∃ds r,dss=ds::r/\(∃xs,H b=some (.ext (LO b xs))/\AllS K H ds xs)/\F7 K H bs r
def Q2x (K:Fg9) (H0 H:Hp) (a:Addr) (dss:List (List D)):Prop:=∃bs,(H a=some (.ext (LO a (bs.map V.ref)))/\H0 a=none/\a∉bs)/\bs.Nodup/\(∀b∈bs,H0 b=none)/\F7 K H bs dss
theorem F7.keep {K:Fg9}{H H':Hp} (k:Kp H H') (x:∀b φ,H b=some (.ext φ)->H' b=some (.ext φ)):∀{bs:List Addr}{dss:List (List D)},F7 K H bs dss->F7 K H' bs dss
 | [],_,h=>h
 | b::bs,_,h=>by obtain⟨ds,r,e,⟨xs,q,al⟩,t⟩:=h;exact⟨ds,r,e,⟨xs,x _ _ q,al.mono k _ _⟩,F7.keep k x t⟩
theorem Q2x.keep {K:Fg9}{H0 H H':Hp}{a:Addr}{dss:List (List D)} (h:Q2x K H0 H a dss) (k:Kp H H') (x:∀b φ,H b=some (.ext φ)->H' b=some (.ext φ)):Q2x K H0 H' a dss:=by
 obtain⟨bs,⟨q,q2⟩,n,f,t⟩:=h
 exact⟨bs,⟨x _ _ q,q2⟩,n,f,t.keep k x⟩
inductive Sl where
 | dat (d:D) | own (ds:List D) | bor (ds:List D) | dk (kvs:List (A7×D)) | dt (kvs:List (List A7×D)) | bd (kvs:List (List A7×D)) | ob (a:Addr) | cl (a:Addr) (Φ:Hp->Prop) | ll (a:Addr) (dss:List (List D)) | ins (a C:Addr) (fs:List (Str×D))
noncomputable abbrev A6:=List (Option Sl)
noncomputable def Sl.mut:Sl->Bool
 | .own _=>true
 | .dk _=>true
 | .dt _=>true
 | .ins _ _ _=>true
 | _=>false
noncomputable def M5 (K:Fg9) (H0 H:Hp):Sl->V->Prop
 | .dat d,v=>A1 K H d v
 | .own ds,v=>∃a xs,v=.ref a/\H0 a=none/\H a=some (.lst xs)/\AllS K H ds xs
 | .bor ds,v=>∃a xs,v=.ref a/\H0 a=some (.lst xs)/\AllS K H ds xs
 | .dk kvs,v=>∃a ps,v=.ref a/\H0 a=none/\H a=some (.dK ps)/\B5 K H kvs ps
 | .dt kvs,v=>∃a ps,v=.ref a/\H0 a=none/\H a=some (.dT ps)/\B5 K H kvs ps
 | .bd kvs,v=>∃a ps,v=.ref a/\H0 a=some (.dT ps)/\B5 K H kvs ps
 | .ob a,v=>v=.ref a
 | .cl a Φ,v=>v=.ref a/\Φ H/\Q1y Φ
 | .ll a dss,v=>v=.ref a/\Q2x K H0 H a dss
 | .ins a C fs,v=>v=.ref a/\H0 a=none/\∃dx vs,H a=some (.ins C dx vs)/\B5 K H fs vs
theorem M5.mono {K:Fg9}{H0 H H':Hp} (s:A3 H H'):∀{r:Sl}{v:V},M5 K H0 H r v->M5 K H0 H' r v
 | .dat d,v,h=>A1.mono (Kp.of s) d v h
 | .own ds,v,h=>by obtain⟨a,xs,e,n,q,t⟩:=h;exact⟨a,xs,e,n,s _ _ q,t.mono (Kp.of s) _ _⟩
 | .bor ds,v,h=>by obtain⟨a,xs,e,q,t⟩:=h;exact⟨a,xs,e,q,t.mono (Kp.of s) _ _⟩
 | .bd ds,v,h=>by obtain⟨a,xs,e,q,t⟩:=h;exact⟨a,xs,e,q,t.mono (Kp.of s) _ _⟩
 | .dk ds,v,h=>by obtain⟨a,xs,e,n,q,t⟩:=h;exact⟨a,xs,e,n,s _ _ q,t.mono (Kp.of s) _ _⟩
 | .dt ds,v,h=>by obtain⟨a,xs,e,n,q,t⟩:=h;exact⟨a,xs,e,n,s _ _ q,t.mono (Kp.of s) _ _⟩
 | .ob a,v,h=>h
 | .cl a Φ,v,h=>⟨h.1,h.2.2 _ _ (Kp.of s) h.2.1,h.2.2⟩
 | .ll a dss,v,h=>⟨h.1,h.2.keep (Kp.of s) fun b φ q=>s _ _ q⟩
 | .ins a C fs,v,h=>by obtain⟨e,n,dx,vs,q,t⟩:=h;exact⟨e,n,dx,vs,s _ _ q,t.mono (Kp.of s) _ _⟩
structure B6 (K:Fg9) (H0:Hp) (τ:A6) (σ:St) (H:Hp):Prop where
 len:τ.length=σ.length
 same:A3 H0 H
 here:∀(i:Nat) (s:Sl),τ[i]?=some (some s)->∃v,σ[i]?=some (some v)/\M5 K H0 H s v
 apart:∀(i j:Nat) (s t:Sl) (v:V),i≠j->τ[i]?=some (some s)->τ[j]?=some (some t)->s.mut=true->t.mut=true->σ[i]?=some (some v)->σ[j]?=some (some v)->False
theorem B6.mono {K:Fg9}{H0 H H':Hp} {τ:A6} {σ:St} (h:B6 K H0 τ σ H) (s:A3 H H'):B6 K H0 τ σ H' :=
 ⟨h.len,h.same.trans s,fun i sl e=>let ⟨v,q,r⟩:=h.here i sl e;⟨v,q,r.mono s⟩,h.apart⟩
noncomputable abbrev WE:=A6->(R->Prop)->Prop
def Z2j (K:Fg9) (H0:Hp) (w:WE):TE:=fun σ H Q=>∃ τ,B6 K H0 τ σ H/\w τ fun r=>∀v H',A3 H H'->E1 K H H' r v->Q v H'
structure DE (X:Cx) (H0:Hp) (e:Expr) (w:WE):Prop where
 mono:∀(τ:A6) (P Q:R->Prop),(∀r,P r->Q r)->w τ P->w τ Q
 pe:PE X e (Z2j X.K H0 w)
noncomputable abbrev WT:=A6->(Bool->Prop)->Prop
def Z2k (K:Fg9) (H0:Hp) (w:WT):TT:=fun σ H Q=>∃ τ,B6 K H0 τ σ H/\w τ fun b=>∀H',A3 H H'->Q b H'
structure DT (X:Cx) (H0:Hp) (e:Expr) (w:WT):Prop where
 mono:∀(τ:A6) (P Q:Bool->Prop),(∀r,P r->Q r)->w τ P->w τ Q
 pt:PT X e (Z2k X.K H0 w)
structure DW (X:Cx) (H0:Hp) (e:Expr) (w:WT):Prop where
 mono:∀(τ:A6) (P Q:Bool->Prop),(∀r,P r->Q r)->w τ P->w τ Q
 pw:PW X e (Z2k X.K H0 w)
noncomputable abbrev WA:=A6->(List R->Prop)->Prop
noncomputable def L3 (K:Fg9) (H0 H:Hp):List R->List V->Prop
 | [],vs=>vs=[]
 | r::rs,vs=>∃v t,vs=v::t/\E1 K H0 H r v/\L3 K H0 H rs t
def W0j (K:Fg9) (H0:Hp) (w:WA):TA:=fun σ H Q=>∃ τ,B6 K H0 τ σ H/\w τ fun rs=>∀vs H',A3 H H'->L3 K H H' rs vs->Q vs H'
structure DA (X:Cx) (H0:Hp) (es:List Expr) (w:WA):Prop where
 len:∀(τ:A6) (Q:List R->Prop),w τ Q->w τ fun rs=>rs.length=es.length/\Q rs
 mono:∀(τ:A6) (P Q:List R->Prop),(∀r,P r->Q r)->w τ P->w τ Q
 pa:PA X es (W0j X.K H0 w)
structure E7 where
 nx:A6->Prop
 rt:R->Prop
 bk:A6->Prop
 ct:A6->Prop
noncomputable abbrev WS:=E7->A6->Prop
structure E7.Le (E F:E7):Prop where
 nx:∀ τ,E.nx τ->F.nx τ
 rt:∀r,E.rt r->F.rt r
 bk:∀ τ,E.bk τ->F.bk τ
 ct:∀ τ,E.ct τ->F.ct τ
noncomputable def K0 (K:Fg9) (H0 Hs:Hp) (D:K4):E7 where
 nx:=fun τ=>∀ σ H,Kp Hs H->B6 K H0 τ σ H->D.nx σ H
 rt:=fun r=>∀v H,A3 H0 H->E1 K H0 H r v->D.rt v H
 bk:=fun τ=>∀ σ H,Kp Hs H->B6 K H0 τ σ H->D.bk σ H
 ct:=fun τ=>∀ σ H,Kp Hs H->B6 K H0 τ σ H->D.ct σ H
theorem Z2i {K:Fg9}{H0 H H1:Hp}{D:K4} (k:Kp H H1):(K0 K H0 H D).Le (K0 K H0 H1 D) :=
 ⟨fun τ h σ H2 k2 hR=>h σ H2 (k.trans k2) hR,fun _ h=>h,fun τ h σ H2 k2 hR=>h σ H2 (k.trans k2) hR,fun τ h σ H2 k2 hR=>h σ H2 (k.trans k2) hR⟩
def Z9i (K:Fg9) (H0:Hp) (w:WS):TS:=fun D σ H=>∃ τ,B6 K H0 τ σ H/\w (K0 K H0 H D) τ
structure DS (X:Cx) (H0:Hp) (st:Stmt) (w:WS):Prop where
 mono:∀(τ:A6) (E F:E7),E.Le F->w E τ->w F τ
 ps:PS X st (Z9i X.K H0 w)
structure A5 (X:Cx) (H0:Hp) (jg:List Stmt) (w:WS):Prop where
 mono:∀(τ:A6) (E F:E7),E.Le F->w E τ->w F τ
 ps:PSs X jg (Z9i X.K H0 w)
theorem L5 {X:Cx}{e:Expr}{t t':TE} (h:PE X e t) (f:∀ σ H Q,t' σ H Q->t σ H Q):PE X e t':=fun ac s σ H Q I q=>h ac s σ H Q I (f σ H Q q)
theorem ptW {X:Cx}{e:Expr}{t t':TT} (h:PT X e t) (f:∀ σ H Q,t' σ H Q->t σ H Q):PT X e t':=fun ac s σ H Q I q=>h ac s σ H Q I (f σ H Q q)
theorem pwW {X:Cx}{e:Expr}{t t':TT} (h:PW X e t) (f:∀ σ H Q,t' σ H Q->t σ H Q):PW X e t':=fun whole ac s σ H Q I q=>h whole ac s σ H Q I (f σ H Q q)
theorem paW {X:Cx}{e:List Expr}{t t':TA} (h:PA X e t) (f:∀ σ H Q,t' σ H Q->t σ H Q):PA X e t':=fun pos ac s σ H Q I q=>h pos ac s σ H Q I (f σ H Q q)
theorem L6 {X:Cx}{e:Stmt}{t t':TS} (h:PS X e t) (f:∀D σ H,t' D σ H->t D σ H):PS X e t':=fun ac s σ H D I q=>h ac s σ H D I (f D σ H q)
theorem Q8m {X:Cx}{e:List Stmt}{t t':TS} (h:PSs X e t) (f:∀D σ H,t' D σ H->t D σ H):PSs X e t':=fun ac s σ H D I q=>h ac s σ H D I (f D σ H q)
noncomputable abbrev IsV (K:Fg9) (H:Hp):R->V->Prop:=E1 K (fun _=>none) H
theorem E1.v {K:Fg9}{H0 H:Hp}:∀{r:R}{v:V},E1 K H0 H r v->IsV K H r v
 | .st d,v,h=>h
 | .nw ds,v,h=>by obtain⟨a,xs,e,n,q,t⟩:=h;exact⟨a,xs,e,rfl,q,t⟩
 | .bw ds,v,h=>h
 | .dk ds,v,h=>h
 | .dt ds,v,h=>h
 | .ob a,v,h=>h
 | .cl _ _,v,h=>h
 | .ms _ _ _ _,v,h=>h
theorem Z8v {K:Fg9}{H0 H:Hp}{k:Bool}:E1 K H0 H (.st (.bl k)) (.bl k):=A1.s_bl (K:=K) (H:=H)
theorem V9 {K:Fg9}{H0 H:Hp}{k:Int}:E1 K H0 H (.st (.int k)) (.int k):=A1.s_int (K:=K) (H:=H)
theorem Q7u {K:Fg9}{H0 H:Hp}{k:Str}:E1 K H0 H (.st (.str k)) (.str k):=A1.s_str (K:=K) (H:=H)
section
variable {X:Cx}{H0:Hp}{a b c e:Expr}{pos:Pos}{wa wb wc we:WE}
noncomputable def Q0:Sl->R
 | .dat d=>.st d
 | .own ds=>.bw ds
 | .bor ds=>.bw ds
 | .dk k=>.dk k
 | .dt k=>.dt k
 | .bd k=>.dt k
 | .ob a=>.ob a
 | .cl a Φ=>.cl a Φ
 | .ll a _=>.ob a
 | .ins a _ _=>.ob a
theorem M5.rd {K:Fg9}{H0 H Hs:Hp} (s:A3 H0 H):∀{r:Sl}{v:V},M5 K H0 H r v->E1 K Hs H (Q0 r) v
 | .dat d,v,h=>h
 | .own ds,v,h=>by obtain⟨a,xs,e,n,q,t⟩:=h;exact⟨a,xs,e,q,t⟩
 | .bor ds,v,h=>by obtain⟨a,xs,e,q,t⟩:=h;exact⟨a,xs,e,s _ _ q,t⟩
 | .bd ds,v,h=>by obtain⟨a,xs,e,q,t⟩:=h;exact⟨a,xs,e,s _ _ q,t⟩
 | .dk ds,v,h=>by obtain⟨a,xs,e,n,q,t⟩:=h;exact⟨a,xs,e,q,t⟩
 | .dt ds,v,h=>by obtain⟨a,xs,e,n,q,t⟩:=h;exact⟨a,xs,e,q,t⟩
 | .ob a,v,h=>h
 | .cl _ _,v,h=>h
 | .ll a _,v,h=>h.1
 | .ins a C fs,v,h=>h.1
def wV (i:Nat):WE:=fun τ Q=>∃s,τ[i]?=some (some s)/\Q (Q0 s)
theorem DE.var {i:Nat} (h:PE X e (J8 i)):DE X H0 e (wV i) where
 mono:=fun τ P Q f ⟨s,h1,h2⟩=>⟨s,h1,f _ h2⟩
 pe:=L5 h fun σ H Q ⟨τ,hR,s,h1,h2⟩=>by
  obtain⟨v,hv,q⟩:=hR.here i s h1
  exact⟨v,hv,h2 v H (A3.refl H) (q.rd hR.same)⟩
def wC (d:D):WE:=fun _ Q=>Q (.st d)
theorem DE.con {v:V}{d:D} (h:PE X e (tC v)) (hd:∀K H,A1 K H d v):DE X H0 e (wC d) where
 mono:=fun τ P Q f h=>f _ h
 pe:=L5 h fun σ H Q ⟨τ,hR,h⟩=>h v H (A3.refl H) (hd _ _)
theorem DE.int {i:Int}{j:Nat}:DE X H0 (.Constant (.int i) j pos) (wC (.int i)):=DE.con W3o fun _ _=>A1.s_int
theorem DE.bl {i:Bool}{j:Nat}:DE X H0 (.Constant (.bool i) j pos) (wC (.bl i)):=DE.con W3d fun _ _=>A1.s_bl
theorem DE.str {i:Str}{j:Nat}:DE X H0 (.Constant (.str i) j pos) (wC (.str i)):=DE.con W3x fun _ _=>A1.s_str
noncomputable def fzR:R->(D->Prop)->Prop
 | .st d,Q=>Q d
 | .nw ds,Q=>Q (.lst ds)
 | _,_=>False
theorem A0.freeze {ac:Pn9} {σ:St}{H:Hp}{s:Shared}{x:Addr}{xs:List V} (I:A0 X ac σ H s) (h:H x=some (.lst xs)):∃o,A0 X ac σ (upd H x (.frz o (.lst xs))) s:=by
 obtain⟨z,aU,n,r,q⟩:=I.hok x _ h
 refine⟨_,I.write (t':=s.toks) (h':=s.heap) (e:=x) (o:=.frz { cls:=.type "list",data:=.seq aU.toArray n } (.lst xs)) (by rw [h];trivial) (.inl rfl) (fun b u _ k=>k) ⟨_,q⟩ ?_⟩
 exact⟨q,z,aU,n,r,q⟩
theorem DE.fz (h:DE X H0 e we):DE X H0 e (fun τ Q=>we τ fun r=>fzR r fun d=>Q (.st d)) where
 mono:=fun τ P Q f h'=>h.mono τ _ _ (fun r q=>by
  cases r <;> first | exact f _ q | exact q) h'
 pe:=by
  intro ac s σ H Q I ⟨τ,hR,hw⟩
  refine B3 (h.pe ac s σ H (fun v H'=>A3 H H'/\∃r,E1 X.K H H' r v/\fzR r fun d=>∀v H',A3 H H'->A1 X.K H' d v->Q v H') I ⟨τ,hR,h.mono τ _ _ (fun r q v H' sm ir=>⟨sm,r,ir,q⟩) hw⟩) ?_
  rintro u s1 ⟨v,H1,I1,rv,sm,r,ir,q⟩
  cases r with
  | st d=>exact⟨v,H1,I1,rv,q v H1 sm ir⟩
  | nw ds =>
   obtain⟨p,xs,rfl,hn,hp,al⟩:=ir
   obtain⟨o,I2⟩:=A0.freeze I1 hp
   refine⟨.ref p,_,I2,rv,q _ _ (fun b ob hb=>?_) (A1.s_lst (.inl ⟨o,upd_same⟩) (al.mono (Kp.upd hp _) _ _))⟩
   rw [A9 (U3 hb hn)]
   exact sm b ob hb
  | bw _=>exact q.elim
  | dk _=>exact q.elim
  | dt _=>exact q.elim
  | ob _=>exact q.elim
  | cl _ _=>exact q.elim
  | ms _ _ _ _=>exact q.elim
theorem two (ha:DE X H0 a wa) (hb:DE X H0 b wb) {τ:A6} {σ:St}{H:Hp} (hR:B6 X.K H0 τ σ H) {F:R->R->Prop} (h:wa τ fun x=>wb τ fun y=>F x y) {G:V->V->Hp->Prop}
  (hG:∀x y v u H',A3 H H'->E1 X.K H H' x v->E1 X.K H H' y u->F x y->G v u H'):Z2j X.K H0 wa σ H fun v H1=>Z2j X.K H0 wb σ H1 fun u H2=>G v u H2 :=
 ⟨τ,hR,ha.mono τ _ _ (fun x hx v H1 s1 r1=>⟨τ,hR.mono s1,hb.mono τ _ _ (fun y hy u H2 s2 r2=>hG x y v u H2 (s1.trans s2) (r1.mono s2) (r2.older s1) hy) hx⟩) h⟩
def OpD (X:Cx) (f:Value->Value->Sem Value) (g:R->R->(R->Prop)->Prop):Prop :=
 N7 X f (fun x y H Q=>∃r1 r2,IsV X.K H r1 x/\IsV X.K H r2 y/\g r1 r2 fun r=>∀v H',A3 H H'->E1 X.K H H' r v->Q v H')
def V0 {α:Type} (g:R->R->(α->Prop)->Prop):Prop:=∀x y (P Q:α->Prop),(∀r,P r->Q r)->g x y P->g x y Q
noncomputable def A8 {α:Type} (g:R->R->(α->Prop)->Prop) (wa wb:WE):A6->(α->Prop)->Prop:=fun τ Q=>wa τ fun x=>wb τ fun y=>g x y Q
theorem DE.op {op:Operator}{g:R->R->(R->Prop)->Prop} (ho:OpD X (binaryOp op) g) (mg:V0 g) (ha:DE X H0 a wa) (hb:DE X H0 b wb):DE X H0 (.BinOp a op b pos) (A8 g wa wb) where
 mono:=fun τ P Q f h=>ha.mono τ _ _ (fun x h=>hb.mono τ _ _ (fun y h=>mg x y P Q f h) h) h
 pe:=L5 (W3t ho ha.pe hb.pe) fun σ H Q ⟨τ,hR,h⟩=>two ha hb hR h fun x y v u H' sm rx ry q =>
  ⟨x,y,rx.v,ry.v,mg x y _ _ (fun r q v cW s2 ir=>q v cW (sm.trans s2) (ir.older sm)) q⟩
def W5 (X:Cx) (op:CmpOp) (g:R->R->(Bool->Prop)->Prop):Prop :=
 N7 X (compareOp op) (fun x y H Q=>∃r1 r2,IsV X.K H r1 x/\IsV X.K H r2 y/\g r1 r2 fun k=>Q (.bl k) H)
theorem DE.cmp {op:CmpOp}{g:R->R->(Bool->Prop)->Prop} (ho:W5 X op g) (mg:V0 g) (ha:DE X H0 a wa) (hb:DE X H0 b wb) (hm:behindInMarks op b=false) :
  DE X H0 (.Compare a [op] [b] pos) (fun τ Q=>A8 g wa wb τ fun k=>Q (.st (.bl k))) where
 mono:=fun τ P Q f h=>ha.mono τ _ _ (fun x h=>hb.mono τ _ _ (fun y h=>mg x y _ _ (fun k q=>f _ q) h) h) h
 pe:=L5 (W3h ho ha.pe hb.pe hm) fun σ H Q ⟨τ,hR,h⟩=>two ha hb hR h fun x y v u H' sm rx ry q =>
  ⟨x,y,rx.v,ry.v,mg x y _ _ (fun r q=>q _ _ sm Z8v) q⟩
theorem DT.cmp {op:CmpOp}{g:R->R->(Bool->Prop)->Prop} (ho:W5 X op g) (mg:V0 g) (ha:DE X H0 a wa) (hb:DE X H0 b wb) (hm:behindInMarks op b=false) :
  DT X H0 (.Compare a [op] [b] pos) (A8 g wa wb) where
 mono:=fun τ P Q f h=>ha.mono τ _ _ (fun x h=>hb.mono τ _ _ (fun y h=>mg x y _ _ (fun k q=>f _ q) h) h) h
 pt:=ptW (W4q ho ha.pe hb.pe hm) fun σ H Q ⟨τ,hR,h⟩=>two ha hb hR h fun x y v u H' sm rx ry q =>
  ⟨x,y,rx.v,ry.v,mg x y _ _ (fun r q=>⟨r,rfl,q _ sm⟩) q⟩
noncomputable def Q1u:R->(Bool->Prop)->Prop
 | .st .non,Q=>Q false
 | .st (.bl b),Q=>Q b
 | .st (.int i),Q=>Q (i != 0)
 | .st (.str x),Q=>x.length<=sizeLine/\Q ((x.length:Int) != 0)
 | .st (.tup ds),Q=>Q (!ds.isEmpty)
 | .st (.lst ds),Q=>Q (!ds.isEmpty)
 | .nw ds,Q=>Q (!ds.isEmpty)
 | .bw ds,Q=>Q (!ds.isEmpty)
 | .dk kvs,Q=>Q (!kvs.isEmpty)
 | .dt _,_=>False
 | .ob _,_=>False
 | .cl _ _,_=>False
 | .ms _ _ _ _,_=>False
theorem AllS.empty {K:Fg9}{H:Hp}{ds:List D}{xs:List V} (h:AllS K H ds xs):ds.isEmpty=xs.isEmpty:=by
 have:=h.length
 cases ds <;> cases xs <;> simp_all
theorem W8y (r:R) (P Q:Bool->Prop) (f:∀r,P r->Q r) (h:Q1u r P):Q1u r Q:=by
 unfold Q1u at h ⊢
 split at h <;> first | exact f _ h | exact⟨h.1,f _ h.2⟩ | exact h
theorem W8z {K:Fg9}{H:Hp}{r:R}{v:V} (ir:IsV K H r v) {Q:Bool->Prop} (h:Q1u r Q):∃k,Z0v K v H k/\Q k:=by
 cases r with
 | st d =>
  cases d with
  | non=>cases (show v=.non from ir);exact⟨_,rfl,h⟩
  | bl b=>cases (show v=.bl b from ir);exact⟨_,rfl,h⟩
  | int b=>cases (show v=.int b from ir);exact⟨_,rfl,h⟩
  | str b=>cases (show v=.str b from ir);exact⟨_,⟨h.1,rfl⟩,h.2⟩
  | tup ds =>
   have ir:A1 K H (.tup ds) v:=ir
   unfold A1 at ir
   obtain⟨p,xs,rfl,q,al⟩:=ir
   exact⟨_,.inr (.inl ⟨xs,C4.of q,rfl⟩),by rw [<- al.empty];exact h⟩
  | lst ds =>
   have ir:A1 K H (.lst ds) v:=ir
   unfold A1 at ir
   obtain⟨p,xs,rfl,q,al⟩:=ir
   exact⟨_,.inl ⟨xs,q.sq,rfl⟩,by rw [<- al.empty];exact h⟩
 | nw ds=>obtain⟨p,xs,rfl,_,q,al⟩:=ir;exact⟨_,.inl ⟨xs,D6.of q,rfl⟩,by rw [<- al.empty];exact h⟩
 | bw ds=>obtain⟨p,xs,rfl,q,al⟩:=ir;exact⟨_,.inl ⟨xs,D6.of q,rfl⟩,by rw [<- al.empty];exact h⟩
 | dk ds =>
  obtain⟨p,xs,rfl,q,al⟩:=ir
  refine⟨_,.inr (.inr ⟨xs,q,rfl⟩),?_⟩
  cases ds with
  | nil=>cases (show xs=[]from al);exact h
  | cons d ds=>obtain⟨v,r,rfl,_⟩:=al;exact h
 | dt _=>exact h.elim
 | ob _=>exact h.elim
 | cl _ _=>exact h.elim
 | ms _ _ _ _=>exact h.elim
theorem DT.tru (ha:DE X H0 a wa) (he:∀whole,isTrue a X.env whole=(do let v <- whole;standAt a.pos;holding [v] (truthy v))):DT X H0 a (fun τ Q=>wa τ fun r=>Q1u r Q) where
 mono:=fun τ P Q f h=>ha.mono τ _ _ (fun x h=>W8y x P Q f h) h
 pt:=ptW (W4s ha.pe he) fun σ H Q ⟨τ,hR,h⟩=>⟨τ,hR,ha.mono τ _ _ (fun r q v H' sm ir=>by
  obtain⟨k,h1,h2⟩:=W8z ir.v q
  exact⟨k,h1,h2 H' sm⟩) h⟩
variable {ta tb tc:WT}{rest:List Expr}
def Q9l (t u:WT):WT:=fun τ Q=>t τ fun k=>if k=true then u τ Q else Q false
def Q4q (t:WT):WT:=fun τ Q=>t τ fun k=>Q (!k)
theorem Q0x {c A B A' B':Prop} [Decidable c] (f:A->A') (g:B->B') (h:if c then A else B):if c then A' else B':=by
 split at h
 ·rename_i hc;rw [aJ hc];exact f h
 ·rename_i hc;rw [aH hc];exact g h
theorem DW.and1 (ha:DT X H0 a ta):DW X H0 (.BoolOp .And [a] pos) ta:=⟨ha.mono,W4v ha.pt⟩
theorem DW.and (ha:DT X H0 a ta) (hb:DW X H0 (.BoolOp .And (b::rest) pos) tb):DW X H0 (.BoolOp .And (a::b::rest) pos) (Q9l ta tb) where
 mono:=fun τ P Q f h=>ha.mono τ _ _ (fun k h=>Q0x (hb.mono τ _ _ f) (f _) h) h
 pw:=pwW (W4u ha.pt hb.pw) fun σ H Q ⟨τ,hR,h⟩=>⟨τ,hR,ha.mono τ _ _ (fun k q H1 s1 =>
  Q0x (fun h=>⟨τ,hR.mono s1,hb.mono τ _ _ (fun k q H2 s2=>q H2 (s1.trans s2)) h⟩) (fun h=>h H1 s1) q) h⟩
theorem DW.t (h:DW X H0 a ta):DT X H0 a ta:=⟨h.mono,h.pw.pt⟩
theorem DT.nt (ha:DT X H0 a ta):DT X H0 (.UnaryOp .Not a pos) (Q4q ta) where
 mono:=fun τ P Q f h=>ha.mono τ _ _ (fun k h=>f _ h) h
 pt:=ptW (W4r ha.pt) fun σ H Q ⟨τ,hR,h⟩=>⟨τ,hR,h⟩
noncomputable def blR:R->(Bool->Prop)->Prop
 | .st (.bl b),Q=>Q b
 | _,_=>False
theorem Z6w {r:R}{P:Bool->Prop} (h:blR r P):∃k,r=.st (.bl k)/\P k:=by
 unfold blR at h
 split at h
 ·exact⟨_,rfl,h⟩
 ·exact h.elim
def Q9y (wa wb:WE):WE:=fun τ Q=>wa τ fun r=>blR r fun k=>if k=true then Q (.st (.bl true))else wb τ Q
theorem DE.or1 (ha:DE X H0 a wa):DE X H0 (.BoolOp .Or [a] pos) wa:=⟨ha.mono,W3s ha.pe⟩
theorem DE.or (ha:DE X H0 a wa) (hb:DE X H0 (.BoolOp .Or (b::rest) pos) wb):DE X H0 (.BoolOp .Or (a::b::rest) pos) (Q9y wa wb) where
 mono:=fun τ P Q f h=>ha.mono τ _ _ (fun r h=>by
  obtain⟨k,rfl,h⟩:=Z6w h
  exact Q0x (f _) (hb.mono τ _ _ f) h) h
 pe:=L5 (W3u ha.pe hb.pe) fun σ H Q ⟨τ,hR,h⟩=>⟨τ,hR,ha.mono τ _ _ (fun r h v H1 s1 ir=>by
  obtain⟨k,rfl,h⟩:=Z6w h
  refine⟨k,ir,Q0x (fun h=>h _ _ s1 Z8v) (fun h=>⟨τ,hR.mono s1,hb.mono τ _ _ (fun r q u H2 s2 iu=>q u H2 (s1.trans s2) (iu.older s1)) h⟩) h⟩) h⟩
variable {es:List Expr}{wr:WA}
def A4:WA:=fun _ Q=>Q []
def A2 (we:WE) (wr:WA):WA:=fun τ Q=>we τ fun r=>wr τ fun rs=>Q (r::rs)
theorem L3.older {K:Fg9}{H0 H1 H:Hp} (s:A3 H0 H1):∀{rs:List R}{vs:List V},L3 K H1 H rs vs->L3 K H0 H rs vs
 | [],_,h=>h
 | r::rs,_,h=>by obtain⟨v,t,e,q,z⟩:=h;exact⟨v,t,e,q.older s,L3.older s z⟩
theorem DA.nil:DA X H0 [] A4:=⟨fun τ Q h=>⟨rfl,h⟩,fun τ P Q f h=>f _ h,paW Q1r fun σ H Q ⟨τ,hR,h⟩=>h [] H (A3.refl H) rfl⟩
theorem DA.cons (ha:DE X H0 e we) (hr:DA X H0 es wr) (hs:starEach (e::es) X.env=(false,eval e X.env)::starEach es X.env:=by rfl):DA X H0 (e::es) (A2 we wr) where
 len:=fun τ Q h=>ha.mono τ _ _ (fun r h=>hr.mono τ _ _ (fun rs h=>⟨by rw [ax,ax,h.1],h.2⟩) (hr.len τ _ h)) h
 mono:=fun τ P Q f h=>ha.mono τ _ _ (fun r h=>hr.mono τ _ _ (fun rs h=>f _ h) h) h
 pa:=paW (Q0k ha.pe hr.pa hs) fun σ H Q ⟨τ,hR,h⟩=>⟨τ,hR,ha.mono τ _ _ (fun r h v H1 s1 ir=>⟨τ,hR.mono s1,hr.mono τ _ _ (fun rs h vs H2 s2 cw =>
  h (v::vs) H2 (s1.trans s2) ⟨v,vs,rfl,ir.mono s2,cw.older s1⟩) h⟩) h⟩
noncomputable def Z4:List R->Option (List D)
 | []=>some []
 | .st d::rs=>(Z4 rs).map (d::·)
 | _::_=>none
theorem Z3n {K:Fg9}{H0 H:Hp}:∀{rs:List R}{ds:List D}{vs:List V},Z4 rs=some ds->L3 K H0 H rs vs->AllS K H ds vs
 | [],ds,vs,h,q=>by cases h;cases q;exact AllS.nil
 | .st d::rs,ds,vs,h,q=>by
  obtain⟨v,t,rfl,iv,z⟩:=q
  unfold Z4 at h
  cases e:Z4 rs with
  | none=>rw [e]at h;cases h
  | some es=>rw [e]at h;cases h;exact AllS.cons iv (Z3n e z)
 | .nw _::_,_,_,h,_=>by cases h
 | .bw _::_,_,_,h,_=>by cases h
 | .dk _::_,_,_,h,_=>by cases h
 | .dt _::_,_,_,h,_=>by cases h
 | .ob _::_,_,_,h,_=>by cases h
 | .cl _ _::_,_,_,h,_=>by cases h
 | .ms _ _ _ _::_,_,_,h,_=>by cases h
def R1 (wr:WA):WE:=fun τ Q=>wr τ fun rs=>∃ds,Z4 rs=some ds/\ds.length<=sizeLine/\Q (.st (.tup ds))
def N6 (wr:WA):WE:=fun τ Q=>wr τ fun rs=>∃ds,Z4 rs=some ds/\ds.length<=sizeLine/\Q (.nw ds)
theorem DE.tup {k:Nat} (h:DA X H0 es wr):DE X H0 (.Tuple es k pos) (R1 wr) where
 mono:=fun τ P Q f h'=>h.mono τ _ _ (fun rs ⟨ds,e,l,q⟩=>⟨ds,e,l,f _ q⟩) h'
 pe:=L5 (W3y h.pa) fun σ H Q ⟨τ,hR,h'⟩=>⟨τ,hR,h.mono τ _ _ (fun rs ⟨ds,e,l,q⟩ vs H1 s1 cw=>by
  have al:=Z3n e cw
  refine⟨by rw [<- al.length];exact l,fun p hp=>q _ _ (s1.trans (C8 hp _)) (A1.s_tup upd_same (al.mono (Kp.of (C8 hp _)) _ _))⟩) h'⟩
theorem DE.lst (h:DA X H0 es wr):DE X H0 (.List es pos) (N6 wr) where
 mono:=fun τ P Q f h'=>h.mono τ _ _ (fun rs ⟨ds,e,l,q⟩=>⟨ds,e,l,f _ q⟩) h'
 pe:=L5 (Y1f h.pa) fun σ H Q ⟨τ,hR,h'⟩=>⟨τ,hR,h.mono τ _ _ (fun rs ⟨ds,e,l,q⟩ vs H1 s1 cw=>by
  have al:=Z3n e cw
  refine⟨by rw [<- al.length];exact l,fun p hp=>q _ _ (s1.trans (C8 hp _)) ⟨p,vs,rfl,s1.free hp,upd_same,al.mono (Kp.of (C8 hp _)) _ _⟩⟩) h'⟩
end
theorem Y7 {α:Type}{l:List (Option α)}{i:Nat}{x:Option α} (h:i<l.length):(l.set i x)[i]?=some x:=by simp [h]
theorem B6.set {K:Fg9}{H0 H:Hp} {τ:A6} {σ:St}{i:Nat}{s:Sl}{v:V} (h:B6 K H0 τ σ H) (q:M5 K H0 H s v)
  (ap:s.mut=true->∀(j:Nat) (t:Sl),j≠i->τ[j]?=some (some t)->t.mut=true->σ[j]?≠some (some v)):B6 K H0 (τ.set i (some s)) (σ.set i (some v)) H where
 len:=by rw [aZ,aZ];exact h.len
 same:=h.same
 here:=fun j t e=>by
  by_cases hj:j=i
  ·subst hj
   by_cases hl:j<τ.length
   ·rw [Y7 hl]at e
    cases e
    exact⟨v,Y7 (by rw [<- h.len];exact hl),q⟩
   ·rw [aM.mpr (by rw [aZ];omega)]at e;cases e
  ·rw [aG (fun z=>hj z.symm)]at e ⊢
   exact h.here j t e
 apart:=fun j k s1 s2 u cb e1 e2 m1 m2 q1 q2=>by
  by_cases hj:j=i
  ·subst hj
   have hk:k≠j:=fun z=>cb z.symm
   by_cases hl:j<τ.length
   ·rw [Y7 hl]at e1
    cases e1
    rw [Y7 (by rw [<- h.len];exact hl)]at q1
    cases q1
    rw [aG (fun z=>hk z.symm)]at e2 q2
    exact ap m1 k s2 hk e2 m2 q2
   ·rw [aM.mpr (by rw [aZ];omega)]at e1;cases e1
  ·by_cases hk:k=i
   ·subst hk
    by_cases hl:k<τ.length
    ·rw [Y7 hl]at e2
     cases e2
     rw [Y7 (by rw [<- h.len];exact hl)]at q2
     cases q2
     rw [aG (fun z=>hj z.symm)]at e1 q1
     exact ap m2 j s1 hj e1 m1 q1
    ·rw [aM.mpr (by rw [aZ];omega)]at e2;cases e2
   ·rw [aG (fun z=>hj z.symm)]at e1 q1
    rw [aG (fun z=>hk z.symm)]at e2 q2
    exact h.apart j k s1 s2 u cb e1 e2 m1 m2 q1 q2
theorem B6.tracked {K:Fg9}{H0 H:Hp} {τ:A6} {σ:St}{j:Nat}{t:Sl}{p:Addr} (h:B6 K H0 τ σ H) (e:τ[j]?=some (some t)) (m:t.mut=true) (q:σ[j]?=some (some (.ref p))):∃o,H p=some o:=by
 obtain⟨v,hv,r⟩:=h.here j t e
 rw [q]at hv;cases hv
 cases t with
 | dat _=>cases m
 | bor _=>cases m
 | bd _=>cases m
 | own ds=>obtain⟨a,xs,e,_,q,_⟩:=r;cases e;exact⟨_,q⟩
 | dk ds=>obtain⟨a,xs,e,_,q,_⟩:=r;cases e;exact⟨_,q⟩
 | dt ds=>obtain⟨a,xs,e,_,q,_⟩:=r;cases e;exact⟨_,q⟩
 | ob _=>cases m
 | cl _ _=>cases m
 | ll _ _=>cases m
 | ins _ _ _=>obtain⟨e,_,dx,xs,q,_⟩:=r;cases e;exact⟨_,q⟩
noncomputable def Q0m:R->(Sl->Prop)->Prop
 | .st d,Q=>Q (.dat d)
 | .nw ds,Q=>Q (.own ds)
 | _,_=>False
theorem W8g {r:R}{P:Sl->Prop} (h:Q0m r P):∃s,P s/\((∃d,r=.st d/\s=.dat d)\/∃ds,r=.nw ds/\s=.own ds):=by
 cases r with
 | st d=>exact⟨_,h,.inl ⟨d,rfl,rfl⟩⟩
 | nw ds=>exact⟨_,h,.inr ⟨ds,rfl,rfl⟩⟩
 | bw _=>exact h.elim
 | dk _=>exact h.elim
 | dt _=>exact h.elim
 | ob _=>exact h.elim
 | cl _ _=>exact h.elim
 | ms _ _ _ _=>exact h.elim
theorem Z3w {r:R}{P Q:Sl->Prop} (f:∀s,P s->Q s) (h:Q0m r P):Q0m r Q:=by
 cases r <;> first | exact f _ h | exact h
theorem B6.store {K:Fg9}{H0 H H1:Hp} {τ:A6} {σ:St}{i:Nat}{r:R}{v:V} (h:B6 K H0 τ σ H) (sm:A3 H H1) (ir:E1 K H H1 r v) {P:Sl->Prop} (st:Q0m r P):∃s,P s/\B6 K H0 (τ.set i (some s)) (σ.set i (some v)) H1:=by
 obtain⟨s,p,⟨d,rfl,rfl⟩ | ⟨ds,rfl,rfl⟩⟩:=W8g st
 ·exact⟨_,p,(h.mono sm).set ir fun m=>by cases m⟩
 ·obtain⟨a,xs,rfl,hn,ha,al⟩:=ir
  refine⟨_,p,(h.mono sm).set ⟨a,xs,rfl,h.same.free hn,ha,al⟩ fun _ j t hj e m q=>?_⟩
  obtain⟨o,ho⟩:=h.tracked e m q
  rw [hn]at ho;cases ho
section
variable {X:Cx}{H0:Hp}{a b c e:Expr}{pos bj:Pos}{wa wb we:WE}{tc:WT}{st:Stmt}{jg:List Stmt}{ws wt:WS}
def U8:WS:=fun E τ=>E.nx τ
def B8 (t u:WS):WS:=fun E τ=>t { E with nx:=u E } τ
theorem A5.nil:A5 X H0 [] U8:=⟨fun τ E F le h=>le.nx τ h,Q8m W4o fun D σ H ⟨τ,hR,h⟩=>h σ H (Kp.refl H) hR⟩
theorem A5.cons (h1:DS X H0 st ws) (h2:A5 X H0 jg wt):A5 X H0 (st::jg) (B8 ws wt) where
 mono:=fun τ E F le h=>h1.mono τ { E with nx:=wt E } { F with nx:=wt F } ⟨fun τ' h=>h2.mono τ' E F le h,le.rt,le.bk,le.ct⟩ h
 ps:=Q8m (Y1l h1.ps h2.ps) fun D σ H ⟨τ,hR,h⟩=>⟨τ,hR,h1.mono τ { K0 X.K H0 H D with nx:=wt (K0 X.K H0 H D) } _ ⟨fun τ' h σ' H' k cG=>⟨τ',cG,h2.mono τ' _ _ (Z2i k) h⟩,fun _ h=>h,fun _ h=>h,fun _ h=>h⟩ h⟩
theorem A5.one (h1:DS X H0 st ws):A5 X H0 [st] ws:=⟨h1.mono,Q8m (Y1m h1.ps) fun D σ H h=>h⟩
def U7 (t:WT) (ws wt:WS):WS:=fun E τ=>t τ fun k=>if k=true then ws E τ else wt E τ
theorem DS.ife {sa sb:List Stmt} (hc:DT X H0 c tc) (ha:A5 X H0 sa ws) (hb:A5 X H0 sb wt):DS X H0 (.If c sa sb pos) (U7 tc ws wt) where
 mono:=fun τ E F le h=>hc.mono τ _ _ (fun k h=>Q0x (ha.mono τ E F le) (hb.mono τ E F le) h) h
 ps:=L6 (W4m hc.pt ha.ps hb.ps) fun D σ H ⟨τ,hR,h⟩=>⟨τ,hR,hc.mono τ _ _ (fun k h H1 s1 =>
  Q0x (fun h=>⟨τ,hR.mono s1,ha.mono τ _ _ (Z2i (Kp.of s1)) h⟩) (fun h=>⟨τ,hR.mono s1,hb.mono τ _ _ (Z2i (Kp.of s1)) h⟩) h) h⟩
noncomputable def Q3u:R->(R->Prop)->Prop
 | .st d,Q=>Q (.st d)
 | .nw ds,Q=>Q (.nw ds)
 | _,_=>False
theorem W5y {r:R}{P:R->Prop} (h:Q3u r P):P r:=by
 cases r <;> first | exact h | exact h.elim
theorem W5x {r:R}{P Q:R->Prop} (f:∀s,P s->Q s) (h:Q3u r P):Q3u r Q:=by
 cases r <;> first | exact f _ h | exact h
def P4 (we:WE):WS:=fun E τ=>we τ fun r=>Q3u r E.rt
theorem DS.ret (he:DE X H0 e we):DS X H0 (.Return (some e) pos) (P4 we) where
 mono:=fun τ E F le h=>he.mono τ _ _ (fun r h=>W5x le.rt h) h
 ps:=L6 (Z3h he.pe) fun D σ H ⟨τ,hR,h⟩=>⟨τ,hR,he.mono τ _ _ (fun r h v H1 s1 ir=>W5y (P:=(K0 X.K H0 H D).rt) h v H1 (hR.same.trans s1) (ir.older hR.same)) h⟩
noncomputable def Q2o:Sl->(R->Prop)->Prop
 | .dat d,Q=>Q (.st d)
 | .own ds,Q=>Q (.nw ds)
 | _,_=>False
theorem DS.retV {i:Nat} (he:PE X e (J8 i)):DS X H0 (.Return (some e) pos) (fun E τ=>∃s,τ[i]?=some (some s)/\Q2o s E.rt) where
 mono:=fun τ E F le ⟨s,h1,h2⟩=>⟨s,h1,by cases s <;> first | exact le.rt _ h2 | exact h2⟩
 ps:=L6 (Z3h he) fun D σ H ⟨τ,hR,s,h1,h2⟩=>by
  obtain⟨v,hv,q⟩:=hR.here i s h1
  refine⟨v,hv,?_⟩
  cases s with
  | dat d=>exact h2 v H hR.same q
  | own ds=>exact h2 v H hR.same q
  | bor _=>exact h2.elim
  | bd _=>exact h2.elim
  | dk _=>exact h2.elim
  | dt _=>exact h2.elim
  | ob _=>exact h2.elim
  | cl _ _=>exact h2.elim
  | ll _ _=>exact h2.elim
  | ins _ _ _=>exact h2.elim
def C5 (i:Nat) (we:WE):WS:=fun E τ=>we τ fun r=>Q0m r fun s=>E.nx (τ.set i (some s))
theorem DS.set {i:Nat}{x:Str} (he:DE X H0 e we) (hN:X.N.Nodup) (hi:X.N[i]?=some x) (hx:Loc X.env.scope x) (hs:swapsWith e (some (.Name x bj)) pos.line X.env=pure false:=by rfl)
  (hf:X.fn x=true\/X.env.scope.names.lookup x=some .local:=by first | exact .inl rfl | exact .inr rfl | assumption):DS X H0 (.Assign [.Name x bj] e pos) (C5 i we) where
 mono:=fun τ E F le h=>he.mono τ _ _ (fun r h=>Z3w (fun s h=>le.nx _ h) h) h
 ps:=L6 (Q2p hN hi hx he.pe hs hf) fun D σ H ⟨τ,hR,h⟩=>⟨τ,hR,he.mono τ _ _ (fun r h v H1 s1 ir=>by
  obtain⟨s,p,cG⟩:=hR.store (i:=i) s1 ir h
  exact p _ _ (Kp.of s1) cG) h⟩
noncomputable def L8 (t:WT) (wb:WS):Nat->WS
 | 0=>fun _ _=>False
 | n+1=>fun E τ=>t τ fun k=>if k=true then wb { E with nx:=L8 t wb n E,ct:=L8 t wb n E,bk:=E.nx } τ else E.nx τ
def Z0c (t:WT) (wb:WS):WS:=fun E τ=>∃n,L8 t wb n E τ
theorem Z5m (ht:∀(τ:A6) (P Q:Bool->Prop),(∀r,P r->Q r)->tc τ P->tc τ Q) (hb:∀(τ:A6) (E F:E7),E.Le F->ws E τ->ws F τ) :
  ∀(n:Nat) (τ:A6) (E F:E7),E.Le F->L8 tc ws n E τ->L8 tc ws n F τ
 | 0,_,_,_,_,h=>h
 | n+1,τ,E,F,le,h=>ht τ _ _ (fun k h=>Q0x (hb τ { E with nx:=L8 tc ws n E,ct:=L8 tc ws n E,bk:=E.nx } { F with nx:=L8 tc ws n F,ct:=L8 tc ws n F,bk:=F.nx } ⟨fun τ h=>Z5m ht hb n τ E F le h,le.rt,le.nx,fun τ h=>Z5m ht hb n τ E F le h⟩) (le.nx τ) h) h
theorem DS.whl {body:List Stmt} (hp:PassesOwn (model X.prog X.w) X.A X.env X.xe) (hc:DT X H0 c tc) (hb:A5 X H0 body ws):DS X H0 (.While c body [] pos) (Z0c tc ws) where
 mono:=fun τ E F le ⟨n,h⟩=>⟨n,Z5m hc.mono hb.mono n τ E F le h⟩
 ps:=L6 (W4n hp hc.pt hb.ps) fun D σ H0' ⟨τ,hR,n,h⟩=>by
  refine⟨fun m σ H=>∃ τ,B6 X.K H0 τ σ H/\Kp H0' H/\L8 tc ws m (K0 X.K H0 H0' D) τ,⟨n,τ,hR,Kp.refl _,h⟩,?_⟩
  rintro m σ H ⟨τ,hR,kp,h⟩
  cases m with
  | zero=>exact h.elim
  | succ m =>
   refine⟨τ,hR,hc.mono τ _ _ (fun k h H1 s1=>Q0x (fun h=>?_) (fun h=>h σ H1 (kp.trans (Kp.of s1)) (hR.mono s1)) h) h⟩
   refine⟨fun σ' H'=>∃ τ,B6 X.K H0 τ σ' H'/\Kp H0' H'/\L8 tc ws m (K0 X.K H0 H0' D) τ,fun σ' H' h'=>⟨m,cf m,h'⟩,τ,hR.mono s1,?_⟩
   have k1:=kp.trans (Kp.of s1)
   exact hb.mono τ { K0 X.K H0 H0' D with nx:=L8 tc ws m (K0 X.K H0 H0' D),ct:=L8 tc ws m (K0 X.K H0 H0' D),bk:=(K0 X.K H0 H0' D).nx } _
    ⟨fun τ' h' σ' H' k cG=>⟨τ',cG,k1.trans k,h'⟩,fun _ h=>h,fun τ' h' σ' H' k cG=>h' σ' H' (k1.trans k) cG,fun τ' h' σ' H' k cG=>⟨τ',cG,k1.trans k,h'⟩⟩ h
end
noncomputable abbrev C7:=List R->R->Prop
noncomputable def M7:R->Bool
 | .st _=>true
 | .nw _=>true
 | .bw _=>true
 | .ob _=>true
 | .cl _ _=>true
 | _=>false
noncomputable def nrm:R->R
 | .nw ds=>.bw ds
 | r=>r
noncomputable def Q3o (K:Fg9) (n:Nat) (sp:C7):Sp:=fun vs H Q _=>∃(rs:List R) (r:R),rs.length=n/\L3 K (fun _=>none) H rs vs/\rs.all M7=true/\sp (rs.map nrm) r/\∀v H',A3 H H'->E1 K H H' r v->Q v H'
noncomputable def N3:R->Sl
 | .st d=>.dat d
 | .nw ds=>.bor ds
 | .bw ds=>.bor ds
 | .dk k=>.dk k
 | .dt k=>.dt k
 | .ob a=>.ob a
 | .cl a Φ=>.cl a Φ
 | .ms a C _ fs=>.ins a C fs
noncomputable def G4 (N:List Str) (rs:List R):A6:=rs.map (fun r=>some (N3 r))++List.replicate (N.length-rs.length) none
theorem L3.length {K:Fg9}{H0 H:Hp}:∀{rs:List R}{vs:List V},L3 K H0 H rs vs->rs.length=vs.length
 | [],_,h=>by cases h;rfl
 | r::rs,_,h=>by obtain⟨v,t,rfl,_,z⟩:=h;rw [ax,ax,L3.length z]
theorem L3.get {K:Fg9}{H0 H:Hp}:∀{rs:List R}{vs:List V}{i:Nat}{r:R},L3 K H0 H rs vs->rs[i]?=some r->∃v,vs[i]?=some v/\E1 K H0 H r v
 | [],_,_,_,_,e=>by simp at e
 | r::rs,_,0,r',h,e=>by obtain⟨v,t,rfl,q,z⟩:=h;simp at e;subst e;exact⟨v,rfl,q⟩
 | r::rs,_,i+1,r',h,e=>by
  obtain⟨v,t,rfl,q,z⟩:=h
  obtain⟨u,h1,h2⟩:=L3.get (i:=i) z (by simpa using e)
  exact⟨u,by simpa using h1,h2⟩
theorem L3.v {K:Fg9}{H0 H:Hp}:∀{rs:List R}{vs:List V},L3 K H0 H rs vs->L3 K (fun _=>none) H rs vs
 | [],_,h=>h
 | r::rs,_,h=>by obtain⟨v,t,e,q,z⟩:=h;exact⟨v,t,e,q.v,L3.v z⟩
theorem W8e (r:R):N3 (nrm r)=N3 r:=by cases r <;> rfl
theorem Y4g (N:List Str) (rs:List R):G4 N (rs.map nrm)=G4 N rs:=by
 unfold G4
 rw [aO,ah]
 congr 1
 exact bc fun r _=>congrArg some (W8e r)
theorem M5.arg {K:Fg9}{H:Hp}:∀{r:R}{v:V},M7 r=true->IsV K H r v->M5 K H H (N3 r) v
 | .st d,v,_,h=>h
 | .nw ds,v,_,h=>by obtain⟨a,xs,e,_,q,t⟩:=h;exact⟨a,xs,e,q,t⟩
 | .bw ds,v,_,h=>h
 | .dk _,_,h,_=>by cases h
 | .dt _,_,h,_=>by cases h
 | .ob a,v,_,h=>h
 | .cl _ _,v,_,h=>h
 | .ms _ _ _ _,_,h,_=>by cases h
theorem W8d:∀{r:R},M7 r=true->(N3 r).mut=false
 | .st d,_=>rfl
 | .nw ds,_=>rfl
 | .bw ds,_=>rfl
 | .dk _,h=>by cases h
 | .dt _,h=>by cases h
 | .ob _,_=>rfl
 | .cl _ _,_=>rfl
 | .ms _ _ _ _,h=>by cases h
theorem Y1y {K:Fg9}{H:Hp}{N:List Str}{rs:List R}{vs:List V} (al:L3 K (fun _=>none) H rs vs) (ok:rs.all M7=true):B6 K H (G4 N rs) (L2.start N vs) H:=by
 have hl:=al.length
 have at_:∀(i:Nat) (s:Sl),(G4 N rs)[i]?=some (some s)->∃r,rs[i]?=some r/\s=N3 r:=fun i s e=>by
  unfold G4 at e
  by_cases hi:i<rs.length
  ·rw [aI (by rw [ah];exact hi),ak,af hi]at e
   exact⟨rs[i],af hi,(aC (aC e)).symm⟩
  ·rw [aQ (by rw [ah];omega)]at e
   have:=aE e
   rw [List.mem_replicate]at this
   cases this.2
 have mU:∀(i:Nat) (r:R),rs[i]?=some r->M7 r=true:=fun i r e=>bU.mp ok r (aE e)
 refine⟨?_,A3.refl H,fun i s e=>?_,fun i j s t v _ e1 _ m _ _ _=>?_⟩
 ·unfold G4 L2.start
  rw [aD,aD,ah,ah,aV,aV,hl]
 ·obtain⟨r,hr,rfl⟩:=at_ i s e
  obtain⟨v,hv,q⟩:=al.get hr
  refine⟨v,?_,M5.arg (mU i r hr) q⟩
  unfold L2.start
  have hi:i<vs.length:=by
   rcases bA i vs.length with h | h
   ·exact h
   ·rw [aM.mpr h]at hv;cases hv
  rw [aI (by rw [ah];exact hi),ak,hv]
  rfl
 ·obtain⟨r,hr,rfl⟩:=at_ i s e1
  rw [W8d (mU i r hr)]at m;cases m
section
variable {P:Program}{w:World}{K:Fg9}{mg:Str->Option Value}{base:Heap}
theorem Fun.okD {x qual:Str}{st:Stmt}{f:Addr}{fd:FuncData}{N ps:List Str}{k:Nat}{sp:C7} (F:Fun K x qual st f fd) (S:K5 N ps (C2 st))
  (cq:∀(cdv:Value) (A:Around) (outer:List Env) (s:Shared) (H:Hp) (E:XK),D5 k (A.deeper (envOfC qual (C2 st) s.heap.objs.size f cdv)) ->
   ∃ws,A5 (Z9 L9 P w K mg base N qual (C2 st) f cdv A outer s H E).nox H (S0 st) ws /\
    ∀rs r,rs.length=ps.length->sp rs r->ws { nx:=fun _=>r=.st .non,rt:=fun r'=>r'=r,bk:=fun _=>False,ct:=fun _=>False } (G4 N rs)) :
  O5 P w K mg base L9 (k+1) f fd ps (Q3o K ps.length sp):=by
 refine F.ok S (fun vs H Q E h=>?_) (fun cdv A outer s H vs Q E hr h=>?_)
 ·obtain⟨rs,r,hl,al,_⟩:=h
  rw [<- al.length];exact hl
 obtain⟨rs,r,hl,al,ok,h1,h2⟩:=h
 obtain⟨ws,hd,hw⟩:=cq cdv A outer s H E hr
 refine⟨_,hd.ps,G4 N rs,Y1y al ok,?_⟩
 have hw:=hw (rs.map nrm) r (by rw [ah];exact hl) h1
 rw [Y4g]at hw
 refine hd.mono _ _ _ ⟨fun τ h σ H' _ hR=>?_,fun r' h v H' sm ir=>?_,fun _ h=>False.elim h,fun _ h=>False.elim h⟩ hw
 ·have h:r=.st .non:=h
  subst h
  exact h2 .non H' hR.same (A1.s_non (K:=K) (H:=H'))
 ·have h:r'=r:=h
  subst h
  exact h2 v H' sm ir
end
section
variable {X:Cx}{H0:Hp}{e:Expr}{es:List Expr}{wr:WA}{k:Nat}{f:Addr}{fd:FuncData}{ps:List Str}{sp:C7}{x:Str}{p pos:Pos}
def N4 (sp:C7) (wr:WA):WE:=fun τ Q=>wr τ fun rs=>rs.all M7=true/\∃r,sp (rs.map nrm) r/\Q r
theorem DE.call (F:O5 X.prog X.w X.K X.mg X.base L9 k f fd ps (Q3o X.K (e::es).length sp)) (hr:D5 k X.A) (hg:Gl X x) (hm:X.mg x=some (.ref f)) (hk:PySem.W.keepIn X.K (.ref f)=true) (hb:V6 X.K fd ps [])
  (ha:DA X H0 (e::es) wr) (dC:(x==("__debug__":Str))=false:=by decide) (he:starEach (e::es) X.env=(false,eval e X.env)::starEach es X.env:=by rfl) (hpl:(backTo pos (starEach es X.env)).any (·.1)=false:=by rfl) :
  DE X H0 (.Call (.Name x p) (e::es) [] pos) (N4 sp wr) where
 mono:=fun τ P Q f h=>ha.mono τ _ _ (fun rs ⟨ok,r,h1,h2⟩=>⟨ok,r,h1,f r h2⟩) h
 pe:=L5 (Y1d F hr hg hm hk hb .nil Q8k ha.pa dC he hpl) fun σ H Q ⟨τ,hR,h⟩=>⟨τ,hR,ha.mono τ _ _ (fun rs ⟨jO,ok,r,h1,h2⟩ vs H1 s1 cw=>by
  refine⟨rs,r,jO,?_,ok,h1,fun v H' s2 ir=>h2 v H' (s1.trans s2) (ir.older s1)⟩
  rw [bD]
  exact cw.v) (ha.len τ _ h)⟩
end
mutual
noncomputable def D.eq:D->D->Bool
 | .non,.non=>true
 | .bl a,.bl b=>a==b
 | .bl a,.int b=>(if a then(1:Int)else 0)==b
 | .int a,.bl b=>a==(if b then(1:Int)else 0)
 | .int a,.int b=>a==b
 | .str a,.str b=>a==b
 | .tup a,.tup b=>D.eqs a b
 | .lst a,.lst b=>D.eqs a b
 | _,_=>false
noncomputable def D.eqs:List D->List D->Bool
 | [],[]=>true
 | x::xs,y::ys=>D.eq x y&&D.eqs xs ys
 | _,_=>false
end
mutual
noncomputable def D.depth:D->Nat
 | .tup a=>D.depths a+1
 | .lst a=>D.depths a+1
 | _=>0
noncomputable def D.depths:List D->Nat
 | []=>0
 | x::xs=>max (D.depth x) (D.depths xs)
end
theorem D.depths_get:∀{ds:List D}{i:Nat}{d:D},ds[i]?=some d->d.depth<=D.depths ds
 | [],_,_,h=>by simp at h
 | x::xs,0,d,h=>by simp at h;subst h;unfold D.depths;omega
 | x::xs,i+1,d,h=>by
  have:=D.depths_get (ds:=xs) (i:=i) (d:=d) (by simpa using h)
  unfold D.depths;omega
mutual
theorem D.eq_refl:∀d:D,D.eq d d=true
 | .non=>by unfold D.eq;rfl
 | .bl a=>by unfold D.eq;simp
 | .int a=>by unfold D.eq;simp
 | .str a=>by unfold D.eq;simp
 | .tup a=>by unfold D.eq;exact D.eqs_refl a
 | .lst a=>by unfold D.eq;exact D.eqs_refl a
theorem D.eqs_refl:∀ds:List D,D.eqs ds ds=true
 | []=>by unfold D.eqs;rfl
 | x::xs=>by unfold D.eqs;rw [D.eq_refl x,D.eqs_refl xs];rfl
end
theorem D.eqs_range:∀(a b:List D),D.eqs a b=((List.range (min a.length b.length)).all (fun i=>match a[i]?,b[i]? with | some x,some y=>D.eq x y | _,_=>true)&&a.length==b.length)
 | [],[]=>by unfold D.eqs;simp
 | [],y::ys=>by unfold D.eqs;simp
 | x::xs,[]=>by unfold D.eqs;simp
 | x::xs,y::ys=>by
  unfold D.eqs
  rw [D.eqs_range xs ys]
  have e:min (x::xs).length (y::ys).length=min xs.length ys.length+1:=by simp [Nat.succ_min_succ]
  rw [e,List.range_succ_eq_map,List.all_cons,List.all_map]
  simp only [ax,List.getElem?_cons_zero,Function.comp_def,List.getElem?_cons_succ]
  rw [Bool.and_assoc]
  congr 2
  simp
def IsW (K:Fg9) (H:Hp) (d:D) (v:V):Prop:=match d with
 | .lst ds=>∃a xs,v=.ref a/\D6 K H a xs/\AllS K H ds xs
 | d=>A1 K H d v
theorem A1.w {K:Fg9}{H:Hp}:∀{d:D}{v:V},A1 K H d v->IsW K H d v
 | .non,_,h=>h
 | .bl _,_,h=>h
 | .int _,_,h=>h
 | .str _,_,h=>h
 | .tup _,_,h=>h
 | .lst _,_,h=>by unfold A1 at h;obtain⟨a,xs,e,q,t⟩:=h;exact⟨a,xs,e,q.sq,t⟩
noncomputable def R.d:R->Option D
 | .st d=>some d
 | .nw ds=>some (.lst ds)
 | .bw ds=>some (.lst ds)
 | _=>none
theorem E1.w {K:Fg9}{H0 H:Hp}:∀{r:R}{v:V}{d:D},r.d=some d->E1 K H0 H r v->IsW K H d v
 | .st d,v,_,e,h=>by cases e;exact A1.w h
 | .nw ds,v,_,e,h=>by cases e;obtain⟨a,xs,e,n,q,t⟩:=h;exact⟨a,xs,e,D6.of q,t⟩
 | .bw ds,v,_,e,h=>by cases e;obtain⟨a,xs,e,q,t⟩:=h;exact⟨a,xs,e,D6.of q,t⟩
 | .dk _,_,_,e,_=>by cases e
 | .dt _,_,_,e,_=>by cases e
 | .ob _,_,_,e,_=>by cases e
 | .cl _ _,_,_,e,_=>by cases e
 | .ms _ _ _ _,_,_,e,_=>by cases e
theorem Y4u {X:Cx}{ac:Pn9} {σ:St}{H:Hp}{s:Shared} (I:A0 X ac σ H s) {a:Addr}{xs ys:List V} (h1:C4 X.K H a xs) (h2:D6 X.K H a ys):False:=by
 obtain⟨_,_,⟨o,e,c,_⟩,_⟩:=I.tuple h1
 obtain⟨_,_,⟨o',n,e',c',_⟩,_⟩:=I.list h2
 rw [e]at e';cases e'
 rw [c]at c';exact absurd c' (by simp)
section
variable {X:Cx}{ac:Pn9} {σ:St}{H:Hp}{s:Shared}
mutual
theorem A1.inj (I:A0 X ac σ H s):∀(d e:D) (v:V),A1 X.K H d v->A1 X.K H e v->d=e
 | .non,e,v,h1,h2=>by
  cases e <;> unfold A1 at h1 h2 <;> first | rfl | (obtain⟨_,_,z,_⟩:=h2;rw [h1]at z;cases z;done) | (rw [h1]at h2;cases h2;done) | (rw [h1]at h2;cases h2;rfl)
 | .bl p,e,v,h1,h2=>by
  cases e <;> unfold A1 at h1 h2 <;> first | rfl | (obtain⟨_,_,z,_⟩:=h2;rw [h1]at z;cases z;done) | (rw [h1]at h2;cases h2;done) | (rw [h1]at h2;cases h2;rfl)
 | .int p,e,v,h1,h2=>by
  cases e <;> unfold A1 at h1 h2 <;> first | rfl | (obtain⟨_,_,z,_⟩:=h2;rw [h1]at z;cases z;done) | (rw [h1]at h2;cases h2;done) | (rw [h1]at h2;cases h2;rfl)
 | .str p,e,v,h1,h2=>by
  cases e <;> unfold A1 at h1 h2 <;> first | rfl | (obtain⟨_,_,z,_⟩:=h2;rw [h1]at z;cases z;done) | (rw [h1]at h2;cases h2;done) | (rw [h1]at h2;cases h2;rfl)
 | .tup p,.non,v,h1,h2=>by unfold A1 at h1 h2;obtain⟨_,_,e,_⟩:=h1;rw [h2]at e;cases e
 | .tup p,.bl q,v,h1,h2=>by unfold A1 at h1 h2;obtain⟨_,_,e,_⟩:=h1;rw [h2]at e;cases e
 | .tup p,.int q,v,h1,h2=>by unfold A1 at h1 h2;obtain⟨_,_,e,_⟩:=h1;rw [h2]at e;cases e
 | .tup p,.str q,v,h1,h2=>by unfold A1 at h1 h2;obtain⟨_,_,e,_⟩:=h1;rw [h2]at e;cases e
 | .lst p,.non,v,h1,h2=>by unfold A1 at h1 h2;obtain⟨_,_,e,_⟩:=h1;rw [h2]at e;cases e
 | .lst p,.bl q,v,h1,h2=>by unfold A1 at h1 h2;obtain⟨_,_,e,_⟩:=h1;rw [h2]at e;cases e
 | .lst p,.int q,v,h1,h2=>by unfold A1 at h1 h2;obtain⟨_,_,e,_⟩:=h1;rw [h2]at e;cases e
 | .lst p,.str q,v,h1,h2=>by unfold A1 at h1 h2;obtain⟨_,_,e,_⟩:=h1;rw [h2]at e;cases e
 | .tup p,.tup q,v,h1,h2=>by unfold A1 at h1 h2;obtain⟨x,xs,e1,q1,r1⟩:=h1;obtain⟨y,ys,e2,q2,r2⟩:=h2;rw [e1]at e2;cases e2;have e:=I.tuple_inj (C4.of q1) (C4.of q2);subst e;rw [AllS.inj I p q xs r1 r2]
 | .tup p,.lst q,v,h1,h2=>by unfold A1 at h1 h2;obtain⟨x,xs,e1,q1,r1⟩:=h1;obtain⟨y,ys,e2,q2,r2⟩:=h2;rw [e1]at e2;cases e2;exact absurd (Y4u I (C4.of q1) q2.sq) id
 | .lst p,.tup q,v,h1,h2=>by unfold A1 at h1 h2;obtain⟨x,xs,e1,q1,r1⟩:=h2;obtain⟨y,ys,e2,q2,r2⟩:=h1;rw [e1]at e2;cases e2;exact absurd (Y4u I (C4.of q1) q2.sq) id
 | .lst p,.lst q,v,h1,h2=>by unfold A1 at h1 h2;obtain⟨x,xs,e1,q1,r1⟩:=h1;obtain⟨y,ys,e2,q2,r2⟩:=h2;rw [e1]at e2;cases e2;have e:=I.list_inj q1.sq q2.sq;subst e;rw [AllS.inj I p q xs r1 r2]
theorem AllS.inj (I:A0 X ac σ H s):∀(ds es:List D) (vs:List V),AllS X.K H ds vs->AllS X.K H es vs->ds=es
 | [],[],_,_,_=>rfl
 | [],y::ys,vs,h1,h2=>by unfold AllS at h1 h2;obtain⟨_,_,e,_⟩:=h2;rw [h1]at e;cases e
 | x::xs,[],vs,h1,h2=>by unfold AllS at h1 h2;obtain⟨_,_,e,_⟩:=h1;rw [h2]at e;cases e
 | x::xs,y::ys,vs,h1,h2=>by
  unfold AllS at h1 h2
  obtain⟨v,r,e1,q1,t1⟩:=h1
  obtain⟨v',r',e2,q2,t2⟩:=h2
  rw [e1]at e2;cases e2
  rw [A1.inj I x y v q1 q2,AllS.inj I xs ys r t1 t2]
end
end
section
variable {X:Cx}{ac:Pn9} {σ:St}{H:Hp}{s:Shared}
open PySem.SeqAt
theorem Q1h {ds:List D}{xs:List V}{aU:List Value} (al:AllS X.K H ds xs) (rv:B4 xs aU) {j:Nat} (h:j<aU.toArray.size):∃d v,ds[j]?=some d/\A1 X.K H d v/\B9 v aU.toArray[j]:=by
 have hl:=al.length
 have hr:=rv.length
 have hj:j<aU.length:=by simpa using h
 have gt:j<ds.length:=by omega
 obtain⟨v,hv,q⟩:=al.get (af gt)
 obtain⟨u,hu,r⟩:=rv.get hv
 have e:u=aU.toArray[j]:=by
  rw [af hj]at hu
  simpa using (aC hu).symm
 exact⟨ds[j],v,af gt,q,e ▸ r⟩
theorem Q5h (I:A0 X ac σ H s) {d1 d2:D}{v1 v2:V}{u1 u2:Value}{n:Nat} (h:∀A:Around,A.units+n<cLine->RcAt A s u1 u2 (D.eq d1 d2)) (i1:A1 X.K H d1 v1) (i2:A1 X.K H d2 v2) (r1:B9 v1 u1) (r2:B9 v2 u2) {A:Around} (hu:A.units+n<cLine):EqAt A s u1 u2 (D.eq d1 d2):=by
 have hA:=h A hu
 by_cases e:u1=u2
 ·subst e
  have ev:=r1.inj r2
  subst ev
  rw [A1.inj I d1 d2 v1 i1 i2,D.eq_refl]
  exact EqAt.same _
 ·intro prog w E Q hq
  unfold eqBool
  refine bz ?_
  refine wpAny_ite_split (fun qM=>absurd (eq_of_beq qM) e) (fun _=>?_)
  have fin:wpAny (model prog w) A (richCompare .Eq u1 u2>>=truthOfDropped) Q E s:=aa (hA prog w E _ (wpAny_truthy_bool hq))
  cases v1 with
  | non=>cases r1;exact fin
  | bl _=>cases r1;exact fin
  | int _=>obtain⟨t,rfl⟩:=r1;exact fin
  | str _=>obtain⟨t,rfl⟩:=r1;exact fin
  | byt _=>obtain⟨t,rfl⟩:=r1;exact fin
  | ref _=>cases r1;exact fin
  | ty _=>cases r1;exact fin
  | flt b=>cases d1 <;> first | (cases (show V.flt b=_ from i1)) | (unfold A1 at i1;obtain⟨_,_,z,_⟩:=i1;cases z)
inductive Vw (X:Cx) (H:Hp) (s:Shared):D->Value->Prop
 | non:Vw X H s .non .none
 | bl (b:Bool):Vw X H s (.bl b) (.bool b)
 | int (i:Int) (t:Tok):Vw X H s (.int i) (.int i t)
 | str (x:Str) (t:Tok):Vw X H s (.str x) (.str x t)
 | tup {ds:List D}{a:Addr}{xs:List V}{aU:List Value} (al:AllS X.K H ds xs) (rv:B4 xs aU) (pl:s.heap.IsTuple a aU.toArray):Vw X H s (.tup ds) (.ref a)
 | lst {ds:List D}{a:Addr}{xs:List V}{aU:List Value} (al:AllS X.K H ds xs) (rv:B4 xs aU) (pl:s.heap.IsList a aU.toArray):Vw X H s (.lst ds) (.ref a)
theorem Q4k (I:A0 X ac σ H s) {d:D}{v:V}{u:Value} (h:IsW X.K H d v) (r:B9 v u):Vw X H s d u:=by
 cases d with
 | non=>cases (show v=.non from h);cases r;exact .non
 | bl b=>cases (show v=.bl b from h);cases r;exact .bl b
 | int i=>cases (show v=.int i from h);obtain⟨t,rfl⟩:=r;exact .int i t
 | str x=>cases (show v=.str x from h);obtain⟨t,rfl⟩:=r;exact .str x t
 | tup ds=>have h:A1 X.K H (.tup ds) v:=h;unfold A1 at h;obtain⟨a,xs,rfl,sq,al⟩:=h;cases r;obtain⟨aU,rv,pl,_⟩:=I.tuple (C4.of sq);exact .tup al rv pl
 | lst ds=>obtain⟨a,xs,rfl,sq,al⟩:=h;cases r;obtain⟨aU,rv,pl,_⟩:=I.list sq;exact .lst al rv pl.isList
def Q2b (d e:D):Prop:=(∃p q,d=.tup p/\e=.tup q)\/∃p q,d=.lst p/\e=.lst q
theorem Y1t {d1 d2:D}{u1 u2:Value}{A:Around} (h1:Vw X H s d1 u1) (h2:Vw X H s d2 u2) (hu:A.units<cLine) (hb:¬ Q2b d1 d2):RcAt A s u1 u2 (D.eq d1 d2):=by
 cases h1 <;> cases h2 <;> first | exact absurd (.inl ⟨_,_,rfl,rfl⟩) hb | exact absurd (.inr ⟨_,_,rfl,rfl⟩) hb | (unfold D.eq;(try simp only [Bool.not_true,Bool.not_false]);(with_reducible first | exact RcAt.none_none | exact RcAt.none_bool _ | exact RcAt.none_int _ _ | exact RcAt.none_str _ _ | exact RcAt.none_tuple (by assumption) hu | exact RcAt.none_list (by assumption) hu | exact RcAt.bool_none _ | exact RcAt.bool_bool _ _ | exact RcAt.bool_int _ _ _ | exact RcAt.bool_str _ _ _ | exact RcAt.bool_tuple _ (by assumption) hu | exact RcAt.bool_list _ (by assumption) hu | exact RcAt.int_none _ _ | exact RcAt.int_bool _ _ _ | exact RcAt.int_int _ _ _ _ | exact RcAt.int_str _ _ _ _ | exact RcAt.int_tuple _ _ (by assumption) hu | exact RcAt.int_list _ _ (by assumption) hu | exact RcAt.str_none _ _ | exact RcAt.str_bool _ _ _ | exact RcAt.str_int _ _ _ _ | exact RcAt.str_str _ _ _ _ | exact RcAt.str_tuple _ _ (by assumption) hu | exact RcAt.str_list _ _ (by assumption) hu | exact RcAt.tuple_none (by assumption) hu | exact RcAt.tuple_bool _ (by assumption) hu | exact RcAt.tuple_int _ _ (by assumption) hu | exact RcAt.tuple_str _ _ (by assumption) hu | exact RcAt.tuple_list (by assumption) (by assumption) hu | exact RcAt.list_none (by assumption) hu | exact RcAt.list_bool _ (by assumption) hu | exact RcAt.list_int _ _ (by assumption) hu | exact RcAt.list_str _ _ (by assumption) hu | exact RcAt.list_tuple (by assumption) (by assumption) hu))
theorem Q8n (I:A0 X ac σ H s):∀(n:Nat) (d1 d2:D) (v1 v2:V) (u1 u2:Value) (A:Around),d1.depth<=n->IsW X.K H d1 v1->IsW X.K H d2 v2->B9 v1 u1->B9 v2 u2->A.units+n<cLine->RcAt A s u1 u2 (D.eq d1 d2):=by
 intro n
 induction n with
 | zero =>
  intro d1 d2 v1 v2 u1 u2 A hd h1 h2 r1 r2 hu
  refine Y1t (Q4k I h1 r1) (Q4k I h2 r2) (by omega) ?_
  rintro (⟨p,q,rfl,rfl⟩ | ⟨p,q,rfl,rfl⟩) <;> unfold D.depth at hd <;> omega
 | succ n ih =>
  intro d1 d2 v1 v2 u1 u2 A hd h1 h2 r1 r2 hu
  have w1:=Q4k I h1 r1
  have w2:=Q4k I h2 r2
  by_cases hb:Q2b d1 d2
  ·obtain⟨p,q,rfl,rfl⟩ | ⟨p,q,rfl,rfl⟩:=hb
   ·cases w1;cases w2
    rename_i a1 fN eQ fR gI eY a2 gg bZ dN dZ cO
    have hd:D.depths p+1<=n+1:=by unfold D.depth at hd;exact hd
    have l1:eQ.toArray.size=p.length:=by have:=eY.length;have:=fR.length;simp;omega
    have l2:bZ.toArray.size=q.length:=by have:=cO.length;have:=dN.length;simp;omega
    have k:=RcAt.tuples (A:=A) (s:=s) (e:=fun i=>match p[i]?,q[i]? with | some x,some y=>D.eq x y | _,_=>true) gI dZ (by omega) (fun j j3 gt=>by
     obtain⟨d1,v1,e1,i1,w1⟩:=Q1h eY fR j3
     obtain⟨d2,v2,e2,i2,w2⟩:=Q1h cO dN gt
     simp only [e1,e2]
     exact Q5h I (fun A=>ih d1 d2 v1 v2 _ _ A (by have:=D.depths_get e1;omega) i1.w i2.w w1 w2) i1 i2 w1 w2 (by simp only [bQ];omega))
    rw [l1,l2]at k
    unfold D.eq;rw [D.eqs_range];exact k
   ·cases w1;cases w2
    rename_i a1 fN eQ fR gI eY a2 gg bZ dN dZ cO
    have hd:D.depths p+1<=n+1:=by unfold D.depth at hd;exact hd
    have l1:eQ.toArray.size=p.length:=by have:=eY.length;have:=fR.length;simp;omega
    have l2:bZ.toArray.size=q.length:=by have:=cO.length;have:=dN.length;simp;omega
    have kk:RcAt A s (.ref a1) (.ref a2) (D.eqs p q):=by
     rw [D.eqs_range]
     by_cases bI:p.length=q.length
     ·have k:=RcAt.lists (A:=A) (s:=s) (e:=fun i=>match p[i]?,q[i]? with | some x,some y=>D.eq x y | _,_=>true) gI dZ (by omega) (by omega) (fun j j3 gt=>by
       obtain⟨d1,v1,e1,i1,w1⟩:=Q1h eY fR j3
       obtain⟨d2,v2,e2,i2,w2⟩:=Q1h cO dN gt
       simp only [e1,e2]
       exact Q5h I (fun A=>ih d1 d2 v1 v2 _ _ A (by have:=D.depths_get e1;omega) i1.w i2.w w1 w2) i1 i2 w1 w2 (by simp only [bQ];omega))
      rw [l1]at k
      rw [<- bI,Nat.min_self,beq_self_eq_true,Bool.and_true]
      exact k
     ·rw [bL.mpr bI,Bool.and_false]
      exact RcAt.lists_lengths gI dZ (by rw [l1,l2];simpa using bI) (by omega)
    unfold D.eq;exact kk
  ·exact Y1t w1 w2 (by omega) hb
end
end TK
end
section
namespace HT
open PySem PyProof.Rows
section
variable {prog:Program}{w:World}{A:Around}{E:VS9}{s:Shared}
theorem cat_tup0 {t b:Addr}{vs ws:List Value}{Q:VS9} (ht:IsTup s.heap t vs.toArray) (hb:IsTup s.heap b ws.toArray) (hv:vs=[]) (h1:Q (.ref b) s):wpAny (model prog w) A (binaryOp .Add (.ref t) (.ref b)) Q E s:=by
 obtain⟨⟨cls,dd,data,sl⟩,ho,hc,n,hd⟩:=id ht
 obtain⟨⟨km,jp,data2,jh⟩,fF,iw,n2,ip⟩:=id hb
 simp only at hc hd iw ip
 subst hc hd iw ip
 exact concat_meets ⟨_,ho,rfl⟩ ⟨_,fF,rfl⟩ noFill_tuple_add seq_tuple_add PySem.F.slot_tuple_add PySem.F.entry_tuple_add (PySem.F.args_tuple_add_2 _ _)
  (tuple_addW0 t b vs.toArray ws.toArray n n2 dd jp sl jh (by simp [hv])) ⟨ho,fF,h1⟩
end
end HT
namespace TK
open PySem PySem.Spec PyProof.Rows L2
section
variable {X:Cx}
noncomputable def N8 (C:Int->Int->Prop) (f:Int->Int->Int):R->R->(R->Prop)->Prop
 | .st (.int i),.st (.int j),Q=>C i j/\Q (.st (.int (f i j)))
 | _,_,_=>False
theorem Z1x {C:Int->Int->Prop}{f:Int->Int->Int}{x y:R}{Q:R->Prop} (h:N8 C f x y Q):∃i j,x=.st (.int i)/\y=.st (.int j)/\C i j/\Q (.st (.int (f i j))):=by
 unfold N8 at h
 split at h
 ·exact⟨_,_,rfl,rfl,h.1,h.2⟩
 ·exact h.elim
theorem X4 {C:Int->Int->Prop}{f:Int->Int->Int}:V0 (N8 C f):=fun x y P Q g h=>by
 obtain⟨i,j,rfl,rfl,c,q⟩:=Z1x h
 exact⟨c,g _ q⟩
theorem OpD.ints {F:Value->Value->Sem Value}{C:Int->Int->Prop}{f:Int->Int->Int} (h:N7 X F (rI C fun i j=>.int (f i j))):OpD X F (N8 C f):=by
 intro ac s σ H x y v u Q I rx ry ⟨r1,r2,h1,h2,hg⟩
 obtain⟨i,j,rfl,rfl,c,q⟩:=Z1x hg
 exact h ac s σ H x y v u Q I rx ry ⟨i,j,h1,h2,c,q _ _ (A3.refl H) V9⟩
theorem OpD.ints0 {F:Value->Value->Sem Value}{f:Int->Int->Int} (h:N7 X F (rI0 fun i j=>.int (f i j))):OpD X F (N8 (fun _ _=>True) f):=by
 intro ac s σ H x y v u Q I rx ry ⟨r1,r2,h1,h2,hg⟩
 obtain⟨i,j,rfl,rfl,c,q⟩:=Z1x hg
 exact h ac s σ H x y v u Q I rx ry ⟨i,j,h1,h2,q _ _ (A3.refl H) V9⟩
noncomputable abbrev NoC:Int->Int->Prop:=fun _ _=>True
theorem W2l:OpD X (binaryOp .Sub) (N8 NoC fun i j=>i-j):=OpD.ints0 W2z
theorem Q8j:OpD X (binaryOp .FloorDiv) (N8 Z5 fun i j=>i / j):=OpD.ints W2t
theorem Q3s:OpD X (binaryOp .Mod) (N8 (fun _ j=>0<j) fun i j=>i % j):=OpD.ints W2w
noncomputable def lsM:R->Option (List D)
 | .nw ds=>some ds
 | .bw ds=>some ds
 | _=>none
noncomputable def S4:R->Option (List D)
 | .nw ds=>some ds
 | .bw ds=>some ds
 | .st (.lst ds)=>some ds
 | _=>none
theorem Z9o {K:Fg9}{H0 H:Hp}:∀{r:R}{ds:List D}{v:V},lsM r=some ds->E1 K H0 H r v->∃a xs,v=.ref a/\H a=some (.lst xs)/\AllS K H ds xs
 | .nw ds,_,v,e,h=>by cases e;obtain⟨a,xs,e,n,q,t⟩:=h;exact⟨a,xs,e,q,t⟩
 | .bw ds,_,v,e,h=>by cases e;obtain⟨a,xs,e,q,t⟩:=h;exact⟨a,xs,e,q,t⟩
 | .st _,_,_,e,_=>by cases e
 | .dk _,_,_,e,_=>by cases e
 | .dt _,_,_,e,_=>by cases e
 | .ob _,_,_,e,_=>by cases e
 | .cl _ _,_,_,e,_=>by cases e
 | .ms _ _ _ _,_,_,e,_=>by cases e
theorem Q2k {K:Fg9}{H0 H:Hp}:∀{r:R}{ds:List D}{v:V},S4 r=some ds->E1 K H0 H r v->∃a xs,v=.ref a/\D6 K H a xs/\AllS K H ds xs
 | .nw ds,_,v,e,h=>by cases e;obtain⟨a,xs,e,n,q,t⟩:=h;exact⟨a,xs,e,D6.of q,t⟩
 | .bw ds,_,v,e,h=>by cases e;obtain⟨a,xs,e,q,t⟩:=h;exact⟨a,xs,e,D6.of q,t⟩
 | .st (.lst ds),_,v,e,h=>by cases e;have h:A1 K H (.lst ds) v:=h;unfold A1 at h;obtain⟨a,xs,e,q,t⟩:=h;exact⟨a,xs,e,q.sq,t⟩
 | .st .non,_,_,e,_=>by cases e
 | .st (.bl _),_,_,e,_=>by cases e
 | .st (.int _),_,_,e,_=>by cases e
 | .st (.str _),_,_,e,_=>by cases e
 | .st (.tup _),_,_,e,_=>by cases e
 | .dk _,_,_,e,_=>by cases e
 | .dt _,_,_,e,_=>by cases e
 | .ob _,_,_,e,_=>by cases e
 | .cl _ _,_,_,e,_=>by cases e
 | .ms _ _ _ _,_,_,e,_=>by cases e
def F8 (x y:R) (Q:R->Prop):Prop :=
 match x,y with
 | .st (.int i),.st (.int j)=>Q (.st (.int (i+j)))
 | .st (.str i),.st (.str j)=>i.length+j.length<=sizeLine/\Q (.st (.str (i++j)))
 | .st (.tup i),.st (.tup j)=>i.length+j.length<=sizeLine/\Q (.st (.tup (i++j)))
 | .nw i,.nw j=>i.length+j.length<=sizeLine/\Q (.nw (i++j))
 | .nw i,.bw j=>i.length+j.length<=sizeLine/\Q (.nw (i++j))
 | .bw i,.nw j=>i.length+j.length<=sizeLine/\Q (.nw (i++j))
 | .bw i,.bw j=>i.length+j.length<=sizeLine/\Q (.nw (i++j))
 | _,_=>False
theorem S5:V0 F8:=fun x y P Q g h=>by
 unfold F8 at h ⊢
 split at h <;> first | exact g _ h | exact⟨h.1,g _ h.2⟩ | exact⟨h.1,h.2.1,g _ h.2.2⟩ | exact h
theorem Q7i {ac:Pn9}{s:Shared} {σ:St}{H:Hp}{x y:V}{v u:Value}{Q:VK} (I:A0 X ac σ H s) (rx:B9 x v) (ry:B9 y u) {r1 r2:R}{i j:List D} (e1:lsM r1=some i) (e2:lsM r2=some j)
  (h1:IsV X.K H r1 x) (h2:IsV X.K H r2 y) (hz:i.length+j.length<=sizeLine) (q:∀v H',A3 H H'->E1 X.K H H' (.nw (i++j)) v->Q v H'):wpAny (model X.prog X.w) X.A (binaryOp .Add v u) (EP X ac σ Q) X.xe s:=by
 obtain⟨a,xs,rfl,qa,eX⟩:=Z9o e1 h1
 obtain⟨b,ys,rfl,qb,gZ⟩:=Z9o e2 h2
 refine W2r ac s σ H _ _ v u Q I rx ry ⟨a,b,xs,ys,rfl,rfl,qa,qb,by rw [<- eX.length,<- gZ.length];exact hz,fun p hp=>?_⟩
 have k:=Kp.of (C8 hp (.lst (xs++ys)))
 exact q _ _ (C8 hp _) ⟨p,xs++ys,rfl,hp,upd_same,(eX.append gZ).mono k _ _⟩
theorem S6:OpD X (binaryOp .Add) F8:=by
 intro ac s σ H x y v u Q I rx ry ⟨r1,r2,h1,h2,hg⟩
 unfold F8 at hg
 split at hg
 ·exact W2p ac s σ H x y v u Q I rx ry ⟨_,_,h1,h2,hg _ _ (A3.refl H) V9⟩
 ·exact W2q ac s σ H x y v u Q I rx ry ⟨_,_,h1,h2,hg.1,hg.2 _ _ (A3.refl H) Q7u⟩
 ·rename_i i j
  have h1:A1 X.K H (.tup i) x:=h1
  have h2:A1 X.K H (.tup j) y:=h2
  unfold A1 at h1 h2
  obtain⟨a,xs,rfl,qa,eX⟩:=h1
  obtain⟨b,ys,rfl,qb,gZ⟩:=h2
  have la:=eX.length
  have lb:=gZ.length
  by_cases hx:xs=[]
  ·have zi:i=[]:=cQ.mp (by rw [la,hx];rfl)
   subst zi
   cases rx
   cases ry
   obtain⟨aU,r1,p1,_⟩:=I.tuple (C4.of (K:=X.K) qa)
   obtain⟨bZ,r2,p2,_⟩:=I.tuple (C4.of (K:=X.K) qb)
   exact HT.cat_tup0 p1 p2 (r1.nil_iff.mpr hx) ⟨.ref b,H,I,rfl,hg.2 _ _ (A3.refl H) (A1.s_tup (K:=X.K) (H:=H) qb gZ)⟩
  refine W2s ac s σ H _ _ v u Q I rx ry ⟨a,b,xs,ys,rfl,rfl,C4.of qa,C4.of qb,hx,by omega,fun z=>?_,fun z p hp=>?_⟩
  ·have zj:j=[]:=cQ.mp (by rw [lb,z];rfl)
   subst zj
   rw [bD]at hg
   exact hg.2 _ _ (A3.refl H) (A1.s_tup (K:=X.K) (H:=H) qa eX)
  ·exact hg.2 _ _ (C8 hp _) (A1.s_tup (K:=X.K) upd_same ((eX.append gZ).mono (Kp.of (C8 hp _)) _ _))
 ·exact Q7i I rx ry rfl rfl h1 h2 hg.1 hg.2
 ·exact Q7i I rx ry rfl rfl h1 h2 hg.1 hg.2
 ·exact Q7i I rx ry rfl rfl h1 h2 hg.1 hg.2
 ·exact Q7i I rx ry rfl rfl h1 h2 hg.1 hg.2
 ·exact hg.elim
def W1 (x y:R) (Q:R->Prop):Prop :=
 match x,y with
 | .st (.int i),.st (.int j)=>Q1d i j/\Q (.st (.int (i*j)))
 | .nw ds,.st (.int k)=>-(2 ^ 63)<=k/\k<2 ^ 63/\ds.length*k.toNat<=sizeLine/\Q (.nw (List.replicate k.toNat ds).flatten)
 | _,_=>False
theorem Q1o:V0 W1:=fun x y P Q g h=>by
 unfold W1 at h ⊢
 split at h <;> first | exact⟨h.1,g _ h.2⟩ | exact⟨h.1,h.2.1,h.2.2.1,g _ h.2.2.2⟩ | exact h
theorem AllS.rep {K:Fg9}{H:Hp}{ds:List D}{vs:List V} (h:AllS K H ds vs):∀k:Nat,AllS K H (List.replicate k ds).flatten (List.replicate k vs).flatten
 | 0=>AllS.nil
 | k+1=>by rw [bq,bq,bS,bS];exact h.append (AllS.rep h k)
theorem Q1q:OpD X (binaryOp .Mult) W1:=by
 intro ac s σ H x y v u Q I rx ry ⟨r1,r2,h1,h2,hg⟩
 unfold W1 at hg
 split at hg
 ·exact W2x ac s σ H x y v u Q I rx ry ⟨_,_,h1,h2,hg.1,hg.2 _ _ (A3.refl H) V9⟩
 ·obtain⟨a,xs,rfl,_,qa,eX⟩:=h1
  refine W2y ac s σ H _ y v u Q I rx ry ⟨a,_,xs,rfl,h2,qa,hg.1,hg.2.1,by rw [<- eX.length];exact hg.2.2.1,fun p hp=>?_⟩
  exact hg.2.2.2 _ _ (C8 hp _) ⟨p,_,rfl,hp,upd_same,(eX.rep _).mono (Kp.of (C8 hp _)) _ _⟩
 ·exact hg.elim
noncomputable def R9 (f:Int->Int->Bool):R->R->(Bool->Prop)->Prop
 | .st (.int i),.st (.int j),Q=>Q (f i j)
 | _,_,_=>False
theorem Z7k {f:Int->Int->Bool}{x y:R}{Q:Bool->Prop} (h:R9 f x y Q):∃i j,x=.st (.int i)/\y=.st (.int j)/\Q (f i j):=by
 unfold R9 at h
 split at h
 ·exact⟨_,_,rfl,rfl,h⟩
 ·exact h.elim
theorem Q5f {f:Int->Int->Bool}:V0 (R9 f):=fun x y P Q g h=>by
 obtain⟨i,j,rfl,rfl,q⟩:=Z7k h
 exact g _ q
theorem W5.ints {op:CmpOp}{f:Int->Int->Bool} (h:N7 X (compareOp op) (rI0 fun i j=>.bl (f i j))):W5 X op (R9 f):=by
 intro ac s σ H x y v u Q I rx ry ⟨r1,r2,h1,h2,hg⟩
 obtain⟨i,j,rfl,rfl,q⟩:=Z7k hg
 exact h ac s σ H x y v u Q I rx ry ⟨i,j,h1,h2,q⟩
theorem Q7j:W5 X .Lt (R9 fun i j=>decide (i<j)):=W5.ints W2v
theorem Y7q:W5 X .GtE (R9 fun i j=>decide (j<=i)):=W5.ints W2u
def O8 (n:Nat) (neg:Bool) (x y:R) (Q:Bool->Prop):Prop:=∃d e,x.d=some d/\y.d=some e/\d.depth<=n/\Q (if neg then !D.eq d e else D.eq d e)
theorem Y6 {n:Nat}{neg:Bool}:V0 (O8 n neg):=fun x y P Q g ⟨d,e,h1,h2,h3,q⟩=>⟨d,e,h1,h2,h3,g _ q⟩
theorem Q3d {n:Nat} (hu:X.A.units+n<cLine):W5 X .Eq (O8 n false):=by
 intro ac s σ H x y v u Q I rx ry ⟨r1,r2,h1,h2,d,e,e1,e2,hd,q⟩
 exact Q8n I n d e x y v u X.A hd (h1.w e1) (h2.w e2) rx ry hu _ _ _ _ ⟨.bl _,H,I,rfl,q⟩
end
end TK
end
section
namespace TK
open PySem PySem.Spec PyProof.Rows L2
section
variable {X:Cx}
theorem Q4z {K:Fg9}{H:Hp}{ds:List D}{xs:List V} (al:AllS K H ds xs) {i:Int}{d:D} (h:J3 ds i=some d):∃v,J3 xs i=some v/\A1 K H d v:=by
 unfold J3 at h ⊢
 rw [<- al.length]
 cases e:O1 ds.length i with
 | none=>rw [e]at h;cases h
 | some j =>
  rw [e]at h
  obtain⟨v,hv,q⟩:=al.get (i:=j) h
  exact⟨v,hv,q⟩
def C3 (x y:R) (Q:R->Prop):Prop:=match x,y with
 | .st (.lst ds),.st (.int i)=>∃d,J3 ds i=some d/\Q (.st d)
 | .nw ds,.st (.int i)=>∃d,J3 ds i=some d/\Q (.st d)
 | .bw ds,.st (.int i)=>∃d,J3 ds i=some d/\Q (.st d)
 | .st (.tup ds),.st (.int i)=>∃d,J3 ds i=some d/\Q (.st d)
 | .st (.str z),.st (.int i)=>z.length<=sizeLine/\∃c,J3 z.cps.toList i=some c/\Q (.st (.str ⟨#[c]⟩))
 | _,_=>False
theorem Y9j:V0 C3:=fun x y P Q g h=>by
 unfold C3 at h ⊢
 split at h
 case h_6=>exact h
 case h_5=>obtain⟨z,c,h1,h2⟩:=h;exact⟨z,c,h1,g _ h2⟩
 all_goals (obtain⟨d,h1,h2⟩:=h;exact⟨d,h1,g _ h2⟩)
variable {H0:Hp}{a b c e:Expr}{pos:Pos}{wa wb wc we:WE}
theorem DE.ix (ha:DE X H0 a wa) (hb:DE X H0 b wb) (hs:Q3b b):DE X H0 (.Subscript a b pos) (A8 C3 wa wb) where
 mono:=fun τ P Q f h=>ha.mono τ _ _ (fun x h=>hb.mono τ _ _ (fun y h=>Y9j x y P Q f h) h) h
 pe:=L5 (Q6j Y9l ha.pe hb.pe hs) fun σ H Q ⟨τ,hR,h⟩=>two ha hb hR h fun x y v u H' sm rx ry q=>by
  unfold C3 at q
  split at q
  ·have rx:A1 X.K H' _ v:=rx
   unfold A1 at rx
   obtain⟨p,xs,rfl,sq,al⟩:=rx
   obtain⟨d,hd,q⟩:=q
   obtain⟨z,hz,iz⟩:=Q4z al hd
   exact .inl ⟨p,xs,_,z,rfl,ry,sq.sq,hz,q z H' sm iz⟩
  ·obtain⟨p,xs,rfl,_,sq,al⟩:=rx
   obtain⟨d,hd,q⟩:=q
   obtain⟨z,hz,iz⟩:=Q4z al hd
   exact .inl ⟨p,xs,_,z,rfl,ry,D6.of sq,hz,q z H' sm iz⟩
  ·obtain⟨p,xs,rfl,sq,al⟩:=rx
   obtain⟨d,hd,q⟩:=q
   obtain⟨z,hz,iz⟩:=Q4z al hd
   exact .inl ⟨p,xs,_,z,rfl,ry,D6.of sq,hz,q z H' sm iz⟩
  ·have rx:A1 X.K H' _ v:=rx
   unfold A1 at rx
   obtain⟨p,xs,rfl,sq,al⟩:=rx
   obtain⟨d,hd,q⟩:=q
   obtain⟨z,hz,iz⟩:=Q4z al hd
   exact .inr (.inl ⟨p,xs,_,z,rfl,ry,C4.of sq,hz,q z H' sm iz⟩)
  ·obtain⟨z,c,h1,q⟩:=q
   exact .inr (.inr ⟨_,_,c,rx,ry,z,h1,q _ H' sm Q7u⟩)
  ·exact q.elim
def Q0o (X:Cx) (f:Value) (g:List R->(R->Prop)->Prop):Prop :=
 Q1e X f (fun xs H Q=>∃rs,L3 X.K (fun _=>none) H rs xs/\g rs fun r=>∀v H',A3 H H'->E1 X.K H H' r v->Q v H')
def Q0q (g:List R->(R->Prop)->Prop):Prop:=∀x (P Q:R->Prop),(∀r,P r->Q r)->g x P->g x Q
variable {es:List Expr}{wr:WA}{x:Str}{p:Pos}{id T:String}{g:List R->(R->Prop)->Prop}
def D9 (g:List R->(R->Prop)->Prop) (wr:WA):WE:=fun τ Q=>wr τ fun rs=>g rs Q
theorem DE.callB (hc:Q0o X (.builtin id) g) (mg:Q0q g) (hg:Gl X x) (hm:X.mg x=none) (hv:bootBuiltins x=some (.builtin id)) (ha:DA X H0 (e::es) wr) (hn:x≠"__name__":=by decide) (dC:(x==("__debug__":Str))=false:=by decide)
  (he:starEach (e::es) X.env=(false,eval e X.env)::starEach es X.env:=by rfl) (hpl:(backTo pos (starEach es X.env)).any (·.1)=false:=by rfl):DE X H0 (.Call (.Name x p) (e::es) [] pos) (D9 g wr) where
 mono:=fun τ P Q f h=>ha.mono τ _ _ (fun rs h=>mg rs P Q f h) h
 pe:=L5 (Z3e hc hg hm hv ha.pa hn dC he hpl) fun σ H Q ⟨τ,hR,h⟩=>⟨τ,hR,ha.mono τ _ _ (fun rs h vs H1 s1 cw=>⟨rs,cw.v,mg rs _ _ (fun r h v H' s2 ir=>h v H' (s1.trans s2) (ir.older s1)) h⟩) h⟩
theorem DE.callTy (hc:Q0o X (.type T) g) (mg:Q0q g) (hg:Gl X x) (hm:X.mg x=none) (hv:bootBuiltins x=some (.type T)) (ha:DA X H0 (e::es) wr) (hn:x≠"__name__":=by decide) (dC:(x==("__debug__":Str))=false:=by decide)
  (he:starEach (e::es) X.env=(false,eval e X.env)::starEach es X.env:=by rfl) (hpl:(backTo pos (starEach es X.env)).any (·.1)=false:=by rfl):DE X H0 (.Call (.Name x p) (e::es) [] pos) (D9 g wr) where
 mono:=fun τ P Q f h=>ha.mono τ _ _ (fun rs h=>mg rs P Q f h) h
 pe:=L5 (W3g hc hg hm hv ha.pa hn dC he hpl) fun σ H Q ⟨τ,hR,h⟩=>⟨τ,hR,ha.mono τ _ _ (fun rs h vs H1 s1 cw=>⟨rs,cw.v,mg rs _ _ (fun r h v H' s2 ir=>h v H' (s1.trans s2) (ir.older s1)) h⟩) h⟩
theorem V1 {K:Fg9}{H0 H:Hp}{r:R}{vs:List V} (h:L3 K H0 H [r] vs):∃v,vs=[v]/\E1 K H0 H r v:=by
 obtain⟨v,t,rfl,q,z⟩:=h
 cases (show t=[]from z)
 exact⟨v,rfl,q⟩
noncomputable def Z2f:R->(Nat->Prop)->Prop
 | .st (.str z),Q=>z.length<=sizeLine/\Q z.length
 | .st (.tup ds),Q=>Q ds.length
 | .st (.lst ds),Q=>Q ds.length
 | .nw ds,Q=>Q ds.length
 | .bw ds,Q=>Q ds.length
 | _,_=>False
noncomputable def E6:List R->(R->Prop)->Prop
 | [r],Q=>Z2f r fun n=>Q (.st (.int n))
 | _,_=>False
theorem W0i:Q0q E6:=fun x P Q g h=>by
 unfold E6 at h ⊢
 split at h
 ·unfold Z2f at h ⊢
  split at h <;> first | exact g _ h | exact⟨h.1,g _ h.2⟩ | exact h
 ·exact h
theorem Y7f:Q0o X (.builtin "len") E6:=by
 intro ac s σ H xs us Q I rv ⟨rs,cw,h⟩
 unfold E6 at h
 split at h
 ·obtain⟨v,rfl,ir⟩:=V1 cw
  unfold Z2f at h
  split at h
  ·cases (show v=.str _ from ir)
   exact Q5c ac s σ H _ us Q I rv ⟨_,_,rfl,⟨h.1,rfl⟩,h.2 _ _ (A3.refl H) V9⟩
  ·have ir:A1 X.K H _ v:=ir
   unfold A1 at ir
   obtain⟨p,xs,rfl,sq,al⟩:=ir
   exact Q5c ac s σ H _ us Q I rv ⟨_,_,rfl,.inr ⟨xs,C4.of sq,rfl⟩,by rw [<- al.length];exact h _ _ (A3.refl H) V9⟩
  ·have ir:A1 X.K H _ v:=ir
   unfold A1 at ir
   obtain⟨p,xs,rfl,sq,al⟩:=ir
   exact Q5c ac s σ H _ us Q I rv ⟨_,_,rfl,.inl ⟨xs,sq.sq,rfl⟩,by rw [<- al.length];exact h _ _ (A3.refl H) V9⟩
  ·obtain⟨p,xs,rfl,_,sq,al⟩:=ir
   exact Q5c ac s σ H _ us Q I rv ⟨_,_,rfl,.inl ⟨xs,D6.of sq,rfl⟩,by rw [<- al.length];exact h _ _ (A3.refl H) V9⟩
  ·obtain⟨p,xs,rfl,sq,al⟩:=ir
   exact Q5c ac s σ H _ us Q I rv ⟨_,_,rfl,.inl ⟨xs,D6.of sq,rfl⟩,by rw [<- al.length];exact h _ _ (A3.refl H) V9⟩
  ·exact h.elim
 ·exact h.elim
noncomputable def Q2r:R->Option (List D)
 | .st (.tup ds)=>some ds
 | .st (.lst ds)=>some ds
 | .nw ds=>some ds
 | .bw ds=>some ds
 | _=>none
theorem Y3w {K:Fg9}{H0 H:Hp}:∀{r:R}{ds:List D}{v:V},Q2r r=some ds->E1 K H0 H r v->∃a xs,v=.ref a/\(D6 K H a xs\/H a=some (.tup xs))/\AllS K H ds xs
 | .st (.tup ds),_,v,e,h=>by cases e;have h:A1 K H (.tup ds) v:=h;unfold A1 at h;obtain⟨a,xs,e,q,t⟩:=h;exact⟨a,xs,e,.inr q,t⟩
 | .st (.lst ds),_,v,e,h=>by cases e;have h:A1 K H (.lst ds) v:=h;unfold A1 at h;obtain⟨a,xs,e,q,t⟩:=h;exact⟨a,xs,e,.inl q.sq,t⟩
 | .nw ds,_,v,e,h=>by cases e;obtain⟨a,xs,e,n,q,t⟩:=h;exact⟨a,xs,e,.inl (D6.of q),t⟩
 | .bw ds,_,v,e,h=>by cases e;obtain⟨a,xs,e,q,t⟩:=h;exact⟨a,xs,e,.inl (D6.of q),t⟩
 | .st .non,_,_,e,_=>by cases e
 | .st (.bl _),_,_,e,_=>by cases e
 | .st (.int _),_,_,e,_=>by cases e
 | .st (.str _),_,_,e,_=>by cases e
 | .dk _,_,_,e,_=>by cases e
 | .dt _,_,_,e,_=>by cases e
 | .ob _,_,_,e,_=>by cases e
 | .cl _ _,_,_,e,_=>by cases e
 | .ms _ _ _ _,_,_,e,_=>by cases e
noncomputable def Q2i:List R->(R->Prop)->Prop
 | [r],Q=>∃ds,Q2r r=some ds/\Q (.nw ds)
 | _,_=>False
theorem W0q:Q0q Q2i:=fun x P Q g h=>by
 unfold Q2i at h ⊢
 split at h
 ·obtain⟨ds,e,q⟩:=h;exact⟨ds,e,g _ q⟩
 ·exact h
theorem Y7h:Q0o X (.type "list") Q2i:=by
 intro ac s σ H xs us Q I rv ⟨rs,cw,h⟩
 unfold Q2i at h
 split at h
 ·obtain⟨v,rfl,ir⟩:=V1 cw
  obtain⟨ds,e,q⟩:=h
  obtain⟨a,xs,rfl,sq,al⟩:=Y3w e ir
  exact Y7j ac s σ H _ us Q I rv ⟨a,xs,rfl,sq.imp id (fun z=>C4.of z),fun l hl=>q _ _ (C8 hl _) ⟨l,xs,rfl,hl,upd_same,al.mono (Kp.of (C8 hl _)) _ _⟩⟩
 ·exact h.elim
noncomputable def V5:List R->(R->Prop)->Prop
 | [r],Q=>∃ds,Q2r r=some ds/\Q (.st (.tup ds))
 | _,_=>False
theorem W9b:Q0q V5:=fun x P Q g h=>by
 unfold V5 at h ⊢
 split at h
 ·obtain⟨ds,e,q⟩:=h;exact⟨ds,e,g _ q⟩
 ·exact h
theorem Y7n:Q0o X (.type "tuple") V5:=by
 intro ac s σ H xs us Q I rv ⟨rs,cw,h⟩
 unfold V5 at h
 split at h
 ·obtain⟨v,rfl,ir⟩:=V1 cw
  obtain⟨ds,e,q⟩:=h
  obtain⟨a,xs,rfl,sq,al⟩:=Y3w e ir
  refine Y7o ac s σ H _ us Q I rv ⟨a,xs,rfl,?_⟩
  rcases sq with sq | sq
  ·exact .inl ⟨sq,fun l hl=>q _ _ (C8 hl _) (A1.s_tup (K:=X.K) upd_same (al.mono (Kp.of (C8 hl _)) _ _))⟩
  ·exact .inr ⟨C4.of sq,q _ _ (A3.refl H) (A1.s_tup (K:=X.K) (H:=H) sq al)⟩
 ·exact h.elim
end
noncomputable abbrev WG:=D->A6->(A6->Prop)->Prop
noncomputable def W0k (K:Fg9) (H0:Hp) (g:WG):TG:=fun v σ H Q=>∃ τ d,B6 K H0 τ σ H/\A1 K H d v/\g d τ fun τ'=>∀ σ' H',A3 H H'->B6 K H0 τ' σ' H'->Q σ' H'
structure DG (X:Cx) (H0:Hp) (tg:Expr) (g:WG):Prop where
 mono:∀d τ (P Q:A6->Prop),(∀ τ,P τ->Q τ)->g d τ P->g d τ Q
 pg:PG X tg (W0k X.K H0 g)
noncomputable abbrev WGs:=List D->A6->(A6->Prop)->Prop
noncomputable def W0l (K:Fg9) (H0:Hp) (g:WGs):TGs:=fun vs σ H Q=>∃ τ ds,B6 K H0 τ σ H/\AllS K H ds vs/\g ds τ fun τ'=>∀ σ' H',A3 H H'->B6 K H0 τ' σ' H'->Q σ' H'
structure K3 (X:Cx) (H0:Hp) (tg:List Expr) (g:WGs):Prop where
 mono:∀d τ (P Q:A6->Prop),(∀ τ,P τ->Q τ)->g d τ P->g d τ Q
 pg:PGs X tg (W0l X.K H0 g)
theorem pgW {X:Cx}{e:Expr}{t t':TG} (h:PG X e t) (f:∀v σ H Q,t' v σ H Q->t v σ H Q):PG X e t':=fun ac s σ H v u Q I r q=>h ac s σ H v u Q I r (f v σ H Q q)
theorem pgsW {X:Cx}{e:List Expr}{t t':TGs} (h:PGs X e t) (f:∀v σ H Q,t' v σ H Q->t v σ H Q):PGs X e t':=fun ac s σ H v u Q I r q=>h ac s σ H v u Q I r (f v σ H Q q)
section
variable {X:Cx}{H0:Hp}{a b c e iter tg:Expr}{pos:Pos}{wa wb we:WE}{es:List Expr}
def B2 (i:Nat):WG:=fun d τ Q=>Q (τ.set i (some (.dat d)))
theorem DG.nm {i:Nat}{x:Str} (hN:X.N.Nodup) (hi:X.N[i]?=some x) (hx:Loc X.env.scope x) (hf:X.fn x=true\/X.env.scope.names.lookup x=some .local:=by first | exact .inl rfl | exact .inr rfl | assumption):DG X H0 (.Name x pos) (B2 i) where
 mono:=fun d τ P Q f h=>f _ h
 pg:=pgW (Y1g hN hi hx hf) fun v σ H Q ⟨τ,d,hR,iv,h⟩=>h _ _ (A3.refl H) (hR.set iv fun m=>by cases m)
def gNl:WGs:=fun ds τ Q=>ds=[]/\Q τ
def F4 (g:WG) (gs:WGs):WGs:=fun ds τ Q=>∃d r,ds=d::r/\g d τ fun τ'=>gs r τ' Q
theorem K3.nil:K3 X H0 [] gNl where
 mono:=fun d τ P Q f h=>⟨h.1,f _ h.2⟩
 pg:=pgsW W4c fun vs σ H Q ⟨τ,ds,hR,al,h1,h2⟩=>by
  subst h1
  unfold AllS at al
  exact⟨al,h2 σ H (A3.refl H) hR⟩
theorem K3.cons {g:WG}{gs:WGs} (h1:DG X H0 e g) (h2:K3 X H0 es gs) (hs:(assignEach (e::es) X.env).map (·.2)=assign e X.env::(assignEach es X.env).map (·.2):=by rfl):K3 X H0 (e::es) (F4 g gs) where
 mono:=fun d τ P Q f ⟨x,r,e1,h⟩=>⟨x,r,e1,h1.mono x τ _ _ (fun τ' h=>h2.mono r τ' P Q f h) h⟩
 pg:=pgsW (W4b h1.pg h2.pg hs) fun vs σ H Q ⟨τ,ds,hR,al,d,r,e1,h⟩=>by
  subst e1
  unfold AllS at al
  obtain⟨v,t,rfl,iv,al⟩:=al
  exact⟨v,t,rfl,τ,d,hR,iv,h1.mono d τ _ _ (fun τ' h σ' H' sm cG=>⟨τ',r,cG,al.mono (Kp.of sm) _ _,h2.mono r τ' _ _ (fun τ2 h σ2 H2 s2 cX=>h σ2 H2 (sm.trans s2) cX) h⟩) h⟩
def P7 (n:Nat) (gs:WGs):WG:=fun d τ Q=>∃ds,d=.tup ds/\ds.length=n/\gs ds τ Q
theorem DG.tp {k n:Nat}{gs:WGs} (hc:X.calm=true) (h:K3 X H0 es gs) (hn:(assignEach es X.env).length=n:=by rfl) (lG:(assignEach es X.env).findIdx? (·.1)=none:=by rfl):DG X H0 (.Tuple es k pos) (P7 n gs) where
 mono:=fun d τ P Q f ⟨ds,e1,e2,q⟩=>⟨ds,e1,e2,h.mono ds τ P Q f q⟩
 pg:=pgW (W4a hc h.pg hn lG) fun v σ H Q ⟨τ,d,hR,iv,ds,e1,e2,q⟩=>by
  subst e1
  unfold A1 at iv
  obtain⟨p,xs,rfl,sq,al⟩:=iv
  exact⟨p,xs,rfl,C4.of sq,by rw [<- al.length];exact e2,τ,ds,hR,al,q⟩
theorem DS.asg {g:WG} (he:DE X H0 e we) (hg:DG X H0 tg g) (hs:swapsWithSole [tg] e pos.line X.env=pure false:=by rfl) (hw:swappedStores [tg] e X.env=pure none:=by rfl)
  (h1:(assignEach [tg] X.env).map (·.2)=[assign tg X.env]:=by rfl):DS X H0 (.Assign [tg] e pos) (fun E τ=>we τ fun r=>∃d,r=.st d/\g d τ E.nx) where
 mono:=fun τ E F le h=>he.mono τ _ _ (fun r ⟨d,e1,h⟩=>⟨d,e1,hg.mono d τ _ _ le.nx h⟩) h
 ps:=L6 (Z3g he.pe hg.pg hs hw h1) fun D σ H ⟨τ,hR,h⟩=>⟨τ,hR,he.mono τ _ _ (fun r ⟨d,e1,h⟩ v H1 s1 ir=>by
  subst e1
  exact⟨τ,d,hR.mono s1,ir,hg.mono d τ _ _ (fun τ' h σ' H' s2 cG=>h σ' H' (Kp.of (s1.trans s2)) cG) h⟩) h⟩
structure Yl (K:Fg9) (H0:Hp) (J:It) (ds:List D) (H:Hp):Prop where
 go:∀H',Kp H H'->A3 H0 H'->∀i,i<ds.length->J.go i H'
 yld:∀H',Kp H H'->A3 H0 H'->∀i x cW d,ds[i]?=some d->J.yld i H' x cW->A3 H' cW/\A1 K cW d x
 stop:∀H',Kp H H'->A3 H0 H'->J.stop ds.length H'
noncomputable abbrev WI:=A6->(List D->A6->Prop)->Prop
noncomputable def W0m (K:Fg9) (H0:Hp) (wi:WI):TI:=fun σ H R=>∃ τ,B6 K H0 τ σ H/\wi τ fun ds τ'=>∀J H',Kp H H'->B6 K H0 τ' σ H'->Yl K H0 J ds H'->R J H'
structure DI (X:Cx) (H0:Hp) (tg iter:Expr) (wi:WI):Prop where
 mono:∀ τ (P Q:List D->A6->Prop),(∀ds τ,P ds τ->Q ds τ)->wi τ P->wi τ Q
 pi:PI X tg iter (W0m X.K H0 wi)
theorem piW {X:Cx}{tg e:Expr}{t t':TI} (h:PI X tg e t) (f:∀ σ H Q,t' σ H Q->t σ H Q):PI X tg e t':=fun ac s σ H R I q=>h ac s σ H R I (f σ H R q)
theorem Y5m {K:Fg9}{H0 H:Hp}{a:Addr}{xs:List V}{ds:List D} (hq:∀H',Kp H H'->A3 H0 H'->D6 K H' a xs) (al:AllS K H ds xs):Yl K H0 (Itl K a) ds H where
 go:=fun H' k s i hi=>⟨xs,xs[i]'(by rw [<- al.length];exact hi),hq H' k s,af _⟩
 yld:=fun H' k s i x cW d hd ⟨e,y⟩=>by
  subst e
  have hx:=y xs (hq _ k s)
  obtain⟨v,hv,q⟩:=(al.mono k _ _).get hd
  rw [hx]at hv;cases hv
  exact⟨A3.refl _,q⟩
 stop:=fun H' k s=>⟨xs,hq H' k s,by rw [al.length];exact aj _⟩
theorem DI.lst (he:DE X H0 e we):DI X H0 tg e (fun τ Q=>we τ fun r=>∃ds,r=.st (.lst ds)/\Q ds τ) where
 mono:=fun τ P Q f h=>he.mono τ _ _ (fun r ⟨ds,e1,q⟩=>⟨ds,e1,f _ _ q⟩) h
 pi:=piW (Z3f he.pe) fun σ H R ⟨τ,hR,h⟩=>⟨τ,hR,he.mono τ _ _ (fun r ⟨ds,e1,q⟩ v H1 s1 ir=>by
  subst e1
  have ir:A1 X.K H1 (.lst ds) v:=ir
  unfold A1 at ir
  obtain⟨a,xs,rfl,sq,al⟩:=ir
  exact⟨a,rfl,⟨xs,sq.sq⟩,q _ _ (Kp.of s1) (hR.mono s1) (Y5m (fun H' k _=>(k.fzL sq).sq) al)⟩) h⟩
theorem DI.bor {i:Nat} (he:PE X e (J8 i)):DI X H0 tg e (fun τ Q=>∃ds,τ[i]?=some (some (.bor ds))/\Q ds τ) where
 mono:=fun τ P Q f ⟨ds,e1,q⟩=>⟨ds,e1,f _ _ q⟩
 pi:=piW (Z3f he) fun σ H R ⟨τ,hR,ds,e1,q⟩=>by
  obtain⟨v,hv,a,xs,rfl,sq,al⟩:=hR.here i _ e1
  exact⟨_,hv,a,rfl,⟨xs,D6.of (hR.same _ _ sq)⟩,q _ _ (Kp.refl H) hR (Y5m (fun H' _ s=>D6.of (s _ _ sq)) al)⟩
theorem B6.freeze {K:Fg9}{H:Hp} {τ:A6} {σ:St}{i:Nat}{ds:List D}{a:Addr}{o:Obj}{xs:List V} (hR:B6 K H0 τ σ H) (e1:τ[i]?=some (some (.own ds))) (hv:σ[i]?=some (some (.ref a))) (h0:H0 a=none) (sq:H a=some (.lst xs)) (al:AllS K H ds xs) :
  B6 K H0 (τ.set i (some (.dat (.lst ds)))) σ (upd H a (.frz o (.lst xs))):=by
 have kp:Kp H (upd H a (.frz o (.lst xs))):=Kp.upd sq _
 have hl:i<τ.length:=by
  rcases bA i τ.length with h | h
  ·exact h
  ·rw [aM.mpr h]at e1;cases e1
 refine⟨by rw [aZ];exact hR.len,fun b ob hb=>?_,fun j s e=>?_,fun j k s t v cb e2 e3 m1 m2 q1 q2=>?_⟩
 ·rw [A9 (U3 hb h0)];exact hR.same b ob hb
 ·by_cases hj:j=i
  ·subst hj
   rw [Y7 hl]at e;cases e
   exact⟨_,hv,A1.s_lst (K:=K) (.inl ⟨o,upd_same⟩) (al.mono kp _ _)⟩
  ·rw [aG (fun z=>hj z.symm)]at e
   obtain⟨v,q,r⟩:=hR.here j s e
   refine⟨v,q,?_⟩
   have ap:s.mut=true->v≠.ref a:=fun m z=>by
    subst z
    exact hR.apart i j _ s (.ref a) (fun z=>hj z.symm) e1 e rfl m hv q
   cases s with
   | dat d=>exact A1.mono kp _ _ r
   | own es=>obtain⟨b,ys,e,n,q,t⟩:=r;exact⟨b,ys,e,n,by rw [A9 (fun z=>ap rfl (by rw [e,z]))];exact q,t.mono kp _ _⟩
   | bor es=>obtain⟨b,ys,e,q,t⟩:=r;exact⟨b,ys,e,q,t.mono kp _ _⟩
   | bd es=>obtain⟨b,ys,e,q,t⟩:=r;exact⟨b,ys,e,q,t.mono kp _ _⟩
   | dk es=>obtain⟨b,ys,e,n,q,t⟩:=r;exact⟨b,ys,e,n,by rw [A9 (fun z=>ap rfl (by rw [e,z]))];exact q,t.mono kp _ _⟩
   | dt es=>obtain⟨b,ys,e,n,q,t⟩:=r;exact⟨b,ys,e,n,by rw [A9 (fun z=>ap rfl (by rw [e,z]))];exact q,t.mono kp _ _⟩
   | ob _=>exact r
   | cl _ _=>exact⟨r.1,r.2.2 _ _ kp r.2.1,r.2.2⟩
   | ll _ _=>exact⟨r.1,r.2.keep kp fun b φ q=>by rw [A9 (X5 q sq (by intro z;cases z))];exact q⟩
   | ins _ _ _=>obtain⟨e,n,dx,ys,q,t⟩:=r;exact⟨e,n,dx,ys,by rw [A9 (fun z=>ap rfl (by rw [e,z]))];exact q,t.mono kp _ _⟩
 ·by_cases hj:j=i
  ·subst hj;rw [Y7 hl]at e2;cases e2;cases m1
  ·by_cases hk:k=i
   ·subst hk;rw [Y7 hl]at e3;cases e3;cases m2
   ·rw [aG (fun z=>hj z.symm)]at e2
    rw [aG (fun z=>hk z.symm)]at e3
    exact hR.apart j k s t v cb e2 e3 m1 m2 q1 q2
theorem DI.tup (he:DE X H0 e we):DI X H0 tg e (fun τ Q=>we τ fun r=>∃ds,r=.st (.tup ds)/\Q ds τ) where
 mono:=fun τ P Q f h=>he.mono τ _ _ (fun r ⟨ds,e1,q⟩=>⟨ds,e1,f _ _ q⟩) h
 pi:=piW (Y1j he.pe) fun σ H R ⟨τ,hR,h⟩=>⟨τ,hR,he.mono τ _ _ (fun r ⟨ds,e1,q⟩ v H1 s1 ir=>by
  subst e1
  have ir:A1 X.K H1 (.tup ds) v:=ir
  unfold A1 at ir
  obtain⟨a,xs,rfl,sq,al⟩:=ir
  refine⟨a,rfl,⟨xs,C4.of sq⟩,q _ _ (Kp.of s1) (hR.mono s1) ⟨fun H' k _ i hi=>⟨xs,xs[i]'(by rw [<- al.length];exact hi),C4.of (k.tup _ _ sq),af _⟩,fun H' k _ i x cW d hd ⟨e,y⟩=>?_,fun H' k _=>⟨xs,C4.of (k.tup _ _ sq),by rw [al.length];exact aj _⟩⟩⟩
  subst e
  have hx:=y xs (C4.of (k.tup _ _ sq))
  obtain⟨v,hv,q⟩:=(al.mono k _ _).get hd
  rw [hx]at hv;cases hv
  exact⟨A3.refl _,q⟩) h⟩
noncomputable def G9 (lo:Int) (n:Nat):List D:=(List.range n).map fun(i:Nat)=>.int (lo+(i:Int))
theorem Z0h {K:Fg9}{H0 H:Hp}{lo:Int}{n:Nat}:Yl K H0 (Itr lo n) (G9 lo n) H where
 go:=fun H' _ _ i hi=>by
  have:i<n:=by simpa [G9]using hi
  exact this
 yld:=fun H' _ _ i x cW d hd ⟨e,y⟩=>by
  subst e
  refine⟨A3.refl _,?_⟩
  unfold G9 at hd
  rw [ak]at hd
  rcases bA i n with hi | hi
  ·rw [List.getElem?_range hi]at hd
   have e:D.int (lo+i)=d:=aC hd
   subst e y
   exact A1.s_int
  ·rw [aM.mpr (by simpa using hi)]at hd;cases hd
 stop:=fun H' _ _=>by
  show n<=(G9 lo n).length
  simp [G9]
variable {wr:WA}
theorem DI.rng1 {p:Pos} (hg:Gl X "range") (hm:X.mg "range"=none) (ha:DA X H0 [a] wr) (hs:starEach [a] X.env=[(false,eval a X.env)]:=by rfl) :
  DI X H0 tg (.Call (.Name "range" p) [a] [] pos) (fun τ Q=>wr τ fun rs=>∃j:Int,rs=[.st (.int j)]/\-(2 ^ 62)<=j/\j<2 ^ 62/\Q (G9 0 j.toNat) τ) where
 mono:=fun τ P Q f h=>ha.mono τ _ _ (fun r ⟨j,e1,h1,h2,q⟩=>⟨j,e1,h1,h2,f _ _ q⟩) h
 pi:=piW (Y1i hg hm ha.pa hs) fun σ H R ⟨τ,hR,h⟩=>⟨τ,hR,ha.mono τ _ _ (fun r ⟨j,e1,h1,h2,q⟩ vs H1 s1 cw=>by
  subst e1
  obtain⟨v,rfl,ir⟩:=V1 cw
  cases (show v=.int j from ir)
  exact⟨j,rfl,h1,h2,q _ _ (Kp.of s1) (hR.mono s1) Z0h⟩) h⟩
theorem Y6p {K:Fg9}{H0 H:Hp}{r r':R}{vs:List V} (h:L3 K H0 H [r,r'] vs):∃v u,vs=[v,u]/\E1 K H0 H r v/\E1 K H0 H r' u:=by
 obtain⟨v,t,rfl,q,z⟩:=h
 obtain⟨u,rfl,q'⟩:=V1 z
 exact⟨v,u,rfl,q,q'⟩
noncomputable def C6 (g:WG) (wb:WS) (E:E7):List D->A6->Prop
 | [],τ=>E.nx τ
 | d::ds,τ=>g d τ fun τ'=>wb { E with nx:=C6 g wb E ds,ct:=C6 g wb E ds,bk:=E.nx } τ'
theorem Z1q {g:WG}{wb:WS} (hg:∀d τ (P Q:A6->Prop),(∀ τ,P τ->Q τ)->g d τ P->g d τ Q) (hb:∀(τ:A6) (E F:E7),E.Le F->wb E τ->wb F τ) {E F:E7} (le:E.Le F):∀(ds:List D) (τ:A6),C6 g wb E ds τ->C6 g wb F ds τ
 | [],τ,h=>le.nx τ h
 | d::ds,τ,h=>hg d τ _ _ (fun τ' h=>hb τ' { E with nx:=C6 g wb E ds,ct:=C6 g wb E ds,bk:=E.nx } { F with nx:=C6 g wb F ds,ct:=C6 g wb F ds,bk:=F.nx } ⟨fun τ h=>Z1q hg hb le ds τ h,le.rt,le.nx,fun τ h=>Z1q hg hb le ds τ h⟩ h) h
theorem DS.for {body:List Stmt}{wi:WI}{g:WG}{wb:WS} (hp:PassesOwn (model X.prog X.w) X.A X.env X.xe) (hc:X.calm=true) (hi:DI X H0 tg iter wi) (hg:DG X H0 tg g) (hb:A5 X H0 body wb)
  (hs:∀x,foldedSetIterable iter X.env x=pure x:=by intro _;rfl):DS X H0 (.For tg iter body [] pos) (fun E τ=>wi τ fun ds τ'=>C6 g wb E ds τ') where
 mono:=fun τ E F le h=>hi.mono τ _ _ (fun ds τ' h=>Z1q hg.mono hb.mono le ds τ' h) h
 ps:=L6 (W4l hp hc hi.pi hg.pg hb.ps hs) fun D σ H ⟨τ,hR,h⟩=>⟨τ,hR,hi.mono τ _ _ (fun ds τ' h J H1 k1 cU yl=>by
  refine⟨fun i m σ H2=>∃ τ,B6 X.K H0 τ σ H2/\Kp H1 H2/\i<=ds.length/\m=ds.length-i/\C6 g wb (K0 X.K H0 H D) (ds.drop i) τ,⟨ds.length,τ',cU,Kp.refl _,ba _,rfl,h⟩,?_⟩
  rintro i m σ2 H2 ⟨τ2,cX,k2,j7,rfl,h2⟩
  by_cases bR:i<ds.length
  ·refine .inr ⟨yl.go H2 k2 cX.same i bR,fun σ' H'=>∃ τ,B6 X.K H0 τ σ' H'/\Kp H1 H'/\i+1<=ds.length/\C6 g wb (K0 X.K H0 H D) (ds.drop (i+1)) τ,fun σ' H' ⟨τ3,a3,b3,c3,d3⟩=>⟨ds.length-(i+1),by omega,τ3,a3,b3,c3,rfl,d3⟩,fun x H3 y=>?_⟩
   obtain⟨s3,ix⟩:=yl.yld H2 k2 cX.same i x H3 _ (af bR) y
   rw [cD bR]at h2
   have k3:=k2.trans (Kp.of s3)
   refine⟨τ2,ds[i],cX.mono s3,ix,hg.mono _ _ _ _ (fun τ4 h4 σ4 H4 s4 k8=>⟨τ4,k8,?_⟩) h2⟩
   have k4:=k3.trans (Kp.of s4)
   have k5:=k1.trans k4
   exact hb.mono τ4 { K0 X.K H0 H D with nx:=C6 g wb (K0 X.K H0 H D) (ds.drop (i+1)),ct:=C6 g wb (K0 X.K H0 H D) (ds.drop (i+1)),bk:=(K0 X.K H0 H D).nx } _
    ⟨fun τ5 h5 σ5 H5 kk iC=>⟨τ5,iC,k4.trans kk,bR,h5⟩,fun _ h=>h,fun τ5 h5 σ5 H5 kk iC=>h5 σ5 H5 (k5.trans kk) iC,fun τ5 h5 σ5 H5 kk iC=>⟨τ5,iC,k4.trans kk,bR,h5⟩⟩ h4
  ·have e:i=ds.length:=by omega
   subst e
   rw [fM]at h2
   exact .inl ⟨yl.stop H2 k2 cX.same,h2 σ2 H2 (k1.trans k2) cX⟩) h⟩
end
noncomputable def Q4 (env:Env):List (Str×NameKind)->List (Str×Addr)->List (Str×Addr)
 | [],acc=>acc
 | (n,k)::r,acc=>Q4 env r (if (k==NameKind.free)=true then(n,(env.cells.lookup n).getD 0)::acc else acc)
theorem Q7l {scope:Scope}{env:Env} (h:∀y∈scope.names,y.2=.free->∃c,env.cells.lookup y.1=some c):closureFor scope env=pure (Q4 env scope.names []):=by
 have key:∀(l:List (Str×NameKind)) (acc:List (Str×Addr)),(∀y∈l,y.2=.free->∃c,env.cells.lookup y.1=some c) ->
   (forIn l acc fun x r=>(if (x.2==NameKind.free)=true then cellOf env x.1>>=fun c=>pure (ForInStep.yield ((x.1,c)::r))else pure (ForInStep.yield r):Sem (ForInStep (List (Str×Addr)))))=pure (Q4 env l acc):=by
  intro l
  induction l with
  | nil=>intro acc _;rfl
  | cons x r ih =>
   intro acc hl
   obtain⟨n,k⟩:=x
   have hr:∀y∈r,y.2=.free->∃c,env.cells.lookup y.1=some c:=fun y hy=>hl y (ar _ hy)
   rw [c8]
   by_cases hk:(k==NameKind.free)=true
   ·obtain⟨c,hc⟩:=hl (n,k) ao (eq_of_beq hk)
    have hc:env.cells.lookup n=some c:=hc
    have e:cellOf env n=pure c:=by unfold cellOf;rw [hc]
    show((if (k==NameKind.free)=true then cellOf env n>>=fun c=>pure (ForInStep.yield ((n,c)::acc))else pure (ForInStep.yield acc))>>=_)=_
    rw [aJ hk,e]
    show _=pure (Q4 env r (if (k==NameKind.free)=true then(n,(env.cells.lookup n).getD 0)::acc else acc))
    rw [aJ hk,hc]
    exact ih _ hr
   ·show((if (k==NameKind.free)=true then cellOf env n>>=fun c=>pure (ForInStep.yield ((n,c)::acc))else pure (ForInStep.yield acc))>>=_)=_
    rw [aH hk]
    show _=pure (Q4 env r (if (k==NameKind.free)=true then(n,(env.cells.lookup n).getD 0)::acc else acc))
    rw [aH hk]
    exact ih _ hr
 simp only [closureFor]
 rw [key scope.names [] h]
 rfl
theorem Z7i {env:Env}:∀(l:List (Str×NameKind)) (acc:List (Str×Addr)) (p:Str×Addr),p∈Q4 env l acc->p∈acc\/((p.1,NameKind.free)∈l/\p.2=(env.cells.lookup p.1).getD 0)
 | [],acc,p,h=>.inl h
 | (n,k)::r,acc,p,h=>by
  rcases Z7i r _ p h with q | ⟨q1,q2⟩
  ·by_cases hk:(k==NameKind.free)=true
   ·rw [aJ hk]at q
    rcases aq.mp q with q | q
    ·refine .inr ⟨?_,by rw [q]⟩
     have:k=NameKind.free:=eq_of_beq hk
     rw [q,this];exact ao
    ·exact .inl q
   ·rw [aH hk]at q;exact .inl q
  ·exact .inr ⟨ar _ q1,q2⟩
theorem Z7h {env:Env}:∀(l:List (Str×NameKind)) (acc:List (Str×Addr)) (n:Str),((n,NameKind.free)∈l\/∃c,(n,c)∈acc)->∃c,(n,c)∈Q4 env l acc
 | [],acc,n,h=>by
  rcases h with h | h
  ·cases h
  ·exact h
 | (m,k)::r,acc,n,h=>by
  refine Z7h r _ n ?_
  rcases h with h | ⟨c,h⟩
  ·rcases aq.mp h with e | h
   ·cases e
    refine .inr ⟨(env.cells.lookup m).getD 0,?_⟩
    rw [aJ (by rfl)]
    exact ao
   ·exact .inl h
  ·refine .inr ⟨c,?_⟩
   split
   ·exact ar _ h
   ·exact h
theorem Q7z {α:Type}:∀{l:List (Str×α)}{x:Str}{c:α},l.lookup x=some c->(x,c)∈l
 | [],_,_,h=>by simp at h
 | (n,d)::r,x,c,h=>by
  rw [List.lookup_cons]at h
  cases e:x==n with
  | true=>rw [e]at h;cases h;rw [eq_of_beq e];exact ao
  | false=>rw [e]at h;exact ar _ (Q7z h)
theorem Z9z {α:Type}:∀{l:List (Str×α)}{x:Str}{c:α},(x,c)∈l->∃d,l.lookup x=some d
 | [],_,_,h=>by cases h
 | (n,d)::r,x,c,h=>by
  rw [List.lookup_cons]
  cases e:x==n with
  | true=>exact⟨d,rfl⟩
  | false =>
   rcases aq.mp h with q | q
   ·cases q;simp at e
   ·exact Z9z q
noncomputable def blk (X:Cx) (scope:Scope) (C:Addr) (s:Shared) (H:Hp) (fp:List Addr) (N:List Str):Cx :=
 { X with N:=N,s₀:=s,H₀:=H,env:=compEnvC scope (Q4 X.env scope.names []) C X.env,outer:=X.stack,ex:=fp,fn:=fun _=>false,pn:=[],xe:=fun _ _=>False }
structure G7 (X:Cx) (scope:Scope) (N:List Str) (nt:Nat) (cap:List Nat):Prop where
 kind:scope.kind=.function
 cell:∀y∈scope.names,y.2≠.cell
 names:∀y∈scope.names,y.2=.local->scope.names.lookup y.1=some .local
 only:∀y∈scope.names,y.2=.free->scope.names.lookup y.1=some .free
 free:∀y∈scope.names,y.2=.free->X.env.kindOf y.1=some .cell\/X.env.kindOf y.1=some .free
 len:N.length=nt+cap.length
 caps:∀(j i:Nat) (x:Str),cap[j]?=some i->N[nt+j]?=some x->X.N[i]?=some x/\(x,NameKind.free)∈scope.names
section
variable {X:Cx}{scope:Scope}{N:List Str}{nt:Nat}{cap:List Nat}{ac:Pn9} {σ:St}{H:Hp}{s:Shared}
theorem U0 (I:A0 X ac σ H s) (B:G7 X scope N nt cap) {x:Str}{c:Addr} (h:(Q4 X.env scope.names []).lookup x=some c):X.env.cells.lookup x=some c:=by
 rcases Z7i _ _ _ (Q7z h)with q | ⟨q1,q2⟩
 ·cases q
 ·obtain⟨d,hd⟩:=I.ok.has x (B.free _ q1 rfl)
  have q2:c=(X.env.cells.lookup x).getD 0:=q2
  rw [hd]at q2 ⊢
  rw [q2];rfl
theorem Z1f (I:A0 X ac σ H s) (B:G7 X scope N nt cap) {x:Str} (h:(x,NameKind.free)∈scope.names):∃c,(Q4 X.env scope.names []).lookup x=some c:=by
 obtain⟨c,hc⟩:=Z7h (env:=X.env) scope.names [] x (.inl h)
 exact Z9z hc
theorem Y1w {env:Env}{x:Str}{k:NameKind} (h:(relabel scope env).names.lookup x=some k) (hk:k=.cell\/k=.free) (nc:∀y∈scope.names,y.2≠.cell):(x,NameKind.free)∈scope.names:=by
 have m:=Q7z h
 unfold relabel at m
 obtain⟨⟨n,k'⟩,hm,e⟩:=au.mp m
 dsimp only at e
 split at e
 ·rename_i hc
  cases e
  simp only [cj]at hc
  have:k'=NameKind.free:=eq_of_beq hc.1.1
  rw [<- this];exact hm
 ·cases e
  rcases hk with rfl | rfl
  ·exact absurd rfl (nc _ hm)
  ·exact hm
theorem Y6x (I:A0 X ac σ H s) (B:G7 X scope N nt cap) {C:Addr}{fp:List Addr} (hC:s.heap.objs.size<=C) (hf:∀b∈fp,J9 X ac H b) (eS:∀b∈fp,b<s.heap.objs.size):(blk X scope C s H fp N).Ok where
 mod:=I.ok.mod
 kind:=B.kind
 glob:=I.ok.glob
 blt:=I.ok.blt
 above:=hC
 inj:=fun x y c h1 h2=>I.ok.inj x y c (U0 I B h1) (U0 I B h2)
 has:=fun x h=>by
  rcases h with h | h
  ·exact Z1f I B (Y1w h (.inl rfl) B.cell)
  ·exact Z1f I B (Y1w h (.inr rfl) B.cell)
 cab:=fun x c h=>by cases h
 hd:=I.ok.hd
 frames:=I.ok.frames
 stk:=.inl rfl
 exf:=fun b hb=>⟨aB (az (eS b hb) hC),fun x c h=>(hf b hb).2.2.2.2.1 x c (U0 I B h)⟩
 bs:=I.bs
 bsz:=aX I.ok.bsz I.sz
 noex:=fun b o e hb=>by
  rcases (hf b hb).2.2.2.1 with z | z
  ·exact I.ok.noex b o e z
  ·exact absurd (az (ay e) (aX I.ok.bsz z)) (aT _)
 exfs:=fun b hb z=>by
  rcases aq.mp (I.stkSub b z)with e | e
  ·exact(hf b hb).2.1 e
  ·exact(hf b hb).2.2.1 e
 funs:=I.stack
 frf:=I.stkFree
theorem Q7h (I:A0 X ac σ H s) (B:G7 X scope N nt cap) {C:Addr}{fp:List Addr} (hf:∀b∈fp,J9 X ac H b) (eS:∀b∈fp,b<s.heap.objs.size) {h':Heap}{t':Nat}{m:Str->Option Value}
  (hC:s.heap.objs.size<=C) (ii:h'.Ns C m) (k:∀b o,s.heap.get? b=some o->h'.get? b=some o) :
  A0 (blk X scope C s H fp N) [] (List.replicate nt none++cap.map fun i=>(σ[i]?).join) H { s with heap:=h',toks:=t' }:=by
 refine⟨Y6x I B hC hf eS,rfl,I.bare,Un.kept k,⟨m,ii,fun i x v h1 h2 h3=>?_⟩,fun x c h=>?_,I.hok.fresh hC,fun x c h=>I.freeC x c (U0 I B h),(fun p hp=>by cases hp),I.hok.kept k,?_⟩
 ·have h1:N[i]?=some x:=h1
  by_cases hi:i<nt
  ·rw [aI (by rw [aV];exact hi)]at h2
   have:=aE h2
   rw [List.mem_replicate]at this
   cases this.2
  ·rw [aQ (by rw [aV];omega),aV,ak]at h2
   cases e:cap[i-nt]? with
   | none=>rw [e]at h2;cases h2
   | some j =>
    rw [e]at h2
    have h2:(σ[j]?).join=some v:=aC h2
    have hσ:σ[j]?=some (some v):=by
     cases q:σ[j]? with
     | none=>rw [q]at h2;cases h2
     | some o=>rw [q]at h2;exact congrArg some h2
    obtain⟨hN,hx⟩:=B.caps (i-nt) j x e (by rw [show nt+(i-nt)=i by omega];exact h1)
    obtain⟨m0,rV,hl⟩:=I.loc
    have kd:=B.free _ hx rfl
    obtain⟨u,r,l⟩:=hl j x v hN hσ (.inr kd)
    refine⟨u,r,?_⟩
    obtain⟨c,hc⟩:=Z1f I B hx
    have cT:∃c',X.env.cells.lookup x=some c'/\s.heap.IsCell c' (some u):=by
     rcases l with⟨l1,_⟩ | ⟨_,l2⟩
     ·rcases kd with kd | kd
      ·rw [kd]at l1;cases l1
      ·rw [kd]at l1;cases l1
     ·exact l2
    obtain⟨c',cN,o,ho,hd⟩:=cT
    rw [U0 I B hc]at cN;cases cN
    have h3:Vis (relabel scope X.env) x:=h3
    refine .inr ⟨?_,c,hc,o,k _ _ ho,hd⟩
    rcases h3 with h3 | h3 | h3
    ·exfalso
     have m1:=Q7z h3
     unfold relabel at m1
     obtain⟨⟨n,k'⟩,hm,e'⟩:=au.mp m1
     dsimp only at e'
     split at e'
     ·cases e'
     ·cases e'
      have a1:=B.names _ hm rfl
      have a1:scope.names.lookup x=some .local:=a1
      rw [B.only _ hx rfl]at a1;cases a1
    ·exact .inl h3
    ·exact .inr h3
 ·obtain⟨v,o,ho,hd⟩:=I.cell x c (U0 I B h)
  exact⟨v,o,k _ _ ho,hd⟩
 ·rw [aD,aV,ah];exact B.len.symm
end
section
variable {prog:Program}{w:World}{A:Around}{RR:Result->Shared->Prop}{s:Shared}
theorem Z1g {dH target iter:Expr}{e7:List Expr}{scope:Scope}{pos:Pos}{it acc:Value}{env:Env} (I:Nat->Shared->Prop)
  (eN:∀n s,I n s->wpAny (model prog w) A (pyNext it) (fun r s₁=>match r with
   | none=>RR (.ok .next) s₁
   | some v=>wpAny (model prog w) A (letOwnedTupleGo target it v) (fun _ sa=>wpAny (model prog w) A (assign target env v) (fun _ s₂ =>
     wpAny (model prog w) A (forIn e7 true fun c r=>if r=true then do let ok <- isTrue c env (eval c env);pure (ForInStep.yield ok)else pure (ForInStep.yield r)) (fun ok s₃ =>
      if ok=true then wpAny (model prog w) A (eval dH env) (fun x s₄ =>
       wpAny (model prog w) A (call (.builtin "list.append") [acc,x]) (fun _ s₅=>∃m,m<n/\I m s₅) (fun _ _=>False) s₄) (fun _ _=>False) s₃
      else ∃m,m<n/\I m s₃) (fun _ _=>False) s₂) (fun _ _=>False) sa) (fun _ _=>False) s₁) (fun _ _=>False) s)
  (n:Nat) (h:I n s):codeAny (model prog w) A (.compLoop (.ListComp dH [⟨target,iter,e7,0⟩] scope pos) 0 it acc env) RR s:=by
 refine codeAny_loop rfl I (fun n s hI=>?_) n h
 show wpAny _ _ ((compTurn (.ListComp dH [⟨target,iter,e7,0⟩] scope pos) 0 it acc env).onRaise (fun x=>do noteFrame x env;theTreesLotGoes x)) _ _ s
 refine wpAny_noted ?_
 rw [compTurn_list]
 refine aa (fx (aa (aR (eN n s hI) (fun r s₁ h₁=>?_) fun _ _ h'=>h'.elim)))
 cases r with
 | none=>exact ai h₁
 | some v =>
  refine aa (aR h₁ (fun _ sa ha=>?_) fun _ _ h'=>h'.elim)
  refine aa (aR ha (fun _ s₂ h₂=>aa (aR h₂ (fun ok s₃ h₃=>?_) fun _ _ h'=>h'.elim)) fun _ _ h'=>h'.elim)
  cases ok with
  | false=>exact ai ⟨rfl,h₃⟩
  | true =>
   exact aa (aa (aR h₃ (fun x s₄ h₄=>aa (aR h₄ (fun _ s₅ h₅=>ai (ai ⟨rfl,h₅⟩)) fun _ _ h'=>h'.elim)) fun _ _ h'=>h'.elim))
end
structure YlS (K:Fg9) (J:It) (ds:List D) (H:Hp):Prop where
 go:∀H',A3 H H'->∀i,i<ds.length->J.go i H'
 yld:∀H',A3 H H'->∀i x cW d,ds[i]?=some d->J.yld i H' x cW->A3 H' cW/\A1 K cW d x
 stop:∀H',A3 H H'->J.stop ds.length H'
noncomputable abbrev M6:=A6->(List D->Prop)->Prop
noncomputable def W0n (K:Fg9) (H0:Hp) (wi:M6):TI:=fun σ H R=>∃ τ,B6 K H0 τ σ H/\wi τ fun ds=>∀J H',A3 H H'->YlS K J ds H'->R J H'
structure D7 (X:Cx) (H0:Hp) (tg iter:Expr) (wi:M6):Prop where
 mono:∀ τ (P Q:List D->Prop),(∀ds,P ds->Q ds)->wi τ P->wi τ Q
 pi:PI X tg iter (W0n X.K H0 wi)
def IfsR (X:Cx) (e7:List Expr) (t:TT):Prop :=
 ∀(ac:Pn9) (s:Shared) (σ:St) (H:Hp) (Q:Bool->Hp->Prop),A0 X ac σ H s->t σ H Q ->
  wpAny (model X.prog X.w) X.A (forIn e7 true fun c r=>if r=true then do let ok <- isTrue c X.env (eval c X.env);pure (ForInStep.yield ok)else pure (ForInStep.yield r)) (TP X ac σ Q) X.xe s
structure M3 (X:Cx) (H0:Hp) (e7:List Expr) (t:WT):Prop where
 mono:∀(τ:A6) (P Q:Bool->Prop),(∀r,P r->Q r)->t τ P->t τ Q
 pt:IfsR X e7 (Z2k X.K H0 t)
theorem M3.nil {X:Cx}{H0:Hp}:M3 X H0 [] (fun _ Q=>Q true) where
 mono:=fun τ P Q f h=>f _ h
 pt:=fun ac s σ H Q I ⟨τ,hR,h⟩=>wpAny_tests_nil ⟨H,I,h H (A3.refl H)⟩
theorem M3.one {X:Cx}{H0:Hp}{c:Expr}{t:WT} (hc:DT X H0 c t):M3 X H0 [c] t where
 mono:=hc.mono
 pt:=fun ac s σ H Q I h=>wpAny_tests_one (hc.pt ac s σ H Q I h)
noncomputable def G8 (g:WG) (t:WT) (we:WE):List D->A6->(List D->Prop)->Prop
 | [],_,Q=>Q []
 | d::ds,τ,Q=>g d τ fun τ'=>t τ' fun k=>if k=true then we τ' fun r=>∃e,r=.st e/\G8 g t we ds τ' fun es=>Q (e::es)else G8 g t we ds τ' Q
theorem Z1h {g:WG}{t:WT}{we:WE} (hg:∀d τ (P Q:A6->Prop),(∀ τ,P τ->Q τ)->g d τ P->g d τ Q) (ht:∀(τ:A6) (P Q:Bool->Prop),(∀r,P r->Q r)->t τ P->t τ Q) (he:∀(τ:A6) (P Q:R->Prop),(∀r,P r->Q r)->we τ P->we τ Q) :
  ∀(ds:List D) (τ:A6) (P Q:List D->Prop),(∀es,P es->Q es)->G8 g t we ds τ P->G8 g t we ds τ Q
 | [],_,_,_,f,h=>f _ h
 | d::ds,τ,P,Q,f,h=>hg d τ _ _ (fun τ' h=>ht τ' _ _ (fun k h=>Q0x (fun h=>he τ' _ _ (fun r ⟨e,e1,h⟩=>⟨e,e1,Z1h hg ht he ds τ' _ _ (fun es h=>f _ h) h⟩) h) (fun h=>Z1h hg ht he ds τ' _ _ f h) h) h) h
noncomputable def Q5a:Sl->Option Sl
 | .dat d=>some (.dat d)
 | .own ds=>some (.bor ds)
 | .bor ds=>some (.bor ds)
 | .dt k=>some (.bd k)
 | .bd k=>some (.bd k)
 | .cl a Φ=>some (.cl a Φ)
 | _=>none
noncomputable def Q3 (nt:Nat) (cap:List Nat) (τ:A6):A6:=List.replicate nt none++cap.map fun i=>((τ[i]?).join).bind Q5a
theorem Z3i {K:Fg9}{H0 H:Hp} {τ:A6} {σ:St} (hR:B6 K H0 τ σ H) (nt:Nat) (cap:List Nat):B6 K H (Q3 nt cap τ) (List.replicate nt none++cap.map fun i=>(σ[i]?).join) H:=by
 have at_:∀(i:Nat) (s:Sl),(Q3 nt cap τ)[i]?=some (some s)->nt<=i/\∃j t,cap[i-nt]?=some j/\τ[j]?=some (some t)/\Q5a t=some s:=fun i s e=>by
  unfold Q3 at e
  by_cases hi:i<nt
  ·rw [aI (by rw [aV];exact hi)]at e
   have:=aE e
   rw [List.mem_replicate]at this
   cases this.2
  ·rw [aQ (by rw [aV];omega),aV,ak]at e
   cases q:cap[i-nt]? with
   | none=>rw [q]at e;cases e
   | some j =>
    rw [q]at e
    have e:((τ[j]?).join).bind Q5a=some s:=aC e
    cases q2:τ[j]? with
    | none=>rw [q2]at e;cases e
    | some o =>
     rw [q2]at e
     cases o with
     | none=>cases e
     | some t=>exact⟨by omega,j,t,rfl,q2,e⟩
 refine⟨?_,A3.refl H,fun i s e=>?_,fun i j s t v _ e1 _ m _ _ _=>?_⟩
 ·unfold Q3
  rw [aD,aD,ah,ah,aV,aV]
 ·obtain⟨hi,j,t,hc,ht,hb⟩:=at_ i s e
  obtain⟨v,hv,q⟩:=hR.here j t ht
  refine⟨v,?_,?_⟩
  ·rw [aQ (by rw [aV];omega),aV,ak,hc]
   show some ((σ[j]?).join)=_
   rw [hv];rfl
  ·cases t with
   | dat d=>cases hb;exact q
   | own ds=>cases hb;obtain⟨a,xs,e,_,q,al⟩:=q;exact⟨a,xs,e,q,al⟩
   | bor ds=>cases hb;obtain⟨a,xs,e,q,al⟩:=q;exact⟨a,xs,e,hR.same _ _ q,al⟩
   | bd ds=>cases hb;obtain⟨a,xs,e,q,al⟩:=q;exact⟨a,xs,e,hR.same _ _ q,al⟩
   | dk _=>cases hb
   | dt ds=>cases hb;obtain⟨a,xs,e,_,q,al⟩:=q;exact⟨a,xs,e,q,al⟩
   | ob _=>cases hb
   | cl _ _=>cases hb;exact q
   | ll _ _=>cases hb
   | ins _ _ _=>cases hb
 ·obtain⟨hi,j',t',hc,ht,hb⟩:=at_ i s e1
  cases t' with
  | dat d=>cases hb;cases m
  | own ds=>cases hb;cases m
  | bor ds=>cases hb;cases m
  | dk _=>cases hb
  | dt _=>cases hb;cases m
  | bd _=>cases hb;cases m
  | ob _=>cases hb
  | cl _ _=>cases hb;cases m
  | ll _ _=>cases hb
  | ins _ _ _=>cases hb
theorem Z8l {C:Addr}{h h':Heap} (sb:Heap.SameBut C h h'):∀b o,b≠C->h.get? b=some o->h'.get? b=some o:=fun b o hb e=>(sb.2 b hb).trans e
theorem Z1c {X:Cx}{ac:Pn9} {σ:St}{H2 H':Hp}{s2 s1:Shared}{scope:Scope}{C D0:Addr}{fp:List Addr}{N:List Str}{pb:Pn9} {σ':St}{vs:List V}{ys:Array Value}{h':Heap}
  (I2:A0 X ac σ H2 s2) (Ib:A0 (blk X scope C s2 H2 fp N) pb σ' H' s1) (f2:∀b∈fp,J9 X ac H2 b) (hC:s2.heap.objs.size<=C) (hD:s2.heap.objs.size<=D0) (cE:D0≠C) (mq:H' D0=none)
  (hl:s1.heap.PlainList D0 ys) (rv:B4 vs ys.toList) (hz:vs.length<=sizeLine) (sb:Heap.SameBut C s1.heap h'):A0 X ac σ (upd H' D0 (.lst vs)) { s1 with heap:=h' }:=by
 have iR:∀b o,s2.heap.get? b=some o->b≠C:=fun b o e=>aB (az (ay e) hC)
 have lh:∀b o,s2.heap.get? b=some o->b≠D0:=fun b o e=>aB (az (ay e) hD)
 have keep:=Z8l sb
 have base:Un (frs X.stack) fp H2 H' s2.heap s1.heap:=Ib.base
 have mr:H' C=none:=Ib.free
 have gk:∀b u,H' b=some u->b≠C:=fun b u e z=>by rw [z,mr]at e;cases e
 have fT:∀b u,H' b=some u->b≠D0:=fun b u e z=>by rw [z,mq]at e;cases e
 refine I2.call' (s':={ s1 with heap:=h' }) (ch:=fp) Ib.os ⟨fun b o e n hb hx=>keep b o (iR b o e) (base.keep b o e n hb hx),fun b o e n hb hx=>?_,fun b o e n hx=>?_,fun b o e hx=>?_,fun b xs e=>?_,fun b o u e=>?_,fun b ps e=>?_⟩ (fun b u e=>?_) Ib.bare (fun b hb=>?_)
 ·obtain⟨sl,q⟩:=base.slot b o e n hb hx
  exact⟨sl,keep b _ (iR b o e) q⟩
 ·rw [A9 (lh b o e)];exact base.free b o e n hx
 ·obtain⟨o',q⟩:=base.there b o e hx
  exact⟨o',keep b o' (iR b o e) q⟩
 ·have q:=base.tups b xs e
  rw [A9 (fT b _ q)];exact q
 ·have q:=base.frzs b o u e
  rw [A9 (fT b _ q)];exact q
 ·obtain⟨more,q⟩:=base.tbls b ps e
  exact⟨more,by rw [A9 (fT b _ q)];exact q⟩
 ·by_cases hb:b=D0
  ·subst hb
   rw [upd_same]at e;cases e
   obtain⟨n,ho⟩:=hl
   exact⟨hz,ys.toList,n,rv,keep b _ cE (by rw [ho])⟩
  ·rw [A9 hb]at e
   refine(Ib.hok b u e).stay (fun c v hc q=>keep c v ?_ q) (fun c u _ q=>by rw [A9 (fT c _ q)];exact q) fun c xs q=>by rw [A9 (fT c _ q)];exact q
   rcases hc with z | z
   ·rw [z];exact gk b u e
   ·exact gk c _ z
 ·obtain⟨_,a2,a3,a4,a5,a6⟩:=f2 b hb
  exact⟨a4,a2,a5,a6⟩
section
variable {X:Cx}{H0:Hp}{tg iter dH:Expr}{e7:List Expr}{scope:Scope}{pos:Pos}{N:List Str}{nt:Nat}{cap:List Nat}{wi:M6}{g:WG}{t:WT}{we:WE}
def N5 (nt:Nat) (cap:List Nat) (wi:M6) (g:WG) (t:WT) (we:WE):WE:=fun τ Q=>wi τ fun ds=>ds.length<=sizeLine/\G8 g t we ds (Q3 nt cap τ) fun es=>Q (.nw es)
theorem Z7n {use:Option (Value->Sem Unit)}{QQ:VS9}{P:List D->Prop}{fS:Pos}{ac:Pn9}{s:Shared} {σ:St}{H:Hp} {τ:A6} (hc:X.calm=true) (B:G7 X scope N nt cap) (hi:D7 X H0 tg iter wi)
  (hg:∀C s H fp,DG (blk X scope C s H fp N) H tg g) (ht:∀C s H fp,M3 (blk X scope C s H fp N) H e7 t) (he:∀C s H fp,DE (blk X scope C s H fp N) H dH we) (hs:∀x,foldedSetIterable iter X.env x=pure x)
  (I:A0 X ac σ H s) (hR:B6 X.K H0 τ σ H) (hw:wi τ fun ds=>ds.length<=sizeLine/\G8 g t we ds (Q3 nt cap τ) P)
  (fin:∀(C D0:Addr) (s2 s4:Shared) (H2 H4:Hp) (fp:List Addr) (pb:Pn9) (σ4:St) (vs:List V) (ys:Array Value) (es:List D) (f:Flow),A0 X ac σ H2 s2->A3 H H2->A0 (blk X scope C s2 H2 fp N) pb σ4 H4 s4->(∀b∈fp,J9 X ac H2 b) ->
   s2.heap.objs.size<=C->s2.heap.objs.size<=D0->D0≠C->H4 D0=none->s4.heap.PlainList D0 ys->B4 vs ys.toList->vs.length<=sizeLine->A3 H2 H4->AllS X.K H4 es vs->P es->compPost (model X.prog X.w) X.A X.xe use QQ (.ref D0) C (.ok f) s4) :
  wpAny (model X.prog X.w) X.A (comprehension (.ListComp dH [⟨tg,iter,e7,0⟩] scope pos) scope X.env fS (newList []) false (eval iter X.env) use) QQ X.xe s:=by
 refine wpAny_comprehension_free rfl hs (Q7l fun y hy e=>I.ok.has y.1 (B.free y hy e)) B.kind B.names ?_
 refine B3 (hi.pi ac s σ H (fun J H2=>A3 H H2/\∃ds,YlS X.K J ds H2/\ds.length<=sizeLine/\G8 g t we ds (Q3 nt cap τ) P) I
  ⟨τ,hR,hi.mono τ _ _ (fun ds h J H' sm yl=>⟨sm,ds,yl,h.1,h.2⟩) hw⟩) fun v s1 h1=>B3 h1 fun ic s2 h2=>?_
 obtain⟨it,fp,tn,J,H2,e,I2,T,dG,f2,cM,ds,yl,hz,jH⟩:=h2
 subst e
 have eS:∀b∈fp,b<s2.heap.objs.size:=fun b hb=>by
  obtain⟨o,ho,_⟩:=T.obj _ _ dG b hb
  exact ay ho
 have cX:=hR.mono cM
 refine bb (fJ B.cell (by intro y hy;simp at hy) (fun h₁ cC cp=>?_) B.kind)
 dsimp only at cC cp ⊢
 generalize hH2:s2.heap.push { cls:=.type "list",dict:=none,data:=.seq ([]:List Value).toArray }=Hq at cC cp ⊢
 have hC:Hq.objs.size=s2.heap.objs.size+1:=by rw [<- hH2,bv]
 have cE:s2.heap.objs.size≠Hq.objs.size:=by rw [hC];exact aB (cf _)
 have cm:s2.heap.objs.size<=Hq.objs.size:=by rw [hC];exact cx _
 have old:∀b o,s2.heap.get? b=some o->h₁.get? b=some o:=fun b o e=>cp.extBut b o (by rw [hC];exact aB (be (ay e))) (ae _ (hH2 ▸ ae _ e))
 have dl:h₁.PlainList s2.heap.objs.size #[]:=⟨_,cp.extBut _ _ cE (ae _ (hH2 ▸ aF _ rfl))⟩
 generalize hCe:Hq.objs.size=C at cC cp hC cE cm ⊢
 generalize hDe:s2.heap.objs.size=D0 at hC cE cm dl ⊢
 have cL:∀b∈fp,b<D0:=fun b hb=>hDe ▸ eS b hb
 have dB:tn 0 h₁:=T.keep _ _ _ dG fun b _ o e=>old b o e
 have jd:=Q7h (C:=C) (h':=h₁) (t':=s2.toks+([]:List (Str×Value)).length) I2 B f2 eS (by rw [hDe];exact cm) cC old
 have fH:H2 D0=none:=I2.hok.fresh (by rw [hDe];exact aj _)
 have iP:D0∉frs X.stack:=fun z=>by
  rcases aq.mp (I2.stkSub _ z)with e | e
  ·have:=I2.lt;rw [<- e,hDe]at this;exact aT _ this
  ·exact I2.nofs (by rw [hDe];exact aj _) e
 have iQ:∀x c,(Q4 X.env scope.names []).lookup x=some c->c≠D0:=fun x c h z=>by
  obtain⟨v,q⟩:=I2.cell x c (U0 I2 B h)
  have:=q.lt
  rw [z,hDe]at this
  exact aT _ this
 have dA:∀{pb:Pn9} {σ':St}{H':Hp}{s':Shared}{ys:Array Value}{n:Nat},A0 (blk X scope C s2 H2 fp N) pb σ' H' s'->H' D0=none->s'.heap.get? D0=some { cls:=.type "list",data:=.seq ys n } ->
   A0 (blk X scope C s2 H2 fp N) [(D0,{ cls:=.type "list",data:=.seq ys n })] σ' H' s':=by
  intro pb σ' H' s' ys n I' n' e
  refine I'.pins_of fun p hp=>?_
  have e':p=(D0,{ cls:=.type "list",data:=.seq ys n }):=by simpa using hp
  subst e'
  exact⟨e,n',cE,iP,fun v z=>by cases z⟩
 have eV:∀{H':Hp}{ob:Obj},(∀b∈fp,H' b=none)->∀b∈fp,J9 (blk X scope C s2 H2 fp N) [(D0,ob)] H' b:=by
  intro H' ob hn b hb
  refine⟨hn b hb,(aB (az (cL b hb) cm)),fun z=>?_,.inl hb,fun x c h=>(f2 b hb).2.2.2.2.1 x c (U0 I2 B h),fun p hp=>?_⟩
  ·rcases aq.mp (I2.stkSub b z)with e | e
   ·exact(f2 b hb).2.1 e
   ·exact(f2 b hb).2.2.1 e
  ·have e':p=(D0,ob):=by simpa [blk]using hp
   subst e'
   exact(aB (cL b hb)).symm
 let iH:Nat->Shared->Prop:=fun k s'=>∃(i:Nat) (σ':St) (H':Hp) (τ':A6) (ys:Array Value) (nn:Nat) (vs:List V) (es:List D),A0 (blk X scope C s2 H2 fp N) [(D0,{ cls:=.type "list",data:=.seq ys nn })] σ' H' s'/\B6 X.K H2 τ' σ' H'/\tn i s'.heap /\
  (∀b∈fp,H' b=none)/\H' D0=none/\B4 vs ys.toList/\AllS X.K H' es vs/\i<=ds.length/\k=ds.length-i/\es.length<=i/\G8 g t we (ds.drop i) τ' fun cH=>P (es++cH)
 have loop:∀s₃:Shared,s₃={ s2 with heap:=h₁,toks:=s2.toks+([]:List (Str×Value)).length } ->
   codeAny (model X.prog X.w) X.A (.compLoop (.ListComp dH [⟨tg,iter,e7,0⟩] scope pos) 0 (.ref it) (.ref D0) (compEnvC scope (Q4 X.env scope.names []) C X.env))
    (compPost (model X.prog X.w) X.A X.xe use QQ (.ref D0) C) s₃:=by
  rintro s₃ rfl
  obtain⟨nn,ho⟩:=id dl
  refine Z1g iH ?_ ds.length ⟨0,_,H2,Q3 nt cap τ,#[],nn,[],[],dA jd fH ho,Z3i cX nt cap,dB,fun b hb=>(f2 b hb).1,fH,.nil,AllS.nil,ba _,rfl,aj _,by simpa using jH⟩
  rintro k s3 ⟨i,σ3,H3,τ3,ys,nn,vs,es,I3,R3,eJ,fg,d3,i5,jc,nD,rfl,io,w3⟩
  have bY:A3 H2 H3:=R3.same
  by_cases bR:i<ds.length
  ·refine aR (T.item (blk X scope C s2 H2 fp N) rfl rfl rfl hc i _ s3 σ3 H3 (fun _ _=>False) I3 (eV fg) eJ (yl.go H3 bY i bR)) (fun r s4 br=>?_) fun _ _ z=>z
   obtain⟨u,hr,h4⟩:=br
   subst hr
   refine aR h4 (fun _ s5 br=>?_) fun _ _ z=>z
   obtain⟨x,H5,I5,r5,y5,dF,gX⟩:=br
   obtain⟨fB,ix⟩:=yl.yld H3 bY i x H5 _ (af bR) y5
   rw [cD bR]at w3
   have h8:=I5.pinned (eV gX) (T.obj _ _ dF)
   have again:∀{σ7:St}{H7:Hp}{s7:Shared} {τ7:A6}{kq:Array Value}{l9:Nat}{vs7:List V}{es7:List D},A0 (blk X scope C s2 H2 fp N) (T7 fp s5.heap) σ7 H7 s7->B6 X.K H2 τ7 σ7 H7->H7 D0=none->s7.heap.get? D0=some { cls:=.type "list",data:=.seq kq l9 } ->
     B4 vs7 kq.toList->AllS X.K H7 es7 vs7->es7.length<=i+1->G8 g t we (ds.drop (i+1)) τ7 (fun cH=>P (es7++cH))->∃m,m<ds.length-i/\iH m s7:=by
    intro σ7 H7 s7 τ7 kq l9 vs7 es7 I7 R7 d7 o7 kY rJ m3 w7
    have oI:tn (i+1) s7.heap:=T.keep _ _ _ dF fun b hb o e=>(I7.pin (b,o) (av _ (Q0i hb e))).1
    refine⟨ds.length-(i+1),by omega,i+1,σ7,H7,τ7,kq,l9,vs7,es7,dA I7 d7 o7,R7,oI,fun b hb=>?_,d7,kY,rJ,bR,rfl,m3,w7⟩
    obtain⟨o,e,_⟩:=T.obj _ _ dF b hb
    exact(I7.pin (b,o) (av _ (Q0i hb e))).2.1
   refine aR ((hg C s2 H2 fp).pg _ s5 σ3 H5 x u (fun σ6 H6=>∃ τ6,B6 X.K H2 τ6 σ6 H6/\A3 H5 H6/\t τ6 fun k=>if k=true then we τ6 fun r=>∃e,r=.st e/\G8 g t we (ds.drop (i+1)) τ6 fun cH=>P (es++(e::cH))
     else G8 g t we (ds.drop (i+1)) τ6 fun cH=>P (es++cH)) h8 r5 ⟨τ3,ds[i],R3.mono fB,ix,(hg C s2 H2 fp).mono _ _ _ _ (fun τ6 h6 σ6 H6 fQ R6=>⟨τ6,R6,fQ,h6⟩) w3⟩) (fun _ s6 ⟨σ6,H6,I6,τ6,R6,fQ,w6⟩=>?_) fun _ _ z=>z
   refine aR ((ht C s2 H2 fp).pt _ s6 σ6 H6 (fun k H7=>A3 H6 H7/\if k=true then we τ6 fun r=>∃e,r=.st e/\G8 g t we (ds.drop (i+1)) τ6 fun cH=>P (es++(e::cH))
     else G8 g t we (ds.drop (i+1)) τ6 fun cH=>P (es++cH)) I6 ⟨τ6,R6,(ht C s2 H2 fp).mono τ6 _ _ (fun k h H7 fA=>⟨fA,h⟩) w6⟩) (fun ok s7 ⟨H7,I7,fA,w7⟩=>?_) fun _ _ z=>z
   have pd:∀{σ':St}{H':Hp}{s':Shared},A0 (blk X scope C s2 H2 fp N) ([(D0,{ cls:=.type "list",data:=.seq ys nn })]++T7 fp s5.heap) σ' H' s'->s'.heap.get? D0=some { cls:=.type "list",data:=.seq ys nn }/\H' D0=none:=fun I' =>
    ⟨(I'.pin (D0,_) (av _ (bf _ ao))).1,(I'.pin (D0,_) (av _ (bf _ ao))).2.1⟩
   have pf:∀{σ':St}{H':Hp}{s':Shared},A0 (blk X scope C s2 H2 fp N) ([(D0,{ cls:=.type "list",data:=.seq ys nn })]++T7 fp s5.heap) σ' H' s'->A0 (blk X scope C s2 H2 fp N) (T7 fp s5.heap) σ' H' s':=fun I' =>
    I'.pins_of fun p hp=>I'.pin p (av _ (av _ hp))
   have mS:A3 H3 H7:=fB.trans (fQ.trans fA)
   cases ok with
   | false =>
    rw [aH bF]at w7 ⊢
    exact again (pf I7) (R6.mono fA) (pd I7).2 (pd I7).1 i5 (jc.mono (Kp.of mS) _ _) (by omega) w7
   | true =>
    rw [aJ rfl]at w7 ⊢
    refine aR ((he C s2 H2 fp).pe _ s7 σ6 H7 (fun v H8=>A3 H7 H8/\∃e,A1 X.K H8 e v/\G8 g t we (ds.drop (i+1)) τ6 fun cH=>P (es++(e::cH))) I7
     ⟨τ6,R6.mono fA,(he C s2 H2 fp).mono τ6 _ _ (fun r ⟨e,e1,h⟩ v H8 fP ir=>⟨fP,e,by subst e1;exact ir,h⟩) w7⟩) (fun y s8 ⟨v8,H8,I8,iN,fP,e8,lw,w8⟩=>?_) fun _ _ z=>z
    obtain⟨o8,d8⟩:=pd I8
    have jG:ys.size<=sizeLine:=by
     have e1:=i5.length
     have e2:=jc.length
     have e4:ys.toList.length=ys.size:=by simp
     omega
    refine wpAny_list_append_plain (hsz:=jG) ⟨nn,o8⟩ fun h₅ jL iU=>?_
    have I9:A0 (blk X scope C s2 H2 fp N) (T7 fp s5.heap) σ6 H8 { s8 with heap:=h₅ }:=by
     refine(pf I8).turned (t':=s8.toks) (it:=D0) (fun b o hb e=>(iU.2 b hb).trans e) d8 cE (.inr (by rw [<- hDe];exact aj _)) iQ (fun p hp z=>?_)
     obtain⟨q1,_⟩:=Q6h (by simpa [blk]using hp)
     exact aB (cL _ q1) z
    obtain⟨jB,o9⟩:=jL
    refine again I9 (R6.mono (fA.trans fP)) d8 o9 (vs7:=vs++[v8]) (es7:=es++[e8]) ?_ ((jc.mono (Kp.of (mS.trans fP)) _ _).append (AllS.cons lw AllS.nil)) (by rw [aD];simpa using io) ?_
    ·have:(ys.push y).toList=ys.toList++[y]:=by simp
     rw [this]
     exact i5.append (.cons iN .nil)
    ·simpa using w8
  ·have e:i=ds.length:=by omega
   subst e
   refine aR (T.done (blk X scope C s2 H2 fp N) rfl rfl rfl hc ds.length _ s3 σ3 H3 (fun _ _=>False) I3 (eV fg) eJ (yl.stop H3 bY)) (fun r s4 br=>?_) fun _ _ z=>z
   obtain⟨hr,I4⟩:=br
   subst hr
   have o4:=(I4.pin (D0,_) (av _ ao)).1
   rw [fM]at w3
   have w3:P (es++[]):=w3
   rw [bD]at w3
   have lE:vs.length<=sizeLine:=by rw [<- jc.length];omega
   exact fin C D0 s2 s4 H2 H3 fp _ σ3 vs ys es _ I2 cM I4 f2 (by rw [hDe];exact cm) (by rw [hDe];exact aj _) cE d3 ⟨nn,o4⟩ i5 lE bY jc w3
 exact codeAny_compStart_list (loop _ rfl) (T.self _ 0 _ _ _ dB (loop _ rfl))
theorem DE.comp (hc:X.calm=true) (B:G7 X scope N nt cap) (hi:D7 X H0 tg iter wi) (hg:∀C s H fp,DG (blk X scope C s H fp N) H tg g) (ht:∀C s H fp,M3 (blk X scope C s H fp N) H e7 t)
  (he:∀C s H fp,DE (blk X scope C s H fp N) H dH we) (hs:∀x,foldedSetIterable iter X.env x=pure x:=by intro _;rfl) :
  DE X H0 (.ListComp dH [⟨tg,iter,e7,0⟩] scope pos) (N5 nt cap wi g t we) where
 mono:=fun τ P Q f h=>hi.mono τ _ _ (fun ds h=>⟨h.1,Z1h (hg 0 X.s₀ X.H₀ []).mono (ht 0 X.s₀ X.H₀ []).mono (he 0 X.s₀ X.H₀ []).mono ds _ _ _ (fun es h=>f _ h) h.2⟩) h
 pe:=by
  intro ac s σ H Q I ⟨τ,hR,hw⟩
  rw [eval_ListComp]
  refine Z7n hc B hi hg ht he hs I hR hw fun C D0 s2 s4 H2 H4 fp pb σ4 vs ys es f I2 cM I4 f2 hC hD cE hn hl rv hz fy al w3=>?_
  obtain⟨m4,gP,_⟩:=id I4.loc
  refine⟨m4,gP,fun h' sb=>?_⟩
  exact⟨.ref D0,_,Z1c I2 I4 f2 hC hD cE hn hl rv hz sb,rfl,w3 _ _ (cM.trans (fy.trans (C8 hn _))) ⟨D0,vs,rfl,cM.free (I2.hok.fresh hD),upd_same,al.mono (Kp.of (C8 hn _)) _ _⟩⟩
end
section
variable {X:Cx}{H0:Hp}{tg iter dH:Expr}{e7:List Expr}{scope:Scope}{pos bj eA:Pos}{N:List Str}{nt:Nat}{cap:List Nat}{wi:M6}{g:WG}{t:WT}{we:WE}
theorem DS.setC {i:Nat}{x:Str} (hc:X.calm=true) (B:G7 X scope N nt cap) (hi:D7 X H0 tg iter wi) (hg:∀C s H fp,DG (blk X scope C s H fp N) H tg g) (ht:∀C s H fp,M3 (blk X scope C s H fp N) H e7 t)
  (he:∀C s H fp,DE (blk X scope C s H fp N) H dH we) (hN:X.N.Nodup) (j4:X.N[i]?=some x) (hx:Loc X.env.scope x)
  (fm:swapsWith (.ListComp dH [⟨tg,iter,e7,0⟩] scope pos) (some (.Name x bj)) eA.line X.env=pure true:=by rfl) (hs:∀x,foldedSetIterable iter X.env x=pure x:=by intro _;rfl)
  (hf:X.fn x=true\/X.env.scope.names.lookup x=some .local:=by first | exact .inl rfl | exact .inr rfl | assumption) :
  DS X H0 (.Assign [.Name x bj] (.ListComp dH [⟨tg,iter,e7,0⟩] scope pos) eA) (C5 i (N5 nt cap wi g t we)) where
 mono:=fun τ E F le h=>(DE.comp (pos:=pos) hc B hi hg ht he hs).mono τ _ _ (fun r h=>Z3w (fun s h=>le.nx _ h) h) h
 ps:=by
  intro ac s σ H D I ⟨τ,hR,hw⟩
  rw [exec_Assign_Name_used _ _ _ _ fm]
  refine aa (fx (aa ?_))
  show wpAny _ X.A (do let _ <- comprehension (.ListComp dH [⟨tg,iter,e7,0⟩] scope pos) scope X.env _ (newList []) false (eval iter X.env) (some (assign (.Name x bj) X.env))) _ _ s
  refine aa (aR (Z7n (use:=some (assign (.Name x bj) X.env)) (QQ:=fun _ s'=>SP X ac D .next s') hc B hi hg ht he hs I hR hw fun C D0 s2 s4 H2 H4 fp pb σ4 vs ys es f I2 cM I4 f2 hC hD cE hn hl rv hz fy al w3=>?_)
   (fun _ s' hq=>ai (ai hq)) fun _ _ e=>e)
  have Ib:A0 X ac σ (upd H4 D0 (.lst vs)) { s4 with heap:=s4.heap }:=Z1c I2 I4 f2 hC hD cE hn hl rv hz ⟨rfl,fun _ _=>rfl⟩
  have iF:C≠X.env.locals:=fun z=>aT _ (az I2.lt (z ▸ hC))
  have iE:∀x c,X.env.cells.lookup x=some c->c≠C:=fun x c h z=>by
   obtain⟨v,q⟩:=I2.cell x c h
   exact aT _ (az q.lt (z ▸ hC))
  show wpAny _ X.A (assign (.Name x bj) X.env (.ref D0)) _ _ s4
  refine wpAny_assign_Name (Q9f (v:=.ref D0) Ib hN j4 hx rfl (fun s5 I5 br=>?_) hf)
  obtain⟨a,jw,ha⟩:=br
  obtain⟨m4,gP,_⟩:=id I4.loc
  have kb:C≠a:=by
   rcases ha with ha | ha
   ·rw [ha];exact iF
   ·exact fun z=>iE _ _ ha z.symm
  refine⟨m4,gP.sameBut jw kb,fun h' sb=>?_⟩
  have kc:H4 C=none:=I4.free
  have I6:A0 X ac (σ.set i (some (.ref D0))) (upd H4 D0 (.lst vs)) { s5 with heap:=h' }:=by
   refine I5.turned (t':=s5.toks) (it:=C) (fun b o hb e=>(sb.2 b hb).trans e) (by rw [A9 (bt cE)];exact kc) iF (.inr (aX I2.sz hC)) iE fun p hp z=>?_
   have:=(I2.pin p hp).1
   exact aT _ (az (ay this) (z ▸ hC))
  obtain⟨sl,p,cG⟩:=hR.store (i:=i) (r:=.nw es) (v:=.ref D0) (H1:=upd H4 D0 (.lst vs)) (cM.trans (fy.trans (C8 hn _))) ⟨D0,vs,rfl,cM.free (I2.hok.fresh hD),upd_same,al.mono (Kp.of (C8 hn _)) _ _⟩ w3
  exact⟨_,_,I6,p _ _ (Kp.of (cM.trans (fy.trans (C8 hn _)))) cG⟩
end
section
variable {X:Cx}{H0:Hp}{a b c e tg:Expr}{pos:Pos}{wa wb we:WE}{wr:WA}
theorem D7.lst (he:DE X H0 e we):D7 X H0 tg e (fun τ Q=>we τ fun r=>∃ds,S4 r=some ds/\Q ds) where
 mono:=fun τ P Q f h=>he.mono τ _ _ (fun r ⟨ds,e1,q⟩=>⟨ds,e1,f _ q⟩) h
 pi:=piW (Z3f he.pe) fun σ H R ⟨τ,hR,h⟩=>⟨τ,hR,he.mono τ _ _ (fun r ⟨ds,e1,q⟩ v H1 s1 ir=>by
  obtain⟨a,xs,rfl,sq,al⟩:=Q2k e1 ir
  refine⟨a,rfl,⟨xs,sq⟩,q _ _ s1 ⟨fun H' s i hi=>⟨xs,xs[i]'(by rw [<- al.length];exact hi),s.seq sq,af _⟩,fun H' s i x cW d hd ⟨e,y⟩=>?_,fun H' s=>⟨xs,s.seq sq,by rw [al.length];exact aj _⟩⟩⟩
  subst e
  have hx:=y xs (s.seq sq)
  obtain⟨v,hv,q⟩:=(al.mono (Kp.of s) _ _).get hd
  rw [hx]at hv;cases hv
  exact⟨A3.refl _,q⟩) h⟩
theorem D7.tup (he:DE X H0 e we):D7 X H0 tg e (fun τ Q=>we τ fun r=>∃ds,r=.st (.tup ds)/\Q ds) where
 mono:=fun τ P Q f h=>he.mono τ _ _ (fun r ⟨ds,e1,q⟩=>⟨ds,e1,f _ q⟩) h
 pi:=piW (Y1j he.pe) fun σ H R ⟨τ,hR,h⟩=>⟨τ,hR,he.mono τ _ _ (fun r ⟨ds,e1,q⟩ v H1 s1 ir=>by
  subst e1
  have ir:A1 X.K H1 (.tup ds) v:=ir
  unfold A1 at ir
  obtain⟨a,xs,rfl,sq,al⟩:=ir
  refine⟨a,rfl,⟨xs,C4.of sq⟩,q _ _ s1 ⟨fun H' s i hi=>⟨xs,xs[i]'(by rw [<- al.length];exact hi),C4.of (s _ _ sq),af _⟩,fun H' s i x cW d hd ⟨e,y⟩=>?_,fun H' s=>⟨xs,C4.of (s _ _ sq),by rw [al.length];exact aj _⟩⟩⟩
  subst e
  have hx:=y xs (C4.of (s _ _ sq))
  obtain⟨v,hv,q⟩:=(al.mono (Kp.of s) _ _).get hd
  rw [hx]at hv;cases hv
  exact⟨A3.refl _,q⟩) h⟩
theorem V0a {K:Fg9}{H:Hp}{lo:Int}{n:Nat}:YlS K (Itr lo n) (G9 lo n) H :=
 ⟨fun H' s=>(Z0h (K:=K) (H0:=H) (H:=H)).go H' (Kp.of s) s,fun H' s=>(Z0h (K:=K) (H0:=H) (H:=H)).yld H' (Kp.of s) s,fun H' s=>(Z0h (K:=K) (H0:=H) (H:=H)).stop H' (Kp.of s) s⟩
theorem D7.rng1 {p:Pos} (hg:Gl X "range") (hm:X.mg "range"=none) (ha:DA X H0 [a] wr) (hs:starEach [a] X.env=[(false,eval a X.env)]:=by rfl) :
  D7 X H0 tg (.Call (.Name "range" p) [a] [] pos) (fun τ Q=>wr τ fun rs=>∃j:Int,rs=[.st (.int j)]/\-(2 ^ 62)<=j/\j<2 ^ 62/\Q (G9 0 j.toNat)) where
 mono:=fun τ P Q f h=>ha.mono τ _ _ (fun r ⟨j,e1,h1,h2,q⟩=>⟨j,e1,h1,h2,f _ q⟩) h
 pi:=piW (Y1i hg hm ha.pa hs) fun σ H R ⟨τ,hR,h⟩=>⟨τ,hR,ha.mono τ _ _ (fun r ⟨j,e1,h1,h2,q⟩ vs H1 s1 cw=>by
  subst e1
  obtain⟨v,rfl,ir⟩:=V1 cw
  cases (show v=.int j from ir)
  exact⟨j,rfl,h1,h2,q _ _ s1 V0a⟩) h⟩
theorem Q4j {ac:Pn9} {σ:St}{H:Hp}{s:Shared}{h':Heap}{t':Nat}{wr:List Addr} (I:A0 X ac σ H s) (k:∀b o,b∉wr->s.heap.get? b=some o->h'.get? b=some o) (hf:∀b∈wr,J9 X ac H b) :
  A0 X ac σ H { s with heap:=h',toks:=t' }:=by
 have i8:∀b u,H b=some u->b∉wr:=fun b u e z=>by have:=(hf b z).1;rw [e]at this;cases this
 refine I.step (g':=s.gens) (d':=s.drawn) (ch:=wr) (fun b hb=>?_) (fun b o _ _ hc e _=>k b o hc e) (fun b o _ _ hc e _=>⟨o.slots,k b o hc e⟩) (fun _ _ _ _ n=>n)
  (fun b o hc e=>⟨o,k b o hc e⟩) (fun _ _ e=>e) (fun _ _ _ e=>e) (fun b ps e=>⟨#[],by rw [e];simp⟩) (fun m hm=>?_) (fun b u e=>?_) I.bare
 ·obtain⟨_,f1,_,f3,f4,f5⟩:=hf b hb
  exact⟨f3,f1,f4,f5⟩
 ·obtain⟨o,es,ep,ho,r⟩:=hm
  exact⟨o,es,ep,k _ o (fun z=>(hf _ z).2.1 rfl) ho,r⟩
 ·refine(I.hok b u e).stay (fun c v hc q=>k c v ?_ q) (fun _ _ _ q=>q) fun _ _ q=>q
  rcases hc with z | z
  ·rw [z];exact i8 b u e
  ·exact i8 c _ z
noncomputable def Its (x:Str):It:=⟨fun i _=>i<x.cps.size,fun i H v H'=>H'=H/\∃c,x.cps[i]?=some c/\v=.str ⟨#[c]⟩,fun i _=>i=x.cps.size⟩
theorem Y5a {P:Program}{w:World}{K:Fg9}{tg:Expr}{it:Addr}{ty:String}{x:Str}{t:Tok} (gn:ty="str_ascii_iterator"\/ty="str_iterator"):Z7 P w K tg (Its x) [it] it (fun i h=>h.IsStrIter it ty x t i) where
 mem:=by simp
 obj:=fun i h st b hb=>by
  have e:b=it:=by simpa using hb
  subst e
  obtain⟨o,e,c,d⟩:=st
  exact⟨o,e,fun v z=>by rw [d]at z;cases z⟩
 keep:=fun i h h' ⟨o,e,r⟩ k=>⟨o,k it (by simp) o e,r⟩
 item:=by
  intro X hP hw hK hc i ac s σ H E I hf st hg
  subst hP hw hK
  have W:Walks X.prog X.w X.A it [it] [it] x.cps.size (SignAt x) (fun i h=>h.IsStrIter it ty x t i):=by
   rcases gn with rfl | rfl
   ·exact Walks.strAscii (I.ok.hd hc) it x t
   ·exact Walks.strWide (I.ok.hd hc) it x t
  refine W.item i s _ _ hg st fun v h' tk hv eK k=>?_
  obtain⟨c,u,cN,rfl⟩:=hv
  have I1:A0 X ac σ H { s with heap:=h',toks:=tk }:=Q4j I k hf
  obtain⟨o,e,cl,d⟩:=id eK
  refine⟨_,rfl,Q5i (s:={ s with heap:=h',toks:=tk }) e cl d (by rcases gn with rfl | rfl <;> decide) ⟨.str ⟨#[c]⟩,H,I1,⟨u,rfl⟩,⟨rfl,c,cN,rfl⟩,eK,fun b hb=>(hf b hb).1⟩⟩
 done:=by
  intro X hP hw hK hc i ac s σ H E I hf st hg
  subst hP hw hK
  have hg:i=x.cps.size:=hg
  subst hg
  have W:Walks X.prog X.w X.A it [it] [it] x.cps.size (SignAt x) (fun i h=>h.IsStrIter it ty x t i):=by
   rcases gn with rfl | rfl
   ·exact Walks.strAscii (I.ok.hd hc) it x t
   ·exact Walks.strWide (I.ok.hd hc) it x t
  exact W.done s _ _ st fun h' tk k=>⟨rfl,Q4j I k hf⟩
 self:=fun A i s Q E st h=>by
  rcases gn with rfl | rfl
  ·exact wpAny_pyIter_striter_ascii st h
  ·exact wpAny_pyIter_striter_wide st h
noncomputable def E5 (x:Str):List D:=x.cps.toList.map fun c=>.str ⟨#[c]⟩
theorem V0b {K:Fg9}{H:Hp}{x:Str}:YlS K (Its x) (E5 x) H where
 go:=fun H' _ i hi=>by
  have:i<x.cps.size:=by simpa [E5]using hi
  exact this
 yld:=fun H' _ i v cW d hd ⟨e,c,hc,hv⟩=>by
  subst e hv
  refine⟨A3.refl _,?_⟩
  unfold E5 at hd
  rw [ak]at hd
  have:x.cps.toList[i]?=some c:=by simpa using hc
  rw [this]at hd
  have e:D.str ⟨#[c]⟩=d:=aC hd
  subst e
  exact A1.s_str
 stop:=fun H' _=>by
  show(E5 x).length=x.cps.size
  simp [E5]
theorem D7.str (he:DE X H0 e we):D7 X H0 tg e (fun τ Q=>we τ fun r=>∃x,r=.st (.str x)/\Q (E5 x)) where
 mono:=fun τ P Q f h=>he.mono τ _ _ (fun r ⟨ds,e1,q⟩=>⟨ds,e1,f _ q⟩) h
 pi:=by
  intro ac s σ H R I ⟨τ,hR,h⟩
  refine B3 (he.pe ac s σ H (fun v H1=>A3 H H1/\∃x,v=.str x/\∀J H',A3 H H'->YlS X.K J (E5 x) H'->R J H') I ⟨τ,hR,he.mono τ _ _ (fun r ⟨x,e1,q⟩ v H1 s1 ir=>⟨s1,x,by subst e1;exact ir,q⟩) h⟩) fun u s1 ⟨v,H1,I1,rv,sm,x,e1,q⟩=>?_
  subst e1
  obtain⟨t,rfl⟩:=rv
  have fin:∀(ty:String),(ty="str_ascii_iterator"\/ty="str_iterator")->PIE X ac σ tg R (.ref s1.heap.objs.size) { s1 with heap:=s1.heap.push { cls:=.type ty,data:=.fields #[.str x t,.int 0 0] } }:=fun ty gn=>by
   refine⟨s1.heap.objs.size,[s1.heap.objs.size],_,_,H1,rfl,I1.kept (t':=s1.toks) fun b o e=>ae _ e,Y5a (ty:=ty) (x:=x) (t:=t) gn,⟨_,aF _ rfl,rfl,rfl⟩,fun b hb=>?_,q _ _ sm V0b⟩
   have e:b=s1.heap.objs.size:=by simpa using hb
   subst e
   exact I1.fpOk (aj _) (I1.hok.fresh (aj _))
  cases ha:x.cps.all (·<128)
  ·exact wpAny_pyIter_wide ha (fin _ (.inr rfl))
  ·exact wpAny_pyIter_ascii ha (fin _ (.inl rfl))
end
section
variable {X:Cx}{H0:Hp}{a b c e tg:Expr}{pos:Pos}{wa wb we:WE}{wr:WA}
theorem Q9h {ac:Pn9} {σ:St}{H:Hp}{s:Shared}{h':Heap}{t':Nat}{wr:List Addr}{T:Addr}{xs:List V}{aU:List Value} (I:A0 X ac σ H s) (k:∀b o,b∉wr->s.heap.get? b=some o->h'.get? b=some o) (hf:∀b∈wr,J9 X ac H b)
  (hT:s.heap.objs.size<=T) (ht:IsTup h' T aU.toArray) (rv:B4 xs aU) (hz:xs.length<=sizeLine):A0 X ac σ (upd H T (.tup xs)) { s with heap:=h',toks:=t' }:=by
 have i8:∀b u,H b=some u->b∉wr:=fun b u e z=>by have:=(hf b z).1;rw [e]at this;cases this
 have qO:H T=none:=I.hok.fresh hT
 have neT:∀b u,H b=some u->b≠T:=fun b u e z=>by rw [z,qO]at e;cases e
 refine I.step (g':=s.gens) (d':=s.drawn) (ch:=wr) (fun b hb=>?_) (fun b o _ _ hc e _=>k b o hc e) (fun b o _ _ hc e _=>⟨o.slots,k b o hc e⟩) (fun b o _ e n=>by rw [A9 (aB (az (ay e) hT))];exact n)
  (fun b o hc e=>⟨o,k b o hc e⟩) (fun b _ e=>by rw [A9 (neT b _ e)];exact e) (fun b _ _ e=>by rw [A9 (neT b _ e)];exact e) (fun b ps e=>⟨#[],by rw [A9 (neT b _ e),e];simp⟩) (fun m hm=>?_) (fun b u e=>?_) I.bare
 ·obtain⟨_,f1,_,f3,f4,f5⟩:=hf b hb
  exact⟨f3,f1,f4,f5⟩
 ·obtain⟨o,es,ep,ho,r⟩:=hm
  exact⟨o,es,ep,k _ o (fun z=>(hf _ z).2.1 rfl) ho,r⟩
 ·by_cases hb:b=T
  ·subst hb
   rw [upd_same]at e;cases e
   exact⟨hz,aU,rv,ht⟩
  ·rw [A9 hb]at e
   refine(I.hok b u e).stay (fun c v hc q=>k c v ?_ q) (fun c u _ q=>by rw [A9 (neT c _ q)];exact q) fun c xs q=>by rw [A9 (neT c _ q)];exact q
   rcases hc with z | z
   ·rw [z];exact i8 b u e
   ·exact i8 c _ z
noncomputable def G0 (ds:List D):List D:=ds.zipIdx.map fun(p:D×Nat)=>.tup [.int (p.2:Int),p.1]
theorem Q7n {ds:List D}{i:Nat}{d:D} (h:(G0 ds)[i]?=some d):∃x,ds[i]?=some x/\d=.tup [.int (i:Int),x]:=by
 unfold G0 at h
 rw [ak,List.getElem?_zipIdx]at h
 cases e:ds[i]? with
 | none=>rw [e]at h;cases h
 | some x =>
  rw [e]at h
  have h:D.tup [.int ((0+i:Nat):Int),x]=d:=aC h
  exact⟨x,rfl,by rw [<- h,cZ]⟩
theorem Q1j (ds:List D):(G0 ds).length=ds.length:=by simp [G0]
noncomputable def Ies (x:Str):It:=⟨fun i _=>i<x.cps.size,fun i H v H'=>∃T c,x.cps[i]?=some c/\H T=none/\v=.ref T/\H'=upd H T (.tup [.int (i:Int),.str ⟨#[c]⟩]),fun i _=>i=x.cps.size⟩
theorem W9e {P:Program}{w:World}{K:Fg9}{dg:List Expr}{kk:Nat}{pt:Pos}{en it:Addr}{x:Str}{t:Tok} (cb:en≠it) :
  Z7 P w K (.Tuple dg kk pt) (Ies x) [en,it] en (fun i h=>(∃old,IsEnum h en it i old)/\h.IsStrIter it (strIterType x) x t i) where
 mem:=by simp
 obj:=fun i h st b hb=>by
  obtain⟨⟨old,he⟩,o,ho,_,d⟩:=st
  rcases aq.mp hb with rfl | hb
  ·exact⟨_,he,fun v z=>by cases z⟩
  ·have e:b=it:=by simpa using hb
   subst e
   exact⟨o,ho,fun v z=>by rw [d]at z;cases z⟩
 keep:=fun i h h' ⟨⟨old,he⟩,o,ho,r⟩ k=>⟨⟨old,k en (by simp) _ he⟩,o,k it (by simp) o ho,r⟩
 item:=by
  intro X hP hw hK hc i ac s σ H E I hf st hg
  subst hP hw hK
  have Dr:Draws X.prog X.w X.A.in1 it [it] x.cps.size (fun i v=>∃c u,x.cps[i]?=some c/\v=.str ⟨#[c]⟩ u) (fun i h=>h.IsStrIter it (strIterType x) x t i):=by
   unfold strIterType
   split
   ·exact Draws.strAscii (A:=X.A.in1) (show X.A.in1.handled=none from I.ok.hd hc) it x t
   ·exact Draws.strWide (A:=X.A.in1) (show X.A.in1.handled=none from I.ok.hd hc) it x t
  have W:=WalksT.enumerateD Dr en cb (by simpa using cb) (by simp)
  have qz:∀b∈[en,it],J9 X ac H b:=hf
  refine W.item i s _ _ hg st fun T fi h' tk hv hT ka i9 k=>?_
  obtain⟨t1,y,⟨c,u,cN,rfl⟩,rfl⟩:=hv
  refine⟨_,rfl,W.go dg kk pt i T { s with heap:=h',toks:=tk } _ _ i9 fun h2 dG k2=>?_⟩
  have iS:∀b o,b∉[en,it]->s.heap.get? b=some o->h2.get? b=some o:=fun b o hb e=>k2 b o hb (k b o hb e)
  have iB:=W.apart i T h' i9
  have eU:IsTup h2 T ([Value.int (i:Int) t1,Value.str ⟨#[c]⟩ u]).toArray:=by
   obtain⟨o,ho,r⟩:=ka
   exact⟨o,k2 T o iB ho,r⟩
  have I2:=Q9h (t':=tk) (xs:=[.int (i:Int),.str ⟨#[c]⟩]) I iS qz hT eU (.cons ⟨t1,rfl⟩ (.cons ⟨u,rfl⟩ .nil)) (by show 2<=sizeLine;decide)
  refine⟨.ref T,_,I2,rfl,⟨T,c,cN,I.hok.fresh hT,rfl,rfl⟩,dG,fun b hb=>?_⟩
  rw [A9 (show b≠T from fun z=>iB (by rw [<- z];exact hb))]
  exact(hf b hb).1
 done:=by
  intro X hP hw hK hc i ac s σ H E I hf st hg
  subst hP hw hK
  have hg:i=x.cps.size:=hg
  subst hg
  have Dr:Draws X.prog X.w X.A.in1 it [it] x.cps.size (fun i v=>∃c u,x.cps[i]?=some c/\v=.str ⟨#[c]⟩ u) (fun i h=>h.IsStrIter it (strIterType x) x t i):=by
   unfold strIterType
   split
   ·exact Draws.strAscii (A:=X.A.in1) (show X.A.in1.handled=none from I.ok.hd hc) it x t
   ·exact Draws.strWide (A:=X.A.in1) (show X.A.in1.handled=none from I.ok.hd hc) it x t
  have W:=WalksT.enumerateD Dr en cb (by simpa using cb) (by simp)
  exact W.done s _ _ st fun h' tk k=>⟨rfl,Q4j I k hf⟩
 self:=fun A i s Q E ⟨⟨old,he⟩,_⟩ h=>cn he h
theorem Z5o {K:Fg9}{H:Hp}{x:Str}:YlS K (Ies x) (G0 (E5 x)) H where
 go:=fun H' _ i hi=>by
  have:i<x.cps.size:=by rw [Q1j]at hi;simpa [E5]using hi
  exact this
 yld:=fun H' _ i v cW d hd ⟨T,c,hc,hT,hv,hH⟩=>by
  subst hH hv
  refine⟨C8 hT _,?_⟩
  obtain⟨y,hy,rfl⟩:=Q7n hd
  unfold E5 at hy
  rw [ak]at hy
  have:x.cps.toList[i]?=some c:=by simpa using hc
  rw [this]at hy
  have e:D.str ⟨#[c]⟩=y:=aC hy
  subst e
  exact A1.s_tup upd_same (AllS.cons A1.s_int (AllS.cons A1.s_str AllS.nil))
 stop:=fun H' _=>by
  show(G0 (E5 x)).length=x.cps.size
  rw [Q1j];simp [E5]
noncomputable def Iel (K:Fg9) (l:Addr):It:=⟨fun i H=>∃xs x,D6 K H l xs/\xs[i]?=some x,fun i H v H'=>∃T x,(∀xs,D6 K H l xs->xs[i]?=some x)/\H T=none/\v=.ref T/\H'=upd H T (.tup [.int (i:Int),x]),fun i H=>∃xs,D6 K H l xs/\xs.length=i⟩
theorem Y4w {P:Program}{w:World}{K:Fg9}{dg:List Expr}{kk:Nat}{pt:Pos}{en it l:Addr} (cb:en≠it) (il:l≠en) (jP:l≠it) :
  Z7 P w K (.Tuple dg kk pt) (Iel K l) [en,it] en (fun i h=>(∃old,IsEnum h en it i old)/\h.IsListIter it l i) where
 mem:=by simp
 obj:=fun i h st b hb=>by
  obtain⟨⟨old,he⟩,o,ho,_,d⟩:=st
  rcases aq.mp hb with rfl | hb
  ·exact⟨_,he,fun v z=>by cases z⟩
  ·have e:b=it:=by simpa using hb
   subst e
   exact⟨o,ho,fun v z=>by rw [d]at z;cases z⟩
 keep:=fun i h h' ⟨⟨old,he⟩,hi⟩ k=>⟨⟨old,k en (by simp) _ he⟩,hi.at fun o e=>k it (by simp) o e⟩
 item:=by
  intro X hP hw hK hc i ac s σ H E I hf st hg
  subst hP hw hK
  obtain⟨xs,x,hq,hx⟩:=hg
  obtain⟨aU,rv,p,hz⟩:=I.list hq
  have W:=WalksT.enumerate (prog:=X.prog) (w:=X.w) (A:=X.A) (I.ok.hd hc) en it l cb il jP aU.toArray
  obtain⟨u,hu,ru⟩:=rv.get hx
  have bR:i<aU.toArray.size:=by
   rcases bA i aU.length with h | h
   ·simpa using h
   ·rw [aM.mpr h]at hu;cases hu
  refine W.item i s _ _ bR ⟨st.1,st.2,p.isList⟩ fun T fi h' tk hv hT ka i9 k=>?_
  obtain⟨t1,y,hy,rfl⟩:=hv
  have ey:y=u:=by
   have:aU[i]?=some y:=by simpa using hy
   rw [hu]at this;exact(aC this).symm
  subst ey
  refine⟨_,rfl,W.go dg kk pt i T { s with heap:=h',toks:=tk } _ _ i9 fun h2 dG k2=>?_⟩
  have iS:∀b o,b∉[en,it]->s.heap.get? b=some o->h2.get? b=some o:=fun b o hb e=>k2 b o hb (k b o hb e)
  have iB:=W.apart i T h' i9
  have eU:IsTup h2 T ([Value.int (i:Int) t1,y]).toArray:=by
   obtain⟨o,ho,r⟩:=ka
   exact⟨o,k2 T o iB ho,r⟩
  have I2:=Q9h (t':=tk) (xs:=[.int (i:Int),x]) I iS hf hT eU (.cons ⟨t1,rfl⟩ (.cons ru .nil)) (by show 2<=sizeLine;decide)
  refine⟨.ref T,_,I2,rfl,⟨T,x,fun ys hy=>by rw [I.list_inj hy hq];exact hx,I.hok.fresh hT,rfl,rfl⟩,⟨dG.1,dG.2.1⟩,fun b hb=>?_⟩
  rw [A9 (show b≠T from fun z=>iB (by rw [<- z];exact hb))]
  exact(hf b hb).1
 done:=by
  intro X hP hw hK hc i ac s σ H E I hf st hg
  subst hP hw hK
  obtain⟨xs,hq,hx⟩:=hg
  obtain⟨aU,rv,p,hz⟩:=I.list hq
  have W:=WalksT.enumerate (prog:=X.prog) (w:=X.w) (A:=X.A) (I.ok.hd hc) en it l cb il jP aU.toArray
  have hl:=rv.length
  have e:i=aU.toArray.size:=by simp;omega
  subst e
  exact W.done s _ _ ⟨st.1,st.2,p.isList⟩ fun h' tk k=>⟨rfl,Q4j I k hf⟩
 self:=fun A i s Q E ⟨⟨old,he⟩,_⟩ h=>cn he h
theorem W9y {K:Fg9}{H:Hp}{l:Addr}{xs:List V}{ds:List D} (sq:D6 K H l xs) (al:AllS K H ds xs):YlS K (Iel K l) (G0 ds) H where
 go:=fun H' s i hi=>by
  rw [Q1j]at hi
  exact⟨xs,xs[i]'(by rw [<- al.length];exact hi),s.seq sq,af _⟩
 yld:=fun H' s i v cW d hd ⟨T,x,hx,hT,hv,hH⟩=>by
  subst hH hv
  refine⟨C8 hT _,?_⟩
  obtain⟨y,hy,rfl⟩:=Q7n hd
  obtain⟨v,hv,q⟩:=al.get hy
  rw [hx xs (s.seq sq)]at hv;cases hv
  exact A1.s_tup upd_same (AllS.cons A1.s_int (AllS.cons (q.mono (Kp.of (s.trans (C8 hT _))) _ _) AllS.nil))
 stop:=fun H' s=>⟨xs,s.seq sq,by rw [Q1j];exact al.length.symm⟩
end
section
variable {X:Cx}{H0:Hp}{a b c e o tg:Expr}{pos apos bi:Pos}{wa wb we:WE}{wr:WA}
theorem B6.mutate {K:Fg9}{H:Hp} {τ:A6} {σ:St}{i:Nat}{ds kM:List D}{a:Addr}{xs jt:List V} (hR:B6 K H0 τ σ H) (e1:τ[i]?=some (some (.own ds))) (hv:σ[i]?=some (some (.ref a))) (h0:H0 a=none) (sq:H a=some (.lst xs)) (al:AllS K H kM jt) :
  B6 K H0 (τ.set i (some (.own kM))) σ (upd H a (.lst jt)):=by
 have kp:Kp H (upd H a (.lst jt)):=Kp.upd sq _
 have hl:i<τ.length:=by
  rcases bA i τ.length with h | h
  ·exact h
  ·rw [aM.mpr h]at e1;cases e1
 have old:∀(j:Nat) (s:Sl),(τ.set i (some (.own kM)))[j]?=some (some s)->j≠i->τ[j]?=some (some s):=fun j s e hj=>by rw [aG (fun z=>hj z.symm)]at e;exact e
 have eF:∀(j:Nat) (s:Sl),(τ.set i (some (.own kM)))[j]?=some (some s)->s.mut=true->∃t,τ[j]?=some (some t)/\t.mut=true:=fun j s e m=>by
  by_cases hj:j=i
  ·subst hj;exact⟨_,e1,rfl⟩
  ·exact⟨s,old j s e hj,m⟩
 refine⟨by rw [aZ];exact hR.len,fun b ob hb=>?_,fun j s e=>?_,fun j k s t v cb e2 e3 m1 m2 q1 q2=>?_⟩
 ·rw [A9 (U3 hb h0)];exact hR.same b ob hb
 ·by_cases hj:j=i
  ·subst hj
   rw [Y7 hl]at e;cases e
   exact⟨_,hv,a,jt,rfl,h0,upd_same,al.mono kp _ _⟩
  ·have e:=old j s e hj
   obtain⟨v,q,r⟩:=hR.here j s e
   refine⟨v,q,?_⟩
   have ap:s.mut=true->v≠.ref a:=fun m z=>by
    subst z
    exact hR.apart i j _ s (.ref a) (fun z=>hj z.symm) e1 e rfl m hv q
   cases s with
   | dat d=>exact A1.mono kp _ _ r
   | own es=>obtain⟨b,ys,e,n,q,t⟩:=r;exact⟨b,ys,e,n,by rw [A9 (fun z=>ap rfl (by rw [e,z]))];exact q,t.mono kp _ _⟩
   | bor es=>obtain⟨b,ys,e,q,t⟩:=r;exact⟨b,ys,e,q,t.mono kp _ _⟩
   | bd es=>obtain⟨b,ys,e,q,t⟩:=r;exact⟨b,ys,e,q,t.mono kp _ _⟩
   | dk es=>obtain⟨b,ys,e,n,q,t⟩:=r;exact⟨b,ys,e,n,by rw [A9 (fun z=>ap rfl (by rw [e,z]))];exact q,t.mono kp _ _⟩
   | dt es=>obtain⟨b,ys,e,n,q,t⟩:=r;exact⟨b,ys,e,n,by rw [A9 (fun z=>ap rfl (by rw [e,z]))];exact q,t.mono kp _ _⟩
   | ob _=>exact r
   | cl _ _=>exact⟨r.1,r.2.2 _ _ kp r.2.1,r.2.2⟩
   | ll _ _=>exact⟨r.1,r.2.keep kp fun b φ q=>by rw [A9 (X5 q sq (by intro z;cases z))];exact q⟩
   | ins _ _ _=>obtain⟨e,n,dx,ys,q,t⟩:=r;exact⟨e,n,dx,ys,by rw [A9 (fun z=>ap rfl (by rw [e,z]))];exact q,t.mono kp _ _⟩
 ·obtain⟨s',mz,lg⟩:=eF j s e2 m1
  obtain⟨t',my,lf⟩:=eF k t e3 m2
  exact hR.apart j k s' t' v cb mz my lg lf q1 q2
theorem B6.ownAt {K:Fg9}{H:Hp} {τ:A6} {σ:St}{i:Nat}{ds:List D} (hR:B6 K H0 τ σ H) (e1:τ[i]?=some (some (.own ds))):∃a xs,σ[i]?=some (some (.ref a))/\H0 a=none/\H a=some (.lst xs)/\AllS K H ds xs:=by
 obtain⟨v,hv,a,xs,rfl,h0,sq,al⟩:=hR.here i _ e1
 exact⟨a,xs,hv,h0,sq,al⟩
def X9 (i:Nat) (we:WE):WS:=fun E τ=>∃ds,τ[i]?=some (some (.own ds))/\we τ fun r=>∃d,r=.st d/\ds.length<sizeLine/\E.nx (τ.set i (some (.own (ds++[d]))))
theorem DS.append {i:Nat} (ho:PE X o (J8 i)) (he:DE X H0 e we) (dD:attributeBase o "append" X.env (eval o X.env)=eval o X.env:=by rfl)
  (eT:((backTo bi (starEach [e] X.env)).all (fun x=>!x.1)&&(backToKw bi (keywordEach [] X.env)).all (fun x=>x.1.isSome)&&decide ([e].length+([]:List Keyword).length+(if ([]:List Keyword).isEmpty then 0 else 1)<30))=true:=by rfl)
  (dn:(apos.endLine==bi.line)=true:=by rfl) (hs:starEach [e] X.env=(false,eval e X.env)::starEach [] X.env:=by rfl) (cV:(backTo bi (starEach [] X.env)).any (·.1)=false:=by rfl)
  (fm:swapsWith (.Call (.Attribute o "append" apos) [e] [] bi) none pos.line X.env=pure false:=by rfl):DS X H0 (.Expr (.Call (.Attribute o "append" apos) [e] [] bi) pos) (X9 i we) where
 mono:=fun τ E F le ⟨ds,e1,h⟩=>⟨ds,e1,he.mono τ _ _ (fun r ⟨d,e2,h1,h2⟩=>⟨d,e2,h1,le.nx _ h2⟩) h⟩
 ps:=L6 (Q8l (Z3d PySem.F.plainAttrs_list PySem.F.slot_list_append PySem.F.type_list_append W1o ho (Q0k he.pe Q1r hs) dD eT dn hs cV) fm) fun D σ H ⟨τ,hR,ds,e1,h⟩=>by
  obtain⟨a,xs,hv,h0,sq,al⟩:=hR.ownAt e1
  refine⟨_,hv,.inl ⟨rfl,_,D6.of sq⟩,τ,hR,he.mono τ _ _ (fun r ⟨d,e2,h1,h2⟩ v H1 s1 ir=>?_) h⟩
  subst e2
  have cU:=hR.mono s1
  refine⟨a,xs,v,rfl,rfl,s1 _ _ sq,by rw [<- al.length];exact h1,h2 σ _ ((Kp.of s1).trans (Kp.upd (s1 _ _ sq) _)) ?_⟩
  exact cU.mutate e1 hv h0 (s1 _ _ sq) ((al.mono (Kp.of s1) _ _).append (AllS.cons ir AllS.nil))
noncomputable def Q0z:List D->Option (List Str)
 | []=>some []
 | .str x::r=>(Q0z r).map (x::·)
 | _::_=>none
theorem Y4i {K:Fg9}{H:Hp}:∀{ds:List D}{ys:List Str}{xs:List V}{us:List Value},Q0z ds=some ys->AllS K H ds xs->B4 xs us->StrsAre us ys
 | [],ys,xs,us,h,al,rv=>by cases h;unfold AllS at al;subst al;cases rv;exact .nil
 | .str x::r,ys,xs,us,h,al,rv=>by
  unfold AllS at al
  obtain⟨v,t,rfl,iv,al⟩:=al
  unfold A1 at iv
  subst iv
  cases rv with
  | cons r1 r2 =>
   obtain⟨tk,rfl⟩:=r1
   unfold Q0z at h
   cases q:Q0z r with
   | none=>rw [q]at h;cases h
   | some zs=>rw [q]at h;cases h;exact .cons _ _ (Y4i q al r2)
 | .non::_,_,_,_,h,_,_=>by cases h
 | .bl _::_,_,_,_,h,_,_=>by cases h
 | .int _::_,_,_,_,h,_,_=>by cases h
 | .tup _::_,_,_,_,h,_,_=>by cases h
 | .lst _::_,_,_,_,h,_,_=>by cases h
def Z4k (wo we:WE):WE:=fun τ Q=>wo τ fun r1=>∃x,r1=.st (.str x)/\we τ fun r=>∃ds ys,S4 r=some ds/\Q0z ds=some ys/\(ys.map (·.length)).sum+ys.length*x.length<=16777216/\Q (.st (.str (Txt.join x ys)))
theorem W1q:MtR X "str.join" (fun x vs H Q=>∃z l xs ds ys,x=.str z/\vs=[.ref l]/\D6 X.K H l xs/\AllS X.K H ds xs/\Q0z ds=some ys/\(ys.map (·.length)).sum+ys.length*z.length<=16777216/\Q (.str (Txt.join z ys)) H):=by
 intro ac s σ H x vs v us Q I rx rv ⟨z,l,xs,ds,ys,e1,e2,sq,al,hs,hz,q⟩
 subst e1 e2
 obtain⟨t,rfl⟩:=rx
 obtain⟨u,rfl,ru⟩:=T9 rv
 cases (show u=Value.ref l from ru)
 obtain⟨aU,fD,pl,_⟩:=I.list sq
 exact join_list pl.isList (by simpa using Y4i hs al fD) hz fun t' k=>⟨.str _,H,I.tok k,⟨t',rfl⟩,q⟩
theorem DE.join {wo:WE} (ho:DE X H0 o wo) (he:DE X H0 e we) (dD:attributeBase o "join" X.env (eval o X.env)=eval o X.env:=by rfl)
  (eT:((backTo bi (starEach [e] X.env)).all (fun x=>!x.1)&&(backToKw bi (keywordEach [] X.env)).all (fun x=>x.1.isSome)&&decide ([e].length+([]:List Keyword).length+(if ([]:List Keyword).isEmpty then 0 else 1)<30))=true:=by rfl)
  (dn:(apos.endLine==bi.line)=true:=by rfl) (hs:starEach [e] X.env=(false,eval e X.env)::starEach [] X.env:=by rfl) (cV:(backTo bi (starEach [] X.env)).any (·.1)=false:=by rfl) :
  DE X H0 (.Call (.Attribute o "join" apos) [e] [] bi) (Z4k wo we) where
 mono:=fun τ P Q f h=>ho.mono τ _ _ (fun r ⟨x,e1,h⟩=>⟨x,e1,he.mono τ _ _ (fun r ⟨ds,ys,a1,a2,a3,a4⟩=>⟨ds,ys,a1,a2,a3,f _ a4⟩) h⟩) h
 pe:=L5 (Z3d PySem.F.plainAttrs_str PySem.F.slot_str_join PySem.F.type_str_join W1q ho.pe (Q0k he.pe Q1r hs) dD eT dn hs cV) fun σ H Q ⟨τ,hR,h⟩=>⟨τ,hR,ho.mono τ _ _ (fun r ⟨x,e1,h⟩ v H1 s1 ir=>by
  subst e1
  cases (show v=.str x from ir)
  refine⟨rfl,τ,hR.mono s1,he.mono τ _ _ (fun r ⟨ds,ys,a1,a2,a3,a4⟩ u H2 s2 iu=>?_) h⟩
  obtain⟨l,xs,rfl,sq,al⟩:=Q2k a1 iu
  exact⟨x,l,xs,ds,ys,rfl,rfl,sq,al,a2,a3,a4 _ _ (s1.trans s2) Q7u⟩) h⟩
end
end TK
end
section
namespace HT
open PySem PyProof.Rows
section
variable {prog:Program}{w:World}{A:Around}{E:VS9}{s:Shared}
theorem getItem_tuple_whole {t sl:Addr}{items:Array Value}{vl vu:Value}{lo hi:Option Int}{Q:VS9} (ht:IsTup s.heap t items) (hs:s.heap.IsSliceOf sl vl vu .none) (pl:IsPart vl lo) (pu:IsPart vu hi)
  (hw:sIx items.size 0 lo=0/\sIx items.size items.size hi=items.size) (h:Q (.ref t) s):wpAny (model prog w) A (getItem (.ref t) (.ref sl)) Q E s:=by
 obtain⟨os,fE,g7,ft⟩:=id hs
 have mf:s.TypeIs (.ref sl) "slice":=⟨os,fE,g7⟩
 unfold getItem
 try with_reducible refine bz ?_
 first | refine aa (ai ?_) | skip
 refine aa (wpAny_sequenceKey ht.typeIs (by decide) ?_)
 refine aa (bB (name:=Str.ofString "__getitem__") ht.typeIs bO
  (bE bO ht.typeIs entry_tuple_getitem ?_ (args_tuple_getitem _ _)))
 show wpAny _ _ (Builtin.Tuple.tupleItemsOf (.ref t)>>=_) _ _ s
 refine aa (tupleItemsOf_ ht ?_)
 refine aa (wpAny_typeOf mf ?_)
 rw [aJ (by decide)]
 refine aa (Y4a hs pl pu ?_)
 have lC:((((sIx items.size 0 lo:Nat):Int)==0&&(1:Int)==1&&(sIx items.size items.size hi-sIx items.size 0 lo)==items.size)=true):=by
  rw [hw.1,hw.2];simp
 show wpAny _ _ (if (((sIx items.size 0 lo:Nat):Int)==0&&(1:Int)==1&&(sIx items.size items.size hi-sIx items.size 0 lo)==items.size)=true then _ else _) _ _ s
 rw [aJ lC]
 show wpAny _ _ ((typeOf (.ref t)>>=fun y=>pure (y==Value.type "tuple"))>>=_) _ _ s
 refine aa (aa (wpAny_typeOf ht.typeIs (ai ?_)))
 rw [aJ (by decide)]
 first
  | exact aa (fh (ai ⟨_,rfl,ai h⟩))
  | exact aa (fh (aa (ai (ai ⟨_,rfl,ai h⟩))))
end
end HT
namespace TK
open PySem PySem.Spec PyProof.Rows L2
noncomputable def Y3 {α:Type} (xs:List α) (lo hi:Option Int):List α:=(xs.drop (HT.sIx xs.length 0 lo)).take (HT.sIx xs.length xs.length hi-HT.sIx xs.length 0 lo)
theorem Z1k {K:Fg9}{H:Hp}{ds:List D}{xs:List V} (al:AllS K H ds xs) (lo hi:Option Int):AllS K H (Y3 ds lo hi) (Y4 xs lo hi):=by
 unfold Y3 Y4
 rw [<- al.length]
 exact(al.drop _).take _
section
variable {X:Cx}{H0:Hp}{a b c e o tg:Expr}{pos p2:Pos}{wa wb we:WE}{lo hi:Option Expr}
theorem W8a:L2.M5 X (fun x lo hi H Q=>∃a xs,x=.ref a/\H a=some (.tup xs)/\((¬ (HT.sIx xs.length 0 lo=0/\HT.sIx xs.length xs.length hi=xs.length))->∀p,H p=none->Q (.ref p) (upd H p (.tup (Y4 xs lo hi))))/\((HT.sIx xs.length 0 lo=0/\HT.sIx xs.length xs.length hi=xs.length)->Q (.ref a) H)):=by
 intro ac s σ H x v vl vu lo hi sl Q I rx hs pl pu h
 obtain⟨a,xs,rfl,hx,q1,q2⟩:=h
 by_cases hw:HT.sIx xs.length 0 lo=0/\HT.sIx xs.length xs.length hi=xs.length
 ·cases rx
  obtain⟨aU,r,ht,hz⟩:=I.tuple (C4.of hx)
  have bI:aU.toArray.size=xs.length:=by rw [aA];exact r.length.symm
  exact⟨"tuple",_,bO.lookup,ht.typeIs,HT.getItem_tuple_whole ht hs pl pu (by rw [bI];exact hw) ⟨.ref a,H,I,rfl,q2 hw⟩⟩
 ·exact W7z ac s σ H _ v vl vu lo hi sl Q I rx hs pl pu ⟨a,xs,rfl,C4.of hx,hw,q1 hw⟩
theorem Y7v {xs:List V}{lo hi:Option Int} (h:HT.sIx xs.length 0 lo=0/\HT.sIx xs.length xs.length hi=xs.length):Y4 xs lo hi=xs:=by
 unfold Y4;rw [h.1,h.2];simp
noncomputable abbrev WO:=A6->(Option Int->Prop)->Prop
noncomputable def W0o (K:Fg9) (H0:Hp) (w:WO):TO:=fun σ H Q=>∃ τ,B6 K H0 τ σ H/\w τ fun o=>∀H',A3 H H'->Q o H'
structure DO (X:Cx) (H0:Hp) (e:Option Expr) (w:WO):Prop where
 mono:∀(τ:A6) (P Q:Option Int->Prop),(∀r,P r->Q r)->w τ P->w τ Q
 po:PO X e (W0o X.K H0 w)
theorem DO.none:DO X H0 none (fun _ Q=>Q none):=⟨fun _ _ _ f h=>f _ h,fun ac s σ H Q I ⟨τ,hR,h⟩=>W4f ac s σ H Q I (h H (A3.refl H))⟩
noncomputable def Q3i:R->(Int->Prop)->Prop
 | .st (.int i),Q=>Q i
 | _,_=>False
theorem Z8m {r:R}{P:Int->Prop} (h:Q3i r P):∃i,r=.st (.int i)/\P i:=by
 unfold Q3i at h
 split at h
 ·exact⟨_,rfl,h⟩
 ·exact h.elim
theorem DO.some (he:DE X H0 e we):DO X H0 (some e) (fun τ Q=>we τ fun r=>Q3i r fun i=>Q (some i)) where
 mono:=fun τ P Q f h=>he.mono τ _ _ (fun r h=>by obtain⟨i,rfl,q⟩:=Z8m h;exact f _ q) h
 po:=fun ac s σ H Q I ⟨τ,hR,h⟩=>W4g he.pe ac s σ H Q I ⟨τ,hR,he.mono τ _ _ (fun r h v H1 s1 ir=>by
  obtain⟨i,rfl,q⟩:=Z8m h
  exact⟨i,ir,q H1 s1⟩) h⟩
def slD (x:R) (lo hi:Option Int) (Q:R->Prop):Prop:=match x with
 | .st (.tup ds)=>Q (.st (.tup (Y3 ds lo hi)))
 | .st (.lst ds)=>Q (.nw (Y3 ds lo hi))
 | .nw ds=>Q (.nw (Y3 ds lo hi))
 | .bw ds=>Q (.nw (Y3 ds lo hi))
 | .st (.str z)=>z.length<=sizeLine/\Q (.st (.str (Txt.slice z lo hi)))
 | _=>False
theorem W7w {x:R}{lo hi:Option Int}{P Q:R->Prop} (f:∀r,P r->Q r) (h:slD x lo hi P):slD x lo hi Q:=by
 unfold slD at h ⊢
 split at h <;> first | exact f _ h | exact⟨h.1,f _ h.2⟩ | exact h
theorem W7y:L2.M5 X (fun x lo hi H Q=>∃z,x=.str z/\z.length<=sizeLine/\Q (.str (Txt.slice z lo hi)) H):=by
 intro ac s σ H x v vl vu lo hi sl Q I rx hs pl pu h
 obtain⟨z,rfl,hz,q⟩:=h
 obtain⟨t,rfl⟩:=rx
 refine⟨"str",_,PySem.F.slot_str_getitem.lookup,typeIs_str _ _ _,?_⟩
 obtain⟨os,fE,g7,ft⟩:=id hs
 have fin:∀(t':Tok) (k:Nat),EP X ac σ Q (.str (Txt.slice z lo hi) t') { s with toks:=k }:=fun t' k=>⟨.str _,H,I.tok k,⟨t',rfl⟩,q⟩
 cases pl with
 | none =>
  cases pu with
  | none=>exact wpAny_getItem_str_slice (l:=none) (u:=none) (st:=none) ⟨_,fE,g7,ft⟩ rfl (post_val_or_str ⟨aX (Txt.slice_le z _ _) hz,fin⟩)
  | int j uj=>exact wpAny_getItem_str_slice (l:=none) (u:=some (j,uj)) (st:=none) ⟨_,fE,g7,ft⟩ rfl (post_val_or_str ⟨aX (Txt.slice_le z _ _) hz,fin⟩)
 | int i ui =>
  cases pu with
  | none=>exact wpAny_getItem_str_slice (l:=some (i,ui)) (u:=none) (st:=none) ⟨_,fE,g7,ft⟩ rfl (post_val_or_str ⟨aX (Txt.slice_le z _ _) hz,fin⟩)
  | int j uj=>exact wpAny_getItem_str_slice (l:=some (i,ui)) (u:=some (j,uj)) (st:=none) ⟨_,fE,g7,ft⟩ rfl (post_val_or_str ⟨aX (Txt.slice_le z _ _) hz,fin⟩)
variable {wl wh:WO}
theorem DE.slice (he:DE X H0 e we) (hl:DO X H0 lo wl) (hh:DO X H0 hi wh):DE X H0 (.Subscript e (.Slice lo hi none p2) pos) (fun τ Q=>we τ fun x=>wl τ fun l=>wh τ fun u=>slD x l u Q) where
 mono:=fun τ P Q f h=>he.mono τ _ _ (fun x h=>hl.mono τ _ _ (fun l h=>hh.mono τ _ _ (fun u h=>W7w f h) h) h) h
 pe:=by
  refine L5 (W3w (W8a.or (W7x.or W7y)) he.pe hl.po hh.po) fun σ H Q ⟨τ,hR,h⟩=>⟨τ,hR,he.mono τ _ _ (fun x h v H1 s1 ir=>⟨τ,hR.mono s1,hl.mono τ _ _ (fun l h H2 s2=>⟨τ,hR.mono (s1.trans s2),hh.mono τ _ _ (fun u h H3 s3=>?_) h⟩) h⟩) h⟩
  have ir:=ir.mono (s2.trans s3)
  have jx:=s1.trans (s2.trans s3)
  have lists:∀ds,S4 x=some ds->(∀r,r=R.nw (Y3 ds l u)->∀v H',A3 H H'->E1 X.K H H' r v->Q v H')->rSlL X.K v l u H3 Q:=fun ds e1 q=>by
   obtain⟨p,xs,rfl,sq,al⟩:=Q2k e1 ir
   exact⟨p,xs,rfl,sq,fun p' hp=>q _ rfl _ _ (jx.trans (C8 hp _)) ⟨p',_,rfl,jx.free hp,upd_same,(Z1k al l u).mono (Kp.of (C8 hp _)) _ _⟩⟩
  unfold slD at h
  split at h
  ·have ir:A1 X.K H3 (.tup _) v:=ir
   unfold A1 at ir
   obtain⟨p,xs,rfl,sq,al⟩:=ir
   refine .inl ⟨p,xs,rfl,sq,fun _ p' hp=>h _ _ (jx.trans (C8 hp _)) (A1.s_tup (K:=X.K) upd_same ((Z1k al l u).mono (Kp.of (C8 hp _)) _ _)),fun hw=>h _ _ jx (A1.s_tup (K:=X.K) (H:=H3) sq ?_)⟩
   have:=Z1k al l u
   rw [Y7v hw]at this
   exact this
  ·exact .inr (.inl (lists _ rfl fun r e1=>by subst e1;exact h))
  ·exact .inr (.inl (lists _ rfl fun r e1=>by subst e1;exact h))
  ·exact .inr (.inl (lists _ rfl fun r e1=>by subst e1;exact h))
  ·cases (show v=.str _ from ir)
   exact .inr (.inr ⟨_,rfl,h.1,h.2 _ _ jx Q7u⟩)
  ·exact h.elim
end
end TK
end
section
namespace TK
open PySem PySem.Spec PyProof.Rows L2
section
variable {X:Cx}{H0:Hp}{a b c e o tg:Expr}{pos bj p p2:Pos}{wa wb we:WE}{x:Str}{d:Addr}{kvs:List (Str×Int)}
theorem DE.gstr {z:Str} (hg:Gl X x) (hm:∃t,X.mg x=some (.str z t)) (hd:(x==("__debug__":Str))=false:=by decide):DE X H0 (.Name x pos) (wC (.str z)):=by
 obtain⟨t,hm⟩:=hm
 exact DE.con (W3n (v:=.str z) hg hm ⟨t,rfl⟩ hd) fun _ _=>A1.s_str
def Q9m (i:Nat) (g:R->R->(R->Prop)->Prop) (we:WE):WS:=fun E τ=>∃s,τ[i]?=some (some s)/\we τ fun y=>g (Q0 s) y fun r=>Q0m r fun s'=>E.nx (τ.set i (some s'))
theorem DS.aug {i:Nat}{op:Operator}{g:R->R->(R->Prop)->Prop} (ho:OpD X (inplaceOp op) g) (mg:V0 g) (he:DE X H0 e we) (hN:X.N.Nodup) (hi:X.N[i]?=some x) (hx:Loc X.env.scope x)
  (hf:X.fn x=true\/X.env.scope.names.lookup x=some .local:=by first | exact .inl rfl | exact .inr rfl | assumption):DS X H0 (.AugAssign (.Name x bj) op e pos) (Q9m i g we) where
 mono:=fun τ E F le ⟨s,e1,h⟩=>⟨s,e1,he.mono τ _ _ (fun y h=>mg _ _ _ _ (fun r h=>Z3w (fun s h=>le.nx _ h) h) h) h⟩
 ps:=L6 (W4k hN hi hx he.pe ho hf) fun D σ H ⟨τ,hR,s,e1,h⟩=>by
  obtain⟨v,hv,q⟩:=hR.here i s e1
  refine⟨v,hv,τ,hR,he.mono τ _ _ (fun y h u H1 s1 iu=>?_) h⟩
  have iv:IsV X.K H1 (Q0 s) v:=(M5.rd (Hs:=fun _=>none) hR.same q).mono s1
  refine⟨Q0 s,y,iv,iu.v,mg _ _ _ _ (fun r h z H2 s2 iz=>?_) h⟩
  obtain⟨s',p,cG⟩:=(hR.mono s1).store (i:=i) s2 iz h
  exact p _ _ (Kp.of (s1.trans s2)) cG
theorem W2o:OpD X (inplaceOp .Add) (N8 NoC fun i j=>i+j):=OpD.ints0 Y9g
noncomputable def blkB (sc:Scope) (N0:List Str) (scope:Scope) (N:List Str) (nt:Nat) (cap:List Nat):Bool :=
 decide (scope.kind=.function)&&scope.names.all (fun y=>y.2 != .cell)&&scope.names.all (fun y=>y.2 != .local||scope.names.lookup y.1==some .local) &&
 scope.names.all (fun y=>y.2 != .free||scope.names.lookup y.1==some .free)&&scope.names.all (fun y=>y.2 != .free||sc.names.lookup y.1==some .cell||sc.names.lookup y.1==some .free) &&
 decide (N.length=nt+cap.length)&&(List.range cap.length).all (fun j=>match cap[j]?,N[nt+j]? with | some i,some x=>N0[i]?==some x&&scope.names.contains (x,NameKind.free) | _,_=>false)
theorem P6 {sc:Scope}{N0:List Str}{scope:Scope}{N:List Str}{nt:Nat}{cap:List Nat} (h1:X.env.scope=sc) (h2:X.N=N0) (h:blkB sc N0 scope N nt cap=true):G7 X scope N nt cap:=by
 subst h1 h2
 unfold blkB at h
 simp only [cj]at h
 obtain⟨⟨⟨⟨⟨⟨a1,a2⟩,a3⟩,a4⟩,a5⟩,a6⟩,a7⟩:=h
 refine⟨eZ a1,fun y hy=>?_,fun y hy e=>?_,fun y hy e=>?_,fun y hy e=>?_,eZ a6,fun j i x hj hx=>?_⟩
 ·simpa using bU.mp a2 y hy
 ·have:=bU.mp a3 y hy
  rw [e]at this
  simpa using this
 ·have:=bU.mp a4 y hy
  rw [e]at this
  simpa using this
 ·have:=bU.mp a5 y hy
  rw [e]at this
  have this:X.env.scope.names.lookup y.1=some .cell\/X.env.scope.names.lookup y.1=some .free:=by simpa using this
  exact this
 ·have bR:j<cap.length:=by
   rcases bA j cap.length with h | h
   ·exact h
   ·rw [aM.mpr h]at hj;cases hj
  have:=bU.mp a7 j (bp.mpr bR)
  rw [hj,hx]at this
  simpa using this
theorem Q3h {A:Around}{k:Nat} (hr:D5 k A):A.units+60<cLine:=by have:=hr.units;omega
theorem D5.hu1 {A:Around}{k:Nat} (hr:D5 k A):A.units+1<cLine:=by have:=hr.units;omega
end
end TK
end
section
namespace HT
open PySem PySem.Spec PyProof.Rows
open AutoSeq1 (wpAny_loadPart')
theorem Y0h:fillsNumberSlot (.type "tuple") "mul"=pure false :=
 PySem.fillsNumberSlot_seq (id:="tuple.__mul__") (r:=some (.builtin "tuple.__rmul__")) F.slot_tuple_mul.lookup (by decide +kernel) F.slot_tuple_rmul.lookup (by decide +kernel)
theorem Y1z:seqRepeat? (.type "tuple")=pure (some (.builtin "tuple.__mul__")):=by
 unfold seqRepeat?
 rw [PySem.seqSlot_of (T:="tuple") (name:="__mul__") (id:="tuple.__mul__") F.slot_tuple_mul.lookup (by decide +kernel),PySem.seqSlot_of (T:="tuple") (name:="__rmul__") (id:="tuple.__rmul__") F.slot_tuple_rmul.lookup (by decide +kernel)]
 rfl
theorem Y2a (a:Int) (t:Tok) (l:Addr) (items:Array Value) (n:Nat) (dd:Option Addr) (sl:Array (Option Value)) :
  Meets (Builtin.«int.__rmul__» ⟨[.int a t,.ref l],[]⟩) (fun _ R s=>s.heap.get? l=some { cls:=.type "tuple",dict:=dd,data:=.seq items n,slots:=sl }/\R (.ok (.ret Value.notImplemented)) s) :=
 .of_wp fun prog w A R s h=>by obtain⟨hp,g,d,tk,os⟩:=s;obtain⟨hl,h⟩:=h;wp_walk;exact⟨_,rfl,h⟩
section
variable {prog:Program}{w:World}{A:Around}{E:VS9}{s:Shared}
end
end HT
namespace TK
open PySem PySem.Spec PyProof.Rows L2
section
variable {X:Cx}{H0:Hp}{a b c e o tg:Expr}{pos bj p p2 p3 p4:Pos}{wa wb we:WE}
end
end TK
end
section
namespace TK
open PySem PySem.Spec PyProof.Rows L2
def B0 (we:WE):WE:=fun τ Q=>we τ fun r=>fzR r fun d=>Q (.st d)
def wB (t:WT):WE:=fun τ Q=>t τ fun k=>Q (.st (.bl k))
def Q6u (we:WE):WT:=fun τ Q=>we τ fun r=>Q1u r Q
def Z2t:WO:=fun _ Q=>Q none
def Z2u (we:WE):WO:=fun τ Q=>we τ fun r=>Q3i r fun i=>Q (some i)
def wSl (we:WE) (wl wh:WO):WE:=fun τ Q=>we τ fun x=>wl τ fun l=>wh τ fun u=>slD x l u Q
def P3:WT:=fun _ Q=>Q true
def Q0w (we:WE):WI:=fun τ Q=>we τ fun r=>∃ds,r=.st (.lst ds)/\Q ds τ
def iBor (i:Nat):WI:=fun τ Q=>∃ds,τ[i]?=some (some (.bor ds))/\Q ds τ
def Q5m (we:WE):WI:=fun τ Q=>we τ fun r=>∃ds,r=.st (.tup ds)/\Q ds τ
def X3 (wr:WA):WI:=fun τ Q=>wr τ fun rs=>∃j:Int,rs=[.st (.int j)]/\-(2 ^ 62)<=j/\j<2 ^ 62/\Q (G9 0 j.toNat) τ
noncomputable def Q0c (we:WE):M6:=fun τ Q=>we τ fun r=>∃ds,S4 r=some ds/\Q ds
noncomputable def Q5r (we:WE):M6:=fun τ Q=>we τ fun r=>∃ds,r=.st (.tup ds)/\Q ds
noncomputable def Q5q (wr:WA):M6:=fun τ Q=>wr τ fun rs=>∃j:Int,rs=[.st (.int j)]/\-(2 ^ 62)<=j/\j<2 ^ 62/\Q (G9 0 j.toNat)
noncomputable def Z2b (we:WE):M6:=fun τ Q=>we τ fun r=>∃x,r=.st (.str x)/\Q (E5 x)
def L1 (wi:WI) (g:WG) (wb:WS):WS:=fun E τ=>wi τ fun ds τ'=>C6 g wb E ds τ'
def wAsg (we:WE) (g:WG):WS:=fun E τ=>we τ fun r=>∃d,r=.st d/\g d τ E.nx
def Q9z (i:Nat):WS:=fun E τ=>∃s,τ[i]?=some (some s)/\Q2o s E.rt
structure Df (K:Fg9) (mg:Str->Option Value) (name:Str) (st:Stmt) (ps:List Str) (f:Addr) (fd:FuncData):Prop where
 F:Fun K name name st f fd
 b:V6 K fd ps []
 k:PySem.W.keepIn K (.ref f)=true
 m:mg name=some (.ref f)
abbrev FnD (P:Program) (w:World) (K:Fg9) (mg:Str->Option Value) (base:Heap) (k:Nat) (f:Addr) (fd:FuncData) (ps:List Str) (sp:C7):Prop:=O5 P w K mg base L9 k f fd ps (Q3o K ps.length sp)
noncomputable def S9 (r:R):E7:={ nx:=fun _=>r=.st .non,rt:=fun r'=>r'=r,bk:=fun _=>False,ct:=fun _=>False }
section
variable {P:Program}{w:World}{K:Fg9}{mg:Str->Option Value}{base:Heap}
theorem Df.ok {x:Str}{st:Stmt}{f:Addr}{fd:FuncData}{N ps:List Str}{k:Nat}{sp:C7}{ws:WS} (F:Df K mg x st ps f fd) (S:K5 N ps (C2 st))
  (cq:∀(cdv:Value) (A:Around) (outer:List Env) (s:Shared) (H:Hp) (E:XK),D5 k (A.deeper (envOfC x (C2 st) s.heap.objs.size f cdv))->A5 (Z9 L9 P w K mg base N x (C2 st) f cdv A outer s H E).nox H (S0 st) ws)
  (hr:∀rs r,rs.length=ps.length->sp rs r->ws (S9 r) (G4 N rs)):FnD P w K mg base (k+1) f fd ps sp :=
 Fun.okD F.F S fun cdv A outer s H E lJ=>⟨ws,cq cdv A outer s H E lJ,hr⟩
end
section
variable {τ:A6}{E:E7}{Q:R->Prop}{QB:Bool->Prop}{wa wb we:WE}{wr:WA}{t u:WT}{ws wt:WS}{i j:Int}{n:Nat}{x y:Str}{ds es:List D}{d e:D}
@[simp] theorem K1:B8 ws wt E τ=ws { E with nx:=wt E } τ:=rfl
@[simp] theorem Q4b:U8 E τ=E.nx τ:=rfl
@[simp] theorem Q2q:U7 t ws wt E τ=t τ fun k=>if k=true then ws E τ else wt E τ:=rfl
@[simp] theorem W4:P4 we E τ=we τ fun r=>Q3u r E.rt:=rfl
@[simp] theorem Z3k:Q9z n E τ=∃s,τ[n]?=some (some s)/\Q2o s E.rt:=rfl
@[simp] theorem L7:C5 n we E τ=we τ fun r=>Q0m r fun s=>E.nx (τ.set n (some s)):=rfl
@[simp] theorem W6g {g:R->R->(R->Prop)->Prop}:Q9m n g we E τ=∃s,τ[n]?=some (some s)/\we τ fun y=>g (Q0 s) y fun r=>Q0m r fun s'=>E.nx (τ.set n (some s')):=rfl
@[simp] theorem W6f {g:WG}:wAsg we g E τ=we τ fun r=>∃d,r=.st d/\g d τ E.nx:=rfl
@[simp] theorem Q8r:X9 n we E τ=∃ds,τ[n]?=some (some (.own ds))/\we τ fun r=>∃d,r=.st d/\ds.length<sizeLine/\E.nx (τ.set n (some (.own (ds++[d])))):=rfl
@[simp] theorem T8 {wi:WI}{g:WG}:L1 wi g ws E τ=wi τ fun ds τ'=>C6 g ws E ds τ':=rfl
@[simp] theorem C1:wV n τ Q=∃s,τ[n]?=some (some s)/\Q (Q0 s):=rfl
@[simp] theorem F3:wC d τ Q=Q (.st d):=rfl
@[simp] theorem F2 {α:Type}{g:R->R->(α->Prop)->Prop}{Q:α->Prop}:A8 g wa wb τ Q=wa τ fun x=>wb τ fun y=>g x y Q:=rfl
@[simp] theorem s_b:wB t τ Q=t τ fun k=>Q (.st (.bl k)):=rfl
@[simp] theorem Y2v:Q6u we τ QB=we τ fun r=>Q1u r QB:=rfl
@[simp] theorem W6e:Q9l t u τ QB=t τ fun k=>if k=true then u τ QB else QB false:=rfl
@[simp] theorem Y2u:Q4q t τ QB=t τ fun k=>QB (!k):=rfl
@[simp] theorem W7j:Q9y wa wb τ Q=wa τ fun r=>blR r fun k=>if k=true then Q (.st (.bl true))else wb τ Q:=rfl
@[simp] theorem D8 {Q:List R->Prop}:A4 τ Q=Q []:=rfl
@[simp] theorem E3 {Q:List R->Prop}:A2 we wr τ Q=we τ fun r=>wr τ fun rs=>Q (r::rs):=rfl
@[simp] theorem s_tup:R1 wr τ Q=wr τ fun rs=>∃ds,Z4 rs=some ds/\ds.length<=sizeLine/\Q (.st (.tup ds)):=rfl
@[simp] theorem s_lst:N6 wr τ Q=wr τ fun rs=>∃ds,Z4 rs=some ds/\ds.length<=sizeLine/\Q (.nw ds):=rfl
@[simp] theorem E9:B0 we τ Q=we τ fun r=>fzR r fun d=>Q (.st d):=rfl
@[simp] theorem N9 {g:List R->(R->Prop)->Prop}:D9 g wr τ Q=wr τ fun rs=>g rs Q:=rfl
@[simp] theorem U5 {sp:C7}:N4 sp wr τ Q=wr τ fun rs=>rs.all M7=true/\∃r,sp (rs.map nrm) r/\Q r:=rfl
@[simp] theorem s_sl {wl wh:WO}:wSl we wl wh τ Q=we τ fun x=>wl τ fun l=>wh τ fun u=>slD x l u Q:=rfl
@[simp] theorem s_oN {Q:Option Int->Prop}:Z2t τ Q=Q none:=rfl
@[simp] theorem s_oS {Q:Option Int->Prop}:Z2u we τ Q=we τ fun r=>Q3i r fun i=>Q (some i):=rfl
@[simp] theorem W7o:P3 τ QB=QB true:=rfl
@[simp] theorem U6 {cap:List Nat}{wi:M6}{g:WG}:N5 n cap wi g t we τ Q=wi τ fun ds=>ds.length<=sizeLine/\G8 g t we ds (Q3 n cap τ) fun es=>Q (.nw es):=rfl
@[simp] theorem W6r:Z4k wa we τ Q=wa τ fun r1=>∃x,r1=.st (.str x)/\we τ fun r=>∃ds ys,S4 r=some ds/\Q0z ds=some ys/\(ys.map (·.length)).sum+ys.length*x.length<=16777216/\Q (.st (.str (Txt.join x ys))):=rfl
@[simp] theorem N2 {Q:A6->Prop}:B2 n d τ Q=Q (τ.set n (some (.dat d))):=rfl
@[simp] theorem Q3x {Q:A6->Prop}:gNl ds τ Q=(ds=[]/\Q τ):=rfl
@[simp] theorem Q3w {g:WG}{gs:WGs}{Q:A6->Prop}:F4 g gs ds τ Q=∃d r,ds=d::r/\g d τ fun τ'=>gs r τ' Q:=rfl
@[simp] theorem Q3y {gs:WGs}{Q:A6->Prop}:P7 n gs d τ Q=∃ds,d=.tup ds/\ds.length=n/\gs ds τ Q:=rfl
@[simp] theorem Q6m {Q:List D->A6->Prop}:Q0w we τ Q=we τ fun r=>∃ds,r=.st (.lst ds)/\Q ds τ:=rfl
@[simp] theorem W6p {Q:List D->A6->Prop}:Q5m we τ Q=we τ fun r=>∃ds,r=.st (.tup ds)/\Q ds τ:=rfl
@[simp] theorem Q3z {Q:List D->A6->Prop}:X3 wr τ Q=wr τ fun rs=>∃j:Int,rs=[.st (.int j)]/\-(2 ^ 62)<=j/\j<2 ^ 62/\Q (G9 0 j.toNat) τ:=rfl
@[simp] theorem Q4a {Q:List D->Prop}:Q0c we τ Q=we τ fun r=>∃ds,S4 r=some ds/\Q ds:=rfl
@[simp] theorem W6q {Q:List D->Prop}:Z2b we τ Q=we τ fun r=>∃x,r=.st (.str x)/\Q (E5 x):=rfl
@[simp] theorem Q8s {Q:List D->Prop}:Q5q wr τ Q=wr τ fun rs=>∃j:Int,rs=[.st (.int j)]/\-(2 ^ 62)<=j/\j<2 ^ 62/\Q (G9 0 j.toNat):=rfl
@[simp] theorem P0:Q0 (.dat d)=.st d:=rfl
@[simp] theorem X7:Q0 (.own ds)=.bw ds:=rfl
@[simp] theorem W2h:Q0 (.bor ds)=.bw ds:=rfl
@[simp] theorem o_sl1:N3 (.st d)=.dat d:=rfl
@[simp] theorem o_sl2:N3 (.bw ds)=.bor ds:=rfl
@[simp] theorem W2i:Q3u (.st d) Q=Q (.st d):=rfl
@[simp] theorem U4 {P:Sl->Prop}:Q0m (.st d) P=P (.dat d):=rfl
@[simp] theorem V4 {P:Sl->Prop}:Q0m (.nw ds) P=P (.own ds):=rfl
@[simp] theorem Q8g {P:D->Prop}:fzR (.st d) P=P d:=rfl
@[simp] theorem o_bl {b:Bool}:blR (.st (.bl b)) QB=QB b:=rfl
@[simp] theorem W2d {P:Int->Prop}:Q3i (.st (.int i)) P=P i:=rfl
@[simp] theorem o_d1:R.d (.st d)=some d:=rfl
@[simp] theorem o_d2:R.d (.nw ds)=some (.lst ds):=rfl
@[simp] theorem o_d3:R.d (.bw ds)=some (.lst ds):=rfl
@[simp] theorem o_nrm1:nrm (.st d)=.st d:=rfl
@[simp] theorem o_nrm2:nrm (.nw ds)=.bw ds:=rfl
@[simp] theorem o_nrm3:nrm (.bw ds)=.bw ds:=rfl
@[simp] theorem o_arg1:M7 (.st d)=true:=rfl
@[simp] theorem o_arg2:M7 (.nw ds)=true:=rfl
@[simp] theorem o_arg3:M7 (.bw ds)=true:=rfl
@[simp] theorem W2e:S4 (.st (.lst ds))=some ds:=rfl
@[simp] theorem o_sa0:Z4 []=some []:=rfl
@[simp] theorem o_sa1 {rs:List R}:Z4 (.st d::rs)=(Z4 rs).map (d::·):=rfl
@[simp] theorem Q2m:F8 (.st (.int i)) (.st (.int j)) Q=Q (.st (.int (i+j))):=rfl
@[simp] theorem W2a:F8 (.st (.str x)) (.st (.str y)) Q=(x.length+y.length<=sizeLine/\Q (.st (.str (x++y)))):=rfl
@[simp] theorem Y0r:F8 (.st (.tup ds)) (.st (.tup es)) Q=(ds.length+es.length<=sizeLine/\Q (.st (.tup (ds++es)))):=rfl
@[simp] theorem Z2v:F8 (.bw ds) (.nw es) Q=(ds.length+es.length<=sizeLine/\Q (.nw (ds++es))):=rfl
@[simp] theorem Y0t:W1 (.st (.int i)) (.st (.int j)) Q=(Q1d i j/\Q (.st (.int (i*j)))):=rfl
@[simp] theorem Y0s {C:Int->Int->Prop}{f:Int->Int->Int}:TK.N8 C f (.st (.int i)) (.st (.int j)) Q=(C i j/\Q (.st (.int (f i j)))):=rfl
@[simp] theorem Q1p {f:Int->Int->Bool}:R9 f (.st (.int i)) (.st (.int j)) QB=QB (f i j):=rfl
@[simp] theorem Z2w:C3 (.st (.lst ds)) (.st (.int i)) Q=∃d,J3 ds i=some d/\Q (.st d):=rfl
@[simp] theorem Z2x:C3 (.bw ds) (.st (.int i)) Q=∃d,J3 ds i=some d/\Q (.st d):=rfl
@[simp] theorem Z2y:C3 (.st (.tup ds)) (.st (.int i)) Q=∃d,J3 ds i=some d/\Q (.st d):=rfl
@[simp] theorem o_len1:E6 [.st (.lst ds)] Q=Q (.st (.int ds.length)):=rfl
@[simp] theorem Q6g:E6 [.st (.tup ds)] Q=Q (.st (.int ds.length)):=rfl
@[simp] theorem o_len3:E6 [.nw ds] Q=Q (.st (.int ds.length)):=rfl
@[simp] theorem Q2n:E6 [.bw ds] Q=Q (.st (.int ds.length)):=rfl
@[simp] theorem Q8h:E6 [.st (.str x)] Q=(x.length<=sizeLine/\Q (.st (.int x.length))):=rfl
@[simp] theorem Q0j {r1 r2:R}{b:Bool}:O8 n b r1 r2 QB=∃d e,r1.d=some d/\r2.d=some e/\d.depth<=n/\QB (if b then !D.eq d e else D.eq d e):=rfl
@[simp] theorem W2j {lo hi:Option Int}:slD (.st (.tup ds)) lo hi Q=Q (.st (.tup (Y3 ds lo hi))):=rfl
@[simp] theorem Y0w {b:Bool}:Q1u (.st (.bl b)) QB=QB b:=rfl
@[simp] theorem W2f {r:R}:Q2i [r] Q=∃ds,Q2r r=some ds/\Q (.nw ds):=rfl
@[simp] theorem o_e1:D.eq (.int i) (.int j)=(i==j):=by simp [D.eq]
@[simp] theorem o_e2:D.eq (.str x) (.str y)=(x==y):=by simp [D.eq]
@[simp] theorem o_e3 {b c:Bool}:D.eq (.bl b) (.bl c)=(b==c):=by simp [D.eq]
@[simp] theorem o_e4:D.eq (.lst ds) (.lst es)=D.eqs ds es:=by simp [D.eq]
@[simp] theorem o_e5:D.eq (.tup ds) (.tup es)=D.eqs ds es:=by simp [D.eq]
@[simp] theorem o_eN:D.eqs ds []=ds.isEmpty:=by cases ds <;> simp [D.eqs]
@[simp] theorem W2c {r r':R}:(S9 r).rt r'=(r'=r):=rfl
@[simp] theorem o_endn {r:R}:(S9 r).nx τ=(r=.st .non):=rfl
@[simp] theorem o_dep0:D.depth (.int i)=0:=by simp [D.depth]
@[simp] theorem o_dep1:D.depth (.str x)=0:=by simp [D.depth]
@[simp] theorem o_zl:(0:Nat)<=sizeLine:=ba _
@[simp] theorem V0k {N:List Str}{rs:List R}:G4 N rs=rs.map (fun r=>some (N3 r))++List.replicate (N.length-rs.length) none:=rfl
end
section
variable {X:Cx}{ac:Pn9} {σ:St}{H:Hp}{s:Shared}
open PySem.SeqAt
theorem W5d {d1 d2:D}{u1 u2:Value}{A:Around} (h1:Vw X H s d1 u1) (h2:Vw X H s d2 u2) (hu:A.units<cLine) (hb:¬ Q2b d1 d2):RcNeAt A s u1 u2 (!D.eq d1 d2):=by
 cases h1 <;> cases h2 <;> first | exact absurd (.inl ⟨_,_,rfl,rfl⟩) hb | exact absurd (.inr ⟨_,_,rfl,rfl⟩) hb | (unfold D.eq;(try simp only [Bool.not_true,Bool.not_false]);(with_reducible first | exact RcNeAt.none_none | exact RcNeAt.none_bool _ | exact RcNeAt.none_int _ _ | exact RcNeAt.none_str _ _ | exact RcNeAt.none_tuple (by assumption) hu | exact RcNeAt.none_list (by assumption) hu | exact RcNeAt.bool_none _ | exact RcNeAt.bool_bool _ _ | exact RcNeAt.bool_int _ _ _ | exact RcNeAt.bool_str _ _ _ | exact RcNeAt.bool_tuple _ (by assumption) hu | exact RcNeAt.bool_list _ (by assumption) hu | exact RcNeAt.int_none _ _ | exact RcNeAt.int_bool _ _ _ | exact RcNeAt.int_int _ _ _ _ | exact RcNeAt.int_str _ _ _ _ | exact RcNeAt.int_tuple _ _ (by assumption) hu | exact RcNeAt.int_list _ _ (by assumption) hu | exact RcNeAt.str_none _ _ | exact RcNeAt.str_bool _ _ _ | exact RcNeAt.str_int _ _ _ _ | exact RcNeAt.str_str _ _ _ _ | exact RcNeAt.str_tuple _ _ (by assumption) hu | exact RcNeAt.str_list _ _ (by assumption) hu | exact RcNeAt.tuple_none (by assumption) hu | exact RcNeAt.tuple_bool _ (by assumption) hu | exact RcNeAt.tuple_int _ _ (by assumption) hu | exact RcNeAt.tuple_str _ _ (by assumption) hu | exact RcNeAt.tuple_list (by assumption) (by assumption) hu | exact RcNeAt.list_none (by assumption) hu | exact RcNeAt.list_bool _ (by assumption) hu | exact RcNeAt.list_int _ _ (by assumption) hu | exact RcNeAt.list_str _ _ (by assumption) hu | exact RcNeAt.list_tuple (by assumption) (by assumption) hu))
theorem W5c (I:A0 X ac σ H s) (n:Nat) (d1 d2:D) (v1 v2:V) (u1 u2:Value) (A:Around) (hd:d1.depth<=n) (h1:IsW X.K H d1 v1) (h2:IsW X.K H d2 v2) (r1:B9 v1 u1) (r2:B9 v2 u2) (hu:A.units+n+1<cLine):RcNeAt A s u1 u2 (!D.eq d1 d2):=by
 have w1:=Q4k I h1 r1
 have w2:=Q4k I h2 r2
 by_cases hb:Q2b d1 d2
 ·obtain⟨p,q,rfl,rfl⟩ | ⟨p,q,rfl,rfl⟩:=hb
  ·cases w1;cases w2
   rename_i a1 fN eQ fR gI eY a2 gg bZ dN dZ cO
   have hd:D.depths p+1<=n:=by unfold D.depth at hd;exact hd
   have l1:eQ.toArray.size=p.length:=by have:=eY.length;have:=fR.length;simp;omega
   have l2:bZ.toArray.size=q.length:=by have:=cO.length;have:=dN.length;simp;omega
   have k:=RcNeAt.tuples (A:=A) (s:=s) (e:=fun i=>match p[i]?,q[i]? with | some x,some y=>D.eq x y | _,_=>true) gI dZ (by omega) (fun j j3 gt=>by
    obtain⟨d1,v1,e1,i1,w1⟩:=Q1h eY fR j3
    obtain⟨d2,v2,e2,i2,w2⟩:=Q1h cO dN gt
    simp only [e1,e2]
    exact Q5h I (fun A=>Q8n I n d1 d2 v1 v2 _ _ A (by have:=D.depths_get e1;omega) i1.w i2.w w1 w2) i1 i2 w1 w2 (by simp only [bQ];omega))
   rw [l1,l2]at k
   unfold D.eq;rw [D.eqs_range];exact k
  ·cases w1;cases w2
   rename_i a1 fN eQ fR gI eY a2 gg bZ dN dZ cO
   have hd:D.depths p+1<=n:=by unfold D.depth at hd;exact hd
   have l1:eQ.toArray.size=p.length:=by have:=eY.length;have:=fR.length;simp;omega
   have l2:bZ.toArray.size=q.length:=by have:=cO.length;have:=dN.length;simp;omega
   have kk:RcNeAt A s (.ref a1) (.ref a2) (!D.eqs p q):=by
    rw [D.eqs_range]
    by_cases bI:p.length=q.length
    ·have k:=RcNeAt.lists (A:=A) (s:=s) (e:=fun i=>match p[i]?,q[i]? with | some x,some y=>D.eq x y | _,_=>true) gI dZ (by omega) (by omega) (fun j j3 gt=>by
      obtain⟨d1,v1,e1,i1,w1⟩:=Q1h eY fR j3
      obtain⟨d2,v2,e2,i2,w2⟩:=Q1h cO dN gt
      simp only [e1,e2]
      exact Q5h I (fun A=>Q8n I n d1 d2 v1 v2 _ _ A (by have:=D.depths_get e1;omega) i1.w i2.w w1 w2) i1 i2 w1 w2 (by simp only [bQ];omega))
     rw [l1]at k
     rw [<- bI,Nat.min_self,beq_self_eq_true,Bool.and_true]
     exact k
    ·rw [bL.mpr bI,Bool.and_false]
     exact RcNeAt.lists_lengths gI dZ (by rw [l1,l2];simpa using bI) (by omega)
   unfold D.eq;exact kk
 ·exact W5d w1 w2 (by omega) hb
theorem Q5e {n:Nat} (hu:X.A.units+n+1<cLine):W5 X .NotEq (O8 n true):=by
 intro ac s σ H x y v u Q I rx ry ⟨r1,r2,h1,h2,d,e,e1,e2,hd,q⟩
 exact W5c I n d e x y v u X.A hd (h1.w e1) (h2.w e2) rx ry hu _ _ _ _ ⟨.bl _,H,I,rfl,q⟩
theorem Q1k {A:Around}{k:Nat} (hr:D5 k A):A.units+59+1<cLine:=by have:=hr.units;omega
end
section
variable {X:Cx}{H0:Hp}{a b c e o tg:Expr}{pos apos bi:Pos}{wa wb wc we:WE}{wr:WA}
def Q4x (x y:R) (Q:R->Prop):Prop:=∃i j,S4 x=some i/\S4 y=some j/\i.length+j.length<=sizeLine/\Q (.nw (i++j))
theorem Y6j:V0 Q4x:=fun x y P Q g ⟨i,j,a,b,c,q⟩=>⟨i,j,a,b,c,g _ q⟩
theorem Z9n {K:Fg9}{H:Hp}:∀{r:R}{ds:List D}{v:V},S4 r=some ds->IsV K H r v->∃a xs,v=.ref a/\D6 K H a xs/\AllS K H ds xs:=fun {r ds v} e h=>Q2k (H0:=fun _=>none) e h
theorem W2k:OpD X (binaryOp .Add) Q4x:=by
 intro ac s σ H x y v u Q I rx ry ⟨r1,r2,h1,h2,i,j,e1,e2,hz,q⟩
 obtain⟨l,xs,rfl,sq,al⟩:=Z9n e1 h1
 obtain⟨b,ys,rfl,oJ,gZ⟩:=Z9n e2 h2
 cases rx;cases ry
 obtain⟨aU,rv,pl,_⟩:=I.list sq
 obtain⟨bZ,dN,dZ,_⟩:=I.list oJ
 have la:=al.length
 have lb:=gZ.length
 have lr:=rv.length
 have rP:=dN.length
 obtain⟨⟨cls,dd,data,sl⟩,ho,hc,n,hd⟩:=id pl.isList
 obtain⟨⟨km,jp,data2,jh⟩,fF,iw,n2,ip⟩:=id dZ.isList
 simp only at hc hd iw ip
 subst hc hd iw ip
 have e:aU.toArray++bZ.toArray=(aU++bZ).toArray:=by simp
 refine concat_meets ⟨_,ho,rfl⟩ ⟨_,fF,rfl⟩ noFill_list_add seq_list_add PySem.F.slot_list_add PySem.F.entry_list_add (PySem.F.args_list_add_2 _ _) (list_addW l b aU.toArray bZ.toArray n n2 dd jp sl jh (by simp;omega)) ⟨ho,fF,?_⟩
 rw [e]
 have fr:=I.fresh
 exact⟨.ref _,_,I.lnew (t':=s.toks) (rv.append dN) (by rw [aD];omega),rfl,q _ _ (C8 fr _) ⟨_,xs++ys,rfl,fr,upd_same,(al.mono (Kp.of (C8 fr _)) _ _).append (gZ.mono (Kp.of (C8 fr _)) _ _)⟩⟩
noncomputable def Q5n (x y:Str):Option Nat:=(Builtin.Str.occurrences x y 0 x.length 1).head?
def Q4m (wo we:WE):WE:=fun τ Q=>wo τ fun r1=>∃x,r1=.st (.str x)/\we τ fun r=>∃y i,r=.st (.str y)/\Q5n x y=some i/\Q (.st (.int (i:Int)))
theorem W1p:MtR X "str.index" (fun x vs H Q=>∃z y i,x=.str z/\vs=[.str y]/\Q5n z y=some i/\Q (.int (i:Int)) H):=by
 intro ac s σ H x vs v us Q I rx rv ⟨z,y,i,e1,e2,hi,q⟩
 subst e1 e2
 obtain⟨t,rfl⟩:=rx
 obtain⟨u,rfl,t',rfl⟩:=T9 rv
 unfold Q5n at hi
 cases ho:Builtin.Str.occurrences z y 0 z.length 1 with
 | nil=>rw [ho]at hi;cases hi
 | cons j rest =>
  rw [ho]at hi
  have hi:some j=some i:=hi
  cases hi
  exact PySem.SC.index ho ⟨.int _,H,I.tok _,⟨_,rfl⟩,q⟩
theorem DE.index {wo:WE} (ho:DE X H0 o wo) (he:DE X H0 e we) (dD:attributeBase o "index" X.env (eval o X.env)=eval o X.env:=by rfl)
  (eT:((backTo bi (starEach [e] X.env)).all (fun x=>!x.1)&&(backToKw bi (keywordEach [] X.env)).all (fun x=>x.1.isSome)&&decide ([e].length+([]:List Keyword).length+(if ([]:List Keyword).isEmpty then 0 else 1)<30))=true:=by rfl)
  (dn:(apos.endLine==bi.line)=true:=by rfl) (hs:starEach [e] X.env=(false,eval e X.env)::starEach [] X.env:=by rfl) (cV:(backTo bi (starEach [] X.env)).any (·.1)=false:=by rfl) :
  DE X H0 (.Call (.Attribute o "index" apos) [e] [] bi) (Q4m wo we) where
 mono:=fun τ P Q f h=>ho.mono τ _ _ (fun r ⟨x,e1,h⟩=>⟨x,e1,he.mono τ _ _ (fun r ⟨y,i,a1,a2,a3⟩=>⟨y,i,a1,a2,f _ a3⟩) h⟩) h
 pe:=L5 (Z3d PySem.F.plainAttrs_str PySem.F.slot_str_index PySem.F.type_str_index W1p ho.pe (Q0k he.pe Q1r hs) dD eT dn hs cV) fun σ H Q ⟨τ,hR,h⟩=>⟨τ,hR,ho.mono τ _ _ (fun r ⟨x,e1,h⟩ v H1 s1 ir=>by
  subst e1
  cases (show v=.str x from ir)
  refine⟨rfl,τ,hR.mono s1,he.mono τ _ _ (fun r ⟨y,i,a1,a2,a3⟩ u H2 s2 iu=>?_) h⟩
  subst a1
  cases (show u=.str y from iu)
  exact⟨x,y,i,rfl,rfl,a2,a3 _ _ (s1.trans s2) V9⟩) h⟩
def Q5l (we:WE):WI:=fun τ Q=>we τ fun r=>∃x,r=.st (.str x)/\Q (E5 x) τ
theorem W9x {K:Fg9}{H0 H:Hp}{x:Str}:Yl K H0 (Its x) (E5 x) H where
 go:=fun H' _ _ i hi=>by
  have:i<x.cps.size:=by simpa [E5]using hi
  exact this
 yld:=fun H' _ _ i v cW d hd ⟨e,c,hc,hv⟩=>by
  subst e hv
  refine⟨A3.refl _,?_⟩
  unfold E5 at hd
  rw [ak]at hd
  have:x.cps.toList[i]?=some c:=by simpa using hc
  rw [this]at hd
  have e:D.str ⟨#[c]⟩=d:=aC hd
  subst e
  exact A1.s_str
 stop:=fun H' _ _=>by
  show(E5 x).length=x.cps.size
  simp [E5]
theorem DI.str (he:DE X H0 e we):DI X H0 tg e (Q5l we) where
 mono:=fun τ P Q f h=>he.mono τ _ _ (fun r ⟨ds,e1,q⟩=>⟨ds,e1,f _ _ q⟩) h
 pi:=by
  intro ac s σ H R I ⟨τ,hR,h⟩
  refine B3 (he.pe ac s σ H (fun v H1=>A3 H H1/\∃x,v=.str x/\∀J H',Kp H H'->B6 X.K H0 τ σ H'->Yl X.K H0 J (E5 x) H'->R J H') I ⟨τ,hR,he.mono τ _ _ (fun r ⟨x,e1,q⟩ v H1 s1 ir=>⟨s1,x,by subst e1;exact ir,q⟩) h⟩) fun u s1 ⟨v,H1,I1,rv,sm,x,e1,q⟩=>?_
  subst e1
  obtain⟨t,rfl⟩:=rv
  have fin:∀(ty:String),(ty="str_ascii_iterator"\/ty="str_iterator")->PIE X ac σ tg R (.ref s1.heap.objs.size) { s1 with heap:=s1.heap.push { cls:=.type ty,data:=.fields #[.str x t,.int 0 0] } }:=fun ty gn=>by
   refine⟨s1.heap.objs.size,[s1.heap.objs.size],_,_,H1,rfl,I1.kept (t':=s1.toks) fun b o e=>ae _ e,Y5a (ty:=ty) (x:=x) (t:=t) gn,⟨_,aF _ rfl,rfl,rfl⟩,fun b hb=>?_,q _ _ (Kp.of sm) (hR.mono sm) W9x⟩
   have e:b=s1.heap.objs.size:=by simpa using hb
   subst e
   exact I1.fpOk (aj _) (I1.hok.fresh (aj _))
  cases ha:x.cps.all (·<128)
  ·exact wpAny_pyIter_wide ha (fin _ (.inr rfl))
  ·exact wpAny_pyIter_ascii ha (fin _ (.inl rfl))
end
def Z7s (ds:List D) (P:D->List D->Prop):Prop:=match ds with
 | []=>False
 | d::r=>P d r
def tupR (d:D) (P:List D->Prop):Prop:=match d with
 | .tup ds=>P ds
 | _=>False
section
variable {τ:A6}{Q:R->Prop}{QB:Bool->Prop}{wa wb wc we:WE}{wr:WA}{n:Nat}{d e:D}{ds es:List D}{i j:Int}{x y:Str}
@[simp] theorem Y2l {Q:List D->A6->Prop}:Q5l we τ Q=we τ fun r=>∃x,r=.st (.str x)/\Q (E5 x) τ:=rfl
@[simp] theorem Y2m:Q4m wa we τ Q=wa τ fun r1=>∃x,r1=.st (.str x)/\we τ fun r=>∃y i,r=.st (.str y)/\Q5n x y=some i/\Q (.st (.int (i:Int))):=rfl
@[simp] theorem Y2p {Q:List D->Prop}:Q5r we τ Q=we τ fun r=>∃ds,r=.st (.tup ds)/\Q ds:=rfl
@[simp] theorem W2b {r r':R}:Q4x r r' Q=∃i j,S4 r=some i/\S4 r'=some j/\i.length+j.length<=sizeLine/\Q (.nw (i++j)):=rfl
@[simp] theorem Q8i {r:R}:V5 [r] Q=∃ds,Q2r r=some ds/\Q (.st (.tup ds)):=rfl
@[simp] theorem o_sq2:Q2r (.nw ds)=some ds:=rfl
@[simp] theorem Y0v:Q2r (.bw ds)=some ds:=rfl
@[simp high] theorem s_gCn2 {g:WG}{gs:WGs}{Q:A6->Prop}:F4 g gs ds τ Q ↔ Z7s ds fun d r=>g d τ fun τ'=>gs r τ' Q:=by
 constructor
 ·rintro ⟨a,b,h,q⟩
  cases h;exact q
 ·intro h
  cases ds with
  | nil=>exact h.elim
  | cons d r=>exact⟨d,r,rfl,h⟩
@[simp high] theorem s_gTp2 {gs:WGs}{Q:A6->Prop}:P7 n gs d τ Q ↔ tupR d fun ds=>ds.length=n/\gs ds τ Q:=by
 constructor
 ·rintro ⟨a,h,q⟩
  cases h;exact q
 ·intro h
  cases d with
  | tup ds=>exact⟨ds,rfl,h⟩
  | _=>exact h.elim
@[simp] theorem V0j {P:D->List D->Prop}:Z7s (d::ds) P=P d ds:=rfl
@[simp] theorem o_tupR {P:List D->Prop}:tupR (.tup ds) P=P ds:=rfl
end
theorem Z8 {we:WE}{f:D->D}{rest:A6}:∀(ds:List D) (o:Option Sl) (Q:List D->Prop),(∀d∈ds,∀Q':R->Prop,Q' (.st (f d))->we (some (.dat d)::rest) Q')->Q (ds.map f)->G8 (B2 0) P3 we ds (o::rest) Q
 | [],o,Q,h,q=>q
 | d::ds,o,Q,h,q=>by
  simp only [G8]
  simp
  refine h d ao _ ⟨_,rfl,?_⟩
  exact Z8 ds _ _ (fun d hd=>h d (ar _ hd)) q
end TK
end
section
namespace HT
open PySem PySem.Spec PyProof.Rows
open AutoSeq1 (wpAny_loadPart')
theorem Z8c {α:Type} (items:Array α):∀(n:Nat) (acc:Array α),(List.replicate n items).foldl (·++·) acc=acc++(List.replicate n items.toList).flatten.toArray
 | 0,acc=>by simp
 | n+1,acc=>by
  rw [bq,hV,Z8c items n,bq,bS]
  apply Array.ext'
  simp
theorem W9c (l:Addr) (items:Array Value) (n:Nat) (dd:Option Addr) (sl:Array (Option Value)) (u:Tok) (k:Int) (h2:2<=k) (h3:k<=1000) (cb:¬ items.isEmpty=true) (hsz:(items.size:Int)*k<=(sizeLine:Int)) :
  Meets (Builtin.«tuple.__mul__» ⟨[.ref l,.int k u],[]⟩) (fun _ R s=>s.heap.get? l=some { cls:=.type "tuple",dict:=dd,data:=.seq items n,slots:=sl } /\
   R (.ok (.ret (Value.ref s.heap.objs.size))) { s with heap:=s.heap.push { cls:=Value.type "tuple",data:=Data.seq (List.replicate k.toNat items.toList).flatten.toArray } }) :=
 .of_wp fun prog w A R s h=>by
  obtain⟨hp,g,d,tk,os⟩:=s;obtain⟨hl,h⟩:=h
  have f1:=AutoSeq1.idx_int
  have f2:=AutoSeq1.sub_tuple_tuple
  have e1:(List.replicate k.toNat items).foldl (·++·) #[]=(List.replicate k.toNat items.toList).flatten.toArray:=by rw [Z8c];simp
  have c1:(decide (k < -(2 ^ 63))||decide (k ≥ 2 ^ 63))=false:=by
   simp only [Bool.or_eq_false_iff,decide_eq_false_iff_not]
   omega
  have c2:(k==1)=false:=by simp;omega
  have c3:¬ k<=0:=by omega
  wp_walk using wpAny_loadPart' hl
  rw [aH (by rw [c1];decide)]
  wp_walk using wpAny_loadPart' hl
  have m5:items.isEmpty=false:=by simpa using cb
  have dn:(sizeLine:Int)<=(2 ^ 63-1) / 8:=by decide
  rw [aH (by omega)]
  have hm:¬ Builtin.Tuple.tupleTooMany ((items.size:Int)*k)=true:=by
   unfold Builtin.Tuple.tupleTooMany
   simp only [cY]
   omega
  rw [aH hm,e1]
  have dm:sizeOk (.seq (List.replicate k.toNat items.toList).flatten.toArray):=by
   show(List.replicate k.toNat items.toList).flatten.toArray.size<=sizeLine
   rw [aA,L2.Z2g,bN]
   have e:((k.toNat:Nat):Int)=k:=by omega
   have:((k.toNat*items.size:Nat):Int)<=(sizeLine:Int):=by rw [Int.natCast_mul,e,Int.mul_comm];exact hsz
   exact_mod_cast this
  first
   | exact aa (m:=Builtin.Tuple.tupleExact _) (bb (ai ⟨_,rfl,h⟩) dm)
   | exact aa (m:=Builtin.Tuple.tupleExact _) (bb (aa (ai (ai ⟨_,rfl,h⟩))) dm)
   | exact aa (aa (m:=Builtin.Tuple.tupleExact _) (bb (ai (ai ⟨_,rfl,h⟩)) dm))
section
variable {prog:Program}{w:World}{A:Around}{E:VS9}{s:Shared}
theorem mul_tupk {l:Addr}{items:Array Value}{u:Tok}{k:Int}{Q:VS9} (ht:IsTup s.heap l items) (h2:2<=k) (h3:k<=1000) (cb:¬ items.isEmpty=true) (hsz:(items.size:Int)*k<=(sizeLine:Int))
  (h:Q (.ref s.heap.objs.size) { s with heap:=s.heap.push { cls:=.type "tuple",data:=.seq (List.replicate k.toNat items.toList).flatten.toArray } }):wpAny (model prog w) A (binaryOp .Mult (.ref l) (.int k u)) Q E s:=by
 obtain⟨⟨cls,dd,data,sl⟩,ho,hc,n,hd⟩:=id ht
 simp only at hc hd
 subst hc hd
 exact wpAny_binaryOp_repeat_ref (T:="tuple") (U:="int") (by decide) ⟨_,ho,rfl⟩ (fun s'=>typeIs_int s' k u) Y0h F.fills_int_mul gC Y1z F.slot_int_index.lookup
  (call_meets gC (typeIs_int s k u) F.entry_int_rmul (F.args_int_rmul_2 _ _) (Y2a k u l items n dd sl)
   ⟨ho,rfl,⟨_,ho,rfl⟩,call_meets F.slot_tuple_mul ⟨_,ho,rfl⟩ F.entry_tuple_mul (F.args_tuple_mul_2 _ _) (W9c l items n dd sl u k h2 h3 cb hsz) ⟨ho,h⟩⟩)
end
end HT
namespace TK
open PySem PySem.Spec PyProof.Rows L2
section
variable {X:Cx}
def Q8e (x y:R) (Q:R->Prop):Prop:=∃ds k,x=.st (.tup ds)/\y=.st (.int k)/\2<=k/\k<=1000/\ds≠[]/\(ds.length:Int)*k<=(sizeLine:Int)/\Q (.st (.tup (List.replicate k.toNat ds).flatten))
theorem W1r:V0 Q8e:=fun x y P Q f ⟨ds,k,h1,h2,h3,h4,h5,h6,h7⟩=>⟨ds,k,h1,h2,h3,h4,h5,h6,f _ h7⟩
theorem Y0y:OpD X (binaryOp .Mult) Q8e:=by
 intro ac s σ H x y v u Q I rx ry ⟨r1,r2,h1,h2,ds,k,e1,e2,k2,k3,cb,hz,q⟩
 subst e1 e2
 have h1:A1 X.K H (.tup ds) x:=h1
 unfold A1 at h1
 obtain⟨a,xs,rfl,qa,eX⟩:=h1
 cases (show y=.int k from h2)
 cases rx
 obtain⟨t,rfl⟩:=ry
 obtain⟨aU,r1,p1,_⟩:=I.tuple (C4.of (K:=X.K) qa)
 have la:=eX.length
 have lb:=r1.length
 have hn:aU≠[]:=fun z=>cb (cQ.mp (by rw [la,lb,z];rfl))
 refine HT.mul_tupk p1 k2 k3 (by simpa using hn) (by rw [aA,<- lb,<- la];exact hz) ?_
 have hf:=I.hok.fresh (aj s.heap.objs.size)
 refine⟨.ref s.heap.objs.size,_,I.laid (t':=s.toks) (o:=.tup (List.replicate k.toNat xs).flatten) (fun b ob q=>ae _ q) (aj _) ?_,rfl,q _ _ (C8 hf _) (A1.s_tup (K:=X.K) upd_same ((eX.rep _).mono (Kp.of (C8 hf _)) _ _))⟩
 refine⟨?_,_,B4.rep r1 k.toNat,IsTup.new _ _⟩
 rw [Z2g]
 have e:((k.toNat:Nat):Int)=k:=by omega
 have:((k.toNat*xs.length:Nat):Int)<=(sizeLine:Int):=by rw [Int.natCast_mul,e,Int.mul_comm,<- la];exact hz
 exact_mod_cast this
@[simp] theorem W2g {ds:List D}{k:Int}{Q:R->Prop}:Q8e (.st (.tup ds)) (.st (.int k)) Q ↔ (2<=k/\k<=1000/\ds≠[]/\(ds.length:Int)*k<=(sizeLine:Int)/\Q (.st (.tup (List.replicate k.toNat ds).flatten))):=by
 constructor
 ·rintro ⟨a,b,h1,h2,h3⟩
  cases h1;cases h2
  exact h3
 ·intro h
  exact⟨ds,k,rfl,rfl,h⟩
end
end TK
end
section
namespace HT
open PySem PySem.Spec PyProof.Rows
section
variable {prog:Program}{w:World}{A:Around}{E:VS9}{s:Shared}
end
end HT
namespace TK
open PySem PySem.Spec PyProof.Rows L2
section
variable {X:Cx}{H0:Hp}{a b c e tg:Expr}{pos p p2 dj:Pos}{wa wb we:WE}{wr:WA}
noncomputable def R4 (ds es:List D):List D:=(ds.zip es).map fun p=>.tup [p.1,p.2]
theorem Y5p {ds es:List D}{i:Nat}{d:D} (h:(R4 ds es)[i]?=some d):∃x y,ds[i]?=some x/\es[i]?=some y/\d=.tup [x,y]:=by
 unfold R4 at h
 rw [ak]at h
 cases e:(ds.zip es)[i]? with
 | none=>rw [e]at h;cases h
 | some q =>
  rw [e]at h
  have h:D.tup [q.1,q.2]=d:=aC h
  rw [bP]at e
  exact⟨q.1,q.2,e.1,e.2,h.symm⟩
theorem Z5p (ds es:List D):(R4 ds es).length=min ds.length es.length:=by simp [R4]
end
end TK
end
section
namespace HT
open PySem PySem.Spec PyProof.Rows L2
section
variable {prog:Program}{w:World}{A:Around}{E:VS9}{s:Shared}
end
end HT
end
section
namespace TK
open PySem PySem.Spec PyProof.Rows L2
theorem Kp.updM {H:Hp}{a:Addr}{old:HO} (h:H a=some old) (nt:∀xs,old≠.tup xs) (nf:∀o u,old≠.frz o u) (o:HO):Kp H (L2.upd H a o) :=
 ⟨fun c ys q=>by rw [A9 (X5 q h (fun z=>nt _ z.symm))];exact q,fun c ob u q=>by rw [A9 (X5 q h (fun z=>nf _ _ z.symm))];exact q⟩
theorem B6.mutG {K:Fg9}{H0 H:Hp} {τ:A6} {σ:St}{i:Nat}{s s':Sl}{a:Addr}{old new:HO} (hR:B6 K H0 τ σ H) (e1:τ[i]?=some (some s)) (m:s.mut=true) (hv:σ[i]?=some (some (.ref a))) (h0:H0 a=none)
  (sq:H a=some old) (nt:∀xs,old≠.tup xs) (nf:∀o u,old≠.frz o u) (dU:M5 K H0 (upd H a new) s' (.ref a)) (ne:∀ φ,old≠.ext φ:=by intro φ z;cases z):B6 K H0 (τ.set i (some s')) σ (upd H a new):=by
 have kp:Kp H (upd H a new):=Kp.updM sq nt nf _
 have hl:i<τ.length:=by
  rcases bA i τ.length with h | h
  ·exact h
  ·rw [aM.mpr h]at e1;cases e1
 have jz:∀(j:Nat) (t:Sl),(τ.set i (some s'))[j]?=some (some t)->j≠i->τ[j]?=some (some t):=fun j t e hj=>by rw [aG (fun z=>hj z.symm)]at e;exact e
 have eF:∀(j:Nat) (t:Sl),(τ.set i (some s'))[j]?=some (some t)->t.mut=true->∃t',τ[j]?=some (some t')/\t'.mut=true:=fun j t e mm=>by
  by_cases hj:j=i
  ·subst hj;exact⟨_,e1,m⟩
  ·exact⟨t,jz j t e hj,mm⟩
 refine⟨by rw [aZ];exact hR.len,fun b ob hb=>?_,fun j t e=>?_,fun j k t u v cb e2 e3 m1 m2 q1 q2=>?_⟩
 ·rw [A9 (U3 hb h0)];exact hR.same b ob hb
 ·by_cases hj:j=i
  ·subst hj
   rw [Y7 hl]at e;cases e
   exact⟨_,hv,dU⟩
  ·have e:=jz j t e hj
   obtain⟨v,q,r⟩:=hR.here j t e
   refine⟨v,q,?_⟩
   have ap:t.mut=true->v≠.ref a:=fun mm z=>by
    subst z
    exact hR.apart i j _ t (.ref a) (fun z=>hj z.symm) e1 e m mm hv q
   cases t with
   | dat d=>exact A1.mono kp _ _ r
   | own es=>obtain⟨b,ys,e,n,q,t⟩:=r;exact⟨b,ys,e,n,by rw [A9 (fun z=>ap rfl (by rw [e,z]))];exact q,t.mono kp _ _⟩
   | bor es=>obtain⟨b,ys,e,q,t⟩:=r;exact⟨b,ys,e,q,t.mono kp _ _⟩
   | bd es=>obtain⟨b,ys,e,q,t⟩:=r;exact⟨b,ys,e,q,t.mono kp _ _⟩
   | dk es=>obtain⟨b,ys,e,n,q,t⟩:=r;exact⟨b,ys,e,n,by rw [A9 (fun z=>ap rfl (by rw [e,z]))];exact q,t.mono kp _ _⟩
   | dt es=>obtain⟨b,ys,e,n,q,t⟩:=r;exact⟨b,ys,e,n,by rw [A9 (fun z=>ap rfl (by rw [e,z]))];exact q,t.mono kp _ _⟩
   | ob _=>exact r
   | cl _ _=>exact⟨r.1,r.2.2 _ _ kp r.2.1,r.2.2⟩
   | ll _ _=>exact⟨r.1,r.2.keep kp fun b φ q=>by rw [A9 (X5 q sq (fun z=>ne _ z.symm))];exact q⟩
   | ins _ _ _=>obtain⟨e,n,dx,ys,q,t⟩:=r;exact⟨e,n,dx,ys,by rw [A9 (fun z=>ap rfl (by rw [e,z]))];exact q,t.mono kp _ _⟩
 ·obtain⟨s1,mz,lg⟩:=eF j t e2 m1
  obtain⟨t1,my,lf⟩:=eF k u e3 m2
  exact hR.apart j k s1 t1 v cb mz my lg lf q1 q2
noncomputable def O2:D->Option A7
 | .int i=>some (.inl i)
 | .str x=>some (.inr x)
 | _=>none
noncomputable def U2:List D->Option (List A7)
 | []=>some []
 | d::r=>(O2 d).bind fun k=>(U2 r).map (k::·)
theorem Q5t {K:Fg9}{H:Hp}:∀{ds:List D}{ks:List A7}{xs:List V},U2 ds=some ks->AllS K H ds xs->xs=ks.map kV
 | [],ks,xs,h,al=>by cases h;unfold AllS at al;exact al
 | d::r,ks,xs,h,al=>by
  unfold U2 at h
  unfold AllS at al
  obtain⟨v,t,rfl,iv,al⟩:=al
  cases d with
  | int i =>
   cases e:U2 r with
   | none=>rw [e]at h;cases h
   | some k2 =>
    rw [e]at h
    have h:some (Sum.inl i::k2)=some ks:=h
    cases h
    rw [Q5t e al]
    unfold A1 at iv
    rw [iv];rfl
  | str i =>
   cases e:U2 r with
   | none=>rw [e]at h;cases h
   | some k2 =>
    rw [e]at h
    have h:some (Sum.inr i::k2)=some ks:=h
    cases h
    rw [Q5t e al]
    unfold A1 at iv
    rw [iv];rfl
  | non=>cases h
  | bl _=>cases h
  | tup _=>cases h
  | lst _=>cases h
section
variable {κ:Type} [DecidableEq κ]
noncomputable def C9 (kvs:List (κ×D)) (k:κ):Option D:=(kvs.find? fun kv=>decide (kv.1=k)).map (·.2)
noncomputable def L0 (kvs:List (κ×D)) (k:κ) (v:D):List (κ×D):=if (kvs.any fun kv=>decide (kv.1=k))=true then kvs.map (fun kv=>if kv.1=k then(kv.1,v)else kv)else kvs++[(k,v)]
theorem B5.val {K:Fg9}{H:Hp}{k:κ}:∀{kvs:List (κ×D)}{ps:List (κ×V)},B5 K H kvs ps->(C9 kvs k=none/\R0 ps k=none)\/∃d v,C9 kvs k=some d/\R0 ps k=some v/\A1 K H d v
 | [],ps,h=>by unfold B5 at h;subst h;exact .inl ⟨rfl,rfl⟩
 | p::kvs,ps,h=>by
  unfold B5 at h
  obtain⟨v,r,rfl,iv,h⟩:=h
  by_cases e:p.1=k
  ·exact .inr ⟨p.2,v,by simp [C9,b8,e],Q9k e,iv⟩
  ·rw [Q9j (p:=(p.1,v)) e]
   have:C9 (p::kvs) k=C9 kvs k:=by simp [C9,b8,e]
   rw [this]
   exact B5.val h
theorem B5.any {K:Fg9}{H:Hp}{k:κ}:∀{kvs:List (κ×D)}{ps:List (κ×V)},B5 K H kvs ps->(kvs.any fun kv=>decide (kv.1=k))=(ps.any fun kv=>decide (kv.1=k))
 | [],ps,h=>by unfold B5 at h;subst h;rfl
 | p::kvs,ps,h=>by
  unfold B5 at h
  obtain⟨v,r,rfl,iv,h⟩:=h
  rw [cI,cI,B5.any h]
theorem B5.length {K:Fg9}{H:Hp}:∀{kvs:List (κ×D)}{ps:List (κ×V)},B5 K H kvs ps->kvs.length=ps.length
 | [],ps,h=>by unfold B5 at h;subst h;rfl
 | p::kvs,ps,h=>by
  unfold B5 at h
  obtain⟨v,r,rfl,iv,h⟩:=h
  rw [ax,ax,B5.length h]
theorem B5.app {K:Fg9}{H:Hp}{k:κ}{d:D}{v:V} (q:A1 K H d v):∀{kvs:List (κ×D)}{ps:List (κ×V)},B5 K H kvs ps->B5 K H (kvs++[(k,d)]) (ps++[(k,v)])
 | [],ps,h=>by unfold B5 at h;subst h;exact⟨v,[],rfl,q,rfl⟩
 | p::kvs,ps,h=>by
  unfold B5 at h
  obtain⟨v',r,rfl,iv,h⟩:=h
  exact⟨v',_,rfl,iv,B5.app q h⟩
theorem B5.repl {K:Fg9}{H:Hp}{k:κ}{d:D}{v:V} (q:A1 K H d v):∀{kvs:List (κ×D)}{ps:List (κ×V)},B5 K H kvs ps->B5 K H (kvs.map fun kv=>if kv.1=k then(kv.1,d)else kv) (ps.map fun kv=>if kv.1=k then(kv.1,v)else kv)
 | [],ps,h=>by unfold B5 at h;subst h;rfl
 | p::kvs,ps,h=>by
  unfold B5 at h
  obtain⟨v',r,rfl,iv,h⟩:=h
  have ih:=B5.repl (k:=k) q h
  by_cases e:p.1=k
  ·simp only [aw,e,if_true]
   exact⟨v,_,rfl,q,ih⟩
  ·simp only [aw,e,dw]
   exact⟨v',_,rfl,iv,ih⟩
theorem B5.put {K:Fg9}{H:Hp}{k:κ}{d:D}{v:V} (q:A1 K H d v) {kvs:List (κ×D)}{ps:List (κ×V)} (h:B5 K H kvs ps):B5 K H (L0 kvs k d) (N1 ps k v):=by
 unfold L0 N1
 rw [B5.any h]
 split
 ·exact B5.repl (k:=k) q h
 ·exact B5.app q h
end
section
variable {X:Cx}{H0:Hp}{a b c e o tg:Expr}{pos bj p2 apos bi:Pos}{wa wb wi we:WE}{x:Str}
def Z4g (i:Nat):WS:=fun E τ=>E.nx (τ.set i (some (.dt [])))
theorem DS.dnew {i:Nat} (hN:X.N.Nodup) (hi:X.N[i]?=some x) (hx:Loc X.env.scope x) (hs:swapsWith (.Dict [] [] p2) (some (.Name x bj)) pos.line X.env=pure false:=by rfl)
  (hf:X.fn x=true\/X.env.scope.names.lookup x=some .local:=by first | exact .inl rfl | exact .inr rfl | assumption):DS X H0 (.Assign [.Name x bj] (.Dict [] [] p2) pos) (Z4g i) where
 mono:=fun τ E F le h=>le.nx _ h
 ps:=L6 (Q2p hN hi hx W3m hs hf) fun D σ H ⟨τ,hR,h⟩ p hp=>by
  have sm:A3 H (upd H p (.dT [])):=C8 hp _
  refine h _ _ (Kp.of sm) ((hR.mono sm).set (s:=.dt []) ⟨p,[],rfl,hR.same.free hp,upd_same,rfl⟩ fun _ j t hj e m q=>?_)
  obtain⟨o,ho⟩:=hR.tracked e m q
  rw [hp]at ho;cases ho
theorem B6.dtAt {K:Fg9}{H:Hp} {τ:A6} {σ:St}{i:Nat}{kvs:List (List A7×D)} (hR:B6 K H0 τ σ H) (e1:τ[i]?=some (some (.dt kvs))):∃a ps,σ[i]?=some (some (.ref a))/\H0 a=none/\H a=some (.dT ps)/\B5 K H kvs ps:=by
 obtain⟨v,hv,a,xs,rfl,h0,sq,al⟩:=hR.here i _ e1
 exact⟨a,xs,hv,h0,sq,al⟩
def Q9q (i:Nat) (we:WE):WE:=fun τ Q=>∃kvs,τ[i]?=some (some (.dt kvs))/\we τ fun r=>∃ds ks d,r=.st (.tup ds)/\U2 ds=some ks/\C9 kvs ks=some d/\Q (.st d)
theorem DE.dgetT {i:Nat} (hu:X.A.units+1<cLine) (ho:PE X o (J8 i)) (he:DE X H0 e we) (hs:Q2a e):DE X H0 (.Subscript o e pos) (Q9q i we) where
 mono:=fun τ P Q f ⟨kvs,e1,h⟩=>⟨kvs,e1,he.mono τ _ _ (fun r ⟨ds,ks,d,a1,a2,a3,a4⟩=>⟨ds,ks,d,a1,a2,a3,f _ a4⟩) h⟩
 pe:=L5 (Q6i hu ho he.pe hs) fun σ H Q ⟨τ,hR,kvs,e1,h⟩=>by
  obtain⟨a,ps,hv,h0,sq,kv⟩:=hR.dtAt e1
  refine⟨_,hv,τ,hR,he.mono τ _ _ (fun r ⟨ds,ks,d,a1,a2,a3,a4⟩ v H1 s1 ir=>?_) h⟩
  subst a1
  have ir:A1 X.K H1 (.tup ds) v:=ir
  unfold A1 at ir
  obtain⟨b,xs,rfl,sb,al⟩:=ir
  rw [Q5t a2 al]at sb
  rcases B5.val (k:=ks) (kv.mono (Kp.of s1) _ _)with⟨n1,_⟩ | ⟨d',v',n1,n2,n3⟩
  ·rw [a3]at n1;cases n1
  ·rw [a3]at n1;cases n1
   refine⟨a,v',rfl,?_,a4 _ _ s1 n3⟩
   have g:=U9.t (s1 _ _ sq) sb
   rw [n2]at g
   exact g
def Q4l (i:Nat) (we wv:WE):WS:=fun E τ=>wv τ fun r=>∃d,r=.st d/\∃kvs,τ[i]?=some (some (.dt kvs))/\we τ fun rk=>∃ds ks,rk=.st (.tup ds)/\U2 ds=some ks/\kvs.length<sizeLine/\E.nx (τ.set i (some (.dt (L0 kvs ks d))))
theorem DS.dput {i:Nat}{v:Expr}{wv:WE} (hu:X.A.units+1<cLine) (ho:PE X o (J8 i)) (he:DE X H0 e we) (hv:DE X H0 v wv) (hs:swapsWith v (some (.Subscript o e bj)) pos.line X.env=pure false:=by rfl) :
  DS X H0 (.Assign [.Subscript o e bj] v pos) (Q4l i we wv) where
 mono:=fun τ E F le h=>hv.mono τ _ _ (fun r ⟨d,e1,kvs,e2,h⟩=>⟨d,e1,kvs,e2,he.mono τ _ _ (fun r ⟨ds,ks,a1,a2,a3,a4⟩=>⟨ds,ks,a1,a2,a3,le.nx _ a4⟩) h⟩) h
 ps:=L6 (Y1k hu ho he.pe hv.pe hs) fun D σ H ⟨τ,hR,h⟩=>by
  refine⟨τ,hR,hv.mono τ _ _ (fun r ⟨d,e1,kvs,e2,h⟩ u H1 s1 ir=>?_) h⟩
  subst e1
  have cU:=hR.mono s1
  obtain⟨a,ps,dv,h0,sq,kv⟩:=cU.dtAt e2
  refine⟨_,dv,τ,cU,he.mono τ _ _ (fun rk ⟨ds,ks,a1,a2,a3,a4⟩ y H2 s2 ik=>?_) h⟩
  subst a1
  have ik:A1 X.K H2 (.tup ds) y:=ik
  unfold A1 at ik
  obtain⟨b,xs,rfl,sb,al⟩:=ik
  rw [Q5t a2 al]at sb
  have dh:=s2 _ _ sq
  have gm:=kv.mono (Kp.of s2) _ _
  refine⟨a,_,rfl,Q1f.t dh sb (by rw [<- B5.length gm];exact a3),?_⟩
  have kp:Kp H2 (upd H2 a (.dT (N1 ps ks u))):=Kp.updM dh (by intro xs z;cases z) (by intro o u z;cases z) _
  have iv:A1 X.K H2 d u:=A1.mono (Kp.of s2) _ _ ir
  refine a4 σ _ ((Kp.of (s1.trans s2)).trans kp) ((cU.mono s2).mutG e2 rfl dv h0 dh (by intro xs z;cases z) (by intro o u z;cases z) ⟨a,_,rfl,h0,upd_same,?_⟩)
  exact B5.mono kp _ _ (B5.put iv gm)
def Z0a (i:Nat) (wi wv:WE):WS:=fun E τ=>wv τ fun r=>∃d,r=.st d/\∃ds,τ[i]?=some (some (.own ds))/\wi τ fun rk=>∃k j,rk=.st (.int k)/\O1 ds.length k=some j/\E.nx (τ.set i (some (.own (ds.set j d))))
theorem DS.setIx {i:Nat}{v:Expr}{wv:WE} (ho:PE X o (J8 i)) (he:DE X H0 e we) (hv:DE X H0 v wv)
  (hs:swapsWithSole [.Subscript o e bj] v pos.line X.env=pure false:=by rfl) (hw:swappedStores [.Subscript o e bj] v X.env=pure none:=by rfl)
  (h1:(assignEach [.Subscript o e bj] X.env).map (·.2)=[assign (.Subscript o e bj) X.env]:=by rfl)
  (ha:∀v,assign (.Subscript o e bj) X.env v=(do
   let ov <- holding [v] (eval o X.env)
   let iv <- holding [v,ov] (eval e X.env)
   standAt bj
   holding [v,ov,iv] (setItem ov iv v)
   release [v,ov,iv] []):=by intro _;rfl):DS X H0 (.Assign [.Subscript o e bj] v pos) (Z0a i we wv) where
 mono:=fun τ E F le h=>hv.mono τ _ _ (fun r ⟨d,e1,ds,e2,h⟩=>⟨d,e1,ds,e2,he.mono τ _ _ (fun r ⟨k,j,a1,a2,a3⟩=>⟨k,j,a1,a2,le.nx _ a3⟩) h⟩) h
 ps:=L6 (Z3g hv.pe (Y1h ho he.pe W7t ha) hs hw h1) fun D σ H ⟨τ,hR,h⟩=>by
  refine⟨τ,hR,hv.mono τ _ _ (fun r ⟨d,e1,ds,e2,h⟩ u H1 s1 ir=>?_) h⟩
  subst e1
  have cU:=hR.mono s1
  obtain⟨a,xs,dv,h0,sq,al⟩:=cU.ownAt e2
  refine⟨_,dv,τ,cU,he.mono τ _ _ (fun rk ⟨k,j,a1,a2,a3⟩ y H2 s2 ik=>?_) h⟩
  subst a1
  cases (show y=.int k from ik)
  have dh:=s2 _ _ sq
  refine⟨a,xs,k,j,rfl,rfl,dh,by rw [<- al.length];exact a2,?_⟩
  have cO:AllS X.K H2 (ds.set j d) (xs.set j u):=AllS.set (A1.mono (Kp.of s2) _ _ ir) j (al.mono (Kp.of s2) _ _)
  exact a3 σ _ ((Kp.of (s1.trans s2)).trans (Kp.upd dh _)) ((cU.mono s2).mutate e2 dv h0 dh cO)
end
section
variable {τ:A6}{E:E7}{Q:R->Prop}{QB:Bool->Prop}{wa wb wc we:WE}{wr:WA}{n:Nat}{d e:D}{ds es:List D}{i j:Int}{x y:Str}
@[simp] theorem Y2f:Z4g n E τ=E.nx (τ.set n (some (.dt []))):=rfl
@[simp] theorem W6k:Q9q n we τ Q=∃kvs,τ[n]?=some (some (.dt kvs))/\we τ fun r=>∃ds ks d,r=.st (.tup ds)/\U2 ds=some ks/\C9 kvs ks=some d/\Q (.st d):=rfl
@[simp] theorem Y2g:Q4l n wa wb E τ=wb τ fun r=>∃d,r=.st d/\∃kvs,τ[n]?=some (some (.dt kvs))/\wa τ fun rk=>∃ds ks,rk=.st (.tup ds)/\U2 ds=some ks/\kvs.length<sizeLine/\E.nx (τ.set n (some (.dt (L0 kvs ks d)))):=rfl
@[simp] theorem W7m:Z0a n wa wb E τ=wb τ fun r=>∃d,r=.st d/\∃ds,τ[n]?=some (some (.own ds))/\wa τ fun rk=>∃k j,rk=.st (.int k)/\O1 ds.length k=some j/\E.nx (τ.set n (some (.own (ds.set j d)))):=rfl
end
theorem Z7p {we:WE}{f:D->D->D}{rest:A6}:∀(ps:List (D×D)) (o1 o2:Option Sl) (Q:List D->Prop),(∀p∈ps,∀Q':R->Prop,Q' (.st (f p.1 p.2))->we (some (.dat p.1)::some (.dat p.2)::rest) Q') ->
  Q (ps.map fun p=>f p.1 p.2)->G8 (P7 2 (F4 (B2 0) (F4 (B2 1) gNl))) P3 we (ps.map fun p=>.tup [p.1,p.2]) (o1::o2::rest) Q
 | [],o1,o2,Q,h,q=>q
 | p::ps,o1,o2,Q,h,q=>by
  simp only [aw,G8]
  simp
  refine h p ao _ ⟨_,rfl,?_⟩
  exact Z7p ps _ _ _ (fun p hp=>h p (ar _ hp)) q
theorem W9v {K:Fg9}{H0 H:Hp}{l:Addr}{xs:List V}{ds:List D} (hq:∀H',Kp H H'->A3 H0 H'->D6 K H' l xs) (al:AllS K H ds xs):Yl K H0 (Iel K l) (G0 ds) H where
 go:=fun H' k s i hi=>by
  rw [Q1j]at hi
  exact⟨xs,xs[i]'(by rw [<- al.length];exact hi),hq H' k s,af _⟩
 yld:=fun H' k s i v cW d hd ⟨T,x,hx,hT,hv,hH⟩=>by
  subst hH hv
  refine⟨C8 hT _,?_⟩
  obtain⟨y,hy,rfl⟩:=Q7n hd
  obtain⟨v,hv,q⟩:=al.get hy
  rw [hx xs (hq H' k s)]at hv;cases hv
  exact A1.s_tup upd_same (AllS.cons A1.s_int (AllS.cons (q.mono (k.trans (Kp.of (C8 hT _))) _ _) AllS.nil))
 stop:=fun H' k s=>⟨xs,hq H' k s,by rw [Q1j];exact al.length.symm⟩
section
variable {X:Cx}{H0:Hp}{a:Expr}{p pos:Pos}{wr:WA}
def Q5k (wr:WA):WI:=fun τ Q=>wr τ fun rs=>∃ds,rs=[.st (.lst ds)]/\Q (G0 ds) τ
theorem DI.enumF {dg:List Expr}{kk:Nat}{pt:Pos} (hg:Gl X "enumerate") (hm:X.mg "enumerate"=none) (hv:bootBuiltins "enumerate"=some (.type "enumerate")) (ha:DA X H0 [a] wr) (he:starEach [a] X.env=(false,eval a X.env)::starEach [] X.env:=by rfl) (hpl:(backTo pos (starEach [] X.env)).any (·.1)=false:=by rfl) :
  DI X H0 (.Tuple dg kk pt) (.Call (.Name "enumerate" p) [a] [] pos) (Q5k wr) where
 mono:=fun τ P Q f h=>ha.mono τ _ _ (fun r ⟨ds,e1,q⟩=>⟨ds,e1,f _ _ q⟩) h
 pi:=by
  intro ac s σ H R I ⟨τ,hR,h⟩
  refine bn (Q0f I hg hm hv ?_ (by decide) (by decide))
  refine bh (B3 (ha.pa pos ac s σ H (fun vs H1=>A3 H H1/\∃l xs ds,vs=[.ref l]/\FzL X.K H1 l xs/\AllS X.K H1 ds xs/\∀J H',Kp H H'->B6 X.K H0 τ σ H'->Yl X.K H0 J (G0 ds) H'->R J H') I
   ⟨τ,hR,ha.mono τ _ _ (fun rs ⟨ds,e1,q⟩ vs H1 s1 cw=>⟨s1,by
    subst e1
    obtain⟨v,rfl,ir⟩:=V1 cw
    have ir:A1 X.K H1 (.lst ds) v:=ir
    unfold A1 at ir
    obtain⟨l,xs,rfl,sq,al⟩:=ir
    exact⟨l,xs,ds,rfl,sq,al,q⟩⟩) h⟩) fun us s1 br=>?_) he hpl
  obtain⟨vs,H1,I1,rv,sm,l,xs,ds,e1,sq,al,q⟩:=br
  subst e1
  have big:∀b∈[s1.heap.objs.size+1,s1.heap.objs.size],J9 X ac H1 b:=fun b hb=>by
   have hb:s1.heap.objs.size<=b:=by
    rcases aq.mp hb with rfl | hb
    ·exact cx _
    ·have e:b=s1.heap.objs.size:=by simpa using hb
     rw [e];exact aj _
   exact I1.fpOk hb (I1.hok.fresh hb)
  obtain⟨u,rfl,ru⟩:=T9 rv
  cases (show u=Value.ref l from ru)
  obtain⟨aU,fD,pl,ie⟩:=I1.list sq.sq
  obtain⟨o,n,ho,_⟩:=id pl
  have hl:l<s1.heap.objs.size:=ay ho
  refine call_enumerate_list pl.isList fun h' he hi hz k=>?_
  refine cn he ⟨s1.heap.objs.size+1,[s1.heap.objs.size+1,s1.heap.objs.size],_,_,H1,rfl,I1.kept (t':=s1.toks) k,Y4w (l:=l) (fK _) (aB (be hl)) (aB hl),⟨⟨_,he⟩,hi⟩,big,q _ _ (Kp.of sm) (hR.mono sm) (W9v (xs:=xs) (fun H' k _=>(k.fzL sq).sq) al)⟩
end
section
variable {τ:A6}{wr:WA}{QB:Bool->Prop}
@[simp] theorem W6n {Q:List D->A6->Prop}:Q5k wr τ Q=wr τ fun rs=>∃ds,rs=[.st (.lst ds)]/\Q (G0 ds) τ:=rfl
end
end TK
end
section
namespace L2
open PySem PySem.Spec PyProof.Rows
variable {X:Cx}{CX:CXT}{k i:Nat}{f:Addr}{fd:FuncData}{ps:List Str}{sp:Sp}{ds:List Value}{ga:List V}{E:XK}{x:Str}{e:Expr}{es:List Expr}{t:TA}{p pos:Pos}
end L2
namespace TK
open PySem PySem.Spec PyProof.Rows L2
section
variable {X:Cx}{H0:Hp}{e:Expr}{es:List Expr}{wr:WA}{k i:Nat}{f:Addr}{fd:FuncData}{ps:List Str}{sp:C7}{x:Str}{p pos:Pos}
end
end TK
end
section
namespace L2
open PySem PySem.Spec PyProof.Rows
theorem Y6r {pos:Pos}{a b:Int}{c cv:Value} (l:List Value) (t:TriplesOk l) (h:codeAmong pos (l++[rawInt a,rawInt b,c])=some cv):codeAmong pos l=some cv\/cv=c:=by
 fun_induction TriplesOk l with
 | case1 =>
  right
  have h:(if (a==(pos.line:Int)&&b==(pos.col:Int))=true then some c else codeAmong pos [])=some cv:=h
  split at h
  ·exact(aC h).symm
  ·cases h
 | case2 i ti j tj x rest ih =>
  have h:(if (i==(pos.line:Int)&&j==(pos.col:Int))=true then some x else codeAmong pos (rest++[rawInt a,rawInt b,c]))=some cv:=h
  show(if (i==(pos.line:Int)&&j==(pos.col:Int))=true then some x else codeAmong pos rest)=some cv\/_
  split at h
  ·rename_i hc;rw [aJ hc];exact .inl h
  ·rename_i hc;rw [aH hc];exact ih t h
 | case3=>exact t.elim
noncomputable def V2:HO:=.ext fun _=>True
theorem Q7d {P:Program}{w:World}{H:Hp}{h:Heap}{a:Addr}{o:Obj} (e:h.get? a=some o):F5 P w H h a (.frz o V2):=⟨e,trivial,⟨o,e⟩,fun _ _ _ _=>trivial⟩
def Q0n (mg:Str->Option Value) (base:Heap):Prop:=∃bm ob,mg "__builtins__"=some (.ref bm)/\bm≠builtinsNs/\base.get? bm=some ob/\ob.cls=.type "module"/\ob.dict=some builtinsNs/\ob.data=.plain
noncomputable abbrev Q0e (X:Cx) (params:Arguments) (body:Expr) (sc:Scope) (clos:List (Str×Addr)) (c':Addr) (ctv:Value):Obj :=
 PySem.W.kla_obj "<lambda>" (X.env.qual++"<lambda>") params body sc clos ((X.mg "__name__").getD .none) c' ctv
def tLam (P:Addr) (ob:Addr->Value->Obj):TE:=fun _ H Q=>∀f c' oc ctv H',A3 H H'->Q6v oc->H f=none->H' c'=some (.frz oc (.own P))->H' f=some (.frz (ob c' ctv) V2)->(∀b,H' b≠none->H b=none->b=f\/b=c')->Q (.ref f) H'
section
variable {X:Cx}{params:Arguments}{body:Expr}{sc:Scope}{pos:Pos}{c P:Addr}{clos:List (Str×Addr)}
theorem W3q (hB:Q0n X.mg X.base) (fb:X.env.code=.ref c) (hC:PySem.W.codeHdIn X.K c P=true) (kG:closureFor sc X.env=pure clos) (hd:defaultsOf params X.env=([],[]):=by rfl) :
  PE X (.Lambda params body sc pos) (fun σ H Q=>H P=some .tab/\tLam P (fun c' ctv=>Q0e X params body sc clos c' ctv) σ H Q):=by
 intro ac s σ H Q I ⟨hP,h⟩
 refine PySem.W.kla_eval hd ?_
 have j8:s.heap.Ns mainGlobals X.mg:=I.mod.glob.keeps I.bk
 have C:=PySem.W.codeHd_of_K I.kIn hC
 obtain⟨ps,eP,ht,en⟩:=(show F5 X.prog X.w H s.heap P .tab from I.hok P _ hP)
 obtain⟨bm,ob,b1,b2,b3,b4,b5,b6⟩:=hB
 have bH:∀b o,X.base.get? b=some o->b≠P:=fun b o e z=>by
  have:=(I.bs b o e).2
  rw [z,hP]at this;cases this
 have qy:mainGlobals≠P:=by
  obtain⟨o,es,ep,e,hd,_⟩:=I.mod.glob
  exact bH _ _ e
 have gK:bm≠mainGlobals:=fun same=>by
  obtain⟨go,_,_,ge,gd,_⟩:=I.mod.glob
  rw [same,ge]at b3
  cases b3
  rw [gd]at b6
  cases b6
 have nI:s.heap.BuiltinsAt X.mg P:=⟨bm,ob,b1,b2,gK,bH _ _ b3,I.bk _ _ b3,b4,b5,b6⟩
 cases hf:codeAmong pos ps.toList with
 | some cv =>
  obtain⟨c',oc,rfl,cN,fq⟩:=en pos cv hf
  refine PySem.W.kla_makeFunctionHit (mg:=X.mg) kG I.ok.glob j8 fb C eP ht hf nI fun ctv h' tk hk hsz=>?_
  have nE:H h'.objs.size=none:=I.hok.fresh hsz
  have ne:∀b u,H b=some u->b≠h'.objs.size:=fun b u e z=>by rw [z,nE]at e;cases e
  have kp:∀b o,s.heap.get? b=some o->(h'.push (Q0e X params body sc clos c' ctv)).get? b=some o:=fun b o e=>ae _ (hk b o e)
  have lt:∀b o,s.heap.get? b=some o->b≠h'.objs.size:=fun b o e=>aB (az (ay e) hsz)
  refine⟨.ref h'.objs.size,upd H h'.objs.size (.frz (Q0e X params body sc clos c' ctv) V2),I.un (t':=tk) ⟨fun b o e _ _ _=>kp b o e,fun b o e _ _ _=>⟨o.slots,kp b o e⟩,fun b o e n _=>by rw [A9 (lt b o e)];exact n,fun b o e _=>⟨o,kp b o e⟩,
   fun b xs e=>by rw [A9 (ne b _ e)];exact e,fun b o u e=>by rw [A9 (ne b _ e)];exact e,fun b ps e=>⟨#[],by rw [A9 (ne b _ e),e];simp⟩⟩ ?_,rfl,?_⟩
  ·refine F1.laid (h:=s.heap) I.hok kp hsz (Q7d (aF _ rfl))
  ·exact h _ c' oc ctv _ (fun b u e=>by rw [A9 (ne b _ e)];exact e) fq nE (by rw [A9 (ne _ _ cN)];exact cN) upd_same fun b n1 n2=>by
    by_cases hb:b=h'.objs.size
    ·exact .inl hb
    ·rw [A9 hb]at n1;exact absurd n2 n1
 | none =>
  refine PySem.W.kla_makeFunction (mg:=X.mg) kG I.ok.glob j8 fb C eP ht hf qy nI fun c' ctv h' tk hx dW bR lI nv=>?_
  obtain⟨c₂,oc,vs,tq,e2,fq,nF,hv⟩:=lI
  cases e2
  have iq:H c'=none:=I.hok.fresh dW
  have gv:H h'.objs.size=none:=I.hok.fresh (aX dW (db bR))
  have qG:c'≠h'.objs.size:=aB bR
  have s9:P≠c':=fun z=>by rw [<- z,hP]at iq;cases iq
  have rZ:P≠h'.objs.size:=fun z=>by rw [<- z,hP]at gv;cases gv
  have ph:∀b o,s.heap.get? b=some o->b≠c':=fun b o e=>aB (az (ay e) dW)
  have p9:∀b o,s.heap.get? b=some o->b≠h'.objs.size:=fun b o e=>aB (az (ay e) (aX dW (db bR)))
  have oZ:∀b u,H b=some u->b≠c':=fun b u e z=>by rw [z,iq]at e;cases e
  have oY:∀b u,H b=some u->b≠h'.objs.size:=fun b u e z=>by rw [z,gv]at e;cases e
  have hH:∀b,b≠c'->b≠h'.objs.size->upd (upd H c' (.frz oc (.own P))) h'.objs.size (.frz (Q0e X params body sc clos c' ctv) V2) b=H b:=fun b n1 n2=>by rw [A9 n2,A9 n1]
  have mo:upd (upd H c' (.frz oc (.own P))) h'.objs.size (.frz (Q0e X params body sc clos c' ctv) V2) c'=some (.frz oc (.own P)):=by rw [A9 qG,upd_same]
  have kp:∀b o,b≠P->s.heap.get? b=some o->(h'.push (Q0e X params body sc clos c' ctv)).get? b=some o:=fun b o n e=>ae _ (hx b o n e)
  have nP:∀b,H b=none->b≠P:=fun b n z=>by rw [z,hP]at n;cases n
  have sm:A3 H (upd (upd H c' (.frz oc (.own P))) h'.objs.size (.frz (Q0e X params body sc clos c' ctv) V2)):=fun b u e=>by rw [hH b (oZ b u e) (oY b u e)];exact e
  refine⟨.ref h'.objs.size,upd (upd H c' (.frz oc (.own P))) h'.objs.size (.frz (Q0e X params body sc clos c' ctv) V2),I.un (t':=tk) ⟨fun b o e n _ _=>kp b o (nP b n) e,fun b o e n _ _=>⟨o.slots,kp b o (nP b n) e⟩,fun b o e n _=>by rw [hH b (ph b o e) (p9 b o e)];exact n,fun b o e _=>?_,
   fun b xs e=>sm _ _ e,fun b o u e=>sm _ _ e,fun b ps e=>⟨#[],by rw [sm _ _ e];simp⟩⟩ ?_,rfl,?_⟩
  ·by_cases hb:b=P
   ·exact⟨_,ae _ (hb ▸ nv)⟩
   ·exact⟨o,kp b o hb e⟩
  ·intro b u e
   by_cases nJ:b=h'.objs.size
   ·subst nJ;rw [upd_same]at e;cases e
    exact Q7d (aF _ rfl)
   by_cases hbc:b=c'
   ·subst hbc;rw [mo]at e;cases e
    exact⟨ae _ fq,⟨_,ae _ fq⟩⟩
   rw [hH b hbc nJ]at e
   by_cases hbP:b=P
   ·subst hbP;rw [hP]at e;cases e
    refine⟨_,ae _ nv,?_,fun bj cv q=>?_⟩
    ·have:=TriplesOk_snoc (pos.line:Int) (pos.col:Int) (.ref c') ps.toList ht
     simpa using this
    ·have q:codeAmong bj (ps.toList++[rawInt (pos.line:Int),rawInt (pos.col:Int),.ref c'])=some cv:=by simpa using q
     rcases Y6r _ ht q with q | q
     ·obtain⟨c2,o2,e1,e2,e3⟩:=en bj cv q
      exact⟨c2,o2,e1,sm _ _ e2,e3⟩
     ·exact⟨c',oc,q,mo,⟨vs,_,tq,nF,hv⟩⟩
   ·refine(I.hok b u e).stay (fun d v hc q=>kp d v ?_ q) (fun d v _ q=>sm _ _ q) fun d xs q=>sm _ _ q
    rcases hc with z | z
    ·rw [z];exact hbP
    ·intro z2
     rw [z2,hP]at z;cases z
  ·exact h _ c' oc ctv _ sm ⟨vs,_,tq,nF,hv⟩ gv mo upd_same fun b n1 n2=>by
    by_cases hb:b=h'.objs.size
    ·exact .inl hb
    by_cases hb2:b=c'
    ·exact .inr hb2
    ·rw [hH b hb2 hb]at n1;exact absurd n2 n1
end
end L2
end
section
namespace L2
open PySem PySem.Spec PyProof.Rows
structure M0 where
 name:Str
 addr:Addr
 obj:Obj
 val:V
 slot:TK.Sl
noncomputable def J4 (S:List Addr) (H:Hp):Hp:=fun b=>if b∈S then none else H b
theorem Q5j {S:List Addr}{H:Hp}{b:Addr} (h:b∈S):J4 S H b=none:=aJ h
theorem Q0a {S:List Addr}{H:Hp}{b:Addr} (h:b∉S):J4 S H b=H b:=aH h
theorem Y8r {S:List Addr}{H:Hp}{b:Addr}{u:HO} (h:J4 S H b=some u):b∉S/\H b=some u:=by
 by_cases hb:b∈S
 ·rw [Q5j hb]at h;cases h
 ·exact⟨hb,by rw [Q0a hb]at h;exact h⟩
noncomputable def showS (S:List Addr) (H H':Hp):Hp:=fun b=>if b∈S then H b else H' b
theorem Y3z {S:List Addr}{H H':Hp}{b:Addr} (h:b∈S):showS S H H' b=H b:=aJ h
theorem Q8t {S:List Addr}{H H':Hp}{b:Addr} (h:b∉S):showS S H H' b=H' b:=aH h
def R5 (S:List Addr) (H:Hp):Prop:=∀c∈S,∃o u,H c=some (.frz o V2)/\o.data=.cell u
section
variable {P:Program}{w:World}{S:List Addr}{H H':Hp}{h h':Heap}
theorem R5.out (hS:R5 S H) {b:Addr}{u:HO} (e:H b=some u) (n:∀o,u≠.frz o V2):b∉S:=fun hb=>by
 obtain⟨o,_,q,_⟩:=hS b hb
 rw [e]at q;exact n o (aC q)
theorem R5.tup (hS:R5 S H) {b:Addr}{xs:List V} (e:H b=some (.tup xs)):J4 S H b=some (.tup xs):=by
 rw [Q0a (hS.out e (by intro o z;cases z))];exact e
theorem R5.own (hS:R5 S H) {a b:Addr}{u:HO} (ow:Q6w a u) (e:H b=some u):J4 S H b=some u:=by
 rw [Q0a (hS.out e (by
  intro o z
  rcases ow with rfl | ⟨o',rfl⟩
  ·cases z
  ·injection z with _ z;cases z))]
 exact e
theorem F1.hid (x:F1 P w H h) (hS:R5 S H) (k:∀b u,h.get? b=some u->h'.get? b=some u):F1 P w (J4 S H) h':=fun b u e=>by
 obtain⟨hb,e⟩:=Y8r e
 exact(x b u e).stay (fun c v _ q=>k c v q) (fun c v ow q=>hS.own ow q) fun c xs q=>hS.tup q
end
end L2
namespace TK
open PySem PySem.Spec PyProof.Rows L2
def Z0j (Φ:Hp->Prop):Prop:=∀(S:List Addr) (H:Hp),R5 S H->Φ H->Φ (J4 S H)
mutual
theorem A1.hid {K:Fg9}{S:List Addr}{H:Hp} (hS:R5 S H):∀(d:D) (v:V),A1 K H d v->A1 K (J4 S H) d v
 | .non,v,h=>by unfold A1 at h ⊢;exact h
 | .bl _,v,h=>by unfold A1 at h ⊢;exact h
 | .int _,v,h=>by unfold A1 at h ⊢;exact h
 | .str _,v,h=>by unfold A1 at h ⊢;exact h
 | .tup ds,v,h=>by
  unfold A1 at h ⊢
  obtain⟨a,xs,e,q,t⟩:=h
  exact⟨a,xs,e,hS.tup q,AllS.hid hS ds xs t⟩
 | .lst ds,v,h=>by
  unfold A1 at h ⊢
  obtain⟨a,xs,e,q,t⟩:=h
  refine⟨a,xs,e,?_,AllS.hid hS ds xs t⟩
  rcases q with⟨o,q⟩ | q
  ·exact .inl ⟨o,by rw [Q0a (hS.out q (by intro o z;injection z with _ z;cases z))];exact q⟩
  ·exact .inr q
theorem AllS.hid {K:Fg9}{S:List Addr}{H:Hp} (hS:R5 S H):∀(ds:List D) (xs:List V),AllS K H ds xs->AllS K (J4 S H) ds xs
 | [],xs,h=>by unfold AllS at h ⊢;exact h
 | d::ds,xs,h=>by
  unfold AllS at h ⊢
  obtain⟨v,r,e,q,t⟩:=h
  exact⟨v,r,e,A1.hid hS d v q,AllS.hid hS ds r t⟩
end
noncomputable def Q1x (K:Fg9) (H:Hp):Sl->V->Prop
 | .dat d,v=>A1 K H d v
 | .cl a Φ,v=>v=.ref a/\Φ H/\Q1y Φ/\Z0j Φ
 | _,_=>False
theorem Q1x.mono {K:Fg9}{H H':Hp} (k:Kp H H'):∀{s:Sl}{v:V},Q1x K H s v->Q1x K H' s v
 | .dat d,v,h=>A1.mono k d v h
 | .cl a Φ,v,h=>⟨h.1,h.2.2.1 _ _ k h.2.1,h.2.2⟩
 | .own _,_,h=>h.elim
 | .bor _,_,h=>h.elim
 | .bd _,_,h=>h.elim
 | .dk _,_,h=>h.elim
 | .dt _,_,h=>h.elim
 | .ob _,_,h=>h.elim
 | .ins _ _ _,_,h=>h.elim
 | .ll _ _,_,h=>h.elim
theorem Q1x.slot {K:Fg9}{S:List Addr}{H:Hp} (hS:R5 S H):∀{s:Sl}{v:V},Q1x K H s v->M5 K (J4 S H) (J4 S H) s v/\s.mut=false
 | .dat d,v,h=>⟨A1.hid hS d v h,rfl⟩
 | .cl a Φ,v,h=>⟨⟨h.1,h.2.2.2 _ _ hS h.2.1,h.2.2.1⟩,rfl⟩
 | .own _,_,h=>h.elim
 | .bor _,_,h=>h.elim
 | .bd _,_,h=>h.elim
 | .dk _,_,h=>h.elim
 | .dt _,_,h=>h.elim
 | .ob _,_,h=>h.elim
 | .ins _ _ _,_,h=>h.elim
 | .ll _ _,_,h=>h.elim
structure Z5r (K:Fg9) (H:Hp) (p:M0):Prop where
 at_:H p.addr=some (.frz p.obj V2)
 cell:∃u,p.obj.data=.cell (some u)/\B9 p.val u
 rel:Q1x K H p.slot p.val
def Q4u (K:Fg9) (caps:List M0) (f c':Addr) (fo:Obj) (H:Hp):Prop :=
 H f=some (.frz fo V2)/\(∃oc Pt,H c'=some (.frz oc (.own Pt))/\Q6v oc)/\∀p∈caps,Z5r K H p
theorem Q4u.mono {K:Fg9}{caps:List M0}{f c':Addr}{fo:Obj}:Q1y (Q4u K caps f c' fo):=fun H H' k ⟨h1,⟨oc,Pt,h2,h3⟩,h4⟩ =>
 ⟨k.frz _ _ _ h1,⟨oc,Pt,k.frz _ _ _ h2,h3⟩,fun p hp=>⟨k.frz _ _ _ (h4 p hp).at_,(h4 p hp).cell,(h4 p hp).rel.mono k⟩⟩
noncomputable def Q5y (K:Fg9) (n:Nat) (Φ:Hp->Prop) (sp:C7):Sp:=fun vs H Q _=>∃(rs:List R) (r:R),rs.length=n/\L3 K (fun _=>none) H rs vs/\rs.all M7=true/\Φ H/\sp (rs.map nrm) r/\∀v H',A3 H H'->E1 K H H' r v->Q v H'
end TK
namespace L2
open PySem PySem.Spec PyProof.Rows TK
noncomputable abbrev T0 (caps:List M0):List (Str×Addr):=caps.map fun p=>(p.name,p.addr)
structure Z0k (ps fr:List Str) (sc:Scope):Prop where
 kind:sc.kind=.function
 co:sc.isCoroutine=false
 gen:sc.isGenerator=false
 nd:(ps++fr).Nodup
 par:∀x∈ps,sc.names.lookup x=some .local
 fre:∀x∈fr,sc.names.lookup x=some .free
 nocell:∀y∈sc.names,y.2≠.cell
 all:∀y∈sc.names,y.2=.free->y.1∈fr
noncomputable def cxL (P:Program) (w:World) (K:Fg9) (mg:Str->Option Value) (base:Heap) (N:List Str) (q:Str) (sc:Scope) (f c':Addr) (caps:List M0) (A:Around) (outer:List Env) (s:Shared) (H:Hp):Cx where
 prog:=P
 w:=w
 K:=K
 mg:=mg
 base:=base
 A:=A.deeper (PySem.W.envX q sc s.heap.objs.size f (.ref c') (T0 caps))
 N:=N
 s₀:=s
 H₀:=H
 env:=PySem.W.envX q sc s.heap.objs.size f (.ref c') (T0 caps)
 outer:=outer
 stack:=PySem.W.envX q sc s.heap.objs.size f (.ref c') (T0 caps)::outer
 ex:=[]
 calm:=true
 fn:=fun _=>false
 pn:=[]
 xe:=fun _ _=>False
theorem Q7y {caps:List M0}{x:Str}{c:Addr} (h:(T0 caps).lookup x=some c):∃p∈caps,p.name=x/\p.addr=c:=by
 have:=bM h
 obtain⟨p,hp,e⟩:=au.mp this
 cases e
 exact⟨p,hp,rfl,rfl⟩
theorem Z1e:∀{caps:List M0}{p:M0},(caps.map (·.name)).Nodup->p∈caps->(T0 caps).lookup p.name=some p.addr
 | [],_,_,mem=>absurd mem (by simp)
 | q::r,p,nd,mem=>by
  rw [aw,bx]at nd
  show List.lookup p.name ((q.name,q.addr)::T0 r)=_
  rcases aq.mp mem with rfl | mem
  ·simp [List.lookup]
  ·have cb:p.name≠q.name:=fun z=>nd.1 (z ▸ List.mem_map_of_mem mem)
   rw [List.lookup_cons]
   have:(p.name==q.name)=false:=by simpa using cb
   rw [this]
   exact Z1e nd.2 mem
theorem Z0x:∀{caps:List M0}{p q:M0},(caps.map (·.addr)).Nodup->p∈caps->q∈caps->p.addr=q.addr->p=q
 | [],_,_,_,h,_,_=>absurd h (by simp)
 | r::l,p,q,nd,h1,h2,e=>by
  rw [aw,bx]at nd
  rcases aq.mp h1 with a1 | a1
  ·rcases aq.mp h2 with a2 | a2
   ·rw [a1,a2]
   ·exact absurd (au.mpr ⟨q,a2,by rw [<- e,a1]⟩) nd.1
  ·rcases aq.mp h2 with a2 | a2
   ·exact absurd (au.mpr ⟨p,a1,by rw [e,a2]⟩) nd.1
   ·exact Z0x nd.2 a1 a2 e
end L2
end
section
namespace L2
open PySem PySem.Spec PyProof.Rows TK
section
variable {Pg:Program}{Wd:World}{Ar:Around}{Rs:Result->Shared->Prop}{s:Shared}
theorem Y7b {a:Addr}{args:Args}{o:Obj}{fd:FuncData}{body:Expr}{q:Str} (deep:Ar.depth<recursionLimit) (at_:s.heap.get? a=some o) (is:o.data=.func fd) (c0:fd.scope.isCoroutine=false) (g0:fd.scope.isGenerator=false) (bd:fd.body=.expr body) (cd:s.heap.CodeRec fd.code q)
  (go:wpAny (model Pg Wd) Ar.in1 (bindArgs fd args)
   (fun bs s1=>wpAny (model Pg Wd) Ar.in1 (newFunctionEnv fd.scope fd.globals fd.closure bs (q++".<locals>.") (some a) fd.code none fd.builtins) (fun ev s2=>s2.heap.NoLimit/\codeAny (model Pg Wd) Ar (.expr body ev) Rs s2) (fun x s1=>Rs (.error x) s1) s1)
   (fun x s1=>Rs (.error x) s1) s):codeAny (model Pg Wd) Ar (.call (.ref a) args) Rs s:=by
 obtain⟨c,oc,fs,tk,hc,fq,qA,hn⟩:=cd
 have run:wpAny (model Pg Wd) Ar.in1 (callAny (.ref a) args) (fun fin s1=>match fin with | .done fl=>Rs (.ok fl) s1 | .again c'=>c'.quiet=true/\codeAny (model Pg Wd) Ar c' Rs s1) (fun x s1=>Rs (.error x) s1) s:=by
  unfold callAny
  refine aa (wpAny_load at_ ?_)
  rw [is]
  dsimp only
  rw [hc]at go
  unfold callFunction
  simp only [c0,g0,bd,hc]
  refine aa (m:=field (.ref c) 1) (bJ fq qA hn (aa (ai (aa (B3 go fun bs s1 h1=>?_)))))
  exact aa (B3 h1 fun ev s2 ⟨jD,h2⟩=>aa (wpAny_enterFrame jD deep (ai ⟨rfl,h2⟩)))
 exact codeAny_of_tree run
end
theorem V0d {x:Str}{u:Value}:∀{ps:List Str}{us:List Value}{i:Nat},ps.Nodup->ps[i]?=some x->us[i]?=some u->(ps.zip us).reverse.lookup x=some u:=by
 intro ps us i nd h1 h2
 have hm:(x,u)∈(ps.zip us).reverse:=by
  rw [List.mem_reverse]
  refine aE (i:=i) ?_
  rw [bP]
  exact⟨h1,h2⟩
 have un:∀v,(x,v)∈(ps.zip us).reverse->v=u:=fun v hv=>by
  rw [List.mem_reverse]at hv
  obtain⟨j,hj⟩:=List.getElem?_of_mem hv
  rw [bP]at hj
  have hi:i<ps.length:=(aL.mp h1).1
  have jS:i=j:=(List.getElem?_inj hi nd).mp (h1.trans hj.1.symm)
  subst jS
  rw [h2]at hj;exact(aC hj.2).symm
 cases hl:(ps.zip us).reverse.lookup x with
 | none =>
  have:=List.lookup_eq_none_iff.mp hl _ hm
  simp at this
 | some v=>rw [un v (bM hl)]
section
variable {P:Program}{w:World}{K:Fg9}{mg:Str->Option Value}{base:Heap}{ps:List Str}{q:Str}{sc:Scope}{f c':Addr}{caps:List M0}{A:Around}{outer:List Env}{s s1:Shared}{H:Hp}{us:List Value}{vs:List V}
theorem Y9d (S:Z0k ps (caps.map (·.name)) sc) (fW:(caps.map (·.addr)).Nodup) (hd:A.handled=none) (e0:Q2w P w K mg base A outer s H) (hl:vs.length=ps.length) (r:B4 vs us) (hc:∀p∈caps,Z5r K H p)
  {h1:Heap}{tk:Nat} (ii:h1.Ns s.heap.objs.size fun x=>(ps.zip us).reverse.lookup x) (hk:∀b o,s.heap.get? b=some o->h1.get? b=some o) :
  A0 (cxL P w K mg base (ps++caps.map (·.name)) q sc f c' caps A outer s (J4 (caps.map (·.addr)) H)) [] ((vs++caps.map (·.val)).map some) (J4 (caps.map (·.addr)) H) { s with heap:=h1,toks:=tk }:=by
 have hS:R5 (caps.map (·.addr)) H:=fun c cN=>by
  obtain⟨p,hp,rfl⟩:=au.mp cN
  obtain⟨u,hu,_⟩:=(hc p hp).cell
  exact⟨_,_,(hc p hp).at_,hu⟩
 have j5:∀b,H b=none->J4 (caps.map (·.addr)) H b=none:=fun b n=>by
  unfold J4;split
  ·rfl
  ·exact n
 have ky:(caps.map (·.name)).Nodup:=(bC.mp S.nd).2.1
 have kn:∀p∈caps,∃u,h1.IsCell p.addr (some u)/\B9 p.val u:=fun p hp=>by
  obtain⟨u,hu,ru⟩:=(hc p hp).cell
  exact⟨u,⟨p.obj,hk _ _ (e0.hok _ _ (hc p hp).at_).1,hu⟩,ru⟩
 have gh:∀b:Addr,b∉(cxL P w K mg base (ps++caps.map (·.name)) q sc f c' caps A outer s (J4 (caps.map (·.addr)) H)).ex:=fun b z=>absurd (show b∈([]:List Addr)from z) (by simp)
 refine⟨⟨e0.mod,S.kind,rfl,rfl,aj _,fun y z c h1 h2=>?_,fun y hy=>?_,fun y c hf _=>absurd (show false=true from hf) (by decide),fun _=>hd,Around.frames_deeper e0.frames,.inr ⟨rfl,rfl⟩,fun b z=>absurd z (gh b),fun b o e=>⟨(e0.bs b o e).1,j5 _ (e0.bs b o e).2⟩,e0.bsz,fun b _ _=>gh b,fun b z=>absurd z (gh b),e0.funs,fun b hb=>j5 _ (e0.frf b hb)⟩,
  rfl,e0.bare,Un.kept hk,⟨_,ii,fun i y v h1 h2 h3=>?_⟩,fun y c h=>?_,j5 _ (e0.hok.fresh (aj _)),fun y c h=>?_,fun p hp=>absurd (show p∈([]:Pn9)from hp) (by simp),e0.hok.hid hS hk,?_⟩
 ·obtain⟨p,hp,rfl,e1⟩:=Q7y h1
  obtain⟨p',qd,rfl,e2⟩:=Q7y h2
  rw [Z0x fW hp qd (e1.trans e2.symm)]
 ·have hy:sc.names.lookup y=some .cell\/sc.names.lookup y=some .free:=hy
  rcases hy with hy | hy
  ·exact absurd rfl (S.nocell _ (bM hy))
  ·have:=S.all _ (bM hy) rfl
   obtain⟨p,hp,e⟩:=au.mp this
   have e:p.name=y:=e
   exact⟨p.addr,by rw [<- e];exact Z1e ky hp⟩
 ·by_cases hi:i<ps.length
  ·have hp:ps[i]?=some y:=by rw [show(cxL P w K mg base (ps++caps.map (·.name)) q sc f c' caps A outer s (J4 (caps.map (·.addr)) H)).N=ps++caps.map (·.name)from rfl,aI hi]at h1;exact h1
   have hv:vs[i]?=some v:=by
    rw [ak,aI (by omega)]at h2
    cases e:vs[i]? with
    | none=>rw [e]at h2;cases h2
    | some a=>rw [e]at h2;cases h2;rfl
   obtain⟨u,hu,rv⟩:=r.get hv
   exact⟨u,rv,.inl ⟨S.par y (aE hp),V0d (bC.mp S.nd).1 hp hu⟩⟩
  ·have hp:(caps.map (·.name))[i-ps.length]?=some y:=by rw [show(cxL P w K mg base (ps++caps.map (·.name)) q sc f c' caps A outer s (J4 (caps.map (·.addr)) H)).N=ps++caps.map (·.name)from rfl,aQ (by omega)]at h1;exact h1
   have hv:(caps.map (·.val))[i-ps.length]?=some v:=by
    rw [ak,aQ (by omega),hl]at h2
    cases e:(caps.map (·.val))[i-ps.length]? with
    | none=>rw [e]at h2;cases h2
    | some a=>rw [e]at h2;cases h2;rfl
   rw [ak]at hp hv
   cases e:caps[i-ps.length]? with
   | none=>rw [e]at hp;cases hp
   | some p =>
    rw [e]at hp hv
    cases hp;cases hv
    have lK:=aE e
    obtain⟨u,cT,ru⟩:=kn p lK
    exact⟨u,ru,.inr ⟨.inr (S.fre _ (List.mem_map_of_mem lK)),p.addr,Z1e ky lK,cT⟩⟩
 ·obtain⟨p,hp,rfl,rfl⟩:=Q7y h
  obtain⟨u,cT,_⟩:=kn p hp
  exact⟨_,cT⟩
 ·obtain⟨p,hp,rfl,rfl⟩:=Q7y h
  exact Q5j (List.mem_map_of_mem hp)
 ·rw [ah,aD,ah,hl]
  show _=(ps++caps.map (·.name)).length
  rw [aD,ah]
end
theorem A3.showS {S:List Addr}{H H':Hp} (hS:R5 S H) (sm:A3 (J4 S H) H'):A3 H (L2.showS S H H'):=fun b u e=>by
 by_cases hb:b∈S
 ·rw [Y3z hb];exact e
 ·rw [Q8t hb];exact sm b u (by rw [Q0a hb];exact e)
theorem Y8o {P:Program}{w:World}{K:Fg9}{mg:Str->Option Value}{base:Heap}{k:Nat}{f c':Addr}{name qual:Str}{params:Arguments}{body:Expr}{sc:Scope}{pm ctv:Value}{ps:List Str}{caps:List M0}{sp:C7}{wb:WE}
  (S:Z0k ps (caps.map (·.name)) sc) (fW:(caps.map (·.addr)).Nodup)
  (cq:∀(A:Around) (outer:List Env) (s:Shared) (H:Hp) (q:Str),D5 k (A.deeper (PySem.W.envX q sc s.heap.objs.size f (.ref c') (T0 caps)))->DE (cxL P w K mg base (ps++caps.map (·.name)) q sc f c' caps A outer s H) H body wb)
  (hw:∀rs r,rs.length=ps.length->sp rs r->∃(ds:List D) (d:D),rs=ds.map R.st/\r=.st d/\wb (ds.map (fun d=>some (Sl.dat d))++caps.map fun p=>some p.slot) fun r'=>r'=.st d) :
  O5 P w K mg base L9 (k+1) f (PySem.W.kla_fn name qual params body sc (T0 caps) pm (.ref c') ctv) ps (Q5y K ps.length (Q4u K caps f c' (PySem.W.kla_obj name qual params body sc (T0 caps) pm c' ctv)) sp):=by
 refine⟨fun vs H Q E h=>?_,fun A outer s H args us vs Q E hr e0 hb r gp=>?_⟩
 ·obtain⟨rs,r,hl,al,_⟩:=h
  rw [<- al.length];exact hl
 obtain⟨rs,r0,hl,al,ok,⟨hf,⟨oc,Pt,hc,qc⟩,fe⟩,h1,h2⟩:=gp
 have qj:vs.length=ps.length:=by rw [<- al.length];exact hl
 have jD:s.heap.NoLimit:=e0.mod.nolimit.keeps fun b o e=>(e0.bs b o e).1
 have gf:s.heap.get? f=some _:=(e0.hok _ _ hf).1
 have gc:s.heap.get? c'=some oc:=(e0.hok _ _ hc).1
 obtain⟨rE,q,tq,dX,hq⟩:=qc
 obtain⟨ds,d,ft,rfl,pR⟩:=hw (rs.map nrm) r0 (by rw [ah];exact hl) h1
 have hS:R5 (caps.map (·.addr)) H:=fun c cN=>by
  obtain⟨p,hp,rfl⟩:=au.mp cN
  obtain⟨u,hu,_⟩:=(fe p hp).cell
  exact⟨_,_,(fe p hp).at_,hu⟩
 refine Y7b (fd:=PySem.W.kla_fn name qual params body sc (T0 caps) pm (.ref c') ctv) hr.depth gf rfl S.co S.gen rfl ⟨c',oc,rE,tq,rfl,gc,dX,hq⟩ (hb _ _ _ _ ?_)
 refine fJ S.nocell (fun y hy=>S.par _ (h9 hy).1) (fun h1 ii ny=>⟨(jD).fresh _ ny,?_⟩) S.kind
 have hk:∀b o,s.heap.get? b=some o->h1.get? b=some o:=fun b o e=>(ny.2 b (aB (ay e))).trans (ae _ e)
 show codeAny _ _ (.expr body (PySem.W.envX q sc s.heap.objs.size f (.ref c') (T0 caps))) _ _
 have I:=Y9d (q:=q) (f:=f) (c':=c') (tk:=s.toks+(ps.zip us).length) S fW hr.hd e0 qj r fe ii hk
 have hD:=cq A outer s (J4 (caps.map (·.addr)) H) q (hr.deeper _)
 have rep:B6 K (J4 (caps.map (·.addr)) H) (ds.map (fun d=>some (Sl.dat d))++caps.map fun p=>some p.slot) ((vs++caps.map (·.val)).map some) (J4 (caps.map (·.addr)) H):=by
  have bI:ds.length=vs.length:=by
   have:=congrArg List.length ft
   rw [ah,ah]at this
   rw [<- this,al.length]
  have args:∀(i:Nat) (d:D),ds[i]?=some d->∃v,vs[i]?=some v/\A1 K H d v:=fun i d e=>by
   have:(rs.map nrm)[i]?=some (.st d):=by rw [ft,ak,e];rfl
   rw [ak]at this
   cases e2:rs[i]? with
   | none=>rw [e2]at this;cases this
   | some x =>
    rw [e2]at this
    have hx:nrm x=.st d:=aC this
    obtain⟨v,hv,q⟩:=al.get e2
    refine⟨v,hv,?_⟩
    cases x with
    | st y=>cases hx;exact q
    | nw _=>cases hx
    | bw _=>cases hx
    | dk _=>cases hx
    | dt _=>cases hx
    | ob _=>cases hx
    | cl _ _=>cases hx
    | ms _ _ _ _=>cases hx
  have Q2b:∀(i:Nat) (sl:Sl),(ds.map (fun d=>some (Sl.dat d))++caps.map fun p=>some p.slot)[i]?=some (some sl)->∃v,((vs++caps.map (·.val)).map some)[i]?=some (some v)/\TK.M5 K (J4 (caps.map (·.addr)) H) (J4 (caps.map (·.addr)) H) sl v/\sl.mut=false:=fun i sl e=>by
   by_cases hi:i<ds.length
   ·rw [aI (by rw [ah];exact hi),ak]at e
    cases e1:ds[i]? with
    | none=>rw [e1]at e;cases e
    | some y =>
     rw [e1]at e
     cases e
     obtain⟨v,hv,q⟩:=args i y e1
     refine⟨v,?_,A1.hid hS _ _ q,rfl⟩
     rw [ak,aI (by omega),hv];rfl
   ·rw [aQ (by rw [ah];omega),ah,ak]at e
    cases e1:caps[i-ds.length]? with
    | none=>rw [e1]at e;cases e
    | some p =>
     rw [e1]at e
     cases e
     obtain⟨q1,q2⟩:=(fe p (aE e1)).rel.slot hS
     refine⟨p.val,?_,q1,q2⟩
     rw [ak,aQ (by omega),ak,<- bI,e1];rfl
  refine⟨by simp [bI],A3.refl _,fun i sl e=>let ⟨v,a,b,_⟩:=Q2b i sl e;⟨v,a,b⟩,fun i j s t v _ e1 _ m _ _ _=>?_⟩
  obtain⟨_,_,_,z⟩:=Q2b i s e1
  rw [z]at m;cases m
 refine PySem.W.kla_codeExpr (aR (hD.pe [] _ _ _ (fun v H'=>A3 (J4 (caps.map (·.addr)) H) H'/\A1 K H' d v) I ⟨_,rep,hD.mono _ _ _ (fun r' lJ v H' sm ir=>by subst lJ;exact⟨sm,ir⟩) pR⟩) (fun u s' hs=>?_) fun e s' hs=>(show False from hs).elim)
 obtain⟨v,H',J,rv,sm,q⟩:=hs
 have out:∀b u,H' b=some u->b∉caps.map (·.addr):=fun b u e eI=>by
  obtain⟨o,u',jY,_⟩:=hS b eI
  have:=J.base.free b o (e0.hok _ _ jY).1 (Q5j eI) (by show b∉([]:List Addr);simp)
  rw [this]at e;cases e
 have cM:A3 H' (L2.showS (caps.map (·.addr)) H H'):=fun b u e=>by rw [Q8t (out b u e)];exact e
 have kt:=A3.showS hS sm
 show CE outer P w H s Q u s'
 refine⟨v,L2.showS (caps.map (·.addr)) H H',J.os,J.bare,?_,?_,rv,h2 v (L2.showS (caps.map (·.addr)) H H') kt (show E1 K H (L2.showS (caps.map (·.addr)) H H') (.st d) v from A1.mono (Kp.of cM) d v q)⟩
 ·have hn:∀b,H b=none->b∉caps.map (·.addr):=fun b n hb=>by obtain⟨o,u,q,_⟩:=hS b hb;rw [n]at q;cases q
  have j6:∀b,H b=none->J4 (caps.map (·.addr)) H b=none:=fun b n=>by rw [Q0a (hn b n)];exact n
  refine⟨fun b o e n hb hx=>J.base.keep b o e (j6 b n) hb hx,fun b o e n hb hx=>J.base.slot b o e (j6 b n) hb hx,fun b o e n hx=>?_,fun b o e hx=>J.base.there b o e hx,fun b xs e=>kt _ _ e,fun b o u e=>kt _ _ e,fun b ps e=>⟨#[],by rw [kt _ _ e];simp⟩⟩
  rw [Q8t (hn b n)]
  exact J.base.free b o e (j6 b n) hx
 ·intro b u e
  by_cases eI:b∈caps.map (·.addr)
  ·rw [Y3z eI]at e
   obtain⟨o,u',jY,_⟩:=hS b eI
   rw [jY]at e;cases e
   have g:=(e0.hok _ _ jY).1
   have:b∉frs outer:=fun z=>by have:=e0.frf b z;rw [jY]at this;cases this
   exact Q7d (J.base.keep b o g (Q5j eI) this (by show b∉([]:List Addr);simp))
  ·rw [Q8t eI]at e
   exact(J.hok b u e).stay (fun c v _ q=>q) (fun c v _ q=>cM _ _ q) fun c xs q=>cM _ _ q
end L2
end
section
namespace L2
open PySem PySem.Spec PyProof.Rows TK
structure FnC (P:Program) (w:World) (K:Fg9) (mg:Str->Option Value) (base:Heap) (k n:Nat) (f:Addr) (Φ:Hp->Prop) (sp:C7):Prop where
 ex:∃(fd:FuncData) (ps:List Str),O5 P w K mg base L9 k f fd ps (Q5y K n Φ sp)/\ps.length=n/\V6 K fd ps []/\∀(h:Heap) (H:Hp),F1 P w H h->K.In h->Φ H->∃o,h.get? f=some o/\o.data=.func fd
section
variable {X:Cx}{k n i:Nat}{x:Str}{e:Expr}{es:List Expr}{t:TA}{p pos:Pos}
theorem W3f (hr:D5 k X.A) (hv:PE X (.Name x p) (J8 i)) (ha:PA X (e::es) t) (he:starEach (e::es) X.env=(false,eval e X.env)::starEach es X.env:=by rfl) (hpl:(backTo pos (starEach es X.env)).any (·.1)=false:=by rfl) :
  PE X (.Call (.Name x p) (e::es) [] pos) (fun σ H Q=>∃f Φ sp,σ[i]?=some (some (.ref f))/\FnC X.prog X.w X.K X.mg X.base k n f Φ sp/\t σ H fun vs H1=>Q5y X.K n Φ sp vs H1 Q E0):=by
 intro ac s σ H Q I ⟨f,Φ,sp,h0,F,h⟩
 obtain⟨fd,ps,F,hn,hb,here⟩:=F.ex
 refine bn (B3 (hv ac s σ H (fun v H'=>v=.ref f/\t σ H' fun vs H1=>Q5y X.K n Φ sp vs H1 Q E0) I ⟨.ref f,h0,rfl,h⟩) fun u s1 br=>?_)
 obtain⟨v,H1,I1,r,ev,q⟩:=br
 subst ev
 obtain rfl:u=Value.ref f:=r
 refine PySem.W.callWith_of (P:=fun h=>∃o,h.get? f=some o/\o.data=.func fd) (by rw [he];show((false||(backTo pos (starEach es X.env)).any (·.1))||false)=false;rw [hpl];rfl) (fun h ⟨o,e1,e2⟩=>⟨.frame,.inl rfl,?_⟩) ?_
 ·obtain⟨oc,od,dt,sl⟩:=o
  have e2:dt=.func fd:=e2
  subst e2
  exact(PySem.W.Looks.ld (part:=none) e1).andThen .now
 rw [he]
 refine de ?_
 have h2:=ha pos ac s1 σ H1 _ I1 q
 rw [he]at h2
 refine B3 h2 fun us s2 ⟨vs,H2,I2,r,q⟩=>⟨?_,?_⟩
 ·obtain⟨rs,r0,_,_,_,hΦ,_⟩:=q
  exact here _ _ I2.hok I2.kIn hΦ
 ·have:=Z3j F hr hb .nil Q8k I2 r (show Q5y X.K n Φ sp (vs++[]) H2 Q E0 by rw [bD];exact q)
  exact this
end
end L2
namespace TK
open PySem PySem.Spec PyProof.Rows L2
noncomputable abbrev FCT:=Nat->Addr->(Hp->Prop)->C7->Prop
section
variable {X:Cx}{H0:Hp}{e:Expr}{es:List Expr}{wr:WA}{k i n:Nat}{x:Str}{p pos:Pos}
def Q9p (FC:FCT) (n i:Nat) (wr:WA):WE:=fun τ Q=>∃f Φ sp,τ[i]?=some (some (.cl f Φ))/\FC n f Φ sp/\wr τ fun rs=>rs.all M7=true/\∃r,sp (rs.map nrm) r/\Q r
theorem DE.callC (hr:D5 k X.A) (hv:PE X (.Name x p) (J8 i)) (ha:DA X H0 (e::es) wr) (he:starEach (e::es) X.env=(false,eval e X.env)::starEach es X.env:=by rfl) (hpl:(backTo pos (starEach es X.env)).any (·.1)=false:=by rfl) :
  DE X H0 (.Call (.Name x p) (e::es) [] pos) (Q9p (FnC X.prog X.w X.K X.mg X.base k) (e::es).length i wr) where
 mono:=fun τ P Q f ⟨g,Φ,sp,h0,F,h⟩=>⟨g,Φ,sp,h0,F,ha.mono τ _ _ (fun rs ⟨ok,r,h1,h2⟩=>⟨ok,r,h1,f r h2⟩) h⟩
 pe:=L5 (W3f (n:=(e::es).length) hr hv ha.pa he hpl) fun σ H Q ⟨τ,hR,f,Φ,sp,h0,F,h⟩=>by
  obtain⟨v,hv,rv⟩:=hR.here i _ h0
  obtain⟨rfl,hΦ,hM⟩:v=.ref f/\Φ H/\Q1y Φ:=rv
  exact⟨f,Φ,sp,hv,F,τ,hR,ha.mono τ _ _ (fun rs ⟨jO,ok,r,h1,h2⟩ vs H1 s1 cw=>⟨rs,r,jO,cw.v,ok,hM _ _ (Kp.of s1) hΦ,h1,fun v H' s2 ir=>h2 v H' (s1.trans s2) (ir.older s1)⟩) (ha.len τ _ h)⟩
@[simp] theorem W6i {FC:FCT} {τ:A6}{Q:R->Prop}:Q9p FC n i wr τ Q=∃f Φ sp,τ[i]?=some (some (.cl f Φ))/\FC n f Φ sp/\wr τ fun rs=>rs.all M7=true/\∃r,sp (rs.map nrm) r/\Q r:=rfl
end
section
variable {X:Cx}{H0:Hp}{params:Arguments}{body:Expr}{sc:Scope}{pos:Pos}{c Pt:Addr}{k:Nat}{ps:List Str}{sp:C7}{wb:WE}
end
end TK
end
section
namespace L2
open PySem PySem.Spec PyProof.Rows TK
noncomputable def V7 (caps:List M0) (H:Hp):Hp:=fun b=>match caps.find? (fun p=>p.addr==b)with
 | some p=>some (.frz p.obj V2)
 | none=>H b
theorem Q6z {caps:List M0}{H:Hp}{p:M0} (nd:(caps.map (·.addr)).Nodup) (hp:p∈caps):V7 caps H p.addr=some (.frz p.obj V2):=by
 unfold V7
 cases e:caps.find? (fun q=>q.addr==p.addr)with
 | none =>
  have:=List.find?_eq_none.mp e p hp
  simp at this
 | some q =>
  have h1:(q.addr==p.addr)=true:=List.find?_some (p:=fun q:M0=>q.addr==p.addr) e
  have h2:=List.mem_of_find?_eq_some e
  rw [Z0x nd h2 hp (by simpa using h1)]
theorem Q7a {caps:List M0}{H:Hp}{b:Addr} (h:b∉caps.map (·.addr)):V7 caps H b=H b:=by
 unfold V7
 cases e:caps.find? (fun q=>q.addr==b)with
 | none=>rfl
 | some q =>
  have h1:(q.addr==b)=true:=List.find?_some (p:=fun q:M0=>q.addr==b) e
  have h2:=List.mem_of_find?_eq_some e
  exact absurd (au.mpr ⟨q,h2,by simpa using h1⟩) h
structure Q1w (X:Cx) (s:Shared) (p:M0):Prop where
 look:X.env.cells.lookup p.name=some p.addr
 own:X.fn p.name=true
 get:s.heap.get? p.addr=some p.obj
 cell:∃u,p.obj.data=.cell (some u)/\B9 p.val u
section
variable {X:Cx}{ac:Pn9} {σ:St}{H:Hp}{s:Shared}{caps:List M0}
theorem Z7c (I:A0 X ac σ H s):∀{caps:List M0},(caps.map (·.name)).Nodup->(∀p∈caps,Q1w X s p)->(caps.map (·.addr)).Nodup
 | [],_,_=>jq
 | p::r,nd,h=>by
  rw [aw,bx]at nd ⊢
  refine⟨fun hm=>?_,Z7c I nd.2 fun q hq=>h q (ar _ hq)⟩
  obtain⟨q,hq,e⟩:=au.mp hm
  have e:q.addr=p.addr:=e
  have h1:=(h p ao).look
  have h2:=(h q (ar _ hq)).look
  rw [e]at h2
  exact nd.1 (au.mpr ⟨q,hq,I.ok.inj _ _ _ h2 h1⟩)
theorem Q7b (I:A0 X ac σ H s) (hc:∀p∈caps,Q1w X s p):A3 H (V7 caps H):=fun b u e=>by
 rw [Q7a]
 ·exact e
 ·intro hb
  obtain⟨p,hp,rfl⟩:=au.mp hb
  rw [I.freeC _ _ (hc p hp).look]at e;cases e
theorem Z6f (nd:(caps.map (·.addr)).Nodup) (hc:∀p∈caps,Q1w X s p):R5 (caps.map (·.addr)) (V7 caps H):=fun c jU=>by
 obtain⟨p,hp,rfl⟩:=au.mp jU
 obtain⟨u,hu,_⟩:=(hc p hp).cell
 exact⟨p.obj,some u,Q6z nd hp,hu⟩
theorem Y8l (I:A0 X ac σ H s) (nd:(caps.map (·.addr)).Nodup) (hc:∀p∈caps,Q1w X s p):Q2w X.prog X.w X.K X.mg X.base X.A X.stack s (V7 caps H):=by
 have e0:=I.env0
 have ge:∀p∈caps,X.s₀.heap.objs.size<=p.addr:=fun p hp=>I.ok.cab _ _ (hc p hp).own (hc p hp).look
 have keep:∀b,b∉caps.map (·.addr)->H b=none->V7 caps H b=none:=fun b hb n=>by rw [Q7a hb];exact n
 refine⟨e0.frames,e0.mod,fun b o e=>⟨(e0.bs b o e).1,keep b (fun hb=>?_) (e0.bs b o e).2⟩,e0.bsz,e0.funs,fun b hb=>keep b (fun fu=>?_) (e0.frf b hb),fun b u e=>?_,e0.bare⟩
 ·obtain⟨p,hp,rfl⟩:=au.mp hb
  exact absurd (az (ay e) I.ok.bsz) (Nat.not_lt.mpr (ge p hp))
 ·obtain⟨p,hp,rfl⟩:=au.mp fu
  rcases aq.mp (I.stkSub _ hb)with z | z
  ·exact I.cne _ _ (hc p hp).look z
  ·obtain⟨_,o,ho,_⟩:=I.ok.funs.mem z
   exact absurd (ay ho) (Nat.not_lt.mpr (ge p hp))
 ·by_cases hb:b∈caps.map (·.addr)
  ·obtain⟨p,hp,rfl⟩:=au.mp hb
   rw [Q6z nd hp]at e;cases e
   exact Q7d (hc p hp).get
  ·rw [Q7a hb]at e
   exact(I.hok b u e).stay (fun c v _ q=>q) (fun c v _ q=>Q7b I hc _ _ q) fun c xs q=>Q7b I hc _ _ q
theorem W6b {CX:CXT}{k:Nat}{f:Addr}{fd:FuncData}{ps:List Str}{sp:Sp}{Q:VK}{E:XK}{us:List Value}{vs:List V} (F:O5 X.prog X.w X.K X.mg X.base L9 k f fd ps sp) (hr:D5 k X.A) (hb:V6 X.K fd ps [])
  (I:A0 X ac σ H s) (nd:(caps.map (·.addr)).Nodup) (hc:∀p∈caps,Q1w X s p) (r:B4 vs us) (h:sp vs (V7 caps H) (fun v H'=>A3 (V7 caps H) H'/\Q v (J4 (caps.map (·.addr)) H')) E):wpAny (model X.prog X.w) X.A (call (.ref f) us) (EP X ac σ Q) X.xe s:=by
 have hl:us.length=ps.length:=by rw [<- r.length];exact F.len _ _ _ _ h
 have fu:BindsTo s fd ⟨us,[]⟩ (ps.zip us):=by have:=hb s us I.kIn (by rw [bD];exact hl);rw [bD]at this;exact this
 refine wpAny_call (codeAny_mono (F.run X.A X.stack s (V7 caps H) ⟨us,[]⟩ us vs _ E hr (Y8l I nd hc) fu r h) fun r s' hq=>?_)
 cases r with
 | error e=>exact(show False from hq).elim
 | ok fl =>
  cases fl with
  | next=>exact False.elim hq
  | brk=>exact False.elim hq
  | cont=>exact False.elim hq
  | ret u =>
   obtain⟨v,H',os,bare,un,hok,rv,sm,q⟩:=hq
   have hS:R5 (caps.map (·.addr)) H':=fun c jU=>by
    obtain⟨o,u,e1,e2⟩:=Z6f (H:=H) nd hc c jU
    exact⟨o,u,un.frzs _ _ _ e1,e2⟩
   have iO:∀b,H b=none->b∉caps.map (·.addr)->V7 caps H b=none:=fun b n hb=>by rw [Q7a hb];exact n
   have kept:∀p∈caps,s'.heap.get? p.addr=some p.obj:=fun p hp=>(hok _ _ (un.frzs _ _ _ (Q6z nd hp))).1
   have Q2o:∀b u,H b=some u->b∉caps.map (·.addr):=fun b u e hb=>by
    obtain⟨p,hp,rfl⟩:=au.mp hb
    rw [I.freeC _ _ (hc p hp).look]at e;cases e
   have back:∀b u,H b=some u->J4 (caps.map (·.addr)) H' b=some u:=fun b u e=>by
    rw [Q0a (Q2o b u e)]
    exact sm _ _ (Q7b I hc _ _ e)
   refine I.after ⟨v,J4 (caps.map (·.addr)) H',os,bare,⟨fun b o e n hb hx=>?_,fun b o e n hb hx=>?_,fun b o e n hx=>?_,fun b o e hx=>un.there b o e hx,fun b xs e=>back _ _ e,fun b o u e=>back _ _ e,fun b ps e=>⟨#[],by rw [back _ _ e];simp⟩⟩,F1.hid hok hS fun _ _ q=>q,rv,q⟩
   ·by_cases eI:b∈caps.map (·.addr)
    ·obtain⟨p,hp,rfl⟩:=au.mp eI
     rw [(hc p hp).get]at e;cases e
     exact kept p hp
    ·exact un.keep b o e (iO b n eI) hb hx
   ·by_cases eI:b∈caps.map (·.addr)
    ·obtain⟨p,hp,rfl⟩:=au.mp eI
     rw [(hc p hp).get]at e;cases e
     exact⟨_,kept p hp⟩
    ·exact un.slot b o e (iO b n eI) hb hx
   ·by_cases eI:b∈caps.map (·.addr)
    ·exact Q5j eI
    ·rw [Q0a eI]
     exact un.free b o e (iO b n eI) hx
end
end L2
end
section
namespace TK
open PySem PySem.Spec PyProof.Rows L2
noncomputable def Q5v (wb:WE) (di:List Sl):C7:=fun rs r=>∃(ds:List D) (d:D),rs=ds.map R.st/\r=.st d/\wb (ds.map (fun d=>some (Sl.dat d))++di.map some) fun r'=>r'=.st d
noncomputable def capS:Sl->Prop
 | .dat _=>True
 | .cl _ Φ=>Z0j Φ
 | _=>False
noncomputable def Q5d (τ:A6):List (Str×Nat)->List Sl->Prop
 | [],di=>di=[]
 | c::cs,di=>∃s r,di=s::r/\τ[c.2]?=some (some s)/\capS s/\Q5d τ cs r
section
variable {X:Cx}{H0:Hp}{ac:Pn9} {σ:St}{H:Hp}{s:Shared} {τ:A6}
theorem Z7d (I:A0 X ac σ H s) (hR:B6 X.K H0 τ σ H):∀{cs:List (Str×Nat)}{di:List Sl},(∀c∈cs,X.N[c.2]?=some c.1/\X.env.kindOf c.1=some .cell/\X.fn c.1=true)->Q5d τ cs di ->
  ∃caps:List M0,caps.map (·.name)=cs.map (·.1)/\caps.map (·.slot)=di/\∀p∈caps,Q1w X s p/\Q1x X.K H p.slot p.val
 | [],di,_,h=>by
  have h:di=[]:=h
  subst h
  exact⟨[],rfl,rfl,fun p hp=>absurd hp (by simp)⟩
 | c::cs,di,hk,h=>by
  obtain⟨sl,r,rfl,e,hc,h⟩:=h
  obtain⟨caps,h1,h2,h3⟩:=Z7d I hR (fun c hc=>hk c (ar _ hc)) h
  obtain⟨k1,k2,k3⟩:=hk c ao
  obtain⟨v,hv,rv⟩:=hR.here c.2 sl e
  obtain⟨m,hn,hl⟩:=I.loc
  obtain⟨u,ru,lk⟩:=hl c.2 c.1 v k1 hv (.inr (.inl k2))
  rcases lk with⟨z,_⟩ | ⟨_,ca,gS,o,ho,hd⟩
  ·rw [k2]at z;cases z
  refine⟨⟨c.1,ca,o,v,sl⟩::caps,by rw [aw,aw,h1],by rw [aw,h2],fun p hp=>?_⟩
  rcases aq.mp hp with rfl | hp
  ·refine⟨⟨gS,k3,ho,⟨u,hd,ru⟩⟩,?_⟩
   cases sl with
   | dat d=>exact rv
   | cl a Φ=>exact⟨rv.1,rv.2.1,rv.2.2,hc⟩
   | own _=>exact hc.elim
   | bor _=>exact hc.elim
   | bd _=>exact hc.elim
   | dk _=>exact hc.elim
   | dt _=>exact hc.elim
   | ob _=>exact hc.elim
   | ins _ _ _=>exact hc.elim
   | ll _ _=>exact hc.elim
  ·exact h3 p hp
theorem Z7b {cs:List (Str×Addr)}:∀{caps:List M0}{cs:List (Str×Addr)},caps.map (·.name)=cs.map (·.1)->(∀p∈caps,X.env.cells.lookup p.name=some p.addr)->(∀y∈cs,X.env.cells.lookup y.1=some y.2)->T0 caps=cs
 | [],[],_,_,_=>rfl
 | [],_::_,h,_,_=>by cases h
 | _::_,[],h,_,_=>by cases h
 | p::r,y::cs,h,h1,h2=>by
  rw [aw,aw,dJ]at h
  have e1:=h1 p ao
  have e2:=h2 y ao
  rw [h.1,e2]at e1
  show(p.name,p.addr)::T0 r=y::cs
  rw [Z7b (cs:=cs) h.2 (fun q hq=>h1 q (ar _ hq)) fun z hz=>h2 z (ar _ hz),h.1,<- aC e1]
end
def Z4f (FC:FCT) (n:Nat) (cs:List (Str×Nat)) (wb:WE) (sp:C7) (we:WE):WE:=fun τ Q=>we τ fun r1=>M7 r1=true/\∃di,Q5d τ cs di/\∀f Φ,FC n f Φ (Q5v wb di)->∃d,sp [nrm r1,.cl f Φ] (.st d)/\Q (.st d)
section
variable {X:Cx}{H0:Hp}{e:Expr}{we wb:WE}{k kl:Nat}{f:Addr}{fd:FuncData}{mT ps:List Str}{sp:C7}{x:Str}{p pos dM:Pos}{params:Arguments}{body:Expr}{sc:Scope}{c Pt:Addr}{cs:List (Str×Nat)}{clos:List (Str×Addr)}
theorem DE.callW (F:O5 X.prog X.w X.K X.mg X.base L9 k f fd mT (Q3o X.K 2 sp)) (hr:D5 k X.A) (hg:Gl X x) (hm:X.mg x=some (.ref f)) (hk:PySem.W.keepIn X.K (.ref f)=true) (hb:V6 X.K fd mT []) (ha:DE X H0 e we)
  (hT:H0 Pt=some .tab) (hB:Q0n X.mg X.base) (fb:X.env.code=.ref c) (hC:PySem.W.codeHdIn X.K c Pt=true) (kG:closureFor sc X.env=pure clos) (iq:cs.map (·.1)=clos.map (·.1)) (gR:∀y∈clos,X.env.cells.lookup y.1=some y.2)
  (g7:∀c∈cs,X.N[c.2]?=some c.1/\X.env.kindOf c.1=some .cell/\X.fn c.1=true) (S:Z0k ps (cs.map (·.1)) sc)
  (g8:∀(qual:Str) (cl:List (Str×Addr)) (pm cd ct:Value) (us:List Value),us.length=ps.length->bindArgs (PySem.W.kla_fn "<lambda>" qual params body sc cl pm cd ct) ⟨us,[]⟩=pure (ps.zip us))
  (cq:∀(caps:List M0) (f c':Addr) (A:Around) (outer:List Env) (s:Shared) (H:Hp) (q:Str),caps.map (·.name)=cs.map (·.1)->D5 kl (A.deeper (PySem.W.envX q sc s.heap.objs.size f (.ref c') (T0 caps)))->DE (cxL X.prog X.w X.K X.mg X.base (ps++cs.map (·.1)) q sc f c' caps A outer s H) H body wb)
  (dC:(x==("__debug__":Str))=false:=by decide) (he:starEach [e,.Lambda params body sc dM] X.env=(false,eval e X.env)::starEach [.Lambda params body sc dM] X.env:=by rfl) (qD:starEach [.Lambda params body sc dM] X.env=(false,eval (.Lambda params body sc dM) X.env)::starEach [] X.env:=by rfl)
  (hpl:(backTo pos (starEach [.Lambda params body sc dM] X.env)).any (·.1)=false:=by rfl) (hd:defaultsOf params X.env=([],[]):=by rfl) :
  DE X H0 (.Call (.Name x p) [e,.Lambda params body sc dM] [] pos) (Z4f (FnC X.prog X.w X.K X.mg X.base (kl+1)) ps.length cs wb sp we) where
 mono:=fun τ P Q g h=>ha.mono τ _ _ (fun r1 ⟨ok,di,h1,h2⟩=>⟨ok,di,h1,fun f Φ F=>let ⟨d,a,b⟩:=h2 f Φ F;⟨d,a,g _ b⟩⟩) h
 pe:=by
  intro ac s σ H Q I ⟨τ,hR,h⟩
  refine bn (Q7w I hg hm ?_ dC)
  have qS:PA X [e,.Lambda params body sc dM] (Z3y _ (Z3y _ Z3z)):=Q0k (es:=[.Lambda params body sc dM]) ha.pe (Q0k (es:=[]) (W3q (pos:=dM) hB fb hC kG hd) Q1r qD) he
  refine PySem.W.callWith_K (h₀:=X.base) I.ok.mod.kin hk (B3 (qS pos ac s σ H (fun vs H1=>A3 H H1/\∃v1 fa c' oc ctv r1,vs=[v1,.ref fa]/\E1 X.K H H1 r1 v1/\M7 r1=true/\Q6v oc/\H1 c'=some (.frz oc (.own Pt))/\H1 fa=some (.frz (Q0e X params body sc clos c' ctv) V2) /\
   ∃di,Q5d τ cs di/\∀f Φ,FnC X.prog X.w X.K X.mg X.base (kl+1) ps.length f Φ (Q5v wb di)->∃d,sp [nrm r1,.cl f Φ] (.st d)/\∀v H',A3 H H'->E1 X.K H H' (.st d) v->Q v H') I ?_) fun us s1 ⟨vs,H1,I1,r,kW,q⟩=>⟨I1.kIn,?_⟩) he hpl
  ·refine⟨τ,hR,ha.mono τ _ _ (fun r1 ⟨ok,di,h1,h2⟩ v1 H1 s1 ir=>?_) h⟩
   refine⟨s1 _ _ (hR.same _ _ hT),fun fa c' oc ctv H' sm fq hf cN lW _=>?_⟩
   exact⟨s1.trans sm,v1,fa,c',oc,ctv,r1,rfl,ir.mono sm,ok,fq,cN,lW,di,h1,h2⟩
  ·obtain⟨v1,fa,c',oc,ctv,r1,rfl,ir,ok,fq,cN,lW,di,h1,h2⟩:=q
   obtain⟨caps,n1,n2,nG⟩:=Z7d I1 (hR.mono kW) g7 h1
   have gS:∀p∈caps,Q1w X s1 p:=fun p hp=>(nG p hp).1
   have ky:(caps.map (·.name)).Nodup:=by rw [n1];exact(bC.mp S.nd).2.1
   have nd:=Z7c I1 ky gS
   have hL:T0 caps=clos:=Z7b (cs:=clos) (n1.trans iq) (fun p hp=>(gS p hp).look) gR
   have jv:=Q7b I1 gS
   subst hL
   have LP:Q4u X.K caps fa c' (Q0e X params body sc (T0 caps) c' ctv) (V7 caps H1):=⟨jv _ _ lW,⟨oc,Pt,jv _ _ cN,fq⟩,fun p hp=>⟨Q6z nd hp,(gS p hp).cell,(nG p hp).2.mono (Kp.of jv)⟩⟩
   have F0:=Y8o (P:=X.prog) (w:=X.w) (K:=X.K) (mg:=X.mg) (base:=X.base) (k:=kl) (f:=fa) (c':=c') (name:="<lambda>") (qual:=X.env.qual++"<lambda>") (params:=params) (body:=body) (sc:=sc) (pm:=(X.mg "__name__").getD .none) (ctv:=ctv) (ps:=ps) (caps:=caps) (sp:=Q5v wb di) (wb:=wb) (by rw [n1];exact S) nd
    (fun A outer s H q hr=>by rw [n1];exact cq caps fa c' A outer s H q n1 hr) (fun rs r _ hs=>by
     obtain⟨ds,d,e1,e2,e3⟩:=hs
     refine⟨ds,d,e1,e2,?_⟩
     have:di.map some=caps.map fun p=>some p.slot:=by rw [<- n2,aO];rfl
     rw [<- this];exact e3)
   obtain⟨d,g1,g2⟩:=h2 fa _ ⟨_,ps,F0,rfl,V6.all (g8 _ _ _ _ _),fun hh Hh hok _ hΦ=>⟨_,(hok _ _ hΦ.1).1,rfl⟩⟩
   refine W6b (CX:=L9) (E:=E0) F hr hb I1 nd gS r ⟨[r1,.cl fa _],.st d,rfl,⟨v1,_,rfl,(ir.mono jv).v,_,_,rfl,⟨rfl,LP,Q4u.mono⟩,rfl⟩,by rw [List.all_cons,ok];rfl,g1,fun v H' cM iv=>⟨cM,?_⟩⟩
   have hS:R5 (caps.map (·.addr)) H':=fun c jU=>by
    obtain⟨o,u,e1,e2⟩:=Z6f (H:=H1) nd gS c jU
    exact⟨o,u,cM _ _ e1,e2⟩
   have Q2o:∀b u,H1 b=some u->b∉caps.map (·.addr):=fun b u e hb=>by
    obtain⟨p,hp,rfl⟩:=au.mp hb
    rw [I1.freeC _ _ (gS p hp).look]at e;cases e
   exact g2 v _ (fun b u e=>by rw [Q0a (Q2o b u (kW _ _ e))];exact cM _ _ (jv _ _ (kW _ _ e))) (show A1 X.K _ d v from A1.hid hS d v iv)
@[simp] theorem W6j {FC:FCT}{n:Nat} {τ:A6}{Q:R->Prop}:Z4f FC n cs wb sp we τ Q=we τ fun r1=>M7 r1=true/\∃di,Q5d τ cs di/\∀f Φ,FC n f Φ (Q5v wb di)->∃d,sp [nrm r1,.cl f Φ] (.st d)/\Q (.st d):=rfl
end
end TK
end
section
namespace L2
open PySem PySem.Spec PyProof.Rows TK
theorem W0d {P:Program}{w:World}{K:Fg9}{mg mb:Str->Option Value}{k:Nat}{fa a:Addr}{fd:FuncData}{x:Str}{sp:Sp}{s₁:Shared}{vs:List Value}{ns:List Int}{ts:List Addr}
  (KX:K.In s₁.heap) (ii:s₁.heap.Ns mainGlobals mg) (hb:s₁.heap.Ns builtinsNs mb) (qJ:∀x:Str,x≠"__name__"->mb x=bootBuiltins x) (lR:s₁.heap.NoLimit) (qH:Q0n mg s₁.heap) (hg:s₁.gens=#[])
  (ig:∀Pt∈ts,s₁.heap.get? Pt=some (PySem.W.tabObj #[])) (dX:∀Pt∈ts,∃c,PySem.W.codeHdIn K c Pt=true) (qV:∀Pt∈ts,K.lookup Pt=none)
  (ha:s₁.heap.get? a=some { cls:=.type "list",data:=.seq vs.toArray }) (hi:IntsAre vs ns) (hl:ns.length<=sizeLine) (hr:D5 k callerA)
  (F:∀base:Heap,K.In base->base.Ns mainGlobals mg->Q0n mg base->O5 P w K mg base L9 k fa fd [x] sp) (g8:∀(s:Shared) (u:Value),BindsTo s fd ⟨[u],[]⟩ [(x,u)])
  (gp:∀H:Hp,(∀Pt∈ts,H Pt=some .tab)->FzL K H a (ns.map V.int)->sp [.ref a] H (fun v H'=>v=.bl true/\∀Pt∈ts,H' Pt=some .tab) fun _ _ _=>False) :
  codeAny (model P w) callerA (.call (.ref fa) ⟨[.ref a],[]⟩) (fun r s'=>r=.ok (.ret (.bool true))/\OldK s₁.heap s'.heap/\s'.os=s₁.os/\AllBare s'.gens) s₁:=by
 have rv:=Y5j hi
 have lq:=hi.length
 have core:∀H:Hp,(∀b u,H b=some u->(b∈ts/\u=.tab)\/(b=a/\K.lookup a=none/\u=.frz { cls:=.type "list",data:=.seq vs.toArray } (.lst (ns.map V.int))))->(∀Pt∈ts,H Pt=some .tab)->FzL K H a (ns.map V.int) ->
   codeAny (model P w) callerA (.call (.ref fa) ⟨[.ref a],[]⟩) (fun r s'=>r=.ok (.ret (.bool true))/\OldK s₁.heap s'.heap/\s'.os=s₁.os/\AllBare s'.gens) s₁:=by
  intro H hO hT hS
  have hok:F1 P w H s₁.heap:=fun b u e=>by
   rcases hO b u e with⟨hb,rfl⟩ | ⟨rfl,_,rfl⟩
   ·exact⟨#[],ig b hb,trivial,fun pos cv q=>by cases q⟩
   ·exact⟨ha,by rw [ah];exact hl,vs,_,rv,ha⟩
  have dY:∀{b:Addr}{o:Obj},s₁.heap.get? b=some o->H b=none->(Q0b s₁.heap H).get? b=some o:=fun e n=>Y8s e n
  have gh:∀{b:Addr}{o:Obj},s₁.heap.get? b=some o->(∀xs,o.data≠.fields xs)->(∀xs n,o.data≠.seq xs n)->H b=none:=fun {b o} e d1 d2=>by
   cases q:H b with
   | none=>rfl
   | some u =>
    rcases hO b u q with⟨hb,rfl⟩ | ⟨rfl,_,rfl⟩
    ·rw [ig b hb]at e;cases e;exact absurd rfl (d1 _)
    ·rw [ha]at e;cases e;exact absurd rfl (d2 _ _)
  have kw:∀{b:Addr}{m:Str->Option Value},s₁.heap.Ns b m->(Q0b s₁.heap H).Ns b m:=fun {b m} ⟨o,es,ep,e,d,r⟩=>⟨o,es,ep,dY e (gh e (fun xs z=>by rw [d]at z;cases z) (fun xs n z=>by rw [d]at z;cases z)),d,r⟩
  have nO:K.In (Q0b s₁.heap H):=fun b o e=>dY (KX b o e) (by
   cases q:H b with
   | none=>rfl
   | some u =>
    rcases hO b u q with⟨hb,rfl⟩ | ⟨rfl,hk,rfl⟩
    ·rw [qV b hb]at e;cases e
    ·rw [hk]at e;cases e)
  have hM:Mod K mg (Q0b s₁.heap H):=⟨nO,kw ii,⟨mb,kw hb,qJ⟩,let ⟨mc,h1,h2⟩:=lR;⟨mc,kw h1,h2⟩⟩
  have hBM:Q0n mg (Q0b s₁.heap H):=by
   obtain⟨bm,ob,b1,b2,b3,b4,b5,b6⟩:=qH
   exact⟨bm,ob,b1,b2,dY b3 (gh b3 (fun xs z=>by rw [b6]at z;cases z) (fun xs n z=>by rw [b6]at z;cases z)),b4,b5,b6⟩
  have e0:Q2w P w K mg (Q0b s₁.heap H) callerA [] s₁ H:=⟨rfl,hM,fun b o e=>W2n e,Nat.le_of_eq (Y8t _ _),trivial,fun b hb=>absurd (show b∈([]:List Addr)from hb) (by simp),hok,.of_eq hg⟩
  refine codeAny_mono ((F _ nO (kw ii) hBM).run callerA [] s₁ H ⟨[.ref a],[]⟩ [.ref a] [.ref a] _ _ hr e0 (g8 s₁ (.ref a)) (.cons rfl .nil) (gp H hT hS)) fun r s' h=>?_
  cases r with
  | error e=>exact(show False from h).elim
  | ok fl =>
   cases fl with
   | next=>exact False.elim h
   | brk=>exact False.elim h
   | cont=>exact False.elim h
   | ret u =>
    obtain⟨v,H',os,bare,un,jJ,r',q,qP⟩:=h
    have q':v=.bl true:=q
    subst q'
    obtain rfl:u=Value.bool true:=r'
    refine⟨rfl,⟨fun b o e=>?_,fun b o e=>un.there b o e (by simp)⟩,os,bare⟩
    cases q:H b with
    | none=>exact .inl (un.keep b o e q (by intro z;exact absurd (show b∈([]:List Addr)from z) (by simp)) (by simp))
    | some u =>
     rcases hO b u q with⟨hb,rfl⟩ | ⟨rfl,hk,rfl⟩
     ·obtain⟨ps,g1,_⟩:=(show F5 P w H' s'.heap b .tab from jJ b _ (qP b hb))
      obtain⟨c,hc⟩:=dX b hb
      have e1:=ig b hb
      rw [e]at e1;cases e1
      refine .inr (.inl ⟨((PySem.W.codeHd_of_K KX hc).tab (ig b hb)).isCodeTable,rfl,#[],ps,rfl,?_⟩)
      rw [g1];simp
     ·have z2:=un.frzs b _ _ q
      obtain⟨e2,_⟩:=jJ b _ z2
      rw [ha]at e;cases e
      exact .inl e2
 have oV:a∉ts:=fun hb=>by
  have:=ig a hb
  rw [ha]at this;cases this
 cases hk:K.lookup a with
 | some o =>
  have e:=KX a o hk
  rw [ha]at e
  cases e
  refine core (fun b=>if b∈ts then some .tab else none) (fun b u e=>?_) (fun Pt h=>aJ h) (.inr ⟨_,vs.toArray,_,hk,rfl,rfl,rfl,by rw [aA,lq];exact hl,by simpa using rv⟩)
  by_cases hb:b∈ts
  ·have e:=(aJ hb).symm.trans e;cases e;exact .inl ⟨hb,rfl⟩
  ·have e:=(aH hb).symm.trans e;cases e
 | none =>
  refine core (fun b=>if b∈ts then some .tab else if b=a then some (.frz { cls:=.type "list",data:=.seq vs.toArray } (.lst (ns.map V.int)))else none) (fun b u e=>?_) (fun Pt h=>aJ h) (.inl ⟨_,(aH oV).trans (aJ rfl)⟩)
  by_cases hb:b∈ts
  ·have e:=(aJ hb).symm.trans e;cases e;exact .inl ⟨hb,rfl⟩
  ·have e:=(aH hb).symm.trans e
   by_cases ha:b=a
   ·have e:=(aJ ha).symm.trans e;cases e;exact .inr ⟨ha,hk,rfl⟩
   ·have e:=(aH ha).symm.trans e;cases e
theorem W9o {l:PySem.W.OpenLaw}{n k:Nat}{q:Program}{dO:List Str}{XP:(Str->Option Value)->Heap->Prop}{YP:World->Heap->Prop}{d:DefRec}{K:Params->Fg9}{sp:World->Sp}{x:Str}{ts:List Addr}
  (hn:l.most=some n) (qf:n<=sizeLine) (jT:d.params.defaults=[]) (hr:D5 k callerA)
  (hY:∀(w:World) (h:Heap),YP w h->(K w.params).In h) (me:∀(w:World) (h:Heap),YP w h->∀Pt∈ts,h.get? Pt=some (PySem.W.tabObj #[]))
  (F:∀(w:World) (mg:Str->Option Value) (fa:Addr) (h:Heap),(K w.params).In h->h.Ns mainGlobals mg->mg d.name=some (.ref fa) ->
   (∀Pt∈ts,(∃c,PySem.W.codeHdIn (K w.params) c Pt=true)/\(K w.params).lookup Pt=none) /\
   ∃fd:FuncData,(∀(s:Shared) (u:Value),BindsTo s fd ⟨[u],[]⟩ [(x,u)]) /\
    ∀base:Heap,(K w.params).In base->base.Ns mainGlobals mg->Q0n mg base->O5 l.prog w (K w.params) mg base L9 k fa fd [x] (sp w))
  (gp:∀(w:World) (H:Hp) (a:Addr) (ns:List Int),ns.length<=n->(∀Pt∈ts,H Pt=some .tab)->FzL (K w.params) H a (ns.map V.int)->sp w [.ref a] H (fun v H'=>v=.bl true/\∀Pt∈ts,H' Pt=some .tab) fun _ _ _=>False) :
  PySem.W.WalkO q dO XP YP l.row.toRowW d [] (fun f vs=>PySem.call f vs):=by
 refine Att.attach_call hn jT fun w s₀ s₁ mg mb fa o pm cd cP a vs ns G Y ho hd dX jK iX fZ bI hg=>?_
 have KX:=hY w _ Y
 obtain⟨ig,fd,hb,hF⟩:=F w mg fa _ KX G.T.g jK
 exact W0d KX G.T.g G.T.b G.T.builtins G.T.nolimit G.T.bmain hg (me w _ Y) (fun Pt h=>(ig Pt h).1) (fun Pt h=>(ig Pt h).2) iX fZ (aX bI qf) hr hF hb fun H hT hS=>gp w H a ns bI hT hS
end L2
namespace TK
open PySem PySem.Spec PyProof.Rows L2
def Q4w (ts:List Addr) (H:Hp):Prop:=∀Pt∈ts,H Pt=some .tab
noncomputable abbrev Q1:=List R->(R->Prop)->Prop
noncomputable def Q3n (K:Fg9) (ts:List Addr) (n:Nat) (sp:Q1):Sp:=fun vs H Q _=>∃(rs:List R) (P:R->Prop),rs.length=n/\L3 K (fun _=>none) H rs vs/\rs.all M7=true/\Q4w ts H/\sp (rs.map nrm) P/\∀r v H',P r->A3 H H'->E1 K H H' r v->Q v H'
abbrev FnT (P:Program) (w:World) (K:Fg9) (mg:Str->Option Value) (base:Heap) (ts:List Addr) (k:Nat) (f:Addr) (fd:FuncData) (ps:List Str) (sp:Q1):Prop:=O5 P w K mg base L9 k f fd ps (Q3n K ts ps.length sp)
end TK
end
section
namespace TK
open PySem PySem.Spec PyProof.Rows L2
structure Q4s (K:Fg9) (x qual:Str) (st:Stmt) (f:Addr) (fd:FuncData) (c Pt:Addr):Prop where
 ex:∃(oc:Value) (od:Option Addr) (kV cP pm:Value) (an:Option Addr) (ct:Value) (dS:Array (Option Value)),
  fd=PySem.W.fnOf x qual (Y5 st) (S0 st) (C2 st) .none kV cP pm an (.ref c) ct/\K.lookup f=some ⟨oc,od,.func fd,dS⟩/\PySem.W.codeIn K (.ref c) qual=true
 hd:PySem.W.codeHdIn K c Pt=true
noncomputable abbrev Q0p (P:R->Prop):E7:={ nx:=fun _=>P (.st .non),rt:=P,bk:=fun _=>False,ct:=fun _=>False }
section
variable {P:Program}{w:World}{K:Fg9}{mg:Str->Option Value}{base:Heap}{ts:List Addr}{x qual:Str}{st:Stmt}{f:Addr}{fd:FuncData}{N ps:List Str}{k:Nat}{sp:Q1}
theorem Y1a {cdv:Value}{A:Around}{outer:List Env}{s:Shared}{H:Hp}{E:XK}{ws:WS}{rs:List R}{vs:List V}{Q:VK}{Pr:R->Prop}{X:Cx} (hX:X.K=K) (hd:A5 X H (S0 st) ws) (hl:rs.length=ps.length) (al:L3 K (fun _=>none) H rs vs) (ok:rs.all M7=true)
  (h1:sp (rs.map nrm) Pr) (h2:∀r v H',Pr r->A3 H H'->E1 K H H' r v->Q v H') (hw:∀rs Pr,rs.length=ps.length->sp rs Pr->ws (Q0p Pr) (G4 N rs)) :
  ∃t,PSs X (S0 st) t/\t { nx:=fun _ H'=>Q .non H',rt:=Q } (start N vs) H:=by
 subst hX
 refine⟨_,hd.ps,G4 N rs,Y1y al ok,?_⟩
 have hw:=hw (rs.map nrm) Pr (by rw [ah];exact hl) h1
 rw [Y4g]at hw
 refine hd.mono _ _ _ ⟨fun τ h σ H' _ hR=>?_,fun r' h v H' sm ir=>?_,fun _ h=>False.elim h,fun _ h=>False.elim h⟩ hw
 ·exact h2 (.st .non) .non H' h hR.same (A1.s_non (K:=X.K) (H:=H'))
 ·exact h2 r' v H' h sm ir
theorem Fun.okP {ws:WS} (F:Fun K x qual st f fd) (S:K5 N ps (C2 st))
  (cq:∀(cdv:Value) (A:Around) (outer:List Env) (s:Shared) (H:Hp) (E:XK),Q4w ts H->D5 k (A.deeper (envOfC qual (C2 st) s.heap.objs.size f cdv))->A5 (Z9 L9 P w K mg base N qual (C2 st) f cdv A outer s H E).nox H (S0 st) ws)
  (hw:∀rs Pr,rs.length=ps.length->sp rs Pr->ws (Q0p Pr) (G4 N rs)):FnT P w K mg base ts (k+1) f fd ps sp:=by
 refine F.ok S (fun vs H Q E h=>?_) (fun cdv A outer s H vs Q E hr h=>?_)
 ·obtain⟨rs,r,hl,al,_⟩:=h
  rw [<- al.length];exact hl
 obtain⟨rs,Pr,hl,al,ok,hT,h1,h2⟩:=h
 exact Y1a (st:=st) (cdv:=cdv) (A:=A) (outer:=outer) (s:=s) (E:=E) rfl (cq cdv A outer s H E hT hr) hl al ok h1 h2 hw
theorem Q4s.okP {c Pt:Addr}{ws:WS} (F:Q4s K x qual st f fd c Pt) (S:K5 N ps (C2 st))
  (cq:∀(A:Around) (outer:List Env) (s:Shared) (H:Hp) (E:XK),Q4w ts H->D5 k (A.deeper (envOfC qual (C2 st) s.heap.objs.size f (.ref c)))->A5 (Z9 L9 P w K mg base N qual (C2 st) f (.ref c) A outer s H E).nox H (S0 st) ws)
  (hw:∀rs Pr,rs.length=ps.length->sp rs Pr->ws (Q0p Pr) (G4 N rs)):FnT P w K mg base ts (k+1) f fd ps sp:=by
 obtain⟨oc,od,kV,cP,pm,an,ct,dS,rfl,lk,dX⟩:=F.ex
 refine Z8d lk dX S (fun vs H Q E h=>?_) fun A outer s H vs Q E hr h=>?_
 ·obtain⟨rs,r,hl,al,_⟩:=h
  rw [<- al.length];exact hl
 obtain⟨rs,Pr,hl,al,ok,hT,h1,h2⟩:=h
 obtain⟨t,ht,q⟩:=Y1a (st:=st) (cdv:=.ref c) (A:=A) (outer:=outer) (s:=s) (E:=E) rfl (cq A outer s H E hT hr) hl al ok h1 h2 hw
 exact⟨t,ht.nox,q⟩
end
section
variable {X:Cx}{H0:Hp}{e:Expr}{es:List Expr}{wr:WA}{k:Nat}{f:Addr}{fd:FuncData}{ps:List Str}{sp:Q1}{x:Str}{p pos:Pos}{ts:List Addr}
def Q1z (sp:Q1):Prop:=∀rs P Q,(∀r,P r->Q r)->sp rs P->sp rs Q
def Q1b (sp:Q1) (wr:WA):WE:=fun τ Q=>wr τ fun rs=>rs.all M7=true/\sp (rs.map nrm) Q
theorem DE.callP (lP:Q1z sp) (F:O5 X.prog X.w X.K X.mg X.base L9 k f fd ps (Q3n X.K ts (e::es).length sp)) (hr:D5 k X.A) (hT:Q4w ts H0) (hg:Gl X x) (hm:X.mg x=some (.ref f)) (hk:PySem.W.keepIn X.K (.ref f)=true) (hb:V6 X.K fd ps [])
  (ha:DA X H0 (e::es) wr) (dC:(x==("__debug__":Str))=false:=by decide) (he:starEach (e::es) X.env=(false,eval e X.env)::starEach es X.env:=by rfl) (hpl:(backTo pos (starEach es X.env)).any (·.1)=false:=by rfl) :
  DE X H0 (.Call (.Name x p) (e::es) [] pos) (Q1b sp wr) where
 mono:=fun τ P Q g h=>ha.mono τ _ _ (fun rs ⟨ok,h1⟩=>⟨ok,lP _ _ _ g h1⟩) h
 pe:=L5 (Y1d F hr hg hm hk hb .nil Q8k ha.pa dC he hpl) fun σ H Q ⟨τ,hR,h⟩=>⟨τ,hR,ha.mono τ _ _ (fun rs ⟨jO,ok,h1⟩ vs H1 s1 cw=>by
  refine⟨rs,_,jO,?_,ok,fun Pt hp=>s1 _ _ (hR.same _ _ (hT Pt hp)),h1,fun r v H' q s2 ir=>q v H' (s1.trans s2) (ir.older s1)⟩
  rw [bD]
  exact cw.v) (ha.len τ _ h)⟩
@[simp] theorem Q6l {τ:A6}{Q:R->Prop}:Q1b sp wr τ Q=wr τ fun rs=>rs.all M7=true/\sp (rs.map nrm) Q:=rfl
end
section
variable {P:Program}{w:World}{K:Fg9}{mg:Str->Option Value}{base:Heap}{ts:List Addr}{x qual:Str}{st:Stmt}{f:Addr}{fd:FuncData}{N ps:List Str}{k kl:Nat}{sp:Q1}{c Pt:Addr}
 {mQ dG:Stmt}{params:Arguments}{body:Expr}{sc:Scope}{dM oP:Pos}{cs:List (Str×Nat)}{rQ:List Str}{w1 w2:WS}{wb:WE}
end
end TK
end
section
namespace L2
open PySem PySem.Spec PyProof.Rows
section
variable {X:Cx}{k v:Expr}{tk tv:TE}{pos:Pos}
end
end L2
namespace TK
open PySem PySem.Spec PyProof.Rows L2
theorem Q1m {K:Fg9}{H:Hp}:∀{d:D}{k:A7}{v:V},O2 d=some k->A1 K H d v->v=kV k
 | .int i,k,v,h,q=>by cases h;unfold A1 at q;rw [q];rfl
 | .str x,k,v,h,q=>by cases h;unfold A1 at q;rw [q];rfl
 | .non,_,_,h,_=>by cases h
 | .bl _,_,_,h,_=>by cases h
 | .tup _,_,_,h,_=>by cases h
 | .lst _,_,_,h,_=>by cases h
section
variable {X:Cx}{H0:Hp}{a b c e o tg:Expr}{pos bj p2 apos bi:Pos}{wa wb wi we:WE}{x:Str}
theorem B6.dkAt {K:Fg9}{H:Hp} {τ:A6} {σ:St}{i:Nat}{kvs:List (A7×D)} (hR:B6 K H0 τ σ H) (e1:τ[i]?=some (some (.dk kvs))):∃a ps,σ[i]?=some (some (.ref a))/\H0 a=none/\H a=some (.dK ps)/\B5 K H kvs ps:=by
 obtain⟨v,hv,a,xs,rfl,h0,sq,al⟩:=hR.here i _ e1
 exact⟨a,xs,hv,h0,sq,al⟩
def Q4n (i:Nat) (we:WE):WE:=fun τ Q=>∃kvs,τ[i]?=some (some (.dk kvs))/\we τ fun r=>∃kd k d,r=.st kd/\O2 kd=some k/\C9 kvs k=some d/\Q (.st d)
theorem DE.kget {i:Nat} (hu:X.A.units+1<cLine) (ho:PE X o (J8 i)) (he:DE X H0 e we) (hs:Q2a e):DE X H0 (.Subscript o e pos) (Q4n i we) where
 mono:=fun τ P Q f ⟨kvs,e1,h⟩=>⟨kvs,e1,he.mono τ _ _ (fun r ⟨ds,ks,d,a1,a2,a3,a4⟩=>⟨ds,ks,d,a1,a2,a3,f _ a4⟩) h⟩
 pe:=L5 (Q6i hu ho he.pe hs) fun σ H Q ⟨τ,hR,kvs,e1,h⟩=>by
  obtain⟨a,ps,hv,h0,sq,kv⟩:=hR.dkAt e1
  refine⟨_,hv,τ,hR,he.mono τ _ _ (fun r ⟨kd,k,d,a1,a2,a3,a4⟩ v H1 s1 ir=>?_) h⟩
  subst a1
  cases Q1m a2 (show A1 X.K H1 kd v from ir)
  rcases B5.val (k:=k) (kv.mono (Kp.of s1) _ _)with⟨n1,_⟩ | ⟨d',v',n1,n2,n3⟩
  ·rw [a3]at n1;cases n1
  ·rw [a3]at n1;cases n1
   refine⟨a,v',rfl,?_,a4 _ _ s1 n3⟩
   have g:=U9.k (k:=k) (s1 _ _ sq)
   rw [n2]at g
   exact g
def Q4o (i:Nat) (we:WE):WT:=fun τ Q=>∃kvs,τ[i]?=some (some (.dk kvs))/\we τ fun r=>∃kd k,r=.st kd/\O2 kd=some k/\Q (!(C9 kvs k).isSome)
theorem DT.knotin {i:Nat} (hu:X.A.units+1<cLine) (he:DE X H0 e we) (ho:PE X o (J8 i)) (h1:behindInMarks .NotIn o=false:=by rfl):DT X H0 (.Compare e [.NotIn] [o] pos) (Q4o i we) where
 mono:=fun τ P Q f ⟨kvs,e1,h⟩=>⟨kvs,e1,he.mono τ _ _ (fun r ⟨ds,ks,a1,a2,a4⟩=>⟨ds,ks,a1,a2,f _ a4⟩) h⟩
 pt:=ptW (W4p (W3c hu he.pe ho) h1) fun σ H Q ⟨τ,hR,kvs,e1,h⟩=>by
  refine⟨τ,hR,he.mono τ _ _ (fun r ⟨kd,k,a1,a2,a4⟩ v H1 s1 ir=>?_) h⟩
  obtain⟨a,ps,hv,h0,sq,kv⟩:=(hR.mono s1).dkAt e1
  subst a1
  cases Q1m a2 (show A1 X.K H1 kd v from ir)
  refine⟨_,hv,a,_,rfl,U9.k (k:=k) sq,?_⟩
  have e:(R0 ps k).isSome=(C9 kvs k).isSome:=by
   rcases B5.val (k:=k) kv with⟨n1,n2⟩ | ⟨d',v',n1,n2,n3⟩ <;> rw [n1,n2] <;> rfl
  rw [e]
  exact⟨_,rfl,a4 _ s1⟩
def Q4p (i:Nat) (we wv:WE):WS:=fun E τ=>wv τ fun r=>∃d,r=.st d/\∃kvs,τ[i]?=some (some (.dk kvs))/\we τ fun rk=>∃kd k,rk=.st kd/\O2 kd=some k/\kvs.length<sizeLine/\E.nx (τ.set i (some (.dk (L0 kvs k d))))
theorem DS.kput {i:Nat}{v:Expr}{wv:WE} (hu:X.A.units+1<cLine) (ho:PE X o (J8 i)) (he:DE X H0 e we) (hv:DE X H0 v wv) (hs:swapsWith v (some (.Subscript o e bj)) pos.line X.env=pure false:=by rfl) :
  DS X H0 (.Assign [.Subscript o e bj] v pos) (Q4p i we wv) where
 mono:=fun τ E F le h=>hv.mono τ _ _ (fun r ⟨d,e1,kvs,e2,h⟩=>⟨d,e1,kvs,e2,he.mono τ _ _ (fun r ⟨ds,ks,a1,a2,a3,a4⟩=>⟨ds,ks,a1,a2,a3,le.nx _ a4⟩) h⟩) h
 ps:=L6 (Y1k hu ho he.pe hv.pe hs) fun D σ H ⟨τ,hR,h⟩=>by
  refine⟨τ,hR,hv.mono τ _ _ (fun r ⟨d,e1,kvs,e2,h⟩ u H1 s1 ir=>?_) h⟩
  subst e1
  have cU:=hR.mono s1
  obtain⟨a,ps,dv,h0,sq,kv⟩:=cU.dkAt e2
  refine⟨_,dv,τ,cU,he.mono τ _ _ (fun rk ⟨kd,k,a1,a2,a3,a4⟩ y H2 s2 ik=>?_) h⟩
  subst a1
  cases Q1m a2 (show A1 X.K H2 kd y from ik)
  have dh:=s2 _ _ sq
  have gm:=kv.mono (Kp.of s2) _ _
  refine⟨a,_,rfl,Q1f.k dh (by rw [<- B5.length gm];exact a3),?_⟩
  have kp:Kp H2 (upd H2 a (.dK (N1 ps k u))):=Kp.updM dh (by intro xs z;cases z) (by intro o u z;cases z) _
  have iv:A1 X.K H2 d u:=A1.mono (Kp.of s2) _ _ ir
  refine a4 σ _ ((Kp.of (s1.trans s2)).trans kp) ((cU.mono s2).mutG e2 rfl dv h0 dh (by intro xs z;cases z) (by intro o u z;cases z) ⟨a,_,rfl,h0,upd_same,?_⟩)
  exact B5.mono kp _ _ (B5.put iv gm)
@[simp] theorem Y2r {i:Nat} {τ:A6}{Q:R->Prop}:Q4n i we τ Q=∃kvs,τ[i]?=some (some (.dk kvs))/\we τ fun r=>∃kd k d,r=.st kd/\O2 kd=some k/\C9 kvs k=some d/\Q (.st d):=rfl
@[simp] theorem Y2s {i:Nat} {τ:A6}{Q:Bool->Prop}:Q4o i we τ Q=∃kvs,τ[i]?=some (some (.dk kvs))/\we τ fun r=>∃kd k,r=.st kd/\O2 kd=some k/\Q (!(C9 kvs k).isSome):=rfl
@[simp] theorem Y2t {i:Nat}{wv:WE}{E:E7} {τ:A6}:Q4p i we wv E τ=wv τ fun r=>∃d,r=.st d/\∃kvs,τ[i]?=some (some (.dk kvs))/\we τ fun rk=>∃kd k,rk=.st kd/\O2 kd=some k/\kvs.length<sizeLine/\E.nx (τ.set i (some (.dk (L0 kvs k d)))):=rfl
end
end TK
end
section
namespace TK
open PySem PySem.Spec PyProof.Rows L2
noncomputable instance decD:DecidableEq D:=fun a b=>Classical.propDecidable (a=b)
noncomputable def Q2 {α β:Type} (p:α->β->Prop):List α->List β->Prop
 | [],vs=>vs=[]
 | k::ks,vs=>∃v r,vs=v::r/\p k v/\Q2 p ks r
theorem Q2.len {α β:Type}{p:α->β->Prop}:∀{ks:List α}{vs:List β},Q2 p ks vs->ks.length=vs.length
 | [],vs,h=>by rw [show vs=[]from h];rfl
 | k::ks,vs,h=>by obtain⟨v,r,rfl,_,t⟩:=h;rw [ax,ax,t.len]
theorem Q2.imp {α β:Type}{p q:α->β->Prop} (f:∀a b,p a b->q a b):∀{ks:List α}{vs:List β},Q2 p ks vs->Q2 q ks vs
 | [],vs,h=>h
 | k::ks,vs,h=>by obtain⟨v,r,rfl,i,t⟩:=h;exact⟨v,r,rfl,f _ _ i,t.imp f⟩
theorem Q2.at {α β:Type}{p:α->β->Prop}:∀{ks:List α}{vs:List β}{j:Nat}{k:α}{v:β},Q2 p ks vs->ks[j]?=some k->vs[j]?=some v->p k v
 | [],vs,j,k,v,h,e,_=>by simp at e
 | k::ks,vs,0,k',v',h,e,e'=>by
  obtain⟨v,r,rfl,i,t⟩:=h
  simp at e e';subst e e';exact i
 | k::ks,vs,j+1,k',v',h,e,e'=>by
  obtain⟨v,r,rfl,i,t⟩:=h
  exact t.at (by simpa using e) (by simpa using e')
noncomputable def F6 (h:Heap):Nat->D->Value->Prop
 | _,.non,v=>v=.none
 | _,.int i,v=>∃t,v=.int i t
 | _,.str x,v=>∃t,v=.str x t
 | n+1,.tup ks,v=>∃a items,v=.ref a/\h.IsTuple a items/\Q2 (F6 h n) ks items.toList
 | _,_,_=>False
noncomputable def W0 (w:World):Nat->D->Int
 | _,.non=>reduceHash 0xFCA86420
 | _,.int i=>hashInt i
 | _,.str x=>hashStr w x
 | n+1,.tup ks=>reduceHash (Builtin.Tuple.tupleHashOf (ks.map (W0 w n)))
 | _,_=>0
noncomputable def T4:Nat->D->Nat
 | n+1,.tup ks=>(ks.map (T4 n)).sum+1
 | _,_=>1
theorem Y9i {h:Heap}{a:Addr}{i j:Array Value} (x:h.IsTuple a i) (y:h.IsTuple a j):i=j:=by
 obtain⟨o,e,_,n,d⟩:=x
 obtain⟨o',e',_,n',d'⟩:=y
 rw [e]at e';cases e'
 rw [d]at d';cases d';rfl
theorem Y5o {α β:Type}{p q:α->β->Prop} (f:∀x y v,p x v->q y v->x=y):∀{xs ys:List α}{vs:List β},Q2 p xs vs->Q2 q ys vs->xs=ys
 | [],[],_,_,_=>rfl
 | [],y::ys,vs,h1,h2=>by obtain⟨_,_,e,_⟩:=h2;rw [show vs=[]from h1]at e;cases e
 | x::xs,[],vs,h1,h2=>by obtain⟨_,_,e,_⟩:=h1;rw [show vs=[]from h2]at e;cases e
 | x::xs,y::ys,vs,h1,h2=>by
  obtain⟨v,r,rfl,i1,t1⟩:=h1
  obtain⟨v',r',e,i2,t2⟩:=h2
  cases e
  rw [f _ _ _ i1 i2,Y5o f t1 t2]
theorem F6.shape {h:Heap}:∀{n:Nat}{x:D}{v:Value},F6 h n x v->(x=.non/\v=.none)\/(∃i t,x=.int i/\v=.int i t)\/(∃i t,x=.str i/\v=.str i t)\/∃m ks a items,n=m+1/\x=.tup ks/\v=.ref a/\h.IsTuple a items/\Q2 (F6 h m) ks items.toList
 | n,.non,v,q=>.inl ⟨rfl,by cases n <;> exact q⟩
 | n,.int i,v,q=>by
  obtain⟨t,e⟩:∃t,v=.int i t:=by cases n <;> exact q
  exact .inr (.inl ⟨i,t,rfl,e⟩)
 | n,.str i,v,q=>by
  obtain⟨t,e⟩:∃t,v=.str i t:=by cases n <;> exact q
  exact .inr (.inr (.inl ⟨i,t,rfl,e⟩))
 | 0,.tup ks,v,q=>q.elim
 | m+1,.tup ks,v,q=>by
  obtain⟨a,items,e,t,z⟩:=q
  exact .inr (.inr (.inr ⟨m,ks,a,items,rfl,rfl,e,t,z⟩))
 | n,.bl b,v,q=>by cases n <;> exact q.elim
 | n,.lst b,v,q=>by cases n <;> exact q.elim
theorem F6.one {h:Heap}:∀(n m:Nat) (x y:D) (v:Value),F6 h n x v->F6 h m y v->x=y:=by
 intro n
 induction n with
 | zero =>
  intro m x y v h1 h2
  rcases h1.shape with⟨rfl,rfl⟩ | ⟨i,t,rfl,rfl⟩ | ⟨i,t,rfl,rfl⟩ | ⟨m1,ks,a,items,e0,rfl,rfl,t,z⟩ <;>
   rcases h2.shape with⟨rfl,e⟩ | ⟨j,u,rfl,e⟩ | ⟨j,u,rfl,e⟩ | ⟨m2,lu,a2,eR,_,rfl,e,t2,z2⟩ <;> first | rfl | (cases e;rfl) | (cases e;done) | omega
 | succ n ih =>
  intro m x y v h1 h2
  rcases h1.shape with⟨rfl,rfl⟩ | ⟨i,t,rfl,rfl⟩ | ⟨i,t,rfl,rfl⟩ | ⟨m1,ks,a,items,e0,rfl,rfl,t,z⟩ <;>
   rcases h2.shape with⟨rfl,e⟩ | ⟨j,u,rfl,e⟩ | ⟨j,u,rfl,e⟩ | ⟨m2,lu,a2,eR,_,rfl,e,t2,z2⟩ <;> first | rfl | (cases e;rfl) | (cases e;done) | skip
  cases e;cases e0;cases Y9i t t2
  rw [Y5o (fun x y v=>ih m2 x y v) z z2]
theorem F6.stays {h h':Heap} (k:∀a items,h.IsTuple a items->h'.IsTuple a items):∀(n:Nat) (x:D) (v:Value),F6 h n x v->F6 h' n x v:=by
 intro n
 induction n with
 | zero=>intro x v q;cases x <;> exact q
 | succ n ih =>
  intro x v q
  cases x with
  | tup ks =>
   unfold F6 at q ⊢
   obtain⟨a,it,e,t,z⟩:=q
   exact⟨a,it,e,k _ _ t,z.imp ih⟩
  | _=>exact q
section
variable {E:VS9}{prog:Program}{w:World}
theorem Z8z {n:Nat} (ih:∀(k:D) (v:Value) (A:Around) (s:Shared) (Q:Int->Shared->Prop),A.units+n<cLine->F6 s.heap n k v->Q (W0 w n k) { s with toks:=s.toks+T4 n k }->wpAny (model prog w) A (pyHash v) Q E s) :
  ∀(ks:List D) (vs:List Value) (A:Around) (s:Shared) (b:Array Int) (Q:Array Int->Shared->Prop),A.units+n<cLine->Q2 (F6 s.heap n) ks vs ->
   Q (b++(ks.map (W0 w n)).toArray) { s with toks:=s.toks+(ks.map (T4 n)).sum }->wpAny (model prog w) A (forIn vs b fun x r=>do let h <- pyHash x;pure PUnit.unit;pure (ForInStep.yield (r.push h))) Q E s
 | [],vs,A,s,b,Q,_,z,q=>by
  rw [show vs=[]from z]
  exact ai (by simpa using q)
 | k::ks,vs,A,s,b,Q,hu,z,q=>by
  obtain⟨v,r,rfl,i,t⟩:=z
  rw [c8]
  refine aa (aa (ih k v A s _ hu i ?_))
  refine aa (ai (ai ?z))
  refine Z8z ih ks r A { s with toks:=s.toks+T4 n k } _ Q hu t ?_
  have e:(b.push (W0 w n k))++(ks.map (W0 w n)).toArray=b++((k::ks).map (W0 w n)).toArray:=by simp
  have e2:s.toks+T4 n k+(ks.map (T4 n)).sum=s.toks+((k::ks).map (T4 n)).sum:=by simp [Nat.add_assoc]
  rw [e]
  show Q _ { s with toks:=s.toks+T4 n k+(ks.map (T4 n)).sum }
  rw [e2];exact q
theorem Y9q:∀(n:Nat) (k:D) (v:Value) (A:Around) (s:Shared) (Q:Int->Shared->Prop),A.units+n<cLine->F6 s.heap n k v->Q (W0 w n k) { s with toks:=s.toks+T4 n k }->wpAny (model prog w) A (pyHash v) Q E s:=by
 have flat:∀(n:Nat) (k:D) (v:Value) (A:Around) (s:Shared) (Q:Int->Shared->Prop),(∀ks,k≠.tup ks)->F6 s.heap n k v->Q (W0 w n k) { s with toks:=s.toks+T4 n k }->wpAny (model prog w) A (pyHash v) Q E s:=by
  intro n k v A s Q nt i q
  cases k with
  | tup ks=>exact absurd rfl (nt ks)
  | bl b=>cases n <;> exact i.elim
  | lst b=>cases n <;> exact i.elim
  | non =>
   have e:v=.none:=by cases n <;> exact i
   subst e
   have e1:W0 w n .non=reduceHash 0xFCA86420:=by cases n <;> rfl
   have e2:T4 n .non=1:=by cases n <;> rfl
   rw [e1,e2]at q
   exact PySem.W.pyHash_slot (T:="NoneType") rfl F.slot_NoneType_hash F.entry_NoneType_hash (F.args_NoneType_hash_1 _) (beq_builtin_none _) (.inl rfl) (aa (ai (aa (wpAny_mkInt (ai ⟨_,_,rfl,q⟩)))))
  | int j =>
   obtain⟨t,rfl⟩:∃t,v=.int j t:=by cases n <;> exact i
   have e1:W0 w n (.int j)=hashInt j:=by cases n <;> rfl
   have e2:T4 n (.int j)=1:=by cases n <;> rfl
   rw [e1,e2]at q
   exact wpAny_pyHash_int q
  | str j =>
   obtain⟨t,rfl⟩:∃t,v=.str j t:=by cases n <;> exact i
   have e1:W0 w n (.str j)=hashStr w j:=by cases n <;> rfl
   have e2:T4 n (.str j)=1:=by cases n <;> rfl
   rw [e1,e2]at q
   exact wpAny_pyHash_str q
 intro n
 induction n with
 | zero =>
  intro k v A s Q hu i q
  cases k with
  | tup ks=>exact i.elim
  | _=>exact flat 0 _ v A s Q (by intro ks e;cases e) i q
 | succ n ih =>
  intro k v A s Q hu i q
  cases k with
  | tup ks =>
   obtain⟨a,items,rfl,t,z⟩:=i
   obtain⟨o,e,c,m,d⟩:=id t
   refine PySem.W.pyHash_slot (T:="tuple") ⟨o,e,c⟩ F.slot_tuple_hash F.entry_tuple_hash (F.args_tuple_hash_1 _) (beq_builtin_none _) (.inr (by omega)) ?_
   change wpAny (model prog w) A.in1 (Builtin.Tuple.tupleItemsOf (Value.ref a)>>=_) _ _ s
   refine aa (wpAny_tupleItemsOf e d (aa ?_))
   rw [<- Array.forIn_toList]
   refine Z8z ih ks items.toList A.in1 s #[] _ (by simp only [bQ];omega) z ?_
   refine aa (wpAny_mkInt (ai ⟨_,_,rfl,?_⟩))
   have q2:Q (reduceHash (Builtin.Tuple.tupleHashOf (ks.map (W0 w n)))) { s with toks:=s.toks+(ks.map (T4 n)).sum+1 }:=q
   simpa using q2
  | _=>exact flat (n+1) _ v A s Q (by intro ks e;cases e) i q
theorem Y8m {A:Around}{s:Shared}{a b:Addr}{x y:Array Value}{xs ys:List D}{n m:Nat} (hu:A.units<cLine) (ta:s.heap.IsTuple a x) (tb:s.heap.IsTuple b y) (za:Q2 (F6 s.heap n) xs x.toList) (zb:Q2 (F6 s.heap m) ys y.toList)
  (he:∀(k l:D) (u v:Value),F6 s.heap n k u->F6 s.heap m l v->SeqAt.EqAt A.in1 s u v (decide (k=l))):SeqAt.RcAt A s (.ref a) (.ref b) (decide (D.tup xs=D.tup ys)):=by
 have lx:xs.length=x.size:=by rw [za.len];simp
 have ly:ys.length=y.size:=by rw [zb.len];simp
 have r:=SeqAt.RcAt.tuples (e:=fun j=>decide (xs[j]?=ys[j]?)) ta tb hu fun j h1 h2=>by
  have e1:xs[j]?=some xs[j]:=af (by omega)
  have e2:ys[j]?=some ys[j]:=af (by omega)
  have q:=he xs[j] ys[j] x[j] y[j] (za.at e1 (by simp [h1])) (zb.at e2 (by simp [h2]))
  have:decide (xs[j]?=ys[j]?)=decide (xs[j]=ys[j]):=by rw [e1,e2];by_cases z:xs[j]=ys[j] <;> simp [z]
  show SeqAt.EqAt A.in1 s x[j] y[j] (decide (xs[j]?=ys[j]?))
  rw [this];exact q
 have e:((List.range (min x.size y.size)).all (fun j=>decide (xs[j]?=ys[j]?))&&x.size==y.size)=decide (D.tup xs=D.tup ys):=by
  rw [Bool.eq_iff_iff]
  simp only [cj,bU,bp,cY,beq_iff_eq,D.tup.injEq]
  constructor
  ·rintro ⟨h1,h2⟩
   refine List.ext_getElem? fun j=>?_
   by_cases hj:j<x.size
   ·exact h1 j (by omega)
   ·rw [cr (by omega),cr (by omega)]
  ·rintro rfl
   exact⟨fun _ _=>rfl,by omega⟩
 rw [e]at r;exact r
theorem k_eq {s:Shared}:∀(n m:Nat) (x y:D) (u v:Value) (A:Around),A.units+n<cLine->F6 s.heap n x u->F6 s.heap m y v->SeqAt.EqAt A s u v (decide (x=y)):=by
 have flat:∀(n m:Nat) (x y:D) (u v:Value) (A:Around),A.units+n<cLine->F6 s.heap n x u->F6 s.heap m y v ->
   (∀n' xs ys a b i j m',n=n'+1->s.heap.IsTuple a i->s.heap.IsTuple b j->Q2 (F6 s.heap n') xs i.toList->Q2 (F6 s.heap m') ys j.toList->a≠b->SeqAt.EqAt A s (.ref a) (.ref b) (decide (D.tup xs=D.tup ys)))->SeqAt.EqAt A s u v (decide (x=y)):=by
  intro n m x y u v A hu h1 h2 tt
  have ji:A.units<cLine:=by omega
  rcases h1.shape with⟨rfl,rfl⟩ | ⟨i,t,rfl,rfl⟩ | ⟨i,t,rfl,rfl⟩ | ⟨m1,ks,a,items,e0,rfl,rfl,t,z⟩ <;>
   rcases h2.shape with⟨rfl,rfl⟩ | ⟨j,u,rfl,rfl⟩ | ⟨j,u,rfl,rfl⟩ | ⟨m2,lu,a2,eR,_,rfl,rfl,t2,z2⟩
  ·rw [bV rfl];exact SeqAt.EqAt.same _
  ·rw [aK (by intro e;cases e)];exact SeqAt.EqAt.none_int _ _
  ·rw [aK (by intro e;cases e)];exact SeqAt.EqAt.none_str _ _
  ·rw [aK (by intro e;cases e)];exact SeqAt.EqAt.none_tuple t2 ji
  ·rw [aK (by intro e;cases e)];exact SeqAt.EqAt.int_none _ _
  ·have e:decide (D.int i=D.int j)=(i==j):=by by_cases z:i=j <;> simp [z]
   rw [e];exact SeqAt.EqAt.int_int _ _ _ _
  ·rw [aK (by intro e;cases e)];exact SeqAt.EqAt.int_str _ _ _ _
  ·rw [aK (by intro e;cases e)];exact SeqAt.EqAt.int_tuple _ _ t2 ji
  ·rw [aK (by intro e;cases e)];exact SeqAt.EqAt.str_none _ _
  ·rw [aK (by intro e;cases e)];exact SeqAt.EqAt.str_int _ _ _ _
  ·have e:decide (D.str i=D.str j)=(i==j):=by by_cases z:i=j <;> simp [z]
   rw [e];exact SeqAt.EqAt.str_str _ _ _ _
  ·rw [aK (by intro e;cases e)];exact SeqAt.EqAt.str_tuple _ _ t2 ji
  ·rw [aK (by intro e;cases e)];exact SeqAt.EqAt.tuple_none t ji
  ·rw [aK (by intro e;cases e)];exact SeqAt.EqAt.tuple_int _ _ t ji
  ·rw [aK (by intro e;cases e)];exact SeqAt.EqAt.tuple_str _ _ t ji
  ·by_cases ab:a=a2
   ·subst ab
    have e:=F6.one _ _ _ _ _ h1 h2
    rw [bV e];exact SeqAt.EqAt.same _
   ·exact tt m1 ks lu a a2 items eR m2 e0 t t2 z z2 ab
 intro n
 induction n with
 | zero=>exact fun m x y u v A hu h1 h2=>flat 0 m x y u v A hu h1 h2 fun n' _ _ _ _ _ _ _ e=>by omega
 | succ n ih =>
  exact fun m x y u v A hu h1 h2=>flat (n+1) m x y u v A hu h1 h2 fun n' xs ys a b i j m' e ta tb za zb ab=>by
   cases e
   exact SeqAt.EqAt.of_refs ab (Y8m (by omega) ta tb za zb fun k l u v h1 h2=>ih m' k l u v A.in1 (by simp only [bQ];omega) h1 h2)
theorem Y9r {A:Around}{s:Shared}:∀(n f:Nat) (x:D) (v:Value) (Q:Bool->Shared->Prop),n<=f->F6 s.heap n x v->Q true s->wpAny (model prog w) A (eqIsQuiet f v) Q E s:=by
 intro n
 induction n with
 | zero =>
  intro f x v Q hf h q
  rcases h.shape with⟨rfl,rfl⟩ | ⟨i,t,rfl,rfl⟩ | ⟨i,t,rfl,rfl⟩ | ⟨m1,ks,a,items,e0,rfl,rfl,t,z⟩
  ·rw [e9 f rfl];exact ai q
  ·rw [e9 f rfl];exact ai q
  ·rw [e9 f rfl];exact ai q
  ·omega
 | succ n ih =>
  intro f x v Q hf h q
  rcases h.shape with⟨rfl,rfl⟩ | ⟨i,t,rfl,rfl⟩ | ⟨i,t,rfl,rfl⟩ | ⟨m1,ks,a,items,e0,rfl,rfl,t,z⟩
  ·rw [e9 f rfl];exact ai q
  ·rw [e9 f rfl];exact ai q
  ·rw [e9 f rfl];exact ai q
  ·cases e0
   obtain⟨o,e,c,m,d⟩:=id t
   have hT:s.TypeIs (.ref a) "tuple":=⟨o,e,c⟩
   cases f with
   | zero=>omega
   | succ f =>
    unfold eqIsQuiet
    refine aa (wpAny_specialOf hT F.slot_tuple_eq.lookup (?_:wpAny (model prog w) A (isInstance (Value.ref a) (.type "tuple")>>=_) _ _ s))
    refine aa (wpAny_isInstance hT isSubtype_tuple_tuple (s:=s) ?_)
    rw [aH (by decide)]
    refine aa (ce e d (aa ?_))
    change wpAny (model prog w) A (forIn items _ _) _ _ s
    rw [<- Array.forIn_toList]
    have loop:∀(ks:List D) (vs:List Value),Q2 (F6 s.heap n) ks vs->wpAny (model prog w) A (forIn vs (none,PUnit.unit) fun y (sg:Option Bool×PUnit)=>(do
      if (!(<- eqIsQuiet f y))=true then pure (ForInStep.done (some false,PUnit.unit))else pure (ForInStep.yield (none,PUnit.unit)))) (fun r s'=>s'=s/\r=(none,PUnit.unit)) E s:=by
     intro ks
     induction ks with
     | nil=>intro vs z;rw [show vs=[]from z];exact ai ⟨rfl,rfl⟩
     | cons k ks ihk =>
      intro vs z
      obtain⟨v,r,rfl,i,z⟩:=z
      rw [c8]
      refine aa (aa (ih f k v _ (by omega) i ?_))
      rw [aH (by decide)]
      exact ai (ihk r z)
    refine aR (loop ks items.toList z) (fun r s' br=>?_) fun _ _ z=>z
    obtain⟨e1,e2⟩:=br
    subst e1 e2
    exact ai q
end
noncomputable def Z1r (prog:Program) (w:World):HeapKind prog w D where
 is:=fun h k a=>F6 h 8 k (.ref a)
 hash:=W0 w 8
 draws:=T4 8
 room:=fun A=>A.units+8<cLine
 inj:=fun h1 h2=>F6.one _ _ _ _ _ h1 h2
 keeps:=fun h1 ho hd hs=>F6.stays (fun b it t=>by
  obtain⟨o',e,c,m,d⟩:=t
  refine⟨o',(hs.2 b fun z=>?_).trans e,c,m,d⟩
  subst z
  rw [ho]at e;cases e
  rw [hd]at d;cases d) _ _ _ h1
 pyHash:=fun hu hk h=>Y9q 8 _ _ _ _ _ hu hk h
 eqBool:=fun hu hx hy h=>k_eq 8 8 _ _ _ _ _ hu hx hy _ _ _ _ h
 quiet:=fun hk h=>Y9r 8 8 _ _ _ (aj _) hk h
section
variable {κ:Type} [DecidableEq κ] {P:Program}{w:World}{knd:HeapKind P w κ}{A:Around}{E:VS9}{s:Shared}{d a:Addr}{xs:List (κ×Addr×Value)}{k:κ}
theorem W7q {y:Value}{Q:VS9} (hu:knd.room A) (hk:knd.is s.heap k a) (D:s.heap.DictOfH knd d xs) (z:xs.length<=sizeLine)
  (h1:∀(j:Nat) (p:Addr×Value),xs[j]?=some (k,p)->Q p.2 { s with toks:=s.toks+knd.draws k })
  (h2:k∉xs.map (·.1)->∀h',h'.DictOfH knd d (xs++[(k,a,y)])->Heap.SameBut d s.heap h'->Q y { s with heap:=h',toks:=s.toks+knd.draws k }):wpAny (model P w) A (dictSetDefault d (.ref a) y) Q E s:=by
 obtain⟨o,es,ep,ho,hc,hd,he,lV,hn⟩:=D
 have hz:es.size<=sizeLine:=by rw [size_of_entries he];exact z
 unfold dictSetDefault
 refine bz (aa (knd.pyHash hu hk (aa (wpAny_dictFind_heap (s:={ s with toks:=s.toks+knd.draws k }) hu hk ho hd he lV hn (fun no=>?_) fun j p hj=>?_))))
 ·have nk:=not_mem_keys_of_get no
  refine aa (fh (aa (wpAny_updateDictKeys (s:={ s with toks:=s.toks+knd.draws k }) ho hd (ai (h2 nk _ ?_ (bo ..))) (hz:=hz))))
  refine⟨_,_,ep+1,ck _ ho (Obj.isFreed_of_dict (Obj.data_mapDictKeys hd _)),hc.mapDictKeys _,Obj.data_mapDictKeys hd _,by simp [he,entryOfKey],fun x hx=>?_,?_⟩
  ·rcases aS.mp hx with q | q
   ·exact knd.keeps (lV x q) ho hd (bo ..)
   ·rw [aN.mp q];exact knd.keeps hk ho hd (bo ..)
  ·rw [b7,bC (l₁:=xs.map (·.1))]
   refine⟨hn,by simp,fun b hb c gR e=>?_⟩
   rw [show c=k by simpa using gR]at e
   exact nk (e ▸ hb)
 ·refine aa (wpAny_dictEntries (s:={ s with toks:=s.toks+knd.draws k }) ho hd ?_)
  rw [entry_at he j,hj]
  exact aa (fh (ai (h1 j p hj)))
theorem Y7m {y:Value}{Q:VS9} (hu:knd.room A.in1) (hs:(d==sysModules)=false) (hk:knd.is s.heap k a) (D:s.heap.DictOfH knd d xs) (z:xs.length<=sizeLine)
  (h1:∀(j:Nat) (p:Addr×Value),xs[j]?=some (k,p)->Q p.2 { s with toks:=s.toks+knd.draws k })
  (h2:k∉xs.map (·.1)->∀h',h'.DictOfH knd d (xs++[(k,a,y)])->Heap.SameBut d s.heap h'->Q y { s with heap:=h',toks:=s.toks+knd.draws k }):wpAny (model P w) A (call (.builtin "dict.setdefault") [.ref d,.ref a,y]) Q E s:=by
 refine bE dI D.typeIs PySem.F.entry_dict_setdefault ?_ (PySem.F.args_dict_setdefault_3 _ _ _)
 unfold Builtin.«dict.setdefault» Builtin.Dict.keyAndDefault
 refine aa (aa (wpAny_notOrdered_dict D.typeIs ?_))
 change wpAny (model P w) A.in1 (pure (d,Value.ref a,some y)) _ _ s
 refine ai (?_:wpAny (model P w) A.in1 (if (d==sysModules)=true then _ else(dictSetDefault d (.ref a) y>>=fun r=>ret r)) _ _ s)
 rw [aH (by rw [hs];decide)]
 exact aa (W7q hu hk D z (fun j p hj=>ai ⟨_,rfl,h1 j p hj⟩) fun n h' D' sb=>ai ⟨_,rfl,h2 n h' D' sb⟩)
theorem Y7e {Q:VS9} (hs:(d==sysModules)=false) (D:s.heap.DictOfH knd d xs) (z:xs.length<=sizeLine) (h:∀t t',Q (.int xs.length t) { s with toks:=t' }):wpAny (model P w) A (call (.builtin "len") [.ref d]) Q E s:=by
 have sd:((xs.length:Nat):Int)<2 ^ 63:=by rw [sizeLine_eq]at z;omega
 refine Calls.call_function_entry kind_len plain_len entry_len (args_len1 (Value.ref d)) ?_
 unfold Builtin.«len»
 refine aa (m:=oneArg "len" _) (ai (aa (m:=callSpecial? (.ref d) (Str.ofString "__len__")) ?_))
 have hT:=D.typeIs
 obtain⟨o,es,ep,ho,hc,hd,he,lV,hn⟩:=D
 have rh:es.size=xs.length:=size_of_entries he
 refine bB (name:=Str.ofString "__len__") hT PySem.F.slot_dict_len (bE PySem.F.slot_dict_len hT PySem.F.entry_dict_len ?_ (PySem.F.args_dict_len_1 _))
 change wpAny (model P w) _ (dictSize d>>=_) _ _ s
 unfold dictSize
 refine aa (aa (wpAny_dictEntries ho hd (ai (aa (wpAny_pendingCount_other hs (aa (wpAny_mkInt (ai ⟨_,rfl,?_⟩))))))))
 refine aa (bz (ai (aa (wpAny_letGo ?_))))
 rw [Nat.add_zero,rh]
 rw [aH (by omega),aH (by omega)]
 exact aa (wpAny_mkInt (ai ⟨_,rfl,h _ _⟩))
end
noncomputable def O9:Nat->D->Bool
 | _,.non=>true
 | _,.int _=>true
 | _,.str _=>true
 | n+1,.tup ks=>ks.all (O9 n)
 | _,_=>false
def GDh (P:Program) (w:World) (p:Addr) (ks:List (D×Addr)) (h:Heap):Prop :=
 (p==sysModules)=false/\ks.length<=sizeLine/\∃xs:List (D×Addr×Value),xs.map (fun x=>(x.1,x.2.1))=ks/\(∀(i:Nat) x,xs[i]?=some x->∃t,x.2.2=.int i t) /\
  ∃o es ep,h.get? p=some o/\o.ExactDict/\o.data=.dict es ep/\es.toList=xs.map (entryOfKey (Z1r P w))/\(xs.map (·.1)).Nodup
noncomputable def gD (X:Cx) (p:Addr) (ks:List (D×Addr)):HO:=.ext (GDh X.prog X.w p ks)
section
variable {P:Program}{w:World}{H:Hp}{h h':Heap}{p:Addr}{ks:List (D×Addr)}{K:Fg9}
theorem GDh.ok (g:GDh P w p ks h):F5 P w H h p (.ext (GDh P w p ks)):=by
 obtain⟨o,e⟩:∃o,h.get? p=some o:=by obtain⟨_,_,_,_,_,o,_,_,e,_⟩:=g;exact⟨o,e⟩
 refine⟨g,⟨o,e⟩,fun h1 h2 ⟨a,b,xs,c,d,o,es,ep,e,r⟩ k=>⟨a,b,xs,c,d,o,es,ep,k _ e,r⟩⟩
theorem Y5n (ok:F1 P w H h) {n:Nat} (ih:∀(d:D) (v:V) (u:Value),O9 n d=true->A1 K H d v->B9 v u->F6 h n d u) :
  ∀(ds:List D) (vs:List V) (us:List Value),ds.all (O9 n)=true->AllS K H ds vs->B4 vs us->Q2 (F6 h n) ds us
 | [],vs,us,_,al,r=>by
  unfold AllS at al;subst al
  cases r;exact rfl
 | d::ds,vs,us,hk,al,r=>by
  unfold AllS at al
  obtain⟨v,t,rfl,i,al⟩:=al
  cases r with
  | cons r1 r2 =>
   rw [List.all_cons,cj]at hk
   exact⟨_,_,rfl,ih d v _ hk.1 i r1,Y5n ok ih ds t _ hk.2 al r2⟩
theorem Z9c (ok:F1 P w H h):∀(n:Nat) (d:D) (v:V) (u:Value),O9 n d=true->A1 K H d v->B9 v u->F6 h n d u:=by
 have flat:∀(n:Nat) (d:D) (v:V) (u:Value),(∀ks,d≠.tup ks)->O9 n d=true->A1 K H d v->B9 v u->F6 h n d u:=by
  intro n d v u nt hk i r
  cases d with
  | tup ks=>exact absurd rfl (nt ks)
  | non=>unfold A1 at i;subst i;cases (show u=.none from r);cases n <;> exact rfl
  | bl b=>cases n <;> cases hk
  | lst b=>cases n <;> cases hk
  | int j=>unfold A1 at i;subst i;obtain⟨t,rfl⟩:=(show ∃t,u=Value.int j t from r);cases n <;> exact⟨t,rfl⟩
  | str j=>unfold A1 at i;subst i;obtain⟨t,rfl⟩:=(show ∃t,u=Value.str j t from r);cases n <;> exact⟨t,rfl⟩
 intro n
 induction n with
 | zero =>
  intro d v u hk i r
  cases d with
  | tup ks=>cases hk
  | _=>exact flat 0 _ v u (by intro ks e;cases e) hk i r
 | succ n ih =>
  intro d v u hk i r
  cases d with
  | tup ks =>
   unfold A1 at i
   obtain⟨a,xs,rfl,e,al⟩:=i
   cases (show u=Value.ref a from r)
   obtain⟨_,aU,rv,t⟩:=(show F5 P w H h a (.tup xs)from ok a _ e)
   exact⟨a,aU.toArray,rfl,t,by simpa using Y5n ok ih ks xs aU hk al rv⟩
  | _=>exact flat (n+1) _ v u (by intro ks e;cases e) hk i r
theorem GDh.dict (ok:F1 P w H h) (g:GDh P w p ks h) (hk:∀x∈ks,O9 8 x.1=true/\A1 K H x.1 (.ref x.2)) :
  ∃xs:List (D×Addr×Value),xs.map (fun x=>(x.1,x.2.1))=ks/\(∀(i:Nat) x,xs[i]?=some x->∃t,x.2.2=.int i t)/\h.DictOfH (Z1r P w) p xs:=by
 obtain⟨_,_,xs,e,iv,o,es,ep,h1,h2,h3,h4,h5⟩:=g
 refine⟨xs,e,iv,o,es,ep,h1,h2,h3,h4,fun x hx=>?_,h5⟩
 obtain⟨k1,k2⟩:=hk (x.1,x.2.1) (by rw [<- e];exact au.mpr ⟨x,hx,rfl⟩)
 exact Z9c ok 8 _ _ _ k1 k2 rfl
end
section
variable {X:Cx}{ac:Pn9} {σ:St}{H:Hp}{s:Shared}{p:Addr}
theorem Y7d:Q1e X (.builtin "len") (fun xs H Q=>∃p ks,xs=[V.ref p]/\H p=some (gD X p ks)/\(∀x∈ks,O9 8 x.1=true/\A1 X.K H x.1 (.ref x.2))/\Q (.int ks.length) H):=by
 intro ac s σ H xs us Q I r ⟨p,ks,e,hp,hk,q⟩
 subst e
 obtain⟨u,rfl,ru⟩:=T9 r
 cases ru
 have g:GDh X.prog X.w p ks s.heap:=(I.hok p _ hp).1
 obtain⟨xs,e,iv,D⟩:=g.dict I.hok hk
 have el:xs.length=ks.length:=by rw [<- e,ah]
 refine Y7e g.1 D (by rw [el];exact g.2.1) fun t t'=>⟨.int ks.length,H,I.tok _,⟨t,by rw [el]⟩,q⟩
theorem Y9f {u:HO}{o:Obj}{H':Hp} (I:A0 X ac σ (upd H p u) s) (hn:H p=none) (nt:∀xs,u≠.tup xs) (nf:∀o v,u≠.frz o v) (no:∀y,¬ Q6w y u) (nb:∀ps,u≠.tbl ps) (e:s.heap.get? p=some o) (d:∀v,o.data≠.cell v) :
  A0 X ((p,o)::ac) σ H s:=by
 have at_:upd H p u p=some u:=upd_same
 have back:∀b v,H b=some v->upd H p u b=some v:=fun b v q=>by rw [A9 (U3 q hn)];exact q
 have eE:∀b,upd H p u b=none->H b=none/\b≠p:=fun b q=>by
  by_cases z:b=p
  ·subst z;rw [upd_same]at q;cases q
  ·rw [A9 z]at q;exact⟨q,z⟩
 have pL:p≠X.env.locals:=fun z=>by have:=I.free;rw [<- z,upd_same]at this;cases this
 have pF:p∉X.fs:=fun z=>by
  obtain⟨_,o,ho,_⟩:=I.ok.funs.mem z
  have:=I.base.free p o ho (I.ok.frf p z) fun w=>I.ok.exfs p w z
  rw [upd_same]at this;cases this
 refine⟨I.ok,I.os,I.bare,⟨I.base.keep,I.base.slot,fun b o q n x=>(eE b (I.base.free b o q n x)).1,I.base.there,fun b xs q=>?_,fun b o v q=>?_,fun b ps q=>?_⟩,I.loc,I.cell,(eE _ I.free).1,fun x c q=>(eE _ (I.freeC x c q)).1,fun a ha=>?_,fun b v q=>?_,I.len⟩
 ·have r:=I.base.tups b xs q
  by_cases z:b=p
  ·subst z;rw [upd_same]at r;cases r;exact absurd rfl (nt _)
  ·rw [A9 z]at r;exact r
 ·have r:=I.base.frzs b o v q
  by_cases z:b=p
  ·subst z;rw [upd_same]at r;cases r;exact absurd rfl (nf _ _)
  ·rw [A9 z]at r;exact r
 ·obtain⟨more,r⟩:=I.base.tbls b ps q
  by_cases z:b=p
  ·subst z;rw [upd_same]at r;cases r;exact absurd rfl (nb _)
  ·rw [A9 z]at r;exact⟨more,r⟩
 ·rcases aS.mp ha with z | z
  ·obtain⟨a1,a2,a3⟩:=I.pin a (bf _ z)
   exact⟨a1,(eE _ a2).1,a3⟩
  ·rcases aq.mp z with z | z
   ·subst z;exact⟨e,hn,pL,pF,d⟩
   ·obtain⟨a1,a2,a3⟩:=I.pin a (av _ z)
    exact⟨a1,(eE _ a2).1,a3⟩
 ·refine(I.hok b v (back b v q)).stay (fun c v _ r=>r) (fun c v ow r=>?_) fun c xs r=>?_
  ·by_cases z:c=p
   ·subst z;rw [upd_same]at r;cases r;exact absurd ow (no _)
   ·rw [A9 z]at r;exact r
  ·by_cases z:c=p
   ·subst z;rw [upd_same]at r;cases r;exact absurd rfl (nt _)
   ·rw [A9 z]at r;exact r
theorem Z1z {u:HO} (I:A0 X ac σ H s) (hn:H p=none) (hx:p∈X.ex\/X.s₀.heap.objs.size<=p) (hL:p≠X.env.locals) (hc:∀x c,X.env.cells.lookup x=some c->c≠p) (hp:∀a∈X.pn++ac,a.1≠p) (new:F5 X.prog X.w (upd H p u) s.heap p u) :
  A0 X ac σ (upd H p u) s:=by
 have keep:∀b v,H b=some v->upd H p u b=some v:=fun b v q=>by rw [A9 (U3 q hn)];exact q
 refine⟨I.ok,I.os,I.bare,⟨I.base.keep,I.base.slot,fun b o q n x=>?_,I.base.there,fun b xs q=>keep _ _ (I.base.tups b xs q),fun b o v q=>keep _ _ (I.base.frzs b o v q),fun b ps q=>let ⟨more,r⟩:=I.base.tbls b ps q;⟨more,keep _ _ r⟩⟩,
  I.loc,I.cell,by rw [A9 (bt hL)];exact I.free,fun x c q=>by rw [A9 (hc x c q)];exact I.freeC x c q,fun a ha=>?_,fun b v q=>?_,I.len⟩
 ·refine(A9 (fun z=>?_)).trans (I.base.free b o q n x)
  rcases hx with hx | hx
  ·exact x (by rw [z];exact hx)
  ·rw [z]at q;exact absurd (ay q) (Nat.not_lt.mpr hx)
 ·obtain⟨a1,a2,a3⟩:=I.pin a ha
  exact⟨a1,by rw [A9 (hp a ha)];exact a2,a3⟩
 ·by_cases z:b=p
  ·subst z;rw [upd_same]at q;cases q;exact new
  ·rw [A9 z]at q
   exact(I.hok b v q).stay (fun _ _ _ r=>r) (fun c v _ r=>keep _ _ r) fun c xs r=>keep _ _ r
end
noncomputable def Q7 (ks:List D) (d:D):List D:=if d∈ks then ks else ks++[d]
noncomputable def Z1:List D->List D->List Int
 | _,[]=>[]
 | ks,d::r=>((ks.idxOf d:Nat):Int)::Z1 (Q7 ks d) r
theorem Y8x {ks:List D} (hn:ks.Nodup) {j:Nat}{d:D} (e:ks[j]?=some d):ks.idxOf d=j:=by
 obtain⟨hj,e⟩:=aL.mp e
 subst e
 exact hn.idxOf_getElem j hj
section
variable {X:Cx}{o e x':Expr}{apos bi q3 q5:Pos}{i j:Nat}
def Z4b (X:Cx) (i j:Nat):TE:=fun σ H Q=>∃p ks d a,σ[i]?=some (some (V.ref p))/\H p=some (gD X p ks)/\σ[j]?=some (some (V.ref a))/\A1 X.K H d (.ref a)/\O9 8 d=true/\(∀x∈ks,O9 8 x.1=true/\A1 X.K H x.1 (.ref x.2))/\ks.length<sizeLine /\
 (d∈ks.map (·.1)->Q (.int ((ks.map (·.1)).idxOf d:Nat)) H)/\(d∉ks.map (·.1)->Q (.int ks.length) (upd H p (gD X p (ks++[(d,a)]))))
theorem W3v (hu:X.A.units+9<cLine) (ho:PE X o (J8 i)) (he:PE X e (J8 j)) (hg:Gl X "len") (hm:X.mg "len"=none) (hx:PE X x' (J8 i)) (m:M2 X o "setdefault" apos e (.Call (.Name "len" q3) [x'] [] q5) bi)
  (hs:starEach [x'] X.env=(false,eval x' X.env)::starEach [] X.env:=by rfl) :
  PE X (.Call (.Attribute o "setdefault" apos) [e,.Call (.Name "len" q3) [x'] [] q5] [] bi) (Z4b X i j):=by
 intro ac s σ H Q I ⟨p,ks,d,a,hp,Hp,ha,ia,kd,hk,hz,q1,q2⟩
 refine wpAny_Call_method m.base m.few m.line PySem.F.plainAttrs_dict dI PySem.F.type_dict_setdefault (B3 (ho ac s σ H (fun v H1=>v=.ref p/\H1=H) I ⟨_,hp,rfl,rfl⟩) fun u s1 br=>?_)
 obtain⟨v,H1,I1,rv,ev,eH⟩:=br
 subst ev eH
 obtain rfl:u=Value.ref p:=rv
 have g1:GDh X.prog X.w p ks s1.heap:=(I1.hok p _ Hp).1
 obtain⟨_,_,_,D1⟩:=g1.dict I1.hok hk
 refine⟨D1.typeIs,fun b eb=>?_,?_⟩
 ·cases eb
  obtain⟨ob,_,_,h1,h2,_⟩:=D1
  exact⟨ob,h1,h2.2.1⟩
 rw [m.trees]
 have bI:PE X (.Call (.Name "len" q3) [x'] [] q5) _:=Z3e Y7d hg hm rfl (Q0k hx Q1r hs) (he:=hs)
 refine eg rfl (de (bT (B3 (he ac s1 σ H1 (fun v H2=>v=.ref a/\H2=H1) I1 ⟨_,ha,rfl,rfl⟩) fun iv s2 ⟨y,H2,I2,ry,ey,eH⟩ =>
  bT (B3 (bI ac s2 σ H2 (fun v H3=>v=.int ks.length/\H3=H2) I2 ⟨_,hp,p,ks,rfl,by rw [eH];exact Hp,by rw [eH];exact hk,rfl,rfl⟩) fun fv s3 ⟨z,H3,I3,rz,ez,rA⟩=>cR ?_))))
 subst ey eH ez rA
 obtain rfl:iv=Value.ref a:=ry
 obtain⟨tz,rfl⟩:∃t,fv=Value.int ks.length t:=rz
 have g3:GDh X.prog X.w p ks s3.heap:=(I3.hok p _ Hp).1
 obtain⟨xs,ex,iv,D3⟩:=g3.dict I3.hok hk
 have mv:xs.map (·.1)=ks.map (·.1):=by rw [<- ex,aO];rfl
 have el:xs.length=ks.length:=by rw [<- ex,ah]
 have nd:(ks.map (·.1)).Nodup:=by obtain⟨_,_,_,_,_,_,_,_,n⟩:=id D3;rw [<- mv];exact n
 refine Y7m (knd:=Z1r X.prog X.w) (show X.A.in1.units+8<cLine by simp only [bQ];omega) g3.1 (Z9c I3.hok 8 _ _ _ kd ia rfl) D3 (by rw [el];exact g3.2.1) (fun jj pp hj=>?_) fun iZ h' D' sb=>?_
 ·obtain⟨t,et⟩:=iv jj _ hj
  have ek:(ks.map (·.1))[jj]?=some d:=by rw [<- mv,ak,hj];rfl
  have ei:(ks.map (·.1)).idxOf d=jj:=Y8x nd ek
  refine⟨.int ((ks.map (·.1)).idxOf d:Nat),H3,I3.tok _,⟨t,by rw [ei];exact et⟩,q1 (aE ek)⟩
 ·rw [mv]at iZ
  refine⟨.int ks.length,_,?_,⟨tz,rfl⟩,q2 iZ⟩
  obtain⟨o',es,ep,h1,h2,h3,h4,h5,h6⟩:=D'
  refine Q2c I3 (by rw [Hp];exact True.intro) sb ⟨o',h1⟩ (GDh.ok ⟨g3.1,by rw [aD];show ks.length+1<=_;omega,xs++[(d,a,Value.int ks.length tz)],by rw [b7,ex];rfl,fun n x hx=>?_,o',es,ep,h1,h2,h3,h4,h6⟩)
  by_cases hn:n<xs.length
  ·rw [aI hn]at hx
   exact iv n x hx
  ·rw [aQ (by omega)]at hx
   have e0:n-xs.length=0:=by
    rcases Nat.eq_zero_or_pos (n-xs.length)with z | z
    ·exact z
    ·rw [cr (show [(d,a,Value.int ks.length tz)].length<=n-xs.length from z)]at hx;cases hx
   rw [e0]at hx
   cases hx
   have:n=ks.length:=by omega
   subst this
   exact⟨tz,rfl⟩
theorem W3k {pos:Pos}:PE X (.Dict [] [] pos) (fun σ H Q=>∀p,H p=none->X.s₀.heap.objs.size<=p->Q (.ref p) (upd H p (gD X p []))):=by
 intro ac s σ H Q I h
 refine wpAny_Dict_empty ⟨.ref s.heap.objs.size,_,I.laid (a:=s.heap.objs.size) (o:=gD X s.heap.objs.size []) (t':=s.toks) (fun _ _ q=>ae _ q) (aj _) (GDh.ok ?_),rfl,h _ (I.hok.fresh (aj _)) I.sz⟩
 exact⟨bL.mpr (bt (aB I.big)),ba _,[],rfl,by intro i x e;simp at e,_,#[],0,aF _ rfl,⟨rfl,rfl,rfl⟩,rfl,rfl,jq⟩
end
section
variable {X:Cx}{H0:Hp}{mk x:Str}{iter:Expr}{scope:Scope}{pos p1 o1 o2 o3 apos bi q3 q5:Pos}{i:Nat}{wi:M6}
noncomputable abbrev Q6f (mk x:Str) (o1 o2 o3 apos bi q3 q5:Pos):Expr:=.Call (.Attribute (.Name x o1) "setdefault" apos) [.Name mk o2,.Call (.Name "len" q3) [.Name x o3] [] q5] [] bi
def W8s (X:Cx) (H0:Hp) (i:Nat) (wi:M6):TE:=fun σ H Q=>∃p H1 τ,σ[i]?=some (some (V.ref p))/\H=upd H1 p (gD X p [])/\H1 p=none/\X.s₀.heap.objs.size<=p/\B6 X.K H0 τ σ H1 /\
 wi τ fun ds=>ds.length<=sizeLine/\(∀d∈ds,O9 8 d=true/\∃l,d=.tup l)/\∀v H',A3 H1 H'->E1 X.K H1 H' (.nw ((Z1 [] ds).map .int)) v->Q v H'
theorem W3r (hc:X.calm=true) (hu:X.A.units+9<cLine) (B:G7 X scope [mk,x] 1 [i]) (hi:D7 X H0 (.Name mk p1) iter wi)
  (hg:∀C s H fp,PG (blk X scope C s H fp [mk,x]) (.Name mk p1) (Q7o 0)) (he:∀C s H fp,PE (blk X scope C s H fp [mk,x]) (Q6f mk x o1 o2 o3 apos bi q3 q5) (Z4b X 1 0)) (hs:∀x,foldedSetIterable iter X.env x=pure x:=by intro _;rfl) :
  PE X (.ListComp (Q6f mk x o1 o2 o3 apos bi q3 q5) [⟨.Name mk p1,iter,[],0⟩] scope pos) (W8s X H0 i wi):=by
 intro ac s σ H Q I0 ⟨p,H1,τ,hσ,eH,hn1,gq,hR,hw⟩
 subst eH
 rw [eval_ListComp]
 have g0:GDh X.prog X.w p [] s.heap:=(I0.hok p _ upd_same).1
 obtain⟨op,nB,m6⟩:∃o,s.heap.get? p=some o/\∀v,o.data≠.cell v:=by
  obtain⟨_,_,_,_,_,o,es,ep,e,_,d,_⟩:=id g0
  exact⟨o,e,fun v z=>by rw [d]at z;cases z⟩
 have I:=Y9f I0 hn1 (by intro xs z;cases z) (by intro o v z;cases z) (by intro y z;rcases z with z | ⟨_,z⟩ <;> cases z) (by intro ps z;cases z) nB m6 (H':=H1)
 have pc:∀x c,X.env.cells.lookup x=some c->c≠p:=fun x c q z=>by have:=I0.freeC x c q;rw [z,upd_same]at this;cases this
 have pp:∀a∈X.pn++ac,a.1≠p:=fun a ha z=>by have:=(I0.pin a ha).2.1;rw [z,upd_same]at this;cases this
 refine wpAny_comprehension_free rfl hs (Q7l fun y hy e=>I.ok.has y.1 (B.free y hy e)) B.kind B.names ?_
 refine B3 (hi.pi ((p,op)::ac) s σ H1 (fun J H2=>A3 H1 H2/\∃ds,YlS X.K J ds H2/\ds.length<=sizeLine/\(∀d∈ds,O9 8 d=true/\∃l,d=.tup l)/\∀v H',A3 H1 H'->E1 X.K H1 H' (.nw ((Z1 [] ds).map .int)) v->Q v H') I
  ⟨τ,hR,hi.mono τ _ _ (fun ds h J H' sm yl=>⟨sm,ds,yl,h⟩) hw⟩) fun v s1 h1=>B3 h1 fun ic s2 h2=>?_
 obtain⟨it,gY,tn,J,H2,e,mK,T,dG,nT,cM,ds,yl,hz,qq,hq⟩:=h2
 subst e
 obtain⟨jk,gN,pY,pZ,_⟩:=mK.pin (p,op) (av _ ao)
 have I2:A0 X ac σ H2 s2:=mK.pins_of fun a ha=>mK.pin a (av _ (ar _ ha))
 have nS:∀b∈gY,J9 X ac H2 b:=fun b hb=>by
  obtain⟨a1,a2,a3,a4,a5,a6⟩:=nT b hb
  exact⟨a1,a2,a3,a4,a5,fun a ha=>a6 a (by rcases aS.mp ha with z | z;exact bf _ z;exact av _ (ar _ z))⟩
 have oW:∀b∈gY,b≠p:=fun b hb z=>(nT b hb).2.2.2.2.2 (p,op) (av _ ao) z.symm
 have r9:J9 X ac H2 p:=⟨gN,pY,pZ,.inr gq,pc,pp⟩
 generalize hfpe:p::gY=fp
 have eO:p∈fp:=by rw [<- hfpe];exact ao
 have fO:∀b∈gY,b∈fp:=fun b hb=>by rw [<- hfpe];exact ar _ hb
 have f2:∀b∈fp,J9 X ac H2 b:=fun b hb=>by
  rw [<- hfpe]at hb
  rcases aq.mp hb with z | z
  ·rw [z];exact r9
  ·exact nS b z
 have eS:∀b∈fp,b<s2.heap.objs.size:=fun b hb=>by
  rw [<- hfpe]at hb
  rcases aq.mp hb with z | z
  ·rw [z];exact ay jk
  ·obtain⟨o,ho,_⟩:=T.obj _ _ dG b z
   exact ay ho
 refine bb (fJ B.cell (by intro y hy;simp at hy) (fun h₁ cC cp=>?_) B.kind)
 dsimp only at cC cp ⊢
 generalize hH2:s2.heap.push { cls:=.type "list",dict:=none,data:=.seq ([]:List Value).toArray }=Hq at cC cp ⊢
 have hC:Hq.objs.size=s2.heap.objs.size+1:=by rw [<- hH2,bv]
 have cE:s2.heap.objs.size≠Hq.objs.size:=by rw [hC];exact aB (cf _)
 have cm:s2.heap.objs.size<=Hq.objs.size:=by rw [hC];exact cx _
 have old:∀b o,s2.heap.get? b=some o->h₁.get? b=some o:=fun b o e=>cp.extBut b o (by rw [hC];exact aB (be (ay e))) (ae _ (hH2 ▸ ae _ e))
 have dl:h₁.PlainList s2.heap.objs.size #[]:=⟨_,cp.extBut _ _ cE (ae _ (hH2 ▸ aF _ rfl))⟩
 generalize hCe:Hq.objs.size=C at cC cp hC cE cm ⊢
 generalize hDe:s2.heap.objs.size=D0 at hC cE cm dl ⊢
 have cL:∀b∈fp,b<D0:=fun b hb=>hDe ▸ eS b hb
 have dB:tn 0 h₁:=T.keep _ _ _ dG fun b _ o e=>old b o e
 have jd:=Q7h (C:=C) (h':=h₁) (t':=s2.toks+([]:List (Str×Value)).length) I2 B f2 eS (by rw [hDe];exact cm) cC old
 have q0:p≠C:=aB (az (cL p eO) cm)
 have fH:H2 D0=none:=I2.hok.fresh (by rw [hDe];exact aj _)
 have nR:D0≠p:=fun z=>by have:=cL p eO;rw [z]at this;exact aT _ this
 have p6:∀x c,(Q4 X.env scope.names []).lookup x=some c->c≠p:=fun x c h=>pc x c (U0 I2 B h)
 have rL:=Z1z jd (p:=p) (u:=gD X p []) gN (.inl eO) q0 p6 (by intro a ha;simp [blk]at ha) (by
  obtain⟨a,b,xs,c,d,o,es,ep,e,r⟩:=id g0
  have eo:o=op:=by rw [nB]at e;exact(aC e).symm
  subst eo
  exact GDh.ok ⟨a,b,xs,c,d,o,es,ep,old _ _ jk,r⟩)
 have iP:D0∉frs X.stack:=fun z=>by
  rcases aq.mp (I2.stkSub _ z)with e | e
  ·have:=I2.lt;rw [<- e,hDe]at this;exact aT _ this
  ·exact I2.nofs (by rw [hDe];exact aj _) e
 have iQ:∀x c,(Q4 X.env scope.names []).lookup x=some c->c≠D0:=fun x c h z=>by
  obtain⟨v,q⟩:=I2.cell x c (U0 I2 B h)
  have:=q.lt
  rw [z,hDe]at this
  exact aT _ this
 have dA:∀{pb:Pn9} {σ':St}{H':Hp}{s':Shared}{ys:Array Value}{n:Nat},A0 (blk X scope C s2 H2 fp [mk,x]) pb σ' H' s'->H' D0=none->s'.heap.get? D0=some { cls:=.type "list",data:=.seq ys n } ->
   A0 (blk X scope C s2 H2 fp [mk,x]) [(D0,{ cls:=.type "list",data:=.seq ys n })] σ' H' s':=by
  intro pb σ' H' s' ys n I' n' e
  refine I'.pins_of fun a hp=>?_
  have e':a=(D0,{ cls:=.type "list",data:=.seq ys n }):=by simpa using hp
  subst e'
  exact⟨e,n',cE,iP,fun v z=>by cases z⟩
 have eV:∀{H':Hp}{ob:Obj},(∀b∈gY,H' b=none)->∀b∈gY,J9 (blk X scope C s2 H2 fp [mk,x]) [(D0,ob)] H' b:=by
  intro H' ob hn b hb
  have fu:=fO b hb
  refine⟨hn b hb,(aB (az (cL b fu) cm)),fun z=>?_,.inl fu,fun x c h=>(f2 b fu).2.2.2.2.1 x c (U0 I2 B h),fun a hp=>?_⟩
  ·rcases aq.mp (I2.stkSub b z)with e | e
   ·exact(f2 b fu).2.1 e
   ·exact(f2 b fu).2.2.1 e
  ·have e':a=(D0,ob):=by simpa [blk]using hp
   subst e'
   exact(aB (cL b fu)).symm
 let iH:Nat->Shared->Prop:=fun k s'=>∃(n:Nat) (σ':St) (H':Hp) (ks:List (D×Addr)) (ys:Array Value) (nn:Nat) (vs:List V) (es:List Int),A0 (blk X scope C s2 H2 fp [mk,x]) [(D0,{ cls:=.type "list",data:=.seq ys nn })] σ' H' s'/\σ'[1]?=some (some (V.ref p))/\A3 H2 H'/\tn n s'.heap /\
  (∀b∈gY,H' b=none)/\H' D0=none/\H' p=some (gD X p ks)/\(∀y∈ks,O9 8 y.1=true/\A1 X.K H' y.1 (.ref y.2))/\ks.length<=n/\B4 vs ys.toList/\vs=es.map V.int/\n<=ds.length/\k=ds.length-n/\es.length=n/\es++Z1 (ks.map (·.1)) (ds.drop n)=Z1 [] ds
 have loop:∀s₃:Shared,s₃={ s2 with heap:=h₁,toks:=s2.toks+([]:List (Str×Value)).length } ->
   codeAny (model X.prog X.w) X.A (.compLoop (.ListComp (Q6f mk x o1 o2 o3 apos bi q3 q5) [⟨.Name mk p1,iter,[],0⟩] scope pos) 0 (.ref it) (.ref D0) (compEnvC scope (Q4 X.env scope.names []) C X.env))
    (compPost (model X.prog X.w) X.A X.xe none (EP X ac σ Q) (.ref D0) C) s₃:=by
  rintro s₃ rfl
  obtain⟨nn,ho⟩:=id dl
  refine Z1g iH ?_ ds.length ⟨0,_,upd H2 p (gD X p []),[],#[],nn,[],[],dA rL (by rw [A9 nR];exact fH) ho,(by show([none]++[(σ[i]?).join]:St)[1]?=_;rw [hσ];rfl),C8 gN _,dB,fun b hb=>by rw [A9 (oW b hb)];exact(nS b hb).1,by rw [A9 nR];exact fH,upd_same,(by intro y hy;cases hy),aj _,.nil,rfl,ba _,rfl,rfl,by simp⟩
  rintro k s3 ⟨n,σ3,H3,ks,ys,nn,vs,es,I3,nj,iK,eJ,fg,d3,q9,nC,rY,i5,kJ,rU,rfl,io,w3⟩
  by_cases bR:n<ds.length
  ·refine aR (T.item (blk X scope C s2 H2 fp [mk,x]) rfl rfl rfl hc n _ s3 σ3 H3 (fun _ _=>False) I3 (eV fg) eJ (yl.go H3 iK n bR)) (fun r s4 br=>?_) fun _ _ z=>z
   obtain⟨u,hr,h4⟩:=br
   subst hr
   refine aR h4 (fun _ s5 br=>?_) fun _ _ z=>z
   obtain⟨v5,H5,I5,r5,y5,dF,gX⟩:=br
   obtain⟨fB,ix⟩:=yl.yld H3 iK n v5 H5 _ (af bR) y5
   rw [cD bR]at w3
   have h8:=I5.pinned (eV gX) (T.obj _ _ dF)
   obtain⟨kd,l,ed⟩:=qq ds[n] (bG bR)
   obtain⟨a5,e5⟩:∃a,v5=.ref a:=by
    have n9:A1 X.K H5 (.tup l) v5:=ed ▸ ix
    unfold A1 at n9
    obtain⟨a,_,e,_⟩:=n9
    exact⟨a,e⟩
   subst e5
   refine aR (hg C s2 H2 fp _ s5 σ3 H5 (.ref a5) u (fun σ6 H6=>σ6=σ3.set 0 (some (.ref a5))/\H6=H5) h8 r5 ⟨rfl,rfl⟩) (fun _ s6 br=>?_) fun _ _ z=>z
   obtain⟨σ6,H6,I6,e6,rq⟩:=br
   subst e6 rq
   refine wpAny_tests_nil ?_
   rw [aJ rfl]
   have rX:σ3.length=2:=I3.len
   have lL:H6 p=some (gD X p ks):=fB _ _ q9
   have kF:∀y∈ks,O9 8 y.1=true/\A1 X.K H6 y.1 (.ref y.2):=fun y hy=>⟨(nC y hy).1,(nC y hy).2.mono (Kp.of fB) _ _⟩
   let R7:V->Hp->Prop:=fun v H7=>∃ib,H7 p=some (gD X p ib)/\(∀y∈ib,O9 8 y.1=true/\A1 X.K H7 y.1 (.ref y.2))/\ib.length<=n+1/\(∀b u,b≠p->H6 b=some u->H7 b=some u)/\Kp H6 H7/\v=.int (((ks.map (·.1)).idxOf ds[n]:Nat):Int)/\ib.map (·.1)=Q7 (ks.map (·.1)) ds[n]
   refine aR (he C s2 H2 fp _ s6 _ H6 R7 I6 ⟨p,ks,ds[n],a5,by rw [aG (by decide)];exact nj,lL,by rw [aY (by omega)],ix,kd,kF,by omega,fun jR=>?_,fun iZ=>?_⟩) (fun y s8 ⟨v8,H8,I8,iN,ib,q8,qr,ql,oK,rS,re,rm⟩=>?_) fun _ _ z=>z
   ·exact⟨ks,lL,kF,by omega,fun _ _ _ q=>q,Kp.refl _,rfl,by unfold Q7;rw [aJ jR]⟩
   ·have kp:Kp H6 (upd H6 p (gD X p (ks++[(ds[n],a5)]))):=Kp.updM lL (by intro xs z;cases z) (by intro o u z;cases z) _
    refine⟨ks++[(ds[n],a5)],upd_same,fun y hy=>?_,by rw [aD];show ks.length+1<=_;omega,fun b u hb q=>by rw [A9 hb];exact q,kp,?_,?_⟩
    ·rcases aS.mp hy with z | z
     ·exact⟨(kF y z).1,(kF y z).2.mono kp _ _⟩
     ·rw [aN.mp z];exact⟨kd,ix.mono kp _ _⟩
    ·rw [List.idxOf_eq_length iZ,ah]
    ·unfold Q7;rw [aH iZ,b7];rfl
   ·have pd:=I8.pin (D0,_) (av _ (bf _ ao))
    obtain⟨o8,d8,_⟩:=pd
    have jG:ys.size<=sizeLine:=by
     have e1:=i5.length
     have e4:ys.toList.length=ys.size:=by simp
     have e5:vs.length=n:=by rw [kJ,ah,io]
     omega
    refine wpAny_list_append_plain (hsz:=jG) ⟨nn,o8⟩ fun h₅ jL iU=>?_
    have ko:A0 (blk X scope C s2 H2 fp [mk,x]) (T7 gY s5.heap) (σ3.set 0 (some (.ref a5))) H8 s8:=I8.pins_of fun a ha=>I8.pin a (av _ (av _ ha))
    have I9:A0 (blk X scope C s2 H2 fp [mk,x]) (T7 gY s5.heap) (σ3.set 0 (some (.ref a5))) H8 { s8 with heap:=h₅ }:=by
     refine ko.turned (t':=s8.toks) (it:=D0) (fun b o hb e=>(iU.2 b hb).trans e) d8 cE (.inr (by rw [<- hDe];exact aj _)) iQ (fun a hp z=>?_)
     obtain⟨q1,_⟩:=Q6h (by simpa [blk]using hp)
     exact aB (cL _ (fO _ q1)) z
    obtain⟨jB,o9⟩:=jL
    have ju:tn (n+1) h₅:=T.keep _ _ _ dF fun b hb o e=>(I9.pin (b,o) (av _ (Q0i hb e))).1
    refine⟨ds.length-(n+1),by omega,n+1,_,H8,ib,_,jB,vs++[v8],es++[(((ks.map (·.1)).idxOf ds[n]:Nat):Int)],dA I9 d8 o9,by rw [aG (by decide)];exact nj,fun b u q=>?_,ju,fun b hb=>?_,d8,q8,qr,ql,?_,?_,bR,rfl,by rw [aD,io];rfl,?_⟩
    ·have nb:b≠p:=fun z=>by rw [z,gN]at q;cases q
     exact oK b u nb (fB _ _ (iK _ _ q))
    ·obtain⟨o,e,_⟩:=T.obj _ _ dF b hb
     exact(I9.pin (b,o) (av _ (Q0i hb e))).2.1
    ·have:(ys.push y).toList=ys.toList++[y]:=by simp
     rw [this]
     exact i5.append (.cons iN .nil)
    ·rw [kJ,re,b7];rfl
    ·rw [<- w3,Z1,rm,bK];rfl
  ·have e:n=ds.length:=by omega
   subst e
   refine aR (T.done (blk X scope C s2 H2 fp [mk,x]) rfl rfl rfl hc ds.length _ s3 σ3 H3 (fun _ _=>False) I3 (eV fg) eJ (yl.stop H3 iK)) (fun r s4 br=>?_) fun _ _ z=>z
   obtain⟨hr,I4⟩:=br
   subst hr
   have o4:=(I4.pin (D0,_) (av _ ao)).1
   rw [fM]at w3
   have w3:es++[]=Z1 [] ds:=w3
   rw [bD]at w3
   obtain⟨m4,gP,_⟩:=id I4.loc
   refine⟨m4,gP,fun h' sb=>?_⟩
   have lE:vs.length<=sizeLine:=by rw [kJ,ah,io];exact hz
   refine⟨.ref D0,_,Z1c I2 I4 f2 (by rw [hDe];exact cm) (by rw [hDe];exact aj _) cE d3 ⟨nn,o4⟩ i5 lE sb,rfl,hq _ _ (cM.trans (iK.trans (C8 d3 _))) ⟨D0,vs,rfl,cM.free fH,upd_same,?_⟩⟩
   rw [kJ,<- w3]
   exact AllS.ints
 exact codeAny_compStart_list (loop _ rfl) (T.self _ 0 _ _ _ dB (loop _ rfl))
variable {sp mR dp rp:Pos}
theorem B6.unset {K:Fg9}{H:Hp} {τ:A6} {σ:St} (hR:B6 K H0 τ σ H) (i:Nat) (v:V):B6 K H0 (τ.set i none) (σ.set i (some v)) H:=by
 have at_:∀(j:Nat) (t:Sl),(τ.set i none)[j]?=some (some t)->j≠i/\τ[j]?=some (some t):=fun j t e=>by
  by_cases z:j=i
  ·subst z
   rw [List.getElem?_set_self' ]at e
   cases q:τ[j]? with
   | none=>rw [q]at e;cases e
   | some w=>rw [q]at e;cases e
  ·rw [aG (bt z)]at e;exact⟨z,e⟩
 refine⟨by rw [aZ,aZ];exact hR.len,hR.same,fun j t e=>?_,fun j k t u w cb e2 e3 m1 m2 q1 q2=>?_⟩
 ·obtain⟨z,e⟩:=at_ j t e
  obtain⟨w,q,r⟩:=hR.here j t e
  exact⟨w,by rw [aG (bt z)];exact q,r⟩
 ·obtain⟨z1,e2⟩:=at_ j t e2
  obtain⟨z2,e3⟩:=at_ k u e3
  rw [aG (bt z1)]at q1
  rw [aG (bt z2)]at q2
  exact hR.apart j k t u w cb e2 e3 m1 m2 q1 q2
noncomputable def Z4r (i:Nat) (wi:M6):WS:=fun E τ=>i<τ.length/\wi (τ.set i none) fun ds=>ds.length<=sizeLine/\(∀d∈ds,O9 8 d=true/\∃l,d=.tup l)/\E.rt (.nw ((Z1 [] ds).map .int))
theorem A5.numb (hc:X.calm=true) (hu:X.A.units+9<cLine) (B:G7 X scope [mk,x] 1 [i]) (hi:D7 X H0 (.Name mk p1) iter wi)
  (hg:∀C s H fp,PG (blk X scope C s H fp [mk,x]) (.Name mk p1) (Q7o 0)) (he:∀C s H fp,PE (blk X scope C s H fp [mk,x]) (Q6f mk x o1 o2 o3 apos bi q3 q5) (Z4b X 1 0))
  (hN:X.N.Nodup) (j4:X.N[i]?=some x) (hx:Loc X.env.scope x) (hf:X.fn x=true\/X.env.scope.names.lookup x=some .local:=by first | exact .inl rfl | exact .inr rfl | assumption)
  (hs:∀x,foldedSetIterable iter X.env x=pure x:=by intro _;rfl) (fm:swapsWith (.Dict [] [] dp) (some (.Name x mR)) sp.line X.env=pure false:=by rfl) :
  A5 X H0 [.Assign [.Name x mR] (.Dict [] [] dp) sp,.Return (some (.ListComp (Q6f mk x o1 o2 o3 apos bi q3 q5) [⟨.Name mk p1,iter,[],0⟩] scope pos)) rp] (Z4r i wi) where
 mono:=fun τ E F le h=>⟨h.1,hi.mono _ _ _ (fun ds ⟨a,b,c⟩=>⟨a,b,le.rt _ c⟩) h.2⟩
 ps:=Q8m (Y1l (Q2p hN j4 hx W3k fm hf) (Y1m (Z3h (W3r hc hu B hi hg he hs)))) fun D σ H ⟨τ,hR,h⟩ p hp gq=>by
  have hl:i<σ.length:=by rw [<- hR.len];exact h.1
  refine⟨p,H,τ.set i none,by rw [aY hl],rfl,hp,gq,hR.unset i _,hi.mono _ _ _ (fun ds ⟨a,b,c⟩=>⟨a,b,fun v H' sm ir=>?_⟩) h.2⟩
  exact c v H' (hR.same.trans sm) (ir.older hR.same)
@[simp] theorem W7i {E:E7} {τ:A6}:Z4r i wi E τ=(i<τ.length/\wi (τ.set i none) fun ds=>ds.length<=sizeLine/\(∀d∈ds,O9 8 d=true/\∃l,d=.tup l)/\E.rt (.nw ((Z1 [] ds).map .int))):=rfl
end
noncomputable def M4 (K:Fg9) (a:Addr) (kvs:List (A7×D)):Hp->Prop:=fun H=>∃o ps,H a=some (.frz o (.dK ps))/\B5 K H kvs ps
theorem M4.mono {K:Fg9}{a:Addr}{kvs:List (A7×D)}:Q1y (M4 K a kvs):=fun H H' k ⟨o,ps,h,q⟩=>⟨o,ps,k.frz _ _ _ h,q.mono k _ _⟩
section
variable {X:Cx}{ac:Pn9} {σ:St}{H H0:Hp}{s:Shared}{a:Addr}
theorem Z8p {ps:List (A7×V)} (I:A0 X ac σ H s) (h:H a=some (.dK ps)):∃o,A0 X ac σ (upd H a (.frz o (.dK ps))) s:=by
 have ok:=I.hok a _ h
 obtain⟨_,_,_,_,o,_,_,q,_⟩:=id (show F5 X.prog X.w H s.heap a (.dK ps)from ok)
 refine⟨o,I.write (t':=s.toks) (h':=s.heap) (e:=a) (o:=.frz o (.dK ps)) (by rw [h];trivial) (.inl rfl) (fun b u _ k=>k) ⟨_,q⟩ ⟨q,?_⟩⟩
 exact ok
theorem B6.freezeK {K:Fg9} {τ:A6}{i:Nat}{kvs:List (A7×D)}{o:Obj}{ps:List (A7×V)} (hR:B6 K H0 τ σ H) (e1:τ[i]?=some (some (.dk kvs))) (hv:σ[i]?=some (some (.ref a))) (h0:H0 a=none) (sq:H a=some (.dK ps)) (kv:B5 K H kvs ps) :
  B6 K H0 (τ.set i (some (.cl a (M4 K a kvs)))) σ (upd H a (.frz o (.dK ps))):=by
 have kp:Kp H (upd H a (.frz o (.dK ps))):=Kp.updM sq (by intro xs z;cases z) (by intro o u z;cases z) _
 exact hR.mutG e1 rfl hv h0 sq (by intro xs z;cases z) (by intro o u z;cases z) ⟨rfl,⟨o,ps,upd_same,kv.mono kp _ _⟩,M4.mono⟩
end
section
variable {X:Cx}{H0:Hp}{st:Stmt}{w:WS}
theorem Q3t {t:TS} (h:PS X st t):PS X st (fun D σ H=>t { D with nx:=fun σ' H'=>∀ac s,A0 X ac σ' H' s->∃cW,A0 X ac σ' cW s/\D.nx σ' cW } σ H):=by
 intro ac s σ H D I q
 refine B3 (h ac s σ H _ I q) fun f s1 q1=>?_
 cases f with
 | next =>
  obtain⟨σ',H',I',q2⟩:=q1
  obtain⟨cW,rM,q3⟩:=q2 ac s1 I'
  exact⟨σ',cW,rM,q3⟩
 | brk=>exact q1
 | cont=>exact q1
 | ret v=>exact q1
def Z4i (K:Fg9) (i:Nat) (w:WS):WS:=fun E τ=>w { E with nx:=fun τ'=>∃kvs,τ'[i]?=some (some (.dk kvs))/\∀a,E.nx (τ'.set i (some (.cl a (M4 K a kvs)))) } τ
theorem DS.fzK (i:Nat) (h:DS X H0 st w):DS X H0 st (Z4i X.K i w) where
 mono:=fun τ E F le q=>h.mono τ { E with nx:=fun τ'=>∃kvs,τ'[i]?=some (some (.dk kvs))/\∀a,E.nx (τ'.set i (some (.cl a (M4 X.K a kvs)))) } { F with nx:=fun τ'=>∃kvs,τ'[i]?=some (some (.dk kvs))/\∀a,F.nx (τ'.set i (some (.cl a (M4 X.K a kvs)))) } ⟨fun τ' ⟨kvs,e,q⟩=>⟨kvs,e,fun a=>le.nx _ (q a)⟩,le.rt,le.bk,le.ct⟩ q
 ps:=L6 (Q3t h.ps) fun D σ H ⟨τ,hR,q⟩=>⟨τ,hR,h.mono τ { K0 X.K H0 H D with nx:=fun τ'=>∃kvs,τ'[i]?=some (some (.dk kvs))/\∀a,(K0 X.K H0 H D).nx (τ'.set i (some (.cl a (M4 X.K a kvs)))) } _ ⟨fun τ' ⟨kvs,e,q⟩ σ' H' kp cG ac s I=>by
  obtain⟨a,ps,hv,h0,sq,kv⟩:=cG.dkAt e
  obtain⟨o,I2⟩:=Z8p I sq
  exact⟨_,I2,q a σ' _ (kp.trans (Kp.updM sq (by intro xs z;cases z) (by intro o u z;cases z) _)) (cG.freezeK e hv h0 sq kv)⟩,fun _ h=>h,fun _ h=>h,fun _ h=>h⟩ q⟩
end
section
variable {X:Cx}{H0:Hp}{a b c e o tg:Expr}{pos bj p2 apos bi:Pos}{wa wb wi we wv:WE}{x:Str}{i:Nat}
def Z4s (K:Fg9) (i:Nat):WS:=fun E τ=>∃kvs,τ[i]?=some (some (.dk kvs))/\∀a,E.rt (.cl a (M4 K a kvs))
theorem DS.retK (he:PE X e (J8 i)):DS X H0 (.Return (some e) pos) (Z4s X.K i) where
 mono:=fun τ E F le ⟨kvs,e1,q⟩=>⟨kvs,e1,fun a=>le.rt _ (q a)⟩
 ps:=by
  intro ac s σ H D I ⟨τ,hR,kvs,e1,q⟩
  obtain⟨a,ps,hv,h0,sq,kv⟩:=hR.dkAt e1
  refine wpAny_Return_some (B3 (he ac s σ H (fun v H1=>v=.ref a/\H1=H) I ⟨_,hv,rfl,rfl⟩) fun u s1 br=>?_)
  obtain⟨v,H1,I1,rv,ev,eH⟩:=br
  subst ev eH
  obtain⟨ob,I2⟩:=Z8p I1 sq
  have kp:Kp H1 (upd H1 a (.frz ob (.dK ps))):=Kp.updM sq (by intro xs z;cases z) (by intro o u z;cases z) _
  refine⟨.ref a,σ,_,I2,rv,q a _ _ (fun b ob hb=>?_) ⟨rfl,⟨ob,ps,upd_same,kv.mono kp _ _⟩,M4.mono⟩⟩
  rw [A9 (U3 hb h0)];exact hR.same _ _ hb
def Z4t (i:Nat) (we:WE):WS:=fun E τ=>we τ fun r=>∃a Φ,r=.cl a Φ/\E.nx (τ.set i (some (.cl a Φ)))
theorem DS.setF (he:DE X H0 e we) (hN:X.N.Nodup) (hi:X.N[i]?=some x) (hx:Loc X.env.scope x) (hs:swapsWith e (some (.Name x bj)) pos.line X.env=pure false:=by rfl)
  (hf:X.fn x=true\/X.env.scope.names.lookup x=some .local:=by first | exact .inl rfl | exact .inr rfl | assumption):DS X H0 (.Assign [.Name x bj] e pos) (Z4t i we) where
 mono:=fun τ E F le h=>he.mono τ _ _ (fun r ⟨a,Φ,e1,q⟩=>⟨a,Φ,e1,le.nx _ q⟩) h
 ps:=L6 (Q2p hN hi hx he.pe hs hf) fun D σ H ⟨τ,hR,h⟩=>⟨τ,hR,he.mono τ _ _ (fun r ⟨a,Φ,e1,q⟩ v H1 s1 ir=>by
  subst e1
  exact q _ _ (Kp.of s1) ((hR.mono s1).set (s:=.cl a Φ) ir fun m=>by cases m)) h⟩
theorem B6.fkAt {K:Fg9}{H:Hp} {τ:A6} {σ:St}{a:Addr}{kvs:List (A7×D)} (hR:B6 K H0 τ σ H) (e1:τ[i]?=some (some (.cl a (M4 K a kvs)))):σ[i]?=some (some (.ref a))/\∃o ps,H a=some (.frz o (.dK ps))/\B5 K H kvs ps:=by
 obtain⟨v,hv,rfl,q,_⟩:=hR.here i _ e1
 exact⟨hv,q⟩
def Q9r (K:Fg9) (i:Nat) (we:WE):WE:=fun τ Q=>∃a kvs,τ[i]?=some (some (.cl a (M4 K a kvs)))/\we τ fun r=>∃kd k d,r=.st kd/\O2 kd=some k/\C9 kvs k=some d/\Q (.st d)
theorem DE.fget (hu:X.A.units+1<cLine) (ho:PE X o (J8 i)) (he:DE X H0 e we) (hs:Q2a e):DE X H0 (.Subscript o e pos) (Q9r X.K i we) where
 mono:=fun τ P Q f ⟨a,kvs,e1,h⟩=>⟨a,kvs,e1,he.mono τ _ _ (fun r ⟨ds,ks,d,a1,a2,a3,a4⟩=>⟨ds,ks,d,a1,a2,a3,f _ a4⟩) h⟩
 pe:=L5 (Q6i hu ho he.pe hs) fun σ H Q ⟨τ,hR,a,kvs,e1,h⟩=>by
  obtain⟨hv,ob,ps,sq,kv⟩:=hR.fkAt e1
  refine⟨_,hv,τ,hR,he.mono τ _ _ (fun r ⟨kd,k,d,a1,a2,a3,a4⟩ v H1 s1 ir=>?_) h⟩
  subst a1
  cases Q1m a2 (show A1 X.K H1 kd v from ir)
  rcases B5.val (k:=k) (kv.mono (Kp.of s1) _ _)with⟨n1,_⟩ | ⟨d',v',n1,n2,n3⟩
  ·rw [a3]at n1;cases n1
  ·rw [a3]at n1;cases n1
   exact⟨a,v',rfl,.inl ⟨ps,k,.inr ⟨ob,s1 _ _ sq⟩,rfl,n2.symm⟩,a4 _ _ s1 n3⟩
def Z4h (K:Fg9) (i:Nat) (we:WE):WE:=fun τ Q=>∃a kvs,τ[i]?=some (some (.cl a (M4 K a kvs)))/\we τ fun r=>∃kd k,r=.st kd/\O2 kd=some k/\Q (.st ((C9 kvs k).getD .non))
theorem DE.fget1 (hu:X.A.units+1<cLine) (ho:PE X o (J8 i)) (he:DE X H0 e we) (m:M1 X o "get" apos e bi):DE X H0 (.Call (.Attribute o "get" apos) [e] [] bi) (Z4h X.K i we) where
 mono:=fun τ P Q f ⟨a,kvs,e1,h⟩=>⟨a,kvs,e1,he.mono τ _ _ (fun r ⟨ds,ks,a1,a2,a4⟩=>⟨ds,ks,a1,a2,f _ a4⟩) h⟩
 pe:=L5 (W3i hu ho he.pe m) fun σ H Q ⟨τ,hR,a,kvs,e1,h⟩=>by
  obtain⟨hv,ob,ps,sq,kv⟩:=hR.fkAt e1
  refine⟨_,hv,a,rfl,.inl ⟨ps,.inr ⟨ob,sq⟩⟩,τ,hR,he.mono τ _ _ (fun r ⟨kd,k,a1,a2,a4⟩ v H1 s1 ir=>?_) h⟩
  subst a1
  cases Q1m a2 (show A1 X.K H1 kd v from ir)
  refine⟨_,.inl ⟨ps,k,.inr ⟨ob,s1 _ _ sq⟩,rfl,rfl⟩,a4 _ _ s1 ?_⟩
  rcases B5.val (k:=k) (kv.mono (Kp.of s1) _ _)with⟨n1,n2⟩ | ⟨d',v',n1,n2,n3⟩
  ·rw [n1,n2];exact A1.s_non (K:=X.K) (H:=H1)
  ·rw [n1,n2];exact n3
def Z4m (i:Nat):WS:=fun E τ=>E.nx (τ.set i (some (.dk [])))
theorem DS.knew (hN:X.N.Nodup) (hi:X.N[i]?=some x) (hx:Loc X.env.scope x) (hs:swapsWith (.Dict [] [] p2) (some (.Name x bj)) pos.line X.env=pure false:=by rfl)
  (hf:X.fn x=true\/X.env.scope.names.lookup x=some .local:=by first | exact .inl rfl | exact .inr rfl | assumption):DS X H0 (.Assign [.Name x bj] (.Dict [] [] p2) pos) (Z4m i) where
 mono:=fun τ E F le h=>le.nx _ h
 ps:=L6 (Q2p hN hi hx W3l hs hf) fun D σ H ⟨τ,hR,h⟩ p hp=>by
  have sm:A3 H (upd H p (.dK [])):=C8 hp _
  refine h _ _ (Kp.of sm) ((hR.mono sm).set (s:=.dk []) ⟨p,[],rfl,hR.same.free hp,upd_same,rfl⟩ fun _ j t hj e m q=>?_)
  obtain⟨o,ho⟩:=hR.tracked e m q
  rw [hp]at ho;cases ho
def Z4n (i:Nat) (we wv:WE):WS:=fun E τ=>i<τ.length/\we τ fun rk=>∃kd k,rk=.st kd/\O2 kd=some k/\wv τ fun r=>∃d,r=.st d/\E.nx (τ.set i (some (.dk [(k,d)])))
theorem DS.knew1 {v:Expr} (he:DE X H0 e we) (hv:DE X H0 v wv) (hN:X.N.Nodup) (hi:X.N[i]?=some x) (hx:Loc X.env.scope x) (hs:swapsWith (.Dict [some e] [v] p2) (some (.Name x bj)) pos.line X.env=pure false:=by rfl)
  (hf:X.fn x=true\/X.env.scope.names.lookup x=some .local:=by first | exact .inl rfl | exact .inr rfl | assumption):DS X H0 (.Assign [.Name x bj] (.Dict [some e] [v] p2) pos) (Z4n i we wv) where
 mono:=fun τ E F le h=>⟨h.1,he.mono τ _ _ (fun r ⟨ds,ks,a1,a2,h⟩=>⟨ds,ks,a1,a2,hv.mono τ _ _ (fun r ⟨d,b1,b2⟩=>⟨d,b1,le.nx _ b2⟩) h⟩) h.2⟩
 ps:=L6 (Q2p hN hi hx (W3j (W4i he.pe hv.pe W4j) rfl rfl (by simp) (by simp)) hs hf) fun D σ H ⟨τ,hR,hl,h⟩ p hp=>by
  have sm:A3 H (upd H p (.dK [])):=C8 hp _
  have cU:=hR.mono sm
  refine⟨τ,cU,he.mono τ _ _ (fun rk ⟨kd,k,a1,a2,h⟩ y H1 s1 ik=>?_) h⟩
  subst a1
  have cX:=cU.mono s1
  refine⟨τ,cX,hv.mono τ _ _ (fun r ⟨d,b1,b2⟩ u H2 s2 iv=>?_) h⟩
  subst b1
  cases Q1m a2 (show A1 X.K H1 kd y from ik)
  have ep:=s2 _ _ (s1 _ _ (upd_same (H:=H) (a:=p) (o:=.dK [])))
  refine⟨ep,[(k,u)],rfl,by simp,?_⟩
  have e1:Q3q [] [(k,u)]=[(k,u)]:=rfl
  rw [e1]
  have kp:Kp H2 (upd H2 p (.dK [(k,u)])):=Kp.updM ep (by intro xs z;cases z) (by intro o u z;cases z) _
  have k9:=cX.mono s2
  have h0:H0 p=none:=hR.same.free hp
  have pC:Kp H (upd H2 p (.dK [(k,u)])):=(Kp.of ((sm.trans s1).trans s2)).trans kp
  have jR:∀(j:Nat) (t:Sl),τ[j]?=some (some t)->t.mut=true->σ[j]?≠some (some (.ref p)):=fun j t e m q=>by
   obtain⟨o,ho⟩:=hR.tracked e m q
   rw [hp]at ho;cases ho
  have k8:B6 X.K H0 (τ.set i (some (.dk []))) (σ.set i (some (.ref p))) H2:=k9.set (s:=.dk []) ⟨p,[],rfl,h0,ep,rfl⟩ fun _ j t hj e m q=>jR j t e m q
  have g1:(τ.set i (some (.dk [])))[i]?=some (some (.dk [])):=aY hl
  have g2:(σ.set i (some (V.ref p)))[i]?=some (some (.ref p)):=aY (by rw [<- hR.len];exact hl)
  have iC:=k8.mutG (s':=.dk [(k,d)]) (new:=.dK [(k,u)]) g1 rfl g2 h0 ep (by intro xs z;cases z) (by intro o u z;cases z) ⟨p,[(k,u)],rfl,h0,upd_same,⟨u,[],rfl,A1.mono kp _ _ iv,rfl⟩⟩
  rw [List.set_set]at iC
  exact b2 _ _ pC iC
def Q9t (i:Nat) (we wv:WE):WS:=fun E τ=>∃kvs,τ[i]?=some (some (.dk kvs))/\we τ fun rk=>∃kd k,rk=.st kd/\O2 kd=some k/\wv τ fun r=>∃d,r=.st d/\kvs.length<sizeLine /\
 E.nx (if (C9 kvs k).isSome=true then τ else τ.set i (some (.dk (kvs++[(k,d)]))))
theorem W3p {f:Expr}{td ty tx:TE} (ho:PE X o td) (he:PE X e ty) (hf:PE X f tx) (m:M2 X o "setdefault" apos e f bi):PE X (.Call (.Attribute o "setdefault" apos) [e,f] [] bi)
  (fun σ H Q=>td σ H fun x H1=>∃a ps0,x=.ref a/\H1 a=some (.dK ps0)/\ty σ H1 fun y H2=>tx σ H2 fun z H3=>∃ps k,H3 a=some (.dK ps)/\y=kV k/\ps.length<sizeLine/\(∀v,R0 ps k=some v->Q v H3)/\(R0 ps k=none->Q z (upd H3 a (.dK (N1 ps k z))))):=by
 intro ac s σ H Q I h
 refine wpAny_Call_method m.base m.few m.line PySem.F.plainAttrs_dict dI PySem.F.type_dict_setdefault (B3 (ho ac s σ H _ I h) fun u s1 br=>?_)
 obtain⟨x,H1,I1,rx,a,ps0,ex,ea,q1⟩:=br
 subst ex
 obtain rfl:u=Value.ref a:=rx
 obtain⟨t1,t2,_⟩:=Z8s I1 (.inl ⟨ps0,.inl ea⟩)
 refine⟨t1,t2,?_⟩
 rw [m.trees]
 refine eg rfl (de (bT (B3 (he ac s1 σ H1 _ I1 q1) fun iv s2 ⟨y,H2,I2,ry,q2⟩ =>
  bT (B3 (hf ac s2 σ H2 _ I2 q2) fun fv s3 ⟨z,H3,I3,rz,ps,k,e3,ey,hz,g1,g2⟩=>cR ?_))))
 subst ey
 obtain⟨z0,hd,vs,rel,dd⟩:=Q7m I3.hok e3
 have el:vs.length=ps.length:=by rw [<- rel.length]
 have rv:=rel.val k
 refine call_meetsIn dI dd.typeIs PySem.F.entry_dict_setdefault (PySem.F.args_dict_setdefault_3 _ _ _) (kt_meets_setdefault (J5 X.prog X.w) a (Q1l ry) hd fv) ⟨vs,dd,by omega,fun v hv=>?_,fun hn h' gB hs=>?_⟩
 ·rw [hv]at rv
  cases ev:R0 ps k with
  | none=>rw [ev]at rv;exact rv.elim
  | some w=>rw [ev]at rv;exact⟨w,H3,I3.tok _,rv,g1 w ev⟩
 ·rw [hn]at rv
  cases ev:R0 ps k with
  | some w=>rw [ev]at rv;exact rv.elim
  | none =>
   have he:∃q,h'.get? a=some q:=let ⟨q,_,_,hq,_⟩:=gB;⟨q,hq⟩
   have hl:(N1 ps k z).length<=sizeLine:=by have:=Q5x ps k z;omega
   exact⟨z,_,Q2c I3 (by rw [e3];exact True.intro) hs he (Z1l hl hd (rel.put k rz) gB),rz,g2 ev⟩
theorem Y5e {κ:Type} [DecidableEq κ]:∀{kvs:List (κ×D)}{k:κ},C9 kvs k=none->(kvs.any fun kv=>decide (kv.1=k))=false
 | [],_,_=>rfl
 | p::r,k,h=>by
  by_cases e:p.1=k
  ·simp [C9,b8,e]at h
  ·have:C9 r k=none:=by simpa [C9,b8,e]using h
   rw [cI,Y5e this];simp [e]
theorem DS.ksetd {v:Expr} (ho:PE X o (J8 i)) (he:DE X H0 e we) (hv:DE X H0 v wv) (m:M2 X o "setdefault" apos e v bi):DS X H0 (.Expr (.Call (.Attribute o "setdefault" apos) [e,v] [] bi) pos) (Q9t i we wv) where
 mono:=fun τ E F le ⟨kvs,e1,h⟩=>⟨kvs,e1,he.mono τ _ _ (fun r ⟨kd,k,a1,a2,h⟩=>⟨kd,k,a1,a2,hv.mono τ _ _ (fun r ⟨d,b1,b2,b3⟩=>⟨d,b1,b2,le.nx _ b3⟩) h⟩) h⟩
 ps:=L6 (Q8l (W3p ho he.pe hv.pe m)) fun D σ H ⟨τ,hR,kvs,e1,h⟩=>by
  obtain⟨a,ps,dv,h0,sq,kv⟩:=hR.dkAt e1
  refine⟨_,dv,a,ps,rfl,sq,τ,hR,he.mono τ _ _ (fun rk ⟨kd,k,a1,a2,h⟩ y H1 s1 ik=>?_) h⟩
  subst a1
  have cU:=hR.mono s1
  refine⟨τ,cU,hv.mono τ _ _ (fun r ⟨d,b1,b2,b3⟩ u H2 s2 iv=>?_) h⟩
  subst b1
  have cX:=cU.mono s2
  have dh:=s2 _ _ (s1 _ _ sq)
  have gm:=(kv.mono (Kp.of s1) _ _).mono (Kp.of s2) _ _
  refine⟨ps,k,dh,Q1m a2 (show A1 X.K H1 kd y from ik),by rw [<- B5.length gm];exact b2,fun v hv=>?_,fun hn=>?_⟩
  ·rcases B5.val (k:=k) gm with⟨n1,n2⟩ | ⟨d',v',n1,n2,n3⟩
   ·rw [hv]at n2;cases n2
   ·rw [n1]at b3
    have b3:(K0 X.K H0 H D).nx τ:=b3
    exact b3 _ _ (Kp.of (s1.trans s2)) cX
  ·rcases B5.val (k:=k) gm with⟨n1,n2⟩ | ⟨d',v',n1,n2,n3⟩
   ·rw [n1]at b3
    have b3:(K0 X.K H0 H D).nx (τ.set i (some (.dk (kvs++[(k,d)])))):=b3
    have kp:Kp H2 (upd H2 a (.dK (N1 ps k u))):=Kp.updM dh (by intro xs z;cases z) (by intro o u z;cases z) _
    have ek:L0 kvs k d=kvs++[(k,d)]:=by unfold L0;rw [aH (by rw [Y5e n1];simp)]
    refine b3 _ _ ((Kp.of (s1.trans s2)).trans kp) (cX.mutG e1 rfl dv h0 dh (by intro xs z;cases z) (by intro o u z;cases z) ⟨a,_,rfl,h0,upd_same,?_⟩)
    rw [<- ek]
    exact B5.mono kp _ _ (B5.put iv gm)
   ·rw [hn]at n2;cases n2
end
theorem Z6x {X:Cx}{ac:Pn9} {σ:St}{H2 H':Hp}{s2 s1:Shared}{scope:Scope}{C D0:Addr}{fp:List Addr}{N:List Str}{pb:Pn9} {σ':St}{h':Heap}{u0:HO}
  (I2:A0 X ac σ H2 s2) (Ib:A0 (blk X scope C s2 H2 fp N) pb σ' H' s1) (f2:∀b∈fp,J9 X ac H2 b) (hC:s2.heap.objs.size<=C) (hD:s2.heap.objs.size<=D0) (mq:H' D0=none)
  (sb:Heap.SameBut C s1.heap h') (new:F5 X.prog X.w (upd H' D0 u0) h' D0 u0):A0 X ac σ (upd H' D0 u0) { s1 with heap:=h' }:=by
 have iR:∀b o,s2.heap.get? b=some o->b≠C:=fun b o e=>aB (az (ay e) hC)
 have lh:∀b o,s2.heap.get? b=some o->b≠D0:=fun b o e=>aB (az (ay e) hD)
 have keep:=Z8l sb
 have base:Un (frs X.stack) fp H2 H' s2.heap s1.heap:=Ib.base
 have mr:H' C=none:=Ib.free
 have gk:∀b u,H' b=some u->b≠C:=fun b u e z=>by rw [z,mr]at e;cases e
 have fT:∀b u,H' b=some u->b≠D0:=fun b u e z=>by rw [z,mq]at e;cases e
 refine I2.call' (s':={ s1 with heap:=h' }) (ch:=fp) Ib.os ⟨fun b o e n hb hx=>keep b o (iR b o e) (base.keep b o e n hb hx),fun b o e n hb hx=>?_,fun b o e n hx=>?_,fun b o e hx=>?_,fun b xs e=>?_,fun b o u e=>?_,fun b ps e=>?_⟩ (fun b u e=>?_) Ib.bare (fun b hb=>?_)
 ·obtain⟨sl,q⟩:=base.slot b o e n hb hx
  exact⟨sl,keep b _ (iR b o e) q⟩
 ·rw [A9 (lh b o e)];exact base.free b o e n hx
 ·obtain⟨o',q⟩:=base.there b o e hx
  exact⟨o',keep b o' (iR b o e) q⟩
 ·have q:=base.tups b xs e
  rw [A9 (fT b _ q)];exact q
 ·have q:=base.frzs b o u e
  rw [A9 (fT b _ q)];exact q
 ·obtain⟨more,q⟩:=base.tbls b ps e
  exact⟨more,by rw [A9 (fT b _ q)];exact q⟩
 ·by_cases hb:b=D0
  ·subst hb
   rw [upd_same]at e;cases e
   exact new
  ·rw [A9 hb]at e
   refine(Ib.hok b u e).stay (fun c v hc q=>keep c v ?_ q) (fun c u _ q=>by rw [A9 (fT c _ q)];exact q) fun c xs q=>by rw [A9 (fT c _ q)];exact q
   rcases hc with z | z
   ·rw [z];exact gk b u e
   ·exact gk c _ z
 ·obtain⟨_,a2,a3,a4,a5,a6⟩:=f2 b hb
  exact⟨a4,a2,a5,a6⟩
section
variable {prog:Program}{w:World}{A:Around}{RR:Result->Shared->Prop}{s:Shared}
theorem Y7t {kx vx target iter:Expr}{scope:Scope}{pos:Pos}{it:Value}{D0:Addr}{env:Env} (I:Nat->Shared->Prop)
  (eN:∀n s,I n s->wpAny (model prog w) A (pyNext it) (fun r s₁=>match r with
   | none=>RR (.ok .next) s₁
   | some v=>wpAny (model prog w) A (letOwnedTupleGo target it v) (fun _ sa=>wpAny (model prog w) A (assign target env v) (fun _ s₃ =>
     wpAny (model prog w) A (eval kx env) (fun x s₄=>wpAny (model prog w) A (eval vx env) (fun y s₅ =>
       wpAny (model prog w) A (dictSet D0 x y) (fun _ s₆=>∃m,m<n/\I m s₆) (fun _ _=>False) s₅) (fun _ _=>False) s₄) (fun _ _=>False) s₃) (fun _ _=>False) sa) (fun _ _=>False) s₁) (fun _ _=>False) s)
  (n:Nat) (h:I n s):codeAny (model prog w) A (.compLoop (.DictComp kx vx [⟨target,iter,[],0⟩] scope pos) 0 it (.ref D0) env) RR s:=by
 refine codeAny_loop rfl I (fun n s hI=>?_) n h
 change wpAny (model prog w) A ((compTurn (.DictComp kx vx [⟨target,iter,[],0⟩] scope pos) 0 it (Value.ref D0) env).onRaise (fun x=>do noteFrame x env;theTreesLotGoes x)) _ _ s
 refine wpAny_noted ?_
 rw [compTurn_dict]
 refine aa (fx (aa (aR (eN n s hI) (fun r s₁ h₁=>?_) fun _ _ h'=>h'.elim)))
 cases r with
 | none=>exact ai h₁
 | some v =>
  refine aa (aR h₁ (fun _ sa ha=>aa (aR ha (fun _ s₃ h₃=>aa (wpAny_tests_nil ?_)) fun _ _ h'=>h'.elim)) fun _ _ h'=>h'.elim)
  exact aa (aa (aR h₃ (fun x s₄ h₄=>aa (bz (aR h₄ (fun y s₅ h₅=>aa (fx (bz (aR h₅ (fun _ s₆ h₆=>ai ⟨rfl,h₆⟩) fun _ _ h'=>h'.elim)))) fun _ _ h'=>h'.elim))) fun _ _ h'=>h'.elim))
end
noncomputable def U1 (g:WG) (wk wv:WE):List D->A6->List (A7×D)->(List (A7×D)->Prop)->Prop
 | [],_,kvs,Q=>Q kvs
 | d::ds,τ,kvs,Q=>g d τ fun τ'=>wk τ' fun r=>∃kd k,r=.st kd/\O2 kd=some k/\wv τ' fun r2=>∃e,r2=.st e/\U1 g wk wv ds τ' (L0 kvs k e) Q
theorem Z7l {g:WG}{wk wv:WE} (hg:∀d τ (P Q:A6->Prop),(∀ τ,P τ->Q τ)->g d τ P->g d τ Q) (hk:∀(τ:A6) (P Q:R->Prop),(∀r,P r->Q r)->wk τ P->wk τ Q) (hv:∀(τ:A6) (P Q:R->Prop),(∀r,P r->Q r)->wv τ P->wv τ Q) :
  ∀(ds:List D) (τ:A6) (kvs:List (A7×D)) (P Q:List (A7×D)->Prop),(∀es,P es->Q es)->U1 g wk wv ds τ kvs P->U1 g wk wv ds τ kvs Q
 | [],_,_,_,_,f,h=>f _ h
 | d::ds,τ,kvs,P,Q,f,h=>hg d τ _ _ (fun τ' h=>hk τ' _ _ (fun r ⟨kd,k,e1,e2,h⟩=>⟨kd,k,e1,e2,hv τ' _ _ (fun r ⟨e,e1,h⟩=>⟨e,e1,Z7l hg hk hv ds τ' _ _ _ f h⟩) h⟩) h) h
section
variable {X:Cx}{H0:Hp}{tg iter kx vx:Expr}{scope:Scope}{pos bj eA:Pos}{N:List Str}{nt:Nat}{cap:List Nat}{wi:M6}{g:WG}{wk wv:WE}
theorem Y9s {use:Option (Value->Sem Unit)}{QQ:VS9}{P:List (A7×D)->Prop}{fS:Pos}{ac:Pn9}{s:Shared} {σ:St}{H:Hp} {τ:A6} (hc:X.calm=true) (B:G7 X scope N nt cap) (hi:D7 X H0 tg iter wi)
  (hg:∀C s H fp,DG (blk X scope C s H fp N) H tg g) (hk:∀C s H fp,DE (blk X scope C s H fp N) H kx wk) (hv:∀C s H fp,DE (blk X scope C s H fp N) H vx wv) (hs:∀x,foldedSetIterable iter X.env x=pure x)
  (I:A0 X ac σ H s) (hR:B6 X.K H0 τ σ H) (hw:wi τ fun ds=>ds.length<sizeLine/\U1 g wk wv ds (Q3 nt cap τ) [] P)
  (fin:∀(C D0:Addr) (s2 s4:Shared) (H2 H4:Hp) (fp:List Addr) (pb:Pn9) (σ4:St) (ps:List (A7×V)) (vs:List (A7×Value)) (kvs:List (A7×D)) (f:Flow),A0 X ac σ H2 s2->A3 H H2->A0 (blk X scope C s2 H2 fp N) pb σ4 H4 s4->(∀b∈fp,J9 X ac H2 b) ->
   s2.heap.objs.size<=C->s2.heap.objs.size<=D0->D0≠C->H4 D0=none->(D0==sysModules)=false->s4.heap.DictOf (J5 X.prog X.w) D0 vs->KV ps vs->ps.length<=sizeLine->A3 H2 H4->B5 X.K H4 kvs ps->P kvs->compPost (model X.prog X.w) X.A X.xe use QQ (.ref D0) C (.ok f) s4) :
  wpAny (model X.prog X.w) X.A (comprehension (.DictComp kx vx [⟨tg,iter,[],0⟩] scope pos) scope X.env fS newDict false (eval iter X.env) use) QQ X.xe s:=by
 refine wpAny_comprehension_free rfl hs (Q7l fun y hy e=>I.ok.has y.1 (B.free y hy e)) B.kind B.names ?_
 refine B3 (hi.pi ac s σ H (fun J H2=>A3 H H2/\∃ds,YlS X.K J ds H2/\ds.length<sizeLine/\U1 g wk wv ds (Q3 nt cap τ) [] P) I
  ⟨τ,hR,hi.mono τ _ _ (fun ds h J H' sm yl=>⟨sm,ds,yl,h.1,h.2⟩) hw⟩) fun v s1 h1=>B3 h1 fun ic s2 h2=>?_
 obtain⟨it,fp,tn,J,H2,e,I2,T,dG,f2,cM,ds,yl,hz,jH⟩:=h2
 subst e
 have eS:∀b∈fp,b<s2.heap.objs.size:=fun b hb=>by
  obtain⟨o,ho,_⟩:=T.obj _ _ dG b hb
  exact ay ho
 have cX:=hR.mono cM
 have gL:(s2.heap.objs.size==sysModules)=false:=bL.mpr (bt (aB I2.big))
 refine bb (fJ B.cell (by intro y hy;simp at hy) (fun h₁ cC cp=>?_) B.kind)
 dsimp only at cC cp ⊢
 have gO:(s2.heap.push { cls:=.type "dict",dict:=none,data:=.dict #[] }).DictOf (J5 X.prog X.w) s2.heap.objs.size []:=Heap.DictOf.new s2.heap
 generalize hH2:s2.heap.push { cls:=.type "dict",dict:=none,data:=.dict #[] }=Hq at cC cp gO ⊢
 have hC:Hq.objs.size=s2.heap.objs.size+1:=by rw [<- hH2,bv]
 have cE:s2.heap.objs.size≠Hq.objs.size:=by rw [hC];exact aB (cf _)
 have cm:s2.heap.objs.size<=Hq.objs.size:=by rw [hC];exact cx _
 have old:∀b o,s2.heap.get? b=some o->h₁.get? b=some o:=fun b o e=>cp.extBut b o (by rw [hC];exact aB (be (ay e))) (ae _ (hH2 ▸ ae _ e))
 have dl:h₁.DictOf (J5 X.prog X.w) s2.heap.objs.size []:=gO.at fun o e=>cp.extBut _ _ cE (ae _ e)
 generalize hCe:Hq.objs.size=C at cC cp hC cE cm ⊢
 generalize hDe:s2.heap.objs.size=D0 at hC cE cm dl gL ⊢
 have cL:∀b∈fp,b<D0:=fun b hb=>hDe ▸ eS b hb
 have dB:tn 0 h₁:=T.keep _ _ _ dG fun b _ o e=>old b o e
 have jd:=Q7h (C:=C) (h':=h₁) (t':=s2.toks+([]:List (Str×Value)).length) I2 B f2 eS (by rw [hDe];exact cm) cC old
 have fH:H2 D0=none:=I2.hok.fresh (by rw [hDe];exact aj _)
 have iP:D0∉frs X.stack:=fun z=>by
  rcases aq.mp (I2.stkSub _ z)with e | e
  ·have:=I2.lt;rw [<- e,hDe]at this;exact aT _ this
  ·exact I2.nofs (by rw [hDe];exact aj _) e
 have iQ:∀x c,(Q4 X.env scope.names []).lookup x=some c->c≠D0:=fun x c h z=>by
  obtain⟨v,q⟩:=I2.cell x c (U0 I2 B h)
  have:=q.lt
  rw [z,hDe]at this
  exact aT _ this
 have kj:∀{h:Heap}{vs:List (A7×Value)}{o:Obj},h.DictOf (J5 X.prog X.w) D0 vs->h.get? D0=some o->∀v,o.data≠.cell v:=by
  intro h vs o dd e v z
  obtain⟨o',es,ep,e',_,d,_⟩:=dd
  rw [e]at e';cases e'
  rw [d]at z;cases z
 have dA:∀{pb:Pn9} {σ':St}{H':Hp}{s':Shared}{vs:List (A7×Value)}{o:Obj},A0 (blk X scope C s2 H2 fp N) pb σ' H' s'->H' D0=none->s'.heap.DictOf (J5 X.prog X.w) D0 vs->s'.heap.get? D0=some o ->
   A0 (blk X scope C s2 H2 fp N) [(D0,o)] σ' H' s':=by
  intro pb σ' H' s' vs o I' n' dd e
  refine I'.pins_of fun p hp=>?_
  have e':p=(D0,o):=by simpa using hp
  subst e'
  exact⟨e,n',cE,iP,kj dd e⟩
 have eV:∀{H':Hp}{ob:Obj},(∀b∈fp,H' b=none)->∀b∈fp,J9 (blk X scope C s2 H2 fp N) [(D0,ob)] H' b:=by
  intro H' ob hn b hb
  refine⟨hn b hb,(aB (az (cL b hb) cm)),fun z=>?_,.inl hb,fun x c h=>(f2 b hb).2.2.2.2.1 x c (U0 I2 B h),fun p hp=>?_⟩
  ·rcases aq.mp (I2.stkSub b z)with e | e
   ·exact(f2 b hb).2.1 e
   ·exact(f2 b hb).2.2.1 e
  ·have e':p=(D0,ob):=by simpa [blk]using hp
   subst e'
   exact(aB (cL b hb)).symm
 let iH:Nat->Shared->Prop:=fun k s'=>∃(i:Nat) (σ':St) (H':Hp) (τ':A6) (ob:Obj) (vs:List (A7×Value)) (ps:List (A7×V)) (kvs:List (A7×D)),A0 (blk X scope C s2 H2 fp N) [(D0,ob)] σ' H' s'/\B6 X.K H2 τ' σ' H'/\tn i s'.heap /\
  (∀b∈fp,H' b=none)/\H' D0=none/\s'.heap.get? D0=some ob/\s'.heap.DictOf (J5 X.prog X.w) D0 vs/\KV ps vs/\B5 X.K H' kvs ps/\i<=ds.length/\k=ds.length-i/\ps.length<=i/\U1 g wk wv (ds.drop i) τ' kvs P
 have loop:∀s₃:Shared,s₃={ s2 with heap:=h₁,toks:=s2.toks+([]:List (Str×Value)).length } ->
   codeAny (model X.prog X.w) X.A (.compLoop (.DictComp kx vx [⟨tg,iter,[],0⟩] scope pos) 0 (.ref it) (.ref D0) (compEnvC scope (Q4 X.env scope.names []) C X.env))
    (compPost (model X.prog X.w) X.A X.xe use QQ (.ref D0) C) s₃:=by
  rintro s₃ rfl
  obtain⟨oT,ho⟩:∃o,h₁.get? D0=some o:=by obtain⟨o,_,_,e,_⟩:=id dl;exact⟨o,e⟩
  refine Y7t iH ?_ ds.length ⟨0,_,H2,Q3 nt cap τ,oT,[],[],[],dA jd fH dl ho,Z3i cX nt cap,dB,fun b hb=>(f2 b hb).1,fH,ho,dl,.nil,rfl,ba _,rfl,aj _,by simpa using jH⟩
  rintro k s3 ⟨i,σ3,H3,τ3,ob,vs,ps,kvs,I3,R3,eJ,fg,d3,o3,oi,l5,mZ,nD,rfl,io,w3⟩
  have bY:A3 H2 H3:=R3.same
  by_cases bR:i<ds.length
  ·refine aR (T.item (blk X scope C s2 H2 fp N) rfl rfl rfl hc i _ s3 σ3 H3 (fun _ _=>False) I3 (eV fg) eJ (yl.go H3 bY i bR)) (fun r s4 br=>?_) fun _ _ z=>z
   obtain⟨u,hr,h4⟩:=br
   subst hr
   refine aR h4 (fun _ s5 br=>?_) fun _ _ z=>z
   obtain⟨x,H5,I5,r5,y5,dF,gX⟩:=br
   obtain⟨fB,ix⟩:=yl.yld H3 bY i x H5 _ (af bR) y5
   rw [cD bR]at w3
   have h8:=I5.pinned (eV gX) (T.obj _ _ dF)
   refine aR ((hg C s2 H2 fp).pg _ s5 σ3 H5 x u (fun σ6 H6=>∃ τ6,B6 X.K H2 τ6 σ6 H6/\A3 H5 H6/\wk τ6 fun r=>∃kd k,r=.st kd/\O2 kd=some k/\wv τ6 fun r2=>∃e,r2=.st e/\U1 g wk wv (ds.drop (i+1)) τ6 (L0 kvs k e) P)
    h8 r5 ⟨τ3,ds[i],R3.mono fB,ix,(hg C s2 H2 fp).mono _ _ _ _ (fun τ6 h6 σ6 H6 fQ R6=>⟨τ6,R6,fQ,h6⟩) w3⟩) (fun _ s6 ⟨σ6,H6,I6,τ6,R6,fQ,w6⟩=>?_) fun _ _ z=>z
   refine aR ((hk C s2 H2 fp).pe _ s6 σ6 H6 (fun v H7=>A3 H6 H7/\∃kd k,A1 X.K H7 kd v/\O2 kd=some k/\wv τ6 fun r2=>∃e,r2=.st e/\U1 g wk wv (ds.drop (i+1)) τ6 (L0 kvs k e) P) I6
    ⟨τ6,R6,(hk C s2 H2 fp).mono τ6 _ _ (fun r ⟨kd,k,e1,e2,h⟩ v H7 fA ir=>⟨fA,kd,k,by subst e1;exact ir,e2,h⟩) w6⟩) (fun yk s7 ⟨v7,H7,I7,kY,fA,kd,k,pM,rn,w7⟩=>?_) fun _ _ z=>z
   refine aR ((hv C s2 H2 fp).pe _ s7 σ6 H7 (fun v H8=>A3 H7 H8/\∃e,A1 X.K H8 e v/\U1 g wk wv (ds.drop (i+1)) τ6 (L0 kvs k e) P) I7
    ⟨τ6,R6.mono fA,(hv C s2 H2 fp).mono τ6 _ _ (fun r ⟨e,e1,h⟩ v H8 fP ir=>⟨fP,e,by subst e1;exact ir,h⟩) w7⟩) (fun yv s8 ⟨v8,H8,I8,iN,fP,e8,lw,w8⟩=>?_) fun _ _ z=>z
   have pd:=I8.pin (D0,ob) (av _ (bf _ ao))
   obtain⟨o8,d8,_⟩:=pd
   have ko:A0 (blk X scope C s2 H2 fp N) (T7 fp s5.heap) σ6 H8 s8:=I8.pins_of fun p hp=>I8.pin p (av _ (av _ hp))
   have rB:s8.heap.DictOf (J5 X.prog X.w) D0 vs:=oi.at fun o e=>by rw [o3]at e;cases e;exact o8
   have el:vs.length=ps.length:=by rw [<- l5.length]
   cases Q1m rn pM
   refine wpAny_dictSet_pairs (hsz:=by omega) (Q1l kY) rB fun h₅ mC iU=>?_
   have I9:A0 (blk X scope C s2 H2 fp N) (T7 fp s5.heap) σ6 H8 { s8 with heap:=h₅,toks:=s8.toks+1 }:=by
    refine ko.turned (t':=s8.toks+1) (it:=D0) (fun b o hb e=>(iU.2 b hb).trans e) d8 cE (.inr (by rw [<- hDe];exact aj _)) iQ (fun p hp z=>?_)
    obtain⟨q1,_⟩:=Q6h (by simpa [blk]using hp)
    exact aB (cL _ q1) z
   obtain⟨oS,o9⟩:∃o,h₅.get? D0=some o:=by obtain⟨o,_,_,e,_⟩:=id mC;exact⟨o,e⟩
   have oO:A3 H3 H8:=fB.trans (fQ.trans (fA.trans fP))
   have ju:tn (i+1) h₅:=T.keep _ _ _ dF fun b hb o e=>(I9.pin (b,o) (av _ (Q0i hb e))).1
   refine⟨ds.length-(i+1),by omega,i+1,σ6,H8,τ6,oS,stored vs k yv,N1 ps k v8,L0 kvs k e8,dA I9 d8 mC o9,R6.mono (fA.trans fP),ju,fun b hb=>?_,d8,o9,mC,l5.put k iN,B5.put lw (mZ.mono (Kp.of oO) _ _),bR,rfl,?_,w8⟩
   ·obtain⟨o,e,_⟩:=T.obj _ _ dF b hb
    exact(I9.pin (b,o) (av _ (Q0i hb e))).2.1
   ·have:=Q5x ps k v8;omega
  ·have e:i=ds.length:=by omega
   subst e
   refine aR (T.done (blk X scope C s2 H2 fp N) rfl rfl rfl hc ds.length _ s3 σ3 H3 (fun _ _=>False) I3 (eV fg) eJ (yl.stop H3 bY)) (fun r s4 br=>?_) fun _ _ z=>z
   obtain⟨hr,I4⟩:=br
   subst hr
   have o4:=(I4.pin (D0,_) (av _ ao)).1
   rw [fM]at w3
   have rC:s4.heap.DictOf (J5 X.prog X.w) D0 vs:=oi.at fun o e=>by rw [o3]at e;cases e;exact o4
   exact fin C D0 s2 s4 H2 H3 fp _ σ3 ps vs kvs _ I2 cM I4 f2 (by rw [hDe];exact cm) (by rw [hDe];exact aj _) cE d3 gL rC l5 (by omega) bY mZ w3
 exact codeAny_compStart_dict (loop _ rfl) (T.self _ 0 _ _ _ dB (loop _ rfl))
def Z4l (i nt:Nat) (cap:List Nat) (wi:M6) (g:WG) (wk wv:WE):WS:=fun E τ=>wi τ fun ds=>ds.length<sizeLine/\U1 g wk wv ds (Q3 nt cap τ) [] fun kvs=>E.nx (τ.set i (some (.dk kvs)))
theorem DS.setKC {i:Nat}{x:Str} (hc:X.calm=true) (B:G7 X scope N nt cap) (hi:D7 X H0 tg iter wi) (hg:∀C s H fp,DG (blk X scope C s H fp N) H tg g) (hk:∀C s H fp,DE (blk X scope C s H fp N) H kx wk)
  (hv:∀C s H fp,DE (blk X scope C s H fp N) H vx wv) (hN:X.N.Nodup) (j4:X.N[i]?=some x) (hx:Loc X.env.scope x)
  (fm:swapsWith (.DictComp kx vx [⟨tg,iter,[],0⟩] scope pos) (some (.Name x bj)) eA.line X.env=pure true:=by rfl) (hs:∀x,foldedSetIterable iter X.env x=pure x:=by intro _;rfl)
  (hf:X.fn x=true\/X.env.scope.names.lookup x=some .local:=by first | exact .inl rfl | exact .inr rfl | assumption) :
  DS X H0 (.Assign [.Name x bj] (.DictComp kx vx [⟨tg,iter,[],0⟩] scope pos) eA) (Z4l i nt cap wi g wk wv) where
 mono:=fun τ E F le h=>hi.mono τ _ _ (fun ds h=>⟨h.1,Z7l (hg 0 X.s₀ X.H₀ []).mono (hk 0 X.s₀ X.H₀ []).mono (hv 0 X.s₀ X.H₀ []).mono ds _ _ _ _ (fun es h=>le.nx _ h) h.2⟩) h
 ps:=by
  intro ac s σ H D I ⟨τ,hR,hw⟩
  rw [exec_Assign_Name_used _ _ _ _ fm]
  refine aa (fx (aa ?_))
  change wpAny (model X.prog X.w) X.A (do let _ <- comprehension (.DictComp kx vx [⟨tg,iter,[],0⟩] scope pos) scope X.env _ newDict false (eval iter X.env) (some (assign (.Name x bj) X.env))) _ _ s
  refine aa (aR (Y9s (use:=some (assign (.Name x bj) X.env)) (QQ:=fun _ s'=>SP X ac D .next s') hc B hi hg hk hv hs I hR hw fun C D0 s2 s4 H2 H4 fp pb σ4 ps vs kvs f I2 cM I4 f2 hC hD cE hn gL dd rk hz fy kv w3=>?_)
   (fun _ s' hq=>ai (ai hq)) fun _ _ e=>e)
  have Ib:A0 X ac σ (upd H4 D0 (.dK ps)) { s4 with heap:=s4.heap }:=Z6x I2 I4 f2 hC hD hn ⟨rfl,fun _ _=>rfl⟩ ⟨hz,gL,vs,rk,dd⟩
  have iF:C≠X.env.locals:=fun z=>aT _ (az I2.lt (z ▸ hC))
  have iE:∀x c,X.env.cells.lookup x=some c->c≠C:=fun x c h z=>by
   obtain⟨v,q⟩:=I2.cell x c h
   exact aT _ (az q.lt (z ▸ hC))
  change wpAny (model X.prog X.w) X.A (assign (.Name x bj) X.env (Value.ref D0)) _ _ s4
  refine wpAny_assign_Name (Q9f (v:=.ref D0) Ib hN j4 hx rfl (fun s5 I5 br=>?_) hf)
  obtain⟨a,jw,ha⟩:=br
  obtain⟨m4,gP,_⟩:=id I4.loc
  have kb:C≠a:=by
   rcases ha with ha | ha
   ·rw [ha];exact iF
   ·exact fun z=>iE _ _ ha z.symm
  refine⟨m4,gP.sameBut jw kb,fun h' sb=>?_⟩
  have kc:H4 C=none:=I4.free
  have I6:A0 X ac (σ.set i (some (.ref D0))) (upd H4 D0 (.dK ps)) { s5 with heap:=h' }:=by
   refine I5.turned (t':=s5.toks) (it:=C) (fun b o hb e=>(sb.2 b hb).trans e) (by rw [A9 (bt cE)];exact kc) iF (.inr (aX I2.sz hC)) iE fun p hp z=>?_
   have:=(I2.pin p hp).1
   exact aT _ (az (ay this) (z ▸ hC))
  have i4:A3 H (upd H4 D0 (.dK ps)):=cM.trans (fy.trans (C8 hn _))
  have cG:=(hR.mono i4).set (i:=i) (s:=.dk kvs) (v:=.ref D0) ⟨D0,ps,rfl,hR.same.free (cM.free (I2.hok.fresh hD)),upd_same,kv.mono (Kp.of (C8 hn _)) _ _⟩ fun _ j t hj e m q=>by
   obtain⟨o,ho⟩:=hR.tracked e m q
   rw [cM.free (I2.hok.fresh hD)]at ho;cases ho
  exact⟨_,_,I6,w3 _ _ (Kp.of i4) cG⟩
end
noncomputable def kyD:A7->D
 | .inl i=>.int i
 | .inr x=>.str x
noncomputable def Q2j:List R->(R->Prop)->Prop
 | [.dk kvs],Q=>Q (.nw (kvs.map fun p=>kyD p.1))
 | _,_=>False
theorem Z9k {rs:List R}{Q:R->Prop} (h:Q2j rs Q):∃kvs,rs=[.dk kvs]/\Q (.nw (kvs.map fun p=>kyD p.1)):=by
 unfold Q2j at h
 split at h
 ·exact⟨_,rfl,h⟩
 ·exact h.elim
theorem W0r:Q0q Q2j:=fun x P Q g h=>by
 obtain⟨kvs,rfl,h⟩:=Z9k h
 exact g _ h
theorem Z0y {K:Fg9}{H:Hp}:∀(ps:List (A7×V)),AllS K H (ps.map fun p=>kyD p.1) (ps.map fun p=>kV p.1)
 | []=>AllS.nil
 | (.inl i,v)::r=>AllS.cons A1.s_int (Z0y r)
 | (.inr x,v)::r=>AllS.cons A1.s_str (Z0y r)
theorem B5.keysEq {K:Fg9}{H:Hp}:∀{kvs:List (A7×D)}{ps:List (A7×V)},B5 K H kvs ps->(kvs.map fun p=>kyD p.1)=ps.map fun p=>kyD p.1
 | [],ps,h=>by unfold B5 at h;subst h;rfl
 | p::kvs,ps,h=>by
  unfold B5 at h
  obtain⟨v,r,rfl,iv,h⟩:=h
  rw [aw,aw,B5.keysEq h]
section
variable {X:Cx}
theorem Y7g (hc:X.calm=true):Q0o X (.type "list") Q2j:=by
 intro ac s σ H xs us Q I rv ⟨rs,cw,h⟩
 obtain⟨kvs,rfl,h⟩:=Z9k h
 obtain⟨v,rfl,ir⟩:=V1 cw
 obtain⟨a,ps,rfl,e,kv⟩:=ir
 obtain⟨u,rfl,ru⟩:=T9 rv
 cases ru
 obtain⟨z,hd,vs,rel,dd⟩:=Q7m I.hok e
 obtain⟨ep,da⟩:=dd.dictAt
 have el:vs.length=ps.length:=by rw [<- rel.length]
 refine PySem.W.kdl_call (PySem.W.kdl_dict (knd:=J5 X.prog X.w) (kvs:=vs) (ep:=ep) hd) (I.ok.hd hc) da (by omega) fun h' tk acc c' k e2 it=>?_
 have hn:H s.heap.objs.size=none:=I.hok.fresh (aj _)
 have vl:B4 (ps.map fun p=>kV p.1) acc.toList:=by
  have key:∀(ps:List (A7×V)) (vs:List (A7×Value)) (us:List Value),KV ps vs->us.length=vs.length->(∀(j:Nat) (v:Value),us[j]?=some v->∃k x,vs[j]?=some (k,x)/\(J5 X.prog X.w).is k v=true)->B4 (ps.map fun p=>kV p.1) us:=by
   intro ps
   induction ps with
   | nil=>intro vs us r l _;cases r;cases us with
    | nil=>exact .nil
    | cons _ _=>cases l
   | cons p ps ih =>
    intro vs us r l f
    cases r with
    | @cons _ q _ qs h1 t =>
     cases us with
     | nil=>cases l
     | cons u us =>
      obtain⟨k,x,e1,e2⟩:=f 0 u rfl
      cases e1
      refine .cons ?_ (ih qs us t (by simpa using l) fun j v e=>f (j+1) v (by simpa using e))
      have h1:p.1=k:=h1.1
      show B9 (kV p.1) u
      rw [h1]
      rcases Q0d e2 with⟨i,t,rfl,rfl⟩ | ⟨i,t,rfl,rfl⟩
      ·exact⟨t,rfl⟩
      ·exact⟨t,rfl⟩
  refine key ps vs acc.toList rel (by rw [bN];exact it.1) fun j v e=>it.2 j v (by rw [<- Array.getElem?_toList];exact e)
 refine⟨.ref s.heap.objs.size,_,I.laid (t':=tk) (o:=.lst (ps.map fun p=>kV p.1)) k (aj _) ⟨by rw [ah];exact z,acc.toList,c',vl,by simpa using e2⟩,rfl,h _ _ (C8 hn _) ⟨_,_,rfl,hn,upd_same,?_⟩⟩
 rw [B5.keysEq kv]
 exact Z0y ps
noncomputable def Q0h:List R->(R->Prop)->Prop
 | [r],Q=>∃ns:List Int,S4 r=some (ns.map .int)/\ns≠[]/\∀m,m∈ns->(∀n∈ns,n<=m)->Q (.st (.int m))
 | _,_=>False
theorem Z9v:Q0q Q0h:=fun x P Q g h=>by
 unfold Q0h at h ⊢
 split at h
 ·obtain⟨ns,a,b,c⟩:=h
  exact⟨ns,a,b,fun m h1 h2=>g _ (c m h1 h2)⟩
 ·exact h
theorem Z6n (f:Nat->Int):∀k,argBest (fun i j=>decide (f i > f j)) k<=k/\∀j,j<=k->f j<=f (argBest (fun i j=>decide (f i > f j)) k)
 | 0=>⟨aj _,fun j hj=>by rw [Nat.le_zero.mp hj];exact Int.le_refl _⟩
 | k+1=>by
  obtain⟨h1,h2⟩:=Z6n f k
  unfold argBest
  by_cases e:f (k+1) > f (argBest (fun i j=>decide (f i > f j)) k)
  ·rw [aJ (by simpa using e)]
   refine⟨aj (k+1),fun j hj=>?_⟩
   by_cases z:j<=k
   ·exact Int.le_trans (h2 j z) (Int.le_of_lt e)
   ·rw [show j=k+1 by omega];exact Int.le_refl _
  ·rw [aH (by simpa using e)]
   refine⟨Nat.le_succ_of_le h1,fun j hj=>?_⟩
   by_cases z:j<=k
   ·exact h2 j z
   ·rw [show j=k+1 by omega];omega
theorem Z8n:∀{ns:List Int}{aU:List Value},B4 (ns.map V.int) aU->∃xs:List (Int×Tok),aU=xs.map (fun p=>Value.int p.1 p.2)/\xs.map (·.1)=ns
 | [],aU,r=>by cases r;exact⟨[],rfl,rfl⟩
 | n::ns,aU,r=>by
  cases r with
  | cons h t =>
   obtain⟨tk,e⟩:=h
   obtain⟨xs,e1,e2⟩:=Z8n (ns:=ns) t
   exact⟨(n,tk)::xs,by rw [e,e1];rfl,by rw [aw,e2]⟩
theorem Z6j {K:Fg9}{H:Hp}:∀{ns:List Int}{xs:List V},AllS K H (ns.map .int) xs->xs=ns.map V.int
 | [],xs,h=>by unfold List.map AllS at h;exact h
 | n::ns,xs,h=>by
  rw [aw]at h
  unfold AllS at h
  obtain⟨v,r,rfl,i,t⟩:=h
  unfold A1 at i
  rw [i,Z6j t];rfl
theorem Z7a (hc:X.calm=true):Q0o X (.builtin "max") Q0h:=by
 intro ac s σ H xs us Q I rv ⟨rs,cw,h⟩
 unfold Q0h at h
 split at h
 ·rename_i r
  obtain⟨ns,e1,cb,h⟩:=h
  obtain⟨v,rfl,ir⟩:=V1 cw
  obtain⟨l,ys,rfl,sq,al⟩:=Q2k e1 ir
  obtain⟨u,rfl,ru⟩:=T9 rv
  cases ru
  have ey:=Z6j al
  subst ey
  obtain⟨aU,fD,pl,hz⟩:=I.list sq
  obtain⟨ps,ei,en⟩:=Z8n fD
  subst ei
  have hit:s.heap.IsList l (intItems ps.toArray):=by
   have:=pl.isList
   have e:intItems ps.toArray=(ps.map fun p=>Value.int p.1 p.2).toArray:=by simp [intItems]
   rw [e];exact this
  have gq:0<ps.toArray.size:=by
   cases ps with
   | nil=>exact absurd en.symm cb
   | cons _ _=>simp
  refine max_intList (I.ok.hd hc) hit gq fun v h' tk e k=>?_
  obtain⟨b1,b2⟩:=Z6n (numAt ps.toArray) (ps.toArray.size-1)
  obtain⟨t,et⟩:=intItems_at e
  subst et
  generalize argBest (fun i j=>decide (numAt ps.toArray i > numAt ps.toArray j)) (ps.toArray.size-1)=k0 at b1 b2 e
  have at_:∀j,j<ps.length->ns[j]?=some (numAt ps.toArray j):=fun j hj=>by
   rw [<- en,ak,af hj]
   simp [numAt,hj]
  have qt:k0<ps.length:=by
   have:ps.toArray.size=ps.length:=by simp
   omega
  refine⟨.int (numAt ps.toArray k0),H,I.kept k,⟨t,rfl⟩,h _ (aE (at_ k0 qt)) (fun n hn=>?_) _ _ (A3.refl _) V9⟩
  obtain⟨j,hj,e⟩:=List.getElem_of_mem hn
  have hl:ns.length=ps.length:=by rw [<- en,ah]
  have:=at_ j (by omega)
  rw [af hj,e]at this
  rw [aC this]
  exact b2 j (by
   have:ps.toArray.size=ps.length:=by simp
   omega)
 ·exact h.elim
end
theorem LO.ok {P:Program}{w:World}{H:Hp}{h:Heap}{b:Addr}{xs:List V} (g:LO b xs h):F5 P w H h b (.ext (LO b xs)):=by
 obtain⟨z,aU,n,r,e⟩:=id g
 exact⟨g,⟨_,e⟩,fun h1 h2 ⟨z,aU,n,r,e⟩ k=>⟨z,aU,n,r,k _ e⟩⟩
noncomputable def D4:Option Sl->Bool
 | some (.ll _ _)=>false
 | _=>true
noncomputable def S7:Nat->A6->Bool
 | _,[]=>true
 | 0,_::r=>r.all D4
 | i+1,s::r=>D4 s&&S7 i r
theorem Z3a:∀{i:Nat} {τ:A6}{j:Nat}{a:Addr}{dss:List (List D)},S7 i τ=true->j≠i->τ[j]?≠some (some (.ll a dss))
 | _,[],j,a,dss,_,_=>by simp
 | 0,s::r,0,a,dss,_,h=>absurd rfl h
 | 0,s::r,j+1,a,dss,h,_=>fun e=>by
  have e:r[j]?=some (some (.ll a dss)):=by simpa using e
  have:=bU.mp h _ (aE e)
  cases this
 | i+1,s::r,0,a,dss,h,_=>fun e=>by
  have e:s=some (.ll a dss):=by simpa using e
  subst e
  simp [S7,D4]at h
 | i+1,s::r,j+1,a,dss,h,n=>fun e=>by
  rw [S7,cj]at h
  exact Z3a (i:=i) (j:=j) h.2 (fun z=>n (by rw [z])) (by simpa using e)
theorem F7.length {K:Fg9}{H:Hp}:∀{bs:List Addr}{dss:List (List D)},F7 K H bs dss->bs.length=dss.length
 | [],_,h=>by rw [show _=[]from h];rfl
 | b::bs,_,h=>by obtain⟨ds,r,rfl,_,t⟩:=h;rw [ax,ax,t.length]
theorem F7.get {K:Fg9}{H:Hp}:∀{bs:List Addr}{dss:List (List D)}{j:Nat},F7 K H bs dss->j<dss.length->∃b xs,bs[j]?=some b/\H b=some (.ext (LO b xs))/\AllS K H (dss.getD j []) xs
 | [],_,j,h,l=>by rw [show _=[]from h]at l;simp at l
 | b::bs,_,0,h,l=>by obtain⟨ds,r,rfl,⟨xs,q,al⟩,t⟩:=h;exact⟨b,xs,rfl,q,al⟩
 | b::bs,_,j+1,h,l=>by
  obtain⟨ds,r,rfl,_,t⟩:=h
  obtain⟨b',xs,e,q,al⟩:=F7.get (j:=j) t (by simpa using l)
  exact⟨b',xs,by simpa using e,q,by simpa using al⟩
theorem F7.mem {K:Fg9}{H:Hp}:∀{bs:List Addr}{dss:List (List D)}{b:Addr},F7 K H bs dss->b∈bs->∃xs,H b=some (.ext (LO b xs))
 | [],_,b,h,l=>by cases l
 | c::bs,_,b,h,l=>by
  obtain⟨ds,r,rfl,⟨xs,q,al⟩,t⟩:=h
  rcases aq.mp l with rfl | l
  ·exact⟨xs,q⟩
  ·exact t.mem l
theorem F7.set {K:Fg9}{H H':Hp} (k:Kp H H') {b0:Addr}{kL:List D}{gE:List V} (h0:H' b0=some (.ext (LO b0 gE))) (oB:AllS K H' kL gE) (fk:∀b φ,b≠b0->H b=some (.ext φ)->H' b=some (.ext φ)) :
  ∀{bs:List Addr}{dss:List (List D)}{j:Nat},bs.Nodup->F7 K H bs dss->bs[j]?=some b0->F7 K H' bs (dss.set j kL)
 | [],_,j,_,h,e=>by simp at e
 | b::bs,_,0,n,h,e=>by
  obtain⟨ds,r,rfl,⟨xs,q,al⟩,t⟩:=h
  have e:b=b0:=by simpa using e
  subst e
  rw [bx]at n
  refine⟨kL,r,rfl,⟨gE,h0,oB⟩,?_⟩
  have same:∀{cs:List Addr}{ess:List (List D)},b∉cs->F7 K H cs ess->F7 K H' cs ess:=by
   intro cs
   induction cs with
   | nil=>intro ess _ h;exact h
   | cons c cs ih =>
    intro ess nb h
    obtain⟨ds,r,rfl,⟨xs,q,al⟩,t⟩:=h
    exact⟨ds,r,rfl,⟨xs,fk c _ (fun z=>nb (by rw [z];exact ao)) q,al.mono k _ _⟩,ih (fun z=>nb (ar _ z)) t⟩
  exact same n.1 t
 | b::bs,_,j+1,n,h,e=>by
  obtain⟨ds,r,rfl,⟨xs,q,al⟩,t⟩:=h
  rw [bx]at n
  have e:bs[j]?=some b0:=by simpa using e
  exact⟨ds,r.set j kL,rfl,⟨xs,fk b _ (fun z=>n.1 (by rw [z];exact aE e)) q,al.mono k _ _⟩,F7.set k h0 oB fk n.2 t e⟩
section
variable {X:Cx}{H0:Hp}{o e f v:Expr}{pos apos bi sp:Pos}{we wv:WE}{i:Nat}
theorem Y1e {td ty:TE} (ho:PE X o td) (he:PE X e ty) (m:M1 X o "append" apos e bi):PE X (.Call (.Attribute o "append" apos) [e] [] bi)
  (fun σ H Q=>td σ H fun x H1=>∃b gE,x=.ref b/\H1 b=some (.ext (LO b gE))/\ty σ H1 fun y H2=>∃xs,H2 b=some (.ext (LO b xs))/\xs.length<sizeLine/\Q .non (upd H2 b (.ext (LO b (xs++[y]))))):=by
 intro ac s σ H Q I h
 refine wpAny_Call_method m.base m.few m.line PySem.F.plainAttrs_list PySem.F.slot_list_append PySem.F.type_list_append (B3 (ho ac s σ H _ I h) fun u s1 br=>?_)
 obtain⟨x,H1,I1,rx,b,gE,ex,eb,q1⟩:=br
 subst ex
 obtain rfl:u=Value.ref b:=rx
 obtain⟨_,pH,n0,_,e0⟩:=(show LO b gE s1.heap from(I1.hok b _ eb).1)
 refine⟨⟨_,e0,rfl⟩,fun c ec=>?_,?_⟩
 ·cases ec;exact⟨_,e0,rfl⟩
 rw [m.trees]
 refine eg rfl (de (bT (B3 (he ac s1 σ H1 _ I1 q1) fun yv s2 ⟨y,H2,I2,ry,xs,e2,hz,q2⟩=>cR ?_)))
 obtain⟨z2,aU,n,rv,e3⟩:=(show LO b xs s2.heap from(I2.hok b _ e2).1)
 have el:=rv.length
 refine wpAny_list_append_plain (hsz:=by rw [aA];omega) ⟨n,e3⟩ fun h' hl hs=>⟨.non,_,?_,rfl,q2⟩
 obtain⟨n',e4⟩:=hl
 refine Q2c (t':=s2.toks) I2 (by rw [e2];exact True.intro) hs ⟨_,e4⟩ (LO.ok ⟨by rw [aD];show xs.length+1<=_;omega,aU++[yv],n',rv.append (.cons ry .nil),by simpa using e4⟩)
theorem B6.llAt {K:Fg9}{H:Hp} {τ:A6} {σ:St}{a:Addr}{dss:List (List D)} (hR:B6 K H0 τ σ H) (e1:τ[i]?=some (some (.ll a dss))):σ[i]?=some (some (.ref a))/\Q2x K H0 H a dss:=by
 obtain⟨v,hv,rfl,q⟩:=hR.here i _ e1
 exact⟨hv,q⟩
def rIxE:R2:=fun x y H Q=>∃p xs i v,x=.ref p/\y=.int i/\H p=some (.ext (LO p xs))/\J3 xs i=some v/\Q v H
theorem Z1y {ac:Pn9} {σ:St}{H:Hp}{s:Shared}{p:Addr}{xs:List V} (I:A0 X ac σ H s) (h:H p=some (.ext (LO p xs))):xs.length<=sizeLine/\∃aU n,B4 xs aU/\s.heap.get? p=some { cls:=.type "list",data:=.seq aU.toArray n }:=(I.hok p _ h).1
theorem Q7v:IxR X rIxE:=by
 intro value slice ac s σ H x y v u Q I rx ry h hs
 obtain⟨p,xs,i,z,rfl,rfl,hq,he,q⟩:=h
 cases rx
 obtain⟨t,rfl⟩:=ry
 obtain⟨hz,aU,n,r,e⟩:=Z1y I hq
 have pl:s.heap.IsList p aU.toArray:=⟨_,e,rfl,n,rfl⟩
 obtain⟨j,h1,h2,h3,h4,h5⟩:=Q7e he
 obtain⟨w,ew,fj⟩:=r.get h2
 have hl:=r.length
 have hn:=Q0y
 have fin:EP X ac σ Q w s:=⟨z,H,I,fj,q⟩
 by_cases h0:0<=i
 ·have hj:i.toNat=j:=by
   rw [seqIndex_of h0 h5]at h1
   exact aC h1
  exact item_listR pl h0 (by omega) (by rw [hj];simpa using ew) fin hs
 ·have hj:(i+(aU.toArray.size:Int)).toNat=j:=by
   rw [seqIndex_neg (by omega) h4]at h1
   rw [aA,<- hl]
   exact aC h1
  exact subscriptTail_builtinR (x:=w) pl.typeIs slot_list_getitem.lookup
   (wpAny_getItem_list_neg (Q:=fun r s'=>r=w/\EP X ac σ Q r s') pl (by omega) (by rw [aA] <;> omega) (by omega) (by rw [hj];simpa using ew) ⟨rfl,fin⟩) hs
theorem B6.llre {K:Fg9}{H H':Hp} {τ:A6} {σ:St}{a:Addr}{dss ki:List (List D)} (hR:B6 K H0 τ σ H) (e1:τ[i]?=some (some (.ll a dss))) (hv:σ[i]?=some (some (.ref a))) (only:S7 i τ=true)
  (kp:Kp H H') (ne:∀c u,H c=some u->(∀ φ,u≠.ext φ)->H' c=some u) (sm:A3 H0 H') (ll:Q2x K H0 H' a ki):B6 K H0 (τ.set i (some (.ll a ki))) σ H':=by
 have hl:i<τ.length:=(aL.mp e1).1
 refine⟨by rw [aZ];exact hR.len,sm,fun k t e=>?_,fun k l t u w cb e2 e3 m1 m2 q1 q2=>?_⟩
 ·by_cases hk:k=i
  ·subst hk
   rw [aY hl]at e;cases e
   exact⟨_,hv,rfl,ll⟩
  ·rw [aG (fun z=>hk z.symm)]at e
   obtain⟨w,q,r⟩:=hR.here k t e
   refine⟨w,q,?_⟩
   cases t with
   | dat d=>exact A1.mono kp _ _ r
   | own es=>obtain⟨c,ys,e,n,q,t⟩:=r;exact⟨c,ys,e,n,ne _ _ q (by intro φ z;cases z),t.mono kp _ _⟩
   | bor es=>obtain⟨c,ys,e,q,t⟩:=r;exact⟨c,ys,e,q,t.mono kp _ _⟩
   | bd es=>obtain⟨c,ys,e,q,t⟩:=r;exact⟨c,ys,e,q,t.mono kp _ _⟩
   | dk es=>obtain⟨c,ys,e,n,q,t⟩:=r;exact⟨c,ys,e,n,ne _ _ q (by intro φ z;cases z),t.mono kp _ _⟩
   | dt es=>obtain⟨c,ys,e,n,q,t⟩:=r;exact⟨c,ys,e,n,ne _ _ q (by intro φ z;cases z),t.mono kp _ _⟩
   | ob _=>exact r
   | cl _ _=>exact⟨r.1,r.2.2 _ _ kp r.2.1,r.2.2⟩
   | ll a' d'=>exact absurd e (Z3a only hk)
   | ins _ _ _=>obtain⟨e,n,dx,ys,q,t⟩:=r;exact⟨e,n,dx,ys,ne _ _ q (by intro φ z;cases z),t.mono kp _ _⟩
 ·by_cases hk:k=i
  ·subst hk;rw [aY hl]at e2;cases e2;cases m1
  ·by_cases jm:l=i
   ·subst jm;rw [aY hl]at e3;cases e3;cases m2
   ·rw [aG (fun z=>hk z.symm)]at e2
    rw [aG (fun z=>jm z.symm)]at e3
    exact hR.apart k l t u w cb e2 e3 m1 m2 q1 q2
theorem B6.llset {K:Fg9}{H:Hp} {τ:A6} {σ:St}{a b:Addr}{dss:List (List D)}{j:Nat}{ds:List D}{bs:List Addr}{gE xs:List V} (hR:B6 K H0 τ σ H) (e1:τ[i]?=some (some (.ll a dss))) (hv:σ[i]?=some (some (.ref a))) (only:S7 i τ=true)
  (ha:H a=some (.ext (LO a (bs.map V.ref)))/\H0 a=none/\a∉bs) (nd:bs.Nodup) (h0:∀b∈bs,H0 b=none) (ll:F7 K H bs dss) (ej:bs[j]?=some b) (eb:H b=some (.ext (LO b gE))) (al:AllS K H ds xs) :
  Kp H (upd H b (.ext (LO b xs)))/\B6 K H0 (τ.set i (some (.ll a (dss.set j ds)))) σ (upd H b (.ext (LO b xs))):=by
 have kp:Kp H (upd H b (.ext (LO b xs))):=Kp.updM eb (by intro xs z;cases z) (by intro o u z;cases z) _
 have qL:H0 b=none:=h0 b (aE ej)
 refine⟨kp,hR.llre e1 hv only kp (fun c u q n=>by rw [A9 (X5 q eb (n _))];exact q) (fun c u q=>by rw [A9 (fun z=>by rw [z,qL]at q;cases q)];exact hR.same c u q)
  ⟨bs,⟨by rw [A9 (show a≠b from fun z=>ha.2.2 (by rw [z];exact aE ej))];exact ha.1,ha.2⟩,nd,h0,F7.set kp upd_same (al.mono kp _ _) (fun c φ hc q=>by rw [A9 hc];exact q) nd ll ej⟩⟩
def Q6t (i:Nat) (we wv:WE):WS:=fun E τ=>∃a dss,τ[i]?=some (some (.ll a dss))/\S7 i τ=true/\we τ fun r=>∃k j,r=.st (.int k)/\O1 dss.length k=some j/\wv τ fun r2=>∃d,r2=.st d/\(dss.getD j []).length<sizeLine /\
 E.nx (τ.set i (some (.ll a (dss.set j (dss.getD j []++[d])))))
theorem DS.llapp {b:Expr} (ho:PE X b (J8 i)) (he:DE X H0 e we) (hv:DE X H0 v wv) (hpl:Q3b e) (m:M1 X (.Subscript b e pos) "append" apos v bi) (fm:swapsWith (.Call (.Attribute (.Subscript b e pos) "append" apos) [v] [] bi) none sp.line X.env=pure false:=by rfl) :
  DS X H0 (.Expr (.Call (.Attribute (.Subscript b e pos) "append" apos) [v] [] bi) sp) (Q6t i we wv) where
 mono:=fun τ E F le ⟨a,dss,e1,o,h⟩=>⟨a,dss,e1,o,he.mono τ _ _ (fun r ⟨k,j,a1,a2,h⟩=>⟨k,j,a1,a2,hv.mono τ _ _ (fun r ⟨d,b1,b2,b3⟩=>⟨d,b1,b2,le.nx _ b3⟩) h⟩) h⟩
 ps:=L6 (Q8l (Y1e (Q6j Q7v ho he.pe hpl) hv.pe m) fm) fun D σ H ⟨τ,hR,a,dss,e1,only,h⟩=>by
  obtain⟨dv,_⟩:=hR.llAt e1
  refine⟨_,dv,τ,hR,he.mono τ _ _ (fun r ⟨k,j,a1,a2,h⟩ y H1 s1 ik=>?_) h⟩
  subst a1
  cases (show y=.int k from ik)
  have cU:=hR.mono s1
  obtain⟨_,bs,ha,nd,h0,ll⟩:=cU.llAt e1
  have el:=ll.length
  obtain⟨_,hj,_,_⟩:=Q5o a2
  obtain⟨b0,xs,ej,eb,al⟩:=ll.get hj
  have iA:J3 (bs.map V.ref) k=some (V.ref b0):=by unfold J3;rw [ah,el,a2];show(bs.map V.ref)[j]?=_;rw [ak,ej];rfl
  refine⟨a,bs.map V.ref,k,V.ref b0,rfl,rfl,ha.1,iA,b0,xs,rfl,eb,τ,cU,hv.mono τ _ _ (fun r ⟨d,b1,b2,b3⟩ u H2 s2 iv=>?_) h⟩
  subst b1
  have cX:=cU.mono s2
  have cO:=al.mono (Kp.of s2) _ _
  refine⟨xs,s2 _ _ eb,by rw [<- al.length];exact b2,?_⟩
  obtain⟨kp,k9⟩:=cX.llset (xs:=xs++[u]) (ds:=dss.getD j []++[d]) e1 dv only ⟨s2 _ _ ha.1,ha.2⟩ nd h0 (ll.keep (Kp.of s2) fun b φ q=>s2 _ _ q) ej (s2 _ _ eb) (cO.append (AllS.cons iv AllS.nil))
  exact b3 _ _ ((Kp.of (s1.trans s2)).trans kp) k9
theorem Z8q {ac:Pn9} {σ:St}{H:Hp}{s:Shared}{b:Addr}{xs:List V} (I:A0 X ac σ H s) (h:H b=some (.ext (LO b xs))):∃o,A0 X ac σ (upd H b (.frz o (.lst xs))) s:=by
 obtain⟨z,aU,n,r,q⟩:=(show LO b xs s.heap from(I.hok b _ h).1)
 refine⟨_,I.write (t':=s.toks) (h':=s.heap) (e:=b) (o:=.frz { cls:=.type "list",data:=.seq aU.toArray n } (.lst xs)) (by rw [h];trivial) (.inl rfl) (fun b u _ k=>k) ⟨_,q⟩ ?_⟩
 exact⟨q,z,aU,n,r,q⟩
theorem Z8o {ac:Pn9} {σ:St}{s:Shared}:∀{bs:List Addr}{dss:List (List D)}{H:Hp},A0 X ac σ H s->bs.Nodup->F7 X.K H bs dss ->
  ∃H',A0 X ac σ H' s/\Kp H H'/\(∀c,c∉bs->H' c=H c)/\(∀c u,H c=some u->(∀ φ,u≠.ext φ)->H' c=some u)/\AllS X.K H' (dss.map .lst) (bs.map V.ref)
 | [],dss,H,I,_,h=>by
  rw [show dss=[]from h]
  exact⟨H,I,Kp.refl H,fun _ _=>rfl,fun _ _ q _=>q,AllS.nil⟩
 | b::bs,dss,H,I,n,h=>by
  obtain⟨ds,r,rfl,⟨xs,q,al⟩,t⟩:=h
  rw [bx]at n
  obtain⟨o,I1⟩:=Z8q I q
  have kp:Kp H (upd H b (.frz o (.lst xs))):=Kp.updM q (by intro xs z;cases z) (by intro o u z;cases z) _
  have t1:F7 X.K (upd H b (.frz o (.lst xs))) bs r:=by
   have same:∀{cs:List Addr}{ess:List (List D)},b∉cs->F7 X.K H cs ess->F7 X.K (upd H b (.frz o (.lst xs))) cs ess:=by
    intro cs
    induction cs with
    | nil=>intro ess _ h;exact h
    | cons c cs ih =>
     intro ess nb h
     obtain⟨ds,r,rfl,⟨xs,q,al⟩,t⟩:=h
     exact⟨ds,r,rfl,⟨xs,by rw [A9 (fun z=>nb (by rw [z];exact ao))];exact q,al.mono kp _ _⟩,ih (fun z=>nb (ar _ z)) t⟩
   exact same n.1 t
  obtain⟨H',I2,k2,o2,e2,cO⟩:=Z8o I1 n.2 t1
  refine⟨H',I2,kp.trans k2,fun c hc=>?_,fun c u hq hu=>?_,AllS.cons (A1.s_lst (.inl ⟨o,k2.frz _ _ _ upd_same⟩) ((al.mono kp _ _).mono k2 _ _)) cO⟩
  ·rw [o2 c (fun z=>hc (ar _ z)),A9 (fun z=>hc (by rw [z];exact ao))]
  ·exact e2 c u (by rw [A9 (X5 hq q (hu _))];exact hq) hu
def Q9s (i:Nat) (w:WS):WS:=fun E τ=>w { E with nx:=fun τ'=>∃a dss,τ'[i]?=some (some (.ll a dss))/\S7 i τ'=true/\E.nx (τ'.set i (some (.dat (.lst (dss.map .lst))))) } τ
theorem DS.fzL {st:Stmt}{w:WS} (i:Nat) (h:DS X H0 st w):DS X H0 st (Q9s i w) where
 mono:=fun τ E F le q=>h.mono τ { E with nx:=fun τ'=>∃a dss,τ'[i]?=some (some (.ll a dss))/\S7 i τ'=true/\E.nx (τ'.set i (some (.dat (.lst (dss.map .lst))))) } { F with nx:=fun τ'=>∃a dss,τ'[i]?=some (some (.ll a dss))/\S7 i τ'=true/\F.nx (τ'.set i (some (.dat (.lst (dss.map .lst))))) }
  ⟨fun τ' ⟨a,dss,e,o,q⟩=>⟨a,dss,e,o,le.nx _ q⟩,le.rt,le.bk,le.ct⟩ q
 ps:=L6 (Q3t h.ps) fun D σ H ⟨τ,hR,q⟩=>⟨τ,hR,h.mono τ { K0 X.K H0 H D with nx:=fun τ'=>∃a dss,τ'[i]?=some (some (.ll a dss))/\S7 i τ'=true/\(K0 X.K H0 H D).nx (τ'.set i (some (.dat (.lst (dss.map .lst))))) } _
  ⟨fun τ' ⟨a,dss,e,only,q⟩ σ' H' kp cG ac s I=>by
   obtain⟨hv,bs,ha,nd,h0,ll⟩:=cG.llAt e
   obtain⟨H1,I1,k1,o1,e1,eY⟩:=Z8o I nd ll
   have ma:H1 a=some (.ext (LO a (bs.map V.ref))):=by rw [o1 a ha.2.2];exact ha.1
   obtain⟨ob,I2⟩:=Z8q I1 ma
   have k3:Kp H1 (upd H1 a (.frz ob (.lst (bs.map V.ref)))):=Kp.updM ma (by intro xs z;cases z) (by intro o u z;cases z) _
   have k2:=k1.trans k3
   have e2:∀c u,H' c=some u->(∀ φ,u≠.ext φ)->upd H1 a (.frz ob (.lst (bs.map V.ref))) c=some u:=fun c u q n=>by rw [A9 (X5 (e1 c u q n) ma (n _))];exact e1 c u q n
   have cO:=eY.mono k3 _ _
   have hl:i<τ'.length:=(aL.mp e).1
   refine⟨_,I2,q σ' _ (kp.trans k2) ⟨by rw [aZ];exact cG.len,fun c u hq=>?_,fun k t et=>?_,fun k l t u w cb et eu m1 m2 q1 q2=>?_⟩⟩
   ·rw [A9 (fun z=>by rw [z,ha.2.1]at hq;cases hq),o1 c (fun z=>by rw [h0 c z]at hq;cases hq)];exact cG.same c u hq
   ·by_cases hk:k=i
    ·subst hk
     rw [aY hl]at et;cases et
     exact⟨_,hv,A1.s_lst (K:=X.K) (.inl ⟨ob,upd_same⟩) cO⟩
    ·rw [aG (fun z=>hk z.symm)]at et
     obtain⟨w,q,r⟩:=cG.here k t et
     refine⟨w,q,?_⟩
     cases t with
     | dat d=>exact A1.mono k2 _ _ r
     | own es=>obtain⟨c,ys,e,n,q,t⟩:=r;exact⟨c,ys,e,n,e2 _ _ q (by intro φ z;cases z),t.mono k2 _ _⟩
     | bor es=>obtain⟨c,ys,e,q,t⟩:=r;exact⟨c,ys,e,q,t.mono k2 _ _⟩
     | bd es=>obtain⟨c,ys,e,q,t⟩:=r;exact⟨c,ys,e,q,t.mono k2 _ _⟩
     | dk es=>obtain⟨c,ys,e,n,q,t⟩:=r;exact⟨c,ys,e,n,e2 _ _ q (by intro φ z;cases z),t.mono k2 _ _⟩
     | dt es=>obtain⟨c,ys,e,n,q,t⟩:=r;exact⟨c,ys,e,n,e2 _ _ q (by intro φ z;cases z),t.mono k2 _ _⟩
     | ob _=>exact r
     | cl _ _=>exact⟨r.1,r.2.2 _ _ k2 r.2.1,r.2.2⟩
     | ll a' d'=>exact absurd et (Z3a only hk)
     | ins _ _ _=>obtain⟨e,n,dx,ys,q,t⟩:=r;exact⟨e,n,dx,ys,e2 _ _ q (by intro φ z;cases z),t.mono k2 _ _⟩
   ·by_cases hk:k=i
    ·subst hk;rw [aY hl]at et;cases et;cases m1
    ·by_cases jm:l=i
     ·subst jm;rw [aY hl]at eu;cases eu;cases m2
     ·rw [aG (fun z=>hk z.symm)]at et
      rw [aG (fun z=>jm z.symm)]at eu
      exact cG.apart k l t u w cb et eu m1 m2 q1 q2,fun _ h=>h,fun _ h=>h,fun _ h=>h⟩ q⟩
end
noncomputable def X2 (g:WG) (we:WE):List D->A6->(List (List D)->Prop)->Prop
 | [],_,Q=>Q []
 | d::ds,τ,Q=>g d τ fun τ'=>we τ' fun r=>∃es,r=.nw es/\X2 g we ds τ' fun ess=>Q (es::ess)
theorem Z7m {g:WG}{we:WE} (hg:∀d τ (P Q:A6->Prop),(∀ τ,P τ->Q τ)->g d τ P->g d τ Q) (he:∀(τ:A6) (P Q:R->Prop),(∀r,P r->Q r)->we τ P->we τ Q) :
  ∀(ds:List D) (τ:A6) (P Q:List (List D)->Prop),(∀es,P es->Q es)->X2 g we ds τ P->X2 g we ds τ Q
 | [],_,_,_,f,h=>f _ h
 | d::ds,τ,P,Q,f,h=>hg d τ _ _ (fun τ' h=>he τ' _ _ (fun r ⟨e,e1,h⟩=>⟨e,e1,Z7m hg he ds τ' _ _ (fun es h=>f _ h) h⟩) h) h
theorem F7.append {K:Fg9}{H:Hp}{b:Addr}{ds:List D}{xs:List V} (q:H b=some (.ext (LO b xs))) (al:AllS K H ds xs):∀{bs:List Addr}{dss:List (List D)},F7 K H bs dss->F7 K H (bs++[b]) (dss++[ds])
 | [],dss,h=>by rw [show dss=[]from h];exact⟨ds,[],rfl,⟨xs,q,al⟩,rfl⟩
 | c::bs,dss,h=>by obtain⟨es,r,rfl,x,t⟩:=h;exact⟨es,r++[ds],rfl,x,t.append q al⟩
theorem Z4e:∀(bs:List Addr),B4 (bs.map V.ref) (bs.map Value.ref)
 | []=>.nil
 | b::bs=>.cons rfl (Z4e bs)
section
variable {X:Cx}{H0:Hp}{tg iter dH:Expr}{scope:Scope}{pos bj eA:Pos}{N:List Str}{nt:Nat}{cap:List Nat}{wi:M6}{g:WG}{we:WE}
theorem W0e {use:Option (Value->Sem Unit)}{QQ:VS9}{P:List (List D)->Prop}{fS:Pos}{ac:Pn9}{s:Shared} {σ:St}{H:Hp} {τ:A6} (hc:X.calm=true) (B:G7 X scope N nt cap) (hi:D7 X H0 tg iter wi)
  (hg:∀C s H fp,DG (blk X scope C s H fp N) H tg g) (he:∀C s H fp,DE (blk X scope C s H fp N) H dH we) (hs:∀x,foldedSetIterable iter X.env x=pure x)
  (I:A0 X ac σ H s) (hR:B6 X.K H0 τ σ H) (hw:wi τ fun ds=>ds.length<=sizeLine/\X2 g we ds (Q3 nt cap τ) P)
  (fin:∀(C D0:Addr) (s2 s4:Shared) (H2 H4:Hp) (fp:List Addr) (pb:Pn9) (σ4:St) (bs:List Addr) (nn:Nat) (dss:List (List D)) (f:Flow),A0 X ac σ H2 s2->A3 H H2->A0 (blk X scope C s2 H2 fp N) pb σ4 H4 s4->(∀b∈fp,J9 X ac H2 b) ->
   s2.heap.objs.size<=C->s2.heap.objs.size<=D0->D0≠C->H4 D0=none->s4.heap.get? D0=some { cls:=.type "list",data:=.seq (bs.map Value.ref).toArray nn }->bs.length<=sizeLine->A3 H2 H4->bs.Nodup->(∀b∈bs,H2 b=none)->F7 X.K H4 bs dss->P dss->compPost (model X.prog X.w) X.A X.xe use QQ (.ref D0) C (.ok f) s4) :
  wpAny (model X.prog X.w) X.A (comprehension (.ListComp dH [⟨tg,iter,[],0⟩] scope pos) scope X.env fS (newList []) false (eval iter X.env) use) QQ X.xe s:=by
 refine wpAny_comprehension_free rfl hs (Q7l fun y hy e=>I.ok.has y.1 (B.free y hy e)) B.kind B.names ?_
 refine B3 (hi.pi ac s σ H (fun J H2=>A3 H H2/\∃ds,YlS X.K J ds H2/\ds.length<=sizeLine/\X2 g we ds (Q3 nt cap τ) P) I
  ⟨τ,hR,hi.mono τ _ _ (fun ds h J H' sm yl=>⟨sm,ds,yl,h.1,h.2⟩) hw⟩) fun v s1 h1=>B3 h1 fun ic s2 h2=>?_
 obtain⟨it,fp,tn,J,H2,e,I2,T,dG,f2,cM,ds,yl,hz,jH⟩:=h2
 subst e
 have eS:∀b∈fp,b<s2.heap.objs.size:=fun b hb=>by
  obtain⟨o,ho,_⟩:=T.obj _ _ dG b hb
  exact ay ho
 have cX:=hR.mono cM
 refine bb (fJ B.cell (by intro y hy;simp at hy) (fun h₁ cC cp=>?_) B.kind)
 dsimp only at cC cp ⊢
 generalize hH2:s2.heap.push { cls:=.type "list",dict:=none,data:=.seq ([]:List Value).toArray }=Hq at cC cp ⊢
 have hC:Hq.objs.size=s2.heap.objs.size+1:=by rw [<- hH2,bv]
 have cE:s2.heap.objs.size≠Hq.objs.size:=by rw [hC];exact aB (cf _)
 have cm:s2.heap.objs.size<=Hq.objs.size:=by rw [hC];exact cx _
 have old:∀b o,s2.heap.get? b=some o->h₁.get? b=some o:=fun b o e=>cp.extBut b o (by rw [hC];exact aB (be (ay e))) (ae _ (hH2 ▸ ae _ e))
 have dl:h₁.PlainList s2.heap.objs.size #[]:=⟨_,cp.extBut _ _ cE (ae _ (hH2 ▸ aF _ rfl))⟩
 generalize hCe:Hq.objs.size=C at cC cp hC cE cm ⊢
 generalize hDe:s2.heap.objs.size=D0 at hC cE cm dl ⊢
 have cL:∀b∈fp,b<D0:=fun b hb=>hDe ▸ eS b hb
 have dB:tn 0 h₁:=T.keep _ _ _ dG fun b _ o e=>old b o e
 have jd:=Q7h (C:=C) (h':=h₁) (t':=s2.toks+([]:List (Str×Value)).length) I2 B f2 eS (by rw [hDe];exact cm) cC old
 have fH:H2 D0=none:=I2.hok.fresh (by rw [hDe];exact aj _)
 have iP:D0∉frs X.stack:=fun z=>by
  rcases aq.mp (I2.stkSub _ z)with e | e
  ·have:=I2.lt;rw [<- e,hDe]at this;exact aT _ this
  ·exact I2.nofs (by rw [hDe];exact aj _) e
 have iQ:∀x c,(Q4 X.env scope.names []).lookup x=some c->c≠D0:=fun x c h z=>by
  obtain⟨v,q⟩:=I2.cell x c (U0 I2 B h)
  have:=q.lt
  rw [z,hDe]at this
  exact aT _ this
 have dA:∀{pb:Pn9} {σ':St}{H':Hp}{s':Shared}{ys:Array Value}{n:Nat},A0 (blk X scope C s2 H2 fp N) pb σ' H' s'->H' D0=none->s'.heap.get? D0=some { cls:=.type "list",data:=.seq ys n } ->
   A0 (blk X scope C s2 H2 fp N) [(D0,{ cls:=.type "list",data:=.seq ys n })] σ' H' s':=by
  intro pb σ' H' s' ys n I' n' e
  refine I'.pins_of fun p hp=>?_
  have e':p=(D0,{ cls:=.type "list",data:=.seq ys n }):=by simpa using hp
  subst e'
  exact⟨e,n',cE,iP,fun v z=>by cases z⟩
 have eV:∀{H':Hp}{ob:Obj},(∀b∈fp,H' b=none)->∀b∈fp,J9 (blk X scope C s2 H2 fp N) [(D0,ob)] H' b:=by
  intro H' ob hn b hb
  refine⟨hn b hb,(aB (az (cL b hb) cm)),fun z=>?_,.inl hb,fun x c h=>(f2 b hb).2.2.2.2.1 x c (U0 I2 B h),fun p hp=>?_⟩
  ·rcases aq.mp (I2.stkSub b z)with e | e
   ·exact(f2 b hb).2.1 e
   ·exact(f2 b hb).2.2.1 e
  ·have e':p=(D0,ob):=by simpa [blk]using hp
   subst e'
   exact(aB (cL b hb)).symm
 let iH:Nat->Shared->Prop:=fun k s'=>∃(i:Nat) (σ':St) (H':Hp) (τ':A6) (nn:Nat) (bs:List Addr) (dss:List (List D)),A0 (blk X scope C s2 H2 fp N) [(D0,{ cls:=.type "list",data:=.seq (bs.map Value.ref).toArray nn })] σ' H' s'/\B6 X.K H2 τ' σ' H'/\tn i s'.heap /\
  (∀b∈fp,H' b=none)/\H' D0=none/\bs.Nodup/\(∀b∈bs,H2 b=none)/\F7 X.K H' bs dss/\i<=ds.length/\k=ds.length-i/\bs.length=i/\X2 g we (ds.drop i) τ' fun ess=>P (dss++ess)
 have loop:∀s₃:Shared,s₃={ s2 with heap:=h₁,toks:=s2.toks+([]:List (Str×Value)).length } ->
   codeAny (model X.prog X.w) X.A (.compLoop (.ListComp dH [⟨tg,iter,[],0⟩] scope pos) 0 (.ref it) (.ref D0) (compEnvC scope (Q4 X.env scope.names []) C X.env))
    (compPost (model X.prog X.w) X.A X.xe use QQ (.ref D0) C) s₃:=by
  rintro s₃ rfl
  obtain⟨nn,ho⟩:=id dl
  refine Z1g iH ?_ ds.length ⟨0,_,H2,Q3 nt cap τ,nn,[],[],dA jd fH ho,Z3i cX nt cap,dB,fun b hb=>(f2 b hb).1,fH,jq,(by intro b hb;cases hb),rfl,ba _,rfl,rfl,by simpa using jH⟩
  rintro k s3 ⟨i,σ3,H3,τ3,nn,bs,dss,I3,R3,eJ,fg,d3,mX,f3,ln,nD,rfl,io,w3⟩
  have bY:A3 H2 H3:=R3.same
  by_cases bR:i<ds.length
  ·refine aR (T.item (blk X scope C s2 H2 fp N) rfl rfl rfl hc i _ s3 σ3 H3 (fun _ _=>False) I3 (eV fg) eJ (yl.go H3 bY i bR)) (fun r s4 br=>?_) fun _ _ z=>z
   obtain⟨u,hr,h4⟩:=br
   subst hr
   refine aR h4 (fun _ s5 br=>?_) fun _ _ z=>z
   obtain⟨x,H5,I5,r5,y5,dF,gX⟩:=br
   obtain⟨fB,ix⟩:=yl.yld H3 bY i x H5 _ (af bR) y5
   rw [cD bR]at w3
   have h8:=I5.pinned (eV gX) (T.obj _ _ dF)
   refine aR ((hg C s2 H2 fp).pg _ s5 σ3 H5 x u (fun σ6 H6=>∃ τ6,B6 X.K H2 τ6 σ6 H6/\A3 H5 H6/\we τ6 fun r=>∃es,r=.nw es/\X2 g we (ds.drop (i+1)) τ6 fun ess=>P (dss++(es::ess)))
    h8 r5 ⟨τ3,ds[i],R3.mono fB,ix,(hg C s2 H2 fp).mono _ _ _ _ (fun τ6 h6 σ6 H6 fQ R6=>⟨τ6,R6,fQ,h6⟩) w3⟩) (fun _ s6 ⟨σ6,H6,I6,τ6,R6,fQ,w6⟩=>?_) fun _ _ z=>z
   refine wpAny_tests_nil ?_
   rw [aJ rfl]
   refine aR ((he C s2 H2 fp).pe _ s6 σ6 H6 (fun v H8=>A3 H6 H8/\∃es,E1 X.K H6 H8 (.nw es) v/\X2 g we (ds.drop (i+1)) τ6 fun ess=>P (dss++(es::ess))) I6
    ⟨τ6,R6,(he C s2 H2 fp).mono τ6 _ _ (fun r ⟨e,e1,h⟩ v H8 fP ir=>⟨fP,e,by subst e1;exact ir,h⟩) w6⟩) (fun y s8 ⟨v8,H8,I8,iN,oN,es,⟨b,xs,eb,nb,jX,rH⟩,w8⟩=>?_) fun _ _ z=>z
   subst eb
   obtain rfl:y=Value.ref b:=iN
   have pd:=I8.pin (D0,_) (av _ (bf _ ao))
   obtain⟨o8,d8,_⟩:=pd
   have qK:b≠D0:=fun z=>by rw [z,d8]at jX;cases jX
   obtain⟨zb,lv,p7,rb,ob⟩:=I8.hok b _ jX
   have oC:A0 (blk X scope C s2 H2 fp N) ([(D0,{ cls:=.type "list",data:=.seq (bs.map Value.ref).toArray nn })]++T7 fp s5.heap) σ6 (upd H8 b (.ext (LO b xs))) s8 :=
    I8.write (t':=s8.toks) (h':=s8.heap) (e:=b) (by rw [jX];trivial) (.inl rfl) (fun c u _ k=>k) ⟨_,ob⟩ (LO.ok ⟨zb,lv,p7,rb,ob⟩)
   have kp:Kp H8 (upd H8 b (.ext (LO b xs))):=Kp.upd jX _
   have iM:A3 H6 (upd H8 b (.ext (LO b xs))):=fun c u q=>by rw [A9 (U3 q nb)];exact oN c u q
   have jG:(bs.map Value.ref).toArray.size<=sizeLine:=by simp;omega
   refine wpAny_list_append_plain (hsz:=jG) ⟨nn,o8⟩ fun h₅ jL iU=>?_
   have ko:A0 (blk X scope C s2 H2 fp N) (T7 fp s5.heap) σ6 (upd H8 b (.ext (LO b xs))) s8:=oC.pins_of fun p hp=>oC.pin p (av _ (av _ hp))
   have mE:upd H8 b (.ext (LO b xs)) D0=none:=by rw [A9 (bt qK)];exact d8
   have I9:A0 (blk X scope C s2 H2 fp N) (T7 fp s5.heap) σ6 (upd H8 b (.ext (LO b xs))) { s8 with heap:=h₅ }:=by
    refine ko.turned (t':=s8.toks) (it:=D0) (fun c o hb e=>(iU.2 c hb).trans e) mE cE (.inr (by rw [<- hDe];exact aj _)) iQ (fun p hp z=>?_)
    obtain⟨q1,_⟩:=Q6h (by simpa [blk]using hp)
    exact aB (cL _ q1) z
   obtain⟨jB,o9⟩:=jL
   have oU:h₅.get? D0=some { cls:=.type "list",data:=.seq ((bs++[b]).map Value.ref).toArray jB }:=by rw [o9];simp
   have ku:A3 H3 H6:=fB.trans fQ
   have ju:tn (i+1) h₅:=T.keep _ _ _ dF fun b hb o e=>(I9.pin (b,o) (av _ (Q0i hb e))).1
   have pj:F7 X.K (upd H8 b (.ext (LO b xs))) bs dss:=ln.keep (Kp.of (ku.trans iM)) fun c φ q=>(ku.trans iM) _ _ q
   refine⟨ds.length-(i+1),by omega,i+1,σ6,_,τ6,jB,bs++[b],dss++[es],dA I9 mE oU,R6.mono iM,ju,fun c hb=>?_,mE,?_,fun c hc=>?_,pj.append upd_same (rH.mono kp _ _),bR,rfl,by rw [aD,io];rfl,by simpa using w8⟩
   ·obtain⟨o,e,_⟩:=T.obj _ _ dF c hb
    exact(I9.pin (c,o) (av _ (Q0i hb e))).2.1
   ·rw [bC]
    refine⟨mX,by simp,fun c hc c' cN z=>?_⟩
    rw [show c'=b by simpa using cN]at z
    obtain⟨jt,q⟩:=ln.mem hc
    have q6:=ku _ _ q
    rw [z,nb]at q6;cases q6
   ·rcases aS.mp hc with z | z
    ·exact f3 c z
    ·rw [aN.mp z]
     exact(bY.trans ku).free nb
  ·have e:i=ds.length:=by omega
   subst e
   refine aR (T.done (blk X scope C s2 H2 fp N) rfl rfl rfl hc ds.length _ s3 σ3 H3 (fun _ _=>False) I3 (eV fg) eJ (yl.stop H3 bY)) (fun r s4 br=>?_) fun _ _ z=>z
   obtain⟨hr,I4⟩:=br
   subst hr
   have o4:=(I4.pin (D0,_) (av _ ao)).1
   rw [fM]at w3
   have w3:P (dss++[]):=w3
   rw [bD]at w3
   exact fin C D0 s2 s4 H2 H3 fp _ σ3 bs nn dss _ I2 cM I4 f2 (by rw [hDe];exact cm) (by rw [hDe];exact aj _) cE d3 o4 (by omega) bY mX f3 ln w3
 exact codeAny_compStart_list (loop _ rfl) (T.self _ 0 _ _ _ dB (loop _ rfl))
def Z4o (i nt:Nat) (cap:List Nat) (wi:M6) (g:WG) (we:WE):WS:=fun E τ=>wi τ fun ds=>ds.length<=sizeLine/\X2 g we ds (Q3 nt cap τ) fun dss=>∀a,E.nx (τ.set i (some (.ll a dss)))
theorem DS.setLC {i:Nat}{x:Str} (hc:X.calm=true) (B:G7 X scope N nt cap) (hi:D7 X H0 tg iter wi) (hg:∀C s H fp,DG (blk X scope C s H fp N) H tg g) (he:∀C s H fp,DE (blk X scope C s H fp N) H dH we) (hN:X.N.Nodup) (j4:X.N[i]?=some x) (hx:Loc X.env.scope x)
  (fm:swapsWith (.ListComp dH [⟨tg,iter,[],0⟩] scope pos) (some (.Name x bj)) eA.line X.env=pure true:=by rfl) (hs:∀x,foldedSetIterable iter X.env x=pure x:=by intro _;rfl)
  (hf:X.fn x=true\/X.env.scope.names.lookup x=some .local:=by first | exact .inl rfl | exact .inr rfl | assumption) :
  DS X H0 (.Assign [.Name x bj] (.ListComp dH [⟨tg,iter,[],0⟩] scope pos) eA) (Z4o i nt cap wi g we) where
 mono:=fun τ E F le h=>hi.mono τ _ _ (fun ds h=>⟨h.1,Z7m (hg 0 X.s₀ X.H₀ []).mono (he 0 X.s₀ X.H₀ []).mono ds _ _ _ (fun es h a=>le.nx _ (h a)) h.2⟩) h
 ps:=by
  intro ac s σ H D I ⟨τ,hR,hw⟩
  rw [exec_Assign_Name_used _ _ _ _ fm]
  refine aa (fx (aa ?_))
  change wpAny (model X.prog X.w) X.A (do let _ <- comprehension (.ListComp dH [⟨tg,iter,[],0⟩] scope pos) scope X.env _ (newList []) false (eval iter X.env) (some (assign (.Name x bj) X.env))) _ _ s
  refine aa (aR (W0e (use:=some (assign (.Name x bj) X.env)) (QQ:=fun _ s'=>SP X ac D .next s') hc B hi hg he hs I hR hw fun C D0 s2 s4 H2 H4 fp pb σ4 bs nn dss f I2 cM I4 f2 hC hD cE hn ho hz fy nd fr ll w3=>?_)
   (fun _ s' hq=>ai (ai hq)) fun _ _ e=>e)
  have Ib:A0 X ac σ (upd H4 D0 (.ext (LO D0 (bs.map V.ref)))) { s4 with heap:=s4.heap } :=
   Z6x I2 I4 f2 hC hD hn ⟨rfl,fun _ _=>rfl⟩ (LO.ok ⟨by rw [ah];exact hz,bs.map Value.ref,nn,Z4e bs,ho⟩)
  have iF:C≠X.env.locals:=fun z=>aT _ (az I2.lt (z ▸ hC))
  have iE:∀x c,X.env.cells.lookup x=some c->c≠C:=fun x c h z=>by
   obtain⟨v,q⟩:=I2.cell x c h
   exact aT _ (az q.lt (z ▸ hC))
  change wpAny (model X.prog X.w) X.A (assign (.Name x bj) X.env (Value.ref D0)) _ _ s4
  refine wpAny_assign_Name (Q9f (v:=.ref D0) Ib hN j4 hx rfl (fun s5 I5 br=>?_) hf)
  obtain⟨a,jw,ha⟩:=br
  obtain⟨m4,gP,_⟩:=id I4.loc
  have kb:C≠a:=by
   rcases ha with ha | ha
   ·rw [ha];exact iF
   ·exact fun z=>iE _ _ ha z.symm
  refine⟨m4,gP.sameBut jw kb,fun h' sb=>?_⟩
  have kc:H4 C=none:=I4.free
  have I6:A0 X ac (σ.set i (some (.ref D0))) (upd H4 D0 (.ext (LO D0 (bs.map V.ref)))) { s5 with heap:=h' }:=by
   refine I5.turned (t':=s5.toks) (it:=C) (fun b o hb e=>(sb.2 b hb).trans e) (by rw [A9 (bt cE)];exact kc) iF (.inr (aX I2.sz hC)) iE fun p hp z=>?_
   have:=(I2.pin p hp).1
   exact aT _ (az (ay this) (z ▸ hC))
  have i4:A3 H (upd H4 D0 (.ext (LO D0 (bs.map V.ref)))):=cM.trans (fy.trans (C8 hn _))
  have cG:=(hR.mono i4).set (i:=i) (s:=.ll D0 dss) (v:=.ref D0) ⟨rfl,bs,⟨upd_same,((hR.same.trans cM).trans fy).free hn,fun z=>by obtain⟨xs,q⟩:=ll.mem z;rw [hn]at q;cases q⟩,nd,fun b hb=>(hR.same.trans cM).free (fr b hb),ll.keep (Kp.of (C8 hn _)) fun c φ q=>by rw [A9 (U3 q hn)];exact q⟩ fun m=>by cases m
  exact⟨_,_,I6,w3 D0 _ _ (Kp.of i4) cG⟩
end
theorem B5.hid {κ:Type}{K:Fg9}{S:List Addr}{H:Hp} (hS:R5 S H):∀{kvs:List (κ×D)}{ps:List (κ×V)},B5 K H kvs ps->B5 K (J4 S H) kvs ps
 | [],ps,h=>h
 | p::kvs,ps,h=>by obtain⟨v,r,e,q,t⟩:=h;exact⟨v,r,e,A1.hid hS _ _ q,B5.hid hS t⟩
theorem M4.hid {K:Fg9}{a:Addr}{kvs:List (A7×D)}:Z0j (M4 K a kvs):=fun S H hS ⟨o,ps,h,q⟩=>by
 refine⟨o,ps,?_,q.hid hS⟩
 rw [Q0a]
 ·exact h
 ·intro ha
  obtain⟨o',u,e,_⟩:=hS a ha
  rw [h]at e
  cases e
section
variable {X:Cx}{H0:Hp}{st:Stmt}{w:WS}{a b c e o:Expr}{wa wb wi we wv wk:WE}{wr:WA}{i j nt:Nat}{cap:List Nat}{kr:M6}{g:WG} {τ:A6}{E:E7}{K:Fg9}{Q:R->Prop}
def Q6s (i:Nat) (w:WS):WS:=fun E τ=>w { E with nx:=fun τ'=>∃ds,τ'[i]?=some (some (.own ds))/\E.nx (τ'.set i (some (.dat (.lst ds)))) } τ
theorem DS.fzO (i:Nat) (h:DS X H0 st w):DS X H0 st (Q6s i w) where
 mono:=fun τ E F le q=>h.mono τ { E with nx:=fun τ'=>∃ds,τ'[i]?=some (some (.own ds))/\E.nx (τ'.set i (some (.dat (.lst ds)))) } { F with nx:=fun τ'=>∃ds,τ'[i]?=some (some (.own ds))/\F.nx (τ'.set i (some (.dat (.lst ds)))) } ⟨fun τ' ⟨ds,e,q⟩=>⟨ds,e,le.nx _ q⟩,le.rt,le.bk,le.ct⟩ q
 ps:=L6 (Q3t h.ps) fun D σ H ⟨τ,hR,q⟩=>⟨τ,hR,h.mono τ { K0 X.K H0 H D with nx:=fun τ'=>∃ds,τ'[i]?=some (some (.own ds))/\(K0 X.K H0 H D).nx (τ'.set i (some (.dat (.lst ds)))) } _ ⟨fun τ' ⟨ds,e,q⟩ σ' H' kp cG ac s I=>by
  obtain⟨a,xs,hv,h0,sq,al⟩:=cG.ownAt e
  obtain⟨o,I2⟩:=A0.freeze I sq
  exact⟨_,I2,q σ' _ (kp.trans (Kp.upd sq _)) (cG.freeze e hv h0 sq al)⟩,fun _ h=>h,fun _ h=>h,fun _ h=>h⟩ q⟩
@[simp] theorem Y2j:Q6s i w E τ=w { E with nx:=fun τ'=>∃ds,τ'[i]?=some (some (.own ds))/\E.nx (τ'.set i (some (.dat (.lst ds)))) } τ:=rfl
@[simp] theorem W6m:Z4i K i w E τ=w { E with nx:=fun τ'=>∃kvs,τ'[i]?=some (some (.dk kvs))/\∀a,E.nx (τ'.set i (some (.cl a (M4 K a kvs)))) } τ:=rfl
@[simp] theorem Y2i:Q9s i w E τ=w { E with nx:=fun τ'=>∃a dss,τ'[i]?=some (some (.ll a dss))/\S7 i τ'=true/\E.nx (τ'.set i (some (.dat (.lst (dss.map .lst))))) } τ:=rfl
@[simp] theorem W7k:Z4s K i E τ=∃kvs,τ[i]?=some (some (.dk kvs))/\∀a,E.rt (.cl a (M4 K a kvs)):=rfl
@[simp] theorem W7l:Z4t i we E τ=we τ fun r=>∃a Φ,r=.cl a Φ/\E.nx (τ.set i (some (.cl a Φ))):=rfl
@[simp] theorem Y2h:Q9r K i we τ Q=∃a kvs,τ[i]?=some (some (.cl a (M4 K a kvs)))/\we τ fun r=>∃kd k d,r=.st kd/\O2 kd=some k/\C9 kvs k=some d/\Q (.st d):=rfl
@[simp] theorem W6l:Z4h K i we τ Q=∃a kvs,τ[i]?=some (some (.cl a (M4 K a kvs)))/\we τ fun r=>∃kd k,r=.st kd/\O2 kd=some k/\Q (.st ((C9 kvs k).getD .non)):=rfl
@[simp] theorem W6t:Z4m i E τ=E.nx (τ.set i (some (.dk []))):=rfl
@[simp] theorem W6u:Z4n i we wv E τ=(i<τ.length/\we τ fun rk=>∃kd k,rk=.st kd/\O2 kd=some k/\wv τ fun r=>∃d,r=.st d/\E.nx (τ.set i (some (.dk [(k,d)])))):=rfl
@[simp] theorem W6v:Q9t i we wv E τ=∃kvs,τ[i]?=some (some (.dk kvs))/\we τ fun rk=>∃kd k,rk=.st kd/\O2 kd=some k/\wv τ fun r=>∃d,r=.st d/\kvs.length<sizeLine/\E.nx (if (C9 kvs k).isSome=true then τ else τ.set i (some (.dk (kvs++[(k,d)])))):=rfl
@[simp] theorem W6s:Z4l i nt cap kr g wk wv E τ=kr τ fun ds=>ds.length<sizeLine/\U1 g wk wv ds (Q3 nt cap τ) [] fun kvs=>E.nx (τ.set i (some (.dk kvs))):=rfl
@[simp] theorem W6x:Z4o i nt cap kr g we E τ=kr τ fun ds=>ds.length<=sizeLine/\X2 g we ds (Q3 nt cap τ) fun dss=>∀a,E.nx (τ.set i (some (.ll a dss))):=rfl
@[simp] theorem W6w:Q6t i we wv E τ=∃a dss,τ[i]?=some (some (.ll a dss))/\S7 i τ=true/\we τ fun r=>∃k j,r=.st (.int k)/\O1 dss.length k=some j/\wv τ fun r2=>∃d,r2=.st d/\(dss.getD j []).length<sizeLine/\E.nx (τ.set i (some (.ll a (dss.set j (dss.getD j []++[d]))))):=rfl
@[simp] theorem W6z {kvs:List (A7×D)}:Q2j [.dk kvs] Q=Q (.nw (kvs.map fun p=>kyD p.1)):=rfl
@[simp] theorem W7g {r:R}:Q0h [r] Q=∃ns:List Int,S4 r=some (ns.map .int)/\ns≠[]/\∀m,m∈ns->(∀n∈ns,n<=m)->Q (.st (.int m)):=rfl
end
section
variable {P:Program}{w:World}{A:Around}{E:VS9}{s:Shared}{it t:Addr}{i:Nat}{items:Array Value}
theorem W1u {x:Value}{Q:VS9} (hit:s.heap.IsTupleIter it t i) (ht:s.heap.IsTuple t items) (hx:items[i]?=some x) (hQ:∀h',h'.IsTupleIter it t (i+1)->Heap.SameBut it s.heap h'->Q x { s with heap:=h' }) :
  wpAny (model P w) A (Builtin.SmallTypes.nextOf (.ref it)) Q E s:=by
 obtain⟨o,ho,hc,hd⟩:=id hit
 obtain⟨ol,lN,_,nl,m7⟩:=ht
 unfold Builtin.SmallTypes.nextOf;refine aa (bB (name:=Str.ofString "__next__") hit.typeIs jr (bE jr hit.typeIs F.entry_tuple_iterator_next ?_ (F.args_tuple_iterator_next_1 _)))
 change wpAny (model P w) A.in1 (field (Value.ref it) 0>>=_) _ _ s
 refine aa (bJ ho hd (x:=.ref t) rfl (?_:wpAny (model P w) A.in1 (if (Value.ref t==Value.none)=true then _ else _) _ _ s))
 rw [aH (show ¬ (Value.ref t==Value.none)=true from bF)]
 change wpAny (model P w) A.in1 (field (Value.ref it) 1>>=_) _ _ s
 refine aa (bJ ho hd (x:=.int i 0) rfl (?_:wpAny (model P w) A.in1 (seqItems? (Value.ref t)>>=_) _ _ s))
 refine aa (ce lN m7 ?_);simp only [bg,hx]
 refine aa (wpAny_setField ho hd (by simp) (ai ⟨x,rfl,ai (hQ _ ⟨_,ck _ ho (Obj.isFreed_of_fields (Obj.data_mapFields hd _)),(Obj.cls_mapFields ..).trans hc,by rw [Obj.data_mapFields hd];simp [rawInt]⟩ (bo ..))⟩))
theorem W1v {Q:VS9} (hh:A.handled=none) (hit:s.heap.IsTupleIter it t i) (ht:s.heap.IsTuple t items) (hx:items[i]?=none)
  (hE:∀h' e,Heap.ExtBut it s.heap h'->(∃o,h'.get? e=some o/\o.cls=.type "StopIteration")->E (.ref e) { s with heap:=h' }):wpAny (model P w) A (Builtin.SmallTypes.nextOf (.ref it)) Q E s:=by
 obtain⟨o,ho,hc,hd⟩:=id hit
 obtain⟨ol,lN,_,nl,m7⟩:=ht
 unfold Builtin.SmallTypes.nextOf;refine aa (bB (name:=Str.ofString "__next__") hit.typeIs jr (bE jr hit.typeIs F.entry_tuple_iterator_next ?_ (F.args_tuple_iterator_next_1 _)))
 change wpAny (model P w) A.in1 (field (Value.ref it) 0>>=_) _ _ s
 refine aa (bJ ho hd (x:=.ref t) rfl (?_:wpAny (model P w) A.in1 (if (Value.ref t==Value.none)=true then _ else _) _ _ s))
 rw [aH (show ¬ (Value.ref t==Value.none)=true from bF)]
 change wpAny (model P w) A.in1 (field (Value.ref it) 1>>=_) _ _ s
 refine aa (bJ ho hd (x:=.int i 0) rfl (?_:wpAny (model P w) A.in1 (seqItems? (Value.ref t)>>=_) _ _ s))
 refine aa (ce lN m7 ?_);simp only [bg,hx]
 refine aa (fh (aa (wpAny_setField ho hd (by simp) (?_:wpAny (model P w) A.in1 (newExc (.type "StopIteration") []>>=_) _ _ _))))
 refine aa ?_;simp only [newExc,newTuple]
 refine aa (bb (?_) (by size_fits))
 refine aa (m:=firstArgMember _ _) (wpAny_of_eq (a:=Value.none) (by rfl) (bb ?_ (by size_fits)))
 simp only [raiseNew];refine aa (wpAny_handled ?_)
 rw [show A.in1.handled=none from hh]
 exact aa (ai (wpAny_throw (hE _ _ (((bo ..).extBut.push _).push _) ⟨_,aF _ rfl,rfl⟩)))
end
theorem Z1m {P:Program}{w:World}{A:Around} (hh:A.handled=none) (it t:Addr) (cb:t≠it) (items:Array Value) :
  Draws P w A it [it,t] items.size (fun i v=>items[i]?=some v) (fun i h=>h.IsTupleIter it t i/\h.IsTuple t items) where
 live:=fun _ _ st=>let ⟨o,ho,_⟩:=st.1;⟨o,ho⟩
 frame:=fun _ _ _ ⟨⟨o,ho,r⟩,o2,fF,r2⟩ hk=>⟨⟨o,hk it (by simp) o ho,r⟩,o2,hk t (by simp) o2 fF,r2⟩
 item:=fun i s Q E hi st hQ=>W1u st.1 st.2 (x:=items[i]) (by simp [hi]) fun h' lU dU=>hQ _ h' s.toks (by simp [hi]) ⟨lU,st.2.extBut dU.extBut cb⟩ dU
 done:=fun s Q E st hE=>W1v hh st.1 st.2 (by simp) hE
open AutoSeq1 (wpAny_loadPart') in
theorem Y8k (t:Addr) (items:Array Value) :
  Meets (Builtin.«enumerate.__new__» ⟨[.type "enumerate",.ref t],[]⟩) (fun _ R s=>s.heap.IsTuple t items /\
   R (.ok (.ret (.ref (s.heap.push { cls:=.type "tuple_iterator",data:=.fields #[.ref t,.int 0 0] }).objs.size)))
    { s with heap:=(s.heap.push { cls:=.type "tuple_iterator",data:=.fields #[.ref t,.int 0 0] }).push { cls:=.type "enumerate",data:=.fields #[.none,.bool false,.ref s.heap.objs.size,rawInt 0,.none,.none] } }) :=
 .of_wp fun prog w A R s h=>by
  obtain⟨hp,g,d,tk,os⟩:=s;obtain⟨hL,h⟩:=h
  obtain⟨⟨c,sf,dt,sl⟩,hl,hc,n,hd⟩:=id hL
  replace hc:c=.type "tuple":=hc
  replace hd:dt=.seq items n:=hd
  subst hc hd
  have hL:Heap.IsTuple (Shared.heap ⟨hp,g,d,tk,os⟩) t items:=hL
  have hsub:=sub_enumerate
  wp_walk using wpAny_loadPart' hl
  refine wpAny_stack_any fun st=>ai ?_
  split
  ·rename_i c _ _ _ _ _
   cases (c==Value.type "enumerate") <;> (wp_walk using wpAny_loadPart' hl,wpAny_pyIter_tuple hL) <;> exact⟨_,rfl,h⟩
  ·wp_walk using wpAny_loadPart' hl,wpAny_pyIter_tuple hL
   exact⟨_,rfl,h⟩
section
variable {P:Program}{w:World}{A:Around}{E:VS9}{s:Shared}
theorem Z6z {t:Addr}{items:Array Value}{Q:VS9} (ht:s.heap.IsTuple t items)
  (h:∀h',IsEnum h' (s.heap.objs.size+1) s.heap.objs.size 0 .none->h'.IsTupleIter s.heap.objs.size t 0->h'.objs.size=s.heap.objs.size+2->(∀b o,s.heap.get? b=some o->h'.get? b=some o)->Q (.ref (s.heap.objs.size+1)) { s with heap:=h' }) :
  wpAny (model P w) A (call (.type "enumerate") [.ref t]) Q E s:=by
 refine callType_new F.called_enumerate (by decide) (F.typeCall_enumerate_1 _) (F.newCall_enumerate_1 _) (fun obj=>F.args_object_init_2 obj _) F.entry_enumerate_new (Y8k t items) ⟨ht,?_⟩
 have hz:(s.heap.push { cls:=.type "tuple_iterator",data:=.fields #[.ref t,.int 0 0] }).objs.size=s.heap.objs.size+1:=bv ..
 have he:IsEnum ((s.heap.push { cls:=.type "tuple_iterator",data:=.fields #[.ref t,.int 0 0] }).push { cls:=.type "enumerate",data:=.fields #[.none,.bool false,.ref s.heap.objs.size,rawInt 0,.none,.none] }) (s.heap.objs.size+1) s.heap.objs.size 0 .none:=by
  have e:=aF (s.heap.push { cls:=.type "tuple_iterator",data:=.fields #[.ref t,.int 0 0] }) (o:={ cls:=.type "enumerate",data:=.fields #[.none,.bool false,.ref s.heap.objs.size,rawInt 0,.none,.none] }) rfl
  rw [hz]at e;exact e
 rw [hz]
 exact⟨⟨_,he,rfl⟩,h _ he ⟨_,ae _ (aF _ rfl),rfl,rfl⟩ (by rw [bv,hz]) fun b o x=>ae _ (ae _ x)⟩
end
noncomputable def Iet (K:Fg9) (l:Addr):It:=⟨fun i H=>∃xs x,C4 K H l xs/\xs[i]?=some x,fun i H v H'=>∃T x,(∀xs,C4 K H l xs->xs[i]?=some x)/\H T=none/\v=.ref T/\H'=upd H T (.tup [.int (i:Int),x]),fun i H=>∃xs,C4 K H l xs/\xs.length=i⟩
theorem Y4x {P:Program}{w:World}{K:Fg9}{dg:List Expr}{kk:Nat}{pt:Pos}{en it l:Addr} (cb:en≠it) (il:l≠en) (jP:l≠it) :
  Z7 P w K (.Tuple dg kk pt) (Iet K l) [en,it] en (fun i h=>(∃old,IsEnum h en it i old)/\h.IsTupleIter it l i) where
 mem:=by simp
 obj:=fun i h st b hb=>by
  obtain⟨⟨old,he⟩,o,ho,_,d⟩:=st
  rcases aq.mp hb with rfl | hb
  ·exact⟨_,he,fun v z=>by cases z⟩
  ·have e:b=it:=by simpa using hb
   subst e
   exact⟨o,ho,fun v z=>by rw [d]at z;cases z⟩
 keep:=fun i h h' ⟨⟨old,he⟩,o,ho,r⟩ k=>⟨⟨old,k en (by simp) _ he⟩,o,k it (by simp) o ho,r⟩
 item:=by
  intro X hP hw hK hc i ac s σ H E I hf st hg
  subst hP hw hK
  obtain⟨xs,x,hq,hx⟩:=hg
  obtain⟨aU,rv,p,hz⟩:=I.tuple hq
  have W:=WalksT.enumerateD (Z1m (P:=X.prog) (w:=X.w) (A:=X.A.in1) (show X.A.in1.handled=none from I.ok.hd hc) it l jP aU.toArray) en cb (by simp;exact⟨cb,fun z=>il z.symm⟩) (by simp)
  obtain⟨u,hu,ru⟩:=rv.get hx
  have bR:i<aU.toArray.size:=by
   rcases bA i aU.length with h | h
   ·simpa using h
   ·rw [aM.mpr h]at hu;cases hu
  refine W.item i s _ _ bR ⟨st.1,st.2,p⟩ fun T fi h' tk hv hT ka i9 k=>?_
  obtain⟨t1,y,hy,rfl⟩:=hv
  have ey:y=u:=by
   have:aU[i]?=some y:=by simpa using hy
   rw [hu]at this;exact(aC this).symm
  subst ey
  refine⟨_,rfl,W.go dg kk pt i T { s with heap:=h',toks:=tk } _ _ i9 fun h2 dG k2=>?_⟩
  have iS:∀b o,b∉[en,it]->s.heap.get? b=some o->h2.get? b=some o:=fun b o hb e=>k2 b o hb (k b o hb e)
  have iB:=W.apart i T h' i9
  have eU:IsTup h2 T ([Value.int (i:Int) t1,y]).toArray:=by
   obtain⟨o,ho,r⟩:=ka
   exact⟨o,k2 T o iB ho,r⟩
  have I2:=Q9h (t':=tk) (xs:=[.int (i:Int),x]) I iS hf hT eU (.cons ⟨t1,rfl⟩ (.cons ru .nil)) (by show 2<=sizeLine;decide)
  refine⟨.ref T,_,I2,rfl,⟨T,x,fun ys hy=>by rw [I.tuple_inj hy hq];exact hx,I.hok.fresh hT,rfl,rfl⟩,⟨dG.1,dG.2.1⟩,fun b hb=>?_⟩
  rw [A9 (show b≠T from fun z=>iB (by rw [<- z];exact hb))]
  exact(hf b hb).1
 done:=by
  intro X hP hw hK hc i ac s σ H E I hf st hg
  subst hP hw hK
  obtain⟨xs,hq,hx⟩:=hg
  obtain⟨aU,rv,p,hz⟩:=I.tuple hq
  have W:=WalksT.enumerateD (Z1m (P:=X.prog) (w:=X.w) (A:=X.A.in1) (show X.A.in1.handled=none from I.ok.hd hc) it l jP aU.toArray) en cb (by simp;exact⟨cb,fun z=>il z.symm⟩) (by simp)
  have hl:=rv.length
  have e:i=aU.toArray.size:=by simp;omega
  subst e
  exact W.done s _ _ ⟨st.1,st.2,p⟩ fun h' tk k=>⟨rfl,Q4j I k hf⟩
 self:=fun A i s Q E ⟨⟨old,he⟩,_⟩ h=>cn he h
theorem Z0g {K:Fg9}{H0 H:Hp}{l:Addr}{xs:List V}{ds:List D} (hq:H l=some (.tup xs)) (al:AllS K H ds xs):Yl K H0 (Iet K l) (G0 ds) H where
 go:=fun H' k s i hi=>by
  rw [Q1j]at hi
  exact⟨xs,xs[i]'(by rw [<- al.length];exact hi),C4.of (k.tup _ _ hq),af _⟩
 yld:=fun H' k s i v cW d hd ⟨T,x,hx,hT,hv,hH⟩=>by
  subst hH hv
  refine⟨C8 hT _,?_⟩
  obtain⟨y,hy,rfl⟩:=Q7n hd
  obtain⟨v,hv,q⟩:=al.get hy
  rw [hx xs (C4.of (k.tup _ _ hq))]at hv;cases hv
  exact A1.s_tup upd_same (AllS.cons A1.s_int (AllS.cons (q.mono (k.trans (Kp.of (C8 hT _))) _ _) AllS.nil))
 stop:=fun H' k s=>⟨xs,C4.of (k.tup _ _ hq),by rw [Q1j];exact al.length.symm⟩
theorem W9w {K:Fg9}{H0 H:Hp}{x:Str}:Yl K H0 (Ies x) (G0 (E5 x)) H where
 go:=fun H' _ _ i hi=>(Z5o (K:=K) (H:=H')).go H' (A3.refl _) i hi
 yld:=fun H' _ _ i v cW d hd h=>(Z5o (K:=K) (H:=H')).yld H' (A3.refl _) i v cW d hd h
 stop:=fun H' _ _=>(Z5o (K:=K) (H:=H')).stop H' (A3.refl _)
section
variable {X:Cx}{H0:Hp}{a:Expr}{p pos:Pos}{wr:WA}
def Q7r (wr:WA):WI:=fun τ Q=>wr τ fun rs=>(∃x,rs=[.st (.str x)]/\Q (G0 (E5 x)) τ)\/∃ds,rs=[.st (.tup ds)]/\Q (G0 ds) τ
theorem DI.enumX {dg:List Expr}{kk:Nat}{pt:Pos} (hg:Gl X "enumerate") (hm:X.mg "enumerate"=none) (hv:bootBuiltins "enumerate"=some (.type "enumerate")) (ha:DA X H0 [a] wr) (he:starEach [a] X.env=(false,eval a X.env)::starEach [] X.env:=by rfl) (hpl:(backTo pos (starEach [] X.env)).any (·.1)=false:=by rfl) :
  DI X H0 (.Tuple dg kk pt) (.Call (.Name "enumerate" p) [a] [] pos) (Q7r wr) where
 mono:=fun τ P Q f h=>ha.mono τ _ _ (fun r h=>h.imp (fun⟨x,e1,q⟩=>⟨x,e1,f _ _ q⟩) fun⟨ds,e1,q⟩=>⟨ds,e1,f _ _ q⟩) h
 pi:=by
  intro ac s σ H R I ⟨τ,hR,h⟩
  refine bn (Q0f I hg hm hv ?_ (by decide) (by decide))
  refine bh (B3 (ha.pa pos ac s σ H (fun vs H1=>A3 H H1/\((∃x,vs=[.str x]/\∀J H',Kp H H'->B6 X.K H0 τ σ H'->Yl X.K H0 J (G0 (E5 x)) H'->R J H') \/
    ∃l xs ds,vs=[.ref l]/\H1 l=some (.tup xs)/\AllS X.K H1 ds xs/\∀J H',Kp H H'->B6 X.K H0 τ σ H'->Yl X.K H0 J (G0 ds) H'->R J H')) I
   ⟨τ,hR,ha.mono τ _ _ (fun rs h vs H1 s1 cw=>⟨s1,?_⟩) h⟩) fun us s1 ⟨vs,H1,I1,rv,sm,hh⟩=>?_) he hpl
  ·rcases h with⟨x,e1,q⟩ | ⟨ds,e1,q⟩
   ·subst e1
    obtain⟨v,rfl,ir⟩:=V1 cw
    cases (show v=.str x from ir)
    exact .inl ⟨x,rfl,q⟩
   ·subst e1
    obtain⟨v,rfl,ir⟩:=V1 cw
    have ir:A1 X.K H1 (.tup ds) v:=ir
    unfold A1 at ir
    obtain⟨l,xs,rfl,sq,al⟩:=ir
    exact .inr ⟨l,xs,ds,rfl,sq,al,q⟩
  ·have big:∀b∈[s1.heap.objs.size+1,s1.heap.objs.size],J9 X ac H1 b:=fun b hb=>by
    have hb:s1.heap.objs.size<=b:=by
     rcases aq.mp hb with rfl | hb
     ·exact cx _
     ·have e:b=s1.heap.objs.size:=by simpa using hb
      rw [e];exact aj _
    exact I1.fpOk hb (I1.hok.fresh hb)
   rcases hh with⟨x,rfl,q⟩ | ⟨l,xs,ds,rfl,sq,al,q⟩
   ·obtain⟨u,rfl,ru⟩:=T9 rv
    obtain⟨t,rfl⟩:=ru
    refine call_enumerate_str fun h' he hi hz k=>?_
    exact cn he ⟨s1.heap.objs.size+1,[s1.heap.objs.size+1,s1.heap.objs.size],_,_,H1,rfl,I1.kept (t':=s1.toks) k,W9e (x:=x) (t:=t) (fK _),⟨⟨_,he⟩,hi⟩,big,q _ _ (Kp.of sm) (hR.mono sm) W9w⟩
   ·obtain⟨u,rfl,ru⟩:=T9 rv
    cases (show u=Value.ref l from ru)
    obtain⟨aU,fD,pl,ie⟩:=I1.tuple (C4.of sq)
    have hl:l<s1.heap.objs.size:=by obtain⟨o,ho,_⟩:=pl;exact ay ho
    refine Z6z pl fun h' he hi hz k=>?_
    exact cn he ⟨s1.heap.objs.size+1,[s1.heap.objs.size+1,s1.heap.objs.size],_,_,H1,rfl,I1.kept (t':=s1.toks) k,Y4x (l:=l) (fK _) (aB (be hl)) (aB hl),⟨⟨_,he⟩,hi⟩,big,q _ _ (Kp.of sm) (hR.mono sm) (Z0g sq al)⟩
@[simp] theorem W6o {τ:A6}{Q:List D->A6->Prop}:Q7r wr τ Q=wr τ fun rs=>(∃x,rs=[.st (.str x)]/\Q (G0 (E5 x)) τ)\/∃ds,rs=[.st (.tup ds)]/\Q (G0 ds) τ:=rfl
end
theorem W9z {K:Fg9}{H:Hp}{l:Addr}{xs:List V}{ds:List D} (hq:H l=some (.tup xs)) (al:AllS K H ds xs):YlS K (Iet K l) (G0 ds) H where
 go:=fun H' s i hi=>(Z0g (H0:=H) hq al).go H' (Kp.of s) s i hi
 yld:=fun H' s i v cW d hd h=>(Z0g (H0:=H) hq al).yld H' (Kp.of s) s i v cW d hd h
 stop:=fun H' s=>(Z0g (H0:=H) hq al).stop H' (Kp.of s) s
section
variable {X:Cx}{H0:Hp}{a:Expr}{p pos:Pos}{wr:WA}
noncomputable def Q8:R->Option (List D)
 | .st (.tup ds)=>some ds
 | r=>S4 r
noncomputable def Q5p (wr:WA):M6:=fun τ Q=>wr τ fun rs=>∃r ds,rs=[r]/\Q8 r=some ds/\Q (G0 ds)
theorem D7.enumX {dg:List Expr}{kk:Nat}{pt p:Pos} (hg:Gl X "enumerate") (hm:X.mg "enumerate"=none) (hv:bootBuiltins "enumerate"=some (.type "enumerate")) (ha:DA X H0 [a] wr) (he:starEach [a] X.env=(false,eval a X.env)::starEach [] X.env:=by rfl) (hpl:(backTo pos (starEach [] X.env)).any (·.1)=false:=by rfl) :
  D7 X H0 (.Tuple dg kk pt) (.Call (.Name "enumerate" p) [a] [] pos) (Q5p wr) where
 mono:=fun τ P Q f h=>ha.mono τ _ _ (fun r ⟨r',ds,e1,e2,q⟩=>⟨r',ds,e1,e2,f _ q⟩) h
 pi:=by
  intro ac s σ H R I ⟨τ,hR,h⟩
  refine bn (Q0f I hg hm hv ?_ (by decide) (by decide))
  refine bh (B3 (ha.pa pos ac s σ H (fun vs H1=>A3 H H1/\((∃l xs ds,vs=[.ref l]/\H1 l=some (.tup xs)/\AllS X.K H1 ds xs/\∀J H',A3 H H'->YlS X.K J (G0 ds) H'->R J H')\/∃l xs ds,vs=[.ref l]/\D6 X.K H1 l xs/\AllS X.K H1 ds xs/\∀J H',A3 H H'->YlS X.K J (G0 ds) H'->R J H')) I
   ⟨τ,hR,ha.mono τ _ _ (fun rs h vs H1 s1 cw=>⟨s1,?_⟩) h⟩) fun us s1 ⟨vs,H1,I1,rv,sm,hh⟩=>?_) he hpl
  ·obtain⟨r,ds,e1,e2,q⟩:=h
   subst e1
   obtain⟨v,rfl,ir⟩:=V1 cw
   by_cases ht:∃es,r=.st (.tup es)
   ·obtain⟨es,rfl⟩:=ht
    cases e2
    have ir:A1 X.K H1 (.tup ds) v:=ir
    unfold A1 at ir
    obtain⟨l,xs,rfl,sq,al⟩:=ir
    exact .inl ⟨l,xs,ds,rfl,sq,al,q⟩
   ·have e2:S4 r=some ds:=by
     unfold Q8 at e2
     split at e2
     ·exact absurd ⟨_,rfl⟩ ht
     ·exact e2
    obtain⟨l,xs,rfl,sq,al⟩:=Q2k e2 ir
    exact .inr ⟨l,xs,ds,rfl,sq,al,q⟩
  ·have big:∀b∈[s1.heap.objs.size+1,s1.heap.objs.size],J9 X ac H1 b:=fun b hb=>by
    have hb:s1.heap.objs.size<=b:=by
     rcases aq.mp hb with rfl | hb
     ·exact cx _
     ·have e:b=s1.heap.objs.size:=by simpa using hb
      rw [e];exact aj _
    exact I1.fpOk hb (I1.hok.fresh hb)
   rcases hh with⟨l,xs,ds,rfl,sq,al,q⟩ | ⟨l,xs,ds,rfl,sq,al,q⟩
   ·obtain⟨u,rfl,ru⟩:=T9 rv
    cases (show u=Value.ref l from ru)
    obtain⟨aU,fD,pl,ie⟩:=I1.tuple (C4.of sq)
    have hl:l<s1.heap.objs.size:=by obtain⟨o,ho,_⟩:=pl;exact ay ho
    refine Z6z pl fun h' he hi hz k=>?_
    exact cn he ⟨s1.heap.objs.size+1,[s1.heap.objs.size+1,s1.heap.objs.size],_,_,H1,rfl,I1.kept (t':=s1.toks) k,Y4x (l:=l) (fK _) (aB (be hl)) (aB hl),⟨⟨_,he⟩,hi⟩,big,q _ _ sm (W9z sq al)⟩
   ·obtain⟨u,rfl,ru⟩:=T9 rv
    cases (show u=Value.ref l from ru)
    obtain⟨aU,fD,pl,ie⟩:=I1.list sq
    obtain⟨o,n,ho,_⟩:=id pl
    have hl:l<s1.heap.objs.size:=ay ho
    refine call_enumerate_list pl.isList fun h' he hi hz k=>?_
    refine cn he ⟨s1.heap.objs.size+1,[s1.heap.objs.size+1,s1.heap.objs.size],_,_,H1,rfl,I1.kept (t':=s1.toks) k,Y4w (l:=l) (fK _) (aB (be hl)) (aB hl),⟨⟨_,he⟩,hi⟩,big,q _ _ sm (W9y sq al)⟩
@[simp] theorem Y2n {τ:A6}{Q:List D->Prop}:Q5p wr τ Q=wr τ fun rs=>∃r ds,rs=[r]/\Q8 r=some ds/\Q (G0 ds):=rfl
end
section
variable {X:Cx}{ac:Pn9} {σ:St}{H:Hp}{s:Shared}
noncomputable def T1 (K:Fg9) (H:Hp) (d:D) (u:Value):Bool:=@decide (∃d' v',B9 v' u/\A1 K H d' v'/\D.eq d' d=true) (Classical.propDecidable _)
theorem Z7z (I:A0 X ac σ H s) {d d':D}{v':V}{u:Value} (r:B9 v' u) (i:A1 X.K H d' v'):T1 X.K H d u=D.eq d' d:=by
 unfold T1
 cases e:D.eq d' d with
 | true=>exact @bV _ (Classical.propDecidable _) ⟨d',v',r,i,e⟩
 | false =>
  refine @aK _ (Classical.propDecidable _) fun br=>?_
  obtain⟨d2,v2,r2,i2,e2⟩:=br
  have ev:=r.inj r2
  subst ev
  rw [A1.inj I d2 d' v' i2 i,e]at e2
  cases e2
theorem Q4y (I:A0 X ac σ H s) {d:D}:∀{ds:List D}{xs:List V}{aU:List Value},AllS X.K H ds xs->B4 xs aU->aU.any (T1 X.K H d)=ds.any fun e=>D.eq e d
 | [],xs,aU,al,r=>by
  unfold AllS at al;subst al;cases r;rfl
 | e::ds,xs,aU,al,r=>by
  unfold AllS at al
  obtain⟨v,t,rfl,i,al⟩:=al
  cases r with
  | cons r1 r2=>rw [cI,cI,Z7z I r1 i,Q4y I al r2]
theorem Q6c (I:A0 X ac σ H s) {d:D}{x:V}{v:Value}{n:Nat} (ix:A1 X.K H d x) (rx:B9 x v) {A:Around} (hu:A.units+n<cLine):∀{ds:List D}{xs:List V}{aU:List Value},AllS X.K H ds xs->B4 xs aU->(∀e∈ds,e.depth<=n)->∀u∈aU,SeqAt.EqAt A s u v (T1 X.K H d u)
 | [],xs,aU,al,r,_=>by
  unfold AllS at al;subst al;cases r;intro u hu;cases hu
 | e::ds,xs,aU,al,r,hd=>by
  unfold AllS at al
  obtain⟨v',t,rfl,i,al⟩:=al
  cases r with
  | cons r1 r2 =>
   intro u hm
   rcases aq.mp hm with rfl | hm
   ·rw [Z7z I r1 i]
    exact Q5h I (fun A=>Q8n I n e d v' x _ _ A (hd e (by simp)) i.w ix.w r1 rx) i ix r1 rx hu
   ·exact Q6c I ix rx hu al r2 (fun e h=>hd e (by simp [h])) u hm
end
section
variable {X:Cx}
def inL (n:Nat) (neg:Bool) (x y:R) (Q:Bool->Prop):Prop:=∃d ds,x=.st d/\Q8 y=some ds/\(∀e∈ds,e.depth<=n)/\Q (if neg then !ds.any (fun e=>D.eq e d)else ds.any fun e=>D.eq e d)
theorem Z1v {n:Nat}{neg:Bool}:V0 (inL n neg):=fun x y P Q g ⟨d,ds,e1,e2,h,q⟩=>⟨d,ds,e1,e2,h,g _ q⟩
theorem Z3m {K:Fg9}{H0 H:Hp}{r:R}{ds:List D}{v:V} (e:Q8 r=some ds) (h:E1 K H0 H r v):∃a xs,v=.ref a/\(D6 K H a xs\/C4 K H a xs)/\AllS K H ds xs:=by
 by_cases ht:∃es,r=.st (.tup es)
 ·obtain⟨es,rfl⟩:=ht
  cases e
  have h:A1 K H (.tup ds) v:=h
  unfold A1 at h
  obtain⟨l,xs,rfl,sq,al⟩:=h
  exact⟨l,xs,rfl,.inr (C4.of sq),al⟩
 ·have e2:S4 r=some ds:=by
   unfold Q8 at e
   split at e
   ·exact absurd ⟨_,rfl⟩ ht
   ·exact e
  obtain⟨l,xs,rfl,sq,al⟩:=Q2k e2 h
  exact⟨l,xs,rfl,.inl sq,al⟩
theorem Z7f {n:Nat} (hu:X.A.units+n+1<cLine):W5 X .In (inL n false):=by
 intro ac s σ H x y v u Q I rx ry ⟨r1,r2,h1,h2,d,ds,e1,e2,hd,q⟩
 subst e1
 have ix:A1 X.K H d x:=h1
 obtain⟨a,xs,rfl,hq,al⟩:=Z3m e2 h2
 cases ry
 rcases hq with hq | hq
 ·obtain⟨aU,r,pl,hz⟩:=I.list hq
  refine SeqAt.in_listAt (T1 X.K H d) pl.isList (fun w hw=>Q6c I ix rx (n:=n) (by try simp only [bQ];omega) al r hd w (by simpa using hw)) ⟨.bl _,H,I,rfl,?_⟩
  rw [show aU.toArray.any (T1 X.K H d)=aU.any (T1 X.K H d)by simp,Q4y I al r]
  exact q
 ·obtain⟨aU,r,pl,hz⟩:=I.tuple hq
  refine SeqAt.in_tupleAt (T1 X.K H d) pl (fun w hw=>Q6c I ix rx (n:=n) (by try simp only [bQ];omega) al r hd w (by simpa using hw)) ⟨.bl _,H,I,rfl,?_⟩
  rw [show aU.toArray.any (T1 X.K H d)=aU.any (T1 X.K H d)by simp,Q4y I al r]
  exact q
theorem Y7r {n:Nat} (hu:X.A.units+n+1<cLine):W5 X .NotIn (inL n true):=by
 intro ac s σ H x y v u Q I rx ry ⟨r1,r2,h1,h2,d,ds,e1,e2,hd,q⟩
 subst e1
 have ix:A1 X.K H d x:=h1
 obtain⟨a,xs,rfl,hq,al⟩:=Z3m e2 h2
 cases ry
 rcases hq with hq | hq
 ·obtain⟨aU,r,pl,hz⟩:=I.list hq
  refine SeqAt.notIn_listAt (T1 X.K H d) pl.isList (fun w hw=>Q6c I ix rx (n:=n) (by try simp only [bQ];omega) al r hd w (by simpa using hw)) ⟨.bl _,H,I,rfl,?_⟩
  rw [show aU.toArray.any (T1 X.K H d)=aU.any (T1 X.K H d)by simp,Q4y I al r]
  exact q
 ·obtain⟨aU,r,pl,hz⟩:=I.tuple hq
  refine SeqAt.notIn_tupleAt (T1 X.K H d) pl (fun w hw=>Q6c I ix rx (n:=n) (by try simp only [bQ];omega) al r hd w (by simpa using hw)) ⟨.bl _,H,I,rfl,?_⟩
  rw [show aU.toArray.any (T1 X.K H d)=aU.any (T1 X.K H d)by simp,Q4y I al r]
  exact q
end
structure Q1g (z TI TO i1 i2:Addr) (gz gy:List Addr):Prop where
 tiz:TI≠z
 toz:TO≠z
 i1z:i1≠z
 i2z:i2≠z
 tito:TI≠TO
 ti1:TI≠i1
 ti2:TI≠i2
 to1:TO≠i1
 to2:TO≠i2
 i12:i1≠i2
 f1:∀b∈gz,b≠z/\b≠TO/\b≠i2
 f2:∀b∈gy,b≠z/\b≠TO/\b≠i1
abbrev IsZ (h:Heap) (z TI TO:Addr) (f0:Value) (f:Bool):Prop :=
 h.get? z=some { cls:=.type "zip",dict:=none,data:=.fields #[f0,.bool f,.bool false,.ref TI,.ref TO],slots:=#[] }
def W9 (h:Heap) (z TI TO:Addr):Prop:=∃f0 f,IsZ h z TI TO f0 f/\(f0=.none\/∃T:Addr,f0=rawInt T)
section
variable {P:Program}{w:World}{A:Around}{E:VS9}{s:Shared}{z TI TO i1 i2:Addr}{gz gy:List Addr}{n1 n2 k:Nat}{P1 P2:Nat->Value->Prop}{S1 S2:Nat->Heap->Prop}{a b:Value}
theorem Q5 {it:Addr}{fp:List Addr}{n i:Nat}{Q:Nat->Value->Prop}{S:Nat->Heap->Prop} (D:Draws P w A it fp n Q S) {h h':Heap}{c:Addr} (st:S i h) (sb:Heap.ExtBut c h h') (hc:∀b∈fp,b≠c):S i h':=D.frame _ _ _ st fun b hb o e=>sb b o (hc b hb) e
theorem Y5r {Q:Bool->Shared->Prop} (hz:W9 s.heap z TI TO) (h1:∀f0 f,IsZ s.heap z TI TO f0 f->Q true s) (h2:∀h' (T:Addr),IsZ h' z TI TO (rawInt T) true->Heap.SameBut z s.heap h'->Q false { s with heap:=h' }) :
  wpAny (model P w) A (Builtin.SmallTypes.ownedTupleIsFree (.ref z)) Q E s:=by
 obtain⟨f0,f,hz,rfl | ⟨T,rfl⟩⟩:=hz
 ·unfold Builtin.SmallTypes.ownedTupleIsFree;exact aa (bJ hz rfl (x:=.none) rfl (ai (h1 _ _ hz)))
 ·unfold Builtin.SmallTypes.ownedTupleIsFree;refine aa (bJ hz rfl (x:=rawInt T) rfl ?_)
  change wpAny (model P w) A (loadIfAlive ((T:Int).toNat)>>=_) _ _ _
  rw [bg]
  refine aa ?_
  cases e:s.heap.get? T with
  | none =>
   have mB:∀{Q:Option Obj->Shared->Prop},Q none s->wpAny (model P w) A (loadIfAlive T) Q E s:=fun {Q} h=>by
    have h':Q (s.heap.get? T) s:=by rw [e];exact h
    exact fun _ _ _=>h'
   refine mB ?_
   rw [aJ (show(none:Option Obj).isNone=true from rfl)]
   exact ai (h1 _ _ hz)
  | some o =>
   refine PySem.W.kdx_alive e ?_
   rw [aH (by simp)]
   refine aa (bJ hz rfl (x:=.bool f) rfl ?_)
   cases f with
   | true =>
    rw [aH (by decide)]
    exact ai (h2 s.heap T hz (Heap.SameBut.refl _ _))
   | false =>
    rw [aJ (by decide)]
    exact aa (cc hz (by simp) fun h₃ qC pS=>ai (h2 h₃ T qC pS))
theorem V0h {Q:VS9} (Z:Q1g z TI TO i1 i2 gz gy) (D1:Draws P w A i1 gz n1 P1 S1) (D2:Draws P w A i2 gy n2 P2 S2) (jE:W9 s.heap z TI TO) (fw:IsPair s.heap TI (.ref i1) (.ref i2)) (ff:IsPair s.heap TO a b) (h1:S1 k s.heap) (h2:S2 k s.heap) (l1:k<n1) (l2:k<n2)
  (hQ:∀h' tk x y,P1 k x->P2 k y->W9 h' z TI TO->(∃a b,IsPair h' TO a b)->S1 (k+1) h'->S2 (k+1) h'->IsPair h' s.heap.objs.size x y->h'.objs.size=s.heap.objs.size+1->(∀c o,c≠z->c≠TO->c≠i1->c≠i2->s.heap.get? c=some o->h'.get? c=some o)->Q (.ref s.heap.objs.size) { s with heap:=h',toks:=tk }) :
  wpAny (model P w) A (Builtin.«zip.__next__» ⟨[.ref z],[]⟩) (fun fin s'=>∃v,fin=.done (.ret v)/\Q v s') E s:=by
 obtain⟨f0,f,hz,hf⟩:=id jE
 change wpAny (model P w) A (field (.ref z) 2>>=_) _ _ s
 refine aa (bJ hz rfl (x:=Value.bool false) rfl ?_)
 change wpAny (model P w) A (field (.ref z) 3>>=_) _ _ s
 refine aa (bJ hz rfl (x:=.ref TI) rfl (aa (ce fw rfl ?_)))
 change wpAny (model P w) A (Builtin.SmallTypes.ownedTupleIsFree (.ref z)>>=_) _ _ s
 refine aa (Y5r jE (fun f0 f hz=>?_) fun g₁ T fU dL=>?_)
 ·rw [aJ rfl]
  refine aa (fh (aa (bJ hz rfl (x:=.ref TO) rfl (aa (cc hz (by simp) fun g₁ fU dL=>?_)))))
  have fU:IsZ g₁ z TI TO .ellipsis f:=fU
  refine aa ?_
  simp only [cg,List.zipIdx_nil,c8,List.forIn_nil];refine aa (aa (wpAny_onRaise ?_))
  change wpAny (model P w) A (Builtin.SmallTypes.nextOf (.ref i1)>>=_) _ _ _
  refine aa (D1.item k _ _ _ l1 (Q5 D1 h1 dL.extBut fun b hb=>(Z.f1 b hb).1) fun x g₂ kP px kf dy=>ai ?_)
  have g9:IsPair g₂ TO a b:=dy.extBut _ _ Z.to1 (dL.extBut _ _ Z.toz ff)
  refine aa (ce g9 rfl (aa (wpAny_updateSeq_pair g9 fun g₃ gW dP=>aa (wpAny_letGo (ai ?_)))))
  have gW:IsPair g₃ TO x b:=gW
  refine aa (aa (wpAny_onRaise ?q))
  change wpAny (model P w) A (Builtin.SmallTypes.nextOf (.ref i2)>>=_) _ _ _
  have ke:S2 k g₃:=Q5 D2 (Q5 D2 (Q5 D2 h2 dL.extBut fun b hb=>(Z.f2 b hb).1) dy.extBut fun b hb=>(Z.f2 b hb).2.2) dP.extBut fun b hb=>(Z.f2 b hb).2.1
  refine aa (D2.item k _ _ _ l2 ke fun y g₄ oF py qX i3=>ai ?_)
  have k7:IsPair g₄ TO x b:=i3.extBut _ _ Z.to2 gW
  refine aa (ce k7 rfl (aa (wpAny_updateSeq_pair k7 fun g₅ gU i0=>aa (wpAny_letGo (ai (ai ?_))))))
  have gU:IsPair g₅ TO x y:=gU
  refine aa (ce gU rfl (aa (wpAny_newTuple ?_)))
  have hsz:g₅.objs.size=s.heap.objs.size:=by rw [i0.1,i3.1,dP.1,dy.1,dL.1]
  have na:IsZ g₅ z TI TO .ellipsis f:=i0.extBut _ _ Z.toz.symm (i3.extBut _ _ Z.i2z.symm (dP.extBut _ _ Z.toz.symm (dy.extBut _ _ Z.i1z.symm fU)))
  have qm:∀c o,c≠z->c≠TO->c≠i1->c≠i2->s.heap.get? c=some o->g₅.get? c=some o:=fun c o c1 c2 c3 c4 e=>i0.extBut _ _ c2 (i3.extBut _ _ c4 (dP.extBut _ _ c2 (dy.extBut _ _ c3 (dL.extBut _ _ c1 e))))
  have qY:S1 (k+1) g₅:=Q5 D1 (Q5 D1 (Q5 D1 kf dP.extBut fun b hb=>(Z.f1 b hb).2.1) i3.extBut fun b hb=>(Z.f1 b hb).2.2) i0.extBut fun b hb=>(Z.f1 b hb).2.1
  have qW:S2 (k+1) g₅:=Q5 D2 qX i0.extBut fun b hb=>(Z.f2 b hb).2.1
  have jF:z<g₅.objs.size:=ay na
  change wpAny (model P w) A (Builtin.SmallTypes.ownedTupleHandOut (.ref z) (Value.ref g₅.objs.size)>>=_) _ _ _
  refine aa ?_
  unfold Builtin.SmallTypes.ownedTupleHandOut;refine aa (cc (ae _ na:IsZ (g₅.push { cls:=.type "tuple",data:=.seq #[x,y] }) z TI TO .ellipsis f) (by simp) fun g₇ lA kT=>?_)
  have lA:IsZ g₇ z TI TO (rawInt g₅.objs.size) f:=lA
  refine cc lA (by simp) fun g₈ kz kS=>ai ⟨_,rfl,?_⟩
  have kz:IsZ g₈ z TI TO (rawInt g₅.objs.size) false:=kz
  have up:∀c o,c≠z->g₅.get? c=some o->g₈.get? c=some o:=fun c o c1 e=>kS.extBut _ _ c1 (kT.extBut _ _ c1 (ae _ e))
  have nK:IsPair g₈ g₅.objs.size x y:=kS.extBut _ _ (Nat.ne_of_gt jF) (kT.extBut _ _ (Nat.ne_of_gt jF) (aF _ rfl))
  rw [hsz]at kz nK
  have goal:=hQ g₈ oF x y px py ⟨_,_,kz,.inr ⟨_,rfl⟩⟩ ⟨_,_,up _ _ Z.toz gU⟩ (D1.frame _ _ _ qY fun b hb o e=>up b o (Z.f1 b hb).1 e) (D2.frame _ _ _ qW fun b hb o e=>up b o (Z.f2 b hb).1 e) nK (by rw [kS.1,kT.1,bv,hsz]) fun c o c1 c2 c3 c4 e=>up c o c1 (qm c o c1 c2 c3 c4 e)
  rw [<- hsz]at goal
  exact goal
 ·rw [aH (by decide)]
  refine aa ?_
  rw [<- Array.forIn_toList]
  rw [c8]
  refine aa (aa (bz ?_))
  change wpAny (model P w) A (Builtin.SmallTypes.nextOf (.ref i1)>>=fun x=>pure (some x)) _ _ _
  refine aa (D1.item k _ _ _ l1 (Q5 D1 h1 dL.extBut fun b hb=>(Z.f1 b hb).1) fun x g₂ kP px kf dy=>ai (ai ?_))
  dsimp only
  rw [c8]
  refine aa (aa (bz ?_))
  change wpAny (model P w) A (Builtin.SmallTypes.nextOf (.ref i2)>>=fun x=>pure (some x)) _ _ _
  have mt:S2 k g₂:=Q5 D2 (Q5 D2 h2 dL.extBut fun b hb=>(Z.f2 b hb).1) dy.extBut fun b hb=>(Z.f2 b hb).2.2
  refine aa (D2.item k _ _ _ l2 mt fun y g₃ oG py ke dP=>ai (ai ?_))
  dsimp only
  rw [List.forIn_nil]
  refine ai (aa (wpAny_newTuple (ai ⟨_,rfl,?_⟩) (hsz:=by show 2<=sizeLine;decide)))
  have sz:g₃.objs.size=s.heap.objs.size:=by rw [dP.1,dy.1,dL.1]
  have up:∀c o,c≠z->c≠i1->c≠i2->s.heap.get? c=some o->g₃.get? c=some o:=fun c o c1 c2 c3 e=>dP.extBut _ _ c3 (dy.extBut _ _ c2 (dL.extBut _ _ c1 e))
  have pN:IsZ g₃ z TI TO (rawInt T) true:=dP.extBut _ _ Z.i2z.symm (dy.extBut _ _ Z.i1z.symm fU)
  have qZ:S1 (k+1) g₃:=Q5 D1 kf dP.extBut fun b hb=>(Z.f1 b hb).2.2
  have goal:=hQ (g₃.push { cls:=.type "tuple",data:=.seq #[x,y] }) oG x y px py ⟨_,_,ae _ pN,.inr ⟨_,rfl⟩⟩ ⟨_,_,ae _ (up _ _ Z.toz Z.to1 Z.to2 ff)⟩ (D1.frame _ _ _ qZ fun b hb o e=>ae _ e) (D2.frame _ _ _ ke fun b hb o e=>ae _ e)
   (by
    have e:(g₃.push { cls:=.type "tuple",data:=.seq #[x,y] }).get? g₃.objs.size=some { cls:=.type "tuple",data:=.seq #[x,y] }:=aF _ rfl
    rw [sz]at e;exact e) (by rw [bv,sz]) fun c o c1 _ c3 c4 e=>ae _ (up c o c1 c3 c4 e)
  rw [<- sz]at goal
  exact goal
theorem V0g {Q:Fin->Shared->Prop} (Z:Q1g z TI TO i1 i2 gz gy) (D1:Draws P w A i1 gz n1 P1 S1) (D2:Draws P w A i2 gy n2 P2 S2) (jE:W9 s.heap z TI TO) (fw:IsPair s.heap TI (.ref i1) (.ref i2)) (ff:IsPair s.heap TO a b) (h1:S1 k s.heap) (h2:S2 k s.heap) (hk:k=n1\/(k<n1/\k=n2))
  (hE:∀h' tk e,(∀c o,c≠z->c≠TO->c≠i1->c≠i2->s.heap.get? c=some o->h'.get? c=some o)->(∃o,h'.get? e=some o/\o.cls=.type "StopIteration")->E (.ref e) { s with heap:=h',toks:=tk }) :
  wpAny (model P w) A (Builtin.«zip.__next__» ⟨[.ref z],[]⟩) Q E s:=by
 obtain⟨f0,f,hz,hf⟩:=id jE
 change wpAny (model P w) A (field (.ref z) 2>>=_) _ _ s
 refine aa (bJ hz rfl (x:=Value.bool false) rfl ?_)
 change wpAny (model P w) A (field (.ref z) 3>>=_) _ _ s
 refine aa (bJ hz rfl (x:=.ref TI) rfl (aa (ce fw rfl ?_)))
 change wpAny (model P w) A (Builtin.SmallTypes.ownedTupleIsFree (.ref z)>>=_) _ _ s
 refine aa (Y5r jE (fun f0 f hz=>?_) fun g₁ T fU dL=>?_)
 ·rw [aJ rfl]
  refine aa (fh (aa (bJ hz rfl (x:=.ref TO) rfl (aa (cc hz (by simp) fun g₁ fU dL=>?_)))))
  have fU:IsZ g₁ z TI TO .ellipsis f:=fU
  refine aa ?_
  simp only [cg,List.zipIdx_nil,c8,List.forIn_nil];refine aa (aa (wpAny_onRaise ?_))
  change wpAny (model P w) A (Builtin.SmallTypes.nextOf (.ref i1)>>=_) _ _ _
  have kg:S1 k g₁:=Q5 D1 h1 dL.extBut fun b hb=>(Z.f1 b hb).1
  rcases hk with hk | ⟨bR,hk⟩
  ·subst hk
   refine aa (D1.done _ _ _ kg fun g₂ e dy he=>?_)
   obtain⟨oe,iW,jV⟩:=he
   have nh:IsZ g₂ z TI TO .ellipsis f:=dy _ _ Z.i1z.symm fU
   have lZ:e≠z:=fun q=>by subst q;rw [nh]at iW;cases iW;simp at jV
   exact cc nh (by simp) fun g₃ _ dP=>hE g₃ _ e (fun c o c1 _ c3 _ x=>dP.extBut _ _ c1 (dy _ _ c3 (dL.extBut _ _ c1 x))) ⟨oe,dP.extBut _ _ lZ iW,jV⟩
  ·refine aa (D1.item k _ _ _ bR kg fun x g₂ kP px kf dy=>ai ?_)
   have g9:IsPair g₂ TO a b:=dy.extBut _ _ Z.to1 (dL.extBut _ _ Z.toz ff)
   refine aa (ce g9 rfl (aa (wpAny_updateSeq_pair g9 fun g₃ gW dP=>aa (wpAny_letGo (ai ?_)))))
   refine aa (aa (wpAny_onRaise ?q))
   change wpAny (model P w) A (Builtin.SmallTypes.nextOf (.ref i2)>>=_) _ _ _
   have ke:S2 k g₃:=Q5 D2 (Q5 D2 (Q5 D2 h2 dL.extBut fun b hb=>(Z.f2 b hb).1) dy.extBut fun b hb=>(Z.f2 b hb).2.2) dP.extBut fun b hb=>(Z.f2 b hb).2.1
   subst hk
   refine aa (D2.done _ _ _ ke fun g₄ e i3 he=>?_)
   obtain⟨oe,iW,jV⟩:=he
   have ng:IsZ g₄ z TI TO .ellipsis f:=i3 _ _ Z.i2z.symm (dP.extBut _ _ Z.toz.symm (dy.extBut _ _ Z.i1z.symm fU))
   have lZ:e≠z:=fun q=>by subst q;rw [ng]at iW;cases iW;simp at jV
   exact cc ng (by simp) fun g₅ _ i0=>hE g₅ _ e (fun c o c1 c2 c3 c4 x=>i0.extBut _ _ c1 (i3 _ _ c4 (dP.extBut _ _ c2 (dy.extBut _ _ c3 (dL.extBut _ _ c1 x))))) ⟨oe,i0.extBut _ _ lZ iW,jV⟩
 ·rw [aH (by decide)]
  refine aa ?_
  rw [<- Array.forIn_toList]
  rw [c8]
  refine aa (aa (bz ?_))
  change wpAny (model P w) A (Builtin.SmallTypes.nextOf (.ref i1)>>=fun x=>pure (some x)) _ _ _
  have kg:S1 k g₁:=Q5 D1 h1 dL.extBut fun b hb=>(Z.f1 b hb).1
  rcases hk with hk | ⟨bR,hk⟩
  ·subst hk
   exact aa (D1.done _ _ _ kg fun g₂ e dy he=>hE g₂ _ e (fun c o c1 _ c3 _ x=>dy _ _ c3 (dL.extBut _ _ c1 x)) he)
  ·refine aa (D1.item k _ _ _ bR kg fun x g₂ kP px kf dy=>ai (ai ?_))
   dsimp only
   rw [c8]
   refine aa (aa (bz ?_))
   change wpAny (model P w) A (Builtin.SmallTypes.nextOf (.ref i2)>>=fun x=>pure (some x)) _ _ _
   have mt:S2 k g₂:=Q5 D2 (Q5 D2 h2 dL.extBut fun b hb=>(Z.f2 b hb).1) dy.extBut fun b hb=>(Z.f2 b hb).2.2
   subst hk
   exact aa (D2.done _ _ _ mt fun g₃ e dP he=>hE g₃ _ e (fun c o c1 _ c3 c4 x=>dP _ _ c4 (dy.extBut _ _ c3 (dL.extBut _ _ c1 x))) he)
theorem Y5s {Q:Option Value->Shared->Prop} (Z:Q1g z TI TO i1 i2 gz gy) (D1:Draws P w A.in1 i1 gz n1 P1 S1) (D2:Draws P w A.in1 i2 gy n2 P2 S2) (hz:W9 s.heap z TI TO) (fw:IsPair s.heap TI (.ref i1) (.ref i2)) (ff:IsPair s.heap TO a b) (h1:S1 k s.heap) (h2:S2 k s.heap) (l1:k<n1) (l2:k<n2)
  (hQ:∀h' tk x y,P1 k x->P2 k y->W9 h' z TI TO->(∃a b,IsPair h' TO a b)->S1 (k+1) h'->S2 (k+1) h'->IsPair h' s.heap.objs.size x y->h'.objs.size=s.heap.objs.size+1->(∀c o,c≠z->c≠TO->c≠i1->c≠i2->s.heap.get? c=some o->h'.get? c=some o)->Q (some (.ref s.heap.objs.size)) { s with heap:=h',toks:=tk }) :
  wpAny (model P w) A (pyNext (.ref z)) Q E s:=by
 have hT:s.TypeIs (.ref z) "zip":=let ⟨_,_,q,_⟩:=hz;⟨_,q,rfl⟩
 unfold pyNext
 exact aa (wpAny_attempt (bB (name:=Str.ofString "__next__") hT F.slot_zip_next (bE F.slot_zip_next hT F.entry_zip_next
  (V0h Z D1 D2 hz fw ff h1 h2 l1 l2 fun h' tk x y a1 a2 a3 a4 a5 a6 a7 a8 a9=>ai (hQ h' tk x y a1 a2 a3 a4 a5 a6 a7 a8 a9)) (F.args_zip_next_1 _))))
theorem Y5t {Q:Option Value->Shared->Prop} (Z:Q1g z TI TO i1 i2 gz gy) (D1:Draws P w A.in1 i1 gz n1 P1 S1) (D2:Draws P w A.in1 i2 gy n2 P2 S2) (hz:W9 s.heap z TI TO) (fw:IsPair s.heap TI (.ref i1) (.ref i2)) (ff:IsPair s.heap TO a b) (h1:S1 k s.heap) (h2:S2 k s.heap) (hk:k=n1\/(k<n1/\k=n2))
  (hQ:∀h' tk,(∀c o,c≠z->c≠TO->c≠i1->c≠i2->s.heap.get? c=some o->h'.get? c=some o)->Q none { s with heap:=h',toks:=tk }):wpAny (model P w) A (pyNext (.ref z)) Q E s:=by
 have hT:s.TypeIs (.ref z) "zip":=let ⟨_,_,q,_⟩:=hz;⟨_,q,rfl⟩
 unfold pyNext
 refine aa (wpAny_attempt (bB (name:=Str.ofString "__next__") hT F.slot_zip_next (bE F.slot_zip_next hT F.entry_zip_next (V0g Z D1 D2 hz fw ff h1 h2 hk fun h' tk e kp he=>?_) (F.args_zip_next_1 _))))
 obtain⟨o,ho,hc⟩:=he
 exact aa (wpAny_isInstance (T:="StopIteration") (b:=true) ⟨o,ho,hc⟩ isSubtype_stop (ai (hQ _ _ kp)))
end
def SqB (b:Bool) (K:Fg9) (H:Hp) (l:Addr) (xs:List V):Prop:=match b with | true=>C4 K H l xs | false=>D6 K H l xs
def ItB (b:Bool) (h:Heap) (i l:Addr) (k:Nat):Prop:=match b with | true=>h.IsTupleIter i l k | false=>h.IsListIter i l k
def O0 (b:Bool) (h:Heap) (l:Addr) (a:Array Value):Prop:=match b with | true=>h.IsTuple l a | false=>h.IsList l a
noncomputable def itO (b:Bool) (l:Addr):Obj:={ cls:=.type (match b with | true=>"tuple_iterator" | false=>"list_iterator"),data:=.fields #[.ref l,.int 0 0] }
section
variable {P:Program}{w:World}{A:Around}{E:VS9}{s:Shared}{b b1 b2:Bool}{h h' H1:Heap}{i l k:Addr}{n:Nat}{xs ys:List V}{as:Array Value}{K:Fg9}{H H':Hp}{X:Cx}{ac:Pn9} {σ:St}
theorem SqB.same (s:A3 H H') (h:SqB b K H l xs):SqB b K H' l xs:=by
 cases b
 ·exact s.seq h
 ·exact(Kp.of s).sqT h
theorem Q4h (I:A0 X ac σ H s) (h:SqB b X.K H l xs):∃aU,B4 xs aU/\O0 b s.heap l aU.toArray/\xs.length<=sizeLine:=by
 cases b
 ·obtain⟨aU,rv,p,z⟩:=I.list h;exact⟨aU,rv,p.isList,z⟩
 ·obtain⟨aU,rv,p,z⟩:=I.tuple h;exact⟨aU,rv,p,z⟩
theorem Y4d (I:A0 X ac σ H s) (h1:SqB b X.K H l xs) (h2:SqB b X.K H l ys):xs=ys:=by
 cases b
 ·exact I.list_inj h1 h2
 ·exact I.tuple_inj h1 h2
theorem Q1i (b:Bool) (hh:A.handled=none) (i l:Addr) (cb:l≠i) (as:Array Value):Draws P w A i [i,l] as.size (fun k v=>as[k]?=some v) (fun k h=>ItB b h i l k/\O0 b h l as):=by
 cases b
 ·exact Draws.list hh i l cb as
 ·exact Z1m hh i l cb as
theorem ItB.keep (t:ItB b h i l n) (k:∀o,h.get? i=some o->h'.get? i=some o):ItB b h' i l n:=by
 cases b <;> (obtain⟨o,e,r⟩:=t;exact⟨o,k o e,r⟩)
theorem ItB.obj (t:ItB b h i l n):∃o,h.get? i=some o/\∀v,o.data≠.cell v:=by
 cases b <;> (obtain⟨o,e,_,d⟩:=t;exact⟨o,e,fun v z=>by rw [d]at z;cases z⟩)
theorem O0.keep (t:O0 b h l as) (k:∀o,h.get? l=some o->h'.get? l=some o):O0 b h' l as:=by
 cases b <;> (obtain⟨o,e,r⟩:=t;exact⟨o,k o e,r⟩)
theorem O0.lt (t:O0 b h l as):@LT.lt Nat _ l h.objs.size:=by
 cases b <;> (obtain⟨o,e,r⟩:=t;exact ay e)
theorem Z8y {Q:VS9} (t:O0 b s.heap l as) (hQ:Q (.ref s.heap.objs.size) { s with heap:=s.heap.push (itO b l) }):wpAny (model P w) A (pyIter (.ref l)) Q E s:=by
 cases b
 ·exact wpAny_pyIter_list t hQ
 ·exact wpAny_pyIter_tuple t hQ
theorem Z8w (e:h.get? i=some (itO b l)):ItB b h i l 0:=by cases b <;> exact⟨_,e,rfl,rfl⟩
end
noncomputable abbrev zt1 (b1:Bool) (h:Heap) (l:Addr):Heap:=h.push (itO b1 l)
noncomputable abbrev zt2 (b1 b2:Bool) (h:Heap) (l t:Addr):Heap:=(zt1 b1 h l).push (itO b2 t)
noncomputable abbrev zt3 (b1 b2:Bool) (h:Heap) (l t:Addr):Heap:=(zt2 b1 b2 h l t).push { cls:=.type "tuple",data:=.seq #[.ref h.objs.size,.ref (zt1 b1 h l).objs.size] }
noncomputable abbrev zt4 (b1 b2:Bool) (h:Heap) (l t:Addr):Heap:=(zt3 b1 b2 h l t).push { cls:=.type "tuple",data:=.seq #[.none,.none] }
noncomputable abbrev zt5 (b1 b2:Bool) (h:Heap) (l t:Addr):Heap:=(zt4 b1 b2 h l t).push { cls:=.type "zip",data:=.fields #[.none,.bool false,.bool false,.ref (zt2 b1 b2 h l t).objs.size,.ref (zt3 b1 b2 h l t).objs.size] }
theorem V0e (b1 b2:Bool) (l t:Addr) (xs ys:Array Value) :
  Meets (Builtin.«zip.__new__» ⟨[.type "zip",.ref l,.ref t],[]⟩) (fun _ R s=>O0 b1 s.heap l xs/\O0 b2 s.heap t ys/\R (.ok (.ret (.ref (zt4 b1 b2 s.heap l t).objs.size))) { s with heap:=zt5 b1 b2 s.heap l t }) :=
 Meets.of_wp fun prog w A R s h=>by
  obtain⟨hp,g,d,tk,os⟩:=s;obtain⟨gr,eG,h⟩:=h
  have hsub:=sub_zip
  have qU:O0 b1 (Shared.heap ⟨hp,g,d,tk,os⟩) l xs:=gr
  have qT:O0 b2 (Shared.heap ⟨hp.push (itO b1 l),g,d,tk,os⟩) t ys:=eG.keep fun o e=>ae _ e
  wp_walk using Z8y qU,Z8y qT
  exact⟨_,rfl,h⟩
theorem Y7p {P:Program}{w:World}{A:Around}{E:VS9}{s:Shared}{b1 b2:Bool}{l t:Addr}{xs ys:Array Value}{Q:VS9} (hl:O0 b1 s.heap l xs) (ht:O0 b2 s.heap t ys)
  (h:∀h',W9 h' (s.heap.objs.size+4) (s.heap.objs.size+2) (s.heap.objs.size+3)->IsPair h' (s.heap.objs.size+2) (.ref s.heap.objs.size) (.ref (s.heap.objs.size+1))->IsPair h' (s.heap.objs.size+3) .none .none ->
   ItB b1 h' s.heap.objs.size l 0->ItB b2 h' (s.heap.objs.size+1) t 0->h'.objs.size=s.heap.objs.size+5->(∀c o,s.heap.get? c=some o->h'.get? c=some o)->Q (.ref (s.heap.objs.size+4)) { s with heap:=h' }) :
  wpAny (model P w) A (call (.type "zip") [.ref l,.ref t]) Q E s:=by
 refine callType_new F.called_zip (by decide) (F.typeCall_zip_2 _ _) (F.newCall_zip_2 _ _) (fun obj=>F.args_object_init_3 obj _ _) F.entry_zip_new (V0e b1 b2 l t xs ys) ⟨hl,ht,?_⟩
 have e1:(zt1 b1 s.heap l).objs.size=s.heap.objs.size+1:=bv ..
 have e2:(zt2 b1 b2 s.heap l t).objs.size=s.heap.objs.size+2:=by rw [bv,e1]
 have e3:(zt3 b1 b2 s.heap l t).objs.size=s.heap.objs.size+3:=by rw [bv,e2]
 have e4:(zt4 b1 b2 s.heap l t).objs.size=s.heap.objs.size+4:=by rw [bv,e3]
 have e5:(zt5 b1 b2 s.heap l t).objs.size=s.heap.objs.size+5:=by rw [bv,e4]
 have g5:(zt5 b1 b2 s.heap l t).get? (zt4 b1 b2 s.heap l t).objs.size=some _:=aF _ rfl
 have g4:(zt5 b1 b2 s.heap l t).get? (zt3 b1 b2 s.heap l t).objs.size=some _:=ae _ (aF _ rfl)
 have g3:(zt5 b1 b2 s.heap l t).get? (zt2 b1 b2 s.heap l t).objs.size=some _:=ae _ (ae _ (aF _ rfl))
 have g2:(zt5 b1 b2 s.heap l t).get? (zt1 b1 s.heap l).objs.size=some (itO b2 t):=ae _ (ae _ (ae _ (aF _ rfl)))
 have g1:(zt5 b1 b2 s.heap l t).get? s.heap.objs.size=some (itO b1 l):=ae _ (ae _ (ae _ (ae _ (aF _ rfl))))
 rw [e2,e3,e4]at g5
 rw [e1,e2]at g3
 rw [e3]at g4
 rw [e1]at g2
 rw [e4]
 exact⟨⟨_,g5,rfl⟩,h _ ⟨_,_,g5,.inl rfl⟩ g3 g4 (Z8w g1) (Z8w g2) e5 fun c o x=>ae _ (ae _ (ae _ (ae _ (ae _ x))))⟩
theorem Z5q {P:Program}{w:World}{A:Around}{E:VS9}{s:Shared}{z TI TO:Addr}{Q:VS9} (hz:W9 s.heap z TI TO) (hQ:Q (.ref z) s):wpAny (model P w) A (pyIter (.ref z)) Q E s:=by
 obtain⟨_,_,hz,_⟩:=hz
 have q:s.TypeIs (.ref z) "zip":=⟨_,hz,rfl⟩
 exact wpAny_pyIter_slot q F.slot_zip_iter (bE F.slot_zip_iter q F.entry_zip_iter (show wpAny _ _ (ret (.ref z)) _ _ s from ai ⟨_,rfl,"zip",_,q,F.slot_zip_next.lookup,hQ⟩) (F.args_zip_iter_1 _))
theorem V0i {P:Program}{w:World}{A:Around}{E:VS9}{s:Shared}{z TI TO T:Addr}{tg:Expr}{Q:Unit->Shared->Prop} (hz:W9 s.heap z TI TO) (hQ:∀h',W9 h' z TI TO->Heap.SameBut z s.heap h'->Q () { s with heap:=h' }) :
  wpAny (model P w) A (letOwnedTupleGo tg (.ref z) (.ref T)) Q E s:=by
 have no:Q () s:=hQ s.heap hz (Heap.SameBut.refl _ _)
 have yes:wpAny (model P w) A (load z>>=fun o=>match o.cls,o.data with
  | .type n,.fields vs=>if (["enumerate","zip","dict_itemiterator","dict_reverseitemiterator","odict_iterator","itertools.zip_longest","itertools.pairwise"].contains n&&vs[0]?==some (rawInt T))=true then(do rule "for.unpacks-the-owned-tuple";updateField z 0 .none)else pure ()
  | _,_=>pure ()) Q E s:=by
  obtain⟨f0,f,hz,_⟩:=id hz
  refine aa (wpAny_load hz ?_)
  dsimp only
  split
  ·refine aa (fh ?_)
   show wpAny _ _ (setField (.ref z) 0 .none) Q E s
   exact cc hz (by simp) fun h' ie dU=>hQ h' ⟨_,_,ie,.inl rfl⟩ dU
  ·exact ai no
 unfold letOwnedTupleGo
 cases tg <;> first | exact yes | exact ai no
noncomputable def Izb (b1 b2:Bool) (K:Fg9) (l1 l2:Addr) (n:Nat):It:=⟨fun i H=>i<n/\∃xs ys,SqB b1 K H l1 xs/\SqB b2 K H l2 ys/\min xs.length ys.length=n,
 fun i H v H'=>∃T x y,(∀xs,SqB b1 K H l1 xs->xs[i]?=some x)/\(∀ys,SqB b2 K H l2 ys->ys[i]?=some y)/\H T=none/\v=.ref T/\H'=upd H T (.tup [x,y]),fun i H=>i=n/\∃xs ys,SqB b1 K H l1 xs/\SqB b2 K H l2 ys/\min xs.length ys.length=n⟩
def ZTn (b1 b2:Bool) (z TI TO i1 i2 l1 l2:Addr) (i:Nat) (h:Heap):Prop:=W9 h z TI TO/\IsPair h TI (.ref i1) (.ref i2)/\(∃a b,IsPair h TO a b)/\ItB b1 h i1 l1 i/\ItB b2 h i2 l2 i
theorem ZTn.obj {b1 b2:Bool}{z TI TO i1 i2 l1 l2:Addr}{i:Nat}{h:Heap} (t:ZTn b1 b2 z TI TO i1 i2 l1 l2 i h):∀c∈[z,TO,i1,i2,TI],∃o,h.get? c=some o/\∀v,o.data≠.cell v:=by
 obtain⟨⟨_,_,hz,_⟩,fw,⟨a,b,ff⟩,h1,h2⟩:=t
 intro c hc
 simp only [aq,aP,bu]at hc
 rcases hc with rfl | rfl | rfl | rfl | rfl
 ·exact⟨_,hz,fun v z=>by cases z⟩
 ·exact⟨_,ff,fun v z=>by cases z⟩
 ·exact h1.obj
 ·exact h2.obj
 ·exact⟨_,fw,fun v z=>by cases z⟩
theorem ZTn.keep {b1 b2:Bool}{z TI TO i1 i2 l1 l2:Addr}{i:Nat}{h h':Heap} (t:ZTn b1 b2 z TI TO i1 i2 l1 l2 i h) (k:∀b∈[z,TO,i1,i2,TI],∀o,h.get? b=some o->h'.get? b=some o):ZTn b1 b2 z TI TO i1 i2 l1 l2 i h':=by
 obtain⟨⟨f0,f,hz,r⟩,fw,⟨a,b,ff⟩,h1,h2⟩:=t
 exact⟨⟨f0,f,k z (by simp) _ hz,r⟩,k TI (by simp) _ fw,⟨a,b,k TO (by simp) _ ff⟩,h1.keep (k i1 (by simp)),h2.keep (k i2 (by simp))⟩
theorem W9i {P:Program}{w:World}{K:Fg9}{tg:Expr}{b1 b2:Bool}{z TI TO i1 i2 l1 l2:Addr}{n:Nat} (Z:Q1g z TI TO i1 i2 [i1,l1] [i2,l2]) (gr:l1≠i1) (eG:l2≠i2) :
  Z7 P w K tg (Izb b1 b2 K l1 l2 n) [z,TO,i1,i2,TI] z (ZTn b1 b2 z TI TO i1 i2 l1 l2) where
 mem:=by simp
 obj:=fun i h t=>t.obj
 keep:=fun i h h' t k=>t.keep k
 item:=by
  intro X hP hw hK hc i ac s σ H E I hf st hg
  subst hP hw hK
  obtain⟨bR,xs,ys,kD,kC,hn⟩:=hg
  obtain⟨aU,rv,p1,pQ⟩:=Q4h I kD
  obtain⟨bZ,dN,p2,pP⟩:=Q4h I kC
  have pA:=rv.length
  have pq:=dN.length
  have hd:X.A.in1.handled=none:=I.ok.hd hc
  have so:=st.obj
  obtain⟨sz,gG,⟨a0,b0,iL⟩,s1,s2⟩:=st
  have hx:xs[i]?=some (xs[i]'(by omega)):=af _
  have hy:ys[i]?=some (ys[i]'(by omega)):=af _
  obtain⟨u,hu,ru⟩:=rv.get hx
  obtain⟨u',lF,kZ⟩:=dN.get hy
  refine Y5s Z (Q1i b1 hd i1 l1 gr aU.toArray) (Q1i b2 hd i2 l2 eG bZ.toArray) sz gG iL ⟨s1,p1⟩ ⟨s2,p2⟩ (by simp;omega) (by simp;omega) fun h' tk x y px py z1 t1 a1 a2 pr _ kp=>⟨_,rfl,?_⟩
  have ex:x=u:=by
   have:aU[i]?=some x:=by simpa using px
   rw [hu]at this;exact(aC this).symm
  have ey:y=u':=by
   have:bZ[i]?=some y:=by simpa using py
   rw [lF]at this;exact(aC this).symm
  subst ex ey
  have hT:∀b∈[z,TO,i1,i2,TI],b≠s.heap.objs.size:=fun b hb zz=>by
   obtain⟨o,ho,_⟩:=so b hb
   exact aT _ (zz ▸ ay ho)
  refine V0i z1 fun h2 z2 sb=>?_
  have iS:∀c o,c∉[z,TO,i1,i2]->s.heap.get? c=some o->h2.get? c=some o:=fun c o hc e=>by
   simp only [aq,aP,bu,not_or]at hc
   exact(sb.2 c hc.1).trans (kp c o hc.1 hc.2.1 hc.2.2.1 hc.2.2.2 e)
  have eU:IsTup h2 s.heap.objs.size ([x,y]).toArray:=⟨_,(sb.2 _ (hT z (by simp)).symm).trans pr,rfl,_,rfl⟩
  have lY:∀b∈[z,TO,i1,i2],J9 X ac H b:=fun b hb=>hf b (by
   simp only [aq,aP,bu]at hb ⊢
   rcases hb with h | h | h | h <;> simp [h])
  have I2:=Q9h (t':=tk) (xs:=[xs[i]'(by omega),ys[i]'(by omega)]) I iS lY (aj s.heap.objs.size) eU (.cons ru (.cons kZ .nil)) (by show 2<=sizeLine;decide)
  obtain⟨ta,tb,t1⟩:=t1
  refine⟨.ref s.heap.objs.size,_,I2,rfl,⟨s.heap.objs.size,_,_,fun zs hz=>by rw [Y4d I hz kD];exact hx,fun zs hz=>by rw [Y4d I hz kC];exact hy,I.hok.fresh (aj _),rfl,rfl⟩,
   ⟨z2,(sb.2 _ Z.tiz).trans (kp _ _ Z.tiz Z.tito Z.ti1 Z.ti2 gG),⟨_,_,(sb.2 _ Z.toz).trans t1⟩,a1.1.keep fun o e=>(sb.2 _ Z.i1z).trans e,a2.1.keep fun o e=>(sb.2 _ Z.i2z).trans e⟩,fun b hb=>?_⟩
  rw [A9 (hT b hb)]
  exact(hf b hb).1
 done:=by
  intro X hP hw hK hc i ac s σ H E I hf st hg
  subst hP hw hK
  obtain⟨hi,xs,ys,kD,kC,hn⟩:=hg
  obtain⟨aU,rv,p1,pQ⟩:=Q4h I kD
  obtain⟨bZ,dN,p2,pP⟩:=Q4h I kC
  have pA:=rv.length
  have pq:=dN.length
  have hd:X.A.in1.handled=none:=I.ok.hd hc
  obtain⟨sz,gG,⟨a0,b0,iL⟩,s1,s2⟩:=st
  have lY:∀b∈[z,TO,i1,i2],J9 X ac H b:=fun b hb=>hf b (by
   simp only [aq,aP,bu]at hb ⊢
   rcases hb with h | h | h | h <;> simp [h])
  refine Y5t Z (Q1i b1 hd i1 l1 gr aU.toArray) (Q1i b2 hd i2 l2 eG bZ.toArray) sz gG iL ⟨s1,p1⟩ ⟨s2,p2⟩ (by simp only [aA];omega) fun h' tk kp=>⟨rfl,Q4j I (fun c o hc e=>?_) lY⟩
  simp only [aq,aP,bu,not_or]at hc
  exact kp c o hc.1 hc.2.1 hc.2.2.1 hc.2.2.2 e
 self:=fun A i s Q E st h=>Z5q st.1 h
theorem V0c {K:Fg9}{H:Hp}{b1 b2:Bool}{l1 l2:Addr}{xs ys:List V}{ds es:List D} (kU:SqB b1 K H l1 xs) (al:AllS K H ds xs) (dh:SqB b2 K H l2 ys) (cO:AllS K H es ys):YlS K (Izb b1 b2 K l1 l2 (min ds.length es.length)) (R4 ds es) H where
 go:=fun H' s i hi=>by
  rw [Z5p]at hi
  exact⟨hi,xs,ys,kU.same s,dh.same s,by rw [al.length,cO.length]⟩
 yld:=fun H' s i v cW d hd ⟨T,x,y,hx,hy,hT,hv,hH⟩=>by
  subst hH hv
  refine⟨C8 hT _,?_⟩
  obtain⟨d1,d2,e1,e2,rfl⟩:=Y5p hd
  obtain⟨v1,kB,q1⟩:=al.get e1
  obtain⟨v2,kA,q2⟩:=cO.get e2
  rw [hx xs (kU.same s)]at kB;cases kB
  rw [hy ys (dh.same s)]at kA;cases kA
  have kp:=Kp.of (s.trans (C8 hT (.tup [x,y])))
  exact A1.s_tup upd_same (AllS.cons (q1.mono kp _ _) (AllS.cons (q2.mono kp _ _) AllS.nil))
 stop:=fun H' s=>⟨Z5p _ _,xs,ys,kU.same s,dh.same s,by rw [al.length,cO.length]⟩
section
variable {P:Program}{w:World}{A:Around}{E:VS9}{s:Shared}{b1 b2:Bool}{z TI TO i1 i2 l1 l2:Addr}{xs ys:Array Value}
theorem V0f {R:Result->Shared->Prop}{S:Addr}{res:Value}{h0:Heap} (hh:A.handled=none) (D:Q1g z TI TO i1 i2 [i1,l1] [i2,l2]) (jn:l1≠i1) (j7:l2≠i2) (hS:S≠z/\S≠TI/\S≠TO/\S≠i1/\S≠i2/\S≠l1/\S≠l2) (hn:min xs.size ys.size<=sizeLine) (gQ:∀b∈[z,TI,TO,i1,i2,l1,l2,S],b<h0.objs.size)
  (hR:∀(h':Heap) (tk:Nat) (as:List Addr) (c:Nat),as.length=min xs.size ys.size->as.Nodup->(∀a∈as,h0.objs.size<=a)->(∀(j:Nat) a,as[j]?=some a->∃x y,xs[j]?=some x/\ys[j]?=some y/\IsPair h' a x y)->(∀c o,c∉[z,TO,i1,i2,S]->h0.get? c=some o->h'.get? c=some o) ->
   h'.get? S=some { cls:=.type "list",data:=.seq (as.map Value.ref).toArray c }->R (.ok (.ret res)) { s with heap:=h',toks:=tk }) :
  ∀(m k:Nat) (h:Heap) (tk c:Nat) (as:List Addr),m=min xs.size ys.size-k->k<=min xs.size ys.size->ZTn b1 b2 z TI TO i1 i2 l1 l2 k h->O0 b1 h l1 xs->O0 b2 h l2 ys->as.length=k->as.Nodup->(∀a∈as,h0.objs.size<=a)->h0.objs.size<=h.objs.size->(∀a∈as,a<h.objs.size) ->
   (∀(j:Nat) a,as[j]?=some a->∃x y,xs[j]?=some x/\ys[j]?=some y/\IsPair h a x y)->(∀c o,c∉[z,TO,i1,i2,S]->h0.get? c=some o->h.get? c=some o) ->
   h.get? S=some { cls:=.type "list",data:=.seq (as.map Value.ref).toArray c }->codeAny (model P w) A (.builtin "list.extend.loop" ⟨[.ref S,.ref z,res],[]⟩) R { s with heap:=h,toks:=tk }:=by
 intro m
 induction m with
 | zero =>
  intro k h tk c as hm hk st gr eG gT fW dW hsz bR iV fX jb
  have e:k=min xs.size ys.size:=by omega
  refine codeAny_builtin F.entry_extend_loop ?_;rw [Around.under_plainId F.plain_extend_loop _]
  change wpAny (model P w) A.in1 (pyNext (.ref z)>>=_) _ _ _
  obtain⟨sz,gG,⟨a0,b0,iL⟩,q1,q2⟩:=st
  refine aa (Y5t (s:={ s with heap:=h,toks:=tk }) (A:=A.in1) D (Q1i (P:=P) (w:=w) (A:=A.in1.in1) b1 hh i1 l1 jn xs) (Q1i (P:=P) (w:=w) (A:=A.in1.in1) b2 hh i2 l2 j7 ys) sz gG iL ⟨q1,gr⟩ ⟨q2,eG⟩ (by omega) fun h' mL kp=>ai ?_)
  obtain⟨s1,s2,s3,s4,s5,s6,s7⟩:=hS
  have ap:∀a∈as,a≠z/\a≠TO/\a≠i1/\a≠i2:=fun a ha=>by
   have g:=dW a ha
   refine⟨fun e=>?_,fun e=>?_,fun e=>?_,fun e=>?_⟩ <;> (have:=gQ a (by rw [e];simp);exact absurd this (Nat.not_lt.mpr g))
  refine hR h' _ as c (by omega) fW dW (fun j a ej=>?_) (fun c o hc e=>?_) (kp S _ s1 s3 s4 s5 jb)
  ·obtain⟨x,y,ex,ey,p⟩:=iV j a ej
   obtain⟨a1,a2,a3,a4⟩:=ap a (aE ej)
   exact⟨x,y,ex,ey,kp a _ a1 a2 a3 a4 p⟩
  ·have:=fX c o hc e
   simp only [aq,aP,bu,not_or]at hc
   exact kp c o hc.1 hc.2.1 hc.2.2.1 hc.2.2.2.1 this
 | succ m ih =>
  intro k h tk c as hm hk st gr eG gT fW dW hsz bR iV fX jb
  have qp:k<xs.size:=by omega
  have qo:k<ys.size:=by omega
  refine codeAny_builtin F.entry_extend_loop ?_;rw [Around.under_plainId F.plain_extend_loop _]
  change wpAny (model P w) A.in1 (pyNext (.ref z)>>=_) _ _ _
  have mI:∀a,h0.objs.size<=a->a≠z/\a≠TI/\a≠TO/\a≠i1/\a≠i2/\a≠S:=fun a g=>by
   refine⟨fun e=>?_,fun e=>?_,fun e=>?_,fun e=>?_,fun e=>?_,fun e=>?_⟩ <;> (have:=gQ a (by rw [e];simp);exact absurd this (Nat.not_lt.mpr g))
  have ap:∀a∈as,a≠z/\a≠TI/\a≠TO/\a≠i1/\a≠i2:=fun a ha=>by obtain⟨a1,a2,a3,a4,a5,_⟩:=mI a (dW a ha);exact⟨a1,a2,a3,a4,a5⟩
  obtain⟨s1,s2,s3,s4,s5,s6,s7⟩:=hS
  obtain⟨sz,gG,⟨a0,b0,iL⟩,q1,q2⟩:=st
  refine aa (Y5s (s:={ s with heap:=h,toks:=tk }) (A:=A.in1) D (Q1i (P:=P) (w:=w) (A:=A.in1.in1) b1 hh i1 l1 jn xs) (Q1i (P:=P) (w:=w) (A:=A.in1.in1) b2 hh i2 l2 j7 ys) sz gG iL ⟨q1,gr⟩ ⟨q2,eG⟩ qp qo fun h' mL x y px py mQ eJ mP dF oQ oH kp=>?_)
  have eK:ZTn b1 b2 z TI TO i1 i2 l1 l2 (k+1) h':=⟨mQ,kp _ _ D.tiz D.tito D.ti1 D.ti2 gG,eJ,mP.1,dF.1⟩
  have nN:=kp S _ s1 s3 s4 s5 jb
  change wpAny (model P w) A.in1 (updateSeq S (·.push (Value.ref h.objs.size))>>=_) _ _ _
  have jZ:(as.map Value.ref).toArray.size=k:=by simp [gT]
  refine aa (wpAny_updateSeq nN rfl (ai ⟨plainId_quiet F.plain_extend_loop _,?_⟩) (hz:=by rw [jZ];omega) (_hz':=by show((as.map Value.ref).toArray.push _).size<=_;rw [Array.size_push,jZ];omega))
  have fk:∀b o,b≠S->h'.get? b=some o->(h'.update S (Obj.mapSeq (·.push (Value.ref h.objs.size)))).get? b=some o:=fun b o hb e=>(cF _ _ (bt hb)).trans e
  have mN:(h'.update S (Obj.mapSeq (·.push (Value.ref h.objs.size)))).objs.size=h.objs.size+1:=by rw [(bo (h:=h') (a:=S) ..).1];exact oH
  have jM:h0.objs.size<=h.objs.size:=hsz
  have lc:=mI h.objs.size jM
  obtain⟨c',qQ⟩:∃c',(h'.update S (Obj.mapSeq (·.push (Value.ref h.objs.size)))).get? S=some { cls:=.type "list",data:=.seq ((as++[h.objs.size]).map Value.ref).toArray c' }:=by
   have e:=ck (Obj.mapSeq (·.push (Value.ref h.objs.size))) nN rfl
   have e2:((as++[h.objs.size]).map Value.ref).toArray=(as.map Value.ref).toArray.push (Value.ref h.objs.size):=by simp
   rw [e2]
   exact⟨_,e⟩
  refine ih (k+1) _ mL c' (as++[h.objs.size]) (by omega) (by omega) (eK.keep fun b hb o e=>fk b o (fun z=>?_) e) (mP.2.keep fun o e=>fk _ o (bt s6) e) (dF.2.keep fun o e=>fk _ o (bt s7) e) (by rw [aD,gT];rfl) ?_ ?_ (by rw [mN];omega) ?_ ?_ ?_ ?_
  ·rw [z]at hb
   simp only [aq,aP,bu]at hb
   rcases hb with h | h | h | h | h
   ·exact s1 h
   ·exact s3 h
   ·exact s4 h
   ·exact s5 h
   ·exact s2 h
  ·rw [bC]
   refine⟨fW,by simp,fun a ha b hb e=>?_⟩
   rw [show b=h.objs.size by simpa using hb]at e
   have:=bR a ha
   rw [e]at this;exact aT _ this
  ·intro a ha
   rcases aS.mp ha with q | q
   ·exact dW a q
   ·rw [aN.mp q];exact jM
  ·intro a ha
   rw [mN]
   rcases aS.mp ha with q | q
   ·exact be (bR a q)
   ·rw [aN.mp q];exact cf _
  ·intro j a ej
   by_cases hj:j<as.length
   ·rw [aI hj]at ej
    obtain⟨x,y,ex,ey,p⟩:=iV j a ej
    obtain⟨a1,a2,a3,a4,a5⟩:=ap a (aE ej)
    exact⟨x,y,ex,ey,fk _ _ (mI a (dW a (aE ej))).2.2.2.2.2 (kp a _ a1 a3 a4 a5 p)⟩
   ·rw [aQ (by omega)]at ej
    have e0:j-as.length=0:=by
     rcases Nat.eq_zero_or_pos (j-as.length)with z | z
     ·exact z
     ·rw [cr (show [h.objs.size].length<=j-as.length from z)]at ej;cases ej
    rw [e0]at ej
    cases ej
    have ej:j=k:=by omega
    subst ej
    exact⟨_,_,px,py,fk _ _ lc.2.2.2.2.2 oQ⟩
  ·intro c o hc e
   have:=fX c o hc e
   simp only [aq,aP,bu,not_or]at hc
   exact fk c o hc.2.2.2.2 (kp c o hc.1 hc.2.1 hc.2.2.1 hc.2.2.2.1 this)
  ·exact qQ
theorem Y8u {Q:Bool->Shared->Prop} (hT:s.TypeIs (.ref z) "zip") (h:Q true s):wpAny (model P w) A (Builtin.List.listLengthHint (.ref z)) Q E s:=by
 unfold Builtin.List.listLengthHint;refine aa (wpAny_specialOf hT (show typeLookup (.type "zip") "__len__"=pure none by rw [typeLookup_type,builtinLookup_eq_fast];kernel_rfl) ?_)
 refine aa (wpAny_specialOf hT (show typeLookup (.type "zip") "__length_hint__"=pure none by rw [typeLookup_type,builtinLookup_eq_fast];kernel_rfl) ?_)
 exact ai h
theorem Z2l {h:Heap}{S:Addr}{xs:Array Value}{c:Nat} (e:h.get? S=some { cls:=.type "list",data:=.seq xs c }) (f:Array Value->Array Value):∃c',(h.update S (Obj.mapSeq f)).get? S=some { cls:=.type "list",data:=.seq (f xs) c' } :=
 ⟨_,ck (Obj.mapSeq f) e rfl⟩
theorem Y7k {Q:VS9} (hh:A.handled=none) (D:Q1g z TI TO i1 i2 [i1,l1] [i2,l2]) (jn:l1≠i1) (j7:l2≠i2) (st:ZTn b1 b2 z TI TO i1 i2 l1 l2 0 s.heap) (gr:O0 b1 s.heap l1 xs) (eG:O0 b2 s.heap l2 ys) (hn:min xs.size ys.size<=sizeLine) (gQ:∀b∈[z,TI,TO,i1,i2,l1,l2],b<s.heap.objs.size)
  (hQ:∀(h':Heap) (tk:Nat) (as:List Addr) (c:Nat),as.length=min xs.size ys.size->as.Nodup->(∀a∈as,s.heap.objs.size<a)->(∀(j:Nat) a,as[j]?=some a->∃x y,xs[j]?=some x/\ys[j]?=some y/\IsPair h' a x y)->(∀c o,c∉[z,TO,i1,i2]->s.heap.get? c=some o->h'.get? c=some o) ->
   h'.get? s.heap.objs.size=some { cls:=.type "list",data:=.seq (as.map Value.ref).toArray c }->Q (.ref s.heap.objs.size) { s with heap:=h',toks:=tk }) :
  wpAny (model P w) A (call (.type "list") [.ref z]) Q E s:=by
 refine callType_codes (Q₁:=fun obj s₁=>obj=.ref s.heap.objs.size/\s₁={ s with heap:=s.heap.push { cls:=.type "list",data:=.seq #[] } }) PySem.F.called_list (PySem.F.typeCall_list_1 _) PySem.F.entry_list_init (code_list_new _ ⟨rfl,rfl⟩) ?_
 rintro obj s₁ ⟨rfl,rfl⟩
 generalize hSe:s.heap.objs.size=S
 have ij:∀b∈[z,TI,TO,i1,i2,l1,l2],b<S:=fun b hb=>by rw [<- hSe];exact gQ b hb
 have kI:(s.heap.push { cls:=.type "list",data:=.seq #[] }).get? S=some { cls:=.type "list",data:=.seq #[] }:=by rw [<- hSe];exact aF _ rfl
 have ne:∀b,b∈[z,TI,TO,i1,i2,l1,l2]->b≠S:=fun b hb=>aB (ij b hb)
 refine⟨⟨_,kI,rfl⟩,PySem.F.args_list_init_2 _ _,?_⟩
 change wpAny (model P w) A.in1.in1 (Builtin.List.listItems (.ref S)>>=fun old=>Builtin.List.listUpdate (.ref S) (fun _=>#[])>>=fun _=>letGo old.toList.reverse>>=fun _=>Builtin.List.listExtendWith (.ref S) (.ref z) .none) _ _ _
 unfold Builtin.List.listItems
 refine aa (aa (ce kI rfl (ai ?_)))
 change wpAny (model P w) A.in1.in1 (updateSeq S (fun _=>#[])>>=_) _ _ _
 refine aa (wpAny_updateSeq kI rfl (aa (wpAny_letGo ?_)))
 obtain⟨c1,mn⟩:=Z2l kI (fun _=>#[])
 have gJ:∀b o,b≠S->s.heap.get? b=some o->((s.heap.push { cls:=.type "list",data:=.seq #[] }).update S (Obj.mapSeq (fun _=>#[]))).get? b=some o:=fun b o hb e=>(cF _ _ (bt hb)).trans (ae _ e)
 have mO:((s.heap.push { cls:=.type "list",data:=.seq #[] }).update S (Obj.mapSeq (fun _=>#[]))).objs.size=S+1:=by rw [(bo (h:=s.heap.push { cls:=.type "list",data:=.seq #[] }) (a:=S) ..).1,bv,hSe]
 generalize hH1:(s.heap.push { cls:=.type "list",data:=.seq #[] }).update S (Obj.mapSeq (fun _=>#[]))=H1 at mn gJ mO ⊢
 have iJ:∀h:Heap,(∀b o,b≠S->s.heap.get? b=some o->h.get? b=some o)->ZTn b1 b2 z TI TO i1 i2 l1 l2 0 h:=fun h k=>st.keep fun b hb o e=>k b o (ne b (by
  simp only [aq,aP,bu]at hb ⊢
  rcases hb with h | h | h | h | h <;> simp [h])) e
 obtain⟨⟨_,_,ez,_⟩,_⟩:=id (iJ H1 gJ)
 have cz:∃o,H1.get? z=some o/\o.cls=.type "zip":=⟨_,ez,rfl⟩
 obtain⟨oz,ez,cz⟩:=cz
 unfold Builtin.List.listExtendWith;refine aa (wpAny_typeOf (T:="zip") ⟨oz,ez,cz⟩ ?_)
 have h1:Builtin.List.listSameRef (.ref S) (.ref z)=false:=by simp [Builtin.List.listSameRef,(ne z (by simp)).symm]
 have h2:(Builtin.List.listSameRef (.ref S) (.ref z)||(Value.type "zip"==Value.type "list")||(Value.type "zip"==Value.type "tuple"))=false:=by rw [h1];decide
 rw [aH (by rw [h2];decide)]
 refine aa (Z5q (iJ H1 gJ).1 (aa (bz (Y8u ⟨oz,ez,cz⟩ ?_))))
 rw [Bool.true_or,aJ rfl]
 refine aa (fh (aa ?_))
 change wpAny (model P w) A.in1.in1 (updateSeq S (·.push .none)>>=fun _=>updateSeq S (·.pop)) _ _ _
 refine aa (wpAny_updateSeq mn rfl ?_)
 obtain⟨c2,nM⟩:=Z2l mn (·.push Value.none)
 refine wpAny_updateSeq (hz:=by seq_fits) nM rfl ?_
 obtain⟨c3,nL⟩:=Z2l nM (·.pop)
 have e3:((#[]:Array Value).push Value.none).pop=(([]:List Addr).map Value.ref).toArray:=rfl
 have eD:∀b o,b≠S->s.heap.get? b=some o->((H1.update S (Obj.mapSeq (·.push Value.none))).update S (Obj.mapSeq (·.pop))).get? b=some o:=fun b o hb e=>(cF _ _ (bt hb)).trans ((cF _ _ (bt hb)).trans (gJ b o hb e))
 have kQ:((H1.update S (Obj.mapSeq (·.push Value.none))).update S (Obj.mapSeq (·.pop))).objs.size=S+1:=by rw [(bo (h:=H1.update S (Obj.mapSeq (·.push Value.none))) (a:=S) ..).1,(bo (h:=H1) (a:=S) ..).1,mO]
 generalize hH3:(H1.update S (Obj.mapSeq (·.push Value.none))).update S (Obj.mapSeq (·.pop))=H3 at nL eD kQ ⊢
 refine ai ⟨plainId_quiet PySem.F.plain_extend_loop _,?_⟩
 have pz:O0 b1 H3 l1 xs:=gr.keep fun o e=>eD _ _ (ne l1 (by simp)) e
 have pk:O0 b2 H3 l2 ys:=eG.keep fun o e=>eD _ _ (ne l2 (by simp)) e
 refine V0f (s:=s) (A:=A.in1) (h0:=H3) (S:=S) hh D jn j7 ⟨(ne z (by simp)).symm,(ne TI (by simp)).symm,(ne TO (by simp)).symm,(ne i1 (by simp)).symm,(ne i2 (by simp)).symm,(ne l1 (by simp)).symm,(ne l2 (by simp)).symm⟩ hn (fun b hb=>?_) (fun h' tk as c gT fW dW iV lT jb=>?_)
  _ 0 H3 _ c3 [] rfl (ba _) (iJ H3 eD) pz pk rfl jq (by intro a ha;cases ha) (aj _) (by intro a ha;cases ha) (by intro j a e;simp at e) (fun c o _ e=>e) (by rw [<- e3];exact nL)
 ·rw [kQ]
  rcases aS.mp (show b∈[z,TI,TO,i1,i2,l1,l2]++[S]from hb)with q | q
  ·exact be (ij b q)
  ·rw [aN.mp q];exact cf _
 ·refine⟨rfl,hSe ▸ hQ h' tk as c gT fW (fun a ha=>?_) iV (fun c o hc e=>?_) (hSe.symm ▸ jb)⟩
  ·have:=dW a ha;rw [kQ]at this;rw [hSe];exact this
  ·refine lT c o (fun q=>?_) (eD c o (fun z=>?_) e)
   ·rcases aS.mp (show c∈[z,TO,i1,i2]++[S]from q)with q | q
    ·exact hc q
    ·rw [aN.mp q,<- hSe]at e;exact absurd (ay e) (aT _)
   ·rw [z,<- hSe]at e;exact absurd (ay e) (aT _)
end
section
variable {X:Cx}{H0:Hp}{a b:Expr}{p p2 pos dj:Pos}{wr:WA}
theorem Z8r {ac:Pn9} {σ:St}{s:Shared}{n0:Nat} (h0:X.s₀.heap.objs.size<=n0):∀(as:List Addr) (xs:List (V×V)) {H:Hp},A0 X ac σ H s->as.length=xs.length->as.Nodup->(∀a∈as,n0<=a/\H a=none/\a≠X.env.locals/\(∀x c,X.env.cells.lookup x=some c->c≠a)/\∀q∈X.pn++ac,q.1≠a) ->
  (∀(j:Nat) a v,as[j]?=some a->xs[j]?=some v->∃x y,B9 v.1 x/\B9 v.2 y/\IsPair s.heap a x y)->∃H',A0 X ac σ H' s/\A3 H H'/\(∀c,c∉as->H' c=H c)/\∀(j:Nat) a v,as[j]?=some a->xs[j]?=some v->H' a=some (.tup [v.1,v.2])
 | [],xs,H,I,_,_,_,_=>⟨H,I,A3.refl H,fun _ _=>rfl,by intro j a v e;simp at e⟩
 | c::as,[],H,I,l,_,_,_=>by cases l
 | c::as,u::xs,H,I,l,n,f,g=>by
  rw [bx]at n
  obtain⟨c1,c2,c3,c4,c5⟩:=f c ao
  obtain⟨x,y,rx,ry,pr⟩:=g 0 c u rfl rfl
  have I1:A0 X ac σ (upd H c (.tup [u.1,u.2])) s:=Z1z I c2 (.inr (aX h0 c1)) c3 c4 c5 ⟨by show 2<=sizeLine;decide,[x,y],.cons rx (.cons ry .nil),_,pr,rfl,_,rfl⟩
  obtain⟨H',I2,sm,fk,at_⟩:=Z8r h0 as xs I1 (by simpa using l) n.2 (fun a ha=>by
   obtain⟨a1,a2,a3⟩:=f a (ar _ ha)
   exact⟨a1,by rw [A9 (fun z=>n.1 (by rw [<- z];exact ha))];exact a2,a3⟩) fun j a v e1 e2=>g (j+1) a v (by simpa using e1) (by simpa using e2)
  refine⟨H',I2,(C8 c2 _).trans sm,fun d hd=>?_,fun j a v e1 e2=>?_⟩
  ·rw [fk d (fun z=>hd (ar _ z)),A9 (fun z=>hd (by rw [z];exact ao))]
  ·cases j with
   | zero=>cases e1;cases e2;rw [fk c n.1];exact upd_same
   | succ j=>exact at_ j a v (by simpa using e1) (by simpa using e2)
theorem Y4e {K:Fg9}{H0 H:Hp}{r:R}{ds:List D}{v:V} (e:Q8 r=some ds) (h:E1 K H0 H r v):∃(b:Bool) (a:Addr) (xs:List V),v=.ref a/\SqB b K H a xs/\AllS K H ds xs:=by
 obtain⟨a,xs,rfl,h | h,al⟩:=Z3m e h
 ·exact⟨false,a,xs,rfl,h,al⟩
 ·exact⟨true,a,xs,rfl,h,al⟩
theorem Y5q {ac:Pn9}{s:Shared} {σ:St}{H:Hp}{G:List D->List D->Hp->Prop}{Q:VS9} (I:A0 X ac σ H s) (hg:Gl X "zip") (hm:X.mg "zip"=none) (ha:DA X H0 [a,b] wr) {τ:A6} (hR:B6 X.K H0 τ σ H)
  (h:wr τ fun rs=>∃r r' ds es,rs=[r,r']/\Q8 r=some ds/\Q8 r'=some es/\∀H',A3 H H'->G ds es H')
  (hQ:∀(b1 b2:Bool) (l1 l2:Addr) (xs ys:List V) (aU bZ:List Value) (ds es:List D) (H1:Hp) (s1:Shared) (h':Heap),A0 X ac σ H1 s1->A3 H H1->SqB b1 X.K H1 l1 xs->SqB b2 X.K H1 l2 ys->AllS X.K H1 ds xs->AllS X.K H1 es ys->B4 xs aU->B4 ys bZ->O0 b1 s1.heap l1 aU.toArray->O0 b2 s1.heap l2 bZ.toArray->xs.length<=sizeLine ->
   ZTn b1 b2 (s1.heap.objs.size+4) (s1.heap.objs.size+2) (s1.heap.objs.size+3) s1.heap.objs.size (s1.heap.objs.size+1) l1 l2 0 h'->Q1g (s1.heap.objs.size+4) (s1.heap.objs.size+2) (s1.heap.objs.size+3) s1.heap.objs.size (s1.heap.objs.size+1) [s1.heap.objs.size,l1] [s1.heap.objs.size+1,l2] ->
   @LT.lt Nat _ l1 s1.heap.objs.size->@LT.lt Nat _ l2 s1.heap.objs.size->h'.objs.size=s1.heap.objs.size+5->(∀c o,s1.heap.get? c=some o->h'.get? c=some o)->(∀H',A3 H H'->G ds es H')->Q (.ref (s1.heap.objs.size+4)) { s1 with heap:=h' })
  (he:starEach [a,b] X.env=(false,eval a X.env)::starEach [b] X.env) (hpl:(backTo pos (starEach [b] X.env)).any (·.1)=false) :
  wpAny (model X.prog X.w) X.A (eval (.Call (.Name "zip" p) [a,b] [] pos) X.env) Q X.xe s:=by
 refine bn (Q0f I hg hm (u:=.type "zip") rfl ?_ (by decide) (by decide))
 refine bh (B3 (ha.pa pos ac s σ H (fun vs H1=>A3 H H1/\∃b1 b2 l1 l2 xs ys ds es,vs=[.ref l1,.ref l2]/\SqB b1 X.K H1 l1 xs/\AllS X.K H1 ds xs/\SqB b2 X.K H1 l2 ys/\AllS X.K H1 es ys/\∀H',A3 H H'->G ds es H') I
  ⟨τ,hR,ha.mono τ _ _ (fun rs ⟨r,r',ds,es,e1,e2,e3,q⟩ vs H1 s1 cw=>⟨s1,by
   subst e1
   obtain⟨v,u,rfl,ir,pJ⟩:=Y6p cw
   obtain⟨b1,l,xs,rfl,sq,al⟩:=Y4e e2 ir
   obtain⟨b2,l2,ys,rfl,dh,cO⟩:=Y4e e3 pJ
   exact⟨b1,b2,l,l2,xs,ys,ds,es,rfl,sq,al,dh,cO,q⟩⟩) h⟩) fun us s1 br=>?_) he hpl
 obtain⟨vs,H1,I1,rv,sm,b1,b2,l1,l2,xs,ys,ds,es,e1,sq,al,dh,cO,q⟩:=br
 subst e1
 obtain⟨u1,u2,rfl,r1,r2⟩:=rv.two
 cases (show u1=Value.ref l1 from r1)
 cases (show u2=Value.ref l2 from r2)
 obtain⟨aU,fD,pl,ie⟩:=Q4h I1 sq
 obtain⟨bZ,gH,dZ,pO⟩:=Q4h I1 dh
 have hl:=pl.lt
 have eG:=dZ.lt
 refine Y7p pl dZ fun h' hz fw ff jn j7 hsz k=>hQ b1 b2 l1 l2 xs ys aU bZ ds es H1 s1 h' I1 sm sq dh al cO fD gH pl dZ ie ⟨hz,fw,⟨_,_,ff⟩,jn,j7⟩ ?_ hl eG hsz k q
 refine⟨?_,?_,?_,?_,?_,?_,?_,?_,?_,?_,fun b hb=>?_,fun b hb=>?_⟩
 all_goals first | (show ¬ ((_:Nat)=(_:Nat));omega) | skip
 all_goals simp only [aq,aP,bu]at hb
 all_goals rcases hb with rfl | rfl <;> refine⟨?_,?_,?_⟩ <;> (show ¬ ((_:Nat)=(_:Nat));omega)
noncomputable def Q3j (wr:WA):M6:=fun τ Q=>wr τ fun rs=>∃r r' ds es,rs=[r,r']/\Q8 r=some ds/\Q8 r'=some es/\Q (R4 ds es)
theorem D7.zipA {tg:Expr} (hg:Gl X "zip") (hm:X.mg "zip"=none) (ha:DA X H0 [a,b] wr) (he:starEach [a,b] X.env=(false,eval a X.env)::starEach [b] X.env:=by rfl) (hpl:(backTo pos (starEach [b] X.env)).any (·.1)=false:=by rfl) :
  D7 X H0 tg (.Call (.Name "zip" p) [a,b] [] pos) (Q3j wr) where
 mono:=fun τ P Q f h=>ha.mono τ _ _ (fun r ⟨r1,r2,ds,es,e1,e2,e3,q⟩=>⟨r1,r2,ds,es,e1,e2,e3,f _ q⟩) h
 pi:=by
  intro ac s σ H R I ⟨τ,hR,h⟩
  refine Y5q (G:=fun ds es H'=>∀J,YlS X.K J (R4 ds es) H'->R J H') I hg hm ha hR (ha.mono τ _ _ (fun rs ⟨r,r',ds,es,e1,e2,e3,q⟩=>⟨r,r',ds,es,e1,e2,e3,fun H' sm J y=>q J H' sm y⟩) h) (fun b1 b2 l1 l2 xs ys aU bZ ds es H1 s1 h' I1 sm sq dh al cO rv dN pl dZ hz st Z hl eG hsz k q=>?_) he hpl
  refine Z5q (s:={ s1 with heap:=h' }) st.1 ⟨s1.heap.objs.size+4,[s1.heap.objs.size+4,s1.heap.objs.size+3,s1.heap.objs.size,s1.heap.objs.size+1,s1.heap.objs.size+2],_,_,H1,rfl,I1.kept (t':=s1.toks) k,W9i (n:=Min.min ds.length es.length) Z (aB hl) (aB (be eG)),st,fun b hb=>?_,q _ sm _ (V0c sq al dh cO)⟩
  have hb:s1.heap.objs.size<=b:=by
   simp only [aq,aP,bu]at hb
   rcases hb with rfl | rfl | rfl | rfl | rfl <;> first | exact aj _ | exact Nat.le_add_right _ _
  exact I1.fpOk hb (I1.hok.fresh hb)
@[simp] theorem Y2q {τ:A6}{Q:List D->Prop}:Q3j wr τ Q=wr τ fun rs=>∃r r' ds es,rs=[r,r']/\Q8 r=some ds/\Q8 r'=some es/\Q (R4 ds es):=rfl
def Z4q (wr:WA):WE:=fun τ Q=>wr τ fun rs=>∃r r' ds es,rs=[r,r']/\Q8 r=some ds/\Q8 r'=some es/\Q (.nw (R4 ds es))
theorem DE.listZip (hc:X.calm=true) (hg:Gl X "list") (hm:X.mg "list"=none) (qv:Gl X "zip") (qh:X.mg "zip"=none) (ha:DA X H0 [a,b] wr)
  (hs:starEach [.Call (.Name "zip" p2) [a,b] [] dj] X.env=(false,eval (.Call (.Name "zip" p2) [a,b] [] dj) X.env)::starEach [] X.env:=by rfl)
  (he:starEach [a,b] X.env=(false,eval a X.env)::starEach [b] X.env:=by rfl) (hpl:(backTo dj (starEach [b] X.env)).any (·.1)=false:=by rfl) :
  DE X H0 (.Call (.Name "list" p) [.Call (.Name "zip" p2) [a,b] [] dj] [] pos) (Z4q wr) where
 mono:=fun τ P Q f h=>ha.mono τ _ _ (fun r ⟨r1,r2,ds,es,e1,e2,e3,q⟩=>⟨r1,r2,ds,es,e1,e2,e3,f _ q⟩) h
 pe:=by
  intro ac s σ H Q I ⟨τ,hR,h⟩
  refine bn (Q0f I hg hm (u:=.type "list") rfl ?_ (by decide) (by decide))
  refine bh ?_ hs
  rw [hs]
  change wpAny (model X.prog X.w) X.A (spliced ((false,eval (.Call (.Name "zip" p2) [a,b] [] dj) X.env)::backTo pos (starEach [] X.env))) _ _ s
  refine bT ?_
  refine Y5q (G:=fun ds es H'=>∀v,E1 X.K H H' (.nw (R4 ds es)) v->Q v H') I qv qh ha hR (ha.mono τ _ _ (fun rs ⟨r,r',ds,es,e1,e2,e3,q⟩=>⟨r,r',ds,es,e1,e2,e3,fun H' sm v i=>q v H' sm i⟩) h) (fun b1 b2 l1 l2 xs ys aU bZ ds es H1 s1 h' I1 sm sq dh al cO fD gH pl dZ ie st Z hl eG hsz k q=>cR ?_) he hpl
  have n1:=fD.length
  have n2:=gH.length
  refine Y7k (s:={ s1 with heap:=h' }) (I.ok.hd hc) Z (aB hl) (aB (be eG)) st (pl.keep fun o e=>k _ o e) (dZ.keep fun o e=>k _ o e) (by simp only [aA];omega) (fun b hb=>?_) fun h2 tk as c gT fW dW iV lT jb=>?_
  ·show b<h'.objs.size
   rw [hsz]
   simp only [aq,aP,bu]at hb;rcases hb with rfl | rfl | rfl | rfl | rfl | rfl | rfl <;> (show(_:Nat)<(_:Nat);omega)
  ·have lS:∀c o,s1.heap.get? c=some o->h2.get? c=some o:=fun c o e=>lT c o (fun z=>by
    have:@LT.lt Nat _ c s1.heap.objs.size:=ay e
    simp only [aq,aP,bu]at z
    rcases z with rfl | rfl | rfl | rfl <;> omega) (k c o e)
   have I2:A0 X ac σ H1 { s1 with heap:=h2,toks:=tk }:=I1.kept (t':=tk) lS
   have hS:@LE.le Nat _ s1.heap.objs.size h'.objs.size:=by rw [hsz];omega
   have big:∀c,s1.heap.objs.size<=c->H1 c=none/\c≠X.env.locals/\(∀x d,X.env.cells.lookup x=some d->d≠c)/\∀q∈X.pn++ac,q.1≠c:=fun c gR=>by
    obtain⟨f0,f1,_,_,f4,f5⟩:=I1.fpOk gR (I1.hok.fresh gR)
    exact⟨f0,f1,f4,f5⟩
   have k6:∀a∈as,s1.heap.objs.size<=a:=fun a kH=>aX hS (db (dW a kH))
   have p8:(xs.zip ys).length=Min.min aU.toArray.size bZ.toArray.size:=by simp;omega
   obtain⟨H3,I3,iK,eD,rG⟩:=Z8r (X:=X) (s:={ s1 with heap:=h2,toks:=tk }) (n0:=s1.heap.objs.size) I1.sz as (xs.zip ys) I2 (by rw [gT,p8]) fW (fun a kH=>⟨k6 a kH,big a (k6 a kH)⟩) fun j a v e1 e2=>by
    obtain⟨x,y,ex,ey,pr⟩:=iV j a e1
    rw [bP]at e2
    obtain⟨u,hu,ru⟩:=fD.get e2.1
    obtain⟨u',lF,kZ⟩:=gH.get e2.2
    have ex:aU[j]?=some x:=by simpa using ex
    have ey:bZ[j]?=some y:=by simpa using ey
    rw [hu]at ex;cases ex
    rw [lF]at ey;cases ey
    exact⟨_,_,ru,kZ,pr⟩
   have mh:h'.objs.size∉as:=fun z=>aT _ (dW _ z)
   obtain⟨b1,b2,b3,b4⟩:=big h'.objs.size hS
   have hz:(as.map V.ref).length<=sizeLine:=by rw [ah,gT];simp only [aA];omega
   have I4:=Z1z I3 (p:=h'.objs.size) (u:=.lst (as.map V.ref)) (by rw [eD _ mh];exact b1) (.inr (aX I1.sz hS)) b2 b3 b4 ⟨hz,as.map Value.ref,c,Z4e as,jb⟩
   have fy:=iK.trans (C8 (p:=h'.objs.size) (by rw [eD _ mh];exact b1) (.lst (as.map V.ref)))
   refine⟨.ref h'.objs.size,_,I4,rfl,q _ (sm.trans fy) _ ⟨h'.objs.size,as.map V.ref,rfl,sm.free b1,upd_same,?_⟩⟩
   have kp:=Kp.of fy
   have rK:=al.mono kp _ _
   have mJ:=cO.mono kp _ _
   have rF:∀(j:Nat) a v,as[j]?=some a->(xs.zip ys)[j]?=some v->upd H3 h'.objs.size (.lst (as.map V.ref)) a=some (.tup [v.1,v.2]):=fun j a v e1 e2=>by
    rw [A9 (fun z=>mh (by rw [<- z];exact aE e1))];exact rG j a v e1 e2
   have lz:as.length=(R4 ds es).length:=by rw [gT,Z5p,al.length,cO.length];simp only [aA];omega
   have key:∀(as:List Addr) (zs:List D) (H:Hp),as.length=zs.length->(∀(j:Nat) a z,as[j]?=some a->zs[j]?=some z->A1 X.K H z (.ref a))->AllS X.K H zs (as.map V.ref):=by
    intro as
    induction as with
    | nil=>intro zs H l _;cases zs with
     | nil=>exact AllS.nil
     | cons _ _=>cases l
    | cons a as ih =>
     intro zs H l f
     cases zs with
     | nil=>cases l
     | cons z zs=>exact AllS.cons (f 0 a z rfl rfl) (ih zs H (by simpa using l) fun j a z e1 e2=>f (j+1) a z (by simpa using e1) (by simpa using e2))
   refine key as (R4 ds es) _ lz fun j a z e1 e2=>?_
   obtain⟨x,y,ex,ey,rfl⟩:=Y5p e2
   obtain⟨v1,kB,q1⟩:=rK.get ex
   obtain⟨v2,kA,q2⟩:=mJ.get ey
   exact A1.s_tup (rF j a (v1,v2) e1 (by rw [bP];exact⟨kB,kA⟩)) (AllS.cons q1 (AllS.cons q2 AllS.nil))
@[simp] theorem W7f {τ:A6}{Q:R->Prop}:Z4q wr τ Q=wr τ fun rs=>∃r r' ds es,rs=[r,r']/\Q8 r=some ds/\Q8 r'=some es/\Q (.nw (R4 ds es)):=rfl
end
section
variable {X:Cx}{H0:Hp}{tg e:Expr}
noncomputable def jOr (a b:M6):M6:=fun τ Q=>a τ Q\/b τ Q
def iOr (a b:WI):WI:=fun τ Q=>a τ Q\/b τ Q
theorem D7.or {a b:M6} (h1:D7 X H0 tg e a) (h2:D7 X H0 tg e b):D7 X H0 tg e (jOr a b) where
 mono:=fun τ P Q f h=>h.elim (fun h=>.inl (h1.mono τ P Q f h)) fun h=>.inr (h2.mono τ P Q f h)
 pi:=fun ac s σ H R I h=>by
  obtain⟨τ,hR,h | h⟩:=h
  ·exact h1.pi ac s σ H R I ⟨τ,hR,h⟩
  ·exact h2.pi ac s σ H R I ⟨τ,hR,h⟩
theorem DI.or {a b:WI} (h1:DI X H0 tg e a) (h2:DI X H0 tg e b):DI X H0 tg e (iOr a b) where
 mono:=fun τ P Q f h=>h.elim (fun h=>.inl (h1.mono τ P Q f h)) fun h=>.inr (h2.mono τ P Q f h)
 pi:=fun ac s σ H R I h=>by
  obtain⟨τ,hR,h | h⟩:=h
  ·exact h1.pi ac s σ H R I ⟨τ,hR,h⟩
  ·exact h2.pi ac s σ H R I ⟨τ,hR,h⟩
end
section
variable {X:Cx}{H0:Hp}{o e f v b:Expr}{pos bj apos bi sp p1 p2:Pos}{we wf wv w1 w2:WE}{i:Nat}
noncomputable def W4y:V->V->V->Hp->(Hp->Prop)->Prop:=fun o i v H Q=>∃p xs k j,o=.ref p/\i=.int k/\H p=some (.ext (LO p xs))/\O1 xs.length k=some j/\Q (upd H p (.ext (LO p (xs.set j v))))
theorem W7s:Z0t X W4y:=by
 intro ac s σ H o i v ov iv u Q I ro ri rv h
 obtain⟨p,xs,k,j,rfl,rfl,hp,hj,q⟩:=h
 cases ro
 obtain⟨t,rfl⟩:=ri
 obtain⟨hz,aU,n,r,ho⟩:=Z1y I hp
 obtain⟨h1,h2,h3,h4⟩:=Q5o hj
 have hl:=r.length
 have hn:=Q0y
 have e4:(s.heap.update p (Obj.mapSeq (·.setIfInBounds j u))).get? p=some _:=ck (Obj.mapSeq (·.setIfInBounds j u)) ho rfl
 have I':A0 X ac σ (upd H p (.ext (LO p (xs.set j v)))) { s with heap:=s.heap.update p (Obj.mapSeq (·.setIfInBounds j u)) } :=
  Q2c (t':=s.toks) I (by rw [hp];exact True.intro) (bo ..) ⟨_,e4⟩ (LO.ok ⟨by rw [aZ];exact hz,aU.set j u,_,r.set rv j,by rw [e4,<- Z9r aU n j u]⟩)
 by_cases h0:0<=k
 ·have hk:k.toNat=j:=by
   rw [seqIndex_of h0 h4]at h1
   exact aC h1
  exact PySem.W.ki_setAt ho h0 (by omega) (by rw [aA,<- hl];exact h4) (by rw [hk];exact⟨_,I',q⟩)
 ·have hk:(k+(aU.toArray.size:Int)).toNat=j:=by
   rw [seqIndex_neg (by omega) h3]at h1
   rw [aA,<- hl]
   exact aC h1
  exact PySem.W.ki_setBack ho (by omega) (by rw [aA,<- hl];exact h3) (by omega) (by rw [hk];exact⟨_,I',q⟩)
theorem Y7c:Q1e X (.builtin "len") (fun xs H Q=>∃p ys,xs=[.ref p]/\H p=some (.ext (LO p ys))/\Q (.int ys.length) H):=by
 intro ac s σ H xs us Q I r h
 obtain⟨p,ys,rfl,e,q⟩:=h
 obtain⟨u,rfl,rx⟩:=T9 r
 cases (show u=Value.ref p from rx)
 obtain⟨hz,aU,n,r',ho⟩:=Z1y I e
 have hl:=Q0y
 have hs:sizeLine=16777216:=sizeLine_eq
 have bI:=r'.length
 exact Calls.call_len_list ⟨_,ho,rfl,n,rfl⟩ (by simp only [aA];omega) ⟨.int ys.length,H,I.tok _,⟨_,by simp only [aA];rw [bI]⟩,q⟩
theorem Q7t {ac:Pn9} {σ:St}{H:Hp}{s:Shared}{c:Addr}{xs:List V} (I:A0 X ac σ H s) (h:H c=some (.lst xs)):A0 X ac σ (upd H c (.ext (LO c xs))) s:=by
 obtain⟨z,aU,n,r,_,q⟩:=I.lstM h
 exact I.write (t':=s.toks) (h':=s.heap) (e:=c) (o:=.ext (LO c xs)) (by rw [h];trivial) (.inl rfl) (fun b u _ k=>k) ⟨_,q⟩ (LO.ok ⟨z,aU,n,r,q⟩)
theorem B6.llin {K:Fg9}{H:Hp} {τ:A6} {σ:St}{a:Addr}{dss:List (List D)}{k:Int}{j:Nat} (hR:B6 K H0 τ σ H) (e1:τ[i]?=some (some (.ll a dss))) (a2:O1 dss.length k=some j) :
  ∃bs b0 xs,(H a=some (.ext (LO a (bs.map V.ref)))/\H0 a=none/\a∉bs)/\bs.Nodup/\(∀b∈bs,H0 b=none)/\F7 K H bs dss/\bs[j]?=some b0/\H b0=some (.ext (LO b0 xs))/\AllS K H (dss.getD j []) xs/\J3 (bs.map V.ref) k=some (V.ref b0):=by
 obtain⟨_,bs,ha,nd,h0,ll⟩:=hR.llAt e1
 have el:=ll.length
 obtain⟨_,hj,_,_⟩:=Q5o a2
 obtain⟨b0,xs,ej,eb,al⟩:=ll.get hj
 exact⟨bs,b0,xs,ha,nd,h0,ll,ej,eb,al,by unfold J3;rw [ah,el,a2];show(bs.map V.ref)[j]?=_;rw [ak,ej];rfl⟩
def Q1v (i:Nat) (w1 w2:WE):WE:=fun τ Q=>∃a dss,τ[i]?=some (some (.ll a dss))/\w1 τ fun r=>∃k j,r=.st (.int k)/\O1 dss.length k=some j/\w2 τ fun r2=>∃k2 d,r2=.st (.int k2)/\J3 (dss.getD j []) k2=some d/\Q (.st d)
theorem DE.llget (ho:PE X b (J8 i)) (he:DE X H0 e we) (hf:DE X H0 f wf) (lM:Q3b e) (jk:Q3b f):DE X H0 (.Subscript (.Subscript b e p1) f p2) (Q1v i we wf) where
 mono:=fun τ P Q g ⟨a,dss,e1,h⟩=>⟨a,dss,e1,he.mono τ _ _ (fun r ⟨k,j,a1,a2,h⟩=>⟨k,j,a1,a2,hf.mono τ _ _ (fun r ⟨k2,d,b1,b2,b3⟩=>⟨k2,d,b1,b2,g _ b3⟩) h⟩) h⟩
 pe:=L5 (Q6j Q7v (Q6j Q7v ho he.pe lM) hf.pe jk) fun σ H Q ⟨τ,hR,a,dss,e1,h⟩=>by
  obtain⟨dv,_⟩:=hR.llAt e1
  refine⟨_,dv,τ,hR,he.mono τ _ _ (fun r ⟨k,j,a1,a2,h⟩ y H1 s1 ik=>?_) h⟩
  subst a1
  cases (show y=.int k from ik)
  have cU:=hR.mono s1
  obtain⟨bs,b0,xs,ha,nd,h0,ll,ej,eb,al,iA⟩:=cU.llin e1 a2
  refine⟨a,bs.map V.ref,k,V.ref b0,rfl,rfl,ha.1,iA,τ,cU,hf.mono τ _ _ (fun r ⟨k2,d,b1,b2,b3⟩ u H2 s2 iu=>?_) h⟩
  subst b1
  cases (show u=.int k2 from iu)
  obtain⟨v,hv,iv⟩:=Q4z al b2
  exact⟨b0,xs,k2,v,rfl,rfl,s2 _ _ eb,hv,b3 _ _ (s1.trans s2) (A1.mono (Kp.of s2) _ _ iv)⟩
def Q9u (i:Nat):WE:=fun τ Q=>∃a dss,τ[i]?=some (some (.ll a dss))/\Q (.st (.int dss.length))
theorem DE.lllen {p:Pos} (ho:PE X b (J8 i)) (hg:Gl X "len") (hm:X.mg "len"=none) (hs:starEach [b] X.env=(false,eval b X.env)::starEach [] X.env:=by rfl) (hpl:(backTo pos (starEach [] X.env)).any (·.1)=false:=by rfl):DE X H0 (.Call (.Name "len" p) [b] [] pos) (Q9u i) where
 mono:=fun τ P Q g ⟨a,dss,e1,h⟩=>⟨a,dss,e1,g _ h⟩
 pe:=L5 (Z3e Y7c hg hm rfl (Q0k ho Q1r hs) (he:=hs) (hpl:=hpl)) fun σ H Q ⟨τ,hR,a,dss,e1,h⟩=>by
  obtain⟨dv,bs,ha,nd,h0,ll⟩:=hR.llAt e1
  refine⟨_,dv,a,bs.map V.ref,rfl,ha.1,?_⟩
  rw [ah,ll.length]
  exact h _ _ (A3.refl _) V9
def Q9w (i:Nat) (w1 w2 wv:WE):WS:=fun E τ=>wv τ fun r=>∃d,r=.st d/\∃a dss,τ[i]?=some (some (.ll a dss))/\S7 i τ=true/\w1 τ fun r1=>∃k j,r1=.st (.int k)/\O1 dss.length k=some j /\
 w2 τ fun r2=>∃k2 j2,r2=.st (.int k2)/\O1 (dss.getD j []).length k2=some j2/\E.nx (τ.set i (some (.ll a (dss.set j ((dss.getD j []).set j2 d)))))
theorem DS.llput (ho:PE X b (J8 i)) (he:DE X H0 e we) (hf:DE X H0 f wf) (hv:DE X H0 v wv) (lM:Q3b e)
  (hs:swapsWithSole [.Subscript (.Subscript b e p1) f bj] v pos.line X.env=pure false:=by rfl) (hw:swappedStores [.Subscript (.Subscript b e p1) f bj] v X.env=pure none:=by rfl)
  (h1:(assignEach [.Subscript (.Subscript b e p1) f bj] X.env).map (·.2)=[assign (.Subscript (.Subscript b e p1) f bj) X.env]:=by rfl)
  (ha:∀v,assign (.Subscript (.Subscript b e p1) f bj) X.env v=(do
   let ov <- holding [v] (eval (.Subscript b e p1) X.env)
   let iv <- holding [v,ov] (eval f X.env)
   standAt bj
   holding [v,ov,iv] (setItem ov iv v)
   release [v,ov,iv] []):=by intro _;rfl):DS X H0 (.Assign [.Subscript (.Subscript b e p1) f bj] v pos) (Q9w i we wf wv) where
 mono:=fun τ E F le h=>hv.mono τ _ _ (fun r ⟨d,e1,a,dss,e2,on,h⟩=>⟨d,e1,a,dss,e2,on,he.mono τ _ _ (fun r ⟨k,j,a1,a2,h⟩=>⟨k,j,a1,a2,hf.mono τ _ _ (fun r ⟨k2,j2,b1,b2,b3⟩=>⟨k2,j2,b1,b2,le.nx _ b3⟩) h⟩) h⟩) h
 ps:=L6 (Z3g hv.pe (Y1h (Q6j Q7v ho he.pe lM) hf.pe W7s ha) hs hw h1) fun D σ H ⟨τ,hR,h⟩=>by
  refine⟨τ,hR,hv.mono τ _ _ (fun r ⟨d,e1,a,dss,e2,on,h⟩ u H1 s1 ir=>?_) h⟩
  subst e1
  have cU:=hR.mono s1
  obtain⟨dv,_⟩:=cU.llAt e2
  refine⟨_,dv,τ,cU,he.mono τ _ _ (fun rk ⟨k,j,a1,a2,h⟩ y H2 s2 ik=>?_) h⟩
  subst a1
  cases (show y=.int k from ik)
  have cX:=cU.mono s2
  obtain⟨bs,b0,xs,hb,nd,h0,ll,ej,eb,al,iA⟩:=cX.llin e2 a2
  refine⟨a,bs.map V.ref,k,V.ref b0,rfl,rfl,hb.1,iA,τ,cX,hf.mono τ _ _ (fun r ⟨k2,j2,b1,b2,b3⟩ y2 H3 s3 ik2=>?_) h⟩
  subst b1
  cases (show y2=.int k2 from ik2)
  have n8:=Kp.of s3
  have k9:=cX.mono s3
  refine⟨b0,xs,k2,j2,rfl,rfl,s3 _ _ eb,by rw [<- al.length];exact b2,?_⟩
  have jc:=AllS.set (A1.mono (Kp.of (s2.trans s3)) _ _ ir) j2 (al.mono n8 _ _)
  obtain⟨kp,k8⟩:=k9.llset (xs:=xs.set j2 u) (ds:=(dss.getD j []).set j2 d) e2 dv on ⟨s3 _ _ hb.1,hb.2⟩ nd h0 (ll.keep n8 fun b φ q=>s3 _ _ q) ej (s3 _ _ eb) jc
  exact b3 _ _ ((Kp.of ((s1.trans s2).trans s3)).trans kp) k8
def Q9v (i:Nat) (we:WE):WS:=fun E τ=>∃a dss,τ[i]?=some (some (.ll a dss))/\S7 i τ=true/\dss.length<sizeLine/\we τ fun r=>∃ds,r=.nw ds/\E.nx (τ.set i (some (.ll a (dss++[ds]))))
theorem DS.llpush (ho:PE X o (J8 i)) (he:DE X H0 e we) (m:M1 X o "append" apos e bi) (fm:swapsWith (.Call (.Attribute o "append" apos) [e] [] bi) none sp.line X.env=pure false:=by rfl) :
  DS X H0 (.Expr (.Call (.Attribute o "append" apos) [e] [] bi) sp) (Q9v i we) where
 mono:=fun τ E F le ⟨a,dss,e1,on,hz,h⟩=>⟨a,dss,e1,on,hz,he.mono τ _ _ (fun r ⟨ds,a1,a2⟩=>⟨ds,a1,le.nx _ a2⟩) h⟩
 ps:=L6 (Q3t (Q8l (Y1e ho he.pe m) fm)) fun D σ H ⟨τ,hR,a,dss,e1,on,hz,h⟩=>by
  obtain⟨dv,bs,ha,nd,h0,ll⟩:=hR.llAt e1
  refine⟨_,dv,a,bs.map V.ref,rfl,ha.1,τ,hR,he.mono τ _ _ (fun r ⟨ds,a1,a2⟩ y H2 s2 iy=>?_) h⟩
  subst a1
  obtain⟨c,ys,rfl,jW,hc,al⟩:=iy
  refine⟨bs.map V.ref,s2 _ _ ha.1,by rw [ah,ll.length];exact hz,fun ac s I=>?_⟩
  have qN:=s2 _ _ ha.1
  have mG:c≠a:=fun z=>by rw [z,ha.1]at jW;cases jW
  have iq:c∉bs:=fun z=>by obtain⟨xs,q⟩:=ll.mem z;rw [jW]at q;cases q
  have nH:upd H2 a (.ext (LO a (bs.map V.ref++[.ref c]))) c=some (.lst ys):=by rw [A9 mG];exact hc
  have k1:Kp H2 (upd H2 a (.ext (LO a (bs.map V.ref++[.ref c])))):=Kp.updM qN (by intro xs z;cases z) (by intro o u z;cases z) _
  have k2:Kp (upd H2 a (.ext (LO a (bs.map V.ref++[.ref c])))) (upd (upd H2 a (.ext (LO a (bs.map V.ref++[.ref c])))) c (.ext (LO c ys))):=Kp.upd nH _
  have kk:=k1.trans k2
  have cX:=hR.mono s2
  have kh:∀b u,b≠a->b≠c->H2 b=some u->upd (upd H2 a (.ext (LO a (bs.map V.ref++[.ref c])))) c (.ext (LO c ys)) b=some u:=fun b u h1 h2 q=>by rw [A9 h2,A9 h1];exact q
  have oA:H0 c=none:=hR.same.free jW
  refine⟨_,Q7t I nH,a2 σ _ ((Kp.of s2).trans kk) (hR.llre e1 dv on ((Kp.of s2).trans kk) (fun b u q n=>kh b u (fun z=>by rw [z,ha.1]at q;cases q;exact n _ rfl) (fun z=>by rw [z,jW]at q;cases q) (s2 _ _ q)) (fun b u q=>kh b u (fun z=>by rw [z,ha.2.1]at q;cases q) (fun z=>by rw [z,oA]at q;cases q) (cX.same b u q)) ⟨bs++[c],⟨?_,ha.2.1,?_⟩,?_,?_,?_⟩)⟩
  ·rw [A9 (bt mG),upd_same,b7];rfl
  ·intro z
   rcases aS.mp z with z | z
   ·exact ha.2.2 z
   ·exact mG (aN.mp z).symm
  ·rw [bC]
   exact⟨nd,by simp,fun x hx y hy e=>iq (by rw [<- aN.mp hy,<- e];exact hx)⟩
  ·intro b hb
   rcases aS.mp hb with z | z
   ·exact h0 b z
   ·rw [aN.mp z];exact oA
  ·refine F7.append upd_same (al.mono kk _ _) ?_
   have same:∀{cs:List Addr}{ess:List (List TK.D)},a∉cs->c∉cs->F7 X.K H2 cs ess->F7 X.K (upd (upd H2 a (.ext (LO a (bs.map V.ref++[.ref c])))) c (.ext (LO c ys))) cs ess:=by
    intro cs
    induction cs with
    | nil=>intro ess _ _ h;exact h
    | cons d cs ih =>
     intro ess n1 n2 h
     obtain⟨ds,r,rfl,⟨xs,q,al⟩,t⟩:=h
     exact⟨ds,r,rfl,⟨xs,kh d _ (fun z=>n1 (by rw [z];exact ao)) (fun z=>n2 (by rw [z];exact ao)) q,al.mono kk _ _⟩,ih (fun z=>n1 (ar _ z)) (fun z=>n2 (ar _ z)) t⟩
   exact same ha.2.2 iq (ll.keep (Kp.of s2) fun b φ q=>s2 _ _ q)
def Z4p (i:Nat) (w1 w2:WE):WS:=fun E τ=>w1 τ fun r1=>∃gA,r1=.nw gA/\w2 τ fun r2=>∃gb,r2=.nw gb/\∀a,E.nx (τ.set i (some (.ll a [gA,gb])))
theorem DS.llnew {x:Str} (he:DE X H0 e we) (hf:DE X H0 f wf) (hN:X.N.Nodup) (hi:X.N[i]?=some x) (hx:Loc X.env.scope x) (hs:swapsWith (.List [e,f] p1) (some (.Name x bj)) pos.line X.env=pure false:=by rfl)
  (h1:starEach [e,f] X.env=(false,eval e X.env)::starEach [f] X.env:=by rfl) (h2:starEach [f] X.env=(false,eval f X.env)::starEach [] X.env:=by rfl)
  (gv:X.fn x=true\/X.env.scope.names.lookup x=some .local:=by first | exact .inl rfl | exact .inr rfl | assumption):DS X H0 (.Assign [.Name x bj] (.List [e,f] p1) pos) (Z4p i we wf) where
 mono:=fun τ E F le h=>he.mono τ _ _ (fun r ⟨gA,a1,h⟩=>⟨gA,a1,hf.mono τ _ _ (fun r ⟨gb,b1,b2⟩=>⟨gb,b1,fun a=>le.nx _ (b2 a)⟩) h⟩) h
 ps:=L6 (Q3t (Q2p hN hi hx (Y1f (Q0k he.pe (Q0k hf.pe Q1r h2) h1)) hs gv)) fun D σ H ⟨τ,hR,h⟩=>by
  refine⟨τ,hR,he.mono τ _ _ (fun r ⟨gA,a1,h⟩ y1 H1 s1 i1=>?_) h⟩
  subst a1
  obtain⟨b1,fN,rfl,n1,q1,eY⟩:=i1
  refine⟨τ,hR.mono s1,hf.mono τ _ _ (fun r ⟨gb,c1,c2⟩ y2 H2 s2 i2=>?_) h⟩
  subst c1
  obtain⟨b2,gg,rfl,n2,q2,cO⟩:=i2
  refine⟨by show 2<=sizeLine;decide,fun p hp ac s I=>?_⟩
  have l6:=s2 _ _ q1
  have mH:b1≠b2:=fun z=>by rw [z,n2]at q1;cases q1
  have p1:b1≠p:=fun z=>by rw [z,hp]at l6;cases l6
  have p2:b2≠p:=fun z=>by rw [z,hp]at q2;cases q2
  have mY:H b2=none:=s1.free n2
  have np:H p=none:=(s1.trans s2).free hp
  have e1:upd H2 p (.lst [.ref b1,.ref b2]) b1=some (.lst fN):=by rw [A9 p1];exact l6
  have I1:=Q7t I e1
  have e2:upd (upd H2 p (.lst [.ref b1,.ref b2])) b1 (.ext (LO b1 fN)) b2=some (.lst gg):=by rw [A9 (bt mH),A9 p2];exact q2
  have I2:=Q7t I1 e2
  have e3:upd (upd (upd H2 p (.lst [.ref b1,.ref b2])) b1 (.ext (LO b1 fN))) b2 (.ext (LO b2 gg)) p=some (.lst [.ref b1,.ref b2]):=by rw [A9 (bt p2),A9 (bt p1)];exact upd_same
  have I3:=Q7t I2 e3
  have kh:∀c u,H2 c=some u->c≠b1->c≠b2->upd (upd (upd (upd H2 p (.lst [.ref b1,.ref b2])) b1 (.ext (LO b1 fN))) b2 (.ext (LO b2 gg))) p (.ext (LO p [.ref b1,.ref b2])) c=some u:=fun c u q h1 h2=>by
   have h3:c≠p:=fun z=>by rw [z,hp]at q;cases q
   rw [A9 h3,A9 h2,A9 h1,A9 h3];exact q
  have i4:A3 H (upd (upd (upd (upd H2 p (.lst [.ref b1,.ref b2])) b1 (.ext (LO b1 fN))) b2 (.ext (LO b2 gg))) p (.ext (LO p [.ref b1,.ref b2]))):=fun c u q =>
   kh c u ((s1.trans s2) _ _ q) (fun z=>by rw [z,n1]at q;cases q) (fun z=>by rw [z,mY]at q;cases q)
  have kp:Kp H2 (upd (upd (upd (upd H2 p (.lst [.ref b1,.ref b2])) b1 (.ext (LO b1 fN))) b2 (.ext (LO b2 gg))) p (.ext (LO p [.ref b1,.ref b2]))) :=
   (((Kp.of (C8 hp _)).trans (Kp.upd e1 _)).trans (Kp.upd e2 _)).trans (Kp.upd e3 _)
  refine⟨_,I3,c2 p _ _ (Kp.of i4) ((hR.mono i4).set (i:=i) (s:=.ll p [gA,gb]) (v:=.ref p) ⟨rfl,[b1,b2],⟨upd_same,hR.same.free np,by simp [bt p1,bt p2]⟩,by simp [mH],fun b hb=>?_,gA,[gb],rfl,⟨fN,?_,(eY.mono (Kp.of s2) _ _).mono kp _ _⟩,gb,[],rfl,⟨gg,?_,cO.mono kp _ _⟩,rfl⟩ fun m=>by cases m)⟩
  ·simp only [aq,aP,bu]at hb
   rcases hb with rfl | rfl
   ·exact hR.same.free n1
   ·exact hR.same.free mY
  ·rw [A9 p1,A9 mH];exact upd_same
  ·rw [A9 p2];exact upd_same
@[simp] theorem W6y {τ:A6}{Q:R->Prop}:Q1v i w1 w2 τ Q=∃a dss,τ[i]?=some (some (.ll a dss))/\w1 τ fun r=>∃k j,r=.st (.int k)/\O1 dss.length k=some j/\w2 τ fun r2=>∃k2 d,r2=.st (.int k2)/\J3 (dss.getD j []) k2=some d/\Q (.st d):=rfl
@[simp] theorem W7a {τ:A6}{Q:R->Prop}:Q9u i τ Q=∃a dss,τ[i]?=some (some (.ll a dss))/\Q (.st (.int dss.length)):=rfl
@[simp] theorem W7d {τ:A6}{E:E7}:Q9w i w1 w2 wv E τ=wv τ fun r=>∃d,r=.st d/\∃a dss,τ[i]?=some (some (.ll a dss))/\S7 i τ=true/\w1 τ fun r1=>∃k j,r1=.st (.int k)/\O1 dss.length k=some j /\
 w2 τ fun r2=>∃k2 j2,r2=.st (.int k2)/\O1 (dss.getD j []).length k2=some j2/\E.nx (τ.set i (some (.ll a (dss.set j ((dss.getD j []).set j2 d))))):=rfl
@[simp] theorem W7c {τ:A6}{E:E7}:Q9v i we E τ=∃a dss,τ[i]?=some (some (.ll a dss))/\S7 i τ=true/\dss.length<sizeLine/\we τ fun r=>∃ds,r=.nw ds/\E.nx (τ.set i (some (.ll a (dss++[ds])))):=rfl
@[simp] theorem W7b {τ:A6}{E:E7}:Z4p i w1 w2 E τ=w1 τ fun r1=>∃gA,r1=.nw gA/\w2 τ fun r2=>∃gb,r2=.nw gb/\∀a,E.nx (τ.set i (some (.ll a [gA,gb]))):=rfl
end
section
variable {X:Cx}{H0:Hp}
def Q6e (rs:List R) (Q:R->Prop):Prop:=∃i j:Int,rs=[.st (.int i),.st (.int j)]/\Q (.st (.int (if j<i then j else i)))
theorem W1g:Q0q Q6e:=fun rs P Q f ⟨i,j,e,h⟩=>⟨i,j,e,f _ h⟩
theorem Y7l (hc:X.calm=true):Q0o X (.builtin "min") Q6e:=by
 intro ac s σ H xs us Q I rv ⟨rs,cw,i,j,e,h⟩
 subst e
 obtain⟨v,t,rfl,iv,v',t',rfl,pG,et⟩:=cw
 cases (show t'=[]from et)
 cases (show v=.int i from iv)
 cases (show v'=.int j from pG)
 obtain⟨u,u',rfl,⟨t1,rfl⟩,⟨t2,rfl⟩⟩:=W9m rv
 refine min_two_ints (I.ok.hd hc) fun h' tk k=>⟨_,H,I.kept (t':=tk) k,?_,h _ _ (A3.refl H) V9⟩
 by_cases bR:j<i
 ·rw [aJ bR,aJ bR];exact⟨_,rfl⟩
 ·rw [aH bR,aH bR];exact⟨_,rfl⟩
@[simp] theorem W7h {a b:Int}{Q:R->Prop}:Q6e [.st (.int a),.st (.int b)] Q ↔ Q (.st (.int (if b<a then b else a))):=by
 constructor
 ·rintro ⟨i,j,e,h⟩;cases e;exact h
 ·intro h;exact⟨a,b,rfl,h⟩
def Q9o (sp:C7):WE:=fun τ Q=>∃r,sp [] r/\Q r
theorem DE.call0 {sp:C7}{k l:Nat}{f:Addr}{fd:FuncData}{x:Str}{p pos:Pos}{st:Stmt} (F:O5 X.prog X.w X.K X.mg X.base L9 l f fd [] (Q3o X.K 0 sp)) (hr:D5 k X.A) (D:Df X.K X.mg x st [] f fd) (hl:l<=k:=by decide) (hg:Gl X x:=by rfl)
  (dC:(x==("__debug__":Str))=false:=by decide):DE X H0 (.Call (.Name x p) [] [] pos) (Q9o sp) where
 mono:=fun τ P Q f ⟨r,h1,h2⟩=>⟨r,h1,f r h2⟩
 pe:=L5 (W3e F (hr.mono hl) hg D.m D.k D.b .nil Q8k dC) fun σ H Q ⟨τ,hR,r,h1,h2⟩=>⟨[],r,rfl,rfl,rfl,h1,fun v H' s2 ir=>h2 v H' s2 ir⟩
@[simp] theorem Y2e {sp:C7} {τ:A6}{Q:R->Prop}:Q9o sp τ Q=∃r,sp [] r/\Q r:=rfl
end
end TK
end
section
namespace HT
open PySem PySem.Spec PyProof.Rows
open AutoSeq1 (wpAny_loadPart')
theorem tuple_mul1 (l:Addr) (items:Array Value) (n:Nat) (dd:Option Addr) (sl:Array (Option Value)) (u:Tok) :
  Meets (Builtin.«tuple.__mul__» ⟨[.ref l,.int 1 u],[]⟩) (fun _ R s=>s.heap.get? l=some { cls:=.type "tuple",dict:=dd,data:=.seq items n,slots:=sl }/\R (.ok (.ret (Value.ref l))) s) :=
 .of_wp fun prog w A R s h=>by
  obtain⟨hp,g,d,tk,os⟩:=s;obtain⟨hl,h⟩:=h
  have f1:=AutoSeq1.idx_int
  have f2:=AutoSeq1.sub_tuple_tuple
  wp_walk using wpAny_loadPart' hl
  exact⟨_,rfl,h⟩
theorem tuple_mul0 (l:Addr) (items:Array Value) (n:Nat) (dd:Option Addr) (sl:Array (Option Value)) (u:Tok) (cb:¬ items.isEmpty=true) :
  Meets (Builtin.«tuple.__mul__» ⟨[.ref l,.int 0 u],[]⟩) (fun _ R s=>s.heap.get? l=some { cls:=.type "tuple",dict:=dd,data:=.seq items n,slots:=sl } /\
   R (.ok (.ret (Value.ref s.heap.objs.size))) { s with heap:=s.heap.push { cls:=Value.type "tuple",data:=Data.seq #[] } }) :=
 .of_wp fun prog w A R s h=>by
  obtain⟨hp,g,d,tk,os⟩:=s;obtain⟨hl,h⟩:=h
  have f1:=AutoSeq1.idx_int
  have f2:=AutoSeq1.sub_tuple_tuple
  have m5:items.isEmpty=false:=by simpa using cb
  wp_walk using wpAny_loadPart' hl
  exact⟨_,rfl,h⟩
section
variable {prog:Program}{w:World}{A:Around}{E:VS9}{s:Shared}
theorem mul_tupz {l:Addr}{items:Array Value}{u:Tok}{k:Int}{Q:VS9}{v:Value}{s':Shared}{Sp:Nat->Option Addr->Array (Option Value)->PySem.Spec} (ht:IsTup s.heap l items) (hM:∀n dd sl,Meets (Builtin.«tuple.__mul__» ⟨[.ref l,.int k u],[]⟩) (Sp n dd sl))
  (hS:∀n dd sl A' (R:Result->Shared->Prop),s.heap.get? l=some { cls:=.type "tuple",dict:=dd,data:=.seq items n,slots:=sl }->R (.ok (.ret v)) s'->Sp n dd sl A' R s) (h:Q v s'):wpAny (model prog w) A (binaryOp .Mult (.ref l) (.int k u)) Q E s:=by
 obtain⟨⟨cls,dd,data,sl⟩,ho,hc,n,hd⟩:=id ht
 simp only at hc hd
 subst hc hd
 exact wpAny_binaryOp_repeat_ref (T:="tuple") (U:="int") (by decide) ⟨_,ho,rfl⟩ (fun s'=>typeIs_int s' k u) Y0h F.fills_int_mul gC Y1z F.slot_int_index.lookup
  (call_meets gC (typeIs_int s k u) F.entry_int_rmul (F.args_int_rmul_2 _ _) (Y2a k u l items n dd sl)
   ⟨ho,rfl,⟨_,ho,rfl⟩,call_meets F.slot_tuple_mul ⟨_,ho,rfl⟩ F.entry_tuple_mul (F.args_tuple_mul_2 _ _) (hM n dd sl) (hS n dd sl _ (wants Q E) ho h)⟩)
end
end HT
namespace TK
open PySem PySem.Spec PyProof.Rows L2
section
variable {X:Cx}
def Q2l (x y:R) (Q:R->Prop):Prop:=∃ds k,x=.st (.tup ds)/\y=.st (.int k)/\0<=k/\k<=1000/\ds≠[]/\(ds.length:Int)*k<=(sizeLine:Int)/\Q (.st (.tup (List.replicate k.toNat ds).flatten))
theorem Y0e:V0 Q2l:=fun x y P Q f ⟨ds,k,h1,h2,h3,h4,h5,h6,h7⟩=>⟨ds,k,h1,h2,h3,h4,h5,h6,f _ h7⟩
theorem Y0x:OpD X (binaryOp .Mult) Q2l:=by
 intro ac s σ H x y v u Q I rx ry ⟨r1,r2,h1,h2,ds,k,e1,e2,k2,k3,cb,hz,q⟩
 by_cases kk:2<=k
 ·exact Y0y ac s σ H x y v u Q I rx ry ⟨r1,r2,h1,h2,ds,k,e1,e2,kk,k3,cb,hz,q⟩
 subst e1 e2
 have h1:A1 X.K H (.tup ds) x:=h1
 unfold A1 at h1
 obtain⟨a,xs,rfl,qa,eX⟩:=h1
 cases (show y=.int k from h2)
 cases rx
 obtain⟨t,rfl⟩:=ry
 obtain⟨aU,r1,p1,_⟩:=I.tuple (C4.of (K:=X.K) qa)
 have la:=eX.length
 have lb:=r1.length
 have hn:aU≠[]:=fun z=>cb (cQ.mp (by rw [la,lb,z];rfl))
 rcases (show k=0\/k=1 by omega)with rfl | rfl
 ·have hf:=I.hok.fresh (aj s.heap.objs.size)
  refine HT.mul_tupz (v:=.ref s.heap.objs.size) (s':={ s with heap:=s.heap.push { cls:=.type "tuple",data:=.seq #[] } }) p1 (fun n dd sl=>HT.tuple_mul0 a aU.toArray n dd sl t (by simpa using hn)) (fun n dd sl A' R ho h=>⟨ho,h⟩)
   ⟨.ref s.heap.objs.size,_,I.laid (t':=s.toks) (o:=.tup []) (fun b ob q=>ae _ q) (aj _) ⟨ba _,[],.nil,IsTup.new _ _⟩,rfl,q _ _ (C8 hf _) (A1.s_tup (K:=X.K) upd_same AllS.nil)⟩
 ·refine HT.mul_tupz (v:=.ref a) (s':=s) p1 (fun n dd sl=>HT.tuple_mul1 a aU.toArray n dd sl t) (fun n dd sl A' R ho h=>⟨ho,h⟩) ⟨.ref a,H,I,rfl,q _ _ (A3.refl H) ?_⟩
  have e:(List.replicate (1:Int).toNat ds).flatten=ds:=by simp
  rw [e]
  exact A1.s_tup (K:=X.K) qa eX
@[simp] theorem Y0u {ds:List D}{k:Int}{Q:R->Prop}:Q2l (.st (.tup ds)) (.st (.int k)) Q ↔ (0<=k/\k<=1000/\ds≠[]/\(ds.length:Int)*k<=(sizeLine:Int)/\Q (.st (.tup (List.replicate k.toNat ds).flatten))):=by
 constructor
 ·rintro ⟨a,b,h1,h2,h3⟩
  cases h1;cases h2
  exact h3
 ·intro h
  exact⟨ds,k,rfl,rfl,h⟩
end
end TK
end
section
namespace TK
open PySem PySem.Spec PyProof.Rows L2
section
variable {X:Cx}{H0:Hp}{e a:Expr}{es:List Expr}{wr:WA}{wa:WE}{k l:Nat}{f:Addr}{fd:FuncData}{ps:List Str}{x:Str}{p pos:Pos}{ts:List Addr}{st:Stmt}
theorem DE.cl {sp:C7} (F:O5 X.prog X.w X.K X.mg X.base L9 l f fd ps (Q3o X.K (e::es).length sp)) (hr:D5 k X.A) (D:Df X.K X.mg x st ps f fd) (ha:DA X H0 (e::es) wr) (hl:l<=k:=by decide) (hg:Gl X x:=by rfl)
  (dC:(x==("__debug__":Str))=false:=by decide) (he:starEach (e::es) X.env=(false,eval e X.env)::starEach es X.env:=by rfl) (hpl:(backTo pos (starEach es X.env)).any (·.1)=false:=by rfl) :
  DE X H0 (.Call (.Name x p) (e::es) [] pos) (N4 sp wr):=DE.call F (hr.mono hl) hg D.m D.k D.b ha dC he hpl
theorem DE.clP {sp:Q1} (lP:Q1z sp) (F:O5 X.prog X.w X.K X.mg X.base L9 l f fd ps (Q3n X.K ts (e::es).length sp)) (hr:D5 k X.A) (hT:Q4w ts H0) (D:Df X.K X.mg x st ps f fd) (ha:DA X H0 (e::es) wr) (hl:l<=k:=by decide) (hg:Gl X x:=by rfl)
  (dC:(x==("__debug__":Str))=false:=by decide) (he:starEach (e::es) X.env=(false,eval e X.env)::starEach es X.env:=by rfl) (hpl:(backTo pos (starEach es X.env)).any (·.1)=false:=by rfl) :
  DE X H0 (.Call (.Name x p) (e::es) [] pos) (Q1b sp wr):=DE.callP lP F (hr.mono hl) hT hg D.m D.k D.b ha dC he hpl
theorem DE.v (i:Nat) (hN:X.N[i]?=some x:=by rfl) (hv:Vis X.env.scope x:=by first | exact Or.inl rfl | exact Or.inr (Or.inl rfl) | exact Or.inr (Or.inr rfl)) (hd:(x==("__debug__":Str))=false:=by decide)
  (dX:(x==("__classdict__":Str))=false:=by decide):DE X H0 (.Name x pos) (wV i):=DE.var (pv i hN hv hd dX)
theorem DA.one (ha:DE X H0 a wa) (hs:starEach [a] X.env=(false,eval a X.env)::starEach [] X.env:=by rfl):DA X H0 [a] (A2 wa A4):=DA.cons ha DA.nil hs
theorem DS.sv (i:Nat) (he:DE X H0 e wa) (hN:X.N.Nodup) (hi:X.N[i]?=some x:=by rfl) (hx:Loc X.env.scope x:=by first | exact Or.inl rfl | exact Or.inr rfl) (hs:swapsWith e (some (.Name x p)) pos.line X.env=pure false:=by rfl)
  (hf:X.fn x=true\/X.env.scope.names.lookup x=some .local:=by first | exact .inl rfl | exact .inr rfl | assumption):DS X H0 (.Assign [.Name x p] e pos) (C5 i wa):=DS.set he hN hi hx hs hf
noncomputable def scB (N P:List Str) (sc:Scope):Bool:=decide (sc.kind=.function)&&!sc.isCoroutine&&!sc.isGenerator&&decide N.Nodup&&decide (N.take P.length=P)&&P.all (fun x=>decide (sc.names.lookup x=some .local)||decide (sc.names.lookup x=some .cell))&&sc.names.all (fun y=>decide (y.2≠.free))
theorem Q6 {N P:List Str}{sc:Scope} (h:scB N P sc=true):K5 N P sc:=by
 unfold scB at h
 simp only [cj,cY,bU,Bool.or_eq_true,Bool.not_eq_true']at h
 obtain⟨⟨⟨⟨⟨⟨h1,h2⟩,h3⟩,h4⟩,h5⟩,h6⟩,h7⟩:=h
 exact⟨h1,h2,h3,h4,h5,h6,h7⟩
theorem Y6y:bootBuiltins "len"=some (.builtin "len"):=by decide +kernel
theorem Y6z:bootBuiltins "tuple"=some (.type "tuple"):=by decide +kernel
theorem DE.len (hm:X.mg "len"=none) (ha:DE X H0 a wa) (hg:Gl X "len":=by rfl) (hs:starEach [a] X.env=(false,eval a X.env)::starEach [] X.env:=by rfl) (hpl:(backTo pos (starEach [] X.env)).any (·.1)=false:=by rfl):DE X H0 (.Call (.Name "len" p) [a] [] pos) (D9 E6 (A2 wa A4)) :=
 DE.callB Y7f W0i hg hm Y6y (DA.cons ha DA.nil hs) (he:=hs) (hpl:=hpl)
theorem DE.tpl (hm:X.mg "tuple"=none) (ha:DE X H0 a wa) (hg:Gl X "tuple":=by rfl) (hs:starEach [a] X.env=(false,eval a X.env)::starEach [] X.env:=by rfl) (hpl:(backTo pos (starEach [] X.env)).any (·.1)=false:=by rfl):DE X H0 (.Call (.Name "tuple" p) [a] [] pos) (D9 V5 (A2 wa A4)) :=
 DE.callTy Y7n W9b hg hm Y6z (DA.cons ha DA.nil hs) (he:=hs) (hpl:=hpl)
end
def Hr (K:Fg9) (n:Str) (st:Stmt) (f:Addr) (fd:FuncData):Prop:=PySem.W.nsIn K mainGlobals n=some (some (.ref f))/\Fun K n n st f fd
def HrC (K:Fg9) (n:Str) (st:Stmt) (f:Addr) (fd:FuncData) (c Pt:Addr) (ts:List Addr):Prop:=PySem.W.nsIn K mainGlobals n=some (some (.ref f))/\PySem.W.keepIn K (.ref f)=true /\
 (∃(oc:Value) (od:Option Addr) (kV cP pm:Value) (an:Option Addr) (ct:Value) (dS:Array (Option Value)),fd=PySem.W.fnOf n n (Y5 st) (S0 st) (C2 st) .none kV cP pm an (.ref c) ct/\K.lookup f=some ⟨oc,od,.func fd,dS⟩/\PySem.W.codeIn K (.ref c) n=true) /\
 (∃(vo:Value) (vd:Option Addr) (vv:Array Value) (vs:Array (Option Value)),K.lookup c=some ⟨vo,vd,.fields vv,vs⟩/\vv[11]?=some (.ref Pt))/\PySem.W.codeHdIn K c Pt=true/\K.lookup Pt=none/\Pt∈ts
section
variable {K:Fg9}{h:Heap}{mg:Str->Option Value}{n:Str}{st:Stmt}{f c Pt:Addr}{fd:FuncData}{ts:List Addr}{ps:List Str}
theorem S3 {oc:Value}{od an:Option Addr}{dS:Array (Option Value)}{kV cP pm cdv ct:Value} (a:PySem.W.nsIn K mainGlobals n=some (some (.ref f))) (l:K.lookup f=some ⟨oc,od,.func (PySem.W.fnOf n n (Y5 st) (S0 st) (C2 st) .none kV cP pm an cdv ct),dS⟩) (q:PySem.W.codeIn K cdv n=true) (k:PySem.W.keepIn K (.ref f)=true) :
  Hr K n st f (PySem.W.fnOf n n (Y5 st) (S0 st) (C2 st) .none kV cP pm an cdv ct):=⟨a,Y8p l q k⟩
theorem Y8v {oc vo:Value}{od an vd:Option Addr}{dS vs:Array (Option Value)}{kV cP pm ct:Value}{vv:Array Value} (a:PySem.W.nsIn K mainGlobals n=some (some (.ref f))) (l:K.lookup f=some ⟨oc,od,.func (PySem.W.fnOf n n (Y5 st) (S0 st) (C2 st) .none kV cP pm an (.ref c) ct),dS⟩) (q:PySem.W.codeIn K (.ref c) n=true) (k:PySem.W.keepIn K (.ref f)=true)
  (v:K.lookup c=some ⟨vo,vd,.fields vv,vs⟩) (p:vv[11]?=some (.ref Pt)) (e:PySem.W.codeHdIn K c Pt=true) (o:K.lookup Pt=none) (m:Pt∈ts):HrC K n st f (PySem.W.fnOf n n (Y5 st) (S0 st) (C2 st) .none kV cP pm an (.ref c) ct) c Pt ts :=
 ⟨a,k,⟨_,_,_,_,_,_,_,_,rfl,l,q⟩,⟨_,_,_,_,v,p⟩,e,o,m⟩
theorem Hr.df (H:Hr K n st f fd) (X:K.In h) (G:h.Ns mainGlobals mg) (hb:∀(kV cP pm:Value) (an:Option Addr) (cdv ct:Value) (us:List Value),us.length=ps.length->bindArgs (PySem.W.fnOf n n (Y5 st) (S0 st) (C2 st) .none kV cP pm an cdv ct) ⟨us,[]⟩=pure (ps.zip us)):Df K mg n st ps f fd :=
 ⟨H.2,H.2.binds hb,H.2.kp,PySem.W.mg_of X G H.1⟩
theorem HrC.hr (H:HrC K n st f fd c Pt ts):Hr K n st f fd:=let ⟨a,k,⟨oc,od,kV,cP,pm,an,ct,dS,e,l,q⟩,_⟩:=H;⟨a,⟨oc,od,kV,cP,pm,an,_,ct,dS,e,l,q⟩,k⟩
theorem HrC.fc (H:HrC K n st f fd c Pt ts):Q4s K n n st f fd c Pt:=let ⟨_,_,e,_,q,_⟩:=H;⟨e,q⟩
theorem HrC.tb (H:HrC K n st f fd c Pt ts):Pt∈ts:=let ⟨_,_,_,_,_,_,m⟩:=H;m
theorem HrC.at (H:HrC K n st f fd c Pt ts):(∃c,PySem.W.codeHdIn K c Pt=true)/\K.lookup Pt=none:=let ⟨_,_,_,_,q,n,_⟩:=H;⟨⟨_,q⟩,n⟩
end
end TK
end
section
namespace MC
open PySem PySem.Spec PyProof.Rows L2 TK
section
variable {α:Type} [DecidableEq α]
noncomputable def L4 (ks:List α) (g:α):List α:=if g∈ks then ks else ks++[g]
theorem Z6h {ks:List α}{g:α} (h:g∈ks):L4 ks g=ks:=aJ h
theorem Z6i {ks:List α}{g:α} (h:g∉ks):L4 ks g=ks++[g]:=aH h
theorem Y6n (ks:List α) (g:α):ks <+: L4 ks g:=by
 unfold L4;split
 ·exact ci _
 ·exact List.prefix_append _ _
theorem Z2p {ks:List α}{g x:α}:x∈L4 ks g ↔ x∈ks\/x=g:=by
 unfold L4;split
 ·constructor
  ·exact .inl
  ·rintro (h | rfl) <;> assumption
 ·rw [aS,aN]
theorem W1s {ks:List α}{g:α} (h:ks.Nodup):(L4 ks g).Nodup:=by
 unfold L4;split
 ·exact h
 ·rename_i n
  exact bC.mpr ⟨h,by simp,fun a ha b hb=>by
   rw [aN]at hb;rintro rfl;exact n (hb ▸ ha)⟩
theorem Z1u {ks ls:List α}{g:α} (p:ks <+: ls) (h:g∈ks):ls.idxOf g=ks.idxOf g:=by
 obtain⟨t,rfl⟩:=p
 rw [List.idxOf_append,aJ h]
noncomputable def F9 (st:Nat->α):List Nat->List α->List Nat->List α×List Nat
 | [],ks,r=>(ks,r)
 | c::cs,ks,r=>F9 st cs (L4 ks (st c)) (r++[(L4 ks (st c)).idxOf (st c)])
theorem Q3v (st:Nat->α):∀(cs:List Nat) (ks:List α) (r:List Nat),ks <+: (F9 st cs ks r).1
 | [],ks,r=>ci _
 | c::cs,ks,r=>(Y6n ks (st c)).trans (Q3v st cs _ _)
theorem Y2c (st:Nat->α):∀(cs:List Nat) (ks:List α) (r:List Nat),ks.Nodup->(F9 st cs ks r).1.Nodup
 | [],ks,r,h=>h
 | c::cs,ks,r,h=>Y2c st cs _ _ (W1s h)
theorem Z2s (st:Nat->α) {x:α}:∀(cs:List Nat) (ks:List α) (r:List Nat),x∈(F9 st cs ks r).1 ↔ x∈ks\/∃c∈cs,x=st c
 | [],ks,r=>by simp [F9]
 | c::cs,ks,r=>by
  rw [F9,Z2s st cs,Z2p]
  simp [or_assoc]
theorem Q8p (st:Nat->α):∀(cs:List Nat) (ks:List α) (r:List Nat),(F9 st cs ks r).2=r++cs.map fun c=>(F9 st cs ks r).1.idxOf (st c)
 | [],ks,r=>by simp [F9]
 | c::cs,ks,r=>by
  have h:=Q8p st cs (L4 ks (st c)) (r++[(L4 ks (st c)).idxOf (st c)])
  have e:=Z1u (Q3v st cs (L4 ks (st c)) (r++[(L4 ks (st c)).idxOf (st c)])) (Z2p.mpr (.inr rfl):st c∈L4 ks (st c))
  rw [F9,h,aw,e,bK]
  rfl
noncomputable abbrev B7:List Nat:=[0,1,2,3]
noncomputable def O4 (step:α->Nat->α):Nat->List α->List (List Nat)->List α×List (List Nat)
 | 0,ks,rs=>(ks,rs)
 | n+1,ks,rs=>match ks[rs.length]? with
  | none=>(ks,rs)
  | some k=>O4 step n (F9 (step k) B7 ks []).1 (rs++[(F9 (step k) B7 ks []).2])
structure W8 (step:α->Nat->α) (start:α) (U:List α) (ks:List α) (rs:List (List Nat)):Prop where
 nd:ks.Nodup
 zero:ks[0]?=some start
 sub:∀k∈ks,k∈U
 len:rs.length<=ks.length
 row:∀(i:Nat) (r:List Nat),rs[i]?=some r->∃k,ks[i]?=some k/\(∀c∈B7,step k c∈ks)/\r=B7.map fun c=>ks.idxOf (step k c)
theorem W8.start {step:α->Nat->α}{start:α}{U:List α} (h:start∈U):W8 step start U [start] [] :=
 ⟨by simp,rfl,fun k hk=>by rw [aN]at hk;exact hk ▸ h,by simp,fun i r e=>by simp at e⟩
theorem W8.next {step:α->Nat->α}{start k:α}{U:List α}{ks:List α}{rs:List (List Nat)} (hU:∀k∈U,∀c∈B7,step k c∈U) (W:W8 step start U ks rs) (hk:ks[rs.length]?=some k) :
  W8 step start U (F9 (step k) B7 ks []).1 (rs++[(F9 (step k) B7 ks []).2]):=by
 have p:=Q3v (step k) B7 ks []
 have kin:k∈ks:=aE hk
 have get:∀{i:Nat}{x:α},ks[i]?=some x->(F9 (step k) B7 ks []).1[i]?=some x:=fun {i x} e=>by
  obtain⟨t,ht⟩:=p
  rw [<- ht,aI]
  ·exact e
  ·obtain⟨h,_⟩:=aL.mp e;exact h
 have lt:rs.length<ks.length:=by obtain⟨h,_⟩:=aL.mp hk;exact h
 refine⟨Y2c _ _ _ _ W.nd,get W.zero,fun x hx=>?_,?_,fun i r e=>?_⟩
 ·rcases (Z2s _ _ _ _).mp hx with h | ⟨c,hc,rfl⟩
  ·exact W.sub x h
  ·exact hU k (W.sub k kin) c hc
 ·rw [aD,bX]
  exact aX lt p.length_le
 ·rcases bA i rs.length with h | h
  ·rw [aI h]at e
   obtain⟨k',e1,e2,e3⟩:=W.row i r e
   refine⟨k',get e1,fun c hc=>p.subset (e2 c hc),?_⟩
   rw [e3]
   exact bc fun c hc=>(Z1u p (e2 c hc)).symm
  ·rw [aQ h]at e
   have:i-rs.length=0:=by
    rcases Nat.eq_zero_or_pos (i-rs.length)with z | z
    ·exact z
    ·rw [aM.mpr (by simp;omega)]at e;cases e
   rw [this]at e
   have e:(F9 (step k) B7 ks []).2=r:=aC e
   refine⟨k,get (by rw [show i=rs.length by omega];exact hk),fun c hc=>(Z2s _ _ _ _).mpr (.inr ⟨c,hc,rfl⟩),?_⟩
   rw [<- e,Q8p,c6]
theorem W8.bound {step:α->Nat->α}{start:α}{U:List α}{ks:List α}{rs:List (List Nat)} (W:W8 step start U ks rs):ks.length<=U.length:=W.nd.length_le_of_subset fun x hx=>W.sub x hx
theorem Y5k {step:α->Nat->α}{start:α}{U:List α} (hU:∀k∈U,∀c∈B7,step k c∈U):∀(n:Nat) (ks:List α) (rs:List (List Nat)),W8 step start U ks rs->U.length<=n+rs.length ->
  W8 step start U (O4 step n ks rs).1 (O4 step n ks rs).2/\(O4 step n ks rs).2.length=(O4 step n ks rs).1.length
 | 0,ks,rs,W,h=>⟨W,by have:=W.bound;have:=W.len;simp [O4];omega⟩
 | n+1,ks,rs,W,h=>by
  unfold O4
  split
  ·rename_i e
   have:=aM.mp e
   exact⟨W,by have:=W.len;simp;omega⟩
  ·rename_i k e
   exact Y5k hU n _ _ (W.next hU e) (by simp;omega)
structure Z6d (step:α->Nat->α) (start:α) (U ks:List α) (rs:List (List Nat)):Prop where
 nd:ks.Nodup
 zero:ks[0]?=some start
 sub:∀k∈ks,k∈U
 len:rs.length=ks.length
 mem:∀k∈ks,∀c∈B7,step k c∈ks
 row:∀(i:Nat) (k:α),ks[i]?=some k->rs[i]?=some (B7.map fun c=>ks.idxOf (step k c))
noncomputable def Q1c (N:Nat) (step:α->Nat->α) (start:α):List α×List (List Nat):=O4 step N [start] []
theorem W9n {step:α->Nat->α}{start:α}{U:List α}{N:Nat} (hU:∀k∈U,∀c∈B7,step k c∈U) (hs:start∈U) (hN:U.length<=N):Z6d step start U (Q1c N step start).1 (Q1c N step start).2:=by
 unfold Q1c
 obtain⟨W,e⟩:=Y5k hU N [start] [] (W8.start hs) (by simpa using hN)
 refine⟨W.nd,W.zero,W.sub,e,fun k hk c hc=>?_,fun i k hk=>?_⟩
 ·obtain⟨i,hi,rfl⟩:=cy.mp hk
  have gu:i<(O4 step N [start] []).2.length:=by rw [e];exact hi
  obtain⟨k',e1,e2,_⟩:=W.row i _ (af gu)
  rw [af hi]at e1
  cases e1
  exact e2 c hc
 ·obtain⟨hi,rfl⟩:=aL.mp hk
  have gu:i<(O4 step N [start] []).2.length:=by rw [e];exact hi
  obtain⟨k',e1,_,e3⟩:=W.row i _ (af gu)
  have fY:(O4 step N [start] []).1[i]?=some k':=e1
  rw [af hi]at fY
  cases fY
  rw [af gu,e3]
section
variable {κ:Type} [DecidableEq κ] {key:α->κ}
noncomputable def kvm (key:α->κ) (L:List (α×D)):List (κ×D):=L.map fun p=>(key p.1,p.2)
theorem Q5u (inj:∀a b,key a=key b->a=b) (L:List (α×D)) (g:α):C9 (kvm key L) (key g)=C9 L g:=by
 induction L with
 | nil=>rfl
 | cons p L ih =>
  unfold C9 kvm at ih ⊢
  rw [aw,b8,b8]
  by_cases h:p.1=g
  ·have:key p.1=key g:=by rw [h]
   simp [h]
  ·have:¬ key p.1=key g:=fun z=>h (inj _ _ z)
   simp only [h,this,decide_false]
   exact ih
theorem Y5g {L:List (α×D)}{g:α}:C9 L g=none ↔ g∉L.map (·.1):=by
 unfold C9
 rw [Option.map_eq_none_iff,List.find?_eq_none]
 simp only [au,not_exists,cY]
 constructor
 ·rintro h x ⟨hx,rfl⟩;exact h x hx rfl
 ·rintro h x hx rfl;exact h x ⟨hx,rfl⟩
theorem Y5f {L:List (α×D)}{g:α}:(C9 L g).isSome=decide (g∈L.map (·.1)):=by
 by_cases h:g∈L.map (·.1)
 ·rw [bV h]
  cases e:C9 L g with
  | none=>exact absurd h (Y5g.mp e)
  | some d=>rfl
 ·rw [aK h,Y5g.mpr h];rfl
theorem Z9d (inj:∀a b,key a=key b->a=b) {L:List (α×D)}{g:α} (h:g∉L.map (·.1)) (d:D):L0 (kvm key L) (key g) d=kvm key (L++[(g,d)]):=by
 unfold L0
 rw [aH]
 ·simp [kvm]
 ·intro z
  rw [dq]at z
  obtain⟨x,hx,e⟩:=z
  obtain⟨p,hp,rfl⟩:=au.mp hx
  exact h (au.mpr ⟨p,hp,inj _ _ (eZ e)⟩)
theorem W9k {L:List (α×D)} (nd:(L.map (·.1)).Nodup) {g:α}{d:D} (h:(g,d)∈L):C9 L g=some d:=by
 induction L with
 | nil=>cases h
 | cons p L ih =>
  rw [aw,bx]at nd
  unfold C9 at ih ⊢
  rw [b8]
  rcases aq.mp h with rfl | h
  ·simp
  ·have:¬ p.1=g:=fun z=>nd.1 (z ▸ au.mpr ⟨_,h,rfl⟩)
   simp only [this,decide_false]
   exact ih nd.2 h
noncomputable def T6 (ks:List α):List (α×D):=ks.zipIdx.map fun p=>(p.1,D.int (p.2:Int))
theorem Y0j (ks:List α):(T6 ks).map (·.1)=ks:=by
 unfold T6
 rw [aO]
 exact List.zipIdx_map_fst 0 ks
theorem W1x (ks:List α) (g:α):T6 (ks++[g])=T6 ks++[(g,D.int (ks.length:Int))]:=by
 unfold T6
 rw [List.zipIdx_append]
 simp
theorem Y0k {ks:List α}{g:α} (h:g∈ks):C9 (T6 ks) g=some (.int (ks.idxOf g:Nat)):=by
 have key:∀(ks:List α) (n:Nat),g∈ks->C9 (ks.zipIdx n |>.map fun p=>(p.1,D.int (p.2:Int))) g=some (.int ((n+ks.idxOf g:Nat):Int)):=by
  intro ks
  induction ks with
  | nil=>intro n h;cases h
  | cons k ks ih =>
   intro n h
   unfold C9 at ih ⊢
   rw [cg,aw,b8]
   by_cases e:k=g
   ·subst e;simp
   ·have hg:g∈ks:=by
     rcases aq.mp h with z | z
     ·exact absurd z.symm e
     ·exact z
    simp only [e,decide_false]
    rw [ih (n+1) hg,List.idxOf_cons]
    have e':(k==g)=false:=by simp [e]
    rw [e']
    simp
    omega
 have:=key ks 0 h
 rw [cZ]at this
 exact this
end
end
abbrev Y6h:List Str:=["start","step","keys","numbers","rows","key","row","column","goal"]
abbrev Y6i:List Str:=["start","step","keys","numbers","rows","key","row","column","goal"]
def Z5l (jf:FCT)  :WS:=(B8 (C5 2 (N6 (A2 (B0 (wV 0)) A4))) (B8 (Z4n 3 (wV 0) (wC (.int 0))) (B8 (C5 4 (N6 A4)) (B8 (Q6s 2 (Z0c (A8 (R9 fun i j=>decide (i<j)) (D9 E6 (A2 (wV 4) A4)) (D9 E6 (A2 (wV 2) A4))) (B8 (C5 5 (A8 C3 (wV 2) (D9 E6 (A2 (wV 4) A4)))) (B8 (C5 6 (N6 A4)) (B8 (L1 (X3 (A2 (D9 E6 (A2 (wC (.str "01ab")) A4)) A4)) (B2 7) (B8 (C5 8 (Q9p jf 2 1 (A2 (wV 5) (A2 (wV 7) A4)))) (B8 (U7 (Q4o 3 (wV 8)) (B8 (Q4p 3 (wV 8) (D9 E6 (A2 (wV 2) A4))) (X9 2 (B0 (wV 8)))) U8) (X9 6 (B0 (Q4n 3 (wV 8))))))) (X9 4 (B0 (D9 V5 (A2 (wV 6) A4))))))))) (P4 (R1 (A2 (B0 (wV 2)) (A2 (B0 (D9 V5 (A2 (wV 4) A4))) A4))))))))
abbrev Z0l:List Str:=["some","onward","reached","states","place","state","goal"]
def Z4w   (K:Fg9) :WS:=(B8 (Z4l 2 1 [] (Q0c (wV 0)) (B2 0) (wV 0) (B0 (wC (.int 0)))) (B8 (C5 3 (D9 Q2j (A2 (wV 2) A4))) (B8 (C5 4 (wC (.int 0))) (B8 (Z0c (A8 (R9 fun i j=>decide (i<j)) (wV 4) (D9 E6 (A2 (wV 3) A4))) (B8 (C5 5 (A8 C3 (wV 3) (wV 4))) (B8 (L1 (Q0w (B0 (A8 C3 (wV 1) (wV 5)))) (B2 6) (U7 (Q4o 2 (wV 6)) (B8 (Q4p 2 (wV 6) (A8 F8 (Q4n 2 (wV 5)) (wC (.int 1)))) (X9 3 (B0 (wV 6)))) U8)) (Q9m 4 (N8 NoC fun i j=>i+j) (wC (.int 1)))))) (Z4s K 2)))))
abbrev Q4v:List Str:=["ends","rows","wanted","backward","state","row","goal","reached"]
def Z4x   (K:Fg9) (sp_all_reached:Q1):WS:=(B8 (Z4o 3 1 [] (jOr (Q5r (wV 1)) (Q0c (wV 1))) (B2 0) (N6 A4)) (B8 (Q9s 3 (L1 (iOr (Q7r (A2 (wV 1) A4)) (Q5k (A2 (wV 1) A4))) (P7 2 (F4 (B2 4) (F4 (B2 5) gNl))) (L1 (Q5m (wV 5)) (B2 6) (Q6t 3 (wV 6) (B0 (wV 4)))))) (B8 (Z4t 7 (Q1b sp_all_reached (A2 (N5 2 [2] (Q5p (A2 (wV 0) A4)) (P7 2 (F4 (B2 0) (F4 (B2 1) gNl))) (A8 (O8 60 false) (wV 1) (wV 2)) (B0 (wV 0))) (A2 (wV 3) A4)))) (P4 (N5 1 [7] (Q5q (A2 (D9 E6 (A2 (wV 0) A4)) A4)) (B2 0) P3 (B0 (Z4h K 1 (wV 0))))))))
abbrev Z0r:List Str:=["marks","numbers"]
noncomputable def Z5j  :WS:=(Z4r 1 (Q0c (wV 0)))
abbrev Z0s:List Str:=["ends","rows","blocks","many"]
def Z5k   (sp_numbered:C7) (sp_distances:Q1):WS:=(B8 (C5 2 (B0 (N4 sp_numbered (A2 (Z4q (A2 (Q1b sp_distances (A2 (wV 0) (A2 (wV 1) (A2 (wC (.bl true)) A4)))) (A2 (Q1b sp_distances (A2 (wV 0) (A2 (wV 1) (A2 (wC (.bl false)) A4)))) A4))) A4)))) (B8 (C5 3 (wC (.int 0))) (B8 (Z0c (A8 (R9 fun i j=>decide (j<=i)) (D9 Q0h (A2 (wV 2) A4)) (wV 3)) (B8 (C5 3 (A8 F8 (D9 Q0h (A2 (wV 2) A4)) (wC (.int 1)))) (C5 2 (B0 (N4 sp_numbered (A2 (N5 2 [2] (Q3j (A2 (wV 2) (A2 (wV 1) A4))) (P7 2 (F4 (B2 0) (F4 (B2 1) gNl))) P3 (B0 (R1 (A2 (B0 (wV 0)) (A2 (B0 (D9 V5 (A2 (N5 1 [2] (Q5r (wV 1)) (B2 0) P3 (B0 (A8 C3 (wV 1) (wV 0)))) A4))) A4))))) A4)))))) (Q9z 2))))
abbrev Z0p:List Str:=["ends","rows","blocks","samples","state","block","keys","fewer_rows"]
def Z0e (K:Fg9):WE:=(A8 C3 (wV 4) (A8 C3 (A8 C3 (wV 3) (Q9r K 2 (wV 0))) (wV 1)))
def Z5h (jf:FCT)  (K:Fg9) (sp_told_apart:Q1) (sp_walkedK:C7):WS:=(B8 (C5 2 (B0 (Q1b sp_told_apart (A2 (wV 0) (A2 (wV 1) A4))))) (B8 (Z4m 3) (B8 (Z4i K 3 (L1 (Q5k (A2 (wV 2) A4)) (P7 2 (F4 (B2 4) (F4 (B2 5) gNl))) (Q9t 3 (wV 5) (wV 4)))) (B8 (wAsg (Z4f jf 2 [("samples",3),("rows",1),("blocks",2)] (Z0e K) sp_walkedK (A8 C3 (wV 2) (wC (.int 0)))) (P7 2 (F4 (B2 6) (F4 (B2 7) gNl)))) (P4 (R1 (A2 (B0 (D9 V5 (A2 (N5 1 [0,3] (Q0c (wV 6)) (B2 0) P3 (B0 (A8 C3 (wV 1) (Q9r K 2 (wV 0))))) A4))) (A2 (B0 (wV 7)) A4))))))))
abbrev Z6a:List Str:=["_law_script","_law_k"]
def Z0d  :WS:=(B8 (U7 (A8 (O8 60 false) (wV 0) (N6 A4)) (P4 (A8 W1 (wC (.int 7)) (wV 1))) U8) (P4 (A8 F8 (A8 C3 (wV 0) (A8 (N8 (fun _ j=>0<j) fun i j=>i % j) (wV 1) (D9 E6 (A2 (wV 0) A4)))) (A8 W1 (wC (.int 6553)) (A8 (N8 Z5 fun i j=>i / j) (wV 1) (D9 E6 (A2 (wV 0) A4)))))))
abbrev Z6b:List Str:=["_law_script","_law_k","_law_many","_law_cell_here"]
def Z5c  (eC:C7):WS:=(B8 (C5 3 (A8 (N8 (fun _ j=>0<j) fun i j=>i % j) (A8 F8 (A8 W1 (A8 (N8 (fun _ j=>0<j) fun i j=>i % j) (N4 eC (A2 (wV 0) (A2 (wV 1) A4))) (wC (.int 2147483563))) (wC (.int 69069))) (A8 W1 (wC (.int 104723)) (A8 F8 (wV 1) (wC (.int 1))))) (wC (.int 2147483563)))) (B8 (C5 3 (A8 (N8 (fun _ j=>0<j) fun i j=>i % j) (A8 F8 (A8 W1 (wV 3) (wV 3)) (A8 (N8 Z5 fun i j=>i / j) (wV 3) (wC (.int 3)))) (wC (.int 2147483399)))) (P4 (A8 (N8 (fun _ j=>0<j) fun i j=>i % j) (A8 (N8 Z5 fun i j=>i / j) (A8 (N8 (fun _ j=>0<j) fun i j=>i % j) (A8 F8 (A8 W1 (wV 3) (wV 3)) (A8 (N8 Z5 fun i j=>i / j) (wV 3) (wC (.int 7)))) (wC (.int 2147483647))) (wC (.int 11))) (wV 2)))))
noncomputable abbrev iD (n:Nat):D:=.int (n:Int)
noncomputable abbrev rD (r:List Nat):D:=.tup (r.map iD)
noncomputable abbrev rsD (rs:List (List Nat)):D:=.tup (rs.map rD)
theorem sz {n:Nat} (h:n<=1000000):n<=sizeLine:=aX h (by decide)
theorem szl {n:Nat} (h:n<=1000000):n<sizeLine:=Nat.lt_of_le_of_lt h (by decide)
theorem ixn {n j:Nat} (h:j<n):O1 n (j:Int)=some j:=by
 have:J3 (List.range n) (j:Int)=some j:=X1 (by rw [af (by simpa using h)];simp)
 unfold J3 at this
 rw [cu]at this
 cases e:O1 n (j:Int)with
 | none=>rw [e]at this;cases this
 | some k =>
  rw [e]at this
  have this:(List.range n)[k]?=some j:=this
  obtain⟨hk,e2⟩:=aL.mp this
  rw [<- e2,List.getElem_range]
section
variable {α:Type} [DecidableEq α] {FC:FCT}{f:Addr} {Φ:Hp->Prop}{sp:C7}{step:α->Nat->α}
section T
variable {ts:α->List D}{key:α->List A7}
theorem r4:G9 0 (Int.toNat ((Str.ofString "01ab").length:Int))=B7.map iD:=rfl
end T
end
section
variable {α:Type} [DecidableEq α] {FC:FCT}{f:Addr} {Φ:Hp->Prop}{sp:C7}{step:α->Nat->α}
section T
variable {en:α->D}{key:α->A7}
def wbK (jf:FCT):WS:=(B8 (C5 8 (Q9p jf 2 1 (A2 (wV 5) (A2 (wV 7) A4)))) (B8 (U7 (Q4o 3 (wV 8)) (B8 (Q4p 3 (wV 8) (D9 E6 (A2 (wV 2) A4))) (X9 2 (B0 (wV 8)))) U8) (X9 6 (B0 (Q4n 3 (wV 8))))))
theorem forK (hk:∀a,O2 (en a)=some (key a)) (inj:∀a b,key a=key b->a=b) (hF:FC 2 f Φ sp) {k:α}{E:E7}{o0 o4:Option Sl}:∀(cs:List Nat) (ks:List α) (r:List Nat) (o7 o8:Option Sl),
  (∀c∈cs,sp [.st ((en k)),.st (iD c)] (.st ((en (step k c)))))->ks.length+cs.length<=1000000->r.length+cs.length<=1000000 ->
  (∀o7 o8,E.nx [o0,some (.cl f Φ),some (.own ((F9 (step k) cs ks r).1.map fun a=>(en a))),some (.dk (kvm key (T6 (F9 (step k) cs ks r).1))),o4,some (.dat ((en k))),some (.own ((F9 (step k) cs ks r).2.map iD)),o7,o8]) ->
  C6 (B2 7) (wbK FC) E (cs.map iD) [o0,some (.cl f Φ),some (.own (ks.map fun a=>(en a))),some (.dk (kvm key (T6 ks))),o4,some (.dat ((en k))),some (.own (r.map iD)),o7,o8]
 | [],ks,r,o7,o8,_,_,_,h=>h o7 o8
 | c::cs,ks,r,o7,o8,hs,h1,h2,h=>by
  rw [ax]at h1 h2
  have pX:=hs c ao
  have ih:=fun ib r'=>forK hk inj hF (k:=k) (E:=E) (o0:=o0) (o4:=o4) cs ib r'
  simp only [aw,C6]
  have hv:=Q5u inj (T6 ks) (step k c)
  have hi:(C9 (kvm key (T6 ks)) (key (step k c))).isSome=decide (step k c∈ks):=by rw [hv,Y5f,Y0j]
  simp only [wbK,K1,N2,L7,W6i,E3,C1,D8,Q2q,Y2s,Y2t,Q8r,E9,Q4b,Y2r,N9]
  refine⟨f,Φ,sp,rfl,hF,.dat ((en k)),rfl,.dat (iD c),rfl,rfl,_,pX,?_⟩
  simp only [U4]
  refine⟨_,rfl,_,rfl,en (step k c),key (step k c),rfl,hk _,?_⟩
  rw [hi]
  by_cases hm:step k c∈ks
  ·have ea:L4 ks (step k c)=ks:=Z6h hm
   rw [aH (by simp [hm])]
   refine⟨_,rfl,_,rfl,_,rfl,en (step k c),key (step k c),_,rfl,hk _,by rw [hv];exact Y0k hm,_,rfl,szl (by simp;omega),?_⟩
   have e:(r.map iD++[D.int ((ks.idxOf (step k c):Nat):Int)])=(r++[ks.idxOf (step k c)]).map iD:=by simp
   show C6 _ _ _ _ [_,_,_,_,_,_,some (.own (r.map iD++[_])),_,_]
   rw [e]
   refine ih ks _ _ _ (fun c hc=>hs c (ar _ hc)) (by omega) (by simp;omega) ?_
   simpa only [F9,ea]using h
  ·have ea:L4 ks (step k c)=ks++[step k c]:=Z6i hm
   rw [aJ (by simp [hm])]
   refine⟨_,rfl,_,rfl,_,rfl,_,rfl,en (step k c),key (step k c),rfl,hk _,szl (by simp [kvm,T6];omega),?_⟩
   have ep:L0 (kvm key (T6 ks)) (key (step k c)) (.int (ks.length:Int))=kvm key (T6 (ks++[step k c])):=by
    rw [Z9d inj (by rw [Y0j];exact hm),W1x]
   refine⟨_,rfl,_,rfl,_,rfl,szl (by simp;omega),?_⟩
   refine⟨_,rfl,_,rfl,_,rfl,en (step k c),key (step k c),.int (((ks++[step k c]).idxOf (step k c):Nat):Int),rfl,hk _,?_,_,rfl,szl (by simp;omega),?_⟩
   ·rw [ah,ep,Q5u inj];exact Y0k (by simp)
   ·have e:(r.map iD++[D.int (((ks++[step k c]).idxOf (step k c):Nat):Int)])=(r++[(ks++[step k c]).idxOf (step k c)]).map iD:=by simp
    have e2:(ks.map fun a=>en a)++[en (step k c)]=(ks++[step k c]).map fun a=>en a:=by simp
    show C6 _ _ _ _ [_,_,some (.own ((ks.map fun a=>en a)++[en (step k c)])),some (.dk (L0 (kvm key (T6 ks)) (key (step k c)) (.int ((ks.map fun a=>en a).length:Int)))),_,_,some (.own (r.map iD++[_])),_,_]
    rw [e,e2,ah,ep]
    refine ih _ _ _ _ (fun c hc=>hs c (ar _ hc)) (by simp;omega) (by simp;omega) ?_
    simpa only [F9,ea]using h
def wtK:WT:=(A8 (R9 fun i j=>decide (i<j)) (D9 E6 (A2 (wV 4) A4)) (D9 E6 (A2 (wV 2) A4)))
def wlK (jf:FCT):WS:=(B8 (C5 5 (A8 C3 (wV 2) (D9 E6 (A2 (wV 4) A4)))) (B8 (C5 6 (N6 A4)) (B8 (L1 (X3 (A2 (D9 E6 (A2 (wC (.str "01ab")) A4)) A4)) (B2 7) (wbK jf)) (X9 4 (B0 (D9 V5 (A2 (wV 6) A4)))))))
theorem W9r (hk:∀a,O2 (en a)=some (key a)) (inj:∀a b,key a=key b->a=b) (hF:FC 2 f Φ sp) {start:α}{U:List α}{E:E7}{o0:Option Sl} (hU:∀k∈U,∀c∈B7,step k c∈U) (hl:U.length<=100000)
  (hs:∀k∈U,∀c∈B7,sp [.st ((en k)),.st (iD c)] (.st ((en (step k c))))):∀(n:Nat) (ks:List α) (rs:List (List Nat)) (o5 o6 o7 o8:Option Sl),W8 step start U ks rs->U.length<=n+rs.length ->
  (∀o5 o6 o7 o8,E.nx [o0,some (.cl f Φ),some (.own ((O4 step n ks rs).1.map fun a=>(en a))),some (.dk (kvm key (T6 (O4 step n ks rs).1))),some (.own ((O4 step n ks rs).2.map rD)),o5,o6,o7,o8]) ->
  L8 wtK (wlK FC) (n+1) E [o0,some (.cl f Φ),some (.own (ks.map fun a=>(en a))),some (.dk (kvm key (T6 ks))),some (.own (rs.map rD)),o5,o6,o7,o8]:=by
 intro n
 induction n with
 | zero =>
  intro ks rs o5 o6 o7 o8 W hn h
  have b:=W.bound
  simp only [L8,wtK,F2,N9,E3,C1,D8]
  refine⟨_,rfl,_,rfl,?_⟩
  simp only [X7,Q2n,Q1p,ah]
  rw [aH (by simp;omega)]
  exact h _ _ _ _
 | succ n ih =>
  intro ks rs o5 o6 o7 o8 W hn h
  have b:=W.bound
  have il:=W.len
  rw [L8]
  simp only [wtK,F2,N9,E3,C1,D8]
  refine⟨_,rfl,_,rfl,?_⟩
  simp only [X7,Q2n,Q1p,ah]
  by_cases bR:rs.length<ks.length
  ·rw [aJ (by simpa using bR)]
   have fY:ks[rs.length]?=some ks[rs.length]:=af bR
   have kin:=bG bR
   generalize ks[rs.length]=k at fY kin
   have W2:=W.next hU fY
   have b2:=W2.bound
   simp only [wlK,K1,L7,F2,N9,E3,C1,D8,s_lst,T8,Q3z,F3,Q8r,E9]
   refine⟨_,rfl,_,rfl,?_⟩
   simp only [X7,Q2n,Z2x]
   refine⟨(en k),by rw [ah];exact X1 (by rw [ak,fY];rfl),?_⟩
   refine⟨_,rfl,sz (by simp),?_⟩
   rw [V4,Q8h]
   refine⟨sz (by decide),_,rfl,by decide,by decide,?_⟩
   rw [r4]
   have hW:=h
   rw [O4,fY]at hW
   refine forK hk inj hF (o0:=o0) (o4:=some (.own (rs.map rD))) B7 ks [] _ _ (hs k (W.sub k kin)) (by simp;omega) (by simp) fun o7 o8=>?_
   simp only [U4,V4,Q8g,Q8i,Y0v]
   refine⟨_,rfl,_,rfl,_,rfl,_,rfl,szl (by simp;omega),?_⟩
   have e:rs.map rD++[D.tup ((F9 (step k) B7 ks []).2.map iD)]=(rs++[(F9 (step k) B7 ks []).2]).map rD:=by simp
   show L8 wtK (wlK FC) (n+1) E [_,_,_,_,some (.own (rs.map rD++[D.tup ((F9 (step k) B7 ks []).2.map iD)])),_,_,_,_]
   rw [e]
   exact ih _ _ _ _ _ _ W2 (by simp;omega) hW
  ·rw [aH (by simpa using bR)]
   have e:ks[rs.length]?=none:=aM.mpr (by omega)
   rw [O4,e]at h
   exact h _ _ _ _
noncomputable def sp_walkedK (FC:FCT):C7:=fun rs r=>∃(α:Type) (_:DecidableEq α) (en:α->D) (key:α->A7) (step:α->Nat->α) (start:α) (U:List α) (f:Addr) (Φ:Hp->Prop) (sp:C7),
 (∀a,O2 (en a)=some (key a))/\(∀a b,key a=key b->a=b)/\rs=[.st ((en start)),.cl f Φ]/\FC 2 f Φ sp/\start∈U/\U.length<=100000/\(∀k∈U,∀c∈B7,step k c∈U/\sp [.st ((en k)),.st (iD c)] (.st ((en (step k c))))) /\
 r=.st (.tup [.lst ((Q1c U.length step start).1.map fun a=>(en a)),rsD (Q1c U.length step start).2])
theorem W5w {FC:FCT}:∀rs r,rs.length=2->sp_walkedK FC rs r->Z5l FC (S9 r) (G4 Y6i rs):=by
 rintro rs r _ ⟨α,_,en,key,step,start,U,f,Φ,sp,hk,inj,rfl,hF,hs,hl,hU,rfl⟩
 have l2:(2:Nat)<=sizeLine:=by decide
 unfold Z5l
 simp only [K1,L7,s_lst,E3,E9,C1,D8,W6u,F3,Y2j,W4,s_tup,N9]
 refine⟨_,rfl,_,rfl,sz (by simp),?_⟩
 refine⟨(by decide:3<9),_,rfl,en start,key start,rfl,hk _,_,rfl,_,rfl,sz (by simp),?_⟩
 refine⟨U.length+1,?_⟩
 refine W9r hk inj hF (step:=step) (start:=start) (U:=U) (fun k h c hc=>(hU k h c hc).1) hl (fun k h c hc=>(hU k h c hc).2) U.length [start] [] _ _ _ _ (W8.start hs) (by simp) fun o5 o6 o7 o8=>?_
 refine⟨_,rfl,_,rfl,_,rfl,?_⟩
 simp only [P0,X7,Q8g,Q8i,Y0v]
 refine⟨_,rfl,_,rfl,l2,rfl⟩
end T
end
noncomputable abbrev ik (n:Nat):A7:=.inl (n:Int)
theorem Q2f (a b:Nat) (h:ik a=ik b):a=b:=by
 have:(a:Int)=(b:Int):=Sum.inl.inj h
 omega
noncomputable abbrev kR (R:List (Nat×Nat)):List (A7×D):=kvm ik (R.map fun q=>(q.1,iD q.2))
noncomputable def K6 (R:List (Nat×Nat)) (g d:Nat):List (Nat×Nat):=if g∈R.map (·.1)then R else R++[(g,d)]
noncomputable def goR (d:Nat):List Nat->List (Nat×Nat)->List (Nat×Nat)
 | [],R=>R
 | g::gs,R=>goR d gs (K6 R g d)
noncomputable def Q0l (on:List (List Nat)):Nat->List (Nat×Nat)->Nat->List (Nat×Nat)
 | 0,R,_=>R
 | n+1,R,p=>match R[p]? with
  | none=>R
  | some q=>Q0l on n (goR (q.2+1) (on[q.1]?.getD []) R) (p+1)
noncomputable def G3 (on:List (List Nat)) (xs:List Nat):List (Nat×Nat):=Q0l on on.length (xs.map fun x=>(x,0)) 0
theorem Z2c (R:List (Nat×Nat)):(R.map fun q=>(q.1,iD q.2)).map (·.1)=R.map (·.1):=by simp
theorem Z6g (R:List (Nat×Nat)) (g d:Nat):R <+: K6 R g d:=by
 unfold K6;split
 ·exact ci _
 ·exact List.prefix_append _ _
theorem Z1s (d:Nat):∀(gs:List Nat) (R:List (Nat×Nat)),R <+: goR d gs R
 | [],R=>ci _
 | g::gs,R=>(Z6g R g d).trans (Z1s d gs _)
theorem Y6m {R:List (Nat×Nat)}{g d:Nat} (h:(R.map (·.1)).Nodup):((K6 R g d).map (·.1)).Nodup:=by
 unfold K6;split
 ·exact h
 ·rename_i n
  rw [b7,bC]
  exact⟨h,by simp,fun a ha b hb=>by
   simp at hb;rintro rfl;exact n (hb ▸ ha)⟩
theorem Z8j {d:Nat}:∀(gs:List Nat) (R:List (Nat×Nat)),(R.map (·.1)).Nodup->((goR d gs R).map (·.1)).Nodup
 | [],R,h=>h
 | g::gs,R,h=>Z8j gs _ (Y6m h)
theorem Z2n {R:List (Nat×Nat)}{g d:Nat}{q:Nat×Nat} (h:q∈K6 R g d):q∈R\/q=(g,d):=by
 unfold K6 at h;split at h
 ·exact .inl h
 ·simpa using h
theorem Q8c {d:Nat}{q:Nat×Nat}:∀(gs:List Nat) (R:List (Nat×Nat)),q∈goR d gs R->q∈R\/∃g∈gs,q=(g,d)
 | [],R,h=>.inl h
 | g::gs,R,h=>by
  rcases Q8c gs _ h with h | ⟨g',h1,h2⟩
  ·rcases Z2n h with h | h
   ·exact .inl h
   ·exact .inr ⟨g,by simp,h⟩
  ·exact .inr ⟨g',by simp [h1],h2⟩
structure Z6 (n:Nat) (R:List (Nat×Nat)):Prop where
 nd:(R.map (·.1)).Nodup
 lt:∀q∈R,q.1<n
theorem Z6.bound {n:Nat}{R:List (Nat×Nat)} (h:Z6 n R):R.length<=n:=by
 have:=h.nd.length_le_of_subset (l₂:=List.range n) fun x hx=>by
  obtain⟨q,hq,rfl⟩:=au.mp hx
  exact bp.mpr (h.lt q hq)
 simpa using this
theorem Z6.go {n d:Nat}{R:List (Nat×Nat)}{gs:List Nat} (h:Z6 n R) (hg:∀g∈gs,g<n):Z6 n (goR d gs R) :=
 ⟨Z8j gs R h.nd,fun q hq=>by
  rcases Q8c gs R hq with h' | ⟨g,h1,rfl⟩
  ·exact h.lt q h'
  ·exact hg g h1⟩
theorem W9l {R:List (Nat×Nat)} (nd:(R.map (·.1)).Nodup) {s d:Nat} (h:(s,d)∈R):C9 (kR R) (ik s)=some (iD d):=by
 rw [Q5u Q2f]
 exact W9k (by rw [Z2c];exact nd) (au.mpr ⟨_,h,rfl⟩)
theorem Z8u (R:List (Nat×Nat)) (g:Nat):(C9 (kR R) (ik g)).isSome=decide (g∈R.map (·.1)):=by
 rw [Q5u Q2f,Y5f,Z2c]
theorem Y1o {R:List (Nat×Nat)}{g d:Nat} (h:g∉R.map (·.1)):L0 (kR R) (ik g) (iD d)=kR (R++[(g,d)]):=by
 rw [Z9d Q2f (by rw [Z2c];exact h)];simp [kR]
theorem Z7o {Q:List (A7×D)->Prop}:∀(xs:List Nat) (R:List (Nat×Nat)) (o:Option Sl),(R.map (·.1)++xs).Nodup->Q (kR (R++xs.map fun x=>(x,0))) ->
  U1 (B2 0) (wV 0) (B0 (wC (.int 0))) (xs.map iD) [o] (kR R) Q
 | [],R,o,_,h=>by simpa [U1]using h
 | x::xs,R,o,nd,h=>by
  have nx:x∉R.map (·.1):=fun z=>by
   have:=(bC.mp nd).2.2 x z x (by simp)
   exact this rfl
  rw [aw,U1]
  simp only [N2,C1,E9,F3]
  refine⟨_,rfl,iD x,ik x,rfl,rfl,_,rfl,?_⟩
  have e:=Y1o (d:=0) nx
  show U1 _ _ _ _ _ (L0 (kR R) (ik x) (iD 0)) _
  rw [e]
  refine Z7o xs _ _ (by simpa using nd) ?_
  simpa using h
noncomputable abbrev llD (on:List (List Nat)):D:=.lst (on.map fun l=>.lst (l.map iD))
def wbR:WS:=(U7 (Q4o 2 (wV 6)) (B8 (Q4p 2 (wV 6) (A8 F8 (Q4n 2 (wV 5)) (wC (.int 1)))) (X9 3 (B0 (wV 6)))) U8)
theorem forR {s d n:Nat}{E:E7}{o0 o1 o4:Option Sl} (hn:n<=100000):∀(gs:List Nat) (R:List (Nat×Nat)) (o6:Option Sl),Z6 n R->(s,d)∈R->(∀g∈gs,g<n) ->
  (∀o6,E.nx [o0,o1,some (.dk (kR (goR (d+1) gs R))),some (.own ((goR (d+1) gs R).map fun q=>iD q.1)),o4,some (.dat (iD s)),o6]) ->
  C6 (B2 6) wbR E (gs.map iD) [o0,o1,some (.dk (kR R)),some (.own (R.map fun q=>iD q.1)),o4,some (.dat (iD s)),o6]
 | [],R,o6,_,_,_,h=>h o6
 | g::gs,R,o6,hI,hs,hg,h=>by
  have b:=hI.bound
  have ih:=forR (s:=s) (d:=d) (E:=E) (o0:=o0) (o1:=o1) (o4:=o4) hn gs
  have nQ:Z6 n (K6 R g (d+1)):=hI.go (d:=d+1) (gs:=[g]) (by simpa using hg g (by simp))
  have fV:(s,d)∈K6 R g (d+1):=(Z6g R g (d+1)).subset hs
  have b2:=nQ.bound
  rw [aw,C6]
  simp only [wbR,N2,Q2q,Y2s,C1,K1,Y2t,F2,Y2r,F3,Q8r,E9,Q4b]
  refine⟨_,rfl,_,rfl,iD g,ik g,rfl,rfl,?_⟩
  rw [Z8u]
  by_cases hm:g∈R.map (·.1)
  ·have ea:K6 R g (d+1)=R:=aJ hm
   rw [aH (by simpa using hm)]
   refine ih R _ hI hs (fun g' h'=>hg g' (by simp [h'])) ?_
   simpa only [goR,ea]using h
  ·have ea:K6 R g (d+1)=R++[(g,d+1)]:=aH hm
   rw [aJ (by simpa using hm)]
   refine⟨_,rfl,_,rfl,iD s,ik s,iD d,rfl,rfl,W9l hI.nd hs,?_⟩
   rw [Q2m]
   refine⟨_,rfl,_,rfl,_,rfl,iD g,ik g,rfl,rfl,szl (by simp [kvm];omega),_,rfl,_,rfl,_,rfl,szl (by simp;omega),?_⟩
   have e1:L0 (kR R) (ik g) (.int ((d:Int)+1))=kR (K6 R g (d+1)):=by
    rw [ea,<- Y1o hm];rfl
   have e2:(R.map fun q=>iD q.1)++[iD g]=(K6 R g (d+1)).map fun q=>iD q.1:=by rw [ea];simp
   show C6 _ _ _ _ [_,_,some (.dk (L0 (kR R) (ik g) (.int ((d:Int)+1)))),some (.own ((R.map fun q=>iD q.1)++[iD g])),_,_,_]
   rw [e1,e2]
   exact ih _ _ nQ fV (fun g' h'=>hg g' (by simp [h'])) h
def wtR:WT:=(A8 (R9 fun i j=>decide (i<j)) (wV 4) (D9 E6 (A2 (wV 3) A4)))
def wlR:WS:=(B8 (C5 5 (A8 C3 (wV 3) (wV 4))) (B8 (L1 (Q0w (B0 (A8 C3 (wV 1) (wV 5)))) (B2 6) wbR) (Q9m 4 (N8 NoC fun i j=>i+j) (wC (.int 1)))))
theorem W9s {on:List (List Nat)}{E:E7}{o0:Option Sl} (jl:∀l∈on,∀g∈l,g<on.length) (hl:on.length<=100000):∀(n:Nat) (R:List (Nat×Nat)) (p:Nat) (o5 o6:Option Sl),Z6 on.length R->on.length<=n+p ->
  (∀o4 o5 o6,E.nx [o0,some (.dat (llD on)),some (.dk (kR (Q0l on n R p))),some (.own ((Q0l on n R p).map fun q=>iD q.1)),o4,o5,o6]) ->
  L8 wtR wlR (n+1) E [o0,some (.dat (llD on)),some (.dk (kR R)),some (.own (R.map fun q=>iD q.1)),some (.dat (iD p)),o5,o6]:=by
 intro n
 induction n with
 | zero =>
  intro R p o5 o6 hI hp h
  have b:=hI.bound
  simp only [L8,wtR,F2,N9,E3,C1,D8]
  refine⟨_,rfl,_,rfl,?_⟩
  simp only [P0,X7,Q2n,Q1p,ah]
  rw [aH (by simp;omega)]
  exact h _ _ _
 | succ n ih =>
  intro R p o5 o6 hI hp h
  have b:=hI.bound
  rw [L8]
  simp only [wtR,F2,N9,E3,C1,D8]
  refine⟨_,rfl,_,rfl,?_⟩
  simp only [P0,X7,Q2n,Q1p,ah]
  by_cases bR:p<R.length
  ·rw [aJ (by simpa using bR)]
   have fY:R[p]?=some R[p]:=af bR
   have kin:=bG bR
   generalize R[p]=q at fY kin
   obtain⟨s,d⟩:=q
   have hs:s<on.length:=hI.lt _ kin
   have j8:on[s]?=some on[s]:=af hs
   have j9:=jl _ (bG hs)
   simp only [wlR,K1,L7,F2,C1,T8,Q6m,E9,W6g,F3]
   refine⟨_,rfl,_,rfl,?_⟩
   rw [X7,P0,Z2x]
   refine⟨iD s,X1 (by rw [ak,fY];rfl),_,rfl,_,rfl,?_⟩
   rw [P0]
   simp only [P0,Z2w]
   refine⟨.lst (on[s].map iD),X1 (by rw [ak,j8];rfl),_,rfl,?_⟩
   rw [Q0l,fY]at h
   simp only [j8]at h
   refine forR (n:=on.length) (d:=d) hl on[s] R _ hI kin j9 fun o6=>?_
   refine⟨_,rfl,trivial,?_⟩
   have e:((p:Int)+1)=((p+1:Nat):Int):=by omega
   show L8 wtR wlR (n+1) E [_,_,_,_,some (.dat (.int ((p:Int)+1))),_,_]
   rw [e]
   exact ih _ _ _ _ (hI.go j9) (by omega) h
  ·rw [aH (by simpa using bR)]
   have e:R[p]?=none:=aM.mpr (by omega)
   rw [Q0l,e]at h
   exact h _ _ _
noncomputable def sp_all_reached (K:Fg9):Q1:=fun rs Pr=>∃(xs:List Nat) (on:List (List Nat)),rs=[.bw (xs.map iD),.st (llD on)]/\xs.Nodup/\(∀x∈xs,x<on.length)/\(∀l∈on,∀g∈l,g<on.length)/\on.length<=100000/\∀a,Pr (.cl a (M4 K a (kR (G3 on xs))))
theorem W1j {K:Fg9}:Q1z (sp_all_reached K):=by rintro rs P Q f ⟨xs,on,e,h1,h2,h3,h4,h5⟩;exact⟨xs,on,e,h1,h2,h3,h4,fun a=>f _ (h5 a)⟩
theorem W5h {K:Fg9}:∀rs Pr,rs.length=2->sp_all_reached K rs Pr->Z4w K (Q0p Pr) (G4 Z0l rs):=by
 rintro rs Pr _ ⟨xs,on,rfl,nd,hx,jl,hl,h⟩
 have hI:Z6 on.length (xs.map fun x=>(x,0)):=⟨by simpa [Function.comp_def]using nd,fun q hq=>by
  obtain⟨x,h1,rfl⟩:=au.mp hq
  exact hx x h1⟩
 have b:=hI.bound
 rw [ah]at b
 unfold Z4w
 simp only [K1,W6s,Q4a,C1,L7,N9,E3,D8,F3,W7k]
 refine⟨_,rfl,_,rfl,szl (by simp;omega),?_⟩
 refine Z7o xs [] _ (by simpa using nd) ?_
 refine⟨_,rfl,?_⟩
 have el:(kR ([]++xs.map fun x=>(x,0))).map (fun p=>kyD p.1)=((xs.map fun x=>(x,0)).map fun q=>iD q.1):=by simp [kvm,kyD]
 show Q2j [.dk _] _
 rw [W6z,el,c6]
 simp only [U4,V4]
 refine⟨on.length+1,?_⟩
 refine W9s jl hl on.length (xs.map fun x=>(x,0)) 0 _ _ hI (by omega) fun o4 o5 o6=>?_
 exact⟨_,rfl,h⟩
structure Wf (es:List Bool) (rows:List (List Nat)):Prop where
 len:rows.length=es.length
 pos:0<es.length
 r4:∀r∈rows,r.length=4
 lt:∀r∈rows,∀x∈r,x<es.length
noncomputable def X0 (B:List (List Nat)) (g s:Nat):List (List Nat):=B.set g (B.getD g []++[s])
noncomputable def Q0s (s:Nat):List Nat->List (List Nat)->List (List Nat)
 | [],B=>B
 | g::gs,B=>Q0s s gs (X0 B g s)
noncomputable def Q0r:Nat->List (List Nat)->List (List Nat)->List (List Nat)
 | _,[],B=>B
 | s,r::rs,B=>Q0r (s+1) rs (Q0s s r B)
noncomputable def E2 (rows:List (List Nat)):List (List Nat):=Q0r 0 rows (rows.map fun _=>[])
noncomputable abbrev G6 (B:List (List Nat)):List (List D):=B.map fun l=>l.map iD
theorem Z0w (B:List (List Nat)) (g s:Nat):(X0 B g s).length=B.length:=by simp [X0]
theorem Q7g {s:Nat}:∀(gs:List Nat) (B:List (List Nat)),(Q0s s gs B).length=B.length
 | [],B=>rfl
 | g::gs,B=>by rw [Q0s,Q7g gs,Z0w]
theorem Z6p:∀(rs:List (List Nat)) (s:Nat) (B:List (List Nat)),(Q0r s rs B).length=B.length
 | [],s,B=>rfl
 | r::rs,s,B=>by rw [Q0r,Z6p rs,Q7g]
theorem Q5z (B:List (List Nat)) (g:Nat):(G6 B).getD g []=(B.getD g []).map iD:=by
 rw [ag,ag,ak]
 cases B[g]? <;> rfl
theorem W0u (B:List (List Nat)) (g s:Nat):(G6 B).set g ((G6 B).getD g []++[iD s])=G6 (X0 B g s):=by
 rw [Q5z]
 unfold X0 G6
 rw [List.map_set]
 simp
theorem Z8h {B:List (List Nat)}{m g:Nat} (h:∀l∈B,l.length<=m):(B.getD g []).length<=m:=by
 rw [ag]
 cases e:B[g]? with
 | none=>simp
 | some l=>exact h l (aE e)
theorem Z6e {B:List (List Nat)}{m g s:Nat} (h:∀l∈B,l.length<=m):∀l∈X0 B g s,l.length<=m+1:=by
 intro l hl
 rcases eL hl with h' | rfl
 ·exact Nat.le_succ_of_le (h l h')
 ·have:=Z8h (g:=g) h
  rw [aD,bX];omega
theorem Z6q {s:Nat}:∀(gs:List Nat) (B:List (List Nat)) (m:Nat),(∀l∈B,l.length<=m)->∀l∈Q0s s gs B,l.length<=m+gs.length
 | [],B,m,h=>h
 | g::gs,B,m,h=>fun l hl=>by
  have:=Z6q gs _ (m+1) (Z6e h) l hl
  simp;omega
theorem W1b {B:List (List Nat)}{g s i x:Nat} (hx:x∈(X0 B g s).getD i []):x∈B.getD i []\/(i=g/\x=s):=by
 unfold X0 at hx
 rw [ag,List.getElem?_set]at hx
 by_cases h:g=i
 ·subst h
  by_cases hl:g<B.length
  ·rw [aJ rfl,aJ hl]at hx
   rcases aS.mp (show x∈B.getD g []++[s]from hx)with h | h
   ·exact .inl h
   ·exact .inr ⟨rfl,by simpa using h⟩
  ·rw [aJ rfl,aH hl]at hx
   cases hx
 ·rw [aH h]at hx
  exact .inl (by rw [ag];exact hx)
theorem W1d {B:List (List Nat)}{g s i x:Nat} (hx:x∈B.getD i []):x∈(X0 B g s).getD i []:=by
 unfold X0
 rw [ag]at hx ⊢
 rw [List.getElem?_set]
 by_cases h:g=i
 ·subst h
  by_cases hl:g<B.length
  ·rw [aJ rfl,aJ hl]
   exact bf _ (by rw [ag];exact hx)
  ·rw [aM.mpr (by omega)]at hx;cases hx
 ·rw [aH h];exact hx
theorem W1c {B:List (List Nat)}{g s:Nat} (hl:g<B.length):s∈(X0 B g s).getD g []:=by
 unfold X0
 rw [ag,List.getElem?_set,aJ rfl,aJ hl]
 exact av _ (by simp)
theorem Z9x {s i x:Nat}:∀(gs:List Nat) (B:List (List Nat)),(∀g∈gs,g<B.length)->(x∈(Q0s s gs B).getD i [] ↔ x∈B.getD i []\/(i∈gs/\x=s))
 | [],B,_=>by simp [Q0s]
 | g::gs,B,h=>by
  rw [Q0s,Z9x gs _ (fun g' h'=>by rw [Z0w];exact h g' (by simp [h']))]
  constructor
  ·rintro (h' | ⟨h1,h2⟩)
   ·rcases W1b h' with h' | ⟨h1,h2⟩
    ·exact .inl h'
    ·exact .inr ⟨by simp [h1],h2⟩
   ·exact .inr ⟨by simp [h1],h2⟩
  ·rintro (h' | ⟨h1,rfl⟩)
   ·exact .inl (W1d h')
   ·rcases aq.mp h1 with rfl | h1
    ·exact .inl (W1c (h _ (by simp)))
    ·exact .inr ⟨h1,rfl⟩
theorem Z9w {i x:Nat}:∀(rs:List (List Nat)) (s:Nat) (B:List (List Nat)),(∀r∈rs,∀g∈r,g<B.length)->(x∈(Q0r s rs B).getD i [] ↔ x∈B.getD i []\/∃j r,rs[j]?=some r/\i∈r/\x=s+j)
 | [],s,B,_=>by simp [Q0r]
 | r::rs,s,B,h=>by
  rw [Q0r,Z9w rs _ _ (fun r' h' g hg=>by rw [Q7g];exact h r' (by simp [h']) g hg),Z9x _ _ (h r (by simp))]
  constructor
  ·rintro ((h' | ⟨h1,rfl⟩) | ⟨j,r',e,h1,rfl⟩)
   ·exact .inl h'
   ·exact .inr ⟨0,r,rfl,h1,rfl⟩
   ·exact .inr ⟨j+1,r',by simpa using e,h1,by omega⟩
  ·rintro (h' | ⟨j,r',e,h1,rfl⟩)
   ·exact .inl (.inl h')
   ·cases j with
    | zero=>cases e;exact .inl (.inr ⟨h1,rfl⟩)
    | succ j=>exact .inr ⟨j,r',by simpa using e,h1,by omega⟩
theorem Z2q {rows:List (List Nat)} (h:∀r∈rows,∀g∈r,g<rows.length) {i x:Nat}:x∈(E2 rows).getD i [] ↔ ∃r,rows[x]?=some r/\i∈r:=by
 unfold E2
 rw [Z9w rows 0 _ (fun r hr g hg=>by rw [ah];exact h r hr g hg)]
 have e0:x∉(rows.map fun _=>([]:List Nat)).getD i []:=by
  rw [ag,ak]
  cases rows[i]? <;> simp
 constructor
 ·rintro (h' | ⟨j,r,e,h1,rfl⟩)
  ·exact absurd h' e0
  ·exact⟨r,by rw [cZ];exact e,h1⟩
 ·rintro ⟨r,e,h1⟩
  exact .inr ⟨x,r,e,h1,by omega⟩
theorem Q7f (rows:List (List Nat)):(E2 rows).length=rows.length:=by simp [E2,Z6p]
theorem Z6o {rows:List (List Nat)} (h:∀r∈rows,∀g∈r,g<rows.length):∀l∈E2 rows,∀x∈l,x<(E2 rows).length:=by
 intro l hl x hx
 obtain⟨i,hi,rfl⟩:=cy.mp hl
 have:x∈(E2 rows).getD i []:=by rw [ag,af hi];exact hx
 obtain⟨r,e,_⟩:=(Z2q h).mp this
 obtain⟨h',_⟩:=aL.mp e
 rw [Q7f];exact h'
noncomputable def E8 (es:List Bool) (b:Bool):List Nat:=((es.zipIdx).filter fun p=>p.1==b).map (·.2)
theorem Z2r {es:List Bool}{b:Bool}{i:Nat}:i∈E8 es b ↔ es[i]?=some b:=by
 unfold E8
 rw [au]
 constructor
 ·rintro ⟨⟨c,j⟩,h,rfl⟩
  rw [hJ]at h
  have h1:=List.mem_zipIdx_iff_getElem?.mp h.1
  have h2:c=b:=by simpa using h.2
  subst h2;exact h1
 ·intro h
  exact⟨(b,i),hJ.mpr ⟨List.mem_zipIdx_iff_getElem?.mpr h,by simp⟩,rfl⟩
theorem Z7x {es:List Bool}{b:Bool}:∀x∈E8 es b,x<es.length:=fun x hx=>by
 obtain⟨h,_⟩:=aL.mp (Z2r.mp hx);exact h
theorem Z7y {es:List Bool}{b:Bool}:(E8 es b).Nodup:=by
 have:(es.zipIdx.map (·.2)).Nodup:=by rw [List.zipIdx_map_snd];exact List.nodup_range'
 exact this.sublist (List.filter_sublist.map _)
noncomputable def G2 (R:List (Nat×Nat)) (s:Nat):Option Nat:=(R.find? fun q=>decide (q.1=s)).map (·.2)
noncomputable abbrev oD:Option Nat->D
 | none=>.non
 | some d=>iD d
theorem Y5i (R:List (Nat×Nat)) (s:Nat):(C9 (kR R) (ik s)).getD .non=oD (G2 R s):=by
 rw [Q5u Q2f]
 unfold C9 G2
 induction R with
 | nil=>rfl
 | cons q R ih =>
  rw [aw,b8,b8]
  by_cases h:q.1=s
  ·simp [h]
  ·simp only [h,decide_false];exact ih
noncomputable def V8 (es:List Bool) (rows:List (List Nat)) (b:Bool):List (Option Nat):=(List.range es.length).map (G2 (G3 (E2 rows) (E8 es b)))
theorem Z7q {Q:List (List D)->Prop}:∀(ds:List D) (o:Option Sl),Q (ds.map fun _=>[])->X2 (B2 0) (N6 A4) ds [o] Q
 | [],o,h=>h
 | d::ds,o,h=>by
  rw [X2]
  simp only [N2,s_lst,D8]
  exact⟨_,rfl,sz (by simp),_,rfl,Z7q ds _ h⟩
@[simp] theorem nll1 {d:D}:D4 (some (.dat d))=true:=rfl
@[simp] theorem nll2:D4 none=true:=rfl
theorem forB {s:Nat}{E:E7}{a:Addr}{o0 o1 o2 o5 o7:Option Sl} (n0:D4 o0=true) (n1:D4 o1=true) (n2:D4 o2=true) (n5:D4 o5=true) (n7:D4 o7=true):∀(gs:List Nat) (B:List (List Nat)) (m:Nat) (o6:Option Sl),D4 o6=true ->
  (∀g∈gs,g<B.length)->(∀l∈B,l.length<=m)->m+gs.length<=1000000 ->
  (∀o6,D4 o6=true->E.nx [o0,o1,o2,some (.ll a (G6 (Q0s s gs B))),some (.dat (iD s)),o5,o6,o7]) ->
  C6 (B2 6) (Q6t 3 (wV 6) (B0 (wV 4))) E (gs.map iD) [o0,o1,o2,some (.ll a (G6 B)),some (.dat (iD s)),o5,o6,o7]
 | [],B,m,o6,n6,_,_,_,h=>h o6 n6
 | g::gs,B,m,o6,n6,hg,hm,hz,h=>by
  rw [ax]at hz
  have gl:=hg g (by simp)
  have bd:=Z8h (g:=g) hm
  rw [aw,C6]
  simp only [N2,W6w,C1,E9]
  refine⟨a,G6 B,rfl,?_,_,rfl,_,g,rfl,?_,_,rfl,_,rfl,?_,?_⟩
  ·show(D4 o0&&(D4 o1&&(D4 o2&&([some (.dat (iD s)),o5,some (.dat (iD g)),o7]:A6).all D4)))=true
   simp [n0,n1,n2,n5,n7,nll1]
  ·rw [ah];exact ixn gl
  ·rw [Q5z,ah];exact szl (by omega)
  ·show C6 _ _ _ _ [_,_,_,some (.ll a ((G6 B).set g ((G6 B).getD g []++[iD s]))),_,_,_,_]
   rw [W0u]
   exact forB n0 n1 n2 n5 n7 gs _ (m+1) _ rfl (fun g' h'=>by rw [Z0w];exact hg g' (by simp [h'])) (Z6e hm) (by omega) h
theorem Z8g {E:E7}{a:Addr}{o0 o1 o2 o7:Option Sl} (n0:D4 o0=true) (n1:D4 o1=true) (n2:D4 o2=true) (n7:D4 o7=true):∀(rs:List (List Nat)) (s:Nat) (B:List (List Nat)) (m:Nat) (o4 o5 o6:Option Sl),D4 o4=true->D4 o5=true->D4 o6=true ->
  (∀r∈rs,r.length=4/\∀g∈r,g<B.length)->(∀l∈B,l.length<=m)->m+4*rs.length<=1000000 ->
  (∀o4 o5 o6,D4 o4=true->D4 o5=true->D4 o6=true->E.nx [o0,o1,o2,some (.ll a (G6 (Q0r s rs B))),o4,o5,o6,o7]) ->
  C6 (P7 2 (F4 (B2 4) (F4 (B2 5) gNl))) (L1 (Q5m (wV 5)) (B2 6) (Q6t 3 (wV 6) (B0 (wV 4)))) E ((rs.zipIdx s).map fun p=>.tup [.int (p.2:Int),rD p.1]) [o0,o1,o2,some (.ll a (G6 B)),o4,o5,o6,o7]
 | [],s,B,m,o4,o5,o6,n4,n5,n6,_,_,_,h=>h o4 o5 o6 n4 n5 n6
 | r::rs,s,B,m,o4,o5,o6,n4,n5,n6,hg,hm,hz,h=>by
  rw [ax]at hz
  obtain⟨l4,gl⟩:=hg r (by simp)
  rw [cg,aw,C6]
  simp only [Q3y,Q3w,N2,Q3x,T8,W6p,C1]
  refine⟨_,rfl,rfl,_,_,rfl,_,_,rfl,rfl,_,rfl,_,rfl,?_⟩
  refine forB n0 n1 n2 (o5:=some (.dat (rD r))) rfl n7 r B m o6 n6 gl hm (by omega) fun o6 n6=>?_
  exact Z8g n0 n1 n2 n7 rs (s+1) _ (m+4) _ _ _ rfl rfl n6 (fun r' h'=>⟨(hg r' (by simp [h'])).1,fun g h2=>by rw [Q7g];exact(hg r' (by simp [h'])).2 g h2⟩)
   (by have:=Z6q (s:=s) r B m hm;rw [l4]at this;exact this) (by omega) h
theorem Z1i {b:Bool}{Q:List D->Prop}:∀(es:List Bool) (n:Nat) (o0 o1:Option Sl),Q (((es.zipIdx n).filter fun p=>p.1==b).map fun p=>iD p.2) ->
  G8 (P7 2 (F4 (B2 0) (F4 (B2 1) gNl))) (A8 (O8 60 false) (wV 1) (wV 2)) (B0 (wV 0)) ((es.zipIdx n).map fun p=>.tup [.int (p.2:Int),.bl p.1]) [o0,o1,some (.dat (.bl b))] Q
 | [],n,o0,o1,h=>h
 | e::es,n,o0,o1,h=>by
  rw [cg,aw,G8]
  simp only [Q3y,Q3w,N2,Q3x,F2,C1,E9]
  refine⟨_,rfl,rfl,_,_,rfl,_,_,rfl,rfl,_,rfl,_,rfl,?_⟩
  simp only [P0,Q0j,o_d1]
  refine⟨_,_,rfl,rfl,by simp [D.depth],?_⟩
  rw [cg,fL]at h
  by_cases hb:e=b
  ·subst hb
   simp only [BEq.rfl,if_true]at h
   simp only [o_e3,BEq.rfl,if_true,dw,eh]
   exact⟨_,rfl,_,rfl,Z1i es (n+1) _ _ h⟩
  ·have fu:(e==b)=false:=by simpa using hb
   simp only [fu,eh,dw]at h
   simp only [o_e3,fu,dw,eh]
   exact Z1i es (n+1) _ _ h
def K4 (ra:R) (es:List Bool):Prop:=ra=.bw (es.map .bl)\/ra=.st (.tup (es.map .bl))
theorem K4.rd {ra:R}{es:List Bool} (h:K4 ra es):Q0 (N3 ra)=ra:=by rcases h with rfl | rfl <;> rfl
theorem K4.nll {ra:R}{es:List Bool} (h:K4 ra es):D4 (some (N3 ra))=true:=by rcases h with rfl | rfl <;> rfl
theorem K4.sq {ra:R}{es:List Bool} (h:K4 ra es):Q8 ra=some (es.map .bl):=by rcases h with rfl | rfl <;> rfl
theorem K4.len {ra:R}{es:List Bool} (h:K4 ra es) {Q:R->Prop}:E6 [ra] Q=Q (.st (.int (es.length:Int))):=by
 rcases h with rfl | rfl
 ·rw [Q2n,ah]
 ·rw [Q6g,ah]
theorem K4.arg {ra:R}{es:List Bool} (h:K4 ra es):M7 ra=true:=by rcases h with rfl | rfl <;> rfl
theorem K4.nrm {ra:R}{es:List Bool} (h:K4 ra es):nrm ra=ra:=by rcases h with rfl | rfl <;> rfl
def RwD (d:D) (rows:List (List Nat)):Prop:=d=rsD rows\/d=.lst (rows.map rD)
theorem RwD.sq {d:D}{rows:List (List Nat)} (h:RwD d rows):Q8 (.st d)=some (rows.map rD):=by rcases h with rfl | rfl <;> rfl
theorem RwD.ix {d:D}{rows:List (List Nat)} (h:RwD d rows) {r:List Nat}{i:Nat} (e:rows[i]?=some r) {Q:R->Prop} (q:Q (.st (rD r))):C3 (.st d) (.st (.int (i:Int))) Q:=by
 rcases h with rfl | rfl <;> exact⟨rD r,X1 (by rw [ak,e];rfl),q⟩
theorem RwD.j {d:D}{rows:List (List Nat)} (h:RwD d rows) {τ:A6}{i:Nat} (e:τ[i]?=some (some (.dat d))) {Q:List D->Prop} (q:Q (rows.map rD)):jOr (Q5r (wV i)) (Q0c (wV i)) τ Q:=by
 rcases h with rfl | rfl
 ·exact .inl ⟨_,e,_,rfl,q⟩
 ·exact .inr ⟨_,e,_,rfl,q⟩
theorem RwD.i {d:D}{rows:List (List Nat)} (h:RwD d rows) {τ:A6}{i:Nat} (e:τ[i]?=some (some (.dat d))) {Q:List D->A6->Prop} (q:Q (G0 (rows.map rD)) τ):iOr (Q7r (A2 (wV i) A4)) (Q5k (A2 (wV i) A4)) τ Q:=by
 rcases h with rfl | rfl
 ·exact .inl ⟨_,e,.inr ⟨_,rfl,q⟩⟩
 ·exact .inr ⟨_,e,_,rfl,q⟩
noncomputable def sp_distances:Q1:=fun rs Pr=>∃ra es rows b d,rs=[ra,.st d,.st (.bl b)]/\RwD d rows/\K4 ra es/\Wf es rows/\es.length<=20000/\Pr (.nw ((V8 es rows b).map oD))
theorem Y0d:Q1z sp_distances:=by rintro rs P Q f ⟨ra,es,rows,b,d,e,h0,h1,h2,h3,h4⟩;exact⟨ra,es,rows,b,d,e,h0,h1,h2,h3,f _ h4⟩
theorem W5j {K:Fg9}:∀rs Pr,rs.length=3->sp_distances rs Pr->Z4x K (sp_all_reached K) (Q0p Pr) (G4 Q4v rs):=by
 rintro rs Pr _ ⟨ra,es,rows,b,d,rfl,hd,ha,wf,hl,h⟩
 have wl:=wf.len
 have bR:∀r∈rows,∀g∈r,g<rows.length:=fun r hr g hg=>by rw [wl];exact wf.lt r hr g hg
 unfold Z4x
 simp only [K1,W6x,Y2p,C1,Y2i,T8,W6o,E3,D8,W7l,Q6l,U6,Y2n,W4,Q8s,N9]
 refine hd.j rfl ⟨sz (by simp;omega),?_⟩
 refine Z7q _ _ fun a=>?_
 refine hd.i rfl ?_
 have e1:G0 (rows.map rD)=(rows.zipIdx 0).map fun p=>.tup [.int (p.2:Int),rD p.1]:=by
  unfold G0;rw [List.zipIdx_map,aO];rfl
 have e2:((rows.map rD).map fun _=>([]:List D))=G6 (rows.map fun _=>[]):=by simp [G6]
 rw [e1,e2]
 refine Z8g (o0:=some (N3 ra)) (o1:=some (.dat d)) (o2:=some (.dat (.bl b))) (o7:=none) ha.nll rfl rfl rfl rows 0 _ 0 none none none rfl rfl rfl (fun r hr=>⟨wf.r4 r hr,fun g hg=>by rw [ah];exact bR r hr g hg⟩) (fun l hl=>by simp at hl;simp [hl.2]) (by omega) fun o4 o5 o6 n4 n5 n6=>?_
 refine⟨a,_,rfl,?_,?_⟩
 ·show(D4 _&&(D4 _&&(D4 _&&([o4,o5,o6,none]:A6).all D4)))=true
  have:=ha.nll
  simp [this,n4,n5,n6,nll1,nll2]
 refine⟨_,rfl,?_⟩
 show ∃r ds,[Q0 (N3 ra)]=[r]/\_
 refine⟨_,_,rfl,by rw [ha.rd];exact ha.sq,sz (by simp [G0];omega),?_⟩
 have e3:G0 (es.map .bl)=(es.zipIdx 0).map fun p=>.tup [.int (p.2:Int),.bl p.1]:=by
  unfold G0;rw [List.zipIdx_map,aO];rfl
 rw [e3]
 refine Z1i es 0 _ _ ?_
 refine⟨_,rfl,rfl,E8 es b,E2 rows,?_,Z7y,fun x hx=>by rw [Q7f,wl];exact Z7x x hx,Z6o bR,by rw [Q7f,wl];omega,fun a'=>?_⟩
 ·have q1:((es.zipIdx 0).filter fun p=>p.1==b).map (fun p=>iD p.2)=(E8 es b).map iD:=by unfold E8;rw [aO];rfl
  have q2:D.lst ((G6 (Q0r 0 rows (rows.map fun _=>[]))).map D.lst)=llD (E2 rows):=by unfold G6 llD E2;rw [aO];rfl
  show [R.bw _,R.st (.lst _)]=_
  rw [q1,q2]
 refine⟨a',_,rfl,?_⟩
 refine⟨_,rfl,?_⟩
 show E6 [Q0 (N3 ra)] _
 rw [ha.rd,ha.len]
 refine⟨_,rfl,by omega,by omega,sz (by simp [G9];omega),?_⟩
 have hf:∀i:Nat,(C9 (kR (G3 (E2 rows) (E8 es b))) (ik i)).getD .non=oD (G2 (G3 (E2 rows) (E8 es b)) i):=Y5i _
 have er:G9 0 (es.length:Int).toNat=(List.range es.length).map iD:=by simp [G9]
 rw [er]
 refine Z8 (f:=fun d=>match d with | .int i=>(C9 (kR (G3 (E2 rows) (E8 es b))) (.inl i)).getD .non | d=>d) _ _ _ (fun d hd Q' q=>?_) ?_
 ·obtain⟨i,_,rfl⟩:=au.mp hd
  simp only [E9,W6l,C1]
  exact⟨a',_,rfl,_,rfl,_,ik i,rfl,rfl,q⟩
 ·rw [aO]
  have:(List.range es.length).map ((fun d=>match d with | .int i=>(C9 (kR (G3 (E2 rows) (E8 es b))) (.inl i)).getD .non | d=>d) ∘ iD)=(V8 es rows b).map oD:=by
   unfold V8
   rw [aO]
   exact bc fun i _=>hf i
  rw [this]
  exact h
noncomputable def M9:List D->List D->List Nat
 | _,[]=>[]
 | ks,d::r=>ks.idxOf d::M9 (Q7 ks d) r
theorem Y0p:∀(ds ks:List D),(Z1 ks ds).map D.int=(M9 ks ds).map iD
 | [],ks=>rfl
 | d::r,ks=>by rw [Z1,M9,aw,aw,Y0p r]
noncomputable def S8:List D->List D->List D
 | ks,[]=>ks
 | ks,d::r=>S8 (Q7 ks d) r
theorem Y3u (ks:List D) (d:D):ks <+: Q7 ks d:=by
 unfold Q7;split
 ·exact ci _
 ·exact List.prefix_append _ _
theorem Y3s:∀(ds ks:List D),ks <+: S8 ks ds
 | [],ks=>ci _
 | d::r,ks=>(Y3u ks d).trans (Y3s r _)
theorem Y0a (ks:List D) (d:D):d∈Q7 ks d:=by
 unfold Q7;split
 ·assumption
 ·simp
theorem Y8y {ks ls:List D}{g:D} (p:ks <+: ls) (h:g∈ks):ls.idxOf g=ks.idxOf g:=by
 obtain⟨t,rfl⟩:=p
 rw [List.idxOf_append,aJ h]
theorem Y8z (ks:List D) (d:D):(Q7 ks d).idxOf d=ks.idxOf d:=by
 unfold Q7;split
 ·rfl
 ·rename_i h
  rw [List.idxOf_append,aH h,List.idxOf_eq_length h]
  simp
theorem Q3r:∀(ds ks:List D),M9 ks ds=ds.map fun d=>(S8 ks ds).idxOf d
 | [],ks=>rfl
 | d::r,ks=>by
  have p:=Y3s r (Q7 ks d)
  rw [M9,Q3r r,aw,S8,Y8y p (Y0a ks d),Y8z]
theorem Y0n (ds ks:List D):(M9 ks ds).length=ds.length:=by rw [Q3r,ah]
theorem Q6d:∀(ds ks:List D) {d:D},d∈ks\/d∈ds->d∈S8 ks ds
 | [],ks,d,h=>by simpa [S8]using h
 | e::r,ks,d,h=>by
  rw [S8]
  refine Q6d r _ ?_
  rcases h with h | h
  ·exact .inl ((Y3u ks e).subset h)
  ·rcases aq.mp h with rfl | h
   ·exact .inl (Y0a _ _)
   ·exact .inr h
theorem Y3r:∀(ds ks:List D),(S8 ks ds).length<=ks.length+ds.length
 | [],ks=>by simp [S8]
 | d::r,ks=>by
  have:=Y3r r (Q7 ks d)
  have:(Q7 ks d).length<=ks.length+1:=by unfold Q7;split <;> simp
  rw [S8,ax];omega
theorem Y0o {ds:List D}:∀x∈M9 [] ds,x<ds.length:=fun x hx=>by
 rw [Q3r,au]at hx
 obtain⟨d,hd,rfl⟩:=hx
 have h1:=aW.mpr (Q6d ds [] (.inr hd))
 have h2:=Y3r ds []
 simp at h2
 omega
theorem Y0m {ds:List D}{i j:Nat}{a b:D} (hi:ds[i]?=some a) (hj:ds[j]?=some b):(M9 [] ds)[i]?=(M9 [] ds)[j]? ↔ a=b:=by
 rw [Q3r,ak,ak,hi,hj]
 constructor
 ·intro h
  have h:(S8 [] ds).idxOf a=(S8 [] ds).idxOf b:=aC h
  have ha:=aW.mpr (Q6d ds [] (.inr (aE hi)))
  have hb:=aW.mpr (Q6d ds [] (.inr (aE hj)))
  have e1:=List.getElem_idxOf ha
  have e2:=List.getElem_idxOf hb
  rw [<- e1,<- e2]
  simp only [h]
 ·rintro rfl;rfl
noncomputable def sp_numbered:C7:=fun rs r=>∃ds,rs=[.bw ds]/\ds.length<=1000000/\(∀d∈ds,O9 8 d=true/\∃l,d=.tup l)/\r=.nw ((M9 [] ds).map iD)
theorem W5r:∀rs r,rs.length=1->sp_numbered rs r->Z5j (S9 r) (G4 Z0r rs):=by
 rintro rs r _ ⟨ds,rfl,hl,hk,rfl⟩
 unfold Z5j
 rw [W7i]
 refine⟨(by decide:1<2),?_⟩
 simp only [Q4a,C1]
 exact⟨_,rfl,_,rfl,sz hl,hk,by rw [Y0p];rfl⟩
noncomputable def P8 (b:List Nat):Nat:=b.foldl max 0
theorem Z1p:∀(b:List Nat) (a:Nat),a<=b.foldl max a/\∀x∈b,x<=b.foldl max a
 | [],a=>⟨aj _,fun x h=>by cases h⟩
 | y::b,a=>by
  obtain⟨h1,h2⟩:=Z1p b (max a y)
  refine⟨aX (Nat.le_max_left _ _) h1,fun x hx=>?_⟩
  rcases aq.mp hx with rfl | hx
  ·exact aX (Nat.le_max_right _ _) h1
  ·exact h2 x hx
theorem Z8e:∀(b:List Nat) (a:Nat),b.foldl max a=a\/b.foldl max a∈b
 | [],a=>.inl rfl
 | y::b,a=>by
  rcases Z8e b (max a y)with h | h
  ·rw [hV,h]
   rcases Nat.le_total a y with z | z
   ·rw [Nat.max_eq_right z];exact .inr (by simp)
   ·rw [Nat.max_eq_left z];exact .inl rfl
  ·exact .inr (ar _ h)
theorem Q8b {b:List Nat}{x:Nat} (h:x∈b):x<=P8 b:=(Z1p b 0).2 x h
theorem Q6b {b:List Nat} (h:b≠[]):P8 b∈b:=by
 unfold P8
 rcases Z8e b 0 with e | e
 ·cases b with
  | nil=>exact absurd rfl h
  | cons y b =>
   have:=(Z1p (y::b) 0).2 y (by simp)
   rw [e]at this
   have:y=0:=by omega
   rw [e,this];simp
 ·exact e
theorem W1a {b:List Nat}{m:Int} (h:m∈b.map fun(x:Nat)=>(x:Int)) (g:∀n∈b.map fun(x:Nat)=>(x:Int),n<=m):m=(P8 b:Int):=by
 obtain⟨k,hk,rfl⟩:=au.mp h
 have h1:=Q8b hk
 have h2:=g _ (au.mpr ⟨_,Q6b (fun z=>by rw [z]at hk;cases hk),rfl⟩)
 omega
noncomputable def V3 (es:List Bool) (rows:List (List Nat)):List D:=((V8 es rows true).zip (V8 es rows false)).map fun p=>.tup [oD p.1,oD p.2]
noncomputable def Q0g (b:List Nat) (p:Nat×List Nat):D:=.tup [iD p.1,rD (p.2.map fun g=>b.getD g 0)]
noncomputable def Z0 (rows:List (List Nat)) (b:List Nat):List D:=(b.zip rows).map (Q0g b)
noncomputable def J1 (rows:List (List Nat)) (b:List Nat):List Nat:=M9 [] (Z0 rows b)
noncomputable def Q1a (rows:List (List Nat)):Nat->Nat->List Nat->List Nat
 | 0,_,b=>b
 | n+1,many,b=>if many<=P8 b then Q1a rows n (P8 b+1) (J1 rows b)else b
noncomputable def E4 (es:List Bool) (rows:List (List Nat)):List Nat:=Q1a rows (es.length+1) 0 (M9 [] (V3 es rows))
structure G7 (n:Nat) (b:List Nat):Prop where
 len:b.length=n
 lt:∀x∈b,x<n
theorem G7.step {n:Nat}{rows:List (List Nat)}{b:List Nat} (h:G7 n b) (hr:rows.length=n):G7 n (J1 rows b):=by
 have e:(Z0 rows b).length=n:=by simp [Z0,h.len,hr]
 exact⟨by unfold J1;rw [Y0n,e],fun x hx=>by have:=Y0o x hx;rw [e]at this;exact this⟩
theorem G7.zero {es:List Bool}{rows:List (List Nat)}:G7 es.length (M9 [] (V3 es rows)):=by
 have e:(V3 es rows).length=es.length:=by simp [V3,V8]
 exact⟨by rw [Y0n,e],fun x hx=>by have:=Y0o x hx;rw [e]at this;exact this⟩
theorem Y4s {n:Nat}{rows:List (List Nat)} (hr:rows.length=n):∀(k many:Nat) (b:List Nat),G7 n b->G7 n (Q1a rows k many b)
 | 0,many,b,h=>h
 | k+1,many,b,h=>by
  unfold Q1a;split
  ·exact Y4s hr k _ _ (h.step hr)
  ·exact h
theorem Z4c {es:List Bool}{rows:List (List Nat)} (w:Wf es rows):G7 es.length (E4 es rows):=Y4s w.len _ _ _ G7.zero
def wtA:WT:=(A8 (R9 fun i j=>decide (j<=i)) (D9 Q0h (A2 (wV 2) A4)) (wV 3))
def weA:WE:=(B0 (R1 (A2 (B0 (wV 0)) (A2 (B0 (D9 V5 (A2 (N5 1 [2] (Q5r (wV 1)) (B2 0) P3 (B0 (A8 C3 (wV 1) (wV 0)))) A4))) A4))))
def wlA (sp_numbered:C7):WS:=(B8 (C5 3 (A8 F8 (D9 Q0h (A2 (wV 2) A4)) (wC (.int 1)))) (C5 2 (B0 (N4 sp_numbered (A2 (N5 2 [2] (Q3j (A2 (wV 2) (A2 (wV 1) A4))) (P7 2 (F4 (B2 0) (F4 (B2 1) gNl))) P3 weA) A4)))))
theorem W9p {n:Nat}{b:List Nat} (hb:G7 n b) (hn:n<=20000) {p:Nat×List Nat} (hp:p.2.length=4) (hg:∀g∈p.2,g<n) (Q:R->Prop) (h:Q (.st (Q0g b p))):weA (some (.dat (iD p.1))::some (.dat (rD p.2))::[some (.dat (.lst (b.map iD)))]) Q:=by
 unfold weA
 simp only [E9,s_tup,E3,C1,N9,U6,Y2p,D8]
 refine⟨_,rfl,_,rfl,_,rfl,sz (by simp [hp]),?_⟩
 refine Z8 (f:=fun d=>match d with | .int i=>iD (b.getD i.toNat 0) | d=>d) _ _ _ (fun d hd Q' q=>?_) ?_
 ·obtain⟨g,g6,rfl⟩:=au.mp hd
  have hl:g<b.length:=by rw [hb.len];exact hg g g6
  simp only [E9,F2,C1]
  refine⟨_,rfl,_,rfl,?_⟩
  show C3 (.st (.lst (b.map iD))) (.st (.int (g:Int))) _
  rw [Z2w]
  refine⟨iD (b.getD g 0),X1 (by rw [ak,ag,af hl];rfl),q⟩
 ·refine⟨_,rfl,_,rfl,sz (by simp),?_⟩
  have e:(p.2.map iD).map (fun d=>match d with | .int i=>iD (b.getD i.toNat 0) | d=>d)=(p.2.map fun g=>b.getD g 0).map iD:=by
   rw [aO,aO]
   exact bc fun g _=>by simp
  show Q (.st (.tup [iD p.1,.tup _]))
  rw [e]
  exact h
theorem Z2m {b:List Nat} (hb:b≠[]) {Q:R->Prop} (h:Q (.st (iD (P8 b)))):Q0h [.st (.lst (b.map iD))] Q:=by
 rw [W7g]
 refine⟨b.map fun(x:Nat)=>(x:Int),by rw [W2e,aO];rfl,by simpa using hb,fun m h1 h2=>?_⟩
 rw [W1a h1 h2]
 exact h
theorem Y9v (n:Nat) (o:Option Nat):O9 n (oD o)=true:=by cases o <;> cases n <;> rfl
theorem W0z (b:List Nat) (p:Nat×List Nat):O9 8 (Q0g b p)=true:=by
 simp [Q0g,O9]
theorem W9q {es:List Bool}{rows:List (List Nat)} (w:Wf es rows) (hl:es.length<=20000) {dr:D} (gw:RwD dr rows) {E:E7}{o0:Option Sl}:∀(n many:Nat) (b:List Nat),G7 es.length b->es.length+1<=n+many ->
  (∀o3,E.nx [o0,some (.dat dr),some (.dat (.lst ((Q1a rows n many b).map iD))),o3]) ->
  L8 wtA (wlA sp_numbered) (n+1) E [o0,some (.dat dr),some (.dat (.lst (b.map iD))),some (.dat (iD many))]:=by
 intro n
 induction n with
 | zero =>
  intro many b hb hn h
  have ne:b≠[]:=fun z=>by have h1:=hb.len;rw [z,c7]at h1;have:=w.pos;omega
  have:=hb.lt _ (Q6b ne)
  simp only [L8,wtA,F2,N9,E3,C1,D8]
  refine⟨_,rfl,?_⟩
  refine Z2m ne ⟨_,rfl,?_⟩
  rw [P0,Q1p,aH (by simp;omega)]
  exact h _
 | succ n ih =>
  intro many b hb hn h
  have ne:b≠[]:=fun z=>by have h1:=hb.len;rw [z,c7]at h1;have:=w.pos;omega
  have mx:=hb.lt _ (Q6b ne)
  rw [L8]
  simp only [wtA,F2,N9,E3,C1,D8]
  refine⟨_,rfl,?_⟩
  refine Z2m ne ⟨_,rfl,?_⟩
  rw [P0,Q1p]
  rw [Q1a]at h
  by_cases hm:many<=P8 b
  ·rw [aJ (by simpa using hm)]
   rw [aJ hm]at h
   simp only [wlA,K1,L7,F2,N9,E3,C1,D8,F3,E9,U5,U6,Y2q]
   refine⟨_,rfl,?_⟩
   refine Z2m ne ?_
   rw [Q2m,U4]
   refine⟨_,rfl,_,rfl,_,_,_,_,rfl,rfl,gw.sq,sz (by simp [R4,hb.len];omega),?_⟩
   have ez:R4 (b.map iD) (rows.map rD)=((b.zip rows).map fun p=>(iD p.1,rD p.2)).map fun p=>.tup [p.1,p.2]:=by
    unfold R4
    rw [List.zip_map]
    rfl
   rw [ez]
   refine Z7p (f:=fun d e=>match d,e with | .int i,.tup r=>Q0g b (i.toNat,r.map fun d=>match d with | .int j=>j.toNat | _=>0) | _,_=>.non) _ _ _ _ (fun q hq Q' hQ=>?_) ?_
   ·obtain⟨p,hp,rfl⟩:=au.mp hq
    have hr:=(h9 hp).2
    refine W9p hb hl (w.r4 _ hr) (w.lt _ hr) Q' ?_
    have:(p.2.map iD).map (fun d=>match d with | .int j=>j.toNat | _=>0)=p.2:=by
     rw [aO]
     conv=>rhs;rw [<- List.map_id p.2]
     exact bc fun g _=>by simp
    simp only [this]at hQ
    simpa using hQ
   ·have em:(((b.zip rows).map fun p=>(iD p.1,rD p.2)).map fun p=>(fun d e=>match d,e with | .int i,.tup r=>Q0g b (i.toNat,r.map fun d=>match d with | .int j=>j.toNat | _=>0) | _,_=>D.non) p.1 p.2)=Z0 rows b:=by
     unfold Z0
     rw [aO]
     refine bc fun p _=>?_
     have:(p.2.map iD).map (fun d=>match d with | .int j=>j.toNat | _=>0)=p.2:=by
      rw [aO]
      conv=>rhs;rw [<- List.map_id p.2]
      exact bc fun g _=>by simp
     simp only [Function.comp,this]
     simp
    rw [em]
    refine⟨rfl,_,⟨Z0 rows b,rfl,?_,fun d hd=>?_,rfl⟩,?_⟩
    ·simp [Z0,hb.len];omega
    ·obtain⟨p,_,rfl⟩:=au.mp hd
     exact⟨W0z b p,_,rfl⟩
    ·have e:((P8 b:Int)+1)=((P8 b+1:Nat):Int):=by omega
     show L8 wtA (wlA sp_numbered) (n+1) E [_,_,some (.dat (.lst ((J1 rows b).map iD))),some (.dat (.int ((P8 b:Int)+1)))]
     rw [e]
     exact ih _ _ (hb.step w.len) (by omega) h
  ·rw [aH (by simpa using hm)]
   rw [aH hm]at h
   exact h _
noncomputable def sp_told_apart:Q1:=fun rs Pr=>∃ra es rows d,rs=[ra,.st d]/\RwD d rows/\K4 ra es/\Wf es rows/\es.length<=20000/\Pr (.st (.lst ((E4 es rows).map iD)))
theorem W1m:Q1z sp_told_apart:=by rintro rs P Q f ⟨ra,es,rows,d,e,h0,h1,h2,h3,h4⟩;exact⟨ra,es,rows,d,e,h0,h1,h2,h3,f _ h4⟩
theorem W5v:∀rs Pr,rs.length=2->sp_told_apart rs Pr->Z5k sp_numbered sp_distances (Q0p Pr) (G4 Z0s rs):=by
 rintro rs Pr _ ⟨ra,es,rows,dr,rfl,gw,ha,wf,hl,h⟩
 unfold Z5k
 simp only [K1,L7,E9,U5,E3,W7f,Q6l,C1,F3,D8,Z3k]
 refine⟨_,rfl,_,rfl,?_,ra,es,rows,true,dr,?_,gw,ha,wf,hl,?_⟩
 ·show(M7 (Q0 (N3 ra))&&true)=true
  rw [ha.rd,ha.arg];rfl
 ·show [nrm (Q0 (N3 ra)),_,_]=_
  rw [ha.rd,ha.nrm];rfl
 refine⟨_,rfl,_,rfl,?_,ra,es,rows,false,dr,?_,gw,ha,wf,hl,?_⟩
 ·show(M7 (Q0 (N3 ra))&&true)=true
  rw [ha.rd,ha.arg];rfl
 ·show [nrm (Q0 (N3 ra)),_,_]=_
  rw [ha.rd,ha.nrm];rfl
 refine⟨_,_,_,_,rfl,rfl,rfl,rfl,_,⟨V3 es rows,?_,?_,fun d hd=>?_,rfl⟩,?_⟩
 ·have:R4 ((V8 es rows true).map oD) ((V8 es rows false).map oD)=V3 es rows:=by
   unfold R4 V3
   rw [List.zip_map,aO];rfl
  rw [this];rfl
 ·simp [V3,V8];omega
 ·obtain⟨p,_,rfl⟩:=au.mp hd
  exact⟨by simp [O9,Y9v],_,rfl⟩
 ·refine⟨es.length+1+1,?_⟩
  refine W9q wf hl gw (es.length+1) 0 _ G7.zero (by omega) fun o3=>?_
  exact⟨_,rfl,h⟩
noncomputable abbrev K8:=List Bool×List (List Nat)
noncomputable abbrev mD (m:K8):D:=.tup [.tup (m.1.map .bl),rsD m.2]
abbrev WfM (m:K8):Prop:=Wf m.1 m.2
noncomputable def B1 (rows:List (List Nat)) (s c:Nat):Nat:=(rows.getD s []).getD c 0
noncomputable def Z3:Nat->List Nat->List (Nat×Nat)->List (Nat×Nat)
 | _,[],S=>S
 | n,x::b,S=>Z3 (n+1) b (K6 S x n)
noncomputable def Y9 (rows:List (List Nat)) (b:List Nat) (x c:Nat):Nat:=b.getD (B1 rows (b.idxOf x) c) 0
noncomputable def J7 (es:List Bool) (rows:List (List Nat)):List Nat×List (List Nat):=Q1c es.length (Y9 rows (E4 es rows)) ((E4 es rows).getD 0 0)
noncomputable def K7 (es:List Bool) (rows:List (List Nat)):K8:=((J7 es rows).1.map fun x=>es.getD ((E4 es rows).idxOf x) false,(J7 es rows).2)
theorem W5z {rows:List (List Nat)}{s c:Nat}{r:List Nat} (h:rows[s]?=some r) (hc:c<r.length):r[c]?=some (B1 rows s c):=by
 unfold B1
 rw [ag,ag,h,Option.getD_some,af hc,Option.getD_some]
theorem Wf.row {es:List Bool}{rows:List (List Nat)} (w:Wf es rows) {s:Nat} (h:s<es.length):∃r,rows[s]?=some r/\r.length=4/\∀c<4,r[c]?=some (B1 rows s c)/\B1 rows s c<es.length:=by
 have h':s<rows.length:=by rw [w.len];exact h
 have e:rows[s]?=some rows[s]:=af h'
 have m:=bG h'
 refine⟨_,e,w.r4 _ m,fun c hc=>?_⟩
 have g:=W5z e (c:=c) (by rw [w.r4 _ m];exact hc)
 exact⟨g,w.lt _ m _ (aE g)⟩
theorem Y2 {c:Nat} (h:c∈B7):c<4:=by
 simp [B7]at h;omega
theorem Q8a {c:Nat} (h:c<4):c∈B7:=by
 simp [B7];omega
theorem Q0v {b:List Nat}{i:Nat} (h:i<b.length):b.getD i 0∈b:=by
 rw [ag,af h];exact bG h
theorem Z9q {es:List Bool}{rows:List (List Nat)} (w:Wf es rows) {b:List Nat} (hb:b.length=es.length) {x c:Nat} (hx:x∈b) (hc:c∈B7):Y9 rows b x c∈b:=by
 have hi:=aW.mpr hx
 obtain⟨r,_,_,h⟩:=w.row (s:=b.idxOf x) (by rw [<- hb];exact hi)
 exact Q0v (by rw [hb];exact(h c (Y2 hc)).2)
theorem Q3m {es:List Bool}{rows:List (List Nat)} (w:Wf es rows):Z6d (Y9 rows (E4 es rows)) ((E4 es rows).getD 0 0) (E4 es rows) (J7 es rows).1 (J7 es rows).2:=by
 have B:=Z4c w
 exact W9n (fun k hk c hc=>Z9q w B.len hk hc) (Q0v (by rw [B.len];exact w.pos)) (Nat.le_of_eq B.len)
theorem Z9f {es:List Bool}{rows:List (List Nat)} (w:Wf es rows):WfM (K7 es rows):=by
 have W:=Q3m w
 have i6:∀r∈(J7 es rows).2,∃k∈(J7 es rows).1,r=B7.map fun c=>(J7 es rows).1.idxOf (Y9 rows (E4 es rows) k c):=fun r hr=>by
  obtain⟨i,hi,rfl⟩:=cy.mp hr
  have gu:i<(J7 es rows).1.length:=by rw [<- W.len];exact hi
  have:=W.row i _ (af gu)
  rw [af hi]at this
  exact⟨_,bG gu,aC this⟩
 refine⟨?_,?_,fun r hr=>?_,fun r hr x hx=>?_⟩
 ·show(J7 es rows).2.length=((J7 es rows).1.map _).length
  rw [ah];exact W.len
 ·show 0<((J7 es rows).1.map _).length
  rw [ah]
  obtain⟨h,_⟩:=aL.mp W.zero;exact h
 ·obtain⟨k,_,rfl⟩:=i6 r hr;rfl
 ·show x<((J7 es rows).1.map _).length
  rw [ah]
  obtain⟨k,hk,rfl⟩:=i6 r hr
  obtain⟨c,hc,rfl⟩:=au.mp hx
  exact aW.mpr (W.mem k hk c hc)
theorem Z9e {es:List Bool}{rows:List (List Nat)} (w:Wf es rows):(K7 es rows).1.length<=es.length:=by
 have W:=Q3m w
 have h:=W.nd.length_le_of_subset fun x hx=>W.sub x hx
 rw [(Z4c w).len]at h
 show((J7 es rows).1.map _).length<=_
 rw [ah];exact h
theorem W0x {S:List (Nat×Nat)}{x n y:Nat}:G2 (K6 S x n) y=if y∈S.map (·.1)then G2 S y else if y=x then some n else none:=by
 have hn:∀{S:List (Nat×Nat)}{y:Nat},y∉S.map (·.1)->S.find? (fun q=>decide (q.1=y))=none:=fun {S y} h=>by
  rw [List.find?_eq_none]
  intro q hq z
  exact h (au.mpr ⟨q,hq,eZ z⟩)
 have hs:∀{S:List (Nat×Nat)}{y:Nat},y∈S.map (·.1)->(S.find? (fun q=>decide (q.1=y))).isSome=true:=fun {S y} h=>by
  rw [List.find?_isSome]
  obtain⟨q,hq,rfl⟩:=au.mp h
  exact⟨q,hq,by simp⟩
 unfold K6 G2
 by_cases hx:x∈S.map (·.1)
 ·rw [aJ hx]
  by_cases hy:y∈S.map (·.1)
  ·rw [aJ hy]
  ·rw [aH hy,hn hy,aH (fun z:y=x=>hy (z ▸ hx))];rfl
 ·rw [aH hx,List.find?_append]
  by_cases hy:y∈S.map (·.1)
  ·rw [aJ hy]
   have:=hs hy
   cases e:S.find? (fun q=>decide (q.1=y))with
   | none=>rw [e]at this;cases this
   | some q=>rfl
  ·rw [aH hy,hn hy]
   by_cases e:y=x
   ·subst e;simp
   ·rw [aH e]
    have:¬ x=y:=fun z=>e z.symm
    simp [this]
theorem Z2o {S:List (Nat×Nat)}{x n y:Nat}:y∈(K6 S x n).map (·.1) ↔ y∈S.map (·.1)\/y=x:=by
 unfold K6;split
 ·rename_i h
  constructor
  ·exact .inl
  ·rintro (h' | rfl) <;> assumption
 ·simp
theorem Y2w:∀(b:List Nat) (n:Nat) (S:List (Nat×Nat)) (x:Nat),G2 (Z3 n b S) x=if x∈S.map (·.1)then G2 S x else if x∈b then some (n+b.idxOf x)else none
 | [],n,S,x=>by
  rw [Z3]
  by_cases h:x∈S.map (·.1)
  ·rw [aJ h]
  ·rw [aH h,aH (by simp)]
   unfold G2
   rw [List.find?_eq_none.mpr]
   ·rfl
   ·intro q hq z
    exact h (au.mpr ⟨q,hq,eZ z⟩)
 | y::b,n,S,x=>by
  rw [Z3,Y2w b,W0x]
  by_cases h:x∈S.map (·.1)
  ·rw [aJ h,aJ (Z2o.mpr (.inl h)),aJ h]
  ·by_cases e:x=y
   ·subst e
    rw [aJ (Z2o.mpr (.inr rfl))]
    simp [h]
   ·have n1:¬ x∈(K6 S y n).map (·.1):=fun z=>by
     rcases Z2o.mp z with z | z
     ·exact h z
     ·exact e z
    have e':(y==x)=false:=by simpa using fun z=>e z.symm
    rw [aH n1,aH h]
    by_cases hb:x∈b
    ·rw [aJ hb,aJ (by simp [hb]),List.idxOf_cons,e']
     simp;omega
    ·rw [aH hb,aH (by simp [hb,e])]
theorem Y2x {b:List Nat}{x:Nat} (h:x∈b):C9 (kR (Z3 0 b [])) (ik x)=some (iD (b.idxOf x)):=by
 have:=Y5i (Z3 0 b []) x
 rw [Y2w,aH (by simp),aJ h,cZ]at this
 cases e:C9 (kR (Z3 0 b [])) (ik x)with
 | none=>rw [e]at this;cases this
 | some d=>rw [e]at this;exact congrArg some this
theorem Y6l (S:List (Nat×Nat)) (x n:Nat):(K6 S x n).length<=S.length+1:=by unfold K6;split <;> simp
theorem forS {E:E7}{o0 o1 o2 o6 o7:Option Sl}:∀(b:List Nat) (n:Nat) (S:List (Nat×Nat)) (o4 o5:Option Sl),S.length+b.length<=1000000 ->
  (∀o4 o5,E.nx [o0,o1,o2,some (.dk (kR (Z3 n b S))),o4,o5,o6,o7]) ->
  C6 (P7 2 (F4 (B2 4) (F4 (B2 5) gNl))) (Q9t 3 (wV 5) (wV 4)) E ((b.zipIdx n).map fun p=>.tup [.int (p.2:Int),iD p.1]) [o0,o1,o2,some (.dk (kR S)),o4,o5,o6,o7]
 | [],n,S,o4,o5,_,h=>h o4 o5
 | x::b,n,S,o4,o5,hz,h=>by
  rw [ax]at hz
  have hl:=Y6l S x n
  have ih:=forS (E:=E) (o0:=o0) (o1:=o1) (o2:=o2) (o6:=o6) (o7:=o7) b (n+1) (K6 S x n) (some (.dat (iD n))) (some (.dat (iD x))) (by omega) h
  rw [cg,aw,C6]
  simp only [Q3y,Q3w,N2,Q3x,W6v,C1]
  refine⟨_,rfl,rfl,_,_,rfl,_,_,rfl,rfl,_,rfl,_,rfl,iD x,ik x,rfl,rfl,_,rfl,_,rfl,szl (by simp [kvm];omega),?_⟩
  rw [Z8u]
  unfold K6 at ih
  by_cases hx:x∈S.map (·.1)
  ·rw [aJ hx]at ih
   rw [aJ (by simpa using hx)]
   exact ih
  ·rw [aH hx]at ih
   rw [aH (by simpa using hx)]
   have e:kR S++[(ik x,iD n)]=kR (S++[(x,n)]):=by simp [kvm]
   show C6 _ _ _ _ [_,_,_,some (.dk (kR S++[(ik x,iD n)])),_,_,_,_]
   rw [e]
   exact ih
theorem K4.ix {ra:R}{es:List Bool} (h:K4 ra es) {i:Nat} (hi:i<es.length) {Q:R->Prop} (q:Q (.st (.bl (es.getD i false)))):C3 ra (.st (.int (i:Int))) Q:=by
 have e:J3 (es.map D.bl) (i:Int)=some (.bl (es.getD i false)):=X1 (by rw [ak,ag,af hi];rfl)
 rcases h with rfl | rfl
 ·rw [Z2x];exact⟨_,e,q⟩
 ·rw [Z2y];exact⟨_,e,q⟩
theorem K4.bor {ra:R}{es:List Bool} (h:K4 ra es):Q5a (N3 ra)=some (N3 ra):=by rcases h with rfl | rfl <;> rfl
theorem Z9p {b:List Nat}{i:Nat} (h:i<b.length) {Q:R->Prop} (q:Q (.st (iD (b.getD i 0)))):C3 (.st (.lst (b.map iD))) (.st (.int (i:Int))) Q:=by
 rw [Z2w]
 exact⟨_,X1 (by rw [ak,ag,af h];rfl),q⟩
noncomputable def Q2s:Q1:=fun rs Pr=>∃ra es rows d,rs=[ra,.st d]/\RwD d rows/\K4 ra es/\Wf es rows/\es.length<=20000/\Pr (.st (mD (K7 es rows)))
theorem W1k:Q1z Q2s:=by rintro rs P Q f ⟨ra,es,rows,d,e,h0,h1,h2,h3,h4⟩;exact⟨ra,es,rows,d,e,h0,h1,h2,h3,f _ h4⟩
theorem W0c {K:Fg9}{a:Addr}{es:List Bool}{rows:List (List Nat)} (w:Wf es rows) {dr:D} (gw:RwD dr rows) {b:List Nat} (hb:b.length=es.length) {x c:Nat} (hx:x∈b) (hc:c∈B7) :
  Q5v (Z0e K) [.cl a (M4 K a (kR (Z3 0 b []))),.dat dr,.dat (.lst (b.map iD))] [.st (iD x),.st (iD c)] (.st (iD (Y9 rows b x c))):=by
 have hi:b.idxOf x<es.length:=by rw [<- hb];exact aW.mpr hx
 obtain⟨r,_,_,h3⟩:=w.row hi
 refine⟨[iD x,iD c],iD (Y9 rows b x c),rfl,rfl,?_⟩
 unfold Z0e
 simp only [F2,C1,Y2h]
 refine⟨_,rfl,_,rfl,a,_,rfl,_,rfl,iD x,ik x,_,rfl,rfl,Y2x hx,?_⟩
 obtain⟨r,h1,h2,h3⟩:=w.row hi
 rw [P0]
 refine gw.ix h1 ⟨_,rfl,?_⟩
 rw [P0,Z2y]
 refine⟨iD (B1 rows (b.idxOf x) c),X1 (by rw [ak,(h3 c (Y2 hc)).1];rfl),?_⟩
 exact Z9p (by rw [hb];exact(h3 c (Y2 hc)).2) rfl
theorem W5p {FC:FCT}{K:Fg9}:∀rs Pr,rs.length=2->Q2s rs Pr->Z5h FC K sp_told_apart (sp_walkedK FC) (Q0p Pr) (G4 Z0p rs):=by
 rintro rs Pr _ ⟨ra,es,rows,dr,rfl,gw,ha,wf,hl,h⟩
 have B:=Z4c wf
 have W:=Q3m wf
 have jI:0<(E4 es rows).length:=by rw [B.len];exact wf.pos
 unfold Z5h
 simp only [K1,L7,E9,Q6l,E3,C1,D8,W6t,W6m,T8,W6n,W6f,W6j,F2,F3,W4,s_tup,N9,U6,Q4a,Q3y,Q3w,N2,Q3x]
 refine⟨_,rfl,_,rfl,?_,ra,es,rows,dr,?_,gw,ha,wf,hl,?_⟩
 ·show(M7 (Q0 (N3 ra))&&true)=true
  rw [ha.rd,ha.arg];rfl
 ·show [nrm (Q0 (N3 ra)),_]=_
  rw [ha.rd,ha.nrm];rfl
 refine⟨_,rfl,_,rfl,?_⟩
 have e3:G0 ((E4 es rows).map iD)=((E4 es rows).zipIdx 0).map fun p=>.tup [.int (p.2:Int),iD p.1]:=by
  unfold G0;rw [List.zipIdx_map,aO];rfl
 rw [e3]
 refine forS (E4 es rows) 0 [] none none (by simp [B.len];omega) fun o4 o5=>?_
 refine⟨_,rfl,fun a=>?_⟩
 refine⟨_,rfl,?_⟩
 rw [P0]
 refine Z9p (i:=0) jI ?_
 refine⟨rfl,_,⟨_,_,rfl,rfl,M4.hid,_,_,rfl,rfl,trivial,_,_,rfl,rfl,trivial,rfl⟩,fun f Φ hF=>?_⟩
 refine⟨_,⟨Nat,inferInstance,iD,ik,Y9 rows (E4 es rows),(E4 es rows).getD 0 0,E4 es rows,f,Φ,_,fun _=>rfl,Q2f,rfl,hF,Q0v jI,by rw [B.len];omega,fun k hk c hc=>⟨Z9q wf B.len hk hc,W0c wf gw B.len hk hc⟩,rfl⟩,?_⟩
 have eW:Q1c (E4 es rows).length (Y9 rows (E4 es rows)) ((E4 es rows).getD 0 0)=J7 es rows:=by unfold J7;rw [B.len]
 rw [eW]
 refine⟨_,rfl,_,rfl,rfl,_,_,rfl,_,_,rfl,rfl,_,rfl,_,rfl,?_,?_⟩
 ·have il:=Z9e wf
  have:(K7 es rows).1.length=(J7 es rows).1.length:=by simp [K7]
  exact sz (by rw [ah];omega)
 show G8 (B2 0) P3 _ _ [none,Q5a (N3 ra),some (.cl a (M4 K a (kR (Z3 0 (E4 es rows) []))))] _
 rw [ha.bor]
 refine Z8 (f:=fun d=>match d with | .int i=>.bl (es.getD ((E4 es rows).idxOf i.toNat) false) | d=>d) (rest:=[some (N3 ra),some (.cl a (M4 K a (kR (Z3 0 (E4 es rows) []))))]) _ _ _ (fun d hd Q' q=>?_) ?_
 ·obtain⟨x,hx,rfl⟩:=au.mp hd
  have ni:=W.sub x hx
  simp only [E9,F2,C1,Y2h]
  refine⟨_,rfl,a,_,rfl,_,rfl,iD x,ik x,_,rfl,rfl,Y2x ni,?_⟩
  rw [ha.rd]
  exact ha.ix (by rw [<- B.len];exact aW.mpr ni) (by simpa using q)
 ·rw [Q8i]
  refine⟨_,rfl,_,rfl,_,rfl,sz (by simp),?_⟩
  have e:((J7 es rows).1.map fun a=>iD a).map (fun d=>match d with | .int i=>D.bl (es.getD ((E4 es rows).idxOf i.toNat) false) | d=>d)=(K7 es rows).1.map .bl:=by
   unfold K7
   rw [aO,aO]
   exact bc fun x _=>by simp
  show Pr (.st (.tup [.tup _,_]))
  rw [e]
  exact h
section
variable {α:Type} [DecidableEq α]
end
noncomputable abbrev pT (p:Nat×Nat):List D:=[iD p.1,iD p.2]
noncomputable abbrev pK (p:Nat×Nat):List A7:=[ik p.1,ik p.2]
theorem Y1c (a b:Nat×Nat) (h:pK a=pK b):a=b:=by
 have h1:=(List.cons.inj h).1
 have h2:=(List.cons.inj (List.cons.inj h).2).1
 exact Prod.ext (Q2f _ _ h1) (Q2f _ _ h2)
noncomputable def K9 (n1 n2:Nat):List (Nat×Nat):=(List.range n1).flatMap fun i=>(List.range n2).map fun j=>(i,j)
theorem Q3p {n1 n2:Nat}{p:Nat×Nat}:p∈K9 n1 n2 ↔ p.1<n1/\p.2<n2:=by
 unfold K9
 simp only [List.mem_flatMap,bp,au]
 constructor
 ·rintro ⟨i,hi,j,hj,rfl⟩;exact⟨hi,hj⟩
 ·rintro ⟨h1,h2⟩;exact⟨p.1,h1,p.2,h2,rfl⟩
theorem Z3c (n1 n2:Nat):(K9 n1 n2).length=n1*n2:=by
 have:∀(l:List Nat),(l.map fun _=>n2).sum=l.length*n2:=by
  intro l;induction l with
  | nil=>simp
  | cons a l ih=>rw [aw,List.sum_cons,ih,ax,Nat.succ_mul];omega
 simp [K9,List.length_flatMap,this]
theorem Q9 {b:List D}{i:Nat}{d:D} (h:b[i]?=some d) {Q:R->Prop} (q:Q (.st d)):C3 (.st (.tup b)) (.st (.int (i:Int))) Q:=by
 rw [Z2y];exact⟨_,X1 h,q⟩
theorem Z1b {es:List Bool}{i:Nat} (h:i<es.length):(es.map D.bl)[i]?=some (.bl (es.getD i false)):=by
 rw [ak,ag,af h];rfl
section
variable {α:Type} [DecidableEq α]
section T
variable {FC:FCT}{f f2:Addr} {Φ Φ2:Hp->Prop}{sp rO:C7}{step:α->Nat->α}{fin:α->Bool}{ts:α->List D}{key:α->List A7}
end T
end
noncomputable abbrev scr (ns:List Int):D:=.lst (ns.map D.int)
noncomputable def Q0t (ns:List Int) (k:Int):Int:=if ns=[]then 7*k else(ns[(k % (ns.length:Int)).toNat]?.getD 0)+6553*(k / (ns.length:Int))
noncomputable def Q6n:C7:=fun rs r=>∃ns k,rs=[.st (scr ns),.st (.int k)]/\ns.length<=63/\r=.st (.int (Q0t ns k))
theorem Y8d (ns:List Int):D.depth (scr ns)<=60:=by
 have:D.depths (ns.map D.int)=0:=by
  induction ns with
  | nil=>simp [D.depths]
  | cons n r ih=>simp [D.depths,D.depth,ih]
 simp [D.depth,this]
theorem Y6v {ns:List Int}{k:Int} (h:ns≠[]):J3 (ns.map D.int) (k % (ns.length:Int))=some (.int (ns[(k % (ns.length:Int)).toNat]?.getD 0)):=by
 have hp:0<(ns.length:Int):=by have:=List.length_pos_iff.mpr h;omega
 have h0:=hZ k (by omega:(ns.length:Int)≠0)
 have h1:=ef k hp
 have bR:(k % (ns.length:Int)).toNat<ns.length:=by omega
 have e:k % (ns.length:Int)=(((k % (ns.length:Int)).toNat:Nat):Int):=by omega
 have q:J3 (ns.map D.int) (((k % (ns.length:Int)).toNat:Nat):Int)=some (.int (ns[(k % (ns.length:Int)).toNat]?.getD 0)):=X1 (by rw [ak,af bR];rfl)
 rw [<- e]at q
 exact q
theorem W5i:∀rs r,rs.length=2->Q6n rs r->Z0d (S9 r) (G4 Z6a rs):=by
 rintro rs r _ ⟨ns,k,rfl,hn,rfl⟩
 have hd:=Y8d ns
 by_cases h:ns=[]
 ·subst h
  simp [Z0d,Q1d,Q0t,hd,D.depth,D.depths]
 ·have hp:0<(ns.length:Int):=by have:=List.length_pos_iff.mpr h;omega
  simp [Z0d,Q1d,Z5,Q0t,hd,h,Y6v h]
  omega
noncomputable def Q0u (ns:List Int) (k m:Int):Int :=
 let c:=((Q0t ns k) % 2147483563*69069+104723*(k+1)) % 2147483563
 let c:=(c*c+c / 3) % 2147483399
 (c*c+c / 7) % 2147483647 / 11 % m
noncomputable def Q4g:C7:=fun rs r=>∃ns k m,rs=[.st (scr ns),.st (.int k),.st (.int m)]/\ns.length<=63/\0<m/\r=.st (.int (Q0u ns k m))
theorem W5k:∀rs r,rs.length=3->Q4g rs r->Z5c Q6n (S9 r) (G4 Z6b rs):=by
 rintro rs r _ ⟨ns,k,m,rfl,hn,hm,rfl⟩
 have key:∀c:Int,0<=c->c<2147483648->Q1d c c:=fun c h1 h2=>.inl ⟨by omega,by omega⟩
 simp [Z5c,Q6n,hm,hn]
 refine⟨_,⟨ns,k,⟨rfl,rfl⟩,hn,rfl⟩,?_⟩
 have e1:=hZ (Q0t ns k) (by decide:(2147483563:Int)≠0)
 have e2:=ef (Q0t ns k) (by decide:(0:Int)<2147483563)
 have b1:=hZ (Q0t ns k % 2147483563*69069+104723*(k+1)) (by decide:(2147483563:Int)≠0)
 have b2:=ef (Q0t ns k % 2147483563*69069+104723*(k+1)) (by decide:(0:Int)<2147483563)
 simp only [Y0s,Y0t,Q2m,U4,P0,W2i,W2c,Q0u]
 generalize (Q0t ns k % 2147483563*69069+104723*(k+1)) % 2147483563=c at b1 b2 ⊢
 have b3:=hZ (c*c+c / 3) (by decide:(2147483399:Int)≠0)
 have b4:=ef (c*c+c / 3) (by decide:(0:Int)<2147483399)
 generalize (c*c+c / 3) % 2147483399=c2 at b3 b4 ⊢
 have cd:∀c:Int,Z5 c 3/\Z5 c 7/\Z5 c 11:=fun c=>⟨⟨by decide,by decide⟩,⟨by decide,by decide⟩,⟨by decide,by decide⟩⟩
 exact⟨by decide,.inl ⟨by omega,by omega⟩,.inl ⟨by decide,by decide⟩,by decide,key _ b1 (by omega),(cd c).1,by decide,key _ b3 (by omega),(cd c2).2.1,by decide,(cd _).2.2,hm,trivial⟩
theorem Y8h (ns:List Int) (k:Int) {m:Int} (h:0<m):0<=Q0u ns k m:=hZ _ (by omega)
theorem Y8g (ns:List Int) (k:Int) {m:Int} (h:0<m):Q0u ns k m<m:=ef _ h
noncomputable def O7 (ns:List Int) (k:Int) (m:Nat):Nat:=(Q0u ns k (m:Int)).toNat
theorem Q5g (ns:List Int) (k:Int) {m:Nat} (h:0<m):Q0u ns k (m:Int)=(O7 ns k m:Int):=by
 have:=Y8h ns k (m:=(m:Int)) (by omega)
 unfold O7;omega
theorem Q3f (ns:List Int) (k:Int) {m:Nat} (h:0<m):O7 ns k m<m:=by
 have:=Y8g ns k (m:=(m:Int)) (by omega)
 have:=Q5g ns k h
 omega
noncomputable abbrev pD (p:Nat×Nat):D:=.tup (pT p)
section
variable {m1 m2:K8}
end
section
variable {α:Type}
theorem Y4c {P:List Nat->Prop} (h0:P []) (hs:∀w c,P w->P (w++[c])) (w:List Nat):P w:=by
 have:∀w:List Nat,P w.reverse:=by
  intro w
  induction w with
  | nil=>exact h0
  | cons c w ih=>rw [List.reverse_cons];exact hs _ _ ih
 have:=this w.reverse
 rwa [List.reverse_reverse]at this
noncomputable def run (step:α->Nat->α) (k:α) (w:List Nat):α:=w.foldl step k
theorem Q8q (step:α->Nat->α) (k:α) (u w:List Nat):run step k (u++w)=run step (run step k u) w:=List.foldl_append
def C0 (w:List Nat):Prop:=∀c∈w,c∈B7
theorem C0.nil:C0 []:=fun c h=>by cases h
theorem C0.app {u w:List Nat} (h1:C0 u) (h2:C0 w):C0 (u++w):=fun c h=>(aS.mp h).elim (h1 c) (h2 c)
theorem C0.snoc {u:List Nat}{c:Nat} (h1:C0 u) (h2:c∈B7):C0 (u++[c]):=h1.app fun d hd=>by rw [aN.mp hd];exact h2
noncomputable def K2 (c:Nat):Str:=match c with
 | 0=>"0"
 | 1=>"1"
 | 2=>"a"
 | _=>"b"
noncomputable def O3 (w:List Nat):Str:=w.foldl (fun t c=>t++K2 c) ""
theorem W8w (w:List Nat) (c:Nat):O3 (w++[c])=O3 w++K2 c:=by unfold O3;rw [List.foldl_append];rfl
end
section
variable {α:Type} [DecidableEq α]
end
noncomputable def stW (m:K8) (w:List Nat):Nat:=run (B1 m.2) 0 w
noncomputable def R8 (m:K8) (w:List Nat):Bool:=m.1.getD (stW m w) false
theorem W8f {m:K8} (wf:WfM m):∀w,C0 w->stW m w<m.1.length:=by
 refine Y4c ?_ ?_
 ·exact fun _=>wf.pos
 ·intro w c ih hw
  have h:=ih fun d hd=>hw d (by simp [hd])
  obtain⟨_,_,_,g⟩:=wf.row h
  unfold stW at h ⊢
  rw [Q8q]
  exact(g c (Y2 (hw c (by simp)))).2
theorem W1t {ks:List D}{d:D} (h:ks.Nodup):(Q7 ks d).Nodup:=by
 unfold Q7;split
 ·exact h
 ·rename_i n
  exact bC.mpr ⟨h,by simp,fun a ha b hb=>by
   rw [aN]at hb;rintro rfl;exact n (hb ▸ ha)⟩
theorem Y0f:∀(ds ks:List D),ks.Nodup->(S8 ks ds).Nodup
 | [],ks,h=>h
 | d::r,ks,h=>Y0f r _ (W1t h)
theorem Y3t:∀(ds ks:List D) (x:D),x∈S8 ks ds->x∈ks\/x∈ds
 | [],ks,x,h=>.inl h
 | d::r,ks,x,h=>by
  rcases Y3t r _ x h with h | h
  ·unfold Q7 at h
   split at h
   ·exact .inl h
   ·rcases aS.mp h with h | h
    ·exact .inl h
    ·exact .inr (by rw [aN.mp h];simp)
  ·exact .inr (by simp [h])
theorem W1y {ds:List D}{j:Nat} (h:j<(S8 [] ds).length):j∈M9 [] ds:=by
 rw [Q3r,au]
 have hm:=bG h
 refine⟨(S8 [] ds)[j],?_,(Y0f ds [] (by simp)).idxOf_getElem j h⟩
 rcases Y3t ds [] _ hm with z | z
 ·cases z
 ·exact z
theorem W1z {ds:List D}{x:Nat} (h:x∈M9 [] ds):x<(S8 [] ds).length:=by
 rw [Q3r,au]at h
 obtain⟨d,hd,rfl⟩:=h
 exact aW.mpr (Q6d ds [] (.inr hd))
theorem Y0l {ds:List D}{x:Nat} (cb:M9 [] ds≠[]) (h:x<=P8 (M9 [] ds)):x∈M9 [] ds :=
 W1y (Nat.lt_of_le_of_lt h (W1z (Q6b cb)))
theorem Y9a {φ:Nat->Nat}{k k':Nat} (hk:k'<=k) (on:∀y,y<k->∃x,x<k'/\φ x=y) {a b:Nat} (ha:a<k') (hb:b<k') (e:φ a=φ b):a=b:=by
 rcases Nat.decEq a b with ne | eq
 ·exfalso
  have sub:List.range k ⊆ ((List.range k').erase b).map φ:=fun y hy=>by
   obtain⟨x,hx,rfl⟩:=on y (bp.mp hy)
   by_cases z:x=b
   ·subst z
    exact au.mpr ⟨a,(List.mem_erase_of_ne ne).mpr (bp.mpr ha),e⟩
   ·exact au.mpr ⟨x,(List.mem_erase_of_ne z).mpr (bp.mpr hx),rfl⟩
  have:=List.nodup_range.length_le_of_subset sub
  rw [ah,List.length_erase_of_mem (bp.mpr hb),cu,cu]at this
  omega
 ·exact eq
noncomputable abbrev blk (b:List Nat) (i:Nat):Nat:=b.getD i 0
theorem Q2e {b:List Nat}{i:Nat} (h:i<b.length):b[i]?=some (blk b i):=by
 rw [af h]
 show _=some (b.getD i 0)
 rw [ag,af h];rfl
theorem W6a {es:List Bool}{rows:List (List Nat)} (w:Wf es rows) {f:Nat->Nat}{i j:Nat}{ri rj:List Nat} (hi:rows[i]?=some ri) (hj:rows[j]?=some rj) (li:i<es.length) (lj:j<es.length) :
  ri.map f=rj.map f ↔ ∀c,c<4->f (B1 rows i c)=f (B1 rows j c):=by
 obtain⟨r,e1,l1,g1⟩:=w.row li
 obtain⟨r',e2,l2,g2⟩:=w.row lj
 rw [hi]at e1;cases e1
 rw [hj]at e2;cases e2
 constructor
 ·intro h c hc
  have:=congrArg (fun l=>l[c]?) h
  simp only [ak,(g1 c hc).1,(g2 c hc).1]at this
  exact aC this
 ·intro h
  refine List.ext_getElem? fun c=>?_
  rw [ak,ak]
  rcases bA c 4 with hc | hc
  ·rw [(g1 c hc).1,(g2 c hc).1]
   exact congrArg some (h c hc)
  ·rw [aM.mpr (by omega),aM.mpr (by omega)]
theorem Z9u {rows:List (List Nat)}{b:List Nat}{i:Nat}{r:List Nat} (hb:i<b.length) (hr:rows[i]?=some r):(Z0 rows b)[i]?=some (Q0g b (blk b i,r)):=by
 unfold Z0
 have e:(b.zip rows)[i]?=some (blk b i,r):=bP.mpr ⟨Q2e hb,hr⟩
 rw [ak,e]
 rfl
theorem Z1t {a b:Nat} (h:iD a=iD b):a=b:=by
 have:(a:Int)=(b:Int):=D.int.inj h
 omega
theorem Z9s:∀{l m:List Nat},l.map iD=m.map iD->l=m
 | [],[],_=>rfl
 | [],_::_,h=>by cases h
 | _::_,[],h=>by cases h
 | a::l,b::m,h=>by
  rw [aw,aw,dJ]at h
  rw [Z1t h.1,Z9s h.2]
theorem W0y {b:List Nat}{p q:Nat×List Nat}:Q0g b p=Q0g b q ↔ p.1=q.1/\p.2.map (blk b)=q.2.map (blk b):=by
 constructor
 ·intro h
  have h:=D.tup.inj h
  rw [dJ,dJ]at h
  exact⟨Z1t h.1,Z9s (D.tup.inj h.2.1)⟩
 ·rintro ⟨h1,h2⟩
  unfold Q0g
  rw [h1]
  show D.tup [_,rD (p.2.map (blk b))]=D.tup [_,rD (q.2.map (blk b))]
  rw [h2]
theorem Q6r {es:List Bool}{rows:List (List Nat)} (w:Wf es rows) {b:List Nat} (hb:G7 es.length b) {i j:Nat} (hi:i<es.length) (hj:j<es.length) :
  blk (J1 rows b) i=blk (J1 rows b) j ↔ blk b i=blk b j/\∀c,c<4->blk b (B1 rows i c)=blk b (B1 rows j c):=by
 obtain⟨r,e1,_,_⟩:=w.row hi
 obtain⟨r',e2,_,_⟩:=w.row hj
 have m1:=Z9u (b:=b) (by rw [hb.len];exact hi) e1
 have m2:=Z9u (b:=b) (by rw [hb.len];exact hj) e2
 have hB:=hb.step w.len
 have q:=Y0m m1 m2
 have g1:(M9 [] (Z0 rows b))[i]?=some (blk (J1 rows b) i):=Q2e (by show i<(J1 rows b).length;rw [hB.len];exact hi)
 have g2:(M9 [] (Z0 rows b))[j]?=some (blk (J1 rows b) j):=Q2e (by show j<(J1 rows b).length;rw [hB.len];exact hj)
 rw [g1,g2,Option.some_inj,W0y,W6a w e1 e2 hi hj]at q
 exact q
theorem Y4f {es:List Bool}{rows:List (List Nat)} (w:Wf es rows) {b:List Nat} (hb:G7 es.length b) (full:∀x,x<=P8 b->x∈b) (hm:¬ P8 b+1<=P8 (J1 rows b)) {i j:Nat} (hi:i<es.length) (hj:j<es.length) (e:blk b i=blk b j) :
  blk (J1 rows b) i=blk (J1 rows b) j:=by
 have hB:=hb.step w.len
 have lb:∀{i:Nat},i<es.length->i<b.length:=fun h=>by rw [hb.len];exact h
 have lB:∀{i:Nat},i<es.length->i<(J1 rows b).length:=fun h=>by rw [hB.len];exact h
 have fφ:∀{i:Nat},i<es.length->blk b ((J1 rows b).idxOf (blk (J1 rows b) i))=blk b i:=fun {i} h=>by
  have j0:blk (J1 rows b) i∈J1 rows b:=Q0v (lB h)
  have bR:=aW.mpr j0
  have qu:(J1 rows b).idxOf (blk (J1 rows b) i)<es.length:=by rw [<- hB.len];exact bR
  have e0:blk (J1 rows b) ((J1 rows b).idxOf (blk (J1 rows b) i))=blk (J1 rows b) i:=by
   have:=Q2e bR
   rw [af bR,List.getElem_idxOf bR]at this
   exact(aC this).symm
  exact((Q6r w hb qu h).mp e0).1
 refine Y9a (φ:=fun x=>blk b ((J1 rows b).idxOf x)) (k:=P8 b+1) (k':=P8 (J1 rows b)+1) (by omega) (fun y hy=>?_) (Nat.lt_succ_of_le (Q8b (Q0v (lB hi)))) (Nat.lt_succ_of_le (Q8b (Q0v (lB hj)))) ?_
 ·obtain⟨i,hi,rfl⟩:=cy.mp (full y (by omega))
  have gu:i<es.length:=by rw [<- hb.len];exact hi
  refine⟨blk (J1 rows b) i,Nat.lt_succ_of_le (Q8b (Q0v (lB gu))),?_⟩
  show blk b _=_
  rw [fφ gu]
  have:=Q2e hi
  rw [af hi]at this
  exact(aC this).symm
 ·show blk b _=blk b _
  rw [fφ hi,fφ hj,e]
noncomputable def J6 (es:List Bool) (rows:List (List Nat)) (i:Nat) (w:List Nat):Bool:=es.getD (run (B1 rows) i w) false
theorem Q6k {es:List Bool}{rows:List (List Nat)} (wf:Wf es rows):∀(w:List Nat) (i:Nat),C0 w->i<es.length->run (B1 rows) i w<es.length
 | [],i,_,h=>h
 | c::w,i,hw,h=>by
  obtain⟨_,_,_,g⟩:=wf.row h
  exact Q6k wf w _ (fun d hd=>hw d (by simp [hd])) (g c (Y2 (hw c (by simp)))).2
structure Q3a (es:List Bool) (rows:List (List Nat)) (b:List Nat):Prop where
 blk:G7 es.length b
 full:∀x,x<=P8 b->x∈b
 fin:∀i j,i<es.length->j<es.length->MC.blk b i=MC.blk b j->es.getD i false=es.getD j false
 apart:∀i j,i<es.length->j<es.length->MC.blk b i≠MC.blk b j->∃w,C0 w/\J6 es rows i w≠J6 es rows j w
theorem Q3a.step {es:List Bool}{rows:List (List Nat)}{b:List Nat} (w:Wf es rows) (P:Q3a es rows b):Q3a es rows (J1 rows b) where
 blk:=P.blk.step w.len
 full:=fun x hx=>Y0l (fun z=>by have h:=(P.blk.step w.len).len;unfold J1 at h;rw [z]at h;have:=w.pos;simp at h;omega) hx
 fin:=fun i j hi hj e=>P.fin i j hi hj ((Q6r w P.blk hi hj).mp e).1
 apart:=fun i j hi hj ne=>by
  by_cases h:MC.blk b i=MC.blk b j
  ·have:¬ ∀c,c<4->MC.blk b (B1 rows i c)=MC.blk b (B1 rows j c):=fun z=>ne ((Q6r w P.blk hi hj).mpr ⟨h,z⟩)
   obtain⟨c,hc⟩:=Classical.not_forall.mp this
   obtain⟨fG,cb⟩:=Classical.not_imp.mp hc
   obtain⟨_,_,_,g1⟩:=w.row hi
   obtain⟨_,_,_,g2⟩:=w.row hj
   obtain⟨u,hu,q⟩:=P.apart _ _ (g1 c fG).2 (g2 c fG).2 cb
   exact⟨c::u,fun d hd=>by rcases aq.mp hd with rfl | hd;exact Q8a fG;exact hu d hd,q⟩
  ·exact P.apart i j hi hj h
structure Told (es:List Bool) (rows:List (List Nat)) (b:List Nat):Prop extends Q3a es rows b where
 cong:∀i j,i<es.length->j<es.length->MC.blk b i=MC.blk b j->∀c,c<4->MC.blk b (B1 rows i c)=MC.blk b (B1 rows j c)
theorem Y4t {es:List Bool}{rows:List (List Nat)} (w:Wf es rows):∀(n:Nat) (b:List Nat),Q3a es rows b->es.length<=n+P8 b+1->Told es rows (Q1a rows n (P8 b+1) (J1 rows b))
 | 0,b,P,h=>by
  have hB:=P.step w
  have ne:J1 rows b≠[]:=fun z=>by have h:=hB.blk.len;rw [z]at h;have:=w.pos;simp at h;omega
  have:=hB.blk.lt _ (Q6b ne)
  refine⟨hB,fun i j hi hj e c hc=>?_⟩
  obtain⟨_,_,_,g1⟩:=w.row hi
  obtain⟨_,_,_,g2⟩:=w.row hj
  exact Y4f w P.blk P.full (by omega) (g1 c hc).2 (g2 c hc).2 (((Q6r w P.blk hi hj).mp e).2 c hc)
 | n+1,b,P,h=>by
  have hB:=P.step w
  unfold Q1a
  split
  ·rename_i hm
   exact Y4t w n _ hB (by omega)
  ·rename_i hm
   refine⟨hB,fun i j hi hj e c hc=>?_⟩
   obtain⟨_,_,_,g1⟩:=w.row hi
   obtain⟨_,_,_,g2⟩:=w.row hj
   exact Y4f w P.blk P.full hm (g1 c hc).2 (g2 c hc).2 (((Q6r w P.blk hi hj).mp e).2 c hc)
theorem Y6k {R:List (Nat×Nat)}{g d:Nat}:∃d',(g,d')∈K6 R g d:=by
 unfold K6;split
 ·rename_i h
  obtain⟨q,hq,rfl⟩:=au.mp h
  exact⟨q.2,hq⟩
 ·exact⟨d,by simp⟩
structure Q6y (on:List (List Nat)) (good:Nat->Nat->Prop) (R:List (Nat×Nat)) (p:Nat):Prop where
 ri:Z6 on.length R
 good:∀q∈R,good q.1 q.2
 sorted:∀(i j:Nat) (q q':Nat×Nat),i<=j->R[i]?=some q->R[j]?=some q'->q.2<=q'.2
 near:∀q∈R,∀q',R[p]?=some q'->q.2<=q'.2+1
 past:∀(i:Nat) (q:Nat×Nat),i<p->R[i]?=some q->∀g∈on.getD q.1 [],∃d,(g,d)∈R/\d<=q.2+1
theorem Z9y {d:Nat}:∀(gs:List Nat) (R:List (Nat×Nat)) (B:Nat),(∀q∈R,q.2<=B)->d<=B->∀g∈gs,∃d',(g,d')∈goR d gs R/\d'<=B
 | [],R,B,_,_,g,h=>by cases h
 | x::gs,R,B,hR,hd,g,h=>by
  have cX:∀q∈K6 R x d,q.2<=B:=fun q hq=>by
   rcases Z2n hq with z | z
   ·exact hR q z
   ·rw [z];exact hd
  rw [goR]
  rcases aq.mp h with rfl | h
  ·obtain⟨d',h'⟩:=Y6k (R:=R) (g:=g) (d:=d)
   exact⟨d',(Z1s d gs _).subset h',cX _ h'⟩
  ·exact Z9y gs _ B cX hd g h
theorem Z8k {d:Nat}:∀(gs:List Nat) (R:List (Nat×Nat)),(∀(i j:Nat) (q q':Nat×Nat),i<=j->R[i]?=some q->R[j]?=some q'->q.2<=q'.2)->(∀q∈R,q.2<=d) ->
  (∀(i j:Nat) (q q':Nat×Nat),i<=j->(goR d gs R)[i]?=some q->(goR d gs R)[j]?=some q'->q.2<=q'.2)
 | [],R,h,_=>h
 | x::gs,R,h,hd=>by
  refine Z8k gs _ ?_ ?_
  ·unfold K6
   split
   ·exact h
   ·intro i j q q' jS hi hj
    rcases bA j R.length with hjl | hjl
    ·rw [aI hjl]at hj
     rw [aI (by omega)]at hi
     exact h i j q q' jS hi hj
    ·have kE:q'=(x,d):=by
      rw [aQ hjl]at hj
      exact(aN.mp (aE hj))
     rcases aS.mp (aE hi)with z | z
     ·rw [kE];exact hd q z
     ·rw [aN.mp z,kE];exact aj _
  ·intro q hq
   rcases Z2n hq with z | z
   ·exact hd q z
   ·rw [z];exact aj _
theorem Y1v {on:List (List Nat)}{good:Nat->Nat->Prop} (jl:∀l∈on,∀g∈l,g<on.length) (hg:∀s d,s<on.length->good s d->∀g∈on.getD s [],good g (d+1)) :
  ∀(n:Nat) (R:List (Nat×Nat)) (p:Nat),Q6y on good R p->on.length<=n+p->p<=R.length->R <+: Q0l on n R p/\Q6y on good (Q0l on n R p) (Q0l on n R p).length
 | 0,R,p,J,h,hp=>by
  have b:=J.ri.bound
  have:p=R.length:=by omega
  subst this
  exact⟨ci _,J⟩
 | n+1,R,p,J,h,hp=>by
  unfold Q0l
  split
  ·rename_i e
   have:=aM.mp e
   have:p=R.length:=by omega
   subst this
   exact⟨ci _,J⟩
  ·rename_i q e
   obtain⟨s,d⟩:=q
   have kin:=aE e
   have hs:s<on.length:=J.ri.lt _ kin
   have hpl:p<R.length:=by obtain⟨z,_⟩:=aL.mp e;exact z
   have eo:on[s]?.getD []=on.getD s []:=(ag ..).symm
   have j8:∀g∈on.getD s [],g<on.length:=fun g g6=>by
    rw [ag,af hs]at g6
    exact jl _ (bG hs) g g6
   have pre:=Z1s (d+1) (on.getD s []) R
   have near:∀q∈R,q.2<=d+1:=fun q hq=>J.near q hq _ e
   have all:∀q∈goR (d+1) (on.getD s []) R,q.2<=d+1:=fun q hq=>by
    rcases Q8c _ _ hq with z | ⟨g,_,rfl⟩
    ·exact near q z
    ·exact aj _
   have at_:∀{i:Nat}{q:Nat×Nat},i<R.length->(goR (d+1) (on.getD s []) R)[i]?=some q->R[i]?=some q:=fun {i q} hi hq=>by
    obtain⟨t,ht⟩:=pre
    rw [<- ht,aI hi]at hq
    exact hq
   have J2:Q6y on good (goR (d+1) (on.getD s []) R) (p+1):=by
    have so:=Z8k (d:=d+1) (on.getD s []) R J.sorted near
    refine⟨J.ri.go j8,fun q hq=>?_,so,fun q hq q' kE=>?_,fun i q hi hq g g6=>?_⟩
    ·rcases Q8c _ _ hq with z | ⟨g,g6,rfl⟩
     ·exact J.good q z
     ·exact hg s d hs (J.good _ kin) g g6
    ·have h1:=all q hq
     have h2:(goR (d+1) (on.getD s []) R)[p]?=some (s,d):=by
      obtain⟨t,ht⟩:=pre
      rw [<- ht,aI hpl];exact e
     have h3:d<=q'.2:=so p (p+1) _ _ (by omega) h2 kE
     omega
    ·have hq:=at_ (by omega) hq
     rcases bA i p with z | z
     ·obtain⟨d',h1,h2⟩:=J.past i q z hq g g6
      exact⟨d',pre.subset h1,h2⟩
     ·have:i=p:=by omega
      subst this
      rw [e]at hq;cases hq
      exact Z9y _ R (d+1) near (aj _) g g6
   have bI:=pre.length_le
   obtain⟨a1,a2⟩:=Y1v jl hg n _ (p+1) J2 (by omega) (by omega)
   rw [eo]
   exact⟨pre.trans a1,a2⟩
theorem Q7x {R:List (Nat×Nat)} (nd:(R.map (·.1)).Nodup) {s d:Nat}:G2 R s=some d ↔ (s,d)∈R:=by
 unfold G2
 constructor
 ·intro h
  cases e:R.find? (fun q=>decide (q.1=s))with
  | none=>rw [e]at h;cases h
  | some q =>
   rw [e]at h
   have h:q.2=d:=aC h
   have h1:=List.mem_of_find?_eq_some e
   have h2:=List.find?_some e
   have h2:q.1=s:=by simpa using h2
   obtain⟨a,b⟩:=q
   simp only at h h2
   subst h h2;exact h1
 ·intro h
  induction R with
  | nil=>cases h
  | cons q R ih =>
   rw [aw,bx]at nd
   rw [b8]
   rcases aq.mp h with rfl | h
   ·simp
   ·have:¬ q.1=s:=fun z=>nd.1 (z ▸ au.mpr ⟨_,h,rfl⟩)
    simp only [this,decide_false]
    exact ih nd.2 h
theorem Y8f {es:List Bool}{rows:List (List Nat)} (wf:Wf es rows) (b:Bool) {good:Nat->Nat->Prop} (g0:∀i,es[i]?=some b->good i 0) (gs:∀s d g c,g<es.length->c<4->B1 rows g c=s->good s d->good g (d+1)) :
  (∀q∈G3 (E2 rows) (E8 es b),good q.1 q.2)/\((G3 (E2 rows) (E8 es b)).map (·.1)).Nodup/\(∀i,es[i]?=some b->(i,0)∈G3 (E2 rows) (E8 es b)) /\
  ∀s d,(s,d)∈G3 (E2 rows) (E8 es b)->∀g c,g<es.length->c<4->B1 rows g c=s->∃d',(g,d')∈G3 (E2 rows) (E8 es b)/\d'<=d+1:=by
 have bR:∀r∈rows,∀g∈r,g<rows.length:=fun r hr g hg=>by rw [wf.len];exact wf.lt r hr g hg
 have qI:(E2 rows).length=es.length:=by rw [Q7f,wf.len]
 have J0:Q6y (E2 rows) good ((E8 es b).map fun x=>(x,0)) 0:=by
  refine⟨⟨by simpa [Function.comp_def]using Z7y,fun q hq=>?_⟩,fun q hq=>?_,fun i j q q' _ hi hj=>?_,fun q hq q' _=>?_,fun i q hi=>absurd hi (Nat.not_lt_zero _)⟩
  ·obtain⟨x,hx,rfl⟩:=au.mp hq
   rw [qI];exact Z7x x hx
  ·obtain⟨x,hx,rfl⟩:=au.mp hq
   exact g0 x (Z2r.mp hx)
  ·obtain⟨x,_,rfl⟩:=au.mp (aE hi);exact ba _
  ·obtain⟨x,_,rfl⟩:=au.mp hq;exact ba _
 obtain⟨pre,J⟩:=Y1v (Z6o bR) (fun s d hs qx g g6=>by
  obtain⟨r,e,hm⟩:=(Z2q bR).mp g6
  obtain⟨c,hc,e2⟩:=cy.mp hm
  have j9:g<es.length:=by rw [<- wf.len];obtain⟨z,_⟩:=aL.mp e;exact z
  obtain⟨r',e',l4,g4⟩:=wf.row j9
  rw [e]at e';cases e'
  have fG:c<4:=by rw [<- l4];exact hc
  have:=(g4 c fG).1
  rw [af hc,e2]at this
  exact gs s d g c j9 fG (aC this).symm qx) (E2 rows).length _ 0 J0 (by omega) (ba _)
 refine⟨J.good,J.ri.nd,fun i hi=>pre.subset (au.mpr ⟨i,Z2r.mpr hi,rfl⟩),fun s d hm g c j9 hc e=>?_⟩
 obtain⟨i,hi,e2⟩:=cy.mp hm
 obtain⟨r,e3,l4,g4⟩:=wf.row j9
 refine J.past i (s,d) hi (by show(G3 (E2 rows) (E8 es b))[i]?=_;rw [af hi,e2]) g ((Z2q bR).mpr ⟨r,e3,?_⟩)
 rw [<- e]
 exact aE (g4 c hc).1
theorem Z7v {es:List Bool}{rows:List (List Nat)} (wf:Wf es rows) (b:Bool):(∀i d,i<es.length->G2 (G3 (E2 rows) (E8 es b)) i=some d->∃w,C0 w/\w.length=d/\J6 es rows i w=b) /\
  ∀(w:List Nat) (i:Nat),C0 w->i<es.length->J6 es rows i w=b->∃d,G2 (G3 (E2 rows) (E8 es b)) i=some d/\d<=w.length:=by
 obtain⟨h1,nd,h2,h3⟩:=Y8f wf b (good:=fun i d=>∃w,C0 w/\w.length=d/\J6 es rows i w=b)
  (fun i hi=>⟨[],C0.nil,rfl,by unfold J6 run;rw [List.foldl_nil,ag,hi];rfl⟩)
  (fun s d g c hg hc e ⟨w,q1,q2,q3⟩=>⟨c::w,fun x hx=>by rcases aq.mp hx with rfl | hx;exact Q8a hc;exact q1 x hx,by rw [ax,q2],by unfold J6 run at q3 ⊢;rw [hV,e];exact q3⟩)
 refine⟨fun i d _ h=>h1 (i,d) ((Q7x nd).mp h),fun w=>?_⟩
 induction w with
 | nil =>
  intro i _ hi h
  refine⟨0,(Q7x nd).mpr (h2 i ?_),aj _⟩
  unfold J6 run at h
  rw [List.foldl_nil,ag,af hi]at h
  rw [af hi]
  exact congrArg some h
 | cons c w ih =>
  intro i hw hi h
  have fG:=Y2 (hw c (by simp))
  obtain⟨_,_,_,g4⟩:=wf.row hi
  obtain⟨d,q1,q2⟩:=ih (B1 rows i c) (fun x hx=>hw x (by simp [hx])) (g4 c fG).2 h
  obtain⟨d',q3,q4⟩:=h3 _ _ ((Q7x nd).mp q1) i c hi fG rfl
  exact⟨d',(Q7x nd).mpr q3,by rw [ax];omega⟩
theorem Z7u {es:List Bool}{rows:List (List Nat)} (wf:Wf es rows) (b:Bool) {i j:Nat} (hi:i<es.length) (hj:j<es.length) (h:G2 (G3 (E2 rows) (E8 es b)) i≠G2 (G3 (E2 rows) (E8 es b)) j):∃w,C0 w/\J6 es rows i w≠J6 es rows j w:=by
 obtain⟨s1,s2⟩:=Z7v wf b
 have key:∀{i j d:Nat},i<es.length->j<es.length->G2 (G3 (E2 rows) (E8 es b)) i=some d->(∀d',G2 (G3 (E2 rows) (E8 es b)) j=some d'->d<d')->∃w,C0 w/\J6 es rows i w≠J6 es rows j w:=fun {i j d} hi hj e bR=>by
  obtain⟨w,q1,q2,q3⟩:=s1 i d hi e
  refine⟨w,q1,fun z=>?_⟩
  rw [q3]at z
  obtain⟨d',q4,q5⟩:=s2 w j q1 hj z.symm
  have:=bR d' q4
  omega
 cases e1:G2 (G3 (E2 rows) (E8 es b)) i with
 | none =>
  cases e2:G2 (G3 (E2 rows) (E8 es b)) j with
  | none=>rw [e1,e2]at h;exact absurd rfl h
  | some d =>
   obtain⟨w,q1,q2⟩:=key hj hi e2 (fun d' z=>by rw [e1]at z;cases z)
   exact⟨w,q1,fun z=>q2 z.symm⟩
 | some d =>
  cases e2:G2 (G3 (E2 rows) (E8 es b)) j with
  | none=>exact key hi hj e1 (fun d' z=>by rw [e2]at z;cases z)
  | some d' =>
   rcases bA d d' with z | z
   ·exact key hi hj e1 (fun x q=>by rw [e2]at q;cases q;exact z)
   ·have:d'<d:=by
     rcases bA d' d with y | y
     ·exact y
     ·rw [e1,e2,show d=d' by omega]at h;exact absurd rfl h
    obtain⟨w,q1,q2⟩:=key hj hi e2 (fun x q=>by rw [e1]at q;cases q;exact this)
    exact⟨w,q1,fun z=>q2 z.symm⟩
theorem Y0q {a b:Option Nat} (h:oD a=oD b):a=b:=by
 cases a <;> cases b
 ·rfl
 ·cases h
 ·cases h
 ·exact congrArg some (Z1t h)
theorem Z9t {es:List Bool}{rows:List (List Nat)}{i:Nat} (hi:i<es.length):(V3 es rows)[i]?=some (.tup [oD (G2 (G3 (E2 rows) (E8 es true)) i),oD (G2 (G3 (E2 rows) (E8 es false)) i)]):=by
 unfold V3
 rw [ak]
 have g:∀b,(V8 es rows b)[i]?=some (G2 (G3 (E2 rows) (E8 es b)) i):=fun b=>by
  unfold V8
  rw [ak,af (by simpa using hi)]
  simp
 have e:((V8 es rows true).zip (V8 es rows false))[i]?=some (G2 (G3 (E2 rows) (E8 es true)) i,G2 (G3 (E2 rows) (E8 es false)) i):=bP.mpr ⟨g true,g false⟩
 rw [e]
 rfl
theorem W3b {es:List Bool}{rows:List (List Nat)} (wf:Wf es rows):Q3a es rows (M9 [] (V3 es rows)):=by
 have hB:G7 es.length (M9 [] (V3 es rows)):=G7.zero
 have oh:∀{i j:Nat},i<es.length->j<es.length->(MC.blk (M9 [] (V3 es rows)) i=MC.blk (M9 [] (V3 es rows)) j ↔ G2 (G3 (E2 rows) (E8 es true)) i=G2 (G3 (E2 rows) (E8 es true)) j/\G2 (G3 (E2 rows) (E8 es false)) i=G2 (G3 (E2 rows) (E8 es false)) j):=fun {i j} hi hj=>by
  have q:=Y0m (Z9t (rows:=rows) hi) (Z9t (rows:=rows) hj)
  rw [Q2e (by rw [hB.len];exact hi),Q2e (by rw [hB.len];exact hj),Option.some_inj]at q
  rw [q]
  constructor
  ·intro h
   have h:=D.tup.inj h
   rw [dJ,dJ]at h
   exact⟨Y0q h.1,Y0q h.2.1⟩
  ·rintro ⟨h1,h2⟩;rw [h1,h2]
 refine⟨hB,fun x hx=>Y0l (fun z=>by have h:=hB.len;rw [z]at h;have:=wf.pos;simp at h;omega) hx,fun i j hi hj e=>?_,fun i j hi hj ne=>?_⟩
 ·obtain⟨e1,_⟩:=(oh hi hj).mp e
  obtain⟨s1,s2⟩:=Z7v wf true
  have key:∀{i j:Nat},i<es.length->j<es.length->G2 (G3 (E2 rows) (E8 es true)) i=G2 (G3 (E2 rows) (E8 es true)) j->es.getD i false=true->es.getD j false=true:=fun {i j} hi hj e h=>by
   obtain⟨d,q1,q2⟩:=s2 [] i C0.nil hi h
   have:d=0:=by simpa using q2
   subst this
   rw [e]at q1
   obtain⟨w,_,q4,q5⟩:=s1 j 0 hj q1
   rw [cQ.mp q4]at q5
   exact q5
  cases h1:es.getD i false <;> cases h2:es.getD j false
  ·rfl
  ·have:=key hj hi e1.symm h2;rw [h1]at this;cases this
  ·have:=key hi hj e1 h1;rw [h2]at this;cases this
  ·rfl
 ·by_cases h:G2 (G3 (E2 rows) (E8 es true)) i=G2 (G3 (E2 rows) (E8 es true)) j
  ·exact Z7u wf false hi hj fun z=>ne ((oh hi hj).mpr ⟨h,z⟩)
  ·exact Z7u wf true hi hj h
theorem Z4d {es:List Bool}{rows:List (List Nat)} (wf:Wf es rows):Told es rows (E4 es rows):=by
 unfold E4 Q1a
 rw [aJ (ba _)]
 exact Y4t wf es.length _ (W3b wf) (by omega)
section
variable {α:Type} [DecidableEq α]
theorem Y2b {rs:List (List Nat)}{i c:Nat}{f:Nat->Nat} (h:rs[i]?=some (B7.map f)) (hc:c∈B7):B1 rs i c=f c:=by
 unfold B1
 rw [ag,ag,h,Option.getD_some,ak]
 have:B7[c]?=some c:=by
  simp only [B7,aq,aP,bu]at hc
  rcases hc with rfl | rfl | rfl | rfl <;> rfl
 rw [this];rfl
theorem Z8i {ks:List α}{x:α} (h:x∈ks):ks[ks.idxOf x]?=some x:=by
 have hl:=aW.mpr h
 rw [af hl,List.getElem_idxOf hl]
end
section
variable {es:List Bool}{rows:List (List Nat)}
theorem Q3c {b:List Nat}{x:Nat} (h:x∈b):blk b (b.idxOf x)=x:=by
 show b.getD _ 0=x
 rw [ag,Z8i h];rfl
theorem Z9g (wf:Wf es rows):∀(w:List Nat) (t s:Nat),C0 w->s<es.length->(J7 es rows).1[t]?=some (blk (E4 es rows) s)->(J7 es rows).1[run (B1 (J7 es rows).2) t w]?=some (blk (E4 es rows) (run (B1 rows) s w))
 | [],t,s,_,_,h=>h
 | c::w,t,s,hw,hs,h=>by
  have W:=Q3m wf
  have T:=Z4d wf
  have hc:=hw c (by simp)
  obtain⟨_,_,_,g⟩:=wf.row hs
  have hm:blk (E4 es rows) s∈E4 es rows:=Q0v (by rw [T.blk.len];exact hs)
  have h0:(E4 es rows).idxOf (blk (E4 es rows) s)<es.length:=by rw [<- T.blk.len];exact aW.mpr hm
  have e1:=Y2b (W.row t _ h) hc
  have e2:Y9 rows (E4 es rows) (blk (E4 es rows) s) c=blk (E4 es rows) (B1 rows s c):=T.cong _ _ h0 hs (Q3c hm) c (Y2 hc)
  refine Z9g wf w _ (B1 rows s c) (fun d hd=>hw d (by simp [hd])) (g c (Y2 hc)).2 ?_
  rw [e1,<- e2]
  exact Z8i (W.mem _ (aE h) c hc)
theorem Z2e (wf:Wf es rows) {w:List Nat} (hw:C0 w) {t s:Nat} (hs:s<es.length) (h:(J7 es rows).1[t]?=some (blk (E4 es rows) s)):J6 (K7 es rows).1 (K7 es rows).2 t w=J6 es rows s w:=by
 have T:=Z4d wf
 have r:=Z9g wf w t s hw hs h
 have hl:=Q6k wf w s hw hs
 have hm:blk (E4 es rows) (run (B1 rows) s w)∈E4 es rows:=Q0v (by rw [T.blk.len];exact hl)
 have h0:(E4 es rows).idxOf (blk (E4 es rows) (run (B1 rows) s w))<es.length:=by rw [<- T.blk.len];exact aW.mpr hm
 unfold J6 K7
 show(List.map _ (J7 es rows).1).getD (run (B1 (J7 es rows).2) t w) false=_
 rw [ag,ak,r]
 exact T.fin _ _ h0 hl (Q3c hm)
theorem W0g (wf:Wf es rows) {w:List Nat} (hw:C0 w):R8 (K7 es rows) w=R8 (es,rows) w:=Z2e wf hw wf.pos (Q3m wf).zero
theorem W0h (wf:Wf es rows) {i j:Nat} (hi:i<(K7 es rows).1.length) (hj:j<(K7 es rows).1.length) (ne:i≠j):∃w,C0 w/\J6 (K7 es rows).1 (K7 es rows).2 i w≠J6 (K7 es rows).1 (K7 es rows).2 j w:=by
 have W:=Q3m wf
 have T:=Z4d wf
 have el:(K7 es rows).1.length=(J7 es rows).1.length:=by simp [K7]
 rw [el]at hi hj
 have gi:=af hi
 have gj:=af hj
 have nk:(J7 es rows).1[i]≠(J7 es rows).1[j]:=fun z=>ne ((List.getElem_inj W.nd).mp z)
 have mi:=W.sub _ (bG hi)
 have mj:=W.sub _ (bG hj)
 have li:(E4 es rows).idxOf (J7 es rows).1[i]<es.length:=by rw [<- T.blk.len];exact aW.mpr mi
 have lj:(E4 es rows).idxOf (J7 es rows).1[j]<es.length:=by rw [<- T.blk.len];exact aW.mpr mj
 obtain⟨w,hw,q⟩:=T.apart _ _ li lj (by rw [Q3c mi,Q3c mj];exact nk)
 refine⟨w,hw,?_⟩
 rw [Z2e wf hw li (by rw [Q3c mi];exact gi),Z2e wf hw lj (by rw [Q3c mj];exact gj)]
 exact q
end
noncomputable def X6 (met:List Nat):List Nat->List Nat->List Nat
 | _,[]=>[]
 | pre,x::r=>if x∈met++pre then X6 met (pre++[x]) r else x::X6 met (pre++[x]) r
noncomputable def M8:List Nat->List (List Nat)->List Nat
 | met,[]=>met
 | met,r::rs=>M8 (met++X6 met [] r) rs
theorem Q8d (r:List Nat):∀(rs:List (List Nat)) (met:List Nat),M8 met (rs++[r])=M8 met rs++X6 (M8 met rs) [] r
 | [],met=>rfl
 | x::rs,met=>Q8d r rs _
section
variable {α:Type} [DecidableEq α]
theorem Q8f (st:Nat->α) (n:Nat):∀(cs:List Nat) (ks:List α) (pre full:List Nat),full=pre++cs.map (fun c=>(F9 st cs ks pre).1.idxOf (st c))->n<=ks.length->(∀x,x<ks.length->x<n\/x∈pre)->(∀x∈pre,x<ks.length) ->
  X6 (List.range n) pre (cs.map fun c=>(F9 st cs ks pre).1.idxOf (st c))=(List.range ((F9 st cs ks pre).1.length-ks.length)).map fun i=>ks.length+i
 | [],ks,pre,full,_,_,_,_=>by simp [F9,X6]
 | c::cs,ks,pre,full,_,hn,h1,h2=>by
  have pp:=Q3v st cs (L4 ks (st c)) (pre++[(L4 ks (st c)).idxOf (st c)])
  have j0:st c∈L4 ks (st c):=Z2p.mpr (.inr rfl)
  have ei:(F9 st (c::cs) ks pre).1.idxOf (st c)=(L4 ks (st c)).idxOf (st c):=by rw [F9];exact Z1u pp j0
  have lH:F9 st (c::cs) ks pre=F9 st cs (L4 ks (st c)) (pre++[(L4 ks (st c)).idxOf (st c)]):=rfl
  have bI:=pp.length_le
  rw [aw,X6,ei]
  simp only [lH]
  by_cases hm:st c∈ks
  ·have ea:L4 ks (st c)=ks:=Z6h hm
   have hl:=aW.mpr hm
   simp only [ea]at bI ⊢
   rw [aJ (by
    rcases h1 _ hl with z | z
    ·exact bf _ (bp.mpr z)
    ·exact av _ z)]
   exact Q8f st n cs ks _ _ rfl hn (fun x hx=>(h1 x hx).imp id fun z=>by simp [z]) fun x hx=>by
    rcases aS.mp hx with z | z
    ·exact h2 x z
    ·rw [aN.mp z];exact hl
  ·have ea:L4 ks (st c)=ks++[st c]:=Z6i hm
   have ex:(ks++[st c]).idxOf (st c)=ks.length:=by
    rw [List.idxOf_append,aH hm];simp
   simp only [ea,ex]at bI ⊢
   rw [aD,bX]at bI
   rw [aH (fun z=>by
    rcases aS.mp z with z | z
    ·have:=bp.mp z;omega
    ·have:=h2 _ z;omega)]
   have ih:=Q8f st n cs (ks++[st c]) (pre++[ks.length]) _ rfl (by simp;omega) (fun x hx=>by
    rw [aD,bX]at hx
    rcases bA x ks.length with z | z
    ·exact(h1 x z).imp id fun z=>by simp [z]
    ·exact .inr (by simp;omega)) fun x hx=>by
    rw [aD,bX]
    rcases aS.mp hx with z | z
    ·have:=h2 x z;omega
    ·rw [aN.mp z];omega
   rw [ih]
   rw [aD,bX]
   obtain⟨m,lQ⟩:∃m,(F9 st cs (ks++[st c]) (pre++[ks.length])).1.length=ks.length+1+m:=⟨_,(Nat.add_sub_cancel' bI).symm⟩
   rw [lQ,show ks.length+1+m-(ks.length+1)=m by omega,show ks.length+1+m-ks.length=m+1 by omega,List.range_succ_eq_map,aw,aO]
   congr 1
   exact bc fun i _=>by simp;omega
theorem range_add (n m:Nat):List.range n++(List.range m).map (fun i=>n+i)=List.range (n+m):=(List.range_add).symm
theorem Y0c {step:α->Nat->α}:∀(n:Nat) (ks:List α) (rs:List (List Nat)),M8 [0] rs=List.range ks.length->M8 [0] (O4 step n ks rs).2=List.range (O4 step n ks rs).1.length
 | 0,ks,rs,h=>h
 | n+1,ks,rs,h=>by
  unfold O4
  split
  ·exact h
  ·rename_i k e
   refine Y0c n _ _ ?_
   have hp:=(Q3v (step k) B7 ks []).length_le
   rw [Q8d,h,Q8p,c6,Q8f (step k) ks.length B7 ks [] _ rfl (aj _) (fun x hx=>.inl hx) (fun x hx=>by cases hx),range_add]
   congr 1
   omega
theorem W1f {step:α->Nat->α}{start:α}{N:Nat}:M8 [0] (Q1c N step start).2=List.range (Q1c N step start).1.length:=Y0c N _ _ rfl
end
theorem W1e (es:List Bool) (rows:List (List Nat)):M8 [0] (K7 es rows).2=List.range (K7 es rows).1.length:=by
 have:=W1f (step:=Y9 rows (E4 es rows)) (start:=(E4 es rows).getD 0 0) (N:=es.length)
 have el:(K7 es rows).1.length=(J7 es rows).1.length:=by simp [K7]
 rw [el]
 exact this
end MC
end
section
namespace PySem
section
variable {prog:Program}{w:World}{A:Around}{E:VS9}{s:Shared}{d it:Addr}{es:Array DictEntry}{ep i:Nat}
def W6 (h:Heap) (d:Addr) (es:Array DictEntry) (ep:Nat):Prop:=∃o,h.get? d=some o/\o.ExactDict/\o.data=.dict es ep
theorem W6.ty (x:W6 s.heap d es ep):s.TypeIs (.ref d) "dict":=let ⟨o,ho,hc,_⟩:=x;⟨o,ho,hc.1⟩
theorem W6.at {h h':Heap} (x:W6 h d es ep) (k:∀o,h.get? d=some o->h'.get? d=some o):W6 h' d es ep:=let ⟨o,ho,r⟩:=x;⟨o,k o ho,r⟩
theorem Y1r {Q:VS9} (hd:(d==sysModules)=false) (x:W6 s.heap d es ep)
  (q:Q (.ref s.heap.objs.size) { s with heap:=s.heap.push { cls:=.type "dict_keyiterator",data:=.fields #[.ref d,.int 0 0,.int es.size 0,.int ep 0] } }):wpAny (model prog w) A (pyIter (.ref d)) Q E s:=by
 obtain⟨o,g,hc,dat⟩:=id x
 refine wpAny_pyIter_slot x.ty F.slot_dict_iter (bE F.slot_dict_iter x.ty F.entry_dict_iter ?_ (F.args_dict_iter_1 _))
 unfold Builtin.«dict.__iter__» Builtin.Dict.dictSlotNone
 refine aa (aa (wpAny_notOrdered_dict x.ty ?_))
 refine(show wpAny _ _ (pure (Value.ref d)) _ _ s from ai ?_)
 refine(show wpAny _ _ (Builtin.Dict.showsAll d>>=_) _ _ s from ?_)
 unfold Builtin.Dict.showsAll
 rw [aH (fun z=>by rw [hd]at z;cases z)]
 refine aa (ai (aa (wpAny_dictEntries g dat (aa (wpAny_dictEpoch g dat ?_)))))
 refine aa (bb (ai ⟨_,rfl,"dict_keyiterator",_,⟨_,aF _ rfl,rfl⟩,cJ.lookup,?_⟩))
 simpa [rawInt]using q
theorem Y1q {e:DictEntry}{Q:Option Value->Shared->Prop} (hi:s.heap.IsKeyIter it d i es.size ep) (x:W6 s.heap d es ep) (he:es[i]?=some e)
  (q:∀h',h'.IsKeyIter it d (i+1) es.size ep->Heap.SameBut it s.heap h'->Q (some e.key) { s with heap:=h' }):wpAny (model prog w) A (pyNext (.ref it)) Q E s:=by
 obtain⟨o,g,oc,od⟩:=id hi
 obtain⟨o2,g2,c2,d2⟩:=id x
 unfold pyNext
 refine aa (wpAny_attempt (bB (name:=Str.ofString "__next__") hi.typeIs cJ (bE cJ hi.typeIs F.entry_dict_keyiterator_next ?_ (F.args_dict_keyiterator_next_1 _))))
 refine aa (ai (aa (aa ?_)))
 first | refine aa (fI hi.typeIs (ai ?_)) | refine aa (wpAny_typeNameOf_keyiter hi.typeIs (ai ?_))
 refine aa (wpAny_fieldsOf g od ?_)
 have own:Builtin.Dict_items.ownsTuple "dict_keyiterator"=false:=by decide
 simp only [own,eh,dw]
 refine(show wpAny _ _ (if (Value.ref d==Value.none)=true then _ else _) _ _ s from ?_)
 rw [aH (show ¬ ((Value.ref d==Value.none)=true)by exact bF)]
 refine aa (ai (aa (wpAny_dictEntries g2 d2 ?_)))
 rw [aH (by simp)]
 refine aa (ai (aa (wpAny_dictEpoch g2 d2 ?_)))
 rw [aH (by simp)]
 refine ai ?_
 obtain⟨lt,ee⟩:=Array.getElem?_eq_some_iff.mp he
 simp only [show ¬ ((i:Int)<0)by omega,dw,bg,eM lt]
 refine aa ?_
 first | refine aa (fI hi.typeIs (ai ?_)) | refine aa (wpAny_typeNameOf_keyiter hi.typeIs (ai ?_))
 refine aa (wpAny_isOneOf_keyiter hi.typeIs ?_)
 refine(show wpAny _ _ (setField (.ref it) 1 (rawInt ((i:Int)+1))>>=_) _ _ s from ?_)
 refine aa (wpAny_setField g od (by simp) ?_)
 have nx:(s.heap.update it (Obj.mapFields (·.setIfInBounds 1 (rawInt ((i:Int)+1))))).IsKeyIter it d (i+1) es.size ep :=
  ⟨_,ck _ g (Obj.isFreed_of_fields (Obj.data_mapFields od _)),(Obj.cls_mapFields ..).trans oc,by rw [Obj.data_mapFields od];simp [rawInt]⟩
 refine aa (bz (aa (wpAny_isOneOf_keyiter (s:={ s with heap:=s.heap.update it (Obj.mapFields (·.setIfInBounds 1 (rawInt ((i:Int)+1)))) }) nx.typeIs ?_)))
 refine(show wpAny _ _ (pure es[i].key) _ _ _ from ?_)
 rw [ee]
 exact ai (ai ⟨_,rfl,ai (q _ nx (bo ..))⟩)
theorem Y1p {Q:Option Value->Shared->Prop} (hh:A.handled=none) (hi:s.heap.IsKeyIter it d es.size es.size ep) (x:W6 s.heap d es ep) (q:∀h',Heap.ExtBut it s.heap h'->Q none { s with heap:=h' }):wpAny (model prog w) A (pyNext (.ref it)) Q E s:=by
 obtain⟨o,g,oc,od⟩:=id hi
 obtain⟨o2,g2,c2,d2⟩:=id x
 unfold pyNext
 refine aa (wpAny_attempt (bB (name:=Str.ofString "__next__") hi.typeIs cJ (bE cJ hi.typeIs F.entry_dict_keyiterator_next ?_ (F.args_dict_keyiterator_next_1 _))))
 refine aa (ai (aa (aa ?_)))
 first | refine aa (fI hi.typeIs (ai ?_)) | refine aa (wpAny_typeNameOf_keyiter hi.typeIs (ai ?_))
 refine aa (wpAny_fieldsOf g od ?_)
 have own:Builtin.Dict_items.ownsTuple "dict_keyiterator"=false:=by decide
 simp only [own,eh,dw]
 refine(show wpAny _ _ (if (Value.ref d==Value.none)=true then _ else _) _ _ s from ?_)
 rw [aH (show ¬ ((Value.ref d==Value.none)=true)by exact bF)]
 refine aa (ai (aa (wpAny_dictEntries g2 d2 ?_)))
 rw [aH (by simp)]
 refine aa (ai (aa (wpAny_dictEpoch g2 d2 ?_)))
 rw [aH (by simp)]
 refine ai ?_
 simp only [show ¬ ((es.size:Int)<0)by omega,dw,bg,Array.getElem?_eq_none (aj es.size)]
 refine aa ?_
 first | refine aa (fI hi.typeIs (ai ?_)) | refine aa (wpAny_typeNameOf_keyiter hi.typeIs (ai ?_))
 refine(show wpAny _ _ (setField (.ref it) 0 .none>>=_) _ _ s from ?_)
 refine aa (wpAny_setField g od (by simp) ?_)
 refine(show wpAny _ _ (newExc (.type "StopIteration") []>>=_) _ _ _ from aa ?_)
 simp only [newExc,newTuple]
 refine aa (bb ?_ (by size_fits))
 refine aa (m:=firstArgMember _ _) (wpAny_of_eq (a:=Value.none) (by first | rfl | (simp only [firstArgMember];rfl)) ?_)
 refine bb ?_ (by size_fits)
 simp only [raiseNew]
 refine aa (wpAny_handled ?_)
 rw [show A.in1.handled=none by exact hh]
 refine aa (ai (wpAny_throw ?_))
 refine aa (wpAny_isInstance (T:="StopIteration") (b:=true) ⟨_,aF _ rfl,rfl⟩ isSubtype_stop ?_)
 exact ai (q _ (((bo ..).extBut.push _).push _))
theorem Walks.raw (hh:A.handled=none) (I d:Addr) (cb:d≠I) (es:Array DictEntry) (ep:Nat) :
  Walks prog w A I [I,d] [I] es.size (fun i v=>∃e,es[i]?=some e/\v=e.key) (fun i h=>h.IsKeyIter I d i es.size ep/\W6 h d es ep) where
 sub:=fun b hb=>by simp at hb;simp [hb]
 frame:=fun _ _ _ st k=>⟨st.1.at fun o e=>k I (by simp) o e,st.2.at fun o e=>k d (by simp) o e⟩
 item:=fun i s Q E lt st q=>Y1q st.1 st.2 (eM lt) fun h' a b=>q _ h' s.toks ⟨_,eM lt,rfl⟩ ⟨a,st.2.at fun o e=>b.extBut d o cb e⟩ fun c o hc e=>b.extBut c o (fun z=>hc (by simp [z])) e
 done:=fun s Q E st q=>Y1p hh st.1 st.2 fun h' a=>q h' s.toks fun c o hc e=>a c o (fun z=>hc (by simp [z])) e
 self:=fun _ _ _ _ st q=>wpAny_pyIter_keyiter st.1 q
theorem W5b (lo:(d==sysModules)=false):PySem.W.KdlSrc prog w "dict" d d es.size (fun i v=>∃e,es[i]?=some e/\v=e.key) (fun h=>W6 h d es ep) where
 type:=fun _ x=>x.ty
 there:=fun _ ⟨_,ho,_⟩=>⟨ay ho,ay ho⟩
 keep:=fun _ _ x k=>x.at fun o e=>k d (.inl rfl) o e
 notList:=by decide
 notTuple:=by decide
 hint:=fun _ _ _ _ x q=>PySem.W.kdl_hint_dict x.ty q
 iter:=fun _ s hh x=>⟨_,_,(fun _ _ q=>Y1r lo x q),Walks.raw hh _ d (aB (let ⟨_,ho,_⟩:=x;ay ho)) es ep,⟨⟨_,aF _ rfl,rfl,rfl⟩,x.at fun o e=>ae _ e⟩⟩
end
end PySem
namespace TK
open PySem PySem.Spec PyProof.Rows L2
noncomputable abbrev ktD (ks:List A7):D:=.tup (ks.map kyD)
noncomputable def Q1n:List R->(R->Prop)->Prop
 | [.dt kvs],Q=>Q (.nw (kvs.map fun p=>ktD p.1))
 | _,_=>False
theorem Z9l {rs:List R}{Q:R->Prop} (h:Q1n rs Q):∃kvs,rs=[.dt kvs]/\Q (.nw (kvs.map fun p=>ktD p.1)):=by
 unfold Q1n at h
 split at h
 ·exact⟨_,rfl,h⟩
 ·exact h.elim
theorem W0t:Q0q Q1n:=fun x P Q g h=>by
 obtain⟨kvs,rfl,h⟩:=Z9l h
 exact g _ h
theorem Q7c {K:Fg9}{H:Hp}:∀(ks:List A7),AllS K H (ks.map kyD) (ks.map kV)
 | []=>AllS.nil
 | .inl i::r=>AllS.cons A1.s_int (Q7c r)
 | .inr x::r=>AllS.cons A1.s_str (Q7c r)
theorem B5.keysT {K:Fg9}{H:Hp}:∀{kvs:List (List A7×D)}{ps:List (List A7×V)},B5 K H kvs ps->(kvs.map fun p=>ktD p.1)=ps.map fun p=>ktD p.1
 | [],ps,h=>by unfold B5 at h;subst h;rfl
 | p::kvs,ps,h=>by
  unfold B5 at h
  obtain⟨v,r,rfl,iv,h⟩:=h
  rw [aw,aw,B5.keysT h]
theorem Z1n {P:Program}{w:World}{H:Hp}{h:Heap}{a:Addr}{ps:List (List A7×V)} (ok:F5 P w H h a (.dT ps)):(a==sysModules)=false/\ps.length<=sizeLine /\
  ∃es ep,W6 h a es ep/\es.size=ps.length/\∀(i:Nat) (x:DictEntry),es[i]?=some x->∃b p,ps[i]?=some p/\x.key=.ref b/\H b=some (.tup (p.1.map kV)):=by
 obtain⟨z,hd,xs,rel,o,es,ep,ho,hc,qE,he,_⟩:=ok
 have len:ps.length=xs.length:=by
  have go:∀{ps:List (List A7×V)}{xs:List (List A7×Addr×Value)}{R:List A7×V->List A7×Addr×Value->Prop},Paired R ps xs->ps.length=xs.length:=by
   intro ps xs R r
   induction r with
   | nil=>rfl
   | cons _ _ ih=>simp [ih]
  exact go rel
 refine⟨hd,z,es,ep,⟨o,ho,hc,qE⟩,by rw [<- bN,he,ah,len],fun i x hx=>?_⟩
 have iT:es.toList[i]?=some x:=by rw [Array.getElem?_toList];exact hx
 rw [he,ak]at iT
 cases q:xs[i]? with
 | none=>rw [q]at iT;cases iT
 | some y =>
  rw [q]at iT
  have iT:entryOfKey (tupleKind (J5 P w)) y=x:=aC iT
  have key:∀{ps:List (List A7×V)}{xs:List (List A7×Addr×Value)}{i:Nat}{y:List A7×Addr×Value},Paired (fun(p:List A7×V) (q:List A7×Addr×Value)=>p.1=q.1/\H q.2.1=some (.tup (p.1.map kV))/\B9 p.2 q.2.2) ps xs->xs[i]?=some y->∃p,ps[i]?=some p/\H y.2.1=some (.tup (p.1.map kV)):=by
   intro ps xs i y r
   induction r generalizing i with
   | nil=>intro q;cases q
   | cons h _ ih =>
    intro q
    cases i with
    | zero=>cases q;exact⟨_,rfl,h.2.1⟩
    | succ i=>exact ih (by simpa using q)
  obtain⟨p,hp,hb⟩:=key rel q
  exact⟨y.2.1,p,hp,by rw [<- iT];rfl,hb⟩
section
variable {X:Cx}
theorem Y7i (hc:X.calm=true):Q0o X (.type "list") Q1n:=by
 intro ac s σ H xs us Q I rv ⟨rs,cw,h⟩
 obtain⟨kvs,rfl,h⟩:=Z9l h
 obtain⟨v,rfl,ir⟩:=V1 cw
 obtain⟨a,ps,rfl,e,kv⟩:=ir
 obtain⟨u,rfl,ru⟩:=T9 rv
 cases ru
 obtain⟨hd,z,es,ep,raw,rf,keys⟩:=Z1n (I.hok a _ e)
 refine PySem.W.kdl_call (W5b hd) (I.ok.hd hc) raw (by omega) fun h' tk acc c' k e2 it=>?_
 have hn:H s.heap.objs.size=none:=I.hok.fresh (aj _)
 obtain⟨vs,vl,al⟩:∃vs,B4 vs acc.toList/\AllS X.K H (ps.map fun p=>ktD p.1) vs:=by
  have go:∀(ps:List (List A7×V)) (us:List Value),us.length=ps.length->(∀(j:Nat) (v:Value),us[j]?=some v->∃b p,ps[j]?=some p/\v=.ref b/\H b=some (.tup (p.1.map kV)))->∃vs,B4 vs us/\AllS X.K H (ps.map fun p=>ktD p.1) vs:=by
   intro ps
   induction ps with
   | nil=>intro us l _;cases us with
    | nil=>exact⟨[],.nil,AllS.nil⟩
    | cons _ _=>cases l
   | cons p ps ih =>
    intro us l f
    cases us with
    | nil=>cases l
    | cons u us =>
     obtain⟨b,p',e1,rfl,hb⟩:=f 0 _ rfl
     cases e1
     obtain⟨vs,h1,h2⟩:=ih us (by simpa using l) fun j v e=>f (j+1) v (by simpa using e)
     exact⟨.ref b::vs,.cons rfl h1,AllS.cons (A1.s_tup hb (Q7c _)) h2⟩
  refine go ps acc.toList (by rw [bN,it.1,rf]) fun j v ej=>?_
  obtain⟨x,hx,rfl⟩:=it.2 j v (by rw [<- Array.getElem?_toList];exact ej)
  obtain⟨b,p,hp,hk,hb⟩:=keys j x hx
  exact⟨b,p,hp,hk,hb⟩
 refine⟨.ref s.heap.objs.size,_,I.laid (t':=tk) (o:=.lst vs) k (aj _) ⟨by rw [<- al.length,ah];exact z,acc.toList,c',vl,by simpa using e2⟩,rfl,h _ _ (C8 hn _) ⟨_,_,rfl,hn,upd_same,?_⟩⟩
 rw [B5.keysT kv]
 exact al.mono (Kp.of (C8 hn _)) _ _
end
end TK
end
section
namespace TK
open PySem PySem.Spec PyProof.Rows L2
noncomputable def FzT (K:Fg9) (a:Addr) (kvs:List (List A7×D)):Hp->Prop:=fun H=>∃o ps,H a=some (.frz o (.dT ps))/\B5 K H kvs ps
theorem FzT.mono {K:Fg9}{a:Addr}{kvs:List (List A7×D)}:Q1y (FzT K a kvs):=fun H H' k ⟨o,ps,h,q⟩=>⟨o,ps,k.frz _ _ _ h,q.mono k _ _⟩
section
variable {X:Cx}{ac:Pn9} {σ:St}{H H0:Hp}{s:Shared}{a:Addr}
theorem Y9c {ps:List (List A7×V)} (I:A0 X ac σ H s) (h:H a=some (.dT ps)):∃o,A0 X ac σ (upd H a (.frz o (.dT ps))) s:=by
 have ok:=I.hok a _ h
 obtain⟨z,hd,xs,rel,o,es,ep,ho,r⟩:=id (show F5 X.prog X.w H s.heap a (.dT ps)from ok)
 refine⟨o,I.write (t':=s.toks) (h':=s.heap) (e:=a) (o:=.frz o (.dT ps)) (by rw [h];trivial) (.inl rfl) (fun b u _ k=>k) ⟨_,ho⟩ ⟨ho,z,hd,xs,L2.Paired.mapP rel fun p q ⟨h1,h2,h3⟩=>⟨h1,?_,h3⟩,o,es,ep,ho,r⟩⟩
 rw [A9 (X5 h2 h (by intro z;cases z))];exact h2
theorem B6.freezeT {K:Fg9} {τ:A6}{i:Nat}{kvs:List (List A7×D)}{o:Obj}{ps:List (List A7×V)} (hR:B6 K H0 τ σ H) (e1:τ[i]?=some (some (.dt kvs))) (hv:σ[i]?=some (some (.ref a))) (h0:H0 a=none) (sq:H a=some (.dT ps)) (kv:B5 K H kvs ps) :
  B6 K H0 (τ.set i (some (.cl a (FzT K a kvs)))) σ (upd H a (.frz o (.dT ps))) :=
 hR.mutG e1 rfl hv h0 sq (by intro xs z;cases z) (by intro o u z;cases z) ⟨rfl,⟨o,ps,upd_same,kv.mono (Kp.updM sq (by intro xs z;cases z) (by intro o u z;cases z) _) _ _⟩,FzT.mono⟩
end
section
variable {X:Cx}{H0:Hp}{st:Stmt}{w:WS}
def Z4j (K:Fg9) (i:Nat) (w:WS):WS:=fun E τ=>w { E with nx:=fun τ'=>∃kvs,τ'[i]?=some (some (.dt kvs))/\∀a,E.nx (τ'.set i (some (.cl a (FzT K a kvs)))) } τ
theorem DS.fzT (i:Nat) (h:DS X H0 st w):DS X H0 st (Z4j X.K i w) where
 mono:=fun τ E F le q=>h.mono τ { E with nx:=fun τ'=>∃kvs,τ'[i]?=some (some (.dt kvs))/\∀a,E.nx (τ'.set i (some (.cl a (FzT X.K a kvs)))) } { F with nx:=fun τ'=>∃kvs,τ'[i]?=some (some (.dt kvs))/\∀a,F.nx (τ'.set i (some (.cl a (FzT X.K a kvs)))) } ⟨fun τ' ⟨kvs,e,q⟩=>⟨kvs,e,fun a=>le.nx _ (q a)⟩,le.rt,le.bk,le.ct⟩ q
 ps:=L6 (Q3t h.ps) fun D σ H ⟨τ,hR,q⟩=>⟨τ,hR,h.mono τ { K0 X.K H0 H D with nx:=fun τ'=>∃kvs,τ'[i]?=some (some (.dt kvs))/\∀a,(K0 X.K H0 H D).nx (τ'.set i (some (.cl a (FzT X.K a kvs)))) } _ ⟨fun τ' ⟨kvs,e,q⟩ σ' H' kp cG ac s I=>by
  obtain⟨a,ps,hv,h0,sq,kv⟩:=cG.dtAt e
  obtain⟨o,I2⟩:=Y9c I sq
  exact⟨_,I2,q a σ' _ (kp.trans (Kp.updM sq (by intro xs z;cases z) (by intro o u z;cases z) _)) (cG.freezeT e hv h0 sq kv)⟩,fun _ h=>h,fun _ h=>h,fun _ h=>h⟩ q⟩
end
section
variable {X:Cx}{H0:Hp}{a b c e o tg:Expr}{pos bj p2 apos bi:Pos}{wa wb wi we wv:WE}{x:Str}{i:Nat}
theorem B6.ftAt {K:Fg9}{H:Hp} {τ:A6} {σ:St}{a:Addr}{kvs:List (List A7×D)} (hR:B6 K H0 τ σ H) (e1:τ[i]?=some (some (.cl a (FzT K a kvs)))):σ[i]?=some (some (.ref a))/\∃o ps,H a=some (.frz o (.dT ps))/\B5 K H kvs ps:=by
 obtain⟨v,hv,rfl,q,_⟩:=hR.here i _ e1
 exact⟨hv,q⟩
theorem Z9a {K:Fg9}{H:Hp}{ds:List D}{ks:List A7}{v:V} (e:U2 ds=some ks) (h:A1 K H (.tup ds) v):∃b,v=.ref b/\H b=some (.tup (ks.map kV)):=by
 unfold A1 at h
 obtain⟨b,xs,rfl,sb,al⟩:=h
 rw [Q5t e al]at sb
 exact⟨b,rfl,sb⟩
def Z0b (K:Fg9) (i:Nat) (we:WE):WE:=fun τ Q=>∃a kvs,τ[i]?=some (some (.cl a (FzT K a kvs)))/\we τ fun r=>∃ds ks d,r=.st (.tup ds)/\U2 ds=some ks/\C9 kvs ks=some d/\Q (.st d)
theorem DE.tget (hu:X.A.units+1<cLine) (ho:PE X o (J8 i)) (he:DE X H0 e we) (hs:Q2a e):DE X H0 (.Subscript o e pos) (Z0b X.K i we) where
 mono:=fun τ P Q f ⟨a,kvs,e1,h⟩=>⟨a,kvs,e1,he.mono τ _ _ (fun r ⟨ds,ks,d,a1,a2,a3,a4⟩=>⟨ds,ks,d,a1,a2,a3,f _ a4⟩) h⟩
 pe:=L5 (Q6i hu ho he.pe hs) fun σ H Q ⟨τ,hR,a,kvs,e1,h⟩=>by
  obtain⟨hv,ob,ps,sq,kv⟩:=hR.ftAt e1
  refine⟨_,hv,τ,hR,he.mono τ _ _ (fun r ⟨ds,ks,d,a1,a2,a3,a4⟩ v H1 s1 ir=>?_) h⟩
  subst a1
  obtain⟨b,rfl,sb⟩:=Z9a a2 ir
  rcases B5.val (k:=ks) (kv.mono (Kp.of s1) _ _)with⟨n1,_⟩ | ⟨d',v',n1,n2,n3⟩
  ·rw [a3]at n1;cases n1
  ·rw [a3]at n1;cases n1
   exact⟨a,v',rfl,.inr ⟨ps,ks,b,.inr ⟨ob,s1 _ _ sq⟩,rfl,sb,n2.symm⟩,a4 _ _ s1 n3⟩
def Q9n (i:Nat) (we:WE):WE:=fun τ Q=>∃kvs,τ[i]?=some (some (.bd kvs))/\we τ fun r=>∃ds ks d,r=.st (.tup ds)/\U2 ds=some ks/\C9 kvs ks=some d/\Q (.st d)
theorem DE.bget (hu:X.A.units+1<cLine) (ho:PE X o (J8 i)) (he:DE X H0 e we) (hs:Q2a e):DE X H0 (.Subscript o e pos) (Q9n i we) where
 mono:=fun τ P Q f ⟨kvs,e1,h⟩=>⟨kvs,e1,he.mono τ _ _ (fun r ⟨ds,ks,d,a1,a2,a3,a4⟩=>⟨ds,ks,d,a1,a2,a3,f _ a4⟩) h⟩
 pe:=L5 (Q6i hu ho he.pe hs) fun σ H Q ⟨τ,hR,kvs,e1,h⟩=>by
  obtain⟨v,hv,a,ps,rfl,sq,kv⟩:=hR.here i _ e1
  have sq:=hR.same _ _ sq
  refine⟨_,hv,τ,hR,he.mono τ _ _ (fun r ⟨ds,ks,d,a1,a2,a3,a4⟩ v H1 s1 ir=>?_) h⟩
  subst a1
  obtain⟨b,rfl,sb⟩:=Z9a a2 ir
  rcases B5.val (k:=ks) (kv.mono (Kp.of s1) _ _)with⟨n1,_⟩ | ⟨d',v',n1,n2,n3⟩
  ·rw [a3]at n1;cases n1
  ·rw [a3]at n1;cases n1
   exact⟨a,v',rfl,.inr ⟨ps,ks,b,.inl (s1 _ _ sq),rfl,sb,n2.symm⟩,a4 _ _ s1 n3⟩
end
noncomputable def Idt (d:Addr) (o:Obj) (ps:List (List A7×V)):It:=⟨fun i H=>i<ps.length/\H d=some (.frz o (.dT ps)),
 fun i H x H'=>H'=H/\∃b p,x=.ref b/\ps[i]?=some p/\H b=some (.tup (p.1.map kV)),fun i H=>i=ps.length/\H d=some (.frz o (.dT ps))⟩
theorem Y1s {P:Program}{w:World}{H:Hp}{h:Heap}{d:Addr}{o:Obj}{ps:List (List A7×V)}{es:Array DictEntry}{ep:Nat} (ok:F1 P w H h) (e:H d=some (.frz o (.dT ps))) (ho:o.data=.dict es ep):(d==sysModules)=false/\W6 h d es ep/\es.size=ps.length /\
  ∀(i:Nat) (x:DictEntry),es[i]?=some x->∃b p,ps[i]?=some p/\x.key=.ref b/\H b=some (.tup (p.1.map kV)):=by
 obtain⟨h1,h2⟩:=(show F5 P w H h d (.frz o (.dT ps))from ok d _ e)
 obtain⟨hd,_,cH,kK,⟨o',h3,h4,h5⟩,h6,h7⟩:=Z1n h2
 rw [h1]at h3;cases h3
 rw [ho]at h5;cases h5
 exact⟨hd,⟨o,h1,h4,ho⟩,h6,h7⟩
theorem W9d {P:Program}{w:World}{K:Fg9}{tg:Expr}{d it:Addr}{o:Obj}{ps:List (List A7×V)}{es:Array DictEntry}{ep:Nat} (cb:d≠it) (ho:o.data=.dict es ep) (hl:es.size=ps.length):Z7 P w K tg (Idt d o ps) [it] it (fun i h=>h.IsKeyIter it d i es.size ep) where
 mem:=by simp
 obj:=fun i h st b hb=>by
  have e:b=it:=by simpa using hb
  subst e
  obtain⟨o,e,c,d⟩:=st
  exact⟨o,e,fun v z=>by rw [d]at z;cases z⟩
 keep:=fun i h h' st k=>st.at fun o e=>k it (by simp) o e
 item:=by
  intro X hP hw hK hc i ac s σ H E I hf st hg
  subst hP hw hK
  obtain⟨lt,hq⟩:=hg
  obtain⟨_,raw,_,keys⟩:=Y1s I.hok hq ho
  obtain⟨f0,f1,f2,f3,f4,f5⟩:=hf it (by simp)
  have lt':i<es.size:=by omega
  have he:es[i]?=some es[i]:=eM lt'
  obtain⟨b,p,hp,hk,hb⟩:=keys i _ he
  refine Y1q st raw he fun h' eK sb=>?_
  have I1:A0 X ac σ H { s with heap:=h' }:=I.turned (t':=s.toks) (fun b o hb e=>(sb.2 b hb).trans e) f0 f1 f3 f4 f5
  obtain⟨o',e,c,dd⟩:=id eK
  rw [hk]
  exact⟨_,rfl,Q5i (s:={ s with heap:=h' }) e c dd (by decide) ⟨.ref b,H,I1,rfl,⟨rfl,b,p,rfl,hp,hb⟩,eK,fun b hb=>(hf b hb).1⟩⟩
 done:=by
  intro X hP hw hK hc i ac s σ H E I hf st hg
  subst hP hw hK
  obtain⟨rfl,hq⟩:=hg
  obtain⟨_,raw,_,keys⟩:=Y1s I.hok hq ho
  obtain⟨f0,f1,f2,f3,f4,f5⟩:=hf it (by simp)
  rw [<- hl]at st
  exact Y1p (I.ok.hd hc) st raw fun h' eb=>⟨rfl,I.turned (t':=s.toks) (fun b o hb e=>eb b o hb e) f0 f1 f3 f4 f5⟩
 self:=fun _ _ _ _ _ st h=>wpAny_pyIter_keyiter st h
section
variable {X:Cx}{H0:Hp}{e tg:Expr}{i:Nat}
noncomputable def Z2a (K:Fg9) (i:Nat):M6:=fun τ Q=>∃a kvs,τ[i]?=some (some (.cl a (FzT K a kvs)))/\Q (kvs.map fun p=>ktD p.1)
theorem D7.fdT (he:PE X e (J8 i)):D7 X H0 tg e (Z2a X.K i) where
 mono:=fun τ P Q f ⟨a,kvs,e1,q⟩=>⟨a,kvs,e1,f _ q⟩
 pi:=by
  intro ac s σ H R I ⟨τ,hR,a,kvs,e1,q⟩
  obtain⟨hv,o,ps,sq,kv⟩:=hR.ftAt e1
  refine B3 (he ac s σ H (fun v H1=>v=.ref a/\H1=H) I ⟨_,hv,rfl,rfl⟩) fun u s1 br=>?_
  obtain⟨v,H1,I1,rv,ev,eH⟩:=br
  subst ev eH
  cases (show u=Value.ref a from rv)
  obtain⟨h1,h2⟩:=(show F5 X.prog X.w H1 s1.heap a (.frz o (.dT ps))from I1.hok a _ sq)
  obtain⟨hd,_,es,ep,⟨o',h3,h4,h5⟩,h6,h7⟩:=Z1n h2
  rw [h1]at h3;cases h3
  have lt:a<s1.heap.objs.size:=ay h1
  refine Y1r hd ⟨o,h1,h4,h5⟩ ⟨s1.heap.objs.size,[s1.heap.objs.size],_,_,H1,rfl,I1.kept (t':=s1.toks) fun c o x=>ae _ x,W9d (aB lt) h5 h6,⟨_,aF _ rfl,rfl,rfl⟩,fun b hb=>?_,q _ _ (A3.refl _) ⟨fun H' s i hi=>⟨by rw [ah,B5.length kv]at hi;exact hi,s _ _ sq⟩,fun H' s i x cW d hd ⟨e,b,p,e2,e3,e4⟩=>?_,fun H' s=>⟨by rw [ah,B5.length kv],s _ _ sq⟩⟩⟩
  ·have e:b=s1.heap.objs.size:=by simpa using hb
   subst e
   exact I1.fpOk (aj _) (I1.hok.fresh (aj _))
  ·subst e e2
   rw [B5.keysT kv,ak,e3]at hd
   cases hd
   exact⟨A3.refl _,A1.s_tup e4 (Q7c p.1)⟩
end
section
variable {X:Cx}{H0:Hp}{a:Expr}{p p2 pos dj:Pos}{wr:WA}
def Q9x (wr:WA):WE:=fun τ Q=>wr τ fun rs=>∃j:Int,rs=[.st (.int j)]/\0<=j/\j<=2 ^ 24/\Q (.nw (G9 0 j.toNat))
theorem DE.listRng (hc:X.calm=true) (hg:Gl X "list") (hm:X.mg "list"=none) (qw:Gl X "range") (qi:X.mg "range"=none) (ha:DA X H0 [a] wr)
  (hs:starEach [.Call (.Name "range" p2) [a] [] dj] X.env=(false,eval (.Call (.Name "range" p2) [a] [] dj) X.env)::starEach [] X.env:=by rfl)
  (he:starEach [a] X.env=(false,eval a X.env)::starEach [] X.env:=by rfl) (hpl:(backTo dj (starEach [] X.env)).any (·.1)=false:=by rfl) :
  DE X H0 (.Call (.Name "list" p) [.Call (.Name "range" p2) [a] [] dj] [] pos) (Q9x wr) where
 mono:=fun τ P Q f h=>ha.mono τ _ _ (fun r ⟨j,e1,h1,h2,q⟩=>⟨j,e1,h1,h2,f _ q⟩) h
 pe:=by
  intro ac s σ H Q I ⟨τ,hR,h⟩
  refine bn (Q0f I hg hm (u:=.type "list") rfl ?_ (by decide) (by decide))
  refine bh ?_ hs
  rw [hs]
  change wpAny (model X.prog X.w) X.A (spliced ((false,eval (.Call (.Name "range" p2) [a] [] dj) X.env)::backTo pos (starEach [] X.env))) _ _ s
  refine bT ?_
  refine bn (Q0f I qw qi (u:=.type "range") rfl ?_ (by decide) (by decide))
  refine bh (B3 (ha.pa dj ac s σ H (fun vs H1=>A3 H H1/\∃j:Int,vs=[.int j]/\0<=j/\j<=2 ^ 24/\∀v H',A3 H H'->E1 X.K H H' (.nw (G9 0 j.toNat)) v->Q v H') I
   ⟨τ,hR,ha.mono τ _ _ (fun rs ⟨j,e1,h1,h2,q⟩ vs H1 s1 cw=>⟨s1,by
    subst e1
    obtain⟨v,rfl,ir⟩:=V1 cw
    cases (show v=.int j from ir)
    exact⟨j,rfl,h1,h2,q⟩⟩) h⟩) fun us s1 br=>?_) he hpl
  obtain⟨vs,H1,I1,rv,sm,j,e1,h1,h2,q⟩:=br
  subst e1
  obtain⟨u,rfl,ru⟩:=T9 rv
  obtain⟨t,rfl⟩:=ru
  refine call_range_1 (cR ?_)
  have sz:Builtin.Range.rangeSize 0 j 1=(j.toNat:Int):=by rw [rangeSize_one];split <;> omega
  refine call_list_range (I.ok.hd hc) (IsRange.new ..) (small_one (by omega) (by omega) (by omega) (by omega)) sz (by omega) fun h' tk acc c' kp e it=>?_
  obtain⟨pI,ic⟩:=it
  dsimp only at e kp ⊢
  generalize hp:(s1.heap.push { cls:=.type "range",data:=.fields #[.int 0 s1.toks,.int j t,.int 1 (s1.toks+1)] })=g at e kp ⊢
  have dW:s1.heap.objs.size<=g.objs.size:=by rw [<- hp,bv];exact cx _
  have pE:∀b o,s1.heap.get? b=some o->h'.get? b=some o:=fun b o x=>kp b o (by rw [<- hp];exact ae _ x)
  have go:∀(n:Nat) (us:List Value),us.length=n->(∀(k:Nat) (v:Value),us[k]?=some v->∃t,v=.int (0+(k:Int)*1) t)->B4 ((List.range n).map fun(i:Nat)=>V.int (0+(i:Int))) us:=by
   intro n
   induction n with
   | zero=>intro us l _;cases us with
    | nil=>exact .nil
    | cons _ _=>cases l
   | succ n ih =>
    intro us l f
    obtain⟨ms,x,rfl⟩:∃ms x,us=ms++[x]:=by
     have ne:us≠[]:=fun z=>by subst z;cases l
     exact⟨_,_,(List.dropLast_concat_getLast ne).symm⟩
    have l2:ms.length=n:=by simpa using l
    have r1:=ih ms l2 fun k v hk=>f k v (by rw [aI (aL.mp hk).1];exact hk)
    obtain⟨t,ht⟩:=f n x (by rw [<- l2];simp)
    rw [List.range_succ,b7,ht]
    exact r1.append (.cons ⟨t,by simp⟩ .nil)
  have rel:=go j.toNat acc.toList (by rw [bN];exact pI) fun k v hv=>ic k v (by simpa using hv)
  have hn:=I1.hok.fresh dW
  have al:∀(H:Hp) (l:List Nat),AllS X.K H (l.map fun(i:Nat)=>D.int (0+(i:Int))) (l.map fun(i:Nat)=>V.int (0+(i:Int))):=fun H l=>by
   induction l with
   | nil=>exact AllS.nil
   | cons a l ih=>exact AllS.cons A1.s_int ih
  refine⟨.ref g.objs.size,_,I1.laid (t':=tk) pE dW (show F5 X.prog X.w _ h' _ (.lst ((List.range j.toNat).map fun(i:Nat)=>V.int (0+(i:Int))))from⟨by rw [ah,cu];show _<=2 ^ 24;omega,acc.toList,c',rel,by simpa using e⟩),rfl,q _ _ (sm.trans (C8 hn _)) ⟨_,_,rfl,sm.free hn,upd_same,al _ _⟩⟩
end
end TK
end
section
namespace MC
open PySem PySem.Spec PyProof.Rows L2 TK
abbrev Z0o:List Str:=["_law_long","_law_found","_law_row","_law_turn","_law_longer","_law_text_here"]
def Z5g   :WS:=(B8 (C5 1 (N6 (A2 (B0 (wC (.str ""))) A4))) (B8 (C5 2 (B0 (N6 (A2 (B0 (wC (.str ""))) A4)))) (B8 (L1 (X3 (A2 (wV 0) A4)) (B2 3) (B8 (C5 4 (N6 A4)) (B8 (Q6s 4 (L1 (Q0w (B0 (wV 2))) (B2 5) (C5 4 (A8 F8 (wV 4) (N5 1 [5] (Z2b (wC (.str "01ab"))) (B2 0) P3 (B0 (A8 F8 (wV 1) (wV 0)))))))) (B8 (C5 2 (B0 (wV 4))) (C5 1 (A8 Q4x (wV 1) (wV 2))))))) (Q9z 1))))
abbrev Z6c:List Str:=["_law_machine_told","_law_state_here","_law_text_here","_law_sign"]
def Z5e   :WS:=(B8 (L1 (Q5l (wV 2)) (B2 3) (C5 1 (A8 C3 (A8 C3 (A8 C3 (wV 0) (wC (.int 1))) (wV 1)) (Q4m (wC (.str "01ab")) (wV 3))))) (Q9z 1))
abbrev Z5z:List Str:=["_law_machine_told","_law_text_here"]
def Z5b   (dR:C7):WS:=(P4 (A8 C3 (A8 C3 (wV 0) (wC (.int 0))) (N4 dR (A2 (wV 0) (A2 (wC (.int 0)) (A2 (wV 1) A4))))))
abbrev Q2z:List Str:=["_law_told","_law_size","_law_met","_law_state_here","_law_row","_law_apart","_law_one","_law_other","_law_turn","_law_steps"]
def Z5d  (K:Fg9) :WS:=(B8 (C5 1 (D9 E6 (A2 (A8 C3 (wV 0) (wC (.int 0))) A4))) (B8 (C5 2 (N6 (A2 (B0 (wC (.int 0))) A4))) (B8 (L1 (Q0w (B0 (Q9x (A2 (wV 1) A4)))) (B2 3) (U7 (A8 (R9 fun i j=>decide (i<j)) (wV 3) (D9 E6 (A2 (wV 2) A4))) (B8 (C5 4 (A8 C3 (A8 C3 (wV 0) (wC (.int 1))) (wV 3))) (C5 2 (A8 F8 (wV 2) (N5 2 [2,4] (Q5p (A2 (wV 4) A4)) (P7 2 (F4 (B2 0) (F4 (B2 1) gNl))) (A8 (inL 59 true) (wV 1) (A8 F8 (wV 2) (D9 Q2i (A2 (wSl (wV 3) Z2t (Z2u (wV 0))) A4)))) (B0 (wV 1)))))) U8)) (B8 (U7 (A8 (O8 59 true) (wV 2) (Q9x (A2 (wV 1) A4))) (P4 (wC (.bl false))) U8) (B8 (Z4g 5) (B8 (L1 (X3 (A2 (wV 1) A4)) (B2 6) (L1 (X3 (A2 (wV 1) A4)) (B2 7) (Q4l 5 (R1 (A2 (B0 (wV 6)) (A2 (B0 (wV 7)) A4))) (wB (A8 (O8 59 true) (A8 C3 (A8 C3 (wV 0) (wC (.int 0))) (wV 6)) (A8 C3 (A8 C3 (wV 0) (wC (.int 0))) (wV 7))))))) (B8 (Z4j K 5 (L1 (X3 (A2 (wV 1) A4)) (B2 8) (L1 (Q0w (B0 (D9 Q1n (A2 (wV 5) A4)))) (P7 2 (F4 (B2 6) (F4 (B2 7) gNl))) (B8 (C5 9 (N5 1 [5] (Q3j (A2 (A8 C3 (A8 C3 (wV 0) (wC (.int 1))) (wV 6)) (A2 (A8 C3 (A8 C3 (wV 0) (wC (.int 1))) (wV 7)) A4))) (B2 0) P3 (B0 (Q9n 1 (wV 0))))) (Q4l 5 (R1 (A2 (B0 (wV 6)) (A2 (B0 (wV 7)) A4))) (Q9y (Q9q 5 (R1 (A2 (B0 (wV 6)) (A2 (B0 (wV 7)) A4)))) (wB (A8 (inL 59 false) (wC (.bl true)) (wV 9))))))))) (P4 (wB (A8 (O8 60 false) (N5 1 [5] (Z2a K 5) (B2 0) (Q9l (A8 (O8 59 true) (A8 C3 (wV 0) (wC (.int 0))) (A8 C3 (wV 0) (wC (.int 1)))) (Q4q (Q6u (Z0b K 1 (wV 0))))) (B0 (wV 0))) (N6 A4)))))))))))
abbrev Z0q:List Str:=["some","rows","ends","text","state","sign","column"]
def Z5i   (Q2s:Q1):WS:=(B8 (Z4p 1 (N6 (A2 (B0 (wC (.int 1))) (A2 (B0 (wC (.int 1))) (A2 (B0 (wC (.int 1))) (A2 (B0 (wC (.int 1))) A4))))) (N6 (A2 (B0 (wC (.int 1))) (A2 (B0 (wC (.int 1))) (A2 (B0 (wC (.int 1))) (A2 (B0 (wC (.int 1))) A4)))))) (B8 (C5 2 (N6 (A2 (B0 (wC (.bl false))) (A2 (B0 (wC (.bl false))) A4)))) (B8 (Q9s 1 (L1 (iBor 0) (B2 3) (B8 (C5 4 (wC (.int 0))) (B8 (L1 (Q5l (wV 3)) (B2 5) (B8 (C5 6 (Q4m (wC (.str "01ab")) (wV 5))) (B8 (U7 (A8 (O8 60 false) (Q1v 1 (wV 4) (wV 6)) (wC (.int 1))) (B8 (Q9w 1 (wV 4) (wV 6) (Q9u 1)) (B8 (Q9v 1 (N6 (A2 (B0 (wC (.int 1))) (A2 (B0 (wC (.int 1))) (A2 (B0 (wC (.int 1))) (A2 (B0 (wC (.int 1))) A4)))))) (X9 2 (B0 (wC (.bl false)))))) U8) (C5 4 (Q1v 1 (wV 4) (wV 6)))))) (Z0a 2 (wV 4) (B0 (wC (.bl true)))))))) (P4 (Q1b Q2s (A2 (wV 2) (A2 (B0 (N5 1 [] (Q0c (wV 1)) (B2 0) P3 (B0 (D9 V5 (A2 (wV 0) A4))))) A4)))))))
abbrev Z0m:List Str:=["ends","last"]
def Z4z   :WS:=(B8 (C5 1 (A8 (N8 NoC fun i j=>i-j) (D9 E6 (A2 (wV 0) A4)) (wC (.int 1)))) (P4 (R1 (A2 (B0 (wV 0)) (A2 (B0 (D9 V5 (A2 (N5 1 [1] (Q5q (A2 (D9 E6 (A2 (wV 0) A4)) A4)) (B2 0) P3 (B0 (A8 Q8e (R1 (A2 (B0 (D9 Q6e (A2 (A8 F8 (wV 0) (wC (.int 1))) (A2 (wV 1) A4)))) A4)) (D9 E6 (A2 (wC (.str "01ab")) A4))))) A4))) A4)))))
abbrev Z5y:List Str:=[]
def Z4y   (sp_in_line:C7):WS:=(P4 (N4 sp_in_line (A2 (R1 (A2 (B0 (wC (.bl true))) A4)) A4)))
abbrev Z5x:List Str:=["many"]
def Z4v (sp_in_line:C7):WS:=(P4 (N4 sp_in_line (A2 (A8 F8 (A8 Q2l (R1 (A2 (B0 (wC (.bl false))) A4)) (wV 0)) (R1 (A2 (B0 (wC (.bl true))) (A2 (B0 (wC (.bl false))) A4)))) A4)))
abbrev Z5w:List Str:=["many"]
def Z4u (sp_in_line:C7):WS:=(P4 (N4 sp_in_line (A2 (A8 F8 (A8 Q2l (R1 (A2 (B0 (wC (.bl true))) A4)) (wV 0)) (R1 (A2 (B0 (wC (.bl false))) A4))) A4)))
abbrev Z0n:List Str:=["_law_script","_law_at","_law_most"]
def Z5f (c9:C7):WS:=(P4 (Z4k (wC (.str "")) (N5 1 [0,1] (Q5q (A2 (N4 c9 (A2 (wV 0) (A2 (wV 1) (A2 (A8 F8 (wV 2) (wC (.int 1))) A4)))) A4)) (B2 0) P3 (B0 (A8 C3 (wC (.str "01ab")) (N4 c9 (A2 (wV 1) (A2 (A8 F8 (A8 F8 (wV 2) (wC (.int 1))) (wV 0)) (A2 (wC (.int 4)) A4)))))))))
theorem Z3l (t s:Str):E5 (t++s)=E5 t++E5 s:=by
 unfold E5
 rw [<- b7]
 congr 1
 exact Array.toList_append
theorem Y3y {c:Nat} (h:c∈B7):E5 (K2 c)=[.str (K2 c)]:=by
 simp only [B7,aq,aP,bu]at h
 rcases h with rfl | rfl | rfl | rfl <;> rfl
theorem Q7s {c:Nat} (h:c∈B7):Q5n "01ab" (K2 c)=some c:=by
 simp only [B7,aq,aP,bu]at h
 rcases h with rfl | rfl | rfl | rfl <;> decide +kernel
theorem Q4c {w:List Nat} (h:C0 w):E5 (O3 w)=w.map fun c=>.str (K2 c):=by
 have go:∀(w:List Nat) (t:Str),C0 w->E5 (w.foldl (fun t c=>t++K2 c) t)=E5 t++w.map fun c=>.str (K2 c):=by
  intro w
  induction w with
  | nil=>intro t _;simp
  | cons c w ih =>
   intro t h
   rw [hV,ih _ (fun d hd=>h d (ar _ hd)),Z3l,Y3y (h c ao),aw,bK];rfl
 rw [O3,go w "" h];rfl
noncomputable def Q8v:C7:=fun rs r=>∃(m:K8) (i:Nat) (w:List Nat),rs=[.st (mD m),.st (iD i),.st (.str (O3 w))]/\WfM m/\i<m.1.length/\C0 w/\r=.st (iD (run (B1 m.2) i w))
def wsS:WS:=(C5 1 (A8 C3 (A8 C3 (A8 C3 (wV 0) (wC (.int 1))) (wV 1)) (Q4m (wC (.str "01ab")) (wV 3))))
theorem Y4h {m:K8} (wf:WfM m) {E:E7}{o2:Option Sl}:∀(w:List Nat) (i:Nat) (o3:Option Sl),C0 w->i<m.1.length->(∀o3,E.nx [some (.dat (mD m)),some (.dat (iD (run (B1 m.2) i w))),o2,o3]) ->
  C6 (B2 3) wsS E (w.map fun c=>.str (K2 c)) [some (.dat (mD m)),some (.dat (iD i)),o2,o3]
 | [],i,o3,_,_,h=>h o3
 | c::w,i,o3,hw,hi,h=>by
  rw [aw,C6]
  simp only [wsS,N2,L7,F2,C1,F3,Y2m]
  have hc:=hw c ao
  have fG:c<4:=by simp only [B7,aq,aP,bu]at hc;omega
  obtain⟨r,hr,_,nA⟩:=Wf.row wf hi
  refine⟨_,rfl,Q9 (i:=1) rfl ⟨_,rfl,?_⟩⟩
  refine Q9 (i:=i) (d:=.tup (r.map iD)) (by rw [ak,hr];rfl) ?_
  refine⟨_,rfl,_,rfl,_,c,rfl,Q7s hc,?_⟩
  refine Q9 (i:=c) (d:=iD (B1 m.2 i c)) (by rw [ak,(nA c fG).1];rfl) ?_
  rw [U4]
  exact Y4h wf w _ _ (fun d hd=>hw d (ar _ hd)) (nA c fG).2 h
theorem W5s:∀rs r,rs.length=3->Q8v rs r->Z5e (S9 r) (G4 Z6c rs):=by
 rintro rs r _ ⟨m,i,w,rfl,wf,hi,hw,rfl⟩
 unfold Z5e
 simp only [K1,T8,Y2l,C1,Z3k]
 refine⟨_,rfl,_,rfl,?_⟩
 rw [Q4c hw]
 exact Y4h wf w i none hw hi fun o3=>⟨_,rfl,rfl⟩
noncomputable def Q4d:C7:=fun rs r=>∃(m:K8) (w:List Nat),rs=[.st (mD m),.st (.str (O3 w))]/\WfM m/\C0 w/\r=.st (.bl (R8 m w))
theorem W5e:∀rs r,rs.length=2->Q4d rs r->Z5b Q8v (S9 r) (G4 Z5z rs):=by
 rintro rs r _ ⟨m,w,rfl,wf,hw,rfl⟩
 unfold Z5b
 simp only [W4,F2,C1,F3,U5,E3,D8]
 refine⟨_,rfl,Q9 (i:=0) rfl ⟨_,rfl,_,rfl,rfl,_,⟨m,0,w,rfl,wf,wf.pos,hw,rfl⟩,?_⟩⟩
 refine Q9 (i:=run (B1 m.2) 0 w) (Z1b (Q6k wf w 0 hw wf.pos)) ?_
 rfl
theorem W7u {x y:Str} (h:E5 x=E5 y):x=y:=by
 unfold E5 at h
 have go:∀l m:List Nat,(l.map fun c=>D.str ⟨#[c]⟩)=(m.map fun c=>D.str ⟨#[c]⟩)->l=m:=by
  intro l
  induction l with
  | nil=>intro m h;cases m with
   | nil=>rfl
   | cons _ _=>cases h
  | cons a l ih =>
   intro m h
   cases m with
   | nil=>cases h
   | cons b m =>
    injection h with h1 h2
    injection h1 with h1
    injection h1 with h1
    have:a=b:=by simpa using h1
    rw [this,ih m h2]
 have:=go _ _ h
 cases x;cases y
 simp only [Str.mk.injEq]
 exact Array.toList_inj.mp this
theorem Y3x:∀ys:List Str,E5 (Str.join Str.empty ys)=(ys.map E5).flatten
 | []=>rfl
 | [x]=>by simp [Str.join]
 | x::y::r=>by
  show E5 (x++Str.empty++Str.join Str.empty (y::r))=_
  rw [Z3l,Z3l,Y3x (y::r)]
  simp [E5,Str.empty]
theorem Y9p {w:List Nat} (h:C0 w):Txt.join (Str.ofString "") (w.map K2)=O3 w:=by
 refine W7u ?_
 have e:Txt.join (Str.ofString "") (w.map K2)=Str.join Str.empty (w.map K2):=StrLaws.glued_eq_join _ _
 rw [e,Y3x,Q4c h,aO]
 clear e
 induction w with
 | nil=>rfl
 | cons c w ih=>rw [aw,bS,ih fun d hd=>h d (ar _ hd),Function.comp,Y3y (h c ao)];rfl
theorem W7v {c d:Nat} (hc:c∈B7) (hd:d∈B7) (e:K2 c=K2 d):c=d:=by
 have a:=Q7s hc
 rw [e,Q7s hd]at a
 exact(aC a).symm
theorem W8x:∀{u w:List Nat},C0 u->C0 w->O3 u=O3 w->u=w:=by
 intro u w hu hw e
 have e:=congrArg E5 e
 rw [Q4c hu,Q4c hw]at e
 have go:∀l m:List Nat,C0 l->C0 m->(l.map fun c=>D.str (K2 c))=(m.map fun c=>D.str (K2 c))->l=m:=by
  intro l
  induction l with
  | nil=>intro m _ _ h;cases m with
   | nil=>rfl
   | cons _ _=>cases h
  | cons a l ih =>
   intro m hl hm h
   cases m with
   | nil=>cases h
   | cons b m =>
    injection h with h1 h2
    injection h1 with h1
    rw [W7v (hl a ao) (hm b ao) h1,ih m (fun d hd=>hl d (ar _ hd)) (fun d hd=>hm d (ar _ hd)) h2]
 exact go u w hu hw e
theorem Y4j:∀l:List Str,Q0z (l.map D.str)=some l
 | []=>rfl
 | x::r=>by simp [Q0z,Y4j r]
theorem Y4k:∀{l:List Nat},C0 l->((l.map K2).map (·.length)).sum=l.length
 | [],_=>rfl
 | j::r,h=>by
  have hj:(K2 j).length=1:=by
   have:=h j ao
   simp only [B7,aq,aP,bu]at this
   rcases this with rfl | rfl | rfl | rfl <;> rfl
  rw [aw,aw,List.sum_cons,hj,Y4k fun d hd=>h d (ar _ hd),ax];omega
noncomputable def X8 (ns:List Int) (at_:Int) (most:Nat):List Nat:=(List.range (O7 ns at_ (most+1))).map fun(k:Nat)=>O7 ns (at_+1+(k:Int)) 4
theorem Y4n (ns:List Int) (at_:Int) (most:Nat):C0 (X8 ns at_ most):=fun c hc=>by
 obtain⟨k,_,rfl⟩:=au.mp hc
 exact Q8a (Q3f ns _ (by decide))
theorem Y4m (ns:List Int) (at_:Int) (most:Nat):(X8 ns at_ most).length<=most:=by
 have:=Q3f ns at_ (m:=most+1) (by omega)
 simp [X8];omega
theorem Y9m {c:Nat} (h:c∈B7) {Q:R->Prop} (q:Q (.st (.str (K2 c)))):C3 (.st (.str "01ab")) (.st (.int (c:Int))) Q:=by
 simp only [B7,aq,aP,bu]at h
 rcases h with rfl | rfl | rfl | rfl <;> exact⟨by decide,_,rfl,q⟩
noncomputable def Q8w:C7:=fun rs r=>∃(ns:List Int) (at_:Int) (most:Nat),rs=[.st (scr ns),.st (.int at_),.st (iD most)]/\ns.length<=63/\most<=50/\r=.st (.str (O3 (X8 ns at_ most)))
theorem W5t:∀rs r,rs.length=3->Q8w rs r->Z5f Q4g (S9 r) (G4 Z0n rs):=by
 rintro rs r _ ⟨ns,at_,most,rfl,hn,hm,rfl⟩
 have hp:0<most+1:=by omega
 have bR:=Q3f ns at_ hp
 have er:G9 0 (O7 ns at_ (most+1):Int).toNat=(List.range (O7 ns at_ (most+1))).map iD:=by simp [G9]
 unfold Z5f
 simp only [W4,W6r,F3,U6,Q8s,E3,U5,C1,F2,D8]
 refine⟨_,rfl,_,rfl,_,rfl,_,rfl,?_⟩
 show F8 (R.st (.int _)) (R.st (.int _)) _
 rw [Q2m]
 refine⟨rfl,_,⟨ns,at_,((most+1:Nat):Int),rfl,hn,by omega,rfl⟩,?_⟩
 rw [Q5g ns at_ hp]
 refine⟨_,rfl,by omega,by omega,?_⟩
 rw [er]
 refine⟨sz (by simp;omega),?_⟩
 refine Z8 (f:=fun d=>match d with | .int k=>.str (K2 (O7 ns (at_+1+k) 4)) | d=>d) _ _ _ (fun d hd Q' q=>?_) ?_
 ·obtain⟨k,_,rfl⟩:=au.mp hd
  simp only [E9,F2,F3,U5,E3,C1,D8]
  refine⟨_,rfl,_,rfl,?_⟩
  show F8 (R.st (.int _)) (R.st (.int _)) _
  rw [Q2m]
  refine⟨_,rfl,?_⟩
  show F8 (R.st (.int _)) (R.st (.int _)) _
  rw [Q2m]
  refine⟨rfl,_,⟨ns,at_+1+(k:Int),4,rfl,hn,by decide,rfl⟩,?_⟩
  rw [show Q0u ns (at_+1+(k:Int)) 4=(O7 ns (at_+1+(k:Int)) 4:Int)from Q5g ns _ (m:=4) (by decide)]
  exact Y9m (Q8a (Q3f ns _ (by decide))) q
 have e:((List.range (O7 ns at_ (most+1))).map iD).map (fun d=>match d with | .int k=>D.str (K2 (O7 ns (at_+1+k) 4)) | d=>d)=((X8 ns at_ most).map K2).map D.str:=by
  unfold X8;rw [aO,aO,aO];rfl
 have wd:=Y4n ns at_ most
 have tl:=Y4m ns at_ most
 rw [e]
 refine⟨_,_,rfl,Y4j _,?_,?_⟩
 ·rw [Y4k wd]
  have:(Str.ofString "").length=0:=rfl
  rw [this];omega
 ·show R.st _=R.st _
  rw [Y9p wd]
noncomputable abbrev tD (w:List Nat):D:=.str (O3 w)
noncomputable def Y8 (ws:List (List Nat)):List (List Nat):=ws.flatMap fun w=>B7.map fun c=>w++[c]
noncomputable def Z0f:Nat->List (List Nat)->List (List Nat)->List (List Nat)
 | 0,found,_=>found
 | n+1,found,row=>Z0f n (found++Y8 row) (Y8 row)
noncomputable def Z5n (n:Nat):List (List Nat):=Z0f n [[]] [[]]
theorem Z9m (ws:List (List Nat)):(Y8 ws).length=4*ws.length:=by
 induction ws with
 | nil=>rfl
 | cons w ws ih=>rw [Y8,List.flatMap_cons,aD,<- Y8,ih,ah];simp only [ax,c7];omega
theorem W0w {ws:List (List Nat)}{k:Nat} (h:∀w∈ws,C0 w/\w.length<=k):∀w∈Y8 ws,C0 w/\w.length<=k+1:=by
 intro w hw
 obtain⟨u,hu,hw⟩:=List.mem_flatMap.mp hw
 obtain⟨c,hc,rfl⟩:=au.mp hw
 refine⟨(h u hu).1.snoc hc,?_⟩
 have:=(h u hu).2
 rw [aD];simp only [ax,c7];omega
theorem Y5l:∀(n:Nat) (found row:List (List Nat)),(∀w∈found,C0 w)->(∀w∈row,C0 w)->∀w∈Z0f n found row,C0 w
 | 0,_,_,h,_,w,hw=>h w hw
 | n+1,found,row,h,h2,w,hw=>by
  have l:∀w∈Y8 row,C0 w:=fun w hw=>by
   obtain⟨u,hu,hw⟩:=List.mem_flatMap.mp hw
   obtain⟨c,hc,rfl⟩:=au.mp hw
   exact(h2 u hu).snoc hc
  exact Y5l n _ _ (fun w hw=>(aS.mp hw).elim (h w) (l w)) l w hw
theorem W9u {n:Nat}{w:List Nat} (h:w∈Z5n n):C0 w:=by
 have z:∀w∈([[]]:List (List Nat)),C0 w:=fun w hw=>by rw [aN.mp hw];intro c hc;cases hc
 exact Y5l n _ _ z z w h
theorem Y4o {w:List Nat} (h:C0 w):(O3 w).length=w.length:=by
 have:=congrArg List.length (Q4c h)
 rw [ah]at this
 rw [<- this];unfold E5;rw [ah,bN];rfl
theorem sgn4:E5 "01ab"=B7.map fun c=>.str (K2 c):=rfl
def wsI:WS:=(C5 4 (A8 F8 (wV 4) (N5 1 [5] (Z2b (wC (.str "01ab"))) (B2 0) P3 (B0 (A8 F8 (wV 1) (wV 0))))))
theorem Y4q {E:E7}{o0 o1 o2 o3:Option Sl}:∀(ws acc:List (List Nat)) (o5:Option Sl),(∀w∈ws,C0 w/\w.length<=1000)->acc.length+4*ws.length<=100000->(∀o5,E.nx [o0,o1,o2,o3,some (.own ((acc++Y8 ws).map tD)),o5]) ->
  C6 (B2 5) wsI E (ws.map tD) [o0,o1,o2,o3,some (.own (acc.map tD)),o5]
 | [],acc,o5,_,_,h=>by
  have:=h o5
  simp only [Y8,List.flatMap_nil,bD]at this
  exact this
 | w::ws,acc,o5,hw,hl,h=>by
  rw [aw,C6]
  rw [ax]at hl
  simp only [wsI,N2,L7,F2,C1,F3,U6,W6q]
  refine⟨_,rfl,_,rfl,?_⟩
  rw [sgn4]
  refine⟨sz (by simp),?_⟩
  refine Z8 (f:=fun d=>match d with | .str s=>.str (O3 w++s) | d=>d) _ none _ (fun d hd Q' q=>?_) ?_
  ·obtain⟨c,hc,rfl⟩:=au.mp hd
   simp only [E9,F2,C1]
   refine⟨_,rfl,_,rfl,?_⟩
   rw [P0,P0,W2a]
   refine⟨sz ?_,q⟩
   rw [Y4o (hw w ao).1]
   have:=(hw w ao).2
   have:(K2 c).length=1:=by
    simp only [B7,aq,aP,bu]at hc
    rcases hc with rfl | rfl | rfl | rfl <;> rfl
   omega
  ·rw [X7,Z2v]
   refine⟨sz (by simp only [ah,ax,c7];omega),?_⟩
   rw [V4]
   have e:acc.map tD++(B7.map fun c=>D.str (K2 c)).map (fun d=>match d with | .str s=>.str (O3 w++s) | d=>d)=(acc++B7.map fun c=>w++[c]).map tD:=by
    rw [b7,aO,aO]
    congr 1
    exact bc fun c _=>by show D.str (O3 w++K2 c)=.str (O3 (w++[c]));rw [W8w]
   show C6 _ _ _ _ [o0,o1,o2,o3,some (.own (acc.map tD++_)),_]
   rw [e]
   refine Y4q ws _ _ (fun u hu=>hw u (ar _ hu)) (by simp only [aD,ah,ax,c7];omega) fun o5=>?_
   have:=h o5
   rw [show Y8 (w::ws)=(B7.map fun c=>w++[c])++Y8 ws from rfl,<- bK]at this
   exact this
noncomputable def Q1t:Nat->Nat
 | 0=>0
 | n+1=>4+4*Q1t n
def wsO:WS:=(B8 (C5 4 (N6 A4)) (B8 (Q6s 4 (L1 (Q0w (B0 (wV 2))) (B2 5) wsI)) (B8 (C5 2 (B0 (wV 4))) (C5 1 (A8 Q4x (wV 1) (wV 2))))))
theorem Y4r {E:E7}{o0:Option Sl}:∀(l:List D) (k:Nat) (found row:List (List Nat)) (o3 o4 o5:Option Sl),(∀w∈row,C0 w/\w.length<=k)->k+l.length<=1000->found.length+row.length*Q1t l.length<=100000 ->
  (∀ τ',(∃o2 o3 o4 o5,τ'=[o0,some (.own ((Z0f l.length found row).map tD)),o2,o3,o4,o5])->E.nx τ') ->
  C6 (B2 3) wsO E l [o0,some (.own (found.map tD)),some (.dat (.lst (row.map tD))),o3,o4,o5]
 | [],k,found,row,o3,o4,o5,_,_,_,h=>h _ ⟨_,_,_,_,rfl⟩
 | d::l,k,found,row,o3,o4,o5,hw,hk,hl,h=>by
  rw [C6]
  rw [ax]at hk hl
  have jm:found.length+4*row.length+4*row.length*Q1t l.length<=100000:=by
   have e:row.length*Q1t (l.length+1)=4*row.length+4*row.length*Q1t l.length:=by
    show row.length*(4+4*Q1t l.length)=_
    rw [Nat.mul_add,Nat.mul_comm row.length 4,<- Nat.mul_assoc,Nat.mul_comm row.length 4]
   omega
  simp only [wsO,N2,K1,L7,s_lst,D8,Y2j,T8,Q6m,E9,C1,F2]
  refine⟨_,rfl,sz (by simp),?_⟩
  rw [V4]
  refine⟨_,rfl,?_⟩
  rw [P0,Q8g]
  refine⟨_,rfl,?_⟩
  refine Y4q row [] o5 (fun w hm=>⟨(hw w hm).1,by have:=(hw w hm).2;omega⟩) (by simp;omega) fun o5=>?_
  refine⟨_,rfl,_,rfl,?_⟩
  rw [P0,Q8g,U4]
  refine⟨_,rfl,_,rfl,?_⟩
  rw [X7,P0,W2b]
  refine⟨_,_,rfl,rfl,sz (by simp only [ah,c6,Z9m];omega),?_⟩
  rw [V4,<- b7]
  exact Y4r l (k+1) _ _ _ _ _ (W0w hw) (by omega) (by rw [aD,c6,Z9m];omega) h
noncomputable def Q8x:C7:=fun rs r=>∃n:Nat,rs=[.st (iD n)]/\n<=5/\r=.nw ((Z5n n).map tD)
theorem W5u:∀rs r,rs.length=1->Q8x rs r->Z5g (S9 r) (G4 Z0o rs):=by
 rintro rs r _ ⟨n,rfl,hn,rfl⟩
 unfold Z5g
 simp only [K1,L7,s_lst,E3,D8,E9,F3,T8,Q3z,C1,Z3k]
 refine⟨_,rfl,sz (by simp),?_⟩
 rw [V4]
 refine⟨_,rfl,sz (by simp),?_⟩
 refine⟨_,rfl,_,rfl,by omega,by omega,?_⟩
 have len:(G9 0 (n:Int).toNat).length=n:=by unfold G9;simp
 have hs:Q1t n<=5000:=by
  have:∀k,k<=5->Q1t k<=5000:=by decide
  exact this n hn
 refine Y4r _ 0 [[]] [[]] _ _ _ (fun w hw=>?_) (by omega) (by rw [len];simp;omega) fun τ' ⟨o2,o3,o4,o5,e⟩=>?_
 ·rw [aN.mp hw];exact⟨(fun c hc=>nomatch hc),aj _⟩
 subst e
 rw [len]
 exact⟨_,rfl,rfl⟩
section
variable {es:List Bool}{rows:List (List Nat)}
def Dt (es:List Bool) (rows:List (List Nat)) (t i j:Nat):Prop:=∃w,C0 w/\w.length<=t/\J6 es rows i w≠J6 es rows j w
theorem Dt.mono {t t' i j:Nat} (h:Dt es rows t i j) (l:t<=t'):Dt es rows t' i j:=let ⟨w,a,b,c⟩:=h;⟨w,a,aX b l,c⟩
theorem Dt.symm {t i j:Nat} (h:Dt es rows t i j):Dt es rows t j i:=let ⟨w,a,b,c⟩:=h;⟨w,a,b,fun e=>c e.symm⟩
theorem Dt.irr {t i:Nat}:¬ Dt es rows t i i:=fun⟨_,_,_,c⟩=>c rfl
theorem Dt.tr {t i j k:Nat} (h1:¬ Dt es rows t i j) (h2:¬ Dt es rows t j k):¬ Dt es rows t i k:=fun⟨w,a,b,c⟩=>by
 by_cases e:J6 es rows i w=J6 es rows j w
 ·exact h2 ⟨w,a,b,fun z=>c (e.trans z)⟩
 ·exact h1 ⟨w,a,b,e⟩
theorem Dt.cons {t i j c:Nat} (hc:c∈B7) (h:Dt es rows t (B1 rows i c) (B1 rows j c)):Dt es rows (t+1) i j:=by
 obtain⟨w,a,b,d⟩:=h
 exact⟨c::w,fun x hx=>(aq.mp hx).elim (fun e=>e ▸ hc) (a x),Nat.succ_le_succ b,d⟩
theorem Dt.case {t i j:Nat} (h:Dt es rows (t+1) i j):Dt es rows 0 i j\/∃c∈B7,Dt es rows t (B1 rows i c) (B1 rows j c):=by
 obtain⟨w,a,b,d⟩:=h
 cases w with
 | nil=>exact .inl ⟨[],a,aj _,d⟩
 | cons c w=>exact .inr ⟨c,a c ao,w,fun x hx=>a x (ar _ hx),Nat.le_of_succ_le_succ b,d⟩
theorem Q1s (wf:Wf es rows) {i c:Nat} (hi:i<es.length) (hc:c∈B7):B1 rows i c<es.length:=by
 obtain⟨_,_,_,h⟩:=wf.row hi
 exact(h c (by simp only [B7,aq,aP,bu]at hc;omega)).2
theorem Dt.still (wf:Wf es rows) {t:Nat} (h:∀i j,i<es.length->j<es.length->Dt es rows (t+1) i j->Dt es rows t i j):∀(s i j:Nat),i<es.length->j<es.length->Dt es rows (t+s) i j->Dt es rows t i j
 | 0,_,_,_,_,d=>d
 | s+1,i,j,hi,hj,d=>by
  rcases Dt.case (t:=t+s) d with d | ⟨c,hc,d⟩
  ·exact d.mono (ba _)
  ·exact h i j hi hj ((Dt.still wf h s _ _ (Q1s wf hi hc) (Q1s wf hj hc) d).cons hc)
theorem Dt.least (t:Nat):∀x:Nat,∃y,y<=x/\¬ Dt es rows t x y/\∀z,z<y->Dt es rows t y z:=by
 intro x
 induction x using Nat.strongRecOn with
 | ind x ih =>
  by_cases h:∀z,z<x->Dt es rows t x z
  ·exact⟨x,aj _,Dt.irr,h⟩
  ·obtain⟨z,hz⟩:=Classical.not_forall.mp h
   obtain⟨zl,zd⟩:=Classical.not_imp.mp hz
   obtain⟨y,a,b,c⟩:=ih z zl
   exact⟨y,by omega,Dt.tr zd b,c⟩
theorem Y7u {p q:Nat->Bool} (le:∀x,p x=true->q x=true) {y:Nat} (h1:p y=false) (h2:q y=true):∀(l:List Nat),y∈l->(l.filter p).length<(l.filter q).length:=by
 have kN:∀l:List Nat,(l.filter p).length<=(l.filter q).length:=by
  intro l
  induction l with
  | nil=>exact aj _
  | cons a l ih =>
   rw [fL,fL]
   by_cases pa:p a=true
   ·rw [aJ pa,aJ (le a pa),ax,ax];omega
   ·rw [aH pa];split
    ·rw [ax];omega
    ·exact ih
 intro l
 induction l with
 | nil=>intro h;cases h
 | cons a l ih =>
  intro hm
  rw [fL,fL]
  rcases aq.mp hm with rfl | hm
  ·rw [aH (by rw [h1];simp),aJ h2,ax]
   have:=kN l;omega
  ·have:=ih hm
   by_cases pa:p a=true
   ·rw [aJ pa,aJ (le a pa),ax,ax];omega
   ·rw [aH pa];split
    ·rw [ax];omega
    ·exact this
noncomputable def Q2g (es:List Bool) (rows:List (List Nat)) (t y:Nat):Bool:=@decide (∀z,z<y->Dt es rows t y z) (Classical.propDecidable _)
theorem Q5w {t y:Nat}:Q2g es rows t y=true ↔ ∀z,z<y->Dt es rows t y z:=@decide_eq_true_iff _ (Classical.propDecidable _)
noncomputable def Q7k (es:List Bool) (rows:List (List Nat)) (t:Nat):Nat:=((List.range es.length).filter (Q2g es rows t)).length
theorem Y7s {t i j:Nat} (hi:i<es.length) (hj:j<es.length) (h1:Dt es rows (t+1) i j) (h2:¬ Dt es rows t i j):Q7k es rows t<Q7k es rows (t+1):=by
 obtain⟨m,ml,md,mm⟩:=Dt.least (es:=es) (rows:=rows) t i
 obtain⟨x,hx,xd,xi⟩:∃x,x<es.length/\Dt es rows (t+1) x m/\¬ Dt es rows t x m:=by
  by_cases d:Dt es rows (t+1) i m
  ·exact⟨i,hi,d,md⟩
  ·refine⟨j,hj,Classical.byContradiction fun z=>Dt.tr d (fun q=>z q.symm) h1,Dt.tr (fun q=>h2 q.symm) md⟩
 obtain⟨y,yl,yd,ym⟩:=Dt.least (es:=es) (rows:=rows) (t+1) x
 have yt:¬ Dt es rows t y m:=Dt.tr (fun q=>yd (q.symm.mono (cx t))) xi
 have ne:y≠m:=fun e=>yd (e ▸ xd)
 have lt:m<y:=by
  rcases bA m y with h | h
  ·exact h
  ·exact absurd (mm y (by omega)).symm yt
 exact Y7u (p:=Q2g es rows t) (q:=Q2g es rows (t+1)) (fun x h=>Q5w.mpr fun z hz=>(Q5w.mp h z hz).mono (cx t)) (y:=y) (by
  cases e:Q2g es rows t y with
  | false=>rfl
  | true=>exact absurd (Q5w.mp e m lt) yt) (Q5w.mpr ym) (List.range es.length) (bp.mpr (show y<es.length by omega))
theorem W1n (wf:Wf es rows) {i j:Nat} (hi:i<es.length) (hj:j<es.length) {w:List Nat} (hw:C0 w) (h:J6 es rows i w≠J6 es rows j w):Dt es rows es.length i j:=by
 by_cases st:∃t,t<es.length/\∀i j,i<es.length->j<es.length->Dt es rows (t+1) i j->Dt es rows t i j
 ·obtain⟨t,lt,st⟩:=st
  have d:Dt es rows (t+w.length) i j:=⟨w,hw,Nat.le_add_left _ _,h⟩
  exact(Dt.still wf st _ _ _ hi hj d).mono (db lt)
 ·have more:∀t,t<=es.length->t+1<=Q7k es rows t:=by
   intro t
   induction t with
   | zero =>
    intro _
    have:0∈(List.range es.length).filter (Q2g es rows 0):=hJ.mpr ⟨bp.mpr wf.pos,Q5w.mpr fun z hz=>absurd hz (Nat.not_lt_zero _)⟩
    exact List.length_pos_of_mem this
   | succ t ih =>
    intro le
    obtain⟨i,j,hi,hj,d1,d2⟩:∃i j,i<es.length/\j<es.length/\Dt es rows (t+1) i j/\¬ Dt es rows t i j:=by
     refine Classical.byContradiction fun z=>st ⟨t,le,fun i j hi hj d=>Classical.byContradiction fun q=>z ⟨i,j,hi,hj,d,q⟩⟩
    have:=Y7s hi hj d1 d2
    have:=ih (by omega)
    omega
  have h1:=more es.length (aj _)
  have h2:Q7k es rows es.length<=es.length:=by
   have:=List.length_filter_le (Q2g es rows es.length) (List.range es.length)
   rw [cu]at this
   exact this
  omega
end
section
noncomputable abbrev AF:=Nat×Nat->Bool
noncomputable def upF (rows:List (List Nat)) (p:Nat×Nat) (f:AF):AF:=fun q=>if q=p then f p||B7.any (fun c=>f (B1 rows p.1 c,B1 rows p.2 c))else f q
noncomputable def Q9g (rows:List (List Nat)) (ps:List (Nat×Nat)) (f:AF):AF:=ps.foldl (fun f p=>upF rows p f) f
noncomputable def Q9i (rows:List (List Nat)) (ps:List (Nat×Nat)):Nat->AF->AF
 | 0,f=>f
 | n+1,f=>Q9i rows ps n (Q9g rows ps f)
variable {es:List Bool}{rows:List (List Nat)}
theorem Y5d {p q:Nat×Nat}{f:AF} (h:f q=true):upF rows p f q=true:=by
 unfold upF
 split
 ·rename_i e;rw [<- e,h];rfl
 ·exact h
theorem Y4v {q:Nat×Nat}:∀(ps:List (Nat×Nat)) (f:AF),f q=true->Q9g rows ps f q=true
 | [],f,h=>h
 | p::ps,f,h=>Y4v ps _ (Y5d h)
theorem Y4y {t:Nat}:∀(ps:List (Nat×Nat)) (f:AF),(∀i j,i<es.length->j<es.length->Dt es rows t i j->f (i,j)=true)->Wf es rows->∀p∈ps,p.1<es.length->p.2<es.length->Dt es rows (t+1) p.1 p.2->Q9g rows ps f p=true
 | [],f,_,_,p,hp,_,_,_=>by cases hp
 | q::ps,f,h,wf,p,hp,h1,h2,d=>by
  rcases aq.mp hp with rfl | hp
  ·refine Y4v ps _ ?_
   show(if p=p then _ else _)=true
   rw [aJ rfl,Bool.or_eq_true]
   rcases d.case with d | ⟨c,hc,d⟩
   ·exact .inl (h _ _ h1 h2 (d.mono (ba _)))
   ·exact .inr (dq.mpr ⟨c,hc,h _ _ (Q1s wf h1 hc) (Q1s wf h2 hc) d⟩)
  ·exact Y4y ps _ (fun i j hi hj d=>Y5d (h i j hi hj d)) wf p hp h1 h2 d
theorem Y5b {ps:List (Nat×Nat)} (gq:∀i j,i<es.length->j<es.length->(i,j)∈ps) (wf:Wf es rows):∀(n t:Nat) (f:AF),(∀i j,i<es.length->j<es.length->Dt es rows t i j->f (i,j)=true) ->
  ∀i j,i<es.length->j<es.length->Dt es rows (t+n) i j->Q9i rows ps n f (i,j)=true
 | 0,t,f,h,i,j,hi,hj,d=>h i j hi hj d
 | n+1,t,f,h,i,j,hi,hj,d=>by
  refine Y5b gq wf n (t+1) _ (fun i j hi hj d=>Y4y ps f h wf (i,j) (gq i j hi hj) hi hj d) i j hi hj ?_
  rw [Nat.add_assoc,Nat.add_comm 1 n];exact d
noncomputable def ap0 (es:List Bool):AF:=fun p=>es.getD p.1 false != es.getD p.2 false
structure Y0 (m:K8):Prop where
 wf:WfM m
 met:M8 [0] m.2=List.range m.1.length
 seen:∀s,s<m.1.length->s<(M8 [0] (m.2.take s)).length
 apart:∀i j,i<m.1.length->j<m.1.length->i≠j->∃w,C0 w/\J6 m.1 m.2 i w≠J6 m.1 m.2 j w
theorem Y0.turns {m:K8} (L:Y0 m) {ps:List (Nat×Nat)} (gq:∀i j,i<m.1.length->j<m.1.length->(i,j)∈ps) {i j:Nat} (hi:i<m.1.length) (hj:j<m.1.length) (ne:i≠j):Q9i m.2 ps m.1.length (ap0 m.1) (i,j)=true:=by
 obtain⟨w,hw,h⟩:=L.apart i j hi hj ne
 have d:=W1n L.wf hi hj hw h
 refine Y5b gq L.wf m.1.length 0 (ap0 m.1) (fun i j hi hj d=>?_) i j hi hj (by rw [cZ];exact d)
 obtain⟨w,_,hl,h⟩:=d
 cases w with
 | nil=>exact bne_iff_ne.mpr h
 | cons _ _=>cases hl
end
section
variable {α:Type} [DecidableEq α]
theorem Y3v {step:α->Nat->α}:∀(n:Nat) (ks:List α) (rs:List (List Nat)),M8 [0] rs=List.range ks.length->(∀s,s<rs.length->s<(M8 [0] (rs.take s)).length)->∀s,s<(O4 step n ks rs).2.length->s<(M8 [0] ((O4 step n ks rs).2.take s)).length
 | 0,ks,rs,_,h=>h
 | n+1,ks,rs,hm,h=>by
  unfold O4
  split
  ·exact h
  ·rename_i k e
   have hp:=(Q3v (step k) B7 ks []).length_le
   have lQ:M8 [0] (rs++[(F9 (step k) B7 ks []).2])=List.range (F9 (step k) B7 ks []).1.length:=by
    rw [Q8d,hm,Q8p,c6,Q8f (step k) ks.length B7 ks [] _ rfl (aj _) (fun x hx=>.inl hx) (fun x hx=>by cases hx),range_add]
    congr 1
    omega
   refine Y3v n _ _ lQ fun s hs=>?_
   rw [aD,ax,c7]at hs
   by_cases lt:s<rs.length
   ·rw [List.take_append_of_le_length (db lt)];exact h s lt
   ·have:s=rs.length:=by omega
    subst this
    rw [List.take_append_of_le_length (aj _),List.take_length,hm,cu]
    exact(aL.mp e).1
end
theorem W7r {es:List Bool}{rows:List (List Nat)} (w:Wf es rows):∀s,s<(K7 es rows).1.length->s<(M8 [0] ((K7 es rows).2.take s)).length:=by
 have h:=Y3v (step:=Y9 rows (E4 es rows)) es.length [(E4 es rows).getD 0 0] [] rfl (fun s hs=>absurd hs (Nat.not_lt_zero _))
 intro s hs
 refine h s ?_
 have:=(Z9f w).len
 show s<(K7 es rows).2.length
 rw [this];exact hs
theorem W0f {es:List Bool}{rows:List (List Nat)} (w:Wf es rows):Y0 (K7 es rows):=⟨Z9f w,W1e es rows,W7r w,fun i j hi hj ne=>W0h w hi hj ne⟩
theorem Wf.rowEq {es:List Bool}{rows:List (List Nat)} (w:Wf es rows) {s:Nat} (h:s<es.length):rows[s]?=some (B7.map (B1 rows s)):=by
 obtain⟨r,e,l,g⟩:=w.row h
 rw [e]
 have g0:=(g 0 (by decide)).1
 have g1:=(g 1 (by decide)).1
 have g2:=(g 2 (by decide)).1
 have g3:=(g 3 (by decide)).1
 match r,l with
 | [a,b,c,d],_ =>
  injection g0 with g0;injection g1 with g1;injection g2 with g2;injection g3 with g3
  show some [a,b,c,d]=some [B1 rows s 0,B1 rows s 1,B1 rows s 2,B1 rows s 3]
  rw [<- g0,<- g1,<- g2,<- g3]
structure O6 (es:List Bool) (rows:List (List Nat)) (P S:List (List Nat)):Prop where
 wf:Wf es rows
 n2:2<=es.length
 lp:P.length=es.length
 p0:P.getD 0 []=[]
 r1:∀c∈B7,B1 rows 1 c=1
 e1:es.getD 1 false=false
 j1:∀s c,s<es.length->s≠1->c∈B7->B1 rows s c≠1->P.getD (B1 rows s c) []=P.getD s []++[c]
 j2:∀u,u<es.length->u≠1->u≠0->∃s c,s<es.length/\s≠1/\c∈B7/\P.getD u []=P.getD s []++[c]/\B1 rows s c=u
 je:∀s,s<es.length->s≠1->(es.getD s false=true ↔ P.getD s []∈S)
 js:∀w∈S,∃s,s<es.length/\s≠1/\P.getD s []=w
section
variable {es:List Bool}{rows P S:List (List Nat)}
theorem O6.run (T:O6 es rows P S):∀(w:List Nat),C0 w->run (B1 rows) 0 w≠1->P.getD (run (B1 rows) 0 w) []=w:=by
 intro w
 induction w using Y4c with
 | h0=>intro _ _;exact T.p0
 | hs w c ih =>
  intro hw h
  have nq:C0 w:=fun d hd=>hw d (bf _ hd)
  have hc:c∈B7:=hw c (av _ ao)
  rw [Q8q]at h ⊢
  have hr:MC.run (B1 rows) 0 w≠1:=fun e=>h (by rw [e];exact T.r1 c hc)
  have:=ih nq hr
  show P.getD (B1 rows (MC.run (B1 rows) 0 w) c) []=w++[c]
  rw [T.j1 _ c (Q6k T.wf w 0 nq T.wf.pos) hr hc h,this]
theorem O6.back (T:O6 es rows P S):∀(n u:Nat),(P.getD u []).length=n->u<es.length->u≠1->C0 (P.getD u [])/\MC.run (B1 rows) 0 (P.getD u [])=u:=by
 intro n
 induction n with
 | zero =>
  intro u hn hu h1
  by_cases h0:u=0
  ·rw [h0,T.p0];exact⟨C0.nil,rfl⟩
  ·obtain⟨s,c,_,_,_,e,_⟩:=T.j2 u hu h1 h0
   rw [e]at hn;simp at hn
 | succ n ih =>
  intro u hn hu h1
  by_cases h0:u=0
  ·rw [h0,T.p0]at hn;cases hn
  ·obtain⟨s,c,hs,s1,hc,e,er⟩:=T.j2 u hu h1 h0
   rw [e]at hn
   obtain⟨w,r⟩:=ih s (by simpa using hn) hs s1
   rw [e]
   refine⟨w.snoc hc,?_⟩
   rw [Q8q,r]
   exact er
theorem O6.acc (T:O6 es rows P S) {w:List Nat} (hw:C0 w):R8 (es,rows) w=true ↔ w∈S:=by
 show es.getD (MC.run (B1 rows) 0 w) false=true ↔ _
 constructor
 ·intro h
  have h1:MC.run (B1 rows) 0 w≠1:=fun e=>by rw [e,T.e1]at h;cases h
  have:=(T.je _ (Q6k T.wf w 0 hw T.wf.pos) h1).mp h
  rwa [T.run w hw h1]at this
 ·intro h
  obtain⟨s,hs,s1,e⟩:=T.js w h
  have:=(T.back _ s rfl hs s1).2
  rw [e]at this
  rw [this]
  exact(T.je s hs s1).mpr (by rw [e];exact h)
theorem O6.inj (T:O6 es rows P S) {s u:Nat} (hs:s<es.length) (s1:s≠1) (hu:u<es.length) (u1:u≠1) (e:P.getD s []=P.getD u []):s=u:=by
 rw [<- (T.back _ s rfl hs s1).2,e,(T.back _ u rfl hu u1).2]
theorem Q7p {α:Type}{l m:List α}{d:α}{i:Nat} (h:i<l.length):(l++m).getD i d=l.getD i d:=by
 rw [ag,ag,aI h]
theorem Q7q {α:Type}{l:List α}{x d:α}:(l++[x]).getD l.length d=x:=by
 rw [ag,aQ (aj _)];simp
noncomputable def W3 (rows:List (List Nat)) (s c:Nat):List (List Nat):=rows.set s ((rows.getD s []).set c rows.length)++[[1,1,1,1]]
theorem Y1n (w:Wf es rows) {s c s' c':Nat} (hs:s<es.length) (hc:c∈B7) (dU:s'<es.length) (cN:c'∈B7):B1 (W3 rows s c) s' c'=if s'=s/\c'=c then es.length else B1 rows s' c':=by
 unfold B1 W3
 rw [Q7p (by rw [aZ,w.len];exact dU)]
 have hr:=Wf.rowEq w hs
 have hg:rows.getD s []=B7.map (B1 rows s):=by rw [ag,hr];rfl
 by_cases e:s'=s
 ·subst e
  have e1:(rows.set s' ((rows.getD s' []).set c rows.length)).getD s' []=(rows.getD s' []).set c rows.length:=by
   rw [ag,aY (by rw [w.len];exact hs)];rfl
  rw [e1]
  have h4:(rows.getD s' []).length=4:=by rw [hg];rfl
  by_cases ec:c'=c
  ·subst ec
   rw [aJ ⟨rfl,rfl⟩,ag,aY (by rw [h4];exact Y2 hc),w.len];rfl
  ·rw [aH (fun h=>ec h.2),ag,aG (fun h=>ec h.symm),<- ag]
 ·rw [aH (fun h=>e h.1)]
  have e1:(rows.set s ((rows.getD s []).set c rows.length)).getD s' []=rows.getD s' []:=by
   rw [ag,aG (fun h=>e h.symm),<- ag]
  rw [e1]
theorem W4t (w:Wf es rows) {s c c':Nat} (cN:c'∈B7):B1 (W3 rows s c) es.length c'=1:=by
 unfold B1 W3
 have:es.length=(rows.set s ((rows.getD s []).set c rows.length)).length:=by rw [aZ,w.len]
 rw [this,Q7q]
 simp only [B7,aq,aP,bu]at cN
 rcases cN with rfl | rfl | rfl | rfl <;> rfl
theorem O6.put (T:O6 es rows P S) {s c:Nat} (hs:s<es.length) (s1:s≠1) (hc:c∈B7) (h:B1 rows s c=1):O6 (es++[false]) (W3 rows s c) (P++[P.getD s []++[c]]) S:=by
 have w:=T.wf
 have n2:=T.n2
 have el:(es++[false]).length=es.length+1:=by simp
 have at_:∀{s' c'},s'<es.length->c'∈B7->B1 (W3 rows s c) s' c'=if s'=s/\c'=c then es.length else B1 rows s' c':=fun h1 h2=>Y1n w hs hc h1 h2
 have new:∀{c'},c'∈B7->B1 (W3 rows s c) es.length c'=1:=fun h=>W4t w h
 have pa:∀{i},i<es.length->(P++[P.getD s []++[c]]).getD i []=P.getD i []:=fun h=>Q7p (by rw [T.lp];exact h)
 have pn:(P++[P.getD s []++[c]]).getD es.length []=P.getD s []++[c]:=by rw [<- T.lp];exact Q7q
 have rl:∀{s' c'},s'<es.length->c'∈B7->B1 rows s' c'<es.length:=fun h1 h2=>Q1s w h1 h2
 have oX:P.getD s []++[c]∉S:=fun jR=>by
  obtain⟨u,hu,u1,e⟩:=T.js _ jR
  have:=(T.back _ u rfl hu u1).2
  rw [e,Q8q,(T.back _ s rfl hs s1).2]at this
  exact u1 (this.symm.trans h)
 refine⟨⟨?_,by simp,fun r hr=>?_,fun r hr x hx=>?_⟩,by omega,by simp [T.lp],?_,fun c' cN=>?_,?_,fun s' c' dU fC cN h'=>?_,fun u hu u1 u0=>?_,fun s' dU fC=>?_,fun x hx=>?_⟩
 ·simp [W3,w.len]
 ·unfold W3 at hr
  rcases aS.mp hr with hr | hr
  ·rcases eL hr with hr | rfl
   ·exact w.r4 r hr
   ·rw [aZ,ag,Wf.rowEq w hs];rfl
  ·rw [aN.mp hr];rfl
 ·rw [el]
  unfold W3 at hr
  rcases aS.mp hr with hr | hr
  ·rcases eL hr with hr | rfl
   ·exact be (w.lt r hr x hx)
   ·rcases eL hx with hx | rfl
    ·rw [ag,Wf.rowEq w hs]at hx
     obtain⟨d,hd,rfl⟩:=au.mp hx
     exact be (rl hs hd)
    ·rw [w.len];exact cf _
  ·rw [aN.mp hr]at hx
   have:x=1:=by simpa using hx
   omega
 ·rw [pa w.pos];exact T.p0
 ·rw [at_ (by omega) cN,aH (fun h=>s1 h.1.symm)];exact T.r1 c' cN
 ·rw [Q7p (by omega)];exact T.e1
 ·rw [el]at dU
  by_cases en:s'=es.length
  ·rw [en,new cN]at h';exact absurd rfl h'
  ·have fV:s'<es.length:=by omega
   rw [at_ fV cN]at h' ⊢
   by_cases q:s'=s/\c'=c
   ·rw [aJ q,pn,pa fV,q.1,q.2]
   ·rw [aH q]at h' ⊢
    rw [pa (rl fV cN),pa fV]
    exact T.j1 s' c' fV fC cN h'
 ·rw [el]at hu
  by_cases en:u=es.length
  ·exact⟨s,c,by omega,s1,hc,by rw [en,pn,pa hs],by rw [at_ hs hc,aJ ⟨rfl,rfl⟩,en]⟩
  ·have nu:u<es.length:=by omega
   obtain⟨s',c',a1,a2,a3,a4,a5⟩:=T.j2 u nu u1 u0
   refine⟨s',c',by omega,a2,a3,by rw [pa nu,pa a1];exact a4,?_⟩
   rw [at_ a1 a3,aH (fun q=>u1 (by rw [<- a5,q.1,q.2];exact h))];exact a5
 ·rw [el]at dU
  by_cases en:s'=es.length
  ·rw [en,pn,Q7q]
   exact Iff.intro (fun q=>nomatch q) (fun q=>absurd q oX)
  ·have fV:s'<es.length:=by omega
   rw [pa fV,Q7p fV]
   exact T.je s' fV fC
 ·obtain⟨s',a1,a2,a3⟩:=T.js x hx
  exact⟨s',by omega,a2,by rw [pa a1];exact a3⟩
theorem O6.mark (T:O6 es rows P S) {s:Nat} (hs:s<es.length) (s1:s≠1):O6 (es.set s true) rows P (S++[P.getD s []]):=by
 have el:(es.set s true).length=es.length:=aZ
 refine⟨⟨by rw [el];exact T.wf.len,by rw [el];exact T.wf.pos,T.wf.r4,fun r hr x hx=>by rw [el];exact T.wf.lt r hr x hx⟩,by rw [el];exact T.n2,by rw [el];exact T.lp,T.p0,T.r1,?_,fun s' c h=>?_,fun u h=>?_,fun s' h fC=>?_,fun x hx=>?_⟩
 ·rw [ag,aG s1,<- ag];exact T.e1
 ·rw [el]at h;exact T.j1 s' c h
 ·rw [el]at h ⊢;exact T.j2 u h
 ·rw [el]at h
  by_cases e:s'=s
  ·subst e
   rw [ag,aY hs]
   simp
  ·rw [ag,aG (fun z=>e z.symm),<- ag,T.je s' h fC,aS,aN]
   exact⟨.inl,fun q=>q.elim id fun z=>absurd (T.inj h fC hs s1 z) e⟩
 ·rw [el]
  rcases aS.mp hx with hx | hx
  ·exact T.js x hx
  ·exact⟨s,hs,s1,(aN.mp hx).symm⟩
theorem O6.zero:O6 [false,false] [[1,1,1,1],[1,1,1,1]] [[],[]] []:=by
 refine⟨⟨rfl,by decide,by decide,by decide⟩,by decide,rfl,rfl,by decide,rfl,fun s c hs s1 hc h=>?_,fun u hu u1 u0=>?_,fun s hs s1=>?_,fun w hw=>by cases hw⟩
 ·have:s=0:=by simp at hs;omega
  subst this
  simp only [B7,aq,aP,bu]at hc
  rcases hc with rfl | rfl | rfl | rfl <;> exact absurd rfl h
 ·simp at hu;omega
 ·have:s=0:=by simp at hs;omega
  subst this
  simp
end
section
variable {τ:A6}{w1 w2 w:WE}{m m1 m2:K8}{n n1 n2:Nat}{g:Bool->Bool->Bool}
end
noncomputable def G1 (es:List Bool):K8:=(es,(List.range es.length).map fun s=>List.replicate 4 (if es.length-1<s+1 then es.length-1 else s+1))
noncomputable def sp_in_line:C7:=fun rs r=>∃es:List Bool,rs=[.st (.tup (es.map .bl))]/\0<es.length/\es.length<=1000/\r=.st (mD (G1 es))
theorem W5m:∀rs r,rs.length=1->sp_in_line rs r->Z4z (S9 r) (G4 Z0m rs):=by
 rintro rs r _ ⟨es,rfl,h0,h1,rfl⟩
 have en:(es.length:Int)-1=((es.length-1:Nat):Int):=by omega
 have er:G9 0 (es.length:Int).toNat=(List.range es.length).map iD:=by simp [G9]
 unfold Z4z
 simp only [K1,L7,F2,N9,E3,C1,F3,D8,W4,s_tup,E9,U6,Q8s]
 refine⟨_,rfl,?_⟩
 show E6 [R.st (.tup (es.map .bl))] _
 rw [Q6g,ah,Y0s,en]
 refine⟨trivial,?_⟩
 rw [U4]
 refine⟨_,rfl,_,rfl,?_⟩
 show E6 [R.st (.tup (es.map .bl))] _
 rw [Q6g,ah]
 refine⟨_,rfl,by omega,by omega,?_⟩
 rw [er]
 refine⟨sz (by simp;omega),?_⟩
 refine Z8 (f:=fun d=>match d with | .int k=>rD (List.replicate 4 (if es.length-1<k.toNat+1 then es.length-1 else k.toNat+1)) | d=>d) _ _ _ (fun d hd Q' q=>?_) ?_
 ·obtain⟨k,hk,rfl⟩:=au.mp hd
  simp only [E9,F2,s_tup,E3,N9,C1,F3,D8]
  refine⟨_,rfl,?_⟩
  show F8 (R.st (.int _)) (R.st (.int _)) _
  rw [Q2m]
  refine⟨_,rfl,?_⟩
  show Q6e [R.st (.int ((k:Int)+1)),R.st (.int ((es.length-1:Nat):Int))] _
  rw [W7h]
  refine⟨_,rfl,sz (by simp),?_⟩
  rw [Q8h]
  refine⟨by decide,?_⟩
  rw [W2g]
  refine⟨by decide,by decide,by simp,show((1:Nat):Int)*((Str.length "01ab":Nat):Int)<=(sizeLine:Int)by decide,?_⟩
  have e:(if ((es.length-1:Nat):Int)<(k:Int)+1 then((es.length-1:Nat):Int)else(k:Int)+1)=((if es.length-1<k+1 then es.length-1 else k+1:Nat):Int):=by
   by_cases h:es.length-1<k+1
   ·rw [aJ h,aJ (by omega)]
   ·rw [aH h,aH (by omega)];rfl
  rw [e]
  exact q
 ·rw [Q8i]
  refine⟨_,rfl,_,rfl,sz (by simp),?_⟩
  show R.st _=R.st _
  have e2:((List.range es.length).map iD).map (fun d=>match d with | .int k=>rD (List.replicate 4 (if es.length-1<k.toNat+1 then es.length-1 else k.toNat+1)) | d=>d)=(G1 es).2.map rD:=by
   unfold G1;rw [aO,aO];rfl
  rw [e2]
  rfl
noncomputable def Q8u:C7:=fun rs r=>rs=[]/\r=.st (mD (G1 [true]))
theorem W5l:∀rs r,rs.length=0->Q8u rs r->Z4y sp_in_line (S9 r) (G4 Z5y rs):=by
 rintro rs r _ ⟨rfl,rfl⟩
 unfold Z4y
 simp only [W4,U5,E3,s_tup,E9,F3,D8]
 exact⟨_,rfl,sz (by simp),rfl,_,⟨[true],rfl,by decide,by decide,rfl⟩,rfl⟩
theorem Z1o:Y0 (G1 [true]) where
 wf:=⟨rfl,by decide,by decide,by decide⟩
 met:=by decide
 seen:=by decide
 apart:=fun i j hi hj ne=>absurd (show i=j by have:(G1 [true]).1.length=1:=rfl;omega) ne
theorem Y8n {u:List Nat} (h:C0 u):R8 (G1 [true]) u=true:=by
 have:=W8f Z1o.wf u h
 unfold R8
 have e:stW (G1 [true]) u=0:=by have:(G1 [true]).1.length=1:=rfl;omega
 rw [e];rfl
theorem W0p {es:List Bool}{s c:Nat} (hs:s<es.length) (hc:c∈B7):B1 (G1 es).2 s c=if es.length-1<s+1 then es.length-1 else s+1:=by
 refine Y2b (f:=fun _=>if es.length-1<s+1 then es.length-1 else s+1) ?_ hc
 simp only [G1]
 rw [ak,List.getElem?_range hs];rfl
theorem Z9j {es:List Bool} (h:0<es.length):WfM (G1 es) where
 len:=by simp [G1]
 pos:=h
 r4:=fun r hr=>by obtain⟨s,_,rfl⟩:=au.mp hr;simp
 lt:=fun r hr x hx=>by
  obtain⟨s,hs,rfl⟩:=au.mp hr
  have:=bp.mp hs
  rw [List.eq_of_mem_replicate hx]
  show _<es.length
  split <;> omega
theorem Q2h {es:List Bool} (h:0<es.length):∀(w:List Nat) (i:Nat),C0 w->i<es.length->run (B1 (G1 es).2) i w=if es.length-1<i+w.length then es.length-1 else i+w.length
 | [],i,_,hi=>by
  show i=if es.length-1<i+0 then _ else i+0
  split <;> omega
 | c::w,i,hw,hi=>by
  have hc:=hw c ao
  show run (B1 (G1 es).2) (B1 (G1 es).2 i c) w=_
  rw [W0p hi hc,Q2h h w _ (fun d hd=>hw d (ar _ hd)) (by split <;> omega),ax]
  split <;> split <;> split <;> omega
theorem Q4r (n:Nat):C0 (List.replicate n 0):=fun c hc=>by rw [List.eq_of_mem_replicate hc];decide
noncomputable def P9 (k:Nat):List Bool:=List.replicate k false++[true,false]
noncomputable def P5 (k:Nat):List Bool:=List.replicate k true++[false]
theorem Z2 (k:Nat):(P9 k).length=k+2:=by simp [P9]
theorem Y1 (k:Nat):(P5 k).length=k+1:=by simp [P5]
theorem Z2z {k i:Nat} (h:i<k+2):(P9 k).getD i false=decide (i=k):=by
 unfold P9
 by_cases l:i<k
 ·rw [ag,aI (by simpa using l),List.getElem?_replicate,aJ l,aK (by omega)];rfl
 ·rw [ag,aQ (by simpa using l),aV]
  rcases (show i=k\/i=k+1 by omega)with e | e
  ·rw [e,Nat.sub_self,bV rfl];rfl
  ·rw [e,show k+1-k=1 by omega,aK (by omega)];rfl
theorem Z0z {k i:Nat} (h:i<k+1):(P5 k).getD i false=decide (i<k):=by
 unfold P5
 by_cases l:i<k
 ·rw [ag,aI (by simpa using l),List.getElem?_replicate,aJ l,bV l];rfl
 ·rw [ag,aQ (by simpa using l),aV,show i-k=0 by omega,aK l];rfl
theorem W2m {k:Nat}{w:List Nat} (hw:C0 w):R8 (G1 (P9 k)) w=decide (w.length=k):=by
 have hp:0<(P9 k).length:=by rw [Z2];omega
 show(P9 k).getD (run (B1 (G1 (P9 k)).2) 0 w) false=_
 rw [Q2h hp w 0 hw hp,Z2,Z2z (by split <;> omega)]
 congr 1
 exact propext ⟨fun h=>by split at h <;> omega,fun h=>by split <;> omega⟩
theorem Y6w {k:Nat}{w:List Nat} (hw:C0 w):R8 (G1 (P5 k)) w=decide (w.length<k):=by
 have hp:0<(P5 k).length:=by rw [Y1];omega
 show(P5 k).getD (run (B1 (G1 (P5 k)).2) 0 w) false=_
 rw [Q2h hp w 0 hw hp,Y1,Z0z (by split <;> omega)]
 congr 1
 exact propext ⟨fun h=>by split at h <;> omega,fun h=>by split <;> omega⟩
theorem Z6m {es:List Bool}{rows:List (List Nat)} (h:∀i j,i<j->j<es.length->∃w,C0 w/\J6 es rows i w≠J6 es rows j w):∀i j,i<es.length->j<es.length->i≠j->∃w,C0 w/\J6 es rows i w≠J6 es rows j w:=fun i j hi hj ne=>by
 rcases Nat.lt_or_gt_of_ne ne with l | l
 ·exact h i j l hj
 ·obtain⟨w,a,b⟩:=h j i l hi
  exact⟨w,a,fun e=>b e.symm⟩
theorem Y0z {k:Nat} (hk:k<=4):Y0 (G1 (P9 k)) where
 wf:=Z9j (by rw [Z2];omega)
 met:=by rcases (show k=0\/k=1\/k=2\/k=3\/k=4 by omega)with rfl | rfl | rfl | rfl | rfl <;> decide
 seen:=by rcases (show k=0\/k=1\/k=2\/k=3\/k=4 by omega)with rfl | rfl | rfl | rfl | rfl <;> decide
 apart:=Z6m fun i j jS hj=>by
  have hp:0<(P9 k).length:=by rw [Z2];omega
  have hj:j<k+2:=by rw [<- Z2];exact hj
  refine⟨List.replicate (k-i) 0,Q4r _,?_⟩
  show(P9 k).getD (run (B1 (G1 (P9 k)).2) i _) false≠(P9 k).getD (run (B1 (G1 (P9 k)).2) j _) false
  rw [Q2h hp _ i (Q4r _) (by rw [Z2];omega),Q2h hp _ j (Q4r _) (by rw [Z2];omega),Z2,aV,Z2z (by split <;> omega),Z2z (by split <;> omega)]
  rw [bV (by split <;> omega),aK (by split <;> omega)];decide
theorem Z6r {k:Nat} (hk:k<=4):Y0 (G1 (P5 k)) where
 wf:=Z9j (by rw [Y1];omega)
 met:=by rcases (show k=0\/k=1\/k=2\/k=3\/k=4 by omega)with rfl | rfl | rfl | rfl | rfl <;> decide
 seen:=by rcases (show k=0\/k=1\/k=2\/k=3\/k=4 by omega)with rfl | rfl | rfl | rfl | rfl <;> decide
 apart:=Z6m fun i j jS hj=>by
  have hp:0<(P5 k).length:=by rw [Y1];omega
  have hj:j<k+1:=by rw [<- Y1];exact hj
  refine⟨List.replicate (k-j) 0,Q4r _,?_⟩
  show(P5 k).getD (run (B1 (G1 (P5 k)).2) i _) false≠(P5 k).getD (run (B1 (G1 (P5 k)).2) j _) false
  rw [Q2h hp _ i (Q4r _) (by rw [Y1];omega),Q2h hp _ j (Q4r _) (by rw [Y1];omega),Y1,aV,Z0z (by split <;> omega),Z0z (by split <;> omega)]
  rw [bV (by split <;> omega),aK (by split <;> omega)];decide
theorem Y1x (b:Bool) (k:Nat):(List.replicate k [D.bl b]).flatten=(List.replicate k b).map D.bl:=by
 induction k with
 | zero=>rfl
 | succ k ih=>rw [bq,bS,ih,bq];rfl
noncomputable def Q4f:C7:=fun rs r=>∃k:Nat,rs=[.st (iD k)]/\k<=500/\r=.st (mD (G1 (P9 k)))
theorem W5g:∀rs r,rs.length=1->Q4f rs r->Z4v sp_in_line (S9 r) (G4 Z5x rs):=by
 rintro rs r _ ⟨k,rfl,hk,rfl⟩
 unfold Z4v
 simp only [W4,U5,E3,F2,s_tup,E9,F3,C1,D8]
 refine⟨_,rfl,sz (by simp),_,rfl,?_⟩
 show Q2l (R.st (.tup [.bl false])) (R.st (.int (k:Int))) _
 rw [Y0u]
 refine⟨by omega,by omega,by simp,by
  show((1:Nat):Int)*(k:Int)<=(sizeLine:Int);have:(1000:Int)<=(sizeLine:Int):=by decide
  omega,_,rfl,sz (by simp),?_⟩
 rw [bg,Y1x,Y0r]
 refine⟨sz (by simp;omega),rfl,_,⟨P9 k,?_,by rw [Z2];omega,by rw [Z2];omega,rfl⟩,rfl⟩
 show [R.st (.tup _)]=_
 unfold P9;rw [b7];rfl
noncomputable def Q4e:C7:=fun rs r=>∃k:Nat,rs=[.st (iD k)]/\k<=500/\r=.st (mD (G1 (P5 k)))
theorem W5f:∀rs r,rs.length=1->Q4e rs r->Z4u sp_in_line (S9 r) (G4 Z5w rs):=by
 rintro rs r _ ⟨k,rfl,hk,rfl⟩
 unfold Z4u
 simp only [W4,U5,E3,F2,s_tup,E9,F3,C1,D8]
 refine⟨_,rfl,sz (by simp),_,rfl,?_⟩
 show Q2l (R.st (.tup [.bl true])) (R.st (.int (k:Int))) _
 rw [Y0u]
 refine⟨by omega,by omega,by simp,by
  show((1:Nat):Int)*(k:Int)<=(sizeLine:Int);have:(1000:Int)<=(sizeLine:Int):=by decide
  omega,_,rfl,sz (by simp),?_⟩
 rw [bg,Y1x,Y0r]
 refine⟨sz (by simp;omega),rfl,_,⟨P5 k,?_,by rw [Y1];omega,by rw [Y1];omega,rfl⟩,rfl⟩
 show [R.st (.tup _)]=_
 unfold P5;rw [b7];rfl
theorem Q6a (rows:List (List Nat)):(G6 rows).length=rows.length:=by unfold G6;simp
theorem W0v {rows:List (List Nat)}{s c:Nat} (h:s<rows.length):(G6 rows).set s (((G6 rows).getD s []).set c (.int (((G6 rows).length:Nat):Int)))++[[.int 1,.int 1,.int 1,.int 1]]=G6 (W3 rows s c):=by
 rw [Q5z,Q6a]
 unfold G6 W3
 rw [b7,List.map_set,List.map_set];rfl
section
variable {es:List Bool}{rows P S:List (List Nat)}{a:Addr}
theorem Z2h {τ:A6} (w:Wf es rows) {s c:Nat} (hs:s<es.length) (hc:c∈B7) (h1:τ[1]?=some (some (.ll a (G6 rows)))) (h4:τ[4]?=some (some (.dat (iD s)))) (h6:τ[6]?=some (some (.dat (iD c)))) {Q:R->Prop} (q:Q (.st (iD (B1 rows s c)))):Q1v 1 (wV 4) (wV 6) τ Q:=by
 simp only [W6y,C1]
 have hr:s<rows.length:=by rw [w.len];exact hs
 refine⟨a,_,h1,_,h4,(s:Int),s,rfl,ixn (by rw [Q6a];exact hr),_,h6,(c:Int),iD (B1 rows s c),rfl,?_,q⟩
 rw [Q5z,ag,Wf.rowEq w hs]
 obtain⟨r,e,_,g⟩:=w.row hs
 have:=(g c (Y2 hc)).1
 rw [Wf.rowEq w hs]at e
 cases e
 exact X1 (by rw [Option.getD_some,ak,this];rfl)
def wIn:WS:=(B8 (C5 6 (Q4m (wC (.str "01ab")) (wV 5))) (B8 (U7 (A8 (O8 60 false) (Q1v 1 (wV 4) (wV 6)) (wC (.int 1))) (B8 (Q9w 1 (wV 4) (wV 6) (Q9u 1)) (B8 (Q9v 1 (N6 (A2 (B0 (wC (.int 1))) (A2 (B0 (wC (.int 1))) (A2 (B0 (wC (.int 1))) (A2 (B0 (wC (.int 1))) A4)))))) (X9 2 (B0 (wC (.bl false)))))) U8) (C5 4 (Q1v 1 (wV 4) (wV 6)))))
theorem Z1w {E:E7}{b0:List D}{d3:D}:∀(w:List Nat) (es:List Bool) (rows P:List (List Nat)) (s:Nat) (o5 o6:Option Sl),O6 es rows P S->s<es.length->s≠1->C0 w->es.length+w.length<=100000->D4 o5=true->D4 o6=true ->
  (∀cH cK P' s' o5 o6,O6 cH cK P' S->s'<cH.length->s'≠1->P'.getD s' []=P.getD s []++w->cH.length<=es.length+w.length->D4 o5=true->D4 o6=true->E.nx [some (.bor b0),some (.ll a (G6 cK)),some (.own (cH.map .bl)),some (.dat d3),some (.dat (iD s')),o5,o6]) ->
  C6 (B2 5) wIn E (w.map fun c=>.str (K2 c)) [some (.bor b0),some (.ll a (G6 rows)),some (.own (es.map .bl)),some (.dat d3),some (.dat (iD s)),o5,o6]
 | [],es,rows,P,s,o5,o6,T,hs,s1,_,_,n5,n6,h=>h es rows P s o5 o6 T hs s1 (by simp) (by simp) n5 n6
 | c::w,es,rows,P,s,o5,o6,T,hs,s1,hw,hz,n5,n6,h=>by
  rw [ax]at hz
  have hc:=hw c ao
  have nr:C0 w:=fun d hd=>hw d (ar _ hd)
  have wf:=T.wf
  rw [aw,C6]
  simp only [wIn,N2,K1,L7,Y2m,F3,C1]
  refine⟨_,rfl,_,rfl,_,c,rfl,Q7s hc,?_⟩
  rw [U4]
  simp only [Q2q,F2]
  refine Z2h wf hs hc rfl rfl rfl ?_
  rw [F3,Q0j]
  refine⟨_,_,rfl,rfl,ba _,?_⟩
  have e1:D.eq (iD (B1 rows s c)) (.int 1)=decide (B1 rows s c=1):=by
   show((B1 rows s c:Int)==1)=_
   by_cases q:B1 rows s c=1
   ·rw [q];rfl
   ·rw [aK q];exact bL.mpr (by omega)
  rw [show(if false=true then !D.eq (iD (B1 rows s c)) (.int 1)else D.eq (iD (B1 rows s c)) (.int 1))=D.eq (iD (B1 rows s c)) (.int 1)from rfl,e1]
  have nz:s<rows.length:=by rw [wf.len];exact hs
  by_cases q:B1 rows s c=1
  ·rw [aJ (by simpa using q)]
   simp only [K1,W7d,W7a,C1]
   refine⟨a,_,rfl,_,rfl,a,_,rfl,?_,_,rfl,(s:Int),s,rfl,ixn (by rw [Q6a];exact nz),_,rfl,(c:Int),c,rfl,ixn ?_,?_⟩
   ·show(D4 _&&([_,_,_,_,_]:A6).all D4)=true
    simp [D4]
   ·rw [Q5z,ah,ag,Wf.rowEq wf hs];exact Y2 hc
   have T2:=T.put hs s1 hc q
   have iA:=Y1n wf hs hc hs hc
   rw [aJ ⟨rfl,rfl⟩]at iA
   simp only [W7c,s_lst,E3,E9,F3,D8]
   refine⟨a,_,rfl,?_,?_,_,rfl,sz (by simp),_,rfl,?_⟩
   ·show(D4 _&&([_,_,_,_,_]:A6).all D4)=true
    simp [D4]
   ·rw [aZ,Q6a,wf.len];exact szl (by omega)
   simp only [Q8r,E9,F3]
   refine⟨_,rfl,_,rfl,szl (by simp;omega),?_⟩
   simp only [L7]
   have e2:es.map D.bl++[D.bl false]=(es++[false]).map D.bl:=by simp
   show Q1v 1 (wV 4) (wV 6) [some (Sl.bor b0),some (Sl.ll a ((G6 rows).set s (((G6 rows).getD s []).set c (.int (((G6 rows).length:Nat):Int)))++[[.int 1,.int 1,.int 1,.int 1]])),some (Sl.own (es.map D.bl++[D.bl false])),some (Sl.dat d3),some (Sl.dat (iD s)),some (Sl.dat (.str (K2 c))),some (Sl.dat (iD c))] _
   rw [W0v nz,e2]
   refine Z2h T2.wf (by simp;omega) hc rfl rfl rfl ?_
   rw [U4,iA]
   refine Z1w w (es++[false]) (W3 rows s c) _ es.length _ _ T2 (by simp) (by have:=T.n2;omega) nr (by simp;omega) rfl rfl fun cH cK P' s' o5 o6 T' dU fC e' l' n5 n6=>h cH cK P' s' o5 o6 T' dU fC ?_ (by rw [ax];simp at l';omega) n5 n6
   rw [e',<- T.lp,Q7q,bK];rfl
  ·rw [aH (by simpa using q)]
   simp only [Q4b,L7]
   refine Z2h wf hs hc rfl rfl rfl ?_
   rw [U4]
   refine Z1w w es rows P (B1 rows s c) _ _ T (Q1s wf hs hc) q nr (by omega) rfl rfl fun cH cK P' s' o5 o6 T' dU fC e' l' n5 n6=>h cH cK P' s' o5 o6 T' dU fC ?_ (by rw [ax];omega) n5 n6
   rw [e',T.j1 s c hs s1 hc q,bK];rfl
def wOut:WS:=(B8 (C5 4 (wC (.int 0))) (B8 (L1 (Q5l (wV 3)) (B2 5) wIn) (Z0a 2 (wV 4) (B0 (wC (.bl true))))))
theorem Y1b {E:E7}{b0:List D}:∀(ws:List (List Nat)) (es:List Bool) (rows P S:List (List Nat)) (o3 o4 o5 o6:Option Sl),O6 es rows P S->(∀w∈ws,C0 w/\w.length<=100)->es.length+100*ws.length<=20000->D4 o3=true->D4 o4=true->D4 o5=true->D4 o6=true ->
  (∀cH cK P' o3 o4 o5 o6,O6 cH cK P' (S++ws)->cH.length<=es.length+100*ws.length->D4 o3=true->D4 o4=true->D4 o5=true->D4 o6=true->E.nx [some (.bor b0),some (.ll a (G6 cK)),some (.own (cH.map .bl)),o3,o4,o5,o6]) ->
  C6 (B2 3) wOut E (ws.map tD) [some (.bor b0),some (.ll a (G6 rows)),some (.own (es.map .bl)),o3,o4,o5,o6]
 | [],es,rows,P,S,o3,o4,o5,o6,T,_,hz,n3,n4,n5,n6,h=>h es rows P o3 o4 o5 o6 (by simpa using T) (by simp) n3 n4 n5 n6
 | w::ws,es,rows,P,S,o3,o4,o5,o6,T,hw,hz,n3,n4,n5,n6,h=>by
  rw [ax]at hz
  obtain⟨ww,wl⟩:=hw w ao
  rw [aw,C6]
  simp only [wOut,N2,K1,L7,F3]
  rw [U4]
  simp only [T8,Y2l,C1]
  refine⟨_,rfl,_,rfl,?_⟩
  rw [Q4c ww]
  refine Z1w w es rows P 0 o5 o6 T T.wf.pos (by decide) ww (by omega) n5 n6 fun cH cK P' s' o5 o6 T' dU fC e' l' n5 n6=>?_
  simp only [W7m,E9,F3,C1]
  refine⟨_,rfl,_,rfl,_,rfl,(s':Int),s',rfl,ixn (by simpa using dU),?_⟩
  have T2:=T'.mark dU fC
  rw [e',T.p0,c6]at T2
  have em:(cH.map D.bl).set s' (.bl true)=(cH.set s' true).map D.bl:=by rw [List.map_set]
  show C6 _ _ _ _ [_,_,some (Sl.own ((cH.map D.bl).set s' (.bl true))),_,_,_,_]
  rw [em]
  refine Y1b ws (cH.set s' true) cK P' (S++[w]) _ _ _ _ T2 (fun x hx=>hw x (ar _ hx)) (by rw [aZ];omega) rfl rfl n5 n6 fun rg jy P2 o3 o4 o5 o6 T3 l3=>?_
  rw [bK]at T3
  exact h rg jy P2 o3 o4 o5 o6 T3 (by rw [aZ]at l3;rw [ax];omega)
noncomputable def Q2t:Q1:=fun rs Pr=>∃ws:List (List Nat),rs=[.bw (ws.map tD)]/\(∀w∈ws,C0 w/\w.length<=100)/\ws.length<=100/\∀m:K8,Y0 m->m.1.length<=2+100*ws.length->(∀u,C0 u->(R8 m u=true ↔ u∈ws))->Pr (.st (mD m))
theorem W1l:Q1z Q2t:=by rintro rs P Q f ⟨ws,e,h1,h2,h3⟩;exact⟨ws,e,h1,h2,fun m a b c=>f _ (h3 m a b c)⟩
theorem W5q:∀rs Pr,rs.length=1->Q2t rs Pr->Z5i Q2s (Q0p Pr) (G4 Z0q rs):=by
 rintro rs Pr _ ⟨ws,rfl,hw,hl,h⟩
 unfold Z5i
 simp only [K1,W7b,s_lst,E3,E9,F3,D8,L7,Y2i,T8,W4,Q6l,U6,Q4a,C1]
 refine⟨_,rfl,sz (by simp),_,rfl,_,rfl,sz (by simp),_,rfl,fun a=>?_⟩
 refine⟨_,rfl,sz (by simp),?_⟩
 rw [V4]
 refine⟨_,rfl,?_⟩
 refine Y1b (a:=a) ws [false,false] [[1,1,1,1],[1,1,1,1]] [[],[]] [] none none none none O6.zero hw (by simp;omega) rfl rfl rfl rfl fun es rows P o3 o4 o5 o6 T le n3 n4 n5 n6=>?_
 refine⟨a,_,rfl,?_,?_⟩
 ·show(true&&(true&&(D4 o3&&(D4 o4&&(D4 o5&&(D4 o6&&true))))))=true
  rw [n3,n4,n5,n6];rfl
 have wl:=T.wf.len
 have le:es.length<=2+100*ws.length:=le
 refine⟨_,rfl,_,rfl,_,rfl,sz (by rw [ah,Q6a];omega),?_⟩
 refine Z8 (f:=fun d=>match d with | .lst ds=>.tup ds | d=>d) _ none _ (fun d hd Q' q=>?_) ?_
 ·obtain⟨x,hx,rfl⟩:=au.mp hd
  simp only [E9,N9,E3,C1,D8]
  exact⟨_,rfl,_,rfl,q⟩
 have er:((G6 rows).map D.lst).map (fun d=>match d with | .lst ds=>D.tup ds | d=>d)=rows.map rD:=by
  unfold G6;rw [aO,aO];rfl
 rw [er]
 have wf:=T.wf
 have ll:=Z9e wf
 refine⟨rfl,_,es,rows,_,rfl,.inr rfl,.inl rfl,wf,by omega,h _ (W0f wf) (by omega) fun u hu=>?_⟩
 rw [W0g wf hu]
 have:=T.acc hu
 rwa [c6]at this
end
theorem Q8o (n:Nat):G9 0 n=(List.range n).map iD:=by
 unfold G9
 exact bc fun i _=>by show D.int (0+(i:Int))=.int (i:Int);rw [Int.zero_add]
theorem Y6t {l:List Nat}{x:Nat}:(l.map iD).any (fun e=>D.eq e (iD x))=decide (x∈l):=by
 rw [List.any_map,Bool.eq_iff_iff,dq,decide_eq_true_iff]
 constructor
 ·rintro ⟨y,hy,e⟩
  have:(y:Int)=x:=by simpa [D.eq]using e
  have:y=x:=by omega
  exact this ▸ hy
 ·intro h;exact⟨x,h,D.eq_refl _⟩
theorem Y7w (pre r:List Nat):Y3 ((pre++r).map iD) none (some (pre.length:Int))=pre.map iD:=by
 unfold Y3
 rw [HT.sIx_none,HT.sIx_nat,List.drop_zero,Nat.sub_zero,b7]
 rw [List.take_append_of_le_length (by rw [ah];exact Nat.min_le_left _ _)]
 have e:min pre.length (pre.map iD++r.map iD).length=(pre.map iD).length:=by rw [aD,ah];omega
 rw [e,List.take_length]
theorem Y0g (met:List Nat):∀(r pre:List Nat),(X6 met pre r).length<=r.length
 | [],_=>aj _
 | x::r,pre=>by
  unfold X6
  have:=Y0g met r (pre++[x])
  split
  ·rw [ax];omega
  ·rw [ax,ax];omega
def tN:WT:=(A8 (inL 59 true) (wV 1) (A8 F8 (wV 2) (D9 Q2i (A2 (wSl (wV 3) Z2t (Z2u (wV 0))) A4))))
theorem Z1j {met full:List Nat}:∀(r pre:List Nat) (o0 o1:Option Sl) (Q:List D->Prop),full=pre++r->met.length+full.length<=100000->Q ((X6 met pre r).map iD) ->
  G8 (P7 2 (F4 (B2 0) (F4 (B2 1) gNl))) tN (B0 (wV 1)) ((r.zipIdx pre.length).map fun p=>.tup [.int (p.2:Int),iD p.1]) [o0,o1,some (.bor (met.map iD)),some (.dat (.tup (full.map iD)))] Q
 | [],pre,o0,o1,Q,_,_,h=>h
 | x::r,pre,o0,o1,Q,e,hl,h=>by
  rw [cg,aw,G8]
  simp only [Q3y,Q3w,N2,Q3x,tN,F2,C1,N9,E3,s_sl,D8,E9]
  refine⟨_,rfl,rfl,_,_,rfl,_,_,rfl,rfl,_,rfl,_,rfl,_,rfl,?_⟩
  simp only [s_oN,s_oS,C1]
  refine⟨_,rfl,?_⟩
  have ec:Y3 (full.map iD) none (some (pre.length:Int))=pre.map iD:=by rw [e];exact Y7w _ _
  rw [P0,W2d,P0,W2j,W2f,ec]
  refine⟨_,rfl,?_⟩
  rw [W2h,Z2v]
  have il:met.length+pre.length<=100000:=by rw [e,aD]at hl;omega
  refine⟨sz (by simp only [ah];omega),_,_,rfl,rfl,fun d hd=>?_,?_⟩
  ·rw [<- b7]at hd
   obtain⟨y,_,rfl⟩:=au.mp hd
   exact ba _
  rw [<- b7,Y6t,aJ rfl]
  unfold X6 at h
  have e2:full=(pre++[x])++r:=by rw [e,bK];rfl
  have el:(pre++[x]).length=pre.length+1:=by simp
  by_cases hm:x∈met++pre
  ·rw [aJ hm]at h
   rw [aH (by simp [hm])]
   have:=Z1j r (pre++[x]) (some (.dat (.int (pre.length:Int)))) (some (.dat (iD x))) Q e2 hl h
   rw [el]at this
   exact this
  ·rw [aH hm]at h
   rw [aJ (by simp [hm])]
   refine⟨_,rfl,_,rfl,?_⟩
   have:=Z1j r (pre++[x]) (some (.dat (.int (pre.length:Int)))) (some (.dat (iD x))) (fun es=>Q (iD x::es)) e2 hl h
   rw [el]at this
   exact this
def wC1:WS:=(U7 (A8 (R9 fun i j=>decide (i<j)) (wV 3) (D9 E6 (A2 (wV 2) A4))) (B8 (C5 4 (A8 C3 (A8 C3 (wV 0) (wC (.int 1))) (wV 3))) (C5 2 (A8 F8 (wV 2) (N5 2 [2,4] (Q5p (A2 (wV 4) A4)) (P7 2 (F4 (B2 0) (F4 (B2 1) gNl))) tN (B0 (wV 1)))))) U8)
theorem Y0b {m:K8} (L:Y0 m) (hn:m.1.length<=1000) {E:E7}{o1:Option Sl}{rest:A6}:∀(k s:Nat) (o3 o4:Option Sl),s+k=m.1.length->(M8 [0] (m.2.take s)).length<=1+4*s ->
  (∀o3 o4,E.nx (some (.dat (mD m))::o1::some (.own ((M8 [0] m.2).map iD))::o3::o4::rest)) ->
  C6 (B2 3) wC1 E ((List.range' s k).map iD) (some (.dat (mD m))::o1::some (.own ((M8 [0] (m.2.take s)).map iD))::o3::o4::rest)
 | 0,s,o3,o4,hs,_,h=>by
  have e:m.2.take s=m.2:=List.take_of_length_le (by rw [L.wf.len];omega)
  rw [e]
  exact h o3 o4
 | k+1,s,o3,o4,hs,hl,h=>by
  have lt:s<m.1.length:=by omega
  have seen:=L.seen s lt
  obtain⟨r,hr,r4,_⟩:=Wf.row L.wf lt
  rw [List.range'_succ,aw,C6]
  simp only [wC1,N2,Q2q,F2,C1,N9,E3,D8,K1,L7,F3,U6,Y2n]
  refine⟨_,rfl,_,rfl,?_⟩
  rw [X7,Q2n,P0,Q1p,aJ (by rw [ah];simp only [cY];omega)]
  refine⟨_,rfl,Q9 (i:=1) rfl ⟨_,rfl,?_⟩⟩
  refine Q9 (i:=s) (d:=.tup (r.map iD)) (by rw [ak,hr];rfl) ?_
  rw [U4]
  refine⟨_,rfl,_,rfl,_,_,rfl,rfl,?_⟩
  have ee:G0 (r.map iD)=(r.zipIdx 0).map fun p=>.tup [.int (p.2:Int),iD p.1]:=by
   unfold G0;rw [List.zipIdx_map,aO];rfl
  rw [ee]
  refine⟨sz (by rw [ah,List.length_zipIdx];omega),?_⟩
  refine Z1j (met:=M8 [0] (m.2.take s)) (full:=r) r [] none none _ rfl (by omega) ?_
  have nl:=Y0g (M8 [0] (m.2.take s)) r []
  rw [X7,Z2v]
  refine⟨sz (by simp only [ah];omega),?_⟩
  rw [V4,<- b7]
  have et:m.2.take (s+1)=m.2.take s++[r]:=by
   rw [List.take_add_one,hr];rfl
  have em:M8 [0] (m.2.take s)++X6 (M8 [0] (m.2.take s)) [] r=M8 [0] (m.2.take (s+1)):=by rw [et,Q8d]
  rw [em]
  refine Y0b L hn k (s+1) _ _ (by omega) ?_ h
  rw [<- em,aD];omega
noncomputable def G5 (ps:List (Nat×Nat)) (f:AF):List (List A7×D):=ps.map fun p=>(pK p,.bl (f p))
theorem Z9b (p q:Nat×Nat):decide (pK p=pK q)=decide (p=q):=by
 by_cases e:p=q
 ·rw [e];simp
 ·rw [aK e,aK fun z=>e (Y1c _ _ z)]
theorem Z2d {ps:List (Nat×Nat)}{f:AF}{q:Nat×Nat} (h:q∈ps):C9 (G5 ps f) (pK q)=some (.bl (f q)):=by
 induction ps with
 | nil=>cases h
 | cons p ps ih =>
  by_cases e:p=q
  ·rw [e];simp [G5,C9,b8]
  ·rcases aq.mp h with z | h
   ·exact absurd z.symm e
   ·have s:C9 (G5 (p::ps) f) (pK q)=C9 (G5 ps f) (pK q):=by
     unfold C9 G5
     rw [aw,b8]
     show Option.map _ (match decide (pK p=pK q)with | true=>_ | false=>_)=_
     rw [Z9b,aK e]
    rw [s];exact ih h
theorem W0a {ps:List (Nat×Nat)}{f:AF}{q:Nat×Nat} (h:q∉ps):L0 (G5 ps f) (pK q) (.bl (f q))=G5 (ps++[q]) f:=by
 unfold L0
 rw [aH]
 ·unfold G5;rw [b7];rfl
 ·unfold G5
  rw [List.any_map,dq]
  rintro ⟨p,hp,e⟩
  simp only [Function.comp,Z9b,cY]at e
  exact h (e ▸ hp)
theorem W0b {ps:List (Nat×Nat)}{f:AF}{q:Nat×Nat}{v:Bool} (h:q∈ps):L0 (G5 ps f) (pK q) (.bl v)=G5 ps fun p=>if p=q then v else f p:=by
 unfold L0
 rw [aJ]
 ·unfold G5
  rw [aO]
  refine bc fun p _=>?_
  simp only [Function.comp]
  by_cases e:p=q
  ·rw [aJ e,aJ (by rw [e])]
  ·rw [aH e,aH fun z=>e (Y1c _ _ z)]
 ·unfold G5
  rw [List.any_map,dq]
  exact⟨q,h,by simp⟩
theorem Q3l (i j:Nat):U2 [iD i,iD j]=some (pK (i,j)):=rfl
def wF1:WS:=(Q4l 5 (R1 (A2 (B0 (wV 6)) (A2 (B0 (wV 7)) A4))) (wB (A8 (O8 59 true) (A8 C3 (A8 C3 (wV 0) (wC (.int 0))) (wV 6)) (A8 C3 (A8 C3 (wV 0) (wC (.int 0))) (wV 7)))))
theorem Z8a (a b:Bool):D.eq (.bl a) (.bl b)=(a==b):=by cases a <;> cases b <;> rfl
theorem Z8b {m:K8}{o1 o2 o3 o4 o8 o9:Option Sl}{E:E7}{i:Nat} (hi:i<m.1.length) (hn:m.1.length<=1000) {done:List (Nat×Nat)} (hd:∀p∈done,p.1<i) (hl:done.length<=1000000):∀(k t:Nat) (o7:Option Sl),t+k=m.1.length ->
  (∀o7,E.nx [some (.dat (mD m)),o1,o2,o3,o4,some (.dt (G5 (done++(List.range m.1.length).map fun j=>(i,j)) (ap0 m.1))),some (.dat (iD i)),o7,o8,o9]) ->
  C6 (B2 7) wF1 E ((List.range' t k).map iD) [some (.dat (mD m)),o1,o2,o3,o4,some (.dt (G5 (done++(List.range t).map fun j=>(i,j)) (ap0 m.1))),some (.dat (iD i)),o7,o8,o9]
 | 0,t,o7,ht,h=>by
  have:t=m.1.length:=by omega
  rw [this];exact h o7
 | k+1,t,o7,ht,h=>by
  have lt:t<m.1.length:=by omega
  rw [List.range'_succ,aw,C6]
  simp only [wF1,N2,Y2g,s_b,F2,C1,F3,s_tup,E3,E9,D8]
  refine⟨_,rfl,Q9 (i:=0) rfl ⟨_,rfl,Q9 (i:=i) (Z1b hi) ?_⟩⟩
  refine⟨_,rfl,Q9 (i:=0) rfl ⟨_,rfl,Q9 (i:=t) (Z1b lt) ?_⟩⟩
  rw [Q0j]
  refine⟨_,_,rfl,rfl,ba _,_,rfl,_,rfl,_,rfl,_,rfl,_,rfl,sz (by simp),_,_,rfl,Q3l i t,?_,?_⟩
  ·unfold G5
   rw [ah,aD,ah,cu]
   show _<2 ^ 24
   omega
  rw [aJ rfl,Z8a]
  have nn:(i,t)∉done++(List.range t).map fun j=>(i,j):=fun z=>by
   rcases aS.mp z with z | z
   ·exact aT _ (hd _ z)
   ·obtain⟨j,hj,e⟩:=au.mp z
    have:=bp.mp hj
    cases e
    omega
  have e:=W0a (f:=ap0 m.1) nn
  have e2:(done++(List.range t).map fun j=>(i,j))++[(i,t)]=done++(List.range (t+1)).map fun j=>(i,j):=by
   rw [List.range_succ,b7,bK];rfl
  rw [e2]at e
  have e3:(D.bl (!(m.1.getD i false==m.1.getD t false)))=.bl (ap0 m.1 (i,t)):=rfl
  rw [e3,e]
  exact Z8b hi hn hd hl k (t+1) _ (by omega) h
theorem W3a (i n:Nat):K9 (i+1) n=K9 i n++(List.range n).map fun j=>(i,j):=by
 unfold K9
 rw [List.range_succ,List.flatMap_append]
 simp
theorem fill {m:K8}{o2 o3 o4 o8 o9:Option Sl}{E:E7} (hn:m.1.length<=1000):∀(k i:Nat) (o6 o7:Option Sl),i+k=m.1.length ->
  (∀o6 o7,E.nx [some (.dat (mD m)),some (.dat (iD m.1.length)),o2,o3,o4,some (.dt (G5 (K9 m.1.length m.1.length) (ap0 m.1))),o6,o7,o8,o9]) ->
  C6 (B2 6) (L1 (X3 (A2 (wV 1) A4)) (B2 7) wF1) E ((List.range' i k).map iD) [some (.dat (mD m)),some (.dat (iD m.1.length)),o2,o3,o4,some (.dt (G5 (K9 i m.1.length) (ap0 m.1))),o6,o7,o8,o9]
 | 0,i,o6,o7,hi,h=>by
  have:i=m.1.length:=by omega
  rw [this];exact h o6 o7
 | k+1,i,o6,o7,hi,h=>by
  have lt:i<m.1.length:=by omega
  rw [List.range'_succ,aw,C6]
  simp only [N2,T8,Q3z,E3,C1,D8]
  refine⟨_,rfl,_,rfl,by omega,by omega,?_⟩
  rw [bg,Q8o,List.range_eq_range']
  have hl:(K9 i m.1.length).length<=1000000:=by
   rw [Z3c]
   have:i*m.1.length<=1000*1000:=Nat.mul_le_mul (by omega) hn
   omega
  have:=Z8b (E:={ E with nx:=C6 (B2 6) (L1 (X3 (A2 (wV 1) A4)) (B2 7) wF1) E ((List.range' (i+1) k).map iD),ct:=C6 (B2 6) (L1 (X3 (A2 (wV 1) A4)) (B2 7) wF1) E ((List.range' (i+1) k).map iD),bk:=E.nx }) (o1:=some (.dat (iD m.1.length))) (o2:=o2) (o3:=o3) (o4:=o4) (o8:=o8) (o9:=o9) lt hn (done:=K9 i m.1.length) (fun p hp=>(Q3p.mp hp).1) hl m.1.length 0 o7 (cZ _) (fun o7=>by
   rw [<- W3a]
   exact fill hn k (i+1) _ _ (by omega) h)
  rw [List.range_zero,List.map_nil,bD]at this
  exact this
@[simp] theorem W6h {n:Nat}{we:WE} {τ:A6}{Q:R->Prop}:Q9n n we τ Q=∃kvs,τ[n]?=some (some (.bd kvs))/\we τ fun r=>∃ds ks d,r=.st (.tup ds)/\U2 ds=some ks/\C9 kvs ks=some d/\Q (.st d):=rfl
theorem Y2d {es:List Bool}{rows:List (List Nat)} (wf:Wf es rows) {i:Nat} (h:i<es.length):rows[i]?=some (B7.map (B1 rows i)):=by
 obtain⟨r,hr,r4,hc⟩:=wf.row h
 rw [hr]
 congr 1
 refine List.ext_getElem? fun c=>?_
 by_cases lt:c<4
 ·rw [(hc c lt).1]
  have:c=0\/c=1\/c=2\/c=3:=by omega
  rcases this with rfl | rfl | rfl | rfl <;> rfl
 ·rw [cr (by omega),cr (by simp;omega)]
theorem Y6s (f:Nat->Bool) (l:List Nat):(l.map fun c=>D.bl (f c)).any (fun e=>D.eq e (.bl true))=l.any f:=by
 rw [List.any_map]
 congr 1
 funext c
 simp only [Function.comp,Z8a]
 cases f c <;> rfl
def wG1:WS:=(B8 (C5 9 (N5 1 [5] (Q3j (A2 (A8 C3 (A8 C3 (wV 0) (wC (.int 1))) (wV 6)) (A2 (A8 C3 (A8 C3 (wV 0) (wC (.int 1))) (wV 7)) A4))) (B2 0) P3 (B0 (Q9n 1 (wV 0))))) (Q4l 5 (R1 (A2 (B0 (wV 6)) (A2 (B0 (wV 7)) A4))) (Q9y (Q9q 5 (R1 (A2 (B0 (wV 6)) (A2 (B0 (wV 7)) A4)))) (wB (A8 (inL 59 false) (wC (.bl true)) (wV 9))))))
noncomputable def afD (f:AF):D->D
 | .tup [.int a,.int b]=>.bl (f (a.toNat,b.toNat))
 | d=>d
theorem Y4z {m:K8} (wf:WfM m) (hn:m.1.length<=1000) {o1 o2 o3 o4 o8:Option Sl}{E:E7}:∀(ps:List (Nat×Nat)) (f:AF) (o6 o7 o9:Option Sl),(∀p∈ps,p.1<m.1.length/\p.2<m.1.length) ->
  (∀o6 o7 o9,E.nx [some (.dat (mD m)),o1,o2,o3,o4,some (.dt (G5 (K9 m.1.length m.1.length) (Q9g m.2 ps f))),o6,o7,o8,o9]) ->
  C6 (P7 2 (F4 (B2 6) (F4 (B2 7) gNl))) wG1 E (ps.map pD) [some (.dat (mD m)),o1,o2,o3,o4,some (.dt (G5 (K9 m.1.length m.1.length) f)),o6,o7,o8,o9]
 | [],f,o6,o7,o9,_,h=>h o6 o7 o9
 | p::ps,f,o6,o7,o9,hp,h=>by
  obtain⟨h1,h2⟩:=hp p ao
  have pin:p∈K9 m.1.length m.1.length:=Q3p.mpr ⟨h1,h2⟩
  rw [aw,C6]
  simp only [wG1,Q3y,Q3w,N2,Q3x,K1,L7,U6,Y2q,E3,F2,C1,F3,D8,Y2g,s_tup,E9,W7j,W6k,s_b]
  refine⟨_,rfl,rfl,_,_,rfl,_,_,rfl,rfl,_,rfl,Q9 (i:=1) rfl ⟨_,rfl,?_⟩⟩
  refine Q9 (i:=p.1) (d:=.tup ((B7.map (B1 m.2 p.1)).map iD)) (by rw [ak,Y2d wf h1];rfl) ?_
  refine⟨_,rfl,Q9 (i:=1) rfl ⟨_,rfl,?_⟩⟩
  refine Q9 (i:=p.2) (d:=.tup ((B7.map (B1 m.2 p.2)).map iD)) (by rw [ak,Y2d wf h2];rfl) ?_
  refine⟨_,_,_,_,rfl,rfl,rfl,?_⟩
  have ez:R4 ((B7.map (B1 m.2 p.1)).map iD) ((B7.map (B1 m.2 p.2)).map iD)=B7.map fun c=>.tup [iD (B1 m.2 p.1 c),iD (B1 m.2 p.2 c)]:=rfl
  rw [ez]
  refine⟨sz (by simp),?_⟩
  refine Z8 (f:=afD f) _ none _ (fun d hd Q' q=>?_) ?_
  ·obtain⟨c,hc,rfl⟩:=au.mp hd
   have q:Q' (.st (.bl (f (B1 m.2 p.1 c,B1 m.2 p.2 c)))):=by
    simp only [afD,bg]at q;exact q
   simp only [E9,W6h,C1]
   refine⟨_,rfl,_,rfl,_,_,_,rfl,Q3l _ _,Z2d (Q3p.mpr ⟨Q1s wf h1 hc,Q1s wf h2 hc⟩),q⟩
  have es:(B7.map fun c=>D.tup [iD (B1 m.2 p.1 c),iD (B1 m.2 p.2 c)]).map (afD f)=B7.map fun c=>.bl (f (B1 m.2 p.1 c,B1 m.2 p.2 c)):=by
   rw [aO]
   exact bc fun c _=>by simp only [Function.comp,afD,bg]
  rw [es,V4]
  have ll:(G5 (K9 m.1.length m.1.length) f).length<sizeLine:=by
   unfold G5
   rw [ah,Z3c]
   have:m.1.length*m.1.length<=1000*1000:=Nat.mul_le_mul hn hn
   show _<2 ^ 24
   omega
  have go:∀(v:Bool),v=(f p||B7.any fun c=>f (B1 m.2 p.1 c,B1 m.2 p.2 c))->C6 (P7 2 (F4 (B2 6) (F4 (B2 7) gNl))) wG1 E (ps.map pD) [some (.dat (mD m)),o1,o2,o3,o4,some (.dt (L0 (G5 (K9 m.1.length m.1.length) f) (pK p) (.bl v))),some (.dat (iD p.1)),some (.dat (iD p.2)),o8,some (.own (B7.map fun c=>.bl (f (B1 m.2 p.1 c,B1 m.2 p.2 c))))]:=fun v hv=>by
   rw [W0b pin]
   have eu:(fun q=>if q=p then v else f q)=upF m.2 p f:=by funext q;unfold upF;rw [hv]
   rw [eu]
   exact Y4z wf hn ps _ _ _ _ (fun q hq=>hp q (ar _ hq)) h
  refine⟨_,rfl,_,rfl,_,rfl,_,rfl,sz (by simp),_,_,_,rfl,Q3l p.1 p.2,Z2d pin,?_⟩
  rw [o_bl]
  by_cases hf:f p=true
  ·rw [aJ (show f (p.1,p.2)=true from hf)]
   exact⟨_,rfl,_,rfl,_,rfl,_,rfl,_,rfl,sz (by simp),_,_,rfl,Q3l p.1 p.2,ll,go true (by rw [hf];rfl)⟩
  ·rw [aH (show ¬ f (p.1,p.2)=true from hf)]
   refine⟨_,rfl,_,_,rfl,rfl,fun d hd=>?_,?_⟩
   ·obtain⟨c,_,rfl⟩:=au.mp hd;exact ba _
   rw [aH bF,Y6s]
   exact⟨_,rfl,_,rfl,_,rfl,_,rfl,_,rfl,sz (by simp),_,_,rfl,Q3l p.1 p.2,ll,go _ (by rw [Bool.not_eq_true]at hf;rw [hf];rfl)⟩
theorem W0s {kvs:List (List A7×D)}{Q:R->Prop}:Q1n [.dt kvs] Q=Q (.nw (kvs.map fun p=>ktD p.1)):=by simp only [Q1n]
theorem Y5c {m:K8} (wf:WfM m) (hn:m.1.length<=1000) {o1 o2 o3 o4:Option Sl}{E:E7}:∀(l:List D) (f:AF) (o6 o7 o8 o9:Option Sl),
  (∀o6 o7 o8 o9,E.nx [some (.dat (mD m)),o1,o2,o3,o4,some (.dt (G5 (K9 m.1.length m.1.length) (Q9i m.2 (K9 m.1.length m.1.length) l.length f))),o6,o7,o8,o9]) ->
  C6 (B2 8) (L1 (Q0w (B0 (D9 Q1n (A2 (wV 5) A4)))) (P7 2 (F4 (B2 6) (F4 (B2 7) gNl))) wG1) E l [some (.dat (mD m)),o1,o2,o3,o4,some (.dt (G5 (K9 m.1.length m.1.length) f)),o6,o7,o8,o9]
 | [],f,o6,o7,o8,o9,h=>h o6 o7 o8 o9
 | d::l,f,o6,o7,o8,o9,h=>by
  rw [C6]
  simp only [N2,T8,Q6m,E9,N9,E3,C1,D8]
  refine⟨_,rfl,?_⟩
  have el:(G5 (K9 m.1.length m.1.length) f).map (fun p=>ktD p.1)=(K9 m.1.length m.1.length).map pD:=by
   unfold G5;rw [aO];rfl
  rw [show Q0 (.dt (G5 (K9 m.1.length m.1.length) f))=.dt (G5 (K9 m.1.length m.1.length) f)from rfl,W0s,el]
  refine⟨_,rfl,?_⟩
  exact Y4z wf hn _ f _ _ _ (fun p hp=>Q3p.mp hp) fun o6 o7 o9=>Y5c wf hn l _ _ _ _ _ h
section
variable {K:Fg9}{n:Nat}{we:WE}{wr:WA}{w:WS}{E:E7} {τ:A6}
@[simp] theorem W7e {Q:R->Prop}:Q9x wr τ Q=wr τ fun rs=>∃j:Int,rs=[.st (.int j)]/\0<=j/\j<=2 ^ 24/\Q (.nw (G9 0 j.toNat)):=rfl
@[simp] theorem Y2k:Z4j K n w E τ=w { E with nx:=fun τ'=>∃kvs,τ'[n]?=some (some (.dt kvs))/\∀a,E.nx (τ'.set n (some (.cl a (FzT K a kvs)))) } τ:=rfl
@[simp] theorem Y2o {Q:List D->Prop}:Z2a K n τ Q=∃a kvs,τ[n]?=some (some (.cl a (FzT K a kvs)))/\Q (kvs.map fun p=>ktD p.1):=rfl
@[simp] theorem W7n {Q:R->Prop}:Z0b K n we τ Q=∃a kvs,τ[n]?=some (some (.cl a (FzT K a kvs)))/\we τ fun r=>∃ds ks d,r=.st (.tup ds)/\U2 ds=some ks/\C9 kvs ks=some d/\Q (.st d):=rfl
def tL (K:Fg9):WT:=(Q9l (A8 (O8 59 true) (A8 C3 (wV 0) (wC (.int 0))) (A8 C3 (wV 0) (wC (.int 1)))) (Q4q (Q6u (Z0b K 1 (wV 0)))))
theorem Z7r {a:Addr}{ps0:List (Nat×Nat)}{f:AF}{Q:List D->Prop}:∀(ps:List (Nat×Nat)) (o:Option Sl),(∀p∈ps,p∈ps0/\(p.1≠p.2->f p=true))->Q [] ->
  G8 (B2 0) (tL K) (B0 (wV 0)) (ps.map pD) [o,some (.cl a (FzT K a (G5 ps0 f)))] Q
 | [],o,_,h=>h
 | p::ps,o,hp,h=>by
  obtain⟨h1,h2⟩:=hp p ao
  rw [aw,G8]
  simp only [N2,tL,W6e,F2,C1,F3,Y2u,Y2v,W7n]
  refine⟨_,rfl,Q9 (i:=0) rfl ⟨_,rfl,Q9 (i:=1) rfl ?_⟩⟩
  rw [Q0j]
  refine⟨_,_,rfl,rfl,ba _,?_⟩
  rw [aJ rfl]
  have next:G8 (B2 0) (tL K) (B0 (wV 0)) (ps.map pD) [some (.dat (pD p)),some (.cl a (FzT K a (G5 ps0 f)))] Q:=Z7r ps _ (fun q hq=>hp q (ar _ hq)) h
  by_cases e:p.1=p.2
  ·rw [aH (by rw [e,D.eq_refl];simp),aH bF]
   exact next
  ·rw [aJ (by
    cases z:D.eq (iD p.1) (iD p.2)with
    | false=>rfl
    | true =>
     have:(p.1:Int)=p.2:=by simpa [D.eq]using z
     omega)]
   refine⟨_,_,rfl,_,rfl,_,_,_,rfl,Q3l p.1 p.2,Z2d h1,?_⟩
   rw [Y0w,h2 e,aH (by decide)]
   exact next
end
theorem Y8c (l:List Nat):D.depth (.lst (l.map iD))<=59:=by
 have h:∀l:List Nat,D.depths (l.map iD)<=0:=fun l=>by
  induction l with
  | nil=>exact aj _
  | cons a l ih=>simp only [aw,D.depths,D.depth];omega
 simp only [D.depth]
 have:=h l
 omega
noncomputable def Q6o:C7:=fun rs r=>∃m:K8,rs=[.st (mD m)]/\Y0 m/\m.1.length<=1000/\r=.st (.bl true)
theorem W5n {K:Fg9}:∀rs r,rs.length=1->Q6o rs r->Z5d K (S9 r) (G4 Q2z rs):=by
 rintro rs r _ ⟨m,rfl,L,hn,rfl⟩
 have r0:List.range m.1.length=List.range' 0 m.1.length:=List.range_eq_range'
 unfold Z5d
 simp only [K1,L7,N9,E3,F2,C1,F3,D8,s_lst,E9,T8,Q6m,Q2q,Y2f,Q3z,W4,Q4b,W7e,Y2k,s_b,U6,Y2o]
 refine⟨_,rfl,Q9 (i:=0) rfl ?_⟩
 rw [Q6g,ah,U4]
 refine⟨_,rfl,sz (by simp),?_⟩
 rw [V4]
 refine⟨_,rfl,_,rfl,by omega,by omega,?_⟩
 rw [bg,Q8o,r0]
 refine⟨_,rfl,?_⟩
 refine Y0b L hn m.1.length 0 none none (cZ _) (by simp [M8]) fun o3 o4=>?_
 refine⟨_,rfl,_,rfl,_,rfl,by omega,by omega,?_⟩
 rw [bg,Q8o,X7]
 dsimp only
 rw [Q0j,L.met]
 refine⟨_,_,rfl,rfl,?_,?_⟩
 ·exact Y8c _
 rw [D.eq_refl,aJ rfl,aH (by decide)]
 simp only [Q4b,K1,Y2f,T8,Q3z,E3,C1,D8]
 refine⟨_,rfl,_,rfl,by omega,by omega,?_⟩
 rw [bg,Q8o,r0]
 refine fill hn m.1.length 0 none none (cZ _) fun o6 o7=>?_
 simp only [Y2k,T8,Q3z,E3,C1,D8]
 refine⟨_,rfl,_,rfl,by omega,by omega,?_⟩
 refine Y5c L.wf hn _ _ _ _ _ _ fun o6 o7 o8 o9=>?_
 refine⟨_,rfl,fun a=>?_⟩
 simp only [W4,s_b,F2,U6,Y2o]
 refine⟨a,_,rfl,?_⟩
 have el:∀f:AF,(G5 (K9 m.1.length m.1.length) f).map (fun p=>ktD p.1)=(K9 m.1.length m.1.length).map pD:=fun f=>by
  unfold G5;rw [aO];rfl
 have len:(G9 0 (m.1.length:Int).toNat).length=m.1.length:=by unfold G9;simp
 rw [el,len]
 refine⟨sz ?_,?_⟩
 ·rw [ah,Z3c]
  have:m.1.length*m.1.length<=1000*1000:=Nat.mul_le_mul hn hn
  omega
 refine Z7r (K:=K) (ps0:=K9 m.1.length m.1.length) (a:=a) _ none (fun p hp=>⟨hp,fun ne=>?_⟩) ?_
 ·obtain⟨h1,h2⟩:=Q3p.mp hp
  exact L.turns (fun i j hi hj=>Q3p.mpr ⟨hi,hj⟩) h1 h2 ne
 simp only [s_lst,D8]
 refine⟨_,rfl,sz (by simp),?_⟩
 rw [Q0j]
 exact⟨_,_,rfl,rfl,by decide,rfl⟩
end MC
end
section
namespace K34
open PySem PySem.Spec PyProof.Rows L2 TK MC
abbrev Q2y:List Str:=["_law_script","_law_some","_law_many","_law_told","_law_text_here","_law_due"]
def Z5a   (c9:C7) (eB:C7) (Q2t:Q1) (Q4f:C7) (Q4e:C7) (cS:C7) (du:C7) (dQ:C7) (dz:C7):WS:=(B8 (C5 1 (N5 1 [0] (Q5q (A2 (N4 c9 (A2 (wV 0) (A2 (wC (.int 60)) (A2 (wC (.int 6)) A4)))) A4)) (B2 0) P3 (B0 (N4 eB (A2 (wV 1) (A2 (A8 W1 (wC (.int 10)) (wV 0)) (A2 (wC (.int 4)) A4))))))) (B8 (C5 2 (N4 c9 (A2 (wV 0) (A2 (wC (.int 61)) (A2 (wC (.int 5)) A4))))) (B8 (C5 3 (N6 (A2 (B0 (Q1b Q2t (A2 (wV 1) A4))) (A2 (B0 (N4 Q4f (A2 (wV 2) A4))) (A2 (B0 (N4 Q4e (A2 (wV 2) A4))) (A2 (B0 (Q9o cS)) A4)))))) (B8 (U7 (A8 (O8 59 true) (N5 1 [] (Q0c (wV 3)) (B2 0) (Q4q (Q6u (N4 du (A2 (wV 0) A4)))) (B0 (wV 0))) (N6 A4)) (P4 (wC (.bl false))) U8) (B8 (L1 (Q0w (B0 (N4 dQ (A2 (wC (.int 4)) A4)))) (B2 4) (B8 (C5 5 (N6 (A2 (B0 (wB (A8 (inL 59 false) (wV 4) (wV 1)))) (A2 (B0 (wB (A8 (O8 60 false) (D9 E6 (A2 (wV 4) A4)) (wV 2)))) (A2 (B0 (wB (A8 (R9 fun i j=>decide (i<j)) (D9 E6 (A2 (wV 4) A4)) (wV 2)))) (A2 (B0 (wC (.bl true))) A4)))))) (U7 (A8 (O8 59 true) (N5 1 [4] (Q0c (wV 3)) (B2 0) P3 (B0 (N4 dz (A2 (wV 0) (A2 (wV 1) A4))))) (wV 5)) (P4 (wC (.bl false))) U8))) (P4 (wB (A8 (O8 60 false) (D9 E6 (A2 (A8 C3 (Q9o cS) (wC (.int 0))) A4)) (wC (.int 1))))))))))
noncomputable def Q6p:Q1:=fun rs Pr=>∃ns:List Int,rs=[.st (scr ns)]/\ns.length<=63/\Pr (.st (.bl true))
theorem Z6l {Q:List D->Prop}:∀(ms:List K8) (o:Option Sl),(∀m∈ms,Y0 m/\m.1.length<=1000)->Q []->G8 (B2 0) (Q4q (Q6u (N4 MC.Q6o (A2 (wV 0) A4)))) (B0 (wV 0)) (ms.map mD) [o] Q
 | [],_,_,q=>q
 | m::ms,o,h,q=>by
  obtain⟨h1,h2⟩:=h m ao
  rw [aw,G8]
  simp only [N2,Y2u,Y2v,U5,E3,C1,D8]
  refine⟨_,rfl,rfl,_,⟨m,rfl,h1,h2,rfl⟩,?_⟩
  rw [Y0w,aH (by decide)]
  exact Z6l ms _ (fun m hm=>h m (ar _ hm)) q
theorem Z6k {w:List Nat} (hw:C0 w):∀(ms:List K8) (o:Option Sl) (Q:List D->Prop),(∀m∈ms,WfM m)->Q (ms.map fun m=>.bl (R8 m w))->G8 (B2 0) P3 (B0 (N4 Q4d (A2 (wV 0) (A2 (wV 1) A4)))) (ms.map mD) [o,some (.dat (tD w))] Q
 | [],_,_,_,q=>q
 | m::ms,o,Q,h,q=>by
  rw [aw,G8]
  simp only [N2,E9,U5,E3,C1,D8]
  rw [W7o,aJ rfl]
  refine⟨_,rfl,_,rfl,rfl,_,⟨m,w,rfl,h m ao,hw,rfl⟩,_,rfl,?_⟩
  exact Z6k hw ms _ (fun es=>Q (.bl (R8 m w)::es)) (fun m hm=>h m (ar _ hm)) q
theorem Y8b (l:List Bool):D.depth (.lst (l.map D.bl))<=59:=by
 have h:∀l:List Bool,D.depths (l.map D.bl)<=0:=fun l=>by
  induction l with
  | nil=>exact aj _
  | cons a l ih=>simp only [aw,D.depths,D.depth];omega
 simp only [D.depth]
 have:=h l
 omega
theorem Y6u {ws:List (List Nat)}{w:List Nat} (h:∀x∈ws,C0 x) (hw:C0 w):(ws.map tD).any (fun e=>D.eq e (tD w))=decide (w∈ws):=by
 rw [Bool.eq_iff_iff,dq,decide_eq_true_iff]
 constructor
 ·rintro ⟨d,hd,e⟩
  obtain⟨x,hx,rfl⟩:=au.mp hd
  have e:(O3 x==O3 w)=true:=e
  rw [<- W8x (h x hx) hw (by simpa using e)];exact hx
 ·intro hm
  exact⟨tD w,au.mpr ⟨w,hm,rfl⟩,D.eq_refl _⟩
def wB1:WS:=(B8 (C5 5 (N6 (A2 (B0 (wB (A8 (inL 59 false) (wV 4) (wV 1)))) (A2 (B0 (wB (A8 (O8 60 false) (D9 E6 (A2 (wV 4) A4)) (wV 2)))) (A2 (B0 (wB (A8 (R9 fun i j=>decide (i<j)) (D9 E6 (A2 (wV 4) A4)) (wV 2)))) (A2 (B0 (wC (.bl true))) A4)))))) (U7 (A8 (O8 59 true) (N5 1 [4] (Q0c (wV 3)) (B2 0) P3 (B0 (N4 Q4d (A2 (wV 0) (A2 (wV 1) A4))))) (wV 5)) (P4 (wC (.bl false))) U8))
noncomputable abbrev Q2d (m:K8) (k:Nat):List K8:=[m,G1 (P9 k),G1 (P5 k),G1 [true]]
theorem Y4p {m:K8}{k:Nat}{cB:List (List Nat)} (L:Y0 m) (hk:k<=4) (hm:∀u,C0 u->(R8 m u=true ↔ u∈cB)) (hs:∀x∈cB,C0 x) {E:E7}{o0:Option Sl}:∀(ws:List (List Nat)) (o4 o5:Option Sl),(∀w∈ws,C0 w/\w.length<=1000) ->
  (∀o4 o5,E.nx [o0,some (.own (cB.map tD)),some (.dat (iD k)),some (.own ((Q2d m k).map mD)),o4,o5]) ->
  C6 (B2 4) wB1 E (ws.map tD) [o0,some (.own (cB.map tD)),some (.dat (iD k)),some (.own ((Q2d m k).map mD)),o4,o5]
 | [],o4,o5,_,h=>h o4 o5
 | w::ws,o4,o5,hw,h=>by
  obtain⟨ww,wl⟩:=hw w ao
  have tl:(O3 w).length=w.length:=Y4o ww
  rw [aw,C6]
  simp only [wB1,N2,K1,L7,s_lst,E3,E9,s_b,F2,C1,N9,F3,D8]
  refine⟨_,rfl,_,rfl,_,_,rfl,rfl,fun e he=>?_,?_⟩
  ·obtain⟨x,_,rfl⟩:=au.mp he;exact ba _
  dsimp only
  rw [Y6u hs ww]
  refine⟨_,rfl,?_⟩
  show E6 [R.st (.str (O3 w))] _
  rw [Q8h,tl]
  refine⟨sz (by omega),_,rfl,?_⟩
  rw [Q0j]
  refine⟨_,_,rfl,rfl,ba _,_,rfl,?_⟩
  show E6 [R.st (.str (O3 w))] _
  rw [Q8h,tl]
  refine⟨sz (by omega),_,rfl,?_⟩
  show R9 _ (R.st (.int (w.length:Int))) (R.st (.int (k:Int))) _
  rw [Q1p]
  refine⟨_,rfl,sz (by simp),?_⟩
  rw [V4]
  have d1:D.eq (.int (w.length:Int)) (iD k)=decide (w.length=k):=by
   show((w.length:Int)==(k:Int))=_
   by_cases q:w.length=k
   ·rw [q];simp
   ·rw [aK q];exact bL.mpr (by omega)
  have d2:decide ((w.length:Int)<(k:Int))=decide (w.length<k):=by
   congr 1;exact propext ⟨fun h=>by omega,fun h=>by omega⟩
  have am:R8 m w=decide (w∈cB):=by rw [Bool.eq_iff_iff,decide_eq_true_iff];exact hm w ww
  have mw:(Q2d m k).map (fun m=>D.bl (R8 m w))=[.bl (decide (w∈cB)),.bl (D.eq (.int (w.length:Int)) (iD k)),.bl (decide ((w.length:Int)<(k:Int))),.bl true]:=by
   show [D.bl (R8 m w),.bl (R8 (G1 (P9 k)) w),.bl (R8 (G1 (P5 k)) w),.bl (R8 (G1 [true]) w)]=_
   rw [am,W2m ww,Y6w ww,Y8n ww,d1,d2]
  simp only [Q2q,F2,U6,Q4a,C1]
  refine⟨_,rfl,_,rfl,sz (by simp),?_⟩
  refine Z6k ww (Q2d m k) none _ (fun x hx=>?_) ?_
  ·simp only [Q2d,aq,aP,bu]at hx
   rcases hx with rfl | rfl | rfl | rfl
   ·exact L.wf
   ·exact(Y0z hk).wf
   ·exact(Z6r hk).wf
   ·exact Z1o.wf
  refine⟨_,rfl,?_⟩
  rw [mw,Q0j]
  refine⟨_,_,rfl,rfl,Y8b [decide (w∈cB),D.eq (.int (w.length:Int)) (iD k),decide ((w.length:Int)<(k:Int)),true],?_⟩
  rw [show(if false=true then !decide (w∈cB)else decide (w∈cB))=decide (w∈cB)from rfl,show(if false=true then !D.eq (.int (w.length:Int)) (iD k)else D.eq (.int (w.length:Int)) (iD k))=D.eq (.int (w.length:Int)) (iD k)from rfl,D.eq_refl,aJ rfl,aH (by decide)]
  exact Y4p L hk hm hs ws _ _ (fun u hu=>hw u (ar _ hu)) h
theorem W9t:∀w∈Z5n 4,w.length<=4:=by decide +kernel
theorem W5o:∀rs Pr,rs.length=1->Q6p rs Pr->Z5a Q4g Q8w Q2t Q4f Q4e Q8u MC.Q6o Q8x Q4d (Q0p Pr) (G4 Q2y rs):=by
 rintro rs Pr _ ⟨ns,rfl,hn,h⟩
 have hd:=Q3f ns 60 (m:=6) (by decide)
 have hk:=Q3f ns 61 (m:=5) (by decide)
 have er:G9 0 (O7 ns 60 6:Int).toNat=(List.range (O7 ns 60 6)).map iD:=by simp [G9]
 unfold Z5a
 rw [K1,L7]
 simp only [U6,Q8s,E3,U5,C1,F3,D8]
 refine⟨_,rfl,rfl,_,⟨ns,60,6,rfl,hn,by decide,rfl⟩,?_⟩
 rw [show Q0u ns 60 6=(O7 ns 60 6:Int)from Q5g ns 60 (m:=6) (by decide)]
 refine⟨_,rfl,by omega,by omega,?_⟩
 rw [er]
 refine⟨sz (by simp;omega),?_⟩
 refine Z8 (f:=fun d=>match d with | .int j=>tD (X8 ns (10*j) 4) | d=>d) _ _ _ (fun d hd Q' q=>?_) ?_
 ·obtain⟨j,_,rfl⟩:=au.mp hd
  simp only [E9,U5,E3,C1,F2,F3,D8]
  refine⟨_,rfl,_,rfl,?_⟩
  show W1 (R.st (.int 10)) (R.st (.int (j:Int))) _
  rw [Y0t]
  refine⟨.inl ⟨by decide,by decide⟩,rfl,_,⟨ns,10*(j:Int),4,rfl,hn,by decide,rfl⟩,?_⟩
  exact q
 have e:((List.range (O7 ns 60 6)).map iD).map (fun d=>match d with | .int j=>tD (X8 ns (10*j) 4) | d=>d)=((List.range (O7 ns 60 6)).map fun(j:Nat)=>X8 ns (10*(j:Int)) 4).map tD:=by
  rw [aO,aO];rfl
 have hs:∀x∈(List.range (O7 ns 60 6)).map fun(j:Nat)=>X8 ns (10*(j:Int)) 4,C0 x/\x.length<=100:=fun x hx=>by
  obtain⟨j,_,rfl⟩:=au.mp hx
  exact⟨Y4n _ _ _,aX (Y4m _ _ _) (by decide)⟩
 have pV:((List.range (O7 ns 60 6)).map fun(j:Nat)=>X8 ns (10*(j:Int)) 4).length<=100:=by simp;omega
 rw [e]
 generalize ((List.range (O7 ns 60 6)).map fun(j:Nat)=>X8 ns (10*(j:Int)) 4)=cB at *
 rw [V4,K1,L7]
 simp only [U5,E3,C1,F3,D8]
 refine⟨_,rfl,rfl,_,⟨ns,61,5,rfl,hn,by decide,rfl⟩,?_⟩
 rw [show Q0u ns 61 5=(O7 ns 61 5:Int)from Q5g ns 61 (m:=5) (by decide),U4]
 generalize O7 ns 61 5=k at *
 have hk:k<=4:=by omega
 rw [K1,L7]
 simp only [s_lst,E3,E9,Q6l,U5,Y2e,C1,D8]
 refine⟨_,rfl,rfl,cB,rfl,hs,pV,fun m L lm hm=>?_⟩
 refine⟨_,rfl,rfl,_,⟨k,rfl,by omega,rfl⟩,_,rfl,rfl,_,⟨k,rfl,by omega,rfl⟩,_,⟨rfl,rfl⟩,_,rfl,sz (by simp),?_⟩
 rw [V4,K1]
 simp only [Q2q,F2,U6,Q4a,C1,s_lst,D8]
 refine⟨_,rfl,_,rfl,sz (by simp),?_⟩
 have pU:cB.length<=5:=by have:=congrArg List.length e;simp at this;omega
 have l0:m.1.length<=1000:=by omega
 refine Z6l (Q2d m k) none (fun x hx=>?_) ?_
 ·simp only [Q2d,aq,aP,bu]at hx
  rcases hx with rfl | rfl | rfl | rfl
  ·exact⟨L,l0⟩
  ·exact⟨Y0z hk,by show(P9 k).length<=1000;rw [Z2];omega⟩
  ·exact⟨Z6r hk,by show(P5 k).length<=1000;rw [Y1];omega⟩
  ·exact⟨Z1o,by decide⟩
 refine⟨_,rfl,sz (by simp),?_⟩
 rw [Q0j]
 refine⟨_,_,rfl,rfl,by decide,?_⟩
 rw [D.eq_refl,aJ rfl,aH (by decide)]
 simp only [Q4b]
 rw [K1]
 simp only [T8,Q6m,E9,U5,E3,F3,D8]
 refine⟨rfl,_,⟨4,rfl,by decide,rfl⟩,_,rfl,?_⟩
 refine Y4p L hk hm (fun x hx=>(hs x hx).1) _ _ _ (fun w hw=>⟨W9u hw,aX (W9t w hw) (by decide)⟩) fun o4 o5=>?_
 simp only [W4,s_b,F2,N9,E3,Y2e,F3,D8]
 refine⟨_,⟨rfl,rfl⟩,Q9 (i:=0) rfl ?_⟩
 rw [Q6g,ah,Q0j]
 exact⟨_,_,rfl,rfl,ba _,h⟩
local macro_rules | `(tactic| trivial)=>`(tactic| first | exact Or.inl rfl | exact Or.inr rfl)
def top (i:Nat):Stmt:=PySem.Challenge.pw_textkinds_k34_lists.main.body.getD i (.Pass ⟨0,0,0,0⟩)
structure Txt (K:Fg9) (mg:Str->Option Value) (w:World):Prop where
 m_enumerate:mg "enumerate"=none
 m_len:mg "len"=none
 m_list:mg "list"=none
 m_max:mg "max"=none
 m_min:mg "min"=none
 m_range:mg "range"=none
 m_tuple:mg "tuple"=none
 m_zip:mg "zip"=none
 c_SIGNS:∃t,mg "SIGNS"=some (.str "01ab" t)
theorem Q5b:bootBuiltins "enumerate"=some (.type "enumerate"):=by decide +kernel
theorem Z1d:bootBuiltins "list"=some (.type "list"):=by decide +kernel
theorem Z6y:bootBuiltins "max"=some (.builtin "max"):=by decide +kernel
theorem Y7a:bootBuiltins "min"=some (.builtin "min"):=by decide +kernel
abbrev Z3v:Stmt:=top 2
abbrev Q8y:Stmt:=top 3
abbrev Q4i:Stmt:=top 4
abbrev Q9d:Stmt:=top 5
abbrev Q9e:Stmt:=top 6
abbrev Q6q:Stmt:=top 7
abbrev Q9c:Stmt:=top 9
abbrev Q8z:Stmt:=top 10
abbrev Z3p:Stmt:=top 11
abbrev Z3o:Stmt:=top 12
abbrev Z3q:Stmt:=top 13
abbrev Z3s:Stmt:=top 15
abbrev Z3t:Stmt:=top 16
abbrev Q9a:Stmt:=top 17
abbrev Q9b:Stmt:=top 18
abbrev Z3u:Stmt:=top 20
abbrev Z3r:Stmt:=top 21
abbrev Q2v:Stmt:=top 22
abbrev Q2u:Stmt:=top 23
structure Env (P:Program) (w:World) (K:Fg9) (mg:Str->Option Value) (base:Heap) (ts:List Addr) (ad:Nat->Addr) (fn:Nat->FuncData):Prop where
 T:Txt K mg w
 hBM:Q0n mg base
 D_walked:Df K mg "walked" Z3v ["start","step"] (ad 0) (fn 0)
 D_all_reached:Df K mg "all_reached" Q8y ["some","onward"] (ad 1) (fn 1)
 D_distances:Df K mg "distances" Q4i ["ends","rows","wanted"] (ad 2) (fn 2)
 D_numbered:Df K mg "numbered" Q9d ["marks"] (ad 3) (fn 3)
 D_told_apart:Df K mg "told_apart" Q9e ["ends","rows"] (ad 4) (fn 4)
 D_least:Df K mg "least" Q6q ["ends","rows"] (ad 5) (fn 5)
 D_machine_of:Df K mg "machine_of" Q9c ["some"] (ad 6) (fn 6)
 D_in_line:Df K mg "in_line" Q8z ["ends"] (ad 7) (fn 7)
 D_all_of:Df K mg "all_of" Z3p ["many"] (ad 8) (fn 8)
 D_all_below:Df K mg "all_below" Z3o ["many"] (ad 9) (fn 9)
 D_everything:Df K mg "everything" Z3q [] (ad 10) (fn 10)
 D_law_cell:Df K mg "_law_cell" Z3s ["_law_script","_law_k"] (ad 11) (fn 11)
 D_law_drawn:Df K mg "_law_drawn" Z3t ["_law_script","_law_k","_law_many"] (ad 12) (fn 12)
 D_law_text:Df K mg "_law_text" Q9a ["_law_script","_law_at","_law_most"] (ad 13) (fn 13)
 D_law_texts:Df K mg "_law_texts" Q9b ["_law_long"] (ad 14) (fn 14)
 D_law_state:Df K mg "_law_state" Z3u ["_law_machine_told","_law_state_here","_law_text_here"] (ad 15) (fn 15)
 D_law_accepts:Df K mg "_law_accepts" Z3r ["_law_machine_told","_law_text_here"] (ad 16) (fn 16)
 D_law_is_least:Df K mg "_law_is_least" Q2v ["_law_told"] (ad 17) (fn 17)
 D_law:Df K mg "law" Q2u ["_law_script"] (ad 18) (fn 18)
 C_least:∃c Pt,Q4s K "least" "least" Q6q (ad 5) (fn 5) c Pt/\Pt∈ts
section
variable {P:Program}{w:World}{K:Fg9}{mg:Str->Option Value}{base:Heap}{ts:List Addr}{ad:Nat->Addr}{fn:Nat->FuncData} (Z:Env P w K mg base ts ad fn)
include Z
omit Z in
theorem Y3q:K5 MC.Y6h ["start","step"] (C2 Z3v):=Q6 (by decide +kernel)
theorem Y6g:FnD P w K mg base 3 (ad 0) (fn 0) ["start","step"] (sp_walkedK (FnC P w K mg base 2)):=by
 have nd:=Y3q.nd
 refine Z.D_walked.ok Y3q (ws:=MC.Z5l (FnC P w K mg base 2) ) (fun cdv A outer s H E hr=>?_) MC.W5w
 exact(A5.cons (DS.sv 2 (DE.lst (DA.one (DE.fz (DE.v 0)))) nd) (A5.cons (DS.knew1 (i:=3) (DE.v 0) DE.int nd rfl (by trivial)) (A5.cons (DS.sv 4 (DE.lst DA.nil) nd) (A5.cons (DS.fzO 2 (DS.whl b9 (DT.cmp Q7j Q5f (DE.len Z.T.m_len (DE.v 4)) (DE.len Z.T.m_len (DE.v 2)) (T5 _)) (A5.cons (DS.sv 5 (DE.ix (DE.v 2) (DE.len Z.T.m_len (DE.v 4)) (fun _ _=>rfl)) nd) (A5.cons (DS.sv 6 (DE.lst DA.nil) nd) (A5.cons (DS.for b9 rfl (DI.rng1 rfl Z.T.m_range (DA.one (DE.len Z.T.m_len (DE.gstr rfl Z.T.c_SIGNS)))) (DG.nm (i:=7) nd rfl (by trivial)) (A5.cons (DS.sv 8 (DE.callC (k:=2) (hr.mono (by decide)) (pv 1) (DA.cons (DE.v 5) (DA.one (DE.v 7)))) nd) (A5.cons (DS.ife (DT.knotin (D5.hu1 hr) (DE.v 8) (pv 3)) (A5.cons (DS.kput (D5.hu1 hr) (pv 3) (DE.v 8) (DE.len Z.T.m_len (DE.v 2))) (A5.one (DS.append (pv 2) (DE.fz (DE.v 8))))) A5.nil) (A5.one (DS.append (pv 6) (DE.fz (DE.kget (D5.hu1 hr) (pv 3) (DE.v 8) (fun _ _=>rfl)))))))) (A5.one (DS.append (pv 4) (DE.fz (DE.tpl Z.T.m_tuple (DE.v 6)))))))))) (A5.one (DS.ret (DE.tup (DA.cons (DE.fz (DE.v 2)) (DA.one (DE.fz (DE.tpl Z.T.m_tuple (DE.v 4))))))))))))
omit Z in
theorem Y3a:K5 MC.Z0l ["some","onward"] (C2 Q8y):=Q6 (by decide +kernel)
theorem Y5w:FnT P w K mg base ts 1 (ad 1) (fn 1) ["some","onward"] (sp_all_reached K):=by
 have nd:=Y3a.nd
 refine Fun.okP Z.D_all_reached.F Y3a (ws:=MC.Z4w  K ) (fun cdv A outer s H E hT hr=>?_) MC.W5h
 exact(A5.cons (DS.setKC (i:=2) rfl (P6 (sc:=C2 Q8y) (N0:=MC.Z0l) (N:=["state"]) (nt:=1) (cap:=[]) rfl rfl (by decide +kernel)) (D7.lst (DE.v 0)) (fun _ _ _ _=>(DG.nm (i:=0) (show List.Nodup (["state"]:List Str)by decide +kernel) rfl (by trivial))) (fun _ _ _ _=>(DE.v 0)) (fun _ _ _ _=>(DE.fz DE.int)) nd rfl (by trivial)) (A5.cons (DS.sv 3 (DE.callTy (Y7g rfl) W0r rfl Z.T.m_list Z1d (DA.one (DE.v 2))) nd) (A5.cons (DS.sv 4 DE.int nd) (A5.cons (DS.whl b9 (DT.cmp Q7j Q5f (DE.v 4) (DE.len Z.T.m_len (DE.v 3)) (T5 _)) (A5.cons (DS.sv 5 (DE.ix (DE.v 3) (DE.v 4) (fun _ _=>rfl)) nd) (A5.cons (DS.for b9 rfl (DI.lst (DE.fz (DE.ix (DE.v 1) (DE.v 5) (fun _ _=>rfl)))) (DG.nm (i:=6) nd rfl (by trivial)) (A5.one (DS.ife (DT.knotin (D5.hu1 hr) (DE.v 6) (pv 2)) (A5.cons (DS.kput (D5.hu1 hr) (pv 2) (DE.v 6) (DE.op S6 S5 (DE.kget (D5.hu1 hr) (pv 2) (DE.v 5) (fun _ _=>rfl)) DE.int)) (A5.one (DS.append (pv 3) (DE.fz (DE.v 6))))) A5.nil))) (A5.one (DS.aug (i:=4) W2o X4 DE.int nd rfl (by trivial)))))) (A5.one (DS.retK (pv 2)))))))
omit Z in
theorem Y3b:K5 MC.Q4v ["ends","rows","wanted"] (C2 Q4i):=Q6 (by decide +kernel)
theorem Z5s:FnT P w K mg base ts 2 (ad 2) (fn 2) ["ends","rows","wanted"] sp_distances:=by
 have nd:=Y3b.nd
 refine Fun.okP Z.D_distances.F Y3b (ws:=MC.Z4x  K (sp_all_reached K)) (fun cdv A outer s H E hT hr=>?_) MC.W5j
 exact(A5.cons (DS.setLC (i:=3) rfl (P6 (sc:=C2 Q4i) (N0:=MC.Q4v) (N:=["row"]) (nt:=1) (cap:=[]) rfl rfl (by decide +kernel)) (D7.or (D7.tup (DE.v 1)) (D7.lst (DE.v 1))) (fun _ _ _ _=>(DG.nm (i:=0) (show List.Nodup (["row"]:List Str)by decide +kernel) rfl (by trivial))) (fun _ _ _ _=>(DE.lst DA.nil)) nd rfl (by trivial)) (A5.cons (DS.fzL 3 (DS.for b9 rfl (DI.or (DI.enumX rfl Z.T.m_enumerate Q5b (DA.one (DE.v 1))) (DI.enumF rfl Z.T.m_enumerate Q5b (DA.one (DE.v 1)))) (DG.tp (n:=2) rfl (K3.cons (DG.nm (i:=4) nd rfl (by trivial)) (K3.cons (DG.nm (i:=5) nd rfl (by trivial)) K3.nil))) (A5.one (DS.for b9 rfl (DI.tup (DE.v 5)) (DG.nm (i:=6) nd rfl (by trivial)) (A5.one (DS.llapp (pv 3) (DE.v 6) (DE.fz (DE.v 4)) (fun _ _=>rfl) ⟨rfl,rfl,rfl,rfl⟩)))))) (A5.cons (DS.setF (i:=7) (DE.clP (W1j) (Y5w Z) hr hT Z.D_all_reached (DA.cons (DE.comp rfl (P6 (sc:=C2 Q4i) (N0:=MC.Q4v) (N:=["state","end","wanted"]) (nt:=2) (cap:=[2]) rfl rfl (by decide +kernel)) (D7.enumX rfl Z.T.m_enumerate Q5b (DA.one (DE.v 0))) (fun _ _ _ _=>(DG.tp (n:=2) rfl (K3.cons (DG.nm (i:=0) (show List.Nodup (["state","end","wanted"]:List Str)by decide +kernel) rfl (by trivial)) (K3.cons (DG.nm (i:=1) (show List.Nodup (["state","end","wanted"]:List Str)by decide +kernel) rfl (by trivial)) K3.nil)))) (fun _ _ _ _=>(M3.one (DT.cmp (Q3d (n:=60) (Q3h hr)) Y6 (DE.v 1) (DE.v 2) (T5 _)))) (fun _ _ _ _=>(DE.fz (DE.v 0)))) (DA.one (DE.v 3)))) nd rfl (by trivial)) (A5.one (DS.ret (DE.comp rfl (P6 (sc:=C2 Q4i) (N0:=MC.Q4v) (N:=["state","reached"]) (nt:=1) (cap:=[7]) rfl rfl (by decide +kernel)) (D7.rng1 rfl Z.T.m_range (DA.one (DE.len Z.T.m_len (DE.v 0)))) (fun _ _ _ _=>(DG.nm (i:=0) (show List.Nodup (["state","reached"]:List Str)by decide +kernel) rfl (by trivial))) (fun _ _ _ _=>M3.nil) (fun _ _ _ _=>(DE.fz (DE.fget1 (D5.hu1 hr) (pv 1) (DE.v 0) ⟨rfl,rfl,rfl,rfl⟩)))))))))
omit Z in
theorem Y3o:K5 MC.Z0r ["marks"] (C2 Q9d):=Q6 (by decide +kernel)
theorem Z5v:FnD P w K mg base 1 (ad 3) (fn 3) ["marks"] sp_numbered:=by
 have nd:=Y3o.nd
 refine Z.D_numbered.ok Y3o (ws:=MC.Z5j  ) (fun cdv A outer s H E hr=>?_) MC.W5r
 exact(A5.numb rfl (by have:=hr.units;show _+9<cLine;exact Nat.lt_of_le_of_lt (Nat.add_le_add_left (by decide) _) this) (P6 (sc:=C2 Q9d) (N0:=MC.Z0r) (N:=["mark","numbers"]) (nt:=1) (cap:=[1]) rfl rfl (by decide +kernel)) (D7.lst (DE.v 0)) (fun _ _ _ _=>Y1g (show List.Nodup (["mark","numbers"]:List Str)by decide +kernel) rfl (by trivial)) (fun _ _ _ _=>W3v (by have:=hr.units;show _+9<cLine;exact Nat.lt_of_le_of_lt (Nat.add_le_add_left (by decide) _) this) (pv 1) (pv 0) rfl Z.T.m_len (pv 1) ⟨rfl,rfl,rfl,rfl⟩) nd rfl (by trivial))
omit Z in
theorem Y3p:K5 MC.Z0s ["ends","rows"] (C2 Q9e):=Q6 (by decide +kernel)
theorem Y6f:FnT P w K mg base ts 3 (ad 4) (fn 4) ["ends","rows"] sp_told_apart:=by
 have nd:=Y3p.nd
 refine Fun.okP Z.D_told_apart.F Y3p (ws:=MC.Z5k  sp_numbered sp_distances) (fun cdv A outer s H E hT hr=>?_) MC.W5v
 exact(A5.cons (DS.sv 2 (DE.fz (DE.cl (Z5v Z) hr Z.D_numbered (DA.one (DE.listZip rfl rfl Z.T.m_list rfl Z.T.m_zip (DA.cons (DE.clP (Y0d) (Z5s Z) hr hT Z.D_distances (DA.cons (DE.v 0) (DA.cons (DE.v 1) (DA.one DE.bl)))) (DA.one (DE.clP (Y0d) (Z5s Z) hr hT Z.D_distances (DA.cons (DE.v 0) (DA.cons (DE.v 1) (DA.one DE.bl)))))))))) nd) (A5.cons (DS.sv 3 DE.int nd) (A5.cons (DS.whl b9 (DT.cmp Y7q Q5f (DE.callB (Z7a rfl) Z9v rfl Z.T.m_max Z6y (DA.one (DE.v 2))) (DE.v 3) (T5 _)) (A5.cons (DS.sv 3 (DE.op S6 S5 (DE.callB (Z7a rfl) Z9v rfl Z.T.m_max Z6y (DA.one (DE.v 2))) DE.int) nd) (A5.one (DS.sv 2 (DE.fz (DE.cl (Z5v Z) hr Z.D_numbered (DA.one (DE.comp rfl (P6 (sc:=C2 Q9e) (N0:=MC.Z0s) (N:=["block","row","blocks"]) (nt:=2) (cap:=[2]) rfl rfl (by decide +kernel)) (D7.zipA rfl Z.T.m_zip (DA.cons (DE.v 2) (DA.one (DE.v 1)))) (fun _ _ _ _=>(DG.tp (n:=2) rfl (K3.cons (DG.nm (i:=0) (show List.Nodup (["block","row","blocks"]:List Str)by decide +kernel) rfl (by trivial)) (K3.cons (DG.nm (i:=1) (show List.Nodup (["block","row","blocks"]:List Str)by decide +kernel) rfl (by trivial)) K3.nil)))) (fun _ _ _ _=>M3.nil) (fun _ _ _ _=>(DE.fz (DE.tup (DA.cons (DE.fz (DE.v 0)) (DA.one (DE.fz (DE.tpl Z.T.m_tuple (DE.comp rfl (P6 (N0:=["block","row","blocks"]) (N:=["goal","blocks"]) (nt:=1) (cap:=[2]) rfl rfl (by kernel_rfl)) (D7.tup (DE.v 1)) (fun _ _ _ _=>(DG.nm (i:=0) (show List.Nodup (["goal","blocks"]:List Str)by decide +kernel) rfl (by trivial))) (fun _ _ _ _=>M3.nil) (fun _ _ _ _=>(DE.fz (DE.ix (DE.v 1) (DE.v 0) (fun _ _=>rfl)))))))))))))))) nd)))) (A5.one (DS.retV (pv 2))))))
omit Z in
theorem Y3m:K5 MC.Z0p ["ends","rows"] (C2 Q6q):=Q6 (by decide +kernel)
theorem Y6d:FnT P w K mg base ts 4 (ad 5) (fn 5) ["ends","rows"] Q2s:=by
 obtain⟨c,Pt,C,qR⟩:=Z.C_least
 have nd:=Y3m.nd
 refine Q4s.okP C Y3m (ws:=MC.Z5h (FnC P w K mg base 2) K sp_told_apart (sp_walkedK (FnC P w K mg base 2))) (fun A outer s H E hT hr=>?_) MC.W5p
 exact(A5.cons (DS.sv 2 (DE.fz (DE.clP (W1m) (Y6f Z) hr hT Z.D_told_apart (DA.cons (DE.v 0) (DA.one (DE.v 1))))) nd) (A5.cons (DS.knew (i:=3) nd rfl (by trivial)) (A5.cons (DS.fzK 3 (DS.for b9 rfl (DI.enumF rfl Z.T.m_enumerate Q5b (DA.one (DE.v 2))) (DG.tp (n:=2) rfl (K3.cons (DG.nm (i:=4) nd rfl (by trivial)) (K3.cons (DG.nm (i:=5) nd rfl (by trivial)) K3.nil))) (A5.one (DS.ksetd (pv 3) (DE.v 5) (DE.v 4) ⟨rfl,rfl,rfl,rfl⟩)))) (A5.cons (DS.asg (DE.callW (kl:=1) (ps:=["block","column"]) (cs:=[("samples",3),("rows",1),("blocks",2)]) (clos:=[("samples",s.heap.objs.size+4),("rows",s.heap.objs.size+2),("blocks",s.heap.objs.size+3)]) (wb:=(MC.Z0e K)) (Y6g Z) (hr.mono (by decide)) rfl Z.D_walked.m Z.D_walked.k Z.D_walked.b (DE.ix (DE.v 2) DE.int (fun _ _=>rfl)) (hT _ qR) Z.hBM rfl C.hd rfl rfl (cA.mpr ⟨rfl,cA.mpr ⟨rfl,cA.mpr ⟨rfl,fun _ h=>nomatch h⟩⟩⟩) (cA.mpr ⟨⟨rfl,rfl,rfl⟩,cA.mpr ⟨⟨rfl,rfl,rfl⟩,cA.mpr ⟨⟨rfl,rfl,rfl⟩,fun _ h=>nomatch h⟩⟩⟩) ⟨rfl,rfl,rfl,by decide +kernel,by decide +kernel,by decide +kernel,by decide +kernel,by decide +kernel⟩ (fun _ _ _ _ _ us hl=>match us,hl with | [_,_],_=>rfl) (fun caps f c' A outer s H q hn hr=>(DE.ix (DE.v 4) (DE.ix (DE.ix (DE.v 3) (DE.fget (D5.hu1 hr) (pv 2) (DE.v 0) (fun _ _=>rfl)) (fun _ _=>rfl)) (DE.v 1) (fun _ _=>rfl)) (fun _ _=>rfl)))) (DG.tp (n:=2) rfl (K3.cons (DG.nm (i:=6) nd rfl (by trivial)) (K3.cons (DG.nm (i:=7) nd rfl (by trivial)) K3.nil)))) (A5.one (DS.ret (DE.tup (DA.cons (DE.fz (DE.tpl Z.T.m_tuple (DE.comp rfl (P6 (sc:=C2 Q6q) (N0:=MC.Z0p) (N:=["block","ends","samples"]) (nt:=1) (cap:=[0,3]) rfl rfl (by decide +kernel)) (D7.lst (DE.v 6)) (fun _ _ _ _=>(DG.nm (i:=0) (show List.Nodup (["block","ends","samples"]:List Str)by decide +kernel) rfl (by trivial))) (fun _ _ _ _=>M3.nil) (fun _ _ _ _=>(DE.fz (DE.ix (DE.v 1) (DE.fget (D5.hu1 hr) (pv 2) (DE.v 0) (fun _ _=>rfl)) (fun _ _=>rfl))))))) (DA.one (DE.fz (DE.v 7)))))))))))
omit Z in
theorem Y3n:K5 MC.Z0q ["some"] (C2 Q9c):=Q6 (by decide +kernel)
theorem Y6e:FnT P w K mg base ts 5 (ad 6) (fn 6) ["some"] Q2t:=by
 have nd:=Y3n.nd
 refine Fun.okP Z.D_machine_of.F Y3n (ws:=MC.Z5i  Q2s) (fun cdv A outer s H E hT hr=>?_) MC.W5q
 exact(A5.cons (DS.llnew (i:=1) (DE.lst (DA.cons (DE.fz DE.int) (DA.cons (DE.fz DE.int) (DA.cons (DE.fz DE.int) (DA.one (DE.fz DE.int)))))) (DE.lst (DA.cons (DE.fz DE.int) (DA.cons (DE.fz DE.int) (DA.cons (DE.fz DE.int) (DA.one (DE.fz DE.int)))))) nd rfl (by trivial)) (A5.cons (DS.sv 2 (DE.lst (DA.cons (DE.fz DE.bl) (DA.one (DE.fz DE.bl)))) nd) (A5.cons (DS.fzL 1 (DS.for b9 rfl (DI.bor (pv 0)) (DG.nm (i:=3) nd rfl (by trivial)) (A5.cons (DS.sv 4 DE.int nd) (A5.cons (DS.for b9 rfl (DI.str (DE.v 3)) (DG.nm (i:=5) nd rfl (by trivial)) (A5.cons (DS.sv 6 (DE.index (DE.gstr rfl Z.T.c_SIGNS) (DE.v 5)) nd) (A5.cons (DS.ife (DT.cmp (Q3d (n:=60) (Q3h hr)) Y6 (DE.llget (pv 1) (DE.v 4) (DE.v 6) (fun _ _=>rfl) (fun _ _=>rfl)) DE.int (T5 _)) (A5.cons (DS.llput (pv 1) (DE.v 4) (DE.v 6) (DE.lllen (pv 1) rfl Z.T.m_len) (fun _ _=>rfl)) (A5.cons (DS.llpush (pv 1) (DE.lst (DA.cons (DE.fz DE.int) (DA.cons (DE.fz DE.int) (DA.cons (DE.fz DE.int) (DA.one (DE.fz DE.int)))))) ⟨rfl,rfl,rfl,rfl⟩) (A5.one (DS.append (pv 2) (DE.fz DE.bl))))) A5.nil) (A5.one (DS.sv 4 (DE.llget (pv 1) (DE.v 4) (DE.v 6) (fun _ _=>rfl) (fun _ _=>rfl)) nd))))) (A5.one (DS.setIx (pv 2) (DE.v 4) (DE.fz DE.bl))))))) (A5.one (DS.ret (DE.clP (W1k) (Y6d Z) hr hT Z.D_least (DA.cons (DE.v 2) (DA.one (DE.fz (DE.comp rfl (P6 (sc:=C2 Q9c) (N0:=MC.Z0q) (N:=["row"]) (nt:=1) (cap:=[]) rfl rfl (by decide +kernel)) (D7.lst (DE.v 1)) (fun _ _ _ _=>(DG.nm (i:=0) (show List.Nodup (["row"]:List Str)by decide +kernel) rfl (by trivial))) (fun _ _ _ _=>M3.nil) (fun _ _ _ _=>(DE.fz (DE.tpl Z.T.m_tuple (DE.v 0))))))))))))))
omit Z in
theorem Y3d:K5 MC.Z0m ["ends"] (C2 Q8z):=Q6 (by decide +kernel)
theorem Z0i:FnD P w K mg base 1 (ad 7) (fn 7) ["ends"] sp_in_line:=by
 have nd:=Y3d.nd
 refine Z.D_in_line.ok Y3d (ws:=MC.Z4z  ) (fun cdv A outer s H E hr=>?_) MC.W5m
 exact(A5.cons (DS.sv 1 (DE.op W2l X4 (DE.len Z.T.m_len (DE.v 0)) DE.int) nd) (A5.one (DS.ret (DE.tup (DA.cons (DE.fz (DE.v 0)) (DA.one (DE.fz (DE.tpl Z.T.m_tuple (DE.comp rfl (P6 (sc:=C2 Q8z) (N0:=MC.Z0m) (N:=["state","last"]) (nt:=1) (cap:=[1]) rfl rfl (by decide +kernel)) (D7.rng1 rfl Z.T.m_range (DA.one (DE.len Z.T.m_len (DE.v 0)))) (fun _ _ _ _=>(DG.nm (i:=0) (show List.Nodup (["state","last"]:List Str)by decide +kernel) rfl (by trivial))) (fun _ _ _ _=>M3.nil) (fun _ _ _ _=>(DE.fz (DE.op Y0y W1r (DE.tup (DA.one (DE.fz (DE.callB (Y7l rfl) W1g rfl Z.T.m_min Y7a (DA.cons (DE.op S6 S5 (DE.v 0) DE.int) (DA.one (DE.v 1))))))) (DE.len Z.T.m_len (DE.gstr rfl Z.T.c_SIGNS))))))))))))))
omit Z in
theorem Y2z:K5 MC.Z5x ["many"] (C2 Z3p):=Q6 (by decide +kernel)
theorem Y5v:FnD P w K mg base 2 (ad 8) (fn 8) ["many"] Q4f:=by
 have nd:=Y2z.nd
 refine Z.D_all_of.ok Y2z (ws:=MC.Z4v  sp_in_line) (fun cdv A outer s H E hr=>?_) MC.W5g
 exact(A5.one (DS.ret (DE.cl (Z0i Z) hr Z.D_in_line (DA.one (DE.op S6 S5 (DE.op Y0x Y0e (DE.tup (DA.one (DE.fz DE.bl))) (DE.v 0)) (DE.tup (DA.cons (DE.fz DE.bl) (DA.one (DE.fz DE.bl)))))))))
omit Z in
theorem Y2y:K5 MC.Z5w ["many"] (C2 Z3o):=Q6 (by decide +kernel)
theorem Y5u:FnD P w K mg base 2 (ad 9) (fn 9) ["many"] Q4e:=by
 have nd:=Y2y.nd
 refine Z.D_all_below.ok Y2y (ws:=MC.Z4u  sp_in_line) (fun cdv A outer s H E hr=>?_) MC.W5f
 exact(A5.one (DS.ret (DE.cl (Z0i Z) hr Z.D_in_line (DA.one (DE.op S6 S5 (DE.op Y0x Y0e (DE.tup (DA.one (DE.fz DE.bl))) (DE.v 0)) (DE.tup (DA.one (DE.fz DE.bl))))))))
omit Z in
theorem Y3c:K5 MC.Z5y [] (C2 Z3q):=Q6 (by decide +kernel)
theorem Z5t:FnD P w K mg base 2 (ad 10) (fn 10) [] Q8u:=by
 have nd:=Y3c.nd
 refine Z.D_everything.ok Y3c (ws:=MC.Z4y  sp_in_line) (fun cdv A outer s H E hr=>?_) MC.W5l
 exact(A5.one (DS.ret (DE.cl (Z0i Z) hr Z.D_in_line (DA.one (DE.tup (DA.one (DE.fz DE.bl)))))))
omit Z in
theorem Y3g:K5 MC.Z6a ["_law_script","_law_k"] (C2 Z3s):=Q6 (by decide +kernel)
theorem Y5z:FnD P w K mg base 1 (ad 11) (fn 11) ["_law_script","_law_k"] Q6n:=by
 have nd:=Y3g.nd
 refine Z.D_law_cell.ok Y3g (ws:=MC.Z0d  ) (fun cdv A outer s H E hr=>?_) MC.W5i
 exact(A5.cons (DS.ife (DT.cmp (Q3d (n:=60) (Q3h hr)) Y6 (DE.v 0) (DE.lst DA.nil) (T5 _)) (A5.one (DS.ret (DE.op Q1q Q1o DE.int (DE.v 1)))) A5.nil) (A5.one (DS.ret (DE.op S6 S5 (DE.ix (DE.v 0) (DE.op Q3s X4 (DE.v 1) (DE.len Z.T.m_len (DE.v 0))) (fun _ _=>rfl)) (DE.op Q1q Q1o DE.int (DE.op Q8j X4 (DE.v 1) (DE.len Z.T.m_len (DE.v 0))))))))
omit Z in
theorem Y3h:K5 MC.Z6b ["_law_script","_law_k","_law_many"] (C2 Z3t):=Q6 (by decide +kernel)
theorem Q4t:FnD P w K mg base 2 (ad 12) (fn 12) ["_law_script","_law_k","_law_many"] Q4g:=by
 have nd:=Y3h.nd
 refine Z.D_law_drawn.ok Y3h (ws:=MC.Z5c  Q6n) (fun cdv A outer s H E hr=>?_) MC.W5k
 exact(A5.cons (DS.sv 3 (DE.op Q3s X4 (DE.op S6 S5 (DE.op Q1q Q1o (DE.op Q3s X4 (DE.cl (Y5z Z) hr Z.D_law_cell (DA.cons (DE.v 0) (DA.one (DE.v 1)))) DE.int) DE.int) (DE.op Q1q Q1o DE.int (DE.op S6 S5 (DE.v 1) DE.int))) DE.int) nd) (A5.cons (DS.sv 3 (DE.op Q3s X4 (DE.op S6 S5 (DE.op Q1q Q1o (DE.v 3) (DE.v 3)) (DE.op Q8j X4 (DE.v 3) DE.int)) DE.int) nd) (A5.one (DS.ret (DE.op Q3s X4 (DE.op Q8j X4 (DE.op Q3s X4 (DE.op S6 S5 (DE.op Q1q Q1o (DE.v 3) (DE.v 3)) (DE.op Q8j X4 (DE.v 3) DE.int)) DE.int) DE.int) (DE.v 2))))))
omit Z in
theorem Y3k:K5 MC.Z0n ["_law_script","_law_at","_law_most"] (C2 Q9a):=Q6 (by decide +kernel)
theorem Z5u:FnD P w K mg base 3 (ad 13) (fn 13) ["_law_script","_law_at","_law_most"] Q8w:=by
 have nd:=Y3k.nd
 refine Z.D_law_text.ok Y3k (ws:=MC.Z5f  Q4g) (fun cdv A outer s H E hr=>?_) MC.W5t
 exact(A5.one (DS.ret (DE.join DE.str (DE.comp rfl (P6 (sc:=C2 Q9a) (N0:=MC.Z0n) (N:=["_law_k","_law_script","_law_at"]) (nt:=1) (cap:=[0,1]) rfl rfl (by decide +kernel)) (D7.rng1 rfl Z.T.m_range (DA.one (DE.cl (Q4t Z) hr Z.D_law_drawn (DA.cons (DE.v 0) (DA.cons (DE.v 1) (DA.one (DE.op S6 S5 (DE.v 2) DE.int))))))) (fun _ _ _ _=>(DG.nm (i:=0) (show List.Nodup (["_law_k","_law_script","_law_at"]:List Str)by decide +kernel) rfl (by trivial))) (fun _ _ _ _=>M3.nil) (fun _ _ _ _=>(DE.fz (DE.ix DE.str (DE.cl (Q4t Z) hr Z.D_law_drawn (DA.cons (DE.v 1) (DA.cons (DE.op S6 S5 (DE.op S6 S5 (DE.v 2) DE.int) (DE.v 0)) (DA.one DE.int)))) (fun _ _=>rfl))))))))
omit Z in
theorem Y3l:K5 MC.Z0o ["_law_long"] (C2 Q9b):=Q6 (by decide +kernel)
theorem Y6c:FnD P w K mg base 1 (ad 14) (fn 14) ["_law_long"] Q8x:=by
 have nd:=Y3l.nd
 refine Z.D_law_texts.ok Y3l (ws:=MC.Z5g  ) (fun cdv A outer s H E hr=>?_) MC.W5u
 exact(A5.cons (DS.sv 1 (DE.lst (DA.one (DE.fz DE.str))) nd) (A5.cons (DS.sv 2 (DE.fz (DE.lst (DA.one (DE.fz DE.str)))) nd) (A5.cons (DS.for b9 rfl (DI.rng1 rfl Z.T.m_range (DA.one (DE.v 0))) (DG.nm (i:=3) nd rfl (by trivial)) (A5.cons (DS.sv 4 (DE.lst DA.nil) nd) (A5.cons (DS.fzO 4 (DS.for b9 rfl (DI.lst (DE.fz (DE.v 2))) (DG.nm (i:=5) nd rfl (by trivial)) (A5.one (DS.sv 4 (DE.op S6 S5 (DE.v 4) (DE.comp rfl (P6 (sc:=C2 Q9b) (N0:=MC.Z0o) (N:=["_law_sign","_law_text_here"]) (nt:=1) (cap:=[5]) rfl rfl (by decide +kernel)) (D7.str DE.str) (fun _ _ _ _=>(DG.nm (i:=0) (show List.Nodup (["_law_sign","_law_text_here"]:List Str)by decide +kernel) rfl (by trivial))) (fun _ _ _ _=>M3.nil) (fun _ _ _ _=>(DE.fz (DE.op S6 S5 (DE.v 1) (DE.v 0)))))) nd)))) (A5.cons (DS.sv 2 (DE.fz (DE.v 4)) nd) (A5.one (DS.sv 1 (DE.op W2k Y6j (DE.v 1) (DE.v 2)) nd)))))) (A5.one (DS.retV (pv 1))))))
omit Z in
theorem Y3j:K5 MC.Z6c ["_law_machine_told","_law_state_here","_law_text_here"] (C2 Z3u):=Q6 (by decide +kernel)
theorem Y6b:FnD P w K mg base 1 (ad 15) (fn 15) ["_law_machine_told","_law_state_here","_law_text_here"] Q8v:=by
 have nd:=Y3j.nd
 refine Z.D_law_state.ok Y3j (ws:=MC.Z5e  ) (fun cdv A outer s H E hr=>?_) MC.W5s
 exact(A5.cons (DS.for b9 rfl (DI.str (DE.v 2)) (DG.nm (i:=3) nd rfl (by trivial)) (A5.one (DS.sv 1 (DE.ix (DE.ix (DE.ix (DE.v 0) DE.int (fun _ _=>rfl)) (DE.v 1) (fun _ _=>rfl)) (DE.index DE.str (DE.v 3)) (fun _ _=>rfl)) nd))) (A5.one (DS.retV (pv 1))))
omit Z in
theorem Y3f:K5 MC.Z5z ["_law_machine_told","_law_text_here"] (C2 Z3r):=Q6 (by decide +kernel)
theorem Y5y:FnD P w K mg base 2 (ad 16) (fn 16) ["_law_machine_told","_law_text_here"] Q4d:=by
 have nd:=Y3f.nd
 refine Z.D_law_accepts.ok Y3f (ws:=MC.Z5b  Q8v) (fun cdv A outer s H E hr=>?_) MC.W5e
 exact(A5.one (DS.ret (DE.ix (DE.ix (DE.v 0) DE.int (fun _ _=>rfl)) (DE.cl (Y6b Z) hr Z.D_law_state (DA.cons (DE.v 0) (DA.cons DE.int (DA.one (DE.v 1))))) (fun _ _=>rfl))))
omit Z in
theorem Y3i:K5 MC.Q2z ["_law_told"] (C2 Q2v):=Q6 (by decide +kernel)
theorem Y6a:FnD P w K mg base 1 (ad 17) (fn 17) ["_law_told"] Q6o:=by
 have nd:=Y3i.nd
 refine Z.D_law_is_least.ok Y3i (ws:=MC.Z5d  K ) (fun cdv A outer s H E hr=>?_) MC.W5n
 exact(A5.cons (DS.sv 1 (DE.len Z.T.m_len (DE.ix (DE.v 0) DE.int (fun _ _=>rfl))) nd) (A5.cons (DS.sv 2 (DE.lst (DA.one (DE.fz DE.int))) nd) (A5.cons (DS.for b9 rfl (DI.lst (DE.fz (DE.listRng rfl rfl Z.T.m_list rfl Z.T.m_range (DA.one (DE.v 1))))) (DG.nm (i:=3) nd rfl (by trivial)) (A5.one (DS.ife (DT.cmp Q7j Q5f (DE.v 3) (DE.len Z.T.m_len (DE.v 2)) (T5 _)) (A5.cons (DS.sv 4 (DE.ix (DE.ix (DE.v 0) DE.int (fun _ _=>rfl)) (DE.v 3) (fun _ _=>rfl)) nd) (A5.one (DS.sv 2 (DE.op S6 S5 (DE.v 2) (DE.comp rfl (P6 (sc:=C2 Q2v) (N0:=MC.Q2z) (N:=["_law_k","_law_there","_law_met","_law_row"]) (nt:=2) (cap:=[2,4]) rfl rfl (by decide +kernel)) (D7.enumX rfl Z.T.m_enumerate Q5b (DA.one (DE.v 4))) (fun _ _ _ _=>(DG.tp (n:=2) rfl (K3.cons (DG.nm (i:=0) (show List.Nodup (["_law_k","_law_there","_law_met","_law_row"]:List Str)by decide +kernel) rfl (by trivial)) (K3.cons (DG.nm (i:=1) (show List.Nodup (["_law_k","_law_there","_law_met","_law_row"]:List Str)by decide +kernel) rfl (by trivial)) K3.nil)))) (fun _ _ _ _=>(M3.one (DT.cmp (Y7r (n:=59) (Q1k hr)) Z1v (DE.v 1) (DE.op S6 S5 (DE.v 2) (DE.callTy Y7h W0q rfl Z.T.m_list Z1d (DA.one (DE.slice (DE.v 3) DO.none (DO.some (DE.v 0)))))) (by with_unfolding_all rfl)))) (fun _ _ _ _=>(DE.fz (DE.v 1))))) nd))) A5.nil))) (A5.cons (DS.ife (DT.cmp (Q5e (n:=59) (Q1k hr)) Y6 (DE.v 2) (DE.listRng rfl rfl Z.T.m_list rfl Z.T.m_range (DA.one (DE.v 1))) (T5 _)) (A5.one (DS.ret DE.bl)) A5.nil) (A5.cons (DS.dnew (i:=5) nd rfl (by trivial)) (A5.cons (DS.for b9 rfl (DI.rng1 rfl Z.T.m_range (DA.one (DE.v 1))) (DG.nm (i:=6) nd rfl (by trivial)) (A5.one (DS.for b9 rfl (DI.rng1 rfl Z.T.m_range (DA.one (DE.v 1))) (DG.nm (i:=7) nd rfl (by trivial)) (A5.one (DS.dput (D5.hu1 hr) (pv 5) (DE.tup (DA.cons (DE.fz (DE.v 6)) (DA.one (DE.fz (DE.v 7))))) (DE.cmp (Q5e (n:=59) (Q1k hr)) Y6 (DE.ix (DE.ix (DE.v 0) DE.int (fun _ _=>rfl)) (DE.v 6) (fun _ _=>rfl)) (DE.ix (DE.ix (DE.v 0) DE.int (fun _ _=>rfl)) (DE.v 7) (fun _ _=>rfl)) (T5 _))))))) (A5.cons (DS.fzT 5 (DS.for b9 rfl (DI.rng1 rfl Z.T.m_range (DA.one (DE.v 1))) (DG.nm (i:=8) nd rfl (by trivial)) (A5.one (DS.for b9 rfl (DI.lst (DE.fz (DE.callTy (Y7i rfl) W0t rfl Z.T.m_list Z1d (DA.one (DE.v 5))))) (DG.tp (n:=2) rfl (K3.cons (DG.nm (i:=6) nd rfl (by trivial)) (K3.cons (DG.nm (i:=7) nd rfl (by trivial)) K3.nil))) (A5.cons (by first | exact DS.set (i:=9) (DE.comp rfl (P6 (sc:=C2 Q2v) (N0:=MC.Q2z) (N:=["_law_both","_law_apart"]) (nt:=1) (cap:=[5]) rfl rfl (by decide +kernel)) (D7.zipA rfl Z.T.m_zip (DA.cons (DE.ix (DE.ix (DE.v 0) DE.int (fun _ _=>rfl)) (DE.v 6) (fun _ _=>rfl)) (DA.one (DE.ix (DE.ix (DE.v 0) DE.int (fun _ _=>rfl)) (DE.v 7) (fun _ _=>rfl))))) (fun _ _ _ _=>(DG.nm (i:=0) (show List.Nodup (["_law_both","_law_apart"]:List Str)by decide +kernel) rfl (by trivial))) (fun _ _ _ _=>M3.nil) (fun _ _ _ _=>(DE.fz (DE.bget (D5.hu1 hr) (pv 1) (DE.v 0) (fun _ _=>rfl))))) nd rfl (by trivial) | exact DS.setC (i:=9) rfl (P6 (sc:=C2 Q2v) (N0:=MC.Q2z) (N:=["_law_both","_law_apart"]) (nt:=1) (cap:=[5]) rfl rfl (by decide +kernel)) (D7.zipA rfl Z.T.m_zip (DA.cons (DE.ix (DE.ix (DE.v 0) DE.int (fun _ _=>rfl)) (DE.v 6) (fun _ _=>rfl)) (DA.one (DE.ix (DE.ix (DE.v 0) DE.int (fun _ _=>rfl)) (DE.v 7) (fun _ _=>rfl))))) (fun _ _ _ _=>(DG.nm (i:=0) (show List.Nodup (["_law_both","_law_apart"]:List Str)by decide +kernel) rfl (by trivial))) (fun _ _ _ _=>M3.nil) (fun _ _ _ _=>(DE.fz (DE.bget (D5.hu1 hr) (pv 1) (DE.v 0) (fun _ _=>rfl)))) nd rfl (by trivial)) (A5.one (DS.dput (D5.hu1 hr) (pv 5) (DE.tup (DA.cons (DE.fz (DE.v 6)) (DA.one (DE.fz (DE.v 7))))) (DE.or (DE.dgetT (D5.hu1 hr) (pv 5) (DE.tup (DA.cons (DE.fz (DE.v 6)) (DA.one (DE.fz (DE.v 7))))) (fun _ _=>rfl)) (DE.or1 (DE.cmp (Z7f (n:=59) (Q1k hr)) Z1v DE.bl (DE.v 9) (by with_unfolding_all rfl))))))))))) (A5.one (DS.ret (DE.cmp (Q3d (n:=60) (Q3h hr)) Y6 (DE.comp rfl (P6 (sc:=C2 Q2v) (N0:=MC.Q2z) (N:=["_law_both","_law_apart"]) (nt:=1) (cap:=[5]) rfl rfl (by decide +kernel)) (D7.fdT (pv 5)) (fun _ _ _ _=>(DG.nm (i:=0) (show List.Nodup (["_law_both","_law_apart"]:List Str)by decide +kernel) rfl (by trivial))) (fun _ _ _ _=>(M3.one (DW.t (DW.and (DT.cmp (Q5e (n:=59) (Q1k hr)) Y6 (DE.ix (DE.v 0) DE.int (fun _ _=>rfl)) (DE.ix (DE.v 0) DE.int (fun _ _=>rfl)) (T5 _)) (DW.and1 (DT.nt (DT.tru (DE.tget (D5.hu1 hr) (pv 1) (DE.v 0) (fun _ _=>rfl)) (fun _=>rfl)))))))) (fun _ _ _ _=>(DE.fz (DE.v 0)))) (DE.lst DA.nil) (T5 _)))))))))))
omit Z in
theorem Y3e:K5 Q2y ["_law_script"] (C2 Q2u):=Q6 (by decide +kernel)
theorem Y5x:FnT P w K mg base ts 6 (ad 18) (fn 18) ["_law_script"] Q6p:=by
 have nd:=Y3e.nd
 refine Fun.okP Z.D_law.F Y3e (ws:=Z5a  Q4g Q8w Q2t Q4f Q4e Q8u Q6o Q8x Q4d) (fun cdv A outer s H E hT hr=>?_) W5o
 exact(A5.cons (by first | exact DS.set (i:=1) (DE.comp rfl (P6 (sc:=C2 Q2u) (N0:=Q2y) (N:=["_law_k","_law_script"]) (nt:=1) (cap:=[0]) rfl rfl (by decide +kernel)) (D7.rng1 rfl Z.T.m_range (DA.one (DE.cl (Q4t Z) hr Z.D_law_drawn (DA.cons (DE.v 0) (DA.cons DE.int (DA.one DE.int)))))) (fun _ _ _ _=>(DG.nm (i:=0) (show List.Nodup (["_law_k","_law_script"]:List Str)by decide +kernel) rfl (by trivial))) (fun _ _ _ _=>M3.nil) (fun _ _ _ _=>(DE.fz (DE.cl (Z5u Z) hr Z.D_law_text (DA.cons (DE.v 1) (DA.cons (DE.op Q1q Q1o DE.int (DE.v 0)) (DA.one DE.int))))))) nd rfl (by trivial) | exact DS.setC (i:=1) rfl (P6 (sc:=C2 Q2u) (N0:=Q2y) (N:=["_law_k","_law_script"]) (nt:=1) (cap:=[0]) rfl rfl (by decide +kernel)) (D7.rng1 rfl Z.T.m_range (DA.one (DE.cl (Q4t Z) hr Z.D_law_drawn (DA.cons (DE.v 0) (DA.cons DE.int (DA.one DE.int)))))) (fun _ _ _ _=>(DG.nm (i:=0) (show List.Nodup (["_law_k","_law_script"]:List Str)by decide +kernel) rfl (by trivial))) (fun _ _ _ _=>M3.nil) (fun _ _ _ _=>(DE.fz (DE.cl (Z5u Z) hr Z.D_law_text (DA.cons (DE.v 1) (DA.cons (DE.op Q1q Q1o DE.int (DE.v 0)) (DA.one DE.int)))))) nd rfl (by trivial)) (A5.cons (DS.sv 2 (DE.cl (Q4t Z) hr Z.D_law_drawn (DA.cons (DE.v 0) (DA.cons DE.int (DA.one DE.int)))) nd) (A5.cons (DS.sv 3 (DE.lst (DA.cons (DE.fz (DE.clP (W1l) (Y6e Z) hr hT Z.D_machine_of (DA.one (DE.v 1)))) (DA.cons (DE.fz (DE.cl (Y5v Z) hr Z.D_all_of (DA.one (DE.v 2)))) (DA.cons (DE.fz (DE.cl (Y5u Z) hr Z.D_all_below (DA.one (DE.v 2)))) (DA.one (DE.fz (DE.call0 (Z5t Z) hr Z.D_everything))))))) nd) (A5.cons (DS.ife (DT.cmp (Q5e (n:=59) (Q1k hr)) Y6 (DE.comp rfl (P6 (sc:=C2 Q2u) (N0:=Q2y) (N:=["_law_machine_told"]) (nt:=1) (cap:=[]) rfl rfl (by decide +kernel)) (D7.lst (DE.v 3)) (fun _ _ _ _=>(DG.nm (i:=0) (show List.Nodup (["_law_machine_told"]:List Str)by decide +kernel) rfl (by trivial))) (fun _ _ _ _=>(M3.one (DT.nt (DT.tru (DE.cl (Y6a Z) hr Z.D_law_is_least (DA.one (DE.v 0))) (fun _=>rfl))))) (fun _ _ _ _=>(DE.fz (DE.v 0)))) (DE.lst DA.nil) (T5 _)) (A5.one (DS.ret DE.bl)) A5.nil) (A5.cons (DS.for b9 rfl (DI.lst (DE.fz (DE.cl (Y6c Z) hr Z.D_law_texts (DA.one DE.int)))) (DG.nm (i:=4) nd rfl (by trivial)) (A5.cons (DS.sv 5 (DE.lst (DA.cons (DE.fz (DE.cmp (Z7f (n:=59) (Q1k hr)) Z1v (DE.v 4) (DE.v 1) (by with_unfolding_all rfl))) (DA.cons (DE.fz (DE.cmp (Q3d (n:=60) (Q3h hr)) Y6 (DE.len Z.T.m_len (DE.v 4)) (DE.v 2) (T5 _))) (DA.cons (DE.fz (DE.cmp Q7j Q5f (DE.len Z.T.m_len (DE.v 4)) (DE.v 2) (T5 _))) (DA.one (DE.fz DE.bl)))))) nd) (A5.one (DS.ife (DT.cmp (Q5e (n:=59) (Q1k hr)) Y6 (DE.comp rfl (P6 (sc:=C2 Q2u) (N0:=Q2y) (N:=["_law_machine_told","_law_text_here"]) (nt:=1) (cap:=[4]) rfl rfl (by decide +kernel)) (D7.lst (DE.v 3)) (fun _ _ _ _=>(DG.nm (i:=0) (show List.Nodup (["_law_machine_told","_law_text_here"]:List Str)by decide +kernel) rfl (by trivial))) (fun _ _ _ _=>M3.nil) (fun _ _ _ _=>(DE.fz (DE.cl (Y5y Z) hr Z.D_law_accepts (DA.cons (DE.v 0) (DA.one (DE.v 1))))))) (DE.v 5) (T5 _)) (A5.one (DS.ret DE.bl)) A5.nil)))) (A5.one (DS.ret (DE.cmp (Q3d (n:=60) (Q3h hr)) Y6 (DE.len Z.T.m_len (DE.ix (DE.call0 (Z5t Z) hr Z.D_everything) DE.int (fun _ _=>rfl))) DE.int (T5 _)))))))))
end
theorem Y6q {l:PySem.W.OpenLaw}{w:World}{K:Fg9}{h:Heap}{mg:Str->Option Value}{fa:Addr}{ts:List Addr} (X:K.In h) (G:h.Ns mainGlobals mg) (qB:mg "law"=some (.ref fa))
  {f0:Addr}{d0:FuncData} (H0:Hr K "walked" Z3v f0 d0)
  {f1:Addr}{d1:FuncData} (H1:Hr K "all_reached" Q8y f1 d1)
  {f2:Addr}{d2:FuncData} (H2:Hr K "distances" Q4i f2 d2)
  {f3:Addr}{d3:FuncData} (H3:Hr K "numbered" Q9d f3 d3)
  {f4:Addr}{d4:FuncData} (H4:Hr K "told_apart" Q9e f4 d4)
  {f5 c5 p5:Addr}{d5:FuncData} (H5:HrC K "least" Q6q f5 d5 c5 p5 ts)
  {f6:Addr}{d6:FuncData} (H6:Hr K "machine_of" Q9c f6 d6)
  {f7:Addr}{d7:FuncData} (H7:Hr K "in_line" Q8z f7 d7)
  {f8:Addr}{d8:FuncData} (H8:Hr K "all_of" Z3p f8 d8)
  {f9:Addr}{d9:FuncData} (H9:Hr K "all_below" Z3o f9 d9)
  {og:Addr}{oy:FuncData} (H10:Hr K "everything" Z3q og oy)
  {oa:Addr}{ox:FuncData} (H11:Hr K "_law_cell" Z3s oa ox)
  {nZ:Addr}{ou:FuncData} (H12:Hr K "_law_drawn" Z3t nZ ou)
  {nY:Addr}{ot:FuncData} (H13:Hr K "_law_text" Q9a nY ot)
  {nX:Addr}{oq:FuncData} (H14:Hr K "_law_texts" Q9b nX oq)
  {nW:Addr}{oo:FuncData} (H15:Hr K "_law_state" Z3u nW oo)
  {nV:Addr}{om:FuncData} (H16:Hr K "_law_accepts" Z3r nV om)
  {nU:Addr}{oj:FuncData} (H17:Hr K "_law_is_least" Q2v nU oj)
  {rc:Addr}{mF:FuncData} (H18:Hr K "law" Q2u rc mF)
  (z0:PySem.W.nsIn K mainGlobals "enumerate"=some none)    (z1:PySem.W.nsIn K mainGlobals "len"=some none)    (z2:PySem.W.nsIn K mainGlobals "list"=some none)    (z3:PySem.W.nsIn K mainGlobals "max"=some none)    (z4:PySem.W.nsIn K mainGlobals "min"=some none)    (z5:PySem.W.nsIn K mainGlobals "range"=some none)    (z6:PySem.W.nsIn K mainGlobals "tuple"=some none)    (z7:PySem.W.nsIn K mainGlobals "zip"=some none) {t0:Tok} (s0:PySem.W.nsIn K mainGlobals "SIGNS"=some (some (.str "01ab" t0))) (hsub:∀Pt∈ts,Pt=p5) :
  (∀Pt∈ts,(∃c,PySem.W.codeHdIn K c Pt=true)/\K.lookup Pt=none)/\∃fd:FuncData,(∀(s:Shared) (v:Value),BindsTo s fd ⟨[v],[]⟩ [("_law_script",v)])/\∀base:Heap,K.In base->base.Ns mainGlobals mg->Q0n mg base->O5 l.prog w K mg base L9 6 fa fd ["_law_script"] (Q3n K ts 1 Q6p):=by
 have e:=qB.symm.trans (PySem.W.mg_of X G H18.1)
 cases e
 refine⟨fun Pt hp=>by
  rcases hsub Pt hp with rfl
  ·exact H5.at
  ,?_⟩
 have T:Txt K mg w:={ m_enumerate:=bW X G z0,m_len:=bW X G z1,m_list:=bW X G z2,m_max:=bW X G z3,m_min:=bW X G z4,m_range:=bW X G z5,m_tuple:=bW X G z6,m_zip:=bW X G z7,c_SIGNS:=⟨t0,PySem.W.mg_of X G s0⟩ }
 have Lw:=H18.df (ps:=["_law_script"]) X G fun _ _ _ _ _ _ us hl=>match us,hl with | [_],_=>rfl
 obtain⟨⟨oc,od,kV,dc,pm,an,cd,ct,sl,e,l1,l2⟩,kp⟩:=H18.2
 refine⟨mF,fun s v=>by subst e;exact .of_eq rfl,fun base hB _ hBM=>?_⟩
 exact Y5x (ad:=fun i=>([f0,f1,f2,f3,f4,f5,f6,f7,f8,f9,og,oa,nZ,nY,nX,nW,nV,nU,fa]:List Addr).getD i 0) (fn:=fun i=>([d0,d1,d2,d3,d4,d5,d6,d7,d8,d9,oy,ox,ou,ot,oq,oo,om,oj,mF]:List FuncData).getD i d0) ⟨T,hBM,
  H0.df X G fun _ _ _ _ _ _ us hl=>match us,hl with | [_,_],_=>rfl,
  H1.df X G fun _ _ _ _ _ _ us hl=>match us,hl with | [_,_],_=>rfl,
  H2.df X G fun _ _ _ _ _ _ us hl=>match us,hl with | [_,_,_],_=>rfl,
  H3.df X G fun _ _ _ _ _ _ us hl=>match us,hl with | [_],_=>rfl,
  H4.df X G fun _ _ _ _ _ _ us hl=>match us,hl with | [_,_],_=>rfl,
  H5.hr.df X G fun _ _ _ _ _ _ us hl=>match us,hl with | [_,_],_=>rfl,
  H6.df X G fun _ _ _ _ _ _ us hl=>match us,hl with | [_],_=>rfl,
  H7.df X G fun _ _ _ _ _ _ us hl=>match us,hl with | [_],_=>rfl,
  H8.df X G fun _ _ _ _ _ _ us hl=>match us,hl with | [_],_=>rfl,
  H9.df X G fun _ _ _ _ _ _ us hl=>match us,hl with | [_],_=>rfl,
  H10.df X G fun _ _ _ _ _ _ us hl=>match us,hl with | [],_=>rfl,
  H11.df X G fun _ _ _ _ _ _ us hl=>match us,hl with | [_,_],_=>rfl,
  H12.df X G fun _ _ _ _ _ _ us hl=>match us,hl with | [_,_,_],_=>rfl,
  H13.df X G fun _ _ _ _ _ _ us hl=>match us,hl with | [_,_,_],_=>rfl,
  H14.df X G fun _ _ _ _ _ _ us hl=>match us,hl with | [_],_=>rfl,
  H15.df X G fun _ _ _ _ _ _ us hl=>match us,hl with | [_,_,_],_=>rfl,
  H16.df X G fun _ _ _ _ _ _ us hl=>match us,hl with | [_,_],_=>rfl,
  H17.df X G fun _ _ _ _ _ _ us hl=>match us,hl with | [_],_=>rfl,
  H18.df X G fun _ _ _ _ _ _ us hl=>match us,hl with | [_],_=>rfl,⟨_,_,H5.fc,H5.tb⟩⟩
theorem walk {l:PySem.W.OpenLaw}{q:Program}{dO:List Str}{XP:(Str->Option Value)->Heap->Prop}{YP:World->Heap->Prop}{d:DefRec}{K:Params->Fg9}{ts:List Addr} (hn:l.most=some 63) (jT:d.params.defaults=[])
  (hY:∀(w:World) (h:Heap),YP w h->(K w.params).In h) (me:∀(w:World) (h:Heap),YP w h->∀Pt∈ts,h.get? Pt=some (PySem.W.tabObj #[]))
  (F:∀(w:World) (mg:Str->Option Value) (fa:Addr) (h:Heap),(K w.params).In h->h.Ns mainGlobals mg->mg d.name=some (.ref fa) ->
   (∀Pt∈ts,(∃c,PySem.W.codeHdIn (K w.params) c Pt=true)/\(K w.params).lookup Pt=none) /\
   ∃fd:FuncData,(∀(s:Shared) (u:Value),BindsTo s fd ⟨[u],[]⟩ [("_law_script",u)])/\∀base:Heap,(K w.params).In base->base.Ns mainGlobals mg->Q0n mg base->O5 l.prog w (K w.params) mg base L9 6 fa fd ["_law_script"] (Q3n (K w.params) ts 1 Q6p)) :
  PySem.W.WalkO q dO XP YP l.row.toRowW d [] (fun f vs=>PySem.call f vs) :=
 L2.W9o (n:=63) (k:=6) (x:="_law_script") (sp:=fun w=>Q3n (K w.params) ts 1 Q6p) hn (by decide) jT ⟨rfl,by decide,by decide⟩ hY me F
  (fun w H a ns hl hT hz=>⟨[.st (scr ns)],fun r=>r=.st (.bl true),rfl,⟨_,_,rfl,A1.s_lst hz AllS.ints,rfl⟩,rfl,hT,⟨ns,rfl,hl,rfl⟩,fun r v H' e sm ir=>⟨by subst e;exact ir,fun Pt hp=>sm _ _ (hT Pt hp)⟩⟩)
end K34
end
open PySem PySem.W PyProof.Rows TK
theorem PySem.Challenge.cw_textkinds_k34_lists_holds : PySem.Challenge.rw_textkinds_k34_lists.Holds := by
 w_on;o_law;k_head;(case hw=>w_witness2)
 k_fill
 refine K34.walk (l:=PySem.Challenge.rw_textkinds_k34_lists) rfl rfl (fun w h Y=>PySem.W.km_in_of Y) (fun w h Y=>PySem.W.km_tabs_of Y) ?F
 case F =>
  intro w mg fa h KX G jK
  refine' K34.Y6q KX G jK ?H0 ?H1 ?H2 ?H3 ?H4 ?H5 ?H6 ?H7 ?H8 ?H9 ?H10 ?H11 ?H12 ?H13 ?H14 ?H15 ?H16 ?H17 ?H18 ?z0 ?z1 ?z2 ?z3 ?z4 ?z5 ?z6 ?z7 ?s0 ?hsub
  (case H0=>(refine' S3 ?_ ?_ ?_ ?_;any_goals k_is))
  (case H1=>(refine' S3 ?_ ?_ ?_ ?_;any_goals k_is))
  (case H2=>(refine' S3 ?_ ?_ ?_ ?_;any_goals k_is))
  (case H3=>(refine' S3 ?_ ?_ ?_ ?_;any_goals k_is))
  (case H4=>(refine' S3 ?_ ?_ ?_ ?_;any_goals k_is))
  (case H5=>(refine' Y8v ?xa ?xl ?xc ?xk ?xq ?xp ?xh ?xn ?xm;(case xa=>k_is);(case xl=>k_is);(case xc=>k_is);(case xk=>k_is);(case xq=>k_is);(case xp=>rfl);(case xh=>kernel_rfl);(case xn=>kernel_rfl);(case xm=>decide)))
  (case H6=>(refine' S3 ?_ ?_ ?_ ?_;any_goals k_is))
  (case H7=>(refine' S3 ?_ ?_ ?_ ?_;any_goals k_is))
  (case H8=>(refine' S3 ?_ ?_ ?_ ?_;any_goals k_is))
  (case H9=>(refine' S3 ?_ ?_ ?_ ?_;any_goals k_is))
  (case H10=>(refine' S3 ?_ ?_ ?_ ?_;any_goals k_is))
  (case H11=>(refine' S3 ?_ ?_ ?_ ?_;any_goals k_is))
  (case H12=>(refine' S3 ?_ ?_ ?_ ?_;any_goals k_is))
  (case H13=>(refine' S3 ?_ ?_ ?_ ?_;any_goals k_is))
  (case H14=>(refine' S3 ?_ ?_ ?_ ?_;any_goals k_is))
  (case H15=>(refine' S3 ?_ ?_ ?_ ?_;any_goals k_is))
  (case H16=>(refine' S3 ?_ ?_ ?_ ?_;any_goals k_is))
  (case H17=>(refine' S3 ?_ ?_ ?_ ?_;any_goals k_is))
  (case H18=>(refine' S3 ?_ ?_ ?_ ?_;any_goals k_is))
  (case z0=>k_is)
  (case z1=>k_is)
  (case z2=>k_is)
  (case z3=>k_is)
  (case z4=>k_is)
  (case z5=>k_is)
  (case z6=>k_is)
  (case z7=>k_is)
  (case s0=>k_is)
  (case hsub=>decide)
#print axioms PySem.Challenge.cw_textkinds_k34_lists_holds
