import PyProof.Rows.All
import Wide.All
import OpenK.AllK
import Wide.FinOn
import Lean
import PyProof.EqAt
import PyProof.EqKinds
import PyProof.TupleCall
import PyProof.Rows.SeqMore2
import PyProof.ListRange
import PySem.Challenge.RW_textkinds_k12_least
set_option Elab.async false
set_option linter.all false
set_option maxRecDepth 100000
set_option maxHeartbeats 0
theorem a9:type_of% @PySem.wpAny_bind:=@PySem.wpAny_bind
theorem aa:type_of% @PySem.Heap.get?_push_of_some:=@PySem.Heap.get?_push_of_some
theorem ae:type_of% @List.getElem?_eq_getElem:=@List.getElem?_eq_getElem
theorem af:type_of% @PySem.wpAny_pure:=@PySem.wpAny_pure
theorem ag:type_of% @List.length_map:=@List.length_map
theorem ah:type_of% @Nat.le_refl:=@Nat.le_refl
theorem ai:type_of% @List.getElem?_map:=@List.getElem?_map
theorem aj:type_of% @List.mem_cons:=@List.mem_cons
theorem ak:type_of% @List.map_cons:=@List.map_cons
theorem am:type_of% @List.mem_map:=@List.mem_map
theorem ao:type_of% @List.mem_cons_self:=@List.mem_cons_self
theorem aq:type_of% @List.getD_eq_getElem?_getD:=@List.getD_eq_getElem?_getD
theorem ar:type_of% @List.mem_append_right:=@List.mem_append_right
theorem au:type_of% @PySem.Heap.lt_size:=@PySem.Heap.lt_size
theorem av:type_of% @List.mem_cons_of_mem:=@List.mem_cons_of_mem
theorem aw:type_of% @PySem.Heap.get?_push_size:=@PySem.Heap.get?_push_size
theorem ax:type_of% @Nat.lt_of_lt_of_le:=@Nat.lt_of_lt_of_le
theorem ay:type_of% @List.length_append:=@List.length_append
theorem az:type_of% @Nat.ne_of_lt:=@Nat.ne_of_lt
theorem aA:type_of% @List.length_cons:=@List.length_cons
theorem aB:type_of% @Option.some.inj:=@Option.some.inj
theorem aC:type_of% @if_neg:=@if_neg
theorem aD:type_of% @List.mem_of_getElem?:=@List.mem_of_getElem?
theorem aE:type_of% @if_pos:=@if_pos
theorem aF:type_of% @List.size_toArray:=@List.size_toArray
theorem aG:type_of% @List.getElem?_set_ne:=@List.getElem?_set_ne
theorem aH:type_of% @List.getElem?_append_left:=@List.getElem?_append_left
theorem aI:type_of% @List.getElem?_eq_some_iff:=@List.getElem?_eq_some_iff
theorem aJ:type_of% @List.getElem?_eq_none_iff:=@List.getElem?_eq_none_iff
theorem aK:type_of% @List.map_map:=@List.map_map
theorem aL:type_of% @List.not_mem_nil:=@List.not_mem_nil
theorem aM:type_of% @decide_eq_false:=@decide_eq_false
theorem aN:type_of% @List.mem_singleton:=@List.mem_singleton
theorem aO:type_of% @List.idxOf_lt_length_iff:=@List.idxOf_lt_length_iff
theorem aP:type_of% @PySem.wpAny_mono:=@PySem.wpAny_mono
theorem aQ:type_of% @Nat.lt_irrefl:=@Nat.lt_irrefl
theorem aR:type_of% @List.mem_append:=@List.mem_append
theorem aS:type_of% @List.getElem?_append_right:=@List.getElem?_append_right
theorem aT:type_of% @Nat.le_trans:=@Nat.le_trans
theorem aV:type_of% @PySem.wpAny_field:=@PySem.wpAny_field
theorem aW:type_of% @PySem.PassesOwn.never:=@PySem.PassesOwn.never
theorem aX:type_of% @List.map_append:=@List.map_append
theorem aY:type_of% @List.mem_range:=@List.mem_range
theorem aZ:type_of% @List.length_replicate:=@List.length_replicate
theorem b7:type_of% @PyProof.Rows.callWith_type1:=@PyProof.Rows.callWith_type1
theorem b8:type_of% @List.find?_cons:=@List.find?_cons
theorem b9:type_of% @PySem.wpAny_callSpecial?_slot:=@PySem.wpAny_callSpecial?_slot
theorem ba:type_of% @List.getElem?_set_self:=@List.getElem?_set_self
theorem bb:type_of% @Nat.zero_le:=@Nat.zero_le
theorem bc:type_of% @List.map_congr_left:=@List.map_congr_left
theorem be:type_of% @PySem.wpAny_call_entry:=@PySem.wpAny_call_entry
theorem bf:type_of% @PySem.wpAny_setField_rec:=@PySem.wpAny_setField_rec
theorem bg:type_of% @PySem.wpAny_seqItems:=@PySem.wpAny_seqItems
theorem bh:type_of% @PySem.wpAny_Call_Name_kw:=@PySem.wpAny_Call_Name_kw
theorem bi:type_of% @List.mem_append_left:=@List.mem_append_left
theorem bj:type_of% @List.forIn_cons:=@List.forIn_cons
theorem bn:type_of% @PySem.Heap.size_push:=@PySem.Heap.size_push
theorem bo:type_of% @List.length_range:=@List.length_range
theorem bp:type_of% @Int.toNat_natCast:=@Int.toNat_natCast
theorem br:type_of% @or_false:=@or_false
theorem bt:type_of% @PySem.wpAny_newObj_type:=@PySem.wpAny_newObj_type
theorem bu:type_of% @PySem.wpAny_holding:=@PySem.wpAny_holding
theorem bv:type_of% @beq_eq_false_iff_ne:=@beq_eq_false_iff_ne
theorem bx:type_of% @Nat.lt_succ_of_lt:=@Nat.lt_succ_of_lt
theorem bz:type_of% @List.append_assoc:=@List.append_assoc
theorem bA:type_of% @Bool.false_ne_true:=@Bool.false_ne_true
theorem bB:type_of% @List.nodup_cons:=@List.nodup_cons
theorem bC:type_of% @PySem.Heap.SameBut.update:=@PySem.Heap.SameBut.update
theorem bD:type_of% @Ne.symm:=@Ne.symm
theorem bE:type_of% @Nat.lt_or_ge:=@Nat.lt_or_ge
theorem bF:type_of% @List.getElem_mem:=@List.getElem_mem
theorem bG:type_of% @Array.getElem?_eq_getElem:=@Array.getElem?_eq_getElem
theorem bJ:type_of% @List.length_singleton:=@List.length_singleton
theorem bK:type_of% @PySem.F.slot_zip_next:=@PySem.F.slot_zip_next
theorem bL:type_of% @PySem.W.kia_one:=@PySem.W.kia_one
theorem bM:type_of% @List.nil_append:=@List.nil_append
theorem bN:type_of% @List.length_set:=@List.length_set
theorem bO:type_of% @List.append_nil:=@List.append_nil
theorem bP:type_of% @PySem.W.mg_none_of:=@PySem.W.mg_none_of
theorem bQ:type_of% @List.zipIdx_cons:=@List.zipIdx_cons
theorem bS:type_of% @List.nodup_append:=@List.nodup_append
theorem bT:type_of% @PySem.mem_of_lookup:=@PySem.mem_of_lookup
theorem bU:type_of% @PyProof.Rows.slot_tuple_getitem:=@PyProof.Rows.slot_tuple_getitem
theorem bV:type_of% @List.getElem?_zip_eq_some:=@List.getElem?_zip_eq_some
theorem bW:type_of% @PySem.Around.in1_units:=@PySem.Around.in1_units
theorem bX:type_of% @List.mem_iff_getElem:=@List.mem_iff_getElem
theorem bZ:type_of% @Array.length_toList:=@Array.length_toList
theorem c6:type_of% @PySem.Calls.spliced_cons:=@PySem.Calls.spliced_cons
theorem c9:type_of% @List.prefix_refl:=@List.prefix_refl
theorem cb:type_of% @List.all_eq_true:=@List.all_eq_true
theorem cg:type_of% @List.length_nil:=@List.length_nil
theorem ci:type_of% @List.replicate_succ:=@List.replicate_succ
theorem cj:type_of% @Bool.and_eq_true:=@Bool.and_eq_true
theorem cn:type_of% @PySem.wpAny_pyIter_enum:=@PySem.wpAny_pyIter_enum
theorem cq:type_of% @List.getElem?_eq_none:=@List.getElem?_eq_none
theorem cu:type_of% @decide_eq_true:=@decide_eq_true
theorem cw:type_of% @Nat.le_succ:=@Nat.le_succ
theorem cx:type_of% @List.forall_mem_cons:=@List.forall_mem_cons
theorem cB:type_of% @Nat.zero_add:=@Nat.zero_add
theorem cC:type_of% @Nat.lt_succ_self:=@Nat.lt_succ_self
theorem cD:type_of% @Nat.le_of_lt:=@Nat.le_of_lt
theorem cF:type_of% @List.drop_eq_getElem_cons:=@List.drop_eq_getElem_cons
theorem cM:type_of% @List.any_cons:=@List.any_cons
theorem cN:type_of% @PySem.F.slot_dict_keyiterator_next:=@PySem.F.slot_dict_keyiterator_next
theorem cP:type_of% @List.getElem_idxOf:=@List.getElem_idxOf
theorem cQ:type_of% @Bool.false_eq_true:=@Bool.false_eq_true
theorem cR:type_of% @Array.forIn_toList:=@Array.forIn_toList
theorem cV:type_of% @PySem.Calls.spliced_nil:=@PySem.Calls.spliced_nil
theorem dg:type_of% @PySem.wpAny_updateSeq_pair:=@PySem.wpAny_updateSeq_pair
theorem dh:type_of% @if_false:=@if_false
theorem di:type_of% @List.flatten_cons:=@List.flatten_cons
theorem dj:type_of% @PySem.Calls.evalArgs_plain:=@PySem.Calls.evalArgs_plain
theorem dA:type_of% @PySem.wpAny_onRaise:=@PySem.wpAny_onRaise
theorem dB:type_of% @PySem.wpAny_attempt:=@PySem.wpAny_attempt
theorem dP:type_of% @PySem.wpAny_passesOwn:=@PySem.wpAny_passesOwn
theorem dW:type_of% @PySem.wpAny_rule:=@PySem.wpAny_rule
theorem dX:type_of% @PySem.wpAny_pyIter_tuple:=@PySem.wpAny_pyIter_tuple
theorem dY:type_of% @PySem.F.slot_dict_setdefault:=@PySem.F.slot_dict_setdefault
theorem dZ:type_of% @List.cons.injEq:=@List.cons.injEq
theorem eE:type_of% @Nat.le_of_eq:=@Nat.le_of_eq
theorem eR:type_of% @PySem.wpAny_truthy_bool:=@PySem.wpAny_truthy_bool
theorem eS:type_of% @PySem.eqIsQuiet_byValue:=@PySem.eqIsQuiet_byValue
theorem eT:type_of% @List.forIn_nil:=@List.forIn_nil
theorem eU:type_of% @Int.emod_lt_of_pos:=@Int.emod_lt_of_pos
theorem eV:type_of% @PySem.Heap.get?_update_other:=@PySem.Heap.get?_update_other
theorem eX:type_of% @PySem.F.args_zip_next_1:=@PySem.F.args_zip_next_1
theorem eY:type_of% @PySem.Calls.callWith_builtin:=@PySem.Calls.callWith_builtin
theorem fE:type_of% @of_decide_eq_true:=@of_decide_eq_true
theorem fF:type_of% @decide_eq_true_eq:=@decide_eq_true_eq
theorem fG:type_of% @PySem.Heap.get?_update_self:=@PySem.Heap.get?_update_self
theorem fN:type_of% @PySem.F.entry_zip_next:=@PySem.F.entry_zip_next
theorem g6:type_of% @PySem.wpAny_typeNameOfWhole_keyiter:=@PySem.wpAny_typeNameOfWhole_keyiter
theorem g7:type_of% @PySem.wpAny_newFunctionEnv:=@PySem.wpAny_newFunctionEnv
theorem g8:type_of% @PySem.wpAny_letGo:=@PySem.wpAny_letGo
theorem g9:type_of% @Nat.succ_ne_self:=@Nat.succ_ne_self
theorem ga:type_of% @List.filter_cons:=@List.filter_cons
theorem gb:type_of% @List.drop_length:=@List.drop_length
theorem gg:type_of% @List.any_eq_true:=@List.any_eq_true
theorem h8:type_of% @List.take_of_length_le:=@List.take_of_length_le
theorem iC:type_of% @List.zipIdx_nil:=@List.zipIdx_nil
theorem iE:type_of% @List.zipIdx_map:=@List.zipIdx_map
theorem iF:type_of% @List.of_mem_zip:=@List.of_mem_zip
theorem iG:type_of% @List.mem_filter:=@List.mem_filter
theorem iH:type_of% @Int.emod_nonneg:=@Int.emod_nonneg
theorem jI:type_of% @List.range_eq_range':=@List.range_eq_range'
theorem jJ:type_of% @List.nodup_nil:=@List.nodup_nil
theorem jK:type_of% @PySem.F.slot_tuple_iterator_next:=@PySem.F.slot_tuple_iterator_next
noncomputable abbrev Fg9 := PySem.W.Frag
noncomputable abbrev Pn9 := List (PySem.Addr×PySem.Obj)
noncomputable abbrev VS9 := PySem.Value->PySem.Shared->Prop
section
namespace L2
open PySem PySem.Spec PyProof.Rows
noncomputable abbrev A7:=Sum Int Str
noncomputable def Q3x:A7->Value->Bool
 | .inl k,v=>Value.isInt k v
 | .inr x,v=>Value.isStrOf x v
noncomputable def keyH (w:World):A7->Int
 | .inl k=>hashInt k
 | .inr x=>hashStr w x
theorem Q0g:∀{k:A7}{v:Value},Q3x k v=true->(∃i t,k=Sum.inl i/\v=Value.int i t)\/(∃x t,k=Sum.inr x/\v=Value.str x t)
 | .inl i,v,h=>by
  obtain⟨t,e⟩:=Value.isInt_shape (k:=i) (v:=v) h
  exact .inl ⟨i,t,rfl,e⟩
 | .inr x,v,h=>by
  obtain⟨t,e⟩:=Value.isStrOf_shape (x:=x) (v:=v) h
  exact .inr ⟨x,t,rfl,e⟩
theorem Y9a (i:Int) (t:Tok):Q3x (.inl i) (.int i t)=true:=by simp [Q3x,Value.isInt]
theorem Y9b (x:Str) (t:Tok):Q3x (.inr x) (.str x t)=true:=by simp [Q3x,Value.isStrOf]
theorem Y9d (a b:Int):decide ((Sum.inl a:A7)=Sum.inl b)=(a==b):=by
 by_cases e:a=b
 ·subst e;simp
 ·have h:¬ (Sum.inl a:A7)=Sum.inl b:=fun q=>e (Sum.inl.inj q)
  rw [aM h]
  exact(bv.mpr e).symm
theorem Y9g (a b:Str):decide ((Sum.inr a:A7)=Sum.inr b)=decide (a=b):=by
 by_cases e:a=b
 ·subst e;simp
 ·have h:¬ (Sum.inr a:A7)=Sum.inr b:=fun q=>e (Sum.inr.inj q)
  rw [aM h,aM e]
theorem Y9e (a:Int) (b:Str):decide ((Sum.inl a:A7)=Sum.inr b)=false:=aM (fun q=>nomatch q)
theorem Y9f (a:Str) (b:Int):decide ((Sum.inr a:A7)=Sum.inl b)=false:=aM (fun q=>nomatch q)
noncomputable def K4 (prog:Program) (w:World):PySem.KeyKind prog w A7 where
 is:=Q3x
 hash:=keyH w
 inj:=fun v a b ha hb=>by
  rcases Q0g ha with⟨i,t,rfl,rfl⟩ | ⟨x,t,rfl,rfl⟩
  ·rcases Q0g hb with⟨j,u,rfl,e⟩ | ⟨y,u,rfl,e⟩
   ·injection e with e1 _;rw [e1]
   ·exact nomatch e
  ·rcases Q0g hb with⟨j,u,rfl,e⟩ | ⟨y,u,rfl,e⟩
   ·exact nomatch e
   ·injection e with e1 _;rw [e1]
 byValue:=fun k v h=>by
  rcases Q0g h with⟨i,t,rfl,rfl⟩ | ⟨x,t,rfl,rfl⟩ <;> rfl
 pyHash:=fun hv h=>by
  rcases Q0g hv with⟨i,t,rfl,rfl⟩ | ⟨x,t,rfl,rfl⟩
  ·exact wpAny_pyHash_int h
  ·exact wpAny_pyHash_str h
 eqBool:=fun hu hv h=>by
  rcases Q0g hu with⟨i,t,rfl,rfl⟩ | ⟨x,t,rfl,rfl⟩
  ·rcases Q0g hv with⟨j,u,rfl,rfl⟩ | ⟨y,u,rfl,rfl⟩
   ·rw [Y9d]at h;exact wpAny_eqBool_int h
   ·rw [Y9e]at h;exact SeqAt.EqAt.int_str i t y u _ _ _ _ h
  ·rcases Q0g hv with⟨j,u,rfl,rfl⟩ | ⟨y,u,rfl,rfl⟩
   ·rw [Y9f]at h;exact SeqAt.EqAt.str_int x t j u _ _ _ _ h
   ·rw [Y9g]at h;exact wpAny_eqBool_str h
 «strs»:=fun k x t v h=>by
  rcases Q0g h with⟨i,u,rfl,e⟩ | ⟨y,u,rfl,e⟩
  ·exact nomatch e
  ·injection e with e1 _
   subst e1
   cases v <;> rfl
theorem W0p (prog:Program) (w:World) (i:Int) (t:Tok):(K4 prog w).is (.inl i) (.int i t)=true:=Y9a i t
theorem W0q (prog:Program) (w:World) (x:Str) (t:Tok):(K4 prog w).is (.inr x) (.str x t)=true:=Y9b x t
end L2
namespace L2
open PySem PySem.Spec PyProof.Rows
inductive V where
 | non | bl (b:Bool) | int (i:Int) | str (x:Str) | byt (b:Array UInt8) | flt (b:UInt64) | ref (a:Addr) | ty (n:String)
 deriving DecidableEq
noncomputable def B8:V->Value->Prop
 | .non,u=>u=Value.none
 | .bl b,u=>u=Value.bool b
 | .int i,u=>∃t,u=Value.int i t
 | .str x,u=>∃t,u=Value.str x t
 | .byt b,u=>∃t,u=Value.bytes b t
 | .flt b,u=>∃t,u=Value.float b t
 | .ref a,u=>u=Value.ref a
 | .ty n,u=>u=Value.type n
noncomputable abbrev C0:List V->List Value->Prop:=Paired B8
theorem C0.length {xs:List V}{us:List Value} (r:C0 xs us):xs.length=us.length:=Paired.length r
theorem C0.get:∀{xs:List V}{us:List Value}{i:Nat}{x:V},C0 xs us->xs[i]?=some x->∃u,us[i]?=some u/\B8 x u
 | _,_,_,_,.nil,e=>by simp at e
 | _,_,0,_,.cons r _,e=>by simp at e;subst e;exact⟨_,rfl,r⟩
 | _,_,i+1,x,.cons _ t,e=>by
  obtain⟨u,h1,h2⟩:=C0.get (i:=i) (x:=x) t (by simpa using e)
  exact⟨u,by simpa using h1,h2⟩
theorem C0.append:∀{xs ys:List V}{us ws:List Value},C0 xs us->C0 ys ws->C0 (xs++ys) (us++ws)
 | _,_,_,_,.nil,s=>s
 | _,_,_,_,.cons r t,s=>.cons r (C0.append t s)
theorem C0.take:∀{xs:List V}{us:List Value} (n:Nat),C0 xs us->C0 (xs.take n) (us.take n)
 | _,_,0,_=>.nil
 | _,_,_+1,.nil=>.nil
 | _,_,n+1,.cons r t=>.cons r (C0.take n t)
theorem C0.drop:∀{xs:List V}{us:List Value} (n:Nat),C0 xs us->C0 (xs.drop n) (us.drop n)
 | _,_,0,r=>r
 | _,_,_+1,.nil=>.nil
 | _,_,n+1,.cons _ t=>C0.drop n t
noncomputable def W9:Option V->Option Value->Prop
 | some v,some u=>B8 v u
 | none,none=>True
 | _,_=>False
noncomputable def KV {κ:Type}:List (κ×V)->List (κ×Value)->Prop:=Paired fun(p:κ×V) (q:κ×Value)=>p.1=q.1/\B8 p.2 q.2
noncomputable def kV:A7->V
 | .inl i=>.int i
 | .inr x=>.str x
inductive HO where
 | lst (xs:List V)
 | tup (xs:List V)
 | dK (kvs:List (A7×V)) | dT (kvs:List (List A7×V))
 | set (S:Int->Bool) (n:Nat)
 | ins (C dx:Addr) (fs:List (Str×V))
 | own (x:Addr)
 | xd (fs:List (Str×V))
 | met (f x:Addr)
 | rng (lo hi:Int)
 | frz (o:Obj) (u:HO)
 | tab
 | tbl (ps:Array Value)
 | ext (φ:Heap->Prop)
noncomputable abbrev Hp:=Addr->Option HO
noncomputable def upd (H:Hp) (a:Addr) (o:HO):Hp:=fun b=>if b=a then some o else H b
theorem upd_same {H:Hp}{a:Addr}{o:HO}:upd H a o a=some o:=by unfold upd;rw [aE rfl]
theorem B1 {H:Hp}{a b:Addr}{o:HO} (h:b≠a):upd H a o b=H b:=by unfold upd;rw [aC h]
theorem Z5 {H:Hp}{a b:Addr}{o u:HO} (h:H a=some o) (h':H b=some u) (d:o≠u):a≠b:=by
 intro e;subst e;rw [h]at h';exact d (aB h')
theorem U9 {H:Hp}{a b:Addr}{o:HO} (h:H a=some o) (h':H b=none):a≠b:=by
 intro e;subst e;rw [h]at h';cases h'
def Q6r (o:Obj):Prop:=∃vs q t,o.data=.fields vs/\vs[1]?=some (Value.str q t)
def Q6t (a:Addr) (u:HO):Prop:=u=.own a\/∃o,u=.frz o (.own a)
section
variable (P:Program) (w:World)
noncomputable def F1 (H:Hp) (h:Heap) (a:Addr):HO->Prop
 | .lst xs=>xs.length<=sizeLine/\∃(aU:List Value) (n:Nat),C0 xs aU/\h.get? a=some { cls:=.type "list",data:=.seq aU.toArray n }
 | .tup xs=>xs.length<=sizeLine/\∃aU:List Value,C0 xs aU/\IsTup h a aU.toArray
 | .dK kvs=>kvs.length<=sizeLine/\(a==sysModules)=false/\∃vs,KV kvs vs/\h.DictOf (K4 P w) a vs
 | .dT kvs=>kvs.length<=sizeLine/\(a==sysModules)=false/\∃xs:List (List A7×Addr×Value),
   Paired (fun(p:List A7×V) (q:List A7×Addr×Value)=>p.1=q.1/\H q.2.1=some (.tup (p.1.map kV))/\B8 p.2 q.2.2) kvs xs /\
   ∃o es ep,h.get? a=some o/\o.ExactDict/\o.data=.dict es ep/\es.toList=xs.map (entryOfKey (tupleKind (K4 P w)))/\(xs.map (·.1)).Nodup
 | .set S n=>h.SetOf (intKind P w) a S n
 | .ins C dx fs=>H dx=some (.own a)/\fs.length<=1000/\dx≠a/\h.get? a=some (PySem.W.instObj C dx) /\
   ∃mA,h.Ns1 dx mA/\(∀f,W9 (fs.lookup f) (mA f))/\PySem.Within mA (fs.map (·.1))
 | .own _=>∃o,h.get? a=some o
 | .xd fs=>∃mA,h.Ns1 a mA/\∀f,W9 (fs.lookup f) (mA f)
 | .rng lo hi=>∃t u v,h.get? a=some { cls:=.type "range",data:=.fields #[.int lo t,.int hi u,.int 1 v] }
 | .frz o u=>h.get? a=some o/\F1 H h a u
 | .tab=>∃ps,h.get? a=some (PySem.W.tabObj ps)/\TriplesOk ps.toList/\∀pos cv,codeAmong pos ps.toList=some cv->∃c' oc,cv=.ref c'/\H c'=some (.frz oc (.own a))/\Q6r oc
 | .tbl ps=>h.get? a=some { cls:=.none,data:=.fields ps }
 | .met f x=>h.get? a=some (PySem.W.methodObj (.ref f) (.ref x))
 | .ext φ=>φ h/\(∃o,h.get? a=some o)/\∀h1 h2:Heap,φ h1->(∀o,h1.get? a=some o->h2.get? a=some o)->φ h2
def F5 (H:Hp) (h:Heap):Prop:=∀a o,H a=some o->F1 P w H h a o
end
section
variable {P:Program}{w:World}{H H':Hp}{h h':Heap}{a:Addr}{o:HO}
theorem F1.lt (x:F1 P w H h a o):a<h.objs.size:=by
 cases o with
 | lst xs=>obtain⟨_,_,_,_,e⟩:=x;exact au e
 | tup xs=>obtain⟨_,_,_,p⟩:=x;exact p.lt
 | dK kvs=>obtain⟨_,_,_,_,o,_,_,e,_⟩:=x;exact au e
 | dT kvs=>obtain⟨_,_,_,_,o,_,_,e,_⟩:=x;exact au e
 | set S n=>obtain⟨o,_,_,_,e,_⟩:=x;exact au e
 | ins C dx fs=>obtain⟨_,_,_,e,_⟩:=x;exact au e
 | own y=>obtain⟨_,e⟩:=x;exact au e
 | xd fs=>obtain⟨_,⟨_,_,_,e,_⟩,_⟩:=x;exact au e
 | rng lo hi=>obtain⟨_,_,_,e⟩:=x;exact au e
 | frz ob u=>obtain⟨e,_⟩:=x;exact au e
 | tab=>obtain⟨_,e,_⟩:=x;exact au e
 | tbl ps=>exact au (show h.get? a=some _ from x)
 | met f y=>exact au (show h.get? a=some _ from x)
 | ext φ=>obtain⟨_,⟨_,e⟩,_⟩:=x;exact au e
theorem Paired.mapP {α β:Type}{F G:α->β->Prop}:∀{l₁:List α}{l₂:List β},Paired F l₁ l₂->(∀a b,F a b->G a b)->Paired G l₁ l₂
 | _,_,.nil,_=>.nil
 | _,_,.cons r t,f=>.cons (f _ _ r) (Paired.mapP t f)
theorem F1.stay (x:F1 P w H h a o) (k:∀b u,(b=a\/H b=some (.own a))->h.get? b=some u->h'.get? b=some u)
  (ho:∀b u,Q6t a u->H b=some u->H' b=some u) (ht:∀b xs,H b=some (.tup xs)->H' b=some (.tup xs)):F1 P w H' h' a o:=by
 induction o with
 | lst xs=>obtain⟨z,aU,n,r,e⟩:=x;exact⟨z,aU,n,r,k _ _ (.inl rfl) e⟩
 | tup xs=>obtain⟨z,aU,r,ob,e,c⟩:=x;exact⟨z,aU,r,ob,k _ _ (.inl rfl) e,c⟩
 | dK kvs=>obtain⟨z,y,vs,r,ob,es,ep,e,c⟩:=x;exact⟨z,y,vs,r,ob,es,ep,k _ _ (.inl rfl) e,c⟩
 | dT kvs =>
  obtain⟨z,y,xs,r,ob,es,ep,e,c⟩:=x
  exact⟨z,y,xs,Paired.mapP r fun p q z=>⟨z.1,ht _ _ z.2.1,z.2.2⟩,ob,es,ep,k _ _ (.inl rfl) e,c⟩
 | set S n=>obtain⟨ob,es,ep,t,e,c⟩:=x;exact⟨ob,es,ep,t,k _ _ (.inl rfl) e,c⟩
 | ins C dx fs =>
  obtain⟨d,z,ne,e,mA,⟨od,es,ep,e2,c⟩,r⟩:=x
  exact⟨ho _ _ (.inl rfl) d,z,ne,k _ _ (.inl rfl) e,mA,⟨od,es,ep,k _ _ (.inr d) e2,c⟩,r⟩
 | own y=>obtain⟨ob,e⟩:=x;exact⟨ob,k _ _ (.inl rfl) e⟩
 | xd fs=>obtain⟨mA,⟨od,es,ep,e,c⟩,r⟩:=x;exact⟨mA,⟨od,es,ep,k _ _ (.inl rfl) e,c⟩,r⟩
 | rng lo hi=>obtain⟨t,u,v,e⟩:=x;exact⟨t,u,v,k _ _ (.inl rfl) e⟩
 | frz ob u ih=>obtain⟨e,q⟩:=x;exact⟨k _ _ (.inl rfl) e,ih q⟩
 | tab =>
  obtain⟨ps,e,t,en⟩:=x
  exact⟨ps,k _ _ (.inl rfl) e,t,fun pos cv q=>let ⟨c',oc,e1,e2,e3⟩:=en pos cv q;⟨c',oc,e1,ho _ _ (.inr ⟨_,rfl⟩) e2,e3⟩⟩
 | tbl ps =>
  have e:h.get? a=some { cls:=.none,data:=.fields ps }:=x
  show h'.get? a=some { cls:=.none,data:=.fields ps }
  exact k a _ (.inl rfl) e
 | met f y =>
  have e:h.get? a=some (PySem.W.methodObj (.ref f) (.ref y)):=x
  show h'.get? a=some (PySem.W.methodObj (.ref f) (.ref y))
  exact k a _ (.inl rfl) e
 | ext φ=>obtain⟨p,⟨o,e⟩,st⟩:=x;exact⟨st _ _ p fun o q=>k _ _ (.inl rfl) q,⟨o,k _ _ (.inl rfl) e⟩,st⟩
theorem F5.lt (x:F5 P w H h) (e:H a=some o):a<h.objs.size:=(x a o e).lt
theorem F5.fresh (x:F5 P w H h) (e:h.objs.size<=a):H a=none:=by
 cases q:H a with
 | none=>rfl
 | some u=>exact absurd (ax (x.lt q) e) (aQ _)
theorem F5.kept (x:F5 P w H h) (k:∀b u,h.get? b=some u->h'.get? b=some u):F5 P w H h':=fun a o e =>
 (x a o e).stay (fun b u _ q=>k b u q) (fun _ _ _ q=>q) fun _ _ q=>q
theorem F5.laid (x:F5 P w H h) (k:∀b u,h.get? b=some u->h'.get? b=some u) (hp:h.objs.size<=a) (new:F1 P w (upd H a o) h' a o):F5 P w (upd H a o) h':=fun b u e=>by
 have hn:=x.fresh hp
 by_cases hb:b=a
 ·subst hb;rw [upd_same]at e;cases e;exact new
 ·rw [B1 hb]at e
  exact(x b u e).stay (fun c v _ q=>k c v q) (fun c u _ q=>by rw [B1 (U9 q hn)];exact q) fun c xs q=>by rw [B1 (U9 q hn)];exact q
end
def Rd (H:Hp) (a:Addr) (u:HO):Prop:=H a=some u\/∃o,H a=some (.frz o u)
theorem Rd.ok {P:Program}{w:World}{H:Hp}{h:Heap}{a:Addr}{u:HO} (r:Rd H a u) (x:F5 P w H h):F1 P w H h a u:=by
 rcases r with r | ⟨o,r⟩
 ·exact x a u r
 ·obtain⟨_,q⟩:=x a _ r
  exact q
noncomputable def Mut:Option HO->Prop
 | some (.lst _)=>True
 | some (.dK _)=>True
 | some (.dT _)=>True
 | some (.set _ _)=>True
 | some (.ins _ _ _)=>True
 | some (.ext _)=>True
 | some .tab=>True
 | _=>False
section
variable {P:Program}{w:World}{H:Hp}{h h':Heap}{x e:Addr}{o':HO}
theorem F5.write (ok:F5 P w H h) (mu:Mut (H x)) (he:e=x\/H e=some (.own x)) (k:∀b u,b≠e->h.get? b=some u->h'.get? b=some u) (jG:∃u,h'.get? e=some u)
  (new:F1 P w (upd H x o') h' x o'):F5 P w (upd H x o') h':=fun b u q=>by
 have lH:∀c y,H c=some (.own y)->c≠x:=fun c y r z=>by subst z;rw [r]at mu;exact mu
 have jW:∀c u y,Q6t y u->H c=some u->c≠x:=fun c u y ow r z=>by
  subst z
  rw [r]at mu
  rcases ow with rfl | ⟨o,rfl⟩
  ·exact mu
  ·exact mu
 have lG:∀c xs,H c=some (.tup xs)->c≠x:=fun c xs r z=>by subst z;rw [r]at mu;exact mu
 by_cases hb:b=x
 ·subst hb;rw [upd_same]at q;cases q;exact new
 ·rw [B1 hb]at q
  by_cases hbe:b=e
  ·have q':H b=some (.own x):=by
    rcases he with z | z
    ·exact absurd (hbe.trans z) hb
    ·rw [hbe];exact z
   rw [q]at q';cases q'
   obtain⟨v,hv⟩:=jG
   exact⟨v,by rw [hbe];exact hv⟩
  ·refine(ok b u q).stay (fun c v hc r=>k c v ?_ r) (fun c u ow r=>by rw [B1 (jW c u b ow r)];exact r) fun c xs r=>by rw [B1 (lG c xs r)];exact r
   rcases hc with rfl | hc
   ·exact hbe
   ·rintro rfl
    rcases he with z | z
    ·exact lH c b hc z
    ·rw [hc]at z;cases z;exact hb rfl
end
structure Un (fs ex:List Addr) (H H':Hp) (h h':Heap):Prop where
 keep:∀b o,h.get? b=some o->H b=none->b∉fs->b∉ex->h'.get? b=some o
 slot:∀b o,h.get? b=some o->H b=none->b∈fs->b∉ex->∃sl,h'.get? b=some { o with slots:=sl }
 free:∀b o,h.get? b=some o->H b=none->b∉ex->H' b=none
 there:∀b o,h.get? b=some o->b∉ex->∃o',h'.get? b=some o'
 tups:∀b xs,H b=some (.tup xs)->H' b=some (.tup xs)
 frzs:∀b o u,H b=some (.frz o u)->H' b=some (.frz o u)
 tbls:∀b ps,H b=some (.tbl ps)->∃more,H' b=some (.tbl (ps++more))
section
variable {fs qU ex rV:List Addr}{H H1 H2:Hp}{h h1 h2 h':Heap}{a x e:Addr}{o:HO}
theorem Un.any (u:Un fs ex H H1 h h1) {b:Addr}{ob:Obj} (q:h.get? b=some ob) (n:H b=none) (hx:b∉ex):∃sl,h1.get? b=some { ob with slots:=sl }:=by
 by_cases hb:b∈fs
 ·exact u.slot b ob q n hb hx
 ·exact⟨ob.slots,u.keep b ob q n hb hx⟩
theorem Un.kept (k:∀b u,h.get? b=some u->h'.get? b=some u):Un fs ex H H h h' :=
 ⟨fun b ob q _ _ _=>k b ob q,fun b ob q _ _ _=>⟨ob.slots,k b ob q⟩,fun _ _ _ n _=>n,fun b ob q _=>⟨ob,k b ob q⟩,fun _ _ q=>q,fun _ _ _ q=>q,fun _ ps q=>⟨#[],by rw [q];simp⟩⟩
theorem Un.refl:Un fs ex H H h h:=Un.kept fun _ _ q=>q
theorem Un.laid (k:∀b u,h.get? b=some u->h'.get? b=some u) (hp:h.objs.size<=a) (hn:H a=none):Un fs ex H (upd H a o) h h' where
 keep:=fun b u q _ _ _=>k b u q
 slot:=fun b u q _ _ _=>⟨u.slots,k b u q⟩
 free:=fun b u q n _=>by rw [B1 (az (ax (au q) hp))];exact n
 there:=fun b u q _=>⟨u,k b u q⟩
 tups:=fun b xs q=>by rw [B1 (U9 q hn)];exact q
 frzs:=fun b u xs q=>by rw [B1 (U9 q hn)];exact q
 tbls:=fun b ps q=>⟨#[],by rw [B1 (U9 q hn),q];simp⟩
theorem Un.write (mu:Mut (H x)) (he:e=x\/H e=some (.own x)) (k:∀b u,b≠e->h.get? b=some u->h'.get? b=some u) (jG:∃u,h'.get? e=some u):Un fs ex H (upd H x o) h h':=by
 have hx:∀b,H b=none->b≠x:=fun b n z=>by subst z;rw [n]at mu;exact mu
 have hb:∀b,H b=none->b≠e:=fun b n z=>by
  subst z
  rcases he with r | r
  ·exact hx b n r
  ·rw [n]at r;cases r
 have hm:∀b u,H b=some u->¬ Mut (some u)->b≠x:=fun b u q nm z=>by subst z;rw [q]at mu;exact nm mu
 refine⟨fun b u q n _ _=>k b u (hb b n) q,fun b u q n _ _=>⟨u.slots,k b u (hb b n) q⟩,fun b u q n _=>by rw [B1 (hx b n)];exact n,fun b u q _=>?_,
  fun b xs q=>by rw [B1 (hm b _ q fun z=>z)];exact q,fun b u xs q=>by rw [B1 (hm b _ q fun z=>z)];exact q,fun b ps q=>⟨#[],by rw [B1 (hm b _ q fun z=>z),q];simp⟩⟩
 by_cases hbe:b=e
 ·subst hbe;exact jG
 ·exact⟨u,k b u hbe q⟩
end
noncomputable def trk (h:Heap) (H:Hp):List Addr:=(List.range h.objs.size).filter fun a=>(H a).isSome
noncomputable def Q0e (h:Heap) (H:Hp):Heap:=PySem.W.hideAll h (trk h H)
theorem Y7y (h:Heap) (H:Hp):(Q0e h H).objs.size=h.objs.size:=PySem.W.hideAll_size _ _
theorem Y7x {h:Heap}{H:Hp}{b:Addr}{o:Obj} (e:h.get? b=some o) (n:H b=none):(Q0e h H).get? b=some o :=
 PySem.W.hideAll_get _ e fun hm=>by
  have q:(H b).isSome=true:=(iG.mp hm).2
  rw [n]at q;simp at q
theorem W1u {h:Heap}{H:Hp}{b:Addr}{o:Obj} (e:(Q0e h H).get? b=some o):h.get? b=some o/\H b=none:=by
 have e':h.get? b=some o:=PySem.W.of_hideAll (trk h H) e
 refine⟨e',?_⟩
 cases q:H b with
 | none=>rfl
 | some x =>
  have hm:b∈trk h H:=iG.mpr ⟨aY.mpr (au e'),by simp [q]⟩
  have z:(Q0e h H).get? b=none:=PySem.W.hideAll_none (trk h H) hm
  rw [z]at e;cases e
end L2
namespace L2
open PySem PySem.Spec PyProof.Rows
structure Mod (K:Fg9) (mg:Str->Option Value) (base:Heap):Prop where
 kin:K.In base
 glob:base.Ns mainGlobals mg
 blt:∃mb,base.Ns builtinsNs mb/\∀x:Str,x≠"__name__"->mb x=bootBuiltins x
 nolimit:base.NoLimit
structure Cx where
 prog:Program
 w:World
 K:Fg9
 mg:Str->Option Value
 base:Heap
 A:Around
 N:List Str
 s₀:Shared
 H₀:Hp
 env:Env
 outer:List Env
 stack:List Env
 ex:List Addr
 fn:Str->Bool
 calm:Bool
 pn:Pn9
 xe:VS9
noncomputable def frs (l:List Env):List Addr:=l.filterMap (·.frame)
noncomputable abbrev Cx.fs (X:Cx):List Addr:=frs X.outer
def Vis (sc:Scope) (x:Str):Prop:=sc.names.lookup x=some .local\/sc.names.lookup x=some .cell\/sc.names.lookup x=some .free
def Loc (sc:Scope) (x:Str):Prop:=sc.names.lookup x=some .local\/sc.names.lookup x=some .cell
def Look (env:Env) (h:Heap) (m:Str->Option Value) (x:Str) (u:Value):Prop :=
 (env.kindOf x=some .local/\m x=some u)\/((env.kindOf x=some .cell\/env.kindOf x=some .free)/\∃c,env.cells.lookup x=some c/\h.IsCell c (some u))
structure Cx.Ok (X:Cx):Prop where
 mod:Mod X.K X.mg X.base
 kind:X.env.scope.kind=.function
 glob:X.env.globals=mainGlobals
 blt:X.env.builtins=builtinsNs
 above:X.s₀.heap.objs.size<=X.env.locals
 inj:∀x y c,X.env.cells.lookup x=some c->X.env.cells.lookup y=some c->x=y
 has:∀x,(X.env.kindOf x=some .cell\/X.env.kindOf x=some .free)->∃c,X.env.cells.lookup x=some c
 cab:∀x c,X.fn x=true->X.env.cells.lookup x=some c->X.s₀.heap.objs.size<=c
 hd:X.calm=true->X.A.handled=none
 frames:X.A.frames=some X.stack
 stk:X.stack=X.outer\/(X.stack=X.env::X.outer/\X.env.frame=some X.env.locals)
 exf:∀b∈X.ex,b≠X.env.locals/\∀x c,X.env.cells.lookup x=some c->c≠b
 bs:∀b o,X.base.get? b=some o->X.s₀.heap.get? b=some o/\X.H₀ b=none
 bsz:X.base.objs.size<=X.s₀.heap.objs.size
 noex:∀b o,X.base.get? b=some o->b∉X.ex
 exfs:∀b∈X.ex,b∉X.fs
 funs:X.s₀.heap.FunFrames X.base X.outer
 frf:∀b∈X.fs,X.H₀ b=none
structure A0 (X:Cx) (ac:Pn9) (σ:List (Option V)) (H:Hp) (s:Shared):Prop where
 ok:X.Ok
 os:s.os=X.s₀.os
 bare:AllBare s.gens
 base:Un X.fs X.ex X.H₀ H X.s₀.heap s.heap
 loc:∃m,s.heap.Ns X.env.locals m/\∀(i:Nat) (x:Str) (v:V),X.N[i]?=some x->σ[i]?=some (some v)->Vis X.env.scope x->∃u,B8 v u/\Look X.env s.heap m x u
 cell:∀x c,X.env.cells.lookup x=some c->∃v,s.heap.IsCell c v
 free:H X.env.locals=none
 freeC:∀x c,X.env.cells.lookup x=some c->H c=none
 pin:∀p∈X.pn++ac,s.heap.get? p.1=some p.2/\H p.1=none/\p.1≠X.env.locals/\p.1∉X.fs/\∀v,p.2.data≠.cell v
 hok:F5 X.prog X.w H s.heap
 len:σ.length=X.N.length
section
variable {X:Cx}{ac:Pn9} {σ:List (Option V)}{H H':Hp}{s:Shared}{h':Heap}
theorem Cx.Ok.nofr (ok:X.Ok) {b:Addr}{o:Obj} (e:X.base.get? b=some o):b∉X.fs:=fun hb=>by
 have:=(ok.funs.mem hb).1
 rw [e]at this;cases this
theorem A0.bs (I:A0 X ac σ H s):∀b o,X.base.get? b=some o->s.heap.get? b=some o/\H b=none:=fun b o e =>
 ⟨I.base.keep b o (I.ok.bs b o e).1 (I.ok.bs b o e).2 (I.ok.nofr e) (I.ok.noex b o e),I.base.free b o (I.ok.bs b o e).1 (I.ok.bs b o e).2 (I.ok.noex b o e)⟩
theorem A0.bk (I:A0 X ac σ H s):∀b o,X.base.get? b=some o->s.heap.get? b=some o:=fun b o e=>(I.bs b o e).1
theorem A0.mod (I:A0 X ac σ H s):Mod X.K X.mg X.base:=I.ok.mod
theorem A0.kIn (I:A0 X ac σ H s):X.K.In s.heap:=I.ok.mod.kin.keeps I.bk
theorem A0.lt (I:A0 X ac σ H s):X.env.locals<s.heap.objs.size:=let ⟨_,hn,_⟩:=I.loc;hn.lt
theorem A0.sz (I:A0 X ac σ H s):X.s₀.heap.objs.size<=s.heap.objs.size:=aT I.ok.above (cD I.lt)
theorem A0.nofs (I:A0 X ac σ H s) {a:Addr} (h:s.heap.objs.size<=a):a∉X.fs:=fun hb=>by
 obtain⟨_,o,ho,_⟩:=I.ok.funs.mem hb
 exact absurd (ax (au ho) (aT I.sz h)) (aQ _)
theorem A0.cne (I:A0 X ac σ H s):∀x c,X.env.cells.lookup x=some c->c≠X.env.locals:=fun x c e z=>by
 obtain⟨v,o,ho,hd⟩:=I.cell x c e
 obtain⟨m,⟨o',es,ep,jk,qE,_⟩,_⟩:=I.loc
 rw [z,jk]at ho;cases ho;rw [qE]at hd;cases hd
theorem A0.funs (I:A0 X ac σ H s):s.heap.FunFrames X.base X.outer:=by
 have all:∀(l:List Env),(∀b∈frs l,b∈X.fs)->X.s₀.heap.FunFrames X.base l->s.heap.FunFrames X.base l:=by
  intro l
  induction l with
  | nil=>intro _ _;trivial
  | cons env r ih =>
   intro hs hl
   obtain⟨hk,⟨L,o,hf,hn,ho,hd⟩,hr⟩:=hl
   have hL:L∈X.fs:=hs L (by unfold frs;rw [List.filterMap_cons,hf];exact ao)
   obtain⟨sl,e⟩:=I.base.slot L o ho (I.ok.frf L hL) hL fun z=>I.ok.exfs L z hL
   exact⟨hk,⟨L,_,hf,hn,e,hd⟩,ih (fun b hb=>hs b (by unfold frs;rw [List.filterMap_cons,hf];exact av _ hb)) hr⟩
 exact all X.outer (fun _ hb=>hb) I.ok.funs
theorem A0.stack (I:A0 X ac σ H s):s.heap.FunFrames X.base X.stack:=by
 rcases I.ok.stk with e | ⟨e,hf⟩
 ·rw [e];exact I.funs
 ·rw [e]
  obtain⟨m,hn,_⟩:=I.loc
  refine .cons (by rw [I.ok.kind];decide) hf hn ?_ I.funs
  exact Heap.get?_none_of_le (aT I.ok.bsz I.ok.above)
theorem A0.stkSub (I:A0 X ac σ H s):∀b∈frs X.stack,b∈X.env.locals::X.fs:=fun b hb=>by
 rcases I.ok.stk with e | ⟨e,hf⟩
 ·rw [e]at hb;exact av _ hb
 ·rw [e]at hb
  unfold frs at hb
  rw [List.filterMap_cons,hf]at hb
  exact hb
theorem A0.stkFree (I:A0 X ac σ H s):∀b∈frs X.stack,H b=none:=fun b hb=>by
 rcases aj.mp (I.stkSub b hb)with e | hb
 ·rw [e];exact I.free
 ·obtain⟨_,o,ho,_⟩:=I.ok.funs.mem hb
  exact I.base.free b o ho (I.ok.frf b hb) fun z=>I.ok.exfs b z hb
theorem A0.step {g':Array GenState}{t':Nat}{d':Drawn}{ch:List Addr} (I:A0 X ac σ H s)
  (gX:∀b∈ch,(b∈X.ex\/X.s₀.heap.objs.size<=b)/\b≠X.env.locals/\(∀x c,X.env.cells.lookup x=some c->c≠b)/\∀p∈X.pn++ac,p.1≠b)
  (keep:∀b o,b≠X.env.locals->b∉X.fs->b∉ch->s.heap.get? b=some o->H b=none->h'.get? b=some o)
  (slot:∀b o,b≠X.env.locals->b∈X.fs->b∉ch->s.heap.get? b=some o->H b=none->∃sl,h'.get? b=some { o with slots:=sl }) (free:∀b o,b∉ch->s.heap.get? b=some o->H b=none->H' b=none)
  (there:∀b o,b∉ch->s.heap.get? b=some o->∃o',h'.get? b=some o')
  (tups:∀b xs,H b=some (.tup xs)->H' b=some (.tup xs)) (frzs:∀b o u,H b=some (.frz o u)->H' b=some (.frz o u)) (tbls:∀b ps,H b=some (.tbl ps)->∃more,H' b=some (.tbl (ps++more)))
  (ns:∀m,s.heap.Ns X.env.locals m->h'.Ns X.env.locals m) (hok:F5 X.prog X.w H' h') (hg:AllBare g') :
  A0 X ac σ H' { s with heap:=h',gens:=g',drawn:=d',toks:=t' }:=by
 have nB:∀b o,X.s₀.heap.get? b=some o->b≠X.env.locals:=fun b o e=>az (ax (au e) I.ok.above)
 have gP:∀b o,X.s₀.heap.get? b=some o->b∉X.ex->b∉ch:=fun b o e hx hb=>by
  rcases (gX b hb).1 with z | z
  ·exact hx z
  ·exact absurd (ax (au e) z) (aQ _)
 have j1:∀x c,X.env.cells.lookup x=some c->∀v,s.heap.IsCell c v->h'.IsCell c v:=fun x c e v ⟨o,ho,hd⟩=>by
  have jZ:c∉ch:=fun z=>(gX c z).2.2.1 x c e rfl
  by_cases hc:c∈X.fs
  ·obtain⟨sl,q⟩:=slot c o (I.cne x c e) hc jZ ho (I.freeC x c e)
   exact⟨_,q,hd⟩
  ·exact⟨o,keep c o (I.cne x c e) hc jZ ho (I.freeC x c e),hd⟩
 refine⟨I.ok,I.os,hg,⟨fun b o e n hb hx=>?_,fun b o e n hb hx=>?_,fun b o e n hx=>?_,fun b o e hx=>?_,fun b xs e=>tups b xs (I.base.tups b xs e),fun b o xs e=>frzs b o xs (I.base.frzs b o xs e),fun b ps e=>?_⟩,?_,fun x c e=>?_,?_,fun x c e=>?_,fun p hp=>?_,hok,I.len⟩
 ·exact keep b o (nB b o e) hb (gP b o e hx) (I.base.keep b o e n hb hx) (I.base.free b o e n hx)
 ·obtain⟨sl,e1⟩:=I.base.slot b o e n hb hx
  obtain⟨p7,e2⟩:=slot b _ (nB b o e) hb (gP b o e hx) e1 (I.base.free b o e n hx)
  exact⟨p7,e2⟩
 ·obtain⟨o',e1⟩:=I.base.there b o e hx
  exact free b o' (gP b o e hx) e1 (I.base.free b o e n hx)
 ·obtain⟨o',e1⟩:=I.base.there b o e hx
  exact there b o' (gP b o e hx) e1
 ·obtain⟨m1,e1⟩:=I.base.tbls b ps e
  obtain⟨m2,e2⟩:=tbls b _ e1
  exact⟨m1++m2,by rw [e2,Array.append_assoc]⟩
 ·obtain⟨m,hn,hl⟩:=I.loc
  refine⟨m,ns m hn,fun i x v e1 e2 e3=>?_⟩
  obtain⟨u,r,l⟩:=hl i x v e1 e2 e3
  refine⟨u,r,?_⟩
  rcases l with l | ⟨k,c,e,z⟩
  ·exact .inl l
  ·exact .inr ⟨k,c,e,j1 x c e _ z⟩
 ·obtain⟨v,z⟩:=I.cell x c e
  exact⟨v,j1 x c e v z⟩
 ·obtain⟨m,⟨o,_,_,ho,_⟩,_⟩:=I.loc
  exact free _ o (fun z=>(gX _ z).2.1 rfl) ho I.free
 ·obtain⟨v,o,ho,hd⟩:=I.cell x c e
  exact free c o (fun z=>(gX c z).2.2.1 x c e rfl) ho (I.freeC x c e)
 ·obtain⟨e,n,ne,nf,d⟩:=I.pin p hp
  have jZ:p.1∉ch:=fun z=>(gX p.1 z).2.2.2 p hp rfl
  exact⟨keep p.1 p.2 ne nf jZ e n,free p.1 p.2 jZ e n,ne,nf,d⟩
theorem A0.un {t':Nat} (I:A0 X ac σ H s) (u:Un X.fs [] H H' s.heap h') (hok:F5 X.prog X.w H' h'):A0 X ac σ H' { s with heap:=h',toks:=t' }:=by
 obtain⟨m,⟨o,es,ep,ho,r⟩,_⟩:=id I.loc
 obtain⟨sl,hL⟩:=u.any ho I.free (by simp)
 exact I.step (g':=s.gens) (d':=s.drawn) (ch:=[]) (fun _ z=>nomatch z) (fun b o _ hb _ e n=>u.keep b o e n hb (by simp)) (fun b o _ hb _ e n=>u.slot b o e n hb (by simp)) (fun b o _ e n=>u.free b o e n (by simp)) (fun b o _ e=>u.there b o e (by simp)) u.tups u.frzs u.tbls (fun m' hm=>by
  obtain⟨o',eQ,lf,jk,r'⟩:=hm
  rw [ho]at jk;cases jk
  exact⟨_,eQ,lf,hL,r'⟩) hok I.bare
theorem A0.call {g':Array GenState}{t':Nat}{d':Drawn}{ch:List Addr} (I:A0 X ac σ H s) (u:Un (frs X.stack) ch H H' s.heap h') (hok:F5 X.prog X.w H' h') (hg:AllBare g')
  (gX:∀b∈ch,(b∈X.ex\/X.s₀.heap.objs.size<=b)/\b≠X.env.locals/\(∀x c,X.env.cells.lookup x=some c->c≠b)/\∀p∈X.pn++ac,p.1≠b) :
  A0 X ac σ H' { s with heap:=h',gens:=g',drawn:=d',toks:=t' }:=by
 obtain⟨m,⟨o,es,ep,ho,r⟩,_⟩:=id I.loc
 obtain⟨sl,hL⟩:=u.any ho I.free fun z=>(gX _ z).2.1 rfl
 exact I.step (ch:=ch) gX (fun b o hL hb hc e n=>u.keep b o e n (fun z=>(aj.mp (I.stkSub b z)).elim hL hb) hc) (fun b o _ _ hc e n=>u.any e n hc) (fun b o hc e n=>u.free b o e n hc) (fun b o hc e=>u.there b o e hc) u.tups u.frzs u.tbls (fun m' hm=>by
  obtain⟨o',eQ,lf,jk,r'⟩:=hm
  rw [ho]at jk;cases jk
  exact⟨_,eQ,lf,hL,r'⟩) hok hg
theorem A0.turned {t':Nat}{it:Addr} (I:A0 X ac σ H s) (k:∀b o,b≠it->s.heap.get? b=some o->h'.get? b=some o) (hn:H it=none) (hL:it≠X.env.locals)
  (h1:it∈X.ex\/X.s₀.heap.objs.size<=it) (h2:∀x c,X.env.cells.lookup x=some c->c≠it) (h3:∀p∈X.pn++ac,p.1≠it):A0 X ac σ H { s with heap:=h',toks:=t' }:=by
 have iL:∀b u,H b=some u->b≠it:=fun b u e z=>by rw [z,hn]at e;cases e
 refine I.step (g':=s.gens) (d':=s.drawn) (ch:=[it]) (fun b hb=>?_) (fun b o _ _ hc e _=>k b o (fun z=>hc (by simp [z])) e) (fun b o _ _ hc e _=>⟨o.slots,k b o (fun z=>hc (by simp [z])) e⟩) (fun _ _ _ _ n=>n)
  (fun b o hc e=>⟨o,k b o (fun z=>hc (by simp [z])) e⟩) (fun _ _ e=>e) (fun _ _ _ e=>e) (fun b ps e=>⟨#[],by rw [e];simp⟩) (fun m hm=>?_) (fun b u e=>?_) I.bare
 ·have e:b=it:=by simpa using hb
  subst e
  exact⟨h1,hL,h2,h3⟩
 ·obtain⟨o,es,ep,ho,r⟩:=hm
  exact⟨o,es,ep,k _ o (bD hL) ho,r⟩
 ·refine(I.hok b u e).stay (fun c v hc q=>k c v ?_ q) (fun _ _ _ q=>q) fun _ _ q=>q
  rcases hc with z | z
  ·rw [z];exact iL b u e
  ·exact iL c _ z
theorem A0.tok (I:A0 X ac σ H s) (t:Nat):A0 X ac σ H { s with toks:=t }:=I.un (h':=s.heap) (t':=t) Un.refl I.hok
theorem A0.kept {t':Nat} (I:A0 X ac σ H s) (k:∀b u,s.heap.get? b=some u->h'.get? b=some u):A0 X ac σ H { s with heap:=h',toks:=t' }:=I.un (Un.kept k) (I.hok.kept k)
theorem A0.laid {a:Addr}{o:HO}{t':Nat} (I:A0 X ac σ H s) (k:∀b u,s.heap.get? b=some u->h'.get? b=some u) (hp:s.heap.objs.size<=a) (new:F1 X.prog X.w (upd H a o) h' a o) :
  A0 X ac σ (upd H a o) { s with heap:=h',toks:=t' }:=I.un (Un.laid k hp (I.hok.fresh hp)) (I.hok.laid k hp new)
theorem A0.write {x e:Addr}{o:HO}{t':Nat} (I:A0 X ac σ H s) (mu:Mut (H x)) (he:e=x\/H e=some (.own x)) (k:∀b u,b≠e->s.heap.get? b=some u->h'.get? b=some u) (jG:∃u,h'.get? e=some u)
  (new:F1 X.prog X.w (upd H x o) h' x o):A0 X ac σ (upd H x o) { s with heap:=h',toks:=t' }:=I.un (Un.write mu he k jG) (I.hok.write mu he k jG new)
theorem A0.pins_of {iK:Pn9} (I:A0 X ac σ H s) (h:∀p∈iK,s.heap.get? p.1=some p.2/\H p.1=none/\p.1≠X.env.locals/\p.1∉X.fs/\∀v,p.2.data≠.cell v):A0 X iK σ H s :=
 ⟨I.ok,I.os,I.bare,I.base,I.loc,I.cell,I.free,I.freeC,fun p hp=>(aR.mp hp).elim (fun z=>I.pin p (bi _ z)) (h p),I.hok,I.len⟩
theorem Y0l {N:List Str} (hN:N.Nodup) {i j:Nat}{x:Str} (a:N[i]?=some x) (b:N[j]?=some x):i=j:=by
 obtain⟨h1,e1⟩:=aI.mp a
 obtain⟨h2,e2⟩:=aI.mp b
 exact(List.getElem_inj hN).mp (e1.trans e2.symm)
theorem Q9a {M:Model}{A:Around}{E:VS9}{i:Nat}{x:Str}{v:V}{u:Value}{Q:Unit->Shared->Prop} (I:A0 X ac σ H s) (hN:X.N.Nodup) (hi:X.N[i]?=some x) (hx:Loc X.env.scope x) (r:B8 v u)
  (h:∀s',A0 X ac (σ.set i (some v)) H s'->(∃a,Heap.SameBut a s.heap s'.heap/\(a=X.env.locals\/X.env.cells.lookup x=some a))->Q () s') (hf:X.fn x=true\/X.env.scope.names.lookup x=some .local:=by first | exact .inl rfl | exact .inr rfl | assumption):wpAny M A (storeName X.env x u) Q E s:=by
 obtain⟨m,hn,hl⟩:=id I.loc
 have mH:(X.env.scope.kind==.class||(X.env.scope.kind==.module&&X.env.locals != X.env.globals))=false:=by rw [I.ok.kind];rfl
 have hiσ:i<σ.length:=by rw [I.len];exact(aI.mp hi).1
 have cne:=I.cne
 have tracked:∀{a:Addr}{h':Heap},(∃o,s.heap.get? a=some o/\H a=none)->Heap.SameBut a s.heap h'->F5 X.prog X.w H h':=fun {a h'} ha hs b ob e=>by
  obtain⟨_,_,iS⟩:=ha
  refine(I.hok b ob e).stay (fun c w' hc q=>(hs.2 c ?_).trans q) (fun _ _ _ q=>q) fun _ _ q=>q
  rintro rfl
  rcases hc with rfl | hc
  ·rw [iS]at e;cases e
  ·rw [iS]at hc;cases hc
 rcases hx with hk | hk
 ·refine wpAny_storeName_local hk hn (fun h' qi hs=>?_) mH
  obtain⟨oL,_,_,qg,_⟩:=id hn
  refine h _ ⟨I.ok,I.os,I.bare,⟨fun b o e n hb hx=>?_,fun b o e n hb hx=>?_,I.base.free,fun b o e hx=>?_,I.base.tups,I.base.frzs,I.base.tbls⟩,⟨_,qi,fun j y v' e1 e2 e3=>?_⟩,fun y c e=>?_,I.free,I.freeC,fun p hp=>?_,tracked ⟨oL,qg,I.free⟩ hs,by simpa using I.len⟩ ⟨_,hs,.inl rfl⟩
  ·exact(hs.2 b (az (ax (au e) I.ok.above))).trans (I.base.keep b o e n hb hx)
  ·obtain⟨sl,e1⟩:=I.base.slot b o e n hb hx
   exact⟨sl,(hs.2 b (az (ax (au e) I.ok.above))).trans e1⟩
  ·obtain⟨o',e1⟩:=I.base.there b o e hx
   exact⟨o',(hs.2 b (az (ax (au e) I.ok.above))).trans e1⟩
  ·by_cases hj:j=i
   ·subst hj
    rw [hi]at e1;cases e1
    rw [ba hiσ]at e2
    cases e2
    exact⟨u,r,.inl ⟨hk,by simp⟩⟩
   ·rw [aG (bD hj)]at e2
    obtain⟨u',r',q⟩:=hl j y v' e1 e2 e3
    refine⟨u',r',?_⟩
    rcases q with⟨k,e⟩ | ⟨k,c,e,z⟩
    ·refine .inl ⟨k,?_⟩
     have:y≠x:=fun e=>hj (Y0l hN e1 (e ▸ hi))
     simp [this,e]
    ·exact .inr ⟨k,c,e,z.sameBut hs (cne y c e)⟩
  ·obtain⟨w',z⟩:=I.cell y c e
   exact⟨w',z.sameBut hs (cne y c e)⟩
  ·obtain⟨e,n,ne,nf,d⟩:=I.pin p hp
   exact⟨(hs.2 p.1 ne).trans e,n,ne,nf,d⟩
 ·have iT:X.fn x=true:=by
   rcases hf with z | z
   ·exact z
   ·rw [z]at hk;cases hk
  obtain⟨c,hc⟩:=I.ok.has x (.inl hk)
  obtain⟨w',z⟩:=I.cell x c hc
  refine wpAny_storeName_cell I.ok.kind hk hc z (fun h' dR hs=>?_)
  obtain⟨oc,fP,me⟩:=id z
  refine h { s with heap:=h' } ⟨I.ok,I.os,I.bare,⟨fun b o e n hb hx=>?_,fun b o e n hb hx=>?_,I.base.free,fun b o e hx=>?_,I.base.tups,I.base.frzs,I.base.tbls⟩,⟨m,hn.sameBut hs (bD (cne x c hc)),fun j y v' e1 e2 e3=>?_⟩,fun y c' e=>?_,I.free,I.freeC,fun p hp=>?_,tracked ⟨oc,fP,I.freeC x c hc⟩ hs,by simpa using I.len⟩ ⟨c,hs,.inr hc⟩
  ·exact(hs.2 b (az (ax (au e) (I.ok.cab x c iT hc)))).trans (I.base.keep b o e n hb hx)
  ·obtain⟨sl,e1⟩:=I.base.slot b o e n hb hx
   exact⟨sl,(hs.2 b (az (ax (au e) (I.ok.cab x c iT hc)))).trans e1⟩
  ·obtain⟨o',e1⟩:=I.base.there b o e hx
   exact⟨o',(hs.2 b (az (ax (au e) (I.ok.cab x c iT hc)))).trans e1⟩
  ·by_cases hj:j=i
   ·subst hj
    rw [hi]at e1;cases e1
    rw [ba hiσ]at e2
    cases e2
    exact⟨u,r,.inr ⟨.inl hk,c,hc,dR⟩⟩
   ·rw [aG (bD hj)]at e2
    obtain⟨u',r',q⟩:=hl j y v' e1 e2 e3
    refine⟨u',r',?_⟩
    rcases q with q | ⟨k,c',e,z'⟩
    ·exact .inl q
    ·refine .inr ⟨k,c',e,z'.sameBut hs ?_⟩
     rintro rfl
     exact hj (Y0l hN e1 (I.ok.inj _ _ _ e hc ▸ hi))
  ·by_cases im:c'=c
   ·subst im;exact⟨_,dR⟩
   ·obtain⟨w2,z2⟩:=I.cell y c' e
    exact⟨w2,z2.sameBut hs im⟩
  ·obtain⟨e,n,ne,nf,d⟩:=I.pin p hp
   refine⟨(hs.2 p.1 ?_).trans e,n,ne,nf,d⟩
   intro q
   rw [q,fP]at e
   have q':oc=p.2:=aB e
   exact d w' (by rw [<- q'];exact me)
theorem Z4a {M:Model}{A:Around}{E:VS9}{i:Nat}{x:Str}{v:V}{u:Value}{Q:Unit->Shared->Prop} (I:A0 X ac σ H s) (hN:X.N.Nodup) (hi:X.N[i]?=some x) (hx:Loc X.env.scope x) (r:B8 v u)
  (h:∀s',A0 X ac (σ.set i (some v)) H s'->Q () s') (hf:X.fn x=true\/X.env.scope.names.lookup x=some .local:=by first | exact .inl rfl | exact .inr rfl | assumption):wpAny M A (storeName X.env x u) Q E s :=
 Q9a I hN hi hx r (fun s' I' _=>h s' I') hf
theorem A0.call' {s':Shared}{ch:List Addr} (I:A0 X ac σ H s) (ho:s'.os=s.os) (u:Un (frs X.stack) ch H H' s.heap s'.heap) (hok:F5 X.prog X.w H' s'.heap) (hg:AllBare s'.gens)
  (gX:∀b∈ch,(b∈X.ex\/X.s₀.heap.objs.size<=b)/\b≠X.env.locals/\(∀x c,X.env.cells.lookup x=some c->c≠b)/\∀p∈X.pn++ac,p.1≠b):A0 X ac σ H' s':=by
 obtain⟨h',g',d',t',o'⟩:=s'
 have e:o'=s.os:=ho
 subst e
 exact I.call (g':=g') (t':=t') (d':=d') u hok hg gX
end
noncomputable abbrev XK:=Value->Option Addr->Hp->Prop
noncomputable abbrev St:=List (Option V)
noncomputable abbrev VK:=V->Hp->Prop
noncomputable abbrev TE:=St->Hp->VK->Prop
noncomputable abbrev TT:=St->Hp->(Bool->Hp->Prop)->Prop
noncomputable abbrev TA:=St->Hp->(List V->Hp->Prop)->Prop
structure L7 where
 nx:St->Hp->Prop
 rt:VK
 bk:St->Hp->Prop:=fun _ _=>False
 ct:St->Hp->Prop:=fun _ _=>False
noncomputable abbrev TS:=L7->St->Hp->Prop
def EP (X:Cx) (ac:Pn9) (σ:St) (Q:VK) (u:Value) (s':Shared):Prop:=∃v H',A0 X ac σ H' s'/\B8 v u/\Q v H'
def TP (X:Cx) (ac:Pn9) (σ:St) (Q:Bool->Hp->Prop) (b:Bool) (s':Shared):Prop:=∃H',A0 X ac σ H' s'/\Q b H'
def AP (X:Cx) (ac:Pn9) (σ:St) (Q:List V->Hp->Prop) (us:List Value) (s':Shared):Prop:=∃vs H',A0 X ac σ H' s'/\C0 vs us/\Q vs H'
def SP (X:Cx) (ac:Pn9) (D:L7) (f:Flow) (s':Shared):Prop :=
 match f with
 | .next=>∃ σ' H',A0 X ac σ' H' s'/\D.nx σ' H'
 | .brk=>∃ σ' H',A0 X ac σ' H' s'/\D.bk σ' H'
 | .cont=>∃ σ' H',A0 X ac σ' H' s'/\D.ct σ' H'
 | .ret u=>∃v σ' H',A0 X ac σ' H' s'/\B8 v u/\D.rt v H'
def PE (X:Cx) (e:Expr) (t:TE):Prop :=
 ∀(ac:Pn9) (s:Shared) (σ:St) (H:Hp) (Q:VK),A0 X ac σ H s->t σ H Q->wpAny (model X.prog X.w) X.A (eval e X.env) (EP X ac σ Q) X.xe s
def PT (X:Cx) (e:Expr) (t:TT):Prop :=
 ∀(ac:Pn9) (s:Shared) (σ:St) (H:Hp) (Q:Bool->Hp->Prop),A0 X ac σ H s->t σ H Q->wpAny (model X.prog X.w) X.A (isTrue e X.env (eval e X.env)) (TP X ac σ Q) X.xe s
def PW (X:Cx) (e:Expr) (t:TT):Prop :=
 ∀(whole:Sem Value) (ac:Pn9) (s:Shared) (σ:St) (H:Hp) (Q:Bool->Hp->Prop),A0 X ac σ H s->t σ H Q->wpAny (model X.prog X.w) X.A (isTrue e X.env whole) (TP X ac σ Q) X.xe s
theorem PW.pt {X:Cx}{e:Expr}{t:TT} (h:PW X e t):PT X e t:=h _
def PA (X:Cx) (es:List Expr) (t:TA):Prop :=
 ∀(pos:Pos) (ac:Pn9) (s:Shared) (σ:St) (H:Hp) (Q:List V->Hp->Prop),A0 X ac σ H s->t σ H Q->wpAny (model X.prog X.w) X.A (spliced (backTo pos (starEach es X.env))) (AP X ac σ Q) X.xe s
def PS (X:Cx) (st:Stmt) (t:TS):Prop :=
 ∀(ac:Pn9) (s:Shared) (σ:St) (H:Hp) (D:L7),A0 X ac σ H s->t D σ H->wpAny (model X.prog X.w) X.A (exec st X.env) (SP X ac D) X.xe s
def PSs (X:Cx) (st:List Stmt) (t:TS):Prop :=
 ∀(ac:Pn9) (s:Shared) (σ:St) (H:Hp) (D:L7),A0 X ac σ H s->t D σ H->wpAny (model X.prog X.w) X.A (execs st X.env) (SP X ac D) X.xe s
theorem B3 {α:Type}{t:Sem α}{Q Q':α->Shared->Prop}{M:Model}{A:Around}{E:VS9}{s:Shared} (h:wpAny M A t Q E s) (hQ:∀a s,Q a s->Q' a s):wpAny M A t Q' E s:=aP h hQ fun _ _ x=>x
end L2
namespace L2
open PySem PySem.Spec PyProof.Rows
section
variable {X:Cx}
def O3 (i:Nat):TE:=fun σ H Q=>∃v,σ[i]?=some (some v)/\Q v H
def tC (v:V):TE:=fun _ H Q=>Q v H
theorem W3m {i:Nat}{x:Str}{pos:Pos} (hN:X.N[i]?=some x) (hv:Vis X.env.scope x) (hd:(x==("__debug__":Str))=false:=by decide) (eg:(x==("__classdict__":Str))=false:=by decide):PE X (.Name x pos) (O3 i):=by
 intro ac s σ H Q I h
 obtain⟨v,e,h⟩:=h
 obtain⟨m,hn,hl⟩:=I.loc
 obtain⟨u,r,l⟩:=hl i x v hN e hv
 have fin:EP X ac σ Q u s:=⟨v,H,I,r,h⟩
 rcases l with⟨hk,hm⟩ | ⟨hk,c,hc,cY⟩
 ·exact wpAny_Name (wpAny_loadName_local I.ok.kind hk hn hm fin) hd
 ·rcases hk with hk | hk
  ·exact wpAny_Name (wpAny_loadName_cell I.ok.kind hk hc cY fin) hd
  ·exact wpAny_Name (wpAny_loadName_free I.ok.kind hk hc cY fin eg) hd
theorem W2z {i j pos}:PE X (.Constant (.int i) j pos) (tC (.int i)):=fun _ _ _ H _ I h=>wpAny_Constant_int ⟨.int i,H,I.tok _,⟨_,rfl⟩,h⟩
theorem W2o {b j pos}:PE X (.Constant (.bool b) j pos) (tC (.bl b)):=fun _ _ _ H _ I h=>Constant_bool ⟨.bl b,H,I,rfl,h⟩
theorem W3j {x j pos}:PE X (.Constant (.str x) j pos) (tC (.str x)):=fun _ _ _ H _ I h=>Calls.Constant_str ⟨.str x,H,I.tok _,⟨_,rfl⟩,h⟩
def Gl (X:Cx) (x:Str):Prop:=X.env.kindOf x=some .globalImplicit
theorem Z1y {E:VS9}{ac:Pn9}{s:Shared} {σ:St}{H:Hp}{x:Str}{u:Value}{pos:Pos}{Q:VS9} (I:A0 X ac σ H s) (hg:Gl X x) (hm:X.mg x=some u) (h:Q u s)
  (hd:(x==("__debug__":Str))=false:=by decide):wpAny (model X.prog X.w) X.A (eval (.Name x pos) X.env) Q E s :=
 Calls.Name_function_global I.ok.kind hg (Calls.loadGlobal_global (by rw [I.ok.glob];exact I.mod.glob.keeps I.bk) hm h) hd
theorem X5 {E:VS9}{ac:Pn9}{s:Shared} {σ:St}{H:Hp}{x:Str}{u:Value}{pos:Pos}{Q:VS9} (I:A0 X ac σ H s) (hg:Gl X x) (hm:X.mg x=none) (hv:bootBuiltins x=some u) (h:Q u s)
  (hn:x≠"__name__":=by decide) (hd:(x==("__debug__":Str))=false:=by decide):wpAny (model X.prog X.w) X.A (eval (.Name x pos) X.env) Q E s:=by
 obtain⟨mb,h1,h2⟩:=I.mod.blt
 exact Calls.Name_function_global I.ok.kind hg (Calls.loadGlobal_builtin (by rw [I.ok.glob];exact I.mod.glob.keeps I.bk) hm (by rw [I.ok.blt];exact h1.keeps I.bk) ((h2 x hn).trans hv) h) hd
theorem W2y {x:Str}{v:V}{u:Value}{pos:Pos} (hg:Gl X x) (hm:X.mg x=some u) (r:B8 v u) (hd:(x==("__debug__":Str))=false:=by decide):PE X (.Name x pos) (tC v) :=
 fun _ _ _ H _ I h=>Z1y I hg hm ⟨v,H,I,r,h⟩ hd
theorem W2p {x:Str}{v:V}{u:Value}{pos:Pos} (hg:Gl X x) (hm:X.mg x=none) (hv:bootBuiltins x=some u) (r:B8 v u) (hn:x≠"__name__":=by decide) (hd:(x==("__debug__":Str))=false:=by decide):PE X (.Name x pos) (tC v) :=
 fun _ _ _ H _ I h=>X5 I hg hm hv ⟨v,H,I,r,h⟩ hn hd
variable {a b:Expr}{ta tb:TE}{pos:Pos}
def PC (X:Cx) (op:CmpOp) (a b:Expr) (t:TE):Prop :=
 ∀(ac:Pn9) (s:Shared) (σ:St) (H:Hp) (Q:VK),A0 X ac σ H s->t σ H Q ->
  wpAny (model X.prog X.w) X.A (eval a X.env) (fun v s₁=>wpAny (model X.prog X.w) X.A (eval b X.env) (fun u s₂=>wpAny (model X.prog X.w) X.A (compareOp op v u) (EP X ac σ Q) X.xe s₂) X.xe s₁) X.xe s
def tB (t:TE):TT:=fun σ H Q=>t σ H fun x H1=>∃c,x=.bl c/\Q c H1
theorem W4e {op:CmpOp}{t:TE} (h:PC X op a b t) (h1:behindInMarks op b=false:=by first | exact nobehind _ (by decide) (by decide) | rfl):PT X (.Compare a [op] [b] pos) (tB t):=by
 intro ac s σ H Q I hw
 refine wpAny_isTrue_Compare1 (B3 (h ac s σ H _ I hw) fun v s1 h1=>B3 h1 fun u s2 h2=>B3 h2 fun c s3 ⟨x,H1,I1,r1,q1⟩=>?_) h1
 obtain⟨d,rfl,q⟩:=q1
 cases r1
 exact eR ⟨H1,I1,q⟩
variable {tA kT:TT}{rest:List Expr}
def tAnd (t u:TT):TT:=fun σ H Q=>t σ H fun c H1=>if c=true then u σ H1 Q else Q false H1
def tOr (t u:TT):TT:=fun σ H Q=>t σ H fun c H1=>if c=true then Q true H1 else u σ H1 Q
def tNot (t:TT):TT:=fun σ H Q=>t σ H fun c H1=>Q (!c) H1
theorem W4j (ha:PT X a tA):PW X (.BoolOp .And [a] pos) tA:=by
 intro wh ac s σ H Q I h
 refine isTrue_and (B3 (ha ac s σ H Q I h) fun c s1 e=>?_)
 cases c with
 | true=>exact isTrue_and_nil e
 | false=>exact e
theorem W4l (ha:PT X a tA):PW X (.BoolOp .Or [a] pos) tA:=by
 intro wh ac s σ H Q I h
 refine isTrue_or (B3 (ha ac s σ H Q I h) fun c s1 e=>?_)
 cases c with
 | false=>exact isTrue_or_nil e
 | true=>exact e
theorem W4i (ha:PT X a tA) (hb:PW X (.BoolOp .And (b::rest) pos) kT):PW X (.BoolOp .And (a::b::rest) pos) (tAnd tA kT):=by
 intro wh ac s σ H Q I h
 refine isTrue_and (B3 (ha ac s σ H _ I h) fun c s1 ⟨H1,I1,q1⟩=>?_)
 cases c with
 | true=>exact hb wh ac s1 σ H1 Q I1 q1
 | false=>exact⟨H1,I1,q1⟩
theorem W4k (ha:PT X a tA) (hb:PW X (.BoolOp .Or (b::rest) pos) kT):PW X (.BoolOp .Or (a::b::rest) pos) (tOr tA kT):=by
 intro wh ac s σ H Q I h
 refine isTrue_or (B3 (ha ac s σ H _ I h) fun c s1 ⟨H1,I1,q1⟩=>?_)
 cases c with
 | true=>exact⟨H1,I1,q1⟩
 | false=>exact hb wh ac s1 σ H1 Q I1 q1
theorem W4g (ha:PT X a tA):PT X (.UnaryOp .Not a pos) (tNot tA):=by
 intro ac s σ H Q I h
 exact isTrue_not (ha ac s σ H (fun c H1=>Q (!c) H1) I h)
def W7q (ta tb:TE):TE:=fun σ H Q=>ta σ H fun x H1=>∃c,x=.bl c/\if c=true then tb σ H1 Q else Q (.bl false) H1
def tOrV (ta tb:TE):TE:=fun σ H Q=>ta σ H fun x H1=>∃c,x=.bl c/\if c=true then Q (.bl true) H1 else tb σ H1 Q
theorem Y1f {op}{t:TE} (h:PE X a t):PE X (.BoolOp op [a] pos) t:=fun ac s σ H Q I hw=>BoolOp_one (h ac s σ H Q I hw)
theorem W2n (ha:PE X a ta) (hb:PE X (.BoolOp .And (b::rest) pos) tb):PE X (.BoolOp .And (a::b::rest) pos) (W7q ta tb):=by
 intro ac s σ H Q I h
 refine BoolOp_and (B3 (ha ac s σ H _ I h) fun v s1 ⟨x,H1,I1,r1,q1⟩=>?_)
 obtain⟨c,rfl,q1⟩:=q1
 cases r1
 refine eR ?_
 cases c with
 | true=>exact hb ac s1 σ H1 Q I1 q1
 | false=>exact⟨.bl false,H1,I1,rfl,q1⟩
theorem W3g (ha:PE X a ta) (hb:PE X (.BoolOp .Or (b::rest) pos) tb):PE X (.BoolOp .Or (a::b::rest) pos) (tOrV ta tb):=by
 intro ac s σ H Q I h
 refine BoolOp_or (B3 (ha ac s σ H _ I h) fun v s1 ⟨x,H1,I1,r1,q1⟩=>?_)
 obtain⟨c,rfl,q1⟩:=q1
 cases r1
 refine eR ?_
 cases c with
 | false=>exact hb ac s1 σ H1 Q I1 q1
 | true=>exact⟨.bl true,H1,I1,rfl,q1⟩
end
end L2
namespace L2
open PySem PySem.Spec PyProof.Rows
def C6 (K:Fg9) (H:Hp) (a:Addr) (xs:List V):Prop :=
 Rd H a (.lst xs) \/
  ∃(o:Obj) (aU:Array Value) (n:Nat),K.lookup a=some o/\o.cls=.type "list"/\o.dict=none/\o.data=.seq aU n/\aU.size<=sizeLine/\C0 xs aU.toList
def C2 (K:Fg9) (H:Hp) (a:Addr) (xs:List V):Prop :=
 Rd H a (.tup xs) \/
  ∃(o:Obj) (aU:Array Value) (n:Nat),K.lookup a=some o/\o.cls=.type "tuple"/\o.data=.seq aU n/\aU.size<=sizeLine/\C0 xs aU.toList
noncomputable def absV:Value->Option V
 | .none=>some .non
 | .bool b=>some (.bl b)
 | .int i _=>some (.int i)
 | .str x _=>some (.str x)
 | .bytes b _=>some (.byt b)
 | .float b _=>some (.flt b)
 | .ref a=>some (.ref a)
 | .type n=>some (.ty n)
 | _=>none
theorem B8.abs {x:V}{u:Value} (r:B8 x u):absV u=some x:=by
 cases x with
 | non=>cases r;rfl
 | bl _=>cases r;rfl
 | int _=>obtain⟨t,rfl⟩:=r;rfl
 | str _=>obtain⟨t,rfl⟩:=r;rfl
 | byt _=>obtain⟨t,rfl⟩:=r;rfl
 | flt _=>obtain⟨t,rfl⟩:=r;rfl
 | ref _=>cases r;rfl
 | ty _=>cases r;rfl
theorem B8.inj {x y:V}{u:Value} (r:B8 x u) (q:B8 y u):x=y:=aB (r.abs.symm.trans q.abs)
theorem C0.inj:∀{xs ys:List V}{us:List Value},C0 xs us->C0 ys us->xs=ys
 | _,_,_,.nil,.nil=>rfl
 | _,_,_,.cons r t,.cons r' t'=>by rw [r.inj r',C0.inj t t']
section
variable {X:Cx}{ac:Pn9} {σ:St}{H:Hp}{s:Shared}{a:Addr}{xs ys:List V}
theorem C6.of {K:Fg9} (h:H a=some (.lst xs)):C6 K H a xs:=.inl (.inl h)
theorem C2.of {K:Fg9} (h:H a=some (.tup xs)):C2 K H a xs:=.inl (.inl h)
theorem A0.list (I:A0 X ac σ H s) (h:C6 X.K H a xs):∃aU:List Value,C0 xs aU/\PlainL s.heap a aU.toArray/\xs.length<=sizeLine:=by
 rcases h with h | ⟨o,aU,n,hk,hc,hd,hs,hz,r⟩
 ·obtain⟨z,aU,n,r,e⟩:=h.ok I.hok
  exact⟨aU,r,⟨_,n,e,rfl,rfl,rfl⟩,z⟩
 ·refine⟨aU.toList,r,⟨o,n,I.kIn a o hk,hc,hd,by simpa using hs⟩,?_⟩
  have e:=r.length
  simp only [bZ]at e
  omega
theorem A0.tuple (I:A0 X ac σ H s) (h:C2 X.K H a xs):∃aU:List Value,C0 xs aU/\IsTup s.heap a aU.toArray/\xs.length<=sizeLine:=by
 rcases h with h | ⟨o,aU,n,hk,hc,hs,hz,r⟩
 ·obtain⟨z,aU,r,p⟩:=h.ok I.hok
  exact⟨aU,r,p,z⟩
 ·refine⟨aU.toList,r,⟨o,I.kIn a o hk,hc,n,by simpa using hs⟩,?_⟩
  have e:=r.length
  simp only [bZ]at e
  omega
theorem A0.list_inj (I:A0 X ac σ H s) (h:C6 X.K H a xs) (h':C6 X.K H a ys):xs=ys:=by
 obtain⟨aU,r,⟨o,n,e,_,_,d⟩,_⟩:=I.list h
 obtain⟨its',r',⟨o',n',e',_,_,d'⟩,_⟩:=I.list h'
 rw [e]at e';cases e'
 rw [d]at d'
 injection d' with d1 _
 have:aU=its':=by simpa using congrArg Array.toList d1
 subst this
 exact r.inj r'
theorem A0.tuple_inj (I:A0 X ac σ H s) (h:C2 X.K H a xs) (h':C2 X.K H a ys):xs=ys:=by
 obtain⟨aU,r,⟨o,e,_,n,d⟩,_⟩:=I.tuple h
 obtain⟨its',r',⟨o',e',_,n',d'⟩,_⟩:=I.tuple h'
 rw [e]at e';cases e'
 rw [d]at d'
 injection d' with d1 _
 have:aU=its':=by simpa using congrArg Array.toList d1
 subst this
 exact r.inj r'
end
noncomputable abbrev Cx.wish (X:Cx) (E:VS9):Cx:={ X with xe:=E }
noncomputable abbrev Cx.nox (X:Cx):Cx:=X.wish fun _ _=>False
theorem Cx.Ok.wish {X:Cx} (ok:X.Ok) (E:VS9):(X.wish E).Ok :=
 ⟨ok.mod,ok.kind,ok.glob,ok.blt,ok.above,ok.inj,ok.has,ok.cab,ok.hd,ok.frames,ok.stk,ok.exf,ok.bs,ok.bsz,ok.noex,ok.exfs,ok.funs,ok.frf⟩
theorem Cx.Ok.unwish {X:Cx}{E:VS9} (ok:(X.wish E).Ok):X.Ok :=
 ⟨ok.mod,ok.kind,ok.glob,ok.blt,ok.above,ok.inj,ok.has,ok.cab,ok.hd,ok.frames,ok.stk,ok.exf,ok.bs,ok.bsz,ok.noex,ok.exfs,ok.funs,ok.frf⟩
section
variable {X:Cx}{ac:Pn9} {σ:St}{H:Hp}{s:Shared}{E:VS9}
theorem A0.wish (I:A0 X ac σ H s) (E:VS9):A0 (X.wish E) ac σ H s:=⟨I.ok.wish E,I.os,I.bare,I.base,I.loc,I.cell,I.free,I.freeC,I.pin,I.hok,I.len⟩
theorem A0.unwish (I:A0 (X.wish E) ac σ H s):A0 X ac σ H s:=⟨I.ok.unwish,I.os,I.bare,I.base,I.loc,I.cell,I.free,I.freeC,I.pin,I.hok,I.len⟩
theorem SP.unwish {D:L7}{f:Flow}{s':Shared} (h:SP (X.wish E) ac D f s'):SP X ac D f s':=by
 cases f with
 | next=>obtain⟨σ',H',I,q⟩:=h;exact⟨σ',H',I.unwish,q⟩
 | brk=>obtain⟨σ',H',I,q⟩:=h;exact⟨σ',H',I.unwish,q⟩
 | cont=>obtain⟨σ',H',I,q⟩:=h;exact⟨σ',H',I.unwish,q⟩
 | ret u=>obtain⟨v,σ',H',I,r,q⟩:=h;exact⟨v,σ',H',I.unwish,r,q⟩
theorem PSs.nox {st:List Stmt}{t:TS} (h:PSs X.nox st t):PSs X st t:=fun ac s σ H D I hw =>
 aP (h ac s σ H D (I.wish _) hw) (fun _ _ q=>q.unwish) fun _ _ z=>False.elim z
end
section
variable {X:Cx}{st:Stmt}{rest:List Stmt}{t u:TS}{e:Expr}{te:TE}{pos:Pos}
def W8a:TS:=fun D σ H=>D.nx σ H
def tSeq (t u:TS):TS:=fun D σ H=>t { D with nx:=u D } σ H
theorem W4d:PSs X [] W8a:=fun _ _ σ H _ I h=>wpAny_execs_nil ⟨σ,H,I,h⟩
theorem Y1l (h1:PS X st t) (h2:PSs X rest u):PSs X (st::rest) (tSeq t u):=by
 intro ac s σ H D I h
 refine wpAny_execs_cons (B3 (h1 ac s σ H { D with nx:=u D } I h) fun f s1 q=>?_)
 cases f with
 | next =>
  obtain⟨σ',H',I',q⟩:=q
  exact h2 ac s1 σ' H' D I' q
 | ret v=>exact q
 | brk=>exact q
 | cont=>exact q
theorem Y1m (h1:PS X st t):PSs X [st] t:=by
 intro ac s σ H D I h
 refine wpAny_execs_cons (B3 (h1 ac s σ H D I h) fun f s1 q=>?_)
 cases f with
 | next=>exact wpAny_execs_nil q
 | ret v=>exact q
 | brk=>exact q
 | cont=>exact q
theorem A0.quiet {ac:Pn9} {σ:St}{H:Hp}{s:Shared} (I:A0 X ac σ H s):interactive X.env=false:=by simp [interactive,I.ok.kind]
def W7y (te:TE):TS:=fun D σ H=>te σ H fun _ H1=>D.nx σ H1
theorem Z3c (he:PE X e te) (hs:swapsWith e none pos.line X.env=pure false:=by rfl):PS X (.Expr e pos) (W7y te):=by
 intro ac s σ H D I h
 exact wpAny_Expr_any (B3 (he ac s σ H _ I h) fun v s1 ⟨x,H1,I1,r1,q1⟩=>⟨σ,H1,I1,q1⟩) I.quiet hs
def tRet (te:TE):TS:=fun D σ H=>te σ H D.rt
theorem Z3d (he:PE X e te):PS X (.Return (some e) pos) (tRet te):=by
 intro ac s σ H D I h
 exact wpAny_Return_some (B3 (he ac s σ H _ I h) fun v s1 ⟨x,H1,I1,r1,q1⟩=>⟨x,σ,H1,I1,r1,q1⟩)
def tIfS (c:TT) (t u:TS):TS:=fun D σ H=>c σ H fun b H1=>if b=true then t D σ H1 else u D σ H1
theorem W4b {c:Expr}{a b:List Stmt}{tc:TT} (hc:PT X c tc) (ha:PSs X a t) (hb:PSs X b u):PS X (.If c a b pos) (tIfS tc t u):=by
 intro ac s σ H D I h
 refine wpAny_If (B3 (hc ac s σ H _ I h) fun d s1 ⟨H1,I1,q1⟩=>?_)
 cases d with
 | true=>exact ha ac s1 σ H1 D I1 q1
 | false=>exact hb ac s1 σ H1 D I1 q1
def W7z:TS:=fun _ _ _=>False
theorem V0j {jA:List Stmt}:PSs X jA W7z:=fun _ _ _ _ _ _ h=>h.elim
end
noncomputable abbrev TG:=V->St->Hp->(St->Hp->Prop)->Prop
noncomputable abbrev TGs:=List V->St->Hp->(St->Hp->Prop)->Prop
def PG (X:Cx) (target:Expr) (t:TG):Prop :=
 ∀(ac:Pn9) (s:Shared) (σ:St) (H:Hp) (v:V) (u:Value) (Q:St->Hp->Prop),A0 X ac σ H s->B8 v u->t v σ H Q ->
  wpAny (model X.prog X.w) X.A (assign target X.env u) (fun _ s'=>∃ σ' H',A0 X ac σ' H' s'/\Q σ' H') X.xe s
def PGs (X:Cx) (ts:List Expr) (t:TGs):Prop :=
 ∀(ac:Pn9) (s:Shared) (σ:St) (H:Hp) (vs:List V) (us:List Value) (Q:St->Hp->Prop),A0 X ac σ H s->C0 vs us->t vs σ H Q ->
  wpAny (model X.prog X.w) X.A (assignInOrder ((assignEach ts X.env).map (·.2)) us) (fun _ s'=>∃ σ' H',A0 X ac σ' H' s'/\Q σ' H') X.xe s
noncomputable abbrev TIp:=V->V->Hp->VK->Prop
def PIp (X:Cx) (op:Operator) (t:TIp):Prop :=
 ∀(ac:Pn9) (s:Shared) (σ:St) (H:Hp) (x y:V) (v u:Value) (Q:VK),A0 X ac σ H s->B8 x v->B8 y u->t x y H Q ->
  wpAny (model X.prog X.w) X.A (inplaceOp op v u) (EP X ac σ Q) X.xe s
section
variable {X:Cx}{pos:Pos}
noncomputable def Q7m (i:Nat):TG:=fun v σ H Q=>Q (σ.set i (some v)) H
theorem Y1g {i:Nat}{x:Str} (hN:X.N.Nodup) (hi:X.N[i]?=some x) (hx:Loc X.env.scope x) (hf:X.fn x=true\/X.env.scope.names.lookup x=some .local:=by first | exact .inl rfl | exact .inr rfl | assumption):PG X (.Name x pos) (Q7m i):=by
 intro ac s σ H v u Q I r h
 exact wpAny_assign_Name (Z4a I hN hi hx r (fun s' I'=>⟨_,H,I',h⟩) hf)
noncomputable def gNil:TGs:=fun vs σ H Q=>vs=[]/\Q σ H
noncomputable def Y7v (t:TG) (u:TGs):TGs:=fun vs σ H Q=>∃v r,vs=v::r/\t v σ H fun σ' H'=>u r σ' H' Q
theorem W3p:PGs X [] gNil:=by
 intro ac s σ H vs us Q I r h
 obtain⟨e,h⟩:=h
 subst e
 cases r
 exact assignInOrder_nil ⟨σ,H,I,h⟩
theorem W3o {e:Expr}{es:List Expr}{t:TG}{u:TGs} (h1:PG X e t) (h2:PGs X es u)
  (hs:(assignEach (e::es) X.env).map (·.2)=assign e X.env::(assignEach es X.env).map (·.2):=by rfl):PGs X (e::es) (Y7v t u):=by
 intro ac s σ H vs us Q I r h
 obtain⟨v,vr,e1,h⟩:=h
 subst e1
 cases r with
 | cons r rr =>
  rw [hs]
  refine assignInOrder_cons (B3 (h1 ac s σ H _ _ _ I r h) fun _ s1 ⟨σ1,H1,I1,q1⟩=>?_)
  exact h2 ac s1 σ1 H1 _ _ Q I1 rr q1
noncomputable def gTup (K:Fg9) (n:Nat) (t:TGs):TG:=fun v σ H Q=>∃a xs,v=.ref a/\C2 K H a xs/\xs.length=n/\t xs σ H Q
theorem W3n {es:List Expr}{k:Nat}{t:TGs}{n:Nat} (hc:X.calm=true) (h:PGs X es t)
  (hn:(assignEach es X.env).length=n:=by rfl) (m5:(assignEach es X.env).findIdx? (·.1)=none:=by rfl):PG X (.Tuple es k pos) (gTup X.K n t):=by
 intro ac s σ H v u Q I r hw
 obtain⟨a,xs,e1,hq,hl,hw⟩:=hw
 subst e1
 cases r
 obtain⟨aU,rv,ht,hz⟩:=I.tuple hq
 refine assign_Tuple_tuple (I.ok.hd hc) ht (by simp [hn,<- hl,rv.length]) m5 fun h' hx=>?_
 have I1:A0 X ac σ H { s with heap:=h' }:=I.kept (t':=s.toks) fun b o e=>hx b o (az (au e)) e
 exact h ac _ σ H xs _ Q I1 (by simpa using rv) hw
def tAsg (te:TE) (g:TG):TS:=fun D σ H=>te σ H fun x H1=>g x σ H1 D.nx
theorem W3y {tg e:Expr}{te:TE}{g:TG} (he:PE X e te) (hg:PG X tg g) (hs:swapsWithSole [tg] e pos.line X.env=pure false:=by rfl) (hw:swappedStores [tg] e X.env=pure none:=by rfl)
  (h1:(assignEach [tg] X.env).map (·.2)=[assign tg X.env]:=by rfl):PS X (.Assign [tg] e pos) (tAsg te g):=by
 intro ac s σ H D I h
 refine wpAny_Assign_stores (B3 (he ac s σ H _ I h) fun v s1 ⟨x,H1,I1,r1,q1⟩=>?_) hs hw
 rw [h1]
 exact B3 (hg ac s1 σ H1 x v _ I1 r1 q1) fun _ s2 q=>q
theorem Q4g {i:Nat}{x:Str}{e:Expr}{te:TE}{bI:Pos} (hN:X.N.Nodup) (hi:X.N[i]?=some x) (hx:Loc X.env.scope x) (he:PE X e te) (hs:swapsWith e (some (.Name x bI)) pos.line X.env=pure false:=by rfl) (hf:X.fn x=true\/X.env.scope.names.lookup x=some .local:=by first | exact .inl rfl | exact .inr rfl | assumption) :
  PS X (.Assign [.Name x bI] e pos) (tAsg te (Q7m i)):=by
 intro ac s σ H D I h
 refine wpAny_Assign_Name (B3 (he ac s σ H _ I h) fun v s1 ⟨y,H1,I1,r1,q1⟩=>?_) hs
 exact Z4a I1 hN hi hx r1 (fun s2 I2=>⟨_,H1,I2,q1⟩) hf
def tAug (i:Nat) (te:TE) (ti:TIp):TS:=fun D σ H=>∃x,σ[i]?=some (some x)/\te σ H fun y H1=>ti x y H1 fun z H2=>D.nx (σ.set i (some z)) H2
theorem W3z {i:Nat}{x:Str}{e:Expr}{te:TE}{op:Operator}{ti:TIp}{bI:Pos} (hN:X.N.Nodup) (hi:X.N[i]?=some x) (hx:Loc X.env.scope x) (he:PE X e te) (ho:PIp X op ti) (hf:X.fn x=true\/X.env.scope.names.lookup x=some .local:=by first | exact .inl rfl | exact .inr rfl | assumption) :
  PS X (.AugAssign (.Name x bI) op e pos) (tAug i te ti):=by
 intro ac s σ H D I h
 obtain⟨v,e1,h⟩:=h
 obtain⟨m,hn,hl⟩:=I.loc
 have oV:Vis X.env.scope x:=by rcases hx with k | k;exact .inl k;exact .inr (.inl k)
 obtain⟨u,r,l⟩:=hl i x v hi e1 oV
 refine wpAny_AugAssign_Name ?_
 have go:wpAny (model X.prog X.w) X.A (eval e X.env) (fun w s₂=>wpAny (model X.prog X.w) X.A (inplaceOp op u w) (fun r s₃=>wpAny (model X.prog X.w) X.A (storeName X.env x r) (fun _=>SP X ac D .next) X.xe s₃) X.xe s₂) X.xe s:=by
  refine B3 (he ac s σ H _ I h) fun w s1 ⟨y,H1,I1,r1,q1⟩=>?_
  refine B3 (ho ac s1 σ H1 v y u w _ I1 r r1 q1) fun z s2 ⟨zv,H2,I2,r2,q2⟩=>?_
  exact Z4a I2 hN hi hx r2 (fun s3 I3=>⟨_,H2,I3,q2⟩) hf
 rcases l with⟨hk,hm⟩ | ⟨hk,c,hc,cY⟩
 ·exact wpAny_loadName_local I.ok.kind hk hn hm go
 ·rcases hk with hk | hk
  ·exact wpAny_loadName_cell I.ok.kind hk hc cY go
  ·rcases hx with k | k
   ·have:X.env.scope.names.lookup x=some .free:=hk
    rw [k]at this;cases this
   ·have:X.env.scope.names.lookup x=some .free:=hk
    rw [k]at this;cases this
end
section
variable {X:Cx}{pos:Pos}
def W8f (c:TT) (tb:TS):TS:=fun D σ H=>∃W:Nat->St->Hp->Prop,(∃m,W m σ H)/\∀m σ H,W m σ H ->
 c σ H fun b H1=>if b=true then ∃N:St->Hp->Prop,(∀ σ' H',N σ' H'->∃m',m'<m/\W m' σ' H')/\tb { D with nx:=N,ct:=N,bk:=D.nx } σ H1 else D.nx σ H1
theorem W4c {c:Expr}{body:List Stmt}{tc:TT}{tb:TS} (hp:PassesOwn (model X.prog X.w) X.A X.env X.xe) (hc:PT X c tc) (hb:PSs X body tb):PS X (.While c body [] pos) (W8f tc tb):=by
 intro ac s σ H D I h
 obtain⟨W,⟨m0,w0⟩,fq⟩:=h
 refine wpAny_While (codeAny_whileLoop (fun n s'=>∃ σ' H',A0 X ac σ' H' s'/\W n σ' H') ?_ m0 ⟨σ,H,I,w0⟩)
 rintro n s1 ⟨σ1,H1,I1,w1⟩
 refine dP hp (B3 (hc ac s1 σ1 H1 _ I1 (fq n σ1 H1 w1)) fun b s2 ⟨H2,I2,q2⟩=>?_)
 cases b with
 | true =>
  obtain⟨N,hN,q2⟩:=q2
  rw [aE rfl]
  refine dP hp (B3 (hb ac s2 σ1 H2 _ I2 q2) fun f s3 q3=>?_)
  cases f with
  | next =>
   obtain⟨σ3,H3,I3,n3⟩:=q3
   obtain⟨m',hm,w3⟩:=hN σ3 H3 n3
   exact⟨m',hm,σ3,H3,I3,w3⟩
  | cont =>
   obtain⟨σ3,H3,I3,n3⟩:=q3
   obtain⟨m',hm,w3⟩:=hN σ3 H3 n3
   exact⟨m',hm,σ3,H3,I3,w3⟩
  | brk=>exact q3
  | ret v=>exact q3
 | false =>
  rw [aC bA]
  exact wpAny_execs_nil ⟨σ1,H2,I2,q2⟩
end
structure It where
 go:Nat->Hp->Prop
 yld:Nat->Hp->V->Hp->Prop
 stop:Nat->Hp->Prop
def K1 (X:Cx) (ac:Pn9) (H:Hp) (b:Addr):Prop :=
 H b=none/\b≠X.env.locals/\b∉X.fs/\(b∈X.ex\/X.s₀.heap.objs.size<=b)/\(∀x c,X.env.cells.lookup x=some c->c≠b)/\∀p∈X.pn++ac,p.1≠b
theorem A0.fpOk {X:Cx}{ac:Pn9} {σ:St}{H H':Hp}{s:Shared}{b:Addr} (I:A0 X ac σ H s) (hb:s.heap.objs.size<=b) (hn:H' b=none):K1 X ac H' b:=by
 refine⟨hn,Nat.ne_of_gt (ax I.lt hb),I.nofs hb,.inr (aT I.sz hb),fun x c e z=>?_,fun p hp z=>?_⟩
 ·obtain⟨v,q⟩:=I.cell x c e
  exact absurd (ax q.lt (by rw [z];exact hb)) (aQ _)
 ·exact absurd (ax (au (I.pin p hp).1) (by rw [z];exact hb)) (aQ _)
structure Y6 (P:Program) (w:World) (K:Fg9) (tg:Expr) (J:It) (fp:List Addr) (it:Addr) (tn:Nat->Heap->Prop):Prop where
 mem:it∈fp
 obj:∀i h,tn i h->∀b∈fp,∃o,h.get? b=some o/\∀v,o.data≠.cell v
 keep:∀i h h',tn i h->(∀b∈fp,∀o,h.get? b=some o->h'.get? b=some o)->tn i h'
 item:∀(X:Cx),X.prog=P->X.w=w->X.K=K->X.calm=true->∀(i:Nat) (ac:Pn9) (s:Shared) (σ:St) (H:Hp) (E:VS9),A0 X ac σ H s->(∀b∈fp,K1 X ac H b)->tn i s.heap->J.go i H ->
  wpAny (model P w) X.A (pyNext (.ref it)) (fun r s1=>∃u,r=some u /\
   wpAny (model P w) X.A (letOwnedTupleGo tg (.ref it) u) (fun _ s2=>∃x H',A0 X ac σ H' s2/\B8 x u/\J.yld i H x H'/\tn (i+1) s2.heap/\∀b∈fp,H' b=none) E s1) E s
 done:∀(X:Cx),X.prog=P->X.w=w->X.K=K->X.calm=true->∀(i:Nat) (ac:Pn9) (s:Shared) (σ:St) (H:Hp) (E:VS9),A0 X ac σ H s->(∀b∈fp,K1 X ac H b)->tn i s.heap->J.stop i H ->
  wpAny (model P w) X.A (pyNext (.ref it)) (fun r s1=>r=none/\A0 X ac σ H s1) E s
 self:∀(A:Around) (i:Nat) (s:Shared) (Q:VS9) (E:VS9),tn i s.heap->Q (.ref it) s->wpAny (model P w) A (pyIter (.ref it)) Q E s
noncomputable abbrev TI:=St->Hp->(It->Hp->Prop)->Prop
def PIE (X:Cx) (ac:Pn9) (σ:St) (tg:Expr) (R:It->Hp->Prop) (iO:Value) (s2:Shared):Prop :=
 ∃(it:Addr) (fp:List Addr) (tn:Nat->Heap->Prop) (J:It) (H':Hp),iO=.ref it/\A0 X ac σ H' s2/\Y6 X.prog X.w X.K tg J fp it tn/\tn 0 s2.heap/\(∀b∈fp,K1 X ac H' b)/\R J H'
def PI (X:Cx) (tg iter:Expr) (wi:TI):Prop :=
 ∀(ac:Pn9) (s:Shared) (σ:St) (H:Hp) (R:It->Hp->Prop),A0 X ac σ H s->wi σ H R ->
  wpAny (model X.prog X.w) X.A (eval iter X.env) (fun v s1=>wpAny (model X.prog X.w) X.A (pyIter v) (PIE X ac σ tg R) X.xe s1) X.xe s
theorem Q5j {M:Model}{A:Around}{E:VS9}{s:Shared}{tg:Expr}{it:Addr}{u:Value}{o:Obj}{n:String}{vs:Array Value}{Q:Unit->Shared->Prop} (ho:s.heap.get? it=some o) (hc:o.cls=.type n) (hd:o.data=.fields vs)
  (hn:["enumerate","zip","dict_itemiterator","dict_reverseitemiterator","odict_iterator","itertools.zip_longest","itertools.pairwise"].contains n=false) (hQ:Q () s):wpAny M A (letOwnedTupleGo tg (.ref it) u) Q E s:=by
 unfold letOwnedTupleGo
 cases tg <;> first
  | exact af hQ
  | (cases u <;> first
    | exact af hQ
    | (refine a9 (wpAny_load ho ?_)
       rw [hc,hd]
       show wpAny M A (if (["enumerate","zip","dict_itemiterator","dict_reverseitemiterator","odict_iterator","itertools.zip_longest","itertools.pairwise"].contains n&&vs[0]?==some (rawInt _))=true then _ else _) Q E s
       rw [aC (by intro h;rw [hn,Bool.false_and]at h;cases h)]
       exact af hQ))
noncomputable def Itl (K:Fg9) (a:Addr):It :=
 ⟨fun i H=>∃xs x,C6 K H a xs/\xs[i]?=some x,fun i H x H'=>H'=H/\∀xs,C6 K H a xs->xs[i]?=some x,fun i H=>∃xs,C6 K H a xs/\xs.length<=i⟩
noncomputable def Itt (K:Fg9) (a:Addr):It :=
 ⟨fun i H=>∃xs x,C2 K H a xs/\xs[i]?=some x,fun i H x H'=>H'=H/\∀xs,C2 K H a xs->xs[i]?=some x,fun i H=>∃xs,C2 K H a xs/\xs.length<=i⟩
noncomputable def Itr (lo:Int) (n:Nat):It:=⟨fun i _=>i<n,fun i H x H'=>H'=H/\x=.int (lo+i),fun i _=>n<=i⟩
theorem W8o {P:Program}{w:World}{K:Fg9}{tg:Expr} (a it:Addr):Y6 P w K tg (Itl K a) [it] it (fun i h=>h.IsListIter it a i) where
 mem:=by simp
 obj:=fun i h st b hb=>by
  have e:b=it:=by simpa using hb
  subst e
  obtain⟨o,e,c,d⟩:=st
  exact⟨o,e,fun v z=>by rw [d]at z;cases z⟩
 keep:=fun i h h' st k=>st.at fun o e=>k it (by simp) o e
 item:=by
  intro X hP hw hK hc i ac s σ H E I hf st hg
  subst hP hw hK
  obtain⟨xs,x,hq,hx⟩:=hg
  obtain⟨aU,rv,p,hz⟩:=I.list hq
  obtain⟨u,hu,ru⟩:=rv.get hx
  obtain⟨f0,f1,f2,f3,f4,f5⟩:=hf it (by simp)
  refine wpAny_pyNext_list_item st p.isList (x:=u) (by simpa using hu) fun h' fk sb=>?_
  have I1:A0 X ac σ H { s with heap:=h' }:=I.turned (t':=s.toks) (fun b o hb e=>(sb.2 b hb).trans e) f0 f1 f3 f4 f5
  obtain⟨o,e,c,d⟩:=id fk
  exact⟨u,rfl,Q5j (s:={ s with heap:=h' }) e c d (by decide) ⟨x,H,I1,ru,⟨rfl,fun ys hy=>by rw [I.list_inj hy hq];exact hx⟩,fk,fun b hb=>(hf b hb).1⟩⟩
 done:=by
  intro X hP hw hK hc i ac s σ H E I hf st hg
  subst hP hw hK
  obtain⟨xs,hq,hx⟩:=hg
  obtain⟨aU,rv,p,hz⟩:=I.list hq
  obtain⟨f0,f1,f2,f3,f4,f5⟩:=hf it (by simp)
  have hl:=rv.length
  exact wpAny_pyNext_list_end (I.ok.hd hc) st p.isList (by simp;omega) fun h' eb=>⟨rfl,I.turned (t':=s.toks) (fun b o hb e=>eb b o hb e) f0 f1 f3 f4 f5⟩
 self:=fun _ _ _ _ _ st h=>wpAny_pyIter_listiter st h
theorem W8q {P:Program}{w:World}{K:Fg9}{tg:Expr} (a it:Addr):Y6 P w K tg (Itt K a) [it] it (fun i h=>h.IsTupleIter it a i) where
 mem:=by simp
 obj:=fun i h st b hb=>by
  have e:b=it:=by simpa using hb
  subst e
  obtain⟨o,e,c,d⟩:=st
  exact⟨o,e,fun v z=>by rw [d]at z;cases z⟩
 keep:=fun i h h' st k=>st.at fun o e=>k it (by simp) o e
 item:=by
  intro X hP hw hK hc i ac s σ H E I hf st hg
  subst hP hw hK
  obtain⟨xs,x,hq,hx⟩:=hg
  obtain⟨aU,rv,p,hz⟩:=I.tuple hq
  obtain⟨u,hu,ru⟩:=rv.get hx
  obtain⟨f0,f1,f2,f3,f4,f5⟩:=hf it (by simp)
  refine wpAny_pyNext_tuple_item st (show s.heap.IsTuple a aU.toArray from p) (x:=u) (by simpa using hu) fun h' fk sb=>?_
  have I1:A0 X ac σ H { s with heap:=h' }:=I.turned (t':=s.toks) (fun b o hb e=>(sb.2 b hb).trans e) f0 f1 f3 f4 f5
  obtain⟨o,e,c,d⟩:=id fk
  exact⟨u,rfl,Q5j (s:={ s with heap:=h' }) e c d (by decide) ⟨x,H,I1,ru,⟨rfl,fun ys hy=>by rw [I.tuple_inj hy hq];exact hx⟩,fk,fun b hb=>(hf b hb).1⟩⟩
 done:=by
  intro X hP hw hK hc i ac s σ H E I hf st hg
  subst hP hw hK
  obtain⟨xs,hq,hx⟩:=hg
  obtain⟨aU,rv,p,hz⟩:=I.tuple hq
  obtain⟨f0,f1,f2,f3,f4,f5⟩:=hf it (by simp)
  have hl:=rv.length
  exact wpAny_pyNext_tuple_end (I.ok.hd hc) st (show s.heap.IsTuple a aU.toArray from p) (by simp;omega) fun h' eb=>⟨rfl,I.turned (t':=s.toks) (fun b o hb e=>eb b o hb e) f0 f1 f3 f4 f5⟩
 self:=fun _ _ _ _ _ st h=>wpAny_pyIter_tupleiter st h
theorem W8p {P:Program}{w:World}{K:Fg9}{tg:Expr} (it:Addr) (lo:Int) (n:Nat):Y6 P w K tg (Itr lo n) [it] it (fun i h=>IsRangeIter h it (lo+(i:Nat)*1) ((n:Int)-(i:Nat)) 1) where
 mem:=by simp
 obj:=fun i h st b hb=>by
  have e:b=it:=by simpa using hb
  subst e
  exact⟨_,st,fun v z=>by
   have z':Data.fields _=Data.cell v:=z
   cases z'⟩
 keep:=fun i h h' st k=>k it (by simp) _ st
 item:=by
  intro X hP hw hK hc i ac s σ H E I hf st hg
  subst hP hw hK
  obtain⟨f0,f1,f2,f3,f4,f5⟩:=hf it (by simp)
  have W:=Walks.range (prog:=X.prog) (w:=X.w) (I.ok.hd hc) it lo 1 n
  refine W.item i s _ _ hg st fun v h' tk hv fk kk=>?_
  obtain⟨t,rfl⟩:=hv
  have I1:A0 X ac σ H { s with heap:=h',toks:=tk }:=I.turned (fun b o hb e=>kk b o (by simpa using hb) e) f0 f1 f3 f4 f5
  refine⟨_,rfl,Q5j (s:={ s with heap:=h',toks:=tk }) (n:="range_iterator") fk rfl rfl (by decide) ⟨.int (lo+i),H,I1,⟨t,?_⟩,⟨rfl,rfl⟩,fk,fun b hb=>(hf b hb).1⟩⟩
  rw [Int.mul_one]
 done:=by
  intro X hP hw hK hc i ac s σ H E I hf st hg
  subst hP hw hK
  obtain⟨f0,f1,f2,f3,f4,f5⟩:=hf it (by simp)
  exact wpAny_pyNext_range_end (I.ok.hd hc) st (by have:n<=i:=hg;omega) fun h' eb=>⟨rfl,I.turned (t':=s.toks) (fun b o hb e=>eb b o hb e) f0 f1 f3 f4 f5⟩
 self:=fun _ _ _ _ _ st h=>wpAny_pyIter_rangeiter st h
end L2
namespace L2
open PySem PySem.Spec PyProof.Rows
section
variable {X:Cx}{tg:Expr}
noncomputable def Y8c (K:Fg9) (tl:TE):TI:=fun σ H R=>tl σ H fun x H1=>∃a,x=.ref a/\(∃xs,C6 K H1 a xs)/\R (Itl K a) H1
noncomputable def Q3u (K:Fg9) (tl:TE):TI:=fun σ H R=>tl σ H fun x H1=>∃a,x=.ref a/\(∃xs,C2 K H1 a xs)/\R (Itt K a) H1
theorem Y1h {l:Expr}{tl:TE} (hl:PE X l tl):PI X tg l (Y8c X.K tl):=by
 intro ac s σ H R I h
 refine B3 (hl ac s σ H _ I h) fun v s1 ⟨x,H1,I1,r1,q1⟩=>?_
 obtain⟨a,e,⟨xs,hq⟩,q⟩:=q1
 subst e
 cases r1
 obtain⟨aU,rv,p,hz⟩:=I1.list hq
 refine wpAny_pyIter_list p.isList ?_
 refine⟨s1.heap.objs.size,[s1.heap.objs.size],_,_,H1,rfl,I1.kept (t':=s1.toks) fun b o e=>aa _ e,W8o a _,⟨_,aw _ rfl,rfl,rfl⟩,fun b hb=>?_,q⟩
 have e:b=s1.heap.objs.size:=by simpa using hb
 subst e
 exact I1.fpOk (ah _) (I1.hok.fresh (ah _))
theorem Y1j {l:Expr}{tl:TE} (hl:PE X l tl):PI X tg l (Q3u X.K tl):=by
 intro ac s σ H R I h
 refine B3 (hl ac s σ H _ I h) fun v s1 ⟨x,H1,I1,r1,q1⟩=>?_
 obtain⟨a,e,⟨xs,hq⟩,q⟩:=q1
 subst e
 cases r1
 obtain⟨aU,rv,p,hz⟩:=I1.tuple hq
 refine dX (show s1.heap.IsTuple a aU.toArray from p) ?_
 refine⟨s1.heap.objs.size,[s1.heap.objs.size],_,_,H1,rfl,I1.kept (t':=s1.toks) fun b o e=>aa _ e,W8q a _,⟨_,aw _ rfl,rfl,rfl⟩,fun b hb=>?_,q⟩
 have e:b=s1.heap.objs.size:=by simpa using hb
 subst e
 exact I1.fpOk (ah _) (I1.hok.fresh (ah _))
theorem W4o {ac:Pn9} {σ:St}{H:Hp}{s:Shared}{R:It->Hp->Prop}{E:VS9}{lo hi:Int}{t u v:Tok}{tk:Nat} (I:A0 X ac σ H s) (h1:-(2 ^ 62)<=lo) (h2:lo<2 ^ 62) (h3:-(2 ^ 62)<=hi) (h4:hi<2 ^ 62)
  (q:R (Itr lo (hi-lo).toNat) H):wpAny (model X.prog X.w) X.A (pyIter (.ref s.heap.objs.size)) (PIE X ac σ tg R) E { s with heap:=s.heap.push { cls:=.type "range",data:=.fields #[.int lo t,.int hi u,.int 1 v] },toks:=tk }:=by
 refine wpAny_pyIter_range (IsRange.new ..) (small_one h1 h2 h3 h4) ?_
 have I1:A0 X ac σ H { s with heap:=s.heap.push { cls:=.type "range",data:=.fields #[.int lo t,.int hi u,.int 1 v] },toks:=tk }:=I.kept fun b o e=>aa _ e
 refine⟨(s.heap.push { cls:=.type "range",data:=.fields #[.int lo t,.int hi u,.int 1 v] }).objs.size,[(s.heap.push { cls:=.type "range",data:=.fields #[.int lo t,.int hi u,.int 1 v] }).objs.size],_,_,H,rfl,
  I1.kept (t':=tk) fun b o e=>aa _ e,W8p _ lo (hi-lo).toNat,?_,fun b hb=>?_,q⟩
 ·have e1:lo+((0:Nat):Int)*1=lo:=by simp
  have e2:(((hi-lo).toNat:Nat):Int)-((0:Nat):Int)=Builtin.Range.rangeSize lo hi 1:=by rw [rangeSize_one];split <;> omega
  show IsRangeIter _ _ (lo+((0:Nat):Int)*1) ((((hi-lo).toNat:Nat):Int)-((0:Nat):Int)) 1
  rw [e1,e2]
  exact aw _ rfl
 ·have e:b=(s.heap.push { cls:=.type "range",data:=.fields #[.int lo t,.int hi u,.int 1 v] }).objs.size:=by simpa using hb
  subst e
  exact I1.fpOk (ah _) (I1.hok.fresh (ah _))
noncomputable def W0 (ta:TA):TI:=fun σ H R=>ta σ H fun vs H1=>∃j:Int,vs=[.int j]/\-(2 ^ 62)<=j/\j<2 ^ 62/\R (Itr 0 j.toNat) H1
theorem Y1i {a:Expr}{ta:TA}{p pos:Pos} (hg:Gl X "range") (hm:X.mg "range"=none) (ha:PA X [a] ta) (hs:starEach [a] X.env=[(false,eval a X.env)]:=by rfl):PI X tg (.Call (.Name "range" p) [a] [] pos) (W0 ta):=by
 intro ac s σ H R I h
 refine Call_ (X5 I hg hm boot_range (b7 (B3 (ha pos ac s σ H _ I h) fun us s1 ⟨vs,H1,I1,r1,q1⟩=>?_) hs rfl))
 obtain⟨j,e,q1,q2,q⟩:=q1
 subst e
 cases r1 with
 | cons r rr =>
  cases rr
  obtain⟨t,rfl⟩:=r
  exact call_range_1 (W4o I1 (by omega) (by omega) q1 q2 (by simpa using q))
def tFor (wi:TI) (g:TG) (tb:TS):TS:=fun D σ H=>wi σ H fun J H1=>∃W:Nat->Nat->St->Hp->Prop,(∃m,W 0 m σ H1)/\∀i m σ H,W i m σ H ->
 (J.stop i H/\D.nx σ H)\/(J.go i H/\∃N:St->Hp->Prop,(∀ σ' H',N σ' H'->∃m',m'<m/\W (i+1) m' σ' H')/\∀x H',J.yld i H x H'->g x σ H' fun σ2 H2=>tb { D with nx:=N,ct:=N,bk:=D.nx } σ2 H2)
noncomputable def U1 (fp:List Addr) (h:Heap):Pn9:=fp.filterMap fun b=>(h.get? b).map fun o=>(b,o)
theorem Q0k {fp:List Addr}{h:Heap}{b:Addr}{o:Obj} (hb:b∈fp) (e:h.get? b=some o):(b,o)∈U1 fp h:=List.mem_filterMap.mpr ⟨b,hb,by rw [e];rfl⟩
theorem Q6a {fp:List Addr}{h:Heap}{p:Addr×Obj} (hp:p∈U1 fp h):p.1∈fp/\h.get? p.1=some p.2:=by
 obtain⟨b,hb,e⟩:=List.mem_filterMap.mp hp
 cases q:h.get? b with
 | none=>rw [q]at e;cases e
 | some o =>
  rw [q]at e
  have e':(b,o)=p:=aB e
  subst e'
  exact⟨hb,q⟩
theorem A0.pinned {ac:Pn9} {σ:St}{H:Hp}{s:Shared}{fp:List Addr} (I:A0 X ac σ H s) (hf:∀b∈fp,K1 X ac H b) (ho:∀b∈fp,∃o,s.heap.get? b=some o/\∀v,o.data≠.cell v):A0 X (ac++U1 fp s.heap) σ H s :=
 I.pins_of fun p hp=>(aR.mp hp).elim (fun z=>I.pin p (ar _ z)) fun z=>by
  obtain⟨hb,e⟩:=Q6a z
  obtain⟨f0,f1,f2,_⟩:=hf p.1 hb
  obtain⟨o,e',d⟩:=ho p.1 hb
  rw [e]at e';cases e'
  exact⟨e,f0,f1,f2,d⟩
theorem A0.unpinned {ac pl:Pn9} {σ:St}{H:Hp}{s:Shared} (I:A0 X (ac++pl) σ H s):A0 X ac σ H s:=I.pins_of fun p hp=>I.pin p (ar _ (bi _ hp))
theorem W4a {iter:Expr}{body:List Stmt}{wi:TI}{g:TG}{tb:TS}{pos:Pos} (hp:PassesOwn (model X.prog X.w) X.A X.env X.xe) (hc:X.calm=true) (hi:PI X tg iter wi) (hg:PG X tg g) (hb:PSs X body tb)
  (hs:∀x,foldedSetIterable iter X.env x=pure x:=by intro _;rfl):PS X (.For tg iter body [] pos) (tFor wi g tb):=by
 intro ac s σ H D I h
 refine wpAny_For (B3 (hi ac s σ H _ I h) fun v s1 h1=>B3 h1 fun iO s2 h2=>?_) hs
 obtain⟨it,fp,tn,J,H2,e,I2,T,dQ,f2,W,⟨m0,w0⟩,fq⟩:=h2
 subst e
 have j3:∀{H':Hp},(∀b∈fp,H' b=none)->∀b∈fp,K1 X ac H' b:=fun hn b hb=>⟨hn b hb,(f2 b hb).2⟩
 refine codeAny_forLoop_any (fun n s'=>∃i σ' H',A0 X ac σ' H' s'/\tn i s'.heap/\(∀b∈fp,H' b=none)/\W i n σ' H') ?_ m0 ⟨0,σ,H2,I2,dQ,fun b hb=>(f2 b hb).1,w0⟩
 rintro n s3 ⟨i,σ3,H3,I3,fH,fM,w3⟩
 rcases fq i n σ3 H3 w3 with⟨stop,qn⟩ | ⟨go,N,hN,step⟩
 ·refine dP hp (B3 (T.done X rfl rfl rfl hc i ac s3 σ3 H3 X.xe I3 (j3 fM) fH stop) fun r s4 ⟨hr,I4⟩=>?_)
  subst hr
  exact wpAny_execs_nil ⟨σ3,H3,I4,qn⟩
 ·refine dP hp (B3 (T.item X rfl rfl rfl hc i ac s3 σ3 H3 X.xe I3 (j3 fM) fH go) fun r s4 ⟨u,hr,h4⟩=>?_)
  subst hr
  refine dP hp (B3 h4 fun _ s5 ⟨x,H5,I5,r5,y5,eF,iq⟩=>?_)
  have iB:=I5.pinned (j3 iq) (T.obj _ _ eF)
  refine dP hp (B3 (hg _ s5 σ3 H5 x u _ iB r5 (step x H5 y5)) fun _ s6 ⟨σ6,H6,I6,q6⟩=>?_)
  refine dP hp (B3 (hb _ s6 σ6 H6 _ I6 q6) fun f s7 q7=>?_)
  have again:∀{σ7:St}{H7:Hp},A0 X (ac++U1 fp s5.heap) σ7 H7 s7->N σ7 H7->∃m,m<n/\∃i σ' H',A0 X ac σ' H' s7/\tn i s7.heap/\(∀b∈fp,H' b=none)/\W i m σ' H':=fun {σ7 H7} I7 n7=>by
   obtain⟨m',hm,w7⟩:=hN σ7 H7 n7
   refine⟨m',hm,i+1,σ7,H7,I7.unpinned,T.keep _ _ _ eF fun b hb o e=>(I7.pin (b,o) (ar _ (ar _ (Q0k hb e)))).1,fun b hb=>?_,w7⟩
   obtain⟨o,e,d⟩:=T.obj _ _ eF b hb
   exact(I7.pin (b,o) (ar _ (ar _ (Q0k hb e)))).2.1
  cases f with
  | next=>obtain⟨σ7,H7,I7,n7⟩:=q7;exact again I7 n7
  | cont=>obtain⟨σ7,H7,I7,n7⟩:=q7;exact again I7 n7
  | brk=>obtain⟨σ7,H7,I7,q7⟩:=q7;exact⟨σ7,H7,I7.unpinned,q7⟩
  | ret v=>obtain⟨x7,σ7,H7,I7,r7,q7⟩:=q7;exact⟨x7,σ7,H7,I7.unpinned,r7,q7⟩
end
end L2
namespace L2
open PySem PySem.Spec PyProof.Rows
noncomputable abbrev R2:=V->V->Hp->VK->Prop
def N5 (X:Cx) (f:Value->Value->Sem Value) (r:R2):Prop :=
 ∀(ac:Pn9) (s:Shared) (σ:St) (H:Hp) (x y:V) (v u:Value) (Q:VK),A0 X ac σ H s->B8 x v->B8 y u->r x y H Q ->
  wpAny (model X.prog X.w) X.A (f v u) (EP X ac σ Q) X.xe s
def UnR (X:Cx) (f:Value->Sem Value) (r:V->Hp->VK->Prop):Prop :=
 ∀(ac:Pn9) (s:Shared) (σ:St) (H:Hp) (x:V) (v:Value) (Q:VK),A0 X ac σ H s->B8 x v->r x H Q ->
  wpAny (model X.prog X.w) X.A (f v) (EP X ac σ Q) X.xe s
def Q0s (X:Cx) (f:Value) (r:List V->Hp->VK->Prop):Prop :=
 ∀(ac:Pn9) (s:Shared) (σ:St) (H:Hp) (xs:List V) (us:List Value) (Q:VK),A0 X ac σ H s->C0 xs us->r xs H Q ->
  wpAny (model X.prog X.w) X.A (call f us) (EP X ac σ Q) X.xe s
def TruR (X:Cx) (r:V->Hp->(Bool->Hp->Prop)->Prop):Prop :=
 ∀(ac:Pn9) (s:Shared) (σ:St) (H:Hp) (x:V) (v:Value) (Q:Bool->Hp->Prop),A0 X ac σ H s->B8 x v->r x H Q ->
  wpAny (model X.prog X.w) X.A (truthy v) (TP X ac σ Q) X.xe s
def tOp (r:R2) (ta tb:TE):TE:=fun σ H Q=>ta σ H fun x H1=>tb σ H1 fun y H2=>r x y H2 Q
def tUn (r:V->Hp->VK->Prop) (ta:TE):TE:=fun σ H Q=>ta σ H fun x H1=>r x H1 Q
def rI (C:Int->Int->Prop) (g:Int->Int->V):R2:=fun x y H Q=>∃i j,x=.int i/\y=.int j/\C i j/\Q (g i j) H
def rI0 (g:Int->Int->V):R2:=fun x y H Q=>∃i j,x=.int i/\y=.int j/\Q (g i j) H
noncomputable def rU (g:Int->V):V->Hp->VK->Prop:=fun x H Q=>∃i,x=.int i/\Q (g i) H
section
variable {X:Cx}{a b c:Expr}{ta tb tc:TE}{pos:Pos}
theorem Z0s (ha:PE X a ta) (hb:PE X b tb) {ac:Pn9}{s:Shared} {σ:St}{H:Hp}{R:V->V->Hp->Prop} (I:A0 X ac σ H s)
  (h:ta σ H fun x H1=>tb σ H1 fun y H2=>R x y H2) {Q:VS9}{f:Value->Value->Sem Value}
  (hf:∀v u s2 x y H2,A0 X ac σ H2 s2->B8 x v->B8 y u->R x y H2->wpAny (model X.prog X.w) X.A (f v u) Q X.xe s2) :
  wpAny (model X.prog X.w) X.A (eval a X.env) (fun v s₁=>wpAny (model X.prog X.w) X.A (eval b X.env) (fun u s₂=>wpAny (model X.prog X.w) X.A (f v u) Q X.xe s₂) X.xe s₁) X.xe s:=by
 refine B3 (ha ac s σ H _ I h) fun v s1 ⟨x,H1,I1,r1,q1⟩=>?_
 refine B3 (hb ac s1 σ H1 _ I1 q1) fun u s2 ⟨y,H2,I2,r2,q2⟩=>?_
 exact hf v u s2 x y H2 I2 r1 r2 q2
theorem W3f {op:Operator}{r:R2} (ho:N5 X (binaryOp op) r) (ha:PE X a ta) (hb:PE X b tb):PE X (.BinOp a op b pos) (tOp r ta tb):=by
 intro ac s σ H Q I h
 exact wpAny_BinOp (Z0s ha hb I h fun v u s2 x y H2 I2 rx ry q=>ho ac s2 σ H2 x y v u Q I2 rx ry q)
theorem W3l {op:UnaryOp}{r:V->Hp->VK->Prop} (ho:UnR X (unaryOp op) r) (ha:PE X a ta):PE X (.UnaryOp op a pos) (tUn r ta):=by
 intro ac s σ H Q I h
 exact UnaryOp_ (B3 (ha ac s σ H _ I h) fun v s1 ⟨x,H1,I1,r1,q1⟩=>ho ac s1 σ H1 x v Q I1 r1 q1)
theorem opI {f:Value->Value->Sem Value}{C:Int->Int->Prop}{g:Int->Int->Int}
  (rule:∀(i j:Int) (t u:Tok) (s:Shared) (Q:VS9) (E:VS9),C i j->Q (.int (g i j) s.toks) { s with toks:=s.toks+1 }->wpAny (model X.prog X.w) X.A (f (.int i t) (.int j u)) Q E s) :
  N5 X f (rI C fun i j=>.int (g i j)):=by
 intro ac s σ H x y v u Q I rx ry h
 obtain⟨i,j,rfl,rfl,hc,q⟩:=h
 obtain⟨t,rfl⟩:=rx
 obtain⟨t',rfl⟩:=ry
 exact rule i j t t' s _ _ hc ⟨.int (g i j),H,I.tok _,⟨_,rfl⟩,q⟩
theorem Z2x {f:Value->Value->Sem Value}{g:Int->Int->Int}
  (rule:∀(i j:Int) (t u:Tok) (s:Shared) (Q:VS9) (E:VS9),Q (.int (g i j) s.toks) { s with toks:=s.toks+1 }->wpAny (model X.prog X.w) X.A (f (.int i t) (.int j u)) Q E s) :
  N5 X f (rI0 fun i j=>.int (g i j)):=by
 intro ac s σ H x y v u Q I rx ry h
 obtain⟨i,j,rfl,rfl,q⟩:=h
 obtain⟨t,rfl⟩:=rx
 obtain⟨t',rfl⟩:=ry
 exact rule i j t t' s _ _ ⟨.int (g i j),H,I.tok _,⟨_,rfl⟩,q⟩
theorem Z2w {f:Value->Value->Sem Value}{g:Int->Int->Bool}
  (rule:∀(i j:Int) (t u:Tok) (s:Shared) (Q:VS9) (E:VS9),Q (.bool (g i j)) s->wpAny (model X.prog X.w) X.A (f (.int i t) (.int j u)) Q E s) :
  N5 X f (rI0 fun i j=>.bl (g i j)):=by
 intro ac s σ H x y v u Q I rx ry h
 obtain⟨i,j,rfl,rfl,q⟩:=h
 obtain⟨t,rfl⟩:=rx
 obtain⟨t',rfl⟩:=ry
 exact rule i j t t' s _ _ ⟨.bl (g i j),H,I,rfl,q⟩
def Q0a (i j:Int):Prop:=0<j/\j<1073741824
def Q1e (i j:Int):Prop:=(-(2 ^ 64)<i/\i<2 ^ 64)\/(-(2 ^ 64)<j/\j<2 ^ 64)
theorem Q1e.ok {i j:Int} (h:Q1e i j):IntMulOk i j:=by
 rcases h with⟨h1,h2⟩ | ⟨h1,h2⟩
 ·exact .of_left (intBits_le_64 h1 h2)
 ·exact .of_right (intBits_le_64 h1 h2)
theorem W1x:N5 X (binaryOp .Add) (rI0 fun i j=>.int (i+j)):=Z2x fun _ _ _ _ _ _ _ q=>add_int q
theorem W2i:N5 X (binaryOp .Sub) (rI0 fun i j=>.int (i-j)):=Z2x fun _ _ _ _ _ _ _ q=>sub_int q
theorem W2g:N5 X (binaryOp .Mult) (rI Q1e fun i j=>.int (i*j)):=opI fun _ _ _ _ _ _ _ hc q=>mul_int q hc.ok
theorem W2b:N5 X (binaryOp .FloorDiv) (rI Q0a fun i j=>.int (i / j)):=opI fun i j _ _ _ _ _ hc q=>by
 have h1:(0:Int)<j:=hc.1
 have h2:j<1073741824:=hc.2
 exact floordiv_int (by omega) (by rw [Int.fdiv_eq_ediv_of_nonneg i (by omega)];exact q) (.inl (PyProof.noPylong_small (by omega)))
theorem W2f:N5 X (binaryOp .Mod) (rI (fun _ j=>0<j) fun i j=>.int (i % j)):=opI fun i j _ _ _ _ _ hc q=>by
 have h1:(0:Int)<j:=hc
 exact mod_int' (by omega) (by rw [Int.fmod_eq_emod_of_nonneg i (by omega)];exact q)
theorem Y8p:N5 X (inplaceOp .Add) (rI0 fun i j=>.int (i+j)):=Z2x fun _ _ _ _ _ _ _ q=>iadd_int q
theorem unI {f:Value->Sem Value}{g:Int->Int}
  (rule:∀(i:Int) (t:Tok) (s:Shared) (Q:VS9) (E:VS9),Q (.int (g i) s.toks) { s with toks:=s.toks+1 }->wpAny (model X.prog X.w) X.A (f (.int i t)) Q E s) :
  UnR X f (rU fun i=>.int (g i)):=by
 intro ac s σ H x v Q I rx h
 obtain⟨i,rfl,q⟩:=h
 obtain⟨t,rfl⟩:=rx
 exact rule i t s _ _ ⟨.int (g i),H,I.tok _,⟨_,rfl⟩,q⟩
theorem W8v:UnR X (unaryOp .USub) (rU fun i=>.int (-i)):=unI fun _ _ _ _ _ q=>neg_int q
end
section
variable {X:Cx}{a b c:Expr}{ta tb tc:TE}{pos:Pos}
theorem W2e:N5 X (compareOp .Lt) (rI0 fun i j=>.bl (decide (i<j))):=Z2w fun _ _ _ _ _ _ _ q=>lt_int q
theorem W2d:N5 X (compareOp .Gt) (rI0 fun i j=>.bl (decide (j<i))):=Z2w fun _ _ _ _ _ _ _ q=>gt_int q
theorem W2c:N5 X (compareOp .GtE) (rI0 fun i j=>.bl (decide (j<=i))):=Z2w fun _ _ _ _ _ _ _ q=>ge_int q
theorem Q2 (b:Expr) {op:CmpOp} (h:op≠.In:=by decide) (h2:op≠.NotIn:=by decide):behindInMarks op b=false:=by
 have e1:(op==CmpOp.In)=false:=by cases op <;> first | rfl | exact absurd rfl h
 have e2:(op==CmpOp.NotIn)=false:=by cases op <;> first | rfl | exact absurd rfl h2
 cases b <;> simp [behindInMarks,e1,e2]
theorem W2s {op:CmpOp}{r:R2} (ho:N5 X (compareOp op) r) (ha:PE X a ta) (hb:PE X b tb) (hm:behindInMarks op b=false):PE X (.Compare a [op] [b] pos) (tOp r ta tb):=by
 intro ac s σ H Q I h
 exact wpAny_Compare1 (Z0s ha hb I h fun v u s2 x y H2 I2 rx ry q=>ho ac s2 σ H2 x y v u Q I2 rx ry q) hm
def W8e (t:TE):TT:=fun σ H Q=>t σ H fun x H'=>∃k,x=.bl k/\Q k H'
theorem W4f {op:CmpOp}{r:R2} (ho:N5 X (compareOp op) r) (ha:PE X a ta) (hb:PE X b tb) (hm:behindInMarks op b=false):PT X (.Compare a [op] [b] pos) (W8e (tOp r ta tb)):=by
 intro ac s σ H Q I h
 refine wpAny_isTrue_Compare1 (B3 (ha ac s σ H _ I h) fun v s1 ⟨x,H1,I1,r1,q1⟩=>B3 (hb ac s1 σ H1 _ I1 q1) fun u s2 ⟨y,H2,I2,r2,q2⟩ =>
  B3 (ho ac s2 σ H2 x y v u _ I2 r1 r2 q2) fun c s3 ⟨z,H3,I3,r3,k,e,q3⟩=>?_) hm
 subst e
 cases r3
 exact eR ⟨H3,I3,q3⟩
def Z0m (K:Fg9) (x:V) (H:Hp) (k:Bool):Prop :=
 match x with
 | .non=>k=false
 | .bl b=>k=b
 | .int i=>k=(i != 0)
 | .str y=>y.length<=sizeLine/\k=((y.length:Int) != 0)
 | .byt y=>y.size<=sizeLine/\k=((y.size:Int) != 0)
 | .ref p=>(∃xs,C6 K H p xs/\k=!xs.isEmpty)\/(∃xs,C2 K H p xs/\k=!xs.isEmpty)\/∃kvs,H p=some (.dK kvs)/\k=!kvs.isEmpty
 | _=>False
theorem Y8q {κ:Type}{kvs:List (κ×V)}{vs:List (κ×Value)} (r:KV kvs vs):(!vs.isEmpty)=!kvs.isEmpty:=by
 cases r <;> rfl
theorem Z8x {xs:List V}{aU:List Value} (r:C0 xs aU):(!aU.toArray.isEmpty)=!xs.isEmpty:=by
 cases r <;> simp
theorem Q5u:(sizeLine:Nat)<2 ^ 63:=by rw [sizeLine_eq];decide
theorem W8k:TruR X (fun x H Q=>∃k,Z0m X.K x H k/\Q k H):=by
 intro ac s σ H x v Q I rx h
 obtain⟨k,e,q⟩:=h
 have hl:=Q5u
 have hs:sizeLine=16777216:=sizeLine_eq
 cases x with
 | non =>
  cases rx
  have e':k=false:=e
  subst e'
  exact truthy_none ⟨H,I,q⟩
 | bl b =>
  cases rx
  have e':k=b:=e
  subst e'
  exact eR ⟨H,I,q⟩
 | int i =>
  obtain⟨t,rfl⟩:=rx
  have e':k=(i != 0):=e
  subst e'
  exact PySem.P.truthy_int ⟨H,I,q⟩
 | str y =>
  obtain⟨t,rfl⟩:=rx
  obtain⟨hy,e'⟩:y.length<=sizeLine/\k=((y.length:Int) != 0):=e
  subst e'
  exact PySem.P.truthy_str (by omega) ⟨H,I.tok _,q⟩
 | byt y =>
  obtain⟨t,rfl⟩:=rx
  obtain⟨hy,e'⟩:y.size<=sizeLine/\k=((y.size:Int) != 0):=e
  subst e'
  exact PySem.W.truthy_bytes (by omega) ⟨H,I.tok _,q⟩
 | ref p =>
  cases rx
  have e':(∃xs,C6 X.K H p xs/\k=!xs.isEmpty)\/(∃xs,C2 X.K H p xs/\k=!xs.isEmpty)\/∃kvs,H p=some (.dK kvs)/\k=!kvs.isEmpty:=e
  rcases e' with⟨xs,hx,e'⟩ | ⟨xs,hx,e'⟩ | ⟨kvs,hx,e'⟩
  ·subst e'
   obtain⟨aU,r,pl,hz⟩:=I.list hx
   have bR:=r.length
   exact wpAny_truthy_list pl.isList (by simp only [aF];omega) ⟨H,I.tok _,by rw [Z8x r];exact q⟩
  ·subst e'
   obtain⟨aU,r,pl,hz⟩:=I.tuple hx
   have bR:=r.length
   exact truthy_tuple pl (by simp only [aF];omega) ⟨H,I.tok _,by rw [Z8x r];exact q⟩
  ·subst e'
   obtain⟨hz,hS,vs,r,m⟩:kvs.length<=sizeLine/\(p==sysModules)=false/\∃vs,KV kvs vs/\s.heap.DictOf (K4 X.prog X.w) p vs:=I.hok p _ hx
   have bR:kvs.length=vs.length:=Paired.length r
   exact wpAny_truthy_dict hS m (by omega) ⟨H,I.tok _,by rw [Y8q r];exact q⟩
 | _=>exact(show False from e).elim
theorem W4h (ha:PE X a ta) (he:∀whole,isTrue a X.env whole=(do let v <- whole;standAt a.pos;holding [v] (truthy v))) :
  PT X a (fun σ H Q=>ta σ H fun x H'=>∃k,Z0m X.K x H' k/\Q k H'):=by
 intro ac s σ H Q I h
 exact isTrue_plain (B3 (ha ac s σ H _ I h) fun v s1 ⟨x,H1,I1,r1,q1⟩=>W8k ac s1 σ H1 x v Q I1 r1 q1) (he _)
theorem W1y:N5 X (binaryOp .Add) (fun x y H Q=>∃i j,x=.str i/\y=.str j/\i.length+j.length<=sizeLine/\Q (.str (i++j)) H):=by
 intro ac s σ H x y v u Q I rx ry h
 obtain⟨i,j,rfl,rfl,hz,q⟩:=h
 obtain⟨t,rfl⟩:=rx
 obtain⟨t',rfl⟩:=ry
 exact add_str (fun t' tk=>⟨.str (i++j),H,I.tok _,⟨_,rfl⟩,q⟩) hz
theorem R1 {x:V}{us:List Value} (r:C0 [x] us):∃u,us=[u]/\B8 x u:=by
 cases r with
 | cons r1 r2=>cases r2;exact⟨_,rfl,r1⟩
theorem W8y {x y:V}{us:List Value} (r:C0 [x,y] us):∃u w',us=[u,w']/\B8 x u/\B8 y w':=by
 cases r with
 | cons r1 r2 =>
  cases r2 with
  | cons r3 r4=>cases r4;exact⟨_,_,rfl,r1,r3⟩
theorem Z6z:Q0s X (.type "int") (fun xs H Q=>(∃i,xs=[.int i]/\Q (.int i) H)\/∃k,xs=[.bl k]/\Q (.int (if k then 1 else 0)) H):=by
 intro ac s σ H xs us Q I r h
 rcases h with⟨i,rfl,q⟩ | ⟨k,rfl,q⟩
 ·obtain⟨u,rfl,t,rfl⟩:=R1 r
  exact call_int_int ⟨.int i,H,I,⟨_,rfl⟩,q⟩
 ·obtain⟨u,rfl,r1⟩:=R1 r
  cases r1
  exact call_int_bool ⟨.int (if k then 1 else 0),H,I.tok _,⟨_,rfl⟩,q⟩
def LenV (K:Fg9) (x:V) (H:Hp) (n:Nat):Prop :=
 match x with
 | .str y=>y.length<=sizeLine/\n=y.length
 | .byt y=>y.size<=sizeLine/\n=y.size
 | .ref p=>(∃xs,C6 K H p xs/\n=xs.length)\/∃xs,C2 K H p xs/\n=xs.length
 | _=>False
theorem Q5f:Q0s X (.builtin "len") (fun xs H Q=>∃x n,xs=[x]/\LenV X.K x H n/\Q (.int n) H):=by
 intro ac s σ H xs us Q I r h
 obtain⟨x,n,rfl,e,q⟩:=h
 obtain⟨u,rfl,rx⟩:=R1 r
 have hl:=Q5u
 have hs:sizeLine=16777216:=sizeLine_eq
 cases x with
 | str y =>
  obtain⟨t,rfl⟩:=rx
  obtain⟨hy,e'⟩:y.length<=sizeLine/\n=y.length:=e
  subst e'
  exact len_str (by omega) ⟨.int _,H,I.tok _,⟨_,rfl⟩,q⟩
 | byt y =>
  obtain⟨t,rfl⟩:=rx
  obtain⟨hy,e'⟩:y.size<=sizeLine/\n=y.size:=e
  subst e'
  exact PySem.W.len_bytes (by omega) ⟨.int _,H,I.tok _,⟨_,rfl⟩,q⟩
 | ref p =>
  cases rx
  have e':(∃xs,C6 X.K H p xs/\n=xs.length)\/∃xs,C2 X.K H p xs/\n=xs.length:=e
  rcases e' with⟨xs,hx,e'⟩ | ⟨xs,hx,e'⟩
  ·subst e'
   obtain⟨aU,r',pl,hz⟩:=I.list hx
   have bR:=r'.length
   exact Calls.call_len_list pl.isList (by simp only [aF];omega) ⟨.int xs.length,H,I.tok _,⟨_,by simp only [aF];rw [bR]⟩,q⟩
  ·subst e'
   obtain⟨aU,r',pl,hz⟩:=I.tuple hx
   have bR:=r'.length
   exact len_tuple pl (by simp only [aF];omega) ⟨.int xs.length,H,I.tok _,⟨_,by simp only [aF];rw [bR]⟩,q⟩
 | _=>exact(show False from e).elim
end
end L2
namespace L2
open PySem PySem.Spec PyProof.Rows
structure Z0j (h:Heap) (x dx C:Addr) (mA:Str->Option Value):Prop where
 obj:h.get? x=some (PySem.W.instObj C dx)
 ns:h.Ns1 dx mA
 ne:dx≠x
theorem W0d {h:Heap}{dx:Addr}{mA:Str->Option Value} (n:h.Ns1 dx mA):∃od,h.get? dx=some od/\∀name,PySem.W.lookIn name od=some (mA name):=by
 obtain⟨o,es,ep,ho,hd,hk,_,hm⟩:=n
 refine⟨o,ho,fun name=>?_⟩
 have e:=hm name
 unfold nsFind findBy at e
 rw [<- Array.find?_toList]at e
 unfold PySem.W.lookIn
 rw [hd]
 dsimp only
 split
 ·rename_i y q
  rw [q]at e
  exact congrArg some e
 ·rename_i q
  rw [q]at e
  have a:es.toList.any (·.refKey)=false:=by
   rw [List.any_eq_false]
   intro y hy
   obtain⟨z,t,mr⟩:=hk y (Array.mem_toList_iff.mp hy)
   simp [DictEntry.refKey,mr]
  have a':¬ es.toList.any (·.refKey)=true:=by rw [a];exact bA
  rw [aC a']
  exact congrArg some e
theorem Z0j.look {h:Heap}{x dx C:Addr}{mA:Str->Option Value} (I:Z0j h x dx C mA):∃od,PySem.W.InstAt h x (PySem.W.instObj C dx) C (some od)/\∀name,PySem.W.lookIn name od=some (mA name) :=
 let ⟨od,ho,hl⟩:=W0d I.ns
 ⟨od,⟨I.obj,rfl,rfl,ho⟩,hl⟩
section
variable {prog:Program}{w:World}{A:Around}{E:VS9}{s:Shared}{K:Fg9}{x dx C f:Addr}{mA:Str->Option Value}{name:Str}{v:Value}
end
theorem W9.some_of {v:V}{o:Option Value} (r:W9 (some v) o):∃u,o=some u/\B8 v u:=by
 cases o with
 | none=>exact(show False from r).elim
 | some u=>exact⟨u,rfl,r⟩
section
variable {P:Program}{w:World}{H H':Hp}{h h':Heap}{a C dx:Addr}{fs qU:List (Str×V)}
theorem Y8h (hok:F5 P w H h) (e:H a=some (.ins C dx fs)):∃mA,Z0j h a dx C mA/\(∀f,W9 (fs.lookup f) (mA f))/\PySem.Within mA (fs.map (·.1))/\fs.length<=1000/\H dx=some (.own a):=by
 obtain⟨d,z,ne,ob,mA,n,r,q⟩:=(show F1 P w H h a (.ins C dx fs)from hok a _ e)
 exact⟨mA,⟨ob,n,ne⟩,r,q,z,d⟩
end
structure Cls (K:Fg9) (C:Addr):Prop where
 pg:PySem.W.plainGet K C Str.empty=true
 hd:PySem.W.hasDictIn K C=true
 po:PySem.W.plainOver K C=true
 sa:PySem.W.findIn K (.ref C) "__setattr__"=some (some (.builtin "object.__setattr__"))
theorem Cls.get {K:Fg9}{C:Addr} (c:Cls K C) (f:Str):PySem.W.plainGet K C f=true:=c.pg
section
variable {X:Cx}{ac:Pn9} {σ:St}{H:Hp}{s:Shared}{a C dx:Addr}{fs:List (Str×V)}{f:Str}{v:V}{A:Around}{E:VS9}
end
section
variable {X:Cx}{o e value:Expr}{f:Str}{pos bI lu:Pos}{ta tv:TE}
end
section
variable {X:Cx}{ac:Pn9} {σ:St}{H:Hp}{s:Shared}{A:Around}{E:VS9}{Q:VS9}{c:Value}{b:Bool}
inductive V7 (K:Fg9) (H:Hp):V->Value->Prop where
 | non:V7 K H .non (.type "NoneType")
 | bl (x:Bool):V7 K H (.bl x) (.type "bool")
 | int (i:Int):V7 K H (.int i) (.type "int")
 | str (x:Str):V7 K H (.str x) (.type "str")
 | flt (x:UInt64):V7 K H (.flt x) (.type "float")
 | lst {a:Addr}{xs:List V} (e:H a=some (.lst xs)):V7 K H (.ref a) (.type "list")
 | frz {a:Addr}{o:Obj}{xs:List V} (e:H a=some (.frz o (.lst xs))):V7 K H (.ref a) (.type "list")
 | tup {a:Addr}{xs:List V} (e:H a=some (.tup xs)):V7 K H (.ref a) (.type "tuple")
 | dK {a:Addr}{kvs:List (A7×V)} (e:H a=some (.dK kvs)):V7 K H (.ref a) (.type "dict")
 | dT {a:Addr}{kvs:List (List A7×V)} (e:H a=some (.dT kvs)):V7 K H (.ref a) (.type "dict")
 | ins {a C dx:Addr}{fs:List (Str×V)} (e:H a=some (.ins C dx fs)) (cl:Cls K C) (ha:PySem.W.findIn K (.ref C) "__class__"=some (some (.builtin "object.__class__")))
   (hn:PySem.W.specialIn K (.builtin "object.__class__") "__get__"=some (some (.builtin "getset_descriptor.__get__"))) (nI:PySem.W.takesIn K (.builtin "object.__class__")=some true)
   (hm:PySem.W.mroIn K C (.type "object")=some true):V7 K H (.ref a) (.ref C)
theorem Y8s {x:V}{u t:Value} (I:A0 X ac σ H s) (rx:B8 x u) (ty:V7 X.K H x t) (e:PySem.W.kitOne X.K t c=some b) (h:∀tk,Q (.bool b) { s with toks:=tk }) :
  wpAny (model X.prog X.w) A (call (.builtin "isinstance") [u,c]) Q E s:=by
 cases ty with
 | non=>cases (show u=Value.none from rx);exact bL PySem.W.kitx_none I.kIn True.intro e (fun z=>nomatch z) h
 | bl y=>cases (show u=Value.bool y from rx);exact bL PySem.W.kitx_bool I.kIn True.intro e (fun z=>nomatch z) h
 | int i=>obtain⟨t,q⟩:=(show ∃t,u=Value.int i t from rx);cases q;exact bL PySem.W.kitx_int I.kIn True.intro e (fun z=>nomatch z) h
 | str y=>obtain⟨t,q⟩:=(show ∃t,u=Value.str y t from rx);cases q;exact bL PySem.W.kitx_str I.kIn True.intro e (fun z=>nomatch z) h
 | flt y=>obtain⟨t,q⟩:=(show ∃t,u=Value.float y t from rx);cases q;exact bL PySem.W.kitx_float I.kIn True.intro e (fun z=>nomatch z) h
 | @lst a xs ea =>
  cases (show u=Value.ref a from rx)
  obtain⟨_,_,n,_,h1⟩:=(show F1 X.prog X.w H s.heap a (.lst xs)from I.hok a _ ea)
  exact bL PySem.W.kitx_list I.kIn ⟨_,h1,rfl⟩ e (fun z=>nomatch z) h
 | @frz a ob xs ea =>
  cases (show u=Value.ref a from rx)
  obtain⟨_,_,_,n,_,h1⟩:=(show F1 X.prog X.w H s.heap a (.frz ob (.lst xs))from I.hok a _ ea)
  exact bL PySem.W.kitx_list I.kIn ⟨_,h1,rfl⟩ e (fun z=>nomatch z) h
 | @tup a xs ea =>
  cases (show u=Value.ref a from rx)
  obtain⟨_,_,_,p⟩:=(show F1 X.prog X.w H s.heap a (.tup xs)from I.hok a _ ea)
  obtain⟨o,h1,h2,_⟩:=p
  exact bL PySem.W.kitx_tuple I.kIn ⟨o,h1,h2⟩ e (fun z=>nomatch z) h
 | @dK a kvs ea =>
  cases (show u=Value.ref a from rx)
  obtain⟨_,_,vs,_,p⟩:=(show F1 X.prog X.w H s.heap a (.dK kvs)from I.hok a _ ea)
  obtain⟨o,es,ep,h1,h2,_⟩:=p
  exact bL PySem.W.kitx_dict I.kIn ⟨o,h1,h2.1⟩ e (fun z=>nomatch z) h
 | @dT a kvs ea =>
  cases (show u=Value.ref a from rx)
  obtain⟨_,_,xs,_,o,es,ep,h1,h2,_⟩:=(show F1 X.prog X.w H s.heap a (.dT kvs)from I.hok a _ ea)
  exact bL PySem.W.kitx_dict I.kIn ⟨o,h1,h2.1⟩ e (fun z=>nomatch z) h
 | @ins a C dx fs ea cl ha hn nI hm =>
  cases (show u=Value.ref a from rx)
  obtain⟨mA,O,_⟩:=Y8h I.hok ea
  obtain⟨od,J,_⟩:=O.look
  exact bL (PySem.W.kitx_own (cl.get _) cl.hd ha hn nI hm) I.kIn J e (fun z=>nomatch z) h
end
end L2
namespace L2
open PySem PySem.Spec PyProof.Rows
structure C9 (k:Nat) (A:Around):Prop where
 hd:A.handled=none
 dp:A.depth+3*k+5<recursionLimit
 un:A.units+16*k+200<cLine
theorem C9.mono {j k:Nat}{A:Around} (r:C9 k A) (h:j<=k):C9 j A:=⟨r.hd,by have:=r.dp;omega,by have:=r.un;omega⟩
theorem C9.deeper {k:Nat}{A:Around} (r:C9 (k+1) A) (env:Env):C9 k (A.deeper env) :=
 ⟨r.hd,by have:=r.dp;show A.depth+1+3*k+5<_;omega,by have:=r.un;show A.units+3+16*k+200<_;omega⟩
theorem C9.depth {k:Nat}{A:Around} (r:C9 k A):A.depth<recursionLimit:=by have:=r.dp;omega
theorem C9.units {k:Nat}{A:Around} (r:C9 k A):A.units+64<cLine:=by have:=r.un;omega
def tNil:TA:=fun _ H Q=>Q [] H
def Z4b (ta:TE) (tr:TA):TA:=fun σ H Q=>ta σ H fun x H1=>tr σ H1 fun xs H2=>Q (x::xs) H2
section
variable {X:Cx}{e:Expr}{es:List Expr}{te:TE}{t:TA}{pos:Pos}
theorem Q2z:PA X [] tNil:=fun _ _ _ _ H Q I h=>cV ⟨[],H,I,.nil,h⟩
theorem Q1b (ha:PE X e te) (hr:PA X es t) (hs:starEach (e::es) X.env=(false,eval e X.env)::starEach es X.env:=by rfl):PA X (e::es) (Z4b te t):=by
 intro pos ac s σ H Q I h
 rw [hs]
 show wpAny _ _ (spliced ((false,eval e X.env)::backTo pos (starEach es X.env))) _ _ s
 refine c6 (B3 (ha ac s σ H _ I h) fun u s1 ⟨x,H1,I1,r1,q1⟩=>?_)
 exact B3 (hr pos ac s1 σ H1 _ I1 q1) fun us s2 ⟨xs,H2,I2,r2,q2⟩=>⟨x::xs,H2,I2,.cons r1 r2,q2⟩
def tTup (t:TA):TE:=fun σ H Q=>t σ H fun xs H1=>xs.length<=sizeLine/\∀p,H1 p=none->Q (.ref p) (upd H1 p (.tup xs))
def tLst (t:TA):TE:=fun σ H Q=>t σ H fun xs H1=>xs.length<=sizeLine/\∀p,H1 p=none->Q (.ref p) (upd H1 p (.lst xs))
theorem W3k {x1} (h:PA X es t):PE X (.Tuple es x1 pos) (tTup t):=by
 intro ac s σ H Q I hq
 refine wpAny_Tuple_spliced (B3 (h pos ac s σ H _ I hq) fun us s1 ⟨xs,H1,I1,r,z,q⟩=>⟨by rw [<- r.length];exact z,?_⟩)
 have hf:H1 s1.heap.objs.size=none:=I1.hok.fresh (ah _)
 refine⟨.ref s1.heap.objs.size,upd H1 s1.heap.objs.size (.tup xs),I1.laid (t':=s1.toks) (fun b u e=>aa _ e) (ah _) ?_,rfl,q _ hf⟩
 exact⟨z,us,r,⟨_,aw _ rfl,rfl,_,rfl⟩⟩
theorem W3d (h:PA X es t):PE X (.List es pos) (tLst t):=by
 intro ac s σ H Q I hq
 refine wpAny_List_spliced (B3 (h pos ac s σ H _ I hq) fun us s1 ⟨xs,H1,I1,r,z,q⟩=>⟨by rw [<- r.length];exact z,?_⟩)
 have hf:H1 s1.heap.objs.size=none:=I1.hok.fresh (ah _)
 refine⟨.ref s1.heap.objs.size,upd H1 s1.heap.objs.size (.lst xs),I1.laid (t':=s1.toks) (fun b u e=>aa _ e) (ah _) ?_,rfl,q _ hf⟩
 exact⟨z,us,0,r,aw _ rfl⟩
end
noncomputable abbrev Sp:=List V->Hp->VK->XK->Prop
noncomputable abbrev CXT:=List Env->Hp->Shared->XK->Value->Shared->Prop
structure Q3j (P:Program) (w:World) (K:Fg9) (mg:Str->Option Value) (base:Heap) (A:Around) (outer:List Env) (s:Shared) (H:Hp):Prop where
 frames:A.frames=some outer
 mod:Mod K mg base
 bs:∀b o,base.get? b=some o->s.heap.get? b=some o/\H b=none
 bsz:base.objs.size<=s.heap.objs.size
 funs:s.heap.FunFrames base outer
 frf:∀b∈frs outer,H b=none
 hok:F5 P w H s.heap
 bare:AllBare s.gens
def CE (outer:List Env) (P:Program) (w:World) (H:Hp) (s:Shared) (Q:VK) (u:Value) (s':Shared):Prop :=
 ∃v H',s'.os=s.os/\AllBare s'.gens/\Un (frs outer) [] H H' s.heap s'.heap/\F5 P w H' s'.heap/\B8 v u/\Q v H'
def CR (CX:CXT) (outer:List Env) (P:Program) (w:World) (H:Hp) (s:Shared) (Q:VK) (E:XK) (r:Result) (s':Shared):Prop :=
 match r with
 | .ok (.ret u)=>CE outer P w H s Q u s'
 | .ok _=>False
 | .error e=>CX outer H s E e s'
structure O9 (P:Program) (w:World) (K:Fg9) (mg:Str->Option Value) (base:Heap) (CX:CXT) (k:Nat) (f:Addr) (fd:FuncData) (ps:List Str) (sp:Sp):Prop where
 len:∀vs H Q E,sp vs H Q E->vs.length=ps.length
 run:∀(A:Around) (outer:List Env) (s:Shared) (H:Hp) (args:Args) (us:List Value) (vs:List V) (Q:VK) (E:XK),C9 k A->Q3j P w K mg base A outer s H->BindsTo s fd args (ps.zip us)->C0 vs us->sp vs H Q E ->
  codeAny (model P w) A (.call (.ref f) args) (CR CX outer P w H s Q E) s
section
variable {X:Cx}{ac:Pn9} {σ:St}{H:Hp}{s s':Shared}
theorem A0.env0 (I:A0 X ac σ H s):Q3j X.prog X.w X.K X.mg X.base X.A X.stack s H :=
 ⟨I.ok.frames,I.ok.mod,I.bs,aT I.ok.bsz I.sz,I.stack,I.stkFree,I.hok,I.bare⟩
theorem A0.after {Q:VK}{u:Value} (I:A0 X ac σ H s) (h:CE X.stack X.prog X.w H s Q u s'):EP X ac σ Q u s':=by
 obtain⟨v,H',os,bare,un,hok,r,q⟩:=h
 obtain⟨hh,g,d,t,pk⟩:=s'
 obtain rfl:pk=s.os:=os
 exact⟨v,H',I.call (h':=hh) (g':=g) (d':=d) (t':=t) (ch:=[]) un hok bare (fun b z=>absurd z (by simp)),r,q⟩
end
def W7r (sp:Sp) (dvs:List V) (E:XK) (t:TA):TE:=fun σ H Q=>t σ H fun vs H1=>sp (vs++dvs) H1 Q E
def U2 (K:Fg9) (fd:FuncData) (ps:List Str) (ds:List Value):Prop :=
 ∀(s:Shared) (us:List Value),K.In s.heap->(us++ds).length=ps.length->BindsTo s fd ⟨us,[]⟩ (ps.zip (us++ds))
theorem U2.all {K:Fg9}{fd:FuncData}{ps:List Str} (h:∀us:List Value,us.length=ps.length->bindArgs fd ⟨us,[]⟩=pure (ps.zip us)):U2 K fd ps []:=fun s us _ hl=>by
 rw [bO]at hl ⊢
 exact .of_eq (h us hl)
def Z0k (CX:CXT) (X:Cx) (E:XK):Prop:=∀(ac:Pn9) (σ:St) (H:Hp) (s:Shared) (e:Value) (s':Shared),A0 X ac σ H s->CX X.stack H s E e s'->X.xe e s'
section
variable {X:Cx}{CX:CXT}{k:Nat}{f C:Addr}{fd:FuncData}{ps:List Str}{sp:Sp}{dvs:List V}{ds:List Value}{E:XK}{x m:Str}{p pos apos:Pos}{e o:Expr}{es:List Expr}{ta:TE}{t:TA}
theorem Y1z {ac:Pn9} {σ:St}{H:Hp}{s:Shared}{Q:VK}{us:List Value}{vs:List V} (F:O9 X.prog X.w X.K X.mg X.base CX k f fd ps sp) (hr:C9 k X.A) (hb:U2 X.K fd ps ds) (hd:C0 dvs ds) (hx:Z0k CX X E)
  (I:A0 X ac σ H s) (r:C0 vs us) (h:sp (vs++dvs) H Q E):wpAny (model X.prog X.w) X.A (call (.ref f) us) (EP X ac σ Q) X.xe s:=by
 have r2:C0 (vs++dvs) (us++ds):=r.append hd
 have hl:(us++ds).length=ps.length:=by rw [<- r2.length];exact F.len _ _ _ _ h
 refine wpAny_call (codeAny_mono (F.run X.A X.stack s H ⟨us,[]⟩ (us++ds) (vs++dvs) Q E hr I.env0 (hb s us I.kIn hl) r2 h) fun r s' hq=>?_)
 cases r with
 | error e=>exact hx ac σ H s e s' I hq
 | ok fl =>
  cases fl with
  | ret u=>exact I.after hq
  | next=>exact False.elim hq
  | brk=>exact False.elim hq
  | cont=>exact False.elim hq
theorem Z3a (F:O9 X.prog X.w X.K X.mg X.base CX k f fd ps sp) (hr:C9 k X.A) (hg:Gl X x) (hm:X.mg x=some (.ref f)) (hk:PySem.W.keepIn X.K (.ref f)=true) (hb:U2 X.K fd ps ds) (hd:C0 dvs ds) (hx:Z0k CX X E)
  (ha:PA X (e::es) t) (ef:(x==("__debug__":Str))=false:=by decide) (he:starEach (e::es) X.env=(false,eval e X.env)::starEach es X.env:=by rfl) (hpl:(backTo pos (starEach es X.env)).any (·.1)=false:=by rfl) :
  PE X (.Call (.Name x p) (e::es) [] pos) (W7r sp dvs E t):=by
 intro ac s σ H Q I h
 refine bh (Z1y I hg hm ?_ ef)
 refine PySem.W.callWith_K (h₀:=X.base) I.ok.mod.kin hk (B3 (ha pos ac s σ H _ I h) fun us s1 ⟨vs,H1,I1,r,q⟩=>⟨I1.kIn,?_⟩) he hpl
 exact Y1z F hr hb hd hx I1 r q
end
section
variable {X:Cx}{CX:CXT}{k:Nat}{f C:Addr}{fd:FuncData}{ps ks:List Str}{sp:Sp}{E:XK}{x m:Str}{p pos apos pQ:Pos}{e o:Expr}{es:List Expr}{rJ:List Keyword}{te ta:TE}{t tk:TA}{nm:Option Str}
variable {g:List Value->List Value->List Value}{gV:List V->List V->List V}
end
structure J5 (N P:List Str) (sc:Scope):Prop where
 kind:sc.kind=.function
 co:sc.isCoroutine=false
 gen:sc.isGenerator=false
 nd:N.Nodup
 pre:N.take P.length=P
 par:∀x∈P,sc.names.lookup x=some .local\/sc.names.lookup x=some .cell
 nofree:∀y∈sc.names,y.2≠.free
theorem Z6v {kindOf:Str->Option NameKind}{x:Str}:∀{binds:List (Str×Value)}{m:Str->Option Value},(∀v,(x,v)∉binds)->bindL kindOf binds m x=m x
 | [],_,_=>rfl
 | (n,v)::r,m,h=>by
  unfold bindL
  rw [Z6v fun w hw=>h w (av _ hw)]
  split
  ·have:x≠n:=by rintro rfl;exact h v ao
   simp [this]
  ·rfl
theorem Z6t {kindOf:Str->Option NameKind}{x:Str}:∀{binds:List (Str×Value)}{m:Str->Option Value},(∀v,(x,v)∉binds)->bindC kindOf binds m x=m x
 | [],_,_=>rfl
 | (n,v)::r,m,h=>by
  unfold bindC
  rw [Z6t fun w hw=>h w (av _ hw)]
  split
  ·rfl
  ·have:x≠n:=by rintro rfl;exact h v ao
   simp [this]
theorem Z6u {kindOf:Str->Option NameKind}{x:Str}{v:Value}:∀{P:List Str}{vs:List Value}{i:Nat}{m:Str->Option Value},P.Nodup->P[i]?=some x->vs[i]?=some v->kindOf x=some .local ->
  bindL kindOf (P.zip vs) m x=some v
 | [],_,_,_,_,h,_,_=>by simp at h
 | _::_,[],_,_,_,_,h,_=>by simp at h
 | p::P,w::vs,0,m,nd,h1,h2,hk=>by
  simp at h1 h2;subst h1;subst h2
  show bindL kindOf ((p,w)::P.zip vs) m p=_
  unfold bindL
  rw [Z6v fun v hv=>(bB.mp nd).1 (iF hv).1,aE hk]
  simp
 | p::P,w::vs,i+1,m,nd,h1,h2,hk=>by
  show bindL kindOf ((p,w)::P.zip vs) m x=_
  unfold bindL
  exact Z6u (i:=i) (bB.mp nd).2 (by simpa using h1) (by simpa using h2) hk
theorem Z6s {kindOf:Str->Option NameKind}{x:Str}{v:Value}:∀{P:List Str}{vs:List Value}{i:Nat}{m:Str->Option Value},P.Nodup->P[i]?=some x->vs[i]?=some v->kindOf x≠some .local ->
  bindC kindOf (P.zip vs) m x=some v
 | [],_,_,_,_,h,_,_=>by simp at h
 | _::_,[],_,_,_,_,h,_=>by simp at h
 | p::P,w::vs,0,m,nd,h1,h2,hk=>by
  simp at h1 h2;subst h1;subst h2
  show bindC kindOf ((p,w)::P.zip vs) m p=_
  unfold bindC
  rw [Z6t fun v hv=>(bB.mp nd).1 (iF hv).1,aC hk]
  simp
 | p::P,w::vs,i+1,m,nd,h1,h2,hk=>by
  show bindC kindOf ((p,w)::P.zip vs) m x=_
  unfold bindC
  exact Z6s (i:=i) (bB.mp nd).2 (by simpa using h1) (by simpa using h2) hk
noncomputable def start (N:List Str) (vs:List V):St:=vs.map some++List.replicate (N.length-vs.length) none
noncomputable def X1 (CX:CXT) (P:Program) (w:World) (K:Fg9) (mg:Str->Option Value) (base:Heap) (N:List Str) (qual:Str) (scope:Scope) (f:Addr) (cd:Value) (A:Around) (outer:List Env) (s:Shared) (H:Hp) (E:XK):Cx where
 prog:=P
 w:=w
 K:=K
 mg:=mg
 base:=base
 A:=A.deeper (envOfC qual scope s.heap.objs.size f cd)
 N:=N
 s₀:=s
 H₀:=H
 env:=envOfC qual scope s.heap.objs.size f cd
 outer:=outer
 stack:=envOfC qual scope s.heap.objs.size f cd::outer
 ex:=[]
 calm:=true
 fn:=fun _=>true
 pn:=[]
 xe:=fun e s'=>wpAny (model P w) (A.deeper (envOfC qual scope s.heap.objs.size f cd)) (leaving (envOfC qual scope s.heap.objs.size f cd) e) (fun _ lD=>CX outer H s E e lD) (fun e' lD=>CX outer H s E e' lD) s'
theorem Z7g {sc:Scope}{n:Nat}{x:Str} (h:sc.names.lookup x=some .cell):∃c,(cellsFrom n sc.names []).lookup x=some c:=by
 have q:=PySem.W.cellsFrom_some sc.names n [] (.inl h)
 exact Option.isSome_iff_exists.mp q
theorem Y8n {CX:CXT}{P:Program}{w:World}{K:Fg9}{mg:Str->Option Value}{base:Heap}{N ps:List Str}{qual:Str}{scope:Scope}{f:Addr}{cd:Value}{A:Around}{outer:List Env}{s s1:Shared}{H:Hp}{E:XK}{us:List Value}{vs:List V}
  (S:J5 N ps scope) (hd:A.handled=none) (e0:Q3j P w K mg base A outer s H) (hl:vs.length=ps.length) (r:C0 vs us)
  (x:InCallC s s.heap.objs.size (bindL (envOfC qual scope s.heap.objs.size f cd).kindOf (ps.zip us) fun _=>none) (cellsFrom (s.heap.objs.size+1) scope.names []) (bindC (envOfC qual scope s.heap.objs.size f cd).kindOf (ps.zip us) fun _=>none) s1) :
  A0 (X1 CX P w K mg base N qual scope f cd A outer s H E) [] (start N vs) H s1:=by
 have hpl:ps.length<=N.length:=by have:=congrArg List.length S.pre;rw [List.length_take]at this;omega
 obtain⟨h1,tk,rfl,hk⟩:=x.done
 have gO:∀b:Addr,b∉(X1 CX P w K mg base N qual scope f cd A outer s H E).ex:=fun b z=>absurd (show b∈([]:List Addr)from z) (by simp)
 refine⟨⟨e0.mod,S.kind,rfl,rfl,ah _,fun y z c h1 h2=>?_,fun y hy=>?_,fun y c _ h=>?_,fun _=>hd,Around.frames_deeper e0.frames,.inr ⟨rfl,rfl⟩,fun b z=>absurd z (gO b),e0.bs,e0.bsz,fun b _ _=>gO b,fun b z=>absurd z (gO b),e0.funs,e0.frf⟩,
  rfl,e0.bare,Un.kept hk,⟨_,x.toInCall.ns,fun i y v h1 h2 h3=>?_⟩,fun y c h=>⟨_,x.cell y c h⟩,e0.hok.fresh (ah _),fun y c h=>?_,fun p hp=>absurd (show p∈([]:Pn9)from hp) (by simp),e0.hok.kept hk,?_⟩
 ·exact name_of_addr x.apart (bT h1) (bT h2)
 ·have hy:scope.names.lookup y=some .cell\/scope.names.lookup y=some .free:=hy
  rcases hy with hy | hy
  ·exact Z7g hy
  ·exact absurd rfl (S.nofree _ (bT hy))
 ·exact cD (x.above y c (bT h))
 ·have hi:i<vs.length:=by
   unfold start at h2
   by_cases hi:i<vs.length
   ·exact hi
   ·rw [aS (by simpa using hi)]at h2
    rw [List.getElem?_replicate]at h2
    split at h2 <;> cases h2
  have ha:vs[i]?=some v:=by
   unfold start at h2
   rw [aH (by simpa using hi),ai]at h2
   cases e:vs[i]? with
   | none=>rw [e]at h2;cases h2
   | some a=>rw [e]at h2;cases h2;rfl
  obtain⟨u,hu,rv⟩:=r.get ha
  have hp:ps[i]?=some y:=by
   rw [<- S.pre,List.getElem?_take_of_lt (by omega)];exact h1
  have nC:ps.Nodup:=by rw [<- S.pre];exact S.nd.sublist (List.take_sublist _ _)
  refine⟨u,rv,?_⟩
  rcases S.par y (aD hp)with k | k
  ·exact .inl ⟨k,Z6u nC hp hu k⟩
  ·obtain⟨c,e⟩:=Z7g (n:=s.heap.objs.size+1) k
   refine .inr ⟨.inl k,c,e,?_⟩
   have q:=x.cell y c e
   rw [Z6s nC hp hu (by show scope.names.lookup y≠_;rw [k];decide)]at q
   exact q
 ·exact e0.hok.fresh (cD (x.above y c (bT h)))
 ·unfold start
  show _=N.length
  rw [ay,ag,aZ]
  omega
theorem Z1i {CX:CXT}{P:Program}{w:World}{K:Fg9}{mg:Str->Option Value}{base:Heap}{k:Nat}{f:Addr}{name qual:Str}{params:Arguments}{body:List Stmt}{scope:Scope}{dV kV cr pm cdv ct oc:Value}{an od:Option Addr}
  {dq:Array (Option Value)}{N ps:List Str}{sp:Sp} (lk:K.lookup f=some ⟨oc,od,.func (PySem.W.fnOf name qual params body scope dV kV cr pm an cdv ct),dq⟩) (eg:PySem.W.codeIn K cdv qual=true) (S:J5 N ps scope)
  (len:∀vs H Q E,sp vs H Q E->vs.length=ps.length)
  (cc:∀(A:Around) (outer:List Env) (s:Shared) (H:Hp) (vs:List V) (Q:VK) (E:XK),C9 k (A.deeper (envOfC qual scope s.heap.objs.size f cdv))->sp vs H Q E ->
   ∃t,PSs (X1 CX P w K mg base N qual scope f cdv A outer s H E) body t/\t { nx:=fun _ H'=>Q .non H',rt:=Q } (start N vs) H) :
  O9 P w K mg base CX (k+1) f (PySem.W.fnOf name qual params body scope dV kV cr pm an cdv ct) ps sp:=by
 refine⟨len,fun A outer s H args us vs Q E hr e0 hb r fW=>?_⟩
 have hl:=len _ _ _ _ fW
 have KX:K.In s.heap:=e0.mod.kin.keeps fun b o e=>(e0.bs b o e).1
 have k6:s.heap.NoLimit:=e0.mod.nolimit.keeps fun b o e=>(e0.bs b o e).1
 have kw:∀y∈ps.zip us,scope.names.lookup y.1=some .local\/(scope.names.lookup y.1=some .cell/\((cellsFrom (s.heap.objs.size+1) scope.names []).lookup y.1).isSome=true):=fun⟨n,v⟩ hy=>by
  rcases S.par n (iF hy).1 with q | q
  ·exact .inl q
  ·exact .inr ⟨q,PySem.W.cellsFrom_some _ _ _ (.inl q)⟩
 refine codeAny_call_function hr.depth (KX _ _ lk) rfl S.co S.gen rfl (PySem.W.codeRec_of KX eg) (hb _ _ _ _ ?_)
 refine wpAny_newFunctionEnv_cells S.kind kw fun env he s1 x=>?_
 subst he
 refine⟨k6.keeps x.toInCall.keep,codeAny_func ?_⟩
 obtain⟨t,ht,hq⟩:=cc A outer s H vs Q E (hr.deeper _) fW
 have I:A0 (X1 CX P w K mg base N qual scope f cdv A outer s H E) [] (start N vs) H s1:=Y8n S hr.hd e0 hl r x
 refine aP (ht [] s1 (start N vs) H _ I hq) (fun fl s' hs=>?_) fun e s' hs=>hs
 have fin:∀{σ':St}{H':Hp}{v:V}{u:Value},A0 (X1 CX P w K mg base N qual scope f cdv A outer s H E) [] σ' H' s'->B8 v u->Q v H'->CE outer P w H s Q u s' :=
  fun {σ' H' v u} J rv q=>⟨v,H',J.os,J.bare,J.base,J.hok,rv,q⟩
 cases fl with
 | ret u =>
  obtain⟨v,σ',H',J,rv,q⟩:=hs
  exact fin J rv q
 | next =>
  obtain⟨σ',H',J,q⟩:=hs
  exact fin (v:=V.non) (u:=Value.none) J rfl q
 | brk =>
  obtain⟨_,_,_,q⟩:=hs
  exact False.elim q
 | cont =>
  obtain⟨_,_,_,q⟩:=hs
  exact False.elim q
end L2
namespace L2
open PySem PySem.Spec PyProof.Rows
section
variable {X:Cx}{x:Str}{p pos:Pos}{e:Expr}{es:List Expr}{t:TA}{id T:String}{r:List V->Hp->VK->Prop}
def tCB (r:List V->Hp->VK->Prop) (t:TA):TE:=fun σ H Q=>t σ H fun vs H1=>r vs H1 Q
theorem Z3b (hc:Q0s X (.builtin id) r) (hg:Gl X x) (hm:X.mg x=none) (hv:bootBuiltins x=some (.builtin id)) (ha:PA X (e::es) t) (hn:x≠"__name__":=by decide) (ef:(x==("__debug__":Str))=false:=by decide)
  (he:starEach (e::es) X.env=(false,eval e X.env)::starEach es X.env:=by rfl) (hpl:(backTo pos (starEach es X.env)).any (·.1)=false:=by rfl):PE X (.Call (.Name x p) (e::es) [] pos) (tCB r t):=by
 intro ac s σ H Q I h
 refine bh (X5 I hg hm hv ?_ hn ef)
 exact PyProof.Rows.callWith_builtin1 (B3 (ha pos ac s σ H _ I h) fun us s1 ⟨vs,H1,I1,r1,q1⟩=>hc ac s1 σ H1 vs us Q I1 r1 q1) he hpl
theorem W2r (hc:Q0s X (.type T) r) (hg:Gl X x) (hm:X.mg x=none) (hv:bootBuiltins x=some (.type T)) (ha:PA X (e::es) t) (hn:x≠"__name__":=by decide) (ef:(x==("__debug__":Str))=false:=by decide)
  (he:starEach (e::es) X.env=(false,eval e X.env)::starEach es X.env:=by rfl) (hpl:(backTo pos (starEach es X.env)).any (·.1)=false:=by rfl):PE X (.Call (.Name x p) (e::es) [] pos) (tCB r t):=by
 intro ac s σ H Q I h
 refine bh (X5 I hg hm hv ?_ hn ef)
 exact b7 (B3 (ha pos ac s σ H _ I h) fun us s1 ⟨vs,H1,I1,r1,q1⟩=>hc ac s1 σ H1 vs us Q I1 r1 q1) he hpl
end
end L2
namespace HT
open PySem PyProof.Rows
section
open PySem.SeqAt
open PySem.AutoSeq1 (wpAny_loadPart')
open PySem.MeetsSeq PySem.MeetsSeq2 PySem.MeetsSeq3
end
section
variable {prog:Program}{w:World}{A:Around}{E:VS9}{s:Shared}
theorem cat_tup {t b:Addr}{vs ws:List Value}{Q:VS9} (ht:IsTup s.heap t vs.toArray) (hb:IsTup s.heap b ws.toArray) (hv:vs≠[])
  (h1:ws=[]->Q (.ref t) s) (h2:ws≠[]->Q (.ref s.heap.objs.size) { s with heap:=s.heap.push { cls:=.type "tuple",data:=.seq (vs++ws).toArray } })
  (hsz:vs.length+ws.length<=sizeLine):wpAny (model prog w) A (binaryOp .Add (.ref t) (.ref b)) Q E s:=by
 obtain⟨⟨cls,dd,data,sl⟩,ho,hc,n,hd⟩:=id ht
 obtain⟨⟨kL,jH,data2,jB⟩,fJ,iW,n2,iV⟩:=id hb
 simp only at hc hd iW iV
 subst hc hd iW iV
 have e:vs.toArray++ws.toArray=(vs++ws).toArray:=by simp
 by_cases hw:ws=[]
 ·exact concat_meets ⟨_,ho,rfl⟩ ⟨_,fJ,rfl⟩ noFill_tuple_add seq_tuple_add PySem.F.slot_tuple_add PySem.F.entry_tuple_add (PySem.F.args_tuple_add_2 _ _)
   (tuple_addW1 t b vs.toArray ws.toArray n n2 dd jH sl jB (by simpa using hv) (by simp [hw])) ⟨ho,fJ,h1 hw⟩
 ·refine concat_meets ⟨_,ho,rfl⟩ ⟨_,fJ,rfl⟩ noFill_tuple_add seq_tuple_add PySem.F.slot_tuple_add PySem.F.entry_tuple_add (PySem.F.args_tuple_add_2 _ _)
   (tuple_addW2 t b vs.toArray ws.toArray n n2 dd jH sl jB (by simpa using hv) (by simpa using hw) (by rw [aF,aF];exact hsz)) ⟨ho,fJ,?_⟩
  rw [e]
  exact h2 hw
noncomputable def sIx (n d:Nat):Option Int->Nat
 | none=>d
 | some v=>if v<0 then(v+(n:Int)).toNat else min v.toNat n
theorem sIx_none (n d:Nat):sIx n d none=d:=rfl
theorem sIx_nat (n d k:Nat):sIx n d (some (k:Int))=min k n:=by
 show(if (k:Int)<0 then((k:Int)+(n:Int)).toNat else min (k:Int).toNat n)=min k n
 rw [aC (by omega),bp]
theorem W5s (n d:Nat) (hd:d<=n) (o:Option Int):sIx n d o<=n:=by
 cases o with
 | none=>exact hd
 | some v =>
  show(if v<0 then(v+(n:Int)).toNat else min v.toNat n)<=n
  by_cases hv:v<0
  ·rw [aE hv];omega
  ·rw [aC hv];exact Nat.min_le_right _ _
theorem Z7j (v:Int) (n d:Nat):(if v<0 then max (v+(n:Int)) 0 else min v (n:Int))=((sIx n d (some v):Nat):Int):=by
 show(if v<0 then max (v+(n:Int)) 0 else min v (n:Int))=(((if v<0 then(v+(n:Int)).toNat else min v.toNat n):Nat):Int)
 by_cases hv:v<0
 ·simp only [aE hv];omega
 ·simp only [aC hv];omega
theorem Y5t (lo hi:Option Int) (n:Nat):Builtin.Slice.sliceAdjust lo hi 1 (n:Int)=(((sIx n 0 lo:Nat):Int),((sIx n n hi:Nat):Int)):=by
 have h1:¬ ((1:Int)<0):=by omega
 unfold Builtin.Slice.sliceAdjust
 simp only [h1,dh]
 refine Prod.ext ?_ ?_
 ·cases lo with
  | none=>rfl
  | some v=>exact Z7j v n 0
 ·cases hi with
  | none=>rfl
  | some v=>exact Z7j v n n
theorem W3s (i j:Nat):Builtin.Slice.slicePlaces (i:Int) (j:Int) 1=j-i:=by
 unfold Builtin.Slice.slicePlaces
 have h1:(1:Int) > 0:=by omega
 simp only [h1,if_true,Int.ediv_one]
 split <;> omega
theorem Y3r {v:Value}{o:Option Int}{Q:Option Int->Shared->Prop} (p:IsPart v o) (h:Q o s):wpAny (model prog w) A (Builtin.Slice.slicePartIndex v) Q E s:=by
 cases p with
 | none=>exact slicePart_none h
 | int i t=>exact slicePart_int h
theorem Y3q {sl:Addr}{vl vu:Value}{lo hi:Option Int}{n:Nat}{Q:Int×Int×Nat->Shared->Prop} (hs:s.heap.IsSliceOf sl vl vu .none) (pl:IsPart vl lo) (pu:IsPart vu hi)
  (h:Q (((sIx n 0 lo:Nat):Int),1,sIx n n hi-sIx n 0 lo) s):wpAny (model prog w) A (Builtin.Slice.sliceApplied (.ref sl) (pure (n:Int))) Q E s:=by
 obtain⟨os,fX,gF,fR⟩:=id hs
 unfold Builtin.Slice.sliceApplied Builtin.Slice.sliceFields
 refine a9 (a9 (aV fX fR (x:=vl) rfl (a9 (aV fX fR (x:=vu) rfl (a9 (aV fX fR (x:=.none) rfl (af ?_)))))))
 refine a9 (slicePart_none ?_)
 show wpAny _ _ (if ((1:Int)==0)=true then _ else _) _ _ s
 rw [aC (by decide)]
 refine a9 (Y3r pl (a9 (Y3r pu (a9 (af ?_)))))
 show wpAny _ _ (match Builtin.Slice.sliceAdjust lo hi 1 (n:Int)with | (lo,hi)=>pure (lo,(1:Int),Builtin.Slice.slicePlaces lo hi 1)) _ _ s
 rw [Y5t lo hi n]
 show wpAny _ _ (pure (((sIx n 0 lo:Nat):Int),(1:Int),Builtin.Slice.slicePlaces ((sIx n 0 lo:Nat):Int) ((sIx n n hi:Nat):Int) 1)) _ _ s
 rw [W3s]
 exact af h
theorem W3q (xs:Array Value) (i k:Nat):((List.range k).filterMap fun(m:Nat)=>xs[((i:Int)+(m:Int)*1).toNat]?).toArray=((xs.toList.drop i).take k).toArray:=by
 have e:(fun(m:Nat)=>xs[((i:Int)+(m:Int)*1).toNat]?)=fun m=>xs[i+m]?:=by
  funext m
  have:((i:Int)+(m:Int)*1).toNat=i+m:=by omega
  rw [this]
 rw [e]
 have:=pick_run xs i k
 rw [List.filterMap_map]at this
 have e2:((fun x=>xs[x]?) ∘ fun x=>i+x)=fun m=>xs[i+m]?:=rfl
 rw [e2]at this
 rw [this]
theorem getItem_tuple_cut {t sl:Addr}{items:Array Value}{vl vu:Value}{lo hi:Option Int}{Q:VS9} (ht:IsTup s.heap t items) (hs:s.heap.IsSliceOf sl vl vu .none) (pl:IsPart vl lo) (pu:IsPart vu hi)
  (hw:¬ (sIx items.size 0 lo=0/\sIx items.size items.size hi=items.size))
  (h:Q (.ref s.heap.objs.size) { s with heap:=s.heap.push { cls:=.type "tuple",data:=.seq ((items.toList.drop (sIx items.size 0 lo)).take (sIx items.size items.size hi-sIx items.size 0 lo)).toArray } })
  (hsz:items.size<=sizeLine):wpAny (model prog w) A (getItem (.ref t) (.ref sl)) Q E s:=by
 have fI:sizeOk (.seq ((items.toList.drop (sIx items.size 0 lo)).take (sIx items.size items.size hi-sIx items.size 0 lo)).toArray):=by
  show((items.toList.drop (sIx items.size 0 lo)).take (sIx items.size items.size hi-sIx items.size 0 lo)).toArray.size<=sizeLine
  rw [aF,List.length_take,List.length_drop,bZ]
  omega
 have hj:sIx items.size items.size hi<=items.size:=W5s _ _ (ah _) hi
 obtain⟨os,fX,gF,fR⟩:=id hs
 have mL:s.TypeIs (.ref sl) "slice":=⟨os,fX,gF⟩
 unfold getItem
 try with_reducible refine bu ?_
 first | refine a9 (af ?_) | skip
 refine a9 (wpAny_sequenceKey ht.typeIs (by decide) ?_)
 refine a9 (b9 (name:=Str.ofString "__getitem__") ht.typeIs bU
  (be bU ht.typeIs entry_tuple_getitem ?_ (args_tuple_getitem _ _)))
 show wpAny _ _ (Builtin.Tuple.tupleItemsOf (.ref t)>>=_) _ _ s
 refine a9 (tupleItemsOf_ ht ?_)
 refine a9 (wpAny_typeOf mL ?_)
 rw [aE (by decide)]
 refine a9 (Y3q hs pl pu ?_)
 have jl:¬ ((((sIx items.size 0 lo:Nat):Int)==0&&(1:Int)==1&&(sIx items.size items.size hi-sIx items.size 0 lo)==items.size)=true):=by
  intro q
  rw [cj,cj]at q
  have q1:((sIx items.size 0 lo:Nat):Int)=0:=eq_of_beq q.1.1
  have q2:sIx items.size items.size hi-sIx items.size 0 lo=items.size:=eq_of_beq q.2
  exact hw ⟨by omega,by omega⟩
 show wpAny _ _ (if (((sIx items.size 0 lo:Nat):Int)==0&&(1:Int)==1&&(sIx items.size items.size hi-sIx items.size 0 lo)==items.size)=true then _ else _) _ _ s
 rw [aC jl,W3q]
 first
  | exact a9 (m:=Builtin.Tuple.tupleExact _) (bt (af ⟨_,rfl,af h⟩) fI)
  | exact a9 (m:=Builtin.Tuple.tupleExact _) (bt (a9 (af (af ⟨_,rfl,af h⟩))) fI)
  | exact a9 (a9 (m:=Builtin.Tuple.tupleExact _) (bt (af (af ⟨_,rfl,af h⟩)) fI))
  | exact a9 (a9 (m:=Builtin.Tuple.tupleExact _) (bt (af ⟨_,rfl,af h⟩) fI))
end
end HT
namespace L2
open PySem PySem.Spec PyProof.Rows
noncomputable abbrev TO:=St->Hp->(Option Int->Hp->Prop)->Prop
def PO (X:Cx) (e:Option Expr) (t:TO):Prop :=
 ∀(ac:Pn9) (s:Shared) (σ:St) (H:Hp) (Q:Option Int->Hp->Prop),A0 X ac σ H s->t σ H Q ->
  wpAny (model X.prog X.w) X.A (evalPart e X.env) (fun u s'=>∃o H',A0 X ac σ H' s'/\IsPart u o/\Q o H') X.xe s
noncomputable def W8b:TO:=fun _ H Q=>Q none H
noncomputable def W8d (t:TE):TO:=fun σ H Q=>t σ H fun x H1=>∃i,x=.int i/\Q (some i) H1
section
variable {X:Cx}{e:Expr}{te:TE}{lo hi:Option Expr}{tl th:TO}{pos p2:Pos}
theorem W3t:PO X none W8b:=by
 intro ac s σ H Q I h
 rw [evalPart_none]
 exact af ⟨none,H,I,.none,h⟩
theorem W3u (h:PE X e te):PO X (some e) (W8d te):=by
 intro ac s σ H Q I hw
 rw [evalPart_some]
 refine B3 (h ac s σ H _ I hw) fun u s1 ⟨x,H1,I1,r1,q1⟩=>?_
 obtain⟨i,rfl,q⟩:=q1
 obtain⟨t,rfl⟩:=r1
 exact⟨some i,H1,I1,.int i t,q⟩
def N6 (X:Cx) (r:V->Option Int->Option Int->Hp->VK->Prop):Prop :=
 ∀(ac:Pn9) (s:Shared) (σ:St) (H:Hp) (x:V) (v vl vu:Value) (lo hi:Option Int) (sl:Addr) (Q:VK),A0 X ac σ H s->B8 x v->s.heap.IsSliceOf sl vl vu .none->IsPart vl lo->IsPart vu hi->r x lo hi H Q ->
  ∃T id,typeLookup (.type T) "__getitem__"=pure (some (.builtin id))/\s.TypeIs v T/\wpAny (model X.prog X.w) X.A (getItem v (.ref sl)) (EP X ac σ Q) X.xe s
theorem N6.or {r r':V->Option Int->Option Int->Hp->VK->Prop} (h:N6 X r) (h':N6 X r'):N6 X (fun x lo hi H Q=>r x lo hi H Q\/r' x lo hi H Q):=by
 intro ac s σ H x v vl vu lo hi sl Q I rx hs pl pu q
 rcases q with q | q
 ·exact h ac s σ H x v vl vu lo hi sl Q I rx hs pl pu q
 ·exact h' ac s σ H x v vl vu lo hi sl Q I rx hs pl pu q
def tSl (r:V->Option Int->Option Int->Hp->VK->Prop) (te:TE) (tl th:TO):TE:=fun σ H Q=>te σ H fun x H1=>tl σ H1 fun l H2=>th σ H2 fun u H3=>r x l u H3 Q
theorem W3i {r:V->Option Int->Option Int->Hp->VK->Prop} (hr:N6 X r) (he:PE X e te) (hl:PO X lo tl) (hu:PO X hi th):PE X (.Subscript e (.Slice lo hi none p2) pos) (tSl r te tl th):=by
 intro ac s σ H Q I h
 refine Subscript_ (B3 (he ac s σ H _ I h) fun v s1 ⟨x,H1,I1,r1,q1⟩=>?_)
 refine wpAny_Slice (B3 (hl ac s1 σ H1 _ I1 q1) fun vl s2 ⟨l,H2,I2,pl,q2⟩=>B3 (hu ac s2 σ H2 _ I2 q2) fun vu s3 ⟨u,H3,I3,pu,q3⟩=>?_)
 rw [evalPart_none]
 refine af ?_
 have I4:A0 X ac σ H3 { s3 with heap:=s3.heap.push { cls:=.type "slice",data:=.fields #[vl,vu,.none] } }:=I3.kept (t':=s3.toks) fun b ob q=>aa _ q
 obtain⟨T,id,hT,ht,hg⟩:=hr ac { s3 with heap:=s3.heap.push { cls:=.type "slice",data:=.fields #[vl,vu,.none] } } σ H3 x v vl vu l u s3.heap.objs.size Q I4 r1 (Heap.IsSliceOf.new ..) pl pu q3
 show wpAny (model X.prog X.w) X.A (subscriptTail e (.Slice lo hi none p2) v (.ref s3.heap.objs.size)) (EP X ac σ Q) X.xe { s3 with heap:=s3.heap.push { cls:=.type "slice",data:=.fields #[vl,vu,.none] } }
 exact tail_any (ops:=[.ref s3.heap.objs.size,v]) ht hT hg (by with_unfolding_all rfl)
noncomputable def Z0 (xs:List V) (lo hi:Option Int):List V:=(xs.drop (HT.sIx xs.length 0 lo)).take (HT.sIx xs.length xs.length hi-HT.sIx xs.length 0 lo)
theorem Z7s (xs:List V) (lo hi:Option Int):(Z0 xs lo hi).length<=xs.length:=by
 unfold Z0
 rw [List.length_take,List.length_drop]
 omega
noncomputable def rSlT (K:Fg9):V->Option Int->Option Int->Hp->VK->Prop:=fun x lo hi H Q=>∃a xs,x=.ref a/\C2 K H a xs /\
 ¬ (HT.sIx xs.length 0 lo=0/\HT.sIx xs.length xs.length hi=xs.length)/\∀p,H p=none->Q (.ref p) (upd H p (.tup (Z0 xs lo hi)))
theorem W7i:N6 X (rSlT X.K):=by
 intro ac s σ H x v vl vu lo hi sl Q I rx hs pl pu h
 obtain⟨a,xs,rfl,hx,hw,q⟩:=h
 cases rx
 obtain⟨aU,r,ht,hz⟩:=I.tuple hx
 have bR:aU.toArray.size=xs.length:=by rw [aF];exact r.length.symm
 refine⟨"tuple",_,bU.lookup,ht.typeIs,?_⟩
 refine HT.getItem_tuple_cut ht hs pl pu (by rw [bR];exact hw) ?_ (by rw [bR];exact hz)
 rw [bR]
 refine⟨.ref s.heap.objs.size,_,I.laid (t':=s.toks) (o:=.tup (Z0 xs lo hi)) (fun b ob q=>aa _ q) (ah _) ?_,rfl,q _ (I.hok.fresh (ah _))⟩
 exact⟨aT (Z7s xs lo hi) hz,_,(r.drop (HT.sIx xs.length 0 lo)).take (HT.sIx xs.length xs.length hi-HT.sIx xs.length 0 lo),IsTup.new _ _⟩
def W4n (K:Fg9):R2:=fun x y H Q=>∃a b xs ys,x=.ref a/\y=.ref b/\C2 K H a xs/\C2 K H b ys/\xs≠[]/\xs.length+ys.length<=sizeLine /\
 (ys=[]->Q (.ref a) H)/\(ys≠[]->∀p,H p=none->Q (.ref p) (upd H p (.tup (xs++ys))))
theorem C0.nil_iff {xs:List V}{us:List Value} (r:C0 xs us):us=[] ↔ xs=[]:=by
 cases r with
 | nil=>simp
 | cons _ _=>simp
theorem W2a:N5 X (binaryOp .Add) (W4n X.K):=by
 intro ac s σ H x y v u Q I rx ry h
 obtain⟨a,b,xs,ys,rfl,rfl,ha,hb,hx,hz,q1,q2⟩:=h
 cases rx
 cases ry
 obtain⟨aU,r1,p1,_⟩:=I.tuple ha
 obtain⟨c8,r2,p2,_⟩:=I.tuple hb
 refine HT.cat_tup p1 p2 (fun z=>hx (r1.nil_iff.mp z)) (fun z=>⟨.ref a,H,I,rfl,q1 (r2.nil_iff.mp z)⟩) (fun z=>?_) (by rw [<- r1.length,<- r2.length];exact hz)
 refine⟨.ref s.heap.objs.size,_,I.laid (t':=s.toks) (o:=.tup (xs++ys)) (fun b ob q=>aa _ q) (ah _) ?_,rfl,q2 (fun w=>z (r2.nil_iff.mpr w)) _ (I.hok.fresh (ah _))⟩
 exact⟨by rw [ay];exact hz,_,r1.append r2,IsTup.new _ _⟩
end
end L2
namespace L2
open PySem PySem.Spec PyProof.Rows
noncomputable def ixN (n:Nat) (i:Int):Option Nat:=if 0<=i then(if i<n then some i.toNat else none)else if -(n:Int)<=i then some (i+n).toNat else none
noncomputable def L3 {α:Type} (xs:List α) (i:Int):Option α:=(ixN xs.length i).bind fun j=>xs[j]?
theorem Z9a {n:Nat}{i:Int}{j:Nat} (h:ixN n i=some j):seqIndex? i n=some j/\j<n/\-(n:Int)<=i/\i<n:=by
 unfold ixN at h
 by_cases h0:0<=i
 ·rw [aE h0]at h
  by_cases h1:i<n
  ·rw [aE h1]at h
   have e:i.toNat=j:=aB h
   exact⟨by rw [seqIndex_of h0 h1,e],by omega,by omega,h1⟩
  ·rw [aC h1]at h;cases h
 ·rw [aC h0]at h
  by_cases h1:-(n:Int)<=i
  ·rw [aE h1]at h
   have e:(i+n).toNat=j:=aB h
   exact⟨by rw [seqIndex_neg (by omega) h1,e],by omega,h1,by omega⟩
  ·rw [aC h1]at h;cases h
theorem Z0r {α:Type}{xs:List α}{i:Int}{v:α} (h:L3 xs i=some v):∃j,seqIndex? i xs.length=some j/\xs[j]?=some v/\j<xs.length/\-(xs.length:Int)<=i/\i<xs.length:=by
 unfold L3 at h
 cases e:ixN xs.length i with
 | none=>rw [e]at h;cases h
 | some j =>
  rw [e]at h
  obtain⟨h1,h2,h3,h4⟩:=Z9a e
  exact⟨j,h1,h,h2,h3,h4⟩
theorem Y7 {α:Type}{xs:List α}{j:Nat}{v:α} (h:xs[j]?=some v):L3 xs (j:Int)=some v:=by
 have hj:j<xs.length:=(aI.mp h).1
 have e:ixN xs.length (j:Int)=some j:=by
  unfold ixN
  rw [aE (by omega),aE (by omega)];simp
 unfold L3;rw [e];exact h
def Z0l (b:Expr):Prop:=∀o i,subscripted b false o i=operate [o,i] (getItem o i)
def IxR (X:Cx) (r:R2):Prop :=
 ∀(value slice:Expr) (ac:Pn9) (s:Shared) (σ:St) (H:Hp) (x y:V) (v u:Value) (Q:VK),A0 X ac σ H s->B8 x v->B8 y u->r x y H Q ->
  subscripted slice false v u=operate [v,u] (getItem v u)->wpAny (model X.prog X.w) X.A (subscriptTail value slice v u) (EP X ac σ Q) X.xe s
def MtR (X:Cx) (id:String) (r:V->List V->Hp->VK->Prop):Prop :=
 ∀(ac:Pn9) (s:Shared) (σ:St) (H:Hp) (x:V) (xs:List V) (v:Value) (us:List Value) (Q:VK),A0 X ac σ H s->B8 x v->C0 xs us->r x xs H Q ->
  wpAny (model X.prog X.w) X.A (call (.builtin id) (v::us)) (EP X ac σ Q) X.xe s
section
variable {X:Cx}{a b:Expr}{ta tb:TE}{pos:Pos}
theorem IxR.or {r r':R2} (h:IxR X r) (h':IxR X r'):IxR X (fun x y H Q=>r x y H Q\/r' x y H Q):=by
 intro value slice ac s σ H x y v u Q I rx ry q hs
 rcases q with q | q
 ·exact h value slice ac s σ H x y v u Q I rx ry q hs
 ·exact h' value slice ac s σ H x y v u Q I rx ry q hs
theorem Y1e {r:R2} (hr:IxR X r) (ha:PE X a ta) (hb:PE X b tb) (hs:Z0l b):PE X (.Subscript a b pos) (tOp r ta tb):=by
 intro ac s σ H Q I h
 exact Subscript_ (Z0s ha hb I h fun v u s2 x y H2 I2 rx ry q=>hr a b ac s2 σ H2 x y v u Q I2 rx ry q (hs _ _))
def rIxL (K:Fg9):R2:=fun x y H Q=>∃p xs i v,x=.ref p/\y=.int i/\C6 K H p xs/\L3 xs i=some v/\Q v H
def rIxT (K:Fg9):R2:=fun x y H Q=>∃p xs i v,x=.ref p/\y=.int i/\C2 K H p xs/\L3 xs i=some v/\Q v H
def rIxS:R2:=fun x y H Q=>∃z i c,x=.str z/\y=.int i/\z.length<=sizeLine/\L3 z.cps.toList i=some c/\Q (.str ⟨#[c]⟩) H
theorem Z9b:IxR X (rIxL X.K):=by
 intro value slice ac s σ H x y v u Q I rx ry h hs
 obtain⟨p,xs,i,z,rfl,rfl,hq,he,q⟩:=h
 cases rx
 obtain⟨t,rfl⟩:=ry
 obtain⟨aU,r,pl,hz⟩:=I.list hq
 obtain⟨j,h1,h2,h3,h4,h5⟩:=Z0r he
 obtain⟨w,ew,gq⟩:=r.get h2
 have hl:=r.length
 have hn:=Q5u
 have fin:EP X ac σ Q w s:=⟨z,H,I,gq,q⟩
 by_cases h0:0<=i
 ·have hj:i.toNat=j:=by
   rw [seqIndex_of h0 h5]at h1
   exact aB h1
  exact item_listR pl.isList h0 (by omega) (by rw [hj];simpa using ew) fin hs
 ·have hj:(i+(aU.toArray.size:Int)).toNat=j:=by
   rw [seqIndex_neg (by omega) h4]at h1
   rw [aF,<- hl]
   exact aB h1
  exact subscriptTail_builtinR (x:=w) pl.isList.typeIs slot_list_getitem.lookup
   (wpAny_getItem_list_neg (Q:=fun r s'=>r=w/\EP X ac σ Q r s') pl.isList (by omega) (by rw [aF] <;> omega) (by omega) (by rw [hj];simpa using ew) ⟨rfl,fin⟩) hs
theorem Y8w:IxR X (rIxT X.K):=by
 intro value slice ac s σ H x y v u Q I rx ry h hs
 obtain⟨p,xs,i,z,rfl,rfl,hq,he,q⟩:=h
 cases rx
 obtain⟨t,rfl⟩:=ry
 obtain⟨aU,r,pl,hz⟩:=I.tuple hq
 obtain⟨j,h1,h2,h3,h4,h5⟩:=Z0r he
 obtain⟨w,ew,gq⟩:=r.get h2
 have hl:=r.length
 have hn:=Q5u
 have fin:EP X ac σ Q w s:=⟨z,H,I,gq,q⟩
 exact subscriptTail_builtinR (x:=w) pl.typeIs slot_tuple_getitem.lookup
  (getItem_tuple (j:=j) (Q:=fun r s'=>r=w/\EP X ac σ Q r s') pl (by omega) (by omega) (by rw [aF,<- hl];exact h1) (by simpa using ew) ⟨rfl,fin⟩) hs
theorem Y8v:IxR X rIxS:=by
 intro value slice ac s σ H x y v u Q I rx ry h hs
 obtain⟨z,i,c,rfl,rfl,hz,he,q⟩:=h
 obtain⟨t,rfl⟩:=rx
 obtain⟨t',rfl⟩:=ry
 obtain⟨j,h1,h2,h3,h4,h5⟩:=Z0r he
 have hl:z.cps.toList.length=z.length:=by simp [Str.length]
 rw [hl]at h1 h4 h5
 have hn:=Q5u
 exact tail_any (typeIs_str s z t) slot_str_getitem.lookup (getItem_str (c:=c) (by
  have e1:decide (i < -(2 ^ 63:Int))=false:=aM (by omega)
  have e2:decide (i ≥ 2 ^ 63)=false:=aM (by omega)
  rw [e1,e2,Bool.or_false]) (by rw [h1];simpa using h2) ⟨.str ⟨#[c]⟩,H,I.tok _,⟨_,rfl⟩,q⟩) hs
def rIx (K:Fg9):R2:=fun x y H Q=>rIxL K x y H Q\/rIxT K x y H Q\/rIxS x y H Q
theorem Y8u:IxR X (rIx X.K):=Z9b.or (Y8w.or Y8v)
theorem W7l (lo hi:Option Int) (n:Nat):(sliceBounds lo hi none n).1=((HT.sIx n 0 lo:Nat):Int)/\(sliceBounds lo hi none n).2.1=((HT.sIx n n hi:Nat):Int)/\(sliceBounds lo hi none n).2.2=1:=by
 refine⟨?_,?_,rfl⟩
 ·cases lo with
  | none=>simp [sliceBounds,HT.sIx]
  | some i =>
   simp only [sliceBounds,HT.sIx,Option.getD_none,show(1:Int) > 0 by decide,if_true]
   by_cases h:i<0
   ·simp only [h,if_true] <;> omega
   ·simp only [h,dh] <;> omega
 ·cases hi with
  | none=>simp [sliceBounds,HT.sIx]
  | some i =>
   simp only [sliceBounds,HT.sIx,Option.getD_none,show(1:Int) > 0 by decide,if_true]
   by_cases h:i<0
   ·simp only [h,if_true] <;> omega
   ·simp only [h,dh] <;> omega
theorem W7k (aU:List Value) (lo hi:Option Int):slicePick aU.toArray lo hi none=((aU.drop (HT.sIx aU.length 0 lo)).take (HT.sIx aU.length aU.length hi-HT.sIx aU.length 0 lo)).toArray:=by
 obtain⟨h1,h2,h3⟩:=W7l lo hi aU.toArray.size
 unfold slicePick
 rw [h1,h2,h3]
 simp only [sliceRange_one,pick_run,aF] <;> rfl
noncomputable def rSlL (K:Fg9):V->Option Int->Option Int->Hp->VK->Prop:=fun x lo hi H Q=>∃a xs,x=.ref a/\C6 K H a xs/\∀p,H p=none->Q (.ref p) (upd H p (.lst (Z0 xs lo hi)))
theorem W7g:N6 X (rSlL X.K):=by
 intro ac s σ H x v vl vu lo hi sl Q I rx hs pl pu h
 obtain⟨a,xs,rfl,hx,q⟩:=h
 cases rx
 obtain⟨aU,r,ht,hz⟩:=I.list hx
 have bR:=r.length
 refine⟨"list",_,slot_list_getitem.lookup,ht.isList.typeIs,?_⟩
 refine wpAny_getItem_list_slice ht.isList hs pl pu .none (by simp) ?_ (by rw [aF] <;> omega)
 rw [W7k,<- bR]
 refine⟨.ref s.heap.objs.size,_,I.laid (t':=s.toks) (o:=.lst (Z0 xs lo hi)) (fun b ob q=>aa _ q) (ah _) ?_,rfl,q _ (I.hok.fresh (ah _))⟩
 exact⟨aT (Z7s xs lo hi) hz,_,0,(r.drop (HT.sIx xs.length 0 lo)).take (HT.sIx xs.length xs.length hi-HT.sIx xs.length 0 lo),aw _ rfl⟩
theorem Y6n:Q0s X (.type "list") (fun xs H Q=>∃p ys,xs=[.ref p]/\(C6 X.K H p ys\/C2 X.K H p ys)/\∀l,H l=none->Q (.ref l) (upd H l (.lst ys))):=by
 intro ac s σ H xs us Q I r h
 obtain⟨p,ys,rfl,hq,q⟩:=h
 obtain⟨u,rfl,rx⟩:=R1 r
 cases rx
 have fin:∀(aU:List Value),C0 ys aU->ys.length<=sizeLine->∀(h':Heap) (c':Nat),(∀b o',s.heap.get? b=some o'->h'.get? b=some o') ->
   h'.get? s.heap.objs.size=some { cls:=.type "list",dict:=none,data:=.seq aU.toArray c',slots:=#[] }->EP X ac σ Q (.ref s.heap.objs.size) { s with heap:=h' }:=fun aU r' hz h' c' kp e =>
  ⟨.ref s.heap.objs.size,_,I.laid (t':=s.toks) kp (ah _) (show F1 X.prog X.w _ h' _ (.lst ys)from⟨hz,aU,c',r',e⟩),rfl,q _ (I.hok.fresh (ah _))⟩
 rcases hq with hq | hq
 ·obtain⟨aU,r',pl,hz⟩:=I.list hq
  have bR:=r'.length
  obtain⟨o,ho,hc,n,hd⟩:=pl.isList
  exact call_list_seq p (.inl rfl) ho hc hd (fun h' c' kp e=>fin aU r' hz h' c' kp e) (by simp only [aF] <;> omega)
 ·obtain⟨aU,r',pl,hz⟩:=I.tuple hq
  have bR:=r'.length
  obtain⟨o,ho,hc,n,hd⟩:=pl
  exact call_list_seq p (.inr rfl) ho hc hd (fun h' c' kp e=>fin aU r' hz h' c' kp e) (by simp only [aF] <;> omega)
theorem Y6r:Q0s X (.type "tuple") (fun xs H Q=>∃p ys,xs=[.ref p]/\((C6 X.K H p ys/\∀l,H l=none->Q (.ref l) (upd H l (.tup ys)))\/(C2 X.K H p ys/\Q (.ref p) H))):=by
 intro ac s σ H xs us Q I r h
 obtain⟨p,ys,rfl,h⟩:=h
 obtain⟨u,rfl,rx⟩:=R1 r
 cases rx
 rcases h with⟨hq,q⟩ | ⟨hq,q⟩
 ·obtain⟨aU,r',pl,hz⟩:=I.list hq
  have bR:=r'.length
  refine call_tuple_list pl.isList (fun h' kp=>?_) (by simp only [aF] <;> omega)
  have I1:A0 X ac σ H { s with heap:=h' }:=I.kept (t':=s.toks) kp
  have I2:A0 X ac σ (upd H h'.objs.size (.tup ys)) { s with heap:=h'.push { cls:=.type "tuple",data:=.seq aU.toArray } } :=
   I1.laid (t':=s.toks) (fun b o e=>aa _ e) (ah _) (show F1 X.prog X.w _ _ _ (.tup ys)from⟨hz,aU,r',IsTup.new _ _⟩)
  exact⟨.ref h'.objs.size,_,I2,rfl,q _ (I1.hok.fresh (ah _))⟩
 ·obtain⟨aU,r',pl,hz⟩:=I.tuple hq
  exact call_tuple_same pl ⟨.ref p,H,I,rfl,q⟩
def tyV (K:Fg9) (T:String) (x:V) (H:Hp):Prop:=match x with
 | .str _=>T="str"
 | .int _=>T="int"
 | .ref p=>(T="list"/\∃xs,C6 K H p xs)\/(T="tuple"/\∃o,K.lookup p=some o/\o.cls=.type "tuple"/\o.dict=none) \/
   (T="dict"/\((∃kvs,H p=some (.dK kvs))\/∃kvs,H p=some (.dT kvs)))\/(T="set"/\∃S n,H p=some (.set S n))
 | _=>False
theorem W8u {ac:Pn9} {σ:St}{H:Hp}{s:Shared}{T:String}{x:V}{v:Value} (I:A0 X ac σ H s) (r:B8 x v) (ty:tyV X.K T x H) :
  s.TypeIs v T/\∀a,v=.ref a->∃ob,s.heap.get? a=some ob/\ob.dict=none:=by
 cases x with
 | str z =>
  obtain⟨t,rfl⟩:=r
  cases (show T="str" from ty)
  exact⟨typeIs_str s z t,fun _ e=>nomatch e⟩
 | int i =>
  obtain⟨t,rfl⟩:=r
  cases (show T="int" from ty)
  exact⟨typeIs_int s i t,fun _ e=>nomatch e⟩
 | ref p =>
  cases r
  rcases ty with⟨rfl,xs,hq⟩ | ⟨rfl,o,hk,hc,hd⟩ | ⟨rfl,hk⟩ | ⟨rfl,S,n,hk⟩
  ·obtain⟨aU,_,pl,_⟩:=I.list hq
   refine⟨pl.isList.typeIs,fun a e=>?_⟩
   cases e
   obtain⟨o,n,e,c,hd,_⟩:=pl
   exact⟨o,e,hd⟩
  ·refine⟨⟨o,I.kIn p o hk,hc⟩,fun a e=>?_⟩
   cases e
   exact⟨o,I.kIn _ o hk,hd⟩
  ·have z:∃o,s.heap.get? p=some o/\o.ExactDict:=by
    rcases hk with⟨kvs,hk⟩ | ⟨kvs,hk⟩
    ·obtain⟨_,_,_,_,o,_,_,e,ex,_⟩:=I.hok p _ hk
     exact⟨o,e,ex⟩
    ·obtain⟨_,_,_,_,o,_,_,e,ex,_⟩:=I.hok p _ hk
     exact⟨o,e,ex⟩
   obtain⟨o,e,ex⟩:=z
   refine⟨⟨o,e,ex.1⟩,fun a e2=>?_⟩
   cases e2
   exact⟨o,e,ex.2.1⟩
  ·obtain⟨o,_,_,_,e,ex,_⟩:=I.hok p _ hk
   refine⟨⟨o,e,ex.1⟩,fun a e2=>?_⟩
   cases e2
   exact⟨o,e,ex.2.1⟩
 | _=>exact False.elim ty
def tBM (K:Fg9) (T:String) (r:V->List V->Hp->VK->Prop) (to:TE) (t:TA):TE:=fun σ H Q=>to σ H fun x H1=>tyV K T x H1/\t σ H1 fun xs H2=>r x xs H2 Q
variable {o e:Expr}{es:List Expr}{to:TE}{t:TA}{name:Str}{apos bq:Pos}{T id:String}{r:V->List V->Hp->VK->Prop}
theorem Z2z (pa:PlainAttrs T) (slot:Slot T name id) (gR:typeOf (.builtin id)=pure (.type "method_descriptor")) (hm:MtR X id r) (ho:PE X o to) (ha:PA X (e::es) t)
  (dM:attributeBase o name X.env (eval o X.env)=eval o X.env:=by rfl)
  (fB:((backTo bq (starEach (e::es) X.env)).all (fun x=>!x.1)&&(backToKw bq (keywordEach [] X.env)).all (fun x=>x.1.isSome)
  &&decide ((e::es).length+([]:List Keyword).length+(if ([]:List Keyword).isEmpty then 0 else 1)<30))=true:=by rfl)
  (dL:(apos.endLine==bq.line)=true:=by rfl) (hs:starEach (e::es) X.env=(false,eval e X.env)::starEach es X.env:=by rfl) (db:(backTo bq (starEach es X.env)).any (·.1)=false:=by rfl) :
  PE X (.Call (.Attribute o name apos) (e::es) [] bq) (tBM X.K T r to t):=by
 intro ac s σ H Q I h
 refine wpAny_Call_method_late dM fB dL rfl (B3 (ho ac s σ H _ I h) fun v s1 ⟨x,H1,I1,r1,ty,q1⟩=>?_)
 obtain⟨h1,h2⟩:=W8u I1 r1 ty
 refine⟨T,id,pa,slot,gR,h1,h2,?_⟩
 have hA:=ha bq ac s1 σ H1 _ I1 q1
 rw [hs]at hA ⊢
 refine eY (by show(false||(backTo bq (starEach es X.env)).any (·.1))=false;rw [db] <;> rfl) (dj ?_)
 exact B3 hA fun us s2 ⟨vs,H2,I2,r2,q2⟩=>hm ac s2 σ H2 x vs v us Q I2 r1 r2 q2
end
end L2
namespace L2
open PySem PySem.Spec PyProof.Rows
def MtM (X:Cx) (id:String) (r:V->List V->Hp->VK->Prop):Prop :=
 ∀(ac:Pn9) (s:Shared) (σ:St) (H:Hp) (x:V) (xs:List V) (v:Value) (us:List Value) (Q:VK),A0 X ac σ H s->B8 x v->C0 xs us->r x xs H Q ->
  wpAny (model X.prog X.w) X.A (call (.builtin id) (v::us)) (EP X ac σ Q) X.xe s
theorem C0.one:∀{x:V}{us:List Value},C0 [x] us->∃u,us=[u]/\B8 x u
 | _,_,.cons r .nil=>⟨_,rfl,r⟩
theorem C0.rep {xs:List V}{us:List Value} (h:C0 xs us):∀k:Nat,C0 (List.replicate k xs).flatten (List.replicate k us).flatten
 | 0=>.nil
 | k+1=>by
  rw [ci,ci,di,di]
  exact C0.append h (C0.rep h k)
theorem Z8h (aU:List Value):∀(k:Nat) (cf:List Value),
  List.foldl (fun x1 x2=>x1++x2) cf.toArray (List.replicate k aU.toArray)=(cf++(List.replicate k aU).flatten).toArray
 | 0,cf=>by simp
 | k+1,cf=>by
  have e:cf.toArray++aU.toArray=(cf++aU).toArray:=by simp
  have e2:(cf++aU)++(List.replicate k aU).flatten=cf++(List.replicate (k+1) aU).flatten:=by
   rw [ci,di,bz]
  rw [<- e2,<- Z8h aU k (cf++aU),<- e,ci,List.foldl_cons]
section
variable {X:Cx}{ac:Pn9} {σ:St}{H:Hp}{s:Shared}{l b:Addr}{xs ys zs:List V}
theorem A0.lset {aU its':List Value}{n:Nat}{f:Array Value->Array Value}{t':Nat} (I:A0 X ac σ H s) (hH:H l=some (.lst xs))
  (e:s.heap.get? l=some { cls:=.type "list",data:=.seq aU.toArray n }) (hf:f aU.toArray=its'.toArray) (hv:C0 ys its') (hz:ys.length<=sizeLine) :
  A0 X ac σ (upd H l (.lst ys)) { s with heap:=s.heap.update l (Obj.mapSeq f),toks:=t' }:=by
 have q:=PySem.IsL.update e f
 rw [hf]at q
 refine I.write (x:=l) (e:=l) (by rw [hH];exact trivial) (.inl rfl) (fun b' u hb hu=>(eV s.heap (Obj.mapSeq f) (bD hb)).trans hu) ⟨_,q⟩ ?_
 exact⟨hz,its',_,hv,q⟩
theorem A0.lnew {aU:List Value}{t':Nat} (I:A0 X ac σ H s) (hv:C0 ys aU) (hz:ys.length<=sizeLine) :
  A0 X ac σ (upd H s.heap.objs.size (.lst ys)) { s with heap:=s.heap.push { cls:=.type "list",data:=.seq aU.toArray },toks:=t' } :=
 I.laid (fun _ _ q=>aa _ q) (ah _) ⟨hz,aU,0,hv,aw _ rfl⟩
theorem A0.fresh (I:A0 X ac σ H s):H s.heap.objs.size=none:=I.hok.fresh (ah _)
theorem A0.lstM (I:A0 X ac σ H s) (hH:H l=some (.lst xs)):xs.length<=sizeLine/\∃(aU:List Value) (n:Nat),C0 xs aU/\xs.length=aU.length/\s.heap.get? l=some { cls:=.type "list",data:=.seq aU.toArray n }:=by
 obtain⟨z,aU,n,r,e⟩:=I.hok l _ hH
 exact⟨z,aU,n,r,r.length,e⟩
theorem W1d {n:Nat} (h:n<=sizeLine):Builtin.List.listTooLong n=false:=by
 unfold Builtin.List.listTooLong
 exact aM (by omega)
end
section
variable {X:Cx}
noncomputable def W4m:V->List V->Hp->VK->Prop:=fun x vs H Q=>∃l xs y,x=.ref l/\vs=[y]/\H l=some (.lst xs)/\xs.length<sizeLine/\Q .non (upd H l (.lst (xs++[y])))
theorem W0w:MtM X "list.append" W4m:=by
 intro ac s σ H x vs v us Q I rx rv h
 obtain⟨l,xs,y,rfl,rfl,hH,hz,q⟩:=h
 cases rx
 obtain⟨u,rfl,ru⟩:=rv.one
 obtain⟨z,aU,n,r,hl,e⟩:=I.lstM hH
 refine call_meets F.slot_list_append ⟨_,e,rfl⟩ F.entry_list_append (F.args_list_append_2 _ _) (PySem.list_append l aU.toArray n u (by rw [aF];omega)) ⟨e,?_⟩
 refine⟨.non,_,I.lset (its':=aU++[u]) hH e (by simp) (r.append (.cons ru .nil)) ?_,rfl,q⟩
 rw [ay,bJ]
 omega
def rCat:R2:=fun x y H Q=>∃l b xs zs,x=.ref l/\y=.ref b/\H l=some (.lst xs)/\H b=some (.lst zs)/\xs.length+zs.length<=sizeLine/\∀p,H p=none->Q (.ref p) (upd H p (.lst (xs++zs)))
theorem W1z:N5 X (binaryOp .Add) rCat:=by
 intro ac s σ H x y v u Q I rx ry h
 obtain⟨l,b,xs,zs,rfl,rfl,hH,hB,hz,q⟩:=h
 cases rx
 cases ry
 obtain⟨z,aU,n,r,hl,e⟩:=I.lstM hH
 obtain⟨z2,c8,n2,r2,cX,e2⟩:=I.lstM hB
 refine PySem.P.add_list e e2 ?_ (by rw [aF,aF];omega)
 have ea:aU.toArray++c8.toArray=(aU++c8).toArray:=by simp
 rw [ea]
 exact⟨.ref _,_,I.lnew (t':=s.toks) (r.append r2) (by rw [ay];omega),rfl,q _ I.fresh⟩
def rRep:R2:=fun x y H Q=>∃l k xs,x=.ref l/\y=.int k/\H l=some (.lst xs)/\-(2 ^ 63)<=k/\k<2 ^ 63/\xs.length*k.toNat<=sizeLine /\
 ∀p,H p=none->Q (.ref p) (upd H p (.lst (List.replicate k.toNat xs).flatten))
theorem Y9q {α:Type} (xs:List α) (k:Nat):(List.replicate k xs).flatten.length=k*xs.length:=by
 induction k with
 | zero=>simp
 | succ k ih=>rw [ci,di,ay,ih,Nat.succ_mul,Nat.add_comm]
theorem W2h:N5 X (binaryOp .Mult) rRep:=by
 intro ac s σ H x y v u Q I rx ry h
 obtain⟨l,k,xs,rfl,rfl,hH,h1,h2,hz,q⟩:=h
 cases rx
 obtain⟨t,rfl⟩:=ry
 obtain⟨z,aU,n,r,hl,e⟩:=I.lstM hH
 have bR:aU.toArray.size*k.toNat<=sizeLine:=by rw [aF,<- hl];exact hz
 have mI:¬ aU.toArray.size*k.toNat > (2 ^ 63-1) / 8:=by
  have:(sizeLine:Nat)<=(2 ^ 63-1) / 8:=by decide
  omega
 have mB:¬ (!Builtin.List.listFitsIndex k)=true:=by
  rw [fitsIndex_both h1 h2]
  exact bA
 have kt:¬ Builtin.List.listTooLong (aU.toArray.size*k.toNat)=true:=by
  rw [W1d bR]
  exact bA
 have ig:List.foldl (fun x1 x2=>x1++x2) #[] (List.replicate (if aU.toArray.isEmpty=true then 0 else k.toNat) aU.toArray)=(List.replicate k.toNat aU).flatten.toArray:=by
  have f0:∀m:Nat,List.foldl (fun x1 x2=>x1++x2) #[] (List.replicate m aU.toArray)=(List.replicate m aU).flatten.toArray:=fun m=>by
   have:=Z8h aU m []
   rw [bM]at this
   exact this
  rw [f0]
  cases aU with
  | nil=>simp
  | cons a r'=>rw [aC (by simp)]
 refine wpAny_binaryOp_repeat_ref (T:="list") (U:="int") (by decide) ⟨_,e,rfl⟩ (fun s'=>typeIs_int s' k t) noFill_list_mul F.fills_int_mul F.slot_int_rmul repeat_list F.slot_int_index.lookup
  (call_meets F.slot_int_rmul (typeIs_int s k t) F.entry_int_rmul (F.args_int_rmul_2 _ _) (int___rmul___int_list k t l aU.toArray n)
   ⟨e,rfl,⟨_,e,rfl⟩,call_meets F.slot_list_mul ⟨_,e,rfl⟩ F.entry_list_mul (F.args_list_mul_2 _ _) (AutoListH.list___mul___list_int_3 l aU.toArray n k t mB mI kt) ⟨e,?_⟩⟩)
 rw [ig]
 exact⟨.ref _,_,I.lnew (t':=s.toks) (r.rep k.toNat) (by rw [Y9q,Nat.mul_comm];exact hz),rfl,q _ I.fresh⟩
end
section
variable {prog:Program}{w:World}{A:Around}{E:VS9}{s:Shared}
end
section
variable {X:Cx}
end
end L2
namespace L2
open PySem PySem.Spec PyProof.Rows
section
variable {κ:Type} [DecidableEq κ]
noncomputable def S4 (kvs:List (κ×V)) (k:κ):Option V:=(kvs.find? fun kv=>decide (kv.1=k)).map (·.2)
noncomputable def O0 (kvs:List (κ×V)) (k:κ) (v:V):List (κ×V) :=
 if (kvs.any fun kv=>decide (kv.1=k))=true then kvs.map (fun kv=>if kv.1=k then(kv.1,v)else kv)else kvs++[(k,v)]
theorem Q9e {p:κ×V}{r:List (κ×V)}{k:κ} (e:p.1=k):S4 (p::r) k=some p.2:=by simp [S4,b8,e]
theorem Q9d {p:κ×V}{r:List (κ×V)}{k:κ} (e:¬ p.1=k):S4 (p::r) k=S4 r k:=by simp [S4,b8,e]
theorem Y4m (k:κ):∀kvs:List (κ×V),(kvs.any fun kv=>decide (kv.1=k))=(S4 kvs k).isSome
 | []=>rfl
 | p::r=>by
  rw [cM]
  by_cases e:p.1=k
  ·simp only [Q9e e,cu e,Bool.true_or,Option.isSome_some]
  ·rw [Q9d e,aM e,Bool.false_or];exact Y4m k r
theorem Q5s (kvs:List (κ×V)) (k:κ) (v:V):(O0 kvs k v).length<=kvs.length+1:=by
 unfold O0
 split
 ·rw [ag];omega
 ·rw [ay,aA,cg];omega
theorem W9.isSome_eq {o:Option V}{u:Option Value} (r:W9 o u):o.isSome=u.isSome:=by
 cases o with
 | none=>cases u with
  | none=>rfl
  | some _=>exact(show False from r).elim
 | some _=>cases u with
  | none=>exact(show False from r).elim
  | some _=>rfl
theorem W9.getD {o:Option V}{u:Option Value}{d:V}{d':Value} (r:W9 o u) (rd:B8 d d'):B8 (o.getD d) (u.getD d'):=by
 cases o with
 | none=>cases u with
  | none=>exact rd
  | some _=>exact(show False from r).elim
 | some _=>cases u with
  | none=>exact(show False from r).elim
  | some _=>exact r
theorem KV.val {kvs:List (κ×V)}{vs:List (κ×Value)} (r:KV kvs vs) (k:κ):W9 (S4 kvs k) (valueAt vs k):=by
 unfold KV at r
 induction r with
 | nil=>exact True.intro
 | @cons p q ps qs h t ih =>
  obtain⟨h1,h2⟩:=h
  by_cases e:p.1=k
  ·have e':q.1=k:=h1.symm.trans e
   have b:valueAt (q::qs) k=some q.2:=by simp [valueAt,b8,e']
   rw [Q9e e,b];exact h2
  ·have e':¬ q.1=k:=fun z=>e (h1.trans z)
   have b:valueAt (q::qs) k=valueAt qs k:=by simp [valueAt,b8,e']
   rw [Q9d e,b];exact ih
theorem KV.any {kvs:List (κ×V)}{vs:List (κ×Value)} (r:KV kvs vs) (k:κ):(kvs.any fun kv=>decide (kv.1=k))=vs.any fun kv=>decide (kv.1=k):=by
 unfold KV at r
 induction r with
 | nil=>rfl
 | cons h t ih=>rw [cM,cM,ih,h.1]
theorem KV.repl {kvs:List (κ×V)}{vs:List (κ×Value)} (r:KV kvs vs) (k:κ) {y:V}{u:Value} (ry:B8 y u) :
  KV (kvs.map fun kv=>if kv.1=k then(kv.1,y)else kv) (vs.map fun kv=>if kv.1=k then(kv.1,u)else kv):=by
 unfold KV at r ⊢
 induction r with
 | nil=>exact .nil
 | @cons p q ps qs h t ih =>
  rw [ak,ak]
  refine .cons ?_ ih
  obtain⟨h1,h2⟩:=h
  by_cases e:p.1=k
  ·rw [aE e,aE (h1.symm.trans e)];exact⟨h1,ry⟩
  ·rw [aC e,aC (fun z=>e (h1.trans z))];exact⟨h1,h2⟩
theorem KV.put {kvs:List (κ×V)}{vs:List (κ×Value)} (r:KV kvs vs) (k:κ) {y:V}{u:Value} (ry:B8 y u):KV (O0 kvs k y) (stored vs k u):=by
 unfold O0 stored
 rw [r.any k]
 by_cases e:(vs.any fun kv=>decide (kv.1=k))=true
 ·rw [aE e,aE e];exact r.repl k ry
 ·rw [aC e,aC e];exact Paired.snoc r ⟨rfl,ry⟩
theorem KV.length {kvs:List (κ×V)}{vs:List (κ×Value)} (r:KV kvs vs):kvs.length=vs.length:=Paired.length r
end
theorem Q1p {P:Program}{w:World}{k:A7}{u:Value} (r:B8 (kV k) u):(K4 P w).is k u=true:=by
 cases k with
 | inl i=>obtain⟨t,e⟩:=(show ∃t,u=Value.int i t from r);subst e;exact W0p P w i t
 | inr x=>obtain⟨t,e⟩:=(show ∃t,u=Value.str x t from r);subst e;exact W0q P w x t
theorem Z8z {P:Program}{w:World}:∀{ks:List A7}{us:List Value},C0 (ks.map kV) us->ItemsAre (K4 P w) ks us
 | [],_,r=>by rw [List.map_nil]at r;cases r;exact .nil
 | k::ks,_,r=>by
  rw [ak]at r
  cases r with
  | cons h t=>exact .cons (Q1p h) (Z8z t)
noncomputable abbrev KT (H:Hp):List (List A7×V)->List (List A7×Addr×Value)->Prop:=Paired fun p q=>p.1=q.1/\H q.2.1=some (.tup (p.1.map kV))/\B8 p.2 q.2.2
theorem KT.val {H:Hp}{kvs:List (List A7×V)}{xs:List (List A7×Addr×Value)} (r:KT H kvs xs) (k:List A7):W9 (S4 kvs k) ((atKey xs k).map (·.2)):=by
 induction r with
 | nil=>exact True.intro
 | @cons p q ps qs h t ih =>
  obtain⟨h1,_,h2⟩:=h
  by_cases e:p.1=k
  ·have e':q.1=k:=h1.symm.trans e
   have b:atKey (q::qs) k=some q.2:=by simp [atKey,b8,e']
   rw [Q9e e,b];exact h2
  ·have e':¬ q.1=k:=fun z=>e (h1.trans z)
   have b:atKey (q::qs) k=atKey qs k:=by simp [atKey,b8,e']
   rw [Q9d e,b];exact ih
theorem KT.repl {H:Hp}{kvs:List (List A7×V)}{xs:List (List A7×Addr×Value)} (r:KT H kvs xs) (k:List A7) {y:V}{u:Value} (ry:B8 y u) :
  KT H (kvs.map fun kv=>if kv.1=k then(kv.1,y)else kv) (xs.map (putAt k u)):=by
 induction r with
 | nil=>exact .nil
 | @cons p q ps qs h t ih =>
  rw [ak,ak]
  refine .cons ?_ ih
  obtain⟨h1,h2,h3⟩:=h
  unfold putAt
  by_cases e:p.1=k
  ·rw [aE e,aE (h1.symm.trans e)];exact⟨h1,h2,ry⟩
  ·rw [aC e,aC (fun z=>e (h1.trans z))];exact⟨h1,h2,h3⟩
theorem KT.put {H:Hp}{kvs:List (List A7×V)}{xs:List (List A7×Addr×Value)} (r:KT H kvs xs) (k:List A7) {b:Addr}{y:V}{u:Value} (hb:H b=some (.tup (k.map kV))) (ry:B8 y u) :
  KT H (O0 kvs k y) (storedH xs k b u):=by
 have e:(kvs.any fun kv=>decide (kv.1=k))=(atKey xs k).isSome:=by
  rw [Y4m,(r.val k).isSome_eq,Option.isSome_map]
 unfold O0 storedH
 rw [e]
 by_cases q:(atKey xs k).isSome=true
 ·rw [aE q,aE q];exact r.repl k ry
 ·rw [aC q,aC q];exact Paired.snoc r ⟨rfl,hb,ry⟩
theorem KT.keeps {H H':Hp}{kvs:List (List A7×V)}{xs:List (List A7×Addr×Value)} (r:KT H kvs xs) (ht:∀b ys,H b=some (.tup ys)->H' b=some (.tup ys)):KT H' kvs xs :=
 Paired.mapP r fun _ _ z=>⟨z.1,ht _ _ z.2.1,z.2.2⟩
section
variable {P:Program}{w:World}{H:Hp}{h:Heap}{a:Addr}
theorem Y1t {u:HO} (ok:F5 P w H h) (e:Rd H a u):F1 P w H h a u:=e.ok ok
theorem Q3s {kvs:List (A7×V)} (ok:F5 P w H h) (e:Rd H a (.dK kvs)):kvs.length<=sizeLine/\(a==sysModules)=false/\∃vs,KV kvs vs/\h.DictOf (K4 P w) a vs :=
 show F1 P w H h a (.dK kvs)from Y1t ok e
theorem Q7i {kvs:List (A7×V)} (ok:F5 P w H h) (e:H a=some (.dK kvs)):kvs.length<=sizeLine/\(a==sysModules)=false/\∃vs,KV kvs vs/\h.DictOf (K4 P w) a vs:=Q3s ok (.inl e)
theorem Q5n {ks:List A7} (ok:F5 P w H h) (e:H a=some (.tup (ks.map kV))):(tupleKind (K4 P w)).is h ks a:=by
 obtain⟨_,aU,r,o,h1,h2,n,h3⟩:=(show F1 P w H h a (.tup (ks.map kV))from ok a _ e)
 exact⟨o,aU.toArray,n,h1,h2,h3,by simpa using Z8z r⟩
theorem Q3t {kvs:List (List A7×V)} (ok:F5 P w H h) (e:Rd H a (.dT kvs)):kvs.length<=sizeLine/\(a==sysModules)=false /\
  ∃xs,KT H kvs xs/\h.DictOfH (tupleKind (K4 P w)) a xs:=by
 obtain⟨z,y,xs,r,o,es,ep,h1,h2,h3,h4,h5⟩:=(show F1 P w H h a (.dT kvs)from Y1t ok e)
 refine⟨z,y,xs,r,o,es,ep,h1,h2,h3,h4,fun x hx=>?_,h5⟩
 have all:∀{l:List (List A7×V)}{m:List (List A7×Addr×Value)},KT H l m->∀x∈m,(tupleKind (K4 P w)).is h x.1 x.2.1:=by
  intro l m q
  induction q with
  | nil=>intro x hx;exact nomatch hx
  | @cons p q ps qs hq t ih =>
   intro x hx
   rcases aj.mp hx with e | hx
   ·subst e
    exact Q5n ok (by rw [<- hq.1];exact hq.2.1)
   ·exact ih x hx
 exact all r x hx
theorem Y7p {kvs:List (List A7×V)} (ok:F5 P w H h) (e:H a=some (.dT kvs)):kvs.length<=sizeLine/\(a==sysModules)=false /\
  ∃xs,KT H kvs xs/\h.DictOfH (tupleKind (K4 P w)) a xs:=Q3t ok (.inl e)
end
def V6 (H:Hp) (a:Addr) (y:V) (r:Option V):Prop :=
 (∃kvs k,Rd H a (.dK kvs)/\y=kV k/\r=S4 kvs k)\/∃kvs k b,Rd H a (.dT kvs)/\y=.ref b/\H b=some (.tup (k.map kV))/\r=S4 kvs k
def Q1f (H:Hp) (a:Addr) (y v:V) (H':Hp):Prop :=
 (∃kvs k,H a=some (.dK kvs)/\y=kV k/\kvs.length<sizeLine/\H'=upd H a (.dK (O0 kvs k v))) \/
 ∃kvs k b,H a=some (.dT kvs)/\y=.ref b/\H b=some (.tup (k.map kV))/\kvs.length<sizeLine/\H'=upd H a (.dT (O0 kvs k v))
theorem V6.k {H:Hp}{a:Addr}{kvs:List (A7×V)}{k:A7} (e:H a=some (.dK kvs)):V6 H a (kV k) (S4 kvs k):=.inl ⟨kvs,k,.inl e,rfl,rfl⟩
theorem V6.t {H:Hp}{a b:Addr}{kvs:List (List A7×V)}{k:List A7} (e:H a=some (.dT kvs)) (eb:H b=some (.tup (k.map kV))):V6 H a (.ref b) (S4 kvs k):=.inr ⟨kvs,k,b,.inl e,rfl,eb,rfl⟩
theorem Q1f.k {H:Hp}{a:Addr}{kvs:List (A7×V)}{k:A7}{v:V} (e:H a=some (.dK kvs)) (hl:kvs.length<sizeLine):Q1f H a (kV k) v (upd H a (.dK (O0 kvs k v))):=.inl ⟨kvs,k,e,rfl,hl,rfl⟩
theorem Q1f.t {H:Hp}{a b:Addr}{kvs:List (List A7×V)}{k:List A7}{v:V} (e:H a=some (.dT kvs)) (eb:H b=some (.tup (k.map kV))) (hl:kvs.length<sizeLine) :
  Q1f H a (.ref b) v (upd H a (.dT (O0 kvs k v))):=.inr ⟨kvs,k,b,e,rfl,eb,hl,rfl⟩
section
variable {X:Cx}{ac:Pn9} {σ:St}{H:Hp}{s:Shared}{a:Addr}{y v:V}{u r:Value}{o:Option V}{A:Around}{E:VS9}
theorem A0.big (I:A0 X ac σ H s):sysModules<s.heap.objs.size:=by
 have h:mainGlobals<s.heap.objs.size:=(I.mod.glob.keeps I.bk).lt
 exact Nat.lt_trans (by decide) h
theorem Y7d {Q:VS9} (hu:A.units+1<cLine) (I:A0 X ac σ H s) (g:V6 H a y (some v)) (ry:B8 y u) (h:∀w' s',A0 X ac σ H s'->B8 v w'->Q w' s') :
  wpAny (model X.prog X.w) A (getItem (.ref a) u) Q E s:=by
 rcases g with⟨kvs,k,e,ey,l⟩ | ⟨kvs,k,b,e,ey,eb,l⟩
 ·subst ey
  obtain⟨z,hd,vs,rel,dd⟩:=Q3s I.hok e
  obtain⟨w',hw,gq⟩:=W9.some_of (v:=v) (o:=valueAt vs k) (by rw [l];exact rel.val k)
  exact wpAny_getItem_of (Q1p ry) dd.mapOf hw (h w' _ (I.tok _) gq)
 ·subst ey
  cases (show u=Value.ref b from ry)
  obtain⟨z,hd,xs,rel,dd⟩:=Q3t I.hok e
  obtain⟨w',hw,gq⟩:=W9.some_of (v:=v) (o:=(atKey xs k).map (·.2)) (by rw [l];exact rel.val k)
  obtain⟨p,hp,l3⟩:=Option.map_eq_some_iff.mp hw
  refine wpAny_getItem_heap (tupleKind_room_in1 hu) (Q5n I.hok eb) dd hp ?_
  rw [l3]
  exact h w' _ (I.tok _) gq
theorem Y7e {Q:VS9} (hu:A.units+1<cLine) (I:A0 X ac σ H s) (g:V6 H a y o) (ry:B8 y u) (h:∀s',A0 X ac σ H s'->Q (.bool (!o.isSome)) s') :
  wpAny (model X.prog X.w) A (compareOp .NotIn u (.ref a)) Q E s:=by
 rcases g with⟨kvs,k,e,ey,l⟩ | ⟨kvs,k,b,e,ey,eb,l⟩
 ·subst ey
  obtain⟨z,hd,vs,rel,dd⟩:=Q3s I.hok e
  refine wpAny_notIn_of (Q1p ry) hd dd.mapOf ?_
  rw [<- (rel.val k).isSome_eq,<- l]
  exact h _ (I.tok _)
 ·subst ey
  cases (show u=Value.ref b from ry)
  obtain⟨z,hd,xs,rel,dd⟩:=Q3t I.hok e
  refine wpAny_notIn_heap (tupleKind_room_in1 hu) (Q5n I.hok eb) hd dd ?_
  have q:=(rel.val k).isSome_eq
  rw [Option.isSome_map]at q
  rw [<- q,<- l]
  exact h _ (I.tok _)
theorem Q3r {h':Heap}{t':Nat}{ob:HO} (I:A0 X ac σ H s) (mu:Mut (H a)) (hs:Heap.SameBut a s.heap h') (he:∃q,h'.get? a=some q) (new:F1 X.prog X.w (upd H a ob) h' a ob) :
  A0 X ac σ (upd H a ob) { s with heap:=h',toks:=t' } :=
 I.write (x:=a) (e:=a) mu (.inl rfl) (fun b q hb z=>(hs.2 b hb).trans z) he new
theorem Z1g {P:Program}{w:World}{H':Hp}{h':Heap}{kvs:List (A7×V)}{vs:List (A7×Value)} (z:kvs.length<=sizeLine) (hd:(a==sysModules)=false) (rel:KV kvs vs) (dd:h'.DictOf (K4 P w) a vs) :
  F1 P w H' h' a (.dK kvs):=⟨z,hd,vs,rel,dd⟩
theorem Y7f {H':Hp}{Q:Unit->Shared->Prop} (hu:A.units+1<cLine) (I:A0 X ac σ H s) (g:Q1f H a y v H') (ry:B8 y u) (rv:B8 v r) (h:∀s',A0 X ac σ H' s'->Q () s') :
  wpAny (model X.prog X.w) A (setItem (.ref a) u r) Q E s:=by
 rcases g with⟨kvs,k,e,ey,l,eH⟩ | ⟨kvs,k,b,e,ey,eb,l,eH⟩
 ·subst ey eH
  obtain⟨z,hd,vs,rel,dd⟩:=Q7i I.hok e
  have hz:vs.length<=sizeLine:=by rw [<- rel.length];exact z
  have hl:(O0 kvs k v).length<=sizeLine:=by have:=Q5s kvs k v;omega
  refine wpAny_setItem_pairs (hsz:=hz) (Q1p ry) dd fun h' gZ hs=>h _ ?_
  have he:∃q,h'.get? a=some q:=let ⟨q,_,_,hq,_⟩:=gZ;⟨q,hq⟩
  exact Q3r I (by rw [e];exact True.intro) hs he (Z1g hl hd (rel.put k rv) gZ)
 ·subst ey eH
  cases (show u=Value.ref b from ry)
  obtain⟨z,hd,xs,rel,dd⟩:=Y7p I.hok e
  have hz:xs.length<=sizeLine:=by rw [<- Paired.length rel];exact z
  have hl:(O0 kvs k v).length<=sizeLine:=by have:=Q5s kvs k v;omega
  refine wpAny_setItem_heap (hsz:=hz) (tupleKind_room_in1 hu) (Q5n I.hok eb) dd fun h' gZ hs=>h _ ?_
  obtain⟨q,es,ep,hq,h2,h3,h4,_,h5⟩:=gZ
  refine Q3r I (by rw [e];exact True.intro) hs ⟨q,hq⟩ ⟨hl,hd,_,(rel.put k eb rv).keeps fun c ys ec=>?_,q,es,ep,hq,h2,h3,h4,h5⟩
  rw [B1 (Z5 ec e (fun z=>nomatch z))]
  exact ec
end
section
variable {X:Cx}{ac:Pn9} {σ:St}{H:Hp}{s:Shared}{a:Addr}{kvs:List (A7×V)}{k:A7}{u:Value}{A:Around}{E:VS9}
end
def Q2g (i:Expr):Prop:=∀ov iv,subscripted i false ov iv=operate [ov,iv] (getItem ov iv)
theorem W7p {prog:Program}{w:World}{A:Around}{E:VS9}{s:Shared}{env:Env}{value slice:Expr}{pos:Pos}{T id:String}{Q:VS9}
  (hl:typeLookup (.type T) "__getitem__"=pure (some (.builtin id))) (hs:Q2g slice)
  (h:wpAny (model prog w) A (eval value env) (fun o s₁=>wpAny (model prog w) A (eval slice env) (fun i s₂=>s₂.TypeIs o T/\wpAny (model prog w) A (getItem o i) Q E s₂) E s₁) E s) :
  wpAny (model prog w) A (eval (.Subscript value slice pos) env) Q E s:=by
 refine Subscript_ (aP h (fun o s₁ h₁=>aP h₁ (fun i s₂ h₂=>?_) fun _ _ x=>x) fun _ _ x=>x)
 obtain⟨hT,h₂⟩:=h₂
 unfold subscriptTail
 refine a9 ?_
 rw [getitemInPython_of_ne hT.not_modules]
 refine a9 (wpAny_specialOf hT hl ?_)
 have fin:wpAny (model prog w) A (subscripted slice false o i) (fun r s₃=>wpAny (model prog w) A (letTemporaryGo value o r>>=fun _=>pure r) Q E s₃) E s₂:=by
  rw [hs o i]
  exact wpAny_operating (aP h₂ (fun r s₃ h₃=>a9 (wpAny_letTemporaryGo (af h₃))) fun _ _ x=>x)
 first
  | exact af (a9 fin)
  | exact a9 (af (a9 fin))
  | exact a9 fin
theorem Y7i {X:Cx}{ac:Pn9} {σ:St}{H:Hp}{s:Shared}{a:Addr}{y:V}{o:Option V} (I:A0 X ac σ H s) (g:V6 H a y o):s.TypeIs (.ref a) "dict":=by
 rcases g with⟨kvs,k,e,_,_⟩ | ⟨kvs,k,b,e,_,_,_⟩
 ·obtain⟨_,_,vs,_,dd⟩:=Q3s I.hok e
  exact dd.typeIs
 ·obtain⟨_,_,xs,_,dd⟩:=Q3t I.hok e
  exact dd.typeIs
def W7s (td ty:TE):TE:=fun σ H Q=>td σ H fun x H1=>ty σ H1 fun y H2=>∃a v,x=.ref a/\V6 H2 a y (some v)/\Q v H2
def W7w (ty td:TE):TE:=fun σ H Q=>ty σ H fun y H1=>td σ H1 fun x H2=>∃a o,x=.ref a/\V6 H2 a y o/\Q (.bl (!o.isSome)) H2
def W5r (td ty tv:TE):TS:=fun D σ H=>tv σ H fun v H1=>td σ H1 fun x H2=>ty σ H2 fun y H3=>∃a H4,x=.ref a/\Q1f H3 a y v H4/\D.nx σ H4
section
variable {X:Cx}{o i e value:Expr}{pos bI lu:Pos}{td ty tv:TE}
theorem Q6b (hu:X.A.units+1<cLine) (ho:PE X o td) (hi:PE X i ty) (hs:Q2g i):PE X (.Subscript o i pos) (W7s td ty):=by
 intro ac s σ H Q I h
 refine W7p PySem.F.slot_dict_getitem.lookup hs (B3 (ho ac s σ H _ I h) fun u s1 ⟨x,H1,I1,rx,q1⟩=>B3 (hi ac s1 σ H1 _ I1 q1) fun iv s2 ⟨y,H2,I2,ry,a,v,ex,g,q2⟩=>?_)
 subst ex
 obtain rfl:u=Value.ref a:=rx
 exact⟨Y7i I2 g,Y7d hu I2 g ry fun w' s3 I3 gq=>⟨v,H2,I3,gq,q2⟩⟩
theorem W2m (hu:X.A.units+1<cLine) (hi:PE X i ty) (ho:PE X o td):PC X .NotIn i o (W7w ty td):=by
 intro ac s σ H Q I h
 refine B3 (hi ac s σ H _ I h) fun iv s1 ⟨y,H1,I1,ry,q1⟩=>B3 (ho ac s1 σ H1 _ I1 q1) fun u s2 ⟨x,H2,I2,rx,a,ov,ex,g,q2⟩=>?_
 subst ex
 obtain rfl:u=Value.ref a:=rx
 exact Y7e hu I2 g ry fun s3 I3=>⟨.bl (!ov.isSome),H2,I3,rfl,q2⟩
theorem Y1k (hu:X.A.units+1<cLine) (ho:PE X o td) (hi:PE X i ty) (hv:PE X value tv) (hs:swapsWith value (some (.Subscript o i bI)) pos.line X.env=pure false) :
  PS X (.Assign [.Subscript o i bI] value pos) (W5r td ty tv):=by
 intro ac s σ H D I h
 refine wpAny_Assign_Subscript (B3 (hv ac s σ H _ I h) fun r s1 ⟨v,H1,I1,rv,q1⟩=>B3 (ho ac s1 σ H1 _ I1 q1) fun u s2 ⟨x,H2,I2,rx,q2⟩=>B3 (hi ac s2 σ H2 _ I2 q2) fun iv s3 ⟨y,H3,I3,ry,a,H4,ex,g,q3⟩=>?_) hs
 subst ex
 obtain rfl:u=Value.ref a:=rx
 exact Y7f hu I3 g ry rv fun s4 I4=>⟨σ,H4,I4,q3⟩
end
theorem Z7w {P:Program}{w:World}{H:Hp} (h:Heap) (hb:sysModules<h.objs.size):F1 P w H (h.push { cls:=.type "dict",data:=.dict #[] }) h.objs.size (.dK []) :=
 ⟨bb _,bv.mpr (bD (az hb)),[],.nil,Heap.DictOf.new h⟩
theorem Y7o {P:Program}{w:World}{H:Hp} (h:Heap) (hb:sysModules<h.objs.size):F1 P w H (h.push { cls:=.type "dict",data:=.dict #[] }) h.objs.size (.dT []) :=
 ⟨bb _,bv.mpr (bD (az hb)),[],.nil,_,#[],0,aw _ rfl,⟨rfl,rfl,rfl⟩,rfl,rfl,jJ⟩
def W7u:TE:=fun _ H Q=>∀p,H p=none->Q (.ref p) (upd H p (.dK []))
def W7v:TE:=fun _ H Q=>∀p,H p=none->Q (.ref p) (upd H p (.dT []))
section
variable {X:Cx}{pos:Pos}
theorem W2w:PE X (.Dict [] [] pos) W7u:=fun ac s σ H Q I h =>
 wpAny_Dict_empty ⟨.ref s.heap.objs.size,_,I.laid (a:=s.heap.objs.size) (o:=.dK []) (t':=s.toks) (fun _ _ q=>aa _ q) (ah _) (Z7w s.heap I.big),rfl,h _ (I.hok.fresh (ah _))⟩
theorem W2x:PE X (.Dict [] [] pos) W7v:=fun ac s σ H Q I h =>
 wpAny_Dict_empty ⟨.ref s.heap.objs.size,_,I.laid (a:=s.heap.objs.size) (o:=.dT []) (t':=s.toks) (fun _ _ q=>aa _ q) (ah _) (Y7o s.heap I.big),rfl,h _ (I.hok.fresh (ah _))⟩
end
noncomputable def Z4c:List (TE×TE)->St->Hp->(List (V×V)->Hp->Prop)->Prop
 | [],_,H,Q=>Q [] H
 | (tk,tv)::r,σ,H,Q=>tk σ H fun x H1=>tv σ H1 fun y H2=>Z4c r σ H2 fun ps H3=>Q ((x,y)::ps) H3
noncomputable abbrev VV:List (V×V)->List (Value×Value)->Prop:=Paired fun p q=>B8 p.1 q.1/\B8 p.2 q.2
def PPs (X:Cx) (pos:Pos) (keys:List (Option Expr)) (values:List Expr) (hJ:List (TE×TE)):Prop :=
 ∀(ac:Pn9) (s:Shared) (σ:St) (H:Hp) (Q:List (V×V)->Hp->Prop),A0 X ac σ H s->Z4c hJ σ H Q ->
  wpAny (model X.prog X.w) X.A (evalPairs (pairTrees keys values X.env pos)) (fun vs s'=>∃ps H',A0 X ac σ H' s'/\VV ps vs/\Q ps H') X.xe s
theorem W3x {X:Cx}{pos:Pos}:PPs X pos [] [] []:=fun ac s σ H Q I h=>pairTrees_nil_walk ⟨[],H,I,.nil,h⟩
theorem W3w {X:Cx}{pos:Pos}{k v:Expr}{ks:List (Option Expr)}{vs:List Expr}{tk tv:TE}{hJ:List (TE×TE)} (hk:PE X k tk) (hv:PE X v tv) (hr:PPs X pos ks vs hJ) :
  PPs X pos (some k::ks) (v::vs) ((tk,tv)::hJ):=fun ac s σ H Q I h =>
 pairTrees_cons_walk (B3 (hk ac s σ H _ I h) fun u s1 ⟨x,H1,I1,rx,q1⟩=>B3 (hv ac s1 σ H1 _ I1 q1) fun w2 s2 ⟨y,H2,I2,ry,q2⟩ =>
  B3 (hr ac s2 σ H2 _ I2 q2) fun ws s3 ⟨ps,H3,I3,rel,q3⟩=>⟨(x,y)::ps,H3,I3,.cons ⟨rx,ry⟩ rel,q3⟩)
noncomputable def Q4d (kvs more:List (A7×V)):List (A7×V):=more.foldl (fun cf kv=>O0 cf kv.1 kv.2) kvs
theorem KV.merge:∀{more:List (A7×V)}{rs:List (A7×Value)}{kvs:List (A7×V)}{vs:List (A7×Value)},KV more rs->KV kvs vs->KV (Q4d kvs more) (merged vs rs):=by
 intro more rs kvs vs r
 unfold KV at r
 induction r generalizing kvs vs with
 | nil=>intro q;exact q
 | @cons p q ps qs h t ih =>
  intro r0
  have e:KV (O0 kvs p.1 p.2) (stored vs q.1 q.2):=by
   have:=r0.put p.1 h.2
   rw [<- h.1];exact this
  exact ih e
theorem Z9k:∀(more kvs:List (A7×V)),(Q4d kvs more).length<=kvs.length+more.length
 | [],kvs=>by show kvs.length<=kvs.length+0;omega
 | p::r,kvs=>by
  have h1:=Z9k r (O0 kvs p.1 p.2)
  have h2:=Q5s kvs p.1 p.2
  show(Q4d (O0 kvs p.1 p.2) r).length<=_
  rw [aA];omega
theorem Z7e {P:Program}{w:World}:∀{kvs:List (A7×V)}{ws:List (Value×Value)},VV (kvs.map fun kv=>(kV kv.1,kv.2)) ws->∃rs,Carries (K4 P w) ws rs/\KV kvs rs
 | [],_,r=>by rw [List.map_nil]at r;cases r;exact⟨[],True.intro,.nil⟩
 | p::kvs,_,r=>by
  rw [ak]at r
  cases r with
  | @cons a b as bs h t =>
   obtain⟨rs,c,q⟩:=Z7e (P:=P) (w:=w) t
   obtain⟨b1,b2⟩:=b
   exact⟨(p.1,b2)::rs,⟨Q1p h.1,rfl,c⟩,.cons ⟨rfl,h.2⟩ q⟩
def W7x (hJ:List (TE×TE)):TE:=fun σ H Q=>∀p,H p=none->Z4c hJ σ (upd H p (.dK [])) fun ps H2=>H2 p=some (.dK [])/\∃kvs:List (A7×V),ps=kvs.map (fun kv=>(kV kv.1,kv.2))/\kvs.length<=15/\Q (.ref p) (upd H2 p (.dK (Q4d [] kvs)))
theorem W2u {X:Cx}{pos:Pos}{keys:List (Option Expr)}{values:List Expr}{hJ:List (TE×TE)} (h:PPs X pos keys values hJ) (jw:keys.all (·.isSome)=true) (hl:keys.length=values.length) (h0:keys≠[])
  (qT:keys.length<=15):PE X (.Dict keys values pos) (W7x hJ):=by
 intro ac s σ H Q I q
 have hn:=I.hok.fresh (ah s.heap.objs.size)
 have I1:=I.laid (a:=s.heap.objs.size) (o:=.dK []) (h':=s.heap.push { cls:=.type "dict",data:=.dict #[] }) (t':=s.toks) (fun _ _ q=>aa _ q) (ah _) (Z7w s.heap I.big)
 refine wpAny_Dict_walk (knd:=K4 X.prog X.w) jw hl h0 qT (B3 (h ac _ σ _ _ I1 (q _ hn)) fun ws s2 ⟨ps,H2,I2,rel,e,kvs,ep,lk,q2⟩=>?_)
 subst ep
 obtain⟨rs,c,rk⟩:=Z7e (P:=X.prog) (w:=X.w) rel
 obtain⟨z,hd,rC,r0,dd⟩:=Q7i I2.hok e
 cases r0
 refine⟨rs,c,dd,fun h' gZ hs=>⟨.ref s.heap.objs.size,_,?_,rfl,q2⟩⟩
 have hz:(Q4d [] kvs).length<=sizeLine:=by
  have h1:=Z9k kvs []
  rw [cg]at h1
  rw [sizeLine_eq];omega
 have he:∃q,h'.get? s.heap.objs.size=some q:=let ⟨q,_,_,hq,_⟩:=gZ;⟨q,hq⟩
 exact Q3r I2 (by rw [e];exact True.intro) hs he (Z1g hz hd (rk.merge .nil) gZ)
structure M1 (X:Cx) (o:Expr) (m:Str) (apos:Pos) (e:Expr) (bq:Pos):Prop where
 base:attributeBase o m X.env (eval o X.env)=eval o X.env
 few:((backTo bq (starEach [e] X.env)).all (fun x=>!x.1)&&(backToKw bq (keywordEach [] X.env)).all (fun x=>x.1.isSome)
 &&decide (([e]:List Expr).length+([]:List Keyword).length+(if ([]:List Keyword).isEmpty then 0 else 1)<30))=true
 line:(apos.endLine==bq.line)=true
 trees:backTo bq (starEach [e] X.env)=[(false,eval e X.env)]
structure M2 (X:Cx) (o:Expr) (m:Str) (apos:Pos) (e f:Expr) (bq:Pos):Prop where
 base:attributeBase o m X.env (eval o X.env)=eval o X.env
 few:((backTo bq (starEach [e,f] X.env)).all (fun x=>!x.1)&&(backToKw bq (keywordEach [] X.env)).all (fun x=>x.1.isSome)
 &&decide (([e,f]:List Expr).length+([]:List Keyword).length+(if ([]:List Keyword).isEmpty then 0 else 1)<30))=true
 line:(apos.endLine==bq.line)=true
 trees:backTo bq (starEach [e,f] X.env)=[(false,eval e X.env),(false,eval f X.env)]
def IsD (H:Hp) (a:Addr):Prop:=(∃kvs,Rd H a (.dK kvs))\/∃kvs,Rd H a (.dT kvs)
theorem Z8w {X:Cx}{ac:Pn9} {σ:St}{H:Hp}{s:Shared}{a:Addr} (I:A0 X ac σ H s) (d:IsD H a) :
  s.TypeIs (.ref a) "dict"/\(∀b,Value.ref a=.ref b->∃ob,s.heap.get? b=some ob/\ob.dict=none)/\(a==sysModules)=false:=by
 rcases d with⟨kvs,e⟩ | ⟨kvs,e⟩
 ·obtain⟨_,hd,vs,_,dd⟩:=Q3s I.hok e
  refine⟨dd.typeIs,fun b q=>?_,hd⟩
  cases q
  obtain⟨ob,_,_,h1,h2,_⟩:=dd
  exact⟨ob,h1,h2.2.1⟩
 ·obtain⟨_,hd,xs,_,dd⟩:=Q3t I.hok e
  refine⟨dd.typeIs,fun b q=>?_,hd⟩
  cases q
  obtain⟨ob,_,_,h1,h2,_⟩:=dd
  exact⟨ob,h1,h2.2.1⟩
section
variable {X:Cx}{ac:Pn9} {σ:St}{H:Hp}{s:Shared}{a:Addr}{y d:V}{u r:Value}{o:Option V}{A:Around}{E:VS9}
theorem Y7c {Q:VS9} (hu:A.units+1<cLine) (I:A0 X ac σ H s) (g:V6 H a y o) (ry:B8 y u) (h:∀w' s',A0 X ac σ H s'->B8 (o.getD .non) w'->Q w' s') :
  wpAny (model X.prog X.w) A (call (.builtin "dict.get") [.ref a,u]) Q E s:=by
 rcases g with⟨kvs,k,e,ey,l⟩ | ⟨kvs,k,b,e,ey,eb,l⟩
 ·subst ey
  obtain⟨z,hd,vs,rel,dd⟩:=Q3s I.hok e
  refine call_meetsIn PySem.F.slot_dict_get dd.typeIs PySem.F.entry_dict_get (PySem.F.args_dict_get_2 _ _) (meets_dict_get (K4 X.prog X.w) a (Q1p ry) hd) ⟨_,dd.mapOf,h _ _ (I.tok _) ?_⟩
  rw [l]
  exact(rel.val k).getD rfl
 ·subst ey
  cases (show u=Value.ref b from ry)
  obtain⟨z,hd,xs,rel,dd⟩:=Q3t I.hok e
  refine call_meetsIn PySem.F.slot_dict_get dd.typeIs PySem.F.entry_dict_get (PySem.F.args_dict_get_2 _ _) (meetsH_dict_get (tupleKind (K4 X.prog X.w)) a b hd) ⟨tupleKind_room_in1 hu,k,xs,Q5n I.hok eb,dd,h _ _ (I.tok _) ?_⟩
  rw [l]
  exact(rel.val k).getD rfl
end
def W7t (td ty:TE):TE:=fun σ H Q=>td σ H fun x H1=>∃a,x=.ref a/\IsD H1 a/\ty σ H1 fun y H2=>∃o,V6 H2 a y o/\Q (o.getD .non) H2
section
variable {X:Cx}{o e f:Expr}{apos bq:Pos}{td ty tx:TE}
theorem W2t (hu:X.A.units+1<cLine) (ho:PE X o td) (he:PE X e ty) (m:M1 X o "get" apos e bq):PE X (.Call (.Attribute o "get" apos) [e] [] bq) (W7t td ty):=by
 intro ac s σ H Q I h
 refine wpAny_Call_method m.base m.few m.line PySem.F.plainAttrs_dict PySem.F.slot_dict_get PySem.F.type_dict_get (B3 (ho ac s σ H _ I h) fun u s1 ⟨x,H1,I1,rx,a,ex,d,q1⟩=>?_)
 subst ex
 obtain rfl:u=Value.ref a:=rx
 obtain⟨t1,t2,_⟩:=Z8w I1 d
 refine⟨t1,t2,?_⟩
 rw [m.trees]
 refine eY rfl (dj (c6 (B3 (he ac s1 σ H1 _ I1 q1) fun iv s2 ⟨y,H2,I2,ry,ov,g,q2⟩=>cV ?_)))
 exact Y7c hu I2 g ry fun w' s3 I3 gq=>⟨_,H2,I3,gq,q2⟩
end
section
variable {X:Cx}{ac:Pn9} {σ:St}{H:Hp}{s:Shared}{a:Addr}{kvs:List (A7×V)}{A:Around}{E:VS9}
end
section
variable {X:Cx}{ac:Pn9} {σ:St}{H:Hp}{s:Shared}{a:Addr}{y:V}{u:Value}{A:Around}{E:VS9}
end
end L2
namespace Att
open PySem PySem.W PySem.Calls PyProof.Rows
theorem Y8j {P:Params}{h:Heap}:∀(ns:List Int) (vs:List Value),WellAll P h vs (ns.map WData.int)->IntsAre vs ns:=by
 intro ns
 induction ns with
 | nil =>
  intro vs w
  rw [List.map_nil]at w
  cases w
  exact .nil
 | cons n ns ih =>
  intro vs w
  rw [ak]at w
  cases w with
  | cons a b =>
   cases a
   exact .cons _ _ (ih _ b)
theorem W7a {l:OpenLaw}{n:Nat} (hn:l.most=some n) {P:Params}{h:Heap}{args:List WData}{fO:List Value}
  (ic:l.row.toRowW.claim.pre args=true) (lZ:WellAll P h fO args) :
  ∃a vs ns,fO=[Value.ref a]/\args=[WData.list (ns.map WData.int)]/\h.get? a=some { cls:=.type "list",data:=.seq vs.toArray }/\IntsAre vs ns/\ns.length<=n:=by
 have pY:WShape.hasAll [] args [.list .int]=true:=(pre_splitW ic).1
 have hc:l.pre.holds [] { args:=args }=true:=(pre_splitW ic).2
 obtain⟨d,r,rfl,h1,h2⟩:=hasAllW_cons pY
 obtain rfl:=hasAllW_nil h2
 obtain⟨xs,rfl,h3⟩:=hasW_list h1
 obtain⟨ns,rfl⟩:=items_int h3
 have bR:ns.length<=n:=by
  unfold OpenLaw.pre at hc
  have h4:(WTm.not (.lt (.lit (.int (n:Int))) (.len (.arg 0)))).holds [] { args:=[.list (ns.map .int)] }=true:=by
   have h4:=(holds_andW hc).1
   rw [hn]at h4
   exact h4
  have h5:=condW_of h4 (w_not (w_lt w_lit (w_len_list (w_arg rfl))))
  rw [ag]at h5
  refine Nat.le_of_not_lt fun q=>?_
  have q':(n:Int)<((ns.length:Nat):Int):=by omega
  first
   | (rw [cu q']at h5;exact absurd h5 (by decide))
   | (simp at h5;omega)
 cases lZ with
 | cons w1 w2 =>
  cases w2
  cases w1 with
  | list ho jw=>exact⟨_,_,ns,rfl,rfl,ho,Y8j ns _ jw,bR⟩
theorem W3v (l:OpenLaw) (args:List WData):l.row.toRowW.claim.post args (.bool true) args=true :=
 postW_of (r:=l.row.toRowW) (X:=(true==true))
  (show WShape.has [] (.bool true) .bool=true by first | rfl | decide | simp [WShape.has,WShape.arms,WShape.armsAll])
  (show(WTm.eq .res (.lit (.bool true))).value [] { args:=args,res:=some (.bool true),after:=args }=some (.bool (true==true))from w_eq_bool (w_res rfl) w_lit) rfl
theorem attach_call {l:OpenLaw}{n:Nat}{q:Program}{eA:List Str}{XP:(Str->Option Value)->Heap->Prop}{YP:World->Heap->Prop}{d:DefRec}
  (hn:l.most=some n) (kz:d.params.defaults=[])
  (call:∀(w:World) (s₀ s₁:Shared) (mg mb:Str->Option Value) (fa:Addr) (o:Obj) (pm cd cr:Value) (a:Addr) (vs:List Value) (ns:List Int),
   Ground q eA [] XP w s₀ mg mb s₁.heap->YP w s₁.heap ->
   s₁.heap.get? fa=some o->o.data=.func (docDef d.name d.params d.body d.scope pm cd cr)->s₁.heap.CodeRec cd d.name->mg d.name=some (.ref fa) ->
   s₁.heap.get? a=some { cls:=.type "list",data:=.seq vs.toArray }->IntsAre vs ns->ns.length<=n->s₁.gens=#[] ->
   codeAny (model l.prog w) callerA (.call (.ref fa) ⟨[.ref a],[]⟩) (fun r s'=>r=.ok (.ret (.bool true))/\OldK s₁.heap s'.heap/\s'.os=s₁.os/\AllBare s'.gens) s₁) :
  WalkO q eA XP YP l.row.toRowW d [] (fun f vs=>PySem.call f vs):=by
 intro w s₀ s₁ mg mb G Y fa o pm cd cr dV kV ho hd eg hD kn hg args fO as ic qo rL lZ rO
 obtain rfl:dV=.none:=Dflts.none hD kz
 obtain rfl:kV=.none:=Dflts.noKw hD
 obtain⟨a,vs,ns,rfl,rfl,ji,gC,bR⟩:=W7a hn ic lZ
 refine enter_call (codeAny_mono (call w s₀ s₁ mg mb fa o pm cd cr a vs ns G Y ho (fd_plain hd) eg kn ji gC bR hg) fun r s' hq=>?_)
 obtain⟨rfl,h2,h3,h4⟩:=hq
 exact⟨.inl ⟨.bool true,.bool true,[],rfl,fun _=>rfl,.bool true,W3v l _,fun _=>⟨List.Pairwise.nil,fun _ hm=>(nomatch hm)⟩⟩,h2,h3,h4⟩
section
variable {prog:Program}{w:World}{A:Around}{E:VS9}{s:Shared}{K:Frag}
end
end Att
namespace L2
open PySem PySem.Spec PyProof.Rows
theorem Y4o:∀{vs:List Value}{ns:List Int},IntsAre vs ns->C0 (ns.map V.int) vs
 | _,_,.nil=>.nil
 | _,_,.cons n t h=>.cons ⟨t,rfl⟩ (Y4o h)
end L2
namespace L2
open PySem PySem.Spec PyProof.Rows
end L2
namespace L2
open PySem PySem.Spec PyProof.Rows
noncomputable def T7 (s:Stmt):Arguments:=match s with
 | .FunctionDef _ a _ _ _ _ _ _ _ _=>a
 | _=>{ posonlyargs:=[],args:=[],vararg:=none,kwonlyargs:=[],kw_defaults:=[],kwarg:=none,defaults:=[] }
noncomputable def M5 (s:Stmt):List Stmt:=match s with
 | .FunctionDef _ _ b _ _ _ _ _ _ _=>b
 | _=>[]
noncomputable def C1 (s:Stmt):Scope:=match s with
 | .FunctionDef _ _ _ _ _ _ sc _ _ _=>sc
 | _=>{ kind:=.function,names:=[],isGenerator:=false,isCoroutine:=false }
abbrev K6:CXT:=fun _ _ _ _ _ _=>False
abbrev E0:XK:=fun _ _ _=>False
theorem Q8e {X:Cx}:Z0k K6 X E0:=fun _ _ _ _ _ _ _ h=>h.elim
structure Fun (K:Fg9) (x qual:Str) (st:Stmt) (f:Addr) (fd:FuncData):Prop where
 ex:∃(oc:Value) (od:Option Addr) (kV cr pm:Value) (an:Option Addr) (cdv ct:Value) (dq:Array (Option Value)),
  fd=PySem.W.fnOf x qual (T7 st) (M5 st) (C1 st) .none kV cr pm an cdv ct/\K.lookup f=some ⟨oc,od,.func fd,dq⟩/\PySem.W.codeIn K cdv qual=true
 kp:PySem.W.keepIn K (.ref f)=true
section
variable {P:Program}{w:World}{K:Fg9}{mg:Str->Option Value}{base:Heap}
theorem Fun.ok {x qual:Str}{st:Stmt}{f:Addr}{fd:FuncData}{N ps:List Str}{k:Nat}{sp:Sp} (F:Fun K x qual st f fd) (S:J5 N ps (C1 st)) (len:∀vs H Q E,sp vs H Q E->vs.length=ps.length)
  (cc:∀(cdv:Value) (A:Around) (outer:List Env) (s:Shared) (H:Hp) (vs:List V) (Q:VK) (E:XK),C9 k (A.deeper (envOfC qual (C1 st) s.heap.objs.size f cdv))->sp vs H Q E ->
   ∃t,PSs (X1 K6 P w K mg base N qual (C1 st) f cdv A outer s H E).nox (M5 st) t/\t { nx:=fun _ H'=>Q .non H',rt:=Q } (start N vs) H):O9 P w K mg base K6 (k+1) f fd ps sp:=by
 obtain⟨oc,od,kV,cr,pm,an,cdv,ct,dq,rfl,lk,eg⟩:=F.ex
 refine Z1i lk eg S len fun A outer s H vs Q E hr fW=>?_
 obtain⟨t,h,q⟩:=cc cdv A outer s H vs Q E hr fW
 exact⟨t,h.nox,q⟩
theorem Fun.binds {x qual:Str}{st:Stmt}{f:Addr}{fd:FuncData}{ps:List Str} (F:Fun K x qual st f fd)
  (h:∀(kV cr pm:Value) (an:Option Addr) (cdv ct:Value) (us:List Value),us.length=ps.length->bindArgs (PySem.W.fnOf x qual (T7 st) (M5 st) (C1 st) .none kV cr pm an cdv ct) ⟨us,[]⟩=pure (ps.zip us)):U2 K fd ps []:=by
 obtain⟨oc,od,kV,cr,pm,an,cdv,ct,dq,rfl,lk,eg⟩:=F.ex
 exact .all (h kV cr pm an cdv ct)
theorem Y7u {x qual:Str}{st:Stmt}{f:Addr}{oc:Value}{od an:Option Addr}{dq:Array (Option Value)}{kV cr pm cdv ct:Value} (l:K.lookup f=some ⟨oc,od,.func (PySem.W.fnOf x qual (T7 st) (M5 st) (C1 st) .none kV cr pm an cdv ct),dq⟩)
  (c:PySem.W.codeIn K cdv qual=true) (k:PySem.W.keepIn K (.ref f)=true):Fun K x qual st f (PySem.W.fnOf x qual (T7 st) (M5 st) (C1 st) .none kV cr pm an cdv ct):=⟨⟨oc,od,kV,cr,pm,an,cdv,ct,dq,rfl,l,c⟩,k⟩
end
section
variable {X:Cx}
theorem pv (i:Nat) {x:Str}{pos:Pos} (hN:X.N[i]?=some x:=by rfl) (hv:Vis X.env.scope x:=by first | exact Or.inl rfl | exact Or.inr (Or.inl rfl) | exact Or.inr (Or.inr rfl)) (hd:(x==("__debug__":Str))=false:=by decide)
  (eg:(x==("__classdict__":Str))=false:=by decide):PE X (.Name x pos) (O3 i):=W3m hN hv hd eg
end
def A5 (H H':Hp):Prop:=∀b o,H b=some o->H' b=some o
theorem A5.refl (H:Hp):A5 H H:=fun _ _ h=>h
theorem A5.trans {H H1 H2:Hp} (a:A5 H H1) (b:A5 H1 H2):A5 H H2:=fun c o h=>b c o (a c o h)
theorem A5.free {H H':Hp} (e:A5 H H') {l:Addr} (h:H' l=Option.none):H l=Option.none:=by
 cases q:H l with
 | none=>rfl
 | some o =>
  rw [e l o q]at h
  cases h
theorem A5.seq {K:Fg9}{H H':Hp}{a:Addr}{xs:List V} (e:A5 H H') (h:C6 K H a xs):C6 K H' a xs:=by
 rcases h with(h | ⟨o,h⟩) | h
 ·exact .inl (.inl (e _ _ h))
 ·exact .inl (.inr ⟨o,e _ _ h⟩)
 ·exact .inr h
section
variable {κ:Type} [DecidableEq κ]
end
end L2
end
section
namespace TK
open PySem PySem.Spec PyProof.Rows L2
noncomputable abbrev St:=L2.St
inductive D where
 | non | bl (b:Bool) | int (i:Int) | str (x:Str) | tup (xs:List D) | lst (xs:List D)
def FzL (K:Fg9) (H:Hp) (a:Addr) (xs:List V):Prop :=
 (∃o,H a=some (.frz o (.lst xs))) \/
  ∃(o:Obj) (aU:Array Value) (n:Nat),K.lookup a=some o/\o.cls=.type "list"/\o.dict=none/\o.data=.seq aU n/\aU.size<=sizeLine/\C0 xs aU.toList
theorem FzL.sq {K:Fg9}{H:Hp}{a:Addr}{xs:List V} (h:FzL K H a xs):C6 K H a xs:=by
 rcases h with⟨o,h⟩ | h
 ·exact .inl (.inr ⟨o,h⟩)
 ·exact .inr h
structure Kp (H H':Hp):Prop where
 tup:∀a xs,H a=some (.tup xs)->H' a=some (.tup xs)
 frz:∀a o u,H a=some (.frz o u)->H' a=some (.frz o u)
theorem Kp.refl (H:Hp):Kp H H:=⟨fun _ _ h=>h,fun _ _ _ h=>h⟩
theorem Kp.trans {H H1 H2:Hp} (a:Kp H H1) (b:Kp H1 H2):Kp H H2:=⟨fun c xs h=>b.tup c xs (a.tup c xs h),fun c o u h=>b.frz c o u (a.frz c o u h)⟩
theorem Kp.of {H H':Hp} (s:A5 H H'):Kp H H':=⟨fun a xs h=>s a _ h,fun a o u h=>s a _ h⟩
theorem Kp.upd {H:Hp}{a:Addr}{xs:List V} (h:H a=some (.lst xs)) (o:HO):Kp H (upd H a o) :=
 ⟨fun c ys q=>by rw [B1 (Z5 q h (by intro z;cases z))];exact q,fun c ob u q=>by rw [B1 (Z5 q h (by intro z;cases z))];exact q⟩
theorem Kp.fzL {K:Fg9}{H H':Hp} (k:Kp H H') {a:Addr}{xs:List V} (h:FzL K H a xs):FzL K H' a xs:=by
 rcases h with⟨o,h⟩ | h
 ·exact .inl ⟨o,k.frz _ _ _ h⟩
 ·exact .inr h
theorem D7 {H:Hp}{p:Addr} (h:H p=none) (o:HO):A5 H (upd H p o):=fun b u q=>by rw [B1 (U9 q h)];exact q
mutual
noncomputable def A1 (K:Fg9) (H:Hp):D->V->Prop
 | .non,v=>v=.non
 | .bl b,v=>v=.bl b
 | .int i,v=>v=.int i
 | .str x,v=>v=.str x
 | .tup ds,v=>∃a xs,v=.ref a/\H a=some (.tup xs)/\AllS K H ds xs
 | .lst ds,v=>∃a xs,v=.ref a/\FzL K H a xs/\AllS K H ds xs
noncomputable def AllS (K:Fg9) (H:Hp):List D->List V->Prop
 | [],vs=>vs=[]
 | d::ds,vs=>∃v r,vs=v::r/\A1 K H d v/\AllS K H ds r
end
section
variable {K:Fg9}{H H' H0:Hp}
mutual
theorem A1.mono (k:Kp H H'):∀(d:D) (v:V),A1 K H d v->A1 K H' d v
 | .non,v,h=>h
 | .bl _,v,h=>h
 | .int _,v,h=>h
 | .str _,v,h=>h
 | .tup ds,v,h=>by
  unfold A1 at h ⊢
  obtain⟨a,xs,e,q,r⟩:=h
  exact⟨a,xs,e,k.tup _ _ q,AllS.mono k ds xs r⟩
 | .lst ds,v,h=>by
  unfold A1 at h ⊢
  obtain⟨a,xs,e,q,r⟩:=h
  exact⟨a,xs,e,k.fzL q,AllS.mono k ds xs r⟩
theorem AllS.mono (k:Kp H H'):∀(ds:List D) (vs:List V),AllS K H ds vs->AllS K H' ds vs
 | [],vs,h=>h
 | d::ds,vs,h=>by
  unfold AllS at h ⊢
  obtain⟨v,r,e,q,t⟩:=h
  exact⟨v,r,e,A1.mono k d v q,AllS.mono k ds r t⟩
end
theorem AllS.length:∀{ds:List D}{vs:List V},AllS K H ds vs->ds.length=vs.length
 | [],vs,h=>by unfold AllS at h;subst h;rfl
 | d::ds,vs,h=>by
  unfold AllS at h
  obtain⟨v,r,e,q,t⟩:=h
  subst e
  rw [aA,aA,AllS.length t]
theorem AllS.nil:AllS K H [] []:=by unfold AllS;rfl
theorem AllS.cons {d:D}{ds:List D}{v:V}{vs:List V} (h:A1 K H d v) (t:AllS K H ds vs):AllS K H (d::ds) (v::vs):=by
 unfold AllS;exact⟨v,vs,rfl,h,t⟩
theorem AllS.get:∀{ds:List D}{vs:List V}{i:Nat}{d:D},AllS K H ds vs->ds[i]?=some d->∃v,vs[i]?=some v/\A1 K H d v
 | [],_,_,_,_,e=>by simp at e
 | d::ds,vs,0,x,h,e=>by
  unfold AllS at h
  obtain⟨v,r,rfl,q,t⟩:=h
  simp at e;subst e
  exact⟨v,rfl,q⟩
 | d::ds,vs,i+1,x,h,e=>by
  unfold AllS at h
  obtain⟨v,r,rfl,q,t⟩:=h
  obtain⟨u,h1,h2⟩:=AllS.get (i:=i) t (by simpa using e)
  exact⟨u,by simpa using h1,h2⟩
theorem AllS.append:∀{ds es:List D}{vs us:List V},AllS K H ds vs->AllS K H es us->AllS K H (ds++es) (vs++us)
 | [],_,vs,_,h,t=>by unfold AllS at h;subst h;exact t
 | d::ds,es,vs,us,h,t=>by
  unfold AllS at h
  obtain⟨v,r,rfl,q,s⟩:=h
  exact AllS.cons q (AllS.append s t)
theorem AllS.take:∀{ds:List D}{vs:List V} (n:Nat),AllS K H ds vs->AllS K H (ds.take n) (vs.take n)
 | _,_,0,_=>by simp;exact AllS.nil
 | [],vs,n+1,h=>by unfold AllS at h;subst h;simp;exact AllS.nil
 | d::ds,vs,n+1,h=>by
  unfold AllS at h
  obtain⟨v,r,rfl,q,s⟩:=h
  exact AllS.cons q (AllS.take n s)
theorem AllS.drop:∀{ds:List D}{vs:List V} (n:Nat),AllS K H ds vs->AllS K H (ds.drop n) (vs.drop n)
 | _,_,0,h=>h
 | [],vs,n+1,h=>by unfold AllS at h;subst h;simp;exact AllS.nil
 | d::ds,vs,n+1,h=>by
  unfold AllS at h
  obtain⟨v,r,rfl,q,s⟩:=h
  exact AllS.drop n s
theorem AllS.ints {ns:List Int}:AllS K H (ns.map D.int) (ns.map V.int):=by
 induction ns with
 | nil=>exact AllS.nil
 | cons n r ih=>exact AllS.cons (by unfold A1;rfl) ih
theorem A1.s_int {i:Int}:A1 K H (.int i) (.int i):=by unfold A1;rfl
theorem A1.s_bl {i:Bool}:A1 K H (.bl i) (.bl i):=by unfold A1;rfl
theorem A1.s_str {i:Str}:A1 K H (.str i) (.str i):=by unfold A1;rfl
theorem A1.s_non:A1 K H .non .non:=by unfold A1;rfl
theorem A1.s_tup {ds:List D}{a:Addr}{xs:List V} (q:H a=some (.tup xs)) (r:AllS K H ds xs):A1 K H (.tup ds) (.ref a):=by unfold A1;exact⟨a,xs,rfl,q,r⟩
theorem A1.s_lst {ds:List D}{a:Addr}{xs:List V} (q:FzL K H a xs) (r:AllS K H ds xs):A1 K H (.lst ds) (.ref a):=by unfold A1;exact⟨a,xs,rfl,q,r⟩
end
def Q2f (Φ:Hp->Prop):Prop:=∀H H':Hp,Kp H H'->Φ H->Φ H'
inductive R where
 | st (d:D) | nw (ds:List D) | bw (ds:List D) | dk (kvs:List (A7×D)) | dt (kvs:List (List A7×D)) | ob (a:Addr) | cl (a:Addr) (Φ:Hp->Prop) | ms (a C:Addr) (d:D) (fs:List (Str×D))
noncomputable def B5 {κ:Type} (K:Fg9) (H:Hp):List (κ×D)->List (κ×V)->Prop
 | [],vs=>vs=[]
 | p::ps,vs=>∃v r,vs=(p.1,v)::r/\A1 K H p.2 v/\B5 K H ps r
theorem B5.mono {κ:Type}{K:Fg9}{H H':Hp} (k:Kp H H'):∀(ps:List (κ×D)) (vs:List (κ×V)),B5 K H ps vs->B5 K H' ps vs
 | [],_,h=>h
 | p::ps,vs,h=>by
  obtain⟨v,r,e,q,t⟩:=h
  exact⟨v,r,e,q.mono k _ _,B5.mono k ps r t⟩
noncomputable def D9 (K:Fg9) (H0 H:Hp):R->V->Prop
 | .st d,v=>A1 K H d v
 | .nw ds,v=>∃a xs,v=.ref a/\H0 a=none/\H a=some (.lst xs)/\AllS K H ds xs
 | .bw ds,v=>∃a xs,v=.ref a/\H a=some (.lst xs)/\AllS K H ds xs
 | .dk kvs,v=>∃a ps,v=.ref a/\H a=some (.dK ps)/\B5 K H kvs ps
 | .dt kvs,v=>∃a ps,v=.ref a/\H a=some (.dT ps)/\B5 K H kvs ps
 | .ob a,v=>v=.ref a
 | .cl a Φ,v=>v=.ref a/\Φ H/\Q2f Φ
 | .ms a C d fs,v=>A1 K H d v/\∃dx vs,H a=some (.ins C dx vs)/\B5 K H fs vs
theorem D9.mono {K:Fg9}{H0 H H':Hp} (s:A5 H H'):∀{r:R}{v:V},D9 K H0 H r v->D9 K H0 H' r v
 | .st d,v,h=>A1.mono (Kp.of s) d v h
 | .nw ds,v,h=>by obtain⟨a,xs,e,n,q,t⟩:=h;exact⟨a,xs,e,n,s _ _ q,t.mono (Kp.of s) _ _⟩
 | .bw ds,v,h=>by obtain⟨a,xs,e,q,t⟩:=h;exact⟨a,xs,e,s _ _ q,t.mono (Kp.of s) _ _⟩
 | .dk ds,v,h=>by obtain⟨a,xs,e,q,t⟩:=h;exact⟨a,xs,e,s _ _ q,t.mono (Kp.of s) _ _⟩
 | .dt ds,v,h=>by obtain⟨a,xs,e,q,t⟩:=h;exact⟨a,xs,e,s _ _ q,t.mono (Kp.of s) _ _⟩
 | .ob a,v,h=>h
 | .cl a Φ,v,h=>⟨h.1,h.2.2 _ _ (Kp.of s) h.2.1,h.2.2⟩
 | .ms a C d fs,v,h=>by obtain⟨h1,dx,vs,q,t⟩:=h;exact⟨h1.mono (Kp.of s) _ _,dx,vs,s _ _ q,t.mono (Kp.of s) _ _⟩
theorem D9.older {K:Fg9}{H0 H1 H:Hp} (s:A5 H0 H1):∀{r:R}{v:V},D9 K H1 H r v->D9 K H0 H r v
 | .st d,v,h=>h
 | .nw ds,v,h=>by obtain⟨a,xs,e,n,q,t⟩:=h;exact⟨a,xs,e,s.free n,q,t⟩
 | .bw ds,v,h=>h
 | .dk ds,v,h=>h
 | .dt ds,v,h=>h
 | .ob a,v,h=>h
 | .cl _ _,v,h=>h
 | .ms _ _ _ _,v,h=>h
noncomputable def LO (b:Addr) (xs:List V):Heap->Prop:=fun h=>xs.length<=sizeLine/\∃(aU:List Value) (n:Nat),C0 xs aU/\h.get? b=some { cls:=.type "list",data:=.seq aU.toArray n }
noncomputable def J6 (K:Fg9) (H:Hp):List Addr->List (List D)->Prop
 | [],dss=>dss=[]
 | b::bs,dss=>∃ds r,dss=ds::r/\(∃xs,H b=some (.ext (LO b xs))/\AllS K H ds xs)/\J6 K H bs r
def Q4x (K:Fg9) (H0 H:Hp) (a:Addr) (dss:List (List D)):Prop:=∃bs o,H a=some (.frz o (.lst (bs.map V.ref)))/\bs.Nodup/\(∀b∈bs,H0 b=none)/\J6 K H bs dss
theorem J6.keep {K:Fg9}{H H':Hp} (k:Kp H H') (x:∀b φ,H b=some (.ext φ)->H' b=some (.ext φ)):∀{bs:List Addr}{dss:List (List D)},J6 K H bs dss->J6 K H' bs dss
 | [],_,h=>h
 | b::bs,_,h=>by obtain⟨ds,r,e,⟨xs,q,al⟩,t⟩:=h;exact⟨ds,r,e,⟨xs,x _ _ q,al.mono k _ _⟩,J6.keep k x t⟩
theorem Q4x.keep {K:Fg9}{H0 H H':Hp}{a:Addr}{dss:List (List D)} (h:Q4x K H0 H a dss) (k:Kp H H') (x:∀b φ,H b=some (.ext φ)->H' b=some (.ext φ)):Q4x K H0 H' a dss:=by
 obtain⟨bs,o,q,n,f,t⟩:=h
 exact⟨bs,o,k.frz _ _ _ q,n,f,t.keep k x⟩
inductive Sl where
 | dat (d:D) | own (ds:List D) | bor (ds:List D) | dk (kvs:List (A7×D)) | dt (kvs:List (List A7×D)) | bd (kvs:List (List A7×D)) | ob (a:Addr) | cl (a:Addr) (Φ:Hp->Prop) | ll (a:Addr) (dss:List (List D)) | ins (a C:Addr) (fs:List (Str×D))
noncomputable abbrev A8:=List (Option Sl)
noncomputable def Sl.mut:Sl->Bool
 | .own _=>true
 | .dk _=>true
 | .dt _=>true
 | .ins _ _ _=>true
 | _=>false
noncomputable def N6 (K:Fg9) (H0 H:Hp):Sl->V->Prop
 | .dat d,v=>A1 K H d v
 | .own ds,v=>∃a xs,v=.ref a/\H0 a=none/\H a=some (.lst xs)/\AllS K H ds xs
 | .bor ds,v=>∃a xs,v=.ref a/\H0 a=some (.lst xs)/\AllS K H ds xs
 | .dk kvs,v=>∃a ps,v=.ref a/\H0 a=none/\H a=some (.dK ps)/\B5 K H kvs ps
 | .dt kvs,v=>∃a ps,v=.ref a/\H0 a=none/\H a=some (.dT ps)/\B5 K H kvs ps
 | .bd kvs,v=>∃a ps,v=.ref a/\H0 a=some (.dT ps)/\B5 K H kvs ps
 | .ob a,v=>v=.ref a
 | .cl a Φ,v=>v=.ref a/\Φ H/\Q2f Φ
 | .ll a dss,v=>v=.ref a/\Q4x K H0 H a dss
 | .ins a C fs,v=>v=.ref a/\H0 a=none/\∃dx vs,H a=some (.ins C dx vs)/\B5 K H fs vs
theorem N6.mono {K:Fg9}{H0 H H':Hp} (s:A5 H H'):∀{r:Sl}{v:V},N6 K H0 H r v->N6 K H0 H' r v
 | .dat d,v,h=>A1.mono (Kp.of s) d v h
 | .own ds,v,h=>by obtain⟨a,xs,e,n,q,t⟩:=h;exact⟨a,xs,e,n,s _ _ q,t.mono (Kp.of s) _ _⟩
 | .bor ds,v,h=>by obtain⟨a,xs,e,q,t⟩:=h;exact⟨a,xs,e,q,t.mono (Kp.of s) _ _⟩
 | .bd ds,v,h=>by obtain⟨a,xs,e,q,t⟩:=h;exact⟨a,xs,e,q,t.mono (Kp.of s) _ _⟩
 | .dk ds,v,h=>by obtain⟨a,xs,e,n,q,t⟩:=h;exact⟨a,xs,e,n,s _ _ q,t.mono (Kp.of s) _ _⟩
 | .dt ds,v,h=>by obtain⟨a,xs,e,n,q,t⟩:=h;exact⟨a,xs,e,n,s _ _ q,t.mono (Kp.of s) _ _⟩
 | .ob a,v,h=>h
 | .cl a Φ,v,h=>⟨h.1,h.2.2 _ _ (Kp.of s) h.2.1,h.2.2⟩
 | .ll a dss,v,h=>⟨h.1,h.2.keep (Kp.of s) fun b φ q=>s _ _ q⟩
 | .ins a C fs,v,h=>by obtain⟨e,n,dx,vs,q,t⟩:=h;exact⟨e,n,dx,vs,s _ _ q,t.mono (Kp.of s) _ _⟩
structure B9 (K:Fg9) (H0:Hp) (τ:A8) (σ:St) (H:Hp):Prop where
 len:τ.length=σ.length
 same:A5 H0 H
 here:∀(i:Nat) (s:Sl),τ[i]?=some (some s)->∃v,σ[i]?=some (some v)/\N6 K H0 H s v
 apart:∀(i j:Nat) (s t:Sl) (v:V),i≠j->τ[i]?=some (some s)->τ[j]?=some (some t)->s.mut=true->t.mut=true->σ[i]?=some (some v)->σ[j]?=some (some v)->False
theorem B9.mono {K:Fg9}{H0 H H':Hp} {τ:A8} {σ:St} (h:B9 K H0 τ σ H) (s:A5 H H'):B9 K H0 τ σ H' :=
 ⟨h.len,h.same.trans s,fun i sl e=>let ⟨v,q,r⟩:=h.here i sl e;⟨v,q,r.mono s⟩,h.apart⟩
noncomputable abbrev WE:=A8->(R->Prop)->Prop
def Z2c (K:Fg9) (H0:Hp) (w:WE):TE:=fun σ H Q=>∃ τ,B9 K H0 τ σ H/\w τ fun r=>∀v H',A5 H H'->D9 K H H' r v->Q v H'
structure DE (X:Cx) (H0:Hp) (e:Expr) (w:WE):Prop where
 mono:∀(τ:A8) (P Q:R->Prop),(∀r,P r->Q r)->w τ P->w τ Q
 pe:PE X e (Z2c X.K H0 w)
noncomputable abbrev WT:=A8->(Bool->Prop)->Prop
def Z2d (K:Fg9) (H0:Hp) (w:WT):TT:=fun σ H Q=>∃ τ,B9 K H0 τ σ H/\w τ fun b=>∀H',A5 H H'->Q b H'
structure DT (X:Cx) (H0:Hp) (e:Expr) (w:WT):Prop where
 mono:∀(τ:A8) (P Q:Bool->Prop),(∀r,P r->Q r)->w τ P->w τ Q
 pt:PT X e (Z2d X.K H0 w)
structure DW (X:Cx) (H0:Hp) (e:Expr) (w:WT):Prop where
 mono:∀(τ:A8) (P Q:Bool->Prop),(∀r,P r->Q r)->w τ P->w τ Q
 pw:PW X e (Z2d X.K H0 w)
noncomputable abbrev WA:=A8->(List R->Prop)->Prop
noncomputable def K5 (K:Fg9) (H0 H:Hp):List R->List V->Prop
 | [],vs=>vs=[]
 | r::rs,vs=>∃v t,vs=v::t/\D9 K H0 H r v/\K5 K H0 H rs t
def Y9r (K:Fg9) (H0:Hp) (w:WA):TA:=fun σ H Q=>∃ τ,B9 K H0 τ σ H/\w τ fun rs=>∀vs H',A5 H H'->K5 K H H' rs vs->Q vs H'
structure DA (X:Cx) (H0:Hp) (es:List Expr) (w:WA):Prop where
 len:∀(τ:A8) (Q:List R->Prop),w τ Q->w τ fun rs=>rs.length=es.length/\Q rs
 mono:∀(τ:A8) (P Q:List R->Prop),(∀r,P r->Q r)->w τ P->w τ Q
 pa:PA X es (Y9r X.K H0 w)
structure F4 where
 nx:A8->Prop
 rt:R->Prop
 bk:A8->Prop
 ct:A8->Prop
noncomputable abbrev WS:=F4->A8->Prop
structure F4.Le (E F:F4):Prop where
 nx:∀ τ,E.nx τ->F.nx τ
 rt:∀r,E.rt r->F.rt r
 bk:∀ τ,E.bk τ->F.bk τ
 ct:∀ τ,E.ct τ->F.ct τ
noncomputable def L4 (K:Fg9) (H0 Hs:Hp) (D:L7):F4 where
 nx:=fun τ=>∀ σ H,Kp Hs H->B9 K H0 τ σ H->D.nx σ H
 rt:=fun r=>∀v H,A5 H0 H->D9 K H0 H r v->D.rt v H
 bk:=fun τ=>∀ σ H,Kp Hs H->B9 K H0 τ σ H->D.bk σ H
 ct:=fun τ=>∀ σ H,Kp Hs H->B9 K H0 τ σ H->D.ct σ H
theorem Z2b {K:Fg9}{H0 H H1:Hp}{D:L7} (k:Kp H H1):(L4 K H0 H D).Le (L4 K H0 H1 D) :=
 ⟨fun τ h σ H2 k2 hR=>h σ H2 (k.trans k2) hR,fun _ h=>h,fun τ h σ H2 k2 hR=>h σ H2 (k.trans k2) hR,fun τ h σ H2 k2 hR=>h σ H2 (k.trans k2) hR⟩
def Z9l (K:Fg9) (H0:Hp) (w:WS):TS:=fun D σ H=>∃ τ,B9 K H0 τ σ H/\w (L4 K H0 H D) τ
structure DS (X:Cx) (H0:Hp) (st:Stmt) (w:WS):Prop where
 mono:∀(τ:A8) (E F:F4),E.Le F->w E τ->w F τ
 ps:PS X st (Z9l X.K H0 w)
structure A6 (X:Cx) (H0:Hp) (jA:List Stmt) (w:WS):Prop where
 mono:∀(τ:A8) (E F:F4),E.Le F->w E τ->w F τ
 ps:PSs X jA (Z9l X.K H0 w)
theorem M7 {X:Cx}{e:Expr}{t t':TE} (h:PE X e t) (f:∀ σ H Q,t' σ H Q->t σ H Q):PE X e t':=fun ac s σ H Q I q=>h ac s σ H Q I (f σ H Q q)
theorem ptW {X:Cx}{e:Expr}{t t':TT} (h:PT X e t) (f:∀ σ H Q,t' σ H Q->t σ H Q):PT X e t':=fun ac s σ H Q I q=>h ac s σ H Q I (f σ H Q q)
theorem pwW {X:Cx}{e:Expr}{t t':TT} (h:PW X e t) (f:∀ σ H Q,t' σ H Q->t σ H Q):PW X e t':=fun whole ac s σ H Q I q=>h whole ac s σ H Q I (f σ H Q q)
theorem paW {X:Cx}{e:List Expr}{t t':TA} (h:PA X e t) (f:∀ σ H Q,t' σ H Q->t σ H Q):PA X e t':=fun pos ac s σ H Q I q=>h pos ac s σ H Q I (f σ H Q q)
theorem Q3 {X:Cx}{e:Stmt}{t t':TS} (h:PS X e t) (f:∀D σ H,t' D σ H->t D σ H):PS X e t':=fun ac s σ H D I q=>h ac s σ H D I (f D σ H q)
theorem Q8g {X:Cx}{e:List Stmt}{t t':TS} (h:PSs X e t) (f:∀D σ H,t' D σ H->t D σ H):PSs X e t':=fun ac s σ H D I q=>h ac s σ H D I (f D σ H q)
noncomputable abbrev IsV (K:Fg9) (H:Hp):R->V->Prop:=D9 K (fun _=>none) H
theorem D9.v {K:Fg9}{H0 H:Hp}:∀{r:R}{v:V},D9 K H0 H r v->IsV K H r v
 | .st d,v,h=>h
 | .nw ds,v,h=>by obtain⟨a,xs,e,n,q,t⟩:=h;exact⟨a,xs,e,rfl,q,t⟩
 | .bw ds,v,h=>h
 | .dk ds,v,h=>h
 | .dt ds,v,h=>h
 | .ob a,v,h=>h
 | .cl _ _,v,h=>h
 | .ms _ _ _ _,v,h=>h
theorem Q7p {K:Fg9}{H0 H:Hp}{k:Bool}:D9 K H0 H (.st (.bl k)) (.bl k):=A1.s_bl (K:=K) (H:=H)
theorem U7 {K:Fg9}{H0 H:Hp}{k:Int}:D9 K H0 H (.st (.int k)) (.int k):=A1.s_int (K:=K) (H:=H)
theorem Z1t {K:Fg9}{H0 H:Hp}{k:Str}:D9 K H0 H (.st (.str k)) (.str k):=A1.s_str (K:=K) (H:=H)
section
variable {X:Cx}{H0:Hp}{a b c e:Expr}{pos:Pos}{wa wb wc we:WE}
noncomputable def Q8:Sl->R
 | .dat d=>.st d
 | .own ds=>.bw ds
 | .bor ds=>.bw ds
 | .dk k=>.dk k
 | .dt k=>.dt k
 | .bd k=>.dt k
 | .ob a=>.ob a
 | .cl a Φ=>.cl a Φ
 | .ll a _=>.ob a
 | .ins a _ _=>.ob a
theorem N6.rd {K:Fg9}{H0 H Hs:Hp} (s:A5 H0 H):∀{r:Sl}{v:V},N6 K H0 H r v->D9 K Hs H (Q8 r) v
 | .dat d,v,h=>h
 | .own ds,v,h=>by obtain⟨a,xs,e,n,q,t⟩:=h;exact⟨a,xs,e,q,t⟩
 | .bor ds,v,h=>by obtain⟨a,xs,e,q,t⟩:=h;exact⟨a,xs,e,s _ _ q,t⟩
 | .bd ds,v,h=>by obtain⟨a,xs,e,q,t⟩:=h;exact⟨a,xs,e,s _ _ q,t⟩
 | .dk ds,v,h=>by obtain⟨a,xs,e,n,q,t⟩:=h;exact⟨a,xs,e,q,t⟩
 | .dt ds,v,h=>by obtain⟨a,xs,e,n,q,t⟩:=h;exact⟨a,xs,e,q,t⟩
 | .ob a,v,h=>h
 | .cl _ _,v,h=>h
 | .ll a _,v,h=>h.1
 | .ins a C fs,v,h=>h.1
def wV (i:Nat):WE:=fun τ Q=>∃s,τ[i]?=some (some s)/\Q (Q8 s)
theorem DE.var {i:Nat} (h:PE X e (O3 i)):DE X H0 e (wV i) where
 mono:=fun τ P Q f ⟨s,h1,h2⟩=>⟨s,h1,f _ h2⟩
 pe:=M7 h fun σ H Q ⟨τ,hR,s,h1,h2⟩=>by
  obtain⟨v,hv,q⟩:=hR.here i s h1
  exact⟨v,hv,h2 v H (A5.refl H) (q.rd hR.same)⟩
def wC (d:D):WE:=fun _ Q=>Q (.st d)
theorem DE.con {v:V}{d:D} (h:PE X e (tC v)) (hd:∀K H,A1 K H d v):DE X H0 e (wC d) where
 mono:=fun τ P Q f h=>f _ h
 pe:=M7 h fun σ H Q ⟨τ,hR,h⟩=>h v H (A5.refl H) (hd _ _)
theorem DE.int {i:Int}{j:Nat}:DE X H0 (.Constant (.int i) j pos) (wC (.int i)):=DE.con W2z fun _ _=>A1.s_int
theorem DE.bl {i:Bool}{j:Nat}:DE X H0 (.Constant (.bool i) j pos) (wC (.bl i)):=DE.con W2o fun _ _=>A1.s_bl
theorem DE.str {i:Str}{j:Nat}:DE X H0 (.Constant (.str i) j pos) (wC (.str i)):=DE.con W3j fun _ _=>A1.s_str
noncomputable def fzR:R->(D->Prop)->Prop
 | .st d,Q=>Q d
 | .nw ds,Q=>Q (.lst ds)
 | _,_=>False
theorem A0.freeze {ac:Pn9} {σ:St}{H:Hp}{s:Shared}{x:Addr}{xs:List V} (I:A0 X ac σ H s) (h:H x=some (.lst xs)):∃o,A0 X ac σ (upd H x (.frz o (.lst xs))) s:=by
 obtain⟨z,aU,n,r,q⟩:=I.hok x _ h
 refine⟨_,I.write (t':=s.toks) (h':=s.heap) (e:=x) (o:=.frz { cls:=.type "list",data:=.seq aU.toArray n } (.lst xs)) (by rw [h];trivial) (.inl rfl) (fun b u _ k=>k) ⟨_,q⟩ ?_⟩
 exact⟨q,z,aU,n,r,q⟩
theorem DE.fz (h:DE X H0 e we):DE X H0 e (fun τ Q=>we τ fun r=>fzR r fun d=>Q (.st d)) where
 mono:=fun τ P Q f h'=>h.mono τ _ _ (fun r q=>by
  cases r <;> first | exact f _ q | exact q) h'
 pe:=by
  intro ac s σ H Q I ⟨τ,hR,hw⟩
  refine B3 (h.pe ac s σ H (fun v H'=>A5 H H'/\∃r,D9 X.K H H' r v/\fzR r fun d=>∀v H',A5 H H'->A1 X.K H' d v->Q v H') I ⟨τ,hR,h.mono τ _ _ (fun r q v H' sm ir=>⟨sm,r,ir,q⟩) hw⟩) ?_
  rintro u s1 ⟨v,H1,I1,rv,sm,r,ir,q⟩
  cases r with
  | st d=>exact⟨v,H1,I1,rv,q v H1 sm ir⟩
  | nw ds =>
   obtain⟨p,xs,rfl,hn,hp,al⟩:=ir
   obtain⟨o,I2⟩:=A0.freeze I1 hp
   refine⟨.ref p,_,I2,rv,q _ _ (fun b ob hb=>?_) (A1.s_lst (.inl ⟨o,upd_same⟩) (al.mono (Kp.upd hp _) _ _))⟩
   rw [B1 (U9 hb hn)]
   exact sm b ob hb
  | bw _=>exact q.elim
  | dk _=>exact q.elim
  | dt _=>exact q.elim
  | ob _=>exact q.elim
  | cl _ _=>exact q.elim
  | ms _ _ _ _=>exact q.elim
theorem two (ha:DE X H0 a wa) (hb:DE X H0 b wb) {τ:A8} {σ:St}{H:Hp} (hR:B9 X.K H0 τ σ H) {F:R->R->Prop} (h:wa τ fun x=>wb τ fun y=>F x y) {G:V->V->Hp->Prop}
  (hG:∀x y v u H',A5 H H'->D9 X.K H H' x v->D9 X.K H H' y u->F x y->G v u H'):Z2c X.K H0 wa σ H fun v H1=>Z2c X.K H0 wb σ H1 fun u H2=>G v u H2 :=
 ⟨τ,hR,ha.mono τ _ _ (fun x hx v H1 s1 r1=>⟨τ,hR.mono s1,hb.mono τ _ _ (fun y hy u H2 s2 r2=>hG x y v u H2 (s1.trans s2) (r1.mono s2) (r2.older s1) hy) hx⟩) h⟩
def OpD (X:Cx) (f:Value->Value->Sem Value) (g:R->R->(R->Prop)->Prop):Prop :=
 N5 X f (fun x y H Q=>∃r1 r2,IsV X.K H r1 x/\IsV X.K H r2 y/\g r1 r2 fun r=>∀v H',A5 H H'->D9 X.K H H' r v->Q v H')
def X7 {α:Type} (g:R->R->(α->Prop)->Prop):Prop:=∀x y (P Q:α->Prop),(∀r,P r->Q r)->g x y P->g x y Q
noncomputable def A3 {α:Type} (g:R->R->(α->Prop)->Prop) (wa wb:WE):A8->(α->Prop)->Prop:=fun τ Q=>wa τ fun x=>wb τ fun y=>g x y Q
theorem DE.op {op:Operator}{g:R->R->(R->Prop)->Prop} (ho:OpD X (binaryOp op) g) (mg:X7 g) (ha:DE X H0 a wa) (hb:DE X H0 b wb):DE X H0 (.BinOp a op b pos) (A3 g wa wb) where
 mono:=fun τ P Q f h=>ha.mono τ _ _ (fun x h=>hb.mono τ _ _ (fun y h=>mg x y P Q f h) h) h
 pe:=M7 (W3f ho ha.pe hb.pe) fun σ H Q ⟨τ,hR,h⟩=>two ha hb hR h fun x y v u H' sm rx ry q =>
  ⟨x,y,rx.v,ry.v,mg x y _ _ (fun r q v cZ s2 ir=>q v cZ (sm.trans s2) (ir.older sm)) q⟩
def V5 (X:Cx) (op:CmpOp) (g:R->R->(Bool->Prop)->Prop):Prop :=
 N5 X (compareOp op) (fun x y H Q=>∃r1 r2,IsV X.K H r1 x/\IsV X.K H r2 y/\g r1 r2 fun k=>Q (.bl k) H)
theorem DE.cmp {op:CmpOp}{g:R->R->(Bool->Prop)->Prop} (ho:V5 X op g) (mg:X7 g) (ha:DE X H0 a wa) (hb:DE X H0 b wb) (hm:behindInMarks op b=false) :
  DE X H0 (.Compare a [op] [b] pos) (fun τ Q=>A3 g wa wb τ fun k=>Q (.st (.bl k))) where
 mono:=fun τ P Q f h=>ha.mono τ _ _ (fun x h=>hb.mono τ _ _ (fun y h=>mg x y _ _ (fun k q=>f _ q) h) h) h
 pe:=M7 (W2s ho ha.pe hb.pe hm) fun σ H Q ⟨τ,hR,h⟩=>two ha hb hR h fun x y v u H' sm rx ry q =>
  ⟨x,y,rx.v,ry.v,mg x y _ _ (fun r q=>q _ _ sm Q7p) q⟩
theorem DT.cmp {op:CmpOp}{g:R->R->(Bool->Prop)->Prop} (ho:V5 X op g) (mg:X7 g) (ha:DE X H0 a wa) (hb:DE X H0 b wb) (hm:behindInMarks op b=false) :
  DT X H0 (.Compare a [op] [b] pos) (A3 g wa wb) where
 mono:=fun τ P Q f h=>ha.mono τ _ _ (fun x h=>hb.mono τ _ _ (fun y h=>mg x y _ _ (fun k q=>f _ q) h) h) h
 pt:=ptW (W4f ho ha.pe hb.pe hm) fun σ H Q ⟨τ,hR,h⟩=>two ha hb hR h fun x y v u H' sm rx ry q =>
  ⟨x,y,rx.v,ry.v,mg x y _ _ (fun r q=>⟨r,rfl,q _ sm⟩) q⟩
noncomputable def Q2c:R->(Bool->Prop)->Prop
 | .st .non,Q=>Q false
 | .st (.bl b),Q=>Q b
 | .st (.int i),Q=>Q (i != 0)
 | .st (.str x),Q=>x.length<=sizeLine/\Q ((x.length:Int) != 0)
 | .st (.tup ds),Q=>Q (!ds.isEmpty)
 | .st (.lst ds),Q=>Q (!ds.isEmpty)
 | .nw ds,Q=>Q (!ds.isEmpty)
 | .bw ds,Q=>Q (!ds.isEmpty)
 | .dk kvs,Q=>Q (!kvs.isEmpty)
 | .dt _,_=>False
 | .ob _,_=>False
 | .cl _ _,_=>False
 | .ms _ _ _ _,_=>False
theorem AllS.empty {K:Fg9}{H:Hp}{ds:List D}{xs:List V} (h:AllS K H ds xs):ds.isEmpty=xs.isEmpty:=by
 have:=h.length
 cases ds <;> cases xs <;> simp_all
theorem W8i (r:R) (P Q:Bool->Prop) (f:∀r,P r->Q r) (h:Q2c r P):Q2c r Q:=by
 unfold Q2c at h ⊢
 split at h <;> first | exact f _ h | exact⟨h.1,f _ h.2⟩ | exact h
theorem W8j {K:Fg9}{H:Hp}{r:R}{v:V} (ir:IsV K H r v) {Q:Bool->Prop} (h:Q2c r Q):∃k,Z0m K v H k/\Q k:=by
 cases r with
 | st d =>
  cases d with
  | non=>cases (show v=.non from ir);exact⟨_,rfl,h⟩
  | bl b=>cases (show v=.bl b from ir);exact⟨_,rfl,h⟩
  | int b=>cases (show v=.int b from ir);exact⟨_,rfl,h⟩
  | str b=>cases (show v=.str b from ir);exact⟨_,⟨h.1,rfl⟩,h.2⟩
  | tup ds =>
   have ir:A1 K H (.tup ds) v:=ir
   unfold A1 at ir
   obtain⟨p,xs,rfl,q,al⟩:=ir
   exact⟨_,.inr (.inl ⟨xs,C2.of q,rfl⟩),by rw [<- al.empty];exact h⟩
  | lst ds =>
   have ir:A1 K H (.lst ds) v:=ir
   unfold A1 at ir
   obtain⟨p,xs,rfl,q,al⟩:=ir
   exact⟨_,.inl ⟨xs,q.sq,rfl⟩,by rw [<- al.empty];exact h⟩
 | nw ds=>obtain⟨p,xs,rfl,_,q,al⟩:=ir;exact⟨_,.inl ⟨xs,C6.of q,rfl⟩,by rw [<- al.empty];exact h⟩
 | bw ds=>obtain⟨p,xs,rfl,q,al⟩:=ir;exact⟨_,.inl ⟨xs,C6.of q,rfl⟩,by rw [<- al.empty];exact h⟩
 | dk ds =>
  obtain⟨p,xs,rfl,q,al⟩:=ir
  refine⟨_,.inr (.inr ⟨xs,q,rfl⟩),?_⟩
  cases ds with
  | nil=>cases (show xs=[]from al);exact h
  | cons d ds=>obtain⟨v,r,rfl,_⟩:=al;exact h
 | dt _=>exact h.elim
 | ob _=>exact h.elim
 | cl _ _=>exact h.elim
 | ms _ _ _ _=>exact h.elim
theorem DT.tru (ha:DE X H0 a wa) (he:∀whole,isTrue a X.env whole=(do let v <- whole;standAt a.pos;holding [v] (truthy v))):DT X H0 a (fun τ Q=>wa τ fun r=>Q2c r Q) where
 mono:=fun τ P Q f h=>ha.mono τ _ _ (fun x h=>W8i x P Q f h) h
 pt:=ptW (W4h ha.pe he) fun σ H Q ⟨τ,hR,h⟩=>⟨τ,hR,ha.mono τ _ _ (fun r q v H' sm ir=>by
  obtain⟨k,h1,h2⟩:=W8j ir.v q
  exact⟨k,h1,h2 H' sm⟩) h⟩
variable {ta tb tc:WT}{rest:List Expr}
def Q9f (t u:WT):WT:=fun τ Q=>t τ fun k=>if k=true then u τ Q else Q false
def wOr (t u:WT):WT:=fun τ Q=>t τ fun k=>if k=true then Q true else u τ Q
def Q3i (t:WT):WT:=fun τ Q=>t τ fun k=>Q (!k)
theorem X3 {c A B A' B':Prop} [Decidable c] (f:A->A') (g:B->B') (h:if c then A else B):if c then A' else B':=by
 split at h
 ·rename_i hc;rw [aE hc];exact f h
 ·rename_i hc;rw [aC hc];exact g h
theorem DW.and1 (ha:DT X H0 a ta):DW X H0 (.BoolOp .And [a] pos) ta:=⟨ha.mono,W4j ha.pt⟩
theorem DW.or1 (ha:DT X H0 a ta):DW X H0 (.BoolOp .Or [a] pos) ta:=⟨ha.mono,W4l ha.pt⟩
theorem DW.and (ha:DT X H0 a ta) (hb:DW X H0 (.BoolOp .And (b::rest) pos) tb):DW X H0 (.BoolOp .And (a::b::rest) pos) (Q9f ta tb) where
 mono:=fun τ P Q f h=>ha.mono τ _ _ (fun k h=>X3 (hb.mono τ _ _ f) (f _) h) h
 pw:=pwW (W4i ha.pt hb.pw) fun σ H Q ⟨τ,hR,h⟩=>⟨τ,hR,ha.mono τ _ _ (fun k q H1 s1 =>
  X3 (fun h=>⟨τ,hR.mono s1,hb.mono τ _ _ (fun k q H2 s2=>q H2 (s1.trans s2)) h⟩) (fun h=>h H1 s1) q) h⟩
theorem DW.or (ha:DT X H0 a ta) (hb:DW X H0 (.BoolOp .Or (b::rest) pos) tb):DW X H0 (.BoolOp .Or (a::b::rest) pos) (wOr ta tb) where
 mono:=fun τ P Q f h=>ha.mono τ _ _ (fun k h=>X3 (f _) (hb.mono τ _ _ f) h) h
 pw:=pwW (W4k ha.pt hb.pw) fun σ H Q ⟨τ,hR,h⟩=>⟨τ,hR,ha.mono τ _ _ (fun k q H1 s1 =>
  X3 (fun h=>h H1 s1) (fun h=>⟨τ,hR.mono s1,hb.mono τ _ _ (fun k q H2 s2=>q H2 (s1.trans s2)) h⟩) q) h⟩
theorem DW.t (h:DW X H0 a ta):DT X H0 a ta:=⟨h.mono,h.pw.pt⟩
theorem DT.nt (ha:DT X H0 a ta):DT X H0 (.UnaryOp .Not a pos) (Q3i ta) where
 mono:=fun τ P Q f h=>ha.mono τ _ _ (fun k h=>f _ h) h
 pt:=ptW (W4g ha.pt) fun σ H Q ⟨τ,hR,h⟩=>⟨τ,hR,h⟩
noncomputable def blR:R->(Bool->Prop)->Prop
 | .st (.bl b),Q=>Q b
 | _,_=>False
theorem Q7d {r:R}{P:Bool->Prop} (h:blR r P):∃k,r=.st (.bl k)/\P k:=by
 unfold blR at h
 split at h
 ·exact⟨_,rfl,h⟩
 ·exact h.elim
def Q6m (wa wb:WE):WE:=fun τ Q=>wa τ fun r=>blR r fun k=>if k=true then wb τ Q else Q (.st (.bl false))
def Q9q (wa wb:WE):WE:=fun τ Q=>wa τ fun r=>blR r fun k=>if k=true then Q (.st (.bl true))else wb τ Q
theorem DE.and1 (ha:DE X H0 a wa):DE X H0 (.BoolOp .And [a] pos) wa:=⟨ha.mono,Y1f ha.pe⟩
theorem DE.or1 (ha:DE X H0 a wa):DE X H0 (.BoolOp .Or [a] pos) wa:=⟨ha.mono,Y1f ha.pe⟩
theorem DE.and (ha:DE X H0 a wa) (hb:DE X H0 (.BoolOp .And (b::rest) pos) wb):DE X H0 (.BoolOp .And (a::b::rest) pos) (Q6m wa wb) where
 mono:=fun τ P Q f h=>ha.mono τ _ _ (fun r h=>by
  obtain⟨k,rfl,h⟩:=Q7d h
  exact X3 (hb.mono τ _ _ f) (f _) h) h
 pe:=M7 (W2n ha.pe hb.pe) fun σ H Q ⟨τ,hR,h⟩=>⟨τ,hR,ha.mono τ _ _ (fun r h v H1 s1 ir=>by
  obtain⟨k,rfl,h⟩:=Q7d h
  refine⟨k,ir,X3 (fun h=>⟨τ,hR.mono s1,hb.mono τ _ _ (fun r q u H2 s2 iu=>q u H2 (s1.trans s2) (iu.older s1)) h⟩) (fun h=>h _ _ s1 Q7p) h⟩) h⟩
theorem DE.or (ha:DE X H0 a wa) (hb:DE X H0 (.BoolOp .Or (b::rest) pos) wb):DE X H0 (.BoolOp .Or (a::b::rest) pos) (Q9q wa wb) where
 mono:=fun τ P Q f h=>ha.mono τ _ _ (fun r h=>by
  obtain⟨k,rfl,h⟩:=Q7d h
  exact X3 (f _) (hb.mono τ _ _ f) h) h
 pe:=M7 (W3g ha.pe hb.pe) fun σ H Q ⟨τ,hR,h⟩=>⟨τ,hR,ha.mono τ _ _ (fun r h v H1 s1 ir=>by
  obtain⟨k,rfl,h⟩:=Q7d h
  refine⟨k,ir,X3 (fun h=>h _ _ s1 Q7p) (fun h=>⟨τ,hR.mono s1,hb.mono τ _ _ (fun r q u H2 s2 iu=>q u H2 (s1.trans s2) (iu.older s1)) h⟩) h⟩) h⟩
variable {es:List Expr}{wr:WA}
def A4:WA:=fun _ Q=>Q []
def A2 (we:WE) (wr:WA):WA:=fun τ Q=>we τ fun r=>wr τ fun rs=>Q (r::rs)
theorem K5.older {K:Fg9}{H0 H1 H:Hp} (s:A5 H0 H1):∀{rs:List R}{vs:List V},K5 K H1 H rs vs->K5 K H0 H rs vs
 | [],_,h=>h
 | r::rs,_,h=>by obtain⟨v,t,e,q,z⟩:=h;exact⟨v,t,e,q.older s,K5.older s z⟩
theorem DA.nil:DA X H0 [] A4:=⟨fun τ Q h=>⟨rfl,h⟩,fun τ P Q f h=>f _ h,paW Q2z fun σ H Q ⟨τ,hR,h⟩=>h [] H (A5.refl H) rfl⟩
theorem DA.cons (ha:DE X H0 e we) (hr:DA X H0 es wr) (hs:starEach (e::es) X.env=(false,eval e X.env)::starEach es X.env:=by rfl):DA X H0 (e::es) (A2 we wr) where
 len:=fun τ Q h=>ha.mono τ _ _ (fun r h=>hr.mono τ _ _ (fun rs h=>⟨by rw [aA,aA,h.1],h.2⟩) (hr.len τ _ h)) h
 mono:=fun τ P Q f h=>ha.mono τ _ _ (fun r h=>hr.mono τ _ _ (fun rs h=>f _ h) h) h
 pa:=paW (Q1b ha.pe hr.pa hs) fun σ H Q ⟨τ,hR,h⟩=>⟨τ,hR,ha.mono τ _ _ (fun r h v H1 s1 ir=>⟨τ,hR.mono s1,hr.mono τ _ _ (fun rs h vs H2 s2 ck =>
  h (v::vs) H2 (s1.trans s2) ⟨v,vs,rfl,ir.mono s2,ck.older s1⟩) h⟩) h⟩
noncomputable def Z9:List R->Option (List D)
 | []=>some []
 | .st d::rs=>(Z9 rs).map (d::·)
 | _::_=>none
theorem Z3o {K:Fg9}{H0 H:Hp}:∀{rs:List R}{ds:List D}{vs:List V},Z9 rs=some ds->K5 K H0 H rs vs->AllS K H ds vs
 | [],ds,vs,h,q=>by cases h;cases q;exact AllS.nil
 | .st d::rs,ds,vs,h,q=>by
  obtain⟨v,t,rfl,iv,z⟩:=q
  unfold Z9 at h
  cases e:Z9 rs with
  | none=>rw [e]at h;cases h
  | some es=>rw [e]at h;cases h;exact AllS.cons iv (Z3o e z)
 | .nw _::_,_,_,h,_=>by cases h
 | .bw _::_,_,_,h,_=>by cases h
 | .dk _::_,_,_,h,_=>by cases h
 | .dt _::_,_,_,h,_=>by cases h
 | .ob _::_,_,_,h,_=>by cases h
 | .cl _ _::_,_,_,h,_=>by cases h
 | .ms _ _ _ _::_,_,_,h,_=>by cases h
def T4 (wr:WA):WE:=fun τ Q=>wr τ fun rs=>∃ds,Z9 rs=some ds/\ds.length<=sizeLine/\Q (.st (.tup ds))
def M3 (wr:WA):WE:=fun τ Q=>wr τ fun rs=>∃ds,Z9 rs=some ds/\ds.length<=sizeLine/\Q (.nw ds)
theorem DE.tup {k:Nat} (h:DA X H0 es wr):DE X H0 (.Tuple es k pos) (T4 wr) where
 mono:=fun τ P Q f h'=>h.mono τ _ _ (fun rs ⟨ds,e,l,q⟩=>⟨ds,e,l,f _ q⟩) h'
 pe:=M7 (W3k h.pa) fun σ H Q ⟨τ,hR,h'⟩=>⟨τ,hR,h.mono τ _ _ (fun rs ⟨ds,e,l,q⟩ vs H1 s1 ck=>by
  have al:=Z3o e ck
  refine⟨by rw [<- al.length];exact l,fun p hp=>q _ _ (s1.trans (D7 hp _)) (A1.s_tup upd_same (al.mono (Kp.of (D7 hp _)) _ _))⟩) h'⟩
theorem DE.lst (h:DA X H0 es wr):DE X H0 (.List es pos) (M3 wr) where
 mono:=fun τ P Q f h'=>h.mono τ _ _ (fun rs ⟨ds,e,l,q⟩=>⟨ds,e,l,f _ q⟩) h'
 pe:=M7 (W3d h.pa) fun σ H Q ⟨τ,hR,h'⟩=>⟨τ,hR,h.mono τ _ _ (fun rs ⟨ds,e,l,q⟩ vs H1 s1 ck=>by
  have al:=Z3o e ck
  refine⟨by rw [<- al.length];exact l,fun p hp=>q _ _ (s1.trans (D7 hp _)) ⟨p,vs,rfl,s1.free hp,upd_same,al.mono (Kp.of (D7 hp _)) _ _⟩⟩) h'⟩
end
theorem Z1 {α:Type}{l:List (Option α)}{i:Nat}{x:Option α} (h:i<l.length):(l.set i x)[i]?=some x:=by simp [h]
theorem B9.set {K:Fg9}{H0 H:Hp} {τ:A8} {σ:St}{i:Nat}{s:Sl}{v:V} (h:B9 K H0 τ σ H) (q:N6 K H0 H s v)
  (ap:s.mut=true->∀(j:Nat) (t:Sl),j≠i->τ[j]?=some (some t)->t.mut=true->σ[j]?≠some (some v)):B9 K H0 (τ.set i (some s)) (σ.set i (some v)) H where
 len:=by rw [bN,bN];exact h.len
 same:=h.same
 here:=fun j t e=>by
  by_cases hj:j=i
  ·subst hj
   by_cases hl:j<τ.length
   ·rw [Z1 hl]at e
    cases e
    exact⟨v,Z1 (by rw [<- h.len];exact hl),q⟩
   ·rw [aJ.mpr (by rw [bN];omega)]at e;cases e
  ·rw [aG (fun z=>hj z.symm)]at e ⊢
   exact h.here j t e
 apart:=fun j k s1 s2 u cA e1 e2 m1 m2 q1 q2=>by
  by_cases hj:j=i
  ·subst hj
   have hk:k≠j:=fun z=>cA z.symm
   by_cases hl:j<τ.length
   ·rw [Z1 hl]at e1
    cases e1
    rw [Z1 (by rw [<- h.len];exact hl)]at q1
    cases q1
    rw [aG (fun z=>hk z.symm)]at e2 q2
    exact ap m1 k s2 hk e2 m2 q2
   ·rw [aJ.mpr (by rw [bN];omega)]at e1;cases e1
  ·by_cases hk:k=i
   ·subst hk
    by_cases hl:k<τ.length
    ·rw [Z1 hl]at e2
     cases e2
     rw [Z1 (by rw [<- h.len];exact hl)]at q2
     cases q2
     rw [aG (fun z=>hj z.symm)]at e1 q1
     exact ap m2 j s1 hj e1 m1 q1
    ·rw [aJ.mpr (by rw [bN];omega)]at e2;cases e2
   ·rw [aG (fun z=>hj z.symm)]at e1 q1
    rw [aG (fun z=>hk z.symm)]at e2 q2
    exact h.apart j k s1 s2 u cA e1 e2 m1 m2 q1 q2
theorem B9.tracked {K:Fg9}{H0 H:Hp} {τ:A8} {σ:St}{j:Nat}{t:Sl}{p:Addr} (h:B9 K H0 τ σ H) (e:τ[j]?=some (some t)) (m:t.mut=true) (q:σ[j]?=some (some (.ref p))):∃o,H p=some o:=by
 obtain⟨v,hv,r⟩:=h.here j t e
 rw [q]at hv;cases hv
 cases t with
 | dat _=>cases m
 | bor _=>cases m
 | bd _=>cases m
 | own ds=>obtain⟨a,xs,e,_,q,_⟩:=r;cases e;exact⟨_,q⟩
 | dk ds=>obtain⟨a,xs,e,_,q,_⟩:=r;cases e;exact⟨_,q⟩
 | dt ds=>obtain⟨a,xs,e,_,q,_⟩:=r;cases e;exact⟨_,q⟩
 | ob _=>cases m
 | cl _ _=>cases m
 | ll _ _=>cases m
 | ins _ _ _=>obtain⟨e,_,dx,xs,q,_⟩:=r;cases e;exact⟨_,q⟩
noncomputable def Q0p:R->(Sl->Prop)->Prop
 | .st d,Q=>Q (.dat d)
 | .nw ds,Q=>Q (.own ds)
 | _,_=>False
theorem W7o {r:R}{P:Sl->Prop} (h:Q0p r P):∃s,P s/\((∃d,r=.st d/\s=.dat d)\/∃ds,r=.nw ds/\s=.own ds):=by
 cases r with
 | st d=>exact⟨_,h,.inl ⟨d,rfl,rfl⟩⟩
 | nw ds=>exact⟨_,h,.inr ⟨ds,rfl,rfl⟩⟩
 | bw _=>exact h.elim
 | dk _=>exact h.elim
 | dt _=>exact h.elim
 | ob _=>exact h.elim
 | cl _ _=>exact h.elim
 | ms _ _ _ _=>exact h.elim
theorem Z3z {r:R}{P Q:Sl->Prop} (f:∀s,P s->Q s) (h:Q0p r P):Q0p r Q:=by
 cases r <;> first | exact f _ h | exact h
theorem B9.store {K:Fg9}{H0 H H1:Hp} {τ:A8} {σ:St}{i:Nat}{r:R}{v:V} (h:B9 K H0 τ σ H) (sm:A5 H H1) (ir:D9 K H H1 r v) {P:Sl->Prop} (st:Q0p r P):∃s,P s/\B9 K H0 (τ.set i (some s)) (σ.set i (some v)) H1:=by
 obtain⟨s,p,⟨d,rfl,rfl⟩ | ⟨ds,rfl,rfl⟩⟩:=W7o st
 ·exact⟨_,p,(h.mono sm).set ir fun m=>by cases m⟩
 ·obtain⟨a,xs,rfl,hn,ha,al⟩:=ir
  refine⟨_,p,(h.mono sm).set ⟨a,xs,rfl,h.same.free hn,ha,al⟩ fun _ j t hj e m q=>?_⟩
  obtain⟨o,ho⟩:=h.tracked e m q
  rw [hn]at ho;cases ho
section
variable {X:Cx}{H0:Hp}{a b c e:Expr}{pos bI:Pos}{wa wb we:WE}{tc:WT}{st:Stmt}{jA:List Stmt}{ws wt:WS}
def V4:WS:=fun E τ=>E.nx τ
def B7 (t u:WS):WS:=fun E τ=>t { E with nx:=u E } τ
theorem A6.nil:A6 X H0 [] V4:=⟨fun τ E F le h=>le.nx τ h,Q8g W4d fun D σ H ⟨τ,hR,h⟩=>h σ H (Kp.refl H) hR⟩
theorem A6.cons (h1:DS X H0 st ws) (h2:A6 X H0 jA wt):A6 X H0 (st::jA) (B7 ws wt) where
 mono:=fun τ E F le h=>h1.mono τ { E with nx:=wt E } { F with nx:=wt F } ⟨fun τ' h=>h2.mono τ' E F le h,le.rt,le.bk,le.ct⟩ h
 ps:=Q8g (Y1l h1.ps h2.ps) fun D σ H ⟨τ,hR,h⟩=>⟨τ,hR,h1.mono τ { L4 X.K H0 H D with nx:=wt (L4 X.K H0 H D) } _ ⟨fun τ' h σ' H' k cL=>⟨τ',cL,h2.mono τ' _ _ (Z2b k) h⟩,fun _ h=>h,fun _ h=>h,fun _ h=>h⟩ h⟩
theorem A6.one (h1:DS X H0 st ws):A6 X H0 [st] ws:=⟨h1.mono,Q8g (Y1m h1.ps) fun D σ H h=>h⟩
def V3 (t:WT) (ws wt:WS):WS:=fun E τ=>t τ fun k=>if k=true then ws E τ else wt E τ
theorem DS.ife {sa sb:List Stmt} (hc:DT X H0 c tc) (ha:A6 X H0 sa ws) (hb:A6 X H0 sb wt):DS X H0 (.If c sa sb pos) (V3 tc ws wt) where
 mono:=fun τ E F le h=>hc.mono τ _ _ (fun k h=>X3 (ha.mono τ E F le) (hb.mono τ E F le) h) h
 ps:=Q3 (W4b hc.pt ha.ps hb.ps) fun D σ H ⟨τ,hR,h⟩=>⟨τ,hR,hc.mono τ _ _ (fun k h H1 s1 =>
  X3 (fun h=>⟨τ,hR.mono s1,ha.mono τ _ _ (Z2b (Kp.of s1)) h⟩) (fun h=>⟨τ,hR.mono s1,hb.mono τ _ _ (Z2b (Kp.of s1)) h⟩) h) h⟩
noncomputable def Q4h:R->(R->Prop)->Prop
 | .st d,Q=>Q (.st d)
 | .nw ds,Q=>Q (.nw ds)
 | _,_=>False
theorem W5n {r:R}{P:R->Prop} (h:Q4h r P):P r:=by
 cases r <;> first | exact h | exact h.elim
theorem W5m {r:R}{P Q:R->Prop} (f:∀s,P s->Q s) (h:Q4h r P):Q4h r Q:=by
 cases r <;> first | exact f _ h | exact h
def O6 (we:WE):WS:=fun E τ=>we τ fun r=>Q4h r E.rt
theorem DS.ret (he:DE X H0 e we):DS X H0 (.Return (some e) pos) (O6 we) where
 mono:=fun τ E F le h=>he.mono τ _ _ (fun r h=>W5m le.rt h) h
 ps:=Q3 (Z3d he.pe) fun D σ H ⟨τ,hR,h⟩=>⟨τ,hR,he.mono τ _ _ (fun r h v H1 s1 ir=>W5n (P:=(L4 X.K H0 H D).rt) h v H1 (hR.same.trans s1) (ir.older hR.same)) h⟩
noncomputable def Q2y:Sl->(R->Prop)->Prop
 | .dat d,Q=>Q (.st d)
 | .own ds,Q=>Q (.nw ds)
 | _,_=>False
theorem DS.retV {i:Nat} (he:PE X e (O3 i)):DS X H0 (.Return (some e) pos) (fun E τ=>∃s,τ[i]?=some (some s)/\Q2y s E.rt) where
 mono:=fun τ E F le ⟨s,h1,h2⟩=>⟨s,h1,by cases s <;> first | exact le.rt _ h2 | exact h2⟩
 ps:=Q3 (Z3d he) fun D σ H ⟨τ,hR,s,h1,h2⟩=>by
  obtain⟨v,hv,q⟩:=hR.here i s h1
  refine⟨v,hv,?_⟩
  cases s with
  | dat d=>exact h2 v H hR.same q
  | own ds=>exact h2 v H hR.same q
  | bor _=>exact h2.elim
  | bd _=>exact h2.elim
  | dk _=>exact h2.elim
  | dt _=>exact h2.elim
  | ob _=>exact h2.elim
  | cl _ _=>exact h2.elim
  | ll _ _=>exact h2.elim
  | ins _ _ _=>exact h2.elim
def C5 (i:Nat) (we:WE):WS:=fun E τ=>we τ fun r=>Q0p r fun s=>E.nx (τ.set i (some s))
theorem DS.set {i:Nat}{x:Str} (he:DE X H0 e we) (hN:X.N.Nodup) (hi:X.N[i]?=some x) (hx:Loc X.env.scope x) (hs:swapsWith e (some (.Name x bI)) pos.line X.env=pure false:=by rfl)
  (hf:X.fn x=true\/X.env.scope.names.lookup x=some .local:=by first | exact .inl rfl | exact .inr rfl | assumption):DS X H0 (.Assign [.Name x bI] e pos) (C5 i we) where
 mono:=fun τ E F le h=>he.mono τ _ _ (fun r h=>Z3z (fun s h=>le.nx _ h) h) h
 ps:=Q3 (Q4g hN hi hx he.pe hs hf) fun D σ H ⟨τ,hR,h⟩=>⟨τ,hR,he.mono τ _ _ (fun r h v H1 s1 ir=>by
  obtain⟨s,p,cL⟩:=hR.store (i:=i) s1 ir h
  exact p _ _ (Kp.of s1) cL) h⟩
noncomputable def N1 (t:WT) (wb:WS):Nat->WS
 | 0=>fun _ _=>False
 | n+1=>fun E τ=>t τ fun k=>if k=true then wb { E with nx:=N1 t wb n E,ct:=N1 t wb n E,bk:=E.nx } τ else E.nx τ
def Q9s (t:WT) (wb:WS):WS:=fun E τ=>∃n,N1 t wb n E τ
theorem Z5p (ht:∀(τ:A8) (P Q:Bool->Prop),(∀r,P r->Q r)->tc τ P->tc τ Q) (hb:∀(τ:A8) (E F:F4),E.Le F->ws E τ->ws F τ) :
  ∀(n:Nat) (τ:A8) (E F:F4),E.Le F->N1 tc ws n E τ->N1 tc ws n F τ
 | 0,_,_,_,_,h=>h
 | n+1,τ,E,F,le,h=>ht τ _ _ (fun k h=>X3 (hb τ { E with nx:=N1 tc ws n E,ct:=N1 tc ws n E,bk:=E.nx } { F with nx:=N1 tc ws n F,ct:=N1 tc ws n F,bk:=F.nx } ⟨fun τ h=>Z5p ht hb n τ E F le h,le.rt,le.nx,fun τ h=>Z5p ht hb n τ E F le h⟩) (le.nx τ) h) h
theorem DS.whl {body:List Stmt} (hp:PassesOwn (model X.prog X.w) X.A X.env X.xe) (hc:DT X H0 c tc) (hb:A6 X H0 body ws):DS X H0 (.While c body [] pos) (Q9s tc ws) where
 mono:=fun τ E F le ⟨n,h⟩=>⟨n,Z5p hc.mono hb.mono n τ E F le h⟩
 ps:=Q3 (W4c hp hc.pt hb.ps) fun D σ H0' ⟨τ,hR,n,h⟩=>by
  refine⟨fun m σ H=>∃ τ,B9 X.K H0 τ σ H/\Kp H0' H/\N1 tc ws m (L4 X.K H0 H0' D) τ,⟨n,τ,hR,Kp.refl _,h⟩,?_⟩
  rintro m σ H ⟨τ,hR,kp,h⟩
  cases m with
  | zero=>exact h.elim
  | succ m =>
   refine⟨τ,hR,hc.mono τ _ _ (fun k h H1 s1=>X3 (fun h=>?_) (fun h=>h σ H1 (kp.trans (Kp.of s1)) (hR.mono s1)) h) h⟩
   refine⟨fun σ' H'=>∃ τ,B9 X.K H0 τ σ' H'/\Kp H0' H'/\N1 tc ws m (L4 X.K H0 H0' D) τ,fun σ' H' h'=>⟨m,cC m,h'⟩,τ,hR.mono s1,?_⟩
   have k1:=kp.trans (Kp.of s1)
   exact hb.mono τ { L4 X.K H0 H0' D with nx:=N1 tc ws m (L4 X.K H0 H0' D),ct:=N1 tc ws m (L4 X.K H0 H0' D),bk:=(L4 X.K H0 H0' D).nx } _
    ⟨fun τ' h' σ' H' k cL=>⟨τ',cL,k1.trans k,h'⟩,fun _ h=>h,fun τ' h' σ' H' k cL=>h' σ' H' (k1.trans k) cL,fun τ' h' σ' H' k cL=>⟨τ',cL,k1.trans k,h'⟩⟩ h
end
noncomputable abbrev D6:=List R->R->Prop
noncomputable def M4:R->Bool
 | .st _=>true
 | .nw _=>true
 | .bw _=>true
 | .ob _=>true
 | .cl _ _=>true
 | _=>false
noncomputable def nrm:R->R
 | .nw ds=>.bw ds
 | r=>r
noncomputable def Q2r (K:Fg9) (n:Nat) (sp:D6):Sp:=fun vs H Q _=>∃(rs:List R) (r:R),rs.length=n/\K5 K (fun _=>none) H rs vs/\rs.all M4=true/\sp (rs.map nrm) r/\∀v H',A5 H H'->D9 K H H' r v->Q v H'
noncomputable def O1:R->Sl
 | .st d=>.dat d
 | .nw ds=>.bor ds
 | .bw ds=>.bor ds
 | .dk k=>.dk k
 | .dt k=>.dt k
 | .ob a=>.ob a
 | .cl a Φ=>.cl a Φ
 | .ms a C _ fs=>.ins a C fs
noncomputable def F6 (N:List Str) (rs:List R):A8:=rs.map (fun r=>some (O1 r))++List.replicate (N.length-rs.length) none
theorem K5.length {K:Fg9}{H0 H:Hp}:∀{rs:List R}{vs:List V},K5 K H0 H rs vs->rs.length=vs.length
 | [],_,h=>by cases h;rfl
 | r::rs,_,h=>by obtain⟨v,t,rfl,_,z⟩:=h;rw [aA,aA,K5.length z]
theorem K5.get {K:Fg9}{H0 H:Hp}:∀{rs:List R}{vs:List V}{i:Nat}{r:R},K5 K H0 H rs vs->rs[i]?=some r->∃v,vs[i]?=some v/\D9 K H0 H r v
 | [],_,_,_,_,e=>by simp at e
 | r::rs,_,0,r',h,e=>by obtain⟨v,t,rfl,q,z⟩:=h;simp at e;subst e;exact⟨v,rfl,q⟩
 | r::rs,_,i+1,r',h,e=>by
  obtain⟨v,t,rfl,q,z⟩:=h
  obtain⟨u,h1,h2⟩:=K5.get (i:=i) z (by simpa using e)
  exact⟨u,by simpa using h1,h2⟩
theorem K5.v {K:Fg9}{H0 H:Hp}:∀{rs:List R}{vs:List V},K5 K H0 H rs vs->K5 K (fun _=>none) H rs vs
 | [],_,h=>h
 | r::rs,_,h=>by obtain⟨v,t,e,q,z⟩:=h;exact⟨v,t,e,q.v,K5.v z⟩
theorem W7n (r:R):O1 (nrm r)=O1 r:=by cases r <;> rfl
theorem Z3y (N:List Str) (rs:List R):F6 N (rs.map nrm)=F6 N rs:=by
 unfold F6
 rw [aK,ag]
 congr 1
 exact bc fun r _=>congrArg some (W7n r)
theorem N6.arg {K:Fg9}{H:Hp}:∀{r:R}{v:V},M4 r=true->IsV K H r v->N6 K H H (O1 r) v
 | .st d,v,_,h=>h
 | .nw ds,v,_,h=>by obtain⟨a,xs,e,_,q,t⟩:=h;exact⟨a,xs,e,q,t⟩
 | .bw ds,v,_,h=>h
 | .dk _,_,h,_=>by cases h
 | .dt _,_,h,_=>by cases h
 | .ob a,v,_,h=>h
 | .cl _ _,v,_,h=>h
 | .ms _ _ _ _,_,h,_=>by cases h
theorem W7m:∀{r:R},M4 r=true->(O1 r).mut=false
 | .st d,_=>rfl
 | .nw ds,_=>rfl
 | .bw ds,_=>rfl
 | .dk _,h=>by cases h
 | .dt _,h=>by cases h
 | .ob _,_=>rfl
 | .cl _ _,_=>rfl
 | .ms _ _ _ _,h=>by cases h
theorem Z3f {K:Fg9}{H:Hp}{N:List Str}{rs:List R}{vs:List V} (al:K5 K (fun _=>none) H rs vs) (ok:rs.all M4=true):B9 K H (F6 N rs) (L2.start N vs) H:=by
 have hl:=al.length
 have at_:∀(i:Nat) (s:Sl),(F6 N rs)[i]?=some (some s)->∃r,rs[i]?=some r/\s=O1 r:=fun i s e=>by
  unfold F6 at e
  by_cases hi:i<rs.length
  ·rw [aH (by rw [ag];exact hi),ai,ae hi]at e
   exact⟨rs[i],ae hi,(aB (aB e)).symm⟩
  ·rw [aS (by rw [ag];omega)]at e
   have:=aD e
   rw [List.mem_replicate]at this
   cases this.2
 have nA:∀(i:Nat) (r:R),rs[i]?=some r->M4 r=true:=fun i r e=>cb.mp ok r (aD e)
 refine⟨?_,A5.refl H,fun i s e=>?_,fun i j s t v _ e1 _ m _ _ _=>?_⟩
 ·unfold F6 L2.start
  rw [ay,ay,ag,ag,aZ,aZ,hl]
 ·obtain⟨r,hr,rfl⟩:=at_ i s e
  obtain⟨v,hv,q⟩:=al.get hr
  refine⟨v,?_,N6.arg (nA i r hr) q⟩
  unfold L2.start
  have hi:i<vs.length:=by
   rcases bE i vs.length with h | h
   ·exact h
   ·rw [aJ.mpr h]at hv;cases hv
  rw [aH (by rw [ag];exact hi),ai,hv]
  rfl
 ·obtain⟨r,hr,rfl⟩:=at_ i s e1
  rw [W7m (nA i r hr)]at m;cases m
section
variable {P:Program}{w:World}{K:Fg9}{mg:Str->Option Value}{base:Heap}
theorem Fun.okD {x qual:Str}{st:Stmt}{f:Addr}{fd:FuncData}{N ps:List Str}{k:Nat}{sp:D6} (F:Fun K x qual st f fd) (S:J5 N ps (C1 st))
  (cc:∀(cdv:Value) (A:Around) (outer:List Env) (s:Shared) (H:Hp) (E:XK),C9 k (A.deeper (envOfC qual (C1 st) s.heap.objs.size f cdv)) ->
   ∃ws,A6 (X1 K6 P w K mg base N qual (C1 st) f cdv A outer s H E).nox H (M5 st) ws /\
    ∀rs r,rs.length=ps.length->sp rs r->ws { nx:=fun _=>r=.st .non,rt:=fun r'=>r'=r,bk:=fun _=>False,ct:=fun _=>False } (F6 N rs)) :
  O9 P w K mg base K6 (k+1) f fd ps (Q2r K ps.length sp):=by
 refine F.ok S (fun vs H Q E h=>?_) (fun cdv A outer s H vs Q E hr h=>?_)
 ·obtain⟨rs,r,hl,al,_⟩:=h
  rw [<- al.length];exact hl
 obtain⟨rs,r,hl,al,ok,h1,h2⟩:=h
 obtain⟨ws,hd,hw⟩:=cc cdv A outer s H E hr
 refine⟨_,hd.ps,F6 N rs,Z3f al ok,?_⟩
 have hw:=hw (rs.map nrm) r (by rw [ag];exact hl) h1
 rw [Z3y]at hw
 refine hd.mono _ _ _ ⟨fun τ h σ H' _ hR=>?_,fun r' h v H' sm ir=>?_,fun _ h=>False.elim h,fun _ h=>False.elim h⟩ hw
 ·have h:r=.st .non:=h
  subst h
  exact h2 .non H' hR.same (A1.s_non (K:=K) (H:=H'))
 ·have h:r'=r:=h
  subst h
  exact h2 v H' sm ir
end
section
variable {X:Cx}{H0:Hp}{e:Expr}{es:List Expr}{wr:WA}{k:Nat}{f:Addr}{fd:FuncData}{ps:List Str}{sp:D6}{x:Str}{p pos:Pos}
def O5 (sp:D6) (wr:WA):WE:=fun τ Q=>wr τ fun rs=>rs.all M4=true/\∃r,sp (rs.map nrm) r/\Q r
theorem DE.call (F:O9 X.prog X.w X.K X.mg X.base K6 k f fd ps (Q2r X.K (e::es).length sp)) (hr:C9 k X.A) (hg:Gl X x) (hm:X.mg x=some (.ref f)) (hk:PySem.W.keepIn X.K (.ref f)=true) (hb:U2 X.K fd ps [])
  (ha:DA X H0 (e::es) wr) (ef:(x==("__debug__":Str))=false:=by decide) (he:starEach (e::es) X.env=(false,eval e X.env)::starEach es X.env:=by rfl) (hpl:(backTo pos (starEach es X.env)).any (·.1)=false:=by rfl) :
  DE X H0 (.Call (.Name x p) (e::es) [] pos) (O5 sp wr) where
 mono:=fun τ P Q f h=>ha.mono τ _ _ (fun rs ⟨ok,r,h1,h2⟩=>⟨ok,r,h1,f r h2⟩) h
 pe:=M7 (Z3a F hr hg hm hk hb .nil Q8e ha.pa ef he hpl) fun σ H Q ⟨τ,hR,h⟩=>⟨τ,hR,ha.mono τ _ _ (fun rs ⟨jn,ok,r,h1,h2⟩ vs H1 s1 ck=>by
  refine⟨rs,r,jn,?_,ok,h1,fun v H' s2 ir=>h2 v H' (s1.trans s2) (ir.older s1)⟩
  rw [bO]
  exact ck.v) (ha.len τ _ h)⟩
end
mutual
noncomputable def D.eq:D->D->Bool
 | .non,.non=>true
 | .bl a,.bl b=>a==b
 | .bl a,.int b=>(if a then(1:Int)else 0)==b
 | .int a,.bl b=>a==(if b then(1:Int)else 0)
 | .int a,.int b=>a==b
 | .str a,.str b=>a==b
 | .tup a,.tup b=>D.eqs a b
 | .lst a,.lst b=>D.eqs a b
 | _,_=>false
noncomputable def D.eqs:List D->List D->Bool
 | [],[]=>true
 | x::xs,y::ys=>D.eq x y&&D.eqs xs ys
 | _,_=>false
end
mutual
noncomputable def D.depth:D->Nat
 | .tup a=>D.depths a+1
 | .lst a=>D.depths a+1
 | _=>0
noncomputable def D.depths:List D->Nat
 | []=>0
 | x::xs=>max (D.depth x) (D.depths xs)
end
theorem D.depths_get:∀{ds:List D}{i:Nat}{d:D},ds[i]?=some d->d.depth<=D.depths ds
 | [],_,_,h=>by simp at h
 | x::xs,0,d,h=>by simp at h;subst h;unfold D.depths;omega
 | x::xs,i+1,d,h=>by
  have:=D.depths_get (ds:=xs) (i:=i) (d:=d) (by simpa using h)
  unfold D.depths;omega
mutual
theorem D.eq_refl:∀d:D,D.eq d d=true
 | .non=>by unfold D.eq;rfl
 | .bl a=>by unfold D.eq;simp
 | .int a=>by unfold D.eq;simp
 | .str a=>by unfold D.eq;simp
 | .tup a=>by unfold D.eq;exact D.eqs_refl a
 | .lst a=>by unfold D.eq;exact D.eqs_refl a
theorem D.eqs_refl:∀ds:List D,D.eqs ds ds=true
 | []=>by unfold D.eqs;rfl
 | x::xs=>by unfold D.eqs;rw [D.eq_refl x,D.eqs_refl xs];rfl
end
theorem D.eqs_range:∀(a b:List D),D.eqs a b=((List.range (min a.length b.length)).all (fun i=>match a[i]?,b[i]? with | some x,some y=>D.eq x y | _,_=>true)&&a.length==b.length)
 | [],[]=>by unfold D.eqs;simp
 | [],y::ys=>by unfold D.eqs;simp
 | x::xs,[]=>by unfold D.eqs;simp
 | x::xs,y::ys=>by
  unfold D.eqs
  rw [D.eqs_range xs ys]
  have e:min (x::xs).length (y::ys).length=min xs.length ys.length+1:=by simp [Nat.succ_min_succ]
  rw [e,List.range_succ_eq_map,List.all_cons,List.all_map]
  simp only [aA,List.getElem?_cons_zero,Function.comp_def,List.getElem?_cons_succ]
  rw [Bool.and_assoc]
  congr 2
  simp
def IsW (K:Fg9) (H:Hp) (d:D) (v:V):Prop:=match d with
 | .lst ds=>∃a xs,v=.ref a/\C6 K H a xs/\AllS K H ds xs
 | d=>A1 K H d v
theorem A1.w {K:Fg9}{H:Hp}:∀{d:D}{v:V},A1 K H d v->IsW K H d v
 | .non,_,h=>h
 | .bl _,_,h=>h
 | .int _,_,h=>h
 | .str _,_,h=>h
 | .tup _,_,h=>h
 | .lst _,_,h=>by unfold A1 at h;obtain⟨a,xs,e,q,t⟩:=h;exact⟨a,xs,e,q.sq,t⟩
noncomputable def R.d:R->Option D
 | .st d=>some d
 | .nw ds=>some (.lst ds)
 | .bw ds=>some (.lst ds)
 | _=>none
theorem D9.w {K:Fg9}{H0 H:Hp}:∀{r:R}{v:V}{d:D},r.d=some d->D9 K H0 H r v->IsW K H d v
 | .st d,v,_,e,h=>by cases e;exact A1.w h
 | .nw ds,v,_,e,h=>by cases e;obtain⟨a,xs,e,n,q,t⟩:=h;exact⟨a,xs,e,C6.of q,t⟩
 | .bw ds,v,_,e,h=>by cases e;obtain⟨a,xs,e,q,t⟩:=h;exact⟨a,xs,e,C6.of q,t⟩
 | .dk _,_,_,e,_=>by cases e
 | .dt _,_,_,e,_=>by cases e
 | .ob _,_,_,e,_=>by cases e
 | .cl _ _,_,_,e,_=>by cases e
 | .ms _ _ _ _,_,_,e,_=>by cases e
theorem Y3z {X:Cx}{ac:Pn9} {σ:St}{H:Hp}{s:Shared} (I:A0 X ac σ H s) {a:Addr}{xs ys:List V} (h1:C2 X.K H a xs) (h2:C6 X.K H a ys):False:=by
 obtain⟨_,_,⟨o,e,c,_⟩,_⟩:=I.tuple h1
 obtain⟨_,_,⟨o',n,e',c',_⟩,_⟩:=I.list h2
 rw [e]at e';cases e'
 rw [c]at c';exact absurd c' (by simp)
section
variable {X:Cx}{ac:Pn9} {σ:St}{H:Hp}{s:Shared}
mutual
theorem A1.inj (I:A0 X ac σ H s):∀(d e:D) (v:V),A1 X.K H d v->A1 X.K H e v->d=e
 | .non,e,v,h1,h2=>by
  cases e <;> unfold A1 at h1 h2 <;> first | rfl | (obtain⟨_,_,z,_⟩:=h2;rw [h1]at z;cases z;done) | (rw [h1]at h2;cases h2;done) | (rw [h1]at h2;cases h2;rfl)
 | .bl p,e,v,h1,h2=>by
  cases e <;> unfold A1 at h1 h2 <;> first | rfl | (obtain⟨_,_,z,_⟩:=h2;rw [h1]at z;cases z;done) | (rw [h1]at h2;cases h2;done) | (rw [h1]at h2;cases h2;rfl)
 | .int p,e,v,h1,h2=>by
  cases e <;> unfold A1 at h1 h2 <;> first | rfl | (obtain⟨_,_,z,_⟩:=h2;rw [h1]at z;cases z;done) | (rw [h1]at h2;cases h2;done) | (rw [h1]at h2;cases h2;rfl)
 | .str p,e,v,h1,h2=>by
  cases e <;> unfold A1 at h1 h2 <;> first | rfl | (obtain⟨_,_,z,_⟩:=h2;rw [h1]at z;cases z;done) | (rw [h1]at h2;cases h2;done) | (rw [h1]at h2;cases h2;rfl)
 | .tup p,.non,v,h1,h2=>by unfold A1 at h1 h2;obtain⟨_,_,e,_⟩:=h1;rw [h2]at e;cases e
 | .tup p,.bl q,v,h1,h2=>by unfold A1 at h1 h2;obtain⟨_,_,e,_⟩:=h1;rw [h2]at e;cases e
 | .tup p,.int q,v,h1,h2=>by unfold A1 at h1 h2;obtain⟨_,_,e,_⟩:=h1;rw [h2]at e;cases e
 | .tup p,.str q,v,h1,h2=>by unfold A1 at h1 h2;obtain⟨_,_,e,_⟩:=h1;rw [h2]at e;cases e
 | .lst p,.non,v,h1,h2=>by unfold A1 at h1 h2;obtain⟨_,_,e,_⟩:=h1;rw [h2]at e;cases e
 | .lst p,.bl q,v,h1,h2=>by unfold A1 at h1 h2;obtain⟨_,_,e,_⟩:=h1;rw [h2]at e;cases e
 | .lst p,.int q,v,h1,h2=>by unfold A1 at h1 h2;obtain⟨_,_,e,_⟩:=h1;rw [h2]at e;cases e
 | .lst p,.str q,v,h1,h2=>by unfold A1 at h1 h2;obtain⟨_,_,e,_⟩:=h1;rw [h2]at e;cases e
 | .tup p,.tup q,v,h1,h2=>by unfold A1 at h1 h2;obtain⟨x,xs,e1,q1,r1⟩:=h1;obtain⟨y,ys,e2,q2,r2⟩:=h2;rw [e1]at e2;cases e2;have e:=I.tuple_inj (C2.of q1) (C2.of q2);subst e;rw [AllS.inj I p q xs r1 r2]
 | .tup p,.lst q,v,h1,h2=>by unfold A1 at h1 h2;obtain⟨x,xs,e1,q1,r1⟩:=h1;obtain⟨y,ys,e2,q2,r2⟩:=h2;rw [e1]at e2;cases e2;exact absurd (Y3z I (C2.of q1) q2.sq) id
 | .lst p,.tup q,v,h1,h2=>by unfold A1 at h1 h2;obtain⟨x,xs,e1,q1,r1⟩:=h2;obtain⟨y,ys,e2,q2,r2⟩:=h1;rw [e1]at e2;cases e2;exact absurd (Y3z I (C2.of q1) q2.sq) id
 | .lst p,.lst q,v,h1,h2=>by unfold A1 at h1 h2;obtain⟨x,xs,e1,q1,r1⟩:=h1;obtain⟨y,ys,e2,q2,r2⟩:=h2;rw [e1]at e2;cases e2;have e:=I.list_inj q1.sq q2.sq;subst e;rw [AllS.inj I p q xs r1 r2]
theorem AllS.inj (I:A0 X ac σ H s):∀(ds es:List D) (vs:List V),AllS X.K H ds vs->AllS X.K H es vs->ds=es
 | [],[],_,_,_=>rfl
 | [],y::ys,vs,h1,h2=>by unfold AllS at h1 h2;obtain⟨_,_,e,_⟩:=h2;rw [h1]at e;cases e
 | x::xs,[],vs,h1,h2=>by unfold AllS at h1 h2;obtain⟨_,_,e,_⟩:=h1;rw [h2]at e;cases e
 | x::xs,y::ys,vs,h1,h2=>by
  unfold AllS at h1 h2
  obtain⟨v,r,e1,q1,t1⟩:=h1
  obtain⟨v',r',e2,q2,t2⟩:=h2
  rw [e1]at e2;cases e2
  rw [A1.inj I x y v q1 q2,AllS.inj I xs ys r t1 t2]
end
end
section
variable {X:Cx}{ac:Pn9} {σ:St}{H:Hp}{s:Shared}
open PySem.SeqAt
theorem Q1i {ds:List D}{xs:List V}{aU:List Value} (al:AllS X.K H ds xs) (rv:C0 xs aU) {j:Nat} (h:j<aU.toArray.size):∃d v,ds[j]?=some d/\A1 X.K H d v/\B8 v aU.toArray[j]:=by
 have hl:=al.length
 have hr:=rv.length
 have hj:j<aU.length:=by simpa using h
 have gW:j<ds.length:=by omega
 obtain⟨v,hv,q⟩:=al.get (ae gW)
 obtain⟨u,hu,r⟩:=rv.get hv
 have e:u=aU.toArray[j]:=by
  rw [ae hj]at hu
  simpa using (aB hu).symm
 exact⟨ds[j],v,ae gW,q,e ▸ r⟩
theorem Q5i (I:A0 X ac σ H s) {d1 d2:D}{v1 v2:V}{u1 u2:Value}{n:Nat} (h:∀A:Around,A.units+n<cLine->RcAt A s u1 u2 (D.eq d1 d2)) (i1:A1 X.K H d1 v1) (i2:A1 X.K H d2 v2) (r1:B8 v1 u1) (r2:B8 v2 u2) {A:Around} (hu:A.units+n<cLine):EqAt A s u1 u2 (D.eq d1 d2):=by
 have hA:=h A hu
 by_cases e:u1=u2
 ·subst e
  have ev:=r1.inj r2
  subst ev
  rw [A1.inj I d1 d2 v1 i1 i2,D.eq_refl]
  exact EqAt.same _
 ·intro prog w E Q hq
  unfold eqBool
  refine bu ?_
  refine wpAny_ite_split (fun qM=>absurd (eq_of_beq qM) e) (fun _=>?_)
  have fin:wpAny (model prog w) A (richCompare .Eq u1 u2>>=truthOfDropped) Q E s:=a9 (hA prog w E _ (eR hq))
  cases v1 with
  | non=>cases r1;exact fin
  | bl _=>cases r1;exact fin
  | int _=>obtain⟨t,rfl⟩:=r1;exact fin
  | str _=>obtain⟨t,rfl⟩:=r1;exact fin
  | byt _=>obtain⟨t,rfl⟩:=r1;exact fin
  | ref _=>cases r1;exact fin
  | ty _=>cases r1;exact fin
  | flt b=>cases d1 <;> first | (cases (show V.flt b=_ from i1)) | (unfold A1 at i1;obtain⟨_,_,z,_⟩:=i1;cases z)
inductive Vw (X:Cx) (H:Hp) (s:Shared):D->Value->Prop
 | non:Vw X H s .non .none
 | bl (b:Bool):Vw X H s (.bl b) (.bool b)
 | int (i:Int) (t:Tok):Vw X H s (.int i) (.int i t)
 | str (x:Str) (t:Tok):Vw X H s (.str x) (.str x t)
 | tup {ds:List D}{a:Addr}{xs:List V}{aU:List Value} (al:AllS X.K H ds xs) (rv:C0 xs aU) (pl:s.heap.IsTuple a aU.toArray):Vw X H s (.tup ds) (.ref a)
 | lst {ds:List D}{a:Addr}{xs:List V}{aU:List Value} (al:AllS X.K H ds xs) (rv:C0 xs aU) (pl:s.heap.IsList a aU.toArray):Vw X H s (.lst ds) (.ref a)
theorem Q4n (I:A0 X ac σ H s) {d:D}{v:V}{u:Value} (h:IsW X.K H d v) (r:B8 v u):Vw X H s d u:=by
 cases d with
 | non=>cases (show v=.non from h);cases r;exact .non
 | bl b=>cases (show v=.bl b from h);cases r;exact .bl b
 | int i=>cases (show v=.int i from h);obtain⟨t,rfl⟩:=r;exact .int i t
 | str x=>cases (show v=.str x from h);obtain⟨t,rfl⟩:=r;exact .str x t
 | tup ds=>have h:A1 X.K H (.tup ds) v:=h;unfold A1 at h;obtain⟨a,xs,rfl,sq,al⟩:=h;cases r;obtain⟨aU,rv,pl,_⟩:=I.tuple (C2.of sq);exact .tup al rv pl
 | lst ds=>obtain⟨a,xs,rfl,sq,al⟩:=h;cases r;obtain⟨aU,rv,pl,_⟩:=I.list sq;exact .lst al rv pl.isList
def Q2j (d e:D):Prop:=(∃p q,d=.tup p/\e=.tup q)\/∃p q,d=.lst p/\e=.lst q
theorem Y1s {d1 d2:D}{u1 u2:Value}{A:Around} (h1:Vw X H s d1 u1) (h2:Vw X H s d2 u2) (hu:A.units<cLine) (hb:¬ Q2j d1 d2):RcAt A s u1 u2 (D.eq d1 d2):=by
 cases h1 <;> cases h2 <;> first | exact absurd (.inl ⟨_,_,rfl,rfl⟩) hb | exact absurd (.inr ⟨_,_,rfl,rfl⟩) hb | (unfold D.eq;(try simp only [Bool.not_true,Bool.not_false]);(with_reducible first | exact RcAt.none_none | exact RcAt.none_bool _ | exact RcAt.none_int _ _ | exact RcAt.none_str _ _ | exact RcAt.none_tuple (by assumption) hu | exact RcAt.none_list (by assumption) hu | exact RcAt.bool_none _ | exact RcAt.bool_bool _ _ | exact RcAt.bool_int _ _ _ | exact RcAt.bool_str _ _ _ | exact RcAt.bool_tuple _ (by assumption) hu | exact RcAt.bool_list _ (by assumption) hu | exact RcAt.int_none _ _ | exact RcAt.int_bool _ _ _ | exact RcAt.int_int _ _ _ _ | exact RcAt.int_str _ _ _ _ | exact RcAt.int_tuple _ _ (by assumption) hu | exact RcAt.int_list _ _ (by assumption) hu | exact RcAt.str_none _ _ | exact RcAt.str_bool _ _ _ | exact RcAt.str_int _ _ _ _ | exact RcAt.str_str _ _ _ _ | exact RcAt.str_tuple _ _ (by assumption) hu | exact RcAt.str_list _ _ (by assumption) hu | exact RcAt.tuple_none (by assumption) hu | exact RcAt.tuple_bool _ (by assumption) hu | exact RcAt.tuple_int _ _ (by assumption) hu | exact RcAt.tuple_str _ _ (by assumption) hu | exact RcAt.tuple_list (by assumption) (by assumption) hu | exact RcAt.list_none (by assumption) hu | exact RcAt.list_bool _ (by assumption) hu | exact RcAt.list_int _ _ (by assumption) hu | exact RcAt.list_str _ _ (by assumption) hu | exact RcAt.list_tuple (by assumption) (by assumption) hu))
theorem Q8h (I:A0 X ac σ H s):∀(n:Nat) (d1 d2:D) (v1 v2:V) (u1 u2:Value) (A:Around),d1.depth<=n->IsW X.K H d1 v1->IsW X.K H d2 v2->B8 v1 u1->B8 v2 u2->A.units+n<cLine->RcAt A s u1 u2 (D.eq d1 d2):=by
 intro n
 induction n with
 | zero =>
  intro d1 d2 v1 v2 u1 u2 A hd h1 h2 r1 r2 hu
  refine Y1s (Q4n I h1 r1) (Q4n I h2 r2) (by omega) ?_
  rintro (⟨p,q,rfl,rfl⟩ | ⟨p,q,rfl,rfl⟩) <;> unfold D.depth at hd <;> omega
 | succ n ih =>
  intro d1 d2 v1 v2 u1 u2 A hd h1 h2 r1 r2 hu
  have w1:=Q4n I h1 r1
  have w2:=Q4n I h2 r2
  by_cases hb:Q2j d1 d2
  ·obtain⟨p,q,rfl,rfl⟩ | ⟨p,q,rfl,rfl⟩:=hb
   ·cases w1;cases w2
    rename_i a1 lp fu gr i0 gM a2 ln c8 de e7 cI
    have hd:D.depths p+1<=n+1:=by unfold D.depth at hd;exact hd
    have l1:fu.toArray.size=p.length:=by have:=gM.length;have:=gr.length;simp;omega
    have l2:c8.toArray.size=q.length:=by have:=cI.length;have:=de.length;simp;omega
    have k:=RcAt.tuples (A:=A) (s:=s) (e:=fun i=>match p[i]?,q[i]? with | some x,some y=>D.eq x y | _,_=>true) i0 e7 (by omega) (fun j jo gW=>by
     obtain⟨d1,v1,e1,i1,w1⟩:=Q1i gM gr jo
     obtain⟨d2,v2,e2,i2,w2⟩:=Q1i cI de gW
     simp only [e1,e2]
     exact Q5i I (fun A=>ih d1 d2 v1 v2 _ _ A (by have:=D.depths_get e1;omega) i1.w i2.w w1 w2) i1 i2 w1 w2 (by simp only [bW];omega))
    rw [l1,l2]at k
    unfold D.eq;rw [D.eqs_range];exact k
   ·cases w1;cases w2
    rename_i a1 lp fu gr i0 gM a2 ln c8 de e7 cI
    have hd:D.depths p+1<=n+1:=by unfold D.depth at hd;exact hd
    have l1:fu.toArray.size=p.length:=by have:=gM.length;have:=gr.length;simp;omega
    have l2:c8.toArray.size=q.length:=by have:=cI.length;have:=de.length;simp;omega
    have kk:RcAt A s (.ref a1) (.ref a2) (D.eqs p q):=by
     rw [D.eqs_range]
     by_cases bR:p.length=q.length
     ·have k:=RcAt.lists (A:=A) (s:=s) (e:=fun i=>match p[i]?,q[i]? with | some x,some y=>D.eq x y | _,_=>true) i0 e7 (by omega) (by omega) (fun j jo gW=>by
       obtain⟨d1,v1,e1,i1,w1⟩:=Q1i gM gr jo
       obtain⟨d2,v2,e2,i2,w2⟩:=Q1i cI de gW
       simp only [e1,e2]
       exact Q5i I (fun A=>ih d1 d2 v1 v2 _ _ A (by have:=D.depths_get e1;omega) i1.w i2.w w1 w2) i1 i2 w1 w2 (by simp only [bW];omega))
      rw [l1]at k
      rw [<- bR,Nat.min_self,beq_self_eq_true,Bool.and_true]
      exact k
     ·rw [bv.mpr bR,Bool.and_false]
      exact RcAt.lists_lengths i0 e7 (by rw [l1,l2];simpa using bR) (by omega)
    unfold D.eq;exact kk
  ·exact Y1s w1 w2 (by omega) hb
end
end TK
end
section
namespace HT
open PySem PyProof.Rows
section
variable {prog:Program}{w:World}{A:Around}{E:VS9}{s:Shared}
theorem cat_tup0 {t b:Addr}{vs ws:List Value}{Q:VS9} (ht:IsTup s.heap t vs.toArray) (hb:IsTup s.heap b ws.toArray) (hv:vs=[]) (h1:Q (.ref b) s):wpAny (model prog w) A (binaryOp .Add (.ref t) (.ref b)) Q E s:=by
 obtain⟨⟨cls,dd,data,sl⟩,ho,hc,n,hd⟩:=id ht
 obtain⟨⟨kL,jH,data2,jB⟩,fJ,iW,n2,iV⟩:=id hb
 simp only at hc hd iW iV
 subst hc hd iW iV
 exact concat_meets ⟨_,ho,rfl⟩ ⟨_,fJ,rfl⟩ noFill_tuple_add seq_tuple_add PySem.F.slot_tuple_add PySem.F.entry_tuple_add (PySem.F.args_tuple_add_2 _ _)
  (tuple_addW0 t b vs.toArray ws.toArray n n2 dd jH sl jB (by simp [hv])) ⟨ho,fJ,h1⟩
end
end HT
namespace TK
open PySem PySem.Spec PyProof.Rows L2
section
variable {X:Cx}
noncomputable def J8 (C:Int->Int->Prop) (f:Int->Int->Int):R->R->(R->Prop)->Prop
 | .st (.int i),.st (.int j),Q=>C i j/\Q (.st (.int (f i j)))
 | _,_,_=>False
theorem Z1r {C:Int->Int->Prop}{f:Int->Int->Int}{x y:R}{Q:R->Prop} (h:J8 C f x y Q):∃i j,x=.st (.int i)/\y=.st (.int j)/\C i j/\Q (.st (.int (f i j))):=by
 unfold J8 at h
 split at h
 ·exact⟨_,_,rfl,rfl,h.1,h.2⟩
 ·exact h.elim
theorem U6 {C:Int->Int->Prop}{f:Int->Int->Int}:X7 (J8 C f):=fun x y P Q g h=>by
 obtain⟨i,j,rfl,rfl,c,q⟩:=Z1r h
 exact⟨c,g _ q⟩
theorem OpD.ints {F:Value->Value->Sem Value}{C:Int->Int->Prop}{f:Int->Int->Int} (h:N5 X F (rI C fun i j=>.int (f i j))):OpD X F (J8 C f):=by
 intro ac s σ H x y v u Q I rx ry ⟨r1,r2,h1,h2,hg⟩
 obtain⟨i,j,rfl,rfl,c,q⟩:=Z1r hg
 exact h ac s σ H x y v u Q I rx ry ⟨i,j,h1,h2,c,q _ _ (A5.refl H) U7⟩
theorem OpD.ints0 {F:Value->Value->Sem Value}{f:Int->Int->Int} (h:N5 X F (rI0 fun i j=>.int (f i j))):OpD X F (J8 (fun _ _=>True) f):=by
 intro ac s σ H x y v u Q I rx ry ⟨r1,r2,h1,h2,hg⟩
 obtain⟨i,j,rfl,rfl,c,q⟩:=Z1r hg
 exact h ac s σ H x y v u Q I rx ry ⟨i,j,h1,h2,q _ _ (A5.refl H) U7⟩
noncomputable abbrev NoC:Int->Int->Prop:=fun _ _=>True
theorem Y1a:OpD X (binaryOp .Sub) (J8 NoC fun i j=>i-j):=OpD.ints0 W2i
theorem Q8c:OpD X (binaryOp .FloorDiv) (J8 Q0a fun i j=>i / j):=OpD.ints W2b
theorem Q1t:OpD X (binaryOp .Mod) (J8 (fun _ j=>0<j) fun i j=>i % j):=OpD.ints W2f
noncomputable def lsM:R->Option (List D)
 | .nw ds=>some ds
 | .bw ds=>some ds
 | _=>none
noncomputable def P6:R->Option (List D)
 | .nw ds=>some ds
 | .bw ds=>some ds
 | .st (.lst ds)=>some ds
 | _=>none
theorem Z9r {K:Fg9}{H0 H:Hp}:∀{r:R}{ds:List D}{v:V},lsM r=some ds->D9 K H0 H r v->∃a xs,v=.ref a/\H a=some (.lst xs)/\AllS K H ds xs
 | .nw ds,_,v,e,h=>by cases e;obtain⟨a,xs,e,n,q,t⟩:=h;exact⟨a,xs,e,q,t⟩
 | .bw ds,_,v,e,h=>by cases e;obtain⟨a,xs,e,q,t⟩:=h;exact⟨a,xs,e,q,t⟩
 | .st _,_,_,e,_=>by cases e
 | .dk _,_,_,e,_=>by cases e
 | .dt _,_,_,e,_=>by cases e
 | .ob _,_,_,e,_=>by cases e
 | .cl _ _,_,_,e,_=>by cases e
 | .ms _ _ _ _,_,_,e,_=>by cases e
theorem Q0z {K:Fg9}{H0 H:Hp}:∀{r:R}{ds:List D}{v:V},P6 r=some ds->D9 K H0 H r v->∃a xs,v=.ref a/\C6 K H a xs/\AllS K H ds xs
 | .nw ds,_,v,e,h=>by cases e;obtain⟨a,xs,e,n,q,t⟩:=h;exact⟨a,xs,e,C6.of q,t⟩
 | .bw ds,_,v,e,h=>by cases e;obtain⟨a,xs,e,q,t⟩:=h;exact⟨a,xs,e,C6.of q,t⟩
 | .st (.lst ds),_,v,e,h=>by cases e;have h:A1 K H (.lst ds) v:=h;unfold A1 at h;obtain⟨a,xs,e,q,t⟩:=h;exact⟨a,xs,e,q.sq,t⟩
 | .st .non,_,_,e,_=>by cases e
 | .st (.bl _),_,_,e,_=>by cases e
 | .st (.int _),_,_,e,_=>by cases e
 | .st (.str _),_,_,e,_=>by cases e
 | .st (.tup _),_,_,e,_=>by cases e
 | .dk _,_,_,e,_=>by cases e
 | .dt _,_,_,e,_=>by cases e
 | .ob _,_,_,e,_=>by cases e
 | .cl _ _,_,_,e,_=>by cases e
 | .ms _ _ _ _,_,_,e,_=>by cases e
def F2 (x y:R) (Q:R->Prop):Prop :=
 match x,y with
 | .st (.int i),.st (.int j)=>Q (.st (.int (i+j)))
 | .st (.str i),.st (.str j)=>i.length+j.length<=sizeLine/\Q (.st (.str (i++j)))
 | .st (.tup i),.st (.tup j)=>i.length+j.length<=sizeLine/\Q (.st (.tup (i++j)))
 | .nw i,.nw j=>i.length+j.length<=sizeLine/\Q (.nw (i++j))
 | .nw i,.bw j=>i.length+j.length<=sizeLine/\Q (.nw (i++j))
 | .bw i,.nw j=>i.length+j.length<=sizeLine/\Q (.nw (i++j))
 | .bw i,.bw j=>i.length+j.length<=sizeLine/\Q (.nw (i++j))
 | _,_=>False
theorem P4:X7 F2:=fun x y P Q g h=>by
 unfold F2 at h ⊢
 split at h <;> first | exact g _ h | exact⟨h.1,g _ h.2⟩ | exact⟨h.1,h.2.1,g _ h.2.2⟩ | exact h
theorem Q7f {ac:Pn9}{s:Shared} {σ:St}{H:Hp}{x y:V}{v u:Value}{Q:VK} (I:A0 X ac σ H s) (rx:B8 x v) (ry:B8 y u) {r1 r2:R}{i j:List D} (e1:lsM r1=some i) (e2:lsM r2=some j)
  (h1:IsV X.K H r1 x) (h2:IsV X.K H r2 y) (hz:i.length+j.length<=sizeLine) (q:∀v H',A5 H H'->D9 X.K H H' (.nw (i++j)) v->Q v H'):wpAny (model X.prog X.w) X.A (binaryOp .Add v u) (EP X ac σ Q) X.xe s:=by
 obtain⟨a,xs,rfl,qa,iA⟩:=Z9r e1 h1
 obtain⟨b,ys,rfl,qb,iy⟩:=Z9r e2 h2
 refine W1z ac s σ H _ _ v u Q I rx ry ⟨a,b,xs,ys,rfl,rfl,qa,qb,by rw [<- iA.length,<- iy.length];exact hz,fun p hp=>?_⟩
 have k:=Kp.of (D7 hp (.lst (xs++ys)))
 exact q _ _ (D7 hp _) ⟨p,xs++ys,rfl,hp,upd_same,(iA.append iy).mono k _ _⟩
theorem P7:OpD X (binaryOp .Add) F2:=by
 intro ac s σ H x y v u Q I rx ry ⟨r1,r2,h1,h2,hg⟩
 unfold F2 at hg
 split at hg
 ·exact W1x ac s σ H x y v u Q I rx ry ⟨_,_,h1,h2,hg _ _ (A5.refl H) U7⟩
 ·exact W1y ac s σ H x y v u Q I rx ry ⟨_,_,h1,h2,hg.1,hg.2 _ _ (A5.refl H) Z1t⟩
 ·rename_i i j
  have h1:A1 X.K H (.tup i) x:=h1
  have h2:A1 X.K H (.tup j) y:=h2
  unfold A1 at h1 h2
  obtain⟨a,xs,rfl,qa,iA⟩:=h1
  obtain⟨b,ys,rfl,qb,iy⟩:=h2
  have la:=iA.length
  have lb:=iy.length
  by_cases hx:xs=[]
  ·have zi:i=[]:=List.length_eq_zero_iff.mp (by rw [la,hx];rfl)
   subst zi
   cases rx
   cases ry
   obtain⟨aU,r1,p1,_⟩:=I.tuple (C2.of (K:=X.K) qa)
   obtain⟨c8,r2,p2,_⟩:=I.tuple (C2.of (K:=X.K) qb)
   exact HT.cat_tup0 p1 p2 (r1.nil_iff.mpr hx) ⟨.ref b,H,I,rfl,hg.2 _ _ (A5.refl H) (A1.s_tup (K:=X.K) (H:=H) qb iy)⟩
  refine W2a ac s σ H _ _ v u Q I rx ry ⟨a,b,xs,ys,rfl,rfl,C2.of qa,C2.of qb,hx,by omega,fun z=>?_,fun z p hp=>?_⟩
  ·have zj:j=[]:=List.length_eq_zero_iff.mp (by rw [lb,z];rfl)
   subst zj
   rw [bO]at hg
   exact hg.2 _ _ (A5.refl H) (A1.s_tup (K:=X.K) (H:=H) qa iA)
  ·exact hg.2 _ _ (D7 hp _) (A1.s_tup (K:=X.K) upd_same ((iA.append iy).mono (Kp.of (D7 hp _)) _ _))
 ·exact Q7f I rx ry rfl rfl h1 h2 hg.1 hg.2
 ·exact Q7f I rx ry rfl rfl h1 h2 hg.1 hg.2
 ·exact Q7f I rx ry rfl rfl h1 h2 hg.1 hg.2
 ·exact Q7f I rx ry rfl rfl h1 h2 hg.1 hg.2
 ·exact hg.elim
def W3 (x y:R) (Q:R->Prop):Prop :=
 match x,y with
 | .st (.int i),.st (.int j)=>Q1e i j/\Q (.st (.int (i*j)))
 | .nw ds,.st (.int k)=>-(2 ^ 63)<=k/\k<2 ^ 63/\ds.length*k.toNat<=sizeLine/\Q (.nw (List.replicate k.toNat ds).flatten)
 | _,_=>False
theorem Q2u:X7 W3:=fun x y P Q g h=>by
 unfold W3 at h ⊢
 split at h <;> first | exact⟨h.1,g _ h.2⟩ | exact⟨h.1,h.2.1,h.2.2.1,g _ h.2.2.2⟩ | exact h
theorem AllS.rep {K:Fg9}{H:Hp}{ds:List D}{vs:List V} (h:AllS K H ds vs):∀k:Nat,AllS K H (List.replicate k ds).flatten (List.replicate k vs).flatten
 | 0=>AllS.nil
 | k+1=>by rw [ci,ci,di,di];exact h.append (AllS.rep h k)
theorem Q2w:OpD X (binaryOp .Mult) W3:=by
 intro ac s σ H x y v u Q I rx ry ⟨r1,r2,h1,h2,hg⟩
 unfold W3 at hg
 split at hg
 ·exact W2g ac s σ H x y v u Q I rx ry ⟨_,_,h1,h2,hg.1,hg.2 _ _ (A5.refl H) U7⟩
 ·obtain⟨a,xs,rfl,_,qa,iA⟩:=h1
  refine W2h ac s σ H _ y v u Q I rx ry ⟨a,_,xs,rfl,h2,qa,hg.1,hg.2.1,by rw [<- iA.length];exact hg.2.2.1,fun p hp=>?_⟩
  exact hg.2.2.2 _ _ (D7 hp _) ⟨p,_,rfl,hp,upd_same,(iA.rep _).mono (Kp.of (D7 hp _)) _ _⟩
 ·exact hg.elim
noncomputable def S7 (f:Int->Int->Bool):R->R->(Bool->Prop)->Prop
 | .st (.int i),.st (.int j),Q=>Q (f i j)
 | _,_,_=>False
theorem Z7k {f:Int->Int->Bool}{x y:R}{Q:Bool->Prop} (h:S7 f x y Q):∃i j,x=.st (.int i)/\y=.st (.int j)/\Q (f i j):=by
 unfold S7 at h
 split at h
 ·exact⟨_,_,rfl,rfl,h⟩
 ·exact h.elim
theorem Q3q {f:Int->Int->Bool}:X7 (S7 f):=fun x y P Q g h=>by
 obtain⟨i,j,rfl,rfl,q⟩:=Z7k h
 exact g _ q
theorem V5.ints {op:CmpOp}{f:Int->Int->Bool} (h:N5 X (compareOp op) (rI0 fun i j=>.bl (f i j))):V5 X op (S7 f):=by
 intro ac s σ H x y v u Q I rx ry ⟨r1,r2,h1,h2,hg⟩
 obtain⟨i,j,rfl,rfl,q⟩:=Z7k hg
 exact h ac s σ H x y v u Q I rx ry ⟨i,j,h1,h2,q⟩
theorem Z0x:V5 X .Lt (S7 fun i j=>decide (i<j)):=V5.ints W2e
theorem Z7f:V5 X .Gt (S7 fun i j=>decide (j<i)):=V5.ints W2d
theorem Y6u:V5 X .GtE (S7 fun i j=>decide (j<=i)):=V5.ints W2c
def K2 (n:Nat) (neg:Bool) (x y:R) (Q:Bool->Prop):Prop:=∃d e,x.d=some d/\y.d=some e/\d.depth<=n/\Q (if neg then !D.eq d e else D.eq d e)
theorem U5 {n:Nat}{neg:Bool}:X7 (K2 n neg):=fun x y P Q g ⟨d,e,h1,h2,h3,q⟩=>⟨d,e,h1,h2,h3,g _ q⟩
theorem Q1j {n:Nat} (hu:X.A.units+n<cLine):V5 X .Eq (K2 n false):=by
 intro ac s σ H x y v u Q I rx ry ⟨r1,r2,h1,h2,d,e,e1,e2,hd,q⟩
 exact Q8h I n d e x y v u X.A hd (h1.w e1) (h2.w e2) rx ry hu _ _ _ _ ⟨.bl _,H,I,rfl,q⟩
end
end TK
end
section
namespace TK
open PySem PySem.Spec PyProof.Rows L2
section
variable {X:Cx}
theorem Q7a {K:Fg9}{H:Hp}{ds:List D}{xs:List V} (al:AllS K H ds xs) {i:Int}{d:D} (h:L3 ds i=some d):∃v,L3 xs i=some v/\A1 K H d v:=by
 unfold L3 at h ⊢
 rw [<- al.length]
 cases e:ixN ds.length i with
 | none=>rw [e]at h;cases h
 | some j =>
  rw [e]at h
  obtain⟨v,hv,q⟩:=al.get (i:=j) h
  exact⟨v,hv,q⟩
def B4 (x y:R) (Q:R->Prop):Prop:=match x,y with
 | .st (.lst ds),.st (.int i)=>∃d,L3 ds i=some d/\Q (.st d)
 | .nw ds,.st (.int i)=>∃d,L3 ds i=some d/\Q (.st d)
 | .bw ds,.st (.int i)=>∃d,L3 ds i=some d/\Q (.st d)
 | .st (.tup ds),.st (.int i)=>∃d,L3 ds i=some d/\Q (.st d)
 | .st (.str z),.st (.int i)=>z.length<=sizeLine/\∃c,L3 z.cps.toList i=some c/\Q (.st (.str ⟨#[c]⟩))
 | _,_=>False
theorem Y8t:X7 B4:=fun x y P Q g h=>by
 unfold B4 at h ⊢
 split at h
 case h_6=>exact h
 case h_5=>obtain⟨z,c,h1,h2⟩:=h;exact⟨z,c,h1,g _ h2⟩
 all_goals (obtain⟨d,h1,h2⟩:=h;exact⟨d,h1,g _ h2⟩)
variable {H0:Hp}{a b c e:Expr}{pos:Pos}{wa wb wc we:WE}
theorem DE.ix (ha:DE X H0 a wa) (hb:DE X H0 b wb) (hs:Z0l b):DE X H0 (.Subscript a b pos) (A3 B4 wa wb) where
 mono:=fun τ P Q f h=>ha.mono τ _ _ (fun x h=>hb.mono τ _ _ (fun y h=>Y8t x y P Q f h) h) h
 pe:=M7 (Y1e Y8u ha.pe hb.pe hs) fun σ H Q ⟨τ,hR,h⟩=>two ha hb hR h fun x y v u H' sm rx ry q=>by
  unfold B4 at q
  split at q
  ·have rx:A1 X.K H' _ v:=rx
   unfold A1 at rx
   obtain⟨p,xs,rfl,sq,al⟩:=rx
   obtain⟨d,hd,q⟩:=q
   obtain⟨z,hz,iz⟩:=Q7a al hd
   exact .inl ⟨p,xs,_,z,rfl,ry,sq.sq,hz,q z H' sm iz⟩
  ·obtain⟨p,xs,rfl,_,sq,al⟩:=rx
   obtain⟨d,hd,q⟩:=q
   obtain⟨z,hz,iz⟩:=Q7a al hd
   exact .inl ⟨p,xs,_,z,rfl,ry,C6.of sq,hz,q z H' sm iz⟩
  ·obtain⟨p,xs,rfl,sq,al⟩:=rx
   obtain⟨d,hd,q⟩:=q
   obtain⟨z,hz,iz⟩:=Q7a al hd
   exact .inl ⟨p,xs,_,z,rfl,ry,C6.of sq,hz,q z H' sm iz⟩
  ·have rx:A1 X.K H' _ v:=rx
   unfold A1 at rx
   obtain⟨p,xs,rfl,sq,al⟩:=rx
   obtain⟨d,hd,q⟩:=q
   obtain⟨z,hz,iz⟩:=Q7a al hd
   exact .inr (.inl ⟨p,xs,_,z,rfl,ry,C2.of sq,hz,q z H' sm iz⟩)
  ·obtain⟨z,c,h1,q⟩:=q
   exact .inr (.inr ⟨_,_,c,rx,ry,z,h1,q _ H' sm Z1t⟩)
  ·exact q.elim
def Q0r (X:Cx) (f:Value) (g:List R->(R->Prop)->Prop):Prop :=
 Q0s X f (fun xs H Q=>∃rs,K5 X.K (fun _=>none) H rs xs/\g rs fun r=>∀v H',A5 H H'->D9 X.K H H' r v->Q v H')
def Q0t (g:List R->(R->Prop)->Prop):Prop:=∀x (P Q:R->Prop),(∀r,P r->Q r)->g x P->g x Q
variable {es:List Expr}{wr:WA}{x:Str}{p:Pos}{id T:String}{g:List R->(R->Prop)->Prop}
def C7 (g:List R->(R->Prop)->Prop) (wr:WA):WE:=fun τ Q=>wr τ fun rs=>g rs Q
theorem DE.callB (hc:Q0r X (.builtin id) g) (mg:Q0t g) (hg:Gl X x) (hm:X.mg x=none) (hv:bootBuiltins x=some (.builtin id)) (ha:DA X H0 (e::es) wr) (hn:x≠"__name__":=by decide) (ef:(x==("__debug__":Str))=false:=by decide)
  (he:starEach (e::es) X.env=(false,eval e X.env)::starEach es X.env:=by rfl) (hpl:(backTo pos (starEach es X.env)).any (·.1)=false:=by rfl):DE X H0 (.Call (.Name x p) (e::es) [] pos) (C7 g wr) where
 mono:=fun τ P Q f h=>ha.mono τ _ _ (fun rs h=>mg rs P Q f h) h
 pe:=M7 (Z3b hc hg hm hv ha.pa hn ef he hpl) fun σ H Q ⟨τ,hR,h⟩=>⟨τ,hR,ha.mono τ _ _ (fun rs h vs H1 s1 ck=>⟨rs,ck.v,mg rs _ _ (fun r h v H' s2 ir=>h v H' (s1.trans s2) (ir.older s1)) h⟩) h⟩
theorem DE.callTy (hc:Q0r X (.type T) g) (mg:Q0t g) (hg:Gl X x) (hm:X.mg x=none) (hv:bootBuiltins x=some (.type T)) (ha:DA X H0 (e::es) wr) (hn:x≠"__name__":=by decide) (ef:(x==("__debug__":Str))=false:=by decide)
  (he:starEach (e::es) X.env=(false,eval e X.env)::starEach es X.env:=by rfl) (hpl:(backTo pos (starEach es X.env)).any (·.1)=false:=by rfl):DE X H0 (.Call (.Name x p) (e::es) [] pos) (C7 g wr) where
 mono:=fun τ P Q f h=>ha.mono τ _ _ (fun rs h=>mg rs P Q f h) h
 pe:=M7 (W2r hc hg hm hv ha.pa hn ef he hpl) fun σ H Q ⟨τ,hR,h⟩=>⟨τ,hR,ha.mono τ _ _ (fun rs h vs H1 s1 ck=>⟨rs,ck.v,mg rs _ _ (fun r h v H' s2 ir=>h v H' (s1.trans s2) (ir.older s1)) h⟩) h⟩
theorem T5 {K:Fg9}{H0 H:Hp}{r:R}{vs:List V} (h:K5 K H0 H [r] vs):∃v,vs=[v]/\D9 K H0 H r v:=by
 obtain⟨v,t,rfl,q,z⟩:=h
 cases (show t=[]from z)
 exact⟨v,rfl,q⟩
noncomputable def Z2a:R->(Nat->Prop)->Prop
 | .st (.str z),Q=>z.length<=sizeLine/\Q z.length
 | .st (.tup ds),Q=>Q ds.length
 | .st (.lst ds),Q=>Q ds.length
 | .nw ds,Q=>Q ds.length
 | .bw ds,Q=>Q ds.length
 | _,_=>False
noncomputable def G2:List R->(R->Prop)->Prop
 | [r],Q=>Z2a r fun n=>Q (.st (.int n))
 | _,_=>False
theorem Y9p:Q0t G2:=fun x P Q g h=>by
 unfold G2 at h ⊢
 split at h
 ·unfold Z2a at h ⊢
  split at h <;> first | exact g _ h | exact⟨h.1,g _ h.2⟩ | exact h
 ·exact h
theorem Y6j:Q0r X (.builtin "len") G2:=by
 intro ac s σ H xs us Q I rv ⟨rs,ck,h⟩
 unfold G2 at h
 split at h
 ·obtain⟨v,rfl,ir⟩:=T5 ck
  unfold Z2a at h
  split at h
  ·cases (show v=.str _ from ir)
   exact Q5f ac s σ H _ us Q I rv ⟨_,_,rfl,⟨h.1,rfl⟩,h.2 _ _ (A5.refl H) U7⟩
  ·have ir:A1 X.K H _ v:=ir
   unfold A1 at ir
   obtain⟨p,xs,rfl,sq,al⟩:=ir
   exact Q5f ac s σ H _ us Q I rv ⟨_,_,rfl,.inr ⟨xs,C2.of sq,rfl⟩,by rw [<- al.length];exact h _ _ (A5.refl H) U7⟩
  ·have ir:A1 X.K H _ v:=ir
   unfold A1 at ir
   obtain⟨p,xs,rfl,sq,al⟩:=ir
   exact Q5f ac s σ H _ us Q I rv ⟨_,_,rfl,.inl ⟨xs,sq.sq,rfl⟩,by rw [<- al.length];exact h _ _ (A5.refl H) U7⟩
  ·obtain⟨p,xs,rfl,_,sq,al⟩:=ir
   exact Q5f ac s σ H _ us Q I rv ⟨_,_,rfl,.inl ⟨xs,C6.of sq,rfl⟩,by rw [<- al.length];exact h _ _ (A5.refl H) U7⟩
  ·obtain⟨p,xs,rfl,sq,al⟩:=ir
   exact Q5f ac s σ H _ us Q I rv ⟨_,_,rfl,.inl ⟨xs,C6.of sq,rfl⟩,by rw [<- al.length];exact h _ _ (A5.refl H) U7⟩
  ·exact h.elim
 ·exact h.elim
noncomputable def Q1o:List R->(R->Prop)->Prop
 | [.st (.bl k)],Q=>Q (.st (.int (if k then 1 else 0)))
 | [.st (.int i)],Q=>Q (.st (.int i))
 | _,_=>False
theorem Y8i:Q0t Q1o:=fun x P Q g h=>by
 unfold Q1o at h ⊢
 split at h <;> first | exact g _ h | exact h
theorem Y6f:Q0r X (.type "int") Q1o:=by
 intro ac s σ H xs us Q I rv ⟨rs,ck,h⟩
 unfold Q1o at h
 split at h
 ·obtain⟨v,rfl,ir⟩:=T5 ck
  cases (show v=.bl _ from ir)
  exact Z6z ac s σ H _ us Q I rv (.inr ⟨_,rfl,h _ _ (A5.refl H) U7⟩)
 ·obtain⟨v,rfl,ir⟩:=T5 ck
  cases (show v=.int _ from ir)
  exact Z6z ac s σ H _ us Q I rv (.inl ⟨_,rfl,h _ _ (A5.refl H) U7⟩)
 ·exact h.elim
noncomputable def Q3b:R->Option (List D)
 | .st (.tup ds)=>some ds
 | .st (.lst ds)=>some ds
 | .nw ds=>some ds
 | .bw ds=>some ds
 | _=>none
theorem Y3o {K:Fg9}{H0 H:Hp}:∀{r:R}{ds:List D}{v:V},Q3b r=some ds->D9 K H0 H r v->∃a xs,v=.ref a/\(C6 K H a xs\/H a=some (.tup xs))/\AllS K H ds xs
 | .st (.tup ds),_,v,e,h=>by cases e;have h:A1 K H (.tup ds) v:=h;unfold A1 at h;obtain⟨a,xs,e,q,t⟩:=h;exact⟨a,xs,e,.inr q,t⟩
 | .st (.lst ds),_,v,e,h=>by cases e;have h:A1 K H (.lst ds) v:=h;unfold A1 at h;obtain⟨a,xs,e,q,t⟩:=h;exact⟨a,xs,e,.inl q.sq,t⟩
 | .nw ds,_,v,e,h=>by cases e;obtain⟨a,xs,e,n,q,t⟩:=h;exact⟨a,xs,e,.inl (C6.of q),t⟩
 | .bw ds,_,v,e,h=>by cases e;obtain⟨a,xs,e,q,t⟩:=h;exact⟨a,xs,e,.inl (C6.of q),t⟩
 | .st .non,_,_,e,_=>by cases e
 | .st (.bl _),_,_,e,_=>by cases e
 | .st (.int _),_,_,e,_=>by cases e
 | .st (.str _),_,_,e,_=>by cases e
 | .dk _,_,_,e,_=>by cases e
 | .dt _,_,_,e,_=>by cases e
 | .ob _,_,_,e,_=>by cases e
 | .cl _ _,_,_,e,_=>by cases e
 | .ms _ _ _ _,_,_,e,_=>by cases e
noncomputable def Q2s:List R->(R->Prop)->Prop
 | [r],Q=>∃ds,Q3b r=some ds/\Q (.nw ds)
 | _,_=>False
theorem Y9x:Q0t Q2s:=fun x P Q g h=>by
 unfold Q2s at h ⊢
 split at h
 ·obtain⟨ds,e,q⟩:=h;exact⟨ds,e,g _ q⟩
 ·exact h
theorem Y6l:Q0r X (.type "list") Q2s:=by
 intro ac s σ H xs us Q I rv ⟨rs,ck,h⟩
 unfold Q2s at h
 split at h
 ·obtain⟨v,rfl,ir⟩:=T5 ck
  obtain⟨ds,e,q⟩:=h
  obtain⟨a,xs,rfl,sq,al⟩:=Y3o e ir
  exact Y6n ac s σ H _ us Q I rv ⟨a,xs,rfl,sq.imp id (fun z=>C2.of z),fun l hl=>q _ _ (D7 hl _) ⟨l,xs,rfl,hl,upd_same,al.mono (Kp.of (D7 hl _)) _ _⟩⟩
 ·exact h.elim
noncomputable def O4:List R->(R->Prop)->Prop
 | [r],Q=>∃ds,Q3b r=some ds/\Q (.st (.tup ds))
 | _,_=>False
theorem W8l:Q0t O4:=fun x P Q g h=>by
 unfold O4 at h ⊢
 split at h
 ·obtain⟨ds,e,q⟩:=h;exact⟨ds,e,g _ q⟩
 ·exact h
theorem Y6q:Q0r X (.type "tuple") O4:=by
 intro ac s σ H xs us Q I rv ⟨rs,ck,h⟩
 unfold O4 at h
 split at h
 ·obtain⟨v,rfl,ir⟩:=T5 ck
  obtain⟨ds,e,q⟩:=h
  obtain⟨a,xs,rfl,sq,al⟩:=Y3o e ir
  refine Y6r ac s σ H _ us Q I rv ⟨a,xs,rfl,?_⟩
  rcases sq with sq | sq
  ·exact .inl ⟨sq,fun l hl=>q _ _ (D7 hl _) (A1.s_tup (K:=X.K) upd_same (al.mono (Kp.of (D7 hl _)) _ _))⟩
  ·exact .inr ⟨C2.of sq,q _ _ (A5.refl H) (A1.s_tup (K:=X.K) (H:=H) sq al)⟩
 ·exact h.elim
noncomputable def Q6l:R->Option String
 | .st .non=>some "NoneType"
 | .st (.bl _)=>some "bool"
 | .st (.int _)=>some "int"
 | .st (.str _)=>some "str"
 | .st (.tup _)=>some "tuple"
 | .nw _=>some "list"
 | .bw _=>some "list"
 | .st (.lst _)=>some "list"
 | _=>none
theorem W8t {K:Fg9}{H0 H:Hp}:∀{r:R}{t:String}{v:V},Q6l r=some t->D9 K H0 H r v->V7 K H v (.type t)\/(t="list"/\∃a xs,v=.ref a/\C6 K H a xs)
 | .st .non,_,v,e,h=>by cases e;cases (show v=.non from h);exact .inl (.non)
 | .st (.bl b),_,v,e,h=>by cases e;cases (show v=.bl b from h);exact .inl (.bl b)
 | .st (.int b),_,v,e,h=>by cases e;cases (show v=.int b from h);exact .inl (.int b)
 | .st (.str b),_,v,e,h=>by cases e;cases (show v=.str b from h);exact .inl (.str b)
 | .st (.tup ds),_,v,e,h=>by cases e;have h:A1 K H (.tup ds) v:=h;unfold A1 at h;obtain⟨a,xs,rfl,q,t⟩:=h;exact .inl (.tup q)
 | .nw ds,_,v,e,h=>by cases e;obtain⟨a,xs,rfl,n,q,t⟩:=h;exact .inl (.lst q)
 | .bw ds,_,v,e,h=>by cases e;obtain⟨a,xs,rfl,q,t⟩:=h;exact .inl (.lst q)
 | .st (.lst ds),_,v,e,h=>by cases e;have h:A1 K H (.lst ds) v:=h;unfold A1 at h;obtain⟨a,xs,rfl,q,t⟩:=h;exact .inr ⟨rfl,a,xs,rfl,q.sq⟩
 | .dk _,_,_,e,_=>by cases e
 | .dt _,_,_,e,_=>by cases e
 | .ob _,_,_,e,_=>by cases e
 | .cl _ _,_,_,e,_=>by cases e
 | .ms _ _ _ _,_,_,e,_=>by cases e
noncomputable def Q3v (T:String) (t:String):Bool:=t==T||(T=="int"&&t=="bool")
def Q9m (T:String) (we:WE):WE:=fun τ Q=>we τ fun r=>∃t,Q6l r=some t/\Q (.st (.bl (Q3v T t)))
theorem DE.isi {p2:Pos}{y:Str} (he:DE X H0 e we) (hg:Gl X "isinstance") (hm:X.mg "isinstance"=none) (hv:bootBuiltins "isinstance"=some (.builtin "isinstance")) (qy:Gl X y) (ql:X.mg y=none) (i7:bootBuiltins y=some (.type T))
  (hk:∀K t,t∈["NoneType","bool","int","str","tuple","list"]->PySem.W.kitOne K (.type t) (.type T)=some (Q3v T t))
  (nL:starEach [e,.Name y p2] X.env=(false,eval e X.env)::starEach [.Name y p2] X.env:=by rfl) (m6:starEach [.Name y p2] X.env=(false,eval (.Name y p2) X.env)::starEach [] X.env:=by rfl)
  (hpl:(backTo pos (starEach [.Name y p2] X.env)).any (·.1)=false:=by rfl) (hn:y≠"__name__":=by decide) (hd:(y==("__debug__":Str))=false:=by decide) :
  DE X H0 (.Call (.Name "isinstance" p) [e,.Name y p2] [] pos) (Q9m T we) where
 mono:=fun τ P Q f h=>he.mono τ _ _ (fun r ⟨t,h1,h2⟩=>⟨t,h1,f _ h2⟩) h
 pe:=by
  have hc:Q0s X (.builtin "isinstance") (fun xs H Q=>∃v t,xs=[v,.ty T]/\(V7 X.K H v (.type t)\/(t="list"/\∃a ys,v=.ref a/\C6 X.K H a ys))/\t∈["NoneType","bool","int","str","tuple","list"]/\Q (.bl (Q3v T t)) H):=by
   intro ac s σ H xs us Q I rv ⟨v,t,e,ty,ht,q⟩
   subst e
   obtain⟨u,w',rfl,r1,r2⟩:=W8y rv
   cases (show w'=Value.type T from r2)
   rcases ty with ty | ⟨rfl,a,ys,rfl,sq⟩
   ·exact Y8s I r1 ty (hk _ t ht) fun tk=>⟨.bl _,H,I.tok tk,rfl,q⟩
   ·cases (show u=Value.ref a from r1)
    obtain⟨aU,_,⟨o,n,h1,h2,_⟩,_⟩:=I.list sq
    exact bL PySem.W.kitx_list I.kIn ⟨o,h1,h2⟩ (hk _ _ ht) (fun z=>nomatch z) fun tk=>⟨.bl _,H,I.tok tk,rfl,q⟩
  refine M7 (Z3b hc hg hm hv (Q1b he.pe (Q1b (W2p (v:=.ty T) qy ql i7 rfl hn hd) Q2z m6) nL) (by decide) (by decide) nL hpl) fun σ H Q ⟨τ,hR,h⟩=>⟨τ,hR,he.mono τ _ _ (fun r h v H1 s1 ir=>?_) h⟩
  obtain⟨t,h1,h2⟩:=h
  refine⟨v,t,rfl,W8t h1 ir,?_,h2 _ _ s1 Q7p⟩
  unfold Q6l at h1
  split at h1 <;> first | (cases h1;simp) | cases h1
end
noncomputable abbrev WG:=D->A8->(A8->Prop)->Prop
noncomputable def Y9s (K:Fg9) (H0:Hp) (g:WG):TG:=fun v σ H Q=>∃ τ d,B9 K H0 τ σ H/\A1 K H d v/\g d τ fun τ'=>∀ σ' H',A5 H H'->B9 K H0 τ' σ' H'->Q σ' H'
structure DG (X:Cx) (H0:Hp) (tg:Expr) (g:WG):Prop where
 mono:∀d τ (P Q:A8->Prop),(∀ τ,P τ->Q τ)->g d τ P->g d τ Q
 pg:PG X tg (Y9s X.K H0 g)
noncomputable abbrev WGs:=List D->A8->(A8->Prop)->Prop
noncomputable def Y9t (K:Fg9) (H0:Hp) (g:WGs):TGs:=fun vs σ H Q=>∃ τ ds,B9 K H0 τ σ H/\AllS K H ds vs/\g ds τ fun τ'=>∀ σ' H',A5 H H'->B9 K H0 τ' σ' H'->Q σ' H'
structure G0 (X:Cx) (H0:Hp) (tg:List Expr) (g:WGs):Prop where
 mono:∀d τ (P Q:A8->Prop),(∀ τ,P τ->Q τ)->g d τ P->g d τ Q
 pg:PGs X tg (Y9t X.K H0 g)
theorem pgW {X:Cx}{e:Expr}{t t':TG} (h:PG X e t) (f:∀v σ H Q,t' v σ H Q->t v σ H Q):PG X e t':=fun ac s σ H v u Q I r q=>h ac s σ H v u Q I r (f v σ H Q q)
theorem pgsW {X:Cx}{e:List Expr}{t t':TGs} (h:PGs X e t) (f:∀v σ H Q,t' v σ H Q->t v σ H Q):PGs X e t':=fun ac s σ H v u Q I r q=>h ac s σ H v u Q I r (f v σ H Q q)
section
variable {X:Cx}{H0:Hp}{a b c e iter tg:Expr}{pos:Pos}{wa wb we:WE}{es:List Expr}
def B0 (i:Nat):WG:=fun d τ Q=>Q (τ.set i (some (.dat d)))
theorem DG.nm {i:Nat}{x:Str} (hN:X.N.Nodup) (hi:X.N[i]?=some x) (hx:Loc X.env.scope x) (hf:X.fn x=true\/X.env.scope.names.lookup x=some .local:=by first | exact .inl rfl | exact .inr rfl | assumption):DG X H0 (.Name x pos) (B0 i) where
 mono:=fun d τ P Q f h=>f _ h
 pg:=pgW (Y1g hN hi hx hf) fun v σ H Q ⟨τ,d,hR,iv,h⟩=>h _ _ (A5.refl H) (hR.set iv fun m=>by cases m)
def O2:WGs:=fun ds τ Q=>ds=[]/\Q τ
def E6 (g:WG) (gs:WGs):WGs:=fun ds τ Q=>∃d r,ds=d::r/\g d τ fun τ'=>gs r τ' Q
theorem G0.nil:G0 X H0 [] O2 where
 mono:=fun d τ P Q f h=>⟨h.1,f _ h.2⟩
 pg:=pgsW W3p fun vs σ H Q ⟨τ,ds,hR,al,h1,h2⟩=>by
  subst h1
  unfold AllS at al
  exact⟨al,h2 σ H (A5.refl H) hR⟩
theorem G0.cons {g:WG}{gs:WGs} (h1:DG X H0 e g) (h2:G0 X H0 es gs) (hs:(assignEach (e::es) X.env).map (·.2)=assign e X.env::(assignEach es X.env).map (·.2):=by rfl):G0 X H0 (e::es) (E6 g gs) where
 mono:=fun d τ P Q f ⟨x,r,e1,h⟩=>⟨x,r,e1,h1.mono x τ _ _ (fun τ' h=>h2.mono r τ' P Q f h) h⟩
 pg:=pgsW (W3o h1.pg h2.pg hs) fun vs σ H Q ⟨τ,ds,hR,al,d,r,e1,h⟩=>by
  subst e1
  unfold AllS at al
  obtain⟨v,t,rfl,iv,al⟩:=al
  exact⟨v,t,rfl,τ,d,hR,iv,h1.mono d τ _ _ (fun τ' h σ' H' sm cL=>⟨τ',r,cL,al.mono (Kp.of sm) _ _,h2.mono r τ' _ _ (fun τ2 h σ2 H2 s2 dz=>h σ2 H2 (sm.trans s2) dz) h⟩) h⟩
def N7 (n:Nat) (gs:WGs):WG:=fun d τ Q=>∃ds,d=.tup ds/\ds.length=n/\gs ds τ Q
theorem DG.tp {k n:Nat}{gs:WGs} (hc:X.calm=true) (h:G0 X H0 es gs) (hn:(assignEach es X.env).length=n:=by rfl) (m5:(assignEach es X.env).findIdx? (·.1)=none:=by rfl):DG X H0 (.Tuple es k pos) (N7 n gs) where
 mono:=fun d τ P Q f ⟨ds,e1,e2,q⟩=>⟨ds,e1,e2,h.mono ds τ P Q f q⟩
 pg:=pgW (W3n hc h.pg hn m5) fun v σ H Q ⟨τ,d,hR,iv,ds,e1,e2,q⟩=>by
  subst e1
  unfold A1 at iv
  obtain⟨p,xs,rfl,sq,al⟩:=iv
  exact⟨p,xs,rfl,C2.of sq,by rw [<- al.length];exact e2,τ,ds,hR,al,q⟩
theorem DS.asg {g:WG} (he:DE X H0 e we) (hg:DG X H0 tg g) (hs:swapsWithSole [tg] e pos.line X.env=pure false:=by rfl) (hw:swappedStores [tg] e X.env=pure none:=by rfl)
  (h1:(assignEach [tg] X.env).map (·.2)=[assign tg X.env]:=by rfl):DS X H0 (.Assign [tg] e pos) (fun E τ=>we τ fun r=>∃d,r=.st d/\g d τ E.nx) where
 mono:=fun τ E F le h=>he.mono τ _ _ (fun r ⟨d,e1,h⟩=>⟨d,e1,hg.mono d τ _ _ le.nx h⟩) h
 ps:=Q3 (W3y he.pe hg.pg hs hw h1) fun D σ H ⟨τ,hR,h⟩=>⟨τ,hR,he.mono τ _ _ (fun r ⟨d,e1,h⟩ v H1 s1 ir=>by
  subst e1
  exact⟨τ,d,hR.mono s1,ir,hg.mono d τ _ _ (fun τ' h σ' H' s2 cL=>h σ' H' (Kp.of (s1.trans s2)) cL) h⟩) h⟩
structure Yl (K:Fg9) (H0:Hp) (J:It) (ds:List D) (H:Hp):Prop where
 go:∀H',Kp H H'->A5 H0 H'->∀i,i<ds.length->J.go i H'
 yld:∀H',Kp H H'->A5 H0 H'->∀i x cZ d,ds[i]?=some d->J.yld i H' x cZ->A5 H' cZ/\A1 K cZ d x
 stop:∀H',Kp H H'->A5 H0 H'->J.stop ds.length H'
noncomputable abbrev WI:=A8->(List D->A8->Prop)->Prop
noncomputable def Y9u (K:Fg9) (H0:Hp) (wi:WI):TI:=fun σ H R=>∃ τ,B9 K H0 τ σ H/\wi τ fun ds τ'=>∀J H',Kp H H'->B9 K H0 τ' σ H'->Yl K H0 J ds H'->R J H'
structure DI (X:Cx) (H0:Hp) (tg iter:Expr) (wi:WI):Prop where
 mono:∀ τ (P Q:List D->A8->Prop),(∀ds τ,P ds τ->Q ds τ)->wi τ P->wi τ Q
 pi:PI X tg iter (Y9u X.K H0 wi)
theorem piW {X:Cx}{tg e:Expr}{t t':TI} (h:PI X tg e t) (f:∀ σ H Q,t' σ H Q->t σ H Q):PI X tg e t':=fun ac s σ H R I q=>h ac s σ H R I (f σ H R q)
theorem W9j {K:Fg9}{H0 H:Hp}{a:Addr}{xs:List V}{ds:List D} (hq:∀H',Kp H H'->A5 H0 H'->C6 K H' a xs) (al:AllS K H ds xs):Yl K H0 (Itl K a) ds H where
 go:=fun H' k s i hi=>⟨xs,xs[i]'(by rw [<- al.length];exact hi),hq H' k s,ae _⟩
 yld:=fun H' k s i x cZ d hd ⟨e,y⟩=>by
  subst e
  have hx:=y xs (hq _ k s)
  obtain⟨v,hv,q⟩:=(al.mono k _ _).get hd
  rw [hx]at hv;cases hv
  exact⟨A5.refl _,q⟩
 stop:=fun H' k s=>⟨xs,hq H' k s,by rw [al.length];exact ah _⟩
theorem DI.lst (he:DE X H0 e we):DI X H0 tg e (fun τ Q=>we τ fun r=>∃ds,r=.st (.lst ds)/\Q ds τ) where
 mono:=fun τ P Q f h=>he.mono τ _ _ (fun r ⟨ds,e1,q⟩=>⟨ds,e1,f _ _ q⟩) h
 pi:=piW (Y1h he.pe) fun σ H R ⟨τ,hR,h⟩=>⟨τ,hR,he.mono τ _ _ (fun r ⟨ds,e1,q⟩ v H1 s1 ir=>by
  subst e1
  have ir:A1 X.K H1 (.lst ds) v:=ir
  unfold A1 at ir
  obtain⟨a,xs,rfl,sq,al⟩:=ir
  exact⟨a,rfl,⟨xs,sq.sq⟩,q _ _ (Kp.of s1) (hR.mono s1) (W9j (fun H' k _=>(k.fzL sq).sq) al)⟩) h⟩
theorem B9.freeze {K:Fg9}{H:Hp} {τ:A8} {σ:St}{i:Nat}{ds:List D}{a:Addr}{o:Obj}{xs:List V} (hR:B9 K H0 τ σ H) (e1:τ[i]?=some (some (.own ds))) (hv:σ[i]?=some (some (.ref a))) (h0:H0 a=none) (sq:H a=some (.lst xs)) (al:AllS K H ds xs) :
  B9 K H0 (τ.set i (some (.dat (.lst ds)))) σ (upd H a (.frz o (.lst xs))):=by
 have kp:Kp H (upd H a (.frz o (.lst xs))):=Kp.upd sq _
 have hl:i<τ.length:=by
  rcases bE i τ.length with h | h
  ·exact h
  ·rw [aJ.mpr h]at e1;cases e1
 refine⟨by rw [bN];exact hR.len,fun b ob hb=>?_,fun j s e=>?_,fun j k s t v cA e2 e3 m1 m2 q1 q2=>?_⟩
 ·rw [B1 (U9 hb h0)];exact hR.same b ob hb
 ·by_cases hj:j=i
  ·subst hj
   rw [Z1 hl]at e;cases e
   exact⟨_,hv,A1.s_lst (K:=K) (.inl ⟨o,upd_same⟩) (al.mono kp _ _)⟩
  ·rw [aG (fun z=>hj z.symm)]at e
   obtain⟨v,q,r⟩:=hR.here j s e
   refine⟨v,q,?_⟩
   have ap:s.mut=true->v≠.ref a:=fun m z=>by
    subst z
    exact hR.apart i j _ s (.ref a) (fun z=>hj z.symm) e1 e rfl m hv q
   cases s with
   | dat d=>exact A1.mono kp _ _ r
   | own es=>obtain⟨b,ys,e,n,q,t⟩:=r;exact⟨b,ys,e,n,by rw [B1 (fun z=>ap rfl (by rw [e,z]))];exact q,t.mono kp _ _⟩
   | bor es=>obtain⟨b,ys,e,q,t⟩:=r;exact⟨b,ys,e,q,t.mono kp _ _⟩
   | bd es=>obtain⟨b,ys,e,q,t⟩:=r;exact⟨b,ys,e,q,t.mono kp _ _⟩
   | dk es=>obtain⟨b,ys,e,n,q,t⟩:=r;exact⟨b,ys,e,n,by rw [B1 (fun z=>ap rfl (by rw [e,z]))];exact q,t.mono kp _ _⟩
   | dt es=>obtain⟨b,ys,e,n,q,t⟩:=r;exact⟨b,ys,e,n,by rw [B1 (fun z=>ap rfl (by rw [e,z]))];exact q,t.mono kp _ _⟩
   | ob _=>exact r
   | cl _ _=>exact⟨r.1,r.2.2 _ _ kp r.2.1,r.2.2⟩
   | ll _ _=>exact⟨r.1,r.2.keep kp fun b φ q=>by rw [B1 (Z5 q sq (by intro z;cases z))];exact q⟩
   | ins _ _ _=>obtain⟨e,n,dx,ys,q,t⟩:=r;exact⟨e,n,dx,ys,by rw [B1 (fun z=>ap rfl (by rw [e,z]))];exact q,t.mono kp _ _⟩
 ·by_cases hj:j=i
  ·subst hj;rw [Z1 hl]at e2;cases e2;cases m1
  ·by_cases hk:k=i
   ·subst hk;rw [Z1 hl]at e3;cases e3;cases m2
   ·rw [aG (fun z=>hj z.symm)]at e2
    rw [aG (fun z=>hk z.symm)]at e3
    exact hR.apart j k s t v cA e2 e3 m1 m2 q1 q2
theorem DI.tup (he:DE X H0 e we):DI X H0 tg e (fun τ Q=>we τ fun r=>∃ds,r=.st (.tup ds)/\Q ds τ) where
 mono:=fun τ P Q f h=>he.mono τ _ _ (fun r ⟨ds,e1,q⟩=>⟨ds,e1,f _ _ q⟩) h
 pi:=piW (Y1j he.pe) fun σ H R ⟨τ,hR,h⟩=>⟨τ,hR,he.mono τ _ _ (fun r ⟨ds,e1,q⟩ v H1 s1 ir=>by
  subst e1
  have ir:A1 X.K H1 (.tup ds) v:=ir
  unfold A1 at ir
  obtain⟨a,xs,rfl,sq,al⟩:=ir
  refine⟨a,rfl,⟨xs,C2.of sq⟩,q _ _ (Kp.of s1) (hR.mono s1) ⟨fun H' k _ i hi=>⟨xs,xs[i]'(by rw [<- al.length];exact hi),C2.of (k.tup _ _ sq),ae _⟩,fun H' k _ i x cZ d hd ⟨e,y⟩=>?_,fun H' k _=>⟨xs,C2.of (k.tup _ _ sq),by rw [al.length];exact ah _⟩⟩⟩
  subst e
  have hx:=y xs (C2.of (k.tup _ _ sq))
  obtain⟨v,hv,q⟩:=(al.mono k _ _).get hd
  rw [hx]at hv;cases hv
  exact⟨A5.refl _,q⟩) h⟩
noncomputable def J4 (lo:Int) (n:Nat):List D:=(List.range n).map fun(i:Nat)=>.int (lo+(i:Int))
theorem Q9y {K:Fg9}{H0 H:Hp}{lo:Int}{n:Nat}:Yl K H0 (Itr lo n) (J4 lo n) H where
 go:=fun H' _ _ i hi=>by
  have:i<n:=by simpa [J4]using hi
  exact this
 yld:=fun H' _ _ i x cZ d hd ⟨e,y⟩=>by
  subst e
  refine⟨A5.refl _,?_⟩
  unfold J4 at hd
  rw [ai]at hd
  rcases bE i n with hi | hi
  ·rw [List.getElem?_range hi]at hd
   have e:D.int (lo+i)=d:=aB hd
   subst e y
   exact A1.s_int
  ·rw [aJ.mpr (by simpa using hi)]at hd;cases hd
 stop:=fun H' _ _=>by
  show n<=(J4 lo n).length
  simp [J4]
variable {wr:WA}
theorem DI.rng1 {p:Pos} (hg:Gl X "range") (hm:X.mg "range"=none) (ha:DA X H0 [a] wr) (hs:starEach [a] X.env=[(false,eval a X.env)]:=by rfl) :
  DI X H0 tg (.Call (.Name "range" p) [a] [] pos) (fun τ Q=>wr τ fun rs=>∃j:Int,rs=[.st (.int j)]/\-(2 ^ 62)<=j/\j<2 ^ 62/\Q (J4 0 j.toNat) τ) where
 mono:=fun τ P Q f h=>ha.mono τ _ _ (fun r ⟨j,e1,h1,h2,q⟩=>⟨j,e1,h1,h2,f _ _ q⟩) h
 pi:=piW (Y1i hg hm ha.pa hs) fun σ H R ⟨τ,hR,h⟩=>⟨τ,hR,ha.mono τ _ _ (fun r ⟨j,e1,h1,h2,q⟩ vs H1 s1 ck=>by
  subst e1
  obtain⟨v,rfl,ir⟩:=T5 ck
  cases (show v=.int j from ir)
  exact⟨j,rfl,h1,h2,q _ _ (Kp.of s1) (hR.mono s1) Q9y⟩) h⟩
theorem Z0p {K:Fg9}{H0 H:Hp}{r r':R}{vs:List V} (h:K5 K H0 H [r,r'] vs):∃v u,vs=[v,u]/\D9 K H0 H r v/\D9 K H0 H r' u:=by
 obtain⟨v,t,rfl,q,z⟩:=h
 obtain⟨u,rfl,q'⟩:=T5 z
 exact⟨v,u,rfl,q,q'⟩
noncomputable def C4 (g:WG) (wb:WS) (E:F4):List D->A8->Prop
 | [],τ=>E.nx τ
 | d::ds,τ=>g d τ fun τ'=>wb { E with nx:=C4 g wb E ds,ct:=C4 g wb E ds,bk:=E.nx } τ'
theorem Z1k {g:WG}{wb:WS} (hg:∀d τ (P Q:A8->Prop),(∀ τ,P τ->Q τ)->g d τ P->g d τ Q) (hb:∀(τ:A8) (E F:F4),E.Le F->wb E τ->wb F τ) {E F:F4} (le:E.Le F):∀(ds:List D) (τ:A8),C4 g wb E ds τ->C4 g wb F ds τ
 | [],τ,h=>le.nx τ h
 | d::ds,τ,h=>hg d τ _ _ (fun τ' h=>hb τ' { E with nx:=C4 g wb E ds,ct:=C4 g wb E ds,bk:=E.nx } { F with nx:=C4 g wb F ds,ct:=C4 g wb F ds,bk:=F.nx } ⟨fun τ h=>Z1k hg hb le ds τ h,le.rt,le.nx,fun τ h=>Z1k hg hb le ds τ h⟩ h) h
theorem DS.for {body:List Stmt}{wi:WI}{g:WG}{wb:WS} (hp:PassesOwn (model X.prog X.w) X.A X.env X.xe) (hc:X.calm=true) (hi:DI X H0 tg iter wi) (hg:DG X H0 tg g) (hb:A6 X H0 body wb)
  (hs:∀x,foldedSetIterable iter X.env x=pure x:=by intro _;rfl):DS X H0 (.For tg iter body [] pos) (fun E τ=>wi τ fun ds τ'=>C4 g wb E ds τ') where
 mono:=fun τ E F le h=>hi.mono τ _ _ (fun ds τ' h=>Z1k hg.mono hb.mono le ds τ' h) h
 ps:=Q3 (W4a hp hc hi.pi hg.pg hb.ps hs) fun D σ H ⟨τ,hR,h⟩=>⟨τ,hR,hi.mono τ _ _ (fun ds τ' h J H1 k1 eh yl=>by
  refine⟨fun i m σ H2=>∃ τ,B9 X.K H0 τ σ H2/\Kp H1 H2/\i<=ds.length/\m=ds.length-i/\C4 g wb (L4 X.K H0 H D) (ds.drop i) τ,⟨ds.length,τ',eh,Kp.refl _,bb _,rfl,h⟩,?_⟩
  rintro i m σ2 H2 ⟨τ2,dz,k2,jF,rfl,h2⟩
  by_cases bY:i<ds.length
  ·refine .inr ⟨yl.go H2 k2 dz.same i bY,fun σ' H'=>∃ τ,B9 X.K H0 τ σ' H'/\Kp H1 H'/\i+1<=ds.length/\C4 g wb (L4 X.K H0 H D) (ds.drop (i+1)) τ,fun σ' H' ⟨τ3,a3,b3,c3,d3⟩=>⟨ds.length-(i+1),by omega,τ3,a3,b3,c3,rfl,d3⟩,fun x H3 y=>?_⟩
   obtain⟨s3,ix⟩:=yl.yld H2 k2 dz.same i x H3 _ (ae bY) y
   rw [cF bY]at h2
   have k3:=k2.trans (Kp.of s3)
   refine⟨τ2,ds[i],dz.mono s3,ix,hg.mono _ _ _ _ (fun τ4 h4 σ4 H4 s4 mO=>⟨τ4,mO,?_⟩) h2⟩
   have k4:=k3.trans (Kp.of s4)
   have k5:=k1.trans k4
   exact hb.mono τ4 { L4 X.K H0 H D with nx:=C4 g wb (L4 X.K H0 H D) (ds.drop (i+1)),ct:=C4 g wb (L4 X.K H0 H D) (ds.drop (i+1)),bk:=(L4 X.K H0 H D).nx } _
    ⟨fun τ5 h5 σ5 H5 kk iX=>⟨τ5,iX,k4.trans kk,bY,h5⟩,fun _ h=>h,fun τ5 h5 σ5 H5 kk iX=>h5 σ5 H5 (k5.trans kk) iX,fun τ5 h5 σ5 H5 kk iX=>⟨τ5,iX,k4.trans kk,bY,h5⟩⟩ h4
  ·have e:i=ds.length:=by omega
   subst e
   rw [gb]at h2
   exact .inl ⟨yl.stop H2 k2 dz.same,h2 σ2 H2 (k1.trans k2) dz⟩) h⟩
end
noncomputable def R9 (env:Env):List (Str×NameKind)->List (Str×Addr)->List (Str×Addr)
 | [],cf=>cf
 | (n,k)::r,cf=>R9 env r (if (k==NameKind.free)=true then(n,(env.cells.lookup n).getD 0)::cf else cf)
theorem Q7h {scope:Scope}{env:Env} (h:∀y∈scope.names,y.2=.free->∃c,env.cells.lookup y.1=some c):closureFor scope env=pure (R9 env scope.names []):=by
 have key:∀(l:List (Str×NameKind)) (cf:List (Str×Addr)),(∀y∈l,y.2=.free->∃c,env.cells.lookup y.1=some c) ->
   (forIn l cf fun x r=>(if (x.2==NameKind.free)=true then cellOf env x.1>>=fun c=>pure (ForInStep.yield ((x.1,c)::r))else pure (ForInStep.yield r):Sem (ForInStep (List (Str×Addr)))))=pure (R9 env l cf):=by
  intro l
  induction l with
  | nil=>intro cf _;rfl
  | cons x r ih =>
   intro cf hl
   obtain⟨n,k⟩:=x
   have hr:∀y∈r,y.2=.free->∃c,env.cells.lookup y.1=some c:=fun y hy=>hl y (av _ hy)
   rw [bj]
   by_cases hk:(k==NameKind.free)=true
   ·obtain⟨c,hc⟩:=hl (n,k) ao (eq_of_beq hk)
    have hc:env.cells.lookup n=some c:=hc
    have e:cellOf env n=pure c:=by unfold cellOf;rw [hc]
    show((if (k==NameKind.free)=true then cellOf env n>>=fun c=>pure (ForInStep.yield ((n,c)::cf))else pure (ForInStep.yield cf))>>=_)=_
    rw [aE hk,e]
    show _=pure (R9 env r (if (k==NameKind.free)=true then(n,(env.cells.lookup n).getD 0)::cf else cf))
    rw [aE hk,hc]
    exact ih _ hr
   ·show((if (k==NameKind.free)=true then cellOf env n>>=fun c=>pure (ForInStep.yield ((n,c)::cf))else pure (ForInStep.yield cf))>>=_)=_
    rw [aC hk]
    show _=pure (R9 env r (if (k==NameKind.free)=true then(n,(env.cells.lookup n).getD 0)::cf else cf))
    rw [aC hk]
    exact ih _ hr
 simp only [closureFor]
 rw [key scope.names [] h]
 rfl
theorem Z7i {env:Env}:∀(l:List (Str×NameKind)) (cf:List (Str×Addr)) (p:Str×Addr),p∈R9 env l cf->p∈cf\/((p.1,NameKind.free)∈l/\p.2=(env.cells.lookup p.1).getD 0)
 | [],cf,p,h=>.inl h
 | (n,k)::r,cf,p,h=>by
  rcases Z7i r _ p h with q | ⟨q1,q2⟩
  ·by_cases hk:(k==NameKind.free)=true
   ·rw [aE hk]at q
    rcases aj.mp q with q | q
    ·refine .inr ⟨?_,by rw [q]⟩
     have:k=NameKind.free:=eq_of_beq hk
     rw [q,this];exact ao
    ·exact .inl q
   ·rw [aC hk]at q;exact .inl q
  ·exact .inr ⟨av _ q1,q2⟩
theorem Z7h {env:Env}:∀(l:List (Str×NameKind)) (cf:List (Str×Addr)) (n:Str),((n,NameKind.free)∈l\/∃c,(n,c)∈cf)->∃c,(n,c)∈R9 env l cf
 | [],cf,n,h=>by
  rcases h with h | h
  ·cases h
  ·exact h
 | (m,k)::r,cf,n,h=>by
  refine Z7h r _ n ?_
  rcases h with h | ⟨c,h⟩
  ·rcases aj.mp h with e | h
   ·cases e
    refine .inr ⟨(env.cells.lookup m).getD 0,?_⟩
    rw [aE (by rfl)]
    exact ao
   ·exact .inl h
  ·refine .inr ⟨c,?_⟩
   split
   ·exact av _ h
   ·exact h
theorem Q7v {α:Type}:∀{l:List (Str×α)}{x:Str}{c:α},l.lookup x=some c->(x,c)∈l
 | [],_,_,h=>by simp at h
 | (n,d)::r,x,c,h=>by
  rw [List.lookup_cons]at h
  cases e:x==n with
  | true=>rw [e]at h;cases h;rw [eq_of_beq e];exact ao
  | false=>rw [e]at h;exact av _ (Q7v h)
theorem Y0b {α:Type}:∀{l:List (Str×α)}{x:Str}{c:α},(x,c)∈l->∃d,l.lookup x=some d
 | [],_,_,h=>by cases h
 | (n,d)::r,x,c,h=>by
  rw [List.lookup_cons]
  cases e:x==n with
  | true=>exact⟨d,rfl⟩
  | false =>
   rcases aj.mp h with q | q
   ·cases q;simp at e
   ·exact Y0b q
noncomputable def blk (X:Cx) (scope:Scope) (C:Addr) (s:Shared) (H:Hp) (fp:List Addr) (N:List Str):Cx :=
 { X with N:=N,s₀:=s,H₀:=H,env:=compEnvC scope (R9 X.env scope.names []) C X.env,outer:=X.stack,ex:=fp,fn:=fun _=>false,pn:=[],xe:=fun _ _=>False }
structure J3 (X:Cx) (scope:Scope) (N:List Str) (nt:Nat) (cap:List Nat):Prop where
 kind:scope.kind=.function
 cell:∀y∈scope.names,y.2≠.cell
 names:∀y∈scope.names,y.2=.local->scope.names.lookup y.1=some .local
 only:∀y∈scope.names,y.2=.free->scope.names.lookup y.1=some .free
 free:∀y∈scope.names,y.2=.free->X.env.kindOf y.1=some .cell\/X.env.kindOf y.1=some .free
 len:N.length=nt+cap.length
 caps:∀(j i:Nat) (x:Str),cap[j]?=some i->N[nt+j]?=some x->X.N[i]?=some x/\(x,NameKind.free)∈scope.names
section
variable {X:Cx}{scope:Scope}{N:List Str}{nt:Nat}{cap:List Nat}{ac:Pn9} {σ:St}{H:Hp}{s:Shared}
theorem U3 (I:A0 X ac σ H s) (B:J3 X scope N nt cap) {x:Str}{c:Addr} (h:(R9 X.env scope.names []).lookup x=some c):X.env.cells.lookup x=some c:=by
 rcases Z7i _ _ _ (Q7v h)with q | ⟨q1,q2⟩
 ·cases q
 ·obtain⟨d,hd⟩:=I.ok.has x (B.free _ q1 rfl)
  have q2:c=(X.env.cells.lookup x).getD 0:=q2
  rw [hd]at q2 ⊢
  rw [q2];rfl
theorem Z0y (I:A0 X ac σ H s) (B:J3 X scope N nt cap) {x:Str} (h:(x,NameKind.free)∈scope.names):∃c,(R9 X.env scope.names []).lookup x=some c:=by
 obtain⟨c,hc⟩:=Z7h (env:=X.env) scope.names [] x (.inl h)
 exact Y0b hc
theorem Y1v {env:Env}{x:Str}{k:NameKind} (h:(relabel scope env).names.lookup x=some k) (hk:k=.cell\/k=.free) (nc:∀y∈scope.names,y.2≠.cell):(x,NameKind.free)∈scope.names:=by
 have m:=Q7v h
 unfold relabel at m
 obtain⟨⟨n,k'⟩,hm,e⟩:=am.mp m
 dsimp only at e
 split at e
 ·rename_i hc
  cases e
  simp only [cj]at hc
  have:k'=NameKind.free:=eq_of_beq hc.1.1
  rw [<- this];exact hm
 ·cases e
  rcases hk with rfl | rfl
  ·exact absurd rfl (nc _ hm)
  ·exact hm
theorem Y5z (I:A0 X ac σ H s) (B:J3 X scope N nt cap) {C:Addr}{fp:List Addr} (hC:s.heap.objs.size<=C) (hf:∀b∈fp,K1 X ac H b) (fA:∀b∈fp,b<s.heap.objs.size):(blk X scope C s H fp N).Ok where
 mod:=I.ok.mod
 kind:=B.kind
 glob:=I.ok.glob
 blt:=I.ok.blt
 above:=hC
 inj:=fun x y c h1 h2=>I.ok.inj x y c (U3 I B h1) (U3 I B h2)
 has:=fun x h=>by
  rcases h with h | h
  ·exact Z0y I B (Y1v h (.inl rfl) B.cell)
  ·exact Z0y I B (Y1v h (.inr rfl) B.cell)
 cab:=fun x c h=>by cases h
 hd:=I.ok.hd
 frames:=I.ok.frames
 stk:=.inl rfl
 exf:=fun b hb=>⟨az (ax (fA b hb) hC),fun x c h=>(hf b hb).2.2.2.2.1 x c (U3 I B h)⟩
 bs:=I.bs
 bsz:=aT I.ok.bsz I.sz
 noex:=fun b o e hb=>by
  rcases (hf b hb).2.2.2.1 with z | z
  ·exact I.ok.noex b o e z
  ·exact absurd (ax (au e) (aT I.ok.bsz z)) (aQ _)
 exfs:=fun b hb z=>by
  rcases aj.mp (I.stkSub b z)with e | e
  ·exact(hf b hb).2.1 e
  ·exact(hf b hb).2.2.1 e
 funs:=I.stack
 frf:=I.stkFree
theorem Q7e (I:A0 X ac σ H s) (B:J3 X scope N nt cap) {C:Addr}{fp:List Addr} (hf:∀b∈fp,K1 X ac H b) (fA:∀b∈fp,b<s.heap.objs.size) {h':Heap}{t':Nat}{m:Str->Option Value}
  (hC:s.heap.objs.size<=C) (iQ:h'.Ns C m) (k:∀b o,s.heap.get? b=some o->h'.get? b=some o) :
  A0 (blk X scope C s H fp N) [] (List.replicate nt none++cap.map fun i=>(σ[i]?).join) H { s with heap:=h',toks:=t' }:=by
 refine⟨Y5z I B hC hf fA,rfl,I.bare,Un.kept k,⟨m,iQ,fun i x v h1 h2 h3=>?_⟩,fun x c h=>?_,I.hok.fresh hC,fun x c h=>I.freeC x c (U3 I B h),(fun p hp=>by cases hp),I.hok.kept k,?_⟩
 ·have h1:N[i]?=some x:=h1
  by_cases hi:i<nt
  ·rw [aH (by rw [aZ];exact hi)]at h2
   have:=aD h2
   rw [List.mem_replicate]at this
   cases this.2
  ·rw [aS (by rw [aZ];omega),aZ,ai]at h2
   cases e:cap[i-nt]? with
   | none=>rw [e]at h2;cases h2
   | some j =>
    rw [e]at h2
    have h2:(σ[j]?).join=some v:=aB h2
    have hσ:σ[j]?=some (some v):=by
     cases q:σ[j]? with
     | none=>rw [q]at h2;cases h2
     | some o=>rw [q]at h2;exact congrArg some h2
    obtain⟨hN,hx⟩:=B.caps (i-nt) j x e (by rw [show nt+(i-nt)=i by omega];exact h1)
    obtain⟨m0,rN,hl⟩:=I.loc
    have kd:=B.free _ hx rfl
    obtain⟨u,r,l⟩:=hl j x v hN hσ (.inr kd)
    refine⟨u,r,?_⟩
    obtain⟨c,hc⟩:=Z0y I B hx
    have cY:∃c',X.env.cells.lookup x=some c'/\s.heap.IsCell c' (some u):=by
     rcases l with⟨l1,_⟩ | ⟨_,l2⟩
     ·rcases kd with kd | kd
      ·rw [kd]at l1;cases l1
      ·rw [kd]at l1;cases l1
     ·exact l2
    obtain⟨c',dR,o,ho,hd⟩:=cY
    rw [U3 I B hc]at dR;cases dR
    have h3:Vis (relabel scope X.env) x:=h3
    refine .inr ⟨?_,c,hc,o,k _ _ ho,hd⟩
    rcases h3 with h3 | h3 | h3
    ·exfalso
     have m1:=Q7v h3
     unfold relabel at m1
     obtain⟨⟨n,k'⟩,hm,e'⟩:=am.mp m1
     dsimp only at e'
     split at e'
     ·cases e'
     ·cases e'
      have a1:=B.names _ hm rfl
      have a1:scope.names.lookup x=some .local:=a1
      rw [B.only _ hx rfl]at a1;cases a1
    ·exact .inl h3
    ·exact .inr h3
 ·obtain⟨v,o,ho,hd⟩:=I.cell x c (U3 I B h)
  exact⟨v,o,k _ _ ho,hd⟩
 ·rw [ay,aZ,ag];exact B.len.symm
end
section
variable {prog:Program}{w:World}{A:Around}{RR:Result->Shared->Prop}{s:Shared}
theorem Z0z {dU target iter:Expr}{eO:List Expr}{scope:Scope}{pos:Pos}{it cf:Value}{env:Env} (I:Nat->Shared->Prop)
  (fq:∀n s,I n s->wpAny (model prog w) A (pyNext it) (fun r s₁=>match r with
   | none=>RR (.ok .next) s₁
   | some v=>wpAny (model prog w) A (letOwnedTupleGo target it v) (fun _ sa=>wpAny (model prog w) A (assign target env v) (fun _ s₂ =>
     wpAny (model prog w) A (forIn eO true fun c r=>if r=true then do let ok <- isTrue c env (eval c env);pure (ForInStep.yield ok)else pure (ForInStep.yield r)) (fun ok s₃ =>
      if ok=true then wpAny (model prog w) A (eval dU env) (fun x s₄ =>
       wpAny (model prog w) A (call (.builtin "list.append") [cf,x]) (fun _ s₅=>∃m,m<n/\I m s₅) (fun _ _=>False) s₄) (fun _ _=>False) s₃
      else ∃m,m<n/\I m s₃) (fun _ _=>False) s₂) (fun _ _=>False) sa) (fun _ _=>False) s₁) (fun _ _=>False) s)
  (n:Nat) (h:I n s):codeAny (model prog w) A (.compLoop (.ListComp dU [⟨target,iter,eO,0⟩] scope pos) 0 it cf env) RR s:=by
 refine codeAny_loop rfl I (fun n s hI=>?_) n h
 show wpAny _ _ ((compTurn (.ListComp dU [⟨target,iter,eO,0⟩] scope pos) 0 it cf env).onRaise (fun x=>do noteFrame x env;theTreesLotGoes x)) _ _ s
 refine wpAny_noted ?_
 rw [compTurn_list]
 refine a9 (wpAny_standAt (a9 (aP (fq n s hI) (fun r s₁ h₁=>?_) fun _ _ h'=>h'.elim)))
 cases r with
 | none=>exact af h₁
 | some v =>
  refine a9 (aP h₁ (fun _ sa ha=>?_) fun _ _ h'=>h'.elim)
  refine a9 (aP ha (fun _ s₂ h₂=>a9 (aP h₂ (fun ok s₃ h₃=>?_) fun _ _ h'=>h'.elim)) fun _ _ h'=>h'.elim)
  cases ok with
  | false=>exact af ⟨rfl,h₃⟩
  | true =>
   exact a9 (a9 (aP h₃ (fun x s₄ h₄=>a9 (aP h₄ (fun _ s₅ h₅=>af (af ⟨rfl,h₅⟩)) fun _ _ h'=>h'.elim)) fun _ _ h'=>h'.elim))
end
structure YlS (K:Fg9) (J:It) (ds:List D) (H:Hp):Prop where
 go:∀H',A5 H H'->∀i,i<ds.length->J.go i H'
 yld:∀H',A5 H H'->∀i x cZ d,ds[i]?=some d->J.yld i H' x cZ->A5 H' cZ/\A1 K cZ d x
 stop:∀H',A5 H H'->J.stop ds.length H'
noncomputable abbrev P3:=A8->(List D->Prop)->Prop
noncomputable def Y9v (K:Fg9) (H0:Hp) (wi:P3):TI:=fun σ H R=>∃ τ,B9 K H0 τ σ H/\wi τ fun ds=>∀J H',A5 H H'->YlS K J ds H'->R J H'
structure E5 (X:Cx) (H0:Hp) (tg iter:Expr) (wi:P3):Prop where
 mono:∀ τ (P Q:List D->Prop),(∀ds,P ds->Q ds)->wi τ P->wi τ Q
 pi:PI X tg iter (Y9v X.K H0 wi)
def IfsR (X:Cx) (eO:List Expr) (t:TT):Prop :=
 ∀(ac:Pn9) (s:Shared) (σ:St) (H:Hp) (Q:Bool->Hp->Prop),A0 X ac σ H s->t σ H Q ->
  wpAny (model X.prog X.w) X.A (forIn eO true fun c r=>if r=true then do let ok <- isTrue c X.env (eval c X.env);pure (ForInStep.yield ok)else pure (ForInStep.yield r)) (TP X ac σ Q) X.xe s
structure N3 (X:Cx) (H0:Hp) (eO:List Expr) (t:WT):Prop where
 mono:∀(τ:A8) (P Q:Bool->Prop),(∀r,P r->Q r)->t τ P->t τ Q
 pt:IfsR X eO (Z2d X.K H0 t)
theorem N3.nil {X:Cx}{H0:Hp}:N3 X H0 [] (fun _ Q=>Q true) where
 mono:=fun τ P Q f h=>f _ h
 pt:=fun ac s σ H Q I ⟨τ,hR,h⟩=>wpAny_tests_nil ⟨H,I,h H (A5.refl H)⟩
theorem N3.one {X:Cx}{H0:Hp}{c:Expr}{t:WT} (hc:DT X H0 c t):N3 X H0 [c] t where
 mono:=hc.mono
 pt:=fun ac s σ H Q I h=>wpAny_tests_one (hc.pt ac s σ H Q I h)
noncomputable def K7 (g:WG) (t:WT) (we:WE):List D->A8->(List D->Prop)->Prop
 | [],_,Q=>Q []
 | d::ds,τ,Q=>g d τ fun τ'=>t τ' fun k=>if k=true then we τ' fun r=>∃e,r=.st e/\K7 g t we ds τ' fun es=>Q (e::es)else K7 g t we ds τ' Q
theorem Z1a {g:WG}{t:WT}{we:WE} (hg:∀d τ (P Q:A8->Prop),(∀ τ,P τ->Q τ)->g d τ P->g d τ Q) (ht:∀(τ:A8) (P Q:Bool->Prop),(∀r,P r->Q r)->t τ P->t τ Q) (he:∀(τ:A8) (P Q:R->Prop),(∀r,P r->Q r)->we τ P->we τ Q) :
  ∀(ds:List D) (τ:A8) (P Q:List D->Prop),(∀es,P es->Q es)->K7 g t we ds τ P->K7 g t we ds τ Q
 | [],_,_,_,f,h=>f _ h
 | d::ds,τ,P,Q,f,h=>hg d τ _ _ (fun τ' h=>ht τ' _ _ (fun k h=>X3 (fun h=>he τ' _ _ (fun r ⟨e,e1,h⟩=>⟨e,e1,Z1a hg ht he ds τ' _ _ (fun es h=>f _ h) h⟩) h) (fun h=>Z1a hg ht he ds τ' _ _ f h) h) h) h
noncomputable def Q5d:Sl->Option Sl
 | .dat d=>some (.dat d)
 | .own ds=>some (.bor ds)
 | .bor ds=>some (.bor ds)
 | .dt k=>some (.bd k)
 | .bd k=>some (.bd k)
 | .cl a Φ=>some (.cl a Φ)
 | _=>none
noncomputable def R8 (nt:Nat) (cap:List Nat) (τ:A8):A8:=List.replicate nt none++cap.map fun i=>((τ[i]?).join).bind Q5d
theorem Z3e {K:Fg9}{H0 H:Hp} {τ:A8} {σ:St} (hR:B9 K H0 τ σ H) (nt:Nat) (cap:List Nat):B9 K H (R8 nt cap τ) (List.replicate nt none++cap.map fun i=>(σ[i]?).join) H:=by
 have at_:∀(i:Nat) (s:Sl),(R8 nt cap τ)[i]?=some (some s)->nt<=i/\∃j t,cap[i-nt]?=some j/\τ[j]?=some (some t)/\Q5d t=some s:=fun i s e=>by
  unfold R8 at e
  by_cases hi:i<nt
  ·rw [aH (by rw [aZ];exact hi)]at e
   have:=aD e
   rw [List.mem_replicate]at this
   cases this.2
  ·rw [aS (by rw [aZ];omega),aZ,ai]at e
   cases q:cap[i-nt]? with
   | none=>rw [q]at e;cases e
   | some j =>
    rw [q]at e
    have e:((τ[j]?).join).bind Q5d=some s:=aB e
    cases q2:τ[j]? with
    | none=>rw [q2]at e;cases e
    | some o =>
     rw [q2]at e
     cases o with
     | none=>cases e
     | some t=>exact⟨by omega,j,t,rfl,q2,e⟩
 refine⟨?_,A5.refl H,fun i s e=>?_,fun i j s t v _ e1 _ m _ _ _=>?_⟩
 ·unfold R8
  rw [ay,ay,ag,ag,aZ,aZ]
 ·obtain⟨hi,j,t,hc,ht,hb⟩:=at_ i s e
  obtain⟨v,hv,q⟩:=hR.here j t ht
  refine⟨v,?_,?_⟩
  ·rw [aS (by rw [aZ];omega),aZ,ai,hc]
   show some ((σ[j]?).join)=_
   rw [hv];rfl
  ·cases t with
   | dat d=>cases hb;exact q
   | own ds=>cases hb;obtain⟨a,xs,e,_,q,al⟩:=q;exact⟨a,xs,e,q,al⟩
   | bor ds=>cases hb;obtain⟨a,xs,e,q,al⟩:=q;exact⟨a,xs,e,hR.same _ _ q,al⟩
   | bd ds=>cases hb;obtain⟨a,xs,e,q,al⟩:=q;exact⟨a,xs,e,hR.same _ _ q,al⟩
   | dk _=>cases hb
   | dt ds=>cases hb;obtain⟨a,xs,e,_,q,al⟩:=q;exact⟨a,xs,e,q,al⟩
   | ob _=>cases hb
   | cl _ _=>cases hb;exact q
   | ll _ _=>cases hb
   | ins _ _ _=>cases hb
 ·obtain⟨hi,j',t',hc,ht,hb⟩:=at_ i s e1
  cases t' with
  | dat d=>cases hb;cases m
  | own ds=>cases hb;cases m
  | bor ds=>cases hb;cases m
  | dk _=>cases hb
  | dt _=>cases hb;cases m
  | bd _=>cases hb;cases m
  | ob _=>cases hb
  | cl _ _=>cases hb;cases m
  | ll _ _=>cases hb
  | ins _ _ _=>cases hb
theorem Z8n {C:Addr}{h h':Heap} (sb:Heap.SameBut C h h'):∀b o,b≠C->h.get? b=some o->h'.get? b=some o:=fun b o hb e=>(sb.2 b hb).trans e
theorem Z0t {X:Cx}{ac:Pn9} {σ:St}{H2 H':Hp}{s2 s1:Shared}{scope:Scope}{C D0:Addr}{fp:List Addr}{N:List Str}{pb:Pn9} {σ':St}{vs:List V}{ys:Array Value}{h':Heap}
  (I2:A0 X ac σ H2 s2) (Ib:A0 (blk X scope C s2 H2 fp N) pb σ' H' s1) (f2:∀b∈fp,K1 X ac H2 b) (hC:s2.heap.objs.size<=C) (hD:s2.heap.objs.size<=D0) (cH:D0≠C) (mT:H' D0=none)
  (hl:s1.heap.PlainList D0 ys) (rv:C0 vs ys.toList) (hz:vs.length<=sizeLine) (sb:Heap.SameBut C s1.heap h'):A0 X ac σ (upd H' D0 (.lst vs)) { s1 with heap:=h' }:=by
 have jb:∀b o,s2.heap.get? b=some o->b≠C:=fun b o e=>az (ax (au e) hC)
 have lL:∀b o,s2.heap.get? b=some o->b≠D0:=fun b o e=>az (ax (au e) hD)
 have keep:=Z8n sb
 have base:Un (frs X.stack) fp H2 H' s2.heap s1.heap:=Ib.base
 have mU:H' C=none:=Ib.free
 have gP:∀b u,H' b=some u->b≠C:=fun b u e z=>by rw [z,mU]at e;cases e
 have gu:∀b u,H' b=some u->b≠D0:=fun b u e z=>by rw [z,mT]at e;cases e
 refine I2.call' (s':={ s1 with heap:=h' }) (ch:=fp) Ib.os ⟨fun b o e n hb hx=>keep b o (jb b o e) (base.keep b o e n hb hx),fun b o e n hb hx=>?_,fun b o e n hx=>?_,fun b o e hx=>?_,fun b xs e=>?_,fun b o u e=>?_,fun b ps e=>?_⟩ (fun b u e=>?_) Ib.bare (fun b hb=>?_)
 ·obtain⟨sl,q⟩:=base.slot b o e n hb hx
  exact⟨sl,keep b _ (jb b o e) q⟩
 ·rw [B1 (lL b o e)];exact base.free b o e n hx
 ·obtain⟨o',q⟩:=base.there b o e hx
  exact⟨o',keep b o' (jb b o e) q⟩
 ·have q:=base.tups b xs e
  rw [B1 (gu b _ q)];exact q
 ·have q:=base.frzs b o u e
  rw [B1 (gu b _ q)];exact q
 ·obtain⟨more,q⟩:=base.tbls b ps e
  exact⟨more,by rw [B1 (gu b _ q)];exact q⟩
 ·by_cases hb:b=D0
  ·subst hb
   rw [upd_same]at e;cases e
   obtain⟨n,ho⟩:=hl
   exact⟨hz,ys.toList,n,rv,keep b _ cH (by rw [ho])⟩
  ·rw [B1 hb]at e
   refine(Ib.hok b u e).stay (fun c v hc q=>keep c v ?_ q) (fun c u _ q=>by rw [B1 (gu c _ q)];exact q) fun c xs q=>by rw [B1 (gu c _ q)];exact q
   rcases hc with z | z
   ·rw [z];exact gP b u e
   ·exact gP c _ z
 ·obtain⟨_,a2,a3,a4,a5,a6⟩:=f2 b hb
  exact⟨a4,a2,a5,a6⟩
section
variable {X:Cx}{H0:Hp}{tg iter dU:Expr}{eO:List Expr}{scope:Scope}{pos:Pos}{N:List Str}{nt:Nat}{cap:List Nat}{wi:P3}{g:WG}{t:WT}{we:WE}
def M0 (nt:Nat) (cap:List Nat) (wi:P3) (g:WG) (t:WT) (we:WE):WE:=fun τ Q=>wi τ fun ds=>ds.length<=sizeLine/\K7 g t we ds (R8 nt cap τ) fun es=>Q (.nw es)
theorem Z7n {use:Option (Value->Sem Unit)}{QQ:VS9}{P:List D->Prop}{gt:Pos}{ac:Pn9}{s:Shared} {σ:St}{H:Hp} {τ:A8} (hc:X.calm=true) (B:J3 X scope N nt cap) (hi:E5 X H0 tg iter wi)
  (hg:∀C s H fp,DG (blk X scope C s H fp N) H tg g) (ht:∀C s H fp,N3 (blk X scope C s H fp N) H eO t) (he:∀C s H fp,DE (blk X scope C s H fp N) H dU we) (hs:∀x,foldedSetIterable iter X.env x=pure x)
  (I:A0 X ac σ H s) (hR:B9 X.K H0 τ σ H) (hw:wi τ fun ds=>ds.length<=sizeLine/\K7 g t we ds (R8 nt cap τ) P)
  (fin:∀(C D0:Addr) (s2 s4:Shared) (H2 H4:Hp) (fp:List Addr) (pb:Pn9) (σ4:St) (vs:List V) (ys:Array Value) (es:List D) (f:Flow),A0 X ac σ H2 s2->A5 H H2->A0 (blk X scope C s2 H2 fp N) pb σ4 H4 s4->(∀b∈fp,K1 X ac H2 b) ->
   s2.heap.objs.size<=C->s2.heap.objs.size<=D0->D0≠C->H4 D0=none->s4.heap.PlainList D0 ys->C0 vs ys.toList->vs.length<=sizeLine->A5 H2 H4->AllS X.K H4 es vs->P es->compPost (model X.prog X.w) X.A X.xe use QQ (.ref D0) C (.ok f) s4) :
  wpAny (model X.prog X.w) X.A (comprehension (.ListComp dU [⟨tg,iter,eO,0⟩] scope pos) scope X.env gt (newList []) false (eval iter X.env) use) QQ X.xe s:=by
 refine wpAny_comprehension_free rfl hs (Q7h fun y hy e=>I.ok.has y.1 (B.free y hy e)) B.kind B.names ?_
 refine B3 (hi.pi ac s σ H (fun J H2=>A5 H H2/\∃ds,YlS X.K J ds H2/\ds.length<=sizeLine/\K7 g t we ds (R8 nt cap τ) P) I
  ⟨τ,hR,hi.mono τ _ _ (fun ds h J H' sm yl=>⟨sm,ds,yl,h.1,h.2⟩) hw⟩) fun v s1 h1=>B3 h1 fun iO s2 h2=>?_
 obtain⟨it,fp,tn,J,H2,e,I2,T,dQ,f2,cU,ds,yl,hz,kf⟩:=h2
 subst e
 have fA:∀b∈fp,b<s2.heap.objs.size:=fun b hb=>by
  obtain⟨o,ho,_⟩:=T.obj _ _ dQ b hb
  exact au ho
 have dz:=hR.mono cU
 refine bt (g7 B.cell (by intro y hy;simp at hy) (fun h₁ cE cp=>?_) B.kind)
 dsimp only at cE cp ⊢
 generalize hH2:s2.heap.push { cls:=.type "list",dict:=none,data:=.seq ([]:List Value).toArray }=Hq at cE cp ⊢
 have hC:Hq.objs.size=s2.heap.objs.size+1:=by rw [<- hH2,bn]
 have cH:s2.heap.objs.size≠Hq.objs.size:=by rw [hC];exact az (cC _)
 have cm:s2.heap.objs.size<=Hq.objs.size:=by rw [hC];exact cw _
 have old:∀b o,s2.heap.get? b=some o->h₁.get? b=some o:=fun b o e=>cp.extBut b o (by rw [hC];exact az (bx (au e))) (aa _ (hH2 ▸ aa _ e))
 have du:h₁.PlainList s2.heap.objs.size #[]:=⟨_,cp.extBut _ _ cH (aa _ (hH2 ▸ aw _ rfl))⟩
 generalize hCe:Hq.objs.size=C at cE cp hC cH cm ⊢
 generalize hDe:s2.heap.objs.size=D0 at hC cH cm du ⊢
 have cO:∀b∈fp,b<D0:=fun b hb=>hDe ▸ fA b hb
 have dJ:tn 0 h₁:=T.keep _ _ _ dQ fun b _ o e=>old b o e
 have jy:=Q7e (C:=C) (h':=h₁) (t':=s2.toks+([]:List (Str×Value)).length) I2 B f2 fA (by rw [hDe];exact cm) cE old
 have fZ:H2 D0=none:=I2.hok.fresh (by rw [hDe];exact ah _)
 have j9:D0∉frs X.stack:=fun z=>by
  rcases aj.mp (I2.stkSub _ z)with e | e
  ·have:=I2.lt;rw [<- e,hDe]at this;exact aQ _ this
  ·exact I2.nofs (by rw [hDe];exact ah _) e
 have ja:∀x c,(R9 X.env scope.names []).lookup x=some c->c≠D0:=fun x c h z=>by
  obtain⟨v,q⟩:=I2.cell x c (U3 I2 B h)
  have:=q.lt
  rw [z,hDe]at this
  exact aQ _ this
 have dH:∀{pb:Pn9} {σ':St}{H':Hp}{s':Shared}{ys:Array Value}{n:Nat},A0 (blk X scope C s2 H2 fp N) pb σ' H' s'->H' D0=none->s'.heap.get? D0=some { cls:=.type "list",data:=.seq ys n } ->
   A0 (blk X scope C s2 H2 fp N) [(D0,{ cls:=.type "list",data:=.seq ys n })] σ' H' s':=by
  intro pb σ' H' s' ys n I' n' e
  refine I'.pins_of fun p hp=>?_
  have e':p=(D0,{ cls:=.type "list",data:=.seq ys n }):=by simpa using hp
  subst e'
  exact⟨e,n',cH,j9,fun v z=>by cases z⟩
 have fD:∀{H':Hp}{ob:Obj},(∀b∈fp,H' b=none)->∀b∈fp,K1 (blk X scope C s2 H2 fp N) [(D0,ob)] H' b:=by
  intro H' ob hn b hb
  refine⟨hn b hb,(az (ax (cO b hb) cm)),fun z=>?_,.inl hb,fun x c h=>(f2 b hb).2.2.2.2.1 x c (U3 I2 B h),fun p hp=>?_⟩
  ·rcases aj.mp (I2.stkSub b z)with e | e
   ·exact(f2 b hb).2.1 e
   ·exact(f2 b hb).2.2.1 e
  ·have e':p=(D0,ob):=by simpa [blk]using hp
   subst e'
   exact(az (cO b hb)).symm
 let j2:Nat->Shared->Prop:=fun k s'=>∃(i:Nat) (σ':St) (H':Hp) (τ':A8) (ys:Array Value) (nn:Nat) (vs:List V) (es:List D),A0 (blk X scope C s2 H2 fp N) [(D0,{ cls:=.type "list",data:=.seq ys nn })] σ' H' s'/\B9 X.K H2 τ' σ' H'/\tn i s'.heap /\
  (∀b∈fp,H' b=none)/\H' D0=none/\C0 vs ys.toList/\AllS X.K H' es vs/\i<=ds.length/\k=ds.length-i/\es.length<=i/\K7 g t we (ds.drop i) τ' fun eQ=>P (es++eQ)
 have loop:∀s₃:Shared,s₃={ s2 with heap:=h₁,toks:=s2.toks+([]:List (Str×Value)).length } ->
   codeAny (model X.prog X.w) X.A (.compLoop (.ListComp dU [⟨tg,iter,eO,0⟩] scope pos) 0 (.ref it) (.ref D0) (compEnvC scope (R9 X.env scope.names []) C X.env))
    (compPost (model X.prog X.w) X.A X.xe use QQ (.ref D0) C) s₃:=by
  rintro s₃ rfl
  obtain⟨nn,ho⟩:=id du
  refine Z0z j2 ?_ ds.length ⟨0,_,H2,R8 nt cap τ,#[],nn,[],[],dH jy fZ ho,Z3e dz nt cap,dJ,fun b hb=>(f2 b hb).1,fZ,.nil,AllS.nil,bb _,rfl,ah _,by simpa using kf⟩
  rintro k s3 ⟨i,σ3,H3,τ3,ys,nn,vs,es,I3,R3,fH,fM,d3,iI,kN,nR,rfl,iU,w3⟩
  have ce:A5 H2 H3:=R3.same
  by_cases bY:i<ds.length
  ·refine aP (T.item (blk X scope C s2 H2 fp N) rfl rfl rfl hc i _ s3 σ3 H3 (fun _ _=>False) I3 (fD fM) fH (yl.go H3 ce i bY)) (fun r s4 ⟨u,hr,h4⟩=>?_) fun _ _ z=>z
   subst hr
   refine aP h4 (fun _ s5 ⟨x,H5,I5,r5,y5,eF,iq⟩=>?_) fun _ _ z=>z
   obtain⟨fU,ix⟩:=yl.yld H3 ce i x H5 _ (ae bY) y5
   rw [cF bY]at w3
   have iB:=I5.pinned (fD iq) (T.obj _ _ eF)
   have again:∀{σ7:St}{H7:Hp}{s7:Shared} {τ7:A8}{kP:Array Value}{lI:Nat}{vs7:List V}{es7:List D},A0 (blk X scope C s2 H2 fp N) (U1 fp s5.heap) σ7 H7 s7->B9 X.K H2 τ7 σ7 H7->H7 D0=none->s7.heap.get? D0=some { cls:=.type "list",data:=.seq kP lI } ->
     C0 vs7 kP.toList->AllS X.K H7 es7 vs7->es7.length<=i+1->K7 g t we (ds.drop (i+1)) τ7 (fun eQ=>P (es7++eQ))->∃m,m<ds.length-i/\j2 m s7:=by
    intro σ7 H7 s7 τ7 kP lI vs7 es7 I7 R7 d7 o7 lE ro mE w7
    have oY:tn (i+1) s7.heap:=T.keep _ _ _ eF fun b hb o e=>(I7.pin (b,o) (ar _ (Q0k hb e))).1
    refine⟨ds.length-(i+1),by omega,i+1,σ7,H7,τ7,kP,lI,vs7,es7,dH I7 d7 o7,R7,oY,fun b hb=>?_,d7,lE,ro,bY,rfl,mE,w7⟩
    obtain⟨o,e,_⟩:=T.obj _ _ eF b hb
    exact(I7.pin (b,o) (ar _ (Q0k hb e))).2.1
   refine aP ((hg C s2 H2 fp).pg _ s5 σ3 H5 x u (fun σ6 H6=>∃ τ6,B9 X.K H2 τ6 σ6 H6/\A5 H5 H6/\t τ6 fun k=>if k=true then we τ6 fun r=>∃e,r=.st e/\K7 g t we (ds.drop (i+1)) τ6 fun eQ=>P (es++(e::eQ))
     else K7 g t we (ds.drop (i+1)) τ6 fun eQ=>P (es++eQ)) iB r5 ⟨τ3,ds[i],R3.mono fU,ix,(hg C s2 H2 fp).mono _ _ _ _ (fun τ6 h6 σ6 H6 gp R6=>⟨τ6,R6,gp,h6⟩) w3⟩) (fun _ s6 ⟨σ6,H6,I6,τ6,R6,gp,w6⟩=>?_) fun _ _ z=>z
   refine aP ((ht C s2 H2 fp).pt _ s6 σ6 H6 (fun k H7=>A5 H6 H7/\if k=true then we τ6 fun r=>∃e,r=.st e/\K7 g t we (ds.drop (i+1)) τ6 fun eQ=>P (es++(e::eQ))
     else K7 g t we (ds.drop (i+1)) τ6 fun eQ=>P (es++eQ)) I6 ⟨τ6,R6,(ht C s2 H2 fp).mono τ6 _ _ (fun k h H7 fT=>⟨fT,h⟩) w6⟩) (fun ok s7 ⟨H7,I7,fT,w7⟩=>?_) fun _ _ z=>z
   have pd:∀{σ':St}{H':Hp}{s':Shared},A0 (blk X scope C s2 H2 fp N) ([(D0,{ cls:=.type "list",data:=.seq ys nn })]++U1 fp s5.heap) σ' H' s'->s'.heap.get? D0=some { cls:=.type "list",data:=.seq ys nn }/\H' D0=none:=fun I' =>
    ⟨(I'.pin (D0,_) (ar _ (bi _ ao))).1,(I'.pin (D0,_) (ar _ (bi _ ao))).2.1⟩
   have pf:∀{σ':St}{H':Hp}{s':Shared},A0 (blk X scope C s2 H2 fp N) ([(D0,{ cls:=.type "list",data:=.seq ys nn })]++U1 fp s5.heap) σ' H' s'->A0 (blk X scope C s2 H2 fp N) (U1 fp s5.heap) σ' H' s':=fun I' =>
    I'.pins_of fun p hp=>I'.pin p (ar _ (ar _ hp))
   have ny:A5 H3 H7:=fU.trans (gp.trans fT)
   cases ok with
   | false =>
    rw [aC bA]at w7 ⊢
    exact again (pf I7) (R6.mono fT) (pd I7).2 (pd I7).1 iI (kN.mono (Kp.of ny) _ _) (by omega) w7
   | true =>
    rw [aE rfl]at w7 ⊢
    refine aP ((he C s2 H2 fp).pe _ s7 σ6 H7 (fun v H8=>A5 H7 H8/\∃e,A1 X.K H8 e v/\K7 g t we (ds.drop (i+1)) τ6 fun eQ=>P (es++(e::eQ))) I7
     ⟨τ6,R6.mono fT,(he C s2 H2 fp).mono τ6 _ _ (fun r ⟨e,e1,h⟩ v H8 gn ir=>⟨gn,e,by subst e1;exact ir,h⟩) w7⟩) (fun y s8 ⟨v8,H8,I8,j6,gn,e8,lU,w8⟩=>?_) fun _ _ z=>z
    obtain⟨o8,d8⟩:=pd I8
    have ke:ys.size<=sizeLine:=by
     have e1:=iI.length
     have e2:=kN.length
     have e4:ys.toList.length=ys.size:=by simp
     omega
    refine wpAny_list_append_plain (hsz:=ke) ⟨nn,o8⟩ fun h₅ kq jf=>?_
    have I9:A0 (blk X scope C s2 H2 fp N) (U1 fp s5.heap) σ6 H8 { s8 with heap:=h₅ }:=by
     refine(pf I8).turned (t':=s8.toks) (it:=D0) (fun b o hb e=>(jf.2 b hb).trans e) d8 cH (.inr (by rw [<- hDe];exact ah _)) ja (fun p hp z=>?_)
     obtain⟨q1,_⟩:=Q6a (by simpa [blk]using hp)
     exact az (cO _ q1) z
    obtain⟨jX,o9⟩:=kq
    refine again I9 (R6.mono (fT.trans gn)) d8 o9 (vs7:=vs++[v8]) (es7:=es++[e8]) ?_ ((kN.mono (Kp.of (ny.trans gn)) _ _).append (AllS.cons lU AllS.nil)) (by rw [ay];simpa using iU) ?_
    ·have:(ys.push y).toList=ys.toList++[y]:=by simp
     rw [this]
     exact iI.append (.cons j6 .nil)
    ·simpa using w8
  ·have e:i=ds.length:=by omega
   subst e
   refine aP (T.done (blk X scope C s2 H2 fp N) rfl rfl rfl hc ds.length _ s3 σ3 H3 (fun _ _=>False) I3 (fD fM) fH (yl.stop H3 ce)) (fun r s4 ⟨hr,I4⟩=>?_) fun _ _ z=>z
   subst hr
   have o4:=(I4.pin (D0,_) (ar _ ao)).1
   rw [gb]at w3
   have w3:P (es++[]):=w3
   rw [bO]at w3
   have m3:vs.length<=sizeLine:=by rw [<- kN.length];omega
   exact fin C D0 s2 s4 H2 H3 fp _ σ3 vs ys es _ I2 cU I4 f2 (by rw [hDe];exact cm) (by rw [hDe];exact ah _) cH d3 ⟨nn,o4⟩ iI m3 ce kN w3
 exact codeAny_compStart_list (loop _ rfl) (T.self _ 0 _ _ _ dJ (loop _ rfl))
theorem DE.comp (hc:X.calm=true) (B:J3 X scope N nt cap) (hi:E5 X H0 tg iter wi) (hg:∀C s H fp,DG (blk X scope C s H fp N) H tg g) (ht:∀C s H fp,N3 (blk X scope C s H fp N) H eO t)
  (he:∀C s H fp,DE (blk X scope C s H fp N) H dU we) (hs:∀x,foldedSetIterable iter X.env x=pure x:=by intro _;rfl) :
  DE X H0 (.ListComp dU [⟨tg,iter,eO,0⟩] scope pos) (M0 nt cap wi g t we) where
 mono:=fun τ P Q f h=>hi.mono τ _ _ (fun ds h=>⟨h.1,Z1a (hg 0 X.s₀ X.H₀ []).mono (ht 0 X.s₀ X.H₀ []).mono (he 0 X.s₀ X.H₀ []).mono ds _ _ _ (fun es h=>f _ h) h.2⟩) h
 pe:=by
  intro ac s σ H Q I ⟨τ,hR,hw⟩
  rw [eval_ListComp]
  refine Z7n hc B hi hg ht he hs I hR hw fun C D0 s2 s4 H2 H4 fp pb σ4 vs ys es f I2 cU I4 f2 hC hD cH hn hl rv hz gk al w3=>?_
  obtain⟨m4,ij,_⟩:=id I4.loc
  refine⟨m4,ij,fun h' sb=>?_⟩
  exact⟨.ref D0,_,Z0t I2 I4 f2 hC hD cH hn hl rv hz sb,rfl,w3 _ _ (cU.trans (gk.trans (D7 hn _))) ⟨D0,vs,rfl,cU.free (I2.hok.fresh hD),upd_same,al.mono (Kp.of (D7 hn _)) _ _⟩⟩
end
section
variable {X:Cx}{H0:Hp}{tg iter dU:Expr}{eO:List Expr}{scope:Scope}{pos bI fe:Pos}{N:List Str}{nt:Nat}{cap:List Nat}{wi:P3}{g:WG}{t:WT}{we:WE}
theorem DS.setC {i:Nat}{x:Str} (hc:X.calm=true) (B:J3 X scope N nt cap) (hi:E5 X H0 tg iter wi) (hg:∀C s H fp,DG (blk X scope C s H fp N) H tg g) (ht:∀C s H fp,N3 (blk X scope C s H fp N) H eO t)
  (he:∀C s H fp,DE (blk X scope C s H fp N) H dU we) (hN:X.N.Nodup) (jp:X.N[i]?=some x) (hx:Loc X.env.scope x)
  (gz:swapsWith (.ListComp dU [⟨tg,iter,eO,0⟩] scope pos) (some (.Name x bI)) fe.line X.env=pure true:=by rfl) (hs:∀x,foldedSetIterable iter X.env x=pure x:=by intro _;rfl)
  (hf:X.fn x=true\/X.env.scope.names.lookup x=some .local:=by first | exact .inl rfl | exact .inr rfl | assumption) :
  DS X H0 (.Assign [.Name x bI] (.ListComp dU [⟨tg,iter,eO,0⟩] scope pos) fe) (C5 i (M0 nt cap wi g t we)) where
 mono:=fun τ E F le h=>(DE.comp (pos:=pos) hc B hi hg ht he hs).mono τ _ _ (fun r h=>Z3z (fun s h=>le.nx _ h) h) h
 ps:=by
  intro ac s σ H D I ⟨τ,hR,hw⟩
  rw [exec_Assign_Name_used _ _ _ _ gz]
  refine a9 (wpAny_standAt (a9 ?_))
  show wpAny _ X.A (do let _ <- comprehension (.ListComp dU [⟨tg,iter,eO,0⟩] scope pos) scope X.env _ (newList []) false (eval iter X.env) (some (assign (.Name x bI) X.env))) _ _ s
  refine a9 (aP (Z7n (use:=some (assign (.Name x bI) X.env)) (QQ:=fun _ s'=>SP X ac D .next s') hc B hi hg ht he hs I hR hw fun C D0 s2 s4 H2 H4 fp pb σ4 vs ys es f I2 cU I4 f2 hC hD cH hn hl rv hz gk al w3=>?_)
   (fun _ s' hq=>af (af hq)) fun _ _ e=>e)
  have Ib:A0 X ac σ (upd H4 D0 (.lst vs)) { s4 with heap:=s4.heap }:=Z0t I2 I4 f2 hC hD cH hn hl rv hz ⟨rfl,fun _ _=>rfl⟩
  have iZ:C≠X.env.locals:=fun z=>aQ _ (ax I2.lt (z ▸ hC))
  have iY:∀x c,X.env.cells.lookup x=some c->c≠C:=fun x c h z=>by
   obtain⟨v,q⟩:=I2.cell x c h
   exact aQ _ (ax q.lt (z ▸ hC))
  show wpAny _ X.A (assign (.Name x bI) X.env (.ref D0)) _ _ s4
  refine wpAny_assign_Name (Q9a (v:=.ref D0) Ib hN jp hx rfl (fun s5 I5 ⟨a,jT,ha⟩=>?_) hf)
  obtain⟨m4,ij,_⟩:=id I4.loc
  have kI:C≠a:=by
   rcases ha with ha | ha
   ·rw [ha];exact iZ
   ·exact fun z=>iY _ _ ha z.symm
  refine⟨m4,ij.sameBut jT kI,fun h' sb=>?_⟩
  have kJ:H4 C=none:=I4.free
  have I6:A0 X ac (σ.set i (some (.ref D0))) (upd H4 D0 (.lst vs)) { s5 with heap:=h' }:=by
   refine I5.turned (t':=s5.toks) (it:=C) (fun b o hb e=>(sb.2 b hb).trans e) (by rw [B1 (bD cH)];exact kJ) iZ (.inr (aT I2.sz hC)) iY fun p hp z=>?_
   have:=(I2.pin p hp).1
   exact aQ _ (ax (au this) (z ▸ hC))
  obtain⟨sl,p,cL⟩:=hR.store (i:=i) (r:=.nw es) (v:=.ref D0) (H1:=upd H4 D0 (.lst vs)) (cU.trans (gk.trans (D7 hn _))) ⟨D0,vs,rfl,cU.free (I2.hok.fresh hD),upd_same,al.mono (Kp.of (D7 hn _)) _ _⟩ w3
  exact⟨_,_,I6,p _ _ (Kp.of (cU.trans (gk.trans (D7 hn _)))) cL⟩
end
section
variable {X:Cx}{H0:Hp}{a b c e tg:Expr}{pos:Pos}{wa wb we:WE}{wr:WA}
theorem E5.lst (he:DE X H0 e we):E5 X H0 tg e (fun τ Q=>we τ fun r=>∃ds,P6 r=some ds/\Q ds) where
 mono:=fun τ P Q f h=>he.mono τ _ _ (fun r ⟨ds,e1,q⟩=>⟨ds,e1,f _ q⟩) h
 pi:=piW (Y1h he.pe) fun σ H R ⟨τ,hR,h⟩=>⟨τ,hR,he.mono τ _ _ (fun r ⟨ds,e1,q⟩ v H1 s1 ir=>by
  obtain⟨a,xs,rfl,sq,al⟩:=Q0z e1 ir
  refine⟨a,rfl,⟨xs,sq⟩,q _ _ s1 ⟨fun H' s i hi=>⟨xs,xs[i]'(by rw [<- al.length];exact hi),s.seq sq,ae _⟩,fun H' s i x cZ d hd ⟨e,y⟩=>?_,fun H' s=>⟨xs,s.seq sq,by rw [al.length];exact ah _⟩⟩⟩
  subst e
  have hx:=y xs (s.seq sq)
  obtain⟨v,hv,q⟩:=(al.mono (Kp.of s) _ _).get hd
  rw [hx]at hv;cases hv
  exact⟨A5.refl _,q⟩) h⟩
theorem E5.tup (he:DE X H0 e we):E5 X H0 tg e (fun τ Q=>we τ fun r=>∃ds,r=.st (.tup ds)/\Q ds) where
 mono:=fun τ P Q f h=>he.mono τ _ _ (fun r ⟨ds,e1,q⟩=>⟨ds,e1,f _ q⟩) h
 pi:=piW (Y1j he.pe) fun σ H R ⟨τ,hR,h⟩=>⟨τ,hR,he.mono τ _ _ (fun r ⟨ds,e1,q⟩ v H1 s1 ir=>by
  subst e1
  have ir:A1 X.K H1 (.tup ds) v:=ir
  unfold A1 at ir
  obtain⟨a,xs,rfl,sq,al⟩:=ir
  refine⟨a,rfl,⟨xs,C2.of sq⟩,q _ _ s1 ⟨fun H' s i hi=>⟨xs,xs[i]'(by rw [<- al.length];exact hi),C2.of (s _ _ sq),ae _⟩,fun H' s i x cZ d hd ⟨e,y⟩=>?_,fun H' s=>⟨xs,C2.of (s _ _ sq),by rw [al.length];exact ah _⟩⟩⟩
  subst e
  have hx:=y xs (C2.of (s _ _ sq))
  obtain⟨v,hv,q⟩:=(al.mono (Kp.of s) _ _).get hd
  rw [hx]at hv;cases hv
  exact⟨A5.refl _,q⟩) h⟩
theorem W9n {K:Fg9}{H:Hp}{lo:Int}{n:Nat}:YlS K (Itr lo n) (J4 lo n) H :=
 ⟨fun H' s=>(Q9y (K:=K) (H0:=H) (H:=H)).go H' (Kp.of s) s,fun H' s=>(Q9y (K:=K) (H0:=H) (H:=H)).yld H' (Kp.of s) s,fun H' s=>(Q9y (K:=K) (H0:=H) (H:=H)).stop H' (Kp.of s) s⟩
theorem E5.rng1 {p:Pos} (hg:Gl X "range") (hm:X.mg "range"=none) (ha:DA X H0 [a] wr) (hs:starEach [a] X.env=[(false,eval a X.env)]:=by rfl) :
  E5 X H0 tg (.Call (.Name "range" p) [a] [] pos) (fun τ Q=>wr τ fun rs=>∃j:Int,rs=[.st (.int j)]/\-(2 ^ 62)<=j/\j<2 ^ 62/\Q (J4 0 j.toNat)) where
 mono:=fun τ P Q f h=>ha.mono τ _ _ (fun r ⟨j,e1,h1,h2,q⟩=>⟨j,e1,h1,h2,f _ q⟩) h
 pi:=piW (Y1i hg hm ha.pa hs) fun σ H R ⟨τ,hR,h⟩=>⟨τ,hR,ha.mono τ _ _ (fun r ⟨j,e1,h1,h2,q⟩ vs H1 s1 ck=>by
  subst e1
  obtain⟨v,rfl,ir⟩:=T5 ck
  cases (show v=.int j from ir)
  exact⟨j,rfl,h1,h2,q _ _ s1 W9n⟩) h⟩
theorem Q3h {ac:Pn9} {σ:St}{H:Hp}{s:Shared}{h':Heap}{t':Nat}{wr:List Addr} (I:A0 X ac σ H s) (k:∀b o,b∉wr->s.heap.get? b=some o->h'.get? b=some o) (hf:∀b∈wr,K1 X ac H b) :
  A0 X ac σ H { s with heap:=h',toks:=t' }:=by
 have iL:∀b u,H b=some u->b∉wr:=fun b u e z=>by have:=(hf b z).1;rw [e]at this;cases this
 refine I.step (g':=s.gens) (d':=s.drawn) (ch:=wr) (fun b hb=>?_) (fun b o _ _ hc e _=>k b o hc e) (fun b o _ _ hc e _=>⟨o.slots,k b o hc e⟩) (fun _ _ _ _ n=>n)
  (fun b o hc e=>⟨o,k b o hc e⟩) (fun _ _ e=>e) (fun _ _ _ e=>e) (fun b ps e=>⟨#[],by rw [e];simp⟩) (fun m hm=>?_) (fun b u e=>?_) I.bare
 ·obtain⟨_,f1,_,f3,f4,f5⟩:=hf b hb
  exact⟨f3,f1,f4,f5⟩
 ·obtain⟨o,es,ep,ho,r⟩:=hm
  exact⟨o,es,ep,k _ o (fun z=>(hf _ z).2.1 rfl) ho,r⟩
 ·refine(I.hok b u e).stay (fun c v hc q=>k c v ?_ q) (fun _ _ _ q=>q) fun _ _ q=>q
  rcases hc with z | z
  ·rw [z];exact iL b u e
  ·exact iL c _ z
noncomputable def Its (x:Str):It:=⟨fun i _=>i<x.cps.size,fun i H v H'=>H'=H/\∃c,x.cps[i]?=some c/\v=.str ⟨#[c]⟩,fun i _=>i=x.cps.size⟩
theorem Y4f {P:Program}{w:World}{K:Fg9}{tg:Expr}{it:Addr}{ty:String}{x:Str}{t:Tok} (gR:ty="str_ascii_iterator"\/ty="str_iterator"):Y6 P w K tg (Its x) [it] it (fun i h=>h.IsStrIter it ty x t i) where
 mem:=by simp
 obj:=fun i h st b hb=>by
  have e:b=it:=by simpa using hb
  subst e
  obtain⟨o,e,c,d⟩:=st
  exact⟨o,e,fun v z=>by rw [d]at z;cases z⟩
 keep:=fun i h h' ⟨o,e,r⟩ k=>⟨o,k it (by simp) o e,r⟩
 item:=by
  intro X hP hw hK hc i ac s σ H E I hf st hg
  subst hP hw hK
  have W:Walks X.prog X.w X.A it [it] [it] x.cps.size (SignAt x) (fun i h=>h.IsStrIter it ty x t i):=by
   rcases gR with rfl | rfl
   ·exact Walks.strAscii (I.ok.hd hc) it x t
   ·exact Walks.strWide (I.ok.hd hc) it x t
  refine W.item i s _ _ hg st fun v h' tk hv fk k=>?_
  obtain⟨c,u,dR,rfl⟩:=hv
  have I1:A0 X ac σ H { s with heap:=h',toks:=tk }:=Q3h I k hf
  obtain⟨o,e,cl,d⟩:=id fk
  refine⟨_,rfl,Q5j (s:={ s with heap:=h',toks:=tk }) e cl d (by rcases gR with rfl | rfl <;> decide) ⟨.str ⟨#[c]⟩,H,I1,⟨u,rfl⟩,⟨rfl,c,dR,rfl⟩,fk,fun b hb=>(hf b hb).1⟩⟩
 done:=by
  intro X hP hw hK hc i ac s σ H E I hf st hg
  subst hP hw hK
  have hg:i=x.cps.size:=hg
  subst hg
  have W:Walks X.prog X.w X.A it [it] [it] x.cps.size (SignAt x) (fun i h=>h.IsStrIter it ty x t i):=by
   rcases gR with rfl | rfl
   ·exact Walks.strAscii (I.ok.hd hc) it x t
   ·exact Walks.strWide (I.ok.hd hc) it x t
  exact W.done s _ _ st fun h' tk k=>⟨rfl,Q3h I k hf⟩
 self:=fun A i s Q E st h=>by
  rcases gR with rfl | rfl
  ·exact wpAny_pyIter_striter_ascii st h
  ·exact wpAny_pyIter_striter_wide st h
noncomputable def G3 (x:Str):List D:=x.cps.toList.map fun c=>.str ⟨#[c]⟩
theorem W9o {K:Fg9}{H:Hp}{x:Str}:YlS K (Its x) (G3 x) H where
 go:=fun H' _ i hi=>by
  have:i<x.cps.size:=by simpa [G3]using hi
  exact this
 yld:=fun H' _ i v cZ d hd ⟨e,c,hc,hv⟩=>by
  subst e hv
  refine⟨A5.refl _,?_⟩
  unfold G3 at hd
  rw [ai]at hd
  have:x.cps.toList[i]?=some c:=by simpa using hc
  rw [this]at hd
  have e:D.str ⟨#[c]⟩=d:=aB hd
  subst e
  exact A1.s_str
 stop:=fun H' _=>by
  show(G3 x).length=x.cps.size
  simp [G3]
theorem E5.str (he:DE X H0 e we):E5 X H0 tg e (fun τ Q=>we τ fun r=>∃x,r=.st (.str x)/\Q (G3 x)) where
 mono:=fun τ P Q f h=>he.mono τ _ _ (fun r ⟨ds,e1,q⟩=>⟨ds,e1,f _ q⟩) h
 pi:=by
  intro ac s σ H R I ⟨τ,hR,h⟩
  refine B3 (he.pe ac s σ H (fun v H1=>A5 H H1/\∃x,v=.str x/\∀J H',A5 H H'->YlS X.K J (G3 x) H'->R J H') I ⟨τ,hR,he.mono τ _ _ (fun r ⟨x,e1,q⟩ v H1 s1 ir=>⟨s1,x,by subst e1;exact ir,q⟩) h⟩) fun u s1 ⟨v,H1,I1,rv,sm,x,e1,q⟩=>?_
  subst e1
  obtain⟨t,rfl⟩:=rv
  have fin:∀(ty:String),(ty="str_ascii_iterator"\/ty="str_iterator")->PIE X ac σ tg R (.ref s1.heap.objs.size) { s1 with heap:=s1.heap.push { cls:=.type ty,data:=.fields #[.str x t,.int 0 0] } }:=fun ty gR=>by
   refine⟨s1.heap.objs.size,[s1.heap.objs.size],_,_,H1,rfl,I1.kept (t':=s1.toks) fun b o e=>aa _ e,Y4f (ty:=ty) (x:=x) (t:=t) gR,⟨_,aw _ rfl,rfl,rfl⟩,fun b hb=>?_,q _ _ sm W9o⟩
   have e:b=s1.heap.objs.size:=by simpa using hb
   subst e
   exact I1.fpOk (ah _) (I1.hok.fresh (ah _))
  cases ha:x.cps.all (·<128)
  ·exact wpAny_pyIter_wide ha (fin _ (.inr rfl))
  ·exact wpAny_pyIter_ascii ha (fin _ (.inl rfl))
end
section
variable {X:Cx}{H0:Hp}{a b c e tg:Expr}{pos:Pos}{wa wb we:WE}{wr:WA}
theorem Q6k {ac:Pn9} {σ:St}{H:Hp}{s:Shared}{h':Heap}{t':Nat}{wr:List Addr}{T:Addr}{xs:List V}{aU:List Value} (I:A0 X ac σ H s) (k:∀b o,b∉wr->s.heap.get? b=some o->h'.get? b=some o) (hf:∀b∈wr,K1 X ac H b)
  (hT:s.heap.objs.size<=T) (ht:IsTup h' T aU.toArray) (rv:C0 xs aU) (hz:xs.length<=sizeLine):A0 X ac σ (upd H T (.tup xs)) { s with heap:=h',toks:=t' }:=by
 have iL:∀b u,H b=some u->b∉wr:=fun b u e z=>by have:=(hf b z).1;rw [e]at this;cases this
 have qN:H T=none:=I.hok.fresh hT
 have neT:∀b u,H b=some u->b≠T:=fun b u e z=>by rw [z,qN]at e;cases e
 refine I.step (g':=s.gens) (d':=s.drawn) (ch:=wr) (fun b hb=>?_) (fun b o _ _ hc e _=>k b o hc e) (fun b o _ _ hc e _=>⟨o.slots,k b o hc e⟩) (fun b o _ e n=>by rw [B1 (az (ax (au e) hT))];exact n)
  (fun b o hc e=>⟨o,k b o hc e⟩) (fun b _ e=>by rw [B1 (neT b _ e)];exact e) (fun b _ _ e=>by rw [B1 (neT b _ e)];exact e) (fun b ps e=>⟨#[],by rw [B1 (neT b _ e),e];simp⟩) (fun m hm=>?_) (fun b u e=>?_) I.bare
 ·obtain⟨_,f1,_,f3,f4,f5⟩:=hf b hb
  exact⟨f3,f1,f4,f5⟩
 ·obtain⟨o,es,ep,ho,r⟩:=hm
  exact⟨o,es,ep,k _ o (fun z=>(hf _ z).2.1 rfl) ho,r⟩
 ·by_cases hb:b=T
  ·subst hb
   rw [upd_same]at e;cases e
   exact⟨hz,aU,rv,ht⟩
  ·rw [B1 hb]at e
   refine(I.hok b u e).stay (fun c v hc q=>k c v ?_ q) (fun c u _ q=>by rw [B1 (neT c _ q)];exact q) fun c xs q=>by rw [B1 (neT c _ q)];exact q
   rcases hc with z | z
   ·rw [z];exact iL b u e
   ·exact iL c _ z
noncomputable def G1 (ds:List D):List D:=ds.zipIdx.map fun(p:D×Nat)=>.tup [.int (p.2:Int),p.1]
theorem Q7l {ds:List D}{i:Nat}{d:D} (h:(G1 ds)[i]?=some d):∃x,ds[i]?=some x/\d=.tup [.int (i:Int),x]:=by
 unfold G1 at h
 rw [ai,List.getElem?_zipIdx]at h
 cases e:ds[i]? with
 | none=>rw [e]at h;cases h
 | some x =>
  rw [e]at h
  have h:D.tup [.int ((0+i:Nat):Int),x]=d:=aB h
  exact⟨x,rfl,by rw [<- h,cB]⟩
theorem Q1m (ds:List D):(G1 ds).length=ds.length:=by simp [G1]
noncomputable def Ies (x:Str):It:=⟨fun i _=>i<x.cps.size,fun i H v H'=>∃T c,x.cps[i]?=some c/\H T=none/\v=.ref T/\H'=upd H T (.tup [.int (i:Int),.str ⟨#[c]⟩]),fun i _=>i=x.cps.size⟩
theorem W8n {P:Program}{w:World}{K:Fg9}{cK:List Expr}{kk:Nat}{pt:Pos}{en it:Addr}{x:Str}{t:Tok} (cA:en≠it) :
  Y6 P w K (.Tuple cK kk pt) (Ies x) [en,it] en (fun i h=>(∃old,IsEnum h en it i old)/\h.IsStrIter it (strIterType x) x t i) where
 mem:=by simp
 obj:=fun i h st b hb=>by
  obtain⟨⟨old,he⟩,o,ho,_,d⟩:=st
  rcases aj.mp hb with rfl | hb
  ·exact⟨_,he,fun v z=>by cases z⟩
  ·have e:b=it:=by simpa using hb
   subst e
   exact⟨o,ho,fun v z=>by rw [d]at z;cases z⟩
 keep:=fun i h h' ⟨⟨old,he⟩,o,ho,r⟩ k=>⟨⟨old,k en (by simp) _ he⟩,o,k it (by simp) o ho,r⟩
 item:=by
  intro X hP hw hK hc i ac s σ H E I hf st hg
  subst hP hw hK
  have Dr:Draws X.prog X.w X.A.in1 it [it] x.cps.size (fun i v=>∃c u,x.cps[i]?=some c/\v=.str ⟨#[c]⟩ u) (fun i h=>h.IsStrIter it (strIterType x) x t i):=by
   unfold strIterType
   split
   ·exact Draws.strAscii (A:=X.A.in1) (show X.A.in1.handled=none from I.ok.hd hc) it x t
   ·exact Draws.strWide (A:=X.A.in1) (show X.A.in1.handled=none from I.ok.hd hc) it x t
  have W:=WalksT.enumerateD Dr en cA (by simpa using cA) (by simp)
  have qz:∀b∈[en,it],K1 X ac H b:=hf
  refine W.item i s _ _ hg st fun T fO h' tk hv hT kH iM k=>?_
  obtain⟨t1,y,⟨c,u,dR,rfl⟩,rfl⟩:=hv
  refine⟨_,rfl,W.go cK kk pt i T { s with heap:=h',toks:=tk } _ _ iM fun h2 dQ k2=>?_⟩
  have i5:∀b o,b∉[en,it]->s.heap.get? b=some o->h2.get? b=some o:=fun b o hb e=>k2 b o hb (k b o hb e)
  have gY:=W.apart i T h' iM
  have eM:IsTup h2 T ([Value.int (i:Int) t1,Value.str ⟨#[c]⟩ u]).toArray:=by
   obtain⟨o,ho,r⟩:=kH
   exact⟨o,k2 T o gY ho,r⟩
  have I2:=Q6k (t':=tk) (xs:=[.int (i:Int),.str ⟨#[c]⟩]) I i5 qz hT eM (.cons ⟨t1,rfl⟩ (.cons ⟨u,rfl⟩ .nil)) (by show 2<=sizeLine;decide)
  refine⟨.ref T,_,I2,rfl,⟨T,c,dR,I.hok.fresh hT,rfl,rfl⟩,dQ,fun b hb=>?_⟩
  rw [B1 (show b≠T from fun z=>gY (by rw [<- z];exact hb))]
  exact(hf b hb).1
 done:=by
  intro X hP hw hK hc i ac s σ H E I hf st hg
  subst hP hw hK
  have hg:i=x.cps.size:=hg
  subst hg
  have Dr:Draws X.prog X.w X.A.in1 it [it] x.cps.size (fun i v=>∃c u,x.cps[i]?=some c/\v=.str ⟨#[c]⟩ u) (fun i h=>h.IsStrIter it (strIterType x) x t i):=by
   unfold strIterType
   split
   ·exact Draws.strAscii (A:=X.A.in1) (show X.A.in1.handled=none from I.ok.hd hc) it x t
   ·exact Draws.strWide (A:=X.A.in1) (show X.A.in1.handled=none from I.ok.hd hc) it x t
  have W:=WalksT.enumerateD Dr en cA (by simpa using cA) (by simp)
  exact W.done s _ _ st fun h' tk k=>⟨rfl,Q3h I k hf⟩
 self:=fun A i s Q E ⟨⟨old,he⟩,_⟩ h=>cn he h
theorem Z5q {K:Fg9}{H:Hp}{x:Str}:YlS K (Ies x) (G1 (G3 x)) H where
 go:=fun H' _ i hi=>by
  have:i<x.cps.size:=by rw [Q1m]at hi;simpa [G3]using hi
  exact this
 yld:=fun H' _ i v cZ d hd ⟨T,c,hc,hT,hv,hH⟩=>by
  subst hH hv
  refine⟨D7 hT _,?_⟩
  obtain⟨y,hy,rfl⟩:=Q7l hd
  unfold G3 at hy
  rw [ai]at hy
  have:x.cps.toList[i]?=some c:=by simpa using hc
  rw [this]at hy
  have e:D.str ⟨#[c]⟩=y:=aB hy
  subst e
  exact A1.s_tup upd_same (AllS.cons A1.s_int (AllS.cons A1.s_str AllS.nil))
 stop:=fun H' _=>by
  show(G1 (G3 x)).length=x.cps.size
  rw [Q1m];simp [G3]
noncomputable def Iel (K:Fg9) (l:Addr):It:=⟨fun i H=>∃xs x,C6 K H l xs/\xs[i]?=some x,fun i H v H'=>∃T x,(∀xs,C6 K H l xs->xs[i]?=some x)/\H T=none/\v=.ref T/\H'=upd H T (.tup [.int (i:Int),x]),fun i H=>∃xs,C6 K H l xs/\xs.length=i⟩
theorem Y4b {P:Program}{w:World}{K:Fg9}{cK:List Expr}{kk:Nat}{pt:Pos}{en it l:Addr} (cA:en≠it) (gU:l≠en) (ku:l≠it) :
  Y6 P w K (.Tuple cK kk pt) (Iel K l) [en,it] en (fun i h=>(∃old,IsEnum h en it i old)/\h.IsListIter it l i) where
 mem:=by simp
 obj:=fun i h st b hb=>by
  obtain⟨⟨old,he⟩,o,ho,_,d⟩:=st
  rcases aj.mp hb with rfl | hb
  ·exact⟨_,he,fun v z=>by cases z⟩
  ·have e:b=it:=by simpa using hb
   subst e
   exact⟨o,ho,fun v z=>by rw [d]at z;cases z⟩
 keep:=fun i h h' ⟨⟨old,he⟩,hi⟩ k=>⟨⟨old,k en (by simp) _ he⟩,hi.at fun o e=>k it (by simp) o e⟩
 item:=by
  intro X hP hw hK hc i ac s σ H E I hf st hg
  subst hP hw hK
  obtain⟨xs,x,hq,hx⟩:=hg
  obtain⟨aU,rv,p,hz⟩:=I.list hq
  have W:=WalksT.enumerate (prog:=X.prog) (w:=X.w) (A:=X.A) (I.ok.hd hc) en it l cA gU ku aU.toArray
  obtain⟨u,hu,ru⟩:=rv.get hx
  have bY:i<aU.toArray.size:=by
   rcases bE i aU.length with h | h
   ·simpa using h
   ·rw [aJ.mpr h]at hu;cases hu
  refine W.item i s _ _ bY ⟨st.1,st.2,p.isList⟩ fun T fO h' tk hv hT kH iM k=>?_
  obtain⟨t1,y,hy,rfl⟩:=hv
  have ey:y=u:=by
   have:aU[i]?=some y:=by simpa using hy
   rw [hu]at this;exact(aB this).symm
  subst ey
  refine⟨_,rfl,W.go cK kk pt i T { s with heap:=h',toks:=tk } _ _ iM fun h2 dQ k2=>?_⟩
  have i5:∀b o,b∉[en,it]->s.heap.get? b=some o->h2.get? b=some o:=fun b o hb e=>k2 b o hb (k b o hb e)
  have gY:=W.apart i T h' iM
  have eM:IsTup h2 T ([Value.int (i:Int) t1,y]).toArray:=by
   obtain⟨o,ho,r⟩:=kH
   exact⟨o,k2 T o gY ho,r⟩
  have I2:=Q6k (t':=tk) (xs:=[.int (i:Int),x]) I i5 hf hT eM (.cons ⟨t1,rfl⟩ (.cons ru .nil)) (by show 2<=sizeLine;decide)
  refine⟨.ref T,_,I2,rfl,⟨T,x,fun ys hy=>by rw [I.list_inj hy hq];exact hx,I.hok.fresh hT,rfl,rfl⟩,⟨dQ.1,dQ.2.1⟩,fun b hb=>?_⟩
  rw [B1 (show b≠T from fun z=>gY (by rw [<- z];exact hb))]
  exact(hf b hb).1
 done:=by
  intro X hP hw hK hc i ac s σ H E I hf st hg
  subst hP hw hK
  obtain⟨xs,hq,hx⟩:=hg
  obtain⟨aU,rv,p,hz⟩:=I.list hq
  have W:=WalksT.enumerate (prog:=X.prog) (w:=X.w) (A:=X.A) (I.ok.hd hc) en it l cA gU ku aU.toArray
  have hl:=rv.length
  have e:i=aU.toArray.size:=by simp;omega
  subst e
  exact W.done s _ _ ⟨st.1,st.2,p.isList⟩ fun h' tk k=>⟨rfl,Q3h I k hf⟩
 self:=fun A i s Q E ⟨⟨old,he⟩,_⟩ h=>cn he h
theorem W9l {K:Fg9}{H:Hp}{l:Addr}{xs:List V}{ds:List D} (sq:C6 K H l xs) (al:AllS K H ds xs):YlS K (Iel K l) (G1 ds) H where
 go:=fun H' s i hi=>by
  rw [Q1m]at hi
  exact⟨xs,xs[i]'(by rw [<- al.length];exact hi),s.seq sq,ae _⟩
 yld:=fun H' s i v cZ d hd ⟨T,x,hx,hT,hv,hH⟩=>by
  subst hH hv
  refine⟨D7 hT _,?_⟩
  obtain⟨y,hy,rfl⟩:=Q7l hd
  obtain⟨v,hv,q⟩:=al.get hy
  rw [hx xs (s.seq sq)]at hv;cases hv
  exact A1.s_tup upd_same (AllS.cons A1.s_int (AllS.cons (q.mono (Kp.of (s.trans (D7 hT _))) _ _) AllS.nil))
 stop:=fun H' s=>⟨xs,s.seq sq,by rw [Q1m];exact al.length.symm⟩
end
section
variable {X:Cx}{H0:Hp}{a b c e o tg:Expr}{pos apos bq:Pos}{wa wb we:WE}{wr:WA}
theorem B9.mutate {K:Fg9}{H:Hp} {τ:A8} {σ:St}{i:Nat}{ds lh:List D}{a:Addr}{xs jL:List V} (hR:B9 K H0 τ σ H) (e1:τ[i]?=some (some (.own ds))) (hv:σ[i]?=some (some (.ref a))) (h0:H0 a=none) (sq:H a=some (.lst xs)) (al:AllS K H lh jL) :
  B9 K H0 (τ.set i (some (.own lh))) σ (upd H a (.lst jL)):=by
 have kp:Kp H (upd H a (.lst jL)):=Kp.upd sq _
 have hl:i<τ.length:=by
  rcases bE i τ.length with h | h
  ·exact h
  ·rw [aJ.mpr h]at e1;cases e1
 have old:∀(j:Nat) (s:Sl),(τ.set i (some (.own lh)))[j]?=some (some s)->j≠i->τ[j]?=some (some s):=fun j s e hj=>by rw [aG (fun z=>hj z.symm)]at e;exact e
 have fi:∀(j:Nat) (s:Sl),(τ.set i (some (.own lh)))[j]?=some (some s)->s.mut=true->∃t,τ[j]?=some (some t)/\t.mut=true:=fun j s e m=>by
  by_cases hj:j=i
  ·subst hj;exact⟨_,e1,rfl⟩
  ·exact⟨s,old j s e hj,m⟩
 refine⟨by rw [bN];exact hR.len,fun b ob hb=>?_,fun j s e=>?_,fun j k s t v cA e2 e3 m1 m2 q1 q2=>?_⟩
 ·rw [B1 (U9 hb h0)];exact hR.same b ob hb
 ·by_cases hj:j=i
  ·subst hj
   rw [Z1 hl]at e;cases e
   exact⟨_,hv,a,jL,rfl,h0,upd_same,al.mono kp _ _⟩
  ·have e:=old j s e hj
   obtain⟨v,q,r⟩:=hR.here j s e
   refine⟨v,q,?_⟩
   have ap:s.mut=true->v≠.ref a:=fun m z=>by
    subst z
    exact hR.apart i j _ s (.ref a) (fun z=>hj z.symm) e1 e rfl m hv q
   cases s with
   | dat d=>exact A1.mono kp _ _ r
   | own es=>obtain⟨b,ys,e,n,q,t⟩:=r;exact⟨b,ys,e,n,by rw [B1 (fun z=>ap rfl (by rw [e,z]))];exact q,t.mono kp _ _⟩
   | bor es=>obtain⟨b,ys,e,q,t⟩:=r;exact⟨b,ys,e,q,t.mono kp _ _⟩
   | bd es=>obtain⟨b,ys,e,q,t⟩:=r;exact⟨b,ys,e,q,t.mono kp _ _⟩
   | dk es=>obtain⟨b,ys,e,n,q,t⟩:=r;exact⟨b,ys,e,n,by rw [B1 (fun z=>ap rfl (by rw [e,z]))];exact q,t.mono kp _ _⟩
   | dt es=>obtain⟨b,ys,e,n,q,t⟩:=r;exact⟨b,ys,e,n,by rw [B1 (fun z=>ap rfl (by rw [e,z]))];exact q,t.mono kp _ _⟩
   | ob _=>exact r
   | cl _ _=>exact⟨r.1,r.2.2 _ _ kp r.2.1,r.2.2⟩
   | ll _ _=>exact⟨r.1,r.2.keep kp fun b φ q=>by rw [B1 (Z5 q sq (by intro z;cases z))];exact q⟩
   | ins _ _ _=>obtain⟨e,n,dx,ys,q,t⟩:=r;exact⟨e,n,dx,ys,by rw [B1 (fun z=>ap rfl (by rw [e,z]))];exact q,t.mono kp _ _⟩
 ·obtain⟨s',na,lK⟩:=fi j s e2 m1
  obtain⟨t',n9,lJ⟩:=fi k t e3 m2
  exact hR.apart j k s' t' v cA na n9 lK lJ q1 q2
theorem B9.ownAt {K:Fg9}{H:Hp} {τ:A8} {σ:St}{i:Nat}{ds:List D} (hR:B9 K H0 τ σ H) (e1:τ[i]?=some (some (.own ds))):∃a xs,σ[i]?=some (some (.ref a))/\H0 a=none/\H a=some (.lst xs)/\AllS K H ds xs:=by
 obtain⟨v,hv,a,xs,rfl,h0,sq,al⟩:=hR.here i _ e1
 exact⟨a,xs,hv,h0,sq,al⟩
def S5 (i:Nat) (we:WE):WS:=fun E τ=>∃ds,τ[i]?=some (some (.own ds))/\we τ fun r=>∃d,r=.st d/\ds.length<sizeLine/\E.nx (τ.set i (some (.own (ds++[d]))))
theorem DS.append {i:Nat} (ho:PE X o (O3 i)) (he:DE X H0 e we) (dM:attributeBase o "append" X.env (eval o X.env)=eval o X.env:=by rfl)
  (fB:((backTo bq (starEach [e] X.env)).all (fun x=>!x.1)&&(backToKw bq (keywordEach [] X.env)).all (fun x=>x.1.isSome)&&decide ([e].length+([]:List Keyword).length+(if ([]:List Keyword).isEmpty then 0 else 1)<30))=true:=by rfl)
  (dL:(apos.endLine==bq.line)=true:=by rfl) (hs:starEach [e] X.env=(false,eval e X.env)::starEach [] X.env:=by rfl) (db:(backTo bq (starEach [] X.env)).any (·.1)=false:=by rfl)
  (gz:swapsWith (.Call (.Attribute o "append" apos) [e] [] bq) none pos.line X.env=pure false:=by rfl):DS X H0 (.Expr (.Call (.Attribute o "append" apos) [e] [] bq) pos) (S5 i we) where
 mono:=fun τ E F le ⟨ds,e1,h⟩=>⟨ds,e1,he.mono τ _ _ (fun r ⟨d,e2,h1,h2⟩=>⟨d,e2,h1,le.nx _ h2⟩) h⟩
 ps:=Q3 (Z3c (Z2z PySem.F.plainAttrs_list PySem.F.slot_list_append PySem.F.type_list_append W0w ho (Q1b he.pe Q2z hs) dM fB dL hs db) gz) fun D σ H ⟨τ,hR,ds,e1,h⟩=>by
  obtain⟨a,xs,hv,h0,sq,al⟩:=hR.ownAt e1
  refine⟨_,hv,.inl ⟨rfl,_,C6.of sq⟩,τ,hR,he.mono τ _ _ (fun r ⟨d,e2,h1,h2⟩ v H1 s1 ir=>?_) h⟩
  subst e2
  have eh:=hR.mono s1
  refine⟨a,xs,v,rfl,rfl,s1 _ _ sq,by rw [<- al.length];exact h1,h2 σ _ ((Kp.of s1).trans (Kp.upd (s1 _ _ sq) _)) ?_⟩
  exact eh.mutate e1 hv h0 (s1 _ _ sq) ((al.mono (Kp.of s1) _ _).append (AllS.cons ir AllS.nil))
end
end TK
end
section
namespace HT
open PySem PyProof.Rows
section
variable {prog:Program}{w:World}{A:Around}{E:VS9}{s:Shared}
theorem getItem_tuple_whole {t sl:Addr}{items:Array Value}{vl vu:Value}{lo hi:Option Int}{Q:VS9} (ht:IsTup s.heap t items) (hs:s.heap.IsSliceOf sl vl vu .none) (pl:IsPart vl lo) (pu:IsPart vu hi)
  (hw:sIx items.size 0 lo=0/\sIx items.size items.size hi=items.size) (h:Q (.ref t) s):wpAny (model prog w) A (getItem (.ref t) (.ref sl)) Q E s:=by
 obtain⟨os,fX,gF,fR⟩:=id hs
 have mL:s.TypeIs (.ref sl) "slice":=⟨os,fX,gF⟩
 unfold getItem
 try with_reducible refine bu ?_
 first | refine a9 (af ?_) | skip
 refine a9 (wpAny_sequenceKey ht.typeIs (by decide) ?_)
 refine a9 (b9 (name:=Str.ofString "__getitem__") ht.typeIs bU
  (be bU ht.typeIs entry_tuple_getitem ?_ (args_tuple_getitem _ _)))
 show wpAny _ _ (Builtin.Tuple.tupleItemsOf (.ref t)>>=_) _ _ s
 refine a9 (tupleItemsOf_ ht ?_)
 refine a9 (wpAny_typeOf mL ?_)
 rw [aE (by decide)]
 refine a9 (Y3q hs pl pu ?_)
 have lY:((((sIx items.size 0 lo:Nat):Int)==0&&(1:Int)==1&&(sIx items.size items.size hi-sIx items.size 0 lo)==items.size)=true):=by
  rw [hw.1,hw.2];simp
 show wpAny _ _ (if (((sIx items.size 0 lo:Nat):Int)==0&&(1:Int)==1&&(sIx items.size items.size hi-sIx items.size 0 lo)==items.size)=true then _ else _) _ _ s
 rw [aE lY]
 show wpAny _ _ ((typeOf (.ref t)>>=fun y=>pure (y==Value.type "tuple"))>>=_) _ _ s
 refine a9 (a9 (wpAny_typeOf ht.typeIs (af ?_)))
 rw [aE (by decide)]
 first
  | exact a9 (dW (af ⟨_,rfl,af h⟩))
  | exact a9 (dW (a9 (af (af ⟨_,rfl,af h⟩))))
end
end HT
namespace TK
open PySem PySem.Spec PyProof.Rows L2
noncomputable def Y9 {α:Type} (xs:List α) (lo hi:Option Int):List α:=(xs.drop (HT.sIx xs.length 0 lo)).take (HT.sIx xs.length xs.length hi-HT.sIx xs.length 0 lo)
theorem Z1e {K:Fg9}{H:Hp}{ds:List D}{xs:List V} (al:AllS K H ds xs) (lo hi:Option Int):AllS K H (Y9 ds lo hi) (Z0 xs lo hi):=by
 unfold Y9 Z0
 rw [<- al.length]
 exact(al.drop _).take _
section
variable {X:Cx}{H0:Hp}{a b c e o tg:Expr}{pos p2:Pos}{wa wb we:WE}{lo hi:Option Expr}
theorem W7j:L2.N6 X (fun x lo hi H Q=>∃a xs,x=.ref a/\H a=some (.tup xs)/\((¬ (HT.sIx xs.length 0 lo=0/\HT.sIx xs.length xs.length hi=xs.length))->∀p,H p=none->Q (.ref p) (upd H p (.tup (Z0 xs lo hi))))/\((HT.sIx xs.length 0 lo=0/\HT.sIx xs.length xs.length hi=xs.length)->Q (.ref a) H)):=by
 intro ac s σ H x v vl vu lo hi sl Q I rx hs pl pu h
 obtain⟨a,xs,rfl,hx,q1,q2⟩:=h
 by_cases hw:HT.sIx xs.length 0 lo=0/\HT.sIx xs.length xs.length hi=xs.length
 ·cases rx
  obtain⟨aU,r,ht,hz⟩:=I.tuple (C2.of hx)
  have bR:aU.toArray.size=xs.length:=by rw [aF];exact r.length.symm
  exact⟨"tuple",_,bU.lookup,ht.typeIs,HT.getItem_tuple_whole ht hs pl pu (by rw [bR];exact hw) ⟨.ref a,H,I,rfl,q2 hw⟩⟩
 ·exact W7i ac s σ H _ v vl vu lo hi sl Q I rx hs pl pu ⟨a,xs,rfl,C2.of hx,hw,q1 hw⟩
theorem Y7a {xs:List V}{lo hi:Option Int} (h:HT.sIx xs.length 0 lo=0/\HT.sIx xs.length xs.length hi=xs.length):Z0 xs lo hi=xs:=by
 unfold Z0;rw [h.1,h.2];simp
noncomputable abbrev WO:=A8->(Option Int->Prop)->Prop
noncomputable def Y9w (K:Fg9) (H0:Hp) (w:WO):TO:=fun σ H Q=>∃ τ,B9 K H0 τ σ H/\w τ fun o=>∀H',A5 H H'->Q o H'
structure DO (X:Cx) (H0:Hp) (e:Option Expr) (w:WO):Prop where
 mono:∀(τ:A8) (P Q:Option Int->Prop),(∀r,P r->Q r)->w τ P->w τ Q
 po:PO X e (Y9w X.K H0 w)
theorem DO.none:DO X H0 none (fun _ Q=>Q none):=⟨fun _ _ _ f h=>f _ h,fun ac s σ H Q I ⟨τ,hR,h⟩=>W3t ac s σ H Q I (h H (A5.refl H))⟩
noncomputable def Q0y:R->(Int->Prop)->Prop
 | .st (.int i),Q=>Q i
 | _,_=>False
theorem Q7o {r:R}{P:Int->Prop} (h:Q0y r P):∃i,r=.st (.int i)/\P i:=by
 unfold Q0y at h
 split at h
 ·exact⟨_,rfl,h⟩
 ·exact h.elim
theorem DO.some (he:DE X H0 e we):DO X H0 (some e) (fun τ Q=>we τ fun r=>Q0y r fun i=>Q (some i)) where
 mono:=fun τ P Q f h=>he.mono τ _ _ (fun r h=>by obtain⟨i,rfl,q⟩:=Q7o h;exact f _ q) h
 po:=fun ac s σ H Q I ⟨τ,hR,h⟩=>W3u he.pe ac s σ H Q I ⟨τ,hR,he.mono τ _ _ (fun r h v H1 s1 ir=>by
  obtain⟨i,rfl,q⟩:=Q7o h
  exact⟨i,ir,q H1 s1⟩) h⟩
def slD (x:R) (lo hi:Option Int) (Q:R->Prop):Prop:=match x with
 | .st (.tup ds)=>Q (.st (.tup (Y9 ds lo hi)))
 | .st (.lst ds)=>Q (.nw (Y9 ds lo hi))
 | .nw ds=>Q (.nw (Y9 ds lo hi))
 | .bw ds=>Q (.nw (Y9 ds lo hi))
 | .st (.str z)=>z.length<=sizeLine/\Q (.st (.str (Txt.slice z lo hi)))
 | _=>False
theorem W7f {x:R}{lo hi:Option Int}{P Q:R->Prop} (f:∀r,P r->Q r) (h:slD x lo hi P):slD x lo hi Q:=by
 unfold slD at h ⊢
 split at h <;> first | exact f _ h | exact⟨h.1,f _ h.2⟩ | exact h
theorem W7h:L2.N6 X (fun x lo hi H Q=>∃z,x=.str z/\z.length<=sizeLine/\Q (.str (Txt.slice z lo hi)) H):=by
 intro ac s σ H x v vl vu lo hi sl Q I rx hs pl pu h
 obtain⟨z,rfl,hz,q⟩:=h
 obtain⟨t,rfl⟩:=rx
 refine⟨"str",_,PySem.F.slot_str_getitem.lookup,typeIs_str _ _ _,?_⟩
 obtain⟨os,fX,gF,fR⟩:=id hs
 have fin:∀(t':Tok) (k:Nat),EP X ac σ Q (.str (Txt.slice z lo hi) t') { s with toks:=k }:=fun t' k=>⟨.str _,H,I.tok k,⟨t',rfl⟩,q⟩
 cases pl with
 | none =>
  cases pu with
  | none=>exact wpAny_getItem_str_slice (l:=none) (u:=none) (st:=none) ⟨_,fX,gF,fR⟩ rfl (post_val_or_str ⟨aT (Txt.slice_le z _ _) hz,fin⟩)
  | int j uj=>exact wpAny_getItem_str_slice (l:=none) (u:=some (j,uj)) (st:=none) ⟨_,fX,gF,fR⟩ rfl (post_val_or_str ⟨aT (Txt.slice_le z _ _) hz,fin⟩)
 | int i ui =>
  cases pu with
  | none=>exact wpAny_getItem_str_slice (l:=some (i,ui)) (u:=none) (st:=none) ⟨_,fX,gF,fR⟩ rfl (post_val_or_str ⟨aT (Txt.slice_le z _ _) hz,fin⟩)
  | int j uj=>exact wpAny_getItem_str_slice (l:=some (i,ui)) (u:=some (j,uj)) (st:=none) ⟨_,fX,gF,fR⟩ rfl (post_val_or_str ⟨aT (Txt.slice_le z _ _) hz,fin⟩)
variable {wl wh:WO}
theorem DE.slice (he:DE X H0 e we) (hl:DO X H0 lo wl) (hh:DO X H0 hi wh):DE X H0 (.Subscript e (.Slice lo hi none p2) pos) (fun τ Q=>we τ fun x=>wl τ fun l=>wh τ fun u=>slD x l u Q) where
 mono:=fun τ P Q f h=>he.mono τ _ _ (fun x h=>hl.mono τ _ _ (fun l h=>hh.mono τ _ _ (fun u h=>W7f f h) h) h) h
 pe:=by
  refine M7 (W3i (W7j.or (W7g.or W7h)) he.pe hl.po hh.po) fun σ H Q ⟨τ,hR,h⟩=>⟨τ,hR,he.mono τ _ _ (fun x h v H1 s1 ir=>⟨τ,hR.mono s1,hl.mono τ _ _ (fun l h H2 s2=>⟨τ,hR.mono (s1.trans s2),hh.mono τ _ _ (fun u h H3 s3=>?_) h⟩) h⟩) h⟩
  have ir:=ir.mono (s2.trans s3)
  have jU:=s1.trans (s2.trans s3)
  have lists:∀ds,P6 x=some ds->(∀r,r=R.nw (Y9 ds l u)->∀v H',A5 H H'->D9 X.K H H' r v->Q v H')->rSlL X.K v l u H3 Q:=fun ds e1 q=>by
   obtain⟨p,xs,rfl,sq,al⟩:=Q0z e1 ir
   exact⟨p,xs,rfl,sq,fun p' hp=>q _ rfl _ _ (jU.trans (D7 hp _)) ⟨p',_,rfl,jU.free hp,upd_same,(Z1e al l u).mono (Kp.of (D7 hp _)) _ _⟩⟩
  unfold slD at h
  split at h
  ·have ir:A1 X.K H3 (.tup _) v:=ir
   unfold A1 at ir
   obtain⟨p,xs,rfl,sq,al⟩:=ir
   refine .inl ⟨p,xs,rfl,sq,fun _ p' hp=>h _ _ (jU.trans (D7 hp _)) (A1.s_tup (K:=X.K) upd_same ((Z1e al l u).mono (Kp.of (D7 hp _)) _ _)),fun hw=>h _ _ jU (A1.s_tup (K:=X.K) (H:=H3) sq ?_)⟩
   have:=Z1e al l u
   rw [Y7a hw]at this
   exact this
  ·exact .inr (.inl (lists _ rfl fun r e1=>by subst e1;exact h))
  ·exact .inr (.inl (lists _ rfl fun r e1=>by subst e1;exact h))
  ·exact .inr (.inl (lists _ rfl fun r e1=>by subst e1;exact h))
  ·cases (show v=.str _ from ir)
   exact .inr (.inr ⟨_,rfl,h.1,h.2 _ _ jU Z1t⟩)
  ·exact h.elim
theorem DE.neg (he:DE X H0 e we):DE X H0 (.UnaryOp .USub e pos) (fun τ Q=>we τ fun r=>Q0y r fun i=>Q (.st (.int (-i)))) where
 mono:=fun τ P Q f h=>he.mono τ _ _ (fun r h=>by obtain⟨i,rfl,q⟩:=Q7o h;exact f _ q) h
 pe:=M7 (W3l W8v he.pe) fun σ H Q ⟨τ,hR,h⟩=>⟨τ,hR,he.mono τ _ _ (fun r h v H1 s1 ir=>by
  obtain⟨i,rfl,q⟩:=Q7o h
  exact⟨i,ir,q _ _ s1 U7⟩) h⟩
end
end TK
end
section
namespace TK
open PySem PySem.Spec PyProof.Rows L2
section
variable {X:Cx}{H0:Hp}{a b c e o tg:Expr}{pos bI p p2:Pos}{wa wb we:WE}{x:Str}{d:Addr}{kvs:List (Str×Int)}
theorem DE.gstr {z:Str} (hg:Gl X x) (hm:∃t,X.mg x=some (.str z t)) (hd:(x==("__debug__":Str))=false:=by decide):DE X H0 (.Name x pos) (wC (.str z)):=by
 obtain⟨t,hm⟩:=hm
 exact DE.con (W2y (v:=.str z) hg hm ⟨t,rfl⟩ hd) fun _ _=>A1.s_str
def Q9h (i:Nat) (g:R->R->(R->Prop)->Prop) (we:WE):WS:=fun E τ=>∃s,τ[i]?=some (some s)/\we τ fun y=>g (Q8 s) y fun r=>Q0p r fun s'=>E.nx (τ.set i (some s'))
theorem DS.aug {i:Nat}{op:Operator}{g:R->R->(R->Prop)->Prop} (ho:OpD X (inplaceOp op) g) (mg:X7 g) (he:DE X H0 e we) (hN:X.N.Nodup) (hi:X.N[i]?=some x) (hx:Loc X.env.scope x)
  (hf:X.fn x=true\/X.env.scope.names.lookup x=some .local:=by first | exact .inl rfl | exact .inr rfl | assumption):DS X H0 (.AugAssign (.Name x bI) op e pos) (Q9h i g we) where
 mono:=fun τ E F le ⟨s,e1,h⟩=>⟨s,e1,he.mono τ _ _ (fun y h=>mg _ _ _ _ (fun r h=>Z3z (fun s h=>le.nx _ h) h) h) h⟩
 ps:=Q3 (W3z hN hi hx he.pe ho hf) fun D σ H ⟨τ,hR,s,e1,h⟩=>by
  obtain⟨v,hv,q⟩:=hR.here i s e1
  refine⟨v,hv,τ,hR,he.mono τ _ _ (fun y h u H1 s1 iu=>?_) h⟩
  have iv:IsV X.K H1 (Q8 s) v:=(N6.rd (Hs:=fun _=>none) hR.same q).mono s1
  refine⟨Q8 s,y,iv,iu.v,mg _ _ _ _ (fun r h z H2 s2 iz=>?_) h⟩
  obtain⟨s',p,cL⟩:=(hR.mono s1).store (i:=i) s2 iz h
  exact p _ _ (Kp.of (s1.trans s2)) cL
theorem W1v:OpD X (inplaceOp .Add) (J8 NoC fun i j=>i+j):=OpD.ints0 Y8p
noncomputable def blkB (sc:Scope) (N0:List Str) (scope:Scope) (N:List Str) (nt:Nat) (cap:List Nat):Bool :=
 decide (scope.kind=.function)&&scope.names.all (fun y=>y.2 != .cell)&&scope.names.all (fun y=>y.2 != .local||scope.names.lookup y.1==some .local) &&
 scope.names.all (fun y=>y.2 != .free||scope.names.lookup y.1==some .free)&&scope.names.all (fun y=>y.2 != .free||sc.names.lookup y.1==some .cell||sc.names.lookup y.1==some .free) &&
 decide (N.length=nt+cap.length)&&(List.range cap.length).all (fun j=>match cap[j]?,N[nt+j]? with | some i,some x=>N0[i]?==some x&&scope.names.contains (x,NameKind.free) | _,_=>false)
theorem Q4 {sc:Scope}{N0:List Str}{scope:Scope}{N:List Str}{nt:Nat}{cap:List Nat} (h1:X.env.scope=sc) (h2:X.N=N0) (h:blkB sc N0 scope N nt cap=true):J3 X scope N nt cap:=by
 subst h1 h2
 unfold blkB at h
 simp only [cj]at h
 obtain⟨⟨⟨⟨⟨⟨a1,a2⟩,a3⟩,a4⟩,a5⟩,a6⟩,a7⟩:=h
 refine⟨fE a1,fun y hy=>?_,fun y hy e=>?_,fun y hy e=>?_,fun y hy e=>?_,fE a6,fun j i x hj hx=>?_⟩
 ·simpa using cb.mp a2 y hy
 ·have:=cb.mp a3 y hy
  rw [e]at this
  simpa using this
 ·have:=cb.mp a4 y hy
  rw [e]at this
  simpa using this
 ·have:=cb.mp a5 y hy
  rw [e]at this
  have this:X.env.scope.names.lookup y.1=some .cell\/X.env.scope.names.lookup y.1=some .free:=by simpa using this
  exact this
 ·have bY:j<cap.length:=by
   rcases bE j cap.length with h | h
   ·exact h
   ·rw [aJ.mpr h]at hj;cases hj
  have:=cb.mp a7 j (aY.mpr bY)
  rw [hj,hx]at this
  simpa using this
theorem Q1n {A:Around}{k:Nat} (hr:C9 k A):A.units+60<cLine:=by have:=hr.units;omega
theorem C9.hu1 {A:Around}{k:Nat} (hr:C9 k A):A.units+1<cLine:=by have:=hr.units;omega
theorem Y9h (T:String) (h:T∈["bool","int","str","tuple","list"]):∀K t,t∈["NoneType","bool","int","str","tuple","list"]->PySem.W.kitOne K (.type t) (.type T)=some (Q3v T t):=by
 intro K t ht
 simp only [aj,aL,br]at h ht
 rcases h with rfl | rfl | rfl | rfl | rfl <;> rcases ht with rfl | rfl | rfl | rfl | rfl | rfl <;> rfl
end
end TK
end
section
namespace HT
open PySem PySem.Spec PyProof.Rows
open AutoSeq1 (wpAny_loadPart')
section
variable {prog:Program}{w:World}{A:Around}{E:VS9}{s:Shared}
end
end HT
namespace TK
open PySem PySem.Spec PyProof.Rows L2
section
variable {X:Cx}{H0:Hp}{a b c e o tg:Expr}{pos bI p p2 p3 p4:Pos}{wa wb we:WE}
end
end TK
end
section
namespace TK
open PySem PySem.Spec PyProof.Rows L2
def A9 (we:WE):WE:=fun τ Q=>we τ fun r=>fzR r fun d=>Q (.st d)
def wB (t:WT):WE:=fun τ Q=>t τ fun k=>Q (.st (.bl k))
def Q4u (we:WE):WT:=fun τ Q=>we τ fun r=>Q2c r Q
def Z2p:WO:=fun _ Q=>Q none
def Z2q (we:WE):WO:=fun τ Q=>we τ fun r=>Q0y r fun i=>Q (some i)
def wSl (we:WE) (wl wh:WO):WE:=fun τ Q=>we τ fun x=>wl τ fun l=>wh τ fun u=>slD x l u Q
def Q9p (we:WE):WE:=fun τ Q=>we τ fun r=>Q0y r fun i=>Q (.st (.int (-i)))
def P9:WT:=fun _ Q=>Q true
def Q0f (we:WE):WI:=fun τ Q=>we τ fun r=>∃ds,r=.st (.lst ds)/\Q ds τ
def Q3u (we:WE):WI:=fun τ Q=>we τ fun r=>∃ds,r=.st (.tup ds)/\Q ds τ
def W0 (wr:WA):WI:=fun τ Q=>wr τ fun rs=>∃j:Int,rs=[.st (.int j)]/\-(2 ^ 62)<=j/\j<2 ^ 62/\Q (J4 0 j.toNat) τ
noncomputable def Q5m (we:WE):P3:=fun τ Q=>we τ fun r=>∃ds,P6 r=some ds/\Q ds
noncomputable def Q3w (we:WE):P3:=fun τ Q=>we τ fun r=>∃ds,r=.st (.tup ds)/\Q ds
noncomputable def Q2p (wr:WA):P3:=fun τ Q=>wr τ fun rs=>∃j:Int,rs=[.st (.int j)]/\-(2 ^ 62)<=j/\j<2 ^ 62/\Q (J4 0 j.toNat)
noncomputable def Z1v (we:WE):P3:=fun τ Q=>we τ fun r=>∃x,r=.st (.str x)/\Q (G3 x)
def L6 (wi:WI) (g:WG) (wb:WS):WS:=fun E τ=>wi τ fun ds τ'=>C4 g wb E ds τ'
def Q9g (we:WE) (g:WG):WS:=fun E τ=>we τ fun r=>∃d,r=.st d/\g d τ E.nx
def Q6p (i:Nat):WS:=fun E τ=>∃s,τ[i]?=some (some s)/\Q2y s E.rt
structure Df (K:Fg9) (mg:Str->Option Value) (name:Str) (st:Stmt) (ps:List Str) (f:Addr) (fd:FuncData):Prop where
 F:Fun K name name st f fd
 b:U2 K fd ps []
 k:PySem.W.keepIn K (.ref f)=true
 m:mg name=some (.ref f)
abbrev FnD (P:Program) (w:World) (K:Fg9) (mg:Str->Option Value) (base:Heap) (k:Nat) (f:Addr) (fd:FuncData) (ps:List Str) (sp:D6):Prop:=O9 P w K mg base K6 k f fd ps (Q2r K ps.length sp)
noncomputable def T0 (r:R):F4:={ nx:=fun _=>r=.st .non,rt:=fun r'=>r'=r,bk:=fun _=>False,ct:=fun _=>False }
section
variable {P:Program}{w:World}{K:Fg9}{mg:Str->Option Value}{base:Heap}
theorem Df.ok {x:Str}{st:Stmt}{f:Addr}{fd:FuncData}{N ps:List Str}{k:Nat}{sp:D6}{ws:WS} (F:Df K mg x st ps f fd) (S:J5 N ps (C1 st))
  (cc:∀(cdv:Value) (A:Around) (outer:List Env) (s:Shared) (H:Hp) (E:XK),C9 k (A.deeper (envOfC x (C1 st) s.heap.objs.size f cdv))->A6 (X1 K6 P w K mg base N x (C1 st) f cdv A outer s H E).nox H (M5 st) ws)
  (hr:∀rs r,rs.length=ps.length->sp rs r->ws (T0 r) (F6 N rs)):FnD P w K mg base (k+1) f fd ps sp :=
 Fun.okD F.F S fun cdv A outer s H E ki=>⟨ws,cc cdv A outer s H E ki,hr⟩
end
section
variable {τ:A8}{E:F4}{Q:R->Prop}{QB:Bool->Prop}{wa wb we:WE}{wr:WA}{t u:WT}{ws wt:WS}{i j:Int}{n:Nat}{x y:Str}{ds es:List D}{d e:D}
@[simp] theorem L5:B7 ws wt E τ=ws { E with nx:=wt E } τ:=rfl
@[simp] theorem Q3a:V4 E τ=E.nx τ:=rfl
@[simp] theorem Q2a:V3 t ws wt E τ=t τ fun k=>if k=true then ws E τ else wt E τ:=rfl
@[simp] theorem X6:O6 we E τ=we τ fun r=>Q4h r E.rt:=rfl
@[simp] theorem Q8m:Q6p n E τ=∃s,τ[n]?=some (some s)/\Q2y s E.rt:=rfl
@[simp] theorem P8:C5 n we E τ=we τ fun r=>Q0p r fun s=>E.nx (τ.set n (some s)):=rfl
@[simp] theorem W5v {g:R->R->(R->Prop)->Prop}:Q9h n g we E τ=∃s,τ[n]?=some (some s)/\we τ fun y=>g (Q8 s) y fun r=>Q0p r fun s'=>E.nx (τ.set n (some s')):=rfl
@[simp] theorem Z3i {g:WG}:Q9g we g E τ=we τ fun r=>∃d,r=.st d/\g d τ E.nx:=rfl
@[simp] theorem Q1u:S5 n we E τ=∃ds,τ[n]?=some (some (.own ds))/\we τ fun r=>∃d,r=.st d/\ds.length<sizeLine/\E.nx (τ.set n (some (.own (ds++[d])))):=rfl
@[simp] theorem S9 {wi:WI}{g:WG}:L6 wi g ws E τ=wi τ fun ds τ'=>C4 g ws E ds τ':=rfl
@[simp] theorem C3:wV n τ Q=∃s,τ[n]?=some (some s)/\Q (Q8 s):=rfl
@[simp] theorem F8:wC d τ Q=Q (.st d):=rfl
@[simp] theorem E2 {α:Type}{g:R->R->(α->Prop)->Prop}{Q:α->Prop}:A3 g wa wb τ Q=wa τ fun x=>wb τ fun y=>g x y Q:=rfl
@[simp] theorem s_b:wB t τ Q=t τ fun k=>Q (.st (.bl k)):=rfl
@[simp] theorem Z3m:Q4u we τ QB=we τ fun r=>Q2c r QB:=rfl
@[simp] theorem W5t:Q9f t u τ QB=t τ fun k=>if k=true then u τ QB else QB false:=rfl
@[simp] theorem s_or:wOr t u τ QB=t τ fun k=>if k=true then QB true else u τ QB:=rfl
@[simp] theorem Z3l:Q3i t τ QB=t τ fun k=>QB (!k):=rfl
@[simp] theorem W5u:Q6m wa wb τ Q=wa τ fun r=>blR r fun k=>if k=true then wb τ Q else Q (.st (.bl false)):=rfl
@[simp] theorem W6w:Q9q wa wb τ Q=wa τ fun r=>blR r fun k=>if k=true then Q (.st (.bl true))else wb τ Q:=rfl
@[simp] theorem D4 {Q:List R->Prop}:A4 τ Q=Q []:=rfl
@[simp] theorem D8 {Q:List R->Prop}:A2 we wr τ Q=we τ fun r=>wr τ fun rs=>Q (r::rs):=rfl
@[simp] theorem s_tup:T4 wr τ Q=wr τ fun rs=>∃ds,Z9 rs=some ds/\ds.length<=sizeLine/\Q (.st (.tup ds)):=rfl
@[simp] theorem s_lst:M3 wr τ Q=wr τ fun rs=>∃ds,Z9 rs=some ds/\ds.length<=sizeLine/\Q (.nw ds):=rfl
@[simp] theorem E9:A9 we τ Q=we τ fun r=>fzR r fun d=>Q (.st d):=rfl
@[simp] theorem K9 {g:List R->(R->Prop)->Prop}:C7 g wr τ Q=wr τ fun rs=>g rs Q:=rfl
@[simp] theorem Y4 {sp:D6}:O5 sp wr τ Q=wr τ fun rs=>rs.all M4=true/\∃r,sp (rs.map nrm) r/\Q r:=rfl
@[simp] theorem W6g {T:String}:Q9m T we τ Q=we τ fun r=>∃t,Q6l r=some t/\Q (.st (.bl (Q3v T t))):=rfl
@[simp] theorem s_sl {wl wh:WO}:wSl we wl wh τ Q=we τ fun x=>wl τ fun l=>wh τ fun u=>slD x l u Q:=rfl
@[simp] theorem s_oN {Q:Option Int->Prop}:Z2p τ Q=Q none:=rfl
@[simp] theorem s_oS {Q:Option Int->Prop}:Z2q we τ Q=we τ fun r=>Q0y r fun i=>Q (some i):=rfl
@[simp] theorem Y2m:Q9p we τ Q=we τ fun r=>Q0y r fun i=>Q (.st (.int (-i))):=rfl
@[simp] theorem V1 {cap:List Nat}{wi:P3}{g:WG}:M0 n cap wi g t we τ Q=wi τ fun ds=>ds.length<=sizeLine/\K7 g t we ds (R8 n cap τ) fun es=>Q (.nw es):=rfl
@[simp] theorem L9 {Q:A8->Prop}:B0 n d τ Q=Q (τ.set n (some (.dat d))):=rfl
@[simp] theorem Q1x {Q:A8->Prop}:O2 ds τ Q=(ds=[]/\Q τ):=rfl
@[simp] theorem Q1w {g:WG}{gs:WGs}{Q:A8->Prop}:E6 g gs ds τ Q=∃d r,ds=d::r/\g d τ fun τ'=>gs r τ' Q:=rfl
@[simp] theorem Q1y {gs:WGs}{Q:A8->Prop}:N7 n gs d τ Q=∃ds,d=.tup ds/\ds.length=n/\gs ds τ Q:=rfl
@[simp] theorem Q6d {Q:List D->A8->Prop}:Q0f we τ Q=we τ fun r=>∃ds,r=.st (.lst ds)/\Q ds τ:=rfl
@[simp] theorem Y2g {Q:List D->A8->Prop}:Q3u we τ Q=we τ fun r=>∃ds,r=.st (.tup ds)/\Q ds τ:=rfl
@[simp] theorem Q1z {Q:List D->A8->Prop}:W0 wr τ Q=wr τ fun rs=>∃j:Int,rs=[.st (.int j)]/\-(2 ^ 62)<=j/\j<2 ^ 62/\Q (J4 0 j.toNat) τ:=rfl
@[simp] theorem Q8k {Q:List D->Prop}:Q5m we τ Q=we τ fun r=>∃ds,P6 r=some ds/\Q ds:=rfl
@[simp] theorem W6h {Q:List D->Prop}:Z1v we τ Q=we τ fun r=>∃x,r=.st (.str x)/\Q (G3 x):=rfl
@[simp] theorem Q8l {Q:List D->Prop}:Q2p wr τ Q=wr τ fun rs=>∃j:Int,rs=[.st (.int j)]/\-(2 ^ 62)<=j/\j<2 ^ 62/\Q (J4 0 j.toNat):=rfl
@[simp] theorem N9:Q8 (.dat d)=.st d:=rfl
@[simp] theorem V0:Q8 (.own ds)=.bw ds:=rfl
@[simp] theorem W1r:Q8 (.bor ds)=.bw ds:=rfl
@[simp] theorem o_sl1:O1 (.st d)=.dat d:=rfl
@[simp] theorem o_sl2:O1 (.bw ds)=.bor ds:=rfl
@[simp] theorem W1s:Q4h (.st d) Q=Q (.st d):=rfl
@[simp] theorem T2 {P:Sl->Prop}:Q0p (.st d) P=P (.dat d):=rfl
@[simp] theorem W5 {P:Sl->Prop}:Q0p (.nw ds) P=P (.own ds):=rfl
@[simp] theorem Q7z {P:D->Prop}:fzR (.st d) P=P d:=rfl
@[simp] theorem o_bl {b:Bool}:blR (.st (.bl b)) QB=QB b:=rfl
@[simp] theorem Z2s {P:Int->Prop}:Q0y (.st (.int i)) P=P i:=rfl
@[simp] theorem o_d1:R.d (.st d)=some d:=rfl
@[simp] theorem o_d2:R.d (.nw ds)=some (.lst ds):=rfl
@[simp] theorem o_d3:R.d (.bw ds)=some (.lst ds):=rfl
@[simp] theorem o_nrm1:nrm (.st d)=.st d:=rfl
@[simp] theorem o_nrm2:nrm (.nw ds)=.bw ds:=rfl
@[simp] theorem o_nrm3:nrm (.bw ds)=.bw ds:=rfl
@[simp] theorem o_arg1:M4 (.st d)=true:=rfl
@[simp] theorem o_arg2:M4 (.nw ds)=true:=rfl
@[simp] theorem o_arg3:M4 (.bw ds)=true:=rfl
@[simp] theorem W1p:P6 (.st (.lst ds))=some ds:=rfl
@[simp] theorem o_sa0:Z9 []=some []:=rfl
@[simp] theorem o_sa1 {rs:List R}:Z9 (.st d::rs)=(Z9 rs).map (d::·):=rfl
@[simp] theorem o_ty1 {b:Bool}:Q6l (.st (.bl b))=some "bool":=rfl
@[simp] theorem Q0l:F2 (.st (.int i)) (.st (.int j)) Q=Q (.st (.int (i+j))):=rfl
@[simp] theorem W1j:F2 (.st (.str x)) (.st (.str y)) Q=(x.length+y.length<=sizeLine/\Q (.st (.str (x++y)))):=rfl
@[simp] theorem Y0w:F2 (.st (.tup ds)) (.st (.tup es)) Q=(ds.length+es.length<=sizeLine/\Q (.st (.tup (ds++es)))):=rfl
@[simp] theorem W1k:F2 (.nw ds) (.nw es) Q=(ds.length+es.length<=sizeLine/\Q (.nw (ds++es))):=rfl
@[simp] theorem Z2r:F2 (.bw ds) (.nw es) Q=(ds.length+es.length<=sizeLine/\Q (.nw (ds++es))):=rfl
@[simp] theorem Y0x:W3 (.st (.int i)) (.st (.int j)) Q=(Q1e i j/\Q (.st (.int (i*j)))):=rfl
@[simp] theorem Q5z {C:Int->Int->Prop}{f:Int->Int->Int}:TK.J8 C f (.st (.int i)) (.st (.int j)) Q=(C i j/\Q (.st (.int (f i j)))):=rfl
@[simp] theorem Q1a {f:Int->Int->Bool}:S7 f (.st (.int i)) (.st (.int j)) QB=QB (f i j):=rfl
@[simp] theorem Z2t:B4 (.st (.lst ds)) (.st (.int i)) Q=∃d,L3 ds i=some d/\Q (.st d):=rfl
@[simp] theorem W1n:B4 (.nw ds) (.st (.int i)) Q=∃d,L3 ds i=some d/\Q (.st d):=rfl
@[simp] theorem Q8a:B4 (.bw ds) (.st (.int i)) Q=∃d,L3 ds i=some d/\Q (.st d):=rfl
@[simp] theorem Q8b:B4 (.st (.tup ds)) (.st (.int i)) Q=∃d,L3 ds i=some d/\Q (.st d):=rfl
@[simp] theorem o_len1:G2 [.st (.lst ds)] Q=Q (.st (.int ds.length)):=rfl
@[simp] theorem Q1s:G2 [.st (.tup ds)] Q=Q (.st (.int ds.length)):=rfl
@[simp] theorem o_len3:G2 [.nw ds] Q=Q (.st (.int ds.length)):=rfl
@[simp] theorem Q2v:G2 [.bw ds] Q=Q (.st (.int ds.length)):=rfl
@[simp] theorem W1o:G2 [.st (.str x)] Q=(x.length<=sizeLine/\Q (.st (.int x.length))):=rfl
@[simp] theorem Q0m {r1 r2:R}{b:Bool}:K2 n b r1 r2 QB=∃d e,r1.d=some d/\r2.d=some e/\d.depth<=n/\QB (if b then !D.eq d e else D.eq d e):=rfl
@[simp] theorem W1t {lo hi:Option Int}:slD (.st (.tup ds)) lo hi Q=Q (.st (.tup (Y9 ds lo hi))):=rfl
@[simp] theorem Z2u {b:Bool}:Q2c (.st (.bl b)) QB=QB b:=rfl
@[simp] theorem W1q {r:R}:Q2s [r] Q=∃ds,Q3b r=some ds/\Q (.nw ds):=rfl
@[simp] theorem o_e1:D.eq (.int i) (.int j)=(i==j):=by simp [D.eq]
@[simp] theorem o_e2:D.eq (.str x) (.str y)=(x==y):=by simp [D.eq]
@[simp] theorem o_e3 {b c:Bool}:D.eq (.bl b) (.bl c)=(b==c):=by simp [D.eq]
@[simp] theorem o_e4:D.eq (.lst ds) (.lst es)=D.eqs ds es:=by simp [D.eq]
@[simp] theorem o_e5:D.eq (.tup ds) (.tup es)=D.eqs ds es:=by simp [D.eq]
@[simp] theorem o_eN:D.eqs ds []=ds.isEmpty:=by cases ds <;> simp [D.eqs]
@[simp] theorem W1m {r r':R}:(T0 r).rt r'=(r'=r):=rfl
@[simp] theorem o_endn {r:R}:(T0 r).nx τ=(r=.st .non):=rfl
@[simp] theorem o_dep0:D.depth (.int i)=0:=by simp [D.depth]
@[simp] theorem o_dep1:D.depth (.str x)=0:=by simp [D.depth]
@[simp] theorem o_zl:(0:Nat)<=sizeLine:=bb _
@[simp] theorem V0i {N:List Str}{rs:List R}:F6 N rs=rs.map (fun r=>some (O1 r))++List.replicate (N.length-rs.length) none:=rfl
end
section
variable {X:Cx}{ac:Pn9} {σ:St}{H:Hp}{s:Shared}
open PySem.SeqAt
theorem W4r {d1 d2:D}{u1 u2:Value}{A:Around} (h1:Vw X H s d1 u1) (h2:Vw X H s d2 u2) (hu:A.units<cLine) (hb:¬ Q2j d1 d2):RcNeAt A s u1 u2 (!D.eq d1 d2):=by
 cases h1 <;> cases h2 <;> first | exact absurd (.inl ⟨_,_,rfl,rfl⟩) hb | exact absurd (.inr ⟨_,_,rfl,rfl⟩) hb | (unfold D.eq;(try simp only [Bool.not_true,Bool.not_false]);(with_reducible first | exact RcNeAt.none_none | exact RcNeAt.none_bool _ | exact RcNeAt.none_int _ _ | exact RcNeAt.none_str _ _ | exact RcNeAt.none_tuple (by assumption) hu | exact RcNeAt.none_list (by assumption) hu | exact RcNeAt.bool_none _ | exact RcNeAt.bool_bool _ _ | exact RcNeAt.bool_int _ _ _ | exact RcNeAt.bool_str _ _ _ | exact RcNeAt.bool_tuple _ (by assumption) hu | exact RcNeAt.bool_list _ (by assumption) hu | exact RcNeAt.int_none _ _ | exact RcNeAt.int_bool _ _ _ | exact RcNeAt.int_int _ _ _ _ | exact RcNeAt.int_str _ _ _ _ | exact RcNeAt.int_tuple _ _ (by assumption) hu | exact RcNeAt.int_list _ _ (by assumption) hu | exact RcNeAt.str_none _ _ | exact RcNeAt.str_bool _ _ _ | exact RcNeAt.str_int _ _ _ _ | exact RcNeAt.str_str _ _ _ _ | exact RcNeAt.str_tuple _ _ (by assumption) hu | exact RcNeAt.str_list _ _ (by assumption) hu | exact RcNeAt.tuple_none (by assumption) hu | exact RcNeAt.tuple_bool _ (by assumption) hu | exact RcNeAt.tuple_int _ _ (by assumption) hu | exact RcNeAt.tuple_str _ _ (by assumption) hu | exact RcNeAt.tuple_list (by assumption) (by assumption) hu | exact RcNeAt.list_none (by assumption) hu | exact RcNeAt.list_bool _ (by assumption) hu | exact RcNeAt.list_int _ _ (by assumption) hu | exact RcNeAt.list_str _ _ (by assumption) hu | exact RcNeAt.list_tuple (by assumption) (by assumption) hu))
theorem W4q (I:A0 X ac σ H s) (n:Nat) (d1 d2:D) (v1 v2:V) (u1 u2:Value) (A:Around) (hd:d1.depth<=n) (h1:IsW X.K H d1 v1) (h2:IsW X.K H d2 v2) (r1:B8 v1 u1) (r2:B8 v2 u2) (hu:A.units+n+1<cLine):RcNeAt A s u1 u2 (!D.eq d1 d2):=by
 have w1:=Q4n I h1 r1
 have w2:=Q4n I h2 r2
 by_cases hb:Q2j d1 d2
 ·obtain⟨p,q,rfl,rfl⟩ | ⟨p,q,rfl,rfl⟩:=hb
  ·cases w1;cases w2
   rename_i a1 lp fu gr i0 gM a2 ln c8 de e7 cI
   have hd:D.depths p+1<=n:=by unfold D.depth at hd;exact hd
   have l1:fu.toArray.size=p.length:=by have:=gM.length;have:=gr.length;simp;omega
   have l2:c8.toArray.size=q.length:=by have:=cI.length;have:=de.length;simp;omega
   have k:=RcNeAt.tuples (A:=A) (s:=s) (e:=fun i=>match p[i]?,q[i]? with | some x,some y=>D.eq x y | _,_=>true) i0 e7 (by omega) (fun j jo gW=>by
    obtain⟨d1,v1,e1,i1,w1⟩:=Q1i gM gr jo
    obtain⟨d2,v2,e2,i2,w2⟩:=Q1i cI de gW
    simp only [e1,e2]
    exact Q5i I (fun A=>Q8h I n d1 d2 v1 v2 _ _ A (by have:=D.depths_get e1;omega) i1.w i2.w w1 w2) i1 i2 w1 w2 (by simp only [bW];omega))
   rw [l1,l2]at k
   unfold D.eq;rw [D.eqs_range];exact k
  ·cases w1;cases w2
   rename_i a1 lp fu gr i0 gM a2 ln c8 de e7 cI
   have hd:D.depths p+1<=n:=by unfold D.depth at hd;exact hd
   have l1:fu.toArray.size=p.length:=by have:=gM.length;have:=gr.length;simp;omega
   have l2:c8.toArray.size=q.length:=by have:=cI.length;have:=de.length;simp;omega
   have kk:RcNeAt A s (.ref a1) (.ref a2) (!D.eqs p q):=by
    rw [D.eqs_range]
    by_cases bR:p.length=q.length
    ·have k:=RcNeAt.lists (A:=A) (s:=s) (e:=fun i=>match p[i]?,q[i]? with | some x,some y=>D.eq x y | _,_=>true) i0 e7 (by omega) (by omega) (fun j jo gW=>by
      obtain⟨d1,v1,e1,i1,w1⟩:=Q1i gM gr jo
      obtain⟨d2,v2,e2,i2,w2⟩:=Q1i cI de gW
      simp only [e1,e2]
      exact Q5i I (fun A=>Q8h I n d1 d2 v1 v2 _ _ A (by have:=D.depths_get e1;omega) i1.w i2.w w1 w2) i1 i2 w1 w2 (by simp only [bW];omega))
     rw [l1]at k
     rw [<- bR,Nat.min_self,beq_self_eq_true,Bool.and_true]
     exact k
    ·rw [bv.mpr bR,Bool.and_false]
     exact RcNeAt.lists_lengths i0 e7 (by rw [l1,l2];simpa using bR) (by omega)
   unfold D.eq;exact kk
 ·exact W4r w1 w2 (by omega) hb
theorem Q2k {n:Nat} (hu:X.A.units+n+1<cLine):V5 X .NotEq (K2 n true):=by
 intro ac s σ H x y v u Q I rx ry ⟨r1,r2,h1,h2,d,e,e1,e2,hd,q⟩
 exact W4q I n d e x y v u X.A hd (h1.w e1) (h2.w e2) rx ry hu _ _ _ _ ⟨.bl _,H,I,rfl,q⟩
theorem Q0x {A:Around}{k:Nat} (hr:C9 k A):A.units+59+1<cLine:=by have:=hr.units;omega
end
section
variable {X:Cx}{H0:Hp}{a b c e o tg:Expr}{pos apos bq:Pos}{wa wb wc we:WE}{wr:WA}
def Q2i (x y:R) (Q:R->Prop):Prop:=∃i j,P6 x=some i/\P6 y=some j/\i.length+j.length<=sizeLine/\Q (.nw (i++j))
theorem Z6g:X7 Q2i:=fun x y P Q g ⟨i,j,a,b,c,q⟩=>⟨i,j,a,b,c,g _ q⟩
theorem Z9q {K:Fg9}{H:Hp}:∀{r:R}{ds:List D}{v:V},P6 r=some ds->IsV K H r v->∃a xs,v=.ref a/\C6 K H a xs/\AllS K H ds xs:=fun {r ds v} e h=>Q0z (H0:=fun _=>none) e h
theorem Y0z:OpD X (binaryOp .Add) Q2i:=by
 intro ac s σ H x y v u Q I rx ry ⟨r1,r2,h1,h2,i,j,e1,e2,hz,q⟩
 obtain⟨l,xs,rfl,sq,al⟩:=Z9q e1 h1
 obtain⟨b,ys,rfl,oZ,iy⟩:=Z9q e2 h2
 cases rx;cases ry
 obtain⟨aU,rv,pl,_⟩:=I.list sq
 obtain⟨c8,de,e7,_⟩:=I.list oZ
 have la:=al.length
 have lb:=iy.length
 have lr:=rv.length
 have rG:=de.length
 obtain⟨⟨cls,dd,data,sl⟩,ho,hc,n,hd⟩:=id pl.isList
 obtain⟨⟨kL,jH,data2,jB⟩,fJ,iW,n2,iV⟩:=id e7.isList
 simp only at hc hd iW iV
 subst hc hd iW iV
 have e:aU.toArray++c8.toArray=(aU++c8).toArray:=by simp
 refine concat_meets ⟨_,ho,rfl⟩ ⟨_,fJ,rfl⟩ noFill_list_add seq_list_add PySem.F.slot_list_add PySem.F.entry_list_add (PySem.F.args_list_add_2 _ _) (list_addW l b aU.toArray c8.toArray n n2 dd jH sl jB (by simp;omega)) ⟨ho,fJ,?_⟩
 rw [e]
 have fr:=I.fresh
 exact⟨.ref _,_,I.lnew (t':=s.toks) (rv.append de) (by rw [ay];omega),rfl,q _ _ (D7 fr _) ⟨_,xs++ys,rfl,fr,upd_same,(al.mono (Kp.of (D7 fr _)) _ _).append (iy.mono (Kp.of (D7 fr _)) _ _)⟩⟩
noncomputable def Q5l (x y:Str):Option Nat:=(Builtin.Str.occurrences x y 0 x.length 1).head?
def Q4p (wo we:WE):WE:=fun τ Q=>wo τ fun r1=>∃x,r1=.st (.str x)/\we τ fun r=>∃y i,r=.st (.str y)/\Q5l x y=some i/\Q (.st (.int (i:Int)))
theorem W0x:MtR X "str.index" (fun x vs H Q=>∃z y i,x=.str z/\vs=[.str y]/\Q5l z y=some i/\Q (.int (i:Int)) H):=by
 intro ac s σ H x vs v us Q I rx rv ⟨z,y,i,e1,e2,hi,q⟩
 subst e1 e2
 obtain⟨t,rfl⟩:=rx
 obtain⟨u,rfl,t',rfl⟩:=R1 rv
 unfold Q5l at hi
 cases ho:Builtin.Str.occurrences z y 0 z.length 1 with
 | nil=>rw [ho]at hi;cases hi
 | cons j rest =>
  rw [ho]at hi
  have hi:some j=some i:=hi
  cases hi
  exact PySem.SC.index ho ⟨.int _,H,I.tok _,⟨_,rfl⟩,q⟩
theorem DE.index {wo:WE} (ho:DE X H0 o wo) (he:DE X H0 e we) (dM:attributeBase o "index" X.env (eval o X.env)=eval o X.env:=by rfl)
  (fB:((backTo bq (starEach [e] X.env)).all (fun x=>!x.1)&&(backToKw bq (keywordEach [] X.env)).all (fun x=>x.1.isSome)&&decide ([e].length+([]:List Keyword).length+(if ([]:List Keyword).isEmpty then 0 else 1)<30))=true:=by rfl)
  (dL:(apos.endLine==bq.line)=true:=by rfl) (hs:starEach [e] X.env=(false,eval e X.env)::starEach [] X.env:=by rfl) (db:(backTo bq (starEach [] X.env)).any (·.1)=false:=by rfl) :
  DE X H0 (.Call (.Attribute o "index" apos) [e] [] bq) (Q4p wo we) where
 mono:=fun τ P Q f h=>ho.mono τ _ _ (fun r ⟨x,e1,h⟩=>⟨x,e1,he.mono τ _ _ (fun r ⟨y,i,a1,a2,a3⟩=>⟨y,i,a1,a2,f _ a3⟩) h⟩) h
 pe:=M7 (Z2z PySem.F.plainAttrs_str PySem.F.slot_str_index PySem.F.type_str_index W0x ho.pe (Q1b he.pe Q2z hs) dM fB dL hs db) fun σ H Q ⟨τ,hR,h⟩=>⟨τ,hR,ho.mono τ _ _ (fun r ⟨x,e1,h⟩ v H1 s1 ir=>by
  subst e1
  cases (show v=.str x from ir)
  refine⟨rfl,τ,hR.mono s1,he.mono τ _ _ (fun r ⟨y,i,a1,a2,a3⟩ u H2 s2 iu=>?_) h⟩
  subst a1
  cases (show u=.str y from iu)
  exact⟨x,y,i,rfl,rfl,a2,a3 _ _ (s1.trans s2) U7⟩) h⟩
def Q7n (we:WE):WI:=fun τ Q=>we τ fun r=>∃x,r=.st (.str x)/\Q (G3 x) τ
theorem W9k {K:Fg9}{H0 H:Hp}{x:Str}:Yl K H0 (Its x) (G3 x) H where
 go:=fun H' _ _ i hi=>by
  have:i<x.cps.size:=by simpa [G3]using hi
  exact this
 yld:=fun H' _ _ i v cZ d hd ⟨e,c,hc,hv⟩=>by
  subst e hv
  refine⟨A5.refl _,?_⟩
  unfold G3 at hd
  rw [ai]at hd
  have:x.cps.toList[i]?=some c:=by simpa using hc
  rw [this]at hd
  have e:D.str ⟨#[c]⟩=d:=aB hd
  subst e
  exact A1.s_str
 stop:=fun H' _ _=>by
  show(G3 x).length=x.cps.size
  simp [G3]
theorem DI.str (he:DE X H0 e we):DI X H0 tg e (Q7n we) where
 mono:=fun τ P Q f h=>he.mono τ _ _ (fun r ⟨ds,e1,q⟩=>⟨ds,e1,f _ _ q⟩) h
 pi:=by
  intro ac s σ H R I ⟨τ,hR,h⟩
  refine B3 (he.pe ac s σ H (fun v H1=>A5 H H1/\∃x,v=.str x/\∀J H',Kp H H'->B9 X.K H0 τ σ H'->Yl X.K H0 J (G3 x) H'->R J H') I ⟨τ,hR,he.mono τ _ _ (fun r ⟨x,e1,q⟩ v H1 s1 ir=>⟨s1,x,by subst e1;exact ir,q⟩) h⟩) fun u s1 ⟨v,H1,I1,rv,sm,x,e1,q⟩=>?_
  subst e1
  obtain⟨t,rfl⟩:=rv
  have fin:∀(ty:String),(ty="str_ascii_iterator"\/ty="str_iterator")->PIE X ac σ tg R (.ref s1.heap.objs.size) { s1 with heap:=s1.heap.push { cls:=.type ty,data:=.fields #[.str x t,.int 0 0] } }:=fun ty gR=>by
   refine⟨s1.heap.objs.size,[s1.heap.objs.size],_,_,H1,rfl,I1.kept (t':=s1.toks) fun b o e=>aa _ e,Y4f (ty:=ty) (x:=x) (t:=t) gR,⟨_,aw _ rfl,rfl,rfl⟩,fun b hb=>?_,q _ _ (Kp.of sm) (hR.mono sm) W9k⟩
   have e:b=s1.heap.objs.size:=by simpa using hb
   subst e
   exact I1.fpOk (ah _) (I1.hok.fresh (ah _))
  cases ha:x.cps.all (·<128)
  ·exact wpAny_pyIter_wide ha (fin _ (.inr rfl))
  ·exact wpAny_pyIter_ascii ha (fin _ (.inl rfl))
end
def Z7r (ds:List D) (P:D->List D->Prop):Prop:=match ds with
 | []=>False
 | d::r=>P d r
def tupR (d:D) (P:List D->Prop):Prop:=match d with
 | .tup ds=>P ds
 | _=>False
section
variable {τ:A8}{Q:R->Prop}{QB:Bool->Prop}{wa wb wc we:WE}{wr:WA}{n:Nat}{d e:D}{ds es:List D}{i j:Int}{x y:Str}
@[simp] theorem Y2f {Q:List D->A8->Prop}:Q7n we τ Q=we τ fun r=>∃x,r=.st (.str x)/\Q (G3 x) τ:=rfl
@[simp] theorem Y2h:Q4p wa we τ Q=wa τ fun r1=>∃x,r1=.st (.str x)/\we τ fun r=>∃y i,r=.st (.str y)/\Q5l x y=some i/\Q (.st (.int (i:Int))):=rfl
@[simp] theorem Z3k {Q:List D->Prop}:Q3w we τ Q=we τ fun r=>∃ds,r=.st (.tup ds)/\Q ds:=rfl
@[simp] theorem W1l {r r':R}:Q2i r r' Q=∃i j,P6 r=some i/\P6 r'=some j/\i.length+j.length<=sizeLine/\Q (.nw (i++j)):=rfl
@[simp] theorem Z7 {r:R}:O4 [r] Q=∃ds,Q3b r=some ds/\Q (.st (.tup ds)):=rfl
@[simp] theorem o_sq2:Q3b (.nw ds)=some ds:=rfl
@[simp] theorem Y0y:Q3b (.bw ds)=some ds:=rfl
@[simp high] theorem s_gCn2 {g:WG}{gs:WGs}{Q:A8->Prop}:E6 g gs ds τ Q ↔ Z7r ds fun d r=>g d τ fun τ'=>gs r τ' Q:=by
 constructor
 ·rintro ⟨a,b,h,q⟩
  cases h;exact q
 ·intro h
  cases ds with
  | nil=>exact h.elim
  | cons d r=>exact⟨d,r,rfl,h⟩
@[simp high] theorem s_gTp2 {gs:WGs}{Q:A8->Prop}:N7 n gs d τ Q ↔ tupR d fun ds=>ds.length=n/\gs ds τ Q:=by
 constructor
 ·rintro ⟨a,h,q⟩
  cases h;exact q
 ·intro h
  cases d with
  | tup ds=>exact⟨ds,rfl,h⟩
  | _=>exact h.elim
@[simp] theorem V0h {P:D->List D->Prop}:Z7r (d::ds) P=P d ds:=rfl
@[simp] theorem o_tupR {P:List D->Prop}:tupR (.tup ds) P=P ds:=rfl
end
theorem Y8 {we:WE}{f:D->D}{rest:A8}:∀(ds:List D) (o:Option Sl) (Q:List D->Prop),(∀d∈ds,∀Q':R->Prop,Q' (.st (f d))->we (some (.dat d)::rest) Q')->Q (ds.map f)->K7 (B0 0) P9 we ds (o::rest) Q
 | [],o,Q,h,q=>q
 | d::ds,o,Q,h,q=>by
  simp only [K7]
  simp
  refine h d ao _ ⟨_,rfl,?_⟩
  exact Y8 ds _ _ (fun d hd=>h d (av _ hd)) q
end TK
end
section
namespace HT
open PySem PySem.Spec PyProof.Rows
open AutoSeq1 (wpAny_loadPart')
section
variable {prog:Program}{w:World}{A:Around}{E:VS9}{s:Shared}
end
end HT
namespace TK
open PySem PySem.Spec PyProof.Rows L2
section
variable {X:Cx}
end
end TK
end
section
namespace HT
open PySem PySem.Spec PyProof.Rows
section
variable {prog:Program}{w:World}{A:Around}{E:VS9}{s:Shared}
end
end HT
namespace TK
open PySem PySem.Spec PyProof.Rows L2
section
variable {X:Cx}{H0:Hp}{a b c e tg:Expr}{pos p p2 dm:Pos}{wa wb we:WE}{wr:WA}
noncomputable def O7 (ds es:List D):List D:=(ds.zip es).map fun p=>.tup [p.1,p.2]
theorem Z5r {ds es:List D}{i:Nat}{d:D} (h:(O7 ds es)[i]?=some d):∃x y,ds[i]?=some x/\es[i]?=some y/\d=.tup [x,y]:=by
 unfold O7 at h
 rw [ai]at h
 cases e:(ds.zip es)[i]? with
 | none=>rw [e]at h;cases h
 | some q =>
  rw [e]at h
  have h:D.tup [q.1,q.2]=d:=aB h
  rw [bV]at e
  exact⟨q.1,q.2,e.1,e.2,h.symm⟩
theorem Q6q (ds es:List D):(O7 ds es).length=min ds.length es.length:=by simp [O7]
end
end TK
end
section
namespace HT
open PySem PySem.Spec PyProof.Rows L2
section
variable {prog:Program}{w:World}{A:Around}{E:VS9}{s:Shared}
end
end HT
end
section
namespace TK
open PySem PySem.Spec PyProof.Rows L2
theorem Kp.updM {H:Hp}{a:Addr}{old:HO} (h:H a=some old) (nt:∀xs,old≠.tup xs) (nf:∀o u,old≠.frz o u) (o:HO):Kp H (L2.upd H a o) :=
 ⟨fun c ys q=>by rw [B1 (Z5 q h (fun z=>nt _ z.symm))];exact q,fun c ob u q=>by rw [B1 (Z5 q h (fun z=>nf _ _ z.symm))];exact q⟩
theorem B9.mutG {K:Fg9}{H0 H:Hp} {τ:A8} {σ:St}{i:Nat}{s s':Sl}{a:Addr}{old new:HO} (hR:B9 K H0 τ σ H) (e1:τ[i]?=some (some s)) (m:s.mut=true) (hv:σ[i]?=some (some (.ref a))) (h0:H0 a=none)
  (sq:H a=some old) (nt:∀xs,old≠.tup xs) (nf:∀o u,old≠.frz o u) (kZ:N6 K H0 (upd H a new) s' (.ref a)) (ne:∀ φ,old≠.ext φ:=by intro φ z;cases z):B9 K H0 (τ.set i (some s')) σ (upd H a new):=by
 have kp:Kp H (upd H a new):=Kp.updM sq nt nf _
 have hl:i<τ.length:=by
  rcases bE i τ.length with h | h
  ·exact h
  ·rw [aJ.mpr h]at e1;cases e1
 have j8:∀(j:Nat) (t:Sl),(τ.set i (some s'))[j]?=some (some t)->j≠i->τ[j]?=some (some t):=fun j t e hj=>by rw [aG (fun z=>hj z.symm)]at e;exact e
 have fi:∀(j:Nat) (t:Sl),(τ.set i (some s'))[j]?=some (some t)->t.mut=true->∃t',τ[j]?=some (some t')/\t'.mut=true:=fun j t e mm=>by
  by_cases hj:j=i
  ·subst hj;exact⟨_,e1,m⟩
  ·exact⟨t,j8 j t e hj,mm⟩
 refine⟨by rw [bN];exact hR.len,fun b ob hb=>?_,fun j t e=>?_,fun j k t u v cA e2 e3 m1 m2 q1 q2=>?_⟩
 ·rw [B1 (U9 hb h0)];exact hR.same b ob hb
 ·by_cases hj:j=i
  ·subst hj
   rw [Z1 hl]at e;cases e
   exact⟨_,hv,kZ⟩
  ·have e:=j8 j t e hj
   obtain⟨v,q,r⟩:=hR.here j t e
   refine⟨v,q,?_⟩
   have ap:t.mut=true->v≠.ref a:=fun mm z=>by
    subst z
    exact hR.apart i j _ t (.ref a) (fun z=>hj z.symm) e1 e m mm hv q
   cases t with
   | dat d=>exact A1.mono kp _ _ r
   | own es=>obtain⟨b,ys,e,n,q,t⟩:=r;exact⟨b,ys,e,n,by rw [B1 (fun z=>ap rfl (by rw [e,z]))];exact q,t.mono kp _ _⟩
   | bor es=>obtain⟨b,ys,e,q,t⟩:=r;exact⟨b,ys,e,q,t.mono kp _ _⟩
   | bd es=>obtain⟨b,ys,e,q,t⟩:=r;exact⟨b,ys,e,q,t.mono kp _ _⟩
   | dk es=>obtain⟨b,ys,e,n,q,t⟩:=r;exact⟨b,ys,e,n,by rw [B1 (fun z=>ap rfl (by rw [e,z]))];exact q,t.mono kp _ _⟩
   | dt es=>obtain⟨b,ys,e,n,q,t⟩:=r;exact⟨b,ys,e,n,by rw [B1 (fun z=>ap rfl (by rw [e,z]))];exact q,t.mono kp _ _⟩
   | ob _=>exact r
   | cl _ _=>exact⟨r.1,r.2.2 _ _ kp r.2.1,r.2.2⟩
   | ll _ _=>exact⟨r.1,r.2.keep kp fun b φ q=>by rw [B1 (Z5 q sq (fun z=>ne _ z.symm))];exact q⟩
   | ins _ _ _=>obtain⟨e,n,dx,ys,q,t⟩:=r;exact⟨e,n,dx,ys,by rw [B1 (fun z=>ap rfl (by rw [e,z]))];exact q,t.mono kp _ _⟩
 ·obtain⟨s1,na,lK⟩:=fi j t e2 m1
  obtain⟨t1,n9,lJ⟩:=fi k u e3 m2
  exact hR.apart j k s1 t1 v cA na n9 lK lJ q1 q2
noncomputable def P5:D->Option A7
 | .int i=>some (.inl i)
 | .str x=>some (.inr x)
 | _=>none
noncomputable def U8:List D->Option (List A7)
 | []=>some []
 | d::r=>(P5 d).bind fun k=>(U8 r).map (k::·)
theorem Q5o {K:Fg9}{H:Hp}:∀{ds:List D}{ks:List A7}{xs:List V},U8 ds=some ks->AllS K H ds xs->xs=ks.map kV
 | [],ks,xs,h,al=>by cases h;unfold AllS at al;exact al
 | d::r,ks,xs,h,al=>by
  unfold U8 at h
  unfold AllS at al
  obtain⟨v,t,rfl,iv,al⟩:=al
  cases d with
  | int i =>
   cases e:U8 r with
   | none=>rw [e]at h;cases h
   | some k2 =>
    rw [e]at h
    have h:some (Sum.inl i::k2)=some ks:=h
    cases h
    rw [Q5o e al]
    unfold A1 at iv
    rw [iv];rfl
  | str i =>
   cases e:U8 r with
   | none=>rw [e]at h;cases h
   | some k2 =>
    rw [e]at h
    have h:some (Sum.inr i::k2)=some ks:=h
    cases h
    rw [Q5o e al]
    unfold A1 at iv
    rw [iv];rfl
  | non=>cases h
  | bl _=>cases h
  | tup _=>cases h
  | lst _=>cases h
section
variable {κ:Type} [DecidableEq κ]
noncomputable def D5 (kvs:List (κ×D)) (k:κ):Option D:=(kvs.find? fun kv=>decide (kv.1=k)).map (·.2)
noncomputable def M8 (kvs:List (κ×D)) (k:κ) (v:D):List (κ×D):=if (kvs.any fun kv=>decide (kv.1=k))=true then kvs.map (fun kv=>if kv.1=k then(kv.1,v)else kv)else kvs++[(k,v)]
theorem B5.val {K:Fg9}{H:Hp}{k:κ}:∀{kvs:List (κ×D)}{ps:List (κ×V)},B5 K H kvs ps->(D5 kvs k=none/\S4 ps k=none)\/∃d v,D5 kvs k=some d/\S4 ps k=some v/\A1 K H d v
 | [],ps,h=>by unfold B5 at h;subst h;exact .inl ⟨rfl,rfl⟩
 | p::kvs,ps,h=>by
  unfold B5 at h
  obtain⟨v,r,rfl,iv,h⟩:=h
  by_cases e:p.1=k
  ·exact .inr ⟨p.2,v,by simp [D5,b8,e],Q9e e,iv⟩
  ·rw [Q9d (p:=(p.1,v)) e]
   have:D5 (p::kvs) k=D5 kvs k:=by simp [D5,b8,e]
   rw [this]
   exact B5.val h
theorem B5.any {K:Fg9}{H:Hp}{k:κ}:∀{kvs:List (κ×D)}{ps:List (κ×V)},B5 K H kvs ps->(kvs.any fun kv=>decide (kv.1=k))=(ps.any fun kv=>decide (kv.1=k))
 | [],ps,h=>by unfold B5 at h;subst h;rfl
 | p::kvs,ps,h=>by
  unfold B5 at h
  obtain⟨v,r,rfl,iv,h⟩:=h
  rw [cM,cM,B5.any h]
theorem B5.length {K:Fg9}{H:Hp}:∀{kvs:List (κ×D)}{ps:List (κ×V)},B5 K H kvs ps->kvs.length=ps.length
 | [],ps,h=>by unfold B5 at h;subst h;rfl
 | p::kvs,ps,h=>by
  unfold B5 at h
  obtain⟨v,r,rfl,iv,h⟩:=h
  rw [aA,aA,B5.length h]
theorem B5.app {K:Fg9}{H:Hp}{k:κ}{d:D}{v:V} (q:A1 K H d v):∀{kvs:List (κ×D)}{ps:List (κ×V)},B5 K H kvs ps->B5 K H (kvs++[(k,d)]) (ps++[(k,v)])
 | [],ps,h=>by unfold B5 at h;subst h;exact⟨v,[],rfl,q,rfl⟩
 | p::kvs,ps,h=>by
  unfold B5 at h
  obtain⟨v',r,rfl,iv,h⟩:=h
  exact⟨v',_,rfl,iv,B5.app q h⟩
theorem B5.repl {K:Fg9}{H:Hp}{k:κ}{d:D}{v:V} (q:A1 K H d v):∀{kvs:List (κ×D)}{ps:List (κ×V)},B5 K H kvs ps->B5 K H (kvs.map fun kv=>if kv.1=k then(kv.1,d)else kv) (ps.map fun kv=>if kv.1=k then(kv.1,v)else kv)
 | [],ps,h=>by unfold B5 at h;subst h;rfl
 | p::kvs,ps,h=>by
  unfold B5 at h
  obtain⟨v',r,rfl,iv,h⟩:=h
  have ih:=B5.repl (k:=k) q h
  by_cases e:p.1=k
  ·simp only [ak,e,if_true]
   exact⟨v,_,rfl,q,ih⟩
  ·simp only [ak,e,dh]
   exact⟨v',_,rfl,iv,ih⟩
theorem B5.put {K:Fg9}{H:Hp}{k:κ}{d:D}{v:V} (q:A1 K H d v) {kvs:List (κ×D)}{ps:List (κ×V)} (h:B5 K H kvs ps):B5 K H (M8 kvs k d) (O0 ps k v):=by
 unfold M8 O0
 rw [B5.any h]
 split
 ·exact B5.repl (k:=k) q h
 ·exact B5.app q h
end
section
variable {X:Cx}{H0:Hp}{a b c e o tg:Expr}{pos bI p2 apos bq:Pos}{wa wb wi we:WE}{x:Str}
def Z4j (i:Nat):WS:=fun E τ=>E.nx (τ.set i (some (.dt [])))
theorem DS.dnew {i:Nat} (hN:X.N.Nodup) (hi:X.N[i]?=some x) (hx:Loc X.env.scope x) (hs:swapsWith (.Dict [] [] p2) (some (.Name x bI)) pos.line X.env=pure false:=by rfl)
  (hf:X.fn x=true\/X.env.scope.names.lookup x=some .local:=by first | exact .inl rfl | exact .inr rfl | assumption):DS X H0 (.Assign [.Name x bI] (.Dict [] [] p2) pos) (Z4j i) where
 mono:=fun τ E F le h=>le.nx _ h
 ps:=Q3 (Q4g hN hi hx W2x hs hf) fun D σ H ⟨τ,hR,h⟩ p hp=>by
  have sm:A5 H (upd H p (.dT [])):=D7 hp _
  refine h _ _ (Kp.of sm) ((hR.mono sm).set (s:=.dt []) ⟨p,[],rfl,hR.same.free hp,upd_same,rfl⟩ fun _ j t hj e m q=>?_)
  obtain⟨o,ho⟩:=hR.tracked e m q
  rw [hp]at ho;cases ho
theorem B9.dtAt {K:Fg9}{H:Hp} {τ:A8} {σ:St}{i:Nat}{kvs:List (List A7×D)} (hR:B9 K H0 τ σ H) (e1:τ[i]?=some (some (.dt kvs))):∃a ps,σ[i]?=some (some (.ref a))/\H0 a=none/\H a=some (.dT ps)/\B5 K H kvs ps:=by
 obtain⟨v,hv,a,xs,rfl,h0,sq,al⟩:=hR.here i _ e1
 exact⟨a,xs,hv,h0,sq,al⟩
def Q9k (i:Nat) (we:WE):WE:=fun τ Q=>∃kvs,τ[i]?=some (some (.dt kvs))/\we τ fun r=>∃ds ks d,r=.st (.tup ds)/\U8 ds=some ks/\D5 kvs ks=some d/\Q (.st d)
theorem DE.dgetT {i:Nat} (hu:X.A.units+1<cLine) (ho:PE X o (O3 i)) (he:DE X H0 e we) (hs:Q2g e):DE X H0 (.Subscript o e pos) (Q9k i we) where
 mono:=fun τ P Q f ⟨kvs,e1,h⟩=>⟨kvs,e1,he.mono τ _ _ (fun r ⟨ds,ks,d,a1,a2,a3,a4⟩=>⟨ds,ks,d,a1,a2,a3,f _ a4⟩) h⟩
 pe:=M7 (Q6b hu ho he.pe hs) fun σ H Q ⟨τ,hR,kvs,e1,h⟩=>by
  obtain⟨a,ps,hv,h0,sq,kv⟩:=hR.dtAt e1
  refine⟨_,hv,τ,hR,he.mono τ _ _ (fun r ⟨ds,ks,d,a1,a2,a3,a4⟩ v H1 s1 ir=>?_) h⟩
  subst a1
  have ir:A1 X.K H1 (.tup ds) v:=ir
  unfold A1 at ir
  obtain⟨b,xs,rfl,sb,al⟩:=ir
  rw [Q5o a2 al]at sb
  rcases B5.val (k:=ks) (kv.mono (Kp.of s1) _ _)with⟨n1,_⟩ | ⟨d',v',n1,n2,n3⟩
  ·rw [a3]at n1;cases n1
  ·rw [a3]at n1;cases n1
   refine⟨a,v',rfl,?_,a4 _ _ s1 n3⟩
   have g:=V6.t (s1 _ _ sq) sb
   rw [n2]at g
   exact g
def Q4o (i:Nat) (we wv:WE):WS:=fun E τ=>wv τ fun r=>∃d,r=.st d/\∃kvs,τ[i]?=some (some (.dt kvs))/\we τ fun rk=>∃ds ks,rk=.st (.tup ds)/\U8 ds=some ks/\kvs.length<sizeLine/\E.nx (τ.set i (some (.dt (M8 kvs ks d))))
theorem DS.dput {i:Nat}{v:Expr}{wv:WE} (hu:X.A.units+1<cLine) (ho:PE X o (O3 i)) (he:DE X H0 e we) (hv:DE X H0 v wv) (hs:swapsWith v (some (.Subscript o e bI)) pos.line X.env=pure false:=by rfl) :
  DS X H0 (.Assign [.Subscript o e bI] v pos) (Q4o i we wv) where
 mono:=fun τ E F le h=>hv.mono τ _ _ (fun r ⟨d,e1,kvs,e2,h⟩=>⟨d,e1,kvs,e2,he.mono τ _ _ (fun r ⟨ds,ks,a1,a2,a3,a4⟩=>⟨ds,ks,a1,a2,a3,le.nx _ a4⟩) h⟩) h
 ps:=Q3 (Y1k hu ho he.pe hv.pe hs) fun D σ H ⟨τ,hR,h⟩=>by
  refine⟨τ,hR,hv.mono τ _ _ (fun r ⟨d,e1,kvs,e2,h⟩ u H1 s1 ir=>?_) h⟩
  subst e1
  have eh:=hR.mono s1
  obtain⟨a,ps,gx,h0,sq,kv⟩:=eh.dtAt e2
  refine⟨_,gx,τ,eh,he.mono τ _ _ (fun rk ⟨ds,ks,a1,a2,a3,a4⟩ y H2 s2 ik=>?_) h⟩
  subst a1
  have ik:A1 X.K H2 (.tup ds) y:=ik
  unfold A1 at ik
  obtain⟨b,xs,rfl,sb,al⟩:=ik
  rw [Q5o a2 al]at sb
  have cT:=s2 _ _ sq
  have gQ:=kv.mono (Kp.of s2) _ _
  refine⟨a,_,rfl,Q1f.t cT sb (by rw [<- B5.length gQ];exact a3),?_⟩
  have kp:Kp H2 (upd H2 a (.dT (O0 ps ks u))):=Kp.updM cT (by intro xs z;cases z) (by intro o u z;cases z) _
  have iv:A1 X.K H2 d u:=A1.mono (Kp.of s2) _ _ ir
  refine a4 σ _ ((Kp.of (s1.trans s2)).trans kp) ((eh.mono s2).mutG e2 rfl gx h0 cT (by intro xs z;cases z) (by intro o u z;cases z) ⟨a,_,rfl,h0,upd_same,?_⟩)
  exact B5.mono kp _ _ (B5.put iv gQ)
end
section
variable {τ:A8}{E:F4}{Q:R->Prop}{QB:Bool->Prop}{wa wb wc we:WE}{wr:WA}{n:Nat}{d e:D}{ds es:List D}{i j:Int}{x y:Str}
@[simp] theorem Y2a:Z4j n E τ=E.nx (τ.set n (some (.dt []))):=rfl
@[simp] theorem W6a:Q9k n we τ Q=∃kvs,τ[n]?=some (some (.dt kvs))/\we τ fun r=>∃ds ks d,r=.st (.tup ds)/\U8 ds=some ks/\D5 kvs ks=some d/\Q (.st d):=rfl
@[simp] theorem Y2b:Q4o n wa wb E τ=wb τ fun r=>∃d,r=.st d/\∃kvs,τ[n]?=some (some (.dt kvs))/\wa τ fun rk=>∃ds ks,rk=.st (.tup ds)/\U8 ds=some ks/\kvs.length<sizeLine/\E.nx (τ.set n (some (.dt (M8 kvs ks d)))):=rfl
end
theorem Z1c {we:WE}{f:D->D->D}{rest:A8}:∀(ps:List (D×D)) (o1 o2:Option Sl) (Q:List D->Prop),(∀p∈ps,∀Q':R->Prop,Q' (.st (f p.1 p.2))->we (some (.dat p.1)::some (.dat p.2)::rest) Q') ->
  Q (ps.map fun p=>f p.1 p.2)->K7 (N7 2 (E6 (B0 0) (E6 (B0 1) O2))) P9 we (ps.map fun p=>.tup [p.1,p.2]) (o1::o2::rest) Q
 | [],o1,o2,Q,h,q=>q
 | p::ps,o1,o2,Q,h,q=>by
  simp only [ak,K7]
  simp
  refine h p ao _ ⟨_,rfl,?_⟩
  exact Z1c ps _ _ _ (fun p hp=>h p (av _ hp)) q
theorem W9h {K:Fg9}{H0 H:Hp}{l:Addr}{xs:List V}{ds:List D} (hq:∀H',Kp H H'->A5 H0 H'->C6 K H' l xs) (al:AllS K H ds xs):Yl K H0 (Iel K l) (G1 ds) H where
 go:=fun H' k s i hi=>by
  rw [Q1m]at hi
  exact⟨xs,xs[i]'(by rw [<- al.length];exact hi),hq H' k s,ae _⟩
 yld:=fun H' k s i v cZ d hd ⟨T,x,hx,hT,hv,hH⟩=>by
  subst hH hv
  refine⟨D7 hT _,?_⟩
  obtain⟨y,hy,rfl⟩:=Q7l hd
  obtain⟨v,hv,q⟩:=al.get hy
  rw [hx xs (hq H' k s)]at hv;cases hv
  exact A1.s_tup upd_same (AllS.cons A1.s_int (AllS.cons (q.mono (k.trans (Kp.of (D7 hT _))) _ _) AllS.nil))
 stop:=fun H' k s=>⟨xs,hq H' k s,by rw [Q1m];exact al.length.symm⟩
section
variable {X:Cx}{H0:Hp}{a:Expr}{p pos:Pos}{wr:WA}
def Z1o (wr:WA):WI:=fun τ Q=>wr τ fun rs=>∃ds,rs=[.st (.lst ds)]/\Q (G1 ds) τ
theorem DI.enumF {cK:List Expr}{kk:Nat}{pt:Pos} (hg:Gl X "enumerate") (hm:X.mg "enumerate"=none) (hv:bootBuiltins "enumerate"=some (.type "enumerate")) (ha:DA X H0 [a] wr) (he:starEach [a] X.env=(false,eval a X.env)::starEach [] X.env:=by rfl) (hpl:(backTo pos (starEach [] X.env)).any (·.1)=false:=by rfl) :
  DI X H0 (.Tuple cK kk pt) (.Call (.Name "enumerate" p) [a] [] pos) (Z1o wr) where
 mono:=fun τ P Q f h=>ha.mono τ _ _ (fun r ⟨ds,e1,q⟩=>⟨ds,e1,f _ _ q⟩) h
 pi:=by
  intro ac s σ H R I ⟨τ,hR,h⟩
  refine bh (X5 I hg hm hv ?_ (by decide) (by decide))
  refine b7 (B3 (ha.pa pos ac s σ H (fun vs H1=>A5 H H1/\∃l xs ds,vs=[.ref l]/\FzL X.K H1 l xs/\AllS X.K H1 ds xs/\∀J H',Kp H H'->B9 X.K H0 τ σ H'->Yl X.K H0 J (G1 ds) H'->R J H') I
   ⟨τ,hR,ha.mono τ _ _ (fun rs ⟨ds,e1,q⟩ vs H1 s1 ck=>⟨s1,by
    subst e1
    obtain⟨v,rfl,ir⟩:=T5 ck
    have ir:A1 X.K H1 (.lst ds) v:=ir
    unfold A1 at ir
    obtain⟨l,xs,rfl,sq,al⟩:=ir
    exact⟨l,xs,ds,rfl,sq,al,q⟩⟩) h⟩) fun us s1 ⟨vs,H1,I1,rv,sm,l,xs,ds,e1,sq,al,q⟩=>?_) he hpl
  subst e1
  have big:∀b∈[s1.heap.objs.size+1,s1.heap.objs.size],K1 X ac H1 b:=fun b hb=>by
   have hb:s1.heap.objs.size<=b:=by
    rcases aj.mp hb with rfl | hb
    ·exact cw _
    ·have e:b=s1.heap.objs.size:=by simpa using hb
     rw [e];exact ah _
   exact I1.fpOk hb (I1.hok.fresh hb)
  obtain⟨u,rfl,ru⟩:=R1 rv
  cases (show u=Value.ref l from ru)
  obtain⟨aU,gN,pl,fV⟩:=I1.list sq.sq
  obtain⟨o,n,ho,_⟩:=id pl
  have hl:l<s1.heap.objs.size:=au ho
  refine call_enumerate_list pl.isList fun h' he hi hz k=>?_
  refine cn he ⟨s1.heap.objs.size+1,[s1.heap.objs.size+1,s1.heap.objs.size],_,_,H1,rfl,I1.kept (t':=s1.toks) k,Y4b (l:=l) (g9 _) (az (bx hl)) (az hl),⟨⟨_,he⟩,hi⟩,big,q _ _ (Kp.of sm) (hR.mono sm) (W9h (xs:=xs) (fun H' k _=>(k.fzL sq).sq) al)⟩
end
section
variable {τ:A8}{wr:WA}{QB:Bool->Prop}
@[simp] theorem W6e {Q:List D->A8->Prop}:Z1o wr τ Q=wr τ fun rs=>∃ds,rs=[.st (.lst ds)]/\Q (G1 ds) τ:=rfl
end
end TK
end
section
namespace L2
open PySem PySem.Spec PyProof.Rows
variable {X:Cx}{CX:CXT}{k i:Nat}{f:Addr}{fd:FuncData}{ps:List Str}{sp:Sp}{ds:List Value}{dvs:List V}{E:XK}{x:Str}{e:Expr}{es:List Expr}{t:TA}{p pos:Pos}
end L2
namespace TK
open PySem PySem.Spec PyProof.Rows L2
section
variable {X:Cx}{H0:Hp}{e:Expr}{es:List Expr}{wr:WA}{k i:Nat}{f:Addr}{fd:FuncData}{ps:List Str}{sp:D6}{x:Str}{p pos:Pos}
end
end TK
end
section
namespace L2
open PySem PySem.Spec PyProof.Rows
theorem Y5v {pos:Pos}{a b:Int}{c cv:Value} (l:List Value) (t:TriplesOk l) (h:codeAmong pos (l++[rawInt a,rawInt b,c])=some cv):codeAmong pos l=some cv\/cv=c:=by
 fun_induction TriplesOk l with
 | case1 =>
  right
  have h:(if (a==(pos.line:Int)&&b==(pos.col:Int))=true then some c else codeAmong pos [])=some cv:=h
  split at h
  ·exact(aB h).symm
  ·cases h
 | case2 i ti j tj x rest ih =>
  have h:(if (i==(pos.line:Int)&&j==(pos.col:Int))=true then some x else codeAmong pos (rest++[rawInt a,rawInt b,c]))=some cv:=h
  show(if (i==(pos.line:Int)&&j==(pos.col:Int))=true then some x else codeAmong pos rest)=some cv\/_
  split at h
  ·rename_i hc;rw [aE hc];exact .inl h
  ·rename_i hc;rw [aC hc];exact ih t h
 | case3=>exact t.elim
noncomputable def V8:HO:=.ext fun _=>True
theorem Q6z {P:Program}{w:World}{H:Hp}{h:Heap}{a:Addr}{o:Obj} (e:h.get? a=some o):F1 P w H h a (.frz o V8):=⟨e,trivial,⟨o,e⟩,fun _ _ _ _=>trivial⟩
def Q0q (mg:Str->Option Value) (base:Heap):Prop:=∃bm ob,mg "__builtins__"=some (.ref bm)/\bm≠builtinsNs/\base.get? bm=some ob/\ob.cls=.type "module"/\ob.dict=some builtinsNs/\ob.data=.plain
noncomputable abbrev Q0h (X:Cx) (params:Arguments) (body:Expr) (sc:Scope) (clos:List (Str×Addr)) (c':Addr) (ctv:Value):Obj :=
 PySem.W.kla_obj "<lambda>" (X.env.qual++"<lambda>") params body sc clos ((X.mg "__name__").getD .none) c' ctv
def tLam (P:Addr) (ob:Addr->Value->Obj):TE:=fun _ H Q=>∀f c' oc ctv H',A5 H H'->Q6r oc->H f=none->H' c'=some (.frz oc (.own P))->H' f=some (.frz (ob c' ctv) V8)->(∀b,H' b≠none->H b=none->b=f\/b=c')->Q (.ref f) H'
section
variable {X:Cx}{params:Arguments}{body:Expr}{sc:Scope}{pos:Pos}{c P:Addr}{clos:List (Str×Addr)}
theorem W3b (hB:Q0q X.mg X.base) (fK:X.env.code=.ref c) (hC:PySem.W.codeHdIn X.K c P=true) (l7:closureFor sc X.env=pure clos) (hd:defaultsOf params X.env=([],[]):=by rfl) :
  PE X (.Lambda params body sc pos) (fun σ H Q=>H P=some .tab/\tLam P (fun c' ctv=>Q0h X params body sc clos c' ctv) σ H Q):=by
 intro ac s σ H Q I ⟨hP,h⟩
 refine PySem.W.kla_eval hd ?_
 have js:s.heap.Ns mainGlobals X.mg:=I.mod.glob.keeps I.bk
 have C:=PySem.W.codeHd_of_K I.kIn hC
 obtain⟨ps,eP,ht,en⟩:=(show F1 X.prog X.w H s.heap P .tab from I.hok P _ hP)
 obtain⟨bm,ob,b1,b2,b3,b4,b5,b6⟩:=hB
 have bH:∀b o,X.base.get? b=some o->b≠P:=fun b o e z=>by
  have:=(I.bs b o e).2
  rw [z,hP]at this;cases this
 have qx:mainGlobals≠P:=by
  obtain⟨o,es,ep,e,hd,_⟩:=I.mod.glob
  exact bH _ _ e
 have i4:bm≠mainGlobals:=fun same=>by
  obtain⟨go,_,_,ge,gd,_⟩:=I.mod.glob
  rw [same,ge]at b3
  cases b3
  rw [gd]at b6
  cases b6
 have nV:s.heap.BuiltinsAt X.mg P:=⟨bm,ob,b1,b2,i4,bH _ _ b3,I.bk _ _ b3,b4,b5,b6⟩
 cases hf:codeAmong pos ps.toList with
 | some cv =>
  obtain⟨c',oc,rfl,dR,fP⟩:=en pos cv hf
  refine PySem.W.kla_makeFunctionHit (mg:=X.mg) l7 I.ok.glob js fK C eP ht hf nV fun ctv h' tk hk hsz=>?_
  have nS:H h'.objs.size=none:=I.hok.fresh hsz
  have ne:∀b u,H b=some u->b≠h'.objs.size:=fun b u e z=>by rw [z,nS]at e;cases e
  have kp:∀b o,s.heap.get? b=some o->(h'.push (Q0h X params body sc clos c' ctv)).get? b=some o:=fun b o e=>aa _ (hk b o e)
  have lt:∀b o,s.heap.get? b=some o->b≠h'.objs.size:=fun b o e=>az (ax (au e) hsz)
  refine⟨.ref h'.objs.size,upd H h'.objs.size (.frz (Q0h X params body sc clos c' ctv) V8),I.un (t':=tk) ⟨fun b o e _ _ _=>kp b o e,fun b o e _ _ _=>⟨o.slots,kp b o e⟩,fun b o e n _=>by rw [B1 (lt b o e)];exact n,fun b o e _=>⟨o,kp b o e⟩,
   fun b xs e=>by rw [B1 (ne b _ e)];exact e,fun b o u e=>by rw [B1 (ne b _ e)];exact e,fun b ps e=>⟨#[],by rw [B1 (ne b _ e),e];simp⟩⟩ ?_,rfl,?_⟩
  ·refine F5.laid (h:=s.heap) I.hok kp hsz (Q6z (aw _ rfl))
  ·exact h _ c' oc ctv _ (fun b u e=>by rw [B1 (ne b _ e)];exact e) fP nS (by rw [B1 (ne _ _ dR)];exact dR) upd_same fun b n1 n2=>by
    by_cases hb:b=h'.objs.size
    ·exact .inl hb
    ·rw [B1 hb]at n1;exact absurd n2 n1
 | none =>
  refine PySem.W.kla_makeFunction (mg:=X.mg) l7 I.ok.glob js fK C eP ht hf qx nV fun c' ctv h' tk hx eB bY m7 nJ=>?_
  obtain⟨c₂,oc,vs,tq,e2,fP,nT,hv⟩:=m7
  cases e2
  have kA:H c'=none:=I.hok.fresh eB
  have iT:H h'.objs.size=none:=I.hok.fresh (aT eB (cD bY))
  have qF:c'≠h'.objs.size:=az bY
  have rS:P≠c':=fun z=>by rw [<- z,hP]at kA;cases kA
  have rR:P≠h'.objs.size:=fun z=>by rw [<- z,hP]at iT;cases iT
  have pO:∀b o,s.heap.get? b=some o->b≠c':=fun b o e=>az (ax (au e) eB)
  have pN:∀b o,s.heap.get? b=some o->b≠h'.objs.size:=fun b o e=>az (ax (au e) (aT eB (cD bY)))
  have pH:∀b u,H b=some u->b≠c':=fun b u e z=>by rw [z,kA]at e;cases e
  have pG:∀b u,H b=some u->b≠h'.objs.size:=fun b u e z=>by rw [z,iT]at e;cases e
  have hH:∀b,b≠c'->b≠h'.objs.size->upd (upd H c' (.frz oc (.own P))) h'.objs.size (.frz (Q0h X params body sc clos c' ctv) V8) b=H b:=fun b n1 n2=>by rw [B1 n2,B1 n1]
  have mS:upd (upd H c' (.frz oc (.own P))) h'.objs.size (.frz (Q0h X params body sc clos c' ctv) V8) c'=some (.frz oc (.own P)):=by rw [B1 qF,upd_same]
  have kp:∀b o,b≠P->s.heap.get? b=some o->(h'.push (Q0h X params body sc clos c' ctv)).get? b=some o:=fun b o n e=>aa _ (hx b o n e)
  have nP:∀b,H b=none->b≠P:=fun b n z=>by rw [z,hP]at n;cases n
  have sm:A5 H (upd (upd H c' (.frz oc (.own P))) h'.objs.size (.frz (Q0h X params body sc clos c' ctv) V8)):=fun b u e=>by rw [hH b (pH b u e) (pG b u e)];exact e
  refine⟨.ref h'.objs.size,upd (upd H c' (.frz oc (.own P))) h'.objs.size (.frz (Q0h X params body sc clos c' ctv) V8),I.un (t':=tk) ⟨fun b o e n _ _=>kp b o (nP b n) e,fun b o e n _ _=>⟨o.slots,kp b o (nP b n) e⟩,fun b o e n _=>by rw [hH b (pO b o e) (pN b o e)];exact n,fun b o e _=>?_,
   fun b xs e=>sm _ _ e,fun b o u e=>sm _ _ e,fun b ps e=>⟨#[],by rw [sm _ _ e];simp⟩⟩ ?_,rfl,?_⟩
  ·by_cases hb:b=P
   ·exact⟨_,aa _ (hb ▸ nJ)⟩
   ·exact⟨o,kp b o hb e⟩
  ·intro b u e
   by_cases nW:b=h'.objs.size
   ·subst nW;rw [upd_same]at e;cases e
    exact Q6z (aw _ rfl)
   by_cases hbc:b=c'
   ·subst hbc;rw [mS]at e;cases e
    exact⟨aa _ fP,⟨_,aa _ fP⟩⟩
   rw [hH b hbc nW]at e
   by_cases hbP:b=P
   ·subst hbP;rw [hP]at e;cases e
    refine⟨_,aa _ nJ,?_,fun bI cv q=>?_⟩
    ·have:=TriplesOk_snoc (pos.line:Int) (pos.col:Int) (.ref c') ps.toList ht
     simpa using this
    ·have q:codeAmong bI (ps.toList++[rawInt (pos.line:Int),rawInt (pos.col:Int),.ref c'])=some cv:=by simpa using q
     rcases Y5v _ ht q with q | q
     ·obtain⟨c2,o2,e1,e2,e3⟩:=en bI cv q
      exact⟨c2,o2,e1,sm _ _ e2,e3⟩
     ·exact⟨c',oc,q,mS,⟨vs,_,tq,nT,hv⟩⟩
   ·refine(I.hok b u e).stay (fun d v hc q=>kp d v ?_ q) (fun d v _ q=>sm _ _ q) fun d xs q=>sm _ _ q
    rcases hc with z | z
    ·rw [z];exact hbP
    ·intro z2
     rw [z2,hP]at z;cases z
  ·exact h _ c' oc ctv _ sm ⟨vs,_,tq,nT,hv⟩ iT mS upd_same fun b n1 n2=>by
    by_cases hb:b=h'.objs.size
    ·exact .inl hb
    by_cases hb2:b=c'
    ·exact .inr hb2
    ·rw [hH b hb2 hb]at n1;exact absurd n2 n1
end
end L2
end
section
namespace L2
open PySem PySem.Spec PyProof.Rows
structure N2 where
 name:Str
 addr:Addr
 obj:Obj
 val:V
 slot:TK.Sl
noncomputable def K3 (S:List Addr) (H:Hp):Hp:=fun b=>if b∈S then none else H b
theorem Q5k {S:List Addr}{H:Hp}{b:Addr} (h:b∈S):K3 S H b=none:=aE h
theorem Q0d {S:List Addr}{H:Hp}{b:Addr} (h:b∉S):K3 S H b=H b:=aC h
theorem Y7w {S:List Addr}{H:Hp}{b:Addr}{u:HO} (h:K3 S H b=some u):b∉S/\H b=some u:=by
 by_cases hb:b∈S
 ·rw [Q5k hb]at h;cases h
 ·exact⟨hb,by rw [Q0d hb]at h;exact h⟩
noncomputable def showS (S:List Addr) (H H':Hp):Hp:=fun b=>if b∈S then H b else H' b
theorem Y3p {S:List Addr}{H H':Hp}{b:Addr} (h:b∈S):showS S H H' b=H b:=aE h
theorem Q8n {S:List Addr}{H H':Hp}{b:Addr} (h:b∉S):showS S H H' b=H' b:=aC h
def S6 (S:List Addr) (H:Hp):Prop:=∀c∈S,∃o u,H c=some (.frz o V8)/\o.data=.cell u
section
variable {P:Program}{w:World}{S:List Addr}{H H':Hp}{h h':Heap}
theorem S6.out (hS:S6 S H) {b:Addr}{u:HO} (e:H b=some u) (n:∀o,u≠.frz o V8):b∉S:=fun hb=>by
 obtain⟨o,_,q,_⟩:=hS b hb
 rw [e]at q;exact n o (aB q)
theorem S6.tup (hS:S6 S H) {b:Addr}{xs:List V} (e:H b=some (.tup xs)):K3 S H b=some (.tup xs):=by
 rw [Q0d (hS.out e (by intro o z;cases z))];exact e
theorem S6.own (hS:S6 S H) {a b:Addr}{u:HO} (ow:Q6t a u) (e:H b=some u):K3 S H b=some u:=by
 rw [Q0d (hS.out e (by
  intro o z
  rcases ow with rfl | ⟨o',rfl⟩
  ·cases z
  ·injection z with _ z;cases z))]
 exact e
theorem F5.hid (x:F5 P w H h) (hS:S6 S H) (k:∀b u,h.get? b=some u->h'.get? b=some u):F5 P w (K3 S H) h':=fun b u e=>by
 obtain⟨hb,e⟩:=Y7w e
 exact(x b u e).stay (fun c v _ q=>k c v q) (fun c v ow q=>hS.own ow q) fun c xs q=>hS.tup q
end
end L2
namespace TK
open PySem PySem.Spec PyProof.Rows L2
def Z0a (Φ:Hp->Prop):Prop:=∀(S:List Addr) (H:Hp),S6 S H->Φ H->Φ (K3 S H)
mutual
theorem A1.hid {K:Fg9}{S:List Addr}{H:Hp} (hS:S6 S H):∀(d:D) (v:V),A1 K H d v->A1 K (K3 S H) d v
 | .non,v,h=>by unfold A1 at h ⊢;exact h
 | .bl _,v,h=>by unfold A1 at h ⊢;exact h
 | .int _,v,h=>by unfold A1 at h ⊢;exact h
 | .str _,v,h=>by unfold A1 at h ⊢;exact h
 | .tup ds,v,h=>by
  unfold A1 at h ⊢
  obtain⟨a,xs,e,q,t⟩:=h
  exact⟨a,xs,e,hS.tup q,AllS.hid hS ds xs t⟩
 | .lst ds,v,h=>by
  unfold A1 at h ⊢
  obtain⟨a,xs,e,q,t⟩:=h
  refine⟨a,xs,e,?_,AllS.hid hS ds xs t⟩
  rcases q with⟨o,q⟩ | q
  ·exact .inl ⟨o,by rw [Q0d (hS.out q (by intro o z;injection z with _ z;cases z))];exact q⟩
  ·exact .inr q
theorem AllS.hid {K:Fg9}{S:List Addr}{H:Hp} (hS:S6 S H):∀(ds:List D) (xs:List V),AllS K H ds xs->AllS K (K3 S H) ds xs
 | [],xs,h=>by unfold AllS at h ⊢;exact h
 | d::ds,xs,h=>by
  unfold AllS at h ⊢
  obtain⟨v,r,e,q,t⟩:=h
  exact⟨v,r,e,A1.hid hS d v q,AllS.hid hS ds r t⟩
end
noncomputable def Q2e (K:Fg9) (H:Hp):Sl->V->Prop
 | .dat d,v=>A1 K H d v
 | .cl a Φ,v=>v=.ref a/\Φ H/\Q2f Φ/\Z0a Φ
 | _,_=>False
theorem Q2e.mono {K:Fg9}{H H':Hp} (k:Kp H H'):∀{s:Sl}{v:V},Q2e K H s v->Q2e K H' s v
 | .dat d,v,h=>A1.mono k d v h
 | .cl a Φ,v,h=>⟨h.1,h.2.2.1 _ _ k h.2.1,h.2.2⟩
 | .own _,_,h=>h.elim
 | .bor _,_,h=>h.elim
 | .bd _,_,h=>h.elim
 | .dk _,_,h=>h.elim
 | .dt _,_,h=>h.elim
 | .ob _,_,h=>h.elim
 | .ins _ _ _,_,h=>h.elim
 | .ll _ _,_,h=>h.elim
theorem Q2e.slot {K:Fg9}{S:List Addr}{H:Hp} (hS:S6 S H):∀{s:Sl}{v:V},Q2e K H s v->N6 K (K3 S H) (K3 S H) s v/\s.mut=false
 | .dat d,v,h=>⟨A1.hid hS d v h,rfl⟩
 | .cl a Φ,v,h=>⟨⟨h.1,h.2.2.2 _ _ hS h.2.1,h.2.2.1⟩,rfl⟩
 | .own _,_,h=>h.elim
 | .bor _,_,h=>h.elim
 | .bd _,_,h=>h.elim
 | .dk _,_,h=>h.elim
 | .dt _,_,h=>h.elim
 | .ob _,_,h=>h.elim
 | .ins _ _ _,_,h=>h.elim
 | .ll _ _,_,h=>h.elim
structure Z5s (K:Fg9) (H:Hp) (p:N2):Prop where
 at_:H p.addr=some (.frz p.obj V8)
 cell:∃u,p.obj.data=.cell (some u)/\B8 p.val u
 rel:Q2e K H p.slot p.val
def Q4y (K:Fg9) (caps:List N2) (f c':Addr) (fo:Obj) (H:Hp):Prop :=
 H f=some (.frz fo V8)/\(∃oc Pt,H c'=some (.frz oc (.own Pt))/\Q6r oc)/\∀p∈caps,Z5s K H p
theorem Q4y.mono {K:Fg9}{caps:List N2}{f c':Addr}{fo:Obj}:Q2f (Q4y K caps f c' fo):=fun H H' k ⟨h1,⟨oc,Pt,h2,h3⟩,h4⟩ =>
 ⟨k.frz _ _ _ h1,⟨oc,Pt,k.frz _ _ _ h2,h3⟩,fun p hp=>⟨k.frz _ _ _ (h4 p hp).at_,(h4 p hp).cell,(h4 p hp).rel.mono k⟩⟩
noncomputable def Q5t (K:Fg9) (n:Nat) (Φ:Hp->Prop) (sp:D6):Sp:=fun vs H Q _=>∃(rs:List R) (r:R),rs.length=n/\K5 K (fun _=>none) H rs vs/\rs.all M4=true/\Φ H/\sp (rs.map nrm) r/\∀v H',A5 H H'->D9 K H H' r v->Q v H'
end TK
namespace L2
open PySem PySem.Spec PyProof.Rows TK
noncomputable abbrev T6 (caps:List N2):List (Str×Addr):=caps.map fun p=>(p.name,p.addr)
structure Z0b (ps fr:List Str) (sc:Scope):Prop where
 kind:sc.kind=.function
 co:sc.isCoroutine=false
 gen:sc.isGenerator=false
 nd:(ps++fr).Nodup
 par:∀x∈ps,sc.names.lookup x=some .local
 fre:∀x∈fr,sc.names.lookup x=some .free
 nocell:∀y∈sc.names,y.2≠.cell
 all:∀y∈sc.names,y.2=.free->y.1∈fr
noncomputable def cxL (P:Program) (w:World) (K:Fg9) (mg:Str->Option Value) (base:Heap) (N:List Str) (q:Str) (sc:Scope) (f c':Addr) (caps:List N2) (A:Around) (outer:List Env) (s:Shared) (H:Hp):Cx where
 prog:=P
 w:=w
 K:=K
 mg:=mg
 base:=base
 A:=A.deeper (PySem.W.envX q sc s.heap.objs.size f (.ref c') (T6 caps))
 N:=N
 s₀:=s
 H₀:=H
 env:=PySem.W.envX q sc s.heap.objs.size f (.ref c') (T6 caps)
 outer:=outer
 stack:=PySem.W.envX q sc s.heap.objs.size f (.ref c') (T6 caps)::outer
 ex:=[]
 calm:=true
 fn:=fun _=>false
 pn:=[]
 xe:=fun _ _=>False
theorem Q7u {caps:List N2}{x:Str}{c:Addr} (h:(T6 caps).lookup x=some c):∃p∈caps,p.name=x/\p.addr=c:=by
 have:=bT h
 obtain⟨p,hp,e⟩:=am.mp this
 cases e
 exact⟨p,hp,rfl,rfl⟩
theorem Z0w:∀{caps:List N2}{p:N2},(caps.map (·.name)).Nodup->p∈caps->(T6 caps).lookup p.name=some p.addr
 | [],_,_,mem=>absurd mem (by simp)
 | q::r,p,nd,mem=>by
  rw [ak,bB]at nd
  show List.lookup p.name ((q.name,q.addr)::T6 r)=_
  rcases aj.mp mem with rfl | mem
  ·simp [List.lookup]
  ·have cA:p.name≠q.name:=fun z=>nd.1 (z ▸ List.mem_map_of_mem mem)
   rw [List.lookup_cons]
   have:(p.name==q.name)=false:=by simpa using cA
   rw [this]
   exact Z0w nd.2 mem
theorem Z0o:∀{caps:List N2}{p q:N2},(caps.map (·.addr)).Nodup->p∈caps->q∈caps->p.addr=q.addr->p=q
 | [],_,_,_,h,_,_=>absurd h (by simp)
 | r::l,p,q,nd,h1,h2,e=>by
  rw [ak,bB]at nd
  rcases aj.mp h1 with a1 | a1
  ·rcases aj.mp h2 with a2 | a2
   ·rw [a1,a2]
   ·exact absurd (am.mpr ⟨q,a2,by rw [<- e,a1]⟩) nd.1
  ·rcases aj.mp h2 with a2 | a2
   ·exact absurd (am.mpr ⟨p,a1,by rw [e,a2]⟩) nd.1
   ·exact Z0o nd.2 a1 a2 e
end L2
end
section
namespace L2
open PySem PySem.Spec PyProof.Rows TK
section
variable {Pg:Program}{Wd:World}{Ar:Around}{Rs:Result->Shared->Prop}{s:Shared}
theorem Y6g {a:Addr}{args:Args}{o:Obj}{fd:FuncData}{body:Expr}{q:Str} (deep:Ar.depth<recursionLimit) (at_:s.heap.get? a=some o) (is:o.data=.func fd) (c0:fd.scope.isCoroutine=false) (g0:fd.scope.isGenerator=false) (bd:fd.body=.expr body) (cd:s.heap.CodeRec fd.code q)
  (go:wpAny (model Pg Wd) Ar.in1 (bindArgs fd args)
   (fun bs s1=>wpAny (model Pg Wd) Ar.in1 (newFunctionEnv fd.scope fd.globals fd.closure bs (q++".<locals>.") (some a) fd.code none fd.builtins) (fun ev s2=>s2.heap.NoLimit/\codeAny (model Pg Wd) Ar (.expr body ev) Rs s2) (fun x s1=>Rs (.error x) s1) s1)
   (fun x s1=>Rs (.error x) s1) s):codeAny (model Pg Wd) Ar (.call (.ref a) args) Rs s:=by
 obtain⟨c,oc,fs,tk,hc,fP,qA,hn⟩:=cd
 have run:wpAny (model Pg Wd) Ar.in1 (callAny (.ref a) args) (fun fin s1=>match fin with | .done fl=>Rs (.ok fl) s1 | .again c'=>c'.quiet=true/\codeAny (model Pg Wd) Ar c' Rs s1) (fun x s1=>Rs (.error x) s1) s:=by
  unfold callAny
  refine a9 (wpAny_load at_ ?_)
  rw [is]
  dsimp only
  rw [hc]at go
  unfold callFunction
  simp only [c0,g0,bd,hc]
  refine a9 (m:=field (.ref c) 1) (aV fP qA hn (a9 (af (a9 (B3 go fun bs s1 h1=>?_)))))
  exact a9 (B3 h1 fun ev s2 ⟨k6,h2⟩=>a9 (wpAny_enterFrame k6 deep (af ⟨rfl,h2⟩)))
 exact codeAny_of_tree run
end
theorem W9v {x:Str}{u:Value}:∀{ps:List Str}{us:List Value}{i:Nat},ps.Nodup->ps[i]?=some x->us[i]?=some u->(ps.zip us).reverse.lookup x=some u:=by
 intro ps us i nd h1 h2
 have hm:(x,u)∈(ps.zip us).reverse:=by
  rw [List.mem_reverse]
  refine aD (i:=i) ?_
  rw [bV]
  exact⟨h1,h2⟩
 have un:∀v,(x,v)∈(ps.zip us).reverse->v=u:=fun v hv=>by
  rw [List.mem_reverse]at hv
  obtain⟨j,hj⟩:=List.getElem?_of_mem hv
  rw [bV]at hj
  have hi:i<ps.length:=(aI.mp h1).1
  have my:i=j:=(List.getElem?_inj hi nd).mp (h1.trans hj.1.symm)
  subst my
  rw [h2]at hj;exact(aB hj.2).symm
 cases hl:(ps.zip us).reverse.lookup x with
 | none =>
  have:=List.lookup_eq_none_iff.mp hl _ hm
  simp at this
 | some v=>rw [un v (bT hl)]
section
variable {P:Program}{w:World}{K:Fg9}{mg:Str->Option Value}{base:Heap}{ps:List Str}{q:Str}{sc:Scope}{f c':Addr}{caps:List N2}{A:Around}{outer:List Env}{s s1:Shared}{H:Hp}{us:List Value}{vs:List V}
theorem Y8m (S:Z0b ps (caps.map (·.name)) sc) (gA:(caps.map (·.addr)).Nodup) (hd:A.handled=none) (e0:Q3j P w K mg base A outer s H) (hl:vs.length=ps.length) (r:C0 vs us) (hc:∀p∈caps,Z5s K H p)
  {h1:Heap}{tk:Nat} (iQ:h1.Ns s.heap.objs.size fun x=>(ps.zip us).reverse.lookup x) (hk:∀b o,s.heap.get? b=some o->h1.get? b=some o) :
  A0 (cxL P w K mg base (ps++caps.map (·.name)) q sc f c' caps A outer s (K3 (caps.map (·.addr)) H)) [] ((vs++caps.map (·.val)).map some) (K3 (caps.map (·.addr)) H) { s with heap:=h1,toks:=tk }:=by
 have hS:S6 (caps.map (·.addr)) H:=fun c dR=>by
  obtain⟨p,hp,rfl⟩:=am.mp dR
  obtain⟨u,hu,_⟩:=(hc p hp).cell
  exact⟨_,_,(hc p hp).at_,hu⟩
 have jq:∀b,H b=none->K3 (caps.map (·.addr)) H b=none:=fun b n=>by
  unfold K3;split
  ·rfl
  ·exact n
 have kY:(caps.map (·.name)).Nodup:=(bS.mp S.nd).2.1
 have kM:∀p∈caps,∃u,h1.IsCell p.addr (some u)/\B8 p.val u:=fun p hp=>by
  obtain⟨u,hu,ru⟩:=(hc p hp).cell
  exact⟨u,⟨p.obj,hk _ _ (e0.hok _ _ (hc p hp).at_).1,hu⟩,ru⟩
 have gO:∀b:Addr,b∉(cxL P w K mg base (ps++caps.map (·.name)) q sc f c' caps A outer s (K3 (caps.map (·.addr)) H)).ex:=fun b z=>absurd (show b∈([]:List Addr)from z) (by simp)
 refine⟨⟨e0.mod,S.kind,rfl,rfl,ah _,fun y z c h1 h2=>?_,fun y hy=>?_,fun y c hf _=>absurd (show false=true from hf) (by decide),fun _=>hd,Around.frames_deeper e0.frames,.inr ⟨rfl,rfl⟩,fun b z=>absurd z (gO b),fun b o e=>⟨(e0.bs b o e).1,jq _ (e0.bs b o e).2⟩,e0.bsz,fun b _ _=>gO b,fun b z=>absurd z (gO b),e0.funs,fun b hb=>jq _ (e0.frf b hb)⟩,
  rfl,e0.bare,Un.kept hk,⟨_,iQ,fun i y v h1 h2 h3=>?_⟩,fun y c h=>?_,jq _ (e0.hok.fresh (ah _)),fun y c h=>?_,fun p hp=>absurd (show p∈([]:Pn9)from hp) (by simp),e0.hok.hid hS hk,?_⟩
 ·obtain⟨p,hp,rfl,e1⟩:=Q7u h1
  obtain⟨p',qf,rfl,e2⟩:=Q7u h2
  rw [Z0o gA hp qf (e1.trans e2.symm)]
 ·have hy:sc.names.lookup y=some .cell\/sc.names.lookup y=some .free:=hy
  rcases hy with hy | hy
  ·exact absurd rfl (S.nocell _ (bT hy))
  ·have:=S.all _ (bT hy) rfl
   obtain⟨p,hp,e⟩:=am.mp this
   have e:p.name=y:=e
   exact⟨p.addr,by rw [<- e];exact Z0w kY hp⟩
 ·by_cases hi:i<ps.length
  ·have hp:ps[i]?=some y:=by rw [show(cxL P w K mg base (ps++caps.map (·.name)) q sc f c' caps A outer s (K3 (caps.map (·.addr)) H)).N=ps++caps.map (·.name)from rfl,aH hi]at h1;exact h1
   have hv:vs[i]?=some v:=by
    rw [ai,aH (by omega)]at h2
    cases e:vs[i]? with
    | none=>rw [e]at h2;cases h2
    | some a=>rw [e]at h2;cases h2;rfl
   obtain⟨u,hu,rv⟩:=r.get hv
   exact⟨u,rv,.inl ⟨S.par y (aD hp),W9v (bS.mp S.nd).1 hp hu⟩⟩
  ·have hp:(caps.map (·.name))[i-ps.length]?=some y:=by rw [show(cxL P w K mg base (ps++caps.map (·.name)) q sc f c' caps A outer s (K3 (caps.map (·.addr)) H)).N=ps++caps.map (·.name)from rfl,aS (by omega)]at h1;exact h1
   have hv:(caps.map (·.val))[i-ps.length]?=some v:=by
    rw [ai,aS (by omega),hl]at h2
    cases e:(caps.map (·.val))[i-ps.length]? with
    | none=>rw [e]at h2;cases h2
    | some a=>rw [e]at h2;cases h2;rfl
   rw [ai]at hp hv
   cases e:caps[i-ps.length]? with
   | none=>rw [e]at hp;cases hp
   | some p =>
    rw [e]at hp hv
    cases hp;cases hv
    have m8:=aD e
    obtain⟨u,cY,ru⟩:=kM p m8
    exact⟨u,ru,.inr ⟨.inr (S.fre _ (List.mem_map_of_mem m8)),p.addr,Z0w kY m8,cY⟩⟩
 ·obtain⟨p,hp,rfl,rfl⟩:=Q7u h
  obtain⟨u,cY,_⟩:=kM p hp
  exact⟨_,cY⟩
 ·obtain⟨p,hp,rfl,rfl⟩:=Q7u h
  exact Q5k (List.mem_map_of_mem hp)
 ·rw [ag,ay,ag,hl]
  show _=(ps++caps.map (·.name)).length
  rw [ay,ag]
end
theorem A5.showS {S:List Addr}{H H':Hp} (hS:S6 S H) (sm:A5 (K3 S H) H'):A5 H (L2.showS S H H'):=fun b u e=>by
 by_cases hb:b∈S
 ·rw [Y3p hb];exact e
 ·rw [Q8n hb];exact sm b u (by rw [Q0d hb];exact e)
theorem Y7t {P:Program}{w:World}{K:Fg9}{mg:Str->Option Value}{base:Heap}{k:Nat}{f c':Addr}{name qual:Str}{params:Arguments}{body:Expr}{sc:Scope}{pm ctv:Value}{ps:List Str}{caps:List N2}{sp:D6}{wb:WE}
  (S:Z0b ps (caps.map (·.name)) sc) (gA:(caps.map (·.addr)).Nodup)
  (cc:∀(A:Around) (outer:List Env) (s:Shared) (H:Hp) (q:Str),C9 k (A.deeper (PySem.W.envX q sc s.heap.objs.size f (.ref c') (T6 caps)))->DE (cxL P w K mg base (ps++caps.map (·.name)) q sc f c' caps A outer s H) H body wb)
  (hw:∀rs r,rs.length=ps.length->sp rs r->∃(ds:List D) (d:D),rs=ds.map R.st/\r=.st d/\wb (ds.map (fun d=>some (Sl.dat d))++caps.map fun p=>some p.slot) fun r'=>r'=.st d) :
  O9 P w K mg base K6 (k+1) f (PySem.W.kla_fn name qual params body sc (T6 caps) pm (.ref c') ctv) ps (Q5t K ps.length (Q4y K caps f c' (PySem.W.kla_obj name qual params body sc (T6 caps) pm c' ctv)) sp):=by
 refine⟨fun vs H Q E h=>?_,fun A outer s H args us vs Q E hr e0 hb r fW=>?_⟩
 ·obtain⟨rs,r,hl,al,_⟩:=h
  rw [<- al.length];exact hl
 obtain⟨rs,r0,hl,al,ok,⟨hf,⟨oc,Pt,hc,qc⟩,fL⟩,h1,h2⟩:=fW
 have qm:vs.length=ps.length:=by rw [<- al.length];exact hl
 have k6:s.heap.NoLimit:=e0.mod.nolimit.keeps fun b o e=>(e0.bs b o e).1
 have gf:s.heap.get? f=some _:=(e0.hok _ _ hf).1
 have gc:s.heap.get? c'=some oc:=(e0.hok _ _ hc).1
 obtain⟨rh,q,tq,eg,hq⟩:=qc
 obtain⟨ds,d,fR,rfl,pX⟩:=hw (rs.map nrm) r0 (by rw [ag];exact hl) h1
 have hS:S6 (caps.map (·.addr)) H:=fun c dR=>by
  obtain⟨p,hp,rfl⟩:=am.mp dR
  obtain⟨u,hu,_⟩:=(fL p hp).cell
  exact⟨_,_,(fL p hp).at_,hu⟩
 refine Y6g (fd:=PySem.W.kla_fn name qual params body sc (T6 caps) pm (.ref c') ctv) hr.depth gf rfl S.co S.gen rfl ⟨c',oc,rh,tq,rfl,gc,eg,hq⟩ (hb _ _ _ _ ?_)
 refine g7 S.nocell (fun y hy=>S.par _ (iF hy).1) (fun h1 iQ nK=>⟨(k6).fresh _ nK,?_⟩) S.kind
 have hk:∀b o,s.heap.get? b=some o->h1.get? b=some o:=fun b o e=>(nK.2 b (az (au e))).trans (aa _ e)
 show codeAny _ _ (.expr body (PySem.W.envX q sc s.heap.objs.size f (.ref c') (T6 caps))) _ _
 have I:=Y8m (q:=q) (f:=f) (c':=c') (tk:=s.toks+(ps.zip us).length) S gA hr.hd e0 qm r fL iQ hk
 have hD:=cc A outer s (K3 (caps.map (·.addr)) H) q (hr.deeper _)
 have rep:B9 K (K3 (caps.map (·.addr)) H) (ds.map (fun d=>some (Sl.dat d))++caps.map fun p=>some p.slot) ((vs++caps.map (·.val)).map some) (K3 (caps.map (·.addr)) H):=by
  have bR:ds.length=vs.length:=by
   have:=congrArg List.length fR
   rw [ag,ag]at this
   rw [<- this,al.length]
  have args:∀(i:Nat) (d:D),ds[i]?=some d->∃v,vs[i]?=some v/\A1 K H d v:=fun i d e=>by
   have:(rs.map nrm)[i]?=some (.st d):=by rw [fR,ai,e];rfl
   rw [ai]at this
   cases e2:rs[i]? with
   | none=>rw [e2]at this;cases this
   | some x =>
    rw [e2]at this
    have hx:nrm x=.st d:=aB this
    obtain⟨v,hv,q⟩:=al.get e2
    refine⟨v,hv,?_⟩
    cases x with
    | st y=>cases hx;exact q
    | nw _=>cases hx
    | bw _=>cases hx
    | dk _=>cases hx
    | dt _=>cases hx
    | ob _=>cases hx
    | cl _ _=>cases hx
    | ms _ _ _ _=>cases hx
  have Q2j:∀(i:Nat) (sl:Sl),(ds.map (fun d=>some (Sl.dat d))++caps.map fun p=>some p.slot)[i]?=some (some sl)->∃v,((vs++caps.map (·.val)).map some)[i]?=some (some v)/\TK.N6 K (K3 (caps.map (·.addr)) H) (K3 (caps.map (·.addr)) H) sl v/\sl.mut=false:=fun i sl e=>by
   by_cases hi:i<ds.length
   ·rw [aH (by rw [ag];exact hi),ai]at e
    cases e1:ds[i]? with
    | none=>rw [e1]at e;cases e
    | some y =>
     rw [e1]at e
     cases e
     obtain⟨v,hv,q⟩:=args i y e1
     refine⟨v,?_,A1.hid hS _ _ q,rfl⟩
     rw [ai,aH (by omega),hv];rfl
   ·rw [aS (by rw [ag];omega),ag,ai]at e
    cases e1:caps[i-ds.length]? with
    | none=>rw [e1]at e;cases e
    | some p =>
     rw [e1]at e
     cases e
     obtain⟨q1,q2⟩:=(fL p (aD e1)).rel.slot hS
     refine⟨p.val,?_,q1,q2⟩
     rw [ai,aS (by omega),ai,<- bR,e1];rfl
  refine⟨by simp [bR],A5.refl _,fun i sl e=>let ⟨v,a,b,_⟩:=Q2j i sl e;⟨v,a,b⟩,fun i j s t v _ e1 _ m _ _ _=>?_⟩
  obtain⟨_,_,_,z⟩:=Q2j i s e1
  rw [z]at m;cases m
 refine PySem.W.kla_codeExpr (aP (hD.pe [] _ _ _ (fun v H'=>A5 (K3 (caps.map (·.addr)) H) H'/\A1 K H' d v) I ⟨_,rep,hD.mono _ _ _ (fun r' ki v H' sm ir=>by subst ki;exact⟨sm,ir⟩) pX⟩) (fun u s' hs=>?_) fun e s' hs=>(show False from hs).elim)
 obtain⟨v,H',J,rv,sm,q⟩:=hs
 have out:∀b u,H' b=some u->b∉caps.map (·.addr):=fun b u e fj=>by
  obtain⟨o,u',kD,_⟩:=hS b fj
  have:=J.base.free b o (e0.hok _ _ kD).1 (Q5k fj) (by show b∉([]:List Addr);simp)
  rw [this]at e;cases e
 have cU:A5 H' (L2.showS (caps.map (·.addr)) H H'):=fun b u e=>by rw [Q8n (out b u e)];exact e
 have kU:=A5.showS hS sm
 show CE outer P w H s Q u s'
 refine⟨v,L2.showS (caps.map (·.addr)) H H',J.os,J.bare,?_,?_,rv,h2 v (L2.showS (caps.map (·.addr)) H H') kU (show D9 K H (L2.showS (caps.map (·.addr)) H H') (.st d) v from A1.mono (Kp.of cU) d v q)⟩
 ·have hn:∀b,H b=none->b∉caps.map (·.addr):=fun b n hb=>by obtain⟨o,u,q,_⟩:=hS b hb;rw [n]at q;cases q
  have jr:∀b,H b=none->K3 (caps.map (·.addr)) H b=none:=fun b n=>by rw [Q0d (hn b n)];exact n
  refine⟨fun b o e n hb hx=>J.base.keep b o e (jr b n) hb hx,fun b o e n hb hx=>J.base.slot b o e (jr b n) hb hx,fun b o e n hx=>?_,fun b o e hx=>J.base.there b o e hx,fun b xs e=>kU _ _ e,fun b o u e=>kU _ _ e,fun b ps e=>⟨#[],by rw [kU _ _ e];simp⟩⟩
  rw [Q8n (hn b n)]
  exact J.base.free b o e (jr b n) hx
 ·intro b u e
  by_cases fj:b∈caps.map (·.addr)
  ·rw [Y3p fj]at e
   obtain⟨o,u',kD,_⟩:=hS b fj
   rw [kD]at e;cases e
   have g:=(e0.hok _ _ kD).1
   have:b∉frs outer:=fun z=>by have:=e0.frf b z;rw [kD]at this;cases this
   exact Q6z (J.base.keep b o g (Q5k fj) this (by show b∉([]:List Addr);simp))
  ·rw [Q8n fj]at e
   exact(J.hok b u e).stay (fun c v _ q=>q) (fun c v _ q=>cU _ _ q) fun c xs q=>cU _ _ q
end L2
end
section
namespace L2
open PySem PySem.Spec PyProof.Rows TK
structure FnC (P:Program) (w:World) (K:Fg9) (mg:Str->Option Value) (base:Heap) (k n:Nat) (f:Addr) (Φ:Hp->Prop) (sp:D6):Prop where
 ex:∃(fd:FuncData) (ps:List Str),O9 P w K mg base K6 k f fd ps (Q5t K n Φ sp)/\ps.length=n/\U2 K fd ps []/\∀(h:Heap) (H:Hp),F5 P w H h->K.In h->Φ H->∃o,h.get? f=some o/\o.data=.func fd
section
variable {X:Cx}{k n i:Nat}{x:Str}{e:Expr}{es:List Expr}{t:TA}{p pos:Pos}
theorem W2q (hr:C9 k X.A) (hv:PE X (.Name x p) (O3 i)) (ha:PA X (e::es) t) (he:starEach (e::es) X.env=(false,eval e X.env)::starEach es X.env:=by rfl) (hpl:(backTo pos (starEach es X.env)).any (·.1)=false:=by rfl) :
  PE X (.Call (.Name x p) (e::es) [] pos) (fun σ H Q=>∃f Φ sp,σ[i]?=some (some (.ref f))/\FnC X.prog X.w X.K X.mg X.base k n f Φ sp/\t σ H fun vs H1=>Q5t X.K n Φ sp vs H1 Q E0):=by
 intro ac s σ H Q I ⟨f,Φ,sp,h0,F,h⟩
 obtain⟨fd,ps,F,hn,hb,here⟩:=F.ex
 refine bh (B3 (hv ac s σ H (fun v H'=>v=.ref f/\t σ H' fun vs H1=>Q5t X.K n Φ sp vs H1 Q E0) I ⟨.ref f,h0,rfl,h⟩) fun u s1 ⟨v,H1,I1,r,ev,q⟩=>?_)
 subst ev
 obtain rfl:u=Value.ref f:=r
 refine PySem.W.callWith_of (P:=fun h=>∃o,h.get? f=some o/\o.data=.func fd) (by rw [he];show((false||(backTo pos (starEach es X.env)).any (·.1))||false)=false;rw [hpl];rfl) (fun h ⟨o,e1,e2⟩=>⟨.frame,.inl rfl,?_⟩) ?_
 ·obtain⟨oc,od,dt,sl⟩:=o
  have e2:dt=.func fd:=e2
  subst e2
  exact(PySem.W.Looks.ld (part:=none) e1).andThen .now
 rw [he]
 refine dj ?_
 have h2:=ha pos ac s1 σ H1 _ I1 q
 rw [he]at h2
 refine B3 h2 fun us s2 ⟨vs,H2,I2,r,q⟩=>⟨?_,?_⟩
 ·obtain⟨rs,r0,_,_,_,hΦ,_⟩:=q
  exact here _ _ I2.hok I2.kIn hΦ
 ·have:=Y1z F hr hb .nil Q8e I2 r (show Q5t X.K n Φ sp (vs++[]) H2 Q E0 by rw [bO];exact q)
  exact this
end
end L2
namespace TK
open PySem PySem.Spec PyProof.Rows L2
noncomputable abbrev FCT:=Nat->Addr->(Hp->Prop)->D6->Prop
section
variable {X:Cx}{H0:Hp}{e:Expr}{es:List Expr}{wr:WA}{k i n:Nat}{x:Str}{p pos:Pos}
def Q9j (FC:FCT) (n i:Nat) (wr:WA):WE:=fun τ Q=>∃f Φ sp,τ[i]?=some (some (.cl f Φ))/\FC n f Φ sp/\wr τ fun rs=>rs.all M4=true/\∃r,sp (rs.map nrm) r/\Q r
theorem DE.callC (hr:C9 k X.A) (hv:PE X (.Name x p) (O3 i)) (ha:DA X H0 (e::es) wr) (he:starEach (e::es) X.env=(false,eval e X.env)::starEach es X.env:=by rfl) (hpl:(backTo pos (starEach es X.env)).any (·.1)=false:=by rfl) :
  DE X H0 (.Call (.Name x p) (e::es) [] pos) (Q9j (FnC X.prog X.w X.K X.mg X.base k) (e::es).length i wr) where
 mono:=fun τ P Q f ⟨g,Φ,sp,h0,F,h⟩=>⟨g,Φ,sp,h0,F,ha.mono τ _ _ (fun rs ⟨ok,r,h1,h2⟩=>⟨ok,r,h1,f r h2⟩) h⟩
 pe:=M7 (W2q (n:=(e::es).length) hr hv ha.pa he hpl) fun σ H Q ⟨τ,hR,f,Φ,sp,h0,F,h⟩=>by
  obtain⟨v,hv,rv⟩:=hR.here i _ h0
  obtain⟨rfl,hΦ,hM⟩:v=.ref f/\Φ H/\Q2f Φ:=rv
  exact⟨f,Φ,sp,hv,F,τ,hR,ha.mono τ _ _ (fun rs ⟨jn,ok,r,h1,h2⟩ vs H1 s1 ck=>⟨rs,r,jn,ck.v,ok,hM _ _ (Kp.of s1) hΦ,h1,fun v H' s2 ir=>h2 v H' (s1.trans s2) (ir.older s1)⟩) (ha.len τ _ h)⟩
@[simp] theorem W5x {FC:FCT} {τ:A8}{Q:R->Prop}:Q9j FC n i wr τ Q=∃f Φ sp,τ[i]?=some (some (.cl f Φ))/\FC n f Φ sp/\wr τ fun rs=>rs.all M4=true/\∃r,sp (rs.map nrm) r/\Q r:=rfl
end
section
variable {X:Cx}{H0:Hp}{params:Arguments}{body:Expr}{sc:Scope}{pos:Pos}{c Pt:Addr}{k:Nat}{ps:List Str}{sp:D6}{wb:WE}
end
end TK
end
section
namespace L2
open PySem PySem.Spec PyProof.Rows TK
noncomputable def X0 (caps:List N2) (H:Hp):Hp:=fun b=>match caps.find? (fun p=>p.addr==b)with
 | some p=>some (.frz p.obj V8)
 | none=>H b
theorem Q6v {caps:List N2}{H:Hp}{p:N2} (nd:(caps.map (·.addr)).Nodup) (hp:p∈caps):X0 caps H p.addr=some (.frz p.obj V8):=by
 unfold X0
 cases e:caps.find? (fun q=>q.addr==p.addr)with
 | none =>
  have:=List.find?_eq_none.mp e p hp
  simp at this
 | some q =>
  have h1:(q.addr==p.addr)=true:=List.find?_some (p:=fun q:N2=>q.addr==p.addr) e
  have h2:=List.mem_of_find?_eq_some e
  rw [Z0o nd h2 hp (by simpa using h1)]
theorem Q6w {caps:List N2}{H:Hp}{b:Addr} (h:b∉caps.map (·.addr)):X0 caps H b=H b:=by
 unfold X0
 cases e:caps.find? (fun q=>q.addr==b)with
 | none=>rfl
 | some q =>
  have h1:(q.addr==b)=true:=List.find?_some (p:=fun q:N2=>q.addr==b) e
  have h2:=List.mem_of_find?_eq_some e
  exact absurd (am.mpr ⟨q,h2,by simpa using h1⟩) h
structure Q2d (X:Cx) (s:Shared) (p:N2):Prop where
 look:X.env.cells.lookup p.name=some p.addr
 own:X.fn p.name=true
 get:s.heap.get? p.addr=some p.obj
 cell:∃u,p.obj.data=.cell (some u)/\B8 p.val u
section
variable {X:Cx}{ac:Pn9} {σ:St}{H:Hp}{s:Shared}{caps:List N2}
theorem Z7c (I:A0 X ac σ H s):∀{caps:List N2},(caps.map (·.name)).Nodup->(∀p∈caps,Q2d X s p)->(caps.map (·.addr)).Nodup
 | [],_,_=>jJ
 | p::r,nd,h=>by
  rw [ak,bB]at nd ⊢
  refine⟨fun hm=>?_,Z7c I nd.2 fun q hq=>h q (av _ hq)⟩
  obtain⟨q,hq,e⟩:=am.mp hm
  have e:q.addr=p.addr:=e
  have h1:=(h p ao).look
  have h2:=(h q (av _ hq)).look
  rw [e]at h2
  exact nd.1 (am.mpr ⟨q,hq,I.ok.inj _ _ _ h2 h1⟩)
theorem Q6x (I:A0 X ac σ H s) (hc:∀p∈caps,Q2d X s p):A5 H (X0 caps H):=fun b u e=>by
 rw [Q6w]
 ·exact e
 ·intro hb
  obtain⟨p,hp,rfl⟩:=am.mp hb
  rw [I.freeC _ _ (hc p hp).look]at e;cases e
theorem Z6f (nd:(caps.map (·.addr)).Nodup) (hc:∀p∈caps,Q2d X s p):S6 (caps.map (·.addr)) (X0 caps H):=fun c kB=>by
 obtain⟨p,hp,rfl⟩:=am.mp kB
 obtain⟨u,hu,_⟩:=(hc p hp).cell
 exact⟨p.obj,some u,Q6v nd hp,hu⟩
theorem Y7r (I:A0 X ac σ H s) (nd:(caps.map (·.addr)).Nodup) (hc:∀p∈caps,Q2d X s p):Q3j X.prog X.w X.K X.mg X.base X.A X.stack s (X0 caps H):=by
 have e0:=I.env0
 have ge:∀p∈caps,X.s₀.heap.objs.size<=p.addr:=fun p hp=>I.ok.cab _ _ (hc p hp).own (hc p hp).look
 have keep:∀b,b∉caps.map (·.addr)->H b=none->X0 caps H b=none:=fun b hb n=>by rw [Q6w hb];exact n
 refine⟨e0.frames,e0.mod,fun b o e=>⟨(e0.bs b o e).1,keep b (fun hb=>?_) (e0.bs b o e).2⟩,e0.bsz,e0.funs,fun b hb=>keep b (fun fS=>?_) (e0.frf b hb),fun b u e=>?_,e0.bare⟩
 ·obtain⟨p,hp,rfl⟩:=am.mp hb
  exact absurd (ax (au e) I.ok.bsz) (Nat.not_lt.mpr (ge p hp))
 ·obtain⟨p,hp,rfl⟩:=am.mp fS
  rcases aj.mp (I.stkSub _ hb)with z | z
  ·exact I.cne _ _ (hc p hp).look z
  ·obtain⟨_,o,ho,_⟩:=I.ok.funs.mem z
   exact absurd (au ho) (Nat.not_lt.mpr (ge p hp))
 ·by_cases hb:b∈caps.map (·.addr)
  ·obtain⟨p,hp,rfl⟩:=am.mp hb
   rw [Q6v nd hp]at e;cases e
   exact Q6z (hc p hp).get
  ·rw [Q6w hb]at e
   exact(I.hok b u e).stay (fun c v _ q=>q) (fun c v _ q=>Q6x I hc _ _ q) fun c xs q=>Q6x I hc _ _ q
theorem W5q {CX:CXT}{k:Nat}{f:Addr}{fd:FuncData}{ps:List Str}{sp:Sp}{Q:VK}{E:XK}{us:List Value}{vs:List V} (F:O9 X.prog X.w X.K X.mg X.base K6 k f fd ps sp) (hr:C9 k X.A) (hb:U2 X.K fd ps [])
  (I:A0 X ac σ H s) (nd:(caps.map (·.addr)).Nodup) (hc:∀p∈caps,Q2d X s p) (r:C0 vs us) (h:sp vs (X0 caps H) (fun v H'=>A5 (X0 caps H) H'/\Q v (K3 (caps.map (·.addr)) H')) E):wpAny (model X.prog X.w) X.A (call (.ref f) us) (EP X ac σ Q) X.xe s:=by
 have hl:us.length=ps.length:=by rw [<- r.length];exact F.len _ _ _ _ h
 have fS:BindsTo s fd ⟨us,[]⟩ (ps.zip us):=by have:=hb s us I.kIn (by rw [bO];exact hl);rw [bO]at this;exact this
 refine wpAny_call (codeAny_mono (F.run X.A X.stack s (X0 caps H) ⟨us,[]⟩ us vs _ E hr (Y7r I nd hc) fS r h) fun r s' hq=>?_)
 cases r with
 | error e=>exact(show False from hq).elim
 | ok fl =>
  cases fl with
  | next=>exact False.elim hq
  | brk=>exact False.elim hq
  | cont=>exact False.elim hq
  | ret u =>
   obtain⟨v,H',os,bare,un,hok,rv,sm,q⟩:=hq
   have hS:S6 (caps.map (·.addr)) H':=fun c kB=>by
    obtain⟨o,u,e1,e2⟩:=Z6f (H:=H) nd hc c kB
    exact⟨o,u,un.frzs _ _ _ e1,e2⟩
   have j7:∀b,H b=none->b∉caps.map (·.addr)->X0 caps H b=none:=fun b n hb=>by rw [Q6w hb];exact n
   have kept:∀p∈caps,s'.heap.get? p.addr=some p.obj:=fun p hp=>(hok _ _ (un.frzs _ _ _ (Q6v nd hp))).1
   have Q2y:∀b u,H b=some u->b∉caps.map (·.addr):=fun b u e hb=>by
    obtain⟨p,hp,rfl⟩:=am.mp hb
    rw [I.freeC _ _ (hc p hp).look]at e;cases e
   have gL:∀b u,H b=some u->K3 (caps.map (·.addr)) H' b=some u:=fun b u e=>by
    rw [Q0d (Q2y b u e)]
    exact sm _ _ (Q6x I hc _ _ e)
   refine I.after ⟨v,K3 (caps.map (·.addr)) H',os,bare,⟨fun b o e n hb hx=>?_,fun b o e n hb hx=>?_,fun b o e n hx=>?_,fun b o e hx=>un.there b o e hx,fun b xs e=>gL _ _ e,fun b o u e=>gL _ _ e,fun b ps e=>⟨#[],by rw [gL _ _ e];simp⟩⟩,F5.hid hok hS fun _ _ q=>q,rv,q⟩
   ·by_cases fj:b∈caps.map (·.addr)
    ·obtain⟨p,hp,rfl⟩:=am.mp fj
     rw [(hc p hp).get]at e;cases e
     exact kept p hp
    ·exact un.keep b o e (j7 b n fj) hb hx
   ·by_cases fj:b∈caps.map (·.addr)
    ·obtain⟨p,hp,rfl⟩:=am.mp fj
     rw [(hc p hp).get]at e;cases e
     exact⟨_,kept p hp⟩
    ·exact un.slot b o e (j7 b n fj) hb hx
   ·by_cases fj:b∈caps.map (·.addr)
    ·exact Q5k fj
    ·rw [Q0d fj]
     exact un.free b o e (j7 b n fj) hx
end
end L2
end
section
namespace TK
open PySem PySem.Spec PyProof.Rows L2
noncomputable def Q5q (wb:WE) (dn:List Sl):D6:=fun rs r=>∃(ds:List D) (d:D),rs=ds.map R.st/\r=.st d/\wb (ds.map (fun d=>some (Sl.dat d))++dn.map some) fun r'=>r'=.st d
noncomputable def capS:Sl->Prop
 | .dat _=>True
 | .cl _ Φ=>Z0a Φ
 | _=>False
noncomputable def Q5g (τ:A8):List (Str×Nat)->List Sl->Prop
 | [],dn=>dn=[]
 | c::cs,dn=>∃s r,dn=s::r/\τ[c.2]?=some (some s)/\capS s/\Q5g τ cs r
section
variable {X:Cx}{H0:Hp}{ac:Pn9} {σ:St}{H:Hp}{s:Shared} {τ:A8}
theorem Z7d (I:A0 X ac σ H s) (hR:B9 X.K H0 τ σ H):∀{cs:List (Str×Nat)}{dn:List Sl},(∀c∈cs,X.N[c.2]?=some c.1/\X.env.kindOf c.1=some .cell/\X.fn c.1=true)->Q5g τ cs dn ->
  ∃caps:List N2,caps.map (·.name)=cs.map (·.1)/\caps.map (·.slot)=dn/\∀p∈caps,Q2d X s p/\Q2e X.K H p.slot p.val
 | [],dn,_,h=>by
  have h:dn=[]:=h
  subst h
  exact⟨[],rfl,rfl,fun p hp=>absurd hp (by simp)⟩
 | c::cs,dn,hk,h=>by
  obtain⟨sl,r,rfl,e,hc,h⟩:=h
  obtain⟨caps,h1,h2,h3⟩:=Z7d I hR (fun c hc=>hk c (av _ hc)) h
  obtain⟨k1,k2,k3⟩:=hk c ao
  obtain⟨v,hv,rv⟩:=hR.here c.2 sl e
  obtain⟨m,hn,hl⟩:=I.loc
  obtain⟨u,ru,lk⟩:=hl c.2 c.1 v k1 hv (.inr (.inl k2))
  rcases lk with⟨z,_⟩ | ⟨_,ca,io,o,ho,hd⟩
  ·rw [k2]at z;cases z
  refine⟨⟨c.1,ca,o,v,sl⟩::caps,by rw [ak,ak,h1],by rw [ak,h2],fun p hp=>?_⟩
  rcases aj.mp hp with rfl | hp
  ·refine⟨⟨io,k3,ho,⟨u,hd,ru⟩⟩,?_⟩
   cases sl with
   | dat d=>exact rv
   | cl a Φ=>exact⟨rv.1,rv.2.1,rv.2.2,hc⟩
   | own _=>exact hc.elim
   | bor _=>exact hc.elim
   | bd _=>exact hc.elim
   | dk _=>exact hc.elim
   | dt _=>exact hc.elim
   | ob _=>exact hc.elim
   | ins _ _ _=>exact hc.elim
   | ll _ _=>exact hc.elim
  ·exact h3 p hp
theorem Z7b {cs:List (Str×Addr)}:∀{caps:List N2}{cs:List (Str×Addr)},caps.map (·.name)=cs.map (·.1)->(∀p∈caps,X.env.cells.lookup p.name=some p.addr)->(∀y∈cs,X.env.cells.lookup y.1=some y.2)->T6 caps=cs
 | [],[],_,_,_=>rfl
 | [],_::_,h,_,_=>by cases h
 | _::_,[],h,_,_=>by cases h
 | p::r,y::cs,h,h1,h2=>by
  rw [ak,ak,dZ]at h
  have e1:=h1 p ao
  have e2:=h2 y ao
  rw [h.1,e2]at e1
  show(p.name,p.addr)::T6 r=y::cs
  rw [Z7b (cs:=cs) h.2 (fun q hq=>h1 q (av _ hq)) fun z hz=>h2 z (av _ hz),h.1,<- aB e1]
end
def Z4i (FC:FCT) (n:Nat) (cs:List (Str×Nat)) (wb:WE) (sp:D6) (we:WE):WE:=fun τ Q=>we τ fun r1=>M4 r1=true/\∃dn,Q5g τ cs dn/\∀f Φ,FC n f Φ (Q5q wb dn)->∃d,sp [nrm r1,.cl f Φ] (.st d)/\Q (.st d)
section
variable {X:Cx}{H0:Hp}{e:Expr}{we wb:WE}{k kl:Nat}{f:Addr}{fd:FuncData}{nz ps:List Str}{sp:D6}{x:Str}{p pos e9:Pos}{params:Arguments}{body:Expr}{sc:Scope}{c Pt:Addr}{cs:List (Str×Nat)}{clos:List (Str×Addr)}
theorem DE.callW (F:O9 X.prog X.w X.K X.mg X.base K6 k f fd nz (Q2r X.K 2 sp)) (hr:C9 k X.A) (hg:Gl X x) (hm:X.mg x=some (.ref f)) (hk:PySem.W.keepIn X.K (.ref f)=true) (hb:U2 X.K fd nz []) (ha:DE X H0 e we)
  (hT:H0 Pt=some .tab) (hB:Q0q X.mg X.base) (fK:X.env.code=.ref c) (hC:PySem.W.codeHdIn X.K c Pt=true) (l7:closureFor sc X.env=pure clos) (kA:cs.map (·.1)=clos.map (·.1)) (im:∀y∈clos,X.env.cells.lookup y.1=some y.2)
  (gF:∀c∈cs,X.N[c.2]?=some c.1/\X.env.kindOf c.1=some .cell/\X.fn c.1=true) (S:Z0b ps (cs.map (·.1)) sc)
  (gH:∀(qual:Str) (cl:List (Str×Addr)) (pm cd ct:Value) (us:List Value),us.length=ps.length->bindArgs (PySem.W.kla_fn "<lambda>" qual params body sc cl pm cd ct) ⟨us,[]⟩=pure (ps.zip us))
  (cc:∀(caps:List N2) (f c':Addr) (A:Around) (outer:List Env) (s:Shared) (H:Hp) (q:Str),caps.map (·.name)=cs.map (·.1)->C9 kl (A.deeper (PySem.W.envX q sc s.heap.objs.size f (.ref c') (T6 caps)))->DE (cxL X.prog X.w X.K X.mg X.base (ps++cs.map (·.1)) q sc f c' caps A outer s H) H body wb)
  (ef:(x==("__debug__":Str))=false:=by decide) (he:starEach [e,.Lambda params body sc e9] X.env=(false,eval e X.env)::starEach [.Lambda params body sc e9] X.env:=by rfl) (qC:starEach [.Lambda params body sc e9] X.env=(false,eval (.Lambda params body sc e9) X.env)::starEach [] X.env:=by rfl)
  (hpl:(backTo pos (starEach [.Lambda params body sc e9] X.env)).any (·.1)=false:=by rfl) (hd:defaultsOf params X.env=([],[]):=by rfl) :
  DE X H0 (.Call (.Name x p) [e,.Lambda params body sc e9] [] pos) (Z4i (FnC X.prog X.w X.K X.mg X.base (kl+1)) ps.length cs wb sp we) where
 mono:=fun τ P Q g h=>ha.mono τ _ _ (fun r1 ⟨ok,dn,h1,h2⟩=>⟨ok,dn,h1,fun f Φ F=>let ⟨d,a,b⟩:=h2 f Φ F;⟨d,a,g _ b⟩⟩) h
 pe:=by
  intro ac s σ H Q I ⟨τ,hR,h⟩
  refine bh (Z1y I hg hm ?_ ef)
  have qR:PA X [e,.Lambda params body sc e9] (Z4b _ (Z4b _ tNil)):=Q1b (es:=[.Lambda params body sc e9]) ha.pe (Q1b (es:=[]) (W3b (pos:=e9) hB fK hC l7 hd) Q2z qC) he
  refine PySem.W.callWith_K (h₀:=X.base) I.ok.mod.kin hk (B3 (qR pos ac s σ H (fun vs H1=>A5 H H1/\∃v1 fa c' oc ctv r1,vs=[v1,.ref fa]/\D9 X.K H H1 r1 v1/\M4 r1=true/\Q6r oc/\H1 c'=some (.frz oc (.own Pt))/\H1 fa=some (.frz (Q0h X params body sc clos c' ctv) V8) /\
   ∃dn,Q5g τ cs dn/\∀f Φ,FnC X.prog X.w X.K X.mg X.base (kl+1) ps.length f Φ (Q5q wb dn)->∃d,sp [nrm r1,.cl f Φ] (.st d)/\∀v H',A5 H H'->D9 X.K H H' (.st d) v->Q v H') I ?_) fun us s1 ⟨vs,H1,I1,r,lC,q⟩=>⟨I1.kIn,?_⟩) he hpl
  ·refine⟨τ,hR,ha.mono τ _ _ (fun r1 ⟨ok,dn,h1,h2⟩ v1 H1 s1 ir=>?_) h⟩
   refine⟨s1 _ _ (hR.same _ _ hT),fun fa c' oc ctv H' sm fP hf dR mz _=>?_⟩
   exact⟨s1.trans sm,v1,fa,c',oc,ctv,r1,rfl,ir.mono sm,ok,fP,dR,mz,dn,h1,h2⟩
  ·obtain⟨v1,fa,c',oc,ctv,r1,rfl,ir,ok,fP,dR,mz,dn,h1,h2⟩:=q
   obtain⟨caps,n1,n2,nU⟩:=Z7d I1 (hR.mono lC) gF h1
   have io:∀p∈caps,Q2d X s1 p:=fun p hp=>(nU p hp).1
   have kY:(caps.map (·.name)).Nodup:=by rw [n1];exact(bS.mp S.nd).2.1
   have nd:=Z7c I1 kY io
   have hL:T6 caps=clos:=Z7b (cs:=clos) (n1.trans kA) (fun p hp=>(io p hp).look) im
   have jR:=Q6x I1 io
   subst hL
   have LP:Q4y X.K caps fa c' (Q0h X params body sc (T6 caps) c' ctv) (X0 caps H1):=⟨jR _ _ mz,⟨oc,Pt,jR _ _ dR,fP⟩,fun p hp=>⟨Q6v nd hp,(io p hp).cell,(nU p hp).2.mono (Kp.of jR)⟩⟩
   have F0:=Y7t (P:=X.prog) (w:=X.w) (K:=X.K) (mg:=X.mg) (base:=X.base) (k:=kl) (f:=fa) (c':=c') (name:="<lambda>") (qual:=X.env.qual++"<lambda>") (params:=params) (body:=body) (sc:=sc) (pm:=(X.mg "__name__").getD .none) (ctv:=ctv) (ps:=ps) (caps:=caps) (sp:=Q5q wb dn) (wb:=wb) (by rw [n1];exact S) nd
    (fun A outer s H q hr=>by rw [n1];exact cc caps fa c' A outer s H q n1 hr) (fun rs r _ hs=>by
     obtain⟨ds,d,e1,e2,e3⟩:=hs
     refine⟨ds,d,e1,e2,?_⟩
     have:dn.map some=caps.map fun p=>some p.slot:=by rw [<- n2,aK];rfl
     rw [<- this];exact e3)
   obtain⟨d,g1,g2⟩:=h2 fa _ ⟨_,ps,F0,rfl,U2.all (gH _ _ _ _ _),fun hh Hh hok _ hΦ=>⟨_,(hok _ _ hΦ.1).1,rfl⟩⟩
   refine W5q (CX:=K6) (E:=E0) F hr hb I1 nd io r ⟨[r1,.cl fa _],.st d,rfl,⟨v1,_,rfl,(ir.mono jR).v,_,_,rfl,⟨rfl,LP,Q4y.mono⟩,rfl⟩,by rw [List.all_cons,ok];rfl,g1,fun v H' cU iv=>⟨cU,?_⟩⟩
   have hS:S6 (caps.map (·.addr)) H':=fun c kB=>by
    obtain⟨o,u,e1,e2⟩:=Z6f (H:=H1) nd io c kB
    exact⟨o,u,cU _ _ e1,e2⟩
   have Q2y:∀b u,H1 b=some u->b∉caps.map (·.addr):=fun b u e hb=>by
    obtain⟨p,hp,rfl⟩:=am.mp hb
    rw [I1.freeC _ _ (io p hp).look]at e;cases e
   exact g2 v _ (fun b u e=>by rw [Q0d (Q2y b u (lC _ _ e))];exact cU _ _ (jR _ _ (lC _ _ e))) (show A1 X.K _ d v from A1.hid hS d v iv)
@[simp] theorem W5z {FC:FCT}{n:Nat} {τ:A8}{Q:R->Prop}:Z4i FC n cs wb sp we τ Q=we τ fun r1=>M4 r1=true/\∃dn,Q5g τ cs dn/\∀f Φ,FC n f Φ (Q5q wb dn)->∃d,sp [nrm r1,.cl f Φ] (.st d)/\Q (.st d):=rfl
end
end TK
end
section
namespace L2
open PySem PySem.Spec PyProof.Rows TK
theorem Y9l {P:Program}{w:World}{K:Fg9}{mg mb:Str->Option Value}{k:Nat}{fa a:Addr}{fd:FuncData}{x:Str}{sp:Sp}{s₁:Shared}{vs:List Value}{ns:List Int}{ts:List Addr}
  (KX:K.In s₁.heap) (iQ:s₁.heap.Ns mainGlobals mg) (hb:s₁.heap.Ns builtinsNs mb) (qI:∀x:Str,x≠"__name__"->mb x=bootBuiltins x) (mh:s₁.heap.NoLimit) (qG:Q0q mg s₁.heap) (hg:s₁.gens=#[])
  (iP:∀Pt∈ts,s₁.heap.get? Pt=some (PySem.W.tabObj #[])) (eg:∀Pt∈ts,∃c,PySem.W.codeHdIn K c Pt=true) (qS:∀Pt∈ts,K.lookup Pt=none)
  (ha:s₁.heap.get? a=some { cls:=.type "list",data:=.seq vs.toArray }) (hi:IntsAre vs ns) (hl:ns.length<=sizeLine) (hr:C9 k callerA)
  (F:∀base:Heap,K.In base->base.Ns mainGlobals mg->Q0q mg base->O9 P w K mg base K6 k fa fd [x] sp) (gH:∀(s:Shared) (u:Value),BindsTo s fd ⟨[u],[]⟩ [(x,u)])
  (fW:∀H:Hp,(∀Pt∈ts,H Pt=some .tab)->FzL K H a (ns.map V.int)->sp [.ref a] H (fun v H'=>v=.bl true/\∀Pt∈ts,H' Pt=some .tab) fun _ _ _=>False) :
  codeAny (model P w) callerA (.call (.ref fa) ⟨[.ref a],[]⟩) (fun r s'=>r=.ok (.ret (.bool true))/\OldK s₁.heap s'.heap/\s'.os=s₁.os/\AllBare s'.gens) s₁:=by
 have rv:=Y4o hi
 have lN:=hi.length
 have core:∀H:Hp,(∀b u,H b=some u->(b∈ts/\u=.tab)\/(b=a/\K.lookup a=none/\u=.frz { cls:=.type "list",data:=.seq vs.toArray } (.lst (ns.map V.int))))->(∀Pt∈ts,H Pt=some .tab)->FzL K H a (ns.map V.int) ->
   codeAny (model P w) callerA (.call (.ref fa) ⟨[.ref a],[]⟩) (fun r s'=>r=.ok (.ret (.bool true))/\OldK s₁.heap s'.heap/\s'.os=s₁.os/\AllBare s'.gens) s₁:=by
  intro H hO hT hS
  have hok:F5 P w H s₁.heap:=fun b u e=>by
   rcases hO b u e with⟨hb,rfl⟩ | ⟨rfl,_,rfl⟩
   ·exact⟨#[],iP b hb,trivial,fun pos cv q=>by cases q⟩
   ·exact⟨ha,by rw [ag];exact hl,vs,_,rv,ha⟩
  have eN:∀{b:Addr}{o:Obj},s₁.heap.get? b=some o->H b=none->(Q0e s₁.heap H).get? b=some o:=fun e n=>Y7x e n
  have gO:∀{b:Addr}{o:Obj},s₁.heap.get? b=some o->(∀xs,o.data≠.fields xs)->(∀xs n,o.data≠.seq xs n)->H b=none:=fun {b o} e d1 d2=>by
   cases q:H b with
   | none=>rfl
   | some u =>
    rcases hO b u q with⟨hb,rfl⟩ | ⟨rfl,_,rfl⟩
    ·rw [iP b hb]at e;cases e;exact absurd rfl (d1 _)
    ·rw [ha]at e;cases e;exact absurd rfl (d2 _ _)
  have kX:∀{b:Addr}{m:Str->Option Value},s₁.heap.Ns b m->(Q0e s₁.heap H).Ns b m:=fun {b m} ⟨o,es,ep,e,d,r⟩=>⟨o,es,ep,eN e (gO e (fun xs z=>by rw [d]at z;cases z) (fun xs n z=>by rw [d]at z;cases z)),d,r⟩
  have oa:K.In (Q0e s₁.heap H):=fun b o e=>eN (KX b o e) (by
   cases q:H b with
   | none=>rfl
   | some u =>
    rcases hO b u q with⟨hb,rfl⟩ | ⟨rfl,hk,rfl⟩
    ·rw [qS b hb]at e;cases e
    ·rw [hk]at e;cases e)
  have hM:Mod K mg (Q0e s₁.heap H):=⟨oa,kX iQ,⟨mb,kX hb,qI⟩,let ⟨mc,h1,h2⟩:=mh;⟨mc,kX h1,h2⟩⟩
  have hBM:Q0q mg (Q0e s₁.heap H):=by
   obtain⟨bm,ob,b1,b2,b3,b4,b5,b6⟩:=qG
   exact⟨bm,ob,b1,b2,eN b3 (gO b3 (fun xs z=>by rw [b6]at z;cases z) (fun xs n z=>by rw [b6]at z;cases z)),b4,b5,b6⟩
  have e0:Q3j P w K mg (Q0e s₁.heap H) callerA [] s₁ H:=⟨rfl,hM,fun b o e=>W1u e,eE (Y7y _ _),trivial,fun b hb=>absurd (show b∈([]:List Addr)from hb) (by simp),hok,.of_eq hg⟩
  refine codeAny_mono ((F _ oa (kX iQ) hBM).run callerA [] s₁ H ⟨[.ref a],[]⟩ [.ref a] [.ref a] _ _ hr e0 (gH s₁ (.ref a)) (.cons rfl .nil) (fW H hT hS)) fun r s' h=>?_
  cases r with
  | error e=>exact(show False from h).elim
  | ok fl =>
   cases fl with
   | next=>exact False.elim h
   | brk=>exact False.elim h
   | cont=>exact False.elim h
   | ret u =>
    obtain⟨v,H',os,bare,un,km,r',q,qO⟩:=h
    have q':v=.bl true:=q
    subst q'
    obtain rfl:u=Value.bool true:=r'
    refine⟨rfl,⟨fun b o e=>?_,fun b o e=>un.there b o e (by simp)⟩,os,bare⟩
    cases q:H b with
    | none=>exact .inl (un.keep b o e q (by intro z;exact absurd (show b∈([]:List Addr)from z) (by simp)) (by simp))
    | some u =>
     rcases hO b u q with⟨hb,rfl⟩ | ⟨rfl,hk,rfl⟩
     ·obtain⟨ps,g1,_⟩:=(show F1 P w H' s'.heap b .tab from km b _ (qO b hb))
      obtain⟨c,hc⟩:=eg b hb
      have e1:=iP b hb
      rw [e]at e1;cases e1
      refine .inr (.inl ⟨((PySem.W.codeHd_of_K KX hc).tab (iP b hb)).isCodeTable,rfl,#[],ps,rfl,?_⟩)
      rw [g1];simp
     ·have z2:=un.frzs b _ _ q
      obtain⟨e2,_⟩:=km b _ z2
      rw [ha]at e;cases e
      exact .inl e2
 have pB:a∉ts:=fun hb=>by
  have:=iP a hb
  rw [ha]at this;cases this
 cases hk:K.lookup a with
 | some o =>
  have e:=KX a o hk
  rw [ha]at e
  cases e
  refine core (fun b=>if b∈ts then some .tab else none) (fun b u e=>?_) (fun Pt h=>aE h) (.inr ⟨_,vs.toArray,_,hk,rfl,rfl,rfl,by rw [aF,lN];exact hl,by simpa using rv⟩)
  by_cases hb:b∈ts
  ·have e:=(aE hb).symm.trans e;cases e;exact .inl ⟨hb,rfl⟩
  ·have e:=(aC hb).symm.trans e;cases e
 | none =>
  refine core (fun b=>if b∈ts then some .tab else if b=a then some (.frz { cls:=.type "list",data:=.seq vs.toArray } (.lst (ns.map V.int)))else none) (fun b u e=>?_) (fun Pt h=>aE h) (.inl ⟨_,(aC pB).trans (aE rfl)⟩)
  by_cases hb:b∈ts
  ·have e:=(aE hb).symm.trans e;cases e;exact .inl ⟨hb,rfl⟩
  ·have e:=(aC hb).symm.trans e
   by_cases ha:b=a
   ·have e:=(aE ha).symm.trans e;cases e;exact .inr ⟨ha,hk,rfl⟩
   ·have e:=(aC ha).symm.trans e;cases e
theorem W9a {l:PySem.W.OpenLaw}{n k:Nat}{q:Program}{eA:List Str}{XP:(Str->Option Value)->Heap->Prop}{YP:World->Heap->Prop}{d:DefRec}{K:Params->Fg9}{sp:World->Sp}{x:Str}{ts:List Addr}
  (hn:l.most=some n) (qh:n<=sizeLine) (kz:d.params.defaults=[]) (hr:C9 k callerA)
  (hY:∀(w:World) (h:Heap),YP w h->(K w.params).In h) (mK:∀(w:World) (h:Heap),YP w h->∀Pt∈ts,h.get? Pt=some (PySem.W.tabObj #[]))
  (F:∀(w:World) (mg:Str->Option Value) (fa:Addr) (h:Heap),(K w.params).In h->h.Ns mainGlobals mg->mg d.name=some (.ref fa) ->
   (∀Pt∈ts,(∃c,PySem.W.codeHdIn (K w.params) c Pt=true)/\(K w.params).lookup Pt=none) /\
   ∃fd:FuncData,(∀(s:Shared) (u:Value),BindsTo s fd ⟨[u],[]⟩ [(x,u)]) /\
    ∀base:Heap,(K w.params).In base->base.Ns mainGlobals mg->Q0q mg base->O9 l.prog w (K w.params) mg base K6 k fa fd [x] (sp w))
  (fW:∀(w:World) (H:Hp) (a:Addr) (ns:List Int),ns.length<=n->(∀Pt∈ts,H Pt=some .tab)->FzL (K w.params) H a (ns.map V.int)->sp w [.ref a] H (fun v H'=>v=.bl true/\∀Pt∈ts,H' Pt=some .tab) fun _ _ _=>False) :
  PySem.W.WalkO q eA XP YP l.row.toRowW d [] (fun f vs=>PySem.call f vs):=by
 refine Att.attach_call hn kz fun w s₀ s₁ mg mb fa o pm cd cr a vs ns G Y ho hd eg kn ji gC bR hg=>?_
 have KX:=hY w _ Y
 obtain⟨iP,fd,hb,hF⟩:=F w mg fa _ KX G.T.g kn
 exact Y9l KX G.T.g G.T.b G.T.builtins G.T.nolimit G.T.bmain hg (mK w _ Y) (fun Pt h=>(iP Pt h).1) (fun Pt h=>(iP Pt h).2) ji gC (aT bR qh) hr hF hb fun H hT hS=>fW w H a ns bR hT hS
end L2
namespace TK
open PySem PySem.Spec PyProof.Rows L2
def Q5b (ts:List Addr) (H:Hp):Prop:=∀Pt∈ts,H Pt=some .tab
noncomputable abbrev O8:=List R->(R->Prop)->Prop
noncomputable def Q4b (K:Fg9) (ts:List Addr) (n:Nat) (sp:O8):Sp:=fun vs H Q _=>∃(rs:List R) (P:R->Prop),rs.length=n/\K5 K (fun _=>none) H rs vs/\rs.all M4=true/\Q5b ts H/\sp (rs.map nrm) P/\∀r v H',P r->A5 H H'->D9 K H H' r v->Q v H'
abbrev FnT (P:Program) (w:World) (K:Fg9) (mg:Str->Option Value) (base:Heap) (ts:List Addr) (k:Nat) (f:Addr) (fd:FuncData) (ps:List Str) (sp:O8):Prop:=O9 P w K mg base K6 k f fd ps (Q4b K ts ps.length sp)
end TK
end
section
namespace TK
open PySem PySem.Spec PyProof.Rows L2
structure Q4v (K:Fg9) (x qual:Str) (st:Stmt) (f:Addr) (fd:FuncData) (c Pt:Addr):Prop where
 ex:∃(oc:Value) (od:Option Addr) (kV cr pm:Value) (an:Option Addr) (ct:Value) (dq:Array (Option Value)),
  fd=PySem.W.fnOf x qual (T7 st) (M5 st) (C1 st) .none kV cr pm an (.ref c) ct/\K.lookup f=some ⟨oc,od,.func fd,dq⟩/\PySem.W.codeIn K (.ref c) qual=true
 hd:PySem.W.codeHdIn K c Pt=true
noncomputable abbrev Y5 (P:R->Prop):F4:={ nx:=fun _=>P (.st .non),rt:=P,bk:=fun _=>False,ct:=fun _=>False }
section
variable {P:Program}{w:World}{K:Fg9}{mg:Str->Option Value}{base:Heap}{ts:List Addr}{x qual:Str}{st:Stmt}{f:Addr}{fd:FuncData}{N ps:List Str}{k:Nat}{sp:O8}
theorem Y1b {cdv:Value}{A:Around}{outer:List Env}{s:Shared}{H:Hp}{E:XK}{ws:WS}{rs:List R}{vs:List V}{Q:VK}{Pr:R->Prop}{X:Cx} (hX:X.K=K) (hd:A6 X H (M5 st) ws) (hl:rs.length=ps.length) (al:K5 K (fun _=>none) H rs vs) (ok:rs.all M4=true)
  (h1:sp (rs.map nrm) Pr) (h2:∀r v H',Pr r->A5 H H'->D9 K H H' r v->Q v H') (hw:∀rs Pr,rs.length=ps.length->sp rs Pr->ws (Y5 Pr) (F6 N rs)) :
  ∃t,PSs X (M5 st) t/\t { nx:=fun _ H'=>Q .non H',rt:=Q } (start N vs) H:=by
 subst hX
 refine⟨_,hd.ps,F6 N rs,Z3f al ok,?_⟩
 have hw:=hw (rs.map nrm) Pr (by rw [ag];exact hl) h1
 rw [Z3y]at hw
 refine hd.mono _ _ _ ⟨fun τ h σ H' _ hR=>?_,fun r' h v H' sm ir=>?_,fun _ h=>False.elim h,fun _ h=>False.elim h⟩ hw
 ·exact h2 (.st .non) .non H' h hR.same (A1.s_non (K:=X.K) (H:=H'))
 ·exact h2 r' v H' h sm ir
theorem Fun.okP {ws:WS} (F:Fun K x qual st f fd) (S:J5 N ps (C1 st))
  (cc:∀(cdv:Value) (A:Around) (outer:List Env) (s:Shared) (H:Hp) (E:XK),Q5b ts H->C9 k (A.deeper (envOfC qual (C1 st) s.heap.objs.size f cdv))->A6 (X1 K6 P w K mg base N qual (C1 st) f cdv A outer s H E).nox H (M5 st) ws)
  (hw:∀rs Pr,rs.length=ps.length->sp rs Pr->ws (Y5 Pr) (F6 N rs)):FnT P w K mg base ts (k+1) f fd ps sp:=by
 refine F.ok S (fun vs H Q E h=>?_) (fun cdv A outer s H vs Q E hr h=>?_)
 ·obtain⟨rs,r,hl,al,_⟩:=h
  rw [<- al.length];exact hl
 obtain⟨rs,Pr,hl,al,ok,hT,h1,h2⟩:=h
 exact Y1b (st:=st) (cdv:=cdv) (A:=A) (outer:=outer) (s:=s) (E:=E) rfl (cc cdv A outer s H E hT hr) hl al ok h1 h2 hw
theorem Q4v.okP {c Pt:Addr}{ws:WS} (F:Q4v K x qual st f fd c Pt) (S:J5 N ps (C1 st))
  (cc:∀(A:Around) (outer:List Env) (s:Shared) (H:Hp) (E:XK),Q5b ts H->C9 k (A.deeper (envOfC qual (C1 st) s.heap.objs.size f (.ref c)))->A6 (X1 K6 P w K mg base N qual (C1 st) f (.ref c) A outer s H E).nox H (M5 st) ws)
  (hw:∀rs Pr,rs.length=ps.length->sp rs Pr->ws (Y5 Pr) (F6 N rs)):FnT P w K mg base ts (k+1) f fd ps sp:=by
 obtain⟨oc,od,kV,cr,pm,an,ct,dq,rfl,lk,eg⟩:=F.ex
 refine Z1i lk eg S (fun vs H Q E h=>?_) fun A outer s H vs Q E hr h=>?_
 ·obtain⟨rs,r,hl,al,_⟩:=h
  rw [<- al.length];exact hl
 obtain⟨rs,Pr,hl,al,ok,hT,h1,h2⟩:=h
 obtain⟨t,ht,q⟩:=Y1b (st:=st) (cdv:=.ref c) (A:=A) (outer:=outer) (s:=s) (E:=E) rfl (cc A outer s H E hT hr) hl al ok h1 h2 hw
 exact⟨t,ht.nox,q⟩
end
section
variable {X:Cx}{H0:Hp}{e:Expr}{es:List Expr}{wr:WA}{k:Nat}{f:Addr}{fd:FuncData}{ps:List Str}{sp:O8}{x:Str}{p pos:Pos}{ts:List Addr}
def Q1g (sp:O8):Prop:=∀rs P Q,(∀r,P r->Q r)->sp rs P->sp rs Q
def W8 (sp:O8) (wr:WA):WE:=fun τ Q=>wr τ fun rs=>rs.all M4=true/\sp (rs.map nrm) Q
theorem DE.callP (mf:Q1g sp) (F:O9 X.prog X.w X.K X.mg X.base K6 k f fd ps (Q4b X.K ts (e::es).length sp)) (hr:C9 k X.A) (hT:Q5b ts H0) (hg:Gl X x) (hm:X.mg x=some (.ref f)) (hk:PySem.W.keepIn X.K (.ref f)=true) (hb:U2 X.K fd ps [])
  (ha:DA X H0 (e::es) wr) (ef:(x==("__debug__":Str))=false:=by decide) (he:starEach (e::es) X.env=(false,eval e X.env)::starEach es X.env:=by rfl) (hpl:(backTo pos (starEach es X.env)).any (·.1)=false:=by rfl) :
  DE X H0 (.Call (.Name x p) (e::es) [] pos) (W8 sp wr) where
 mono:=fun τ P Q g h=>ha.mono τ _ _ (fun rs ⟨ok,h1⟩=>⟨ok,mf _ _ _ g h1⟩) h
 pe:=M7 (Z3a F hr hg hm hk hb .nil Q8e ha.pa ef he hpl) fun σ H Q ⟨τ,hR,h⟩=>⟨τ,hR,ha.mono τ _ _ (fun rs ⟨jn,ok,h1⟩ vs H1 s1 ck=>by
  refine⟨rs,_,jn,?_,ok,fun Pt hp=>s1 _ _ (hR.same _ _ (hT Pt hp)),h1,fun r v H' q s2 ir=>q v H' (s1.trans s2) (ir.older s1)⟩
  rw [bO]
  exact ck.v) (ha.len τ _ h)⟩
@[simp] theorem Q1v {τ:A8}{Q:R->Prop}:W8 sp wr τ Q=wr τ fun rs=>rs.all M4=true/\sp (rs.map nrm) Q:=rfl
end
section
variable {P:Program}{w:World}{K:Fg9}{mg:Str->Option Value}{base:Heap}{ts:List Addr}{x qual:Str}{st:Stmt}{f:Addr}{fd:FuncData}{N ps:List Str}{k kl:Nat}{sp:O8}{c Pt:Addr}
 {rE dQ:Stmt}{params:Arguments}{body:Expr}{sc:Scope}{e9 ph:Pos}{cs:List (Str×Nat)}{rH:List Str}{w1 w2:WS}{wb:WE}
end
end TK
end
section
namespace L2
open PySem PySem.Spec PyProof.Rows
section
variable {X:Cx}{k v:Expr}{tk tv:TE}{pos:Pos}
end
end L2
namespace TK
open PySem PySem.Spec PyProof.Rows L2
theorem Q1q {K:Fg9}{H:Hp}:∀{d:D}{k:A7}{v:V},P5 d=some k->A1 K H d v->v=kV k
 | .int i,k,v,h,q=>by cases h;unfold A1 at q;rw [q];rfl
 | .str x,k,v,h,q=>by cases h;unfold A1 at q;rw [q];rfl
 | .non,_,_,h,_=>by cases h
 | .bl _,_,_,h,_=>by cases h
 | .tup _,_,_,h,_=>by cases h
 | .lst _,_,_,h,_=>by cases h
section
variable {X:Cx}{H0:Hp}{a b c e o tg:Expr}{pos bI p2 apos bq:Pos}{wa wb wi we:WE}{x:Str}
theorem B9.dkAt {K:Fg9}{H:Hp} {τ:A8} {σ:St}{i:Nat}{kvs:List (A7×D)} (hR:B9 K H0 τ σ H) (e1:τ[i]?=some (some (.dk kvs))):∃a ps,σ[i]?=some (some (.ref a))/\H0 a=none/\H a=some (.dK ps)/\B5 K H kvs ps:=by
 obtain⟨v,hv,a,xs,rfl,h0,sq,al⟩:=hR.here i _ e1
 exact⟨a,xs,hv,h0,sq,al⟩
def Q4q (i:Nat) (we:WE):WE:=fun τ Q=>∃kvs,τ[i]?=some (some (.dk kvs))/\we τ fun r=>∃kd k d,r=.st kd/\P5 kd=some k/\D5 kvs k=some d/\Q (.st d)
theorem DE.kget {i:Nat} (hu:X.A.units+1<cLine) (ho:PE X o (O3 i)) (he:DE X H0 e we) (hs:Q2g e):DE X H0 (.Subscript o e pos) (Q4q i we) where
 mono:=fun τ P Q f ⟨kvs,e1,h⟩=>⟨kvs,e1,he.mono τ _ _ (fun r ⟨ds,ks,d,a1,a2,a3,a4⟩=>⟨ds,ks,d,a1,a2,a3,f _ a4⟩) h⟩
 pe:=M7 (Q6b hu ho he.pe hs) fun σ H Q ⟨τ,hR,kvs,e1,h⟩=>by
  obtain⟨a,ps,hv,h0,sq,kv⟩:=hR.dkAt e1
  refine⟨_,hv,τ,hR,he.mono τ _ _ (fun r ⟨kd,k,d,a1,a2,a3,a4⟩ v H1 s1 ir=>?_) h⟩
  subst a1
  cases Q1q a2 (show A1 X.K H1 kd v from ir)
  rcases B5.val (k:=k) (kv.mono (Kp.of s1) _ _)with⟨n1,_⟩ | ⟨d',v',n1,n2,n3⟩
  ·rw [a3]at n1;cases n1
  ·rw [a3]at n1;cases n1
   refine⟨a,v',rfl,?_,a4 _ _ s1 n3⟩
   have g:=V6.k (k:=k) (s1 _ _ sq)
   rw [n2]at g
   exact g
def Q4r (i:Nat) (we:WE):WT:=fun τ Q=>∃kvs,τ[i]?=some (some (.dk kvs))/\we τ fun r=>∃kd k,r=.st kd/\P5 kd=some k/\Q (!(D5 kvs k).isSome)
theorem DT.knotin {i:Nat} (hu:X.A.units+1<cLine) (he:DE X H0 e we) (ho:PE X o (O3 i)) (h1:behindInMarks .NotIn o=false:=by rfl):DT X H0 (.Compare e [.NotIn] [o] pos) (Q4r i we) where
 mono:=fun τ P Q f ⟨kvs,e1,h⟩=>⟨kvs,e1,he.mono τ _ _ (fun r ⟨ds,ks,a1,a2,a4⟩=>⟨ds,ks,a1,a2,f _ a4⟩) h⟩
 pt:=ptW (W4e (W2m hu he.pe ho) h1) fun σ H Q ⟨τ,hR,kvs,e1,h⟩=>by
  refine⟨τ,hR,he.mono τ _ _ (fun r ⟨kd,k,a1,a2,a4⟩ v H1 s1 ir=>?_) h⟩
  obtain⟨a,ps,hv,h0,sq,kv⟩:=(hR.mono s1).dkAt e1
  subst a1
  cases Q1q a2 (show A1 X.K H1 kd v from ir)
  refine⟨_,hv,a,_,rfl,V6.k (k:=k) sq,?_⟩
  have e:(S4 ps k).isSome=(D5 kvs k).isSome:=by
   rcases B5.val (k:=k) kv with⟨n1,n2⟩ | ⟨d',v',n1,n2,n3⟩ <;> rw [n1,n2] <;> rfl
  rw [e]
  exact⟨_,rfl,a4 _ s1⟩
def Q4s (i:Nat) (we wv:WE):WS:=fun E τ=>wv τ fun r=>∃d,r=.st d/\∃kvs,τ[i]?=some (some (.dk kvs))/\we τ fun rk=>∃kd k,rk=.st kd/\P5 kd=some k/\kvs.length<sizeLine/\E.nx (τ.set i (some (.dk (M8 kvs k d))))
theorem DS.kput {i:Nat}{v:Expr}{wv:WE} (hu:X.A.units+1<cLine) (ho:PE X o (O3 i)) (he:DE X H0 e we) (hv:DE X H0 v wv) (hs:swapsWith v (some (.Subscript o e bI)) pos.line X.env=pure false:=by rfl) :
  DS X H0 (.Assign [.Subscript o e bI] v pos) (Q4s i we wv) where
 mono:=fun τ E F le h=>hv.mono τ _ _ (fun r ⟨d,e1,kvs,e2,h⟩=>⟨d,e1,kvs,e2,he.mono τ _ _ (fun r ⟨ds,ks,a1,a2,a3,a4⟩=>⟨ds,ks,a1,a2,a3,le.nx _ a4⟩) h⟩) h
 ps:=Q3 (Y1k hu ho he.pe hv.pe hs) fun D σ H ⟨τ,hR,h⟩=>by
  refine⟨τ,hR,hv.mono τ _ _ (fun r ⟨d,e1,kvs,e2,h⟩ u H1 s1 ir=>?_) h⟩
  subst e1
  have eh:=hR.mono s1
  obtain⟨a,ps,gx,h0,sq,kv⟩:=eh.dkAt e2
  refine⟨_,gx,τ,eh,he.mono τ _ _ (fun rk ⟨kd,k,a1,a2,a3,a4⟩ y H2 s2 ik=>?_) h⟩
  subst a1
  cases Q1q a2 (show A1 X.K H2 kd y from ik)
  have cT:=s2 _ _ sq
  have gQ:=kv.mono (Kp.of s2) _ _
  refine⟨a,_,rfl,Q1f.k cT (by rw [<- B5.length gQ];exact a3),?_⟩
  have kp:Kp H2 (upd H2 a (.dK (O0 ps k u))):=Kp.updM cT (by intro xs z;cases z) (by intro o u z;cases z) _
  have iv:A1 X.K H2 d u:=A1.mono (Kp.of s2) _ _ ir
  refine a4 σ _ ((Kp.of (s1.trans s2)).trans kp) ((eh.mono s2).mutG e2 rfl gx h0 cT (by intro xs z;cases z) (by intro o u z;cases z) ⟨a,_,rfl,h0,upd_same,?_⟩)
  exact B5.mono kp _ _ (B5.put iv gQ)
@[simp] theorem Y2j {i:Nat} {τ:A8}{Q:R->Prop}:Q4q i we τ Q=∃kvs,τ[i]?=some (some (.dk kvs))/\we τ fun r=>∃kd k d,r=.st kd/\P5 kd=some k/\D5 kvs k=some d/\Q (.st d):=rfl
@[simp] theorem Y2k {i:Nat} {τ:A8}{Q:Bool->Prop}:Q4r i we τ Q=∃kvs,τ[i]?=some (some (.dk kvs))/\we τ fun r=>∃kd k,r=.st kd/\P5 kd=some k/\Q (!(D5 kvs k).isSome):=rfl
@[simp] theorem Y2l {i:Nat}{wv:WE}{E:F4} {τ:A8}:Q4s i we wv E τ=wv τ fun r=>∃d,r=.st d/\∃kvs,τ[i]?=some (some (.dk kvs))/\we τ fun rk=>∃kd k,rk=.st kd/\P5 kd=some k/\kvs.length<sizeLine/\E.nx (τ.set i (some (.dk (M8 kvs k d)))):=rfl
end
end TK
end
section
namespace TK
open PySem PySem.Spec PyProof.Rows L2
noncomputable instance decD:DecidableEq D:=fun a b=>Classical.propDecidable (a=b)
noncomputable def R4 {α β:Type} (p:α->β->Prop):List α->List β->Prop
 | [],vs=>vs=[]
 | k::ks,vs=>∃v r,vs=v::r/\p k v/\R4 p ks r
theorem R4.len {α β:Type}{p:α->β->Prop}:∀{ks:List α}{vs:List β},R4 p ks vs->ks.length=vs.length
 | [],vs,h=>by rw [show vs=[]from h];rfl
 | k::ks,vs,h=>by obtain⟨v,r,rfl,_,t⟩:=h;rw [aA,aA,t.len]
theorem R4.imp {α β:Type}{p q:α->β->Prop} (f:∀a b,p a b->q a b):∀{ks:List α}{vs:List β},R4 p ks vs->R4 q ks vs
 | [],vs,h=>h
 | k::ks,vs,h=>by obtain⟨v,r,rfl,i,t⟩:=h;exact⟨v,r,rfl,f _ _ i,t.imp f⟩
theorem R4.at {α β:Type}{p:α->β->Prop}:∀{ks:List α}{vs:List β}{j:Nat}{k:α}{v:β},R4 p ks vs->ks[j]?=some k->vs[j]?=some v->p k v
 | [],vs,j,k,v,h,e,_=>by simp at e
 | k::ks,vs,0,k',v',h,e,e'=>by
  obtain⟨v,r,rfl,i,t⟩:=h
  simp at e e';subst e e';exact i
 | k::ks,vs,j+1,k',v',h,e,e'=>by
  obtain⟨v,r,rfl,i,t⟩:=h
  exact t.at (by simpa using e) (by simpa using e')
noncomputable def G4 (h:Heap):Nat->D->Value->Prop
 | _,.non,v=>v=.none
 | _,.int i,v=>∃t,v=.int i t
 | _,.str x,v=>∃t,v=.str x t
 | n+1,.tup ks,v=>∃a items,v=.ref a/\h.IsTuple a items/\R4 (G4 h n) ks items.toList
 | _,_,_=>False
noncomputable def X4 (w:World):Nat->D->Int
 | _,.non=>reduceHash 0xFCA86420
 | _,.int i=>hashInt i
 | _,.str x=>hashStr w x
 | n+1,.tup ks=>reduceHash (Builtin.Tuple.tupleHashOf (ks.map (X4 w n)))
 | _,_=>0
noncomputable def T9:Nat->D->Nat
 | n+1,.tup ks=>(ks.map (T9 n)).sum+1
 | _,_=>1
theorem Y8r {h:Heap}{a:Addr}{i j:Array Value} (x:h.IsTuple a i) (y:h.IsTuple a j):i=j:=by
 obtain⟨o,e,_,n,d⟩:=x
 obtain⟨o',e',_,n',d'⟩:=y
 rw [e]at e';cases e'
 rw [d]at d';cases d';rfl
theorem Y4t {α β:Type}{p q:α->β->Prop} (f:∀x y v,p x v->q y v->x=y):∀{xs ys:List α}{vs:List β},R4 p xs vs->R4 q ys vs->xs=ys
 | [],[],_,_,_=>rfl
 | [],y::ys,vs,h1,h2=>by obtain⟨_,_,e,_⟩:=h2;rw [show vs=[]from h1]at e;cases e
 | x::xs,[],vs,h1,h2=>by obtain⟨_,_,e,_⟩:=h1;rw [show vs=[]from h2]at e;cases e
 | x::xs,y::ys,vs,h1,h2=>by
  obtain⟨v,r,rfl,i1,t1⟩:=h1
  obtain⟨v',r',e,i2,t2⟩:=h2
  cases e
  rw [f _ _ _ i1 i2,Y4t f t1 t2]
theorem G4.shape {h:Heap}:∀{n:Nat}{x:D}{v:Value},G4 h n x v->(x=.non/\v=.none)\/(∃i t,x=.int i/\v=.int i t)\/(∃i t,x=.str i/\v=.str i t)\/∃m ks a items,n=m+1/\x=.tup ks/\v=.ref a/\h.IsTuple a items/\R4 (G4 h m) ks items.toList
 | n,.non,v,q=>.inl ⟨rfl,by cases n <;> exact q⟩
 | n,.int i,v,q=>by
  obtain⟨t,e⟩:∃t,v=.int i t:=by cases n <;> exact q
  exact .inr (.inl ⟨i,t,rfl,e⟩)
 | n,.str i,v,q=>by
  obtain⟨t,e⟩:∃t,v=.str i t:=by cases n <;> exact q
  exact .inr (.inr (.inl ⟨i,t,rfl,e⟩))
 | 0,.tup ks,v,q=>q.elim
 | m+1,.tup ks,v,q=>by
  obtain⟨a,items,e,t,z⟩:=q
  exact .inr (.inr (.inr ⟨m,ks,a,items,rfl,rfl,e,t,z⟩))
 | n,.bl b,v,q=>by cases n <;> exact q.elim
 | n,.lst b,v,q=>by cases n <;> exact q.elim
theorem G4.one {h:Heap}:∀(n m:Nat) (x y:D) (v:Value),G4 h n x v->G4 h m y v->x=y:=by
 intro n
 induction n with
 | zero =>
  intro m x y v h1 h2
  rcases h1.shape with⟨rfl,rfl⟩ | ⟨i,t,rfl,rfl⟩ | ⟨i,t,rfl,rfl⟩ | ⟨m1,ks,a,items,e0,rfl,rfl,t,z⟩ <;>
   rcases h2.shape with⟨rfl,e⟩ | ⟨j,u,rfl,e⟩ | ⟨j,u,rfl,e⟩ | ⟨m2,lS,a2,fw,_,rfl,e,t2,z2⟩ <;> first | rfl | (cases e;rfl) | (cases e;done) | omega
 | succ n ih =>
  intro m x y v h1 h2
  rcases h1.shape with⟨rfl,rfl⟩ | ⟨i,t,rfl,rfl⟩ | ⟨i,t,rfl,rfl⟩ | ⟨m1,ks,a,items,e0,rfl,rfl,t,z⟩ <;>
   rcases h2.shape with⟨rfl,e⟩ | ⟨j,u,rfl,e⟩ | ⟨j,u,rfl,e⟩ | ⟨m2,lS,a2,fw,_,rfl,e,t2,z2⟩ <;> first | rfl | (cases e;rfl) | (cases e;done) | skip
  cases e;cases e0;cases Y8r t t2
  rw [Y4t (fun x y v=>ih m2 x y v) z z2]
theorem G4.stays {h h':Heap} (k:∀a items,h.IsTuple a items->h'.IsTuple a items):∀(n:Nat) (x:D) (v:Value),G4 h n x v->G4 h' n x v:=by
 intro n
 induction n with
 | zero=>intro x v q;cases x <;> exact q
 | succ n ih =>
  intro x v q
  cases x with
  | tup ks =>
   unfold G4 at q ⊢
   obtain⟨a,it,e,t,z⟩:=q
   exact⟨a,it,e,k _ _ t,z.imp ih⟩
  | _=>exact q
section
variable {E:VS9}{prog:Program}{w:World}
theorem Z9c {n:Nat} (ih:∀(k:D) (v:Value) (A:Around) (s:Shared) (Q:Int->Shared->Prop),A.units+n<cLine->G4 s.heap n k v->Q (X4 w n k) { s with toks:=s.toks+T9 n k }->wpAny (model prog w) A (pyHash v) Q E s) :
  ∀(ks:List D) (vs:List Value) (A:Around) (s:Shared) (b:Array Int) (Q:Array Int->Shared->Prop),A.units+n<cLine->R4 (G4 s.heap n) ks vs ->
   Q (b++(ks.map (X4 w n)).toArray) { s with toks:=s.toks+(ks.map (T9 n)).sum }->wpAny (model prog w) A (forIn vs b fun x r=>do let h <- pyHash x;pure PUnit.unit;pure (ForInStep.yield (r.push h))) Q E s
 | [],vs,A,s,b,Q,_,z,q=>by
  rw [show vs=[]from z]
  exact af (by simpa using q)
 | k::ks,vs,A,s,b,Q,hu,z,q=>by
  obtain⟨v,r,rfl,i,t⟩:=z
  rw [bj]
  refine a9 (a9 (ih k v A s _ hu i ?_))
  refine a9 (af (af ?z))
  refine Z9c ih ks r A { s with toks:=s.toks+T9 n k } _ Q hu t ?_
  have e:(b.push (X4 w n k))++(ks.map (X4 w n)).toArray=b++((k::ks).map (X4 w n)).toArray:=by simp
  have e2:s.toks+T9 n k+(ks.map (T9 n)).sum=s.toks+((k::ks).map (T9 n)).sum:=by simp [Nat.add_assoc]
  rw [e]
  show Q _ { s with toks:=s.toks+T9 n k+(ks.map (T9 n)).sum }
  rw [e2];exact q
theorem Y8x:∀(n:Nat) (k:D) (v:Value) (A:Around) (s:Shared) (Q:Int->Shared->Prop),A.units+n<cLine->G4 s.heap n k v->Q (X4 w n k) { s with toks:=s.toks+T9 n k }->wpAny (model prog w) A (pyHash v) Q E s:=by
 have flat:∀(n:Nat) (k:D) (v:Value) (A:Around) (s:Shared) (Q:Int->Shared->Prop),(∀ks,k≠.tup ks)->G4 s.heap n k v->Q (X4 w n k) { s with toks:=s.toks+T9 n k }->wpAny (model prog w) A (pyHash v) Q E s:=by
  intro n k v A s Q nt i q
  cases k with
  | tup ks=>exact absurd rfl (nt ks)
  | bl b=>cases n <;> exact i.elim
  | lst b=>cases n <;> exact i.elim
  | non =>
   have e:v=.none:=by cases n <;> exact i
   subst e
   have e1:X4 w n .non=reduceHash 0xFCA86420:=by cases n <;> rfl
   have e2:T9 n .non=1:=by cases n <;> rfl
   rw [e1,e2]at q
   exact PySem.W.pyHash_slot (T:="NoneType") rfl F.slot_NoneType_hash F.entry_NoneType_hash (F.args_NoneType_hash_1 _) (beq_builtin_none _) (.inl rfl) (a9 (af (a9 (wpAny_mkInt (af ⟨_,_,rfl,q⟩)))))
  | int j =>
   obtain⟨t,rfl⟩:∃t,v=.int j t:=by cases n <;> exact i
   have e1:X4 w n (.int j)=hashInt j:=by cases n <;> rfl
   have e2:T9 n (.int j)=1:=by cases n <;> rfl
   rw [e1,e2]at q
   exact wpAny_pyHash_int q
  | str j =>
   obtain⟨t,rfl⟩:∃t,v=.str j t:=by cases n <;> exact i
   have e1:X4 w n (.str j)=hashStr w j:=by cases n <;> rfl
   have e2:T9 n (.str j)=1:=by cases n <;> rfl
   rw [e1,e2]at q
   exact wpAny_pyHash_str q
 intro n
 induction n with
 | zero =>
  intro k v A s Q hu i q
  cases k with
  | tup ks=>exact i.elim
  | _=>exact flat 0 _ v A s Q (by intro ks e;cases e) i q
 | succ n ih =>
  intro k v A s Q hu i q
  cases k with
  | tup ks =>
   obtain⟨a,items,rfl,t,z⟩:=i
   obtain⟨o,e,c,m,d⟩:=id t
   refine PySem.W.pyHash_slot (T:="tuple") ⟨o,e,c⟩ F.slot_tuple_hash F.entry_tuple_hash (F.args_tuple_hash_1 _) (beq_builtin_none _) (.inr (by omega)) ?_
   change wpAny (model prog w) A.in1 (Builtin.Tuple.tupleItemsOf (Value.ref a)>>=_) _ _ s
   refine a9 (wpAny_tupleItemsOf e d (a9 ?_))
   rw [<- cR]
   refine Z9c ih ks items.toList A.in1 s #[] _ (by simp only [bW];omega) z ?_
   refine a9 (wpAny_mkInt (af ⟨_,_,rfl,?_⟩))
   have q2:Q (reduceHash (Builtin.Tuple.tupleHashOf (ks.map (X4 w n)))) { s with toks:=s.toks+(ks.map (T9 n)).sum+1 }:=q
   simpa using q2
  | _=>exact flat (n+1) _ v A s Q (by intro ks e;cases e) i q
theorem Y7s {A:Around}{s:Shared}{a b:Addr}{x y:Array Value}{xs ys:List D}{n m:Nat} (hu:A.units<cLine) (ta:s.heap.IsTuple a x) (tb:s.heap.IsTuple b y) (za:R4 (G4 s.heap n) xs x.toList) (zb:R4 (G4 s.heap m) ys y.toList)
  (he:∀(k l:D) (u v:Value),G4 s.heap n k u->G4 s.heap m l v->SeqAt.EqAt A.in1 s u v (decide (k=l))):SeqAt.RcAt A s (.ref a) (.ref b) (decide (D.tup xs=D.tup ys)):=by
 have lx:xs.length=x.size:=by rw [za.len];simp
 have ly:ys.length=y.size:=by rw [zb.len];simp
 have r:=SeqAt.RcAt.tuples (e:=fun j=>decide (xs[j]?=ys[j]?)) ta tb hu fun j h1 h2=>by
  have e1:xs[j]?=some xs[j]:=ae (by omega)
  have e2:ys[j]?=some ys[j]:=ae (by omega)
  have q:=he xs[j] ys[j] x[j] y[j] (za.at e1 (by simp [h1])) (zb.at e2 (by simp [h2]))
  have:decide (xs[j]?=ys[j]?)=decide (xs[j]=ys[j]):=by rw [e1,e2];by_cases z:xs[j]=ys[j] <;> simp [z]
  show SeqAt.EqAt A.in1 s x[j] y[j] (decide (xs[j]?=ys[j]?))
  rw [this];exact q
 have e:((List.range (min x.size y.size)).all (fun j=>decide (xs[j]?=ys[j]?))&&x.size==y.size)=decide (D.tup xs=D.tup ys):=by
  rw [Bool.eq_iff_iff]
  simp only [cj,cb,aY,fF,beq_iff_eq,D.tup.injEq]
  constructor
  ·rintro ⟨h1,h2⟩
   refine List.ext_getElem? fun j=>?_
   by_cases hj:j<x.size
   ·exact h1 j (by omega)
   ·rw [cq (by omega),cq (by omega)]
  ·rintro rfl
   exact⟨fun _ _=>rfl,by omega⟩
 rw [e]at r;exact r
theorem k_eq {s:Shared}:∀(n m:Nat) (x y:D) (u v:Value) (A:Around),A.units+n<cLine->G4 s.heap n x u->G4 s.heap m y v->SeqAt.EqAt A s u v (decide (x=y)):=by
 have flat:∀(n m:Nat) (x y:D) (u v:Value) (A:Around),A.units+n<cLine->G4 s.heap n x u->G4 s.heap m y v ->
   (∀n' xs ys a b i j m',n=n'+1->s.heap.IsTuple a i->s.heap.IsTuple b j->R4 (G4 s.heap n') xs i.toList->R4 (G4 s.heap m') ys j.toList->a≠b->SeqAt.EqAt A s (.ref a) (.ref b) (decide (D.tup xs=D.tup ys)))->SeqAt.EqAt A s u v (decide (x=y)):=by
  intro n m x y u v A hu h1 h2 tt
  have jC:A.units<cLine:=by omega
  rcases h1.shape with⟨rfl,rfl⟩ | ⟨i,t,rfl,rfl⟩ | ⟨i,t,rfl,rfl⟩ | ⟨m1,ks,a,items,e0,rfl,rfl,t,z⟩ <;>
   rcases h2.shape with⟨rfl,rfl⟩ | ⟨j,u,rfl,rfl⟩ | ⟨j,u,rfl,rfl⟩ | ⟨m2,lS,a2,fw,_,rfl,rfl,t2,z2⟩
  ·rw [cu rfl];exact SeqAt.EqAt.same _
  ·rw [aM (by intro e;cases e)];exact SeqAt.EqAt.none_int _ _
  ·rw [aM (by intro e;cases e)];exact SeqAt.EqAt.none_str _ _
  ·rw [aM (by intro e;cases e)];exact SeqAt.EqAt.none_tuple t2 jC
  ·rw [aM (by intro e;cases e)];exact SeqAt.EqAt.int_none _ _
  ·have e:decide (D.int i=D.int j)=(i==j):=by by_cases z:i=j <;> simp [z]
   rw [e];exact SeqAt.EqAt.int_int _ _ _ _
  ·rw [aM (by intro e;cases e)];exact SeqAt.EqAt.int_str _ _ _ _
  ·rw [aM (by intro e;cases e)];exact SeqAt.EqAt.int_tuple _ _ t2 jC
  ·rw [aM (by intro e;cases e)];exact SeqAt.EqAt.str_none _ _
  ·rw [aM (by intro e;cases e)];exact SeqAt.EqAt.str_int _ _ _ _
  ·have e:decide (D.str i=D.str j)=(i==j):=by by_cases z:i=j <;> simp [z]
   rw [e];exact SeqAt.EqAt.str_str _ _ _ _
  ·rw [aM (by intro e;cases e)];exact SeqAt.EqAt.str_tuple _ _ t2 jC
  ·rw [aM (by intro e;cases e)];exact SeqAt.EqAt.tuple_none t jC
  ·rw [aM (by intro e;cases e)];exact SeqAt.EqAt.tuple_int _ _ t jC
  ·rw [aM (by intro e;cases e)];exact SeqAt.EqAt.tuple_str _ _ t jC
  ·by_cases ab:a=a2
   ·subst ab
    have e:=G4.one _ _ _ _ _ h1 h2
    rw [cu e];exact SeqAt.EqAt.same _
   ·exact tt m1 ks lS a a2 items fw m2 e0 t t2 z z2 ab
 intro n
 induction n with
 | zero=>exact fun m x y u v A hu h1 h2=>flat 0 m x y u v A hu h1 h2 fun n' _ _ _ _ _ _ _ e=>by omega
 | succ n ih =>
  exact fun m x y u v A hu h1 h2=>flat (n+1) m x y u v A hu h1 h2 fun n' xs ys a b i j m' e ta tb za zb ab=>by
   cases e
   exact SeqAt.EqAt.of_refs ab (Y7s (by omega) ta tb za zb fun k l u v h1 h2=>ih m' k l u v A.in1 (by simp only [bW];omega) h1 h2)
theorem Y8y {A:Around}{s:Shared}:∀(n f:Nat) (x:D) (v:Value) (Q:Bool->Shared->Prop),n<=f->G4 s.heap n x v->Q true s->wpAny (model prog w) A (eqIsQuiet f v) Q E s:=by
 intro n
 induction n with
 | zero =>
  intro f x v Q hf h q
  rcases h.shape with⟨rfl,rfl⟩ | ⟨i,t,rfl,rfl⟩ | ⟨i,t,rfl,rfl⟩ | ⟨m1,ks,a,items,e0,rfl,rfl,t,z⟩
  ·rw [eS f rfl];exact af q
  ·rw [eS f rfl];exact af q
  ·rw [eS f rfl];exact af q
  ·omega
 | succ n ih =>
  intro f x v Q hf h q
  rcases h.shape with⟨rfl,rfl⟩ | ⟨i,t,rfl,rfl⟩ | ⟨i,t,rfl,rfl⟩ | ⟨m1,ks,a,items,e0,rfl,rfl,t,z⟩
  ·rw [eS f rfl];exact af q
  ·rw [eS f rfl];exact af q
  ·rw [eS f rfl];exact af q
  ·cases e0
   obtain⟨o,e,c,m,d⟩:=id t
   have hT:s.TypeIs (.ref a) "tuple":=⟨o,e,c⟩
   cases f with
   | zero=>omega
   | succ f =>
    unfold eqIsQuiet
    refine a9 (wpAny_specialOf hT F.slot_tuple_eq.lookup (?_:wpAny (model prog w) A (isInstance (Value.ref a) (.type "tuple")>>=_) _ _ s))
    refine a9 (wpAny_isInstance hT isSubtype_tuple_tuple (s:=s) ?_)
    rw [aC (by decide)]
    refine a9 (bg e d (a9 ?_))
    change wpAny (model prog w) A (forIn items _ _) _ _ s
    rw [<- cR]
    have loop:∀(ks:List D) (vs:List Value),R4 (G4 s.heap n) ks vs->wpAny (model prog w) A (forIn vs (none,PUnit.unit) fun y (rX:Option Bool×PUnit)=>(do
      if (!(<- eqIsQuiet f y))=true then pure (ForInStep.done (some false,PUnit.unit))else pure (ForInStep.yield (none,PUnit.unit)))) (fun r s'=>s'=s/\r=(none,PUnit.unit)) E s:=by
     intro ks
     induction ks with
     | nil=>intro vs z;rw [show vs=[]from z];exact af ⟨rfl,rfl⟩
     | cons k ks ihk =>
      intro vs z
      obtain⟨v,r,rfl,i,z⟩:=z
      rw [bj]
      refine a9 (a9 (ih f k v _ (by omega) i ?_))
      rw [aC (by decide)]
      exact af (ihk r z)
    refine aP (loop ks items.toList z) (fun r s' ⟨e1,e2⟩=>?_) fun _ _ z=>z
    subst e1 e2
    exact af q
end
noncomputable def Z1l (prog:Program) (w:World):HeapKind prog w D where
 is:=fun h k a=>G4 h 8 k (.ref a)
 hash:=X4 w 8
 draws:=T9 8
 room:=fun A=>A.units+8<cLine
 inj:=fun h1 h2=>G4.one _ _ _ _ _ h1 h2
 keeps:=fun h1 ho hd hs=>G4.stays (fun b it t=>by
  obtain⟨o',e,c,m,d⟩:=t
  refine⟨o',(hs.2 b fun z=>?_).trans e,c,m,d⟩
  subst z
  rw [ho]at e;cases e
  rw [hd]at d;cases d) _ _ _ h1
 pyHash:=fun hu hk h=>Y8x 8 _ _ _ _ _ hu hk h
 eqBool:=fun hu hx hy h=>k_eq 8 8 _ _ _ _ _ hu hx hy _ _ _ _ h
 quiet:=fun hk h=>Y8y 8 8 _ _ _ (ah _) hk h
section
variable {κ:Type} [DecidableEq κ] {P:Program}{w:World}{knd:HeapKind P w κ}{A:Around}{E:VS9}{s:Shared}{d a:Addr}{xs:List (κ×Addr×Value)}{k:κ}
theorem W7b {y:Value}{Q:VS9} (hu:knd.room A) (hk:knd.is s.heap k a) (D:s.heap.DictOfH knd d xs) (z:xs.length<=sizeLine)
  (h1:∀(j:Nat) (p:Addr×Value),xs[j]?=some (k,p)->Q p.2 { s with toks:=s.toks+knd.draws k })
  (h2:k∉xs.map (·.1)->∀h',h'.DictOfH knd d (xs++[(k,a,y)])->Heap.SameBut d s.heap h'->Q y { s with heap:=h',toks:=s.toks+knd.draws k }):wpAny (model P w) A (dictSetDefault d (.ref a) y) Q E s:=by
 obtain⟨o,es,ep,ho,hc,hd,he,mv,hn⟩:=D
 have hz:es.size<=sizeLine:=by rw [size_of_entries he];exact z
 unfold dictSetDefault
 refine bu (a9 (knd.pyHash hu hk (a9 (wpAny_dictFind_heap (s:={ s with toks:=s.toks+knd.draws k }) hu hk ho hd he mv hn (fun no=>?_) fun j p hj=>?_))))
 ·have nk:=not_mem_keys_of_get no
  refine a9 (dW (a9 (wpAny_updateDictKeys (s:={ s with toks:=s.toks+knd.draws k }) ho hd (af (h2 nk _ ?_ (bC ..))) (hz:=hz))))
  refine⟨_,_,ep+1,fG _ ho (Obj.isFreed_of_dict (Obj.data_mapDictKeys hd _)),hc.mapDictKeys _,Obj.data_mapDictKeys hd _,by simp [he,entryOfKey],fun x hx=>?_,?_⟩
  ·rcases aR.mp hx with q | q
   ·exact knd.keeps (mv x q) ho hd (bC ..)
   ·rw [aN.mp q];exact knd.keeps hk ho hd (bC ..)
  ·rw [aX,bS (l₁:=xs.map (·.1))]
   refine⟨hn,by simp,fun b hb c im e=>?_⟩
   rw [show c=k by simpa using im]at e
   exact nk (e ▸ hb)
 ·refine a9 (wpAny_dictEntries (s:={ s with toks:=s.toks+knd.draws k }) ho hd ?_)
  rw [entry_at he j,hj]
  exact a9 (dW (af (h1 j p hj)))
theorem Y6p {y:Value}{Q:VS9} (hu:knd.room A.in1) (hs:(d==sysModules)=false) (hk:knd.is s.heap k a) (D:s.heap.DictOfH knd d xs) (z:xs.length<=sizeLine)
  (h1:∀(j:Nat) (p:Addr×Value),xs[j]?=some (k,p)->Q p.2 { s with toks:=s.toks+knd.draws k })
  (h2:k∉xs.map (·.1)->∀h',h'.DictOfH knd d (xs++[(k,a,y)])->Heap.SameBut d s.heap h'->Q y { s with heap:=h',toks:=s.toks+knd.draws k }):wpAny (model P w) A (call (.builtin "dict.setdefault") [.ref d,.ref a,y]) Q E s:=by
 refine be dY D.typeIs PySem.F.entry_dict_setdefault ?_ (PySem.F.args_dict_setdefault_3 _ _ _)
 unfold Builtin.«dict.setdefault» Builtin.Dict.keyAndDefault
 refine a9 (a9 (wpAny_notOrdered_dict D.typeIs ?_))
 change wpAny (model P w) A.in1 (pure (d,Value.ref a,some y)) _ _ s
 refine af (?_:wpAny (model P w) A.in1 (if (d==sysModules)=true then _ else(dictSetDefault d (.ref a) y>>=fun r=>ret r)) _ _ s)
 rw [aC (by rw [hs];decide)]
 exact a9 (W7b hu hk D z (fun j p hj=>af ⟨_,rfl,h1 j p hj⟩) fun n h' D' sb=>af ⟨_,rfl,h2 n h' D' sb⟩)
theorem Y6i {Q:VS9} (hs:(d==sysModules)=false) (D:s.heap.DictOfH knd d xs) (z:xs.length<=sizeLine) (h:∀t t',Q (.int xs.length t) { s with toks:=t' }):wpAny (model P w) A (call (.builtin "len") [.ref d]) Q E s:=by
 have rT:((xs.length:Nat):Int)<2 ^ 63:=by rw [sizeLine_eq]at z;omega
 refine Calls.call_function_entry kind_len plain_len entry_len (args_len1 (Value.ref d)) ?_
 unfold Builtin.«len»
 refine a9 (m:=oneArg "len" _) (af (a9 (m:=callSpecial? (.ref d) (Str.ofString "__len__")) ?_))
 have hT:=D.typeIs
 obtain⟨o,es,ep,ho,hc,hd,he,mv,hn⟩:=D
 have qZ:es.size=xs.length:=size_of_entries he
 refine b9 (name:=Str.ofString "__len__") hT PySem.F.slot_dict_len (be PySem.F.slot_dict_len hT PySem.F.entry_dict_len ?_ (PySem.F.args_dict_len_1 _))
 change wpAny (model P w) _ (dictSize d>>=_) _ _ s
 unfold dictSize
 refine a9 (a9 (wpAny_dictEntries ho hd (af (a9 (wpAny_pendingCount_other hs (a9 (wpAny_mkInt (af ⟨_,rfl,?_⟩))))))))
 refine a9 (bu (af (a9 (g8 ?_))))
 rw [Nat.add_zero,qZ]
 rw [aC (by omega),aC (by omega)]
 exact a9 (wpAny_mkInt (af ⟨_,rfl,h _ _⟩))
end
noncomputable def Q1:Nat->D->Bool
 | _,.non=>true
 | _,.int _=>true
 | _,.str _=>true
 | n+1,.tup ks=>ks.all (Q1 n)
 | _,_=>false
def GDh (P:Program) (w:World) (p:Addr) (ks:List (D×Addr)) (h:Heap):Prop :=
 (p==sysModules)=false/\ks.length<=sizeLine/\∃xs:List (D×Addr×Value),xs.map (fun x=>(x.1,x.2.1))=ks/\(∀(i:Nat) x,xs[i]?=some x->∃t,x.2.2=.int i t) /\
  ∃o es ep,h.get? p=some o/\o.ExactDict/\o.data=.dict es ep/\es.toList=xs.map (entryOfKey (Z1l P w))/\(xs.map (·.1)).Nodup
noncomputable def gD (X:Cx) (p:Addr) (ks:List (D×Addr)):HO:=.ext (GDh X.prog X.w p ks)
section
variable {P:Program}{w:World}{H:Hp}{h h':Heap}{p:Addr}{ks:List (D×Addr)}{K:Fg9}
theorem GDh.ok (g:GDh P w p ks h):F1 P w H h p (.ext (GDh P w p ks)):=by
 obtain⟨o,e⟩:∃o,h.get? p=some o:=by obtain⟨_,_,_,_,_,o,_,_,e,_⟩:=g;exact⟨o,e⟩
 refine⟨g,⟨o,e⟩,fun h1 h2 ⟨a,b,xs,c,d,o,es,ep,e,r⟩ k=>⟨a,b,xs,c,d,o,es,ep,k _ e,r⟩⟩
theorem Y4s (ok:F5 P w H h) {n:Nat} (ih:∀(d:D) (v:V) (u:Value),Q1 n d=true->A1 K H d v->B8 v u->G4 h n d u) :
  ∀(ds:List D) (vs:List V) (us:List Value),ds.all (Q1 n)=true->AllS K H ds vs->C0 vs us->R4 (G4 h n) ds us
 | [],vs,us,_,al,r=>by
  unfold AllS at al;subst al
  cases r;exact rfl
 | d::ds,vs,us,hk,al,r=>by
  unfold AllS at al
  obtain⟨v,t,rfl,i,al⟩:=al
  cases r with
  | cons r1 r2 =>
   rw [List.all_cons,cj]at hk
   exact⟨_,_,rfl,ih d v _ hk.1 i r1,Y4s ok ih ds t _ hk.2 al r2⟩
theorem Z9f (ok:F5 P w H h):∀(n:Nat) (d:D) (v:V) (u:Value),Q1 n d=true->A1 K H d v->B8 v u->G4 h n d u:=by
 have flat:∀(n:Nat) (d:D) (v:V) (u:Value),(∀ks,d≠.tup ks)->Q1 n d=true->A1 K H d v->B8 v u->G4 h n d u:=by
  intro n d v u nt hk i r
  cases d with
  | tup ks=>exact absurd rfl (nt ks)
  | non=>unfold A1 at i;subst i;cases (show u=.none from r);cases n <;> exact rfl
  | bl b=>cases n <;> cases hk
  | lst b=>cases n <;> cases hk
  | int j=>unfold A1 at i;subst i;obtain⟨t,rfl⟩:=(show ∃t,u=Value.int j t from r);cases n <;> exact⟨t,rfl⟩
  | str j=>unfold A1 at i;subst i;obtain⟨t,rfl⟩:=(show ∃t,u=Value.str j t from r);cases n <;> exact⟨t,rfl⟩
 intro n
 induction n with
 | zero =>
  intro d v u hk i r
  cases d with
  | tup ks=>cases hk
  | _=>exact flat 0 _ v u (by intro ks e;cases e) hk i r
 | succ n ih =>
  intro d v u hk i r
  cases d with
  | tup ks =>
   unfold A1 at i
   obtain⟨a,xs,rfl,e,al⟩:=i
   cases (show u=Value.ref a from r)
   obtain⟨_,aU,rv,t⟩:=(show F1 P w H h a (.tup xs)from ok a _ e)
   exact⟨a,aU.toArray,rfl,t,by simpa using Y4s ok ih ks xs aU hk al rv⟩
  | _=>exact flat (n+1) _ v u (by intro ks e;cases e) hk i r
theorem GDh.dict (ok:F5 P w H h) (g:GDh P w p ks h) (hk:∀x∈ks,Q1 8 x.1=true/\A1 K H x.1 (.ref x.2)) :
  ∃xs:List (D×Addr×Value),xs.map (fun x=>(x.1,x.2.1))=ks/\(∀(i:Nat) x,xs[i]?=some x->∃t,x.2.2=.int i t)/\h.DictOfH (Z1l P w) p xs:=by
 obtain⟨_,_,xs,e,iv,o,es,ep,h1,h2,h3,h4,h5⟩:=g
 refine⟨xs,e,iv,o,es,ep,h1,h2,h3,h4,fun x hx=>?_,h5⟩
 obtain⟨k1,k2⟩:=hk (x.1,x.2.1) (by rw [<- e];exact am.mpr ⟨x,hx,rfl⟩)
 exact Z9f ok 8 _ _ _ k1 k2 rfl
end
section
variable {X:Cx}{ac:Pn9} {σ:St}{H:Hp}{s:Shared}{p:Addr}
theorem Y6h:Q0s X (.builtin "len") (fun xs H Q=>∃p ks,xs=[V.ref p]/\H p=some (gD X p ks)/\(∀x∈ks,Q1 8 x.1=true/\A1 X.K H x.1 (.ref x.2))/\Q (.int ks.length) H):=by
 intro ac s σ H xs us Q I r ⟨p,ks,e,hp,hk,q⟩
 subst e
 obtain⟨u,rfl,ru⟩:=R1 r
 cases ru
 have g:GDh X.prog X.w p ks s.heap:=(I.hok p _ hp).1
 obtain⟨xs,e,iv,D⟩:=g.dict I.hok hk
 have el:xs.length=ks.length:=by rw [<- e,ag]
 refine Y6i g.1 D (by rw [el];exact g.2.1) fun t t'=>⟨.int ks.length,H,I.tok _,⟨t,by rw [el]⟩,q⟩
theorem Y8o {u:HO}{o:Obj}{H':Hp} (I:A0 X ac σ (upd H p u) s) (hn:H p=none) (nt:∀xs,u≠.tup xs) (nf:∀o v,u≠.frz o v) (no:∀y,¬ Q6t y u) (nb:∀ps,u≠.tbl ps) (e:s.heap.get? p=some o) (d:∀v,o.data≠.cell v) :
  A0 X ((p,o)::ac) σ H s:=by
 have at_:upd H p u p=some u:=upd_same
 have gL:∀b v,H b=some v->upd H p u b=some v:=fun b v q=>by rw [B1 (U9 q hn)];exact q
 have fh:∀b,upd H p u b=none->H b=none/\b≠p:=fun b q=>by
  by_cases z:b=p
  ·subst z;rw [upd_same]at q;cases q
  ·rw [B1 z]at q;exact⟨q,z⟩
 have pL:p≠X.env.locals:=fun z=>by have:=I.free;rw [<- z,upd_same]at this;cases this
 have pF:p∉X.fs:=fun z=>by
  obtain⟨_,o,ho,_⟩:=I.ok.funs.mem z
  have:=I.base.free p o ho (I.ok.frf p z) fun w=>I.ok.exfs p w z
  rw [upd_same]at this;cases this
 refine⟨I.ok,I.os,I.bare,⟨I.base.keep,I.base.slot,fun b o q n x=>(fh b (I.base.free b o q n x)).1,I.base.there,fun b xs q=>?_,fun b o v q=>?_,fun b ps q=>?_⟩,I.loc,I.cell,(fh _ I.free).1,fun x c q=>(fh _ (I.freeC x c q)).1,fun a ha=>?_,fun b v q=>?_,I.len⟩
 ·have r:=I.base.tups b xs q
  by_cases z:b=p
  ·subst z;rw [upd_same]at r;cases r;exact absurd rfl (nt _)
  ·rw [B1 z]at r;exact r
 ·have r:=I.base.frzs b o v q
  by_cases z:b=p
  ·subst z;rw [upd_same]at r;cases r;exact absurd rfl (nf _ _)
  ·rw [B1 z]at r;exact r
 ·obtain⟨more,r⟩:=I.base.tbls b ps q
  by_cases z:b=p
  ·subst z;rw [upd_same]at r;cases r;exact absurd rfl (nb _)
  ·rw [B1 z]at r;exact⟨more,r⟩
 ·rcases aR.mp ha with z | z
  ·obtain⟨a1,a2,a3⟩:=I.pin a (bi _ z)
   exact⟨a1,(fh _ a2).1,a3⟩
  ·rcases aj.mp z with z | z
   ·subst z;exact⟨e,hn,pL,pF,d⟩
   ·obtain⟨a1,a2,a3⟩:=I.pin a (ar _ z)
    exact⟨a1,(fh _ a2).1,a3⟩
 ·refine(I.hok b v (gL b v q)).stay (fun c v _ r=>r) (fun c v ow r=>?_) fun c xs r=>?_
  ·by_cases z:c=p
   ·subst z;rw [upd_same]at r;cases r;exact absurd ow (no _)
   ·rw [B1 z]at r;exact r
  ·by_cases z:c=p
   ·subst z;rw [upd_same]at r;cases r;exact absurd rfl (nt _)
   ·rw [B1 z]at r;exact r
theorem Z1s {u:HO} (I:A0 X ac σ H s) (hn:H p=none) (hx:p∈X.ex\/X.s₀.heap.objs.size<=p) (hL:p≠X.env.locals) (hc:∀x c,X.env.cells.lookup x=some c->c≠p) (hp:∀a∈X.pn++ac,a.1≠p) (new:F1 X.prog X.w (upd H p u) s.heap p u) :
  A0 X ac σ (upd H p u) s:=by
 have keep:∀b v,H b=some v->upd H p u b=some v:=fun b v q=>by rw [B1 (U9 q hn)];exact q
 refine⟨I.ok,I.os,I.bare,⟨I.base.keep,I.base.slot,fun b o q n x=>?_,I.base.there,fun b xs q=>keep _ _ (I.base.tups b xs q),fun b o v q=>keep _ _ (I.base.frzs b o v q),fun b ps q=>let ⟨more,r⟩:=I.base.tbls b ps q;⟨more,keep _ _ r⟩⟩,
  I.loc,I.cell,by rw [B1 (bD hL)];exact I.free,fun x c q=>by rw [B1 (hc x c q)];exact I.freeC x c q,fun a ha=>?_,fun b v q=>?_,I.len⟩
 ·refine(B1 (fun z=>?_)).trans (I.base.free b o q n x)
  rcases hx with hx | hx
  ·exact x (by rw [z];exact hx)
  ·rw [z]at q;exact absurd (au q) (Nat.not_lt.mpr hx)
 ·obtain⟨a1,a2,a3⟩:=I.pin a ha
  exact⟨a1,by rw [B1 (hp a ha)];exact a2,a3⟩
 ·by_cases z:b=p
  ·subst z;rw [upd_same]at q;cases q;exact new
  ·rw [B1 z]at q
   exact(I.hok b v q).stay (fun _ _ _ r=>r) (fun c v _ r=>keep _ _ r) fun c xs r=>keep _ _ r
end
noncomputable def S3 (ks:List D) (d:D):List D:=if d∈ks then ks else ks++[d]
noncomputable def Z6:List D->List D->List Int
 | _,[]=>[]
 | ks,d::r=>((ks.idxOf d:Nat):Int)::Z6 (S3 ks d) r
theorem Y8d {ks:List D} (hn:ks.Nodup) {j:Nat}{d:D} (e:ks[j]?=some d):ks.idxOf d=j:=by
 obtain⟨hj,e⟩:=aI.mp e
 subst e
 exact hn.idxOf_getElem j hj
section
variable {X:Cx}{o e x':Expr}{apos bq q3 q5:Pos}{i j:Nat}
def Z4d (X:Cx) (i j:Nat):TE:=fun σ H Q=>∃p ks d a,σ[i]?=some (some (V.ref p))/\H p=some (gD X p ks)/\σ[j]?=some (some (V.ref a))/\A1 X.K H d (.ref a)/\Q1 8 d=true/\(∀x∈ks,Q1 8 x.1=true/\A1 X.K H x.1 (.ref x.2))/\ks.length<sizeLine /\
 (d∈ks.map (·.1)->Q (.int ((ks.map (·.1)).idxOf d:Nat)) H)/\(d∉ks.map (·.1)->Q (.int ks.length) (upd H p (gD X p (ks++[(d,a)]))))
theorem W3h (hu:X.A.units+9<cLine) (ho:PE X o (O3 i)) (he:PE X e (O3 j)) (hg:Gl X "len") (hm:X.mg "len"=none) (hx:PE X x' (O3 i)) (m:M2 X o "setdefault" apos e (.Call (.Name "len" q3) [x'] [] q5) bq)
  (hs:starEach [x'] X.env=(false,eval x' X.env)::starEach [] X.env:=by rfl) :
  PE X (.Call (.Attribute o "setdefault" apos) [e,.Call (.Name "len" q3) [x'] [] q5] [] bq) (Z4d X i j):=by
 intro ac s σ H Q I ⟨p,ks,d,a,hp,Hp,ha,ia,kd,hk,hz,q1,q2⟩
 refine wpAny_Call_method m.base m.few m.line PySem.F.plainAttrs_dict dY PySem.F.type_dict_setdefault (B3 (ho ac s σ H (fun v H1=>v=.ref p/\H1=H) I ⟨_,hp,rfl,rfl⟩) fun u s1 ⟨v,H1,I1,rv,ev,eH⟩=>?_)
 subst ev eH
 obtain rfl:u=Value.ref p:=rv
 have g1:GDh X.prog X.w p ks s1.heap:=(I1.hok p _ Hp).1
 obtain⟨_,_,_,D1⟩:=g1.dict I1.hok hk
 refine⟨D1.typeIs,fun b eb=>?_,?_⟩
 ·cases eb
  obtain⟨ob,_,_,h1,h2,_⟩:=D1
  exact⟨ob,h1,h2.2.1⟩
 rw [m.trees]
 have bR:PE X (.Call (.Name "len" q3) [x'] [] q5) _:=Z3b Y6h hg hm rfl (Q1b hx Q2z hs) (he:=hs)
 refine eY rfl (dj (c6 (B3 (he ac s1 σ H1 (fun v H2=>v=.ref a/\H2=H1) I1 ⟨_,ha,rfl,rfl⟩) fun iv s2 ⟨y,H2,I2,ry,ey,eH⟩ =>
  c6 (B3 (bR ac s2 σ H2 (fun v H3=>v=.int ks.length/\H3=H2) I2 ⟨_,hp,p,ks,rfl,by rw [eH];exact Hp,by rw [eH];exact hk,rfl,rfl⟩) fun fv s3 ⟨z,H3,I3,rz,ez,re⟩=>cV ?_))))
 subst ey eH ez re
 obtain rfl:iv=Value.ref a:=ry
 obtain⟨tz,rfl⟩:∃t,fv=Value.int ks.length t:=rz
 have g3:GDh X.prog X.w p ks s3.heap:=(I3.hok p _ Hp).1
 obtain⟨xs,ex,iv,D3⟩:=g3.dict I3.hok hk
 have n8:xs.map (·.1)=ks.map (·.1):=by rw [<- ex,aK];rfl
 have el:xs.length=ks.length:=by rw [<- ex,ag]
 have nd:(ks.map (·.1)).Nodup:=by obtain⟨_,_,_,_,_,_,_,_,n⟩:=id D3;rw [<- n8];exact n
 refine Y6p (knd:=Z1l X.prog X.w) (show X.A.in1.units+8<cLine by simp only [bW];omega) g3.1 (Z9f I3.hok 8 _ _ _ kd ia rfl) D3 (by rw [el];exact g3.2.1) (fun jj pp hj=>?_) fun jl h' D' sb=>?_
 ·obtain⟨t,et⟩:=iv jj _ hj
  have ek:(ks.map (·.1))[jj]?=some d:=by rw [<- n8,ai,hj];rfl
  have ei:(ks.map (·.1)).idxOf d=jj:=Y8d nd ek
  refine⟨.int ((ks.map (·.1)).idxOf d:Nat),H3,I3.tok _,⟨t,by rw [ei];exact et⟩,q1 (aD ek)⟩
 ·rw [n8]at jl
  refine⟨.int ks.length,_,?_,⟨tz,rfl⟩,q2 jl⟩
  obtain⟨o',es,ep,h1,h2,h3,h4,h5,h6⟩:=D'
  refine Q3r I3 (by rw [Hp];exact True.intro) sb ⟨o',h1⟩ (GDh.ok ⟨g3.1,by rw [ay];show ks.length+1<=_;omega,xs++[(d,a,Value.int ks.length tz)],by rw [aX,ex];rfl,fun n x hx=>?_,o',es,ep,h1,h2,h3,h4,h6⟩)
  by_cases hn:n<xs.length
  ·rw [aH hn]at hx
   exact iv n x hx
  ·rw [aS (by omega)]at hx
   have e0:n-xs.length=0:=by
    rcases Nat.eq_zero_or_pos (n-xs.length)with z | z
    ·exact z
    ·rw [cq (show [(d,a,Value.int ks.length tz)].length<=n-xs.length from z)]at hx;cases hx
   rw [e0]at hx
   cases hx
   have:n=ks.length:=by omega
   subst this
   exact⟨tz,rfl⟩
theorem W2v {pos:Pos}:PE X (.Dict [] [] pos) (fun σ H Q=>∀p,H p=none->X.s₀.heap.objs.size<=p->Q (.ref p) (upd H p (gD X p []))):=by
 intro ac s σ H Q I h
 refine wpAny_Dict_empty ⟨.ref s.heap.objs.size,_,I.laid (a:=s.heap.objs.size) (o:=gD X s.heap.objs.size []) (t':=s.toks) (fun _ _ q=>aa _ q) (ah _) (GDh.ok ?_),rfl,h _ (I.hok.fresh (ah _)) I.sz⟩
 exact⟨bv.mpr (bD (az I.big)),bb _,[],rfl,by intro i x e;simp at e,_,#[],0,aw _ rfl,⟨rfl,rfl,rfl⟩,rfl,rfl,jJ⟩
end
section
variable {X:Cx}{H0:Hp}{mk x:Str}{iter:Expr}{scope:Scope}{pos p1 o1 o2 o3 apos bq q3 q5:Pos}{i:Nat}{wi:P3}
noncomputable abbrev Q5y (mk x:Str) (o1 o2 o3 apos bq q3 q5:Pos):Expr:=.Call (.Attribute (.Name x o1) "setdefault" apos) [.Name mk o2,.Call (.Name "len" q3) [.Name x o3] [] q5] [] bq
def W8c (X:Cx) (H0:Hp) (i:Nat) (wi:P3):TE:=fun σ H Q=>∃p H1 τ,σ[i]?=some (some (V.ref p))/\H=upd H1 p (gD X p [])/\H1 p=none/\X.s₀.heap.objs.size<=p/\B9 X.K H0 τ σ H1 /\
 wi τ fun ds=>ds.length<=sizeLine/\(∀d∈ds,Q1 8 d=true/\∃l,d=.tup l)/\∀v H',A5 H1 H'->D9 X.K H1 H' (.nw ((Z6 [] ds).map .int)) v->Q v H'
theorem W3e (hc:X.calm=true) (hu:X.A.units+9<cLine) (B:J3 X scope [mk,x] 1 [i]) (hi:E5 X H0 (.Name mk p1) iter wi)
  (hg:∀C s H fp,PG (blk X scope C s H fp [mk,x]) (.Name mk p1) (Q7m 0)) (he:∀C s H fp,PE (blk X scope C s H fp [mk,x]) (Q5y mk x o1 o2 o3 apos bq q3 q5) (Z4d X 1 0)) (hs:∀x,foldedSetIterable iter X.env x=pure x:=by intro _;rfl) :
  PE X (.ListComp (Q5y mk x o1 o2 o3 apos bq q3 q5) [⟨.Name mk p1,iter,[],0⟩] scope pos) (W8c X H0 i wi):=by
 intro ac s σ H Q I0 ⟨p,H1,τ,hσ,eH,hn1,gT,hR,hw⟩
 subst eH
 rw [eval_ListComp]
 have g0:GDh X.prog X.w p [] s.heap:=(I0.hok p _ upd_same).1
 obtain⟨op,nM,mF⟩:∃o,s.heap.get? p=some o/\∀v,o.data≠.cell v:=by
  obtain⟨_,_,_,_,_,o,es,ep,e,_,d,_⟩:=id g0
  exact⟨o,e,fun v z=>by rw [d]at z;cases z⟩
 have I:=Y8o I0 hn1 (by intro xs z;cases z) (by intro o v z;cases z) (by intro y z;rcases z with z | ⟨_,z⟩ <;> cases z) (by intro ps z;cases z) nM mF (H':=H1)
 have pc:∀x c,X.env.cells.lookup x=some c->c≠p:=fun x c q z=>by have:=I0.freeC x c q;rw [z,upd_same]at this;cases this
 have pp:∀a∈X.pn++ac,a.1≠p:=fun a ha z=>by have:=(I0.pin a ha).2.1;rw [z,upd_same]at this;cases this
 refine wpAny_comprehension_free rfl hs (Q7h fun y hy e=>I.ok.has y.1 (B.free y hy e)) B.kind B.names ?_
 refine B3 (hi.pi ((p,op)::ac) s σ H1 (fun J H2=>A5 H1 H2/\∃ds,YlS X.K J ds H2/\ds.length<=sizeLine/\(∀d∈ds,Q1 8 d=true/\∃l,d=.tup l)/\∀v H',A5 H1 H'->D9 X.K H1 H' (.nw ((Z6 [] ds).map .int)) v->Q v H') I
  ⟨τ,hR,hi.mono τ _ _ (fun ds h J H' sm yl=>⟨sm,ds,yl,h⟩) hw⟩) fun v s1 h1=>B3 h1 fun iO s2 h2=>?_
 obtain⟨it,iw,tn,J,H2,e,nq,T,dQ,om,cU,ds,yl,hz,qq,hq⟩:=h2
 subst e
 obtain⟨l3,ie,q0,q8,_⟩:=nq.pin (p,op) (ar _ ao)
 have I2:A0 X ac σ H2 s2:=nq.pins_of fun a ha=>nq.pin a (ar _ (av _ ha))
 have oj:∀b∈iw,K1 X ac H2 b:=fun b hb=>by
  obtain⟨a1,a2,a3,a4,a5,a6⟩:=om b hb
  exact⟨a1,a2,a3,a4,a5,fun a ha=>a6 a (by rcases aR.mp ha with z | z;exact bi _ z;exact ar _ (av _ z))⟩
 have pC:∀b∈iw,b≠p:=fun b hb z=>(om b hb).2.2.2.2.2 (p,op) (ar _ ao) z.symm
 have qV:K1 X ac H2 p:=⟨ie,q0,q8,.inr gT,pc,pp⟩
 generalize hfpe:p::iw=fp
 have ft:p∈fp:=by rw [<- hfpe];exact ao
 have gh:∀b∈iw,b∈fp:=fun b hb=>by rw [<- hfpe];exact av _ hb
 have f2:∀b∈fp,K1 X ac H2 b:=fun b hb=>by
  rw [<- hfpe]at hb
  rcases aj.mp hb with z | z
  ·rw [z];exact qV
  ·exact oj b z
 have fA:∀b∈fp,b<s2.heap.objs.size:=fun b hb=>by
  rw [<- hfpe]at hb
  rcases aj.mp hb with z | z
  ·rw [z];exact au l3
  ·obtain⟨o,ho,_⟩:=T.obj _ _ dQ b z
   exact au ho
 refine bt (g7 B.cell (by intro y hy;simp at hy) (fun h₁ cE cp=>?_) B.kind)
 dsimp only at cE cp ⊢
 generalize hH2:s2.heap.push { cls:=.type "list",dict:=none,data:=.seq ([]:List Value).toArray }=Hq at cE cp ⊢
 have hC:Hq.objs.size=s2.heap.objs.size+1:=by rw [<- hH2,bn]
 have cH:s2.heap.objs.size≠Hq.objs.size:=by rw [hC];exact az (cC _)
 have cm:s2.heap.objs.size<=Hq.objs.size:=by rw [hC];exact cw _
 have old:∀b o,s2.heap.get? b=some o->h₁.get? b=some o:=fun b o e=>cp.extBut b o (by rw [hC];exact az (bx (au e))) (aa _ (hH2 ▸ aa _ e))
 have du:h₁.PlainList s2.heap.objs.size #[]:=⟨_,cp.extBut _ _ cH (aa _ (hH2 ▸ aw _ rfl))⟩
 generalize hCe:Hq.objs.size=C at cE cp hC cH cm ⊢
 generalize hDe:s2.heap.objs.size=D0 at hC cH cm du ⊢
 have cO:∀b∈fp,b<D0:=fun b hb=>hDe ▸ fA b hb
 have dJ:tn 0 h₁:=T.keep _ _ _ dQ fun b _ o e=>old b o e
 have jy:=Q7e (C:=C) (h':=h₁) (t':=s2.toks+([]:List (Str×Value)).length) I2 B f2 fA (by rw [hDe];exact cm) cE old
 have q9:p≠C:=az (ax (cO p ft) cm)
 have fZ:H2 D0=none:=I2.hok.fresh (by rw [hDe];exact ah _)
 have oh:D0≠p:=fun z=>by have:=cO p ft;rw [z]at this;exact aQ _ this
 have pI:∀x c,(R9 X.env scope.names []).lookup x=some c->c≠p:=fun x c h=>pc x c (U3 I2 B h)
 have rA:=Z1s jy (p:=p) (u:=gD X p []) ie (.inl ft) q9 pI (by intro a ha;simp [blk]at ha) (by
  obtain⟨a,b,xs,c,d,o,es,ep,e,r⟩:=id g0
  have eo:o=op:=by rw [nM]at e;exact(aB e).symm
  subst eo
  exact GDh.ok ⟨a,b,xs,c,d,o,es,ep,old _ _ l3,r⟩)
 have j9:D0∉frs X.stack:=fun z=>by
  rcases aj.mp (I2.stkSub _ z)with e | e
  ·have:=I2.lt;rw [<- e,hDe]at this;exact aQ _ this
  ·exact I2.nofs (by rw [hDe];exact ah _) e
 have ja:∀x c,(R9 X.env scope.names []).lookup x=some c->c≠D0:=fun x c h z=>by
  obtain⟨v,q⟩:=I2.cell x c (U3 I2 B h)
  have:=q.lt
  rw [z,hDe]at this
  exact aQ _ this
 have dH:∀{pb:Pn9} {σ':St}{H':Hp}{s':Shared}{ys:Array Value}{n:Nat},A0 (blk X scope C s2 H2 fp [mk,x]) pb σ' H' s'->H' D0=none->s'.heap.get? D0=some { cls:=.type "list",data:=.seq ys n } ->
   A0 (blk X scope C s2 H2 fp [mk,x]) [(D0,{ cls:=.type "list",data:=.seq ys n })] σ' H' s':=by
  intro pb σ' H' s' ys n I' n' e
  refine I'.pins_of fun a hp=>?_
  have e':a=(D0,{ cls:=.type "list",data:=.seq ys n }):=by simpa using hp
  subst e'
  exact⟨e,n',cH,j9,fun v z=>by cases z⟩
 have fD:∀{H':Hp}{ob:Obj},(∀b∈iw,H' b=none)->∀b∈iw,K1 (blk X scope C s2 H2 fp [mk,x]) [(D0,ob)] H' b:=by
  intro H' ob hn b hb
  have fS:=gh b hb
  refine⟨hn b hb,(az (ax (cO b fS) cm)),fun z=>?_,.inl fS,fun x c h=>(f2 b fS).2.2.2.2.1 x c (U3 I2 B h),fun a hp=>?_⟩
  ·rcases aj.mp (I2.stkSub b z)with e | e
   ·exact(f2 b fS).2.1 e
   ·exact(f2 b fS).2.2.1 e
  ·have e':a=(D0,ob):=by simpa [blk]using hp
   subst e'
   exact(az (cO b fS)).symm
 let j2:Nat->Shared->Prop:=fun k s'=>∃(n:Nat) (σ':St) (H':Hp) (ks:List (D×Addr)) (ys:Array Value) (nn:Nat) (vs:List V) (es:List Int),A0 (blk X scope C s2 H2 fp [mk,x]) [(D0,{ cls:=.type "list",data:=.seq ys nn })] σ' H' s'/\σ'[1]?=some (some (V.ref p))/\A5 H2 H'/\tn n s'.heap /\
  (∀b∈iw,H' b=none)/\H' D0=none/\H' p=some (gD X p ks)/\(∀y∈ks,Q1 8 y.1=true/\A1 X.K H' y.1 (.ref y.2))/\ks.length<=n/\C0 vs ys.toList/\vs=es.map V.int/\n<=ds.length/\k=ds.length-n/\es.length=n/\es++Z6 (ks.map (·.1)) (ds.drop n)=Z6 [] ds
 have loop:∀s₃:Shared,s₃={ s2 with heap:=h₁,toks:=s2.toks+([]:List (Str×Value)).length } ->
   codeAny (model X.prog X.w) X.A (.compLoop (.ListComp (Q5y mk x o1 o2 o3 apos bq q3 q5) [⟨.Name mk p1,iter,[],0⟩] scope pos) 0 (.ref it) (.ref D0) (compEnvC scope (R9 X.env scope.names []) C X.env))
    (compPost (model X.prog X.w) X.A X.xe none (EP X ac σ Q) (.ref D0) C) s₃:=by
  rintro s₃ rfl
  obtain⟨nn,ho⟩:=id du
  refine Z0z j2 ?_ ds.length ⟨0,_,upd H2 p (gD X p []),[],#[],nn,[],[],dH rA (by rw [B1 oh];exact fZ) ho,(by show([none]++[(σ[i]?).join]:St)[1]?=_;rw [hσ];rfl),D7 ie _,dJ,fun b hb=>by rw [B1 (pC b hb)];exact(oj b hb).1,by rw [B1 oh];exact fZ,upd_same,(by intro y hy;cases hy),ah _,.nil,rfl,bb _,rfl,rfl,by simp⟩
  rintro k s3 ⟨n,σ3,H3,ks,ys,nn,vs,es,I3,nH,j4,fH,fM,d3,qe,nQ,rQ,iI,lc,rM,rfl,iU,w3⟩
  by_cases bY:n<ds.length
  ·refine aP (T.item (blk X scope C s2 H2 fp [mk,x]) rfl rfl rfl hc n _ s3 σ3 H3 (fun _ _=>False) I3 (fD fM) fH (yl.go H3 j4 n bY)) (fun r s4 ⟨u,hr,h4⟩=>?_) fun _ _ z=>z
   subst hr
   refine aP h4 (fun _ s5 ⟨v5,H5,I5,r5,y5,eF,iq⟩=>?_) fun _ _ z=>z
   obtain⟨fU,ix⟩:=yl.yld H3 j4 n v5 H5 _ (ae bY) y5
   rw [cF bY]at w3
   have iB:=I5.pinned (fD iq) (T.obj _ _ eF)
   obtain⟨kd,l,ed⟩:=qq ds[n] (bF bY)
   obtain⟨a5,e5⟩:∃a,v5=.ref a:=by
    have nF:A1 X.K H5 (.tup l) v5:=ed ▸ ix
    unfold A1 at nF
    obtain⟨a,_,e,_⟩:=nF
    exact⟨a,e⟩
   subst e5
   refine aP (hg C s2 H2 fp _ s5 σ3 H5 (.ref a5) u (fun σ6 H6=>σ6=σ3.set 0 (some (.ref a5))/\H6=H5) iB r5 ⟨rfl,rfl⟩) (fun _ s6 ⟨σ6,H6,I6,e6,rc⟩=>?_) fun _ _ z=>z
   subst e6 rc
   refine wpAny_tests_nil ?_
   rw [aE rfl]
   have rP:σ3.length=2:=I3.len
   have m9:H6 p=some (gD X p ks):=fU _ _ qe
   have l5:∀y∈ks,Q1 8 y.1=true/\A1 X.K H6 y.1 (.ref y.2):=fun y hy=>⟨(nQ y hy).1,(nQ y hy).2.mono (Kp.of fU) _ _⟩
   let R7:V->Hp->Prop:=fun v H7=>∃iN,H7 p=some (gD X p iN)/\(∀y∈iN,Q1 8 y.1=true/\A1 X.K H7 y.1 (.ref y.2))/\iN.length<=n+1/\(∀b u,b≠p->H6 b=some u->H7 b=some u)/\Kp H6 H7/\v=.int (((ks.map (·.1)).idxOf ds[n]:Nat):Int)/\iN.map (·.1)=S3 (ks.map (·.1)) ds[n]
   refine aP (he C s2 H2 fp _ s6 _ H6 R7 I6 ⟨p,ks,ds[n],a5,by rw [aG (by decide)];exact nH,m9,by rw [ba (by omega)],ix,kd,l5,by omega,fun mw=>?_,fun jl=>?_⟩) (fun y s8 ⟨v8,H8,I8,j6,iN,qd,qr,qp,p6,rK,qX,r6⟩=>?_) fun _ _ z=>z
   ·exact⟨ks,m9,l5,by omega,fun _ _ _ q=>q,Kp.refl _,rfl,by unfold S3;rw [aE mw]⟩
   ·have kp:Kp H6 (upd H6 p (gD X p (ks++[(ds[n],a5)]))):=Kp.updM m9 (by intro xs z;cases z) (by intro o u z;cases z) _
    refine⟨ks++[(ds[n],a5)],upd_same,fun y hy=>?_,by rw [ay];show ks.length+1<=_;omega,fun b u hb q=>by rw [B1 hb];exact q,kp,?_,?_⟩
    ·rcases aR.mp hy with z | z
     ·exact⟨(l5 y z).1,(l5 y z).2.mono kp _ _⟩
     ·rw [aN.mp z];exact⟨kd,ix.mono kp _ _⟩
    ·rw [List.idxOf_eq_length jl,ag]
    ·unfold S3;rw [aC jl,aX];rfl
   ·have pd:=I8.pin (D0,_) (ar _ (bi _ ao))
    obtain⟨o8,d8,_⟩:=pd
    have ke:ys.size<=sizeLine:=by
     have e1:=iI.length
     have e4:ys.toList.length=ys.size:=by simp
     have e5:vs.length=n:=by rw [lc,ag,iU]
     omega
    refine wpAny_list_append_plain (hsz:=ke) ⟨nn,o8⟩ fun h₅ kq jf=>?_
    have kO:A0 (blk X scope C s2 H2 fp [mk,x]) (U1 iw s5.heap) (σ3.set 0 (some (.ref a5))) H8 s8:=I8.pins_of fun a ha=>I8.pin a (ar _ (ar _ ha))
    have I9:A0 (blk X scope C s2 H2 fp [mk,x]) (U1 iw s5.heap) (σ3.set 0 (some (.ref a5))) H8 { s8 with heap:=h₅ }:=by
     refine kO.turned (t':=s8.toks) (it:=D0) (fun b o hb e=>(jf.2 b hb).trans e) d8 cH (.inr (by rw [<- hDe];exact ah _)) ja (fun a hp z=>?_)
     obtain⟨q1,_⟩:=Q6a (by simpa [blk]using hp)
     exact az (cO _ (gh _ q1)) z
    obtain⟨jX,o9⟩:=kq
    have jO:tn (n+1) h₅:=T.keep _ _ _ eF fun b hb o e=>(I9.pin (b,o) (ar _ (Q0k hb e))).1
    refine⟨ds.length-(n+1),by omega,n+1,_,H8,iN,_,jX,vs++[v8],es++[(((ks.map (·.1)).idxOf ds[n]:Nat):Int)],dH I9 d8 o9,by rw [aG (by decide)];exact nH,fun b u q=>?_,jO,fun b hb=>?_,d8,qd,qr,qp,?_,?_,bY,rfl,by rw [ay,iU];rfl,?_⟩
    ·have nb:b≠p:=fun z=>by rw [z,ie]at q;cases q
     exact p6 b u nb (fU _ _ (j4 _ _ q))
    ·obtain⟨o,e,_⟩:=T.obj _ _ eF b hb
     exact(I9.pin (b,o) (ar _ (Q0k hb e))).2.1
    ·have:(ys.push y).toList=ys.toList++[y]:=by simp
     rw [this]
     exact iI.append (.cons j6 .nil)
    ·rw [lc,qX,aX];rfl
    ·rw [<- w3,Z6,r6,bz];rfl
  ·have e:n=ds.length:=by omega
   subst e
   refine aP (T.done (blk X scope C s2 H2 fp [mk,x]) rfl rfl rfl hc ds.length _ s3 σ3 H3 (fun _ _=>False) I3 (fD fM) fH (yl.stop H3 j4)) (fun r s4 ⟨hr,I4⟩=>?_) fun _ _ z=>z
   subst hr
   have o4:=(I4.pin (D0,_) (ar _ ao)).1
   rw [gb]at w3
   have w3:es++[]=Z6 [] ds:=w3
   rw [bO]at w3
   obtain⟨m4,ij,_⟩:=id I4.loc
   refine⟨m4,ij,fun h' sb=>?_⟩
   have m3:vs.length<=sizeLine:=by rw [lc,ag,iU];exact hz
   refine⟨.ref D0,_,Z0t I2 I4 f2 (by rw [hDe];exact cm) (by rw [hDe];exact ah _) cH d3 ⟨nn,o4⟩ iI m3 sb,rfl,hq _ _ (cU.trans (j4.trans (D7 d3 _))) ⟨D0,vs,rfl,cU.free fZ,upd_same,?_⟩⟩
   rw [lc,<- w3]
   exact AllS.ints
 exact codeAny_compStart_list (loop _ rfl) (T.self _ 0 _ _ _ dJ (loop _ rfl))
variable {sp nv dp rp:Pos}
theorem B9.unset {K:Fg9}{H:Hp} {τ:A8} {σ:St} (hR:B9 K H0 τ σ H) (i:Nat) (v:V):B9 K H0 (τ.set i none) (σ.set i (some v)) H:=by
 have at_:∀(j:Nat) (t:Sl),(τ.set i none)[j]?=some (some t)->j≠i/\τ[j]?=some (some t):=fun j t e=>by
  by_cases z:j=i
  ·subst z
   rw [List.getElem?_set_self' ]at e
   cases q:τ[j]? with
   | none=>rw [q]at e;cases e
   | some w=>rw [q]at e;cases e
  ·rw [aG (bD z)]at e;exact⟨z,e⟩
 refine⟨by rw [bN,bN];exact hR.len,hR.same,fun j t e=>?_,fun j k t u w cA e2 e3 m1 m2 q1 q2=>?_⟩
 ·obtain⟨z,e⟩:=at_ j t e
  obtain⟨w,q,r⟩:=hR.here j t e
  exact⟨w,by rw [aG (bD z)];exact q,r⟩
 ·obtain⟨z1,e2⟩:=at_ j t e2
  obtain⟨z2,e3⟩:=at_ k u e3
  rw [aG (bD z1)]at q1
  rw [aG (bD z2)]at q2
  exact hR.apart j k t u w cA e2 e3 m1 m2 q1 q2
noncomputable def Z4t (i:Nat) (wi:P3):WS:=fun E τ=>i<τ.length/\wi (τ.set i none) fun ds=>ds.length<=sizeLine/\(∀d∈ds,Q1 8 d=true/\∃l,d=.tup l)/\E.rt (.nw ((Z6 [] ds).map .int))
theorem A6.numb (hc:X.calm=true) (hu:X.A.units+9<cLine) (B:J3 X scope [mk,x] 1 [i]) (hi:E5 X H0 (.Name mk p1) iter wi)
  (hg:∀C s H fp,PG (blk X scope C s H fp [mk,x]) (.Name mk p1) (Q7m 0)) (he:∀C s H fp,PE (blk X scope C s H fp [mk,x]) (Q5y mk x o1 o2 o3 apos bq q3 q5) (Z4d X 1 0))
  (hN:X.N.Nodup) (jp:X.N[i]?=some x) (hx:Loc X.env.scope x) (hf:X.fn x=true\/X.env.scope.names.lookup x=some .local:=by first | exact .inl rfl | exact .inr rfl | assumption)
  (hs:∀x,foldedSetIterable iter X.env x=pure x:=by intro _;rfl) (gz:swapsWith (.Dict [] [] dp) (some (.Name x nv)) sp.line X.env=pure false:=by rfl) :
  A6 X H0 [.Assign [.Name x nv] (.Dict [] [] dp) sp,.Return (some (.ListComp (Q5y mk x o1 o2 o3 apos bq q3 q5) [⟨.Name mk p1,iter,[],0⟩] scope pos)) rp] (Z4t i wi) where
 mono:=fun τ E F le h=>⟨h.1,hi.mono _ _ _ (fun ds ⟨a,b,c⟩=>⟨a,b,le.rt _ c⟩) h.2⟩
 ps:=Q8g (Y1l (Q4g hN jp hx W2v gz hf) (Y1m (Z3d (W3e hc hu B hi hg he hs)))) fun D σ H ⟨τ,hR,h⟩ p hp gT=>by
  have hl:i<σ.length:=by rw [<- hR.len];exact h.1
  refine⟨p,H,τ.set i none,by rw [ba hl],rfl,hp,gT,hR.unset i _,hi.mono _ _ _ (fun ds ⟨a,b,c⟩=>⟨a,b,fun v H' sm ir=>?_⟩) h.2⟩
  exact c v H' (hR.same.trans sm) (ir.older hR.same)
@[simp] theorem W6v {E:F4} {τ:A8}:Z4t i wi E τ=(i<τ.length/\wi (τ.set i none) fun ds=>ds.length<=sizeLine/\(∀d∈ds,Q1 8 d=true/\∃l,d=.tup l)/\E.rt (.nw ((Z6 [] ds).map .int))):=rfl
end
noncomputable def N4 (K:Fg9) (a:Addr) (kvs:List (A7×D)):Hp->Prop:=fun H=>∃o ps,H a=some (.frz o (.dK ps))/\B5 K H kvs ps
theorem N4.mono {K:Fg9}{a:Addr}{kvs:List (A7×D)}:Q2f (N4 K a kvs):=fun H H' k ⟨o,ps,h,q⟩=>⟨o,ps,k.frz _ _ _ h,q.mono k _ _⟩
section
variable {X:Cx}{ac:Pn9} {σ:St}{H H0:Hp}{s:Shared}{a:Addr}
theorem Z8u {ps:List (A7×V)} (I:A0 X ac σ H s) (h:H a=some (.dK ps)):∃o,A0 X ac σ (upd H a (.frz o (.dK ps))) s:=by
 have ok:=I.hok a _ h
 obtain⟨_,_,_,_,o,_,_,q,_⟩:=id (show F1 X.prog X.w H s.heap a (.dK ps)from ok)
 refine⟨o,I.write (t':=s.toks) (h':=s.heap) (e:=a) (o:=.frz o (.dK ps)) (by rw [h];trivial) (.inl rfl) (fun b u _ k=>k) ⟨_,q⟩ ⟨q,?_⟩⟩
 exact ok
theorem B9.freezeK {K:Fg9} {τ:A8}{i:Nat}{kvs:List (A7×D)}{o:Obj}{ps:List (A7×V)} (hR:B9 K H0 τ σ H) (e1:τ[i]?=some (some (.dk kvs))) (hv:σ[i]?=some (some (.ref a))) (h0:H0 a=none) (sq:H a=some (.dK ps)) (kv:B5 K H kvs ps) :
  B9 K H0 (τ.set i (some (.cl a (N4 K a kvs)))) σ (upd H a (.frz o (.dK ps))):=by
 have kp:Kp H (upd H a (.frz o (.dK ps))):=Kp.updM sq (by intro xs z;cases z) (by intro o u z;cases z) _
 exact hR.mutG e1 rfl hv h0 sq (by intro xs z;cases z) (by intro o u z;cases z) ⟨rfl,⟨o,ps,upd_same,kv.mono kp _ _⟩,N4.mono⟩
end
section
variable {X:Cx}{H0:Hp}{st:Stmt}{w:WS}
theorem Q8f {t:TS} (h:PS X st t):PS X st (fun D σ H=>t { D with nx:=fun σ' H'=>∀ac s,A0 X ac σ' H' s->∃cZ,A0 X ac σ' cZ s/\D.nx σ' cZ } σ H):=by
 intro ac s σ H D I q
 refine B3 (h ac s σ H _ I q) fun f s1 q1=>?_
 cases f with
 | next =>
  obtain⟨σ',H',I',q2⟩:=q1
  obtain⟨cZ,rB,q3⟩:=q2 ac s1 I'
  exact⟨σ',cZ,rB,q3⟩
 | brk=>exact q1
 | cont=>exact q1
 | ret v=>exact q1
def Z4l (K:Fg9) (i:Nat) (w:WS):WS:=fun E τ=>w { E with nx:=fun τ'=>∃kvs,τ'[i]?=some (some (.dk kvs))/\∀a,E.nx (τ'.set i (some (.cl a (N4 K a kvs)))) } τ
theorem DS.fzK (i:Nat) (h:DS X H0 st w):DS X H0 st (Z4l X.K i w) where
 mono:=fun τ E F le q=>h.mono τ { E with nx:=fun τ'=>∃kvs,τ'[i]?=some (some (.dk kvs))/\∀a,E.nx (τ'.set i (some (.cl a (N4 X.K a kvs)))) } { F with nx:=fun τ'=>∃kvs,τ'[i]?=some (some (.dk kvs))/\∀a,F.nx (τ'.set i (some (.cl a (N4 X.K a kvs)))) } ⟨fun τ' ⟨kvs,e,q⟩=>⟨kvs,e,fun a=>le.nx _ (q a)⟩,le.rt,le.bk,le.ct⟩ q
 ps:=Q3 (Q8f h.ps) fun D σ H ⟨τ,hR,q⟩=>⟨τ,hR,h.mono τ { L4 X.K H0 H D with nx:=fun τ'=>∃kvs,τ'[i]?=some (some (.dk kvs))/\∀a,(L4 X.K H0 H D).nx (τ'.set i (some (.cl a (N4 X.K a kvs)))) } _ ⟨fun τ' ⟨kvs,e,q⟩ σ' H' kp cL ac s I=>by
  obtain⟨a,ps,hv,h0,sq,kv⟩:=cL.dkAt e
  obtain⟨o,I2⟩:=Z8u I sq
  exact⟨_,I2,q a σ' _ (kp.trans (Kp.updM sq (by intro xs z;cases z) (by intro o u z;cases z) _)) (cL.freezeK e hv h0 sq kv)⟩,fun _ h=>h,fun _ h=>h,fun _ h=>h⟩ q⟩
end
section
variable {X:Cx}{H0:Hp}{a b c e o tg:Expr}{pos bI p2 apos bq:Pos}{wa wb wi we wv:WE}{x:Str}{i:Nat}
def Z4u (K:Fg9) (i:Nat):WS:=fun E τ=>∃kvs,τ[i]?=some (some (.dk kvs))/\∀a,E.rt (.cl a (N4 K a kvs))
theorem DS.retK (he:PE X e (O3 i)):DS X H0 (.Return (some e) pos) (Z4u X.K i) where
 mono:=fun τ E F le ⟨kvs,e1,q⟩=>⟨kvs,e1,fun a=>le.rt _ (q a)⟩
 ps:=by
  intro ac s σ H D I ⟨τ,hR,kvs,e1,q⟩
  obtain⟨a,ps,hv,h0,sq,kv⟩:=hR.dkAt e1
  refine wpAny_Return_some (B3 (he ac s σ H (fun v H1=>v=.ref a/\H1=H) I ⟨_,hv,rfl,rfl⟩) fun u s1 ⟨v,H1,I1,rv,ev,eH⟩=>?_)
  subst ev eH
  obtain⟨ob,I2⟩:=Z8u I1 sq
  have kp:Kp H1 (upd H1 a (.frz ob (.dK ps))):=Kp.updM sq (by intro xs z;cases z) (by intro o u z;cases z) _
  refine⟨.ref a,σ,_,I2,rv,q a _ _ (fun b ob hb=>?_) ⟨rfl,⟨ob,ps,upd_same,kv.mono kp _ _⟩,N4.mono⟩⟩
  rw [B1 (U9 hb h0)];exact hR.same _ _ hb
def Z4v (i:Nat) (we:WE):WS:=fun E τ=>we τ fun r=>∃a Φ,r=.cl a Φ/\E.nx (τ.set i (some (.cl a Φ)))
theorem DS.setF (he:DE X H0 e we) (hN:X.N.Nodup) (hi:X.N[i]?=some x) (hx:Loc X.env.scope x) (hs:swapsWith e (some (.Name x bI)) pos.line X.env=pure false:=by rfl)
  (hf:X.fn x=true\/X.env.scope.names.lookup x=some .local:=by first | exact .inl rfl | exact .inr rfl | assumption):DS X H0 (.Assign [.Name x bI] e pos) (Z4v i we) where
 mono:=fun τ E F le h=>he.mono τ _ _ (fun r ⟨a,Φ,e1,q⟩=>⟨a,Φ,e1,le.nx _ q⟩) h
 ps:=Q3 (Q4g hN hi hx he.pe hs hf) fun D σ H ⟨τ,hR,h⟩=>⟨τ,hR,he.mono τ _ _ (fun r ⟨a,Φ,e1,q⟩ v H1 s1 ir=>by
  subst e1
  exact q _ _ (Kp.of s1) ((hR.mono s1).set (s:=.cl a Φ) ir fun m=>by cases m)) h⟩
theorem B9.fkAt {K:Fg9}{H:Hp} {τ:A8} {σ:St}{a:Addr}{kvs:List (A7×D)} (hR:B9 K H0 τ σ H) (e1:τ[i]?=some (some (.cl a (N4 K a kvs)))):σ[i]?=some (some (.ref a))/\∃o ps,H a=some (.frz o (.dK ps))/\B5 K H kvs ps:=by
 obtain⟨v,hv,rfl,q,_⟩:=hR.here i _ e1
 exact⟨hv,q⟩
def Q9l (K:Fg9) (i:Nat) (we:WE):WE:=fun τ Q=>∃a kvs,τ[i]?=some (some (.cl a (N4 K a kvs)))/\we τ fun r=>∃kd k d,r=.st kd/\P5 kd=some k/\D5 kvs k=some d/\Q (.st d)
theorem DE.fget (hu:X.A.units+1<cLine) (ho:PE X o (O3 i)) (he:DE X H0 e we) (hs:Q2g e):DE X H0 (.Subscript o e pos) (Q9l X.K i we) where
 mono:=fun τ P Q f ⟨a,kvs,e1,h⟩=>⟨a,kvs,e1,he.mono τ _ _ (fun r ⟨ds,ks,d,a1,a2,a3,a4⟩=>⟨ds,ks,d,a1,a2,a3,f _ a4⟩) h⟩
 pe:=M7 (Q6b hu ho he.pe hs) fun σ H Q ⟨τ,hR,a,kvs,e1,h⟩=>by
  obtain⟨hv,ob,ps,sq,kv⟩:=hR.fkAt e1
  refine⟨_,hv,τ,hR,he.mono τ _ _ (fun r ⟨kd,k,d,a1,a2,a3,a4⟩ v H1 s1 ir=>?_) h⟩
  subst a1
  cases Q1q a2 (show A1 X.K H1 kd v from ir)
  rcases B5.val (k:=k) (kv.mono (Kp.of s1) _ _)with⟨n1,_⟩ | ⟨d',v',n1,n2,n3⟩
  ·rw [a3]at n1;cases n1
  ·rw [a3]at n1;cases n1
   exact⟨a,v',rfl,.inl ⟨ps,k,.inr ⟨ob,s1 _ _ sq⟩,rfl,n2.symm⟩,a4 _ _ s1 n3⟩
def Z4k (K:Fg9) (i:Nat) (we:WE):WE:=fun τ Q=>∃a kvs,τ[i]?=some (some (.cl a (N4 K a kvs)))/\we τ fun r=>∃kd k,r=.st kd/\P5 kd=some k/\Q (.st ((D5 kvs k).getD .non))
theorem DE.fget1 (hu:X.A.units+1<cLine) (ho:PE X o (O3 i)) (he:DE X H0 e we) (m:M1 X o "get" apos e bq):DE X H0 (.Call (.Attribute o "get" apos) [e] [] bq) (Z4k X.K i we) where
 mono:=fun τ P Q f ⟨a,kvs,e1,h⟩=>⟨a,kvs,e1,he.mono τ _ _ (fun r ⟨ds,ks,a1,a2,a4⟩=>⟨ds,ks,a1,a2,f _ a4⟩) h⟩
 pe:=M7 (W2t hu ho he.pe m) fun σ H Q ⟨τ,hR,a,kvs,e1,h⟩=>by
  obtain⟨hv,ob,ps,sq,kv⟩:=hR.fkAt e1
  refine⟨_,hv,a,rfl,.inl ⟨ps,.inr ⟨ob,sq⟩⟩,τ,hR,he.mono τ _ _ (fun r ⟨kd,k,a1,a2,a4⟩ v H1 s1 ir=>?_) h⟩
  subst a1
  cases Q1q a2 (show A1 X.K H1 kd v from ir)
  refine⟨_,.inl ⟨ps,k,.inr ⟨ob,s1 _ _ sq⟩,rfl,rfl⟩,a4 _ _ s1 ?_⟩
  rcases B5.val (k:=k) (kv.mono (Kp.of s1) _ _)with⟨n1,n2⟩ | ⟨d',v',n1,n2,n3⟩
  ·rw [n1,n2];exact A1.s_non (K:=X.K) (H:=H1)
  ·rw [n1,n2];exact n3
def Z4p (i:Nat):WS:=fun E τ=>E.nx (τ.set i (some (.dk [])))
theorem DS.knew (hN:X.N.Nodup) (hi:X.N[i]?=some x) (hx:Loc X.env.scope x) (hs:swapsWith (.Dict [] [] p2) (some (.Name x bI)) pos.line X.env=pure false:=by rfl)
  (hf:X.fn x=true\/X.env.scope.names.lookup x=some .local:=by first | exact .inl rfl | exact .inr rfl | assumption):DS X H0 (.Assign [.Name x bI] (.Dict [] [] p2) pos) (Z4p i) where
 mono:=fun τ E F le h=>le.nx _ h
 ps:=Q3 (Q4g hN hi hx W2w hs hf) fun D σ H ⟨τ,hR,h⟩ p hp=>by
  have sm:A5 H (upd H p (.dK [])):=D7 hp _
  refine h _ _ (Kp.of sm) ((hR.mono sm).set (s:=.dk []) ⟨p,[],rfl,hR.same.free hp,upd_same,rfl⟩ fun _ j t hj e m q=>?_)
  obtain⟨o,ho⟩:=hR.tracked e m q
  rw [hp]at ho;cases ho
def Z4q (i:Nat) (we wv:WE):WS:=fun E τ=>i<τ.length/\we τ fun rk=>∃kd k,rk=.st kd/\P5 kd=some k/\wv τ fun r=>∃d,r=.st d/\E.nx (τ.set i (some (.dk [(k,d)])))
theorem DS.knew1 {v:Expr} (he:DE X H0 e we) (hv:DE X H0 v wv) (hN:X.N.Nodup) (hi:X.N[i]?=some x) (hx:Loc X.env.scope x) (hs:swapsWith (.Dict [some e] [v] p2) (some (.Name x bI)) pos.line X.env=pure false:=by rfl)
  (hf:X.fn x=true\/X.env.scope.names.lookup x=some .local:=by first | exact .inl rfl | exact .inr rfl | assumption):DS X H0 (.Assign [.Name x bI] (.Dict [some e] [v] p2) pos) (Z4q i we wv) where
 mono:=fun τ E F le h=>⟨h.1,he.mono τ _ _ (fun r ⟨ds,ks,a1,a2,h⟩=>⟨ds,ks,a1,a2,hv.mono τ _ _ (fun r ⟨d,b1,b2⟩=>⟨d,b1,le.nx _ b2⟩) h⟩) h.2⟩
 ps:=Q3 (Q4g hN hi hx (W2u (W3w he.pe hv.pe W3x) rfl rfl (by simp) (by simp)) hs hf) fun D σ H ⟨τ,hR,hl,h⟩ p hp=>by
  have sm:A5 H (upd H p (.dK [])):=D7 hp _
  have eh:=hR.mono sm
  refine⟨τ,eh,he.mono τ _ _ (fun rk ⟨kd,k,a1,a2,h⟩ y H1 s1 ik=>?_) h⟩
  subst a1
  have dz:=eh.mono s1
  refine⟨τ,dz,hv.mono τ _ _ (fun r ⟨d,b1,b2⟩ u H2 s2 iv=>?_) h⟩
  subst b1
  cases Q1q a2 (show A1 X.K H1 kd y from ik)
  have ep:=s2 _ _ (s1 _ _ (upd_same (H:=H) (a:=p) (o:=.dK [])))
  refine⟨ep,[(k,u)],rfl,by simp,?_⟩
  have e1:Q4d [] [(k,u)]=[(k,u)]:=rfl
  rw [e1]
  have kp:Kp H2 (upd H2 p (.dK [(k,u)])):=Kp.updM ep (by intro xs z;cases z) (by intro o u z;cases z) _
  have mP:=dz.mono s2
  have h0:H0 p=none:=hR.same.free hp
  have pR:Kp H (upd H2 p (.dK [(k,u)])):=(Kp.of ((sm.trans s1).trans s2)).trans kp
  have mw:∀(j:Nat) (t:Sl),τ[j]?=some (some t)->t.mut=true->σ[j]?≠some (some (.ref p)):=fun j t e m q=>by
   obtain⟨o,ho⟩:=hR.tracked e m q
   rw [hp]at ho;cases ho
  have mO:B9 X.K H0 (τ.set i (some (.dk []))) (σ.set i (some (.ref p))) H2:=mP.set (s:=.dk []) ⟨p,[],rfl,h0,ep,rfl⟩ fun _ j t hj e m q=>mw j t e m q
  have g1:(τ.set i (some (.dk [])))[i]?=some (some (.dk [])):=ba hl
  have g2:(σ.set i (some (V.ref p)))[i]?=some (some (.ref p)):=ba (by rw [<- hR.len];exact hl)
  have iX:=mO.mutG (s':=.dk [(k,d)]) (new:=.dK [(k,u)]) g1 rfl g2 h0 ep (by intro xs z;cases z) (by intro o u z;cases z) ⟨p,[(k,u)],rfl,h0,upd_same,⟨u,[],rfl,A1.mono kp _ _ iv,rfl⟩⟩
  rw [List.set_set]at iX
  exact b2 _ _ pR iX
def Q9n (i:Nat) (we wv:WE):WS:=fun E τ=>∃kvs,τ[i]?=some (some (.dk kvs))/\we τ fun rk=>∃kd k,rk=.st kd/\P5 kd=some k/\wv τ fun r=>∃d,r=.st d/\kvs.length<sizeLine /\
 E.nx (if (D5 kvs k).isSome=true then τ else τ.set i (some (.dk (kvs++[(k,d)]))))
theorem W3a {f:Expr}{td ty tx:TE} (ho:PE X o td) (he:PE X e ty) (hf:PE X f tx) (m:M2 X o "setdefault" apos e f bq):PE X (.Call (.Attribute o "setdefault" apos) [e,f] [] bq)
  (fun σ H Q=>td σ H fun x H1=>∃a ps0,x=.ref a/\H1 a=some (.dK ps0)/\ty σ H1 fun y H2=>tx σ H2 fun z H3=>∃ps k,H3 a=some (.dK ps)/\y=kV k/\ps.length<sizeLine/\(∀v,S4 ps k=some v->Q v H3)/\(S4 ps k=none->Q z (upd H3 a (.dK (O0 ps k z))))):=by
 intro ac s σ H Q I h
 refine wpAny_Call_method m.base m.few m.line PySem.F.plainAttrs_dict dY PySem.F.type_dict_setdefault (B3 (ho ac s σ H _ I h) fun u s1 ⟨x,H1,I1,rx,a,ps0,ex,ea,q1⟩=>?_)
 subst ex
 obtain rfl:u=Value.ref a:=rx
 obtain⟨t1,t2,_⟩:=Z8w I1 (.inl ⟨ps0,.inl ea⟩)
 refine⟨t1,t2,?_⟩
 rw [m.trees]
 refine eY rfl (dj (c6 (B3 (he ac s1 σ H1 _ I1 q1) fun iv s2 ⟨y,H2,I2,ry,q2⟩ =>
  c6 (B3 (hf ac s2 σ H2 _ I2 q2) fun fv s3 ⟨z,H3,I3,rz,ps,k,e3,ey,hz,g1,g2⟩=>cV ?_))))
 subst ey
 obtain⟨z0,hd,vs,rel,dd⟩:=Q7i I3.hok e3
 have el:vs.length=ps.length:=by rw [<- rel.length]
 have rv:=rel.val k
 refine call_meetsIn dY dd.typeIs PySem.F.entry_dict_setdefault (PySem.F.args_dict_setdefault_3 _ _ _) (kt_meets_setdefault (K4 X.prog X.w) a (Q1p ry) hd fv) ⟨vs,dd,by omega,fun v hv=>?_,fun hn h' gZ hs=>?_⟩
 ·rw [hv]at rv
  cases ev:S4 ps k with
  | none=>rw [ev]at rv;exact rv.elim
  | some w=>rw [ev]at rv;exact⟨w,H3,I3.tok _,rv,g1 w ev⟩
 ·rw [hn]at rv
  cases ev:S4 ps k with
  | some w=>rw [ev]at rv;exact rv.elim
  | none =>
   have he:∃q,h'.get? a=some q:=let ⟨q,_,_,hq,_⟩:=gZ;⟨q,hq⟩
   have hl:(O0 ps k z).length<=sizeLine:=by have:=Q5s ps k z;omega
   exact⟨z,_,Q3r I3 (by rw [e3];exact True.intro) hs he (Z1g hl hd (rel.put k rz) gZ),rz,g2 ev⟩
theorem Y4j {κ:Type} [DecidableEq κ]:∀{kvs:List (κ×D)}{k:κ},D5 kvs k=none->(kvs.any fun kv=>decide (kv.1=k))=false
 | [],_,_=>rfl
 | p::r,k,h=>by
  by_cases e:p.1=k
  ·simp [D5,b8,e]at h
  ·have:D5 r k=none:=by simpa [D5,b8,e]using h
   rw [cM,Y4j this];simp [e]
theorem DS.ksetd {v:Expr} (ho:PE X o (O3 i)) (he:DE X H0 e we) (hv:DE X H0 v wv) (m:M2 X o "setdefault" apos e v bq):DS X H0 (.Expr (.Call (.Attribute o "setdefault" apos) [e,v] [] bq) pos) (Q9n i we wv) where
 mono:=fun τ E F le ⟨kvs,e1,h⟩=>⟨kvs,e1,he.mono τ _ _ (fun r ⟨kd,k,a1,a2,h⟩=>⟨kd,k,a1,a2,hv.mono τ _ _ (fun r ⟨d,b1,b2,b3⟩=>⟨d,b1,b2,le.nx _ b3⟩) h⟩) h⟩
 ps:=Q3 (Z3c (W3a ho he.pe hv.pe m)) fun D σ H ⟨τ,hR,kvs,e1,h⟩=>by
  obtain⟨a,ps,gx,h0,sq,kv⟩:=hR.dkAt e1
  refine⟨_,gx,a,ps,rfl,sq,τ,hR,he.mono τ _ _ (fun rk ⟨kd,k,a1,a2,h⟩ y H1 s1 ik=>?_) h⟩
  subst a1
  have eh:=hR.mono s1
  refine⟨τ,eh,hv.mono τ _ _ (fun r ⟨d,b1,b2,b3⟩ u H2 s2 iv=>?_) h⟩
  subst b1
  have dz:=eh.mono s2
  have cT:=s2 _ _ (s1 _ _ sq)
  have gQ:=(kv.mono (Kp.of s1) _ _).mono (Kp.of s2) _ _
  refine⟨ps,k,cT,Q1q a2 (show A1 X.K H1 kd y from ik),by rw [<- B5.length gQ];exact b2,fun v hv=>?_,fun hn=>?_⟩
  ·rcases B5.val (k:=k) gQ with⟨n1,n2⟩ | ⟨d',v',n1,n2,n3⟩
   ·rw [hv]at n2;cases n2
   ·rw [n1]at b3
    have b3:(L4 X.K H0 H D).nx τ:=b3
    exact b3 _ _ (Kp.of (s1.trans s2)) dz
  ·rcases B5.val (k:=k) gQ with⟨n1,n2⟩ | ⟨d',v',n1,n2,n3⟩
   ·rw [n1]at b3
    have b3:(L4 X.K H0 H D).nx (τ.set i (some (.dk (kvs++[(k,d)])))):=b3
    have kp:Kp H2 (upd H2 a (.dK (O0 ps k u))):=Kp.updM cT (by intro xs z;cases z) (by intro o u z;cases z) _
    have ek:M8 kvs k d=kvs++[(k,d)]:=by unfold M8;rw [aC (by rw [Y4j n1];simp)]
    refine b3 _ _ ((Kp.of (s1.trans s2)).trans kp) (dz.mutG e1 rfl gx h0 cT (by intro xs z;cases z) (by intro o u z;cases z) ⟨a,_,rfl,h0,upd_same,?_⟩)
    rw [<- ek]
    exact B5.mono kp _ _ (B5.put iv gQ)
   ·rw [hn]at n2;cases n2
end
theorem Z6w {X:Cx}{ac:Pn9} {σ:St}{H2 H':Hp}{s2 s1:Shared}{scope:Scope}{C D0:Addr}{fp:List Addr}{N:List Str}{pb:Pn9} {σ':St}{h':Heap}{u0:HO}
  (I2:A0 X ac σ H2 s2) (Ib:A0 (blk X scope C s2 H2 fp N) pb σ' H' s1) (f2:∀b∈fp,K1 X ac H2 b) (hC:s2.heap.objs.size<=C) (hD:s2.heap.objs.size<=D0) (mT:H' D0=none)
  (sb:Heap.SameBut C s1.heap h') (new:F1 X.prog X.w (upd H' D0 u0) h' D0 u0):A0 X ac σ (upd H' D0 u0) { s1 with heap:=h' }:=by
 have jb:∀b o,s2.heap.get? b=some o->b≠C:=fun b o e=>az (ax (au e) hC)
 have lL:∀b o,s2.heap.get? b=some o->b≠D0:=fun b o e=>az (ax (au e) hD)
 have keep:=Z8n sb
 have base:Un (frs X.stack) fp H2 H' s2.heap s1.heap:=Ib.base
 have mU:H' C=none:=Ib.free
 have gP:∀b u,H' b=some u->b≠C:=fun b u e z=>by rw [z,mU]at e;cases e
 have gu:∀b u,H' b=some u->b≠D0:=fun b u e z=>by rw [z,mT]at e;cases e
 refine I2.call' (s':={ s1 with heap:=h' }) (ch:=fp) Ib.os ⟨fun b o e n hb hx=>keep b o (jb b o e) (base.keep b o e n hb hx),fun b o e n hb hx=>?_,fun b o e n hx=>?_,fun b o e hx=>?_,fun b xs e=>?_,fun b o u e=>?_,fun b ps e=>?_⟩ (fun b u e=>?_) Ib.bare (fun b hb=>?_)
 ·obtain⟨sl,q⟩:=base.slot b o e n hb hx
  exact⟨sl,keep b _ (jb b o e) q⟩
 ·rw [B1 (lL b o e)];exact base.free b o e n hx
 ·obtain⟨o',q⟩:=base.there b o e hx
  exact⟨o',keep b o' (jb b o e) q⟩
 ·have q:=base.tups b xs e
  rw [B1 (gu b _ q)];exact q
 ·have q:=base.frzs b o u e
  rw [B1 (gu b _ q)];exact q
 ·obtain⟨more,q⟩:=base.tbls b ps e
  exact⟨more,by rw [B1 (gu b _ q)];exact q⟩
 ·by_cases hb:b=D0
  ·subst hb
   rw [upd_same]at e;cases e
   exact new
  ·rw [B1 hb]at e
   refine(Ib.hok b u e).stay (fun c v hc q=>keep c v ?_ q) (fun c u _ q=>by rw [B1 (gu c _ q)];exact q) fun c xs q=>by rw [B1 (gu c _ q)];exact q
   rcases hc with z | z
   ·rw [z];exact gP b u e
   ·exact gP c _ z
 ·obtain⟨_,a2,a3,a4,a5,a6⟩:=f2 b hb
  exact⟨a4,a2,a5,a6⟩
section
variable {prog:Program}{w:World}{A:Around}{RR:Result->Shared->Prop}{s:Shared}
theorem Y6y {kx vx target iter:Expr}{scope:Scope}{pos:Pos}{it:Value}{D0:Addr}{env:Env} (I:Nat->Shared->Prop)
  (fq:∀n s,I n s->wpAny (model prog w) A (pyNext it) (fun r s₁=>match r with
   | none=>RR (.ok .next) s₁
   | some v=>wpAny (model prog w) A (letOwnedTupleGo target it v) (fun _ sa=>wpAny (model prog w) A (assign target env v) (fun _ s₃ =>
     wpAny (model prog w) A (eval kx env) (fun x s₄=>wpAny (model prog w) A (eval vx env) (fun y s₅ =>
       wpAny (model prog w) A (dictSet D0 x y) (fun _ s₆=>∃m,m<n/\I m s₆) (fun _ _=>False) s₅) (fun _ _=>False) s₄) (fun _ _=>False) s₃) (fun _ _=>False) sa) (fun _ _=>False) s₁) (fun _ _=>False) s)
  (n:Nat) (h:I n s):codeAny (model prog w) A (.compLoop (.DictComp kx vx [⟨target,iter,[],0⟩] scope pos) 0 it (.ref D0) env) RR s:=by
 refine codeAny_loop rfl I (fun n s hI=>?_) n h
 change wpAny (model prog w) A ((compTurn (.DictComp kx vx [⟨target,iter,[],0⟩] scope pos) 0 it (Value.ref D0) env).onRaise (fun x=>do noteFrame x env;theTreesLotGoes x)) _ _ s
 refine wpAny_noted ?_
 rw [compTurn_dict]
 refine a9 (wpAny_standAt (a9 (aP (fq n s hI) (fun r s₁ h₁=>?_) fun _ _ h'=>h'.elim)))
 cases r with
 | none=>exact af h₁
 | some v =>
  refine a9 (aP h₁ (fun _ sa ha=>a9 (aP ha (fun _ s₃ h₃=>a9 (wpAny_tests_nil ?_)) fun _ _ h'=>h'.elim)) fun _ _ h'=>h'.elim)
  exact a9 (a9 (aP h₃ (fun x s₄ h₄=>a9 (bu (aP h₄ (fun y s₅ h₅=>a9 (wpAny_standAt (bu (aP h₅ (fun _ s₆ h₆=>af ⟨rfl,h₆⟩) fun _ _ h'=>h'.elim)))) fun _ _ h'=>h'.elim))) fun _ _ h'=>h'.elim))
end
noncomputable def U4 (g:WG) (wk wv:WE):List D->A8->List (A7×D)->(List (A7×D)->Prop)->Prop
 | [],_,kvs,Q=>Q kvs
 | d::ds,τ,kvs,Q=>g d τ fun τ'=>wk τ' fun r=>∃kd k,r=.st kd/\P5 kd=some k/\wv τ' fun r2=>∃e,r2=.st e/\U4 g wk wv ds τ' (M8 kvs k e) Q
theorem Z7l {g:WG}{wk wv:WE} (hg:∀d τ (P Q:A8->Prop),(∀ τ,P τ->Q τ)->g d τ P->g d τ Q) (hk:∀(τ:A8) (P Q:R->Prop),(∀r,P r->Q r)->wk τ P->wk τ Q) (hv:∀(τ:A8) (P Q:R->Prop),(∀r,P r->Q r)->wv τ P->wv τ Q) :
  ∀(ds:List D) (τ:A8) (kvs:List (A7×D)) (P Q:List (A7×D)->Prop),(∀es,P es->Q es)->U4 g wk wv ds τ kvs P->U4 g wk wv ds τ kvs Q
 | [],_,_,_,_,f,h=>f _ h
 | d::ds,τ,kvs,P,Q,f,h=>hg d τ _ _ (fun τ' h=>hk τ' _ _ (fun r ⟨kd,k,e1,e2,h⟩=>⟨kd,k,e1,e2,hv τ' _ _ (fun r ⟨e,e1,h⟩=>⟨e,e1,Z7l hg hk hv ds τ' _ _ _ f h⟩) h⟩) h) h
section
variable {X:Cx}{H0:Hp}{tg iter kx vx:Expr}{scope:Scope}{pos bI fe:Pos}{N:List Str}{nt:Nat}{cap:List Nat}{wi:P3}{g:WG}{wk wv:WE}
theorem Y8z {use:Option (Value->Sem Unit)}{QQ:VS9}{P:List (A7×D)->Prop}{gt:Pos}{ac:Pn9}{s:Shared} {σ:St}{H:Hp} {τ:A8} (hc:X.calm=true) (B:J3 X scope N nt cap) (hi:E5 X H0 tg iter wi)
  (hg:∀C s H fp,DG (blk X scope C s H fp N) H tg g) (hk:∀C s H fp,DE (blk X scope C s H fp N) H kx wk) (hv:∀C s H fp,DE (blk X scope C s H fp N) H vx wv) (hs:∀x,foldedSetIterable iter X.env x=pure x)
  (I:A0 X ac σ H s) (hR:B9 X.K H0 τ σ H) (hw:wi τ fun ds=>ds.length<sizeLine/\U4 g wk wv ds (R8 nt cap τ) [] P)
  (fin:∀(C D0:Addr) (s2 s4:Shared) (H2 H4:Hp) (fp:List Addr) (pb:Pn9) (σ4:St) (ps:List (A7×V)) (vs:List (A7×Value)) (kvs:List (A7×D)) (f:Flow),A0 X ac σ H2 s2->A5 H H2->A0 (blk X scope C s2 H2 fp N) pb σ4 H4 s4->(∀b∈fp,K1 X ac H2 b) ->
   s2.heap.objs.size<=C->s2.heap.objs.size<=D0->D0≠C->H4 D0=none->(D0==sysModules)=false->s4.heap.DictOf (K4 X.prog X.w) D0 vs->KV ps vs->ps.length<=sizeLine->A5 H2 H4->B5 X.K H4 kvs ps->P kvs->compPost (model X.prog X.w) X.A X.xe use QQ (.ref D0) C (.ok f) s4) :
  wpAny (model X.prog X.w) X.A (comprehension (.DictComp kx vx [⟨tg,iter,[],0⟩] scope pos) scope X.env gt newDict false (eval iter X.env) use) QQ X.xe s:=by
 refine wpAny_comprehension_free rfl hs (Q7h fun y hy e=>I.ok.has y.1 (B.free y hy e)) B.kind B.names ?_
 refine B3 (hi.pi ac s σ H (fun J H2=>A5 H H2/\∃ds,YlS X.K J ds H2/\ds.length<sizeLine/\U4 g wk wv ds (R8 nt cap τ) [] P) I
  ⟨τ,hR,hi.mono τ _ _ (fun ds h J H' sm yl=>⟨sm,ds,yl,h.1,h.2⟩) hw⟩) fun v s1 h1=>B3 h1 fun iO s2 h2=>?_
 obtain⟨it,fp,tn,J,H2,e,I2,T,dQ,f2,cU,ds,yl,hz,kf⟩:=h2
 subst e
 have fA:∀b∈fp,b<s2.heap.objs.size:=fun b hb=>by
  obtain⟨o,ho,_⟩:=T.obj _ _ dQ b hb
  exact au ho
 have dz:=hR.mono cU
 have i8:(s2.heap.objs.size==sysModules)=false:=bv.mpr (bD (az I2.big))
 refine bt (g7 B.cell (by intro y hy;simp at hy) (fun h₁ cE cp=>?_) B.kind)
 dsimp only at cE cp ⊢
 have ig:(s2.heap.push { cls:=.type "dict",dict:=none,data:=.dict #[] }).DictOf (K4 X.prog X.w) s2.heap.objs.size []:=Heap.DictOf.new s2.heap
 generalize hH2:s2.heap.push { cls:=.type "dict",dict:=none,data:=.dict #[] }=Hq at cE cp ig ⊢
 have hC:Hq.objs.size=s2.heap.objs.size+1:=by rw [<- hH2,bn]
 have cH:s2.heap.objs.size≠Hq.objs.size:=by rw [hC];exact az (cC _)
 have cm:s2.heap.objs.size<=Hq.objs.size:=by rw [hC];exact cw _
 have old:∀b o,s2.heap.get? b=some o->h₁.get? b=some o:=fun b o e=>cp.extBut b o (by rw [hC];exact az (bx (au e))) (aa _ (hH2 ▸ aa _ e))
 have du:h₁.DictOf (K4 X.prog X.w) s2.heap.objs.size []:=ig.at fun o e=>cp.extBut _ _ cH (aa _ e)
 generalize hCe:Hq.objs.size=C at cE cp hC cH cm ⊢
 generalize hDe:s2.heap.objs.size=D0 at hC cH cm du i8 ⊢
 have cO:∀b∈fp,b<D0:=fun b hb=>hDe ▸ fA b hb
 have dJ:tn 0 h₁:=T.keep _ _ _ dQ fun b _ o e=>old b o e
 have jy:=Q7e (C:=C) (h':=h₁) (t':=s2.toks+([]:List (Str×Value)).length) I2 B f2 fA (by rw [hDe];exact cm) cE old
 have fZ:H2 D0=none:=I2.hok.fresh (by rw [hDe];exact ah _)
 have j9:D0∉frs X.stack:=fun z=>by
  rcases aj.mp (I2.stkSub _ z)with e | e
  ·have:=I2.lt;rw [<- e,hDe]at this;exact aQ _ this
  ·exact I2.nofs (by rw [hDe];exact ah _) e
 have ja:∀x c,(R9 X.env scope.names []).lookup x=some c->c≠D0:=fun x c h z=>by
  obtain⟨v,q⟩:=I2.cell x c (U3 I2 B h)
  have:=q.lt
  rw [z,hDe]at this
  exact aQ _ this
 have kK:∀{h:Heap}{vs:List (A7×Value)}{o:Obj},h.DictOf (K4 X.prog X.w) D0 vs->h.get? D0=some o->∀v,o.data≠.cell v:=by
  intro h vs o dd e v z
  obtain⟨o',es,ep,e',_,d,_⟩:=dd
  rw [e]at e';cases e'
  rw [d]at z;cases z
 have dH:∀{pb:Pn9} {σ':St}{H':Hp}{s':Shared}{vs:List (A7×Value)}{o:Obj},A0 (blk X scope C s2 H2 fp N) pb σ' H' s'->H' D0=none->s'.heap.DictOf (K4 X.prog X.w) D0 vs->s'.heap.get? D0=some o ->
   A0 (blk X scope C s2 H2 fp N) [(D0,o)] σ' H' s':=by
  intro pb σ' H' s' vs o I' n' dd e
  refine I'.pins_of fun p hp=>?_
  have e':p=(D0,o):=by simpa using hp
  subst e'
  exact⟨e,n',cH,j9,kK dd e⟩
 have fD:∀{H':Hp}{ob:Obj},(∀b∈fp,H' b=none)->∀b∈fp,K1 (blk X scope C s2 H2 fp N) [(D0,ob)] H' b:=by
  intro H' ob hn b hb
  refine⟨hn b hb,(az (ax (cO b hb) cm)),fun z=>?_,.inl hb,fun x c h=>(f2 b hb).2.2.2.2.1 x c (U3 I2 B h),fun p hp=>?_⟩
  ·rcases aj.mp (I2.stkSub b z)with e | e
   ·exact(f2 b hb).2.1 e
   ·exact(f2 b hb).2.2.1 e
  ·have e':p=(D0,ob):=by simpa [blk]using hp
   subst e'
   exact(az (cO b hb)).symm
 let j2:Nat->Shared->Prop:=fun k s'=>∃(i:Nat) (σ':St) (H':Hp) (τ':A8) (ob:Obj) (vs:List (A7×Value)) (ps:List (A7×V)) (kvs:List (A7×D)),A0 (blk X scope C s2 H2 fp N) [(D0,ob)] σ' H' s'/\B9 X.K H2 τ' σ' H'/\tn i s'.heap /\
  (∀b∈fp,H' b=none)/\H' D0=none/\s'.heap.get? D0=some ob/\s'.heap.DictOf (K4 X.prog X.w) D0 vs/\KV ps vs/\B5 X.K H' kvs ps/\i<=ds.length/\k=ds.length-i/\ps.length<=i/\U4 g wk wv (ds.drop i) τ' kvs P
 have loop:∀s₃:Shared,s₃={ s2 with heap:=h₁,toks:=s2.toks+([]:List (Str×Value)).length } ->
   codeAny (model X.prog X.w) X.A (.compLoop (.DictComp kx vx [⟨tg,iter,[],0⟩] scope pos) 0 (.ref it) (.ref D0) (compEnvC scope (R9 X.env scope.names []) C X.env))
    (compPost (model X.prog X.w) X.A X.xe use QQ (.ref D0) C) s₃:=by
  rintro s₃ rfl
  obtain⟨pz,ho⟩:∃o,h₁.get? D0=some o:=by obtain⟨o,_,_,e,_⟩:=id du;exact⟨o,e⟩
  refine Y6y j2 ?_ ds.length ⟨0,_,H2,R8 nt cap τ,pz,[],[],[],dH jy fZ du ho,Z3e dz nt cap,dJ,fun b hb=>(f2 b hb).1,fZ,ho,du,.nil,rfl,bb _,rfl,ah _,by simpa using kf⟩
  rintro k s3 ⟨i,σ3,H3,τ3,ob,vs,ps,kvs,I3,R3,fH,fM,d3,o3,oG,lF,nE,nR,rfl,iU,w3⟩
  have ce:A5 H2 H3:=R3.same
  by_cases bY:i<ds.length
  ·refine aP (T.item (blk X scope C s2 H2 fp N) rfl rfl rfl hc i _ s3 σ3 H3 (fun _ _=>False) I3 (fD fM) fH (yl.go H3 ce i bY)) (fun r s4 ⟨u,hr,h4⟩=>?_) fun _ _ z=>z
   subst hr
   refine aP h4 (fun _ s5 ⟨x,H5,I5,r5,y5,eF,iq⟩=>?_) fun _ _ z=>z
   obtain⟨fU,ix⟩:=yl.yld H3 ce i x H5 _ (ae bY) y5
   rw [cF bY]at w3
   have iB:=I5.pinned (fD iq) (T.obj _ _ eF)
   refine aP ((hg C s2 H2 fp).pg _ s5 σ3 H5 x u (fun σ6 H6=>∃ τ6,B9 X.K H2 τ6 σ6 H6/\A5 H5 H6/\wk τ6 fun r=>∃kd k,r=.st kd/\P5 kd=some k/\wv τ6 fun r2=>∃e,r2=.st e/\U4 g wk wv (ds.drop (i+1)) τ6 (M8 kvs k e) P)
    iB r5 ⟨τ3,ds[i],R3.mono fU,ix,(hg C s2 H2 fp).mono _ _ _ _ (fun τ6 h6 σ6 H6 gp R6=>⟨τ6,R6,gp,h6⟩) w3⟩) (fun _ s6 ⟨σ6,H6,I6,τ6,R6,gp,w6⟩=>?_) fun _ _ z=>z
   refine aP ((hk C s2 H2 fp).pe _ s6 σ6 H6 (fun v H7=>A5 H6 H7/\∃kd k,A1 X.K H7 kd v/\P5 kd=some k/\wv τ6 fun r2=>∃e,r2=.st e/\U4 g wk wv (ds.drop (i+1)) τ6 (M8 kvs k e) P) I6
    ⟨τ6,R6,(hk C s2 H2 fp).mono τ6 _ _ (fun r ⟨kd,k,e1,e2,h⟩ v H7 fT ir=>⟨fT,kd,k,by subst e1;exact ir,e2,h⟩) w6⟩) (fun yk s7 ⟨v7,H7,I7,lE,fT,kd,k,pW,r8,w7⟩=>?_) fun _ _ z=>z
   refine aP ((hv C s2 H2 fp).pe _ s7 σ6 H7 (fun v H8=>A5 H7 H8/\∃e,A1 X.K H8 e v/\U4 g wk wv (ds.drop (i+1)) τ6 (M8 kvs k e) P) I7
    ⟨τ6,R6.mono fT,(hv C s2 H2 fp).mono τ6 _ _ (fun r ⟨e,e1,h⟩ v H8 gn ir=>⟨gn,e,by subst e1;exact ir,h⟩) w7⟩) (fun yv s8 ⟨v8,H8,I8,j6,gn,e8,lU,w8⟩=>?_) fun _ _ z=>z
   have pd:=I8.pin (D0,ob) (ar _ (bi _ ao))
   obtain⟨o8,d8,_⟩:=pd
   have kO:A0 (blk X scope C s2 H2 fp N) (U1 fp s5.heap) σ6 H8 s8:=I8.pins_of fun p hp=>I8.pin p (ar _ (ar _ hp))
   have rf:s8.heap.DictOf (K4 X.prog X.w) D0 vs:=oG.at fun o e=>by rw [o3]at e;cases e;exact o8
   have el:vs.length=ps.length:=by rw [<- lF.length]
   cases Q1q r8 pW
   refine wpAny_dictSet_pairs (hsz:=by omega) (Q1p lE) rf fun h₅ nh jf=>?_
   have I9:A0 (blk X scope C s2 H2 fp N) (U1 fp s5.heap) σ6 H8 { s8 with heap:=h₅,toks:=s8.toks+1 }:=by
    refine kO.turned (t':=s8.toks+1) (it:=D0) (fun b o hb e=>(jf.2 b hb).trans e) d8 cH (.inr (by rw [<- hDe];exact ah _)) ja (fun p hp z=>?_)
    obtain⟨q1,_⟩:=Q6a (by simpa [blk]using hp)
    exact az (cO _ q1) z
   obtain⟨pq,o9⟩:∃o,h₅.get? D0=some o:=by obtain⟨o,_,_,e,_⟩:=id nh;exact⟨o,e⟩
   have p9:A5 H3 H8:=fU.trans (gp.trans (fT.trans gn))
   have jO:tn (i+1) h₅:=T.keep _ _ _ eF fun b hb o e=>(I9.pin (b,o) (ar _ (Q0k hb e))).1
   refine⟨ds.length-(i+1),by omega,i+1,σ6,H8,τ6,pq,stored vs k yv,O0 ps k v8,M8 kvs k e8,dH I9 d8 nh o9,R6.mono (fT.trans gn),jO,fun b hb=>?_,d8,o9,nh,lF.put k j6,B5.put lU (nE.mono (Kp.of p9) _ _),bY,rfl,?_,w8⟩
   ·obtain⟨o,e,_⟩:=T.obj _ _ eF b hb
    exact(I9.pin (b,o) (ar _ (Q0k hb e))).2.1
   ·have:=Q5s ps k v8;omega
  ·have e:i=ds.length:=by omega
   subst e
   refine aP (T.done (blk X scope C s2 H2 fp N) rfl rfl rfl hc ds.length _ s3 σ3 H3 (fun _ _=>False) I3 (fD fM) fH (yl.stop H3 ce)) (fun r s4 ⟨hr,I4⟩=>?_) fun _ _ z=>z
   subst hr
   have o4:=(I4.pin (D0,_) (ar _ ao)).1
   rw [gb]at w3
   have rg:s4.heap.DictOf (K4 X.prog X.w) D0 vs:=oG.at fun o e=>by rw [o3]at e;cases e;exact o4
   exact fin C D0 s2 s4 H2 H3 fp _ σ3 ps vs kvs _ I2 cU I4 f2 (by rw [hDe];exact cm) (by rw [hDe];exact ah _) cH d3 i8 rg lF (by omega) ce nE w3
 exact codeAny_compStart_dict (loop _ rfl) (T.self _ 0 _ _ _ dJ (loop _ rfl))
def Z4o (i nt:Nat) (cap:List Nat) (wi:P3) (g:WG) (wk wv:WE):WS:=fun E τ=>wi τ fun ds=>ds.length<sizeLine/\U4 g wk wv ds (R8 nt cap τ) [] fun kvs=>E.nx (τ.set i (some (.dk kvs)))
theorem DS.setKC {i:Nat}{x:Str} (hc:X.calm=true) (B:J3 X scope N nt cap) (hi:E5 X H0 tg iter wi) (hg:∀C s H fp,DG (blk X scope C s H fp N) H tg g) (hk:∀C s H fp,DE (blk X scope C s H fp N) H kx wk)
  (hv:∀C s H fp,DE (blk X scope C s H fp N) H vx wv) (hN:X.N.Nodup) (jp:X.N[i]?=some x) (hx:Loc X.env.scope x)
  (gz:swapsWith (.DictComp kx vx [⟨tg,iter,[],0⟩] scope pos) (some (.Name x bI)) fe.line X.env=pure true:=by rfl) (hs:∀x,foldedSetIterable iter X.env x=pure x:=by intro _;rfl)
  (hf:X.fn x=true\/X.env.scope.names.lookup x=some .local:=by first | exact .inl rfl | exact .inr rfl | assumption) :
  DS X H0 (.Assign [.Name x bI] (.DictComp kx vx [⟨tg,iter,[],0⟩] scope pos) fe) (Z4o i nt cap wi g wk wv) where
 mono:=fun τ E F le h=>hi.mono τ _ _ (fun ds h=>⟨h.1,Z7l (hg 0 X.s₀ X.H₀ []).mono (hk 0 X.s₀ X.H₀ []).mono (hv 0 X.s₀ X.H₀ []).mono ds _ _ _ _ (fun es h=>le.nx _ h) h.2⟩) h
 ps:=by
  intro ac s σ H D I ⟨τ,hR,hw⟩
  rw [exec_Assign_Name_used _ _ _ _ gz]
  refine a9 (wpAny_standAt (a9 ?_))
  change wpAny (model X.prog X.w) X.A (do let _ <- comprehension (.DictComp kx vx [⟨tg,iter,[],0⟩] scope pos) scope X.env _ newDict false (eval iter X.env) (some (assign (.Name x bI) X.env))) _ _ s
  refine a9 (aP (Y8z (use:=some (assign (.Name x bI) X.env)) (QQ:=fun _ s'=>SP X ac D .next s') hc B hi hg hk hv hs I hR hw fun C D0 s2 s4 H2 H4 fp pb σ4 ps vs kvs f I2 cU I4 f2 hC hD cH hn i8 dd rk hz gk kv w3=>?_)
   (fun _ s' hq=>af (af hq)) fun _ _ e=>e)
  have Ib:A0 X ac σ (upd H4 D0 (.dK ps)) { s4 with heap:=s4.heap }:=Z6w I2 I4 f2 hC hD hn ⟨rfl,fun _ _=>rfl⟩ ⟨hz,i8,vs,rk,dd⟩
  have iZ:C≠X.env.locals:=fun z=>aQ _ (ax I2.lt (z ▸ hC))
  have iY:∀x c,X.env.cells.lookup x=some c->c≠C:=fun x c h z=>by
   obtain⟨v,q⟩:=I2.cell x c h
   exact aQ _ (ax q.lt (z ▸ hC))
  change wpAny (model X.prog X.w) X.A (assign (.Name x bI) X.env (Value.ref D0)) _ _ s4
  refine wpAny_assign_Name (Q9a (v:=.ref D0) Ib hN jp hx rfl (fun s5 I5 ⟨a,jT,ha⟩=>?_) hf)
  obtain⟨m4,ij,_⟩:=id I4.loc
  have kI:C≠a:=by
   rcases ha with ha | ha
   ·rw [ha];exact iZ
   ·exact fun z=>iY _ _ ha z.symm
  refine⟨m4,ij.sameBut jT kI,fun h' sb=>?_⟩
  have kJ:H4 C=none:=I4.free
  have I6:A0 X ac (σ.set i (some (.ref D0))) (upd H4 D0 (.dK ps)) { s5 with heap:=h' }:=by
   refine I5.turned (t':=s5.toks) (it:=C) (fun b o hb e=>(sb.2 b hb).trans e) (by rw [B1 (bD cH)];exact kJ) iZ (.inr (aT I2.sz hC)) iY fun p hp z=>?_
   have:=(I2.pin p hp).1
   exact aQ _ (ax (au this) (z ▸ hC))
  have jS:A5 H (upd H4 D0 (.dK ps)):=cU.trans (gk.trans (D7 hn _))
  have cL:=(hR.mono jS).set (i:=i) (s:=.dk kvs) (v:=.ref D0) ⟨D0,ps,rfl,hR.same.free (cU.free (I2.hok.fresh hD)),upd_same,kv.mono (Kp.of (D7 hn _)) _ _⟩ fun _ j t hj e m q=>by
   obtain⟨o,ho⟩:=hR.tracked e m q
   rw [cU.free (I2.hok.fresh hD)]at ho;cases ho
  exact⟨_,_,I6,w3 _ _ (Kp.of jS) cL⟩
end
noncomputable def kyD:A7->D
 | .inl i=>.int i
 | .inr x=>.str x
noncomputable def Q2t:List R->(R->Prop)->Prop
 | [.dk kvs],Q=>Q (.nw (kvs.map fun p=>kyD p.1))
 | _,_=>False
theorem Z9m {rs:List R}{Q:R->Prop} (h:Q2t rs Q):∃kvs,rs=[.dk kvs]/\Q (.nw (kvs.map fun p=>kyD p.1)):=by
 unfold Q2t at h
 split at h
 ·exact⟨_,rfl,h⟩
 ·exact h.elim
theorem Y9y:Q0t Q2t:=fun x P Q g h=>by
 obtain⟨kvs,rfl,h⟩:=Z9m h
 exact g _ h
theorem Z0q {K:Fg9}{H:Hp}:∀(ps:List (A7×V)),AllS K H (ps.map fun p=>kyD p.1) (ps.map fun p=>kV p.1)
 | []=>AllS.nil
 | (.inl i,v)::r=>AllS.cons A1.s_int (Z0q r)
 | (.inr x,v)::r=>AllS.cons A1.s_str (Z0q r)
theorem B5.keysEq {K:Fg9}{H:Hp}:∀{kvs:List (A7×D)}{ps:List (A7×V)},B5 K H kvs ps->(kvs.map fun p=>kyD p.1)=ps.map fun p=>kyD p.1
 | [],ps,h=>by unfold B5 at h;subst h;rfl
 | p::kvs,ps,h=>by
  unfold B5 at h
  obtain⟨v,r,rfl,iv,h⟩:=h
  rw [ak,ak,B5.keysEq h]
section
variable {X:Cx}
theorem Y6k (hc:X.calm=true):Q0r X (.type "list") Q2t:=by
 intro ac s σ H xs us Q I rv ⟨rs,ck,h⟩
 obtain⟨kvs,rfl,h⟩:=Z9m h
 obtain⟨v,rfl,ir⟩:=T5 ck
 obtain⟨a,ps,rfl,e,kv⟩:=ir
 obtain⟨u,rfl,ru⟩:=R1 rv
 cases ru
 obtain⟨z,hd,vs,rel,dd⟩:=Q7i I.hok e
 obtain⟨ep,da⟩:=dd.dictAt
 have el:vs.length=ps.length:=by rw [<- rel.length]
 refine PySem.W.kdl_call (PySem.W.kdl_dict (knd:=K4 X.prog X.w) (kvs:=vs) (ep:=ep) hd) (I.ok.hd hc) da (by omega) fun h' tk cf c' k e2 it=>?_
 have hn:H s.heap.objs.size=none:=I.hok.fresh (ah _)
 have vl:C0 (ps.map fun p=>kV p.1) cf.toList:=by
  have key:∀(ps:List (A7×V)) (vs:List (A7×Value)) (us:List Value),KV ps vs->us.length=vs.length->(∀(j:Nat) (v:Value),us[j]?=some v->∃k x,vs[j]?=some (k,x)/\(K4 X.prog X.w).is k v=true)->C0 (ps.map fun p=>kV p.1) us:=by
   intro ps
   induction ps with
   | nil=>intro vs us r l _;cases r;cases us with
    | nil=>exact .nil
    | cons _ _=>cases l
   | cons p ps ih =>
    intro vs us r l f
    cases r with
    | @cons _ q _ qs h1 t =>
     cases us with
     | nil=>cases l
     | cons u us =>
      obtain⟨k,x,e1,e2⟩:=f 0 u rfl
      cases e1
      refine .cons ?_ (ih qs us t (by simpa using l) fun j v e=>f (j+1) v (by simpa using e))
      have h1:p.1=k:=h1.1
      show B8 (kV p.1) u
      rw [h1]
      rcases Q0g e2 with⟨i,t,rfl,rfl⟩ | ⟨i,t,rfl,rfl⟩
      ·exact⟨t,rfl⟩
      ·exact⟨t,rfl⟩
  refine key ps vs cf.toList rel (by rw [bZ];exact it.1) fun j v e=>it.2 j v (by rw [<- Array.getElem?_toList];exact e)
 refine⟨.ref s.heap.objs.size,_,I.laid (t':=tk) (o:=.lst (ps.map fun p=>kV p.1)) k (ah _) ⟨by rw [ag];exact z,cf.toList,c',vl,by simpa using e2⟩,rfl,h _ _ (D7 hn _) ⟨_,_,rfl,hn,upd_same,?_⟩⟩
 rw [B5.keysEq kv]
 exact Z0q ps
noncomputable def Q0j:List R->(R->Prop)->Prop
 | [r],Q=>∃ns:List Int,P6 r=some (ns.map .int)/\ns≠[]/\∀m,m∈ns->(∀n∈ns,n<=m)->Q (.st (.int m))
 | _,_=>False
theorem Z9x:Q0t Q0j:=fun x P Q g h=>by
 unfold Q0j at h ⊢
 split at h
 ·obtain⟨ns,a,b,c⟩:=h
  exact⟨ns,a,b,fun m h1 h2=>g _ (c m h1 h2)⟩
 ·exact h
theorem Z6n (f:Nat->Int):∀k,argBest (fun i j=>decide (f i > f j)) k<=k/\∀j,j<=k->f j<=f (argBest (fun i j=>decide (f i > f j)) k)
 | 0=>⟨ah _,fun j hj=>by rw [Nat.le_zero.mp hj];exact Int.le_refl _⟩
 | k+1=>by
  obtain⟨h1,h2⟩:=Z6n f k
  unfold argBest
  by_cases e:f (k+1) > f (argBest (fun i j=>decide (f i > f j)) k)
  ·rw [aE (by simpa using e)]
   refine⟨ah (k+1),fun j hj=>?_⟩
   by_cases z:j<=k
   ·exact Int.le_trans (h2 j z) (Int.le_of_lt e)
   ·rw [show j=k+1 by omega];exact Int.le_refl _
  ·rw [aC (by simpa using e)]
   refine⟨Nat.le_succ_of_le h1,fun j hj=>?_⟩
   by_cases z:j<=k
   ·exact h2 j z
   ·rw [show j=k+1 by omega];omega
theorem Z8s:∀{ns:List Int}{aU:List Value},C0 (ns.map V.int) aU->∃xs:List (Int×Tok),aU=xs.map (fun p=>Value.int p.1 p.2)/\xs.map (·.1)=ns
 | [],aU,r=>by cases r;exact⟨[],rfl,rfl⟩
 | n::ns,aU,r=>by
  cases r with
  | cons h t =>
   obtain⟨tk,e⟩:=h
   obtain⟨xs,e1,e2⟩:=Z8s (ns:=ns) t
   exact⟨(n,tk)::xs,by rw [e,e1];rfl,by rw [ak,e2]⟩
theorem Z6k {K:Fg9}{H:Hp}:∀{ns:List Int}{xs:List V},AllS K H (ns.map .int) xs->xs=ns.map V.int
 | [],xs,h=>by unfold List.map AllS at h;exact h
 | n::ns,xs,h=>by
  rw [ak]at h
  unfold AllS at h
  obtain⟨v,r,rfl,i,t⟩:=h
  unfold A1 at i
  rw [i,Z6k t];rfl
theorem Z7a (hc:X.calm=true):Q0r X (.builtin "max") Q0j:=by
 intro ac s σ H xs us Q I rv ⟨rs,ck,h⟩
 unfold Q0j at h
 split at h
 ·rename_i r
  obtain⟨ns,e1,cA,h⟩:=h
  obtain⟨v,rfl,ir⟩:=T5 ck
  obtain⟨l,ys,rfl,sq,al⟩:=Q0z e1 ir
  obtain⟨u,rfl,ru⟩:=R1 rv
  cases ru
  have ey:=Z6k al
  subst ey
  obtain⟨aU,gN,pl,hz⟩:=I.list sq
  obtain⟨ps,ei,en⟩:=Z8s gN
  subst ei
  have hit:s.heap.IsList l (intItems ps.toArray):=by
   have:=pl.isList
   have e:intItems ps.toArray=(ps.map fun p=>Value.int p.1 p.2).toArray:=by simp [intItems]
   rw [e];exact this
  have gT:0<ps.toArray.size:=by
   cases ps with
   | nil=>exact absurd en.symm cA
   | cons _ _=>simp
  refine max_intList (I.ok.hd hc) hit gT fun v h' tk e k=>?_
  obtain⟨b1,b2⟩:=Z6n (numAt ps.toArray) (ps.toArray.size-1)
  obtain⟨t,et⟩:=intItems_at e
  subst et
  generalize argBest (fun i j=>decide (numAt ps.toArray i > numAt ps.toArray j)) (ps.toArray.size-1)=k0 at b1 b2 e
  have at_:∀j,j<ps.length->ns[j]?=some (numAt ps.toArray j):=fun j hj=>by
   rw [<- en,ai,ae hj]
   simp [numAt,hj]
  have l6:k0<ps.length:=by
   have:ps.toArray.size=ps.length:=by simp
   omega
  refine⟨.int (numAt ps.toArray k0),H,I.kept k,⟨t,rfl⟩,h _ (aD (at_ k0 l6)) (fun n hn=>?_) _ _ (A5.refl _) U7⟩
  obtain⟨j,hj,e⟩:=List.getElem_of_mem hn
  have hl:ns.length=ps.length:=by rw [<- en,ag]
  have:=at_ j (by omega)
  rw [ae hj,e]at this
  rw [aB this]
  exact b2 j (by
   have:ps.toArray.size=ps.length:=by simp
   omega)
 ·exact h.elim
end
theorem LO.ok {P:Program}{w:World}{H:Hp}{h:Heap}{b:Addr}{xs:List V} (g:LO b xs h):F1 P w H h b (.ext (LO b xs)):=by
 obtain⟨z,aU,n,r,e⟩:=id g
 exact⟨g,⟨_,e⟩,fun h1 h2 ⟨z,aU,n,r,e⟩ k=>⟨z,aU,n,r,k _ e⟩⟩
noncomputable def J9:Option Sl->Bool
 | some (.ll _ _)=>false
 | _=>true
noncomputable def Y3:Nat->A8->Bool
 | _,[]=>true
 | 0,_::r=>r.all J9
 | i+1,s::r=>J9 s&&Y3 i r
theorem Z2v:∀{i:Nat} {τ:A8}{j:Nat}{a:Addr}{dss:List (List D)},Y3 i τ=true->j≠i->τ[j]?≠some (some (.ll a dss))
 | _,[],j,a,dss,_,_=>by simp
 | 0,s::r,0,a,dss,_,h=>absurd rfl h
 | 0,s::r,j+1,a,dss,h,_=>fun e=>by
  have e:r[j]?=some (some (.ll a dss)):=by simpa using e
  have:=cb.mp h _ (aD e)
  cases this
 | i+1,s::r,0,a,dss,h,_=>fun e=>by
  have e:s=some (.ll a dss):=by simpa using e
  subst e
  simp [Y3,J9]at h
 | i+1,s::r,j+1,a,dss,h,n=>fun e=>by
  rw [Y3,cj]at h
  exact Z2v (i:=i) (j:=j) h.2 (fun z=>n (by rw [z])) (by simpa using e)
theorem J6.length {K:Fg9}{H:Hp}:∀{bs:List Addr}{dss:List (List D)},J6 K H bs dss->bs.length=dss.length
 | [],_,h=>by rw [show _=[]from h];rfl
 | b::bs,_,h=>by obtain⟨ds,r,rfl,_,t⟩:=h;rw [aA,aA,t.length]
theorem J6.get {K:Fg9}{H:Hp}:∀{bs:List Addr}{dss:List (List D)}{j:Nat},J6 K H bs dss->j<dss.length->∃b xs,bs[j]?=some b/\H b=some (.ext (LO b xs))/\AllS K H (dss.getD j []) xs
 | [],_,j,h,l=>by rw [show _=[]from h]at l;simp at l
 | b::bs,_,0,h,l=>by obtain⟨ds,r,rfl,⟨xs,q,al⟩,t⟩:=h;exact⟨b,xs,rfl,q,al⟩
 | b::bs,_,j+1,h,l=>by
  obtain⟨ds,r,rfl,_,t⟩:=h
  obtain⟨b',xs,e,q,al⟩:=J6.get (j:=j) t (by simpa using l)
  exact⟨b',xs,by simpa using e,q,by simpa using al⟩
theorem J6.mem {K:Fg9}{H:Hp}:∀{bs:List Addr}{dss:List (List D)}{b:Addr},J6 K H bs dss->b∈bs->∃xs,H b=some (.ext (LO b xs))
 | [],_,b,h,l=>by cases l
 | c::bs,_,b,h,l=>by
  obtain⟨ds,r,rfl,⟨xs,q,al⟩,t⟩:=h
  rcases aj.mp l with rfl | l
  ·exact⟨xs,q⟩
  ·exact t.mem l
theorem J6.set {K:Fg9}{H H':Hp} (k:Kp H H') {b0:Addr}{lg:List D}{h9:List V} (h0:H' b0=some (.ext (LO b0 h9))) (oR:AllS K H' lg h9) (eJ:∀b φ,b≠b0->H b=some (.ext φ)->H' b=some (.ext φ)) :
  ∀{bs:List Addr}{dss:List (List D)}{j:Nat},bs.Nodup->J6 K H bs dss->bs[j]?=some b0->J6 K H' bs (dss.set j lg)
 | [],_,j,_,h,e=>by simp at e
 | b::bs,_,0,n,h,e=>by
  obtain⟨ds,r,rfl,⟨xs,q,al⟩,t⟩:=h
  have e:b=b0:=by simpa using e
  subst e
  rw [bB]at n
  refine⟨lg,r,rfl,⟨h9,h0,oR⟩,?_⟩
  have same:∀{cs:List Addr}{ess:List (List D)},b∉cs->J6 K H cs ess->J6 K H' cs ess:=by
   intro cs
   induction cs with
   | nil=>intro ess _ h;exact h
   | cons c cs ih =>
    intro ess nb h
    obtain⟨ds,r,rfl,⟨xs,q,al⟩,t⟩:=h
    exact⟨ds,r,rfl,⟨xs,eJ c _ (fun z=>nb (by rw [z];exact ao)) q,al.mono k _ _⟩,ih (fun z=>nb (av _ z)) t⟩
  exact same n.1 t
 | b::bs,_,j+1,n,h,e=>by
  obtain⟨ds,r,rfl,⟨xs,q,al⟩,t⟩:=h
  rw [bB]at n
  have e:bs[j]?=some b0:=by simpa using e
  exact⟨ds,r.set j lg,rfl,⟨xs,eJ b _ (fun z=>n.1 (by rw [z];exact aD e)) q,al.mono k _ _⟩,J6.set k h0 oR eJ n.2 t e⟩
section
variable {X:Cx}{H0:Hp}{o e f v:Expr}{pos apos bq sp:Pos}{we wv:WE}{i:Nat}
theorem W3c {td ty:TE} (ho:PE X o td) (he:PE X e ty) (m:M1 X o "append" apos e bq):PE X (.Call (.Attribute o "append" apos) [e] [] bq)
  (fun σ H Q=>td σ H fun x H1=>∃b h9,x=.ref b/\H1 b=some (.ext (LO b h9))/\ty σ H1 fun y H2=>∃xs,H2 b=some (.ext (LO b xs))/\xs.length<sizeLine/\Q .non (upd H2 b (.ext (LO b (xs++[y]))))):=by
 intro ac s σ H Q I h
 refine wpAny_Call_method m.base m.few m.line PySem.F.plainAttrs_list PySem.F.slot_list_append PySem.F.type_list_append (B3 (ho ac s σ H _ I h) fun u s1 ⟨x,H1,I1,rx,b,h9,ex,eb,q1⟩=>?_)
 subst ex
 obtain rfl:u=Value.ref b:=rx
 obtain⟨_,pU,n0,_,e0⟩:=(show LO b h9 s1.heap from(I1.hok b _ eb).1)
 refine⟨⟨_,e0,rfl⟩,fun c ec=>?_,?_⟩
 ·cases ec;exact⟨_,e0,rfl⟩
 rw [m.trees]
 refine eY rfl (dj (c6 (B3 (he ac s1 σ H1 _ I1 q1) fun yv s2 ⟨y,H2,I2,ry,xs,e2,hz,q2⟩=>cV ?_)))
 obtain⟨z2,aU,n,rv,e3⟩:=(show LO b xs s2.heap from(I2.hok b _ e2).1)
 have el:=rv.length
 refine wpAny_list_append_plain (hsz:=by rw [aF];omega) ⟨n,e3⟩ fun h' hl hs=>⟨.non,_,?_,rfl,q2⟩
 obtain⟨n',e4⟩:=hl
 refine Q3r (t':=s2.toks) I2 (by rw [e2];exact True.intro) hs ⟨_,e4⟩ (LO.ok ⟨by rw [ay];show xs.length+1<=_;omega,aU++[yv],n',rv.append (.cons ry .nil),by simpa using e4⟩)
theorem B9.llAt {K:Fg9}{H:Hp} {τ:A8} {σ:St}{a:Addr}{dss:List (List D)} (hR:B9 K H0 τ σ H) (e1:τ[i]?=some (some (.ll a dss))):σ[i]?=some (some (.ref a))/\Q4x K H0 H a dss:=by
 obtain⟨v,hv,rfl,q⟩:=hR.here i _ e1
 exact⟨hv,q⟩
theorem B9.llset {K:Fg9}{H:Hp} {τ:A8} {σ:St}{a b:Addr}{dss:List (List D)}{j:Nat}{ds:List D}{bs:List Addr}{o:Obj}{h9 xs:List V} (hR:B9 K H0 τ σ H) (e1:τ[i]?=some (some (.ll a dss))) (hv:σ[i]?=some (some (.ref a))) (only:Y3 i τ=true)
  (ha:H a=some (.frz o (.lst (bs.map V.ref)))) (nd:bs.Nodup) (h0:∀b∈bs,H0 b=none) (ll:J6 K H bs dss) (ej:bs[j]?=some b) (eb:H b=some (.ext (LO b h9))) (al:AllS K H ds xs) :
  Kp H (upd H b (.ext (LO b xs)))/\B9 K H0 (τ.set i (some (.ll a (dss.set j ds)))) σ (upd H b (.ext (LO b xs))):=by
 have kp:Kp H (upd H b (.ext (LO b xs))):=Kp.updM eb (by intro xs z;cases z) (by intro o u z;cases z) _
 have hl:i<τ.length:=(aI.mp e1).1
 have qK:H0 b=none:=h0 b (aD ej)
 have j8:∀(j:Nat) (t:Sl),(τ.set i (some (.ll a (dss.set j ds))))[j]?=some (some t)->j≠i->τ[j]?=some (some t):=fun j t e hj=>by rw [aG (fun z=>hj z.symm)]at e;exact e
 have ne:∀c u,H c=some u->(∀ φ,u≠.ext φ)->upd H b (.ext (LO b xs)) c=some u:=fun c u q n=>by rw [B1 (Z5 q eb (n _))];exact q
 refine⟨kp,by rw [bN];exact hR.len,fun c u q=>by rw [B1 (fun z=>by rw [z,qK]at q;cases q)];exact hR.same c u q,fun k t e=>?_,fun k l t u w cA e2 e3 m1 m2 q1 q2=>?_⟩
 ·by_cases hk:k=i
  ·subst hk
   rw [ba hl]at e;cases e
   refine⟨_,hv,rfl,bs,o,kp.frz _ _ _ ha,nd,h0,J6.set kp upd_same (al.mono kp _ _) (fun c φ hc q=>by rw [B1 hc];exact q) nd ll ej⟩
  ·rw [aG (fun z=>hk z.symm)]at e
   obtain⟨w,q,r⟩:=hR.here k t e
   refine⟨w,q,?_⟩
   cases t with
   | dat d=>exact A1.mono kp _ _ r
   | own es=>obtain⟨c,ys,e,n,q,t⟩:=r;exact⟨c,ys,e,n,ne _ _ q (by intro φ z;cases z),t.mono kp _ _⟩
   | bor es=>obtain⟨c,ys,e,q,t⟩:=r;exact⟨c,ys,e,q,t.mono kp _ _⟩
   | bd es=>obtain⟨c,ys,e,q,t⟩:=r;exact⟨c,ys,e,q,t.mono kp _ _⟩
   | dk es=>obtain⟨c,ys,e,n,q,t⟩:=r;exact⟨c,ys,e,n,ne _ _ q (by intro φ z;cases z),t.mono kp _ _⟩
   | dt es=>obtain⟨c,ys,e,n,q,t⟩:=r;exact⟨c,ys,e,n,ne _ _ q (by intro φ z;cases z),t.mono kp _ _⟩
   | ob _=>exact r
   | cl _ _=>exact⟨r.1,r.2.2 _ _ kp r.2.1,r.2.2⟩
   | ll a' d'=>exact absurd e (Z2v only hk)
   | ins _ _ _=>obtain⟨e,n,dx,ys,q,t⟩:=r;exact⟨e,n,dx,ys,ne _ _ q (by intro φ z;cases z),t.mono kp _ _⟩
 ·by_cases hk:k=i
  ·subst hk;rw [ba hl]at e2;cases e2;cases m1
  ·by_cases jE:l=i
   ·subst jE;rw [ba hl]at e3;cases e3;cases m2
   ·rw [aG (fun z=>hk z.symm)]at e2
    rw [aG (fun z=>jE z.symm)]at e3
    exact hR.apart k l t u w cA e2 e3 m1 m2 q1 q2
def Q6o (i:Nat) (we wv:WE):WS:=fun E τ=>∃a dss,τ[i]?=some (some (.ll a dss))/\Y3 i τ=true/\we τ fun r=>∃k j,r=.st (.int k)/\ixN dss.length k=some j/\wv τ fun r2=>∃d,r2=.st d/\(dss.getD j []).length<sizeLine /\
 E.nx (τ.set i (some (.ll a (dss.set j (dss.getD j []++[d])))))
theorem DS.llapp {b:Expr} (ho:PE X b (O3 i)) (he:DE X H0 e we) (hv:DE X H0 v wv) (hpl:Z0l e) (m:M1 X (.Subscript b e pos) "append" apos v bq) (gz:swapsWith (.Call (.Attribute (.Subscript b e pos) "append" apos) [v] [] bq) none sp.line X.env=pure false:=by rfl) :
  DS X H0 (.Expr (.Call (.Attribute (.Subscript b e pos) "append" apos) [v] [] bq) sp) (Q6o i we wv) where
 mono:=fun τ E F le ⟨a,dss,e1,o,h⟩=>⟨a,dss,e1,o,he.mono τ _ _ (fun r ⟨k,j,a1,a2,h⟩=>⟨k,j,a1,a2,hv.mono τ _ _ (fun r ⟨d,b1,b2,b3⟩=>⟨d,b1,b2,le.nx _ b3⟩) h⟩) h⟩
 ps:=Q3 (Z3c (W3c (Y1e Z9b ho he.pe hpl) hv.pe m) gz) fun D σ H ⟨τ,hR,a,dss,e1,only,h⟩=>by
  obtain⟨gx,_⟩:=hR.llAt e1
  refine⟨_,gx,τ,hR,he.mono τ _ _ (fun r ⟨k,j,a1,a2,h⟩ y H1 s1 ik=>?_) h⟩
  subst a1
  cases (show y=.int k from ik)
  have eh:=hR.mono s1
  obtain⟨_,bs,ob,ha,nd,h0,ll⟩:=eh.llAt e1
  have el:=ll.length
  obtain⟨_,hj,_,_⟩:=Z9a a2
  obtain⟨b0,xs,ej,eb,al⟩:=ll.get hj
  have hq:C6 X.K H1 a (bs.map V.ref):=(FzL.sq (.inl ⟨ob,ha⟩))
  have qL:L3 (bs.map V.ref) k=some (V.ref b0):=by unfold L3;rw [ag,el,a2];show(bs.map V.ref)[j]?=_;rw [ai,ej];rfl
  refine⟨a,bs.map V.ref,k,V.ref b0,rfl,rfl,hq,qL,b0,xs,rfl,eb,τ,eh,hv.mono τ _ _ (fun r ⟨d,b1,b2,b3⟩ u H2 s2 iv=>?_) h⟩
  subst b1
  have dz:=eh.mono s2
  have cI:=al.mono (Kp.of s2) _ _
  refine⟨xs,s2 _ _ eb,by rw [<- al.length];exact b2,?_⟩
  obtain⟨kp,mP⟩:=dz.llset (xs:=xs++[u]) (ds:=dss.getD j []++[d]) e1 gx only (s2 _ _ ha) nd h0 (ll.keep (Kp.of s2) fun b φ q=>s2 _ _ q) ej (s2 _ _ eb) (cI.append (AllS.cons iv AllS.nil))
  exact b3 _ _ ((Kp.of (s1.trans s2)).trans kp) mP
theorem Y8l {ac:Pn9} {σ:St}{H:Hp}{s:Shared}{b:Addr}{xs:List V} (I:A0 X ac σ H s) (h:H b=some (.ext (LO b xs))):∃o,A0 X ac σ (upd H b (.frz o (.lst xs))) s:=by
 obtain⟨z,aU,n,r,q⟩:=(show LO b xs s.heap from(I.hok b _ h).1)
 refine⟨_,I.write (t':=s.toks) (h':=s.heap) (e:=b) (o:=.frz { cls:=.type "list",data:=.seq aU.toArray n } (.lst xs)) (by rw [h];trivial) (.inl rfl) (fun b u _ k=>k) ⟨_,q⟩ ?_⟩
 exact⟨q,z,aU,n,r,q⟩
theorem Z8t {ac:Pn9} {σ:St}{s:Shared}:∀{bs:List Addr}{dss:List (List D)}{H:Hp},A0 X ac σ H s->bs.Nodup->J6 X.K H bs dss ->
  ∃H',A0 X ac σ H' s/\Kp H H'/\(∀c,c∉bs->H' c=H c)/\(∀c u,H c=some u->(∀ φ,u≠.ext φ)->H' c=some u)/\AllS X.K H' (dss.map .lst) (bs.map V.ref)
 | [],dss,H,I,_,h=>by
  rw [show dss=[]from h]
  exact⟨H,I,Kp.refl H,fun _ _=>rfl,fun _ _ q _=>q,AllS.nil⟩
 | b::bs,dss,H,I,n,h=>by
  obtain⟨ds,r,rfl,⟨xs,q,al⟩,t⟩:=h
  rw [bB]at n
  obtain⟨o,I1⟩:=Y8l I q
  have kp:Kp H (upd H b (.frz o (.lst xs))):=Kp.updM q (by intro xs z;cases z) (by intro o u z;cases z) _
  have t1:J6 X.K (upd H b (.frz o (.lst xs))) bs r:=by
   have same:∀{cs:List Addr}{ess:List (List D)},b∉cs->J6 X.K H cs ess->J6 X.K (upd H b (.frz o (.lst xs))) cs ess:=by
    intro cs
    induction cs with
    | nil=>intro ess _ h;exact h
    | cons c cs ih =>
     intro ess nb h
     obtain⟨ds,r,rfl,⟨xs,q,al⟩,t⟩:=h
     exact⟨ds,r,rfl,⟨xs,by rw [B1 (fun z=>nb (by rw [z];exact ao))];exact q,al.mono kp _ _⟩,ih (fun z=>nb (av _ z)) t⟩
   exact same n.1 t
  obtain⟨H',I2,k2,o2,e2,cI⟩:=Z8t I1 n.2 t1
  refine⟨H',I2,kp.trans k2,fun c hc=>?_,fun c u hq hu=>?_,AllS.cons (A1.s_lst (.inl ⟨o,k2.frz _ _ _ upd_same⟩) ((al.mono kp _ _).mono k2 _ _)) cI⟩
  ·rw [o2 c (fun z=>hc (av _ z)),B1 (fun z=>hc (by rw [z];exact ao))]
  ·exact e2 c u (by rw [B1 (Z5 hq q (hu _))];exact hq) hu
def Z4m (i:Nat) (w:WS):WS:=fun E τ=>w { E with nx:=fun τ'=>∃a dss,τ'[i]?=some (some (.ll a dss))/\Y3 i τ'=true/\E.nx (τ'.set i (some (.dat (.lst (dss.map .lst))))) } τ
theorem DS.fzL {st:Stmt}{w:WS} (i:Nat) (h:DS X H0 st w):DS X H0 st (Z4m i w) where
 mono:=fun τ E F le q=>h.mono τ { E with nx:=fun τ'=>∃a dss,τ'[i]?=some (some (.ll a dss))/\Y3 i τ'=true/\E.nx (τ'.set i (some (.dat (.lst (dss.map .lst))))) } { F with nx:=fun τ'=>∃a dss,τ'[i]?=some (some (.ll a dss))/\Y3 i τ'=true/\F.nx (τ'.set i (some (.dat (.lst (dss.map .lst))))) }
  ⟨fun τ' ⟨a,dss,e,o,q⟩=>⟨a,dss,e,o,le.nx _ q⟩,le.rt,le.bk,le.ct⟩ q
 ps:=Q3 (Q8f h.ps) fun D σ H ⟨τ,hR,q⟩=>⟨τ,hR,h.mono τ { L4 X.K H0 H D with nx:=fun τ'=>∃a dss,τ'[i]?=some (some (.ll a dss))/\Y3 i τ'=true/\(L4 X.K H0 H D).nx (τ'.set i (some (.dat (.lst (dss.map .lst))))) } _
  ⟨fun τ' ⟨a,dss,e,only,q⟩ σ' H' kp cL ac s I=>by
   obtain⟨hv,bs,ob,ha,nd,h0,ll⟩:=cL.llAt e
   obtain⟨H2,I2,k2,o2,e2,cI⟩:=Z8t I nd ll
   have hl:i<τ'.length:=(aI.mp e).1
   refine⟨H2,I2,q σ' _ (kp.trans k2) ⟨by rw [bN];exact cL.len,fun c u hq=>?_,fun k t et=>?_,fun k l t u w cA et eu m1 m2 q1 q2=>?_⟩⟩
   ·rw [o2 c (fun z=>by rw [h0 c z]at hq;cases hq)];exact cL.same c u hq
   ·by_cases hk:k=i
    ·subst hk
     rw [ba hl]at et;cases et
     exact⟨_,hv,A1.s_lst (K:=X.K) (.inl ⟨ob,k2.frz _ _ _ ha⟩) cI⟩
    ·rw [aG (fun z=>hk z.symm)]at et
     obtain⟨w,q,r⟩:=cL.here k t et
     refine⟨w,q,?_⟩
     cases t with
     | dat d=>exact A1.mono k2 _ _ r
     | own es=>obtain⟨c,ys,e,n,q,t⟩:=r;exact⟨c,ys,e,n,e2 _ _ q (by intro φ z;cases z),t.mono k2 _ _⟩
     | bor es=>obtain⟨c,ys,e,q,t⟩:=r;exact⟨c,ys,e,q,t.mono k2 _ _⟩
     | bd es=>obtain⟨c,ys,e,q,t⟩:=r;exact⟨c,ys,e,q,t.mono k2 _ _⟩
     | dk es=>obtain⟨c,ys,e,n,q,t⟩:=r;exact⟨c,ys,e,n,e2 _ _ q (by intro φ z;cases z),t.mono k2 _ _⟩
     | dt es=>obtain⟨c,ys,e,n,q,t⟩:=r;exact⟨c,ys,e,n,e2 _ _ q (by intro φ z;cases z),t.mono k2 _ _⟩
     | ob _=>exact r
     | cl _ _=>exact⟨r.1,r.2.2 _ _ k2 r.2.1,r.2.2⟩
     | ll a' d'=>exact absurd et (Z2v only hk)
     | ins _ _ _=>obtain⟨e,n,dx,ys,q,t⟩:=r;exact⟨e,n,dx,ys,e2 _ _ q (by intro φ z;cases z),t.mono k2 _ _⟩
   ·by_cases hk:k=i
    ·subst hk;rw [ba hl]at et;cases et;cases m1
    ·by_cases jE:l=i
     ·subst jE;rw [ba hl]at eu;cases eu;cases m2
     ·rw [aG (fun z=>hk z.symm)]at et
      rw [aG (fun z=>jE z.symm)]at eu
      exact cL.apart k l t u w cA et eu m1 m2 q1 q2,fun _ h=>h,fun _ h=>h,fun _ h=>h⟩ q⟩
end
noncomputable def Y2 (g:WG) (we:WE):List D->A8->(List (List D)->Prop)->Prop
 | [],_,Q=>Q []
 | d::ds,τ,Q=>g d τ fun τ'=>we τ' fun r=>∃es,r=.nw es/\Y2 g we ds τ' fun ess=>Q (es::ess)
theorem Z7m {g:WG}{we:WE} (hg:∀d τ (P Q:A8->Prop),(∀ τ,P τ->Q τ)->g d τ P->g d τ Q) (he:∀(τ:A8) (P Q:R->Prop),(∀r,P r->Q r)->we τ P->we τ Q) :
  ∀(ds:List D) (τ:A8) (P Q:List (List D)->Prop),(∀es,P es->Q es)->Y2 g we ds τ P->Y2 g we ds τ Q
 | [],_,_,_,f,h=>f _ h
 | d::ds,τ,P,Q,f,h=>hg d τ _ _ (fun τ' h=>he τ' _ _ (fun r ⟨e,e1,h⟩=>⟨e,e1,Z7m hg he ds τ' _ _ (fun es h=>f _ h) h⟩) h) h
theorem J6.append {K:Fg9}{H:Hp}{b:Addr}{ds:List D}{xs:List V} (q:H b=some (.ext (LO b xs))) (al:AllS K H ds xs):∀{bs:List Addr}{dss:List (List D)},J6 K H bs dss->J6 K H (bs++[b]) (dss++[ds])
 | [],dss,h=>by rw [show dss=[]from h];exact⟨ds,[],rfl,⟨xs,q,al⟩,rfl⟩
 | c::bs,dss,h=>by obtain⟨es,r,rfl,x,t⟩:=h;exact⟨es,r++[ds],rfl,x,t.append q al⟩
theorem Z4g:∀(bs:List Addr),C0 (bs.map V.ref) (bs.map Value.ref)
 | []=>.nil
 | b::bs=>.cons rfl (Z4g bs)
section
variable {X:Cx}{H0:Hp}{tg iter dU:Expr}{scope:Scope}{pos bI fe:Pos}{N:List Str}{nt:Nat}{cap:List Nat}{wi:P3}{g:WG}{we:WE}
theorem Y9m {use:Option (Value->Sem Unit)}{QQ:VS9}{P:List (List D)->Prop}{gt:Pos}{ac:Pn9}{s:Shared} {σ:St}{H:Hp} {τ:A8} (hc:X.calm=true) (B:J3 X scope N nt cap) (hi:E5 X H0 tg iter wi)
  (hg:∀C s H fp,DG (blk X scope C s H fp N) H tg g) (he:∀C s H fp,DE (blk X scope C s H fp N) H dU we) (hs:∀x,foldedSetIterable iter X.env x=pure x)
  (I:A0 X ac σ H s) (hR:B9 X.K H0 τ σ H) (hw:wi τ fun ds=>ds.length<=sizeLine/\Y2 g we ds (R8 nt cap τ) P)
  (fin:∀(C D0:Addr) (s2 s4:Shared) (H2 H4:Hp) (fp:List Addr) (pb:Pn9) (σ4:St) (bs:List Addr) (nn:Nat) (dss:List (List D)) (f:Flow),A0 X ac σ H2 s2->A5 H H2->A0 (blk X scope C s2 H2 fp N) pb σ4 H4 s4->(∀b∈fp,K1 X ac H2 b) ->
   s2.heap.objs.size<=C->s2.heap.objs.size<=D0->D0≠C->H4 D0=none->s4.heap.get? D0=some { cls:=.type "list",data:=.seq (bs.map Value.ref).toArray nn }->bs.length<=sizeLine->A5 H2 H4->bs.Nodup->(∀b∈bs,H2 b=none)->J6 X.K H4 bs dss->P dss->compPost (model X.prog X.w) X.A X.xe use QQ (.ref D0) C (.ok f) s4) :
  wpAny (model X.prog X.w) X.A (comprehension (.ListComp dU [⟨tg,iter,[],0⟩] scope pos) scope X.env gt (newList []) false (eval iter X.env) use) QQ X.xe s:=by
 refine wpAny_comprehension_free rfl hs (Q7h fun y hy e=>I.ok.has y.1 (B.free y hy e)) B.kind B.names ?_
 refine B3 (hi.pi ac s σ H (fun J H2=>A5 H H2/\∃ds,YlS X.K J ds H2/\ds.length<=sizeLine/\Y2 g we ds (R8 nt cap τ) P) I
  ⟨τ,hR,hi.mono τ _ _ (fun ds h J H' sm yl=>⟨sm,ds,yl,h.1,h.2⟩) hw⟩) fun v s1 h1=>B3 h1 fun iO s2 h2=>?_
 obtain⟨it,fp,tn,J,H2,e,I2,T,dQ,f2,cU,ds,yl,hz,kf⟩:=h2
 subst e
 have fA:∀b∈fp,b<s2.heap.objs.size:=fun b hb=>by
  obtain⟨o,ho,_⟩:=T.obj _ _ dQ b hb
  exact au ho
 have dz:=hR.mono cU
 refine bt (g7 B.cell (by intro y hy;simp at hy) (fun h₁ cE cp=>?_) B.kind)
 dsimp only at cE cp ⊢
 generalize hH2:s2.heap.push { cls:=.type "list",dict:=none,data:=.seq ([]:List Value).toArray }=Hq at cE cp ⊢
 have hC:Hq.objs.size=s2.heap.objs.size+1:=by rw [<- hH2,bn]
 have cH:s2.heap.objs.size≠Hq.objs.size:=by rw [hC];exact az (cC _)
 have cm:s2.heap.objs.size<=Hq.objs.size:=by rw [hC];exact cw _
 have old:∀b o,s2.heap.get? b=some o->h₁.get? b=some o:=fun b o e=>cp.extBut b o (by rw [hC];exact az (bx (au e))) (aa _ (hH2 ▸ aa _ e))
 have du:h₁.PlainList s2.heap.objs.size #[]:=⟨_,cp.extBut _ _ cH (aa _ (hH2 ▸ aw _ rfl))⟩
 generalize hCe:Hq.objs.size=C at cE cp hC cH cm ⊢
 generalize hDe:s2.heap.objs.size=D0 at hC cH cm du ⊢
 have cO:∀b∈fp,b<D0:=fun b hb=>hDe ▸ fA b hb
 have dJ:tn 0 h₁:=T.keep _ _ _ dQ fun b _ o e=>old b o e
 have jy:=Q7e (C:=C) (h':=h₁) (t':=s2.toks+([]:List (Str×Value)).length) I2 B f2 fA (by rw [hDe];exact cm) cE old
 have fZ:H2 D0=none:=I2.hok.fresh (by rw [hDe];exact ah _)
 have j9:D0∉frs X.stack:=fun z=>by
  rcases aj.mp (I2.stkSub _ z)with e | e
  ·have:=I2.lt;rw [<- e,hDe]at this;exact aQ _ this
  ·exact I2.nofs (by rw [hDe];exact ah _) e
 have ja:∀x c,(R9 X.env scope.names []).lookup x=some c->c≠D0:=fun x c h z=>by
  obtain⟨v,q⟩:=I2.cell x c (U3 I2 B h)
  have:=q.lt
  rw [z,hDe]at this
  exact aQ _ this
 have dH:∀{pb:Pn9} {σ':St}{H':Hp}{s':Shared}{ys:Array Value}{n:Nat},A0 (blk X scope C s2 H2 fp N) pb σ' H' s'->H' D0=none->s'.heap.get? D0=some { cls:=.type "list",data:=.seq ys n } ->
   A0 (blk X scope C s2 H2 fp N) [(D0,{ cls:=.type "list",data:=.seq ys n })] σ' H' s':=by
  intro pb σ' H' s' ys n I' n' e
  refine I'.pins_of fun p hp=>?_
  have e':p=(D0,{ cls:=.type "list",data:=.seq ys n }):=by simpa using hp
  subst e'
  exact⟨e,n',cH,j9,fun v z=>by cases z⟩
 have fD:∀{H':Hp}{ob:Obj},(∀b∈fp,H' b=none)->∀b∈fp,K1 (blk X scope C s2 H2 fp N) [(D0,ob)] H' b:=by
  intro H' ob hn b hb
  refine⟨hn b hb,(az (ax (cO b hb) cm)),fun z=>?_,.inl hb,fun x c h=>(f2 b hb).2.2.2.2.1 x c (U3 I2 B h),fun p hp=>?_⟩
  ·rcases aj.mp (I2.stkSub b z)with e | e
   ·exact(f2 b hb).2.1 e
   ·exact(f2 b hb).2.2.1 e
  ·have e':p=(D0,ob):=by simpa [blk]using hp
   subst e'
   exact(az (cO b hb)).symm
 let j2:Nat->Shared->Prop:=fun k s'=>∃(i:Nat) (σ':St) (H':Hp) (τ':A8) (nn:Nat) (bs:List Addr) (dss:List (List D)),A0 (blk X scope C s2 H2 fp N) [(D0,{ cls:=.type "list",data:=.seq (bs.map Value.ref).toArray nn })] σ' H' s'/\B9 X.K H2 τ' σ' H'/\tn i s'.heap /\
  (∀b∈fp,H' b=none)/\H' D0=none/\bs.Nodup/\(∀b∈bs,H2 b=none)/\J6 X.K H' bs dss/\i<=ds.length/\k=ds.length-i/\bs.length=i/\Y2 g we (ds.drop i) τ' fun ess=>P (dss++ess)
 have loop:∀s₃:Shared,s₃={ s2 with heap:=h₁,toks:=s2.toks+([]:List (Str×Value)).length } ->
   codeAny (model X.prog X.w) X.A (.compLoop (.ListComp dU [⟨tg,iter,[],0⟩] scope pos) 0 (.ref it) (.ref D0) (compEnvC scope (R9 X.env scope.names []) C X.env))
    (compPost (model X.prog X.w) X.A X.xe use QQ (.ref D0) C) s₃:=by
  rintro s₃ rfl
  obtain⟨nn,ho⟩:=id du
  refine Z0z j2 ?_ ds.length ⟨0,_,H2,R8 nt cap τ,nn,[],[],dH jy fZ ho,Z3e dz nt cap,dJ,fun b hb=>(f2 b hb).1,fZ,jJ,(by intro b hb;cases hb),rfl,bb _,rfl,rfl,by simpa using kf⟩
  rintro k s3 ⟨i,σ3,H3,τ3,nn,bs,dss,I3,R3,fH,fM,d3,nD,f3,lM,nR,rfl,iU,w3⟩
  have ce:A5 H2 H3:=R3.same
  by_cases bY:i<ds.length
  ·refine aP (T.item (blk X scope C s2 H2 fp N) rfl rfl rfl hc i _ s3 σ3 H3 (fun _ _=>False) I3 (fD fM) fH (yl.go H3 ce i bY)) (fun r s4 ⟨u,hr,h4⟩=>?_) fun _ _ z=>z
   subst hr
   refine aP h4 (fun _ s5 ⟨x,H5,I5,r5,y5,eF,iq⟩=>?_) fun _ _ z=>z
   obtain⟨fU,ix⟩:=yl.yld H3 ce i x H5 _ (ae bY) y5
   rw [cF bY]at w3
   have iB:=I5.pinned (fD iq) (T.obj _ _ eF)
   refine aP ((hg C s2 H2 fp).pg _ s5 σ3 H5 x u (fun σ6 H6=>∃ τ6,B9 X.K H2 τ6 σ6 H6/\A5 H5 H6/\we τ6 fun r=>∃es,r=.nw es/\Y2 g we (ds.drop (i+1)) τ6 fun ess=>P (dss++(es::ess)))
    iB r5 ⟨τ3,ds[i],R3.mono fU,ix,(hg C s2 H2 fp).mono _ _ _ _ (fun τ6 h6 σ6 H6 gp R6=>⟨τ6,R6,gp,h6⟩) w3⟩) (fun _ s6 ⟨σ6,H6,I6,τ6,R6,gp,w6⟩=>?_) fun _ _ z=>z
   refine wpAny_tests_nil ?_
   rw [aE rfl]
   refine aP ((he C s2 H2 fp).pe _ s6 σ6 H6 (fun v H8=>A5 H6 H8/\∃es,D9 X.K H6 H8 (.nw es) v/\Y2 g we (ds.drop (i+1)) τ6 fun ess=>P (dss++(es::ess))) I6
    ⟨τ6,R6,(he C s2 H2 fp).mono τ6 _ _ (fun r ⟨e,e1,h⟩ v H8 gn ir=>⟨gn,e,by subst e1;exact ir,h⟩) w6⟩) (fun y s8 ⟨v8,H8,I8,j6,p8,es,⟨b,xs,eb,nb,kC,rn⟩,w8⟩=>?_) fun _ _ z=>z
   subst eb
   obtain rfl:y=Value.ref b:=j6
   have pd:=I8.pin (D0,_) (ar _ (bi _ ao))
   obtain⟨o8,d8,_⟩:=pd
   have qJ:b≠D0:=fun z=>by rw [z,d8]at kC;cases kC
   obtain⟨zb,lT,pJ,rb,ob⟩:=I8.hok b _ kC
   have oS:A0 (blk X scope C s2 H2 fp N) ([(D0,{ cls:=.type "list",data:=.seq (bs.map Value.ref).toArray nn })]++U1 fp s5.heap) σ6 (upd H8 b (.ext (LO b xs))) s8 :=
    I8.write (t':=s8.toks) (h':=s8.heap) (e:=b) (by rw [kC];trivial) (.inl rfl) (fun c u _ k=>k) ⟨_,ob⟩ (LO.ok ⟨zb,lT,pJ,rb,ob⟩)
   have kp:Kp H8 (upd H8 b (.ext (LO b xs))):=Kp.upd kC _
   have j5:A5 H6 (upd H8 b (.ext (LO b xs))):=fun c u q=>by rw [B1 (U9 q nb)];exact p8 c u q
   have ke:(bs.map Value.ref).toArray.size<=sizeLine:=by simp;omega
   refine wpAny_list_append_plain (hsz:=ke) ⟨nn,o8⟩ fun h₅ kq jf=>?_
   have kO:A0 (blk X scope C s2 H2 fp N) (U1 fp s5.heap) σ6 (upd H8 b (.ext (LO b xs))) s8:=oS.pins_of fun p hp=>oS.pin p (ar _ (ar _ hp))
   have ni:upd H8 b (.ext (LO b xs)) D0=none:=by rw [B1 (bD qJ)];exact d8
   have I9:A0 (blk X scope C s2 H2 fp N) (U1 fp s5.heap) σ6 (upd H8 b (.ext (LO b xs))) { s8 with heap:=h₅ }:=by
    refine kO.turned (t':=s8.toks) (it:=D0) (fun c o hb e=>(jf.2 c hb).trans e) ni cH (.inr (by rw [<- hDe];exact ah _)) ja (fun p hp z=>?_)
    obtain⟨q1,_⟩:=Q6a (by simpa [blk]using hp)
    exact az (cO _ q1) z
   obtain⟨jX,o9⟩:=kq
   have pA:h₅.get? D0=some { cls:=.type "list",data:=.seq ((bs++[b]).map Value.ref).toArray jX }:=by rw [o9];simp
   have kW:A5 H3 H6:=fU.trans gp
   have jO:tn (i+1) h₅:=T.keep _ _ _ eF fun b hb o e=>(I9.pin (b,o) (ar _ (Q0k hb e))).1
   have pP:J6 X.K (upd H8 b (.ext (LO b xs))) bs dss:=lM.keep (Kp.of (kW.trans j5)) fun c φ q=>(kW.trans j5) _ _ q
   refine⟨ds.length-(i+1),by omega,i+1,σ6,_,τ6,jX,bs++[b],dss++[es],dH I9 ni pA,R6.mono j5,jO,fun c hb=>?_,ni,?_,fun c hc=>?_,pP.append upd_same (rn.mono kp _ _),bY,rfl,by rw [ay,iU];rfl,by simpa using w8⟩
   ·obtain⟨o,e,_⟩:=T.obj _ _ eF c hb
    exact(I9.pin (c,o) (ar _ (Q0k hb e))).2.1
   ·rw [bS]
    refine⟨nD,by simp,fun c hc c' dR z=>?_⟩
    rw [show c'=b by simpa using dR]at z
    obtain⟨jL,q⟩:=lM.mem hc
    have q6:=kW _ _ q
    rw [z,nb]at q6;cases q6
   ·rcases aR.mp hc with z | z
    ·exact f3 c z
    ·rw [aN.mp z]
     exact(ce.trans kW).free nb
  ·have e:i=ds.length:=by omega
   subst e
   refine aP (T.done (blk X scope C s2 H2 fp N) rfl rfl rfl hc ds.length _ s3 σ3 H3 (fun _ _=>False) I3 (fD fM) fH (yl.stop H3 ce)) (fun r s4 ⟨hr,I4⟩=>?_) fun _ _ z=>z
   subst hr
   have o4:=(I4.pin (D0,_) (ar _ ao)).1
   rw [gb]at w3
   have w3:P (dss++[]):=w3
   rw [bO]at w3
   exact fin C D0 s2 s4 H2 H3 fp _ σ3 bs nn dss _ I2 cU I4 f2 (by rw [hDe];exact cm) (by rw [hDe];exact ah _) cH d3 o4 (by omega) ce nD f3 lM w3
 exact codeAny_compStart_list (loop _ rfl) (T.self _ 0 _ _ _ dJ (loop _ rfl))
def Z4r (i nt:Nat) (cap:List Nat) (wi:P3) (g:WG) (we:WE):WS:=fun E τ=>wi τ fun ds=>ds.length<=sizeLine/\Y2 g we ds (R8 nt cap τ) fun dss=>∀a,E.nx (τ.set i (some (.ll a dss)))
theorem DS.setLC {i:Nat}{x:Str} (hc:X.calm=true) (B:J3 X scope N nt cap) (hi:E5 X H0 tg iter wi) (hg:∀C s H fp,DG (blk X scope C s H fp N) H tg g) (he:∀C s H fp,DE (blk X scope C s H fp N) H dU we) (hN:X.N.Nodup) (jp:X.N[i]?=some x) (hx:Loc X.env.scope x)
  (gz:swapsWith (.ListComp dU [⟨tg,iter,[],0⟩] scope pos) (some (.Name x bI)) fe.line X.env=pure true:=by rfl) (hs:∀x,foldedSetIterable iter X.env x=pure x:=by intro _;rfl)
  (hf:X.fn x=true\/X.env.scope.names.lookup x=some .local:=by first | exact .inl rfl | exact .inr rfl | assumption) :
  DS X H0 (.Assign [.Name x bI] (.ListComp dU [⟨tg,iter,[],0⟩] scope pos) fe) (Z4r i nt cap wi g we) where
 mono:=fun τ E F le h=>hi.mono τ _ _ (fun ds h=>⟨h.1,Z7m (hg 0 X.s₀ X.H₀ []).mono (he 0 X.s₀ X.H₀ []).mono ds _ _ _ (fun es h a=>le.nx _ (h a)) h.2⟩) h
 ps:=by
  intro ac s σ H D I ⟨τ,hR,hw⟩
  rw [exec_Assign_Name_used _ _ _ _ gz]
  refine a9 (wpAny_standAt (a9 ?_))
  change wpAny (model X.prog X.w) X.A (do let _ <- comprehension (.ListComp dU [⟨tg,iter,[],0⟩] scope pos) scope X.env _ (newList []) false (eval iter X.env) (some (assign (.Name x bI) X.env))) _ _ s
  refine a9 (aP (Y9m (use:=some (assign (.Name x bI) X.env)) (QQ:=fun _ s'=>SP X ac D .next s') hc B hi hg he hs I hR hw fun C D0 s2 s4 H2 H4 fp pb σ4 bs nn dss f I2 cU I4 f2 hC hD cH hn ho hz gk nd fr ll w3=>?_)
   (fun _ s' hq=>af (af hq)) fun _ _ e=>e)
  have Ib:A0 X ac σ (upd H4 D0 (.frz { cls:=.type "list",data:=.seq (bs.map Value.ref).toArray nn } (.lst (bs.map V.ref)))) { s4 with heap:=s4.heap } :=
   Z6w I2 I4 f2 hC hD hn ⟨rfl,fun _ _=>rfl⟩ ⟨ho,by rw [ag];exact hz,bs.map Value.ref,nn,Z4g bs,ho⟩
  have iZ:C≠X.env.locals:=fun z=>aQ _ (ax I2.lt (z ▸ hC))
  have iY:∀x c,X.env.cells.lookup x=some c->c≠C:=fun x c h z=>by
   obtain⟨v,q⟩:=I2.cell x c h
   exact aQ _ (ax q.lt (z ▸ hC))
  change wpAny (model X.prog X.w) X.A (assign (.Name x bI) X.env (Value.ref D0)) _ _ s4
  refine wpAny_assign_Name (Q9a (v:=.ref D0) Ib hN jp hx rfl (fun s5 I5 ⟨a,jT,ha⟩=>?_) hf)
  obtain⟨m4,ij,_⟩:=id I4.loc
  have kI:C≠a:=by
   rcases ha with ha | ha
   ·rw [ha];exact iZ
   ·exact fun z=>iY _ _ ha z.symm
  refine⟨m4,ij.sameBut jT kI,fun h' sb=>?_⟩
  have kJ:H4 C=none:=I4.free
  have I6:A0 X ac (σ.set i (some (.ref D0))) (upd H4 D0 (.frz { cls:=.type "list",data:=.seq (bs.map Value.ref).toArray nn } (.lst (bs.map V.ref)))) { s5 with heap:=h' }:=by
   refine I5.turned (t':=s5.toks) (it:=C) (fun b o hb e=>(sb.2 b hb).trans e) (by rw [B1 (bD cH)];exact kJ) iZ (.inr (aT I2.sz hC)) iY fun p hp z=>?_
   have:=(I2.pin p hp).1
   exact aQ _ (ax (au this) (z ▸ hC))
  have jS:A5 H (upd H4 D0 (.frz { cls:=.type "list",data:=.seq (bs.map Value.ref).toArray nn } (.lst (bs.map V.ref)))):=cU.trans (gk.trans (D7 hn _))
  have cL:=(hR.mono jS).set (i:=i) (s:=.ll D0 dss) (v:=.ref D0) ⟨rfl,bs,_,upd_same,nd,fun b hb=>(hR.same.trans cU).free (fr b hb),ll.keep (Kp.of (D7 hn _)) fun c φ q=>by rw [B1 (U9 q hn)];exact q⟩ fun m=>by cases m
  exact⟨_,_,I6,w3 D0 _ _ (Kp.of jS) cL⟩
end
abbrev Q2h (h:Heap) (z TI TO T:Addr) (f:Bool):Prop :=
 h.get? z=some { cls:=.type "zip",dict:=none,data:=.fields #[rawInt T,.bool f,.bool false,.ref TI,.ref TO],slots:=#[] }
section
variable {P:Program}{w:World}{A:Around}{E:VS9}{s:Shared}{z TI TO T i1 i2 l1 l2:Addr}{f:Bool}{k:Nat}{xs ys:Array Value}{oT:Obj}
theorem Y4u {Q:Bool->Shared->Prop} (hz:Q2h s.heap z TI TO T f) (hT:s.heap.get? T=some oT) (hQ:∀h',Q2h h' z TI TO T true->Heap.SameBut z s.heap h'->Q false { s with heap:=h' }) :
  wpAny (model P w) A (Builtin.SmallTypes.ownedTupleIsFree (.ref z)) Q E s:=by
 unfold Builtin.SmallTypes.ownedTupleIsFree;refine a9 (aV hz rfl (x:=rawInt T) rfl ?_)
 change wpAny (model P w) A (loadIfAlive ((T:Int).toNat)>>=_) _ _ _
 rw [bp]
 refine a9 (PySem.W.kdx_alive hT ?_)
 rw [aC (by simp)]
 refine a9 (aV hz rfl (x:=.bool f) rfl ?_)
 cases f with
 | true =>
  rw [aC (by decide)]
  exact af (hQ s.heap hz (Heap.SameBut.refl _ _))
 | false =>
  rw [aE (by decide)]
  exact a9 (bf hz (by simp) fun h₃ mC gS=>af (hQ h₃ mC gS))
theorem W9z {x y:Value}{Q:VS9} (D:ZipApart z TI TO i1 i2 l1 l2) (hz:Q2h s.heap z TI TO T f) (hT:s.heap.get? T=some oT) (cy:IsPair s.heap TI (.ref i1) (.ref i2))
  (h1:s.heap.IsListIter i1 l1 k) (h2:s.heap.IsListIter i2 l2 k) (dr:s.heap.IsList l1 xs) (cX:s.heap.IsList l2 ys) (hx:xs[k]?=some x) (hy:ys[k]?=some y)
  (hQ:∀h',Q2h h' z TI TO T true->h'.IsListIter i1 l1 (k+1)->h'.IsListIter i2 l2 (k+1)->IsPair h' s.heap.objs.size x y->h'.objs.size=s.heap.objs.size+1 ->
   (∀c o,c≠z->c≠i1->c≠i2->s.heap.get? c=some o->h'.get? c=some o)->Q (.ref s.heap.objs.size) { s with heap:=h' }) :
  wpAny (model P w) A (Builtin.«zip.__next__» ⟨[.ref z],[]⟩) (fun fin s'=>∃v,fin=.done (.ret v)/\Q v s') E s:=by
 change wpAny (model P w) A (field (.ref z) 2>>=_) _ _ s
 refine a9 (aV hz rfl (x:=Value.bool false) rfl ?_)
 change wpAny (model P w) A (field (.ref z) 3>>=_) _ _ s
 refine a9 (aV hz rfl (x:=.ref TI) rfl (a9 (bg cy rfl ?_)))
 change wpAny (model P w) A (Builtin.SmallTypes.ownedTupleIsFree (.ref z)>>=_) _ _ s
 refine a9 (Y4u hz hT fun h₁ dI fx=>?_)
 rw [aC (by decide)]
 refine a9 ?_
 rw [<- cR]
 rw [bj]
 refine a9 (a9 (bu ?_))
 change wpAny (model P w) A (Builtin.SmallTypes.nextOf (.ref i1)>>=fun x=>pure (some x)) _ _ _
 refine a9 (wpAny_nextOf_list_item (h1.extBut fx.extBut D.i1z) (dr.extBut fx.extBut D.l1z) hx fun h₂ gK gy=>af (af ?_))
 dsimp only
 rw [bj]
 refine a9 (a9 (bu ?_))
 change wpAny (model P w) A (Builtin.SmallTypes.nextOf (.ref i2)>>=fun x=>pure (some x)) _ _ _
 refine a9 (wpAny_nextOf_list_item ((h2.extBut fx.extBut D.i2z).extBut gy.extBut D.i12.symm) ((cX.extBut fx.extBut D.l2z).extBut gy.extBut D.l2i1) hy fun h₃ gJ gS=>af (af ?_))
 dsimp only
 rw [eT]
 refine af (a9 (wpAny_newTuple (af ⟨_,rfl,?_⟩) (hsz:=by show 2<=sizeLine;decide)))
 have sz:h₃.objs.size=s.heap.objs.size:=by rw [gS.1,gy.1,fx.1]
 have up:∀c o,c≠z->c≠i1->c≠i2->s.heap.get? c=some o->h₃.get? c=some o:=fun c o c1 c2 c3 e=>gS.extBut _ _ c3 (gy.extBut _ _ c2 (fx.extBut _ _ c1 e))
 have lV:Q2h h₃ z TI TO T true:=gS.extBut _ _ D.i2z.symm (gy.extBut _ _ D.i1z.symm dI)
 have mZ:h₃.IsListIter i1 l1 (k+1):=gK.extBut gS.extBut D.i12
 have goal:=hQ (h₃.push { cls:=.type "tuple",data:=.seq #[x,y] }) (aa _ lV) (mZ.at fun o e=>aa _ e) (gJ.at fun o e=>aa _ e)
  (by
   have e:(h₃.push { cls:=.type "tuple",data:=.seq #[x,y] }).get? h₃.objs.size=some { cls:=.type "tuple",data:=.seq #[x,y] }:=aw _ rfl
   rw [sz]at e;exact e) (by rw [bn,sz]) fun c o c1 c2 c3 e=>aa _ (up c o c1 c2 c3 e)
 rw [<- sz]at goal
 exact goal
theorem W9y {Q:Fin->Shared->Prop} (hh:A.handled=none) (D:ZipApart z TI TO i1 i2 l1 l2) (hz:Q2h s.heap z TI TO T f) (hT:s.heap.get? T=some oT) (cy:IsPair s.heap TI (.ref i1) (.ref i2))
  (h1:s.heap.IsListIter i1 l1 k) (h2:s.heap.IsListIter i2 l2 k) (dr:s.heap.IsList l1 xs) (cX:s.heap.IsList l2 ys) (fQ:xs[k]?=none\/ys[k]?=none)
  (hE:∀h' e,(∀c o,c≠z->c≠i1->c≠i2->s.heap.get? c=some o->h'.get? c=some o)->(∃o,h'.get? e=some o/\o.cls=.type "StopIteration")->E (.ref e) { s with heap:=h' }) :
  wpAny (model P w) A (Builtin.«zip.__next__» ⟨[.ref z],[]⟩) Q E s:=by
 change wpAny (model P w) A (field (.ref z) 2>>=_) _ _ s
 refine a9 (aV hz rfl (x:=Value.bool false) rfl ?_)
 change wpAny (model P w) A (field (.ref z) 3>>=_) _ _ s
 refine a9 (aV hz rfl (x:=.ref TI) rfl (a9 (bg cy rfl ?_)))
 change wpAny (model P w) A (Builtin.SmallTypes.ownedTupleIsFree (.ref z)>>=_) _ _ s
 refine a9 (Y4u hz hT fun h₁ dI fx=>?_)
 rw [aC (by decide)]
 refine a9 ?_
 rw [<- cR]
 rw [bj]
 refine a9 (a9 (bu ?_))
 change wpAny (model P w) A (Builtin.SmallTypes.nextOf (.ref i1)>>=fun x=>pure (some x)) _ _ _
 cases hx:xs[k]? with
 | none =>
  exact a9 (wpAny_nextOf_list_end hh (h1.extBut fx.extBut D.i1z) (dr.extBut fx.extBut D.l1z) hx fun h₂ e gy he=>hE h₂ e (fun c o c1 c2 _ x=>gy _ _ c2 (fx.extBut _ _ c1 x)) he)
 | some x =>
  have hy:ys[k]?=none:=by rcases fQ with h | h;rw [hx]at h;cases h;exact h
  refine a9 (wpAny_nextOf_list_item (h1.extBut fx.extBut D.i1z) (dr.extBut fx.extBut D.l1z) hx fun h₂ gK gy=>af (af ?_))
  dsimp only
  rw [bj]
  refine a9 (a9 (bu ?_))
  change wpAny (model P w) A (Builtin.SmallTypes.nextOf (.ref i2)>>=fun x=>pure (some x)) _ _ _
  refine a9 (wpAny_nextOf_list_end hh ((h2.extBut fx.extBut D.i2z).extBut gy.extBut D.i12.symm) ((cX.extBut fx.extBut D.l2z).extBut gy.extBut D.l2i1) hy fun h₃ e gS he=>?_)
  exact hE h₃ e (fun c o c1 c2 c3 x=>gS _ _ c3 (gy.extBut _ _ c2 (fx.extBut _ _ c1 x))) he
def ZSt (h:Heap) (z TI TO i1 i2 l1 l2:Addr) (k:Nat) (as:List Addr):Prop :=
 IsPair h TI (.ref i1) (.ref i2)/\h.IsListIter i1 l1 k/\h.IsListIter i2 l2 k/\((as=[]/\IsZip h z TI TO .none/\∃a b,IsPair h TO a b)\/∃T f o,T∈as/\Q2h h z TI TO T f/\h.get? T=some o)
theorem V0b {x y:Value}{as:List Addr}{Q:Option Value->Shared->Prop} (D:ZipApart z TI TO i1 i2 l1 l2) (gY:∀a∈as,a≠z/\a≠TI/\a≠TO/\a≠i1/\a≠i2) (st:ZSt s.heap z TI TO i1 i2 l1 l2 k as) (dr:s.heap.IsList l1 xs) (cX:s.heap.IsList l2 ys) (hx:xs[k]?=some x) (hy:ys[k]?=some y)
  (hQ:∀h',ZSt h' z TI TO i1 i2 l1 l2 (k+1) (as++[s.heap.objs.size])->IsPair h' s.heap.objs.size x y->h'.objs.size=s.heap.objs.size+1->(∀c o,c≠z->c≠TO->c≠i1->c≠i2->s.heap.get? c=some o->h'.get? c=some o)->Q (some (.ref s.heap.objs.size)) { s with heap:=h' }) :
  wpAny (model P w) A (pyNext (.ref z)) Q E s:=by
 obtain⟨cy,h1,h2,⟨ea,hz,a,b,cG⟩ | ⟨T,f,o,hm,hz,hT⟩⟩:=st
 ·refine wpAny_pyNext_zip_item D hz cy cG h1 h2 dr cX hx hy fun h' a1 a2 a3 a4 a5 a6 a7=>hQ h' ⟨a7 _ _ D.TIz D.TITO D.TIi1 D.TIi2 cy,a3,a4,.inr ⟨s.heap.objs.size,false,_,ar _ ao,a1,a5⟩⟩ a5 a6 a7
 ·have fV:s.TypeIs (.ref z) "zip":=⟨_,hz,rfl⟩
  obtain⟨t1,t2,t3,t4,t5⟩:=gY T hm
  unfold pyNext
  exact a9 (dB (b9 (name:=Str.ofString "__next__") fV bK (be bK fV fN
   (W9z D hz hT cy h1 h2 dr cX hx hy fun h' a1 a3 a4 a5 a6 a7=>af (hQ h' ⟨a7 _ _ D.TIz D.TIi1 D.TIi2 cy,a3,a4,.inr ⟨T,true,_,bi _ hm,a1,a7 T _ t1 t4 t5 hT⟩⟩ a5 a6 fun c o c1 _ c3 c4 e=>a7 c o c1 c3 c4 e)) (eX _))))
theorem V0c {as:List Addr}{Q:Option Value->Shared->Prop} (hh:A.handled=none) (D:ZipApart z TI TO i1 i2 l1 l2) (st:ZSt s.heap z TI TO i1 i2 l1 l2 k as) (dr:s.heap.IsList l1 xs) (cX:s.heap.IsList l2 ys) (fQ:xs[k]?=none\/ys[k]?=none)
  (hQ:∀h',(∀c o,c≠z->c≠TO->c≠i1->c≠i2->s.heap.get? c=some o->h'.get? c=some o)->Q none { s with heap:=h' }):wpAny (model P w) A (pyNext (.ref z)) Q E s:=by
 obtain⟨cy,h1,h2,⟨ea,hz,a,b,cG⟩ | ⟨T,f,o,hm,hz,hT⟩⟩:=st
 ·exact wpAny_pyNext_zip_end hh D hz cy cG h1 h2 dr cX fQ hQ
 ·have fV:s.TypeIs (.ref z) "zip":=⟨_,hz,rfl⟩
  unfold pyNext
  refine a9 (dB (b9 (name:=Str.ofString "__next__") fV bK (be bK fV fN (W9y hh D hz hT cy h1 h2 dr cX fQ fun h' e hk he=>?_) (eX _))))
  obtain⟨oe,ho,hc⟩:=he
  exact a9 (wpAny_isInstance (T:="StopIteration") (b:=true) ⟨oe,ho,hc⟩ isSubtype_stop (af (hQ _ fun c o c1 _ c3 c4 e=>hk c o c1 c3 c4 e)))
theorem V0a {R:Result->Shared->Prop}{S:Addr}{res:Value}{h0:Heap} (hh:A.handled=none) (D:ZipApart z TI TO i1 i2 l1 l2) (hS:S≠z/\S≠TI/\S≠TO/\S≠i1/\S≠i2/\S≠l1/\S≠l2) (hn:min xs.size ys.size<=sizeLine) (il:∀b∈[z,TI,TO,i1,i2,l1,l2,S],b<h0.objs.size)
  (hR:∀(h':Heap) (tk:Nat) (as:List Addr) (c:Nat),as.length=min xs.size ys.size->as.Nodup->(∀a∈as,h0.objs.size<=a)->(∀(j:Nat) a,as[j]?=some a->∃x y,xs[j]?=some x/\ys[j]?=some y/\IsPair h' a x y)->(∀c o,c∉[z,TO,i1,i2,S]->h0.get? c=some o->h'.get? c=some o) ->
   h'.get? S=some { cls:=.type "list",data:=.seq (as.map Value.ref).toArray c }->R (.ok (.ret res)) { s with heap:=h',toks:=tk }) :
  ∀(m k:Nat) (h:Heap) (tk c:Nat) (as:List Addr),m=min xs.size ys.size-k->k<=min xs.size ys.size->ZSt h z TI TO i1 i2 l1 l2 k as->h.IsList l1 xs->h.IsList l2 ys->as.length=k->as.Nodup->(∀a∈as,h0.objs.size<=a)->h0.objs.size<=h.objs.size->(∀a∈as,a<h.objs.size) ->
   (∀(j:Nat) a,as[j]?=some a->∃x y,xs[j]?=some x/\ys[j]?=some y/\IsPair h a x y)->(∀c o,c∉[z,TO,i1,i2,S]->h0.get? c=some o->h.get? c=some o) ->
   h.get? S=some { cls:=.type "list",data:=.seq (as.map Value.ref).toArray c }->codeAny (model P w) A (.builtin "list.extend.loop" ⟨[.ref S,.ref z,res],[]⟩) R { s with heap:=h,toks:=tk }:=by
 intro m
 induction m with
 | zero =>
  intro k h tk c as hm hk st dr cX ip gA eB hsz bY jh gB jx
  have e:k=min xs.size ys.size:=by omega
  refine codeAny_builtin F.entry_extend_loop ?_;rw [Around.under_plainId F.plain_extend_loop _]
  change wpAny (model P w) A.in1 (pyNext (.ref z)>>=_) _ _ _
  have fQ:xs[k]?=none\/ys[k]?=none:=by
   by_cases z:xs.size<=ys.size
   ·exact .inl (by simp;omega)
   ·exact .inr (by simp;omega)
  refine a9 (V0c (s:={ s with heap:=h,toks:=tk }) (A:=A.in1) hh D st dr cX fQ fun h' kp=>af ?_)
  obtain⟨s1,s2,s3,s4,s5,s6,s7⟩:=hS
  have ap:∀a∈as,a≠z/\a≠TO/\a≠i1/\a≠i2:=fun a ha=>by
   have g:=eB a ha
   refine⟨fun e=>?_,fun e=>?_,fun e=>?_,fun e=>?_⟩ <;> (have:=il a (by rw [e];simp);exact absurd this (Nat.not_lt.mpr g))
  refine hR h' _ as c (by omega) gA eB (fun j a ej=>?_) (fun c o hc e=>?_) (kp S _ s1 s3 s4 s5 jx)
  ·obtain⟨x,y,ex,ey,p⟩:=jh j a ej
   obtain⟨a1,a2,a3,a4⟩:=ap a (aD ej)
   exact⟨x,y,ex,ey,kp a _ a1 a2 a3 a4 p⟩
  ·have:=gB c o hc e
   simp only [aj,aL,br,not_or]at hc
   exact kp c o hc.1 hc.2.1 hc.2.2.1 hc.2.2.2.1 this
 | succ m ih =>
  intro k h tk c as hm hk st dr cX ip gA eB hsz bY jh gB jx
  have nO:k<xs.size:=by omega
  have nN:k<ys.size:=by omega
  refine codeAny_builtin F.entry_extend_loop ?_;rw [Around.under_plainId F.plain_extend_loop _]
  change wpAny (model P w) A.in1 (pyNext (.ref z)>>=_) _ _ _
  have lm:∀a,h0.objs.size<=a->a≠z/\a≠TI/\a≠TO/\a≠i1/\a≠i2/\a≠S:=fun a g=>by
   refine⟨fun e=>?_,fun e=>?_,fun e=>?_,fun e=>?_,fun e=>?_,fun e=>?_⟩ <;> (have:=il a (by rw [e];simp);exact absurd this (Nat.not_lt.mpr g))
  have ap:∀a∈as,a≠z/\a≠TI/\a≠TO/\a≠i1/\a≠i2:=fun a ha=>by obtain⟨a1,a2,a3,a4,a5,_⟩:=lm a (eB a ha);exact⟨a1,a2,a3,a4,a5⟩
  obtain⟨s1,s2,s3,s4,s5,s6,s7⟩:=hS
  refine a9 (V0b (s:={ s with heap:=h,toks:=tk }) (A:=A.in1) D ap st dr cX (bG nO) (bG nN) fun h' fk pj oX kp=>?_)
  have nZ:=kp S _ s1 s3 s4 s5 jx
  change wpAny (model P w) A.in1 (updateSeq S (·.push (Value.ref h.objs.size))>>=_) _ _ _
  have kE:(as.map Value.ref).toArray.size=k:=by simp [ip]
  refine a9 (wpAny_updateSeq nZ rfl (af ⟨plainId_quiet F.plain_extend_loop _,?_⟩) (hz:=by rw [kE];omega) (_hz':=by show((as.map Value.ref).toArray.push _).size<=_;rw [Array.size_push,kE];omega))
  have eJ:∀b o,b≠S->h'.get? b=some o->(h'.update S (Obj.mapSeq (·.push (Value.ref h.objs.size)))).get? b=some o:=fun b o hb e=>(eV _ _ (bD hb)).trans e
  have nr:(h'.update S (Obj.mapSeq (·.push (Value.ref h.objs.size)))).objs.size=h.objs.size+1:=by rw [(bC (h:=h') (a:=S) ..).1];exact oX
  have kr:h0.objs.size<=h.objs.size:=hsz
  have jY:=lm h.objs.size kr
  obtain⟨c',qP⟩:∃c',(h'.update S (Obj.mapSeq (·.push (Value.ref h.objs.size)))).get? S=some { cls:=.type "list",data:=.seq ((as++[h.objs.size]).map Value.ref).toArray c' }:=by
   have e:=fG (Obj.mapSeq (·.push (Value.ref h.objs.size))) nZ rfl
   have e2:((as++[h.objs.size]).map Value.ref).toArray=(as.map Value.ref).toArray.push (Value.ref h.objs.size):=by simp
   rw [e2]
   exact⟨_,e⟩
  refine ih (k+1) _ tk c' (as++[h.objs.size]) (by omega) (by omega) ?_ ?_ ?_ (by rw [ay,ip];rfl) ?_ ?_ (by rw [nr];omega) ?_ ?_ ?_ ?_
  ·obtain⟨a1,a2,a3,a4⟩:=fk
   refine⟨eJ _ _ (bD s2) a1,a2.at fun o e=>eJ _ o (bD s4) e,a3.at fun o e=>eJ _ o (bD s5) e,?_⟩
   rcases a4 with⟨e,hz,a,b,cG⟩ | ⟨T,f,o,hm,hz,hT⟩
   ·exact .inl ⟨e,eJ _ _ (bD s1) hz,a,b,eJ _ _ (bD s3) cG⟩
   ·refine .inr ⟨T,f,o,hm,eJ _ _ (bD s1) hz,eJ _ _ ?_ hT⟩
    rcases aR.mp hm with q | q
    ·exact(lm T (eB T q)).2.2.2.2.2
    ·rw [aN.mp q];exact jY.2.2.2.2.2
  ·obtain⟨o,e,r⟩:=dr
   exact⟨o,eJ _ _ (bD s6) (kp l1 o D.l1z D.l1TO D.l1i1 D.l1i2 e),r⟩
  ·obtain⟨o,e,r⟩:=cX
   exact⟨o,eJ _ _ (bD s7) (kp l2 o D.l2z D.l2TO D.l2i1 D.l2i2 e),r⟩
  ·rw [bS]
   refine⟨gA,by simp,fun a ha b hb e=>?_⟩
   rw [show b=h.objs.size by simpa using hb]at e
   have:=bY a ha
   rw [e]at this;exact aQ _ this
  ·intro a ha
   rcases aR.mp ha with q | q
   ·exact eB a q
   ·rw [aN.mp q];exact kr
  ·intro a ha
   rw [nr]
   rcases aR.mp ha with q | q
   ·exact bx (bY a q)
   ·rw [aN.mp q];exact cC _
  ·intro j a ej
   by_cases hj:j<as.length
   ·rw [aH hj]at ej
    obtain⟨x,y,ex,ey,p⟩:=jh j a ej
    obtain⟨a1,a2,a3,a4,a5⟩:=ap a (aD ej)
    exact⟨x,y,ex,ey,eJ _ _ (lm a (eB a (aD ej))).2.2.2.2.2 (kp a _ a1 a3 a4 a5 p)⟩
   ·rw [aS (by omega)]at ej
    have e0:j-as.length=0:=by
     rcases Nat.eq_zero_or_pos (j-as.length)with z | z
     ·exact z
     ·rw [cq (show [h.objs.size].length<=j-as.length from z)]at ej;cases ej
    rw [e0]at ej
    cases ej
    have ej:j=k:=by omega
    subst ej
    exact⟨_,_,bG nO,bG nN,eJ _ _ jY.2.2.2.2.2 pj⟩
  ·intro c o hc e
   have:=gB c o hc e
   simp only [aj,aL,br,not_or]at hc
   exact eJ c o hc.2.2.2.2 (kp c o hc.1 hc.2.1 hc.2.2.1 hc.2.2.2.1 this)
  ·exact qP
theorem Y7z {Q:Bool->Shared->Prop} (hT:s.TypeIs (.ref z) "zip") (h:Q true s):wpAny (model P w) A (Builtin.List.listLengthHint (.ref z)) Q E s:=by
 unfold Builtin.List.listLengthHint;refine a9 (wpAny_specialOf hT (show typeLookup (.type "zip") "__len__"=pure none by rw [typeLookup_type,builtinLookup_eq_fast];kernel_rfl) ?_)
 refine a9 (wpAny_specialOf hT (show typeLookup (.type "zip") "__length_hint__"=pure none by rw [typeLookup_type,builtinLookup_eq_fast];kernel_rfl) ?_)
 exact af h
theorem Z2g {h:Heap}{S:Addr}{xs:Array Value}{c:Nat} (e:h.get? S=some { cls:=.type "list",data:=.seq xs c }) (f:Array Value->Array Value):∃c',(h.update S (Obj.mapSeq f)).get? S=some { cls:=.type "list",data:=.seq (f xs) c' } :=
 ⟨_,fG (Obj.mapSeq f) e rfl⟩
theorem Y6o {Q:VS9} (hh:A.handled=none) (D:ZipApart z TI TO i1 i2 l1 l2) (st:ZSt s.heap z TI TO i1 i2 l1 l2 0 []) (dr:s.heap.IsList l1 xs) (cX:s.heap.IsList l2 ys) (hn:min xs.size ys.size<=sizeLine) (il:∀b∈[z,TI,TO,i1,i2,l1,l2],b<s.heap.objs.size)
  (hQ:∀(h':Heap) (tk:Nat) (as:List Addr) (c:Nat),as.length=min xs.size ys.size->as.Nodup->(∀a∈as,s.heap.objs.size<a)->(∀(j:Nat) a,as[j]?=some a->∃x y,xs[j]?=some x/\ys[j]?=some y/\IsPair h' a x y)->(∀c o,c∉[z,TO,i1,i2]->s.heap.get? c=some o->h'.get? c=some o) ->
   h'.get? s.heap.objs.size=some { cls:=.type "list",data:=.seq (as.map Value.ref).toArray c }->Q (.ref s.heap.objs.size) { s with heap:=h',toks:=tk }) :
  wpAny (model P w) A (call (.type "list") [.ref z]) Q E s:=by
 refine callType_codes (Q₁:=fun obj s₁=>obj=.ref s.heap.objs.size/\s₁={ s with heap:=s.heap.push { cls:=.type "list",data:=.seq #[] } }) PySem.F.called_list (PySem.F.typeCall_list_1 _) PySem.F.entry_list_init (code_list_new _ ⟨rfl,rfl⟩) ?_
 rintro obj s₁ ⟨rfl,rfl⟩
 generalize hSe:s.heap.objs.size=S
 have iR:∀b∈[z,TI,TO,i1,i2,l1,l2],b<S:=fun b hb=>by rw [<- hSe];exact il b hb
 have l9:(s.heap.push { cls:=.type "list",data:=.seq #[] }).get? S=some { cls:=.type "list",data:=.seq #[] }:=by rw [<- hSe];exact aw _ rfl
 have ne:∀b,b∈[z,TI,TO,i1,i2,l1,l2]->b≠S:=fun b hb=>az (iR b hb)
 refine⟨⟨_,l9,rfl⟩,PySem.F.args_list_init_2 _ _,?_⟩
 change wpAny (model P w) A.in1.in1 (Builtin.List.listItems (.ref S)>>=fun old=>Builtin.List.listUpdate (.ref S) (fun _=>#[])>>=fun _=>letGo old.toList.reverse>>=fun _=>Builtin.List.listExtendWith (.ref S) (.ref z) .none) _ _ _
 unfold Builtin.List.listItems
 refine a9 (a9 (bg l9 rfl (af ?_)))
 change wpAny (model P w) A.in1.in1 (updateSeq S (fun _=>#[])>>=_) _ _ _
 refine a9 (wpAny_updateSeq l9 rfl (a9 (g8 ?_)))
 obtain⟨c1,mN⟩:=Z2g l9 (fun _=>#[])
 have i3:∀b o,b≠S->s.heap.get? b=some o->((s.heap.push { cls:=.type "list",data:=.seq #[] }).update S (Obj.mapSeq (fun _=>#[]))).get? b=some o:=fun b o hb e=>(eV _ _ (bD hb)).trans (aa _ e)
 have nu:((s.heap.push { cls:=.type "list",data:=.seq #[] }).update S (Obj.mapSeq (fun _=>#[]))).objs.size=S+1:=by rw [(bC (h:=s.heap.push { cls:=.type "list",data:=.seq #[] }) (a:=S) ..).1,bn,hSe]
 generalize hH1:(s.heap.push { cls:=.type "list",data:=.seq #[] }).update S (Obj.mapSeq (fun _=>#[]))=H1 at mN i3 nu ⊢
 have jN:∀h:Heap,(∀b o,b≠S->s.heap.get? b=some o->h.get? b=some o)->ZSt h z TI TO i1 i2 l1 l2 0 []:=fun h k=>by
  obtain⟨a1,a2,a3,a4⟩:=st
  refine⟨k _ _ (ne TI (by simp)) a1,a2.at fun o e=>k _ o (ne i1 (by simp)) e,a3.at fun o e=>k _ o (ne i2 (by simp)) e,?_⟩
  rcases a4 with⟨e,hz,a,b,cG⟩ | ⟨T,f,o,hm,_⟩
  ·exact .inl ⟨e,k _ _ (ne z (by simp)) hz,a,b,k _ _ (ne TO (by simp)) cG⟩
  ·cases hm
 have lW:∀h:Heap,(∀b o,b≠S->s.heap.get? b=some o->h.get? b=some o)->∃o,h.get? z=some o/\o.cls=.type "zip":=fun h k=>by
  obtain⟨_,_,_,⟨_,hz,_⟩ | ⟨_,_,_,hm,_⟩⟩:=st
  ·exact⟨_,k _ _ (ne z (by simp)) hz,rfl⟩
  ·cases hm
 obtain⟨oz,ez,cz⟩:=lW H1 i3
 unfold Builtin.List.listExtendWith;refine a9 (wpAny_typeOf (T:="zip") ⟨oz,ez,cz⟩ ?_)
 have h1:Builtin.List.listSameRef (.ref S) (.ref z)=false:=by simp [Builtin.List.listSameRef,(ne z (by simp)).symm]
 have h2:(Builtin.List.listSameRef (.ref S) (.ref z)||(Value.type "zip"==Value.type "list")||(Value.type "zip"==Value.type "tuple"))=false:=by rw [h1];decide
 rw [aC (by rw [h2];decide)]
 obtain⟨_,_,_,⟨_,kc,_⟩ | ⟨_,_,_,hm,_⟩⟩:=jN H1 i3
 case inr=>cases hm
 refine a9 (wpAny_pyIter_zip kc (a9 (bu (Y7z ⟨oz,ez,cz⟩ ?_))))
 rw [Bool.true_or,aE rfl]
 refine a9 (dW (a9 ?_))
 change wpAny (model P w) A.in1.in1 (updateSeq S (·.push .none)>>=fun _=>updateSeq S (·.pop)) _ _ _
 refine a9 (wpAny_updateSeq mN rfl ?_)
 obtain⟨c2,nY⟩:=Z2g mN (·.push Value.none)
 refine wpAny_updateSeq (hz:=by seq_fits) nY rfl ?_
 obtain⟨c3,nX⟩:=Z2g nY (·.pop)
 have e3:((#[]:Array Value).push Value.none).pop=(([]:List Addr).map Value.ref).toArray:=rfl
 have fg:∀b o,b≠S->s.heap.get? b=some o->((H1.update S (Obj.mapSeq (·.push Value.none))).update S (Obj.mapSeq (·.pop))).get? b=some o:=fun b o hb e=>(eV _ _ (bD hb)).trans ((eV _ _ (bD hb)).trans (i3 b o hb e))
 have lw:((H1.update S (Obj.mapSeq (·.push Value.none))).update S (Obj.mapSeq (·.pop))).objs.size=S+1:=by rw [(bC (h:=H1.update S (Obj.mapSeq (·.push Value.none))) (a:=S) ..).1,(bC (h:=H1) (a:=S) ..).1,nu]
 generalize hH3:(H1.update S (Obj.mapSeq (·.push Value.none))).update S (Obj.mapSeq (·.pop))=H3 at nX fg lw ⊢
 refine af ⟨plainId_quiet PySem.F.plain_extend_loop _,?_⟩
 have lQ:H3.IsList l1 xs:=by obtain⟨o,e,r⟩:=dr;exact⟨o,fg _ _ (ne l1 (by simp)) e,r⟩
 have lO:H3.IsList l2 ys:=by obtain⟨o,e,r⟩:=cX;exact⟨o,fg _ _ (ne l2 (by simp)) e,r⟩
 refine V0a (s:=s) (A:=A.in1) (h0:=H3) (S:=S) hh D ⟨(ne z (by simp)).symm,(ne TI (by simp)).symm,(ne TO (by simp)).symm,(ne i1 (by simp)).symm,(ne i2 (by simp)).symm,(ne l1 (by simp)).symm,(ne l2 (by simp)).symm⟩ hn (fun b hb=>?_) (fun h' tk as c ip gA eB jh mq jx=>?_)
  _ 0 H3 _ c3 [] rfl (bb _) (jN H3 fg) lQ lO rfl jJ (by intro a ha;cases ha) (ah _) (by intro a ha;cases ha) (by intro j a e;simp at e) (fun c o _ e=>e) (by rw [<- e3];exact nX)
 ·rw [lw]
  rcases aR.mp (show b∈[z,TI,TO,i1,i2,l1,l2]++[S]from hb)with q | q
  ·exact bx (iR b q)
  ·rw [aN.mp q];exact cC _
 ·refine⟨rfl,hSe ▸ hQ h' tk as c ip gA (fun a ha=>?_) jh (fun c o hc e=>?_) (hSe.symm ▸ jx)⟩
  ·have:=eB a ha;rw [lw]at this;rw [hSe];exact this
  ·refine mq c o (fun q=>?_) (fg c o (fun z=>?_) e)
   ·rcases aR.mp (show c∈[z,TO,i1,i2]++[S]from q)with q | q
    ·exact hc q
    ·rw [aN.mp q,<- hSe]at e;exact absurd (au e) (aQ _)
   ·rw [z,<- hSe]at e;exact absurd (au e) (aQ _)
end
section
variable {X:Cx}{H0:Hp}{a b:Expr}{p p2 pos dm:Pos}{wr:WA}
theorem Z8v {ac:Pn9} {σ:St}{s:Shared}{n0:Nat} (h0:X.s₀.heap.objs.size<=n0):∀(as:List Addr) (xs:List (V×V)) {H:Hp},A0 X ac σ H s->as.length=xs.length->as.Nodup->(∀a∈as,n0<=a/\H a=none/\a≠X.env.locals/\(∀x c,X.env.cells.lookup x=some c->c≠a)/\∀q∈X.pn++ac,q.1≠a) ->
  (∀(j:Nat) a v,as[j]?=some a->xs[j]?=some v->∃x y,B8 v.1 x/\B8 v.2 y/\IsPair s.heap a x y)->∃H',A0 X ac σ H' s/\A5 H H'/\(∀c,c∉as->H' c=H c)/\∀(j:Nat) a v,as[j]?=some a->xs[j]?=some v->H' a=some (.tup [v.1,v.2])
 | [],xs,H,I,_,_,_,_=>⟨H,I,A5.refl H,fun _ _=>rfl,by intro j a v e;simp at e⟩
 | c::as,[],H,I,l,_,_,_=>by cases l
 | c::as,u::xs,H,I,l,n,f,g=>by
  rw [bB]at n
  obtain⟨c1,c2,c3,c4,c5⟩:=f c ao
  obtain⟨x,y,rx,ry,pr⟩:=g 0 c u rfl rfl
  have I1:A0 X ac σ (upd H c (.tup [u.1,u.2])) s:=Z1s I c2 (.inr (aT h0 c1)) c3 c4 c5 ⟨by show 2<=sizeLine;decide,[x,y],.cons rx (.cons ry .nil),_,pr,rfl,_,rfl⟩
  obtain⟨H',I2,sm,eJ,at_⟩:=Z8v h0 as xs I1 (by simpa using l) n.2 (fun a ha=>by
   obtain⟨a1,a2,a3⟩:=f a (av _ ha)
   exact⟨a1,by rw [B1 (fun z=>n.1 (by rw [<- z];exact ha))];exact a2,a3⟩) fun j a v e1 e2=>g (j+1) a v (by simpa using e1) (by simpa using e2)
  refine⟨H',I2,(D7 c2 _).trans sm,fun d hd=>?_,fun j a v e1 e2=>?_⟩
  ·rw [eJ d (fun z=>hd (av _ z)),B1 (fun z=>hd (by rw [z];exact ao))]
  ·cases j with
   | zero=>cases e1;cases e2;rw [eJ c n.1];exact upd_same
   | succ j=>exact at_ j a v (by simpa using e1) (by simpa using e2)
def Z4s (wr:WA):WE:=fun τ Q=>wr τ fun rs=>∃r r' ds es,rs=[r,r']/\P6 r=some ds/\P6 r'=some es/\Q (.nw (O7 ds es))
theorem DE.listZip (hc:X.calm=true) (hg:Gl X "list") (hm:X.mg "list"=none) (qu:Gl X "zip") (qj:X.mg "zip"=none) (ha:DA X H0 [a,b] wr)
  (hs:starEach [.Call (.Name "zip" p2) [a,b] [] dm] X.env=(false,eval (.Call (.Name "zip" p2) [a,b] [] dm) X.env)::starEach [] X.env:=by rfl)
  (he:starEach [a,b] X.env=(false,eval a X.env)::starEach [b] X.env:=by rfl) (hpl:(backTo dm (starEach [b] X.env)).any (·.1)=false:=by rfl) :
  DE X H0 (.Call (.Name "list" p) [.Call (.Name "zip" p2) [a,b] [] dm] [] pos) (Z4s wr) where
 mono:=fun τ P Q f h=>ha.mono τ _ _ (fun r ⟨r1,r2,ds,es,e1,e2,e3,q⟩=>⟨r1,r2,ds,es,e1,e2,e3,f _ q⟩) h
 pe:=by
  intro ac s σ H Q I ⟨τ,hR,h⟩
  refine bh (X5 I hg hm (u:=.type "list") rfl ?_ (by decide) (by decide))
  refine b7 ?_ hs
  rw [hs]
  change wpAny (model X.prog X.w) X.A (spliced ((false,eval (.Call (.Name "zip" p2) [a,b] [] dm) X.env)::backTo pos (starEach [] X.env))) _ _ s
  refine c6 ?_
  refine bh (X5 I qu qj (u:=.type "zip") rfl ?_ (by decide) (by decide))
  refine b7 (B3 (ha.pa dm ac s σ H (fun vs H1=>A5 H H1/\∃l1 l2 xs ys ds es,vs=[.ref l1,.ref l2]/\C6 X.K H1 l1 xs/\AllS X.K H1 ds xs/\C6 X.K H1 l2 ys/\AllS X.K H1 es ys/\∀v H',A5 H H'->D9 X.K H H' (.nw (O7 ds es)) v->Q v H') I
   ⟨τ,hR,ha.mono τ _ _ (fun rs ⟨r,r',ds,es,e1,e2,e3,q⟩ vs H1 s1 ck=>⟨s1,by
    subst e1
    obtain⟨v,u,rfl,ir,gv⟩:=Z0p ck
    obtain⟨l,xs,rfl,sq,al⟩:=Q0z e2 ir
    obtain⟨l2,ys,rfl,cT,cI⟩:=Q0z e3 gv
    exact⟨l,l2,xs,ys,ds,es,rfl,sq,al,cT,cI,q⟩⟩) h⟩) fun us s1 ⟨vs,H1,I1,rv,sm,l1,l2,xs,ys,ds,es,e1,sq,al,cT,cI,q⟩=>?_) he hpl
  subst e1
  have de:∃u1 u2,us=[u1,u2]/\B8 (.ref l1) u1/\B8 (.ref l2) u2:=by
   cases rv with
   | cons r1 rr =>
    obtain⟨u2,rfl,r2⟩:=R1 rr
    exact⟨_,u2,rfl,r1,r2⟩
  obtain⟨u1,u2,rfl,r1,r2⟩:=de
  cases (show u1=Value.ref l1 from r1)
  cases (show u2=Value.ref l2 from r2)
  obtain⟨aU,gN,pl,fV⟩:=I1.list sq
  obtain⟨c8,hZ,e7,kb⟩:=I1.list cT
  obtain⟨o,n,ho,_⟩:=id pl
  obtain⟨o2,n2,fJ,_⟩:=id e7
  have hl:@LT.lt Nat _ l1 s1.heap.objs.size:=au ho
  have cX:@LT.lt Nat _ l2 s1.heap.objs.size:=au fJ
  have n1:=gN.length
  have n2:=hZ.length
  refine call_zip_2 pl.isList e7.isList fun h' hz cy cG ky jF hsz k=>cV ?_
  have Dz:ZipApart (s1.heap.objs.size+4) (s1.heap.objs.size+2) (s1.heap.objs.size+3) s1.heap.objs.size (s1.heap.objs.size+1) l1 l2:=by
   constructor <;> (show ¬ ((_:Nat)=(_:Nat));omega)
  have lQ:h'.IsList l1 aU.toArray:=by obtain⟨o,e,r⟩:=pl.isList;exact⟨o,k _ _ e,r⟩
  have lO:h'.IsList l2 c8.toArray:=by obtain⟨o,e,r⟩:=e7.isList;exact⟨o,k _ _ e,r⟩
  refine Y6o (s:={ s1 with heap:=h' }) (I.ok.hd hc) Dz ⟨cy,ky,jF,.inl ⟨rfl,hz,_,_,cG⟩⟩ lQ lO (by simp only [aF];omega) (fun b hb=>?_) fun h2 tk as c ip gA eB jh mq jx=>?_
  ·show b<h'.objs.size
   rw [hsz]
   simp only [aj,aL,br]at hb;rcases hb with rfl | rfl | rfl | rfl | rfl | rfl | rfl <;> (show(_:Nat)<(_:Nat);omega)
  ·have mo:∀c o,s1.heap.get? c=some o->h2.get? c=some o:=fun c o e=>mq c o (fun z=>by
    have:@LT.lt Nat _ c s1.heap.objs.size:=au e
    simp only [aj,aL,br]at z
    rcases z with rfl | rfl | rfl | rfl <;> omega) (k c o e)
   have I2:A0 X ac σ H1 { s1 with heap:=h2,toks:=tk }:=I1.kept (t':=tk) mo
   have hS:@LE.le Nat _ s1.heap.objs.size h'.objs.size:=by rw [hsz];omega
   have big:∀c,s1.heap.objs.size<=c->H1 c=none/\c≠X.env.locals/\(∀x d,X.env.cells.lookup x=some d->d≠c)/\∀q∈X.pn++ac,q.1≠c:=fun c im=>by
    obtain⟨f0,f1,_,_,f4,f5⟩:=I1.fpOk im (I1.hok.fresh im)
    exact⟨f0,f1,f4,f5⟩
   have kF:∀a∈as,s1.heap.objs.size<=a:=fun a l8=>aT hS (cD (eB a l8))
   have pM:(xs.zip ys).length=Min.min aU.toArray.size c8.toArray.size:=by simp;omega
   obtain⟨H3,I3,j4,fg,rm⟩:=Z8v (X:=X) (s:={ s1 with heap:=h2,toks:=tk }) (n0:=s1.heap.objs.size) I1.sz as (xs.zip ys) I2 (by rw [ip,pM]) gA (fun a l8=>⟨kF a l8,big a (kF a l8)⟩) fun j a v e1 e2=>by
    obtain⟨x,y,ex,ey,pr⟩:=jh j a e1
    rw [bV]at e2
    obtain⟨u,hu,ru⟩:=gN.get e2.1
    obtain⟨u',kg,jV⟩:=hZ.get e2.2
    have ex:aU[j]?=some x:=by simpa using ex
    have ey:c8[j]?=some y:=by simpa using ey
    rw [hu]at ex;cases ex
    rw [kg]at ey;cases ey
    exact⟨_,_,ru,jV,pr⟩
   have mM:h'.objs.size∉as:=fun z=>aQ _ (eB _ z)
   obtain⟨b1,b2,b3,b4⟩:=big h'.objs.size hS
   have hz:(as.map V.ref).length<=sizeLine:=by rw [ag,ip];simp only [aF];omega
   have I4:=Z1s I3 (p:=h'.objs.size) (u:=.lst (as.map V.ref)) (by rw [fg _ mM];exact b1) (.inr (aT I1.sz hS)) b2 b3 b4 ⟨hz,as.map Value.ref,c,Z4g as,jx⟩
   have gk:=j4.trans (D7 (p:=h'.objs.size) (by rw [fg _ mM];exact b1) (.lst (as.map V.ref)))
   refine⟨.ref h'.objs.size,_,I4,rfl,q _ _ (sm.trans gk) ⟨h'.objs.size,as.map V.ref,rfl,sm.free b1,upd_same,?_⟩⟩
   have kp:=Kp.of gk
   have rq:=al.mono kp _ _
   have np:=cI.mono kp _ _
   have rl:∀(j:Nat) a v,as[j]?=some a->(xs.zip ys)[j]?=some v->upd H3 h'.objs.size (.lst (as.map V.ref)) a=some (.tup [v.1,v.2]):=fun j a v e1 e2=>by
    rw [B1 (fun z=>mM (by rw [<- z];exact aD e1))];exact rm j a v e1 e2
   have lz:as.length=(O7 ds es).length:=by rw [ip,Q6q,al.length,cI.length];simp only [aF];omega
   have key:∀(as:List Addr) (zs:List D) (H:Hp),as.length=zs.length->(∀(j:Nat) a z,as[j]?=some a->zs[j]?=some z->A1 X.K H z (.ref a))->AllS X.K H zs (as.map V.ref):=by
    intro as
    induction as with
    | nil=>intro zs H l _;cases zs with
     | nil=>exact AllS.nil
     | cons _ _=>cases l
    | cons a as ih =>
     intro zs H l f
     cases zs with
     | nil=>cases l
     | cons z zs=>exact AllS.cons (f 0 a z rfl rfl) (ih zs H (by simpa using l) fun j a z e1 e2=>f (j+1) a z (by simpa using e1) (by simpa using e2))
   refine key as (O7 ds es) _ lz fun j a z e1 e2=>?_
   obtain⟨x,y,ex,ey,rfl⟩:=Z5r e2
   obtain⟨v1,je,q1⟩:=rq.get ex
   obtain⟨v2,i7,q2⟩:=np.get ey
   exact A1.s_tup (rl j a (v1,v2) e1 (by rw [bV];exact⟨je,i7⟩)) (AllS.cons q1 (AllS.cons q2 AllS.nil))
end
theorem B5.hid {κ:Type}{K:Fg9}{S:List Addr}{H:Hp} (hS:S6 S H):∀{kvs:List (κ×D)}{ps:List (κ×V)},B5 K H kvs ps->B5 K (K3 S H) kvs ps
 | [],ps,h=>h
 | p::kvs,ps,h=>by obtain⟨v,r,e,q,t⟩:=h;exact⟨v,r,e,A1.hid hS _ _ q,B5.hid hS t⟩
theorem N4.hid {K:Fg9}{a:Addr}{kvs:List (A7×D)}:Z0a (N4 K a kvs):=fun S H hS ⟨o,ps,h,q⟩=>by
 refine⟨o,ps,?_,q.hid hS⟩
 rw [Q0d]
 ·exact h
 ·intro ha
  obtain⟨o',u,e,_⟩:=hS a ha
  rw [h]at e
  cases e
section
variable {X:Cx}{H0:Hp}{st:Stmt}{w:WS}{a b c e o:Expr}{wa wb wi we wv wk:WE}{wr:WA}{i j nt:Nat}{cap:List Nat}{kQ:P3}{g:WG} {τ:A8}{E:F4}{K:Fg9}{Q:R->Prop}
def Q6n (i:Nat) (w:WS):WS:=fun E τ=>w { E with nx:=fun τ'=>∃ds,τ'[i]?=some (some (.own ds))/\E.nx (τ'.set i (some (.dat (.lst ds)))) } τ
theorem DS.fzO (i:Nat) (h:DS X H0 st w):DS X H0 st (Q6n i w) where
 mono:=fun τ E F le q=>h.mono τ { E with nx:=fun τ'=>∃ds,τ'[i]?=some (some (.own ds))/\E.nx (τ'.set i (some (.dat (.lst ds)))) } { F with nx:=fun τ'=>∃ds,τ'[i]?=some (some (.own ds))/\F.nx (τ'.set i (some (.dat (.lst ds)))) } ⟨fun τ' ⟨ds,e,q⟩=>⟨ds,e,le.nx _ q⟩,le.rt,le.bk,le.ct⟩ q
 ps:=Q3 (Q8f h.ps) fun D σ H ⟨τ,hR,q⟩=>⟨τ,hR,h.mono τ { L4 X.K H0 H D with nx:=fun τ'=>∃ds,τ'[i]?=some (some (.own ds))/\(L4 X.K H0 H D).nx (τ'.set i (some (.dat (.lst ds)))) } _ ⟨fun τ' ⟨ds,e,q⟩ σ' H' kp cL ac s I=>by
  obtain⟨a,xs,hv,h0,sq,al⟩:=cL.ownAt e
  obtain⟨o,I2⟩:=A0.freeze I sq
  exact⟨_,I2,q σ' _ (kp.trans (Kp.upd sq _)) (cL.freeze e hv h0 sq al)⟩,fun _ h=>h,fun _ h=>h,fun _ h=>h⟩ q⟩
@[simp] theorem Y2d:Q6n i w E τ=w { E with nx:=fun τ'=>∃ds,τ'[i]?=some (some (.own ds))/\E.nx (τ'.set i (some (.dat (.lst ds)))) } τ:=rfl
@[simp] theorem W6c:Z4l K i w E τ=w { E with nx:=fun τ'=>∃kvs,τ'[i]?=some (some (.dk kvs))/\∀a,E.nx (τ'.set i (some (.cl a (N4 K a kvs)))) } τ:=rfl
@[simp] theorem W6d:Z4m i w E τ=w { E with nx:=fun τ'=>∃a dss,τ'[i]?=some (some (.ll a dss))/\Y3 i τ'=true/\E.nx (τ'.set i (some (.dat (.lst (dss.map .lst))))) } τ:=rfl
@[simp] theorem W6x:Z4u K i E τ=∃kvs,τ[i]?=some (some (.dk kvs))/\∀a,E.rt (.cl a (N4 K a kvs)):=rfl
@[simp] theorem W6y:Z4v i we E τ=we τ fun r=>∃a Φ,r=.cl a Φ/\E.nx (τ.set i (some (.cl a Φ))):=rfl
@[simp] theorem Y2c:Q9l K i we τ Q=∃a kvs,τ[i]?=some (some (.cl a (N4 K a kvs)))/\we τ fun r=>∃kd k d,r=.st kd/\P5 kd=some k/\D5 kvs k=some d/\Q (.st d):=rfl
@[simp] theorem W6b:Z4k K i we τ Q=∃a kvs,τ[i]?=some (some (.cl a (N4 K a kvs)))/\we τ fun r=>∃kd k,r=.st kd/\P5 kd=some k/\Q (.st ((D5 kvs k).getD .non)):=rfl
@[simp] theorem W6l:Z4p i E τ=E.nx (τ.set i (some (.dk []))):=rfl
@[simp] theorem W6m:Z4q i we wv E τ=(i<τ.length/\we τ fun rk=>∃kd k,rk=.st kd/\P5 kd=some k/\wv τ fun r=>∃d,r=.st d/\E.nx (τ.set i (some (.dk [(k,d)])))):=rfl
@[simp] theorem W6n:Q9n i we wv E τ=∃kvs,τ[i]?=some (some (.dk kvs))/\we τ fun rk=>∃kd k,rk=.st kd/\P5 kd=some k/\wv τ fun r=>∃d,r=.st d/\kvs.length<sizeLine/\E.nx (if (D5 kvs k).isSome=true then τ else τ.set i (some (.dk (kvs++[(k,d)])))):=rfl
@[simp] theorem W6k:Z4o i nt cap kQ g wk wv E τ=kQ τ fun ds=>ds.length<sizeLine/\U4 g wk wv ds (R8 nt cap τ) [] fun kvs=>E.nx (τ.set i (some (.dk kvs))):=rfl
@[simp] theorem W6p:Z4r i nt cap kQ g we E τ=kQ τ fun ds=>ds.length<=sizeLine/\Y2 g we ds (R8 nt cap τ) fun dss=>∀a,E.nx (τ.set i (some (.ll a dss))):=rfl
@[simp] theorem W6o:Q6o i we wv E τ=∃a dss,τ[i]?=some (some (.ll a dss))/\Y3 i τ=true/\we τ fun r=>∃k j,r=.st (.int k)/\ixN dss.length k=some j/\wv τ fun r2=>∃d,r2=.st d/\(dss.getD j []).length<sizeLine/\E.nx (τ.set i (some (.ll a (dss.set j (dss.getD j []++[d]))))):=rfl
@[simp] theorem W6t:Z4s wr τ Q=wr τ fun rs=>∃r r' ds es,rs=[r,r']/\P6 r=some ds/\P6 r'=some es/\Q (.nw (O7 ds es)):=rfl
@[simp] theorem W6r {kvs:List (A7×D)}:Q2t [.dk kvs] Q=Q (.nw (kvs.map fun p=>kyD p.1)):=rfl
@[simp] theorem W6u {r:R}:Q0j [r] Q=∃ns:List Int,P6 r=some (ns.map .int)/\ns≠[]/\∀m,m∈ns->(∀n∈ns,n<=m)->Q (.st (.int m)):=rfl
end
section
variable {P:Program}{w:World}{A:Around}{E:VS9}{s:Shared}{it t:Addr}{i:Nat}{items:Array Value}
theorem W1b {x:Value}{Q:VS9} (hit:s.heap.IsTupleIter it t i) (ht:s.heap.IsTuple t items) (hx:items[i]?=some x) (hQ:∀h',h'.IsTupleIter it t (i+1)->Heap.SameBut it s.heap h'->Q x { s with heap:=h' }) :
  wpAny (model P w) A (Builtin.SmallTypes.nextOf (.ref it)) Q E s:=by
 obtain⟨o,ho,hc,hd⟩:=id hit
 obtain⟨ol,ma,_,nl,mG⟩:=ht
 unfold Builtin.SmallTypes.nextOf;refine a9 (b9 (name:=Str.ofString "__next__") hit.typeIs jK (be jK hit.typeIs F.entry_tuple_iterator_next ?_ (F.args_tuple_iterator_next_1 _)))
 change wpAny (model P w) A.in1 (field (Value.ref it) 0>>=_) _ _ s
 refine a9 (aV ho hd (x:=.ref t) rfl (?_:wpAny (model P w) A.in1 (if (Value.ref t==Value.none)=true then _ else _) _ _ s))
 rw [aC (show ¬ (Value.ref t==Value.none)=true from bA)]
 change wpAny (model P w) A.in1 (field (Value.ref it) 1>>=_) _ _ s
 refine a9 (aV ho hd (x:=.int i 0) rfl (?_:wpAny (model P w) A.in1 (seqItems? (Value.ref t)>>=_) _ _ s))
 refine a9 (bg ma mG ?_);simp only [bp,hx]
 refine a9 (wpAny_setField ho hd (by simp) (af ⟨x,rfl,af (hQ _ ⟨_,fG _ ho (Obj.isFreed_of_fields (Obj.data_mapFields hd _)),(Obj.cls_mapFields ..).trans hc,by rw [Obj.data_mapFields hd];simp [rawInt]⟩ (bC ..))⟩))
theorem W1c {Q:VS9} (hh:A.handled=none) (hit:s.heap.IsTupleIter it t i) (ht:s.heap.IsTuple t items) (hx:items[i]?=none)
  (hE:∀h' e,Heap.ExtBut it s.heap h'->(∃o,h'.get? e=some o/\o.cls=.type "StopIteration")->E (.ref e) { s with heap:=h' }):wpAny (model P w) A (Builtin.SmallTypes.nextOf (.ref it)) Q E s:=by
 obtain⟨o,ho,hc,hd⟩:=id hit
 obtain⟨ol,ma,_,nl,mG⟩:=ht
 unfold Builtin.SmallTypes.nextOf;refine a9 (b9 (name:=Str.ofString "__next__") hit.typeIs jK (be jK hit.typeIs F.entry_tuple_iterator_next ?_ (F.args_tuple_iterator_next_1 _)))
 change wpAny (model P w) A.in1 (field (Value.ref it) 0>>=_) _ _ s
 refine a9 (aV ho hd (x:=.ref t) rfl (?_:wpAny (model P w) A.in1 (if (Value.ref t==Value.none)=true then _ else _) _ _ s))
 rw [aC (show ¬ (Value.ref t==Value.none)=true from bA)]
 change wpAny (model P w) A.in1 (field (Value.ref it) 1>>=_) _ _ s
 refine a9 (aV ho hd (x:=.int i 0) rfl (?_:wpAny (model P w) A.in1 (seqItems? (Value.ref t)>>=_) _ _ s))
 refine a9 (bg ma mG ?_);simp only [bp,hx]
 refine a9 (dW (a9 (wpAny_setField ho hd (by simp) (?_:wpAny (model P w) A.in1 (newExc (.type "StopIteration") []>>=_) _ _ _))))
 refine a9 ?_;simp only [newExc,newTuple]
 refine a9 (bt (?_) (by size_fits))
 refine a9 (m:=firstArgMember _ _) (wpAny_of_eq (a:=Value.none) (by rfl) (bt ?_ (by size_fits)))
 simp only [raiseNew];refine a9 (wpAny_handled ?_)
 rw [show A.in1.handled=none from hh]
 exact a9 (af (wpAny_throw (hE _ _ (((bC ..).extBut.push _).push _) ⟨_,aw _ rfl,rfl⟩)))
end
theorem Q1l {P:Program}{w:World}{A:Around} (hh:A.handled=none) (it t:Addr) (cA:t≠it) (items:Array Value) :
  Draws P w A it [it,t] items.size (fun i v=>items[i]?=some v) (fun i h=>h.IsTupleIter it t i/\h.IsTuple t items) where
 live:=fun _ _ st=>let ⟨o,ho,_⟩:=st.1;⟨o,ho⟩
 frame:=fun _ _ _ ⟨⟨o,ho,r⟩,o2,fJ,r2⟩ hk=>⟨⟨o,hk it (by simp) o ho,r⟩,o2,hk t (by simp) o2 fJ,r2⟩
 item:=fun i s Q E hi st hQ=>W1b st.1 st.2 (x:=items[i]) (by simp [hi]) fun h' mt kZ=>hQ _ h' s.toks (by simp [hi]) ⟨mt,st.2.extBut kZ.extBut cA⟩ kZ
 done:=fun s Q E st hE=>W1c hh st.1 st.2 (by simp) hE
open AutoSeq1 (wpAny_loadPart') in
theorem Y7q (t:Addr) (items:Array Value) :
  Meets (Builtin.«enumerate.__new__» ⟨[.type "enumerate",.ref t],[]⟩) (fun _ R s=>s.heap.IsTuple t items /\
   R (.ok (.ret (.ref (s.heap.push { cls:=.type "tuple_iterator",data:=.fields #[.ref t,.int 0 0] }).objs.size)))
    { s with heap:=(s.heap.push { cls:=.type "tuple_iterator",data:=.fields #[.ref t,.int 0 0] }).push { cls:=.type "enumerate",data:=.fields #[.none,.bool false,.ref s.heap.objs.size,rawInt 0,.none,.none] } }) :=
 .of_wp fun prog w A R s h=>by
  obtain⟨hp,g,d,tk,os⟩:=s;obtain⟨hL,h⟩:=h
  obtain⟨⟨c,rW,dt,sl⟩,hl,hc,n,hd⟩:=id hL
  replace hc:c=.type "tuple":=hc
  replace hd:dt=.seq items n:=hd
  subst hc hd
  have hL:Heap.IsTuple (Shared.heap ⟨hp,g,d,tk,os⟩) t items:=hL
  have hsub:=sub_enumerate
  wp_walk using wpAny_loadPart' hl
  refine wpAny_stack_any fun st=>af ?_
  split
  ·rename_i c _ _ _ _ _
   cases (c==Value.type "enumerate") <;> (wp_walk using wpAny_loadPart' hl,dX hL) <;> exact⟨_,rfl,h⟩
  ·wp_walk using wpAny_loadPart' hl,dX hL
   exact⟨_,rfl,h⟩
section
variable {P:Program}{w:World}{A:Around}{E:VS9}{s:Shared}
theorem Z6y {t:Addr}{items:Array Value}{Q:VS9} (ht:s.heap.IsTuple t items)
  (h:∀h',IsEnum h' (s.heap.objs.size+1) s.heap.objs.size 0 .none->h'.IsTupleIter s.heap.objs.size t 0->h'.objs.size=s.heap.objs.size+2->(∀b o,s.heap.get? b=some o->h'.get? b=some o)->Q (.ref (s.heap.objs.size+1)) { s with heap:=h' }) :
  wpAny (model P w) A (call (.type "enumerate") [.ref t]) Q E s:=by
 refine callType_new F.called_enumerate (by decide) (F.typeCall_enumerate_1 _) (F.newCall_enumerate_1 _) (fun obj=>F.args_object_init_2 obj _) F.entry_enumerate_new (Y7q t items) ⟨ht,?_⟩
 have hz:(s.heap.push { cls:=.type "tuple_iterator",data:=.fields #[.ref t,.int 0 0] }).objs.size=s.heap.objs.size+1:=bn ..
 have he:IsEnum ((s.heap.push { cls:=.type "tuple_iterator",data:=.fields #[.ref t,.int 0 0] }).push { cls:=.type "enumerate",data:=.fields #[.none,.bool false,.ref s.heap.objs.size,rawInt 0,.none,.none] }) (s.heap.objs.size+1) s.heap.objs.size 0 .none:=by
  have e:=aw (s.heap.push { cls:=.type "tuple_iterator",data:=.fields #[.ref t,.int 0 0] }) (o:={ cls:=.type "enumerate",data:=.fields #[.none,.bool false,.ref s.heap.objs.size,rawInt 0,.none,.none] }) rfl
  rw [hz]at e;exact e
 rw [hz]
 exact⟨⟨_,he,rfl⟩,h _ he ⟨_,aa _ (aw _ rfl),rfl,rfl⟩ (by rw [bn,hz]) fun b o x=>aa _ (aa _ x)⟩
end
noncomputable def Iet (K:Fg9) (l:Addr):It:=⟨fun i H=>∃xs x,C2 K H l xs/\xs[i]?=some x,fun i H v H'=>∃T x,(∀xs,C2 K H l xs->xs[i]?=some x)/\H T=none/\v=.ref T/\H'=upd H T (.tup [.int (i:Int),x]),fun i H=>∃xs,C2 K H l xs/\xs.length=i⟩
theorem Y4c {P:Program}{w:World}{K:Fg9}{cK:List Expr}{kk:Nat}{pt:Pos}{en it l:Addr} (cA:en≠it) (gU:l≠en) (ku:l≠it) :
  Y6 P w K (.Tuple cK kk pt) (Iet K l) [en,it] en (fun i h=>(∃old,IsEnum h en it i old)/\h.IsTupleIter it l i) where
 mem:=by simp
 obj:=fun i h st b hb=>by
  obtain⟨⟨old,he⟩,o,ho,_,d⟩:=st
  rcases aj.mp hb with rfl | hb
  ·exact⟨_,he,fun v z=>by cases z⟩
  ·have e:b=it:=by simpa using hb
   subst e
   exact⟨o,ho,fun v z=>by rw [d]at z;cases z⟩
 keep:=fun i h h' ⟨⟨old,he⟩,o,ho,r⟩ k=>⟨⟨old,k en (by simp) _ he⟩,o,k it (by simp) o ho,r⟩
 item:=by
  intro X hP hw hK hc i ac s σ H E I hf st hg
  subst hP hw hK
  obtain⟨xs,x,hq,hx⟩:=hg
  obtain⟨aU,rv,p,hz⟩:=I.tuple hq
  have W:=WalksT.enumerateD (Q1l (P:=X.prog) (w:=X.w) (A:=X.A.in1) (show X.A.in1.handled=none from I.ok.hd hc) it l ku aU.toArray) en cA (by simp;exact⟨cA,fun z=>gU z.symm⟩) (by simp)
  obtain⟨u,hu,ru⟩:=rv.get hx
  have bY:i<aU.toArray.size:=by
   rcases bE i aU.length with h | h
   ·simpa using h
   ·rw [aJ.mpr h]at hu;cases hu
  refine W.item i s _ _ bY ⟨st.1,st.2,p⟩ fun T fO h' tk hv hT kH iM k=>?_
  obtain⟨t1,y,hy,rfl⟩:=hv
  have ey:y=u:=by
   have:aU[i]?=some y:=by simpa using hy
   rw [hu]at this;exact(aB this).symm
  subst ey
  refine⟨_,rfl,W.go cK kk pt i T { s with heap:=h',toks:=tk } _ _ iM fun h2 dQ k2=>?_⟩
  have i5:∀b o,b∉[en,it]->s.heap.get? b=some o->h2.get? b=some o:=fun b o hb e=>k2 b o hb (k b o hb e)
  have gY:=W.apart i T h' iM
  have eM:IsTup h2 T ([Value.int (i:Int) t1,y]).toArray:=by
   obtain⟨o,ho,r⟩:=kH
   exact⟨o,k2 T o gY ho,r⟩
  have I2:=Q6k (t':=tk) (xs:=[.int (i:Int),x]) I i5 hf hT eM (.cons ⟨t1,rfl⟩ (.cons ru .nil)) (by show 2<=sizeLine;decide)
  refine⟨.ref T,_,I2,rfl,⟨T,x,fun ys hy=>by rw [I.tuple_inj hy hq];exact hx,I.hok.fresh hT,rfl,rfl⟩,⟨dQ.1,dQ.2.1⟩,fun b hb=>?_⟩
  rw [B1 (show b≠T from fun z=>gY (by rw [<- z];exact hb))]
  exact(hf b hb).1
 done:=by
  intro X hP hw hK hc i ac s σ H E I hf st hg
  subst hP hw hK
  obtain⟨xs,hq,hx⟩:=hg
  obtain⟨aU,rv,p,hz⟩:=I.tuple hq
  have W:=WalksT.enumerateD (Q1l (P:=X.prog) (w:=X.w) (A:=X.A.in1) (show X.A.in1.handled=none from I.ok.hd hc) it l ku aU.toArray) en cA (by simp;exact⟨cA,fun z=>gU z.symm⟩) (by simp)
  have hl:=rv.length
  have e:i=aU.toArray.size:=by simp;omega
  subst e
  exact W.done s _ _ ⟨st.1,st.2,p⟩ fun h' tk k=>⟨rfl,Q3h I k hf⟩
 self:=fun A i s Q E ⟨⟨old,he⟩,_⟩ h=>cn he h
theorem Q9x {K:Fg9}{H0 H:Hp}{l:Addr}{xs:List V}{ds:List D} (hq:H l=some (.tup xs)) (al:AllS K H ds xs):Yl K H0 (Iet K l) (G1 ds) H where
 go:=fun H' k s i hi=>by
  rw [Q1m]at hi
  exact⟨xs,xs[i]'(by rw [<- al.length];exact hi),C2.of (k.tup _ _ hq),ae _⟩
 yld:=fun H' k s i v cZ d hd ⟨T,x,hx,hT,hv,hH⟩=>by
  subst hH hv
  refine⟨D7 hT _,?_⟩
  obtain⟨y,hy,rfl⟩:=Q7l hd
  obtain⟨v,hv,q⟩:=al.get hy
  rw [hx xs (C2.of (k.tup _ _ hq))]at hv;cases hv
  exact A1.s_tup upd_same (AllS.cons A1.s_int (AllS.cons (q.mono (k.trans (Kp.of (D7 hT _))) _ _) AllS.nil))
 stop:=fun H' k s=>⟨xs,C2.of (k.tup _ _ hq),by rw [Q1m];exact al.length.symm⟩
theorem W9i {K:Fg9}{H0 H:Hp}{x:Str}:Yl K H0 (Ies x) (G1 (G3 x)) H where
 go:=fun H' _ _ i hi=>(Z5q (K:=K) (H:=H')).go H' (A5.refl _) i hi
 yld:=fun H' _ _ i v cZ d hd h=>(Z5q (K:=K) (H:=H')).yld H' (A5.refl _) i v cZ d hd h
 stop:=fun H' _ _=>(Z5q (K:=K) (H:=H')).stop H' (A5.refl _)
section
variable {X:Cx}{H0:Hp}{a:Expr}{p pos:Pos}{wr:WA}
def Z1p (wr:WA):WI:=fun τ Q=>wr τ fun rs=>(∃x,rs=[.st (.str x)]/\Q (G1 (G3 x)) τ)\/∃ds,rs=[.st (.tup ds)]/\Q (G1 ds) τ
theorem DI.enumX {cK:List Expr}{kk:Nat}{pt:Pos} (hg:Gl X "enumerate") (hm:X.mg "enumerate"=none) (hv:bootBuiltins "enumerate"=some (.type "enumerate")) (ha:DA X H0 [a] wr) (he:starEach [a] X.env=(false,eval a X.env)::starEach [] X.env:=by rfl) (hpl:(backTo pos (starEach [] X.env)).any (·.1)=false:=by rfl) :
  DI X H0 (.Tuple cK kk pt) (.Call (.Name "enumerate" p) [a] [] pos) (Z1p wr) where
 mono:=fun τ P Q f h=>ha.mono τ _ _ (fun r h=>h.imp (fun⟨x,e1,q⟩=>⟨x,e1,f _ _ q⟩) fun⟨ds,e1,q⟩=>⟨ds,e1,f _ _ q⟩) h
 pi:=by
  intro ac s σ H R I ⟨τ,hR,h⟩
  refine bh (X5 I hg hm hv ?_ (by decide) (by decide))
  refine b7 (B3 (ha.pa pos ac s σ H (fun vs H1=>A5 H H1/\((∃x,vs=[.str x]/\∀J H',Kp H H'->B9 X.K H0 τ σ H'->Yl X.K H0 J (G1 (G3 x)) H'->R J H') \/
    ∃l xs ds,vs=[.ref l]/\H1 l=some (.tup xs)/\AllS X.K H1 ds xs/\∀J H',Kp H H'->B9 X.K H0 τ σ H'->Yl X.K H0 J (G1 ds) H'->R J H')) I
   ⟨τ,hR,ha.mono τ _ _ (fun rs h vs H1 s1 ck=>⟨s1,?_⟩) h⟩) fun us s1 ⟨vs,H1,I1,rv,sm,hh⟩=>?_) he hpl
  ·rcases h with⟨x,e1,q⟩ | ⟨ds,e1,q⟩
   ·subst e1
    obtain⟨v,rfl,ir⟩:=T5 ck
    cases (show v=.str x from ir)
    exact .inl ⟨x,rfl,q⟩
   ·subst e1
    obtain⟨v,rfl,ir⟩:=T5 ck
    have ir:A1 X.K H1 (.tup ds) v:=ir
    unfold A1 at ir
    obtain⟨l,xs,rfl,sq,al⟩:=ir
    exact .inr ⟨l,xs,ds,rfl,sq,al,q⟩
  ·have big:∀b∈[s1.heap.objs.size+1,s1.heap.objs.size],K1 X ac H1 b:=fun b hb=>by
    have hb:s1.heap.objs.size<=b:=by
     rcases aj.mp hb with rfl | hb
     ·exact cw _
     ·have e:b=s1.heap.objs.size:=by simpa using hb
      rw [e];exact ah _
    exact I1.fpOk hb (I1.hok.fresh hb)
   rcases hh with⟨x,rfl,q⟩ | ⟨l,xs,ds,rfl,sq,al,q⟩
   ·obtain⟨u,rfl,ru⟩:=R1 rv
    obtain⟨t,rfl⟩:=ru
    refine call_enumerate_str fun h' he hi hz k=>?_
    exact cn he ⟨s1.heap.objs.size+1,[s1.heap.objs.size+1,s1.heap.objs.size],_,_,H1,rfl,I1.kept (t':=s1.toks) k,W8n (x:=x) (t:=t) (g9 _),⟨⟨_,he⟩,hi⟩,big,q _ _ (Kp.of sm) (hR.mono sm) W9i⟩
   ·obtain⟨u,rfl,ru⟩:=R1 rv
    cases (show u=Value.ref l from ru)
    obtain⟨aU,gN,pl,fV⟩:=I1.tuple (C2.of sq)
    have hl:l<s1.heap.objs.size:=by obtain⟨o,ho,_⟩:=pl;exact au ho
    refine Z6y pl fun h' he hi hz k=>?_
    exact cn he ⟨s1.heap.objs.size+1,[s1.heap.objs.size+1,s1.heap.objs.size],_,_,H1,rfl,I1.kept (t':=s1.toks) k,Y4c (l:=l) (g9 _) (az (bx hl)) (az hl),⟨⟨_,he⟩,hi⟩,big,q _ _ (Kp.of sm) (hR.mono sm) (Q9x sq al)⟩
@[simp] theorem W6f {τ:A8}{Q:List D->A8->Prop}:Z1p wr τ Q=wr τ fun rs=>(∃x,rs=[.st (.str x)]/\Q (G1 (G3 x)) τ)\/∃ds,rs=[.st (.tup ds)]/\Q (G1 ds) τ:=rfl
end
structure Y0 (z TI TO i1 i2:Addr) (eD eC:List Addr):Prop where
 tiz:TI≠z
 toz:TO≠z
 i1z:i1≠z
 i2z:i2≠z
 tito:TI≠TO
 ti1:TI≠i1
 ti2:TI≠i2
 to1:TO≠i1
 to2:TO≠i2
 i12:i1≠i2
 f1:∀b∈eD,b≠z/\b≠TO/\b≠i2
 f2:∀b∈eC,b≠z/\b≠TO/\b≠i1
section
variable {P:Program}{w:World}{A:Around}{E:VS9}{s:Shared}{z TI TO i1 i2:Addr}{eD eC:List Addr}{n1 n2 k:Nat}{P1 P2:Nat->Value->Prop}{S1 S2:Nat->Heap->Prop}{a b:Value}
theorem J7 {it:Addr}{fp:List Addr}{n i:Nat}{Q:Nat->Value->Prop}{S:Nat->Heap->Prop} (D:Draws P w A it fp n Q S) {h h':Heap}{c:Addr} (st:S i h) (sb:Heap.ExtBut c h h') (hc:∀b∈fp,b≠c):S i h':=D.frame _ _ _ st fun b hb o e=>sb b o (hc b hb) e
theorem W9s {Q:VS9} (Z:Y0 z TI TO i1 i2 eD eC) (D1:Draws P w A i1 eD n1 P1 S1) (D2:Draws P w A i2 eC n2 P2 S2) (hz:IsZip s.heap z TI TO .none) (cy:IsPair s.heap TI (.ref i1) (.ref i2)) (cG:IsPair s.heap TO a b) (h1:S1 k s.heap) (h2:S2 k s.heap) (l1:k<n1) (l2:k<n2)
  (hQ:∀h' tk x y,P1 k x->P2 k y->IsZip h' z TI TO (rawInt s.heap.objs.size)->IsPair h' TO x y->S1 (k+1) h'->S2 (k+1) h'->IsPair h' s.heap.objs.size x y->(∀c o,c≠z->c≠TO->c≠i1->c≠i2->s.heap.get? c=some o->h'.get? c=some o)->Q (.ref s.heap.objs.size) { s with heap:=h',toks:=tk }) :
  wpAny (model P w) A (Builtin.«zip.__next__» ⟨[.ref z],[]⟩) (fun fin s'=>∃v,fin=.done (.ret v)/\Q v s') E s:=by
 change wpAny (model P w) A (field (.ref z) 2>>=_) _ _ s
 refine a9 (aV hz rfl (x:=Value.bool false) rfl ?_)
 change wpAny (model P w) A (field (.ref z) 3>>=_) _ _ s
 refine a9 (aV hz rfl (x:=.ref TI) rfl (a9 (bg cy rfl ?_)))
 change wpAny (model P w) A (Builtin.SmallTypes.ownedTupleIsFree (.ref z)>>=_) _ _ s
 refine a9 ?_
 unfold Builtin.SmallTypes.ownedTupleIsFree;refine a9 (aV hz rfl (x:=.none) rfl (af ?_))
 rw [aE rfl]
 refine a9 (dW (a9 (aV hz rfl (x:=.ref TO) rfl (a9 (bf hz (by simp) fun g₁ dI cS=>?_)))))
 have dI:IsZip g₁ z TI TO .ellipsis:=dI
 refine a9 ?_
 simp only [bQ,iC,bj,eT];refine a9 (a9 (dA ?_))
 change wpAny (model P w) A (Builtin.SmallTypes.nextOf (.ref i1)>>=_) _ _ _
 refine a9 (D1.item k _ _ _ l1 (J7 D1 h1 cS.extBut fun b hb=>(Z.f1 b hb).1) fun x g₂ jM px gK cJ=>af ?_)
 have dO:IsPair g₂ TO a b:=cJ.extBut _ _ Z.to1 (cS.extBut _ _ Z.toz cG)
 refine a9 (bg dO rfl (a9 (dg dO fun g₃ eL cW=>a9 (g8 (af ?_)))))
 have eL:IsPair g₃ TO x b:=eL
 refine a9 (a9 (dA ?q))
 change wpAny (model P w) A (Builtin.SmallTypes.nextOf (.ref i2)>>=_) _ _ _
 have gJ:S2 k g₃:=J7 D2 (J7 D2 (J7 D2 h2 cS.extBut fun b hb=>(Z.f2 b hb).1) cJ.extBut fun b hb=>(Z.f2 b hb).2.2) cW.extBut fun b hb=>(Z.f2 b hb).2.1
 refine a9 (D2.item k _ _ _ l2 gJ fun y g₄ lv py mW fb=>af ?_)
 have gI:IsPair g₄ TO x b:=fb.extBut _ _ Z.to2 eL
 refine a9 (bg gI rfl (a9 (dg gI fun g₅ eK eZ=>a9 (g8 (af (af ?_))))))
 have eK:IsPair g₅ TO x y:=eK
 refine a9 (bg eK rfl (a9 (wpAny_newTuple ?_)))
 have hsz:g₅.objs.size=s.heap.objs.size:=by rw [eZ.1,fb.1,cW.1,cJ.1,cS.1]
 have k7:IsZip g₅ z TI TO .ellipsis:=eZ.extBut _ _ Z.toz.symm (fb.extBut _ _ Z.i2z.symm (cW.extBut _ _ Z.toz.symm (cJ.extBut _ _ Z.i1z.symm dI)))
 have mn:∀c o,c≠z->c≠TO->c≠i1->c≠i2->s.heap.get? c=some o->g₅.get? c=some o:=fun c o c1 c2 c3 c4 e=>eZ.extBut _ _ c2 (fb.extBut _ _ c4 (cW.extBut _ _ c2 (cJ.extBut _ _ c3 (cS.extBut _ _ c1 e))))
 have mY:S1 (k+1) g₅:=J7 D1 (J7 D1 (J7 D1 gK cW.extBut fun b hb=>(Z.f1 b hb).2.1) fb.extBut fun b hb=>(Z.f1 b hb).2.2) eZ.extBut fun b hb=>(Z.f1 b hb).2.1
 have mV:S2 (k+1) g₅:=J7 D2 mW eZ.extBut fun b hb=>(Z.f2 b hb).2.1
 have gw:z<g₅.objs.size:=au k7
 change wpAny (model P w) A (Builtin.SmallTypes.ownedTupleHandOut (.ref z) (Value.ref g₅.objs.size)>>=_) _ _ _
 refine a9 ?_
 unfold Builtin.SmallTypes.ownedTupleHandOut;refine a9 (bf (aa _ k7:IsZip (g₅.push { cls:=.type "tuple",data:=.seq #[x,y] }) z TI TO .ellipsis) (by simp) fun g₇ jc jQ=>?_)
 have jc:IsZip g₇ z TI TO (rawInt g₅.objs.size):=jc
 refine bf jc (by simp) fun g₈ i6 jP=>af ⟨_,rfl,?_⟩
 have i6:IsZip g₈ z TI TO (rawInt g₅.objs.size):=i6
 have up:∀c o,c≠z->g₅.get? c=some o->g₈.get? c=some o:=fun c o c1 e=>jP.extBut _ _ c1 (jQ.extBut _ _ c1 (aa _ e))
 have kG:IsPair g₈ g₅.objs.size x y:=jP.extBut _ _ (Nat.ne_of_gt gw) (jQ.extBut _ _ (Nat.ne_of_gt gw) (aw _ rfl))
 rw [hsz]at i6 kG
 have goal:=hQ g₈ lv x y px py i6 (up _ _ Z.toz eK) (D1.frame _ _ _ mY fun b hb o e=>up b o (Z.f1 b hb).1 e) (D2.frame _ _ _ mV fun b hb o e=>up b o (Z.f2 b hb).1 e) kG fun c o c1 c2 c3 c4 e=>up c o c1 (mn c o c1 c2 c3 c4 e)
 rw [<- hsz]at goal
 exact goal
theorem W9r {Q:Fin->Shared->Prop} (Z:Y0 z TI TO i1 i2 eD eC) (D1:Draws P w A i1 eD n1 P1 S1) (D2:Draws P w A i2 eC n2 P2 S2) (hz:IsZip s.heap z TI TO .none) (cy:IsPair s.heap TI (.ref i1) (.ref i2)) (cG:IsPair s.heap TO a b) (h1:S1 k s.heap) (h2:S2 k s.heap) (hk:k=n1\/(k<n1/\k=n2))
  (hE:∀h' tk e,(∀c o,c≠z->c≠TO->c≠i1->c≠i2->s.heap.get? c=some o->h'.get? c=some o)->(∃o,h'.get? e=some o/\o.cls=.type "StopIteration")->E (.ref e) { s with heap:=h',toks:=tk }) :
  wpAny (model P w) A (Builtin.«zip.__next__» ⟨[.ref z],[]⟩) Q E s:=by
 change wpAny (model P w) A (field (.ref z) 2>>=_) _ _ s
 refine a9 (aV hz rfl (x:=Value.bool false) rfl ?_)
 change wpAny (model P w) A (field (.ref z) 3>>=_) _ _ s
 refine a9 (aV hz rfl (x:=.ref TI) rfl (a9 (bg cy rfl ?_)))
 change wpAny (model P w) A (Builtin.SmallTypes.ownedTupleIsFree (.ref z)>>=_) _ _ s
 refine a9 ?_
 unfold Builtin.SmallTypes.ownedTupleIsFree;refine a9 (aV hz rfl (x:=.none) rfl (af ?_))
 rw [aE rfl]
 refine a9 (dW (a9 (aV hz rfl (x:=.ref TO) rfl (a9 (bf hz (by simp) fun g₁ dI cS=>?_)))))
 have dI:IsZip g₁ z TI TO .ellipsis:=dI
 refine a9 ?_
 simp only [bQ,iC,bj,eT];refine a9 (a9 (dA ?_))
 change wpAny (model P w) A (Builtin.SmallTypes.nextOf (.ref i1)>>=_) _ _ _
 have j0:S1 k g₁:=J7 D1 h1 cS.extBut fun b hb=>(Z.f1 b hb).1
 rcases hk with hk | ⟨bY,hk⟩
 ·subst hk
  refine a9 (D1.done _ _ _ j0 fun g₂ e cJ he=>?_)
  obtain⟨oe,fy,gG⟩:=he
  have k9:IsZip g₂ z TI TO .ellipsis:=cJ _ _ Z.i1z.symm dI
  have jv:e≠z:=fun q=>by subst q;rw [k9]at fy;cases fy;simp at gG
  exact bf k9 (by simp) fun g₃ _ cW=>hE g₃ _ e (fun c o c1 _ c3 _ x=>cW.extBut _ _ c1 (cJ _ _ c3 (cS.extBut _ _ c1 x))) ⟨oe,cW.extBut _ _ jv fy,gG⟩
 ·refine a9 (D1.item k _ _ _ bY j0 fun x g₂ jM px gK cJ=>af ?_)
  have dO:IsPair g₂ TO a b:=cJ.extBut _ _ Z.to1 (cS.extBut _ _ Z.toz cG)
  refine a9 (bg dO rfl (a9 (dg dO fun g₃ eL cW=>a9 (g8 (af ?_)))))
  refine a9 (a9 (dA ?q))
  change wpAny (model P w) A (Builtin.SmallTypes.nextOf (.ref i2)>>=_) _ _ _
  have gJ:S2 k g₃:=J7 D2 (J7 D2 (J7 D2 h2 cS.extBut fun b hb=>(Z.f2 b hb).1) cJ.extBut fun b hb=>(Z.f2 b hb).2.2) cW.extBut fun b hb=>(Z.f2 b hb).2.1
  subst hk
  refine a9 (D2.done _ _ _ gJ fun g₄ e fb he=>?_)
  obtain⟨oe,fy,gG⟩:=he
  have k8:IsZip g₄ z TI TO .ellipsis:=fb _ _ Z.i2z.symm (cW.extBut _ _ Z.toz.symm (cJ.extBut _ _ Z.i1z.symm dI))
  have jv:e≠z:=fun q=>by subst q;rw [k8]at fy;cases fy;simp at gG
  exact bf k8 (by simp) fun g₅ _ eZ=>hE g₅ _ e (fun c o c1 c2 c3 c4 x=>eZ.extBut _ _ c1 (fb _ _ c4 (cW.extBut _ _ c2 (cJ.extBut _ _ c3 (cS.extBut _ _ c1 x))))) ⟨oe,eZ.extBut _ _ jv fy,gG⟩
end
section
variable {P:Program}{w:World}{A:Around}{E:VS9}{s:Shared}{z TI TO i1 i2:Addr}{eD eC:List Addr}{n1 n2 k:Nat}{P1 P2:Nat->Value->Prop}{S1 S2:Nat->Heap->Prop}{a b:Value}
theorem W9t {Q:Option Value->Shared->Prop} (Z:Y0 z TI TO i1 i2 eD eC) (D1:Draws P w A.in1 i1 eD n1 P1 S1) (D2:Draws P w A.in1 i2 eC n2 P2 S2) (hz:IsZip s.heap z TI TO .none) (cy:IsPair s.heap TI (.ref i1) (.ref i2)) (cG:IsPair s.heap TO a b) (h1:S1 k s.heap) (h2:S2 k s.heap) (l1:k<n1) (l2:k<n2)
  (hQ:∀h' tk x y,P1 k x->P2 k y->IsZip h' z TI TO (rawInt s.heap.objs.size)->IsPair h' TO x y->S1 (k+1) h'->S2 (k+1) h'->IsPair h' s.heap.objs.size x y->(∀c o,c≠z->c≠TO->c≠i1->c≠i2->s.heap.get? c=some o->h'.get? c=some o)->Q (some (.ref s.heap.objs.size)) { s with heap:=h',toks:=tk }) :
  wpAny (model P w) A (pyNext (.ref z)) Q E s:=by
 have hT:s.TypeIs (.ref z) "zip":=⟨_,hz,rfl⟩
 unfold pyNext
 exact a9 (dB (b9 (name:=Str.ofString "__next__") hT bK (be bK hT fN
  (W9s Z D1 D2 hz cy cG h1 h2 l1 l2 fun h' tk x y a1 a2 a3 a4 a5 a6 a7 a8=>af (hQ h' tk x y a1 a2 a3 a4 a5 a6 a7 a8)) (eX _))))
theorem W9u {Q:Option Value->Shared->Prop} (Z:Y0 z TI TO i1 i2 eD eC) (D1:Draws P w A.in1 i1 eD n1 P1 S1) (D2:Draws P w A.in1 i2 eC n2 P2 S2) (hz:IsZip s.heap z TI TO .none) (cy:IsPair s.heap TI (.ref i1) (.ref i2)) (cG:IsPair s.heap TO a b) (h1:S1 k s.heap) (h2:S2 k s.heap) (hk:k=n1\/(k<n1/\k=n2))
  (hQ:∀h' tk,(∀c o,c≠z->c≠TO->c≠i1->c≠i2->s.heap.get? c=some o->h'.get? c=some o)->Q none { s with heap:=h',toks:=tk }):wpAny (model P w) A (pyNext (.ref z)) Q E s:=by
 have hT:s.TypeIs (.ref z) "zip":=⟨_,hz,rfl⟩
 unfold pyNext
 refine a9 (dB (b9 (name:=Str.ofString "__next__") hT bK (be bK hT fN (W9r Z D1 D2 hz cy cG h1 h2 hk fun h' tk e kp he=>?_) (eX _))))
 obtain⟨o,ho,hc⟩:=he
 exact a9 (wpAny_isInstance (T:="StopIteration") (b:=true) ⟨o,ho,hc⟩ isSubtype_stop (af (hQ _ _ kp)))
end
noncomputable abbrev zl1 (h:Heap) (l:Addr):Heap:=h.push { cls:=.type "list_iterator",data:=.fields #[.ref l,.int 0 0] }
noncomputable abbrev zl2 (h:Heap) (l t:Addr):Heap:=(zl1 h l).push { cls:=.type "tuple_iterator",data:=.fields #[.ref t,.int 0 0] }
noncomputable abbrev zl3 (h:Heap) (l t:Addr):Heap:=(zl2 h l t).push { cls:=.type "tuple",data:=.seq #[.ref h.objs.size,.ref (zl1 h l).objs.size] }
noncomputable abbrev zl4 (h:Heap) (l t:Addr):Heap:=(zl3 h l t).push { cls:=.type "tuple",data:=.seq #[.none,.none] }
noncomputable abbrev zl5 (h:Heap) (l t:Addr):Heap:=(zl4 h l t).push { cls:=.type "zip",data:=.fields #[.none,.bool false,.bool false,.ref (zl2 h l t).objs.size,.ref (zl3 h l t).objs.size] }
theorem W9w (l t:Addr) (xs ys:Array Value) :
  Meets (Builtin.«zip.__new__» ⟨[.type "zip",.ref l,.ref t],[]⟩) (fun _ R s=>s.heap.IsList l xs/\s.heap.IsTuple t ys/\R (.ok (.ret (.ref (zl4 s.heap l t).objs.size))) { s with heap:=zl5 s.heap l t }) :=
 Meets.of_wp fun prog w A R s h=>by
  obtain⟨hp,g,d,tk,os⟩:=s;obtain⟨dr,cX,h⟩:=h
  have hsub:=sub_zip
  have mR:Heap.IsList (Shared.heap ⟨hp,g,d,tk,os⟩) l xs:=dr
  have mQ:Heap.IsTuple (Shared.heap ⟨hp.push { cls:=.type "list_iterator",data:=.fields #[.ref l,.int 0 0] },g,d,tk,os⟩) t ys:=Heap.IsTuple.push cX _
  wp_walk using wpAny_pyIter_list mR,dX mQ
  exact⟨_,rfl,h⟩
theorem Y6s {P:Program}{w:World}{A:Around}{E:VS9}{s:Shared}{l t:Addr}{xs ys:Array Value}{Q:VS9} (hl:s.heap.IsList l xs) (ht:s.heap.IsTuple t ys)
  (h:∀h',IsZip h' (s.heap.objs.size+4) (s.heap.objs.size+2) (s.heap.objs.size+3) .none->IsPair h' (s.heap.objs.size+2) (.ref s.heap.objs.size) (.ref (s.heap.objs.size+1))->IsPair h' (s.heap.objs.size+3) .none .none ->
   h'.IsListIter s.heap.objs.size l 0->h'.IsTupleIter (s.heap.objs.size+1) t 0->(∀c o,s.heap.get? c=some o->h'.get? c=some o)->Q (.ref (s.heap.objs.size+4)) { s with heap:=h' }) :
  wpAny (model P w) A (call (.type "zip") [.ref l,.ref t]) Q E s:=by
 refine callType_new F.called_zip (by decide) (F.typeCall_zip_2 _ _) (F.newCall_zip_2 _ _) (fun obj=>F.args_object_init_3 obj _ _) F.entry_zip_new (W9w l t xs ys) ⟨hl,ht,?_⟩
 have e1:(zl1 s.heap l).objs.size=s.heap.objs.size+1:=bn ..
 have e2:(zl2 s.heap l t).objs.size=s.heap.objs.size+2:=by rw [bn,e1]
 have e3:(zl3 s.heap l t).objs.size=s.heap.objs.size+3:=by rw [bn,e2]
 have e4:(zl4 s.heap l t).objs.size=s.heap.objs.size+4:=by rw [bn,e3]
 have g5:(zl5 s.heap l t).get? (zl4 s.heap l t).objs.size=some _:=aw _ rfl
 have g4:(zl5 s.heap l t).get? (zl3 s.heap l t).objs.size=some _:=aa _ (aw _ rfl)
 have g3:(zl5 s.heap l t).get? (zl2 s.heap l t).objs.size=some _:=aa _ (aa _ (aw _ rfl))
 have g2:(zl5 s.heap l t).get? (zl1 s.heap l).objs.size=some _:=aa _ (aa _ (aa _ (aw _ rfl)))
 have g1:(zl5 s.heap l t).get? s.heap.objs.size=some _:=aa _ (aa _ (aa _ (aa _ (aw _ rfl))))
 rw [e2,e3,e4]at g5
 rw [e1,e2]at g3
 rw [e3]at g4
 rw [e1]at g2
 rw [e4]
 exact⟨⟨_,g5,rfl⟩,h _ g5 g3 g4 ⟨_,g1,rfl,rfl⟩ ⟨_,g2,rfl,rfl⟩ fun c o x=>aa _ (aa _ (aa _ (aa _ (aa _ x))))⟩
noncomputable def Izt (K:Fg9) (l1 l2:Addr) (n:Nat):It:=⟨fun i H=>i<n/\∃xs ys,C6 K H l1 xs/\C2 K H l2 ys/\min xs.length ys.length=n,
 fun i H v H'=>∃T x y,(∀xs,C6 K H l1 xs->xs[i]?=some x)/\(∀ys,C2 K H l2 ys->ys[i]?=some y)/\H T=none/\v=.ref T/\H'=upd H T (.tup [x,y]),fun i H=>i=n/\∃xs ys,C6 K H l1 xs/\C2 K H l2 ys/\min xs.length ys.length=n⟩
theorem W8r {P:Program}{w:World}{K:Fg9}{cK:List Expr}{kk:Nat}{pt:Pos}{z TI TO i1 i2 l1 l2:Addr}{n:Nat} (Z:Y0 z TI TO i1 i2 [i1,l1] [i2,l2]) (dr:l1≠i1) (cX:l2≠i2) :
  Y6 P w K (.Tuple cK kk pt) (Izt K l1 l2 n) [z,TO,i1,i2,TI] z (fun i h=>IsZip h z TI TO .none/\IsPair h TI (.ref i1) (.ref i2)/\(∃a b,IsPair h TO a b)/\h.IsListIter i1 l1 i/\h.IsTupleIter i2 l2 i) where
 mem:=by simp
 obj:=fun i h ⟨hz,cy,⟨a,b,cG⟩,⟨o1,h1,_,d1⟩,⟨o2,h2,_,d2⟩⟩ c hc=>by
  simp only [aj,aL,br]at hc
  rcases hc with rfl | rfl | rfl | rfl | rfl
  ·exact⟨_,hz,fun v z=>by cases z⟩
  ·exact⟨_,cG,fun v z=>by cases z⟩
  ·exact⟨o1,h1,fun v z=>by rw [d1]at z;cases z⟩
  ·exact⟨o2,h2,fun v z=>by rw [d2]at z;cases z⟩
  ·exact⟨_,cy,fun v z=>by cases z⟩
 keep:=fun i h h' ⟨hz,cy,⟨a,b,cG⟩,h1,⟨o2,h2,r2⟩⟩ k=>⟨k z (by simp) _ hz,k TI (by simp) _ cy,⟨a,b,k TO (by simp) _ cG⟩,h1.at fun o e=>k i1 (by simp) o e,o2,k i2 (by simp) o2 h2,r2⟩
 item:=by
  intro X hP hw hK hc i ac s σ H E I hf st hg
  subst hP hw hK
  obtain⟨bY,xs,ys,ib,i9,hn⟩:=hg
  obtain⟨aU,rv,p1,kc⟩:=I.list ib
  obtain⟨c8,de,p2,lX⟩:=I.tuple i9
  have lR:=rv.length
  have lP:=de.length
  have hd:X.A.in1.handled=none:=I.ok.hd hc
  have D1:=Draws.list (prog:=X.prog) (w:=X.w) (A:=X.A.in1) hd i1 l1 dr aU.toArray
  have D2:=Q1l (P:=X.prog) (w:=X.w) (A:=X.A.in1) hd i2 l2 cX c8.toArray
  obtain⟨sz,gm,⟨a0,b0,hV⟩,s1,s2⟩:=st
  have hx:xs[i]?=some (xs[i]'(by omega)):=ae _
  have hy:ys[i]?=some (ys[i]'(by omega)):=ae _
  obtain⟨u,hu,ru⟩:=rv.get hx
  obtain⟨u',kg,jV⟩:=de.get hy
  refine W9t Z D1 D2 sz gm hV ⟨s1,p1.isList⟩ ⟨s2,p2⟩ (by simp;omega) (by simp;omega) fun h' tk x y px py z1 t1 a1 a2 pr kp=>⟨_,rfl,?_⟩
  have ex:x=u:=by
   have:aU[i]?=some x:=by simpa using px
   rw [hu]at this;exact(aB this).symm
  have ey:y=u':=by
   have:c8[i]?=some y:=by simpa using py
   rw [kg]at this;exact(aB this).symm
  subst ex ey
  refine wpAny_letOwnedTupleGo_zip z1 fun h2 z2 sb=>?_
  have lW:s.heap.objs.size≠z:=(az (au sz)).symm
  have i5:∀c o,c∉[z,TO,i1,i2]->s.heap.get? c=some o->h2.get? c=some o:=fun c o hc e=>by
   simp only [aj,aL,br,not_or]at hc
   exact(sb.2 c hc.1).trans (kp c o hc.1 hc.2.1 hc.2.2.1 hc.2.2.2 e)
  have eM:IsTup h2 s.heap.objs.size ([x,y]).toArray:=⟨_,(sb.2 _ lW).trans pr,rfl,_,rfl⟩
  have ju:∀b∈[z,TO,i1,i2],K1 X ac H b:=fun b hb=>hf b (by
   simp only [aj,aL,br]at hb ⊢
   rcases hb with h | h | h | h <;> simp [h])
  have I2:=Q6k (t':=tk) (xs:=[xs[i]'(by omega),ys[i]'(by omega)]) I i5 ju (ah s.heap.objs.size) eM (.cons ru (.cons jV .nil)) (by show 2<=sizeLine;decide)
  refine⟨.ref s.heap.objs.size,_,I2,rfl,⟨s.heap.objs.size,_,_,fun zs hz=>by rw [I.list_inj hz ib];exact hx,fun zs hz=>by rw [I.tuple_inj hz i9];exact hy,I.hok.fresh (ah _),rfl,rfl⟩,⟨z2,?_,⟨_,_,(sb.2 _ Z.toz).trans t1⟩,?_,?_⟩,fun b hb=>?_⟩
  ·exact(sb.2 _ Z.tiz).trans (kp _ _ Z.tiz Z.tito Z.ti1 Z.ti2 gm)
  ·exact a1.1.at fun o e=>(sb.2 _ Z.i1z).trans e
  ·obtain⟨⟨o,e,r⟩,_⟩:=a2
   exact⟨o,(sb.2 _ Z.i2z).trans e,r⟩
  ·have mJ:b≠s.heap.objs.size:=fun zz=>by
    obtain⟨o,ho⟩:∃o,s.heap.get? b=some o:=by
     simp only [aj,aL,br]at hb
     obtain⟨o1,h1,_⟩:=s1
     obtain⟨o2,h2,_⟩:=s2
     rcases hb with rfl | rfl | rfl | rfl | rfl
     ·exact⟨_,sz⟩
     ·exact⟨_,hV⟩
     ·exact⟨_,h1⟩
     ·exact⟨_,h2⟩
     ·exact⟨_,gm⟩
    exact aQ _ (zz ▸ au ho)
   rw [B1 mJ]
   exact(hf b hb).1
 done:=by
  intro X hP hw hK hc i ac s σ H E I hf st hg
  subst hP hw hK
  obtain⟨hi,xs,ys,ib,i9,hn⟩:=hg
  obtain⟨aU,rv,p1,kc⟩:=I.list ib
  obtain⟨c8,de,p2,lX⟩:=I.tuple i9
  have lR:=rv.length
  have lP:=de.length
  have hd:X.A.in1.handled=none:=I.ok.hd hc
  have D1:=Draws.list (prog:=X.prog) (w:=X.w) (A:=X.A.in1) hd i1 l1 dr aU.toArray
  have D2:=Q1l (P:=X.prog) (w:=X.w) (A:=X.A.in1) hd i2 l2 cX c8.toArray
  obtain⟨sz,gm,⟨a0,b0,hV⟩,s1,s2⟩:=st
  have ju:∀b∈[z,TO,i1,i2],K1 X ac H b:=fun b hb=>hf b (by
   simp only [aj,aL,br]at hb ⊢
   rcases hb with h | h | h | h <;> simp [h])
  have hk:i=aU.toArray.size\/(i<aU.toArray.size/\i=c8.toArray.size):=by
   simp only [aF]
   omega
  refine W9u Z D1 D2 sz gm hV ⟨s1,p1.isList⟩ ⟨s2,p2⟩ hk fun h' tk kp=>⟨rfl,Q3h I (fun c o hc e=>?_) ju⟩
  simp only [aj,aL,br,not_or]at hc
  exact kp c o hc.1 hc.2.1 hc.2.2.1 hc.2.2.2 e
 self:=fun A i s Q E st h=>wpAny_pyIter_zip st.1 h
theorem W9p {K:Fg9}{H:Hp}{l1 l2:Addr}{xs ys:List V}{ds es:List D} (sq:C6 K H l1 xs) (al:AllS K H ds xs) (cT:H l2=some (.tup ys)) (cI:AllS K H es ys):YlS K (Izt K l1 l2 (min ds.length es.length)) (O7 ds es) H where
 go:=fun H' s i hi=>by
  rw [Q6q]at hi
  exact⟨hi,xs,ys,s.seq sq,C2.of (s _ _ cT),by rw [al.length,cI.length]⟩
 yld:=fun H' s i v cZ d hd ⟨T,x,y,hx,hy,hT,hv,hH⟩=>by
  subst hH hv
  refine⟨D7 hT _,?_⟩
  obtain⟨d1,d2,e1,e2,rfl⟩:=Z5r hd
  obtain⟨v1,je,q1⟩:=al.get e1
  obtain⟨v2,i7,q2⟩:=cI.get e2
  rw [hx xs (s.seq sq)]at je;cases je
  rw [hy ys (C2.of (s _ _ cT))]at i7;cases i7
  have kp:=Kp.of (s.trans (D7 hT (.tup [x,y])))
  exact A1.s_tup upd_same (AllS.cons (q1.mono kp _ _) (AllS.cons (q2.mono kp _ _) AllS.nil))
 stop:=fun H' s=>⟨Q6q _ _,xs,ys,s.seq sq,C2.of (s _ _ cT),by rw [al.length,cI.length]⟩
section
variable {X:Cx}{H0:Hp}{a b:Expr}{p pos:Pos}{wr:WA}
noncomputable def Q7r (wr:WA):P3:=fun τ Q=>wr τ fun rs=>∃r ds es,rs=[r,.st (.tup es)]/\P6 r=some ds/\Q (O7 ds es)
theorem E5.zipT {cK:List Expr}{kk:Nat}{pt:Pos} (hg:Gl X "zip") (hm:X.mg "zip"=none) (hv:bootBuiltins "zip"=some (.type "zip")) (ha:DA X H0 [a,b] wr) (he:starEach [a,b] X.env=(false,eval a X.env)::starEach [b] X.env:=by rfl) (hpl:(backTo pos (starEach [b] X.env)).any (·.1)=false:=by rfl) :
  E5 X H0 (.Tuple cK kk pt) (.Call (.Name "zip" p) [a,b] [] pos) (Q7r wr) where
 mono:=fun τ P Q f h=>ha.mono τ _ _ (fun r ⟨r1,ds,es,e1,e2,q⟩=>⟨r1,ds,es,e1,e2,f _ q⟩) h
 pi:=by
  intro ac s σ H R I ⟨τ,hR,h⟩
  refine bh (X5 I hg hm hv ?_ (by decide) (by decide))
  refine b7 (B3 (ha.pa pos ac s σ H (fun vs H1=>A5 H H1/\∃l1 l2 xs ys ds es,vs=[.ref l1,.ref l2]/\C6 X.K H1 l1 xs/\AllS X.K H1 ds xs/\H1 l2=some (.tup ys)/\AllS X.K H1 es ys/\∀J H',A5 H H'->YlS X.K J (O7 ds es) H'->R J H') I
   ⟨τ,hR,ha.mono τ _ _ (fun rs ⟨r,ds,es,e1,e2,q⟩ vs H1 s1 ck=>⟨s1,by
    subst e1
    obtain⟨v,u,rfl,ir,gv⟩:=Z0p ck
    obtain⟨l,xs,rfl,sq,al⟩:=Q0z e2 ir
    have gv:A1 X.K H1 (.tup es) u:=gv
    unfold A1 at gv
    obtain⟨l2,ys,rfl,cT,cI⟩:=gv
    exact⟨l,l2,xs,ys,ds,es,rfl,sq,al,cT,cI,q⟩⟩) h⟩) fun us s1 ⟨vs,H1,I1,rv,sm,l1,l2,xs,ys,ds,es,e1,sq,al,cT,cI,q⟩=>?_) he hpl
  subst e1
  have de:∃u1 u2,us=[u1,u2]/\B8 (.ref l1) u1/\B8 (.ref l2) u2:=by
   cases rv with
   | cons r1 rr =>
    obtain⟨u2,rfl,r2⟩:=R1 rr
    exact⟨_,u2,rfl,r1,r2⟩
  obtain⟨u1,u2,rfl,r1,r2⟩:=de
  cases (show u1=Value.ref l1 from r1)
  cases (show u2=Value.ref l2 from r2)
  obtain⟨aU,gN,pl,fV⟩:=I1.list sq
  obtain⟨c8,hZ,e7,kb⟩:=I1.tuple (C2.of cT)
  have hl:@LT.lt Nat _ l1 s1.heap.objs.size:=by obtain⟨o,n,ho,_⟩:=id pl;exact au ho
  have cX:@LT.lt Nat _ l2 s1.heap.objs.size:=by obtain⟨o,ho,_⟩:=id e7;exact au ho
  refine Y6s pl.isList e7 fun h' hz cy cG ky jF k=>?_
  have Z:Y0 (s1.heap.objs.size+4) (s1.heap.objs.size+2) (s1.heap.objs.size+3) s1.heap.objs.size (s1.heap.objs.size+1) [s1.heap.objs.size,l1] [s1.heap.objs.size+1,l2]:=by
   refine⟨?_,?_,?_,?_,?_,?_,?_,?_,?_,?_,fun b hb=>?_,fun b hb=>?_⟩
   all_goals first | (show ¬ ((_:Nat)=(_:Nat));omega) | skip
   all_goals simp only [aj,aL,br]at hb
   all_goals rcases hb with rfl | rfl <;> refine⟨?_,?_,?_⟩ <;> (show ¬ ((_:Nat)=(_:Nat));omega)
  refine wpAny_pyIter_zip hz ⟨s1.heap.objs.size+4,[s1.heap.objs.size+4,s1.heap.objs.size+3,s1.heap.objs.size,s1.heap.objs.size+1,s1.heap.objs.size+2],_,_,H1,rfl,I1.kept (t':=s1.toks) k,W8r (n:=Min.min ds.length es.length) Z (az hl) (az (bx cX)),⟨hz,cy,⟨_,_,cG⟩,ky,jF⟩,fun b hb=>?_,q _ _ sm (W9p sq al cT cI)⟩
  have hb:s1.heap.objs.size<=b:=by
   simp only [aj,aL,br]at hb
   rcases hb with rfl | rfl | rfl | rfl | rfl <;> first | exact ah _ | exact Nat.le_add_right _ _
  exact I1.fpOk hb (I1.hok.fresh hb)
@[simp] theorem W6j {τ:A8}{Q:List D->Prop}:Q7r wr τ Q=wr τ fun rs=>∃r ds es,rs=[r,.st (.tup es)]/\P6 r=some ds/\Q (O7 ds es):=rfl
end
theorem W9m {K:Fg9}{H:Hp}{l:Addr}{xs:List V}{ds:List D} (hq:H l=some (.tup xs)) (al:AllS K H ds xs):YlS K (Iet K l) (G1 ds) H where
 go:=fun H' s i hi=>(Q9x (H0:=H) hq al).go H' (Kp.of s) s i hi
 yld:=fun H' s i v cZ d hd h=>(Q9x (H0:=H) hq al).yld H' (Kp.of s) s i v cZ d hd h
 stop:=fun H' s=>(Q9x (H0:=H) hq al).stop H' (Kp.of s) s
section
variable {X:Cx}{H0:Hp}{a:Expr}{p pos:Pos}{wr:WA}
noncomputable def Q3f:R->Option (List D)
 | .st (.tup ds)=>some ds
 | r=>P6 r
noncomputable def Q2o (wr:WA):P3:=fun τ Q=>wr τ fun rs=>∃r ds,rs=[r]/\Q3f r=some ds/\Q (G1 ds)
theorem E5.enumX {cK:List Expr}{kk:Nat}{pt p:Pos} (hg:Gl X "enumerate") (hm:X.mg "enumerate"=none) (hv:bootBuiltins "enumerate"=some (.type "enumerate")) (ha:DA X H0 [a] wr) (he:starEach [a] X.env=(false,eval a X.env)::starEach [] X.env:=by rfl) (hpl:(backTo pos (starEach [] X.env)).any (·.1)=false:=by rfl) :
  E5 X H0 (.Tuple cK kk pt) (.Call (.Name "enumerate" p) [a] [] pos) (Q2o wr) where
 mono:=fun τ P Q f h=>ha.mono τ _ _ (fun r ⟨r',ds,e1,e2,q⟩=>⟨r',ds,e1,e2,f _ q⟩) h
 pi:=by
  intro ac s σ H R I ⟨τ,hR,h⟩
  refine bh (X5 I hg hm hv ?_ (by decide) (by decide))
  refine b7 (B3 (ha.pa pos ac s σ H (fun vs H1=>A5 H H1/\((∃l xs ds,vs=[.ref l]/\H1 l=some (.tup xs)/\AllS X.K H1 ds xs/\∀J H',A5 H H'->YlS X.K J (G1 ds) H'->R J H')\/∃l xs ds,vs=[.ref l]/\C6 X.K H1 l xs/\AllS X.K H1 ds xs/\∀J H',A5 H H'->YlS X.K J (G1 ds) H'->R J H')) I
   ⟨τ,hR,ha.mono τ _ _ (fun rs h vs H1 s1 ck=>⟨s1,?_⟩) h⟩) fun us s1 ⟨vs,H1,I1,rv,sm,hh⟩=>?_) he hpl
  ·obtain⟨r,ds,e1,e2,q⟩:=h
   subst e1
   obtain⟨v,rfl,ir⟩:=T5 ck
   by_cases ht:∃es,r=.st (.tup es)
   ·obtain⟨es,rfl⟩:=ht
    cases e2
    have ir:A1 X.K H1 (.tup ds) v:=ir
    unfold A1 at ir
    obtain⟨l,xs,rfl,sq,al⟩:=ir
    exact .inl ⟨l,xs,ds,rfl,sq,al,q⟩
   ·have e2:P6 r=some ds:=by
     unfold Q3f at e2
     split at e2
     ·exact absurd ⟨_,rfl⟩ ht
     ·exact e2
    obtain⟨l,xs,rfl,sq,al⟩:=Q0z e2 ir
    exact .inr ⟨l,xs,ds,rfl,sq,al,q⟩
  ·have big:∀b∈[s1.heap.objs.size+1,s1.heap.objs.size],K1 X ac H1 b:=fun b hb=>by
    have hb:s1.heap.objs.size<=b:=by
     rcases aj.mp hb with rfl | hb
     ·exact cw _
     ·have e:b=s1.heap.objs.size:=by simpa using hb
      rw [e];exact ah _
    exact I1.fpOk hb (I1.hok.fresh hb)
   rcases hh with⟨l,xs,ds,rfl,sq,al,q⟩ | ⟨l,xs,ds,rfl,sq,al,q⟩
   ·obtain⟨u,rfl,ru⟩:=R1 rv
    cases (show u=Value.ref l from ru)
    obtain⟨aU,gN,pl,fV⟩:=I1.tuple (C2.of sq)
    have hl:l<s1.heap.objs.size:=by obtain⟨o,ho,_⟩:=pl;exact au ho
    refine Z6y pl fun h' he hi hz k=>?_
    exact cn he ⟨s1.heap.objs.size+1,[s1.heap.objs.size+1,s1.heap.objs.size],_,_,H1,rfl,I1.kept (t':=s1.toks) k,Y4c (l:=l) (g9 _) (az (bx hl)) (az hl),⟨⟨_,he⟩,hi⟩,big,q _ _ sm (W9m sq al)⟩
   ·obtain⟨u,rfl,ru⟩:=R1 rv
    cases (show u=Value.ref l from ru)
    obtain⟨aU,gN,pl,fV⟩:=I1.list sq
    obtain⟨o,n,ho,_⟩:=id pl
    have hl:l<s1.heap.objs.size:=au ho
    refine call_enumerate_list pl.isList fun h' he hi hz k=>?_
    refine cn he ⟨s1.heap.objs.size+1,[s1.heap.objs.size+1,s1.heap.objs.size],_,_,H1,rfl,I1.kept (t':=s1.toks) k,Y4b (l:=l) (g9 _) (az (bx hl)) (az hl),⟨⟨_,he⟩,hi⟩,big,q _ _ sm (W9l sq al)⟩
@[simp] theorem Z3j {τ:A8}{Q:List D->Prop}:Q2o wr τ Q=wr τ fun rs=>∃r ds,rs=[r]/\Q3f r=some ds/\Q (G1 ds):=rfl
end
section
variable {X:Cx}{ac:Pn9} {σ:St}{H:Hp}{s:Shared}
noncomputable def T8 (K:Fg9) (H:Hp) (d:D) (u:Value):Bool:=@decide (∃d' v',B8 v' u/\A1 K H d' v'/\D.eq d' d=true) (Classical.propDecidable _)
theorem Z8c (I:A0 X ac σ H s) {d d':D}{v':V}{u:Value} (r:B8 v' u) (i:A1 X.K H d' v'):T8 X.K H d u=D.eq d' d:=by
 unfold T8
 cases e:D.eq d' d with
 | true=>exact @cu _ (Classical.propDecidable _) ⟨d',v',r,i,e⟩
 | false =>
  refine @aM _ (Classical.propDecidable _) fun⟨d2,v2,r2,i2,e2⟩=>?_
  have ev:=r.inj r2
  subst ev
  rw [A1.inj I d2 d' v' i2 i,e]at e2
  cases e2
theorem Q5c (I:A0 X ac σ H s) {d:D}:∀{ds:List D}{xs:List V}{aU:List Value},AllS X.K H ds xs->C0 xs aU->aU.any (T8 X.K H d)=ds.any fun e=>D.eq e d
 | [],xs,aU,al,r=>by
  unfold AllS at al;subst al;cases r;rfl
 | e::ds,xs,aU,al,r=>by
  unfold AllS at al
  obtain⟨v,t,rfl,i,al⟩:=al
  cases r with
  | cons r1 r2=>rw [cM,cM,Z8c I r1 i,Q5c I al r2]
theorem Q5w (I:A0 X ac σ H s) {d:D}{x:V}{v:Value}{n:Nat} (ix:A1 X.K H d x) (rx:B8 x v) {A:Around} (hu:A.units+n<cLine):∀{ds:List D}{xs:List V}{aU:List Value},AllS X.K H ds xs->C0 xs aU->(∀e∈ds,e.depth<=n)->∀u∈aU,SeqAt.EqAt A s u v (T8 X.K H d u)
 | [],xs,aU,al,r,_=>by
  unfold AllS at al;subst al;cases r;intro u hu;cases hu
 | e::ds,xs,aU,al,r,hd=>by
  unfold AllS at al
  obtain⟨v',t,rfl,i,al⟩:=al
  cases r with
  | cons r1 r2 =>
   intro u hm
   rcases aj.mp hm with rfl | hm
   ·rw [Z8c I r1 i]
    exact Q5i I (fun A=>Q8h I n e d v' x _ _ A (hd e (by simp)) i.w ix.w r1 rx) i ix r1 rx hu
   ·exact Q5w I ix rx hu al r2 (fun e h=>hd e (by simp [h])) u hm
end
section
variable {X:Cx}
def inL (n:Nat) (neg:Bool) (x y:R) (Q:Bool->Prop):Prop:=∃d ds,x=.st d/\Q3f y=some ds/\(∀e∈ds,e.depth<=n)/\Q (if neg then !ds.any (fun e=>D.eq e d)else ds.any fun e=>D.eq e d)
theorem Z8q {n:Nat}{neg:Bool}:X7 (inL n neg):=fun x y P Q g ⟨d,ds,e1,e2,h,q⟩=>⟨d,ds,e1,e2,h,g _ q⟩
theorem Y3s {K:Fg9}{H0 H:Hp}{r:R}{ds:List D}{v:V} (e:Q3f r=some ds) (h:D9 K H0 H r v):∃a xs,v=.ref a/\(C6 K H a xs\/C2 K H a xs)/\AllS K H ds xs:=by
 by_cases ht:∃es,r=.st (.tup es)
 ·obtain⟨es,rfl⟩:=ht
  cases e
  have h:A1 K H (.tup ds) v:=h
  unfold A1 at h
  obtain⟨l,xs,rfl,sq,al⟩:=h
  exact⟨l,xs,rfl,.inr (C2.of sq),al⟩
 ·have e2:P6 r=some ds:=by
   unfold Q3f at e
   split at e
   ·exact absurd ⟨_,rfl⟩ ht
   ·exact e
  obtain⟨l,xs,rfl,sq,al⟩:=Q0z e2 h
  exact⟨l,xs,rfl,.inl sq,al⟩
theorem Y6v {n:Nat} (hu:X.A.units+n+1<cLine):V5 X .In (inL n false):=by
 intro ac s σ H x y v u Q I rx ry ⟨r1,r2,h1,h2,d,ds,e1,e2,hd,q⟩
 subst e1
 have ix:A1 X.K H d x:=h1
 obtain⟨a,xs,rfl,hq,al⟩:=Y3s e2 h2
 cases ry
 rcases hq with hq | hq
 ·obtain⟨aU,r,pl,hz⟩:=I.list hq
  refine SeqAt.in_listAt (T8 X.K H d) pl.isList (fun w hw=>Q5w I ix rx (n:=n) (by try simp only [bW];omega) al r hd w (by simpa using hw)) ⟨.bl _,H,I,rfl,?_⟩
  rw [show aU.toArray.any (T8 X.K H d)=aU.any (T8 X.K H d)by simp,Q5c I al r]
  exact q
 ·obtain⟨aU,r,pl,hz⟩:=I.tuple hq
  refine SeqAt.in_tupleAt (T8 X.K H d) pl (fun w hw=>Q5w I ix rx (n:=n) (by try simp only [bW];omega) al r hd w (by simpa using hw)) ⟨.bl _,H,I,rfl,?_⟩
  rw [show aU.toArray.any (T8 X.K H d)=aU.any (T8 X.K H d)by simp,Q5c I al r]
  exact q
theorem Y6w {n:Nat} (hu:X.A.units+n+1<cLine):V5 X .NotIn (inL n true):=by
 intro ac s σ H x y v u Q I rx ry ⟨r1,r2,h1,h2,d,ds,e1,e2,hd,q⟩
 subst e1
 have ix:A1 X.K H d x:=h1
 obtain⟨a,xs,rfl,hq,al⟩:=Y3s e2 h2
 cases ry
 rcases hq with hq | hq
 ·obtain⟨aU,r,pl,hz⟩:=I.list hq
  refine SeqAt.notIn_listAt (T8 X.K H d) pl.isList (fun w hw=>Q5w I ix rx (n:=n) (by try simp only [bW];omega) al r hd w (by simpa using hw)) ⟨.bl _,H,I,rfl,?_⟩
  rw [show aU.toArray.any (T8 X.K H d)=aU.any (T8 X.K H d)by simp,Q5c I al r]
  exact q
 ·obtain⟨aU,r,pl,hz⟩:=I.tuple hq
  refine SeqAt.notIn_tupleAt (T8 X.K H d) pl (fun w hw=>Q5w I ix rx (n:=n) (by try simp only [bW];omega) al r hd w (by simpa using hw)) ⟨.bl _,H,I,rfl,?_⟩
  rw [show aU.toArray.any (T8 X.K H d)=aU.any (T8 X.K H d)by simp,Q5c I al r]
  exact q
end
structure Q3k (K:Fg9) (x qual:Str) (st:Stmt) (f:Addr) (fd:FuncData):Prop where
 ex:∃(oc:Value) (od:Option Addr) (dV kV cr pm:Value) (an:Option Addr) (cdv ct:Value) (dq:Array (Option Value)),
  fd=PySem.W.fnOf x qual (T7 st) (M5 st) (C1 st) dV kV cr pm an cdv ct/\K.lookup f=some ⟨oc,od,.func fd,dq⟩/\PySem.W.codeIn K cdv qual=true
section
variable {P:Program}{w:World}{K:Fg9}{mg:Str->Option Value}{base:Heap}
theorem Q3k.ok {x qual:Str}{st:Stmt}{f:Addr}{fd:FuncData}{N ps:List Str}{k:Nat}{sp:Sp} (F:Q3k K x qual st f fd) (S:J5 N ps (C1 st)) (len:∀vs H Q E,sp vs H Q E->vs.length=ps.length)
  (cc:∀(cdv:Value) (A:Around) (outer:List Env) (s:Shared) (H:Hp) (vs:List V) (Q:VK) (E:XK),C9 k (A.deeper (envOfC qual (C1 st) s.heap.objs.size f cdv))->sp vs H Q E ->
   ∃t,PSs (X1 K6 P w K mg base N qual (C1 st) f cdv A outer s H E).nox (M5 st) t/\t { nx:=fun _ H'=>Q .non H',rt:=Q } (start N vs) H):O9 P w K mg base K6 (k+1) f fd ps sp:=by
 obtain⟨oc,od,dV,kV,cr,pm,an,cdv,ct,dq,rfl,lk,eg⟩:=F.ex
 refine Z1i lk eg S len fun A outer s H vs Q E hr fW=>?_
 obtain⟨t,h,q⟩:=cc cdv A outer s H vs Q E hr fW
 exact⟨t,h.nox,q⟩
theorem Q3k.okD {x qual:Str}{st:Stmt}{f:Addr}{fd:FuncData}{N ps:List Str}{k:Nat}{sp:D6} (F:Q3k K x qual st f fd) (S:J5 N ps (C1 st))
  (cc:∀(cdv:Value) (A:Around) (outer:List Env) (s:Shared) (H:Hp) (E:XK),C9 k (A.deeper (envOfC qual (C1 st) s.heap.objs.size f cdv)) ->
   ∃ws,A6 (X1 K6 P w K mg base N qual (C1 st) f cdv A outer s H E).nox H (M5 st) ws /\
    ∀rs r,rs.length=ps.length->sp rs r->ws { nx:=fun _=>r=.st .non,rt:=fun r'=>r'=r,bk:=fun _=>False,ct:=fun _=>False } (F6 N rs)) :
  O9 P w K mg base K6 (k+1) f fd ps (Q2r K ps.length sp):=by
 refine F.ok S (fun vs H Q E h=>?_) (fun cdv A outer s H vs Q E hr h=>?_)
 ·obtain⟨rs,r,hl,al,_⟩:=h
  rw [<- al.length];exact hl
 obtain⟨rs,r,hl,al,ok,h1,h2⟩:=h
 obtain⟨ws,hd,hw⟩:=cc cdv A outer s H E hr
 refine⟨_,hd.ps,F6 N rs,Z3f al ok,?_⟩
 have hw:=hw (rs.map nrm) r (by rw [ag];exact hl) h1
 rw [Z3y]at hw
 refine hd.mono _ _ _ ⟨fun τ h σ H' _ hR=>?_,fun r' h v H' sm ir=>?_,fun _ h=>False.elim h,fun _ h=>False.elim h⟩ hw
 ·have h:r=.st .non:=h
  subst h
  exact h2 .non H' hR.same (A1.s_non (K:=K) (H:=H'))
 ·have h:r'=r:=h
  subst h
  exact h2 v H' sm ir
end
structure DfO (K:Fg9) (mg:Str->Option Value) (name:Str) (st:Stmt) (ps:List Str) (z:Int) (f:Addr) (fd:FuncData):Prop where
 F:Q3k K name name st f fd
 b:∃t,U2 K fd ps [.int z t]
 k:PySem.W.keepIn K (.ref f)=true
 m:mg name=some (.ref f)
section
variable {P:Program}{w:World}{K:Fg9}{mg:Str->Option Value}{base:Heap}
theorem DfO.ok {x:Str}{st:Stmt}{f:Addr}{fd:FuncData}{N ps:List Str}{z:Int}{k:Nat}{sp:D6}{ws:WS} (F:DfO K mg x st ps z f fd) (S:J5 N ps (C1 st))
  (cc:∀(cdv:Value) (A:Around) (outer:List Env) (s:Shared) (H:Hp) (E:XK),C9 k (A.deeper (envOfC x (C1 st) s.heap.objs.size f cdv))->A6 (X1 K6 P w K mg base N x (C1 st) f cdv A outer s H E).nox H (M5 st) ws)
  (hr:∀rs r,rs.length=ps.length->sp rs r->ws (T0 r) (F6 N rs)):FnD P w K mg base (k+1) f fd ps sp :=
 Q3k.okD F.F S fun cdv A outer s H E ki=>⟨ws,cc cdv A outer s H E ki,hr⟩
end
section
variable {X:Cx}{H0:Hp}{e:Expr}{es:List Expr}{wr:WA}{k:Nat}{f:Addr}{fd:FuncData}{ps:List Str}{sp:D6}{x:Str}{p pos:Pos}{z:Int}
theorem K5.snoc {K:Fg9}{H0 H:Hp}{r:R}{v:V} (h:D9 K H0 H r v):∀{rs:List R}{vs:List V},K5 K H0 H rs vs->K5 K H0 H (rs++[r]) (vs++[v])
 | [],vs,q=>by
  have q:vs=[]:=q
  subst q
  exact⟨v,[],rfl,h,rfl⟩
 | a::rs,vs,q=>by
  obtain⟨v',oU,rfl,h1,h2⟩:=q
  exact⟨v',oU++[v],rfl,h1,K5.snoc h h2⟩
def Z4h (z:Int) (sp:D6) (wr:WA):WE:=fun τ Q=>wr τ fun rs=>rs.all M4=true/\∃r,sp (rs.map nrm++[.st (.int z)]) r/\Q r
theorem DE.callO (F:O9 X.prog X.w X.K X.mg X.base K6 k f fd ps (Q2r X.K ((e::es).length+1) sp)) (hr:C9 k X.A) (hg:Gl X x) (hm:X.mg x=some (.ref f)) (hk:PySem.W.keepIn X.K (.ref f)=true) (hb:∃t,U2 X.K fd ps [.int z t])
  (ha:DA X H0 (e::es) wr) (ef:(x==("__debug__":Str))=false:=by decide) (he:starEach (e::es) X.env=(false,eval e X.env)::starEach es X.env:=by rfl) (hpl:(backTo pos (starEach es X.env)).any (·.1)=false:=by rfl) :
  DE X H0 (.Call (.Name x p) (e::es) [] pos) (Z4h z sp wr) where
 mono:=fun τ P Q f h=>ha.mono τ _ _ (fun rs ⟨ok,r,h1,h2⟩=>⟨ok,r,h1,f r h2⟩) h
 pe:=by
  obtain⟨t,hb⟩:=hb
  refine M7 (Z3a F hr hg hm hk hb (dvs:=[V.int z]) (.cons ⟨t,rfl⟩ .nil) Q8e ha.pa ef he hpl) fun σ H Q ⟨τ,hR,h⟩=>⟨τ,hR,ha.mono τ _ _ (fun rs ⟨jn,ok,r,h1,h2⟩ vs H1 s1 ck=>?_) (ha.len τ _ h)⟩
  refine⟨rs++[.st (.int z)],r,by rw [ay,jn];rfl,ck.v.snoc ?_,by rw [List.all_append,ok];rfl,by rw [aX];exact h1,fun v H' s2 ir=>h2 v H' (s1.trans s2) (ir.older s1)⟩
  exact A1.s_int (K:=X.K) (H:=H1)
@[simp] theorem W5y {τ:A8}{Q:R->Prop}:Z4h z sp wr τ Q=wr τ fun rs=>rs.all M4=true/\∃r,sp (rs.map nrm++[.st (.int z)]) r/\Q r:=rfl
end
section
variable {X:Cx}{H0:Hp}{o e:Expr}{wo we:WE}{apos bq:Pos}
theorem Z8r {K:Fg9}{H:Hp}:∀{ns:List Int}{xs:List V}{aU:List Value},AllS K H (ns.map D.int) xs->C0 xs aU->IntsAre aU ns
 | [],xs,aU,al,r=>by
  have e:xs=[]:=al
  subst e
  cases r
  exact .nil
 | n::ns,xs,aU,al,r=>by
  obtain⟨v,t,rfl,i,al⟩:=al
  cases r with
  | cons r1 r2 =>
   cases (show v=.int n from i)
   obtain⟨tk,rfl⟩:=r1
   exact .cons n tk (Z8r al r2)
theorem W0y:MtR X "list.index" (fun x vs H Q=>∃(l:Addr) (xs:List V) (ns:List Int) (k:Int),x=.ref l/\vs=[.int k]/\C6 X.K H l xs/\AllS X.K H (ns.map D.int) xs/\ns.length<=sizeLine/\k∈ns/\Q (.int ((ns.idxOf k:Nat):Int)) H):=by
 intro ac s σ H x vs v us Q I rx rv ⟨l,xs,ns,k,e1,e2,sq,al,hz,hk,q⟩
 subst e1 e2
 cases rx
 obtain⟨u,rfl,t',rfl⟩:=R1 rv
 obtain⟨aU,rv,pl,_⟩:=I.list sq
 have ii:=Z8r al rv
 obtain⟨⟨cls,dd,data,sl⟩,ho,hc,n,hd⟩:=id pl.isList
 simp only at hc hd
 subst hc hd
 have hl:=ii.length
 have hj:ns.idxOf k<ns.length:=aO.mpr hk
 have hb:sizeLine<2 ^ 62:=by decide
 refine call_meets PySem.F.slot_list_index ⟨_,ho,rfl⟩ PySem.F.entry_list_index (PySem.F.args_list_index_2 _ _) (PySem.SeqAt.list_indexAt l aU.toArray n dd sl _ (isInt k) (ns.idxOf k) (by simpa [hl]using hj) (by omega) ?_ ?_)
  ⟨ho,fun y hy=>(eq_isInt k t' ii y (by simpa using hy)).at _ _,.int _,H,I.tok _,⟨_,rfl⟩,q⟩
 ·show isInt k aU[ns.idxOf k]=true
  rw [isInt_at k ii _ (by omega) hj]
  simpa using cP hj
 ·intro j h1 h2
  show isInt k aU[j]=false
  rw [isInt_at k ii j (by simpa using h1) (by omega)]
  exact ne_of_lt_idxOf h2 _
def Q4t (wo we:WE):WE:=fun τ Q=>wo τ fun r1=>∃ns:List Int,r1=.st (.lst (ns.map .int))/\we τ fun r=>∃k,r=.st (.int k)/\ns.length<=sizeLine/\k∈ns/\Q (.st (.int ((ns.idxOf k:Nat):Int)))
theorem DE.lindex (ho:DE X H0 o wo) (he:DE X H0 e we) (dM:attributeBase o "index" X.env (eval o X.env)=eval o X.env:=by rfl)
  (fB:((backTo bq (starEach [e] X.env)).all (fun x=>!x.1)&&(backToKw bq (keywordEach [] X.env)).all (fun x=>x.1.isSome)&&decide ([e].length+([]:List Keyword).length+(if ([]:List Keyword).isEmpty then 0 else 1)<30))=true:=by rfl)
  (dL:(apos.endLine==bq.line)=true:=by rfl) (hs:starEach [e] X.env=(false,eval e X.env)::starEach [] X.env:=by rfl) (db:(backTo bq (starEach [] X.env)).any (·.1)=false:=by rfl) :
  DE X H0 (.Call (.Attribute o "index" apos) [e] [] bq) (Q4t wo we) where
 mono:=fun τ P Q f h=>ho.mono τ _ _ (fun r ⟨x,e1,h⟩=>⟨x,e1,he.mono τ _ _ (fun r ⟨y,a1,a2,a3,a4⟩=>⟨y,a1,a2,a3,f _ a4⟩) h⟩) h
 pe:=M7 (Z2z PySem.F.plainAttrs_list PySem.F.slot_list_index PySem.F.type_list_index W0y ho.pe (Q1b he.pe Q2z hs) dM fB dL hs db) fun σ H Q ⟨τ,hR,h⟩=>⟨τ,hR,ho.mono τ _ _ (fun r ⟨x,e1,h⟩ v H1 s1 ir=>by
  subst e1
  have ir:A1 X.K H1 (.lst (x.map D.int)) v:=ir
  unfold A1 at ir
  obtain⟨l,xs,rfl,sq,al⟩:=ir
  refine⟨.inl ⟨rfl,xs,sq.sq⟩,τ,hR.mono s1,he.mono τ _ _ (fun r ⟨y,a1,a2,a3,a4⟩ u H2 s2 iu=>?_) h⟩
  subst a1
  cases (show u=.int y from iu)
  exact⟨l,xs,x,y,rfl,rfl,((Kp.of s2).fzL sq).sq,al.mono (Kp.of s2) _ _,a2,a3,a4 _ _ (s1.trans s2) U7⟩) h⟩
@[simp] theorem W6q {τ:A8}{Q:R->Prop}:Q4t wo we τ Q=wo τ fun r1=>∃ns:List Int,r1=.st (.lst (ns.map .int))/\we τ fun r=>∃k,r=.st (.int k)/\ns.length<=sizeLine/\k∈ns/\Q (.st (.int ((ns.idxOf k:Nat):Int))):=rfl
end
section
variable {X:Cx}{H0:Hp}{e a:Expr}{es:List Expr}{wr:WA}{wa:WE}{k l:Nat}{f:Addr}{fd:FuncData}{ps:List Str}{x:Str}{p pos:Pos}{ts:List Addr}{st:Stmt}
theorem DE.cl {sp:D6} (F:O9 X.prog X.w X.K X.mg X.base K6 l f fd ps (Q2r X.K (e::es).length sp)) (hr:C9 k X.A) (D:Df X.K X.mg x st ps f fd) (ha:DA X H0 (e::es) wr) (hl:l<=k:=by decide) (hg:Gl X x:=by rfl)
  (ef:(x==("__debug__":Str))=false:=by decide) (he:starEach (e::es) X.env=(false,eval e X.env)::starEach es X.env:=by rfl) (hpl:(backTo pos (starEach es X.env)).any (·.1)=false:=by rfl) :
  DE X H0 (.Call (.Name x p) (e::es) [] pos) (O5 sp wr):=DE.call F (hr.mono hl) hg D.m D.k D.b ha ef he hpl
theorem DE.clP {sp:O8} (mf:Q1g sp) (F:O9 X.prog X.w X.K X.mg X.base K6 l f fd ps (Q4b X.K ts (e::es).length sp)) (hr:C9 k X.A) (hT:Q5b ts H0) (D:Df X.K X.mg x st ps f fd) (ha:DA X H0 (e::es) wr) (hl:l<=k:=by decide) (hg:Gl X x:=by rfl)
  (ef:(x==("__debug__":Str))=false:=by decide) (he:starEach (e::es) X.env=(false,eval e X.env)::starEach es X.env:=by rfl) (hpl:(backTo pos (starEach es X.env)).any (·.1)=false:=by rfl) :
  DE X H0 (.Call (.Name x p) (e::es) [] pos) (W8 sp wr):=DE.callP mf F (hr.mono hl) hT hg D.m D.k D.b ha ef he hpl
theorem DE.v (i:Nat) (hN:X.N[i]?=some x:=by rfl) (hv:Vis X.env.scope x:=by first | exact Or.inl rfl | exact Or.inr (Or.inl rfl) | exact Or.inr (Or.inr rfl)) (hd:(x==("__debug__":Str))=false:=by decide)
  (eg:(x==("__classdict__":Str))=false:=by decide):DE X H0 (.Name x pos) (wV i):=DE.var (pv i hN hv hd eg)
theorem DA.one (ha:DE X H0 a wa) (hs:starEach [a] X.env=(false,eval a X.env)::starEach [] X.env:=by rfl):DA X H0 [a] (A2 wa A4):=DA.cons ha DA.nil hs
theorem DS.sv (i:Nat) (he:DE X H0 e wa) (hN:X.N.Nodup) (hi:X.N[i]?=some x:=by rfl) (hx:Loc X.env.scope x:=by first | exact Or.inl rfl | exact Or.inr rfl) (hs:swapsWith e (some (.Name x p)) pos.line X.env=pure false:=by rfl)
  (hf:X.fn x=true\/X.env.scope.names.lookup x=some .local:=by first | exact .inl rfl | exact .inr rfl | assumption):DS X H0 (.Assign [.Name x p] e pos) (C5 i wa):=DS.set he hN hi hx hs hf
noncomputable def scB (N P:List Str) (sc:Scope):Bool:=decide (sc.kind=.function)&&!sc.isCoroutine&&!sc.isGenerator&&decide N.Nodup&&decide (N.take P.length=P)&&P.all (fun x=>decide (sc.names.lookup x=some .local)||decide (sc.names.lookup x=some .cell))&&sc.names.all (fun y=>decide (y.2≠.free))
theorem Q9 {N P:List Str}{sc:Scope} (h:scB N P sc=true):J5 N P sc:=by
 unfold scB at h
 simp only [cj,fF,cb,Bool.or_eq_true,Bool.not_eq_true']at h
 obtain⟨⟨⟨⟨⟨⟨h1,h2⟩,h3⟩,h4⟩,h5⟩,h6⟩,h7⟩:=h
 exact⟨h1,h2,h3,h4,h5,h6,h7⟩
theorem Y6a:bootBuiltins "len"=some (.builtin "len"):=by decide +kernel
theorem Y6b:bootBuiltins "tuple"=some (.type "tuple"):=by decide +kernel
theorem DE.len (hm:X.mg "len"=none) (ha:DE X H0 a wa) (hg:Gl X "len":=by rfl) (hs:starEach [a] X.env=(false,eval a X.env)::starEach [] X.env:=by rfl) (hpl:(backTo pos (starEach [] X.env)).any (·.1)=false:=by rfl):DE X H0 (.Call (.Name "len" p) [a] [] pos) (C7 G2 (A2 wa A4)) :=
 DE.callB Y6j Y9p hg hm Y6a (DA.cons ha DA.nil hs) (he:=hs) (hpl:=hpl)
theorem DE.tpl (hm:X.mg "tuple"=none) (ha:DE X H0 a wa) (hg:Gl X "tuple":=by rfl) (hs:starEach [a] X.env=(false,eval a X.env)::starEach [] X.env:=by rfl) (hpl:(backTo pos (starEach [] X.env)).any (·.1)=false:=by rfl):DE X H0 (.Call (.Name "tuple" p) [a] [] pos) (C7 O4 (A2 wa A4)) :=
 DE.callTy Y6q W8l hg hm Y6b (DA.cons ha DA.nil hs) (he:=hs) (hpl:=hpl)
end
def Hr (K:Fg9) (n:Str) (st:Stmt) (f:Addr) (fd:FuncData):Prop:=PySem.W.nsIn K mainGlobals n=some (some (.ref f))/\Fun K n n st f fd
def HrC (K:Fg9) (n:Str) (st:Stmt) (f:Addr) (fd:FuncData) (c Pt:Addr) (ts:List Addr):Prop:=PySem.W.nsIn K mainGlobals n=some (some (.ref f))/\PySem.W.keepIn K (.ref f)=true /\
 (∃(oc:Value) (od:Option Addr) (kV cr pm:Value) (an:Option Addr) (ct:Value) (dq:Array (Option Value)),fd=PySem.W.fnOf n n (T7 st) (M5 st) (C1 st) .none kV cr pm an (.ref c) ct/\K.lookup f=some ⟨oc,od,.func fd,dq⟩/\PySem.W.codeIn K (.ref c) n=true) /\
 (∃(vo:Value) (vd:Option Addr) (vv:Array Value) (vs:Array (Option Value)),K.lookup c=some ⟨vo,vd,.fields vv,vs⟩/\vv[11]?=some (.ref Pt))/\PySem.W.codeHdIn K c Pt=true/\K.lookup Pt=none/\Pt∈ts
section
variable {K:Fg9}{h:Heap}{mg:Str->Option Value}{n:Str}{st:Stmt}{f c Pt:Addr}{fd:FuncData}{ts:List Addr}{ps:List Str}
theorem S8 {oc:Value}{od an:Option Addr}{dq:Array (Option Value)}{kV cr pm cdv ct:Value} (a:PySem.W.nsIn K mainGlobals n=some (some (.ref f))) (l:K.lookup f=some ⟨oc,od,.func (PySem.W.fnOf n n (T7 st) (M5 st) (C1 st) .none kV cr pm an cdv ct),dq⟩) (q:PySem.W.codeIn K cdv n=true) (k:PySem.W.keepIn K (.ref f)=true) :
  Hr K n st f (PySem.W.fnOf n n (T7 st) (M5 st) (C1 st) .none kV cr pm an cdv ct):=⟨a,Y7u l q k⟩
theorem Y8a {oc vo:Value}{od an vd:Option Addr}{dq vs:Array (Option Value)}{kV cr pm ct:Value}{vv:Array Value} (a:PySem.W.nsIn K mainGlobals n=some (some (.ref f))) (l:K.lookup f=some ⟨oc,od,.func (PySem.W.fnOf n n (T7 st) (M5 st) (C1 st) .none kV cr pm an (.ref c) ct),dq⟩) (q:PySem.W.codeIn K (.ref c) n=true) (k:PySem.W.keepIn K (.ref f)=true)
  (v:K.lookup c=some ⟨vo,vd,.fields vv,vs⟩) (p:vv[11]?=some (.ref Pt)) (e:PySem.W.codeHdIn K c Pt=true) (o:K.lookup Pt=none) (m:Pt∈ts):HrC K n st f (PySem.W.fnOf n n (T7 st) (M5 st) (C1 st) .none kV cr pm an (.ref c) ct) c Pt ts :=
 ⟨a,k,⟨_,_,_,_,_,_,_,_,rfl,l,q⟩,⟨_,_,_,_,v,p⟩,e,o,m⟩
theorem Hr.df (H:Hr K n st f fd) (X:K.In h) (G:h.Ns mainGlobals mg) (hb:∀(kV cr pm:Value) (an:Option Addr) (cdv ct:Value) (us:List Value),us.length=ps.length->bindArgs (PySem.W.fnOf n n (T7 st) (M5 st) (C1 st) .none kV cr pm an cdv ct) ⟨us,[]⟩=pure (ps.zip us)):Df K mg n st ps f fd :=
 ⟨H.2,H.2.binds hb,H.2.kp,PySem.W.mg_of X G H.1⟩
theorem HrC.hr (H:HrC K n st f fd c Pt ts):Hr K n st f fd:=let ⟨a,k,⟨oc,od,kV,cr,pm,an,ct,dq,e,l,q⟩,_⟩:=H;⟨a,⟨oc,od,kV,cr,pm,an,_,ct,dq,e,l,q⟩,k⟩
theorem HrC.fc (H:HrC K n st f fd c Pt ts):Q4v K n n st f fd c Pt:=let ⟨_,_,e,_,q,_⟩:=H;⟨e,q⟩
theorem HrC.tb (H:HrC K n st f fd c Pt ts):Pt∈ts:=let ⟨_,_,_,_,_,_,m⟩:=H;m
theorem HrC.at (H:HrC K n st f fd c Pt ts):(∃c,PySem.W.codeHdIn K c Pt=true)/\K.lookup Pt=none:=let ⟨_,_,_,_,q,n,_⟩:=H;⟨⟨_,q⟩,n⟩
end
def HrO (K:Fg9) (n:Str) (st:Stmt) (z:Int) (f:Addr) (fd:FuncData):Prop:=PySem.W.nsIn K mainGlobals n=some (some (.ref f))/\PySem.W.keepIn K (.ref f)=true /\
 ∃(oc:Value) (od:Option Addr) (kV cr pm:Value) (an:Option Addr) (cdv ct:Value) (dq:Array (Option Value)) (dT:Addr) (dC:Value) (dD:Option Addr) (dN:Nat) (dS:Array (Option Value)) (t:Tok),
  fd=PySem.W.fnOf n n (T7 st) (M5 st) (C1 st) (.ref dT) kV cr pm an cdv ct/\K.lookup f=some ⟨oc,od,.func fd,dq⟩/\PySem.W.codeIn K cdv n=true/\K.lookup dT=some ⟨dC,dD,.seq #[.int z t] dN,dS⟩
section
variable {K:Fg9}{h:Heap}{mg:Str->Option Value}{n:Str}{st:Stmt}{f:Addr}{fd:FuncData}{ps:List Str}{z:Int}
theorem Y8b {oc:Value}{od an:Option Addr}{dq:Array (Option Value)}{kV cr pm cdv ct:Value}{dT:Addr}{dC:Value}{dD:Option Addr}{dN:Nat}{dS:Array (Option Value)}{t:Tok} (a:PySem.W.nsIn K mainGlobals n=some (some (.ref f)))
  (l:K.lookup f=some ⟨oc,od,.func (PySem.W.fnOf n n (T7 st) (M5 st) (C1 st) (.ref dT) kV cr pm an cdv ct),dq⟩) (q:PySem.W.codeIn K cdv n=true) (k:PySem.W.keepIn K (.ref f)=true) (d:K.lookup dT=some ⟨dC,dD,.seq #[.int z t] dN,dS⟩) :
  HrO K n st z f (PySem.W.fnOf n n (T7 st) (M5 st) (C1 st) (.ref dT) kV cr pm an cdv ct):=⟨a,k,_,_,_,_,_,_,_,_,_,_,_,_,_,_,_,rfl,l,q,d⟩
theorem HrO.df (H:HrO K n st z f fd) (X:K.In h) (G:h.Ns mainGlobals mg)
  (hb:∀(kV cr pm:Value) (an:Option Addr) (cdv ct:Value) (dT:Addr) (dC:Value) (dD:Option Addr) (dN:Nat) (dS:Array (Option Value)) (t:Tok),K.lookup dT=some ⟨dC,dD,.seq #[.int z t] dN,dS⟩->U2 K (PySem.W.fnOf n n (T7 st) (M5 st) (C1 st) (.ref dT) kV cr pm an cdv ct) ps [.int z t]):DfO K mg n st ps z f fd:=by
 obtain⟨a,k,oc,od,kV,cr,pm,an,cdv,ct,dq,dT,dC,dD,dN,dS,t,rfl,l,q,d⟩:=H
 exact⟨⟨⟨_,_,_,_,_,_,_,_,_,_,rfl,l,q⟩⟩,⟨t,hb _ _ _ _ _ _ _ _ _ _ _ _ d⟩,k,PySem.W.mg_of X G a⟩
end
end TK
end
section
namespace MC
open PySem PySem.Spec PyProof.Rows L2 TK
section
variable {α:Type} [DecidableEq α]
noncomputable def M9 (ks:List α) (g:α):List α:=if g∈ks then ks else ks++[g]
theorem Z6i {ks:List α}{g:α} (h:g∈ks):M9 ks g=ks:=aE h
theorem Z6j {ks:List α}{g:α} (h:g∉ks):M9 ks g=ks++[g]:=aC h
theorem Y5s (ks:List α) (g:α):ks <+: M9 ks g:=by
 unfold M9;split
 ·exact c9 _
 ·exact List.prefix_append _ _
theorem Z2k {ks:List α}{g x:α}:x∈M9 ks g ↔ x∈ks\/x=g:=by
 unfold M9;split
 ·constructor
  ·exact .inl
  ·rintro (h | rfl) <;> assumption
 ·rw [aR,aN]
theorem W0z {ks:List α}{g:α} (h:ks.Nodup):(M9 ks g).Nodup:=by
 unfold M9;split
 ·exact h
 ·rename_i n
  exact bS.mpr ⟨h,by simp,fun a ha b hb=>by
   rw [aN]at hb;rintro rfl;exact n (hb ▸ ha)⟩
theorem Z1q {ks ls:List α}{g:α} (p:ks <+: ls) (h:g∈ks):ls.idxOf g=ks.idxOf g:=by
 obtain⟨t,rfl⟩:=p
 rw [List.idxOf_append,aE h]
noncomputable def G5 (st:Nat->α):List Nat->List α->List Nat->List α×List Nat
 | [],ks,r=>(ks,r)
 | c::cs,ks,r=>G5 st cs (M9 ks (st c)) (r++[(M9 ks (st c)).idxOf (st c)])
theorem Q4i (st:Nat->α):∀(cs:List Nat) (ks:List α) (r:List Nat),ks <+: (G5 st cs ks r).1
 | [],ks,r=>c9 _
 | c::cs,ks,r=>(Y5s ks (st c)).trans (Q4i st cs _ _)
theorem Y1w (st:Nat->α):∀(cs:List Nat) (ks:List α) (r:List Nat),ks.Nodup->(G5 st cs ks r).1.Nodup
 | [],ks,r,h=>h
 | c::cs,ks,r,h=>Y1w st cs _ _ (W0z h)
theorem Z2n (st:Nat->α) {x:α}:∀(cs:List Nat) (ks:List α) (r:List Nat),x∈(G5 st cs ks r).1 ↔ x∈ks\/∃c∈cs,x=st c
 | [],ks,r=>by simp [G5]
 | c::cs,ks,r=>by
  rw [G5,Z2n st cs,Z2k]
  simp [or_assoc]
theorem Q8j (st:Nat->α):∀(cs:List Nat) (ks:List α) (r:List Nat),(G5 st cs ks r).2=r++cs.map fun c=>(G5 st cs ks r).1.idxOf (st c)
 | [],ks,r=>by simp [G5]
 | c::cs,ks,r=>by
  have h:=Q8j st cs (M9 ks (st c)) (r++[(M9 ks (st c)).idxOf (st c)])
  have e:=Z1q (Q4i st cs (M9 ks (st c)) (r++[(M9 ks (st c)).idxOf (st c)])) (Z2k.mpr (.inr rfl):st c∈M9 ks (st c))
  rw [G5,h,ak,e,bz]
  rfl
noncomputable abbrev B6:List Nat:=[0,1,2,3]
noncomputable def Q0 (step:α->Nat->α):Nat->List α->List (List Nat)->List α×List (List Nat)
 | 0,ks,rs=>(ks,rs)
 | n+1,ks,rs=>match ks[rs.length]? with
  | none=>(ks,rs)
  | some k=>Q0 step n (G5 (step k) B6 ks []).1 (rs++[(G5 (step k) B6 ks []).2])
structure X9 (step:α->Nat->α) (start:α) (U:List α) (ks:List α) (rs:List (List Nat)):Prop where
 nd:ks.Nodup
 zero:ks[0]?=some start
 sub:∀k∈ks,k∈U
 len:rs.length<=ks.length
 row:∀(i:Nat) (r:List Nat),rs[i]?=some r->∃k,ks[i]?=some k/\(∀c∈B6,step k c∈ks)/\r=B6.map fun c=>ks.idxOf (step k c)
theorem X9.start {step:α->Nat->α}{start:α}{U:List α} (h:start∈U):X9 step start U [start] [] :=
 ⟨by simp,rfl,fun k hk=>by rw [aN]at hk;exact hk ▸ h,by simp,fun i r e=>by simp at e⟩
theorem X9.next {step:α->Nat->α}{start k:α}{U:List α}{ks:List α}{rs:List (List Nat)} (hU:∀k∈U,∀c∈B6,step k c∈U) (W:X9 step start U ks rs) (hk:ks[rs.length]?=some k) :
  X9 step start U (G5 (step k) B6 ks []).1 (rs++[(G5 (step k) B6 ks []).2]):=by
 have p:=Q4i (step k) B6 ks []
 have kin:k∈ks:=aD hk
 have get:∀{i:Nat}{x:α},ks[i]?=some x->(G5 (step k) B6 ks []).1[i]?=some x:=fun {i x} e=>by
  obtain⟨t,ht⟩:=p
  rw [<- ht,aH]
  ·exact e
  ·obtain⟨h,_⟩:=aI.mp e;exact h
 have lt:rs.length<ks.length:=by obtain⟨h,_⟩:=aI.mp hk;exact h
 refine⟨Y1w _ _ _ _ W.nd,get W.zero,fun x hx=>?_,?_,fun i r e=>?_⟩
 ·rcases (Z2n _ _ _ _).mp hx with h | ⟨c,hc,rfl⟩
  ·exact W.sub x h
  ·exact hU k (W.sub k kin) c hc
 ·rw [ay,bJ]
  exact aT lt p.length_le
 ·rcases bE i rs.length with h | h
  ·rw [aH h]at e
   obtain⟨k',e1,e2,e3⟩:=W.row i r e
   refine⟨k',get e1,fun c hc=>p.subset (e2 c hc),?_⟩
   rw [e3]
   exact bc fun c hc=>(Z1q p (e2 c hc)).symm
  ·rw [aS h]at e
   have:i-rs.length=0:=by
    rcases Nat.eq_zero_or_pos (i-rs.length)with z | z
    ·exact z
    ·rw [aJ.mpr (by simp;omega)]at e;cases e
   rw [this]at e
   have e:(G5 (step k) B6 ks []).2=r:=aB e
   refine⟨k,get (by rw [show i=rs.length by omega];exact hk),fun c hc=>(Z2n _ _ _ _).mpr (.inr ⟨c,hc,rfl⟩),?_⟩
   rw [<- e,Q8j,bM]
theorem X9.bound {step:α->Nat->α}{start:α}{U:List α}{ks:List α}{rs:List (List Nat)} (W:X9 step start U ks rs):ks.length<=U.length:=W.nd.length_le_of_subset fun x hx=>W.sub x hx
theorem Y4q {step:α->Nat->α}{start:α}{U:List α} (hU:∀k∈U,∀c∈B6,step k c∈U):∀(n:Nat) (ks:List α) (rs:List (List Nat)),X9 step start U ks rs->U.length<=n+rs.length ->
  X9 step start U (Q0 step n ks rs).1 (Q0 step n ks rs).2/\(Q0 step n ks rs).2.length=(Q0 step n ks rs).1.length
 | 0,ks,rs,W,h=>⟨W,by have:=W.bound;have:=W.len;simp [Q0];omega⟩
 | n+1,ks,rs,W,h=>by
  unfold Q0
  split
  ·rename_i e
   have:=aJ.mp e
   exact⟨W,by have:=W.len;simp;omega⟩
  ·rename_i k e
   exact Y4q hU n _ _ (W.next hU e) (by simp;omega)
structure Z6d (step:α->Nat->α) (start:α) (U ks:List α) (rs:List (List Nat)):Prop where
 nd:ks.Nodup
 zero:ks[0]?=some start
 sub:∀k∈ks,k∈U
 len:rs.length=ks.length
 mem:∀k∈ks,∀c∈B6,step k c∈ks
 row:∀(i:Nat) (k:α),ks[i]?=some k->rs[i]?=some (B6.map fun c=>ks.idxOf (step k c))
noncomputable def Q1d (N:Nat) (step:α->Nat->α) (start:α):List α×List (List Nat):=Q0 step N [start] []
theorem W8z {step:α->Nat->α}{start:α}{U:List α}{N:Nat} (hU:∀k∈U,∀c∈B6,step k c∈U) (hs:start∈U) (hN:U.length<=N):Z6d step start U (Q1d N step start).1 (Q1d N step start).2:=by
 unfold Q1d
 obtain⟨W,e⟩:=Y4q hU N [start] [] (X9.start hs) (by simpa using hN)
 refine⟨W.nd,W.zero,W.sub,e,fun k hk c hc=>?_,fun i k hk=>?_⟩
 ·obtain⟨i,hi,rfl⟩:=bX.mp hk
  have fY:i<(Q0 step N [start] []).2.length:=by rw [e];exact hi
  obtain⟨k',e1,e2,_⟩:=W.row i _ (ae fY)
  rw [ae hi]at e1
  cases e1
  exact e2 c hc
 ·obtain⟨hi,rfl⟩:=aI.mp hk
  have fY:i<(Q0 step N [start] []).2.length:=by rw [e];exact hi
  obtain⟨k',e1,_,e3⟩:=W.row i _ (ae fY)
  have fm:(Q0 step N [start] []).1[i]?=some k':=e1
  rw [ae hi]at fm
  cases fm
  rw [ae fY,e3]
section
variable {κ:Type} [DecidableEq κ] {key:α->κ}
noncomputable def kvm (key:α->κ) (L:List (α×D)):List (κ×D):=L.map fun p=>(key p.1,p.2)
theorem Q5p (inj:∀a b,key a=key b->a=b) (L:List (α×D)) (g:α):D5 (kvm key L) (key g)=D5 L g:=by
 induction L with
 | nil=>rfl
 | cons p L ih =>
  unfold D5 kvm at ih ⊢
  rw [ak,b8,b8]
  by_cases h:p.1=g
  ·have:key p.1=key g:=by rw [h]
   simp [h]
  ·have:¬ key p.1=key g:=fun z=>h (inj _ _ z)
   simp only [h,this,decide_false]
   exact ih
theorem Y4l {L:List (α×D)}{g:α}:D5 L g=none ↔ g∉L.map (·.1):=by
 unfold D5
 rw [Option.map_eq_none_iff,List.find?_eq_none]
 simp only [am,not_exists,fF]
 constructor
 ·rintro h x ⟨hx,rfl⟩;exact h x hx rfl
 ·rintro h x hx rfl;exact h x ⟨hx,rfl⟩
theorem Y4k {L:List (α×D)}{g:α}:(D5 L g).isSome=decide (g∈L.map (·.1)):=by
 by_cases h:g∈L.map (·.1)
 ·rw [cu h]
  cases e:D5 L g with
  | none=>exact absurd h (Y4l.mp e)
  | some d=>rfl
 ·rw [aM h,Y4l.mpr h];rfl
theorem Z9g (inj:∀a b,key a=key b->a=b) {L:List (α×D)}{g:α} (h:g∉L.map (·.1)) (d:D):M8 (kvm key L) (key g) d=kvm key (L++[(g,d)]):=by
 unfold M8
 rw [aC]
 ·simp [kvm]
 ·intro z
  rw [gg]at z
  obtain⟨x,hx,e⟩:=z
  obtain⟨p,hp,rfl⟩:=am.mp hx
  exact h (am.mpr ⟨p,hp,inj _ _ (fE e)⟩)
theorem W8w {L:List (α×D)} (nd:(L.map (·.1)).Nodup) {g:α}{d:D} (h:(g,d)∈L):D5 L g=some d:=by
 induction L with
 | nil=>cases h
 | cons p L ih =>
  rw [ak,bB]at nd
  unfold D5 at ih ⊢
  rw [b8]
  rcases aj.mp h with rfl | h
  ·simp
  ·have:¬ p.1=g:=fun z=>nd.1 (z ▸ am.mpr ⟨_,h,rfl⟩)
   simp only [this,decide_false]
   exact ih nd.2 h
noncomputable def U0 (ks:List α):List (α×D):=ks.zipIdx.map fun p=>(p.1,D.int (p.2:Int))
theorem Y0n (ks:List α):(U0 ks).map (·.1)=ks:=by
 unfold U0
 rw [aK]
 exact List.zipIdx_map_fst 0 ks
theorem W1g (ks:List α) (g:α):U0 (ks++[g])=U0 ks++[(g,D.int (ks.length:Int))]:=by
 unfold U0
 rw [List.zipIdx_append]
 simp
theorem Y0o {ks:List α}{g:α} (h:g∈ks):D5 (U0 ks) g=some (.int (ks.idxOf g:Nat)):=by
 have key:∀(ks:List α) (n:Nat),g∈ks->D5 (ks.zipIdx n |>.map fun p=>(p.1,D.int (p.2:Int))) g=some (.int ((n+ks.idxOf g:Nat):Int)):=by
  intro ks
  induction ks with
  | nil=>intro n h;cases h
  | cons k ks ih =>
   intro n h
   unfold D5 at ih ⊢
   rw [bQ,ak,b8]
   by_cases e:k=g
   ·subst e;simp
   ·have hg:g∈ks:=by
     rcases aj.mp h with z | z
     ·exact absurd z.symm e
     ·exact z
    simp only [e,decide_false]
    rw [ih (n+1) hg,List.idxOf_cons]
    have e':(k==g)=false:=by simp [e]
    rw [e']
    simp
    omega
 have:=key ks 0 h
 rw [cB]at this
 exact this
end
end
abbrev Y5n:List Str:=["start","step","keys","numbers","rows","key","row","column","goal"]
abbrev Y5o:List Str:=["start","step","keys","numbers","rows","key","row","column","goal"]
def Z5o (jz:FCT)  :WS:=(B7 (C5 2 (M3 (A2 (A9 (wV 0)) A4))) (B7 (Z4q 3 (wV 0) (wC (.int 0))) (B7 (C5 4 (M3 A4)) (B7 (Q6n 2 (Q9s (A3 (S7 fun i j=>decide (i<j)) (C7 G2 (A2 (wV 4) A4)) (C7 G2 (A2 (wV 2) A4))) (B7 (C5 5 (A3 B4 (wV 2) (C7 G2 (A2 (wV 4) A4)))) (B7 (C5 6 (M3 A4)) (B7 (L6 (W0 (A2 (C7 G2 (A2 (wC (.str "01ab")) A4)) A4)) (B0 7) (B7 (C5 8 (Q9j jz 2 1 (A2 (wV 5) (A2 (wV 7) A4)))) (B7 (V3 (Q4r 3 (wV 8)) (B7 (Q4s 3 (wV 8) (C7 G2 (A2 (wV 2) A4))) (S5 2 (A9 (wV 8)))) V4) (S5 6 (A9 (Q4q 3 (wV 8))))))) (S5 4 (A9 (C7 O4 (A2 (wV 6) A4))))))))) (O6 (T4 (A2 (A9 (wV 2)) (A2 (A9 (C7 O4 (A2 (wV 4) A4))) A4))))))))
abbrev Z0c:List Str:=["some","onward","reached","states","place","state","goal"]
def Z4x   (K:Fg9) :WS:=(B7 (Z4o 2 1 [] (Q5m (wV 0)) (B0 0) (wV 0) (A9 (wC (.int 0)))) (B7 (C5 3 (C7 Q2t (A2 (wV 2) A4))) (B7 (C5 4 (wC (.int 0))) (B7 (Q9s (A3 (S7 fun i j=>decide (i<j)) (wV 4) (C7 G2 (A2 (wV 3) A4))) (B7 (C5 5 (A3 B4 (wV 3) (wV 4))) (B7 (L6 (Q0f (A9 (A3 B4 (wV 1) (wV 5)))) (B0 6) (V3 (Q4r 2 (wV 6)) (B7 (Q4s 2 (wV 6) (A3 F2 (Q4q 2 (wV 5)) (wC (.int 1)))) (S5 3 (A9 (wV 6)))) V4)) (Q9h 4 (J8 NoC fun i j=>i+j) (wC (.int 1)))))) (Z4u K 2)))))
abbrev Q4z:List Str:=["ends","rows","wanted","backward","state","row","goal","reached"]
def Z4y   (K:Fg9) (sp_all_reached:O8):WS:=(B7 (Z4r 3 1 [] (Q3w (wV 1)) (B0 0) (M3 A4)) (B7 (Z4m 3 (L6 (Z1p (A2 (wV 1) A4)) (N7 2 (E6 (B0 4) (E6 (B0 5) O2))) (L6 (Q3u (wV 5)) (B0 6) (Q6o 3 (wV 6) (A9 (wV 4)))))) (B7 (Z4v 7 (W8 sp_all_reached (A2 (M0 2 [2] (Q2o (A2 (wV 0) A4)) (N7 2 (E6 (B0 0) (E6 (B0 1) O2))) (A3 (K2 60 false) (wV 1) (wV 2)) (A9 (wV 0))) (A2 (wV 3) A4)))) (O6 (M0 1 [7] (Q2p (A2 (C7 G2 (A2 (wV 0) A4)) A4)) (B0 0) P9 (A9 (Z4k K 1 (wV 0))))))))
abbrev Z0h:List Str:=["marks","numbers"]
noncomputable def Z5l  :WS:=(Z4t 1 (Q5m (wV 0)))
abbrev Z0i:List Str:=["ends","rows","blocks","many"]
def Z5n   (sp_numbered:D6) (sp_distances:O8):WS:=(B7 (C5 2 (A9 (O5 sp_numbered (A2 (Z4s (A2 (W8 sp_distances (A2 (wV 0) (A2 (wV 1) (A2 (wC (.bl true)) A4)))) (A2 (W8 sp_distances (A2 (wV 0) (A2 (wV 1) (A2 (wC (.bl false)) A4)))) A4))) A4)))) (B7 (C5 3 (wC (.int 0))) (B7 (Q9s (A3 (S7 fun i j=>decide (j<=i)) (C7 Q0j (A2 (wV 2) A4)) (wV 3)) (B7 (C5 3 (A3 F2 (C7 Q0j (A2 (wV 2) A4)) (wC (.int 1)))) (C5 2 (A9 (O5 sp_numbered (A2 (M0 2 [2] (Q7r (A2 (wV 2) (A2 (wV 1) A4))) (N7 2 (E6 (B0 0) (E6 (B0 1) O2))) P9 (A9 (T4 (A2 (A9 (wV 0)) (A2 (A9 (C7 O4 (A2 (M0 1 [2] (Q3w (wV 1)) (B0 0) P9 (A9 (A3 B4 (wV 1) (wV 0)))) A4))) A4))))) A4)))))) (Q6p 2))))
abbrev Z0g:List Str:=["ends","rows","blocks","samples","state","block","keys","fewer_rows"]
def Q9u (K:Fg9):WE:=(A3 B4 (wV 4) (A3 B4 (A3 B4 (wV 3) (Q9l K 2 (wV 0))) (wV 1)))
def Z5j (jz:FCT)  (K:Fg9) (sp_told_apart:O8) (sp_walkedK:D6):WS:=(B7 (C5 2 (A9 (W8 sp_told_apart (A2 (wV 0) (A2 (wV 1) A4))))) (B7 (Z4p 3) (B7 (Z4l K 3 (L6 (Z1o (A2 (wV 2) A4)) (N7 2 (E6 (B0 4) (E6 (B0 5) O2))) (Q9n 3 (wV 5) (wV 4)))) (B7 (Q9g (Z4i jz 2 [("samples",3),("rows",1),("blocks",2)] (Q9u K) sp_walkedK (A3 B4 (wV 2) (wC (.int 0)))) (N7 2 (E6 (B0 6) (E6 (B0 7) O2)))) (O6 (T4 (A2 (A9 (C7 O4 (A2 (M0 1 [0,3] (Q5m (wV 6)) (B0 0) P9 (A9 (A3 B4 (wV 1) (Q9l K 2 (wV 0))))) A4))) (A2 (A9 (wV 7)) A4))))))))
abbrev Z5y:List Str:=["_law_script","_law_k"]
def Q9t  :WS:=(B7 (V3 (A3 (K2 60 false) (wV 0) (M3 A4)) (O6 (A3 W3 (wC (.int 7)) (wV 1))) V4) (O6 (A3 F2 (A3 B4 (wV 0) (A3 (J8 (fun _ j=>0<j) fun i j=>i % j) (wV 1) (C7 G2 (A2 (wV 0) A4)))) (A3 W3 (wC (.int 6553)) (A3 (J8 Q0a fun i j=>i / j) (wV 1) (C7 G2 (A2 (wV 0) A4)))))))
abbrev Z5z:List Str:=["_law_script","_law_k","_law_many","_law_cell_here"]
def Z5d  (ff:D6):WS:=(B7 (C5 3 (A3 (J8 (fun _ j=>0<j) fun i j=>i % j) (A3 F2 (A3 W3 (A3 (J8 (fun _ j=>0<j) fun i j=>i % j) (O5 ff (A2 (wV 0) (A2 (wV 1) A4))) (wC (.int 2147483563))) (wC (.int 69069))) (A3 W3 (wC (.int 104723)) (A3 F2 (wV 1) (wC (.int 1))))) (wC (.int 2147483563)))) (B7 (C5 3 (A3 (J8 (fun _ j=>0<j) fun i j=>i % j) (A3 F2 (A3 W3 (wV 3) (wV 3)) (A3 (J8 Q0a fun i j=>i / j) (wV 3) (wC (.int 3)))) (wC (.int 2147483399)))) (O6 (A3 (J8 (fun _ j=>0<j) fun i j=>i % j) (A3 (J8 Q0a fun i j=>i / j) (A3 (J8 (fun _ j=>0<j) fun i j=>i % j) (A3 F2 (A3 W3 (wV 3) (wV 3)) (A3 (J8 Q0a fun i j=>i / j) (wV 3) (wC (.int 7)))) (wC (.int 2147483647))) (wC (.int 11))) (wV 2)))))
abbrev Q6s:List Str:=["_law_script","_law_at","_law_most","_law_size","_law_ends","_law_rows","_law_k"]
def Z5f  (c7:D6):WS:=(B7 (C5 3 (A3 F2 (wC (.int 1)) (O5 c7 (A2 (wV 0) (A2 (wV 1) (A2 (wV 2) A4)))))) (B7 (C5 4 (C7 O4 (A2 (M0 1 [0,1] (Q2p (A2 (wV 3) A4)) (B0 0) P9 (A9 (wB (A3 (K2 60 false) (O5 c7 (A2 (wV 1) (A2 (A3 F2 (A3 F2 (wV 2) (wC (.int 1))) (wV 0)) (A2 (wC (.int 2)) A4)))) (wC (.int 0)))))) A4))) (B7 (C5 5 (M3 A4)) (B7 (L6 (W0 (A2 (wV 3) A4)) (B0 6) (S5 5 (A9 (C7 O4 (A2 (M0 1 [0,3,1,6] (Q2p (A2 (wC (.int 4)) A4)) (B0 0) P9 (A9 (O5 c7 (A2 (wV 1) (A2 (A3 F2 (A3 F2 (A3 F2 (wV 3) (wC (.int 7))) (A3 W3 (wC (.int 4)) (wV 4))) (wV 0)) (A2 (wV 2) A4)))))) A4))))) (O6 (T4 (A2 (A9 (wV 4)) (A2 (A9 (C7 O4 (A2 (wV 5) A4))) A4))))))))
noncomputable abbrev iD (n:Nat):D:=.int (n:Int)
noncomputable abbrev rD (r:List Nat):D:=.tup (r.map iD)
noncomputable abbrev rsD (rs:List (List Nat)):D:=.tup (rs.map rD)
theorem sz {n:Nat} (h:n<=1000000):n<=sizeLine:=aT h (by decide)
theorem szl {n:Nat} (h:n<=1000000):n<sizeLine:=Nat.lt_of_le_of_lt h (by decide)
theorem ixn {n j:Nat} (h:j<n):ixN n (j:Int)=some j:=by
 have:L3 (List.range n) (j:Int)=some j:=Y7 (by rw [ae (by simpa using h)];simp)
 unfold L3 at this
 rw [bo]at this
 cases e:ixN n (j:Int)with
 | none=>rw [e]at this;cases this
 | some k =>
  rw [e]at this
  have this:(List.range n)[k]?=some j:=this
  obtain⟨hk,e2⟩:=aI.mp this
  rw [<- e2,List.getElem_range]
section
variable {α:Type} [DecidableEq α] {FC:FCT}{f:Addr} {Φ:Hp->Prop}{sp:D6}{step:α->Nat->α}
section T
variable {ts:α->List D}{key:α->List A7}
theorem r4:J4 0 (Int.toNat ((Str.ofString "01ab").length:Int))=B6.map iD:=rfl
end T
end
section
variable {α:Type} [DecidableEq α] {FC:FCT}{f:Addr} {Φ:Hp->Prop}{sp:D6}{step:α->Nat->α}
section T
variable {en:α->D}{key:α->A7}
def wbK (jz:FCT):WS:=(B7 (C5 8 (Q9j jz 2 1 (A2 (wV 5) (A2 (wV 7) A4)))) (B7 (V3 (Q4r 3 (wV 8)) (B7 (Q4s 3 (wV 8) (C7 G2 (A2 (wV 2) A4))) (S5 2 (A9 (wV 8)))) V4) (S5 6 (A9 (Q4q 3 (wV 8))))))
theorem forK (hk:∀a,P5 (en a)=some (key a)) (inj:∀a b,key a=key b->a=b) (hF:FC 2 f Φ sp) {k:α}{E:F4}{o0 o4:Option Sl}:∀(cs:List Nat) (ks:List α) (r:List Nat) (o7 o8:Option Sl),
  (∀c∈cs,sp [.st ((en k)),.st (iD c)] (.st ((en (step k c)))))->ks.length+cs.length<=1000000->r.length+cs.length<=1000000 ->
  (∀o7 o8,E.nx [o0,some (.cl f Φ),some (.own ((G5 (step k) cs ks r).1.map fun a=>(en a))),some (.dk (kvm key (U0 (G5 (step k) cs ks r).1))),o4,some (.dat ((en k))),some (.own ((G5 (step k) cs ks r).2.map iD)),o7,o8]) ->
  C4 (B0 7) (wbK FC) E (cs.map iD) [o0,some (.cl f Φ),some (.own (ks.map fun a=>(en a))),some (.dk (kvm key (U0 ks))),o4,some (.dat ((en k))),some (.own (r.map iD)),o7,o8]
 | [],ks,r,o7,o8,_,_,_,h=>h o7 o8
 | c::cs,ks,r,o7,o8,hs,h1,h2,h=>by
  rw [aA]at h1 h2
  have pZ:=hs c ao
  have ih:=fun iN r'=>forK hk inj hF (k:=k) (E:=E) (o0:=o0) (o4:=o4) cs iN r'
  simp only [ak,C4]
  have hv:=Q5p inj (U0 ks) (step k c)
  have hi:(D5 (kvm key (U0 ks)) (key (step k c))).isSome=decide (step k c∈ks):=by rw [hv,Y4k,Y0n]
  simp only [wbK,L5,L9,P8,W5x,D8,C3,D4,Q2a,Y2k,Y2l,Q1u,E9,Q3a,Y2j,K9]
  refine⟨f,Φ,sp,rfl,hF,.dat ((en k)),rfl,.dat (iD c),rfl,rfl,_,pZ,?_⟩
  simp only [T2]
  refine⟨_,rfl,_,rfl,en (step k c),key (step k c),rfl,hk _,?_⟩
  rw [hi]
  by_cases hm:step k c∈ks
  ·have ea:M9 ks (step k c)=ks:=Z6i hm
   rw [aC (by simp [hm])]
   refine⟨_,rfl,_,rfl,_,rfl,en (step k c),key (step k c),_,rfl,hk _,by rw [hv];exact Y0o hm,_,rfl,szl (by simp;omega),?_⟩
   have e:(r.map iD++[D.int ((ks.idxOf (step k c):Nat):Int)])=(r++[ks.idxOf (step k c)]).map iD:=by simp
   show C4 _ _ _ _ [_,_,_,_,_,_,some (.own (r.map iD++[_])),_,_]
   rw [e]
   refine ih ks _ _ _ (fun c hc=>hs c (av _ hc)) (by omega) (by simp;omega) ?_
   simpa only [G5,ea]using h
  ·have ea:M9 ks (step k c)=ks++[step k c]:=Z6j hm
   rw [aE (by simp [hm])]
   refine⟨_,rfl,_,rfl,_,rfl,_,rfl,en (step k c),key (step k c),rfl,hk _,szl (by simp [kvm,U0];omega),?_⟩
   have ep:M8 (kvm key (U0 ks)) (key (step k c)) (.int (ks.length:Int))=kvm key (U0 (ks++[step k c])):=by
    rw [Z9g inj (by rw [Y0n];exact hm),W1g]
   refine⟨_,rfl,_,rfl,_,rfl,szl (by simp;omega),?_⟩
   refine⟨_,rfl,_,rfl,_,rfl,en (step k c),key (step k c),.int (((ks++[step k c]).idxOf (step k c):Nat):Int),rfl,hk _,?_,_,rfl,szl (by simp;omega),?_⟩
   ·rw [ag,ep,Q5p inj];exact Y0o (by simp)
   ·have e:(r.map iD++[D.int (((ks++[step k c]).idxOf (step k c):Nat):Int)])=(r++[(ks++[step k c]).idxOf (step k c)]).map iD:=by simp
    have e2:(ks.map fun a=>en a)++[en (step k c)]=(ks++[step k c]).map fun a=>en a:=by simp
    show C4 _ _ _ _ [_,_,some (.own ((ks.map fun a=>en a)++[en (step k c)])),some (.dk (M8 (kvm key (U0 ks)) (key (step k c)) (.int ((ks.map fun a=>en a).length:Int)))),_,_,some (.own (r.map iD++[_])),_,_]
    rw [e,e2,ag,ep]
    refine ih _ _ _ _ (fun c hc=>hs c (av _ hc)) (by simp;omega) (by simp;omega) ?_
    simpa only [G5,ea]using h
def wtK:WT:=(A3 (S7 fun i j=>decide (i<j)) (C7 G2 (A2 (wV 4) A4)) (C7 G2 (A2 (wV 2) A4)))
def wlK (jz:FCT):WS:=(B7 (C5 5 (A3 B4 (wV 2) (C7 G2 (A2 (wV 4) A4)))) (B7 (C5 6 (M3 A4)) (B7 (L6 (W0 (A2 (C7 G2 (A2 (wC (.str "01ab")) A4)) A4)) (B0 7) (wbK jz)) (S5 4 (A9 (C7 O4 (A2 (wV 6) A4)))))))
theorem W9d (hk:∀a,P5 (en a)=some (key a)) (inj:∀a b,key a=key b->a=b) (hF:FC 2 f Φ sp) {start:α}{U:List α}{E:F4}{o0:Option Sl} (hU:∀k∈U,∀c∈B6,step k c∈U) (hl:U.length<=100000)
  (hs:∀k∈U,∀c∈B6,sp [.st ((en k)),.st (iD c)] (.st ((en (step k c))))):∀(n:Nat) (ks:List α) (rs:List (List Nat)) (o5 o6 o7 o8:Option Sl),X9 step start U ks rs->U.length<=n+rs.length ->
  (∀o5 o6 o7 o8,E.nx [o0,some (.cl f Φ),some (.own ((Q0 step n ks rs).1.map fun a=>(en a))),some (.dk (kvm key (U0 (Q0 step n ks rs).1))),some (.own ((Q0 step n ks rs).2.map rD)),o5,o6,o7,o8]) ->
  N1 wtK (wlK FC) (n+1) E [o0,some (.cl f Φ),some (.own (ks.map fun a=>(en a))),some (.dk (kvm key (U0 ks))),some (.own (rs.map rD)),o5,o6,o7,o8]:=by
 intro n
 induction n with
 | zero =>
  intro ks rs o5 o6 o7 o8 W hn h
  have b:=W.bound
  simp only [N1,wtK,E2,K9,D8,C3,D4]
  refine⟨_,rfl,_,rfl,?_⟩
  simp only [V0,Q2v,Q1a,ag]
  rw [aC (by simp;omega)]
  exact h _ _ _ _
 | succ n ih =>
  intro ks rs o5 o6 o7 o8 W hn h
  have b:=W.bound
  have gU:=W.len
  rw [N1]
  simp only [wtK,E2,K9,D8,C3,D4]
  refine⟨_,rfl,_,rfl,?_⟩
  simp only [V0,Q2v,Q1a,ag]
  by_cases bY:rs.length<ks.length
  ·rw [aE (by simpa using bY)]
   have fm:ks[rs.length]?=some ks[rs.length]:=ae bY
   have kin:=bF bY
   generalize ks[rs.length]=k at fm kin
   have W2:=W.next hU fm
   have b2:=W2.bound
   simp only [wlK,L5,P8,E2,K9,D8,C3,D4,s_lst,S9,Q1z,F8,Q1u,E9]
   refine⟨_,rfl,_,rfl,?_⟩
   simp only [V0,Q2v,Q8a]
   refine⟨(en k),by rw [ag];exact Y7 (by rw [ai,fm];rfl),?_⟩
   refine⟨_,rfl,sz (by simp),?_⟩
   rw [W5,W1o]
   refine⟨sz (by decide),_,rfl,by decide,by decide,?_⟩
   rw [r4]
   have hW:=h
   rw [Q0,fm]at hW
   refine forK hk inj hF (o0:=o0) (o4:=some (.own (rs.map rD))) B6 ks [] _ _ (hs k (W.sub k kin)) (by simp;omega) (by simp) fun o7 o8=>?_
   simp only [T2,W5,Q7z,Z7,Y0y]
   refine⟨_,rfl,_,rfl,_,rfl,_,rfl,szl (by simp;omega),?_⟩
   have e:rs.map rD++[D.tup ((G5 (step k) B6 ks []).2.map iD)]=(rs++[(G5 (step k) B6 ks []).2]).map rD:=by simp
   show N1 wtK (wlK FC) (n+1) E [_,_,_,_,some (.own (rs.map rD++[D.tup ((G5 (step k) B6 ks []).2.map iD)])),_,_,_,_]
   rw [e]
   exact ih _ _ _ _ _ _ W2 (by simp;omega) hW
  ·rw [aC (by simpa using bY)]
   have e:ks[rs.length]?=none:=aJ.mpr (by omega)
   rw [Q0,e]at h
   exact h _ _ _ _
noncomputable def sp_walkedK (FC:FCT):D6:=fun rs r=>∃(α:Type) (_:DecidableEq α) (en:α->D) (key:α->A7) (step:α->Nat->α) (start:α) (U:List α) (f:Addr) (Φ:Hp->Prop) (sp:D6),
 (∀a,P5 (en a)=some (key a))/\(∀a b,key a=key b->a=b)/\rs=[.st ((en start)),.cl f Φ]/\FC 2 f Φ sp/\start∈U/\U.length<=100000/\(∀k∈U,∀c∈B6,step k c∈U/\sp [.st ((en k)),.st (iD c)] (.st ((en (step k c))))) /\
 r=.st (.tup [.lst ((Q1d U.length step start).1.map fun a=>(en a)),rsD (Q1d U.length step start).2])
theorem W5l {FC:FCT}:∀rs r,rs.length=2->sp_walkedK FC rs r->Z5o FC (T0 r) (F6 Y5o rs):=by
 rintro rs r _ ⟨α,_,en,key,step,start,U,f,Φ,sp,hk,inj,rfl,hF,hs,hl,hU,rfl⟩
 have l2:(2:Nat)<=sizeLine:=by decide
 unfold Z5o
 simp only [L5,P8,s_lst,D8,E9,C3,D4,W6m,F8,Y2d,X6,s_tup,K9]
 refine⟨_,rfl,_,rfl,sz (by simp),?_⟩
 refine⟨(by decide:3<9),_,rfl,en start,key start,rfl,hk _,_,rfl,_,rfl,sz (by simp),?_⟩
 refine⟨U.length+1,?_⟩
 refine W9d hk inj hF (step:=step) (start:=start) (U:=U) (fun k h c hc=>(hU k h c hc).1) hl (fun k h c hc=>(hU k h c hc).2) U.length [start] [] _ _ _ _ (X9.start hs) (by simp) fun o5 o6 o7 o8=>?_
 refine⟨_,rfl,_,rfl,_,rfl,?_⟩
 simp only [N9,V0,Q7z,Z7,Y0y]
 refine⟨_,rfl,_,rfl,l2,rfl⟩
end T
end
noncomputable abbrev ik (n:Nat):A7:=.inl (n:Int)
theorem Q2n (a b:Nat) (h:ik a=ik b):a=b:=by
 have:(a:Int)=(b:Int):=Sum.inl.inj h
 omega
noncomputable abbrev kR (R:List (Nat×Nat)):List (A7×D):=kvm ik (R.map fun q=>(q.1,iD q.2))
noncomputable def L8 (R:List (Nat×Nat)) (g d:Nat):List (Nat×Nat):=if g∈R.map (·.1)then R else R++[(g,d)]
noncomputable def goR (d:Nat):List Nat->List (Nat×Nat)->List (Nat×Nat)
 | [],R=>R
 | g::gs,R=>goR d gs (L8 R g d)
noncomputable def Q0n (on:List (List Nat)):Nat->List (Nat×Nat)->Nat->List (Nat×Nat)
 | 0,R,_=>R
 | n+1,R,p=>match R[p]? with
  | none=>R
  | some q=>Q0n on n (goR (q.2+1) (on[q.1]?.getD []) R) (p+1)
noncomputable def G7 (on:List (List Nat)) (xs:List Nat):List (Nat×Nat):=Q0n on on.length (xs.map fun x=>(x,0)) 0
theorem Z1w (R:List (Nat×Nat)):(R.map fun q=>(q.1,iD q.2)).map (·.1)=R.map (·.1):=by simp
theorem Z6h (R:List (Nat×Nat)) (g d:Nat):R <+: L8 R g d:=by
 unfold L8;split
 ·exact c9 _
 ·exact List.prefix_append _ _
theorem Z1m (d:Nat):∀(gs:List Nat) (R:List (Nat×Nat)),R <+: goR d gs R
 | [],R=>c9 _
 | g::gs,R=>(Z6h R g d).trans (Z1m d gs _)
theorem Y5r {R:List (Nat×Nat)}{g d:Nat} (h:(R.map (·.1)).Nodup):((L8 R g d).map (·.1)).Nodup:=by
 unfold L8;split
 ·exact h
 ·rename_i n
  rw [aX,bS]
  exact⟨h,by simp,fun a ha b hb=>by
   simp at hb;rintro rfl;exact n (hb ▸ ha)⟩
theorem Z8l {d:Nat}:∀(gs:List Nat) (R:List (Nat×Nat)),(R.map (·.1)).Nodup->((goR d gs R).map (·.1)).Nodup
 | [],R,h=>h
 | g::gs,R,h=>Z8l gs _ (Y5r h)
theorem Z2i {R:List (Nat×Nat)}{g d:Nat}{q:Nat×Nat} (h:q∈L8 R g d):q∈R\/q=(g,d):=by
 unfold L8 at h;split at h
 ·exact .inl h
 ·simpa using h
theorem Q7x {d:Nat}{q:Nat×Nat}:∀(gs:List Nat) (R:List (Nat×Nat)),q∈goR d gs R->q∈R\/∃g∈gs,q=(g,d)
 | [],R,h=>.inl h
 | g::gs,R,h=>by
  rcases Q7x gs _ h with h | ⟨g',h1,h2⟩
  ·rcases Z2i h with h | h
   ·exact .inl h
   ·exact .inr ⟨g,by simp,h⟩
  ·exact .inr ⟨g',by simp [h1],h2⟩
structure Q0b (n:Nat) (R:List (Nat×Nat)):Prop where
 nd:(R.map (·.1)).Nodup
 lt:∀q∈R,q.1<n
theorem Q0b.bound {n:Nat}{R:List (Nat×Nat)} (h:Q0b n R):R.length<=n:=by
 have:=h.nd.length_le_of_subset (l₂:=List.range n) fun x hx=>by
  obtain⟨q,hq,rfl⟩:=am.mp hx
  exact aY.mpr (h.lt q hq)
 simpa using this
theorem Q0b.go {n d:Nat}{R:List (Nat×Nat)}{gs:List Nat} (h:Q0b n R) (hg:∀g∈gs,g<n):Q0b n (goR d gs R) :=
 ⟨Z8l gs R h.nd,fun q hq=>by
  rcases Q7x gs R hq with h' | ⟨g,h1,rfl⟩
  ·exact h.lt q h'
  ·exact hg g h1⟩
theorem W8x {R:List (Nat×Nat)} (nd:(R.map (·.1)).Nodup) {s d:Nat} (h:(s,d)∈R):D5 (kR R) (ik s)=some (iD d):=by
 rw [Q5p Q2n]
 exact W8w (by rw [Z1w];exact nd) (am.mpr ⟨_,h,rfl⟩)
theorem Z8y (R:List (Nat×Nat)) (g:Nat):(D5 (kR R) (ik g)).isSome=decide (g∈R.map (·.1)):=by
 rw [Q5p Q2n,Y4k,Z1w]
theorem Y1n {R:List (Nat×Nat)}{g d:Nat} (h:g∉R.map (·.1)):M8 (kR R) (ik g) (iD d)=kR (R++[(g,d)]):=by
 rw [Z9g Q2n (by rw [Z1w];exact h)];simp [kR]
theorem Z7o {Q:List (A7×D)->Prop}:∀(xs:List Nat) (R:List (Nat×Nat)) (o:Option Sl),(R.map (·.1)++xs).Nodup->Q (kR (R++xs.map fun x=>(x,0))) ->
  U4 (B0 0) (wV 0) (A9 (wC (.int 0))) (xs.map iD) [o] (kR R) Q
 | [],R,o,_,h=>by simpa [U4]using h
 | x::xs,R,o,nd,h=>by
  have nx:x∉R.map (·.1):=fun z=>by
   have:=(bS.mp nd).2.2 x z x (by simp)
   exact this rfl
  rw [ak,U4]
  simp only [L9,C3,E9,F8]
  refine⟨_,rfl,iD x,ik x,rfl,rfl,_,rfl,?_⟩
  have e:=Y1n (d:=0) nx
  show U4 _ _ _ _ _ (M8 (kR R) (ik x) (iD 0)) _
  rw [e]
  refine Z7o xs _ _ (by simpa using nd) ?_
  simpa using h
noncomputable abbrev llD (on:List (List Nat)):D:=.lst (on.map fun l=>.lst (l.map iD))
def wbR:WS:=(V3 (Q4r 2 (wV 6)) (B7 (Q4s 2 (wV 6) (A3 F2 (Q4q 2 (wV 5)) (wC (.int 1)))) (S5 3 (A9 (wV 6)))) V4)
theorem forR {s d n:Nat}{E:F4}{o0 o1 o4:Option Sl} (hn:n<=100000):∀(gs:List Nat) (R:List (Nat×Nat)) (o6:Option Sl),Q0b n R->(s,d)∈R->(∀g∈gs,g<n) ->
  (∀o6,E.nx [o0,o1,some (.dk (kR (goR (d+1) gs R))),some (.own ((goR (d+1) gs R).map fun q=>iD q.1)),o4,some (.dat (iD s)),o6]) ->
  C4 (B0 6) wbR E (gs.map iD) [o0,o1,some (.dk (kR R)),some (.own (R.map fun q=>iD q.1)),o4,some (.dat (iD s)),o6]
 | [],R,o6,_,_,_,h=>h o6
 | g::gs,R,o6,hI,hs,hg,h=>by
  have b:=hI.bound
  have ih:=forR (s:=s) (d:=d) (E:=E) (o0:=o0) (o1:=o1) (o4:=o4) hn gs
  have og:Q0b n (L8 R g (d+1)):=hI.go (d:=d+1) (gs:=[g]) (by simpa using hg g (by simp))
  have m6:(s,d)∈L8 R g (d+1):=(Z6h R g (d+1)).subset hs
  have b2:=og.bound
  rw [ak,C4]
  simp only [wbR,L9,Q2a,Y2k,C3,L5,Y2l,E2,Y2j,F8,Q1u,E9,Q3a]
  refine⟨_,rfl,_,rfl,iD g,ik g,rfl,rfl,?_⟩
  rw [Z8y]
  by_cases hm:g∈R.map (·.1)
  ·have ea:L8 R g (d+1)=R:=aE hm
   rw [aC (by simpa using hm)]
   refine ih R _ hI hs (fun g' h'=>hg g' (by simp [h'])) ?_
   simpa only [goR,ea]using h
  ·have ea:L8 R g (d+1)=R++[(g,d+1)]:=aC hm
   rw [aE (by simpa using hm)]
   refine⟨_,rfl,_,rfl,iD s,ik s,iD d,rfl,rfl,W8x hI.nd hs,?_⟩
   rw [Q0l]
   refine⟨_,rfl,_,rfl,_,rfl,iD g,ik g,rfl,rfl,szl (by simp [kvm];omega),_,rfl,_,rfl,_,rfl,szl (by simp;omega),?_⟩
   have e1:M8 (kR R) (ik g) (.int ((d:Int)+1))=kR (L8 R g (d+1)):=by
    rw [ea,<- Y1n hm];rfl
   have e2:(R.map fun q=>iD q.1)++[iD g]=(L8 R g (d+1)).map fun q=>iD q.1:=by rw [ea];simp
   show C4 _ _ _ _ [_,_,some (.dk (M8 (kR R) (ik g) (.int ((d:Int)+1)))),some (.own ((R.map fun q=>iD q.1)++[iD g])),_,_,_]
   rw [e1,e2]
   exact ih _ _ og m6 (fun g' h'=>hg g' (by simp [h'])) h
def wtR:WT:=(A3 (S7 fun i j=>decide (i<j)) (wV 4) (C7 G2 (A2 (wV 3) A4)))
def wlR:WS:=(B7 (C5 5 (A3 B4 (wV 3) (wV 4))) (B7 (L6 (Q0f (A9 (A3 B4 (wV 1) (wV 5)))) (B0 6) wbR) (Q9h 4 (J8 NoC fun i j=>i+j) (wC (.int 1)))))
theorem W9e {on:List (List Nat)}{E:F4}{o0:Option Sl} (jD:∀l∈on,∀g∈l,g<on.length) (hl:on.length<=100000):∀(n:Nat) (R:List (Nat×Nat)) (p:Nat) (o5 o6:Option Sl),Q0b on.length R->on.length<=n+p ->
  (∀o4 o5 o6,E.nx [o0,some (.dat (llD on)),some (.dk (kR (Q0n on n R p))),some (.own ((Q0n on n R p).map fun q=>iD q.1)),o4,o5,o6]) ->
  N1 wtR wlR (n+1) E [o0,some (.dat (llD on)),some (.dk (kR R)),some (.own (R.map fun q=>iD q.1)),some (.dat (iD p)),o5,o6]:=by
 intro n
 induction n with
 | zero =>
  intro R p o5 o6 hI hp h
  have b:=hI.bound
  simp only [N1,wtR,E2,K9,D8,C3,D4]
  refine⟨_,rfl,_,rfl,?_⟩
  simp only [N9,V0,Q2v,Q1a,ag]
  rw [aC (by simp;omega)]
  exact h _ _ _
 | succ n ih =>
  intro R p o5 o6 hI hp h
  have b:=hI.bound
  rw [N1]
  simp only [wtR,E2,K9,D8,C3,D4]
  refine⟨_,rfl,_,rfl,?_⟩
  simp only [N9,V0,Q2v,Q1a,ag]
  by_cases bY:p<R.length
  ·rw [aE (by simpa using bY)]
   have fm:R[p]?=some R[p]:=ae bY
   have kin:=bF bY
   generalize R[p]=q at fm kin
   obtain⟨s,d⟩:=q
   have hs:s<on.length:=hI.lt _ kin
   have js:on[s]?=some on[s]:=ae hs
   have jt:=jD _ (bF hs)
   simp only [wlR,L5,P8,E2,C3,S9,Q6d,E9,W5v,F8]
   refine⟨_,rfl,_,rfl,?_⟩
   rw [V0,N9,Q8a]
   refine⟨iD s,Y7 (by rw [ai,fm];rfl),_,rfl,_,rfl,?_⟩
   rw [N9]
   simp only [N9,Z2t]
   refine⟨.lst (on[s].map iD),Y7 (by rw [ai,js];rfl),_,rfl,?_⟩
   rw [Q0n,fm]at h
   simp only [js]at h
   refine forR (n:=on.length) (d:=d) hl on[s] R _ hI kin jt fun o6=>?_
   refine⟨_,rfl,trivial,?_⟩
   have e:((p:Int)+1)=((p+1:Nat):Int):=by omega
   show N1 wtR wlR (n+1) E [_,_,_,_,some (.dat (.int ((p:Int)+1))),_,_]
   rw [e]
   exact ih _ _ _ _ (hI.go jt) (by omega) h
  ·rw [aC (by simpa using bY)]
   have e:R[p]?=none:=aJ.mpr (by omega)
   rw [Q0n,e]at h
   exact h _ _ _
noncomputable def sp_all_reached (K:Fg9):O8:=fun rs Pr=>∃(xs:List Nat) (on:List (List Nat)),rs=[.bw (xs.map iD),.st (llD on)]/\xs.Nodup/\(∀x∈xs,x<on.length)/\(∀l∈on,∀g∈l,g<on.length)/\on.length<=100000/\∀a,Pr (.cl a (N4 K a (kR (G7 on xs))))
theorem W0r {K:Fg9}:Q1g (sp_all_reached K):=fun rs P Q f ⟨xs,on,e,h1,h2,h3,h4,h5⟩=>⟨xs,on,e,h1,h2,h3,h4,fun a=>f _ (h5 a)⟩
theorem W4u {K:Fg9}:∀rs Pr,rs.length=2->sp_all_reached K rs Pr->Z4x K (Y5 Pr) (F6 Z0c rs):=by
 rintro rs Pr _ ⟨xs,on,rfl,nd,hx,jD,hl,h⟩
 have hI:Q0b on.length (xs.map fun x=>(x,0)):=⟨by simpa [Function.comp_def]using nd,fun q hq=>by
  obtain⟨x,h1,rfl⟩:=am.mp hq
  exact hx x h1⟩
 have b:=hI.bound
 rw [ag]at b
 unfold Z4x
 simp only [L5,W6k,Q8k,C3,P8,K9,D8,D4,F8,W6x]
 refine⟨_,rfl,_,rfl,szl (by simp;omega),?_⟩
 refine Z7o xs [] _ (by simpa using nd) ?_
 refine⟨_,rfl,?_⟩
 have el:(kR ([]++xs.map fun x=>(x,0))).map (fun p=>kyD p.1)=((xs.map fun x=>(x,0)).map fun q=>iD q.1):=by simp [kvm,kyD]
 show Q2t [.dk _] _
 rw [W6r,el,bM]
 simp only [T2,W5]
 refine⟨on.length+1,?_⟩
 refine W9e jD hl on.length (xs.map fun x=>(x,0)) 0 _ _ hI (by omega) fun o4 o5 o6=>?_
 exact⟨_,rfl,h⟩
structure Wf (es:List Bool) (rows:List (List Nat)):Prop where
 len:rows.length=es.length
 pos:0<es.length
 r4:∀r∈rows,r.length=4
 lt:∀r∈rows,∀x∈r,x<es.length
noncomputable def Y1 (B:List (List Nat)) (g s:Nat):List (List Nat):=B.set g (B.getD g []++[s])
noncomputable def Q0v (s:Nat):List Nat->List (List Nat)->List (List Nat)
 | [],B=>B
 | g::gs,B=>Q0v s gs (Y1 B g s)
noncomputable def Q0u:Nat->List (List Nat)->List (List Nat)->List (List Nat)
 | _,[],B=>B
 | s,r::rs,B=>Q0u (s+1) rs (Q0v s r B)
noncomputable def E4 (rows:List (List Nat)):List (List Nat):=Q0u 0 rows (rows.map fun _=>[])
noncomputable abbrev lls (B:List (List Nat)):List (List D):=B.map fun l=>l.map iD
theorem Z0n (B:List (List Nat)) (g s:Nat):(Y1 B g s).length=B.length:=by simp [Y1]
theorem Q7c {s:Nat}:∀(gs:List Nat) (B:List (List Nat)),(Q0v s gs B).length=B.length
 | [],B=>rfl
 | g::gs,B=>by rw [Q0v,Q7c gs,Z0n]
theorem Z6q:∀(rs:List (List Nat)) (s:Nat) (B:List (List Nat)),(Q0u s rs B).length=B.length
 | [],s,B=>rfl
 | r::rs,s,B=>by rw [Q0u,Z6q rs,Q7c]
theorem Z9o (B:List (List Nat)) (g:Nat):(lls B).getD g []=(B.getD g []).map iD:=by
 rw [aq,aq,ai]
 cases B[g]? <;> rfl
theorem W0b (B:List (List Nat)) (g s:Nat):(lls B).set g ((lls B).getD g []++[iD s])=lls (Y1 B g s):=by
 rw [Z9o]
 unfold Y1 lls
 rw [List.map_set]
 simp
theorem Z8j {B:List (List Nat)}{m g:Nat} (h:∀l∈B,l.length<=m):(B.getD g []).length<=m:=by
 rw [aq]
 cases e:B[g]? with
 | none=>simp
 | some l=>exact h l (aD e)
theorem Z6e {B:List (List Nat)}{m g s:Nat} (h:∀l∈B,l.length<=m):∀l∈Y1 B g s,l.length<=m+1:=by
 intro l hl
 rcases List.mem_or_eq_of_mem_set hl with h' | rfl
 ·exact Nat.le_succ_of_le (h l h')
 ·have:=Z8j (g:=g) h
  rw [ay,bJ];omega
theorem Z6r {s:Nat}:∀(gs:List Nat) (B:List (List Nat)) (m:Nat),(∀l∈B,l.length<=m)->∀l∈Q0v s gs B,l.length<=m+gs.length
 | [],B,m,h=>h
 | g::gs,B,m,h=>fun l hl=>by
  have:=Z6r gs _ (m+1) (Z6e h) l hl
  simp;omega
theorem W0k {B:List (List Nat)}{g s i x:Nat} (hx:x∈(Y1 B g s).getD i []):x∈B.getD i []\/(i=g/\x=s):=by
 unfold Y1 at hx
 rw [aq,List.getElem?_set]at hx
 by_cases h:g=i
 ·subst h
  by_cases hl:g<B.length
  ·rw [aE rfl,aE hl]at hx
   rcases aR.mp (show x∈B.getD g []++[s]from hx)with h | h
   ·exact .inl h
   ·exact .inr ⟨rfl,by simpa using h⟩
  ·rw [aE rfl,aC hl]at hx
   cases hx
 ·rw [aC h]at hx
  exact .inl (by rw [aq];exact hx)
theorem W0m {B:List (List Nat)}{g s i x:Nat} (hx:x∈B.getD i []):x∈(Y1 B g s).getD i []:=by
 unfold Y1
 rw [aq]at hx ⊢
 rw [List.getElem?_set]
 by_cases h:g=i
 ·subst h
  by_cases hl:g<B.length
  ·rw [aE rfl,aE hl]
   exact bi _ (by rw [aq];exact hx)
  ·rw [aJ.mpr (by omega)]at hx;cases hx
 ·rw [aC h];exact hx
theorem W0l {B:List (List Nat)}{g s:Nat} (hl:g<B.length):s∈(Y1 B g s).getD g []:=by
 unfold Y1
 rw [aq,List.getElem?_set,aE rfl,aE hl]
 exact ar _ (by simp)
theorem Z9z {s i x:Nat}:∀(gs:List Nat) (B:List (List Nat)),(∀g∈gs,g<B.length)->(x∈(Q0v s gs B).getD i [] ↔ x∈B.getD i []\/(i∈gs/\x=s))
 | [],B,_=>by simp [Q0v]
 | g::gs,B,h=>by
  rw [Q0v,Z9z gs _ (fun g' h'=>by rw [Z0n];exact h g' (by simp [h']))]
  constructor
  ·rintro (h' | ⟨h1,h2⟩)
   ·rcases W0k h' with h' | ⟨h1,h2⟩
    ·exact .inl h'
    ·exact .inr ⟨by simp [h1],h2⟩
   ·exact .inr ⟨by simp [h1],h2⟩
  ·rintro (h' | ⟨h1,rfl⟩)
   ·exact .inl (W0m h')
   ·rcases aj.mp h1 with rfl | h1
    ·exact .inl (W0l (h _ (by simp)))
    ·exact .inr ⟨h1,rfl⟩
theorem Z9y {i x:Nat}:∀(rs:List (List Nat)) (s:Nat) (B:List (List Nat)),(∀r∈rs,∀g∈r,g<B.length)->(x∈(Q0u s rs B).getD i [] ↔ x∈B.getD i []\/∃j r,rs[j]?=some r/\i∈r/\x=s+j)
 | [],s,B,_=>by simp [Q0u]
 | r::rs,s,B,h=>by
  rw [Q0u,Z9y rs _ _ (fun r' h' g hg=>by rw [Q7c];exact h r' (by simp [h']) g hg),Z9z _ _ (h r (by simp))]
  constructor
  ·rintro ((h' | ⟨h1,rfl⟩) | ⟨j,r',e,h1,rfl⟩)
   ·exact .inl h'
   ·exact .inr ⟨0,r,rfl,h1,rfl⟩
   ·exact .inr ⟨j+1,r',by simpa using e,h1,by omega⟩
  ·rintro (h' | ⟨j,r',e,h1,rfl⟩)
   ·exact .inl (.inl h')
   ·cases j with
    | zero=>cases e;exact .inl (.inr ⟨h1,rfl⟩)
    | succ j=>exact .inr ⟨j,r',by simpa using e,h1,by omega⟩
theorem Z2l {rows:List (List Nat)} (h:∀r∈rows,∀g∈r,g<rows.length) {i x:Nat}:x∈(E4 rows).getD i [] ↔ ∃r,rows[x]?=some r/\i∈r:=by
 unfold E4
 rw [Z9y rows 0 _ (fun r hr g hg=>by rw [ag];exact h r hr g hg)]
 have e0:x∉(rows.map fun _=>([]:List Nat)).getD i []:=by
  rw [aq,ai]
  cases rows[i]? <;> simp
 constructor
 ·rintro (h' | ⟨j,r,e,h1,rfl⟩)
  ·exact absurd h' e0
  ·exact⟨r,by rw [cB];exact e,h1⟩
 ·rintro ⟨r,e,h1⟩
  exact .inr ⟨x,r,e,h1,by omega⟩
theorem Q7b (rows:List (List Nat)):(E4 rows).length=rows.length:=by simp [E4,Z6q]
theorem Z6p {rows:List (List Nat)} (h:∀r∈rows,∀g∈r,g<rows.length):∀l∈E4 rows,∀x∈l,x<(E4 rows).length:=by
 intro l hl x hx
 obtain⟨i,hi,rfl⟩:=bX.mp hl
 have:x∈(E4 rows).getD i []:=by rw [aq,ae hi];exact hx
 obtain⟨r,e,_⟩:=(Z2l h).mp this
 obtain⟨h',_⟩:=aI.mp e
 rw [Q7b];exact h'
noncomputable def F3 (es:List Bool) (b:Bool):List Nat:=((es.zipIdx).filter fun p=>p.1==b).map (·.2)
theorem Z2m {es:List Bool}{b:Bool}{i:Nat}:i∈F3 es b ↔ es[i]?=some b:=by
 unfold F3
 rw [am]
 constructor
 ·rintro ⟨⟨c,j⟩,h,rfl⟩
  rw [iG]at h
  have h1:=List.mem_zipIdx_iff_getElem?.mp h.1
  have h2:c=b:=by simpa using h.2
  subst h2;exact h1
 ·intro h
  exact⟨(b,i),iG.mpr ⟨List.mem_zipIdx_iff_getElem?.mpr h,by simp⟩,rfl⟩
theorem Z8a {es:List Bool}{b:Bool}:∀x∈F3 es b,x<es.length:=fun x hx=>by
 obtain⟨h,_⟩:=aI.mp (Z2m.mp hx);exact h
theorem Z8b {es:List Bool}{b:Bool}:(F3 es b).Nodup:=by
 have:(es.zipIdx.map (·.2)).Nodup:=by rw [List.zipIdx_map_snd];exact List.nodup_range'
 exact this.sublist (List.filter_sublist.map _)
noncomputable def G6 (R:List (Nat×Nat)) (s:Nat):Option Nat:=(R.find? fun q=>decide (q.1=s)).map (·.2)
noncomputable abbrev oD:Option Nat->D
 | none=>.non
 | some d=>iD d
theorem Y4n (R:List (Nat×Nat)) (s:Nat):(D5 (kR R) (ik s)).getD .non=oD (G6 R s):=by
 rw [Q5p Q2n]
 unfold D5 G6
 induction R with
 | nil=>rfl
 | cons q R ih =>
  rw [ak,b8,b8]
  by_cases h:q.1=s
  ·simp [h]
  ·simp only [h,decide_false];exact ih
noncomputable def X2 (es:List Bool) (rows:List (List Nat)) (b:Bool):List (Option Nat):=(List.range es.length).map (G6 (G7 (E4 rows) (F3 es b)))
theorem Z7p {Q:List (List D)->Prop}:∀(ds:List D) (o:Option Sl),Q (ds.map fun _=>[])->Y2 (B0 0) (M3 A4) ds [o] Q
 | [],o,h=>h
 | d::ds,o,h=>by
  rw [Y2]
  simp only [L9,s_lst,D4]
  exact⟨_,rfl,sz (by simp),_,rfl,Z7p ds _ h⟩
@[simp] theorem nll1 {d:D}:J9 (some (.dat d))=true:=rfl
@[simp] theorem nll2:J9 none=true:=rfl
theorem forB {s:Nat}{E:F4}{a:Addr}{o0 o1 o2 o5 o7:Option Sl} (n0:J9 o0=true) (n1:J9 o1=true) (n2:J9 o2=true) (n5:J9 o5=true) (n7:J9 o7=true):∀(gs:List Nat) (B:List (List Nat)) (m:Nat) (o6:Option Sl),J9 o6=true ->
  (∀g∈gs,g<B.length)->(∀l∈B,l.length<=m)->m+gs.length<=1000000 ->
  (∀o6,J9 o6=true->E.nx [o0,o1,o2,some (.ll a (lls (Q0v s gs B))),some (.dat (iD s)),o5,o6,o7]) ->
  C4 (B0 6) (Q6o 3 (wV 6) (A9 (wV 4))) E (gs.map iD) [o0,o1,o2,some (.ll a (lls B)),some (.dat (iD s)),o5,o6,o7]
 | [],B,m,o6,n6,_,_,_,h=>h o6 n6
 | g::gs,B,m,o6,n6,hg,hm,hz,h=>by
  rw [aA]at hz
  have gl:=hg g (by simp)
  have bd:=Z8j (g:=g) hm
  rw [ak,C4]
  simp only [L9,W6o,C3,E9]
  refine⟨a,lls B,rfl,?_,_,rfl,_,g,rfl,?_,_,rfl,_,rfl,?_,?_⟩
  ·show(J9 o0&&(J9 o1&&(J9 o2&&([some (.dat (iD s)),o5,some (.dat (iD g)),o7]:A8).all J9)))=true
   simp [n0,n1,n2,n5,n7,nll1]
  ·rw [ag];exact ixn gl
  ·rw [Z9o,ag];exact szl (by omega)
  ·show C4 _ _ _ _ [_,_,_,some (.ll a ((lls B).set g ((lls B).getD g []++[iD s]))),_,_,_,_]
   rw [W0b]
   exact forB n0 n1 n2 n5 n7 gs _ (m+1) _ rfl (fun g' h'=>by rw [Z0n];exact hg g' (by simp [h'])) (Z6e hm) (by omega) h
theorem Z8i {E:F4}{a:Addr}{o0 o1 o2 o7:Option Sl} (n0:J9 o0=true) (n1:J9 o1=true) (n2:J9 o2=true) (n7:J9 o7=true):∀(rs:List (List Nat)) (s:Nat) (B:List (List Nat)) (m:Nat) (o4 o5 o6:Option Sl),J9 o4=true->J9 o5=true->J9 o6=true ->
  (∀r∈rs,r.length=4/\∀g∈r,g<B.length)->(∀l∈B,l.length<=m)->m+4*rs.length<=1000000 ->
  (∀o4 o5 o6,J9 o4=true->J9 o5=true->J9 o6=true->E.nx [o0,o1,o2,some (.ll a (lls (Q0u s rs B))),o4,o5,o6,o7]) ->
  C4 (N7 2 (E6 (B0 4) (E6 (B0 5) O2))) (L6 (Q3u (wV 5)) (B0 6) (Q6o 3 (wV 6) (A9 (wV 4)))) E ((rs.zipIdx s).map fun p=>.tup [.int (p.2:Int),rD p.1]) [o0,o1,o2,some (.ll a (lls B)),o4,o5,o6,o7]
 | [],s,B,m,o4,o5,o6,n4,n5,n6,_,_,_,h=>h o4 o5 o6 n4 n5 n6
 | r::rs,s,B,m,o4,o5,o6,n4,n5,n6,hg,hm,hz,h=>by
  rw [aA]at hz
  obtain⟨l4,gl⟩:=hg r (by simp)
  rw [bQ,ak,C4]
  simp only [Q1y,Q1w,L9,Q1x,S9,Y2g,C3]
  refine⟨_,rfl,rfl,_,_,rfl,_,_,rfl,rfl,_,rfl,_,rfl,?_⟩
  refine forB n0 n1 n2 (o5:=some (.dat (rD r))) rfl n7 r B m o6 n6 gl hm (by omega) fun o6 n6=>?_
  exact Z8i n0 n1 n2 n7 rs (s+1) _ (m+4) _ _ _ rfl rfl n6 (fun r' h'=>⟨(hg r' (by simp [h'])).1,fun g h2=>by rw [Q7c];exact(hg r' (by simp [h'])).2 g h2⟩)
   (by have:=Z6r (s:=s) r B m hm;rw [l4]at this;exact this) (by omega) h
theorem Z1b {b:Bool}{Q:List D->Prop}:∀(es:List Bool) (n:Nat) (o0 o1:Option Sl),Q (((es.zipIdx n).filter fun p=>p.1==b).map fun p=>iD p.2) ->
  K7 (N7 2 (E6 (B0 0) (E6 (B0 1) O2))) (A3 (K2 60 false) (wV 1) (wV 2)) (A9 (wV 0)) ((es.zipIdx n).map fun p=>.tup [.int (p.2:Int),.bl p.1]) [o0,o1,some (.dat (.bl b))] Q
 | [],n,o0,o1,h=>h
 | e::es,n,o0,o1,h=>by
  rw [bQ,ak,K7]
  simp only [Q1y,Q1w,L9,Q1x,E2,C3,E9]
  refine⟨_,rfl,rfl,_,_,rfl,_,_,rfl,rfl,_,rfl,_,rfl,?_⟩
  simp only [N9,Q0m,o_d1]
  refine⟨_,_,rfl,rfl,by simp [D.depth],?_⟩
  rw [bQ,ga]at h
  by_cases hb:e=b
  ·subst hb
   simp only [BEq.rfl,if_true]at h
   simp only [o_e3,BEq.rfl,if_true,dh,cQ]
   exact⟨_,rfl,_,rfl,Z1b es (n+1) _ _ h⟩
  ·have fS:(e==b)=false:=by simpa using hb
   simp only [fS,cQ,dh]at h
   simp only [o_e3,fS,dh,cQ]
   exact Z1b es (n+1) _ _ h
def L7 (ra:R) (es:List Bool):Prop:=ra=.bw (es.map .bl)\/ra=.st (.tup (es.map .bl))
theorem L7.rd {ra:R}{es:List Bool} (h:L7 ra es):Q8 (O1 ra)=ra:=by rcases h with rfl | rfl <;> rfl
theorem L7.nll {ra:R}{es:List Bool} (h:L7 ra es):J9 (some (O1 ra))=true:=by rcases h with rfl | rfl <;> rfl
theorem L7.sq {ra:R}{es:List Bool} (h:L7 ra es):Q3f ra=some (es.map .bl):=by rcases h with rfl | rfl <;> rfl
theorem L7.len {ra:R}{es:List Bool} (h:L7 ra es) {Q:R->Prop}:G2 [ra] Q=Q (.st (.int (es.length:Int))):=by
 rcases h with rfl | rfl
 ·rw [Q2v,ag]
 ·rw [Q1s,ag]
theorem L7.arg {ra:R}{es:List Bool} (h:L7 ra es):M4 ra=true:=by rcases h with rfl | rfl <;> rfl
theorem L7.nrm {ra:R}{es:List Bool} (h:L7 ra es):nrm ra=ra:=by rcases h with rfl | rfl <;> rfl
noncomputable def sp_distances:O8:=fun rs Pr=>∃ra es rows b,rs=[ra,.st (rsD rows),.st (.bl b)]/\L7 ra es/\Wf es rows/\es.length<=20000/\Pr (.nw ((X2 es rows b).map oD))
theorem Y0h:Q1g sp_distances:=fun rs P Q f ⟨ra,es,rows,b,e,h1,h2,h3,h4⟩=>⟨ra,es,rows,b,e,h1,h2,h3,f _ h4⟩
theorem W4x {K:Fg9}:∀rs Pr,rs.length=3->sp_distances rs Pr->Z4y K (sp_all_reached K) (Y5 Pr) (F6 Q4z rs):=by
 rintro rs Pr _ ⟨ra,es,rows,b,rfl,ha,wf,hl,h⟩
 have wl:=wf.len
 have bY:∀r∈rows,∀g∈r,g<rows.length:=fun r hr g hg=>by rw [wl];exact wf.lt r hr g hg
 unfold Z4y
 simp only [L5,W6p,Z3k,C3,W6d,S9,W6f,D8,D4,W6y,Q1v,V1,Z3j,X6,Q8l,K9]
 refine⟨_,rfl,_,rfl,sz (by simp;omega),?_⟩
 refine Z7p _ _ fun a=>?_
 refine⟨_,rfl,.inr ⟨_,rfl,?_⟩⟩
 have e1:G1 (rows.map rD)=(rows.zipIdx 0).map fun p=>.tup [.int (p.2:Int),rD p.1]:=by
  unfold G1;rw [iE,aK];rfl
 have e2:((rows.map rD).map fun _=>([]:List D))=lls (rows.map fun _=>[]):=by simp [lls]
 rw [e1,e2]
 refine Z8i (o0:=some (O1 ra)) (o1:=some (.dat (rsD rows))) (o2:=some (.dat (.bl b))) (o7:=none) ha.nll rfl rfl rfl rows 0 _ 0 none none none rfl rfl rfl (fun r hr=>⟨wf.r4 r hr,fun g hg=>by rw [ag];exact bY r hr g hg⟩) (fun l hl=>by simp at hl;simp [hl.2]) (by omega) fun o4 o5 o6 n4 n5 n6=>?_
 refine⟨a,_,rfl,?_,?_⟩
 ·show(J9 _&&(J9 _&&(J9 _&&([o4,o5,o6,none]:A8).all J9)))=true
  have:=ha.nll
  simp [this,n4,n5,n6,nll1,nll2]
 refine⟨_,rfl,?_⟩
 show ∃r ds,[Q8 (O1 ra)]=[r]/\_
 refine⟨_,_,rfl,by rw [ha.rd];exact ha.sq,sz (by simp [G1];omega),?_⟩
 have e3:G1 (es.map .bl)=(es.zipIdx 0).map fun p=>.tup [.int (p.2:Int),.bl p.1]:=by
  unfold G1;rw [iE,aK];rfl
 rw [e3]
 refine Z1b es 0 _ _ ?_
 refine⟨_,rfl,rfl,F3 es b,E4 rows,?_,Z8b,fun x hx=>by rw [Q7b,wl];exact Z8a x hx,Z6p bY,by rw [Q7b,wl];omega,fun a'=>?_⟩
 ·have q1:((es.zipIdx 0).filter fun p=>p.1==b).map (fun p=>iD p.2)=(F3 es b).map iD:=by unfold F3;rw [aK];rfl
  have q2:D.lst ((lls (Q0u 0 rows (rows.map fun _=>[]))).map D.lst)=llD (E4 rows):=by unfold lls llD E4;rw [aK];rfl
  show [R.bw _,R.st (.lst _)]=_
  rw [q1,q2]
 refine⟨a',_,rfl,?_⟩
 refine⟨_,rfl,?_⟩
 show G2 [Q8 (O1 ra)] _
 rw [ha.rd,ha.len]
 refine⟨_,rfl,by omega,by omega,sz (by simp [J4];omega),?_⟩
 have hf:∀i:Nat,(D5 (kR (G7 (E4 rows) (F3 es b))) (ik i)).getD .non=oD (G6 (G7 (E4 rows) (F3 es b)) i):=Y4n _
 have er:J4 0 (es.length:Int).toNat=(List.range es.length).map iD:=by simp [J4]
 rw [er]
 refine Y8 (f:=fun d=>match d with | .int i=>(D5 (kR (G7 (E4 rows) (F3 es b))) (.inl i)).getD .non | d=>d) _ _ _ (fun d hd Q' q=>?_) ?_
 ·obtain⟨i,_,rfl⟩:=am.mp hd
  simp only [E9,W6b,C3]
  exact⟨a',_,rfl,_,rfl,_,ik i,rfl,rfl,q⟩
 ·rw [aK]
  have:(List.range es.length).map ((fun d=>match d with | .int i=>(D5 (kR (G7 (E4 rows) (F3 es b))) (.inl i)).getD .non | d=>d) ∘ iD)=(X2 es rows b).map oD:=by
   unfold X2
   rw [aK]
   exact bc fun i _=>hf i
  rw [this]
  exact h
noncomputable def N8:List D->List D->List Nat
 | _,[]=>[]
 | ks,d::r=>ks.idxOf d::N8 (S3 ks d) r
theorem Y0u:∀(ds ks:List D),(Z6 ks ds).map D.int=(N8 ks ds).map iD
 | [],ks=>rfl
 | d::r,ks=>by rw [Z6,N8,ak,ak,Y0u r]
noncomputable def T3:List D->List D->List D
 | ks,[]=>ks
 | ks,d::r=>T3 (S3 ks d) r
theorem Y3m (ks:List D) (d:D):ks <+: S3 ks d:=by
 unfold S3;split
 ·exact c9 _
 ·exact List.prefix_append _ _
theorem Y3k:∀(ds ks:List D),ks <+: T3 ks ds
 | [],ks=>c9 _
 | d::r,ks=>(Y3m ks d).trans (Y3k r _)
theorem Y0c (ks:List D) (d:D):d∈S3 ks d:=by
 unfold S3;split
 ·assumption
 ·simp
theorem Y8e {ks ls:List D}{g:D} (p:ks <+: ls) (h:g∈ks):ls.idxOf g=ks.idxOf g:=by
 obtain⟨t,rfl⟩:=p
 rw [List.idxOf_append,aE h]
theorem Y8f (ks:List D) (d:D):(S3 ks d).idxOf d=ks.idxOf d:=by
 unfold S3;split
 ·rfl
 ·rename_i h
  rw [List.idxOf_append,aC h,List.idxOf_eq_length h]
  simp
theorem Q4f:∀(ds ks:List D),N8 ks ds=ds.map fun d=>(T3 ks ds).idxOf d
 | [],ks=>rfl
 | d::r,ks=>by
  have p:=Y3k r (S3 ks d)
  rw [N8,Q4f r,ak,T3,Y8e p (Y0c ks d),Y8f]
theorem Y0r (ds ks:List D):(N8 ks ds).length=ds.length:=by rw [Q4f,ag]
theorem Q5x:∀(ds ks:List D) {d:D},d∈ks\/d∈ds->d∈T3 ks ds
 | [],ks,d,h=>by simpa [T3]using h
 | e::r,ks,d,h=>by
  rw [T3]
  refine Q5x r _ ?_
  rcases h with h | h
  ·exact .inl ((Y3m ks e).subset h)
  ·rcases aj.mp h with rfl | h
   ·exact .inl (Y0c _ _)
   ·exact .inr h
theorem Y3j:∀(ds ks:List D),(T3 ks ds).length<=ks.length+ds.length
 | [],ks=>by simp [T3]
 | d::r,ks=>by
  have:=Y3j r (S3 ks d)
  have:(S3 ks d).length<=ks.length+1:=by unfold S3;split <;> simp
  rw [T3,aA];omega
theorem Y0s {ds:List D}:∀x∈N8 [] ds,x<ds.length:=fun x hx=>by
 rw [Q4f,am]at hx
 obtain⟨d,hd,rfl⟩:=hx
 have h1:=aO.mpr (Q5x ds [] (.inr hd))
 have h2:=Y3j ds []
 simp at h2
 omega
theorem Y0q {ds:List D}{i j:Nat}{a b:D} (hi:ds[i]?=some a) (hj:ds[j]?=some b):(N8 [] ds)[i]?=(N8 [] ds)[j]? ↔ a=b:=by
 rw [Q4f,ai,ai,hi,hj]
 constructor
 ·intro h
  have h:(T3 [] ds).idxOf a=(T3 [] ds).idxOf b:=aB h
  have ha:=aO.mpr (Q5x ds [] (.inr (aD hi)))
  have hb:=aO.mpr (Q5x ds [] (.inr (aD hj)))
  have e1:=cP ha
  have e2:=cP hb
  rw [<- e1,<- e2]
  simp only [h]
 ·rintro rfl;rfl
noncomputable def sp_numbered:D6:=fun rs r=>∃ds,rs=[.bw ds]/\ds.length<=1000000/\(∀d∈ds,Q1 8 d=true/\∃l,d=.tup l)/\r=.nw ((N8 [] ds).map iD)
theorem W5h:∀rs r,rs.length=1->sp_numbered rs r->Z5l (T0 r) (F6 Z0h rs):=by
 rintro rs r _ ⟨ds,rfl,hl,hk,rfl⟩
 unfold Z5l
 rw [W6v]
 refine⟨(by decide:1<2),?_⟩
 simp only [Q8k,C3]
 exact⟨_,rfl,_,rfl,sz hl,hk,by rw [Y0u];rfl⟩
noncomputable def Q7 (b:List Nat):Nat:=b.foldl max 0
theorem Z1j:∀(b:List Nat) (a:Nat),a<=b.foldl max a/\∀x∈b,x<=b.foldl max a
 | [],a=>⟨ah _,fun x h=>by cases h⟩
 | y::b,a=>by
  obtain⟨h1,h2⟩:=Z1j b (max a y)
  refine⟨aT (Nat.le_max_left _ _) h1,fun x hx=>?_⟩
  rcases aj.mp hx with rfl | hx
  ·exact aT (Nat.le_max_right _ _) h1
  ·exact h2 x hx
theorem Z8g:∀(b:List Nat) (a:Nat),b.foldl max a=a\/b.foldl max a∈b
 | [],a=>.inl rfl
 | y::b,a=>by
  rcases Z8g b (max a y)with h | h
  ·rw [List.foldl_cons,h]
   rcases Nat.le_total a y with z | z
   ·rw [Nat.max_eq_right z];exact .inr (by simp)
   ·rw [Nat.max_eq_left z];exact .inl rfl
  ·exact .inr (av _ h)
theorem Q7w {b:List Nat}{x:Nat} (h:x∈b):x<=Q7 b:=(Z1j b 0).2 x h
theorem Q5v {b:List Nat} (h:b≠[]):Q7 b∈b:=by
 unfold Q7
 rcases Z8g b 0 with e | e
 ·cases b with
  | nil=>exact absurd rfl h
  | cons y b =>
   have:=(Z1j (y::b) 0).2 y (by simp)
   rw [e]at this
   have:y=0:=by omega
   rw [e,this];simp
 ·exact e
theorem W0j {b:List Nat}{m:Int} (h:m∈b.map fun(x:Nat)=>(x:Int)) (g:∀n∈b.map fun(x:Nat)=>(x:Int),n<=m):m=(Q7 b:Int):=by
 obtain⟨k,hk,rfl⟩:=am.mp h
 have h1:=Q7w hk
 have h2:=g _ (am.mpr ⟨_,Q5v (fun z=>by rw [z]at hk;cases hk),rfl⟩)
 omega
noncomputable def W1 (es:List Bool) (rows:List (List Nat)):List D:=((X2 es rows true).zip (X2 es rows false)).map fun p=>.tup [oD p.1,oD p.2]
noncomputable def Q0i (b:List Nat) (p:Nat×List Nat):D:=.tup [iD p.1,rD (p.2.map fun g=>b.getD g 0)]
noncomputable def Z4 (rows:List (List Nat)) (b:List Nat):List D:=(b.zip rows).map (Q0i b)
noncomputable def K0 (rows:List (List Nat)) (b:List Nat):List Nat:=N8 [] (Z4 rows b)
noncomputable def Q1c (rows:List (List Nat)):Nat->Nat->List Nat->List Nat
 | 0,_,b=>b
 | n+1,many,b=>if many<=Q7 b then Q1c rows n (Q7 b+1) (K0 rows b)else b
noncomputable def E7 (es:List Bool) (rows:List (List Nat)):List Nat:=Q1c rows (es.length+1) 0 (N8 [] (W1 es rows))
structure J3 (n:Nat) (b:List Nat):Prop where
 len:b.length=n
 lt:∀x∈b,x<n
theorem J3.step {n:Nat}{rows:List (List Nat)}{b:List Nat} (h:J3 n b) (hr:rows.length=n):J3 n (K0 rows b):=by
 have e:(Z4 rows b).length=n:=by simp [Z4,h.len,hr]
 exact⟨by unfold K0;rw [Y0r,e],fun x hx=>by have:=Y0s x hx;rw [e]at this;exact this⟩
theorem J3.zero {es:List Bool}{rows:List (List Nat)}:J3 es.length (N8 [] (W1 es rows)):=by
 have e:(W1 es rows).length=es.length:=by simp [W1,X2]
 exact⟨by rw [Y0r,e],fun x hx=>by have:=Y0s x hx;rw [e]at this;exact this⟩
theorem Y3x {n:Nat}{rows:List (List Nat)} (hr:rows.length=n):∀(k many:Nat) (b:List Nat),J3 n b->J3 n (Q1c rows k many b)
 | 0,many,b,h=>h
 | k+1,many,b,h=>by
  unfold Q1c;split
  ·exact Y3x hr k _ _ (h.step hr)
  ·exact h
theorem Z4e {es:List Bool}{rows:List (List Nat)} (w:Wf es rows):J3 es.length (E7 es rows):=Y3x w.len _ _ _ J3.zero
def wtA:WT:=(A3 (S7 fun i j=>decide (j<=i)) (C7 Q0j (A2 (wV 2) A4)) (wV 3))
def weA:WE:=(A9 (T4 (A2 (A9 (wV 0)) (A2 (A9 (C7 O4 (A2 (M0 1 [2] (Q3w (wV 1)) (B0 0) P9 (A9 (A3 B4 (wV 1) (wV 0)))) A4))) A4))))
def wlA (sp_numbered:D6):WS:=(B7 (C5 3 (A3 F2 (C7 Q0j (A2 (wV 2) A4)) (wC (.int 1)))) (C5 2 (A9 (O5 sp_numbered (A2 (M0 2 [2] (Q7r (A2 (wV 2) (A2 (wV 1) A4))) (N7 2 (E6 (B0 0) (E6 (B0 1) O2))) P9 weA) A4)))))
theorem W9b {n:Nat}{b:List Nat} (hb:J3 n b) (hn:n<=20000) {p:Nat×List Nat} (hp:p.2.length=4) (hg:∀g∈p.2,g<n) (Q:R->Prop) (h:Q (.st (Q0i b p))):weA (some (.dat (iD p.1))::some (.dat (rD p.2))::[some (.dat (.lst (b.map iD)))]) Q:=by
 unfold weA
 simp only [E9,s_tup,D8,C3,K9,V1,Z3k,D4]
 refine⟨_,rfl,_,rfl,_,rfl,sz (by simp [hp]),?_⟩
 refine Y8 (f:=fun d=>match d with | .int i=>iD (b.getD i.toNat 0) | d=>d) _ _ _ (fun d hd Q' q=>?_) ?_
 ·obtain⟨g,gE,rfl⟩:=am.mp hd
  have hl:g<b.length:=by rw [hb.len];exact hg g gE
  simp only [E9,E2,C3]
  refine⟨_,rfl,_,rfl,?_⟩
  show B4 (.st (.lst (b.map iD))) (.st (.int (g:Int))) _
  rw [Z2t]
  refine⟨iD (b.getD g 0),Y7 (by rw [ai,aq,ae hl];rfl),q⟩
 ·refine⟨_,rfl,_,rfl,sz (by simp),?_⟩
  have e:(p.2.map iD).map (fun d=>match d with | .int i=>iD (b.getD i.toNat 0) | d=>d)=(p.2.map fun g=>b.getD g 0).map iD:=by
   rw [aK,aK]
   exact bc fun g _=>by simp
  show Q (.st (.tup [iD p.1,.tup _]))
  rw [e]
  exact h
theorem Z2h {b:List Nat} (hb:b≠[]) {Q:R->Prop} (h:Q (.st (iD (Q7 b)))):Q0j [.st (.lst (b.map iD))] Q:=by
 rw [W6u]
 refine⟨b.map fun(x:Nat)=>(x:Int),by rw [W1p,aK];rfl,by simpa using hb,fun m h1 h2=>?_⟩
 rw [W0j h1 h2]
 exact h
theorem Y9c (n:Nat) (o:Option Nat):Q1 n (oD o)=true:=by cases o <;> cases n <;> rfl
theorem W0i (b:List Nat) (p:Nat×List Nat):Q1 8 (Q0i b p)=true:=by
 simp [Q0i,Q1]
theorem W9c {es:List Bool}{rows:List (List Nat)} (w:Wf es rows) (hl:es.length<=20000) {E:F4}{o0:Option Sl}:∀(n many:Nat) (b:List Nat),J3 es.length b->es.length+1<=n+many ->
  (∀o3,E.nx [o0,some (.dat (rsD rows)),some (.dat (.lst ((Q1c rows n many b).map iD))),o3]) ->
  N1 wtA (wlA sp_numbered) (n+1) E [o0,some (.dat (rsD rows)),some (.dat (.lst (b.map iD))),some (.dat (iD many))]:=by
 intro n
 induction n with
 | zero =>
  intro many b hb hn h
  have ne:b≠[]:=fun z=>by have h1:=hb.len;rw [z,cg]at h1;have:=w.pos;omega
  have:=hb.lt _ (Q5v ne)
  simp only [N1,wtA,E2,K9,D8,C3,D4]
  refine⟨_,rfl,?_⟩
  refine Z2h ne ⟨_,rfl,?_⟩
  rw [N9,Q1a,aC (by simp;omega)]
  exact h _
 | succ n ih =>
  intro many b hb hn h
  have ne:b≠[]:=fun z=>by have h1:=hb.len;rw [z,cg]at h1;have:=w.pos;omega
  have mx:=hb.lt _ (Q5v ne)
  rw [N1]
  simp only [wtA,E2,K9,D8,C3,D4]
  refine⟨_,rfl,?_⟩
  refine Z2h ne ⟨_,rfl,?_⟩
  rw [N9,Q1a]
  rw [Q1c]at h
  by_cases hm:many<=Q7 b
  ·rw [aE (by simpa using hm)]
   rw [aE hm]at h
   simp only [wlA,L5,P8,E2,K9,D8,C3,D4,F8,E9,Y4,V1,W6j]
   refine⟨_,rfl,?_⟩
   refine Z2h ne ?_
   rw [Q0l,T2]
   refine⟨_,rfl,_,rfl,_,_,_,rfl,rfl,sz (by simp [O7,hb.len];omega),?_⟩
   have ez:O7 (b.map iD) (rows.map rD)=((b.zip rows).map fun p=>(iD p.1,rD p.2)).map fun p=>.tup [p.1,p.2]:=by
    unfold O7
    rw [List.zip_map]
    rfl
   rw [ez]
   refine Z1c (f:=fun d e=>match d,e with | .int i,.tup r=>Q0i b (i.toNat,r.map fun d=>match d with | .int j=>j.toNat | _=>0) | _,_=>.non) _ _ _ _ (fun q hq Q' hQ=>?_) ?_
   ·obtain⟨p,hp,rfl⟩:=am.mp hq
    have hr:=(iF hp).2
    refine W9b hb hl (w.r4 _ hr) (w.lt _ hr) Q' ?_
    have:(p.2.map iD).map (fun d=>match d with | .int j=>j.toNat | _=>0)=p.2:=by
     rw [aK]
     conv=>rhs;rw [<- List.map_id p.2]
     exact bc fun g _=>by simp
    simp only [this]at hQ
    simpa using hQ
   ·have em:(((b.zip rows).map fun p=>(iD p.1,rD p.2)).map fun p=>(fun d e=>match d,e with | .int i,.tup r=>Q0i b (i.toNat,r.map fun d=>match d with | .int j=>j.toNat | _=>0) | _,_=>D.non) p.1 p.2)=Z4 rows b:=by
     unfold Z4
     rw [aK]
     refine bc fun p _=>?_
     have:(p.2.map iD).map (fun d=>match d with | .int j=>j.toNat | _=>0)=p.2:=by
      rw [aK]
      conv=>rhs;rw [<- List.map_id p.2]
      exact bc fun g _=>by simp
     simp only [Function.comp,this]
     simp
    rw [em]
    refine⟨rfl,_,⟨Z4 rows b,rfl,?_,fun d hd=>?_,rfl⟩,?_⟩
    ·simp [Z4,hb.len];omega
    ·obtain⟨p,_,rfl⟩:=am.mp hd
     exact⟨W0i b p,_,rfl⟩
    ·have e:((Q7 b:Int)+1)=((Q7 b+1:Nat):Int):=by omega
     show N1 wtA (wlA sp_numbered) (n+1) E [_,_,some (.dat (.lst ((K0 rows b).map iD))),some (.dat (.int ((Q7 b:Int)+1)))]
     rw [e]
     exact ih _ _ (hb.step w.len) (by omega) h
  ·rw [aC (by simpa using hm)]
   rw [aC hm]at h
   exact h _
noncomputable def sp_told_apart:O8:=fun rs Pr=>∃ra es rows,rs=[ra,.st (rsD rows)]/\L7 ra es/\Wf es rows/\es.length<=20000/\Pr (.st (.lst ((E7 es rows).map iD)))
theorem W0u:Q1g sp_told_apart:=fun rs P Q f ⟨ra,es,rows,e,h1,h2,h3,h4⟩=>⟨ra,es,rows,e,h1,h2,h3,f _ h4⟩
theorem W5k:∀rs Pr,rs.length=2->sp_told_apart rs Pr->Z5n sp_numbered sp_distances (Y5 Pr) (F6 Z0i rs):=by
 rintro rs Pr _ ⟨ra,es,rows,rfl,ha,wf,hl,h⟩
 unfold Z5n
 simp only [L5,P8,E9,Y4,D8,W6t,Q1v,C3,F8,D4,Q8m]
 refine⟨_,rfl,_,rfl,?_,ra,es,rows,true,?_,ha,wf,hl,?_⟩
 ·show(M4 (Q8 (O1 ra))&&true)=true
  rw [ha.rd,ha.arg];rfl
 ·show [nrm (Q8 (O1 ra)),_,_]=_
  rw [ha.rd,ha.nrm];rfl
 refine⟨_,rfl,_,rfl,?_,ra,es,rows,false,?_,ha,wf,hl,?_⟩
 ·show(M4 (Q8 (O1 ra))&&true)=true
  rw [ha.rd,ha.arg];rfl
 ·show [nrm (Q8 (O1 ra)),_,_]=_
  rw [ha.rd,ha.nrm];rfl
 refine⟨_,_,_,_,rfl,rfl,rfl,rfl,_,⟨W1 es rows,?_,?_,fun d hd=>?_,rfl⟩,?_⟩
 ·have:O7 ((X2 es rows true).map oD) ((X2 es rows false).map oD)=W1 es rows:=by
   unfold O7 W1
   rw [List.zip_map,aK];rfl
  rw [this];rfl
 ·simp [W1,X2];omega
 ·obtain⟨p,_,rfl⟩:=am.mp hd
  exact⟨by simp [Q1,Y9c],_,rfl⟩
 ·refine⟨es.length+1+1,?_⟩
  refine W9c wf hl (es.length+1) 0 _ J3.zero (by omega) fun o3=>?_
  exact⟨_,rfl,h⟩
noncomputable abbrev E1:=List Bool×List (List Nat)
noncomputable abbrev mD (m:E1):D:=.tup [.tup (m.1.map .bl),rsD m.2]
abbrev F7 (m:E1):Prop:=Wf m.1 m.2
noncomputable def B2 (rows:List (List Nat)) (s c:Nat):Nat:=(rows.getD s []).getD c 0
noncomputable def Z8:Nat->List Nat->List (Nat×Nat)->List (Nat×Nat)
 | _,[],S=>S
 | n,x::b,S=>Z8 (n+1) b (L8 S x n)
noncomputable def Z3 (rows:List (List Nat)) (b:List Nat) (x c:Nat):Nat:=b.getD (B2 rows (b.idxOf x) c) 0
noncomputable def K8 (es:List Bool) (rows:List (List Nat)):List Nat×List (List Nat):=Q1d es.length (Z3 rows (E7 es rows)) ((E7 es rows).getD 0 0)
noncomputable def E8 (es:List Bool) (rows:List (List Nat)):E1:=((K8 es rows).1.map fun x=>es.getD ((E7 es rows).idxOf x) false,(K8 es rows).2)
theorem W5o {rows:List (List Nat)}{s c:Nat}{r:List Nat} (h:rows[s]?=some r) (hc:c<r.length):r[c]?=some (B2 rows s c):=by
 unfold B2
 rw [aq,aq,h,Option.getD_some,ae hc,Option.getD_some]
theorem Wf.row {es:List Bool}{rows:List (List Nat)} (w:Wf es rows) {s:Nat} (h:s<es.length):∃r,rows[s]?=some r/\r.length=4/\∀c<4,r[c]?=some (B2 rows s c)/\B2 rows s c<es.length:=by
 have h':s<rows.length:=by rw [w.len];exact h
 have e:rows[s]?=some rows[s]:=ae h'
 have m:=bF h'
 refine⟨_,e,w.r4 _ m,fun c hc=>?_⟩
 have g:=W5o e (c:=c) (by rw [w.r4 _ m];exact hc)
 exact⟨g,w.lt _ m _ (aD g)⟩
theorem Q1k {c:Nat} (h:c∈B6):c<4:=by
 simp [B6]at h;omega
theorem Z9t {c:Nat} (h:c<4):c∈B6:=by
 simp [B6];omega
theorem Q0c {b:List Nat}{i:Nat} (h:i<b.length):b.getD i 0∈b:=by
 rw [aq,ae h];exact bF h
theorem Z9s {es:List Bool}{rows:List (List Nat)} (w:Wf es rows) {b:List Nat} (hb:b.length=es.length) {x c:Nat} (hx:x∈b) (hc:c∈B6):Z3 rows b x c∈b:=by
 have hi:=aO.mpr hx
 obtain⟨r,_,_,h⟩:=w.row (s:=b.idxOf x) (by rw [<- hb];exact hi)
 exact Q0c (by rw [hb];exact(h c (Q1k hc)).2)
theorem Q3z {es:List Bool}{rows:List (List Nat)} (w:Wf es rows):Z6d (Z3 rows (E7 es rows)) ((E7 es rows).getD 0 0) (E7 es rows) (K8 es rows).1 (K8 es rows).2:=by
 have B:=Z4e w
 exact W8z (fun k hk c hc=>Z9s w B.len hk hc) (Q0c (by rw [B.len];exact w.pos)) (eE B.len)
theorem Z9i {es:List Bool}{rows:List (List Nat)} (w:Wf es rows):F7 (E8 es rows):=by
 have W:=Q3z w
 have iJ:∀r∈(K8 es rows).2,∃k∈(K8 es rows).1,r=B6.map fun c=>(K8 es rows).1.idxOf (Z3 rows (E7 es rows) k c):=fun r hr=>by
  obtain⟨i,hi,rfl⟩:=bX.mp hr
  have fY:i<(K8 es rows).1.length:=by rw [<- W.len];exact hi
  have:=W.row i _ (ae fY)
  rw [ae hi]at this
  exact⟨_,bF fY,aB this⟩
 refine⟨?_,?_,fun r hr=>?_,fun r hr x hx=>?_⟩
 ·show(K8 es rows).2.length=((K8 es rows).1.map _).length
  rw [ag];exact W.len
 ·show 0<((K8 es rows).1.map _).length
  rw [ag]
  obtain⟨h,_⟩:=aI.mp W.zero;exact h
 ·obtain⟨k,_,rfl⟩:=iJ r hr;rfl
 ·show x<((K8 es rows).1.map _).length
  rw [ag]
  obtain⟨k,hk,rfl⟩:=iJ r hr
  obtain⟨c,hc,rfl⟩:=am.mp hx
  exact aO.mpr (W.mem k hk c hc)
theorem Z9h {es:List Bool}{rows:List (List Nat)} (w:Wf es rows):(E8 es rows).1.length<=es.length:=by
 have W:=Q3z w
 have h:=W.nd.length_le_of_subset fun x hx=>W.sub x hx
 rw [(Z4e w).len]at h
 show((K8 es rows).1.map _).length<=_
 rw [ag];exact h
theorem W0e {S:List (Nat×Nat)}{x n y:Nat}:G6 (L8 S x n) y=if y∈S.map (·.1)then G6 S y else if y=x then some n else none:=by
 have hn:∀{S:List (Nat×Nat)}{y:Nat},y∉S.map (·.1)->S.find? (fun q=>decide (q.1=y))=none:=fun {S y} h=>by
  rw [List.find?_eq_none]
  intro q hq z
  exact h (am.mpr ⟨q,hq,fE z⟩)
 have hs:∀{S:List (Nat×Nat)}{y:Nat},y∈S.map (·.1)->(S.find? (fun q=>decide (q.1=y))).isSome=true:=fun {S y} h=>by
  rw [List.find?_isSome]
  obtain⟨q,hq,rfl⟩:=am.mp h
  exact⟨q,hq,by simp⟩
 unfold L8 G6
 by_cases hx:x∈S.map (·.1)
 ·rw [aE hx]
  by_cases hy:y∈S.map (·.1)
  ·rw [aE hy]
  ·rw [aC hy,hn hy,aC (fun z:y=x=>hy (z ▸ hx))];rfl
 ·rw [aC hx,List.find?_append]
  by_cases hy:y∈S.map (·.1)
  ·rw [aE hy]
   have:=hs hy
   cases e:S.find? (fun q=>decide (q.1=y))with
   | none=>rw [e]at this;cases this
   | some q=>rfl
  ·rw [aC hy,hn hy]
   by_cases e:y=x
   ·subst e;simp
   ·rw [aC e]
    have:¬ x=y:=fun z=>e z.symm
    simp [this]
theorem Z2j {S:List (Nat×Nat)}{x n y:Nat}:y∈(L8 S x n).map (·.1) ↔ y∈S.map (·.1)\/y=x:=by
 unfold L8;split
 ·rename_i h
  constructor
  ·exact .inl
  ·rintro (h' | rfl) <;> assumption
 ·simp
theorem Y2n:∀(b:List Nat) (n:Nat) (S:List (Nat×Nat)) (x:Nat),G6 (Z8 n b S) x=if x∈S.map (·.1)then G6 S x else if x∈b then some (n+b.idxOf x)else none
 | [],n,S,x=>by
  rw [Z8]
  by_cases h:x∈S.map (·.1)
  ·rw [aE h]
  ·rw [aC h,aC (by simp)]
   unfold G6
   rw [List.find?_eq_none.mpr]
   ·rfl
   ·intro q hq z
    exact h (am.mpr ⟨q,hq,fE z⟩)
 | y::b,n,S,x=>by
  rw [Z8,Y2n b,W0e]
  by_cases h:x∈S.map (·.1)
  ·rw [aE h,aE (Z2j.mpr (.inl h)),aE h]
  ·by_cases e:x=y
   ·subst e
    rw [aE (Z2j.mpr (.inr rfl))]
    simp [h]
   ·have n1:¬ x∈(L8 S y n).map (·.1):=fun z=>by
     rcases Z2j.mp z with z | z
     ·exact h z
     ·exact e z
    have e':(y==x)=false:=by simpa using fun z=>e z.symm
    rw [aC n1,aC h]
    by_cases hb:x∈b
    ·rw [aE hb,aE (by simp [hb]),List.idxOf_cons,e']
     simp;omega
    ·rw [aC hb,aC (by simp [hb,e])]
theorem Y2o {b:List Nat}{x:Nat} (h:x∈b):D5 (kR (Z8 0 b [])) (ik x)=some (iD (b.idxOf x)):=by
 have:=Y4n (Z8 0 b []) x
 rw [Y2n,aC (by simp),aE h,cB]at this
 cases e:D5 (kR (Z8 0 b [])) (ik x)with
 | none=>rw [e]at this;cases this
 | some d=>rw [e]at this;exact congrArg some this
theorem Y5q (S:List (Nat×Nat)) (x n:Nat):(L8 S x n).length<=S.length+1:=by unfold L8;split <;> simp
theorem forS {E:F4}{o0 o1 o2 o6 o7:Option Sl}:∀(b:List Nat) (n:Nat) (S:List (Nat×Nat)) (o4 o5:Option Sl),S.length+b.length<=1000000 ->
  (∀o4 o5,E.nx [o0,o1,o2,some (.dk (kR (Z8 n b S))),o4,o5,o6,o7]) ->
  C4 (N7 2 (E6 (B0 4) (E6 (B0 5) O2))) (Q9n 3 (wV 5) (wV 4)) E ((b.zipIdx n).map fun p=>.tup [.int (p.2:Int),iD p.1]) [o0,o1,o2,some (.dk (kR S)),o4,o5,o6,o7]
 | [],n,S,o4,o5,_,h=>h o4 o5
 | x::b,n,S,o4,o5,hz,h=>by
  rw [aA]at hz
  have hl:=Y5q S x n
  have ih:=forS (E:=E) (o0:=o0) (o1:=o1) (o2:=o2) (o6:=o6) (o7:=o7) b (n+1) (L8 S x n) (some (.dat (iD n))) (some (.dat (iD x))) (by omega) h
  rw [bQ,ak,C4]
  simp only [Q1y,Q1w,L9,Q1x,W6n,C3]
  refine⟨_,rfl,rfl,_,_,rfl,_,_,rfl,rfl,_,rfl,_,rfl,iD x,ik x,rfl,rfl,_,rfl,_,rfl,szl (by simp [kvm];omega),?_⟩
  rw [Z8y]
  unfold L8 at ih
  by_cases hx:x∈S.map (·.1)
  ·rw [aE hx]at ih
   rw [aE (by simpa using hx)]
   exact ih
  ·rw [aC hx]at ih
   rw [aC (by simpa using hx)]
   have e:kR S++[(ik x,iD n)]=kR (S++[(x,n)]):=by simp [kvm]
   show C4 _ _ _ _ [_,_,_,some (.dk (kR S++[(ik x,iD n)])),_,_,_,_]
   rw [e]
   exact ih
theorem L7.ix {ra:R}{es:List Bool} (h:L7 ra es) {i:Nat} (hi:i<es.length) {Q:R->Prop} (q:Q (.st (.bl (es.getD i false)))):B4 ra (.st (.int (i:Int))) Q:=by
 have e:L3 (es.map D.bl) (i:Int)=some (.bl (es.getD i false)):=Y7 (by rw [ai,aq,ae hi];rfl)
 rcases h with rfl | rfl
 ·rw [Q8a];exact⟨_,e,q⟩
 ·rw [Q8b];exact⟨_,e,q⟩
theorem L7.bor {ra:R}{es:List Bool} (h:L7 ra es):Q5d (O1 ra)=some (O1 ra):=by rcases h with rfl | rfl <;> rfl
theorem Z2e {b:List Nat}{i:Nat} (h:i<b.length) {Q:R->Prop} (q:Q (.st (iD (b.getD i 0)))):B4 (.st (.lst (b.map iD))) (.st (.int (i:Int))) Q:=by
 rw [Z2t]
 exact⟨_,Y7 (by rw [ai,aq,ae h];rfl),q⟩
noncomputable def Q3e:O8:=fun rs Pr=>∃ra es rows,rs=[ra,.st (rsD rows)]/\L7 ra es/\Wf es rows/\es.length<=20000/\Pr (.st (mD (E8 es rows)))
theorem W0s:Q1g Q3e:=fun rs P Q f ⟨ra,es,rows,e,h1,h2,h3,h4⟩=>⟨ra,es,rows,e,h1,h2,h3,f _ h4⟩
theorem Y9k {K:Fg9}{a:Addr}{es:List Bool}{rows:List (List Nat)} (w:Wf es rows) {b:List Nat} (hb:b.length=es.length) {x c:Nat} (hx:x∈b) (hc:c∈B6) :
  Q5q (Q9u K) [.cl a (N4 K a (kR (Z8 0 b []))),.dat (rsD rows),.dat (.lst (b.map iD))] [.st (iD x),.st (iD c)] (.st (iD (Z3 rows b x c))):=by
 have hi:b.idxOf x<es.length:=by rw [<- hb];exact aO.mpr hx
 obtain⟨r,_,_,h3⟩:=w.row hi
 refine⟨[iD x,iD c],iD (Z3 rows b x c),rfl,rfl,?_⟩
 unfold Q9u
 simp only [E2,C3,Y2c]
 refine⟨_,rfl,_,rfl,a,_,rfl,_,rfl,iD x,ik x,_,rfl,rfl,Y2o hx,?_⟩
 obtain⟨r,h1,h2,h3⟩:=w.row hi
 rw [N9,Q8b]
 refine⟨rD r,Y7 (by rw [ai,h1];rfl),_,rfl,?_⟩
 rw [N9,Q8b]
 refine⟨iD (B2 rows (b.idxOf x) c),Y7 (by rw [ai,(h3 c (Q1k hc)).1];rfl),?_⟩
 exact Z2e (by rw [hb];exact(h3 c (Q1k hc)).2) rfl
theorem W5c {FC:FCT}{K:Fg9}:∀rs Pr,rs.length=2->Q3e rs Pr->Z5j FC K sp_told_apart (sp_walkedK FC) (Y5 Pr) (F6 Z0g rs):=by
 rintro rs Pr _ ⟨ra,es,rows,rfl,ha,wf,hl,h⟩
 have B:=Z4e wf
 have W:=Q3z wf
 have kj:0<(E7 es rows).length:=by rw [B.len];exact wf.pos
 unfold Z5j
 simp only [L5,P8,E9,Q1v,D8,C3,D4,W6l,W6c,S9,W6e,Z3i,W5z,E2,F8,X6,s_tup,K9,V1,Q8k,Q1y,Q1w,L9,Q1x]
 refine⟨_,rfl,_,rfl,?_,ra,es,rows,?_,ha,wf,hl,?_⟩
 ·show(M4 (Q8 (O1 ra))&&true)=true
  rw [ha.rd,ha.arg];rfl
 ·show [nrm (Q8 (O1 ra)),_]=_
  rw [ha.rd,ha.nrm];rfl
 refine⟨_,rfl,_,rfl,?_⟩
 have e3:G1 ((E7 es rows).map iD)=((E7 es rows).zipIdx 0).map fun p=>.tup [.int (p.2:Int),iD p.1]:=by
  unfold G1;rw [iE,aK];rfl
 rw [e3]
 refine forS (E7 es rows) 0 [] none none (by simp [B.len];omega) fun o4 o5=>?_
 refine⟨_,rfl,fun a=>?_⟩
 refine⟨_,rfl,?_⟩
 rw [N9]
 refine Z2e (i:=0) kj ?_
 refine⟨rfl,_,⟨_,_,rfl,rfl,N4.hid,_,_,rfl,rfl,trivial,_,_,rfl,rfl,trivial,rfl⟩,fun f Φ hF=>?_⟩
 refine⟨_,⟨Nat,inferInstance,iD,ik,Z3 rows (E7 es rows),(E7 es rows).getD 0 0,E7 es rows,f,Φ,_,fun _=>rfl,Q2n,rfl,hF,Q0c kj,by rw [B.len];omega,fun k hk c hc=>⟨Z9s wf B.len hk hc,Y9k wf B.len hk hc⟩,rfl⟩,?_⟩
 have eW:Q1d (E7 es rows).length (Z3 rows (E7 es rows)) ((E7 es rows).getD 0 0)=K8 es rows:=by unfold K8;rw [B.len]
 rw [eW]
 refine⟨_,rfl,_,rfl,rfl,_,_,rfl,_,_,rfl,rfl,_,rfl,_,rfl,?_,?_⟩
 ·have gU:=Z9h wf
  have:(E8 es rows).1.length=(K8 es rows).1.length:=by simp [E8]
  exact sz (by rw [ag];omega)
 show K7 (B0 0) P9 _ _ [none,Q5d (O1 ra),some (.cl a (N4 K a (kR (Z8 0 (E7 es rows) []))))] _
 rw [ha.bor]
 refine Y8 (f:=fun d=>match d with | .int i=>.bl (es.getD ((E7 es rows).idxOf i.toNat) false) | d=>d) (rest:=[some (O1 ra),some (.cl a (N4 K a (kR (Z8 0 (E7 es rows) []))))]) _ _ _ (fun d hd Q' q=>?_) ?_
 ·obtain⟨x,hx,rfl⟩:=am.mp hd
  have nG:=W.sub x hx
  simp only [E9,E2,C3,Y2c]
  refine⟨_,rfl,a,_,rfl,_,rfl,iD x,ik x,_,rfl,rfl,Y2o nG,?_⟩
  rw [ha.rd]
  exact ha.ix (by rw [<- B.len];exact aO.mpr nG) (by simpa using q)
 ·rw [Z7]
  refine⟨_,rfl,_,rfl,_,rfl,sz (by simp),?_⟩
  have e:((K8 es rows).1.map fun a=>iD a).map (fun d=>match d with | .int i=>D.bl (es.getD ((E7 es rows).idxOf i.toNat) false) | d=>d)=(E8 es rows).1.map .bl:=by
   unfold E8
   rw [aK,aK]
   exact bc fun x _=>by simp
  show Pr (.st (.tup [.tup _,_]))
  rw [e]
  exact h
section
variable {α:Type} [DecidableEq α]
end
noncomputable abbrev pT (p:Nat×Nat):List D:=[iD p.1,iD p.2]
noncomputable abbrev pK (p:Nat×Nat):List A7:=[ik p.1,ik p.2]
theorem Y1d (a b:Nat×Nat) (h:pK a=pK b):a=b:=by
 have h1:=(List.cons.inj h).1
 have h2:=(List.cons.inj (List.cons.inj h).2).1
 exact Prod.ext (Q2n _ _ h1) (Q2n _ _ h2)
noncomputable def M6 (n1 n2:Nat):List (Nat×Nat):=(List.range n1).flatMap fun i=>(List.range n2).map fun j=>(i,j)
theorem Q4c {n1 n2:Nat}{p:Nat×Nat}:p∈M6 n1 n2 ↔ p.1<n1/\p.2<n2:=by
 unfold M6
 simp only [List.mem_flatMap,aY,am]
 constructor
 ·rintro ⟨i,hi,j,hj,rfl⟩;exact⟨hi,hj⟩
 ·rintro ⟨h1,h2⟩;exact⟨p.1,h1,p.2,h2,rfl⟩
theorem Z2y (n1 n2:Nat):(M6 n1 n2).length=n1*n2:=by
 have:∀(l:List Nat),(l.map fun _=>n2).sum=l.length*n2:=by
  intro l;induction l with
  | nil=>simp
  | cons a l ih=>rw [ak,List.sum_cons,ih,aA,Nat.succ_mul];omega
 simp [M6,List.length_flatMap,this]
theorem F9 {b:List D}{i:Nat}{d:D} (h:b[i]?=some d) {Q:R->Prop} (q:Q (.st d)):B4 (.st (.tup b)) (.st (.int (i:Int))) Q:=by
 rw [Q8b];exact⟨_,Y7 h,q⟩
theorem Q3o {es:List Bool}{i:Nat} (h:i<es.length):(es.map D.bl)[i]?=some (.bl (es.getD i false)):=by
 rw [ai,aq,ae h];rfl
section
variable {α:Type} [DecidableEq α]
section T
variable {FC:FCT}{f f2:Addr} {Φ Φ2:Hp->Prop}{sp rF:D6}{step:α->Nat->α}{fin:α->Bool}{ts:α->List D}{key:α->List A7}
end T
end
noncomputable abbrev scr (ns:List Int):D:=.lst (ns.map D.int)
noncomputable def Q0w (ns:List Int) (k:Int):Int:=if ns=[]then 7*k else(ns[(k % (ns.length:Int)).toNat]?.getD 0)+6553*(k / (ns.length:Int))
noncomputable def Q6f:D6:=fun rs r=>∃ns k,rs=[.st (scr ns),.st (.int k)]/\ns.length<=63/\r=.st (.int (Q0w ns k))
theorem Y7h (ns:List Int):D.depth (scr ns)<=60:=by
 have:D.depths (ns.map D.int)=0:=by
  induction ns with
  | nil=>simp [D.depths]
  | cons n r ih=>simp [D.depths,D.depth,ih]
 simp [D.depth,this]
theorem Y5y {ns:List Int}{k:Int} (h:ns≠[]):L3 (ns.map D.int) (k % (ns.length:Int))=some (.int (ns[(k % (ns.length:Int)).toNat]?.getD 0)):=by
 have hp:0<(ns.length:Int):=by have:=List.length_pos_iff.mpr h;omega
 have h0:=iH k (by omega:(ns.length:Int)≠0)
 have h1:=eU k hp
 have bY:(k % (ns.length:Int)).toNat<ns.length:=by omega
 have e:k % (ns.length:Int)=(((k % (ns.length:Int)).toNat:Nat):Int):=by omega
 have q:L3 (ns.map D.int) (((k % (ns.length:Int)).toNat:Nat):Int)=some (.int (ns[(k % (ns.length:Int)).toNat]?.getD 0)):=Y7 (by rw [ai,ae bY];rfl)
 rw [<- e]at q
 exact q
theorem W4w:∀rs r,rs.length=2->Q6f rs r->Q9t (T0 r) (F6 Z5y rs):=by
 rintro rs r _ ⟨ns,k,rfl,hn,rfl⟩
 have hd:=Y7h ns
 by_cases h:ns=[]
 ·subst h
  simp [Q9t,Q1e,Q0w,hd,D.depth,D.depths]
 ·have hp:0<(ns.length:Int):=by have:=List.length_pos_iff.mpr h;omega
  simp [Q9t,Q1e,Q0a,Q0w,hd,h,Y5y h]
  omega
noncomputable def V9 (ns:List Int) (k m:Int):Int :=
 let c:=((Q0w ns k) % 2147483563*69069+104723*(k+1)) % 2147483563
 let c:=(c*c+c / 3) % 2147483399
 (c*c+c / 7) % 2147483647 / 11 % m
noncomputable def Q3d:D6:=fun rs r=>∃ns k m,rs=[.st (scr ns),.st (.int k),.st (.int m)]/\ns.length<=63/\0<m/\r=.st (.int (V9 ns k m))
theorem W4z:∀rs r,rs.length=3->Q3d rs r->Z5d Q6f (T0 r) (F6 Z5z rs):=by
 rintro rs r _ ⟨ns,k,m,rfl,hn,hm,rfl⟩
 have key:∀c:Int,0<=c->c<2147483648->Q1e c c:=fun c h1 h2=>.inl ⟨by omega,by omega⟩
 simp [Z5d,Q6f,hm,hn]
 refine⟨_,⟨ns,k,⟨rfl,rfl⟩,hn,rfl⟩,?_⟩
 have e1:=iH (Q0w ns k) (by decide:(2147483563:Int)≠0)
 have e2:=eU (Q0w ns k) (by decide:(0:Int)<2147483563)
 have b1:=iH (Q0w ns k % 2147483563*69069+104723*(k+1)) (by decide:(2147483563:Int)≠0)
 have b2:=eU (Q0w ns k % 2147483563*69069+104723*(k+1)) (by decide:(0:Int)<2147483563)
 simp only [Q5z,Y0x,Q0l,T2,N9,W1s,W1m,V9]
 generalize (Q0w ns k % 2147483563*69069+104723*(k+1)) % 2147483563=c at b1 b2 ⊢
 have b3:=iH (c*c+c / 3) (by decide:(2147483399:Int)≠0)
 have b4:=eU (c*c+c / 3) (by decide:(0:Int)<2147483399)
 generalize (c*c+c / 3) % 2147483399=c2 at b3 b4 ⊢
 have cd:∀c:Int,Q0a c 3/\Q0a c 7/\Q0a c 11:=fun c=>⟨⟨by decide,by decide⟩,⟨by decide,by decide⟩,⟨by decide,by decide⟩⟩
 exact⟨by decide,.inl ⟨by omega,by omega⟩,.inl ⟨by decide,by decide⟩,by decide,key _ b1 (by omega),(cd c).1,by decide,key _ b3 (by omega),(cd c2).2.1,by decide,(cd _).2.2,hm,trivial⟩
theorem Y7n (ns:List Int) (k:Int) {m:Int} (h:0<m):0<=V9 ns k m:=iH _ (by omega)
theorem Y7m (ns:List Int) (k:Int) {m:Int} (h:0<m):V9 ns k m<m:=eU _ h
noncomputable def Q6 (ns:List Int) (k:Int) (m:Nat):Nat:=(V9 ns k (m:Int)).toNat
theorem Q5h (ns:List Int) (k:Int) {m:Nat} (h:0<m):V9 ns k (m:Int)=(Q6 ns k m:Int):=by
 have:=Y7n ns k (m:=(m:Int)) (by omega)
 unfold Q6;omega
theorem Q7k (ns:List Int) (k:Int) {m:Nat} (h:0<m):Q6 ns k m<m:=by
 have:=Y7m ns k (m:=(m:Int)) (by omega)
 have:=Q5h ns k h
 omega
noncomputable def S0 (ns:List Int) (at_:Int) (most:Nat):Nat:=1+Q6 ns at_ most
noncomputable def E3 (ns:List Int) (at_:Int) (most:Nat):E1 :=
 ((List.range (S0 ns at_ most)).map fun(k:Nat)=>decide (V9 ns (at_+1+(k:Int)) 2=0),(List.range (S0 ns at_ most)).map fun(k:Nat)=>B6.map fun(j:Nat)=>Q6 ns (at_+7+4*(k:Int)+(j:Int)) (S0 ns at_ most))
theorem Z2f (ns:List Int) (at_:Int) (most:Nat):(E3 ns at_ most).1.length=S0 ns at_ most:=by simp [E3]
theorem W0f (ns:List Int) (at_:Int) {most:Nat} (h:0<most):(E3 ns at_ most).1.length<=most:=by
 rw [Z2f];unfold S0;have:=Q7k ns at_ h;omega
theorem W0g (ns:List Int) (at_:Int) {most:Nat} (h:0<most):F7 (E3 ns at_ most):=by
 have hp:0<S0 ns at_ most:=by unfold S0;omega
 refine⟨by simp [E3],by rw [Z2f];exact hp,fun r hr=>?_,fun r hr x hx=>?_⟩
 ·obtain⟨k,_,rfl⟩:=am.mp hr;rfl
 ·obtain⟨k,_,rfl⟩:=am.mp hr
  obtain⟨j,_,rfl⟩:=am.mp hx
  rw [Z2f];exact Q7k ns _ hp
theorem Y1y (ns:List Int) (hn:ns.length<=63) (at_:Int) {n:Nat} (h0:0<n) {E:F4}{o2 o4:Option Sl}:∀(l:List Nat) (ds:List D) (o6:Option Sl),ds.length+l.length<=1000 ->
  (∀o6,E.nx [some (.dat (scr ns)),some (.dat (.int at_)),o2,some (.dat (iD n)),o4,some (.own (ds++l.map fun(k:Nat)=>rD (B6.map fun(j:Nat)=>Q6 ns (at_+7+4*(k:Int)+(j:Int)) n))),o6]) ->
  C4 (B0 6) (S5 5 (A9 (C7 O4 (A2 (M0 1 [0,3,1,6] (Q2p (A2 (wC (.int 4)) A4)) (B0 0) P9 (A9 (O5 Q3d (A2 (wV 1) (A2 (A3 F2 (A3 F2 (A3 F2 (wV 3) (wC (.int 7))) (A3 W3 (wC (.int 4)) (wV 4))) (wV 0)) (A2 (wV 2) A4)))))) A4))))
   E (l.map iD) [some (.dat (scr ns)),some (.dat (.int at_)),o2,some (.dat (iD n)),o4,some (.own ds),o6]
 | [],ds,o6,_,h=>by simpa [C4]using h o6
 | k::l,ds,o6,hz,h=>by
  rw [aA]at hz
  have e4:J4 0 (Int.toNat 4)=B6.map iD:=rfl
  rw [ak,C4]
  simp only [L9,Q1u,E9,K9,D8,V1,Q8l,F8,D4]
  refine⟨_,rfl,_,rfl,by decide,by decide,by rw [e4];exact sz (by simp),?_⟩
  rw [e4]
  refine Y8 (f:=fun d=>match d with | .int j=>iD (Q6 ns (at_+7+4*(k:Int)+j) n) | d=>d) _ _ _ (fun d hd Q' q=>?_) ?_
  ·obtain⟨j,_,rfl⟩:=am.mp hd
   simp only [E9,Y4,D8,C3,E2,F8,D4]
   refine⟨_,rfl,_,rfl,_,rfl,?_⟩
   show W3 (R.st (.int 4)) (R.st (.int (k:Int))) _
   rw [Y0x]
   refine⟨.inl ⟨by decide,by decide⟩,?_⟩
   rw [Q0l]
   refine⟨_,rfl,?_⟩
   rw [N9,Q0l]
   refine⟨_,rfl,rfl,_,⟨ns,at_+7+4*(k:Int)+(j:Int),(n:Int),rfl,hn,by omega,rfl⟩,?_⟩
   rw [Q5h ns _ h0]
   exact q
  ·rw [Z7]
   refine⟨_,rfl,_,rfl,szl (by omega),?_⟩
   have e:(B6.map iD).map (fun d=>match d with | .int j=>iD (Q6 ns (at_+7+4*(k:Int)+j) n) | d=>d)=(B6.map fun(j:Nat)=>Q6 ns (at_+7+4*(k:Int)+(j:Int)) n).map iD:=by rfl
   rw [e]
   refine Y1y ns hn at_ h0 l (ds++[rD (B6.map fun(j:Nat)=>Q6 ns (at_+7+4*(k:Int)+(j:Int)) n)]) _ (by simp;omega) fun o6=>?_
   simpa using h o6
noncomputable def Q8q:D6:=fun rs r=>∃ns at_ most,rs=[.st (scr ns),.st (.int at_),.st (iD most)]/\ns.length<=63/\0<most/\most<=50/\r=.st (mD (E3 ns at_ most))
theorem W5f:∀rs r,rs.length=3->Q8q rs r->Z5f Q3d (T0 r) (F6 Q6s rs):=by
 rintro rs r _ ⟨ns,at_,most,rfl,hn,h0,h1,rfl⟩
 have hN:1+V9 ns at_ (most:Int)=(S0 ns at_ most:Int):=by rw [Q5h ns at_ h0];unfold S0;omega
 have hp:0<S0 ns at_ most:=by unfold S0;omega
 have gU:S0 ns at_ most<=50:=by unfold S0;have:=Q7k ns at_ h0;omega
 have er:J4 0 (S0 ns at_ most:Int).toNat=(List.range (S0 ns at_ most)).map iD:=by simp [J4]
 unfold Z5f
 simp only [L5,P8,E2,F8,Y4,D8,C3,D4,K9,V1,Q8l,s_lst,S9,Q1z,X6,s_tup,E9]
 refine⟨_,rfl,_,rfl,_,rfl,rfl,_,⟨ns,at_,(most:Int),rfl,hn,by omega,rfl⟩,?_⟩
 rw [Q0l,hN,T2]
 refine⟨_,rfl,_,rfl,by omega,by omega,?_⟩
 rw [er]
 refine⟨sz (by simp;omega),?_⟩
 refine Y8 (f:=fun d=>match d with | .int k=>.bl (decide (V9 ns (at_+1+k) 2=0)) | d=>d) _ _ _ (fun d hd Q' q=>?_) ?_
 ·obtain⟨k,_,rfl⟩:=am.mp hd
  simp only [E9,s_b,E2,Y4,D8,C3,F8,D4]
  refine⟨_,rfl,_,rfl,?_⟩
  show F2 (R.st _) (R.st _) _
  rw [Q0l]
  refine⟨_,rfl,?_⟩
  rw [N9,Q0l]
  refine⟨rfl,_,⟨ns,at_+1+(k:Int),2,rfl,hn,by decide,rfl⟩,?_⟩
  rw [Q0m]
  refine⟨_,_,rfl,rfl,by simp [D.depth],?_⟩
  simp only [o_e1,cQ,dh]
  have e:(V9 ns (at_+1+(k:Int)) 2==0)=decide (V9 ns (at_+1+(k:Int)) 2=0):=by
   by_cases h:V9 ns (at_+1+(k:Int)) 2=0
   ·rw [cu h,h];rfl
   ·rw [aM h];exact bv.mpr h
  rw [e]
  exact q
 ·rw [Z7]
  refine⟨_,rfl,?_⟩
  rw [T2]
  refine⟨_,rfl,sz (by simp),_,rfl,_,rfl,by omega,by omega,?_⟩
  rw [er]
  refine Y1y ns hn at_ hp (List.range (S0 ns at_ most)) [] _ (by simp;omega) fun o6=>?_
  refine⟨_,rfl,_,rfl,?_⟩
  simp only [D4,V0,Z7]
  refine⟨_,rfl,_,rfl,sz (by simp),?_⟩
  show R.st _=R.st _
  have e1:((List.range (S0 ns at_ most)).map iD).map (fun d=>match d with | .int k=>D.bl (decide (V9 ns (at_+1+k) 2=0)) | d=>d)=(E3 ns at_ most).1.map .bl:=by
   unfold E3;rw [aK,aK];rfl
  have e2:(List.range (S0 ns at_ most)).map (fun(k:Nat)=>rD (B6.map fun(j:Nat)=>Q6 ns (at_+7+4*(k:Int)+(j:Int)) (S0 ns at_ most)))=(E3 ns at_ most).2.map rD:=by
   unfold E3;rw [aK];rfl
  rw [bM,e1,e2]
noncomputable abbrev pD (p:Nat×Nat):D:=.tup (pT p)
section
variable {m1 m2:E1}
end
section
variable {α:Type}
noncomputable def run (step:α->Nat->α) (k:α) (w:List Nat):α:=w.foldl step k
def C8 (w:List Nat):Prop:=∀c∈w,c∈B6
theorem C8.nil:C8 []:=fun c h=>by cases h
theorem C8.app {u w:List Nat} (h1:C8 u) (h2:C8 w):C8 (u++w):=fun c h=>(aR.mp h).elim (h1 c) (h2 c)
theorem C8.snoc {u:List Nat}{c:Nat} (h1:C8 u) (h2:c∈B6):C8 (u++[c]):=h1.app fun d hd=>by rw [aN.mp hd];exact h2
noncomputable def W7 (c:Nat):Str:=match c with
 | 0=>"0"
 | 1=>"1"
 | 2=>"a"
 | _=>"b"
noncomputable def V2 (w:List Nat):Str:=w.foldl (fun t c=>t++W7 c) ""
theorem W8g (w:List Nat) (c:Nat):V2 (w++[c])=V2 w++W7 c:=by unfold V2;rw [List.foldl_append];rfl
end
section
variable {α:Type} [DecidableEq α]
end
noncomputable def stW (m:E1) (w:List Nat):Nat:=run (B2 m.2) 0 w
noncomputable def R5 (m:E1) (w:List Nat):Bool:=m.1.getD (stW m w) false
theorem W1a {ks:List D}{d:D} (h:ks.Nodup):(S3 ks d).Nodup:=by
 unfold S3;split
 ·exact h
 ·rename_i n
  exact bS.mpr ⟨h,by simp,fun a ha b hb=>by
   rw [aN]at hb;rintro rfl;exact n (hb ▸ ha)⟩
theorem Y0i:∀(ds ks:List D),ks.Nodup->(T3 ks ds).Nodup
 | [],ks,h=>h
 | d::r,ks,h=>Y0i r _ (W1a h)
theorem Y3l:∀(ds ks:List D) (x:D),x∈T3 ks ds->x∈ks\/x∈ds
 | [],ks,x,h=>.inl h
 | d::r,ks,x,h=>by
  rcases Y3l r _ x h with h | h
  ·unfold S3 at h
   split at h
   ·exact .inl h
   ·rcases aR.mp h with h | h
    ·exact .inl h
    ·exact .inr (by rw [aN.mp h];simp)
  ·exact .inr (by simp [h])
theorem W1h {ds:List D}{j:Nat} (h:j<(T3 [] ds).length):j∈N8 [] ds:=by
 rw [Q4f,am]
 have hm:=bF h
 refine⟨(T3 [] ds)[j],?_,(Y0i ds [] (by simp)).idxOf_getElem j h⟩
 rcases Y3l ds [] _ hm with z | z
 ·cases z
 ·exact z
theorem W1i {ds:List D}{x:Nat} (h:x∈N8 [] ds):x<(T3 [] ds).length:=by
 rw [Q4f,am]at h
 obtain⟨d,hd,rfl⟩:=h
 exact aO.mpr (Q5x ds [] (.inr hd))
theorem Y0p {ds:List D}{x:Nat} (cA:N8 [] ds≠[]) (h:x<=Q7 (N8 [] ds)):x∈N8 [] ds :=
 W1h (Nat.lt_of_le_of_lt h (W1i (Q5v cA)))
theorem Y8g {φ:Nat->Nat}{k k':Nat} (hk:k'<=k) (on:∀y,y<k->∃x,x<k'/\φ x=y) {a b:Nat} (ha:a<k') (hb:b<k') (e:φ a=φ b):a=b:=by
 rcases Nat.decEq a b with ne | eq
 ·exfalso
  have sub:List.range k ⊆ ((List.range k').erase b).map φ:=fun y hy=>by
   obtain⟨x,hx,rfl⟩:=on y (aY.mp hy)
   by_cases z:x=b
   ·subst z
    exact am.mpr ⟨a,(List.mem_erase_of_ne ne).mpr (aY.mpr ha),e⟩
   ·exact am.mpr ⟨x,(List.mem_erase_of_ne z).mpr (aY.mpr hx),rfl⟩
  have:=List.nodup_range.length_le_of_subset sub
  rw [ag,List.length_erase_of_mem (aY.mpr hb),bo,bo]at this
  omega
 ·exact eq
noncomputable abbrev blk (b:List Nat) (i:Nat):Nat:=b.getD i 0
theorem Q2l {b:List Nat}{i:Nat} (h:i<b.length):b[i]?=some (blk b i):=by
 rw [ae h]
 show _=some (b.getD i 0)
 rw [aq,ae h];rfl
theorem W5p {es:List Bool}{rows:List (List Nat)} (w:Wf es rows) {f:Nat->Nat}{i j:Nat}{ri rj:List Nat} (hi:rows[i]?=some ri) (hj:rows[j]?=some rj) (li:i<es.length) (lj:j<es.length) :
  ri.map f=rj.map f ↔ ∀c,c<4->f (B2 rows i c)=f (B2 rows j c):=by
 obtain⟨r,e1,l1,g1⟩:=w.row li
 obtain⟨r',e2,l2,g2⟩:=w.row lj
 rw [hi]at e1;cases e1
 rw [hj]at e2;cases e2
 constructor
 ·intro h c hc
  have:=congrArg (fun l=>l[c]?) h
  simp only [ai,(g1 c hc).1,(g2 c hc).1]at this
  exact aB this
 ·intro h
  refine List.ext_getElem? fun c=>?_
  rw [ai,ai]
  rcases bE c 4 with hc | hc
  ·rw [(g1 c hc).1,(g2 c hc).1]
   exact congrArg some (h c hc)
  ·rw [aJ.mpr (by omega),aJ.mpr (by omega)]
theorem Z9w {rows:List (List Nat)}{b:List Nat}{i:Nat}{r:List Nat} (hb:i<b.length) (hr:rows[i]?=some r):(Z4 rows b)[i]?=some (Q0i b (blk b i,r)):=by
 unfold Z4
 have e:(b.zip rows)[i]?=some (blk b i,r):=bV.mpr ⟨Q2l hb,hr⟩
 rw [ai,e]
 rfl
theorem Z1n {a b:Nat} (h:iD a=iD b):a=b:=by
 have:(a:Int)=(b:Int):=D.int.inj h
 omega
theorem Z9u:∀{l m:List Nat},l.map iD=m.map iD->l=m
 | [],[],_=>rfl
 | [],_::_,h=>by cases h
 | _::_,[],h=>by cases h
 | a::l,b::m,h=>by
  rw [ak,ak,dZ]at h
  rw [Z1n h.1,Z9u h.2]
theorem W0h {b:List Nat}{p q:Nat×List Nat}:Q0i b p=Q0i b q ↔ p.1=q.1/\p.2.map (blk b)=q.2.map (blk b):=by
 constructor
 ·intro h
  have h:=D.tup.inj h
  rw [dZ,dZ]at h
  exact⟨Z1n h.1,Z9u (D.tup.inj h.2.1)⟩
 ·rintro ⟨h1,h2⟩
  unfold Q0i
  rw [h1]
  show D.tup [_,rD (p.2.map (blk b))]=D.tup [_,rD (q.2.map (blk b))]
  rw [h2]
theorem Q6j {es:List Bool}{rows:List (List Nat)} (w:Wf es rows) {b:List Nat} (hb:J3 es.length b) {i j:Nat} (hi:i<es.length) (hj:j<es.length) :
  blk (K0 rows b) i=blk (K0 rows b) j ↔ blk b i=blk b j/\∀c,c<4->blk b (B2 rows i c)=blk b (B2 rows j c):=by
 obtain⟨r,e1,_,_⟩:=w.row hi
 obtain⟨r',e2,_,_⟩:=w.row hj
 have m1:=Z9w (b:=b) (by rw [hb.len];exact hi) e1
 have m2:=Z9w (b:=b) (by rw [hb.len];exact hj) e2
 have hB:=hb.step w.len
 have q:=Y0q m1 m2
 have g1:(N8 [] (Z4 rows b))[i]?=some (blk (K0 rows b) i):=Q2l (by show i<(K0 rows b).length;rw [hB.len];exact hi)
 have g2:(N8 [] (Z4 rows b))[j]?=some (blk (K0 rows b) j):=Q2l (by show j<(K0 rows b).length;rw [hB.len];exact hj)
 rw [g1,g2,Option.some_inj,W0h,W5p w e1 e2 hi hj]at q
 exact q
theorem Y3t {es:List Bool}{rows:List (List Nat)} (w:Wf es rows) {b:List Nat} (hb:J3 es.length b) (full:∀x,x<=Q7 b->x∈b) (hm:¬ Q7 b+1<=Q7 (K0 rows b)) {i j:Nat} (hi:i<es.length) (hj:j<es.length) (e:blk b i=blk b j) :
  blk (K0 rows b) i=blk (K0 rows b) j:=by
 have hB:=hb.step w.len
 have lb:∀{i:Nat},i<es.length->i<b.length:=fun h=>by rw [hb.len];exact h
 have lB:∀{i:Nat},i<es.length->i<(K0 rows b).length:=fun h=>by rw [hB.len];exact h
 have fφ:∀{i:Nat},i<es.length->blk b ((K0 rows b).idxOf (blk (K0 rows b) i))=blk b i:=fun {i} h=>by
  have jm:blk (K0 rows b) i∈K0 rows b:=Q0c (lB h)
  have bY:=aO.mpr jm
  have qt:(K0 rows b).idxOf (blk (K0 rows b) i)<es.length:=by rw [<- hB.len];exact bY
  have e0:blk (K0 rows b) ((K0 rows b).idxOf (blk (K0 rows b) i))=blk (K0 rows b) i:=by
   have:=Q2l bY
   rw [ae bY,cP bY]at this
   exact(aB this).symm
  exact((Q6j w hb qt h).mp e0).1
 refine Y8g (φ:=fun x=>blk b ((K0 rows b).idxOf x)) (k:=Q7 b+1) (k':=Q7 (K0 rows b)+1) (by omega) (fun y hy=>?_) (Nat.lt_succ_of_le (Q7w (Q0c (lB hi)))) (Nat.lt_succ_of_le (Q7w (Q0c (lB hj)))) ?_
 ·obtain⟨i,hi,rfl⟩:=bX.mp (full y (by omega))
  have fY:i<es.length:=by rw [<- hb.len];exact hi
  refine⟨blk (K0 rows b) i,Nat.lt_succ_of_le (Q7w (Q0c (lB fY))),?_⟩
  show blk b _=_
  rw [fφ fY]
  have:=Q2l hi
  rw [ae hi]at this
  exact(aB this).symm
 ·show blk b _=blk b _
  rw [fφ hi,fφ hj,e]
noncomputable def L0 (es:List Bool) (rows:List (List Nat)) (i:Nat) (w:List Nat):Bool:=es.getD (run (B2 rows) i w) false
theorem Q6c {es:List Bool}{rows:List (List Nat)} (wf:Wf es rows):∀(w:List Nat) (i:Nat),C8 w->i<es.length->run (B2 rows) i w<es.length
 | [],i,_,h=>h
 | c::w,i,hw,h=>by
  obtain⟨_,_,_,g⟩:=wf.row h
  exact Q6c wf w _ (fun d hd=>hw d (by simp [hd])) (g c (Q1k (hw c (by simp)))).2
structure Q3m (es:List Bool) (rows:List (List Nat)) (b:List Nat):Prop where
 blk:J3 es.length b
 full:∀x,x<=Q7 b->x∈b
 fin:∀i j,i<es.length->j<es.length->MC.blk b i=MC.blk b j->es.getD i false=es.getD j false
 apart:∀i j,i<es.length->j<es.length->MC.blk b i≠MC.blk b j->∃w,C8 w/\L0 es rows i w≠L0 es rows j w
theorem Q3m.step {es:List Bool}{rows:List (List Nat)}{b:List Nat} (w:Wf es rows) (P:Q3m es rows b):Q3m es rows (K0 rows b) where
 blk:=P.blk.step w.len
 full:=fun x hx=>Y0p (fun z=>by have h:=(P.blk.step w.len).len;unfold K0 at h;rw [z]at h;have:=w.pos;simp at h;omega) hx
 fin:=fun i j hi hj e=>P.fin i j hi hj ((Q6j w P.blk hi hj).mp e).1
 apart:=fun i j hi hj ne=>by
  by_cases h:MC.blk b i=MC.blk b j
  ·have:¬ ∀c,c<4->MC.blk b (B2 rows i c)=MC.blk b (B2 rows j c):=fun z=>ne ((Q6j w P.blk hi hj).mpr ⟨h,z⟩)
   obtain⟨c,hc⟩:=Classical.not_forall.mp this
   obtain⟨fC,cA⟩:=Classical.not_imp.mp hc
   obtain⟨_,_,_,g1⟩:=w.row hi
   obtain⟨_,_,_,g2⟩:=w.row hj
   obtain⟨u,hu,q⟩:=P.apart _ _ (g1 c fC).2 (g2 c fC).2 cA
   exact⟨c::u,fun d hd=>by rcases aj.mp hd with rfl | hd;exact Z9t fC;exact hu d hd,q⟩
  ·exact P.apart i j hi hj h
structure Told (es:List Bool) (rows:List (List Nat)) (b:List Nat):Prop extends Q3m es rows b where
 cong:∀i j,i<es.length->j<es.length->MC.blk b i=MC.blk b j->∀c,c<4->MC.blk b (B2 rows i c)=MC.blk b (B2 rows j c)
theorem Y3y {es:List Bool}{rows:List (List Nat)} (w:Wf es rows):∀(n:Nat) (b:List Nat),Q3m es rows b->es.length<=n+Q7 b+1->Told es rows (Q1c rows n (Q7 b+1) (K0 rows b))
 | 0,b,P,h=>by
  have hB:=P.step w
  have ne:K0 rows b≠[]:=fun z=>by have h:=hB.blk.len;rw [z]at h;have:=w.pos;simp at h;omega
  have:=hB.blk.lt _ (Q5v ne)
  refine⟨hB,fun i j hi hj e c hc=>?_⟩
  obtain⟨_,_,_,g1⟩:=w.row hi
  obtain⟨_,_,_,g2⟩:=w.row hj
  exact Y3t w P.blk P.full (by omega) (g1 c hc).2 (g2 c hc).2 (((Q6j w P.blk hi hj).mp e).2 c hc)
 | n+1,b,P,h=>by
  have hB:=P.step w
  unfold Q1c
  split
  ·rename_i hm
   exact Y3y w n _ hB (by omega)
  ·rename_i hm
   refine⟨hB,fun i j hi hj e c hc=>?_⟩
   obtain⟨_,_,_,g1⟩:=w.row hi
   obtain⟨_,_,_,g2⟩:=w.row hj
   exact Y3t w P.blk P.full hm (g1 c hc).2 (g2 c hc).2 (((Q6j w P.blk hi hj).mp e).2 c hc)
theorem Y5p {R:List (Nat×Nat)}{g d:Nat}:∃d',(g,d')∈L8 R g d:=by
 unfold L8;split
 ·rename_i h
  obtain⟨q,hq,rfl⟩:=am.mp h
  exact⟨q.2,hq⟩
 ·exact⟨d,by simp⟩
structure Q6u (on:List (List Nat)) (good:Nat->Nat->Prop) (R:List (Nat×Nat)) (p:Nat):Prop where
 ri:Q0b on.length R
 good:∀q∈R,good q.1 q.2
 sorted:∀(i j:Nat) (q q':Nat×Nat),i<=j->R[i]?=some q->R[j]?=some q'->q.2<=q'.2
 near:∀q∈R,∀q',R[p]?=some q'->q.2<=q'.2+1
 past:∀(i:Nat) (q:Nat×Nat),i<p->R[i]?=some q->∀g∈on.getD q.1 [],∃d,(g,d)∈R/\d<=q.2+1
theorem Y0a {d:Nat}:∀(gs:List Nat) (R:List (Nat×Nat)) (B:Nat),(∀q∈R,q.2<=B)->d<=B->∀g∈gs,∃d',(g,d')∈goR d gs R/\d'<=B
 | [],R,B,_,_,g,h=>by cases h
 | x::gs,R,B,hR,hd,g,h=>by
  have dz:∀q∈L8 R x d,q.2<=B:=fun q hq=>by
   rcases Z2i hq with z | z
   ·exact hR q z
   ·rw [z];exact hd
  rw [goR]
  rcases aj.mp h with rfl | h
  ·obtain⟨d',h'⟩:=Y5p (R:=R) (g:=g) (d:=d)
   exact⟨d',(Z1m d gs _).subset h',dz _ h'⟩
  ·exact Y0a gs _ B dz hd g h
theorem Z8m {d:Nat}:∀(gs:List Nat) (R:List (Nat×Nat)),(∀(i j:Nat) (q q':Nat×Nat),i<=j->R[i]?=some q->R[j]?=some q'->q.2<=q'.2)->(∀q∈R,q.2<=d) ->
  (∀(i j:Nat) (q q':Nat×Nat),i<=j->(goR d gs R)[i]?=some q->(goR d gs R)[j]?=some q'->q.2<=q'.2)
 | [],R,h,_=>h
 | x::gs,R,h,hd=>by
  refine Z8m gs _ ?_ ?_
  ·unfold L8
   split
   ·exact h
   ·intro i j q q' my hi hj
    rcases bE j R.length with hjl | hjl
    ·rw [aH hjl]at hj
     rw [aH (by omega)]at hi
     exact h i j q q' my hi hj
    ·have l0:q'=(x,d):=by
      rw [aS hjl]at hj
      exact(aN.mp (aD hj))
     rcases aR.mp (aD hi)with z | z
     ·rw [l0];exact hd q z
     ·rw [aN.mp z,l0];exact ah _
  ·intro q hq
   rcases Z2i hq with z | z
   ·exact hd q z
   ·rw [z];exact ah _
theorem Y1u {on:List (List Nat)}{good:Nat->Nat->Prop} (jD:∀l∈on,∀g∈l,g<on.length) (hg:∀s d,s<on.length->good s d->∀g∈on.getD s [],good g (d+1)) :
  ∀(n:Nat) (R:List (Nat×Nat)) (p:Nat),Q6u on good R p->on.length<=n+p->p<=R.length->R <+: Q0n on n R p/\Q6u on good (Q0n on n R p) (Q0n on n R p).length
 | 0,R,p,J,h,hp=>by
  have b:=J.ri.bound
  have:p=R.length:=by omega
  subst this
  exact⟨c9 _,J⟩
 | n+1,R,p,J,h,hp=>by
  unfold Q0n
  split
  ·rename_i e
   have:=aJ.mp e
   have:p=R.length:=by omega
   subst this
   exact⟨c9 _,J⟩
  ·rename_i q e
   obtain⟨s,d⟩:=q
   have kin:=aD e
   have hs:s<on.length:=J.ri.lt _ kin
   have hpl:p<R.length:=by obtain⟨z,_⟩:=aI.mp e;exact z
   have eo:on[s]?.getD []=on.getD s []:=(aq ..).symm
   have js:∀g∈on.getD s [],g<on.length:=fun g gE=>by
    rw [aq,ae hs]at gE
    exact jD _ (bF hs) g gE
   have pre:=Z1m (d+1) (on.getD s []) R
   have near:∀q∈R,q.2<=d+1:=fun q hq=>J.near q hq _ e
   have all:∀q∈goR (d+1) (on.getD s []) R,q.2<=d+1:=fun q hq=>by
    rcases Q7x _ _ hq with z | ⟨g,_,rfl⟩
    ·exact near q z
    ·exact ah _
   have at_:∀{i:Nat}{q:Nat×Nat},i<R.length->(goR (d+1) (on.getD s []) R)[i]?=some q->R[i]?=some q:=fun {i q} hi hq=>by
    obtain⟨t,ht⟩:=pre
    rw [<- ht,aH hi]at hq
    exact hq
   have J2:Q6u on good (goR (d+1) (on.getD s []) R) (p+1):=by
    have so:=Z8m (d:=d+1) (on.getD s []) R J.sorted near
    refine⟨J.ri.go js,fun q hq=>?_,so,fun q hq q' l0=>?_,fun i q hi hq g gE=>?_⟩
    ·rcases Q7x _ _ hq with z | ⟨g,gE,rfl⟩
     ·exact J.good q z
     ·exact hg s d hs (J.good _ kin) g gE
    ·have h1:=all q hq
     have h2:(goR (d+1) (on.getD s []) R)[p]?=some (s,d):=by
      obtain⟨t,ht⟩:=pre
      rw [<- ht,aH hpl];exact e
     have h3:d<=q'.2:=so p (p+1) _ _ (by omega) h2 l0
     omega
    ·have hq:=at_ (by omega) hq
     rcases bE i p with z | z
     ·obtain⟨d',h1,h2⟩:=J.past i q z hq g gE
      exact⟨d',pre.subset h1,h2⟩
     ·have:i=p:=by omega
      subst this
      rw [e]at hq;cases hq
      exact Y0a _ R (d+1) near (ah _) g gE
   have bR:=pre.length_le
   obtain⟨a1,a2⟩:=Y1u jD hg n _ (p+1) J2 (by omega) (by omega)
   rw [eo]
   exact⟨pre.trans a1,a2⟩
theorem Q7t {R:List (Nat×Nat)} (nd:(R.map (·.1)).Nodup) {s d:Nat}:G6 R s=some d ↔ (s,d)∈R:=by
 unfold G6
 constructor
 ·intro h
  cases e:R.find? (fun q=>decide (q.1=s))with
  | none=>rw [e]at h;cases h
  | some q =>
   rw [e]at h
   have h:q.2=d:=aB h
   have h1:=List.mem_of_find?_eq_some e
   have h2:=List.find?_some e
   have h2:q.1=s:=by simpa using h2
   obtain⟨a,b⟩:=q
   simp only at h h2
   subst h h2;exact h1
 ·intro h
  induction R with
  | nil=>cases h
  | cons q R ih =>
   rw [ak,bB]at nd
   rw [b8]
   rcases aj.mp h with rfl | h
   ·simp
   ·have:¬ q.1=s:=fun z=>nd.1 (z ▸ am.mpr ⟨_,h,rfl⟩)
    simp only [this,decide_false]
    exact ih nd.2 h
theorem Y7j {es:List Bool}{rows:List (List Nat)} (wf:Wf es rows) (b:Bool) {good:Nat->Nat->Prop} (g0:∀i,es[i]?=some b->good i 0) (gs:∀s d g c,g<es.length->c<4->B2 rows g c=s->good s d->good g (d+1)) :
  (∀q∈G7 (E4 rows) (F3 es b),good q.1 q.2)/\((G7 (E4 rows) (F3 es b)).map (·.1)).Nodup/\(∀i,es[i]?=some b->(i,0)∈G7 (E4 rows) (F3 es b)) /\
  ∀s d,(s,d)∈G7 (E4 rows) (F3 es b)->∀g c,g<es.length->c<4->B2 rows g c=s->∃d',(g,d')∈G7 (E4 rows) (F3 es b)/\d'<=d+1:=by
 have bY:∀r∈rows,∀g∈r,g<rows.length:=fun r hr g hg=>by rw [wf.len];exact wf.lt r hr g hg
 have qH:(E4 rows).length=es.length:=by rw [Q7b,wf.len]
 have J0:Q6u (E4 rows) good ((F3 es b).map fun x=>(x,0)) 0:=by
  refine⟨⟨by simpa [Function.comp_def]using Z8b,fun q hq=>?_⟩,fun q hq=>?_,fun i j q q' _ hi hj=>?_,fun q hq q' _=>?_,fun i q hi=>absurd hi (Nat.not_lt_zero _)⟩
  ·obtain⟨x,hx,rfl⟩:=am.mp hq
   rw [qH];exact Z8a x hx
  ·obtain⟨x,hx,rfl⟩:=am.mp hq
   exact g0 x (Z2m.mp hx)
  ·obtain⟨x,_,rfl⟩:=am.mp (aD hi);exact bb _
  ·obtain⟨x,_,rfl⟩:=am.mp hq;exact bb _
 obtain⟨pre,J⟩:=Y1u (Z6p bY) (fun s d hs qw g gE=>by
  obtain⟨r,e,hm⟩:=(Z2l bY).mp gE
  obtain⟨c,hc,e2⟩:=bX.mp hm
  have jt:g<es.length:=by rw [<- wf.len];obtain⟨z,_⟩:=aI.mp e;exact z
  obtain⟨r',e',l4,g4⟩:=wf.row jt
  rw [e]at e';cases e'
  have fC:c<4:=by rw [<- l4];exact hc
  have:=(g4 c fC).1
  rw [ae hc,e2]at this
  exact gs s d g c jt fC (aB this).symm qw) (E4 rows).length _ 0 J0 (by omega) (bb _)
 refine⟨J.good,J.ri.nd,fun i hi=>pre.subset (am.mpr ⟨i,Z2m.mpr hi,rfl⟩),fun s d hm g c jt hc e=>?_⟩
 obtain⟨i,hi,e2⟩:=bX.mp hm
 obtain⟨r,e3,l4,g4⟩:=wf.row jt
 refine J.past i (s,d) hi (by show(G7 (E4 rows) (F3 es b))[i]?=_;rw [ae hi,e2]) g ((Z2l bY).mpr ⟨r,e3,?_⟩)
 rw [<- e]
 exact aD (g4 c hc).1
theorem Z7v {es:List Bool}{rows:List (List Nat)} (wf:Wf es rows) (b:Bool):(∀i d,i<es.length->G6 (G7 (E4 rows) (F3 es b)) i=some d->∃w,C8 w/\w.length=d/\L0 es rows i w=b) /\
  ∀(w:List Nat) (i:Nat),C8 w->i<es.length->L0 es rows i w=b->∃d,G6 (G7 (E4 rows) (F3 es b)) i=some d/\d<=w.length:=by
 obtain⟨h1,nd,h2,h3⟩:=Y7j wf b (good:=fun i d=>∃w,C8 w/\w.length=d/\L0 es rows i w=b)
  (fun i hi=>⟨[],C8.nil,rfl,by unfold L0 run;rw [List.foldl_nil,aq,hi];rfl⟩)
  (fun s d g c hg hc e ⟨w,q1,q2,q3⟩=>⟨c::w,fun x hx=>by rcases aj.mp hx with rfl | hx;exact Z9t hc;exact q1 x hx,by rw [aA,q2],by unfold L0 run at q3 ⊢;rw [List.foldl_cons,e];exact q3⟩)
 refine⟨fun i d _ h=>h1 (i,d) ((Q7t nd).mp h),fun w=>?_⟩
 induction w with
 | nil =>
  intro i _ hi h
  refine⟨0,(Q7t nd).mpr (h2 i ?_),ah _⟩
  unfold L0 run at h
  rw [List.foldl_nil,aq,ae hi]at h
  rw [ae hi]
  exact congrArg some h
 | cons c w ih =>
  intro i hw hi h
  have fC:=Q1k (hw c (by simp))
  obtain⟨_,_,_,g4⟩:=wf.row hi
  obtain⟨d,q1,q2⟩:=ih (B2 rows i c) (fun x hx=>hw x (by simp [hx])) (g4 c fC).2 h
  obtain⟨d',q3,q4⟩:=h3 _ _ ((Q7t nd).mp q1) i c hi fC rfl
  exact⟨d',(Q7t nd).mpr q3,by rw [aA];omega⟩
theorem Z7u {es:List Bool}{rows:List (List Nat)} (wf:Wf es rows) (b:Bool) {i j:Nat} (hi:i<es.length) (hj:j<es.length) (h:G6 (G7 (E4 rows) (F3 es b)) i≠G6 (G7 (E4 rows) (F3 es b)) j):∃w,C8 w/\L0 es rows i w≠L0 es rows j w:=by
 obtain⟨s1,s2⟩:=Z7v wf b
 have key:∀{i j d:Nat},i<es.length->j<es.length->G6 (G7 (E4 rows) (F3 es b)) i=some d->(∀d',G6 (G7 (E4 rows) (F3 es b)) j=some d'->d<d')->∃w,C8 w/\L0 es rows i w≠L0 es rows j w:=fun {i j d} hi hj e bY=>by
  obtain⟨w,q1,q2,q3⟩:=s1 i d hi e
  refine⟨w,q1,fun z=>?_⟩
  rw [q3]at z
  obtain⟨d',q4,q5⟩:=s2 w j q1 hj z.symm
  have:=bY d' q4
  omega
 cases e1:G6 (G7 (E4 rows) (F3 es b)) i with
 | none =>
  cases e2:G6 (G7 (E4 rows) (F3 es b)) j with
  | none=>rw [e1,e2]at h;exact absurd rfl h
  | some d =>
   obtain⟨w,q1,q2⟩:=key hj hi e2 (fun d' z=>by rw [e1]at z;cases z)
   exact⟨w,q1,fun z=>q2 z.symm⟩
 | some d =>
  cases e2:G6 (G7 (E4 rows) (F3 es b)) j with
  | none=>exact key hi hj e1 (fun d' z=>by rw [e2]at z;cases z)
  | some d' =>
   rcases bE d d' with z | z
   ·exact key hi hj e1 (fun x q=>by rw [e2]at q;cases q;exact z)
   ·have:d'<d:=by
     rcases bE d' d with y | y
     ·exact y
     ·rw [e1,e2,show d=d' by omega]at h;exact absurd rfl h
    obtain⟨w,q1,q2⟩:=key hj hi e2 (fun x q=>by rw [e1]at q;cases q;exact this)
    exact⟨w,q1,fun z=>q2 z.symm⟩
theorem Y0v {a b:Option Nat} (h:oD a=oD b):a=b:=by
 cases a <;> cases b
 ·rfl
 ·cases h
 ·cases h
 ·exact congrArg some (Z1n h)
theorem Z9v {es:List Bool}{rows:List (List Nat)}{i:Nat} (hi:i<es.length):(W1 es rows)[i]?=some (.tup [oD (G6 (G7 (E4 rows) (F3 es true)) i),oD (G6 (G7 (E4 rows) (F3 es false)) i)]):=by
 unfold W1
 rw [ai]
 have g:∀b,(X2 es rows b)[i]?=some (G6 (G7 (E4 rows) (F3 es b)) i):=fun b=>by
  unfold X2
  rw [ai,ae (by simpa using hi)]
  simp
 have e:((X2 es rows true).zip (X2 es rows false))[i]?=some (G6 (G7 (E4 rows) (F3 es true)) i,G6 (G7 (E4 rows) (F3 es false)) i):=bV.mpr ⟨g true,g false⟩
 rw [e]
 rfl
theorem W2l {es:List Bool}{rows:List (List Nat)} (wf:Wf es rows):Q3m es rows (N8 [] (W1 es rows)):=by
 have hB:J3 es.length (N8 [] (W1 es rows)):=J3.zero
 have oE:∀{i j:Nat},i<es.length->j<es.length->(MC.blk (N8 [] (W1 es rows)) i=MC.blk (N8 [] (W1 es rows)) j ↔ G6 (G7 (E4 rows) (F3 es true)) i=G6 (G7 (E4 rows) (F3 es true)) j/\G6 (G7 (E4 rows) (F3 es false)) i=G6 (G7 (E4 rows) (F3 es false)) j):=fun {i j} hi hj=>by
  have q:=Y0q (Z9v (rows:=rows) hi) (Z9v (rows:=rows) hj)
  rw [Q2l (by rw [hB.len];exact hi),Q2l (by rw [hB.len];exact hj),Option.some_inj]at q
  rw [q]
  constructor
  ·intro h
   have h:=D.tup.inj h
   rw [dZ,dZ]at h
   exact⟨Y0v h.1,Y0v h.2.1⟩
  ·rintro ⟨h1,h2⟩;rw [h1,h2]
 refine⟨hB,fun x hx=>Y0p (fun z=>by have h:=hB.len;rw [z]at h;have:=wf.pos;simp at h;omega) hx,fun i j hi hj e=>?_,fun i j hi hj ne=>?_⟩
 ·obtain⟨e1,_⟩:=(oE hi hj).mp e
  obtain⟨s1,s2⟩:=Z7v wf true
  have key:∀{i j:Nat},i<es.length->j<es.length->G6 (G7 (E4 rows) (F3 es true)) i=G6 (G7 (E4 rows) (F3 es true)) j->es.getD i false=true->es.getD j false=true:=fun {i j} hi hj e h=>by
   obtain⟨d,q1,q2⟩:=s2 [] i C8.nil hi h
   have:d=0:=by simpa using q2
   subst this
   rw [e]at q1
   obtain⟨w,_,q4,q5⟩:=s1 j 0 hj q1
   rw [List.length_eq_zero_iff.mp q4]at q5
   exact q5
  cases h1:es.getD i false <;> cases h2:es.getD j false
  ·rfl
  ·have:=key hj hi e1.symm h2;rw [h1]at this;cases this
  ·have:=key hi hj e1 h1;rw [h2]at this;cases this
  ·rfl
 ·by_cases h:G6 (G7 (E4 rows) (F3 es true)) i=G6 (G7 (E4 rows) (F3 es true)) j
  ·exact Z7u wf false hi hj fun z=>ne ((oE hi hj).mpr ⟨h,z⟩)
  ·exact Z7u wf true hi hj h
theorem Z4f {es:List Bool}{rows:List (List Nat)} (wf:Wf es rows):Told es rows (E7 es rows):=by
 unfold E7 Q1c
 rw [aE (bb _)]
 exact Y3y wf es.length _ (W2l wf) (by omega)
section
variable {α:Type} [DecidableEq α]
theorem Z3g {rs:List (List Nat)}{i c:Nat}{f:Nat->Nat} (h:rs[i]?=some (B6.map f)) (hc:c∈B6):B2 rs i c=f c:=by
 unfold B2
 rw [aq,aq,h,Option.getD_some,ai]
 have:B6[c]?=some c:=by
  simp only [B6,aj,aL,br]at hc
  rcases hc with rfl | rfl | rfl | rfl <;> rfl
 rw [this];rfl
theorem Z8k {ks:List α}{x:α} (h:x∈ks):ks[ks.idxOf x]?=some x:=by
 have hl:=aO.mpr h
 rw [ae hl,cP hl]
end
section
variable {es:List Bool}{rows:List (List Nat)}
theorem Q3p {b:List Nat}{x:Nat} (h:x∈b):blk b (b.idxOf x)=x:=by
 show b.getD _ 0=x
 rw [aq,Z8k h];rfl
theorem Z9j (wf:Wf es rows):∀(w:List Nat) (t s:Nat),C8 w->s<es.length->(K8 es rows).1[t]?=some (blk (E7 es rows) s)->(K8 es rows).1[run (B2 (K8 es rows).2) t w]?=some (blk (E7 es rows) (run (B2 rows) s w))
 | [],t,s,_,_,h=>h
 | c::w,t,s,hw,hs,h=>by
  have W:=Q3z wf
  have T:=Z4f wf
  have hc:=hw c (by simp)
  obtain⟨_,_,_,g⟩:=wf.row hs
  have hm:blk (E7 es rows) s∈E7 es rows:=Q0c (by rw [T.blk.len];exact hs)
  have h0:(E7 es rows).idxOf (blk (E7 es rows) s)<es.length:=by rw [<- T.blk.len];exact aO.mpr hm
  have e1:=Z3g (W.row t _ h) hc
  have e2:Z3 rows (E7 es rows) (blk (E7 es rows) s) c=blk (E7 es rows) (B2 rows s c):=T.cong _ _ h0 hs (Q3p hm) c (Q1k hc)
  refine Z9j wf w _ (B2 rows s c) (fun d hd=>hw d (by simp [hd])) (g c (Q1k hc)).2 ?_
  rw [e1,<- e2]
  exact Z8k (W.mem _ (aD h) c hc)
theorem Z1z (wf:Wf es rows) {w:List Nat} (hw:C8 w) {t s:Nat} (hs:s<es.length) (h:(K8 es rows).1[t]?=some (blk (E7 es rows) s)):L0 (E8 es rows).1 (E8 es rows).2 t w=L0 es rows s w:=by
 have T:=Z4f wf
 have r:=Z9j wf w t s hw hs h
 have hl:=Q6c wf w s hw hs
 have hm:blk (E7 es rows) (run (B2 rows) s w)∈E7 es rows:=Q0c (by rw [T.blk.len];exact hl)
 have h0:(E7 es rows).idxOf (blk (E7 es rows) (run (B2 rows) s w))<es.length:=by rw [<- T.blk.len];exact aO.mpr hm
 unfold L0 E8
 show(List.map _ (K8 es rows).1).getD (run (B2 (K8 es rows).2) t w) false=_
 rw [aq,ai,r]
 exact T.fin _ _ h0 hl (Q3p hm)
theorem Q4a (wf:Wf es rows) {w:List Nat} (hw:C8 w):R5 (E8 es rows) w=R5 (es,rows) w:=Z1z wf hw wf.pos (Q3z wf).zero
theorem Y9n (wf:Wf es rows) {i j:Nat} (hi:i<(E8 es rows).1.length) (hj:j<(E8 es rows).1.length) (ne:i≠j):∃w,C8 w/\L0 (E8 es rows).1 (E8 es rows).2 i w≠L0 (E8 es rows).1 (E8 es rows).2 j w:=by
 have W:=Q3z wf
 have T:=Z4f wf
 have el:(E8 es rows).1.length=(K8 es rows).1.length:=by simp [E8]
 rw [el]at hi hj
 have gi:=ae hi
 have gj:=ae hj
 have nk:(K8 es rows).1[i]≠(K8 es rows).1[j]:=fun z=>ne ((List.getElem_inj W.nd).mp z)
 have mi:=W.sub _ (bF hi)
 have mj:=W.sub _ (bF hj)
 have li:(E7 es rows).idxOf (K8 es rows).1[i]<es.length:=by rw [<- T.blk.len];exact aO.mpr mi
 have lj:(E7 es rows).idxOf (K8 es rows).1[j]<es.length:=by rw [<- T.blk.len];exact aO.mpr mj
 obtain⟨w,hw,q⟩:=T.apart _ _ li lj (by rw [Q3p mi,Q3p mj];exact nk)
 refine⟨w,hw,?_⟩
 rw [Z1z wf hw li (by rw [Q3p mi];exact gi),Z1z wf hw lj (by rw [Q3p mj];exact gj)]
 exact q
end
noncomputable def T1 (met:List Nat):List Nat->List Nat->List Nat
 | _,[]=>[]
 | pre,x::r=>if x∈met++pre then T1 met (pre++[x]) r else x::T1 met (pre++[x]) r
noncomputable def G9:List Nat->List (List Nat)->List Nat
 | met,[]=>met
 | met,r::rs=>G9 (met++T1 met [] r) rs
theorem Q4e (r:List Nat):∀(rs:List (List Nat)) (met:List Nat),G9 met (rs++[r])=G9 met rs++T1 (G9 met rs) [] r
 | [],met=>rfl
 | x::rs,met=>Q4e r rs _
section
variable {α:Type} [DecidableEq α]
theorem Q7y (st:Nat->α) (n:Nat):∀(cs:List Nat) (ks:List α) (pre full:List Nat),full=pre++cs.map (fun c=>(G5 st cs ks pre).1.idxOf (st c))->n<=ks.length->(∀x,x<ks.length->x<n\/x∈pre)->(∀x∈pre,x<ks.length) ->
  T1 (List.range n) pre (cs.map fun c=>(G5 st cs ks pre).1.idxOf (st c))=(List.range ((G5 st cs ks pre).1.length-ks.length)).map fun i=>ks.length+i
 | [],ks,pre,full,_,_,_,_=>by simp [G5,T1]
 | c::cs,ks,pre,full,_,hn,h1,h2=>by
  have pp:=Q4i st cs (M9 ks (st c)) (pre++[(M9 ks (st c)).idxOf (st c)])
  have jm:st c∈M9 ks (st c):=Z2k.mpr (.inr rfl)
  have ei:(G5 st (c::cs) ks pre).1.idxOf (st c)=(M9 ks (st c)).idxOf (st c):=by rw [G5];exact Z1q pp jm
  have jg:G5 st (c::cs) ks pre=G5 st cs (M9 ks (st c)) (pre++[(M9 ks (st c)).idxOf (st c)]):=rfl
  have bR:=pp.length_le
  rw [ak,T1,ei]
  simp only [jg]
  by_cases hm:st c∈ks
  ·have ea:M9 ks (st c)=ks:=Z6i hm
   have hl:=aO.mpr hm
   simp only [ea]at bR ⊢
   rw [aE (by
    rcases h1 _ hl with z | z
    ·exact bi _ (aY.mpr z)
    ·exact ar _ z)]
   exact Q7y st n cs ks _ _ rfl hn (fun x hx=>(h1 x hx).imp id fun z=>by simp [z]) fun x hx=>by
    rcases aR.mp hx with z | z
    ·exact h2 x z
    ·rw [aN.mp z];exact hl
  ·have ea:M9 ks (st c)=ks++[st c]:=Z6j hm
   have ex:(ks++[st c]).idxOf (st c)=ks.length:=by
    rw [List.idxOf_append,aC hm];simp
   simp only [ea,ex]at bR ⊢
   rw [ay,bJ]at bR
   rw [aC (fun z=>by
    rcases aR.mp z with z | z
    ·have:=aY.mp z;omega
    ·have:=h2 _ z;omega)]
   have ih:=Q7y st n cs (ks++[st c]) (pre++[ks.length]) _ rfl (by simp;omega) (fun x hx=>by
    rw [ay,bJ]at hx
    rcases bE x ks.length with z | z
    ·exact(h1 x z).imp id fun z=>by simp [z]
    ·exact .inr (by simp;omega)) fun x hx=>by
    rw [ay,bJ]
    rcases aR.mp hx with z | z
    ·have:=h2 x z;omega
    ·rw [aN.mp z];omega
   rw [ih]
   rw [ay,bJ]
   obtain⟨m,ko⟩:∃m,(G5 st cs (ks++[st c]) (pre++[ks.length])).1.length=ks.length+1+m:=⟨_,(Nat.add_sub_cancel' bR).symm⟩
   rw [ko,show ks.length+1+m-(ks.length+1)=m by omega,show ks.length+1+m-ks.length=m+1 by omega,List.range_succ_eq_map,ak,aK]
   congr 1
   exact bc fun i _=>by simp;omega
theorem range_add (n m:Nat):List.range n++(List.range m).map (fun i=>n+i)=List.range (n+m):=(List.range_add).symm
theorem Y0g {step:α->Nat->α}:∀(n:Nat) (ks:List α) (rs:List (List Nat)),G9 [0] rs=List.range ks.length->G9 [0] (Q0 step n ks rs).2=List.range (Q0 step n ks rs).1.length
 | 0,ks,rs,h=>h
 | n+1,ks,rs,h=>by
  unfold Q0
  split
  ·exact h
  ·rename_i k e
   refine Y0g n _ _ ?_
   have hp:=(Q4i (step k) B6 ks []).length_le
   rw [Q4e,h,Q8j,bM,Q7y (step k) ks.length B6 ks [] _ rfl (ah _) (fun x hx=>.inl hx) (fun x hx=>by cases hx),range_add]
   congr 1
   omega
theorem W0o {step:α->Nat->α}{start:α}{N:Nat}:G9 [0] (Q1d N step start).2=List.range (Q1d N step start).1.length:=Y0g N _ _ rfl
end
theorem W0n (es:List Bool) (rows:List (List Nat)):G9 [0] (E8 es rows).2=List.range (E8 es rows).1.length:=by
 have:=W0o (step:=Z3 rows (E7 es rows)) (start:=(E7 es rows).getD 0 0) (N:=es.length)
 have el:(E8 es rows).1.length=(K8 es rows).1.length:=by simp [E8]
 rw [el]
 exact this
end MC
end
section
namespace PySem
section
variable {prog:Program}{w:World}{A:Around}{E:VS9}{s:Shared}{d it:Addr}{es:Array DictEntry}{ep i:Nat}
def X8 (h:Heap) (d:Addr) (es:Array DictEntry) (ep:Nat):Prop:=∃o,h.get? d=some o/\o.ExactDict/\o.data=.dict es ep
theorem X8.ty (x:X8 s.heap d es ep):s.TypeIs (.ref d) "dict":=let ⟨o,ho,hc,_⟩:=x;⟨o,ho,hc.1⟩
theorem X8.at {h h':Heap} (x:X8 h d es ep) (k:∀o,h.get? d=some o->h'.get? d=some o):X8 h' d es ep:=let ⟨o,ho,r⟩:=x;⟨o,k o ho,r⟩
theorem Y1q {Q:VS9} (hd:(d==sysModules)=false) (x:X8 s.heap d es ep)
  (q:Q (.ref s.heap.objs.size) { s with heap:=s.heap.push { cls:=.type "dict_keyiterator",data:=.fields #[.ref d,.int 0 0,.int es.size 0,.int ep 0] } }):wpAny (model prog w) A (pyIter (.ref d)) Q E s:=by
 obtain⟨o,g,hc,dat⟩:=id x
 refine wpAny_pyIter_slot x.ty F.slot_dict_iter (be F.slot_dict_iter x.ty F.entry_dict_iter ?_ (F.args_dict_iter_1 _))
 unfold Builtin.«dict.__iter__» Builtin.Dict.dictSlotNone
 refine a9 (a9 (wpAny_notOrdered_dict x.ty ?_))
 refine(show wpAny _ _ (pure (Value.ref d)) _ _ s from af ?_)
 refine(show wpAny _ _ (Builtin.Dict.showsAll d>>=_) _ _ s from ?_)
 unfold Builtin.Dict.showsAll
 rw [aC (fun z=>by rw [hd]at z;cases z)]
 refine a9 (af (a9 (wpAny_dictEntries g dat (a9 (wpAny_dictEpoch g dat ?_)))))
 refine a9 (bt (af ⟨_,rfl,"dict_keyiterator",_,⟨_,aw _ rfl,rfl⟩,cN.lookup,?_⟩))
 simpa [rawInt]using q
theorem Y1p {e:DictEntry}{Q:Option Value->Shared->Prop} (hi:s.heap.IsKeyIter it d i es.size ep) (x:X8 s.heap d es ep) (he:es[i]?=some e)
  (q:∀h',h'.IsKeyIter it d (i+1) es.size ep->Heap.SameBut it s.heap h'->Q (some e.key) { s with heap:=h' }):wpAny (model prog w) A (pyNext (.ref it)) Q E s:=by
 obtain⟨o,g,oc,od⟩:=id hi
 obtain⟨o2,g2,c2,d2⟩:=id x
 unfold pyNext
 refine a9 (dB (b9 (name:=Str.ofString "__next__") hi.typeIs cN (be cN hi.typeIs F.entry_dict_keyiterator_next ?_ (F.args_dict_keyiterator_next_1 _))))
 refine a9 (af (a9 (a9 ?_)))
 first | refine a9 (g6 hi.typeIs (af ?_)) | refine a9 (wpAny_typeNameOf_keyiter hi.typeIs (af ?_))
 refine a9 (wpAny_fieldsOf g od ?_)
 have own:Builtin.Dict_items.ownsTuple "dict_keyiterator"=false:=by decide
 simp only [own,cQ,dh]
 refine(show wpAny _ _ (if (Value.ref d==Value.none)=true then _ else _) _ _ s from ?_)
 rw [aC (show ¬ ((Value.ref d==Value.none)=true)by exact bA)]
 refine a9 (af (a9 (wpAny_dictEntries g2 d2 ?_)))
 rw [aC (by simp)]
 refine a9 (af (a9 (wpAny_dictEpoch g2 d2 ?_)))
 rw [aC (by simp)]
 refine af ?_
 obtain⟨lt,ee⟩:=Array.getElem?_eq_some_iff.mp he
 simp only [show ¬ ((i:Int)<0)by omega,dh,bp,bG lt]
 refine a9 ?_
 first | refine a9 (g6 hi.typeIs (af ?_)) | refine a9 (wpAny_typeNameOf_keyiter hi.typeIs (af ?_))
 refine a9 (wpAny_isOneOf_keyiter hi.typeIs ?_)
 refine(show wpAny _ _ (setField (.ref it) 1 (rawInt ((i:Int)+1))>>=_) _ _ s from ?_)
 refine a9 (wpAny_setField g od (by simp) ?_)
 have nx:(s.heap.update it (Obj.mapFields (·.setIfInBounds 1 (rawInt ((i:Int)+1))))).IsKeyIter it d (i+1) es.size ep :=
  ⟨_,fG _ g (Obj.isFreed_of_fields (Obj.data_mapFields od _)),(Obj.cls_mapFields ..).trans oc,by rw [Obj.data_mapFields od];simp [rawInt]⟩
 refine a9 (bu (a9 (wpAny_isOneOf_keyiter (s:={ s with heap:=s.heap.update it (Obj.mapFields (·.setIfInBounds 1 (rawInt ((i:Int)+1)))) }) nx.typeIs ?_)))
 refine(show wpAny _ _ (pure es[i].key) _ _ _ from ?_)
 rw [ee]
 exact af (af ⟨_,rfl,af (q _ nx (bC ..))⟩)
theorem Y1o {Q:Option Value->Shared->Prop} (hh:A.handled=none) (hi:s.heap.IsKeyIter it d es.size es.size ep) (x:X8 s.heap d es ep) (q:∀h',Heap.ExtBut it s.heap h'->Q none { s with heap:=h' }):wpAny (model prog w) A (pyNext (.ref it)) Q E s:=by
 obtain⟨o,g,oc,od⟩:=id hi
 obtain⟨o2,g2,c2,d2⟩:=id x
 unfold pyNext
 refine a9 (dB (b9 (name:=Str.ofString "__next__") hi.typeIs cN (be cN hi.typeIs F.entry_dict_keyiterator_next ?_ (F.args_dict_keyiterator_next_1 _))))
 refine a9 (af (a9 (a9 ?_)))
 first | refine a9 (g6 hi.typeIs (af ?_)) | refine a9 (wpAny_typeNameOf_keyiter hi.typeIs (af ?_))
 refine a9 (wpAny_fieldsOf g od ?_)
 have own:Builtin.Dict_items.ownsTuple "dict_keyiterator"=false:=by decide
 simp only [own,cQ,dh]
 refine(show wpAny _ _ (if (Value.ref d==Value.none)=true then _ else _) _ _ s from ?_)
 rw [aC (show ¬ ((Value.ref d==Value.none)=true)by exact bA)]
 refine a9 (af (a9 (wpAny_dictEntries g2 d2 ?_)))
 rw [aC (by simp)]
 refine a9 (af (a9 (wpAny_dictEpoch g2 d2 ?_)))
 rw [aC (by simp)]
 refine af ?_
 simp only [show ¬ ((es.size:Int)<0)by omega,dh,bp,Array.getElem?_eq_none (ah es.size)]
 refine a9 ?_
 first | refine a9 (g6 hi.typeIs (af ?_)) | refine a9 (wpAny_typeNameOf_keyiter hi.typeIs (af ?_))
 refine(show wpAny _ _ (setField (.ref it) 0 .none>>=_) _ _ s from ?_)
 refine a9 (wpAny_setField g od (by simp) ?_)
 refine(show wpAny _ _ (newExc (.type "StopIteration") []>>=_) _ _ _ from a9 ?_)
 simp only [newExc,newTuple]
 refine a9 (bt ?_ (by size_fits))
 refine a9 (m:=firstArgMember _ _) (wpAny_of_eq (a:=Value.none) (by first | rfl | (simp only [firstArgMember];rfl)) ?_)
 refine bt ?_ (by size_fits)
 simp only [raiseNew]
 refine a9 (wpAny_handled ?_)
 rw [show A.in1.handled=none by exact hh]
 refine a9 (af (wpAny_throw ?_))
 refine a9 (wpAny_isInstance (T:="StopIteration") (b:=true) ⟨_,aw _ rfl,rfl⟩ isSubtype_stop ?_)
 exact af (q _ (((bC ..).extBut.push _).push _))
theorem Walks.raw (hh:A.handled=none) (I d:Addr) (cA:d≠I) (es:Array DictEntry) (ep:Nat) :
  Walks prog w A I [I,d] [I] es.size (fun i v=>∃e,es[i]?=some e/\v=e.key) (fun i h=>h.IsKeyIter I d i es.size ep/\X8 h d es ep) where
 sub:=fun b hb=>by simp at hb;simp [hb]
 frame:=fun _ _ _ st k=>⟨st.1.at fun o e=>k I (by simp) o e,st.2.at fun o e=>k d (by simp) o e⟩
 item:=fun i s Q E lt st q=>Y1p st.1 st.2 (bG lt) fun h' a b=>q _ h' s.toks ⟨_,bG lt,rfl⟩ ⟨a,st.2.at fun o e=>b.extBut d o cA e⟩ fun c o hc e=>b.extBut c o (fun z=>hc (by simp [z])) e
 done:=fun s Q E st q=>Y1o hh st.1 st.2 fun h' a=>q h' s.toks fun c o hc e=>a c o (fun z=>hc (by simp [z])) e
 self:=fun _ _ _ _ st q=>wpAny_pyIter_keyiter st.1 q
theorem W4p (lo:(d==sysModules)=false):PySem.W.KdlSrc prog w "dict" d d es.size (fun i v=>∃e,es[i]?=some e/\v=e.key) (fun h=>X8 h d es ep) where
 type:=fun _ x=>x.ty
 there:=fun _ ⟨_,ho,_⟩=>⟨au ho,au ho⟩
 keep:=fun _ _ x k=>x.at fun o e=>k d (.inl rfl) o e
 notList:=by decide
 notTuple:=by decide
 hint:=fun _ _ _ _ x q=>PySem.W.kdl_hint_dict x.ty q
 iter:=fun _ s hh x=>⟨_,_,(fun _ _ q=>Y1q lo x q),Walks.raw hh _ d (az (let ⟨_,ho,_⟩:=x;au ho)) es ep,⟨⟨_,aw _ rfl,rfl,rfl⟩,x.at fun o e=>aa _ e⟩⟩
end
end PySem
namespace TK
open PySem PySem.Spec PyProof.Rows L2
noncomputable abbrev ktD (ks:List A7):D:=.tup (ks.map kyD)
noncomputable def Q1r:List R->(R->Prop)->Prop
 | [.dt kvs],Q=>Q (.nw (kvs.map fun p=>ktD p.1))
 | _,_=>False
theorem Z9n {rs:List R}{Q:R->Prop} (h:Q1r rs Q):∃kvs,rs=[.dt kvs]/\Q (.nw (kvs.map fun p=>ktD p.1)):=by
 unfold Q1r at h
 split at h
 ·exact⟨_,rfl,h⟩
 ·exact h.elim
theorem W0a:Q0t Q1r:=fun x P Q g h=>by
 obtain⟨kvs,rfl,h⟩:=Z9n h
 exact g _ h
theorem Q6y {K:Fg9}{H:Hp}:∀(ks:List A7),AllS K H (ks.map kyD) (ks.map kV)
 | []=>AllS.nil
 | .inl i::r=>AllS.cons A1.s_int (Q6y r)
 | .inr x::r=>AllS.cons A1.s_str (Q6y r)
theorem B5.keysT {K:Fg9}{H:Hp}:∀{kvs:List (List A7×D)}{ps:List (List A7×V)},B5 K H kvs ps->(kvs.map fun p=>ktD p.1)=ps.map fun p=>ktD p.1
 | [],ps,h=>by unfold B5 at h;subst h;rfl
 | p::kvs,ps,h=>by
  unfold B5 at h
  obtain⟨v,r,rfl,iv,h⟩:=h
  rw [ak,ak,B5.keysT h]
theorem Z1h {P:Program}{w:World}{H:Hp}{h:Heap}{a:Addr}{ps:List (List A7×V)} (ok:F1 P w H h a (.dT ps)):(a==sysModules)=false/\ps.length<=sizeLine /\
  ∃es ep,X8 h a es ep/\es.size=ps.length/\∀(i:Nat) (x:DictEntry),es[i]?=some x->∃b p,ps[i]?=some p/\x.key=.ref b/\H b=some (.tup (p.1.map kV)):=by
 obtain⟨z,hd,xs,rel,o,es,ep,ho,hc,qD,he,_⟩:=ok
 have len:ps.length=xs.length:=by
  have go:∀{ps:List (List A7×V)}{xs:List (List A7×Addr×Value)}{R:List A7×V->List A7×Addr×Value->Prop},Paired R ps xs->ps.length=xs.length:=by
   intro ps xs R r
   induction r with
   | nil=>rfl
   | cons _ _ ih=>simp [ih]
  exact go rel
 refine⟨hd,z,es,ep,⟨o,ho,hc,qD⟩,by rw [<- bZ,he,ag,len],fun i x hx=>?_⟩
 have jd:es.toList[i]?=some x:=by rw [Array.getElem?_toList];exact hx
 rw [he,ai]at jd
 cases q:xs[i]? with
 | none=>rw [q]at jd;cases jd
 | some y =>
  rw [q]at jd
  have jd:entryOfKey (tupleKind (K4 P w)) y=x:=aB jd
  have key:∀{ps:List (List A7×V)}{xs:List (List A7×Addr×Value)}{i:Nat}{y:List A7×Addr×Value},Paired (fun(p:List A7×V) (q:List A7×Addr×Value)=>p.1=q.1/\H q.2.1=some (.tup (p.1.map kV))/\B8 p.2 q.2.2) ps xs->xs[i]?=some y->∃p,ps[i]?=some p/\H y.2.1=some (.tup (p.1.map kV)):=by
   intro ps xs i y r
   induction r generalizing i with
   | nil=>intro q;cases q
   | cons h _ ih =>
    intro q
    cases i with
    | zero=>cases q;exact⟨_,rfl,h.2.1⟩
    | succ i=>exact ih (by simpa using q)
  obtain⟨p,hp,hb⟩:=key rel q
  exact⟨y.2.1,p,hp,by rw [<- jd];rfl,hb⟩
section
variable {X:Cx}
theorem Y6m (hc:X.calm=true):Q0r X (.type "list") Q1r:=by
 intro ac s σ H xs us Q I rv ⟨rs,ck,h⟩
 obtain⟨kvs,rfl,h⟩:=Z9n h
 obtain⟨v,rfl,ir⟩:=T5 ck
 obtain⟨a,ps,rfl,e,kv⟩:=ir
 obtain⟨u,rfl,ru⟩:=R1 rv
 cases ru
 obtain⟨hd,z,es,ep,raw,qY,keys⟩:=Z1h (I.hok a _ e)
 refine PySem.W.kdl_call (W4p hd) (I.ok.hd hc) raw (by omega) fun h' tk cf c' k e2 it=>?_
 have hn:H s.heap.objs.size=none:=I.hok.fresh (ah _)
 obtain⟨vs,vl,al⟩:∃vs,C0 vs cf.toList/\AllS X.K H (ps.map fun p=>ktD p.1) vs:=by
  have go:∀(ps:List (List A7×V)) (us:List Value),us.length=ps.length->(∀(j:Nat) (v:Value),us[j]?=some v->∃b p,ps[j]?=some p/\v=.ref b/\H b=some (.tup (p.1.map kV)))->∃vs,C0 vs us/\AllS X.K H (ps.map fun p=>ktD p.1) vs:=by
   intro ps
   induction ps with
   | nil=>intro us l _;cases us with
    | nil=>exact⟨[],.nil,AllS.nil⟩
    | cons _ _=>cases l
   | cons p ps ih =>
    intro us l f
    cases us with
    | nil=>cases l
    | cons u us =>
     obtain⟨b,p',e1,rfl,hb⟩:=f 0 _ rfl
     cases e1
     obtain⟨vs,h1,h2⟩:=ih us (by simpa using l) fun j v e=>f (j+1) v (by simpa using e)
     exact⟨.ref b::vs,.cons rfl h1,AllS.cons (A1.s_tup hb (Q6y _)) h2⟩
  refine go ps cf.toList (by rw [bZ,it.1,qY]) fun j v ej=>?_
  obtain⟨x,hx,rfl⟩:=it.2 j v (by rw [<- Array.getElem?_toList];exact ej)
  obtain⟨b,p,hp,hk,hb⟩:=keys j x hx
  exact⟨b,p,hp,hk,hb⟩
 refine⟨.ref s.heap.objs.size,_,I.laid (t':=tk) (o:=.lst vs) k (ah _) ⟨by rw [<- al.length,ag];exact z,cf.toList,c',vl,by simpa using e2⟩,rfl,h _ _ (D7 hn _) ⟨_,_,rfl,hn,upd_same,?_⟩⟩
 rw [B5.keysT kv]
 exact al.mono (Kp.of (D7 hn _)) _ _
end
end TK
end
section
namespace TK
open PySem PySem.Spec PyProof.Rows L2
abbrev IsZ (h:Heap) (z TI TO:Addr) (f0:Value) (f:Bool):Prop :=
 h.get? z=some { cls:=.type "zip",dict:=none,data:=.fields #[f0,.bool f,.bool false,.ref TI,.ref TO],slots:=#[] }
def Q1h (h:Heap) (z TI TO:Addr):Prop:=∃f0 f,IsZ h z TI TO f0 f/\(f0=.none\/∃T:Addr,f0=rawInt T)
section
variable {P:Program}{w:World}{A:Around}{E:VS9}{s:Shared}{z TI TO i1 i2:Addr}{eD eC:List Addr}{n1 n2 k:Nat}{P1 P2:Nat->Value->Prop}{S1 S2:Nat->Heap->Prop}{a b:Value}
theorem Y4v {Q:Bool->Shared->Prop} (hz:Q1h s.heap z TI TO) (h1:∀f0 f,IsZ s.heap z TI TO f0 f->Q true s) (h2:∀h' (T:Addr),IsZ h' z TI TO (rawInt T) true->Heap.SameBut z s.heap h'->Q false { s with heap:=h' }) :
  wpAny (model P w) A (Builtin.SmallTypes.ownedTupleIsFree (.ref z)) Q E s:=by
 obtain⟨f0,f,hz,rfl | ⟨T,rfl⟩⟩:=hz
 ·unfold Builtin.SmallTypes.ownedTupleIsFree;exact a9 (aV hz rfl (x:=.none) rfl (af (h1 _ _ hz)))
 ·unfold Builtin.SmallTypes.ownedTupleIsFree;refine a9 (aV hz rfl (x:=rawInt T) rfl ?_)
  change wpAny (model P w) A (loadIfAlive ((T:Int).toNat)>>=_) _ _ _
  rw [bp]
  refine a9 ?_
  cases e:s.heap.get? T with
  | none =>
   have ng:∀{Q:Option Obj->Shared->Prop},Q none s->wpAny (model P w) A (loadIfAlive T) Q E s:=fun {Q} h=>by
    have h':Q (s.heap.get? T) s:=by rw [e];exact h
    exact fun _ _ _=>h'
   refine ng ?_
   rw [aE (show(none:Option Obj).isNone=true from rfl)]
   exact af (h1 _ _ hz)
  | some o =>
   refine PySem.W.kdx_alive e ?_
   rw [aC (by simp)]
   refine a9 (aV hz rfl (x:=.bool f) rfl ?_)
   cases f with
   | true =>
    rw [aC (by decide)]
    exact af (h2 s.heap T hz (Heap.SameBut.refl _ _))
   | false =>
    rw [aE (by decide)]
    exact a9 (bf hz (by simp) fun h₃ mC gS=>af (h2 h₃ T mC gS))
theorem V0e {Q:VS9} (Z:Y0 z TI TO i1 i2 eD eC) (D1:Draws P w A i1 eD n1 P1 S1) (D2:Draws P w A i2 eC n2 P2 S2) (ka:Q1h s.heap z TI TO) (cy:IsPair s.heap TI (.ref i1) (.ref i2)) (cG:IsPair s.heap TO a b) (h1:S1 k s.heap) (h2:S2 k s.heap) (l1:k<n1) (l2:k<n2)
  (hQ:∀h' tk x y,P1 k x->P2 k y->Q1h h' z TI TO->(∃a b,IsPair h' TO a b)->S1 (k+1) h'->S2 (k+1) h'->IsPair h' s.heap.objs.size x y->(∀c o,c≠z->c≠TO->c≠i1->c≠i2->s.heap.get? c=some o->h'.get? c=some o)->Q (.ref s.heap.objs.size) { s with heap:=h',toks:=tk }) :
  wpAny (model P w) A (Builtin.«zip.__next__» ⟨[.ref z],[]⟩) (fun fin s'=>∃v,fin=.done (.ret v)/\Q v s') E s:=by
 obtain⟨f0,f,hz,hf⟩:=id ka
 change wpAny (model P w) A (field (.ref z) 2>>=_) _ _ s
 refine a9 (aV hz rfl (x:=Value.bool false) rfl ?_)
 change wpAny (model P w) A (field (.ref z) 3>>=_) _ _ s
 refine a9 (aV hz rfl (x:=.ref TI) rfl (a9 (bg cy rfl ?_)))
 change wpAny (model P w) A (Builtin.SmallTypes.ownedTupleIsFree (.ref z)>>=_) _ _ s
 refine a9 (Y4v ka (fun f0 f hz=>?_) fun g₁ T dI cS=>?_)
 ·rw [aE rfl]
  refine a9 (dW (a9 (aV hz rfl (x:=.ref TO) rfl (a9 (bf hz (by simp) fun g₁ dI cS=>?_)))))
  have dI:IsZ g₁ z TI TO .ellipsis f:=dI
  refine a9 ?_
  simp only [bQ,iC,bj,eT];refine a9 (a9 (dA ?_))
  change wpAny (model P w) A (Builtin.SmallTypes.nextOf (.ref i1)>>=_) _ _ _
  refine a9 (D1.item k _ _ _ l1 (J7 D1 h1 cS.extBut fun b hb=>(Z.f1 b hb).1) fun x g₂ jM px gK cJ=>af ?_)
  have dO:IsPair g₂ TO a b:=cJ.extBut _ _ Z.to1 (cS.extBut _ _ Z.toz cG)
  refine a9 (bg dO rfl (a9 (dg dO fun g₃ eL cW=>a9 (g8 (af ?_)))))
  have eL:IsPair g₃ TO x b:=eL
  refine a9 (a9 (dA ?q))
  change wpAny (model P w) A (Builtin.SmallTypes.nextOf (.ref i2)>>=_) _ _ _
  have gJ:S2 k g₃:=J7 D2 (J7 D2 (J7 D2 h2 cS.extBut fun b hb=>(Z.f2 b hb).1) cJ.extBut fun b hb=>(Z.f2 b hb).2.2) cW.extBut fun b hb=>(Z.f2 b hb).2.1
  refine a9 (D2.item k _ _ _ l2 gJ fun y g₄ lv py mW fb=>af ?_)
  have gI:IsPair g₄ TO x b:=fb.extBut _ _ Z.to2 eL
  refine a9 (bg gI rfl (a9 (dg gI fun g₅ eK eZ=>a9 (g8 (af (af ?_))))))
  have eK:IsPair g₅ TO x y:=eK
  refine a9 (bg eK rfl (a9 (wpAny_newTuple ?_)))
  have hsz:g₅.objs.size=s.heap.objs.size:=by rw [eZ.1,fb.1,cW.1,cJ.1,cS.1]
  have k7:IsZ g₅ z TI TO .ellipsis f:=eZ.extBut _ _ Z.toz.symm (fb.extBut _ _ Z.i2z.symm (cW.extBut _ _ Z.toz.symm (cJ.extBut _ _ Z.i1z.symm dI)))
  have mn:∀c o,c≠z->c≠TO->c≠i1->c≠i2->s.heap.get? c=some o->g₅.get? c=some o:=fun c o c1 c2 c3 c4 e=>eZ.extBut _ _ c2 (fb.extBut _ _ c4 (cW.extBut _ _ c2 (cJ.extBut _ _ c3 (cS.extBut _ _ c1 e))))
  have mY:S1 (k+1) g₅:=J7 D1 (J7 D1 (J7 D1 gK cW.extBut fun b hb=>(Z.f1 b hb).2.1) fb.extBut fun b hb=>(Z.f1 b hb).2.2) eZ.extBut fun b hb=>(Z.f1 b hb).2.1
  have mV:S2 (k+1) g₅:=J7 D2 mW eZ.extBut fun b hb=>(Z.f2 b hb).2.1
  have gw:z<g₅.objs.size:=au k7
  change wpAny (model P w) A (Builtin.SmallTypes.ownedTupleHandOut (.ref z) (Value.ref g₅.objs.size)>>=_) _ _ _
  refine a9 ?_
  unfold Builtin.SmallTypes.ownedTupleHandOut;refine a9 (bf (aa _ k7:IsZ (g₅.push { cls:=.type "tuple",data:=.seq #[x,y] }) z TI TO .ellipsis f) (by simp) fun g₇ jc jQ=>?_)
  have jc:IsZ g₇ z TI TO (rawInt g₅.objs.size) f:=jc
  refine bf jc (by simp) fun g₈ i6 jP=>af ⟨_,rfl,?_⟩
  have i6:IsZ g₈ z TI TO (rawInt g₅.objs.size) false:=i6
  have up:∀c o,c≠z->g₅.get? c=some o->g₈.get? c=some o:=fun c o c1 e=>jP.extBut _ _ c1 (jQ.extBut _ _ c1 (aa _ e))
  have kG:IsPair g₈ g₅.objs.size x y:=jP.extBut _ _ (Nat.ne_of_gt gw) (jQ.extBut _ _ (Nat.ne_of_gt gw) (aw _ rfl))
  rw [hsz]at i6 kG
  have goal:=hQ g₈ lv x y px py ⟨_,_,i6,.inr ⟨_,rfl⟩⟩ ⟨_,_,up _ _ Z.toz eK⟩ (D1.frame _ _ _ mY fun b hb o e=>up b o (Z.f1 b hb).1 e) (D2.frame _ _ _ mV fun b hb o e=>up b o (Z.f2 b hb).1 e) kG fun c o c1 c2 c3 c4 e=>up c o c1 (mn c o c1 c2 c3 c4 e)
  rw [<- hsz]at goal
  exact goal
 ·rw [aC (by decide)]
  refine a9 ?_
  rw [<- cR]
  rw [bj]
  refine a9 (a9 (bu ?_))
  change wpAny (model P w) A (Builtin.SmallTypes.nextOf (.ref i1)>>=fun x=>pure (some x)) _ _ _
  refine a9 (D1.item k _ _ _ l1 (J7 D1 h1 cS.extBut fun b hb=>(Z.f1 b hb).1) fun x g₂ jM px gK cJ=>af (af ?_))
  dsimp only
  rw [bj]
  refine a9 (a9 (bu ?_))
  change wpAny (model P w) A (Builtin.SmallTypes.nextOf (.ref i2)>>=fun x=>pure (some x)) _ _ _
  have mX:S2 k g₂:=J7 D2 (J7 D2 h2 cS.extBut fun b hb=>(Z.f2 b hb).1) cJ.extBut fun b hb=>(Z.f2 b hb).2.2
  refine a9 (D2.item k _ _ _ l2 mX fun y g₃ oW py gJ cW=>af (af ?_))
  dsimp only
  rw [eT]
  refine af (a9 (wpAny_newTuple (af ⟨_,rfl,?_⟩) (hsz:=by show 2<=sizeLine;decide)))
  have sz:g₃.objs.size=s.heap.objs.size:=by rw [cW.1,cJ.1,cS.1]
  have up:∀c o,c≠z->c≠i1->c≠i2->s.heap.get? c=some o->g₃.get? c=some o:=fun c o c1 c2 c3 e=>cW.extBut _ _ c3 (cJ.extBut _ _ c2 (cS.extBut _ _ c1 e))
  have lV:IsZ g₃ z TI TO (rawInt T) true:=cW.extBut _ _ Z.i2z.symm (cJ.extBut _ _ Z.i1z.symm dI)
  have mZ:S1 (k+1) g₃:=J7 D1 gK cW.extBut fun b hb=>(Z.f1 b hb).2.2
  have goal:=hQ (g₃.push { cls:=.type "tuple",data:=.seq #[x,y] }) oW x y px py ⟨_,_,aa _ lV,.inr ⟨_,rfl⟩⟩ ⟨_,_,aa _ (up _ _ Z.toz Z.to1 Z.to2 cG)⟩ (D1.frame _ _ _ mZ fun b hb o e=>aa _ e) (D2.frame _ _ _ gJ fun b hb o e=>aa _ e)
   (by
    have e:(g₃.push { cls:=.type "tuple",data:=.seq #[x,y] }).get? g₃.objs.size=some { cls:=.type "tuple",data:=.seq #[x,y] }:=aw _ rfl
    rw [sz]at e;exact e) fun c o c1 _ c3 c4 e=>aa _ (up c o c1 c3 c4 e)
  rw [<- sz]at goal
  exact goal
theorem V0d {Q:Fin->Shared->Prop} (Z:Y0 z TI TO i1 i2 eD eC) (D1:Draws P w A i1 eD n1 P1 S1) (D2:Draws P w A i2 eC n2 P2 S2) (ka:Q1h s.heap z TI TO) (cy:IsPair s.heap TI (.ref i1) (.ref i2)) (cG:IsPair s.heap TO a b) (h1:S1 k s.heap) (h2:S2 k s.heap) (hk:k=n1\/(k<n1/\k=n2))
  (hE:∀h' tk e,(∀c o,c≠z->c≠TO->c≠i1->c≠i2->s.heap.get? c=some o->h'.get? c=some o)->(∃o,h'.get? e=some o/\o.cls=.type "StopIteration")->E (.ref e) { s with heap:=h',toks:=tk }) :
  wpAny (model P w) A (Builtin.«zip.__next__» ⟨[.ref z],[]⟩) Q E s:=by
 obtain⟨f0,f,hz,hf⟩:=id ka
 change wpAny (model P w) A (field (.ref z) 2>>=_) _ _ s
 refine a9 (aV hz rfl (x:=Value.bool false) rfl ?_)
 change wpAny (model P w) A (field (.ref z) 3>>=_) _ _ s
 refine a9 (aV hz rfl (x:=.ref TI) rfl (a9 (bg cy rfl ?_)))
 change wpAny (model P w) A (Builtin.SmallTypes.ownedTupleIsFree (.ref z)>>=_) _ _ s
 refine a9 (Y4v ka (fun f0 f hz=>?_) fun g₁ T dI cS=>?_)
 ·rw [aE rfl]
  refine a9 (dW (a9 (aV hz rfl (x:=.ref TO) rfl (a9 (bf hz (by simp) fun g₁ dI cS=>?_)))))
  have dI:IsZ g₁ z TI TO .ellipsis f:=dI
  refine a9 ?_
  simp only [bQ,iC,bj,eT];refine a9 (a9 (dA ?_))
  change wpAny (model P w) A (Builtin.SmallTypes.nextOf (.ref i1)>>=_) _ _ _
  have j0:S1 k g₁:=J7 D1 h1 cS.extBut fun b hb=>(Z.f1 b hb).1
  rcases hk with hk | ⟨bY,hk⟩
  ·subst hk
   refine a9 (D1.done _ _ _ j0 fun g₂ e cJ he=>?_)
   obtain⟨oe,fy,gG⟩:=he
   have k9:IsZ g₂ z TI TO .ellipsis f:=cJ _ _ Z.i1z.symm dI
   have jv:e≠z:=fun q=>by subst q;rw [k9]at fy;cases fy;simp at gG
   exact bf k9 (by simp) fun g₃ _ cW=>hE g₃ _ e (fun c o c1 _ c3 _ x=>cW.extBut _ _ c1 (cJ _ _ c3 (cS.extBut _ _ c1 x))) ⟨oe,cW.extBut _ _ jv fy,gG⟩
  ·refine a9 (D1.item k _ _ _ bY j0 fun x g₂ jM px gK cJ=>af ?_)
   have dO:IsPair g₂ TO a b:=cJ.extBut _ _ Z.to1 (cS.extBut _ _ Z.toz cG)
   refine a9 (bg dO rfl (a9 (dg dO fun g₃ eL cW=>a9 (g8 (af ?_)))))
   refine a9 (a9 (dA ?q))
   change wpAny (model P w) A (Builtin.SmallTypes.nextOf (.ref i2)>>=_) _ _ _
   have gJ:S2 k g₃:=J7 D2 (J7 D2 (J7 D2 h2 cS.extBut fun b hb=>(Z.f2 b hb).1) cJ.extBut fun b hb=>(Z.f2 b hb).2.2) cW.extBut fun b hb=>(Z.f2 b hb).2.1
   subst hk
   refine a9 (D2.done _ _ _ gJ fun g₄ e fb he=>?_)
   obtain⟨oe,fy,gG⟩:=he
   have k8:IsZ g₄ z TI TO .ellipsis f:=fb _ _ Z.i2z.symm (cW.extBut _ _ Z.toz.symm (cJ.extBut _ _ Z.i1z.symm dI))
   have jv:e≠z:=fun q=>by subst q;rw [k8]at fy;cases fy;simp at gG
   exact bf k8 (by simp) fun g₅ _ eZ=>hE g₅ _ e (fun c o c1 c2 c3 c4 x=>eZ.extBut _ _ c1 (fb _ _ c4 (cW.extBut _ _ c2 (cJ.extBut _ _ c3 (cS.extBut _ _ c1 x))))) ⟨oe,eZ.extBut _ _ jv fy,gG⟩
 ·rw [aC (by decide)]
  refine a9 ?_
  rw [<- cR]
  rw [bj]
  refine a9 (a9 (bu ?_))
  change wpAny (model P w) A (Builtin.SmallTypes.nextOf (.ref i1)>>=fun x=>pure (some x)) _ _ _
  have j0:S1 k g₁:=J7 D1 h1 cS.extBut fun b hb=>(Z.f1 b hb).1
  rcases hk with hk | ⟨bY,hk⟩
  ·subst hk
   exact a9 (D1.done _ _ _ j0 fun g₂ e cJ he=>hE g₂ _ e (fun c o c1 _ c3 _ x=>cJ _ _ c3 (cS.extBut _ _ c1 x)) he)
  ·refine a9 (D1.item k _ _ _ bY j0 fun x g₂ jM px gK cJ=>af (af ?_))
   dsimp only
   rw [bj]
   refine a9 (a9 (bu ?_))
   change wpAny (model P w) A (Builtin.SmallTypes.nextOf (.ref i2)>>=fun x=>pure (some x)) _ _ _
   have mX:S2 k g₂:=J7 D2 (J7 D2 h2 cS.extBut fun b hb=>(Z.f2 b hb).1) cJ.extBut fun b hb=>(Z.f2 b hb).2.2
   subst hk
   exact a9 (D2.done _ _ _ mX fun g₃ e cW he=>hE g₃ _ e (fun c o c1 _ c3 c4 x=>cW _ _ c4 (cJ.extBut _ _ c3 (cS.extBut _ _ c1 x))) he)
theorem V0f {Q:Option Value->Shared->Prop} (Z:Y0 z TI TO i1 i2 eD eC) (D1:Draws P w A.in1 i1 eD n1 P1 S1) (D2:Draws P w A.in1 i2 eC n2 P2 S2) (hz:Q1h s.heap z TI TO) (cy:IsPair s.heap TI (.ref i1) (.ref i2)) (cG:IsPair s.heap TO a b) (h1:S1 k s.heap) (h2:S2 k s.heap) (l1:k<n1) (l2:k<n2)
  (hQ:∀h' tk x y,P1 k x->P2 k y->Q1h h' z TI TO->(∃a b,IsPair h' TO a b)->S1 (k+1) h'->S2 (k+1) h'->IsPair h' s.heap.objs.size x y->(∀c o,c≠z->c≠TO->c≠i1->c≠i2->s.heap.get? c=some o->h'.get? c=some o)->Q (some (.ref s.heap.objs.size)) { s with heap:=h',toks:=tk }) :
  wpAny (model P w) A (pyNext (.ref z)) Q E s:=by
 have hT:s.TypeIs (.ref z) "zip":=let ⟨_,_,q,_⟩:=hz;⟨_,q,rfl⟩
 unfold pyNext
 exact a9 (dB (b9 (name:=Str.ofString "__next__") hT bK (be bK hT fN
  (V0e Z D1 D2 hz cy cG h1 h2 l1 l2 fun h' tk x y a1 a2 a3 a4 a5 a6 a7 a8=>af (hQ h' tk x y a1 a2 a3 a4 a5 a6 a7 a8)) (eX _))))
theorem V0g {Q:Option Value->Shared->Prop} (Z:Y0 z TI TO i1 i2 eD eC) (D1:Draws P w A.in1 i1 eD n1 P1 S1) (D2:Draws P w A.in1 i2 eC n2 P2 S2) (hz:Q1h s.heap z TI TO) (cy:IsPair s.heap TI (.ref i1) (.ref i2)) (cG:IsPair s.heap TO a b) (h1:S1 k s.heap) (h2:S2 k s.heap) (hk:k=n1\/(k<n1/\k=n2))
  (hQ:∀h' tk,(∀c o,c≠z->c≠TO->c≠i1->c≠i2->s.heap.get? c=some o->h'.get? c=some o)->Q none { s with heap:=h',toks:=tk }):wpAny (model P w) A (pyNext (.ref z)) Q E s:=by
 have hT:s.TypeIs (.ref z) "zip":=let ⟨_,_,q,_⟩:=hz;⟨_,q,rfl⟩
 unfold pyNext
 refine a9 (dB (b9 (name:=Str.ofString "__next__") hT bK (be bK hT fN (V0d Z D1 D2 hz cy cG h1 h2 hk fun h' tk e kp he=>?_) (eX _))))
 obtain⟨o,ho,hc⟩:=he
 exact a9 (wpAny_isInstance (T:="StopIteration") (b:=true) ⟨o,ho,hc⟩ isSubtype_stop (af (hQ _ _ kp)))
end
noncomputable abbrev zt1 (h:Heap) (l:Addr):Heap:=h.push { cls:=.type "tuple_iterator",data:=.fields #[.ref l,.int 0 0] }
noncomputable abbrev zt2 (h:Heap) (l t:Addr):Heap:=(zt1 h l).push { cls:=.type "tuple_iterator",data:=.fields #[.ref t,.int 0 0] }
noncomputable abbrev zt3 (h:Heap) (l t:Addr):Heap:=(zt2 h l t).push { cls:=.type "tuple",data:=.seq #[.ref h.objs.size,.ref (zt1 h l).objs.size] }
noncomputable abbrev zt4 (h:Heap) (l t:Addr):Heap:=(zt3 h l t).push { cls:=.type "tuple",data:=.seq #[.none,.none] }
noncomputable abbrev zt5 (h:Heap) (l t:Addr):Heap:=(zt4 h l t).push { cls:=.type "zip",data:=.fields #[.none,.bool false,.bool false,.ref (zt2 h l t).objs.size,.ref (zt3 h l t).objs.size] }
theorem W9x (l t:Addr) (xs ys:Array Value) :
  Meets (Builtin.«zip.__new__» ⟨[.type "zip",.ref l,.ref t],[]⟩) (fun _ R s=>s.heap.IsTuple l xs/\s.heap.IsTuple t ys/\R (.ok (.ret (.ref (zt4 s.heap l t).objs.size))) { s with heap:=zt5 s.heap l t }) :=
 Meets.of_wp fun prog w A R s h=>by
  obtain⟨hp,g,d,tk,os⟩:=s;obtain⟨dr,cX,h⟩:=h
  have hsub:=sub_zip
  have mR:Heap.IsTuple (Shared.heap ⟨hp,g,d,tk,os⟩) l xs:=dr
  have mQ:Heap.IsTuple (Shared.heap ⟨hp.push { cls:=.type "tuple_iterator",data:=.fields #[.ref l,.int 0 0] },g,d,tk,os⟩) t ys:=Heap.IsTuple.push cX _
  wp_walk using dX mR,dX mQ
  exact⟨_,rfl,h⟩
theorem Y6t {P:Program}{w:World}{A:Around}{E:VS9}{s:Shared}{l t:Addr}{xs ys:Array Value}{Q:VS9} (hl:s.heap.IsTuple l xs) (ht:s.heap.IsTuple t ys)
  (h:∀h',IsZip h' (s.heap.objs.size+4) (s.heap.objs.size+2) (s.heap.objs.size+3) .none->IsPair h' (s.heap.objs.size+2) (.ref s.heap.objs.size) (.ref (s.heap.objs.size+1))->IsPair h' (s.heap.objs.size+3) .none .none ->
   h'.IsTupleIter s.heap.objs.size l 0->h'.IsTupleIter (s.heap.objs.size+1) t 0->(∀c o,s.heap.get? c=some o->h'.get? c=some o)->Q (.ref (s.heap.objs.size+4)) { s with heap:=h' }) :
  wpAny (model P w) A (call (.type "zip") [.ref l,.ref t]) Q E s:=by
 refine callType_new F.called_zip (by decide) (F.typeCall_zip_2 _ _) (F.newCall_zip_2 _ _) (fun obj=>F.args_object_init_3 obj _ _) F.entry_zip_new (W9x l t xs ys) ⟨hl,ht,?_⟩
 have e1:(zt1 s.heap l).objs.size=s.heap.objs.size+1:=bn ..
 have e2:(zt2 s.heap l t).objs.size=s.heap.objs.size+2:=by rw [bn,e1]
 have e3:(zt3 s.heap l t).objs.size=s.heap.objs.size+3:=by rw [bn,e2]
 have e4:(zt4 s.heap l t).objs.size=s.heap.objs.size+4:=by rw [bn,e3]
 have g5:(zt5 s.heap l t).get? (zt4 s.heap l t).objs.size=some _:=aw _ rfl
 have g4:(zt5 s.heap l t).get? (zt3 s.heap l t).objs.size=some _:=aa _ (aw _ rfl)
 have g3:(zt5 s.heap l t).get? (zt2 s.heap l t).objs.size=some _:=aa _ (aa _ (aw _ rfl))
 have g2:(zt5 s.heap l t).get? (zt1 s.heap l).objs.size=some _:=aa _ (aa _ (aa _ (aw _ rfl)))
 have g1:(zt5 s.heap l t).get? s.heap.objs.size=some _:=aa _ (aa _ (aa _ (aa _ (aw _ rfl))))
 rw [e2,e3,e4]at g5
 rw [e1,e2]at g3
 rw [e3]at g4
 rw [e1]at g2
 rw [e4]
 exact⟨⟨_,g5,rfl⟩,h _ g5 g3 g4 ⟨_,g1,rfl,rfl⟩ ⟨_,g2,rfl,rfl⟩ fun c o x=>aa _ (aa _ (aa _ (aa _ (aa _ x))))⟩
theorem Y4w {P:Program}{w:World}{A:Around}{E:VS9}{s:Shared}{z TI TO:Addr}{f0:Value}{f:Bool}{Q:VS9} (hz:IsZ s.heap z TI TO f0 f) (hQ:Q (.ref z) s):wpAny (model P w) A (pyIter (.ref z)) Q E s:=by
 have q:s.TypeIs (.ref z) "zip":=⟨_,hz,rfl⟩
 exact wpAny_pyIter_slot q F.slot_zip_iter (be F.slot_zip_iter q F.entry_zip_iter (show wpAny _ _ (ret (.ref z)) _ _ s from af ⟨_,rfl,"zip",_,q,bK.lookup,hQ⟩) (F.args_zip_iter_1 _))
noncomputable def Ipp (K:Fg9) (l1 l2:Addr) (n:Nat):It:=⟨fun i H=>i<n/\∃xs ys,C2 K H l1 xs/\C2 K H l2 ys/\min xs.length ys.length=n,
 fun i H v H'=>∃T x y,(∀xs,C2 K H l1 xs->xs[i]?=some x)/\(∀ys,C2 K H l2 ys->ys[i]?=some y)/\H T=none/\v=.ref T/\H'=upd H T (.tup [x,y]),fun i H=>i=n/\∃xs ys,C2 K H l1 xs/\C2 K H l2 ys/\min xs.length ys.length=n⟩
theorem W8s {P:Program}{w:World}{K:Fg9}{nm:Str}{pt:Pos}{z TI TO i1 i2 l1 l2:Addr}{n:Nat} (Z:Y0 z TI TO i1 i2 [i1,l1] [i2,l2]) (dr:l1≠i1) (cX:l2≠i2) :
  Y6 P w K (.Name nm pt) (Ipp K l1 l2 n) [z,TO,i1,i2,TI] z (fun i h=>Q1h h z TI TO/\IsPair h TI (.ref i1) (.ref i2)/\(∃a b,IsPair h TO a b)/\h.IsTupleIter i1 l1 i/\h.IsTupleIter i2 l2 i) where
 mem:=by simp
 obj:=fun i h ⟨hz,cy,⟨a,b,cG⟩,⟨o1,h1,_,d1⟩,⟨o2,h2,_,d2⟩⟩ c hc=>by
  simp only [aj,aL,br]at hc
  rcases hc with rfl | rfl | rfl | rfl | rfl
  ·obtain⟨_,_,q,_⟩:=hz;exact⟨_,q,fun v z=>by cases z⟩
  ·exact⟨_,cG,fun v z=>by cases z⟩
  ·exact⟨o1,h1,fun v z=>by rw [d1]at z;cases z⟩
  ·exact⟨o2,h2,fun v z=>by rw [d2]at z;cases z⟩
  ·exact⟨_,cy,fun v z=>by cases z⟩
 keep:=fun i h h' ⟨hz,cy,⟨a,b,cG⟩,h1,⟨o2,h2,r2⟩⟩ k=>⟨(let ⟨f0,f,q,r⟩:=hz;⟨f0,f,k z (by simp) _ q,r⟩),k TI (by simp) _ cy,⟨a,b,k TO (by simp) _ cG⟩,(let ⟨o1,e1,r1⟩:=h1;⟨o1,k i1 (by simp) o1 e1,r1⟩),o2,k i2 (by simp) o2 h2,r2⟩
 item:=by
  intro X hP hw hK hc i ac s σ H E I hf st hg
  subst hP hw hK
  obtain⟨bY,xs,ys,ib,i9,hn⟩:=hg
  obtain⟨aU,rv,p1,kc⟩:=I.tuple ib
  obtain⟨c8,de,p2,lX⟩:=I.tuple i9
  have lR:=rv.length
  have lP:=de.length
  have hd:X.A.in1.handled=none:=I.ok.hd hc
  have D1:=Q1l (P:=X.prog) (w:=X.w) (A:=X.A.in1) hd i1 l1 dr aU.toArray
  have D2:=Q1l (P:=X.prog) (w:=X.w) (A:=X.A.in1) hd i2 l2 cX c8.toArray
  obtain⟨sz,gm,⟨a0,b0,hV⟩,s1,s2⟩:=st
  have hx:xs[i]?=some (xs[i]'(by omega)):=ae _
  have hy:ys[i]?=some (ys[i]'(by omega)):=ae _
  obtain⟨u,hu,ru⟩:=rv.get hx
  obtain⟨u',kg,jV⟩:=de.get hy
  refine V0f Z D1 D2 sz gm hV ⟨s1,p1⟩ ⟨s2,p2⟩ (by simp;omega) (by simp;omega) fun h' tk x y px py z1 t1 a1 a2 pr kp=>⟨_,rfl,?_⟩
  have ex:x=u:=by
   have:aU[i]?=some x:=by simpa using px
   rw [hu]at this;exact(aB this).symm
  have ey:y=u':=by
   have:c8[i]?=some y:=by simpa using py
   rw [kg]at this;exact(aB this).symm
  subst ex ey
  refine(show wpAny (model X.prog X.w) X.A (pure ()) _ _ _ from af ?_)
  have i5:∀c o,c∉[z,TO,i1,i2]->s.heap.get? c=some o->h'.get? c=some o:=fun c o hc e=>by
   simp only [aj,aL,br,not_or]at hc
   exact kp c o hc.1 hc.2.1 hc.2.2.1 hc.2.2.2 e
  have eM:IsTup h' s.heap.objs.size ([x,y]).toArray:=⟨_,pr,rfl,_,rfl⟩
  have ju:∀b∈[z,TO,i1,i2],K1 X ac H b:=fun b hb=>hf b (by
   simp only [aj,aL,br]at hb ⊢
   rcases hb with h | h | h | h <;> simp [h])
  have I2:=Q6k (t':=tk) (xs:=[xs[i]'(by omega),ys[i]'(by omega)]) I i5 ju (ah s.heap.objs.size) eM (.cons ru (.cons jV .nil)) (by show 2<=sizeLine;decide)
  refine⟨.ref s.heap.objs.size,_,I2,rfl,⟨s.heap.objs.size,_,_,fun zs hz=>by rw [I.tuple_inj hz ib];exact hx,fun zs hz=>by rw [I.tuple_inj hz i9];exact hy,I.hok.fresh (ah _),rfl,rfl⟩,⟨z1,kp _ _ Z.tiz Z.tito Z.ti1 Z.ti2 gm,t1,a1.1,a2.1⟩,fun b hb=>?_⟩
  ·have mJ:b≠s.heap.objs.size:=fun zz=>by
    obtain⟨o,ho⟩:∃o,s.heap.get? b=some o:=by
     simp only [aj,aL,br]at hb
     obtain⟨o1,h1,_⟩:=s1
     obtain⟨o2,h2,_⟩:=s2
     rcases hb with rfl | rfl | rfl | rfl | rfl
     ·obtain⟨_,_,q,_⟩:=sz;exact⟨_,q⟩
     ·exact⟨_,hV⟩
     ·exact⟨_,h1⟩
     ·exact⟨_,h2⟩
     ·exact⟨_,gm⟩
    exact aQ _ (zz ▸ au ho)
   rw [B1 mJ]
   exact(hf b hb).1
 done:=by
  intro X hP hw hK hc i ac s σ H E I hf st hg
  subst hP hw hK
  obtain⟨hi,xs,ys,ib,i9,hn⟩:=hg
  obtain⟨aU,rv,p1,kc⟩:=I.tuple ib
  obtain⟨c8,de,p2,lX⟩:=I.tuple i9
  have lR:=rv.length
  have lP:=de.length
  have hd:X.A.in1.handled=none:=I.ok.hd hc
  have D1:=Q1l (P:=X.prog) (w:=X.w) (A:=X.A.in1) hd i1 l1 dr aU.toArray
  have D2:=Q1l (P:=X.prog) (w:=X.w) (A:=X.A.in1) hd i2 l2 cX c8.toArray
  obtain⟨sz,gm,⟨a0,b0,hV⟩,s1,s2⟩:=st
  have ju:∀b∈[z,TO,i1,i2],K1 X ac H b:=fun b hb=>hf b (by
   simp only [aj,aL,br]at hb ⊢
   rcases hb with h | h | h | h <;> simp [h])
  have hk:i=aU.toArray.size\/(i<aU.toArray.size/\i=c8.toArray.size):=by
   simp only [aF]
   omega
  refine V0g Z D1 D2 sz gm hV ⟨s1,p1⟩ ⟨s2,p2⟩ hk fun h' tk kp=>⟨rfl,Q3h I (fun c o hc e=>?_) ju⟩
  simp only [aj,aL,br,not_or]at hc
  exact kp c o hc.1 hc.2.1 hc.2.2.1 hc.2.2.2 e
 self:=fun A i s Q E st h=>by obtain⟨⟨f0,f,q,r⟩,_⟩:=st;exact Y4w q h
theorem W9q {K:Fg9}{H:Hp}{l1 l2:Addr}{xs ys:List V}{ds es:List D} (lA:H l1=some (.tup xs)) (al:AllS K H ds xs) (cT:H l2=some (.tup ys)) (cI:AllS K H es ys):YlS K (Ipp K l1 l2 (min ds.length es.length)) (O7 ds es) H where
 go:=fun H' s i hi=>by
  rw [Q6q]at hi
  exact⟨hi,xs,ys,C2.of (s _ _ lA),C2.of (s _ _ cT),by rw [al.length,cI.length]⟩
 yld:=fun H' s i v cZ d hd ⟨T,x,y,hx,hy,hT,hv,hH⟩=>by
  subst hH hv
  refine⟨D7 hT _,?_⟩
  obtain⟨d1,d2,e1,e2,rfl⟩:=Z5r hd
  obtain⟨v1,je,q1⟩:=al.get e1
  obtain⟨v2,i7,q2⟩:=cI.get e2
  rw [hx xs (C2.of (s _ _ lA))]at je;cases je
  rw [hy ys (C2.of (s _ _ cT))]at i7;cases i7
  have kp:=Kp.of (s.trans (D7 hT (.tup [x,y])))
  exact A1.s_tup upd_same (AllS.cons (q1.mono kp _ _) (AllS.cons (q2.mono kp _ _) AllS.nil))
 stop:=fun H' s=>⟨Q6q _ _,xs,ys,C2.of (s _ _ lA),C2.of (s _ _ cT),by rw [al.length,cI.length]⟩
section
variable {X:Cx}{H0:Hp}{a b:Expr}{p pos:Pos}{wr:WA}
noncomputable def Q7q (wr:WA):P3:=fun τ Q=>wr τ fun rs=>∃ds es,rs=[.st (.tup ds),.st (.tup es)]/\Q (O7 ds es)
theorem E5.zipP {nm:Str}{pt:Pos} (hg:Gl X "zip") (hm:X.mg "zip"=none) (hv:bootBuiltins "zip"=some (.type "zip")) (ha:DA X H0 [a,b] wr) (he:starEach [a,b] X.env=(false,eval a X.env)::starEach [b] X.env:=by rfl) (hpl:(backTo pos (starEach [b] X.env)).any (·.1)=false:=by rfl) :
  E5 X H0 (.Name nm pt) (.Call (.Name "zip" p) [a,b] [] pos) (Q7q wr) where
 mono:=fun τ P Q f h=>ha.mono τ _ _ (fun r ⟨ds,es,e1,q⟩=>⟨ds,es,e1,f _ q⟩) h
 pi:=by
  intro ac s σ H R I ⟨τ,hR,h⟩
  refine bh (X5 I hg hm hv ?_ (by decide) (by decide))
  refine b7 (B3 (ha.pa pos ac s σ H (fun vs H1=>A5 H H1/\∃l1 l2 xs ys ds es,vs=[.ref l1,.ref l2]/\H1 l1=some (.tup xs)/\AllS X.K H1 ds xs/\H1 l2=some (.tup ys)/\AllS X.K H1 es ys/\∀J H',A5 H H'->YlS X.K J (O7 ds es) H'->R J H') I
   ⟨τ,hR,ha.mono τ _ _ (fun rs ⟨ds,es,e1,q⟩ vs H1 s1 ck=>⟨s1,by
    subst e1
    obtain⟨v,u,rfl,ir,gv⟩:=Z0p ck
    have ir:A1 X.K H1 (.tup ds) v:=ir
    unfold A1 at ir
    obtain⟨l,xs,rfl,sq,al⟩:=ir
    have gv:A1 X.K H1 (.tup es) u:=gv
    unfold A1 at gv
    obtain⟨l2,ys,rfl,cT,cI⟩:=gv
    exact⟨l,l2,xs,ys,ds,es,rfl,sq,al,cT,cI,q⟩⟩) h⟩) fun us s1 ⟨vs,H1,I1,rv,sm,l1,l2,xs,ys,ds,es,e1,sq,al,cT,cI,q⟩=>?_) he hpl
  subst e1
  have de:∃u1 u2,us=[u1,u2]/\B8 (.ref l1) u1/\B8 (.ref l2) u2:=by
   cases rv with
   | cons r1 rr =>
    obtain⟨u2,rfl,r2⟩:=R1 rr
    exact⟨_,u2,rfl,r1,r2⟩
  obtain⟨u1,u2,rfl,r1,r2⟩:=de
  cases (show u1=Value.ref l1 from r1)
  cases (show u2=Value.ref l2 from r2)
  obtain⟨aU,gN,pl,fV⟩:=I1.tuple (C2.of sq)
  obtain⟨c8,hZ,e7,kb⟩:=I1.tuple (C2.of cT)
  have hl:@LT.lt Nat _ l1 s1.heap.objs.size:=by obtain⟨o,ho,_⟩:=id pl;exact au ho
  have cX:@LT.lt Nat _ l2 s1.heap.objs.size:=by obtain⟨o,ho,_⟩:=id e7;exact au ho
  refine Y6t pl e7 fun h' hz cy cG ky jF k=>?_
  have Z:Y0 (s1.heap.objs.size+4) (s1.heap.objs.size+2) (s1.heap.objs.size+3) s1.heap.objs.size (s1.heap.objs.size+1) [s1.heap.objs.size,l1] [s1.heap.objs.size+1,l2]:=by
   refine⟨?_,?_,?_,?_,?_,?_,?_,?_,?_,?_,fun b hb=>?_,fun b hb=>?_⟩
   all_goals first | (show ¬ ((_:Nat)=(_:Nat));omega) | skip
   all_goals simp only [aj,aL,br]at hb
   all_goals rcases hb with rfl | rfl <;> refine⟨?_,?_,?_⟩ <;> (show ¬ ((_:Nat)=(_:Nat));omega)
  refine Y4w hz ⟨s1.heap.objs.size+4,[s1.heap.objs.size+4,s1.heap.objs.size+3,s1.heap.objs.size,s1.heap.objs.size+1,s1.heap.objs.size+2],_,_,H1,rfl,I1.kept (t':=s1.toks) k,W8s (n:=Min.min ds.length es.length) Z (az hl) (az (bx cX)),⟨⟨_,_,hz,.inl rfl⟩,cy,⟨_,_,cG⟩,ky,jF⟩,fun b hb=>?_,q _ _ sm (W9q sq al cT cI)⟩
  have hb:s1.heap.objs.size<=b:=by
   simp only [aj,aL,br]at hb
   rcases hb with rfl | rfl | rfl | rfl | rfl <;> first | exact ah _ | exact Nat.le_add_right _ _
  exact I1.fpOk hb (I1.hok.fresh hb)
@[simp] theorem W6i {τ:A8}{Q:List D->Prop}:Q7q wr τ Q=wr τ fun rs=>∃ds es,rs=[.st (.tup ds),.st (.tup es)]/\Q (O7 ds es):=rfl
end
noncomputable def FzT (K:Fg9) (a:Addr) (kvs:List (List A7×D)):Hp->Prop:=fun H=>∃o ps,H a=some (.frz o (.dT ps))/\B5 K H kvs ps
theorem FzT.mono {K:Fg9}{a:Addr}{kvs:List (List A7×D)}:Q2f (FzT K a kvs):=fun H H' k ⟨o,ps,h,q⟩=>⟨o,ps,k.frz _ _ _ h,q.mono k _ _⟩
section
variable {X:Cx}{ac:Pn9} {σ:St}{H H0:Hp}{s:Shared}{a:Addr}
theorem Y8k {ps:List (List A7×V)} (I:A0 X ac σ H s) (h:H a=some (.dT ps)):∃o,A0 X ac σ (upd H a (.frz o (.dT ps))) s:=by
 have ok:=I.hok a _ h
 obtain⟨z,hd,xs,rel,o,es,ep,ho,r⟩:=id (show F1 X.prog X.w H s.heap a (.dT ps)from ok)
 refine⟨o,I.write (t':=s.toks) (h':=s.heap) (e:=a) (o:=.frz o (.dT ps)) (by rw [h];trivial) (.inl rfl) (fun b u _ k=>k) ⟨_,ho⟩ ⟨ho,z,hd,xs,L2.Paired.mapP rel fun p q ⟨h1,h2,h3⟩=>⟨h1,?_,h3⟩,o,es,ep,ho,r⟩⟩
 rw [B1 (Z5 h2 h (by intro z;cases z))];exact h2
theorem B9.freezeT {K:Fg9} {τ:A8}{i:Nat}{kvs:List (List A7×D)}{o:Obj}{ps:List (List A7×V)} (hR:B9 K H0 τ σ H) (e1:τ[i]?=some (some (.dt kvs))) (hv:σ[i]?=some (some (.ref a))) (h0:H0 a=none) (sq:H a=some (.dT ps)) (kv:B5 K H kvs ps) :
  B9 K H0 (τ.set i (some (.cl a (FzT K a kvs)))) σ (upd H a (.frz o (.dT ps))) :=
 hR.mutG e1 rfl hv h0 sq (by intro xs z;cases z) (by intro o u z;cases z) ⟨rfl,⟨o,ps,upd_same,kv.mono (Kp.updM sq (by intro xs z;cases z) (by intro o u z;cases z) _) _ _⟩,FzT.mono⟩
end
section
variable {X:Cx}{H0:Hp}{st:Stmt}{w:WS}
def Z4n (K:Fg9) (i:Nat) (w:WS):WS:=fun E τ=>w { E with nx:=fun τ'=>∃kvs,τ'[i]?=some (some (.dt kvs))/\∀a,E.nx (τ'.set i (some (.cl a (FzT K a kvs)))) } τ
theorem DS.fzT (i:Nat) (h:DS X H0 st w):DS X H0 st (Z4n X.K i w) where
 mono:=fun τ E F le q=>h.mono τ { E with nx:=fun τ'=>∃kvs,τ'[i]?=some (some (.dt kvs))/\∀a,E.nx (τ'.set i (some (.cl a (FzT X.K a kvs)))) } { F with nx:=fun τ'=>∃kvs,τ'[i]?=some (some (.dt kvs))/\∀a,F.nx (τ'.set i (some (.cl a (FzT X.K a kvs)))) } ⟨fun τ' ⟨kvs,e,q⟩=>⟨kvs,e,fun a=>le.nx _ (q a)⟩,le.rt,le.bk,le.ct⟩ q
 ps:=Q3 (Q8f h.ps) fun D σ H ⟨τ,hR,q⟩=>⟨τ,hR,h.mono τ { L4 X.K H0 H D with nx:=fun τ'=>∃kvs,τ'[i]?=some (some (.dt kvs))/\∀a,(L4 X.K H0 H D).nx (τ'.set i (some (.cl a (FzT X.K a kvs)))) } _ ⟨fun τ' ⟨kvs,e,q⟩ σ' H' kp cL ac s I=>by
  obtain⟨a,ps,hv,h0,sq,kv⟩:=cL.dtAt e
  obtain⟨o,I2⟩:=Y8k I sq
  exact⟨_,I2,q a σ' _ (kp.trans (Kp.updM sq (by intro xs z;cases z) (by intro o u z;cases z) _)) (cL.freezeT e hv h0 sq kv)⟩,fun _ h=>h,fun _ h=>h,fun _ h=>h⟩ q⟩
end
section
variable {X:Cx}{H0:Hp}{a b c e o tg:Expr}{pos bI p2 apos bq:Pos}{wa wb wi we wv:WE}{x:Str}{i:Nat}
theorem B9.ftAt {K:Fg9}{H:Hp} {τ:A8} {σ:St}{a:Addr}{kvs:List (List A7×D)} (hR:B9 K H0 τ σ H) (e1:τ[i]?=some (some (.cl a (FzT K a kvs)))):σ[i]?=some (some (.ref a))/\∃o ps,H a=some (.frz o (.dT ps))/\B5 K H kvs ps:=by
 obtain⟨v,hv,rfl,q,_⟩:=hR.here i _ e1
 exact⟨hv,q⟩
theorem Z9d {K:Fg9}{H:Hp}{ds:List D}{ks:List A7}{v:V} (e:U8 ds=some ks) (h:A1 K H (.tup ds) v):∃b,v=.ref b/\H b=some (.tup (ks.map kV)):=by
 unfold A1 at h
 obtain⟨b,xs,rfl,sb,al⟩:=h
 rw [Q5o e al]at sb
 exact⟨b,rfl,sb⟩
def Q9r (K:Fg9) (i:Nat) (we:WE):WE:=fun τ Q=>∃a kvs,τ[i]?=some (some (.cl a (FzT K a kvs)))/\we τ fun r=>∃ds ks d,r=.st (.tup ds)/\U8 ds=some ks/\D5 kvs ks=some d/\Q (.st d)
theorem DE.tget (hu:X.A.units+1<cLine) (ho:PE X o (O3 i)) (he:DE X H0 e we) (hs:Q2g e):DE X H0 (.Subscript o e pos) (Q9r X.K i we) where
 mono:=fun τ P Q f ⟨a,kvs,e1,h⟩=>⟨a,kvs,e1,he.mono τ _ _ (fun r ⟨ds,ks,d,a1,a2,a3,a4⟩=>⟨ds,ks,d,a1,a2,a3,f _ a4⟩) h⟩
 pe:=M7 (Q6b hu ho he.pe hs) fun σ H Q ⟨τ,hR,a,kvs,e1,h⟩=>by
  obtain⟨hv,ob,ps,sq,kv⟩:=hR.ftAt e1
  refine⟨_,hv,τ,hR,he.mono τ _ _ (fun r ⟨ds,ks,d,a1,a2,a3,a4⟩ v H1 s1 ir=>?_) h⟩
  subst a1
  obtain⟨b,rfl,sb⟩:=Z9d a2 ir
  rcases B5.val (k:=ks) (kv.mono (Kp.of s1) _ _)with⟨n1,_⟩ | ⟨d',v',n1,n2,n3⟩
  ·rw [a3]at n1;cases n1
  ·rw [a3]at n1;cases n1
   exact⟨a,v',rfl,.inr ⟨ps,ks,b,.inr ⟨ob,s1 _ _ sq⟩,rfl,sb,n2.symm⟩,a4 _ _ s1 n3⟩
def Q9i (i:Nat) (we:WE):WE:=fun τ Q=>∃kvs,τ[i]?=some (some (.bd kvs))/\we τ fun r=>∃ds ks d,r=.st (.tup ds)/\U8 ds=some ks/\D5 kvs ks=some d/\Q (.st d)
theorem DE.bget (hu:X.A.units+1<cLine) (ho:PE X o (O3 i)) (he:DE X H0 e we) (hs:Q2g e):DE X H0 (.Subscript o e pos) (Q9i i we) where
 mono:=fun τ P Q f ⟨kvs,e1,h⟩=>⟨kvs,e1,he.mono τ _ _ (fun r ⟨ds,ks,d,a1,a2,a3,a4⟩=>⟨ds,ks,d,a1,a2,a3,f _ a4⟩) h⟩
 pe:=M7 (Q6b hu ho he.pe hs) fun σ H Q ⟨τ,hR,kvs,e1,h⟩=>by
  obtain⟨v,hv,a,ps,rfl,sq,kv⟩:=hR.here i _ e1
  have sq:=hR.same _ _ sq
  refine⟨_,hv,τ,hR,he.mono τ _ _ (fun r ⟨ds,ks,d,a1,a2,a3,a4⟩ v H1 s1 ir=>?_) h⟩
  subst a1
  obtain⟨b,rfl,sb⟩:=Z9d a2 ir
  rcases B5.val (k:=ks) (kv.mono (Kp.of s1) _ _)with⟨n1,_⟩ | ⟨d',v',n1,n2,n3⟩
  ·rw [a3]at n1;cases n1
  ·rw [a3]at n1;cases n1
   exact⟨a,v',rfl,.inr ⟨ps,ks,b,.inl (s1 _ _ sq),rfl,sb,n2.symm⟩,a4 _ _ s1 n3⟩
end
noncomputable def Idt (d:Addr) (o:Obj) (ps:List (List A7×V)):It:=⟨fun i H=>i<ps.length/\H d=some (.frz o (.dT ps)),
 fun i H x H'=>H'=H/\∃b p,x=.ref b/\ps[i]?=some p/\H b=some (.tup (p.1.map kV)),fun i H=>i=ps.length/\H d=some (.frz o (.dT ps))⟩
theorem Y1r {P:Program}{w:World}{H:Hp}{h:Heap}{d:Addr}{o:Obj}{ps:List (List A7×V)}{es:Array DictEntry}{ep:Nat} (ok:F5 P w H h) (e:H d=some (.frz o (.dT ps))) (ho:o.data=.dict es ep):(d==sysModules)=false/\X8 h d es ep/\es.size=ps.length /\
  ∀(i:Nat) (x:DictEntry),es[i]?=some x->∃b p,ps[i]?=some p/\x.key=.ref b/\H b=some (.tup (p.1.map kV)):=by
 obtain⟨h1,h2⟩:=(show F1 P w H h d (.frz o (.dT ps))from ok d _ e)
 obtain⟨hd,_,eQ,lf,⟨o',h3,h4,h5⟩,h6,h7⟩:=Z1h h2
 rw [h1]at h3;cases h3
 rw [ho]at h5;cases h5
 exact⟨hd,⟨o,h1,h4,ho⟩,h6,h7⟩
theorem W8m {P:Program}{w:World}{K:Fg9}{tg:Expr}{d it:Addr}{o:Obj}{ps:List (List A7×V)}{es:Array DictEntry}{ep:Nat} (cA:d≠it) (ho:o.data=.dict es ep) (hl:es.size=ps.length):Y6 P w K tg (Idt d o ps) [it] it (fun i h=>h.IsKeyIter it d i es.size ep) where
 mem:=by simp
 obj:=fun i h st b hb=>by
  have e:b=it:=by simpa using hb
  subst e
  obtain⟨o,e,c,d⟩:=st
  exact⟨o,e,fun v z=>by rw [d]at z;cases z⟩
 keep:=fun i h h' st k=>st.at fun o e=>k it (by simp) o e
 item:=by
  intro X hP hw hK hc i ac s σ H E I hf st hg
  subst hP hw hK
  obtain⟨lt,hq⟩:=hg
  obtain⟨_,raw,_,keys⟩:=Y1r I.hok hq ho
  obtain⟨f0,f1,f2,f3,f4,f5⟩:=hf it (by simp)
  have lt':i<es.size:=by omega
  have he:es[i]?=some es[i]:=bG lt'
  obtain⟨b,p,hp,hk,hb⟩:=keys i _ he
  refine Y1p st raw he fun h' fk sb=>?_
  have I1:A0 X ac σ H { s with heap:=h' }:=I.turned (t':=s.toks) (fun b o hb e=>(sb.2 b hb).trans e) f0 f1 f3 f4 f5
  obtain⟨o',e,c,dd⟩:=id fk
  rw [hk]
  exact⟨_,rfl,Q5j (s:={ s with heap:=h' }) e c dd (by decide) ⟨.ref b,H,I1,rfl,⟨rfl,b,p,rfl,hp,hb⟩,fk,fun b hb=>(hf b hb).1⟩⟩
 done:=by
  intro X hP hw hK hc i ac s σ H E I hf st hg
  subst hP hw hK
  obtain⟨rfl,hq⟩:=hg
  obtain⟨_,raw,_,keys⟩:=Y1r I.hok hq ho
  obtain⟨f0,f1,f2,f3,f4,f5⟩:=hf it (by simp)
  rw [<- hl]at st
  exact Y1o (I.ok.hd hc) st raw fun h' eb=>⟨rfl,I.turned (t':=s.toks) (fun b o hb e=>eb b o hb e) f0 f1 f3 f4 f5⟩
 self:=fun _ _ _ _ _ st h=>wpAny_pyIter_keyiter st h
section
variable {X:Cx}{H0:Hp}{e tg:Expr}{i:Nat}
noncomputable def Z1u (K:Fg9) (i:Nat):P3:=fun τ Q=>∃a kvs,τ[i]?=some (some (.cl a (FzT K a kvs)))/\Q (kvs.map fun p=>ktD p.1)
theorem E5.fdT (he:PE X e (O3 i)):E5 X H0 tg e (Z1u X.K i) where
 mono:=fun τ P Q f ⟨a,kvs,e1,q⟩=>⟨a,kvs,e1,f _ q⟩
 pi:=by
  intro ac s σ H R I ⟨τ,hR,a,kvs,e1,q⟩
  obtain⟨hv,o,ps,sq,kv⟩:=hR.ftAt e1
  refine B3 (he ac s σ H (fun v H1=>v=.ref a/\H1=H) I ⟨_,hv,rfl,rfl⟩) fun u s1 ⟨v,H1,I1,rv,ev,eH⟩=>?_
  subst ev eH
  cases (show u=Value.ref a from rv)
  obtain⟨h1,h2⟩:=(show F1 X.prog X.w H1 s1.heap a (.frz o (.dT ps))from I1.hok a _ sq)
  obtain⟨hd,_,es,ep,⟨o',h3,h4,h5⟩,h6,h7⟩:=Z1h h2
  rw [h1]at h3;cases h3
  have lt:a<s1.heap.objs.size:=au h1
  refine Y1q hd ⟨o,h1,h4,h5⟩ ⟨s1.heap.objs.size,[s1.heap.objs.size],_,_,H1,rfl,I1.kept (t':=s1.toks) fun c o x=>aa _ x,W8m (az lt) h5 h6,⟨_,aw _ rfl,rfl,rfl⟩,fun b hb=>?_,q _ _ (A5.refl _) ⟨fun H' s i hi=>⟨by rw [ag,B5.length kv]at hi;exact hi,s _ _ sq⟩,fun H' s i x cZ d hd ⟨e,b,p,e2,e3,e4⟩=>?_,fun H' s=>⟨by rw [ag,B5.length kv],s _ _ sq⟩⟩⟩
  ·have e:b=s1.heap.objs.size:=by simpa using hb
   subst e
   exact I1.fpOk (ah _) (I1.hok.fresh (ah _))
  ·subst e e2
   rw [B5.keysT kv,ai,e3]at hd
   cases hd
   exact⟨A5.refl _,A1.s_tup e4 (Q6y p.1)⟩
end
section
variable {X:Cx}{H0:Hp}{a:Expr}{p p2 pos dm:Pos}{wr:WA}
def Q9o (wr:WA):WE:=fun τ Q=>wr τ fun rs=>∃j:Int,rs=[.st (.int j)]/\0<=j/\j<=2 ^ 24/\Q (.nw (J4 0 j.toNat))
theorem DE.listRng (hc:X.calm=true) (hg:Gl X "list") (hm:X.mg "list"=none) (qv:Gl X "range") (qk:X.mg "range"=none) (ha:DA X H0 [a] wr)
  (hs:starEach [.Call (.Name "range" p2) [a] [] dm] X.env=(false,eval (.Call (.Name "range" p2) [a] [] dm) X.env)::starEach [] X.env:=by rfl)
  (he:starEach [a] X.env=(false,eval a X.env)::starEach [] X.env:=by rfl) (hpl:(backTo dm (starEach [] X.env)).any (·.1)=false:=by rfl) :
  DE X H0 (.Call (.Name "list" p) [.Call (.Name "range" p2) [a] [] dm] [] pos) (Q9o wr) where
 mono:=fun τ P Q f h=>ha.mono τ _ _ (fun r ⟨j,e1,h1,h2,q⟩=>⟨j,e1,h1,h2,f _ q⟩) h
 pe:=by
  intro ac s σ H Q I ⟨τ,hR,h⟩
  refine bh (X5 I hg hm (u:=.type "list") rfl ?_ (by decide) (by decide))
  refine b7 ?_ hs
  rw [hs]
  change wpAny (model X.prog X.w) X.A (spliced ((false,eval (.Call (.Name "range" p2) [a] [] dm) X.env)::backTo pos (starEach [] X.env))) _ _ s
  refine c6 ?_
  refine bh (X5 I qv qk (u:=.type "range") rfl ?_ (by decide) (by decide))
  refine b7 (B3 (ha.pa dm ac s σ H (fun vs H1=>A5 H H1/\∃j:Int,vs=[.int j]/\0<=j/\j<=2 ^ 24/\∀v H',A5 H H'->D9 X.K H H' (.nw (J4 0 j.toNat)) v->Q v H') I
   ⟨τ,hR,ha.mono τ _ _ (fun rs ⟨j,e1,h1,h2,q⟩ vs H1 s1 ck=>⟨s1,by
    subst e1
    obtain⟨v,rfl,ir⟩:=T5 ck
    cases (show v=.int j from ir)
    exact⟨j,rfl,h1,h2,q⟩⟩) h⟩) fun us s1 ⟨vs,H1,I1,rv,sm,j,e1,h1,h2,q⟩=>?_) he hpl
  subst e1
  obtain⟨u,rfl,ru⟩:=R1 rv
  obtain⟨t,rfl⟩:=ru
  refine call_range_1 (cV ?_)
  have sz:Builtin.Range.rangeSize 0 j 1=(j.toNat:Int):=by rw [rangeSize_one];split <;> omega
  refine call_list_range (I.ok.hd hc) (IsRange.new ..) (small_one (by omega) (by omega) (by omega) (by omega)) sz (by omega) fun h' tk cf c' kp e it=>?_
  obtain⟨pV,iO⟩:=it
  dsimp only at e kp ⊢
  generalize hp:(s1.heap.push { cls:=.type "range",data:=.fields #[.int 0 s1.toks,.int j t,.int 1 (s1.toks+1)] })=g at e kp ⊢
  have eB:s1.heap.objs.size<=g.objs.size:=by rw [<- hp,bn];exact cw _
  have pS:∀b o,s1.heap.get? b=some o->h'.get? b=some o:=fun b o x=>kp b o (by rw [<- hp];exact aa _ x)
  have go:∀(n:Nat) (us:List Value),us.length=n->(∀(k:Nat) (v:Value),us[k]?=some v->∃t,v=.int (0+(k:Int)*1) t)->C0 ((List.range n).map fun(i:Nat)=>V.int (0+(i:Int))) us:=by
   intro n
   induction n with
   | zero=>intro us l _;cases us with
    | nil=>exact .nil
    | cons _ _=>cases l
   | succ n ih =>
    intro us l f
    obtain⟨ms,x,rfl⟩:∃ms x,us=ms++[x]:=by
     have ne:us≠[]:=fun z=>by subst z;cases l
     exact⟨_,_,(List.dropLast_concat_getLast ne).symm⟩
    have l2:ms.length=n:=by simpa using l
    have r1:=ih ms l2 fun k v hk=>f k v (by rw [aH (aI.mp hk).1];exact hk)
    obtain⟨t,ht⟩:=f n x (by rw [<- l2];simp)
    rw [List.range_succ,aX,ht]
    exact r1.append (.cons ⟨t,by simp⟩ .nil)
  have rel:=go j.toNat cf.toList (by rw [bZ];exact pV) fun k v hv=>iO k v (by simpa using hv)
  have hn:=I1.hok.fresh eB
  have al:∀(H:Hp) (l:List Nat),AllS X.K H (l.map fun(i:Nat)=>D.int (0+(i:Int))) (l.map fun(i:Nat)=>V.int (0+(i:Int))):=fun H l=>by
   induction l with
   | nil=>exact AllS.nil
   | cons a l ih=>exact AllS.cons A1.s_int ih
  refine⟨.ref g.objs.size,_,I1.laid (t':=tk) pS eB (show F1 X.prog X.w _ h' _ (.lst ((List.range j.toNat).map fun(i:Nat)=>V.int (0+(i:Int))))from⟨by rw [ag,bo];show _<=2 ^ 24;omega,cf.toList,c',rel,by simpa using e⟩),rfl,q _ _ (sm.trans (D7 hn _)) ⟨_,_,rfl,sm.free hn,upd_same,al _ _⟩⟩
end
end TK
end
section
namespace MC
open PySem PySem.Spec PyProof.Rows L2 TK
abbrev Z6b:List Str:=["machine","ends","rows"]
def Z5k   (Q3e:O8):WS:=(B7 (Q9g (wV 0) (N7 2 (E6 (B0 1) (E6 (B0 2) O2)))) (O6 (W8 Q3e (A2 (wV 1) (A2 (wV 2) A4)))))
abbrev Z0f:List Str:=["_law_long","_law_found","_law_row","_law_turn","_law_longer","_law_text_here"]
def Z5i   :WS:=(B7 (C5 1 (M3 (A2 (A9 (wC (.str ""))) A4))) (B7 (C5 2 (A9 (M3 (A2 (A9 (wC (.str ""))) A4)))) (B7 (L6 (W0 (A2 (wV 0) A4)) (B0 3) (B7 (C5 4 (M3 A4)) (B7 (Q6n 4 (L6 (Q0f (A9 (wV 2))) (B0 5) (C5 4 (A3 F2 (wV 4) (M0 1 [5] (Z1v (wC (.str "01ab"))) (B0 0) P9 (A9 (A3 F2 (wV 1) (wV 0)))))))) (B7 (C5 2 (A9 (wV 4))) (C5 1 (A3 Q2i (wV 1) (wV 2))))))) (Q6p 1))))
abbrev Z6a:List Str:=["_law_machine_told","_law_state_here","_law_text_here","_law_sign"]
def Z5h   :WS:=(B7 (L6 (Q7n (wV 2)) (B0 3) (C5 1 (A3 B4 (A3 B4 (A3 B4 (wV 0) (wC (.int 1))) (wV 1)) (Q4p (wC (.str "01ab")) (wV 3))))) (Q6p 1))
abbrev Z5x:List Str:=["_law_machine_told","_law_text_here"]
def Z5b   (eI:D6):WS:=(O6 (A3 B4 (A3 B4 (wV 0) (wC (.int 0))) (O5 eI (A2 (wV 0) (A2 (wC (.int 0)) (A2 (wV 1) A4))))))
abbrev Q3l:List Str:=["_law_told","_law_size","_law_met","_law_state_here","_law_row","_law_apart","_law_one","_law_other","_law_turn","_law_steps"]
def Z5e  (K:Fg9) :WS:=(B7 (C5 1 (C7 G2 (A2 (A3 B4 (wV 0) (wC (.int 0))) A4))) (B7 (C5 2 (M3 (A2 (A9 (wC (.int 0))) A4))) (B7 (L6 (Q0f (A9 (Q9o (A2 (wV 1) A4)))) (B0 3) (V3 (A3 (S7 fun i j=>decide (i<j)) (wV 3) (C7 G2 (A2 (wV 2) A4))) (B7 (C5 4 (A3 B4 (A3 B4 (wV 0) (wC (.int 1))) (wV 3))) (C5 2 (A3 F2 (wV 2) (M0 2 [2,4] (Q2o (A2 (wV 4) A4)) (N7 2 (E6 (B0 0) (E6 (B0 1) O2))) (A3 (inL 59 true) (wV 1) (A3 F2 (wV 2) (C7 Q2s (A2 (wSl (wV 3) Z2p (Z2q (wV 0))) A4)))) (A9 (wV 1)))))) V4)) (B7 (V3 (A3 (K2 59 true) (wV 2) (Q9o (A2 (wV 1) A4))) (O6 (wC (.bl false))) V4) (B7 (Z4j 5) (B7 (L6 (W0 (A2 (wV 1) A4)) (B0 6) (L6 (W0 (A2 (wV 1) A4)) (B0 7) (Q4o 5 (T4 (A2 (A9 (wV 6)) (A2 (A9 (wV 7)) A4))) (wB (A3 (K2 59 true) (A3 B4 (A3 B4 (wV 0) (wC (.int 0))) (wV 6)) (A3 B4 (A3 B4 (wV 0) (wC (.int 0))) (wV 7))))))) (B7 (Z4n K 5 (L6 (W0 (A2 (wV 1) A4)) (B0 8) (L6 (Q0f (A9 (C7 Q1r (A2 (wV 5) A4)))) (N7 2 (E6 (B0 6) (E6 (B0 7) O2))) (B7 (C5 9 (M0 1 [5] (Q7q (A2 (A3 B4 (A3 B4 (wV 0) (wC (.int 1))) (wV 6)) (A2 (A3 B4 (A3 B4 (wV 0) (wC (.int 1))) (wV 7)) A4))) (B0 0) P9 (A9 (Q9i 1 (wV 0))))) (Q4o 5 (T4 (A2 (A9 (wV 6)) (A2 (A9 (wV 7)) A4))) (Q9q (Q9k 5 (T4 (A2 (A9 (wV 6)) (A2 (A9 (wV 7)) A4)))) (wB (A3 (inL 59 false) (wC (.bl true)) (wV 9))))))))) (O6 (wB (A3 (K2 60 false) (M0 1 [5] (Z1u K 5) (B0 0) (Q9f (A3 (K2 59 true) (A3 B4 (wV 0) (wC (.int 0))) (A3 B4 (wV 0) (wC (.int 1)))) (Q3i (Q4u (Q9r K 1 (wV 0))))) (A9 (wV 0))) (M3 A4)))))))))))
abbrev Z6c:List Str:=["rows","text","start","states","sign"]
def Z5m   :WS:=(B7 (C5 3 (M3 (A2 (A9 (wV 2)) A4))) (B7 (L6 (Q7n (wV 1)) (B0 4) (S5 3 (A9 (A3 B4 (A3 B4 (wV 0) (A3 B4 (wV 3) (Q9p (wC (.int 1))))) (Q4p (wC (.str "01ab")) (wV 4)))))) (Q6p 3)))
abbrev Z5v:List Str:=["machine","text","ends","rows"]
def Z4w   (dv:D6):WS:=(B7 (Q9g (wV 0) (N7 2 (E6 (B0 2) (E6 (B0 3) O2)))) (O6 (A3 B4 (wV 2) (A3 B4 (Z4h 0 dv (A2 (wV 3) (A2 (wV 1) A4))) (Q9p (wC (.int 1)))))))
abbrev Z5w:List Str:=["machine"]
def Z4z   (sp_least_of:O8):WS:=(O6 (wB (A3 (K2 60 false) (W8 sp_least_of (A2 (wV 0) A4)) (wV 0))))
noncomputable def sp_least_of:O8:=fun rs Pr=>∃m:E1,rs=[.st (mD m)]/\F7 m/\m.1.length<=20000/\Pr (.st (mD (E8 m.1 m.2)))
theorem Z2o:Q1g sp_least_of:=fun rs P Q f ⟨m,e,h1,h2,h3⟩=>⟨m,e,h1,h2,f _ h3⟩
theorem W5e:∀rs Pr,rs.length=1->sp_least_of rs Pr->Z5k Q3e (Y5 Pr) (F6 Z6b rs):=by
 rintro rs Pr _ ⟨m,rfl,hw,hl,h⟩
 unfold Z5k
 simp only [L5,X6,Q1v,D8,D4,C3,Z3i,Q1y,Q1w,L9,Q1x]
 exact⟨_,rfl,_,rfl,_,rfl,rfl,_,_,rfl,_,_,rfl,rfl,_,rfl,_,rfl,rfl,_,m.1,m.2,rfl,.inr rfl,hw,hl,h⟩
theorem W7d (t s:Str):G3 (t++s)=G3 t++G3 s:=by
 unfold G3
 rw [<- aX]
 congr 1
 exact Array.toList_append
theorem W7e {c:Nat} (h:c∈B6):G3 (W7 c)=[.str (W7 c)]:=by
 simp only [B6,aj,aL,br]at h
 rcases h with rfl | rfl | rfl | rfl <;> rfl
theorem Z8p {c:Nat} (h:c∈B6):Q5l "01ab" (W7 c)=some c:=by
 simp only [B6,aj,aL,br]at h
 rcases h with rfl | rfl | rfl | rfl <;> decide +kernel
theorem Z3n {w:List Nat} (h:C8 w):G3 (V2 w)=w.map fun c=>.str (W7 c):=by
 have go:∀(w:List Nat) (t:Str),C8 w->G3 (w.foldl (fun t c=>t++W7 c) t)=G3 t++w.map fun c=>.str (W7 c):=by
  intro w
  induction w with
  | nil=>intro t _;simp
  | cons c w ih =>
   intro t h
   rw [List.foldl_cons,ih _ (fun d hd=>h d (av _ hd)),W7d,W7e (h c ao),ak,bz];rfl
 rw [V2,go w "" h];rfl
noncomputable def Q8s:D6:=fun rs r=>∃(m:E1) (i:Nat) (w:List Nat),rs=[.st (mD m),.st (iD i),.st (.str (V2 w))]/\F7 m/\i<m.1.length/\C8 w/\r=.st (iD (run (B2 m.2) i w))
def wsS:WS:=(C5 1 (A3 B4 (A3 B4 (A3 B4 (wV 0) (wC (.int 1))) (wV 1)) (Q4p (wC (.str "01ab")) (wV 3))))
theorem Y3u {m:E1} (wf:F7 m) {E:F4}{o2:Option Sl}:∀(w:List Nat) (i:Nat) (o3:Option Sl),C8 w->i<m.1.length->(∀o3,E.nx [some (.dat (mD m)),some (.dat (iD (run (B2 m.2) i w))),o2,o3]) ->
  C4 (B0 3) wsS E (w.map fun c=>.str (W7 c)) [some (.dat (mD m)),some (.dat (iD i)),o2,o3]
 | [],i,o3,_,_,h=>h o3
 | c::w,i,o3,hw,hi,h=>by
  rw [ak,C4]
  simp only [wsS,L9,P8,E2,C3,F8,Y2h]
  have hc:=hw c ao
  have fC:c<4:=by simp only [B6,aj,aL,br]at hc;omega
  obtain⟨r,hr,_,kh⟩:=Wf.row wf hi
  refine⟨_,rfl,F9 (i:=1) rfl ⟨_,rfl,?_⟩⟩
  refine F9 (i:=i) (d:=.tup (r.map iD)) (by rw [ai,hr];rfl) ?_
  refine⟨_,rfl,_,rfl,_,c,rfl,Z8p hc,?_⟩
  refine F9 (i:=c) (d:=iD (B2 m.2 i c)) (by rw [ai,(kh c fC).1];rfl) ?_
  rw [T2]
  exact Y3u wf w _ _ (fun d hd=>hw d (av _ hd)) (kh c fC).2 h
theorem W5i:∀rs r,rs.length=3->Q8s rs r->Z5h (T0 r) (F6 Z6a rs):=by
 rintro rs r _ ⟨m,i,w,rfl,wf,hi,hw,rfl⟩
 unfold Z5h
 simp only [L5,S9,Y2f,C3,Q8m]
 refine⟨_,rfl,_,rfl,?_⟩
 rw [Z3n hw]
 exact Y3u wf w i none hw hi fun o3=>⟨_,rfl,rfl⟩
noncomputable def Q3c:D6:=fun rs r=>∃(m:E1) (w:List Nat),rs=[.st (mD m),.st (.str (V2 w))]/\F7 m/\C8 w/\r=.st (.bl (R5 m w))
theorem W4t:∀rs r,rs.length=2->Q3c rs r->Z5b Q8s (T0 r) (F6 Z5x rs):=by
 rintro rs r _ ⟨m,w,rfl,wf,hw,rfl⟩
 unfold Z5b
 simp only [X6,E2,C3,F8,Y4,D8,D4]
 refine⟨_,rfl,F9 (i:=0) rfl ⟨_,rfl,_,rfl,rfl,_,⟨m,0,w,rfl,wf,wf.pos,hw,rfl⟩,?_⟩⟩
 refine F9 (i:=run (B2 m.2) 0 w) (Q3o (Q6c wf w 0 hw wf.pos)) ?_
 rfl
noncomputable def Q3n (rows:List (List Nat)) (i:Nat):List Nat->List Nat
 | []=>[]
 | c::w=>B2 rows i c::Q3n rows (B2 rows i c) w
theorem Z6o {ds:List D}{d:D}:L3 (ds++[d]) (-1)=some d:=by
 unfold L3 ixN
 rw [aC (by decide),aE (by rw [ay,bJ];omega),Option.bind_some]
 have:((-1:Int)+((ds++[d]).length:Nat)).toNat=ds.length:=by rw [ay,bJ];omega
 rw [this];simp
theorem Z6l (rows:List (List Nat)):∀(w:List Nat) (i:Nat),∃l,i::Q3n rows i w=l++[run (B2 rows) i w]
 | [],i=>⟨[],rfl⟩
 | c::w,i=>by
  obtain⟨l,e⟩:=Z6l rows w (B2 rows i c)
  exact⟨i::l,by rw [Q3n,e];rfl⟩
noncomputable def Q8o:D6:=fun rs r=>∃(m:E1) (i:Nat) (w:List Nat),rs=[.st (rsD m.2),.st (.str (V2 w)),.st (iD i)]/\F7 m/\i<m.1.length/\C8 w/\w.length<=100000/\r=.nw ((i::Q3n m.2 i w).map iD)
def wsA:WS:=(S5 3 (A9 (A3 B4 (A3 B4 (wV 0) (A3 B4 (wV 3) (Q9p (wC (.int 1))))) (Q4p (wC (.str "01ab")) (wV 4)))))
theorem Z6m {m:E1} (wf:F7 m) {E:F4}{o1 o2:Option Sl}:∀(w:List Nat) (l:List Nat) (i:Nat) (o4:Option Sl),C8 w->i<m.1.length->l.length+w.length<=200000->(∀o4,E.nx [some (.dat (rsD m.2)),o1,o2,some (.own ((l++i::Q3n m.2 i w).map iD)),o4]) ->
  C4 (B0 4) wsA E (w.map fun c=>.str (W7 c)) [some (.dat (rsD m.2)),o1,o2,some (.own ((l++[i]).map iD)),o4]
 | [],l,i,o4,_,_,_,h=>h o4
 | c::w,l,i,o4,hw,hi,hz,h=>by
  rw [aA]at hz
  rw [ak,C4]
  simp only [wsA,L9,Q1u,E9,E2,C3,F8,Y2h,Y2m]
  have hc:=hw c ao
  have fC:c<4:=Q1k hc
  obtain⟨r,hr,_,kh⟩:=Wf.row wf hi
  refine⟨_,rfl,_,rfl,_,rfl,?_⟩
  rw [Z2s]
  show B4 (.bw ((l++[i]).map iD)) (.st (.int (-1))) _
  rw [Q8a]
  refine⟨iD i,by rw [aX];exact Z6o,?_⟩
  refine F9 (i:=i) (d:=.tup (r.map iD)) (by rw [ai,hr];rfl) ?_
  refine⟨_,rfl,_,rfl,_,c,rfl,Z8p hc,?_⟩
  refine F9 (i:=c) (d:=iD (B2 m.2 i c)) (by rw [ai,(kh c fC).1];rfl) ?_
  refine⟨_,rfl,szl (by simp;omega),?_⟩
  have e:(l++[i]).map iD++[iD (B2 m.2 i c)]=(l++[i]++[B2 m.2 i c]).map iD:=by simp
  show C4 _ _ _ _ [_,_,_,some (Sl.own ((l++[i]).map iD++[iD (B2 m.2 i c)])),_]
  rw [e]
  refine Z6m wf w (l++[i]) _ _ (fun d hd=>hw d (av _ hd)) (kh c fC).2 (by simp;omega) fun o4=>?_
  rw [bz]
  exact h o4
theorem W4v:∀rs r,rs.length=3->Q8o rs r->Z5m (T0 r) (F6 Z6c rs):=by
 rintro rs r _ ⟨m,i,w,rfl,wf,hi,hw,hl,rfl⟩
 unfold Z5m
 simp only [L5,P8,s_lst,D8,E9,C3,D4,S9,Y2f,Q8m]
 refine⟨_,rfl,_,rfl,sz (by simp),?_⟩
 rw [W5]
 refine⟨_,rfl,_,rfl,?_⟩
 rw [Z3n hw]
 exact Z6m wf w [] i none hw hi (by simp;omega) fun o4=>⟨_,rfl,rfl⟩
noncomputable def Q6e:D6:=fun rs r=>∃(m:E1) (w:List Nat),rs=[.st (mD m),.st (.str (V2 w))]/\F7 m/\C8 w/\w.length<=100000/\r=.st (.bl (R5 m w))
theorem W4s:∀rs r,rs.length=2->Q6e rs r->Z4w Q8o (T0 r) (F6 Z5v rs):=by
 rintro rs r _ ⟨m,w,rfl,wf,hw,hl,rfl⟩
 unfold Z4w
 simp only [L5,X6,E2,C3,F8,W5y,D8,D4,Z3i,Q1y,Q1w,L9,Q1x,Y2m]
 refine⟨_,rfl,_,rfl,_,rfl,rfl,_,_,rfl,_,_,rfl,rfl,_,rfl,_,rfl,_,rfl,rfl,_,⟨m,0,w,rfl,wf,wf.pos,hw,hl,rfl⟩,?_⟩
 obtain⟨l,e⟩:=Z6l m.2 w 0
 rw [Z2s]
 show B4 (.nw ((0::Q3n m.2 0 w).map iD)) (.st (.int (-1))) _
 rw [W1n,e]
 refine⟨_,by rw [aX];exact Z6o,?_⟩
 refine F9 (i:=run (B2 m.2) 0 w) (Q3o (Q6c wf w 0 hw wf.pos)) ?_
 rfl
theorem Z1f (m:E1):D.depth (mD m)<=59:=by
 have h0:∀l:List Bool,D.depths (l.map D.bl)<=0:=fun l=>by
  induction l with
  | nil=>exact ah _
  | cons a l ih=>simp only [ak,D.depths,D.depth];omega
 have h1:∀l:List Nat,D.depths (l.map iD)<=0:=fun l=>by
  induction l with
  | nil=>exact ah _
  | cons a l ih=>simp only [ak,D.depths,D.depth];omega
 have h2:∀l:List (List Nat),D.depths (l.map rD)<=1:=fun l=>by
  induction l with
  | nil=>exact bb _
  | cons a l ih=>simp only [ak,D.depths,D.depth];have:=h1 a;omega
 have a:=h0 m.1
 have b:=h2 m.2
 simp only [mD,rsD,D.depth,D.depths]
 omega
noncomputable def isL (m:E1):Bool:=D.eq (mD (E8 m.1 m.2)) (mD m)
noncomputable def Q4k:O8:=fun rs Pr=>∃m:E1,rs=[.st (mD m)]/\F7 m/\m.1.length<=20000/\Pr (.st (.bl (isL m)))
theorem W0t:Q1g Q4k:=fun rs P Q f ⟨m,e,h1,h2,h3⟩=>⟨m,e,h1,h2,f _ h3⟩
theorem W5d:∀rs Pr,rs.length=1->Q4k rs Pr->Z4z sp_least_of (Y5 Pr) (F6 Z5w rs):=by
 rintro rs Pr _ ⟨m,rfl,hw,hl,h⟩
 unfold Z4z
 simp only [X6,s_b,E2,Q1v,D8,D4,C3]
 refine⟨_,rfl,rfl,m,rfl,hw,hl,_,rfl,?_⟩
 rw [Q0m]
 exact⟨_,_,rfl,rfl,aT (Z1f _) (by decide),h⟩
mutual
theorem Z8e:∀a b:D,D.eq a b=D.eq b a
 | .non,b=>by cases b <;> rfl
 | .bl a,b=>by cases b <;> simp [D.eq,Bool.beq_comm,eq_comm,BEq.comm]
 | .int a,b=>by cases b <;> simp [D.eq,eq_comm,BEq.comm]
 | .str a,b=>by cases b <;> simp [D.eq,eq_comm,BEq.comm]
 | .tup a,b=>by
  cases b with
  | tup b=>simp only [D.eq];exact eqs_comm' a b
  | _=>rfl
 | .lst a,b=>by
  cases b with
  | lst b=>simp only [D.eq];exact eqs_comm' a b
  | _=>rfl
theorem eqs_comm':∀a b:List D,D.eqs a b=D.eqs b a
 | [],b=>by cases b <;> rfl
 | x::xs,b=>by
  cases b with
  | nil=>rfl
  | cons y ys=>simp only [D.eqs];rw [Z8e x y,eqs_comm' xs ys]
end
noncomputable abbrev tD (w:List Nat):D:=.str (V2 w)
noncomputable def Z2 (ws:List (List Nat)):List (List Nat):=ws.flatMap fun w=>B6.map fun c=>w++[c]
noncomputable def Q9w:Nat->List (List Nat)->List (List Nat)->List (List Nat)
 | 0,found,_=>found
 | n+1,found,row=>Q9w n (found++Z2 row) (Z2 row)
noncomputable def Q9v (n:Nat):List (List Nat):=Q9w n [[]] [[]]
theorem Z9p (ws:List (List Nat)):(Z2 ws).length=4*ws.length:=by
 induction ws with
 | nil=>rfl
 | cons w ws ih=>rw [Z2,List.flatMap_cons,ay,<- Z2,ih,ag];simp only [aA,cg];omega
theorem W0c {ws:List (List Nat)}{k:Nat} (h:∀w∈ws,C8 w/\w.length<=k):∀w∈Z2 ws,C8 w/\w.length<=k+1:=by
 intro w hw
 obtain⟨u,hu,hw⟩:=List.mem_flatMap.mp hw
 obtain⟨c,hc,rfl⟩:=am.mp hw
 refine⟨(h u hu).1.snoc hc,?_⟩
 have:=(h u hu).2
 rw [ay];simp only [aA,cg];omega
theorem Y4r:∀(n:Nat) (found row:List (List Nat)),(∀w∈found,C8 w)->(∀w∈row,C8 w)->∀w∈Q9w n found row,C8 w
 | 0,_,_,h,_,w,hw=>h w hw
 | n+1,found,row,h,h2,w,hw=>by
  have l:∀w∈Z2 row,C8 w:=fun w hw=>by
   obtain⟨u,hu,hw⟩:=List.mem_flatMap.mp hw
   obtain⟨c,hc,rfl⟩:=am.mp hw
   exact(h2 u hu).snoc hc
  exact Y4r n _ _ (fun w hw=>(aR.mp hw).elim (h w) (l w)) l w hw
theorem W9g {n:Nat}{w:List Nat} (h:w∈Q9v n):C8 w:=by
 have z:∀w∈([[]]:List (List Nat)),C8 w:=fun w hw=>by rw [aN.mp hw];intro c hc;cases hc
 exact Y4r n _ _ z z w h
theorem W8h {w:List Nat} (h:C8 w):(V2 w).length=w.length:=by
 have:=congrArg List.length (Z3n h)
 rw [ag]at this
 rw [<- this];unfold G3;rw [ag,bZ];rfl
theorem sgn4:G3 "01ab"=B6.map fun c=>.str (W7 c):=rfl
def wsI:WS:=(C5 4 (A3 F2 (wV 4) (M0 1 [5] (Z1v (wC (.str "01ab"))) (B0 0) P9 (A9 (A3 F2 (wV 1) (wV 0))))))
theorem Y3v {E:F4}{o0 o1 o2 o3:Option Sl}:∀(ws cf:List (List Nat)) (o5:Option Sl),(∀w∈ws,C8 w/\w.length<=1000)->cf.length+4*ws.length<=100000->(∀o5,E.nx [o0,o1,o2,o3,some (.own ((cf++Z2 ws).map tD)),o5]) ->
  C4 (B0 5) wsI E (ws.map tD) [o0,o1,o2,o3,some (.own (cf.map tD)),o5]
 | [],cf,o5,_,_,h=>by
  have:=h o5
  simp only [Z2,List.flatMap_nil,bO]at this
  exact this
 | w::ws,cf,o5,hw,hl,h=>by
  rw [ak,C4]
  rw [aA]at hl
  simp only [wsI,L9,P8,E2,C3,F8,V1,W6h]
  refine⟨_,rfl,_,rfl,?_⟩
  rw [sgn4]
  refine⟨sz (by simp),?_⟩
  refine Y8 (f:=fun d=>match d with | .str s=>.str (V2 w++s) | d=>d) _ none _ (fun d hd Q' q=>?_) ?_
  ·obtain⟨c,hc,rfl⟩:=am.mp hd
   simp only [E9,E2,C3]
   refine⟨_,rfl,_,rfl,?_⟩
   rw [N9,N9,W1j]
   refine⟨sz ?_,q⟩
   rw [W8h (hw w ao).1]
   have:=(hw w ao).2
   have:(W7 c).length=1:=by
    simp only [B6,aj,aL,br]at hc
    rcases hc with rfl | rfl | rfl | rfl <;> rfl
   omega
  ·rw [V0,Z2r]
   refine⟨sz (by simp only [ag,aA,cg];omega),?_⟩
   rw [W5]
   have e:cf.map tD++(B6.map fun c=>D.str (W7 c)).map (fun d=>match d with | .str s=>.str (V2 w++s) | d=>d)=(cf++B6.map fun c=>w++[c]).map tD:=by
    rw [aX,aK,aK]
    congr 1
    exact bc fun c _=>by show D.str (V2 w++W7 c)=.str (V2 (w++[c]));rw [W8g]
   show C4 _ _ _ _ [o0,o1,o2,o3,some (.own (cf.map tD++_)),_]
   rw [e]
   refine Y3v ws _ _ (fun u hu=>hw u (av _ hu)) (by simp only [ay,ag,aA,cg];omega) fun o5=>?_
   have:=h o5
   rw [show Z2 (w::ws)=(B6.map fun c=>w++[c])++Z2 ws from rfl,<- bz]at this
   exact this
noncomputable def Q2b:Nat->Nat
 | 0=>0
 | n+1=>4+4*Q2b n
def wsO:WS:=(B7 (C5 4 (M3 A4)) (B7 (Q6n 4 (L6 (Q0f (A9 (wV 2))) (B0 5) wsI)) (B7 (C5 2 (A9 (wV 4))) (C5 1 (A3 Q2i (wV 1) (wV 2))))))
theorem Y3w {E:F4}{o0:Option Sl}:∀(l:List D) (k:Nat) (found row:List (List Nat)) (o3 o4 o5:Option Sl),(∀w∈row,C8 w/\w.length<=k)->k+l.length<=1000->found.length+row.length*Q2b l.length<=100000 ->
  (∀ τ',(∃o2 o3 o4 o5,τ'=[o0,some (.own ((Q9w l.length found row).map tD)),o2,o3,o4,o5])->E.nx τ') ->
  C4 (B0 3) wsO E l [o0,some (.own (found.map tD)),some (.dat (.lst (row.map tD))),o3,o4,o5]
 | [],k,found,row,o3,o4,o5,_,_,_,h=>h _ ⟨_,_,_,_,rfl⟩
 | d::l,k,found,row,o3,o4,o5,hw,hk,hl,h=>by
  rw [C4]
  rw [aA]at hk hl
  have jE:found.length+4*row.length+4*row.length*Q2b l.length<=100000:=by
   have e:row.length*Q2b (l.length+1)=4*row.length+4*row.length*Q2b l.length:=by
    show row.length*(4+4*Q2b l.length)=_
    rw [Nat.mul_add,Nat.mul_comm row.length 4,<- Nat.mul_assoc,Nat.mul_comm row.length 4]
   omega
  simp only [wsO,L9,L5,P8,s_lst,D4,Y2d,S9,Q6d,E9,C3,E2]
  refine⟨_,rfl,sz (by simp),?_⟩
  rw [W5]
  refine⟨_,rfl,?_⟩
  rw [N9,Q7z]
  refine⟨_,rfl,?_⟩
  refine Y3v row [] o5 (fun w hm=>⟨(hw w hm).1,by have:=(hw w hm).2;omega⟩) (by simp;omega) fun o5=>?_
  refine⟨_,rfl,_,rfl,?_⟩
  rw [N9,Q7z,T2]
  refine⟨_,rfl,_,rfl,?_⟩
  rw [V0,N9,W1l]
  refine⟨_,_,rfl,rfl,sz (by simp only [ag,bM,Z9p];omega),?_⟩
  rw [W5,<- aX]
  exact Y3w l (k+1) _ _ _ _ _ (W0c hw) (by omega) (by rw [ay,bM,Z9p];omega) h
noncomputable def Q8t:D6:=fun rs r=>∃n:Nat,rs=[.st (iD n)]/\n<=5/\r=.nw ((Q9v n).map tD)
theorem W5j:∀rs r,rs.length=1->Q8t rs r->Z5i (T0 r) (F6 Z0f rs):=by
 rintro rs r _ ⟨n,rfl,hn,rfl⟩
 unfold Z5i
 simp only [L5,P8,s_lst,D8,D4,E9,F8,S9,Q1z,C3,Q8m]
 refine⟨_,rfl,sz (by simp),?_⟩
 rw [W5]
 refine⟨_,rfl,sz (by simp),?_⟩
 refine⟨_,rfl,_,rfl,by omega,by omega,?_⟩
 have len:(J4 0 (n:Int).toNat).length=n:=by unfold J4;simp
 have hs:Q2b n<=5000:=by
  have:∀k,k<=5->Q2b k<=5000:=by decide
  exact this n hn
 refine Y3w _ 0 [[]] [[]] _ _ _ (fun w hw=>?_) (by omega) (by rw [len];simp;omega) fun τ' ⟨o2,o3,o4,o5,e⟩=>?_
 ·rw [aN.mp hw];exact⟨(fun c hc=>nomatch hc),ah _⟩
 subst e
 rw [len]
 exact⟨_,rfl,rfl⟩
section
variable {es:List Bool}{rows:List (List Nat)}
def Dt (es:List Bool) (rows:List (List Nat)) (t i j:Nat):Prop:=∃w,C8 w/\w.length<=t/\L0 es rows i w≠L0 es rows j w
theorem Dt.mono {t t' i j:Nat} (h:Dt es rows t i j) (l:t<=t'):Dt es rows t' i j:=let ⟨w,a,b,c⟩:=h;⟨w,a,aT b l,c⟩
theorem Dt.symm {t i j:Nat} (h:Dt es rows t i j):Dt es rows t j i:=let ⟨w,a,b,c⟩:=h;⟨w,a,b,fun e=>c e.symm⟩
theorem Dt.irr {t i:Nat}:¬ Dt es rows t i i:=fun⟨_,_,_,c⟩=>c rfl
theorem Dt.tr {t i j k:Nat} (h1:¬ Dt es rows t i j) (h2:¬ Dt es rows t j k):¬ Dt es rows t i k:=fun⟨w,a,b,c⟩=>by
 by_cases e:L0 es rows i w=L0 es rows j w
 ·exact h2 ⟨w,a,b,fun z=>c (e.trans z)⟩
 ·exact h1 ⟨w,a,b,e⟩
theorem Dt.cons {t i j c:Nat} (hc:c∈B6) (h:Dt es rows t (B2 rows i c) (B2 rows j c)):Dt es rows (t+1) i j:=by
 obtain⟨w,a,b,d⟩:=h
 exact⟨c::w,fun x hx=>(aj.mp hx).elim (fun e=>e ▸ hc) (a x),Nat.succ_le_succ b,d⟩
theorem Dt.case {t i j:Nat} (h:Dt es rows (t+1) i j):Dt es rows 0 i j\/∃c∈B6,Dt es rows t (B2 rows i c) (B2 rows j c):=by
 obtain⟨w,a,b,d⟩:=h
 cases w with
 | nil=>exact .inl ⟨[],a,ah _,d⟩
 | cons c w=>exact .inr ⟨c,a c ao,w,fun x hx=>a x (av _ hx),Nat.le_of_succ_le_succ b,d⟩
theorem W6 (wf:Wf es rows) {i c:Nat} (hi:i<es.length) (hc:c∈B6):B2 rows i c<es.length:=by
 obtain⟨_,_,_,h⟩:=wf.row hi
 exact(h c (by simp only [B6,aj,aL,br]at hc;omega)).2
theorem Dt.still (wf:Wf es rows) {t:Nat} (h:∀i j,i<es.length->j<es.length->Dt es rows (t+1) i j->Dt es rows t i j):∀(s i j:Nat),i<es.length->j<es.length->Dt es rows (t+s) i j->Dt es rows t i j
 | 0,_,_,_,_,d=>d
 | s+1,i,j,hi,hj,d=>by
  rcases Dt.case (t:=t+s) d with d | ⟨c,hc,d⟩
  ·exact d.mono (bb _)
  ·exact h i j hi hj ((Dt.still wf h s _ _ (W6 wf hi hc) (W6 wf hj hc) d).cons hc)
theorem Dt.least (t:Nat):∀x:Nat,∃y,y<=x/\¬ Dt es rows t x y/\∀z,z<y->Dt es rows t y z:=by
 intro x
 induction x using Nat.strongRecOn with
 | ind x ih =>
  by_cases h:∀z,z<x->Dt es rows t x z
  ·exact⟨x,ah _,Dt.irr,h⟩
  ·obtain⟨z,hz⟩:=Classical.not_forall.mp h
   obtain⟨zl,zd⟩:=Classical.not_imp.mp hz
   obtain⟨y,a,b,c⟩:=ih z zl
   exact⟨y,by omega,Dt.tr zd b,c⟩
theorem Y6z {p q:Nat->Bool} (le:∀x,p x=true->q x=true) {y:Nat} (h1:p y=false) (h2:q y=true):∀(l:List Nat),y∈l->(l.filter p).length<(l.filter q).length:=by
 have lq:∀l:List Nat,(l.filter p).length<=(l.filter q).length:=by
  intro l
  induction l with
  | nil=>exact ah _
  | cons a l ih =>
   rw [ga,ga]
   by_cases pa:p a=true
   ·rw [aE pa,aE (le a pa),aA,aA];omega
   ·rw [aC pa];split
    ·rw [aA];omega
    ·exact ih
 intro l
 induction l with
 | nil=>intro h;cases h
 | cons a l ih =>
  intro hm
  rw [ga,ga]
  rcases aj.mp hm with rfl | hm
  ·rw [aC (by rw [h1];simp),aE h2,aA]
   have:=lq l;omega
  ·have:=ih hm
   by_cases pa:p a=true
   ·rw [aE pa,aE (le a pa),aA,aA];omega
   ·rw [aC pa];split
    ·rw [aA];omega
    ·exact this
noncomputable def Q2q (es:List Bool) (rows:List (List Nat)) (t y:Nat):Bool:=@decide (∀z,z<y->Dt es rows t y z) (Classical.propDecidable _)
theorem Q5r {t y:Nat}:Q2q es rows t y=true ↔ ∀z,z<y->Dt es rows t y z:=@decide_eq_true_iff _ (Classical.propDecidable _)
noncomputable def Q7g (es:List Bool) (rows:List (List Nat)) (t:Nat):Nat:=((List.range es.length).filter (Q2q es rows t)).length
theorem Y6x {t i j:Nat} (hi:i<es.length) (hj:j<es.length) (h1:Dt es rows (t+1) i j) (h2:¬ Dt es rows t i j):Q7g es rows t<Q7g es rows (t+1):=by
 obtain⟨m,ml,md,mm⟩:=Dt.least (es:=es) (rows:=rows) t i
 obtain⟨x,hx,xd,xi⟩:∃x,x<es.length/\Dt es rows (t+1) x m/\¬ Dt es rows t x m:=by
  by_cases d:Dt es rows (t+1) i m
  ·exact⟨i,hi,d,md⟩
  ·refine⟨j,hj,Classical.byContradiction fun z=>Dt.tr d (fun q=>z q.symm) h1,Dt.tr (fun q=>h2 q.symm) md⟩
 obtain⟨y,yl,yd,ym⟩:=Dt.least (es:=es) (rows:=rows) (t+1) x
 have yt:¬ Dt es rows t y m:=Dt.tr (fun q=>yd (q.symm.mono (cw t))) xi
 have ne:y≠m:=fun e=>yd (e ▸ xd)
 have lt:m<y:=by
  rcases bE m y with h | h
  ·exact h
  ·exact absurd (mm y (by omega)).symm yt
 exact Y6z (p:=Q2q es rows t) (q:=Q2q es rows (t+1)) (fun x h=>Q5r.mpr fun z hz=>(Q5r.mp h z hz).mono (cw t)) (y:=y) (by
  cases e:Q2q es rows t y with
  | false=>rfl
  | true=>exact absurd (Q5r.mp e m lt) yt) (Q5r.mpr ym) (List.range es.length) (aY.mpr (show y<es.length by omega))
theorem W0v (wf:Wf es rows) {i j:Nat} (hi:i<es.length) (hj:j<es.length) {w:List Nat} (hw:C8 w) (h:L0 es rows i w≠L0 es rows j w):Dt es rows es.length i j:=by
 by_cases st:∃t,t<es.length/\∀i j,i<es.length->j<es.length->Dt es rows (t+1) i j->Dt es rows t i j
 ·obtain⟨t,lt,st⟩:=st
  have d:Dt es rows (t+w.length) i j:=⟨w,hw,Nat.le_add_left _ _,h⟩
  exact(Dt.still wf st _ _ _ hi hj d).mono (cD lt)
 ·have more:∀t,t<=es.length->t+1<=Q7g es rows t:=by
   intro t
   induction t with
   | zero =>
    intro _
    have:0∈(List.range es.length).filter (Q2q es rows 0):=iG.mpr ⟨aY.mpr wf.pos,Q5r.mpr fun z hz=>absurd hz (Nat.not_lt_zero _)⟩
    exact List.length_pos_of_mem this
   | succ t ih =>
    intro le
    obtain⟨i,j,hi,hj,d1,d2⟩:∃i j,i<es.length/\j<es.length/\Dt es rows (t+1) i j/\¬ Dt es rows t i j:=by
     refine Classical.byContradiction fun z=>st ⟨t,le,fun i j hi hj d=>Classical.byContradiction fun q=>z ⟨i,j,hi,hj,d,q⟩⟩
    have:=Y6x hi hj d1 d2
    have:=ih (by omega)
    omega
  have h1:=more es.length (ah _)
  have h2:Q7g es rows es.length<=es.length:=by
   have:=List.length_filter_le (Q2q es rows es.length) (List.range es.length)
   rw [bo]at this
   exact this
  omega
end
section
noncomputable abbrev AF:=Nat×Nat->Bool
noncomputable def upF (rows:List (List Nat)) (p:Nat×Nat) (f:AF):AF:=fun q=>if q=p then f p||B6.any (fun c=>f (B2 rows p.1 c,B2 rows p.2 c))else f q
noncomputable def Q9b (rows:List (List Nat)) (ps:List (Nat×Nat)) (f:AF):AF:=ps.foldl (fun f p=>upF rows p f) f
noncomputable def Q9c (rows:List (List Nat)) (ps:List (Nat×Nat)):Nat->AF->AF
 | 0,f=>f
 | n+1,f=>Q9c rows ps n (Q9b rows ps f)
variable {es:List Bool}{rows:List (List Nat)}
theorem Y4i {p q:Nat×Nat}{f:AF} (h:f q=true):upF rows p f q=true:=by
 unfold upF
 split
 ·rename_i e;rw [<- e,h];rfl
 ·exact h
theorem Y4a {q:Nat×Nat}:∀(ps:List (Nat×Nat)) (f:AF),f q=true->Q9b rows ps f q=true
 | [],f,h=>h
 | p::ps,f,h=>Y4a ps _ (Y4i h)
theorem Y4d {t:Nat}:∀(ps:List (Nat×Nat)) (f:AF),(∀i j,i<es.length->j<es.length->Dt es rows t i j->f (i,j)=true)->Wf es rows->∀p∈ps,p.1<es.length->p.2<es.length->Dt es rows (t+1) p.1 p.2->Q9b rows ps f p=true
 | [],f,_,_,p,hp,_,_,_=>by cases hp
 | q::ps,f,h,wf,p,hp,h1,h2,d=>by
  rcases aj.mp hp with rfl | hp
  ·refine Y4a ps _ ?_
   show(if p=p then _ else _)=true
   rw [aE rfl,Bool.or_eq_true]
   rcases d.case with d | ⟨c,hc,d⟩
   ·exact .inl (h _ _ h1 h2 (d.mono (bb _)))
   ·exact .inr (gg.mpr ⟨c,hc,h _ _ (W6 wf h1 hc) (W6 wf h2 hc) d⟩)
  ·exact Y4d ps _ (fun i j hi hj d=>Y4i (h i j hi hj d)) wf p hp h1 h2 d
theorem Y4g {ps:List (Nat×Nat)} (gT:∀i j,i<es.length->j<es.length->(i,j)∈ps) (wf:Wf es rows):∀(n t:Nat) (f:AF),(∀i j,i<es.length->j<es.length->Dt es rows t i j->f (i,j)=true) ->
  ∀i j,i<es.length->j<es.length->Dt es rows (t+n) i j->Q9c rows ps n f (i,j)=true
 | 0,t,f,h,i,j,hi,hj,d=>h i j hi hj d
 | n+1,t,f,h,i,j,hi,hj,d=>by
  refine Y4g gT wf n (t+1) _ (fun i j hi hj d=>Y4d ps f h wf (i,j) (gT i j hi hj) hi hj d) i j hi hj ?_
  rw [Nat.add_assoc,Nat.add_comm 1 n];exact d
noncomputable def ap0 (es:List Bool):AF:=fun p=>es.getD p.1 false != es.getD p.2 false
structure P0 (m:E1):Prop where
 wf:F7 m
 met:G9 [0] m.2=List.range m.1.length
 seen:∀s,s<m.1.length->s<(G9 [0] (m.2.take s)).length
 apart:∀i j,i<m.1.length->j<m.1.length->i≠j->∃w,C8 w/\L0 m.1 m.2 i w≠L0 m.1 m.2 j w
theorem P0.turns {m:E1} (L:P0 m) {ps:List (Nat×Nat)} (gT:∀i j,i<m.1.length->j<m.1.length->(i,j)∈ps) {i j:Nat} (hi:i<m.1.length) (hj:j<m.1.length) (ne:i≠j):Q9c m.2 ps m.1.length (ap0 m.1) (i,j)=true:=by
 obtain⟨w,hw,h⟩:=L.apart i j hi hj ne
 have d:=W0v L.wf hi hj hw h
 refine Y4g gT L.wf m.1.length 0 (ap0 m.1) (fun i j hi hj d=>?_) i j hi hj (by rw [cB];exact d)
 obtain⟨w,_,hl,h⟩:=d
 cases w with
 | nil=>exact bne_iff_ne.mpr h
 | cons _ _=>cases hl
end
section
variable {α:Type} [DecidableEq α]
theorem Y3n {step:α->Nat->α}:∀(n:Nat) (ks:List α) (rs:List (List Nat)),G9 [0] rs=List.range ks.length->(∀s,s<rs.length->s<(G9 [0] (rs.take s)).length)->∀s,s<(Q0 step n ks rs).2.length->s<(G9 [0] ((Q0 step n ks rs).2.take s)).length
 | 0,ks,rs,_,h=>h
 | n+1,ks,rs,hm,h=>by
  unfold Q0
  split
  ·exact h
  ·rename_i k e
   have hp:=(Q4i (step k) B6 ks []).length_le
   have ko:G9 [0] (rs++[(G5 (step k) B6 ks []).2])=List.range (G5 (step k) B6 ks []).1.length:=by
    rw [Q4e,hm,Q8j,bM,Q7y (step k) ks.length B6 ks [] _ rfl (ah _) (fun x hx=>.inl hx) (fun x hx=>by cases hx),range_add]
    congr 1
    omega
   refine Y3n n _ _ ko fun s hs=>?_
   rw [ay,aA,cg]at hs
   by_cases lt:s<rs.length
   ·rw [List.take_append_of_le_length (cD lt)];exact h s lt
   ·have:s=rs.length:=by omega
    subst this
    rw [List.take_append_of_le_length (ah _),List.take_length,hm,bo]
    exact(aI.mp e).1
end
theorem W7c {es:List Bool}{rows:List (List Nat)} (w:Wf es rows):∀s,s<(E8 es rows).1.length->s<(G9 [0] ((E8 es rows).2.take s)).length:=by
 have h:=Y3n (step:=Z3 rows (E7 es rows)) es.length [(E7 es rows).getD 0 0] [] rfl (fun s hs=>absurd hs (Nat.not_lt_zero _))
 intro s hs
 refine h s ?_
 have:=(Z9i w).len
 show s<(E8 es rows).2.length
 rw [this];exact hs
theorem Q7s {es:List Bool}{rows:List (List Nat)} (w:Wf es rows):P0 (E8 es rows):=⟨Z9i w,W0n es rows,W7c w,fun i j hi hj ne=>Y9n w hi hj ne⟩
theorem Z3h {R:Nat->Nat->Prop} (i1:∀{x x' y},R x y->R x' y->x=x') (i2:∀{x y y'},R x y->R x y'->y=y') {f1 f2:Nat->Nat}{met:List Nat} :
  ∀(cs pre:List Nat) (k a b:Nat),(∀c∈cs,R (f1 c) (f2 c))->(∀x,x∈met++pre ↔ x<k)->(∀x,x<k->R x x) ->
   T1 met pre (cs.map f1)=List.range' k a->T1 met pre (cs.map f2)=List.range' k b->cs.map f1=cs.map f2/\∀x,x<k+a->R x x
 | [],pre,k,a,b,_,_,h2,h3,_=>⟨rfl,by
   cases a with
   | zero=>exact h2
   | succ a=>exact nomatch h3⟩
 | c::cs,pre,k,a,b,h0,h1,h2,h3,h4=>by
  have hc:=h0 c ao
  have oi:∀c∈cs,R (f1 c) (f2 c):=fun d hd=>h0 d (av _ hd)
  rw [ak,T1]at h3 h4
  by_cases lt:f1 c<k
  ·have e:f1 c=f2 c:=i2 (h2 _ lt) hc
   rw [aE ((h1 _).mpr lt)]at h3
   rw [<- e,aE ((h1 _).mpr lt)]at h4
   obtain⟨q1,q2⟩:=Z3h (R:=R) (f1:=f1) (f2:=f2) (fun a b=>i1 a b) (fun a b=>i2 a b) cs (pre++[f1 c]) k a b oi (fun x=>by
    rw [<- bz,aR,aN,h1]
    exact⟨fun h=>h.elim id (fun e=>e ▸ lt),Or.inl⟩) h2 h3 h4
   exact⟨by rw [ak,ak,q1,<- e],q2⟩
  ·have pE:¬ f2 c<k:=fun h=>lt (i1 (h2 _ h) hc ▸ h)
   rw [aC (fun h=>lt ((h1 _).mp h))]at h3
   rw [aC (fun h=>pE ((h1 _).mp h))]at h4
   cases a with
   | zero=>exact nomatch h3
   | succ a =>
   cases b with
   | zero=>exact nomatch h4
   | succ b =>
   rw [List.range'_succ]at h3 h4
   injection h3 with e1 h3
   injection h4 with e2 h4
   rw [e1,e2]at hc
   rw [e1]at h3
   rw [e2]at h4
   obtain⟨q1,q2⟩:=Z3h (R:=R) (f1:=f1) (f2:=f2) (fun a b=>i1 a b) (fun a b=>i2 a b) cs (pre++[k]) (k+1) a b oi (fun x=>by
    rw [<- bz,aR,aN,h1]
    omega) (fun x hx=>by
    by_cases e:x=k
    ·rw [e];exact hc
    ·exact h2 x (by omega)) h3 h4
   exact⟨by rw [ak,ak,q1,e1,e2],fun x hx=>q2 x (by omega)⟩
theorem Y0e:∀(rs:List (List Nat)) (met:List Nat),met <+: G9 met rs
 | [],_=>c9 _
 | r::rs,met=>(List.prefix_append _ _).trans (Y0e rs _)
theorem Y0d:∀(rs qs:List (List Nat)) (met:List Nat),G9 met (rs++qs)=G9 (G9 met rs) qs
 | [],_,_=>rfl
 | r::rs,qs,met=>Y0d rs qs _
theorem P0.metTake {m:E1} (L:P0 m) (s:Nat):∃k,G9 [0] (m.2.take s)=List.range k:=by
 have h:G9 [0] (m.2.take s) <+: List.range m.1.length:=by
  rw [<- L.met]
  conv=>rhs;rw [<- List.take_append_drop s m.2,Y0d]
  exact Y0e _ _
 rw [List.prefix_iff_eq_take,List.take_range]at h
 exact⟨_,h⟩
theorem Wf.rowEq {es:List Bool}{rows:List (List Nat)} (w:Wf es rows) {s:Nat} (h:s<es.length):rows[s]?=some (B6.map (B2 rows s)):=by
 obtain⟨r,e,l,g⟩:=w.row h
 rw [e]
 have g0:=(g 0 (by decide)).1
 have g1:=(g 1 (by decide)).1
 have g2:=(g 2 (by decide)).1
 have g3:=(g 3 (by decide)).1
 match r,l with
 | [a,b,c,d],_ =>
  injection g0 with g0;injection g1 with g1;injection g2 with g2;injection g3 with g3
  show some [a,b,c,d]=some [B2 rows s 0,B2 rows s 1,B2 rows s 2,B2 rows s 3]
  rw [<- g0,<- g1,<- g2,<- g3]
structure A5 (m1 m2:E1) (i j:Nat):Prop where
 l1:i<m1.1.length
 l2:j<m2.1.length
 w:∀w,C8 w->L0 m1.1 m1.2 i w=L0 m2.1 m2.2 j w
theorem A5.step {m1 m2:E1}{i j:Nat} (h:A5 m1 m2 i j) (w1:F7 m1) (w2:F7 m2) {c:Nat} (hc:c∈B6):A5 m1 m2 (B2 m1.2 i c) (B2 m2.2 j c) :=
 ⟨W6 w1 h.l1 hc,W6 w2 h.l2 hc,fun w hw=>h.w (c::w) fun d hd=>(aj.mp hd).elim (fun e=>e ▸ hc) (hw d)⟩
theorem P0.inj1 {m1 m2:E1} (L:P0 m1) {i i' j:Nat} (a:A5 m1 m2 i j) (b:A5 m1 m2 i' j):i=i':=by
 by_cases e:i=i'
 ·exact e
 ·obtain⟨w,hw,ne⟩:=L.apart i i' a.l1 b.l1 e
  exact absurd ((a.w w hw).trans (b.w w hw).symm) ne
theorem P0.inj2 {m1 m2:E1} (L:P0 m2) {i j j':Nat} (a:A5 m1 m2 i j) (b:A5 m1 m2 i j'):j=j':=by
 by_cases e:j=j'
 ·exact e
 ·obtain⟨w,hw,ne⟩:=L.apart j j' a.l2 b.l2 e
  exact absurd ((a.w w hw).symm.trans (b.w w hw)) ne
theorem P0.takes {m1 m2:E1} (L1:P0 m1) (L2:P0 m2) (h:∀w,C8 w->R5 m1 w=R5 m2 w):∀s,s<=m1.1.length->s<=m2.1.length ->
  m1.2.take s=m2.2.take s/\∀x,x<(G9 [0] (m1.2.take s)).length->A5 m1 m2 x x
 | 0,_,_=>⟨rfl,fun x hx=>by
  have e:x=0:=by simpa [G9]using hx
  rw [e];exact⟨L1.wf.pos,L2.wf.pos,h⟩⟩
 | s+1,h1,h2=>by
  obtain⟨e,sm⟩:=P0.takes L1 L2 h s (by omega) (by omega)
  have r1:=L1.wf.rowEq (s:=s) h1
  have r2:=L2.wf.rowEq (s:=s) h2
  have t1:m1.2.take (s+1)=m1.2.take s++[B6.map (B2 m1.2 s)]:=by rw [List.take_add_one,r1];rfl
  have t2:m2.2.take (s+1)=m1.2.take s++[B6.map (B2 m2.2 s)]:=by rw [List.take_add_one,r2,e];rfl
  obtain⟨k,ek⟩:=L1.metTake s
  obtain⟨k1,oF⟩:=L1.metTake (s+1)
  obtain⟨k2,r9⟩:=L2.metTake (s+1)
  have ks:s<(G9 [0] (m1.2.take s)).length:=L1.seen s h1
  rw [ek,bo]at ks sm
  have cut:∀{k':Nat}{l:List Nat},List.range k++l=List.range k'->l=List.range' k (k'-k):=fun {k' l} q=>by
   have gU:k<=k':=by have:=congrArg List.length q;simp at this;omega
   have q2:List.range k'=List.range k++List.range' k (k'-k):=by
    have e:k'=k+(k'-k):=by omega
    conv=>lhs;rw [e,jI,<- List.range'_append_1]
    rw [jI,cB]
   rw [q2]at q
   exact List.append_cancel_left q
  have n1:=cut (l:=T1 (List.range k) [] (B6.map (B2 m1.2 s))) (by rw [<- oF,t1,Q4e,ek])
  have n2:=cut (l:=T1 (List.range k) [] (B6.map (B2 m2.2 s))) (by rw [<- r9,t2,Q4e,ek])
  obtain⟨q1,q2⟩:=Z3h (R:=A5 m1 m2) (fun a b=>L1.inj1 a b) (fun a b=>L2.inj2 a b) B6 [] k _ _ (fun c hc=>(sm s ks).step L1.wf L2.wf hc) (fun x=>by simp) sm n1 n2
  refine⟨by rw [t1,t2,q1],fun x hx=>q2 x ?_⟩
  rw [oF,bo]at hx
  omega
theorem P0.lenLe {m1 m2:E1} (L1:P0 m1) (L2:P0 m2) (h:∀w,C8 w->R5 m1 w=R5 m2 w):m2.1.length<=m1.1.length:=by
 by_cases lt:m1.1.length<m2.1.length
 ·have t:=(L1.takes L2 h m1.1.length (ah _) (cD lt)).1
  have:=L2.seen _ lt
  rw [<- t,h8 (eE L1.wf.len),L1.met,bo]at this
  omega
 ·omega
theorem P0.eq {m1 m2:E1} (L1:P0 m1) (L2:P0 m2) (h:∀w,C8 w->R5 m1 w=R5 m2 w):m1=m2:=by
 have el:m1.1.length=m2.1.length:=Nat.le_antisymm (L2.lenLe L1 fun w hw=>(h w hw).symm) (L1.lenLe L2 h)
 obtain⟨t,sm⟩:=L1.takes L2 h m1.1.length (ah _) (eE el)
 have t1:m1.2.take m1.1.length=m1.2:=h8 (eE L1.wf.len)
 rw [t1,L1.met,bo]at sm
 rw [t1,el,h8 (eE L2.wf.len)]at t
 refine Prod.ext (List.ext_getElem el fun i a b=>?_) t
 have:=(sm i a).w [] C8.nil
 unfold L0 at this
 rw [show run (B2 m1.2) i []=i from rfl,show run (B2 m2.2) i []=i from rfl]at this
 simpa [aq,a,b]using this
theorem Y9o {m:E1} (L:P0 m):E8 m.1 m.2=m:=(Q7s L.wf).eq L fun w hw=>Q4a L.wf hw
theorem sim {m m':E1} (kS:F7 m') (φ:Nat->Nat) (h0:φ 0=0) (he:∀k,k<m'.1.length->m'.1.getD k false=m.1.getD (φ k) false) (hs:∀k,k<m'.1.length->∀c∈B6,φ (B2 m'.2 k c)=B2 m.2 (φ k) c) :
  ∀w,C8 w->R5 m' w=R5 m w:=by
 have go:∀(w:List Nat) (k:Nat),C8 w->k<m'.1.length->φ (run (B2 m'.2) k w)=run (B2 m.2) (φ k) w:=by
  intro w
  induction w with
  | nil=>intro k _ _;rfl
  | cons c w ih =>
   intro k hw hk
   have hc:=hw c ao
   show φ (run (B2 m'.2) (B2 m'.2 k c) w)=run (B2 m.2) (B2 m.2 (φ k) c) w
   rw [ih _ (fun d hd=>hw d (av _ hd)) (W6 kS hk hc),hs k hk c hc]
 intro w hw
 unfold R5 stW
 rw [he _ (Q6c kS w 0 hw kS.pos),go w 0 hw kS.pos,h0]
theorem W1w {o:List Nat} (all:∀k,k<o.length->k∈o) {t:Nat} (ht:t<o.length):o.idxOf (o.getD t 0)=t:=by
 have et:o.getD t 0=o[t]:=by rw [aq,ae ht];rfl
 rw [et]
 by_cases e:o.idxOf o[t]=t
 ·exact e
 ·have hi:o.idxOf o[t]<o.length:=aO.mpr (bF ht)
  have sub:∀x∈List.range o.length,x∈o.eraseIdx t:=fun x hx=>by
   rw [List.mem_eraseIdx_iff_getElem]
   obtain⟨i,fY,ex⟩:=bX.mp (all x (aY.mp hx))
   by_cases ei:i=t
   ·subst ei
    exact⟨_,hi,e,by rw [cP];exact ex⟩
   ·exact⟨i,fY,ei,ex⟩
  have:=List.nodup_range.length_le_of_subset sub
  rw [bo,List.length_eraseIdx_of_lt ht]at this
  omega
noncomputable def J1 (n sh:Nat):List Nat:=0::(List.range (n-1)).map fun k=>1+(k+sh) % (n-1)
theorem Q2x {n:Nat} (h:2<=n) (sh:Nat):(J1 n sh).length=n:=by simp [J1];omega
theorem W2j {n:Nat} (h:2<=n) {sh x:Nat} (hx:x∈J1 n sh):x<n:=by
 rcases aj.mp hx with rfl | hx
 ·omega
 ·obtain⟨k,_,rfl⟩:=am.mp hx
  have:=Nat.mod_lt (k+sh) (show 0<n-1 by omega)
  omega
theorem Q8d {n:Nat} (h:2<=n) (sh:Nat):∀k,k<n->k∈J1 n sh:=fun k hk=>by
 cases k with
 | zero=>exact ao
 | succ j =>
  refine av _ (am.mpr ⟨(j+(n-1)-sh % (n-1)) % (n-1),aY.mpr (Nat.mod_lt _ (by omega)),?_⟩)
  have p0:0<n-1:=by omega
  have l:=Nat.mod_lt sh p0
  generalize ep:n-1=p at *
  have e1:((j+p-sh % p) % p+sh) % p=(j+p-sh % p+sh % p) % p:=by rw [Nat.mod_add_mod,Nat.add_mod_mod]
  rw [e1,show j+p-sh % p+sh % p=j+p by omega,Nat.add_mod_right,Nat.mod_eq_of_lt (by omega)]
  omega
noncomputable def W4 (m:E1) (sh:Nat):E1 :=
 ((List.range m.1.length).map fun k=>m.1.getD ((J1 m.1.length sh).idxOf k) false,(List.range m.1.length).map fun k=>(m.2.getD ((J1 m.1.length sh).idxOf k) []).map fun t=>(J1 m.1.length sh).getD t 0)
section
variable {m:E1}
theorem Q2m (h:2<=m.1.length) {sh k:Nat} (hk:k<m.1.length):(J1 m.1.length sh).idxOf k<m.1.length:=by
 have:=aO.mpr (Q8d h sh k hk)
 rwa [Q2x h]at this
theorem Q0o (w:F7 m) {s:Nat} (h:s<m.1.length):m.2.getD s []=B6.map (B2 m.2 s):=by rw [aq,Wf.rowEq w h];rfl
theorem Y0m (w:F7 m) (h:2<=m.1.length) (sh:Nat):F7 (W4 m sh) where
 len:=by simp [W4]
 pos:=by simp [W4];omega
 r4:=fun r hr=>by
  obtain⟨k,hk,rfl⟩:=am.mp hr
  rw [Q0o w (Q2m h (aY.mp hk))];simp
 lt:=fun r hr x hx=>by
  obtain⟨k,hk,rfl⟩:=am.mp hr
  rw [Q0o w (Q2m h (aY.mp hk))]at hx
  obtain⟨t,ht,rfl⟩:=am.mp hx
  obtain⟨c,hc,rfl⟩:=am.mp ht
  have l:=W6 w (Q2m (sh:=sh) h (aY.mp hk)) hc
  simp only [W4,ag,bo]
  exact W2j h (Q0c (by rw [Q2x h];exact l))
theorem W1f (w:F7 m) (h:2<=m.1.length) {sh k c:Nat} (hk:k<m.1.length) (hc:c∈B6):B2 (W4 m sh).2 k c=(J1 m.1.length sh).getD (B2 m.2 ((J1 m.1.length sh).idxOf k) c) 0:=by
 refine Z3g (f:=fun c=>(J1 m.1.length sh).getD (B2 m.2 ((J1 m.1.length sh).idxOf k) c) 0) ?_ hc
 simp only [W4]
 rw [ai,List.getElem?_range hk,Option.map_some,Q0o w (Q2m h hk),aK]
 rfl
theorem W1e (w:F7 m) (h:2<=m.1.length) (sh:Nat):∀u,C8 u->R5 (W4 m sh) u=R5 m u:=by
 have el:(W4 m sh).1.length=m.1.length:=by simp [W4]
 refine sim (Y0m w h sh) (fun k=>(J1 m.1.length sh).idxOf k) (by simp [J1]) (fun k hk=>?_) (fun k hk c hc=>?_)
 ·rw [el]at hk
  show((List.range m.1.length).map _).getD k false=_
  rw [aq,ai,List.getElem?_range hk];rfl
 ·rw [el]at hk
  show(J1 m.1.length sh).idxOf _=_
  rw [W1f w h hk hc]
  refine W1w (fun k hk=>Q8d h sh k (by rwa [Q2x h]at hk)) ?_
  rw [Q2x h]
  exact W6 w (Q2m h hk) hc
noncomputable def dbl (n s:Nat) (r:List Nat):List Nat:=r.zipIdx.map fun p=>if p.1=s/\p.2 % 2=0 then n else p.1
noncomputable def Q5 (m:E1) (s:Nat):E1:=(m.1++[m.1.getD s false],(m.2++[m.2.getD s []]).map (dbl m.1.length s))
theorem Z7t {n s:Nat} (f:Nat->Nat):dbl n s (B6.map f)=B6.map fun c=>if f c=s/\c % 2=0 then n else f c:=by
 simp only [dbl,B6,ak,List.map_nil,bQ,iC]
theorem Z7x (w:F7 m) {s k:Nat} (hs:s<m.1.length) (hk:k<m.1.length+1):(Q5 m s).2[k]?=some (dbl m.1.length s (B6.map (B2 m.2 (if k=m.1.length then s else k)))):=by
 simp only [Q5]
 rw [ai]
 by_cases e:k=m.1.length
 ·rw [aE e,e,<- w.len,aS (ah _),Nat.sub_self,Q0o w hs];rfl
 ·have fm:k<m.1.length:=by omega
  rw [aC e,aH (by rw [w.len];exact fm),Wf.rowEq w fm];rfl
theorem Y7l (w:F7 m) {s k c:Nat} (hs:s<m.1.length) (hk:k<m.1.length+1) (hc:c∈B6):B2 (Q5 m s).2 k c=if B2 m.2 (if k=m.1.length then s else k) c=s/\c % 2=0 then m.1.length else B2 m.2 (if k=m.1.length then s else k) c:=by
 have:=Z7x w hs hk
 rw [Z7t]at this
 exact Z3g this hc
theorem Q7j (s:Nat):(Q5 m s).1.length=m.1.length+1:=by simp [Q5]
theorem Z7z (w:F7 m) {s:Nat} (hs:s<m.1.length):F7 (Q5 m s) where
 len:=by simp [Q5,w.len]
 pos:=by simp [Q5]
 r4:=fun r hr=>by
  obtain⟨q,hq,rfl⟩:=am.mp hr
  have:q.length=4:=by
   rcases aR.mp hq with h | h
   ·exact w.r4 q h
   ·rw [aN.mp h,Q0o w hs];rfl
  simp [dbl,this]
 lt:=fun r hr x hx=>by
  obtain⟨k,hk,e⟩:=bX.mp hr
  have fm:k<m.1.length+1:=by simpa [Q5,w.len]using hk
  have hr:=Z7x w hs fm
  rw [ae hk,e]at hr
  cases hr
  rw [Z7t]at hx
  obtain⟨c,hc,rfl⟩:=am.mp hx
  have hl:(if k=m.1.length then s else k)<m.1.length:=by split <;> omega
  have:=W6 w hl hc
  rw [Q7j]
  generalize B2 m.2 (if k=m.1.length then s else k) c=y at *
  split <;> omega
theorem Y7k (w:F7 m) {s:Nat} (hs:s<m.1.length):∀u,C8 u->R5 (Q5 m s) u=R5 m u:=by
 refine sim (Z7z w hs) (fun k=>if k=m.1.length then s else k) (by have:=w.pos;simp;omega) (fun k hk=>?_) (fun k hk c hc=>?_)
 ·rw [Q7j]at hk
  simp only [Q5]
  by_cases e:k=m.1.length
  ·rw [aE e,e,aq,aS (ah _)];simp
  ·rw [aC e,aq,aH (by omega)];simp
 ·rw [Q7j]at hk
  have hl:(if k=m.1.length then s else k)<m.1.length:=by split <;> omega
  have lt:=W6 w hl hc
  rw [Y7l w hs hk hc]
  by_cases e:B2 m.2 (if k=m.1.length then s else k) c=s/\c % 2=0
  ·rw [aE e,aE rfl];exact e.1.symm
  ·rw [aC e,aC (by omega)]
end
theorem Q8i (n:Nat):J4 0 n=(List.range n).map iD:=by
 unfold J4
 exact bc fun i _=>by show D.int (0+(i:Int))=.int (i:Int);rw [Int.zero_add]
theorem Y5x {l:List Nat}{x:Nat}:(l.map iD).any (fun e=>D.eq e (iD x))=decide (x∈l):=by
 rw [List.any_map,Bool.eq_iff_iff,gg,decide_eq_true_iff]
 constructor
 ·rintro ⟨y,hy,e⟩
  have:(y:Int)=x:=by simpa [D.eq]using e
  have:y=x:=by omega
  exact this ▸ hy
 ·intro h;exact⟨x,h,D.eq_refl _⟩
theorem Y7b (pre r:List Nat):Y9 ((pre++r).map iD) none (some (pre.length:Int))=pre.map iD:=by
 unfold Y9
 rw [HT.sIx_none,HT.sIx_nat,List.drop_zero,Nat.sub_zero,aX]
 rw [List.take_append_of_le_length (by rw [ag];exact Nat.min_le_left _ _)]
 have e:min pre.length (pre.map iD++r.map iD).length=(pre.map iD).length:=by rw [ay,ag];omega
 rw [e,List.take_length]
theorem Y0j (met:List Nat):∀(r pre:List Nat),(T1 met pre r).length<=r.length
 | [],_=>ah _
 | x::r,pre=>by
  unfold T1
  have:=Y0j met r (pre++[x])
  split
  ·rw [aA];omega
  ·rw [aA,aA];omega
def tN:WT:=(A3 (inL 59 true) (wV 1) (A3 F2 (wV 2) (C7 Q2s (A2 (wSl (wV 3) Z2p (Z2q (wV 0))) A4))))
theorem Z1d {met full:List Nat}:∀(r pre:List Nat) (o0 o1:Option Sl) (Q:List D->Prop),full=pre++r->met.length+full.length<=100000->Q ((T1 met pre r).map iD) ->
  K7 (N7 2 (E6 (B0 0) (E6 (B0 1) O2))) tN (A9 (wV 1)) ((r.zipIdx pre.length).map fun p=>.tup [.int (p.2:Int),iD p.1]) [o0,o1,some (.bor (met.map iD)),some (.dat (.tup (full.map iD)))] Q
 | [],pre,o0,o1,Q,_,_,h=>h
 | x::r,pre,o0,o1,Q,e,hl,h=>by
  rw [bQ,ak,K7]
  simp only [Q1y,Q1w,L9,Q1x,tN,E2,C3,K9,D8,s_sl,D4,E9]
  refine⟨_,rfl,rfl,_,_,rfl,_,_,rfl,rfl,_,rfl,_,rfl,_,rfl,?_⟩
  simp only [s_oN,s_oS,C3]
  refine⟨_,rfl,?_⟩
  have ec:Y9 (full.map iD) none (some (pre.length:Int))=pre.map iD:=by rw [e];exact Y7b _ _
  rw [N9,Z2s,N9,W1t,W1q,ec]
  refine⟨_,rfl,?_⟩
  rw [W1r,Z2r]
  have gU:met.length+pre.length<=100000:=by rw [e,ay]at hl;omega
  refine⟨sz (by simp only [ag];omega),_,_,rfl,rfl,fun d hd=>?_,?_⟩
  ·rw [<- aX]at hd
   obtain⟨y,_,rfl⟩:=am.mp hd
   exact bb _
  rw [<- aX,Y5x,aE rfl]
  unfold T1 at h
  have e2:full=(pre++[x])++r:=by rw [e,bz];rfl
  have el:(pre++[x]).length=pre.length+1:=by simp
  by_cases hm:x∈met++pre
  ·rw [aE hm]at h
   rw [aC (by simp [hm])]
   have:=Z1d r (pre++[x]) (some (.dat (.int (pre.length:Int)))) (some (.dat (iD x))) Q e2 hl h
   rw [el]at this
   exact this
  ·rw [aC hm]at h
   rw [aE (by simp [hm])]
   refine⟨_,rfl,_,rfl,?_⟩
   have:=Z1d r (pre++[x]) (some (.dat (.int (pre.length:Int)))) (some (.dat (iD x))) (fun es=>Q (iD x::es)) e2 hl h
   rw [el]at this
   exact this
def wC1:WS:=(V3 (A3 (S7 fun i j=>decide (i<j)) (wV 3) (C7 G2 (A2 (wV 2) A4))) (B7 (C5 4 (A3 B4 (A3 B4 (wV 0) (wC (.int 1))) (wV 3))) (C5 2 (A3 F2 (wV 2) (M0 2 [2,4] (Q2o (A2 (wV 4) A4)) (N7 2 (E6 (B0 0) (E6 (B0 1) O2))) tN (A9 (wV 1)))))) V4)
theorem Y0f {m:E1} (L:P0 m) (hn:m.1.length<=1000) {E:F4}{o1:Option Sl}{rest:A8}:∀(k s:Nat) (o3 o4:Option Sl),s+k=m.1.length->(G9 [0] (m.2.take s)).length<=1+4*s ->
  (∀o3 o4,E.nx (some (.dat (mD m))::o1::some (.own ((G9 [0] m.2).map iD))::o3::o4::rest)) ->
  C4 (B0 3) wC1 E ((List.range' s k).map iD) (some (.dat (mD m))::o1::some (.own ((G9 [0] (m.2.take s)).map iD))::o3::o4::rest)
 | 0,s,o3,o4,hs,_,h=>by
  have e:m.2.take s=m.2:=h8 (by rw [L.wf.len];omega)
  rw [e]
  exact h o3 o4
 | k+1,s,o3,o4,hs,hl,h=>by
  have lt:s<m.1.length:=by omega
  have seen:=L.seen s lt
  obtain⟨r,hr,r4,_⟩:=Wf.row L.wf lt
  rw [List.range'_succ,ak,C4]
  simp only [wC1,L9,Q2a,E2,C3,K9,D8,D4,L5,P8,F8,V1,Z3j]
  refine⟨_,rfl,_,rfl,?_⟩
  rw [V0,Q2v,N9,Q1a,aE (by rw [ag];simp only [fF];omega)]
  refine⟨_,rfl,F9 (i:=1) rfl ⟨_,rfl,?_⟩⟩
  refine F9 (i:=s) (d:=.tup (r.map iD)) (by rw [ai,hr];rfl) ?_
  rw [T2]
  refine⟨_,rfl,_,rfl,_,_,rfl,rfl,?_⟩
  have ee:G1 (r.map iD)=(r.zipIdx 0).map fun p=>.tup [.int (p.2:Int),iD p.1]:=by
   unfold G1;rw [iE,aK];rfl
  rw [ee]
  refine⟨sz (by rw [ag,List.length_zipIdx];omega),?_⟩
  refine Z1d (met:=G9 [0] (m.2.take s)) (full:=r) r [] none none _ rfl (by omega) ?_
  have nl:=Y0j (G9 [0] (m.2.take s)) r []
  rw [V0,Z2r]
  refine⟨sz (by simp only [ag];omega),?_⟩
  rw [W5,<- aX]
  have et:m.2.take (s+1)=m.2.take s++[r]:=by
   rw [List.take_add_one,hr];rfl
  have em:G9 [0] (m.2.take s)++T1 (G9 [0] (m.2.take s)) [] r=G9 [0] (m.2.take (s+1)):=by rw [et,Q4e]
  rw [em]
  refine Y0f L hn k (s+1) _ _ (by omega) ?_ h
  rw [<- em,ay];omega
noncomputable def G8 (ps:List (Nat×Nat)) (f:AF):List (List A7×D):=ps.map fun p=>(pK p,.bl (f p))
theorem Z9e (p q:Nat×Nat):decide (pK p=pK q)=decide (p=q):=by
 by_cases e:p=q
 ·rw [e];simp
 ·rw [aM e,aM fun z=>e (Y1d _ _ z)]
theorem Z1x {ps:List (Nat×Nat)}{f:AF}{q:Nat×Nat} (h:q∈ps):D5 (G8 ps f) (pK q)=some (.bl (f q)):=by
 induction ps with
 | nil=>cases h
 | cons p ps ih =>
  by_cases e:p=q
  ·rw [e];simp [G8,D5,b8]
  ·rcases aj.mp h with z | h
   ·exact absurd z.symm e
   ·have s:D5 (G8 (p::ps) f) (pK q)=D5 (G8 ps f) (pK q):=by
     unfold D5 G8
     rw [ak,b8]
     show Option.map _ (match decide (pK p=pK q)with | true=>_ | false=>_)=_
     rw [Z9e,aM e]
    rw [s];exact ih h
theorem Y9i {ps:List (Nat×Nat)}{f:AF}{q:Nat×Nat} (h:q∉ps):M8 (G8 ps f) (pK q) (.bl (f q))=G8 (ps++[q]) f:=by
 unfold M8
 rw [aC]
 ·unfold G8;rw [aX];rfl
 ·unfold G8
  rw [List.any_map,gg]
  rintro ⟨p,hp,e⟩
  simp only [Function.comp,Z9e,fF]at e
  exact h (e ▸ hp)
theorem Y9j {ps:List (Nat×Nat)}{f:AF}{q:Nat×Nat}{v:Bool} (h:q∈ps):M8 (G8 ps f) (pK q) (.bl v)=G8 ps fun p=>if p=q then v else f p:=by
 unfold M8
 rw [aE]
 ·unfold G8
  rw [aK]
  refine bc fun p _=>?_
  simp only [Function.comp]
  by_cases e:p=q
  ·rw [aE e,aE (by rw [e])]
  ·rw [aC e,aC fun z=>e (Y1d _ _ z)]
 ·unfold G8
  rw [List.any_map,gg]
  exact⟨q,h,by simp⟩
theorem Q3y (i j:Nat):U8 [iD i,iD j]=some (pK (i,j)):=rfl
def wF1:WS:=(Q4o 5 (T4 (A2 (A9 (wV 6)) (A2 (A9 (wV 7)) A4))) (wB (A3 (K2 59 true) (A3 B4 (A3 B4 (wV 0) (wC (.int 0))) (wV 6)) (A3 B4 (A3 B4 (wV 0) (wC (.int 0))) (wV 7)))))
theorem Z8d (a b:Bool):D.eq (.bl a) (.bl b)=(a==b):=by cases a <;> cases b <;> rfl
theorem Z8f {m:E1}{o1 o2 o3 o4 o8 o9:Option Sl}{E:F4}{i:Nat} (hi:i<m.1.length) (hn:m.1.length<=1000) {done:List (Nat×Nat)} (hd:∀p∈done,p.1<i) (hl:done.length<=1000000):∀(k t:Nat) (o7:Option Sl),t+k=m.1.length ->
  (∀o7,E.nx [some (.dat (mD m)),o1,o2,o3,o4,some (.dt (G8 (done++(List.range m.1.length).map fun j=>(i,j)) (ap0 m.1))),some (.dat (iD i)),o7,o8,o9]) ->
  C4 (B0 7) wF1 E ((List.range' t k).map iD) [some (.dat (mD m)),o1,o2,o3,o4,some (.dt (G8 (done++(List.range t).map fun j=>(i,j)) (ap0 m.1))),some (.dat (iD i)),o7,o8,o9]
 | 0,t,o7,ht,h=>by
  have:t=m.1.length:=by omega
  rw [this];exact h o7
 | k+1,t,o7,ht,h=>by
  have lt:t<m.1.length:=by omega
  rw [List.range'_succ,ak,C4]
  simp only [wF1,L9,Y2b,s_b,E2,C3,F8,s_tup,D8,E9,D4]
  refine⟨_,rfl,F9 (i:=0) rfl ⟨_,rfl,F9 (i:=i) (Q3o hi) ?_⟩⟩
  refine⟨_,rfl,F9 (i:=0) rfl ⟨_,rfl,F9 (i:=t) (Q3o lt) ?_⟩⟩
  rw [Q0m]
  refine⟨_,_,rfl,rfl,bb _,_,rfl,_,rfl,_,rfl,_,rfl,_,rfl,sz (by simp),_,_,rfl,Q3y i t,?_,?_⟩
  ·unfold G8
   rw [ag,ay,ag,bo]
   show _<2 ^ 24
   omega
  rw [aE rfl,Z8d]
  have nn:(i,t)∉done++(List.range t).map fun j=>(i,j):=fun z=>by
   rcases aR.mp z with z | z
   ·exact aQ _ (hd _ z)
   ·obtain⟨j,hj,e⟩:=am.mp z
    have:=aY.mp hj
    cases e
    omega
  have e:=Y9i (f:=ap0 m.1) nn
  have e2:(done++(List.range t).map fun j=>(i,j))++[(i,t)]=done++(List.range (t+1)).map fun j=>(i,j):=by
   rw [List.range_succ,aX,bz];rfl
  rw [e2]at e
  have e3:(D.bl (!(m.1.getD i false==m.1.getD t false)))=.bl (ap0 m.1 (i,t)):=rfl
  rw [e3,e]
  exact Z8f hi hn hd hl k (t+1) _ (by omega) h
theorem W2k (i n:Nat):M6 (i+1) n=M6 i n++(List.range n).map fun j=>(i,j):=by
 unfold M6
 rw [List.range_succ,List.flatMap_append]
 simp
theorem fill {m:E1}{o2 o3 o4 o8 o9:Option Sl}{E:F4} (hn:m.1.length<=1000):∀(k i:Nat) (o6 o7:Option Sl),i+k=m.1.length ->
  (∀o6 o7,E.nx [some (.dat (mD m)),some (.dat (iD m.1.length)),o2,o3,o4,some (.dt (G8 (M6 m.1.length m.1.length) (ap0 m.1))),o6,o7,o8,o9]) ->
  C4 (B0 6) (L6 (W0 (A2 (wV 1) A4)) (B0 7) wF1) E ((List.range' i k).map iD) [some (.dat (mD m)),some (.dat (iD m.1.length)),o2,o3,o4,some (.dt (G8 (M6 i m.1.length) (ap0 m.1))),o6,o7,o8,o9]
 | 0,i,o6,o7,hi,h=>by
  have:i=m.1.length:=by omega
  rw [this];exact h o6 o7
 | k+1,i,o6,o7,hi,h=>by
  have lt:i<m.1.length:=by omega
  rw [List.range'_succ,ak,C4]
  simp only [L9,S9,Q1z,D8,C3,D4]
  refine⟨_,rfl,_,rfl,by omega,by omega,?_⟩
  rw [bp,Q8i,jI]
  have hl:(M6 i m.1.length).length<=1000000:=by
   rw [Z2y]
   have:i*m.1.length<=1000*1000:=Nat.mul_le_mul (by omega) hn
   omega
  have:=Z8f (E:={ E with nx:=C4 (B0 6) (L6 (W0 (A2 (wV 1) A4)) (B0 7) wF1) E ((List.range' (i+1) k).map iD),ct:=C4 (B0 6) (L6 (W0 (A2 (wV 1) A4)) (B0 7) wF1) E ((List.range' (i+1) k).map iD),bk:=E.nx }) (o1:=some (.dat (iD m.1.length))) (o2:=o2) (o3:=o3) (o4:=o4) (o8:=o8) (o9:=o9) lt hn (done:=M6 i m.1.length) (fun p hp=>(Q4c.mp hp).1) hl m.1.length 0 o7 (cB _) (fun o7=>by
   rw [<- W2k]
   exact fill hn k (i+1) _ _ (by omega) h)
  rw [List.range_zero,List.map_nil,bO]at this
  exact this
@[simp] theorem W5w {n:Nat}{we:WE} {τ:A8}{Q:R->Prop}:Q9i n we τ Q=∃kvs,τ[n]?=some (some (.bd kvs))/\we τ fun r=>∃ds ks d,r=.st (.tup ds)/\U8 ds=some ks/\D5 kvs ks=some d/\Q (.st d):=rfl
theorem Y1x {es:List Bool}{rows:List (List Nat)} (wf:Wf es rows) {i:Nat} (h:i<es.length):rows[i]?=some (B6.map (B2 rows i)):=by
 obtain⟨r,hr,r4,hc⟩:=wf.row h
 rw [hr]
 congr 1
 refine List.ext_getElem? fun c=>?_
 by_cases lt:c<4
 ·rw [(hc c lt).1]
  have:c=0\/c=1\/c=2\/c=3:=by omega
  rcases this with rfl | rfl | rfl | rfl <;> rfl
 ·rw [cq (by omega),cq (by simp;omega)]
theorem Y5w (f:Nat->Bool) (l:List Nat):(l.map fun c=>D.bl (f c)).any (fun e=>D.eq e (.bl true))=l.any f:=by
 rw [List.any_map]
 congr 1
 funext c
 simp only [Function.comp,Z8d]
 cases f c <;> rfl
def wG1:WS:=(B7 (C5 9 (M0 1 [5] (Q7q (A2 (A3 B4 (A3 B4 (wV 0) (wC (.int 1))) (wV 6)) (A2 (A3 B4 (A3 B4 (wV 0) (wC (.int 1))) (wV 7)) A4))) (B0 0) P9 (A9 (Q9i 1 (wV 0))))) (Q4o 5 (T4 (A2 (A9 (wV 6)) (A2 (A9 (wV 7)) A4))) (Q9q (Q9k 5 (T4 (A2 (A9 (wV 6)) (A2 (A9 (wV 7)) A4)))) (wB (A3 (inL 59 false) (wC (.bl true)) (wV 9))))))
noncomputable def afD (f:AF):D->D
 | .tup [.int a,.int b]=>.bl (f (a.toNat,b.toNat))
 | d=>d
theorem Y4e {m:E1} (wf:F7 m) (hn:m.1.length<=1000) {o1 o2 o3 o4 o8:Option Sl}{E:F4}:∀(ps:List (Nat×Nat)) (f:AF) (o6 o7 o9:Option Sl),(∀p∈ps,p.1<m.1.length/\p.2<m.1.length) ->
  (∀o6 o7 o9,E.nx [some (.dat (mD m)),o1,o2,o3,o4,some (.dt (G8 (M6 m.1.length m.1.length) (Q9b m.2 ps f))),o6,o7,o8,o9]) ->
  C4 (N7 2 (E6 (B0 6) (E6 (B0 7) O2))) wG1 E (ps.map pD) [some (.dat (mD m)),o1,o2,o3,o4,some (.dt (G8 (M6 m.1.length m.1.length) f)),o6,o7,o8,o9]
 | [],f,o6,o7,o9,_,h=>h o6 o7 o9
 | p::ps,f,o6,o7,o9,hp,h=>by
  obtain⟨h1,h2⟩:=hp p ao
  have pin:p∈M6 m.1.length m.1.length:=Q4c.mpr ⟨h1,h2⟩
  rw [ak,C4]
  simp only [wG1,Q1y,Q1w,L9,Q1x,L5,P8,V1,W6i,D8,E2,C3,F8,D4,Y2b,s_tup,E9,W6w,W6a,s_b]
  refine⟨_,rfl,rfl,_,_,rfl,_,_,rfl,rfl,_,rfl,F9 (i:=1) rfl ⟨_,rfl,?_⟩⟩
  refine F9 (i:=p.1) (d:=.tup ((B6.map (B2 m.2 p.1)).map iD)) (by rw [ai,Y1x wf h1];rfl) ?_
  refine⟨_,rfl,F9 (i:=1) rfl ⟨_,rfl,?_⟩⟩
  refine F9 (i:=p.2) (d:=.tup ((B6.map (B2 m.2 p.2)).map iD)) (by rw [ai,Y1x wf h2];rfl) ?_
  refine⟨_,_,rfl,?_⟩
  have ez:O7 ((B6.map (B2 m.2 p.1)).map iD) ((B6.map (B2 m.2 p.2)).map iD)=B6.map fun c=>.tup [iD (B2 m.2 p.1 c),iD (B2 m.2 p.2 c)]:=rfl
  rw [ez]
  refine⟨sz (by simp),?_⟩
  refine Y8 (f:=afD f) _ none _ (fun d hd Q' q=>?_) ?_
  ·obtain⟨c,hc,rfl⟩:=am.mp hd
   have q:Q' (.st (.bl (f (B2 m.2 p.1 c,B2 m.2 p.2 c)))):=by
    simp only [afD,bp]at q;exact q
   simp only [E9,W5w,C3]
   refine⟨_,rfl,_,rfl,_,_,_,rfl,Q3y _ _,Z1x (Q4c.mpr ⟨W6 wf h1 hc,W6 wf h2 hc⟩),q⟩
  have es:(B6.map fun c=>D.tup [iD (B2 m.2 p.1 c),iD (B2 m.2 p.2 c)]).map (afD f)=B6.map fun c=>.bl (f (B2 m.2 p.1 c,B2 m.2 p.2 c)):=by
   rw [aK]
   exact bc fun c _=>by simp only [Function.comp,afD,bp]
  rw [es,W5]
  have ll:(G8 (M6 m.1.length m.1.length) f).length<sizeLine:=by
   unfold G8
   rw [ag,Z2y]
   have:m.1.length*m.1.length<=1000*1000:=Nat.mul_le_mul hn hn
   show _<2 ^ 24
   omega
  have go:∀(v:Bool),v=(f p||B6.any fun c=>f (B2 m.2 p.1 c,B2 m.2 p.2 c))->C4 (N7 2 (E6 (B0 6) (E6 (B0 7) O2))) wG1 E (ps.map pD) [some (.dat (mD m)),o1,o2,o3,o4,some (.dt (M8 (G8 (M6 m.1.length m.1.length) f) (pK p) (.bl v))),some (.dat (iD p.1)),some (.dat (iD p.2)),o8,some (.own (B6.map fun c=>.bl (f (B2 m.2 p.1 c,B2 m.2 p.2 c))))]:=fun v hv=>by
   rw [Y9j pin]
   have eu:(fun q=>if q=p then v else f q)=upF m.2 p f:=by funext q;unfold upF;rw [hv]
   rw [eu]
   exact Y4e wf hn ps _ _ _ _ (fun q hq=>hp q (av _ hq)) h
  refine⟨_,rfl,_,rfl,_,rfl,_,rfl,sz (by simp),_,_,_,rfl,Q3y p.1 p.2,Z1x pin,?_⟩
  rw [o_bl]
  by_cases hf:f p=true
  ·rw [aE (show f (p.1,p.2)=true from hf)]
   exact⟨_,rfl,_,rfl,_,rfl,_,rfl,_,rfl,sz (by simp),_,_,rfl,Q3y p.1 p.2,ll,go true (by rw [hf];rfl)⟩
  ·rw [aC (show ¬ f (p.1,p.2)=true from hf)]
   refine⟨_,rfl,_,_,rfl,rfl,fun d hd=>?_,?_⟩
   ·obtain⟨c,_,rfl⟩:=am.mp hd;exact bb _
   rw [aC bA,Y5w]
   exact⟨_,rfl,_,rfl,_,rfl,_,rfl,_,rfl,sz (by simp),_,_,rfl,Q3y p.1 p.2,ll,go _ (by rw [Bool.not_eq_true]at hf;rw [hf];rfl)⟩
theorem Y9z {kvs:List (List A7×D)}{Q:R->Prop}:Q1r [.dt kvs] Q=Q (.nw (kvs.map fun p=>ktD p.1)):=by simp only [Q1r]
theorem Y4h {m:E1} (wf:F7 m) (hn:m.1.length<=1000) {o1 o2 o3 o4:Option Sl}{E:F4}:∀(l:List D) (f:AF) (o6 o7 o8 o9:Option Sl),
  (∀o6 o7 o8 o9,E.nx [some (.dat (mD m)),o1,o2,o3,o4,some (.dt (G8 (M6 m.1.length m.1.length) (Q9c m.2 (M6 m.1.length m.1.length) l.length f))),o6,o7,o8,o9]) ->
  C4 (B0 8) (L6 (Q0f (A9 (C7 Q1r (A2 (wV 5) A4)))) (N7 2 (E6 (B0 6) (E6 (B0 7) O2))) wG1) E l [some (.dat (mD m)),o1,o2,o3,o4,some (.dt (G8 (M6 m.1.length m.1.length) f)),o6,o7,o8,o9]
 | [],f,o6,o7,o8,o9,h=>h o6 o7 o8 o9
 | d::l,f,o6,o7,o8,o9,h=>by
  rw [C4]
  simp only [L9,S9,Q6d,E9,K9,D8,C3,D4]
  refine⟨_,rfl,?_⟩
  have el:(G8 (M6 m.1.length m.1.length) f).map (fun p=>ktD p.1)=(M6 m.1.length m.1.length).map pD:=by
   unfold G8;rw [aK];rfl
  rw [show Q8 (.dt (G8 (M6 m.1.length m.1.length) f))=.dt (G8 (M6 m.1.length m.1.length) f)from rfl,Y9z,el]
  refine⟨_,rfl,?_⟩
  exact Y4e wf hn _ f _ _ _ (fun p hp=>Q4c.mp hp) fun o6 o7 o9=>Y4h wf hn l _ _ _ _ _ h
section
variable {K:Fg9}{n:Nat}{we:WE}{wr:WA}{w:WS}{E:F4} {τ:A8}
@[simp] theorem W6s {Q:R->Prop}:Q9o wr τ Q=wr τ fun rs=>∃j:Int,rs=[.st (.int j)]/\0<=j/\j<=2 ^ 24/\Q (.nw (J4 0 j.toNat)):=rfl
@[simp] theorem Y2e:Z4n K n w E τ=w { E with nx:=fun τ'=>∃kvs,τ'[n]?=some (some (.dt kvs))/\∀a,E.nx (τ'.set n (some (.cl a (FzT K a kvs)))) } τ:=rfl
@[simp] theorem Y2i {Q:List D->Prop}:Z1u K n τ Q=∃a kvs,τ[n]?=some (some (.cl a (FzT K a kvs)))/\Q (kvs.map fun p=>ktD p.1):=rfl
@[simp] theorem W6z {Q:R->Prop}:Q9r K n we τ Q=∃a kvs,τ[n]?=some (some (.cl a (FzT K a kvs)))/\we τ fun r=>∃ds ks d,r=.st (.tup ds)/\U8 ds=some ks/\D5 kvs ks=some d/\Q (.st d):=rfl
def tL (K:Fg9):WT:=(Q9f (A3 (K2 59 true) (A3 B4 (wV 0) (wC (.int 0))) (A3 B4 (wV 0) (wC (.int 1)))) (Q3i (Q4u (Q9r K 1 (wV 0)))))
theorem Z7q {a:Addr}{ps0:List (Nat×Nat)}{f:AF}{Q:List D->Prop}:∀(ps:List (Nat×Nat)) (o:Option Sl),(∀p∈ps,p∈ps0/\(p.1≠p.2->f p=true))->Q [] ->
  K7 (B0 0) (tL K) (A9 (wV 0)) (ps.map pD) [o,some (.cl a (FzT K a (G8 ps0 f)))] Q
 | [],o,_,h=>h
 | p::ps,o,hp,h=>by
  obtain⟨h1,h2⟩:=hp p ao
  rw [ak,K7]
  simp only [L9,tL,W5t,E2,C3,F8,Z3l,Z3m,W6z]
  refine⟨_,rfl,F9 (i:=0) rfl ⟨_,rfl,F9 (i:=1) rfl ?_⟩⟩
  rw [Q0m]
  refine⟨_,_,rfl,rfl,bb _,?_⟩
  rw [aE rfl]
  have next:K7 (B0 0) (tL K) (A9 (wV 0)) (ps.map pD) [some (.dat (pD p)),some (.cl a (FzT K a (G8 ps0 f)))] Q:=Z7q ps _ (fun q hq=>hp q (av _ hq)) h
  by_cases e:p.1=p.2
  ·rw [aC (by rw [e,D.eq_refl];simp),aC bA]
   exact next
  ·rw [aE (by
    cases z:D.eq (iD p.1) (iD p.2)with
    | false=>rfl
    | true =>
     have:(p.1:Int)=p.2:=by simpa [D.eq]using z
     omega)]
   refine⟨_,_,rfl,_,rfl,_,_,_,rfl,Q3y p.1 p.2,Z1x h1,?_⟩
   rw [Z2u,h2 e,aC (by decide)]
   exact next
end
theorem Y7g (l:List Nat):D.depth (.lst (l.map iD))<=59:=by
 have h:∀l:List Nat,D.depths (l.map iD)<=0:=fun l=>by
  induction l with
  | nil=>exact ah _
  | cons a l ih=>simp only [ak,D.depths,D.depth];omega
 simp only [D.depth]
 have:=h l
 omega
noncomputable def Q4j:D6:=fun rs r=>∃m:E1,rs=[.st (mD m)]/\P0 m/\m.1.length<=1000/\r=.st (.bl true)
theorem W5a {K:Fg9}:∀rs r,rs.length=1->Q4j rs r->Z5e K (T0 r) (F6 Q3l rs):=by
 rintro rs r _ ⟨m,rfl,L,hn,rfl⟩
 have r0:List.range m.1.length=List.range' 0 m.1.length:=jI
 unfold Z5e
 simp only [L5,P8,K9,D8,E2,C3,F8,D4,s_lst,E9,S9,Q6d,Q2a,Y2a,Q1z,X6,Q3a,W6s,Y2e,s_b,V1,Y2i]
 refine⟨_,rfl,F9 (i:=0) rfl ?_⟩
 rw [Q1s,ag,T2]
 refine⟨_,rfl,sz (by simp),?_⟩
 rw [W5]
 refine⟨_,rfl,_,rfl,by omega,by omega,?_⟩
 rw [bp,Q8i,r0]
 refine⟨_,rfl,?_⟩
 refine Y0f L hn m.1.length 0 none none (cB _) (by simp [G9]) fun o3 o4=>?_
 refine⟨_,rfl,_,rfl,_,rfl,by omega,by omega,?_⟩
 rw [bp,Q8i,V0]
 dsimp only
 rw [Q0m,L.met]
 refine⟨_,_,rfl,rfl,?_,?_⟩
 ·exact Y7g _
 rw [D.eq_refl,aE rfl,aC (by decide)]
 simp only [Q3a,L5,Y2a,S9,Q1z,D8,C3,D4]
 refine⟨_,rfl,_,rfl,by omega,by omega,?_⟩
 rw [bp,Q8i,r0]
 refine fill hn m.1.length 0 none none (cB _) fun o6 o7=>?_
 simp only [Y2e,S9,Q1z,D8,C3,D4]
 refine⟨_,rfl,_,rfl,by omega,by omega,?_⟩
 refine Y4h L.wf hn _ _ _ _ _ _ fun o6 o7 o8 o9=>?_
 refine⟨_,rfl,fun a=>?_⟩
 simp only [X6,s_b,E2,V1,Y2i]
 refine⟨a,_,rfl,?_⟩
 have el:∀f:AF,(G8 (M6 m.1.length m.1.length) f).map (fun p=>ktD p.1)=(M6 m.1.length m.1.length).map pD:=fun f=>by
  unfold G8;rw [aK];rfl
 have len:(J4 0 (m.1.length:Int).toNat).length=m.1.length:=by unfold J4;simp
 rw [el,len]
 refine⟨sz ?_,?_⟩
 ·rw [ag,Z2y]
  have:m.1.length*m.1.length<=1000*1000:=Nat.mul_le_mul hn hn
  omega
 refine Z7q (K:=K) (ps0:=M6 m.1.length m.1.length) (a:=a) _ none (fun p hp=>⟨hp,fun ne=>?_⟩) ?_
 ·obtain⟨h1,h2⟩:=Q4c.mp hp
  exact L.turns (fun i j hi hj=>Q4c.mpr ⟨hi,hj⟩) h1 h2 ne
 simp only [s_lst,D4]
 refine⟨_,rfl,sz (by simp),?_⟩
 rw [Q0m]
 exact⟨_,_,rfl,rfl,by decide,rfl⟩
end MC
end
section
namespace K12
open PySem PySem.Spec PyProof.Rows L2 TK MC
abbrev Q5a:List Str:=["_law_told","_law_shift","_law_size","_law_order","_law_ends","_law_rows","_law_k"]
def Z5g   :WS:=(B7 (C5 2 (C7 G2 (A2 (A3 B4 (wV 0) (wC (.int 0))) A4))) (B7 (C5 3 (A9 (A3 F2 (M3 (A2 (A9 (wC (.int 0))) A4)) (M0 1 [1,2] (Q2p (A2 (A3 (J8 NoC fun i j=>i-j) (wV 2) (wC (.int 1))) A4)) (B0 0) P9 (A9 (A3 F2 (wC (.int 1)) (A3 (J8 (fun _ j=>0<j) fun i j=>i % j) (A3 F2 (wV 0) (wV 1)) (A3 (J8 NoC fun i j=>i-j) (wV 2) (wC (.int 1)))))))))) (B7 (C5 4 (C7 O4 (A2 (M0 1 [0,3] (Q2p (A2 (wV 2) A4)) (B0 0) P9 (A9 (A3 B4 (A3 B4 (wV 1) (wC (.int 0))) (Q4t (wV 2) (wV 0))))) A4))) (B7 (C5 5 (M3 A4)) (B7 (L6 (W0 (A2 (wV 2) A4)) (B0 6) (S5 5 (A9 (C7 O4 (A2 (M0 1 [3] (Q3w (A3 B4 (A3 B4 (wV 0) (wC (.int 1))) (Q4t (wV 3) (wV 6)))) (B0 0) P9 (A9 (A3 B4 (wV 1) (wV 0)))) A4))))) (O6 (T4 (A2 (A9 (wV 4)) (A2 (A9 (C7 O4 (A2 (wV 5) A4))) A4)))))))))
abbrev Z0e:List Str:=["_law_told","_law_state_here","_law_size","_law_rows","_law_row"]
def Z5c   :WS:=(B7 (C5 2 (C7 G2 (A2 (A3 B4 (wV 0) (wC (.int 0))) A4))) (B7 (C5 3 (M3 A4)) (B7 (L6 (Q3u (A3 F2 (A3 B4 (wV 0) (wC (.int 1))) (T4 (A2 (A9 (A3 B4 (A3 B4 (wV 0) (wC (.int 1))) (wV 1))) A4)))) (B0 4) (S5 3 (A9 (C7 O4 (A2 (M0 2 [2,1] (Q2o (A2 (wV 4) A4)) (N7 2 (E6 (B0 0) (E6 (B0 1) O2))) P9 (A9 (A3 B4 (M3 (A2 (A9 (wV 1)) (A2 (A9 (wV 2)) A4))) (C7 Q1o (A2 (Q6m (wB (A3 (K2 60 false) (wV 1) (wV 3))) (wB (A3 (K2 60 false) (A3 (J8 (fun _ j=>0<j) fun i j=>i % j) (wV 0) (wC (.int 2))) (wC (.int 0))))) A4))))) A4))))) (O6 (T4 (A2 (A9 (A3 F2 (A3 B4 (wV 0) (wC (.int 0))) (T4 (A2 (A9 (A3 B4 (A3 B4 (wV 0) (wC (.int 0))) (wV 1))) A4)))) (A2 (A9 (C7 O4 (A2 (wV 3) A4))) A4)))))))
abbrev Z0d:List Str:=["_law_script","_law_told","_law_least","_law_others","_law_other","_law_said"]
def Z5a   (dE:D6) (sp_least_of:O8) (dy:D6) (eG:D6) (Q3c:D6) (dG:D6) (dF:D6) (c7:D6) (dw:D6) (Q4j:O8):WS:=(B7 (C5 1 (O5 dE (A2 (wV 0) (A2 (wC (.int 0)) (A2 (wC (.int 6)) A4))))) (B7 (C5 2 (W8 sp_least_of (A2 (wV 1) A4))) (B7 (V3 (wOr (Q3i (Q4u (O5 dy (A2 (wV 2) A4)))) (A3 (S7 fun i j=>decide (j<i)) (C7 G2 (A2 (A3 B4 (wV 2) (wC (.int 0))) A4)) (C7 G2 (A2 (A3 B4 (wV 1) (wC (.int 0))) A4)))) (O6 (wC (.bl false))) V4) (B7 (V3 (A3 (K2 59 true) (M0 1 [2,1] (Q5m (O5 eG (A2 (wC (.int 4)) A4))) (B0 0) (A3 (K2 59 true) (O5 Q3c (A2 (wV 1) (A2 (wV 0) A4))) (O5 dG (A2 (wV 2) (A2 (wV 0) A4)))) (A9 (wV 0))) (M3 A4)) (O6 (wC (.bl false))) V4) (B7 (C5 3 (M3 (A2 (A9 (O5 dF (A2 (wV 1) (A2 (O5 c7 (A2 (wV 0) (A2 (wC (.int 60)) (A2 (C7 G2 (A2 (A3 B4 (wV 1) (wC (.int 0))) A4)) A4)))) A4)))) (A2 (A9 (wV 2)) A4)))) (B7 (V3 (A3 (S7 fun i j=>decide (j<i)) (C7 G2 (A2 (A3 B4 (wV 1) (wC (.int 0))) A4)) (wC (.int 1))) (S5 3 (A9 (O5 dw (A2 (wV 1) (A2 (O5 c7 (A2 (wV 0) (A2 (wC (.int 61)) (A2 (wC (.int 6)) A4)))) A4))))) V4) (B7 (L6 (Q0f (A9 (A3 Q2i (wV 3) (M3 (A2 (A9 (wV 1)) A4))))) (B0 4) (B7 (C5 5 (W8 Q4j (A2 (wV 4) A4))) (V3 (wOr (A3 (K2 59 true) (W8 sp_least_of (A2 (wV 4) A4)) (wV 2)) (wOr (Q3i (Q4u (Q9m "bool" (wV 5)))) (A3 (K2 59 true) (wV 5) (wB (A3 (K2 60 false) (wV 4) (wV 2)))))) (O6 (wC (.bl false))) V4))) (O6 (wC (.bl true))))))))))
theorem Z8o (k:Nat):∀l:List Nat,(l.map fun(x:Nat)=>(x:Int)).idxOf (k:Int)=l.idxOf k
 | []=>rfl
 | x::l=>by
  rw [ak,List.idxOf_cons,List.idxOf_cons,Z8o k l]
  by_cases e:x=k
  ·subst e;simp
  ·have e':¬ (x:Int)=(k:Int):=by omega
   rw [show((x:Int)==(k:Int))=false from bv.mpr e',show(x==k)=false from bv.mpr e]
theorem lidx {o:List Nat}{k:Nat} (hk:k∈o) (hl:o.length<=1000) {τ:A8}{a b:Nat} (h1:τ[a]?=some (some (.dat (.lst (o.map iD))))) (h2:τ[b]?=some (some (.dat (iD k)))) {Q:R->Prop} (q:Q (.st (iD (o.idxOf k)))):Q4t (wV a) (wV b) τ Q:=by
 simp only [W6q,C3]
 refine⟨_,h1,o.map (fun(x:Nat)=>(x:Int)),by rw [N9,aK];rfl,_,h2,(k:Int),rfl,sz (by rw [ag];omega),am.mpr ⟨k,hk,rfl⟩,?_⟩
 rw [Z8o];exact q
noncomputable def Q8r:D6:=fun rs r=>∃(m:E1) (sh:Nat),rs=[.st (mD m),.st (iD sh)]/\F7 m/\2<=m.1.length/\m.1.length<=900/\r=.st (mD (W4 m sh))
def wNR:WS:=(S5 5 (A9 (C7 O4 (A2 (M0 1 [3] (Q3w (A3 B4 (A3 B4 (wV 0) (wC (.int 1))) (Q4t (wV 3) (wV 6)))) (B0 0) P9 (A9 (A3 B4 (wV 1) (wV 0)))) A4))))
theorem Y0t {m:E1} (wf:F7 m) (h2:2<=m.1.length) (hn:m.1.length<=900) (sh:Nat) {E:F4}{o1 o2 o4:Option Sl}:∀(l:List Nat) (rs:List (List Nat)) (o6:Option Sl),(∀k∈l,k<m.1.length)->rs.length+l.length<=1000 ->
  (∀o6,E.nx [some (.dat (mD m)),o1,o2,some (.dat (.lst ((J1 m.1.length sh).map iD))),o4,some (.own ((rs++l.map fun k=>(m.2.getD ((J1 m.1.length sh).idxOf k) []).map fun t=>(J1 m.1.length sh).getD t 0).map rD)),o6]) ->
  C4 (B0 6) wNR E (l.map iD) [some (.dat (mD m)),o1,o2,some (.dat (.lst ((J1 m.1.length sh).map iD))),o4,some (.own (rs.map rD)),o6]
 | [],rs,o6,_,_,h=>by simpa [C4]using h o6
 | k::l,rs,o6,hk,hz,h=>by
  rw [aA]at hz
  have l6:=hk k ao
  have hi:=Q2m (sh:=sh) h2 l6
  rw [ak,C4]
  simp only [wNR,L9,Q1u,E9,K9,D8,V1,Z3k,E2,C3,F8,D4]
  refine⟨_,rfl,_,rfl,F9 (i:=1) rfl ?_⟩
  refine lidx (Q8d h2 sh k l6) (by rw [Q2x h2];omega) rfl rfl ?_
  refine F9 (i:=(J1 m.1.length sh).idxOf k) (d:=rD (m.2.getD ((J1 m.1.length sh).idxOf k) [])) (by rw [ai,Wf.rowEq wf hi,Q0o wf hi];rfl) ?_
  rw [Q0o wf hi]
  refine⟨_,rfl,sz (by simp),?_⟩
  refine Y8 (f:=fun d=>match d with | .int t=>iD ((J1 m.1.length sh).getD t.toNat 0) | d=>d) _ none _ (fun d hd Q' q=>?_) ?_
  ·obtain⟨t,ht,rfl⟩:=am.mp hd
   obtain⟨c,hc,rfl⟩:=am.mp ht
   simp only [E9,E2,C3]
   refine⟨_,rfl,_,rfl,Z2e (by rw [Q2x h2];exact W6 wf hi hc) ?_⟩
   exact q
  rw [Z7]
  refine⟨_,rfl,_,rfl,szl (by simp;omega),?_⟩
  have e:rs.map rD++[D.tup (((B6.map (B2 m.2 ((J1 m.1.length sh).idxOf k))).map iD).map fun d=>match d with | .int t=>iD ((J1 m.1.length sh).getD t.toNat 0) | d=>d)]=(rs++[(m.2.getD ((J1 m.1.length sh).idxOf k) []).map fun t=>(J1 m.1.length sh).getD t 0]).map rD:=by
   rw [aX,List.map_singleton,Q0o wf hi];rfl
  show C4 _ _ _ _ [_,_,_,_,_,some (Sl.own (rs.map rD++[D.tup (((B6.map (B2 m.2 ((J1 m.1.length sh).idxOf k))).map iD).map fun d=>match d with | .int t=>iD ((J1 m.1.length sh).getD t.toNat 0) | d=>d)])),_]
  rw [e]
  refine Y0t wf h2 hn sh l _ _ (fun x hx=>hk x (av _ hx)) (by simp;omega) fun o6=>?_
  rw [bz]
  exact h o6
theorem W5g:∀rs r,rs.length=2->Q8r rs r->Z5g (T0 r) (F6 Q5a rs):=by
 rintro rs r _ ⟨m,sh,rfl,wf,h2,hn,rfl⟩
 have en:(m.1.length:Int)-1=((m.1.length-1:Nat):Int):=by omega
 have e1:J4 0 ((m.1.length-1:Nat):Int).toNat=(List.range (m.1.length-1)).map iD:=by simp [J4]
 have e2:J4 0 (m.1.length:Int).toNat=(List.range m.1.length).map iD:=by simp [J4]
 unfold Z5g
 simp only [L5,P8,K9,D8,E2,C3,F8,D4,s_lst,E9,V1,Q8l,S9,Q1z,X6,s_tup]
 refine⟨_,rfl,F9 (i:=0) rfl ?_⟩
 rw [Q1s,ag,T2]
 refine⟨_,rfl,sz (by simp),_,rfl,?_⟩
 show J8 _ _ (R.st (.int _)) _ _
 rw [Q5z,en]
 refine⟨trivial,_,rfl,by omega,by omega,?_⟩
 rw [e1]
 refine⟨sz (by simp;omega),?_⟩
 refine Y8 (f:=fun d=>match d with | .int k=>iD (1+(k.toNat+sh) % (m.1.length-1)) | d=>d) _ _ _ (fun d hd Q' q=>?_) ?_
 ·obtain⟨k,_,rfl⟩:=am.mp hd
  simp only [E9,E2,C3,F8]
  refine⟨_,rfl,_,rfl,?_⟩
  show F2 (R.st (.int _)) (R.st (.int _)) _
  rw [Q0l]
  refine⟨_,rfl,?_⟩
  show J8 _ _ (R.st (.int _)) _ _
  rw [Q5z,en]
  refine⟨trivial,?_⟩
  rw [Q5z]
  refine⟨by omega,?_⟩
  rw [Q0l]
  have e:(1:Int)+((k:Int)+(sh:Int)) % ((m.1.length-1:Nat):Int)=((1+(k+sh) % (m.1.length-1):Nat):Int):=by push_cast;rfl
  rw [e];exact q
 rw [W1k]
 have eo:[D.int 0]++((List.range (m.1.length-1)).map iD).map (fun d=>match d with | .int k=>iD (1+(k.toNat+sh) % (m.1.length-1)) | d=>d)=(J1 m.1.length sh).map iD:=by
  rw [aK];unfold J1;rw [ak,aK];rfl
 refine⟨sz (by simp;omega),?_⟩
 rw [show([D.int 0]++_:List D)=_ from eo]
 refine⟨_,rfl,?_⟩
 refine⟨_,rfl,by omega,by omega,?_⟩
 rw [e2]
 refine⟨sz (by simp;omega),?_⟩
 refine Y8 (f:=fun d=>match d with | .int k=>.bl (m.1.getD ((J1 m.1.length sh).idxOf k.toNat) false) | d=>d) _ _ _ (fun d hd Q' q=>?_) ?_
 ·obtain⟨k,hk,rfl⟩:=am.mp hd
  have hk:=aY.mp hk
  simp only [E9,E2,C3,F8]
  refine⟨_,rfl,F9 (i:=0) rfl ?_⟩
  refine lidx (Q8d h2 sh k hk) (by rw [Q2x h2];omega) rfl rfl ?_
  refine F9 (i:=(J1 m.1.length sh).idxOf k) (Q3o (Q2m h2 hk)) ?_
  exact q
 rw [Z7]
 refine⟨_,rfl,?_⟩
 rw [T2]
 refine⟨_,rfl,sz (by simp),?_⟩
 rw [W5]
 refine⟨_,rfl,_,rfl,by omega,by omega,?_⟩
 rw [e2]
 refine Y0t wf h2 hn sh (List.range m.1.length) [] none (fun k hk=>aY.mp hk) (by simp;omega) fun o6=>?_
 refine⟨_,rfl,_,rfl,?_⟩
 simp only [V0,Z7]
 refine⟨_,rfl,_,rfl,sz (by simp),?_⟩
 show R.st _=R.st _
 have e3:((List.range m.1.length).map iD).map (fun d=>match d with | .int k=>D.bl (m.1.getD ((J1 m.1.length sh).idxOf k.toNat) false) | d=>d)=(W4 m sh).1.map .bl:=by
  unfold W4;rw [aK,aK];rfl
 rw [bM,e3]
 rfl
noncomputable def Q8p:D6:=fun rs r=>∃(m:E1) (s:Nat),rs=[.st (mD m),.st (iD s)]/\F7 m/\s<m.1.length/\m.1.length<=900/\r=.st (mD (Q5 m s))
def wDR:WS:=(S5 3 (A9 (C7 O4 (A2 (M0 2 [2,1] (Q2o (A2 (wV 4) A4)) (N7 2 (E6 (B0 0) (E6 (B0 1) O2))) P9 (A9 (A3 B4 (M3 (A2 (A9 (wV 1)) (A2 (A9 (wV 2)) A4))) (C7 Q1o (A2 (Q6m (wB (A3 (K2 60 false) (wV 1) (wV 3))) (wB (A3 (K2 60 false) (A3 (J8 (fun _ j=>0<j) fun i j=>i % j) (wV 0) (wC (.int 2))) (wC (.int 0))))) A4))))) A4))))
theorem W3r {x y n s:Nat}{Q:R->Prop} (q:Q (.st (iD (if x=s/\y % 2=0 then n else x)))) :
  (A3 B4 (M3 (A2 (A9 (wV 1)) (A2 (A9 (wV 2)) A4))) (C7 Q1o (A2 (Q6m (wB (A3 (K2 60 false) (wV 1) (wV 3))) (wB (A3 (K2 60 false) (A3 (J8 (fun _ j=>0<j) fun i j=>i % j) (wV 0) (wC (.int 2))) (wC (.int 0))))) A4)))
   [some (.dat (iD y)),some (.dat (iD x)),some (.dat (iD n)),some (.dat (iD s))] Q:=by
 have l2:(2:Nat)<=sizeLine:=by decide
 simp only [E2,s_lst,D8,E9,C3,D4,K9,W5u,s_b,F8]
 refine⟨_,rfl,_,rfl,_,rfl,l2,_,rfl,_,rfl,_,_,rfl,rfl,by simp [D.depth],?_⟩
 have fin:∀k:Bool,iD (if x=s/\y % 2=0 then n else x)=(if k then iD n else iD x)->TK.Q1o [R.st (D.bl k)] fun y=>B4 (R.nw [iD x,iD n]) y Q:=fun k e=>by
  show B4 (R.nw [iD x,iD n]) (R.st (D.int (if k then 1 else 0))) Q
  rw [e]at q
  cases k
  ·exact⟨_,rfl,q⟩
  ·exact⟨_,rfl,q⟩
 have e1:D.eq (iD x) (iD s)=decide (x=s):=by
  show((x:Int)==(s:Int))=_
  by_cases h:x=s
  ·subst h;simp
  ·rw [aM h];exact bv.mpr (by omega)
 show(if D.eq (iD x) (iD s)=true then _ else _)
 rw [e1]
 by_cases h:x=s
 ·rw [aE (by simpa using h)]
  refine⟨_,rfl,?_⟩
  show J8 _ _ (R.st (.int _)) _ _
  rw [Q5z]
  refine⟨by decide,_,_,rfl,rfl,by simp [D.depth],?_⟩
  refine fin _ ?_
  show _=if ((y:Int) % 2==0)=true then _ else _
  by_cases h2:y % 2=0
  ·have:((y:Int) % 2==0)=true:=by rw [beq_iff_eq];omega
   rw [aE ⟨h,h2⟩,aE this]
  ·have:¬ ((y:Int) % 2==0)=true:=by rw [beq_iff_eq];omega
   rw [aC (fun q=>h2 q.2),aC this]
 ·rw [aC (by simpa using h)]
  exact fin false (by rw [aC (fun q=>h q.1)];rfl)
theorem Z7y {n s:Nat}{E:F4}{o0:Option Sl}:∀(l rs:List (List Nat)) (o4:Option Sl),(∀r∈l,r.length<=4)->rs.length+l.length<=1000 ->
  (∀o4,E.nx [o0,some (.dat (iD s)),some (.dat (iD n)),some (.own ((rs++l.map (dbl n s)).map rD)),o4]) ->
  C4 (B0 4) wDR E (l.map rD) [o0,some (.dat (iD s)),some (.dat (iD n)),some (.own (rs.map rD)),o4]
 | [],rs,o4,_,_,h=>by simpa [C4]using h o4
 | r::l,rs,o4,h4,hz,h=>by
  rw [aA]at hz
  have hr:=h4 r ao
  rw [ak,C4]
  simp only [wDR,L9,Q1u,E9,K9,D8,V1,Z3j,C3,D4]
  refine⟨_,rfl,_,rfl,_,_,rfl,rfl,sz (by simp [G1];omega),?_⟩
  have ee:G1 (r.map iD)=(r.zipIdx.map fun p=>(iD p.2,iD p.1)).map fun p=>.tup [p.1,p.2]:=by
   unfold G1
   rw [iE,aK,aK];rfl
  rw [ee]
  refine Z1c (f:=fun a b=>match a,b with | .int y,.int x=>iD (if x.toNat=s/\y.toNat % 2=0 then n else x.toNat) | a,_=>a) _ none none _ (fun p hp Q' q=>?_) ?_
  ·obtain⟨t,_,rfl⟩:=am.mp hp
   rw [E9]
   exact W3r q
  rw [Z7]
  refine⟨_,rfl,_,rfl,szl (by simp;omega),?_⟩
  have e:rs.map rD++[D.tup ((r.zipIdx.map fun p=>(iD p.2,iD p.1)).map fun p=>match p.1,p.2 with | .int y,.int x=>iD (if x.toNat=s/\y.toNat % 2=0 then n else x.toNat) | a,_=>a)]=(rs++[dbl n s r]).map rD:=by
   rw [aX,List.map_singleton,aK]
   unfold dbl rD
   rw [aK];rfl
  show C4 _ _ _ _ [_,_,_,some (Sl.own (rs.map rD++[D.tup ((r.zipIdx.map fun p=>(iD p.2,iD p.1)).map fun p=>match p.1,p.2 with | .int y,.int x=>iD (if x.toNat=s/\y.toNat % 2=0 then n else x.toNat) | a,_=>a)])),_]
  rw [e]
  refine Z7y l _ _ (fun x hx=>h4 x (av _ hx)) (by simp;omega) fun o4=>?_
  rw [bz]
  exact h o4
theorem W4y:∀rs r,rs.length=2->Q8p rs r->Z5c (T0 r) (F6 Z0e rs):=by
 rintro rs r _ ⟨m,s,rfl,wf,hs,hn,rfl⟩
 have jg:(m.2.map rD)[s]?=some (rD (m.2.getD s [])):=by rw [ai,Wf.rowEq wf hs,Q0o wf hs];rfl
 unfold Z5c
 simp only [L5,P8,K9,D8,E2,C3,F8,D4,s_lst,E9,S9,Y2g,X6,s_tup]
 refine⟨_,rfl,F9 (i:=0) rfl ?_⟩
 rw [Q1s,ag,T2]
 refine⟨_,rfl,sz (by simp),?_⟩
 rw [W5]
 refine⟨_,rfl,F9 (i:=1) rfl ⟨_,rfl,F9 (i:=1) rfl ⟨_,rfl,F9 (i:=s) jg ?_⟩⟩⟩
 refine⟨_,rfl,sz (by simp),?_⟩
 rw [Y0w]
 refine⟨sz (by simp [wf.len];omega),_,rfl,?_⟩
 have e:m.2.map rD++[rD (m.2.getD s [])]=(m.2++[m.2.getD s []]).map rD:=by simp
 rw [show(m.2.map rD++[rD (m.2.getD s [])]:List D)=_ from e]
 refine Z7y (n:=m.1.length) (m.2++[m.2.getD s []]) [] none (fun r hr=>?_) (by simp [wf.len];omega) fun o4=>?_
 ·rcases aR.mp hr with h | h
  ·exact eE (wf.r4 r h)
  ·rw [aN.mp h,Q0o wf hs];exact ah _
 simp only [X6,s_tup,D8,E9,E2,C3,F8,D4,K9]
 refine⟨_,rfl,F9 (i:=0) rfl ⟨_,rfl,F9 (i:=0) rfl ⟨_,rfl,F9 (i:=s) (Q3o hs) ?_⟩⟩⟩
 refine⟨_,rfl,sz (by simp),?_⟩
 rw [Y0w]
 refine⟨sz (by simp;omega),_,rfl,?_⟩
 simp only [V0,Z7]
 refine⟨_,rfl,_,rfl,sz (by simp),?_⟩
 show R.st _=R.st _
 have e3:m.1.map D.bl++[D.bl (m.1.getD s false)]=(Q5 m s).1.map .bl:=by simp [Q5]
 rw [bM,show(m.1.map D.bl++[D.bl (m.1.getD s false)]:List D)=_ from e3]
 rfl
noncomputable def Q6g:O8:=fun rs Pr=>∃ns:List Int,rs=[.st (scr ns)]/\ns.length<=63/\Pr (.st (.bl true))
theorem Y0k {m1 m2:E1} (w1:F7 m1) (w2:F7 m2) (h:∀w,C8 w->R5 m1 w=R5 m2 w) {Q:List D->Prop}:∀(ws:List (List Nat)) (o:Option Sl),(∀w∈ws,C8 w/\w.length<=100000)->Q [] ->
  K7 (B0 0) (A3 (K2 59 true) (O5 Q6e (A2 (wV 1) (A2 (wV 0) A4))) (O5 Q3c (A2 (wV 2) (A2 (wV 0) A4)))) (A9 (wV 0)) (ws.map tD) [o,some (.dat (mD m1)),some (.dat (mD m2))] Q
 | [],_,_,q=>q
 | w::ws,o,hw,q=>by
  obtain⟨a,b⟩:=hw w ao
  rw [ak,K7]
  simp only [L9,E2,Y4,D8,C3,D4]
  refine⟨_,rfl,_,rfl,rfl,_,⟨m1,w,rfl,w1,a,b,rfl⟩,_,rfl,_,rfl,rfl,_,⟨m2,w,rfl,w2,a,rfl⟩,?_⟩
  rw [Q0m]
  refine⟨_,_,rfl,rfl,bb _,?_⟩
  rw [h w a,D.eq_refl,aE rfl,aC (by decide)]
  exact Y0k w1 w2 h ws _ (fun w hm=>hw w (av _ hm)) q
theorem W9f:∀w∈Q9v 4,w.length<=4:=by decide +kernel
def wB2:WS:=(B7 (C5 5 (W8 Q4k (A2 (wV 4) A4))) (V3 (wOr (A3 (K2 59 true) (W8 sp_least_of (A2 (wV 4) A4)) (wV 2)) (wOr (Q3i (Q4u (Q9m "bool" (wV 5)))) (A3 (K2 59 true) (wV 5) (wB (A3 (K2 60 false) (wV 4) (wV 2)))))) (O6 (wC (.bl false))) V4))
theorem Y1c {L:E1}{E:F4}{o0 o1 o3:Option Sl}:∀(ms:List E1) (o4 o5:Option Sl),(∀m∈ms,F7 m/\m.1.length<=1000/\E8 m.1 m.2=L) ->
  (∀o4 o5,E.nx [o0,o1,some (.dat (mD L)),o3,o4,o5])->C4 (B0 4) wB2 E (ms.map mD) [o0,o1,some (.dat (mD L)),o3,o4,o5]
 | [],o4,o5,_,h=>h o4 o5
 | m::ms,o4,o5,hm,h=>by
  obtain⟨wf,hl,e⟩:=hm m ao
  rw [ak,C4]
  simp only [wB2,L9,L5,P8,Q1v,D8,C3,D4]
  refine⟨_,rfl,rfl,m,rfl,wf,by omega,?_⟩
  dsimp only
  rw [T2]
  simp only [Q2a,s_or,E2,Q1v,D8,C3,D4,Z3l,Z3m,W6g,s_b]
  refine⟨_,rfl,rfl,m,rfl,wf,by omega,_,rfl,?_⟩
  rw [e,Q0m]
  refine⟨_,_,rfl,rfl,Z1f L,?_⟩
  rw [D.eq_refl,aE rfl,aC (by decide)]
  refine⟨_,rfl,_,rfl,?_⟩
  rw [Z2u]
  rw [show Q3v "bool" _=true from rfl,aC (by decide)]
  refine⟨_,rfl,_,rfl,_,rfl,_,_,rfl,rfl,aT (Z1f m) (by decide),_,_,rfl,rfl,bb _,?_⟩
  have ei:isL m=D.eq (mD m) (mD L):=by unfold isL;rw [e];exact Z8e _ _
  dsimp only
  rw [ei,show(if false=true then !D.eq (mD m) (mD L)else D.eq (mD m) (mD L))=D.eq (mD m) (mD L)from rfl,D.eq_refl,aE rfl,aC (by decide)]
  exact Y1c ms _ _ (fun m ko=>hm m (av _ ko)) h
def Y4p:WS:=(B7 (L6 (Q0f (A9 (A3 Q2i (wV 3) (M3 (A2 (A9 (wV 1)) A4))))) (B0 4) wB2) (O6 (wC (.bl true))))
theorem tail {m L:E1}{Pr:R->Prop}{o0 o4 o5:Option Sl} (ms:List E1) (hl:ms.length<=10) (hm:∀x∈ms++[m],F7 x/\x.1.length<=1000/\E8 x.1 x.2=L) (h:Pr (.st (.bl true))) :
  Y4p (Y5 Pr) [o0,some (.dat (mD m)),some (.dat (mD L)),some (.own (ms.map mD)),o4,o5]:=by
 simp only [Y4p,L5,S9,Q6d,E9,E2,C3,s_lst,D8,D4]
 refine⟨_,rfl,_,rfl,_,rfl,sz (by simp),_,_,rfl,rfl,sz (by simp;omega),_,rfl,?_⟩
 have e:ms.map mD++[mD m]=(ms++[m]).map mD:=by simp
 rw [show(ms.map mD++[mD m]:List D)=_ from e]
 exact Y1c (ms++[m]) _ _ hm fun o4 o5=>h
theorem W5b:∀rs Pr,rs.length=1->Q6g rs Pr->Z5a Q8q sp_least_of MC.Q4j Q8t Q6e Q3c Q8p Q3d Q8r Q4k (Y5 Pr) (F6 Z0d rs):=by
 rintro rs Pr _ ⟨ns,rfl,hn,h⟩
 have w1:F7 (E3 ns 0 6):=W0g ns 0 (by decide)
 have l1:=W0f ns 0 (most:=6) (by decide)
 have L:=Q7s w1
 have ll:=Z9h w1
 unfold Z5a
 simp only [L5,P8,Y4,Q1v,D8,C3,F8,D4]
 refine⟨_,rfl,rfl,_,⟨ns,0,6,rfl,hn,by decide,by decide,rfl⟩,?_⟩
 rw [T2]
 refine⟨_,rfl,rfl,_,rfl,w1,by omega,?_⟩
 dsimp only
 rw [T2]
 simp only [Q2a,s_or,Z3l,Z3m,Y4,D8,C3,D4,E2,K9,F8]
 refine⟨_,rfl,rfl,_,⟨_,rfl,L,by omega,rfl⟩,?_⟩
 rw [Z2u,aC (by decide)]
 refine⟨_,rfl,F9 (i:=0) rfl ?_⟩
 rw [Q1s,ag]
 refine⟨_,rfl,F9 (i:=0) rfl ?_⟩
 rw [Q1s,ag]
 rw [Q1a,aM (by omega),aC (by decide)]
 simp only [Q3a,L5,Q2a,E2,V1,Q8k,Y4,D8,F8,D4,s_lst]
 refine⟨rfl,_,⟨4,rfl,by decide,rfl⟩,_,rfl,sz (by decide +kernel),?_⟩
 refine Y0k L.wf w1 (fun w hw=>Q4a w1 hw) (Q9v 4) none (fun w hw=>⟨W9g hw,aT (W9f w hw) (by decide)⟩) ?_
 refine⟨_,rfl,sz (by simp),?_⟩
 rw [Q0m]
 refine⟨_,_,rfl,rfl,by decide,?_⟩
 rw [D.eq_refl,aE rfl,aC (by decide)]
 simp only [Q3a,L5,P8,s_lst,D8,E9,Y4,C3,F8,K9,E2,D4]
 refine⟨_,rfl,_,rfl,_,rfl,F9 (i:=0) rfl ?_⟩
 rw [Q1s,ag]
 have hp:=w1.pos
 refine⟨rfl,_,⟨ns,60,_,rfl,hn,by omega,rfl⟩,?_⟩
 rw [Q5h ns _ hp]
 have hd:=Q7k ns 60 hp
 refine⟨rfl,_,⟨_,_,rfl,w1,hd,by omega,rfl⟩,_,rfl,_,rfl,sz (by simp),?_⟩
 rw [W5]
 simp only [Q2a,E2,K9,D8,C3,F8,D4]
 refine⟨_,rfl,F9 (i:=0) rfl ?_⟩
 rw [Q1s,ag,Q1a]
 have g1:F7 (Q5 (E3 ns 0 6) (Q6 ns 60 (E3 ns 0 6).1.length))/\(Q5 (E3 ns 0 6) (Q6 ns 60 (E3 ns 0 6).1.length)).1.length<=1000/\E8 (Q5 (E3 ns 0 6) (Q6 ns 60 (E3 ns 0 6).1.length)).1 (Q5 (E3 ns 0 6) (Q6 ns 60 (E3 ns 0 6).1.length)).2=E8 (E3 ns 0 6).1 (E3 ns 0 6).2:=by
  have w:=Z7z w1 hd
  refine⟨w,by rw [Q7j];omega,(Q7s w).eq L fun u hu=>?_⟩
  rw [Q4a w hu,Q4a w1 hu];exact Y7k w1 hd u hu
 have g2:F7 (E8 (E3 ns 0 6).1 (E3 ns 0 6).2)/\(E8 (E3 ns 0 6).1 (E3 ns 0 6).2).1.length<=1000/\E8 (E8 (E3 ns 0 6).1 (E3 ns 0 6).2).1 (E8 (E3 ns 0 6).1 (E3 ns 0 6).2).2=E8 (E3 ns 0 6).1 (E3 ns 0 6).2 :=
  ⟨L.wf,by omega,Y9o L⟩
 have g3:F7 (E3 ns 0 6)/\(E3 ns 0 6).1.length<=1000/\E8 (E3 ns 0 6).1 (E3 ns 0 6).2=E8 (E3 ns 0 6).1 (E3 ns 0 6).2:=⟨w1,by omega,rfl⟩
 by_cases h2:2<=(E3 ns 0 6).1.length
 ·rw [cu (by omega),aE rfl]
  simp only [Q1u,E9,Y4,D8,C3,F8,D4]
  refine⟨_,rfl,_,rfl,_,rfl,rfl,_,⟨ns,61,6,rfl,hn,by decide,rfl⟩,?_⟩
  rw [show V9 ns 61 6=(Q6 ns 61 6:Int)from Q5h ns 61 (m:=6) (by decide)]
  refine⟨rfl,_,⟨_,_,rfl,w1,h2,by omega,rfl⟩,_,rfl,szl (by simp),?_⟩
  refine tail [Q5 (E3 ns 0 6) (Q6 ns 60 (E3 ns 0 6).1.length),E8 (E3 ns 0 6).1 (E3 ns 0 6).2,W4 (E3 ns 0 6) (Q6 ns 61 6)] (by simp) (fun x hx=>?_) h
  simp only [List.cons_append,bM,aj,aL,br]at hx
  rcases hx with rfl | rfl | rfl | rfl
  ·exact g1
  ·exact g2
  ·have w:=Y0m w1 h2 (Q6 ns 61 6)
   refine⟨w,by simp [W4];omega,(Q7s w).eq L fun u hu=>?_⟩
   rw [Q4a w hu,Q4a w1 hu];exact W1e w1 h2 _ u hu
  ·exact g3
 ·rw [aM (by omega),aC (by decide)]
  rw [Q3a]
  refine tail [Q5 (E3 ns 0 6) (Q6 ns 60 (E3 ns 0 6).1.length),E8 (E3 ns 0 6).1 (E3 ns 0 6).2] (by simp) (fun x hx=>?_) h
  simp only [List.cons_append,bM,aj,aL,br]at hx
  rcases hx with rfl | rfl | rfl
  ·exact g1
  ·exact g2
  ·exact g3
local macro_rules | `(tactic| trivial)=>`(tactic| first | exact Or.inl rfl | exact Or.inr rfl)
def R0 (i:Nat):Stmt:=PySem.Challenge.pw_textkinds_k12_least.main.body.getD i (.Pass ⟨0,0,0,0⟩)
structure Txt (K:Fg9) (mg:Str->Option Value) (w:World):Prop where
 m_bool:mg "bool"=none
 m_enumerate:mg "enumerate"=none
 m_int:mg "int"=none
 m_isinstance:mg "isinstance"=none
 m_len:mg "len"=none
 m_list:mg "list"=none
 m_max:mg "max"=none
 m_range:mg "range"=none
 m_tuple:mg "tuple"=none
 m_zip:mg "zip"=none
 c_SIGNS:∃t,mg "SIGNS"=some (.str "01ab" t)
theorem Y6c:bootBuiltins "bool"=some (.type "bool"):=by decide +kernel
theorem Q5e:bootBuiltins "enumerate"=some (.type "enumerate"):=by decide +kernel
theorem Y6d:bootBuiltins "int"=some (.type "int"):=by decide +kernel
theorem Y6e:bootBuiltins "isinstance"=some (.builtin "isinstance"):=by decide +kernel
theorem Z0u:bootBuiltins "list"=some (.type "list"):=by decide +kernel
theorem Z6x:bootBuiltins "max"=some (.builtin "max"):=by decide +kernel
theorem Z0v:bootBuiltins "zip"=some (.type "zip"):=by decide +kernel
abbrev Z3x:Stmt:=R0 2
abbrev Q8u:Stmt:=R0 4
abbrev Q4l:Stmt:=R0 5
abbrev Q8y:Stmt:=R0 6
abbrev Q8z:Stmt:=R0 7
abbrev Q6i:Stmt:=R0 8
abbrev Z3v:Stmt:=R0 11
abbrev Z3w:Stmt:=R0 3
abbrev Z3p:Stmt:=R0 10
abbrev Z3q:Stmt:=R0 12
abbrev Z3s:Stmt:=R0 14
abbrev Z3t:Stmt:=R0 15
abbrev Q8x:Stmt:=R0 17
abbrev Q6h:Stmt:=R0 18
abbrev Z3u:Stmt:=R0 19
abbrev Z3r:Stmt:=R0 20
abbrev Q3g:Stmt:=R0 21
abbrev Q4m:Stmt:=R0 22
abbrev Q8w:Stmt:=R0 23
abbrev Q8v:Stmt:=R0 24
structure Env (P:Program) (w:World) (K:Fg9) (mg:Str->Option Value) (base:Heap) (ts:List Addr) (ad:Nat->Addr) (fn:Nat->FuncData):Prop where
 T:Txt K mg w
 hBM:Q0q mg base
 D_walked:Df K mg "walked" Z3x ["start","step"] (ad 0) (fn 0)
 D_all_reached:Df K mg "all_reached" Q8u ["some","onward"] (ad 1) (fn 1)
 D_distances:Df K mg "distances" Q4l ["ends","rows","wanted"] (ad 2) (fn 2)
 D_numbered:Df K mg "numbered" Q8y ["marks"] (ad 3) (fn 3)
 D_told_apart:Df K mg "told_apart" Q8z ["ends","rows"] (ad 4) (fn 4)
 D_least:Df K mg "least" Q6i ["ends","rows"] (ad 5) (fn 5)
 D_least_of:Df K mg "least_of" Z3v ["machine"] (ad 6) (fn 6)
 D_states_along:DfO K mg "states_along" Z3w ["rows","text","start"] 0 (ad 7) (fn 7)
 D_accepts:Df K mg "accepts" Z3p ["machine","text"] (ad 8) (fn 8)
 D_is_least:Df K mg "is_least" Z3q ["machine"] (ad 9) (fn 9)
 D_law_cell:Df K mg "_law_cell" Z3s ["_law_script","_law_k"] (ad 10) (fn 10)
 D_law_drawn:Df K mg "_law_drawn" Z3t ["_law_script","_law_k","_law_many"] (ad 11) (fn 11)
 D_law_texts:Df K mg "_law_texts" Q8x ["_law_long"] (ad 12) (fn 12)
 D_law_machine:Df K mg "_law_machine" Q6h ["_law_script","_law_at","_law_most"] (ad 13) (fn 13)
 D_law_state:Df K mg "_law_state" Z3u ["_law_machine_told","_law_state_here","_law_text_here"] (ad 14) (fn 14)
 D_law_accepts:Df K mg "_law_accepts" Z3r ["_law_machine_told","_law_text_here"] (ad 15) (fn 15)
 D_law_is_least:Df K mg "_law_is_least" Q3g ["_law_told"] (ad 16) (fn 16)
 D_law_numbered:Df K mg "_law_numbered" Q4m ["_law_told","_law_shift"] (ad 17) (fn 17)
 D_law_doubled:Df K mg "_law_doubled" Q8w ["_law_told","_law_state_here"] (ad 18) (fn 18)
 D_law:Df K mg "law" Q8v ["_law_script"] (ad 19) (fn 19)
 C_least:∃c Pt,Q4v K "least" "least" Q6i (ad 5) (fn 5) c Pt/\Pt∈ts
section
variable {P:Program}{w:World}{K:Fg9}{mg:Str->Option Value}{base:Heap}{ts:List Addr}{ad:Nat->Addr}{fn:Nat->FuncData} (Z:Env P w K mg base ts ad fn)
include Z
omit Z in
theorem Y3i:J5 MC.Y5n ["start","step"] (C1 Z3x):=Q9 (by decide +kernel)
theorem Y5m:FnD P w K mg base 3 (ad 0) (fn 0) ["start","step"] (sp_walkedK (FnC P w K mg base 2)):=by
 have nd:=Y3i.nd
 refine Z.D_walked.ok Y3i (ws:=MC.Z5o (FnC P w K mg base 2) ) (fun cdv A outer s H E hr=>?_) MC.W5l
 exact(A6.cons (DS.sv 2 (DE.lst (DA.one (DE.fz (DE.v 0)))) nd) (A6.cons (DS.knew1 (i:=3) (DE.v 0) DE.int nd rfl (by trivial)) (A6.cons (DS.sv 4 (DE.lst DA.nil) nd) (A6.cons (DS.fzO 2 (DS.whl aW (DT.cmp Z0x Q3q (DE.len Z.T.m_len (DE.v 4)) (DE.len Z.T.m_len (DE.v 2)) (Q2 _)) (A6.cons (DS.sv 5 (DE.ix (DE.v 2) (DE.len Z.T.m_len (DE.v 4)) (fun _ _=>rfl)) nd) (A6.cons (DS.sv 6 (DE.lst DA.nil) nd) (A6.cons (DS.for aW rfl (DI.rng1 rfl Z.T.m_range (DA.one (DE.len Z.T.m_len (DE.gstr rfl Z.T.c_SIGNS)))) (DG.nm (i:=7) nd rfl (by trivial)) (A6.cons (DS.sv 8 (DE.callC (k:=2) (hr.mono (by decide)) (pv 1) (DA.cons (DE.v 5) (DA.one (DE.v 7)))) nd) (A6.cons (DS.ife (DT.knotin (C9.hu1 hr) (DE.v 8) (pv 3)) (A6.cons (DS.kput (C9.hu1 hr) (pv 3) (DE.v 8) (DE.len Z.T.m_len (DE.v 2))) (A6.one (DS.append (pv 2) (DE.fz (DE.v 8))))) A6.nil) (A6.one (DS.append (pv 6) (DE.fz (DE.kget (C9.hu1 hr) (pv 3) (DE.v 8) (fun _ _=>rfl)))))))) (A6.one (DS.append (pv 4) (DE.fz (DE.tpl Z.T.m_tuple (DE.v 6)))))))))) (A6.one (DS.ret (DE.tup (DA.cons (DE.fz (DE.v 2)) (DA.one (DE.fz (DE.tpl Z.T.m_tuple (DE.v 4))))))))))))
omit Z in
theorem Y2q:J5 MC.Z0c ["some","onward"] (C1 Q8u):=Q9 (by decide +kernel)
theorem Y4y:FnT P w K mg base ts 1 (ad 1) (fn 1) ["some","onward"] (sp_all_reached K):=by
 have nd:=Y2q.nd
 refine Fun.okP Z.D_all_reached.F Y2q (ws:=MC.Z4x  K ) (fun cdv A outer s H E hT hr=>?_) MC.W4u
 exact(A6.cons (DS.setKC (i:=2) rfl (Q4 (sc:=C1 Q8u) (N0:=MC.Z0c) (N:=["state"]) (nt:=1) (cap:=[]) rfl rfl (by decide +kernel)) (E5.lst (DE.v 0)) (fun _ _ _ _=>(DG.nm (i:=0) (show List.Nodup (["state"]:List Str)by decide +kernel) rfl (by trivial))) (fun _ _ _ _=>(DE.v 0)) (fun _ _ _ _=>(DE.fz DE.int)) nd rfl (by trivial)) (A6.cons (DS.sv 3 (DE.callTy (Y6k rfl) Y9y rfl Z.T.m_list Z0u (DA.one (DE.v 2))) nd) (A6.cons (DS.sv 4 DE.int nd) (A6.cons (DS.whl aW (DT.cmp Z0x Q3q (DE.v 4) (DE.len Z.T.m_len (DE.v 3)) (Q2 _)) (A6.cons (DS.sv 5 (DE.ix (DE.v 3) (DE.v 4) (fun _ _=>rfl)) nd) (A6.cons (DS.for aW rfl (DI.lst (DE.fz (DE.ix (DE.v 1) (DE.v 5) (fun _ _=>rfl)))) (DG.nm (i:=6) nd rfl (by trivial)) (A6.one (DS.ife (DT.knotin (C9.hu1 hr) (DE.v 6) (pv 2)) (A6.cons (DS.kput (C9.hu1 hr) (pv 2) (DE.v 6) (DE.op P7 P4 (DE.kget (C9.hu1 hr) (pv 2) (DE.v 5) (fun _ _=>rfl)) DE.int)) (A6.one (DS.append (pv 3) (DE.fz (DE.v 6))))) A6.nil))) (A6.one (DS.aug (i:=4) W1v U6 DE.int nd rfl (by trivial)))))) (A6.one (DS.retK (pv 2)))))))
omit Z in
theorem Y2r:J5 MC.Q4z ["ends","rows","wanted"] (C1 Q4l):=Q9 (by decide +kernel)
theorem Z5t:FnT P w K mg base ts 2 (ad 2) (fn 2) ["ends","rows","wanted"] sp_distances:=by
 have nd:=Y2r.nd
 refine Fun.okP Z.D_distances.F Y2r (ws:=MC.Z4y  K (sp_all_reached K)) (fun cdv A outer s H E hT hr=>?_) MC.W4x
 exact(A6.cons (DS.setLC (i:=3) rfl (Q4 (sc:=C1 Q4l) (N0:=MC.Q4z) (N:=["row"]) (nt:=1) (cap:=[]) rfl rfl (by decide +kernel)) (E5.tup (DE.v 1)) (fun _ _ _ _=>(DG.nm (i:=0) (show List.Nodup (["row"]:List Str)by decide +kernel) rfl (by trivial))) (fun _ _ _ _=>(DE.lst DA.nil)) nd rfl (by trivial)) (A6.cons (DS.fzL 3 (DS.for aW rfl (DI.enumX rfl Z.T.m_enumerate Q5e (DA.one (DE.v 1))) (DG.tp (n:=2) rfl (G0.cons (DG.nm (i:=4) nd rfl (by trivial)) (G0.cons (DG.nm (i:=5) nd rfl (by trivial)) G0.nil))) (A6.one (DS.for aW rfl (DI.tup (DE.v 5)) (DG.nm (i:=6) nd rfl (by trivial)) (A6.one (DS.llapp (pv 3) (DE.v 6) (DE.fz (DE.v 4)) (fun _ _=>rfl) ⟨rfl,rfl,rfl,rfl⟩)))))) (A6.cons (DS.setF (i:=7) (DE.clP (W0r) (Y4y Z) hr hT Z.D_all_reached (DA.cons (DE.comp rfl (Q4 (sc:=C1 Q4l) (N0:=MC.Q4z) (N:=["state","end","wanted"]) (nt:=2) (cap:=[2]) rfl rfl (by decide +kernel)) (E5.enumX rfl Z.T.m_enumerate Q5e (DA.one (DE.v 0))) (fun _ _ _ _=>(DG.tp (n:=2) rfl (G0.cons (DG.nm (i:=0) (show List.Nodup (["state","end","wanted"]:List Str)by decide +kernel) rfl (by trivial)) (G0.cons (DG.nm (i:=1) (show List.Nodup (["state","end","wanted"]:List Str)by decide +kernel) rfl (by trivial)) G0.nil)))) (fun _ _ _ _=>(N3.one (DT.cmp (Q1j (n:=60) (Q1n hr)) U5 (DE.v 1) (DE.v 2) (Q2 _)))) (fun _ _ _ _=>(DE.fz (DE.v 0)))) (DA.one (DE.v 3)))) nd rfl (by trivial)) (A6.one (DS.ret (DE.comp rfl (Q4 (sc:=C1 Q4l) (N0:=MC.Q4z) (N:=["state","reached"]) (nt:=1) (cap:=[7]) rfl rfl (by decide +kernel)) (E5.rng1 rfl Z.T.m_range (DA.one (DE.len Z.T.m_len (DE.v 0)))) (fun _ _ _ _=>(DG.nm (i:=0) (show List.Nodup (["state","reached"]:List Str)by decide +kernel) rfl (by trivial))) (fun _ _ _ _=>N3.nil) (fun _ _ _ _=>(DE.fz (DE.fget1 (C9.hu1 hr) (pv 1) (DE.v 0) ⟨rfl,rfl,rfl,rfl⟩)))))))))
omit Z in
theorem Y3f:J5 MC.Z0h ["marks"] (C1 Q8y):=Q9 (by decide +kernel)
theorem Z5u:FnD P w K mg base 1 (ad 3) (fn 3) ["marks"] sp_numbered:=by
 have nd:=Y3f.nd
 refine Z.D_numbered.ok Y3f (ws:=MC.Z5l  ) (fun cdv A outer s H E hr=>?_) MC.W5h
 exact(A6.numb rfl (by have:=hr.units;show _+9<cLine;exact Nat.lt_of_le_of_lt (Nat.add_le_add_left (by decide) _) this) (Q4 (sc:=C1 Q8y) (N0:=MC.Z0h) (N:=["mark","numbers"]) (nt:=1) (cap:=[1]) rfl rfl (by decide +kernel)) (E5.lst (DE.v 0)) (fun _ _ _ _=>Y1g (show List.Nodup (["mark","numbers"]:List Str)by decide +kernel) rfl (by trivial)) (fun _ _ _ _=>W3h (by have:=hr.units;show _+9<cLine;exact Nat.lt_of_le_of_lt (Nat.add_le_add_left (by decide) _) this) (pv 1) (pv 0) rfl Z.T.m_len (pv 1) ⟨rfl,rfl,rfl,rfl⟩) nd rfl (by trivial))
omit Z in
theorem Y3h:J5 MC.Z0i ["ends","rows"] (C1 Q8z):=Q9 (by decide +kernel)
theorem Y5l:FnT P w K mg base ts 3 (ad 4) (fn 4) ["ends","rows"] sp_told_apart:=by
 have nd:=Y3h.nd
 refine Fun.okP Z.D_told_apart.F Y3h (ws:=MC.Z5n  sp_numbered sp_distances) (fun cdv A outer s H E hT hr=>?_) MC.W5k
 exact(A6.cons (DS.sv 2 (DE.fz (DE.cl (Z5u Z) hr Z.D_numbered (DA.one (DE.listZip rfl rfl Z.T.m_list rfl Z.T.m_zip (DA.cons (DE.clP (Y0h) (Z5t Z) hr hT Z.D_distances (DA.cons (DE.v 0) (DA.cons (DE.v 1) (DA.one DE.bl)))) (DA.one (DE.clP (Y0h) (Z5t Z) hr hT Z.D_distances (DA.cons (DE.v 0) (DA.cons (DE.v 1) (DA.one DE.bl)))))))))) nd) (A6.cons (DS.sv 3 DE.int nd) (A6.cons (DS.whl aW (DT.cmp Y6u Q3q (DE.callB (Z7a rfl) Z9x rfl Z.T.m_max Z6x (DA.one (DE.v 2))) (DE.v 3) (Q2 _)) (A6.cons (DS.sv 3 (DE.op P7 P4 (DE.callB (Z7a rfl) Z9x rfl Z.T.m_max Z6x (DA.one (DE.v 2))) DE.int) nd) (A6.one (DS.sv 2 (DE.fz (DE.cl (Z5u Z) hr Z.D_numbered (DA.one (DE.comp rfl (Q4 (sc:=C1 Q8z) (N0:=MC.Z0i) (N:=["block","row","blocks"]) (nt:=2) (cap:=[2]) rfl rfl (by decide +kernel)) (E5.zipT rfl Z.T.m_zip Z0v (DA.cons (DE.v 2) (DA.one (DE.v 1)))) (fun _ _ _ _=>(DG.tp (n:=2) rfl (G0.cons (DG.nm (i:=0) (show List.Nodup (["block","row","blocks"]:List Str)by decide +kernel) rfl (by trivial)) (G0.cons (DG.nm (i:=1) (show List.Nodup (["block","row","blocks"]:List Str)by decide +kernel) rfl (by trivial)) G0.nil)))) (fun _ _ _ _=>N3.nil) (fun _ _ _ _=>(DE.fz (DE.tup (DA.cons (DE.fz (DE.v 0)) (DA.one (DE.fz (DE.tpl Z.T.m_tuple (DE.comp rfl (Q4 (N0:=["block","row","blocks"]) (N:=["goal","blocks"]) (nt:=1) (cap:=[2]) rfl rfl (by kernel_rfl)) (E5.tup (DE.v 1)) (fun _ _ _ _=>(DG.nm (i:=0) (show List.Nodup (["goal","blocks"]:List Str)by decide +kernel) rfl (by trivial))) (fun _ _ _ _=>N3.nil) (fun _ _ _ _=>(DE.fz (DE.ix (DE.v 1) (DE.v 0) (fun _ _=>rfl)))))))))))))))) nd)))) (A6.one (DS.retV (pv 2))))))
omit Z in
theorem Y3d:J5 MC.Z0g ["ends","rows"] (C1 Q6i):=Q9 (by decide +kernel)
theorem Y5j:FnT P w K mg base ts 4 (ad 5) (fn 5) ["ends","rows"] Q3e:=by
 obtain⟨c,Pt,C,qQ⟩:=Z.C_least
 have nd:=Y3d.nd
 refine Q4v.okP C Y3d (ws:=MC.Z5j (FnC P w K mg base 2) K sp_told_apart (sp_walkedK (FnC P w K mg base 2))) (fun A outer s H E hT hr=>?_) MC.W5c
 exact(A6.cons (DS.sv 2 (DE.fz (DE.clP (W0u) (Y5l Z) hr hT Z.D_told_apart (DA.cons (DE.v 0) (DA.one (DE.v 1))))) nd) (A6.cons (DS.knew (i:=3) nd rfl (by trivial)) (A6.cons (DS.fzK 3 (DS.for aW rfl (DI.enumF rfl Z.T.m_enumerate Q5e (DA.one (DE.v 2))) (DG.tp (n:=2) rfl (G0.cons (DG.nm (i:=4) nd rfl (by trivial)) (G0.cons (DG.nm (i:=5) nd rfl (by trivial)) G0.nil))) (A6.one (DS.ksetd (pv 3) (DE.v 5) (DE.v 4) ⟨rfl,rfl,rfl,rfl⟩)))) (A6.cons (DS.asg (DE.callW (kl:=1) (ps:=["block","column"]) (cs:=[("samples",3),("rows",1),("blocks",2)]) (clos:=[("samples",s.heap.objs.size+4),("rows",s.heap.objs.size+2),("blocks",s.heap.objs.size+3)]) (wb:=(MC.Q9u K)) (Y5m Z) (hr.mono (by decide)) rfl Z.D_walked.m Z.D_walked.k Z.D_walked.b (DE.ix (DE.v 2) DE.int (fun _ _=>rfl)) (hT _ qQ) Z.hBM rfl C.hd rfl rfl (cx.mpr ⟨rfl,cx.mpr ⟨rfl,cx.mpr ⟨rfl,fun _ h=>nomatch h⟩⟩⟩) (cx.mpr ⟨⟨rfl,rfl,rfl⟩,cx.mpr ⟨⟨rfl,rfl,rfl⟩,cx.mpr ⟨⟨rfl,rfl,rfl⟩,fun _ h=>nomatch h⟩⟩⟩) ⟨rfl,rfl,rfl,by decide +kernel,by decide +kernel,by decide +kernel,by decide +kernel,by decide +kernel⟩ (fun _ _ _ _ _ us hl=>match us,hl with | [_,_],_=>rfl) (fun caps f c' A outer s H q hn hr=>(DE.ix (DE.v 4) (DE.ix (DE.ix (DE.v 3) (DE.fget (C9.hu1 hr) (pv 2) (DE.v 0) (fun _ _=>rfl)) (fun _ _=>rfl)) (DE.v 1) (fun _ _=>rfl)) (fun _ _=>rfl)))) (DG.tp (n:=2) rfl (G0.cons (DG.nm (i:=6) nd rfl (by trivial)) (G0.cons (DG.nm (i:=7) nd rfl (by trivial)) G0.nil)))) (A6.one (DS.ret (DE.tup (DA.cons (DE.fz (DE.tpl Z.T.m_tuple (DE.comp rfl (Q4 (sc:=C1 Q6i) (N0:=MC.Z0g) (N:=["block","ends","samples"]) (nt:=1) (cap:=[0,3]) rfl rfl (by decide +kernel)) (E5.lst (DE.v 6)) (fun _ _ _ _=>(DG.nm (i:=0) (show List.Nodup (["block","ends","samples"]:List Str)by decide +kernel) rfl (by trivial))) (fun _ _ _ _=>N3.nil) (fun _ _ _ _=>(DE.fz (DE.ix (DE.v 1) (DE.fget (C9.hu1 hr) (pv 2) (DE.v 0) (fun _ _=>rfl)) (fun _ _=>rfl))))))) (DA.one (DE.fz (DE.v 7)))))))))))
omit Z in
theorem Y3e:J5 MC.Z6b ["machine"] (C1 Z3v):=Q9 (by decide +kernel)
theorem Q9z:FnT P w K mg base ts 5 (ad 6) (fn 6) ["machine"] sp_least_of:=by
 have nd:=Y3e.nd
 refine Fun.okP Z.D_least_of.F Y3e (ws:=MC.Z5k  Q3e) (fun cdv A outer s H E hT hr=>?_) MC.W5e
 exact(A6.cons (DS.asg (DE.v 0) (DG.tp (n:=2) rfl (G0.cons (DG.nm (i:=1) nd rfl (by trivial)) (G0.cons (DG.nm (i:=2) nd rfl (by trivial)) G0.nil)))) (A6.one (DS.ret (DE.clP (W0s) (Y5j Z) hr hT Z.D_least (DA.cons (DE.v 1) (DA.one (DE.v 2)))))))
omit Z in
theorem Y3g:J5 MC.Z6c ["rows","text","start"] (C1 Z3w):=Q9 (by decide +kernel)
theorem Y5k:FnD P w K mg base 1 (ad 7) (fn 7) ["rows","text","start"] Q8o:=by
 have nd:=Y3g.nd
 refine Z.D_states_along.ok Y3g (ws:=MC.Z5m  ) (fun cdv A outer s H E hr=>?_) MC.W4v
 exact(A6.cons (DS.sv 3 (DE.lst (DA.one (DE.fz (DE.v 2)))) nd) (A6.cons (DS.for aW rfl (DI.str (DE.v 1)) (DG.nm (i:=4) nd rfl (by trivial)) (A6.one (DS.append (pv 3) (DE.fz (DE.ix (DE.ix (DE.v 0) (DE.ix (DE.v 3) (DE.neg DE.int) (fun _ _=>rfl)) (fun _ _=>rfl)) (DE.index (DE.gstr rfl Z.T.c_SIGNS) (DE.v 4)) (fun _ _=>rfl)))))) (A6.one (DS.retV (pv 3)))))
omit Z in
theorem Y2p:J5 MC.Z5v ["machine","text"] (C1 Z3p):=Q9 (by decide +kernel)
theorem Y4x:FnD P w K mg base 2 (ad 8) (fn 8) ["machine","text"] Q6e:=by
 have nd:=Y2p.nd
 refine Z.D_accepts.ok Y2p (ws:=MC.Z4w  Q8o) (fun cdv A outer s H E hr=>?_) MC.W4s
 exact(A6.cons (DS.asg (DE.v 0) (DG.tp (n:=2) rfl (G0.cons (DG.nm (i:=2) nd rfl (by trivial)) (G0.cons (DG.nm (i:=3) nd rfl (by trivial)) G0.nil)))) (A6.one (DS.ret (DE.ix (DE.v 2) (DE.ix (DE.callO (Y5k Z) (hr.mono (by decide)) rfl Z.D_states_along.m Z.D_states_along.k Z.D_states_along.b (DA.cons (DE.v 3) (DA.one (DE.v 1)))) (DE.neg DE.int) (fun _ _=>rfl)) (fun _ _=>rfl)))))
omit Z in
theorem Y2s:J5 MC.Z5w ["machine"] (C1 Z3q):=Q9 (by decide +kernel)
theorem Y4z:FnT P w K mg base ts 6 (ad 9) (fn 9) ["machine"] Q4k:=by
 have nd:=Y2s.nd
 refine Fun.okP Z.D_is_least.F Y2s (ws:=MC.Z4z  sp_least_of) (fun cdv A outer s H E hT hr=>?_) MC.W5d
 exact(A6.one (DS.ret (DE.cmp (Q1j (n:=60) (Q1n hr)) U5 (DE.clP (Z2o) (Q9z Z) hr hT Z.D_least_of (DA.one (DE.v 0))) (DE.v 0) (Q2 _))))
omit Z in
theorem Y2v:J5 MC.Z5y ["_law_script","_law_k"] (C1 Z3s):=Q9 (by decide +kernel)
theorem Y5c:FnD P w K mg base 1 (ad 10) (fn 10) ["_law_script","_law_k"] Q6f:=by
 have nd:=Y2v.nd
 refine Z.D_law_cell.ok Y2v (ws:=MC.Q9t  ) (fun cdv A outer s H E hr=>?_) MC.W4w
 exact(A6.cons (DS.ife (DT.cmp (Q1j (n:=60) (Q1n hr)) U5 (DE.v 0) (DE.lst DA.nil) (Q2 _)) (A6.one (DS.ret (DE.op Q2w Q2u DE.int (DE.v 1)))) A6.nil) (A6.one (DS.ret (DE.op P7 P4 (DE.ix (DE.v 0) (DE.op Q1t U6 (DE.v 1) (DE.len Z.T.m_len (DE.v 0))) (fun _ _=>rfl)) (DE.op Q2w Q2u DE.int (DE.op Q8c U6 (DE.v 1) (DE.len Z.T.m_len (DE.v 0))))))))
omit Z in
theorem Y2x:J5 MC.Z5z ["_law_script","_law_k","_law_many"] (C1 Z3t):=Q9 (by decide +kernel)
theorem Q4w:FnD P w K mg base 2 (ad 11) (fn 11) ["_law_script","_law_k","_law_many"] Q3d:=by
 have nd:=Y2x.nd
 refine Z.D_law_drawn.ok Y2x (ws:=MC.Z5d  Q6f) (fun cdv A outer s H E hr=>?_) MC.W4z
 exact(A6.cons (DS.sv 3 (DE.op Q1t U6 (DE.op P7 P4 (DE.op Q2w Q2u (DE.op Q1t U6 (DE.cl (Y5c Z) hr Z.D_law_cell (DA.cons (DE.v 0) (DA.one (DE.v 1)))) DE.int) DE.int) (DE.op Q2w Q2u DE.int (DE.op P7 P4 (DE.v 1) DE.int))) DE.int) nd) (A6.cons (DS.sv 3 (DE.op Q1t U6 (DE.op P7 P4 (DE.op Q2w Q2u (DE.v 3) (DE.v 3)) (DE.op Q8c U6 (DE.v 3) DE.int)) DE.int) nd) (A6.one (DS.ret (DE.op Q1t U6 (DE.op Q8c U6 (DE.op Q1t U6 (DE.op P7 P4 (DE.op Q2w Q2u (DE.v 3) (DE.v 3)) (DE.op Q8c U6 (DE.v 3) DE.int)) DE.int) DE.int) (DE.v 2))))))
omit Z in
theorem Y3c:J5 MC.Z0f ["_law_long"] (C1 Q8x):=Q9 (by decide +kernel)
theorem Y5i:FnD P w K mg base 1 (ad 12) (fn 12) ["_law_long"] Q8t:=by
 have nd:=Y3c.nd
 refine Z.D_law_texts.ok Y3c (ws:=MC.Z5i  ) (fun cdv A outer s H E hr=>?_) MC.W5j
 exact(A6.cons (DS.sv 1 (DE.lst (DA.one (DE.fz DE.str))) nd) (A6.cons (DS.sv 2 (DE.fz (DE.lst (DA.one (DE.fz DE.str)))) nd) (A6.cons (DS.for aW rfl (DI.rng1 rfl Z.T.m_range (DA.one (DE.v 0))) (DG.nm (i:=3) nd rfl (by trivial)) (A6.cons (DS.sv 4 (DE.lst DA.nil) nd) (A6.cons (DS.fzO 4 (DS.for aW rfl (DI.lst (DE.fz (DE.v 2))) (DG.nm (i:=5) nd rfl (by trivial)) (A6.one (DS.sv 4 (DE.op P7 P4 (DE.v 4) (DE.comp rfl (Q4 (sc:=C1 Q8x) (N0:=MC.Z0f) (N:=["_law_sign","_law_text_here"]) (nt:=1) (cap:=[5]) rfl rfl (by decide +kernel)) (E5.str DE.str) (fun _ _ _ _=>(DG.nm (i:=0) (show List.Nodup (["_law_sign","_law_text_here"]:List Str)by decide +kernel) rfl (by trivial))) (fun _ _ _ _=>N3.nil) (fun _ _ _ _=>(DE.fz (DE.op P7 P4 (DE.v 1) (DE.v 0)))))) nd)))) (A6.cons (DS.sv 2 (DE.fz (DE.v 4)) nd) (A6.one (DS.sv 1 (DE.op Y0z Z6g (DE.v 1) (DE.v 2)) nd)))))) (A6.one (DS.retV (pv 1))))))
omit Z in
theorem Y2z:J5 MC.Q6s ["_law_script","_law_at","_law_most"] (C1 Q6h):=Q9 (by decide +kernel)
theorem Y5f:FnD P w K mg base 3 (ad 13) (fn 13) ["_law_script","_law_at","_law_most"] Q8q:=by
 have nd:=Y2z.nd
 refine Z.D_law_machine.ok Y2z (ws:=MC.Z5f  Q3d) (fun cdv A outer s H E hr=>?_) MC.W5f
 exact(A6.cons (DS.sv 3 (DE.op P7 P4 DE.int (DE.cl (Q4w Z) hr Z.D_law_drawn (DA.cons (DE.v 0) (DA.cons (DE.v 1) (DA.one (DE.v 2)))))) nd) (A6.cons (DS.sv 4 (DE.tpl Z.T.m_tuple (DE.comp rfl (Q4 (sc:=C1 Q6h) (N0:=MC.Q6s) (N:=["_law_k","_law_script","_law_at"]) (nt:=1) (cap:=[0,1]) rfl rfl (by decide +kernel)) (E5.rng1 rfl Z.T.m_range (DA.one (DE.v 3))) (fun _ _ _ _=>(DG.nm (i:=0) (show List.Nodup (["_law_k","_law_script","_law_at"]:List Str)by decide +kernel) rfl (by trivial))) (fun _ _ _ _=>N3.nil) (fun _ _ _ _=>(DE.fz (DE.cmp (Q1j (n:=60) (Q1n hr)) U5 (DE.cl (Q4w Z) hr Z.D_law_drawn (DA.cons (DE.v 1) (DA.cons (DE.op P7 P4 (DE.op P7 P4 (DE.v 2) DE.int) (DE.v 0)) (DA.one DE.int)))) DE.int (Q2 _)))))) nd) (A6.cons (DS.sv 5 (DE.lst DA.nil) nd) (A6.cons (DS.for aW rfl (DI.rng1 rfl Z.T.m_range (DA.one (DE.v 3))) (DG.nm (i:=6) nd rfl (by trivial)) (A6.one (DS.append (pv 5) (DE.fz (DE.tpl Z.T.m_tuple (DE.comp rfl (Q4 (sc:=C1 Q6h) (N0:=MC.Q6s) (N:=["_law_j","_law_script","_law_size","_law_at","_law_k"]) (nt:=1) (cap:=[0,3,1,6]) rfl rfl (by decide +kernel)) (E5.rng1 rfl Z.T.m_range (DA.one DE.int)) (fun _ _ _ _=>(DG.nm (i:=0) (show List.Nodup (["_law_j","_law_script","_law_size","_law_at","_law_k"]:List Str)by decide +kernel) rfl (by trivial))) (fun _ _ _ _=>N3.nil) (fun _ _ _ _=>(DE.fz (DE.cl (Q4w Z) hr Z.D_law_drawn (DA.cons (DE.v 1) (DA.cons (DE.op P7 P4 (DE.op P7 P4 (DE.op P7 P4 (DE.v 3) DE.int) (DE.op Q2w Q2u DE.int (DE.v 4))) (DE.v 0)) (DA.one (DE.v 2))))))))))))) (A6.one (DS.ret (DE.tup (DA.cons (DE.fz (DE.v 4)) (DA.one (DE.fz (DE.tpl Z.T.m_tuple (DE.v 5))))))))))))
omit Z in
theorem Y3b:J5 MC.Z6a ["_law_machine_told","_law_state_here","_law_text_here"] (C1 Z3u):=Q9 (by decide +kernel)
theorem Y5h:FnD P w K mg base 1 (ad 14) (fn 14) ["_law_machine_told","_law_state_here","_law_text_here"] Q8s:=by
 have nd:=Y3b.nd
 refine Z.D_law_state.ok Y3b (ws:=MC.Z5h  ) (fun cdv A outer s H E hr=>?_) MC.W5i
 exact(A6.cons (DS.for aW rfl (DI.str (DE.v 2)) (DG.nm (i:=3) nd rfl (by trivial)) (A6.one (DS.sv 1 (DE.ix (DE.ix (DE.ix (DE.v 0) DE.int (fun _ _=>rfl)) (DE.v 1) (fun _ _=>rfl)) (DE.index DE.str (DE.v 3)) (fun _ _=>rfl)) nd))) (A6.one (DS.retV (pv 1))))
omit Z in
theorem Y2u:J5 MC.Z5x ["_law_machine_told","_law_text_here"] (C1 Z3r):=Q9 (by decide +kernel)
theorem Y5b:FnD P w K mg base 2 (ad 15) (fn 15) ["_law_machine_told","_law_text_here"] Q3c:=by
 have nd:=Y2u.nd
 refine Z.D_law_accepts.ok Y2u (ws:=MC.Z5b  Q8s) (fun cdv A outer s H E hr=>?_) MC.W4t
 exact(A6.one (DS.ret (DE.ix (DE.ix (DE.v 0) DE.int (fun _ _=>rfl)) (DE.cl (Y5h Z) hr Z.D_law_state (DA.cons (DE.v 0) (DA.cons DE.int (DA.one (DE.v 1))))) (fun _ _=>rfl))))
omit Z in
theorem Y2y:J5 MC.Q3l ["_law_told"] (C1 Q3g):=Q9 (by decide +kernel)
theorem Y5e:FnD P w K mg base 1 (ad 16) (fn 16) ["_law_told"] Q4j:=by
 have nd:=Y2y.nd
 refine Z.D_law_is_least.ok Y2y (ws:=MC.Z5e  K ) (fun cdv A outer s H E hr=>?_) MC.W5a
 exact(A6.cons (DS.sv 1 (DE.len Z.T.m_len (DE.ix (DE.v 0) DE.int (fun _ _=>rfl))) nd) (A6.cons (DS.sv 2 (DE.lst (DA.one (DE.fz DE.int))) nd) (A6.cons (DS.for aW rfl (DI.lst (DE.fz (DE.listRng rfl rfl Z.T.m_list rfl Z.T.m_range (DA.one (DE.v 1))))) (DG.nm (i:=3) nd rfl (by trivial)) (A6.one (DS.ife (DT.cmp Z0x Q3q (DE.v 3) (DE.len Z.T.m_len (DE.v 2)) (Q2 _)) (A6.cons (DS.sv 4 (DE.ix (DE.ix (DE.v 0) DE.int (fun _ _=>rfl)) (DE.v 3) (fun _ _=>rfl)) nd) (A6.one (DS.sv 2 (DE.op P7 P4 (DE.v 2) (DE.comp rfl (Q4 (sc:=C1 Q3g) (N0:=MC.Q3l) (N:=["_law_k","_law_there","_law_met","_law_row"]) (nt:=2) (cap:=[2,4]) rfl rfl (by decide +kernel)) (E5.enumX rfl Z.T.m_enumerate Q5e (DA.one (DE.v 4))) (fun _ _ _ _=>(DG.tp (n:=2) rfl (G0.cons (DG.nm (i:=0) (show List.Nodup (["_law_k","_law_there","_law_met","_law_row"]:List Str)by decide +kernel) rfl (by trivial)) (G0.cons (DG.nm (i:=1) (show List.Nodup (["_law_k","_law_there","_law_met","_law_row"]:List Str)by decide +kernel) rfl (by trivial)) G0.nil)))) (fun _ _ _ _=>(N3.one (DT.cmp (Y6w (n:=59) (Q0x hr)) Z8q (DE.v 1) (DE.op P7 P4 (DE.v 2) (DE.callTy Y6l Y9x rfl Z.T.m_list Z0u (DA.one (DE.slice (DE.v 3) DO.none (DO.some (DE.v 0)))))) (by with_unfolding_all rfl)))) (fun _ _ _ _=>(DE.fz (DE.v 1))))) nd))) A6.nil))) (A6.cons (DS.ife (DT.cmp (Q2k (n:=59) (Q0x hr)) U5 (DE.v 2) (DE.listRng rfl rfl Z.T.m_list rfl Z.T.m_range (DA.one (DE.v 1))) (Q2 _)) (A6.one (DS.ret DE.bl)) A6.nil) (A6.cons (DS.dnew (i:=5) nd rfl (by trivial)) (A6.cons (DS.for aW rfl (DI.rng1 rfl Z.T.m_range (DA.one (DE.v 1))) (DG.nm (i:=6) nd rfl (by trivial)) (A6.one (DS.for aW rfl (DI.rng1 rfl Z.T.m_range (DA.one (DE.v 1))) (DG.nm (i:=7) nd rfl (by trivial)) (A6.one (DS.dput (C9.hu1 hr) (pv 5) (DE.tup (DA.cons (DE.fz (DE.v 6)) (DA.one (DE.fz (DE.v 7))))) (DE.cmp (Q2k (n:=59) (Q0x hr)) U5 (DE.ix (DE.ix (DE.v 0) DE.int (fun _ _=>rfl)) (DE.v 6) (fun _ _=>rfl)) (DE.ix (DE.ix (DE.v 0) DE.int (fun _ _=>rfl)) (DE.v 7) (fun _ _=>rfl)) (Q2 _))))))) (A6.cons (DS.fzT 5 (DS.for aW rfl (DI.rng1 rfl Z.T.m_range (DA.one (DE.v 1))) (DG.nm (i:=8) nd rfl (by trivial)) (A6.one (DS.for aW rfl (DI.lst (DE.fz (DE.callTy (Y6m rfl) W0a rfl Z.T.m_list Z0u (DA.one (DE.v 5))))) (DG.tp (n:=2) rfl (G0.cons (DG.nm (i:=6) nd rfl (by trivial)) (G0.cons (DG.nm (i:=7) nd rfl (by trivial)) G0.nil))) (A6.cons (by first | exact DS.set (i:=9) (DE.comp rfl (Q4 (sc:=C1 Q3g) (N0:=MC.Q3l) (N:=["_law_both","_law_apart"]) (nt:=1) (cap:=[5]) rfl rfl (by decide +kernel)) (E5.zipP rfl Z.T.m_zip Z0v (DA.cons (DE.ix (DE.ix (DE.v 0) DE.int (fun _ _=>rfl)) (DE.v 6) (fun _ _=>rfl)) (DA.one (DE.ix (DE.ix (DE.v 0) DE.int (fun _ _=>rfl)) (DE.v 7) (fun _ _=>rfl))))) (fun _ _ _ _=>(DG.nm (i:=0) (show List.Nodup (["_law_both","_law_apart"]:List Str)by decide +kernel) rfl (by trivial))) (fun _ _ _ _=>N3.nil) (fun _ _ _ _=>(DE.fz (DE.bget (C9.hu1 hr) (pv 1) (DE.v 0) (fun _ _=>rfl))))) nd rfl (by trivial) | exact DS.setC (i:=9) rfl (Q4 (sc:=C1 Q3g) (N0:=MC.Q3l) (N:=["_law_both","_law_apart"]) (nt:=1) (cap:=[5]) rfl rfl (by decide +kernel)) (E5.zipP rfl Z.T.m_zip Z0v (DA.cons (DE.ix (DE.ix (DE.v 0) DE.int (fun _ _=>rfl)) (DE.v 6) (fun _ _=>rfl)) (DA.one (DE.ix (DE.ix (DE.v 0) DE.int (fun _ _=>rfl)) (DE.v 7) (fun _ _=>rfl))))) (fun _ _ _ _=>(DG.nm (i:=0) (show List.Nodup (["_law_both","_law_apart"]:List Str)by decide +kernel) rfl (by trivial))) (fun _ _ _ _=>N3.nil) (fun _ _ _ _=>(DE.fz (DE.bget (C9.hu1 hr) (pv 1) (DE.v 0) (fun _ _=>rfl)))) nd rfl (by trivial)) (A6.one (DS.dput (C9.hu1 hr) (pv 5) (DE.tup (DA.cons (DE.fz (DE.v 6)) (DA.one (DE.fz (DE.v 7))))) (DE.or (DE.dgetT (C9.hu1 hr) (pv 5) (DE.tup (DA.cons (DE.fz (DE.v 6)) (DA.one (DE.fz (DE.v 7))))) (fun _ _=>rfl)) (DE.or1 (DE.cmp (Y6v (n:=59) (Q0x hr)) Z8q DE.bl (DE.v 9) (by with_unfolding_all rfl))))))))))) (A6.one (DS.ret (DE.cmp (Q1j (n:=60) (Q1n hr)) U5 (DE.comp rfl (Q4 (sc:=C1 Q3g) (N0:=MC.Q3l) (N:=["_law_both","_law_apart"]) (nt:=1) (cap:=[5]) rfl rfl (by decide +kernel)) (E5.fdT (pv 5)) (fun _ _ _ _=>(DG.nm (i:=0) (show List.Nodup (["_law_both","_law_apart"]:List Str)by decide +kernel) rfl (by trivial))) (fun _ _ _ _=>(N3.one (DW.t (DW.and (DT.cmp (Q2k (n:=59) (Q0x hr)) U5 (DE.ix (DE.v 0) DE.int (fun _ _=>rfl)) (DE.ix (DE.v 0) DE.int (fun _ _=>rfl)) (Q2 _)) (DW.and1 (DT.nt (DT.tru (DE.tget (C9.hu1 hr) (pv 1) (DE.v 0) (fun _ _=>rfl)) (fun _=>rfl)))))))) (fun _ _ _ _=>(DE.fz (DE.v 0)))) (DE.lst DA.nil) (Q2 _)))))))))))
omit Z in
theorem Y3a:J5 Q5a ["_law_told","_law_shift"] (C1 Q4m):=Q9 (by decide +kernel)
theorem Y5g:FnD P w K mg base 1 (ad 17) (fn 17) ["_law_told","_law_shift"] Q8r:=by
 have nd:=Y3a.nd
 refine Z.D_law_numbered.ok Y3a (ws:=Z5g  ) (fun cdv A outer s H E hr=>?_) W5g
 exact(A6.cons (DS.sv 2 (DE.len Z.T.m_len (DE.ix (DE.v 0) DE.int (fun _ _=>rfl))) nd) (A6.cons (DS.sv 3 (DE.fz (DE.op P7 P4 (DE.lst (DA.one (DE.fz DE.int))) (DE.comp rfl (Q4 (sc:=C1 Q4m) (N0:=Q5a) (N:=["_law_k","_law_shift","_law_size"]) (nt:=1) (cap:=[1,2]) rfl rfl (by decide +kernel)) (E5.rng1 rfl Z.T.m_range (DA.one (DE.op Y1a U6 (DE.v 2) DE.int))) (fun _ _ _ _=>(DG.nm (i:=0) (show List.Nodup (["_law_k","_law_shift","_law_size"]:List Str)by decide +kernel) rfl (by trivial))) (fun _ _ _ _=>N3.nil) (fun _ _ _ _=>(DE.fz (DE.op P7 P4 DE.int (DE.op Q1t U6 (DE.op P7 P4 (DE.v 0) (DE.v 1)) (DE.op Y1a U6 (DE.v 2) DE.int)))))))) nd) (A6.cons (DS.sv 4 (DE.tpl Z.T.m_tuple (DE.comp rfl (Q4 (sc:=C1 Q4m) (N0:=Q5a) (N:=["_law_k","_law_told","_law_order"]) (nt:=1) (cap:=[0,3]) rfl rfl (by decide +kernel)) (E5.rng1 rfl Z.T.m_range (DA.one (DE.v 2))) (fun _ _ _ _=>(DG.nm (i:=0) (show List.Nodup (["_law_k","_law_told","_law_order"]:List Str)by decide +kernel) rfl (by trivial))) (fun _ _ _ _=>N3.nil) (fun _ _ _ _=>(DE.fz (DE.ix (DE.ix (DE.v 1) DE.int (fun _ _=>rfl)) (DE.lindex (DE.v 2) (DE.v 0)) (fun _ _=>rfl)))))) nd) (A6.cons (DS.sv 5 (DE.lst DA.nil) nd) (A6.cons (DS.for aW rfl (DI.rng1 rfl Z.T.m_range (DA.one (DE.v 2))) (DG.nm (i:=6) nd rfl (by trivial)) (A6.one (DS.append (pv 5) (DE.fz (DE.tpl Z.T.m_tuple (DE.comp rfl (Q4 (sc:=C1 Q4m) (N0:=Q5a) (N:=["_law_there","_law_order"]) (nt:=1) (cap:=[3]) rfl rfl (by decide +kernel)) (E5.tup (DE.ix (DE.ix (DE.v 0) DE.int (fun _ _=>rfl)) (DE.lindex (DE.v 3) (DE.v 6)) (fun _ _=>rfl))) (fun _ _ _ _=>(DG.nm (i:=0) (show List.Nodup (["_law_there","_law_order"]:List Str)by decide +kernel) rfl (by trivial))) (fun _ _ _ _=>N3.nil) (fun _ _ _ _=>(DE.fz (DE.ix (DE.v 1) (DE.v 0) (fun _ _=>rfl)))))))))) (A6.one (DS.ret (DE.tup (DA.cons (DE.fz (DE.v 4)) (DA.one (DE.fz (DE.tpl Z.T.m_tuple (DE.v 5)))))))))))))
omit Z in
theorem Y2w:J5 Z0e ["_law_told","_law_state_here"] (C1 Q8w):=Q9 (by decide +kernel)
theorem Y5d:FnD P w K mg base 1 (ad 18) (fn 18) ["_law_told","_law_state_here"] Q8p:=by
 have nd:=Y2w.nd
 refine Z.D_law_doubled.ok Y2w (ws:=Z5c  ) (fun cdv A outer s H E hr=>?_) W4y
 exact(A6.cons (DS.sv 2 (DE.len Z.T.m_len (DE.ix (DE.v 0) DE.int (fun _ _=>rfl))) nd) (A6.cons (DS.sv 3 (DE.lst DA.nil) nd) (A6.cons (DS.for aW rfl (DI.tup (DE.op P7 P4 (DE.ix (DE.v 0) DE.int (fun _ _=>rfl)) (DE.tup (DA.one (DE.fz (DE.ix (DE.ix (DE.v 0) DE.int (fun _ _=>rfl)) (DE.v 1) (fun _ _=>rfl))))))) (DG.nm (i:=4) nd rfl (by trivial)) (A6.one (DS.append (pv 3) (DE.fz (DE.tpl Z.T.m_tuple (DE.comp rfl (Q4 (sc:=C1 Q8w) (N0:=Z0e) (N:=["_law_k","_law_there","_law_size","_law_state_here"]) (nt:=2) (cap:=[2,1]) rfl rfl (by decide +kernel)) (E5.enumX rfl Z.T.m_enumerate Q5e (DA.one (DE.v 4))) (fun _ _ _ _=>(DG.tp (n:=2) rfl (G0.cons (DG.nm (i:=0) (show List.Nodup (["_law_k","_law_there","_law_size","_law_state_here"]:List Str)by decide +kernel) rfl (by trivial)) (G0.cons (DG.nm (i:=1) (show List.Nodup (["_law_k","_law_there","_law_size","_law_state_here"]:List Str)by decide +kernel) rfl (by trivial)) G0.nil)))) (fun _ _ _ _=>N3.nil) (fun _ _ _ _=>(DE.fz (DE.ix (DE.lst (DA.cons (DE.fz (DE.v 1)) (DA.one (DE.fz (DE.v 2))))) (DE.callTy Y6f Y8i rfl Z.T.m_int Y6d (DA.one (DE.and (DE.cmp (Q1j (n:=60) (Q1n hr)) U5 (DE.v 1) (DE.v 3) (Q2 _)) (DE.and1 (DE.cmp (Q1j (n:=60) (Q1n hr)) U5 (DE.op Q1t U6 (DE.v 0) DE.int) DE.int (Q2 _)))))) (fun _ _=>rfl)))))))))) (A6.one (DS.ret (DE.tup (DA.cons (DE.fz (DE.op P7 P4 (DE.ix (DE.v 0) DE.int (fun _ _=>rfl)) (DE.tup (DA.one (DE.fz (DE.ix (DE.ix (DE.v 0) DE.int (fun _ _=>rfl)) (DE.v 1) (fun _ _=>rfl))))))) (DA.one (DE.fz (DE.tpl Z.T.m_tuple (DE.v 3)))))))))))
omit Z in
theorem Y2t:J5 Z0d ["_law_script"] (C1 Q8v):=Q9 (by decide +kernel)
theorem Y5a:FnT P w K mg base ts 7 (ad 19) (fn 19) ["_law_script"] Q6g:=by
 have nd:=Y2t.nd
 refine Fun.okP Z.D_law.F Y2t (ws:=Z5a  Q8q sp_least_of Q4j Q8t Q6e Q3c Q8p Q3d Q8r Q4k) (fun cdv A outer s H E hT hr=>?_) W5b
 exact(A6.cons (DS.sv 1 (DE.cl (Y5f Z) hr Z.D_law_machine (DA.cons (DE.v 0) (DA.cons DE.int (DA.one DE.int)))) nd) (A6.cons (DS.sv 2 (DE.clP (Z2o) (Q9z Z) hr hT Z.D_least_of (DA.one (DE.v 1))) nd) (A6.cons (DS.ife (DW.t (DW.or (DT.nt (DT.tru (DE.cl (Y5e Z) hr Z.D_law_is_least (DA.one (DE.v 2))) (fun _=>rfl))) (DW.or1 (DT.cmp Z7f Q3q (DE.len Z.T.m_len (DE.ix (DE.v 2) DE.int (fun _ _=>rfl))) (DE.len Z.T.m_len (DE.ix (DE.v 1) DE.int (fun _ _=>rfl))) (Q2 _))))) (A6.one (DS.ret DE.bl)) A6.nil) (A6.cons (DS.ife (DT.cmp (Q2k (n:=59) (Q0x hr)) U5 (DE.comp rfl (Q4 (sc:=C1 Q8v) (N0:=Z0d) (N:=["_law_text_here","_law_least","_law_told"]) (nt:=1) (cap:=[2,1]) rfl rfl (by decide +kernel)) (E5.lst (DE.cl (Y5i Z) hr Z.D_law_texts (DA.one DE.int))) (fun _ _ _ _=>(DG.nm (i:=0) (show List.Nodup (["_law_text_here","_law_least","_law_told"]:List Str)by decide +kernel) rfl (by trivial))) (fun _ _ _ _=>(N3.one (DT.cmp (Q2k (n:=59) (Q0x hr)) U5 (DE.cl (Y4x Z) hr Z.D_accepts (DA.cons (DE.v 1) (DA.one (DE.v 0)))) (DE.cl (Y5b Z) hr Z.D_law_accepts (DA.cons (DE.v 2) (DA.one (DE.v 0)))) (Q2 _)))) (fun _ _ _ _=>(DE.fz (DE.v 0)))) (DE.lst DA.nil) (Q2 _)) (A6.one (DS.ret DE.bl)) A6.nil) (A6.cons (DS.sv 3 (DE.lst (DA.cons (DE.fz (DE.cl (Y5d Z) hr Z.D_law_doubled (DA.cons (DE.v 1) (DA.one (DE.cl (Q4w Z) hr Z.D_law_drawn (DA.cons (DE.v 0) (DA.cons DE.int (DA.one (DE.len Z.T.m_len (DE.ix (DE.v 1) DE.int (fun _ _=>rfl))))))))))) (DA.one (DE.fz (DE.v 2))))) nd) (A6.cons (DS.ife (DT.cmp Z7f Q3q (DE.len Z.T.m_len (DE.ix (DE.v 1) DE.int (fun _ _=>rfl))) DE.int (Q2 _)) (A6.one (DS.append (pv 3) (DE.fz (DE.cl (Y5g Z) hr Z.D_law_numbered (DA.cons (DE.v 1) (DA.one (DE.cl (Q4w Z) hr Z.D_law_drawn (DA.cons (DE.v 0) (DA.cons DE.int (DA.one DE.int)))))))))) A6.nil) (A6.cons (DS.for aW rfl (DI.lst (DE.fz (DE.op Y0z Z6g (DE.v 3) (DE.lst (DA.one (DE.fz (DE.v 1))))))) (DG.nm (i:=4) nd rfl (by trivial)) (A6.cons (DS.sv 5 (DE.clP (W0t) (Y4z Z) hr hT Z.D_is_least (DA.one (DE.v 4))) nd) (A6.one (DS.ife (DW.t (DW.or (DT.cmp (Q2k (n:=59) (Q0x hr)) U5 (DE.clP (Z2o) (Q9z Z) hr hT Z.D_least_of (DA.one (DE.v 4))) (DE.v 2) (Q2 _)) (DW.or (DT.nt (DT.tru (DE.isi (DE.v 5) rfl Z.T.m_isinstance Y6e rfl Z.T.m_bool Y6c (Y9h _ (by decide))) (fun _=>rfl))) (DW.or1 (DT.cmp (Q2k (n:=59) (Q0x hr)) U5 (DE.v 5) (DE.cmp (Q1j (n:=60) (Q1n hr)) U5 (DE.v 4) (DE.v 2) (Q2 _)) (Q2 _)))))) (A6.one (DS.ret DE.bl)) A6.nil)))) (A6.one (DS.ret DE.bl)))))))))
end
theorem Y5u {l:PySem.W.OpenLaw}{w:World}{K:Fg9}{h:Heap}{mg:Str->Option Value}{fa:Addr}{ts:List Addr} (X:K.In h) (G:h.Ns mainGlobals mg) (qB:mg "law"=some (.ref fa))
  {f0:Addr}{d0:FuncData} (H0:Hr K "walked" Z3x f0 d0)
  {f1:Addr}{d1:FuncData} (H1:Hr K "all_reached" Q8u f1 d1)
  {f2:Addr}{d2:FuncData} (H2:Hr K "distances" Q4l f2 d2)
  {f3:Addr}{d3:FuncData} (H3:Hr K "numbered" Q8y f3 d3)
  {f4:Addr}{d4:FuncData} (H4:Hr K "told_apart" Q8z f4 d4)
  {f5 c5 p5:Addr}{d5:FuncData} (H5:HrC K "least" Q6i f5 d5 c5 p5 ts)
  {f6:Addr}{d6:FuncData} (H6:Hr K "least_of" Z3v f6 d6)
  {f7:Addr}{d7:FuncData} (H7:HrO K "states_along" Z3w 0 f7 d7)
  {f8:Addr}{d8:FuncData} (H8:Hr K "accepts" Z3p f8 d8)
  {f9:Addr}{d9:FuncData} (H9:Hr K "is_least" Z3q f9 d9)
  {oC:Addr}{oQ:FuncData} (H10:Hr K "_law_cell" Z3s oC oQ)
  {oB:Addr}{oP:FuncData} (H11:Hr K "_law_drawn" Z3t oB oP)
  {oA:Addr}{oO:FuncData} (H12:Hr K "_law_texts" Q8x oA oO)
  {oy:Addr}{oN:FuncData} (H13:Hr K "_law_machine" Q6h oy oN)
  {ox:Addr}{oM:FuncData} (H14:Hr K "_law_state" Z3u ox oM)
  {ou:Addr}{oK:FuncData} (H15:Hr K "_law_accepts" Z3r ou oK)
  {ot:Addr}{oJ:FuncData} (H16:Hr K "_law_is_least" Q3g ot oJ)
  {oq:Addr}{oI:FuncData} (H17:Hr K "_law_numbered" Q4m oq oI)
  {oo:Addr}{oH:FuncData} (H18:Hr K "_law_doubled" Q8w oo oH)
  {qW:Addr}{nj:FuncData} (H19:Hr K "law" Q8v qW nj)
  (z0:PySem.W.nsIn K mainGlobals "bool"=some none)    (z1:PySem.W.nsIn K mainGlobals "enumerate"=some none)    (z2:PySem.W.nsIn K mainGlobals "int"=some none)    (z3:PySem.W.nsIn K mainGlobals "isinstance"=some none)    (z4:PySem.W.nsIn K mainGlobals "len"=some none)    (z5:PySem.W.nsIn K mainGlobals "list"=some none)    (z6:PySem.W.nsIn K mainGlobals "max"=some none)    (z7:PySem.W.nsIn K mainGlobals "range"=some none)    (z8:PySem.W.nsIn K mainGlobals "tuple"=some none)    (z9:PySem.W.nsIn K mainGlobals "zip"=some none) {t0:Tok} (s0:PySem.W.nsIn K mainGlobals "SIGNS"=some (some (.str "01ab" t0))) (hsub:∀Pt∈ts,Pt=p5) :
  (∀Pt∈ts,(∃c,PySem.W.codeHdIn K c Pt=true)/\K.lookup Pt=none)/\∃fd:FuncData,(∀(s:Shared) (v:Value),BindsTo s fd ⟨[v],[]⟩ [("_law_script",v)])/\∀base:Heap,K.In base->base.Ns mainGlobals mg->Q0q mg base->O9 l.prog w K mg base K6 7 fa fd ["_law_script"] (Q4b K ts 1 Q6g):=by
 have e:=qB.symm.trans (PySem.W.mg_of X G H19.1)
 cases e
 refine⟨fun Pt hp=>by
  rcases hsub Pt hp with rfl
  ·exact H5.at
  ,?_⟩
 have T:Txt K mg w:={ m_bool:=bP X G z0,m_enumerate:=bP X G z1,m_int:=bP X G z2,m_isinstance:=bP X G z3,m_len:=bP X G z4,m_list:=bP X G z5,m_max:=bP X G z6,m_range:=bP X G z7,m_tuple:=bP X G z8,m_zip:=bP X G z9,c_SIGNS:=⟨t0,PySem.W.mg_of X G s0⟩ }
 have Lw:=H19.df (ps:=["_law_script"]) X G fun _ _ _ _ _ _ us hl=>match us,hl with | [_],_=>rfl
 obtain⟨⟨oc,od,kV,dc,pm,an,cd,ct,sl,e,l1,l2⟩,kp⟩:=H19.2
 refine⟨nj,fun s v=>by subst e;exact .of_eq rfl,fun base hB _ hBM=>?_⟩
 exact Y5a (ad:=fun i=>([f0,f1,f2,f3,f4,f5,f6,f7,f8,f9,oC,oB,oA,oy,ox,ou,ot,oq,oo,fa]:List Addr).getD i 0) (fn:=fun i=>([d0,d1,d2,d3,d4,d5,d6,d7,d8,d9,oQ,oP,oO,oN,oM,oK,oJ,oI,oH,nj]:List FuncData).getD i d0) ⟨T,hBM,
  H0.df X G fun _ _ _ _ _ _ us hl=>match us,hl with | [_,_],_=>rfl,
  H1.df X G fun _ _ _ _ _ _ us hl=>match us,hl with | [_,_],_=>rfl,
  H2.df X G fun _ _ _ _ _ _ us hl=>match us,hl with | [_,_,_],_=>rfl,
  H3.df X G fun _ _ _ _ _ _ us hl=>match us,hl with | [_],_=>rfl,
  H4.df X G fun _ _ _ _ _ _ us hl=>match us,hl with | [_,_],_=>rfl,
  H5.hr.df X G fun _ _ _ _ _ _ us hl=>match us,hl with | [_,_],_=>rfl,
  H6.df X G fun _ _ _ _ _ _ us hl=>match us,hl with | [_],_=>rfl,
  H7.df X G fun _ _ _ _ _ _ _ _ _ _ _ _ dl s us hK hl=>match us,(show us.length=2 by simpa using hl)with | [_,_],_=>PySem.W.binds_K hK rfl dl rfl rfl rfl,
  H8.df X G fun _ _ _ _ _ _ us hl=>match us,hl with | [_,_],_=>rfl,
  H9.df X G fun _ _ _ _ _ _ us hl=>match us,hl with | [_],_=>rfl,
  H10.df X G fun _ _ _ _ _ _ us hl=>match us,hl with | [_,_],_=>rfl,
  H11.df X G fun _ _ _ _ _ _ us hl=>match us,hl with | [_,_,_],_=>rfl,
  H12.df X G fun _ _ _ _ _ _ us hl=>match us,hl with | [_],_=>rfl,
  H13.df X G fun _ _ _ _ _ _ us hl=>match us,hl with | [_,_,_],_=>rfl,
  H14.df X G fun _ _ _ _ _ _ us hl=>match us,hl with | [_,_,_],_=>rfl,
  H15.df X G fun _ _ _ _ _ _ us hl=>match us,hl with | [_,_],_=>rfl,
  H16.df X G fun _ _ _ _ _ _ us hl=>match us,hl with | [_],_=>rfl,
  H17.df X G fun _ _ _ _ _ _ us hl=>match us,hl with | [_,_],_=>rfl,
  H18.df X G fun _ _ _ _ _ _ us hl=>match us,hl with | [_,_],_=>rfl,
  H19.df X G fun _ _ _ _ _ _ us hl=>match us,hl with | [_],_=>rfl,⟨_,_,H5.fc,H5.tb⟩⟩
theorem walk {l:PySem.W.OpenLaw}{q:Program}{eA:List Str}{XP:(Str->Option Value)->Heap->Prop}{YP:World->Heap->Prop}{d:DefRec}{K:Params->Fg9}{ts:List Addr} (hn:l.most=some 63) (kz:d.params.defaults=[])
  (hY:∀(w:World) (h:Heap),YP w h->(K w.params).In h) (mK:∀(w:World) (h:Heap),YP w h->∀Pt∈ts,h.get? Pt=some (PySem.W.tabObj #[]))
  (F:∀(w:World) (mg:Str->Option Value) (fa:Addr) (h:Heap),(K w.params).In h->h.Ns mainGlobals mg->mg d.name=some (.ref fa) ->
   (∀Pt∈ts,(∃c,PySem.W.codeHdIn (K w.params) c Pt=true)/\(K w.params).lookup Pt=none) /\
   ∃fd:FuncData,(∀(s:Shared) (u:Value),BindsTo s fd ⟨[u],[]⟩ [("_law_script",u)])/\∀base:Heap,(K w.params).In base->base.Ns mainGlobals mg->Q0q mg base->O9 l.prog w (K w.params) mg base K6 7 fa fd ["_law_script"] (Q4b (K w.params) ts 1 Q6g)) :
  PySem.W.WalkO q eA XP YP l.row.toRowW d [] (fun f vs=>PySem.call f vs) :=
 L2.W9a (n:=63) (k:=7) (x:="_law_script") (sp:=fun w=>Q4b (K w.params) ts 1 Q6g) hn (by decide) kz ⟨rfl,by decide,by decide⟩ hY mK F
  (fun w H a ns hl hT hz=>⟨[.st (scr ns)],fun r=>r=.st (.bl true),rfl,⟨_,_,rfl,A1.s_lst hz AllS.ints,rfl⟩,rfl,hT,⟨ns,rfl,hl,rfl⟩,fun r v H' e sm ir=>⟨by subst e;exact ir,fun Pt hp=>sm _ _ (hT Pt hp)⟩⟩)
end K12
end
open PySem PySem.W PyProof.Rows TK
theorem PySem.Challenge.cw_textkinds_k12_least_holds : PySem.Challenge.rw_textkinds_k12_least.Holds := by
 w_on;o_law;k_head;(case hw=>w_witness2)
 k_fill
 refine K12.walk (l:=PySem.Challenge.rw_textkinds_k12_least) rfl rfl (fun w h Y=>PySem.W.km_in_of Y) (fun w h Y=>PySem.W.km_tabs_of Y) ?F
 case F =>
  intro w mg fa h KX G kn
  refine' K12.Y5u KX G kn ?H0 ?H1 ?H2 ?H3 ?H4 ?H5 ?H6 ?H7 ?H8 ?H9 ?H10 ?H11 ?H12 ?H13 ?H14 ?H15 ?H16 ?H17 ?H18 ?H19 ?z0 ?z1 ?z2 ?z3 ?z4 ?z5 ?z6 ?z7 ?z8 ?z9 ?s0 ?hsub
  (case H0=>(refine' S8 ?_ ?_ ?_ ?_;any_goals k_is))
  (case H1=>(refine' S8 ?_ ?_ ?_ ?_;any_goals k_is))
  (case H2=>(refine' S8 ?_ ?_ ?_ ?_;any_goals k_is))
  (case H3=>(refine' S8 ?_ ?_ ?_ ?_;any_goals k_is))
  (case H4=>(refine' S8 ?_ ?_ ?_ ?_;any_goals k_is))
  (case H5=>(refine' Y8a ?xa ?xl ?xc ?xk ?xq ?xp ?xh ?xn ?xm;(case xa=>k_is);(case xl=>k_is);(case xc=>k_is);(case xk=>k_is);(case xq=>k_is);(case xp=>rfl);(case xh=>kernel_rfl);(case xn=>kernel_rfl);(case xm=>decide)))
  (case H6=>(refine' S8 ?_ ?_ ?_ ?_;any_goals k_is))
  (case H7=>(refine' Y8b ?_ ?_ ?_ ?_ ?_;any_goals k_is))
  (case H8=>(refine' S8 ?_ ?_ ?_ ?_;any_goals k_is))
  (case H9=>(refine' S8 ?_ ?_ ?_ ?_;any_goals k_is))
  (case H10=>(refine' S8 ?_ ?_ ?_ ?_;any_goals k_is))
  (case H11=>(refine' S8 ?_ ?_ ?_ ?_;any_goals k_is))
  (case H12=>(refine' S8 ?_ ?_ ?_ ?_;any_goals k_is))
  (case H13=>(refine' S8 ?_ ?_ ?_ ?_;any_goals k_is))
  (case H14=>(refine' S8 ?_ ?_ ?_ ?_;any_goals k_is))
  (case H15=>(refine' S8 ?_ ?_ ?_ ?_;any_goals k_is))
  (case H16=>(refine' S8 ?_ ?_ ?_ ?_;any_goals k_is))
  (case H17=>(refine' S8 ?_ ?_ ?_ ?_;any_goals k_is))
  (case H18=>(refine' S8 ?_ ?_ ?_ ?_;any_goals k_is))
  (case H19=>(refine' S8 ?_ ?_ ?_ ?_;any_goals k_is))
  (case z0=>k_is)
  (case z1=>k_is)
  (case z2=>k_is)
  (case z3=>k_is)
  (case z4=>k_is)
  (case z5=>k_is)
  (case z6=>k_is)
  (case z7=>k_is)
  (case z8=>k_is)
  (case z9=>k_is)
  (case s0=>k_is)
  (case hsub=>decide)
#print axioms PySem.Challenge.cw_textkinds_k12_least_holds
