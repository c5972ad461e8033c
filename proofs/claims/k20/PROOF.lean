import PyProof.Rows.All
import Wide.All
import OpenK.AllK
import Wide.FinOn
import Lean
import PyProof.EqAt
import PyProof.EqKinds
import PyProof.TupleCall
import PyProof.ListRange
import PySem.Challenge.RW_textkinds_k20_sets
set_option Elab.async false
set_option linter.all false
set_option maxRecDepth 100000
set_option maxHeartbeats 0
theorem a9:type_of% @PySem.wpAny_bind:=@PySem.wpAny_bind
theorem aa:type_of% @PySem.Heap.get?_push_of_some:=@PySem.Heap.get?_push_of_some
theorem ac:type_of% @List.getElem?_eq_getElem:=@List.getElem?_eq_getElem
theorem af:type_of% @PySem.wpAny_pure:=@PySem.wpAny_pure
theorem ag:type_of% @List.length_map:=@List.length_map
theorem ah:type_of% @Nat.le_refl:=@Nat.le_refl
theorem ai:type_of% @List.getElem?_map:=@List.getElem?_map
theorem aj:type_of% @List.mem_cons:=@List.mem_cons
theorem ak:type_of% @PySem.Heap.lt_size:=@PySem.Heap.lt_size
theorem am:type_of% @List.mem_append_right:=@List.mem_append_right
theorem ao:type_of% @List.map_cons:=@List.map_cons
theorem aq:type_of% @List.mem_map:=@List.mem_map
theorem ar:type_of% @List.mem_cons_self:=@List.mem_cons_self
theorem au:type_of% @List.getD_eq_getElem?_getD:=@List.getD_eq_getElem?_getD
theorem av:type_of% @List.mem_cons_of_mem:=@List.mem_cons_of_mem
theorem aw:type_of% @PySem.Heap.get?_push_size:=@PySem.Heap.get?_push_size
theorem ax:type_of% @Nat.lt_of_lt_of_le:=@Nat.lt_of_lt_of_le
theorem ay:type_of% @Nat.ne_of_lt:=@Nat.ne_of_lt
theorem az:type_of% @List.length_cons:=@List.length_cons
theorem aA:type_of% @List.length_append:=@List.length_append
theorem aB:type_of% @Option.some.inj:=@Option.some.inj
theorem aC:type_of% @List.mem_of_getElem?:=@List.mem_of_getElem?
theorem aD:type_of% @if_neg:=@if_neg
theorem aE:type_of% @List.size_toArray:=@List.size_toArray
theorem aF:type_of% @List.getElem?_set_ne:=@List.getElem?_set_ne
theorem aG:type_of% @List.getElem?_eq_some_iff:=@List.getElem?_eq_some_iff
theorem aH:type_of% @List.getElem?_eq_none_iff:=@List.getElem?_eq_none_iff
theorem aI:type_of% @if_pos:=@if_pos
theorem aJ:type_of% @List.getElem?_append_left:=@List.getElem?_append_left
theorem aK:type_of% @List.not_mem_nil:=@List.not_mem_nil
theorem aL:type_of% @PySem.wpAny_mono:=@PySem.wpAny_mono
theorem aM:type_of% @decide_eq_false:=@decide_eq_false
theorem aN:type_of% @List.map_map:=@List.map_map
theorem aO:type_of% @Nat.lt_irrefl:=@Nat.lt_irrefl
theorem aP:type_of% @List.idxOf_lt_length_iff:=@List.idxOf_lt_length_iff
theorem aQ:type_of% @List.mem_singleton:=@List.mem_singleton
theorem aR:type_of% @Nat.le_trans:=@Nat.le_trans
theorem aT:type_of% @List.getElem?_append_right:=@List.getElem?_append_right
theorem aU:type_of% @List.mem_append:=@List.mem_append
theorem aV:type_of% @List.forall_mem_cons:=@List.forall_mem_cons
theorem aW:type_of% @PySem.wpAny_field:=@PySem.wpAny_field
theorem aX:type_of% @List.length_replicate:=@List.length_replicate
theorem aY:type_of% @PyProof.Rows.callWith_type1:=@PyProof.Rows.callWith_type1
theorem aZ:type_of% @PySem.PassesOwn.never:=@PySem.PassesOwn.never
theorem b7:type_of% @List.find?_cons:=@List.find?_cons
theorem b8:type_of% @PySem.wpAny_callSpecial?_slot:=@PySem.wpAny_callSpecial?_slot
theorem b9:type_of% @List.getElem?_set_self:=@List.getElem?_set_self
theorem ba:type_of% @List.append_nil:=@List.append_nil
theorem bb:type_of% @List.map_congr_left:=@List.map_congr_left
theorem bc:type_of% @PySem.wpAny_call_entry:=@PySem.wpAny_call_entry
theorem be:type_of% @List.forIn_cons:=@List.forIn_cons
theorem bf:type_of% @PySem.wpAny_setField_rec:=@PySem.wpAny_setField_rec
theorem bg:type_of% @PySem.wpAny_seqItems:=@PySem.wpAny_seqItems
theorem bh:type_of% @PySem.wpAny_Call_Name_kw:=@PySem.wpAny_Call_Name_kw
theorem bi:type_of% @List.mem_append_left:=@List.mem_append_left
theorem bj:type_of% @List.map_append:=@List.map_append
theorem bn:type_of% @PySem.Heap.size_push:=@PySem.Heap.size_push
theorem bo:type_of% @Int.toNat_natCast:=@Int.toNat_natCast
theorem bp:type_of% @Nat.zero_le:=@Nat.zero_le
theorem bq:type_of% @or_false:=@or_false
theorem br:type_of% @List.getElem_mem:=@List.getElem_mem
theorem bt:type_of% @PySem.wpAny_newObj_type:=@PySem.wpAny_newObj_type
theorem bu:type_of% @PySem.wpAny_holding:=@PySem.wpAny_holding
theorem bx:type_of% @Nat.lt_succ_of_lt:=@Nat.lt_succ_of_lt
theorem bz:type_of% @List.mem_range:=@List.mem_range
theorem bA:type_of% @List.nodup_cons:=@List.nodup_cons
theorem bB:type_of% @PySem.Heap.SameBut.update:=@PySem.Heap.SameBut.update
theorem bC:type_of% @Ne.symm:=@Ne.symm
theorem bD:type_of% @Nat.lt_or_ge:=@Nat.lt_or_ge
theorem bE:type_of% @Array.getElem?_eq_getElem:=@Array.getElem?_eq_getElem
theorem bG:type_of% @List.nodup_append:=@List.nodup_append
theorem bI:type_of% @PySem.F.slot_zip_next:=@PySem.F.slot_zip_next
theorem bJ:type_of% @List.length_set:=@List.length_set
theorem bK:type_of% @Bool.false_ne_true:=@Bool.false_ne_true
theorem bM:type_of% @PySem.mem_of_lookup:=@PySem.mem_of_lookup
theorem bN:type_of% @PyProof.Rows.slot_tuple_getitem:=@PyProof.Rows.slot_tuple_getitem
theorem bO:type_of% @List.getElem?_zip_eq_some:=@List.getElem?_zip_eq_some
theorem bP:type_of% @PySem.Around.in1_units:=@PySem.Around.in1_units
theorem bQ:type_of% @List.zipIdx_cons:=@List.zipIdx_cons
theorem bT:type_of% @beq_eq_false_iff_ne:=@beq_eq_false_iff_ne
theorem bU:type_of% @Array.length_toList:=@Array.length_toList
theorem bV:type_of% @PySem.Calls.spliced_cons:=@PySem.Calls.spliced_cons
theorem bX:type_of% @List.all_eq_true:=@List.all_eq_true
theorem bZ:type_of% @List.length_singleton:=@List.length_singleton
theorem cb:type_of% @List.length_nil:=@List.length_nil
theorem cc:type_of% @List.mem_iff_getElem:=@List.mem_iff_getElem
theorem ce:type_of% @List.replicate_succ:=@List.replicate_succ
theorem cf:type_of% @List.prefix_refl:=@List.prefix_refl
theorem cg:type_of% @Bool.and_eq_true:=@Bool.and_eq_true
theorem ci:type_of% @PySem.W.mg_none_of:=@PySem.W.mg_none_of
theorem ck:type_of% @PySem.wpAny_pyIter_enum:=@PySem.wpAny_pyIter_enum
theorem cm:type_of% @List.nil_append:=@List.nil_append
theorem cr:type_of% @List.getElem?_eq_none:=@List.getElem?_eq_none
theorem cu:type_of% @List.length_range:=@List.length_range
theorem cw:type_of% @List.append_assoc:=@List.append_assoc
theorem cx:type_of% @Nat.le_succ:=@Nat.le_succ
theorem cB:type_of% @Nat.lt_succ_self:=@Nat.lt_succ_self
theorem cC:type_of% @List.map_nil:=@List.map_nil
theorem cG:type_of% @List.drop_eq_getElem_cons:=@List.drop_eq_getElem_cons
theorem cO:type_of% @List.any_cons:=@List.any_cons
theorem cP:type_of% @PySem.F.slot_dict_keyiterator_next:=@PySem.F.slot_dict_keyiterator_next
theorem cT:type_of% @Bool.false_eq_true:=@Bool.false_eq_true
theorem cU:type_of% @Array.forIn_toList:=@Array.forIn_toList
theorem cY:type_of% @PySem.wpAny_truthy_bool:=@PySem.wpAny_truthy_bool
theorem cZ:type_of% @PySem.Calls.spliced_nil:=@PySem.Calls.spliced_nil
theorem dj:type_of% @PySem.wpAny_updateSeq_pair:=@PySem.wpAny_updateSeq_pair
theorem dl:type_of% @if_false:=@if_false
theorem dm:type_of% @decide_eq_true:=@decide_eq_true
theorem dn:type_of% @Nat.zero_add:=@Nat.zero_add
theorem dq:type_of% @Nat.le_of_lt:=@Nat.le_of_lt
theorem dr:type_of% @List.forIn_nil:=@List.forIn_nil
theorem du:type_of% @List.flatten_cons:=@List.flatten_cons
theorem dv:type_of% @PySem.Calls.evalArgs_plain:=@PySem.Calls.evalArgs_plain
theorem dJ:type_of% @PySem.wpAny_onRaise:=@PySem.wpAny_onRaise
theorem dL:type_of% @PySem.wpAny_attempt:=@PySem.wpAny_attempt
theorem dR:type_of% @PySem.wpAny_passesOwn:=@PySem.wpAny_passesOwn
theorem dU:type_of% @PySem.wpAny_rule:=@PySem.wpAny_rule
theorem dW:type_of% @PySem.wpAny_pyIter_tuple:=@PySem.wpAny_pyIter_tuple
theorem dX:type_of% @PySem.F.slot_dict_setdefault:=@PySem.F.slot_dict_setdefault
theorem dY:type_of% @List.of_mem_zip:=@List.of_mem_zip
theorem dZ:type_of% @List.cons.injEq:=@List.cons.injEq
theorem eR:type_of% @PySem.eqIsQuiet_byValue:=@PySem.eqIsQuiet_byValue
theorem eS:type_of% @List.nodup_nil:=@List.nodup_nil
theorem eT:type_of% @Int.emod_lt_of_pos:=@Int.emod_lt_of_pos
theorem eU:type_of% @PySem.Heap.get?_update_other:=@PySem.Heap.get?_update_other
theorem eV:type_of% @PySem.F.args_zip_next_1:=@PySem.F.args_zip_next_1
theorem eX:type_of% @PySem.Calls.callWith_builtin:=@PySem.Calls.callWith_builtin
theorem fI:type_of% @of_decide_eq_true:=@of_decide_eq_true
theorem fJ:type_of% @decide_eq_true_eq:=@decide_eq_true_eq
theorem fK:type_of% @PySem.Heap.get?_update_self:=@PySem.Heap.get?_update_self
theorem fQ:type_of% @PySem.F.entry_zip_next:=@PySem.F.entry_zip_next
theorem gm:type_of% @PySem.wpAny_typeNameOfWhole_keyiter:=@PySem.wpAny_typeNameOfWhole_keyiter
theorem gn:type_of% @PySem.wpAny_newFunctionEnv:=@PySem.wpAny_newFunctionEnv
theorem gp:type_of% @PySem.wpAny_letGo:=@PySem.wpAny_letGo
theorem gq:type_of% @Nat.succ_ne_self:=@Nat.succ_ne_self
theorem gr:type_of% @List.filter_cons:=@List.filter_cons
theorem gt:type_of% @List.drop_length:=@List.drop_length
theorem gu:type_of% @List.any_eq_true:=@List.any_eq_true
theorem iQ:type_of% @List.mem_filter:=@List.mem_filter
theorem iR:type_of% @Int.emod_nonneg:=@Int.emod_nonneg
theorem jV:type_of% @PySem.F.slot_tuple_iterator_next:=@PySem.F.slot_tuple_iterator_next
noncomputable abbrev Fg9 := PySem.W.Frag
noncomputable abbrev Pn9 := List (PySem.Addr×PySem.Obj)
noncomputable abbrev VS9 := PySem.Value->PySem.Shared->Prop
section
namespace L2
open PySem PySem.Spec PyProof.Rows
noncomputable abbrev A7:=Sum Int Str
noncomputable def Q3w:A7->Value->Bool
 | .inl k,v=>Value.isInt k v
 | .inr x,v=>Value.isStrOf x v
noncomputable def keyH (w:World):A7->Int
 | .inl k=>hashInt k
 | .inr x=>hashStr w x
theorem Q0i:∀{k:A7}{v:Value},Q3w k v=true->(∃i t,k=Sum.inl i/\v=Value.int i t)\/(∃x t,k=Sum.inr x/\v=Value.str x t)
 | .inl i,v,h=>by
  obtain⟨t,e⟩:=Value.isInt_shape (k:=i) (v:=v) h
  exact .inl ⟨i,t,rfl,e⟩
 | .inr x,v,h=>by
  obtain⟨t,e⟩:=Value.isStrOf_shape (x:=x) (v:=v) h
  exact .inr ⟨x,t,rfl,e⟩
theorem Y9c (i:Int) (t:Tok):Q3w (.inl i) (.int i t)=true:=by simp [Q3w,Value.isInt]
theorem Y9d (x:Str) (t:Tok):Q3w (.inr x) (.str x t)=true:=by simp [Q3w,Value.isStrOf]
theorem Y9f (a b:Int):decide ((Sum.inl a:A7)=Sum.inl b)=(a==b):=by
 by_cases e:a=b
 ·subst e;simp
 ·have h:¬ (Sum.inl a:A7)=Sum.inl b:=fun q=>e (Sum.inl.inj q)
  rw [aM h]
  exact(bT.mpr e).symm
theorem Y9i (a b:Str):decide ((Sum.inr a:A7)=Sum.inr b)=decide (a=b):=by
 by_cases e:a=b
 ·subst e;simp
 ·have h:¬ (Sum.inr a:A7)=Sum.inr b:=fun q=>e (Sum.inr.inj q)
  rw [aM h,aM e]
theorem Y9g (a:Int) (b:Str):decide ((Sum.inl a:A7)=Sum.inr b)=false:=aM (fun q=>nomatch q)
theorem Y9h (a:Str) (b:Int):decide ((Sum.inr a:A7)=Sum.inl b)=false:=aM (fun q=>nomatch q)
noncomputable def J9 (prog:Program) (w:World):PySem.KeyKind prog w A7 where
 is:=Q3w
 hash:=keyH w
 inj:=fun v a b ha hb=>by
  rcases Q0i ha with⟨i,t,rfl,rfl⟩ | ⟨x,t,rfl,rfl⟩
  ·rcases Q0i hb with⟨j,u,rfl,e⟩ | ⟨y,u,rfl,e⟩
   ·injection e with e1 _;rw [e1]
   ·exact nomatch e
  ·rcases Q0i hb with⟨j,u,rfl,e⟩ | ⟨y,u,rfl,e⟩
   ·exact nomatch e
   ·injection e with e1 _;rw [e1]
 byValue:=fun k v h=>by
  rcases Q0i h with⟨i,t,rfl,rfl⟩ | ⟨x,t,rfl,rfl⟩ <;> rfl
 pyHash:=fun hv h=>by
  rcases Q0i hv with⟨i,t,rfl,rfl⟩ | ⟨x,t,rfl,rfl⟩
  ·exact wpAny_pyHash_int h
  ·exact wpAny_pyHash_str h
 eqBool:=fun hu hv h=>by
  rcases Q0i hu with⟨i,t,rfl,rfl⟩ | ⟨x,t,rfl,rfl⟩
  ·rcases Q0i hv with⟨j,u,rfl,rfl⟩ | ⟨y,u,rfl,rfl⟩
   ·rw [Y9f]at h;exact wpAny_eqBool_int h
   ·rw [Y9g]at h;exact SeqAt.EqAt.int_str i t y u _ _ _ _ h
  ·rcases Q0i hv with⟨j,u,rfl,rfl⟩ | ⟨y,u,rfl,rfl⟩
   ·rw [Y9h]at h;exact SeqAt.EqAt.str_int x t j u _ _ _ _ h
   ·rw [Y9i]at h;exact wpAny_eqBool_str h
 «strs»:=fun k x t v h=>by
  rcases Q0i h with⟨i,u,rfl,e⟩ | ⟨y,u,rfl,e⟩
  ·exact nomatch e
  ·injection e with e1 _
   subst e1
   cases v <;> rfl
theorem W0o (prog:Program) (w:World) (i:Int) (t:Tok):(J9 prog w).is (.inl i) (.int i t)=true:=Y9c i t
theorem W0p (prog:Program) (w:World) (x:Str) (t:Tok):(J9 prog w).is (.inr x) (.str x t)=true:=Y9d x t
end L2
namespace L2
open PySem PySem.Spec PyProof.Rows
inductive V where
 | non | bl (b:Bool) | int (i:Int) | str (x:Str) | byt (b:Array UInt8) | flt (b:UInt64) | ref (a:Addr) | ty (n:String)
 deriving DecidableEq
noncomputable def B7:V->Value->Prop
 | .non,u=>u=Value.none
 | .bl b,u=>u=Value.bool b
 | .int i,u=>∃t,u=Value.int i t
 | .str x,u=>∃t,u=Value.str x t
 | .byt b,u=>∃t,u=Value.bytes b t
 | .flt b,u=>∃t,u=Value.float b t
 | .ref a,u=>u=Value.ref a
 | .ty n,u=>u=Value.type n
noncomputable abbrev B9:List V->List Value->Prop:=Paired B7
theorem B9.length {xs:List V}{us:List Value} (r:B9 xs us):xs.length=us.length:=Paired.length r
theorem B9.get:∀{xs:List V}{us:List Value}{i:Nat}{x:V},B9 xs us->xs[i]?=some x->∃u,us[i]?=some u/\B7 x u
 | _,_,_,_,.nil,e=>by simp at e
 | _,_,0,_,.cons r _,e=>by simp at e;subst e;exact⟨_,rfl,r⟩
 | _,_,i+1,x,.cons _ t,e=>by
  obtain⟨u,h1,h2⟩:=B9.get (i:=i) (x:=x) t (by simpa using e)
  exact⟨u,by simpa using h1,h2⟩
theorem B9.append:∀{xs ys:List V}{us ws:List Value},B9 xs us->B9 ys ws->B9 (xs++ys) (us++ws)
 | _,_,_,_,.nil,s=>s
 | _,_,_,_,.cons r t,s=>.cons r (B9.append t s)
theorem B9.take:∀{xs:List V}{us:List Value} (n:Nat),B9 xs us->B9 (xs.take n) (us.take n)
 | _,_,0,_=>.nil
 | _,_,_+1,.nil=>.nil
 | _,_,n+1,.cons r t=>.cons r (B9.take n t)
theorem B9.drop:∀{xs:List V}{us:List Value} (n:Nat),B9 xs us->B9 (xs.drop n) (us.drop n)
 | _,_,0,r=>r
 | _,_,_+1,.nil=>.nil
 | _,_,n+1,.cons _ t=>B9.drop n t
noncomputable def X8:Option V->Option Value->Prop
 | some v,some u=>B7 v u
 | none,none=>True
 | _,_=>False
noncomputable def KV {κ:Type}:List (κ×V)->List (κ×Value)->Prop:=Paired fun(p:κ×V) (q:κ×Value)=>p.1=q.1/\B7 p.2 q.2
noncomputable def kV:A7->V
 | .inl i=>.int i
 | .inr x=>.str x
inductive HO where
 | lst (xs:List V)
 | tup (xs:List V)
 | dK (kvs:List (A7×V)) | dT (kvs:List (List A7×V))
 | set (S:Int->Bool) (n:Nat)
 | ins (C dx:Addr) (fs:List (Str×V))
 | own (x:Addr)
 | xd (fs:List (Str×V))
 | met (f x:Addr)
 | rng (lo hi:Int)
 | frz (o:Obj) (u:HO)
 | tab
 | tbl (ps:Array Value)
 | ext (φ:Heap->Prop)
noncomputable abbrev Hp:=Addr->Option HO
noncomputable def upd (H:Hp) (a:Addr) (o:HO):Hp:=fun b=>if b=a then some o else H b
theorem upd_same {H:Hp}{a:Addr}{o:HO}:upd H a o a=some o:=by unfold upd;rw [aI rfl]
theorem B0 {H:Hp}{a b:Addr}{o:HO} (h:b≠a):upd H a o b=H b:=by unfold upd;rw [aD h]
theorem W8 {H:Hp}{a b:Addr}{o u:HO} (h:H a=some o) (h':H b=some u) (d:o≠u):a≠b:=by
 intro e;subst e;rw [h]at h';exact d (aB h')
theorem U7 {H:Hp}{a b:Addr}{o:HO} (h:H a=some o) (h':H b=none):a≠b:=by
 intro e;subst e;rw [h]at h';cases h'
def Q4y (o:Obj):Prop:=∃vs q t,o.data=.fields vs/\vs[1]?=some (Value.str q t)
def Q7c (a:Addr) (u:HO):Prop:=u=.own a\/∃o,u=.frz o (.own a)
section
variable (P:Program) (w:World)
noncomputable def G1 (H:Hp) (h:Heap) (a:Addr):HO->Prop
 | .lst xs=>xs.length<=sizeLine/\∃(aS:List Value) (n:Nat),B9 xs aS/\h.get? a=some { cls:=.type "list",data:=.seq aS.toArray n }
 | .tup xs=>xs.length<=sizeLine/\∃aS:List Value,B9 xs aS/\IsTup h a aS.toArray
 | .dK kvs=>kvs.length<=sizeLine/\(a==sysModules)=false/\∃vs,KV kvs vs/\h.DictOf (J9 P w) a vs
 | .dT kvs=>kvs.length<=sizeLine/\(a==sysModules)=false/\∃xs:List (List A7×Addr×Value),
   Paired (fun(p:List A7×V) (q:List A7×Addr×Value)=>p.1=q.1/\H q.2.1=some (.tup (p.1.map kV))/\B7 p.2 q.2.2) kvs xs /\
   ∃o es ep,h.get? a=some o/\o.ExactDict/\o.data=.dict es ep/\es.toList=xs.map (entryOfKey (tupleKind (J9 P w)))/\(xs.map (·.1)).Nodup
 | .set S n=>h.SetOf (intKind P w) a S n
 | .ins C dx fs=>H dx=some (.own a)/\fs.length<=1000/\dx≠a/\h.get? a=some (PySem.W.instObj C dx) /\
   ∃mA,h.Ns1 dx mA/\(∀f,X8 (fs.lookup f) (mA f))/\PySem.Within mA (fs.map (·.1))
 | .own _=>∃o,h.get? a=some o
 | .xd fs=>∃mA,h.Ns1 a mA/\∀f,X8 (fs.lookup f) (mA f)
 | .rng lo hi=>∃t u v,h.get? a=some { cls:=.type "range",data:=.fields #[.int lo t,.int hi u,.int 1 v] }
 | .frz o u=>h.get? a=some o/\G1 H h a u
 | .tab=>∃ps,h.get? a=some (PySem.W.tabObj ps)/\TriplesOk ps.toList/\∀pos cv,codeAmong pos ps.toList=some cv->∃c' oc,cv=.ref c'/\H c'=some (.frz oc (.own a))/\Q4y oc
 | .tbl ps=>h.get? a=some { cls:=.none,data:=.fields ps }
 | .met f x=>h.get? a=some (PySem.W.methodObj (.ref f) (.ref x))
 | .ext φ=>φ h/\(∃o,h.get? a=some o)/\∀h1 h2:Heap,φ h1->(∀o,h1.get? a=some o->h2.get? a=some o)->φ h2
def F5 (H:Hp) (h:Heap):Prop:=∀a o,H a=some o->G1 P w H h a o
end
section
variable {P:Program}{w:World}{H H':Hp}{h h':Heap}{a:Addr}{o:HO}
theorem G1.lt (x:G1 P w H h a o):a<h.objs.size:=by
 cases o with
 | lst xs=>obtain⟨_,_,_,_,e⟩:=x;exact ak e
 | tup xs=>obtain⟨_,_,_,p⟩:=x;exact p.lt
 | dK kvs=>obtain⟨_,_,_,_,o,_,_,e,_⟩:=x;exact ak e
 | dT kvs=>obtain⟨_,_,_,_,o,_,_,e,_⟩:=x;exact ak e
 | set S n=>obtain⟨o,_,_,_,e,_⟩:=x;exact ak e
 | ins C dx fs=>obtain⟨_,_,_,e,_⟩:=x;exact ak e
 | own y=>obtain⟨_,e⟩:=x;exact ak e
 | xd fs=>obtain⟨_,⟨_,_,_,e,_⟩,_⟩:=x;exact ak e
 | rng lo hi=>obtain⟨_,_,_,e⟩:=x;exact ak e
 | frz ob u=>obtain⟨e,_⟩:=x;exact ak e
 | tab=>obtain⟨_,e,_⟩:=x;exact ak e
 | tbl ps=>exact ak (show h.get? a=some _ from x)
 | met f y=>exact ak (show h.get? a=some _ from x)
 | ext φ=>obtain⟨_,⟨_,e⟩,_⟩:=x;exact ak e
theorem Paired.mapP {α β:Type}{F G:α->β->Prop}:∀{l₁:List α}{l₂:List β},Paired F l₁ l₂->(∀a b,F a b->G a b)->Paired G l₁ l₂
 | _,_,.nil,_=>.nil
 | _,_,.cons r t,f=>.cons (f _ _ r) (Paired.mapP t f)
theorem G1.stay (x:G1 P w H h a o) (k:∀b u,(b=a\/H b=some (.own a))->h.get? b=some u->h'.get? b=some u)
  (ho:∀b u,Q7c a u->H b=some u->H' b=some u) (ht:∀b xs,H b=some (.tup xs)->H' b=some (.tup xs)):G1 P w H' h' a o:=by
 induction o with
 | lst xs=>obtain⟨z,aS,n,r,e⟩:=x;exact⟨z,aS,n,r,k _ _ (.inl rfl) e⟩
 | tup xs=>obtain⟨z,aS,r,ob,e,c⟩:=x;exact⟨z,aS,r,ob,k _ _ (.inl rfl) e,c⟩
 | dK kvs=>obtain⟨z,y,vs,r,ob,es,ep,e,c⟩:=x;exact⟨z,y,vs,r,ob,es,ep,k _ _ (.inl rfl) e,c⟩
 | dT kvs =>
  obtain⟨z,y,xs,r,ob,es,ep,e,c⟩:=x
  exact⟨z,y,xs,Paired.mapP r fun p q z=>⟨z.1,ht _ _ z.2.1,z.2.2⟩,ob,es,ep,k _ _ (.inl rfl) e,c⟩
 | set S n=>obtain⟨ob,es,ep,t,e,c⟩:=x;exact⟨ob,es,ep,t,k _ _ (.inl rfl) e,c⟩
 | ins C dx fs =>
  obtain⟨d,z,ne,e,mA,⟨od,es,ep,e2,c⟩,r⟩:=x
  exact⟨ho _ _ (.inl rfl) d,z,ne,k _ _ (.inl rfl) e,mA,⟨od,es,ep,k _ _ (.inr d) e2,c⟩,r⟩
 | own y=>obtain⟨ob,e⟩:=x;exact⟨ob,k _ _ (.inl rfl) e⟩
 | xd fs=>obtain⟨mA,⟨od,es,ep,e,c⟩,r⟩:=x;exact⟨mA,⟨od,es,ep,k _ _ (.inl rfl) e,c⟩,r⟩
 | rng lo hi=>obtain⟨t,u,v,e⟩:=x;exact⟨t,u,v,k _ _ (.inl rfl) e⟩
 | frz ob u ih=>obtain⟨e,q⟩:=x;exact⟨k _ _ (.inl rfl) e,ih q⟩
 | tab =>
  obtain⟨ps,e,t,en⟩:=x
  exact⟨ps,k _ _ (.inl rfl) e,t,fun pos cv q=>let ⟨c',oc,e1,e2,e3⟩:=en pos cv q;⟨c',oc,e1,ho _ _ (.inr ⟨_,rfl⟩) e2,e3⟩⟩
 | tbl ps =>
  have e:h.get? a=some { cls:=.none,data:=.fields ps }:=x
  show h'.get? a=some { cls:=.none,data:=.fields ps }
  exact k a _ (.inl rfl) e
 | met f y =>
  have e:h.get? a=some (PySem.W.methodObj (.ref f) (.ref y)):=x
  show h'.get? a=some (PySem.W.methodObj (.ref f) (.ref y))
  exact k a _ (.inl rfl) e
 | ext φ=>obtain⟨p,⟨o,e⟩,st⟩:=x;exact⟨st _ _ p fun o q=>k _ _ (.inl rfl) q,⟨o,k _ _ (.inl rfl) e⟩,st⟩
theorem F5.lt (x:F5 P w H h) (e:H a=some o):a<h.objs.size:=(x a o e).lt
theorem F5.fresh (x:F5 P w H h) (e:h.objs.size<=a):H a=none:=by
 cases q:H a with
 | none=>rfl
 | some u=>exact absurd (ax (x.lt q) e) (aO _)
theorem F5.kept (x:F5 P w H h) (k:∀b u,h.get? b=some u->h'.get? b=some u):F5 P w H h':=fun a o e =>
 (x a o e).stay (fun b u _ q=>k b u q) (fun _ _ _ q=>q) fun _ _ q=>q
theorem F5.laid (x:F5 P w H h) (k:∀b u,h.get? b=some u->h'.get? b=some u) (hp:h.objs.size<=a) (new:G1 P w (upd H a o) h' a o):F5 P w (upd H a o) h':=fun b u e=>by
 have hn:=x.fresh hp
 by_cases hb:b=a
 ·subst hb;rw [upd_same]at e;cases e;exact new
 ·rw [B0 hb]at e
  exact(x b u e).stay (fun c v _ q=>k c v q) (fun c u _ q=>by rw [B0 (U7 q hn)];exact q) fun c xs q=>by rw [B0 (U7 q hn)];exact q
end
def Rd (H:Hp) (a:Addr) (u:HO):Prop:=H a=some u\/∃o,H a=some (.frz o u)
theorem Rd.ok {P:Program}{w:World}{H:Hp}{h:Heap}{a:Addr}{u:HO} (r:Rd H a u) (x:F5 P w H h):G1 P w H h a u:=by
 rcases r with r | ⟨o,r⟩
 ·exact x a u r
 ·obtain⟨_,q⟩:=x a _ r
  exact q
noncomputable def Mut:Option HO->Prop
 | some (.lst _)=>True
 | some (.dK _)=>True
 | some (.dT _)=>True
 | some (.set _ _)=>True
 | some (.ins _ _ _)=>True
 | some (.ext _)=>True
 | some .tab=>True
 | _=>False
section
variable {P:Program}{w:World}{H:Hp}{h h':Heap}{x e:Addr}{o':HO}
theorem F5.write (ok:F5 P w H h) (mu:Mut (H x)) (he:e=x\/H e=some (.own x)) (k:∀b u,b≠e->h.get? b=some u->h'.get? b=some u) (jT:∃u,h'.get? e=some u)
  (new:G1 P w (upd H x o') h' x o'):F5 P w (upd H x o') h':=fun b u q=>by
 have lJ:∀c y,H c=some (.own y)->c≠x:=fun c y r z=>by subst z;rw [r]at mu;exact mu
 have ke:∀c u y,Q7c y u->H c=some u->c≠x:=fun c u y ow r z=>by
  subst z
  rw [r]at mu
  rcases ow with rfl | ⟨o,rfl⟩
  ·exact mu
  ·exact mu
 have lI:∀c xs,H c=some (.tup xs)->c≠x:=fun c xs r z=>by subst z;rw [r]at mu;exact mu
 by_cases hb:b=x
 ·subst hb;rw [upd_same]at q;cases q;exact new
 ·rw [B0 hb]at q
  by_cases hbe:b=e
  ·have q':H b=some (.own x):=by
    rcases he with z | z
    ·exact absurd (hbe.trans z) hb
    ·rw [hbe];exact z
   rw [q]at q';cases q'
   obtain⟨v,hv⟩:=jT
   exact⟨v,by rw [hbe];exact hv⟩
  ·refine(ok b u q).stay (fun c v hc r=>k c v ?_ r) (fun c u ow r=>by rw [B0 (ke c u b ow r)];exact r) fun c xs r=>by rw [B0 (lI c xs r)];exact r
   rcases hc with rfl | hc
   ·exact hbe
   ·rintro rfl
    rcases he with z | z
    ·exact lJ c b hc z
    ·rw [hc]at z;cases z;exact hb rfl
end
structure Un (fs ex:List Addr) (H H':Hp) (h h':Heap):Prop where
 keep:∀b o,h.get? b=some o->H b=none->b∉fs->b∉ex->h'.get? b=some o
 slot:∀b o,h.get? b=some o->H b=none->b∈fs->b∉ex->∃sl,h'.get? b=some { o with slots:=sl }
 free:∀b o,h.get? b=some o->H b=none->b∉ex->H' b=none
 there:∀b o,h.get? b=some o->b∉ex->∃o',h'.get? b=some o'
 tups:∀b xs,H b=some (.tup xs)->H' b=some (.tup xs)
 frzs:∀b o u,H b=some (.frz o u)->H' b=some (.frz o u)
 tbls:∀b ps,H b=some (.tbl ps)->∃more,H' b=some (.tbl (ps++more))
section
variable {fs re ex sf:List Addr}{H H1 H2:Hp}{h h1 h2 h':Heap}{a x e:Addr}{o:HO}
theorem Un.any (u:Un fs ex H H1 h h1) {b:Addr}{ob:Obj} (q:h.get? b=some ob) (n:H b=none) (hx:b∉ex):∃sl,h1.get? b=some { ob with slots:=sl }:=by
 by_cases hb:b∈fs
 ·exact u.slot b ob q n hb hx
 ·exact⟨ob.slots,u.keep b ob q n hb hx⟩
theorem Un.kept (k:∀b u,h.get? b=some u->h'.get? b=some u):Un fs ex H H h h' :=
 ⟨fun b ob q _ _ _=>k b ob q,fun b ob q _ _ _=>⟨ob.slots,k b ob q⟩,fun _ _ _ n _=>n,fun b ob q _=>⟨ob,k b ob q⟩,fun _ _ q=>q,fun _ _ _ q=>q,fun _ ps q=>⟨#[],by rw [q];simp⟩⟩
theorem Un.refl:Un fs ex H H h h:=Un.kept fun _ _ q=>q
theorem Un.laid (k:∀b u,h.get? b=some u->h'.get? b=some u) (hp:h.objs.size<=a) (hn:H a=none):Un fs ex H (upd H a o) h h' where
 keep:=fun b u q _ _ _=>k b u q
 slot:=fun b u q _ _ _=>⟨u.slots,k b u q⟩
 free:=fun b u q n _=>by rw [B0 (ay (ax (ak q) hp))];exact n
 there:=fun b u q _=>⟨u,k b u q⟩
 tups:=fun b xs q=>by rw [B0 (U7 q hn)];exact q
 frzs:=fun b u xs q=>by rw [B0 (U7 q hn)];exact q
 tbls:=fun b ps q=>⟨#[],by rw [B0 (U7 q hn),q];simp⟩
theorem Un.write (mu:Mut (H x)) (he:e=x\/H e=some (.own x)) (k:∀b u,b≠e->h.get? b=some u->h'.get? b=some u) (jT:∃u,h'.get? e=some u):Un fs ex H (upd H x o) h h':=by
 have hx:∀b,H b=none->b≠x:=fun b n z=>by subst z;rw [n]at mu;exact mu
 have hb:∀b,H b=none->b≠e:=fun b n z=>by
  subst z
  rcases he with r | r
  ·exact hx b n r
  ·rw [n]at r;cases r
 have hm:∀b u,H b=some u->¬ Mut (some u)->b≠x:=fun b u q nm z=>by subst z;rw [q]at mu;exact nm mu
 refine⟨fun b u q n _ _=>k b u (hb b n) q,fun b u q n _ _=>⟨u.slots,k b u (hb b n) q⟩,fun b u q n _=>by rw [B0 (hx b n)];exact n,fun b u q _=>?_,
  fun b xs q=>by rw [B0 (hm b _ q fun z=>z)];exact q,fun b u xs q=>by rw [B0 (hm b _ q fun z=>z)];exact q,fun b ps q=>⟨#[],by rw [B0 (hm b _ q fun z=>z),q];simp⟩⟩
 by_cases hbe:b=e
 ·subst hbe;exact jT
 ·exact⟨u,k b u hbe q⟩
end
noncomputable def trk (h:Heap) (H:Hp):List Addr:=(List.range h.objs.size).filter fun a=>(H a).isSome
noncomputable def Q0h (h:Heap) (H:Hp):Heap:=PySem.W.hideAll h (trk h H)
theorem Y8f (h:Heap) (H:Hp):(Q0h h H).objs.size=h.objs.size:=PySem.W.hideAll_size _ _
theorem Y8e {h:Heap}{H:Hp}{b:Addr}{o:Obj} (e:h.get? b=some o) (n:H b=none):(Q0h h H).get? b=some o :=
 PySem.W.hideAll_get _ e fun hm=>by
  have q:(H b).isSome=true:=(iQ.mp hm).2
  rw [n]at q;simp at q
theorem W1s {h:Heap}{H:Hp}{b:Addr}{o:Obj} (e:(Q0h h H).get? b=some o):h.get? b=some o/\H b=none:=by
 have e':h.get? b=some o:=PySem.W.of_hideAll (trk h H) e
 refine⟨e',?_⟩
 cases q:H b with
 | none=>rfl
 | some x =>
  have hm:b∈trk h H:=iQ.mpr ⟨bz.mpr (ak e'),by simp [q]⟩
  have z:(Q0h h H).get? b=none:=PySem.W.hideAll_none (trk h H) hm
  rw [z]at e;cases e
end L2
namespace L2
open PySem PySem.Spec PyProof.Rows
structure Mod (K:Fg9) (mg:Str->Option Value) (base:Heap):Prop where
 kin:K.In base
 glob:base.Ns mainGlobals mg
 blt:∃mb,base.Ns builtinsNs mb/\∀x:Str,x≠"__name__"->mb x=bootBuiltins x
 nolimit:base.NoLimit
structure Cx where
 prog:Program
 w:World
 K:Fg9
 mg:Str->Option Value
 base:Heap
 A:Around
 N:List Str
 s₀:Shared
 H₀:Hp
 env:Env
 outer:List Env
 stack:List Env
 ex:List Addr
 fn:Str->Bool
 calm:Bool
 pn:Pn9
 xe:VS9
noncomputable def frs (l:List Env):List Addr:=l.filterMap (·.frame)
noncomputable abbrev Cx.fs (X:Cx):List Addr:=frs X.outer
def Vis (sc:Scope) (x:Str):Prop:=sc.names.lookup x=some .local\/sc.names.lookup x=some .cell\/sc.names.lookup x=some .free
def Loc (sc:Scope) (x:Str):Prop:=sc.names.lookup x=some .local\/sc.names.lookup x=some .cell
def Look (env:Env) (h:Heap) (m:Str->Option Value) (x:Str) (u:Value):Prop :=
 (env.kindOf x=some .local/\m x=some u)\/((env.kindOf x=some .cell\/env.kindOf x=some .free)/\∃c,env.cells.lookup x=some c/\h.IsCell c (some u))
structure Cx.Ok (X:Cx):Prop where
 mod:Mod X.K X.mg X.base
 kind:X.env.scope.kind=.function
 glob:X.env.globals=mainGlobals
 blt:X.env.builtins=builtinsNs
 above:X.s₀.heap.objs.size<=X.env.locals
 inj:∀x y c,X.env.cells.lookup x=some c->X.env.cells.lookup y=some c->x=y
 has:∀x,(X.env.kindOf x=some .cell\/X.env.kindOf x=some .free)->∃c,X.env.cells.lookup x=some c
 cab:∀x c,X.fn x=true->X.env.cells.lookup x=some c->X.s₀.heap.objs.size<=c
 hd:X.calm=true->X.A.handled=none
 frames:X.A.frames=some X.stack
 stk:X.stack=X.outer\/(X.stack=X.env::X.outer/\X.env.frame=some X.env.locals)
 exf:∀b∈X.ex,b≠X.env.locals/\∀x c,X.env.cells.lookup x=some c->c≠b
 bs:∀b o,X.base.get? b=some o->X.s₀.heap.get? b=some o/\X.H₀ b=none
 bsz:X.base.objs.size<=X.s₀.heap.objs.size
 noex:∀b o,X.base.get? b=some o->b∉X.ex
 exfs:∀b∈X.ex,b∉X.fs
 funs:X.s₀.heap.FunFrames X.base X.outer
 frf:∀b∈X.fs,X.H₀ b=none
structure A0 (X:Cx) (ae:Pn9) (σ:List (Option V)) (H:Hp) (s:Shared):Prop where
 ok:X.Ok
 os:s.os=X.s₀.os
 bare:AllBare s.gens
 base:Un X.fs X.ex X.H₀ H X.s₀.heap s.heap
 loc:∃m,s.heap.Ns X.env.locals m/\∀(i:Nat) (x:Str) (v:V),X.N[i]?=some x->σ[i]?=some (some v)->Vis X.env.scope x->∃u,B7 v u/\Look X.env s.heap m x u
 cell:∀x c,X.env.cells.lookup x=some c->∃v,s.heap.IsCell c v
 free:H X.env.locals=none
 freeC:∀x c,X.env.cells.lookup x=some c->H c=none
 pin:∀p∈X.pn++ae,s.heap.get? p.1=some p.2/\H p.1=none/\p.1≠X.env.locals/\p.1∉X.fs/\∀v,p.2.data≠.cell v
 hok:F5 X.prog X.w H s.heap
 len:σ.length=X.N.length
section
variable {X:Cx}{ae:Pn9} {σ:List (Option V)}{H H':Hp}{s:Shared}{h':Heap}
theorem Cx.Ok.nofr (ok:X.Ok) {b:Addr}{o:Obj} (e:X.base.get? b=some o):b∉X.fs:=fun hb=>by
 have:=(ok.funs.mem hb).1
 rw [e]at this;cases this
theorem A0.bs (I:A0 X ae σ H s):∀b o,X.base.get? b=some o->s.heap.get? b=some o/\H b=none:=fun b o e =>
 ⟨I.base.keep b o (I.ok.bs b o e).1 (I.ok.bs b o e).2 (I.ok.nofr e) (I.ok.noex b o e),I.base.free b o (I.ok.bs b o e).1 (I.ok.bs b o e).2 (I.ok.noex b o e)⟩
theorem A0.bk (I:A0 X ae σ H s):∀b o,X.base.get? b=some o->s.heap.get? b=some o:=fun b o e=>(I.bs b o e).1
theorem A0.mod (I:A0 X ae σ H s):Mod X.K X.mg X.base:=I.ok.mod
theorem A0.kIn (I:A0 X ae σ H s):X.K.In s.heap:=I.ok.mod.kin.keeps I.bk
theorem A0.lt (I:A0 X ae σ H s):X.env.locals<s.heap.objs.size:=let ⟨_,hn,_⟩:=I.loc;hn.lt
theorem A0.sz (I:A0 X ae σ H s):X.s₀.heap.objs.size<=s.heap.objs.size:=aR I.ok.above (dq I.lt)
theorem A0.nofs (I:A0 X ae σ H s) {a:Addr} (h:s.heap.objs.size<=a):a∉X.fs:=fun hb=>by
 obtain⟨_,o,ho,_⟩:=I.ok.funs.mem hb
 exact absurd (ax (ak ho) (aR I.sz h)) (aO _)
theorem A0.cne (I:A0 X ae σ H s):∀x c,X.env.cells.lookup x=some c->c≠X.env.locals:=fun x c e z=>by
 obtain⟨v,o,ho,hd⟩:=I.cell x c e
 obtain⟨m,⟨o',es,ep,jx,qJ,_⟩,_⟩:=I.loc
 rw [z,jx]at ho;cases ho;rw [qJ]at hd;cases hd
theorem A0.funs (I:A0 X ae σ H s):s.heap.FunFrames X.base X.outer:=by
 have all:∀(l:List Env),(∀b∈frs l,b∈X.fs)->X.s₀.heap.FunFrames X.base l->s.heap.FunFrames X.base l:=by
  intro l
  induction l with
  | nil=>intro _ _;trivial
  | cons env r ih =>
   intro hs hl
   obtain⟨hk,⟨L,o,hf,hn,ho,hd⟩,hr⟩:=hl
   have hL:L∈X.fs:=hs L (by unfold frs;rw [List.filterMap_cons,hf];exact ar)
   obtain⟨sl,e⟩:=I.base.slot L o ho (I.ok.frf L hL) hL fun z=>I.ok.exfs L z hL
   exact⟨hk,⟨L,_,hf,hn,e,hd⟩,ih (fun b hb=>hs b (by unfold frs;rw [List.filterMap_cons,hf];exact av _ hb)) hr⟩
 exact all X.outer (fun _ hb=>hb) I.ok.funs
theorem A0.stack (I:A0 X ae σ H s):s.heap.FunFrames X.base X.stack:=by
 rcases I.ok.stk with e | ⟨e,hf⟩
 ·rw [e];exact I.funs
 ·rw [e]
  obtain⟨m,hn,_⟩:=I.loc
  refine .cons (by rw [I.ok.kind];decide) hf hn ?_ I.funs
  exact Heap.get?_none_of_le (aR I.ok.bsz I.ok.above)
theorem A0.stkSub (I:A0 X ae σ H s):∀b∈frs X.stack,b∈X.env.locals::X.fs:=fun b hb=>by
 rcases I.ok.stk with e | ⟨e,hf⟩
 ·rw [e]at hb;exact av _ hb
 ·rw [e]at hb
  unfold frs at hb
  rw [List.filterMap_cons,hf]at hb
  exact hb
theorem A0.stkFree (I:A0 X ae σ H s):∀b∈frs X.stack,H b=none:=fun b hb=>by
 rcases aj.mp (I.stkSub b hb)with e | hb
 ·rw [e];exact I.free
 ·obtain⟨_,o,ho,_⟩:=I.ok.funs.mem hb
  exact I.base.free b o ho (I.ok.frf b hb) fun z=>I.ok.exfs b z hb
theorem A0.step {g':Array GenState}{t':Nat}{d':Drawn}{ch:List Addr} (I:A0 X ae σ H s)
  (i9:∀b∈ch,(b∈X.ex\/X.s₀.heap.objs.size<=b)/\b≠X.env.locals/\(∀x c,X.env.cells.lookup x=some c->c≠b)/\∀p∈X.pn++ae,p.1≠b)
  (keep:∀b o,b≠X.env.locals->b∉X.fs->b∉ch->s.heap.get? b=some o->H b=none->h'.get? b=some o)
  (slot:∀b o,b≠X.env.locals->b∈X.fs->b∉ch->s.heap.get? b=some o->H b=none->∃sl,h'.get? b=some { o with slots:=sl }) (free:∀b o,b∉ch->s.heap.get? b=some o->H b=none->H' b=none)
  (there:∀b o,b∉ch->s.heap.get? b=some o->∃o',h'.get? b=some o')
  (tups:∀b xs,H b=some (.tup xs)->H' b=some (.tup xs)) (frzs:∀b o u,H b=some (.frz o u)->H' b=some (.frz o u)) (tbls:∀b ps,H b=some (.tbl ps)->∃more,H' b=some (.tbl (ps++more)))
  (ns:∀m,s.heap.Ns X.env.locals m->h'.Ns X.env.locals m) (hok:F5 X.prog X.w H' h') (hg:AllBare g') :
  A0 X ae σ H' { s with heap:=h',gens:=g',drawn:=d',toks:=t' }:=by
 have nI:∀b o,X.s₀.heap.get? b=some o->b≠X.env.locals:=fun b o e=>ay (ax (ak e) I.ok.above)
 have hZ:∀b o,X.s₀.heap.get? b=some o->b∉X.ex->b∉ch:=fun b o e hx hb=>by
  rcases (i9 b hb).1 with z | z
  ·exact hx z
  ·exact absurd (ax (ak e) z) (aO _)
 have ja:∀x c,X.env.cells.lookup x=some c->∀v,s.heap.IsCell c v->h'.IsCell c v:=fun x c e v ⟨o,ho,hd⟩=>by
  have kh:c∉ch:=fun z=>(i9 c z).2.2.1 x c e rfl
  by_cases hc:c∈X.fs
  ·obtain⟨sl,q⟩:=slot c o (I.cne x c e) hc kh ho (I.freeC x c e)
   exact⟨_,q,hd⟩
  ·exact⟨o,keep c o (I.cne x c e) hc kh ho (I.freeC x c e),hd⟩
 refine⟨I.ok,I.os,hg,⟨fun b o e n hb hx=>?_,fun b o e n hb hx=>?_,fun b o e n hx=>?_,fun b o e hx=>?_,fun b xs e=>tups b xs (I.base.tups b xs e),fun b o xs e=>frzs b o xs (I.base.frzs b o xs e),fun b ps e=>?_⟩,?_,fun x c e=>?_,?_,fun x c e=>?_,fun p hp=>?_,hok,I.len⟩
 ·exact keep b o (nI b o e) hb (hZ b o e hx) (I.base.keep b o e n hb hx) (I.base.free b o e n hx)
 ·obtain⟨sl,e1⟩:=I.base.slot b o e n hb hx
  obtain⟨pC,e2⟩:=slot b _ (nI b o e) hb (hZ b o e hx) e1 (I.base.free b o e n hx)
  exact⟨pC,e2⟩
 ·obtain⟨o',e1⟩:=I.base.there b o e hx
  exact free b o' (hZ b o e hx) e1 (I.base.free b o e n hx)
 ·obtain⟨o',e1⟩:=I.base.there b o e hx
  exact there b o' (hZ b o e hx) e1
 ·obtain⟨m1,e1⟩:=I.base.tbls b ps e
  obtain⟨m2,e2⟩:=tbls b _ e1
  exact⟨m1++m2,by rw [e2,Array.append_assoc]⟩
 ·obtain⟨m,hn,hl⟩:=I.loc
  refine⟨m,ns m hn,fun i x v e1 e2 e3=>?_⟩
  obtain⟨u,r,l⟩:=hl i x v e1 e2 e3
  refine⟨u,r,?_⟩
  rcases l with l | ⟨k,c,e,z⟩
  ·exact .inl l
  ·exact .inr ⟨k,c,e,ja x c e _ z⟩
 ·obtain⟨v,z⟩:=I.cell x c e
  exact⟨v,ja x c e v z⟩
 ·obtain⟨m,⟨o,_,_,ho,_⟩,_⟩:=I.loc
  exact free _ o (fun z=>(i9 _ z).2.1 rfl) ho I.free
 ·obtain⟨v,o,ho,hd⟩:=I.cell x c e
  exact free c o (fun z=>(i9 c z).2.2.1 x c e rfl) ho (I.freeC x c e)
 ·obtain⟨e,n,ne,nf,d⟩:=I.pin p hp
  have kh:p.1∉ch:=fun z=>(i9 p.1 z).2.2.2 p hp rfl
  exact⟨keep p.1 p.2 ne nf kh e n,free p.1 p.2 kh e n,ne,nf,d⟩
theorem A0.un {t':Nat} (I:A0 X ae σ H s) (u:Un X.fs [] H H' s.heap h') (hok:F5 X.prog X.w H' h'):A0 X ae σ H' { s with heap:=h',toks:=t' }:=by
 obtain⟨m,⟨o,es,ep,ho,r⟩,_⟩:=id I.loc
 obtain⟨sl,hL⟩:=u.any ho I.free (by simp)
 exact I.step (g':=s.gens) (d':=s.drawn) (ch:=[]) (fun _ z=>nomatch z) (fun b o _ hb _ e n=>u.keep b o e n hb (by simp)) (fun b o _ hb _ e n=>u.slot b o e n hb (by simp)) (fun b o _ e n=>u.free b o e n (by simp)) (fun b o _ e=>u.there b o e (by simp)) u.tups u.frzs u.tbls (fun m' hm=>by
  obtain⟨o',eQ,lh,jx,r'⟩:=hm
  rw [ho]at jx;cases jx
  exact⟨_,eQ,lh,hL,r'⟩) hok I.bare
theorem A0.call {g':Array GenState}{t':Nat}{d':Drawn}{ch:List Addr} (I:A0 X ae σ H s) (u:Un (frs X.stack) ch H H' s.heap h') (hok:F5 X.prog X.w H' h') (hg:AllBare g')
  (i9:∀b∈ch,(b∈X.ex\/X.s₀.heap.objs.size<=b)/\b≠X.env.locals/\(∀x c,X.env.cells.lookup x=some c->c≠b)/\∀p∈X.pn++ae,p.1≠b) :
  A0 X ae σ H' { s with heap:=h',gens:=g',drawn:=d',toks:=t' }:=by
 obtain⟨m,⟨o,es,ep,ho,r⟩,_⟩:=id I.loc
 obtain⟨sl,hL⟩:=u.any ho I.free fun z=>(i9 _ z).2.1 rfl
 exact I.step (ch:=ch) i9 (fun b o hL hb hc e n=>u.keep b o e n (fun z=>(aj.mp (I.stkSub b z)).elim hL hb) hc) (fun b o _ _ hc e n=>u.any e n hc) (fun b o hc e n=>u.free b o e n hc) (fun b o hc e=>u.there b o e hc) u.tups u.frzs u.tbls (fun m' hm=>by
  obtain⟨o',eQ,lh,jx,r'⟩:=hm
  rw [ho]at jx;cases jx
  exact⟨_,eQ,lh,hL,r'⟩) hok hg
theorem A0.turned {t':Nat}{it:Addr} (I:A0 X ae σ H s) (k:∀b o,b≠it->s.heap.get? b=some o->h'.get? b=some o) (hn:H it=none) (hL:it≠X.env.locals)
  (h1:it∈X.ex\/X.s₀.heap.objs.size<=it) (h2:∀x c,X.env.cells.lookup x=some c->c≠it) (h3:∀p∈X.pn++ae,p.1≠it):A0 X ae σ H { s with heap:=h',toks:=t' }:=by
 have iU:∀b u,H b=some u->b≠it:=fun b u e z=>by rw [z,hn]at e;cases e
 refine I.step (g':=s.gens) (d':=s.drawn) (ch:=[it]) (fun b hb=>?_) (fun b o _ _ hc e _=>k b o (fun z=>hc (by simp [z])) e) (fun b o _ _ hc e _=>⟨o.slots,k b o (fun z=>hc (by simp [z])) e⟩) (fun _ _ _ _ n=>n)
  (fun b o hc e=>⟨o,k b o (fun z=>hc (by simp [z])) e⟩) (fun _ _ e=>e) (fun _ _ _ e=>e) (fun b ps e=>⟨#[],by rw [e];simp⟩) (fun m hm=>?_) (fun b u e=>?_) I.bare
 ·have e:b=it:=by simpa using hb
  subst e
  exact⟨h1,hL,h2,h3⟩
 ·obtain⟨o,es,ep,ho,r⟩:=hm
  exact⟨o,es,ep,k _ o (bC hL) ho,r⟩
 ·refine(I.hok b u e).stay (fun c v hc q=>k c v ?_ q) (fun _ _ _ q=>q) fun _ _ q=>q
  rcases hc with z | z
  ·rw [z];exact iU b u e
  ·exact iU c _ z
theorem A0.tok (I:A0 X ae σ H s) (t:Nat):A0 X ae σ H { s with toks:=t }:=I.un (h':=s.heap) (t':=t) Un.refl I.hok
theorem A0.kept {t':Nat} (I:A0 X ae σ H s) (k:∀b u,s.heap.get? b=some u->h'.get? b=some u):A0 X ae σ H { s with heap:=h',toks:=t' }:=I.un (Un.kept k) (I.hok.kept k)
theorem A0.laid {a:Addr}{o:HO}{t':Nat} (I:A0 X ae σ H s) (k:∀b u,s.heap.get? b=some u->h'.get? b=some u) (hp:s.heap.objs.size<=a) (new:G1 X.prog X.w (upd H a o) h' a o) :
  A0 X ae σ (upd H a o) { s with heap:=h',toks:=t' }:=I.un (Un.laid k hp (I.hok.fresh hp)) (I.hok.laid k hp new)
theorem A0.write {x e:Addr}{o:HO}{t':Nat} (I:A0 X ae σ H s) (mu:Mut (H x)) (he:e=x\/H e=some (.own x)) (k:∀b u,b≠e->s.heap.get? b=some u->h'.get? b=some u) (jT:∃u,h'.get? e=some u)
  (new:G1 X.prog X.w (upd H x o) h' x o):A0 X ae σ (upd H x o) { s with heap:=h',toks:=t' }:=I.un (Un.write mu he k jT) (I.hok.write mu he k jT new)
theorem A0.pins_of {iT:Pn9} (I:A0 X ae σ H s) (h:∀p∈iT,s.heap.get? p.1=some p.2/\H p.1=none/\p.1≠X.env.locals/\p.1∉X.fs/\∀v,p.2.data≠.cell v):A0 X iT σ H s :=
 ⟨I.ok,I.os,I.bare,I.base,I.loc,I.cell,I.free,I.freeC,fun p hp=>(aU.mp hp).elim (fun z=>I.pin p (bi _ z)) (h p),I.hok,I.len⟩
theorem Y0r {N:List Str} (hN:N.Nodup) {i j:Nat}{x:Str} (a:N[i]?=some x) (b:N[j]?=some x):i=j:=by
 obtain⟨h1,e1⟩:=aG.mp a
 obtain⟨h2,e2⟩:=aG.mp b
 exact(List.getElem_inj hN).mp (e1.trans e2.symm)
theorem Q9h {M:Model}{A:Around}{E:VS9}{i:Nat}{x:Str}{v:V}{u:Value}{Q:Unit->Shared->Prop} (I:A0 X ae σ H s) (hN:X.N.Nodup) (hi:X.N[i]?=some x) (hx:Loc X.env.scope x) (r:B7 v u)
  (h:∀s',A0 X ae (σ.set i (some v)) H s'->(∃a,Heap.SameBut a s.heap s'.heap/\(a=X.env.locals\/X.env.cells.lookup x=some a))->Q () s') (hf:X.fn x=true\/X.env.scope.names.lookup x=some .local:=by first | exact .inl rfl | exact .inr rfl | assumption):wpAny M A (storeName X.env x u) Q E s:=by
 obtain⟨m,hn,hl⟩:=id I.loc
 have mL:(X.env.scope.kind==.class||(X.env.scope.kind==.module&&X.env.locals != X.env.globals))=false:=by rw [I.ok.kind];rfl
 have hiσ:i<σ.length:=by rw [I.len];exact(aG.mp hi).1
 have cne:=I.cne
 have tracked:∀{a:Addr}{h':Heap},(∃o,s.heap.get? a=some o/\H a=none)->Heap.SameBut a s.heap h'->F5 X.prog X.w H h':=fun {a h'} ha hs b ob e=>by
  obtain⟨_,_,j0⟩:=ha
  refine(I.hok b ob e).stay (fun c w' hc q=>(hs.2 c ?_).trans q) (fun _ _ _ q=>q) fun _ _ q=>q
  rintro rfl
  rcases hc with rfl | hc
  ·rw [j0]at e;cases e
  ·rw [j0]at hc;cases hc
 rcases hx with hk | hk
 ·refine wpAny_storeName_local hk hn (fun h' qp hs=>?_) mL
  obtain⟨oL,_,_,qm,_⟩:=id hn
  refine h _ ⟨I.ok,I.os,I.bare,⟨fun b o e n hb hx=>?_,fun b o e n hb hx=>?_,I.base.free,fun b o e hx=>?_,I.base.tups,I.base.frzs,I.base.tbls⟩,⟨_,qp,fun j y v' e1 e2 e3=>?_⟩,fun y c e=>?_,I.free,I.freeC,fun p hp=>?_,tracked ⟨oL,qm,I.free⟩ hs,by simpa using I.len⟩ ⟨_,hs,.inl rfl⟩
  ·exact(hs.2 b (ay (ax (ak e) I.ok.above))).trans (I.base.keep b o e n hb hx)
  ·obtain⟨sl,e1⟩:=I.base.slot b o e n hb hx
   exact⟨sl,(hs.2 b (ay (ax (ak e) I.ok.above))).trans e1⟩
  ·obtain⟨o',e1⟩:=I.base.there b o e hx
   exact⟨o',(hs.2 b (ay (ax (ak e) I.ok.above))).trans e1⟩
  ·by_cases hj:j=i
   ·subst hj
    rw [hi]at e1;cases e1
    rw [b9 hiσ]at e2
    cases e2
    exact⟨u,r,.inl ⟨hk,by simp⟩⟩
   ·rw [aF (bC hj)]at e2
    obtain⟨u',r',q⟩:=hl j y v' e1 e2 e3
    refine⟨u',r',?_⟩
    rcases q with⟨k,e⟩ | ⟨k,c,e,z⟩
    ·refine .inl ⟨k,?_⟩
     have:y≠x:=fun e=>hj (Y0r hN e1 (e ▸ hi))
     simp [this,e]
    ·exact .inr ⟨k,c,e,z.sameBut hs (cne y c e)⟩
  ·obtain⟨w',z⟩:=I.cell y c e
   exact⟨w',z.sameBut hs (cne y c e)⟩
  ·obtain⟨e,n,ne,nf,d⟩:=I.pin p hp
   exact⟨(hs.2 p.1 ne).trans e,n,ne,nf,d⟩
 ·have j1:X.fn x=true:=by
   rcases hf with z | z
   ·exact z
   ·rw [z]at hk;cases hk
  obtain⟨c,hc⟩:=I.ok.has x (.inl hk)
  obtain⟨w',z⟩:=I.cell x c hc
  refine wpAny_storeName_cell I.ok.kind hk hc z (fun h' dB hs=>?_)
  obtain⟨oc,eI,mr⟩:=id z
  refine h { s with heap:=h' } ⟨I.ok,I.os,I.bare,⟨fun b o e n hb hx=>?_,fun b o e n hb hx=>?_,I.base.free,fun b o e hx=>?_,I.base.tups,I.base.frzs,I.base.tbls⟩,⟨m,hn.sameBut hs (bC (cne x c hc)),fun j y v' e1 e2 e3=>?_⟩,fun y c' e=>?_,I.free,I.freeC,fun p hp=>?_,tracked ⟨oc,eI,I.freeC x c hc⟩ hs,by simpa using I.len⟩ ⟨c,hs,.inr hc⟩
  ·exact(hs.2 b (ay (ax (ak e) (I.ok.cab x c j1 hc)))).trans (I.base.keep b o e n hb hx)
  ·obtain⟨sl,e1⟩:=I.base.slot b o e n hb hx
   exact⟨sl,(hs.2 b (ay (ax (ak e) (I.ok.cab x c j1 hc)))).trans e1⟩
  ·obtain⟨o',e1⟩:=I.base.there b o e hx
   exact⟨o',(hs.2 b (ay (ax (ak e) (I.ok.cab x c j1 hc)))).trans e1⟩
  ·by_cases hj:j=i
   ·subst hj
    rw [hi]at e1;cases e1
    rw [b9 hiσ]at e2
    cases e2
    exact⟨u,r,.inr ⟨.inl hk,c,hc,dB⟩⟩
   ·rw [aF (bC hj)]at e2
    obtain⟨u',r',q⟩:=hl j y v' e1 e2 e3
    refine⟨u',r',?_⟩
    rcases q with q | ⟨k,c',e,z'⟩
    ·exact .inl q
    ·refine .inr ⟨k,c',e,z'.sameBut hs ?_⟩
     rintro rfl
     exact hj (Y0r hN e1 (I.ok.inj _ _ _ e hc ▸ hi))
  ·by_cases fW:c'=c
   ·subst fW;exact⟨_,dB⟩
   ·obtain⟨w2,z2⟩:=I.cell y c' e
    exact⟨w2,z2.sameBut hs fW⟩
  ·obtain⟨e,n,ne,nf,d⟩:=I.pin p hp
   refine⟨(hs.2 p.1 ?_).trans e,n,ne,nf,d⟩
   intro q
   rw [q,eI]at e
   have q':oc=p.2:=aB e
   exact d w' (by rw [<- q'];exact mr)
theorem Z4g {M:Model}{A:Around}{E:VS9}{i:Nat}{x:Str}{v:V}{u:Value}{Q:Unit->Shared->Prop} (I:A0 X ae σ H s) (hN:X.N.Nodup) (hi:X.N[i]?=some x) (hx:Loc X.env.scope x) (r:B7 v u)
  (h:∀s',A0 X ae (σ.set i (some v)) H s'->Q () s') (hf:X.fn x=true\/X.env.scope.names.lookup x=some .local:=by first | exact .inl rfl | exact .inr rfl | assumption):wpAny M A (storeName X.env x u) Q E s :=
 Q9h I hN hi hx r (fun s' I' _=>h s' I') hf
theorem A0.call' {s':Shared}{ch:List Addr} (I:A0 X ae σ H s) (ho:s'.os=s.os) (u:Un (frs X.stack) ch H H' s.heap s'.heap) (hok:F5 X.prog X.w H' s'.heap) (hg:AllBare s'.gens)
  (i9:∀b∈ch,(b∈X.ex\/X.s₀.heap.objs.size<=b)/\b≠X.env.locals/\(∀x c,X.env.cells.lookup x=some c->c≠b)/\∀p∈X.pn++ae,p.1≠b):A0 X ae σ H' s':=by
 obtain⟨h',g',d',t',o'⟩:=s'
 have e:o'=s.os:=ho
 subst e
 exact I.call (g':=g') (t':=t') (d':=d') u hok hg i9
end
noncomputable abbrev XK:=Value->Option Addr->Hp->Prop
noncomputable abbrev St:=List (Option V)
noncomputable abbrev VK:=V->Hp->Prop
noncomputable abbrev TE:=St->Hp->VK->Prop
noncomputable abbrev TT:=St->Hp->(Bool->Hp->Prop)->Prop
noncomputable abbrev TA:=St->Hp->(List V->Hp->Prop)->Prop
structure L4 where
 nx:St->Hp->Prop
 rt:VK
 bk:St->Hp->Prop:=fun _ _=>False
 ct:St->Hp->Prop:=fun _ _=>False
noncomputable abbrev TS:=L4->St->Hp->Prop
def EP (X:Cx) (ae:Pn9) (σ:St) (Q:VK) (u:Value) (s':Shared):Prop:=∃v H',A0 X ae σ H' s'/\B7 v u/\Q v H'
def TP (X:Cx) (ae:Pn9) (σ:St) (Q:Bool->Hp->Prop) (b:Bool) (s':Shared):Prop:=∃H',A0 X ae σ H' s'/\Q b H'
def AP (X:Cx) (ae:Pn9) (σ:St) (Q:List V->Hp->Prop) (us:List Value) (s':Shared):Prop:=∃vs H',A0 X ae σ H' s'/\B9 vs us/\Q vs H'
def SP (X:Cx) (ae:Pn9) (D:L4) (f:Flow) (s':Shared):Prop :=
 match f with
 | .next=>∃ σ' H',A0 X ae σ' H' s'/\D.nx σ' H'
 | .brk=>∃ σ' H',A0 X ae σ' H' s'/\D.bk σ' H'
 | .cont=>∃ σ' H',A0 X ae σ' H' s'/\D.ct σ' H'
 | .ret u=>∃v σ' H',A0 X ae σ' H' s'/\B7 v u/\D.rt v H'
def PE (X:Cx) (e:Expr) (t:TE):Prop :=
 ∀(ae:Pn9) (s:Shared) (σ:St) (H:Hp) (Q:VK),A0 X ae σ H s->t σ H Q->wpAny (model X.prog X.w) X.A (eval e X.env) (EP X ae σ Q) X.xe s
def PT (X:Cx) (e:Expr) (t:TT):Prop :=
 ∀(ae:Pn9) (s:Shared) (σ:St) (H:Hp) (Q:Bool->Hp->Prop),A0 X ae σ H s->t σ H Q->wpAny (model X.prog X.w) X.A (isTrue e X.env (eval e X.env)) (TP X ae σ Q) X.xe s
def PW (X:Cx) (e:Expr) (t:TT):Prop :=
 ∀(whole:Sem Value) (ae:Pn9) (s:Shared) (σ:St) (H:Hp) (Q:Bool->Hp->Prop),A0 X ae σ H s->t σ H Q->wpAny (model X.prog X.w) X.A (isTrue e X.env whole) (TP X ae σ Q) X.xe s
theorem PW.pt {X:Cx}{e:Expr}{t:TT} (h:PW X e t):PT X e t:=h _
def PA (X:Cx) (es:List Expr) (t:TA):Prop :=
 ∀(pos:Pos) (ae:Pn9) (s:Shared) (σ:St) (H:Hp) (Q:List V->Hp->Prop),A0 X ae σ H s->t σ H Q->wpAny (model X.prog X.w) X.A (spliced (backTo pos (starEach es X.env))) (AP X ae σ Q) X.xe s
def PS (X:Cx) (st:Stmt) (t:TS):Prop :=
 ∀(ae:Pn9) (s:Shared) (σ:St) (H:Hp) (D:L4),A0 X ae σ H s->t D σ H->wpAny (model X.prog X.w) X.A (exec st X.env) (SP X ae D) X.xe s
def PSs (X:Cx) (st:List Stmt) (t:TS):Prop :=
 ∀(ae:Pn9) (s:Shared) (σ:St) (H:Hp) (D:L4),A0 X ae σ H s->t D σ H->wpAny (model X.prog X.w) X.A (execs st X.env) (SP X ae D) X.xe s
theorem B2 {α:Type}{t:Sem α}{Q Q':α->Shared->Prop}{M:Model}{A:Around}{E:VS9}{s:Shared} (h:wpAny M A t Q E s) (hQ:∀a s,Q a s->Q' a s):wpAny M A t Q' E s:=aL h hQ fun _ _ x=>x
end L2
namespace L2
open PySem PySem.Spec PyProof.Rows
section
variable {X:Cx}
def O2 (i:Nat):TE:=fun σ H Q=>∃v,σ[i]?=some (some v)/\Q v H
def tC (v:V):TE:=fun _ H Q=>Q v H
theorem W3f {i:Nat}{x:Str}{pos:Pos} (hN:X.N[i]?=some x) (hv:Vis X.env.scope x) (hd:(x==("__debug__":Str))=false:=by decide) (ef:(x==("__classdict__":Str))=false:=by decide):PE X (.Name x pos) (O2 i):=by
 intro ae s σ H Q I h
 obtain⟨v,e,h⟩:=h
 obtain⟨m,hn,hl⟩:=I.loc
 obtain⟨u,r,l⟩:=hl i x v hN e hv
 have fin:EP X ae σ Q u s:=⟨v,H,I,r,h⟩
 rcases l with⟨hk,hm⟩ | ⟨hk,c,hc,dg⟩
 ·exact wpAny_Name (wpAny_loadName_local I.ok.kind hk hn hm fin) hd
 ·rcases hk with hk | hk
  ·exact wpAny_Name (wpAny_loadName_cell I.ok.kind hk hc dg fin) hd
  ·exact wpAny_Name (wpAny_loadName_free I.ok.kind hk hc dg fin ef) hd
theorem W2t {i j pos}:PE X (.Constant (.int i) j pos) (tC (.int i)):=fun _ _ _ H _ I h=>wpAny_Constant_int ⟨.int i,H,I.tok _,⟨_,rfl⟩,h⟩
theorem W2i {b j pos}:PE X (.Constant (.bool b) j pos) (tC (.bl b)):=fun _ _ _ H _ I h=>Constant_bool ⟨.bl b,H,I,rfl,h⟩
theorem W3d {x j pos}:PE X (.Constant (.str x) j pos) (tC (.str x)):=fun _ _ _ H _ I h=>Calls.Constant_str ⟨.str x,H,I.tok _,⟨_,rfl⟩,h⟩
def Gl (X:Cx) (x:Str):Prop:=X.env.kindOf x=some .globalImplicit
theorem Z2i {E:VS9}{ae:Pn9}{s:Shared} {σ:St}{H:Hp}{x:Str}{u:Value}{pos:Pos}{Q:VS9} (I:A0 X ae σ H s) (hg:Gl X x) (hm:X.mg x=some u) (h:Q u s)
  (hd:(x==("__debug__":Str))=false:=by decide):wpAny (model X.prog X.w) X.A (eval (.Name x pos) X.env) Q E s :=
 Calls.Name_function_global I.ok.kind hg (Calls.loadGlobal_global (by rw [I.ok.glob];exact I.mod.glob.keeps I.bk) hm h) hd
theorem Y4 {E:VS9}{ae:Pn9}{s:Shared} {σ:St}{H:Hp}{x:Str}{u:Value}{pos:Pos}{Q:VS9} (I:A0 X ae σ H s) (hg:Gl X x) (hm:X.mg x=none) (hv:bootBuiltins x=some u) (h:Q u s)
  (hn:x≠"__name__":=by decide) (hd:(x==("__debug__":Str))=false:=by decide):wpAny (model X.prog X.w) X.A (eval (.Name x pos) X.env) Q E s:=by
 obtain⟨mb,h1,h2⟩:=I.mod.blt
 exact Calls.Name_function_global I.ok.kind hg (Calls.loadGlobal_builtin (by rw [I.ok.glob];exact I.mod.glob.keeps I.bk) hm (by rw [I.ok.blt];exact h1.keeps I.bk) ((h2 x hn).trans hv) h) hd
theorem W2s {x:Str}{v:V}{u:Value}{pos:Pos} (hg:Gl X x) (hm:X.mg x=some u) (r:B7 v u) (hd:(x==("__debug__":Str))=false:=by decide):PE X (.Name x pos) (tC v) :=
 fun _ _ _ H _ I h=>Z2i I hg hm ⟨v,H,I,r,h⟩ hd
variable {a b:Expr}{ta tb:TE}{pos:Pos}
def PC (X:Cx) (op:CmpOp) (a b:Expr) (t:TE):Prop :=
 ∀(ae:Pn9) (s:Shared) (σ:St) (H:Hp) (Q:VK),A0 X ae σ H s->t σ H Q ->
  wpAny (model X.prog X.w) X.A (eval a X.env) (fun v s₁=>wpAny (model X.prog X.w) X.A (eval b X.env) (fun u s₂=>wpAny (model X.prog X.w) X.A (compareOp op v u) (EP X ae σ Q) X.xe s₂) X.xe s₁) X.xe s
def tB (t:TE):TT:=fun σ H Q=>t σ H fun x H1=>∃c,x=.bl c/\Q c H1
theorem Y1s {op:CmpOp}{t:TE} (h:PC X op a b t) (h1:behindInMarks op b=false:=by first | exact nobehind _ (by decide) (by decide) | rfl):PT X (.Compare a [op] [b] pos) (tB t):=by
 intro ae s σ H Q I hw
 refine wpAny_isTrue_Compare1 (B2 (h ae s σ H _ I hw) fun v s1 h1=>B2 h1 fun u s2 h2=>B2 h2 fun c s3 ⟨x,H1,I1,r1,q1⟩=>?_) h1
 obtain⟨d,rfl,q⟩:=q1
 cases r1
 exact cY ⟨H1,I1,q⟩
variable {tA nz:TT}{rest:List Expr}
def tAnd (t u:TT):TT:=fun σ H Q=>t σ H fun c H1=>if c=true then u σ H1 Q else Q false H1
def tNot (t:TT):TT:=fun σ H Q=>t σ H fun c H1=>Q (!c) H1
theorem W4b (ha:PT X a tA):PW X (.BoolOp .And [a] pos) tA:=by
 intro wh ae s σ H Q I h
 refine isTrue_and (B2 (ha ae s σ H Q I h) fun c s1 e=>?_)
 cases c with
 | true=>exact isTrue_and_nil e
 | false=>exact e
theorem W4a (ha:PT X a tA) (hb:PW X (.BoolOp .And (b::rest) pos) nz):PW X (.BoolOp .And (a::b::rest) pos) (tAnd tA nz):=by
 intro wh ae s σ H Q I h
 refine isTrue_and (B2 (ha ae s σ H _ I h) fun c s1 ⟨H1,I1,q1⟩=>?_)
 cases c with
 | true=>exact hb wh ae s1 σ H1 Q I1 q1
 | false=>exact⟨H1,I1,q1⟩
theorem W3y (ha:PT X a tA):PT X (.UnaryOp .Not a pos) (tNot tA):=by
 intro ae s σ H Q I h
 exact isTrue_not (ha ae s σ H (fun c H1=>Q (!c) H1) I h)
def W7m (ta tb:TE):TE:=fun σ H Q=>ta σ H fun x H1=>∃c,x=.bl c/\if c=true then tb σ H1 Q else Q (.bl false) H1
def tOrV (ta tb:TE):TE:=fun σ H Q=>ta σ H fun x H1=>∃c,x=.bl c/\if c=true then Q (.bl true) H1 else tb σ H1 Q
def W7y (ta:TE):TE:=fun σ H Q=>ta σ H fun x H1=>∃c,x=.bl c/\Q (.bl (!c)) H1
theorem Y1k {op}{t:TE} (h:PE X a t):PE X (.BoolOp op [a] pos) t:=fun ae s σ H Q I hw=>BoolOp_one (h ae s σ H Q I hw)
theorem W2h (ha:PE X a ta) (hb:PE X (.BoolOp .And (b::rest) pos) tb):PE X (.BoolOp .And (a::b::rest) pos) (W7m ta tb):=by
 intro ae s σ H Q I h
 refine BoolOp_and (B2 (ha ae s σ H _ I h) fun v s1 ⟨x,H1,I1,r1,q1⟩=>?_)
 obtain⟨c,rfl,q1⟩:=q1
 cases r1
 refine cY ?_
 cases c with
 | true=>exact hb ae s1 σ H1 Q I1 q1
 | false=>exact⟨.bl false,H1,I1,rfl,q1⟩
theorem W3a (ha:PE X a ta) (hb:PE X (.BoolOp .Or (b::rest) pos) tb):PE X (.BoolOp .Or (a::b::rest) pos) (tOrV ta tb):=by
 intro ae s σ H Q I h
 refine BoolOp_or (B2 (ha ae s σ H _ I h) fun v s1 ⟨x,H1,I1,r1,q1⟩=>?_)
 obtain⟨c,rfl,q1⟩:=q1
 cases r1
 refine cY ?_
 cases c with
 | false=>exact hb ae s1 σ H1 Q I1 q1
 | true=>exact⟨.bl true,H1,I1,rfl,q1⟩
theorem W2x (ha:PE X a ta):PE X (.UnaryOp .Not a pos) (W7y ta):=by
 intro ae s σ H Q I h
 refine UnaryOp_ (B2 (ha ae s σ H _ I h) fun v s1 ⟨x,H1,I1,r1,q1⟩=>?_)
 obtain⟨c,rfl,q1⟩:=q1
 cases r1
 exact not_of (cY ⟨.bl (!c),H1,I1,rfl,q1⟩)
end
end L2
namespace L2
open PySem PySem.Spec PyProof.Rows
def C9 (K:Fg9) (H:Hp) (a:Addr) (xs:List V):Prop :=
 Rd H a (.lst xs) \/
  ∃(o:Obj) (aS:Array Value) (n:Nat),K.lookup a=some o/\o.cls=.type "list"/\o.dict=none/\o.data=.seq aS n/\aS.size<=sizeLine/\B9 xs aS.toList
def C0 (K:Fg9) (H:Hp) (a:Addr) (xs:List V):Prop :=
 Rd H a (.tup xs) \/
  ∃(o:Obj) (aS:Array Value) (n:Nat),K.lookup a=some o/\o.cls=.type "tuple"/\o.data=.seq aS n/\aS.size<=sizeLine/\B9 xs aS.toList
noncomputable def absV:Value->Option V
 | .none=>some .non
 | .bool b=>some (.bl b)
 | .int i _=>some (.int i)
 | .str x _=>some (.str x)
 | .bytes b _=>some (.byt b)
 | .float b _=>some (.flt b)
 | .ref a=>some (.ref a)
 | .type n=>some (.ty n)
 | _=>none
theorem B7.abs {x:V}{u:Value} (r:B7 x u):absV u=some x:=by
 cases x with
 | non=>cases r;rfl
 | bl _=>cases r;rfl
 | int _=>obtain⟨t,rfl⟩:=r;rfl
 | str _=>obtain⟨t,rfl⟩:=r;rfl
 | byt _=>obtain⟨t,rfl⟩:=r;rfl
 | flt _=>obtain⟨t,rfl⟩:=r;rfl
 | ref _=>cases r;rfl
 | ty _=>cases r;rfl
theorem B7.inj {x y:V}{u:Value} (r:B7 x u) (q:B7 y u):x=y:=aB (r.abs.symm.trans q.abs)
theorem B9.inj:∀{xs ys:List V}{us:List Value},B9 xs us->B9 ys us->xs=ys
 | _,_,_,.nil,.nil=>rfl
 | _,_,_,.cons r t,.cons r' t'=>by rw [r.inj r',B9.inj t t']
section
variable {X:Cx}{ae:Pn9} {σ:St}{H:Hp}{s:Shared}{a:Addr}{xs ys:List V}
theorem C9.of {K:Fg9} (h:H a=some (.lst xs)):C9 K H a xs:=.inl (.inl h)
theorem C0.of {K:Fg9} (h:H a=some (.tup xs)):C0 K H a xs:=.inl (.inl h)
theorem A0.list (I:A0 X ae σ H s) (h:C9 X.K H a xs):∃aS:List Value,B9 xs aS/\PlainL s.heap a aS.toArray/\xs.length<=sizeLine:=by
 rcases h with h | ⟨o,aS,n,hk,hc,hd,hs,hz,r⟩
 ·obtain⟨z,aS,n,r,e⟩:=h.ok I.hok
  exact⟨aS,r,⟨_,n,e,rfl,rfl,rfl⟩,z⟩
 ·refine⟨aS.toList,r,⟨o,n,I.kIn a o hk,hc,hd,by simpa using hs⟩,?_⟩
  have e:=r.length
  simp only [bU]at e
  omega
theorem A0.tuple (I:A0 X ae σ H s) (h:C0 X.K H a xs):∃aS:List Value,B9 xs aS/\IsTup s.heap a aS.toArray/\xs.length<=sizeLine:=by
 rcases h with h | ⟨o,aS,n,hk,hc,hs,hz,r⟩
 ·obtain⟨z,aS,r,p⟩:=h.ok I.hok
  exact⟨aS,r,p,z⟩
 ·refine⟨aS.toList,r,⟨o,I.kIn a o hk,hc,n,by simpa using hs⟩,?_⟩
  have e:=r.length
  simp only [bU]at e
  omega
theorem A0.list_inj (I:A0 X ae σ H s) (h:C9 X.K H a xs) (h':C9 X.K H a ys):xs=ys:=by
 obtain⟨aS,r,⟨o,n,e,_,_,d⟩,_⟩:=I.list h
 obtain⟨its',r',⟨o',n',e',_,_,d'⟩,_⟩:=I.list h'
 rw [e]at e';cases e'
 rw [d]at d'
 injection d' with d1 _
 have:aS=its':=by simpa using congrArg Array.toList d1
 subst this
 exact r.inj r'
theorem A0.tuple_inj (I:A0 X ae σ H s) (h:C0 X.K H a xs) (h':C0 X.K H a ys):xs=ys:=by
 obtain⟨aS,r,⟨o,e,_,n,d⟩,_⟩:=I.tuple h
 obtain⟨its',r',⟨o',e',_,n',d'⟩,_⟩:=I.tuple h'
 rw [e]at e';cases e'
 rw [d]at d'
 injection d' with d1 _
 have:aS=its':=by simpa using congrArg Array.toList d1
 subst this
 exact r.inj r'
end
noncomputable abbrev Cx.wish (X:Cx) (E:VS9):Cx:={ X with xe:=E }
noncomputable abbrev Cx.nox (X:Cx):Cx:=X.wish fun _ _=>False
theorem Cx.Ok.wish {X:Cx} (ok:X.Ok) (E:VS9):(X.wish E).Ok :=
 ⟨ok.mod,ok.kind,ok.glob,ok.blt,ok.above,ok.inj,ok.has,ok.cab,ok.hd,ok.frames,ok.stk,ok.exf,ok.bs,ok.bsz,ok.noex,ok.exfs,ok.funs,ok.frf⟩
theorem Cx.Ok.unwish {X:Cx}{E:VS9} (ok:(X.wish E).Ok):X.Ok :=
 ⟨ok.mod,ok.kind,ok.glob,ok.blt,ok.above,ok.inj,ok.has,ok.cab,ok.hd,ok.frames,ok.stk,ok.exf,ok.bs,ok.bsz,ok.noex,ok.exfs,ok.funs,ok.frf⟩
section
variable {X:Cx}{ae:Pn9} {σ:St}{H:Hp}{s:Shared}{E:VS9}
theorem A0.wish (I:A0 X ae σ H s) (E:VS9):A0 (X.wish E) ae σ H s:=⟨I.ok.wish E,I.os,I.bare,I.base,I.loc,I.cell,I.free,I.freeC,I.pin,I.hok,I.len⟩
theorem A0.unwish (I:A0 (X.wish E) ae σ H s):A0 X ae σ H s:=⟨I.ok.unwish,I.os,I.bare,I.base,I.loc,I.cell,I.free,I.freeC,I.pin,I.hok,I.len⟩
theorem SP.unwish {D:L4}{f:Flow}{s':Shared} (h:SP (X.wish E) ae D f s'):SP X ae D f s':=by
 cases f with
 | next=>obtain⟨σ',H',I,q⟩:=h;exact⟨σ',H',I.unwish,q⟩
 | brk=>obtain⟨σ',H',I,q⟩:=h;exact⟨σ',H',I.unwish,q⟩
 | cont=>obtain⟨σ',H',I,q⟩:=h;exact⟨σ',H',I.unwish,q⟩
 | ret u=>obtain⟨v,σ',H',I,r,q⟩:=h;exact⟨v,σ',H',I.unwish,r,q⟩
theorem PSs.nox {st:List Stmt}{t:TS} (h:PSs X.nox st t):PSs X st t:=fun ae s σ H D I hw =>
 aL (h ae s σ H D (I.wish _) hw) (fun _ _ q=>q.unwish) fun _ _ z=>False.elim z
end
section
variable {X:Cx}{st:Stmt}{rest:List Stmt}{t u:TS}{e:Expr}{te:TE}{pos:Pos}
def W7w:TS:=fun D σ H=>D.nx σ H
def tSeq (t u:TS):TS:=fun D σ H=>t { D with nx:=u D } σ H
theorem W3w:PSs X [] W7w:=fun _ _ σ H _ I h=>wpAny_execs_nil ⟨σ,H,I,h⟩
theorem Y1q (h1:PS X st t) (h2:PSs X rest u):PSs X (st::rest) (tSeq t u):=by
 intro ae s σ H D I h
 refine wpAny_execs_cons (B2 (h1 ae s σ H { D with nx:=u D } I h) fun f s1 q=>?_)
 cases f with
 | next =>
  obtain⟨σ',H',I',q⟩:=q
  exact h2 ae s1 σ' H' D I' q
 | ret v=>exact q
 | brk=>exact q
 | cont=>exact q
theorem Y1r (h1:PS X st t):PSs X [st] t:=by
 intro ae s σ H D I h
 refine wpAny_execs_cons (B2 (h1 ae s σ H D I h) fun f s1 q=>?_)
 cases f with
 | next=>exact wpAny_execs_nil q
 | ret v=>exact q
 | brk=>exact q
 | cont=>exact q
theorem A0.quiet {ae:Pn9} {σ:St}{H:Hp}{s:Shared} (I:A0 X ae σ H s):interactive X.env=false:=by simp [interactive,I.ok.kind]
def W7u (te:TE):TS:=fun D σ H=>te σ H fun _ H1=>D.nx σ H1
theorem Z3j (he:PE X e te) (hs:swapsWith e none pos.line X.env=pure false:=by rfl):PS X (.Expr e pos) (W7u te):=by
 intro ae s σ H D I h
 exact wpAny_Expr_any (B2 (he ae s σ H _ I h) fun v s1 ⟨x,H1,I1,r1,q1⟩=>⟨σ,H1,I1,q1⟩) I.quiet hs
def tRet (te:TE):TS:=fun D σ H=>te σ H D.rt
theorem Z3k (he:PE X e te):PS X (.Return (some e) pos) (tRet te):=by
 intro ae s σ H D I h
 exact wpAny_Return_some (B2 (he ae s σ H _ I h) fun v s1 ⟨x,H1,I1,r1,q1⟩=>⟨x,σ,H1,I1,r1,q1⟩)
def tIfS (c:TT) (t u:TS):TS:=fun D σ H=>c σ H fun b H1=>if b=true then t D σ H1 else u D σ H1
theorem W3u {c:Expr}{a b:List Stmt}{tc:TT} (hc:PT X c tc) (ha:PSs X a t) (hb:PSs X b u):PS X (.If c a b pos) (tIfS tc t u):=by
 intro ae s σ H D I h
 refine wpAny_If (B2 (hc ae s σ H _ I h) fun d s1 ⟨H1,I1,q1⟩=>?_)
 cases d with
 | true=>exact ha ae s1 σ H1 D I1 q1
 | false=>exact hb ae s1 σ H1 D I1 q1
def W7v:TS:=fun _ _ _=>False
theorem V0f {jL:List Stmt}:PSs X jL W7v:=fun _ _ _ _ _ _ h=>h.elim
end
noncomputable abbrev TG:=V->St->Hp->(St->Hp->Prop)->Prop
noncomputable abbrev TGs:=List V->St->Hp->(St->Hp->Prop)->Prop
def PG (X:Cx) (target:Expr) (t:TG):Prop :=
 ∀(ae:Pn9) (s:Shared) (σ:St) (H:Hp) (v:V) (u:Value) (Q:St->Hp->Prop),A0 X ae σ H s->B7 v u->t v σ H Q ->
  wpAny (model X.prog X.w) X.A (assign target X.env u) (fun _ s'=>∃ σ' H',A0 X ae σ' H' s'/\Q σ' H') X.xe s
def PGs (X:Cx) (ts:List Expr) (t:TGs):Prop :=
 ∀(ae:Pn9) (s:Shared) (σ:St) (H:Hp) (vs:List V) (us:List Value) (Q:St->Hp->Prop),A0 X ae σ H s->B9 vs us->t vs σ H Q ->
  wpAny (model X.prog X.w) X.A (assignInOrder ((assignEach ts X.env).map (·.2)) us) (fun _ s'=>∃ σ' H',A0 X ae σ' H' s'/\Q σ' H') X.xe s
noncomputable abbrev TIp:=V->V->Hp->VK->Prop
def PIp (X:Cx) (op:Operator) (t:TIp):Prop :=
 ∀(ae:Pn9) (s:Shared) (σ:St) (H:Hp) (x y:V) (v u:Value) (Q:VK),A0 X ae σ H s->B7 x v->B7 y u->t x y H Q ->
  wpAny (model X.prog X.w) X.A (inplaceOp op v u) (EP X ae σ Q) X.xe s
section
variable {X:Cx}{pos:Pos}
noncomputable def Q7r (i:Nat):TG:=fun v σ H Q=>Q (σ.set i (some v)) H
theorem Y1l {i:Nat}{x:Str} (hN:X.N.Nodup) (hi:X.N[i]?=some x) (hx:Loc X.env.scope x) (hf:X.fn x=true\/X.env.scope.names.lookup x=some .local:=by first | exact .inl rfl | exact .inr rfl | assumption):PG X (.Name x pos) (Q7r i):=by
 intro ae s σ H v u Q I r h
 exact wpAny_assign_Name (Z4g I hN hi hx r (fun s' I'=>⟨_,H,I',h⟩) hf)
noncomputable def gNil:TGs:=fun vs σ H Q=>vs=[]/\Q σ H
noncomputable def Y8c (t:TG) (u:TGs):TGs:=fun vs σ H Q=>∃v r,vs=v::r/\t v σ H fun σ' H'=>u r σ' H' Q
theorem W3j:PGs X [] gNil:=by
 intro ae s σ H vs us Q I r h
 obtain⟨e,h⟩:=h
 subst e
 cases r
 exact assignInOrder_nil ⟨σ,H,I,h⟩
theorem W3i {e:Expr}{es:List Expr}{t:TG}{u:TGs} (h1:PG X e t) (h2:PGs X es u)
  (hs:(assignEach (e::es) X.env).map (·.2)=assign e X.env::(assignEach es X.env).map (·.2):=by rfl):PGs X (e::es) (Y8c t u):=by
 intro ae s σ H vs us Q I r h
 obtain⟨v,vr,e1,h⟩:=h
 subst e1
 cases r with
 | cons r rr =>
  rw [hs]
  refine assignInOrder_cons (B2 (h1 ae s σ H _ _ _ I r h) fun _ s1 ⟨σ1,H1,I1,q1⟩=>?_)
  exact h2 ae s1 σ1 H1 _ _ Q I1 rr q1
noncomputable def gTup (K:Fg9) (n:Nat) (t:TGs):TG:=fun v σ H Q=>∃a xs,v=.ref a/\C0 K H a xs/\xs.length=n/\t xs σ H Q
theorem W3h {es:List Expr}{k:Nat}{t:TGs}{n:Nat} (hc:X.calm=true) (h:PGs X es t)
  (hn:(assignEach es X.env).length=n:=by rfl) (m8:(assignEach es X.env).findIdx? (·.1)=none:=by rfl):PG X (.Tuple es k pos) (gTup X.K n t):=by
 intro ae s σ H v u Q I r hw
 obtain⟨a,xs,e1,hq,hl,hw⟩:=hw
 subst e1
 cases r
 obtain⟨aS,rv,ht,hz⟩:=I.tuple hq
 refine assign_Tuple_tuple (I.ok.hd hc) ht (by simp [hn,<- hl,rv.length]) m8 fun h' hx=>?_
 have I1:A0 X ae σ H { s with heap:=h' }:=I.kept (t':=s.toks) fun b o e=>hx b o (ay (ak e)) e
 exact h ae _ σ H xs _ Q I1 (by simpa using rv) hw
def tAsg (te:TE) (g:TG):TS:=fun D σ H=>te σ H fun x H1=>g x σ H1 D.nx
theorem W3r {tg e:Expr}{te:TE}{g:TG} (he:PE X e te) (hg:PG X tg g) (hs:swapsWithSole [tg] e pos.line X.env=pure false:=by rfl) (hw:swappedStores [tg] e X.env=pure none:=by rfl)
  (h1:(assignEach [tg] X.env).map (·.2)=[assign tg X.env]:=by rfl):PS X (.Assign [tg] e pos) (tAsg te g):=by
 intro ae s σ H D I h
 refine wpAny_Assign_stores (B2 (he ae s σ H _ I h) fun v s1 ⟨x,H1,I1,r1,q1⟩=>?_) hs hw
 rw [h1]
 exact B2 (hg ae s1 σ H1 x v _ I1 r1 q1) fun _ s2 q=>q
theorem Q3f {i:Nat}{x:Str}{e:Expr}{te:TE}{bF:Pos} (hN:X.N.Nodup) (hi:X.N[i]?=some x) (hx:Loc X.env.scope x) (he:PE X e te) (hs:swapsWith e (some (.Name x bF)) pos.line X.env=pure false:=by rfl) (hf:X.fn x=true\/X.env.scope.names.lookup x=some .local:=by first | exact .inl rfl | exact .inr rfl | assumption) :
  PS X (.Assign [.Name x bF] e pos) (tAsg te (Q7r i)):=by
 intro ae s σ H D I h
 refine wpAny_Assign_Name (B2 (he ae s σ H _ I h) fun v s1 ⟨y,H1,I1,r1,q1⟩=>?_) hs
 exact Z4g I1 hN hi hx r1 (fun s2 I2=>⟨_,H1,I2,q1⟩) hf
def tAug (i:Nat) (te:TE) (ti:TIp):TS:=fun D σ H=>∃x,σ[i]?=some (some x)/\te σ H fun y H1=>ti x y H1 fun z H2=>D.nx (σ.set i (some z)) H2
theorem W3s {i:Nat}{x:Str}{e:Expr}{te:TE}{op:Operator}{ti:TIp}{bF:Pos} (hN:X.N.Nodup) (hi:X.N[i]?=some x) (hx:Loc X.env.scope x) (he:PE X e te) (ho:PIp X op ti) (hf:X.fn x=true\/X.env.scope.names.lookup x=some .local:=by first | exact .inl rfl | exact .inr rfl | assumption) :
  PS X (.AugAssign (.Name x bF) op e pos) (tAug i te ti):=by
 intro ae s σ H D I h
 obtain⟨v,e1,h⟩:=h
 obtain⟨m,hn,hl⟩:=I.loc
 have ph:Vis X.env.scope x:=by rcases hx with k | k;exact .inl k;exact .inr (.inl k)
 obtain⟨u,r,l⟩:=hl i x v hi e1 ph
 refine wpAny_AugAssign_Name ?_
 have go:wpAny (model X.prog X.w) X.A (eval e X.env) (fun w s₂=>wpAny (model X.prog X.w) X.A (inplaceOp op u w) (fun r s₃=>wpAny (model X.prog X.w) X.A (storeName X.env x r) (fun _=>SP X ae D .next) X.xe s₃) X.xe s₂) X.xe s:=by
  refine B2 (he ae s σ H _ I h) fun w s1 ⟨y,H1,I1,r1,q1⟩=>?_
  refine B2 (ho ae s1 σ H1 v y u w _ I1 r r1 q1) fun z s2 ⟨zv,H2,I2,r2,q2⟩=>?_
  exact Z4g I2 hN hi hx r2 (fun s3 I3=>⟨_,H2,I3,q2⟩) hf
 rcases l with⟨hk,hm⟩ | ⟨hk,c,hc,dg⟩
 ·exact wpAny_loadName_local I.ok.kind hk hn hm go
 ·rcases hk with hk | hk
  ·exact wpAny_loadName_cell I.ok.kind hk hc dg go
  ·rcases hx with k | k
   ·have:X.env.scope.names.lookup x=some .free:=hk
    rw [k]at this;cases this
   ·have:X.env.scope.names.lookup x=some .free:=hk
    rw [k]at this;cases this
end
section
variable {X:Cx}{pos:Pos}
def W8c (c:TT) (tb:TS):TS:=fun D σ H=>∃W:Nat->St->Hp->Prop,(∃m,W m σ H)/\∀m σ H,W m σ H ->
 c σ H fun b H1=>if b=true then ∃N:St->Hp->Prop,(∀ σ' H',N σ' H'->∃m',m'<m/\W m' σ' H')/\tb { D with nx:=N,ct:=N,bk:=D.nx } σ H1 else D.nx σ H1
theorem W3v {c:Expr}{body:List Stmt}{tc:TT}{tb:TS} (hp:PassesOwn (model X.prog X.w) X.A X.env X.xe) (hc:PT X c tc) (hb:PSs X body tb):PS X (.While c body [] pos) (W8c tc tb):=by
 intro ae s σ H D I h
 obtain⟨W,⟨m0,w0⟩,fx⟩:=h
 refine wpAny_While (codeAny_whileLoop (fun n s'=>∃ σ' H',A0 X ae σ' H' s'/\W n σ' H') ?_ m0 ⟨σ,H,I,w0⟩)
 rintro n s1 ⟨σ1,H1,I1,w1⟩
 refine dR hp (B2 (hc ae s1 σ1 H1 _ I1 (fx n σ1 H1 w1)) fun b s2 ⟨H2,I2,q2⟩=>?_)
 cases b with
 | true =>
  obtain⟨N,hN,q2⟩:=q2
  rw [aI rfl]
  refine dR hp (B2 (hb ae s2 σ1 H2 _ I2 q2) fun f s3 q3=>?_)
  cases f with
  | next =>
   obtain⟨σ3,H3,I3,n3⟩:=q3
   obtain⟨m',hm,w3⟩:=hN σ3 H3 n3
   exact⟨m',hm,σ3,H3,I3,w3⟩
  | cont =>
   obtain⟨σ3,H3,I3,n3⟩:=q3
   obtain⟨m',hm,w3⟩:=hN σ3 H3 n3
   exact⟨m',hm,σ3,H3,I3,w3⟩
  | brk=>exact q3
  | ret v=>exact q3
 | false =>
  rw [aD bK]
  exact wpAny_execs_nil ⟨σ1,H2,I2,q2⟩
end
structure It where
 go:Nat->Hp->Prop
 yld:Nat->Hp->V->Hp->Prop
 stop:Nat->Hp->Prop
def K2 (X:Cx) (ae:Pn9) (H:Hp) (b:Addr):Prop :=
 H b=none/\b≠X.env.locals/\b∉X.fs/\(b∈X.ex\/X.s₀.heap.objs.size<=b)/\(∀x c,X.env.cells.lookup x=some c->c≠b)/\∀p∈X.pn++ae,p.1≠b
theorem A0.fpOk {X:Cx}{ae:Pn9} {σ:St}{H H':Hp}{s:Shared}{b:Addr} (I:A0 X ae σ H s) (hb:s.heap.objs.size<=b) (hn:H' b=none):K2 X ae H' b:=by
 refine⟨hn,Nat.ne_of_gt (ax I.lt hb),I.nofs hb,.inr (aR I.sz hb),fun x c e z=>?_,fun p hp z=>?_⟩
 ·obtain⟨v,q⟩:=I.cell x c e
  exact absurd (ax q.lt (by rw [z];exact hb)) (aO _)
 ·exact absurd (ax (ak (I.pin p hp).1) (by rw [z];exact hb)) (aO _)
structure Z0 (P:Program) (w:World) (K:Fg9) (tg:Expr) (J:It) (fp:List Addr) (it:Addr) (tn:Nat->Heap->Prop):Prop where
 mem:it∈fp
 obj:∀i h,tn i h->∀b∈fp,∃o,h.get? b=some o/\∀v,o.data≠.cell v
 keep:∀i h h',tn i h->(∀b∈fp,∀o,h.get? b=some o->h'.get? b=some o)->tn i h'
 item:∀(X:Cx),X.prog=P->X.w=w->X.K=K->X.calm=true->∀(i:Nat) (ae:Pn9) (s:Shared) (σ:St) (H:Hp) (E:VS9),A0 X ae σ H s->(∀b∈fp,K2 X ae H b)->tn i s.heap->J.go i H ->
  wpAny (model P w) X.A (pyNext (.ref it)) (fun r s1=>∃u,r=some u /\
   wpAny (model P w) X.A (letOwnedTupleGo tg (.ref it) u) (fun _ s2=>∃x H',A0 X ae σ H' s2/\B7 x u/\J.yld i H x H'/\tn (i+1) s2.heap/\∀b∈fp,H' b=none) E s1) E s
 done:∀(X:Cx),X.prog=P->X.w=w->X.K=K->X.calm=true->∀(i:Nat) (ae:Pn9) (s:Shared) (σ:St) (H:Hp) (E:VS9),A0 X ae σ H s->(∀b∈fp,K2 X ae H b)->tn i s.heap->J.stop i H ->
  wpAny (model P w) X.A (pyNext (.ref it)) (fun r s1=>r=none/\A0 X ae σ H s1) E s
 self:∀(A:Around) (i:Nat) (s:Shared) (Q:VS9) (E:VS9),tn i s.heap->Q (.ref it) s->wpAny (model P w) A (pyIter (.ref it)) Q E s
noncomputable abbrev TI:=St->Hp->(It->Hp->Prop)->Prop
def PIE (X:Cx) (ae:Pn9) (σ:St) (tg:Expr) (R:It->Hp->Prop) (iW:Value) (s2:Shared):Prop :=
 ∃(it:Addr) (fp:List Addr) (tn:Nat->Heap->Prop) (J:It) (H':Hp),iW=.ref it/\A0 X ae σ H' s2/\Z0 X.prog X.w X.K tg J fp it tn/\tn 0 s2.heap/\(∀b∈fp,K2 X ae H' b)/\R J H'
def PI (X:Cx) (tg iter:Expr) (wi:TI):Prop :=
 ∀(ae:Pn9) (s:Shared) (σ:St) (H:Hp) (R:It->Hp->Prop),A0 X ae σ H s->wi σ H R ->
  wpAny (model X.prog X.w) X.A (eval iter X.env) (fun v s1=>wpAny (model X.prog X.w) X.A (pyIter v) (PIE X ae σ tg R) X.xe s1) X.xe s
theorem Q5o {M:Model}{A:Around}{E:VS9}{s:Shared}{tg:Expr}{it:Addr}{u:Value}{o:Obj}{n:String}{vs:Array Value}{Q:Unit->Shared->Prop} (ho:s.heap.get? it=some o) (hc:o.cls=.type n) (hd:o.data=.fields vs)
  (hn:["enumerate","zip","dict_itemiterator","dict_reverseitemiterator","odict_iterator","itertools.zip_longest","itertools.pairwise"].contains n=false) (hQ:Q () s):wpAny M A (letOwnedTupleGo tg (.ref it) u) Q E s:=by
 unfold letOwnedTupleGo
 cases tg <;> first
  | exact af hQ
  | (cases u <;> first
    | exact af hQ
    | (refine a9 (wpAny_load ho ?_)
       rw [hc,hd]
       show wpAny M A (if (["enumerate","zip","dict_itemiterator","dict_reverseitemiterator","odict_iterator","itertools.zip_longest","itertools.pairwise"].contains n&&vs[0]?==some (rawInt _))=true then _ else _) Q E s
       rw [aD (by intro h;rw [hn,Bool.false_and]at h;cases h)]
       exact af hQ))
noncomputable def Itl (K:Fg9) (a:Addr):It :=
 ⟨fun i H=>∃xs x,C9 K H a xs/\xs[i]?=some x,fun i H x H'=>H'=H/\∀xs,C9 K H a xs->xs[i]?=some x,fun i H=>∃xs,C9 K H a xs/\xs.length<=i⟩
noncomputable def Itt (K:Fg9) (a:Addr):It :=
 ⟨fun i H=>∃xs x,C0 K H a xs/\xs[i]?=some x,fun i H x H'=>H'=H/\∀xs,C0 K H a xs->xs[i]?=some x,fun i H=>∃xs,C0 K H a xs/\xs.length<=i⟩
noncomputable def Itr (lo:Int) (n:Nat):It:=⟨fun i _=>i<n,fun i H x H'=>H'=H/\x=.int (lo+i),fun i _=>n<=i⟩
theorem W8o {P:Program}{w:World}{K:Fg9}{tg:Expr} (a it:Addr):Z0 P w K tg (Itl K a) [it] it (fun i h=>h.IsListIter it a i) where
 mem:=by simp
 obj:=fun i h st b hb=>by
  have e:b=it:=by simpa using hb
  subst e
  obtain⟨o,e,c,d⟩:=st
  exact⟨o,e,fun v z=>by rw [d]at z;cases z⟩
 keep:=fun i h h' st k=>st.at fun o e=>k it (by simp) o e
 item:=by
  intro X hP hw hK hc i ae s σ H E I hf st hg
  subst hP hw hK
  obtain⟨xs,x,hq,hx⟩:=hg
  obtain⟨aS,rv,p,hz⟩:=I.list hq
  obtain⟨u,hu,ru⟩:=rv.get hx
  obtain⟨f0,f1,f2,f3,f4,f5⟩:=hf it (by simp)
  refine wpAny_pyNext_list_item st p.isList (x:=u) (by simpa using hu) fun h' ft sb=>?_
  have I1:A0 X ae σ H { s with heap:=h' }:=I.turned (t':=s.toks) (fun b o hb e=>(sb.2 b hb).trans e) f0 f1 f3 f4 f5
  obtain⟨o,e,c,d⟩:=id ft
  exact⟨u,rfl,Q5o (s:={ s with heap:=h' }) e c d (by decide) ⟨x,H,I1,ru,⟨rfl,fun ys hy=>by rw [I.list_inj hy hq];exact hx⟩,ft,fun b hb=>(hf b hb).1⟩⟩
 done:=by
  intro X hP hw hK hc i ae s σ H E I hf st hg
  subst hP hw hK
  obtain⟨xs,hq,hx⟩:=hg
  obtain⟨aS,rv,p,hz⟩:=I.list hq
  obtain⟨f0,f1,f2,f3,f4,f5⟩:=hf it (by simp)
  have hl:=rv.length
  exact wpAny_pyNext_list_end (I.ok.hd hc) st p.isList (by simp;omega) fun h' eb=>⟨rfl,I.turned (t':=s.toks) (fun b o hb e=>eb b o hb e) f0 f1 f3 f4 f5⟩
 self:=fun _ _ _ _ _ st h=>wpAny_pyIter_listiter st h
theorem W8q {P:Program}{w:World}{K:Fg9}{tg:Expr} (a it:Addr):Z0 P w K tg (Itt K a) [it] it (fun i h=>h.IsTupleIter it a i) where
 mem:=by simp
 obj:=fun i h st b hb=>by
  have e:b=it:=by simpa using hb
  subst e
  obtain⟨o,e,c,d⟩:=st
  exact⟨o,e,fun v z=>by rw [d]at z;cases z⟩
 keep:=fun i h h' st k=>st.at fun o e=>k it (by simp) o e
 item:=by
  intro X hP hw hK hc i ae s σ H E I hf st hg
  subst hP hw hK
  obtain⟨xs,x,hq,hx⟩:=hg
  obtain⟨aS,rv,p,hz⟩:=I.tuple hq
  obtain⟨u,hu,ru⟩:=rv.get hx
  obtain⟨f0,f1,f2,f3,f4,f5⟩:=hf it (by simp)
  refine wpAny_pyNext_tuple_item st (show s.heap.IsTuple a aS.toArray from p) (x:=u) (by simpa using hu) fun h' ft sb=>?_
  have I1:A0 X ae σ H { s with heap:=h' }:=I.turned (t':=s.toks) (fun b o hb e=>(sb.2 b hb).trans e) f0 f1 f3 f4 f5
  obtain⟨o,e,c,d⟩:=id ft
  exact⟨u,rfl,Q5o (s:={ s with heap:=h' }) e c d (by decide) ⟨x,H,I1,ru,⟨rfl,fun ys hy=>by rw [I.tuple_inj hy hq];exact hx⟩,ft,fun b hb=>(hf b hb).1⟩⟩
 done:=by
  intro X hP hw hK hc i ae s σ H E I hf st hg
  subst hP hw hK
  obtain⟨xs,hq,hx⟩:=hg
  obtain⟨aS,rv,p,hz⟩:=I.tuple hq
  obtain⟨f0,f1,f2,f3,f4,f5⟩:=hf it (by simp)
  have hl:=rv.length
  exact wpAny_pyNext_tuple_end (I.ok.hd hc) st (show s.heap.IsTuple a aS.toArray from p) (by simp;omega) fun h' eb=>⟨rfl,I.turned (t':=s.toks) (fun b o hb e=>eb b o hb e) f0 f1 f3 f4 f5⟩
 self:=fun _ _ _ _ _ st h=>wpAny_pyIter_tupleiter st h
theorem W8p {P:Program}{w:World}{K:Fg9}{tg:Expr} (it:Addr) (lo:Int) (n:Nat):Z0 P w K tg (Itr lo n) [it] it (fun i h=>IsRangeIter h it (lo+(i:Nat)*1) ((n:Int)-(i:Nat)) 1) where
 mem:=by simp
 obj:=fun i h st b hb=>by
  have e:b=it:=by simpa using hb
  subst e
  exact⟨_,st,fun v z=>by
   have z':Data.fields _=Data.cell v:=z
   cases z'⟩
 keep:=fun i h h' st k=>k it (by simp) _ st
 item:=by
  intro X hP hw hK hc i ae s σ H E I hf st hg
  subst hP hw hK
  obtain⟨f0,f1,f2,f3,f4,f5⟩:=hf it (by simp)
  have W:=Walks.range (prog:=X.prog) (w:=X.w) (I.ok.hd hc) it lo 1 n
  refine W.item i s _ _ hg st fun v h' tk hv ft kk=>?_
  obtain⟨t,rfl⟩:=hv
  have I1:A0 X ae σ H { s with heap:=h',toks:=tk }:=I.turned (fun b o hb e=>kk b o (by simpa using hb) e) f0 f1 f3 f4 f5
  refine⟨_,rfl,Q5o (s:={ s with heap:=h',toks:=tk }) (n:="range_iterator") ft rfl rfl (by decide) ⟨.int (lo+i),H,I1,⟨t,?_⟩,⟨rfl,rfl⟩,ft,fun b hb=>(hf b hb).1⟩⟩
  rw [Int.mul_one]
 done:=by
  intro X hP hw hK hc i ae s σ H E I hf st hg
  subst hP hw hK
  obtain⟨f0,f1,f2,f3,f4,f5⟩:=hf it (by simp)
  exact wpAny_pyNext_range_end (I.ok.hd hc) st (by have:n<=i:=hg;omega) fun h' eb=>⟨rfl,I.turned (t':=s.toks) (fun b o hb e=>eb b o hb e) f0 f1 f3 f4 f5⟩
 self:=fun _ _ _ _ _ st h=>wpAny_pyIter_rangeiter st h
end L2
namespace L2
open PySem PySem.Spec PyProof.Rows
section
variable {X:Cx}{tg:Expr}
noncomputable def Y8h (K:Fg9) (tl:TE):TI:=fun σ H R=>tl σ H fun x H1=>∃a,x=.ref a/\(∃xs,C9 K H1 a xs)/\R (Itl K a) H1
noncomputable def Q5q (K:Fg9) (tl:TE):TI:=fun σ H R=>tl σ H fun x H1=>∃a,x=.ref a/\(∃xs,C0 K H1 a xs)/\R (Itt K a) H1
theorem Y1m {l:Expr}{tl:TE} (hl:PE X l tl):PI X tg l (Y8h X.K tl):=by
 intro ae s σ H R I h
 refine B2 (hl ae s σ H _ I h) fun v s1 ⟨x,H1,I1,r1,q1⟩=>?_
 obtain⟨a,e,⟨xs,hq⟩,q⟩:=q1
 subst e
 cases r1
 obtain⟨aS,rv,p,hz⟩:=I1.list hq
 refine wpAny_pyIter_list p.isList ?_
 refine⟨s1.heap.objs.size,[s1.heap.objs.size],_,_,H1,rfl,I1.kept (t':=s1.toks) fun b o e=>aa _ e,W8o a _,⟨_,aw _ rfl,rfl,rfl⟩,fun b hb=>?_,q⟩
 have e:b=s1.heap.objs.size:=by simpa using hb
 subst e
 exact I1.fpOk (ah _) (I1.hok.fresh (ah _))
theorem Y1o {l:Expr}{tl:TE} (hl:PE X l tl):PI X tg l (Q5q X.K tl):=by
 intro ae s σ H R I h
 refine B2 (hl ae s σ H _ I h) fun v s1 ⟨x,H1,I1,r1,q1⟩=>?_
 obtain⟨a,e,⟨xs,hq⟩,q⟩:=q1
 subst e
 cases r1
 obtain⟨aS,rv,p,hz⟩:=I1.tuple hq
 refine dW (show s1.heap.IsTuple a aS.toArray from p) ?_
 refine⟨s1.heap.objs.size,[s1.heap.objs.size],_,_,H1,rfl,I1.kept (t':=s1.toks) fun b o e=>aa _ e,W8q a _,⟨_,aw _ rfl,rfl,rfl⟩,fun b hb=>?_,q⟩
 have e:b=s1.heap.objs.size:=by simpa using hb
 subst e
 exact I1.fpOk (ah _) (I1.hok.fresh (ah _))
theorem W4e {ae:Pn9} {σ:St}{H:Hp}{s:Shared}{R:It->Hp->Prop}{E:VS9}{lo hi:Int}{t u v:Tok}{tk:Nat} (I:A0 X ae σ H s) (h1:-(2 ^ 62)<=lo) (h2:lo<2 ^ 62) (h3:-(2 ^ 62)<=hi) (h4:hi<2 ^ 62)
  (q:R (Itr lo (hi-lo).toNat) H):wpAny (model X.prog X.w) X.A (pyIter (.ref s.heap.objs.size)) (PIE X ae σ tg R) E { s with heap:=s.heap.push { cls:=.type "range",data:=.fields #[.int lo t,.int hi u,.int 1 v] },toks:=tk }:=by
 refine wpAny_pyIter_range (IsRange.new ..) (small_one h1 h2 h3 h4) ?_
 have I1:A0 X ae σ H { s with heap:=s.heap.push { cls:=.type "range",data:=.fields #[.int lo t,.int hi u,.int 1 v] },toks:=tk }:=I.kept fun b o e=>aa _ e
 refine⟨(s.heap.push { cls:=.type "range",data:=.fields #[.int lo t,.int hi u,.int 1 v] }).objs.size,[(s.heap.push { cls:=.type "range",data:=.fields #[.int lo t,.int hi u,.int 1 v] }).objs.size],_,_,H,rfl,
  I1.kept (t':=tk) fun b o e=>aa _ e,W8p _ lo (hi-lo).toNat,?_,fun b hb=>?_,q⟩
 ·have e1:lo+((0:Nat):Int)*1=lo:=by simp
  have e2:(((hi-lo).toNat:Nat):Int)-((0:Nat):Int)=Builtin.Range.rangeSize lo hi 1:=by rw [rangeSize_one];split <;> omega
  show IsRangeIter _ _ (lo+((0:Nat):Int)*1) ((((hi-lo).toNat:Nat):Int)-((0:Nat):Int)) 1
  rw [e1,e2]
  exact aw _ rfl
 ·have e:b=(s.heap.push { cls:=.type "range",data:=.fields #[.int lo t,.int hi u,.int 1 v] }).objs.size:=by simpa using hb
  subst e
  exact I1.fpOk (ah _) (I1.hok.fresh (ah _))
noncomputable def U6 (ta:TA):TI:=fun σ H R=>ta σ H fun vs H1=>∃j:Int,vs=[.int j]/\-(2 ^ 62)<=j/\j<2 ^ 62/\R (Itr 0 j.toNat) H1
theorem Y1n {a:Expr}{ta:TA}{p pos:Pos} (hg:Gl X "range") (hm:X.mg "range"=none) (ha:PA X [a] ta) (hs:starEach [a] X.env=[(false,eval a X.env)]:=by rfl):PI X tg (.Call (.Name "range" p) [a] [] pos) (U6 ta):=by
 intro ae s σ H R I h
 refine Call_ (Y4 I hg hm boot_range (aY (B2 (ha pos ae s σ H _ I h) fun us s1 ⟨vs,H1,I1,r1,q1⟩=>?_) hs rfl))
 obtain⟨j,e,q1,q2,q⟩:=q1
 subst e
 cases r1 with
 | cons r rr =>
  cases rr
  obtain⟨t,rfl⟩:=r
  exact call_range_1 (W4e I1 (by omega) (by omega) q1 q2 (by simpa using q))
def tFor (wi:TI) (g:TG) (tb:TS):TS:=fun D σ H=>wi σ H fun J H1=>∃W:Nat->Nat->St->Hp->Prop,(∃m,W 0 m σ H1)/\∀i m σ H,W i m σ H ->
 (J.stop i H/\D.nx σ H)\/(J.go i H/\∃N:St->Hp->Prop,(∀ σ' H',N σ' H'->∃m',m'<m/\W (i+1) m' σ' H')/\∀x H',J.yld i H x H'->g x σ H' fun σ2 H2=>tb { D with nx:=N,ct:=N,bk:=D.nx } σ2 H2)
noncomputable def U1 (fp:List Addr) (h:Heap):Pn9:=fp.filterMap fun b=>(h.get? b).map fun o=>(b,o)
theorem Q0l {fp:List Addr}{h:Heap}{b:Addr}{o:Obj} (hb:b∈fp) (e:h.get? b=some o):(b,o)∈U1 fp h:=List.mem_filterMap.mpr ⟨b,hb,by rw [e];rfl⟩
theorem Q6e {fp:List Addr}{h:Heap}{p:Addr×Obj} (hp:p∈U1 fp h):p.1∈fp/\h.get? p.1=some p.2:=by
 obtain⟨b,hb,e⟩:=List.mem_filterMap.mp hp
 cases q:h.get? b with
 | none=>rw [q]at e;cases e
 | some o =>
  rw [q]at e
  have e':(b,o)=p:=aB e
  subst e'
  exact⟨hb,q⟩
theorem A0.pinned {ae:Pn9} {σ:St}{H:Hp}{s:Shared}{fp:List Addr} (I:A0 X ae σ H s) (hf:∀b∈fp,K2 X ae H b) (ho:∀b∈fp,∃o,s.heap.get? b=some o/\∀v,o.data≠.cell v):A0 X (ae++U1 fp s.heap) σ H s :=
 I.pins_of fun p hp=>(aU.mp hp).elim (fun z=>I.pin p (am _ z)) fun z=>by
  obtain⟨hb,e⟩:=Q6e z
  obtain⟨f0,f1,f2,_⟩:=hf p.1 hb
  obtain⟨o,e',d⟩:=ho p.1 hb
  rw [e]at e';cases e'
  exact⟨e,f0,f1,f2,d⟩
theorem A0.unpinned {ae pl:Pn9} {σ:St}{H:Hp}{s:Shared} (I:A0 X (ae++pl) σ H s):A0 X ae σ H s:=I.pins_of fun p hp=>I.pin p (am _ (bi _ hp))
theorem W3t {iter:Expr}{body:List Stmt}{wi:TI}{g:TG}{tb:TS}{pos:Pos} (hp:PassesOwn (model X.prog X.w) X.A X.env X.xe) (hc:X.calm=true) (hi:PI X tg iter wi) (hg:PG X tg g) (hb:PSs X body tb)
  (hs:∀x,foldedSetIterable iter X.env x=pure x:=by intro _;rfl):PS X (.For tg iter body [] pos) (tFor wi g tb):=by
 intro ae s σ H D I h
 refine wpAny_For (B2 (hi ae s σ H _ I h) fun v s1 h1=>B2 h1 fun iW s2 h2=>?_) hs
 obtain⟨it,fp,tn,J,H2,e,I2,T,dC,f2,W,⟨m0,w0⟩,fx⟩:=h2
 subst e
 have jc:∀{H':Hp},(∀b∈fp,H' b=none)->∀b∈fp,K2 X ae H' b:=fun hn b hb=>⟨hn b hb,(f2 b hb).2⟩
 refine codeAny_forLoop_any (fun n s'=>∃i σ' H',A0 X ae σ' H' s'/\tn i s'.heap/\(∀b∈fp,H' b=none)/\W i n σ' H') ?_ m0 ⟨0,σ,H2,I2,dC,fun b hb=>(f2 b hb).1,w0⟩
 rintro n s3 ⟨i,σ3,H3,I3,fL,fP,w3⟩
 rcases fx i n σ3 H3 w3 with⟨stop,qn⟩ | ⟨go,N,hN,step⟩
 ·refine dR hp (B2 (T.done X rfl rfl rfl hc i ae s3 σ3 H3 X.xe I3 (jc fP) fL stop) fun r s4 ⟨hr,I4⟩=>?_)
  subst hr
  exact wpAny_execs_nil ⟨σ3,H3,I4,qn⟩
 ·refine dR hp (B2 (T.item X rfl rfl rfl hc i ae s3 σ3 H3 X.xe I3 (jc fP) fL go) fun r s4 ⟨u,hr,h4⟩=>?_)
  subst hr
  refine dR hp (B2 h4 fun _ s5 ⟨x,H5,I5,r5,y5,eD,iK⟩=>?_)
  have iP:=I5.pinned (jc iK) (T.obj _ _ eD)
  refine dR hp (B2 (hg _ s5 σ3 H5 x u _ iP r5 (step x H5 y5)) fun _ s6 ⟨σ6,H6,I6,q6⟩=>?_)
  refine dR hp (B2 (hb _ s6 σ6 H6 _ I6 q6) fun f s7 q7=>?_)
  have again:∀{σ7:St}{H7:Hp},A0 X (ae++U1 fp s5.heap) σ7 H7 s7->N σ7 H7->∃m,m<n/\∃i σ' H',A0 X ae σ' H' s7/\tn i s7.heap/\(∀b∈fp,H' b=none)/\W i m σ' H':=fun {σ7 H7} I7 n7=>by
   obtain⟨m',hm,w7⟩:=hN σ7 H7 n7
   refine⟨m',hm,i+1,σ7,H7,I7.unpinned,T.keep _ _ _ eD fun b hb o e=>(I7.pin (b,o) (am _ (am _ (Q0l hb e)))).1,fun b hb=>?_,w7⟩
   obtain⟨o,e,d⟩:=T.obj _ _ eD b hb
   exact(I7.pin (b,o) (am _ (am _ (Q0l hb e)))).2.1
  cases f with
  | next=>obtain⟨σ7,H7,I7,n7⟩:=q7;exact again I7 n7
  | cont=>obtain⟨σ7,H7,I7,n7⟩:=q7;exact again I7 n7
  | brk=>obtain⟨σ7,H7,I7,q7⟩:=q7;exact⟨σ7,H7,I7.unpinned,q7⟩
  | ret v=>obtain⟨x7,σ7,H7,I7,r7,q7⟩:=q7;exact⟨x7,σ7,H7,I7.unpinned,r7,q7⟩
end
end L2
namespace L2
open PySem PySem.Spec PyProof.Rows
noncomputable abbrev R2:=V->V->Hp->VK->Prop
def P4 (X:Cx) (f:Value->Value->Sem Value) (r:R2):Prop :=
 ∀(ae:Pn9) (s:Shared) (σ:St) (H:Hp) (x y:V) (v u:Value) (Q:VK),A0 X ae σ H s->B7 x v->B7 y u->r x y H Q ->
  wpAny (model X.prog X.w) X.A (f v u) (EP X ae σ Q) X.xe s
def Q2h (X:Cx) (f:Value) (r:List V->Hp->VK->Prop):Prop :=
 ∀(ae:Pn9) (s:Shared) (σ:St) (H:Hp) (xs:List V) (us:List Value) (Q:VK),A0 X ae σ H s->B9 xs us->r xs H Q ->
  wpAny (model X.prog X.w) X.A (call f us) (EP X ae σ Q) X.xe s
def TruR (X:Cx) (r:V->Hp->(Bool->Hp->Prop)->Prop):Prop :=
 ∀(ae:Pn9) (s:Shared) (σ:St) (H:Hp) (x:V) (v:Value) (Q:Bool->Hp->Prop),A0 X ae σ H s->B7 x v->r x H Q ->
  wpAny (model X.prog X.w) X.A (truthy v) (TP X ae σ Q) X.xe s
def tOp (r:R2) (ta tb:TE):TE:=fun σ H Q=>ta σ H fun x H1=>tb σ H1 fun y H2=>r x y H2 Q
def rI (C:Int->Int->Prop) (g:Int->Int->V):R2:=fun x y H Q=>∃i j,x=.int i/\y=.int j/\C i j/\Q (g i j) H
def rI0 (g:Int->Int->V):R2:=fun x y H Q=>∃i j,x=.int i/\y=.int j/\Q (g i j) H
section
variable {X:Cx}{a b c:Expr}{ta tb tc:TE}{pos:Pos}
theorem Z0x (ha:PE X a ta) (hb:PE X b tb) {ae:Pn9}{s:Shared} {σ:St}{H:Hp}{R:V->V->Hp->Prop} (I:A0 X ae σ H s)
  (h:ta σ H fun x H1=>tb σ H1 fun y H2=>R x y H2) {Q:VS9}{f:Value->Value->Sem Value}
  (hf:∀v u s2 x y H2,A0 X ae σ H2 s2->B7 x v->B7 y u->R x y H2->wpAny (model X.prog X.w) X.A (f v u) Q X.xe s2) :
  wpAny (model X.prog X.w) X.A (eval a X.env) (fun v s₁=>wpAny (model X.prog X.w) X.A (eval b X.env) (fun u s₂=>wpAny (model X.prog X.w) X.A (f v u) Q X.xe s₂) X.xe s₁) X.xe s:=by
 refine B2 (ha ae s σ H _ I h) fun v s1 ⟨x,H1,I1,r1,q1⟩=>?_
 refine B2 (hb ae s1 σ H1 _ I1 q1) fun u s2 ⟨y,H2,I2,r2,q2⟩=>?_
 exact hf v u s2 x y H2 I2 r1 r2 q2
theorem W2z {op:Operator}{r:R2} (ho:P4 X (binaryOp op) r) (ha:PE X a ta) (hb:PE X b tb):PE X (.BinOp a op b pos) (tOp r ta tb):=by
 intro ae s σ H Q I h
 exact wpAny_BinOp (Z0x ha hb I h fun v u s2 x y H2 I2 rx ry q=>ho ae s2 σ H2 x y v u Q I2 rx ry q)
theorem opI {f:Value->Value->Sem Value}{C:Int->Int->Prop}{g:Int->Int->Int}
  (rule:∀(i j:Int) (t u:Tok) (s:Shared) (Q:VS9) (E:VS9),C i j->Q (.int (g i j) s.toks) { s with toks:=s.toks+1 }->wpAny (model X.prog X.w) X.A (f (.int i t) (.int j u)) Q E s) :
  P4 X f (rI C fun i j=>.int (g i j)):=by
 intro ae s σ H x y v u Q I rx ry h
 obtain⟨i,j,rfl,rfl,hc,q⟩:=h
 obtain⟨t,rfl⟩:=rx
 obtain⟨t',rfl⟩:=ry
 exact rule i j t t' s _ _ hc ⟨.int (g i j),H,I.tok _,⟨_,rfl⟩,q⟩
theorem opI0 {f:Value->Value->Sem Value}{g:Int->Int->Int}
  (rule:∀(i j:Int) (t u:Tok) (s:Shared) (Q:VS9) (E:VS9),Q (.int (g i j) s.toks) { s with toks:=s.toks+1 }->wpAny (model X.prog X.w) X.A (f (.int i t) (.int j u)) Q E s) :
  P4 X f (rI0 fun i j=>.int (g i j)):=by
 intro ae s σ H x y v u Q I rx ry h
 obtain⟨i,j,rfl,rfl,q⟩:=h
 obtain⟨t,rfl⟩:=rx
 obtain⟨t',rfl⟩:=ry
 exact rule i j t t' s _ _ ⟨.int (g i j),H,I.tok _,⟨_,rfl⟩,q⟩
theorem opB0 {f:Value->Value->Sem Value}{g:Int->Int->Bool}
  (rule:∀(i j:Int) (t u:Tok) (s:Shared) (Q:VS9) (E:VS9),Q (.bool (g i j)) s->wpAny (model X.prog X.w) X.A (f (.int i t) (.int j u)) Q E s) :
  P4 X f (rI0 fun i j=>.bl (g i j)):=by
 intro ae s σ H x y v u Q I rx ry h
 obtain⟨i,j,rfl,rfl,q⟩:=h
 obtain⟨t,rfl⟩:=rx
 obtain⟨t',rfl⟩:=ry
 exact rule i j t t' s _ _ ⟨.bl (g i j),H,I,rfl,q⟩
def Q0f (i j:Int):Prop:=0<j/\j<1073741824
def Q1i (i j:Int):Prop:=(-(2 ^ 64)<i/\i<2 ^ 64)\/(-(2 ^ 64)<j/\j<2 ^ 64)
theorem Q1i.ok {i j:Int} (h:Q1i i j):IntMulOk i j:=by
 rcases h with⟨h1,h2⟩ | ⟨h1,h2⟩
 ·exact .of_left (intBits_le_64 h1 h2)
 ·exact .of_right (intBits_le_64 h1 h2)
theorem W1u:P4 X (binaryOp .Add) (rI0 fun i j=>.int (i+j)):=opI0 fun _ _ _ _ _ _ _ q=>add_int q
theorem W2c:P4 X (binaryOp .Mult) (rI Q1i fun i j=>.int (i*j)):=opI fun _ _ _ _ _ _ _ hc q=>mul_int q hc.ok
theorem W1y:P4 X (binaryOp .FloorDiv) (rI Q0f fun i j=>.int (i / j)):=opI fun i j _ _ _ _ _ hc q=>by
 have h1:(0:Int)<j:=hc.1
 have h2:j<1073741824:=hc.2
 exact floordiv_int (by omega) (by rw [Int.fdiv_eq_ediv_of_nonneg i (by omega)];exact q) (.inl (PyProof.noPylong_small (by omega)))
theorem W2b:P4 X (binaryOp .Mod) (rI (fun _ j=>0<j) fun i j=>.int (i % j)):=opI fun i j _ _ _ _ _ hc q=>by
 have h1:(0:Int)<j:=hc
 exact mod_int' (by omega) (by rw [Int.fmod_eq_emod_of_nonneg i (by omega)];exact q)
theorem Y8s:P4 X (inplaceOp .Add) (rI0 fun i j=>.int (i+j)):=opI0 fun _ _ _ _ _ _ _ q=>iadd_int q
end
section
variable {X:Cx}{a b c:Expr}{ta tb tc:TE}{pos:Pos}
theorem W2a:P4 X (compareOp .Lt) (rI0 fun i j=>.bl (decide (i<j))):=opB0 fun _ _ _ _ _ _ _ q=>lt_int q
theorem W1z:P4 X (compareOp .GtE) (rI0 fun i j=>.bl (decide (j<=i))):=opB0 fun _ _ _ _ _ _ _ q=>ge_int q
theorem V8 (b:Expr) {op:CmpOp} (h:op≠.In:=by decide) (h2:op≠.NotIn:=by decide):behindInMarks op b=false:=by
 have e1:(op==CmpOp.In)=false:=by cases op <;> first | rfl | exact absurd rfl h
 have e2:(op==CmpOp.NotIn)=false:=by cases op <;> first | rfl | exact absurd rfl h2
 cases b <;> simp [behindInMarks,e1,e2]
theorem W2l {op:CmpOp}{r:R2} (ho:P4 X (compareOp op) r) (ha:PE X a ta) (hb:PE X b tb) (hm:behindInMarks op b=false):PE X (.Compare a [op] [b] pos) (tOp r ta tb):=by
 intro ae s σ H Q I h
 exact wpAny_Compare1 (Z0x ha hb I h fun v u s2 x y H2 I2 rx ry q=>ho ae s2 σ H2 x y v u Q I2 rx ry q) hm
def W8b (t:TE):TT:=fun σ H Q=>t σ H fun x H'=>∃k,x=.bl k/\Q k H'
theorem W3x {op:CmpOp}{r:R2} (ho:P4 X (compareOp op) r) (ha:PE X a ta) (hb:PE X b tb) (hm:behindInMarks op b=false):PT X (.Compare a [op] [b] pos) (W8b (tOp r ta tb)):=by
 intro ae s σ H Q I h
 refine wpAny_isTrue_Compare1 (B2 (ha ae s σ H _ I h) fun v s1 ⟨x,H1,I1,r1,q1⟩=>B2 (hb ae s1 σ H1 _ I1 q1) fun u s2 ⟨y,H2,I2,r2,q2⟩ =>
  B2 (ho ae s2 σ H2 x y v u _ I2 r1 r2 q2) fun c s3 ⟨z,H3,I3,r3,k,e,q3⟩=>?_) hm
 subst e
 cases r3
 exact cY ⟨H3,I3,q3⟩
def Z0p (K:Fg9) (x:V) (H:Hp) (k:Bool):Prop :=
 match x with
 | .non=>k=false
 | .bl b=>k=b
 | .int i=>k=(i != 0)
 | .str y=>y.length<=sizeLine/\k=((y.length:Int) != 0)
 | .byt y=>y.size<=sizeLine/\k=((y.size:Int) != 0)
 | .ref p=>(∃xs,C9 K H p xs/\k=!xs.isEmpty)\/(∃xs,C0 K H p xs/\k=!xs.isEmpty)\/∃kvs,H p=some (.dK kvs)/\k=!kvs.isEmpty
 | _=>False
theorem Y8t {κ:Type}{kvs:List (κ×V)}{vs:List (κ×Value)} (r:KV kvs vs):(!vs.isEmpty)=!kvs.isEmpty:=by
 cases r <;> rfl
theorem Z9e {xs:List V}{aS:List Value} (r:B9 xs aS):(!aS.toArray.isEmpty)=!xs.isEmpty:=by
 cases r <;> simp
theorem Q5z:(sizeLine:Nat)<2 ^ 63:=by rw [sizeLine_eq];decide
theorem W8j:TruR X (fun x H Q=>∃k,Z0p X.K x H k/\Q k H):=by
 intro ae s σ H x v Q I rx h
 obtain⟨k,e,q⟩:=h
 have hl:=Q5z
 have hs:sizeLine=16777216:=sizeLine_eq
 cases x with
 | non =>
  cases rx
  have e':k=false:=e
  subst e'
  exact truthy_none ⟨H,I,q⟩
 | bl b =>
  cases rx
  have e':k=b:=e
  subst e'
  exact cY ⟨H,I,q⟩
 | int i =>
  obtain⟨t,rfl⟩:=rx
  have e':k=(i != 0):=e
  subst e'
  exact PySem.P.truthy_int ⟨H,I,q⟩
 | str y =>
  obtain⟨t,rfl⟩:=rx
  obtain⟨hy,e'⟩:y.length<=sizeLine/\k=((y.length:Int) != 0):=e
  subst e'
  exact PySem.P.truthy_str (by omega) ⟨H,I.tok _,q⟩
 | byt y =>
  obtain⟨t,rfl⟩:=rx
  obtain⟨hy,e'⟩:y.size<=sizeLine/\k=((y.size:Int) != 0):=e
  subst e'
  exact PySem.W.truthy_bytes (by omega) ⟨H,I.tok _,q⟩
 | ref p =>
  cases rx
  have e':(∃xs,C9 X.K H p xs/\k=!xs.isEmpty)\/(∃xs,C0 X.K H p xs/\k=!xs.isEmpty)\/∃kvs,H p=some (.dK kvs)/\k=!kvs.isEmpty:=e
  rcases e' with⟨xs,hx,e'⟩ | ⟨xs,hx,e'⟩ | ⟨kvs,hx,e'⟩
  ·subst e'
   obtain⟨aS,r,pl,hz⟩:=I.list hx
   have bL:=r.length
   exact wpAny_truthy_list pl.isList (by simp only [aE];omega) ⟨H,I.tok _,by rw [Z9e r];exact q⟩
  ·subst e'
   obtain⟨aS,r,pl,hz⟩:=I.tuple hx
   have bL:=r.length
   exact truthy_tuple pl (by simp only [aE];omega) ⟨H,I.tok _,by rw [Z9e r];exact q⟩
  ·subst e'
   obtain⟨hz,hS,vs,r,m⟩:kvs.length<=sizeLine/\(p==sysModules)=false/\∃vs,KV kvs vs/\s.heap.DictOf (J9 X.prog X.w) p vs:=I.hok p _ hx
   have bL:kvs.length=vs.length:=Paired.length r
   exact wpAny_truthy_dict hS m (by omega) ⟨H,I.tok _,by rw [Y8t r];exact q⟩
 | _=>exact(show False from e).elim
theorem W3z (ha:PE X a ta) (he:∀whole,isTrue a X.env whole=(do let v <- whole;standAt a.pos;holding [v] (truthy v))) :
  PT X a (fun σ H Q=>ta σ H fun x H'=>∃k,Z0p X.K x H' k/\Q k H'):=by
 intro ae s σ H Q I h
 exact isTrue_plain (B2 (ha ae s σ H _ I h) fun v s1 ⟨x,H1,I1,r1,q1⟩=>W8j ae s1 σ H1 x v Q I1 r1 q1) (he _)
theorem W1v:P4 X (binaryOp .Add) (fun x y H Q=>∃i j,x=.str i/\y=.str j/\i.length+j.length<=sizeLine/\Q (.str (i++j)) H):=by
 intro ae s σ H x y v u Q I rx ry h
 obtain⟨i,j,rfl,rfl,hz,q⟩:=h
 obtain⟨t,rfl⟩:=rx
 obtain⟨t',rfl⟩:=ry
 exact add_str (fun t' tk=>⟨.str (i++j),H,I.tok _,⟨_,rfl⟩,q⟩) hz
theorem T5 {x:V}{us:List Value} (r:B9 [x] us):∃u,us=[u]/\B7 x u:=by
 cases r with
 | cons r1 r2=>cases r2;exact⟨_,rfl,r1⟩
def LenV (K:Fg9) (x:V) (H:Hp) (n:Nat):Prop :=
 match x with
 | .str y=>y.length<=sizeLine/\n=y.length
 | .byt y=>y.size<=sizeLine/\n=y.size
 | .ref p=>(∃xs,C9 K H p xs/\n=xs.length)\/∃xs,C0 K H p xs/\n=xs.length
 | _=>False
theorem Q5k:Q2h X (.builtin "len") (fun xs H Q=>∃x n,xs=[x]/\LenV X.K x H n/\Q (.int n) H):=by
 intro ae s σ H xs us Q I r h
 obtain⟨x,n,rfl,e,q⟩:=h
 obtain⟨u,rfl,rx⟩:=T5 r
 have hl:=Q5z
 have hs:sizeLine=16777216:=sizeLine_eq
 cases x with
 | str y =>
  obtain⟨t,rfl⟩:=rx
  obtain⟨hy,e'⟩:y.length<=sizeLine/\n=y.length:=e
  subst e'
  exact len_str (by omega) ⟨.int _,H,I.tok _,⟨_,rfl⟩,q⟩
 | byt y =>
  obtain⟨t,rfl⟩:=rx
  obtain⟨hy,e'⟩:y.size<=sizeLine/\n=y.size:=e
  subst e'
  exact PySem.W.len_bytes (by omega) ⟨.int _,H,I.tok _,⟨_,rfl⟩,q⟩
 | ref p =>
  cases rx
  have e':(∃xs,C9 X.K H p xs/\n=xs.length)\/∃xs,C0 X.K H p xs/\n=xs.length:=e
  rcases e' with⟨xs,hx,e'⟩ | ⟨xs,hx,e'⟩
  ·subst e'
   obtain⟨aS,r',pl,hz⟩:=I.list hx
   have bL:=r'.length
   exact Calls.call_len_list pl.isList (by simp only [aE];omega) ⟨.int xs.length,H,I.tok _,⟨_,by simp only [aE];rw [bL]⟩,q⟩
  ·subst e'
   obtain⟨aS,r',pl,hz⟩:=I.tuple hx
   have bL:=r'.length
   exact len_tuple pl (by simp only [aE];omega) ⟨.int xs.length,H,I.tok _,⟨_,by simp only [aE];rw [bL]⟩,q⟩
 | _=>exact(show False from e).elim
end
end L2
namespace L2
open PySem PySem.Spec PyProof.Rows
section
variable {prog:Program}{w:World}{A:Around}{E:VS9}{s:Shared}{K:Fg9}{x dx C f:Addr}{mA:Str->Option Value}{name:Str}{v:Value}
end
theorem X8.some_of {v:V}{o:Option Value} (r:X8 (some v) o):∃u,o=some u/\B7 v u:=by
 cases o with
 | none=>exact(show False from r).elim
 | some u=>exact⟨u,rfl,r⟩
section
variable {P:Program}{w:World}{H H':Hp}{h h':Heap}{a C dx:Addr}{fs re:List (Str×V)}
end
section
variable {X:Cx}{ae:Pn9} {σ:St}{H:Hp}{s:Shared}{a C dx:Addr}{fs:List (Str×V)}{f:Str}{v:V}{A:Around}{E:VS9}
end
section
variable {X:Cx}{o e value:Expr}{f:Str}{pos bF lw:Pos}{ta tv:TE}
end
section
variable {X:Cx}{ae:Pn9} {σ:St}{H:Hp}{s:Shared}{A:Around}{E:VS9}{Q:VS9}{c:Value}{b:Bool}
end
end L2
namespace L2
open PySem PySem.Spec PyProof.Rows
structure C5 (k:Nat) (A:Around):Prop where
 hd:A.handled=none
 dp:A.depth+3*k+5<recursionLimit
 un:A.units+16*k+200<cLine
theorem C5.mono {j k:Nat}{A:Around} (r:C5 k A) (h:j<=k):C5 j A:=⟨r.hd,by have:=r.dp;omega,by have:=r.un;omega⟩
theorem C5.deeper {k:Nat}{A:Around} (r:C5 (k+1) A) (env:Env):C5 k (A.deeper env) :=
 ⟨r.hd,by have:=r.dp;show A.depth+1+3*k+5<_;omega,by have:=r.un;show A.units+3+16*k+200<_;omega⟩
theorem C5.depth {k:Nat}{A:Around} (r:C5 k A):A.depth<recursionLimit:=by have:=r.dp;omega
theorem C5.units {k:Nat}{A:Around} (r:C5 k A):A.units+64<cLine:=by have:=r.un;omega
theorem C5.units0 {k:Nat}{A:Around} (r:C5 k A):A.units<cLine:=by have:=r.un;omega
def tNil:TA:=fun _ H Q=>Q [] H
def Z4h (ta:TE) (tr:TA):TA:=fun σ H Q=>ta σ H fun x H1=>tr σ H1 fun xs H2=>Q (x::xs) H2
section
variable {X:Cx}{e:Expr}{es:List Expr}{te:TE}{t:TA}{pos:Pos}
theorem Q6f:PA X [] tNil:=fun _ _ _ _ H Q I h=>cZ ⟨[],H,I,.nil,h⟩
theorem Q4e (ha:PE X e te) (hr:PA X es t) (hs:starEach (e::es) X.env=(false,eval e X.env)::starEach es X.env:=by rfl):PA X (e::es) (Z4h te t):=by
 intro pos ae s σ H Q I h
 rw [hs]
 show wpAny _ _ (spliced ((false,eval e X.env)::backTo pos (starEach es X.env))) _ _ s
 refine bV (B2 (ha ae s σ H _ I h) fun u s1 ⟨x,H1,I1,r1,q1⟩=>?_)
 exact B2 (hr pos ae s1 σ H1 _ I1 q1) fun us s2 ⟨xs,H2,I2,r2,q2⟩=>⟨x::xs,H2,I2,.cons r1 r2,q2⟩
def tTup (t:TA):TE:=fun σ H Q=>t σ H fun xs H1=>xs.length<=sizeLine/\∀p,H1 p=none->Q (.ref p) (upd H1 p (.tup xs))
def tLst (t:TA):TE:=fun σ H Q=>t σ H fun xs H1=>xs.length<=sizeLine/\∀p,H1 p=none->Q (.ref p) (upd H1 p (.lst xs))
theorem W3e {x1} (h:PA X es t):PE X (.Tuple es x1 pos) (tTup t):=by
 intro ae s σ H Q I hq
 refine wpAny_Tuple_spliced (B2 (h pos ae s σ H _ I hq) fun us s1 ⟨xs,H1,I1,r,z,q⟩=>⟨by rw [<- r.length];exact z,?_⟩)
 have hf:H1 s1.heap.objs.size=none:=I1.hok.fresh (ah _)
 refine⟨.ref s1.heap.objs.size,upd H1 s1.heap.objs.size (.tup xs),I1.laid (t':=s1.toks) (fun b u e=>aa _ e) (ah _) ?_,rfl,q _ hf⟩
 exact⟨z,us,r,⟨_,aw _ rfl,rfl,_,rfl⟩⟩
theorem W2w (h:PA X es t):PE X (.List es pos) (tLst t):=by
 intro ae s σ H Q I hq
 refine wpAny_List_spliced (B2 (h pos ae s σ H _ I hq) fun us s1 ⟨xs,H1,I1,r,z,q⟩=>⟨by rw [<- r.length];exact z,?_⟩)
 have hf:H1 s1.heap.objs.size=none:=I1.hok.fresh (ah _)
 refine⟨.ref s1.heap.objs.size,upd H1 s1.heap.objs.size (.lst xs),I1.laid (t':=s1.toks) (fun b u e=>aa _ e) (ah _) ?_,rfl,q _ hf⟩
 exact⟨z,us,0,r,aw _ rfl⟩
end
noncomputable abbrev Sp:=List V->Hp->VK->XK->Prop
noncomputable abbrev CXT:=List Env->Hp->Shared->XK->Value->Shared->Prop
structure Q3m (P:Program) (w:World) (K:Fg9) (mg:Str->Option Value) (base:Heap) (A:Around) (outer:List Env) (s:Shared) (H:Hp):Prop where
 frames:A.frames=some outer
 mod:Mod K mg base
 bs:∀b o,base.get? b=some o->s.heap.get? b=some o/\H b=none
 bsz:base.objs.size<=s.heap.objs.size
 funs:s.heap.FunFrames base outer
 frf:∀b∈frs outer,H b=none
 hok:F5 P w H s.heap
 bare:AllBare s.gens
def CE (outer:List Env) (P:Program) (w:World) (H:Hp) (s:Shared) (Q:VK) (u:Value) (s':Shared):Prop :=
 ∃v H',s'.os=s.os/\AllBare s'.gens/\Un (frs outer) [] H H' s.heap s'.heap/\F5 P w H' s'.heap/\B7 v u/\Q v H'
def CR (CX:CXT) (outer:List Env) (P:Program) (w:World) (H:Hp) (s:Shared) (Q:VK) (E:XK) (r:Result) (s':Shared):Prop :=
 match r with
 | .ok (.ret u)=>CE outer P w H s Q u s'
 | .ok _=>False
 | .error e=>CX outer H s E e s'
structure R1 (P:Program) (w:World) (K:Fg9) (mg:Str->Option Value) (base:Heap) (CX:CXT) (k:Nat) (f:Addr) (fd:FuncData) (ps:List Str) (sp:Sp):Prop where
 len:∀vs H Q E,sp vs H Q E->vs.length=ps.length
 run:∀(A:Around) (outer:List Env) (s:Shared) (H:Hp) (args:Args) (us:List Value) (vs:List V) (Q:VK) (E:XK),C5 k A->Q3m P w K mg base A outer s H->BindsTo s fd args (ps.zip us)->B9 vs us->sp vs H Q E ->
  codeAny (model P w) A (.call (.ref f) args) (CR CX outer P w H s Q E) s
section
variable {X:Cx}{ae:Pn9} {σ:St}{H:Hp}{s s':Shared}
theorem A0.env0 (I:A0 X ae σ H s):Q3m X.prog X.w X.K X.mg X.base X.A X.stack s H :=
 ⟨I.ok.frames,I.ok.mod,I.bs,aR I.ok.bsz I.sz,I.stack,I.stkFree,I.hok,I.bare⟩
theorem A0.after {Q:VK}{u:Value} (I:A0 X ae σ H s) (h:CE X.stack X.prog X.w H s Q u s'):EP X ae σ Q u s':=by
 obtain⟨v,H',os,bare,un,hok,r,q⟩:=h
 obtain⟨hh,g,d,t,pI⟩:=s'
 obtain rfl:pI=s.os:=os
 exact⟨v,H',I.call (h':=hh) (g':=g) (d':=d) (t':=t) (ch:=[]) un hok bare (fun b z=>absurd z (by simp)),r,q⟩
end
def W7n (sp:Sp) (iM:List V) (E:XK) (t:TA):TE:=fun σ H Q=>t σ H fun vs H1=>sp (vs++iM) H1 Q E
def V1 (K:Fg9) (fd:FuncData) (ps:List Str) (ds:List Value):Prop :=
 ∀(s:Shared) (us:List Value),K.In s.heap->(us++ds).length=ps.length->BindsTo s fd ⟨us,[]⟩ (ps.zip (us++ds))
theorem V1.all {K:Fg9}{fd:FuncData}{ps:List Str} (h:∀us:List Value,us.length=ps.length->bindArgs fd ⟨us,[]⟩=pure (ps.zip us)):V1 K fd ps []:=fun s us _ hl=>by
 rw [ba]at hl ⊢
 exact .of_eq (h us hl)
def Z0n (CX:CXT) (X:Cx) (E:XK):Prop:=∀(ae:Pn9) (σ:St) (H:Hp) (s:Shared) (e:Value) (s':Shared),A0 X ae σ H s->CX X.stack H s E e s'->X.xe e s'
section
variable {X:Cx}{CX:CXT}{k:Nat}{f C:Addr}{fd:FuncData}{ps:List Str}{sp:Sp}{iM:List V}{ds:List Value}{E:XK}{x m:Str}{p pos apos:Pos}{e o:Expr}{es:List Expr}{ta:TE}{t:TA}
theorem Y2g {ae:Pn9} {σ:St}{H:Hp}{s:Shared}{Q:VK}{us:List Value}{vs:List V} (F:R1 X.prog X.w X.K X.mg X.base CX k f fd ps sp) (hr:C5 k X.A) (hb:V1 X.K fd ps ds) (hd:B9 iM ds) (hx:Z0n CX X E)
  (I:A0 X ae σ H s) (r:B9 vs us) (h:sp (vs++iM) H Q E):wpAny (model X.prog X.w) X.A (call (.ref f) us) (EP X ae σ Q) X.xe s:=by
 have r2:B9 (vs++iM) (us++ds):=r.append hd
 have hl:(us++ds).length=ps.length:=by rw [<- r2.length];exact F.len _ _ _ _ h
 refine wpAny_call (codeAny_mono (F.run X.A X.stack s H ⟨us,[]⟩ (us++ds) (vs++iM) Q E hr I.env0 (hb s us I.kIn hl) r2 h) fun r s' hq=>?_)
 cases r with
 | error e=>exact hx ae σ H s e s' I hq
 | ok fl =>
  cases fl with
  | ret u=>exact I.after hq
  | next=>exact False.elim hq
  | brk=>exact False.elim hq
  | cont=>exact False.elim hq
theorem Y1h (F:R1 X.prog X.w X.K X.mg X.base CX k f fd ps sp) (hr:C5 k X.A) (hg:Gl X x) (hm:X.mg x=some (.ref f)) (hk:PySem.W.keepIn X.K (.ref f)=true) (hb:V1 X.K fd ps ds) (hd:B9 iM ds) (hx:Z0n CX X E)
  (ha:PA X (e::es) t) (eJ:(x==("__debug__":Str))=false:=by decide) (he:starEach (e::es) X.env=(false,eval e X.env)::starEach es X.env:=by rfl) (hpl:(backTo pos (starEach es X.env)).any (·.1)=false:=by rfl) :
  PE X (.Call (.Name x p) (e::es) [] pos) (W7n sp iM E t):=by
 intro ae s σ H Q I h
 refine bh (Z2i I hg hm ?_ eJ)
 refine PySem.W.callWith_K (h₀:=X.base) I.ok.mod.kin hk (B2 (ha pos ae s σ H _ I h) fun us s1 ⟨vs,H1,I1,r,q⟩=>⟨I1.kIn,?_⟩) he hpl
 exact Y2g F hr hb hd hx I1 r q
end
section
variable {X:Cx}{CX:CXT}{k:Nat}{f C:Addr}{fd:FuncData}{ps ks:List Str}{sp:Sp}{E:XK}{x m:Str}{p pos apos pZ:Pos}{e o:Expr}{es:List Expr}{rS:List Keyword}{te ta:TE}{t tk:TA}{nm:Option Str}
variable {g:List Value->List Value->List Value}{gV:List V->List V->List V}
end
structure J4 (N P:List Str) (sc:Scope):Prop where
 kind:sc.kind=.function
 co:sc.isCoroutine=false
 gen:sc.isGenerator=false
 nd:N.Nodup
 pre:N.take P.length=P
 par:∀x∈P,sc.names.lookup x=some .local\/sc.names.lookup x=some .cell
 nofree:∀y∈sc.names,y.2≠.free
theorem Z7g {kindOf:Str->Option NameKind}{x:Str}:∀{binds:List (Str×Value)}{m:Str->Option Value},(∀v,(x,v)∉binds)->bindL kindOf binds m x=m x
 | [],_,_=>rfl
 | (n,v)::r,m,h=>by
  unfold bindL
  rw [Z7g fun w hw=>h w (av _ hw)]
  split
  ·have:x≠n:=by rintro rfl;exact h v ar
   simp [this]
  ·rfl
theorem Z7e {kindOf:Str->Option NameKind}{x:Str}:∀{binds:List (Str×Value)}{m:Str->Option Value},(∀v,(x,v)∉binds)->bindC kindOf binds m x=m x
 | [],_,_=>rfl
 | (n,v)::r,m,h=>by
  unfold bindC
  rw [Z7e fun w hw=>h w (av _ hw)]
  split
  ·rfl
  ·have:x≠n:=by rintro rfl;exact h v ar
   simp [this]
theorem Z7f {kindOf:Str->Option NameKind}{x:Str}{v:Value}:∀{P:List Str}{vs:List Value}{i:Nat}{m:Str->Option Value},P.Nodup->P[i]?=some x->vs[i]?=some v->kindOf x=some .local ->
  bindL kindOf (P.zip vs) m x=some v
 | [],_,_,_,_,h,_,_=>by simp at h
 | _::_,[],_,_,_,_,h,_=>by simp at h
 | p::P,w::vs,0,m,nd,h1,h2,hk=>by
  simp at h1 h2;subst h1;subst h2
  show bindL kindOf ((p,w)::P.zip vs) m p=_
  unfold bindL
  rw [Z7g fun v hv=>(bA.mp nd).1 (dY hv).1,aI hk]
  simp
 | p::P,w::vs,i+1,m,nd,h1,h2,hk=>by
  show bindL kindOf ((p,w)::P.zip vs) m x=_
  unfold bindL
  exact Z7f (i:=i) (bA.mp nd).2 (by simpa using h1) (by simpa using h2) hk
theorem Z7d {kindOf:Str->Option NameKind}{x:Str}{v:Value}:∀{P:List Str}{vs:List Value}{i:Nat}{m:Str->Option Value},P.Nodup->P[i]?=some x->vs[i]?=some v->kindOf x≠some .local ->
  bindC kindOf (P.zip vs) m x=some v
 | [],_,_,_,_,h,_,_=>by simp at h
 | _::_,[],_,_,_,_,h,_=>by simp at h
 | p::P,w::vs,0,m,nd,h1,h2,hk=>by
  simp at h1 h2;subst h1;subst h2
  show bindC kindOf ((p,w)::P.zip vs) m p=_
  unfold bindC
  rw [Z7e fun v hv=>(bA.mp nd).1 (dY hv).1,aD hk]
  simp
 | p::P,w::vs,i+1,m,nd,h1,h2,hk=>by
  show bindC kindOf ((p,w)::P.zip vs) m x=_
  unfold bindC
  exact Z7d (i:=i) (bA.mp nd).2 (by simpa using h1) (by simpa using h2) hk
noncomputable def start (N:List Str) (vs:List V):St:=vs.map some++List.replicate (N.length-vs.length) none
noncomputable def V4 (CX:CXT) (P:Program) (w:World) (K:Fg9) (mg:Str->Option Value) (base:Heap) (N:List Str) (qual:Str) (scope:Scope) (f:Addr) (cd:Value) (A:Around) (outer:List Env) (s:Shared) (H:Hp) (E:XK):Cx where
 prog:=P
 w:=w
 K:=K
 mg:=mg
 base:=base
 A:=A.deeper (envOfC qual scope s.heap.objs.size f cd)
 N:=N
 s₀:=s
 H₀:=H
 env:=envOfC qual scope s.heap.objs.size f cd
 outer:=outer
 stack:=envOfC qual scope s.heap.objs.size f cd::outer
 ex:=[]
 calm:=true
 fn:=fun _=>true
 pn:=[]
 xe:=fun e s'=>wpAny (model P w) (A.deeper (envOfC qual scope s.heap.objs.size f cd)) (leaving (envOfC qual scope s.heap.objs.size f cd) e) (fun _ lF=>CX outer H s E e lF) (fun e' lF=>CX outer H s E e' lF) s'
theorem Z7n {sc:Scope}{n:Nat}{x:Str} (h:sc.names.lookup x=some .cell):∃c,(cellsFrom n sc.names []).lookup x=some c:=by
 have q:=PySem.W.cellsFrom_some sc.names n [] (.inl h)
 exact Option.isSome_iff_exists.mp q
theorem Z9c {CX:CXT}{P:Program}{w:World}{K:Fg9}{mg:Str->Option Value}{base:Heap}{N ps:List Str}{qual:Str}{scope:Scope}{f:Addr}{cd:Value}{A:Around}{outer:List Env}{s s1:Shared}{H:Hp}{E:XK}{us:List Value}{vs:List V}
  (S:J4 N ps scope) (hd:A.handled=none) (e0:Q3m P w K mg base A outer s H) (hl:vs.length=ps.length) (r:B9 vs us)
  (x:InCallC s s.heap.objs.size (bindL (envOfC qual scope s.heap.objs.size f cd).kindOf (ps.zip us) fun _=>none) (cellsFrom (s.heap.objs.size+1) scope.names []) (bindC (envOfC qual scope s.heap.objs.size f cd).kindOf (ps.zip us) fun _=>none) s1) :
  A0 (V4 CX P w K mg base N qual scope f cd A outer s H E) [] (start N vs) H s1:=by
 have hpl:ps.length<=N.length:=by have:=congrArg List.length S.pre;rw [List.length_take]at this;omega
 obtain⟨h1,tk,rfl,hk⟩:=x.done
 have hV:∀b:Addr,b∉(V4 CX P w K mg base N qual scope f cd A outer s H E).ex:=fun b z=>absurd (show b∈([]:List Addr)from z) (by simp)
 refine⟨⟨e0.mod,S.kind,rfl,rfl,ah _,fun y z c h1 h2=>?_,fun y hy=>?_,fun y c _ h=>?_,fun _=>hd,Around.frames_deeper e0.frames,.inr ⟨rfl,rfl⟩,fun b z=>absurd z (hV b),e0.bs,e0.bsz,fun b _ _=>hV b,fun b z=>absurd z (hV b),e0.funs,e0.frf⟩,
  rfl,e0.bare,Un.kept hk,⟨_,x.toInCall.ns,fun i y v h1 h2 h3=>?_⟩,fun y c h=>⟨_,x.cell y c h⟩,e0.hok.fresh (ah _),fun y c h=>?_,fun p hp=>absurd (show p∈([]:Pn9)from hp) (by simp),e0.hok.kept hk,?_⟩
 ·exact name_of_addr x.apart (bM h1) (bM h2)
 ·have hy:scope.names.lookup y=some .cell\/scope.names.lookup y=some .free:=hy
  rcases hy with hy | hy
  ·exact Z7n hy
  ·exact absurd rfl (S.nofree _ (bM hy))
 ·exact dq (x.above y c (bM h))
 ·have hi:i<vs.length:=by
   unfold start at h2
   by_cases hi:i<vs.length
   ·exact hi
   ·rw [aT (by simpa using hi)]at h2
    rw [List.getElem?_replicate]at h2
    split at h2 <;> cases h2
  have ha:vs[i]?=some v:=by
   unfold start at h2
   rw [aJ (by simpa using hi),ai]at h2
   cases e:vs[i]? with
   | none=>rw [e]at h2;cases h2
   | some a=>rw [e]at h2;cases h2;rfl
  obtain⟨u,hu,rv⟩:=r.get ha
  have hp:ps[i]?=some y:=by
   rw [<- S.pre,List.getElem?_take_of_lt (by omega)];exact h1
  have nJ:ps.Nodup:=by rw [<- S.pre];exact S.nd.sublist (List.take_sublist _ _)
  refine⟨u,rv,?_⟩
  rcases S.par y (aC hp)with k | k
  ·exact .inl ⟨k,Z7f nJ hp hu k⟩
  ·obtain⟨c,e⟩:=Z7n (n:=s.heap.objs.size+1) k
   refine .inr ⟨.inl k,c,e,?_⟩
   have q:=x.cell y c e
   rw [Z7d nJ hp hu (by show scope.names.lookup y≠_;rw [k];decide)]at q
   exact q
 ·exact e0.hok.fresh (dq (x.above y c (bM h)))
 ·unfold start
  show _=N.length
  rw [aA,ag,aX]
  omega
theorem Z8n {CX:CXT}{P:Program}{w:World}{K:Fg9}{mg:Str->Option Value}{base:Heap}{k:Nat}{f:Addr}{name qual:Str}{params:Arguments}{body:List Stmt}{scope:Scope}{dV kV cS pm cdv ct oc:Value}{an od:Option Addr}
  {eg:Array (Option Value)}{N ps:List Str}{sp:Sp} (lk:K.lookup f=some ⟨oc,od,.func (PySem.W.fnOf name qual params body scope dV kV cS pm an cdv ct),eg⟩) (ef:PySem.W.codeIn K cdv qual=true) (S:J4 N ps scope)
  (len:∀vs H Q E,sp vs H Q E->vs.length=ps.length)
  (bY:∀(A:Around) (outer:List Env) (s:Shared) (H:Hp) (vs:List V) (Q:VK) (E:XK),C5 k (A.deeper (envOfC qual scope s.heap.objs.size f cdv))->sp vs H Q E ->
   ∃t,PSs (V4 CX P w K mg base N qual scope f cdv A outer s H E) body t/\t { nx:=fun _ H'=>Q .non H',rt:=Q } (start N vs) H) :
  R1 P w K mg base CX (k+1) f (PySem.W.fnOf name qual params body scope dV kV cS pm an cdv ct) ps sp:=by
 refine⟨len,fun A outer s H args us vs Q E hr e0 hb r g9=>?_⟩
 have hl:=len _ _ _ _ g9
 have KX:K.In s.heap:=e0.mod.kin.keeps fun b o e=>(e0.bs b o e).1
 have jo:s.heap.NoLimit:=e0.mod.nolimit.keeps fun b o e=>(e0.bs b o e).1
 have gL:∀y∈ps.zip us,scope.names.lookup y.1=some .local\/(scope.names.lookup y.1=some .cell/\((cellsFrom (s.heap.objs.size+1) scope.names []).lookup y.1).isSome=true):=fun⟨n,v⟩ hy=>by
  rcases S.par n (dY hy).1 with q | q
  ·exact .inl q
  ·exact .inr ⟨q,PySem.W.cellsFrom_some _ _ _ (.inl q)⟩
 refine codeAny_call_function hr.depth (KX _ _ lk) rfl S.co S.gen rfl (PySem.W.codeRec_of KX ef) (hb _ _ _ _ ?_)
 refine wpAny_newFunctionEnv_cells S.kind gL fun env he s1 x=>?_
 subst he
 refine⟨jo.keeps x.toInCall.keep,codeAny_func ?_⟩
 obtain⟨t,ht,hq⟩:=bY A outer s H vs Q E (hr.deeper _) g9
 have I:A0 (V4 CX P w K mg base N qual scope f cdv A outer s H E) [] (start N vs) H s1:=Z9c S hr.hd e0 hl r x
 refine aL (ht [] s1 (start N vs) H _ I hq) (fun fl s' hs=>?_) fun e s' hs=>hs
 have fin:∀{σ':St}{H':Hp}{v:V}{u:Value},A0 (V4 CX P w K mg base N qual scope f cdv A outer s H E) [] σ' H' s'->B7 v u->Q v H'->CE outer P w H s Q u s' :=
  fun {σ' H' v u} J rv q=>⟨v,H',J.os,J.bare,J.base,J.hok,rv,q⟩
 cases fl with
 | ret u =>
  obtain⟨v,σ',H',J,rv,q⟩:=hs
  exact fin J rv q
 | next =>
  obtain⟨σ',H',J,q⟩:=hs
  exact fin (v:=V.non) (u:=Value.none) J rfl q
 | brk =>
  obtain⟨_,_,_,q⟩:=hs
  exact False.elim q
 | cont =>
  obtain⟨_,_,_,q⟩:=hs
  exact False.elim q
end L2
namespace L2
open PySem PySem.Spec PyProof.Rows
section
variable {X:Cx}{x:Str}{p pos:Pos}{e:Expr}{es:List Expr}{t:TA}{id T:String}{r:List V->Hp->VK->Prop}
def tCB (r:List V->Hp->VK->Prop) (t:TA):TE:=fun σ H Q=>t σ H fun vs H1=>r vs H1 Q
theorem Y1i (hc:Q2h X (.builtin id) r) (hg:Gl X x) (hm:X.mg x=none) (hv:bootBuiltins x=some (.builtin id)) (ha:PA X (e::es) t) (hn:x≠"__name__":=by decide) (eJ:(x==("__debug__":Str))=false:=by decide)
  (he:starEach (e::es) X.env=(false,eval e X.env)::starEach es X.env:=by rfl) (hpl:(backTo pos (starEach es X.env)).any (·.1)=false:=by rfl):PE X (.Call (.Name x p) (e::es) [] pos) (tCB r t):=by
 intro ae s σ H Q I h
 refine bh (Y4 I hg hm hv ?_ hn eJ)
 exact PyProof.Rows.callWith_builtin1 (B2 (ha pos ae s σ H _ I h) fun us s1 ⟨vs,H1,I1,r1,q1⟩=>hc ae s1 σ H1 vs us Q I1 r1 q1) he hpl
theorem W2k (hc:Q2h X (.type T) r) (hg:Gl X x) (hm:X.mg x=none) (hv:bootBuiltins x=some (.type T)) (ha:PA X (e::es) t) (hn:x≠"__name__":=by decide) (eJ:(x==("__debug__":Str))=false:=by decide)
  (he:starEach (e::es) X.env=(false,eval e X.env)::starEach es X.env:=by rfl) (hpl:(backTo pos (starEach es X.env)).any (·.1)=false:=by rfl):PE X (.Call (.Name x p) (e::es) [] pos) (tCB r t):=by
 intro ae s σ H Q I h
 refine bh (Y4 I hg hm hv ?_ hn eJ)
 exact aY (B2 (ha pos ae s σ H _ I h) fun us s1 ⟨vs,H1,I1,r1,q1⟩=>hc ae s1 σ H1 vs us Q I1 r1 q1) he hpl
end
end L2
namespace HT
open PySem PyProof.Rows
section
open PySem.SeqAt
open PySem.AutoSeq1 (wpAny_loadPart')
open PySem.MeetsSeq PySem.MeetsSeq2 PySem.MeetsSeq3
end
section
variable {prog:Program}{w:World}{A:Around}{E:VS9}{s:Shared}
theorem cat_tup {t b:Addr}{vs ws:List Value}{Q:VS9} (ht:IsTup s.heap t vs.toArray) (hb:IsTup s.heap b ws.toArray) (hv:vs≠[])
  (h1:ws=[]->Q (.ref t) s) (h2:ws≠[]->Q (.ref s.heap.objs.size) { s with heap:=s.heap.push { cls:=.type "tuple",data:=.seq (vs++ws).toArray } })
  (hsz:vs.length+ws.length<=sizeLine):wpAny (model prog w) A (binaryOp .Add (.ref t) (.ref b)) Q E s:=by
 obtain⟨⟨cls,dd,data,sl⟩,ho,hc,n,hd⟩:=id ht
 obtain⟨⟨kS,jU,data2,jM⟩,fN,j4,n2,j3⟩:=id hb
 simp only at hc hd j4 j3
 subst hc hd j4 j3
 have e:vs.toArray++ws.toArray=(vs++ws).toArray:=by simp
 by_cases hw:ws=[]
 ·exact concat_meets ⟨_,ho,rfl⟩ ⟨_,fN,rfl⟩ noFill_tuple_add seq_tuple_add PySem.F.slot_tuple_add PySem.F.entry_tuple_add (PySem.F.args_tuple_add_2 _ _)
   (tuple_addW1 t b vs.toArray ws.toArray n n2 dd jU sl jM (by simpa using hv) (by simp [hw])) ⟨ho,fN,h1 hw⟩
 ·refine concat_meets ⟨_,ho,rfl⟩ ⟨_,fN,rfl⟩ noFill_tuple_add seq_tuple_add PySem.F.slot_tuple_add PySem.F.entry_tuple_add (PySem.F.args_tuple_add_2 _ _)
   (tuple_addW2 t b vs.toArray ws.toArray n n2 dd jU sl jM (by simpa using hv) (by simpa using hw) (by rw [aE,aE];exact hsz)) ⟨ho,fN,?_⟩
  rw [e]
  exact h2 hw
noncomputable def sIx (n d:Nat):Option Int->Nat
 | none=>d
 | some v=>if v<0 then(v+(n:Int)).toNat else min v.toNat n
theorem sIx_none (n d:Nat):sIx n d none=d:=rfl
theorem sIx_nat (n d k:Nat):sIx n d (some (k:Int))=min k n:=by
 show(if (k:Int)<0 then((k:Int)+(n:Int)).toNat else min (k:Int).toNat n)=min k n
 rw [aD (by omega),bo]
theorem W5n (n d:Nat) (hd:d<=n) (o:Option Int):sIx n d o<=n:=by
 cases o with
 | none=>exact hd
 | some v =>
  show(if v<0 then(v+(n:Int)).toNat else min v.toNat n)<=n
  by_cases hv:v<0
  ·rw [aI hv];omega
  ·rw [aD hv];exact Nat.min_le_right _ _
theorem Z7q (v:Int) (n d:Nat):(if v<0 then max (v+(n:Int)) 0 else min v (n:Int))=((sIx n d (some v):Nat):Int):=by
 show(if v<0 then max (v+(n:Int)) 0 else min v (n:Int))=(((if v<0 then(v+(n:Int)).toNat else min v.toNat n):Nat):Int)
 by_cases hv:v<0
 ·simp only [aI hv];omega
 ·simp only [aD hv];omega
theorem Y6i (lo hi:Option Int) (n:Nat):Builtin.Slice.sliceAdjust lo hi 1 (n:Int)=(((sIx n 0 lo:Nat):Int),((sIx n n hi:Nat):Int)):=by
 have h1:¬ ((1:Int)<0):=by omega
 unfold Builtin.Slice.sliceAdjust
 simp only [h1,dl]
 refine Prod.ext ?_ ?_
 ·cases lo with
  | none=>rfl
  | some v=>exact Z7q v n 0
 ·cases hi with
  | none=>rfl
  | some v=>exact Z7q v n n
theorem W3l (i j:Nat):Builtin.Slice.slicePlaces (i:Int) (j:Int) 1=j-i:=by
 unfold Builtin.Slice.slicePlaces
 have h1:(1:Int) > 0:=by omega
 simp only [h1,if_true,Int.ediv_one]
 split <;> omega
theorem Y4c {v:Value}{o:Option Int}{Q:Option Int->Shared->Prop} (p:IsPart v o) (h:Q o s):wpAny (model prog w) A (Builtin.Slice.slicePartIndex v) Q E s:=by
 cases p with
 | none=>exact slicePart_none h
 | int i t=>exact slicePart_int h
theorem Y4b {sl:Addr}{vl vu:Value}{lo hi:Option Int}{n:Nat}{Q:Int×Int×Nat->Shared->Prop} (hs:s.heap.IsSliceOf sl vl vu .none) (pl:IsPart vl lo) (pu:IsPart vu hi)
  (h:Q (((sIx n 0 lo:Nat):Int),1,sIx n n hi-sIx n 0 lo) s):wpAny (model prog w) A (Builtin.Slice.sliceApplied (.ref sl) (pure (n:Int))) Q E s:=by
 obtain⟨os,ga,fw,fV⟩:=id hs
 unfold Builtin.Slice.sliceApplied Builtin.Slice.sliceFields
 refine a9 (a9 (aW ga fV (x:=vl) rfl (a9 (aW ga fV (x:=vu) rfl (a9 (aW ga fV (x:=.none) rfl (af ?_)))))))
 refine a9 (slicePart_none ?_)
 show wpAny _ _ (if ((1:Int)==0)=true then _ else _) _ _ s
 rw [aD (by decide)]
 refine a9 (Y4c pl (a9 (Y4c pu (a9 (af ?_)))))
 show wpAny _ _ (match Builtin.Slice.sliceAdjust lo hi 1 (n:Int)with | (lo,hi)=>pure (lo,(1:Int),Builtin.Slice.slicePlaces lo hi 1)) _ _ s
 rw [Y6i lo hi n]
 show wpAny _ _ (pure (((sIx n 0 lo:Nat):Int),(1:Int),Builtin.Slice.slicePlaces ((sIx n 0 lo:Nat):Int) ((sIx n n hi:Nat):Int) 1)) _ _ s
 rw [W3l]
 exact af h
theorem W3k (xs:Array Value) (i k:Nat):((List.range k).filterMap fun(m:Nat)=>xs[((i:Int)+(m:Int)*1).toNat]?).toArray=((xs.toList.drop i).take k).toArray:=by
 have e:(fun(m:Nat)=>xs[((i:Int)+(m:Int)*1).toNat]?)=fun m=>xs[i+m]?:=by
  funext m
  have:((i:Int)+(m:Int)*1).toNat=i+m:=by omega
  rw [this]
 rw [e]
 have:=pick_run xs i k
 rw [List.filterMap_map]at this
 have e2:((fun x=>xs[x]?) ∘ fun x=>i+x)=fun m=>xs[i+m]?:=rfl
 rw [e2]at this
 rw [this]
theorem getItem_tuple_cut {t sl:Addr}{items:Array Value}{vl vu:Value}{lo hi:Option Int}{Q:VS9} (ht:IsTup s.heap t items) (hs:s.heap.IsSliceOf sl vl vu .none) (pl:IsPart vl lo) (pu:IsPart vu hi)
  (hw:¬ (sIx items.size 0 lo=0/\sIx items.size items.size hi=items.size))
  (h:Q (.ref s.heap.objs.size) { s with heap:=s.heap.push { cls:=.type "tuple",data:=.seq ((items.toList.drop (sIx items.size 0 lo)).take (sIx items.size items.size hi-sIx items.size 0 lo)).toArray } })
  (hsz:items.size<=sizeLine):wpAny (model prog w) A (getItem (.ref t) (.ref sl)) Q E s:=by
 have fM:sizeOk (.seq ((items.toList.drop (sIx items.size 0 lo)).take (sIx items.size items.size hi-sIx items.size 0 lo)).toArray):=by
  show((items.toList.drop (sIx items.size 0 lo)).take (sIx items.size items.size hi-sIx items.size 0 lo)).toArray.size<=sizeLine
  rw [aE,List.length_take,List.length_drop,bU]
  omega
 have hj:sIx items.size items.size hi<=items.size:=W5n _ _ (ah _) hi
 obtain⟨os,ga,fw,fV⟩:=id hs
 have mP:s.TypeIs (.ref sl) "slice":=⟨os,ga,fw⟩
 unfold getItem
 try with_reducible refine bu ?_
 first | refine a9 (af ?_) | skip
 refine a9 (wpAny_sequenceKey ht.typeIs (by decide) ?_)
 refine a9 (b8 (name:=Str.ofString "__getitem__") ht.typeIs bN
  (bc bN ht.typeIs entry_tuple_getitem ?_ (args_tuple_getitem _ _)))
 show wpAny _ _ (Builtin.Tuple.tupleItemsOf (.ref t)>>=_) _ _ s
 refine a9 (tupleItemsOf_ ht ?_)
 refine a9 (wpAny_typeOf mP ?_)
 rw [aI (by decide)]
 refine a9 (Y4b hs pl pu ?_)
 have jy:¬ ((((sIx items.size 0 lo:Nat):Int)==0&&(1:Int)==1&&(sIx items.size items.size hi-sIx items.size 0 lo)==items.size)=true):=by
  intro q
  rw [cg,cg]at q
  have q1:((sIx items.size 0 lo:Nat):Int)=0:=eq_of_beq q.1.1
  have q2:sIx items.size items.size hi-sIx items.size 0 lo=items.size:=eq_of_beq q.2
  exact hw ⟨by omega,by omega⟩
 show wpAny _ _ (if (((sIx items.size 0 lo:Nat):Int)==0&&(1:Int)==1&&(sIx items.size items.size hi-sIx items.size 0 lo)==items.size)=true then _ else _) _ _ s
 rw [aD jy,W3k]
 first
  | exact a9 (m:=Builtin.Tuple.tupleExact _) (bt (af ⟨_,rfl,af h⟩) fM)
  | exact a9 (m:=Builtin.Tuple.tupleExact _) (bt (a9 (af (af ⟨_,rfl,af h⟩))) fM)
  | exact a9 (a9 (m:=Builtin.Tuple.tupleExact _) (bt (af (af ⟨_,rfl,af h⟩)) fM))
  | exact a9 (a9 (m:=Builtin.Tuple.tupleExact _) (bt (af ⟨_,rfl,af h⟩) fM))
end
end HT
namespace L2
open PySem PySem.Spec PyProof.Rows
noncomputable abbrev TO:=St->Hp->(Option Int->Hp->Prop)->Prop
def PO (X:Cx) (e:Option Expr) (t:TO):Prop :=
 ∀(ae:Pn9) (s:Shared) (σ:St) (H:Hp) (Q:Option Int->Hp->Prop),A0 X ae σ H s->t σ H Q ->
  wpAny (model X.prog X.w) X.A (evalPart e X.env) (fun u s'=>∃o H',A0 X ae σ H' s'/\IsPart u o/\Q o H') X.xe s
noncomputable def W7x:TO:=fun _ H Q=>Q none H
noncomputable def W8a (t:TE):TO:=fun σ H Q=>t σ H fun x H1=>∃i,x=.int i/\Q (some i) H1
section
variable {X:Cx}{e:Expr}{te:TE}{lo hi:Option Expr}{tl th:TO}{pos p2:Pos}
theorem W3m:PO X none W7x:=by
 intro ae s σ H Q I h
 rw [evalPart_none]
 exact af ⟨none,H,I,.none,h⟩
theorem W3n (h:PE X e te):PO X (some e) (W8a te):=by
 intro ae s σ H Q I hw
 rw [evalPart_some]
 refine B2 (h ae s σ H _ I hw) fun u s1 ⟨x,H1,I1,r1,q1⟩=>?_
 obtain⟨i,rfl,q⟩:=q1
 obtain⟨t,rfl⟩:=r1
 exact⟨some i,H1,I1,.int i t,q⟩
def N5 (X:Cx) (r:V->Option Int->Option Int->Hp->VK->Prop):Prop :=
 ∀(ae:Pn9) (s:Shared) (σ:St) (H:Hp) (x:V) (v vl vu:Value) (lo hi:Option Int) (sl:Addr) (Q:VK),A0 X ae σ H s->B7 x v->s.heap.IsSliceOf sl vl vu .none->IsPart vl lo->IsPart vu hi->r x lo hi H Q ->
  ∃T id,typeLookup (.type T) "__getitem__"=pure (some (.builtin id))/\s.TypeIs v T/\wpAny (model X.prog X.w) X.A (getItem v (.ref sl)) (EP X ae σ Q) X.xe s
theorem N5.or {r r':V->Option Int->Option Int->Hp->VK->Prop} (h:N5 X r) (h':N5 X r'):N5 X (fun x lo hi H Q=>r x lo hi H Q\/r' x lo hi H Q):=by
 intro ae s σ H x v vl vu lo hi sl Q I rx hs pl pu q
 rcases q with q | q
 ·exact h ae s σ H x v vl vu lo hi sl Q I rx hs pl pu q
 ·exact h' ae s σ H x v vl vu lo hi sl Q I rx hs pl pu q
def tSl (r:V->Option Int->Option Int->Hp->VK->Prop) (te:TE) (tl th:TO):TE:=fun σ H Q=>te σ H fun x H1=>tl σ H1 fun l H2=>th σ H2 fun u H3=>r x l u H3 Q
theorem W3c {r:V->Option Int->Option Int->Hp->VK->Prop} (hr:N5 X r) (he:PE X e te) (hl:PO X lo tl) (hu:PO X hi th):PE X (.Subscript e (.Slice lo hi none p2) pos) (tSl r te tl th):=by
 intro ae s σ H Q I h
 refine Subscript_ (B2 (he ae s σ H _ I h) fun v s1 ⟨x,H1,I1,r1,q1⟩=>?_)
 refine wpAny_Slice (B2 (hl ae s1 σ H1 _ I1 q1) fun vl s2 ⟨l,H2,I2,pl,q2⟩=>B2 (hu ae s2 σ H2 _ I2 q2) fun vu s3 ⟨u,H3,I3,pu,q3⟩=>?_)
 rw [evalPart_none]
 refine af ?_
 have I4:A0 X ae σ H3 { s3 with heap:=s3.heap.push { cls:=.type "slice",data:=.fields #[vl,vu,.none] } }:=I3.kept (t':=s3.toks) fun b ob q=>aa _ q
 obtain⟨T,id,hT,ht,hg⟩:=hr ae { s3 with heap:=s3.heap.push { cls:=.type "slice",data:=.fields #[vl,vu,.none] } } σ H3 x v vl vu l u s3.heap.objs.size Q I4 r1 (Heap.IsSliceOf.new ..) pl pu q3
 show wpAny (model X.prog X.w) X.A (subscriptTail e (.Slice lo hi none p2) v (.ref s3.heap.objs.size)) (EP X ae σ Q) X.xe { s3 with heap:=s3.heap.push { cls:=.type "slice",data:=.fields #[vl,vu,.none] } }
 exact tail_any (ops:=[.ref s3.heap.objs.size,v]) ht hT hg (by with_unfolding_all rfl)
noncomputable def Z3 (xs:List V) (lo hi:Option Int):List V:=(xs.drop (HT.sIx xs.length 0 lo)).take (HT.sIx xs.length xs.length hi-HT.sIx xs.length 0 lo)
theorem Z8b (xs:List V) (lo hi:Option Int):(Z3 xs lo hi).length<=xs.length:=by
 unfold Z3
 rw [List.length_take,List.length_drop]
 omega
noncomputable def rSlT (K:Fg9):V->Option Int->Option Int->Hp->VK->Prop:=fun x lo hi H Q=>∃a xs,x=.ref a/\C0 K H a xs /\
 ¬ (HT.sIx xs.length 0 lo=0/\HT.sIx xs.length xs.length hi=xs.length)/\∀p,H p=none->Q (.ref p) (upd H p (.tup (Z3 xs lo hi)))
theorem W7e:N5 X (rSlT X.K):=by
 intro ae s σ H x v vl vu lo hi sl Q I rx hs pl pu h
 obtain⟨a,xs,rfl,hx,hw,q⟩:=h
 cases rx
 obtain⟨aS,r,ht,hz⟩:=I.tuple hx
 have bL:aS.toArray.size=xs.length:=by rw [aE];exact r.length.symm
 refine⟨"tuple",_,bN.lookup,ht.typeIs,?_⟩
 refine HT.getItem_tuple_cut ht hs pl pu (by rw [bL];exact hw) ?_ (by rw [bL];exact hz)
 rw [bL]
 refine⟨.ref s.heap.objs.size,_,I.laid (t':=s.toks) (o:=.tup (Z3 xs lo hi)) (fun b ob q=>aa _ q) (ah _) ?_,rfl,q _ (I.hok.fresh (ah _))⟩
 exact⟨aR (Z8b xs lo hi) hz,_,(r.drop (HT.sIx xs.length 0 lo)).take (HT.sIx xs.length xs.length hi-HT.sIx xs.length 0 lo),IsTup.new _ _⟩
def W4d (K:Fg9):R2:=fun x y H Q=>∃a b xs ys,x=.ref a/\y=.ref b/\C0 K H a xs/\C0 K H b ys/\xs≠[]/\xs.length+ys.length<=sizeLine /\
 (ys=[]->Q (.ref a) H)/\(ys≠[]->∀p,H p=none->Q (.ref p) (upd H p (.tup (xs++ys))))
theorem B9.nil_iff {xs:List V}{us:List Value} (r:B9 xs us):us=[] ↔ xs=[]:=by
 cases r with
 | nil=>simp
 | cons _ _=>simp
theorem W1x:P4 X (binaryOp .Add) (W4d X.K):=by
 intro ae s σ H x y v u Q I rx ry h
 obtain⟨a,b,xs,ys,rfl,rfl,ha,hb,hx,hz,q1,q2⟩:=h
 cases rx
 cases ry
 obtain⟨aS,r1,p1,_⟩:=I.tuple ha
 obtain⟨bW,r2,p2,_⟩:=I.tuple hb
 refine HT.cat_tup p1 p2 (fun z=>hx (r1.nil_iff.mp z)) (fun z=>⟨.ref a,H,I,rfl,q1 (r2.nil_iff.mp z)⟩) (fun z=>?_) (by rw [<- r1.length,<- r2.length];exact hz)
 refine⟨.ref s.heap.objs.size,_,I.laid (t':=s.toks) (o:=.tup (xs++ys)) (fun b ob q=>aa _ q) (ah _) ?_,rfl,q2 (fun w=>z (r2.nil_iff.mpr w)) _ (I.hok.fresh (ah _))⟩
 exact⟨by rw [aA];exact hz,_,r1.append r2,IsTup.new _ _⟩
end
end L2
namespace L2
open PySem PySem.Spec PyProof.Rows
noncomputable def ixN (n:Nat) (i:Int):Option Nat:=if 0<=i then(if i<n then some i.toNat else none)else if -(n:Int)<=i then some (i+n).toNat else none
noncomputable def M7 {α:Type} (xs:List α) (i:Int):Option α:=(ixN xs.length i).bind fun j=>xs[j]?
theorem Z9h {n:Nat}{i:Int}{j:Nat} (h:ixN n i=some j):seqIndex? i n=some j/\j<n/\-(n:Int)<=i/\i<n:=by
 unfold ixN at h
 by_cases h0:0<=i
 ·rw [aI h0]at h
  by_cases h1:i<n
  ·rw [aI h1]at h
   have e:i.toNat=j:=aB h
   exact⟨by rw [seqIndex_of h0 h1,e],by omega,by omega,h1⟩
  ·rw [aD h1]at h;cases h
 ·rw [aD h0]at h
  by_cases h1:-(n:Int)<=i
  ·rw [aI h1]at h
   have e:(i+n).toNat=j:=aB h
   exact⟨by rw [seqIndex_neg (by omega) h1,e],by omega,h1,by omega⟩
  ·rw [aD h1]at h;cases h
theorem Z0w {α:Type}{xs:List α}{i:Int}{v:α} (h:M7 xs i=some v):∃j,seqIndex? i xs.length=some j/\xs[j]?=some v/\j<xs.length/\-(xs.length:Int)<=i/\i<xs.length:=by
 unfold M7 at h
 cases e:ixN xs.length i with
 | none=>rw [e]at h;cases h
 | some j =>
  rw [e]at h
  obtain⟨h1,h2,h3,h4⟩:=Z9h e
  exact⟨j,h1,h,h2,h3,h4⟩
theorem Y1 {α:Type}{xs:List α}{j:Nat}{v:α} (h:xs[j]?=some v):M7 xs (j:Int)=some v:=by
 have hj:j<xs.length:=(aG.mp h).1
 have e:ixN xs.length (j:Int)=some j:=by
  unfold ixN
  rw [aI (by omega),aI (by omega)];simp
 unfold M7;rw [e];exact h
def Z0o (b:Expr):Prop:=∀o i,subscripted b false o i=operate [o,i] (getItem o i)
def IxR (X:Cx) (r:R2):Prop :=
 ∀(value slice:Expr) (ae:Pn9) (s:Shared) (σ:St) (H:Hp) (x y:V) (v u:Value) (Q:VK),A0 X ae σ H s->B7 x v->B7 y u->r x y H Q ->
  subscripted slice false v u=operate [v,u] (getItem v u)->wpAny (model X.prog X.w) X.A (subscriptTail value slice v u) (EP X ae σ Q) X.xe s
def MtR (X:Cx) (id:String) (r:V->List V->Hp->VK->Prop):Prop :=
 ∀(ae:Pn9) (s:Shared) (σ:St) (H:Hp) (x:V) (xs:List V) (v:Value) (us:List Value) (Q:VK),A0 X ae σ H s->B7 x v->B9 xs us->r x xs H Q ->
  wpAny (model X.prog X.w) X.A (call (.builtin id) (v::us)) (EP X ae σ Q) X.xe s
section
variable {X:Cx}{a b:Expr}{ta tb:TE}{pos:Pos}
theorem IxR.or {r r':R2} (h:IxR X r) (h':IxR X r'):IxR X (fun x y H Q=>r x y H Q\/r' x y H Q):=by
 intro value slice ae s σ H x y v u Q I rx ry q hs
 rcases q with q | q
 ·exact h value slice ae s σ H x y v u Q I rx ry q hs
 ·exact h' value slice ae s σ H x y v u Q I rx ry q hs
theorem Y1j {r:R2} (hr:IxR X r) (ha:PE X a ta) (hb:PE X b tb) (hs:Z0o b):PE X (.Subscript a b pos) (tOp r ta tb):=by
 intro ae s σ H Q I h
 exact Subscript_ (Z0x ha hb I h fun v u s2 x y H2 I2 rx ry q=>hr a b ae s2 σ H2 x y v u Q I2 rx ry q (hs _ _))
def rIxL (K:Fg9):R2:=fun x y H Q=>∃p xs i v,x=.ref p/\y=.int i/\C9 K H p xs/\M7 xs i=some v/\Q v H
def rIxT (K:Fg9):R2:=fun x y H Q=>∃p xs i v,x=.ref p/\y=.int i/\C0 K H p xs/\M7 xs i=some v/\Q v H
def rIxS:R2:=fun x y H Q=>∃z i c,x=.str z/\y=.int i/\z.length<=sizeLine/\M7 z.cps.toList i=some c/\Q (.str ⟨#[c]⟩) H
theorem Z9i:IxR X (rIxL X.K):=by
 intro value slice ae s σ H x y v u Q I rx ry h hs
 obtain⟨p,xs,i,z,rfl,rfl,hq,he,q⟩:=h
 cases rx
 obtain⟨t,rfl⟩:=ry
 obtain⟨aS,r,pl,hz⟩:=I.list hq
 obtain⟨j,h1,h2,h3,h4,h5⟩:=Z0w he
 obtain⟨w,ew,gA⟩:=r.get h2
 have hl:=r.length
 have hn:=Q5z
 have fin:EP X ae σ Q w s:=⟨z,H,I,gA,q⟩
 by_cases h0:0<=i
 ·have hj:i.toNat=j:=by
   rw [seqIndex_of h0 h5]at h1
   exact aB h1
  exact item_listR pl.isList h0 (by omega) (by rw [hj];simpa using ew) fin hs
 ·have hj:(i+(aS.toArray.size:Int)).toNat=j:=by
   rw [seqIndex_neg (by omega) h4]at h1
   rw [aE,<- hl]
   exact aB h1
  exact subscriptTail_builtinR (x:=w) pl.isList.typeIs slot_list_getitem.lookup
   (wpAny_getItem_list_neg (Q:=fun r s'=>r=w/\EP X ae σ Q r s') pl.isList (by omega) (by rw [aE] <;> omega) (by omega) (by rw [hj];simpa using ew) ⟨rfl,fin⟩) hs
theorem Y8y:IxR X (rIxT X.K):=by
 intro value slice ae s σ H x y v u Q I rx ry h hs
 obtain⟨p,xs,i,z,rfl,rfl,hq,he,q⟩:=h
 cases rx
 obtain⟨t,rfl⟩:=ry
 obtain⟨aS,r,pl,hz⟩:=I.tuple hq
 obtain⟨j,h1,h2,h3,h4,h5⟩:=Z0w he
 obtain⟨w,ew,gA⟩:=r.get h2
 have hl:=r.length
 have hn:=Q5z
 have fin:EP X ae σ Q w s:=⟨z,H,I,gA,q⟩
 exact subscriptTail_builtinR (x:=w) pl.typeIs slot_tuple_getitem.lookup
  (getItem_tuple (j:=j) (Q:=fun r s'=>r=w/\EP X ae σ Q r s') pl (by omega) (by omega) (by rw [aE,<- hl];exact h1) (by simpa using ew) ⟨rfl,fin⟩) hs
theorem Y8x:IxR X rIxS:=by
 intro value slice ae s σ H x y v u Q I rx ry h hs
 obtain⟨z,i,c,rfl,rfl,hz,he,q⟩:=h
 obtain⟨t,rfl⟩:=rx
 obtain⟨t',rfl⟩:=ry
 obtain⟨j,h1,h2,h3,h4,h5⟩:=Z0w he
 have hl:z.cps.toList.length=z.length:=by simp [Str.length]
 rw [hl]at h1 h4 h5
 have hn:=Q5z
 exact tail_any (typeIs_str s z t) slot_str_getitem.lookup (getItem_str (c:=c) (by
  have e1:decide (i < -(2 ^ 63:Int))=false:=aM (by omega)
  have e2:decide (i ≥ 2 ^ 63)=false:=aM (by omega)
  rw [e1,e2,Bool.or_false]) (by rw [h1];simpa using h2) ⟨.str ⟨#[c]⟩,H,I.tok _,⟨_,rfl⟩,q⟩) hs
def rIx (K:Fg9):R2:=fun x y H Q=>rIxL K x y H Q\/rIxT K x y H Q\/rIxS x y H Q
theorem Y8w:IxR X (rIx X.K):=Z9i.or (Y8y.or Y8x)
theorem W7h (lo hi:Option Int) (n:Nat):(sliceBounds lo hi none n).1=((HT.sIx n 0 lo:Nat):Int)/\(sliceBounds lo hi none n).2.1=((HT.sIx n n hi:Nat):Int)/\(sliceBounds lo hi none n).2.2=1:=by
 refine⟨?_,?_,rfl⟩
 ·cases lo with
  | none=>simp [sliceBounds,HT.sIx]
  | some i =>
   simp only [sliceBounds,HT.sIx,Option.getD_none,show(1:Int) > 0 by decide,if_true]
   by_cases h:i<0
   ·simp only [h,if_true] <;> omega
   ·simp only [h,dl] <;> omega
 ·cases hi with
  | none=>simp [sliceBounds,HT.sIx]
  | some i =>
   simp only [sliceBounds,HT.sIx,Option.getD_none,show(1:Int) > 0 by decide,if_true]
   by_cases h:i<0
   ·simp only [h,if_true] <;> omega
   ·simp only [h,dl] <;> omega
theorem W7g (aS:List Value) (lo hi:Option Int):slicePick aS.toArray lo hi none=((aS.drop (HT.sIx aS.length 0 lo)).take (HT.sIx aS.length aS.length hi-HT.sIx aS.length 0 lo)).toArray:=by
 obtain⟨h1,h2,h3⟩:=W7h lo hi aS.toArray.size
 unfold slicePick
 rw [h1,h2,h3]
 simp only [sliceRange_one,pick_run,aE] <;> rfl
noncomputable def rSlL (K:Fg9):V->Option Int->Option Int->Hp->VK->Prop:=fun x lo hi H Q=>∃a xs,x=.ref a/\C9 K H a xs/\∀p,H p=none->Q (.ref p) (upd H p (.lst (Z3 xs lo hi)))
theorem W7c:N5 X (rSlL X.K):=by
 intro ae s σ H x v vl vu lo hi sl Q I rx hs pl pu h
 obtain⟨a,xs,rfl,hx,q⟩:=h
 cases rx
 obtain⟨aS,r,ht,hz⟩:=I.list hx
 have bL:=r.length
 refine⟨"list",_,slot_list_getitem.lookup,ht.isList.typeIs,?_⟩
 refine wpAny_getItem_list_slice ht.isList hs pl pu .none (by simp) ?_ (by rw [aE] <;> omega)
 rw [W7g,<- bL]
 refine⟨.ref s.heap.objs.size,_,I.laid (t':=s.toks) (o:=.lst (Z3 xs lo hi)) (fun b ob q=>aa _ q) (ah _) ?_,rfl,q _ (I.hok.fresh (ah _))⟩
 exact⟨aR (Z8b xs lo hi) hz,_,0,(r.drop (HT.sIx xs.length 0 lo)).take (HT.sIx xs.length xs.length hi-HT.sIx xs.length 0 lo),aw _ rfl⟩
theorem Y6z:Q2h X (.type "list") (fun xs H Q=>∃p ys,xs=[.ref p]/\(C9 X.K H p ys\/C0 X.K H p ys)/\∀l,H l=none->Q (.ref l) (upd H l (.lst ys))):=by
 intro ae s σ H xs us Q I r h
 obtain⟨p,ys,rfl,hq,q⟩:=h
 obtain⟨u,rfl,rx⟩:=T5 r
 cases rx
 have fin:∀(aS:List Value),B9 ys aS->ys.length<=sizeLine->∀(h':Heap) (c':Nat),(∀b o',s.heap.get? b=some o'->h'.get? b=some o') ->
   h'.get? s.heap.objs.size=some { cls:=.type "list",dict:=none,data:=.seq aS.toArray c',slots:=#[] }->EP X ae σ Q (.ref s.heap.objs.size) { s with heap:=h' }:=fun aS r' hz h' c' kp e =>
  ⟨.ref s.heap.objs.size,_,I.laid (t':=s.toks) kp (ah _) (show G1 X.prog X.w _ h' _ (.lst ys)from⟨hz,aS,c',r',e⟩),rfl,q _ (I.hok.fresh (ah _))⟩
 rcases hq with hq | hq
 ·obtain⟨aS,r',pl,hz⟩:=I.list hq
  have bL:=r'.length
  obtain⟨o,ho,hc,n,hd⟩:=pl.isList
  exact call_list_seq p (.inl rfl) ho hc hd (fun h' c' kp e=>fin aS r' hz h' c' kp e) (by simp only [aE] <;> omega)
 ·obtain⟨aS,r',pl,hz⟩:=I.tuple hq
  have bL:=r'.length
  obtain⟨o,ho,hc,n,hd⟩:=pl
  exact call_list_seq p (.inr rfl) ho hc hd (fun h' c' kp e=>fin aS r' hz h' c' kp e) (by simp only [aE] <;> omega)
theorem Y7d:Q2h X (.type "tuple") (fun xs H Q=>∃p ys,xs=[.ref p]/\((C9 X.K H p ys/\∀l,H l=none->Q (.ref l) (upd H l (.tup ys)))\/(C0 X.K H p ys/\Q (.ref p) H))):=by
 intro ae s σ H xs us Q I r h
 obtain⟨p,ys,rfl,h⟩:=h
 obtain⟨u,rfl,rx⟩:=T5 r
 cases rx
 rcases h with⟨hq,q⟩ | ⟨hq,q⟩
 ·obtain⟨aS,r',pl,hz⟩:=I.list hq
  have bL:=r'.length
  refine call_tuple_list pl.isList (fun h' kp=>?_) (by simp only [aE] <;> omega)
  have I1:A0 X ae σ H { s with heap:=h' }:=I.kept (t':=s.toks) kp
  have I2:A0 X ae σ (upd H h'.objs.size (.tup ys)) { s with heap:=h'.push { cls:=.type "tuple",data:=.seq aS.toArray } } :=
   I1.laid (t':=s.toks) (fun b o e=>aa _ e) (ah _) (show G1 X.prog X.w _ _ _ (.tup ys)from⟨hz,aS,r',IsTup.new _ _⟩)
  exact⟨.ref h'.objs.size,_,I2,rfl,q _ (I1.hok.fresh (ah _))⟩
 ·obtain⟨aS,r',pl,hz⟩:=I.tuple hq
  exact call_tuple_same pl ⟨.ref p,H,I,rfl,q⟩
def tyV (K:Fg9) (T:String) (x:V) (H:Hp):Prop:=match x with
 | .str _=>T="str"
 | .int _=>T="int"
 | .ref p=>(T="list"/\∃xs,C9 K H p xs)\/(T="tuple"/\∃o,K.lookup p=some o/\o.cls=.type "tuple"/\o.dict=none) \/
   (T="dict"/\((∃kvs,H p=some (.dK kvs))\/∃kvs,H p=some (.dT kvs)))\/(T="set"/\∃S n,H p=some (.set S n))
 | _=>False
theorem W8t {ae:Pn9} {σ:St}{H:Hp}{s:Shared}{T:String}{x:V}{v:Value} (I:A0 X ae σ H s) (r:B7 x v) (ty:tyV X.K T x H) :
  s.TypeIs v T/\∀a,v=.ref a->∃ob,s.heap.get? a=some ob/\ob.dict=none:=by
 cases x with
 | str z =>
  obtain⟨t,rfl⟩:=r
  cases (show T="str" from ty)
  exact⟨typeIs_str s z t,fun _ e=>nomatch e⟩
 | int i =>
  obtain⟨t,rfl⟩:=r
  cases (show T="int" from ty)
  exact⟨typeIs_int s i t,fun _ e=>nomatch e⟩
 | ref p =>
  cases r
  rcases ty with⟨rfl,xs,hq⟩ | ⟨rfl,o,hk,hc,hd⟩ | ⟨rfl,hk⟩ | ⟨rfl,S,n,hk⟩
  ·obtain⟨aS,_,pl,_⟩:=I.list hq
   refine⟨pl.isList.typeIs,fun a e=>?_⟩
   cases e
   obtain⟨o,n,e,c,hd,_⟩:=pl
   exact⟨o,e,hd⟩
  ·refine⟨⟨o,I.kIn p o hk,hc⟩,fun a e=>?_⟩
   cases e
   exact⟨o,I.kIn _ o hk,hd⟩
  ·have z:∃o,s.heap.get? p=some o/\o.ExactDict:=by
    rcases hk with⟨kvs,hk⟩ | ⟨kvs,hk⟩
    ·obtain⟨_,_,_,_,o,_,_,e,ex,_⟩:=I.hok p _ hk
     exact⟨o,e,ex⟩
    ·obtain⟨_,_,_,_,o,_,_,e,ex,_⟩:=I.hok p _ hk
     exact⟨o,e,ex⟩
   obtain⟨o,e,ex⟩:=z
   refine⟨⟨o,e,ex.1⟩,fun a e2=>?_⟩
   cases e2
   exact⟨o,e,ex.2.1⟩
  ·obtain⟨o,_,_,_,e,ex,_⟩:=I.hok p _ hk
   refine⟨⟨o,e,ex.1⟩,fun a e2=>?_⟩
   cases e2
   exact⟨o,e,ex.2.1⟩
 | _=>exact False.elim ty
def tBM (K:Fg9) (T:String) (r:V->List V->Hp->VK->Prop) (to:TE) (t:TA):TE:=fun σ H Q=>to σ H fun x H1=>tyV K T x H1/\t σ H1 fun xs H2=>r x xs H2 Q
variable {o e:Expr}{es:List Expr}{to:TE}{t:TA}{name:Str}{apos bv:Pos}{T id:String}{r:V->List V->Hp->VK->Prop}
theorem Y1g (pa:PlainAttrs T) (slot:Slot T name id) (i4:typeOf (.builtin id)=pure (.type "method_descriptor")) (hm:MtR X id r) (ho:PE X o to) (ha:PA X (e::es) t)
  (fm:attributeBase o name X.env (eval o X.env)=eval o X.env:=by rfl)
  (gP:((backTo bv (starEach (e::es) X.env)).all (fun x=>!x.1)&&(backToKw bv (keywordEach [] X.env)).all (fun x=>x.1.isSome)
  &&decide ((e::es).length+([]:List Keyword).length+(if ([]:List Keyword).isEmpty then 0 else 1)<30))=true:=by rfl)
  (fj:(apos.endLine==bv.line)=true:=by rfl) (hs:starEach (e::es) X.env=(false,eval e X.env)::starEach es X.env:=by rfl) (dP:(backTo bv (starEach es X.env)).any (·.1)=false:=by rfl) :
  PE X (.Call (.Attribute o name apos) (e::es) [] bv) (tBM X.K T r to t):=by
 intro ae s σ H Q I h
 refine wpAny_Call_method_late fm gP fj rfl (B2 (ho ae s σ H _ I h) fun v s1 ⟨x,H1,I1,r1,ty,q1⟩=>?_)
 obtain⟨h1,h2⟩:=W8t I1 r1 ty
 refine⟨T,id,pa,slot,i4,h1,h2,?_⟩
 have hA:=ha bv ae s1 σ H1 _ I1 q1
 rw [hs]at hA ⊢
 refine eX (by show(false||(backTo bv (starEach es X.env)).any (·.1))=false;rw [dP] <;> rfl) (dv ?_)
 exact B2 hA fun us s2 ⟨vs,H2,I2,r2,q2⟩=>hm ae s2 σ H2 x vs v us Q I2 r1 r2 q2
/- xs.append(e),list.index on a module's tuple .. are MtR facts of 06m -/
end
end L2
namespace L2
open PySem PySem.Spec PyProof.Rows
def MtM (X:Cx) (id:String) (r:V->List V->Hp->VK->Prop):Prop :=
 ∀(ae:Pn9) (s:Shared) (σ:St) (H:Hp) (x:V) (xs:List V) (v:Value) (us:List Value) (Q:VK),A0 X ae σ H s->B7 x v->B9 xs us->r x xs H Q ->
  wpAny (model X.prog X.w) X.A (call (.builtin id) (v::us)) (EP X ae σ Q) X.xe s
theorem B9.one:∀{x:V}{us:List Value},B9 [x] us->∃u,us=[u]/\B7 x u
 | _,_,.cons r .nil=>⟨_,rfl,r⟩
theorem B9.rep {xs:List V}{us:List Value} (h:B9 xs us):∀k:Nat,B9 (List.replicate k xs).flatten (List.replicate k us).flatten
 | 0=>.nil
 | k+1=>by
  rw [ce,ce,du,du]
  exact B9.append h (B9.rep h k)
theorem Z8p (aS:List Value):∀(k:Nat) (c9:List Value),
  List.foldl (fun x1 x2=>x1++x2) c9.toArray (List.replicate k aS.toArray)=(c9++(List.replicate k aS).flatten).toArray
 | 0,c9=>by simp
 | k+1,c9=>by
  have e:c9.toArray++aS.toArray=(c9++aS).toArray:=by simp
  have e2:(c9++aS)++(List.replicate k aS).flatten=c9++(List.replicate (k+1) aS).flatten:=by
   rw [ce,du,cw]
  rw [<- e2,<- Z8p aS k (c9++aS),<- e,ce,List.foldl_cons]
section
variable {X:Cx}{ae:Pn9} {σ:St}{H:Hp}{s:Shared}{l b:Addr}{xs ys zs:List V}
theorem A0.lset {aS its':List Value}{n:Nat}{f:Array Value->Array Value}{t':Nat} (I:A0 X ae σ H s) (hH:H l=some (.lst xs))
  (e:s.heap.get? l=some { cls:=.type "list",data:=.seq aS.toArray n }) (hf:f aS.toArray=its'.toArray) (hv:B9 ys its') (hz:ys.length<=sizeLine) :
  A0 X ae σ (upd H l (.lst ys)) { s with heap:=s.heap.update l (Obj.mapSeq f),toks:=t' }:=by
 have q:=PySem.IsL.update e f
 rw [hf]at q
 refine I.write (x:=l) (e:=l) (by rw [hH];exact trivial) (.inl rfl) (fun b' u hb hu=>(eU s.heap (Obj.mapSeq f) (bC hb)).trans hu) ⟨_,q⟩ ?_
 exact⟨hz,its',_,hv,q⟩
theorem A0.lnew {aS:List Value}{t':Nat} (I:A0 X ae σ H s) (hv:B9 ys aS) (hz:ys.length<=sizeLine) :
  A0 X ae σ (upd H s.heap.objs.size (.lst ys)) { s with heap:=s.heap.push { cls:=.type "list",data:=.seq aS.toArray },toks:=t' } :=
 I.laid (fun _ _ q=>aa _ q) (ah _) ⟨hz,aS,0,hv,aw _ rfl⟩
theorem A0.fresh (I:A0 X ae σ H s):H s.heap.objs.size=none:=I.hok.fresh (ah _)
theorem A0.lstM (I:A0 X ae σ H s) (hH:H l=some (.lst xs)):xs.length<=sizeLine/\∃(aS:List Value) (n:Nat),B9 xs aS/\xs.length=aS.length/\s.heap.get? l=some { cls:=.type "list",data:=.seq aS.toArray n }:=by
 obtain⟨z,aS,n,r,e⟩:=I.hok l _ hH
 exact⟨z,aS,n,r,r.length,e⟩
theorem W1e {n:Nat} (h:n<=sizeLine):Builtin.List.listTooLong n=false:=by
 unfold Builtin.List.listTooLong
 exact aM (by omega)
end
section
variable {X:Cx}
noncomputable def W4c:V->List V->Hp->VK->Prop:=fun x vs H Q=>∃l xs y,x=.ref l/\vs=[y]/\H l=some (.lst xs)/\xs.length<sizeLine/\Q .non (upd H l (.lst (xs++[y])))
theorem W0y:MtM X "list.append" W4c:=by
 intro ae s σ H x vs v us Q I rx rv h
 obtain⟨l,xs,y,rfl,rfl,hH,hz,q⟩:=h
 cases rx
 obtain⟨u,rfl,ru⟩:=rv.one
 obtain⟨z,aS,n,r,hl,e⟩:=I.lstM hH
 refine call_meets F.slot_list_append ⟨_,e,rfl⟩ F.entry_list_append (F.args_list_append_2 _ _) (PySem.list_append l aS.toArray n u (by rw [aE];omega)) ⟨e,?_⟩
 refine⟨.non,_,I.lset (its':=aS++[u]) hH e (by simp) (r.append (.cons ru .nil)) ?_,rfl,q⟩
 rw [aA,bZ]
 omega
def rCat:R2:=fun x y H Q=>∃l b xs zs,x=.ref l/\y=.ref b/\H l=some (.lst xs)/\H b=some (.lst zs)/\xs.length+zs.length<=sizeLine/\∀p,H p=none->Q (.ref p) (upd H p (.lst (xs++zs)))
theorem W1w:P4 X (binaryOp .Add) rCat:=by
 intro ae s σ H x y v u Q I rx ry h
 obtain⟨l,b,xs,zs,rfl,rfl,hH,hB,hz,q⟩:=h
 cases rx
 cases ry
 obtain⟨z,aS,n,r,hl,e⟩:=I.lstM hH
 obtain⟨z2,bW,n2,r2,de,e2⟩:=I.lstM hB
 refine PySem.P.add_list e e2 ?_ (by rw [aE,aE];omega)
 have ea:aS.toArray++bW.toArray=(aS++bW).toArray:=by simp
 rw [ea]
 exact⟨.ref _,_,I.lnew (t':=s.toks) (r.append r2) (by rw [aA];omega),rfl,q _ I.fresh⟩
def rRep:R2:=fun x y H Q=>∃l k xs,x=.ref l/\y=.int k/\H l=some (.lst xs)/\-(2 ^ 63)<=k/\k<2 ^ 63/\xs.length*k.toNat<=sizeLine /\
 ∀p,H p=none->Q (.ref p) (upd H p (.lst (List.replicate k.toNat xs).flatten))
theorem Y9s {α:Type} (xs:List α) (k:Nat):(List.replicate k xs).flatten.length=k*xs.length:=by
 induction k with
 | zero=>simp
 | succ k ih=>rw [ce,du,aA,ih,Nat.succ_mul,Nat.add_comm]
theorem W2d:P4 X (binaryOp .Mult) rRep:=by
 intro ae s σ H x y v u Q I rx ry h
 obtain⟨l,k,xs,rfl,rfl,hH,h1,h2,hz,q⟩:=h
 cases rx
 obtain⟨t,rfl⟩:=ry
 obtain⟨z,aS,n,r,hl,e⟩:=I.lstM hH
 have bL:aS.toArray.size*k.toNat<=sizeLine:=by rw [aE,<- hl];exact hz
 have mM:¬ aS.toArray.size*k.toNat > (2 ^ 63-1) / 8:=by
  have:(sizeLine:Nat)<=(2 ^ 63-1) / 8:=by decide
  omega
 have mG:¬ (!Builtin.List.listFitsIndex k)=true:=by
  rw [fitsIndex_both h1 h2]
  exact bK
 have kB:¬ Builtin.List.listTooLong (aS.toArray.size*k.toNat)=true:=by
  rw [W1e bL]
  exact bK
 have iC:List.foldl (fun x1 x2=>x1++x2) #[] (List.replicate (if aS.toArray.isEmpty=true then 0 else k.toNat) aS.toArray)=(List.replicate k.toNat aS).flatten.toArray:=by
  have f0:∀m:Nat,List.foldl (fun x1 x2=>x1++x2) #[] (List.replicate m aS.toArray)=(List.replicate m aS).flatten.toArray:=fun m=>by
   have:=Z8p aS m []
   rw [cm]at this
   exact this
  rw [f0]
  cases aS with
  | nil=>simp
  | cons a r'=>rw [aD (by simp)]
 refine wpAny_binaryOp_repeat_ref (T:="list") (U:="int") (by decide) ⟨_,e,rfl⟩ (fun s'=>typeIs_int s' k t) noFill_list_mul F.fills_int_mul F.slot_int_rmul repeat_list F.slot_int_index.lookup
  (call_meets F.slot_int_rmul (typeIs_int s k t) F.entry_int_rmul (F.args_int_rmul_2 _ _) (int___rmul___int_list k t l aS.toArray n)
   ⟨e,rfl,⟨_,e,rfl⟩,call_meets F.slot_list_mul ⟨_,e,rfl⟩ F.entry_list_mul (F.args_list_mul_2 _ _) (AutoListH.list___mul___list_int_3 l aS.toArray n k t mG mM kB) ⟨e,?_⟩⟩)
 rw [iC]
 exact⟨.ref _,_,I.lnew (t':=s.toks) (r.rep k.toNat) (by rw [Y9s,Nat.mul_comm];exact hz),rfl,q _ I.fresh⟩
end
section
variable {prog:Program}{w:World}{A:Around}{E:VS9}{s:Shared}
end
section
variable {X:Cx}
end
end L2
namespace L2
open PySem PySem.Spec PyProof.Rows
section
variable {κ:Type} [DecidableEq κ]
noncomputable def R0 (kvs:List (κ×V)) (k:κ):Option V:=(kvs.find? fun kv=>decide (kv.1=k)).map (·.2)
noncomputable def O0 (kvs:List (κ×V)) (k:κ) (v:V):List (κ×V) :=
 if (kvs.any fun kv=>decide (kv.1=k))=true then kvs.map (fun kv=>if kv.1=k then(kv.1,v)else kv)else kvs++[(k,v)]
theorem Q9l {p:κ×V}{r:List (κ×V)}{k:κ} (e:p.1=k):R0 (p::r) k=some p.2:=by simp [R0,b7,e]
theorem Q9k {p:κ×V}{r:List (κ×V)}{k:κ} (e:¬ p.1=k):R0 (p::r) k=R0 r k:=by simp [R0,b7,e]
theorem Y4x (k:κ):∀kvs:List (κ×V),(kvs.any fun kv=>decide (kv.1=k))=(R0 kvs k).isSome
 | []=>rfl
 | p::r=>by
  rw [cO]
  by_cases e:p.1=k
  ·simp only [Q9l e,dm e,Bool.true_or,Option.isSome_some]
  ·rw [Q9k e,aM e,Bool.false_or];exact Y4x k r
theorem Q5w (kvs:List (κ×V)) (k:κ) (v:V):(O0 kvs k v).length<=kvs.length+1:=by
 unfold O0
 split
 ·rw [ag];omega
 ·rw [aA,az,cb];omega
theorem X8.isSome_eq {o:Option V}{u:Option Value} (r:X8 o u):o.isSome=u.isSome:=by
 cases o with
 | none=>cases u with
  | none=>rfl
  | some _=>exact(show False from r).elim
 | some _=>cases u with
  | none=>exact(show False from r).elim
  | some _=>rfl
theorem X8.getD {o:Option V}{u:Option Value}{d:V}{d':Value} (r:X8 o u) (rd:B7 d d'):B7 (o.getD d) (u.getD d'):=by
 cases o with
 | none=>cases u with
  | none=>exact rd
  | some _=>exact(show False from r).elim
 | some _=>cases u with
  | none=>exact(show False from r).elim
  | some _=>exact r
theorem KV.val {kvs:List (κ×V)}{vs:List (κ×Value)} (r:KV kvs vs) (k:κ):X8 (R0 kvs k) (valueAt vs k):=by
 unfold KV at r
 induction r with
 | nil=>exact True.intro
 | @cons p q ps qs h t ih =>
  obtain⟨h1,h2⟩:=h
  by_cases e:p.1=k
  ·have e':q.1=k:=h1.symm.trans e
   have b:valueAt (q::qs) k=some q.2:=by simp [valueAt,b7,e']
   rw [Q9l e,b];exact h2
  ·have e':¬ q.1=k:=fun z=>e (h1.trans z)
   have b:valueAt (q::qs) k=valueAt qs k:=by simp [valueAt,b7,e']
   rw [Q9k e,b];exact ih
theorem KV.any {kvs:List (κ×V)}{vs:List (κ×Value)} (r:KV kvs vs) (k:κ):(kvs.any fun kv=>decide (kv.1=k))=vs.any fun kv=>decide (kv.1=k):=by
 unfold KV at r
 induction r with
 | nil=>rfl
 | cons h t ih=>rw [cO,cO,ih,h.1]
theorem KV.repl {kvs:List (κ×V)}{vs:List (κ×Value)} (r:KV kvs vs) (k:κ) {y:V}{u:Value} (ry:B7 y u) :
  KV (kvs.map fun kv=>if kv.1=k then(kv.1,y)else kv) (vs.map fun kv=>if kv.1=k then(kv.1,u)else kv):=by
 unfold KV at r ⊢
 induction r with
 | nil=>exact .nil
 | @cons p q ps qs h t ih =>
  rw [ao,ao]
  refine .cons ?_ ih
  obtain⟨h1,h2⟩:=h
  by_cases e:p.1=k
  ·rw [aI e,aI (h1.symm.trans e)];exact⟨h1,ry⟩
  ·rw [aD e,aD (fun z=>e (h1.trans z))];exact⟨h1,h2⟩
theorem KV.put {kvs:List (κ×V)}{vs:List (κ×Value)} (r:KV kvs vs) (k:κ) {y:V}{u:Value} (ry:B7 y u):KV (O0 kvs k y) (stored vs k u):=by
 unfold O0 stored
 rw [r.any k]
 by_cases e:(vs.any fun kv=>decide (kv.1=k))=true
 ·rw [aI e,aI e];exact r.repl k ry
 ·rw [aD e,aD e];exact Paired.snoc r ⟨rfl,ry⟩
theorem KV.length {kvs:List (κ×V)}{vs:List (κ×Value)} (r:KV kvs vs):kvs.length=vs.length:=Paired.length r
end
theorem Q1v {P:Program}{w:World}{k:A7}{u:Value} (r:B7 (kV k) u):(J9 P w).is k u=true:=by
 cases k with
 | inl i=>obtain⟨t,e⟩:=(show ∃t,u=Value.int i t from r);subst e;exact W0o P w i t
 | inr x=>obtain⟨t,e⟩:=(show ∃t,u=Value.str x t from r);subst e;exact W0p P w x t
theorem Z9g {P:Program}{w:World}:∀{ks:List A7}{us:List Value},B9 (ks.map kV) us->ItemsAre (J9 P w) ks us
 | [],_,r=>by rw [cC]at r;cases r;exact .nil
 | k::ks,_,r=>by
  rw [ao]at r
  cases r with
  | cons h t=>exact .cons (Q1v h) (Z9g t)
noncomputable abbrev KT (H:Hp):List (List A7×V)->List (List A7×Addr×Value)->Prop:=Paired fun p q=>p.1=q.1/\H q.2.1=some (.tup (p.1.map kV))/\B7 p.2 q.2.2
theorem KT.val {H:Hp}{kvs:List (List A7×V)}{xs:List (List A7×Addr×Value)} (r:KT H kvs xs) (k:List A7):X8 (R0 kvs k) ((atKey xs k).map (·.2)):=by
 induction r with
 | nil=>exact True.intro
 | @cons p q ps qs h t ih =>
  obtain⟨h1,_,h2⟩:=h
  by_cases e:p.1=k
  ·have e':q.1=k:=h1.symm.trans e
   have b:atKey (q::qs) k=some q.2:=by simp [atKey,b7,e']
   rw [Q9l e,b];exact h2
  ·have e':¬ q.1=k:=fun z=>e (h1.trans z)
   have b:atKey (q::qs) k=atKey qs k:=by simp [atKey,b7,e']
   rw [Q9k e,b];exact ih
theorem KT.repl {H:Hp}{kvs:List (List A7×V)}{xs:List (List A7×Addr×Value)} (r:KT H kvs xs) (k:List A7) {y:V}{u:Value} (ry:B7 y u) :
  KT H (kvs.map fun kv=>if kv.1=k then(kv.1,y)else kv) (xs.map (putAt k u)):=by
 induction r with
 | nil=>exact .nil
 | @cons p q ps qs h t ih =>
  rw [ao,ao]
  refine .cons ?_ ih
  obtain⟨h1,h2,h3⟩:=h
  unfold putAt
  by_cases e:p.1=k
  ·rw [aI e,aI (h1.symm.trans e)];exact⟨h1,h2,ry⟩
  ·rw [aD e,aD (fun z=>e (h1.trans z))];exact⟨h1,h2,h3⟩
theorem KT.put {H:Hp}{kvs:List (List A7×V)}{xs:List (List A7×Addr×Value)} (r:KT H kvs xs) (k:List A7) {b:Addr}{y:V}{u:Value} (hb:H b=some (.tup (k.map kV))) (ry:B7 y u) :
  KT H (O0 kvs k y) (storedH xs k b u):=by
 have e:(kvs.any fun kv=>decide (kv.1=k))=(atKey xs k).isSome:=by
  rw [Y4x,(r.val k).isSome_eq,Option.isSome_map]
 unfold O0 storedH
 rw [e]
 by_cases q:(atKey xs k).isSome=true
 ·rw [aI q,aI q];exact r.repl k ry
 ·rw [aD q,aD q];exact Paired.snoc r ⟨rfl,hb,ry⟩
theorem KT.keeps {H H':Hp}{kvs:List (List A7×V)}{xs:List (List A7×Addr×Value)} (r:KT H kvs xs) (ht:∀b ys,H b=some (.tup ys)->H' b=some (.tup ys)):KT H' kvs xs :=
 Paired.mapP r fun _ _ z=>⟨z.1,ht _ _ z.2.1,z.2.2⟩
section
variable {P:Program}{w:World}{H:Hp}{h:Heap}{a:Addr}
theorem Y1z {u:HO} (ok:F5 P w H h) (e:Rd H a u):G1 P w H h a u:=e.ok ok
theorem Q3s {kvs:List (A7×V)} (ok:F5 P w H h) (e:Rd H a (.dK kvs)):kvs.length<=sizeLine/\(a==sysModules)=false/\∃vs,KV kvs vs/\h.DictOf (J9 P w) a vs :=
 show G1 P w H h a (.dK kvs)from Y1z ok e
theorem Q7p {kvs:List (A7×V)} (ok:F5 P w H h) (e:H a=some (.dK kvs)):kvs.length<=sizeLine/\(a==sysModules)=false/\∃vs,KV kvs vs/\h.DictOf (J9 P w) a vs:=Q3s ok (.inl e)
theorem Q3x {ks:List A7} (ok:F5 P w H h) (e:H a=some (.tup (ks.map kV))):(tupleKind (J9 P w)).is h ks a:=by
 obtain⟨_,aS,r,o,h1,h2,n,h3⟩:=(show G1 P w H h a (.tup (ks.map kV))from ok a _ e)
 exact⟨o,aS.toArray,n,h1,h2,h3,by simpa using Z9g r⟩
theorem Q3t {kvs:List (List A7×V)} (ok:F5 P w H h) (e:Rd H a (.dT kvs)):kvs.length<=sizeLine/\(a==sysModules)=false /\
  ∃xs,KT H kvs xs/\h.DictOfH (tupleKind (J9 P w)) a xs:=by
 obtain⟨z,y,xs,r,o,es,ep,h1,h2,h3,h4,h5⟩:=(show G1 P w H h a (.dT kvs)from Y1z ok e)
 refine⟨z,y,xs,r,o,es,ep,h1,h2,h3,h4,fun x hx=>?_,h5⟩
 have all:∀{l:List (List A7×V)}{m:List (List A7×Addr×Value)},KT H l m->∀x∈m,(tupleKind (J9 P w)).is h x.1 x.2.1:=by
  intro l m q
  induction q with
  | nil=>intro x hx;exact nomatch hx
  | @cons p q ps qs hq t ih =>
   intro x hx
   rcases aj.mp hx with e | hx
   ·subst e
    exact Q3x ok (by rw [<- hq.1];exact hq.2.1)
   ·exact ih x hx
 exact all r x hx
theorem Z8g {kvs:List (List A7×V)} (ok:F5 P w H h) (e:H a=some (.dT kvs)):kvs.length<=sizeLine/\(a==sysModules)=false /\
  ∃xs,KT H kvs xs/\h.DictOfH (tupleKind (J9 P w)) a xs:=Q3t ok (.inl e)
end
def U2 (H:Hp) (a:Addr) (y:V) (r:Option V):Prop :=
 (∃kvs k,Rd H a (.dK kvs)/\y=kV k/\r=R0 kvs k)\/∃kvs k b,Rd H a (.dT kvs)/\y=.ref b/\H b=some (.tup (k.map kV))/\r=R0 kvs k
def Q1l (H:Hp) (a:Addr) (y v:V) (H':Hp):Prop :=
 (∃kvs k,H a=some (.dK kvs)/\y=kV k/\kvs.length<sizeLine/\H'=upd H a (.dK (O0 kvs k v))) \/
 ∃kvs k b,H a=some (.dT kvs)/\y=.ref b/\H b=some (.tup (k.map kV))/\kvs.length<sizeLine/\H'=upd H a (.dT (O0 kvs k v))
theorem U2.k {H:Hp}{a:Addr}{kvs:List (A7×V)}{k:A7} (e:H a=some (.dK kvs)):U2 H a (kV k) (R0 kvs k):=.inl ⟨kvs,k,.inl e,rfl,rfl⟩
theorem U2.t {H:Hp}{a b:Addr}{kvs:List (List A7×V)}{k:List A7} (e:H a=some (.dT kvs)) (eb:H b=some (.tup (k.map kV))):U2 H a (.ref b) (R0 kvs k):=.inr ⟨kvs,k,b,.inl e,rfl,eb,rfl⟩
theorem Q1l.k {H:Hp}{a:Addr}{kvs:List (A7×V)}{k:A7}{v:V} (e:H a=some (.dK kvs)) (hl:kvs.length<sizeLine):Q1l H a (kV k) v (upd H a (.dK (O0 kvs k v))):=.inl ⟨kvs,k,e,rfl,hl,rfl⟩
theorem Q1l.t {H:Hp}{a b:Addr}{kvs:List (List A7×V)}{k:List A7}{v:V} (e:H a=some (.dT kvs)) (eb:H b=some (.tup (k.map kV))) (hl:kvs.length<sizeLine) :
  Q1l H a (.ref b) v (upd H a (.dT (O0 kvs k v))):=.inr ⟨kvs,k,b,e,rfl,eb,hl,rfl⟩
section
variable {X:Cx}{ae:Pn9} {σ:St}{H:Hp}{s:Shared}{a:Addr}{y v:V}{u r:Value}{o:Option V}{A:Around}{E:VS9}
theorem A0.big (I:A0 X ae σ H s):sysModules<s.heap.objs.size:=by
 have h:mainGlobals<s.heap.objs.size:=(I.mod.glob.keeps I.bk).lt
 exact Nat.lt_trans (by decide) h
theorem Y7p {Q:VS9} (hu:A.units+1<cLine) (I:A0 X ae σ H s) (g:U2 H a y (some v)) (ry:B7 y u) (h:∀w' s',A0 X ae σ H s'->B7 v w'->Q w' s') :
  wpAny (model X.prog X.w) A (getItem (.ref a) u) Q E s:=by
 rcases g with⟨kvs,k,e,ey,l⟩ | ⟨kvs,k,b,e,ey,eb,l⟩
 ·subst ey
  obtain⟨z,hd,vs,rel,dd⟩:=Q3s I.hok e
  obtain⟨w',hw,gA⟩:=X8.some_of (v:=v) (o:=valueAt vs k) (by rw [l];exact rel.val k)
  exact wpAny_getItem_of (Q1v ry) dd.mapOf hw (h w' _ (I.tok _) gA)
 ·subst ey
  cases (show u=Value.ref b from ry)
  obtain⟨z,hd,xs,rel,dd⟩:=Q3t I.hok e
  obtain⟨w',hw,gA⟩:=X8.some_of (v:=v) (o:=(atKey xs k).map (·.2)) (by rw [l];exact rel.val k)
  obtain⟨p,hp,l8⟩:=Option.map_eq_some_iff.mp hw
  refine wpAny_getItem_heap (tupleKind_room_in1 hu) (Q3x I.hok eb) dd hp ?_
  rw [l8]
  exact h w' _ (I.tok _) gA
theorem Y7q {Q:VS9} (hu:A.units+1<cLine) (I:A0 X ae σ H s) (g:U2 H a y o) (ry:B7 y u) (h:∀s',A0 X ae σ H s'->Q (.bool (!o.isSome)) s') :
  wpAny (model X.prog X.w) A (compareOp .NotIn u (.ref a)) Q E s:=by
 rcases g with⟨kvs,k,e,ey,l⟩ | ⟨kvs,k,b,e,ey,eb,l⟩
 ·subst ey
  obtain⟨z,hd,vs,rel,dd⟩:=Q3s I.hok e
  refine wpAny_notIn_of (Q1v ry) hd dd.mapOf ?_
  rw [<- (rel.val k).isSome_eq,<- l]
  exact h _ (I.tok _)
 ·subst ey
  cases (show u=Value.ref b from ry)
  obtain⟨z,hd,xs,rel,dd⟩:=Q3t I.hok e
  refine wpAny_notIn_heap (tupleKind_room_in1 hu) (Q3x I.hok eb) hd dd ?_
  have q:=(rel.val k).isSome_eq
  rw [Option.isSome_map]at q
  rw [<- q,<- l]
  exact h _ (I.tok _)
theorem Q2o {h':Heap}{t':Nat}{ob:HO} (I:A0 X ae σ H s) (mu:Mut (H a)) (hs:Heap.SameBut a s.heap h') (he:∃q,h'.get? a=some q) (new:G1 X.prog X.w (upd H a ob) h' a ob) :
  A0 X ae σ (upd H a ob) { s with heap:=h',toks:=t' } :=
 I.write (x:=a) (e:=a) mu (.inl rfl) (fun b q hb z=>(hs.2 b hb).trans z) he new
theorem Z1l {P:Program}{w:World}{H':Hp}{h':Heap}{kvs:List (A7×V)}{vs:List (A7×Value)} (z:kvs.length<=sizeLine) (hd:(a==sysModules)=false) (rel:KV kvs vs) (dd:h'.DictOf (J9 P w) a vs) :
  G1 P w H' h' a (.dK kvs):=⟨z,hd,vs,rel,dd⟩
theorem Y7r {H':Hp}{Q:Unit->Shared->Prop} (hu:A.units+1<cLine) (I:A0 X ae σ H s) (g:Q1l H a y v H') (ry:B7 y u) (rv:B7 v r) (h:∀s',A0 X ae σ H' s'->Q () s') :
  wpAny (model X.prog X.w) A (setItem (.ref a) u r) Q E s:=by
 rcases g with⟨kvs,k,e,ey,l,eH⟩ | ⟨kvs,k,b,e,ey,eb,l,eH⟩
 ·subst ey eH
  obtain⟨z,hd,vs,rel,dd⟩:=Q7p I.hok e
  have hz:vs.length<=sizeLine:=by rw [<- rel.length];exact z
  have hl:(O0 kvs k v).length<=sizeLine:=by have:=Q5w kvs k v;omega
  refine wpAny_setItem_pairs (hsz:=hz) (Q1v ry) dd fun h' gk hs=>h _ ?_
  have he:∃q,h'.get? a=some q:=let ⟨q,_,_,hq,_⟩:=gk;⟨q,hq⟩
  exact Q2o I (by rw [e];exact True.intro) hs he (Z1l hl hd (rel.put k rv) gk)
 ·subst ey eH
  cases (show u=Value.ref b from ry)
  obtain⟨z,hd,xs,rel,dd⟩:=Z8g I.hok e
  have hz:xs.length<=sizeLine:=by rw [<- Paired.length rel];exact z
  have hl:(O0 kvs k v).length<=sizeLine:=by have:=Q5w kvs k v;omega
  refine wpAny_setItem_heap (hsz:=hz) (tupleKind_room_in1 hu) (Q3x I.hok eb) dd fun h' gk hs=>h _ ?_
  obtain⟨q,es,ep,hq,h2,h3,h4,_,h5⟩:=gk
  refine Q2o I (by rw [e];exact True.intro) hs ⟨q,hq⟩ ⟨hl,hd,_,(rel.put k eb rv).keeps fun c ys ec=>?_,q,es,ep,hq,h2,h3,h4,h5⟩
  rw [B0 (W8 ec e (fun z=>nomatch z))]
  exact ec
end
section
variable {X:Cx}{ae:Pn9} {σ:St}{H:Hp}{s:Shared}{a:Addr}{kvs:List (A7×V)}{k:A7}{u:Value}{A:Around}{E:VS9}
end
def Q2k (i:Expr):Prop:=∀ov iv,subscripted i false ov iv=operate [ov,iv] (getItem ov iv)
theorem W7l {prog:Program}{w:World}{A:Around}{E:VS9}{s:Shared}{env:Env}{value slice:Expr}{pos:Pos}{T id:String}{Q:VS9}
  (hl:typeLookup (.type T) "__getitem__"=pure (some (.builtin id))) (hs:Q2k slice)
  (h:wpAny (model prog w) A (eval value env) (fun o s₁=>wpAny (model prog w) A (eval slice env) (fun i s₂=>s₂.TypeIs o T/\wpAny (model prog w) A (getItem o i) Q E s₂) E s₁) E s) :
  wpAny (model prog w) A (eval (.Subscript value slice pos) env) Q E s:=by
 refine Subscript_ (aL h (fun o s₁ h₁=>aL h₁ (fun i s₂ h₂=>?_) fun _ _ x=>x) fun _ _ x=>x)
 obtain⟨hT,h₂⟩:=h₂
 unfold subscriptTail
 refine a9 ?_
 rw [getitemInPython_of_ne hT.not_modules]
 refine a9 (wpAny_specialOf hT hl ?_)
 have fin:wpAny (model prog w) A (subscripted slice false o i) (fun r s₃=>wpAny (model prog w) A (letTemporaryGo value o r>>=fun _=>pure r) Q E s₃) E s₂:=by
  rw [hs o i]
  exact wpAny_operating (aL h₂ (fun r s₃ h₃=>a9 (wpAny_letTemporaryGo (af h₃))) fun _ _ x=>x)
 first
  | exact af (a9 fin)
  | exact a9 (af (a9 fin))
  | exact a9 fin
theorem Y7v {X:Cx}{ae:Pn9} {σ:St}{H:Hp}{s:Shared}{a:Addr}{y:V}{o:Option V} (I:A0 X ae σ H s) (g:U2 H a y o):s.TypeIs (.ref a) "dict":=by
 rcases g with⟨kvs,k,e,_,_⟩ | ⟨kvs,k,b,e,_,_,_⟩
 ·obtain⟨_,_,vs,_,dd⟩:=Q3s I.hok e
  exact dd.typeIs
 ·obtain⟨_,_,xs,_,dd⟩:=Q3t I.hok e
  exact dd.typeIs
def W7o (td ty:TE):TE:=fun σ H Q=>td σ H fun x H1=>ty σ H1 fun y H2=>∃a v,x=.ref a/\U2 H2 a y (some v)/\Q v H2
def W7s (ty td:TE):TE:=fun σ H Q=>ty σ H fun y H1=>td σ H1 fun x H2=>∃a o,x=.ref a/\U2 H2 a y o/\Q (.bl (!o.isSome)) H2
def W5m (td ty tv:TE):TS:=fun D σ H=>tv σ H fun v H1=>td σ H1 fun x H2=>ty σ H2 fun y H3=>∃a H4,x=.ref a/\Q1l H3 a y v H4/\D.nx σ H4
section
variable {X:Cx}{o i e value:Expr}{pos bF lw:Pos}{td ty tv:TE}
theorem Q6h (hu:X.A.units+1<cLine) (ho:PE X o td) (hi:PE X i ty) (hs:Q2k i):PE X (.Subscript o i pos) (W7o td ty):=by
 intro ae s σ H Q I h
 refine W7l PySem.F.slot_dict_getitem.lookup hs (B2 (ho ae s σ H _ I h) fun u s1 ⟨x,H1,I1,rx,q1⟩=>B2 (hi ae s1 σ H1 _ I1 q1) fun iv s2 ⟨y,H2,I2,ry,a,v,ex,g,q2⟩=>?_)
 subst ex
 obtain rfl:u=Value.ref a:=rx
 exact⟨Y7v I2 g,Y7p hu I2 g ry fun w' s3 I3 gA=>⟨v,H2,I3,gA,q2⟩⟩
theorem Y1f (hu:X.A.units+1<cLine) (hi:PE X i ty) (ho:PE X o td):PC X .NotIn i o (W7s ty td):=by
 intro ae s σ H Q I h
 refine B2 (hi ae s σ H _ I h) fun iv s1 ⟨y,H1,I1,ry,q1⟩=>B2 (ho ae s1 σ H1 _ I1 q1) fun u s2 ⟨x,H2,I2,rx,a,ov,ex,g,q2⟩=>?_
 subst ex
 obtain rfl:u=Value.ref a:=rx
 exact Y7q hu I2 g ry fun s3 I3=>⟨.bl (!ov.isSome),H2,I3,rfl,q2⟩
theorem Y1p (hu:X.A.units+1<cLine) (ho:PE X o td) (hi:PE X i ty) (hv:PE X value tv) (hs:swapsWith value (some (.Subscript o i bF)) pos.line X.env=pure false) :
  PS X (.Assign [.Subscript o i bF] value pos) (W5m td ty tv):=by
 intro ae s σ H D I h
 refine wpAny_Assign_Subscript (B2 (hv ae s σ H _ I h) fun r s1 ⟨v,H1,I1,rv,q1⟩=>B2 (ho ae s1 σ H1 _ I1 q1) fun u s2 ⟨x,H2,I2,rx,q2⟩=>B2 (hi ae s2 σ H2 _ I2 q2) fun iv s3 ⟨y,H3,I3,ry,a,H4,ex,g,q3⟩=>?_) hs
 subst ex
 obtain rfl:u=Value.ref a:=rx
 exact Y7r hu I3 g ry rv fun s4 I4=>⟨σ,H4,I4,q3⟩
end
theorem Z8e {P:Program}{w:World}{H:Hp} (h:Heap) (hb:sysModules<h.objs.size):G1 P w H (h.push { cls:=.type "dict",data:=.dict #[] }) h.objs.size (.dK []) :=
 ⟨bp _,bT.mpr (bC (ay hb)),[],.nil,Heap.DictOf.new h⟩
theorem Z8f {P:Program}{w:World}{H:Hp} (h:Heap) (hb:sysModules<h.objs.size):G1 P w H (h.push { cls:=.type "dict",data:=.dict #[] }) h.objs.size (.dT []) :=
 ⟨bp _,bT.mpr (bC (ay hb)),[],.nil,_,#[],0,aw _ rfl,⟨rfl,rfl,rfl⟩,rfl,rfl,eS⟩
def W7q:TE:=fun _ H Q=>∀p,H p=none->Q (.ref p) (upd H p (.dK []))
def W7r:TE:=fun _ H Q=>∀p,H p=none->Q (.ref p) (upd H p (.dT []))
section
variable {X:Cx}{pos:Pos}
theorem W2q:PE X (.Dict [] [] pos) W7q:=fun ae s σ H Q I h =>
 wpAny_Dict_empty ⟨.ref s.heap.objs.size,_,I.laid (a:=s.heap.objs.size) (o:=.dK []) (t':=s.toks) (fun _ _ q=>aa _ q) (ah _) (Z8e s.heap I.big),rfl,h _ (I.hok.fresh (ah _))⟩
theorem W2r:PE X (.Dict [] [] pos) W7r:=fun ae s σ H Q I h =>
 wpAny_Dict_empty ⟨.ref s.heap.objs.size,_,I.laid (a:=s.heap.objs.size) (o:=.dT []) (t':=s.toks) (fun _ _ q=>aa _ q) (ah _) (Z8f s.heap I.big),rfl,h _ (I.hok.fresh (ah _))⟩
end
noncomputable def Z4i:List (TE×TE)->St->Hp->(List (V×V)->Hp->Prop)->Prop
 | [],_,H,Q=>Q [] H
 | (tk,tv)::r,σ,H,Q=>tk σ H fun x H1=>tv σ H1 fun y H2=>Z4i r σ H2 fun ps H3=>Q ((x,y)::ps) H3
noncomputable abbrev VV:List (V×V)->List (Value×Value)->Prop:=Paired fun p q=>B7 p.1 q.1/\B7 p.2 q.2
def PPs (X:Cx) (pos:Pos) (keys:List (Option Expr)) (values:List Expr) (ie:List (TE×TE)):Prop :=
 ∀(ae:Pn9) (s:Shared) (σ:St) (H:Hp) (Q:List (V×V)->Hp->Prop),A0 X ae σ H s->Z4i ie σ H Q ->
  wpAny (model X.prog X.w) X.A (evalPairs (pairTrees keys values X.env pos)) (fun vs s'=>∃ps H',A0 X ae σ H' s'/\VV ps vs/\Q ps H') X.xe s
theorem W3q {X:Cx}{pos:Pos}:PPs X pos [] [] []:=fun ae s σ H Q I h=>pairTrees_nil_walk ⟨[],H,I,.nil,h⟩
theorem W3p {X:Cx}{pos:Pos}{k v:Expr}{ks:List (Option Expr)}{vs:List Expr}{tk tv:TE}{ie:List (TE×TE)} (hk:PE X k tk) (hv:PE X v tv) (hr:PPs X pos ks vs ie) :
  PPs X pos (some k::ks) (v::vs) ((tk,tv)::ie):=fun ae s σ H Q I h =>
 pairTrees_cons_walk (B2 (hk ae s σ H _ I h) fun u s1 ⟨x,H1,I1,rx,q1⟩=>B2 (hv ae s1 σ H1 _ I1 q1) fun w2 s2 ⟨y,H2,I2,ry,q2⟩ =>
  B2 (hr ae s2 σ H2 _ I2 q2) fun ws s3 ⟨ps,H3,I3,rel,q3⟩=>⟨(x,y)::ps,H3,I3,.cons ⟨rx,ry⟩ rel,q3⟩)
noncomputable def Q4b (kvs more:List (A7×V)):List (A7×V):=more.foldl (fun c9 kv=>O0 c9 kv.1 kv.2) kvs
theorem KV.merge:∀{more:List (A7×V)}{rs:List (A7×Value)}{kvs:List (A7×V)}{vs:List (A7×Value)},KV more rs->KV kvs vs->KV (Q4b kvs more) (merged vs rs):=by
 intro more rs kvs vs r
 unfold KV at r
 induction r generalizing kvs vs with
 | nil=>intro q;exact q
 | @cons p q ps qs h t ih =>
  intro r0
  have e:KV (O0 kvs p.1 p.2) (stored vs q.1 q.2):=by
   have:=r0.put p.1 h.2
   rw [<- h.1];exact this
  exact ih e
theorem Z9p:∀(more kvs:List (A7×V)),(Q4b kvs more).length<=kvs.length+more.length
 | [],kvs=>by show kvs.length<=kvs.length+0;omega
 | p::r,kvs=>by
  have h1:=Z9p r (O0 kvs p.1 p.2)
  have h2:=Q5w kvs p.1 p.2
  show(Q4b (O0 kvs p.1 p.2) r).length<=_
  rw [az];omega
theorem Z7m {P:Program}{w:World}:∀{kvs:List (A7×V)}{ws:List (Value×Value)},VV (kvs.map fun kv=>(kV kv.1,kv.2)) ws->∃rs,Carries (J9 P w) ws rs/\KV kvs rs
 | [],_,r=>by rw [cC]at r;cases r;exact⟨[],True.intro,.nil⟩
 | p::kvs,_,r=>by
  rw [ao]at r
  cases r with
  | @cons a b as bs h t =>
   obtain⟨rs,c,q⟩:=Z7m (P:=P) (w:=w) t
   obtain⟨b1,b2⟩:=b
   exact⟨(p.1,b2)::rs,⟨Q1v h.1,rfl,c⟩,.cons ⟨rfl,h.2⟩ q⟩
def W7t (ie:List (TE×TE)):TE:=fun σ H Q=>∀p,H p=none->Z4i ie σ (upd H p (.dK [])) fun ps H2=>H2 p=some (.dK [])/\∃kvs:List (A7×V),ps=kvs.map (fun kv=>(kV kv.1,kv.2))/\kvs.length<=15/\Q (.ref p) (upd H2 p (.dK (Q4b [] kvs)))
theorem W2n {X:Cx}{pos:Pos}{keys:List (Option Expr)}{values:List Expr}{ie:List (TE×TE)} (h:PPs X pos keys values ie) (jI:keys.all (·.isSome)=true) (hl:keys.length=values.length) (h0:keys≠[])
  (r9:keys.length<=15):PE X (.Dict keys values pos) (W7t ie):=by
 intro ae s σ H Q I q
 have hn:=I.hok.fresh (ah s.heap.objs.size)
 have I1:=I.laid (a:=s.heap.objs.size) (o:=.dK []) (h':=s.heap.push { cls:=.type "dict",data:=.dict #[] }) (t':=s.toks) (fun _ _ q=>aa _ q) (ah _) (Z8e s.heap I.big)
 refine wpAny_Dict_walk (knd:=J9 X.prog X.w) jI hl h0 r9 (B2 (h ae _ σ _ _ I1 (q _ hn)) fun ws s2 ⟨ps,H2,I2,rel,e,kvs,ep,lk,q2⟩=>?_)
 subst ep
 obtain⟨rs,c,rk⟩:=Z7m (P:=X.prog) (w:=X.w) rel
 obtain⟨z,hd,rQ,r0,dd⟩:=Q7p I2.hok e
 cases r0
 refine⟨rs,c,dd,fun h' gk hs=>⟨.ref s.heap.objs.size,_,?_,rfl,q2⟩⟩
 have hz:(Q4b [] kvs).length<=sizeLine:=by
  have h1:=Z9p kvs []
  rw [cb]at h1
  rw [sizeLine_eq];omega
 have he:∃q,h'.get? s.heap.objs.size=some q:=let ⟨q,_,_,hq,_⟩:=gk;⟨q,hq⟩
 exact Q2o I2 (by rw [e];exact True.intro) hs he (Z1l hz hd (rk.merge .nil) gk)
structure M1 (X:Cx) (o:Expr) (m:Str) (apos:Pos) (e:Expr) (bv:Pos):Prop where
 base:attributeBase o m X.env (eval o X.env)=eval o X.env
 few:((backTo bv (starEach [e] X.env)).all (fun x=>!x.1)&&(backToKw bv (keywordEach [] X.env)).all (fun x=>x.1.isSome)
 &&decide (([e]:List Expr).length+([]:List Keyword).length+(if ([]:List Keyword).isEmpty then 0 else 1)<30))=true
 line:(apos.endLine==bv.line)=true
 trees:backTo bv (starEach [e] X.env)=[(false,eval e X.env)]
structure M2 (X:Cx) (o:Expr) (m:Str) (apos:Pos) (e f:Expr) (bv:Pos):Prop where
 base:attributeBase o m X.env (eval o X.env)=eval o X.env
 few:((backTo bv (starEach [e,f] X.env)).all (fun x=>!x.1)&&(backToKw bv (keywordEach [] X.env)).all (fun x=>x.1.isSome)
 &&decide (([e,f]:List Expr).length+([]:List Keyword).length+(if ([]:List Keyword).isEmpty then 0 else 1)<30))=true
 line:(apos.endLine==bv.line)=true
 trees:backTo bv (starEach [e,f] X.env)=[(false,eval e X.env),(false,eval f X.env)]
def IsD (H:Hp) (a:Addr):Prop:=(∃kvs,Rd H a (.dK kvs))\/∃kvs,Rd H a (.dT kvs)
theorem Z9d {X:Cx}{ae:Pn9} {σ:St}{H:Hp}{s:Shared}{a:Addr} (I:A0 X ae σ H s) (d:IsD H a) :
  s.TypeIs (.ref a) "dict"/\(∀b,Value.ref a=.ref b->∃ob,s.heap.get? b=some ob/\ob.dict=none)/\(a==sysModules)=false:=by
 rcases d with⟨kvs,e⟩ | ⟨kvs,e⟩
 ·obtain⟨_,hd,vs,_,dd⟩:=Q3s I.hok e
  refine⟨dd.typeIs,fun b q=>?_,hd⟩
  cases q
  obtain⟨ob,_,_,h1,h2,_⟩:=dd
  exact⟨ob,h1,h2.2.1⟩
 ·obtain⟨_,hd,xs,_,dd⟩:=Q3t I.hok e
  refine⟨dd.typeIs,fun b q=>?_,hd⟩
  cases q
  obtain⟨ob,_,_,h1,h2,_⟩:=dd
  exact⟨ob,h1,h2.2.1⟩
section
variable {X:Cx}{ae:Pn9} {σ:St}{H:Hp}{s:Shared}{a:Addr}{y d:V}{u r:Value}{o:Option V}{A:Around}{E:VS9}
theorem Y7o {Q:VS9} (hu:A.units+1<cLine) (I:A0 X ae σ H s) (g:U2 H a y o) (ry:B7 y u) (h:∀w' s',A0 X ae σ H s'->B7 (o.getD .non) w'->Q w' s') :
  wpAny (model X.prog X.w) A (call (.builtin "dict.get") [.ref a,u]) Q E s:=by
 rcases g with⟨kvs,k,e,ey,l⟩ | ⟨kvs,k,b,e,ey,eb,l⟩
 ·subst ey
  obtain⟨z,hd,vs,rel,dd⟩:=Q3s I.hok e
  refine call_meetsIn PySem.F.slot_dict_get dd.typeIs PySem.F.entry_dict_get (PySem.F.args_dict_get_2 _ _) (meets_dict_get (J9 X.prog X.w) a (Q1v ry) hd) ⟨_,dd.mapOf,h _ _ (I.tok _) ?_⟩
  rw [l]
  exact(rel.val k).getD rfl
 ·subst ey
  cases (show u=Value.ref b from ry)
  obtain⟨z,hd,xs,rel,dd⟩:=Q3t I.hok e
  refine call_meetsIn PySem.F.slot_dict_get dd.typeIs PySem.F.entry_dict_get (PySem.F.args_dict_get_2 _ _) (meetsH_dict_get (tupleKind (J9 X.prog X.w)) a b hd) ⟨tupleKind_room_in1 hu,k,xs,Q3x I.hok eb,dd,h _ _ (I.tok _) ?_⟩
  rw [l]
  exact(rel.val k).getD rfl
end
def W7p (td ty:TE):TE:=fun σ H Q=>td σ H fun x H1=>∃a,x=.ref a/\IsD H1 a/\ty σ H1 fun y H2=>∃o,U2 H2 a y o/\Q (o.getD .non) H2
section
variable {X:Cx}{o e f:Expr}{apos bv:Pos}{td ty tx:TE}
theorem W2m (hu:X.A.units+1<cLine) (ho:PE X o td) (he:PE X e ty) (m:M1 X o "get" apos e bv):PE X (.Call (.Attribute o "get" apos) [e] [] bv) (W7p td ty):=by
 intro ae s σ H Q I h
 refine wpAny_Call_method m.base m.few m.line PySem.F.plainAttrs_dict PySem.F.slot_dict_get PySem.F.type_dict_get (B2 (ho ae s σ H _ I h) fun u s1 ⟨x,H1,I1,rx,a,ex,d,q1⟩=>?_)
 subst ex
 obtain rfl:u=Value.ref a:=rx
 obtain⟨t1,t2,_⟩:=Z9d I1 d
 refine⟨t1,t2,?_⟩
 rw [m.trees]
 refine eX rfl (dv (bV (B2 (he ae s1 σ H1 _ I1 q1) fun iv s2 ⟨y,H2,I2,ry,ov,g,q2⟩=>cZ ?_)))
 exact Y7o hu I2 g ry fun w' s3 I3 gA=>⟨_,H2,I3,gA,q2⟩
end
section
variable {X:Cx}{ae:Pn9} {σ:St}{H:Hp}{s:Shared}{a:Addr}{kvs:List (A7×V)}{A:Around}{E:VS9}
end
section
variable {X:Cx}{ae:Pn9} {σ:St}{H:Hp}{s:Shared}{a:Addr}{y:V}{u:Value}{A:Around}{E:VS9}
end
end L2
namespace Att
open PySem PySem.W PySem.Calls PyProof.Rows
theorem Y8n {P:Params}{h:Heap}:∀(ns:List Int) (vs:List Value),WellAll P h vs (ns.map WData.int)->IntsAre vs ns:=by
 intro ns
 induction ns with
 | nil =>
  intro vs w
  rw [cC]at w
  cases w
  exact .nil
 | cons n ns ih =>
  intro vs w
  rw [ao]at w
  cases w with
  | cons a b =>
   cases a
   exact .cons _ _ (ih _ b)
theorem W6v {l:OpenLaw}{n:Nat} (hn:l.most=some n) {P:Params}{h:Heap}{args:List WData}{fR:List Value}
  (iA:l.row.toRowW.claim.pre args=true) (m6:WellAll P h fR args) :
  ∃a vs ns,fR=[Value.ref a]/\args=[WData.list (ns.map WData.int)]/\h.get? a=some { cls:=.type "list",data:=.seq vs.toArray }/\IntsAre vs ns/\ns.length<=n:=by
 have qf:WShape.hasAll [] args [.list .int]=true:=(pre_splitW iA).1
 have hc:l.pre.holds [] { args:=args }=true:=(pre_splitW iA).2
 obtain⟨d,r,rfl,h1,h2⟩:=hasAllW_cons qf
 obtain rfl:=hasAllW_nil h2
 obtain⟨xs,rfl,h3⟩:=hasW_list h1
 obtain⟨ns,rfl⟩:=items_int h3
 have bL:ns.length<=n:=by
  unfold OpenLaw.pre at hc
  have h4:(WTm.not (.lt (.lit (.int (n:Int))) (.len (.arg 0)))).holds [] { args:=[.list (ns.map .int)] }=true:=by
   have h4:=(holds_andW hc).1
   rw [hn]at h4
   exact h4
  have h5:=condW_of h4 (w_not (w_lt w_lit (w_len_list (w_arg rfl))))
  rw [ag]at h5
  refine Nat.le_of_not_lt fun q=>?_
  have q':(n:Int)<((ns.length:Nat):Int):=by omega
  first
   | (rw [dm q']at h5;exact absurd h5 (by decide))
   | (simp at h5;omega)
 cases m6 with
 | cons w1 w2 =>
  cases w2
  cases w1 with
  | list ho jI=>exact⟨_,_,ns,rfl,rfl,ho,Y8n ns _ jI,bL⟩
theorem W3o (l:OpenLaw) (args:List WData):l.row.toRowW.claim.post args (.bool true) args=true :=
 postW_of (r:=l.row.toRowW) (X:=(true==true))
  (show WShape.has [] (.bool true) .bool=true by first | rfl | decide | simp [WShape.has,WShape.arms,WShape.armsAll])
  (show(WTm.eq .res (.lit (.bool true))).value [] { args:=args,res:=some (.bool true),after:=args }=some (.bool (true==true))from w_eq_bool (w_res rfl) w_lit) rfl
theorem attach_call {l:OpenLaw}{n:Nat}{q:Program}{eh:List Str}{XP:(Str->Option Value)->Heap->Prop}{YP:World->Heap->Prop}{d:DefRec}
  (hn:l.most=some n) (iH:d.params.defaults=[])
  (call:∀(w:World) (s₀ s₁:Shared) (mg mb:Str->Option Value) (fa:Addr) (o:Obj) (pm cd cS:Value) (a:Addr) (vs:List Value) (ns:List Int),
   Ground q eh [] XP w s₀ mg mb s₁.heap->YP w s₁.heap ->
   s₁.heap.get? fa=some o->o.data=.func (docDef d.name d.params d.body d.scope pm cd cS)->s₁.heap.CodeRec cd d.name->mg d.name=some (.ref fa) ->
   s₁.heap.get? a=some { cls:=.type "list",data:=.seq vs.toArray }->IntsAre vs ns->ns.length<=n->s₁.gens=#[] ->
   codeAny (model l.prog w) callerA (.call (.ref fa) ⟨[.ref a],[]⟩) (fun r s'=>r=.ok (.ret (.bool true))/\OldK s₁.heap s'.heap/\s'.os=s₁.os/\AllBare s'.gens) s₁) :
  WalkO q eh XP YP l.row.toRowW d [] (fun f vs=>PySem.call f vs):=by
 intro w s₀ s₁ mg mb G Y fa o pm cd cS dV kV ho hd ef hD jz hg args fR as iA qu rU m6 rX
 obtain rfl:dV=.none:=Dflts.none hD iH
 obtain rfl:kV=.none:=Dflts.noKw hD
 obtain⟨a,vs,ns,rfl,rfl,jw,gN,bL⟩:=W6v hn iA m6
 refine enter_call (codeAny_mono (call w s₀ s₁ mg mb fa o pm cd cS a vs ns G Y ho (fd_plain hd) ef jz jw gN bL hg) fun r s' hq=>?_)
 obtain⟨rfl,h2,h3,h4⟩:=hq
 exact⟨.inl ⟨.bool true,.bool true,[],rfl,fun _=>rfl,.bool true,W3o l _,fun _=>⟨List.Pairwise.nil,fun _ hm=>(nomatch hm)⟩⟩,h2,h3,h4⟩
section
variable {prog:Program}{w:World}{A:Around}{E:VS9}{s:Shared}{K:Frag}
end
end Att
namespace L2
open PySem PySem.Spec PyProof.Rows
theorem Y4z:∀{vs:List Value}{ns:List Int},IntsAre vs ns->B9 (ns.map V.int) vs
 | _,_,.nil=>.nil
 | _,_,.cons n t h=>.cons ⟨t,rfl⟩ (Y4z h)
end L2
namespace L2
open PySem PySem.Spec PyProof.Rows
end L2
/- THE LAST THEOREM (shape;LID,My.* are yours):
 My.Adr: a structure of ny addresses that your layer names (classes,functions);My.Txt K t: a structure (Prop) of ny equations over K;
 My.txt_mk:{K} {implicit addresses ..} (e1:nsIn K mainGlobals "law"=some (some (.ref f))) (e2:K.lookup f=some ⟨oc,od,.func (fnOf "law" "law" params body scope dV kV cS pm an cdv ct),sl⟩) (e3:codeIn K cdv "law"=true) ..:∃t,My.Txt K t
theorem PySem.Challenge.cw_LID_holds:PySem.Challenge.rw_LID.Holds := by
 w_on;o_law;k_head;(case hw=>w_witness2)
 k_fill
 refine L2.walk_of (l:=PySem.Challenge.rw_LID) (n:=63) (k:=40) (x:="script") (CX:=fun w=>..) (sp:=fun _=>My.sp_law) rfl (by decide) rfl ⟨rfl,by decide,by decide⟩ (fun w h Y=>PySem.W.kIn_of Y) ?F ?S ?C
 case F =>
  intro w mg fa h KX G jz
  have T:∃t,My.Txt (L2.KOf KX) t:=by
   dsimp only [L2.KOf]
   refine' My.txt_mk ?e1 ?e2 ?e3 ..
   (case e1=>PySem.W.k_is)
   (case e2=>PySem.W.k_is)
   ..
  obtain⟨t,T⟩:=T
  have e0:=jz.symm.trans (PySem.W.mg_of KX G T.law)
  cases e0
  exact⟨_,fun s u=>.of_eq rfl,fun base kb nb=>My.law_fn T kb nb⟩
 case S=>exact fun w H a ns hl hO hS=>..
 case C=>exact ..
(ny tactic k_is has no namespace: write k_is) -/
namespace L2
open PySem PySem.Spec PyProof.Rows
noncomputable def Z4 (s:Stmt):Arguments:=match s with
 | .FunctionDef _ a _ _ _ _ _ _ _ _=>a
 | _=>{ posonlyargs:=[],args:=[],vararg:=none,kwonlyargs:=[],kw_defaults:=[],kwarg:=none,defaults:=[] }
noncomputable def S0 (s:Stmt):List Stmt:=match s with
 | .FunctionDef _ _ b _ _ _ _ _ _ _=>b
 | _=>[]
noncomputable def B8 (s:Stmt):Scope:=match s with
 | .FunctionDef _ _ _ _ _ _ sc _ _ _=>sc
 | _=>{ kind:=.function,names:=[],isGenerator:=false,isCoroutine:=false }
abbrev L3:CXT:=fun _ _ _ _ _ _=>False
abbrev E0:XK:=fun _ _ _=>False
theorem Z3h {X:Cx}:Z0n L3 X E0:=fun _ _ _ _ _ _ _ h=>h.elim
structure Q5 (K:Fg9) (x qual:Str) (st:Stmt) (f:Addr) (fd:FuncData):Prop where
 ex:∃(oc:Value) (od:Option Addr) (kV cS pm:Value) (an:Option Addr) (cdv ct:Value) (eg:Array (Option Value)),
  fd=PySem.W.fnOf x qual (Z4 st) (S0 st) (B8 st) .none kV cS pm an cdv ct/\K.lookup f=some ⟨oc,od,.func fd,eg⟩/\PySem.W.codeIn K cdv qual=true
 kp:PySem.W.keepIn K (.ref f)=true
section
variable {P:Program}{w:World}{K:Fg9}{mg:Str->Option Value}{base:Heap}
theorem Q5.ok {x qual:Str}{st:Stmt}{f:Addr}{fd:FuncData}{N ps:List Str}{k:Nat}{sp:Sp} (F:Q5 K x qual st f fd) (S:J4 N ps (B8 st)) (len:∀vs H Q E,sp vs H Q E->vs.length=ps.length)
  (bY:∀(cdv:Value) (A:Around) (outer:List Env) (s:Shared) (H:Hp) (vs:List V) (Q:VK) (E:XK),C5 k (A.deeper (envOfC qual (B8 st) s.heap.objs.size f cdv))->sp vs H Q E ->
   ∃t,PSs (V4 L3 P w K mg base N qual (B8 st) f cdv A outer s H E).nox (S0 st) t/\t { nx:=fun _ H'=>Q .non H',rt:=Q } (start N vs) H):R1 P w K mg base L3 (k+1) f fd ps sp:=by
 obtain⟨oc,od,kV,cS,pm,an,cdv,ct,eg,rfl,lk,ef⟩:=F.ex
 refine Z8n lk ef S len fun A outer s H vs Q E hr g9=>?_
 obtain⟨t,h,q⟩:=bY cdv A outer s H vs Q E hr g9
 exact⟨t,h.nox,q⟩
theorem Q5.binds {x qual:Str}{st:Stmt}{f:Addr}{fd:FuncData}{ps:List Str} (F:Q5 K x qual st f fd)
  (h:∀(kV cS pm:Value) (an:Option Addr) (cdv ct:Value) (us:List Value),us.length=ps.length->bindArgs (PySem.W.fnOf x qual (Z4 st) (S0 st) (B8 st) .none kV cS pm an cdv ct) ⟨us,[]⟩=pure (ps.zip us)):V1 K fd ps []:=by
 obtain⟨oc,od,kV,cS,pm,an,cdv,ct,eg,rfl,lk,ef⟩:=F.ex
 exact .all (h kV cS pm an cdv ct)
theorem Y8b {x qual:Str}{st:Stmt}{f:Addr}{oc:Value}{od an:Option Addr}{eg:Array (Option Value)}{kV cS pm cdv ct:Value} (l:K.lookup f=some ⟨oc,od,.func (PySem.W.fnOf x qual (Z4 st) (S0 st) (B8 st) .none kV cS pm an cdv ct),eg⟩)
  (c:PySem.W.codeIn K cdv qual=true) (k:PySem.W.keepIn K (.ref f)=true):Q5 K x qual st f (PySem.W.fnOf x qual (Z4 st) (S0 st) (B8 st) .none kV cS pm an cdv ct):=⟨⟨oc,od,kV,cS,pm,an,cdv,ct,eg,rfl,l,c⟩,k⟩
end
section
variable {X:Cx}
theorem pv (i:Nat) {x:Str}{pos:Pos} (hN:X.N[i]?=some x:=by rfl) (hv:Vis X.env.scope x:=by first | exact Or.inl rfl | exact Or.inr (Or.inl rfl) | exact Or.inr (Or.inr rfl)) (hd:(x==("__debug__":Str))=false:=by decide)
  (ef:(x==("__classdict__":Str))=false:=by decide):PE X (.Name x pos) (O2 i):=W3f hN hv hd ef
end
def A4 (H H':Hp):Prop:=∀b o,H b=some o->H' b=some o
theorem A4.refl (H:Hp):A4 H H:=fun _ _ h=>h
theorem A4.trans {H H1 H2:Hp} (a:A4 H H1) (b:A4 H1 H2):A4 H H2:=fun c o h=>b c o (a c o h)
theorem A4.free {H H':Hp} (e:A4 H H') {l:Addr} (h:H' l=Option.none):H l=Option.none:=by
 cases q:H l with
 | none=>rfl
 | some o =>
  rw [e l o q]at h
  cases h
theorem A4.seq {K:Fg9}{H H':Hp}{a:Addr}{xs:List V} (e:A4 H H') (h:C9 K H a xs):C9 K H' a xs:=by
 rcases h with(h | ⟨o,h⟩) | h
 ·exact .inl (.inl (e _ _ h))
 ·exact .inl (.inr ⟨o,e _ _ h⟩)
 ·exact .inr h
section
variable {κ:Type} [DecidableEq κ]
end
end L2
end
section
namespace TK
open PySem PySem.Spec PyProof.Rows L2
noncomputable abbrev St:=L2.St
inductive D where
 | non | bl (b:Bool) | int (i:Int) | str (x:Str) | tup (xs:List D) | lst (xs:List D)
def FzL (K:Fg9) (H:Hp) (a:Addr) (xs:List V):Prop :=
 (∃o,H a=some (.frz o (.lst xs))) \/
  ∃(o:Obj) (aS:Array Value) (n:Nat),K.lookup a=some o/\o.cls=.type "list"/\o.dict=none/\o.data=.seq aS n/\aS.size<=sizeLine/\B9 xs aS.toList
theorem FzL.sq {K:Fg9}{H:Hp}{a:Addr}{xs:List V} (h:FzL K H a xs):C9 K H a xs:=by
 rcases h with⟨o,h⟩ | h
 ·exact .inl (.inr ⟨o,h⟩)
 ·exact .inr h
structure Kp (H H':Hp):Prop where
 tup:∀a xs,H a=some (.tup xs)->H' a=some (.tup xs)
 frz:∀a o u,H a=some (.frz o u)->H' a=some (.frz o u)
theorem Kp.refl (H:Hp):Kp H H:=⟨fun _ _ h=>h,fun _ _ _ h=>h⟩
theorem Kp.trans {H H1 H2:Hp} (a:Kp H H1) (b:Kp H1 H2):Kp H H2:=⟨fun c xs h=>b.tup c xs (a.tup c xs h),fun c o u h=>b.frz c o u (a.frz c o u h)⟩
theorem Kp.of {H H':Hp} (s:A4 H H'):Kp H H':=⟨fun a xs h=>s a _ h,fun a o u h=>s a _ h⟩
theorem Kp.upd {H:Hp}{a:Addr}{xs:List V} (h:H a=some (.lst xs)) (o:HO):Kp H (upd H a o) :=
 ⟨fun c ys q=>by rw [B0 (W8 q h (by intro z;cases z))];exact q,fun c ob u q=>by rw [B0 (W8 q h (by intro z;cases z))];exact q⟩
theorem Kp.fzL {K:Fg9}{H H':Hp} (k:Kp H H') {a:Addr}{xs:List V} (h:FzL K H a xs):FzL K H' a xs:=by
 rcases h with⟨o,h⟩ | h
 ·exact .inl ⟨o,k.frz _ _ _ h⟩
 ·exact .inr h
theorem D5 {H:Hp}{p:Addr} (h:H p=none) (o:HO):A4 H (upd H p o):=fun b u q=>by rw [B0 (U7 q h)];exact q
mutual
noncomputable def A1 (K:Fg9) (H:Hp):D->V->Prop
 | .non,v=>v=.non
 | .bl b,v=>v=.bl b
 | .int i,v=>v=.int i
 | .str x,v=>v=.str x
 | .tup ds,v=>∃a xs,v=.ref a/\H a=some (.tup xs)/\AllS K H ds xs
 | .lst ds,v=>∃a xs,v=.ref a/\FzL K H a xs/\AllS K H ds xs
noncomputable def AllS (K:Fg9) (H:Hp):List D->List V->Prop
 | [],vs=>vs=[]
 | d::ds,vs=>∃v r,vs=v::r/\A1 K H d v/\AllS K H ds r
end
section
variable {K:Fg9}{H H' H0:Hp}
mutual
theorem A1.mono (k:Kp H H'):∀(d:D) (v:V),A1 K H d v->A1 K H' d v
 | .non,v,h=>h
 | .bl _,v,h=>h
 | .int _,v,h=>h
 | .str _,v,h=>h
 | .tup ds,v,h=>by
  unfold A1 at h ⊢
  obtain⟨a,xs,e,q,r⟩:=h
  exact⟨a,xs,e,k.tup _ _ q,AllS.mono k ds xs r⟩
 | .lst ds,v,h=>by
  unfold A1 at h ⊢
  obtain⟨a,xs,e,q,r⟩:=h
  exact⟨a,xs,e,k.fzL q,AllS.mono k ds xs r⟩
theorem AllS.mono (k:Kp H H'):∀(ds:List D) (vs:List V),AllS K H ds vs->AllS K H' ds vs
 | [],vs,h=>h
 | d::ds,vs,h=>by
  unfold AllS at h ⊢
  obtain⟨v,r,e,q,t⟩:=h
  exact⟨v,r,e,A1.mono k d v q,AllS.mono k ds r t⟩
end
theorem AllS.length:∀{ds:List D}{vs:List V},AllS K H ds vs->ds.length=vs.length
 | [],vs,h=>by unfold AllS at h;subst h;rfl
 | d::ds,vs,h=>by
  unfold AllS at h
  obtain⟨v,r,e,q,t⟩:=h
  subst e
  rw [az,az,AllS.length t]
theorem AllS.nil:AllS K H [] []:=by unfold AllS;rfl
theorem AllS.cons {d:D}{ds:List D}{v:V}{vs:List V} (h:A1 K H d v) (t:AllS K H ds vs):AllS K H (d::ds) (v::vs):=by
 unfold AllS;exact⟨v,vs,rfl,h,t⟩
theorem AllS.get:∀{ds:List D}{vs:List V}{i:Nat}{d:D},AllS K H ds vs->ds[i]?=some d->∃v,vs[i]?=some v/\A1 K H d v
 | [],_,_,_,_,e=>by simp at e
 | d::ds,vs,0,x,h,e=>by
  unfold AllS at h
  obtain⟨v,r,rfl,q,t⟩:=h
  simp at e;subst e
  exact⟨v,rfl,q⟩
 | d::ds,vs,i+1,x,h,e=>by
  unfold AllS at h
  obtain⟨v,r,rfl,q,t⟩:=h
  obtain⟨u,h1,h2⟩:=AllS.get (i:=i) t (by simpa using e)
  exact⟨u,by simpa using h1,h2⟩
theorem AllS.append:∀{ds es:List D}{vs us:List V},AllS K H ds vs->AllS K H es us->AllS K H (ds++es) (vs++us)
 | [],_,vs,_,h,t=>by unfold AllS at h;subst h;exact t
 | d::ds,es,vs,us,h,t=>by
  unfold AllS at h
  obtain⟨v,r,rfl,q,s⟩:=h
  exact AllS.cons q (AllS.append s t)
theorem AllS.take:∀{ds:List D}{vs:List V} (n:Nat),AllS K H ds vs->AllS K H (ds.take n) (vs.take n)
 | _,_,0,_=>by simp;exact AllS.nil
 | [],vs,n+1,h=>by unfold AllS at h;subst h;simp;exact AllS.nil
 | d::ds,vs,n+1,h=>by
  unfold AllS at h
  obtain⟨v,r,rfl,q,s⟩:=h
  exact AllS.cons q (AllS.take n s)
theorem AllS.drop:∀{ds:List D}{vs:List V} (n:Nat),AllS K H ds vs->AllS K H (ds.drop n) (vs.drop n)
 | _,_,0,h=>h
 | [],vs,n+1,h=>by unfold AllS at h;subst h;simp;exact AllS.nil
 | d::ds,vs,n+1,h=>by
  unfold AllS at h
  obtain⟨v,r,rfl,q,s⟩:=h
  exact AllS.drop n s
theorem AllS.ints {ns:List Int}:AllS K H (ns.map D.int) (ns.map V.int):=by
 induction ns with
 | nil=>exact AllS.nil
 | cons n r ih=>exact AllS.cons (by unfold A1;rfl) ih
theorem A1.s_int {i:Int}:A1 K H (.int i) (.int i):=by unfold A1;rfl
theorem A1.s_bl {i:Bool}:A1 K H (.bl i) (.bl i):=by unfold A1;rfl
theorem A1.s_str {i:Str}:A1 K H (.str i) (.str i):=by unfold A1;rfl
theorem A1.s_non:A1 K H .non .non:=by unfold A1;rfl
theorem A1.s_tup {ds:List D}{a:Addr}{xs:List V} (q:H a=some (.tup xs)) (r:AllS K H ds xs):A1 K H (.tup ds) (.ref a):=by unfold A1;exact⟨a,xs,rfl,q,r⟩
theorem A1.s_lst {ds:List D}{a:Addr}{xs:List V} (q:FzL K H a xs) (r:AllS K H ds xs):A1 K H (.lst ds) (.ref a):=by unfold A1;exact⟨a,xs,rfl,q,r⟩
end
def Q2j (Φ:Hp->Prop):Prop:=∀H H':Hp,Kp H H'->Φ H->Φ H'
inductive R where
 | st (d:D) | nw (ds:List D) | bw (ds:List D) | dk (kvs:List (A7×D)) | dt (kvs:List (List A7×D)) | ob (a:Addr) | cl (a:Addr) (Φ:Hp->Prop) | ms (a C:Addr) (d:D) (fs:List (Str×D))
noncomputable def B4 {κ:Type} (K:Fg9) (H:Hp):List (κ×D)->List (κ×V)->Prop
 | [],vs=>vs=[]
 | p::ps,vs=>∃v r,vs=(p.1,v)::r/\A1 K H p.2 v/\B4 K H ps r
theorem B4.mono {κ:Type}{K:Fg9}{H H':Hp} (k:Kp H H'):∀(ps:List (κ×D)) (vs:List (κ×V)),B4 K H ps vs->B4 K H' ps vs
 | [],_,h=>h
 | p::ps,vs,h=>by
  obtain⟨v,r,e,q,t⟩:=h
  exact⟨v,r,e,q.mono k _ _,B4.mono k ps r t⟩
noncomputable def D9 (K:Fg9) (H0 H:Hp):R->V->Prop
 | .st d,v=>A1 K H d v
 | .nw ds,v=>∃a xs,v=.ref a/\H0 a=none/\H a=some (.lst xs)/\AllS K H ds xs
 | .bw ds,v=>∃a xs,v=.ref a/\H a=some (.lst xs)/\AllS K H ds xs
 | .dk kvs,v=>∃a ps,v=.ref a/\H a=some (.dK ps)/\B4 K H kvs ps
 | .dt kvs,v=>∃a ps,v=.ref a/\H a=some (.dT ps)/\B4 K H kvs ps
 | .ob a,v=>v=.ref a
 | .cl a Φ,v=>v=.ref a/\Φ H/\Q2j Φ
 | .ms a C d fs,v=>A1 K H d v/\∃dx vs,H a=some (.ins C dx vs)/\B4 K H fs vs
theorem D9.mono {K:Fg9}{H0 H H':Hp} (s:A4 H H'):∀{r:R}{v:V},D9 K H0 H r v->D9 K H0 H' r v
 | .st d,v,h=>A1.mono (Kp.of s) d v h
 | .nw ds,v,h=>by obtain⟨a,xs,e,n,q,t⟩:=h;exact⟨a,xs,e,n,s _ _ q,t.mono (Kp.of s) _ _⟩
 | .bw ds,v,h=>by obtain⟨a,xs,e,q,t⟩:=h;exact⟨a,xs,e,s _ _ q,t.mono (Kp.of s) _ _⟩
 | .dk ds,v,h=>by obtain⟨a,xs,e,q,t⟩:=h;exact⟨a,xs,e,s _ _ q,t.mono (Kp.of s) _ _⟩
 | .dt ds,v,h=>by obtain⟨a,xs,e,q,t⟩:=h;exact⟨a,xs,e,s _ _ q,t.mono (Kp.of s) _ _⟩
 | .ob a,v,h=>h
 | .cl a Φ,v,h=>⟨h.1,h.2.2 _ _ (Kp.of s) h.2.1,h.2.2⟩
 | .ms a C d fs,v,h=>by obtain⟨h1,dx,vs,q,t⟩:=h;exact⟨h1.mono (Kp.of s) _ _,dx,vs,s _ _ q,t.mono (Kp.of s) _ _⟩
theorem D9.older {K:Fg9}{H0 H1 H:Hp} (s:A4 H0 H1):∀{r:R}{v:V},D9 K H1 H r v->D9 K H0 H r v
 | .st d,v,h=>h
 | .nw ds,v,h=>by obtain⟨a,xs,e,n,q,t⟩:=h;exact⟨a,xs,e,s.free n,q,t⟩
 | .bw ds,v,h=>h
 | .dk ds,v,h=>h
 | .dt ds,v,h=>h
 | .ob a,v,h=>h
 | .cl _ _,v,h=>h
 | .ms _ _ _ _,v,h=>h
noncomputable def LO (b:Addr) (xs:List V):Heap->Prop:=fun h=>xs.length<=sizeLine/\∃(aS:List Value) (n:Nat),B9 xs aS/\h.get? b=some { cls:=.type "list",data:=.seq aS.toArray n }
noncomputable def J7 (K:Fg9) (H:Hp):List Addr->List (List D)->Prop
 | [],dss=>dss=[]
 | b::bs,dss=>∃ds r,dss=ds::r/\(∃xs,H b=some (.ext (LO b xs))/\AllS K H ds xs)/\J7 K H bs r
def Q4z (K:Fg9) (H0 H:Hp) (a:Addr) (dss:List (List D)):Prop:=∃bs o,H a=some (.frz o (.lst (bs.map V.ref)))/\bs.Nodup/\(∀b∈bs,H0 b=none)/\J7 K H bs dss
theorem J7.keep {K:Fg9}{H H':Hp} (k:Kp H H') (x:∀b φ,H b=some (.ext φ)->H' b=some (.ext φ)):∀{bs:List Addr}{dss:List (List D)},J7 K H bs dss->J7 K H' bs dss
 | [],_,h=>h
 | b::bs,_,h=>by obtain⟨ds,r,e,⟨xs,q,al⟩,t⟩:=h;exact⟨ds,r,e,⟨xs,x _ _ q,al.mono k _ _⟩,J7.keep k x t⟩
theorem Q4z.keep {K:Fg9}{H0 H H':Hp}{a:Addr}{dss:List (List D)} (h:Q4z K H0 H a dss) (k:Kp H H') (x:∀b φ,H b=some (.ext φ)->H' b=some (.ext φ)):Q4z K H0 H' a dss:=by
 obtain⟨bs,o,q,n,f,t⟩:=h
 exact⟨bs,o,k.frz _ _ _ q,n,f,t.keep k x⟩
inductive Sl where
 | dat (d:D) | own (ds:List D) | bor (ds:List D) | dk (kvs:List (A7×D)) | dt (kvs:List (List A7×D)) | bd (kvs:List (List A7×D)) | ob (a:Addr) | cl (a:Addr) (Φ:Hp->Prop) | ll (a:Addr) (dss:List (List D)) | ins (a C:Addr) (fs:List (Str×D))
noncomputable abbrev A8:=List (Option Sl)
noncomputable def Sl.mut:Sl->Bool
 | .own _=>true
 | .dk _=>true
 | .dt _=>true
 | .ins _ _ _=>true
 | _=>false
noncomputable def N5 (K:Fg9) (H0 H:Hp):Sl->V->Prop
 | .dat d,v=>A1 K H d v
 | .own ds,v=>∃a xs,v=.ref a/\H0 a=none/\H a=some (.lst xs)/\AllS K H ds xs
 | .bor ds,v=>∃a xs,v=.ref a/\H0 a=some (.lst xs)/\AllS K H ds xs
 | .dk kvs,v=>∃a ps,v=.ref a/\H0 a=none/\H a=some (.dK ps)/\B4 K H kvs ps
 | .dt kvs,v=>∃a ps,v=.ref a/\H0 a=none/\H a=some (.dT ps)/\B4 K H kvs ps
 | .bd kvs,v=>∃a ps,v=.ref a/\H0 a=some (.dT ps)/\B4 K H kvs ps
 | .ob a,v=>v=.ref a
 | .cl a Φ,v=>v=.ref a/\Φ H/\Q2j Φ
 | .ll a dss,v=>v=.ref a/\Q4z K H0 H a dss
 | .ins a C fs,v=>v=.ref a/\H0 a=none/\∃dx vs,H a=some (.ins C dx vs)/\B4 K H fs vs
theorem N5.mono {K:Fg9}{H0 H H':Hp} (s:A4 H H'):∀{r:Sl}{v:V},N5 K H0 H r v->N5 K H0 H' r v
 | .dat d,v,h=>A1.mono (Kp.of s) d v h
 | .own ds,v,h=>by obtain⟨a,xs,e,n,q,t⟩:=h;exact⟨a,xs,e,n,s _ _ q,t.mono (Kp.of s) _ _⟩
 | .bor ds,v,h=>by obtain⟨a,xs,e,q,t⟩:=h;exact⟨a,xs,e,q,t.mono (Kp.of s) _ _⟩
 | .bd ds,v,h=>by obtain⟨a,xs,e,q,t⟩:=h;exact⟨a,xs,e,q,t.mono (Kp.of s) _ _⟩
 | .dk ds,v,h=>by obtain⟨a,xs,e,n,q,t⟩:=h;exact⟨a,xs,e,n,s _ _ q,t.mono (Kp.of s) _ _⟩
 | .dt ds,v,h=>by obtain⟨a,xs,e,n,q,t⟩:=h;exact⟨a,xs,e,n,s _ _ q,t.mono (Kp.of s) _ _⟩
 | .ob a,v,h=>h
 | .cl a Φ,v,h=>⟨h.1,h.2.2 _ _ (Kp.of s) h.2.1,h.2.2⟩
 | .ll a dss,v,h=>⟨h.1,h.2.keep (Kp.of s) fun b φ q=>s _ _ q⟩
 | .ins a C fs,v,h=>by obtain⟨e,n,dx,vs,q,t⟩:=h;exact⟨e,n,dx,vs,s _ _ q,t.mono (Kp.of s) _ _⟩
structure B5 (K:Fg9) (H0:Hp) (τ:A8) (σ:St) (H:Hp):Prop where
 len:τ.length=σ.length
 same:A4 H0 H
 here:∀(i:Nat) (s:Sl),τ[i]?=some (some s)->∃v,σ[i]?=some (some v)/\N5 K H0 H s v
 apart:∀(i j:Nat) (s t:Sl) (v:V),i≠j->τ[i]?=some (some s)->τ[j]?=some (some t)->s.mut=true->t.mut=true->σ[i]?=some (some v)->σ[j]?=some (some v)->False
theorem B5.mono {K:Fg9}{H0 H H':Hp} {τ:A8} {σ:St} (h:B5 K H0 τ σ H) (s:A4 H H'):B5 K H0 τ σ H' :=
 ⟨h.len,h.same.trans s,fun i sl e=>let ⟨v,q,r⟩:=h.here i sl e;⟨v,q,r.mono s⟩,h.apart⟩
noncomputable abbrev WE:=A8->(R->Prop)->Prop
def Z2o (K:Fg9) (H0:Hp) (w:WE):TE:=fun σ H Q=>∃ τ,B5 K H0 τ σ H/\w τ fun r=>∀v H',A4 H H'->D9 K H H' r v->Q v H'
structure DE (X:Cx) (H0:Hp) (e:Expr) (w:WE):Prop where
 mono:∀(τ:A8) (P Q:R->Prop),(∀r,P r->Q r)->w τ P->w τ Q
 pe:PE X e (Z2o X.K H0 w)
noncomputable abbrev WT:=A8->(Bool->Prop)->Prop
def Z2p (K:Fg9) (H0:Hp) (w:WT):TT:=fun σ H Q=>∃ τ,B5 K H0 τ σ H/\w τ fun b=>∀H',A4 H H'->Q b H'
structure DT (X:Cx) (H0:Hp) (e:Expr) (w:WT):Prop where
 mono:∀(τ:A8) (P Q:Bool->Prop),(∀r,P r->Q r)->w τ P->w τ Q
 pt:PT X e (Z2p X.K H0 w)
structure DW (X:Cx) (H0:Hp) (e:Expr) (w:WT):Prop where
 mono:∀(τ:A8) (P Q:Bool->Prop),(∀r,P r->Q r)->w τ P->w τ Q
 pw:PW X e (Z2p X.K H0 w)
noncomputable abbrev WA:=A8->(List R->Prop)->Prop
noncomputable def M6 (K:Fg9) (H0 H:Hp):List R->List V->Prop
 | [],vs=>vs=[]
 | r::rs,vs=>∃v t,vs=v::t/\D9 K H0 H r v/\M6 K H0 H rs t
def Y9t (K:Fg9) (H0:Hp) (w:WA):TA:=fun σ H Q=>∃ τ,B5 K H0 τ σ H/\w τ fun rs=>∀vs H',A4 H H'->M6 K H H' rs vs->Q vs H'
structure DA (X:Cx) (H0:Hp) (es:List Expr) (w:WA):Prop where
 len:∀(τ:A8) (Q:List R->Prop),w τ Q->w τ fun rs=>rs.length=es.length/\Q rs
 mono:∀(τ:A8) (P Q:List R->Prop),(∀r,P r->Q r)->w τ P->w τ Q
 pa:PA X es (Y9t X.K H0 w)
structure F3 where
 nx:A8->Prop
 rt:R->Prop
 bk:A8->Prop
 ct:A8->Prop
noncomputable abbrev WS:=F3->A8->Prop
structure F3.Le (E F:F3):Prop where
 nx:∀ τ,E.nx τ->F.nx τ
 rt:∀r,E.rt r->F.rt r
 bk:∀ τ,E.bk τ->F.bk τ
 ct:∀ τ,E.ct τ->F.ct τ
noncomputable def K8 (K:Fg9) (H0 Hs:Hp) (D:L4):F3 where
 nx:=fun τ=>∀ σ H,Kp Hs H->B5 K H0 τ σ H->D.nx σ H
 rt:=fun r=>∀v H,A4 H0 H->D9 K H0 H r v->D.rt v H
 bk:=fun τ=>∀ σ H,Kp Hs H->B5 K H0 τ σ H->D.bk σ H
 ct:=fun τ=>∀ σ H,Kp Hs H->B5 K H0 τ σ H->D.ct σ H
theorem Z2n {K:Fg9}{H0 H H1:Hp}{D:L4} (k:Kp H H1):(K8 K H0 H D).Le (K8 K H0 H1 D) :=
 ⟨fun τ h σ H2 k2 hR=>h σ H2 (k.trans k2) hR,fun _ h=>h,fun τ h σ H2 k2 hR=>h σ H2 (k.trans k2) hR,fun τ h σ H2 k2 hR=>h σ H2 (k.trans k2) hR⟩
def Z9q (K:Fg9) (H0:Hp) (w:WS):TS:=fun D σ H=>∃ τ,B5 K H0 τ σ H/\w (K8 K H0 H D) τ
structure DS (X:Cx) (H0:Hp) (st:Stmt) (w:WS):Prop where
 mono:∀(τ:A8) (E F:F3),E.Le F->w E τ->w F τ
 ps:PS X st (Z9q X.K H0 w)
structure A5 (X:Cx) (H0:Hp) (jL:List Stmt) (w:WS):Prop where
 mono:∀(τ:A8) (E F:F3),E.Le F->w E τ->w F τ
 ps:PSs X jL (Z9q X.K H0 w)
theorem N9 {X:Cx}{e:Expr}{t t':TE} (h:PE X e t) (f:∀ σ H Q,t' σ H Q->t σ H Q):PE X e t':=fun ae s σ H Q I q=>h ae s σ H Q I (f σ H Q q)
theorem ptW {X:Cx}{e:Expr}{t t':TT} (h:PT X e t) (f:∀ σ H Q,t' σ H Q->t σ H Q):PT X e t':=fun ae s σ H Q I q=>h ae s σ H Q I (f σ H Q q)
theorem pwW {X:Cx}{e:Expr}{t t':TT} (h:PW X e t) (f:∀ σ H Q,t' σ H Q->t σ H Q):PW X e t':=fun whole ae s σ H Q I q=>h whole ae s σ H Q I (f σ H Q q)
theorem paW {X:Cx}{e:List Expr}{t t':TA} (h:PA X e t) (f:∀ σ H Q,t' σ H Q->t σ H Q):PA X e t':=fun pos ae s σ H Q I q=>h pos ae s σ H Q I (f σ H Q q)
theorem Q0 {X:Cx}{e:Stmt}{t t':TS} (h:PS X e t) (f:∀D σ H,t' D σ H->t D σ H):PS X e t':=fun ae s σ H D I q=>h ae s σ H D I (f D σ H q)
theorem Q8l {X:Cx}{e:List Stmt}{t t':TS} (h:PSs X e t) (f:∀D σ H,t' D σ H->t D σ H):PSs X e t':=fun ae s σ H D I q=>h ae s σ H D I (f D σ H q)
noncomputable abbrev IsV (K:Fg9) (H:Hp):R->V->Prop:=D9 K (fun _=>none) H
theorem D9.v {K:Fg9}{H0 H:Hp}:∀{r:R}{v:V},D9 K H0 H r v->IsV K H r v
 | .st d,v,h=>h
 | .nw ds,v,h=>by obtain⟨a,xs,e,n,q,t⟩:=h;exact⟨a,xs,e,rfl,q,t⟩
 | .bw ds,v,h=>h
 | .dk ds,v,h=>h
 | .dt ds,v,h=>h
 | .ob a,v,h=>h
 | .cl _ _,v,h=>h
 | .ms _ _ _ _,v,h=>h
theorem Q7t {K:Fg9}{H0 H:Hp}{k:Bool}:D9 K H0 H (.st (.bl k)) (.bl k):=A1.s_bl (K:=K) (H:=H)
theorem Z7 {K:Fg9}{H0 H:Hp}{k:Int}:D9 K H0 H (.st (.int k)) (.int k):=A1.s_int (K:=K) (H:=H)
theorem Z2c {K:Fg9}{H0 H:Hp}{k:Str}:D9 K H0 H (.st (.str k)) (.str k):=A1.s_str (K:=K) (H:=H)
section
variable {X:Cx}{H0:Hp}{a b c e:Expr}{pos:Pos}{wa wb wc we:WE}
noncomputable def Q8:Sl->R
 | .dat d=>.st d
 | .own ds=>.bw ds
 | .bor ds=>.bw ds
 | .dk k=>.dk k
 | .dt k=>.dt k
 | .bd k=>.dt k
 | .ob a=>.ob a
 | .cl a Φ=>.cl a Φ
 | .ll a _=>.ob a
 | .ins a _ _=>.ob a
theorem N5.rd {K:Fg9}{H0 H Hs:Hp} (s:A4 H0 H):∀{r:Sl}{v:V},N5 K H0 H r v->D9 K Hs H (Q8 r) v
 | .dat d,v,h=>h
 | .own ds,v,h=>by obtain⟨a,xs,e,n,q,t⟩:=h;exact⟨a,xs,e,q,t⟩
 | .bor ds,v,h=>by obtain⟨a,xs,e,q,t⟩:=h;exact⟨a,xs,e,s _ _ q,t⟩
 | .bd ds,v,h=>by obtain⟨a,xs,e,q,t⟩:=h;exact⟨a,xs,e,s _ _ q,t⟩
 | .dk ds,v,h=>by obtain⟨a,xs,e,n,q,t⟩:=h;exact⟨a,xs,e,q,t⟩
 | .dt ds,v,h=>by obtain⟨a,xs,e,n,q,t⟩:=h;exact⟨a,xs,e,q,t⟩
 | .ob a,v,h=>h
 | .cl _ _,v,h=>h
 | .ll a _,v,h=>h.1
 | .ins a C fs,v,h=>h.1
def wV (i:Nat):WE:=fun τ Q=>∃s,τ[i]?=some (some s)/\Q (Q8 s)
theorem DE.var {i:Nat} (h:PE X e (O2 i)):DE X H0 e (wV i) where
 mono:=fun τ P Q f ⟨s,h1,h2⟩=>⟨s,h1,f _ h2⟩
 pe:=N9 h fun σ H Q ⟨τ,hR,s,h1,h2⟩=>by
  obtain⟨v,hv,q⟩:=hR.here i s h1
  exact⟨v,hv,h2 v H (A4.refl H) (q.rd hR.same)⟩
def wC (d:D):WE:=fun _ Q=>Q (.st d)
theorem DE.con {v:V}{d:D} (h:PE X e (tC v)) (hd:∀K H,A1 K H d v):DE X H0 e (wC d) where
 mono:=fun τ P Q f h=>f _ h
 pe:=N9 h fun σ H Q ⟨τ,hR,h⟩=>h v H (A4.refl H) (hd _ _)
theorem DE.int {i:Int}{j:Nat}:DE X H0 (.Constant (.int i) j pos) (wC (.int i)):=DE.con W2t fun _ _=>A1.s_int
theorem DE.bl {i:Bool}{j:Nat}:DE X H0 (.Constant (.bool i) j pos) (wC (.bl i)):=DE.con W2i fun _ _=>A1.s_bl
theorem DE.str {i:Str}{j:Nat}:DE X H0 (.Constant (.str i) j pos) (wC (.str i)):=DE.con W3d fun _ _=>A1.s_str
noncomputable def fzR:R->(D->Prop)->Prop
 | .st d,Q=>Q d
 | .nw ds,Q=>Q (.lst ds)
 | _,_=>False
theorem A0.freeze {ae:Pn9} {σ:St}{H:Hp}{s:Shared}{x:Addr}{xs:List V} (I:A0 X ae σ H s) (h:H x=some (.lst xs)):∃o,A0 X ae σ (upd H x (.frz o (.lst xs))) s:=by
 obtain⟨z,aS,n,r,q⟩:=I.hok x _ h
 refine⟨_,I.write (t':=s.toks) (h':=s.heap) (e:=x) (o:=.frz { cls:=.type "list",data:=.seq aS.toArray n } (.lst xs)) (by rw [h];trivial) (.inl rfl) (fun b u _ k=>k) ⟨_,q⟩ ?_⟩
 exact⟨q,z,aS,n,r,q⟩
theorem DE.fz (h:DE X H0 e we):DE X H0 e (fun τ Q=>we τ fun r=>fzR r fun d=>Q (.st d)) where
 mono:=fun τ P Q f h'=>h.mono τ _ _ (fun r q=>by
  cases r <;> first | exact f _ q | exact q) h'
 pe:=by
  intro ae s σ H Q I ⟨τ,hR,hw⟩
  refine B2 (h.pe ae s σ H (fun v H'=>A4 H H'/\∃r,D9 X.K H H' r v/\fzR r fun d=>∀v H',A4 H H'->A1 X.K H' d v->Q v H') I ⟨τ,hR,h.mono τ _ _ (fun r q v H' sm ir=>⟨sm,r,ir,q⟩) hw⟩) ?_
  rintro u s1 ⟨v,H1,I1,rv,sm,r,ir,q⟩
  cases r with
  | st d=>exact⟨v,H1,I1,rv,q v H1 sm ir⟩
  | nw ds =>
   obtain⟨p,xs,rfl,hn,hp,al⟩:=ir
   obtain⟨o,I2⟩:=A0.freeze I1 hp
   refine⟨.ref p,_,I2,rv,q _ _ (fun b ob hb=>?_) (A1.s_lst (.inl ⟨o,upd_same⟩) (al.mono (Kp.upd hp _) _ _))⟩
   rw [B0 (U7 hb hn)]
   exact sm b ob hb
  | bw _=>exact q.elim
  | dk _=>exact q.elim
  | dt _=>exact q.elim
  | ob _=>exact q.elim
  | cl _ _=>exact q.elim
  | ms _ _ _ _=>exact q.elim
theorem two (ha:DE X H0 a wa) (hb:DE X H0 b wb) {τ:A8} {σ:St}{H:Hp} (hR:B5 X.K H0 τ σ H) {F:R->R->Prop} (h:wa τ fun x=>wb τ fun y=>F x y) {G:V->V->Hp->Prop}
  (hG:∀x y v u H',A4 H H'->D9 X.K H H' x v->D9 X.K H H' y u->F x y->G v u H'):Z2o X.K H0 wa σ H fun v H1=>Z2o X.K H0 wb σ H1 fun u H2=>G v u H2 :=
 ⟨τ,hR,ha.mono τ _ _ (fun x hx v H1 s1 r1=>⟨τ,hR.mono s1,hb.mono τ _ _ (fun y hy u H2 s2 r2=>hG x y v u H2 (s1.trans s2) (r1.mono s2) (r2.older s1) hy) hx⟩) h⟩
def OpD (X:Cx) (f:Value->Value->Sem Value) (g:R->R->(R->Prop)->Prop):Prop :=
 P4 X f (fun x y H Q=>∃r1 r2,IsV X.K H r1 x/\IsV X.K H r2 y/\g r1 r2 fun r=>∀v H',A4 H H'->D9 X.K H H' r v->Q v H')
def X6 {α:Type} (g:R->R->(α->Prop)->Prop):Prop:=∀x y (P Q:α->Prop),(∀r,P r->Q r)->g x y P->g x y Q
noncomputable def A6 {α:Type} (g:R->R->(α->Prop)->Prop) (wa wb:WE):A8->(α->Prop)->Prop:=fun τ Q=>wa τ fun x=>wb τ fun y=>g x y Q
theorem DE.op {op:Operator}{g:R->R->(R->Prop)->Prop} (ho:OpD X (binaryOp op) g) (mg:X6 g) (ha:DE X H0 a wa) (hb:DE X H0 b wb):DE X H0 (.BinOp a op b pos) (A6 g wa wb) where
 mono:=fun τ P Q f h=>ha.mono τ _ _ (fun x h=>hb.mono τ _ _ (fun y h=>mg x y P Q f h) h) h
 pe:=N9 (W2z ho ha.pe hb.pe) fun σ H Q ⟨τ,hR,h⟩=>two ha hb hR h fun x y v u H' sm rx ry q =>
  ⟨x,y,rx.v,ry.v,mg x y _ _ (fun r q v dh s2 ir=>q v dh (sm.trans s2) (ir.older sm)) q⟩
def X5 (X:Cx) (op:CmpOp) (g:R->R->(Bool->Prop)->Prop):Prop :=
 P4 X (compareOp op) (fun x y H Q=>∃r1 r2,IsV X.K H r1 x/\IsV X.K H r2 y/\g r1 r2 fun k=>Q (.bl k) H)
theorem DE.cmp {op:CmpOp}{g:R->R->(Bool->Prop)->Prop} (ho:X5 X op g) (mg:X6 g) (ha:DE X H0 a wa) (hb:DE X H0 b wb) (hm:behindInMarks op b=false) :
  DE X H0 (.Compare a [op] [b] pos) (fun τ Q=>A6 g wa wb τ fun k=>Q (.st (.bl k))) where
 mono:=fun τ P Q f h=>ha.mono τ _ _ (fun x h=>hb.mono τ _ _ (fun y h=>mg x y _ _ (fun k q=>f _ q) h) h) h
 pe:=N9 (W2l ho ha.pe hb.pe hm) fun σ H Q ⟨τ,hR,h⟩=>two ha hb hR h fun x y v u H' sm rx ry q =>
  ⟨x,y,rx.v,ry.v,mg x y _ _ (fun r q=>q _ _ sm Q7t) q⟩
theorem DT.cmp {op:CmpOp}{g:R->R->(Bool->Prop)->Prop} (ho:X5 X op g) (mg:X6 g) (ha:DE X H0 a wa) (hb:DE X H0 b wb) (hm:behindInMarks op b=false) :
  DT X H0 (.Compare a [op] [b] pos) (A6 g wa wb) where
 mono:=fun τ P Q f h=>ha.mono τ _ _ (fun x h=>hb.mono τ _ _ (fun y h=>mg x y _ _ (fun k q=>f _ q) h) h) h
 pt:=ptW (W3x ho ha.pe hb.pe hm) fun σ H Q ⟨τ,hR,h⟩=>two ha hb hR h fun x y v u H' sm rx ry q =>
  ⟨x,y,rx.v,ry.v,mg x y _ _ (fun r q=>⟨r,rfl,q _ sm⟩) q⟩
noncomputable def Q2e:R->(Bool->Prop)->Prop
 | .st .non,Q=>Q false
 | .st (.bl b),Q=>Q b
 | .st (.int i),Q=>Q (i != 0)
 | .st (.str x),Q=>x.length<=sizeLine/\Q ((x.length:Int) != 0)
 | .st (.tup ds),Q=>Q (!ds.isEmpty)
 | .st (.lst ds),Q=>Q (!ds.isEmpty)
 | .nw ds,Q=>Q (!ds.isEmpty)
 | .bw ds,Q=>Q (!ds.isEmpty)
 | .dk kvs,Q=>Q (!kvs.isEmpty)
 | .dt _,_=>False
 | .ob _,_=>False
 | .cl _ _,_=>False
 | .ms _ _ _ _,_=>False
theorem AllS.empty {K:Fg9}{H:Hp}{ds:List D}{xs:List V} (h:AllS K H ds xs):ds.isEmpty=xs.isEmpty:=by
 have:=h.length
 cases ds <;> cases xs <;> simp_all
theorem W8f (r:R) (P Q:Bool->Prop) (f:∀r,P r->Q r) (h:Q2e r P):Q2e r Q:=by
 unfold Q2e at h ⊢
 split at h <;> first | exact f _ h | exact⟨h.1,f _ h.2⟩ | exact h
theorem W8i {K:Fg9}{H:Hp}{r:R}{v:V} (ir:IsV K H r v) {Q:Bool->Prop} (h:Q2e r Q):∃k,Z0p K v H k/\Q k:=by
 cases r with
 | st d =>
  cases d with
  | non=>cases (show v=.non from ir);exact⟨_,rfl,h⟩
  | bl b=>cases (show v=.bl b from ir);exact⟨_,rfl,h⟩
  | int b=>cases (show v=.int b from ir);exact⟨_,rfl,h⟩
  | str b=>cases (show v=.str b from ir);exact⟨_,⟨h.1,rfl⟩,h.2⟩
  | tup ds =>
   have ir:A1 K H (.tup ds) v:=ir
   unfold A1 at ir
   obtain⟨p,xs,rfl,q,al⟩:=ir
   exact⟨_,.inr (.inl ⟨xs,C0.of q,rfl⟩),by rw [<- al.empty];exact h⟩
  | lst ds =>
   have ir:A1 K H (.lst ds) v:=ir
   unfold A1 at ir
   obtain⟨p,xs,rfl,q,al⟩:=ir
   exact⟨_,.inl ⟨xs,q.sq,rfl⟩,by rw [<- al.empty];exact h⟩
 | nw ds=>obtain⟨p,xs,rfl,_,q,al⟩:=ir;exact⟨_,.inl ⟨xs,C9.of q,rfl⟩,by rw [<- al.empty];exact h⟩
 | bw ds=>obtain⟨p,xs,rfl,q,al⟩:=ir;exact⟨_,.inl ⟨xs,C9.of q,rfl⟩,by rw [<- al.empty];exact h⟩
 | dk ds =>
  obtain⟨p,xs,rfl,q,al⟩:=ir
  refine⟨_,.inr (.inr ⟨xs,q,rfl⟩),?_⟩
  cases ds with
  | nil=>cases (show xs=[]from al);exact h
  | cons d ds=>obtain⟨v,r,rfl,_⟩:=al;exact h
 | dt _=>exact h.elim
 | ob _=>exact h.elim
 | cl _ _=>exact h.elim
 | ms _ _ _ _=>exact h.elim
theorem DT.tru (ha:DE X H0 a wa) (he:∀whole,isTrue a X.env whole=(do let v <- whole;standAt a.pos;holding [v] (truthy v))):DT X H0 a (fun τ Q=>wa τ fun r=>Q2e r Q) where
 mono:=fun τ P Q f h=>ha.mono τ _ _ (fun x h=>W8f x P Q f h) h
 pt:=ptW (W3z ha.pe he) fun σ H Q ⟨τ,hR,h⟩=>⟨τ,hR,ha.mono τ _ _ (fun r q v H' sm ir=>by
  obtain⟨k,h1,h2⟩:=W8i ir.v q
  exact⟨k,h1,h2 H' sm⟩) h⟩
variable {ta tb tc:WT}{rest:List Expr}
def Q9m (t u:WT):WT:=fun τ Q=>t τ fun k=>if k=true then u τ Q else Q false
def Q4v (t:WT):WT:=fun τ Q=>t τ fun k=>Q (!k)
theorem Z8 {c A B A' B':Prop} [Decidable c] (f:A->A') (g:B->B') (h:if c then A else B):if c then A' else B':=by
 split at h
 ·rename_i hc;rw [aI hc];exact f h
 ·rename_i hc;rw [aD hc];exact g h
theorem DW.and1 (ha:DT X H0 a ta):DW X H0 (.BoolOp .And [a] pos) ta:=⟨ha.mono,W4b ha.pt⟩
theorem DW.and (ha:DT X H0 a ta) (hb:DW X H0 (.BoolOp .And (b::rest) pos) tb):DW X H0 (.BoolOp .And (a::b::rest) pos) (Q9m ta tb) where
 mono:=fun τ P Q f h=>ha.mono τ _ _ (fun k h=>Z8 (hb.mono τ _ _ f) (f _) h) h
 pw:=pwW (W4a ha.pt hb.pw) fun σ H Q ⟨τ,hR,h⟩=>⟨τ,hR,ha.mono τ _ _ (fun k q H1 s1 =>
  Z8 (fun h=>⟨τ,hR.mono s1,hb.mono τ _ _ (fun k q H2 s2=>q H2 (s1.trans s2)) h⟩) (fun h=>h H1 s1) q) h⟩
theorem DW.t (h:DW X H0 a ta):DT X H0 a ta:=⟨h.mono,h.pw.pt⟩
theorem DT.nt (ha:DT X H0 a ta):DT X H0 (.UnaryOp .Not a pos) (Q4v ta) where
 mono:=fun τ P Q f h=>ha.mono τ _ _ (fun k h=>f _ h) h
 pt:=ptW (W3y ha.pt) fun σ H Q ⟨τ,hR,h⟩=>⟨τ,hR,h⟩
noncomputable def blR:R->(Bool->Prop)->Prop
 | .st (.bl b),Q=>Q b
 | _,_=>False
theorem Q3q {r:R}{P:Bool->Prop} (h:blR r P):∃k,r=.st (.bl k)/\P k:=by
 unfold blR at h
 split at h
 ·exact⟨_,rfl,h⟩
 ·exact h.elim
def Q0q (wa wb:WE):WE:=fun τ Q=>wa τ fun r=>blR r fun k=>if k=true then wb τ Q else Q (.st (.bl false))
def Q2g (wa wb:WE):WE:=fun τ Q=>wa τ fun r=>blR r fun k=>if k=true then Q (.st (.bl true))else wb τ Q
def Q0r (wa:WE):WE:=fun τ Q=>wa τ fun r=>blR r fun k=>Q (.st (.bl (!k)))
theorem DE.and1 (ha:DE X H0 a wa):DE X H0 (.BoolOp .And [a] pos) wa:=⟨ha.mono,Y1k ha.pe⟩
theorem DE.or1 (ha:DE X H0 a wa):DE X H0 (.BoolOp .Or [a] pos) wa:=⟨ha.mono,Y1k ha.pe⟩
theorem DE.and (ha:DE X H0 a wa) (hb:DE X H0 (.BoolOp .And (b::rest) pos) wb):DE X H0 (.BoolOp .And (a::b::rest) pos) (Q0q wa wb) where
 mono:=fun τ P Q f h=>ha.mono τ _ _ (fun r h=>by
  obtain⟨k,rfl,h⟩:=Q3q h
  exact Z8 (hb.mono τ _ _ f) (f _) h) h
 pe:=N9 (W2h ha.pe hb.pe) fun σ H Q ⟨τ,hR,h⟩=>⟨τ,hR,ha.mono τ _ _ (fun r h v H1 s1 ir=>by
  obtain⟨k,rfl,h⟩:=Q3q h
  refine⟨k,ir,Z8 (fun h=>⟨τ,hR.mono s1,hb.mono τ _ _ (fun r q u H2 s2 iu=>q u H2 (s1.trans s2) (iu.older s1)) h⟩) (fun h=>h _ _ s1 Q7t) h⟩) h⟩
theorem DE.or (ha:DE X H0 a wa) (hb:DE X H0 (.BoolOp .Or (b::rest) pos) wb):DE X H0 (.BoolOp .Or (a::b::rest) pos) (Q2g wa wb) where
 mono:=fun τ P Q f h=>ha.mono τ _ _ (fun r h=>by
  obtain⟨k,rfl,h⟩:=Q3q h
  exact Z8 (f _) (hb.mono τ _ _ f) h) h
 pe:=N9 (W3a ha.pe hb.pe) fun σ H Q ⟨τ,hR,h⟩=>⟨τ,hR,ha.mono τ _ _ (fun r h v H1 s1 ir=>by
  obtain⟨k,rfl,h⟩:=Q3q h
  refine⟨k,ir,Z8 (fun h=>h _ _ s1 Q7t) (fun h=>⟨τ,hR.mono s1,hb.mono τ _ _ (fun r q u H2 s2 iu=>q u H2 (s1.trans s2) (iu.older s1)) h⟩) h⟩) h⟩
theorem DE.nt (ha:DE X H0 a wa):DE X H0 (.UnaryOp .Not a pos) (Q0r wa) where
 mono:=fun τ P Q f h=>ha.mono τ _ _ (fun r h=>by
  obtain⟨k,rfl,h⟩:=Q3q h
  exact f _ h) h
 pe:=N9 (W2x ha.pe) fun σ H Q ⟨τ,hR,h⟩=>⟨τ,hR,ha.mono τ _ _ (fun r h v H1 s1 ir=>by
  obtain⟨k,rfl,h⟩:=Q3q h
  exact⟨k,ir,h _ _ s1 Q7t⟩) h⟩
variable {es:List Expr}{wr:WA}
def A3:WA:=fun _ Q=>Q []
def A2 (we:WE) (wr:WA):WA:=fun τ Q=>we τ fun r=>wr τ fun rs=>Q (r::rs)
theorem M6.older {K:Fg9}{H0 H1 H:Hp} (s:A4 H0 H1):∀{rs:List R}{vs:List V},M6 K H1 H rs vs->M6 K H0 H rs vs
 | [],_,h=>h
 | r::rs,_,h=>by obtain⟨v,t,e,q,z⟩:=h;exact⟨v,t,e,q.older s,M6.older s z⟩
theorem DA.nil:DA X H0 [] A3:=⟨fun τ Q h=>⟨rfl,h⟩,fun τ P Q f h=>f _ h,paW Q6f fun σ H Q ⟨τ,hR,h⟩=>h [] H (A4.refl H) rfl⟩
theorem DA.cons (ha:DE X H0 e we) (hr:DA X H0 es wr) (hs:starEach (e::es) X.env=(false,eval e X.env)::starEach es X.env:=by rfl):DA X H0 (e::es) (A2 we wr) where
 len:=fun τ Q h=>ha.mono τ _ _ (fun r h=>hr.mono τ _ _ (fun rs h=>⟨by rw [az,az,h.1],h.2⟩) (hr.len τ _ h)) h
 mono:=fun τ P Q f h=>ha.mono τ _ _ (fun r h=>hr.mono τ _ _ (fun rs h=>f _ h) h) h
 pa:=paW (Q4e ha.pe hr.pa hs) fun σ H Q ⟨τ,hR,h⟩=>⟨τ,hR,ha.mono τ _ _ (fun r h v H1 s1 ir=>⟨τ,hR.mono s1,hr.mono τ _ _ (fun rs h vs H2 s2 cq =>
  h (v::vs) H2 (s1.trans s2) ⟨v,vs,rfl,ir.mono s2,cq.older s1⟩) h⟩) h⟩
noncomputable def Y9:List R->Option (List D)
 | []=>some []
 | .st d::rs=>(Y9 rs).map (d::·)
 | _::_=>none
theorem Z3w {K:Fg9}{H0 H:Hp}:∀{rs:List R}{ds:List D}{vs:List V},Y9 rs=some ds->M6 K H0 H rs vs->AllS K H ds vs
 | [],ds,vs,h,q=>by cases h;cases q;exact AllS.nil
 | .st d::rs,ds,vs,h,q=>by
  obtain⟨v,t,rfl,iv,z⟩:=q
  unfold Y9 at h
  cases e:Y9 rs with
  | none=>rw [e]at h;cases h
  | some es=>rw [e]at h;cases h;exact AllS.cons iv (Z3w e z)
 | .nw _::_,_,_,h,_=>by cases h
 | .bw _::_,_,_,h,_=>by cases h
 | .dk _::_,_,_,h,_=>by cases h
 | .dt _::_,_,_,h,_=>by cases h
 | .ob _::_,_,_,h,_=>by cases h
 | .cl _ _::_,_,_,h,_=>by cases h
 | .ms _ _ _ _::_,_,_,h,_=>by cases h
def T6 (wr:WA):WE:=fun τ Q=>wr τ fun rs=>∃ds,Y9 rs=some ds/\ds.length<=sizeLine/\Q (.st (.tup ds))
def N2 (wr:WA):WE:=fun τ Q=>wr τ fun rs=>∃ds,Y9 rs=some ds/\ds.length<=sizeLine/\Q (.nw ds)
theorem DE.tup {k:Nat} (h:DA X H0 es wr):DE X H0 (.Tuple es k pos) (T6 wr) where
 mono:=fun τ P Q f h'=>h.mono τ _ _ (fun rs ⟨ds,e,l,q⟩=>⟨ds,e,l,f _ q⟩) h'
 pe:=N9 (W3e h.pa) fun σ H Q ⟨τ,hR,h'⟩=>⟨τ,hR,h.mono τ _ _ (fun rs ⟨ds,e,l,q⟩ vs H1 s1 cq=>by
  have al:=Z3w e cq
  refine⟨by rw [<- al.length];exact l,fun p hp=>q _ _ (s1.trans (D5 hp _)) (A1.s_tup upd_same (al.mono (Kp.of (D5 hp _)) _ _))⟩) h'⟩
theorem DE.lst (h:DA X H0 es wr):DE X H0 (.List es pos) (N2 wr) where
 mono:=fun τ P Q f h'=>h.mono τ _ _ (fun rs ⟨ds,e,l,q⟩=>⟨ds,e,l,f _ q⟩) h'
 pe:=N9 (W2w h.pa) fun σ H Q ⟨τ,hR,h'⟩=>⟨τ,hR,h.mono τ _ _ (fun rs ⟨ds,e,l,q⟩ vs H1 s1 cq=>by
  have al:=Z3w e cq
  refine⟨by rw [<- al.length];exact l,fun p hp=>q _ _ (s1.trans (D5 hp _)) ⟨p,vs,rfl,s1.free hp,upd_same,al.mono (Kp.of (D5 hp _)) _ _⟩⟩) h'⟩
end
theorem Z5 {α:Type}{l:List (Option α)}{i:Nat}{x:Option α} (h:i<l.length):(l.set i x)[i]?=some x:=by simp [h]
theorem B5.set {K:Fg9}{H0 H:Hp} {τ:A8} {σ:St}{i:Nat}{s:Sl}{v:V} (h:B5 K H0 τ σ H) (q:N5 K H0 H s v)
  (ap:s.mut=true->∀(j:Nat) (t:Sl),j≠i->τ[j]?=some (some t)->t.mut=true->σ[j]?≠some (some v)):B5 K H0 (τ.set i (some s)) (σ.set i (some v)) H where
 len:=by rw [bJ,bJ];exact h.len
 same:=h.same
 here:=fun j t e=>by
  by_cases hj:j=i
  ·subst hj
   by_cases hl:j<τ.length
   ·rw [Z5 hl]at e
    cases e
    exact⟨v,Z5 (by rw [<- h.len];exact hl),q⟩
   ·rw [aH.mpr (by rw [bJ];omega)]at e;cases e
  ·rw [aF (fun z=>hj z.symm)]at e ⊢
   exact h.here j t e
 apart:=fun j k s1 s2 u cA e1 e2 m1 m2 q1 q2=>by
  by_cases hj:j=i
  ·subst hj
   have hk:k≠j:=fun z=>cA z.symm
   by_cases hl:j<τ.length
   ·rw [Z5 hl]at e1
    cases e1
    rw [Z5 (by rw [<- h.len];exact hl)]at q1
    cases q1
    rw [aF (fun z=>hk z.symm)]at e2 q2
    exact ap m1 k s2 hk e2 m2 q2
   ·rw [aH.mpr (by rw [bJ];omega)]at e1;cases e1
  ·by_cases hk:k=i
   ·subst hk
    by_cases hl:k<τ.length
    ·rw [Z5 hl]at e2
     cases e2
     rw [Z5 (by rw [<- h.len];exact hl)]at q2
     cases q2
     rw [aF (fun z=>hj z.symm)]at e1 q1
     exact ap m2 j s1 hj e1 m1 q1
    ·rw [aH.mpr (by rw [bJ];omega)]at e2;cases e2
   ·rw [aF (fun z=>hj z.symm)]at e1 q1
    rw [aF (fun z=>hk z.symm)]at e2 q2
    exact h.apart j k s1 s2 u cA e1 e2 m1 m2 q1 q2
theorem B5.tracked {K:Fg9}{H0 H:Hp} {τ:A8} {σ:St}{j:Nat}{t:Sl}{p:Addr} (h:B5 K H0 τ σ H) (e:τ[j]?=some (some t)) (m:t.mut=true) (q:σ[j]?=some (some (.ref p))):∃o,H p=some o:=by
 obtain⟨v,hv,r⟩:=h.here j t e
 rw [q]at hv;cases hv
 cases t with
 | dat _=>cases m
 | bor _=>cases m
 | bd _=>cases m
 | own ds=>obtain⟨a,xs,e,_,q,_⟩:=r;cases e;exact⟨_,q⟩
 | dk ds=>obtain⟨a,xs,e,_,q,_⟩:=r;cases e;exact⟨_,q⟩
 | dt ds=>obtain⟨a,xs,e,_,q,_⟩:=r;cases e;exact⟨_,q⟩
 | ob _=>cases m
 | cl _ _=>cases m
 | ll _ _=>cases m
 | ins _ _ _=>obtain⟨e,_,dx,xs,q,_⟩:=r;cases e;exact⟨_,q⟩
noncomputable def Q0p:R->(Sl->Prop)->Prop
 | .st d,Q=>Q (.dat d)
 | .nw ds,Q=>Q (.own ds)
 | _,_=>False
theorem W7k {r:R}{P:Sl->Prop} (h:Q0p r P):∃s,P s/\((∃d,r=.st d/\s=.dat d)\/∃ds,r=.nw ds/\s=.own ds):=by
 cases r with
 | st d=>exact⟨_,h,.inl ⟨d,rfl,rfl⟩⟩
 | nw ds=>exact⟨_,h,.inr ⟨ds,rfl,rfl⟩⟩
 | bw _=>exact h.elim
 | dk _=>exact h.elim
 | dt _=>exact h.elim
 | ob _=>exact h.elim
 | cl _ _=>exact h.elim
 | ms _ _ _ _=>exact h.elim
theorem Z4f {r:R}{P Q:Sl->Prop} (f:∀s,P s->Q s) (h:Q0p r P):Q0p r Q:=by
 cases r <;> first | exact f _ h | exact h
theorem B5.store {K:Fg9}{H0 H H1:Hp} {τ:A8} {σ:St}{i:Nat}{r:R}{v:V} (h:B5 K H0 τ σ H) (sm:A4 H H1) (ir:D9 K H H1 r v) {P:Sl->Prop} (st:Q0p r P):∃s,P s/\B5 K H0 (τ.set i (some s)) (σ.set i (some v)) H1:=by
 obtain⟨s,p,⟨d,rfl,rfl⟩ | ⟨ds,rfl,rfl⟩⟩:=W7k st
 ·exact⟨_,p,(h.mono sm).set ir fun m=>by cases m⟩
 ·obtain⟨a,xs,rfl,hn,ha,al⟩:=ir
  refine⟨_,p,(h.mono sm).set ⟨a,xs,rfl,h.same.free hn,ha,al⟩ fun _ j t hj e m q=>?_⟩
  obtain⟨o,ho⟩:=h.tracked e m q
  rw [hn]at ho;cases ho
section
variable {X:Cx}{H0:Hp}{a b c e:Expr}{pos bF:Pos}{wa wb we:WE}{tc:WT}{st:Stmt}{jL:List Stmt}{ws wt:WS}
def V0:WS:=fun E τ=>E.nx τ
def B3 (t u:WS):WS:=fun E τ=>t { E with nx:=u E } τ
theorem A5.nil:A5 X H0 [] V0:=⟨fun τ E F le h=>le.nx τ h,Q8l W3w fun D σ H ⟨τ,hR,h⟩=>h σ H (Kp.refl H) hR⟩
theorem A5.cons (h1:DS X H0 st ws) (h2:A5 X H0 jL wt):A5 X H0 (st::jL) (B3 ws wt) where
 mono:=fun τ E F le h=>h1.mono τ { E with nx:=wt E } { F with nx:=wt F } ⟨fun τ' h=>h2.mono τ' E F le h,le.rt,le.bk,le.ct⟩ h
 ps:=Q8l (Y1q h1.ps h2.ps) fun D σ H ⟨τ,hR,h⟩=>⟨τ,hR,h1.mono τ { K8 X.K H0 H D with nx:=wt (K8 X.K H0 H D) } _ ⟨fun τ' h σ' H' k cM=>⟨τ',cM,h2.mono τ' _ _ (Z2n k) h⟩,fun _ h=>h,fun _ h=>h,fun _ h=>h⟩ h⟩
theorem A5.one (h1:DS X H0 st ws):A5 X H0 [st] ws:=⟨h1.mono,Q8l (Y1r h1.ps) fun D σ H h=>h⟩
def U9 (t:WT) (ws wt:WS):WS:=fun E τ=>t τ fun k=>if k=true then ws E τ else wt E τ
theorem DS.ife {sa sb:List Stmt} (hc:DT X H0 c tc) (ha:A5 X H0 sa ws) (hb:A5 X H0 sb wt):DS X H0 (.If c sa sb pos) (U9 tc ws wt) where
 mono:=fun τ E F le h=>hc.mono τ _ _ (fun k h=>Z8 (ha.mono τ E F le) (hb.mono τ E F le) h) h
 ps:=Q0 (W3u hc.pt ha.ps hb.ps) fun D σ H ⟨τ,hR,h⟩=>⟨τ,hR,hc.mono τ _ _ (fun k h H1 s1 =>
  Z8 (fun h=>⟨τ,hR.mono s1,ha.mono τ _ _ (Z2n (Kp.of s1)) h⟩) (fun h=>⟨τ,hR.mono s1,hb.mono τ _ _ (Z2n (Kp.of s1)) h⟩) h) h⟩
noncomputable def Q4g:R->(R->Prop)->Prop
 | .st d,Q=>Q (.st d)
 | .nw ds,Q=>Q (.nw ds)
 | _,_=>False
theorem W5h {r:R}{P:R->Prop} (h:Q4g r P):P r:=by
 cases r <;> first | exact h | exact h.elim
theorem W5g {r:R}{P Q:R->Prop} (f:∀s,P s->Q s) (h:Q4g r P):Q4g r Q:=by
 cases r <;> first | exact f _ h | exact h
def N3 (we:WE):WS:=fun E τ=>we τ fun r=>Q4g r E.rt
theorem DS.ret (he:DE X H0 e we):DS X H0 (.Return (some e) pos) (N3 we) where
 mono:=fun τ E F le h=>he.mono τ _ _ (fun r h=>W5g le.rt h) h
 ps:=Q0 (Z3k he.pe) fun D σ H ⟨τ,hR,h⟩=>⟨τ,hR,he.mono τ _ _ (fun r h v H1 s1 ir=>W5h (P:=(K8 X.K H0 H D).rt) h v H1 (hR.same.trans s1) (ir.older hR.same)) h⟩
noncomputable def Q3d:Sl->(R->Prop)->Prop
 | .dat d,Q=>Q (.st d)
 | .own ds,Q=>Q (.nw ds)
 | _,_=>False
theorem DS.retV {i:Nat} (he:PE X e (O2 i)):DS X H0 (.Return (some e) pos) (fun E τ=>∃s,τ[i]?=some (some s)/\Q3d s E.rt) where
 mono:=fun τ E F le ⟨s,h1,h2⟩=>⟨s,h1,by cases s <;> first | exact le.rt _ h2 | exact h2⟩
 ps:=Q0 (Z3k he) fun D σ H ⟨τ,hR,s,h1,h2⟩=>by
  obtain⟨v,hv,q⟩:=hR.here i s h1
  refine⟨v,hv,?_⟩
  cases s with
  | dat d=>exact h2 v H hR.same q
  | own ds=>exact h2 v H hR.same q
  | bor _=>exact h2.elim
  | bd _=>exact h2.elim
  | dk _=>exact h2.elim
  | dt _=>exact h2.elim
  | ob _=>exact h2.elim
  | cl _ _=>exact h2.elim
  | ll _ _=>exact h2.elim
  | ins _ _ _=>exact h2.elim
def C3 (i:Nat) (we:WE):WS:=fun E τ=>we τ fun r=>Q0p r fun s=>E.nx (τ.set i (some s))
theorem DS.set {i:Nat}{x:Str} (he:DE X H0 e we) (hN:X.N.Nodup) (hi:X.N[i]?=some x) (hx:Loc X.env.scope x) (hs:swapsWith e (some (.Name x bF)) pos.line X.env=pure false:=by rfl)
  (hf:X.fn x=true\/X.env.scope.names.lookup x=some .local:=by first | exact .inl rfl | exact .inr rfl | assumption):DS X H0 (.Assign [.Name x bF] e pos) (C3 i we) where
 mono:=fun τ E F le h=>he.mono τ _ _ (fun r h=>Z4f (fun s h=>le.nx _ h) h) h
 ps:=Q0 (Q3f hN hi hx he.pe hs hf) fun D σ H ⟨τ,hR,h⟩=>⟨τ,hR,he.mono τ _ _ (fun r h v H1 s1 ir=>by
  obtain⟨s,p,cM⟩:=hR.store (i:=i) s1 ir h
  exact p _ _ (Kp.of s1) cM) h⟩
noncomputable def K6 (t:WT) (wb:WS):Nat->WS
 | 0=>fun _ _=>False
 | n+1=>fun E τ=>t τ fun k=>if k=true then wb { E with nx:=K6 t wb n E,ct:=K6 t wb n E,bk:=E.nx } τ else E.nx τ
def Q6v (t:WT) (wb:WS):WS:=fun E τ=>∃n,K6 t wb n E τ
theorem Z5y (ht:∀(τ:A8) (P Q:Bool->Prop),(∀r,P r->Q r)->tc τ P->tc τ Q) (hb:∀(τ:A8) (E F:F3),E.Le F->ws E τ->ws F τ) :
  ∀(n:Nat) (τ:A8) (E F:F3),E.Le F->K6 tc ws n E τ->K6 tc ws n F τ
 | 0,_,_,_,_,h=>h
 | n+1,τ,E,F,le,h=>ht τ _ _ (fun k h=>Z8 (hb τ { E with nx:=K6 tc ws n E,ct:=K6 tc ws n E,bk:=E.nx } { F with nx:=K6 tc ws n F,ct:=K6 tc ws n F,bk:=F.nx } ⟨fun τ h=>Z5y ht hb n τ E F le h,le.rt,le.nx,fun τ h=>Z5y ht hb n τ E F le h⟩) (le.nx τ) h) h
theorem DS.whl {body:List Stmt} (hp:PassesOwn (model X.prog X.w) X.A X.env X.xe) (hc:DT X H0 c tc) (hb:A5 X H0 body ws):DS X H0 (.While c body [] pos) (Q6v tc ws) where
 mono:=fun τ E F le ⟨n,h⟩=>⟨n,Z5y hc.mono hb.mono n τ E F le h⟩
 ps:=Q0 (W3v hp hc.pt hb.ps) fun D σ H0' ⟨τ,hR,n,h⟩=>by
  refine⟨fun m σ H=>∃ τ,B5 X.K H0 τ σ H/\Kp H0' H/\K6 tc ws m (K8 X.K H0 H0' D) τ,⟨n,τ,hR,Kp.refl _,h⟩,?_⟩
  rintro m σ H ⟨τ,hR,kp,h⟩
  cases m with
  | zero=>exact h.elim
  | succ m =>
   refine⟨τ,hR,hc.mono τ _ _ (fun k h H1 s1=>Z8 (fun h=>?_) (fun h=>h σ H1 (kp.trans (Kp.of s1)) (hR.mono s1)) h) h⟩
   refine⟨fun σ' H'=>∃ τ,B5 X.K H0 τ σ' H'/\Kp H0' H'/\K6 tc ws m (K8 X.K H0 H0' D) τ,fun σ' H' h'=>⟨m,cB m,h'⟩,τ,hR.mono s1,?_⟩
   have k1:=kp.trans (Kp.of s1)
   exact hb.mono τ { K8 X.K H0 H0' D with nx:=K6 tc ws m (K8 X.K H0 H0' D),ct:=K6 tc ws m (K8 X.K H0 H0' D),bk:=(K8 X.K H0 H0' D).nx } _
    ⟨fun τ' h' σ' H' k cM=>⟨τ',cM,k1.trans k,h'⟩,fun _ h=>h,fun τ' h' σ' H' k cM=>h' σ' H' (k1.trans k) cM,fun τ' h' σ' H' k cM=>⟨τ',cM,k1.trans k,h'⟩⟩ h
end
noncomputable abbrev D6:=List R->R->Prop
noncomputable def N6:R->Bool
 | .st _=>true
 | .nw _=>true
 | .bw _=>true
 | .ob _=>true
 | .cl _ _=>true
 | _=>false
noncomputable def nrm:R->R
 | .nw ds=>.bw ds
 | r=>r
noncomputable def Q5y (K:Fg9) (n:Nat) (sp:D6):Sp:=fun vs H Q _=>∃(rs:List R) (r:R),rs.length=n/\M6 K (fun _=>none) H rs vs/\rs.all N6=true/\sp (rs.map nrm) r/\∀v H',A4 H H'->D9 K H H' r v->Q v H'
noncomputable def O1:R->Sl
 | .st d=>.dat d
 | .nw ds=>.bor ds
 | .bw ds=>.bor ds
 | .dk k=>.dk k
 | .dt k=>.dt k
 | .ob a=>.ob a
 | .cl a Φ=>.cl a Φ
 | .ms a C _ fs=>.ins a C fs
noncomputable def F2 (N:List Str) (rs:List R):A8:=rs.map (fun r=>some (O1 r))++List.replicate (N.length-rs.length) none
theorem M6.length {K:Fg9}{H0 H:Hp}:∀{rs:List R}{vs:List V},M6 K H0 H rs vs->rs.length=vs.length
 | [],_,h=>by cases h;rfl
 | r::rs,_,h=>by obtain⟨v,t,rfl,_,z⟩:=h;rw [az,az,M6.length z]
theorem M6.get {K:Fg9}{H0 H:Hp}:∀{rs:List R}{vs:List V}{i:Nat}{r:R},M6 K H0 H rs vs->rs[i]?=some r->∃v,vs[i]?=some v/\D9 K H0 H r v
 | [],_,_,_,_,e=>by simp at e
 | r::rs,_,0,r',h,e=>by obtain⟨v,t,rfl,q,z⟩:=h;simp at e;subst e;exact⟨v,rfl,q⟩
 | r::rs,_,i+1,r',h,e=>by
  obtain⟨v,t,rfl,q,z⟩:=h
  obtain⟨u,h1,h2⟩:=M6.get (i:=i) z (by simpa using e)
  exact⟨u,by simpa using h1,h2⟩
theorem M6.v {K:Fg9}{H0 H:Hp}:∀{rs:List R}{vs:List V},M6 K H0 H rs vs->M6 K (fun _=>none) H rs vs
 | [],_,h=>h
 | r::rs,_,h=>by obtain⟨v,t,e,q,z⟩:=h;exact⟨v,t,e,q.v,M6.v z⟩
theorem W7j (r:R):O1 (nrm r)=O1 r:=by cases r <;> rfl
theorem Z4e (N:List Str) (rs:List R):F2 N (rs.map nrm)=F2 N rs:=by
 unfold F2
 rw [aN,ag]
 congr 1
 exact bb fun r _=>congrArg some (W7j r)
theorem N5.arg {K:Fg9}{H:Hp}:∀{r:R}{v:V},N6 r=true->IsV K H r v->N5 K H H (O1 r) v
 | .st d,v,_,h=>h
 | .nw ds,v,_,h=>by obtain⟨a,xs,e,_,q,t⟩:=h;exact⟨a,xs,e,q,t⟩
 | .bw ds,v,_,h=>h
 | .dk _,_,h,_=>by cases h
 | .dt _,_,h,_=>by cases h
 | .ob a,v,_,h=>h
 | .cl _ _,v,_,h=>h
 | .ms _ _ _ _,_,h,_=>by cases h
theorem W7i:∀{r:R},N6 r=true->(O1 r).mut=false
 | .st d,_=>rfl
 | .nw ds,_=>rfl
 | .bw ds,_=>rfl
 | .dk _,h=>by cases h
 | .dt _,h=>by cases h
 | .ob _,_=>rfl
 | .cl _ _,_=>rfl
 | .ms _ _ _ _,h=>by cases h
theorem Z3n {K:Fg9}{H:Hp}{N:List Str}{rs:List R}{vs:List V} (al:M6 K (fun _=>none) H rs vs) (ok:rs.all N6=true):B5 K H (F2 N rs) (L2.start N vs) H:=by
 have hl:=al.length
 have at_:∀(i:Nat) (s:Sl),(F2 N rs)[i]?=some (some s)->∃r,rs[i]?=some r/\s=O1 r:=fun i s e=>by
  unfold F2 at e
  by_cases hi:i<rs.length
  ·rw [aJ (by rw [ag];exact hi),ai,ac hi]at e
   exact⟨rs[i],ac hi,(aB (aB e)).symm⟩
  ·rw [aT (by rw [ag];omega)]at e
   have:=aC e
   rw [List.mem_replicate]at this
   cases this.2
 have nH:∀(i:Nat) (r:R),rs[i]?=some r->N6 r=true:=fun i r e=>bX.mp ok r (aC e)
 refine⟨?_,A4.refl H,fun i s e=>?_,fun i j s t v _ e1 _ m _ _ _=>?_⟩
 ·unfold F2 L2.start
  rw [aA,aA,ag,ag,aX,aX,hl]
 ·obtain⟨r,hr,rfl⟩:=at_ i s e
  obtain⟨v,hv,q⟩:=al.get hr
  refine⟨v,?_,N5.arg (nH i r hr) q⟩
  unfold L2.start
  have hi:i<vs.length:=by
   rcases bD i vs.length with h | h
   ·exact h
   ·rw [aH.mpr h]at hv;cases hv
  rw [aJ (by rw [ag];exact hi),ai,hv]
  rfl
 ·obtain⟨r,hr,rfl⟩:=at_ i s e1
  rw [W7i (nH i r hr)]at m;cases m
section
variable {P:Program}{w:World}{K:Fg9}{mg:Str->Option Value}{base:Heap}
theorem Q5.okD {x qual:Str}{st:Stmt}{f:Addr}{fd:FuncData}{N ps:List Str}{k:Nat}{sp:D6} (F:Q5 K x qual st f fd) (S:J4 N ps (B8 st))
  (bY:∀(cdv:Value) (A:Around) (outer:List Env) (s:Shared) (H:Hp) (E:XK),C5 k (A.deeper (envOfC qual (B8 st) s.heap.objs.size f cdv)) ->
   ∃ws,A5 (V4 L3 P w K mg base N qual (B8 st) f cdv A outer s H E).nox H (S0 st) ws /\
    ∀rs r,rs.length=ps.length->sp rs r->ws { nx:=fun _=>r=.st .non,rt:=fun r'=>r'=r,bk:=fun _=>False,ct:=fun _=>False } (F2 N rs)) :
  R1 P w K mg base L3 (k+1) f fd ps (Q5y K ps.length sp):=by
 refine F.ok S (fun vs H Q E h=>?_) (fun cdv A outer s H vs Q E hr h=>?_)
 ·obtain⟨rs,r,hl,al,_⟩:=h
  rw [<- al.length];exact hl
 obtain⟨rs,r,hl,al,ok,h1,h2⟩:=h
 obtain⟨ws,hd,hw⟩:=bY cdv A outer s H E hr
 refine⟨_,hd.ps,F2 N rs,Z3n al ok,?_⟩
 have hw:=hw (rs.map nrm) r (by rw [ag];exact hl) h1
 rw [Z4e]at hw
 refine hd.mono _ _ _ ⟨fun τ h σ H' _ hR=>?_,fun r' h v H' sm ir=>?_,fun _ h=>False.elim h,fun _ h=>False.elim h⟩ hw
 ·have h:r=.st .non:=h
  subst h
  exact h2 .non H' hR.same (A1.s_non (K:=K) (H:=H'))
 ·have h:r'=r:=h
  subst h
  exact h2 v H' sm ir
end
section
variable {X:Cx}{H0:Hp}{e:Expr}{es:List Expr}{wr:WA}{k:Nat}{f:Addr}{fd:FuncData}{ps:List Str}{sp:D6}{x:Str}{p pos:Pos}
def M9 (sp:D6) (wr:WA):WE:=fun τ Q=>wr τ fun rs=>rs.all N6=true/\∃r,sp (rs.map nrm) r/\Q r
theorem DE.call (F:R1 X.prog X.w X.K X.mg X.base L3 k f fd ps (Q5y X.K (e::es).length sp)) (hr:C5 k X.A) (hg:Gl X x) (hm:X.mg x=some (.ref f)) (hk:PySem.W.keepIn X.K (.ref f)=true) (hb:V1 X.K fd ps [])
  (ha:DA X H0 (e::es) wr) (eJ:(x==("__debug__":Str))=false:=by decide) (he:starEach (e::es) X.env=(false,eval e X.env)::starEach es X.env:=by rfl) (hpl:(backTo pos (starEach es X.env)).any (·.1)=false:=by rfl) :
  DE X H0 (.Call (.Name x p) (e::es) [] pos) (M9 sp wr) where
 mono:=fun τ P Q f h=>ha.mono τ _ _ (fun rs ⟨ok,r,h1,h2⟩=>⟨ok,r,h1,f r h2⟩) h
 pe:=N9 (Y1h F hr hg hm hk hb .nil Z3h ha.pa eJ he hpl) fun σ H Q ⟨τ,hR,h⟩=>⟨τ,hR,ha.mono τ _ _ (fun rs ⟨kC,ok,r,h1,h2⟩ vs H1 s1 cq=>by
  refine⟨rs,r,kC,?_,ok,h1,fun v H' s2 ir=>h2 v H' (s1.trans s2) (ir.older s1)⟩
  rw [ba]
  exact cq.v) (ha.len τ _ h)⟩
end
mutual
noncomputable def D.eq:D->D->Bool
 | .non,.non=>true
 | .bl a,.bl b=>a==b
 | .bl a,.int b=>(if a then(1:Int)else 0)==b
 | .int a,.bl b=>a==(if b then(1:Int)else 0)
 | .int a,.int b=>a==b
 | .str a,.str b=>a==b
 | .tup a,.tup b=>D.eqs a b
 | .lst a,.lst b=>D.eqs a b
 | _,_=>false
noncomputable def D.eqs:List D->List D->Bool
 | [],[]=>true
 | x::xs,y::ys=>D.eq x y&&D.eqs xs ys
 | _,_=>false
end
mutual
noncomputable def D.depth:D->Nat
 | .tup a=>D.depths a+1
 | .lst a=>D.depths a+1
 | _=>0
noncomputable def D.depths:List D->Nat
 | []=>0
 | x::xs=>max (D.depth x) (D.depths xs)
end
theorem D.depths_get:∀{ds:List D}{i:Nat}{d:D},ds[i]?=some d->d.depth<=D.depths ds
 | [],_,_,h=>by simp at h
 | x::xs,0,d,h=>by simp at h;subst h;unfold D.depths;omega
 | x::xs,i+1,d,h=>by
  have:=D.depths_get (ds:=xs) (i:=i) (d:=d) (by simpa using h)
  unfold D.depths;omega
mutual
theorem D.eq_refl:∀d:D,D.eq d d=true
 | .non=>by unfold D.eq;rfl
 | .bl a=>by unfold D.eq;simp
 | .int a=>by unfold D.eq;simp
 | .str a=>by unfold D.eq;simp
 | .tup a=>by unfold D.eq;exact D.eqs_refl a
 | .lst a=>by unfold D.eq;exact D.eqs_refl a
theorem D.eqs_refl:∀ds:List D,D.eqs ds ds=true
 | []=>by unfold D.eqs;rfl
 | x::xs=>by unfold D.eqs;rw [D.eq_refl x,D.eqs_refl xs];rfl
end
theorem D.eqs_range:∀(a b:List D),D.eqs a b=((List.range (min a.length b.length)).all (fun i=>match a[i]?,b[i]? with | some x,some y=>D.eq x y | _,_=>true)&&a.length==b.length)
 | [],[]=>by unfold D.eqs;simp
 | [],y::ys=>by unfold D.eqs;simp
 | x::xs,[]=>by unfold D.eqs;simp
 | x::xs,y::ys=>by
  unfold D.eqs
  rw [D.eqs_range xs ys]
  have e:min (x::xs).length (y::ys).length=min xs.length ys.length+1:=by simp [Nat.succ_min_succ]
  rw [e,List.range_succ_eq_map,List.all_cons,List.all_map]
  simp only [az,List.getElem?_cons_zero,Function.comp_def,List.getElem?_cons_succ]
  rw [Bool.and_assoc]
  congr 2
  simp
def IsW (K:Fg9) (H:Hp) (d:D) (v:V):Prop:=match d with
 | .lst ds=>∃a xs,v=.ref a/\C9 K H a xs/\AllS K H ds xs
 | d=>A1 K H d v
theorem A1.w {K:Fg9}{H:Hp}:∀{d:D}{v:V},A1 K H d v->IsW K H d v
 | .non,_,h=>h
 | .bl _,_,h=>h
 | .int _,_,h=>h
 | .str _,_,h=>h
 | .tup _,_,h=>h
 | .lst _,_,h=>by unfold A1 at h;obtain⟨a,xs,e,q,t⟩:=h;exact⟨a,xs,e,q.sq,t⟩
noncomputable def R.d:R->Option D
 | .st d=>some d
 | .nw ds=>some (.lst ds)
 | .bw ds=>some (.lst ds)
 | _=>none
theorem D9.w {K:Fg9}{H0 H:Hp}:∀{r:R}{v:V}{d:D},r.d=some d->D9 K H0 H r v->IsW K H d v
 | .st d,v,_,e,h=>by cases e;exact A1.w h
 | .nw ds,v,_,e,h=>by cases e;obtain⟨a,xs,e,n,q,t⟩:=h;exact⟨a,xs,e,C9.of q,t⟩
 | .bw ds,v,_,e,h=>by cases e;obtain⟨a,xs,e,q,t⟩:=h;exact⟨a,xs,e,C9.of q,t⟩
 | .dk _,_,_,e,_=>by cases e
 | .dt _,_,_,e,_=>by cases e
 | .ob _,_,_,e,_=>by cases e
 | .cl _ _,_,_,e,_=>by cases e
 | .ms _ _ _ _,_,_,e,_=>by cases e
theorem Y4l {X:Cx}{ae:Pn9} {σ:St}{H:Hp}{s:Shared} (I:A0 X ae σ H s) {a:Addr}{xs ys:List V} (h1:C0 X.K H a xs) (h2:C9 X.K H a ys):False:=by
 obtain⟨_,_,⟨o,e,c,_⟩,_⟩:=I.tuple h1
 obtain⟨_,_,⟨o',n,e',c',_⟩,_⟩:=I.list h2
 rw [e]at e';cases e'
 rw [c]at c';exact absurd c' (by simp)
section
variable {X:Cx}{ae:Pn9} {σ:St}{H:Hp}{s:Shared}
mutual
theorem A1.inj (I:A0 X ae σ H s):∀(d e:D) (v:V),A1 X.K H d v->A1 X.K H e v->d=e
 | .non,e,v,h1,h2=>by
  cases e <;> unfold A1 at h1 h2 <;> first | rfl | (obtain⟨_,_,z,_⟩:=h2;rw [h1]at z;cases z;done) | (rw [h1]at h2;cases h2;done) | (rw [h1]at h2;cases h2;rfl)
 | .bl p,e,v,h1,h2=>by
  cases e <;> unfold A1 at h1 h2 <;> first | rfl | (obtain⟨_,_,z,_⟩:=h2;rw [h1]at z;cases z;done) | (rw [h1]at h2;cases h2;done) | (rw [h1]at h2;cases h2;rfl)
 | .int p,e,v,h1,h2=>by
  cases e <;> unfold A1 at h1 h2 <;> first | rfl | (obtain⟨_,_,z,_⟩:=h2;rw [h1]at z;cases z;done) | (rw [h1]at h2;cases h2;done) | (rw [h1]at h2;cases h2;rfl)
 | .str p,e,v,h1,h2=>by
  cases e <;> unfold A1 at h1 h2 <;> first | rfl | (obtain⟨_,_,z,_⟩:=h2;rw [h1]at z;cases z;done) | (rw [h1]at h2;cases h2;done) | (rw [h1]at h2;cases h2;rfl)
 | .tup p,.non,v,h1,h2=>by unfold A1 at h1 h2;obtain⟨_,_,e,_⟩:=h1;rw [h2]at e;cases e
 | .tup p,.bl q,v,h1,h2=>by unfold A1 at h1 h2;obtain⟨_,_,e,_⟩:=h1;rw [h2]at e;cases e
 | .tup p,.int q,v,h1,h2=>by unfold A1 at h1 h2;obtain⟨_,_,e,_⟩:=h1;rw [h2]at e;cases e
 | .tup p,.str q,v,h1,h2=>by unfold A1 at h1 h2;obtain⟨_,_,e,_⟩:=h1;rw [h2]at e;cases e
 | .lst p,.non,v,h1,h2=>by unfold A1 at h1 h2;obtain⟨_,_,e,_⟩:=h1;rw [h2]at e;cases e
 | .lst p,.bl q,v,h1,h2=>by unfold A1 at h1 h2;obtain⟨_,_,e,_⟩:=h1;rw [h2]at e;cases e
 | .lst p,.int q,v,h1,h2=>by unfold A1 at h1 h2;obtain⟨_,_,e,_⟩:=h1;rw [h2]at e;cases e
 | .lst p,.str q,v,h1,h2=>by unfold A1 at h1 h2;obtain⟨_,_,e,_⟩:=h1;rw [h2]at e;cases e
 | .tup p,.tup q,v,h1,h2=>by unfold A1 at h1 h2;obtain⟨x,xs,e1,q1,r1⟩:=h1;obtain⟨y,ys,e2,q2,r2⟩:=h2;rw [e1]at e2;cases e2;have e:=I.tuple_inj (C0.of q1) (C0.of q2);subst e;rw [AllS.inj I p q xs r1 r2]
 | .tup p,.lst q,v,h1,h2=>by unfold A1 at h1 h2;obtain⟨x,xs,e1,q1,r1⟩:=h1;obtain⟨y,ys,e2,q2,r2⟩:=h2;rw [e1]at e2;cases e2;exact absurd (Y4l I (C0.of q1) q2.sq) id
 | .lst p,.tup q,v,h1,h2=>by unfold A1 at h1 h2;obtain⟨x,xs,e1,q1,r1⟩:=h2;obtain⟨y,ys,e2,q2,r2⟩:=h1;rw [e1]at e2;cases e2;exact absurd (Y4l I (C0.of q1) q2.sq) id
 | .lst p,.lst q,v,h1,h2=>by unfold A1 at h1 h2;obtain⟨x,xs,e1,q1,r1⟩:=h1;obtain⟨y,ys,e2,q2,r2⟩:=h2;rw [e1]at e2;cases e2;have e:=I.list_inj q1.sq q2.sq;subst e;rw [AllS.inj I p q xs r1 r2]
theorem AllS.inj (I:A0 X ae σ H s):∀(ds es:List D) (vs:List V),AllS X.K H ds vs->AllS X.K H es vs->ds=es
 | [],[],_,_,_=>rfl
 | [],y::ys,vs,h1,h2=>by unfold AllS at h1 h2;obtain⟨_,_,e,_⟩:=h2;rw [h1]at e;cases e
 | x::xs,[],vs,h1,h2=>by unfold AllS at h1 h2;obtain⟨_,_,e,_⟩:=h1;rw [h2]at e;cases e
 | x::xs,y::ys,vs,h1,h2=>by
  unfold AllS at h1 h2
  obtain⟨v,r,e1,q1,t1⟩:=h1
  obtain⟨v',r',e2,q2,t2⟩:=h2
  rw [e1]at e2;cases e2
  rw [A1.inj I x y v q1 q2,AllS.inj I xs ys r t1 t2]
end
end
section
variable {X:Cx}{ae:Pn9} {σ:St}{H:Hp}{s:Shared}
open PySem.SeqAt
theorem Q1q {ds:List D}{xs:List V}{aS:List Value} (al:AllS X.K H ds xs) (rv:B9 xs aS) {j:Nat} (h:j<aS.toArray.size):∃d v,ds[j]?=some d/\A1 X.K H d v/\B7 v aS.toArray[j]:=by
 have hl:=al.length
 have hr:=rv.length
 have hj:j<aS.length:=by simpa using h
 have i7:j<ds.length:=by omega
 obtain⟨v,hv,q⟩:=al.get (ac i7)
 obtain⟨u,hu,r⟩:=rv.get hv
 have e:u=aS.toArray[j]:=by
  rw [ac hj]at hu
  simpa using (aB hu).symm
 exact⟨ds[j],v,ac i7,q,e ▸ r⟩
theorem Q5n (I:A0 X ae σ H s) {d1 d2:D}{v1 v2:V}{u1 u2:Value}{n:Nat} (h:∀A:Around,A.units+n<cLine->RcAt A s u1 u2 (D.eq d1 d2)) (i1:A1 X.K H d1 v1) (i2:A1 X.K H d2 v2) (r1:B7 v1 u1) (r2:B7 v2 u2) {A:Around} (hu:A.units+n<cLine):EqAt A s u1 u2 (D.eq d1 d2):=by
 have hA:=h A hu
 by_cases e:u1=u2
 ·subst e
  have ev:=r1.inj r2
  subst ev
  rw [A1.inj I d1 d2 v1 i1 i2,D.eq_refl]
  exact EqAt.same _
 ·intro prog w E Q hq
  unfold eqBool
  refine bu ?_
  refine wpAny_ite_split (fun qS=>absurd (eq_of_beq qS) e) (fun _=>?_)
  have fin:wpAny (model prog w) A (richCompare .Eq u1 u2>>=truthOfDropped) Q E s:=a9 (hA prog w E _ (cY hq))
  cases v1 with
  | non=>cases r1;exact fin
  | bl _=>cases r1;exact fin
  | int _=>obtain⟨t,rfl⟩:=r1;exact fin
  | str _=>obtain⟨t,rfl⟩:=r1;exact fin
  | byt _=>obtain⟨t,rfl⟩:=r1;exact fin
  | ref _=>cases r1;exact fin
  | ty _=>cases r1;exact fin
  | flt b=>cases d1 <;> first | (cases (show V.flt b=_ from i1)) | (unfold A1 at i1;obtain⟨_,_,z,_⟩:=i1;cases z)
inductive Vw (X:Cx) (H:Hp) (s:Shared):D->Value->Prop
 | non:Vw X H s .non .none
 | bl (b:Bool):Vw X H s (.bl b) (.bool b)
 | int (i:Int) (t:Tok):Vw X H s (.int i) (.int i t)
 | str (x:Str) (t:Tok):Vw X H s (.str x) (.str x t)
 | tup {ds:List D}{a:Addr}{xs:List V}{aS:List Value} (al:AllS X.K H ds xs) (rv:B9 xs aS) (pl:s.heap.IsTuple a aS.toArray):Vw X H s (.tup ds) (.ref a)
 | lst {ds:List D}{a:Addr}{xs:List V}{aS:List Value} (al:AllS X.K H ds xs) (rv:B9 xs aS) (pl:s.heap.IsList a aS.toArray):Vw X H s (.lst ds) (.ref a)
theorem Q4o (I:A0 X ae σ H s) {d:D}{v:V}{u:Value} (h:IsW X.K H d v) (r:B7 v u):Vw X H s d u:=by
 cases d with
 | non=>cases (show v=.non from h);cases r;exact .non
 | bl b=>cases (show v=.bl b from h);cases r;exact .bl b
 | int i=>cases (show v=.int i from h);obtain⟨t,rfl⟩:=r;exact .int i t
 | str x=>cases (show v=.str x from h);obtain⟨t,rfl⟩:=r;exact .str x t
 | tup ds=>have h:A1 X.K H (.tup ds) v:=h;unfold A1 at h;obtain⟨a,xs,rfl,sq,al⟩:=h;cases r;obtain⟨aS,rv,pl,_⟩:=I.tuple (C0.of sq);exact .tup al rv pl
 | lst ds=>obtain⟨a,xs,rfl,sq,al⟩:=h;cases r;obtain⟨aS,rv,pl,_⟩:=I.list sq;exact .lst al rv pl.isList
def Q2n (d e:D):Prop:=(∃p q,d=.tup p/\e=.tup q)\/∃p q,d=.lst p/\e=.lst q
theorem Y1y {d1 d2:D}{u1 u2:Value}{A:Around} (h1:Vw X H s d1 u1) (h2:Vw X H s d2 u2) (hu:A.units<cLine) (hb:¬ Q2n d1 d2):RcAt A s u1 u2 (D.eq d1 d2):=by
 cases h1 <;> cases h2 <;> first | exact absurd (.inl ⟨_,_,rfl,rfl⟩) hb | exact absurd (.inr ⟨_,_,rfl,rfl⟩) hb | (unfold D.eq;(try simp only [Bool.not_true,Bool.not_false]);(with_reducible first | exact RcAt.none_none | exact RcAt.none_bool _ | exact RcAt.none_int _ _ | exact RcAt.none_str _ _ | exact RcAt.none_tuple (by assumption) hu | exact RcAt.none_list (by assumption) hu | exact RcAt.bool_none _ | exact RcAt.bool_bool _ _ | exact RcAt.bool_int _ _ _ | exact RcAt.bool_str _ _ _ | exact RcAt.bool_tuple _ (by assumption) hu | exact RcAt.bool_list _ (by assumption) hu | exact RcAt.int_none _ _ | exact RcAt.int_bool _ _ _ | exact RcAt.int_int _ _ _ _ | exact RcAt.int_str _ _ _ _ | exact RcAt.int_tuple _ _ (by assumption) hu | exact RcAt.int_list _ _ (by assumption) hu | exact RcAt.str_none _ _ | exact RcAt.str_bool _ _ _ | exact RcAt.str_int _ _ _ _ | exact RcAt.str_str _ _ _ _ | exact RcAt.str_tuple _ _ (by assumption) hu | exact RcAt.str_list _ _ (by assumption) hu | exact RcAt.tuple_none (by assumption) hu | exact RcAt.tuple_bool _ (by assumption) hu | exact RcAt.tuple_int _ _ (by assumption) hu | exact RcAt.tuple_str _ _ (by assumption) hu | exact RcAt.tuple_list (by assumption) (by assumption) hu | exact RcAt.list_none (by assumption) hu | exact RcAt.list_bool _ (by assumption) hu | exact RcAt.list_int _ _ (by assumption) hu | exact RcAt.list_str _ _ (by assumption) hu | exact RcAt.list_tuple (by assumption) (by assumption) hu))
theorem Q8m (I:A0 X ae σ H s):∀(n:Nat) (d1 d2:D) (v1 v2:V) (u1 u2:Value) (A:Around),d1.depth<=n->IsW X.K H d1 v1->IsW X.K H d2 v2->B7 v1 u1->B7 v2 u2->A.units+n<cLine->RcAt A s u1 u2 (D.eq d1 d2):=by
 intro n
 induction n with
 | zero =>
  intro d1 d2 v1 v2 u1 u2 A hd h1 h2 r1 r2 hu
  refine Y1y (Q4o I h1 r1) (Q4o I h2 r2) (by omega) ?_
  rintro (⟨p,q,rfl,rfl⟩ | ⟨p,q,rfl,rfl⟩) <;> unfold D.depth at hd <;> omega
 | succ n ih =>
  intro d1 d2 v1 v2 u1 u2 A hd h1 h2 r1 r2 hu
  have w1:=Q4o I h1 r1
  have w2:=Q4o I h2 r2
  by_cases hb:Q2n d1 d2
  ·obtain⟨p,q,rfl,rfl⟩ | ⟨p,q,rfl,rfl⟩:=hb
   ·cases w1;cases w2
    rename_i a1 lu fC gB ij gX a2 lq bW di e9 cJ
    have hd:D.depths p+1<=n+1:=by unfold D.depth at hd;exact hd
    have l1:fC.toArray.size=p.length:=by have:=gX.length;have:=gB.length;simp;omega
    have l2:bW.toArray.size=q.length:=by have:=cJ.length;have:=di.length;simp;omega
    have k:=RcAt.tuples (A:=A) (s:=s) (e:=fun i=>match p[i]?,q[i]? with | some x,some y=>D.eq x y | _,_=>true) ij e9 (by omega) (fun j jB i7=>by
     obtain⟨d1,v1,e1,i1,w1⟩:=Q1q gX gB jB
     obtain⟨d2,v2,e2,i2,w2⟩:=Q1q cJ di i7
     simp only [e1,e2]
     exact Q5n I (fun A=>ih d1 d2 v1 v2 _ _ A (by have:=D.depths_get e1;omega) i1.w i2.w w1 w2) i1 i2 w1 w2 (by simp only [bP];omega))
    rw [l1,l2]at k
    unfold D.eq;rw [D.eqs_range];exact k
   ·cases w1;cases w2
    rename_i a1 lu fC gB ij gX a2 lq bW di e9 cJ
    have hd:D.depths p+1<=n+1:=by unfold D.depth at hd;exact hd
    have l1:fC.toArray.size=p.length:=by have:=gX.length;have:=gB.length;simp;omega
    have l2:bW.toArray.size=q.length:=by have:=cJ.length;have:=di.length;simp;omega
    have kk:RcAt A s (.ref a1) (.ref a2) (D.eqs p q):=by
     rw [D.eqs_range]
     by_cases bL:p.length=q.length
     ·have k:=RcAt.lists (A:=A) (s:=s) (e:=fun i=>match p[i]?,q[i]? with | some x,some y=>D.eq x y | _,_=>true) ij e9 (by omega) (by omega) (fun j jB i7=>by
       obtain⟨d1,v1,e1,i1,w1⟩:=Q1q gX gB jB
       obtain⟨d2,v2,e2,i2,w2⟩:=Q1q cJ di i7
       simp only [e1,e2]
       exact Q5n I (fun A=>ih d1 d2 v1 v2 _ _ A (by have:=D.depths_get e1;omega) i1.w i2.w w1 w2) i1 i2 w1 w2 (by simp only [bP];omega))
      rw [l1]at k
      rw [<- bL,Nat.min_self,beq_self_eq_true,Bool.and_true]
      exact k
     ·rw [bT.mpr bL,Bool.and_false]
      exact RcAt.lists_lengths ij e9 (by rw [l1,l2];simpa using bL) (by omega)
    unfold D.eq;exact kk
  ·exact Y1y w1 w2 (by omega) hb
end
end TK
end
section
namespace HT
open PySem PyProof.Rows
section
variable {prog:Program}{w:World}{A:Around}{E:VS9}{s:Shared}
theorem cat_tup0 {t b:Addr}{vs ws:List Value}{Q:VS9} (ht:IsTup s.heap t vs.toArray) (hb:IsTup s.heap b ws.toArray) (hv:vs=[]) (h1:Q (.ref b) s):wpAny (model prog w) A (binaryOp .Add (.ref t) (.ref b)) Q E s:=by
 obtain⟨⟨cls,dd,data,sl⟩,ho,hc,n,hd⟩:=id ht
 obtain⟨⟨kS,jU,data2,jM⟩,fN,j4,n2,j3⟩:=id hb
 simp only at hc hd j4 j3
 subst hc hd j4 j3
 exact concat_meets ⟨_,ho,rfl⟩ ⟨_,fN,rfl⟩ noFill_tuple_add seq_tuple_add PySem.F.slot_tuple_add PySem.F.entry_tuple_add (PySem.F.args_tuple_add_2 _ _)
  (tuple_addW0 t b vs.toArray ws.toArray n n2 dd jU sl jM (by simp [hv])) ⟨ho,fN,h1⟩
end
end HT
namespace TK
open PySem PySem.Spec PyProof.Rows L2
section
variable {X:Cx}
noncomputable def Q1 (C:Int->Int->Prop) (f:Int->Int->Int):R->R->(R->Prop)->Prop
 | .st (.int i),.st (.int j),Q=>C i j/\Q (.st (.int (f i j)))
 | _,_,_=>False
theorem Z2a {C:Int->Int->Prop}{f:Int->Int->Int}{x y:R}{Q:R->Prop} (h:Q1 C f x y Q):∃i j,x=.st (.int i)/\y=.st (.int j)/\C i j/\Q (.st (.int (f i j))):=by
 unfold Q1 at h
 split at h
 ·exact⟨_,_,rfl,rfl,h.1,h.2⟩
 ·exact h.elim
theorem Z6 {C:Int->Int->Prop}{f:Int->Int->Int}:X6 (Q1 C f):=fun x y P Q g h=>by
 obtain⟨i,j,rfl,rfl,c,q⟩:=Z2a h
 exact⟨c,g _ q⟩
theorem OpD.ints {F:Value->Value->Sem Value}{C:Int->Int->Prop}{f:Int->Int->Int} (h:P4 X F (rI C fun i j=>.int (f i j))):OpD X F (Q1 C f):=by
 intro ae s σ H x y v u Q I rx ry ⟨r1,r2,h1,h2,hg⟩
 obtain⟨i,j,rfl,rfl,c,q⟩:=Z2a hg
 exact h ae s σ H x y v u Q I rx ry ⟨i,j,h1,h2,c,q _ _ (A4.refl H) Z7⟩
theorem OpD.ints0 {F:Value->Value->Sem Value}{f:Int->Int->Int} (h:P4 X F (rI0 fun i j=>.int (f i j))):OpD X F (Q1 (fun _ _=>True) f):=by
 intro ae s σ H x y v u Q I rx ry ⟨r1,r2,h1,h2,hg⟩
 obtain⟨i,j,rfl,rfl,c,q⟩:=Z2a hg
 exact h ae s σ H x y v u Q I rx ry ⟨i,j,h1,h2,q _ _ (A4.refl H) Z7⟩
noncomputable abbrev NoC:Int->Int->Prop:=fun _ _=>True
theorem Q8j:OpD X (binaryOp .FloorDiv) (Q1 Q0f fun i j=>i / j):=OpD.ints W1y
theorem Q4d:OpD X (binaryOp .Mod) (Q1 (fun _ j=>0<j) fun i j=>i % j):=OpD.ints W2b
noncomputable def lsM:R->Option (List D)
 | .nw ds=>some ds
 | .bw ds=>some ds
 | _=>none
noncomputable def P9:R->Option (List D)
 | .nw ds=>some ds
 | .bw ds=>some ds
 | .st (.lst ds)=>some ds
 | _=>none
theorem Z9w {K:Fg9}{H0 H:Hp}:∀{r:R}{ds:List D}{v:V},lsM r=some ds->D9 K H0 H r v->∃a xs,v=.ref a/\H a=some (.lst xs)/\AllS K H ds xs
 | .nw ds,_,v,e,h=>by cases e;obtain⟨a,xs,e,n,q,t⟩:=h;exact⟨a,xs,e,q,t⟩
 | .bw ds,_,v,e,h=>by cases e;obtain⟨a,xs,e,q,t⟩:=h;exact⟨a,xs,e,q,t⟩
 | .st _,_,_,e,_=>by cases e
 | .dk _,_,_,e,_=>by cases e
 | .dt _,_,_,e,_=>by cases e
 | .ob _,_,_,e,_=>by cases e
 | .cl _ _,_,_,e,_=>by cases e
 | .ms _ _ _ _,_,_,e,_=>by cases e
theorem Q1a {K:Fg9}{H0 H:Hp}:∀{r:R}{ds:List D}{v:V},P9 r=some ds->D9 K H0 H r v->∃a xs,v=.ref a/\C9 K H a xs/\AllS K H ds xs
 | .nw ds,_,v,e,h=>by cases e;obtain⟨a,xs,e,n,q,t⟩:=h;exact⟨a,xs,e,C9.of q,t⟩
 | .bw ds,_,v,e,h=>by cases e;obtain⟨a,xs,e,q,t⟩:=h;exact⟨a,xs,e,C9.of q,t⟩
 | .st (.lst ds),_,v,e,h=>by cases e;have h:A1 K H (.lst ds) v:=h;unfold A1 at h;obtain⟨a,xs,e,q,t⟩:=h;exact⟨a,xs,e,q.sq,t⟩
 | .st .non,_,_,e,_=>by cases e
 | .st (.bl _),_,_,e,_=>by cases e
 | .st (.int _),_,_,e,_=>by cases e
 | .st (.str _),_,_,e,_=>by cases e
 | .st (.tup _),_,_,e,_=>by cases e
 | .dk _,_,_,e,_=>by cases e
 | .dt _,_,_,e,_=>by cases e
 | .ob _,_,_,e,_=>by cases e
 | .cl _ _,_,_,e,_=>by cases e
 | .ms _ _ _ _,_,_,e,_=>by cases e
def G4 (x y:R) (Q:R->Prop):Prop :=
 match x,y with
 | .st (.int i),.st (.int j)=>Q (.st (.int (i+j)))
 | .st (.str i),.st (.str j)=>i.length+j.length<=sizeLine/\Q (.st (.str (i++j)))
 | .st (.tup i),.st (.tup j)=>i.length+j.length<=sizeLine/\Q (.st (.tup (i++j)))
 | .nw i,.nw j=>i.length+j.length<=sizeLine/\Q (.nw (i++j))
 | .nw i,.bw j=>i.length+j.length<=sizeLine/\Q (.nw (i++j))
 | .bw i,.nw j=>i.length+j.length<=sizeLine/\Q (.nw (i++j))
 | .bw i,.bw j=>i.length+j.length<=sizeLine/\Q (.nw (i++j))
 | _,_=>False
theorem S9:X6 G4:=fun x y P Q g h=>by
 unfold G4 at h ⊢
 split at h <;> first | exact g _ h | exact⟨h.1,g _ h.2⟩ | exact⟨h.1,h.2.1,g _ h.2.2⟩ | exact h
theorem Q7l {ae:Pn9}{s:Shared} {σ:St}{H:Hp}{x y:V}{v u:Value}{Q:VK} (I:A0 X ae σ H s) (rx:B7 x v) (ry:B7 y u) {r1 r2:R}{i j:List D} (e1:lsM r1=some i) (e2:lsM r2=some j)
  (h1:IsV X.K H r1 x) (h2:IsV X.K H r2 y) (hz:i.length+j.length<=sizeLine) (q:∀v H',A4 H H'->D9 X.K H H' (.nw (i++j)) v->Q v H'):wpAny (model X.prog X.w) X.A (binaryOp .Add v u) (EP X ae σ Q) X.xe s:=by
 obtain⟨a,xs,rfl,qa,iO⟩:=Z9w e1 h1
 obtain⟨b,ys,rfl,qb,iN⟩:=Z9w e2 h2
 refine W1w ae s σ H _ _ v u Q I rx ry ⟨a,b,xs,ys,rfl,rfl,qa,qb,by rw [<- iO.length,<- iN.length];exact hz,fun p hp=>?_⟩
 have k:=Kp.of (D5 hp (.lst (xs++ys)))
 exact q _ _ (D5 hp _) ⟨p,xs++ys,rfl,hp,upd_same,(iO.append iN).mono k _ _⟩
theorem T2:OpD X (binaryOp .Add) G4:=by
 intro ae s σ H x y v u Q I rx ry ⟨r1,r2,h1,h2,hg⟩
 unfold G4 at hg
 split at hg
 ·exact W1u ae s σ H x y v u Q I rx ry ⟨_,_,h1,h2,hg _ _ (A4.refl H) Z7⟩
 ·exact W1v ae s σ H x y v u Q I rx ry ⟨_,_,h1,h2,hg.1,hg.2 _ _ (A4.refl H) Z2c⟩
 ·rename_i i j
  have h1:A1 X.K H (.tup i) x:=h1
  have h2:A1 X.K H (.tup j) y:=h2
  unfold A1 at h1 h2
  obtain⟨a,xs,rfl,qa,iO⟩:=h1
  obtain⟨b,ys,rfl,qb,iN⟩:=h2
  have la:=iO.length
  have lb:=iN.length
  by_cases hx:xs=[]
  ·have zi:i=[]:=List.length_eq_zero_iff.mp (by rw [la,hx];rfl)
   subst zi
   cases rx
   cases ry
   obtain⟨aS,r1,p1,_⟩:=I.tuple (C0.of (K:=X.K) qa)
   obtain⟨bW,r2,p2,_⟩:=I.tuple (C0.of (K:=X.K) qb)
   exact HT.cat_tup0 p1 p2 (r1.nil_iff.mpr hx) ⟨.ref b,H,I,rfl,hg.2 _ _ (A4.refl H) (A1.s_tup (K:=X.K) (H:=H) qb iN)⟩
  refine W1x ae s σ H _ _ v u Q I rx ry ⟨a,b,xs,ys,rfl,rfl,C0.of qa,C0.of qb,hx,by omega,fun z=>?_,fun z p hp=>?_⟩
  ·have zj:j=[]:=List.length_eq_zero_iff.mp (by rw [lb,z];rfl)
   subst zj
   rw [ba]at hg
   exact hg.2 _ _ (A4.refl H) (A1.s_tup (K:=X.K) (H:=H) qa iO)
  ·exact hg.2 _ _ (D5 hp _) (A1.s_tup (K:=X.K) upd_same ((iO.append iN).mono (Kp.of (D5 hp _)) _ _))
 ·exact Q7l I rx ry rfl rfl h1 h2 hg.1 hg.2
 ·exact Q7l I rx ry rfl rfl h1 h2 hg.1 hg.2
 ·exact Q7l I rx ry rfl rfl h1 h2 hg.1 hg.2
 ·exact Q7l I rx ry rfl rfl h1 h2 hg.1 hg.2
 ·exact hg.elim
def V7 (x y:R) (Q:R->Prop):Prop :=
 match x,y with
 | .st (.int i),.st (.int j)=>Q1i i j/\Q (.st (.int (i*j)))
 | .nw ds,.st (.int k)=>-(2 ^ 63)<=k/\k<2 ^ 63/\ds.length*k.toNat<=sizeLine/\Q (.nw (List.replicate k.toNat ds).flatten)
 | _,_=>False
theorem Q3a:X6 V7:=fun x y P Q g h=>by
 unfold V7 at h ⊢
 split at h <;> first | exact⟨h.1,g _ h.2⟩ | exact⟨h.1,h.2.1,h.2.2.1,g _ h.2.2.2⟩ | exact h
theorem AllS.rep {K:Fg9}{H:Hp}{ds:List D}{vs:List V} (h:AllS K H ds vs):∀k:Nat,AllS K H (List.replicate k ds).flatten (List.replicate k vs).flatten
 | 0=>AllS.nil
 | k+1=>by rw [ce,ce,du,du];exact h.append (AllS.rep h k)
theorem Q3c:OpD X (binaryOp .Mult) V7:=by
 intro ae s σ H x y v u Q I rx ry ⟨r1,r2,h1,h2,hg⟩
 unfold V7 at hg
 split at hg
 ·exact W2c ae s σ H x y v u Q I rx ry ⟨_,_,h1,h2,hg.1,hg.2 _ _ (A4.refl H) Z7⟩
 ·obtain⟨a,xs,rfl,_,qa,iO⟩:=h1
  refine W2d ae s σ H _ y v u Q I rx ry ⟨a,_,xs,rfl,h2,qa,hg.1,hg.2.1,by rw [<- iO.length];exact hg.2.2.1,fun p hp=>?_⟩
  exact hg.2.2.2 _ _ (D5 hp _) ⟨p,_,rfl,hp,upd_same,(iO.rep _).mono (Kp.of (D5 hp _)) _ _⟩
 ·exact hg.elim
noncomputable def T0 (f:Int->Int->Bool):R->R->(Bool->Prop)->Prop
 | .st (.int i),.st (.int j),Q=>Q (f i j)
 | _,_,_=>False
theorem Z7r {f:Int->Int->Bool}{x y:R}{Q:Bool->Prop} (h:T0 f x y Q):∃i j,x=.st (.int i)/\y=.st (.int j)/\Q (f i j):=by
 unfold T0 at h
 split at h
 ·exact⟨_,_,rfl,rfl,h⟩
 ·exact h.elim
theorem Q5m {f:Int->Int->Bool}:X6 (T0 f):=fun x y P Q g h=>by
 obtain⟨i,j,rfl,rfl,q⟩:=Z7r h
 exact g _ q
theorem X5.ints {op:CmpOp}{f:Int->Int->Bool} (h:P4 X (compareOp op) (rI0 fun i j=>.bl (f i j))):X5 X op (T0 f):=by
 intro ae s σ H x y v u Q I rx ry ⟨r1,r2,h1,h2,hg⟩
 obtain⟨i,j,rfl,rfl,q⟩:=Z7r hg
 exact h ae s σ H x y v u Q I rx ry ⟨i,j,h1,h2,q⟩
theorem Q7n:X5 X .Lt (T0 fun i j=>decide (i<j)):=X5.ints W2a
theorem Y7g:X5 X .GtE (T0 fun i j=>decide (j<=i)):=X5.ints W1z
def eqD (n:Nat) (neg:Bool) (x y:R) (Q:Bool->Prop):Prop:=∃d e,x.d=some d/\y.d=some e/\d.depth<=n/\Q (if neg then !D.eq d e else D.eq d e)
theorem Q0x {n:Nat}{neg:Bool}:X6 (eqD n neg):=fun x y P Q g ⟨d,e,h1,h2,h3,q⟩=>⟨d,e,h1,h2,h3,g _ q⟩
theorem Q7m {n:Nat} (hu:X.A.units+n<cLine):X5 X .Eq (eqD n false):=by
 intro ae s σ H x y v u Q I rx ry ⟨r1,r2,h1,h2,d,e,e1,e2,hd,q⟩
 exact Q8m I n d e x y v u X.A hd (h1.w e1) (h2.w e2) rx ry hu _ _ _ _ ⟨.bl _,H,I,rfl,q⟩
end
end TK
end
section
namespace TK
open PySem PySem.Spec PyProof.Rows L2
section
variable {X:Cx}
theorem Q7g {K:Fg9}{H:Hp}{ds:List D}{xs:List V} (al:AllS K H ds xs) {i:Int}{d:D} (h:M7 ds i=some d):∃v,M7 xs i=some v/\A1 K H d v:=by
 unfold M7 at h ⊢
 rw [<- al.length]
 cases e:ixN ds.length i with
 | none=>rw [e]at h;cases h
 | some j =>
  rw [e]at h
  obtain⟨v,hv,q⟩:=al.get (i:=j) h
  exact⟨v,hv,q⟩
def C1 (x y:R) (Q:R->Prop):Prop:=match x,y with
 | .st (.lst ds),.st (.int i)=>∃d,M7 ds i=some d/\Q (.st d)
 | .nw ds,.st (.int i)=>∃d,M7 ds i=some d/\Q (.st d)
 | .bw ds,.st (.int i)=>∃d,M7 ds i=some d/\Q (.st d)
 | .st (.tup ds),.st (.int i)=>∃d,M7 ds i=some d/\Q (.st d)
 | .st (.str z),.st (.int i)=>z.length<=sizeLine/\∃c,M7 z.cps.toList i=some c/\Q (.st (.str ⟨#[c]⟩))
 | _,_=>False
theorem Y8v:X6 C1:=fun x y P Q g h=>by
 unfold C1 at h ⊢
 split at h
 case h_6=>exact h
 case h_5=>obtain⟨z,c,h1,h2⟩:=h;exact⟨z,c,h1,g _ h2⟩
 all_goals (obtain⟨d,h1,h2⟩:=h;exact⟨d,h1,g _ h2⟩)
variable {H0:Hp}{a b c e:Expr}{pos:Pos}{wa wb wc we:WE}
theorem DE.ix (ha:DE X H0 a wa) (hb:DE X H0 b wb) (hs:Z0o b):DE X H0 (.Subscript a b pos) (A6 C1 wa wb) where
 mono:=fun τ P Q f h=>ha.mono τ _ _ (fun x h=>hb.mono τ _ _ (fun y h=>Y8v x y P Q f h) h) h
 pe:=N9 (Y1j Y8w ha.pe hb.pe hs) fun σ H Q ⟨τ,hR,h⟩=>two ha hb hR h fun x y v u H' sm rx ry q=>by
  unfold C1 at q
  split at q
  ·have rx:A1 X.K H' _ v:=rx
   unfold A1 at rx
   obtain⟨p,xs,rfl,sq,al⟩:=rx
   obtain⟨d,hd,q⟩:=q
   obtain⟨z,hz,iz⟩:=Q7g al hd
   exact .inl ⟨p,xs,_,z,rfl,ry,sq.sq,hz,q z H' sm iz⟩
  ·obtain⟨p,xs,rfl,_,sq,al⟩:=rx
   obtain⟨d,hd,q⟩:=q
   obtain⟨z,hz,iz⟩:=Q7g al hd
   exact .inl ⟨p,xs,_,z,rfl,ry,C9.of sq,hz,q z H' sm iz⟩
  ·obtain⟨p,xs,rfl,sq,al⟩:=rx
   obtain⟨d,hd,q⟩:=q
   obtain⟨z,hz,iz⟩:=Q7g al hd
   exact .inl ⟨p,xs,_,z,rfl,ry,C9.of sq,hz,q z H' sm iz⟩
  ·have rx:A1 X.K H' _ v:=rx
   unfold A1 at rx
   obtain⟨p,xs,rfl,sq,al⟩:=rx
   obtain⟨d,hd,q⟩:=q
   obtain⟨z,hz,iz⟩:=Q7g al hd
   exact .inr (.inl ⟨p,xs,_,z,rfl,ry,C0.of sq,hz,q z H' sm iz⟩)
  ·obtain⟨z,c,h1,q⟩:=q
   exact .inr (.inr ⟨_,_,c,rx,ry,z,h1,q _ H' sm Z2c⟩)
  ·exact q.elim
def Q1j (X:Cx) (f:Value) (g:List R->(R->Prop)->Prop):Prop :=
 Q2h X f (fun xs H Q=>∃rs,M6 X.K (fun _=>none) H rs xs/\g rs fun r=>∀v H',A4 H H'->D9 X.K H H' r v->Q v H')
def Q1o (g:List R->(R->Prop)->Prop):Prop:=∀x (P Q:R->Prop),(∀r,P r->Q r)->g x P->g x Q
variable {es:List Expr}{wr:WA}{x:Str}{p:Pos}{id T:String}{g:List R->(R->Prop)->Prop}
def C8 (g:List R->(R->Prop)->Prop) (wr:WA):WE:=fun τ Q=>wr τ fun rs=>g rs Q
theorem DE.callB (hc:Q1j X (.builtin id) g) (mg:Q1o g) (hg:Gl X x) (hm:X.mg x=none) (hv:bootBuiltins x=some (.builtin id)) (ha:DA X H0 (e::es) wr) (hn:x≠"__name__":=by decide) (eJ:(x==("__debug__":Str))=false:=by decide)
  (he:starEach (e::es) X.env=(false,eval e X.env)::starEach es X.env:=by rfl) (hpl:(backTo pos (starEach es X.env)).any (·.1)=false:=by rfl):DE X H0 (.Call (.Name x p) (e::es) [] pos) (C8 g wr) where
 mono:=fun τ P Q f h=>ha.mono τ _ _ (fun rs h=>mg rs P Q f h) h
 pe:=N9 (Y1i hc hg hm hv ha.pa hn eJ he hpl) fun σ H Q ⟨τ,hR,h⟩=>⟨τ,hR,ha.mono τ _ _ (fun rs h vs H1 s1 cq=>⟨rs,cq.v,mg rs _ _ (fun r h v H' s2 ir=>h v H' (s1.trans s2) (ir.older s1)) h⟩) h⟩
theorem DE.callTy (hc:Q1j X (.type T) g) (mg:Q1o g) (hg:Gl X x) (hm:X.mg x=none) (hv:bootBuiltins x=some (.type T)) (ha:DA X H0 (e::es) wr) (hn:x≠"__name__":=by decide) (eJ:(x==("__debug__":Str))=false:=by decide)
  (he:starEach (e::es) X.env=(false,eval e X.env)::starEach es X.env:=by rfl) (hpl:(backTo pos (starEach es X.env)).any (·.1)=false:=by rfl):DE X H0 (.Call (.Name x p) (e::es) [] pos) (C8 g wr) where
 mono:=fun τ P Q f h=>ha.mono τ _ _ (fun rs h=>mg rs P Q f h) h
 pe:=N9 (W2k hc hg hm hv ha.pa hn eJ he hpl) fun σ H Q ⟨τ,hR,h⟩=>⟨τ,hR,ha.mono τ _ _ (fun rs h vs H1 s1 cq=>⟨rs,cq.v,mg rs _ _ (fun r h v H' s2 ir=>h v H' (s1.trans s2) (ir.older s1)) h⟩) h⟩
theorem V3 {K:Fg9}{H0 H:Hp}{r:R}{vs:List V} (h:M6 K H0 H [r] vs):∃v,vs=[v]/\D9 K H0 H r v:=by
 obtain⟨v,t,rfl,q,z⟩:=h
 cases (show t=[]from z)
 exact⟨v,rfl,q⟩
noncomputable def Z2m:R->(Nat->Prop)->Prop
 | .st (.str z),Q=>z.length<=sizeLine/\Q z.length
 | .st (.tup ds),Q=>Q ds.length
 | .st (.lst ds),Q=>Q ds.length
 | .nw ds,Q=>Q ds.length
 | .bw ds,Q=>Q ds.length
 | _,_=>False
noncomputable def F4:List R->(R->Prop)->Prop
 | [r],Q=>Z2m r fun n=>Q (.st (.int n))
 | _,_=>False
theorem Y9r:Q1o F4:=fun x P Q g h=>by
 unfold F4 at h ⊢
 split at h
 ·unfold Z2m at h ⊢
  split at h <;> first | exact g _ h | exact⟨h.1,g _ h.2⟩ | exact h
 ·exact h
theorem Y6v:Q1j X (.builtin "len") F4:=by
 intro ae s σ H xs us Q I rv ⟨rs,cq,h⟩
 unfold F4 at h
 split at h
 ·obtain⟨v,rfl,ir⟩:=V3 cq
  unfold Z2m at h
  split at h
  ·cases (show v=.str _ from ir)
   exact Q5k ae s σ H _ us Q I rv ⟨_,_,rfl,⟨h.1,rfl⟩,h.2 _ _ (A4.refl H) Z7⟩
  ·have ir:A1 X.K H _ v:=ir
   unfold A1 at ir
   obtain⟨p,xs,rfl,sq,al⟩:=ir
   exact Q5k ae s σ H _ us Q I rv ⟨_,_,rfl,.inr ⟨xs,C0.of sq,rfl⟩,by rw [<- al.length];exact h _ _ (A4.refl H) Z7⟩
  ·have ir:A1 X.K H _ v:=ir
   unfold A1 at ir
   obtain⟨p,xs,rfl,sq,al⟩:=ir
   exact Q5k ae s σ H _ us Q I rv ⟨_,_,rfl,.inl ⟨xs,sq.sq,rfl⟩,by rw [<- al.length];exact h _ _ (A4.refl H) Z7⟩
  ·obtain⟨p,xs,rfl,_,sq,al⟩:=ir
   exact Q5k ae s σ H _ us Q I rv ⟨_,_,rfl,.inl ⟨xs,C9.of sq,rfl⟩,by rw [<- al.length];exact h _ _ (A4.refl H) Z7⟩
  ·obtain⟨p,xs,rfl,sq,al⟩:=ir
   exact Q5k ae s σ H _ us Q I rv ⟨_,_,rfl,.inl ⟨xs,C9.of sq,rfl⟩,by rw [<- al.length];exact h _ _ (A4.refl H) Z7⟩
  ·exact h.elim
 ·exact h.elim
noncomputable def Q3h:R->Option (List D)
 | .st (.tup ds)=>some ds
 | .st (.lst ds)=>some ds
 | .nw ds=>some ds
 | .bw ds=>some ds
 | _=>none
theorem Y3y {K:Fg9}{H0 H:Hp}:∀{r:R}{ds:List D}{v:V},Q3h r=some ds->D9 K H0 H r v->∃a xs,v=.ref a/\(C9 K H a xs\/H a=some (.tup xs))/\AllS K H ds xs
 | .st (.tup ds),_,v,e,h=>by cases e;have h:A1 K H (.tup ds) v:=h;unfold A1 at h;obtain⟨a,xs,e,q,t⟩:=h;exact⟨a,xs,e,.inr q,t⟩
 | .st (.lst ds),_,v,e,h=>by cases e;have h:A1 K H (.lst ds) v:=h;unfold A1 at h;obtain⟨a,xs,e,q,t⟩:=h;exact⟨a,xs,e,.inl q.sq,t⟩
 | .nw ds,_,v,e,h=>by cases e;obtain⟨a,xs,e,n,q,t⟩:=h;exact⟨a,xs,e,.inl (C9.of q),t⟩
 | .bw ds,_,v,e,h=>by cases e;obtain⟨a,xs,e,q,t⟩:=h;exact⟨a,xs,e,.inl (C9.of q),t⟩
 | .st .non,_,_,e,_=>by cases e
 | .st (.bl _),_,_,e,_=>by cases e
 | .st (.int _),_,_,e,_=>by cases e
 | .st (.str _),_,_,e,_=>by cases e
 | .dk _,_,_,e,_=>by cases e
 | .dt _,_,_,e,_=>by cases e
 | .ob _,_,_,e,_=>by cases e
 | .cl _ _,_,_,e,_=>by cases e
 | .ms _ _ _ _,_,_,e,_=>by cases e
noncomputable def Q2y:List R->(R->Prop)->Prop
 | [r],Q=>∃ds,Q3h r=some ds/\Q (.nw ds)
 | _,_=>False
theorem Y9z:Q1o Q2y:=fun x P Q g h=>by
 unfold Q2y at h ⊢
 split at h
 ·obtain⟨ds,e,q⟩:=h;exact⟨ds,e,g _ q⟩
 ·exact h
theorem Y6x:Q1j X (.type "list") Q2y:=by
 intro ae s σ H xs us Q I rv ⟨rs,cq,h⟩
 unfold Q2y at h
 split at h
 ·obtain⟨v,rfl,ir⟩:=V3 cq
  obtain⟨ds,e,q⟩:=h
  obtain⟨a,xs,rfl,sq,al⟩:=Y3y e ir
  exact Y6z ae s σ H _ us Q I rv ⟨a,xs,rfl,sq.imp id (fun z=>C0.of z),fun l hl=>q _ _ (D5 hl _) ⟨l,xs,rfl,hl,upd_same,al.mono (Kp.of (D5 hl _)) _ _⟩⟩
 ·exact h.elim
noncomputable def Q9:List R->(R->Prop)->Prop
 | [r],Q=>∃ds,Q3h r=some ds/\Q (.st (.tup ds))
 | _,_=>False
theorem W8l:Q1o Q9:=fun x P Q g h=>by
 unfold Q9 at h ⊢
 split at h
 ·obtain⟨ds,e,q⟩:=h;exact⟨ds,e,g _ q⟩
 ·exact h
theorem Y7c:Q1j X (.type "tuple") Q9:=by
 intro ae s σ H xs us Q I rv ⟨rs,cq,h⟩
 unfold Q9 at h
 split at h
 ·obtain⟨v,rfl,ir⟩:=V3 cq
  obtain⟨ds,e,q⟩:=h
  obtain⟨a,xs,rfl,sq,al⟩:=Y3y e ir
  refine Y7d ae s σ H _ us Q I rv ⟨a,xs,rfl,?_⟩
  rcases sq with sq | sq
  ·exact .inl ⟨sq,fun l hl=>q _ _ (D5 hl _) (A1.s_tup (K:=X.K) upd_same (al.mono (Kp.of (D5 hl _)) _ _))⟩
  ·exact .inr ⟨C0.of sq,q _ _ (A4.refl H) (A1.s_tup (K:=X.K) (H:=H) sq al)⟩
 ·exact h.elim
end
noncomputable abbrev WG:=D->A8->(A8->Prop)->Prop
noncomputable def Y9u (K:Fg9) (H0:Hp) (g:WG):TG:=fun v σ H Q=>∃ τ d,B5 K H0 τ σ H/\A1 K H d v/\g d τ fun τ'=>∀ σ' H',A4 H H'->B5 K H0 τ' σ' H'->Q σ' H'
structure DG (X:Cx) (H0:Hp) (tg:Expr) (g:WG):Prop where
 mono:∀d τ (P Q:A8->Prop),(∀ τ,P τ->Q τ)->g d τ P->g d τ Q
 pg:PG X tg (Y9u X.K H0 g)
noncomputable abbrev WGs:=List D->A8->(A8->Prop)->Prop
noncomputable def Y9v (K:Fg9) (H0:Hp) (g:WGs):TGs:=fun vs σ H Q=>∃ τ ds,B5 K H0 τ σ H/\AllS K H ds vs/\g ds τ fun τ'=>∀ σ' H',A4 H H'->B5 K H0 τ' σ' H'->Q σ' H'
structure F9 (X:Cx) (H0:Hp) (tg:List Expr) (g:WGs):Prop where
 mono:∀d τ (P Q:A8->Prop),(∀ τ,P τ->Q τ)->g d τ P->g d τ Q
 pg:PGs X tg (Y9v X.K H0 g)
theorem pgW {X:Cx}{e:Expr}{t t':TG} (h:PG X e t) (f:∀v σ H Q,t' v σ H Q->t v σ H Q):PG X e t':=fun ae s σ H v u Q I r q=>h ae s σ H v u Q I r (f v σ H Q q)
theorem pgsW {X:Cx}{e:List Expr}{t t':TGs} (h:PGs X e t) (f:∀v σ H Q,t' v σ H Q->t v σ H Q):PGs X e t':=fun ae s σ H v u Q I r q=>h ae s σ H v u Q I r (f v σ H Q q)
section
variable {X:Cx}{H0:Hp}{a b c e iter tg:Expr}{pos:Pos}{wa wb we:WE}{es:List Expr}
def B1 (i:Nat):WG:=fun d τ Q=>Q (τ.set i (some (.dat d)))
theorem DG.nm {i:Nat}{x:Str} (hN:X.N.Nodup) (hi:X.N[i]?=some x) (hx:Loc X.env.scope x) (hf:X.fn x=true\/X.env.scope.names.lookup x=some .local:=by first | exact .inl rfl | exact .inr rfl | assumption):DG X H0 (.Name x pos) (B1 i) where
 mono:=fun d τ P Q f h=>f _ h
 pg:=pgW (Y1l hN hi hx hf) fun v σ H Q ⟨τ,d,hR,iv,h⟩=>h _ _ (A4.refl H) (hR.set iv fun m=>by cases m)
def P6:WGs:=fun ds τ Q=>ds=[]/\Q τ
def E6 (g:WG) (gs:WGs):WGs:=fun ds τ Q=>∃d r,ds=d::r/\g d τ fun τ'=>gs r τ' Q
theorem F9.nil:F9 X H0 [] P6 where
 mono:=fun d τ P Q f h=>⟨h.1,f _ h.2⟩
 pg:=pgsW W3j fun vs σ H Q ⟨τ,ds,hR,al,h1,h2⟩=>by
  subst h1
  unfold AllS at al
  exact⟨al,h2 σ H (A4.refl H) hR⟩
theorem F9.cons {g:WG}{gs:WGs} (h1:DG X H0 e g) (h2:F9 X H0 es gs) (hs:(assignEach (e::es) X.env).map (·.2)=assign e X.env::(assignEach es X.env).map (·.2):=by rfl):F9 X H0 (e::es) (E6 g gs) where
 mono:=fun d τ P Q f ⟨x,r,e1,h⟩=>⟨x,r,e1,h1.mono x τ _ _ (fun τ' h=>h2.mono r τ' P Q f h) h⟩
 pg:=pgsW (W3i h1.pg h2.pg hs) fun vs σ H Q ⟨τ,ds,hR,al,d,r,e1,h⟩=>by
  subst e1
  unfold AllS at al
  obtain⟨v,t,rfl,iv,al⟩:=al
  exact⟨v,t,rfl,τ,d,hR,iv,h1.mono d τ _ _ (fun τ' h σ' H' sm cM=>⟨τ',r,cM,al.mono (Kp.of sm) _ _,h2.mono r τ' _ _ (fun τ2 h σ2 H2 s2 dA=>h σ2 H2 (sm.trans s2) dA) h⟩) h⟩
def O4 (n:Nat) (gs:WGs):WG:=fun d τ Q=>∃ds,d=.tup ds/\ds.length=n/\gs ds τ Q
theorem DG.tp {k n:Nat}{gs:WGs} (hc:X.calm=true) (h:F9 X H0 es gs) (hn:(assignEach es X.env).length=n:=by rfl) (m8:(assignEach es X.env).findIdx? (·.1)=none:=by rfl):DG X H0 (.Tuple es k pos) (O4 n gs) where
 mono:=fun d τ P Q f ⟨ds,e1,e2,q⟩=>⟨ds,e1,e2,h.mono ds τ P Q f q⟩
 pg:=pgW (W3h hc h.pg hn m8) fun v σ H Q ⟨τ,d,hR,iv,ds,e1,e2,q⟩=>by
  subst e1
  unfold A1 at iv
  obtain⟨p,xs,rfl,sq,al⟩:=iv
  exact⟨p,xs,rfl,C0.of sq,by rw [<- al.length];exact e2,τ,ds,hR,al,q⟩
theorem DS.asg {g:WG} (he:DE X H0 e we) (hg:DG X H0 tg g) (hs:swapsWithSole [tg] e pos.line X.env=pure false:=by rfl) (hw:swappedStores [tg] e X.env=pure none:=by rfl)
  (h1:(assignEach [tg] X.env).map (·.2)=[assign tg X.env]:=by rfl):DS X H0 (.Assign [tg] e pos) (fun E τ=>we τ fun r=>∃d,r=.st d/\g d τ E.nx) where
 mono:=fun τ E F le h=>he.mono τ _ _ (fun r ⟨d,e1,h⟩=>⟨d,e1,hg.mono d τ _ _ le.nx h⟩) h
 ps:=Q0 (W3r he.pe hg.pg hs hw h1) fun D σ H ⟨τ,hR,h⟩=>⟨τ,hR,he.mono τ _ _ (fun r ⟨d,e1,h⟩ v H1 s1 ir=>by
  subst e1
  exact⟨τ,d,hR.mono s1,ir,hg.mono d τ _ _ (fun τ' h σ' H' s2 cM=>h σ' H' (Kp.of (s1.trans s2)) cM) h⟩) h⟩
structure Yl (K:Fg9) (H0:Hp) (J:It) (ds:List D) (H:Hp):Prop where
 go:∀H',Kp H H'->A4 H0 H'->∀i,i<ds.length->J.go i H'
 yld:∀H',Kp H H'->A4 H0 H'->∀i x dh d,ds[i]?=some d->J.yld i H' x dh->A4 H' dh/\A1 K dh d x
 stop:∀H',Kp H H'->A4 H0 H'->J.stop ds.length H'
noncomputable abbrev WI:=A8->(List D->A8->Prop)->Prop
noncomputable def Y9w (K:Fg9) (H0:Hp) (wi:WI):TI:=fun σ H R=>∃ τ,B5 K H0 τ σ H/\wi τ fun ds τ'=>∀J H',Kp H H'->B5 K H0 τ' σ H'->Yl K H0 J ds H'->R J H'
structure DI (X:Cx) (H0:Hp) (tg iter:Expr) (wi:WI):Prop where
 mono:∀ τ (P Q:List D->A8->Prop),(∀ds τ,P ds τ->Q ds τ)->wi τ P->wi τ Q
 pi:PI X tg iter (Y9w X.K H0 wi)
theorem piW {X:Cx}{tg e:Expr}{t t':TI} (h:PI X tg e t) (f:∀ σ H Q,t' σ H Q->t σ H Q):PI X tg e t':=fun ae s σ H R I q=>h ae s σ H R I (f σ H R q)
theorem W9f {K:Fg9}{H0 H:Hp}{a:Addr}{xs:List V}{ds:List D} (hq:∀H',Kp H H'->A4 H0 H'->C9 K H' a xs) (al:AllS K H ds xs):Yl K H0 (Itl K a) ds H where
 go:=fun H' k s i hi=>⟨xs,xs[i]'(by rw [<- al.length];exact hi),hq H' k s,ac _⟩
 yld:=fun H' k s i x dh d hd ⟨e,y⟩=>by
  subst e
  have hx:=y xs (hq _ k s)
  obtain⟨v,hv,q⟩:=(al.mono k _ _).get hd
  rw [hx]at hv;cases hv
  exact⟨A4.refl _,q⟩
 stop:=fun H' k s=>⟨xs,hq H' k s,by rw [al.length];exact ah _⟩
theorem DI.lst (he:DE X H0 e we):DI X H0 tg e (fun τ Q=>we τ fun r=>∃ds,r=.st (.lst ds)/\Q ds τ) where
 mono:=fun τ P Q f h=>he.mono τ _ _ (fun r ⟨ds,e1,q⟩=>⟨ds,e1,f _ _ q⟩) h
 pi:=piW (Y1m he.pe) fun σ H R ⟨τ,hR,h⟩=>⟨τ,hR,he.mono τ _ _ (fun r ⟨ds,e1,q⟩ v H1 s1 ir=>by
  subst e1
  have ir:A1 X.K H1 (.lst ds) v:=ir
  unfold A1 at ir
  obtain⟨a,xs,rfl,sq,al⟩:=ir
  exact⟨a,rfl,⟨xs,sq.sq⟩,q _ _ (Kp.of s1) (hR.mono s1) (W9f (fun H' k _=>(k.fzL sq).sq) al)⟩) h⟩
theorem B5.freeze {K:Fg9}{H:Hp} {τ:A8} {σ:St}{i:Nat}{ds:List D}{a:Addr}{o:Obj}{xs:List V} (hR:B5 K H0 τ σ H) (e1:τ[i]?=some (some (.own ds))) (hv:σ[i]?=some (some (.ref a))) (h0:H0 a=none) (sq:H a=some (.lst xs)) (al:AllS K H ds xs) :
  B5 K H0 (τ.set i (some (.dat (.lst ds)))) σ (upd H a (.frz o (.lst xs))):=by
 have kp:Kp H (upd H a (.frz o (.lst xs))):=Kp.upd sq _
 have hl:i<τ.length:=by
  rcases bD i τ.length with h | h
  ·exact h
  ·rw [aH.mpr h]at e1;cases e1
 refine⟨by rw [bJ];exact hR.len,fun b ob hb=>?_,fun j s e=>?_,fun j k s t v cA e2 e3 m1 m2 q1 q2=>?_⟩
 ·rw [B0 (U7 hb h0)];exact hR.same b ob hb
 ·by_cases hj:j=i
  ·subst hj
   rw [Z5 hl]at e;cases e
   exact⟨_,hv,A1.s_lst (K:=K) (.inl ⟨o,upd_same⟩) (al.mono kp _ _)⟩
  ·rw [aF (fun z=>hj z.symm)]at e
   obtain⟨v,q,r⟩:=hR.here j s e
   refine⟨v,q,?_⟩
   have ap:s.mut=true->v≠.ref a:=fun m z=>by
    subst z
    exact hR.apart i j _ s (.ref a) (fun z=>hj z.symm) e1 e rfl m hv q
   cases s with
   | dat d=>exact A1.mono kp _ _ r
   | own es=>obtain⟨b,ys,e,n,q,t⟩:=r;exact⟨b,ys,e,n,by rw [B0 (fun z=>ap rfl (by rw [e,z]))];exact q,t.mono kp _ _⟩
   | bor es=>obtain⟨b,ys,e,q,t⟩:=r;exact⟨b,ys,e,q,t.mono kp _ _⟩
   | bd es=>obtain⟨b,ys,e,q,t⟩:=r;exact⟨b,ys,e,q,t.mono kp _ _⟩
   | dk es=>obtain⟨b,ys,e,n,q,t⟩:=r;exact⟨b,ys,e,n,by rw [B0 (fun z=>ap rfl (by rw [e,z]))];exact q,t.mono kp _ _⟩
   | dt es=>obtain⟨b,ys,e,n,q,t⟩:=r;exact⟨b,ys,e,n,by rw [B0 (fun z=>ap rfl (by rw [e,z]))];exact q,t.mono kp _ _⟩
   | ob _=>exact r
   | cl _ _=>exact⟨r.1,r.2.2 _ _ kp r.2.1,r.2.2⟩
   | ll _ _=>exact⟨r.1,r.2.keep kp fun b φ q=>by rw [B0 (W8 q sq (by intro z;cases z))];exact q⟩
   | ins _ _ _=>obtain⟨e,n,dx,ys,q,t⟩:=r;exact⟨e,n,dx,ys,by rw [B0 (fun z=>ap rfl (by rw [e,z]))];exact q,t.mono kp _ _⟩
 ·by_cases hj:j=i
  ·subst hj;rw [Z5 hl]at e2;cases e2;cases m1
  ·by_cases hk:k=i
   ·subst hk;rw [Z5 hl]at e3;cases e3;cases m2
   ·rw [aF (fun z=>hj z.symm)]at e2
    rw [aF (fun z=>hk z.symm)]at e3
    exact hR.apart j k s t v cA e2 e3 m1 m2 q1 q2
theorem DI.tup (he:DE X H0 e we):DI X H0 tg e (fun τ Q=>we τ fun r=>∃ds,r=.st (.tup ds)/\Q ds τ) where
 mono:=fun τ P Q f h=>he.mono τ _ _ (fun r ⟨ds,e1,q⟩=>⟨ds,e1,f _ _ q⟩) h
 pi:=piW (Y1o he.pe) fun σ H R ⟨τ,hR,h⟩=>⟨τ,hR,he.mono τ _ _ (fun r ⟨ds,e1,q⟩ v H1 s1 ir=>by
  subst e1
  have ir:A1 X.K H1 (.tup ds) v:=ir
  unfold A1 at ir
  obtain⟨a,xs,rfl,sq,al⟩:=ir
  refine⟨a,rfl,⟨xs,C0.of sq⟩,q _ _ (Kp.of s1) (hR.mono s1) ⟨fun H' k _ i hi=>⟨xs,xs[i]'(by rw [<- al.length];exact hi),C0.of (k.tup _ _ sq),ac _⟩,fun H' k _ i x dh d hd ⟨e,y⟩=>?_,fun H' k _=>⟨xs,C0.of (k.tup _ _ sq),by rw [al.length];exact ah _⟩⟩⟩
  subst e
  have hx:=y xs (C0.of (k.tup _ _ sq))
  obtain⟨v,hv,q⟩:=(al.mono k _ _).get hd
  rw [hx]at hv;cases hv
  exact⟨A4.refl _,q⟩) h⟩
noncomputable def L0 (lo:Int) (n:Nat):List D:=(List.range n).map fun(i:Nat)=>.int (lo+(i:Int))
theorem Z0c {K:Fg9}{H0 H:Hp}{lo:Int}{n:Nat}:Yl K H0 (Itr lo n) (L0 lo n) H where
 go:=fun H' _ _ i hi=>by
  have:i<n:=by simpa [L0]using hi
  exact this
 yld:=fun H' _ _ i x dh d hd ⟨e,y⟩=>by
  subst e
  refine⟨A4.refl _,?_⟩
  unfold L0 at hd
  rw [ai]at hd
  rcases bD i n with hi | hi
  ·rw [List.getElem?_range hi]at hd
   have e:D.int (lo+i)=d:=aB hd
   subst e y
   exact A1.s_int
  ·rw [aH.mpr (by simpa using hi)]at hd;cases hd
 stop:=fun H' _ _=>by
  show n<=(L0 lo n).length
  simp [L0]
variable {wr:WA}
theorem DI.rng1 {p:Pos} (hg:Gl X "range") (hm:X.mg "range"=none) (ha:DA X H0 [a] wr) (hs:starEach [a] X.env=[(false,eval a X.env)]:=by rfl) :
  DI X H0 tg (.Call (.Name "range" p) [a] [] pos) (fun τ Q=>wr τ fun rs=>∃j:Int,rs=[.st (.int j)]/\-(2 ^ 62)<=j/\j<2 ^ 62/\Q (L0 0 j.toNat) τ) where
 mono:=fun τ P Q f h=>ha.mono τ _ _ (fun r ⟨j,e1,h1,h2,q⟩=>⟨j,e1,h1,h2,f _ _ q⟩) h
 pi:=piW (Y1n hg hm ha.pa hs) fun σ H R ⟨τ,hR,h⟩=>⟨τ,hR,ha.mono τ _ _ (fun r ⟨j,e1,h1,h2,q⟩ vs H1 s1 cq=>by
  subst e1
  obtain⟨v,rfl,ir⟩:=V3 cq
  cases (show v=.int j from ir)
  exact⟨j,rfl,h1,h2,q _ _ (Kp.of s1) (hR.mono s1) Z0c⟩) h⟩
theorem Z0u {K:Fg9}{H0 H:Hp}{r r':R}{vs:List V} (h:M6 K H0 H [r,r'] vs):∃v u,vs=[v,u]/\D9 K H0 H r v/\D9 K H0 H r' u:=by
 obtain⟨v,t,rfl,q,z⟩:=h
 obtain⟨u,rfl,q'⟩:=V3 z
 exact⟨v,u,rfl,q,q'⟩
noncomputable def C6 (g:WG) (wb:WS) (E:F3):List D->A8->Prop
 | [],τ=>E.nx τ
 | d::ds,τ=>g d τ fun τ'=>wb { E with nx:=C6 g wb E ds,ct:=C6 g wb E ds,bk:=E.nx } τ'
theorem Z1r {g:WG}{wb:WS} (hg:∀d τ (P Q:A8->Prop),(∀ τ,P τ->Q τ)->g d τ P->g d τ Q) (hb:∀(τ:A8) (E F:F3),E.Le F->wb E τ->wb F τ) {E F:F3} (le:E.Le F):∀(ds:List D) (τ:A8),C6 g wb E ds τ->C6 g wb F ds τ
 | [],τ,h=>le.nx τ h
 | d::ds,τ,h=>hg d τ _ _ (fun τ' h=>hb τ' { E with nx:=C6 g wb E ds,ct:=C6 g wb E ds,bk:=E.nx } { F with nx:=C6 g wb F ds,ct:=C6 g wb F ds,bk:=F.nx } ⟨fun τ h=>Z1r hg hb le ds τ h,le.rt,le.nx,fun τ h=>Z1r hg hb le ds τ h⟩ h) h
theorem DS.for {body:List Stmt}{wi:WI}{g:WG}{wb:WS} (hp:PassesOwn (model X.prog X.w) X.A X.env X.xe) (hc:X.calm=true) (hi:DI X H0 tg iter wi) (hg:DG X H0 tg g) (hb:A5 X H0 body wb)
  (hs:∀x,foldedSetIterable iter X.env x=pure x:=by intro _;rfl):DS X H0 (.For tg iter body [] pos) (fun E τ=>wi τ fun ds τ'=>C6 g wb E ds τ') where
 mono:=fun τ E F le h=>hi.mono τ _ _ (fun ds τ' h=>Z1r hg.mono hb.mono le ds τ' h) h
 ps:=Q0 (W3t hp hc hi.pi hg.pg hb.ps hs) fun D σ H ⟨τ,hR,h⟩=>⟨τ,hR,hi.mono τ _ _ (fun ds τ' h J H1 k1 dI yl=>by
  refine⟨fun i m σ H2=>∃ τ,B5 X.K H0 τ σ H2/\Kp H1 H2/\i<=ds.length/\m=ds.length-i/\C6 g wb (K8 X.K H0 H D) (ds.drop i) τ,⟨ds.length,τ',dI,Kp.refl _,bp _,rfl,h⟩,?_⟩
  rintro i m σ2 H2 ⟨τ2,dA,k2,jS,rfl,h2⟩
  by_cases bR:i<ds.length
  ·refine .inr ⟨yl.go H2 k2 dA.same i bR,fun σ' H'=>∃ τ,B5 X.K H0 τ σ' H'/\Kp H1 H'/\i+1<=ds.length/\C6 g wb (K8 X.K H0 H D) (ds.drop (i+1)) τ,fun σ' H' ⟨τ3,a3,b3,c3,d3⟩=>⟨ds.length-(i+1),by omega,τ3,a3,b3,c3,rfl,d3⟩,fun x H3 y=>?_⟩
   obtain⟨s3,ix⟩:=yl.yld H2 k2 dA.same i x H3 _ (ac bR) y
   rw [cG bR]at h2
   have k3:=k2.trans (Kp.of s3)
   refine⟨τ2,ds[i],dA.mono s3,ix,hg.mono _ _ _ _ (fun τ4 h4 σ4 H4 s4 j6=>⟨τ4,j6,?_⟩) h2⟩
   have k4:=k3.trans (Kp.of s4)
   have k5:=k1.trans k4
   exact hb.mono τ4 { K8 X.K H0 H D with nx:=C6 g wb (K8 X.K H0 H D) (ds.drop (i+1)),ct:=C6 g wb (K8 X.K H0 H D) (ds.drop (i+1)),bk:=(K8 X.K H0 H D).nx } _
    ⟨fun τ5 h5 σ5 H5 kk j5=>⟨τ5,j5,k4.trans kk,bR,h5⟩,fun _ h=>h,fun τ5 h5 σ5 H5 kk j5=>h5 σ5 H5 (k5.trans kk) j5,fun τ5 h5 σ5 H5 kk j5=>⟨τ5,j5,k4.trans kk,bR,h5⟩⟩ h4
  ·have e:i=ds.length:=by omega
   subst e
   rw [gt]at h2
   exact .inl ⟨yl.stop H2 k2 dA.same,h2 σ2 H2 (k1.trans k2) dA⟩) h⟩
end
noncomputable def R9 (env:Env):List (Str×NameKind)->List (Str×Addr)->List (Str×Addr)
 | [],c9=>c9
 | (n,k)::r,c9=>R9 env r (if (k==NameKind.free)=true then(n,(env.cells.lookup n).getD 0)::c9 else c9)
theorem Q7o {scope:Scope}{env:Env} (h:∀y∈scope.names,y.2=.free->∃c,env.cells.lookup y.1=some c):closureFor scope env=pure (R9 env scope.names []):=by
 have key:∀(l:List (Str×NameKind)) (c9:List (Str×Addr)),(∀y∈l,y.2=.free->∃c,env.cells.lookup y.1=some c) ->
   (forIn l c9 fun x r=>(if (x.2==NameKind.free)=true then cellOf env x.1>>=fun c=>pure (ForInStep.yield ((x.1,c)::r))else pure (ForInStep.yield r):Sem (ForInStep (List (Str×Addr)))))=pure (R9 env l c9):=by
  intro l
  induction l with
  | nil=>intro c9 _;rfl
  | cons x r ih =>
   intro c9 hl
   obtain⟨n,k⟩:=x
   have hr:∀y∈r,y.2=.free->∃c,env.cells.lookup y.1=some c:=fun y hy=>hl y (av _ hy)
   rw [be]
   by_cases hk:(k==NameKind.free)=true
   ·obtain⟨c,hc⟩:=hl (n,k) ar (eq_of_beq hk)
    have hc:env.cells.lookup n=some c:=hc
    have e:cellOf env n=pure c:=by unfold cellOf;rw [hc]
    show((if (k==NameKind.free)=true then cellOf env n>>=fun c=>pure (ForInStep.yield ((n,c)::c9))else pure (ForInStep.yield c9))>>=_)=_
    rw [aI hk,e]
    show _=pure (R9 env r (if (k==NameKind.free)=true then(n,(env.cells.lookup n).getD 0)::c9 else c9))
    rw [aI hk,hc]
    exact ih _ hr
   ·show((if (k==NameKind.free)=true then cellOf env n>>=fun c=>pure (ForInStep.yield ((n,c)::c9))else pure (ForInStep.yield c9))>>=_)=_
    rw [aD hk]
    show _=pure (R9 env r (if (k==NameKind.free)=true then(n,(env.cells.lookup n).getD 0)::c9 else c9))
    rw [aD hk]
    exact ih _ hr
 simp only [closureFor]
 rw [key scope.names [] h]
 rfl
theorem Z7p {env:Env}:∀(l:List (Str×NameKind)) (c9:List (Str×Addr)) (p:Str×Addr),p∈R9 env l c9->p∈c9\/((p.1,NameKind.free)∈l/\p.2=(env.cells.lookup p.1).getD 0)
 | [],c9,p,h=>.inl h
 | (n,k)::r,c9,p,h=>by
  rcases Z7p r _ p h with q | ⟨q1,q2⟩
  ·by_cases hk:(k==NameKind.free)=true
   ·rw [aI hk]at q
    rcases aj.mp q with q | q
    ·refine .inr ⟨?_,by rw [q]⟩
     have:k=NameKind.free:=eq_of_beq hk
     rw [q,this];exact ar
    ·exact .inl q
   ·rw [aD hk]at q;exact .inl q
  ·exact .inr ⟨av _ q1,q2⟩
theorem Z7o {env:Env}:∀(l:List (Str×NameKind)) (c9:List (Str×Addr)) (n:Str),((n,NameKind.free)∈l\/∃c,(n,c)∈c9)->∃c,(n,c)∈R9 env l c9
 | [],c9,n,h=>by
  rcases h with h | h
  ·cases h
  ·exact h
 | (m,k)::r,c9,n,h=>by
  refine Z7o r _ n ?_
  rcases h with h | ⟨c,h⟩
  ·rcases aj.mp h with e | h
   ·cases e
    refine .inr ⟨(env.cells.lookup m).getD 0,?_⟩
    rw [aI (by rfl)]
    exact ar
   ·exact .inl h
  ·refine .inr ⟨c,?_⟩
   split
   ·exact av _ h
   ·exact h
theorem Q7z {α:Type}:∀{l:List (Str×α)}{x:Str}{c:α},l.lookup x=some c->(x,c)∈l
 | [],_,_,h=>by simp at h
 | (n,d)::r,x,c,h=>by
  rw [List.lookup_cons]at h
  cases e:x==n with
  | true=>rw [e]at h;cases h;rw [eq_of_beq e];exact ar
  | false=>rw [e]at h;exact av _ (Q7z h)
theorem Y0j {α:Type}:∀{l:List (Str×α)}{x:Str}{c:α},(x,c)∈l->∃d,l.lookup x=some d
 | [],_,_,h=>by cases h
 | (n,d)::r,x,c,h=>by
  rw [List.lookup_cons]
  cases e:x==n with
  | true=>exact⟨d,rfl⟩
  | false =>
   rcases aj.mp h with q | q
   ·cases q;simp at e
   ·exact Y0j q
noncomputable def blk (X:Cx) (scope:Scope) (C:Addr) (s:Shared) (H:Hp) (fp:List Addr) (N:List Str):Cx :=
 { X with N:=N,s₀:=s,H₀:=H,env:=compEnvC scope (R9 X.env scope.names []) C X.env,outer:=X.stack,ex:=fp,fn:=fun _=>false,pn:=[],xe:=fun _ _=>False }
structure J3 (X:Cx) (scope:Scope) (N:List Str) (nt:Nat) (cap:List Nat):Prop where
 kind:scope.kind=.function
 cell:∀y∈scope.names,y.2≠.cell
 names:∀y∈scope.names,y.2=.local->scope.names.lookup y.1=some .local
 only:∀y∈scope.names,y.2=.free->scope.names.lookup y.1=some .free
 free:∀y∈scope.names,y.2=.free->X.env.kindOf y.1=some .cell\/X.env.kindOf y.1=some .free
 len:N.length=nt+cap.length
 caps:∀(j i:Nat) (x:Str),cap[j]?=some i->N[nt+j]?=some x->X.N[i]?=some x/\(x,NameKind.free)∈scope.names
section
variable {X:Cx}{scope:Scope}{N:List Str}{nt:Nat}{cap:List Nat}{ae:Pn9} {σ:St}{H:Hp}{s:Shared}
theorem U4 (I:A0 X ae σ H s) (B:J3 X scope N nt cap) {x:Str}{c:Addr} (h:(R9 X.env scope.names []).lookup x=some c):X.env.cells.lookup x=some c:=by
 rcases Z7p _ _ _ (Q7z h)with q | ⟨q1,q2⟩
 ·cases q
 ·obtain⟨d,hd⟩:=I.ok.has x (B.free _ q1 rfl)
  have q2:c=(X.env.cells.lookup x).getD 0:=q2
  rw [hd]at q2 ⊢
  rw [q2];rfl
theorem Z1f (I:A0 X ae σ H s) (B:J3 X scope N nt cap) {x:Str} (h:(x,NameKind.free)∈scope.names):∃c,(R9 X.env scope.names []).lookup x=some c:=by
 obtain⟨c,hc⟩:=Z7o (env:=X.env) scope.names [] x (.inl h)
 exact Y0j hc
theorem Y2b {env:Env}{x:Str}{k:NameKind} (h:(relabel scope env).names.lookup x=some k) (hk:k=.cell\/k=.free) (nc:∀y∈scope.names,y.2≠.cell):(x,NameKind.free)∈scope.names:=by
 have m:=Q7z h
 unfold relabel at m
 obtain⟨⟨n,k'⟩,hm,e⟩:=aq.mp m
 dsimp only at e
 split at e
 ·rename_i hc
  cases e
  simp only [cg]at hc
  have:k'=NameKind.free:=eq_of_beq hc.1.1
  rw [<- this];exact hm
 ·cases e
  rcases hk with rfl | rfl
  ·exact absurd rfl (nc _ hm)
  ·exact hm
theorem Y6o (I:A0 X ae σ H s) (B:J3 X scope N nt cap) {C:Addr}{fp:List Addr} (hC:s.heap.objs.size<=C) (hf:∀b∈fp,K2 X ae H b) (fG:∀b∈fp,b<s.heap.objs.size):(blk X scope C s H fp N).Ok where
 mod:=I.ok.mod
 kind:=B.kind
 glob:=I.ok.glob
 blt:=I.ok.blt
 above:=hC
 inj:=fun x y c h1 h2=>I.ok.inj x y c (U4 I B h1) (U4 I B h2)
 has:=fun x h=>by
  rcases h with h | h
  ·exact Z1f I B (Y2b h (.inl rfl) B.cell)
  ·exact Z1f I B (Y2b h (.inr rfl) B.cell)
 cab:=fun x c h=>by cases h
 hd:=I.ok.hd
 frames:=I.ok.frames
 stk:=.inl rfl
 exf:=fun b hb=>⟨ay (ax (fG b hb) hC),fun x c h=>(hf b hb).2.2.2.2.1 x c (U4 I B h)⟩
 bs:=I.bs
 bsz:=aR I.ok.bsz I.sz
 noex:=fun b o e hb=>by
  rcases (hf b hb).2.2.2.1 with z | z
  ·exact I.ok.noex b o e z
  ·exact absurd (ax (ak e) (aR I.ok.bsz z)) (aO _)
 exfs:=fun b hb z=>by
  rcases aj.mp (I.stkSub b z)with e | e
  ·exact(hf b hb).2.1 e
  ·exact(hf b hb).2.2.1 e
 funs:=I.stack
 frf:=I.stkFree
theorem Q7j (I:A0 X ae σ H s) (B:J3 X scope N nt cap) {C:Addr}{fp:List Addr} (hf:∀b∈fp,K2 X ae H b) (fG:∀b∈fp,b<s.heap.objs.size) {h':Heap}{t':Nat}{m:Str->Option Value}
  (hC:s.heap.objs.size<=C) (iY:h'.Ns C m) (k:∀b o,s.heap.get? b=some o->h'.get? b=some o) :
  A0 (blk X scope C s H fp N) [] (List.replicate nt none++cap.map fun i=>(σ[i]?).join) H { s with heap:=h',toks:=t' }:=by
 refine⟨Y6o I B hC hf fG,rfl,I.bare,Un.kept k,⟨m,iY,fun i x v h1 h2 h3=>?_⟩,fun x c h=>?_,I.hok.fresh hC,fun x c h=>I.freeC x c (U4 I B h),(fun p hp=>by cases hp),I.hok.kept k,?_⟩
 ·have h1:N[i]?=some x:=h1
  by_cases hi:i<nt
  ·rw [aJ (by rw [aX];exact hi)]at h2
   have:=aC h2
   rw [List.mem_replicate]at this
   cases this.2
  ·rw [aT (by rw [aX];omega),aX,ai]at h2
   cases e:cap[i-nt]? with
   | none=>rw [e]at h2;cases h2
   | some j =>
    rw [e]at h2
    have h2:(σ[j]?).join=some v:=aB h2
    have hσ:σ[j]?=some (some v):=by
     cases q:σ[j]? with
     | none=>rw [q]at h2;cases h2
     | some o=>rw [q]at h2;exact congrArg some h2
    obtain⟨hN,hx⟩:=B.caps (i-nt) j x e (by rw [show nt+(i-nt)=i by omega];exact h1)
    obtain⟨m0,rW,hl⟩:=I.loc
    have kd:=B.free _ hx rfl
    obtain⟨u,r,l⟩:=hl j x v hN hσ (.inr kd)
    refine⟨u,r,?_⟩
    obtain⟨c,hc⟩:=Z1f I B hx
    have dg:∃c',X.env.cells.lookup x=some c'/\s.heap.IsCell c' (some u):=by
     rcases l with⟨l1,_⟩ | ⟨_,l2⟩
     ·rcases kd with kd | kd
      ·rw [kd]at l1;cases l1
      ·rw [kd]at l1;cases l1
     ·exact l2
    obtain⟨c',dB,o,ho,hd⟩:=dg
    rw [U4 I B hc]at dB;cases dB
    have h3:Vis (relabel scope X.env) x:=h3
    refine .inr ⟨?_,c,hc,o,k _ _ ho,hd⟩
    rcases h3 with h3 | h3 | h3
    ·exfalso
     have m1:=Q7z h3
     unfold relabel at m1
     obtain⟨⟨n,k'⟩,hm,e'⟩:=aq.mp m1
     dsimp only at e'
     split at e'
     ·cases e'
     ·cases e'
      have a1:=B.names _ hm rfl
      have a1:scope.names.lookup x=some .local:=a1
      rw [B.only _ hx rfl]at a1;cases a1
    ·exact .inl h3
    ·exact .inr h3
 ·obtain⟨v,o,ho,hd⟩:=I.cell x c (U4 I B h)
  exact⟨v,o,k _ _ ho,hd⟩
 ·rw [aA,aX,ag];exact B.len.symm
end
section
variable {prog:Program}{w:World}{A:Around}{RR:Result->Shared->Prop}{s:Shared}
theorem Z1g {dS target iter:Expr}{eO:List Expr}{scope:Scope}{pos:Pos}{it c9:Value}{env:Env} (I:Nat->Shared->Prop)
  (fx:∀n s,I n s->wpAny (model prog w) A (pyNext it) (fun r s₁=>match r with
   | none=>RR (.ok .next) s₁
   | some v=>wpAny (model prog w) A (letOwnedTupleGo target it v) (fun _ sa=>wpAny (model prog w) A (assign target env v) (fun _ s₂ =>
     wpAny (model prog w) A (forIn eO true fun c r=>if r=true then do let ok <- isTrue c env (eval c env);pure (ForInStep.yield ok)else pure (ForInStep.yield r)) (fun ok s₃ =>
      if ok=true then wpAny (model prog w) A (eval dS env) (fun x s₄ =>
       wpAny (model prog w) A (call (.builtin "list.append") [c9,x]) (fun _ s₅=>∃m,m<n/\I m s₅) (fun _ _=>False) s₄) (fun _ _=>False) s₃
      else ∃m,m<n/\I m s₃) (fun _ _=>False) s₂) (fun _ _=>False) sa) (fun _ _=>False) s₁) (fun _ _=>False) s)
  (n:Nat) (h:I n s):codeAny (model prog w) A (.compLoop (.ListComp dS [⟨target,iter,eO,0⟩] scope pos) 0 it c9 env) RR s:=by
 refine codeAny_loop rfl I (fun n s hI=>?_) n h
 show wpAny _ _ ((compTurn (.ListComp dS [⟨target,iter,eO,0⟩] scope pos) 0 it c9 env).onRaise (fun x=>do noteFrame x env;theTreesLotGoes x)) _ _ s
 refine wpAny_noted ?_
 rw [compTurn_list]
 refine a9 (wpAny_standAt (a9 (aL (fx n s hI) (fun r s₁ h₁=>?_) fun _ _ h'=>h'.elim)))
 cases r with
 | none=>exact af h₁
 | some v =>
  refine a9 (aL h₁ (fun _ sa ha=>?_) fun _ _ h'=>h'.elim)
  refine a9 (aL ha (fun _ s₂ h₂=>a9 (aL h₂ (fun ok s₃ h₃=>?_) fun _ _ h'=>h'.elim)) fun _ _ h'=>h'.elim)
  cases ok with
  | false=>exact af ⟨rfl,h₃⟩
  | true =>
   exact a9 (a9 (aL h₃ (fun x s₄ h₄=>a9 (aL h₄ (fun _ s₅ h₅=>af (af ⟨rfl,h₅⟩)) fun _ _ h'=>h'.elim)) fun _ _ h'=>h'.elim))
end
structure YlS (K:Fg9) (J:It) (ds:List D) (H:Hp):Prop where
 go:∀H',A4 H H'->∀i,i<ds.length->J.go i H'
 yld:∀H',A4 H H'->∀i x dh d,ds[i]?=some d->J.yld i H' x dh->A4 H' dh/\A1 K dh d x
 stop:∀H',A4 H H'->J.stop ds.length H'
noncomputable abbrev P5:=A8->(List D->Prop)->Prop
noncomputable def Y9x (K:Fg9) (H0:Hp) (wi:P5):TI:=fun σ H R=>∃ τ,B5 K H0 τ σ H/\wi τ fun ds=>∀J H',A4 H H'->YlS K J ds H'->R J H'
structure E5 (X:Cx) (H0:Hp) (tg iter:Expr) (wi:P5):Prop where
 mono:∀ τ (P Q:List D->Prop),(∀ds,P ds->Q ds)->wi τ P->wi τ Q
 pi:PI X tg iter (Y9x X.K H0 wi)
def IfsR (X:Cx) (eO:List Expr) (t:TT):Prop :=
 ∀(ae:Pn9) (s:Shared) (σ:St) (H:Hp) (Q:Bool->Hp->Prop),A0 X ae σ H s->t σ H Q ->
  wpAny (model X.prog X.w) X.A (forIn eO true fun c r=>if r=true then do let ok <- isTrue c X.env (eval c X.env);pure (ForInStep.yield ok)else pure (ForInStep.yield r)) (TP X ae σ Q) X.xe s
structure O3 (X:Cx) (H0:Hp) (eO:List Expr) (t:WT):Prop where
 mono:∀(τ:A8) (P Q:Bool->Prop),(∀r,P r->Q r)->t τ P->t τ Q
 pt:IfsR X eO (Z2p X.K H0 t)
theorem O3.nil {X:Cx}{H0:Hp}:O3 X H0 [] (fun _ Q=>Q true) where
 mono:=fun τ P Q f h=>f _ h
 pt:=fun ae s σ H Q I ⟨τ,hR,h⟩=>wpAny_tests_nil ⟨H,I,h H (A4.refl H)⟩
theorem O3.one {X:Cx}{H0:Hp}{c:Expr}{t:WT} (hc:DT X H0 c t):O3 X H0 [c] t where
 mono:=hc.mono
 pt:=fun ae s σ H Q I h=>wpAny_tests_one (hc.pt ae s σ H Q I h)
noncomputable def G8 (g:WG) (t:WT) (we:WE):List D->A8->(List D->Prop)->Prop
 | [],_,Q=>Q []
 | d::ds,τ,Q=>g d τ fun τ'=>t τ' fun k=>if k=true then we τ' fun r=>∃e,r=.st e/\G8 g t we ds τ' fun es=>Q (e::es)else G8 g t we ds τ' Q
theorem Z1h {g:WG}{t:WT}{we:WE} (hg:∀d τ (P Q:A8->Prop),(∀ τ,P τ->Q τ)->g d τ P->g d τ Q) (ht:∀(τ:A8) (P Q:Bool->Prop),(∀r,P r->Q r)->t τ P->t τ Q) (he:∀(τ:A8) (P Q:R->Prop),(∀r,P r->Q r)->we τ P->we τ Q) :
  ∀(ds:List D) (τ:A8) (P Q:List D->Prop),(∀es,P es->Q es)->G8 g t we ds τ P->G8 g t we ds τ Q
 | [],_,_,_,f,h=>f _ h
 | d::ds,τ,P,Q,f,h=>hg d τ _ _ (fun τ' h=>ht τ' _ _ (fun k h=>Z8 (fun h=>he τ' _ _ (fun r ⟨e,e1,h⟩=>⟨e,e1,Z1h hg ht he ds τ' _ _ (fun es h=>f _ h) h⟩) h) (fun h=>Z1h hg ht he ds τ' _ _ f h) h) h) h
noncomputable def Q5i:Sl->Option Sl
 | .dat d=>some (.dat d)
 | .own ds=>some (.bor ds)
 | .bor ds=>some (.bor ds)
 | .dt k=>some (.bd k)
 | .bd k=>some (.bd k)
 | .cl a Φ=>some (.cl a Φ)
 | _=>none
noncomputable def R5 (nt:Nat) (cap:List Nat) (τ:A8):A8:=List.replicate nt none++cap.map fun i=>((τ[i]?).join).bind Q5i
theorem Z3m {K:Fg9}{H0 H:Hp} {τ:A8} {σ:St} (hR:B5 K H0 τ σ H) (nt:Nat) (cap:List Nat):B5 K H (R5 nt cap τ) (List.replicate nt none++cap.map fun i=>(σ[i]?).join) H:=by
 have at_:∀(i:Nat) (s:Sl),(R5 nt cap τ)[i]?=some (some s)->nt<=i/\∃j t,cap[i-nt]?=some j/\τ[j]?=some (some t)/\Q5i t=some s:=fun i s e=>by
  unfold R5 at e
  by_cases hi:i<nt
  ·rw [aJ (by rw [aX];exact hi)]at e
   have:=aC e
   rw [List.mem_replicate]at this
   cases this.2
  ·rw [aT (by rw [aX];omega),aX,ai]at e
   cases q:cap[i-nt]? with
   | none=>rw [q]at e;cases e
   | some j =>
    rw [q]at e
    have e:((τ[j]?).join).bind Q5i=some s:=aB e
    cases q2:τ[j]? with
    | none=>rw [q2]at e;cases e
    | some o =>
     rw [q2]at e
     cases o with
     | none=>cases e
     | some t=>exact⟨by omega,j,t,rfl,q2,e⟩
 refine⟨?_,A4.refl H,fun i s e=>?_,fun i j s t v _ e1 _ m _ _ _=>?_⟩
 ·unfold R5
  rw [aA,aA,ag,ag,aX,aX]
 ·obtain⟨hi,j,t,hc,ht,hb⟩:=at_ i s e
  obtain⟨v,hv,q⟩:=hR.here j t ht
  refine⟨v,?_,?_⟩
  ·rw [aT (by rw [aX];omega),aX,ai,hc]
   show some ((σ[j]?).join)=_
   rw [hv];rfl
  ·cases t with
   | dat d=>cases hb;exact q
   | own ds=>cases hb;obtain⟨a,xs,e,_,q,al⟩:=q;exact⟨a,xs,e,q,al⟩
   | bor ds=>cases hb;obtain⟨a,xs,e,q,al⟩:=q;exact⟨a,xs,e,hR.same _ _ q,al⟩
   | bd ds=>cases hb;obtain⟨a,xs,e,q,al⟩:=q;exact⟨a,xs,e,hR.same _ _ q,al⟩
   | dk _=>cases hb
   | dt ds=>cases hb;obtain⟨a,xs,e,_,q,al⟩:=q;exact⟨a,xs,e,q,al⟩
   | ob _=>cases hb
   | cl _ _=>cases hb;exact q
   | ll _ _=>cases hb
   | ins _ _ _=>cases hb
 ·obtain⟨hi,j',t',hc,ht,hb⟩:=at_ i s e1
  cases t' with
  | dat d=>cases hb;cases m
  | own ds=>cases hb;cases m
  | bor ds=>cases hb;cases m
  | dk _=>cases hb
  | dt _=>cases hb;cases m
  | bd _=>cases hb;cases m
  | ob _=>cases hb
  | cl _ _=>cases hb;cases m
  | ll _ _=>cases hb
  | ins _ _ _=>cases hb
theorem Z8v {C:Addr}{h h':Heap} (sb:Heap.SameBut C h h'):∀b o,b≠C->h.get? b=some o->h'.get? b=some o:=fun b o hb e=>(sb.2 b hb).trans e
theorem Z0y {X:Cx}{ae:Pn9} {σ:St}{H2 H':Hp}{s2 s1:Shared}{scope:Scope}{C D0:Addr}{fp:List Addr}{N:List Str}{pb:Pn9} {σ':St}{vs:List V}{ys:Array Value}{h':Heap}
  (I2:A0 X ae σ H2 s2) (Ib:A0 (blk X scope C s2 H2 fp N) pb σ' H' s1) (f2:∀b∈fp,K2 X ae H2 b) (hC:s2.heap.objs.size<=C) (hD:s2.heap.objs.size<=D0) (cI:D0≠C) (mW:H' D0=none)
  (hl:s1.heap.PlainList D0 ys) (rv:B9 vs ys.toList) (hz:vs.length<=sizeLine) (sb:Heap.SameBut C s1.heap h'):A0 X ae σ (upd H' D0 (.lst vs)) { s1 with heap:=h' }:=by
 have jn:∀b o,s2.heap.get? b=some o->b≠C:=fun b o e=>ay (ax (ak e) hC)
 have lN:∀b o,s2.heap.get? b=some o->b≠D0:=fun b o e=>ay (ax (ak e) hD)
 have keep:=Z8v sb
 have base:Un (frs X.stack) fp H2 H' s2.heap s1.heap:=Ib.base
 have mX:H' C=none:=Ib.free
 have hZ:∀b u,H' b=some u->b≠C:=fun b u e z=>by rw [z,mX]at e;cases e
 have gE:∀b u,H' b=some u->b≠D0:=fun b u e z=>by rw [z,mW]at e;cases e
 refine I2.call' (s':={ s1 with heap:=h' }) (ch:=fp) Ib.os ⟨fun b o e n hb hx=>keep b o (jn b o e) (base.keep b o e n hb hx),fun b o e n hb hx=>?_,fun b o e n hx=>?_,fun b o e hx=>?_,fun b xs e=>?_,fun b o u e=>?_,fun b ps e=>?_⟩ (fun b u e=>?_) Ib.bare (fun b hb=>?_)
 ·obtain⟨sl,q⟩:=base.slot b o e n hb hx
  exact⟨sl,keep b _ (jn b o e) q⟩
 ·rw [B0 (lN b o e)];exact base.free b o e n hx
 ·obtain⟨o',q⟩:=base.there b o e hx
  exact⟨o',keep b o' (jn b o e) q⟩
 ·have q:=base.tups b xs e
  rw [B0 (gE b _ q)];exact q
 ·have q:=base.frzs b o u e
  rw [B0 (gE b _ q)];exact q
 ·obtain⟨more,q⟩:=base.tbls b ps e
  exact⟨more,by rw [B0 (gE b _ q)];exact q⟩
 ·by_cases hb:b=D0
  ·subst hb
   rw [upd_same]at e;cases e
   obtain⟨n,ho⟩:=hl
   exact⟨hz,ys.toList,n,rv,keep b _ cI (by rw [ho])⟩
  ·rw [B0 hb]at e
   refine(Ib.hok b u e).stay (fun c v hc q=>keep c v ?_ q) (fun c u _ q=>by rw [B0 (gE c _ q)];exact q) fun c xs q=>by rw [B0 (gE c _ q)];exact q
   rcases hc with z | z
   ·rw [z];exact hZ b u e
   ·exact hZ c _ z
 ·obtain⟨_,a2,a3,a4,a5,a6⟩:=f2 b hb
  exact⟨a4,a2,a5,a6⟩
section
variable {X:Cx}{H0:Hp}{tg iter dS:Expr}{eO:List Expr}{scope:Scope}{pos:Pos}{N:List Str}{nt:Nat}{cap:List Nat}{wi:P5}{g:WG}{t:WT}{we:WE}
def N1 (nt:Nat) (cap:List Nat) (wi:P5) (g:WG) (t:WT) (we:WE):WE:=fun τ Q=>wi τ fun ds=>ds.length<=sizeLine/\G8 g t we ds (R5 nt cap τ) fun es=>Q (.nw es)
theorem Z7v {use:Option (Value->Sem Unit)}{QQ:VS9}{P:List D->Prop}{gC:Pos}{ae:Pn9}{s:Shared} {σ:St}{H:Hp} {τ:A8} (hc:X.calm=true) (B:J3 X scope N nt cap) (hi:E5 X H0 tg iter wi)
  (hg:∀C s H fp,DG (blk X scope C s H fp N) H tg g) (ht:∀C s H fp,O3 (blk X scope C s H fp N) H eO t) (he:∀C s H fp,DE (blk X scope C s H fp N) H dS we) (hs:∀x,foldedSetIterable iter X.env x=pure x)
  (I:A0 X ae σ H s) (hR:B5 X.K H0 τ σ H) (hw:wi τ fun ds=>ds.length<=sizeLine/\G8 g t we ds (R5 nt cap τ) P)
  (fin:∀(C D0:Addr) (s2 s4:Shared) (H2 H4:Hp) (fp:List Addr) (pb:Pn9) (σ4:St) (vs:List V) (ys:Array Value) (es:List D) (f:Flow),A0 X ae σ H2 s2->A4 H H2->A0 (blk X scope C s2 H2 fp N) pb σ4 H4 s4->(∀b∈fp,K2 X ae H2 b) ->
   s2.heap.objs.size<=C->s2.heap.objs.size<=D0->D0≠C->H4 D0=none->s4.heap.PlainList D0 ys->B9 vs ys.toList->vs.length<=sizeLine->A4 H2 H4->AllS X.K H4 es vs->P es->compPost (model X.prog X.w) X.A X.xe use QQ (.ref D0) C (.ok f) s4) :
  wpAny (model X.prog X.w) X.A (comprehension (.ListComp dS [⟨tg,iter,eO,0⟩] scope pos) scope X.env gC (newList []) false (eval iter X.env) use) QQ X.xe s:=by
 refine wpAny_comprehension_free rfl hs (Q7o fun y hy e=>I.ok.has y.1 (B.free y hy e)) B.kind B.names ?_
 refine B2 (hi.pi ae s σ H (fun J H2=>A4 H H2/\∃ds,YlS X.K J ds H2/\ds.length<=sizeLine/\G8 g t we ds (R5 nt cap τ) P) I
  ⟨τ,hR,hi.mono τ _ _ (fun ds h J H' sm yl=>⟨sm,ds,yl,h.1,h.2⟩) hw⟩) fun v s1 h1=>B2 h1 fun iW s2 h2=>?_
 obtain⟨it,fp,tn,J,H2,e,I2,T,dC,f2,cX,ds,yl,hz,jr⟩:=h2
 subst e
 have fG:∀b∈fp,b<s2.heap.objs.size:=fun b hb=>by
  obtain⟨o,ho,_⟩:=T.obj _ _ dC b hb
  exact ak ho
 have dA:=hR.mono cX
 refine bt (gn B.cell (by intro y hy;simp at hy) (fun h₁ cF cp=>?_) B.kind)
 dsimp only at cF cp ⊢
 generalize hH2:s2.heap.push { cls:=.type "list",dict:=none,data:=.seq ([]:List Value).toArray }=Hq at cF cp ⊢
 have hC:Hq.objs.size=s2.heap.objs.size+1:=by rw [<- hH2,bn]
 have cI:s2.heap.objs.size≠Hq.objs.size:=by rw [hC];exact ay (cB _)
 have cj:s2.heap.objs.size<=Hq.objs.size:=by rw [hC];exact cx _
 have old:∀b o,s2.heap.get? b=some o->h₁.get? b=some o:=fun b o e=>cp.extBut b o (by rw [hC];exact ay (bx (ak e))) (aa _ (hH2 ▸ aa _ e))
 have dE:h₁.PlainList s2.heap.objs.size #[]:=⟨_,cp.extBut _ _ cI (aa _ (hH2 ▸ aw _ rfl))⟩
 generalize hCe:Hq.objs.size=C at cF cp hC cI cj ⊢
 generalize hDe:s2.heap.objs.size=D0 at hC cI cj dE ⊢
 have cR:∀b∈fp,b<D0:=fun b hb=>hDe ▸ fG b hb
 have dO:tn 0 h₁:=T.keep _ _ _ dC fun b _ o e=>old b o e
 have jK:=Q7j (C:=C) (h':=h₁) (t':=s2.toks+([]:List (Str×Value)).length) I2 B f2 fG (by rw [hDe];exact cj) cF old
 have gh:H2 D0=none:=I2.hok.fresh (by rw [hDe];exact ah _)
 have jl:D0∉frs X.stack:=fun z=>by
  rcases aj.mp (I2.stkSub _ z)with e | e
  ·have:=I2.lt;rw [<- e,hDe]at this;exact aO _ this
  ·exact I2.nofs (by rw [hDe];exact ah _) e
 have jm:∀x c,(R9 X.env scope.names []).lookup x=some c->c≠D0:=fun x c h z=>by
  obtain⟨v,q⟩:=I2.cell x c (U4 I2 B h)
  have:=q.lt
  rw [z,hDe]at this
  exact aO _ this
 have dM:∀{pb:Pn9} {σ':St}{H':Hp}{s':Shared}{ys:Array Value}{n:Nat},A0 (blk X scope C s2 H2 fp N) pb σ' H' s'->H' D0=none->s'.heap.get? D0=some { cls:=.type "list",data:=.seq ys n } ->
   A0 (blk X scope C s2 H2 fp N) [(D0,{ cls:=.type "list",data:=.seq ys n })] σ' H' s':=by
  intro pb σ' H' s' ys n I' n' e
  refine I'.pins_of fun p hp=>?_
  have e':p=(D0,{ cls:=.type "list",data:=.seq ys n }):=by simpa using hp
  subst e'
  exact⟨e,n',cI,jl,fun v z=>by cases z⟩
 have fH:∀{H':Hp}{ob:Obj},(∀b∈fp,H' b=none)->∀b∈fp,K2 (blk X scope C s2 H2 fp N) [(D0,ob)] H' b:=by
  intro H' ob hn b hb
  refine⟨hn b hb,(ay (ax (cR b hb) cj)),fun z=>?_,.inl hb,fun x c h=>(f2 b hb).2.2.2.2.1 x c (U4 I2 B h),fun p hp=>?_⟩
  ·rcases aj.mp (I2.stkSub b z)with e | e
   ·exact(f2 b hb).2.1 e
   ·exact(f2 b hb).2.2.1 e
  ·have e':p=(D0,ob):=by simpa [blk]using hp
   subst e'
   exact(ay (cR b hb)).symm
 let jb:Nat->Shared->Prop:=fun k s'=>∃(i:Nat) (σ':St) (H':Hp) (τ':A8) (ys:Array Value) (nn:Nat) (vs:List V) (es:List D),A0 (blk X scope C s2 H2 fp N) [(D0,{ cls:=.type "list",data:=.seq ys nn })] σ' H' s'/\B5 X.K H2 τ' σ' H'/\tn i s'.heap /\
  (∀b∈fp,H' b=none)/\H' D0=none/\B9 vs ys.toList/\AllS X.K H' es vs/\i<=ds.length/\k=ds.length-i/\es.length<=i/\G8 g t we (ds.drop i) τ' fun eQ=>P (es++eQ)
 have loop:∀s₃:Shared,s₃={ s2 with heap:=h₁,toks:=s2.toks+([]:List (Str×Value)).length } ->
   codeAny (model X.prog X.w) X.A (.compLoop (.ListComp dS [⟨tg,iter,eO,0⟩] scope pos) 0 (.ref it) (.ref D0) (compEnvC scope (R9 X.env scope.names []) C X.env))
    (compPost (model X.prog X.w) X.A X.xe use QQ (.ref D0) C) s₃:=by
  rintro s₃ rfl
  obtain⟨nn,ho⟩:=id dE
  refine Z1g jb ?_ ds.length ⟨0,_,H2,R5 nt cap τ,#[],nn,[],[],dM jK gh ho,Z3m dA nt cap,dO,fun b hb=>(f2 b hb).1,gh,.nil,AllS.nil,bp _,rfl,ah _,by simpa using jr⟩
  rintro k s3 ⟨i,σ3,H3,τ3,ys,nn,vs,es,I3,R3,fL,fP,d3,iS,kU,nZ,rfl,j2,w3⟩
  have c6:A4 H2 H3:=R3.same
  by_cases bR:i<ds.length
  ·refine aL (T.item (blk X scope C s2 H2 fp N) rfl rfl rfl hc i _ s3 σ3 H3 (fun _ _=>False) I3 (fH fP) fL (yl.go H3 c6 i bR)) (fun r s4 ⟨u,hr,h4⟩=>?_) fun _ _ z=>z
   subst hr
   refine aL h4 (fun _ s5 ⟨x,H5,I5,r5,y5,eD,iK⟩=>?_) fun _ _ z=>z
   obtain⟨g7,ix⟩:=yl.yld H3 c6 i x H5 _ (ac bR) y5
   rw [cG bR]at w3
   have iP:=I5.pinned (fH iK) (T.obj _ _ eD)
   have again:∀{σ7:St}{H7:Hp}{s7:Shared} {τ7:A8}{kX:Array Value}{lK:Nat}{vs7:List V}{es7:List D},A0 (blk X scope C s2 H2 fp N) (U1 fp s5.heap) σ7 H7 s7->B5 X.K H2 τ7 σ7 H7->H7 D0=none->s7.heap.get? D0=some { cls:=.type "list",data:=.seq kX lK } ->
     B9 vs7 kX.toList->AllS X.K H7 es7 vs7->es7.length<=i+1->G8 g t we (ds.drop (i+1)) τ7 (fun eQ=>P (es7++eQ))->∃m,m<ds.length-i/\jb m s7:=by
    intro σ7 H7 s7 τ7 kX lK vs7 es7 I7 R7 d7 o7 lG rM mI w7
    have pq:tn (i+1) s7.heap:=T.keep _ _ _ eD fun b hb o e=>(I7.pin (b,o) (am _ (Q0l hb e))).1
    refine⟨ds.length-(i+1),by omega,i+1,σ7,H7,τ7,kX,lK,vs7,es7,dM I7 d7 o7,R7,pq,fun b hb=>?_,d7,lG,rM,bR,rfl,mI,w7⟩
    obtain⟨o,e,_⟩:=T.obj _ _ eD b hb
    exact(I7.pin (b,o) (am _ (Q0l hb e))).2.1
   refine aL ((hg C s2 H2 fp).pg _ s5 σ3 H5 x u (fun σ6 H6=>∃ τ6,B5 X.K H2 τ6 σ6 H6/\A4 H5 H6/\t τ6 fun k=>if k=true then we τ6 fun r=>∃e,r=.st e/\G8 g t we (ds.drop (i+1)) τ6 fun eQ=>P (es++(e::eQ))
     else G8 g t we (ds.drop (i+1)) τ6 fun eQ=>P (es++eQ)) iP r5 ⟨τ3,ds[i],R3.mono g7,ix,(hg C s2 H2 fp).mono _ _ _ _ (fun τ6 h6 σ6 H6 gz R6=>⟨τ6,R6,gz,h6⟩) w3⟩) (fun _ s6 ⟨σ6,H6,I6,τ6,R6,gz,w6⟩=>?_) fun _ _ z=>z
   refine aL ((ht C s2 H2 fp).pt _ s6 σ6 H6 (fun k H7=>A4 H6 H7/\if k=true then we τ6 fun r=>∃e,r=.st e/\G8 g t we (ds.drop (i+1)) τ6 fun eQ=>P (es++(e::eQ))
     else G8 g t we (ds.drop (i+1)) τ6 fun eQ=>P (es++eQ)) I6 ⟨τ6,R6,(ht C s2 H2 fp).mono τ6 _ _ (fun k h H7 g6=>⟨g6,h⟩) w6⟩) (fun ok s7 ⟨H7,I7,g6,w7⟩=>?_) fun _ _ z=>z
   have pd:∀{σ':St}{H':Hp}{s':Shared},A0 (blk X scope C s2 H2 fp N) ([(D0,{ cls:=.type "list",data:=.seq ys nn })]++U1 fp s5.heap) σ' H' s'->s'.heap.get? D0=some { cls:=.type "list",data:=.seq ys nn }/\H' D0=none:=fun I' =>
    ⟨(I'.pin (D0,_) (am _ (bi _ ar))).1,(I'.pin (D0,_) (am _ (bi _ ar))).2.1⟩
   have pf:∀{σ':St}{H':Hp}{s':Shared},A0 (blk X scope C s2 H2 fp N) ([(D0,{ cls:=.type "list",data:=.seq ys nn })]++U1 fp s5.heap) σ' H' s'->A0 (blk X scope C s2 H2 fp N) (U1 fp s5.heap) σ' H' s':=fun I' =>
    I'.pins_of fun p hp=>I'.pin p (am _ (am _ hp))
   have nC:A4 H3 H7:=g7.trans (gz.trans g6)
   cases ok with
   | false =>
    rw [aD bK]at w7 ⊢
    exact again (pf I7) (R6.mono g6) (pd I7).2 (pd I7).1 iS (kU.mono (Kp.of nC) _ _) (by omega) w7
   | true =>
    rw [aI rfl]at w7 ⊢
    refine aL ((he C s2 H2 fp).pe _ s7 σ6 H7 (fun v H8=>A4 H7 H8/\∃e,A1 X.K H8 e v/\G8 g t we (ds.drop (i+1)) τ6 fun eQ=>P (es++(e::eQ))) I7
     ⟨τ6,R6.mono g6,(he C s2 H2 fp).mono τ6 _ _ (fun r ⟨e,e1,h⟩ v H8 gy ir=>⟨gy,e,by subst e1;exact ir,h⟩) w7⟩) (fun y s8 ⟨v8,H8,I8,jg,gy,e8,lX,w8⟩=>?_) fun _ _ z=>z
    obtain⟨o8,d8⟩:=pd I8
    have kr:ys.size<=sizeLine:=by
     have e1:=iS.length
     have e2:=kU.length
     have e4:ys.toList.length=ys.size:=by simp
     omega
    refine wpAny_list_append_plain (hsz:=kr) ⟨nn,o8⟩ fun h₅ kz ju=>?_
    have I9:A0 (blk X scope C s2 H2 fp N) (U1 fp s5.heap) σ6 H8 { s8 with heap:=h₅ }:=by
     refine(pf I8).turned (t':=s8.toks) (it:=D0) (fun b o hb e=>(ju.2 b hb).trans e) d8 cI (.inr (by rw [<- hDe];exact ah _)) jm (fun p hp z=>?_)
     obtain⟨q1,_⟩:=Q6e (by simpa [blk]using hp)
     exact ay (cR _ q1) z
    obtain⟨kf,o9⟩:=kz
    refine again I9 (R6.mono (g6.trans gy)) d8 o9 (vs7:=vs++[v8]) (es7:=es++[e8]) ?_ ((kU.mono (Kp.of (nC.trans gy)) _ _).append (AllS.cons lX AllS.nil)) (by rw [aA];simpa using j2) ?_
    ·have:(ys.push y).toList=ys.toList++[y]:=by simp
     rw [this]
     exact iS.append (.cons jg .nil)
    ·simpa using w8
  ·have e:i=ds.length:=by omega
   subst e
   refine aL (T.done (blk X scope C s2 H2 fp N) rfl rfl rfl hc ds.length _ s3 σ3 H3 (fun _ _=>False) I3 (fH fP) fL (yl.stop H3 c6)) (fun r s4 ⟨hr,I4⟩=>?_) fun _ _ z=>z
   subst hr
   have o4:=(I4.pin (D0,_) (am _ ar)).1
   rw [gt]at w3
   have w3:P (es++[]):=w3
   rw [ba]at w3
   have m7:vs.length<=sizeLine:=by rw [<- kU.length];omega
   exact fin C D0 s2 s4 H2 H3 fp _ σ3 vs ys es _ I2 cX I4 f2 (by rw [hDe];exact cj) (by rw [hDe];exact ah _) cI d3 ⟨nn,o4⟩ iS m7 c6 kU w3
 exact codeAny_compStart_list (loop _ rfl) (T.self _ 0 _ _ _ dO (loop _ rfl))
theorem DE.comp (hc:X.calm=true) (B:J3 X scope N nt cap) (hi:E5 X H0 tg iter wi) (hg:∀C s H fp,DG (blk X scope C s H fp N) H tg g) (ht:∀C s H fp,O3 (blk X scope C s H fp N) H eO t)
  (he:∀C s H fp,DE (blk X scope C s H fp N) H dS we) (hs:∀x,foldedSetIterable iter X.env x=pure x:=by intro _;rfl) :
  DE X H0 (.ListComp dS [⟨tg,iter,eO,0⟩] scope pos) (N1 nt cap wi g t we) where
 mono:=fun τ P Q f h=>hi.mono τ _ _ (fun ds h=>⟨h.1,Z1h (hg 0 X.s₀ X.H₀ []).mono (ht 0 X.s₀ X.H₀ []).mono (he 0 X.s₀ X.H₀ []).mono ds _ _ _ (fun es h=>f _ h) h.2⟩) h
 pe:=by
  intro ae s σ H Q I ⟨τ,hR,hw⟩
  rw [eval_ListComp]
  refine Z7v hc B hi hg ht he hs I hR hw fun C D0 s2 s4 H2 H4 fp pb σ4 vs ys es f I2 cX I4 f2 hC hD cI hn hl rv hz gw al w3=>?_
  obtain⟨m4,iE,_⟩:=id I4.loc
  refine⟨m4,iE,fun h' sb=>?_⟩
  exact⟨.ref D0,_,Z0y I2 I4 f2 hC hD cI hn hl rv hz sb,rfl,w3 _ _ (cX.trans (gw.trans (D5 hn _))) ⟨D0,vs,rfl,cX.free (I2.hok.fresh hD),upd_same,al.mono (Kp.of (D5 hn _)) _ _⟩⟩
end
section
variable {X:Cx}{H0:Hp}{tg iter dS:Expr}{eO:List Expr}{scope:Scope}{pos bF fb:Pos}{N:List Str}{nt:Nat}{cap:List Nat}{wi:P5}{g:WG}{t:WT}{we:WE}
theorem DS.setC {i:Nat}{x:Str} (hc:X.calm=true) (B:J3 X scope N nt cap) (hi:E5 X H0 tg iter wi) (hg:∀C s H fp,DG (blk X scope C s H fp N) H tg g) (ht:∀C s H fp,O3 (blk X scope C s H fp N) H eO t)
  (he:∀C s H fp,DE (blk X scope C s H fp N) H dS we) (hN:X.N.Nodup) (jC:X.N[i]?=some x) (hx:Loc X.env.scope x)
  (gJ:swapsWith (.ListComp dS [⟨tg,iter,eO,0⟩] scope pos) (some (.Name x bF)) fb.line X.env=pure true:=by rfl) (hs:∀x,foldedSetIterable iter X.env x=pure x:=by intro _;rfl)
  (hf:X.fn x=true\/X.env.scope.names.lookup x=some .local:=by first | exact .inl rfl | exact .inr rfl | assumption) :
  DS X H0 (.Assign [.Name x bF] (.ListComp dS [⟨tg,iter,eO,0⟩] scope pos) fb) (C3 i (N1 nt cap wi g t we)) where
 mono:=fun τ E F le h=>(DE.comp (pos:=pos) hc B hi hg ht he hs).mono τ _ _ (fun r h=>Z4f (fun s h=>le.nx _ h) h) h
 ps:=by
  intro ae s σ H D I ⟨τ,hR,hw⟩
  rw [exec_Assign_Name_used _ _ _ _ gJ]
  refine a9 (wpAny_standAt (a9 ?_))
  show wpAny _ X.A (do let _ <- comprehension (.ListComp dS [⟨tg,iter,eO,0⟩] scope pos) scope X.env _ (newList []) false (eval iter X.env) (some (assign (.Name x bF) X.env))) _ _ s
  refine a9 (aL (Z7v (use:=some (assign (.Name x bF) X.env)) (QQ:=fun _ s'=>SP X ae D .next s') hc B hi hg ht he hs I hR hw fun C D0 s2 s4 H2 H4 fp pb σ4 vs ys es f I2 cX I4 f2 hC hD cI hn hl rv hz gw al w3=>?_)
   (fun _ s' hq=>af (af hq)) fun _ _ e=>e)
  have Ib:A0 X ae σ (upd H4 D0 (.lst vs)) { s4 with heap:=s4.heap }:=Z0y I2 I4 f2 hC hD cI hn hl rv hz ⟨rfl,fun _ _=>rfl⟩
  have j8:C≠X.env.locals:=fun z=>aO _ (ax I2.lt (z ▸ hC))
  have j7:∀x c,X.env.cells.lookup x=some c->c≠C:=fun x c h z=>by
   obtain⟨v,q⟩:=I2.cell x c h
   exact aO _ (ax q.lt (z ▸ hC))
  show wpAny _ X.A (assign (.Name x bF) X.env (.ref D0)) _ _ s4
  refine wpAny_assign_Name (Q9h (v:=.ref D0) Ib hN jC hx rfl (fun s5 I5 ⟨a,k9,ha⟩=>?_) hf)
  obtain⟨m4,iE,_⟩:=id I4.loc
  have kN:C≠a:=by
   rcases ha with ha | ha
   ·rw [ha];exact j8
   ·exact fun z=>j7 _ _ ha z.symm
  refine⟨m4,iE.sameBut k9 kN,fun h' sb=>?_⟩
  have kO:H4 C=none:=I4.free
  have I6:A0 X ae (σ.set i (some (.ref D0))) (upd H4 D0 (.lst vs)) { s5 with heap:=h' }:=by
   refine I5.turned (t':=s5.toks) (it:=C) (fun b o hb e=>(sb.2 b hb).trans e) (by rw [B0 (bC cI)];exact kO) j8 (.inr (aR I2.sz hC)) j7 fun p hp z=>?_
   have:=(I2.pin p hp).1
   exact aO _ (ax (ak this) (z ▸ hC))
  obtain⟨sl,p,cM⟩:=hR.store (i:=i) (r:=.nw es) (v:=.ref D0) (H1:=upd H4 D0 (.lst vs)) (cX.trans (gw.trans (D5 hn _))) ⟨D0,vs,rfl,cX.free (I2.hok.fresh hD),upd_same,al.mono (Kp.of (D5 hn _)) _ _⟩ w3
  exact⟨_,_,I6,p _ _ (Kp.of (cX.trans (gw.trans (D5 hn _)))) cM⟩
end
section
variable {X:Cx}{H0:Hp}{a b c e tg:Expr}{pos:Pos}{wa wb we:WE}{wr:WA}
theorem E5.lst (he:DE X H0 e we):E5 X H0 tg e (fun τ Q=>we τ fun r=>∃ds,P9 r=some ds/\Q ds) where
 mono:=fun τ P Q f h=>he.mono τ _ _ (fun r ⟨ds,e1,q⟩=>⟨ds,e1,f _ q⟩) h
 pi:=piW (Y1m he.pe) fun σ H R ⟨τ,hR,h⟩=>⟨τ,hR,he.mono τ _ _ (fun r ⟨ds,e1,q⟩ v H1 s1 ir=>by
  obtain⟨a,xs,rfl,sq,al⟩:=Q1a e1 ir
  refine⟨a,rfl,⟨xs,sq⟩,q _ _ s1 ⟨fun H' s i hi=>⟨xs,xs[i]'(by rw [<- al.length];exact hi),s.seq sq,ac _⟩,fun H' s i x dh d hd ⟨e,y⟩=>?_,fun H' s=>⟨xs,s.seq sq,by rw [al.length];exact ah _⟩⟩⟩
  subst e
  have hx:=y xs (s.seq sq)
  obtain⟨v,hv,q⟩:=(al.mono (Kp.of s) _ _).get hd
  rw [hx]at hv;cases hv
  exact⟨A4.refl _,q⟩) h⟩
theorem E5.tup (he:DE X H0 e we):E5 X H0 tg e (fun τ Q=>we τ fun r=>∃ds,r=.st (.tup ds)/\Q ds) where
 mono:=fun τ P Q f h=>he.mono τ _ _ (fun r ⟨ds,e1,q⟩=>⟨ds,e1,f _ q⟩) h
 pi:=piW (Y1o he.pe) fun σ H R ⟨τ,hR,h⟩=>⟨τ,hR,he.mono τ _ _ (fun r ⟨ds,e1,q⟩ v H1 s1 ir=>by
  subst e1
  have ir:A1 X.K H1 (.tup ds) v:=ir
  unfold A1 at ir
  obtain⟨a,xs,rfl,sq,al⟩:=ir
  refine⟨a,rfl,⟨xs,C0.of sq⟩,q _ _ s1 ⟨fun H' s i hi=>⟨xs,xs[i]'(by rw [<- al.length];exact hi),C0.of (s _ _ sq),ac _⟩,fun H' s i x dh d hd ⟨e,y⟩=>?_,fun H' s=>⟨xs,C0.of (s _ _ sq),by rw [al.length];exact ah _⟩⟩⟩
  subst e
  have hx:=y xs (C0.of (s _ _ sq))
  obtain⟨v,hv,q⟩:=(al.mono (Kp.of s) _ _).get hd
  rw [hx]at hv;cases hv
  exact⟨A4.refl _,q⟩) h⟩
theorem W9j {K:Fg9}{H:Hp}{lo:Int}{n:Nat}:YlS K (Itr lo n) (L0 lo n) H :=
 ⟨fun H' s=>(Z0c (K:=K) (H0:=H) (H:=H)).go H' (Kp.of s) s,fun H' s=>(Z0c (K:=K) (H0:=H) (H:=H)).yld H' (Kp.of s) s,fun H' s=>(Z0c (K:=K) (H0:=H) (H:=H)).stop H' (Kp.of s) s⟩
theorem E5.rng1 {p:Pos} (hg:Gl X "range") (hm:X.mg "range"=none) (ha:DA X H0 [a] wr) (hs:starEach [a] X.env=[(false,eval a X.env)]:=by rfl) :
  E5 X H0 tg (.Call (.Name "range" p) [a] [] pos) (fun τ Q=>wr τ fun rs=>∃j:Int,rs=[.st (.int j)]/\-(2 ^ 62)<=j/\j<2 ^ 62/\Q (L0 0 j.toNat)) where
 mono:=fun τ P Q f h=>ha.mono τ _ _ (fun r ⟨j,e1,h1,h2,q⟩=>⟨j,e1,h1,h2,f _ q⟩) h
 pi:=piW (Y1n hg hm ha.pa hs) fun σ H R ⟨τ,hR,h⟩=>⟨τ,hR,ha.mono τ _ _ (fun r ⟨j,e1,h1,h2,q⟩ vs H1 s1 cq=>by
  subst e1
  obtain⟨v,rfl,ir⟩:=V3 cq
  cases (show v=.int j from ir)
  exact⟨j,rfl,h1,h2,q _ _ s1 W9j⟩) h⟩
theorem Q3k {ae:Pn9} {σ:St}{H:Hp}{s:Shared}{h':Heap}{t':Nat}{wr:List Addr} (I:A0 X ae σ H s) (k:∀b o,b∉wr->s.heap.get? b=some o->h'.get? b=some o) (hf:∀b∈wr,K2 X ae H b) :
  A0 X ae σ H { s with heap:=h',toks:=t' }:=by
 have iU:∀b u,H b=some u->b∉wr:=fun b u e z=>by have:=(hf b z).1;rw [e]at this;cases this
 refine I.step (g':=s.gens) (d':=s.drawn) (ch:=wr) (fun b hb=>?_) (fun b o _ _ hc e _=>k b o hc e) (fun b o _ _ hc e _=>⟨o.slots,k b o hc e⟩) (fun _ _ _ _ n=>n)
  (fun b o hc e=>⟨o,k b o hc e⟩) (fun _ _ e=>e) (fun _ _ _ e=>e) (fun b ps e=>⟨#[],by rw [e];simp⟩) (fun m hm=>?_) (fun b u e=>?_) I.bare
 ·obtain⟨_,f1,_,f3,f4,f5⟩:=hf b hb
  exact⟨f3,f1,f4,f5⟩
 ·obtain⟨o,es,ep,ho,r⟩:=hm
  exact⟨o,es,ep,k _ o (fun z=>(hf _ z).2.1 rfl) ho,r⟩
 ·refine(I.hok b u e).stay (fun c v hc q=>k c v ?_ q) (fun _ _ _ q=>q) fun _ _ q=>q
  rcases hc with z | z
  ·rw [z];exact iU b u e
  ·exact iU c _ z
noncomputable def Its (x:Str):It:=⟨fun i _=>i<x.cps.size,fun i H v H'=>H'=H/\∃c,x.cps[i]?=some c/\v=.str ⟨#[c]⟩,fun i _=>i=x.cps.size⟩
theorem Y4r {P:Program}{w:World}{K:Fg9}{tg:Expr}{it:Addr}{ty:String}{x:Str}{t:Tok} (i4:ty="str_ascii_iterator"\/ty="str_iterator"):Z0 P w K tg (Its x) [it] it (fun i h=>h.IsStrIter it ty x t i) where
 mem:=by simp
 obj:=fun i h st b hb=>by
  have e:b=it:=by simpa using hb
  subst e
  obtain⟨o,e,c,d⟩:=st
  exact⟨o,e,fun v z=>by rw [d]at z;cases z⟩
 keep:=fun i h h' ⟨o,e,r⟩ k=>⟨o,k it (by simp) o e,r⟩
 item:=by
  intro X hP hw hK hc i ae s σ H E I hf st hg
  subst hP hw hK
  have W:Walks X.prog X.w X.A it [it] [it] x.cps.size (SignAt x) (fun i h=>h.IsStrIter it ty x t i):=by
   rcases i4 with rfl | rfl
   ·exact Walks.strAscii (I.ok.hd hc) it x t
   ·exact Walks.strWide (I.ok.hd hc) it x t
  refine W.item i s _ _ hg st fun v h' tk hv ft k=>?_
  obtain⟨c,u,dB,rfl⟩:=hv
  have I1:A0 X ae σ H { s with heap:=h',toks:=tk }:=Q3k I k hf
  obtain⟨o,e,cl,d⟩:=id ft
  refine⟨_,rfl,Q5o (s:={ s with heap:=h',toks:=tk }) e cl d (by rcases i4 with rfl | rfl <;> decide) ⟨.str ⟨#[c]⟩,H,I1,⟨u,rfl⟩,⟨rfl,c,dB,rfl⟩,ft,fun b hb=>(hf b hb).1⟩⟩
 done:=by
  intro X hP hw hK hc i ae s σ H E I hf st hg
  subst hP hw hK
  have hg:i=x.cps.size:=hg
  subst hg
  have W:Walks X.prog X.w X.A it [it] [it] x.cps.size (SignAt x) (fun i h=>h.IsStrIter it ty x t i):=by
   rcases i4 with rfl | rfl
   ·exact Walks.strAscii (I.ok.hd hc) it x t
   ·exact Walks.strWide (I.ok.hd hc) it x t
  exact W.done s _ _ st fun h' tk k=>⟨rfl,Q3k I k hf⟩
 self:=fun A i s Q E st h=>by
  rcases i4 with rfl | rfl
  ·exact wpAny_pyIter_striter_ascii st h
  ·exact wpAny_pyIter_striter_wide st h
noncomputable def G2 (x:Str):List D:=x.cps.toList.map fun c=>.str ⟨#[c]⟩
theorem W9k {K:Fg9}{H:Hp}{x:Str}:YlS K (Its x) (G2 x) H where
 go:=fun H' _ i hi=>by
  have:i<x.cps.size:=by simpa [G2]using hi
  exact this
 yld:=fun H' _ i v dh d hd ⟨e,c,hc,hv⟩=>by
  subst e hv
  refine⟨A4.refl _,?_⟩
  unfold G2 at hd
  rw [ai]at hd
  have:x.cps.toList[i]?=some c:=by simpa using hc
  rw [this]at hd
  have e:D.str ⟨#[c]⟩=d:=aB hd
  subst e
  exact A1.s_str
 stop:=fun H' _=>by
  show(G2 x).length=x.cps.size
  simp [G2]
theorem E5.str (he:DE X H0 e we):E5 X H0 tg e (fun τ Q=>we τ fun r=>∃x,r=.st (.str x)/\Q (G2 x)) where
 mono:=fun τ P Q f h=>he.mono τ _ _ (fun r ⟨ds,e1,q⟩=>⟨ds,e1,f _ q⟩) h
 pi:=by
  intro ae s σ H R I ⟨τ,hR,h⟩
  refine B2 (he.pe ae s σ H (fun v H1=>A4 H H1/\∃x,v=.str x/\∀J H',A4 H H'->YlS X.K J (G2 x) H'->R J H') I ⟨τ,hR,he.mono τ _ _ (fun r ⟨x,e1,q⟩ v H1 s1 ir=>⟨s1,x,by subst e1;exact ir,q⟩) h⟩) fun u s1 ⟨v,H1,I1,rv,sm,x,e1,q⟩=>?_
  subst e1
  obtain⟨t,rfl⟩:=rv
  have fin:∀(ty:String),(ty="str_ascii_iterator"\/ty="str_iterator")->PIE X ae σ tg R (.ref s1.heap.objs.size) { s1 with heap:=s1.heap.push { cls:=.type ty,data:=.fields #[.str x t,.int 0 0] } }:=fun ty i4=>by
   refine⟨s1.heap.objs.size,[s1.heap.objs.size],_,_,H1,rfl,I1.kept (t':=s1.toks) fun b o e=>aa _ e,Y4r (ty:=ty) (x:=x) (t:=t) i4,⟨_,aw _ rfl,rfl,rfl⟩,fun b hb=>?_,q _ _ sm W9k⟩
   have e:b=s1.heap.objs.size:=by simpa using hb
   subst e
   exact I1.fpOk (ah _) (I1.hok.fresh (ah _))
  cases ha:x.cps.all (·<128)
  ·exact wpAny_pyIter_wide ha (fin _ (.inr rfl))
  ·exact wpAny_pyIter_ascii ha (fin _ (.inl rfl))
end
section
variable {X:Cx}{H0:Hp}{a b c e tg:Expr}{pos:Pos}{wa wb we:WE}{wr:WA}
theorem Q6r {ae:Pn9} {σ:St}{H:Hp}{s:Shared}{h':Heap}{t':Nat}{wr:List Addr}{T:Addr}{xs:List V}{aS:List Value} (I:A0 X ae σ H s) (k:∀b o,b∉wr->s.heap.get? b=some o->h'.get? b=some o) (hf:∀b∈wr,K2 X ae H b)
  (hT:s.heap.objs.size<=T) (ht:IsTup h' T aS.toArray) (rv:B9 xs aS) (hz:xs.length<=sizeLine):A0 X ae σ (upd H T (.tup xs)) { s with heap:=h',toks:=t' }:=by
 have iU:∀b u,H b=some u->b∉wr:=fun b u e z=>by have:=(hf b z).1;rw [e]at this;cases this
 have qU:H T=none:=I.hok.fresh hT
 have neT:∀b u,H b=some u->b≠T:=fun b u e z=>by rw [z,qU]at e;cases e
 refine I.step (g':=s.gens) (d':=s.drawn) (ch:=wr) (fun b hb=>?_) (fun b o _ _ hc e _=>k b o hc e) (fun b o _ _ hc e _=>⟨o.slots,k b o hc e⟩) (fun b o _ e n=>by rw [B0 (ay (ax (ak e) hT))];exact n)
  (fun b o hc e=>⟨o,k b o hc e⟩) (fun b _ e=>by rw [B0 (neT b _ e)];exact e) (fun b _ _ e=>by rw [B0 (neT b _ e)];exact e) (fun b ps e=>⟨#[],by rw [B0 (neT b _ e),e];simp⟩) (fun m hm=>?_) (fun b u e=>?_) I.bare
 ·obtain⟨_,f1,_,f3,f4,f5⟩:=hf b hb
  exact⟨f3,f1,f4,f5⟩
 ·obtain⟨o,es,ep,ho,r⟩:=hm
  exact⟨o,es,ep,k _ o (fun z=>(hf _ z).2.1 rfl) ho,r⟩
 ·by_cases hb:b=T
  ·subst hb
   rw [upd_same]at e;cases e
   exact⟨hz,aS,rv,ht⟩
  ·rw [B0 hb]at e
   refine(I.hok b u e).stay (fun c v hc q=>k c v ?_ q) (fun c u _ q=>by rw [B0 (neT c _ q)];exact q) fun c xs q=>by rw [B0 (neT c _ q)];exact q
   rcases hc with z | z
   ·rw [z];exact iU b u e
   ·exact iU c _ z
noncomputable def G9 (ds:List D):List D:=ds.zipIdx.map fun(p:D×Nat)=>.tup [.int (p.2:Int),p.1]
theorem Q7q {ds:List D}{i:Nat}{d:D} (h:(G9 ds)[i]?=some d):∃x,ds[i]?=some x/\d=.tup [.int (i:Int),x]:=by
 unfold G9 at h
 rw [ai,List.getElem?_zipIdx]at h
 cases e:ds[i]? with
 | none=>rw [e]at h;cases h
 | some x =>
  rw [e]at h
  have h:D.tup [.int ((0+i:Nat):Int),x]=d:=aB h
  exact⟨x,rfl,by rw [<- h,dn]⟩
theorem Q1t (ds:List D):(G9 ds).length=ds.length:=by simp [G9]
noncomputable def Ies (x:Str):It:=⟨fun i _=>i<x.cps.size,fun i H v H'=>∃T c,x.cps[i]?=some c/\H T=none/\v=.ref T/\H'=upd H T (.tup [.int (i:Int),.str ⟨#[c]⟩]),fun i _=>i=x.cps.size⟩
theorem W8n {P:Program}{w:World}{K:Fg9}{cL:List Expr}{kk:Nat}{pt:Pos}{en it:Addr}{x:Str}{t:Tok} (cA:en≠it) :
  Z0 P w K (.Tuple cL kk pt) (Ies x) [en,it] en (fun i h=>(∃old,IsEnum h en it i old)/\h.IsStrIter it (strIterType x) x t i) where
 mem:=by simp
 obj:=fun i h st b hb=>by
  obtain⟨⟨old,he⟩,o,ho,_,d⟩:=st
  rcases aj.mp hb with rfl | hb
  ·exact⟨_,he,fun v z=>by cases z⟩
  ·have e:b=it:=by simpa using hb
   subst e
   exact⟨o,ho,fun v z=>by rw [d]at z;cases z⟩
 keep:=fun i h h' ⟨⟨old,he⟩,o,ho,r⟩ k=>⟨⟨old,k en (by simp) _ he⟩,o,k it (by simp) o ho,r⟩
 item:=by
  intro X hP hw hK hc i ae s σ H E I hf st hg
  subst hP hw hK
  have Dr:Draws X.prog X.w X.A.in1 it [it] x.cps.size (fun i v=>∃c u,x.cps[i]?=some c/\v=.str ⟨#[c]⟩ u) (fun i h=>h.IsStrIter it (strIterType x) x t i):=by
   unfold strIterType
   split
   ·exact Draws.strAscii (A:=X.A.in1) (show X.A.in1.handled=none from I.ok.hd hc) it x t
   ·exact Draws.strWide (A:=X.A.in1) (show X.A.in1.handled=none from I.ok.hd hc) it x t
  have W:=WalksT.enumerateD Dr en cA (by simpa using cA) (by simp)
  have qE:∀b∈[en,it],K2 X ae H b:=hf
  refine W.item i s _ _ hg st fun T fR h' tk hv hT kM iV k=>?_
  obtain⟨t1,y,⟨c,u,dB,rfl⟩,rfl⟩:=hv
  refine⟨_,rfl,W.go cL kk pt i T { s with heap:=h',toks:=tk } _ _ iV fun h2 dC k2=>?_⟩
  have io:∀b o,b∉[en,it]->s.heap.get? b=some o->h2.get? b=some o:=fun b o hb e=>k2 b o hb (k b o hb e)
  have ib:=W.apart i T h' iV
  have eM:IsTup h2 T ([Value.int (i:Int) t1,Value.str ⟨#[c]⟩ u]).toArray:=by
   obtain⟨o,ho,r⟩:=kM
   exact⟨o,k2 T o ib ho,r⟩
  have I2:=Q6r (t':=tk) (xs:=[.int (i:Int),.str ⟨#[c]⟩]) I io qE hT eM (.cons ⟨t1,rfl⟩ (.cons ⟨u,rfl⟩ .nil)) (by show 2<=sizeLine;decide)
  refine⟨.ref T,_,I2,rfl,⟨T,c,dB,I.hok.fresh hT,rfl,rfl⟩,dC,fun b hb=>?_⟩
  rw [B0 (show b≠T from fun z=>ib (by rw [<- z];exact hb))]
  exact(hf b hb).1
 done:=by
  intro X hP hw hK hc i ae s σ H E I hf st hg
  subst hP hw hK
  have hg:i=x.cps.size:=hg
  subst hg
  have Dr:Draws X.prog X.w X.A.in1 it [it] x.cps.size (fun i v=>∃c u,x.cps[i]?=some c/\v=.str ⟨#[c]⟩ u) (fun i h=>h.IsStrIter it (strIterType x) x t i):=by
   unfold strIterType
   split
   ·exact Draws.strAscii (A:=X.A.in1) (show X.A.in1.handled=none from I.ok.hd hc) it x t
   ·exact Draws.strWide (A:=X.A.in1) (show X.A.in1.handled=none from I.ok.hd hc) it x t
  have W:=WalksT.enumerateD Dr en cA (by simpa using cA) (by simp)
  exact W.done s _ _ st fun h' tk k=>⟨rfl,Q3k I k hf⟩
 self:=fun A i s Q E ⟨⟨old,he⟩,_⟩ h=>ck he h
theorem Z5z {K:Fg9}{H:Hp}{x:Str}:YlS K (Ies x) (G9 (G2 x)) H where
 go:=fun H' _ i hi=>by
  have:i<x.cps.size:=by rw [Q1t]at hi;simpa [G2]using hi
  exact this
 yld:=fun H' _ i v dh d hd ⟨T,c,hc,hT,hv,hH⟩=>by
  subst hH hv
  refine⟨D5 hT _,?_⟩
  obtain⟨y,hy,rfl⟩:=Q7q hd
  unfold G2 at hy
  rw [ai]at hy
  have:x.cps.toList[i]?=some c:=by simpa using hc
  rw [this]at hy
  have e:D.str ⟨#[c]⟩=y:=aB hy
  subst e
  exact A1.s_tup upd_same (AllS.cons A1.s_int (AllS.cons A1.s_str AllS.nil))
 stop:=fun H' _=>by
  show(G9 (G2 x)).length=x.cps.size
  rw [Q1t];simp [G2]
noncomputable def Iel (K:Fg9) (l:Addr):It:=⟨fun i H=>∃xs x,C9 K H l xs/\xs[i]?=some x,fun i H v H'=>∃T x,(∀xs,C9 K H l xs->xs[i]?=some x)/\H T=none/\v=.ref T/\H'=upd H T (.tup [.int (i:Int),x]),fun i H=>∃xs,C9 K H l xs/\xs.length=i⟩
theorem Y4n {P:Program}{w:World}{K:Fg9}{cL:List Expr}{kk:Nat}{pt:Pos}{en it l:Addr} (cA:en≠it) (gb:l≠en) (kD:l≠it) :
  Z0 P w K (.Tuple cL kk pt) (Iel K l) [en,it] en (fun i h=>(∃old,IsEnum h en it i old)/\h.IsListIter it l i) where
 mem:=by simp
 obj:=fun i h st b hb=>by
  obtain⟨⟨old,he⟩,o,ho,_,d⟩:=st
  rcases aj.mp hb with rfl | hb
  ·exact⟨_,he,fun v z=>by cases z⟩
  ·have e:b=it:=by simpa using hb
   subst e
   exact⟨o,ho,fun v z=>by rw [d]at z;cases z⟩
 keep:=fun i h h' ⟨⟨old,he⟩,hi⟩ k=>⟨⟨old,k en (by simp) _ he⟩,hi.at fun o e=>k it (by simp) o e⟩
 item:=by
  intro X hP hw hK hc i ae s σ H E I hf st hg
  subst hP hw hK
  obtain⟨xs,x,hq,hx⟩:=hg
  obtain⟨aS,rv,p,hz⟩:=I.list hq
  have W:=WalksT.enumerate (prog:=X.prog) (w:=X.w) (A:=X.A) (I.ok.hd hc) en it l cA gb kD aS.toArray
  obtain⟨u,hu,ru⟩:=rv.get hx
  have bR:i<aS.toArray.size:=by
   rcases bD i aS.length with h | h
   ·simpa using h
   ·rw [aH.mpr h]at hu;cases hu
  refine W.item i s _ _ bR ⟨st.1,st.2,p.isList⟩ fun T fR h' tk hv hT kM iV k=>?_
  obtain⟨t1,y,hy,rfl⟩:=hv
  have ey:y=u:=by
   have:aS[i]?=some y:=by simpa using hy
   rw [hu]at this;exact(aB this).symm
  subst ey
  refine⟨_,rfl,W.go cL kk pt i T { s with heap:=h',toks:=tk } _ _ iV fun h2 dC k2=>?_⟩
  have io:∀b o,b∉[en,it]->s.heap.get? b=some o->h2.get? b=some o:=fun b o hb e=>k2 b o hb (k b o hb e)
  have ib:=W.apart i T h' iV
  have eM:IsTup h2 T ([Value.int (i:Int) t1,y]).toArray:=by
   obtain⟨o,ho,r⟩:=kM
   exact⟨o,k2 T o ib ho,r⟩
  have I2:=Q6r (t':=tk) (xs:=[.int (i:Int),x]) I io hf hT eM (.cons ⟨t1,rfl⟩ (.cons ru .nil)) (by show 2<=sizeLine;decide)
  refine⟨.ref T,_,I2,rfl,⟨T,x,fun ys hy=>by rw [I.list_inj hy hq];exact hx,I.hok.fresh hT,rfl,rfl⟩,⟨dC.1,dC.2.1⟩,fun b hb=>?_⟩
  rw [B0 (show b≠T from fun z=>ib (by rw [<- z];exact hb))]
  exact(hf b hb).1
 done:=by
  intro X hP hw hK hc i ae s σ H E I hf st hg
  subst hP hw hK
  obtain⟨xs,hq,hx⟩:=hg
  obtain⟨aS,rv,p,hz⟩:=I.list hq
  have W:=WalksT.enumerate (prog:=X.prog) (w:=X.w) (A:=X.A) (I.ok.hd hc) en it l cA gb kD aS.toArray
  have hl:=rv.length
  have e:i=aS.toArray.size:=by simp;omega
  subst e
  exact W.done s _ _ ⟨st.1,st.2,p.isList⟩ fun h' tk k=>⟨rfl,Q3k I k hf⟩
 self:=fun A i s Q E ⟨⟨old,he⟩,_⟩ h=>ck he h
theorem W9h {K:Fg9}{H:Hp}{l:Addr}{xs:List V}{ds:List D} (sq:C9 K H l xs) (al:AllS K H ds xs):YlS K (Iel K l) (G9 ds) H where
 go:=fun H' s i hi=>by
  rw [Q1t]at hi
  exact⟨xs,xs[i]'(by rw [<- al.length];exact hi),s.seq sq,ac _⟩
 yld:=fun H' s i v dh d hd ⟨T,x,hx,hT,hv,hH⟩=>by
  subst hH hv
  refine⟨D5 hT _,?_⟩
  obtain⟨y,hy,rfl⟩:=Q7q hd
  obtain⟨v,hv,q⟩:=al.get hy
  rw [hx xs (s.seq sq)]at hv;cases hv
  exact A1.s_tup upd_same (AllS.cons A1.s_int (AllS.cons (q.mono (Kp.of (s.trans (D5 hT _))) _ _) AllS.nil))
 stop:=fun H' s=>⟨xs,s.seq sq,by rw [Q1t];exact al.length.symm⟩
end
section
variable {X:Cx}{H0:Hp}{a b c e o tg:Expr}{pos apos bv:Pos}{wa wb we:WE}{wr:WA}
theorem B5.mutate {K:Fg9}{H:Hp} {τ:A8} {σ:St}{i:Nat}{ds ln:List D}{a:Addr}{xs jW:List V} (hR:B5 K H0 τ σ H) (e1:τ[i]?=some (some (.own ds))) (hv:σ[i]?=some (some (.ref a))) (h0:H0 a=none) (sq:H a=some (.lst xs)) (al:AllS K H ln jW) :
  B5 K H0 (τ.set i (some (.own ln))) σ (upd H a (.lst jW)):=by
 have kp:Kp H (upd H a (.lst jW)):=Kp.upd sq _
 have hl:i<τ.length:=by
  rcases bD i τ.length with h | h
  ·exact h
  ·rw [aH.mpr h]at e1;cases e1
 have old:∀(j:Nat) (s:Sl),(τ.set i (some (.own ln)))[j]?=some (some s)->j≠i->τ[j]?=some (some s):=fun j s e hj=>by rw [aF (fun z=>hj z.symm)]at e;exact e
 have fi:∀(j:Nat) (s:Sl),(τ.set i (some (.own ln)))[j]?=some (some s)->s.mut=true->∃t,τ[j]?=some (some t)/\t.mut=true:=fun j s e m=>by
  by_cases hj:j=i
  ·subst hj;exact⟨_,e1,rfl⟩
  ·exact⟨s,old j s e hj,m⟩
 refine⟨by rw [bJ];exact hR.len,fun b ob hb=>?_,fun j s e=>?_,fun j k s t v cA e2 e3 m1 m2 q1 q2=>?_⟩
 ·rw [B0 (U7 hb h0)];exact hR.same b ob hb
 ·by_cases hj:j=i
  ·subst hj
   rw [Z5 hl]at e;cases e
   exact⟨_,hv,a,jW,rfl,h0,upd_same,al.mono kp _ _⟩
  ·have e:=old j s e hj
   obtain⟨v,q,r⟩:=hR.here j s e
   refine⟨v,q,?_⟩
   have ap:s.mut=true->v≠.ref a:=fun m z=>by
    subst z
    exact hR.apart i j _ s (.ref a) (fun z=>hj z.symm) e1 e rfl m hv q
   cases s with
   | dat d=>exact A1.mono kp _ _ r
   | own es=>obtain⟨b,ys,e,n,q,t⟩:=r;exact⟨b,ys,e,n,by rw [B0 (fun z=>ap rfl (by rw [e,z]))];exact q,t.mono kp _ _⟩
   | bor es=>obtain⟨b,ys,e,q,t⟩:=r;exact⟨b,ys,e,q,t.mono kp _ _⟩
   | bd es=>obtain⟨b,ys,e,q,t⟩:=r;exact⟨b,ys,e,q,t.mono kp _ _⟩
   | dk es=>obtain⟨b,ys,e,n,q,t⟩:=r;exact⟨b,ys,e,n,by rw [B0 (fun z=>ap rfl (by rw [e,z]))];exact q,t.mono kp _ _⟩
   | dt es=>obtain⟨b,ys,e,n,q,t⟩:=r;exact⟨b,ys,e,n,by rw [B0 (fun z=>ap rfl (by rw [e,z]))];exact q,t.mono kp _ _⟩
   | ob _=>exact r
   | cl _ _=>exact⟨r.1,r.2.2 _ _ kp r.2.1,r.2.2⟩
   | ll _ _=>exact⟨r.1,r.2.keep kp fun b φ q=>by rw [B0 (W8 q sq (by intro z;cases z))];exact q⟩
   | ins _ _ _=>obtain⟨e,n,dx,ys,q,t⟩:=r;exact⟨e,n,dx,ys,by rw [B0 (fun z=>ap rfl (by rw [e,z]))];exact q,t.mono kp _ _⟩
 ·obtain⟨s',ni,lM⟩:=fi j s e2 m1
  obtain⟨t',nh,lL⟩:=fi k t e3 m2
  exact hR.apart j k s' t' v cA ni nh lM lL q1 q2
theorem B5.ownAt {K:Fg9}{H:Hp} {τ:A8} {σ:St}{i:Nat}{ds:List D} (hR:B5 K H0 τ σ H) (e1:τ[i]?=some (some (.own ds))):∃a xs,σ[i]?=some (some (.ref a))/\H0 a=none/\H a=some (.lst xs)/\AllS K H ds xs:=by
 obtain⟨v,hv,a,xs,rfl,h0,sq,al⟩:=hR.here i _ e1
 exact⟨a,xs,hv,h0,sq,al⟩
def S7 (i:Nat) (we:WE):WS:=fun E τ=>∃ds,τ[i]?=some (some (.own ds))/\we τ fun r=>∃d,r=.st d/\ds.length<sizeLine/\E.nx (τ.set i (some (.own (ds++[d]))))
theorem DS.append {i:Nat} (ho:PE X o (O2 i)) (he:DE X H0 e we) (fm:attributeBase o "append" X.env (eval o X.env)=eval o X.env:=by rfl)
  (gP:((backTo bv (starEach [e] X.env)).all (fun x=>!x.1)&&(backToKw bv (keywordEach [] X.env)).all (fun x=>x.1.isSome)&&decide ([e].length+([]:List Keyword).length+(if ([]:List Keyword).isEmpty then 0 else 1)<30))=true:=by rfl)
  (fj:(apos.endLine==bv.line)=true:=by rfl) (hs:starEach [e] X.env=(false,eval e X.env)::starEach [] X.env:=by rfl) (dP:(backTo bv (starEach [] X.env)).any (·.1)=false:=by rfl)
  (gJ:swapsWith (.Call (.Attribute o "append" apos) [e] [] bv) none pos.line X.env=pure false:=by rfl):DS X H0 (.Expr (.Call (.Attribute o "append" apos) [e] [] bv) pos) (S7 i we) where
 mono:=fun τ E F le ⟨ds,e1,h⟩=>⟨ds,e1,he.mono τ _ _ (fun r ⟨d,e2,h1,h2⟩=>⟨d,e2,h1,le.nx _ h2⟩) h⟩
 ps:=Q0 (Z3j (Y1g PySem.F.plainAttrs_list PySem.F.slot_list_append PySem.F.type_list_append W0y ho (Q4e he.pe Q6f hs) fm gP fj hs dP) gJ) fun D σ H ⟨τ,hR,ds,e1,h⟩=>by
  obtain⟨a,xs,hv,h0,sq,al⟩:=hR.ownAt e1
  refine⟨_,hv,.inl ⟨rfl,_,C9.of sq⟩,τ,hR,he.mono τ _ _ (fun r ⟨d,e2,h1,h2⟩ v H1 s1 ir=>?_) h⟩
  subst e2
  have dI:=hR.mono s1
  refine⟨a,xs,v,rfl,rfl,s1 _ _ sq,by rw [<- al.length];exact h1,h2 σ _ ((Kp.of s1).trans (Kp.upd (s1 _ _ sq) _)) ?_⟩
  exact dI.mutate e1 hv h0 (s1 _ _ sq) ((al.mono (Kp.of s1) _ _).append (AllS.cons ir AllS.nil))
end
end TK
end
section
namespace HT
open PySem PyProof.Rows
section
variable {prog:Program}{w:World}{A:Around}{E:VS9}{s:Shared}
theorem getItem_tuple_whole {t sl:Addr}{items:Array Value}{vl vu:Value}{lo hi:Option Int}{Q:VS9} (ht:IsTup s.heap t items) (hs:s.heap.IsSliceOf sl vl vu .none) (pl:IsPart vl lo) (pu:IsPart vu hi)
  (hw:sIx items.size 0 lo=0/\sIx items.size items.size hi=items.size) (h:Q (.ref t) s):wpAny (model prog w) A (getItem (.ref t) (.ref sl)) Q E s:=by
 obtain⟨os,ga,fw,fV⟩:=id hs
 have mP:s.TypeIs (.ref sl) "slice":=⟨os,ga,fw⟩
 unfold getItem
 try with_reducible refine bu ?_
 first | refine a9 (af ?_) | skip
 refine a9 (wpAny_sequenceKey ht.typeIs (by decide) ?_)
 refine a9 (b8 (name:=Str.ofString "__getitem__") ht.typeIs bN
  (bc bN ht.typeIs entry_tuple_getitem ?_ (args_tuple_getitem _ _)))
 show wpAny _ _ (Builtin.Tuple.tupleItemsOf (.ref t)>>=_) _ _ s
 refine a9 (tupleItemsOf_ ht ?_)
 refine a9 (wpAny_typeOf mP ?_)
 rw [aI (by decide)]
 refine a9 (Y4b hs pl pu ?_)
 have m5:((((sIx items.size 0 lo:Nat):Int)==0&&(1:Int)==1&&(sIx items.size items.size hi-sIx items.size 0 lo)==items.size)=true):=by
  rw [hw.1,hw.2];simp
 show wpAny _ _ (if (((sIx items.size 0 lo:Nat):Int)==0&&(1:Int)==1&&(sIx items.size items.size hi-sIx items.size 0 lo)==items.size)=true then _ else _) _ _ s
 rw [aI m5]
 show wpAny _ _ ((typeOf (.ref t)>>=fun y=>pure (y==Value.type "tuple"))>>=_) _ _ s
 refine a9 (a9 (wpAny_typeOf ht.typeIs (af ?_)))
 rw [aI (by decide)]
 first
  | exact a9 (dU (af ⟨_,rfl,af h⟩))
  | exact a9 (dU (a9 (af (af ⟨_,rfl,af h⟩))))
end
end HT
namespace TK
open PySem PySem.Spec PyProof.Rows L2
noncomputable def Z2 {α:Type} (xs:List α) (lo hi:Option Int):List α:=(xs.drop (HT.sIx xs.length 0 lo)).take (HT.sIx xs.length xs.length hi-HT.sIx xs.length 0 lo)
theorem Z1k {K:Fg9}{H:Hp}{ds:List D}{xs:List V} (al:AllS K H ds xs) (lo hi:Option Int):AllS K H (Z2 ds lo hi) (Z3 xs lo hi):=by
 unfold Z2 Z3
 rw [<- al.length]
 exact(al.drop _).take _
section
variable {X:Cx}{H0:Hp}{a b c e o tg:Expr}{pos p2:Pos}{wa wb we:WE}{lo hi:Option Expr}
theorem W7f:L2.N5 X (fun x lo hi H Q=>∃a xs,x=.ref a/\H a=some (.tup xs)/\((¬ (HT.sIx xs.length 0 lo=0/\HT.sIx xs.length xs.length hi=xs.length))->∀p,H p=none->Q (.ref p) (upd H p (.tup (Z3 xs lo hi))))/\((HT.sIx xs.length 0 lo=0/\HT.sIx xs.length xs.length hi=xs.length)->Q (.ref a) H)):=by
 intro ae s σ H x v vl vu lo hi sl Q I rx hs pl pu h
 obtain⟨a,xs,rfl,hx,q1,q2⟩:=h
 by_cases hw:HT.sIx xs.length 0 lo=0/\HT.sIx xs.length xs.length hi=xs.length
 ·cases rx
  obtain⟨aS,r,ht,hz⟩:=I.tuple (C0.of hx)
  have bL:aS.toArray.size=xs.length:=by rw [aE];exact r.length.symm
  exact⟨"tuple",_,bN.lookup,ht.typeIs,HT.getItem_tuple_whole ht hs pl pu (by rw [bL];exact hw) ⟨.ref a,H,I,rfl,q2 hw⟩⟩
 ·exact W7e ae s σ H _ v vl vu lo hi sl Q I rx hs pl pu ⟨a,xs,rfl,C0.of hx,hw,q1 hw⟩
theorem Y7m {xs:List V}{lo hi:Option Int} (h:HT.sIx xs.length 0 lo=0/\HT.sIx xs.length xs.length hi=xs.length):Z3 xs lo hi=xs:=by
 unfold Z3;rw [h.1,h.2];simp
noncomputable abbrev WO:=A8->(Option Int->Prop)->Prop
noncomputable def Y9y (K:Fg9) (H0:Hp) (w:WO):TO:=fun σ H Q=>∃ τ,B5 K H0 τ σ H/\w τ fun o=>∀H',A4 H H'->Q o H'
structure DO (X:Cx) (H0:Hp) (e:Option Expr) (w:WO):Prop where
 mono:∀(τ:A8) (P Q:Option Int->Prop),(∀r,P r->Q r)->w τ P->w τ Q
 po:PO X e (Y9y X.K H0 w)
theorem DO.none:DO X H0 none (fun _ Q=>Q none):=⟨fun _ _ _ f h=>f _ h,fun ae s σ H Q I ⟨τ,hR,h⟩=>W3m ae s σ H Q I (h H (A4.refl H))⟩
noncomputable def Q3v:R->(Int->Prop)->Prop
 | .st (.int i),Q=>Q i
 | _,_=>False
theorem Z8x {r:R}{P:Int->Prop} (h:Q3v r P):∃i,r=.st (.int i)/\P i:=by
 unfold Q3v at h
 split at h
 ·exact⟨_,rfl,h⟩
 ·exact h.elim
theorem DO.some (he:DE X H0 e we):DO X H0 (some e) (fun τ Q=>we τ fun r=>Q3v r fun i=>Q (some i)) where
 mono:=fun τ P Q f h=>he.mono τ _ _ (fun r h=>by obtain⟨i,rfl,q⟩:=Z8x h;exact f _ q) h
 po:=fun ae s σ H Q I ⟨τ,hR,h⟩=>W3n he.pe ae s σ H Q I ⟨τ,hR,he.mono τ _ _ (fun r h v H1 s1 ir=>by
  obtain⟨i,rfl,q⟩:=Z8x h
  exact⟨i,ir,q H1 s1⟩) h⟩
def slD (x:R) (lo hi:Option Int) (Q:R->Prop):Prop:=match x with
 | .st (.tup ds)=>Q (.st (.tup (Z2 ds lo hi)))
 | .st (.lst ds)=>Q (.nw (Z2 ds lo hi))
 | .nw ds=>Q (.nw (Z2 ds lo hi))
 | .bw ds=>Q (.nw (Z2 ds lo hi))
 | .st (.str z)=>z.length<=sizeLine/\Q (.st (.str (Txt.slice z lo hi)))
 | _=>False
theorem W7b {x:R}{lo hi:Option Int}{P Q:R->Prop} (f:∀r,P r->Q r) (h:slD x lo hi P):slD x lo hi Q:=by
 unfold slD at h ⊢
 split at h <;> first | exact f _ h | exact⟨h.1,f _ h.2⟩ | exact h
theorem W7d:L2.N5 X (fun x lo hi H Q=>∃z,x=.str z/\z.length<=sizeLine/\Q (.str (Txt.slice z lo hi)) H):=by
 intro ae s σ H x v vl vu lo hi sl Q I rx hs pl pu h
 obtain⟨z,rfl,hz,q⟩:=h
 obtain⟨t,rfl⟩:=rx
 refine⟨"str",_,PySem.F.slot_str_getitem.lookup,typeIs_str _ _ _,?_⟩
 obtain⟨os,ga,fw,fV⟩:=id hs
 have fin:∀(t':Tok) (k:Nat),EP X ae σ Q (.str (Txt.slice z lo hi) t') { s with toks:=k }:=fun t' k=>⟨.str _,H,I.tok k,⟨t',rfl⟩,q⟩
 cases pl with
 | none =>
  cases pu with
  | none=>exact wpAny_getItem_str_slice (l:=none) (u:=none) (st:=none) ⟨_,ga,fw,fV⟩ rfl (post_val_or_str ⟨aR (Txt.slice_le z _ _) hz,fin⟩)
  | int j uj=>exact wpAny_getItem_str_slice (l:=none) (u:=some (j,uj)) (st:=none) ⟨_,ga,fw,fV⟩ rfl (post_val_or_str ⟨aR (Txt.slice_le z _ _) hz,fin⟩)
 | int i ui =>
  cases pu with
  | none=>exact wpAny_getItem_str_slice (l:=some (i,ui)) (u:=none) (st:=none) ⟨_,ga,fw,fV⟩ rfl (post_val_or_str ⟨aR (Txt.slice_le z _ _) hz,fin⟩)
  | int j uj=>exact wpAny_getItem_str_slice (l:=some (i,ui)) (u:=some (j,uj)) (st:=none) ⟨_,ga,fw,fV⟩ rfl (post_val_or_str ⟨aR (Txt.slice_le z _ _) hz,fin⟩)
variable {wl wh:WO}
theorem DE.slice (he:DE X H0 e we) (hl:DO X H0 lo wl) (hh:DO X H0 hi wh):DE X H0 (.Subscript e (.Slice lo hi none p2) pos) (fun τ Q=>we τ fun x=>wl τ fun l=>wh τ fun u=>slD x l u Q) where
 mono:=fun τ P Q f h=>he.mono τ _ _ (fun x h=>hl.mono τ _ _ (fun l h=>hh.mono τ _ _ (fun u h=>W7b f h) h) h) h
 pe:=by
  refine N9 (W3c (W7f.or (W7c.or W7d)) he.pe hl.po hh.po) fun σ H Q ⟨τ,hR,h⟩=>⟨τ,hR,he.mono τ _ _ (fun x h v H1 s1 ir=>⟨τ,hR.mono s1,hl.mono τ _ _ (fun l h H2 s2=>⟨τ,hR.mono (s1.trans s2),hh.mono τ _ _ (fun u h H3 s3=>?_) h⟩) h⟩) h⟩
  have ir:=ir.mono (s2.trans s3)
  have ka:=s1.trans (s2.trans s3)
  have lists:∀ds,P9 x=some ds->(∀r,r=R.nw (Z2 ds l u)->∀v H',A4 H H'->D9 X.K H H' r v->Q v H')->rSlL X.K v l u H3 Q:=fun ds e1 q=>by
   obtain⟨p,xs,rfl,sq,al⟩:=Q1a e1 ir
   exact⟨p,xs,rfl,sq,fun p' hp=>q _ rfl _ _ (ka.trans (D5 hp _)) ⟨p',_,rfl,ka.free hp,upd_same,(Z1k al l u).mono (Kp.of (D5 hp _)) _ _⟩⟩
  unfold slD at h
  split at h
  ·have ir:A1 X.K H3 (.tup _) v:=ir
   unfold A1 at ir
   obtain⟨p,xs,rfl,sq,al⟩:=ir
   refine .inl ⟨p,xs,rfl,sq,fun _ p' hp=>h _ _ (ka.trans (D5 hp _)) (A1.s_tup (K:=X.K) upd_same ((Z1k al l u).mono (Kp.of (D5 hp _)) _ _)),fun hw=>h _ _ ka (A1.s_tup (K:=X.K) (H:=H3) sq ?_)⟩
   have:=Z1k al l u
   rw [Y7m hw]at this
   exact this
  ·exact .inr (.inl (lists _ rfl fun r e1=>by subst e1;exact h))
  ·exact .inr (.inl (lists _ rfl fun r e1=>by subst e1;exact h))
  ·exact .inr (.inl (lists _ rfl fun r e1=>by subst e1;exact h))
  ·cases (show v=.str _ from ir)
   exact .inr (.inr ⟨_,rfl,h.1,h.2 _ _ ka Z2c⟩)
  ·exact h.elim
end
end TK
end
section
namespace TK
open PySem PySem.Spec PyProof.Rows L2
section
variable {X:Cx}{H0:Hp}{a b c e o tg:Expr}{pos bF p p2:Pos}{wa wb we:WE}{x:Str}{d:Addr}{kvs:List (Str×Int)}
theorem DE.gstr {z:Str} (hg:Gl X x) (hm:∃t,X.mg x=some (.str z t)) (hd:(x==("__debug__":Str))=false:=by decide):DE X H0 (.Name x pos) (wC (.str z)):=by
 obtain⟨t,hm⟩:=hm
 exact DE.con (W2s (v:=.str z) hg hm ⟨t,rfl⟩ hd) fun _ _=>A1.s_str
def Q9n (i:Nat) (g:R->R->(R->Prop)->Prop) (we:WE):WS:=fun E τ=>∃s,τ[i]?=some (some s)/\we τ fun y=>g (Q8 s) y fun r=>Q0p r fun s'=>E.nx (τ.set i (some s'))
theorem DS.aug {i:Nat}{op:Operator}{g:R->R->(R->Prop)->Prop} (ho:OpD X (inplaceOp op) g) (mg:X6 g) (he:DE X H0 e we) (hN:X.N.Nodup) (hi:X.N[i]?=some x) (hx:Loc X.env.scope x)
  (hf:X.fn x=true\/X.env.scope.names.lookup x=some .local:=by first | exact .inl rfl | exact .inr rfl | assumption):DS X H0 (.AugAssign (.Name x bF) op e pos) (Q9n i g we) where
 mono:=fun τ E F le ⟨s,e1,h⟩=>⟨s,e1,he.mono τ _ _ (fun y h=>mg _ _ _ _ (fun r h=>Z4f (fun s h=>le.nx _ h) h) h) h⟩
 ps:=Q0 (W3s hN hi hx he.pe ho hf) fun D σ H ⟨τ,hR,s,e1,h⟩=>by
  obtain⟨v,hv,q⟩:=hR.here i s e1
  refine⟨v,hv,τ,hR,he.mono τ _ _ (fun y h u H1 s1 iu=>?_) h⟩
  have iv:IsV X.K H1 (Q8 s) v:=(N5.rd (Hs:=fun _=>none) hR.same q).mono s1
  refine⟨Q8 s,y,iv,iu.v,mg _ _ _ _ (fun r h z H2 s2 iz=>?_) h⟩
  obtain⟨s',p,cM⟩:=(hR.mono s1).store (i:=i) s2 iz h
  exact p _ _ (Kp.of (s1.trans s2)) cM
theorem W1t:OpD X (inplaceOp .Add) (Q1 NoC fun i j=>i+j):=OpD.ints0 Y8s
noncomputable def blkB (sc:Scope) (N0:List Str) (scope:Scope) (N:List Str) (nt:Nat) (cap:List Nat):Bool :=
 decide (scope.kind=.function)&&scope.names.all (fun y=>y.2 != .cell)&&scope.names.all (fun y=>y.2 != .local||scope.names.lookup y.1==some .local) &&
 scope.names.all (fun y=>y.2 != .free||scope.names.lookup y.1==some .free)&&scope.names.all (fun y=>y.2 != .free||sc.names.lookup y.1==some .cell||sc.names.lookup y.1==some .free) &&
 decide (N.length=nt+cap.length)&&(List.range cap.length).all (fun j=>match cap[j]?,N[nt+j]? with | some i,some x=>N0[i]?==some x&&scope.names.contains (x,NameKind.free) | _,_=>false)
theorem R8 {sc:Scope}{N0:List Str}{scope:Scope}{N:List Str}{nt:Nat}{cap:List Nat} (h1:X.env.scope=sc) (h2:X.N=N0) (h:blkB sc N0 scope N nt cap=true):J3 X scope N nt cap:=by
 subst h1 h2
 unfold blkB at h
 simp only [cg]at h
 obtain⟨⟨⟨⟨⟨⟨a1,a2⟩,a3⟩,a4⟩,a5⟩,a6⟩,a7⟩:=h
 refine⟨fI a1,fun y hy=>?_,fun y hy e=>?_,fun y hy e=>?_,fun y hy e=>?_,fI a6,fun j i x hj hx=>?_⟩
 ·simpa using bX.mp a2 y hy
 ·have:=bX.mp a3 y hy
  rw [e]at this
  simpa using this
 ·have:=bX.mp a4 y hy
  rw [e]at this
  simpa using this
 ·have:=bX.mp a5 y hy
  rw [e]at this
  have this:X.env.scope.names.lookup y.1=some .cell\/X.env.scope.names.lookup y.1=some .free:=by simpa using this
  exact this
 ·have bR:j<cap.length:=by
   rcases bD j cap.length with h | h
   ·exact h
   ·rw [aH.mpr h]at hj;cases hj
  have:=bX.mp a7 j (bz.mpr bR)
  rw [hj,hx]at this
  simpa using this
theorem Q7s {A:Around}{k:Nat} (hr:C5 k A):A.units+60<cLine:=by have:=hr.units;omega
theorem C5.hu1 {A:Around}{k:Nat} (hr:C5 k A):A.units+1<cLine:=by have:=hr.units;omega
end
end TK
end
section
namespace HT
open PySem PySem.Spec PyProof.Rows
open AutoSeq1 (wpAny_loadPart')
section
variable {prog:Program}{w:World}{A:Around}{E:VS9}{s:Shared}
end
end HT
namespace TK
open PySem PySem.Spec PyProof.Rows L2
section
variable {X:Cx}{H0:Hp}{a b c e o tg:Expr}{pos bF p p2 p3 p4:Pos}{wa wb we:WE}
end
end TK
end
section
namespace TK
open PySem PySem.Spec PyProof.Rows L2
def A9 (we:WE):WE:=fun τ Q=>we τ fun r=>fzR r fun d=>Q (.st d)
def wB (t:WT):WE:=fun τ Q=>t τ fun k=>Q (.st (.bl k))
def Q6u (we:WE):WT:=fun τ Q=>we τ fun r=>Q2e r Q
def Z3b:WO:=fun _ Q=>Q none
def Z3c (we:WE):WO:=fun τ Q=>we τ fun r=>Q3v r fun i=>Q (some i)
def wSl (we:WE) (wl wh:WO):WE:=fun τ Q=>we τ fun x=>wl τ fun l=>wh τ fun u=>slD x l u Q
def O9:WT:=fun _ Q=>Q true
def Q0z (we:WE):WI:=fun τ Q=>we τ fun r=>∃ds,r=.st (.lst ds)/\Q ds τ
def Q5q (we:WE):WI:=fun τ Q=>we τ fun r=>∃ds,r=.st (.tup ds)/\Q ds τ
def U6 (wr:WA):WI:=fun τ Q=>wr τ fun rs=>∃j:Int,rs=[.st (.int j)]/\-(2 ^ 62)<=j/\j<2 ^ 62/\Q (L0 0 j.toNat) τ
noncomputable def Q1u (we:WE):P5:=fun τ Q=>we τ fun r=>∃ds,P9 r=some ds/\Q ds
noncomputable def Q5u (we:WE):P5:=fun τ Q=>we τ fun r=>∃ds,r=.st (.tup ds)/\Q ds
noncomputable def Q5t (wr:WA):P5:=fun τ Q=>wr τ fun rs=>∃j:Int,rs=[.st (.int j)]/\-(2 ^ 62)<=j/\j<2 ^ 62/\Q (L0 0 j.toNat)
noncomputable def Z2e (we:WE):P5:=fun τ Q=>we τ fun r=>∃x,r=.st (.str x)/\Q (G2 x)
def M5 (wi:WI) (g:WG) (wb:WS):WS:=fun E τ=>wi τ fun ds τ'=>C6 g wb E ds τ'
def Q6s (we:WE) (g:WG):WS:=fun E τ=>we τ fun r=>∃d,r=.st d/\g d τ E.nx
def Q9u (i:Nat):WS:=fun E τ=>∃s,τ[i]?=some (some s)/\Q3d s E.rt
structure Df (K:Fg9) (mg:Str->Option Value) (name:Str) (st:Stmt) (ps:List Str) (f:Addr) (fd:FuncData):Prop where
 F:Q5 K name name st f fd
 b:V1 K fd ps []
 k:PySem.W.keepIn K (.ref f)=true
 m:mg name=some (.ref f)
abbrev FnD (P:Program) (w:World) (K:Fg9) (mg:Str->Option Value) (base:Heap) (k:Nat) (f:Addr) (fd:FuncData) (ps:List Str) (sp:D6):Prop:=R1 P w K mg base L3 k f fd ps (Q5y K ps.length sp)
noncomputable def W1 (r:R):F3:={ nx:=fun _=>r=.st .non,rt:=fun r'=>r'=r,bk:=fun _=>False,ct:=fun _=>False }
section
variable {P:Program}{w:World}{K:Fg9}{mg:Str->Option Value}{base:Heap}
theorem Df.ok {x:Str}{st:Stmt}{f:Addr}{fd:FuncData}{N ps:List Str}{k:Nat}{sp:D6}{ws:WS} (F:Df K mg x st ps f fd) (S:J4 N ps (B8 st))
  (bY:∀(cdv:Value) (A:Around) (outer:List Env) (s:Shared) (H:Hp) (E:XK),C5 k (A.deeper (envOfC x (B8 st) s.heap.objs.size f cdv))->A5 (V4 L3 P w K mg base N x (B8 st) f cdv A outer s H E).nox H (S0 st) ws)
  (hr:∀rs r,rs.length=ps.length->sp rs r->ws (W1 r) (F2 N rs)):FnD P w K mg base (k+1) f fd ps sp :=
 Q5.okD F.F S fun cdv A outer s H E mh=>⟨ws,bY cdv A outer s H E mh,hr⟩
end
section
variable {τ:A8}{E:F3}{Q:R->Prop}{QB:Bool->Prop}{wa wb we:WE}{wr:WA}{t u:WT}{ws wt:WS}{i j:Int}{n:Nat}{x y:Str}{ds es:List D}{d e:D}
@[simp] theorem L8:B3 ws wt E τ=ws { E with nx:=wt E } τ:=rfl
@[simp] theorem Q4m:V0 E τ=E.nx τ:=rfl
@[simp] theorem Q3g:U9 t ws wt E τ=t τ fun k=>if k=true then ws E τ else wt E τ:=rfl
@[simp] theorem X0:N3 we E τ=we τ fun r=>Q4g r E.rt:=rfl
@[simp] theorem Z3s:Q9u n E τ=∃s,τ[n]?=some (some s)/\Q3d s E.rt:=rfl
@[simp] theorem O7:C3 n we E τ=we τ fun r=>Q0p r fun s=>E.nx (τ.set n (some s)):=rfl
@[simp] theorem W5q {g:R->R->(R->Prop)->Prop}:Q9n n g we E τ=∃s,τ[n]?=some (some s)/\we τ fun y=>g (Q8 s) y fun r=>Q0p r fun s'=>E.nx (τ.set n (some s')):=rfl
@[simp] theorem Q8p {g:WG}:Q6s we g E τ=we τ fun r=>∃d,r=.st d/\g d τ E.nx:=rfl
@[simp] theorem Q4j:S7 n we E τ=∃ds,τ[n]?=some (some (.own ds))/\we τ fun r=>∃d,r=.st d/\ds.length<sizeLine/\E.nx (τ.set n (some (.own (ds++[d])))):=rfl
@[simp] theorem T3 {wi:WI}{g:WG}:M5 wi g ws E τ=wi τ fun ds τ'=>C6 g ws E ds τ':=rfl
@[simp] theorem C2:wV n τ Q=∃s,τ[n]?=some (some s)/\Q (Q8 s):=rfl
@[simp] theorem J5:wC d τ Q=Q (.st d):=rfl
@[simp] theorem F6 {α:Type}{g:R->R->(α->Prop)->Prop}{Q:α->Prop}:A6 g wa wb τ Q=wa τ fun x=>wb τ fun y=>g x y Q:=rfl
@[simp] theorem s_b:wB t τ Q=t τ fun k=>Q (.st (.bl k)):=rfl
@[simp] theorem Y2t:Q6u we τ QB=we τ fun r=>Q2e r QB:=rfl
@[simp] theorem W5o:Q9m t u τ QB=t τ fun k=>if k=true then u τ QB else QB false:=rfl
@[simp] theorem Y2q:Q4v t τ QB=t τ fun k=>QB (!k):=rfl
@[simp] theorem W5p:Q0q wa wb τ Q=wa τ fun r=>blR r fun k=>if k=true then wb τ Q else Q (.st (.bl false)):=rfl
@[simp] theorem Y2s:Q2g wa wb τ Q=wa τ fun r=>blR r fun k=>if k=true then Q (.st (.bl true))else wb τ Q:=rfl
@[simp] theorem Y2r:Q0r wa τ Q=wa τ fun r=>blR r fun k=>Q (.st (.bl (!k))):=rfl
@[simp] theorem D4 {Q:List R->Prop}:A3 τ Q=Q []:=rfl
@[simp] theorem D7 {Q:List R->Prop}:A2 we wr τ Q=we τ fun r=>wr τ fun rs=>Q (r::rs):=rfl
@[simp] theorem s_tup:T6 wr τ Q=wr τ fun rs=>∃ds,Y9 rs=some ds/\ds.length<=sizeLine/\Q (.st (.tup ds)):=rfl
@[simp] theorem s_lst:N2 wr τ Q=wr τ fun rs=>∃ds,Y9 rs=some ds/\ds.length<=sizeLine/\Q (.nw ds):=rfl
@[simp] theorem F1:A9 we τ Q=we τ fun r=>fzR r fun d=>Q (.st d):=rfl
@[simp] theorem M4 {g:List R->(R->Prop)->Prop}:C8 g wr τ Q=wr τ fun rs=>g rs Q:=rfl
@[simp] theorem W9 {sp:D6}:M9 sp wr τ Q=wr τ fun rs=>rs.all N6=true/\∃r,sp (rs.map nrm) r/\Q r:=rfl
@[simp] theorem s_sl {wl wh:WO}:wSl we wl wh τ Q=we τ fun x=>wl τ fun l=>wh τ fun u=>slD x l u Q:=rfl
@[simp] theorem s_oN {Q:Option Int->Prop}:Z3b τ Q=Q none:=rfl
@[simp] theorem s_oS {Q:Option Int->Prop}:Z3c we τ Q=we τ fun r=>Q3v r fun i=>Q (some i):=rfl
@[simp] theorem Y2u:O9 τ QB=QB true:=rfl
@[simp] theorem U8 {cap:List Nat}{wi:P5}{g:WG}:N1 n cap wi g t we τ Q=wi τ fun ds=>ds.length<=sizeLine/\G8 g t we ds (R5 n cap τ) fun es=>Q (.nw es):=rfl
@[simp] theorem L1 {Q:A8->Prop}:B1 n d τ Q=Q (τ.set n (some (.dat d))):=rfl
@[simp] theorem Q1e {Q:A8->Prop}:P6 ds τ Q=(ds=[]/\Q τ):=rfl
@[simp] theorem Q1d {g:WG}{gs:WGs}{Q:A8->Prop}:E6 g gs ds τ Q=∃d r,ds=d::r/\g d τ fun τ'=>gs r τ' Q:=rfl
@[simp] theorem Q1f {gs:WGs}{Q:A8->Prop}:O4 n gs d τ Q=∃ds,d=.tup ds/\ds.length=n/\gs ds τ Q:=rfl
@[simp] theorem Q4k {Q:List D->A8->Prop}:Q0z we τ Q=we τ fun r=>∃ds,r=.st (.lst ds)/\Q ds τ:=rfl
@[simp] theorem W6b {Q:List D->A8->Prop}:Q5q we τ Q=we τ fun r=>∃ds,r=.st (.tup ds)/\Q ds τ:=rfl
@[simp] theorem Q2b {Q:List D->A8->Prop}:U6 wr τ Q=wr τ fun rs=>∃j:Int,rs=[.st (.int j)]/\-(2 ^ 62)<=j/\j<2 ^ 62/\Q (L0 0 j.toNat) τ:=rfl
@[simp] theorem Q4l {Q:List D->Prop}:Q1u we τ Q=we τ fun r=>∃ds,P9 r=some ds/\Q ds:=rfl
@[simp] theorem W6d {Q:List D->Prop}:Z2e we τ Q=we τ fun r=>∃x,r=.st (.str x)/\Q (G2 x):=rfl
@[simp] theorem Z3q {Q:List D->Prop}:Q5t wr τ Q=wr τ fun rs=>∃j:Int,rs=[.st (.int j)]/\-(2 ^ 62)<=j/\j<2 ^ 62/\Q (L0 0 j.toNat):=rfl
@[simp] theorem M8:Q8 (.dat d)=.st d:=rfl
@[simp] theorem S6:Q8 (.own ds)=.bw ds:=rfl
@[simp] theorem W1o:Q8 (.bor ds)=.bw ds:=rfl
@[simp] theorem o_sl1:O1 (.st d)=.dat d:=rfl
@[simp] theorem o_sl2:O1 (.bw ds)=.bor ds:=rfl
@[simp] theorem W1p:Q4g (.st d) Q=Q (.st d):=rfl
@[simp] theorem Q3 {P:Sl->Prop}:Q0p (.st d) P=P (.dat d):=rfl
@[simp] theorem V9 {P:Sl->Prop}:Q0p (.nw ds) P=P (.own ds):=rfl
@[simp] theorem Q3b {P:D->Prop}:fzR (.st d) P=P d:=rfl
@[simp] theorem o_bl {b:Bool}:blR (.st (.bl b)) QB=QB b:=rfl
@[simp] theorem W1k {P:Int->Prop}:Q3v (.st (.int i)) P=P i:=rfl
@[simp] theorem o_d1:R.d (.st d)=some d:=rfl
@[simp] theorem o_d2:R.d (.nw ds)=some (.lst ds):=rfl
@[simp] theorem o_d3:R.d (.bw ds)=some (.lst ds):=rfl
@[simp] theorem o_nrm1:nrm (.st d)=.st d:=rfl
@[simp] theorem o_nrm2:nrm (.nw ds)=.bw ds:=rfl
@[simp] theorem o_nrm3:nrm (.bw ds)=.bw ds:=rfl
@[simp] theorem o_arg1:N6 (.st d)=true:=rfl
@[simp] theorem o_arg2:N6 (.nw ds)=true:=rfl
@[simp] theorem o_arg3:N6 (.bw ds)=true:=rfl
@[simp] theorem W1m:P9 (.st (.lst ds))=some ds:=rfl
@[simp] theorem o_sa0:Y9 []=some []:=rfl
@[simp] theorem o_sa1 {rs:List R}:Y9 (.st d::rs)=(Y9 rs).map (d::·):=rfl
@[simp] theorem Q1y:G4 (.st (.int i)) (.st (.int j)) Q=Q (.st (.int (i+j))):=rfl
@[simp] theorem W1h:G4 (.st (.str x)) (.st (.str y)) Q=(x.length+y.length<=sizeLine/\Q (.st (.str (x++y)))):=rfl
@[simp] theorem Z3d:G4 (.bw ds) (.nw es) Q=(ds.length+es.length<=sizeLine/\Q (.nw (ds++es))):=rfl
@[simp] theorem Y1b:V7 (.st (.int i)) (.st (.int j)) Q=(Q1i i j/\Q (.st (.int (i*j)))):=rfl
@[simp] theorem W1l {C:Int->Int->Prop}{f:Int->Int->Int}:TK.Q1 C f (.st (.int i)) (.st (.int j)) Q=(C i j/\Q (.st (.int (f i j)))):=rfl
@[simp] theorem Q1b {f:Int->Int->Bool}:T0 f (.st (.int i)) (.st (.int j)) QB=QB (f i j):=rfl
@[simp] theorem Z3e:C1 (.st (.lst ds)) (.st (.int i)) Q=∃d,M7 ds i=some d/\Q (.st d):=rfl
@[simp] theorem Q8g:C1 (.bw ds) (.st (.int i)) Q=∃d,M7 ds i=some d/\Q (.st d):=rfl
@[simp] theorem Q8h:C1 (.st (.tup ds)) (.st (.int i)) Q=∃d,M7 ds i=some d/\Q (.st d):=rfl
@[simp] theorem o_len1:F4 [.st (.lst ds)] Q=Q (.st (.int ds.length)):=rfl
@[simp] theorem Y0z:F4 [.st (.tup ds)] Q=Q (.st (.int ds.length)):=rfl
@[simp] theorem o_len3:F4 [.nw ds] Q=Q (.st (.int ds.length)):=rfl
@[simp] theorem Q0m:F4 [.bw ds] Q=Q (.st (.int ds.length)):=rfl
@[simp] theorem Y1a:F4 [.st (.str x)] Q=(x.length<=sizeLine/\Q (.st (.int x.length))):=rfl
@[simp] theorem Q1z {r1 r2:R}{b:Bool}:eqD n b r1 r2 QB=∃d e,r1.d=some d/\r2.d=some e/\d.depth<=n/\QB (if b then !D.eq d e else D.eq d e):=rfl
@[simp] theorem W1q {lo hi:Option Int}:slD (.st (.tup ds)) lo hi Q=Q (.st (.tup (Z2 ds lo hi))):=rfl
@[simp] theorem Y1c {b:Bool}:Q2e (.st (.bl b)) QB=QB b:=rfl
@[simp] theorem W1n {r:R}:Q2y [r] Q=∃ds,Q3h r=some ds/\Q (.nw ds):=rfl
@[simp] theorem o_e1:D.eq (.int i) (.int j)=(i==j):=by simp [D.eq]
@[simp] theorem o_e2:D.eq (.str x) (.str y)=(x==y):=by simp [D.eq]
@[simp] theorem o_e3 {b c:Bool}:D.eq (.bl b) (.bl c)=(b==c):=by simp [D.eq]
@[simp] theorem o_e4:D.eq (.lst ds) (.lst es)=D.eqs ds es:=by simp [D.eq]
@[simp] theorem o_e5:D.eq (.tup ds) (.tup es)=D.eqs ds es:=by simp [D.eq]
@[simp] theorem o_eN:D.eqs ds []=ds.isEmpty:=by cases ds <;> simp [D.eqs]
@[simp] theorem W1j {r r':R}:(W1 r).rt r'=(r'=r):=rfl
@[simp] theorem o_endn {r:R}:(W1 r).nx τ=(r=.st .non):=rfl
@[simp] theorem o_dep0:D.depth (.int i)=0:=by simp [D.depth]
@[simp] theorem o_dep1:D.depth (.str x)=0:=by simp [D.depth]
@[simp] theorem o_zl:(0:Nat)<=sizeLine:=bp _
@[simp] theorem V0e {N:List Str}{rs:List R}:F2 N rs=rs.map (fun r=>some (O1 r))++List.replicate (N.length-rs.length) none:=rfl
end
section
variable {X:Cx}{ae:Pn9} {σ:St}{H:Hp}{s:Shared}
open PySem.SeqAt
theorem W4h {d1 d2:D}{u1 u2:Value}{A:Around} (h1:Vw X H s d1 u1) (h2:Vw X H s d2 u2) (hu:A.units<cLine) (hb:¬ Q2n d1 d2):RcNeAt A s u1 u2 (!D.eq d1 d2):=by
 cases h1 <;> cases h2 <;> first | exact absurd (.inl ⟨_,_,rfl,rfl⟩) hb | exact absurd (.inr ⟨_,_,rfl,rfl⟩) hb | (unfold D.eq;(try simp only [Bool.not_true,Bool.not_false]);(with_reducible first | exact RcNeAt.none_none | exact RcNeAt.none_bool _ | exact RcNeAt.none_int _ _ | exact RcNeAt.none_str _ _ | exact RcNeAt.none_tuple (by assumption) hu | exact RcNeAt.none_list (by assumption) hu | exact RcNeAt.bool_none _ | exact RcNeAt.bool_bool _ _ | exact RcNeAt.bool_int _ _ _ | exact RcNeAt.bool_str _ _ _ | exact RcNeAt.bool_tuple _ (by assumption) hu | exact RcNeAt.bool_list _ (by assumption) hu | exact RcNeAt.int_none _ _ | exact RcNeAt.int_bool _ _ _ | exact RcNeAt.int_int _ _ _ _ | exact RcNeAt.int_str _ _ _ _ | exact RcNeAt.int_tuple _ _ (by assumption) hu | exact RcNeAt.int_list _ _ (by assumption) hu | exact RcNeAt.str_none _ _ | exact RcNeAt.str_bool _ _ _ | exact RcNeAt.str_int _ _ _ _ | exact RcNeAt.str_str _ _ _ _ | exact RcNeAt.str_tuple _ _ (by assumption) hu | exact RcNeAt.str_list _ _ (by assumption) hu | exact RcNeAt.tuple_none (by assumption) hu | exact RcNeAt.tuple_bool _ (by assumption) hu | exact RcNeAt.tuple_int _ _ (by assumption) hu | exact RcNeAt.tuple_str _ _ (by assumption) hu | exact RcNeAt.tuple_list (by assumption) (by assumption) hu | exact RcNeAt.list_none (by assumption) hu | exact RcNeAt.list_bool _ (by assumption) hu | exact RcNeAt.list_int _ _ (by assumption) hu | exact RcNeAt.list_str _ _ (by assumption) hu | exact RcNeAt.list_tuple (by assumption) (by assumption) hu))
theorem W4g (I:A0 X ae σ H s) (n:Nat) (d1 d2:D) (v1 v2:V) (u1 u2:Value) (A:Around) (hd:d1.depth<=n) (h1:IsW X.K H d1 v1) (h2:IsW X.K H d2 v2) (r1:B7 v1 u1) (r2:B7 v2 u2) (hu:A.units+n+1<cLine):RcNeAt A s u1 u2 (!D.eq d1 d2):=by
 have w1:=Q4o I h1 r1
 have w2:=Q4o I h2 r2
 by_cases hb:Q2n d1 d2
 ·obtain⟨p,q,rfl,rfl⟩ | ⟨p,q,rfl,rfl⟩:=hb
  ·cases w1;cases w2
   rename_i a1 lu fC gB ij gX a2 lq bW di e9 cJ
   have hd:D.depths p+1<=n:=by unfold D.depth at hd;exact hd
   have l1:fC.toArray.size=p.length:=by have:=gX.length;have:=gB.length;simp;omega
   have l2:bW.toArray.size=q.length:=by have:=cJ.length;have:=di.length;simp;omega
   have k:=RcNeAt.tuples (A:=A) (s:=s) (e:=fun i=>match p[i]?,q[i]? with | some x,some y=>D.eq x y | _,_=>true) ij e9 (by omega) (fun j jB i7=>by
    obtain⟨d1,v1,e1,i1,w1⟩:=Q1q gX gB jB
    obtain⟨d2,v2,e2,i2,w2⟩:=Q1q cJ di i7
    simp only [e1,e2]
    exact Q5n I (fun A=>Q8m I n d1 d2 v1 v2 _ _ A (by have:=D.depths_get e1;omega) i1.w i2.w w1 w2) i1 i2 w1 w2 (by simp only [bP];omega))
   rw [l1,l2]at k
   unfold D.eq;rw [D.eqs_range];exact k
  ·cases w1;cases w2
   rename_i a1 lu fC gB ij gX a2 lq bW di e9 cJ
   have hd:D.depths p+1<=n:=by unfold D.depth at hd;exact hd
   have l1:fC.toArray.size=p.length:=by have:=gX.length;have:=gB.length;simp;omega
   have l2:bW.toArray.size=q.length:=by have:=cJ.length;have:=di.length;simp;omega
   have kk:RcNeAt A s (.ref a1) (.ref a2) (!D.eqs p q):=by
    rw [D.eqs_range]
    by_cases bL:p.length=q.length
    ·have k:=RcNeAt.lists (A:=A) (s:=s) (e:=fun i=>match p[i]?,q[i]? with | some x,some y=>D.eq x y | _,_=>true) ij e9 (by omega) (by omega) (fun j jB i7=>by
      obtain⟨d1,v1,e1,i1,w1⟩:=Q1q gX gB jB
      obtain⟨d2,v2,e2,i2,w2⟩:=Q1q cJ di i7
      simp only [e1,e2]
      exact Q5n I (fun A=>Q8m I n d1 d2 v1 v2 _ _ A (by have:=D.depths_get e1;omega) i1.w i2.w w1 w2) i1 i2 w1 w2 (by simp only [bP];omega))
     rw [l1]at k
     rw [<- bL,Nat.min_self,beq_self_eq_true,Bool.and_true]
     exact k
    ·rw [bT.mpr bL,Bool.and_false]
     exact RcNeAt.lists_lengths ij e9 (by rw [l1,l2];simpa using bL) (by omega)
   unfold D.eq;exact kk
 ·exact W4h w1 w2 (by omega) hb
theorem Q5l {n:Nat} (hu:X.A.units+n+1<cLine):X5 X .NotEq (eqD n true):=by
 intro ae s σ H x y v u Q I rx ry ⟨r1,r2,h1,h2,d,e,e1,e2,hd,q⟩
 exact W4g I n d e x y v u X.A hd (h1.w e1) (h2.w e2) rx ry hu _ _ _ _ ⟨.bl _,H,I,rfl,q⟩
theorem Q2t {A:Around}{k:Nat} (hr:C5 k A):A.units+59+1<cLine:=by have:=hr.units;omega
end
section
variable {X:Cx}{H0:Hp}{a b c e o tg:Expr}{pos apos bv:Pos}{wa wb wc we:WE}{wr:WA}
def Q5f (x y:R) (Q:R->Prop):Prop:=∃i j,P9 x=some i/\P9 y=some j/\i.length+j.length<=sizeLine/\Q (.nw (i++j))
theorem Y6d:X6 Q5f:=fun x y P Q g ⟨i,j,a,b,c,q⟩=>⟨i,j,a,b,c,g _ q⟩
theorem Z9v {K:Fg9}{H:Hp}:∀{r:R}{ds:List D}{v:V},P9 r=some ds->IsV K H r v->∃a xs,v=.ref a/\C9 K H a xs/\AllS K H ds xs:=fun {r ds v} e h=>Q1a (H0:=fun _=>none) e h
theorem W1r:OpD X (binaryOp .Add) Q5f:=by
 intro ae s σ H x y v u Q I rx ry ⟨r1,r2,h1,h2,i,j,e1,e2,hz,q⟩
 obtain⟨l,xs,rfl,sq,al⟩:=Z9v e1 h1
 obtain⟨b,ys,rfl,pA,iN⟩:=Z9v e2 h2
 cases rx;cases ry
 obtain⟨aS,rv,pl,_⟩:=I.list sq
 obtain⟨bW,di,e9,_⟩:=I.list pA
 have la:=al.length
 have lb:=iN.length
 have lr:=rv.length
 have rR:=di.length
 obtain⟨⟨cls,dd,data,sl⟩,ho,hc,n,hd⟩:=id pl.isList
 obtain⟨⟨kS,jU,data2,jM⟩,fN,j4,n2,j3⟩:=id e9.isList
 simp only at hc hd j4 j3
 subst hc hd j4 j3
 have e:aS.toArray++bW.toArray=(aS++bW).toArray:=by simp
 refine concat_meets ⟨_,ho,rfl⟩ ⟨_,fN,rfl⟩ noFill_list_add seq_list_add PySem.F.slot_list_add PySem.F.entry_list_add (PySem.F.args_list_add_2 _ _) (list_addW l b aS.toArray bW.toArray n n2 dd jU sl jM (by simp;omega)) ⟨ho,fN,?_⟩
 rw [e]
 have fr:=I.fresh
 exact⟨.ref _,_,I.lnew (t':=s.toks) (rv.append di) (by rw [aA];omega),rfl,q _ _ (D5 fr _) ⟨_,xs++ys,rfl,fr,upd_same,(al.mono (Kp.of (D5 fr _)) _ _).append (iN.mono (Kp.of (D5 fr _)) _ _)⟩⟩
noncomputable def Q5r (x y:Str):Option Nat:=(Builtin.Str.occurrences x y 0 x.length 1).head?
def Q9r (wo we:WE):WE:=fun τ Q=>wo τ fun r1=>∃x,r1=.st (.str x)/\we τ fun r=>∃y i,r=.st (.str y)/\Q5r x y=some i/\Q (.st (.int (i:Int)))
theorem W0z:MtR X "str.index" (fun x vs H Q=>∃z y i,x=.str z/\vs=[.str y]/\Q5r z y=some i/\Q (.int (i:Int)) H):=by
 intro ae s σ H x vs v us Q I rx rv ⟨z,y,i,e1,e2,hi,q⟩
 subst e1 e2
 obtain⟨t,rfl⟩:=rx
 obtain⟨u,rfl,t',rfl⟩:=T5 rv
 unfold Q5r at hi
 cases ho:Builtin.Str.occurrences z y 0 z.length 1 with
 | nil=>rw [ho]at hi;cases hi
 | cons j rest =>
  rw [ho]at hi
  have hi:some j=some i:=hi
  cases hi
  exact PySem.SC.index ho ⟨.int _,H,I.tok _,⟨_,rfl⟩,q⟩
theorem DE.index {wo:WE} (ho:DE X H0 o wo) (he:DE X H0 e we) (fm:attributeBase o "index" X.env (eval o X.env)=eval o X.env:=by rfl)
  (gP:((backTo bv (starEach [e] X.env)).all (fun x=>!x.1)&&(backToKw bv (keywordEach [] X.env)).all (fun x=>x.1.isSome)&&decide ([e].length+([]:List Keyword).length+(if ([]:List Keyword).isEmpty then 0 else 1)<30))=true:=by rfl)
  (fj:(apos.endLine==bv.line)=true:=by rfl) (hs:starEach [e] X.env=(false,eval e X.env)::starEach [] X.env:=by rfl) (dP:(backTo bv (starEach [] X.env)).any (·.1)=false:=by rfl) :
  DE X H0 (.Call (.Attribute o "index" apos) [e] [] bv) (Q9r wo we) where
 mono:=fun τ P Q f h=>ho.mono τ _ _ (fun r ⟨x,e1,h⟩=>⟨x,e1,he.mono τ _ _ (fun r ⟨y,i,a1,a2,a3⟩=>⟨y,i,a1,a2,f _ a3⟩) h⟩) h
 pe:=N9 (Y1g PySem.F.plainAttrs_str PySem.F.slot_str_index PySem.F.type_str_index W0z ho.pe (Q4e he.pe Q6f hs) fm gP fj hs dP) fun σ H Q ⟨τ,hR,h⟩=>⟨τ,hR,ho.mono τ _ _ (fun r ⟨x,e1,h⟩ v H1 s1 ir=>by
  subst e1
  cases (show v=.str x from ir)
  refine⟨rfl,τ,hR.mono s1,he.mono τ _ _ (fun r ⟨y,i,a1,a2,a3⟩ u H2 s2 iu=>?_) h⟩
  subst a1
  cases (show u=.str y from iu)
  exact⟨x,y,i,rfl,rfl,a2,a3 _ _ (s1.trans s2) Z7⟩) h⟩
def Z1y (we:WE):WI:=fun τ Q=>we τ fun r=>∃x,r=.st (.str x)/\Q (G2 x) τ
theorem W9g {K:Fg9}{H0 H:Hp}{x:Str}:Yl K H0 (Its x) (G2 x) H where
 go:=fun H' _ _ i hi=>by
  have:i<x.cps.size:=by simpa [G2]using hi
  exact this
 yld:=fun H' _ _ i v dh d hd ⟨e,c,hc,hv⟩=>by
  subst e hv
  refine⟨A4.refl _,?_⟩
  unfold G2 at hd
  rw [ai]at hd
  have:x.cps.toList[i]?=some c:=by simpa using hc
  rw [this]at hd
  have e:D.str ⟨#[c]⟩=d:=aB hd
  subst e
  exact A1.s_str
 stop:=fun H' _ _=>by
  show(G2 x).length=x.cps.size
  simp [G2]
theorem DI.str (he:DE X H0 e we):DI X H0 tg e (Z1y we) where
 mono:=fun τ P Q f h=>he.mono τ _ _ (fun r ⟨ds,e1,q⟩=>⟨ds,e1,f _ _ q⟩) h
 pi:=by
  intro ae s σ H R I ⟨τ,hR,h⟩
  refine B2 (he.pe ae s σ H (fun v H1=>A4 H H1/\∃x,v=.str x/\∀J H',Kp H H'->B5 X.K H0 τ σ H'->Yl X.K H0 J (G2 x) H'->R J H') I ⟨τ,hR,he.mono τ _ _ (fun r ⟨x,e1,q⟩ v H1 s1 ir=>⟨s1,x,by subst e1;exact ir,q⟩) h⟩) fun u s1 ⟨v,H1,I1,rv,sm,x,e1,q⟩=>?_
  subst e1
  obtain⟨t,rfl⟩:=rv
  have fin:∀(ty:String),(ty="str_ascii_iterator"\/ty="str_iterator")->PIE X ae σ tg R (.ref s1.heap.objs.size) { s1 with heap:=s1.heap.push { cls:=.type ty,data:=.fields #[.str x t,.int 0 0] } }:=fun ty i4=>by
   refine⟨s1.heap.objs.size,[s1.heap.objs.size],_,_,H1,rfl,I1.kept (t':=s1.toks) fun b o e=>aa _ e,Y4r (ty:=ty) (x:=x) (t:=t) i4,⟨_,aw _ rfl,rfl,rfl⟩,fun b hb=>?_,q _ _ (Kp.of sm) (hR.mono sm) W9g⟩
   have e:b=s1.heap.objs.size:=by simpa using hb
   subst e
   exact I1.fpOk (ah _) (I1.hok.fresh (ah _))
  cases ha:x.cps.all (·<128)
  ·exact wpAny_pyIter_wide ha (fin _ (.inr rfl))
  ·exact wpAny_pyIter_ascii ha (fin _ (.inl rfl))
end
def Z8a (ds:List D) (P:D->List D->Prop):Prop:=match ds with
 | []=>False
 | d::r=>P d r
def tupR (d:D) (P:List D->Prop):Prop:=match d with
 | .tup ds=>P ds
 | _=>False
section
variable {τ:A8}{Q:R->Prop}{QB:Bool->Prop}{wa wb wc we:WE}{wr:WA}{n:Nat}{d e:D}{ds es:List D}{i j:Int}{x y:Str}
@[simp] theorem W6a {Q:List D->A8->Prop}:Z1y we τ Q=we τ fun r=>∃x,r=.st (.str x)/\Q (G2 x) τ:=rfl
@[simp] theorem W6c:Q9r wa we τ Q=wa τ fun r1=>∃x,r1=.st (.str x)/\we τ fun r=>∃y i,r=.st (.str y)/\Q5r x y=some i/\Q (.st (.int (i:Int))):=rfl
@[simp] theorem Z3r {Q:List D->Prop}:Q5u we τ Q=we τ fun r=>∃ds,r=.st (.tup ds)/\Q ds:=rfl
@[simp] theorem W1i {r r':R}:Q5f r r' Q=∃i j,P9 r=some i/\P9 r'=some j/\i.length+j.length<=sizeLine/\Q (.nw (i++j)):=rfl
@[simp] theorem Q2a {r:R}:Q9 [r] Q=∃ds,Q3h r=some ds/\Q (.st (.tup ds)):=rfl
@[simp] theorem o_sq2:Q3h (.nw ds)=some ds:=rfl
@[simp] theorem Q8i:Q3h (.bw ds)=some ds:=rfl
@[simp high] theorem s_gCn2 {g:WG}{gs:WGs}{Q:A8->Prop}:E6 g gs ds τ Q ↔ Z8a ds fun d r=>g d τ fun τ'=>gs r τ' Q:=by
 constructor
 ·rintro ⟨a,b,h,q⟩
  cases h;exact q
 ·intro h
  cases ds with
  | nil=>exact h.elim
  | cons d r=>exact⟨d,r,rfl,h⟩
@[simp high] theorem s_gTp2 {gs:WGs}{Q:A8->Prop}:O4 n gs d τ Q ↔ tupR d fun ds=>ds.length=n/\gs ds τ Q:=by
 constructor
 ·rintro ⟨a,h,q⟩
  cases h;exact q
 ·intro h
  cases d with
  | tup ds=>exact⟨ds,rfl,h⟩
  | _=>exact h.elim
@[simp] theorem V0d {P:D->List D->Prop}:Z8a (d::ds) P=P d ds:=rfl
@[simp] theorem o_tupR {P:List D->Prop}:tupR (.tup ds) P=P ds:=rfl
end
theorem Q0w {we:WE}{f:D->D}{rest:A8}:∀(ds:List D) (o:Option Sl) (Q:List D->Prop),(∀d∈ds,∀Q':R->Prop,Q' (.st (f d))->we (some (.dat d)::rest) Q')->Q (ds.map f)->G8 (B1 0) O9 we ds (o::rest) Q
 | [],o,Q,h,q=>q
 | d::ds,o,Q,h,q=>by
  simp only [G8]
  simp
  refine h d ar _ ⟨_,rfl,?_⟩
  exact Q0w ds _ _ (fun d hd=>h d (av _ hd)) q
end TK
end
section
namespace HT
open PySem PySem.Spec PyProof.Rows
open AutoSeq1 (wpAny_loadPart')
section
variable {prog:Program}{w:World}{A:Around}{E:VS9}{s:Shared}
end
end HT
namespace TK
open PySem PySem.Spec PyProof.Rows L2
section
variable {X:Cx}
end
end TK
end
section
namespace HT
open PySem PySem.Spec PyProof.Rows
section
variable {prog:Program}{w:World}{A:Around}{E:VS9}{s:Shared}
end
end HT
namespace TK
open PySem PySem.Spec PyProof.Rows L2
section
variable {X:Cx}{H0:Hp}{a b c e tg:Expr}{pos p p2 dw:Pos}{wa wb we:WE}{wr:WA}
noncomputable def P3 (ds es:List D):List D:=(ds.zip es).map fun p=>.tup [p.1,p.2]
theorem Z6a {ds es:List D}{i:Nat}{d:D} (h:(P3 ds es)[i]?=some d):∃x y,ds[i]?=some x/\es[i]?=some y/\d=.tup [x,y]:=by
 unfold P3 at h
 rw [ai]at h
 cases e:(ds.zip es)[i]? with
 | none=>rw [e]at h;cases h
 | some q =>
  rw [e]at h
  have h:D.tup [q.1,q.2]=d:=aB h
  rw [bO]at e
  exact⟨q.1,q.2,e.1,e.2,h.symm⟩
theorem Q6z (ds es:List D):(P3 ds es).length=min ds.length es.length:=by simp [P3]
end
end TK
end
section
namespace HT
open PySem PySem.Spec PyProof.Rows L2
section
variable {prog:Program}{w:World}{A:Around}{E:VS9}{s:Shared}
end
end HT
end
section
namespace TK
open PySem PySem.Spec PyProof.Rows L2
theorem Kp.updM {H:Hp}{a:Addr}{old:HO} (h:H a=some old) (nt:∀xs,old≠.tup xs) (nf:∀o u,old≠.frz o u) (o:HO):Kp H (L2.upd H a o) :=
 ⟨fun c ys q=>by rw [B0 (W8 q h (fun z=>nt _ z.symm))];exact q,fun c ob u q=>by rw [B0 (W8 q h (fun z=>nf _ _ z.symm))];exact q⟩
theorem B5.mutG {K:Fg9}{H0 H:Hp} {τ:A8} {σ:St}{i:Nat}{s s':Sl}{a:Addr}{old new:HO} (hR:B5 K H0 τ σ H) (e1:τ[i]?=some (some s)) (m:s.mut=true) (hv:σ[i]?=some (some (.ref a))) (h0:H0 a=none)
  (sq:H a=some old) (nt:∀xs,old≠.tup xs) (nf:∀o u,old≠.frz o u) (l6:N5 K H0 (upd H a new) s' (.ref a)) (ne:∀ φ,old≠.ext φ:=by intro φ z;cases z):B5 K H0 (τ.set i (some s')) σ (upd H a new):=by
 have kp:Kp H (upd H a new):=Kp.updM sq nt nf _
 have hl:i<τ.length:=by
  rcases bD i τ.length with h | h
  ·exact h
  ·rw [aH.mpr h]at e1;cases e1
 have jk:∀(j:Nat) (t:Sl),(τ.set i (some s'))[j]?=some (some t)->j≠i->τ[j]?=some (some t):=fun j t e hj=>by rw [aF (fun z=>hj z.symm)]at e;exact e
 have fi:∀(j:Nat) (t:Sl),(τ.set i (some s'))[j]?=some (some t)->t.mut=true->∃t',τ[j]?=some (some t')/\t'.mut=true:=fun j t e mm=>by
  by_cases hj:j=i
  ·subst hj;exact⟨_,e1,m⟩
  ·exact⟨t,jk j t e hj,mm⟩
 refine⟨by rw [bJ];exact hR.len,fun b ob hb=>?_,fun j t e=>?_,fun j k t u v cA e2 e3 m1 m2 q1 q2=>?_⟩
 ·rw [B0 (U7 hb h0)];exact hR.same b ob hb
 ·by_cases hj:j=i
  ·subst hj
   rw [Z5 hl]at e;cases e
   exact⟨_,hv,l6⟩
  ·have e:=jk j t e hj
   obtain⟨v,q,r⟩:=hR.here j t e
   refine⟨v,q,?_⟩
   have ap:t.mut=true->v≠.ref a:=fun mm z=>by
    subst z
    exact hR.apart i j _ t (.ref a) (fun z=>hj z.symm) e1 e m mm hv q
   cases t with
   | dat d=>exact A1.mono kp _ _ r
   | own es=>obtain⟨b,ys,e,n,q,t⟩:=r;exact⟨b,ys,e,n,by rw [B0 (fun z=>ap rfl (by rw [e,z]))];exact q,t.mono kp _ _⟩
   | bor es=>obtain⟨b,ys,e,q,t⟩:=r;exact⟨b,ys,e,q,t.mono kp _ _⟩
   | bd es=>obtain⟨b,ys,e,q,t⟩:=r;exact⟨b,ys,e,q,t.mono kp _ _⟩
   | dk es=>obtain⟨b,ys,e,n,q,t⟩:=r;exact⟨b,ys,e,n,by rw [B0 (fun z=>ap rfl (by rw [e,z]))];exact q,t.mono kp _ _⟩
   | dt es=>obtain⟨b,ys,e,n,q,t⟩:=r;exact⟨b,ys,e,n,by rw [B0 (fun z=>ap rfl (by rw [e,z]))];exact q,t.mono kp _ _⟩
   | ob _=>exact r
   | cl _ _=>exact⟨r.1,r.2.2 _ _ kp r.2.1,r.2.2⟩
   | ll _ _=>exact⟨r.1,r.2.keep kp fun b φ q=>by rw [B0 (W8 q sq (fun z=>ne _ z.symm))];exact q⟩
   | ins _ _ _=>obtain⟨e,n,dx,ys,q,t⟩:=r;exact⟨e,n,dx,ys,by rw [B0 (fun z=>ap rfl (by rw [e,z]))];exact q,t.mono kp _ _⟩
 ·obtain⟨s1,ni,lM⟩:=fi j t e2 m1
  obtain⟨t1,nh,lL⟩:=fi k u e3 m2
  exact hR.apart j k s1 t1 v cA ni nh lM lL q1 q2
noncomputable def P7:D->Option A7
 | .int i=>some (.inl i)
 | .str x=>some (.inr x)
 | _=>none
noncomputable def O5:List D->Option (List A7)
 | []=>some []
 | d::r=>(P7 d).bind fun k=>(O5 r).map (k::·)
theorem Q2v {K:Fg9}{H:Hp}:∀{ds:List D}{ks:List A7}{xs:List V},O5 ds=some ks->AllS K H ds xs->xs=ks.map kV
 | [],ks,xs,h,al=>by cases h;unfold AllS at al;exact al
 | d::r,ks,xs,h,al=>by
  unfold O5 at h
  unfold AllS at al
  obtain⟨v,t,rfl,iv,al⟩:=al
  cases d with
  | int i =>
   cases e:O5 r with
   | none=>rw [e]at h;cases h
   | some k2 =>
    rw [e]at h
    have h:some (Sum.inl i::k2)=some ks:=h
    cases h
    rw [Q2v e al]
    unfold A1 at iv
    rw [iv];rfl
  | str i =>
   cases e:O5 r with
   | none=>rw [e]at h;cases h
   | some k2 =>
    rw [e]at h
    have h:some (Sum.inr i::k2)=some ks:=h
    cases h
    rw [Q2v e al]
    unfold A1 at iv
    rw [iv];rfl
  | non=>cases h
  | bl _=>cases h
  | tup _=>cases h
  | lst _=>cases h
section
variable {κ:Type} [DecidableEq κ]
noncomputable def C7 (kvs:List (κ×D)) (k:κ):Option D:=(kvs.find? fun kv=>decide (kv.1=k)).map (·.2)
noncomputable def K9 (kvs:List (κ×D)) (k:κ) (v:D):List (κ×D):=if (kvs.any fun kv=>decide (kv.1=k))=true then kvs.map (fun kv=>if kv.1=k then(kv.1,v)else kv)else kvs++[(k,v)]
theorem B4.val {K:Fg9}{H:Hp}{k:κ}:∀{kvs:List (κ×D)}{ps:List (κ×V)},B4 K H kvs ps->(C7 kvs k=none/\R0 ps k=none)\/∃d v,C7 kvs k=some d/\R0 ps k=some v/\A1 K H d v
 | [],ps,h=>by unfold B4 at h;subst h;exact .inl ⟨rfl,rfl⟩
 | p::kvs,ps,h=>by
  unfold B4 at h
  obtain⟨v,r,rfl,iv,h⟩:=h
  by_cases e:p.1=k
  ·exact .inr ⟨p.2,v,by simp [C7,b7,e],Q9l e,iv⟩
  ·rw [Q9k (p:=(p.1,v)) e]
   have:C7 (p::kvs) k=C7 kvs k:=by simp [C7,b7,e]
   rw [this]
   exact B4.val h
theorem B4.any {K:Fg9}{H:Hp}{k:κ}:∀{kvs:List (κ×D)}{ps:List (κ×V)},B4 K H kvs ps->(kvs.any fun kv=>decide (kv.1=k))=(ps.any fun kv=>decide (kv.1=k))
 | [],ps,h=>by unfold B4 at h;subst h;rfl
 | p::kvs,ps,h=>by
  unfold B4 at h
  obtain⟨v,r,rfl,iv,h⟩:=h
  rw [cO,cO,B4.any h]
theorem B4.length {K:Fg9}{H:Hp}:∀{kvs:List (κ×D)}{ps:List (κ×V)},B4 K H kvs ps->kvs.length=ps.length
 | [],ps,h=>by unfold B4 at h;subst h;rfl
 | p::kvs,ps,h=>by
  unfold B4 at h
  obtain⟨v,r,rfl,iv,h⟩:=h
  rw [az,az,B4.length h]
theorem B4.app {K:Fg9}{H:Hp}{k:κ}{d:D}{v:V} (q:A1 K H d v):∀{kvs:List (κ×D)}{ps:List (κ×V)},B4 K H kvs ps->B4 K H (kvs++[(k,d)]) (ps++[(k,v)])
 | [],ps,h=>by unfold B4 at h;subst h;exact⟨v,[],rfl,q,rfl⟩
 | p::kvs,ps,h=>by
  unfold B4 at h
  obtain⟨v',r,rfl,iv,h⟩:=h
  exact⟨v',_,rfl,iv,B4.app q h⟩
theorem B4.repl {K:Fg9}{H:Hp}{k:κ}{d:D}{v:V} (q:A1 K H d v):∀{kvs:List (κ×D)}{ps:List (κ×V)},B4 K H kvs ps->B4 K H (kvs.map fun kv=>if kv.1=k then(kv.1,d)else kv) (ps.map fun kv=>if kv.1=k then(kv.1,v)else kv)
 | [],ps,h=>by unfold B4 at h;subst h;rfl
 | p::kvs,ps,h=>by
  unfold B4 at h
  obtain⟨v',r,rfl,iv,h⟩:=h
  have ih:=B4.repl (k:=k) q h
  by_cases e:p.1=k
  ·simp only [ao,e,if_true]
   exact⟨v,_,rfl,q,ih⟩
  ·simp only [ao,e,dl]
   exact⟨v',_,rfl,iv,ih⟩
theorem B4.put {K:Fg9}{H:Hp}{k:κ}{d:D}{v:V} (q:A1 K H d v) {kvs:List (κ×D)}{ps:List (κ×V)} (h:B4 K H kvs ps):B4 K H (K9 kvs k d) (O0 ps k v):=by
 unfold K9 O0
 rw [B4.any h]
 split
 ·exact B4.repl (k:=k) q h
 ·exact B4.app q h
end
section
variable {X:Cx}{H0:Hp}{a b c e o tg:Expr}{pos bF p2 apos bv:Pos}{wa wb wi we:WE}{x:Str}
def Z4s (i:Nat):WS:=fun E τ=>E.nx (τ.set i (some (.dt [])))
theorem DS.dnew {i:Nat} (hN:X.N.Nodup) (hi:X.N[i]?=some x) (hx:Loc X.env.scope x) (hs:swapsWith (.Dict [] [] p2) (some (.Name x bF)) pos.line X.env=pure false:=by rfl)
  (hf:X.fn x=true\/X.env.scope.names.lookup x=some .local:=by first | exact .inl rfl | exact .inr rfl | assumption):DS X H0 (.Assign [.Name x bF] (.Dict [] [] p2) pos) (Z4s i) where
 mono:=fun τ E F le h=>le.nx _ h
 ps:=Q0 (Q3f hN hi hx W2r hs hf) fun D σ H ⟨τ,hR,h⟩ p hp=>by
  have sm:A4 H (upd H p (.dT [])):=D5 hp _
  refine h _ _ (Kp.of sm) ((hR.mono sm).set (s:=.dt []) ⟨p,[],rfl,hR.same.free hp,upd_same,rfl⟩ fun _ j t hj e m q=>?_)
  obtain⟨o,ho⟩:=hR.tracked e m q
  rw [hp]at ho;cases ho
theorem B5.dtAt {K:Fg9}{H:Hp} {τ:A8} {σ:St}{i:Nat}{kvs:List (List A7×D)} (hR:B5 K H0 τ σ H) (e1:τ[i]?=some (some (.dt kvs))):∃a ps,σ[i]?=some (some (.ref a))/\H0 a=none/\H a=some (.dT ps)/\B4 K H kvs ps:=by
 obtain⟨v,hv,a,xs,rfl,h0,sq,al⟩:=hR.here i _ e1
 exact⟨a,xs,hv,h0,sq,al⟩
def Q4p (i:Nat) (we:WE):WE:=fun τ Q=>∃kvs,τ[i]?=some (some (.dt kvs))/\we τ fun r=>∃ds ks d,r=.st (.tup ds)/\O5 ds=some ks/\C7 kvs ks=some d/\Q (.st d)
theorem DE.dgetT {i:Nat} (hu:X.A.units+1<cLine) (ho:PE X o (O2 i)) (he:DE X H0 e we) (hs:Q2k e):DE X H0 (.Subscript o e pos) (Q4p i we) where
 mono:=fun τ P Q f ⟨kvs,e1,h⟩=>⟨kvs,e1,he.mono τ _ _ (fun r ⟨ds,ks,d,a1,a2,a3,a4⟩=>⟨ds,ks,d,a1,a2,a3,f _ a4⟩) h⟩
 pe:=N9 (Q6h hu ho he.pe hs) fun σ H Q ⟨τ,hR,kvs,e1,h⟩=>by
  obtain⟨a,ps,hv,h0,sq,kv⟩:=hR.dtAt e1
  refine⟨_,hv,τ,hR,he.mono τ _ _ (fun r ⟨ds,ks,d,a1,a2,a3,a4⟩ v H1 s1 ir=>?_) h⟩
  subst a1
  have ir:A1 X.K H1 (.tup ds) v:=ir
  unfold A1 at ir
  obtain⟨b,xs,rfl,sb,al⟩:=ir
  rw [Q2v a2 al]at sb
  rcases B4.val (k:=ks) (kv.mono (Kp.of s1) _ _)with⟨n1,_⟩ | ⟨d',v',n1,n2,n3⟩
  ·rw [a3]at n1;cases n1
  ·rw [a3]at n1;cases n1
   refine⟨a,v',rfl,?_,a4 _ _ s1 n3⟩
   have g:=U2.t (s1 _ _ sq) sb
   rw [n2]at g
   exact g
def Q9p (i:Nat) (we:WE):WT:=fun τ Q=>∃kvs,τ[i]?=some (some (.dt kvs))/\we τ fun r=>∃ds ks,r=.st (.tup ds)/\O5 ds=some ks/\Q (!(C7 kvs ks).isSome)
theorem DT.dnotin {i:Nat} (hu:X.A.units+1<cLine) (he:DE X H0 e we) (ho:PE X o (O2 i)) (h1:behindInMarks .NotIn o=false:=by rfl):DT X H0 (.Compare e [.NotIn] [o] pos) (Q9p i we) where
 mono:=fun τ P Q f ⟨kvs,e1,h⟩=>⟨kvs,e1,he.mono τ _ _ (fun r ⟨ds,ks,a1,a2,a4⟩=>⟨ds,ks,a1,a2,f _ a4⟩) h⟩
 pt:=ptW (Y1s (Y1f hu he.pe ho) h1) fun σ H Q ⟨τ,hR,kvs,e1,h⟩=>by
  refine⟨τ,hR,he.mono τ _ _ (fun r ⟨ds,ks,a1,a2,a4⟩ v H1 s1 ir=>?_) h⟩
  obtain⟨a,ps,hv,h0,sq,kv⟩:=(hR.mono s1).dtAt e1
  subst a1
  have ir:A1 X.K H1 (.tup ds) v:=ir
  unfold A1 at ir
  obtain⟨b,xs,rfl,sb,al⟩:=ir
  rw [Q2v a2 al]at sb
  refine⟨_,hv,a,_,rfl,U2.t sq sb,?_⟩
  have e:(R0 ps ks).isSome=(C7 kvs ks).isSome:=by
   rcases B4.val (k:=ks) kv with⟨n1,n2⟩ | ⟨d',v',n1,n2,n3⟩ <;> rw [n1,n2] <;> rfl
  rw [e]
  exact⟨_,rfl,a4 _ s1⟩
def Q2f (i:Nat) (we wv:WE):WS:=fun E τ=>wv τ fun r=>∃d,r=.st d/\∃kvs,τ[i]?=some (some (.dt kvs))/\we τ fun rk=>∃ds ks,rk=.st (.tup ds)/\O5 ds=some ks/\kvs.length<sizeLine/\E.nx (τ.set i (some (.dt (K9 kvs ks d))))
theorem DS.dput {i:Nat}{v:Expr}{wv:WE} (hu:X.A.units+1<cLine) (ho:PE X o (O2 i)) (he:DE X H0 e we) (hv:DE X H0 v wv) (hs:swapsWith v (some (.Subscript o e bF)) pos.line X.env=pure false:=by rfl) :
  DS X H0 (.Assign [.Subscript o e bF] v pos) (Q2f i we wv) where
 mono:=fun τ E F le h=>hv.mono τ _ _ (fun r ⟨d,e1,kvs,e2,h⟩=>⟨d,e1,kvs,e2,he.mono τ _ _ (fun r ⟨ds,ks,a1,a2,a3,a4⟩=>⟨ds,ks,a1,a2,a3,le.nx _ a4⟩) h⟩) h
 ps:=Q0 (Y1p hu ho he.pe hv.pe hs) fun D σ H ⟨τ,hR,h⟩=>by
  refine⟨τ,hR,hv.mono τ _ _ (fun r ⟨d,e1,kvs,e2,h⟩ u H1 s1 ir=>?_) h⟩
  subst e1
  have dI:=hR.mono s1
  obtain⟨a,ps,gH,h0,sq,kv⟩:=dI.dtAt e2
  refine⟨_,gH,τ,dI,he.mono τ _ _ (fun rk ⟨ds,ks,a1,a2,a3,a4⟩ y H2 s2 ik=>?_) h⟩
  subst a1
  have ik:A1 X.K H2 (.tup ds) y:=ik
  unfold A1 at ik
  obtain⟨b,xs,rfl,sb,al⟩:=ik
  rw [Q2v a2 al]at sb
  have cW:=s2 _ _ sq
  have i0:=kv.mono (Kp.of s2) _ _
  refine⟨a,_,rfl,Q1l.t cW sb (by rw [<- B4.length i0];exact a3),?_⟩
  have kp:Kp H2 (upd H2 a (.dT (O0 ps ks u))):=Kp.updM cW (by intro xs z;cases z) (by intro o u z;cases z) _
  have iv:A1 X.K H2 d u:=A1.mono (Kp.of s2) _ _ ir
  refine a4 σ _ ((Kp.of (s1.trans s2)).trans kp) ((dI.mono s2).mutG e2 rfl gH h0 cW (by intro xs z;cases z) (by intro o u z;cases z) ⟨a,_,rfl,h0,upd_same,?_⟩)
  exact B4.mono kp _ _ (B4.put iv i0)
end
section
variable {τ:A8}{E:F3}{Q:R->Prop}{QB:Bool->Prop}{wa wb wc we:WE}{wr:WA}{n:Nat}{d e:D}{ds es:List D}{i j:Int}{x y:Str}
@[simp] theorem Y2i:Z4s n E τ=E.nx (τ.set n (some (.dt []))):=rfl
@[simp] theorem Y2h:Q4p n we τ Q=∃kvs,τ[n]?=some (some (.dt kvs))/\we τ fun r=>∃ds ks d,r=.st (.tup ds)/\O5 ds=some ks/\C7 kvs ks=some d/\Q (.st d):=rfl
@[simp] theorem W5u:Q9p n we τ QB=∃kvs,τ[n]?=some (some (.dt kvs))/\we τ fun r=>∃ds ks,r=.st (.tup ds)/\O5 ds=some ks/\QB (!(C7 kvs ks).isSome):=rfl
@[simp] theorem Z3o:Q2f n wa wb E τ=wb τ fun r=>∃d,r=.st d/\∃kvs,τ[n]?=some (some (.dt kvs))/\wa τ fun rk=>∃ds ks,rk=.st (.tup ds)/\O5 ds=some ks/\kvs.length<sizeLine/\E.nx (τ.set n (some (.dt (K9 kvs ks d)))):=rfl
end
theorem Z7x {we:WE}{f:D->D->D}{rest:A8}:∀(ps:List (D×D)) (o1 o2:Option Sl) (Q:List D->Prop),(∀p∈ps,∀Q':R->Prop,Q' (.st (f p.1 p.2))->we (some (.dat p.1)::some (.dat p.2)::rest) Q') ->
  Q (ps.map fun p=>f p.1 p.2)->G8 (O4 2 (E6 (B1 0) (E6 (B1 1) P6))) O9 we (ps.map fun p=>.tup [p.1,p.2]) (o1::o2::rest) Q
 | [],o1,o2,Q,h,q=>q
 | p::ps,o1,o2,Q,h,q=>by
  simp only [ao,G8]
  simp
  refine h p ar _ ⟨_,rfl,?_⟩
  exact Z7x ps _ _ _ (fun p hp=>h p (av _ hp)) q
theorem W9d {K:Fg9}{H0 H:Hp}{l:Addr}{xs:List V}{ds:List D} (hq:∀H',Kp H H'->A4 H0 H'->C9 K H' l xs) (al:AllS K H ds xs):Yl K H0 (Iel K l) (G9 ds) H where
 go:=fun H' k s i hi=>by
  rw [Q1t]at hi
  exact⟨xs,xs[i]'(by rw [<- al.length];exact hi),hq H' k s,ac _⟩
 yld:=fun H' k s i v dh d hd ⟨T,x,hx,hT,hv,hH⟩=>by
  subst hH hv
  refine⟨D5 hT _,?_⟩
  obtain⟨y,hy,rfl⟩:=Q7q hd
  obtain⟨v,hv,q⟩:=al.get hy
  rw [hx xs (hq H' k s)]at hv;cases hv
  exact A1.s_tup upd_same (AllS.cons A1.s_int (AllS.cons (q.mono (k.trans (Kp.of (D5 hT _))) _ _) AllS.nil))
 stop:=fun H' k s=>⟨xs,hq H' k s,by rw [Q1t];exact al.length.symm⟩
section
variable {X:Cx}{H0:Hp}{a:Expr}{p pos:Pos}{wr:WA}
def Z1w (wr:WA):WI:=fun τ Q=>wr τ fun rs=>∃ds,rs=[.st (.lst ds)]/\Q (G9 ds) τ
theorem DI.enumF {cL:List Expr}{kk:Nat}{pt:Pos} (hg:Gl X "enumerate") (hm:X.mg "enumerate"=none) (hv:bootBuiltins "enumerate"=some (.type "enumerate")) (ha:DA X H0 [a] wr) (he:starEach [a] X.env=(false,eval a X.env)::starEach [] X.env:=by rfl) (hpl:(backTo pos (starEach [] X.env)).any (·.1)=false:=by rfl) :
  DI X H0 (.Tuple cL kk pt) (.Call (.Name "enumerate" p) [a] [] pos) (Z1w wr) where
 mono:=fun τ P Q f h=>ha.mono τ _ _ (fun r ⟨ds,e1,q⟩=>⟨ds,e1,f _ _ q⟩) h
 pi:=by
  intro ae s σ H R I ⟨τ,hR,h⟩
  refine bh (Y4 I hg hm hv ?_ (by decide) (by decide))
  refine aY (B2 (ha.pa pos ae s σ H (fun vs H1=>A4 H H1/\∃l xs ds,vs=[.ref l]/\FzL X.K H1 l xs/\AllS X.K H1 ds xs/\∀J H',Kp H H'->B5 X.K H0 τ σ H'->Yl X.K H0 J (G9 ds) H'->R J H') I
   ⟨τ,hR,ha.mono τ _ _ (fun rs ⟨ds,e1,q⟩ vs H1 s1 cq=>⟨s1,by
    subst e1
    obtain⟨v,rfl,ir⟩:=V3 cq
    have ir:A1 X.K H1 (.lst ds) v:=ir
    unfold A1 at ir
    obtain⟨l,xs,rfl,sq,al⟩:=ir
    exact⟨l,xs,ds,rfl,sq,al,q⟩⟩) h⟩) fun us s1 ⟨vs,H1,I1,rv,sm,l,xs,ds,e1,sq,al,q⟩=>?_) he hpl
  subst e1
  have big:∀b∈[s1.heap.objs.size+1,s1.heap.objs.size],K2 X ae H1 b:=fun b hb=>by
   have hb:s1.heap.objs.size<=b:=by
    rcases aj.mp hb with rfl | hb
    ·exact cx _
    ·have e:b=s1.heap.objs.size:=by simpa using hb
     rw [e];exact ah _
   exact I1.fpOk hb (I1.hok.fresh hb)
  obtain⟨u,rfl,ru⟩:=T5 rv
  cases (show u=Value.ref l from ru)
  obtain⟨aS,hJ,pl,g8⟩:=I1.list sq.sq
  obtain⟨o,n,ho,_⟩:=id pl
  have hl:l<s1.heap.objs.size:=ak ho
  refine call_enumerate_list pl.isList fun h' he hi hz k=>?_
  refine ck he ⟨s1.heap.objs.size+1,[s1.heap.objs.size+1,s1.heap.objs.size],_,_,H1,rfl,I1.kept (t':=s1.toks) k,Y4n (l:=l) (gq _) (ay (bx hl)) (ay hl),⟨⟨_,he⟩,hi⟩,big,q _ _ (Kp.of sm) (hR.mono sm) (W9d (xs:=xs) (fun H' k _=>(k.fzL sq).sq) al)⟩
end
section
variable {τ:A8}{wr:WA}{QB:Bool->Prop}
@[simp] theorem W5y {Q:List D->A8->Prop}:Z1w wr τ Q=wr τ fun rs=>∃ds,rs=[.st (.lst ds)]/\Q (G9 ds) τ:=rfl
end
end TK
end
section
namespace L2
open PySem PySem.Spec PyProof.Rows
variable {X:Cx}{CX:CXT}{k i:Nat}{f:Addr}{fd:FuncData}{ps:List Str}{sp:Sp}{ds:List Value}{iM:List V}{E:XK}{x:Str}{e:Expr}{es:List Expr}{t:TA}{p pos:Pos}
end L2
namespace TK
open PySem PySem.Spec PyProof.Rows L2
section
variable {X:Cx}{H0:Hp}{e:Expr}{es:List Expr}{wr:WA}{k i:Nat}{f:Addr}{fd:FuncData}{ps:List Str}{sp:D6}{x:Str}{p pos:Pos}
end
end TK
end
section
namespace L2
open PySem PySem.Spec PyProof.Rows
theorem Y6k {pos:Pos}{a b:Int}{c cv:Value} (l:List Value) (t:TriplesOk l) (h:codeAmong pos (l++[rawInt a,rawInt b,c])=some cv):codeAmong pos l=some cv\/cv=c:=by
 fun_induction TriplesOk l with
 | case1 =>
  right
  have h:(if (a==(pos.line:Int)&&b==(pos.col:Int))=true then some c else codeAmong pos [])=some cv:=h
  split at h
  ·exact(aB h).symm
  ·cases h
 | case2 i ti j tj x rest ih =>
  have h:(if (i==(pos.line:Int)&&j==(pos.col:Int))=true then some x else codeAmong pos (rest++[rawInt a,rawInt b,c]))=some cv:=h
  show(if (i==(pos.line:Int)&&j==(pos.col:Int))=true then some x else codeAmong pos rest)=some cv\/_
  split at h
  ·rename_i hc;rw [aI hc];exact .inl h
  ·rename_i hc;rw [aD hc];exact ih t h
 | case3=>exact t.elim
noncomputable def U3:HO:=.ext fun _=>True
theorem Q7f {P:Program}{w:World}{H:Hp}{h:Heap}{a:Addr}{o:Obj} (e:h.get? a=some o):G1 P w H h a (.frz o U3):=⟨e,trivial,⟨o,e⟩,fun _ _ _ _=>trivial⟩
def X4 (mg:Str->Option Value) (base:Heap):Prop:=∃bm ob,mg "__builtins__"=some (.ref bm)/\bm≠builtinsNs/\base.get? bm=some ob/\ob.cls=.type "module"/\ob.dict=some builtinsNs/\ob.data=.plain
noncomputable abbrev V5 (X:Cx) (params:Arguments) (body:Expr) (sc:Scope) (clos:List (Str×Addr)) (c':Addr) (ctv:Value):Obj :=
 PySem.W.kla_obj "<lambda>" (X.env.qual++"<lambda>") params body sc clos ((X.mg "__name__").getD .none) c' ctv
def tLam (P:Addr) (ob:Addr->Value->Obj):TE:=fun _ H Q=>∀f c' oc ctv H',A4 H H'->Q4y oc->H f=none->H' c'=some (.frz oc (.own P))->H' f=some (.frz (ob c' ctv) U3)->(∀b,H' b≠none->H b=none->b=f\/b=c')->Q (.ref f) H'
section
variable {X:Cx}{params:Arguments}{body:Expr}{sc:Scope}{pos:Pos}{c P:Addr}{clos:List (Str×Addr)}
theorem Z3i (hB:X4 X.mg X.base) (dF:X.env.code=.ref c) (hC:PySem.W.codeHdIn X.K c P=true) (i8:closureFor sc X.env=pure clos) (hd:defaultsOf params X.env=([],[]):=by rfl) :
  PE X (.Lambda params body sc pos) (fun σ H Q=>H P=some .tab/\tLam P (fun c' ctv=>V5 X params body sc clos c' ctv) σ H Q):=by
 intro ae s σ H Q I ⟨hP,h⟩
 refine PySem.W.kla_eval hd ?_
 have jE:s.heap.Ns mainGlobals X.mg:=I.mod.glob.keeps I.bk
 have C:=PySem.W.codeHd_of_K I.kIn hC
 obtain⟨ps,eP,ht,en⟩:=(show G1 X.prog X.w H s.heap P .tab from I.hok P _ hP)
 obtain⟨bm,ob,b1,b2,b3,b4,b5,b6⟩:=hB
 have bH:∀b o,X.base.get? b=some o->b≠P:=fun b o e z=>by
  have:=(I.bs b o e).2
  rw [z,hP]at this;cases this
 have qD:mainGlobals≠P:=by
  obtain⟨o,es,ep,e,hd,_⟩:=I.mod.glob
  exact bH _ _ e
 have im:bm≠mainGlobals:=fun same=>by
  obtain⟨go,_,_,ge,gd,_⟩:=I.mod.glob
  rw [same,ge]at b3
  cases b3
  rw [gd]at b6
  cases b6
 have oh:s.heap.BuiltinsAt X.mg P:=⟨bm,ob,b1,b2,im,bH _ _ b3,I.bk _ _ b3,b4,b5,b6⟩
 cases hf:codeAmong pos ps.toList with
 | some cv =>
  obtain⟨c',oc,rfl,dB,eI⟩:=en pos cv hf
  refine PySem.W.kla_makeFunctionHit (mg:=X.mg) i8 I.ok.glob jE dF C eP ht hf oh fun ctv h' tk hk hsz=>?_
  have oa:H h'.objs.size=none:=I.hok.fresh hsz
  have ne:∀b u,H b=some u->b≠h'.objs.size:=fun b u e z=>by rw [z,oa]at e;cases e
  have kp:∀b o,s.heap.get? b=some o->(h'.push (V5 X params body sc clos c' ctv)).get? b=some o:=fun b o e=>aa _ (hk b o e)
  have lt:∀b o,s.heap.get? b=some o->b≠h'.objs.size:=fun b o e=>ay (ax (ak e) hsz)
  refine⟨.ref h'.objs.size,upd H h'.objs.size (.frz (V5 X params body sc clos c' ctv) U3),I.un (t':=tk) ⟨fun b o e _ _ _=>kp b o e,fun b o e _ _ _=>⟨o.slots,kp b o e⟩,fun b o e n _=>by rw [B0 (lt b o e)];exact n,fun b o e _=>⟨o,kp b o e⟩,
   fun b xs e=>by rw [B0 (ne b _ e)];exact e,fun b o u e=>by rw [B0 (ne b _ e)];exact e,fun b ps e=>⟨#[],by rw [B0 (ne b _ e),e];simp⟩⟩ ?_,rfl,?_⟩
  ·refine F5.laid (h:=s.heap) I.hok kp hsz (Q7f (aw _ rfl))
  ·exact h _ c' oc ctv _ (fun b u e=>by rw [B0 (ne b _ e)];exact e) eI oa (by rw [B0 (ne _ _ dB)];exact dB) upd_same fun b n1 n2=>by
    by_cases hb:b=h'.objs.size
    ·exact .inl hb
    ·rw [B0 hb]at n1;exact absurd n2 n1
 | none =>
  refine PySem.W.kla_makeFunction (mg:=X.mg) i8 I.ok.glob jE dF C eP ht hf qD oh fun c' ctv h' tk hx eA bR mf nR=>?_
  obtain⟨c₂,oc,vs,tq,e2,eI,og,hv⟩:=mf
  cases e2
  have iI:H c'=none:=I.hok.fresh eA
  have j1:H h'.objs.size=none:=I.hok.fresh (aR eA (dq bR))
  have qK:c'≠h'.objs.size:=ay bR
  have sd:P≠c':=fun z=>by rw [<- z,hP]at iI;cases iI
  have s9:P≠h'.objs.size:=fun z=>by rw [<- z,hP]at j1;cases j1
  have pX:∀b o,s.heap.get? b=some o->b≠c':=fun b o e=>ay (ax (ak e) eA)
  have pW:∀b o,s.heap.get? b=some o->b≠h'.objs.size:=fun b o e=>ay (ax (ak e) (aR eA (dq bR)))
  have pR:∀b u,H b=some u->b≠c':=fun b u e z=>by rw [z,iI]at e;cases e
  have pQ:∀b u,H b=some u->b≠h'.objs.size:=fun b u e z=>by rw [z,j1]at e;cases e
  have hH:∀b,b≠c'->b≠h'.objs.size->upd (upd H c' (.frz oc (.own P))) h'.objs.size (.frz (V5 X params body sc clos c' ctv) U3) b=H b:=fun b n1 n2=>by rw [B0 n2,B0 n1]
  have mU:upd (upd H c' (.frz oc (.own P))) h'.objs.size (.frz (V5 X params body sc clos c' ctv) U3) c'=some (.frz oc (.own P)):=by rw [B0 qK,upd_same]
  have kp:∀b o,b≠P->s.heap.get? b=some o->(h'.push (V5 X params body sc clos c' ctv)).get? b=some o:=fun b o n e=>aa _ (hx b o n e)
  have nP:∀b,H b=none->b≠P:=fun b n z=>by rw [z,hP]at n;cases n
  have sm:A4 H (upd (upd H c' (.frz oc (.own P))) h'.objs.size (.frz (V5 X params body sc clos c' ctv) U3)):=fun b u e=>by rw [hH b (pR b u e) (pQ b u e)];exact e
  refine⟨.ref h'.objs.size,upd (upd H c' (.frz oc (.own P))) h'.objs.size (.frz (V5 X params body sc clos c' ctv) U3),I.un (t':=tk) ⟨fun b o e n _ _=>kp b o (nP b n) e,fun b o e n _ _=>⟨o.slots,kp b o (nP b n) e⟩,fun b o e n _=>by rw [hH b (pX b o e) (pW b o e)];exact n,fun b o e _=>?_,
   fun b xs e=>sm _ _ e,fun b o u e=>sm _ _ e,fun b ps e=>⟨#[],by rw [sm _ _ e];simp⟩⟩ ?_,rfl,?_⟩
  ·by_cases hb:b=P
   ·exact⟨_,aa _ (hb ▸ nR)⟩
   ·exact⟨o,kp b o hb e⟩
  ·intro b u e
   by_cases oi:b=h'.objs.size
   ·subst oi;rw [upd_same]at e;cases e
    exact Q7f (aw _ rfl)
   by_cases hbc:b=c'
   ·subst hbc;rw [mU]at e;cases e
    exact⟨aa _ eI,⟨_,aa _ eI⟩⟩
   rw [hH b hbc oi]at e
   by_cases hbP:b=P
   ·subst hbP;rw [hP]at e;cases e
    refine⟨_,aa _ nR,?_,fun bF cv q=>?_⟩
    ·have:=TriplesOk_snoc (pos.line:Int) (pos.col:Int) (.ref c') ps.toList ht
     simpa using this
    ·have q:codeAmong bF (ps.toList++[rawInt (pos.line:Int),rawInt (pos.col:Int),.ref c'])=some cv:=by simpa using q
     rcases Y6k _ ht q with q | q
     ·obtain⟨c2,o2,e1,e2,e3⟩:=en bF cv q
      exact⟨c2,o2,e1,sm _ _ e2,e3⟩
     ·exact⟨c',oc,q,mU,⟨vs,_,tq,og,hv⟩⟩
   ·refine(I.hok b u e).stay (fun d v hc q=>kp d v ?_ q) (fun d v _ q=>sm _ _ q) fun d xs q=>sm _ _ q
    rcases hc with z | z
    ·rw [z];exact hbP
    ·intro z2
     rw [z2,hP]at z;cases z
  ·exact h _ c' oc ctv _ sm ⟨vs,_,tq,og,hv⟩ j1 mU upd_same fun b n1 n2=>by
    by_cases hb:b=h'.objs.size
    ·exact .inl hb
    by_cases hb2:b=c'
    ·exact .inr hb2
    ·rw [hH b hb2 hb]at n1;exact absurd n2 n1
end
end L2
end
section
namespace L2
open PySem PySem.Spec PyProof.Rows
structure M0 where
 name:Str
 addr:Addr
 obj:Obj
 val:V
 slot:TK.Sl
noncomputable def K3 (S:List Addr) (H:Hp):Hp:=fun b=>if b∈S then none else H b
theorem Q5p {S:List Addr}{H:Hp}{b:Addr} (h:b∈S):K3 S H b=none:=aI h
theorem Y3 {S:List Addr}{H:Hp}{b:Addr} (h:b∉S):K3 S H b=H b:=aD h
theorem Y8d {S:List Addr}{H:Hp}{b:Addr}{u:HO} (h:K3 S H b=some u):b∉S/\H b=some u:=by
 by_cases hb:b∈S
 ·rw [Q5p hb]at h;cases h
 ·exact⟨hb,by rw [Y3 hb]at h;exact h⟩
noncomputable def showS (S:List Addr) (H H':Hp):Hp:=fun b=>if b∈S then H b else H' b
theorem Y4a {S:List Addr}{H H':Hp}{b:Addr} (h:b∈S):showS S H H' b=H b:=aI h
theorem Q8s {S:List Addr}{H H':Hp}{b:Addr} (h:b∉S):showS S H H' b=H' b:=aD h
def S5 (S:List Addr) (H:Hp):Prop:=∀c∈S,∃o u,H c=some (.frz o U3)/\o.data=.cell u
section
variable {P:Program}{w:World}{S:List Addr}{H H':Hp}{h h':Heap}
theorem S5.out (hS:S5 S H) {b:Addr}{u:HO} (e:H b=some u) (n:∀o,u≠.frz o U3):b∉S:=fun hb=>by
 obtain⟨o,_,q,_⟩:=hS b hb
 rw [e]at q;exact n o (aB q)
theorem S5.tup (hS:S5 S H) {b:Addr}{xs:List V} (e:H b=some (.tup xs)):K3 S H b=some (.tup xs):=by
 rw [Y3 (hS.out e (by intro o z;cases z))];exact e
theorem S5.own (hS:S5 S H) {a b:Addr}{u:HO} (ow:Q7c a u) (e:H b=some u):K3 S H b=some u:=by
 rw [Y3 (hS.out e (by
  intro o z
  rcases ow with rfl | ⟨o',rfl⟩
  ·cases z
  ·injection z with _ z;cases z))]
 exact e
theorem F5.hid (x:F5 P w H h) (hS:S5 S H) (k:∀b u,h.get? b=some u->h'.get? b=some u):F5 P w (K3 S H) h':=fun b u e=>by
 obtain⟨hb,e⟩:=Y8d e
 exact(x b u e).stay (fun c v _ q=>k c v q) (fun c v ow q=>hS.own ow q) fun c xs q=>hS.tup q
end
end L2
namespace TK
open PySem PySem.Spec PyProof.Rows L2
def Q1m (Φ:Hp->Prop):Prop:=∀(S:List Addr) (H:Hp),S5 S H->Φ H->Φ (K3 S H)
mutual
theorem A1.hid {K:Fg9}{S:List Addr}{H:Hp} (hS:S5 S H):∀(d:D) (v:V),A1 K H d v->A1 K (K3 S H) d v
 | .non,v,h=>by unfold A1 at h ⊢;exact h
 | .bl _,v,h=>by unfold A1 at h ⊢;exact h
 | .int _,v,h=>by unfold A1 at h ⊢;exact h
 | .str _,v,h=>by unfold A1 at h ⊢;exact h
 | .tup ds,v,h=>by
  unfold A1 at h ⊢
  obtain⟨a,xs,e,q,t⟩:=h
  exact⟨a,xs,e,hS.tup q,AllS.hid hS ds xs t⟩
 | .lst ds,v,h=>by
  unfold A1 at h ⊢
  obtain⟨a,xs,e,q,t⟩:=h
  refine⟨a,xs,e,?_,AllS.hid hS ds xs t⟩
  rcases q with⟨o,q⟩ | q
  ·exact .inl ⟨o,by rw [Y3 (hS.out q (by intro o z;injection z with _ z;cases z))];exact q⟩
  ·exact .inr q
theorem AllS.hid {K:Fg9}{S:List Addr}{H:Hp} (hS:S5 S H):∀(ds:List D) (xs:List V),AllS K H ds xs->AllS K (K3 S H) ds xs
 | [],xs,h=>by unfold AllS at h ⊢;exact h
 | d::ds,xs,h=>by
  unfold AllS at h ⊢
  obtain⟨v,r,e,q,t⟩:=h
  exact⟨v,r,e,A1.hid hS d v q,AllS.hid hS ds r t⟩
end
noncomputable def Q2i (K:Fg9) (H:Hp):Sl->V->Prop
 | .dat d,v=>A1 K H d v
 | .cl a Φ,v=>v=.ref a/\Φ H/\Q2j Φ/\Q1m Φ
 | _,_=>False
theorem Q2i.mono {K:Fg9}{H H':Hp} (k:Kp H H'):∀{s:Sl}{v:V},Q2i K H s v->Q2i K H' s v
 | .dat d,v,h=>A1.mono k d v h
 | .cl a Φ,v,h=>⟨h.1,h.2.2.1 _ _ k h.2.1,h.2.2⟩
 | .own _,_,h=>h.elim
 | .bor _,_,h=>h.elim
 | .bd _,_,h=>h.elim
 | .dk _,_,h=>h.elim
 | .dt _,_,h=>h.elim
 | .ob _,_,h=>h.elim
 | .ins _ _ _,_,h=>h.elim
 | .ll _ _,_,h=>h.elim
theorem Q2i.slot {K:Fg9}{S:List Addr}{H:Hp} (hS:S5 S H):∀{s:Sl}{v:V},Q2i K H s v->N5 K (K3 S H) (K3 S H) s v/\s.mut=false
 | .dat d,v,h=>⟨A1.hid hS d v h,rfl⟩
 | .cl a Φ,v,h=>⟨⟨h.1,h.2.2.2 _ _ hS h.2.1,h.2.2.1⟩,rfl⟩
 | .own _,_,h=>h.elim
 | .bor _,_,h=>h.elim
 | .bd _,_,h=>h.elim
 | .dk _,_,h=>h.elim
 | .dt _,_,h=>h.elim
 | .ob _,_,h=>h.elim
 | .ins _ _ _,_,h=>h.elim
 | .ll _ _,_,h=>h.elim
structure Z6b (K:Fg9) (H:Hp) (p:M0):Prop where
 at_:H p.addr=some (.frz p.obj U3)
 cell:∃u,p.obj.data=.cell (some u)/\B7 p.val u
 rel:Q2i K H p.slot p.val
def W3 (K:Fg9) (caps:List M0) (f c':Addr) (fo:Obj) (H:Hp):Prop :=
 H f=some (.frz fo U3)/\(∃oc Pt,H c'=some (.frz oc (.own Pt))/\Q4y oc)/\∀p∈caps,Z6b K H p
theorem W3.mono {K:Fg9}{caps:List M0}{f c':Addr}{fo:Obj}:Q2j (W3 K caps f c' fo):=fun H H' k ⟨h1,⟨oc,Pt,h2,h3⟩,h4⟩ =>
 ⟨k.frz _ _ _ h1,⟨oc,Pt,k.frz _ _ _ h2,h3⟩,fun p hp=>⟨k.frz _ _ _ (h4 p hp).at_,(h4 p hp).cell,(h4 p hp).rel.mono k⟩⟩
theorem W3.hid0 {K:Fg9}{f c':Addr}{fo:Obj} (hf:∀u,fo.data≠.cell u):Q1m (W3 K [] f c' fo):=fun S H hS ⟨h1,⟨oc,Pt,h2,h3⟩,_⟩=>by
 refine⟨?_,⟨oc,Pt,?_,h3⟩,fun p hp=>absurd hp (by simp)⟩
 ·rw [Y3]
  ·exact h1
  ·intro hb
   obtain⟨o,u,q,d⟩:=hS _ hb
   rw [h1]at q
   injection q with q
   injection q with q
   exact hf u (q ▸ d)
 ·rw [Y3 (hS.out h2 (by intro o z;injection z with _ z;cases z))];exact h2
noncomputable def Q5x (K:Fg9) (n:Nat) (Φ:Hp->Prop) (sp:D6):Sp:=fun vs H Q _=>∃(rs:List R) (r:R),rs.length=n/\M6 K (fun _=>none) H rs vs/\rs.all N6=true/\Φ H/\sp (rs.map nrm) r/\∀v H',A4 H H'->D9 K H H' r v->Q v H'
end TK
namespace L2
open PySem PySem.Spec PyProof.Rows TK
noncomputable abbrev Q6 (caps:List M0):List (Str×Addr):=caps.map fun p=>(p.name,p.addr)
structure Q3n (ps fr:List Str) (sc:Scope):Prop where
 kind:sc.kind=.function
 co:sc.isCoroutine=false
 gen:sc.isGenerator=false
 nd:(ps++fr).Nodup
 par:∀x∈ps,sc.names.lookup x=some .local
 fre:∀x∈fr,sc.names.lookup x=some .free
 nocell:∀y∈sc.names,y.2≠.cell
 all:∀y∈sc.names,y.2=.free->y.1∈fr
noncomputable def cxL (P:Program) (w:World) (K:Fg9) (mg:Str->Option Value) (base:Heap) (N:List Str) (q:Str) (sc:Scope) (f c':Addr) (caps:List M0) (A:Around) (outer:List Env) (s:Shared) (H:Hp):Cx where
 prog:=P
 w:=w
 K:=K
 mg:=mg
 base:=base
 A:=A.deeper (PySem.W.envX q sc s.heap.objs.size f (.ref c') (Q6 caps))
 N:=N
 s₀:=s
 H₀:=H
 env:=PySem.W.envX q sc s.heap.objs.size f (.ref c') (Q6 caps)
 outer:=outer
 stack:=PySem.W.envX q sc s.heap.objs.size f (.ref c') (Q6 caps)::outer
 ex:=[]
 calm:=true
 fn:=fun _=>false
 pn:=[]
 xe:=fun _ _=>False
theorem Q7y {caps:List M0}{x:Str}{c:Addr} (h:(Q6 caps).lookup x=some c):∃p∈caps,p.name=x/\p.addr=c:=by
 have:=bM h
 obtain⟨p,hp,e⟩:=aq.mp this
 cases e
 exact⟨p,hp,rfl,rfl⟩
theorem Z1c:∀{caps:List M0}{p:M0},(caps.map (·.name)).Nodup->p∈caps->(Q6 caps).lookup p.name=some p.addr
 | [],_,_,mem=>absurd mem (by simp)
 | q::r,p,nd,mem=>by
  rw [ao,bA]at nd
  show List.lookup p.name ((q.name,q.addr)::Q6 r)=_
  rcases aj.mp mem with rfl | mem
  ·simp [List.lookup]
  ·have cA:p.name≠q.name:=fun z=>nd.1 (z ▸ List.mem_map_of_mem mem)
   rw [List.lookup_cons]
   have:(p.name==q.name)=false:=by simpa using cA
   rw [this]
   exact Z1c nd.2 mem
theorem Z0r:∀{caps:List M0}{p q:M0},(caps.map (·.addr)).Nodup->p∈caps->q∈caps->p.addr=q.addr->p=q
 | [],_,_,_,h,_,_=>absurd h (by simp)
 | r::l,p,q,nd,h1,h2,e=>by
  rw [ao,bA]at nd
  rcases aj.mp h1 with a1 | a1
  ·rcases aj.mp h2 with a2 | a2
   ·rw [a1,a2]
   ·exact absurd (aq.mpr ⟨q,a2,by rw [<- e,a1]⟩) nd.1
  ·rcases aj.mp h2 with a2 | a2
   ·exact absurd (aq.mpr ⟨p,a1,by rw [e,a2]⟩) nd.1
   ·exact Z0r nd.2 a1 a2 e
end L2
end
section
namespace L2
open PySem PySem.Spec PyProof.Rows TK
section
variable {Pg:Program}{Wd:World}{Ar:Around}{Rs:Result->Shared->Prop}{s:Shared}
theorem Y6s {a:Addr}{args:Args}{o:Obj}{fd:FuncData}{body:Expr}{q:Str} (deep:Ar.depth<recursionLimit) (at_:s.heap.get? a=some o) (is:o.data=.func fd) (c0:fd.scope.isCoroutine=false) (g0:fd.scope.isGenerator=false) (bd:fd.body=.expr body) (cd:s.heap.CodeRec fd.code q)
  (go:wpAny (model Pg Wd) Ar.in1 (bindArgs fd args)
   (fun bs s1=>wpAny (model Pg Wd) Ar.in1 (newFunctionEnv fd.scope fd.globals fd.closure bs (q++".<locals>.") (some a) fd.code none fd.builtins) (fun ev s2=>s2.heap.NoLimit/\codeAny (model Pg Wd) Ar (.expr body ev) Rs s2) (fun x s1=>Rs (.error x) s1) s1)
   (fun x s1=>Rs (.error x) s1) s):codeAny (model Pg Wd) Ar (.call (.ref a) args) Rs s:=by
 obtain⟨c,oc,fs,tk,hc,eI,qF,hn⟩:=cd
 have run:wpAny (model Pg Wd) Ar.in1 (callAny (.ref a) args) (fun fin s1=>match fin with | .done fl=>Rs (.ok fl) s1 | .again c'=>c'.quiet=true/\codeAny (model Pg Wd) Ar c' Rs s1) (fun x s1=>Rs (.error x) s1) s:=by
  unfold callAny
  refine a9 (wpAny_load at_ ?_)
  rw [is]
  dsimp only
  rw [hc]at go
  unfold callFunction
  simp only [c0,g0,bd,hc]
  refine a9 (m:=field (.ref c) 1) (aW eI qF hn (a9 (af (a9 (B2 go fun bs s1 h1=>?_)))))
  exact a9 (B2 h1 fun ev s2 ⟨jo,h2⟩=>a9 (wpAny_enterFrame jo deep (af ⟨rfl,h2⟩)))
 exact codeAny_of_tree run
end
theorem W9r {x:Str}{u:Value}:∀{ps:List Str}{us:List Value}{i:Nat},ps.Nodup->ps[i]?=some x->us[i]?=some u->(ps.zip us).reverse.lookup x=some u:=by
 intro ps us i nd h1 h2
 have hm:(x,u)∈(ps.zip us).reverse:=by
  rw [List.mem_reverse]
  refine aC (i:=i) ?_
  rw [bO]
  exact⟨h1,h2⟩
 have un:∀v,(x,v)∈(ps.zip us).reverse->v=u:=fun v hv=>by
  rw [List.mem_reverse]at hv
  obtain⟨j,hj⟩:=List.getElem?_of_mem hv
  rw [bO]at hj
  have hi:i<ps.length:=(aG.mp h1).1
  have mF:i=j:=(List.getElem?_inj hi nd).mp (h1.trans hj.1.symm)
  subst mF
  rw [h2]at hj;exact(aB hj.2).symm
 cases hl:(ps.zip us).reverse.lookup x with
 | none =>
  have:=List.lookup_eq_none_iff.mp hl _ hm
  simp at this
 | some v=>rw [un v (bM hl)]
section
variable {P:Program}{w:World}{K:Fg9}{mg:Str->Option Value}{base:Heap}{ps:List Str}{q:Str}{sc:Scope}{f c':Addr}{caps:List M0}{A:Around}{outer:List Env}{s s1:Shared}{H:Hp}{us:List Value}{vs:List V}
theorem Y8q (S:Q3n ps (caps.map (·.name)) sc) (gK:(caps.map (·.addr)).Nodup) (hd:A.handled=none) (e0:Q3m P w K mg base A outer s H) (hl:vs.length=ps.length) (r:B9 vs us) (hc:∀p∈caps,Z6b K H p)
  {h1:Heap}{tk:Nat} (iY:h1.Ns s.heap.objs.size fun x=>(ps.zip us).reverse.lookup x) (hk:∀b o,s.heap.get? b=some o->h1.get? b=some o) :
  A0 (cxL P w K mg base (ps++caps.map (·.name)) q sc f c' caps A outer s (K3 (caps.map (·.addr)) H)) [] ((vs++caps.map (·.val)).map some) (K3 (caps.map (·.addr)) H) { s with heap:=h1,toks:=tk }:=by
 have hS:S5 (caps.map (·.addr)) H:=fun c dB=>by
  obtain⟨p,hp,rfl⟩:=aq.mp dB
  obtain⟨u,hu,_⟩:=(hc p hp).cell
  exact⟨_,_,(hc p hp).at_,hu⟩
 have jD:∀b,H b=none->K3 (caps.map (·.addr)) H b=none:=fun b n=>by
  unfold K3;split
  ·rfl
  ·exact n
 have jN:(caps.map (·.name)).Nodup:=(bG.mp S.nd).2.1
 have kT:∀p∈caps,∃u,h1.IsCell p.addr (some u)/\B7 p.val u:=fun p hp=>by
  obtain⟨u,hu,ru⟩:=(hc p hp).cell
  exact⟨u,⟨p.obj,hk _ _ (e0.hok _ _ (hc p hp).at_).1,hu⟩,ru⟩
 have hV:∀b:Addr,b∉(cxL P w K mg base (ps++caps.map (·.name)) q sc f c' caps A outer s (K3 (caps.map (·.addr)) H)).ex:=fun b z=>absurd (show b∈([]:List Addr)from z) (by simp)
 refine⟨⟨e0.mod,S.kind,rfl,rfl,ah _,fun y z c h1 h2=>?_,fun y hy=>?_,fun y c hf _=>absurd (show false=true from hf) (by decide),fun _=>hd,Around.frames_deeper e0.frames,.inr ⟨rfl,rfl⟩,fun b z=>absurd z (hV b),fun b o e=>⟨(e0.bs b o e).1,jD _ (e0.bs b o e).2⟩,e0.bsz,fun b _ _=>hV b,fun b z=>absurd z (hV b),e0.funs,fun b hb=>jD _ (e0.frf b hb)⟩,
  rfl,e0.bare,Un.kept hk,⟨_,iY,fun i y v h1 h2 h3=>?_⟩,fun y c h=>?_,jD _ (e0.hok.fresh (ah _)),fun y c h=>?_,fun p hp=>absurd (show p∈([]:Pn9)from hp) (by simp),e0.hok.hid hS hk,?_⟩
 ·obtain⟨p,hp,rfl,e1⟩:=Q7y h1
  obtain⟨p',ql,rfl,e2⟩:=Q7y h2
  rw [Z0r gK hp ql (e1.trans e2.symm)]
 ·have hy:sc.names.lookup y=some .cell\/sc.names.lookup y=some .free:=hy
  rcases hy with hy | hy
  ·exact absurd rfl (S.nocell _ (bM hy))
  ·have:=S.all _ (bM hy) rfl
   obtain⟨p,hp,e⟩:=aq.mp this
   have e:p.name=y:=e
   exact⟨p.addr,by rw [<- e];exact Z1c jN hp⟩
 ·by_cases hi:i<ps.length
  ·have hp:ps[i]?=some y:=by rw [show(cxL P w K mg base (ps++caps.map (·.name)) q sc f c' caps A outer s (K3 (caps.map (·.addr)) H)).N=ps++caps.map (·.name)from rfl,aJ hi]at h1;exact h1
   have hv:vs[i]?=some v:=by
    rw [ai,aJ (by omega)]at h2
    cases e:vs[i]? with
    | none=>rw [e]at h2;cases h2
    | some a=>rw [e]at h2;cases h2;rfl
   obtain⟨u,hu,rv⟩:=r.get hv
   exact⟨u,rv,.inl ⟨S.par y (aC hp),W9r (bG.mp S.nd).1 hp hu⟩⟩
  ·have hp:(caps.map (·.name))[i-ps.length]?=some y:=by rw [show(cxL P w K mg base (ps++caps.map (·.name)) q sc f c' caps A outer s (K3 (caps.map (·.addr)) H)).N=ps++caps.map (·.name)from rfl,aT (by omega)]at h1;exact h1
   have hv:(caps.map (·.val))[i-ps.length]?=some v:=by
    rw [ai,aT (by omega),hl]at h2
    cases e:(caps.map (·.val))[i-ps.length]? with
    | none=>rw [e]at h2;cases h2
    | some a=>rw [e]at h2;cases h2;rfl
   rw [ai]at hp hv
   cases e:caps[i-ps.length]? with
   | none=>rw [e]at hp;cases hp
   | some p =>
    rw [e]at hp hv
    cases hp;cases hv
    have mn:=aC e
    obtain⟨u,dg,ru⟩:=kT p mn
    exact⟨u,ru,.inr ⟨.inr (S.fre _ (List.mem_map_of_mem mn)),p.addr,Z1c jN mn,dg⟩⟩
 ·obtain⟨p,hp,rfl,rfl⟩:=Q7y h
  obtain⟨u,dg,_⟩:=kT p hp
  exact⟨_,dg⟩
 ·obtain⟨p,hp,rfl,rfl⟩:=Q7y h
  exact Q5p (List.mem_map_of_mem hp)
 ·rw [ag,aA,ag,hl]
  show _=(ps++caps.map (·.name)).length
  rw [aA,ag]
end
theorem A4.showS {S:List Addr}{H H':Hp} (hS:S5 S H) (sm:A4 (K3 S H) H'):A4 H (L2.showS S H H'):=fun b u e=>by
 by_cases hb:b∈S
 ·rw [Y4a hb];exact e
 ·rw [Q8s hb];exact sm b u (by rw [Y3 hb];exact e)
theorem Z1p {P:Program}{w:World}{K:Fg9}{mg:Str->Option Value}{base:Heap}{k:Nat}{f c':Addr}{name qual:Str}{params:Arguments}{body:Expr}{sc:Scope}{pm ctv:Value}{ps:List Str}{caps:List M0}{sp:D6}{wb:WE}
  (S:Q3n ps (caps.map (·.name)) sc) (gK:(caps.map (·.addr)).Nodup)
  (bY:∀(A:Around) (outer:List Env) (s:Shared) (H:Hp) (q:Str),C5 k (A.deeper (PySem.W.envX q sc s.heap.objs.size f (.ref c') (Q6 caps)))->DE (cxL P w K mg base (ps++caps.map (·.name)) q sc f c' caps A outer s H) H body wb)
  (hw:∀rs r,rs.length=ps.length->sp rs r->∃(ds:List D) (d:D),rs=ds.map R.st/\r=.st d/\wb (ds.map (fun d=>some (Sl.dat d))++caps.map fun p=>some p.slot) fun r'=>r'=.st d) :
  R1 P w K mg base L3 (k+1) f (PySem.W.kla_fn name qual params body sc (Q6 caps) pm (.ref c') ctv) ps (Q5x K ps.length (W3 K caps f c' (PySem.W.kla_obj name qual params body sc (Q6 caps) pm c' ctv)) sp):=by
 refine⟨fun vs H Q E h=>?_,fun A outer s H args us vs Q E hr e0 hb r g9=>?_⟩
 ·obtain⟨rs,r,hl,al,_⟩:=h
  rw [<- al.length];exact hl
 obtain⟨rs,r0,hl,al,ok,⟨hf,⟨oc,Pt,hc,qc⟩,fO⟩,h1,h2⟩:=g9
 have qt:vs.length=ps.length:=by rw [<- al.length];exact hl
 have jo:s.heap.NoLimit:=e0.mod.nolimit.keeps fun b o e=>(e0.bs b o e).1
 have gf:s.heap.get? f=some _:=(e0.hok _ _ hf).1
 have gc:s.heap.get? c'=some oc:=(e0.hok _ _ hc).1
 obtain⟨rE,q,tq,ef,hq⟩:=qc
 obtain⟨ds,d,fV,rfl,qe⟩:=hw (rs.map nrm) r0 (by rw [ag];exact hl) h1
 have hS:S5 (caps.map (·.addr)) H:=fun c dB=>by
  obtain⟨p,hp,rfl⟩:=aq.mp dB
  obtain⟨u,hu,_⟩:=(fO p hp).cell
  exact⟨_,_,(fO p hp).at_,hu⟩
 refine Y6s (fd:=PySem.W.kla_fn name qual params body sc (Q6 caps) pm (.ref c') ctv) hr.depth gf rfl S.co S.gen rfl ⟨c',oc,rE,tq,rfl,gc,ef,hq⟩ (hb _ _ _ _ ?_)
 refine gn S.nocell (fun y hy=>S.par _ (dY hy).1) (fun h1 iY nS=>⟨(jo).fresh _ nS,?_⟩) S.kind
 have hk:∀b o,s.heap.get? b=some o->h1.get? b=some o:=fun b o e=>(nS.2 b (ay (ak e))).trans (aa _ e)
 show codeAny _ _ (.expr body (PySem.W.envX q sc s.heap.objs.size f (.ref c') (Q6 caps))) _ _
 have I:=Y8q (q:=q) (f:=f) (c':=c') (tk:=s.toks+(ps.zip us).length) S gK hr.hd e0 qt r fO iY hk
 have hD:=bY A outer s (K3 (caps.map (·.addr)) H) q (hr.deeper _)
 have rep:B5 K (K3 (caps.map (·.addr)) H) (ds.map (fun d=>some (Sl.dat d))++caps.map fun p=>some p.slot) ((vs++caps.map (·.val)).map some) (K3 (caps.map (·.addr)) H):=by
  have bL:ds.length=vs.length:=by
   have:=congrArg List.length fV
   rw [ag,ag]at this
   rw [<- this,al.length]
  have args:∀(i:Nat) (d:D),ds[i]?=some d->∃v,vs[i]?=some v/\A1 K H d v:=fun i d e=>by
   have:(rs.map nrm)[i]?=some (.st d):=by rw [fV,ai,e];rfl
   rw [ai]at this
   cases e2:rs[i]? with
   | none=>rw [e2]at this;cases this
   | some x =>
    rw [e2]at this
    have hx:nrm x=.st d:=aB this
    obtain⟨v,hv,q⟩:=al.get e2
    refine⟨v,hv,?_⟩
    cases x with
    | st y=>cases hx;exact q
    | nw _=>cases hx
    | bw _=>cases hx
    | dk _=>cases hx
    | dt _=>cases hx
    | ob _=>cases hx
    | cl _ _=>cases hx
    | ms _ _ _ _=>cases hx
  have Q2n:∀(i:Nat) (sl:Sl),(ds.map (fun d=>some (Sl.dat d))++caps.map fun p=>some p.slot)[i]?=some (some sl)->∃v,((vs++caps.map (·.val)).map some)[i]?=some (some v)/\TK.N5 K (K3 (caps.map (·.addr)) H) (K3 (caps.map (·.addr)) H) sl v/\sl.mut=false:=fun i sl e=>by
   by_cases hi:i<ds.length
   ·rw [aJ (by rw [ag];exact hi),ai]at e
    cases e1:ds[i]? with
    | none=>rw [e1]at e;cases e
    | some y =>
     rw [e1]at e
     cases e
     obtain⟨v,hv,q⟩:=args i y e1
     refine⟨v,?_,A1.hid hS _ _ q,rfl⟩
     rw [ai,aJ (by omega),hv];rfl
   ·rw [aT (by rw [ag];omega),ag,ai]at e
    cases e1:caps[i-ds.length]? with
    | none=>rw [e1]at e;cases e
    | some p =>
     rw [e1]at e
     cases e
     obtain⟨q1,q2⟩:=(fO p (aC e1)).rel.slot hS
     refine⟨p.val,?_,q1,q2⟩
     rw [ai,aT (by omega),ai,<- bL,e1];rfl
  refine⟨by simp [bL],A4.refl _,fun i sl e=>let ⟨v,a,b,_⟩:=Q2n i sl e;⟨v,a,b⟩,fun i j s t v _ e1 _ m _ _ _=>?_⟩
  obtain⟨_,_,_,z⟩:=Q2n i s e1
  rw [z]at m;cases m
 refine PySem.W.kla_codeExpr (aL (hD.pe [] _ _ _ (fun v H'=>A4 (K3 (caps.map (·.addr)) H) H'/\A1 K H' d v) I ⟨_,rep,hD.mono _ _ _ (fun r' mh v H' sm ir=>by subst mh;exact⟨sm,ir⟩) qe⟩) (fun u s' hs=>?_) fun e s' hs=>(show False from hs).elim)
 obtain⟨v,H',J,rv,sm,q⟩:=hs
 have out:∀b u,H' b=some u->b∉caps.map (·.addr):=fun b u e fq=>by
  obtain⟨o,u',kI,_⟩:=hS b fq
  have:=J.base.free b o (e0.hok _ _ kI).1 (Q5p fq) (by show b∉([]:List Addr);simp)
  rw [this]at e;cases e
 have cX:A4 H' (L2.showS (caps.map (·.addr)) H H'):=fun b u e=>by rw [Q8s (out b u e)];exact e
 have kZ:=A4.showS hS sm
 show CE outer P w H s Q u s'
 refine⟨v,L2.showS (caps.map (·.addr)) H H',J.os,J.bare,?_,?_,rv,h2 v (L2.showS (caps.map (·.addr)) H H') kZ (show D9 K H (L2.showS (caps.map (·.addr)) H H') (.st d) v from A1.mono (Kp.of cX) d v q)⟩
 ·have hn:∀b,H b=none->b∉caps.map (·.addr):=fun b n hb=>by obtain⟨o,u,q,_⟩:=hS b hb;rw [n]at q;cases q
  have hid0:∀b,H b=none->K3 (caps.map (·.addr)) H b=none:=fun b n=>by rw [Y3 (hn b n)];exact n
  refine⟨fun b o e n hb hx=>J.base.keep b o e (hid0 b n) hb hx,fun b o e n hb hx=>J.base.slot b o e (hid0 b n) hb hx,fun b o e n hx=>?_,fun b o e hx=>J.base.there b o e hx,fun b xs e=>kZ _ _ e,fun b o u e=>kZ _ _ e,fun b ps e=>⟨#[],by rw [kZ _ _ e];simp⟩⟩
  rw [Q8s (hn b n)]
  exact J.base.free b o e (hid0 b n) hx
 ·intro b u e
  by_cases fq:b∈caps.map (·.addr)
  ·rw [Y4a fq]at e
   obtain⟨o,u',kI,_⟩:=hS b fq
   rw [kI]at e;cases e
   have g:=(e0.hok _ _ kI).1
   have:b∉frs outer:=fun z=>by have:=e0.frf b z;rw [kI]at this;cases this
   exact Q7f (J.base.keep b o g (Q5p fq) this (by show b∉([]:List Addr);simp))
  ·rw [Q8s fq]at e
   exact(J.hok b u e).stay (fun c v _ q=>q) (fun c v _ q=>cX _ _ q) fun c xs q=>cX _ _ q
end L2
end
section
namespace L2
open PySem PySem.Spec PyProof.Rows TK
structure G7 (P:Program) (w:World) (K:Fg9) (mg:Str->Option Value) (base:Heap) (k n:Nat) (f:Addr) (Φ:Hp->Prop) (sp:D6):Prop where
 ex:∃(fd:FuncData) (ps:List Str),R1 P w K mg base L3 k f fd ps (Q5x K n Φ sp)/\ps.length=n/\V1 K fd ps []/\∀(h:Heap) (H:Hp),F5 P w H h->K.In h->Φ H->∃o,h.get? f=some o/\o.data=.func fd
section
variable {X:Cx}{k n i:Nat}{x:Str}{e:Expr}{es:List Expr}{t:TA}{p pos:Pos}
theorem W2j (hr:C5 k X.A) (hv:PE X (.Name x p) (O2 i)) (ha:PA X (e::es) t) (he:starEach (e::es) X.env=(false,eval e X.env)::starEach es X.env:=by rfl) (hpl:(backTo pos (starEach es X.env)).any (·.1)=false:=by rfl) :
  PE X (.Call (.Name x p) (e::es) [] pos) (fun σ H Q=>∃f Φ sp,σ[i]?=some (some (.ref f))/\G7 X.prog X.w X.K X.mg X.base k n f Φ sp/\t σ H fun vs H1=>Q5x X.K n Φ sp vs H1 Q E0):=by
 intro ae s σ H Q I ⟨f,Φ,sp,h0,F,h⟩
 obtain⟨fd,ps,F,hn,hb,here⟩:=F.ex
 refine bh (B2 (hv ae s σ H (fun v H'=>v=.ref f/\t σ H' fun vs H1=>Q5x X.K n Φ sp vs H1 Q E0) I ⟨.ref f,h0,rfl,h⟩) fun u s1 ⟨v,H1,I1,r,ev,q⟩=>?_)
 subst ev
 obtain rfl:u=Value.ref f:=r
 refine PySem.W.callWith_of (P:=fun h=>∃o,h.get? f=some o/\o.data=.func fd) (by rw [he];show((false||(backTo pos (starEach es X.env)).any (·.1))||false)=false;rw [hpl];rfl) (fun h ⟨o,e1,e2⟩=>⟨.frame,.inl rfl,?_⟩) ?_
 ·obtain⟨oc,od,dt,sl⟩:=o
  have e2:dt=.func fd:=e2
  subst e2
  exact(PySem.W.Looks.ld (part:=none) e1).andThen .now
 rw [he]
 refine dv ?_
 have h2:=ha pos ae s1 σ H1 _ I1 q
 rw [he]at h2
 refine B2 h2 fun us s2 ⟨vs,H2,I2,r,q⟩=>⟨?_,?_⟩
 ·obtain⟨rs,r0,_,_,_,hΦ,_⟩:=q
  exact here _ _ I2.hok I2.kIn hΦ
 ·have:=Y2g F hr hb .nil Z3h I2 r (show Q5x X.K n Φ sp (vs++[]) H2 Q E0 by rw [ba];exact q)
  exact this
end
end L2
namespace TK
open PySem PySem.Spec PyProof.Rows L2
noncomputable abbrev E3:=Nat->Addr->(Hp->Prop)->D6->Prop
section
variable {X:Cx}{H0:Hp}{e:Expr}{es:List Expr}{wr:WA}{k i n:Nat}{x:Str}{p pos:Pos}
def Q1h (FC:E3) (n i:Nat) (wr:WA):WE:=fun τ Q=>∃f Φ sp,τ[i]?=some (some (.cl f Φ))/\FC n f Φ sp/\wr τ fun rs=>rs.all N6=true/\∃r,sp (rs.map nrm) r/\Q r
theorem DE.callC (hr:C5 k X.A) (hv:PE X (.Name x p) (O2 i)) (ha:DA X H0 (e::es) wr) (he:starEach (e::es) X.env=(false,eval e X.env)::starEach es X.env:=by rfl) (hpl:(backTo pos (starEach es X.env)).any (·.1)=false:=by rfl) :
  DE X H0 (.Call (.Name x p) (e::es) [] pos) (Q1h (G7 X.prog X.w X.K X.mg X.base k) (e::es).length i wr) where
 mono:=fun τ P Q f ⟨g,Φ,sp,h0,F,h⟩=>⟨g,Φ,sp,h0,F,ha.mono τ _ _ (fun rs ⟨ok,r,h1,h2⟩=>⟨ok,r,h1,f r h2⟩) h⟩
 pe:=N9 (W2j (n:=(e::es).length) hr hv ha.pa he hpl) fun σ H Q ⟨τ,hR,f,Φ,sp,h0,F,h⟩=>by
  obtain⟨v,hv,rv⟩:=hR.here i _ h0
  obtain⟨rfl,hΦ,hM⟩:v=.ref f/\Φ H/\Q2j Φ:=rv
  exact⟨f,Φ,sp,hv,F,τ,hR,ha.mono τ _ _ (fun rs ⟨kC,ok,r,h1,h2⟩ vs H1 s1 cq=>⟨rs,r,kC,cq.v,ok,hM _ _ (Kp.of s1) hΦ,h1,fun v H' s2 ir=>h2 v H' (s1.trans s2) (ir.older s1)⟩) (ha.len τ _ h)⟩
@[simp] theorem Q8q {FC:E3} {τ:A8}{Q:R->Prop}:Q1h FC n i wr τ Q=∃f Φ sp,τ[i]?=some (some (.cl f Φ))/\FC n f Φ sp/\wr τ fun rs=>rs.all N6=true/\∃r,sp (rs.map nrm) r/\Q r:=rfl
end
section
variable {X:Cx}{H0:Hp}{params:Arguments}{body:Expr}{sc:Scope}{pos:Pos}{c Pt:Addr}{k:Nat}{ps:List Str}{sp:D6}{wb:WE}
def Q4u (FC:E3) (n:Nat) (sp:D6):WE:=fun _ Q=>∀f Φ,FC n f Φ sp->Q1m Φ->Q (.cl f Φ)
theorem DE.lam0 (hT:H0 Pt=some .tab) (hB:X4 X.mg X.base) (dF:X.env.code=.ref c) (hC:PySem.W.codeHdIn X.K c Pt=true) (i8:closureFor sc X.env=pure []) (S:Q3n ps [] sc)
  (dz:∀(qual:Str) (pm cd ct:Value) (us:List Value),us.length=ps.length->bindArgs (PySem.W.kla_fn "<lambda>" qual params body sc [] pm cd ct) ⟨us,[]⟩=pure (ps.zip us))
  (bY:∀(f c':Addr) (A:Around) (outer:List Env) (s:Shared) (H:Hp) (q:Str),C5 k (A.deeper (PySem.W.envX q sc s.heap.objs.size f (.ref c') []))->DE (cxL X.prog X.w X.K X.mg X.base ps q sc f c' [] A outer s H) H body wb)
  (hw:∀rs r,rs.length=ps.length->sp rs r->∃(ds:List D) (d:D),rs=ds.map R.st/\r=.st d/\wb (ds.map (fun d=>some (Sl.dat d))) fun r'=>r'=.st d) (hd:defaultsOf params X.env=([],[]):=by rfl) :
  DE X H0 (.Lambda params body sc pos) (Q4u (G7 X.prog X.w X.K X.mg X.base (k+1)) ps.length sp) where
 mono:=fun τ P Q g h f Φ F hH=>g _ (h f Φ F hH)
 pe:=N9 (Z3i hB dF hC i8 hd) fun σ H Q ⟨τ,hR,h⟩=>by
  refine⟨hR.same _ _ hT,fun f c' oc ctv H' sm eI hf dB iG _=>?_⟩
  have LP:W3 X.K [] f c' (V5 X params body sc [] c' ctv) H':=⟨iG,⟨oc,Pt,dB,eI⟩,fun p hp=>absurd hp (by simp)⟩
  have F0:=Z1p (P:=X.prog) (w:=X.w) (K:=X.K) (mg:=X.mg) (base:=X.base) (k:=k) (f:=f) (c':=c') (name:="<lambda>") (qual:=X.env.qual++"<lambda>") (params:=params) (body:=body) (sc:=sc) (pm:=(X.mg "__name__").getD .none) (ctv:=ctv) (ps:=ps) (caps:=[]) (sp:=sp) (wb:=wb) S eS
   (fun A outer s H q hr=>by rw [cC,ba];exact bY f c' A outer s H q hr) (fun rs r hl hs=>by obtain⟨ds,d,e1,e2,e3⟩:=hw rs r hl hs;exact⟨ds,d,e1,e2,by rw [cC,ba];exact e3⟩)
  refine h f (W3 X.K [] f c' (V5 X params body sc [] c' ctv)) ⟨_,ps,F0,rfl,V1.all (dz _ _ _ _),fun hh Hh hok _ hΦ=>⟨_,(hok _ _ hΦ.1).1,rfl⟩⟩ (W3.hid0 (fun u z=>by cases z)) (.ref f) H' sm ⟨rfl,LP,W3.mono⟩
@[simp] theorem W6k {FC:E3}{n:Nat} {τ:A8}{Q:R->Prop}:Q4u FC n sp τ Q=∀f Φ,FC n f Φ sp->Q1m Φ->Q (.cl f Φ):=rfl
end
end TK
end
section
namespace L2
open PySem PySem.Spec PyProof.Rows TK
noncomputable def T8 (caps:List M0) (H:Hp):Hp:=fun b=>match caps.find? (fun p=>p.addr==b)with
 | some p=>some (.frz p.obj U3)
 | none=>H b
theorem Q5c {caps:List M0}{H:Hp}{p:M0} (nd:(caps.map (·.addr)).Nodup) (hp:p∈caps):T8 caps H p.addr=some (.frz p.obj U3):=by
 unfold T8
 cases e:caps.find? (fun q=>q.addr==p.addr)with
 | none =>
  have:=List.find?_eq_none.mp e p hp
  simp at this
 | some q =>
  have h1:(q.addr==p.addr)=true:=List.find?_some (p:=fun q:M0=>q.addr==p.addr) e
  have h2:=List.mem_of_find?_eq_some e
  rw [Z0r nd h2 hp (by simpa using h1)]
theorem Q5d {caps:List M0}{H:Hp}{b:Addr} (h:b∉caps.map (·.addr)):T8 caps H b=H b:=by
 unfold T8
 cases e:caps.find? (fun q=>q.addr==b)with
 | none=>rfl
 | some q =>
  have h1:(q.addr==b)=true:=List.find?_some (p:=fun q:M0=>q.addr==b) e
  have h2:=List.mem_of_find?_eq_some e
  exact absurd (aq.mpr ⟨q,h2,by simpa using h1⟩) h
structure Q1k (X:Cx) (s:Shared) (p:M0):Prop where
 look:X.env.cells.lookup p.name=some p.addr
 own:X.fn p.name=true
 get:s.heap.get? p.addr=some p.obj
 cell:∃u,p.obj.data=.cell (some u)/\B7 p.val u
section
variable {X:Cx}{ae:Pn9} {σ:St}{H:Hp}{s:Shared}{caps:List M0}
theorem Z1d (I:A0 X ae σ H s):∀{caps:List M0},(caps.map (·.name)).Nodup->(∀p∈caps,Q1k X s p)->(caps.map (·.addr)).Nodup
 | [],_,_=>eS
 | p::r,nd,h=>by
  rw [ao,bA]at nd ⊢
  refine⟨fun hm=>?_,Z1d I nd.2 fun q hq=>h q (av _ hq)⟩
  obtain⟨q,hq,e⟩:=aq.mp hm
  have e:q.addr=p.addr:=e
  have h1:=(h p ar).look
  have h2:=(h q (av _ hq)).look
  rw [e]at h2
  exact nd.1 (aq.mpr ⟨q,hq,I.ok.inj _ _ _ h2 h1⟩)
theorem Q5e (I:A0 X ae σ H s) (hc:∀p∈caps,Q1k X s p):A4 H (T8 caps H):=fun b u e=>by
 rw [Q5d]
 ·exact e
 ·intro hb
  obtain⟨p,hp,rfl⟩:=aq.mp hb
  rw [I.freeC _ _ (hc p hp).look]at e;cases e
theorem Z6u (nd:(caps.map (·.addr)).Nodup) (hc:∀p∈caps,Q1k X s p):S5 (caps.map (·.addr)) (T8 caps H):=fun c kG=>by
 obtain⟨p,hp,rfl⟩:=aq.mp kG
 obtain⟨u,hu,_⟩:=(hc p hp).cell
 exact⟨p.obj,some u,Q5c nd hp,hu⟩
theorem Z8j (I:A0 X ae σ H s) (nd:(caps.map (·.addr)).Nodup) (hc:∀p∈caps,Q1k X s p):Q3m X.prog X.w X.K X.mg X.base X.A X.stack s (T8 caps H):=by
 have e0:=I.env0
 have ge:∀p∈caps,X.s₀.heap.objs.size<=p.addr:=fun p hp=>I.ok.cab _ _ (hc p hp).own (hc p hp).look
 have keep:∀b,b∉caps.map (·.addr)->H b=none->T8 caps H b=none:=fun b hb n=>by rw [Q5d hb];exact n
 refine⟨e0.frames,e0.mod,fun b o e=>⟨(e0.bs b o e).1,keep b (fun hb=>?_) (e0.bs b o e).2⟩,e0.bsz,e0.funs,fun b hb=>keep b (fun fX=>?_) (e0.frf b hb),fun b u e=>?_,e0.bare⟩
 ·obtain⟨p,hp,rfl⟩:=aq.mp hb
  exact absurd (ax (ak e) I.ok.bsz) (Nat.not_lt.mpr (ge p hp))
 ·obtain⟨p,hp,rfl⟩:=aq.mp fX
  rcases aj.mp (I.stkSub _ hb)with z | z
  ·exact I.cne _ _ (hc p hp).look z
  ·obtain⟨_,o,ho,_⟩:=I.ok.funs.mem z
   exact absurd (ak ho) (Nat.not_lt.mpr (ge p hp))
 ·by_cases hb:b∈caps.map (·.addr)
  ·obtain⟨p,hp,rfl⟩:=aq.mp hb
   rw [Q5c nd hp]at e;cases e
   exact Q7f (hc p hp).get
  ·rw [Q5d hb]at e
   exact(I.hok b u e).stay (fun c v _ q=>q) (fun c v _ q=>Q5e I hc _ _ q) fun c xs q=>Q5e I hc _ _ q
theorem W5l {CX:CXT}{k:Nat}{f:Addr}{fd:FuncData}{ps:List Str}{sp:Sp}{Q:VK}{E:XK}{us:List Value}{vs:List V} (F:R1 X.prog X.w X.K X.mg X.base L3 k f fd ps sp) (hr:C5 k X.A) (hb:V1 X.K fd ps [])
  (I:A0 X ae σ H s) (nd:(caps.map (·.addr)).Nodup) (hc:∀p∈caps,Q1k X s p) (r:B9 vs us) (h:sp vs (T8 caps H) (fun v H'=>A4 (T8 caps H) H'/\Q v (K3 (caps.map (·.addr)) H')) E):wpAny (model X.prog X.w) X.A (call (.ref f) us) (EP X ae σ Q) X.xe s:=by
 have hl:us.length=ps.length:=by rw [<- r.length];exact F.len _ _ _ _ h
 have fX:BindsTo s fd ⟨us,[]⟩ (ps.zip us):=by have:=hb s us I.kIn (by rw [ba];exact hl);rw [ba]at this;exact this
 refine wpAny_call (codeAny_mono (F.run X.A X.stack s (T8 caps H) ⟨us,[]⟩ us vs _ E hr (Z8j I nd hc) fX r h) fun r s' hq=>?_)
 cases r with
 | error e=>exact(show False from hq).elim
 | ok fl =>
  cases fl with
  | next=>exact False.elim hq
  | brk=>exact False.elim hq
  | cont=>exact False.elim hq
  | ret u =>
   obtain⟨v,H',os,bare,un,hok,rv,sm,q⟩:=hq
   have hS:S5 (caps.map (·.addr)) H':=fun c kG=>by
    obtain⟨o,u,e1,e2⟩:=Z6u (H:=H) nd hc c kG
    exact⟨o,u,un.frzs _ _ _ e1,e2⟩
   have ji:∀b,H b=none->b∉caps.map (·.addr)->T8 caps H b=none:=fun b n hb=>by rw [Q5d hb];exact n
   have kept:∀p∈caps,s'.heap.get? p.addr=some p.obj:=fun p hp=>(hok _ _ (un.frzs _ _ _ (Q5c nd hp))).1
   have Q3d:∀b u,H b=some u->b∉caps.map (·.addr):=fun b u e hb=>by
    obtain⟨p,hp,rfl⟩:=aq.mp hb
    rw [I.freeC _ _ (hc p hp).look]at e;cases e
   have gW:∀b u,H b=some u->K3 (caps.map (·.addr)) H' b=some u:=fun b u e=>by
    rw [Y3 (Q3d b u e)]
    exact sm _ _ (Q5e I hc _ _ e)
   refine I.after ⟨v,K3 (caps.map (·.addr)) H',os,bare,⟨fun b o e n hb hx=>?_,fun b o e n hb hx=>?_,fun b o e n hx=>?_,fun b o e hx=>un.there b o e hx,fun b xs e=>gW _ _ e,fun b o u e=>gW _ _ e,fun b ps e=>⟨#[],by rw [gW _ _ e];simp⟩⟩,F5.hid hok hS fun _ _ q=>q,rv,q⟩
   ·by_cases fq:b∈caps.map (·.addr)
    ·obtain⟨p,hp,rfl⟩:=aq.mp fq
     rw [(hc p hp).get]at e;cases e
     exact kept p hp
    ·exact un.keep b o e (ji b n fq) hb hx
   ·by_cases fq:b∈caps.map (·.addr)
    ·obtain⟨p,hp,rfl⟩:=aq.mp fq
     rw [(hc p hp).get]at e;cases e
     exact⟨_,kept p hp⟩
    ·exact un.slot b o e (ji b n fq) hb hx
   ·by_cases fq:b∈caps.map (·.addr)
    ·exact Q5p fq
    ·rw [Y3 fq]
     exact un.free b o e (ji b n fq) hx
end
end L2
end
section
namespace TK
open PySem PySem.Spec PyProof.Rows L2
noncomputable def P8 (wb:WE) (cE:List Sl):D6:=fun rs r=>∃(ds:List D) (d:D),rs=ds.map R.st/\r=.st d/\wb (ds.map (fun d=>some (Sl.dat d))++cE.map some) fun r'=>r'=.st d
noncomputable def capS:Sl->Prop
 | .dat _=>True
 | .cl _ Φ=>Q1m Φ
 | _=>False
noncomputable def Q1r (τ:A8):List (Str×Nat)->List Sl->Prop
 | [],cE=>cE=[]
 | c::cs,cE=>∃s r,cE=s::r/\τ[c.2]?=some (some s)/\capS s/\Q1r τ cs r
section
variable {X:Cx}{H0:Hp}{ae:Pn9} {σ:St}{H:Hp}{s:Shared} {τ:A8}
theorem Z1e (I:A0 X ae σ H s) (hR:B5 X.K H0 τ σ H):∀{cs:List (Str×Nat)}{cE:List Sl},(∀c∈cs,X.N[c.2]?=some c.1/\X.env.kindOf c.1=some .cell/\X.fn c.1=true)->Q1r τ cs cE ->
  ∃caps:List M0,caps.map (·.name)=cs.map (·.1)/\caps.map (·.slot)=cE/\∀p∈caps,Q1k X s p/\Q2i X.K H p.slot p.val
 | [],cE,_,h=>by
  have h:cE=[]:=h
  subst h
  exact⟨[],rfl,rfl,fun p hp=>absurd hp (by simp)⟩
 | c::cs,cE,hk,h=>by
  obtain⟨sl,r,rfl,e,hc,h⟩:=h
  obtain⟨caps,h1,h2,h3⟩:=Z1e I hR (fun c hc=>hk c (av _ hc)) h
  obtain⟨k1,k2,k3⟩:=hk c ar
  obtain⟨v,hv,rv⟩:=hR.here c.2 sl e
  obtain⟨m,hn,hl⟩:=I.loc
  obtain⟨u,ru,lk⟩:=hl c.2 c.1 v k1 hv (.inr (.inl k2))
  rcases lk with⟨z,_⟩ | ⟨_,ca,fk,o,ho,hd⟩
  ·rw [k2]at z;cases z
  refine⟨⟨c.1,ca,o,v,sl⟩::caps,by rw [ao,ao,h1],by rw [ao,h2],fun p hp=>?_⟩
  rcases aj.mp hp with rfl | hp
  ·refine⟨⟨fk,k3,ho,⟨u,hd,ru⟩⟩,?_⟩
   cases sl with
   | dat d=>exact rv
   | cl a Φ=>exact⟨rv.1,rv.2.1,rv.2.2,hc⟩
   | own _=>exact hc.elim
   | bor _=>exact hc.elim
   | bd _=>exact hc.elim
   | dk _=>exact hc.elim
   | dt _=>exact hc.elim
   | ob _=>exact hc.elim
   | ins _ _ _=>exact hc.elim
   | ll _ _=>exact hc.elim
  ·exact h3 p hp
theorem Z1b {cs:List (Str×Addr)}:∀{caps:List M0}{cs:List (Str×Addr)},caps.map (·.name)=cs.map (·.1)->(∀p∈caps,X.env.cells.lookup p.name=some p.addr)->(∀y∈cs,X.env.cells.lookup y.1=some y.2)->Q6 caps=cs
 | [],[],_,_,_=>rfl
 | [],_::_,h,_,_=>by cases h
 | _::_,[],h,_,_=>by cases h
 | p::r,y::cs,h,h1,h2=>by
  rw [ao,ao,dZ]at h
  have e1:=h1 p ar
  have e2:=h2 y ar
  rw [h.1,e2]at e1
  show(p.name,p.addr)::Q6 r=y::cs
  rw [Z1b (cs:=cs) h.2 (fun q hq=>h1 q (av _ hq)) fun z hz=>h2 z (av _ hz),h.1,<- aB e1]
end
def Z4r (FC:E3) (n:Nat) (cs:List (Str×Nat)) (wb:WE) (sp:D6) (we:WE):WE:=fun τ Q=>we τ fun r1=>N6 r1=true/\∃cE,Q1r τ cs cE/\∀f Φ,FC n f Φ (P8 wb cE)->∃d,sp [nrm r1,.cl f Φ] (.st d)/\Q (.st d)
section
variable {X:Cx}{H0:Hp}{e:Expr}{we wb:WE}{k kl:Nat}{f:Addr}{fd:FuncData}{nD ps:List Str}{sp:D6}{x:Str}{p pos dy:Pos}{params:Arguments}{body:Expr}{sc:Scope}{c Pt:Addr}{cs:List (Str×Nat)}{clos:List (Str×Addr)}
theorem DE.callW (F:R1 X.prog X.w X.K X.mg X.base L3 k f fd nD (Q5y X.K 2 sp)) (hr:C5 k X.A) (hg:Gl X x) (hm:X.mg x=some (.ref f)) (hk:PySem.W.keepIn X.K (.ref f)=true) (hb:V1 X.K fd nD []) (ha:DE X H0 e we)
  (hT:H0 Pt=some .tab) (hB:X4 X.mg X.base) (dF:X.env.code=.ref c) (hC:PySem.W.codeHdIn X.K c Pt=true) (i8:closureFor sc X.env=pure clos) (iI:cs.map (·.1)=clos.map (·.1)) (fW:∀y∈clos,X.env.cells.lookup y.1=some y.2)
  (fw:∀c∈cs,X.N[c.2]?=some c.1/\X.env.kindOf c.1=some .cell/\X.fn c.1=true) (S:Q3n ps (cs.map (·.1)) sc)
  (dz:∀(qual:Str) (cl:List (Str×Addr)) (pm cd ct:Value) (us:List Value),us.length=ps.length->bindArgs (PySem.W.kla_fn "<lambda>" qual params body sc cl pm cd ct) ⟨us,[]⟩=pure (ps.zip us))
  (bY:∀(caps:List M0) (f c':Addr) (A:Around) (outer:List Env) (s:Shared) (H:Hp) (q:Str),caps.map (·.name)=cs.map (·.1)->C5 kl (A.deeper (PySem.W.envX q sc s.heap.objs.size f (.ref c') (Q6 caps)))->DE (cxL X.prog X.w X.K X.mg X.base (ps++cs.map (·.1)) q sc f c' caps A outer s H) H body wb)
  (eJ:(x==("__debug__":Str))=false:=by decide) (he:starEach [e,.Lambda params body sc dy] X.env=(false,eval e X.env)::starEach [.Lambda params body sc dy] X.env:=by rfl) (qH:starEach [.Lambda params body sc dy] X.env=(false,eval (.Lambda params body sc dy) X.env)::starEach [] X.env:=by rfl)
  (hpl:(backTo pos (starEach [.Lambda params body sc dy] X.env)).any (·.1)=false:=by rfl) (hd:defaultsOf params X.env=([],[]):=by rfl) :
  DE X H0 (.Call (.Name x p) [e,.Lambda params body sc dy] [] pos) (Z4r (G7 X.prog X.w X.K X.mg X.base (kl+1)) ps.length cs wb sp we) where
 mono:=fun τ P Q g h=>ha.mono τ _ _ (fun r1 ⟨ok,cE,h1,h2⟩=>⟨ok,cE,h1,fun f Φ F=>let ⟨d,a,b⟩:=h2 f Φ F;⟨d,a,g _ b⟩⟩) h
 pe:=by
  intro ae s σ H Q I ⟨τ,hR,h⟩
  refine bh (Z2i I hg hm ?_ eJ)
  have qZ:PA X [e,.Lambda params body sc dy] (Z4h _ (Z4h _ tNil)):=Q4e (es:=[.Lambda params body sc dy]) ha.pe (Q4e (es:=[]) (Z3i (pos:=dy) hB dF hC i8 hd) Q6f qH) he
  refine PySem.W.callWith_K (h₀:=X.base) I.ok.mod.kin hk (B2 (qZ pos ae s σ H (fun vs H1=>A4 H H1/\∃v1 fa c' oc ctv r1,vs=[v1,.ref fa]/\D9 X.K H H1 r1 v1/\N6 r1=true/\Q4y oc/\H1 c'=some (.frz oc (.own Pt))/\H1 fa=some (.frz (V5 X params body sc clos c' ctv) U3) /\
   ∃cE,Q1r τ cs cE/\∀f Φ,G7 X.prog X.w X.K X.mg X.base (kl+1) ps.length f Φ (P8 wb cE)->∃d,sp [nrm r1,.cl f Φ] (.st d)/\∀v H',A4 H H'->D9 X.K H H' (.st d) v->Q v H') I ?_) fun us s1 ⟨vs,H1,I1,r,lE,q⟩=>⟨I1.kIn,?_⟩) he hpl
  ·refine⟨τ,hR,ha.mono τ _ _ (fun r1 ⟨ok,cE,h1,h2⟩ v1 H1 s1 ir=>?_) h⟩
   refine⟨s1 _ _ (hR.same _ _ hT),fun fa c' oc ctv H' sm eI hf dB iG _=>?_⟩
   exact⟨s1.trans sm,v1,fa,c',oc,ctv,r1,rfl,ir.mono sm,ok,eI,dB,iG,cE,h1,h2⟩
  ·obtain⟨v1,fa,c',oc,ctv,r1,rfl,ir,ok,eI,dB,iG,cE,h1,h2⟩:=q
   obtain⟨caps,n1,n2,kF⟩:=Z1e I1 (hR.mono lE) fw h1
   have fk:∀p∈caps,Q1k X s1 p:=fun p hp=>(kF p hp).1
   have jN:(caps.map (·.name)).Nodup:=by rw [n1];exact(bG.mp S.nd).2.1
   have nd:=Z1d I1 jN fk
   have hL:Q6 caps=clos:=Z1b (cs:=clos) (n1.trans iI) (fun p hp=>(fk p hp).look) fW
   have gY:=Q5e I1 fk
   subst hL
   have LP:W3 X.K caps fa c' (V5 X params body sc (Q6 caps) c' ctv) (T8 caps H1):=⟨gY _ _ iG,⟨oc,Pt,gY _ _ dB,eI⟩,fun p hp=>⟨Q5c nd hp,(fk p hp).cell,(kF p hp).2.mono (Kp.of gY)⟩⟩
   have F0:=Z1p (P:=X.prog) (w:=X.w) (K:=X.K) (mg:=X.mg) (base:=X.base) (k:=kl) (f:=fa) (c':=c') (name:="<lambda>") (qual:=X.env.qual++"<lambda>") (params:=params) (body:=body) (sc:=sc) (pm:=(X.mg "__name__").getD .none) (ctv:=ctv) (ps:=ps) (caps:=caps) (sp:=P8 wb cE) (wb:=wb) (by rw [n1];exact S) nd
    (fun A outer s H q hr=>by rw [n1];exact bY caps fa c' A outer s H q n1 hr) (fun rs r _ hs=>by
     obtain⟨ds,d,e1,e2,e3⟩:=hs
     refine⟨ds,d,e1,e2,?_⟩
     have:cE.map some=caps.map fun p=>some p.slot:=by rw [<- n2,aN];rfl
     rw [<- this];exact e3)
   obtain⟨d,g1,g2⟩:=h2 fa _ ⟨_,ps,F0,rfl,V1.all (dz _ _ _ _ _),fun hh Hh hok _ hΦ=>⟨_,(hok _ _ hΦ.1).1,rfl⟩⟩
   refine W5l (CX:=L3) (E:=E0) F hr hb I1 nd fk r ⟨[r1,.cl fa _],.st d,rfl,⟨v1,_,rfl,(ir.mono gY).v,_,_,rfl,⟨rfl,LP,W3.mono⟩,rfl⟩,by rw [List.all_cons,ok];rfl,g1,fun v H' cX iv=>⟨cX,?_⟩⟩
   have hS:S5 (caps.map (·.addr)) H':=fun c kG=>by
    obtain⟨o,u,e1,e2⟩:=Z6u (H:=H1) nd fk c kG
    exact⟨o,u,cX _ _ e1,e2⟩
   have Q3d:∀b u,H1 b=some u->b∉caps.map (·.addr):=fun b u e hb=>by
    obtain⟨p,hp,rfl⟩:=aq.mp hb
    rw [I1.freeC _ _ (fk p hp).look]at e;cases e
   exact g2 v _ (fun b u e=>by rw [Y3 (Q3d b u (lE _ _ e))];exact cX _ _ (gY _ _ (lE _ _ e))) (show A1 X.K _ d v from A1.hid hS d v iv)
@[simp] theorem W5s {FC:E3}{n:Nat} {τ:A8}{Q:R->Prop}:Z4r FC n cs wb sp we τ Q=we τ fun r1=>N6 r1=true/\∃cE,Q1r τ cs cE/\∀f Φ,FC n f Φ (P8 wb cE)->∃d,sp [nrm r1,.cl f Φ] (.st d)/\Q (.st d):=rfl
end
end TK
end
section
namespace L2
open PySem PySem.Spec PyProof.Rows TK
theorem Y9o {P:Program}{w:World}{K:Fg9}{mg mb:Str->Option Value}{k:Nat}{fa a:Addr}{fd:FuncData}{x:Str}{sp:Sp}{s₁:Shared}{vs:List Value}{ns:List Int}{ts:List Addr}
  (KX:K.In s₁.heap) (iY:s₁.heap.Ns mainGlobals mg) (hb:s₁.heap.Ns builtinsNs mb) (qO:∀x:Str,x≠"__name__"->mb x=bootBuiltins x) (mw:s₁.heap.NoLimit) (qL:X4 mg s₁.heap) (hg:s₁.gens=#[])
  (iX:∀Pt∈ts,s₁.heap.get? Pt=some (PySem.W.tabObj #[])) (ef:∀Pt∈ts,∃c,PySem.W.codeHdIn K c Pt=true) (r6:∀Pt∈ts,K.lookup Pt=none)
  (ha:s₁.heap.get? a=some { cls:=.type "list",data:=.seq vs.toArray }) (hi:IntsAre vs ns) (hl:ns.length<=sizeLine) (hr:C5 k callerA)
  (F:∀base:Heap,K.In base->base.Ns mainGlobals mg->X4 mg base->R1 P w K mg base L3 k fa fd [x] sp) (dz:∀(s:Shared) (u:Value),BindsTo s fd ⟨[u],[]⟩ [(x,u)])
  (g9:∀H:Hp,(∀Pt∈ts,H Pt=some .tab)->FzL K H a (ns.map V.int)->sp [.ref a] H (fun v H'=>v=.bl true/\∀Pt∈ts,H' Pt=some .tab) fun _ _ _=>False) :
  codeAny (model P w) callerA (.call (.ref fa) ⟨[.ref a],[]⟩) (fun r s'=>r=.ok (.ret (.bool true))/\OldK s₁.heap s'.heap/\s'.os=s₁.os/\AllBare s'.gens) s₁:=by
 have rv:=Y4z hi
 have lP:=hi.length
 have core:∀H:Hp,(∀b u,H b=some u->(b∈ts/\u=.tab)\/(b=a/\K.lookup a=none/\u=.frz { cls:=.type "list",data:=.seq vs.toArray } (.lst (ns.map V.int))))->(∀Pt∈ts,H Pt=some .tab)->FzL K H a (ns.map V.int) ->
   codeAny (model P w) callerA (.call (.ref fa) ⟨[.ref a],[]⟩) (fun r s'=>r=.ok (.ret (.bool true))/\OldK s₁.heap s'.heap/\s'.os=s₁.os/\AllBare s'.gens) s₁:=by
  intro H hO hT hS
  have hok:F5 P w H s₁.heap:=fun b u e=>by
   rcases hO b u e with⟨hb,rfl⟩ | ⟨rfl,_,rfl⟩
   ·exact⟨#[],iX b hb,trivial,fun pos cv q=>by cases q⟩
   ·exact⟨ha,by rw [ag];exact hl,vs,_,rv,ha⟩
  have eN:∀{b:Addr}{o:Obj},s₁.heap.get? b=some o->H b=none->(Q0h s₁.heap H).get? b=some o:=fun e n=>Y8e e n
  have hV:∀{b:Addr}{o:Obj},s₁.heap.get? b=some o->(∀xs,o.data≠.fields xs)->(∀xs n,o.data≠.seq xs n)->H b=none:=fun {b o} e d1 d2=>by
   cases q:H b with
   | none=>rfl
   | some u =>
    rcases hO b u q with⟨hb,rfl⟩ | ⟨rfl,_,rfl⟩
    ·rw [iX b hb]at e;cases e;exact absurd rfl (d1 _)
    ·rw [ha]at e;cases e;exact absurd rfl (d2 _ _)
  have l3:∀{b:Addr}{m:Str->Option Value},s₁.heap.Ns b m->(Q0h s₁.heap H).Ns b m:=fun {b m} ⟨o,es,ep,e,d,r⟩=>⟨o,es,ep,eN e (hV e (fun xs z=>by rw [d]at z;cases z) (fun xs n z=>by rw [d]at z;cases z)),d,r⟩
  have oq:K.In (Q0h s₁.heap H):=fun b o e=>eN (KX b o e) (by
   cases q:H b with
   | none=>rfl
   | some u =>
    rcases hO b u q with⟨hb,rfl⟩ | ⟨rfl,hk,rfl⟩
    ·rw [r6 b hb]at e;cases e
    ·rw [hk]at e;cases e)
  have hM:Mod K mg (Q0h s₁.heap H):=⟨oq,l3 iY,⟨mb,l3 hb,qO⟩,let ⟨mc,h1,h2⟩:=mw;⟨mc,l3 h1,h2⟩⟩
  have hBM:X4 mg (Q0h s₁.heap H):=by
   obtain⟨bm,ob,b1,b2,b3,b4,b5,b6⟩:=qL
   exact⟨bm,ob,b1,b2,eN b3 (hV b3 (fun xs z=>by rw [b6]at z;cases z) (fun xs n z=>by rw [b6]at z;cases z)),b4,b5,b6⟩
  have e0:Q3m P w K mg (Q0h s₁.heap H) callerA [] s₁ H:=⟨rfl,hM,fun b o e=>W1s e,Nat.le_of_eq (Y8f _ _),trivial,fun b hb=>absurd (show b∈([]:List Addr)from hb) (by simp),hok,.of_eq hg⟩
  refine codeAny_mono ((F _ oq (l3 iY) hBM).run callerA [] s₁ H ⟨[.ref a],[]⟩ [.ref a] [.ref a] _ _ hr e0 (dz s₁ (.ref a)) (.cons rfl .nil) (g9 H hT hS)) fun r s' h=>?_
  cases r with
  | error e=>exact(show False from h).elim
  | ok fl =>
   cases fl with
   | next=>exact False.elim h
   | brk=>exact False.elim h
   | cont=>exact False.elim h
   | ret u =>
    obtain⟨v,H',os,bare,un,ky,r',q,qV⟩:=h
    have q':v=.bl true:=q
    subst q'
    obtain rfl:u=Value.bool true:=r'
    refine⟨rfl,⟨fun b o e=>?_,fun b o e=>un.there b o e (by simp)⟩,os,bare⟩
    cases q:H b with
    | none=>exact .inl (un.keep b o e q (by intro z;exact absurd (show b∈([]:List Addr)from z) (by simp)) (by simp))
    | some u =>
     rcases hO b u q with⟨hb,rfl⟩ | ⟨rfl,hk,rfl⟩
     ·obtain⟨ps,g1,_⟩:=(show G1 P w H' s'.heap b .tab from ky b _ (qV b hb))
      obtain⟨c,hc⟩:=ef b hb
      have e1:=iX b hb
      rw [e]at e1;cases e1
      refine .inr (.inl ⟨((PySem.W.codeHd_of_K KX hc).tab (iX b hb)).isCodeTable,rfl,#[],ps,rfl,?_⟩)
      rw [g1];simp
     ·have z2:=un.frzs b _ _ q
      obtain⟨e2,_⟩:=ky b _ z2
      rw [ha]at e;cases e
      exact .inl e2
 have pO:a∉ts:=fun hb=>by
  have:=iX a hb
  rw [ha]at this;cases this
 cases hk:K.lookup a with
 | some o =>
  have e:=KX a o hk
  rw [ha]at e
  cases e
  refine core (fun b=>if b∈ts then some .tab else none) (fun b u e=>?_) (fun Pt h=>aI h) (.inr ⟨_,vs.toArray,_,hk,rfl,rfl,rfl,by rw [aE,lP];exact hl,by simpa using rv⟩)
  by_cases hb:b∈ts
  ·have e:=(aI hb).symm.trans e;cases e;exact .inl ⟨hb,rfl⟩
  ·have e:=(aD hb).symm.trans e;cases e
 | none =>
  refine core (fun b=>if b∈ts then some .tab else if b=a then some (.frz { cls:=.type "list",data:=.seq vs.toArray } (.lst (ns.map V.int)))else none) (fun b u e=>?_) (fun Pt h=>aI h) (.inl ⟨_,(aD pO).trans (aI rfl)⟩)
  by_cases hb:b∈ts
  ·have e:=(aI hb).symm.trans e;cases e;exact .inl ⟨hb,rfl⟩
  ·have e:=(aD hb).symm.trans e
   by_cases ha:b=a
   ·have e:=(aI ha).symm.trans e;cases e;exact .inr ⟨ha,hk,rfl⟩
   ·have e:=(aD ha).symm.trans e;cases e
theorem W8w {l:PySem.W.OpenLaw}{n k:Nat}{q:Program}{eh:List Str}{XP:(Str->Option Value)->Heap->Prop}{YP:World->Heap->Prop}{d:DefRec}{K:Params->Fg9}{sp:World->Sp}{x:Str}{ts:List Addr}
  (hn:l.most=some n) (qo:n<=sizeLine) (iH:d.params.defaults=[]) (hr:C5 k callerA)
  (hY:∀(w:World) (h:Heap),YP w h->(K w.params).In h) (mO:∀(w:World) (h:Heap),YP w h->∀Pt∈ts,h.get? Pt=some (PySem.W.tabObj #[]))
  (F:∀(w:World) (mg:Str->Option Value) (fa:Addr) (h:Heap),(K w.params).In h->h.Ns mainGlobals mg->mg d.name=some (.ref fa) ->
   (∀Pt∈ts,(∃c,PySem.W.codeHdIn (K w.params) c Pt=true)/\(K w.params).lookup Pt=none) /\
   ∃fd:FuncData,(∀(s:Shared) (u:Value),BindsTo s fd ⟨[u],[]⟩ [(x,u)]) /\
    ∀base:Heap,(K w.params).In base->base.Ns mainGlobals mg->X4 mg base->R1 l.prog w (K w.params) mg base L3 k fa fd [x] (sp w))
  (g9:∀(w:World) (H:Hp) (a:Addr) (ns:List Int),ns.length<=n->(∀Pt∈ts,H Pt=some .tab)->FzL (K w.params) H a (ns.map V.int)->sp w [.ref a] H (fun v H'=>v=.bl true/\∀Pt∈ts,H' Pt=some .tab) fun _ _ _=>False) :
  PySem.W.WalkO q eh XP YP l.row.toRowW d [] (fun f vs=>PySem.call f vs):=by
 refine Att.attach_call hn iH fun w s₀ s₁ mg mb fa o pm cd cS a vs ns G Y ho hd ef jz jw gN bL hg=>?_
 have KX:=hY w _ Y
 obtain⟨iX,fd,hb,hF⟩:=F w mg fa _ KX G.T.g jz
 exact Y9o KX G.T.g G.T.b G.T.builtins G.T.nolimit G.T.bmain hg (mO w _ Y) (fun Pt h=>(iX Pt h).1) (fun Pt h=>(iX Pt h).2) jw gN (aR bL qo) hr hF hb fun H hT hS=>g9 w H a ns bL hT hS
end L2
namespace TK
open PySem PySem.Spec PyProof.Rows L2
def Q5b (ts:List Addr) (H:Hp):Prop:=∀Pt∈ts,H Pt=some .tab
noncomputable abbrev G0:=List R->(R->Prop)->Prop
noncomputable def Q4a (K:Fg9) (ts:List Addr) (n:Nat) (sp:G0):Sp:=fun vs H Q _=>∃(rs:List R) (P:R->Prop),rs.length=n/\M6 K (fun _=>none) H rs vs/\rs.all N6=true/\Q5b ts H/\sp (rs.map nrm) P/\∀r v H',P r->A4 H H'->D9 K H H' r v->Q v H'
abbrev FnT (P:Program) (w:World) (K:Fg9) (mg:Str->Option Value) (base:Heap) (ts:List Addr) (k:Nat) (f:Addr) (fd:FuncData) (ps:List Str) (sp:G0):Prop:=R1 P w K mg base L3 k f fd ps (Q4a K ts ps.length sp)
end TK
end
section
namespace TK
open PySem PySem.Spec PyProof.Rows L2
structure S8 (K:Fg9) (x qual:Str) (st:Stmt) (f:Addr) (fd:FuncData) (c Pt:Addr):Prop where
 ex:∃(oc:Value) (od:Option Addr) (kV cS pm:Value) (an:Option Addr) (ct:Value) (eg:Array (Option Value)),
  fd=PySem.W.fnOf x qual (Z4 st) (S0 st) (B8 st) .none kV cS pm an (.ref c) ct/\K.lookup f=some ⟨oc,od,.func fd,eg⟩/\PySem.W.codeIn K (.ref c) qual=true
 hd:PySem.W.codeHdIn K c Pt=true
noncomputable abbrev T7 (P:R->Prop):F3:={ nx:=fun _=>P (.st .non),rt:=P,bk:=fun _=>False,ct:=fun _=>False }
section
variable {P:Program}{w:World}{K:Fg9}{mg:Str->Option Value}{base:Heap}{ts:List Addr}{x qual:Str}{st:Stmt}{f:Addr}{fd:FuncData}{N ps:List Str}{k:Nat}{sp:G0}
theorem Y1d {cdv:Value}{A:Around}{outer:List Env}{s:Shared}{H:Hp}{E:XK}{ws:WS}{rs:List R}{vs:List V}{Q:VK}{Pr:R->Prop}{X:Cx} (hX:X.K=K) (hd:A5 X H (S0 st) ws) (hl:rs.length=ps.length) (al:M6 K (fun _=>none) H rs vs) (ok:rs.all N6=true)
  (h1:sp (rs.map nrm) Pr) (h2:∀r v H',Pr r->A4 H H'->D9 K H H' r v->Q v H') (hw:∀rs Pr,rs.length=ps.length->sp rs Pr->ws (T7 Pr) (F2 N rs)) :
  ∃t,PSs X (S0 st) t/\t { nx:=fun _ H'=>Q .non H',rt:=Q } (start N vs) H:=by
 subst hX
 refine⟨_,hd.ps,F2 N rs,Z3n al ok,?_⟩
 have hw:=hw (rs.map nrm) Pr (by rw [ag];exact hl) h1
 rw [Z4e]at hw
 refine hd.mono _ _ _ ⟨fun τ h σ H' _ hR=>?_,fun r' h v H' sm ir=>?_,fun _ h=>False.elim h,fun _ h=>False.elim h⟩ hw
 ·exact h2 (.st .non) .non H' h hR.same (A1.s_non (K:=X.K) (H:=H'))
 ·exact h2 r' v H' h sm ir
theorem Q5.okP {ws:WS} (F:Q5 K x qual st f fd) (S:J4 N ps (B8 st))
  (bY:∀(cdv:Value) (A:Around) (outer:List Env) (s:Shared) (H:Hp) (E:XK),Q5b ts H->C5 k (A.deeper (envOfC qual (B8 st) s.heap.objs.size f cdv))->A5 (V4 L3 P w K mg base N qual (B8 st) f cdv A outer s H E).nox H (S0 st) ws)
  (hw:∀rs Pr,rs.length=ps.length->sp rs Pr->ws (T7 Pr) (F2 N rs)):FnT P w K mg base ts (k+1) f fd ps sp:=by
 refine F.ok S (fun vs H Q E h=>?_) (fun cdv A outer s H vs Q E hr h=>?_)
 ·obtain⟨rs,r,hl,al,_⟩:=h
  rw [<- al.length];exact hl
 obtain⟨rs,Pr,hl,al,ok,hT,h1,h2⟩:=h
 exact Y1d (st:=st) (cdv:=cdv) (A:=A) (outer:=outer) (s:=s) (E:=E) rfl (bY cdv A outer s H E hT hr) hl al ok h1 h2 hw
theorem S8.okP {c Pt:Addr}{ws:WS} (F:S8 K x qual st f fd c Pt) (S:J4 N ps (B8 st))
  (bY:∀(A:Around) (outer:List Env) (s:Shared) (H:Hp) (E:XK),Q5b ts H->C5 k (A.deeper (envOfC qual (B8 st) s.heap.objs.size f (.ref c)))->A5 (V4 L3 P w K mg base N qual (B8 st) f (.ref c) A outer s H E).nox H (S0 st) ws)
  (hw:∀rs Pr,rs.length=ps.length->sp rs Pr->ws (T7 Pr) (F2 N rs)):FnT P w K mg base ts (k+1) f fd ps sp:=by
 obtain⟨oc,od,kV,cS,pm,an,ct,eg,rfl,lk,ef⟩:=F.ex
 refine Z8n lk ef S (fun vs H Q E h=>?_) fun A outer s H vs Q E hr h=>?_
 ·obtain⟨rs,r,hl,al,_⟩:=h
  rw [<- al.length];exact hl
 obtain⟨rs,Pr,hl,al,ok,hT,h1,h2⟩:=h
 obtain⟨t,ht,q⟩:=Y1d (st:=st) (cdv:=.ref c) (A:=A) (outer:=outer) (s:=s) (E:=E) rfl (bY A outer s H E hT hr) hl al ok h1 h2 hw
 exact⟨t,ht.nox,q⟩
end
section
variable {X:Cx}{H0:Hp}{e:Expr}{es:List Expr}{wr:WA}{k:Nat}{f:Addr}{fd:FuncData}{ps:List Str}{sp:G0}{x:Str}{p pos:Pos}{ts:List Addr}
def W4 (sp:G0):Prop:=∀rs P Q,(∀r,P r->Q r)->sp rs P->sp rs Q
def Q4 (sp:G0) (wr:WA):WE:=fun τ Q=>wr τ fun rs=>rs.all N6=true/\sp (rs.map nrm) Q
theorem DE.callP (mt:W4 sp) (F:R1 X.prog X.w X.K X.mg X.base L3 k f fd ps (Q4a X.K ts (e::es).length sp)) (hr:C5 k X.A) (hT:Q5b ts H0) (hg:Gl X x) (hm:X.mg x=some (.ref f)) (hk:PySem.W.keepIn X.K (.ref f)=true) (hb:V1 X.K fd ps [])
  (ha:DA X H0 (e::es) wr) (eJ:(x==("__debug__":Str))=false:=by decide) (he:starEach (e::es) X.env=(false,eval e X.env)::starEach es X.env:=by rfl) (hpl:(backTo pos (starEach es X.env)).any (·.1)=false:=by rfl) :
  DE X H0 (.Call (.Name x p) (e::es) [] pos) (Q4 sp wr) where
 mono:=fun τ P Q g h=>ha.mono τ _ _ (fun rs ⟨ok,h1⟩=>⟨ok,mt _ _ _ g h1⟩) h
 pe:=N9 (Y1h F hr hg hm hk hb .nil Z3h ha.pa eJ he hpl) fun σ H Q ⟨τ,hR,h⟩=>⟨τ,hR,ha.mono τ _ _ (fun rs ⟨kC,ok,h1⟩ vs H1 s1 cq=>by
  refine⟨rs,_,kC,?_,ok,fun Pt hp=>s1 _ _ (hR.same _ _ (hT Pt hp)),h1,fun r v H' q s2 ir=>q v H' (s1.trans s2) (ir.older s1)⟩
  rw [ba]
  exact cq.v) (ha.len τ _ h)⟩
@[simp] theorem Q1c {τ:A8}{Q:R->Prop}:Q4 sp wr τ Q=wr τ fun rs=>rs.all N6=true/\sp (rs.map nrm) Q:=rfl
end
section
variable {P:Program}{w:World}{K:Fg9}{mg:Str->Option Value}{base:Heap}{ts:List Addr}{x qual:Str}{st:Stmt}{f:Addr}{fd:FuncData}{N ps:List Str}{k kl:Nat}{sp:G0}{c Pt:Addr}
 {k6 dC:Stmt}{params:Arguments}{body:Expr}{sc:Scope}{dy jh:Pos}{cs:List (Str×Nat)}{lps:List Str}{w1 w2:WS}{wb:WE}
def Q4w (FC:E3) (n:Nat) (cs:List (Str×Nat)) (wb:WE) (w1 w2:WS) (Pr:R->Prop) (τ:A8):Prop :=
 w1 { nx:=w2 { nx:=fun τ'=>∃cE,Q1r τ' cs cE/\∀g Φ,FC n g Φ (P8 wb cE)->Pr (.cl g Φ),rt:=fun _=>False,bk:=fun _=>False,ct:=fun _=>False },rt:=fun _=>False,bk:=fun _=>False,ct:=fun _=>False } τ
theorem W5i {X:Cx} {σ0:St} {τ0:A8}{s1:Shared}{k6 dC:Stmt}{params:Arguments}{body:Expr}{sc:Scope}{dy jh:Pos}{cs:List (Str×Nat)}{lps:List Str}{w1 w2:WS}{wb:WE}{kl:Nat}{c Pt:Addr}{clos:List (Str×Addr)}{Pr:R->Prop}{Q:VK}
  (I0:A0 X.nox [] σ0 X.H₀ s1) (qX:B5 X.K X.H₀ τ0 σ0 X.H₀) (hex:X.ex=[]) (d1:DS X.nox X.H₀ k6 w1) (d2:DS X.nox X.H₀ dC w2)
  (hT:X.H₀ Pt=some .tab) (hB:X4 X.mg X.base) (dF:X.env.code=.ref c) (hC:PySem.W.codeHdIn X.K c Pt=true) (i8:closureFor sc X.env=pure clos) (iI:cs.map (·.1)=clos.map (·.1)) (fW:∀y∈clos,X.env.cells.lookup y.1=some y.2)
  (fw:∀y∈cs,X.N[y.2]?=some y.1/\X.env.kindOf y.1=some .cell/\X.fn y.1=true) (S:Q3n lps (cs.map (·.1)) sc)
  (dz:∀(qual:Str) (cl:List (Str×Addr)) (pm cd ct:Value) (us:List Value),us.length=lps.length->bindArgs (PySem.W.kla_fn "<lambda>" qual params body sc cl pm cd ct) ⟨us,[]⟩=pure (lps.zip us))
  (bY:∀(caps:List M0) (g c':Addr) (A:Around) (outer:List Env) (s:Shared) (H:Hp) (q:Str),caps.map (·.name)=cs.map (·.1)->C5 kl (A.deeper (PySem.W.envX q sc s.heap.objs.size g (.ref c') (Q6 caps)))->DE (cxL X.prog X.w X.K X.mg X.base (lps++cs.map (·.1)) q sc g c' caps A outer s H) H body wb)
  (iH:defaultsOf params X.env=([],[])) (hw:Q4w (G7 X.prog X.w X.K X.mg X.base (kl+1)) lps.length cs wb w1 w2 Pr τ0) (hQ:∀r v H',Pr r->A4 X.H₀ H'->D9 X.K X.H₀ H' r v->Q v H') :
  wpAny (model X.prog X.w) X.A (execs [k6,dC,.Return (some (.Lambda params body sc dy)) jh] X.env) (fun fl s'=>∃u,fl=.ret u/\CE X.outer X.prog X.w X.H₀ X.s₀ Q u s') (fun _ _=>False) s1:=by
 refine wpAny_execs_cons (B2 (d1.ps [] s1 σ0 X.H₀ { nx:=fun σ' H'=>∃ τ',B5 X.K X.H₀ τ' σ' H'/\w2 { nx:=fun τ'=>∃cE,Q1r τ' cs cE/\∀g Φ,G7 X.prog X.w X.K X.mg X.base (kl+1) lps.length g Φ (P8 wb cE)->Pr (.cl g Φ),rt:=fun _=>False,bk:=fun _=>False,ct:=fun _=>False } τ',rt:=fun _ _=>False,bk:=fun _ _=>False,ct:=fun _ _=>False } I0
  ⟨τ0,qX,d1.mono _ _ _ (by exact⟨fun τ h σ H' _ hR=>⟨τ,hR,h⟩,fun _ h=>False.elim h,fun _ h=>False.elim h,fun _ h=>False.elim h⟩) hw⟩) fun fl s2 q=>?_)
 cases fl with
 | ret v=>obtain⟨_,_,_,_,_,q⟩:=q;exact False.elim q
 | brk=>obtain⟨_,_,_,q⟩:=q;exact False.elim q
 | cont=>obtain⟨_,_,_,q⟩:=q;exact False.elim q
 | next =>
 obtain⟨σ2,H2,I2,τ2,dA,jr⟩:=q
 refine wpAny_execs_cons (B2 (d2.ps [] s2 σ2 H2 { nx:=fun σ' H'=>∃ τ',B5 X.K X.H₀ τ' σ' H'/\∃cE,Q1r τ' cs cE/\∀g Φ,G7 X.prog X.w X.K X.mg X.base (kl+1) lps.length g Φ (P8 wb cE)->Pr (.cl g Φ),rt:=fun _ _=>False,bk:=fun _ _=>False,ct:=fun _ _=>False } I2
  ⟨τ2,dA,d2.mono _ _ _ (by exact⟨fun τ h σ H' _ hR=>⟨τ,hR,h⟩,fun _ h=>False.elim h,fun _ h=>False.elim h,fun _ h=>False.elim h⟩) jr⟩) fun fl s3 q=>?_)
 cases fl with
 | ret v=>obtain⟨_,_,_,_,_,q⟩:=q;exact False.elim q
 | brk=>obtain⟨_,_,_,q⟩:=q;exact False.elim q
 | cont=>obtain⟨_,_,_,q⟩:=q;exact False.elim q
 | next =>
 obtain⟨σ3,H3,I3,τ3,gS,cE,h1,h2⟩:=q
 refine wpAny_execs_cons (wpAny_Return_some (B2 (Z3i (X:=X.nox) (pos:=dy) (P:=Pt) (c:=c) hB dF hC i8 iH [] s3 σ3 H3 (fun v H4=>A4 H3 H4/\∃g c' oc ctv,v=.ref g/\Q4y oc/\H4 c'=some (.frz oc (.own Pt))/\H4 g=some (.frz (V5 X.nox params body sc clos c' ctv) U3)) I3 ⟨gS.same _ _ hT,fun g c' oc ctv H' sm eI _ dB iG _=>⟨sm,g,c',oc,ctv,rfl,eI,dB,iG⟩⟩) fun u s4 ⟨v,H4,I4,rv,sm,g,c',oc,ctv,ev,eI,dB,iG⟩=>?_))
 subst ev
 obtain rfl:u=Value.ref g:=rv
 have j6:=gS.mono sm
 obtain⟨caps,n1,n2,kF⟩:=Z1e (X:=X.nox) I4 j6 fw h1
 have fk:∀p∈caps,Q1k X.nox s4 p:=fun p hp=>(kF p hp).1
 have jN:(caps.map (·.name)).Nodup:=by rw [n1];exact(bG.mp S.nd).2.1
 have nd:=Z1d I4 jN fk
 have hL:Q6 caps=clos:=Z1b (X:=X) (cs:=clos) (n1.trans iI) (fun p hp=>(fk p hp).look) fW
 have gY:=Q5e I4 fk
 subst hL
 have LP:W3 X.K caps g c' (V5 X.nox params body sc (Q6 caps) c' ctv) (T8 caps H4):=⟨gY _ _ iG,⟨oc,Pt,gY _ _ dB,eI⟩,fun p hp=>⟨Q5c nd hp,(fk p hp).cell,(kF p hp).2.mono (Kp.of gY)⟩⟩
 have F0:=Z1p (P:=X.prog) (w:=X.w) (K:=X.K) (mg:=X.mg) (base:=X.base) (k:=kl) (f:=g) (c':=c') (name:="<lambda>") (qual:=X.env.qual++"<lambda>") (params:=params) (body:=body) (sc:=sc) (pm:=(X.mg "__name__").getD .none) (ctv:=ctv) (ps:=lps) (caps:=caps) (sp:=P8 wb cE) (wb:=wb) (by rw [n1];exact S) nd
  (fun A outer s H q hr=>by rw [n1];exact bY caps g c' A outer s H q n1 hr) (fun rs r _ hs=>by
   obtain⟨ds,d,e1,e2,e3⟩:=hs
   refine⟨ds,d,e1,e2,?_⟩
   have:cE.map some=caps.map fun p=>some p.slot:=by rw [<- n2,aN];rfl
   rw [<- this];exact e3)
 have qY:=h2 g _ ⟨_,lps,F0,rfl,V1.all (dz _ _ _ _ _),fun hh Hh hok _ hΦ=>⟨_,(hok _ _ hΦ.1).1,rfl⟩⟩
 have gZ:A4 X.H₀ (T8 caps H4):=(j6.same).trans gY
 have ge:∀p∈caps,X.s₀.heap.objs.size<=p.addr:=fun p hp=>I4.ok.cab _ _ (fk p hp).own (fk p hp).look
 have l5:∀b:Addr,b∉X.nox.ex:=fun b=>by show b∉X.ex;rw [hex];simp
 have B:=I4.base
 refine⟨_,rfl,.ref g,T8 caps H4,I4.os,I4.bare,⟨fun b o e n hb _=>B.keep b o e n hb (l5 b),fun b o e n hb _=>B.slot b o e n hb (l5 b),fun b o e n _=>?_,fun b o e _=>B.there b o e (l5 b),fun b xs e=>gZ _ _ e,fun b o u e=>gZ _ _ e,fun b ps e=>⟨#[],by rw [gZ _ _ e];simp⟩⟩,(Z8j I4 nd fk).hok,rfl,hQ _ _ _ qY gZ ⟨rfl,LP,W3.mono⟩⟩
 rw [Q5d]
 ·exact B.free b o e n (l5 b)
 ·intro hb
  obtain⟨p,hp,rfl⟩:=aq.mp hb
  exact absurd (ak e) (Nat.not_lt.mpr (ge p hp))
theorem S8.okL (F:S8 K x qual st f fd c Pt) (S:J4 N ps (B8 st)) (qN:S0 st=[k6,dC,.Return (some (.Lambda params body sc dy)) jh]) (hBM:X4 mg base) (fY:Pt∈ts)
  (h1:∀(A:Around) (outer:List Env) (s:Shared) (H:Hp) (E:XK),C5 k (A.deeper (envOfC qual (B8 st) s.heap.objs.size f (.ref c)))->DS (V4 L3 P w K mg base N qual (B8 st) f (.ref c) A outer s H E).nox H k6 w1)
  (h2:∀(A:Around) (outer:List Env) (s:Shared) (H:Hp) (E:XK),C5 k (A.deeper (envOfC qual (B8 st) s.heap.objs.size f (.ref c)))->DS (V4 L3 P w K mg base N qual (B8 st) f (.ref c) A outer s H E).nox H dC w2)
  (clos:Nat->List (Str×Addr)) (i8:∀n:Nat,closureFor sc (envOfC qual (B8 st) n f (.ref c))=pure (clos n)) (iI:∀n,cs.map (·.1)=(clos n).map (·.1)) (fW:∀n,∀y∈clos n,(envOfC qual (B8 st) n f (.ref c)).cells.lookup y.1=some y.2)
  (fw:∀y∈cs,N[y.2]?=some y.1/\(B8 st).names.lookup y.1=some .cell) (SL:Q3n lps (cs.map (·.1)) sc)
  (dz:∀(qual:Str) (cl:List (Str×Addr)) (pm cd ct:Value) (us:List Value),us.length=lps.length->bindArgs (PySem.W.kla_fn "<lambda>" qual params body sc cl pm cd ct) ⟨us,[]⟩=pure (lps.zip us))
  (bY:∀(caps:List M0) (g c':Addr) (A:Around) (outer:List Env) (s:Shared) (H:Hp) (q:Str),caps.map (·.name)=cs.map (·.1)->C5 kl (A.deeper (PySem.W.envX q sc s.heap.objs.size g (.ref c') (Q6 caps)))->DE (cxL P w K mg base (lps++cs.map (·.1)) q sc g c' caps A outer s H) H body wb)
  (iH:∀n:Nat,defaultsOf params (envOfC qual (B8 st) n f (.ref c))=([],[]))
  (hw:∀rs Pr,rs.length=ps.length->sp rs Pr->Q4w (G7 P w K mg base (kl+1)) lps.length cs wb w1 w2 Pr (F2 N rs)):FnT P w K mg base ts (k+1) f fd ps sp:=by
 obtain⟨oc,od,kV,cS,pm,an,ct,eg,rfl,lk,ef⟩:=F.ex
 refine⟨fun vs H Q E h=>?_,fun A outer s H args us vs Q E hr e0 hb r g9=>?_⟩
 ·obtain⟨rs,Pr,hl,al,_⟩:=h
  rw [<- al.length];exact hl
 obtain⟨rs,Pr,nV,al,ok,hT,m9,ku⟩:=g9
 have hl:vs.length=ps.length:=by rw [<- al.length];exact nV
 have KX:K.In s.heap:=e0.mod.kin.keeps fun b o e=>(e0.bs b o e).1
 have jo:s.heap.NoLimit:=e0.mod.nolimit.keeps fun b o e=>(e0.bs b o e).1
 have gL:∀y∈ps.zip us,(B8 st).names.lookup y.1=some .local\/((B8 st).names.lookup y.1=some .cell/\((cellsFrom (s.heap.objs.size+1) (B8 st).names []).lookup y.1).isSome=true):=fun⟨n,v⟩ hy=>by
  rcases S.par n (dY hy).1 with q | q
  ·exact .inl q
  ·exact .inr ⟨q,PySem.W.cellsFrom_some _ _ _ (.inl q)⟩
 refine codeAny_call_function hr.depth (KX _ _ lk) rfl S.co S.gen rfl (PySem.W.codeRec_of KX ef) (hb _ _ _ _ ?_)
 refine wpAny_newFunctionEnv_cells S.kind gL fun env he s1 x1=>?_
 subst he
 refine⟨jo.keeps x1.toInCall.keep,codeAny_func ?_⟩
 have I0:A0 (V4 L3 P w K mg base N qual (B8 st) f (.ref c) A outer s H E) [] (start N vs) H s1:=Z9c S hr.hd e0 hl r x1
 have nQ:=hw (rs.map nrm) Pr (by rw [ag];exact nV) m9
 rw [Z4e]at nQ
 rw [qN]
 refine aL (W5i (X:=V4 L3 P w K mg base N qual (B8 st) f (.ref c) A outer s H E) (kl:=kl) (c:=c) (Pt:=Pt) (clos:=clos s.heap.objs.size) (I0.wish _) (Z3n al ok) rfl (h1 A outer s H E (hr.deeper _)) (h2 A outer s H E (hr.deeper _)) (hT Pt fY) hBM rfl F.hd (i8 _) (iI _) (fW _)
  (fun y hy=>⟨(fw y hy).1,(fw y hy).2,rfl⟩) SL dz bY (iH _) nQ ku) (fun fl s' ⟨u,e,q⟩=>by subst e;exact q) fun _ _ h=>False.elim h
end
end TK
end
section
namespace L2
open PySem PySem.Spec PyProof.Rows
section
variable {X:Cx}{k v:Expr}{tk tv:TE}{pos:Pos}
theorem W2o (hu:X.A.units<cLine) (hk:PE X k tk) (hv:PE X v tv):PE X (.Dict [some k] [v] pos) (fun σ H Q=>∀p,H p=none->tk σ (upd H p (.dT [])) fun x H1=>tv σ H1 fun y H2 =>
  H2 p=some (.dT [])/\∃b ks,x=.ref b/\H2 b=some (.tup (ks.map kV))/\Q (.ref p) (upd H2 p (.dT [(ks,y)]))):=by
 intro ae s σ H Q I q
 have hn:=I.hok.fresh (ah s.heap.objs.size)
 have I1:=I.laid (a:=s.heap.objs.size) (o:=.dT []) (h':=s.heap.push { cls:=.type "dict",data:=.dict #[] }) (t':=s.toks) (fun _ _ q=>aa _ q) (ah _) (Z8f s.heap I.big)
 refine wpAny_Dict_any rfl rfl (by simp) (by simp) (pairTrees_cons_walk (B2 (hk ae _ σ _ _ I1 (q _ hn)) fun u s1 ⟨x,H1,I2,rx,q1⟩=>B2 (hv ae s1 σ H1 _ I2 q1) fun w2 s2 ⟨y,H2,I3,ry,e,b,ks,ex,eb,q2⟩=>?_))
 refine pairTrees_nil_walk ?_
 subst ex
 obtain rfl:u=Value.ref b:=rx
 obtain⟨z,hd,xs,rel,dd⟩:=Z8g I3.hok e
 cases rel
 unfold storeAll
 rw [be]
 refine a9 (a9 (wpAny_dictSet_heap (hsz:=by simp) (knd:=tupleKind (J9 X.prog X.w)) hu (Q3x I3.hok eb) dd fun h' gk hs=>?_))
 refine af ?_
 show wpAny _ _ (forIn [] PUnit.unit _) _ _ _
 rw [dr]
 refine af ⟨.ref s.heap.objs.size,_,?_,rfl,q2⟩
 obtain⟨q,es,ep,hq,h2,h3,h4,_,h5⟩:=gk
 refine Q2o I3 (by rw [e];exact True.intro) hs ⟨q,hq⟩ ⟨by simp [sizeLine_eq],hd,[(ks,b,w2)],.cons ⟨rfl,?_,ry⟩ .nil,q,es,ep,hq,h2,h3,h4,h5⟩
 rw [B0 (W8 eb e (fun z=>nomatch z))]
 exact eb
end
end L2
namespace TK
open PySem PySem.Spec PyProof.Rows L2
theorem Q1w {K:Fg9}{H:Hp}:∀{d:D}{k:A7}{v:V},P7 d=some k->A1 K H d v->v=kV k
 | .int i,k,v,h,q=>by cases h;unfold A1 at q;rw [q];rfl
 | .str x,k,v,h,q=>by cases h;unfold A1 at q;rw [q];rfl
 | .non,_,_,h,_=>by cases h
 | .bl _,_,_,h,_=>by cases h
 | .tup _,_,_,h,_=>by cases h
 | .lst _,_,_,h,_=>by cases h
section
variable {X:Cx}{H0:Hp}{a b c e o tg:Expr}{pos bF p2 apos bv:Pos}{wa wb wi we:WE}{x:Str}
def Z4t (i:Nat) (we wv:WE):WS:=fun E τ=>we τ fun rk=>∃ds ks,rk=.st (.tup ds)/\O5 ds=some ks/\wv τ fun r=>∃d,r=.st d/\E.nx (τ.set i (some (.dt [(ks,d)])))
theorem DS.dnew1 {i:Nat}{v:Expr}{wv:WE} (hu:X.A.units<cLine) (he:DE X H0 e we) (hv:DE X H0 v wv) (hN:X.N.Nodup) (hi:X.N[i]?=some x) (hx:Loc X.env.scope x) (hs:swapsWith (.Dict [some e] [v] p2) (some (.Name x bF)) pos.line X.env=pure false:=by rfl)
  (hf:X.fn x=true\/X.env.scope.names.lookup x=some .local:=by first | exact .inl rfl | exact .inr rfl | assumption):DS X H0 (.Assign [.Name x bF] (.Dict [some e] [v] p2) pos) (Z4t i we wv) where
 mono:=fun τ E F le h=>he.mono τ _ _ (fun r ⟨ds,ks,a1,a2,h⟩=>⟨ds,ks,a1,a2,hv.mono τ _ _ (fun r ⟨d,b1,b2⟩=>⟨d,b1,le.nx _ b2⟩) h⟩) h
 ps:=Q0 (Q3f hN hi hx (W2o hu he.pe hv.pe) hs hf) fun D σ H ⟨τ,hR,h⟩ p hp=>by
  have sm:A4 H (upd H p (.dT [])):=D5 hp _
  have dI:=hR.mono sm
  refine⟨τ,dI,he.mono τ _ _ (fun rk ⟨ds,ks,a1,a2,h⟩ y H1 s1 ik=>?_) h⟩
  subst a1
  have dA:=dI.mono s1
  refine⟨τ,dA,hv.mono τ _ _ (fun r ⟨d,b1,b2⟩ u H2 s2 iv=>?_) h⟩
  subst b1
  have ik:A1 X.K H1 (.tup ds) y:=ik
  unfold A1 at ik
  obtain⟨b,xs,rfl,sb,al⟩:=ik
  rw [Q2v a2 al]at sb
  have ep:=s2 _ _ (s1 _ _ (upd_same (H:=H) (a:=p) (o:=.dT [])))
  refine⟨ep,b,ks,rfl,s2 _ _ sb,?_⟩
  have kp:Kp H2 (upd H2 p (.dT [(ks,u)])):=Kp.updM ep (by intro xs z;cases z) (by intro o u z;cases z) _
  have gS:=dA.mono s2
  have h0:H0 p=none:=hR.same.free hp
  have jR:∀(j:Nat) (t:Sl),τ[j]?=some (some t)->t.mut=true->σ[j]?≠some (some (.ref p)):=fun j t e m q=>by
   obtain⟨o,ho⟩:=hR.tracked e m q
   rw [hp]at ho;cases ho
  have j6:B5 X.K H0 τ σ (upd H2 p (.dT [(ks,u)])):=by
   refine⟨gS.len,fun b o q=>?_,fun j t e=>?_,gS.apart⟩
   ·rw [B0 (fun z=>by rw [z,h0]at q;cases q)];exact gS.same _ _ q
   ·obtain⟨v,q,r⟩:=gS.here j t e
    refine⟨v,q,?_⟩
    have ap:t.mut=true->v≠.ref p:=fun mm z=>jR j t e mm (by rw [q,z])
    cases t with
    | dat d=>exact A1.mono kp _ _ r
    | own es=>obtain⟨b,ys,e,n,q,t⟩:=r;exact⟨b,ys,e,n,by rw [B0 (fun z=>ap rfl (by rw [e,z]))];exact q,t.mono kp _ _⟩
    | bor es=>obtain⟨b,ys,e,q,t⟩:=r;exact⟨b,ys,e,q,t.mono kp _ _⟩
    | bd es=>obtain⟨b,ys,e,q,t⟩:=r;exact⟨b,ys,e,q,t.mono kp _ _⟩
    | dk es=>obtain⟨b,ys,e,n,q,t⟩:=r;exact⟨b,ys,e,n,by rw [B0 (fun z=>ap rfl (by rw [e,z]))];exact q,t.mono kp _ _⟩
    | dt es=>obtain⟨b,ys,e,n,q,t⟩:=r;exact⟨b,ys,e,n,by rw [B0 (fun z=>ap rfl (by rw [e,z]))];exact q,t.mono kp _ _⟩
    | ob _=>exact r
    | cl _ _=>exact⟨r.1,r.2.2 _ _ kp r.2.1,r.2.2⟩
    | ll _ _=>exact⟨r.1,r.2.keep kp fun b φ q=>by rw [B0 (W8 q ep (by intro z;cases z))];exact q⟩
    | ins _ _ _=>obtain⟨e,n,dx,ys,q,t⟩:=r;exact⟨e,n,dx,ys,by rw [B0 (fun z=>ap rfl (by rw [e,z]))];exact q,t.mono kp _ _⟩
  have lV:Kp H (upd H2 p (.dT [(ks,u)])):=(Kp.of ((sm.trans s1).trans s2)).trans kp
  refine b2 _ _ lV (j6.set (s:=.dt [(ks,d)]) ⟨p,[(ks,u)],rfl,h0,upd_same,⟨u,[],rfl,A1.mono kp _ _ iv,rfl⟩⟩ fun _ j t hj e m q=>jR j t e m q)
@[simp] theorem W5t {i:Nat}{wv:WE}{E:F3} {τ:A8}:Z4t i we wv E τ=we τ fun rk=>∃ds ks,rk=.st (.tup ds)/\O5 ds=some ks/\wv τ fun r=>∃d,r=.st d/\E.nx (τ.set i (some (.dt [(ks,d)]))):=rfl
theorem B5.dkAt {K:Fg9}{H:Hp} {τ:A8} {σ:St}{i:Nat}{kvs:List (A7×D)} (hR:B5 K H0 τ σ H) (e1:τ[i]?=some (some (.dk kvs))):∃a ps,σ[i]?=some (some (.ref a))/\H0 a=none/\H a=some (.dK ps)/\B4 K H kvs ps:=by
 obtain⟨v,hv,a,xs,rfl,h0,sq,al⟩:=hR.here i _ e1
 exact⟨a,xs,hv,h0,sq,al⟩
def Q4r (i:Nat) (we:WE):WE:=fun τ Q=>∃kvs,τ[i]?=some (some (.dk kvs))/\we τ fun r=>∃kd k d,r=.st kd/\P7 kd=some k/\C7 kvs k=some d/\Q (.st d)
theorem DE.kget {i:Nat} (hu:X.A.units+1<cLine) (ho:PE X o (O2 i)) (he:DE X H0 e we) (hs:Q2k e):DE X H0 (.Subscript o e pos) (Q4r i we) where
 mono:=fun τ P Q f ⟨kvs,e1,h⟩=>⟨kvs,e1,he.mono τ _ _ (fun r ⟨ds,ks,d,a1,a2,a3,a4⟩=>⟨ds,ks,d,a1,a2,a3,f _ a4⟩) h⟩
 pe:=N9 (Q6h hu ho he.pe hs) fun σ H Q ⟨τ,hR,kvs,e1,h⟩=>by
  obtain⟨a,ps,hv,h0,sq,kv⟩:=hR.dkAt e1
  refine⟨_,hv,τ,hR,he.mono τ _ _ (fun r ⟨kd,k,d,a1,a2,a3,a4⟩ v H1 s1 ir=>?_) h⟩
  subst a1
  cases Q1w a2 (show A1 X.K H1 kd v from ir)
  rcases B4.val (k:=k) (kv.mono (Kp.of s1) _ _)with⟨n1,_⟩ | ⟨d',v',n1,n2,n3⟩
  ·rw [a3]at n1;cases n1
  ·rw [a3]at n1;cases n1
   refine⟨a,v',rfl,?_,a4 _ _ s1 n3⟩
   have g:=U2.k (k:=k) (s1 _ _ sq)
   rw [n2]at g
   exact g
def Q4s (i:Nat) (we:WE):WT:=fun τ Q=>∃kvs,τ[i]?=some (some (.dk kvs))/\we τ fun r=>∃kd k,r=.st kd/\P7 kd=some k/\Q (!(C7 kvs k).isSome)
theorem DT.knotin {i:Nat} (hu:X.A.units+1<cLine) (he:DE X H0 e we) (ho:PE X o (O2 i)) (h1:behindInMarks .NotIn o=false:=by rfl):DT X H0 (.Compare e [.NotIn] [o] pos) (Q4s i we) where
 mono:=fun τ P Q f ⟨kvs,e1,h⟩=>⟨kvs,e1,he.mono τ _ _ (fun r ⟨ds,ks,a1,a2,a4⟩=>⟨ds,ks,a1,a2,f _ a4⟩) h⟩
 pt:=ptW (Y1s (Y1f hu he.pe ho) h1) fun σ H Q ⟨τ,hR,kvs,e1,h⟩=>by
  refine⟨τ,hR,he.mono τ _ _ (fun r ⟨kd,k,a1,a2,a4⟩ v H1 s1 ir=>?_) h⟩
  obtain⟨a,ps,hv,h0,sq,kv⟩:=(hR.mono s1).dkAt e1
  subst a1
  cases Q1w a2 (show A1 X.K H1 kd v from ir)
  refine⟨_,hv,a,_,rfl,U2.k (k:=k) sq,?_⟩
  have e:(R0 ps k).isSome=(C7 kvs k).isSome:=by
   rcases B4.val (k:=k) kv with⟨n1,n2⟩ | ⟨d',v',n1,n2,n3⟩ <;> rw [n1,n2] <;> rfl
  rw [e]
  exact⟨_,rfl,a4 _ s1⟩
def Q4t (i:Nat) (we wv:WE):WS:=fun E τ=>wv τ fun r=>∃d,r=.st d/\∃kvs,τ[i]?=some (some (.dk kvs))/\we τ fun rk=>∃kd k,rk=.st kd/\P7 kd=some k/\kvs.length<sizeLine/\E.nx (τ.set i (some (.dk (K9 kvs k d))))
theorem DS.kput {i:Nat}{v:Expr}{wv:WE} (hu:X.A.units+1<cLine) (ho:PE X o (O2 i)) (he:DE X H0 e we) (hv:DE X H0 v wv) (hs:swapsWith v (some (.Subscript o e bF)) pos.line X.env=pure false:=by rfl) :
  DS X H0 (.Assign [.Subscript o e bF] v pos) (Q4t i we wv) where
 mono:=fun τ E F le h=>hv.mono τ _ _ (fun r ⟨d,e1,kvs,e2,h⟩=>⟨d,e1,kvs,e2,he.mono τ _ _ (fun r ⟨ds,ks,a1,a2,a3,a4⟩=>⟨ds,ks,a1,a2,a3,le.nx _ a4⟩) h⟩) h
 ps:=Q0 (Y1p hu ho he.pe hv.pe hs) fun D σ H ⟨τ,hR,h⟩=>by
  refine⟨τ,hR,hv.mono τ _ _ (fun r ⟨d,e1,kvs,e2,h⟩ u H1 s1 ir=>?_) h⟩
  subst e1
  have dI:=hR.mono s1
  obtain⟨a,ps,gH,h0,sq,kv⟩:=dI.dkAt e2
  refine⟨_,gH,τ,dI,he.mono τ _ _ (fun rk ⟨kd,k,a1,a2,a3,a4⟩ y H2 s2 ik=>?_) h⟩
  subst a1
  cases Q1w a2 (show A1 X.K H2 kd y from ik)
  have cW:=s2 _ _ sq
  have i0:=kv.mono (Kp.of s2) _ _
  refine⟨a,_,rfl,Q1l.k cW (by rw [<- B4.length i0];exact a3),?_⟩
  have kp:Kp H2 (upd H2 a (.dK (O0 ps k u))):=Kp.updM cW (by intro xs z;cases z) (by intro o u z;cases z) _
  have iv:A1 X.K H2 d u:=A1.mono (Kp.of s2) _ _ ir
  refine a4 σ _ ((Kp.of (s1.trans s2)).trans kp) ((dI.mono s2).mutG e2 rfl gH h0 cW (by intro xs z;cases z) (by intro o u z;cases z) ⟨a,_,rfl,h0,upd_same,?_⟩)
  exact B4.mono kp _ _ (B4.put iv i0)
@[simp] theorem Y2n {i:Nat} {τ:A8}{Q:R->Prop}:Q4r i we τ Q=∃kvs,τ[i]?=some (some (.dk kvs))/\we τ fun r=>∃kd k d,r=.st kd/\P7 kd=some k/\C7 kvs k=some d/\Q (.st d):=rfl
@[simp] theorem Y2o {i:Nat} {τ:A8}{Q:Bool->Prop}:Q4s i we τ Q=∃kvs,τ[i]?=some (some (.dk kvs))/\we τ fun r=>∃kd k,r=.st kd/\P7 kd=some k/\Q (!(C7 kvs k).isSome):=rfl
@[simp] theorem Y2p {i:Nat}{wv:WE}{E:F3} {τ:A8}:Q4t i we wv E τ=wv τ fun r=>∃d,r=.st d/\∃kvs,τ[i]?=some (some (.dk kvs))/\we τ fun rk=>∃kd k,rk=.st kd/\P7 kd=some k/\kvs.length<sizeLine/\E.nx (τ.set i (some (.dk (K9 kvs k d)))):=rfl
end
end TK
end
section
namespace TK
open PySem PySem.Spec PyProof.Rows L2
noncomputable instance decD:DecidableEq D:=fun a b=>Classical.propDecidable (a=b)
noncomputable def R4 {α β:Type} (p:α->β->Prop):List α->List β->Prop
 | [],vs=>vs=[]
 | k::ks,vs=>∃v r,vs=v::r/\p k v/\R4 p ks r
theorem R4.len {α β:Type}{p:α->β->Prop}:∀{ks:List α}{vs:List β},R4 p ks vs->ks.length=vs.length
 | [],vs,h=>by rw [show vs=[]from h];rfl
 | k::ks,vs,h=>by obtain⟨v,r,rfl,_,t⟩:=h;rw [az,az,t.len]
theorem R4.imp {α β:Type}{p q:α->β->Prop} (f:∀a b,p a b->q a b):∀{ks:List α}{vs:List β},R4 p ks vs->R4 q ks vs
 | [],vs,h=>h
 | k::ks,vs,h=>by obtain⟨v,r,rfl,i,t⟩:=h;exact⟨v,r,rfl,f _ _ i,t.imp f⟩
theorem R4.at {α β:Type}{p:α->β->Prop}:∀{ks:List α}{vs:List β}{j:Nat}{k:α}{v:β},R4 p ks vs->ks[j]?=some k->vs[j]?=some v->p k v
 | [],vs,j,k,v,h,e,_=>by simp at e
 | k::ks,vs,0,k',v',h,e,e'=>by
  obtain⟨v,r,rfl,i,t⟩:=h
  simp at e e';subst e e';exact i
 | k::ks,vs,j+1,k',v',h,e,e'=>by
  obtain⟨v,r,rfl,i,t⟩:=h
  exact t.at (by simpa using e) (by simpa using e')
noncomputable def G3 (h:Heap):Nat->D->Value->Prop
 | _,.non,v=>v=.none
 | _,.int i,v=>∃t,v=.int i t
 | _,.str x,v=>∃t,v=.str x t
 | n+1,.tup ks,v=>∃a items,v=.ref a/\h.IsTuple a items/\R4 (G3 h n) ks items.toList
 | _,_,_=>False
noncomputable def W7 (w:World):Nat->D->Int
 | _,.non=>reduceHash 0xFCA86420
 | _,.int i=>hashInt i
 | _,.str x=>hashStr w x
 | n+1,.tup ks=>reduceHash (Builtin.Tuple.tupleHashOf (ks.map (W7 w n)))
 | _,_=>0
noncomputable def U0:Nat->D->Nat
 | n+1,.tup ks=>(ks.map (U0 n)).sum+1
 | _,_=>1
theorem Y8u {h:Heap}{a:Addr}{i j:Array Value} (x:h.IsTuple a i) (y:h.IsTuple a j):i=j:=by
 obtain⟨o,e,_,n,d⟩:=x
 obtain⟨o',e',_,n',d'⟩:=y
 rw [e]at e';cases e'
 rw [d]at d';cases d';rfl
theorem Y5h {α β:Type}{p q:α->β->Prop} (f:∀x y v,p x v->q y v->x=y):∀{xs ys:List α}{vs:List β},R4 p xs vs->R4 q ys vs->xs=ys
 | [],[],_,_,_=>rfl
 | [],y::ys,vs,h1,h2=>by obtain⟨_,_,e,_⟩:=h2;rw [show vs=[]from h1]at e;cases e
 | x::xs,[],vs,h1,h2=>by obtain⟨_,_,e,_⟩:=h1;rw [show vs=[]from h2]at e;cases e
 | x::xs,y::ys,vs,h1,h2=>by
  obtain⟨v,r,rfl,i1,t1⟩:=h1
  obtain⟨v',r',e,i2,t2⟩:=h2
  cases e
  rw [f _ _ _ i1 i2,Y5h f t1 t2]
theorem G3.shape {h:Heap}:∀{n:Nat}{x:D}{v:Value},G3 h n x v->(x=.non/\v=.none)\/(∃i t,x=.int i/\v=.int i t)\/(∃i t,x=.str i/\v=.str i t)\/∃m ks a items,n=m+1/\x=.tup ks/\v=.ref a/\h.IsTuple a items/\R4 (G3 h m) ks items.toList
 | n,.non,v,q=>.inl ⟨rfl,by cases n <;> exact q⟩
 | n,.int i,v,q=>by
  obtain⟨t,e⟩:∃t,v=.int i t:=by cases n <;> exact q
  exact .inr (.inl ⟨i,t,rfl,e⟩)
 | n,.str i,v,q=>by
  obtain⟨t,e⟩:∃t,v=.str i t:=by cases n <;> exact q
  exact .inr (.inr (.inl ⟨i,t,rfl,e⟩))
 | 0,.tup ks,v,q=>q.elim
 | m+1,.tup ks,v,q=>by
  obtain⟨a,items,e,t,z⟩:=q
  exact .inr (.inr (.inr ⟨m,ks,a,items,rfl,rfl,e,t,z⟩))
 | n,.bl b,v,q=>by cases n <;> exact q.elim
 | n,.lst b,v,q=>by cases n <;> exact q.elim
theorem G3.one {h:Heap}:∀(n m:Nat) (x y:D) (v:Value),G3 h n x v->G3 h m y v->x=y:=by
 intro n
 induction n with
 | zero =>
  intro m x y v h1 h2
  rcases h1.shape with⟨rfl,rfl⟩ | ⟨i,t,rfl,rfl⟩ | ⟨i,t,rfl,rfl⟩ | ⟨m1,ks,a,items,e0,rfl,rfl,t,z⟩ <;>
   rcases h2.shape with⟨rfl,e⟩ | ⟨j,u,rfl,e⟩ | ⟨j,u,rfl,e⟩ | ⟨m2,lU,a2,fD,_,rfl,e,t2,z2⟩ <;> first | rfl | (cases e;rfl) | (cases e;done) | omega
 | succ n ih =>
  intro m x y v h1 h2
  rcases h1.shape with⟨rfl,rfl⟩ | ⟨i,t,rfl,rfl⟩ | ⟨i,t,rfl,rfl⟩ | ⟨m1,ks,a,items,e0,rfl,rfl,t,z⟩ <;>
   rcases h2.shape with⟨rfl,e⟩ | ⟨j,u,rfl,e⟩ | ⟨j,u,rfl,e⟩ | ⟨m2,lU,a2,fD,_,rfl,e,t2,z2⟩ <;> first | rfl | (cases e;rfl) | (cases e;done) | skip
  cases e;cases e0;cases Y8u t t2
  rw [Y5h (fun x y v=>ih m2 x y v) z z2]
theorem G3.stays {h h':Heap} (k:∀a items,h.IsTuple a items->h'.IsTuple a items):∀(n:Nat) (x:D) (v:Value),G3 h n x v->G3 h' n x v:=by
 intro n
 induction n with
 | zero=>intro x v q;cases x <;> exact q
 | succ n ih =>
  intro x v q
  cases x with
  | tup ks =>
   unfold G3 at q ⊢
   obtain⟨a,it,e,t,z⟩:=q
   exact⟨a,it,e,k _ _ t,z.imp ih⟩
  | _=>exact q
section
variable {E:VS9}{prog:Program}{w:World}
theorem Z9j {n:Nat} (ih:∀(k:D) (v:Value) (A:Around) (s:Shared) (Q:Int->Shared->Prop),A.units+n<cLine->G3 s.heap n k v->Q (W7 w n k) { s with toks:=s.toks+U0 n k }->wpAny (model prog w) A (pyHash v) Q E s) :
  ∀(ks:List D) (vs:List Value) (A:Around) (s:Shared) (b:Array Int) (Q:Array Int->Shared->Prop),A.units+n<cLine->R4 (G3 s.heap n) ks vs ->
   Q (b++(ks.map (W7 w n)).toArray) { s with toks:=s.toks+(ks.map (U0 n)).sum }->wpAny (model prog w) A (forIn vs b fun x r=>do let h <- pyHash x;pure PUnit.unit;pure (ForInStep.yield (r.push h))) Q E s
 | [],vs,A,s,b,Q,_,z,q=>by
  rw [show vs=[]from z]
  exact af (by simpa using q)
 | k::ks,vs,A,s,b,Q,hu,z,q=>by
  obtain⟨v,r,rfl,i,t⟩:=z
  rw [be]
  refine a9 (a9 (ih k v A s _ hu i ?_))
  refine a9 (af (af ?z))
  refine Z9j ih ks r A { s with toks:=s.toks+U0 n k } _ Q hu t ?_
  have e:(b.push (W7 w n k))++(ks.map (W7 w n)).toArray=b++((k::ks).map (W7 w n)).toArray:=by simp
  have e2:s.toks+U0 n k+(ks.map (U0 n)).sum=s.toks+((k::ks).map (U0 n)).sum:=by simp [Nat.add_assoc]
  rw [e]
  show Q _ { s with toks:=s.toks+U0 n k+(ks.map (U0 n)).sum }
  rw [e2];exact q
theorem Y8z:∀(n:Nat) (k:D) (v:Value) (A:Around) (s:Shared) (Q:Int->Shared->Prop),A.units+n<cLine->G3 s.heap n k v->Q (W7 w n k) { s with toks:=s.toks+U0 n k }->wpAny (model prog w) A (pyHash v) Q E s:=by
 have flat:∀(n:Nat) (k:D) (v:Value) (A:Around) (s:Shared) (Q:Int->Shared->Prop),(∀ks,k≠.tup ks)->G3 s.heap n k v->Q (W7 w n k) { s with toks:=s.toks+U0 n k }->wpAny (model prog w) A (pyHash v) Q E s:=by
  intro n k v A s Q nt i q
  cases k with
  | tup ks=>exact absurd rfl (nt ks)
  | bl b=>cases n <;> exact i.elim
  | lst b=>cases n <;> exact i.elim
  | non =>
   have e:v=.none:=by cases n <;> exact i
   subst e
   have e1:W7 w n .non=reduceHash 0xFCA86420:=by cases n <;> rfl
   have e2:U0 n .non=1:=by cases n <;> rfl
   rw [e1,e2]at q
   exact PySem.W.pyHash_slot (T:="NoneType") rfl F.slot_NoneType_hash F.entry_NoneType_hash (F.args_NoneType_hash_1 _) (beq_builtin_none _) (.inl rfl) (a9 (af (a9 (wpAny_mkInt (af ⟨_,_,rfl,q⟩)))))
  | int j =>
   obtain⟨t,rfl⟩:∃t,v=.int j t:=by cases n <;> exact i
   have e1:W7 w n (.int j)=hashInt j:=by cases n <;> rfl
   have e2:U0 n (.int j)=1:=by cases n <;> rfl
   rw [e1,e2]at q
   exact wpAny_pyHash_int q
  | str j =>
   obtain⟨t,rfl⟩:∃t,v=.str j t:=by cases n <;> exact i
   have e1:W7 w n (.str j)=hashStr w j:=by cases n <;> rfl
   have e2:U0 n (.str j)=1:=by cases n <;> rfl
   rw [e1,e2]at q
   exact wpAny_pyHash_str q
 intro n
 induction n with
 | zero =>
  intro k v A s Q hu i q
  cases k with
  | tup ks=>exact i.elim
  | _=>exact flat 0 _ v A s Q (by intro ks e;cases e) i q
 | succ n ih =>
  intro k v A s Q hu i q
  cases k with
  | tup ks =>
   obtain⟨a,items,rfl,t,z⟩:=i
   obtain⟨o,e,c,m,d⟩:=id t
   refine PySem.W.pyHash_slot (T:="tuple") ⟨o,e,c⟩ F.slot_tuple_hash F.entry_tuple_hash (F.args_tuple_hash_1 _) (beq_builtin_none _) (.inr (by omega)) ?_
   change wpAny (model prog w) A.in1 (Builtin.Tuple.tupleItemsOf (Value.ref a)>>=_) _ _ s
   refine a9 (wpAny_tupleItemsOf e d (a9 ?_))
   rw [<- cU]
   refine Z9j ih ks items.toList A.in1 s #[] _ (by simp only [bP];omega) z ?_
   refine a9 (wpAny_mkInt (af ⟨_,_,rfl,?_⟩))
   have q2:Q (reduceHash (Builtin.Tuple.tupleHashOf (ks.map (W7 w n)))) { s with toks:=s.toks+(ks.map (U0 n)).sum+1 }:=q
   simpa using q2
  | _=>exact flat (n+1) _ v A s Q (by intro ks e;cases e) i q
theorem Y8a {A:Around}{s:Shared}{a b:Addr}{x y:Array Value}{xs ys:List D}{n m:Nat} (hu:A.units<cLine) (ta:s.heap.IsTuple a x) (tb:s.heap.IsTuple b y) (za:R4 (G3 s.heap n) xs x.toList) (zb:R4 (G3 s.heap m) ys y.toList)
  (he:∀(k l:D) (u v:Value),G3 s.heap n k u->G3 s.heap m l v->SeqAt.EqAt A.in1 s u v (decide (k=l))):SeqAt.RcAt A s (.ref a) (.ref b) (decide (D.tup xs=D.tup ys)):=by
 have lx:xs.length=x.size:=by rw [za.len];simp
 have ly:ys.length=y.size:=by rw [zb.len];simp
 have r:=SeqAt.RcAt.tuples (e:=fun j=>decide (xs[j]?=ys[j]?)) ta tb hu fun j h1 h2=>by
  have e1:xs[j]?=some xs[j]:=ac (by omega)
  have e2:ys[j]?=some ys[j]:=ac (by omega)
  have q:=he xs[j] ys[j] x[j] y[j] (za.at e1 (by simp [h1])) (zb.at e2 (by simp [h2]))
  have:decide (xs[j]?=ys[j]?)=decide (xs[j]=ys[j]):=by rw [e1,e2];by_cases z:xs[j]=ys[j] <;> simp [z]
  show SeqAt.EqAt A.in1 s x[j] y[j] (decide (xs[j]?=ys[j]?))
  rw [this];exact q
 have e:((List.range (min x.size y.size)).all (fun j=>decide (xs[j]?=ys[j]?))&&x.size==y.size)=decide (D.tup xs=D.tup ys):=by
  rw [Bool.eq_iff_iff]
  simp only [cg,bX,bz,fJ,beq_iff_eq,D.tup.injEq]
  constructor
  ·rintro ⟨h1,h2⟩
   refine List.ext_getElem? fun j=>?_
   by_cases hj:j<x.size
   ·exact h1 j (by omega)
   ·rw [cr (by omega),cr (by omega)]
  ·rintro rfl
   exact⟨fun _ _=>rfl,by omega⟩
 rw [e]at r;exact r
theorem k_eq {s:Shared}:∀(n m:Nat) (x y:D) (u v:Value) (A:Around),A.units+n<cLine->G3 s.heap n x u->G3 s.heap m y v->SeqAt.EqAt A s u v (decide (x=y)):=by
 have flat:∀(n m:Nat) (x y:D) (u v:Value) (A:Around),A.units+n<cLine->G3 s.heap n x u->G3 s.heap m y v ->
   (∀n' xs ys a b i j m',n=n'+1->s.heap.IsTuple a i->s.heap.IsTuple b j->R4 (G3 s.heap n') xs i.toList->R4 (G3 s.heap m') ys j.toList->a≠b->SeqAt.EqAt A s (.ref a) (.ref b) (decide (D.tup xs=D.tup ys)))->SeqAt.EqAt A s u v (decide (x=y)):=by
  intro n m x y u v A hu h1 h2 tt
  have jO:A.units<cLine:=by omega
  rcases h1.shape with⟨rfl,rfl⟩ | ⟨i,t,rfl,rfl⟩ | ⟨i,t,rfl,rfl⟩ | ⟨m1,ks,a,items,e0,rfl,rfl,t,z⟩ <;>
   rcases h2.shape with⟨rfl,rfl⟩ | ⟨j,u,rfl,rfl⟩ | ⟨j,u,rfl,rfl⟩ | ⟨m2,lU,a2,fD,_,rfl,rfl,t2,z2⟩
  ·rw [dm rfl];exact SeqAt.EqAt.same _
  ·rw [aM (by intro e;cases e)];exact SeqAt.EqAt.none_int _ _
  ·rw [aM (by intro e;cases e)];exact SeqAt.EqAt.none_str _ _
  ·rw [aM (by intro e;cases e)];exact SeqAt.EqAt.none_tuple t2 jO
  ·rw [aM (by intro e;cases e)];exact SeqAt.EqAt.int_none _ _
  ·have e:decide (D.int i=D.int j)=(i==j):=by by_cases z:i=j <;> simp [z]
   rw [e];exact SeqAt.EqAt.int_int _ _ _ _
  ·rw [aM (by intro e;cases e)];exact SeqAt.EqAt.int_str _ _ _ _
  ·rw [aM (by intro e;cases e)];exact SeqAt.EqAt.int_tuple _ _ t2 jO
  ·rw [aM (by intro e;cases e)];exact SeqAt.EqAt.str_none _ _
  ·rw [aM (by intro e;cases e)];exact SeqAt.EqAt.str_int _ _ _ _
  ·have e:decide (D.str i=D.str j)=(i==j):=by by_cases z:i=j <;> simp [z]
   rw [e];exact SeqAt.EqAt.str_str _ _ _ _
  ·rw [aM (by intro e;cases e)];exact SeqAt.EqAt.str_tuple _ _ t2 jO
  ·rw [aM (by intro e;cases e)];exact SeqAt.EqAt.tuple_none t jO
  ·rw [aM (by intro e;cases e)];exact SeqAt.EqAt.tuple_int _ _ t jO
  ·rw [aM (by intro e;cases e)];exact SeqAt.EqAt.tuple_str _ _ t jO
  ·by_cases ab:a=a2
   ·subst ab
    have e:=G3.one _ _ _ _ _ h1 h2
    rw [dm e];exact SeqAt.EqAt.same _
   ·exact tt m1 ks lU a a2 items fD m2 e0 t t2 z z2 ab
 intro n
 induction n with
 | zero=>exact fun m x y u v A hu h1 h2=>flat 0 m x y u v A hu h1 h2 fun n' _ _ _ _ _ _ _ e=>by omega
 | succ n ih =>
  exact fun m x y u v A hu h1 h2=>flat (n+1) m x y u v A hu h1 h2 fun n' xs ys a b i j m' e ta tb za zb ab=>by
   cases e
   exact SeqAt.EqAt.of_refs ab (Y8a (by omega) ta tb za zb fun k l u v h1 h2=>ih m' k l u v A.in1 (by simp only [bP];omega) h1 h2)
theorem Y9a {A:Around}{s:Shared}:∀(n f:Nat) (x:D) (v:Value) (Q:Bool->Shared->Prop),n<=f->G3 s.heap n x v->Q true s->wpAny (model prog w) A (eqIsQuiet f v) Q E s:=by
 intro n
 induction n with
 | zero =>
  intro f x v Q hf h q
  rcases h.shape with⟨rfl,rfl⟩ | ⟨i,t,rfl,rfl⟩ | ⟨i,t,rfl,rfl⟩ | ⟨m1,ks,a,items,e0,rfl,rfl,t,z⟩
  ·rw [eR f rfl];exact af q
  ·rw [eR f rfl];exact af q
  ·rw [eR f rfl];exact af q
  ·omega
 | succ n ih =>
  intro f x v Q hf h q
  rcases h.shape with⟨rfl,rfl⟩ | ⟨i,t,rfl,rfl⟩ | ⟨i,t,rfl,rfl⟩ | ⟨m1,ks,a,items,e0,rfl,rfl,t,z⟩
  ·rw [eR f rfl];exact af q
  ·rw [eR f rfl];exact af q
  ·rw [eR f rfl];exact af q
  ·cases e0
   obtain⟨o,e,c,m,d⟩:=id t
   have hT:s.TypeIs (.ref a) "tuple":=⟨o,e,c⟩
   cases f with
   | zero=>omega
   | succ f =>
    unfold eqIsQuiet
    refine a9 (wpAny_specialOf hT F.slot_tuple_eq.lookup (?_:wpAny (model prog w) A (isInstance (Value.ref a) (.type "tuple")>>=_) _ _ s))
    refine a9 (wpAny_isInstance hT isSubtype_tuple_tuple (s:=s) ?_)
    rw [aD (by decide)]
    refine a9 (bg e d (a9 ?_))
    change wpAny (model prog w) A (forIn items _ _) _ _ s
    rw [<- cU]
    have loop:∀(ks:List D) (vs:List Value),R4 (G3 s.heap n) ks vs->wpAny (model prog w) A (forIn vs (none,PUnit.unit) fun y (sh:Option Bool×PUnit)=>(do
      if (!(<- eqIsQuiet f y))=true then pure (ForInStep.done (some false,PUnit.unit))else pure (ForInStep.yield (none,PUnit.unit)))) (fun r s'=>s'=s/\r=(none,PUnit.unit)) E s:=by
     intro ks
     induction ks with
     | nil=>intro vs z;rw [show vs=[]from z];exact af ⟨rfl,rfl⟩
     | cons k ks ihk =>
      intro vs z
      obtain⟨v,r,rfl,i,z⟩:=z
      rw [be]
      refine a9 (a9 (ih f k v _ (by omega) i ?_))
      rw [aD (by decide)]
      exact af (ihk r z)
    refine aL (loop ks items.toList z) (fun r s' ⟨e1,e2⟩=>?_) fun _ _ z=>z
    subst e1 e2
    exact af q
end
noncomputable def Z1s (prog:Program) (w:World):HeapKind prog w D where
 is:=fun h k a=>G3 h 8 k (.ref a)
 hash:=W7 w 8
 draws:=U0 8
 room:=fun A=>A.units+8<cLine
 inj:=fun h1 h2=>G3.one _ _ _ _ _ h1 h2
 keeps:=fun h1 ho hd hs=>G3.stays (fun b it t=>by
  obtain⟨o',e,c,m,d⟩:=t
  refine⟨o',(hs.2 b fun z=>?_).trans e,c,m,d⟩
  subst z
  rw [ho]at e;cases e
  rw [hd]at d;cases d) _ _ _ h1
 pyHash:=fun hu hk h=>Y8z 8 _ _ _ _ _ hu hk h
 eqBool:=fun hu hx hy h=>k_eq 8 8 _ _ _ _ _ hu hx hy _ _ _ _ h
 quiet:=fun hk h=>Y9a 8 8 _ _ _ (ah _) hk h
section
variable {κ:Type} [DecidableEq κ] {P:Program}{w:World}{knd:HeapKind P w κ}{A:Around}{E:VS9}{s:Shared}{d a:Addr}{xs:List (κ×Addr×Value)}{k:κ}
theorem W6w {y:Value}{Q:VS9} (hu:knd.room A) (hk:knd.is s.heap k a) (D:s.heap.DictOfH knd d xs) (z:xs.length<=sizeLine)
  (h1:∀(j:Nat) (p:Addr×Value),xs[j]?=some (k,p)->Q p.2 { s with toks:=s.toks+knd.draws k })
  (h2:k∉xs.map (·.1)->∀h',h'.DictOfH knd d (xs++[(k,a,y)])->Heap.SameBut d s.heap h'->Q y { s with heap:=h',toks:=s.toks+knd.draws k }):wpAny (model P w) A (dictSetDefault d (.ref a) y) Q E s:=by
 obtain⟨o,es,ep,ho,hc,hd,he,mE,hn⟩:=D
 have hz:es.size<=sizeLine:=by rw [size_of_entries he];exact z
 unfold dictSetDefault
 refine bu (a9 (knd.pyHash hu hk (a9 (wpAny_dictFind_heap (s:={ s with toks:=s.toks+knd.draws k }) hu hk ho hd he mE hn (fun no=>?_) fun j p hj=>?_))))
 ·have nk:=not_mem_keys_of_get no
  refine a9 (dU (a9 (wpAny_updateDictKeys (s:={ s with toks:=s.toks+knd.draws k }) ho hd (af (h2 nk _ ?_ (bB ..))) (hz:=hz))))
  refine⟨_,_,ep+1,fK _ ho (Obj.isFreed_of_dict (Obj.data_mapDictKeys hd _)),hc.mapDictKeys _,Obj.data_mapDictKeys hd _,by simp [he,entryOfKey],fun x hx=>?_,?_⟩
  ·rcases aU.mp hx with q | q
   ·exact knd.keeps (mE x q) ho hd (bB ..)
   ·rw [aQ.mp q];exact knd.keeps hk ho hd (bB ..)
  ·rw [bj,bG (l₁:=xs.map (·.1))]
   refine⟨hn,by simp,fun b hb c fW e=>?_⟩
   rw [show c=k by simpa using fW]at e
   exact nk (e ▸ hb)
 ·refine a9 (wpAny_dictEntries (s:={ s with toks:=s.toks+knd.draws k }) ho hd ?_)
  rw [entry_at he j,hj]
  exact a9 (dU (af (h1 j p hj)))
theorem Y7b {y:Value}{Q:VS9} (hu:knd.room A.in1) (hs:(d==sysModules)=false) (hk:knd.is s.heap k a) (D:s.heap.DictOfH knd d xs) (z:xs.length<=sizeLine)
  (h1:∀(j:Nat) (p:Addr×Value),xs[j]?=some (k,p)->Q p.2 { s with toks:=s.toks+knd.draws k })
  (h2:k∉xs.map (·.1)->∀h',h'.DictOfH knd d (xs++[(k,a,y)])->Heap.SameBut d s.heap h'->Q y { s with heap:=h',toks:=s.toks+knd.draws k }):wpAny (model P w) A (call (.builtin "dict.setdefault") [.ref d,.ref a,y]) Q E s:=by
 refine bc dX D.typeIs PySem.F.entry_dict_setdefault ?_ (PySem.F.args_dict_setdefault_3 _ _ _)
 unfold Builtin.«dict.setdefault» Builtin.Dict.keyAndDefault
 refine a9 (a9 (wpAny_notOrdered_dict D.typeIs ?_))
 change wpAny (model P w) A.in1 (pure (d,Value.ref a,some y)) _ _ s
 refine af (?_:wpAny (model P w) A.in1 (if (d==sysModules)=true then _ else(dictSetDefault d (.ref a) y>>=fun r=>ret r)) _ _ s)
 rw [aD (by rw [hs];decide)]
 exact a9 (W6w hu hk D z (fun j p hj=>af ⟨_,rfl,h1 j p hj⟩) fun n h' D' sb=>af ⟨_,rfl,h2 n h' D' sb⟩)
theorem Y6u {Q:VS9} (hs:(d==sysModules)=false) (D:s.heap.DictOfH knd d xs) (z:xs.length<=sizeLine) (h:∀t t',Q (.int xs.length t) { s with toks:=t' }):wpAny (model P w) A (call (.builtin "len") [.ref d]) Q E s:=by
 have se:((xs.length:Nat):Int)<2 ^ 63:=by rw [sizeLine_eq]at z;omega
 refine Calls.call_function_entry kind_len plain_len entry_len (args_len1 (Value.ref d)) ?_
 unfold Builtin.«len»
 refine a9 (m:=oneArg "len" _) (af (a9 (m:=callSpecial? (.ref d) (Str.ofString "__len__")) ?_))
 have hT:=D.typeIs
 obtain⟨o,es,ep,ho,hc,hd,he,mE,hn⟩:=D
 have rm:es.size=xs.length:=size_of_entries he
 refine b8 (name:=Str.ofString "__len__") hT PySem.F.slot_dict_len (bc PySem.F.slot_dict_len hT PySem.F.entry_dict_len ?_ (PySem.F.args_dict_len_1 _))
 change wpAny (model P w) _ (dictSize d>>=_) _ _ s
 unfold dictSize
 refine a9 (a9 (wpAny_dictEntries ho hd (af (a9 (wpAny_pendingCount_other hs (a9 (wpAny_mkInt (af ⟨_,rfl,?_⟩))))))))
 refine a9 (bu (af (a9 (gp ?_))))
 rw [Nat.add_zero,rm]
 rw [aD (by omega),aD (by omega)]
 exact a9 (wpAny_mkInt (af ⟨_,rfl,h _ _⟩))
end
noncomputable def Q2:Nat->D->Bool
 | _,.non=>true
 | _,.int _=>true
 | _,.str _=>true
 | n+1,.tup ks=>ks.all (Q2 n)
 | _,_=>false
def GDh (P:Program) (w:World) (p:Addr) (ks:List (D×Addr)) (h:Heap):Prop :=
 (p==sysModules)=false/\ks.length<=sizeLine/\∃xs:List (D×Addr×Value),xs.map (fun x=>(x.1,x.2.1))=ks/\(∀(i:Nat) x,xs[i]?=some x->∃t,x.2.2=.int i t) /\
  ∃o es ep,h.get? p=some o/\o.ExactDict/\o.data=.dict es ep/\es.toList=xs.map (entryOfKey (Z1s P w))/\(xs.map (·.1)).Nodup
noncomputable def gD (X:Cx) (p:Addr) (ks:List (D×Addr)):HO:=.ext (GDh X.prog X.w p ks)
section
variable {P:Program}{w:World}{H:Hp}{h h':Heap}{p:Addr}{ks:List (D×Addr)}{K:Fg9}
theorem GDh.ok (g:GDh P w p ks h):G1 P w H h p (.ext (GDh P w p ks)):=by
 obtain⟨o,e⟩:∃o,h.get? p=some o:=by obtain⟨_,_,_,_,_,o,_,_,e,_⟩:=g;exact⟨o,e⟩
 refine⟨g,⟨o,e⟩,fun h1 h2 ⟨a,b,xs,c,d,o,es,ep,e,r⟩ k=>⟨a,b,xs,c,d,o,es,ep,k _ e,r⟩⟩
theorem Y5g (ok:F5 P w H h) {n:Nat} (ih:∀(d:D) (v:V) (u:Value),Q2 n d=true->A1 K H d v->B7 v u->G3 h n d u) :
  ∀(ds:List D) (vs:List V) (us:List Value),ds.all (Q2 n)=true->AllS K H ds vs->B9 vs us->R4 (G3 h n) ds us
 | [],vs,us,_,al,r=>by
  unfold AllS at al;subst al
  cases r;exact rfl
 | d::ds,vs,us,hk,al,r=>by
  unfold AllS at al
  obtain⟨v,t,rfl,i,al⟩:=al
  cases r with
  | cons r1 r2 =>
   rw [List.all_cons,cg]at hk
   exact⟨_,_,rfl,ih d v _ hk.1 i r1,Y5g ok ih ds t _ hk.2 al r2⟩
theorem Z9m (ok:F5 P w H h):∀(n:Nat) (d:D) (v:V) (u:Value),Q2 n d=true->A1 K H d v->B7 v u->G3 h n d u:=by
 have flat:∀(n:Nat) (d:D) (v:V) (u:Value),(∀ks,d≠.tup ks)->Q2 n d=true->A1 K H d v->B7 v u->G3 h n d u:=by
  intro n d v u nt hk i r
  cases d with
  | tup ks=>exact absurd rfl (nt ks)
  | non=>unfold A1 at i;subst i;cases (show u=.none from r);cases n <;> exact rfl
  | bl b=>cases n <;> cases hk
  | lst b=>cases n <;> cases hk
  | int j=>unfold A1 at i;subst i;obtain⟨t,rfl⟩:=(show ∃t,u=Value.int j t from r);cases n <;> exact⟨t,rfl⟩
  | str j=>unfold A1 at i;subst i;obtain⟨t,rfl⟩:=(show ∃t,u=Value.str j t from r);cases n <;> exact⟨t,rfl⟩
 intro n
 induction n with
 | zero =>
  intro d v u hk i r
  cases d with
  | tup ks=>cases hk
  | _=>exact flat 0 _ v u (by intro ks e;cases e) hk i r
 | succ n ih =>
  intro d v u hk i r
  cases d with
  | tup ks =>
   unfold A1 at i
   obtain⟨a,xs,rfl,e,al⟩:=i
   cases (show u=Value.ref a from r)
   obtain⟨_,aS,rv,t⟩:=(show G1 P w H h a (.tup xs)from ok a _ e)
   exact⟨a,aS.toArray,rfl,t,by simpa using Y5g ok ih ks xs aS hk al rv⟩
  | _=>exact flat (n+1) _ v u (by intro ks e;cases e) hk i r
theorem GDh.dict (ok:F5 P w H h) (g:GDh P w p ks h) (hk:∀x∈ks,Q2 8 x.1=true/\A1 K H x.1 (.ref x.2)) :
  ∃xs:List (D×Addr×Value),xs.map (fun x=>(x.1,x.2.1))=ks/\(∀(i:Nat) x,xs[i]?=some x->∃t,x.2.2=.int i t)/\h.DictOfH (Z1s P w) p xs:=by
 obtain⟨_,_,xs,e,iv,o,es,ep,h1,h2,h3,h4,h5⟩:=g
 refine⟨xs,e,iv,o,es,ep,h1,h2,h3,h4,fun x hx=>?_,h5⟩
 obtain⟨k1,k2⟩:=hk (x.1,x.2.1) (by rw [<- e];exact aq.mpr ⟨x,hx,rfl⟩)
 exact Z9m ok 8 _ _ _ k1 k2 rfl
end
section
variable {X:Cx}{ae:Pn9} {σ:St}{H:Hp}{s:Shared}{p:Addr}
theorem Y6t:Q2h X (.builtin "len") (fun xs H Q=>∃p ks,xs=[V.ref p]/\H p=some (gD X p ks)/\(∀x∈ks,Q2 8 x.1=true/\A1 X.K H x.1 (.ref x.2))/\Q (.int ks.length) H):=by
 intro ae s σ H xs us Q I r ⟨p,ks,e,hp,hk,q⟩
 subst e
 obtain⟨u,rfl,ru⟩:=T5 r
 cases ru
 have g:GDh X.prog X.w p ks s.heap:=(I.hok p _ hp).1
 obtain⟨xs,e,iv,D⟩:=g.dict I.hok hk
 have el:xs.length=ks.length:=by rw [<- e,ag]
 refine Y6u g.1 D (by rw [el];exact g.2.1) fun t t'=>⟨.int ks.length,H,I.tok _,⟨t,by rw [el]⟩,q⟩
theorem Y8r {u:HO}{o:Obj}{H':Hp} (I:A0 X ae σ (upd H p u) s) (hn:H p=none) (nt:∀xs,u≠.tup xs) (nf:∀o v,u≠.frz o v) (no:∀y,¬ Q7c y u) (nb:∀ps,u≠.tbl ps) (e:s.heap.get? p=some o) (d:∀v,o.data≠.cell v) :
  A0 X ((p,o)::ae) σ H s:=by
 have at_:upd H p u p=some u:=upd_same
 have gW:∀b v,H b=some v->upd H p u b=some v:=fun b v q=>by rw [B0 (U7 q hn)];exact q
 have fh:∀b,upd H p u b=none->H b=none/\b≠p:=fun b q=>by
  by_cases z:b=p
  ·subst z;rw [upd_same]at q;cases q
  ·rw [B0 z]at q;exact⟨q,z⟩
 have pL:p≠X.env.locals:=fun z=>by have:=I.free;rw [<- z,upd_same]at this;cases this
 have pF:p∉X.fs:=fun z=>by
  obtain⟨_,o,ho,_⟩:=I.ok.funs.mem z
  have:=I.base.free p o ho (I.ok.frf p z) fun w=>I.ok.exfs p w z
  rw [upd_same]at this;cases this
 refine⟨I.ok,I.os,I.bare,⟨I.base.keep,I.base.slot,fun b o q n x=>(fh b (I.base.free b o q n x)).1,I.base.there,fun b xs q=>?_,fun b o v q=>?_,fun b ps q=>?_⟩,I.loc,I.cell,(fh _ I.free).1,fun x c q=>(fh _ (I.freeC x c q)).1,fun a ha=>?_,fun b v q=>?_,I.len⟩
 ·have r:=I.base.tups b xs q
  by_cases z:b=p
  ·subst z;rw [upd_same]at r;cases r;exact absurd rfl (nt _)
  ·rw [B0 z]at r;exact r
 ·have r:=I.base.frzs b o v q
  by_cases z:b=p
  ·subst z;rw [upd_same]at r;cases r;exact absurd rfl (nf _ _)
  ·rw [B0 z]at r;exact r
 ·obtain⟨more,r⟩:=I.base.tbls b ps q
  by_cases z:b=p
  ·subst z;rw [upd_same]at r;cases r;exact absurd rfl (nb _)
  ·rw [B0 z]at r;exact⟨more,r⟩
 ·rcases aU.mp ha with z | z
  ·obtain⟨a1,a2,a3⟩:=I.pin a (bi _ z)
   exact⟨a1,(fh _ a2).1,a3⟩
  ·rcases aj.mp z with z | z
   ·subst z;exact⟨e,hn,pL,pF,d⟩
   ·obtain⟨a1,a2,a3⟩:=I.pin a (am _ z)
    exact⟨a1,(fh _ a2).1,a3⟩
 ·refine(I.hok b v (gW b v q)).stay (fun c v _ r=>r) (fun c v ow r=>?_) fun c xs r=>?_
  ·by_cases z:c=p
   ·subst z;rw [upd_same]at r;cases r;exact absurd ow (no _)
   ·rw [B0 z]at r;exact r
  ·by_cases z:c=p
   ·subst z;rw [upd_same]at r;cases r;exact absurd rfl (nt _)
   ·rw [B0 z]at r;exact r
theorem Z2b {u:HO} (I:A0 X ae σ H s) (hn:H p=none) (hx:p∈X.ex\/X.s₀.heap.objs.size<=p) (hL:p≠X.env.locals) (hc:∀x c,X.env.cells.lookup x=some c->c≠p) (hp:∀a∈X.pn++ae,a.1≠p) (new:G1 X.prog X.w (upd H p u) s.heap p u) :
  A0 X ae σ (upd H p u) s:=by
 have keep:∀b v,H b=some v->upd H p u b=some v:=fun b v q=>by rw [B0 (U7 q hn)];exact q
 refine⟨I.ok,I.os,I.bare,⟨I.base.keep,I.base.slot,fun b o q n x=>?_,I.base.there,fun b xs q=>keep _ _ (I.base.tups b xs q),fun b o v q=>keep _ _ (I.base.frzs b o v q),fun b ps q=>let ⟨more,r⟩:=I.base.tbls b ps q;⟨more,keep _ _ r⟩⟩,
  I.loc,I.cell,by rw [B0 (bC hL)];exact I.free,fun x c q=>by rw [B0 (hc x c q)];exact I.freeC x c q,fun a ha=>?_,fun b v q=>?_,I.len⟩
 ·refine(B0 (fun z=>?_)).trans (I.base.free b o q n x)
  rcases hx with hx | hx
  ·exact x (by rw [z];exact hx)
  ·rw [z]at q;exact absurd (ak q) (Nat.not_lt.mpr hx)
 ·obtain⟨a1,a2,a3⟩:=I.pin a ha
  exact⟨a1,by rw [B0 (hp a ha)];exact a2,a3⟩
 ·by_cases z:b=p
  ·subst z;rw [upd_same]at q;cases q;exact new
  ·rw [B0 z]at q
   exact(I.hok b v q).stay (fun _ _ _ r=>r) (fun c v _ r=>keep _ _ r) fun c xs r=>keep _ _ r
end
noncomputable def S4 (ks:List D) (d:D):List D:=if d∈ks then ks else ks++[d]
noncomputable def Q0d:List D->List D->List Int
 | _,[]=>[]
 | ks,d::r=>((ks.idxOf d:Nat):Int)::Q0d (S4 ks d) r
theorem Y8i {ks:List D} (hn:ks.Nodup) {j:Nat}{d:D} (e:ks[j]?=some d):ks.idxOf d=j:=by
 obtain⟨hj,e⟩:=aG.mp e
 subst e
 exact hn.idxOf_getElem j hj
section
variable {X:Cx}{o e x':Expr}{apos bv q3 q5:Pos}{i j:Nat}
def Z4j (X:Cx) (i j:Nat):TE:=fun σ H Q=>∃p ks d a,σ[i]?=some (some (V.ref p))/\H p=some (gD X p ks)/\σ[j]?=some (some (V.ref a))/\A1 X.K H d (.ref a)/\Q2 8 d=true/\(∀x∈ks,Q2 8 x.1=true/\A1 X.K H x.1 (.ref x.2))/\ks.length<sizeLine /\
 (d∈ks.map (·.1)->Q (.int ((ks.map (·.1)).idxOf d:Nat)) H)/\(d∉ks.map (·.1)->Q (.int ks.length) (upd H p (gD X p (ks++[(d,a)]))))
theorem W3b (hu:X.A.units+9<cLine) (ho:PE X o (O2 i)) (he:PE X e (O2 j)) (hg:Gl X "len") (hm:X.mg "len"=none) (hx:PE X x' (O2 i)) (m:M2 X o "setdefault" apos e (.Call (.Name "len" q3) [x'] [] q5) bv)
  (hs:starEach [x'] X.env=(false,eval x' X.env)::starEach [] X.env:=by rfl) :
  PE X (.Call (.Attribute o "setdefault" apos) [e,.Call (.Name "len" q3) [x'] [] q5] [] bv) (Z4j X i j):=by
 intro ae s σ H Q I ⟨p,ks,d,a,hp,Hp,ha,ia,kd,hk,hz,q1,q2⟩
 refine wpAny_Call_method m.base m.few m.line PySem.F.plainAttrs_dict dX PySem.F.type_dict_setdefault (B2 (ho ae s σ H (fun v H1=>v=.ref p/\H1=H) I ⟨_,hp,rfl,rfl⟩) fun u s1 ⟨v,H1,I1,rv,ev,eH⟩=>?_)
 subst ev eH
 obtain rfl:u=Value.ref p:=rv
 have g1:GDh X.prog X.w p ks s1.heap:=(I1.hok p _ Hp).1
 obtain⟨_,_,_,D1⟩:=g1.dict I1.hok hk
 refine⟨D1.typeIs,fun b eb=>?_,?_⟩
 ·cases eb
  obtain⟨ob,_,_,h1,h2,_⟩:=D1
  exact⟨ob,h1,h2.2.1⟩
 rw [m.trees]
 have bL:PE X (.Call (.Name "len" q3) [x'] [] q5) _:=Y1i Y6t hg hm rfl (Q4e hx Q6f hs) (he:=hs)
 refine eX rfl (dv (bV (B2 (he ae s1 σ H1 (fun v H2=>v=.ref a/\H2=H1) I1 ⟨_,ha,rfl,rfl⟩) fun iv s2 ⟨y,H2,I2,ry,ey,eH⟩ =>
  bV (B2 (bL ae s2 σ H2 (fun v H3=>v=.int ks.length/\H3=H2) I2 ⟨_,hp,p,ks,rfl,by rw [eH];exact Hp,by rw [eH];exact hk,rfl,rfl⟩) fun fv s3 ⟨z,H3,I3,rz,ez,rA⟩=>cZ ?_))))
 subst ey eH ez rA
 obtain rfl:iv=Value.ref a:=ry
 obtain⟨tz,rfl⟩:∃t,fv=Value.int ks.length t:=rz
 have g3:GDh X.prog X.w p ks s3.heap:=(I3.hok p _ Hp).1
 obtain⟨xs,ex,iv,D3⟩:=g3.dict I3.hok hk
 have ng:xs.map (·.1)=ks.map (·.1):=by rw [<- ex,aN];rfl
 have el:xs.length=ks.length:=by rw [<- ex,ag]
 have nd:(ks.map (·.1)).Nodup:=by obtain⟨_,_,_,_,_,_,_,_,n⟩:=id D3;rw [<- ng];exact n
 refine Y7b (knd:=Z1s X.prog X.w) (show X.A.in1.units+8<cLine by simp only [bP];omega) g3.1 (Z9m I3.hok 8 _ _ _ kd ia rfl) D3 (by rw [el];exact g3.2.1) (fun jj pp hj=>?_) fun jy h' D' sb=>?_
 ·obtain⟨t,et⟩:=iv jj _ hj
  have ek:(ks.map (·.1))[jj]?=some d:=by rw [<- ng,ai,hj];rfl
  have ei:(ks.map (·.1)).idxOf d=jj:=Y8i nd ek
  refine⟨.int ((ks.map (·.1)).idxOf d:Nat),H3,I3.tok _,⟨t,by rw [ei];exact et⟩,q1 (aC ek)⟩
 ·rw [ng]at jy
  refine⟨.int ks.length,_,?_,⟨tz,rfl⟩,q2 jy⟩
  obtain⟨o',es,ep,h1,h2,h3,h4,h5,h6⟩:=D'
  refine Q2o I3 (by rw [Hp];exact True.intro) sb ⟨o',h1⟩ (GDh.ok ⟨g3.1,by rw [aA];show ks.length+1<=_;omega,xs++[(d,a,Value.int ks.length tz)],by rw [bj,ex];rfl,fun n x hx=>?_,o',es,ep,h1,h2,h3,h4,h6⟩)
  by_cases hn:n<xs.length
  ·rw [aJ hn]at hx
   exact iv n x hx
  ·rw [aT (by omega)]at hx
   have e0:n-xs.length=0:=by
    rcases Nat.eq_zero_or_pos (n-xs.length)with z | z
    ·exact z
    ·rw [cr (show [(d,a,Value.int ks.length tz)].length<=n-xs.length from z)]at hx;cases hx
   rw [e0]at hx
   cases hx
   have:n=ks.length:=by omega
   subst this
   exact⟨tz,rfl⟩
theorem W2p {pos:Pos}:PE X (.Dict [] [] pos) (fun σ H Q=>∀p,H p=none->X.s₀.heap.objs.size<=p->Q (.ref p) (upd H p (gD X p []))):=by
 intro ae s σ H Q I h
 refine wpAny_Dict_empty ⟨.ref s.heap.objs.size,_,I.laid (a:=s.heap.objs.size) (o:=gD X s.heap.objs.size []) (t':=s.toks) (fun _ _ q=>aa _ q) (ah _) (GDh.ok ?_),rfl,h _ (I.hok.fresh (ah _)) I.sz⟩
 exact⟨bT.mpr (bC (ay I.big)),bp _,[],rfl,by intro i x e;simp at e,_,#[],0,aw _ rfl,⟨rfl,rfl,rfl⟩,rfl,rfl,eS⟩
end
section
variable {X:Cx}{H0:Hp}{mk x:Str}{iter:Expr}{scope:Scope}{pos p1 o1 o2 o3 apos bv q3 q5:Pos}{i:Nat}{wi:P5}
noncomputable abbrev Q6d (mk x:Str) (o1 o2 o3 apos bv q3 q5:Pos):Expr:=.Call (.Attribute (.Name x o1) "setdefault" apos) [.Name mk o2,.Call (.Name "len" q3) [.Name x o3] [] q5] [] bv
def W7z (X:Cx) (H0:Hp) (i:Nat) (wi:P5):TE:=fun σ H Q=>∃p H1 τ,σ[i]?=some (some (V.ref p))/\H=upd H1 p (gD X p [])/\H1 p=none/\X.s₀.heap.objs.size<=p/\B5 X.K H0 τ σ H1 /\
 wi τ fun ds=>ds.length<=sizeLine/\(∀d∈ds,Q2 8 d=true/\∃l,d=.tup l)/\∀v H',A4 H1 H'->D9 X.K H1 H' (.nw ((Q0d [] ds).map .int)) v->Q v H'
theorem W2y (hc:X.calm=true) (hu:X.A.units+9<cLine) (B:J3 X scope [mk,x] 1 [i]) (hi:E5 X H0 (.Name mk p1) iter wi)
  (hg:∀C s H fp,PG (blk X scope C s H fp [mk,x]) (.Name mk p1) (Q7r 0)) (he:∀C s H fp,PE (blk X scope C s H fp [mk,x]) (Q6d mk x o1 o2 o3 apos bv q3 q5) (Z4j X 1 0)) (hs:∀x,foldedSetIterable iter X.env x=pure x:=by intro _;rfl) :
  PE X (.ListComp (Q6d mk x o1 o2 o3 apos bv q3 q5) [⟨.Name mk p1,iter,[],0⟩] scope pos) (W7z X H0 i wi):=by
 intro ae s σ H Q I0 ⟨p,H1,τ,hσ,eH,hn1,i6,hR,hw⟩
 subst eH
 rw [eval_ListComp]
 have g0:GDh X.prog X.w p [] s.heap:=(I0.hok p _ upd_same).1
 obtain⟨op,nU,mJ⟩:∃o,s.heap.get? p=some o/\∀v,o.data≠.cell v:=by
  obtain⟨_,_,_,_,_,o,es,ep,e,_,d,_⟩:=id g0
  exact⟨o,e,fun v z=>by rw [d]at z;cases z⟩
 have I:=Y8r I0 hn1 (by intro xs z;cases z) (by intro o v z;cases z) (by intro y z;rcases z with z | ⟨_,z⟩ <;> cases z) (by intro ps z;cases z) nU mJ (H':=H1)
 have pc:∀x c,X.env.cells.lookup x=some c->c≠p:=fun x c q z=>by have:=I0.freeC x c q;rw [z,upd_same]at this;cases this
 have pp:∀a∈X.pn++ae,a.1≠p:=fun a ha z=>by have:=(I0.pin a ha).2.1;rw [z,upd_same]at this;cases this
 refine wpAny_comprehension_free rfl hs (Q7o fun y hy e=>I.ok.has y.1 (B.free y hy e)) B.kind B.names ?_
 refine B2 (hi.pi ((p,op)::ae) s σ H1 (fun J H2=>A4 H1 H2/\∃ds,YlS X.K J ds H2/\ds.length<=sizeLine/\(∀d∈ds,Q2 8 d=true/\∃l,d=.tup l)/\∀v H',A4 H1 H'->D9 X.K H1 H' (.nw ((Q0d [] ds).map .int)) v->Q v H') I
  ⟨τ,hR,hi.mono τ _ _ (fun ds h J H' sm yl=>⟨sm,ds,yl,h⟩) hw⟩) fun v s1 h1=>B2 h1 fun iW s2 h2=>?_
 obtain⟨it,iL,tn,J,H2,e,nv,T,dC,oy,cX,ds,yl,hz,qw,hq⟩:=h2
 subst e
 obtain⟨l8,iB,qg,qh,_⟩:=nv.pin (p,op) (am _ ar)
 have I2:A0 X ae σ H2 s2:=nv.pins_of fun a ha=>nv.pin a (am _ (av _ ha))
 have kP:∀b∈iL,K2 X ae H2 b:=fun b hb=>by
  obtain⟨a1,a2,a3,a4,a5,a6⟩:=oy b hb
  exact⟨a1,a2,a3,a4,a5,fun a ha=>a6 a (by rcases aU.mp ha with z | z;exact bi _ z;exact am _ (av _ z))⟩
 have pP:∀b∈iL,b≠p:=fun b hb z=>(oy b hb).2.2.2.2.2 (p,op) (am _ ar) z.symm
 have rf:K2 X ae H2 p:=⟨iB,qg,qh,.inr i6,pc,pp⟩
 generalize hfpe:p::iL=fp
 have fB:p∈fp:=by rw [<- hfpe];exact ar
 have gv:∀b∈iL,b∈fp:=fun b hb=>by rw [<- hfpe];exact av _ hb
 have f2:∀b∈fp,K2 X ae H2 b:=fun b hb=>by
  rw [<- hfpe]at hb
  rcases aj.mp hb with z | z
  ·rw [z];exact rf
  ·exact kP b z
 have fG:∀b∈fp,b<s2.heap.objs.size:=fun b hb=>by
  rw [<- hfpe]at hb
  rcases aj.mp hb with z | z
  ·rw [z];exact ak l8
  ·obtain⟨o,ho,_⟩:=T.obj _ _ dC b z
   exact ak ho
 refine bt (gn B.cell (by intro y hy;simp at hy) (fun h₁ cF cp=>?_) B.kind)
 dsimp only at cF cp ⊢
 generalize hH2:s2.heap.push { cls:=.type "list",dict:=none,data:=.seq ([]:List Value).toArray }=Hq at cF cp ⊢
 have hC:Hq.objs.size=s2.heap.objs.size+1:=by rw [<- hH2,bn]
 have cI:s2.heap.objs.size≠Hq.objs.size:=by rw [hC];exact ay (cB _)
 have cj:s2.heap.objs.size<=Hq.objs.size:=by rw [hC];exact cx _
 have old:∀b o,s2.heap.get? b=some o->h₁.get? b=some o:=fun b o e=>cp.extBut b o (by rw [hC];exact ay (bx (ak e))) (aa _ (hH2 ▸ aa _ e))
 have dE:h₁.PlainList s2.heap.objs.size #[]:=⟨_,cp.extBut _ _ cI (aa _ (hH2 ▸ aw _ rfl))⟩
 generalize hCe:Hq.objs.size=C at cF cp hC cI cj ⊢
 generalize hDe:s2.heap.objs.size=D0 at hC cI cj dE ⊢
 have cR:∀b∈fp,b<D0:=fun b hb=>hDe ▸ fG b hb
 have dO:tn 0 h₁:=T.keep _ _ _ dC fun b _ o e=>old b o e
 have jK:=Q7j (C:=C) (h':=h₁) (t':=s2.toks+([]:List (Str×Value)).length) I2 B f2 fG (by rw [hDe];exact cj) cF old
 have qi:p≠C:=ay (ax (cR p fB) cj)
 have gh:H2 D0=none:=I2.hok.fresh (by rw [hDe];exact ah _)
 have ou:D0≠p:=fun z=>by have:=cR p fB;rw [z]at this;exact aO _ this
 have pS:∀x c,(R9 X.env scope.names []).lookup x=some c->c≠p:=fun x c h=>pc x c (U4 I2 B h)
 have rO:=Z2b jK (p:=p) (u:=gD X p []) iB (.inl fB) qi pS (by intro a ha;simp [blk]at ha) (by
  obtain⟨a,b,xs,c,d,o,es,ep,e,r⟩:=id g0
  have eo:o=op:=by rw [nU]at e;exact(aB e).symm
  subst eo
  exact GDh.ok ⟨a,b,xs,c,d,o,es,ep,old _ _ l8,r⟩)
 have jl:D0∉frs X.stack:=fun z=>by
  rcases aj.mp (I2.stkSub _ z)with e | e
  ·have:=I2.lt;rw [<- e,hDe]at this;exact aO _ this
  ·exact I2.nofs (by rw [hDe];exact ah _) e
 have jm:∀x c,(R9 X.env scope.names []).lookup x=some c->c≠D0:=fun x c h z=>by
  obtain⟨v,q⟩:=I2.cell x c (U4 I2 B h)
  have:=q.lt
  rw [z,hDe]at this
  exact aO _ this
 have dM:∀{pb:Pn9} {σ':St}{H':Hp}{s':Shared}{ys:Array Value}{n:Nat},A0 (blk X scope C s2 H2 fp [mk,x]) pb σ' H' s'->H' D0=none->s'.heap.get? D0=some { cls:=.type "list",data:=.seq ys n } ->
   A0 (blk X scope C s2 H2 fp [mk,x]) [(D0,{ cls:=.type "list",data:=.seq ys n })] σ' H' s':=by
  intro pb σ' H' s' ys n I' n' e
  refine I'.pins_of fun a hp=>?_
  have e':a=(D0,{ cls:=.type "list",data:=.seq ys n }):=by simpa using hp
  subst e'
  exact⟨e,n',cI,jl,fun v z=>by cases z⟩
 have fH:∀{H':Hp}{ob:Obj},(∀b∈iL,H' b=none)->∀b∈iL,K2 (blk X scope C s2 H2 fp [mk,x]) [(D0,ob)] H' b:=by
  intro H' ob hn b hb
  have fX:=gv b hb
  refine⟨hn b hb,(ay (ax (cR b fX) cj)),fun z=>?_,.inl fX,fun x c h=>(f2 b fX).2.2.2.2.1 x c (U4 I2 B h),fun a hp=>?_⟩
  ·rcases aj.mp (I2.stkSub b z)with e | e
   ·exact(f2 b fX).2.1 e
   ·exact(f2 b fX).2.2.1 e
  ·have e':a=(D0,ob):=by simpa [blk]using hp
   subst e'
   exact(ay (cR b fX)).symm
 let jb:Nat->Shared->Prop:=fun k s'=>∃(n:Nat) (σ':St) (H':Hp) (ks:List (D×Addr)) (ys:Array Value) (nn:Nat) (vs:List V) (es:List Int),A0 (blk X scope C s2 H2 fp [mk,x]) [(D0,{ cls:=.type "list",data:=.seq ys nn })] σ' H' s'/\σ'[1]?=some (some (V.ref p))/\A4 H2 H'/\tn n s'.heap /\
  (∀b∈iL,H' b=none)/\H' D0=none/\H' p=some (gD X p ks)/\(∀y∈ks,Q2 8 y.1=true/\A1 X.K H' y.1 (.ref y.2))/\ks.length<=n/\B9 vs ys.toList/\vs=es.map V.int/\n<=ds.length/\k=ds.length-n/\es.length=n/\es++Q0d (ks.map (·.1)) (ds.drop n)=Q0d [] ds
 have loop:∀s₃:Shared,s₃={ s2 with heap:=h₁,toks:=s2.toks+([]:List (Str×Value)).length } ->
   codeAny (model X.prog X.w) X.A (.compLoop (.ListComp (Q6d mk x o1 o2 o3 apos bv q3 q5) [⟨.Name mk p1,iter,[],0⟩] scope pos) 0 (.ref it) (.ref D0) (compEnvC scope (R9 X.env scope.names []) C X.env))
    (compPost (model X.prog X.w) X.A X.xe none (EP X ae σ Q) (.ref D0) C) s₃:=by
  rintro s₃ rfl
  obtain⟨nn,ho⟩:=id dE
  refine Z1g jb ?_ ds.length ⟨0,_,upd H2 p (gD X p []),[],#[],nn,[],[],dM rO (by rw [B0 ou];exact gh) ho,(by show([none]++[(σ[i]?).join]:St)[1]?=_;rw [hσ];rfl),D5 iB _,dO,fun b hb=>by rw [B0 (pP b hb)];exact(kP b hb).1,by rw [B0 ou];exact gh,upd_same,(by intro y hy;cases hy),ah _,.nil,rfl,bp _,rfl,rfl,by simp⟩
  rintro k s3 ⟨n,σ3,H3,ks,ys,nn,vs,es,I3,nO,je,fL,fP,d3,qk,nY,rZ,iS,lg,rV,rfl,j2,w3⟩
  by_cases bR:n<ds.length
  ·refine aL (T.item (blk X scope C s2 H2 fp [mk,x]) rfl rfl rfl hc n _ s3 σ3 H3 (fun _ _=>False) I3 (fH fP) fL (yl.go H3 je n bR)) (fun r s4 ⟨u,hr,h4⟩=>?_) fun _ _ z=>z
   subst hr
   refine aL h4 (fun _ s5 ⟨v5,H5,I5,r5,y5,eD,iK⟩=>?_) fun _ _ z=>z
   obtain⟨g7,ix⟩:=yl.yld H3 je n v5 H5 _ (ac bR) y5
   rw [cG bR]at w3
   have iP:=I5.pinned (fH iK) (T.obj _ _ eD)
   obtain⟨kd,l,ed⟩:=qw ds[n] (br bR)
   obtain⟨a5,e5⟩:∃a,v5=.ref a:=by
    have nM:A1 X.K H5 (.tup l) v5:=ed ▸ ix
    unfold A1 at nM
    obtain⟨a,_,e,_⟩:=nM
    exact⟨a,e⟩
   subst e5
   refine aL (hg C s2 H2 fp _ s5 σ3 H5 (.ref a5) u (fun σ6 H6=>σ6=σ3.set 0 (some (.ref a5))/\H6=H5) iP r5 ⟨rfl,rfl⟩) (fun _ s6 ⟨σ6,H6,I6,e6,rq⟩=>?_) fun _ _ z=>z
   subst e6 rq
   refine wpAny_tests_nil ?_
   rw [aI rfl]
   have rY:σ3.length=2:=I3.len
   have mo:H6 p=some (gD X p ks):=g7 _ _ qk
   have l9:∀y∈ks,Q2 8 y.1=true/\A1 X.K H6 y.1 (.ref y.2):=fun y hy=>⟨(nY y hy).1,(nY y hy).2.mono (Kp.of g7) _ _⟩
   let R7:V->Hp->Prop:=fun v H7=>∃i3,H7 p=some (gD X p i3)/\(∀y∈i3,Q2 8 y.1=true/\A1 X.K H7 y.1 (.ref y.2))/\i3.length<=n+1/\(∀b u,b≠p->H6 b=some u->H7 b=some u)/\Kp H6 H7/\v=.int (((ks.map (·.1)).idxOf ds[n]:Nat):Int)/\i3.map (·.1)=S4 (ks.map (·.1)) ds[n]
   refine aL (he C s2 H2 fp _ s6 _ H6 R7 I6 ⟨p,ks,ds[n],a5,by rw [aF (by decide)];exact nO,mo,by rw [b9 (by omega)],ix,kd,l9,by omega,fun jR=>?_,fun jy=>?_⟩) (fun y s8 ⟨v8,H8,I8,jg,i3,qj,qx,qv,pB,rT,rh,rn⟩=>?_) fun _ _ z=>z
   ·exact⟨ks,mo,l9,by omega,fun _ _ _ q=>q,Kp.refl _,rfl,by unfold S4;rw [aI jR]⟩
   ·have kp:Kp H6 (upd H6 p (gD X p (ks++[(ds[n],a5)]))):=Kp.updM mo (by intro xs z;cases z) (by intro o u z;cases z) _
    refine⟨ks++[(ds[n],a5)],upd_same,fun y hy=>?_,by rw [aA];show ks.length+1<=_;omega,fun b u hb q=>by rw [B0 hb];exact q,kp,?_,?_⟩
    ·rcases aU.mp hy with z | z
     ·exact⟨(l9 y z).1,(l9 y z).2.mono kp _ _⟩
     ·rw [aQ.mp z];exact⟨kd,ix.mono kp _ _⟩
    ·rw [List.idxOf_eq_length jy,ag]
    ·unfold S4;rw [aD jy,bj];rfl
   ·have pd:=I8.pin (D0,_) (am _ (bi _ ar))
    obtain⟨o8,d8,_⟩:=pd
    have kr:ys.size<=sizeLine:=by
     have e1:=iS.length
     have e4:ys.toList.length=ys.size:=by simp
     have e5:vs.length=n:=by rw [lg,ag,j2]
     omega
    refine wpAny_list_append_plain (hsz:=kr) ⟨nn,o8⟩ fun h₅ kz ju=>?_
    have kW:A0 (blk X scope C s2 H2 fp [mk,x]) (U1 iL s5.heap) (σ3.set 0 (some (.ref a5))) H8 s8:=I8.pins_of fun a ha=>I8.pin a (am _ (am _ ha))
    have I9:A0 (blk X scope C s2 H2 fp [mk,x]) (U1 iL s5.heap) (σ3.set 0 (some (.ref a5))) H8 { s8 with heap:=h₅ }:=by
     refine kW.turned (t':=s8.toks) (it:=D0) (fun b o hb e=>(ju.2 b hb).trans e) d8 cI (.inr (by rw [<- hDe];exact ah _)) jm (fun a hp z=>?_)
     obtain⟨q1,_⟩:=Q6e (by simpa [blk]using hp)
     exact ay (cR _ (gv _ q1)) z
    obtain⟨kf,o9⟩:=kz
    have jZ:tn (n+1) h₅:=T.keep _ _ _ eD fun b hb o e=>(I9.pin (b,o) (am _ (Q0l hb e))).1
    refine⟨ds.length-(n+1),by omega,n+1,_,H8,i3,_,kf,vs++[v8],es++[(((ks.map (·.1)).idxOf ds[n]:Nat):Int)],dM I9 d8 o9,by rw [aF (by decide)];exact nO,fun b u q=>?_,jZ,fun b hb=>?_,d8,qj,qx,qv,?_,?_,bR,rfl,by rw [aA,j2];rfl,?_⟩
    ·have nb:b≠p:=fun z=>by rw [z,iB]at q;cases q
     exact pB b u nb (g7 _ _ (je _ _ q))
    ·obtain⟨o,e,_⟩:=T.obj _ _ eD b hb
     exact(I9.pin (b,o) (am _ (Q0l hb e))).2.1
    ·have:(ys.push y).toList=ys.toList++[y]:=by simp
     rw [this]
     exact iS.append (.cons jg .nil)
    ·rw [lg,rh,bj];rfl
    ·rw [<- w3,Q0d,rn,cw];rfl
  ·have e:n=ds.length:=by omega
   subst e
   refine aL (T.done (blk X scope C s2 H2 fp [mk,x]) rfl rfl rfl hc ds.length _ s3 σ3 H3 (fun _ _=>False) I3 (fH fP) fL (yl.stop H3 je)) (fun r s4 ⟨hr,I4⟩=>?_) fun _ _ z=>z
   subst hr
   have o4:=(I4.pin (D0,_) (am _ ar)).1
   rw [gt]at w3
   have w3:es++[]=Q0d [] ds:=w3
   rw [ba]at w3
   obtain⟨m4,iE,_⟩:=id I4.loc
   refine⟨m4,iE,fun h' sb=>?_⟩
   have m7:vs.length<=sizeLine:=by rw [lg,ag,j2];exact hz
   refine⟨.ref D0,_,Z0y I2 I4 f2 (by rw [hDe];exact cj) (by rw [hDe];exact ah _) cI d3 ⟨nn,o4⟩ iS m7 sb,rfl,hq _ _ (cX.trans (je.trans (D5 d3 _))) ⟨D0,vs,rfl,cX.free gh,upd_same,?_⟩⟩
   rw [lg,<- w3]
   exact AllS.ints
 exact codeAny_compStart_list (loop _ rfl) (T.self _ 0 _ _ _ dO (loop _ rfl))
variable {sp jd dp rp:Pos}
theorem B5.unset {K:Fg9}{H:Hp} {τ:A8} {σ:St} (hR:B5 K H0 τ σ H) (i:Nat) (v:V):B5 K H0 (τ.set i none) (σ.set i (some v)) H:=by
 have at_:∀(j:Nat) (t:Sl),(τ.set i none)[j]?=some (some t)->j≠i/\τ[j]?=some (some t):=fun j t e=>by
  by_cases z:j=i
  ·subst z
   rw [List.getElem?_set_self' ]at e
   cases q:τ[j]? with
   | none=>rw [q]at e;cases e
   | some w=>rw [q]at e;cases e
  ·rw [aF (bC z)]at e;exact⟨z,e⟩
 refine⟨by rw [bJ,bJ];exact hR.len,hR.same,fun j t e=>?_,fun j k t u w cA e2 e3 m1 m2 q1 q2=>?_⟩
 ·obtain⟨z,e⟩:=at_ j t e
  obtain⟨w,q,r⟩:=hR.here j t e
  exact⟨w,by rw [aF (bC z)];exact q,r⟩
 ·obtain⟨z1,e2⟩:=at_ j t e2
  obtain⟨z2,e3⟩:=at_ k u e3
  rw [aF (bC z1)]at q1
  rw [aF (bC z2)]at q2
  exact hR.apart j k t u w cA e2 e3 m1 m2 q1 q2
noncomputable def Z5d (i:Nat) (wi:P5):WS:=fun E τ=>i<τ.length/\wi (τ.set i none) fun ds=>ds.length<=sizeLine/\(∀d∈ds,Q2 8 d=true/\∃l,d=.tup l)/\E.rt (.nw ((Q0d [] ds).map .int))
theorem A5.numb (hc:X.calm=true) (hu:X.A.units+9<cLine) (B:J3 X scope [mk,x] 1 [i]) (hi:E5 X H0 (.Name mk p1) iter wi)
  (hg:∀C s H fp,PG (blk X scope C s H fp [mk,x]) (.Name mk p1) (Q7r 0)) (he:∀C s H fp,PE (blk X scope C s H fp [mk,x]) (Q6d mk x o1 o2 o3 apos bv q3 q5) (Z4j X 1 0))
  (hN:X.N.Nodup) (jC:X.N[i]?=some x) (hx:Loc X.env.scope x) (hf:X.fn x=true\/X.env.scope.names.lookup x=some .local:=by first | exact .inl rfl | exact .inr rfl | assumption)
  (hs:∀x,foldedSetIterable iter X.env x=pure x:=by intro _;rfl) (gJ:swapsWith (.Dict [] [] dp) (some (.Name x jd)) sp.line X.env=pure false:=by rfl) :
  A5 X H0 [.Assign [.Name x jd] (.Dict [] [] dp) sp,.Return (some (.ListComp (Q6d mk x o1 o2 o3 apos bv q3 q5) [⟨.Name mk p1,iter,[],0⟩] scope pos)) rp] (Z5d i wi) where
 mono:=fun τ E F le h=>⟨h.1,hi.mono _ _ _ (fun ds ⟨a,b,c⟩=>⟨a,b,le.rt _ c⟩) h.2⟩
 ps:=Q8l (Y1q (Q3f hN jC hx W2p gJ hf) (Y1r (Z3k (W2y hc hu B hi hg he hs)))) fun D σ H ⟨τ,hR,h⟩ p hp i6=>by
  have hl:i<σ.length:=by rw [<- hR.len];exact h.1
  refine⟨p,H,τ.set i none,by rw [b9 hl],rfl,hp,i6,hR.unset i _,hi.mono _ _ _ (fun ds ⟨a,b,c⟩=>⟨a,b,fun v H' sm ir=>?_⟩) h.2⟩
  exact c v H' (hR.same.trans sm) (ir.older hR.same)
@[simp] theorem W6r {E:F3} {τ:A8}:Z5d i wi E τ=(i<τ.length/\wi (τ.set i none) fun ds=>ds.length<=sizeLine/\(∀d∈ds,Q2 8 d=true/\∃l,d=.tup l)/\E.rt (.nw ((Q0d [] ds).map .int))):=rfl
end
noncomputable def N4 (K:Fg9) (a:Addr) (kvs:List (A7×D)):Hp->Prop:=fun H=>∃o ps,H a=some (.frz o (.dK ps))/\B4 K H kvs ps
theorem N4.mono {K:Fg9}{a:Addr}{kvs:List (A7×D)}:Q2j (N4 K a kvs):=fun H H' k ⟨o,ps,h,q⟩=>⟨o,ps,k.frz _ _ _ h,q.mono k _ _⟩
section
variable {X:Cx}{ae:Pn9} {σ:St}{H H0:Hp}{s:Shared}{a:Addr}
theorem Z9a {ps:List (A7×V)} (I:A0 X ae σ H s) (h:H a=some (.dK ps)):∃o,A0 X ae σ (upd H a (.frz o (.dK ps))) s:=by
 have ok:=I.hok a _ h
 obtain⟨_,_,_,_,o,_,_,q,_⟩:=id (show G1 X.prog X.w H s.heap a (.dK ps)from ok)
 refine⟨o,I.write (t':=s.toks) (h':=s.heap) (e:=a) (o:=.frz o (.dK ps)) (by rw [h];trivial) (.inl rfl) (fun b u _ k=>k) ⟨_,q⟩ ⟨q,?_⟩⟩
 exact ok
theorem B5.freezeK {K:Fg9} {τ:A8}{i:Nat}{kvs:List (A7×D)}{o:Obj}{ps:List (A7×V)} (hR:B5 K H0 τ σ H) (e1:τ[i]?=some (some (.dk kvs))) (hv:σ[i]?=some (some (.ref a))) (h0:H0 a=none) (sq:H a=some (.dK ps)) (kv:B4 K H kvs ps) :
  B5 K H0 (τ.set i (some (.cl a (N4 K a kvs)))) σ (upd H a (.frz o (.dK ps))):=by
 have kp:Kp H (upd H a (.frz o (.dK ps))):=Kp.updM sq (by intro xs z;cases z) (by intro o u z;cases z) _
 exact hR.mutG e1 rfl hv h0 sq (by intro xs z;cases z) (by intro o u z;cases z) ⟨rfl,⟨o,ps,upd_same,kv.mono kp _ _⟩,N4.mono⟩
end
section
variable {X:Cx}{H0:Hp}{st:Stmt}{w:WS}
theorem Q8k {t:TS} (h:PS X st t):PS X st (fun D σ H=>t { D with nx:=fun σ' H'=>∀ae s,A0 X ae σ' H' s->∃dh,A0 X ae σ' dh s/\D.nx σ' dh } σ H):=by
 intro ae s σ H D I q
 refine B2 (h ae s σ H _ I q) fun f s1 q1=>?_
 cases f with
 | next =>
  obtain⟨σ',H',I',q2⟩:=q1
  obtain⟨dh,rP,q3⟩:=q2 ae s1 I'
  exact⟨σ',dh,rP,q3⟩
 | brk=>exact q1
 | cont=>exact q1
 | ret v=>exact q1
def Z4v (K:Fg9) (i:Nat) (w:WS):WS:=fun E τ=>w { E with nx:=fun τ'=>∃kvs,τ'[i]?=some (some (.dk kvs))/\∀a,E.nx (τ'.set i (some (.cl a (N4 K a kvs)))) } τ
theorem DS.fzK (i:Nat) (h:DS X H0 st w):DS X H0 st (Z4v X.K i w) where
 mono:=fun τ E F le q=>h.mono τ { E with nx:=fun τ'=>∃kvs,τ'[i]?=some (some (.dk kvs))/\∀a,E.nx (τ'.set i (some (.cl a (N4 X.K a kvs)))) } { F with nx:=fun τ'=>∃kvs,τ'[i]?=some (some (.dk kvs))/\∀a,F.nx (τ'.set i (some (.cl a (N4 X.K a kvs)))) } ⟨fun τ' ⟨kvs,e,q⟩=>⟨kvs,e,fun a=>le.nx _ (q a)⟩,le.rt,le.bk,le.ct⟩ q
 ps:=Q0 (Q8k h.ps) fun D σ H ⟨τ,hR,q⟩=>⟨τ,hR,h.mono τ { K8 X.K H0 H D with nx:=fun τ'=>∃kvs,τ'[i]?=some (some (.dk kvs))/\∀a,(K8 X.K H0 H D).nx (τ'.set i (some (.cl a (N4 X.K a kvs)))) } _ ⟨fun τ' ⟨kvs,e,q⟩ σ' H' kp cM ae s I=>by
  obtain⟨a,ps,hv,h0,sq,kv⟩:=cM.dkAt e
  obtain⟨o,I2⟩:=Z9a I sq
  exact⟨_,I2,q a σ' _ (kp.trans (Kp.updM sq (by intro xs z;cases z) (by intro o u z;cases z) _)) (cM.freezeK e hv h0 sq kv)⟩,fun _ h=>h,fun _ h=>h,fun _ h=>h⟩ q⟩
end
section
variable {X:Cx}{H0:Hp}{a b c e o tg:Expr}{pos bF p2 apos bv:Pos}{wa wb wi we wv:WE}{x:Str}{i:Nat}
def Z5e (K:Fg9) (i:Nat):WS:=fun E τ=>∃kvs,τ[i]?=some (some (.dk kvs))/\∀a,E.rt (.cl a (N4 K a kvs))
theorem DS.retK (he:PE X e (O2 i)):DS X H0 (.Return (some e) pos) (Z5e X.K i) where
 mono:=fun τ E F le ⟨kvs,e1,q⟩=>⟨kvs,e1,fun a=>le.rt _ (q a)⟩
 ps:=by
  intro ae s σ H D I ⟨τ,hR,kvs,e1,q⟩
  obtain⟨a,ps,hv,h0,sq,kv⟩:=hR.dkAt e1
  refine wpAny_Return_some (B2 (he ae s σ H (fun v H1=>v=.ref a/\H1=H) I ⟨_,hv,rfl,rfl⟩) fun u s1 ⟨v,H1,I1,rv,ev,eH⟩=>?_)
  subst ev eH
  obtain⟨ob,I2⟩:=Z9a I1 sq
  have kp:Kp H1 (upd H1 a (.frz ob (.dK ps))):=Kp.updM sq (by intro xs z;cases z) (by intro o u z;cases z) _
  refine⟨.ref a,σ,_,I2,rv,q a _ _ (fun b ob hb=>?_) ⟨rfl,⟨ob,ps,upd_same,kv.mono kp _ _⟩,N4.mono⟩⟩
  rw [B0 (U7 hb h0)];exact hR.same _ _ hb
def Z5f (i:Nat) (we:WE):WS:=fun E τ=>we τ fun r=>∃a Φ,r=.cl a Φ/\E.nx (τ.set i (some (.cl a Φ)))
theorem DS.setF (he:DE X H0 e we) (hN:X.N.Nodup) (hi:X.N[i]?=some x) (hx:Loc X.env.scope x) (hs:swapsWith e (some (.Name x bF)) pos.line X.env=pure false:=by rfl)
  (hf:X.fn x=true\/X.env.scope.names.lookup x=some .local:=by first | exact .inl rfl | exact .inr rfl | assumption):DS X H0 (.Assign [.Name x bF] e pos) (Z5f i we) where
 mono:=fun τ E F le h=>he.mono τ _ _ (fun r ⟨a,Φ,e1,q⟩=>⟨a,Φ,e1,le.nx _ q⟩) h
 ps:=Q0 (Q3f hN hi hx he.pe hs hf) fun D σ H ⟨τ,hR,h⟩=>⟨τ,hR,he.mono τ _ _ (fun r ⟨a,Φ,e1,q⟩ v H1 s1 ir=>by
  subst e1
  exact q _ _ (Kp.of s1) ((hR.mono s1).set (s:=.cl a Φ) ir fun m=>by cases m)) h⟩
theorem B5.fkAt {K:Fg9}{H:Hp} {τ:A8} {σ:St}{a:Addr}{kvs:List (A7×D)} (hR:B5 K H0 τ σ H) (e1:τ[i]?=some (some (.cl a (N4 K a kvs)))):σ[i]?=some (some (.ref a))/\∃o ps,H a=some (.frz o (.dK ps))/\B4 K H kvs ps:=by
 obtain⟨v,hv,rfl,q,_⟩:=hR.here i _ e1
 exact⟨hv,q⟩
def Q9q (K:Fg9) (i:Nat) (we:WE):WE:=fun τ Q=>∃a kvs,τ[i]?=some (some (.cl a (N4 K a kvs)))/\we τ fun r=>∃kd k d,r=.st kd/\P7 kd=some k/\C7 kvs k=some d/\Q (.st d)
theorem DE.fget (hu:X.A.units+1<cLine) (ho:PE X o (O2 i)) (he:DE X H0 e we) (hs:Q2k e):DE X H0 (.Subscript o e pos) (Q9q X.K i we) where
 mono:=fun τ P Q f ⟨a,kvs,e1,h⟩=>⟨a,kvs,e1,he.mono τ _ _ (fun r ⟨ds,ks,d,a1,a2,a3,a4⟩=>⟨ds,ks,d,a1,a2,a3,f _ a4⟩) h⟩
 pe:=N9 (Q6h hu ho he.pe hs) fun σ H Q ⟨τ,hR,a,kvs,e1,h⟩=>by
  obtain⟨hv,ob,ps,sq,kv⟩:=hR.fkAt e1
  refine⟨_,hv,τ,hR,he.mono τ _ _ (fun r ⟨kd,k,d,a1,a2,a3,a4⟩ v H1 s1 ir=>?_) h⟩
  subst a1
  cases Q1w a2 (show A1 X.K H1 kd v from ir)
  rcases B4.val (k:=k) (kv.mono (Kp.of s1) _ _)with⟨n1,_⟩ | ⟨d',v',n1,n2,n3⟩
  ·rw [a3]at n1;cases n1
  ·rw [a3]at n1;cases n1
   exact⟨a,v',rfl,.inl ⟨ps,k,.inr ⟨ob,s1 _ _ sq⟩,rfl,n2.symm⟩,a4 _ _ s1 n3⟩
def Z4u (K:Fg9) (i:Nat) (we:WE):WE:=fun τ Q=>∃a kvs,τ[i]?=some (some (.cl a (N4 K a kvs)))/\we τ fun r=>∃kd k,r=.st kd/\P7 kd=some k/\Q (.st ((C7 kvs k).getD .non))
theorem DE.fget1 (hu:X.A.units+1<cLine) (ho:PE X o (O2 i)) (he:DE X H0 e we) (m:M1 X o "get" apos e bv):DE X H0 (.Call (.Attribute o "get" apos) [e] [] bv) (Z4u X.K i we) where
 mono:=fun τ P Q f ⟨a,kvs,e1,h⟩=>⟨a,kvs,e1,he.mono τ _ _ (fun r ⟨ds,ks,a1,a2,a4⟩=>⟨ds,ks,a1,a2,f _ a4⟩) h⟩
 pe:=N9 (W2m hu ho he.pe m) fun σ H Q ⟨τ,hR,a,kvs,e1,h⟩=>by
  obtain⟨hv,ob,ps,sq,kv⟩:=hR.fkAt e1
  refine⟨_,hv,a,rfl,.inl ⟨ps,.inr ⟨ob,sq⟩⟩,τ,hR,he.mono τ _ _ (fun r ⟨kd,k,a1,a2,a4⟩ v H1 s1 ir=>?_) h⟩
  subst a1
  cases Q1w a2 (show A1 X.K H1 kd v from ir)
  refine⟨_,.inl ⟨ps,k,.inr ⟨ob,s1 _ _ sq⟩,rfl,rfl⟩,a4 _ _ s1 ?_⟩
  rcases B4.val (k:=k) (kv.mono (Kp.of s1) _ _)with⟨n1,n2⟩ | ⟨d',v',n1,n2,n3⟩
  ·rw [n1,n2];exact A1.s_non (K:=X.K) (H:=H1)
  ·rw [n1,n2];exact n3
def Z4z (i:Nat):WS:=fun E τ=>E.nx (τ.set i (some (.dk [])))
theorem DS.knew (hN:X.N.Nodup) (hi:X.N[i]?=some x) (hx:Loc X.env.scope x) (hs:swapsWith (.Dict [] [] p2) (some (.Name x bF)) pos.line X.env=pure false:=by rfl)
  (hf:X.fn x=true\/X.env.scope.names.lookup x=some .local:=by first | exact .inl rfl | exact .inr rfl | assumption):DS X H0 (.Assign [.Name x bF] (.Dict [] [] p2) pos) (Z4z i) where
 mono:=fun τ E F le h=>le.nx _ h
 ps:=Q0 (Q3f hN hi hx W2q hs hf) fun D σ H ⟨τ,hR,h⟩ p hp=>by
  have sm:A4 H (upd H p (.dK [])):=D5 hp _
  refine h _ _ (Kp.of sm) ((hR.mono sm).set (s:=.dk []) ⟨p,[],rfl,hR.same.free hp,upd_same,rfl⟩ fun _ j t hj e m q=>?_)
  obtain⟨o,ho⟩:=hR.tracked e m q
  rw [hp]at ho;cases ho
def Z5a (i:Nat) (we wv:WE):WS:=fun E τ=>i<τ.length/\we τ fun rk=>∃kd k,rk=.st kd/\P7 kd=some k/\wv τ fun r=>∃d,r=.st d/\E.nx (τ.set i (some (.dk [(k,d)])))
theorem DS.knew1 {v:Expr} (he:DE X H0 e we) (hv:DE X H0 v wv) (hN:X.N.Nodup) (hi:X.N[i]?=some x) (hx:Loc X.env.scope x) (hs:swapsWith (.Dict [some e] [v] p2) (some (.Name x bF)) pos.line X.env=pure false:=by rfl)
  (hf:X.fn x=true\/X.env.scope.names.lookup x=some .local:=by first | exact .inl rfl | exact .inr rfl | assumption):DS X H0 (.Assign [.Name x bF] (.Dict [some e] [v] p2) pos) (Z5a i we wv) where
 mono:=fun τ E F le h=>⟨h.1,he.mono τ _ _ (fun r ⟨ds,ks,a1,a2,h⟩=>⟨ds,ks,a1,a2,hv.mono τ _ _ (fun r ⟨d,b1,b2⟩=>⟨d,b1,le.nx _ b2⟩) h⟩) h.2⟩
 ps:=Q0 (Q3f hN hi hx (W2n (W3p he.pe hv.pe W3q) rfl rfl (by simp) (by simp)) hs hf) fun D σ H ⟨τ,hR,hl,h⟩ p hp=>by
  have sm:A4 H (upd H p (.dK [])):=D5 hp _
  have dI:=hR.mono sm
  refine⟨τ,dI,he.mono τ _ _ (fun rk ⟨kd,k,a1,a2,h⟩ y H1 s1 ik=>?_) h⟩
  subst a1
  have dA:=dI.mono s1
  refine⟨τ,dA,hv.mono τ _ _ (fun r ⟨d,b1,b2⟩ u H2 s2 iv=>?_) h⟩
  subst b1
  cases Q1w a2 (show A1 X.K H1 kd y from ik)
  have ep:=s2 _ _ (s1 _ _ (upd_same (H:=H) (a:=p) (o:=.dK [])))
  refine⟨ep,[(k,u)],rfl,by simp,?_⟩
  have e1:Q4b [] [(k,u)]=[(k,u)]:=rfl
  rw [e1]
  have kp:Kp H2 (upd H2 p (.dK [(k,u)])):=Kp.updM ep (by intro xs z;cases z) (by intro o u z;cases z) _
  have gS:=dA.mono s2
  have h0:H0 p=none:=hR.same.free hp
  have lV:Kp H (upd H2 p (.dK [(k,u)])):=(Kp.of ((sm.trans s1).trans s2)).trans kp
  have jR:∀(j:Nat) (t:Sl),τ[j]?=some (some t)->t.mut=true->σ[j]?≠some (some (.ref p)):=fun j t e m q=>by
   obtain⟨o,ho⟩:=hR.tracked e m q
   rw [hp]at ho;cases ho
  have j6:B5 X.K H0 (τ.set i (some (.dk []))) (σ.set i (some (.ref p))) H2:=gS.set (s:=.dk []) ⟨p,[],rfl,h0,ep,rfl⟩ fun _ j t hj e m q=>jR j t e m q
  have g1:(τ.set i (some (.dk [])))[i]?=some (some (.dk [])):=b9 hl
  have g2:(σ.set i (some (V.ref p)))[i]?=some (some (.ref p)):=b9 (by rw [<- hR.len];exact hl)
  have j5:=j6.mutG (s':=.dk [(k,d)]) (new:=.dK [(k,u)]) g1 rfl g2 h0 ep (by intro xs z;cases z) (by intro o u z;cases z) ⟨p,[(k,u)],rfl,h0,upd_same,⟨u,[],rfl,A1.mono kp _ _ iv,rfl⟩⟩
  rw [List.set_set]at j5
  exact b2 _ _ lV j5
def Q9s (i:Nat) (we wv:WE):WS:=fun E τ=>∃kvs,τ[i]?=some (some (.dk kvs))/\we τ fun rk=>∃kd k,rk=.st kd/\P7 kd=some k/\wv τ fun r=>∃d,r=.st d/\kvs.length<sizeLine /\
 E.nx (if (C7 kvs k).isSome=true then τ else τ.set i (some (.dk (kvs++[(k,d)]))))
theorem W2u {f:Expr}{td ty tx:TE} (ho:PE X o td) (he:PE X e ty) (hf:PE X f tx) (m:M2 X o "setdefault" apos e f bv):PE X (.Call (.Attribute o "setdefault" apos) [e,f] [] bv)
  (fun σ H Q=>td σ H fun x H1=>∃a ps0,x=.ref a/\H1 a=some (.dK ps0)/\ty σ H1 fun y H2=>tx σ H2 fun z H3=>∃ps k,H3 a=some (.dK ps)/\y=kV k/\ps.length<sizeLine/\(∀v,R0 ps k=some v->Q v H3)/\(R0 ps k=none->Q z (upd H3 a (.dK (O0 ps k z))))):=by
 intro ae s σ H Q I h
 refine wpAny_Call_method m.base m.few m.line PySem.F.plainAttrs_dict dX PySem.F.type_dict_setdefault (B2 (ho ae s σ H _ I h) fun u s1 ⟨x,H1,I1,rx,a,ps0,ex,ea,q1⟩=>?_)
 subst ex
 obtain rfl:u=Value.ref a:=rx
 obtain⟨t1,t2,_⟩:=Z9d I1 (.inl ⟨ps0,.inl ea⟩)
 refine⟨t1,t2,?_⟩
 rw [m.trees]
 refine eX rfl (dv (bV (B2 (he ae s1 σ H1 _ I1 q1) fun iv s2 ⟨y,H2,I2,ry,q2⟩ =>
  bV (B2 (hf ae s2 σ H2 _ I2 q2) fun fv s3 ⟨z,H3,I3,rz,ps,k,e3,ey,hz,g1,g2⟩=>cZ ?_))))
 subst ey
 obtain⟨z0,hd,vs,rel,dd⟩:=Q7p I3.hok e3
 have el:vs.length=ps.length:=by rw [<- rel.length]
 have rv:=rel.val k
 refine call_meetsIn dX dd.typeIs PySem.F.entry_dict_setdefault (PySem.F.args_dict_setdefault_3 _ _ _) (kt_meets_setdefault (J9 X.prog X.w) a (Q1v ry) hd fv) ⟨vs,dd,by omega,fun v hv=>?_,fun hn h' gk hs=>?_⟩
 ·rw [hv]at rv
  cases ev:R0 ps k with
  | none=>rw [ev]at rv;exact rv.elim
  | some w=>rw [ev]at rv;exact⟨w,H3,I3.tok _,rv,g1 w ev⟩
 ·rw [hn]at rv
  cases ev:R0 ps k with
  | some w=>rw [ev]at rv;exact rv.elim
  | none =>
   have he:∃q,h'.get? a=some q:=let ⟨q,_,_,hq,_⟩:=gk;⟨q,hq⟩
   have hl:(O0 ps k z).length<=sizeLine:=by have:=Q5w ps k z;omega
   exact⟨z,_,Q2o I3 (by rw [e3];exact True.intro) hs he (Z1l hl hd (rel.put k rz) gk),rz,g2 ev⟩
theorem Y4v {κ:Type} [DecidableEq κ]:∀{kvs:List (κ×D)}{k:κ},C7 kvs k=none->(kvs.any fun kv=>decide (kv.1=k))=false
 | [],_,_=>rfl
 | p::r,k,h=>by
  by_cases e:p.1=k
  ·simp [C7,b7,e]at h
  ·have:C7 r k=none:=by simpa [C7,b7,e]using h
   rw [cO,Y4v this];simp [e]
theorem DS.ksetd {v:Expr} (ho:PE X o (O2 i)) (he:DE X H0 e we) (hv:DE X H0 v wv) (m:M2 X o "setdefault" apos e v bv):DS X H0 (.Expr (.Call (.Attribute o "setdefault" apos) [e,v] [] bv) pos) (Q9s i we wv) where
 mono:=fun τ E F le ⟨kvs,e1,h⟩=>⟨kvs,e1,he.mono τ _ _ (fun r ⟨kd,k,a1,a2,h⟩=>⟨kd,k,a1,a2,hv.mono τ _ _ (fun r ⟨d,b1,b2,b3⟩=>⟨d,b1,b2,le.nx _ b3⟩) h⟩) h⟩
 ps:=Q0 (Z3j (W2u ho he.pe hv.pe m)) fun D σ H ⟨τ,hR,kvs,e1,h⟩=>by
  obtain⟨a,ps,gH,h0,sq,kv⟩:=hR.dkAt e1
  refine⟨_,gH,a,ps,rfl,sq,τ,hR,he.mono τ _ _ (fun rk ⟨kd,k,a1,a2,h⟩ y H1 s1 ik=>?_) h⟩
  subst a1
  have dI:=hR.mono s1
  refine⟨τ,dI,hv.mono τ _ _ (fun r ⟨d,b1,b2,b3⟩ u H2 s2 iv=>?_) h⟩
  subst b1
  have dA:=dI.mono s2
  have cW:=s2 _ _ (s1 _ _ sq)
  have i0:=(kv.mono (Kp.of s1) _ _).mono (Kp.of s2) _ _
  refine⟨ps,k,cW,Q1w a2 (show A1 X.K H1 kd y from ik),by rw [<- B4.length i0];exact b2,fun v hv=>?_,fun hn=>?_⟩
  ·rcases B4.val (k:=k) i0 with⟨n1,n2⟩ | ⟨d',v',n1,n2,n3⟩
   ·rw [hv]at n2;cases n2
   ·rw [n1]at b3
    have b3:(K8 X.K H0 H D).nx τ:=b3
    exact b3 _ _ (Kp.of (s1.trans s2)) dA
  ·rcases B4.val (k:=k) i0 with⟨n1,n2⟩ | ⟨d',v',n1,n2,n3⟩
   ·rw [n1]at b3
    have b3:(K8 X.K H0 H D).nx (τ.set i (some (.dk (kvs++[(k,d)])))):=b3
    have kp:Kp H2 (upd H2 a (.dK (O0 ps k u))):=Kp.updM cW (by intro xs z;cases z) (by intro o u z;cases z) _
    have ek:K9 kvs k d=kvs++[(k,d)]:=by unfold K9;rw [aD (by rw [Y4v n1];simp)]
    refine b3 _ _ ((Kp.of (s1.trans s2)).trans kp) (dA.mutG e1 rfl gH h0 cW (by intro xs z;cases z) (by intro o u z;cases z) ⟨a,_,rfl,h0,upd_same,?_⟩)
    rw [<- ek]
    exact B4.mono kp _ _ (B4.put iv i0)
   ·rw [hn]at n2;cases n2
end
theorem Z7h {X:Cx}{ae:Pn9} {σ:St}{H2 H':Hp}{s2 s1:Shared}{scope:Scope}{C D0:Addr}{fp:List Addr}{N:List Str}{pb:Pn9} {σ':St}{h':Heap}{u0:HO}
  (I2:A0 X ae σ H2 s2) (Ib:A0 (blk X scope C s2 H2 fp N) pb σ' H' s1) (f2:∀b∈fp,K2 X ae H2 b) (hC:s2.heap.objs.size<=C) (hD:s2.heap.objs.size<=D0) (mW:H' D0=none)
  (sb:Heap.SameBut C s1.heap h') (new:G1 X.prog X.w (upd H' D0 u0) h' D0 u0):A0 X ae σ (upd H' D0 u0) { s1 with heap:=h' }:=by
 have jn:∀b o,s2.heap.get? b=some o->b≠C:=fun b o e=>ay (ax (ak e) hC)
 have lN:∀b o,s2.heap.get? b=some o->b≠D0:=fun b o e=>ay (ax (ak e) hD)
 have keep:=Z8v sb
 have base:Un (frs X.stack) fp H2 H' s2.heap s1.heap:=Ib.base
 have mX:H' C=none:=Ib.free
 have hZ:∀b u,H' b=some u->b≠C:=fun b u e z=>by rw [z,mX]at e;cases e
 have gE:∀b u,H' b=some u->b≠D0:=fun b u e z=>by rw [z,mW]at e;cases e
 refine I2.call' (s':={ s1 with heap:=h' }) (ch:=fp) Ib.os ⟨fun b o e n hb hx=>keep b o (jn b o e) (base.keep b o e n hb hx),fun b o e n hb hx=>?_,fun b o e n hx=>?_,fun b o e hx=>?_,fun b xs e=>?_,fun b o u e=>?_,fun b ps e=>?_⟩ (fun b u e=>?_) Ib.bare (fun b hb=>?_)
 ·obtain⟨sl,q⟩:=base.slot b o e n hb hx
  exact⟨sl,keep b _ (jn b o e) q⟩
 ·rw [B0 (lN b o e)];exact base.free b o e n hx
 ·obtain⟨o',q⟩:=base.there b o e hx
  exact⟨o',keep b o' (jn b o e) q⟩
 ·have q:=base.tups b xs e
  rw [B0 (gE b _ q)];exact q
 ·have q:=base.frzs b o u e
  rw [B0 (gE b _ q)];exact q
 ·obtain⟨more,q⟩:=base.tbls b ps e
  exact⟨more,by rw [B0 (gE b _ q)];exact q⟩
 ·by_cases hb:b=D0
  ·subst hb
   rw [upd_same]at e;cases e
   exact new
  ·rw [B0 hb]at e
   refine(Ib.hok b u e).stay (fun c v hc q=>keep c v ?_ q) (fun c u _ q=>by rw [B0 (gE c _ q)];exact q) fun c xs q=>by rw [B0 (gE c _ q)];exact q
   rcases hc with z | z
   ·rw [z];exact hZ b u e
   ·exact hZ c _ z
 ·obtain⟨_,a2,a3,a4,a5,a6⟩:=f2 b hb
  exact⟨a4,a2,a5,a6⟩
section
variable {prog:Program}{w:World}{A:Around}{RR:Result->Shared->Prop}{s:Shared}
theorem Y7k {kx vx target iter:Expr}{scope:Scope}{pos:Pos}{it:Value}{D0:Addr}{env:Env} (I:Nat->Shared->Prop)
  (fx:∀n s,I n s->wpAny (model prog w) A (pyNext it) (fun r s₁=>match r with
   | none=>RR (.ok .next) s₁
   | some v=>wpAny (model prog w) A (letOwnedTupleGo target it v) (fun _ sa=>wpAny (model prog w) A (assign target env v) (fun _ s₃ =>
     wpAny (model prog w) A (eval kx env) (fun x s₄=>wpAny (model prog w) A (eval vx env) (fun y s₅ =>
       wpAny (model prog w) A (dictSet D0 x y) (fun _ s₆=>∃m,m<n/\I m s₆) (fun _ _=>False) s₅) (fun _ _=>False) s₄) (fun _ _=>False) s₃) (fun _ _=>False) sa) (fun _ _=>False) s₁) (fun _ _=>False) s)
  (n:Nat) (h:I n s):codeAny (model prog w) A (.compLoop (.DictComp kx vx [⟨target,iter,[],0⟩] scope pos) 0 it (.ref D0) env) RR s:=by
 refine codeAny_loop rfl I (fun n s hI=>?_) n h
 change wpAny (model prog w) A ((compTurn (.DictComp kx vx [⟨target,iter,[],0⟩] scope pos) 0 it (Value.ref D0) env).onRaise (fun x=>do noteFrame x env;theTreesLotGoes x)) _ _ s
 refine wpAny_noted ?_
 rw [compTurn_dict]
 refine a9 (wpAny_standAt (a9 (aL (fx n s hI) (fun r s₁ h₁=>?_) fun _ _ h'=>h'.elim)))
 cases r with
 | none=>exact af h₁
 | some v =>
  refine a9 (aL h₁ (fun _ sa ha=>a9 (aL ha (fun _ s₃ h₃=>a9 (wpAny_tests_nil ?_)) fun _ _ h'=>h'.elim)) fun _ _ h'=>h'.elim)
  exact a9 (a9 (aL h₃ (fun x s₄ h₄=>a9 (bu (aL h₄ (fun y s₅ h₅=>a9 (wpAny_standAt (bu (aL h₅ (fun _ s₆ h₆=>af ⟨rfl,h₆⟩) fun _ _ h'=>h'.elim)))) fun _ _ h'=>h'.elim))) fun _ _ h'=>h'.elim))
end
noncomputable def U5 (g:WG) (wk wv:WE):List D->A8->List (A7×D)->(List (A7×D)->Prop)->Prop
 | [],_,kvs,Q=>Q kvs
 | d::ds,τ,kvs,Q=>g d τ fun τ'=>wk τ' fun r=>∃kd k,r=.st kd/\P7 kd=some k/\wv τ' fun r2=>∃e,r2=.st e/\U5 g wk wv ds τ' (K9 kvs k e) Q
theorem Z7s {g:WG}{wk wv:WE} (hg:∀d τ (P Q:A8->Prop),(∀ τ,P τ->Q τ)->g d τ P->g d τ Q) (hk:∀(τ:A8) (P Q:R->Prop),(∀r,P r->Q r)->wk τ P->wk τ Q) (hv:∀(τ:A8) (P Q:R->Prop),(∀r,P r->Q r)->wv τ P->wv τ Q) :
  ∀(ds:List D) (τ:A8) (kvs:List (A7×D)) (P Q:List (A7×D)->Prop),(∀es,P es->Q es)->U5 g wk wv ds τ kvs P->U5 g wk wv ds τ kvs Q
 | [],_,_,_,_,f,h=>f _ h
 | d::ds,τ,kvs,P,Q,f,h=>hg d τ _ _ (fun τ' h=>hk τ' _ _ (fun r ⟨kd,k,e1,e2,h⟩=>⟨kd,k,e1,e2,hv τ' _ _ (fun r ⟨e,e1,h⟩=>⟨e,e1,Z7s hg hk hv ds τ' _ _ _ f h⟩) h⟩) h) h
section
variable {X:Cx}{H0:Hp}{tg iter kx vx:Expr}{scope:Scope}{pos bF fb:Pos}{N:List Str}{nt:Nat}{cap:List Nat}{wi:P5}{g:WG}{wk wv:WE}
theorem Y9b {use:Option (Value->Sem Unit)}{QQ:VS9}{P:List (A7×D)->Prop}{gC:Pos}{ae:Pn9}{s:Shared} {σ:St}{H:Hp} {τ:A8} (hc:X.calm=true) (B:J3 X scope N nt cap) (hi:E5 X H0 tg iter wi)
  (hg:∀C s H fp,DG (blk X scope C s H fp N) H tg g) (hk:∀C s H fp,DE (blk X scope C s H fp N) H kx wk) (hv:∀C s H fp,DE (blk X scope C s H fp N) H vx wv) (hs:∀x,foldedSetIterable iter X.env x=pure x)
  (I:A0 X ae σ H s) (hR:B5 X.K H0 τ σ H) (hw:wi τ fun ds=>ds.length<sizeLine/\U5 g wk wv ds (R5 nt cap τ) [] P)
  (fin:∀(C D0:Addr) (s2 s4:Shared) (H2 H4:Hp) (fp:List Addr) (pb:Pn9) (σ4:St) (ps:List (A7×V)) (vs:List (A7×Value)) (kvs:List (A7×D)) (f:Flow),A0 X ae σ H2 s2->A4 H H2->A0 (blk X scope C s2 H2 fp N) pb σ4 H4 s4->(∀b∈fp,K2 X ae H2 b) ->
   s2.heap.objs.size<=C->s2.heap.objs.size<=D0->D0≠C->H4 D0=none->(D0==sysModules)=false->s4.heap.DictOf (J9 X.prog X.w) D0 vs->KV ps vs->ps.length<=sizeLine->A4 H2 H4->B4 X.K H4 kvs ps->P kvs->compPost (model X.prog X.w) X.A X.xe use QQ (.ref D0) C (.ok f) s4) :
  wpAny (model X.prog X.w) X.A (comprehension (.DictComp kx vx [⟨tg,iter,[],0⟩] scope pos) scope X.env gC newDict false (eval iter X.env) use) QQ X.xe s:=by
 refine wpAny_comprehension_free rfl hs (Q7o fun y hy e=>I.ok.has y.1 (B.free y hy e)) B.kind B.names ?_
 refine B2 (hi.pi ae s σ H (fun J H2=>A4 H H2/\∃ds,YlS X.K J ds H2/\ds.length<sizeLine/\U5 g wk wv ds (R5 nt cap τ) [] P) I
  ⟨τ,hR,hi.mono τ _ _ (fun ds h J H' sm yl=>⟨sm,ds,yl,h.1,h.2⟩) hw⟩) fun v s1 h1=>B2 h1 fun iW s2 h2=>?_
 obtain⟨it,fp,tn,J,H2,e,I2,T,dC,f2,cX,ds,yl,hz,jr⟩:=h2
 subst e
 have fG:∀b∈fp,b<s2.heap.objs.size:=fun b hb=>by
  obtain⟨o,ho,_⟩:=T.obj _ _ dC b hb
  exact ak ho
 have dA:=hR.mono cX
 have iq:(s2.heap.objs.size==sysModules)=false:=bT.mpr (bC (ay I2.big))
 refine bt (gn B.cell (by intro y hy;simp at hy) (fun h₁ cF cp=>?_) B.kind)
 dsimp only at cF cp ⊢
 have iC:(s2.heap.push { cls:=.type "dict",dict:=none,data:=.dict #[] }).DictOf (J9 X.prog X.w) s2.heap.objs.size []:=Heap.DictOf.new s2.heap
 generalize hH2:s2.heap.push { cls:=.type "dict",dict:=none,data:=.dict #[] }=Hq at cF cp iC ⊢
 have hC:Hq.objs.size=s2.heap.objs.size+1:=by rw [<- hH2,bn]
 have cI:s2.heap.objs.size≠Hq.objs.size:=by rw [hC];exact ay (cB _)
 have cj:s2.heap.objs.size<=Hq.objs.size:=by rw [hC];exact cx _
 have old:∀b o,s2.heap.get? b=some o->h₁.get? b=some o:=fun b o e=>cp.extBut b o (by rw [hC];exact ay (bx (ak e))) (aa _ (hH2 ▸ aa _ e))
 have dE:h₁.DictOf (J9 X.prog X.w) s2.heap.objs.size []:=iC.at fun o e=>cp.extBut _ _ cI (aa _ e)
 generalize hCe:Hq.objs.size=C at cF cp hC cI cj ⊢
 generalize hDe:s2.heap.objs.size=D0 at hC cI cj dE iq ⊢
 have cR:∀b∈fp,b<D0:=fun b hb=>hDe ▸ fG b hb
 have dO:tn 0 h₁:=T.keep _ _ _ dC fun b _ o e=>old b o e
 have jK:=Q7j (C:=C) (h':=h₁) (t':=s2.toks+([]:List (Str×Value)).length) I2 B f2 fG (by rw [hDe];exact cj) cF old
 have gh:H2 D0=none:=I2.hok.fresh (by rw [hDe];exact ah _)
 have jl:D0∉frs X.stack:=fun z=>by
  rcases aj.mp (I2.stkSub _ z)with e | e
  ·have:=I2.lt;rw [<- e,hDe]at this;exact aO _ this
  ·exact I2.nofs (by rw [hDe];exact ah _) e
 have jm:∀x c,(R9 X.env scope.names []).lookup x=some c->c≠D0:=fun x c h z=>by
  obtain⟨v,q⟩:=I2.cell x c (U4 I2 B h)
  have:=q.lt
  rw [z,hDe]at this
  exact aO _ this
 have kQ:∀{h:Heap}{vs:List (A7×Value)}{o:Obj},h.DictOf (J9 X.prog X.w) D0 vs->h.get? D0=some o->∀v,o.data≠.cell v:=by
  intro h vs o dd e v z
  obtain⟨o',es,ep,e',_,d,_⟩:=dd
  rw [e]at e';cases e'
  rw [d]at z;cases z
 have dM:∀{pb:Pn9} {σ':St}{H':Hp}{s':Shared}{vs:List (A7×Value)}{o:Obj},A0 (blk X scope C s2 H2 fp N) pb σ' H' s'->H' D0=none->s'.heap.DictOf (J9 X.prog X.w) D0 vs->s'.heap.get? D0=some o ->
   A0 (blk X scope C s2 H2 fp N) [(D0,o)] σ' H' s':=by
  intro pb σ' H' s' vs o I' n' dd e
  refine I'.pins_of fun p hp=>?_
  have e':p=(D0,o):=by simpa using hp
  subst e'
  exact⟨e,n',cI,jl,kQ dd e⟩
 have fH:∀{H':Hp}{ob:Obj},(∀b∈fp,H' b=none)->∀b∈fp,K2 (blk X scope C s2 H2 fp N) [(D0,ob)] H' b:=by
  intro H' ob hn b hb
  refine⟨hn b hb,(ay (ax (cR b hb) cj)),fun z=>?_,.inl hb,fun x c h=>(f2 b hb).2.2.2.2.1 x c (U4 I2 B h),fun p hp=>?_⟩
  ·rcases aj.mp (I2.stkSub b z)with e | e
   ·exact(f2 b hb).2.1 e
   ·exact(f2 b hb).2.2.1 e
  ·have e':p=(D0,ob):=by simpa [blk]using hp
   subst e'
   exact(ay (cR b hb)).symm
 let jb:Nat->Shared->Prop:=fun k s'=>∃(i:Nat) (σ':St) (H':Hp) (τ':A8) (ob:Obj) (vs:List (A7×Value)) (ps:List (A7×V)) (kvs:List (A7×D)),A0 (blk X scope C s2 H2 fp N) [(D0,ob)] σ' H' s'/\B5 X.K H2 τ' σ' H'/\tn i s'.heap /\
  (∀b∈fp,H' b=none)/\H' D0=none/\s'.heap.get? D0=some ob/\s'.heap.DictOf (J9 X.prog X.w) D0 vs/\KV ps vs/\B4 X.K H' kvs ps/\i<=ds.length/\k=ds.length-i/\ps.length<=i/\U5 g wk wv (ds.drop i) τ' kvs P
 have loop:∀s₃:Shared,s₃={ s2 with heap:=h₁,toks:=s2.toks+([]:List (Str×Value)).length } ->
   codeAny (model X.prog X.w) X.A (.compLoop (.DictComp kx vx [⟨tg,iter,[],0⟩] scope pos) 0 (.ref it) (.ref D0) (compEnvC scope (R9 X.env scope.names []) C X.env))
    (compPost (model X.prog X.w) X.A X.xe use QQ (.ref D0) C) s₃:=by
  rintro s₃ rfl
  obtain⟨pM,ho⟩:∃o,h₁.get? D0=some o:=by obtain⟨o,_,_,e,_⟩:=id dE;exact⟨o,e⟩
  refine Y7k jb ?_ ds.length ⟨0,_,H2,R5 nt cap τ,pM,[],[],[],dM jK gh dE ho,Z3m dA nt cap,dO,fun b hb=>(f2 b hb).1,gh,ho,dE,.nil,rfl,bp _,rfl,ah _,by simpa using jr⟩
  rintro k s3 ⟨i,σ3,H3,τ3,ob,vs,ps,kvs,I3,R3,fL,fP,d3,o3,oN,lH,nL,nZ,rfl,j2,w3⟩
  have c6:A4 H2 H3:=R3.same
  by_cases bR:i<ds.length
  ·refine aL (T.item (blk X scope C s2 H2 fp N) rfl rfl rfl hc i _ s3 σ3 H3 (fun _ _=>False) I3 (fH fP) fL (yl.go H3 c6 i bR)) (fun r s4 ⟨u,hr,h4⟩=>?_) fun _ _ z=>z
   subst hr
   refine aL h4 (fun _ s5 ⟨x,H5,I5,r5,y5,eD,iK⟩=>?_) fun _ _ z=>z
   obtain⟨g7,ix⟩:=yl.yld H3 c6 i x H5 _ (ac bR) y5
   rw [cG bR]at w3
   have iP:=I5.pinned (fH iK) (T.obj _ _ eD)
   refine aL ((hg C s2 H2 fp).pg _ s5 σ3 H5 x u (fun σ6 H6=>∃ τ6,B5 X.K H2 τ6 σ6 H6/\A4 H5 H6/\wk τ6 fun r=>∃kd k,r=.st kd/\P7 kd=some k/\wv τ6 fun r2=>∃e,r2=.st e/\U5 g wk wv (ds.drop (i+1)) τ6 (K9 kvs k e) P)
    iP r5 ⟨τ3,ds[i],R3.mono g7,ix,(hg C s2 H2 fp).mono _ _ _ _ (fun τ6 h6 σ6 H6 gz R6=>⟨τ6,R6,gz,h6⟩) w3⟩) (fun _ s6 ⟨σ6,H6,I6,τ6,R6,gz,w6⟩=>?_) fun _ _ z=>z
   refine aL ((hk C s2 H2 fp).pe _ s6 σ6 H6 (fun v H7=>A4 H6 H7/\∃kd k,A1 X.K H7 kd v/\P7 kd=some k/\wv τ6 fun r2=>∃e,r2=.st e/\U5 g wk wv (ds.drop (i+1)) τ6 (K9 kvs k e) P) I6
    ⟨τ6,R6,(hk C s2 H2 fp).mono τ6 _ _ (fun r ⟨kd,k,e1,e2,h⟩ v H7 g6 ir=>⟨g6,kd,k,by subst e1;exact ir,e2,h⟩) w6⟩) (fun yk s7 ⟨v7,H7,I7,lG,g6,kd,k,qd,ro,w7⟩=>?_) fun _ _ z=>z
   refine aL ((hv C s2 H2 fp).pe _ s7 σ6 H7 (fun v H8=>A4 H7 H8/\∃e,A1 X.K H8 e v/\U5 g wk wv (ds.drop (i+1)) τ6 (K9 kvs k e) P) I7
    ⟨τ6,R6.mono g6,(hv C s2 H2 fp).mono τ6 _ _ (fun r ⟨e,e1,h⟩ v H8 gy ir=>⟨gy,e,by subst e1;exact ir,h⟩) w7⟩) (fun yv s8 ⟨v8,H8,I8,jg,gy,e8,lX,w8⟩=>?_) fun _ _ z=>z
   have pd:=I8.pin (D0,ob) (am _ (bi _ ar))
   obtain⟨o8,d8,_⟩:=pd
   have kW:A0 (blk X scope C s2 H2 fp N) (U1 fp s5.heap) σ6 H8 s8:=I8.pins_of fun p hp=>I8.pin p (am _ (am _ hp))
   have rB:s8.heap.DictOf (J9 X.prog X.w) D0 vs:=oN.at fun o e=>by rw [o3]at e;cases e;exact o8
   have el:vs.length=ps.length:=by rw [<- lH.length]
   cases Q1w ro qd
   refine wpAny_dictSet_pairs (hsz:=by omega) (Q1v lG) rB fun h₅ np ju=>?_
   have I9:A0 (blk X scope C s2 H2 fp N) (U1 fp s5.heap) σ6 H8 { s8 with heap:=h₅,toks:=s8.toks+1 }:=by
    refine kW.turned (t':=s8.toks+1) (it:=D0) (fun b o hb e=>(ju.2 b hb).trans e) d8 cI (.inr (by rw [<- hDe];exact ah _)) jm (fun p hp z=>?_)
    obtain⟨q1,_⟩:=Q6e (by simpa [blk]using hp)
    exact ay (cR _ q1) z
   obtain⟨pJ,o9⟩:∃o,h₅.get? D0=some o:=by obtain⟨o,_,_,e,_⟩:=id np;exact⟨o,e⟩
   have pG:A4 H3 H8:=g7.trans (gz.trans (g6.trans gy))
   have jZ:tn (i+1) h₅:=T.keep _ _ _ eD fun b hb o e=>(I9.pin (b,o) (am _ (Q0l hb e))).1
   refine⟨ds.length-(i+1),by omega,i+1,σ6,H8,τ6,pJ,stored vs k yv,O0 ps k v8,K9 kvs k e8,dM I9 d8 np o9,R6.mono (g6.trans gy),jZ,fun b hb=>?_,d8,o9,np,lH.put k jg,B4.put lX (nL.mono (Kp.of pG) _ _),bR,rfl,?_,w8⟩
   ·obtain⟨o,e,_⟩:=T.obj _ _ eD b hb
    exact(I9.pin (b,o) (am _ (Q0l hb e))).2.1
   ·have:=Q5w ps k v8;omega
  ·have e:i=ds.length:=by omega
   subst e
   refine aL (T.done (blk X scope C s2 H2 fp N) rfl rfl rfl hc ds.length _ s3 σ3 H3 (fun _ _=>False) I3 (fH fP) fL (yl.stop H3 c6)) (fun r s4 ⟨hr,I4⟩=>?_) fun _ _ z=>z
   subst hr
   have o4:=(I4.pin (D0,_) (am _ ar)).1
   rw [gt]at w3
   have rC:s4.heap.DictOf (J9 X.prog X.w) D0 vs:=oN.at fun o e=>by rw [o3]at e;cases e;exact o4
   exact fin C D0 s2 s4 H2 H3 fp _ σ3 ps vs kvs _ I2 cX I4 f2 (by rw [hDe];exact cj) (by rw [hDe];exact ah _) cI d3 iq rC lH (by omega) c6 nL w3
 exact codeAny_compStart_dict (loop _ rfl) (T.self _ 0 _ _ _ dO (loop _ rfl))
def Z4y (i nt:Nat) (cap:List Nat) (wi:P5) (g:WG) (wk wv:WE):WS:=fun E τ=>wi τ fun ds=>ds.length<sizeLine/\U5 g wk wv ds (R5 nt cap τ) [] fun kvs=>E.nx (τ.set i (some (.dk kvs)))
theorem DS.setKC {i:Nat}{x:Str} (hc:X.calm=true) (B:J3 X scope N nt cap) (hi:E5 X H0 tg iter wi) (hg:∀C s H fp,DG (blk X scope C s H fp N) H tg g) (hk:∀C s H fp,DE (blk X scope C s H fp N) H kx wk)
  (hv:∀C s H fp,DE (blk X scope C s H fp N) H vx wv) (hN:X.N.Nodup) (jC:X.N[i]?=some x) (hx:Loc X.env.scope x)
  (gJ:swapsWith (.DictComp kx vx [⟨tg,iter,[],0⟩] scope pos) (some (.Name x bF)) fb.line X.env=pure true:=by rfl) (hs:∀x,foldedSetIterable iter X.env x=pure x:=by intro _;rfl)
  (hf:X.fn x=true\/X.env.scope.names.lookup x=some .local:=by first | exact .inl rfl | exact .inr rfl | assumption) :
  DS X H0 (.Assign [.Name x bF] (.DictComp kx vx [⟨tg,iter,[],0⟩] scope pos) fb) (Z4y i nt cap wi g wk wv) where
 mono:=fun τ E F le h=>hi.mono τ _ _ (fun ds h=>⟨h.1,Z7s (hg 0 X.s₀ X.H₀ []).mono (hk 0 X.s₀ X.H₀ []).mono (hv 0 X.s₀ X.H₀ []).mono ds _ _ _ _ (fun es h=>le.nx _ h) h.2⟩) h
 ps:=by
  intro ae s σ H D I ⟨τ,hR,hw⟩
  rw [exec_Assign_Name_used _ _ _ _ gJ]
  refine a9 (wpAny_standAt (a9 ?_))
  change wpAny (model X.prog X.w) X.A (do let _ <- comprehension (.DictComp kx vx [⟨tg,iter,[],0⟩] scope pos) scope X.env _ newDict false (eval iter X.env) (some (assign (.Name x bF) X.env))) _ _ s
  refine a9 (aL (Y9b (use:=some (assign (.Name x bF) X.env)) (QQ:=fun _ s'=>SP X ae D .next s') hc B hi hg hk hv hs I hR hw fun C D0 s2 s4 H2 H4 fp pb σ4 ps vs kvs f I2 cX I4 f2 hC hD cI hn iq dd rk hz gw kv w3=>?_)
   (fun _ s' hq=>af (af hq)) fun _ _ e=>e)
  have Ib:A0 X ae σ (upd H4 D0 (.dK ps)) { s4 with heap:=s4.heap }:=Z7h I2 I4 f2 hC hD hn ⟨rfl,fun _ _=>rfl⟩ ⟨hz,iq,vs,rk,dd⟩
  have j8:C≠X.env.locals:=fun z=>aO _ (ax I2.lt (z ▸ hC))
  have j7:∀x c,X.env.cells.lookup x=some c->c≠C:=fun x c h z=>by
   obtain⟨v,q⟩:=I2.cell x c h
   exact aO _ (ax q.lt (z ▸ hC))
  change wpAny (model X.prog X.w) X.A (assign (.Name x bF) X.env (Value.ref D0)) _ _ s4
  refine wpAny_assign_Name (Q9h (v:=.ref D0) Ib hN jC hx rfl (fun s5 I5 ⟨a,k9,ha⟩=>?_) hf)
  obtain⟨m4,iE,_⟩:=id I4.loc
  have kN:C≠a:=by
   rcases ha with ha | ha
   ·rw [ha];exact j8
   ·exact fun z=>j7 _ _ ha z.symm
  refine⟨m4,iE.sameBut k9 kN,fun h' sb=>?_⟩
  have kO:H4 C=none:=I4.free
  have I6:A0 X ae (σ.set i (some (.ref D0))) (upd H4 D0 (.dK ps)) { s5 with heap:=h' }:=by
   refine I5.turned (t':=s5.toks) (it:=C) (fun b o hb e=>(sb.2 b hb).trans e) (by rw [B0 (bC cI)];exact kO) j8 (.inr (aR I2.sz hC)) j7 fun p hp z=>?_
   have:=(I2.pin p hp).1
   exact aO _ (ax (ak this) (z ▸ hC))
  have gZ:A4 H (upd H4 D0 (.dK ps)):=cX.trans (gw.trans (D5 hn _))
  have cM:=(hR.mono gZ).set (i:=i) (s:=.dk kvs) (v:=.ref D0) ⟨D0,ps,rfl,hR.same.free (cX.free (I2.hok.fresh hD)),upd_same,kv.mono (Kp.of (D5 hn _)) _ _⟩ fun _ j t hj e m q=>by
   obtain⟨o,ho⟩:=hR.tracked e m q
   rw [cX.free (I2.hok.fresh hD)]at ho;cases ho
  exact⟨_,_,I6,w3 _ _ (Kp.of gZ) cM⟩
end
noncomputable def kyD:A7->D
 | .inl i=>.int i
 | .inr x=>.str x
noncomputable def Q2z:List R->(R->Prop)->Prop
 | [.dk kvs],Q=>Q (.nw (kvs.map fun p=>kyD p.1))
 | _,_=>False
theorem Z9r {rs:List R}{Q:R->Prop} (h:Q2z rs Q):∃kvs,rs=[.dk kvs]/\Q (.nw (kvs.map fun p=>kyD p.1)):=by
 unfold Q2z at h
 split at h
 ·exact⟨_,rfl,h⟩
 ·exact h.elim
theorem W0a:Q1o Q2z:=fun x P Q g h=>by
 obtain⟨kvs,rfl,h⟩:=Z9r h
 exact g _ h
theorem Z0v {K:Fg9}{H:Hp}:∀(ps:List (A7×V)),AllS K H (ps.map fun p=>kyD p.1) (ps.map fun p=>kV p.1)
 | []=>AllS.nil
 | (.inl i,v)::r=>AllS.cons A1.s_int (Z0v r)
 | (.inr x,v)::r=>AllS.cons A1.s_str (Z0v r)
theorem B4.keysEq {K:Fg9}{H:Hp}:∀{kvs:List (A7×D)}{ps:List (A7×V)},B4 K H kvs ps->(kvs.map fun p=>kyD p.1)=ps.map fun p=>kyD p.1
 | [],ps,h=>by unfold B4 at h;subst h;rfl
 | p::kvs,ps,h=>by
  unfold B4 at h
  obtain⟨v,r,rfl,iv,h⟩:=h
  rw [ao,ao,B4.keysEq h]
section
variable {X:Cx}
theorem Y6w (hc:X.calm=true):Q1j X (.type "list") Q2z:=by
 intro ae s σ H xs us Q I rv ⟨rs,cq,h⟩
 obtain⟨kvs,rfl,h⟩:=Z9r h
 obtain⟨v,rfl,ir⟩:=V3 cq
 obtain⟨a,ps,rfl,e,kv⟩:=ir
 obtain⟨u,rfl,ru⟩:=T5 rv
 cases ru
 obtain⟨z,hd,vs,rel,dd⟩:=Q7p I.hok e
 obtain⟨ep,da⟩:=dd.dictAt
 have el:vs.length=ps.length:=by rw [<- rel.length]
 refine PySem.W.kdl_call (PySem.W.kdl_dict (knd:=J9 X.prog X.w) (kvs:=vs) (ep:=ep) hd) (I.ok.hd hc) da (by omega) fun h' tk c9 c' k e2 it=>?_
 have hn:H s.heap.objs.size=none:=I.hok.fresh (ah _)
 have vl:B9 (ps.map fun p=>kV p.1) c9.toList:=by
  have key:∀(ps:List (A7×V)) (vs:List (A7×Value)) (us:List Value),KV ps vs->us.length=vs.length->(∀(j:Nat) (v:Value),us[j]?=some v->∃k x,vs[j]?=some (k,x)/\(J9 X.prog X.w).is k v=true)->B9 (ps.map fun p=>kV p.1) us:=by
   intro ps
   induction ps with
   | nil=>intro vs us r l _;cases r;cases us with
    | nil=>exact .nil
    | cons _ _=>cases l
   | cons p ps ih =>
    intro vs us r l f
    cases r with
    | @cons _ q _ qs h1 t =>
     cases us with
     | nil=>cases l
     | cons u us =>
      obtain⟨k,x,e1,e2⟩:=f 0 u rfl
      cases e1
      refine .cons ?_ (ih qs us t (by simpa using l) fun j v e=>f (j+1) v (by simpa using e))
      have h1:p.1=k:=h1.1
      show B7 (kV p.1) u
      rw [h1]
      rcases Q0i e2 with⟨i,t,rfl,rfl⟩ | ⟨i,t,rfl,rfl⟩
      ·exact⟨t,rfl⟩
      ·exact⟨t,rfl⟩
  refine key ps vs c9.toList rel (by rw [bU];exact it.1) fun j v e=>it.2 j v (by rw [<- Array.getElem?_toList];exact e)
 refine⟨.ref s.heap.objs.size,_,I.laid (t':=tk) (o:=.lst (ps.map fun p=>kV p.1)) k (ah _) ⟨by rw [ag];exact z,c9.toList,c',vl,by simpa using e2⟩,rfl,h _ _ (D5 hn _) ⟨_,_,rfl,hn,upd_same,?_⟩⟩
 rw [B4.keysEq kv]
 exact Z0v ps
noncomputable def Q0k:List R->(R->Prop)->Prop
 | [r],Q=>∃ns:List Int,P9 r=some (ns.map .int)/\ns≠[]/\∀m,m∈ns->(∀n∈ns,n<=m)->Q (.st (.int m))
 | _,_=>False
theorem Y0f:Q1o Q0k:=fun x P Q g h=>by
 unfold Q0k at h ⊢
 split at h
 ·obtain⟨ns,a,b,c⟩:=h
  exact⟨ns,a,b,fun m h1 h2=>g _ (c m h1 h2)⟩
 ·exact h
theorem Z6z (f:Nat->Int):∀k,argBest (fun i j=>decide (f i > f j)) k<=k/\∀j,j<=k->f j<=f (argBest (fun i j=>decide (f i > f j)) k)
 | 0=>⟨ah _,fun j hj=>by rw [Nat.le_zero.mp hj];exact Int.le_refl _⟩
 | k+1=>by
  obtain⟨h1,h2⟩:=Z6z f k
  unfold argBest
  by_cases e:f (k+1) > f (argBest (fun i j=>decide (f i > f j)) k)
  ·rw [aI (by simpa using e)]
   refine⟨ah (k+1),fun j hj=>?_⟩
   by_cases z:j<=k
   ·exact Int.le_trans (h2 j z) (Int.le_of_lt e)
   ·rw [show j=k+1 by omega];exact Int.le_refl _
  ·rw [aD (by simpa using e)]
   refine⟨Nat.le_succ_of_le h1,fun j hj=>?_⟩
   by_cases z:j<=k
   ·exact h2 j z
   ·rw [show j=k+1 by omega];omega
theorem Z8y:∀{ns:List Int}{aS:List Value},B9 (ns.map V.int) aS->∃xs:List (Int×Tok),aS=xs.map (fun p=>Value.int p.1 p.2)/\xs.map (·.1)=ns
 | [],aS,r=>by cases r;exact⟨[],rfl,rfl⟩
 | n::ns,aS,r=>by
  cases r with
  | cons h t =>
   obtain⟨tk,e⟩:=h
   obtain⟨xs,e1,e2⟩:=Z8y (ns:=ns) t
   exact⟨(n,tk)::xs,by rw [e,e1];rfl,by rw [ao,e2]⟩
theorem Z6w {K:Fg9}{H:Hp}:∀{ns:List Int}{xs:List V},AllS K H (ns.map .int) xs->xs=ns.map V.int
 | [],xs,h=>by unfold List.map AllS at h;exact h
 | n::ns,xs,h=>by
  rw [ao]at h
  unfold AllS at h
  obtain⟨v,r,rfl,i,t⟩:=h
  unfold A1 at i
  rw [i,Z6w t];rfl
theorem Z7l (hc:X.calm=true):Q1j X (.builtin "max") Q0k:=by
 intro ae s σ H xs us Q I rv ⟨rs,cq,h⟩
 unfold Q0k at h
 split at h
 ·rename_i r
  obtain⟨ns,e1,cA,h⟩:=h
  obtain⟨v,rfl,ir⟩:=V3 cq
  obtain⟨l,ys,rfl,sq,al⟩:=Q1a e1 ir
  obtain⟨u,rfl,ru⟩:=T5 rv
  cases ru
  have ey:=Z6w al
  subst ey
  obtain⟨aS,hJ,pl,hz⟩:=I.list sq
  obtain⟨ps,ei,en⟩:=Z8y hJ
  subst ei
  have hit:s.heap.IsList l (intItems ps.toArray):=by
   have:=pl.isList
   have e:intItems ps.toArray=(ps.map fun p=>Value.int p.1 p.2).toArray:=by simp [intItems]
   rw [e];exact this
  have i6:0<ps.toArray.size:=by
   cases ps with
   | nil=>exact absurd en.symm cA
   | cons _ _=>simp
  refine max_intList (I.ok.hd hc) hit i6 fun v h' tk e k=>?_
  obtain⟨b1,b2⟩:=Z6z (numAt ps.toArray) (ps.toArray.size-1)
  obtain⟨t,et⟩:=intItems_at e
  subst et
  generalize argBest (fun i j=>decide (numAt ps.toArray i > numAt ps.toArray j)) (ps.toArray.size-1)=k0 at b1 b2 e
  have at_:∀j,j<ps.length->ns[j]?=some (numAt ps.toArray j):=fun j hj=>by
   rw [<- en,ai,ac hj]
   simp [numAt,hj]
  have qy:k0<ps.length:=by
   have:ps.toArray.size=ps.length:=by simp
   omega
  refine⟨.int (numAt ps.toArray k0),H,I.kept k,⟨t,rfl⟩,h _ (aC (at_ k0 qy)) (fun n hn=>?_) _ _ (A4.refl _) Z7⟩
  obtain⟨j,hj,e⟩:=List.getElem_of_mem hn
  have hl:ns.length=ps.length:=by rw [<- en,ag]
  have:=at_ j (by omega)
  rw [ac hj,e]at this
  rw [aB this]
  exact b2 j (by
   have:ps.toArray.size=ps.length:=by simp
   omega)
 ·exact h.elim
end
theorem LO.ok {P:Program}{w:World}{H:Hp}{h:Heap}{b:Addr}{xs:List V} (g:LO b xs h):G1 P w H h b (.ext (LO b xs)):=by
 obtain⟨z,aS,n,r,e⟩:=id g
 exact⟨g,⟨_,e⟩,fun h1 h2 ⟨z,aS,n,r,e⟩ k=>⟨z,aS,n,r,k _ e⟩⟩
noncomputable def K0:Option Sl->Bool
 | some (.ll _ _)=>false
 | _=>true
noncomputable def Y6:Nat->A8->Bool
 | _,[]=>true
 | 0,_::r=>r.all K0
 | i+1,s::r=>K0 s&&Y6 i r
theorem Z3f:∀{i:Nat} {τ:A8}{j:Nat}{a:Addr}{dss:List (List D)},Y6 i τ=true->j≠i->τ[j]?≠some (some (.ll a dss))
 | _,[],j,a,dss,_,_=>by simp
 | 0,s::r,0,a,dss,_,h=>absurd rfl h
 | 0,s::r,j+1,a,dss,h,_=>fun e=>by
  have e:r[j]?=some (some (.ll a dss)):=by simpa using e
  have:=bX.mp h _ (aC e)
  cases this
 | i+1,s::r,0,a,dss,h,_=>fun e=>by
  have e:s=some (.ll a dss):=by simpa using e
  subst e
  simp [Y6,K0]at h
 | i+1,s::r,j+1,a,dss,h,n=>fun e=>by
  rw [Y6,cg]at h
  exact Z3f (i:=i) (j:=j) h.2 (fun z=>n (by rw [z])) (by simpa using e)
theorem J7.length {K:Fg9}{H:Hp}:∀{bs:List Addr}{dss:List (List D)},J7 K H bs dss->bs.length=dss.length
 | [],_,h=>by rw [show _=[]from h];rfl
 | b::bs,_,h=>by obtain⟨ds,r,rfl,_,t⟩:=h;rw [az,az,t.length]
theorem J7.get {K:Fg9}{H:Hp}:∀{bs:List Addr}{dss:List (List D)}{j:Nat},J7 K H bs dss->j<dss.length->∃b xs,bs[j]?=some b/\H b=some (.ext (LO b xs))/\AllS K H (dss.getD j []) xs
 | [],_,j,h,l=>by rw [show _=[]from h]at l;simp at l
 | b::bs,_,0,h,l=>by obtain⟨ds,r,rfl,⟨xs,q,al⟩,t⟩:=h;exact⟨b,xs,rfl,q,al⟩
 | b::bs,_,j+1,h,l=>by
  obtain⟨ds,r,rfl,_,t⟩:=h
  obtain⟨b',xs,e,q,al⟩:=J7.get (j:=j) t (by simpa using l)
  exact⟨b',xs,by simpa using e,q,by simpa using al⟩
theorem J7.mem {K:Fg9}{H:Hp}:∀{bs:List Addr}{dss:List (List D)}{b:Addr},J7 K H bs dss->b∈bs->∃xs,H b=some (.ext (LO b xs))
 | [],_,b,h,l=>by cases l
 | c::bs,_,b,h,l=>by
  obtain⟨ds,r,rfl,⟨xs,q,al⟩,t⟩:=h
  rcases aj.mp l with rfl | l
  ·exact⟨xs,q⟩
  ·exact t.mem l
theorem J7.set {K:Fg9}{H H':Hp} (k:Kp H H') {b0:Addr}{lm:List D}{ic:List V} (h0:H' b0=some (.ext (LO b0 ic))) (p6:AllS K H' lm ic) (eG:∀b φ,b≠b0->H b=some (.ext φ)->H' b=some (.ext φ)) :
  ∀{bs:List Addr}{dss:List (List D)}{j:Nat},bs.Nodup->J7 K H bs dss->bs[j]?=some b0->J7 K H' bs (dss.set j lm)
 | [],_,j,_,h,e=>by simp at e
 | b::bs,_,0,n,h,e=>by
  obtain⟨ds,r,rfl,⟨xs,q,al⟩,t⟩:=h
  have e:b=b0:=by simpa using e
  subst e
  rw [bA]at n
  refine⟨lm,r,rfl,⟨ic,h0,p6⟩,?_⟩
  have same:∀{cs:List Addr}{ess:List (List D)},b∉cs->J7 K H cs ess->J7 K H' cs ess:=by
   intro cs
   induction cs with
   | nil=>intro ess _ h;exact h
   | cons c cs ih =>
    intro ess nb h
    obtain⟨ds,r,rfl,⟨xs,q,al⟩,t⟩:=h
    exact⟨ds,r,rfl,⟨xs,eG c _ (fun z=>nb (by rw [z];exact ar)) q,al.mono k _ _⟩,ih (fun z=>nb (av _ z)) t⟩
  exact same n.1 t
 | b::bs,_,j+1,n,h,e=>by
  obtain⟨ds,r,rfl,⟨xs,q,al⟩,t⟩:=h
  rw [bA]at n
  have e:bs[j]?=some b0:=by simpa using e
  exact⟨ds,r.set j lm,rfl,⟨xs,eG b _ (fun z=>n.1 (by rw [z];exact aC e)) q,al.mono k _ _⟩,J7.set k h0 p6 eG n.2 t e⟩
section
variable {X:Cx}{H0:Hp}{o e f v:Expr}{pos apos bv sp:Pos}{we wv:WE}{i:Nat}
theorem W2v {td ty:TE} (ho:PE X o td) (he:PE X e ty) (m:M1 X o "append" apos e bv):PE X (.Call (.Attribute o "append" apos) [e] [] bv)
  (fun σ H Q=>td σ H fun x H1=>∃b ic,x=.ref b/\H1 b=some (.ext (LO b ic))/\ty σ H1 fun y H2=>∃xs,H2 b=some (.ext (LO b xs))/\xs.length<sizeLine/\Q .non (upd H2 b (.ext (LO b (xs++[y]))))):=by
 intro ae s σ H Q I h
 refine wpAny_Call_method m.base m.few m.line PySem.F.plainAttrs_list PySem.F.slot_list_append PySem.F.type_list_append (B2 (ho ae s σ H _ I h) fun u s1 ⟨x,H1,I1,rx,b,ic,ex,eb,q1⟩=>?_)
 subst ex
 obtain rfl:u=Value.ref b:=rx
 obtain⟨_,q8,n0,_,e0⟩:=(show LO b ic s1.heap from(I1.hok b _ eb).1)
 refine⟨⟨_,e0,rfl⟩,fun c ec=>?_,?_⟩
 ·cases ec;exact⟨_,e0,rfl⟩
 rw [m.trees]
 refine eX rfl (dv (bV (B2 (he ae s1 σ H1 _ I1 q1) fun yv s2 ⟨y,H2,I2,ry,xs,e2,hz,q2⟩=>cZ ?_)))
 obtain⟨z2,aS,n,rv,e3⟩:=(show LO b xs s2.heap from(I2.hok b _ e2).1)
 have el:=rv.length
 refine wpAny_list_append_plain (hsz:=by rw [aE];omega) ⟨n,e3⟩ fun h' hl hs=>⟨.non,_,?_,rfl,q2⟩
 obtain⟨n',e4⟩:=hl
 refine Q2o (t':=s2.toks) I2 (by rw [e2];exact True.intro) hs ⟨_,e4⟩ (LO.ok ⟨by rw [aA];show xs.length+1<=_;omega,aS++[yv],n',rv.append (.cons ry .nil),by simpa using e4⟩)
theorem B5.llAt {K:Fg9}{H:Hp} {τ:A8} {σ:St}{a:Addr}{dss:List (List D)} (hR:B5 K H0 τ σ H) (e1:τ[i]?=some (some (.ll a dss))):σ[i]?=some (some (.ref a))/\Q4z K H0 H a dss:=by
 obtain⟨v,hv,rfl,q⟩:=hR.here i _ e1
 exact⟨hv,q⟩
theorem B5.llset {K:Fg9}{H:Hp} {τ:A8} {σ:St}{a b:Addr}{dss:List (List D)}{j:Nat}{ds:List D}{bs:List Addr}{o:Obj}{ic xs:List V} (hR:B5 K H0 τ σ H) (e1:τ[i]?=some (some (.ll a dss))) (hv:σ[i]?=some (some (.ref a))) (only:Y6 i τ=true)
  (ha:H a=some (.frz o (.lst (bs.map V.ref)))) (nd:bs.Nodup) (h0:∀b∈bs,H0 b=none) (ll:J7 K H bs dss) (ej:bs[j]?=some b) (eb:H b=some (.ext (LO b ic))) (al:AllS K H ds xs) :
  Kp H (upd H b (.ext (LO b xs)))/\B5 K H0 (τ.set i (some (.ll a (dss.set j ds)))) σ (upd H b (.ext (LO b xs))):=by
 have kp:Kp H (upd H b (.ext (LO b xs))):=Kp.updM eb (by intro xs z;cases z) (by intro o u z;cases z) _
 have hl:i<τ.length:=(aG.mp e1).1
 have qQ:H0 b=none:=h0 b (aC ej)
 have jk:∀(j:Nat) (t:Sl),(τ.set i (some (.ll a (dss.set j ds))))[j]?=some (some t)->j≠i->τ[j]?=some (some t):=fun j t e hj=>by rw [aF (fun z=>hj z.symm)]at e;exact e
 have ne:∀c u,H c=some u->(∀ φ,u≠.ext φ)->upd H b (.ext (LO b xs)) c=some u:=fun c u q n=>by rw [B0 (W8 q eb (n _))];exact q
 refine⟨kp,by rw [bJ];exact hR.len,fun c u q=>by rw [B0 (fun z=>by rw [z,qQ]at q;cases q)];exact hR.same c u q,fun k t e=>?_,fun k l t u w cA e2 e3 m1 m2 q1 q2=>?_⟩
 ·by_cases hk:k=i
  ·subst hk
   rw [b9 hl]at e;cases e
   refine⟨_,hv,rfl,bs,o,kp.frz _ _ _ ha,nd,h0,J7.set kp upd_same (al.mono kp _ _) (fun c φ hc q=>by rw [B0 hc];exact q) nd ll ej⟩
  ·rw [aF (fun z=>hk z.symm)]at e
   obtain⟨w,q,r⟩:=hR.here k t e
   refine⟨w,q,?_⟩
   cases t with
   | dat d=>exact A1.mono kp _ _ r
   | own es=>obtain⟨c,ys,e,n,q,t⟩:=r;exact⟨c,ys,e,n,ne _ _ q (by intro φ z;cases z),t.mono kp _ _⟩
   | bor es=>obtain⟨c,ys,e,q,t⟩:=r;exact⟨c,ys,e,q,t.mono kp _ _⟩
   | bd es=>obtain⟨c,ys,e,q,t⟩:=r;exact⟨c,ys,e,q,t.mono kp _ _⟩
   | dk es=>obtain⟨c,ys,e,n,q,t⟩:=r;exact⟨c,ys,e,n,ne _ _ q (by intro φ z;cases z),t.mono kp _ _⟩
   | dt es=>obtain⟨c,ys,e,n,q,t⟩:=r;exact⟨c,ys,e,n,ne _ _ q (by intro φ z;cases z),t.mono kp _ _⟩
   | ob _=>exact r
   | cl _ _=>exact⟨r.1,r.2.2 _ _ kp r.2.1,r.2.2⟩
   | ll a' d'=>exact absurd e (Z3f only hk)
   | ins _ _ _=>obtain⟨e,n,dx,ys,q,t⟩:=r;exact⟨e,n,dx,ys,ne _ _ q (by intro φ z;cases z),t.mono kp _ _⟩
 ·by_cases hk:k=i
  ·subst hk;rw [b9 hl]at e2;cases e2;cases m1
  ·by_cases jQ:l=i
   ·subst jQ;rw [b9 hl]at e3;cases e3;cases m2
   ·rw [aF (fun z=>hk z.symm)]at e2
    rw [aF (fun z=>jQ z.symm)]at e3
    exact hR.apart k l t u w cA e2 e3 m1 m2 q1 q2
def Q6t (i:Nat) (we wv:WE):WS:=fun E τ=>∃a dss,τ[i]?=some (some (.ll a dss))/\Y6 i τ=true/\we τ fun r=>∃k j,r=.st (.int k)/\ixN dss.length k=some j/\wv τ fun r2=>∃d,r2=.st d/\(dss.getD j []).length<sizeLine /\
 E.nx (τ.set i (some (.ll a (dss.set j (dss.getD j []++[d])))))
theorem DS.llapp {b:Expr} (ho:PE X b (O2 i)) (he:DE X H0 e we) (hv:DE X H0 v wv) (hpl:Z0o e) (m:M1 X (.Subscript b e pos) "append" apos v bv) (gJ:swapsWith (.Call (.Attribute (.Subscript b e pos) "append" apos) [v] [] bv) none sp.line X.env=pure false:=by rfl) :
  DS X H0 (.Expr (.Call (.Attribute (.Subscript b e pos) "append" apos) [v] [] bv) sp) (Q6t i we wv) where
 mono:=fun τ E F le ⟨a,dss,e1,o,h⟩=>⟨a,dss,e1,o,he.mono τ _ _ (fun r ⟨k,j,a1,a2,h⟩=>⟨k,j,a1,a2,hv.mono τ _ _ (fun r ⟨d,b1,b2,b3⟩=>⟨d,b1,b2,le.nx _ b3⟩) h⟩) h⟩
 ps:=Q0 (Z3j (W2v (Y1j Z9i ho he.pe hpl) hv.pe m) gJ) fun D σ H ⟨τ,hR,a,dss,e1,only,h⟩=>by
  obtain⟨gH,_⟩:=hR.llAt e1
  refine⟨_,gH,τ,hR,he.mono τ _ _ (fun r ⟨k,j,a1,a2,h⟩ y H1 s1 ik=>?_) h⟩
  subst a1
  cases (show y=.int k from ik)
  have dI:=hR.mono s1
  obtain⟨_,bs,ob,ha,nd,h0,ll⟩:=dI.llAt e1
  have el:=ll.length
  obtain⟨_,hj,_,_⟩:=Z9h a2
  obtain⟨b0,xs,ej,eb,al⟩:=ll.get hj
  have hq:C9 X.K H1 a (bs.map V.ref):=(FzL.sq (.inl ⟨ob,ha⟩))
  have qR:M7 (bs.map V.ref) k=some (V.ref b0):=by unfold M7;rw [ag,el,a2];show(bs.map V.ref)[j]?=_;rw [ai,ej];rfl
  refine⟨a,bs.map V.ref,k,V.ref b0,rfl,rfl,hq,qR,b0,xs,rfl,eb,τ,dI,hv.mono τ _ _ (fun r ⟨d,b1,b2,b3⟩ u H2 s2 iv=>?_) h⟩
  subst b1
  have dA:=dI.mono s2
  have cJ:=al.mono (Kp.of s2) _ _
  refine⟨xs,s2 _ _ eb,by rw [<- al.length];exact b2,?_⟩
  obtain⟨kp,gS⟩:=dA.llset (xs:=xs++[u]) (ds:=dss.getD j []++[d]) e1 gH only (s2 _ _ ha) nd h0 (ll.keep (Kp.of s2) fun b φ q=>s2 _ _ q) ej (s2 _ _ eb) (cJ.append (AllS.cons iv AllS.nil))
  exact b3 _ _ ((Kp.of (s1.trans s2)).trans kp) gS
theorem Y8p {ae:Pn9} {σ:St}{H:Hp}{s:Shared}{b:Addr}{xs:List V} (I:A0 X ae σ H s) (h:H b=some (.ext (LO b xs))):∃o,A0 X ae σ (upd H b (.frz o (.lst xs))) s:=by
 obtain⟨z,aS,n,r,q⟩:=(show LO b xs s.heap from(I.hok b _ h).1)
 refine⟨_,I.write (t':=s.toks) (h':=s.heap) (e:=b) (o:=.frz { cls:=.type "list",data:=.seq aS.toArray n } (.lst xs)) (by rw [h];trivial) (.inl rfl) (fun b u _ k=>k) ⟨_,q⟩ ?_⟩
 exact⟨q,z,aS,n,r,q⟩
theorem Z8z {ae:Pn9} {σ:St}{s:Shared}:∀{bs:List Addr}{dss:List (List D)}{H:Hp},A0 X ae σ H s->bs.Nodup->J7 X.K H bs dss ->
  ∃H',A0 X ae σ H' s/\Kp H H'/\(∀c,c∉bs->H' c=H c)/\(∀c u,H c=some u->(∀ φ,u≠.ext φ)->H' c=some u)/\AllS X.K H' (dss.map .lst) (bs.map V.ref)
 | [],dss,H,I,_,h=>by
  rw [show dss=[]from h]
  exact⟨H,I,Kp.refl H,fun _ _=>rfl,fun _ _ q _=>q,AllS.nil⟩
 | b::bs,dss,H,I,n,h=>by
  obtain⟨ds,r,rfl,⟨xs,q,al⟩,t⟩:=h
  rw [bA]at n
  obtain⟨o,I1⟩:=Y8p I q
  have kp:Kp H (upd H b (.frz o (.lst xs))):=Kp.updM q (by intro xs z;cases z) (by intro o u z;cases z) _
  have t1:J7 X.K (upd H b (.frz o (.lst xs))) bs r:=by
   have same:∀{cs:List Addr}{ess:List (List D)},b∉cs->J7 X.K H cs ess->J7 X.K (upd H b (.frz o (.lst xs))) cs ess:=by
    intro cs
    induction cs with
    | nil=>intro ess _ h;exact h
    | cons c cs ih =>
     intro ess nb h
     obtain⟨ds,r,rfl,⟨xs,q,al⟩,t⟩:=h
     exact⟨ds,r,rfl,⟨xs,by rw [B0 (fun z=>nb (by rw [z];exact ar))];exact q,al.mono kp _ _⟩,ih (fun z=>nb (av _ z)) t⟩
   exact same n.1 t
  obtain⟨H',I2,k2,o2,e2,cJ⟩:=Z8z I1 n.2 t1
  refine⟨H',I2,kp.trans k2,fun c hc=>?_,fun c u hq hu=>?_,AllS.cons (A1.s_lst (.inl ⟨o,k2.frz _ _ _ upd_same⟩) ((al.mono kp _ _).mono k2 _ _)) cJ⟩
  ·rw [o2 c (fun z=>hc (av _ z)),B0 (fun z=>hc (by rw [z];exact ar))]
  ·exact e2 c u (by rw [B0 (W8 hq q (hu _))];exact hq) hu
def Z4w (i:Nat) (w:WS):WS:=fun E τ=>w { E with nx:=fun τ'=>∃a dss,τ'[i]?=some (some (.ll a dss))/\Y6 i τ'=true/\E.nx (τ'.set i (some (.dat (.lst (dss.map .lst))))) } τ
theorem DS.fzL {st:Stmt}{w:WS} (i:Nat) (h:DS X H0 st w):DS X H0 st (Z4w i w) where
 mono:=fun τ E F le q=>h.mono τ { E with nx:=fun τ'=>∃a dss,τ'[i]?=some (some (.ll a dss))/\Y6 i τ'=true/\E.nx (τ'.set i (some (.dat (.lst (dss.map .lst))))) } { F with nx:=fun τ'=>∃a dss,τ'[i]?=some (some (.ll a dss))/\Y6 i τ'=true/\F.nx (τ'.set i (some (.dat (.lst (dss.map .lst))))) }
  ⟨fun τ' ⟨a,dss,e,o,q⟩=>⟨a,dss,e,o,le.nx _ q⟩,le.rt,le.bk,le.ct⟩ q
 ps:=Q0 (Q8k h.ps) fun D σ H ⟨τ,hR,q⟩=>⟨τ,hR,h.mono τ { K8 X.K H0 H D with nx:=fun τ'=>∃a dss,τ'[i]?=some (some (.ll a dss))/\Y6 i τ'=true/\(K8 X.K H0 H D).nx (τ'.set i (some (.dat (.lst (dss.map .lst))))) } _
  ⟨fun τ' ⟨a,dss,e,only,q⟩ σ' H' kp cM ae s I=>by
   obtain⟨hv,bs,ob,ha,nd,h0,ll⟩:=cM.llAt e
   obtain⟨H2,I2,k2,o2,e2,cJ⟩:=Z8z I nd ll
   have hl:i<τ'.length:=(aG.mp e).1
   refine⟨H2,I2,q σ' _ (kp.trans k2) ⟨by rw [bJ];exact cM.len,fun c u hq=>?_,fun k t et=>?_,fun k l t u w cA et eu m1 m2 q1 q2=>?_⟩⟩
   ·rw [o2 c (fun z=>by rw [h0 c z]at hq;cases hq)];exact cM.same c u hq
   ·by_cases hk:k=i
    ·subst hk
     rw [b9 hl]at et;cases et
     exact⟨_,hv,A1.s_lst (K:=X.K) (.inl ⟨ob,k2.frz _ _ _ ha⟩) cJ⟩
    ·rw [aF (fun z=>hk z.symm)]at et
     obtain⟨w,q,r⟩:=cM.here k t et
     refine⟨w,q,?_⟩
     cases t with
     | dat d=>exact A1.mono k2 _ _ r
     | own es=>obtain⟨c,ys,e,n,q,t⟩:=r;exact⟨c,ys,e,n,e2 _ _ q (by intro φ z;cases z),t.mono k2 _ _⟩
     | bor es=>obtain⟨c,ys,e,q,t⟩:=r;exact⟨c,ys,e,q,t.mono k2 _ _⟩
     | bd es=>obtain⟨c,ys,e,q,t⟩:=r;exact⟨c,ys,e,q,t.mono k2 _ _⟩
     | dk es=>obtain⟨c,ys,e,n,q,t⟩:=r;exact⟨c,ys,e,n,e2 _ _ q (by intro φ z;cases z),t.mono k2 _ _⟩
     | dt es=>obtain⟨c,ys,e,n,q,t⟩:=r;exact⟨c,ys,e,n,e2 _ _ q (by intro φ z;cases z),t.mono k2 _ _⟩
     | ob _=>exact r
     | cl _ _=>exact⟨r.1,r.2.2 _ _ k2 r.2.1,r.2.2⟩
     | ll a' d'=>exact absurd et (Z3f only hk)
     | ins _ _ _=>obtain⟨e,n,dx,ys,q,t⟩:=r;exact⟨e,n,dx,ys,e2 _ _ q (by intro φ z;cases z),t.mono k2 _ _⟩
   ·by_cases hk:k=i
    ·subst hk;rw [b9 hl]at et;cases et;cases m1
    ·by_cases jQ:l=i
     ·subst jQ;rw [b9 hl]at eu;cases eu;cases m2
     ·rw [aF (fun z=>hk z.symm)]at et
      rw [aF (fun z=>jQ z.symm)]at eu
      exact cM.apart k l t u w cA et eu m1 m2 q1 q2,fun _ h=>h,fun _ h=>h,fun _ h=>h⟩ q⟩
end
noncomputable def Y2 (g:WG) (we:WE):List D->A8->(List (List D)->Prop)->Prop
 | [],_,Q=>Q []
 | d::ds,τ,Q=>g d τ fun τ'=>we τ' fun r=>∃es,r=.nw es/\Y2 g we ds τ' fun ess=>Q (es::ess)
theorem Z7t {g:WG}{we:WE} (hg:∀d τ (P Q:A8->Prop),(∀ τ,P τ->Q τ)->g d τ P->g d τ Q) (he:∀(τ:A8) (P Q:R->Prop),(∀r,P r->Q r)->we τ P->we τ Q) :
  ∀(ds:List D) (τ:A8) (P Q:List (List D)->Prop),(∀es,P es->Q es)->Y2 g we ds τ P->Y2 g we ds τ Q
 | [],_,_,_,f,h=>f _ h
 | d::ds,τ,P,Q,f,h=>hg d τ _ _ (fun τ' h=>he τ' _ _ (fun r ⟨e,e1,h⟩=>⟨e,e1,Z7t hg he ds τ' _ _ (fun es h=>f _ h) h⟩) h) h
theorem J7.append {K:Fg9}{H:Hp}{b:Addr}{ds:List D}{xs:List V} (q:H b=some (.ext (LO b xs))) (al:AllS K H ds xs):∀{bs:List Addr}{dss:List (List D)},J7 K H bs dss->J7 K H (bs++[b]) (dss++[ds])
 | [],dss,h=>by rw [show dss=[]from h];exact⟨ds,[],rfl,⟨xs,q,al⟩,rfl⟩
 | c::bs,dss,h=>by obtain⟨es,r,rfl,x,t⟩:=h;exact⟨es,r++[ds],rfl,x,t.append q al⟩
theorem Z4n:∀(bs:List Addr),B9 (bs.map V.ref) (bs.map Value.ref)
 | []=>.nil
 | b::bs=>.cons rfl (Z4n bs)
section
variable {X:Cx}{H0:Hp}{tg iter dS:Expr}{scope:Scope}{pos bF fb:Pos}{N:List Str}{nt:Nat}{cap:List Nat}{wi:P5}{g:WG}{we:WE}
theorem Y9p {use:Option (Value->Sem Unit)}{QQ:VS9}{P:List (List D)->Prop}{gC:Pos}{ae:Pn9}{s:Shared} {σ:St}{H:Hp} {τ:A8} (hc:X.calm=true) (B:J3 X scope N nt cap) (hi:E5 X H0 tg iter wi)
  (hg:∀C s H fp,DG (blk X scope C s H fp N) H tg g) (he:∀C s H fp,DE (blk X scope C s H fp N) H dS we) (hs:∀x,foldedSetIterable iter X.env x=pure x)
  (I:A0 X ae σ H s) (hR:B5 X.K H0 τ σ H) (hw:wi τ fun ds=>ds.length<=sizeLine/\Y2 g we ds (R5 nt cap τ) P)
  (fin:∀(C D0:Addr) (s2 s4:Shared) (H2 H4:Hp) (fp:List Addr) (pb:Pn9) (σ4:St) (bs:List Addr) (nn:Nat) (dss:List (List D)) (f:Flow),A0 X ae σ H2 s2->A4 H H2->A0 (blk X scope C s2 H2 fp N) pb σ4 H4 s4->(∀b∈fp,K2 X ae H2 b) ->
   s2.heap.objs.size<=C->s2.heap.objs.size<=D0->D0≠C->H4 D0=none->s4.heap.get? D0=some { cls:=.type "list",data:=.seq (bs.map Value.ref).toArray nn }->bs.length<=sizeLine->A4 H2 H4->bs.Nodup->(∀b∈bs,H2 b=none)->J7 X.K H4 bs dss->P dss->compPost (model X.prog X.w) X.A X.xe use QQ (.ref D0) C (.ok f) s4) :
  wpAny (model X.prog X.w) X.A (comprehension (.ListComp dS [⟨tg,iter,[],0⟩] scope pos) scope X.env gC (newList []) false (eval iter X.env) use) QQ X.xe s:=by
 refine wpAny_comprehension_free rfl hs (Q7o fun y hy e=>I.ok.has y.1 (B.free y hy e)) B.kind B.names ?_
 refine B2 (hi.pi ae s σ H (fun J H2=>A4 H H2/\∃ds,YlS X.K J ds H2/\ds.length<=sizeLine/\Y2 g we ds (R5 nt cap τ) P) I
  ⟨τ,hR,hi.mono τ _ _ (fun ds h J H' sm yl=>⟨sm,ds,yl,h.1,h.2⟩) hw⟩) fun v s1 h1=>B2 h1 fun iW s2 h2=>?_
 obtain⟨it,fp,tn,J,H2,e,I2,T,dC,f2,cX,ds,yl,hz,jr⟩:=h2
 subst e
 have fG:∀b∈fp,b<s2.heap.objs.size:=fun b hb=>by
  obtain⟨o,ho,_⟩:=T.obj _ _ dC b hb
  exact ak ho
 have dA:=hR.mono cX
 refine bt (gn B.cell (by intro y hy;simp at hy) (fun h₁ cF cp=>?_) B.kind)
 dsimp only at cF cp ⊢
 generalize hH2:s2.heap.push { cls:=.type "list",dict:=none,data:=.seq ([]:List Value).toArray }=Hq at cF cp ⊢
 have hC:Hq.objs.size=s2.heap.objs.size+1:=by rw [<- hH2,bn]
 have cI:s2.heap.objs.size≠Hq.objs.size:=by rw [hC];exact ay (cB _)
 have cj:s2.heap.objs.size<=Hq.objs.size:=by rw [hC];exact cx _
 have old:∀b o,s2.heap.get? b=some o->h₁.get? b=some o:=fun b o e=>cp.extBut b o (by rw [hC];exact ay (bx (ak e))) (aa _ (hH2 ▸ aa _ e))
 have dE:h₁.PlainList s2.heap.objs.size #[]:=⟨_,cp.extBut _ _ cI (aa _ (hH2 ▸ aw _ rfl))⟩
 generalize hCe:Hq.objs.size=C at cF cp hC cI cj ⊢
 generalize hDe:s2.heap.objs.size=D0 at hC cI cj dE ⊢
 have cR:∀b∈fp,b<D0:=fun b hb=>hDe ▸ fG b hb
 have dO:tn 0 h₁:=T.keep _ _ _ dC fun b _ o e=>old b o e
 have jK:=Q7j (C:=C) (h':=h₁) (t':=s2.toks+([]:List (Str×Value)).length) I2 B f2 fG (by rw [hDe];exact cj) cF old
 have gh:H2 D0=none:=I2.hok.fresh (by rw [hDe];exact ah _)
 have jl:D0∉frs X.stack:=fun z=>by
  rcases aj.mp (I2.stkSub _ z)with e | e
  ·have:=I2.lt;rw [<- e,hDe]at this;exact aO _ this
  ·exact I2.nofs (by rw [hDe];exact ah _) e
 have jm:∀x c,(R9 X.env scope.names []).lookup x=some c->c≠D0:=fun x c h z=>by
  obtain⟨v,q⟩:=I2.cell x c (U4 I2 B h)
  have:=q.lt
  rw [z,hDe]at this
  exact aO _ this
 have dM:∀{pb:Pn9} {σ':St}{H':Hp}{s':Shared}{ys:Array Value}{n:Nat},A0 (blk X scope C s2 H2 fp N) pb σ' H' s'->H' D0=none->s'.heap.get? D0=some { cls:=.type "list",data:=.seq ys n } ->
   A0 (blk X scope C s2 H2 fp N) [(D0,{ cls:=.type "list",data:=.seq ys n })] σ' H' s':=by
  intro pb σ' H' s' ys n I' n' e
  refine I'.pins_of fun p hp=>?_
  have e':p=(D0,{ cls:=.type "list",data:=.seq ys n }):=by simpa using hp
  subst e'
  exact⟨e,n',cI,jl,fun v z=>by cases z⟩
 have fH:∀{H':Hp}{ob:Obj},(∀b∈fp,H' b=none)->∀b∈fp,K2 (blk X scope C s2 H2 fp N) [(D0,ob)] H' b:=by
  intro H' ob hn b hb
  refine⟨hn b hb,(ay (ax (cR b hb) cj)),fun z=>?_,.inl hb,fun x c h=>(f2 b hb).2.2.2.2.1 x c (U4 I2 B h),fun p hp=>?_⟩
  ·rcases aj.mp (I2.stkSub b z)with e | e
   ·exact(f2 b hb).2.1 e
   ·exact(f2 b hb).2.2.1 e
  ·have e':p=(D0,ob):=by simpa [blk]using hp
   subst e'
   exact(ay (cR b hb)).symm
 let jb:Nat->Shared->Prop:=fun k s'=>∃(i:Nat) (σ':St) (H':Hp) (τ':A8) (nn:Nat) (bs:List Addr) (dss:List (List D)),A0 (blk X scope C s2 H2 fp N) [(D0,{ cls:=.type "list",data:=.seq (bs.map Value.ref).toArray nn })] σ' H' s'/\B5 X.K H2 τ' σ' H'/\tn i s'.heap /\
  (∀b∈fp,H' b=none)/\H' D0=none/\bs.Nodup/\(∀b∈bs,H2 b=none)/\J7 X.K H' bs dss/\i<=ds.length/\k=ds.length-i/\bs.length=i/\Y2 g we (ds.drop i) τ' fun ess=>P (dss++ess)
 have loop:∀s₃:Shared,s₃={ s2 with heap:=h₁,toks:=s2.toks+([]:List (Str×Value)).length } ->
   codeAny (model X.prog X.w) X.A (.compLoop (.ListComp dS [⟨tg,iter,[],0⟩] scope pos) 0 (.ref it) (.ref D0) (compEnvC scope (R9 X.env scope.names []) C X.env))
    (compPost (model X.prog X.w) X.A X.xe use QQ (.ref D0) C) s₃:=by
  rintro s₃ rfl
  obtain⟨nn,ho⟩:=id dE
  refine Z1g jb ?_ ds.length ⟨0,_,H2,R5 nt cap τ,nn,[],[],dM jK gh ho,Z3m dA nt cap,dO,fun b hb=>(f2 b hb).1,gh,eS,(by intro b hb;cases hb),rfl,bp _,rfl,rfl,by simpa using jr⟩
  rintro k s3 ⟨i,σ3,H3,τ3,nn,bs,dss,I3,R3,fL,fP,d3,nK,f3,lO,nZ,rfl,j2,w3⟩
  have c6:A4 H2 H3:=R3.same
  by_cases bR:i<ds.length
  ·refine aL (T.item (blk X scope C s2 H2 fp N) rfl rfl rfl hc i _ s3 σ3 H3 (fun _ _=>False) I3 (fH fP) fL (yl.go H3 c6 i bR)) (fun r s4 ⟨u,hr,h4⟩=>?_) fun _ _ z=>z
   subst hr
   refine aL h4 (fun _ s5 ⟨x,H5,I5,r5,y5,eD,iK⟩=>?_) fun _ _ z=>z
   obtain⟨g7,ix⟩:=yl.yld H3 c6 i x H5 _ (ac bR) y5
   rw [cG bR]at w3
   have iP:=I5.pinned (fH iK) (T.obj _ _ eD)
   refine aL ((hg C s2 H2 fp).pg _ s5 σ3 H5 x u (fun σ6 H6=>∃ τ6,B5 X.K H2 τ6 σ6 H6/\A4 H5 H6/\we τ6 fun r=>∃es,r=.nw es/\Y2 g we (ds.drop (i+1)) τ6 fun ess=>P (dss++(es::ess)))
    iP r5 ⟨τ3,ds[i],R3.mono g7,ix,(hg C s2 H2 fp).mono _ _ _ _ (fun τ6 h6 σ6 H6 gz R6=>⟨τ6,R6,gz,h6⟩) w3⟩) (fun _ s6 ⟨σ6,H6,I6,τ6,R6,gz,w6⟩=>?_) fun _ _ z=>z
   refine wpAny_tests_nil ?_
   rw [aI rfl]
   refine aL ((he C s2 H2 fp).pe _ s6 σ6 H6 (fun v H8=>A4 H6 H8/\∃es,D9 X.K H6 H8 (.nw es) v/\Y2 g we (ds.drop (i+1)) τ6 fun ess=>P (dss++(es::ess))) I6
    ⟨τ6,R6,(he C s2 H2 fp).mono τ6 _ _ (fun r ⟨e,e1,h⟩ v H8 gy ir=>⟨gy,e,by subst e1;exact ir,h⟩) w6⟩) (fun y s8 ⟨v8,H8,I8,jg,pE,es,⟨b,xs,eb,nb,kH,rL⟩,w8⟩=>?_) fun _ _ z=>z
   subst eb
   obtain rfl:y=Value.ref b:=jg
   have pd:=I8.pin (D0,_) (am _ (bi _ ar))
   obtain⟨o8,d8,_⟩:=pd
   have qP:b≠D0:=fun z=>by rw [z,d8]at kH;cases kH
   obtain⟨zb,lW,pU,rb,ob⟩:=I8.hok b _ kH
   have p9:A0 (blk X scope C s2 H2 fp N) ([(D0,{ cls:=.type "list",data:=.seq (bs.map Value.ref).toArray nn })]++U1 fp s5.heap) σ6 (upd H8 b (.ext (LO b xs))) s8 :=
    I8.write (t':=s8.toks) (h':=s8.heap) (e:=b) (by rw [kH];trivial) (.inl rfl) (fun c u _ k=>k) ⟨_,ob⟩ (LO.ok ⟨zb,lW,pU,rb,ob⟩)
   have kp:Kp H8 (upd H8 b (.ext (LO b xs))):=Kp.upd kH _
   have jf:A4 H6 (upd H8 b (.ext (LO b xs))):=fun c u q=>by rw [B0 (U7 q nb)];exact pE c u q
   have kr:(bs.map Value.ref).toArray.size<=sizeLine:=by simp;omega
   refine wpAny_list_append_plain (hsz:=kr) ⟨nn,o8⟩ fun h₅ kz ju=>?_
   have kW:A0 (blk X scope C s2 H2 fp N) (U1 fp s5.heap) σ6 (upd H8 b (.ext (LO b xs))) s8:=p9.pins_of fun p hp=>p9.pin p (am _ (am _ hp))
   have nq:upd H8 b (.ext (LO b xs)) D0=none:=by rw [B0 (bC qP)];exact d8
   have I9:A0 (blk X scope C s2 H2 fp N) (U1 fp s5.heap) σ6 (upd H8 b (.ext (LO b xs))) { s8 with heap:=h₅ }:=by
    refine kW.turned (t':=s8.toks) (it:=D0) (fun c o hb e=>(ju.2 c hb).trans e) nq cI (.inr (by rw [<- hDe];exact ah _)) jm (fun p hp z=>?_)
    obtain⟨q1,_⟩:=Q6e (by simpa [blk]using hp)
    exact ay (cR _ q1) z
   obtain⟨kf,o9⟩:=kz
   have pN:h₅.get? D0=some { cls:=.type "list",data:=.seq ((bs++[b]).map Value.ref).toArray kf }:=by rw [o9];simp
   have l0:A4 H3 H6:=g7.trans gz
   have jZ:tn (i+1) h₅:=T.keep _ _ _ eD fun b hb o e=>(I9.pin (b,o) (am _ (Q0l hb e))).1
   have pY:J7 X.K (upd H8 b (.ext (LO b xs))) bs dss:=lO.keep (Kp.of (l0.trans jf)) fun c φ q=>(l0.trans jf) _ _ q
   refine⟨ds.length-(i+1),by omega,i+1,σ6,_,τ6,kf,bs++[b],dss++[es],dM I9 nq pN,R6.mono jf,jZ,fun c hb=>?_,nq,?_,fun c hc=>?_,pY.append upd_same (rL.mono kp _ _),bR,rfl,by rw [aA,j2];rfl,by simpa using w8⟩
   ·obtain⟨o,e,_⟩:=T.obj _ _ eD c hb
    exact(I9.pin (c,o) (am _ (Q0l hb e))).2.1
   ·rw [bG]
    refine⟨nK,by simp,fun c hc c' dB z=>?_⟩
    rw [show c'=b by simpa using dB]at z
    obtain⟨jW,q⟩:=lO.mem hc
    have q6:=l0 _ _ q
    rw [z,nb]at q6;cases q6
   ·rcases aU.mp hc with z | z
    ·exact f3 c z
    ·rw [aQ.mp z]
     exact(c6.trans l0).free nb
  ·have e:i=ds.length:=by omega
   subst e
   refine aL (T.done (blk X scope C s2 H2 fp N) rfl rfl rfl hc ds.length _ s3 σ3 H3 (fun _ _=>False) I3 (fH fP) fL (yl.stop H3 c6)) (fun r s4 ⟨hr,I4⟩=>?_) fun _ _ z=>z
   subst hr
   have o4:=(I4.pin (D0,_) (am _ ar)).1
   rw [gt]at w3
   have w3:P (dss++[]):=w3
   rw [ba]at w3
   exact fin C D0 s2 s4 H2 H3 fp _ σ3 bs nn dss _ I2 cX I4 f2 (by rw [hDe];exact cj) (by rw [hDe];exact ah _) cI d3 o4 (by omega) c6 nK f3 lO w3
 exact codeAny_compStart_list (loop _ rfl) (T.self _ 0 _ _ _ dO (loop _ rfl))
def Z5b (i nt:Nat) (cap:List Nat) (wi:P5) (g:WG) (we:WE):WS:=fun E τ=>wi τ fun ds=>ds.length<=sizeLine/\Y2 g we ds (R5 nt cap τ) fun dss=>∀a,E.nx (τ.set i (some (.ll a dss)))
theorem DS.setLC {i:Nat}{x:Str} (hc:X.calm=true) (B:J3 X scope N nt cap) (hi:E5 X H0 tg iter wi) (hg:∀C s H fp,DG (blk X scope C s H fp N) H tg g) (he:∀C s H fp,DE (blk X scope C s H fp N) H dS we) (hN:X.N.Nodup) (jC:X.N[i]?=some x) (hx:Loc X.env.scope x)
  (gJ:swapsWith (.ListComp dS [⟨tg,iter,[],0⟩] scope pos) (some (.Name x bF)) fb.line X.env=pure true:=by rfl) (hs:∀x,foldedSetIterable iter X.env x=pure x:=by intro _;rfl)
  (hf:X.fn x=true\/X.env.scope.names.lookup x=some .local:=by first | exact .inl rfl | exact .inr rfl | assumption) :
  DS X H0 (.Assign [.Name x bF] (.ListComp dS [⟨tg,iter,[],0⟩] scope pos) fb) (Z5b i nt cap wi g we) where
 mono:=fun τ E F le h=>hi.mono τ _ _ (fun ds h=>⟨h.1,Z7t (hg 0 X.s₀ X.H₀ []).mono (he 0 X.s₀ X.H₀ []).mono ds _ _ _ (fun es h a=>le.nx _ (h a)) h.2⟩) h
 ps:=by
  intro ae s σ H D I ⟨τ,hR,hw⟩
  rw [exec_Assign_Name_used _ _ _ _ gJ]
  refine a9 (wpAny_standAt (a9 ?_))
  change wpAny (model X.prog X.w) X.A (do let _ <- comprehension (.ListComp dS [⟨tg,iter,[],0⟩] scope pos) scope X.env _ (newList []) false (eval iter X.env) (some (assign (.Name x bF) X.env))) _ _ s
  refine a9 (aL (Y9p (use:=some (assign (.Name x bF) X.env)) (QQ:=fun _ s'=>SP X ae D .next s') hc B hi hg he hs I hR hw fun C D0 s2 s4 H2 H4 fp pb σ4 bs nn dss f I2 cX I4 f2 hC hD cI hn ho hz gw nd fr ll w3=>?_)
   (fun _ s' hq=>af (af hq)) fun _ _ e=>e)
  have Ib:A0 X ae σ (upd H4 D0 (.frz { cls:=.type "list",data:=.seq (bs.map Value.ref).toArray nn } (.lst (bs.map V.ref)))) { s4 with heap:=s4.heap } :=
   Z7h I2 I4 f2 hC hD hn ⟨rfl,fun _ _=>rfl⟩ ⟨ho,by rw [ag];exact hz,bs.map Value.ref,nn,Z4n bs,ho⟩
  have j8:C≠X.env.locals:=fun z=>aO _ (ax I2.lt (z ▸ hC))
  have j7:∀x c,X.env.cells.lookup x=some c->c≠C:=fun x c h z=>by
   obtain⟨v,q⟩:=I2.cell x c h
   exact aO _ (ax q.lt (z ▸ hC))
  change wpAny (model X.prog X.w) X.A (assign (.Name x bF) X.env (Value.ref D0)) _ _ s4
  refine wpAny_assign_Name (Q9h (v:=.ref D0) Ib hN jC hx rfl (fun s5 I5 ⟨a,k9,ha⟩=>?_) hf)
  obtain⟨m4,iE,_⟩:=id I4.loc
  have kN:C≠a:=by
   rcases ha with ha | ha
   ·rw [ha];exact j8
   ·exact fun z=>j7 _ _ ha z.symm
  refine⟨m4,iE.sameBut k9 kN,fun h' sb=>?_⟩
  have kO:H4 C=none:=I4.free
  have I6:A0 X ae (σ.set i (some (.ref D0))) (upd H4 D0 (.frz { cls:=.type "list",data:=.seq (bs.map Value.ref).toArray nn } (.lst (bs.map V.ref)))) { s5 with heap:=h' }:=by
   refine I5.turned (t':=s5.toks) (it:=C) (fun b o hb e=>(sb.2 b hb).trans e) (by rw [B0 (bC cI)];exact kO) j8 (.inr (aR I2.sz hC)) j7 fun p hp z=>?_
   have:=(I2.pin p hp).1
   exact aO _ (ax (ak this) (z ▸ hC))
  have gZ:A4 H (upd H4 D0 (.frz { cls:=.type "list",data:=.seq (bs.map Value.ref).toArray nn } (.lst (bs.map V.ref)))):=cX.trans (gw.trans (D5 hn _))
  have cM:=(hR.mono gZ).set (i:=i) (s:=.ll D0 dss) (v:=.ref D0) ⟨rfl,bs,_,upd_same,nd,fun b hb=>(hR.same.trans cX).free (fr b hb),ll.keep (Kp.of (D5 hn _)) fun c φ q=>by rw [B0 (U7 q hn)];exact q⟩ fun m=>by cases m
  exact⟨_,_,I6,w3 D0 _ _ (Kp.of gZ) cM⟩
end
abbrev Q2m (h:Heap) (z TI TO T:Addr) (f:Bool):Prop :=
 h.get? z=some { cls:=.type "zip",dict:=none,data:=.fields #[rawInt T,.bool f,.bool false,.ref TI,.ref TO],slots:=#[] }
section
variable {P:Program}{w:World}{A:Around}{E:VS9}{s:Shared}{z TI TO T i1 i2 l1 l2:Addr}{f:Bool}{k:Nat}{xs ys:Array Value}{oT:Obj}
theorem Y5i {Q:Bool->Shared->Prop} (hz:Q2m s.heap z TI TO T f) (hT:s.heap.get? T=some oT) (hQ:∀h',Q2m h' z TI TO T true->Heap.SameBut z s.heap h'->Q false { s with heap:=h' }) :
  wpAny (model P w) A (Builtin.SmallTypes.ownedTupleIsFree (.ref z)) Q E s:=by
 unfold Builtin.SmallTypes.ownedTupleIsFree;refine a9 (aW hz rfl (x:=rawInt T) rfl ?_)
 change wpAny (model P w) A (loadIfAlive ((T:Int).toNat)>>=_) _ _ _
 rw [bo]
 refine a9 (PySem.W.kdx_alive hT ?_)
 rw [aD (by simp)]
 refine a9 (aW hz rfl (x:=.bool f) rfl ?_)
 cases f with
 | true =>
  rw [aD (by decide)]
  exact af (hQ s.heap hz (Heap.SameBut.refl _ _))
 | false =>
  rw [aI (by decide)]
  exact a9 (bf hz (by simp) fun h₃ mH i5=>af (hQ h₃ mH i5))
theorem W9v {x y:Value}{Q:VS9} (D:ZipApart z TI TO i1 i2 l1 l2) (hz:Q2m s.heap z TI TO T f) (hT:s.heap.get? T=some oT) (cy:IsPair s.heap TI (.ref i1) (.ref i2))
  (h1:s.heap.IsListIter i1 l1 k) (h2:s.heap.IsListIter i2 l2 k) (dD:s.heap.IsList l1 xs) (de:s.heap.IsList l2 ys) (hx:xs[k]?=some x) (hy:ys[k]?=some y)
  (hQ:∀h',Q2m h' z TI TO T true->h'.IsListIter i1 l1 (k+1)->h'.IsListIter i2 l2 (k+1)->IsPair h' s.heap.objs.size x y->h'.objs.size=s.heap.objs.size+1 ->
   (∀c o,c≠z->c≠i1->c≠i2->s.heap.get? c=some o->h'.get? c=some o)->Q (.ref s.heap.objs.size) { s with heap:=h' }) :
  wpAny (model P w) A (Builtin.«zip.__next__» ⟨[.ref z],[]⟩) (fun fin s'=>∃v,fin=.done (.ret v)/\Q v s') E s:=by
 change wpAny (model P w) A (field (.ref z) 2>>=_) _ _ s
 refine a9 (aW hz rfl (x:=Value.bool false) rfl ?_)
 change wpAny (model P w) A (field (.ref z) 3>>=_) _ _ s
 refine a9 (aW hz rfl (x:=.ref TI) rfl (a9 (bg cy rfl ?_)))
 change wpAny (model P w) A (Builtin.SmallTypes.ownedTupleIsFree (.ref z)>>=_) _ _ s
 refine a9 (Y5i hz hT fun h₁ dN fE=>?_)
 rw [aD (by decide)]
 refine a9 ?_
 rw [<- cU]
 rw [be]
 refine a9 (a9 (bu ?_))
 change wpAny (model P w) A (Builtin.SmallTypes.nextOf (.ref i1)>>=fun x=>pure (some x)) _ _ _
 refine a9 (wpAny_nextOf_list_item (h1.extBut fE.extBut D.i1z) (dD.extBut fE.extBut D.l1z) hx fun h₂ gU gI=>af (af ?_))
 dsimp only
 rw [be]
 refine a9 (a9 (bu ?_))
 change wpAny (model P w) A (Builtin.SmallTypes.nextOf (.ref i2)>>=fun x=>pure (some x)) _ _ _
 refine a9 (wpAny_nextOf_list_item ((h2.extBut fE.extBut D.i2z).extBut gI.extBut D.i12.symm) ((de.extBut fE.extBut D.l2z).extBut gI.extBut D.l2i1) hy fun h₃ gT i5=>af (af ?_))
 dsimp only
 rw [dr]
 refine af (a9 (wpAny_newTuple (af ⟨_,rfl,?_⟩) (hsz:=by show 2<=sizeLine;decide)))
 have sz:h₃.objs.size=s.heap.objs.size:=by rw [i5.1,gI.1,fE.1]
 have up:∀c o,c≠z->c≠i1->c≠i2->s.heap.get? c=some o->h₃.get? c=some o:=fun c o c1 c2 c3 e=>i5.extBut _ _ c3 (gI.extBut _ _ c2 (fE.extBut _ _ c1 e))
 have lY:Q2m h₃ z TI TO T true:=i5.extBut _ _ D.i2z.symm (gI.extBut _ _ D.i1z.symm dN)
 have na:h₃.IsListIter i1 l1 (k+1):=gU.extBut i5.extBut D.i12
 have goal:=hQ (h₃.push { cls:=.type "tuple",data:=.seq #[x,y] }) (aa _ lY) (na.at fun o e=>aa _ e) (gT.at fun o e=>aa _ e)
  (by
   have e:(h₃.push { cls:=.type "tuple",data:=.seq #[x,y] }).get? h₃.objs.size=some { cls:=.type "tuple",data:=.seq #[x,y] }:=aw _ rfl
   rw [sz]at e;exact e) (by rw [bn,sz]) fun c o c1 c2 c3 e=>aa _ (up c o c1 c2 c3 e)
 rw [<- sz]at goal
 exact goal
theorem W9u {Q:Fin->Shared->Prop} (hh:A.handled=none) (D:ZipApart z TI TO i1 i2 l1 l2) (hz:Q2m s.heap z TI TO T f) (hT:s.heap.get? T=some oT) (cy:IsPair s.heap TI (.ref i1) (.ref i2))
  (h1:s.heap.IsListIter i1 l1 k) (h2:s.heap.IsListIter i2 l2 k) (dD:s.heap.IsList l1 xs) (de:s.heap.IsList l2 ys) (fU:xs[k]?=none\/ys[k]?=none)
  (hE:∀h' e,(∀c o,c≠z->c≠i1->c≠i2->s.heap.get? c=some o->h'.get? c=some o)->(∃o,h'.get? e=some o/\o.cls=.type "StopIteration")->E (.ref e) { s with heap:=h' }) :
  wpAny (model P w) A (Builtin.«zip.__next__» ⟨[.ref z],[]⟩) Q E s:=by
 change wpAny (model P w) A (field (.ref z) 2>>=_) _ _ s
 refine a9 (aW hz rfl (x:=Value.bool false) rfl ?_)
 change wpAny (model P w) A (field (.ref z) 3>>=_) _ _ s
 refine a9 (aW hz rfl (x:=.ref TI) rfl (a9 (bg cy rfl ?_)))
 change wpAny (model P w) A (Builtin.SmallTypes.ownedTupleIsFree (.ref z)>>=_) _ _ s
 refine a9 (Y5i hz hT fun h₁ dN fE=>?_)
 rw [aD (by decide)]
 refine a9 ?_
 rw [<- cU]
 rw [be]
 refine a9 (a9 (bu ?_))
 change wpAny (model P w) A (Builtin.SmallTypes.nextOf (.ref i1)>>=fun x=>pure (some x)) _ _ _
 cases hx:xs[k]? with
 | none =>
  exact a9 (wpAny_nextOf_list_end hh (h1.extBut fE.extBut D.i1z) (dD.extBut fE.extBut D.l1z) hx fun h₂ e gI he=>hE h₂ e (fun c o c1 c2 _ x=>gI _ _ c2 (fE.extBut _ _ c1 x)) he)
 | some x =>
  have hy:ys[k]?=none:=by rcases fU with h | h;rw [hx]at h;cases h;exact h
  refine a9 (wpAny_nextOf_list_item (h1.extBut fE.extBut D.i1z) (dD.extBut fE.extBut D.l1z) hx fun h₂ gU gI=>af (af ?_))
  dsimp only
  rw [be]
  refine a9 (a9 (bu ?_))
  change wpAny (model P w) A (Builtin.SmallTypes.nextOf (.ref i2)>>=fun x=>pure (some x)) _ _ _
  refine a9 (wpAny_nextOf_list_end hh ((h2.extBut fE.extBut D.i2z).extBut gI.extBut D.i12.symm) ((de.extBut fE.extBut D.l2z).extBut gI.extBut D.l2i1) hy fun h₃ e i5 he=>?_)
  exact hE h₃ e (fun c o c1 c2 c3 x=>i5 _ _ c3 (gI.extBut _ _ c2 (fE.extBut _ _ c1 x))) he
def ZSt (h:Heap) (z TI TO i1 i2 l1 l2:Addr) (k:Nat) (as:List Addr):Prop :=
 IsPair h TI (.ref i1) (.ref i2)/\h.IsListIter i1 l1 k/\h.IsListIter i2 l2 k/\((as=[]/\IsZip h z TI TO .none/\∃a b,IsPair h TO a b)\/∃T f o,T∈as/\Q2m h z TI TO T f/\h.get? T=some o)
theorem W9x {x y:Value}{as:List Addr}{Q:Option Value->Shared->Prop} (D:ZipApart z TI TO i1 i2 l1 l2) (ib:∀a∈as,a≠z/\a≠TI/\a≠TO/\a≠i1/\a≠i2) (st:ZSt s.heap z TI TO i1 i2 l1 l2 k as) (dD:s.heap.IsList l1 xs) (de:s.heap.IsList l2 ys) (hx:xs[k]?=some x) (hy:ys[k]?=some y)
  (hQ:∀h',ZSt h' z TI TO i1 i2 l1 l2 (k+1) (as++[s.heap.objs.size])->IsPair h' s.heap.objs.size x y->h'.objs.size=s.heap.objs.size+1->(∀c o,c≠z->c≠TO->c≠i1->c≠i2->s.heap.get? c=some o->h'.get? c=some o)->Q (some (.ref s.heap.objs.size)) { s with heap:=h' }) :
  wpAny (model P w) A (pyNext (.ref z)) Q E s:=by
 obtain⟨cy,h1,h2,⟨ea,hz,a,b,cH⟩ | ⟨T,f,o,hm,hz,hT⟩⟩:=st
 ·refine wpAny_pyNext_zip_item D hz cy cH h1 h2 dD de hx hy fun h' a1 a2 a3 a4 a5 a6 a7=>hQ h' ⟨a7 _ _ D.TIz D.TITO D.TIi1 D.TIi2 cy,a3,a4,.inr ⟨s.heap.objs.size,false,_,am _ ar,a1,a5⟩⟩ a5 a6 a7
 ·have g8:s.TypeIs (.ref z) "zip":=⟨_,hz,rfl⟩
  obtain⟨t1,t2,t3,t4,t5⟩:=ib T hm
  unfold pyNext
  exact a9 (dL (b8 (name:=Str.ofString "__next__") g8 bI (bc bI g8 fQ
   (W9v D hz hT cy h1 h2 dD de hx hy fun h' a1 a3 a4 a5 a6 a7=>af (hQ h' ⟨a7 _ _ D.TIz D.TIi1 D.TIi2 cy,a3,a4,.inr ⟨T,true,_,bi _ hm,a1,a7 T _ t1 t4 t5 hT⟩⟩ a5 a6 fun c o c1 _ c3 c4 e=>a7 c o c1 c3 c4 e)) (eV _))))
theorem W9y {as:List Addr}{Q:Option Value->Shared->Prop} (hh:A.handled=none) (D:ZipApart z TI TO i1 i2 l1 l2) (st:ZSt s.heap z TI TO i1 i2 l1 l2 k as) (dD:s.heap.IsList l1 xs) (de:s.heap.IsList l2 ys) (fU:xs[k]?=none\/ys[k]?=none)
  (hQ:∀h',(∀c o,c≠z->c≠TO->c≠i1->c≠i2->s.heap.get? c=some o->h'.get? c=some o)->Q none { s with heap:=h' }):wpAny (model P w) A (pyNext (.ref z)) Q E s:=by
 obtain⟨cy,h1,h2,⟨ea,hz,a,b,cH⟩ | ⟨T,f,o,hm,hz,hT⟩⟩:=st
 ·exact wpAny_pyNext_zip_end hh D hz cy cH h1 h2 dD de fU hQ
 ·have g8:s.TypeIs (.ref z) "zip":=⟨_,hz,rfl⟩
  unfold pyNext
  refine a9 (dL (b8 (name:=Str.ofString "__next__") g8 bI (bc bI g8 fQ (W9u hh D hz hT cy h1 h2 dD de fU fun h' e hk he=>?_) (eV _))))
  obtain⟨oe,ho,hc⟩:=he
  exact a9 (wpAny_isInstance (T:="StopIteration") (b:=true) ⟨oe,ho,hc⟩ isSubtype_stop (af (hQ _ fun c o c1 _ c3 c4 e=>hk c o c1 c3 c4 e)))
theorem W9w {R:Result->Shared->Prop}{S:Addr}{res:Value}{h0:Heap} (hh:A.handled=none) (D:ZipApart z TI TO i1 i2 l1 l2) (hS:S≠z/\S≠TI/\S≠TO/\S≠i1/\S≠i2/\S≠l1/\S≠l2) (hn:min xs.size ys.size<=sizeLine) (iF:∀b∈[z,TI,TO,i1,i2,l1,l2,S],b<h0.objs.size)
  (hR:∀(h':Heap) (tk:Nat) (as:List Addr) (c:Nat),as.length=min xs.size ys.size->as.Nodup->(∀a∈as,h0.objs.size<=a)->(∀(j:Nat) a,as[j]?=some a->∃x y,xs[j]?=some x/\ys[j]?=some y/\IsPair h' a x y)->(∀c o,c∉[z,TO,i1,i2,S]->h0.get? c=some o->h'.get? c=some o) ->
   h'.get? S=some { cls:=.type "list",data:=.seq (as.map Value.ref).toArray c }->R (.ok (.ret res)) { s with heap:=h',toks:=tk }) :
  ∀(m k:Nat) (h:Heap) (tk c:Nat) (as:List Addr),m=min xs.size ys.size-k->k<=min xs.size ys.size->ZSt h z TI TO i1 i2 l1 l2 k as->h.IsList l1 xs->h.IsList l2 ys->as.length=k->as.Nodup->(∀a∈as,h0.objs.size<=a)->h0.objs.size<=h.objs.size->(∀a∈as,a<h.objs.size) ->
   (∀(j:Nat) a,as[j]?=some a->∃x y,xs[j]?=some x/\ys[j]?=some y/\IsPair h a x y)->(∀c o,c∉[z,TO,i1,i2,S]->h0.get? c=some o->h.get? c=some o) ->
   h.get? S=some { cls:=.type "list",data:=.seq (as.map Value.ref).toArray c }->codeAny (model P w) A (.builtin "list.extend.loop" ⟨[.ref S,.ref z,res],[]⟩) R { s with heap:=h,toks:=tk }:=by
 intro m
 induction m with
 | zero =>
  intro k h tk c as hm hk st dD de iJ gK eA hsz bR jv gM jJ
  have e:k=min xs.size ys.size:=by omega
  refine codeAny_builtin F.entry_extend_loop ?_;rw [Around.under_plainId F.plain_extend_loop _]
  change wpAny (model P w) A.in1 (pyNext (.ref z)>>=_) _ _ _
  have fU:xs[k]?=none\/ys[k]?=none:=by
   by_cases z:xs.size<=ys.size
   ·exact .inl (by simp;omega)
   ·exact .inr (by simp;omega)
  refine a9 (W9y (s:={ s with heap:=h,toks:=tk }) (A:=A.in1) hh D st dD de fU fun h' kp=>af ?_)
  obtain⟨s1,s2,s3,s4,s5,s6,s7⟩:=hS
  have ap:∀a∈as,a≠z/\a≠TO/\a≠i1/\a≠i2:=fun a ha=>by
   have g:=eA a ha
   refine⟨fun e=>?_,fun e=>?_,fun e=>?_,fun e=>?_⟩ <;> (have:=iF a (by rw [e];simp);exact absurd this (Nat.not_lt.mpr g))
  refine hR h' _ as c (by omega) gK eA (fun j a ej=>?_) (fun c o hc e=>?_) (kp S _ s1 s3 s4 s5 jJ)
  ·obtain⟨x,y,ex,ey,p⟩:=jv j a ej
   obtain⟨a1,a2,a3,a4⟩:=ap a (aC ej)
   exact⟨x,y,ex,ey,kp a _ a1 a2 a3 a4 p⟩
  ·have:=gM c o hc e
   simp only [aj,aK,bq,not_or]at hc
   exact kp c o hc.1 hc.2.1 hc.2.2.1 hc.2.2.2.1 this
 | succ m ih =>
  intro k h tk c as hm hk st dD de iJ gK eA hsz bR jv gM jJ
  have nX:k<xs.size:=by omega
  have nW:k<ys.size:=by omega
  refine codeAny_builtin F.entry_extend_loop ?_;rw [Around.under_plainId F.plain_extend_loop _]
  change wpAny (model P w) A.in1 (pyNext (.ref z)>>=_) _ _ _
  have lp:∀a,h0.objs.size<=a->a≠z/\a≠TI/\a≠TO/\a≠i1/\a≠i2/\a≠S:=fun a g=>by
   refine⟨fun e=>?_,fun e=>?_,fun e=>?_,fun e=>?_,fun e=>?_,fun e=>?_⟩ <;> (have:=iF a (by rw [e];simp);exact absurd this (Nat.not_lt.mpr g))
  have ap:∀a∈as,a≠z/\a≠TI/\a≠TO/\a≠i1/\a≠i2:=fun a ha=>by obtain⟨a1,a2,a3,a4,a5,_⟩:=lp a (eA a ha);exact⟨a1,a2,a3,a4,a5⟩
  obtain⟨s1,s2,s3,s4,s5,s6,s7⟩:=hS
  refine a9 (W9x (s:={ s with heap:=h,toks:=tk }) (A:=A.in1) D ap st dD de (bE nX) (bE nW) fun h' ft pH pk kp=>?_)
  have oo:=kp S _ s1 s3 s4 s5 jJ
  change wpAny (model P w) A.in1 (updateSeq S (·.push (Value.ref h.objs.size))>>=_) _ _ _
  have kJ:(as.map Value.ref).toArray.size=k:=by simp [iJ]
  refine a9 (wpAny_updateSeq oo rfl (af ⟨plainId_quiet F.plain_extend_loop _,?_⟩) (hz:=by rw [kJ];omega) (_hz':=by show((as.map Value.ref).toArray.push _).size<=_;rw [Array.size_push,kJ];omega))
  have eG:∀b o,b≠S->h'.get? b=some o->(h'.update S (Obj.mapSeq (·.push (Value.ref h.objs.size)))).get? b=some o:=fun b o hb e=>(eU _ _ (bC hb)).trans e
  have nA:(h'.update S (Obj.mapSeq (·.push (Value.ref h.objs.size)))).objs.size=h.objs.size+1:=by rw [(bB (h:=h') (a:=S) ..).1];exact pk
  have kA:h0.objs.size<=h.objs.size:=hsz
  have kg:=lp h.objs.size kA
  obtain⟨c',qW⟩:∃c',(h'.update S (Obj.mapSeq (·.push (Value.ref h.objs.size)))).get? S=some { cls:=.type "list",data:=.seq ((as++[h.objs.size]).map Value.ref).toArray c' }:=by
   have e:=fK (Obj.mapSeq (·.push (Value.ref h.objs.size))) oo rfl
   have e2:((as++[h.objs.size]).map Value.ref).toArray=(as.map Value.ref).toArray.push (Value.ref h.objs.size):=by simp
   rw [e2]
   exact⟨_,e⟩
  refine ih (k+1) _ tk c' (as++[h.objs.size]) (by omega) (by omega) ?_ ?_ ?_ (by rw [aA,iJ];rfl) ?_ ?_ (by rw [nA];omega) ?_ ?_ ?_ ?_
  ·obtain⟨a1,a2,a3,a4⟩:=ft
   refine⟨eG _ _ (bC s2) a1,a2.at fun o e=>eG _ o (bC s4) e,a3.at fun o e=>eG _ o (bC s5) e,?_⟩
   rcases a4 with⟨e,hz,a,b,cH⟩ | ⟨T,f,o,hm,hz,hT⟩
   ·exact .inl ⟨e,eG _ _ (bC s1) hz,a,b,eG _ _ (bC s3) cH⟩
   ·refine .inr ⟨T,f,o,hm,eG _ _ (bC s1) hz,eG _ _ ?_ hT⟩
    rcases aU.mp hm with q | q
    ·exact(lp T (eA T q)).2.2.2.2.2
    ·rw [aQ.mp q];exact kg.2.2.2.2.2
  ·obtain⟨o,e,r⟩:=dD
   exact⟨o,eG _ _ (bC s6) (kp l1 o D.l1z D.l1TO D.l1i1 D.l1i2 e),r⟩
  ·obtain⟨o,e,r⟩:=de
   exact⟨o,eG _ _ (bC s7) (kp l2 o D.l2z D.l2TO D.l2i1 D.l2i2 e),r⟩
  ·rw [bG]
   refine⟨gK,by simp,fun a ha b hb e=>?_⟩
   rw [show b=h.objs.size by simpa using hb]at e
   have:=bR a ha
   rw [e]at this;exact aO _ this
  ·intro a ha
   rcases aU.mp ha with q | q
   ·exact eA a q
   ·rw [aQ.mp q];exact kA
  ·intro a ha
   rw [nA]
   rcases aU.mp ha with q | q
   ·exact bx (bR a q)
   ·rw [aQ.mp q];exact cB _
  ·intro j a ej
   by_cases hj:j<as.length
   ·rw [aJ hj]at ej
    obtain⟨x,y,ex,ey,p⟩:=jv j a ej
    obtain⟨a1,a2,a3,a4,a5⟩:=ap a (aC ej)
    exact⟨x,y,ex,ey,eG _ _ (lp a (eA a (aC ej))).2.2.2.2.2 (kp a _ a1 a3 a4 a5 p)⟩
   ·rw [aT (by omega)]at ej
    have e0:j-as.length=0:=by
     rcases Nat.eq_zero_or_pos (j-as.length)with z | z
     ·exact z
     ·rw [cr (show [h.objs.size].length<=j-as.length from z)]at ej;cases ej
    rw [e0]at ej
    cases ej
    have ej:j=k:=by omega
    subst ej
    exact⟨_,_,bE nX,bE nW,eG _ _ kg.2.2.2.2.2 pH⟩
  ·intro c o hc e
   have:=gM c o hc e
   simp only [aj,aK,bq,not_or]at hc
   exact eG c o hc.2.2.2.2 (kp c o hc.1 hc.2.1 hc.2.2.1 hc.2.2.2.1 this)
  ·exact qW
theorem Y8g {Q:Bool->Shared->Prop} (hT:s.TypeIs (.ref z) "zip") (h:Q true s):wpAny (model P w) A (Builtin.List.listLengthHint (.ref z)) Q E s:=by
 unfold Builtin.List.listLengthHint;refine a9 (wpAny_specialOf hT (show typeLookup (.type "zip") "__len__"=pure none by rw [typeLookup_type,builtinLookup_eq_fast];kernel_rfl) ?_)
 refine a9 (wpAny_specialOf hT (show typeLookup (.type "zip") "__length_hint__"=pure none by rw [typeLookup_type,builtinLookup_eq_fast];kernel_rfl) ?_)
 exact af h
theorem Z2r {h:Heap}{S:Addr}{xs:Array Value}{c:Nat} (e:h.get? S=some { cls:=.type "list",data:=.seq xs c }) (f:Array Value->Array Value):∃c',(h.update S (Obj.mapSeq f)).get? S=some { cls:=.type "list",data:=.seq (f xs) c' } :=
 ⟨_,fK (Obj.mapSeq f) e rfl⟩
theorem Y7a {Q:VS9} (hh:A.handled=none) (D:ZipApart z TI TO i1 i2 l1 l2) (st:ZSt s.heap z TI TO i1 i2 l1 l2 0 []) (dD:s.heap.IsList l1 xs) (de:s.heap.IsList l2 ys) (hn:min xs.size ys.size<=sizeLine) (iF:∀b∈[z,TI,TO,i1,i2,l1,l2],b<s.heap.objs.size)
  (hQ:∀(h':Heap) (tk:Nat) (as:List Addr) (c:Nat),as.length=min xs.size ys.size->as.Nodup->(∀a∈as,s.heap.objs.size<a)->(∀(j:Nat) a,as[j]?=some a->∃x y,xs[j]?=some x/\ys[j]?=some y/\IsPair h' a x y)->(∀c o,c∉[z,TO,i1,i2]->s.heap.get? c=some o->h'.get? c=some o) ->
   h'.get? s.heap.objs.size=some { cls:=.type "list",data:=.seq (as.map Value.ref).toArray c }->Q (.ref s.heap.objs.size) { s with heap:=h',toks:=tk }) :
  wpAny (model P w) A (call (.type "list") [.ref z]) Q E s:=by
 refine callType_codes (Q₁:=fun obj s₁=>obj=.ref s.heap.objs.size/\s₁={ s with heap:=s.heap.push { cls:=.type "list",data:=.seq #[] } }) PySem.F.called_list (PySem.F.typeCall_list_1 _) PySem.F.entry_list_init (code_list_new _ ⟨rfl,rfl⟩) ?_
 rintro obj s₁ ⟨rfl,rfl⟩
 generalize hSe:s.heap.objs.size=S
 have iZ:∀b∈[z,TI,TO,i1,i2,l1,l2],b<S:=fun b hb=>by rw [<- hSe];exact iF b hb
 have lf:(s.heap.push { cls:=.type "list",data:=.seq #[] }).get? S=some { cls:=.type "list",data:=.seq #[] }:=by rw [<- hSe];exact aw _ rfl
 have ne:∀b,b∈[z,TI,TO,i1,i2,l1,l2]->b≠S:=fun b hb=>ay (iZ b hb)
 refine⟨⟨_,lf,rfl⟩,PySem.F.args_list_init_2 _ _,?_⟩
 change wpAny (model P w) A.in1.in1 (Builtin.List.listItems (.ref S)>>=fun old=>Builtin.List.listUpdate (.ref S) (fun _=>#[])>>=fun _=>letGo old.toList.reverse>>=fun _=>Builtin.List.listExtendWith (.ref S) (.ref z) .none) _ _ _
 unfold Builtin.List.listItems
 refine a9 (a9 (bg lf rfl (af ?_)))
 change wpAny (model P w) A.in1.in1 (updateSeq S (fun _=>#[])>>=_) _ _ _
 refine a9 (wpAny_updateSeq lf rfl (a9 (gp ?_)))
 obtain⟨c1,mR⟩:=Z2r lf (fun _=>#[])
 have il:∀b o,b≠S->s.heap.get? b=some o->((s.heap.push { cls:=.type "list",data:=.seq #[] }).update S (Obj.mapSeq (fun _=>#[]))).get? b=some o:=fun b o hb e=>(eU _ _ (bC hb)).trans (aa _ e)
 have nB:((s.heap.push { cls:=.type "list",data:=.seq #[] }).update S (Obj.mapSeq (fun _=>#[]))).objs.size=S+1:=by rw [(bB (h:=s.heap.push { cls:=.type "list",data:=.seq #[] }) (a:=S) ..).1,bn,hSe]
 generalize hH1:(s.heap.push { cls:=.type "list",data:=.seq #[] }).update S (Obj.mapSeq (fun _=>#[]))=H1 at mR il nB ⊢
 have jY:∀h:Heap,(∀b o,b≠S->s.heap.get? b=some o->h.get? b=some o)->ZSt h z TI TO i1 i2 l1 l2 0 []:=fun h k=>by
  obtain⟨a1,a2,a3,a4⟩:=st
  refine⟨k _ _ (ne TI (by simp)) a1,a2.at fun o e=>k _ o (ne i1 (by simp)) e,a3.at fun o e=>k _ o (ne i2 (by simp)) e,?_⟩
  rcases a4 with⟨e,hz,a,b,cH⟩ | ⟨T,f,o,hm,_⟩
  ·exact .inl ⟨e,k _ _ (ne z (by simp)) hz,a,b,k _ _ (ne TO (by simp)) cH⟩
  ·cases hm
 have lZ:∀h:Heap,(∀b o,b≠S->s.heap.get? b=some o->h.get? b=some o)->∃o,h.get? z=some o/\o.cls=.type "zip":=fun h k=>by
  obtain⟨_,_,_,⟨_,hz,_⟩ | ⟨_,_,_,hm,_⟩⟩:=st
  ·exact⟨_,k _ _ (ne z (by simp)) hz,rfl⟩
  ·cases hm
 obtain⟨oz,ez,cz⟩:=lZ H1 il
 unfold Builtin.List.listExtendWith;refine a9 (wpAny_typeOf (T:="zip") ⟨oz,ez,cz⟩ ?_)
 have h1:Builtin.List.listSameRef (.ref S) (.ref z)=false:=by simp [Builtin.List.listSameRef,(ne z (by simp)).symm]
 have h2:(Builtin.List.listSameRef (.ref S) (.ref z)||(Value.type "zip"==Value.type "list")||(Value.type "zip"==Value.type "tuple"))=false:=by rw [h1];decide
 rw [aD (by rw [h2];decide)]
 obtain⟨_,_,_,⟨_,kq,_⟩ | ⟨_,_,_,hm,_⟩⟩:=jY H1 il
 case inr=>cases hm
 refine a9 (wpAny_pyIter_zip kq (a9 (bu (Y8g ⟨oz,ez,cz⟩ ?_))))
 rw [Bool.true_or,aI rfl]
 refine a9 (dU (a9 ?_))
 change wpAny (model P w) A.in1.in1 (updateSeq S (·.push .none)>>=fun _=>updateSeq S (·.pop)) _ _ _
 refine a9 (wpAny_updateSeq mR rfl ?_)
 obtain⟨c2,om⟩:=Z2r mR (·.push Value.none)
 refine wpAny_updateSeq (hz:=by seq_fits) om rfl ?_
 obtain⟨c3,oj⟩:=Z2r om (·.pop)
 have e3:((#[]:Array Value).push Value.none).pop=(([]:List Addr).map Value.ref).toArray:=rfl
 have fg:∀b o,b≠S->s.heap.get? b=some o->((H1.update S (Obj.mapSeq (·.push Value.none))).update S (Obj.mapSeq (·.pop))).get? b=some o:=fun b o hb e=>(eU _ _ (bC hb)).trans ((eU _ _ (bC hb)).trans (il b o hb e))
 have lC:((H1.update S (Obj.mapSeq (·.push Value.none))).update S (Obj.mapSeq (·.pop))).objs.size=S+1:=by rw [(bB (h:=H1.update S (Obj.mapSeq (·.push Value.none))) (a:=S) ..).1,(bB (h:=H1) (a:=S) ..).1,nB]
 generalize hH3:(H1.update S (Obj.mapSeq (·.push Value.none))).update S (Obj.mapSeq (·.pop))=H3 at oj fg lC ⊢
 refine af ⟨plainId_quiet PySem.F.plain_extend_loop _,?_⟩
 have lS:H3.IsList l1 xs:=by obtain⟨o,e,r⟩:=dD;exact⟨o,fg _ _ (ne l1 (by simp)) e,r⟩
 have lQ:H3.IsList l2 ys:=by obtain⟨o,e,r⟩:=de;exact⟨o,fg _ _ (ne l2 (by simp)) e,r⟩
 refine W9w (s:=s) (A:=A.in1) (h0:=H3) (S:=S) hh D ⟨(ne z (by simp)).symm,(ne TI (by simp)).symm,(ne TO (by simp)).symm,(ne i1 (by simp)).symm,(ne i2 (by simp)).symm,(ne l1 (by simp)).symm,(ne l2 (by simp)).symm⟩ hn (fun b hb=>?_) (fun h' tk as c iJ gK eA jv mB jJ=>?_)
  _ 0 H3 _ c3 [] rfl (bp _) (jY H3 fg) lS lQ rfl eS (by intro a ha;cases ha) (ah _) (by intro a ha;cases ha) (by intro j a e;simp at e) (fun c o _ e=>e) (by rw [<- e3];exact oj)
 ·rw [lC]
  rcases aU.mp (show b∈[z,TI,TO,i1,i2,l1,l2]++[S]from hb)with q | q
  ·exact bx (iZ b q)
  ·rw [aQ.mp q];exact cB _
 ·refine⟨rfl,hSe ▸ hQ h' tk as c iJ gK (fun a ha=>?_) jv (fun c o hc e=>?_) (hSe.symm ▸ jJ)⟩
  ·have:=eA a ha;rw [lC]at this;rw [hSe];exact this
  ·refine mB c o (fun q=>?_) (fg c o (fun z=>?_) e)
   ·rcases aU.mp (show c∈[z,TO,i1,i2]++[S]from q)with q | q
    ·exact hc q
    ·rw [aQ.mp q,<- hSe]at e;exact absurd (ak e) (aO _)
   ·rw [z,<- hSe]at e;exact absurd (ak e) (aO _)
end
section
variable {X:Cx}{H0:Hp}{a b:Expr}{p p2 pos dw:Pos}{wr:WA}
theorem Z9b {ae:Pn9} {σ:St}{s:Shared}{n0:Nat} (h0:X.s₀.heap.objs.size<=n0):∀(as:List Addr) (xs:List (V×V)) {H:Hp},A0 X ae σ H s->as.length=xs.length->as.Nodup->(∀a∈as,n0<=a/\H a=none/\a≠X.env.locals/\(∀x c,X.env.cells.lookup x=some c->c≠a)/\∀q∈X.pn++ae,q.1≠a) ->
  (∀(j:Nat) a v,as[j]?=some a->xs[j]?=some v->∃x y,B7 v.1 x/\B7 v.2 y/\IsPair s.heap a x y)->∃H',A0 X ae σ H' s/\A4 H H'/\(∀c,c∉as->H' c=H c)/\∀(j:Nat) a v,as[j]?=some a->xs[j]?=some v->H' a=some (.tup [v.1,v.2])
 | [],xs,H,I,_,_,_,_=>⟨H,I,A4.refl H,fun _ _=>rfl,by intro j a v e;simp at e⟩
 | c::as,[],H,I,l,_,_,_=>by cases l
 | c::as,u::xs,H,I,l,n,f,g=>by
  rw [bA]at n
  obtain⟨c1,c2,c3,c4,c5⟩:=f c ar
  obtain⟨x,y,rx,ry,pr⟩:=g 0 c u rfl rfl
  have I1:A0 X ae σ (upd H c (.tup [u.1,u.2])) s:=Z2b I c2 (.inr (aR h0 c1)) c3 c4 c5 ⟨by show 2<=sizeLine;decide,[x,y],.cons rx (.cons ry .nil),_,pr,rfl,_,rfl⟩
  obtain⟨H',I2,sm,eG,at_⟩:=Z9b h0 as xs I1 (by simpa using l) n.2 (fun a ha=>by
   obtain⟨a1,a2,a3⟩:=f a (av _ ha)
   exact⟨a1,by rw [B0 (fun z=>n.1 (by rw [<- z];exact ha))];exact a2,a3⟩) fun j a v e1 e2=>g (j+1) a v (by simpa using e1) (by simpa using e2)
  refine⟨H',I2,(D5 c2 _).trans sm,fun d hd=>?_,fun j a v e1 e2=>?_⟩
  ·rw [eG d (fun z=>hd (av _ z)),B0 (fun z=>hd (by rw [z];exact ar))]
  ·cases j with
   | zero=>cases e1;cases e2;rw [eG c n.1];exact upd_same
   | succ j=>exact at_ j a v (by simpa using e1) (by simpa using e2)
def Z5c (wr:WA):WE:=fun τ Q=>wr τ fun rs=>∃r r' ds es,rs=[r,r']/\P9 r=some ds/\P9 r'=some es/\Q (.nw (P3 ds es))
theorem DE.listZip (hc:X.calm=true) (hg:Gl X "list") (hm:X.mg "list"=none) (qA:Gl X "zip") (qq:X.mg "zip"=none) (ha:DA X H0 [a,b] wr)
  (hs:starEach [.Call (.Name "zip" p2) [a,b] [] dw] X.env=(false,eval (.Call (.Name "zip" p2) [a,b] [] dw) X.env)::starEach [] X.env:=by rfl)
  (he:starEach [a,b] X.env=(false,eval a X.env)::starEach [b] X.env:=by rfl) (hpl:(backTo dw (starEach [b] X.env)).any (·.1)=false:=by rfl) :
  DE X H0 (.Call (.Name "list" p) [.Call (.Name "zip" p2) [a,b] [] dw] [] pos) (Z5c wr) where
 mono:=fun τ P Q f h=>ha.mono τ _ _ (fun r ⟨r1,r2,ds,es,e1,e2,e3,q⟩=>⟨r1,r2,ds,es,e1,e2,e3,f _ q⟩) h
 pe:=by
  intro ae s σ H Q I ⟨τ,hR,h⟩
  refine bh (Y4 I hg hm (u:=.type "list") rfl ?_ (by decide) (by decide))
  refine aY ?_ hs
  rw [hs]
  change wpAny (model X.prog X.w) X.A (spliced ((false,eval (.Call (.Name "zip" p2) [a,b] [] dw) X.env)::backTo pos (starEach [] X.env))) _ _ s
  refine bV ?_
  refine bh (Y4 I qA qq (u:=.type "zip") rfl ?_ (by decide) (by decide))
  refine aY (B2 (ha.pa dw ae s σ H (fun vs H1=>A4 H H1/\∃l1 l2 xs ys ds es,vs=[.ref l1,.ref l2]/\C9 X.K H1 l1 xs/\AllS X.K H1 ds xs/\C9 X.K H1 l2 ys/\AllS X.K H1 es ys/\∀v H',A4 H H'->D9 X.K H H' (.nw (P3 ds es)) v->Q v H') I
   ⟨τ,hR,ha.mono τ _ _ (fun rs ⟨r,r',ds,es,e1,e2,e3,q⟩ vs H1 s1 cq=>⟨s1,by
    subst e1
    obtain⟨v,u,rfl,ir,gF⟩:=Z0u cq
    obtain⟨l,xs,rfl,sq,al⟩:=Q1a e2 ir
    obtain⟨l2,ys,rfl,cW,cJ⟩:=Q1a e3 gF
    exact⟨l,l2,xs,ys,ds,es,rfl,sq,al,cW,cJ,q⟩⟩) h⟩) fun us s1 ⟨vs,H1,I1,rv,sm,l1,l2,xs,ys,ds,es,e1,sq,al,cW,cJ,q⟩=>?_) he hpl
  subst e1
  have di:∃u1 u2,us=[u1,u2]/\B7 (.ref l1) u1/\B7 (.ref l2) u2:=by
   cases rv with
   | cons r1 rr =>
    obtain⟨u2,rfl,r2⟩:=T5 rr
    exact⟨_,u2,rfl,r1,r2⟩
  obtain⟨u1,u2,rfl,r1,r2⟩:=di
  cases (show u1=Value.ref l1 from r1)
  cases (show u2=Value.ref l2 from r2)
  obtain⟨aS,hJ,pl,g8⟩:=I1.list sq
  obtain⟨bW,ii,e9,ko⟩:=I1.list cW
  obtain⟨o,n,ho,_⟩:=id pl
  obtain⟨o2,n2,fN,_⟩:=id e9
  have hl:@LT.lt Nat _ l1 s1.heap.objs.size:=ak ho
  have de:@LT.lt Nat _ l2 s1.heap.objs.size:=ak fN
  have n1:=hJ.length
  have n2:=ii.length
  refine call_zip_2 pl.isList e9.isList fun h' hz cy cH kE jS hsz k=>cZ ?_
  have Dz:ZipApart (s1.heap.objs.size+4) (s1.heap.objs.size+2) (s1.heap.objs.size+3) s1.heap.objs.size (s1.heap.objs.size+1) l1 l2:=by
   constructor <;> (show ¬ ((_:Nat)=(_:Nat));omega)
  have lS:h'.IsList l1 aS.toArray:=by obtain⟨o,e,r⟩:=pl.isList;exact⟨o,k _ _ e,r⟩
  have lQ:h'.IsList l2 bW.toArray:=by obtain⟨o,e,r⟩:=e9.isList;exact⟨o,k _ _ e,r⟩
  refine Y7a (s:={ s1 with heap:=h' }) (I.ok.hd hc) Dz ⟨cy,kE,jS,.inl ⟨rfl,hz,_,_,cH⟩⟩ lS lQ (by simp only [aE];omega) (fun b hb=>?_) fun h2 tk as c iJ gK eA jv mB jJ=>?_
  ·show b<h'.objs.size
   rw [hsz]
   simp only [aj,aK,bq]at hb;rcases hb with rfl | rfl | rfl | rfl | rfl | rfl | rfl <;> (show(_:Nat)<(_:Nat);omega)
  ·have mz:∀c o,s1.heap.get? c=some o->h2.get? c=some o:=fun c o e=>mB c o (fun z=>by
    have:@LT.lt Nat _ c s1.heap.objs.size:=ak e
    simp only [aj,aK,bq]at z
    rcases z with rfl | rfl | rfl | rfl <;> omega) (k c o e)
   have I2:A0 X ae σ H1 { s1 with heap:=h2,toks:=tk }:=I1.kept (t':=tk) mz
   have hS:@LE.le Nat _ s1.heap.objs.size h'.objs.size:=by rw [hsz];omega
   have big:∀c,s1.heap.objs.size<=c->H1 c=none/\c≠X.env.locals/\(∀x d,X.env.cells.lookup x=some d->d≠c)/\∀q∈X.pn++ae,q.1≠c:=fun c fW=>by
    obtain⟨f0,f1,_,_,f4,f5⟩:=I1.fpOk fW (I1.hok.fresh fW)
    exact⟨f0,f1,f4,f5⟩
   have kK:∀a∈as,s1.heap.objs.size<=a:=fun a lc=>aR hS (dq (eA a lc))
   have pV:(xs.zip ys).length=Min.min aS.toArray.size bW.toArray.size:=by simp;omega
   obtain⟨H3,I3,je,fg,rK⟩:=Z9b (X:=X) (s:={ s1 with heap:=h2,toks:=tk }) (n0:=s1.heap.objs.size) I1.sz as (xs.zip ys) I2 (by rw [iJ,pV]) gK (fun a lc=>⟨kK a lc,big a (kK a lc)⟩) fun j a v e1 e2=>by
    obtain⟨x,y,ex,ey,pr⟩:=jv j a e1
    rw [bO]at e2
    obtain⟨u,hu,ru⟩:=hJ.get e2.1
    obtain⟨u',kt,kc⟩:=ii.get e2.2
    have ex:aS[j]?=some x:=by simpa using ex
    have ey:bW[j]?=some y:=by simpa using ey
    rw [hu]at ex;cases ex
    rw [kt]at ey;cases ey
    exact⟨_,_,ru,kc,pr⟩
   have mQ:h'.objs.size∉as:=fun z=>aO _ (eA _ z)
   obtain⟨b1,b2,b3,b4⟩:=big h'.objs.size hS
   have hz:(as.map V.ref).length<=sizeLine:=by rw [ag,iJ];simp only [aE];omega
   have I4:=Z2b I3 (p:=h'.objs.size) (u:=.lst (as.map V.ref)) (by rw [fg _ mQ];exact b1) (.inr (aR I1.sz hS)) b2 b3 b4 ⟨hz,as.map Value.ref,c,Z4n as,jJ⟩
   have gw:=je.trans (D5 (p:=h'.objs.size) (by rw [fg _ mQ];exact b1) (.lst (as.map V.ref)))
   refine⟨.ref h'.objs.size,_,I4,rfl,q _ _ (sm.trans gw) ⟨h'.objs.size,as.map V.ref,rfl,sm.free b1,upd_same,?_⟩⟩
   have kp:=Kp.of gw
   have rN:=al.mono kp _ _
   have nu:=cJ.mono kp _ _
   have rJ:∀(j:Nat) a v,as[j]?=some a->(xs.zip ys)[j]?=some v->upd H3 h'.objs.size (.lst (as.map V.ref)) a=some (.tup [v.1,v.2]):=fun j a v e1 e2=>by
    rw [B0 (fun z=>mQ (by rw [<- z];exact aC e1))];exact rK j a v e1 e2
   have lz:as.length=(P3 ds es).length:=by rw [iJ,Q6z,al.length,cJ.length];simp only [aE];omega
   have key:∀(as:List Addr) (zs:List D) (H:Hp),as.length=zs.length->(∀(j:Nat) a z,as[j]?=some a->zs[j]?=some z->A1 X.K H z (.ref a))->AllS X.K H zs (as.map V.ref):=by
    intro as
    induction as with
    | nil=>intro zs H l _;cases zs with
     | nil=>exact AllS.nil
     | cons _ _=>cases l
    | cons a as ih =>
     intro zs H l f
     cases zs with
     | nil=>cases l
     | cons z zs=>exact AllS.cons (f 0 a z rfl rfl) (ih zs H (by simpa using l) fun j a z e1 e2=>f (j+1) a z (by simpa using e1) (by simpa using e2))
   refine key as (P3 ds es) _ lz fun j a z e1 e2=>?_
   obtain⟨x,y,ex,ey,rfl⟩:=Z6a e2
   obtain⟨v1,jt,q1⟩:=rN.get ex
   obtain⟨v2,js,q2⟩:=nu.get ey
   exact A1.s_tup (rJ j a (v1,v2) e1 (by rw [bO];exact⟨jt,js⟩)) (AllS.cons q1 (AllS.cons q2 AllS.nil))
end
theorem B4.hid {κ:Type}{K:Fg9}{S:List Addr}{H:Hp} (hS:S5 S H):∀{kvs:List (κ×D)}{ps:List (κ×V)},B4 K H kvs ps->B4 K (K3 S H) kvs ps
 | [],ps,h=>h
 | p::kvs,ps,h=>by obtain⟨v,r,e,q,t⟩:=h;exact⟨v,r,e,A1.hid hS _ _ q,B4.hid hS t⟩
theorem N4.hid {K:Fg9}{a:Addr}{kvs:List (A7×D)}:Q1m (N4 K a kvs):=fun S H hS ⟨o,ps,h,q⟩=>by
 refine⟨o,ps,?_,q.hid hS⟩
 rw [Y3]
 ·exact h
 ·intro ha
  obtain⟨o',u,e,_⟩:=hS a ha
  rw [h]at e
  cases e
section
variable {X:Cx}{H0:Hp}{st:Stmt}{w:WS}{a b c e o:Expr}{wa wb wi we wv wk:WE}{wr:WA}{i j nt:Nat}{cap:List Nat}{kY:P5}{g:WG} {τ:A8}{E:F3}{K:Fg9}{Q:R->Prop}
def Q4q (i:Nat) (w:WS):WS:=fun E τ=>w { E with nx:=fun τ'=>∃ds,τ'[i]?=some (some (.own ds))/\E.nx (τ'.set i (some (.dat (.lst ds)))) } τ
theorem DS.fzO (i:Nat) (h:DS X H0 st w):DS X H0 st (Q4q i w) where
 mono:=fun τ E F le q=>h.mono τ { E with nx:=fun τ'=>∃ds,τ'[i]?=some (some (.own ds))/\E.nx (τ'.set i (some (.dat (.lst ds)))) } { F with nx:=fun τ'=>∃ds,τ'[i]?=some (some (.own ds))/\F.nx (τ'.set i (some (.dat (.lst ds)))) } ⟨fun τ' ⟨ds,e,q⟩=>⟨ds,e,le.nx _ q⟩,le.rt,le.bk,le.ct⟩ q
 ps:=Q0 (Q8k h.ps) fun D σ H ⟨τ,hR,q⟩=>⟨τ,hR,h.mono τ { K8 X.K H0 H D with nx:=fun τ'=>∃ds,τ'[i]?=some (some (.own ds))/\(K8 X.K H0 H D).nx (τ'.set i (some (.dat (.lst ds)))) } _ ⟨fun τ' ⟨ds,e,q⟩ σ' H' kp cM ae s I=>by
  obtain⟨a,xs,hv,h0,sq,al⟩:=cM.ownAt e
  obtain⟨o,I2⟩:=A0.freeze I sq
  exact⟨_,I2,q σ' _ (kp.trans (Kp.upd sq _)) (cM.freeze e hv h0 sq al)⟩,fun _ h=>h,fun _ h=>h,fun _ h=>h⟩ q⟩
@[simp] theorem Z3p:Q4q i w E τ=w { E with nx:=fun τ'=>∃ds,τ'[i]?=some (some (.own ds))/\E.nx (τ'.set i (some (.dat (.lst ds)))) } τ:=rfl
@[simp] theorem W5w:Z4v K i w E τ=w { E with nx:=fun τ'=>∃kvs,τ'[i]?=some (some (.dk kvs))/\∀a,E.nx (τ'.set i (some (.cl a (N4 K a kvs)))) } τ:=rfl
@[simp] theorem W5x:Z4w i w E τ=w { E with nx:=fun τ'=>∃a dss,τ'[i]?=some (some (.ll a dss))/\Y6 i τ'=true/\E.nx (τ'.set i (some (.dat (.lst (dss.map .lst))))) } τ:=rfl
@[simp] theorem W6s:Z5e K i E τ=∃kvs,τ[i]?=some (some (.dk kvs))/\∀a,E.rt (.cl a (N4 K a kvs)):=rfl
@[simp] theorem W6t:Z5f i we E τ=we τ fun r=>∃a Φ,r=.cl a Φ/\E.nx (τ.set i (some (.cl a Φ))):=rfl
@[simp] theorem Y2j:Q9q K i we τ Q=∃a kvs,τ[i]?=some (some (.cl a (N4 K a kvs)))/\we τ fun r=>∃kd k d,r=.st kd/\P7 kd=some k/\C7 kvs k=some d/\Q (.st d):=rfl
@[simp] theorem W5v:Z4u K i we τ Q=∃a kvs,τ[i]?=some (some (.cl a (N4 K a kvs)))/\we τ fun r=>∃kd k,r=.st kd/\P7 kd=some k/\Q (.st ((C7 kvs k).getD .non)):=rfl
@[simp] theorem W6h:Z4z i E τ=E.nx (τ.set i (some (.dk []))):=rfl
@[simp] theorem W6i:Z5a i we wv E τ=(i<τ.length/\we τ fun rk=>∃kd k,rk=.st kd/\P7 kd=some k/\wv τ fun r=>∃d,r=.st d/\E.nx (τ.set i (some (.dk [(k,d)])))):=rfl
@[simp] theorem W6j:Q9s i we wv E τ=∃kvs,τ[i]?=some (some (.dk kvs))/\we τ fun rk=>∃kd k,rk=.st kd/\P7 kd=some k/\wv τ fun r=>∃d,r=.st d/\kvs.length<sizeLine/\E.nx (if (C7 kvs k).isSome=true then τ else τ.set i (some (.dk (kvs++[(k,d)])))):=rfl
@[simp] theorem W6g:Z4y i nt cap kY g wk wv E τ=kY τ fun ds=>ds.length<sizeLine/\U5 g wk wv ds (R5 nt cap τ) [] fun kvs=>E.nx (τ.set i (some (.dk kvs))):=rfl
@[simp] theorem W6m:Z5b i nt cap kY g we E τ=kY τ fun ds=>ds.length<=sizeLine/\Y2 g we ds (R5 nt cap τ) fun dss=>∀a,E.nx (τ.set i (some (.ll a dss))):=rfl
@[simp] theorem W6l:Q6t i we wv E τ=∃a dss,τ[i]?=some (some (.ll a dss))/\Y6 i τ=true/\we τ fun r=>∃k j,r=.st (.int k)/\ixN dss.length k=some j/\wv τ fun r2=>∃d,r2=.st d/\(dss.getD j []).length<sizeLine/\E.nx (τ.set i (some (.ll a (dss.set j (dss.getD j []++[d]))))):=rfl
@[simp] theorem W6p:Z5c wr τ Q=wr τ fun rs=>∃r r' ds es,rs=[r,r']/\P9 r=some ds/\P9 r'=some es/\Q (.nw (P3 ds es)):=rfl
@[simp] theorem W6n {kvs:List (A7×D)}:Q2z [.dk kvs] Q=Q (.nw (kvs.map fun p=>kyD p.1)):=rfl
@[simp] theorem W6q {r:R}:Q0k [r] Q=∃ns:List Int,P9 r=some (ns.map .int)/\ns≠[]/\∀m,m∈ns->(∀n∈ns,n<=m)->Q (.st (.int m)):=rfl
end
section
variable {P:Program}{w:World}{A:Around}{E:VS9}{s:Shared}{it t:Addr}{i:Nat}{items:Array Value}
theorem W1c {x:Value}{Q:VS9} (hit:s.heap.IsTupleIter it t i) (ht:s.heap.IsTuple t items) (hx:items[i]?=some x) (hQ:∀h',h'.IsTupleIter it t (i+1)->Heap.SameBut it s.heap h'->Q x { s with heap:=h' }) :
  wpAny (model P w) A (Builtin.SmallTypes.nextOf (.ref it)) Q E s:=by
 obtain⟨o,ho,hc,hd⟩:=id hit
 obtain⟨ol,mq,_,nl,mK⟩:=ht
 unfold Builtin.SmallTypes.nextOf;refine a9 (b8 (name:=Str.ofString "__next__") hit.typeIs jV (bc jV hit.typeIs F.entry_tuple_iterator_next ?_ (F.args_tuple_iterator_next_1 _)))
 change wpAny (model P w) A.in1 (field (Value.ref it) 0>>=_) _ _ s
 refine a9 (aW ho hd (x:=.ref t) rfl (?_:wpAny (model P w) A.in1 (if (Value.ref t==Value.none)=true then _ else _) _ _ s))
 rw [aD (show ¬ (Value.ref t==Value.none)=true from bK)]
 change wpAny (model P w) A.in1 (field (Value.ref it) 1>>=_) _ _ s
 refine a9 (aW ho hd (x:=.int i 0) rfl (?_:wpAny (model P w) A.in1 (seqItems? (Value.ref t)>>=_) _ _ s))
 refine a9 (bg mq mK ?_);simp only [bo,hx]
 refine a9 (wpAny_setField ho hd (by simp) (af ⟨x,rfl,af (hQ _ ⟨_,fK _ ho (Obj.isFreed_of_fields (Obj.data_mapFields hd _)),(Obj.cls_mapFields ..).trans hc,by rw [Obj.data_mapFields hd];simp [rawInt]⟩ (bB ..))⟩))
theorem W1d {Q:VS9} (hh:A.handled=none) (hit:s.heap.IsTupleIter it t i) (ht:s.heap.IsTuple t items) (hx:items[i]?=none)
  (hE:∀h' e,Heap.ExtBut it s.heap h'->(∃o,h'.get? e=some o/\o.cls=.type "StopIteration")->E (.ref e) { s with heap:=h' }):wpAny (model P w) A (Builtin.SmallTypes.nextOf (.ref it)) Q E s:=by
 obtain⟨o,ho,hc,hd⟩:=id hit
 obtain⟨ol,mq,_,nl,mK⟩:=ht
 unfold Builtin.SmallTypes.nextOf;refine a9 (b8 (name:=Str.ofString "__next__") hit.typeIs jV (bc jV hit.typeIs F.entry_tuple_iterator_next ?_ (F.args_tuple_iterator_next_1 _)))
 change wpAny (model P w) A.in1 (field (Value.ref it) 0>>=_) _ _ s
 refine a9 (aW ho hd (x:=.ref t) rfl (?_:wpAny (model P w) A.in1 (if (Value.ref t==Value.none)=true then _ else _) _ _ s))
 rw [aD (show ¬ (Value.ref t==Value.none)=true from bK)]
 change wpAny (model P w) A.in1 (field (Value.ref it) 1>>=_) _ _ s
 refine a9 (aW ho hd (x:=.int i 0) rfl (?_:wpAny (model P w) A.in1 (seqItems? (Value.ref t)>>=_) _ _ s))
 refine a9 (bg mq mK ?_);simp only [bo,hx]
 refine a9 (dU (a9 (wpAny_setField ho hd (by simp) (?_:wpAny (model P w) A.in1 (newExc (.type "StopIteration") []>>=_) _ _ _))))
 refine a9 ?_;simp only [newExc,newTuple]
 refine a9 (bt (?_) (by size_fits))
 refine a9 (m:=firstArgMember _ _) (wpAny_of_eq (a:=Value.none) (by rfl) (bt ?_ (by size_fits)))
 simp only [raiseNew];refine a9 (wpAny_handled ?_)
 rw [show A.in1.handled=none from hh]
 exact a9 (af (wpAny_throw (hE _ _ (((bB ..).extBut.push _).push _) ⟨_,aw _ rfl,rfl⟩)))
end
theorem Q1s {P:Program}{w:World}{A:Around} (hh:A.handled=none) (it t:Addr) (cA:t≠it) (items:Array Value) :
  Draws P w A it [it,t] items.size (fun i v=>items[i]?=some v) (fun i h=>h.IsTupleIter it t i/\h.IsTuple t items) where
 live:=fun _ _ st=>let ⟨o,ho,_⟩:=st.1;⟨o,ho⟩
 frame:=fun _ _ _ ⟨⟨o,ho,r⟩,o2,fN,r2⟩ hk=>⟨⟨o,hk it (by simp) o ho,r⟩,o2,hk t (by simp) o2 fN,r2⟩
 item:=fun i s Q E hi st hQ=>W1c st.1 st.2 (x:=items[i]) (by simp [hi]) fun h' mC l6=>hQ _ h' s.toks (by simp [hi]) ⟨mC,st.2.extBut l6.extBut cA⟩ l6
 done:=fun s Q E st hE=>W1d hh st.1 st.2 (by simp) hE
open AutoSeq1 (wpAny_loadPart') in
theorem Y7z (t:Addr) (items:Array Value) :
  Meets (Builtin.«enumerate.__new__» ⟨[.type "enumerate",.ref t],[]⟩) (fun _ R s=>s.heap.IsTuple t items /\
   R (.ok (.ret (.ref (s.heap.push { cls:=.type "tuple_iterator",data:=.fields #[.ref t,.int 0 0] }).objs.size)))
    { s with heap:=(s.heap.push { cls:=.type "tuple_iterator",data:=.fields #[.ref t,.int 0 0] }).push { cls:=.type "enumerate",data:=.fields #[.none,.bool false,.ref s.heap.objs.size,rawInt 0,.none,.none] } }) :=
 .of_wp fun prog w A R s h=>by
  obtain⟨hp,g,d,tk,os⟩:=s;obtain⟨hL,h⟩:=h
  obtain⟨⟨c,sg,dt,sl⟩,hl,hc,n,hd⟩:=id hL
  replace hc:c=.type "tuple":=hc
  replace hd:dt=.seq items n:=hd
  subst hc hd
  have hL:Heap.IsTuple (Shared.heap ⟨hp,g,d,tk,os⟩) t items:=hL
  have hsub:=sub_enumerate
  wp_walk using wpAny_loadPart' hl
  refine wpAny_stack_any fun st=>af ?_
  split
  ·rename_i c _ _ _ _ _
   cases (c==Value.type "enumerate") <;> (wp_walk using wpAny_loadPart' hl,dW hL) <;> exact⟨_,rfl,h⟩
  ·wp_walk using wpAny_loadPart' hl,dW hL
   exact⟨_,rfl,h⟩
section
variable {P:Program}{w:World}{A:Around}{E:VS9}{s:Shared}
theorem Z7k {t:Addr}{items:Array Value}{Q:VS9} (ht:s.heap.IsTuple t items)
  (h:∀h',IsEnum h' (s.heap.objs.size+1) s.heap.objs.size 0 .none->h'.IsTupleIter s.heap.objs.size t 0->h'.objs.size=s.heap.objs.size+2->(∀b o,s.heap.get? b=some o->h'.get? b=some o)->Q (.ref (s.heap.objs.size+1)) { s with heap:=h' }) :
  wpAny (model P w) A (call (.type "enumerate") [.ref t]) Q E s:=by
 refine callType_new F.called_enumerate (by decide) (F.typeCall_enumerate_1 _) (F.newCall_enumerate_1 _) (fun obj=>F.args_object_init_2 obj _) F.entry_enumerate_new (Y7z t items) ⟨ht,?_⟩
 have hz:(s.heap.push { cls:=.type "tuple_iterator",data:=.fields #[.ref t,.int 0 0] }).objs.size=s.heap.objs.size+1:=bn ..
 have he:IsEnum ((s.heap.push { cls:=.type "tuple_iterator",data:=.fields #[.ref t,.int 0 0] }).push { cls:=.type "enumerate",data:=.fields #[.none,.bool false,.ref s.heap.objs.size,rawInt 0,.none,.none] }) (s.heap.objs.size+1) s.heap.objs.size 0 .none:=by
  have e:=aw (s.heap.push { cls:=.type "tuple_iterator",data:=.fields #[.ref t,.int 0 0] }) (o:={ cls:=.type "enumerate",data:=.fields #[.none,.bool false,.ref s.heap.objs.size,rawInt 0,.none,.none] }) rfl
  rw [hz]at e;exact e
 rw [hz]
 exact⟨⟨_,he,rfl⟩,h _ he ⟨_,aa _ (aw _ rfl),rfl,rfl⟩ (by rw [bn,hz]) fun b o x=>aa _ (aa _ x)⟩
end
noncomputable def Iet (K:Fg9) (l:Addr):It:=⟨fun i H=>∃xs x,C0 K H l xs/\xs[i]?=some x,fun i H v H'=>∃T x,(∀xs,C0 K H l xs->xs[i]?=some x)/\H T=none/\v=.ref T/\H'=upd H T (.tup [.int (i:Int),x]),fun i H=>∃xs,C0 K H l xs/\xs.length=i⟩
theorem Y4o {P:Program}{w:World}{K:Fg9}{cL:List Expr}{kk:Nat}{pt:Pos}{en it l:Addr} (cA:en≠it) (gb:l≠en) (kD:l≠it) :
  Z0 P w K (.Tuple cL kk pt) (Iet K l) [en,it] en (fun i h=>(∃old,IsEnum h en it i old)/\h.IsTupleIter it l i) where
 mem:=by simp
 obj:=fun i h st b hb=>by
  obtain⟨⟨old,he⟩,o,ho,_,d⟩:=st
  rcases aj.mp hb with rfl | hb
  ·exact⟨_,he,fun v z=>by cases z⟩
  ·have e:b=it:=by simpa using hb
   subst e
   exact⟨o,ho,fun v z=>by rw [d]at z;cases z⟩
 keep:=fun i h h' ⟨⟨old,he⟩,o,ho,r⟩ k=>⟨⟨old,k en (by simp) _ he⟩,o,k it (by simp) o ho,r⟩
 item:=by
  intro X hP hw hK hc i ae s σ H E I hf st hg
  subst hP hw hK
  obtain⟨xs,x,hq,hx⟩:=hg
  obtain⟨aS,rv,p,hz⟩:=I.tuple hq
  have W:=WalksT.enumerateD (Q1s (P:=X.prog) (w:=X.w) (A:=X.A.in1) (show X.A.in1.handled=none from I.ok.hd hc) it l kD aS.toArray) en cA (by simp;exact⟨cA,fun z=>gb z.symm⟩) (by simp)
  obtain⟨u,hu,ru⟩:=rv.get hx
  have bR:i<aS.toArray.size:=by
   rcases bD i aS.length with h | h
   ·simpa using h
   ·rw [aH.mpr h]at hu;cases hu
  refine W.item i s _ _ bR ⟨st.1,st.2,p⟩ fun T fR h' tk hv hT kM iV k=>?_
  obtain⟨t1,y,hy,rfl⟩:=hv
  have ey:y=u:=by
   have:aS[i]?=some y:=by simpa using hy
   rw [hu]at this;exact(aB this).symm
  subst ey
  refine⟨_,rfl,W.go cL kk pt i T { s with heap:=h',toks:=tk } _ _ iV fun h2 dC k2=>?_⟩
  have io:∀b o,b∉[en,it]->s.heap.get? b=some o->h2.get? b=some o:=fun b o hb e=>k2 b o hb (k b o hb e)
  have ib:=W.apart i T h' iV
  have eM:IsTup h2 T ([Value.int (i:Int) t1,y]).toArray:=by
   obtain⟨o,ho,r⟩:=kM
   exact⟨o,k2 T o ib ho,r⟩
  have I2:=Q6r (t':=tk) (xs:=[.int (i:Int),x]) I io hf hT eM (.cons ⟨t1,rfl⟩ (.cons ru .nil)) (by show 2<=sizeLine;decide)
  refine⟨.ref T,_,I2,rfl,⟨T,x,fun ys hy=>by rw [I.tuple_inj hy hq];exact hx,I.hok.fresh hT,rfl,rfl⟩,⟨dC.1,dC.2.1⟩,fun b hb=>?_⟩
  rw [B0 (show b≠T from fun z=>ib (by rw [<- z];exact hb))]
  exact(hf b hb).1
 done:=by
  intro X hP hw hK hc i ae s σ H E I hf st hg
  subst hP hw hK
  obtain⟨xs,hq,hx⟩:=hg
  obtain⟨aS,rv,p,hz⟩:=I.tuple hq
  have W:=WalksT.enumerateD (Q1s (P:=X.prog) (w:=X.w) (A:=X.A.in1) (show X.A.in1.handled=none from I.ok.hd hc) it l kD aS.toArray) en cA (by simp;exact⟨cA,fun z=>gb z.symm⟩) (by simp)
  have hl:=rv.length
  have e:i=aS.toArray.size:=by simp;omega
  subst e
  exact W.done s _ _ ⟨st.1,st.2,p⟩ fun h' tk k=>⟨rfl,Q3k I k hf⟩
 self:=fun A i s Q E ⟨⟨old,he⟩,_⟩ h=>ck he h
theorem Z0b {K:Fg9}{H0 H:Hp}{l:Addr}{xs:List V}{ds:List D} (hq:H l=some (.tup xs)) (al:AllS K H ds xs):Yl K H0 (Iet K l) (G9 ds) H where
 go:=fun H' k s i hi=>by
  rw [Q1t]at hi
  exact⟨xs,xs[i]'(by rw [<- al.length];exact hi),C0.of (k.tup _ _ hq),ac _⟩
 yld:=fun H' k s i v dh d hd ⟨T,x,hx,hT,hv,hH⟩=>by
  subst hH hv
  refine⟨D5 hT _,?_⟩
  obtain⟨y,hy,rfl⟩:=Q7q hd
  obtain⟨v,hv,q⟩:=al.get hy
  rw [hx xs (C0.of (k.tup _ _ hq))]at hv;cases hv
  exact A1.s_tup upd_same (AllS.cons A1.s_int (AllS.cons (q.mono (k.trans (Kp.of (D5 hT _))) _ _) AllS.nil))
 stop:=fun H' k s=>⟨xs,C0.of (k.tup _ _ hq),by rw [Q1t];exact al.length.symm⟩
theorem W9e {K:Fg9}{H0 H:Hp}{x:Str}:Yl K H0 (Ies x) (G9 (G2 x)) H where
 go:=fun H' _ _ i hi=>(Z5z (K:=K) (H:=H')).go H' (A4.refl _) i hi
 yld:=fun H' _ _ i v dh d hd h=>(Z5z (K:=K) (H:=H')).yld H' (A4.refl _) i v dh d hd h
 stop:=fun H' _ _=>(Z5z (K:=K) (H:=H')).stop H' (A4.refl _)
section
variable {X:Cx}{H0:Hp}{a:Expr}{p pos:Pos}{wr:WA}
def Z1x (wr:WA):WI:=fun τ Q=>wr τ fun rs=>(∃x,rs=[.st (.str x)]/\Q (G9 (G2 x)) τ)\/∃ds,rs=[.st (.tup ds)]/\Q (G9 ds) τ
theorem DI.enumX {cL:List Expr}{kk:Nat}{pt:Pos} (hg:Gl X "enumerate") (hm:X.mg "enumerate"=none) (hv:bootBuiltins "enumerate"=some (.type "enumerate")) (ha:DA X H0 [a] wr) (he:starEach [a] X.env=(false,eval a X.env)::starEach [] X.env:=by rfl) (hpl:(backTo pos (starEach [] X.env)).any (·.1)=false:=by rfl) :
  DI X H0 (.Tuple cL kk pt) (.Call (.Name "enumerate" p) [a] [] pos) (Z1x wr) where
 mono:=fun τ P Q f h=>ha.mono τ _ _ (fun r h=>h.imp (fun⟨x,e1,q⟩=>⟨x,e1,f _ _ q⟩) fun⟨ds,e1,q⟩=>⟨ds,e1,f _ _ q⟩) h
 pi:=by
  intro ae s σ H R I ⟨τ,hR,h⟩
  refine bh (Y4 I hg hm hv ?_ (by decide) (by decide))
  refine aY (B2 (ha.pa pos ae s σ H (fun vs H1=>A4 H H1/\((∃x,vs=[.str x]/\∀J H',Kp H H'->B5 X.K H0 τ σ H'->Yl X.K H0 J (G9 (G2 x)) H'->R J H') \/
    ∃l xs ds,vs=[.ref l]/\H1 l=some (.tup xs)/\AllS X.K H1 ds xs/\∀J H',Kp H H'->B5 X.K H0 τ σ H'->Yl X.K H0 J (G9 ds) H'->R J H')) I
   ⟨τ,hR,ha.mono τ _ _ (fun rs h vs H1 s1 cq=>⟨s1,?_⟩) h⟩) fun us s1 ⟨vs,H1,I1,rv,sm,hh⟩=>?_) he hpl
  ·rcases h with⟨x,e1,q⟩ | ⟨ds,e1,q⟩
   ·subst e1
    obtain⟨v,rfl,ir⟩:=V3 cq
    cases (show v=.str x from ir)
    exact .inl ⟨x,rfl,q⟩
   ·subst e1
    obtain⟨v,rfl,ir⟩:=V3 cq
    have ir:A1 X.K H1 (.tup ds) v:=ir
    unfold A1 at ir
    obtain⟨l,xs,rfl,sq,al⟩:=ir
    exact .inr ⟨l,xs,ds,rfl,sq,al,q⟩
  ·have big:∀b∈[s1.heap.objs.size+1,s1.heap.objs.size],K2 X ae H1 b:=fun b hb=>by
    have hb:s1.heap.objs.size<=b:=by
     rcases aj.mp hb with rfl | hb
     ·exact cx _
     ·have e:b=s1.heap.objs.size:=by simpa using hb
      rw [e];exact ah _
    exact I1.fpOk hb (I1.hok.fresh hb)
   rcases hh with⟨x,rfl,q⟩ | ⟨l,xs,ds,rfl,sq,al,q⟩
   ·obtain⟨u,rfl,ru⟩:=T5 rv
    obtain⟨t,rfl⟩:=ru
    refine call_enumerate_str fun h' he hi hz k=>?_
    exact ck he ⟨s1.heap.objs.size+1,[s1.heap.objs.size+1,s1.heap.objs.size],_,_,H1,rfl,I1.kept (t':=s1.toks) k,W8n (x:=x) (t:=t) (gq _),⟨⟨_,he⟩,hi⟩,big,q _ _ (Kp.of sm) (hR.mono sm) W9e⟩
   ·obtain⟨u,rfl,ru⟩:=T5 rv
    cases (show u=Value.ref l from ru)
    obtain⟨aS,hJ,pl,g8⟩:=I1.tuple (C0.of sq)
    have hl:l<s1.heap.objs.size:=by obtain⟨o,ho,_⟩:=pl;exact ak ho
    refine Z7k pl fun h' he hi hz k=>?_
    exact ck he ⟨s1.heap.objs.size+1,[s1.heap.objs.size+1,s1.heap.objs.size],_,_,H1,rfl,I1.kept (t':=s1.toks) k,Y4o (l:=l) (gq _) (ay (bx hl)) (ay hl),⟨⟨_,he⟩,hi⟩,big,q _ _ (Kp.of sm) (hR.mono sm) (Z0b sq al)⟩
@[simp] theorem W5z {τ:A8}{Q:List D->A8->Prop}:Z1x wr τ Q=wr τ fun rs=>(∃x,rs=[.st (.str x)]/\Q (G9 (G2 x)) τ)\/∃ds,rs=[.st (.tup ds)]/\Q (G9 ds) τ:=rfl
end
structure X9 (z TI TO i1 i2:Addr) (eC eB:List Addr):Prop where
 tiz:TI≠z
 toz:TO≠z
 i1z:i1≠z
 i2z:i2≠z
 tito:TI≠TO
 ti1:TI≠i1
 ti2:TI≠i2
 to1:TO≠i1
 to2:TO≠i2
 i12:i1≠i2
 f1:∀b∈eC,b≠z/\b≠TO/\b≠i2
 f2:∀b∈eB,b≠z/\b≠TO/\b≠i1
section
variable {P:Program}{w:World}{A:Around}{E:VS9}{s:Shared}{z TI TO i1 i2:Addr}{eC eB:List Addr}{n1 n2 k:Nat}{P1 P2:Nat->Value->Prop}{S1 S2:Nat->Heap->Prop}{a b:Value}
theorem J8 {it:Addr}{fp:List Addr}{n i:Nat}{Q:Nat->Value->Prop}{S:Nat->Heap->Prop} (D:Draws P w A it fp n Q S) {h h':Heap}{c:Addr} (st:S i h) (sb:Heap.ExtBut c h h') (hc:∀b∈fp,b≠c):S i h':=D.frame _ _ _ st fun b hb o e=>sb b o (hc b hb) e
theorem W9o {Q:VS9} (Z:X9 z TI TO i1 i2 eC eB) (D1:Draws P w A i1 eC n1 P1 S1) (D2:Draws P w A i2 eB n2 P2 S2) (hz:IsZip s.heap z TI TO .none) (cy:IsPair s.heap TI (.ref i1) (.ref i2)) (cH:IsPair s.heap TO a b) (h1:S1 k s.heap) (h2:S2 k s.heap) (l1:k<n1) (l2:k<n2)
  (hQ:∀h' tk x y,P1 k x->P2 k y->IsZip h' z TI TO (rawInt s.heap.objs.size)->IsPair h' TO x y->S1 (k+1) h'->S2 (k+1) h'->IsPair h' s.heap.objs.size x y->(∀c o,c≠z->c≠TO->c≠i1->c≠i2->s.heap.get? c=some o->h'.get? c=some o)->Q (.ref s.heap.objs.size) { s with heap:=h',toks:=tk }) :
  wpAny (model P w) A (Builtin.«zip.__next__» ⟨[.ref z],[]⟩) (fun fin s'=>∃v,fin=.done (.ret v)/\Q v s') E s:=by
 change wpAny (model P w) A (field (.ref z) 2>>=_) _ _ s
 refine a9 (aW hz rfl (x:=Value.bool false) rfl ?_)
 change wpAny (model P w) A (field (.ref z) 3>>=_) _ _ s
 refine a9 (aW hz rfl (x:=.ref TI) rfl (a9 (bg cy rfl ?_)))
 change wpAny (model P w) A (Builtin.SmallTypes.ownedTupleIsFree (.ref z)>>=_) _ _ s
 refine a9 ?_
 unfold Builtin.SmallTypes.ownedTupleIsFree;refine a9 (aW hz rfl (x:=.none) rfl (af ?_))
 rw [aI rfl]
 refine a9 (dU (a9 (aW hz rfl (x:=.ref TO) rfl (a9 (bf hz (by simp) fun g₁ dN cV=>?_)))))
 have dN:IsZip g₁ z TI TO .ellipsis:=dN
 refine a9 ?_
 simp only [bQ,List.zipIdx_nil,be,dr];refine a9 (a9 (dJ ?_))
 change wpAny (model P w) A (Builtin.SmallTypes.nextOf (.ref i1)>>=_) _ _ _
 refine a9 (D1.item k _ _ _ l1 (J8 D1 h1 cV.extBut fun b hb=>(Z.f1 b hb).1) fun x g₂ jX px gU cK=>af ?_)
 have dQ:IsPair g₂ TO a b:=cK.extBut _ _ Z.to1 (cV.extBut _ _ Z.toz cH)
 refine a9 (bg dQ rfl (a9 (dj dQ fun g₃ eL db=>a9 (gp (af ?_)))))
 have eL:IsPair g₃ TO x b:=eL
 refine a9 (a9 (dJ ?q))
 change wpAny (model P w) A (Builtin.SmallTypes.nextOf (.ref i2)>>=_) _ _ _
 have gT:S2 k g₃:=J8 D2 (J8 D2 (J8 D2 h2 cV.extBut fun b hb=>(Z.f2 b hb).1) cK.extBut fun b hb=>(Z.f2 b hb).2.2) db.extBut fun b hb=>(Z.f2 b hb).2.1
 refine a9 (D2.item k _ _ _ l2 gT fun y g₄ lA py mZ eZ=>af ?_)
 have gR:IsPair g₄ TO x b:=eZ.extBut _ _ Z.to2 eL
 refine a9 (bg gR rfl (a9 (dj gR fun g₅ eK eY=>a9 (gp (af (af ?_))))))
 have eK:IsPair g₅ TO x y:=eK
 refine a9 (bg eK rfl (a9 (wpAny_newTuple ?_)))
 have hsz:g₅.objs.size=s.heap.objs.size:=by rw [eY.1,eZ.1,db.1,cK.1,cV.1]
 have ki:IsZip g₅ z TI TO .ellipsis:=eY.extBut _ _ Z.toz.symm (eZ.extBut _ _ Z.i2z.symm (db.extBut _ _ Z.toz.symm (cK.extBut _ _ Z.i1z.symm dN)))
 have my:∀c o,c≠z->c≠TO->c≠i1->c≠i2->s.heap.get? c=some o->g₅.get? c=some o:=fun c o c1 c2 c3 c4 e=>eY.extBut _ _ c2 (eZ.extBut _ _ c4 (db.extBut _ _ c2 (cK.extBut _ _ c3 (cV.extBut _ _ c1 e))))
 have n9:S1 (k+1) g₅:=J8 D1 (J8 D1 (J8 D1 gU db.extBut fun b hb=>(Z.f1 b hb).2.1) eZ.extBut fun b hb=>(Z.f1 b hb).2.2) eY.extBut fun b hb=>(Z.f1 b hb).2.1
 have mY:S2 (k+1) g₅:=J8 D2 mZ eY.extBut fun b hb=>(Z.f2 b hb).2.1
 have gG:z<g₅.objs.size:=ak ki
 change wpAny (model P w) A (Builtin.SmallTypes.ownedTupleHandOut (.ref z) (Value.ref g₅.objs.size)>>=_) _ _ _
 refine a9 ?_
 unfold Builtin.SmallTypes.ownedTupleHandOut;refine a9 (bf (aa _ ki:IsZip (g₅.push { cls:=.type "tuple",data:=.seq #[x,y] }) z TI TO .ellipsis) (by simp) fun g₇ jp k8=>?_)
 have jp:IsZip g₇ z TI TO (rawInt g₅.objs.size):=jp
 refine bf jp (by simp) fun g₈ ip k7=>af ⟨_,rfl,?_⟩
 have ip:IsZip g₈ z TI TO (rawInt g₅.objs.size):=ip
 have up:∀c o,c≠z->g₅.get? c=some o->g₈.get? c=some o:=fun c o c1 e=>k7.extBut _ _ c1 (k8.extBut _ _ c1 (aa _ e))
 have kL:IsPair g₈ g₅.objs.size x y:=k7.extBut _ _ (Nat.ne_of_gt gG) (k8.extBut _ _ (Nat.ne_of_gt gG) (aw _ rfl))
 rw [hsz]at ip kL
 have goal:=hQ g₈ lA x y px py ip (up _ _ Z.toz eK) (D1.frame _ _ _ n9 fun b hb o e=>up b o (Z.f1 b hb).1 e) (D2.frame _ _ _ mY fun b hb o e=>up b o (Z.f2 b hb).1 e) kL fun c o c1 c2 c3 c4 e=>up c o c1 (my c o c1 c2 c3 c4 e)
 rw [<- hsz]at goal
 exact goal
theorem W9n {Q:Fin->Shared->Prop} (Z:X9 z TI TO i1 i2 eC eB) (D1:Draws P w A i1 eC n1 P1 S1) (D2:Draws P w A i2 eB n2 P2 S2) (hz:IsZip s.heap z TI TO .none) (cy:IsPair s.heap TI (.ref i1) (.ref i2)) (cH:IsPair s.heap TO a b) (h1:S1 k s.heap) (h2:S2 k s.heap) (hk:k=n1\/(k<n1/\k=n2))
  (hE:∀h' tk e,(∀c o,c≠z->c≠TO->c≠i1->c≠i2->s.heap.get? c=some o->h'.get? c=some o)->(∃o,h'.get? e=some o/\o.cls=.type "StopIteration")->E (.ref e) { s with heap:=h',toks:=tk }) :
  wpAny (model P w) A (Builtin.«zip.__next__» ⟨[.ref z],[]⟩) Q E s:=by
 change wpAny (model P w) A (field (.ref z) 2>>=_) _ _ s
 refine a9 (aW hz rfl (x:=Value.bool false) rfl ?_)
 change wpAny (model P w) A (field (.ref z) 3>>=_) _ _ s
 refine a9 (aW hz rfl (x:=.ref TI) rfl (a9 (bg cy rfl ?_)))
 change wpAny (model P w) A (Builtin.SmallTypes.ownedTupleIsFree (.ref z)>>=_) _ _ s
 refine a9 ?_
 unfold Builtin.SmallTypes.ownedTupleIsFree;refine a9 (aW hz rfl (x:=.none) rfl (af ?_))
 rw [aI rfl]
 refine a9 (dU (a9 (aW hz rfl (x:=.ref TO) rfl (a9 (bf hz (by simp) fun g₁ dN cV=>?_)))))
 have dN:IsZip g₁ z TI TO .ellipsis:=dN
 refine a9 ?_
 simp only [bQ,List.zipIdx_nil,be,dr];refine a9 (a9 (dJ ?_))
 change wpAny (model P w) A (Builtin.SmallTypes.nextOf (.ref i1)>>=_) _ _ _
 have j9:S1 k g₁:=J8 D1 h1 cV.extBut fun b hb=>(Z.f1 b hb).1
 rcases hk with hk | ⟨bR,hk⟩
 ·subst hk
  refine a9 (D1.done _ _ _ j9 fun g₂ e cK he=>?_)
  obtain⟨oe,fF,gQ⟩:=he
  have km:IsZip g₂ z TI TO .ellipsis:=cK _ _ Z.i1z.symm dN
  have jH:e≠z:=fun q=>by subst q;rw [km]at fF;cases fF;simp at gQ
  exact bf km (by simp) fun g₃ _ db=>hE g₃ _ e (fun c o c1 _ c3 _ x=>db.extBut _ _ c1 (cK _ _ c3 (cV.extBut _ _ c1 x))) ⟨oe,db.extBut _ _ jH fF,gQ⟩
 ·refine a9 (D1.item k _ _ _ bR j9 fun x g₂ jX px gU cK=>af ?_)
  have dQ:IsPair g₂ TO a b:=cK.extBut _ _ Z.to1 (cV.extBut _ _ Z.toz cH)
  refine a9 (bg dQ rfl (a9 (dj dQ fun g₃ eL db=>a9 (gp (af ?_)))))
  refine a9 (a9 (dJ ?q))
  change wpAny (model P w) A (Builtin.SmallTypes.nextOf (.ref i2)>>=_) _ _ _
  have gT:S2 k g₃:=J8 D2 (J8 D2 (J8 D2 h2 cV.extBut fun b hb=>(Z.f2 b hb).1) cK.extBut fun b hb=>(Z.f2 b hb).2.2) db.extBut fun b hb=>(Z.f2 b hb).2.1
  subst hk
  refine a9 (D2.done _ _ _ gT fun g₄ e eZ he=>?_)
  obtain⟨oe,fF,gQ⟩:=he
  have kj:IsZip g₄ z TI TO .ellipsis:=eZ _ _ Z.i2z.symm (db.extBut _ _ Z.toz.symm (cK.extBut _ _ Z.i1z.symm dN))
  have jH:e≠z:=fun q=>by subst q;rw [kj]at fF;cases fF;simp at gQ
  exact bf kj (by simp) fun g₅ _ eY=>hE g₅ _ e (fun c o c1 c2 c3 c4 x=>eY.extBut _ _ c1 (eZ _ _ c4 (db.extBut _ _ c2 (cK.extBut _ _ c3 (cV.extBut _ _ c1 x))))) ⟨oe,eY.extBut _ _ jH fF,gQ⟩
end
section
variable {P:Program}{w:World}{A:Around}{E:VS9}{s:Shared}{z TI TO i1 i2:Addr}{eC eB:List Addr}{n1 n2 k:Nat}{P1 P2:Nat->Value->Prop}{S1 S2:Nat->Heap->Prop}{a b:Value}
theorem W9p {Q:Option Value->Shared->Prop} (Z:X9 z TI TO i1 i2 eC eB) (D1:Draws P w A.in1 i1 eC n1 P1 S1) (D2:Draws P w A.in1 i2 eB n2 P2 S2) (hz:IsZip s.heap z TI TO .none) (cy:IsPair s.heap TI (.ref i1) (.ref i2)) (cH:IsPair s.heap TO a b) (h1:S1 k s.heap) (h2:S2 k s.heap) (l1:k<n1) (l2:k<n2)
  (hQ:∀h' tk x y,P1 k x->P2 k y->IsZip h' z TI TO (rawInt s.heap.objs.size)->IsPair h' TO x y->S1 (k+1) h'->S2 (k+1) h'->IsPair h' s.heap.objs.size x y->(∀c o,c≠z->c≠TO->c≠i1->c≠i2->s.heap.get? c=some o->h'.get? c=some o)->Q (some (.ref s.heap.objs.size)) { s with heap:=h',toks:=tk }) :
  wpAny (model P w) A (pyNext (.ref z)) Q E s:=by
 have hT:s.TypeIs (.ref z) "zip":=⟨_,hz,rfl⟩
 unfold pyNext
 exact a9 (dL (b8 (name:=Str.ofString "__next__") hT bI (bc bI hT fQ
  (W9o Z D1 D2 hz cy cH h1 h2 l1 l2 fun h' tk x y a1 a2 a3 a4 a5 a6 a7 a8=>af (hQ h' tk x y a1 a2 a3 a4 a5 a6 a7 a8)) (eV _))))
theorem W9q {Q:Option Value->Shared->Prop} (Z:X9 z TI TO i1 i2 eC eB) (D1:Draws P w A.in1 i1 eC n1 P1 S1) (D2:Draws P w A.in1 i2 eB n2 P2 S2) (hz:IsZip s.heap z TI TO .none) (cy:IsPair s.heap TI (.ref i1) (.ref i2)) (cH:IsPair s.heap TO a b) (h1:S1 k s.heap) (h2:S2 k s.heap) (hk:k=n1\/(k<n1/\k=n2))
  (hQ:∀h' tk,(∀c o,c≠z->c≠TO->c≠i1->c≠i2->s.heap.get? c=some o->h'.get? c=some o)->Q none { s with heap:=h',toks:=tk }):wpAny (model P w) A (pyNext (.ref z)) Q E s:=by
 have hT:s.TypeIs (.ref z) "zip":=⟨_,hz,rfl⟩
 unfold pyNext
 refine a9 (dL (b8 (name:=Str.ofString "__next__") hT bI (bc bI hT fQ (W9n Z D1 D2 hz cy cH h1 h2 hk fun h' tk e kp he=>?_) (eV _))))
 obtain⟨o,ho,hc⟩:=he
 exact a9 (wpAny_isInstance (T:="StopIteration") (b:=true) ⟨o,ho,hc⟩ isSubtype_stop (af (hQ _ _ kp)))
end
noncomputable abbrev zl1 (h:Heap) (l:Addr):Heap:=h.push { cls:=.type "list_iterator",data:=.fields #[.ref l,.int 0 0] }
noncomputable abbrev zl2 (h:Heap) (l t:Addr):Heap:=(zl1 h l).push { cls:=.type "tuple_iterator",data:=.fields #[.ref t,.int 0 0] }
noncomputable abbrev zl3 (h:Heap) (l t:Addr):Heap:=(zl2 h l t).push { cls:=.type "tuple",data:=.seq #[.ref h.objs.size,.ref (zl1 h l).objs.size] }
noncomputable abbrev zl4 (h:Heap) (l t:Addr):Heap:=(zl3 h l t).push { cls:=.type "tuple",data:=.seq #[.none,.none] }
noncomputable abbrev zl5 (h:Heap) (l t:Addr):Heap:=(zl4 h l t).push { cls:=.type "zip",data:=.fields #[.none,.bool false,.bool false,.ref (zl2 h l t).objs.size,.ref (zl3 h l t).objs.size] }
theorem W9s (l t:Addr) (xs ys:Array Value) :
  Meets (Builtin.«zip.__new__» ⟨[.type "zip",.ref l,.ref t],[]⟩) (fun _ R s=>s.heap.IsList l xs/\s.heap.IsTuple t ys/\R (.ok (.ret (.ref (zl4 s.heap l t).objs.size))) { s with heap:=zl5 s.heap l t }) :=
 Meets.of_wp fun prog w A R s h=>by
  obtain⟨hp,g,d,tk,os⟩:=s;obtain⟨dD,de,h⟩:=h
  have hsub:=sub_zip
  have mT:Heap.IsList (Shared.heap ⟨hp,g,d,tk,os⟩) l xs:=dD
  have mS:Heap.IsTuple (Shared.heap ⟨hp.push { cls:=.type "list_iterator",data:=.fields #[.ref l,.int 0 0] },g,d,tk,os⟩) t ys:=Heap.IsTuple.push de _
  wp_walk using wpAny_pyIter_list mT,dW mS
  exact⟨_,rfl,h⟩
theorem Y7e {P:Program}{w:World}{A:Around}{E:VS9}{s:Shared}{l t:Addr}{xs ys:Array Value}{Q:VS9} (hl:s.heap.IsList l xs) (ht:s.heap.IsTuple t ys)
  (h:∀h',IsZip h' (s.heap.objs.size+4) (s.heap.objs.size+2) (s.heap.objs.size+3) .none->IsPair h' (s.heap.objs.size+2) (.ref s.heap.objs.size) (.ref (s.heap.objs.size+1))->IsPair h' (s.heap.objs.size+3) .none .none ->
   h'.IsListIter s.heap.objs.size l 0->h'.IsTupleIter (s.heap.objs.size+1) t 0->(∀c o,s.heap.get? c=some o->h'.get? c=some o)->Q (.ref (s.heap.objs.size+4)) { s with heap:=h' }) :
  wpAny (model P w) A (call (.type "zip") [.ref l,.ref t]) Q E s:=by
 refine callType_new F.called_zip (by decide) (F.typeCall_zip_2 _ _) (F.newCall_zip_2 _ _) (fun obj=>F.args_object_init_3 obj _ _) F.entry_zip_new (W9s l t xs ys) ⟨hl,ht,?_⟩
 have e1:(zl1 s.heap l).objs.size=s.heap.objs.size+1:=bn ..
 have e2:(zl2 s.heap l t).objs.size=s.heap.objs.size+2:=by rw [bn,e1]
 have e3:(zl3 s.heap l t).objs.size=s.heap.objs.size+3:=by rw [bn,e2]
 have e4:(zl4 s.heap l t).objs.size=s.heap.objs.size+4:=by rw [bn,e3]
 have g5:(zl5 s.heap l t).get? (zl4 s.heap l t).objs.size=some _:=aw _ rfl
 have g4:(zl5 s.heap l t).get? (zl3 s.heap l t).objs.size=some _:=aa _ (aw _ rfl)
 have g3:(zl5 s.heap l t).get? (zl2 s.heap l t).objs.size=some _:=aa _ (aa _ (aw _ rfl))
 have g2:(zl5 s.heap l t).get? (zl1 s.heap l).objs.size=some _:=aa _ (aa _ (aa _ (aw _ rfl)))
 have g1:(zl5 s.heap l t).get? s.heap.objs.size=some _:=aa _ (aa _ (aa _ (aa _ (aw _ rfl))))
 rw [e2,e3,e4]at g5
 rw [e1,e2]at g3
 rw [e3]at g4
 rw [e1]at g2
 rw [e4]
 exact⟨⟨_,g5,rfl⟩,h _ g5 g3 g4 ⟨_,g1,rfl,rfl⟩ ⟨_,g2,rfl,rfl⟩ fun c o x=>aa _ (aa _ (aa _ (aa _ (aa _ x))))⟩
noncomputable def Izt (K:Fg9) (l1 l2:Addr) (n:Nat):It:=⟨fun i H=>i<n/\∃xs ys,C9 K H l1 xs/\C0 K H l2 ys/\min xs.length ys.length=n,
 fun i H v H'=>∃T x y,(∀xs,C9 K H l1 xs->xs[i]?=some x)/\(∀ys,C0 K H l2 ys->ys[i]?=some y)/\H T=none/\v=.ref T/\H'=upd H T (.tup [x,y]),fun i H=>i=n/\∃xs ys,C9 K H l1 xs/\C0 K H l2 ys/\min xs.length ys.length=n⟩
theorem W8r {P:Program}{w:World}{K:Fg9}{cL:List Expr}{kk:Nat}{pt:Pos}{z TI TO i1 i2 l1 l2:Addr}{n:Nat} (Z:X9 z TI TO i1 i2 [i1,l1] [i2,l2]) (dD:l1≠i1) (de:l2≠i2) :
  Z0 P w K (.Tuple cL kk pt) (Izt K l1 l2 n) [z,TO,i1,i2,TI] z (fun i h=>IsZip h z TI TO .none/\IsPair h TI (.ref i1) (.ref i2)/\(∃a b,IsPair h TO a b)/\h.IsListIter i1 l1 i/\h.IsTupleIter i2 l2 i) where
 mem:=by simp
 obj:=fun i h ⟨hz,cy,⟨a,b,cH⟩,⟨o1,h1,_,d1⟩,⟨o2,h2,_,d2⟩⟩ c hc=>by
  simp only [aj,aK,bq]at hc
  rcases hc with rfl | rfl | rfl | rfl | rfl
  ·exact⟨_,hz,fun v z=>by cases z⟩
  ·exact⟨_,cH,fun v z=>by cases z⟩
  ·exact⟨o1,h1,fun v z=>by rw [d1]at z;cases z⟩
  ·exact⟨o2,h2,fun v z=>by rw [d2]at z;cases z⟩
  ·exact⟨_,cy,fun v z=>by cases z⟩
 keep:=fun i h h' ⟨hz,cy,⟨a,b,cH⟩,h1,⟨o2,h2,r2⟩⟩ k=>⟨k z (by simp) _ hz,k TI (by simp) _ cy,⟨a,b,k TO (by simp) _ cH⟩,h1.at fun o e=>k i1 (by simp) o e,o2,k i2 (by simp) o2 h2,r2⟩
 item:=by
  intro X hP hw hK hc i ae s σ H E I hf st hg
  subst hP hw hK
  obtain⟨bR,xs,ys,iy,iw,hn⟩:=hg
  obtain⟨aS,rv,p1,kq⟩:=I.list iy
  obtain⟨bW,di,p2,m3⟩:=I.tuple iw
  have lT:=rv.length
  have lR:=di.length
  have hd:X.A.in1.handled=none:=I.ok.hd hc
  have D1:=Draws.list (prog:=X.prog) (w:=X.w) (A:=X.A.in1) hd i1 l1 dD aS.toArray
  have D2:=Q1s (P:=X.prog) (w:=X.w) (A:=X.A.in1) hd i2 l2 de bW.toArray
  obtain⟨sz,gx,⟨a0,b0,ig⟩,s1,s2⟩:=st
  have hx:xs[i]?=some (xs[i]'(by omega)):=ac _
  have hy:ys[i]?=some (ys[i]'(by omega)):=ac _
  obtain⟨u,hu,ru⟩:=rv.get hx
  obtain⟨u',kt,kc⟩:=di.get hy
  refine W9p Z D1 D2 sz gx ig ⟨s1,p1.isList⟩ ⟨s2,p2⟩ (by simp;omega) (by simp;omega) fun h' tk x y px py z1 t1 a1 a2 pr kp=>⟨_,rfl,?_⟩
  have ex:x=u:=by
   have:aS[i]?=some x:=by simpa using px
   rw [hu]at this;exact(aB this).symm
  have ey:y=u':=by
   have:bW[i]?=some y:=by simpa using py
   rw [kt]at this;exact(aB this).symm
  subst ex ey
  refine wpAny_letOwnedTupleGo_zip z1 fun h2 z2 sb=>?_
  have lZ:s.heap.objs.size≠z:=(ay (ak sz)).symm
  have io:∀c o,c∉[z,TO,i1,i2]->s.heap.get? c=some o->h2.get? c=some o:=fun c o hc e=>by
   simp only [aj,aK,bq,not_or]at hc
   exact(sb.2 c hc.1).trans (kp c o hc.1 hc.2.1 hc.2.2.1 hc.2.2.2 e)
  have eM:IsTup h2 s.heap.objs.size ([x,y]).toArray:=⟨_,(sb.2 _ lZ).trans pr,rfl,_,rfl⟩
  have jG:∀b∈[z,TO,i1,i2],K2 X ae H b:=fun b hb=>hf b (by
   simp only [aj,aK,bq]at hb ⊢
   rcases hb with h | h | h | h <;> simp [h])
  have I2:=Q6r (t':=tk) (xs:=[xs[i]'(by omega),ys[i]'(by omega)]) I io jG (ah s.heap.objs.size) eM (.cons ru (.cons kc .nil)) (by show 2<=sizeLine;decide)
  refine⟨.ref s.heap.objs.size,_,I2,rfl,⟨s.heap.objs.size,_,_,fun zs hz=>by rw [I.list_inj hz iy];exact hx,fun zs hz=>by rw [I.tuple_inj hz iw];exact hy,I.hok.fresh (ah _),rfl,rfl⟩,⟨z2,?_,⟨_,_,(sb.2 _ Z.toz).trans t1⟩,?_,?_⟩,fun b hb=>?_⟩
  ·exact(sb.2 _ Z.tiz).trans (kp _ _ Z.tiz Z.tito Z.ti1 Z.ti2 gx)
  ·exact a1.1.at fun o e=>(sb.2 _ Z.i1z).trans e
  ·obtain⟨⟨o,e,r⟩,_⟩:=a2
   exact⟨o,(sb.2 _ Z.i2z).trans e,r⟩
  ·have mN:b≠s.heap.objs.size:=fun zz=>by
    obtain⟨o,ho⟩:∃o,s.heap.get? b=some o:=by
     simp only [aj,aK,bq]at hb
     obtain⟨o1,h1,_⟩:=s1
     obtain⟨o2,h2,_⟩:=s2
     rcases hb with rfl | rfl | rfl | rfl | rfl
     ·exact⟨_,sz⟩
     ·exact⟨_,ig⟩
     ·exact⟨_,h1⟩
     ·exact⟨_,h2⟩
     ·exact⟨_,gx⟩
    exact aO _ (zz ▸ ak ho)
   rw [B0 mN]
   exact(hf b hb).1
 done:=by
  intro X hP hw hK hc i ae s σ H E I hf st hg
  subst hP hw hK
  obtain⟨hi,xs,ys,iy,iw,hn⟩:=hg
  obtain⟨aS,rv,p1,kq⟩:=I.list iy
  obtain⟨bW,di,p2,m3⟩:=I.tuple iw
  have lT:=rv.length
  have lR:=di.length
  have hd:X.A.in1.handled=none:=I.ok.hd hc
  have D1:=Draws.list (prog:=X.prog) (w:=X.w) (A:=X.A.in1) hd i1 l1 dD aS.toArray
  have D2:=Q1s (P:=X.prog) (w:=X.w) (A:=X.A.in1) hd i2 l2 de bW.toArray
  obtain⟨sz,gx,⟨a0,b0,ig⟩,s1,s2⟩:=st
  have jG:∀b∈[z,TO,i1,i2],K2 X ae H b:=fun b hb=>hf b (by
   simp only [aj,aK,bq]at hb ⊢
   rcases hb with h | h | h | h <;> simp [h])
  have hk:i=aS.toArray.size\/(i<aS.toArray.size/\i=bW.toArray.size):=by
   simp only [aE]
   omega
  refine W9q Z D1 D2 sz gx ig ⟨s1,p1.isList⟩ ⟨s2,p2⟩ hk fun h' tk kp=>⟨rfl,Q3k I (fun c o hc e=>?_) jG⟩
  simp only [aj,aK,bq,not_or]at hc
  exact kp c o hc.1 hc.2.1 hc.2.2.1 hc.2.2.2 e
 self:=fun A i s Q E st h=>wpAny_pyIter_zip st.1 h
theorem W9l {K:Fg9}{H:Hp}{l1 l2:Addr}{xs ys:List V}{ds es:List D} (sq:C9 K H l1 xs) (al:AllS K H ds xs) (cW:H l2=some (.tup ys)) (cJ:AllS K H es ys):YlS K (Izt K l1 l2 (min ds.length es.length)) (P3 ds es) H where
 go:=fun H' s i hi=>by
  rw [Q6z]at hi
  exact⟨hi,xs,ys,s.seq sq,C0.of (s _ _ cW),by rw [al.length,cJ.length]⟩
 yld:=fun H' s i v dh d hd ⟨T,x,y,hx,hy,hT,hv,hH⟩=>by
  subst hH hv
  refine⟨D5 hT _,?_⟩
  obtain⟨d1,d2,e1,e2,rfl⟩:=Z6a hd
  obtain⟨v1,jt,q1⟩:=al.get e1
  obtain⟨v2,js,q2⟩:=cJ.get e2
  rw [hx xs (s.seq sq)]at jt;cases jt
  rw [hy ys (C0.of (s _ _ cW))]at js;cases js
  have kp:=Kp.of (s.trans (D5 hT (.tup [x,y])))
  exact A1.s_tup upd_same (AllS.cons (q1.mono kp _ _) (AllS.cons (q2.mono kp _ _) AllS.nil))
 stop:=fun H' s=>⟨Q6z _ _,xs,ys,s.seq sq,C0.of (s _ _ cW),by rw [al.length,cJ.length]⟩
section
variable {X:Cx}{H0:Hp}{a b:Expr}{p pos:Pos}{wr:WA}
noncomputable def Q7v (wr:WA):P5:=fun τ Q=>wr τ fun rs=>∃r ds es,rs=[r,.st (.tup es)]/\P9 r=some ds/\Q (P3 ds es)
theorem E5.zipT {cL:List Expr}{kk:Nat}{pt:Pos} (hg:Gl X "zip") (hm:X.mg "zip"=none) (hv:bootBuiltins "zip"=some (.type "zip")) (ha:DA X H0 [a,b] wr) (he:starEach [a,b] X.env=(false,eval a X.env)::starEach [b] X.env:=by rfl) (hpl:(backTo pos (starEach [b] X.env)).any (·.1)=false:=by rfl) :
  E5 X H0 (.Tuple cL kk pt) (.Call (.Name "zip" p) [a,b] [] pos) (Q7v wr) where
 mono:=fun τ P Q f h=>ha.mono τ _ _ (fun r ⟨r1,ds,es,e1,e2,q⟩=>⟨r1,ds,es,e1,e2,f _ q⟩) h
 pi:=by
  intro ae s σ H R I ⟨τ,hR,h⟩
  refine bh (Y4 I hg hm hv ?_ (by decide) (by decide))
  refine aY (B2 (ha.pa pos ae s σ H (fun vs H1=>A4 H H1/\∃l1 l2 xs ys ds es,vs=[.ref l1,.ref l2]/\C9 X.K H1 l1 xs/\AllS X.K H1 ds xs/\H1 l2=some (.tup ys)/\AllS X.K H1 es ys/\∀J H',A4 H H'->YlS X.K J (P3 ds es) H'->R J H') I
   ⟨τ,hR,ha.mono τ _ _ (fun rs ⟨r,ds,es,e1,e2,q⟩ vs H1 s1 cq=>⟨s1,by
    subst e1
    obtain⟨v,u,rfl,ir,gF⟩:=Z0u cq
    obtain⟨l,xs,rfl,sq,al⟩:=Q1a e2 ir
    have gF:A1 X.K H1 (.tup es) u:=gF
    unfold A1 at gF
    obtain⟨l2,ys,rfl,cW,cJ⟩:=gF
    exact⟨l,l2,xs,ys,ds,es,rfl,sq,al,cW,cJ,q⟩⟩) h⟩) fun us s1 ⟨vs,H1,I1,rv,sm,l1,l2,xs,ys,ds,es,e1,sq,al,cW,cJ,q⟩=>?_) he hpl
  subst e1
  have di:∃u1 u2,us=[u1,u2]/\B7 (.ref l1) u1/\B7 (.ref l2) u2:=by
   cases rv with
   | cons r1 rr =>
    obtain⟨u2,rfl,r2⟩:=T5 rr
    exact⟨_,u2,rfl,r1,r2⟩
  obtain⟨u1,u2,rfl,r1,r2⟩:=di
  cases (show u1=Value.ref l1 from r1)
  cases (show u2=Value.ref l2 from r2)
  obtain⟨aS,hJ,pl,g8⟩:=I1.list sq
  obtain⟨bW,ii,e9,ko⟩:=I1.tuple (C0.of cW)
  have hl:@LT.lt Nat _ l1 s1.heap.objs.size:=by obtain⟨o,n,ho,_⟩:=id pl;exact ak ho
  have de:@LT.lt Nat _ l2 s1.heap.objs.size:=by obtain⟨o,ho,_⟩:=id e9;exact ak ho
  refine Y7e pl.isList e9 fun h' hz cy cH kE jS k=>?_
  have Z:X9 (s1.heap.objs.size+4) (s1.heap.objs.size+2) (s1.heap.objs.size+3) s1.heap.objs.size (s1.heap.objs.size+1) [s1.heap.objs.size,l1] [s1.heap.objs.size+1,l2]:=by
   refine⟨?_,?_,?_,?_,?_,?_,?_,?_,?_,?_,fun b hb=>?_,fun b hb=>?_⟩
   all_goals first | (show ¬ ((_:Nat)=(_:Nat));omega) | skip
   all_goals simp only [aj,aK,bq]at hb
   all_goals rcases hb with rfl | rfl <;> refine⟨?_,?_,?_⟩ <;> (show ¬ ((_:Nat)=(_:Nat));omega)
  refine wpAny_pyIter_zip hz ⟨s1.heap.objs.size+4,[s1.heap.objs.size+4,s1.heap.objs.size+3,s1.heap.objs.size,s1.heap.objs.size+1,s1.heap.objs.size+2],_,_,H1,rfl,I1.kept (t':=s1.toks) k,W8r (n:=Min.min ds.length es.length) Z (ay hl) (ay (bx de)),⟨hz,cy,⟨_,_,cH⟩,kE,jS⟩,fun b hb=>?_,q _ _ sm (W9l sq al cW cJ)⟩
  have hb:s1.heap.objs.size<=b:=by
   simp only [aj,aK,bq]at hb
   rcases hb with rfl | rfl | rfl | rfl | rfl <;> first | exact ah _ | exact Nat.le_add_right _ _
  exact I1.fpOk hb (I1.hok.fresh hb)
@[simp] theorem W6f {τ:A8}{Q:List D->Prop}:Q7v wr τ Q=wr τ fun rs=>∃r ds es,rs=[r,.st (.tup es)]/\P9 r=some ds/\Q (P3 ds es):=rfl
end
theorem W9i {K:Fg9}{H:Hp}{l:Addr}{xs:List V}{ds:List D} (hq:H l=some (.tup xs)) (al:AllS K H ds xs):YlS K (Iet K l) (G9 ds) H where
 go:=fun H' s i hi=>(Z0b (H0:=H) hq al).go H' (Kp.of s) s i hi
 yld:=fun H' s i v dh d hd h=>(Z0b (H0:=H) hq al).yld H' (Kp.of s) s i v dh d hd h
 stop:=fun H' s=>(Z0b (H0:=H) hq al).stop H' (Kp.of s) s
section
variable {X:Cx}{H0:Hp}{a:Expr}{p pos:Pos}{wr:WA}
noncomputable def Q3i:R->Option (List D)
 | .st (.tup ds)=>some ds
 | r=>P9 r
noncomputable def Q5s (wr:WA):P5:=fun τ Q=>wr τ fun rs=>∃r ds,rs=[r]/\Q3i r=some ds/\Q (G9 ds)
theorem E5.enumX {cL:List Expr}{kk:Nat}{pt p:Pos} (hg:Gl X "enumerate") (hm:X.mg "enumerate"=none) (hv:bootBuiltins "enumerate"=some (.type "enumerate")) (ha:DA X H0 [a] wr) (he:starEach [a] X.env=(false,eval a X.env)::starEach [] X.env:=by rfl) (hpl:(backTo pos (starEach [] X.env)).any (·.1)=false:=by rfl) :
  E5 X H0 (.Tuple cL kk pt) (.Call (.Name "enumerate" p) [a] [] pos) (Q5s wr) where
 mono:=fun τ P Q f h=>ha.mono τ _ _ (fun r ⟨r',ds,e1,e2,q⟩=>⟨r',ds,e1,e2,f _ q⟩) h
 pi:=by
  intro ae s σ H R I ⟨τ,hR,h⟩
  refine bh (Y4 I hg hm hv ?_ (by decide) (by decide))
  refine aY (B2 (ha.pa pos ae s σ H (fun vs H1=>A4 H H1/\((∃l xs ds,vs=[.ref l]/\H1 l=some (.tup xs)/\AllS X.K H1 ds xs/\∀J H',A4 H H'->YlS X.K J (G9 ds) H'->R J H')\/∃l xs ds,vs=[.ref l]/\C9 X.K H1 l xs/\AllS X.K H1 ds xs/\∀J H',A4 H H'->YlS X.K J (G9 ds) H'->R J H')) I
   ⟨τ,hR,ha.mono τ _ _ (fun rs h vs H1 s1 cq=>⟨s1,?_⟩) h⟩) fun us s1 ⟨vs,H1,I1,rv,sm,hh⟩=>?_) he hpl
  ·obtain⟨r,ds,e1,e2,q⟩:=h
   subst e1
   obtain⟨v,rfl,ir⟩:=V3 cq
   by_cases ht:∃es,r=.st (.tup es)
   ·obtain⟨es,rfl⟩:=ht
    cases e2
    have ir:A1 X.K H1 (.tup ds) v:=ir
    unfold A1 at ir
    obtain⟨l,xs,rfl,sq,al⟩:=ir
    exact .inl ⟨l,xs,ds,rfl,sq,al,q⟩
   ·have e2:P9 r=some ds:=by
     unfold Q3i at e2
     split at e2
     ·exact absurd ⟨_,rfl⟩ ht
     ·exact e2
    obtain⟨l,xs,rfl,sq,al⟩:=Q1a e2 ir
    exact .inr ⟨l,xs,ds,rfl,sq,al,q⟩
  ·have big:∀b∈[s1.heap.objs.size+1,s1.heap.objs.size],K2 X ae H1 b:=fun b hb=>by
    have hb:s1.heap.objs.size<=b:=by
     rcases aj.mp hb with rfl | hb
     ·exact cx _
     ·have e:b=s1.heap.objs.size:=by simpa using hb
      rw [e];exact ah _
    exact I1.fpOk hb (I1.hok.fresh hb)
   rcases hh with⟨l,xs,ds,rfl,sq,al,q⟩ | ⟨l,xs,ds,rfl,sq,al,q⟩
   ·obtain⟨u,rfl,ru⟩:=T5 rv
    cases (show u=Value.ref l from ru)
    obtain⟨aS,hJ,pl,g8⟩:=I1.tuple (C0.of sq)
    have hl:l<s1.heap.objs.size:=by obtain⟨o,ho,_⟩:=pl;exact ak ho
    refine Z7k pl fun h' he hi hz k=>?_
    exact ck he ⟨s1.heap.objs.size+1,[s1.heap.objs.size+1,s1.heap.objs.size],_,_,H1,rfl,I1.kept (t':=s1.toks) k,Y4o (l:=l) (gq _) (ay (bx hl)) (ay hl),⟨⟨_,he⟩,hi⟩,big,q _ _ sm (W9i sq al)⟩
   ·obtain⟨u,rfl,ru⟩:=T5 rv
    cases (show u=Value.ref l from ru)
    obtain⟨aS,hJ,pl,g8⟩:=I1.list sq
    obtain⟨o,n,ho,_⟩:=id pl
    have hl:l<s1.heap.objs.size:=ak ho
    refine call_enumerate_list pl.isList fun h' he hi hz k=>?_
    refine ck he ⟨s1.heap.objs.size+1,[s1.heap.objs.size+1,s1.heap.objs.size],_,_,H1,rfl,I1.kept (t':=s1.toks) k,Y4n (l:=l) (gq _) (ay (bx hl)) (ay hl),⟨⟨_,he⟩,hi⟩,big,q _ _ sm (W9h sq al)⟩
@[simp] theorem Y2l {τ:A8}{Q:List D->Prop}:Q5s wr τ Q=wr τ fun rs=>∃r ds,rs=[r]/\Q3i r=some ds/\Q (G9 ds):=rfl
end
section
variable {X:Cx}{ae:Pn9} {σ:St}{H:Hp}{s:Shared}
noncomputable def T9 (K:Fg9) (H:Hp) (d:D) (u:Value):Bool:=@decide (∃d' v',B7 v' u/\A1 K H d' v'/\D.eq d' d=true) (Classical.propDecidable _)
theorem Z8k (I:A0 X ae σ H s) {d d':D}{v':V}{u:Value} (r:B7 v' u) (i:A1 X.K H d' v'):T9 X.K H d u=D.eq d' d:=by
 unfold T9
 cases e:D.eq d' d with
 | true=>exact @dm _ (Classical.propDecidable _) ⟨d',v',r,i,e⟩
 | false =>
  refine @aM _ (Classical.propDecidable _) fun⟨d2,v2,r2,i2,e2⟩=>?_
  have ev:=r.inj r2
  subst ev
  rw [A1.inj I d2 d' v' i2 i,e]at e2
  cases e2
theorem Q5g (I:A0 X ae σ H s) {d:D}:∀{ds:List D}{xs:List V}{aS:List Value},AllS X.K H ds xs->B9 xs aS->aS.any (T9 X.K H d)=ds.any fun e=>D.eq e d
 | [],xs,aS,al,r=>by
  unfold AllS at al;subst al;cases r;rfl
 | e::ds,xs,aS,al,r=>by
  unfold AllS at al
  obtain⟨v,t,rfl,i,al⟩:=al
  cases r with
  | cons r1 r2=>rw [cO,cO,Z8k I r1 i,Q5g I al r2]
theorem Q6b (I:A0 X ae σ H s) {d:D}{x:V}{v:Value}{n:Nat} (ix:A1 X.K H d x) (rx:B7 x v) {A:Around} (hu:A.units+n<cLine):∀{ds:List D}{xs:List V}{aS:List Value},AllS X.K H ds xs->B9 xs aS->(∀e∈ds,e.depth<=n)->∀u∈aS,SeqAt.EqAt A s u v (T9 X.K H d u)
 | [],xs,aS,al,r,_=>by
  unfold AllS at al;subst al;cases r;intro u hu;cases hu
 | e::ds,xs,aS,al,r,hd=>by
  unfold AllS at al
  obtain⟨v',t,rfl,i,al⟩:=al
  cases r with
  | cons r1 r2 =>
   intro u hm
   rcases aj.mp hm with rfl | hm
   ·rw [Z8k I r1 i]
    exact Q5n I (fun A=>Q8m I n e d v' x _ _ A (hd e (by simp)) i.w ix.w r1 rx) i ix r1 rx hu
   ·exact Q6b I ix rx hu al r2 (fun e h=>hd e (by simp [h])) u hm
end
section
variable {X:Cx}
def inL (n:Nat) (neg:Bool) (x y:R) (Q:Bool->Prop):Prop:=∃d ds,x=.st d/\Q3i y=some ds/\(∀e∈ds,e.depth<=n)/\Q (if neg then !ds.any (fun e=>D.eq e d)else ds.any fun e=>D.eq e d)
theorem Z8w {n:Nat}{neg:Bool}:X6 (inL n neg):=fun x y P Q g ⟨d,ds,e1,e2,h,q⟩=>⟨d,ds,e1,e2,h,g _ q⟩
theorem Y4d {K:Fg9}{H0 H:Hp}{r:R}{ds:List D}{v:V} (e:Q3i r=some ds) (h:D9 K H0 H r v):∃a xs,v=.ref a/\(C9 K H a xs\/C0 K H a xs)/\AllS K H ds xs:=by
 by_cases ht:∃es,r=.st (.tup es)
 ·obtain⟨es,rfl⟩:=ht
  cases e
  have h:A1 K H (.tup ds) v:=h
  unfold A1 at h
  obtain⟨l,xs,rfl,sq,al⟩:=h
  exact⟨l,xs,rfl,.inr (C0.of sq),al⟩
 ·have e2:P9 r=some ds:=by
   unfold Q3i at e
   split at e
   ·exact absurd ⟨_,rfl⟩ ht
   ·exact e
  obtain⟨l,xs,rfl,sq,al⟩:=Q1a e2 h
  exact⟨l,xs,rfl,.inl sq,al⟩
theorem Y7h {n:Nat} (hu:X.A.units+n+1<cLine):X5 X .In (inL n false):=by
 intro ae s σ H x y v u Q I rx ry ⟨r1,r2,h1,h2,d,ds,e1,e2,hd,q⟩
 subst e1
 have ix:A1 X.K H d x:=h1
 obtain⟨a,xs,rfl,hq,al⟩:=Y4d e2 h2
 cases ry
 rcases hq with hq | hq
 ·obtain⟨aS,r,pl,hz⟩:=I.list hq
  refine SeqAt.in_listAt (T9 X.K H d) pl.isList (fun w hw=>Q6b I ix rx (n:=n) (by try simp only [bP];omega) al r hd w (by simpa using hw)) ⟨.bl _,H,I,rfl,?_⟩
  rw [show aS.toArray.any (T9 X.K H d)=aS.any (T9 X.K H d)by simp,Q5g I al r]
  exact q
 ·obtain⟨aS,r,pl,hz⟩:=I.tuple hq
  refine SeqAt.in_tupleAt (T9 X.K H d) pl (fun w hw=>Q6b I ix rx (n:=n) (by try simp only [bP];omega) al r hd w (by simpa using hw)) ⟨.bl _,H,I,rfl,?_⟩
  rw [show aS.toArray.any (T9 X.K H d)=aS.any (T9 X.K H d)by simp,Q5g I al r]
  exact q
theorem Y7i {n:Nat} (hu:X.A.units+n+1<cLine):X5 X .NotIn (inL n true):=by
 intro ae s σ H x y v u Q I rx ry ⟨r1,r2,h1,h2,d,ds,e1,e2,hd,q⟩
 subst e1
 have ix:A1 X.K H d x:=h1
 obtain⟨a,xs,rfl,hq,al⟩:=Y4d e2 h2
 cases ry
 rcases hq with hq | hq
 ·obtain⟨aS,r,pl,hz⟩:=I.list hq
  refine SeqAt.notIn_listAt (T9 X.K H d) pl.isList (fun w hw=>Q6b I ix rx (n:=n) (by try simp only [bP];omega) al r hd w (by simpa using hw)) ⟨.bl _,H,I,rfl,?_⟩
  rw [show aS.toArray.any (T9 X.K H d)=aS.any (T9 X.K H d)by simp,Q5g I al r]
  exact q
 ·obtain⟨aS,r,pl,hz⟩:=I.tuple hq
  refine SeqAt.notIn_tupleAt (T9 X.K H d) pl (fun w hw=>Q6b I ix rx (n:=n) (by try simp only [bP];omega) al r hd w (by simpa using hw)) ⟨.bl _,H,I,rfl,?_⟩
  rw [show aS.toArray.any (T9 X.K H d)=aS.any (T9 X.K H d)by simp,Q5g I al r]
  exact q
end
section
variable {X:Cx}{H0:Hp}{e a:Expr}{es:List Expr}{wr:WA}{wa:WE}{k l:Nat}{f:Addr}{fd:FuncData}{ps:List Str}{x:Str}{p pos:Pos}{ts:List Addr}{st:Stmt}
theorem DE.cl {sp:D6} (F:R1 X.prog X.w X.K X.mg X.base L3 l f fd ps (Q5y X.K (e::es).length sp)) (hr:C5 k X.A) (D:Df X.K X.mg x st ps f fd) (ha:DA X H0 (e::es) wr) (hl:l<=k:=by decide) (hg:Gl X x:=by rfl)
  (eJ:(x==("__debug__":Str))=false:=by decide) (he:starEach (e::es) X.env=(false,eval e X.env)::starEach es X.env:=by rfl) (hpl:(backTo pos (starEach es X.env)).any (·.1)=false:=by rfl) :
  DE X H0 (.Call (.Name x p) (e::es) [] pos) (M9 sp wr):=DE.call F (hr.mono hl) hg D.m D.k D.b ha eJ he hpl
theorem DE.clP {sp:G0} (mt:W4 sp) (F:R1 X.prog X.w X.K X.mg X.base L3 l f fd ps (Q4a X.K ts (e::es).length sp)) (hr:C5 k X.A) (hT:Q5b ts H0) (D:Df X.K X.mg x st ps f fd) (ha:DA X H0 (e::es) wr) (hl:l<=k:=by decide) (hg:Gl X x:=by rfl)
  (eJ:(x==("__debug__":Str))=false:=by decide) (he:starEach (e::es) X.env=(false,eval e X.env)::starEach es X.env:=by rfl) (hpl:(backTo pos (starEach es X.env)).any (·.1)=false:=by rfl) :
  DE X H0 (.Call (.Name x p) (e::es) [] pos) (Q4 sp wr):=DE.callP mt F (hr.mono hl) hT hg D.m D.k D.b ha eJ he hpl
theorem DE.v (i:Nat) (hN:X.N[i]?=some x:=by rfl) (hv:Vis X.env.scope x:=by first | exact Or.inl rfl | exact Or.inr (Or.inl rfl) | exact Or.inr (Or.inr rfl)) (hd:(x==("__debug__":Str))=false:=by decide)
  (ef:(x==("__classdict__":Str))=false:=by decide):DE X H0 (.Name x pos) (wV i):=DE.var (pv i hN hv hd ef)
theorem DA.one (ha:DE X H0 a wa) (hs:starEach [a] X.env=(false,eval a X.env)::starEach [] X.env:=by rfl):DA X H0 [a] (A2 wa A3):=DA.cons ha DA.nil hs
theorem DS.sv (i:Nat) (he:DE X H0 e wa) (hN:X.N.Nodup) (hi:X.N[i]?=some x:=by rfl) (hx:Loc X.env.scope x:=by first | exact Or.inl rfl | exact Or.inr rfl) (hs:swapsWith e (some (.Name x p)) pos.line X.env=pure false:=by rfl)
  (hf:X.fn x=true\/X.env.scope.names.lookup x=some .local:=by first | exact .inl rfl | exact .inr rfl | assumption):DS X H0 (.Assign [.Name x p] e pos) (C3 i wa):=DS.set he hN hi hx hs hf
noncomputable def scB (N P:List Str) (sc:Scope):Bool:=decide (sc.kind=.function)&&!sc.isCoroutine&&!sc.isGenerator&&decide N.Nodup&&decide (N.take P.length=P)&&P.all (fun x=>decide (sc.names.lookup x=some .local)||decide (sc.names.lookup x=some .cell))&&sc.names.all (fun y=>decide (y.2≠.free))
theorem O8 {N P:List Str}{sc:Scope} (h:scB N P sc=true):J4 N P sc:=by
 unfold scB at h
 simp only [cg,fJ,bX,Bool.or_eq_true,Bool.not_eq_true']at h
 obtain⟨⟨⟨⟨⟨⟨h1,h2⟩,h3⟩,h4⟩,h5⟩,h6⟩,h7⟩:=h
 exact⟨h1,h2,h3,h4,h5,h6,h7⟩
theorem Y6p:bootBuiltins "len"=some (.builtin "len"):=by decide +kernel
theorem Y6q:bootBuiltins "tuple"=some (.type "tuple"):=by decide +kernel
theorem DE.len (hm:X.mg "len"=none) (ha:DE X H0 a wa) (hg:Gl X "len":=by rfl) (hs:starEach [a] X.env=(false,eval a X.env)::starEach [] X.env:=by rfl) (hpl:(backTo pos (starEach [] X.env)).any (·.1)=false:=by rfl):DE X H0 (.Call (.Name "len" p) [a] [] pos) (C8 F4 (A2 wa A3)) :=
 DE.callB Y6v Y9r hg hm Y6p (DA.cons ha DA.nil hs) (he:=hs) (hpl:=hpl)
theorem DE.tpl (hm:X.mg "tuple"=none) (ha:DE X H0 a wa) (hg:Gl X "tuple":=by rfl) (hs:starEach [a] X.env=(false,eval a X.env)::starEach [] X.env:=by rfl) (hpl:(backTo pos (starEach [] X.env)).any (·.1)=false:=by rfl):DE X H0 (.Call (.Name "tuple" p) [a] [] pos) (C8 Q9 (A2 wa A3)) :=
 DE.callTy Y7c W8l hg hm Y6q (DA.cons ha DA.nil hs) (he:=hs) (hpl:=hpl)
end
def Hr (K:Fg9) (n:Str) (st:Stmt) (f:Addr) (fd:FuncData):Prop:=PySem.W.nsIn K mainGlobals n=some (some (.ref f))/\Q5 K n n st f fd
def HrC (K:Fg9) (n:Str) (st:Stmt) (f:Addr) (fd:FuncData) (c Pt:Addr) (ts:List Addr):Prop:=PySem.W.nsIn K mainGlobals n=some (some (.ref f))/\PySem.W.keepIn K (.ref f)=true /\
 (∃(oc:Value) (od:Option Addr) (kV cS pm:Value) (an:Option Addr) (ct:Value) (eg:Array (Option Value)),fd=PySem.W.fnOf n n (Z4 st) (S0 st) (B8 st) .none kV cS pm an (.ref c) ct/\K.lookup f=some ⟨oc,od,.func fd,eg⟩/\PySem.W.codeIn K (.ref c) n=true) /\
 (∃(vo:Value) (vd:Option Addr) (vv:Array Value) (vs:Array (Option Value)),K.lookup c=some ⟨vo,vd,.fields vv,vs⟩/\vv[11]?=some (.ref Pt))/\PySem.W.codeHdIn K c Pt=true/\K.lookup Pt=none/\Pt∈ts
section
variable {K:Fg9}{h:Heap}{mg:Str->Option Value}{n:Str}{st:Stmt}{f c Pt:Addr}{fd:FuncData}{ts:List Addr}{ps:List Str}
theorem T1 {oc:Value}{od an:Option Addr}{eg:Array (Option Value)}{kV cS pm cdv ct:Value} (a:PySem.W.nsIn K mainGlobals n=some (some (.ref f))) (l:K.lookup f=some ⟨oc,od,.func (PySem.W.fnOf n n (Z4 st) (S0 st) (B8 st) .none kV cS pm an cdv ct),eg⟩) (q:PySem.W.codeIn K cdv n=true) (k:PySem.W.keepIn K (.ref f)=true) :
  Hr K n st f (PySem.W.fnOf n n (Z4 st) (S0 st) (B8 st) .none kV cS pm an cdv ct):=⟨a,Y8b l q k⟩
theorem Q3u {oc vo:Value}{od an vd:Option Addr}{eg vs:Array (Option Value)}{kV cS pm ct:Value}{vv:Array Value} (a:PySem.W.nsIn K mainGlobals n=some (some (.ref f))) (l:K.lookup f=some ⟨oc,od,.func (PySem.W.fnOf n n (Z4 st) (S0 st) (B8 st) .none kV cS pm an (.ref c) ct),eg⟩) (q:PySem.W.codeIn K (.ref c) n=true) (k:PySem.W.keepIn K (.ref f)=true)
  (v:K.lookup c=some ⟨vo,vd,.fields vv,vs⟩) (p:vv[11]?=some (.ref Pt)) (e:PySem.W.codeHdIn K c Pt=true) (o:K.lookup Pt=none) (m:Pt∈ts):HrC K n st f (PySem.W.fnOf n n (Z4 st) (S0 st) (B8 st) .none kV cS pm an (.ref c) ct) c Pt ts :=
 ⟨a,k,⟨_,_,_,_,_,_,_,_,rfl,l,q⟩,⟨_,_,_,_,v,p⟩,e,o,m⟩
theorem Hr.df (H:Hr K n st f fd) (X:K.In h) (G:h.Ns mainGlobals mg) (hb:∀(kV cS pm:Value) (an:Option Addr) (cdv ct:Value) (us:List Value),us.length=ps.length->bindArgs (PySem.W.fnOf n n (Z4 st) (S0 st) (B8 st) .none kV cS pm an cdv ct) ⟨us,[]⟩=pure (ps.zip us)):Df K mg n st ps f fd :=
 ⟨H.2,H.2.binds hb,H.2.kp,PySem.W.mg_of X G H.1⟩
theorem HrC.hr (H:HrC K n st f fd c Pt ts):Hr K n st f fd:=let ⟨a,k,⟨oc,od,kV,cS,pm,an,ct,eg,e,l,q⟩,_⟩:=H;⟨a,⟨oc,od,kV,cS,pm,an,_,ct,eg,e,l,q⟩,k⟩
theorem HrC.fc (H:HrC K n st f fd c Pt ts):S8 K n n st f fd c Pt:=let ⟨_,_,e,_,q,_⟩:=H;⟨e,q⟩
theorem HrC.tb (H:HrC K n st f fd c Pt ts):Pt∈ts:=let ⟨_,_,_,_,_,_,m⟩:=H;m
theorem HrC.at (H:HrC K n st f fd c Pt ts):(∃c,PySem.W.codeHdIn K c Pt=true)/\K.lookup Pt=none:=let ⟨_,_,_,_,q,n,_⟩:=H;⟨⟨_,q⟩,n⟩
end
end TK
end
section
namespace MC
open PySem PySem.Spec PyProof.Rows L2 TK
section
variable {α:Type} [DecidableEq α]
noncomputable def L6 (ks:List α) (g:α):List α:=if g∈ks then ks else ks++[g]
theorem Z0s {ks:List α}{g:α} (h:g∈ks):L6 ks g=ks:=aI h
theorem Z0t {ks:List α}{g:α} (h:g∉ks):L6 ks g=ks++[g]:=aD h
theorem Y6h (ks:List α) (g:α):ks <+: L6 ks g:=by
 unfold L6;split
 ·exact cf _
 ·exact List.prefix_append _ _
theorem Z2v {ks:List α}{g x:α}:x∈L6 ks g ↔ x∈ks\/x=g:=by
 unfold L6;split
 ·constructor
  ·exact .inl
  ·rintro (h | rfl) <;> assumption
 ·rw [aU,aQ]
theorem W1a {ks:List α}{g:α} (h:ks.Nodup):(L6 ks g).Nodup:=by
 unfold L6;split
 ·exact h
 ·rename_i n
  exact bG.mpr ⟨h,by simp,fun a ha b hb=>by
   rw [aQ]at hb;rintro rfl;exact n (hb ▸ ha)⟩
theorem Z1z {ks ls:List α}{g:α} (p:ks <+: ls) (h:g∈ks):ls.idxOf g=ks.idxOf g:=by
 obtain⟨t,rfl⟩:=p
 rw [List.idxOf_append,aI h]
noncomputable def E7 (st:Nat->α):List Nat->List α->List Nat->List α×List Nat
 | [],ks,r=>(ks,r)
 | c::cs,ks,r=>E7 st cs (L6 ks (st c)) (r++[(L6 ks (st c)).idxOf (st c)])
theorem Q4i (st:Nat->α):∀(cs:List Nat) (ks:List α) (r:List Nat),ks <+: (E7 st cs ks r).1
 | [],ks,r=>cf _
 | c::cs,ks,r=>(Y6h ks (st c)).trans (Q4i st cs _ _)
theorem Y2d (st:Nat->α):∀(cs:List Nat) (ks:List α) (r:List Nat),ks.Nodup->(E7 st cs ks r).1.Nodup
 | [],ks,r,h=>h
 | c::cs,ks,r,h=>Y2d st cs _ _ (W1a h)
theorem Z2y (st:Nat->α) {x:α}:∀(cs:List Nat) (ks:List α) (r:List Nat),x∈(E7 st cs ks r).1 ↔ x∈ks\/∃c∈cs,x=st c
 | [],ks,r=>by simp [E7]
 | c::cs,ks,r=>by
  rw [E7,Z2y st cs,Z2v]
  simp [or_assoc]
theorem Q8o (st:Nat->α):∀(cs:List Nat) (ks:List α) (r:List Nat),(E7 st cs ks r).2=r++cs.map fun c=>(E7 st cs ks r).1.idxOf (st c)
 | [],ks,r=>by simp [E7]
 | c::cs,ks,r=>by
  have h:=Q8o st cs (L6 ks (st c)) (r++[(L6 ks (st c)).idxOf (st c)])
  have e:=Z1z (Q4i st cs (L6 ks (st c)) (r++[(L6 ks (st c)).idxOf (st c)])) (Z2v.mpr (.inr rfl):st c∈L6 ks (st c))
  rw [E7,h,ao,e,cw]
  rfl
noncomputable abbrev B6:List Nat:=[0,1,2,3]
noncomputable def L9 (step:α->Nat->α):Nat->List α->List (List Nat)->List α×List (List Nat)
 | 0,ks,rs=>(ks,rs)
 | n+1,ks,rs=>match ks[rs.length]? with
  | none=>(ks,rs)
  | some k=>L9 step n (E7 (step k) B6 ks []).1 (rs++[(E7 (step k) B6 ks []).2])
structure V2 (step:α->Nat->α) (start:α) (U:List α) (ks:List α) (rs:List (List Nat)):Prop where
 nd:ks.Nodup
 zero:ks[0]?=some start
 sub:∀k∈ks,k∈U
 len:rs.length<=ks.length
 row:∀(i:Nat) (r:List Nat),rs[i]?=some r->∃k,ks[i]?=some k/\(∀c∈B6,step k c∈ks)/\r=B6.map fun c=>ks.idxOf (step k c)
theorem V2.start {step:α->Nat->α}{start:α}{U:List α} (h:start∈U):V2 step start U [start] [] :=
 ⟨by simp,rfl,fun k hk=>by rw [aQ]at hk;exact hk ▸ h,by simp,fun i r e=>by simp at e⟩
theorem V2.next {step:α->Nat->α}{start k:α}{U:List α}{ks:List α}{rs:List (List Nat)} (hU:∀k∈U,∀c∈B6,step k c∈U) (W:V2 step start U ks rs) (hk:ks[rs.length]?=some k) :
  V2 step start U (E7 (step k) B6 ks []).1 (rs++[(E7 (step k) B6 ks []).2]):=by
 have p:=Q4i (step k) B6 ks []
 have kin:k∈ks:=aC hk
 have get:∀{i:Nat}{x:α},ks[i]?=some x->(E7 (step k) B6 ks []).1[i]?=some x:=fun {i x} e=>by
  obtain⟨t,ht⟩:=p
  rw [<- ht,aJ]
  ·exact e
  ·obtain⟨h,_⟩:=aG.mp e;exact h
 have lt:rs.length<ks.length:=by obtain⟨h,_⟩:=aG.mp hk;exact h
 refine⟨Y2d _ _ _ _ W.nd,get W.zero,fun x hx=>?_,?_,fun i r e=>?_⟩
 ·rcases (Z2y _ _ _ _).mp hx with h | ⟨c,hc,rfl⟩
  ·exact W.sub x h
  ·exact hU k (W.sub k kin) c hc
 ·rw [aA,bZ]
  exact aR lt p.length_le
 ·rcases bD i rs.length with h | h
  ·rw [aJ h]at e
   obtain⟨k',e1,e2,e3⟩:=W.row i r e
   refine⟨k',get e1,fun c hc=>p.subset (e2 c hc),?_⟩
   rw [e3]
   exact bb fun c hc=>(Z1z p (e2 c hc)).symm
  ·rw [aT h]at e
   have:i-rs.length=0:=by
    rcases Nat.eq_zero_or_pos (i-rs.length)with z | z
    ·exact z
    ·rw [aH.mpr (by simp;omega)]at e;cases e
   rw [this]at e
   have e:(E7 (step k) B6 ks []).2=r:=aB e
   refine⟨k,get (by rw [show i=rs.length by omega];exact hk),fun c hc=>(Z2y _ _ _ _).mpr (.inr ⟨c,hc,rfl⟩),?_⟩
   rw [<- e,Q8o,cm]
theorem V2.bound {step:α->Nat->α}{start:α}{U:List α}{ks:List α}{rs:List (List Nat)} (W:V2 step start U ks rs):ks.length<=U.length:=W.nd.length_le_of_subset fun x hx=>W.sub x hx
theorem Y5d {step:α->Nat->α}{start:α}{U:List α} (hU:∀k∈U,∀c∈B6,step k c∈U):∀(n:Nat) (ks:List α) (rs:List (List Nat)),V2 step start U ks rs->U.length<=n+rs.length ->
  V2 step start U (L9 step n ks rs).1 (L9 step n ks rs).2/\(L9 step n ks rs).2.length=(L9 step n ks rs).1.length
 | 0,ks,rs,W,h=>⟨W,by have:=W.bound;have:=W.len;simp [L9];omega⟩
 | n+1,ks,rs,W,h=>by
  unfold L9
  split
  ·rename_i e
   have:=aH.mp e
   exact⟨W,by have:=W.len;simp;omega⟩
  ·rename_i k e
   exact Y5d hU n _ _ (W.next hU e) (by simp;omega)
structure Q0s (step:α->Nat->α) (start:α) (U ks:List α) (rs:List (List Nat)):Prop where
 nd:ks.Nodup
 zero:ks[0]?=some start
 sub:∀k∈ks,k∈U
 len:rs.length=ks.length
 mem:∀k∈ks,∀c∈B6,step k c∈ks
 row:∀(i:Nat) (k:α),ks[i]?=some k->rs[i]?=some (B6.map fun c=>ks.idxOf (step k c))
noncomputable def X3 (N:Nat) (step:α->Nat->α) (start:α):List α×List (List Nat):=L9 step N [start] []
theorem Q3l {step:α->Nat->α}{start:α}{U:List α}{N:Nat} (hU:∀k∈U,∀c∈B6,step k c∈U) (hs:start∈U) (hN:U.length<=N):Q0s step start U (X3 N step start).1 (X3 N step start).2:=by
 unfold X3
 obtain⟨W,e⟩:=Y5d hU N [start] [] (V2.start hs) (by simpa using hN)
 refine⟨W.nd,W.zero,W.sub,e,fun k hk c hc=>?_,fun i k hk=>?_⟩
 ·obtain⟨i,hi,rfl⟩:=cc.mp hk
  have fT:i<(L9 step N [start] []).2.length:=by rw [e];exact hi
  obtain⟨k',e1,e2,_⟩:=W.row i _ (ac fT)
  rw [ac hi]at e1
  cases e1
  exact e2 c hc
 ·obtain⟨hi,rfl⟩:=aG.mp hk
  have fT:i<(L9 step N [start] []).2.length:=by rw [e];exact hi
  obtain⟨k',e1,_,e3⟩:=W.row i _ (ac fT)
  have fu:(L9 step N [start] []).1[i]?=some k':=e1
  rw [ac hi]at fu
  cases fu
  rw [ac fT,e3]
section
variable {κ:Type} [DecidableEq κ] {key:α->κ}
noncomputable def K7 (key:α->κ) (L:List (α×D)):List (κ×D):=L.map fun p=>(key p.1,p.2)
theorem Q2w (inj:∀a b,key a=key b->a=b) (L:List (α×D)) (g:α):C7 (K7 key L) (key g)=C7 L g:=by
 induction L with
 | nil=>rfl
 | cons p L ih =>
  unfold C7 K7 at ih ⊢
  rw [ao,b7,b7]
  by_cases h:p.1=g
  ·have:key p.1=key g:=by rw [h]
   simp [h]
  ·have:¬ key p.1=key g:=fun z=>h (inj _ _ z)
   simp only [h,this,decide_false]
   exact ih
theorem Y4w {L:List (α×D)}{g:α}:C7 L g=none ↔ g∉L.map (·.1):=by
 unfold C7
 rw [Option.map_eq_none_iff,List.find?_eq_none]
 simp only [aq,not_exists,fJ]
 constructor
 ·rintro h x ⟨hx,rfl⟩;exact h x hx rfl
 ·rintro h x hx rfl;exact h x ⟨hx,rfl⟩
theorem Z4m {L:List (α×D)}{g:α}:(C7 L g).isSome=decide (g∈L.map (·.1)):=by
 by_cases h:g∈L.map (·.1)
 ·rw [dm h]
  cases e:C7 L g with
  | none=>exact absurd h (Y4w.mp e)
  | some d=>rfl
 ·rw [aM h,Y4w.mpr h];rfl
theorem Z2h (inj:∀a b,key a=key b->a=b) {L:List (α×D)}{g:α} (h:g∉L.map (·.1)) (d:D):K9 (K7 key L) (key g) d=K7 key (L++[(g,d)]):=by
 unfold K9
 rw [aD]
 ·simp [K7]
 ·intro z
  rw [gu]at z
  obtain⟨x,hx,e⟩:=z
  obtain⟨p,hp,rfl⟩:=aq.mp hx
  exact h (aq.mpr ⟨p,hp,inj _ _ (fI e)⟩)
theorem W8u {L:List (α×D)} (nd:(L.map (·.1)).Nodup) {g:α}{d:D} (h:(g,d)∈L):C7 L g=some d:=by
 induction L with
 | nil=>cases h
 | cons p L ih =>
  rw [ao,bA]at nd
  unfold C7 at ih ⊢
  rw [b7]
  rcases aj.mp h with rfl | h
  ·simp
  ·have:¬ p.1=g:=fun z=>nd.1 (z ▸ aq.mpr ⟨_,h,rfl⟩)
   simp only [this,decide_false]
   exact ih nd.2 h
noncomputable def M3 (ks:List α):List (α×D):=ks.zipIdx.map fun p=>(p.1,D.int (p.2:Int))
theorem Q8e (ks:List α):(M3 ks).map (·.1)=ks:=by
 unfold M3
 rw [aN]
 exact List.zipIdx_map_fst 0 ks
theorem Y0s (ks:List α) (g:α):M3 (ks++[g])=M3 ks++[(g,D.int (ks.length:Int))]:=by
 unfold M3
 rw [List.zipIdx_append]
 simp
theorem Q8f {ks:List α}{g:α} (h:g∈ks):C7 (M3 ks) g=some (.int (ks.idxOf g:Nat)):=by
 have key:∀(ks:List α) (n:Nat),g∈ks->C7 (ks.zipIdx n |>.map fun p=>(p.1,D.int (p.2:Int))) g=some (.int ((n+ks.idxOf g:Nat):Int)):=by
  intro ks
  induction ks with
  | nil=>intro n h;cases h
  | cons k ks ih =>
   intro n h
   unfold C7 at ih ⊢
   rw [bQ,ao,b7]
   by_cases e:k=g
   ·subst e;simp
   ·have hg:g∈ks:=by
     rcases aj.mp h with z | z
     ·exact absurd z.symm e
     ·exact z
    simp only [e,decide_false]
    rw [ih (n+1) hg,List.idxOf_cons]
    have e':(k==g)=false:=by simp [e]
    rw [e']
    simp
    omega
 have:=key ks 0 h
 rw [dn]at this
 exact this
end
end
abbrev Z6q:List Str:=["start","step","keys","numbers","rows","key","row","column","goal"]
def Z5w (dG:E3)  :WS:=(B3 (C3 2 (N2 (A2 (A9 (wV 0)) A3))) (B3 (Z4t 3 (wV 0) (wC (.int 0))) (B3 (C3 4 (N2 A3)) (B3 (Q4q 2 (Q6v (A6 (T0 fun i j=>decide (i<j)) (C8 F4 (A2 (wV 4) A3)) (C8 F4 (A2 (wV 2) A3))) (B3 (C3 5 (A6 C1 (wV 2) (C8 F4 (A2 (wV 4) A3)))) (B3 (C3 6 (N2 A3)) (B3 (M5 (U6 (A2 (C8 F4 (A2 (wC (.str "01ab")) A3)) A3)) (B1 7) (B3 (C3 8 (Q1h dG 2 1 (A2 (wV 5) (A2 (wV 7) A3)))) (B3 (U9 (Q9p 3 (wV 8)) (B3 (Q2f 3 (wV 8) (C8 F4 (A2 (wV 2) A3))) (S7 2 (A9 (wV 8)))) V0) (S7 6 (A9 (Q4p 3 (wV 8))))))) (S7 4 (A9 (C8 Q9 (A2 (wV 6) A3))))))))) (N3 (T6 (A2 (A9 (wV 2)) (A2 (A9 (C8 Q9 (A2 (wV 4) A3))) A3))))))))
abbrev Y6c:List Str:=["start","step","keys","numbers","rows","key","row","column","goal"]
def Z5x (dG:E3)  :WS:=(B3 (C3 2 (N2 (A2 (A9 (wV 0)) A3))) (B3 (Z5a 3 (wV 0) (wC (.int 0))) (B3 (C3 4 (N2 A3)) (B3 (Q4q 2 (Q6v (A6 (T0 fun i j=>decide (i<j)) (C8 F4 (A2 (wV 4) A3)) (C8 F4 (A2 (wV 2) A3))) (B3 (C3 5 (A6 C1 (wV 2) (C8 F4 (A2 (wV 4) A3)))) (B3 (C3 6 (N2 A3)) (B3 (M5 (U6 (A2 (C8 F4 (A2 (wC (.str "01ab")) A3)) A3)) (B1 7) (B3 (C3 8 (Q1h dG 2 1 (A2 (wV 5) (A2 (wV 7) A3)))) (B3 (U9 (Q4s 3 (wV 8)) (B3 (Q4t 3 (wV 8) (C8 F4 (A2 (wV 2) A3))) (S7 2 (A9 (wV 8)))) V0) (S7 6 (A9 (Q4r 3 (wV 8))))))) (S7 4 (A9 (C8 Q9 (A2 (wV 6) A3))))))))) (N3 (T6 (A2 (A9 (wV 2)) (A2 (A9 (C8 Q9 (A2 (wV 4) A3))) A3))))))))
abbrev Z0g:List Str:=["some","onward","reached","states","place","state","goal"]
def Z5g   (K:Fg9) :WS:=(B3 (Z4y 2 1 [] (Q1u (wV 0)) (B1 0) (wV 0) (A9 (wC (.int 0)))) (B3 (C3 3 (C8 Q2z (A2 (wV 2) A3))) (B3 (C3 4 (wC (.int 0))) (B3 (Q6v (A6 (T0 fun i j=>decide (i<j)) (wV 4) (C8 F4 (A2 (wV 3) A3))) (B3 (C3 5 (A6 C1 (wV 3) (wV 4))) (B3 (M5 (Q0z (A9 (A6 C1 (wV 1) (wV 5)))) (B1 6) (U9 (Q4s 2 (wV 6)) (B3 (Q4t 2 (wV 6) (A6 G4 (Q4r 2 (wV 5)) (wC (.int 1)))) (S7 3 (A9 (wV 6)))) V0)) (Q9n 4 (Q1 NoC fun i j=>i+j) (wC (.int 1)))))) (Z5e K 2)))))
abbrev Q5a:List Str:=["ends","rows","wanted","backward","state","row","goal","reached"]
def Z5i   (K:Fg9) (sp_all_reached:G0):WS:=(B3 (Z5b 3 1 [] (Q5u (wV 1)) (B1 0) (N2 A3)) (B3 (Z4w 3 (M5 (Z1x (A2 (wV 1) A3)) (O4 2 (E6 (B1 4) (E6 (B1 5) P6))) (M5 (Q5q (wV 5)) (B1 6) (Q6t 3 (wV 6) (A9 (wV 4)))))) (B3 (Z5f 7 (Q4 sp_all_reached (A2 (N1 2 [2] (Q5s (A2 (wV 0) A3)) (O4 2 (E6 (B1 0) (E6 (B1 1) P6))) (A6 (eqD 60 false) (wV 1) (wV 2)) (A9 (wV 0))) (A2 (wV 3) A3)))) (N3 (N1 1 [7] (Q5t (A2 (C8 F4 (A2 (wV 0) A3)) A3)) (B1 0) O9 (A9 (Z4u K 1 (wV 0))))))))
abbrev Z0k:List Str:=["marks","numbers"]
noncomputable def Z5s  :WS:=(Z5d 1 (Q1u (wV 0)))
abbrev Z0m:List Str:=["ends","rows","blocks","many"]
def Z5v   (sp_numbered:D6) (sp_distances:G0):WS:=(B3 (C3 2 (A9 (M9 sp_numbered (A2 (Z5c (A2 (Q4 sp_distances (A2 (wV 0) (A2 (wV 1) (A2 (wC (.bl true)) A3)))) (A2 (Q4 sp_distances (A2 (wV 0) (A2 (wV 1) (A2 (wC (.bl false)) A3)))) A3))) A3)))) (B3 (C3 3 (wC (.int 0))) (B3 (Q6v (A6 (T0 fun i j=>decide (j<=i)) (C8 Q0k (A2 (wV 2) A3)) (wV 3)) (B3 (C3 3 (A6 G4 (C8 Q0k (A2 (wV 2) A3)) (wC (.int 1)))) (C3 2 (A9 (M9 sp_numbered (A2 (N1 2 [2] (Q7v (A2 (wV 2) (A2 (wV 1) A3))) (O4 2 (E6 (B1 0) (E6 (B1 1) P6))) O9 (A9 (T6 (A2 (A9 (wV 0)) (A2 (A9 (C8 Q9 (A2 (N1 1 [2] (Q5u (wV 1)) (B1 0) O9 (A9 (A6 C1 (wV 1) (wV 0)))) A3))) A3))))) A3)))))) (Q9u 2))))
abbrev Z0j:List Str:=["ends","rows","blocks","samples","state","block","keys","fewer_rows"]
def Q9x (K:Fg9):WE:=(A6 C1 (wV 4) (A6 C1 (A6 C1 (wV 3) (Q9q K 2 (wV 0))) (wV 1)))
def Z5q (dG:E3)  (K:Fg9) (sp_told_apart:G0) (sp_walkedK:D6):WS:=(B3 (C3 2 (A9 (Q4 sp_told_apart (A2 (wV 0) (A2 (wV 1) A3))))) (B3 (Z4z 3) (B3 (Z4v K 3 (M5 (Z1w (A2 (wV 2) A3)) (O4 2 (E6 (B1 4) (E6 (B1 5) P6))) (Q9s 3 (wV 5) (wV 4)))) (B3 (Q6s (Z4r dG 2 [("samples",3),("rows",1),("blocks",2)] (Q9x K) sp_walkedK (A6 C1 (wV 2) (wC (.int 0)))) (O4 2 (E6 (B1 6) (E6 (B1 7) P6)))) (N3 (T6 (A2 (A9 (C8 Q9 (A2 (N1 1 [0,3] (Q1u (wV 6)) (B1 0) O9 (A9 (A6 C1 (wV 1) (Q9q K 2 (wV 0))))) A3))) (A2 (A9 (wV 7)) A3))))))))
abbrev Z0h:List Str:=["start","step","is_end","keys","rows"]
def Z5h (dG:E3)  (sp_walked:D6) (sp_least:G0):WS:=(B3 (Q6s (M9 sp_walked (A2 (wV 0) (A2 (wV 1) A3))) (O4 2 (E6 (B1 3) (E6 (B1 4) P6)))) (N3 (Q4 sp_least (A2 (N1 1 [2] (Q1u (wV 3)) (B1 0) O9 (A9 (Q1h dG 1 1 (A2 (wV 0) A3)))) (A2 (wV 4) A3)))))
abbrev Z6o:List Str:=["one","other","rows","other_rows"]
def Q9z :WE:=(T6 (A2 (A9 (A6 C1 (A6 C1 (wV 2) (A6 C1 (wV 0) (wC (.int 0)))) (wV 1))) (A2 (A9 (A6 C1 (A6 C1 (wV 3) (A6 C1 (wV 0) (wC (.int 1)))) (wV 1))) A3)))
def Z4p:WS:=(C3 2 (A6 C1 (wV 0) (wC (.int 1))))
def Z4q:WS:=(C3 3 (A6 C1 (wV 1) (wC (.int 1))))
abbrev Z6n:List Str:=["one","other","is_end","ends","other_ends"]
def Q9y (cN:E3):WE:=(Q1h cN 2 2 (A2 (A6 C1 (wV 3) (A6 C1 (wV 0) (wC (.int 0)))) (A2 (A6 C1 (wV 1) (A6 C1 (wV 0) (wC (.int 1)))) A3)))
def Z4o:WS:=(C3 3 (A6 C1 (wV 0) (wC (.int 0))))
def w2_pair_end:WS:=(C3 4 (A6 C1 (wV 1) (wC (.int 0))))
abbrev Z6p:List Str:=["one","other","is_end"]
def Z5u   (sp_built:G0) (sp_pair_step:G0) (sp_pair_end:G0):WS:=(N3 (Q4 sp_built (A2 (T6 (A2 (A9 (wC (.int 0))) (A2 (A9 (wC (.int 0))) A3))) (A2 (Q4 sp_pair_step (A2 (wV 0) (A2 (wV 1) A3))) (A2 (Q4 sp_pair_end (A2 (wV 0) (A2 (wV 1) (A2 (wV 2) A3)))) A3)))))
abbrev Z6h:List Str:=["one","other"]
def Q6x:WE:=(Q2g (wV 0) (wV 1))
def Y5b (cN:E3)  (bS:G0):WS:=(N3 (Q4 bS (A2 (wV 0) (A2 (wV 1) (A2 (Q4u cN 2 (P8 Q6x [])) A3)))))
abbrev Z6g:List Str:=["one","other"]
def Q6w:WE:=(Q0q (wV 0) (wV 1))
def Y5a (cN:E3)  (bS:G0):WS:=(N3 (Q4 bS (A2 (wV 0) (A2 (wV 1) (A2 (Q4u cN 2 (P8 Q6w [])) A3)))))
abbrev Z6j:List Str:=["_law_script","_law_k"]
def Q9w  :WS:=(B3 (U9 (A6 (eqD 60 false) (wV 0) (N2 A3)) (N3 (A6 V7 (wC (.int 7)) (wV 1))) V0) (N3 (A6 G4 (A6 C1 (wV 0) (A6 (Q1 (fun _ j=>0<j) fun i j=>i % j) (wV 1) (C8 F4 (A2 (wV 0) A3)))) (A6 V7 (wC (.int 6553)) (A6 (Q1 Q0f fun i j=>i / j) (wV 1) (C8 F4 (A2 (wV 0) A3)))))))
abbrev Z6k:List Str:=["_law_script","_law_k","_law_many","_law_cell_here"]
def Z5l  (fe:D6):WS:=(B3 (C3 3 (A6 (Q1 (fun _ j=>0<j) fun i j=>i % j) (A6 G4 (A6 V7 (A6 (Q1 (fun _ j=>0<j) fun i j=>i % j) (M9 fe (A2 (wV 0) (A2 (wV 1) A3))) (wC (.int 2147483563))) (wC (.int 69069))) (A6 V7 (wC (.int 104723)) (A6 G4 (wV 1) (wC (.int 1))))) (wC (.int 2147483563)))) (B3 (C3 3 (A6 (Q1 (fun _ j=>0<j) fun i j=>i % j) (A6 G4 (A6 V7 (wV 3) (wV 3)) (A6 (Q1 Q0f fun i j=>i / j) (wV 3) (wC (.int 3)))) (wC (.int 2147483399)))) (N3 (A6 (Q1 (fun _ j=>0<j) fun i j=>i % j) (A6 (Q1 Q0f fun i j=>i / j) (A6 (Q1 (fun _ j=>0<j) fun i j=>i % j) (A6 G4 (A6 V7 (wV 3) (wV 3)) (A6 (Q1 Q0f fun i j=>i / j) (wV 3) (wC (.int 7)))) (wC (.int 2147483647))) (wC (.int 11))) (wV 2)))))
abbrev Q7b:List Str:=["_law_script","_law_at","_law_most","_law_size","_law_ends","_law_rows","_law_k"]
def Z5n  (cD:D6):WS:=(B3 (C3 3 (A6 G4 (wC (.int 1)) (M9 cD (A2 (wV 0) (A2 (wV 1) (A2 (wV 2) A3)))))) (B3 (C3 4 (C8 Q9 (A2 (N1 1 [0,1] (Q5t (A2 (wV 3) A3)) (B1 0) O9 (A9 (wB (A6 (eqD 60 false) (M9 cD (A2 (wV 1) (A2 (A6 G4 (A6 G4 (wV 2) (wC (.int 1))) (wV 0)) (A2 (wC (.int 2)) A3)))) (wC (.int 0)))))) A3))) (B3 (C3 5 (N2 A3)) (B3 (M5 (U6 (A2 (wV 3) A3)) (B1 6) (S7 5 (A9 (C8 Q9 (A2 (N1 1 [0,3,1,6] (Q5t (A2 (wC (.int 4)) A3)) (B1 0) O9 (A9 (M9 cD (A2 (wV 1) (A2 (A6 G4 (A6 G4 (A6 G4 (wV 3) (wC (.int 7))) (A6 V7 (wC (.int 4)) (wV 4))) (wV 0)) (A2 (wV 2) A3)))))) A3))))) (N3 (T6 (A2 (A9 (wV 4)) (A2 (A9 (C8 Q9 (A2 (wV 5) A3))) A3))))))))
noncomputable abbrev iD (n:Nat):D:=.int (n:Int)
noncomputable abbrev rD (r:List Nat):D:=.tup (r.map iD)
noncomputable abbrev rsD (rs:List (List Nat)):D:=.tup (rs.map rD)
theorem sz {n:Nat} (h:n<=1000000):n<=sizeLine:=aR h (by decide)
theorem szl {n:Nat} (h:n<=1000000):n<sizeLine:=Nat.lt_of_le_of_lt h (by decide)
theorem ixn {n j:Nat} (h:j<n):ixN n (j:Int)=some j:=by
 have:M7 (List.range n) (j:Int)=some j:=Y1 (by rw [ac (by simpa using h)];simp)
 unfold M7 at this
 rw [cu]at this
 cases e:ixN n (j:Int)with
 | none=>rw [e]at this;cases this
 | some k =>
  rw [e]at this
  have this:(List.range n)[k]?=some j:=this
  obtain⟨hk,e2⟩:=aG.mp this
  rw [<- e2,List.getElem_range]
section
variable {α:Type} [DecidableEq α] {FC:E3}{f:Addr} {Φ:Hp->Prop}{sp:D6}{step:α->Nat->α}
section T
variable {ts:α->List D}{key:α->List A7}
def wbT (dG:E3):WS:=(B3 (C3 8 (Q1h dG 2 1 (A2 (wV 5) (A2 (wV 7) A3)))) (B3 (U9 (Q9p 3 (wV 8)) (B3 (Q2f 3 (wV 8) (C8 F4 (A2 (wV 2) A3))) (S7 2 (A9 (wV 8)))) V0) (S7 6 (A9 (Q4p 3 (wV 8))))))
theorem forT (hk:∀a,O5 (ts a)=some (key a)) (inj:∀a b,key a=key b->a=b) (hF:FC 2 f Φ sp) {k:α}{E:F3}{o0 o4:Option Sl}:∀(cs:List Nat) (ks:List α) (r:List Nat) (o7 o8:Option Sl),
  (∀c∈cs,sp [.st (.tup (ts k)),.st (iD c)] (.st (.tup (ts (step k c)))))->ks.length+cs.length<=1000000->r.length+cs.length<=1000000 ->
  (∀o7 o8,E.nx [o0,some (.cl f Φ),some (.own ((E7 (step k) cs ks r).1.map fun a=>.tup (ts a))),some (.dt (K7 key (M3 (E7 (step k) cs ks r).1))),o4,some (.dat (.tup (ts k))),some (.own ((E7 (step k) cs ks r).2.map iD)),o7,o8]) ->
  C6 (B1 7) (wbT FC) E (cs.map iD) [o0,some (.cl f Φ),some (.own (ks.map fun a=>.tup (ts a))),some (.dt (K7 key (M3 ks))),o4,some (.dat (.tup (ts k))),some (.own (r.map iD)),o7,o8]
 | [],ks,r,o7,o8,_,_,_,h=>h o7 o8
 | c::cs,ks,r,o7,o8,hs,h1,h2,h=>by
  rw [az]at h1 h2
  have ma:=hs c ar
  have ih:=fun i3 r'=>forT hk inj hF (k:=k) (E:=E) (o0:=o0) (o4:=o4) cs i3 r'
  simp only [ao,C6]
  have hv:=Q2w inj (M3 ks) (step k c)
  have hi:(C7 (K7 key (M3 ks)) (key (step k c))).isSome=decide (step k c∈ks):=by rw [hv,Z4m,Q8e]
  simp only [wbT,L8,L1,O7,Q8q,D7,C2,D4,Q3g,W5u,Z3o,Q4j,F1,Q4m,Y2h,M4]
  refine⟨f,Φ,sp,rfl,hF,.dat (.tup (ts k)),rfl,.dat (iD c),rfl,rfl,_,ma,?_⟩
  simp only [Q3]
  refine⟨_,rfl,_,rfl,ts (step k c),key (step k c),rfl,hk _,?_⟩
  rw [hi]
  by_cases hm:step k c∈ks
  ·have ea:L6 ks (step k c)=ks:=Z0s hm
   rw [aD (by simp [hm])]
   refine⟨_,rfl,_,rfl,_,rfl,ts (step k c),key (step k c),_,rfl,hk _,by rw [hv];exact Q8f hm,_,rfl,szl (by simp;omega),?_⟩
   have e:(r.map iD++[D.int ((ks.idxOf (step k c):Nat):Int)])=(r++[ks.idxOf (step k c)]).map iD:=by simp
   show C6 _ _ _ _ [_,_,_,_,_,_,some (.own (r.map iD++[_])),_,_]
   rw [e]
   refine ih ks _ _ _ (fun c hc=>hs c (av _ hc)) (by omega) (by simp;omega) ?_
   simpa only [E7,ea]using h
  ·have ea:L6 ks (step k c)=ks++[step k c]:=Z0t hm
   rw [aI (by simp [hm])]
   refine⟨_,rfl,_,rfl,_,rfl,_,rfl,ts (step k c),key (step k c),rfl,hk _,szl (by simp [K7,M3];omega),?_⟩
   have ep:K9 (K7 key (M3 ks)) (key (step k c)) (.int (ks.length:Int))=K7 key (M3 (ks++[step k c])):=by
    rw [Z2h inj (by rw [Q8e];exact hm),Y0s]
   refine⟨_,rfl,_,rfl,_,rfl,szl (by simp;omega),?_⟩
   refine⟨_,rfl,_,rfl,_,rfl,ts (step k c),key (step k c),.int (((ks++[step k c]).idxOf (step k c):Nat):Int),rfl,hk _,?_,_,rfl,szl (by simp;omega),?_⟩
   ·rw [ag,ep,Q2w inj];exact Q8f (by simp)
   ·have e:(r.map iD++[D.int (((ks++[step k c]).idxOf (step k c):Nat):Int)])=(r++[(ks++[step k c]).idxOf (step k c)]).map iD:=by simp
    have e2:(ks.map fun a=>D.tup (ts a))++[D.tup (ts (step k c))]=(ks++[step k c]).map fun a=>D.tup (ts a):=by simp
    show C6 _ _ _ _ [_,_,some (.own ((ks.map fun a=>D.tup (ts a))++[D.tup (ts (step k c))])),some (.dt (K9 (K7 key (M3 ks)) (key (step k c)) (.int ((ks.map fun a=>D.tup (ts a)).length:Int)))),_,_,some (.own (r.map iD++[_])),_,_]
    rw [e,e2,ag,ep]
    refine ih _ _ _ _ (fun c hc=>hs c (av _ hc)) (by simp;omega) (by simp;omega) ?_
    simpa only [E7,ea]using h
def wtT:WT:=(A6 (T0 fun i j=>decide (i<j)) (C8 F4 (A2 (wV 4) A3)) (C8 F4 (A2 (wV 2) A3)))
def wlT (dG:E3):WS:=(B3 (C3 5 (A6 C1 (wV 2) (C8 F4 (A2 (wV 4) A3)))) (B3 (C3 6 (N2 A3)) (B3 (M5 (U6 (A2 (C8 F4 (A2 (wC (.str "01ab")) A3)) A3)) (B1 7) (wbT dG)) (S7 4 (A9 (C8 Q9 (A2 (wV 6) A3)))))))
theorem r4:L0 0 (Int.toNat ((Str.ofString "01ab").length:Int))=B6.map iD:=rfl
theorem W9b (hk:∀a,O5 (ts a)=some (key a)) (inj:∀a b,key a=key b->a=b) (hF:FC 2 f Φ sp) {start:α}{U:List α}{E:F3}{o0:Option Sl} (hU:∀k∈U,∀c∈B6,step k c∈U) (hl:U.length<=100000)
  (hs:∀k∈U,∀c∈B6,sp [.st (.tup (ts k)),.st (iD c)] (.st (.tup (ts (step k c))))):∀(n:Nat) (ks:List α) (rs:List (List Nat)) (o5 o6 o7 o8:Option Sl),V2 step start U ks rs->U.length<=n+rs.length ->
  (∀o5 o6 o7 o8,E.nx [o0,some (.cl f Φ),some (.own ((L9 step n ks rs).1.map fun a=>.tup (ts a))),some (.dt (K7 key (M3 (L9 step n ks rs).1))),some (.own ((L9 step n ks rs).2.map rD)),o5,o6,o7,o8]) ->
  K6 wtT (wlT FC) (n+1) E [o0,some (.cl f Φ),some (.own (ks.map fun a=>.tup (ts a))),some (.dt (K7 key (M3 ks))),some (.own (rs.map rD)),o5,o6,o7,o8]:=by
 intro n
 induction n with
 | zero =>
  intro ks rs o5 o6 o7 o8 W hn h
  have b:=W.bound
  simp only [K6,wtT,F6,M4,D7,C2,D4]
  refine⟨_,rfl,_,rfl,?_⟩
  simp only [S6,Q0m,Q1b,ag]
  rw [aD (by simp;omega)]
  exact h _ _ _ _
 | succ n ih =>
  intro ks rs o5 o6 o7 o8 W hn h
  have b:=W.bound
  have gb:=W.len
  rw [K6]
  simp only [wtT,F6,M4,D7,C2,D4]
  refine⟨_,rfl,_,rfl,?_⟩
  simp only [S6,Q0m,Q1b,ag]
  by_cases bR:rs.length<ks.length
  ·rw [aI (by simpa using bR)]
   have fu:ks[rs.length]?=some ks[rs.length]:=ac bR
   have kin:=br bR
   generalize ks[rs.length]=k at fu kin
   have W2:=W.next hU fu
   have b2:=W2.bound
   simp only [wlT,L8,O7,F6,M4,D7,C2,D4,s_lst,T3,Q2b,J5,Q4j,F1]
   refine⟨_,rfl,_,rfl,?_⟩
   simp only [S6,Q0m,Q8g]
   refine⟨.tup (ts k),by rw [ag];exact Y1 (by rw [ai,fu];rfl),?_⟩
   refine⟨_,rfl,sz (by simp),?_⟩
   rw [V9,Y1a]
   refine⟨sz (by decide),_,rfl,by decide,by decide,?_⟩
   rw [r4]
   have hW:=h
   rw [L9,fu]at hW
   refine forT hk inj hF (o0:=o0) (o4:=some (.own (rs.map rD))) B6 ks [] _ _ (hs k (W.sub k kin)) (by simp;omega) (by simp) fun o7 o8=>?_
   simp only [Q3,V9,Q3b,Q2a,Q8i]
   refine⟨_,rfl,_,rfl,_,rfl,_,rfl,szl (by simp;omega),?_⟩
   have e:rs.map rD++[D.tup ((E7 (step k) B6 ks []).2.map iD)]=(rs++[(E7 (step k) B6 ks []).2]).map rD:=by simp
   show K6 wtT (wlT FC) (n+1) E [_,_,_,_,some (.own (rs.map rD++[D.tup ((E7 (step k) B6 ks []).2.map iD)])),_,_,_,_]
   rw [e]
   exact ih _ _ _ _ _ _ W2 (by simp;omega) hW
  ·rw [aD (by simpa using bR)]
   have e:ks[rs.length]?=none:=aH.mpr (by omega)
   rw [L9,e]at h
   exact h _ _ _ _
noncomputable def sp_walked (FC:E3):D6:=fun rs r=>∃(α:Type) (_:DecidableEq α) (ts:α->List D) (key:α->List A7) (step:α->Nat->α) (start:α) (U:List α) (f:Addr) (Φ:Hp->Prop) (sp:D6),
 (∀a,O5 (ts a)=some (key a))/\(∀a b,key a=key b->a=b)/\rs=[.st (.tup (ts start)),.cl f Φ]/\FC 2 f Φ sp/\start∈U/\U.length<=100000/\(∀k∈U,∀c∈B6,step k c∈U/\sp [.st (.tup (ts k)),.st (iD c)] (.st (.tup (ts (step k c))))) /\
 r=.st (.tup [.lst ((X3 U.length step start).1.map fun a=>.tup (ts a)),rsD (X3 U.length step start).2])
theorem W5d {FC:E3}:∀rs r,rs.length=2->sp_walked FC rs r->Z5w FC (W1 r) (F2 Z6q rs):=by
 rintro rs r _ ⟨α,_,ts,key,step,start,U,f,Φ,sp,hk,inj,rfl,hF,hs,hl,hU,rfl⟩
 have l2:(2:Nat)<=sizeLine:=by decide
 unfold Z5w
 simp only [L8,O7,s_lst,D7,F1,C2,D4,W5t,J5,Z3p,X0,s_tup,M4]
 refine⟨_,rfl,_,rfl,sz (by simp),?_⟩
 refine⟨_,rfl,ts start,key start,rfl,hk _,_,rfl,_,rfl,sz (by simp),?_⟩
 refine⟨U.length+1,?_⟩
 refine W9b hk inj hF (step:=step) (start:=start) (U:=U) (fun k h c hc=>(hU k h c hc).1) hl (fun k h c hc=>(hU k h c hc).2) U.length [start] [] _ _ _ _ (V2.start hs) (by simp) fun o5 o6 o7 o8=>?_
 refine⟨_,rfl,_,rfl,_,rfl,?_⟩
 simp only [M8,S6,Q3b,Q2a,Q8i]
 refine⟨_,rfl,_,rfl,l2,rfl⟩
end T
end
section
variable {α:Type} [DecidableEq α] {FC:E3}{f:Addr} {Φ:Hp->Prop}{sp:D6}{step:α->Nat->α}
section T
variable {en:α->D}{key:α->A7}
def wbK (dG:E3):WS:=(B3 (C3 8 (Q1h dG 2 1 (A2 (wV 5) (A2 (wV 7) A3)))) (B3 (U9 (Q4s 3 (wV 8)) (B3 (Q4t 3 (wV 8) (C8 F4 (A2 (wV 2) A3))) (S7 2 (A9 (wV 8)))) V0) (S7 6 (A9 (Q4r 3 (wV 8))))))
theorem forK (hk:∀a,P7 (en a)=some (key a)) (inj:∀a b,key a=key b->a=b) (hF:FC 2 f Φ sp) {k:α}{E:F3}{o0 o4:Option Sl}:∀(cs:List Nat) (ks:List α) (r:List Nat) (o7 o8:Option Sl),
  (∀c∈cs,sp [.st ((en k)),.st (iD c)] (.st ((en (step k c)))))->ks.length+cs.length<=1000000->r.length+cs.length<=1000000 ->
  (∀o7 o8,E.nx [o0,some (.cl f Φ),some (.own ((E7 (step k) cs ks r).1.map fun a=>(en a))),some (.dk (K7 key (M3 (E7 (step k) cs ks r).1))),o4,some (.dat ((en k))),some (.own ((E7 (step k) cs ks r).2.map iD)),o7,o8]) ->
  C6 (B1 7) (wbK FC) E (cs.map iD) [o0,some (.cl f Φ),some (.own (ks.map fun a=>(en a))),some (.dk (K7 key (M3 ks))),o4,some (.dat ((en k))),some (.own (r.map iD)),o7,o8]
 | [],ks,r,o7,o8,_,_,_,h=>h o7 o8
 | c::cs,ks,r,o7,o8,hs,h1,h2,h=>by
  rw [az]at h1 h2
  have ma:=hs c ar
  have ih:=fun i3 r'=>forK hk inj hF (k:=k) (E:=E) (o0:=o0) (o4:=o4) cs i3 r'
  simp only [ao,C6]
  have hv:=Q2w inj (M3 ks) (step k c)
  have hi:(C7 (K7 key (M3 ks)) (key (step k c))).isSome=decide (step k c∈ks):=by rw [hv,Z4m,Q8e]
  simp only [wbK,L8,L1,O7,Q8q,D7,C2,D4,Q3g,Y2o,Y2p,Q4j,F1,Q4m,Y2n,M4]
  refine⟨f,Φ,sp,rfl,hF,.dat ((en k)),rfl,.dat (iD c),rfl,rfl,_,ma,?_⟩
  simp only [Q3]
  refine⟨_,rfl,_,rfl,en (step k c),key (step k c),rfl,hk _,?_⟩
  rw [hi]
  by_cases hm:step k c∈ks
  ·have ea:L6 ks (step k c)=ks:=Z0s hm
   rw [aD (by simp [hm])]
   refine⟨_,rfl,_,rfl,_,rfl,en (step k c),key (step k c),_,rfl,hk _,by rw [hv];exact Q8f hm,_,rfl,szl (by simp;omega),?_⟩
   have e:(r.map iD++[D.int ((ks.idxOf (step k c):Nat):Int)])=(r++[ks.idxOf (step k c)]).map iD:=by simp
   show C6 _ _ _ _ [_,_,_,_,_,_,some (.own (r.map iD++[_])),_,_]
   rw [e]
   refine ih ks _ _ _ (fun c hc=>hs c (av _ hc)) (by omega) (by simp;omega) ?_
   simpa only [E7,ea]using h
  ·have ea:L6 ks (step k c)=ks++[step k c]:=Z0t hm
   rw [aI (by simp [hm])]
   refine⟨_,rfl,_,rfl,_,rfl,_,rfl,en (step k c),key (step k c),rfl,hk _,szl (by simp [K7,M3];omega),?_⟩
   have ep:K9 (K7 key (M3 ks)) (key (step k c)) (.int (ks.length:Int))=K7 key (M3 (ks++[step k c])):=by
    rw [Z2h inj (by rw [Q8e];exact hm),Y0s]
   refine⟨_,rfl,_,rfl,_,rfl,szl (by simp;omega),?_⟩
   refine⟨_,rfl,_,rfl,_,rfl,en (step k c),key (step k c),.int (((ks++[step k c]).idxOf (step k c):Nat):Int),rfl,hk _,?_,_,rfl,szl (by simp;omega),?_⟩
   ·rw [ag,ep,Q2w inj];exact Q8f (by simp)
   ·have e:(r.map iD++[D.int (((ks++[step k c]).idxOf (step k c):Nat):Int)])=(r++[(ks++[step k c]).idxOf (step k c)]).map iD:=by simp
    have e2:(ks.map fun a=>en a)++[en (step k c)]=(ks++[step k c]).map fun a=>en a:=by simp
    show C6 _ _ _ _ [_,_,some (.own ((ks.map fun a=>en a)++[en (step k c)])),some (.dk (K9 (K7 key (M3 ks)) (key (step k c)) (.int ((ks.map fun a=>en a).length:Int)))),_,_,some (.own (r.map iD++[_])),_,_]
    rw [e,e2,ag,ep]
    refine ih _ _ _ _ (fun c hc=>hs c (av _ hc)) (by simp;omega) (by simp;omega) ?_
    simpa only [E7,ea]using h
def wtK:WT:=(A6 (T0 fun i j=>decide (i<j)) (C8 F4 (A2 (wV 4) A3)) (C8 F4 (A2 (wV 2) A3)))
def wlK (dG:E3):WS:=(B3 (C3 5 (A6 C1 (wV 2) (C8 F4 (A2 (wV 4) A3)))) (B3 (C3 6 (N2 A3)) (B3 (M5 (U6 (A2 (C8 F4 (A2 (wC (.str "01ab")) A3)) A3)) (B1 7) (wbK dG)) (S7 4 (A9 (C8 Q9 (A2 (wV 6) A3)))))))
theorem W8z (hk:∀a,P7 (en a)=some (key a)) (inj:∀a b,key a=key b->a=b) (hF:FC 2 f Φ sp) {start:α}{U:List α}{E:F3}{o0:Option Sl} (hU:∀k∈U,∀c∈B6,step k c∈U) (hl:U.length<=100000)
  (hs:∀k∈U,∀c∈B6,sp [.st ((en k)),.st (iD c)] (.st ((en (step k c))))):∀(n:Nat) (ks:List α) (rs:List (List Nat)) (o5 o6 o7 o8:Option Sl),V2 step start U ks rs->U.length<=n+rs.length ->
  (∀o5 o6 o7 o8,E.nx [o0,some (.cl f Φ),some (.own ((L9 step n ks rs).1.map fun a=>(en a))),some (.dk (K7 key (M3 (L9 step n ks rs).1))),some (.own ((L9 step n ks rs).2.map rD)),o5,o6,o7,o8]) ->
  K6 wtK (wlK FC) (n+1) E [o0,some (.cl f Φ),some (.own (ks.map fun a=>(en a))),some (.dk (K7 key (M3 ks))),some (.own (rs.map rD)),o5,o6,o7,o8]:=by
 intro n
 induction n with
 | zero =>
  intro ks rs o5 o6 o7 o8 W hn h
  have b:=W.bound
  simp only [K6,wtK,F6,M4,D7,C2,D4]
  refine⟨_,rfl,_,rfl,?_⟩
  simp only [S6,Q0m,Q1b,ag]
  rw [aD (by simp;omega)]
  exact h _ _ _ _
 | succ n ih =>
  intro ks rs o5 o6 o7 o8 W hn h
  have b:=W.bound
  have gb:=W.len
  rw [K6]
  simp only [wtK,F6,M4,D7,C2,D4]
  refine⟨_,rfl,_,rfl,?_⟩
  simp only [S6,Q0m,Q1b,ag]
  by_cases bR:rs.length<ks.length
  ·rw [aI (by simpa using bR)]
   have fu:ks[rs.length]?=some ks[rs.length]:=ac bR
   have kin:=br bR
   generalize ks[rs.length]=k at fu kin
   have W2:=W.next hU fu
   have b2:=W2.bound
   simp only [wlK,L8,O7,F6,M4,D7,C2,D4,s_lst,T3,Q2b,J5,Q4j,F1]
   refine⟨_,rfl,_,rfl,?_⟩
   simp only [S6,Q0m,Q8g]
   refine⟨(en k),by rw [ag];exact Y1 (by rw [ai,fu];rfl),?_⟩
   refine⟨_,rfl,sz (by simp),?_⟩
   rw [V9,Y1a]
   refine⟨sz (by decide),_,rfl,by decide,by decide,?_⟩
   rw [r4]
   have hW:=h
   rw [L9,fu]at hW
   refine forK hk inj hF (o0:=o0) (o4:=some (.own (rs.map rD))) B6 ks [] _ _ (hs k (W.sub k kin)) (by simp;omega) (by simp) fun o7 o8=>?_
   simp only [Q3,V9,Q3b,Q2a,Q8i]
   refine⟨_,rfl,_,rfl,_,rfl,_,rfl,szl (by simp;omega),?_⟩
   have e:rs.map rD++[D.tup ((E7 (step k) B6 ks []).2.map iD)]=(rs++[(E7 (step k) B6 ks []).2]).map rD:=by simp
   show K6 wtK (wlK FC) (n+1) E [_,_,_,_,some (.own (rs.map rD++[D.tup ((E7 (step k) B6 ks []).2.map iD)])),_,_,_,_]
   rw [e]
   exact ih _ _ _ _ _ _ W2 (by simp;omega) hW
  ·rw [aD (by simpa using bR)]
   have e:ks[rs.length]?=none:=aH.mpr (by omega)
   rw [L9,e]at h
   exact h _ _ _ _
noncomputable def sp_walkedK (FC:E3):D6:=fun rs r=>∃(α:Type) (_:DecidableEq α) (en:α->D) (key:α->A7) (step:α->Nat->α) (start:α) (U:List α) (f:Addr) (Φ:Hp->Prop) (sp:D6),
 (∀a,P7 (en a)=some (key a))/\(∀a b,key a=key b->a=b)/\rs=[.st ((en start)),.cl f Φ]/\FC 2 f Φ sp/\start∈U/\U.length<=100000/\(∀k∈U,∀c∈B6,step k c∈U/\sp [.st ((en k)),.st (iD c)] (.st ((en (step k c))))) /\
 r=.st (.tup [.lst ((X3 U.length step start).1.map fun a=>(en a)),rsD (X3 U.length step start).2])
theorem W5e {FC:E3}:∀rs r,rs.length=2->sp_walkedK FC rs r->Z5x FC (W1 r) (F2 Y6c rs):=by
 rintro rs r _ ⟨α,_,en,key,step,start,U,f,Φ,sp,hk,inj,rfl,hF,hs,hl,hU,rfl⟩
 have l2:(2:Nat)<=sizeLine:=by decide
 unfold Z5x
 simp only [L8,O7,s_lst,D7,F1,C2,D4,W6i,J5,Z3p,X0,s_tup,M4]
 refine⟨_,rfl,_,rfl,sz (by simp),?_⟩
 refine⟨(by decide:3<9),_,rfl,en start,key start,rfl,hk _,_,rfl,_,rfl,sz (by simp),?_⟩
 refine⟨U.length+1,?_⟩
 refine W8z hk inj hF (step:=step) (start:=start) (U:=U) (fun k h c hc=>(hU k h c hc).1) hl (fun k h c hc=>(hU k h c hc).2) U.length [start] [] _ _ _ _ (V2.start hs) (by simp) fun o5 o6 o7 o8=>?_
 refine⟨_,rfl,_,rfl,_,rfl,?_⟩
 simp only [M8,S6,Q3b,Q2a,Q8i]
 refine⟨_,rfl,_,rfl,l2,rfl⟩
end T
end
noncomputable abbrev ik (n:Nat):A7:=.inl (n:Int)
theorem Q2u (a b:Nat) (h:ik a=ik b):a=b:=by
 have:(a:Int)=(b:Int):=Sum.inl.inj h
 omega
noncomputable abbrev kR (R:List (Nat×Nat)):List (A7×D):=K7 ik (R.map fun q=>(q.1,iD q.2))
noncomputable def L5 (R:List (Nat×Nat)) (g d:Nat):List (Nat×Nat):=if g∈R.map (·.1)then R else R++[(g,d)]
noncomputable def goR (d:Nat):List Nat->List (Nat×Nat)->List (Nat×Nat)
 | [],R=>R
 | g::gs,R=>goR d gs (L5 R g d)
noncomputable def Q0n (on:List (List Nat)):Nat->List (Nat×Nat)->Nat->List (Nat×Nat)
 | 0,R,_=>R
 | n+1,R,p=>match R[p]? with
  | none=>R
  | some q=>Q0n on n (goR (q.2+1) (on[q.1]?.getD []) R) (p+1)
noncomputable def G6 (on:List (List Nat)) (xs:List Nat):List (Nat×Nat):=Q0n on on.length (xs.map fun x=>(x,0)) 0
theorem Z2f (R:List (Nat×Nat)):(R.map fun q=>(q.1,iD q.2)).map (·.1)=R.map (·.1):=by simp
theorem Z6v (R:List (Nat×Nat)) (g d:Nat):R <+: L5 R g d:=by
 unfold L5;split
 ·exact cf _
 ·exact List.prefix_append _ _
theorem Z1u (d:Nat):∀(gs:List Nat) (R:List (Nat×Nat)),R <+: goR d gs R
 | [],R=>cf _
 | g::gs,R=>(Z6v R g d).trans (Z1u d gs _)
theorem Y6g {R:List (Nat×Nat)}{g d:Nat} (h:(R.map (·.1)).Nodup):((L5 R g d).map (·.1)).Nodup:=by
 unfold L5;split
 ·exact h
 ·rename_i n
  rw [bj,bG]
  exact⟨h,by simp,fun a ha b hb=>by
   simp at hb;rintro rfl;exact n (hb ▸ ha)⟩
theorem Z8t {d:Nat}:∀(gs:List Nat) (R:List (Nat×Nat)),(R.map (·.1)).Nodup->((goR d gs R).map (·.1)).Nodup
 | [],R,h=>h
 | g::gs,R,h=>Z8t gs _ (Y6g h)
theorem Z2t {R:List (Nat×Nat)}{g d:Nat}{q:Nat×Nat} (h:q∈L5 R g d):q∈R\/q=(g,d):=by
 unfold L5 at h;split at h
 ·exact .inl h
 ·simpa using h
theorem Q8b {d:Nat}{q:Nat×Nat}:∀(gs:List Nat) (R:List (Nat×Nat)),q∈goR d gs R->q∈R\/∃g∈gs,q=(g,d)
 | [],R,h=>.inl h
 | g::gs,R,h=>by
  rcases Q8b gs _ h with h | ⟨g',h1,h2⟩
  ·rcases Z2t h with h | h
   ·exact .inl h
   ·exact .inr ⟨g,by simp,h⟩
  ·exact .inr ⟨g',by simp [h1],h2⟩
structure Q0g (n:Nat) (R:List (Nat×Nat)):Prop where
 nd:(R.map (·.1)).Nodup
 lt:∀q∈R,q.1<n
theorem Q0g.bound {n:Nat}{R:List (Nat×Nat)} (h:Q0g n R):R.length<=n:=by
 have:=h.nd.length_le_of_subset (l₂:=List.range n) fun x hx=>by
  obtain⟨q,hq,rfl⟩:=aq.mp hx
  exact bz.mpr (h.lt q hq)
 simpa using this
theorem Q0g.go {n d:Nat}{R:List (Nat×Nat)}{gs:List Nat} (h:Q0g n R) (hg:∀g∈gs,g<n):Q0g n (goR d gs R) :=
 ⟨Z8t gs R h.nd,fun q hq=>by
  rcases Q8b gs R hq with h' | ⟨g,h1,rfl⟩
  ·exact h.lt q h'
  ·exact hg g h1⟩
theorem W8v {R:List (Nat×Nat)} (nd:(R.map (·.1)).Nodup) {s d:Nat} (h:(s,d)∈R):C7 (kR R) (ik s)=some (iD d):=by
 rw [Q2w Q2u]
 exact W8u (by rw [Z2f];exact nd) (aq.mpr ⟨_,h,rfl⟩)
theorem Z9f (R:List (Nat×Nat)) (g:Nat):(C7 (kR R) (ik g)).isSome=decide (g∈R.map (·.1)):=by
 rw [Q2w Q2u,Z4m,Z2f]
theorem Y1t {R:List (Nat×Nat)}{g d:Nat} (h:g∉R.map (·.1)):K9 (kR R) (ik g) (iD d)=kR (R++[(g,d)]):=by
 rw [Z2h Q2u (by rw [Z2f];exact h)];simp [kR]
theorem Z7w {Q:List (A7×D)->Prop}:∀(xs:List Nat) (R:List (Nat×Nat)) (o:Option Sl),(R.map (·.1)++xs).Nodup->Q (kR (R++xs.map fun x=>(x,0))) ->
  U5 (B1 0) (wV 0) (A9 (wC (.int 0))) (xs.map iD) [o] (kR R) Q
 | [],R,o,_,h=>by simpa [U5]using h
 | x::xs,R,o,nd,h=>by
  have nx:x∉R.map (·.1):=fun z=>by
   have:=(bG.mp nd).2.2 x z x (by simp)
   exact this rfl
  rw [ao,U5]
  simp only [L1,C2,F1,J5]
  refine⟨_,rfl,iD x,ik x,rfl,rfl,_,rfl,?_⟩
  have e:=Y1t (d:=0) nx
  show U5 _ _ _ _ _ (K9 (kR R) (ik x) (iD 0)) _
  rw [e]
  refine Z7w xs _ _ (by simpa using nd) ?_
  simpa using h
noncomputable abbrev llD (on:List (List Nat)):D:=.lst (on.map fun l=>.lst (l.map iD))
def wbR:WS:=(U9 (Q4s 2 (wV 6)) (B3 (Q4t 2 (wV 6) (A6 G4 (Q4r 2 (wV 5)) (wC (.int 1)))) (S7 3 (A9 (wV 6)))) V0)
theorem forR {s d n:Nat}{E:F3}{o0 o1 o4:Option Sl} (hn:n<=100000):∀(gs:List Nat) (R:List (Nat×Nat)) (o6:Option Sl),Q0g n R->(s,d)∈R->(∀g∈gs,g<n) ->
  (∀o6,E.nx [o0,o1,some (.dk (kR (goR (d+1) gs R))),some (.own ((goR (d+1) gs R).map fun q=>iD q.1)),o4,some (.dat (iD s)),o6]) ->
  C6 (B1 6) wbR E (gs.map iD) [o0,o1,some (.dk (kR R)),some (.own (R.map fun q=>iD q.1)),o4,some (.dat (iD s)),o6]
 | [],R,o6,_,_,_,h=>h o6
 | g::gs,R,o6,hI,hs,hg,h=>by
  have b:=hI.bound
  have ih:=forR (s:=s) (d:=d) (E:=E) (o0:=o0) (o1:=o1) (o4:=o4) hn gs
  have ot:Q0g n (L5 R g (d+1)):=hI.go (d:=d+1) (gs:=[g]) (by simpa using hg g (by simp))
  have ku:(s,d)∈L5 R g (d+1):=(Z6v R g (d+1)).subset hs
  have b2:=ot.bound
  rw [ao,C6]
  simp only [wbR,L1,Q3g,Y2o,C2,L8,Y2p,F6,Y2n,J5,Q4j,F1,Q4m]
  refine⟨_,rfl,_,rfl,iD g,ik g,rfl,rfl,?_⟩
  rw [Z9f]
  by_cases hm:g∈R.map (·.1)
  ·have ea:L5 R g (d+1)=R:=aI hm
   rw [aD (by simpa using hm)]
   refine ih R _ hI hs (fun g' h'=>hg g' (by simp [h'])) ?_
   simpa only [goR,ea]using h
  ·have ea:L5 R g (d+1)=R++[(g,d+1)]:=aD hm
   rw [aI (by simpa using hm)]
   refine⟨_,rfl,_,rfl,iD s,ik s,iD d,rfl,rfl,W8v hI.nd hs,?_⟩
   rw [Q1y]
   refine⟨_,rfl,_,rfl,_,rfl,iD g,ik g,rfl,rfl,szl (by simp [K7];omega),_,rfl,_,rfl,_,rfl,szl (by simp;omega),?_⟩
   have e1:K9 (kR R) (ik g) (.int ((d:Int)+1))=kR (L5 R g (d+1)):=by
    rw [ea,<- Y1t hm];rfl
   have e2:(R.map fun q=>iD q.1)++[iD g]=(L5 R g (d+1)).map fun q=>iD q.1:=by rw [ea];simp
   show C6 _ _ _ _ [_,_,some (.dk (K9 (kR R) (ik g) (.int ((d:Int)+1)))),some (.own ((R.map fun q=>iD q.1)++[iD g])),_,_,_]
   rw [e1,e2]
   exact ih _ _ ot ku (fun g' h'=>hg g' (by simp [h'])) h
def wtR:WT:=(A6 (T0 fun i j=>decide (i<j)) (wV 4) (C8 F4 (A2 (wV 3) A3)))
def wlR:WS:=(B3 (C3 5 (A6 C1 (wV 3) (wV 4))) (B3 (M5 (Q0z (A9 (A6 C1 (wV 1) (wV 5)))) (B1 6) wbR) (Q9n 4 (Q1 NoC fun i j=>i+j) (wC (.int 1)))))
theorem W9a {on:List (List Nat)}{E:F3}{o0:Option Sl} (jP:∀l∈on,∀g∈l,g<on.length) (hl:on.length<=100000):∀(n:Nat) (R:List (Nat×Nat)) (p:Nat) (o5 o6:Option Sl),Q0g on.length R->on.length<=n+p ->
  (∀o4 o5 o6,E.nx [o0,some (.dat (llD on)),some (.dk (kR (Q0n on n R p))),some (.own ((Q0n on n R p).map fun q=>iD q.1)),o4,o5,o6]) ->
  K6 wtR wlR (n+1) E [o0,some (.dat (llD on)),some (.dk (kR R)),some (.own (R.map fun q=>iD q.1)),some (.dat (iD p)),o5,o6]:=by
 intro n
 induction n with
 | zero =>
  intro R p o5 o6 hI hp h
  have b:=hI.bound
  simp only [K6,wtR,F6,M4,D7,C2,D4]
  refine⟨_,rfl,_,rfl,?_⟩
  simp only [M8,S6,Q0m,Q1b,ag]
  rw [aD (by simp;omega)]
  exact h _ _ _
 | succ n ih =>
  intro R p o5 o6 hI hp h
  have b:=hI.bound
  rw [K6]
  simp only [wtR,F6,M4,D7,C2,D4]
  refine⟨_,rfl,_,rfl,?_⟩
  simp only [M8,S6,Q0m,Q1b,ag]
  by_cases bR:p<R.length
  ·rw [aI (by simpa using bR)]
   have fu:R[p]?=some R[p]:=ac bR
   have kin:=br bR
   generalize R[p]=q at fu kin
   obtain⟨s,d⟩:=q
   have hs:s<on.length:=hI.lt _ kin
   have jE:on[s]?=some on[s]:=ac hs
   have jF:=jP _ (br hs)
   simp only [wlR,L8,O7,F6,C2,T3,Q4k,F1,W5q,J5]
   refine⟨_,rfl,_,rfl,?_⟩
   rw [S6,M8,Q8g]
   refine⟨iD s,Y1 (by rw [ai,fu];rfl),_,rfl,_,rfl,?_⟩
   rw [M8]
   simp only [M8,Z3e]
   refine⟨.lst (on[s].map iD),Y1 (by rw [ai,jE];rfl),_,rfl,?_⟩
   rw [Q0n,fu]at h
   simp only [jE]at h
   refine forR (n:=on.length) (d:=d) hl on[s] R _ hI kin jF fun o6=>?_
   refine⟨_,rfl,trivial,?_⟩
   have e:((p:Int)+1)=((p+1:Nat):Int):=by omega
   show K6 wtR wlR (n+1) E [_,_,_,_,some (.dat (.int ((p:Int)+1))),_,_]
   rw [e]
   exact ih _ _ _ _ (hI.go jF) (by omega) h
  ·rw [aD (by simpa using bR)]
   have e:R[p]?=none:=aH.mpr (by omega)
   rw [Q0n,e]at h
   exact h _ _ _
noncomputable def sp_all_reached (K:Fg9):G0:=fun rs Pr=>∃(xs:List Nat) (on:List (List Nat)),rs=[.bw (xs.map iD),.st (llD on)]/\xs.Nodup/\(∀x∈xs,x<on.length)/\(∀l∈on,∀g∈l,g<on.length)/\on.length<=100000/\∀a,Pr (.cl a (N4 K a (kR (G6 on xs))))
theorem W0q {K:Fg9}:W4 (sp_all_reached K):=fun rs P Q f ⟨xs,on,e,h1,h2,h3,h4,h5⟩=>⟨xs,on,e,h1,h2,h3,h4,fun a=>f _ (h5 a)⟩
theorem W4j {K:Fg9}:∀rs Pr,rs.length=2->sp_all_reached K rs Pr->Z5g K (T7 Pr) (F2 Z0g rs):=by
 rintro rs Pr _ ⟨xs,on,rfl,nd,hx,jP,hl,h⟩
 have hI:Q0g on.length (xs.map fun x=>(x,0)):=⟨by simpa [Function.comp_def]using nd,fun q hq=>by
  obtain⟨x,h1,rfl⟩:=aq.mp hq
  exact hx x h1⟩
 have b:=hI.bound
 rw [ag]at b
 unfold Z5g
 simp only [L8,W6g,Q4l,C2,O7,M4,D7,D4,J5,W6s]
 refine⟨_,rfl,_,rfl,szl (by simp;omega),?_⟩
 refine Z7w xs [] _ (by simpa using nd) ?_
 refine⟨_,rfl,?_⟩
 have el:(kR ([]++xs.map fun x=>(x,0))).map (fun p=>kyD p.1)=((xs.map fun x=>(x,0)).map fun q=>iD q.1):=by simp [K7,kyD]
 show Q2z [.dk _] _
 rw [W6n,el,cm]
 simp only [Q3,V9]
 refine⟨on.length+1,?_⟩
 refine W9a jP hl on.length (xs.map fun x=>(x,0)) 0 _ _ hI (by omega) fun o4 o5 o6=>?_
 exact⟨_,rfl,h⟩
structure Wf (es:List Bool) (rows:List (List Nat)):Prop where
 len:rows.length=es.length
 pos:0<es.length
 r4:∀r∈rows,r.length=4
 lt:∀r∈rows,∀x∈r,x<es.length
noncomputable def Y0 (B:List (List Nat)) (g s:Nat):List (List Nat):=B.set g (B.getD g []++[s])
noncomputable def Q0u (s:Nat):List Nat->List (List Nat)->List (List Nat)
 | [],B=>B
 | g::gs,B=>Q0u s gs (Y0 B g s)
noncomputable def Q0t:Nat->List (List Nat)->List (List Nat)->List (List Nat)
 | _,[],B=>B
 | s,r::rs,B=>Q0t (s+1) rs (Q0u s r B)
noncomputable def E2 (rows:List (List Nat)):List (List Nat):=Q0t 0 rows (rows.map fun _=>[])
noncomputable abbrev lls (B:List (List Nat)):List (List D):=B.map fun l=>l.map iD
theorem Z0q (B:List (List Nat)) (g s:Nat):(Y0 B g s).length=B.length:=by simp [Y0]
theorem Q7i {s:Nat}:∀(gs:List Nat) (B:List (List Nat)),(Q0u s gs B).length=B.length
 | [],B=>rfl
 | g::gs,B=>by rw [Q0u,Q7i gs,Z0q]
theorem Z7b:∀(rs:List (List Nat)) (s:Nat) (B:List (List Nat)),(Q0t s rs B).length=B.length
 | [],s,B=>rfl
 | r::rs,s,B=>by rw [Q0t,Z7b rs,Q7i]
theorem Z9t (B:List (List Nat)) (g:Nat):(lls B).getD g []=(B.getD g []).map iD:=by
 rw [au,au,ai]
 cases B[g]? <;> rfl
theorem W0d (B:List (List Nat)) (g s:Nat):(lls B).set g ((lls B).getD g []++[iD s])=lls (Y0 B g s):=by
 rw [Z9t]
 unfold Y0 lls
 rw [List.map_set]
 simp
theorem Z8r {B:List (List Nat)}{m g:Nat} (h:∀l∈B,l.length<=m):(B.getD g []).length<=m:=by
 rw [au]
 cases e:B[g]? with
 | none=>simp
 | some l=>exact h l (aC e)
theorem Z6t {B:List (List Nat)}{m g s:Nat} (h:∀l∈B,l.length<=m):∀l∈Y0 B g s,l.length<=m+1:=by
 intro l hl
 rcases List.mem_or_eq_of_mem_set hl with h' | rfl
 ·exact Nat.le_succ_of_le (h l h')
 ·have:=Z8r (g:=g) h
  rw [aA,bZ];omega
theorem Z7c {s:Nat}:∀(gs:List Nat) (B:List (List Nat)) (m:Nat),(∀l∈B,l.length<=m)->∀l∈Q0u s gs B,l.length<=m+gs.length
 | [],B,m,h=>h
 | g::gs,B,m,h=>fun l hl=>by
  have:=Z7c gs _ (m+1) (Z6t h) l hl
  simp;omega
theorem W0j {B:List (List Nat)}{g s i x:Nat} (hx:x∈(Y0 B g s).getD i []):x∈B.getD i []\/(i=g/\x=s):=by
 unfold Y0 at hx
 rw [au,List.getElem?_set]at hx
 by_cases h:g=i
 ·subst h
  by_cases hl:g<B.length
  ·rw [aI rfl,aI hl]at hx
   rcases aU.mp (show x∈B.getD g []++[s]from hx)with h | h
   ·exact .inl h
   ·exact .inr ⟨rfl,by simpa using h⟩
  ·rw [aI rfl,aD hl]at hx
   cases hx
 ·rw [aD h]at hx
  exact .inl (by rw [au];exact hx)
theorem W0l {B:List (List Nat)}{g s i x:Nat} (hx:x∈B.getD i []):x∈(Y0 B g s).getD i []:=by
 unfold Y0
 rw [au]at hx ⊢
 rw [List.getElem?_set]
 by_cases h:g=i
 ·subst h
  by_cases hl:g<B.length
  ·rw [aI rfl,aI hl]
   exact bi _ (by rw [au];exact hx)
  ·rw [aH.mpr (by omega)]at hx;cases hx
 ·rw [aD h];exact hx
theorem W0k {B:List (List Nat)}{g s:Nat} (hl:g<B.length):s∈(Y0 B g s).getD g []:=by
 unfold Y0
 rw [au,List.getElem?_set,aI rfl,aI hl]
 exact am _ (by simp)
theorem Y0h {s i x:Nat}:∀(gs:List Nat) (B:List (List Nat)),(∀g∈gs,g<B.length)->(x∈(Q0u s gs B).getD i [] ↔ x∈B.getD i []\/(i∈gs/\x=s))
 | [],B,_=>by simp [Q0u]
 | g::gs,B,h=>by
  rw [Q0u,Y0h gs _ (fun g' h'=>by rw [Z0q];exact h g' (by simp [h']))]
  constructor
  ·rintro (h' | ⟨h1,h2⟩)
   ·rcases W0j h' with h' | ⟨h1,h2⟩
    ·exact .inl h'
    ·exact .inr ⟨by simp [h1],h2⟩
   ·exact .inr ⟨by simp [h1],h2⟩
  ·rintro (h' | ⟨h1,rfl⟩)
   ·exact .inl (W0l h')
   ·rcases aj.mp h1 with rfl | h1
    ·exact .inl (W0k (h _ (by simp)))
    ·exact .inr ⟨h1,rfl⟩
theorem Y0g {i x:Nat}:∀(rs:List (List Nat)) (s:Nat) (B:List (List Nat)),(∀r∈rs,∀g∈r,g<B.length)->(x∈(Q0t s rs B).getD i [] ↔ x∈B.getD i []\/∃j r,rs[j]?=some r/\i∈r/\x=s+j)
 | [],s,B,_=>by simp [Q0t]
 | r::rs,s,B,h=>by
  rw [Q0t,Y0g rs _ _ (fun r' h' g hg=>by rw [Q7i];exact h r' (by simp [h']) g hg),Y0h _ _ (h r (by simp))]
  constructor
  ·rintro ((h' | ⟨h1,rfl⟩) | ⟨j,r',e,h1,rfl⟩)
   ·exact .inl h'
   ·exact .inr ⟨0,r,rfl,h1,rfl⟩
   ·exact .inr ⟨j+1,r',by simpa using e,h1,by omega⟩
  ·rintro (h' | ⟨j,r',e,h1,rfl⟩)
   ·exact .inl (.inl h')
   ·cases j with
    | zero=>cases e;exact .inl (.inr ⟨h1,rfl⟩)
    | succ j=>exact .inr ⟨j,r',by simpa using e,h1,by omega⟩
theorem Z2w {rows:List (List Nat)} (h:∀r∈rows,∀g∈r,g<rows.length) {i x:Nat}:x∈(E2 rows).getD i [] ↔ ∃r,rows[x]?=some r/\i∈r:=by
 unfold E2
 rw [Y0g rows 0 _ (fun r hr g hg=>by rw [ag];exact h r hr g hg)]
 have e0:x∉(rows.map fun _=>([]:List Nat)).getD i []:=by
  rw [au,ai]
  cases rows[i]? <;> simp
 constructor
 ·rintro (h' | ⟨j,r,e,h1,rfl⟩)
  ·exact absurd h' e0
  ·exact⟨r,by rw [dn];exact e,h1⟩
 ·rintro ⟨r,e,h1⟩
  exact .inr ⟨x,r,e,h1,by omega⟩
theorem Q7h (rows:List (List Nat)):(E2 rows).length=rows.length:=by simp [E2,Z7b]
theorem Z7a {rows:List (List Nat)} (h:∀r∈rows,∀g∈r,g<rows.length):∀l∈E2 rows,∀x∈l,x<(E2 rows).length:=by
 intro l hl x hx
 obtain⟨i,hi,rfl⟩:=cc.mp hl
 have:x∈(E2 rows).getD i []:=by rw [au,ac hi];exact hx
 obtain⟨r,e,_⟩:=(Z2w h).mp this
 obtain⟨h',_⟩:=aG.mp e
 rw [Q7h];exact h'
noncomputable def E9 (es:List Bool) (b:Bool):List Nat:=((es.zipIdx).filter fun p=>p.1==b).map (·.2)
theorem Z2x {es:List Bool}{b:Bool}{i:Nat}:i∈E9 es b ↔ es[i]?=some b:=by
 unfold E9
 rw [aq]
 constructor
 ·rintro ⟨⟨c,j⟩,h,rfl⟩
  rw [iQ]at h
  have h1:=List.mem_zipIdx_iff_getElem?.mp h.1
  have h2:c=b:=by simpa using h.2
  subst h2;exact h1
 ·intro h
  exact⟨(b,i),iQ.mpr ⟨List.mem_zipIdx_iff_getElem?.mpr h,by simp⟩,rfl⟩
theorem Z8h {es:List Bool}{b:Bool}:∀x∈E9 es b,x<es.length:=fun x hx=>by
 obtain⟨h,_⟩:=aG.mp (Z2x.mp hx);exact h
theorem Z8i {es:List Bool}{b:Bool}:(E9 es b).Nodup:=by
 have:(es.zipIdx.map (·.2)).Nodup:=by rw [List.zipIdx_map_snd];exact List.nodup_range'
 exact this.sublist (List.filter_sublist.map _)
noncomputable def G5 (R:List (Nat×Nat)) (s:Nat):Option Nat:=(R.find? fun q=>decide (q.1=s)).map (·.2)
noncomputable abbrev oD:Option Nat->D
 | none=>.non
 | some d=>iD d
theorem Y4y (R:List (Nat×Nat)) (s:Nat):(C7 (kR R) (ik s)).getD .non=oD (G5 R s):=by
 rw [Q2w Q2u]
 unfold C7 G5
 induction R with
 | nil=>rfl
 | cons q R ih =>
  rw [ao,b7,b7]
  by_cases h:q.1=s
  ·simp [h]
  ·simp only [h,decide_false];exact ih
noncomputable def W5 (es:List Bool) (rows:List (List Nat)) (b:Bool):List (Option Nat):=(List.range es.length).map (G5 (G6 (E2 rows) (E9 es b)))
theorem Z7y {Q:List (List D)->Prop}:∀(ds:List D) (o:Option Sl),Q (ds.map fun _=>[])->Y2 (B1 0) (N2 A3) ds [o] Q
 | [],o,h=>h
 | d::ds,o,h=>by
  rw [Y2]
  simp only [L1,s_lst,D4]
  exact⟨_,rfl,sz (by simp),_,rfl,Z7y ds _ h⟩
@[simp] theorem nll1 {d:D}:K0 (some (.dat d))=true:=rfl
@[simp] theorem nll2:K0 none=true:=rfl
theorem forB {s:Nat}{E:F3}{a:Addr}{o0 o1 o2 o5 o7:Option Sl} (n0:K0 o0=true) (n1:K0 o1=true) (n2:K0 o2=true) (n5:K0 o5=true) (n7:K0 o7=true):∀(gs:List Nat) (B:List (List Nat)) (m:Nat) (o6:Option Sl),K0 o6=true ->
  (∀g∈gs,g<B.length)->(∀l∈B,l.length<=m)->m+gs.length<=1000000 ->
  (∀o6,K0 o6=true->E.nx [o0,o1,o2,some (.ll a (lls (Q0u s gs B))),some (.dat (iD s)),o5,o6,o7]) ->
  C6 (B1 6) (Q6t 3 (wV 6) (A9 (wV 4))) E (gs.map iD) [o0,o1,o2,some (.ll a (lls B)),some (.dat (iD s)),o5,o6,o7]
 | [],B,m,o6,n6,_,_,_,h=>h o6 n6
 | g::gs,B,m,o6,n6,hg,hm,hz,h=>by
  rw [az]at hz
  have gl:=hg g (by simp)
  have bd:=Z8r (g:=g) hm
  rw [ao,C6]
  simp only [L1,W6l,C2,F1]
  refine⟨a,lls B,rfl,?_,_,rfl,_,g,rfl,?_,_,rfl,_,rfl,?_,?_⟩
  ·show(K0 o0&&(K0 o1&&(K0 o2&&([some (.dat (iD s)),o5,some (.dat (iD g)),o7]:A8).all K0)))=true
   simp [n0,n1,n2,n5,n7,nll1]
  ·rw [ag];exact ixn gl
  ·rw [Z9t,ag];exact szl (by omega)
  ·show C6 _ _ _ _ [_,_,_,some (.ll a ((lls B).set g ((lls B).getD g []++[iD s]))),_,_,_,_]
   rw [W0d]
   exact forB n0 n1 n2 n5 n7 gs _ (m+1) _ rfl (fun g' h'=>by rw [Z0q];exact hg g' (by simp [h'])) (Z6t hm) (by omega) h
theorem Z8q {E:F3}{a:Addr}{o0 o1 o2 o7:Option Sl} (n0:K0 o0=true) (n1:K0 o1=true) (n2:K0 o2=true) (n7:K0 o7=true):∀(rs:List (List Nat)) (s:Nat) (B:List (List Nat)) (m:Nat) (o4 o5 o6:Option Sl),K0 o4=true->K0 o5=true->K0 o6=true ->
  (∀r∈rs,r.length=4/\∀g∈r,g<B.length)->(∀l∈B,l.length<=m)->m+4*rs.length<=1000000 ->
  (∀o4 o5 o6,K0 o4=true->K0 o5=true->K0 o6=true->E.nx [o0,o1,o2,some (.ll a (lls (Q0t s rs B))),o4,o5,o6,o7]) ->
  C6 (O4 2 (E6 (B1 4) (E6 (B1 5) P6))) (M5 (Q5q (wV 5)) (B1 6) (Q6t 3 (wV 6) (A9 (wV 4)))) E ((rs.zipIdx s).map fun p=>.tup [.int (p.2:Int),rD p.1]) [o0,o1,o2,some (.ll a (lls B)),o4,o5,o6,o7]
 | [],s,B,m,o4,o5,o6,n4,n5,n6,_,_,_,h=>h o4 o5 o6 n4 n5 n6
 | r::rs,s,B,m,o4,o5,o6,n4,n5,n6,hg,hm,hz,h=>by
  rw [az]at hz
  obtain⟨l4,gl⟩:=hg r (by simp)
  rw [bQ,ao,C6]
  simp only [Q1f,Q1d,L1,Q1e,T3,W6b,C2]
  refine⟨_,rfl,rfl,_,_,rfl,_,_,rfl,rfl,_,rfl,_,rfl,?_⟩
  refine forB n0 n1 n2 (o5:=some (.dat (rD r))) rfl n7 r B m o6 n6 gl hm (by omega) fun o6 n6=>?_
  exact Z8q n0 n1 n2 n7 rs (s+1) _ (m+4) _ _ _ rfl rfl n6 (fun r' h'=>⟨(hg r' (by simp [h'])).1,fun g h2=>by rw [Q7i];exact(hg r' (by simp [h'])).2 g h2⟩)
   (by have:=Z7c (s:=s) r B m hm;rw [l4]at this;exact this) (by omega) h
theorem Z1i {b:Bool}{Q:List D->Prop}:∀(es:List Bool) (n:Nat) (o0 o1:Option Sl),Q (((es.zipIdx n).filter fun p=>p.1==b).map fun p=>iD p.2) ->
  G8 (O4 2 (E6 (B1 0) (E6 (B1 1) P6))) (A6 (eqD 60 false) (wV 1) (wV 2)) (A9 (wV 0)) ((es.zipIdx n).map fun p=>.tup [.int (p.2:Int),.bl p.1]) [o0,o1,some (.dat (.bl b))] Q
 | [],n,o0,o1,h=>h
 | e::es,n,o0,o1,h=>by
  rw [bQ,ao,G8]
  simp only [Q1f,Q1d,L1,Q1e,F6,C2,F1]
  refine⟨_,rfl,rfl,_,_,rfl,_,_,rfl,rfl,_,rfl,_,rfl,?_⟩
  simp only [M8,Q1z,o_d1]
  refine⟨_,_,rfl,rfl,by simp [D.depth],?_⟩
  rw [bQ,gr]at h
  by_cases hb:e=b
  ·subst hb
   simp only [BEq.rfl,if_true]at h
   simp only [o_e3,BEq.rfl,if_true,dl,cT]
   exact⟨_,rfl,_,rfl,Z1i es (n+1) _ _ h⟩
  ·have fX:(e==b)=false:=by simpa using hb
   simp only [fX,cT,dl]at h
   simp only [o_e3,fX,dl,cT]
   exact Z1i es (n+1) _ _ h
def L4 (ra:R) (es:List Bool):Prop:=ra=.bw (es.map .bl)\/ra=.st (.tup (es.map .bl))
theorem L4.rd {ra:R}{es:List Bool} (h:L4 ra es):Q8 (O1 ra)=ra:=by rcases h with rfl | rfl <;> rfl
theorem L4.nll {ra:R}{es:List Bool} (h:L4 ra es):K0 (some (O1 ra))=true:=by rcases h with rfl | rfl <;> rfl
theorem L4.sq {ra:R}{es:List Bool} (h:L4 ra es):Q3i ra=some (es.map .bl):=by rcases h with rfl | rfl <;> rfl
theorem L4.len {ra:R}{es:List Bool} (h:L4 ra es) {Q:R->Prop}:F4 [ra] Q=Q (.st (.int (es.length:Int))):=by
 rcases h with rfl | rfl
 ·rw [Q0m,ag]
 ·rw [Y0z,ag]
theorem L4.arg {ra:R}{es:List Bool} (h:L4 ra es):N6 ra=true:=by rcases h with rfl | rfl <;> rfl
theorem L4.nrm {ra:R}{es:List Bool} (h:L4 ra es):nrm ra=ra:=by rcases h with rfl | rfl <;> rfl
noncomputable def sp_distances:G0:=fun rs Pr=>∃ra es rows b,rs=[ra,.st (rsD rows),.st (.bl b)]/\L4 ra es/\Wf es rows/\es.length<=20000/\Pr (.nw ((W5 es rows b).map oD))
theorem Y0n:W4 sp_distances:=fun rs P Q f ⟨ra,es,rows,b,e,h1,h2,h3,h4⟩=>⟨ra,es,rows,b,e,h1,h2,h3,f _ h4⟩
theorem W4n {K:Fg9}:∀rs Pr,rs.length=3->sp_distances rs Pr->Z5i K (sp_all_reached K) (T7 Pr) (F2 Q5a rs):=by
 rintro rs Pr _ ⟨ra,es,rows,b,rfl,ha,wf,hl,h⟩
 have wl:=wf.len
 have bR:∀r∈rows,∀g∈r,g<rows.length:=fun r hr g hg=>by rw [wl];exact wf.lt r hr g hg
 unfold Z5i
 simp only [L8,W6m,Z3r,C2,W5x,T3,W5z,D7,D4,W6t,Q1c,U8,Y2l,X0,Z3q,M4]
 refine⟨_,rfl,_,rfl,sz (by simp;omega),?_⟩
 refine Z7y _ _ fun a=>?_
 refine⟨_,rfl,.inr ⟨_,rfl,?_⟩⟩
 have e1:G9 (rows.map rD)=(rows.zipIdx 0).map fun p=>.tup [.int (p.2:Int),rD p.1]:=by
  unfold G9;rw [List.zipIdx_map,aN];rfl
 have e2:((rows.map rD).map fun _=>([]:List D))=lls (rows.map fun _=>[]):=by simp [lls]
 rw [e1,e2]
 refine Z8q (o0:=some (O1 ra)) (o1:=some (.dat (rsD rows))) (o2:=some (.dat (.bl b))) (o7:=none) ha.nll rfl rfl rfl rows 0 _ 0 none none none rfl rfl rfl (fun r hr=>⟨wf.r4 r hr,fun g hg=>by rw [ag];exact bR r hr g hg⟩) (fun l hl=>by simp at hl;simp [hl.2]) (by omega) fun o4 o5 o6 n4 n5 n6=>?_
 refine⟨a,_,rfl,?_,?_⟩
 ·show(K0 _&&(K0 _&&(K0 _&&([o4,o5,o6,none]:A8).all K0)))=true
  have:=ha.nll
  simp [this,n4,n5,n6,nll1,nll2]
 refine⟨_,rfl,?_⟩
 show ∃r ds,[Q8 (O1 ra)]=[r]/\_
 refine⟨_,_,rfl,by rw [ha.rd];exact ha.sq,sz (by simp [G9];omega),?_⟩
 have e3:G9 (es.map .bl)=(es.zipIdx 0).map fun p=>.tup [.int (p.2:Int),.bl p.1]:=by
  unfold G9;rw [List.zipIdx_map,aN];rfl
 rw [e3]
 refine Z1i es 0 _ _ ?_
 refine⟨_,rfl,rfl,E9 es b,E2 rows,?_,Z8i,fun x hx=>by rw [Q7h,wl];exact Z8h x hx,Z7a bR,by rw [Q7h,wl];omega,fun a'=>?_⟩
 ·have q1:((es.zipIdx 0).filter fun p=>p.1==b).map (fun p=>iD p.2)=(E9 es b).map iD:=by unfold E9;rw [aN];rfl
  have q2:D.lst ((lls (Q0t 0 rows (rows.map fun _=>[]))).map D.lst)=llD (E2 rows):=by unfold lls llD E2;rw [aN];rfl
  show [R.bw _,R.st (.lst _)]=_
  rw [q1,q2]
 refine⟨a',_,rfl,?_⟩
 refine⟨_,rfl,?_⟩
 show F4 [Q8 (O1 ra)] _
 rw [ha.rd,ha.len]
 refine⟨_,rfl,by omega,by omega,sz (by simp [L0];omega),?_⟩
 have hf:∀i:Nat,(C7 (kR (G6 (E2 rows) (E9 es b))) (ik i)).getD .non=oD (G5 (G6 (E2 rows) (E9 es b)) i):=Y4y _
 have er:L0 0 (es.length:Int).toNat=(List.range es.length).map iD:=by simp [L0]
 rw [er]
 refine Q0w (f:=fun d=>match d with | .int i=>(C7 (kR (G6 (E2 rows) (E9 es b))) (.inl i)).getD .non | d=>d) _ _ _ (fun d hd Q' q=>?_) ?_
 ·obtain⟨i,_,rfl⟩:=aq.mp hd
  simp only [F1,W5v,C2]
  exact⟨a',_,rfl,_,rfl,_,ik i,rfl,rfl,q⟩
 ·rw [aN]
  have:(List.range es.length).map ((fun d=>match d with | .int i=>(C7 (kR (G6 (E2 rows) (E9 es b))) (.inl i)).getD .non | d=>d) ∘ iD)=(W5 es rows b).map oD:=by
   unfold W5
   rw [aN]
   exact bb fun i _=>hf i
  rw [this]
  exact h
noncomputable def N8:List D->List D->List Nat
 | _,[]=>[]
 | ks,d::r=>ks.idxOf d::N8 (S4 ks d) r
theorem Y0x:∀(ds ks:List D),(Q0d ks ds).map D.int=(N8 ks ds).map iD
 | [],ks=>rfl
 | d::r,ks=>by rw [Q0d,N8,ao,ao,Y0x r]
noncomputable def T4:List D->List D->List D
 | ks,[]=>ks
 | ks,d::r=>T4 (S4 ks d) r
theorem Y3w (ks:List D) (d:D):ks <+: S4 ks d:=by
 unfold S4;split
 ·exact cf _
 ·exact List.prefix_append _ _
theorem Y3u:∀(ds ks:List D),ks <+: T4 ks ds
 | [],ks=>cf _
 | d::r,ks=>(Y3w ks d).trans (Y3u r _)
theorem Y0k (ks:List D) (d:D):d∈S4 ks d:=by
 unfold S4;split
 ·assumption
 ·simp
theorem Y8j {ks ls:List D}{g:D} (p:ks <+: ls) (h:g∈ks):ls.idxOf g=ks.idxOf g:=by
 obtain⟨t,rfl⟩:=p
 rw [List.idxOf_append,aI h]
theorem Y8k (ks:List D) (d:D):(S4 ks d).idxOf d=ks.idxOf d:=by
 unfold S4;split
 ·rfl
 ·rename_i h
  rw [List.idxOf_append,aD h,List.idxOf_eq_length h]
  simp
theorem Q4c:∀(ds ks:List D),N8 ks ds=ds.map fun d=>(T4 ks ds).idxOf d
 | [],ks=>rfl
 | d::r,ks=>by
  have p:=Y3u r (S4 ks d)
  rw [N8,Q4c r,ao,T4,Y8j p (Y0k ks d),Y8k]
theorem Y0v (ds ks:List D):(N8 ks ds).length=ds.length:=by rw [Q4c,ag]
theorem Q6c:∀(ds ks:List D) {d:D},d∈ks\/d∈ds->d∈T4 ks ds
 | [],ks,d,h=>by simpa [T4]using h
 | e::r,ks,d,h=>by
  rw [T4]
  refine Q6c r _ ?_
  rcases h with h | h
  ·exact .inl ((Y3w ks e).subset h)
  ·rcases aj.mp h with rfl | h
   ·exact .inl (Y0k _ _)
   ·exact .inr h
theorem Y3t:∀(ds ks:List D),(T4 ks ds).length<=ks.length+ds.length
 | [],ks=>by simp [T4]
 | d::r,ks=>by
  have:=Y3t r (S4 ks d)
  have:(S4 ks d).length<=ks.length+1:=by unfold S4;split <;> simp
  rw [T4,az];omega
theorem Y0w {ds:List D}:∀x∈N8 [] ds,x<ds.length:=fun x hx=>by
 rw [Q4c,aq]at hx
 obtain⟨d,hd,rfl⟩:=hx
 have h1:=aP.mpr (Q6c ds [] (.inr hd))
 have h2:=Y3t ds []
 simp at h2
 omega
theorem Y0u {ds:List D}{i j:Nat}{a b:D} (hi:ds[i]?=some a) (hj:ds[j]?=some b):(N8 [] ds)[i]?=(N8 [] ds)[j]? ↔ a=b:=by
 rw [Q4c,ai,ai,hi,hj]
 constructor
 ·intro h
  have h:(T4 [] ds).idxOf a=(T4 [] ds).idxOf b:=aB h
  have ha:=aP.mpr (Q6c ds [] (.inr (aC hi)))
  have hb:=aP.mpr (Q6c ds [] (.inr (aC hj)))
  have e1:=List.getElem_idxOf ha
  have e2:=List.getElem_idxOf hb
  rw [<- e1,<- e2]
  simp only [h]
 ·rintro rfl;rfl
noncomputable def sp_numbered:D6:=fun rs r=>∃ds,rs=[.bw ds]/\ds.length<=1000000/\(∀d∈ds,Q2 8 d=true/\∃l,d=.tup l)/\r=.nw ((N8 [] ds).map iD)
theorem W4v:∀rs r,rs.length=1->sp_numbered rs r->Z5s (W1 r) (F2 Z0k rs):=by
 rintro rs r _ ⟨ds,rfl,hl,hk,rfl⟩
 unfold Z5s
 rw [W6r]
 refine⟨(by decide:1<2),?_⟩
 simp only [Q4l,C2]
 exact⟨_,rfl,_,rfl,sz hl,hk,by rw [Y0x];rfl⟩
noncomputable def Q7 (b:List Nat):Nat:=b.foldl max 0
theorem Z1q:∀(b:List Nat) (a:Nat),a<=b.foldl max a/\∀x∈b,x<=b.foldl max a
 | [],a=>⟨ah _,fun x h=>by cases h⟩
 | y::b,a=>by
  obtain⟨h1,h2⟩:=Z1q b (max a y)
  refine⟨aR (Nat.le_max_left _ _) h1,fun x hx=>?_⟩
  rcases aj.mp hx with rfl | hx
  ·exact aR (Nat.le_max_right _ _) h1
  ·exact h2 x hx
theorem Z8o:∀(b:List Nat) (a:Nat),b.foldl max a=a\/b.foldl max a∈b
 | [],a=>.inl rfl
 | y::b,a=>by
  rcases Z8o b (max a y)with h | h
  ·rw [List.foldl_cons,h]
   rcases Nat.le_total a y with z | z
   ·rw [Nat.max_eq_right z];exact .inr (by simp)
   ·rw [Nat.max_eq_left z];exact .inl rfl
  ·exact .inr (av _ h)
theorem Q8a {b:List Nat}{x:Nat} (h:x∈b):x<=Q7 b:=(Z1q b 0).2 x h
theorem Q6a {b:List Nat} (h:b≠[]):Q7 b∈b:=by
 unfold Q7
 rcases Z8o b 0 with e | e
 ·cases b with
  | nil=>exact absurd rfl h
  | cons y b =>
   have:=(Z1q (y::b) 0).2 y (by simp)
   rw [e]at this
   have:y=0:=by omega
   rw [e,this];simp
 ·exact e
theorem W0i {b:List Nat}{m:Int} (h:m∈b.map fun(x:Nat)=>(x:Int)) (g:∀n∈b.map fun(x:Nat)=>(x:Int),n<=m):m=(Q7 b:Int):=by
 obtain⟨k,hk,rfl⟩:=aq.mp h
 have h1:=Q8a hk
 have h2:=g _ (aq.mpr ⟨_,Q6a (fun z=>by rw [z]at hk;cases hk),rfl⟩)
 omega
noncomputable def V6 (es:List Bool) (rows:List (List Nat)):List D:=((W5 es rows true).zip (W5 es rows false)).map fun p=>.tup [oD p.1,oD p.2]
noncomputable def Q0j (b:List Nat) (p:Nat×List Nat):D:=.tup [iD p.1,rD (p.2.map fun g=>b.getD g 0)]
noncomputable def Q0b (rows:List (List Nat)) (b:List Nat):List D:=(b.zip rows).map (Q0j b)
noncomputable def K1 (rows:List (List Nat)) (b:List Nat):List Nat:=N8 [] (Q0b rows b)
noncomputable def Q1g (rows:List (List Nat)):Nat->Nat->List Nat->List Nat
 | 0,_,b=>b
 | n+1,many,b=>if many<=Q7 b then Q1g rows n (Q7 b+1) (K1 rows b)else b
noncomputable def E4 (es:List Bool) (rows:List (List Nat)):List Nat:=Q1g rows (es.length+1) 0 (N8 [] (V6 es rows))
structure J3 (n:Nat) (b:List Nat):Prop where
 len:b.length=n
 lt:∀x∈b,x<n
theorem J3.step {n:Nat}{rows:List (List Nat)}{b:List Nat} (h:J3 n b) (hr:rows.length=n):J3 n (K1 rows b):=by
 have e:(Q0b rows b).length=n:=by simp [Q0b,h.len,hr]
 exact⟨by unfold K1;rw [Y0v,e],fun x hx=>by have:=Y0w x hx;rw [e]at this;exact this⟩
theorem J3.zero {es:List Bool}{rows:List (List Nat)}:J3 es.length (N8 [] (V6 es rows)):=by
 have e:(V6 es rows).length=es.length:=by simp [V6,W5]
 exact⟨by rw [Y0v,e],fun x hx=>by have:=Y0w x hx;rw [e]at this;exact this⟩
theorem Y4j {n:Nat}{rows:List (List Nat)} (hr:rows.length=n):∀(k many:Nat) (b:List Nat),J3 n b->J3 n (Q1g rows k many b)
 | 0,many,b,h=>h
 | k+1,many,b,h=>by
  unfold Q1g;split
  ·exact Y4j hr k _ _ (h.step hr)
  ·exact h
theorem Z4k {es:List Bool}{rows:List (List Nat)} (w:Wf es rows):J3 es.length (E4 es rows):=Y4j w.len _ _ _ J3.zero
def wtA:WT:=(A6 (T0 fun i j=>decide (j<=i)) (C8 Q0k (A2 (wV 2) A3)) (wV 3))
def weA:WE:=(A9 (T6 (A2 (A9 (wV 0)) (A2 (A9 (C8 Q9 (A2 (N1 1 [2] (Q5u (wV 1)) (B1 0) O9 (A9 (A6 C1 (wV 1) (wV 0)))) A3))) A3))))
def wlA (sp_numbered:D6):WS:=(B3 (C3 3 (A6 G4 (C8 Q0k (A2 (wV 2) A3)) (wC (.int 1)))) (C3 2 (A9 (M9 sp_numbered (A2 (N1 2 [2] (Q7v (A2 (wV 2) (A2 (wV 1) A3))) (O4 2 (E6 (B1 0) (E6 (B1 1) P6))) O9 weA) A3)))))
theorem W8x {n:Nat}{b:List Nat} (hb:J3 n b) (hn:n<=20000) {p:Nat×List Nat} (hp:p.2.length=4) (hg:∀g∈p.2,g<n) (Q:R->Prop) (h:Q (.st (Q0j b p))):weA (some (.dat (iD p.1))::some (.dat (rD p.2))::[some (.dat (.lst (b.map iD)))]) Q:=by
 unfold weA
 simp only [F1,s_tup,D7,C2,M4,U8,Z3r,D4]
 refine⟨_,rfl,_,rfl,_,rfl,sz (by simp [hp]),?_⟩
 refine Q0w (f:=fun d=>match d with | .int i=>iD (b.getD i.toNat 0) | d=>d) _ _ _ (fun d hd Q' q=>?_) ?_
 ·obtain⟨g,gO,rfl⟩:=aq.mp hd
  have hl:g<b.length:=by rw [hb.len];exact hg g gO
  simp only [F1,F6,C2]
  refine⟨_,rfl,_,rfl,?_⟩
  show C1 (.st (.lst (b.map iD))) (.st (.int (g:Int))) _
  rw [Z3e]
  refine⟨iD (b.getD g 0),Y1 (by rw [ai,au,ac hl];rfl),q⟩
 ·refine⟨_,rfl,_,rfl,sz (by simp),?_⟩
  have e:(p.2.map iD).map (fun d=>match d with | .int i=>iD (b.getD i.toNat 0) | d=>d)=(p.2.map fun g=>b.getD g 0).map iD:=by
   rw [aN,aN]
   exact bb fun g _=>by simp
  show Q (.st (.tup [iD p.1,.tup _]))
  rw [e]
  exact h
theorem Z2s {b:List Nat} (hb:b≠[]) {Q:R->Prop} (h:Q (.st (iD (Q7 b)))):Q0k [.st (.lst (b.map iD))] Q:=by
 rw [W6q]
 refine⟨b.map fun(x:Nat)=>(x:Int),by rw [W1m,aN];rfl,by simpa using hb,fun m h1 h2=>?_⟩
 rw [W0i h1 h2]
 exact h
theorem Y9e (n:Nat) (o:Option Nat):Q2 n (oD o)=true:=by cases o <;> cases n <;> rfl
theorem W0h (b:List Nat) (p:Nat×List Nat):Q2 8 (Q0j b p)=true:=by
 simp [Q0j,Q2]
theorem W8y {es:List Bool}{rows:List (List Nat)} (w:Wf es rows) (hl:es.length<=20000) {E:F3}{o0:Option Sl}:∀(n many:Nat) (b:List Nat),J3 es.length b->es.length+1<=n+many ->
  (∀o3,E.nx [o0,some (.dat (rsD rows)),some (.dat (.lst ((Q1g rows n many b).map iD))),o3]) ->
  K6 wtA (wlA sp_numbered) (n+1) E [o0,some (.dat (rsD rows)),some (.dat (.lst (b.map iD))),some (.dat (iD many))]:=by
 intro n
 induction n with
 | zero =>
  intro many b hb hn h
  have ne:b≠[]:=fun z=>by have h1:=hb.len;rw [z,cb]at h1;have:=w.pos;omega
  have:=hb.lt _ (Q6a ne)
  simp only [K6,wtA,F6,M4,D7,C2,D4]
  refine⟨_,rfl,?_⟩
  refine Z2s ne ⟨_,rfl,?_⟩
  rw [M8,Q1b,aD (by simp;omega)]
  exact h _
 | succ n ih =>
  intro many b hb hn h
  have ne:b≠[]:=fun z=>by have h1:=hb.len;rw [z,cb]at h1;have:=w.pos;omega
  have mx:=hb.lt _ (Q6a ne)
  rw [K6]
  simp only [wtA,F6,M4,D7,C2,D4]
  refine⟨_,rfl,?_⟩
  refine Z2s ne ⟨_,rfl,?_⟩
  rw [M8,Q1b]
  rw [Q1g]at h
  by_cases hm:many<=Q7 b
  ·rw [aI (by simpa using hm)]
   rw [aI hm]at h
   simp only [wlA,L8,O7,F6,M4,D7,C2,D4,J5,F1,W9,U8,W6f]
   refine⟨_,rfl,?_⟩
   refine Z2s ne ?_
   rw [Q1y,Q3]
   refine⟨_,rfl,_,rfl,_,_,_,rfl,rfl,sz (by simp [P3,hb.len];omega),?_⟩
   have ez:P3 (b.map iD) (rows.map rD)=((b.zip rows).map fun p=>(iD p.1,rD p.2)).map fun p=>.tup [p.1,p.2]:=by
    unfold P3
    rw [List.zip_map]
    rfl
   rw [ez]
   refine Z7x (f:=fun d e=>match d,e with | .int i,.tup r=>Q0j b (i.toNat,r.map fun d=>match d with | .int j=>j.toNat | _=>0) | _,_=>.non) _ _ _ _ (fun q hq Q' hQ=>?_) ?_
   ·obtain⟨p,hp,rfl⟩:=aq.mp hq
    have hr:=(dY hp).2
    refine W8x hb hl (w.r4 _ hr) (w.lt _ hr) Q' ?_
    have:(p.2.map iD).map (fun d=>match d with | .int j=>j.toNat | _=>0)=p.2:=by
     rw [aN]
     conv=>rhs;rw [<- List.map_id p.2]
     exact bb fun g _=>by simp
    simp only [this]at hQ
    simpa using hQ
   ·have em:(((b.zip rows).map fun p=>(iD p.1,rD p.2)).map fun p=>(fun d e=>match d,e with | .int i,.tup r=>Q0j b (i.toNat,r.map fun d=>match d with | .int j=>j.toNat | _=>0) | _,_=>D.non) p.1 p.2)=Q0b rows b:=by
     unfold Q0b
     rw [aN]
     refine bb fun p _=>?_
     have:(p.2.map iD).map (fun d=>match d with | .int j=>j.toNat | _=>0)=p.2:=by
      rw [aN]
      conv=>rhs;rw [<- List.map_id p.2]
      exact bb fun g _=>by simp
     simp only [Function.comp,this]
     simp
    rw [em]
    refine⟨rfl,_,⟨Q0b rows b,rfl,?_,fun d hd=>?_,rfl⟩,?_⟩
    ·simp [Q0b,hb.len];omega
    ·obtain⟨p,_,rfl⟩:=aq.mp hd
     exact⟨W0h b p,_,rfl⟩
    ·have e:((Q7 b:Int)+1)=((Q7 b+1:Nat):Int):=by omega
     show K6 wtA (wlA sp_numbered) (n+1) E [_,_,some (.dat (.lst ((K1 rows b).map iD))),some (.dat (.int ((Q7 b:Int)+1)))]
     rw [e]
     exact ih _ _ (hb.step w.len) (by omega) h
  ·rw [aD (by simpa using hm)]
   rw [aD hm]at h
   exact h _
noncomputable def sp_told_apart:G0:=fun rs Pr=>∃ra es rows,rs=[ra,.st (rsD rows)]/\L4 ra es/\Wf es rows/\es.length<=20000/\Pr (.st (.lst ((E4 es rows).map iD)))
theorem W0w:W4 sp_told_apart:=fun rs P Q f ⟨ra,es,rows,e,h1,h2,h3,h4⟩=>⟨ra,es,rows,e,h1,h2,h3,f _ h4⟩
theorem W5c:∀rs Pr,rs.length=2->sp_told_apart rs Pr->Z5v sp_numbered sp_distances (T7 Pr) (F2 Z0m rs):=by
 rintro rs Pr _ ⟨ra,es,rows,rfl,ha,wf,hl,h⟩
 unfold Z5v
 simp only [L8,O7,F1,W9,D7,W6p,Q1c,C2,J5,D4,Z3s]
 refine⟨_,rfl,_,rfl,?_,ra,es,rows,true,?_,ha,wf,hl,?_⟩
 ·show(N6 (Q8 (O1 ra))&&true)=true
  rw [ha.rd,ha.arg];rfl
 ·show [nrm (Q8 (O1 ra)),_,_]=_
  rw [ha.rd,ha.nrm];rfl
 refine⟨_,rfl,_,rfl,?_,ra,es,rows,false,?_,ha,wf,hl,?_⟩
 ·show(N6 (Q8 (O1 ra))&&true)=true
  rw [ha.rd,ha.arg];rfl
 ·show [nrm (Q8 (O1 ra)),_,_]=_
  rw [ha.rd,ha.nrm];rfl
 refine⟨_,_,_,_,rfl,rfl,rfl,rfl,_,⟨V6 es rows,?_,?_,fun d hd=>?_,rfl⟩,?_⟩
 ·have:P3 ((W5 es rows true).map oD) ((W5 es rows false).map oD)=V6 es rows:=by
   unfold P3 V6
   rw [List.zip_map,aN];rfl
  rw [this];rfl
 ·simp [V6,W5];omega
 ·obtain⟨p,_,rfl⟩:=aq.mp hd
  exact⟨by simp [Q2,Y9e],_,rfl⟩
 ·refine⟨es.length+1+1,?_⟩
  refine W8y wf hl (es.length+1) 0 _ J3.zero (by omega) fun o3=>?_
  exact⟨_,rfl,h⟩
noncomputable abbrev D8:=List Bool×List (List Nat)
noncomputable abbrev mD (m:D8):D:=.tup [.tup (m.1.map .bl),rsD m.2]
abbrev F7 (m:D8):Prop:=Wf m.1 m.2
noncomputable def C4 (rows:List (List Nat)) (s c:Nat):Nat:=(rows.getD s []).getD c 0
noncomputable def Q0e:Nat->List Nat->List (Nat×Nat)->List (Nat×Nat)
 | _,[],S=>S
 | n,x::b,S=>Q0e (n+1) b (L5 S x n)
noncomputable def Q0a (rows:List (List Nat)) (b:List Nat) (x c:Nat):Nat:=b.getD (C4 rows (b.idxOf x) c) 0
noncomputable def K5 (es:List Bool) (rows:List (List Nat)):List Nat×List (List Nat):=X3 es.length (Q0a rows (E4 es rows)) ((E4 es rows).getD 0 0)
noncomputable def E8 (es:List Bool) (rows:List (List Nat)):D8:=((K5 es rows).1.map fun x=>es.getD ((E4 es rows).idxOf x) false,(K5 es rows).2)
theorem W5j {rows:List (List Nat)}{s c:Nat}{r:List Nat} (h:rows[s]?=some r) (hc:c<r.length):r[c]?=some (C4 rows s c):=by
 unfold C4
 rw [au,au,h,Option.getD_some,ac hc,Option.getD_some]
theorem Wf.row {es:List Bool}{rows:List (List Nat)} (w:Wf es rows) {s:Nat} (h:s<es.length):∃r,rows[s]?=some r/\r.length=4/\∀c<4,r[c]?=some (C4 rows s c)/\C4 rows s c<es.length:=by
 have h':s<rows.length:=by rw [w.len];exact h
 have e:rows[s]?=some rows[s]:=ac h'
 have m:=br h'
 refine⟨_,e,w.r4 _ m,fun c hc=>?_⟩
 have g:=W5j e (c:=c) (by rw [w.r4 _ m];exact hc)
 exact⟨g,w.lt _ m _ (aC g)⟩
theorem Z1 {c:Nat} (h:c∈B6):c<4:=by
 simp [B6]at h;omega
theorem Z9z {c:Nat} (h:c<4):c∈B6:=by
 simp [B6];omega
theorem Q0y {b:List Nat}{i:Nat} (h:i<b.length):b.getD i 0∈b:=by
 rw [au,ac h];exact br h
theorem Z9y {es:List Bool}{rows:List (List Nat)} (w:Wf es rows) {b:List Nat} (hb:b.length=es.length) {x c:Nat} (hx:x∈b) (hc:c∈B6):Q0a rows b x c∈b:=by
 have hi:=aP.mpr hx
 obtain⟨r,_,_,h⟩:=w.row (s:=b.idxOf x) (by rw [<- hb];exact hi)
 exact Q0y (by rw [hb];exact(h c (Z1 hc)).2)
theorem Q3z {es:List Bool}{rows:List (List Nat)} (w:Wf es rows):Q0s (Q0a rows (E4 es rows)) ((E4 es rows).getD 0 0) (E4 es rows) (K5 es rows).1 (K5 es rows).2:=by
 have B:=Z4k w
 exact Q3l (fun k hk c hc=>Z9y w B.len hk hc) (Q0y (by rw [B.len];exact w.pos)) (Nat.le_of_eq B.len)
theorem Z2j {es:List Bool}{rows:List (List Nat)} (w:Wf es rows):F7 (E8 es rows):=by
 have W:=Q3z w
 have ff:∀r∈(K5 es rows).2,∃k∈(K5 es rows).1,r=B6.map fun c=>(K5 es rows).1.idxOf (Q0a rows (E4 es rows) k c):=fun r hr=>by
  obtain⟨i,hi,rfl⟩:=cc.mp hr
  have fT:i<(K5 es rows).1.length:=by rw [<- W.len];exact hi
  have:=W.row i _ (ac fT)
  rw [ac hi]at this
  exact⟨_,br fT,aB this⟩
 refine⟨?_,?_,fun r hr=>?_,fun r hr x hx=>?_⟩
 ·show(K5 es rows).2.length=((K5 es rows).1.map _).length
  rw [ag];exact W.len
 ·show 0<((K5 es rows).1.map _).length
  rw [ag]
  obtain⟨h,_⟩:=aG.mp W.zero;exact h
 ·obtain⟨k,_,rfl⟩:=ff r hr;rfl
 ·show x<((K5 es rows).1.map _).length
  rw [ag]
  obtain⟨k,hk,rfl⟩:=ff r hr
  obtain⟨c,hc,rfl⟩:=aq.mp hx
  exact aP.mpr (W.mem k hk c hc)
theorem Q7w {es:List Bool}{rows:List (List Nat)} (w:Wf es rows):(E8 es rows).1.length<=es.length:=by
 have W:=Q3z w
 have h:=W.nd.length_le_of_subset fun x hx=>W.sub x hx
 rw [(Z4k w).len]at h
 show((K5 es rows).1.map _).length<=_
 rw [ag];exact h
theorem W0f {S:List (Nat×Nat)}{x n y:Nat}:G5 (L5 S x n) y=if y∈S.map (·.1)then G5 S y else if y=x then some n else none:=by
 have hn:∀{S:List (Nat×Nat)}{y:Nat},y∉S.map (·.1)->S.find? (fun q=>decide (q.1=y))=none:=fun {S y} h=>by
  rw [List.find?_eq_none]
  intro q hq z
  exact h (aq.mpr ⟨q,hq,fI z⟩)
 have hs:∀{S:List (Nat×Nat)}{y:Nat},y∈S.map (·.1)->(S.find? (fun q=>decide (q.1=y))).isSome=true:=fun {S y} h=>by
  rw [List.find?_isSome]
  obtain⟨q,hq,rfl⟩:=aq.mp h
  exact⟨q,hq,by simp⟩
 unfold L5 G5
 by_cases hx:x∈S.map (·.1)
 ·rw [aI hx]
  by_cases hy:y∈S.map (·.1)
  ·rw [aI hy]
  ·rw [aD hy,hn hy,aD (fun z:y=x=>hy (z ▸ hx))];rfl
 ·rw [aD hx,List.find?_append]
  by_cases hy:y∈S.map (·.1)
  ·rw [aI hy]
   have:=hs hy
   cases e:S.find? (fun q=>decide (q.1=y))with
   | none=>rw [e]at this;cases this
   | some q=>rfl
  ·rw [aD hy,hn hy]
   by_cases e:y=x
   ·subst e;simp
   ·rw [aD e]
    have:¬ x=y:=fun z=>e z.symm
    simp [this]
theorem Z2u {S:List (Nat×Nat)}{x n y:Nat}:y∈(L5 S x n).map (·.1) ↔ y∈S.map (·.1)\/y=x:=by
 unfold L5;split
 ·rename_i h
  constructor
  ·exact .inl
  ·rintro (h' | rfl) <;> assumption
 ·simp
theorem Y2v:∀(b:List Nat) (n:Nat) (S:List (Nat×Nat)) (x:Nat),G5 (Q0e n b S) x=if x∈S.map (·.1)then G5 S x else if x∈b then some (n+b.idxOf x)else none
 | [],n,S,x=>by
  rw [Q0e]
  by_cases h:x∈S.map (·.1)
  ·rw [aI h]
  ·rw [aD h,aD (by simp)]
   unfold G5
   rw [List.find?_eq_none.mpr]
   ·rfl
   ·intro q hq z
    exact h (aq.mpr ⟨q,hq,fI z⟩)
 | y::b,n,S,x=>by
  rw [Q0e,Y2v b,W0f]
  by_cases h:x∈S.map (·.1)
  ·rw [aI h,aI (Z2u.mpr (.inl h)),aI h]
  ·by_cases e:x=y
   ·subst e
    rw [aI (Z2u.mpr (.inr rfl))]
    simp [h]
   ·have n1:¬ x∈(L5 S y n).map (·.1):=fun z=>by
     rcases Z2u.mp z with z | z
     ·exact h z
     ·exact e z
    have e':(y==x)=false:=by simpa using fun z=>e z.symm
    rw [aD n1,aD h]
    by_cases hb:x∈b
    ·rw [aI hb,aI (by simp [hb]),List.idxOf_cons,e']
     simp;omega
    ·rw [aD hb,aD (by simp [hb,e])]
theorem Y2w {b:List Nat}{x:Nat} (h:x∈b):C7 (kR (Q0e 0 b [])) (ik x)=some (iD (b.idxOf x)):=by
 have:=Y4y (Q0e 0 b []) x
 rw [Y2v,aD (by simp),aI h,dn]at this
 cases e:C7 (kR (Q0e 0 b [])) (ik x)with
 | none=>rw [e]at this;cases this
 | some d=>rw [e]at this;exact congrArg some this
theorem Y6f (S:List (Nat×Nat)) (x n:Nat):(L5 S x n).length<=S.length+1:=by unfold L5;split <;> simp
theorem forS {E:F3}{o0 o1 o2 o6 o7:Option Sl}:∀(b:List Nat) (n:Nat) (S:List (Nat×Nat)) (o4 o5:Option Sl),S.length+b.length<=1000000 ->
  (∀o4 o5,E.nx [o0,o1,o2,some (.dk (kR (Q0e n b S))),o4,o5,o6,o7]) ->
  C6 (O4 2 (E6 (B1 4) (E6 (B1 5) P6))) (Q9s 3 (wV 5) (wV 4)) E ((b.zipIdx n).map fun p=>.tup [.int (p.2:Int),iD p.1]) [o0,o1,o2,some (.dk (kR S)),o4,o5,o6,o7]
 | [],n,S,o4,o5,_,h=>h o4 o5
 | x::b,n,S,o4,o5,hz,h=>by
  rw [az]at hz
  have hl:=Y6f S x n
  have ih:=forS (E:=E) (o0:=o0) (o1:=o1) (o2:=o2) (o6:=o6) (o7:=o7) b (n+1) (L5 S x n) (some (.dat (iD n))) (some (.dat (iD x))) (by omega) h
  rw [bQ,ao,C6]
  simp only [Q1f,Q1d,L1,Q1e,W6j,C2]
  refine⟨_,rfl,rfl,_,_,rfl,_,_,rfl,rfl,_,rfl,_,rfl,iD x,ik x,rfl,rfl,_,rfl,_,rfl,szl (by simp [K7];omega),?_⟩
  rw [Z9f]
  unfold L5 at ih
  by_cases hx:x∈S.map (·.1)
  ·rw [aI hx]at ih
   rw [aI (by simpa using hx)]
   exact ih
  ·rw [aD hx]at ih
   rw [aD (by simpa using hx)]
   have e:kR S++[(ik x,iD n)]=kR (S++[(x,n)]):=by simp [K7]
   show C6 _ _ _ _ [_,_,_,some (.dk (kR S++[(ik x,iD n)])),_,_,_,_]
   rw [e]
   exact ih
theorem L4.ix {ra:R}{es:List Bool} (h:L4 ra es) {i:Nat} (hi:i<es.length) {Q:R->Prop} (q:Q (.st (.bl (es.getD i false)))):C1 ra (.st (.int (i:Int))) Q:=by
 have e:M7 (es.map D.bl) (i:Int)=some (.bl (es.getD i false)):=Y1 (by rw [ai,au,ac hi];rfl)
 rcases h with rfl | rfl
 ·rw [Q8g];exact⟨_,e,q⟩
 ·rw [Q8h];exact⟨_,e,q⟩
theorem L4.bor {ra:R}{es:List Bool} (h:L4 ra es):Q5i (O1 ra)=some (O1 ra):=by rcases h with rfl | rfl <;> rfl
theorem Z9x {b:List Nat}{i:Nat} (h:i<b.length) {Q:R->Prop} (q:Q (.st (iD (b.getD i 0)))):C1 (.st (.lst (b.map iD))) (.st (.int (i:Int))) Q:=by
 rw [Z3e]
 exact⟨_,Y1 (by rw [ai,au,ac h];rfl),q⟩
noncomputable def sp_least:G0:=fun rs Pr=>∃ra es rows,rs=[ra,.st (rsD rows)]/\L4 ra es/\Wf es rows/\es.length<=20000/\Pr (.st (mD (E8 es rows)))
theorem Y0o:W4 sp_least:=fun rs P Q f ⟨ra,es,rows,e,h1,h2,h3,h4⟩=>⟨ra,es,rows,e,h1,h2,h3,f _ h4⟩
theorem Y9l {K:Fg9}{a:Addr}{es:List Bool}{rows:List (List Nat)} (w:Wf es rows) {b:List Nat} (hb:b.length=es.length) {x c:Nat} (hx:x∈b) (hc:c∈B6) :
  P8 (Q9x K) [.cl a (N4 K a (kR (Q0e 0 b []))),.dat (rsD rows),.dat (.lst (b.map iD))] [.st (iD x),.st (iD c)] (.st (iD (Q0a rows b x c))):=by
 have hi:b.idxOf x<es.length:=by rw [<- hb];exact aP.mpr hx
 obtain⟨r,_,_,h3⟩:=w.row hi
 refine⟨[iD x,iD c],iD (Q0a rows b x c),rfl,rfl,?_⟩
 unfold Q9x
 simp only [F6,C2,Y2j]
 refine⟨_,rfl,_,rfl,a,_,rfl,_,rfl,iD x,ik x,_,rfl,rfl,Y2w hx,?_⟩
 obtain⟨r,h1,h2,h3⟩:=w.row hi
 rw [M8,Q8h]
 refine⟨rD r,Y1 (by rw [ai,h1];rfl),_,rfl,?_⟩
 rw [M8,Q8h]
 refine⟨iD (C4 rows (b.idxOf x) c),Y1 (by rw [ai,(h3 c (Z1 hc)).1];rfl),?_⟩
 exact Z9x (by rw [hb];exact(h3 c (Z1 hc)).2) rfl
theorem W4s {FC:E3}{K:Fg9}:∀rs Pr,rs.length=2->sp_least rs Pr->Z5q FC K sp_told_apart (sp_walkedK FC) (T7 Pr) (F2 Z0j rs):=by
 rintro rs Pr _ ⟨ra,es,rows,rfl,ha,wf,hl,h⟩
 have B:=Z4k wf
 have W:=Q3z wf
 have kw:0<(E4 es rows).length:=by rw [B.len];exact wf.pos
 unfold Z5q
 simp only [L8,O7,F1,Q1c,D7,C2,D4,W6h,W5w,T3,W5y,Q8p,W5s,F6,J5,X0,s_tup,M4,U8,Q4l,Q1f,Q1d,L1,Q1e]
 refine⟨_,rfl,_,rfl,?_,ra,es,rows,?_,ha,wf,hl,?_⟩
 ·show(N6 (Q8 (O1 ra))&&true)=true
  rw [ha.rd,ha.arg];rfl
 ·show [nrm (Q8 (O1 ra)),_]=_
  rw [ha.rd,ha.nrm];rfl
 refine⟨_,rfl,_,rfl,?_⟩
 have e3:G9 ((E4 es rows).map iD)=((E4 es rows).zipIdx 0).map fun p=>.tup [.int (p.2:Int),iD p.1]:=by
  unfold G9;rw [List.zipIdx_map,aN];rfl
 rw [e3]
 refine forS (E4 es rows) 0 [] none none (by simp [B.len];omega) fun o4 o5=>?_
 refine⟨_,rfl,fun a=>?_⟩
 refine⟨_,rfl,?_⟩
 rw [M8]
 refine Z9x (i:=0) kw ?_
 refine⟨rfl,_,⟨_,_,rfl,rfl,N4.hid,_,_,rfl,rfl,trivial,_,_,rfl,rfl,trivial,rfl⟩,fun f Φ hF=>?_⟩
 refine⟨_,⟨Nat,inferInstance,iD,ik,Q0a rows (E4 es rows),(E4 es rows).getD 0 0,E4 es rows,f,Φ,_,fun _=>rfl,Q2u,rfl,hF,Q0y kw,by rw [B.len];omega,fun k hk c hc=>⟨Z9y wf B.len hk hc,Y9l wf B.len hk hc⟩,rfl⟩,?_⟩
 have eW:X3 (E4 es rows).length (Q0a rows (E4 es rows)) ((E4 es rows).getD 0 0)=K5 es rows:=by unfold K5;rw [B.len]
 rw [eW]
 refine⟨_,rfl,_,rfl,rfl,_,_,rfl,_,_,rfl,rfl,_,rfl,_,rfl,?_,?_⟩
 ·have gb:=Q7w wf
  have:(E8 es rows).1.length=(K5 es rows).1.length:=by simp [E8]
  exact sz (by rw [ag];omega)
 show G8 (B1 0) O9 _ _ [none,Q5i (O1 ra),some (.cl a (N4 K a (kR (Q0e 0 (E4 es rows) []))))] _
 rw [ha.bor]
 refine Q0w (f:=fun d=>match d with | .int i=>.bl (es.getD ((E4 es rows).idxOf i.toNat) false) | d=>d) (rest:=[some (O1 ra),some (.cl a (N4 K a (kR (Q0e 0 (E4 es rows) []))))]) _ _ _ (fun d hd Q' q=>?_) ?_
 ·obtain⟨x,hx,rfl⟩:=aq.mp hd
  have nN:=W.sub x hx
  simp only [F1,F6,C2,Y2j]
  refine⟨_,rfl,a,_,rfl,_,rfl,iD x,ik x,_,rfl,rfl,Y2w nN,?_⟩
  rw [ha.rd]
  exact ha.ix (by rw [<- B.len];exact aP.mpr nN) (by simpa using q)
 ·rw [Q2a]
  refine⟨_,rfl,_,rfl,_,rfl,sz (by simp),?_⟩
  have e:((K5 es rows).1.map fun a=>iD a).map (fun d=>match d with | .int i=>D.bl (es.getD ((E4 es rows).idxOf i.toNat) false) | d=>d)=(E8 es rows).1.map .bl:=by
   unfold E8
   rw [aN,aN]
   exact bb fun x _=>by simp
  show Pr (.st (.tup [.tup _,_]))
  rw [e]
  exact h
section
variable {α:Type} [DecidableEq α]
noncomputable def Q5j (U:List α) (step:α->Nat->α) (start:α) (fin:α->Bool):D8:=((X3 U.length step start).1.map fin,(X3 U.length step start).2)
noncomputable def Z7j (U:List α) (step:α->Nat->α) (start:α) (fin:α->Bool):D8:=E8 (Q5j U step start fin).1 (Q5j U step start fin).2
theorem Q0s.wf {step:α->Nat->α}{start:α}{U ks:List α}{rs:List (List Nat)} (W:Q0s step start U ks rs) (fin:α->Bool):Wf (ks.map fin) rs:=by
 have ff:∀r∈rs,∃k∈ks,r=B6.map fun c=>ks.idxOf (step k c):=fun r hr=>by
  obtain⟨i,hi,rfl⟩:=cc.mp hr
  have fT:i<ks.length:=by rw [<- W.len];exact hi
  have:=W.row i _ (ac fT)
  rw [ac hi]at this
  exact⟨_,br fT,aB this⟩
 refine⟨by rw [ag];exact W.len,?_,fun r hr=>?_,fun r hr x hx=>?_⟩
 ·rw [ag]
  obtain⟨h,_⟩:=aG.mp W.zero;exact h
 ·obtain⟨k,_,rfl⟩:=ff r hr;rfl
 ·rw [ag]
  obtain⟨k,hk,rfl⟩:=ff r hr
  obtain⟨c,hc,rfl⟩:=aq.mp hx
  exact aP.mpr (W.mem k hk c hc)
theorem Q0s.le {step:α->Nat->α}{start:α}{U ks:List α}{rs:List (List Nat)} (W:Q0s step start U ks rs):ks.length<=U.length:=W.nd.length_le_of_subset fun x hx=>W.sub x hx
end
noncomputable def sp_built (FC:E3):G0:=fun rs Pr=>∃(α:Type) (_:DecidableEq α) (ts:α->List D) (key:α->List A7) (step:α->Nat->α) (start:α) (fin:α->Bool) (U:List α) (f f2:Addr) (Φ Φ2:Hp->Prop) (sp fZ:D6),
 (∀a,O5 (ts a)=some (key a))/\(∀a b,key a=key b->a=b)/\rs=[.st (.tup (ts start)),.cl f Φ,.cl f2 Φ2]/\FC 2 f Φ sp/\FC 1 f2 Φ2 fZ/\start∈U/\U.length<=20000/\(∀k∈U,∀c∈B6,step k c∈U/\sp [.st (.tup (ts k)),.st (iD c)] (.st (.tup (ts (step k c))))) /\
 (∀k∈U,fZ [.st (.tup (ts k))] (.st (.bl (fin k))))/\Pr (.st (mD (Z7j U step start fin)))
theorem W0r {FC:E3}:W4 (sp_built FC):=fun rs P Q g ⟨α,i,ts,key,step,pz,fin,U,f,f2,Φ,Φ2,sp,fZ,h1,h2,h3,h4,h5,h6,h7,h8,h9,rc⟩=>⟨α,i,ts,key,step,pz,fin,U,f,f2,Φ,Φ2,sp,fZ,h1,h2,h3,h4,h5,h6,h7,h8,h9,g _ rc⟩
theorem Z7u {α:Type}{FC:E3}{f2:Addr} {Φ2:Hp->Prop}{fZ:D6}{ts:α->List D}{fin:α->Bool} (hF:FC 1 f2 Φ2 fZ) {Q:List D->Prop}:∀(ks:List α) (o:Option Sl),(∀k∈ks,fZ [.st (.tup (ts k))] (.st (.bl (fin k))))->Q ((ks.map fin).map .bl) ->
  G8 (B1 0) O9 (A9 (Q1h FC 1 1 (A2 (wV 0) A3))) (ks.map fun a=>.tup (ts a)) [o,some (.cl f2 Φ2)] Q
 | [],o,_,h=>h
 | k::ks,o,hs,h=>by
  rw [ao,G8]
  simp only [L1,Y2u,F1,Q8q,D7,C2,D4,if_true]
  refine⟨f2,Φ2,fZ,rfl,hF,_,rfl,rfl,_,hs k (by simp),_,rfl,?_⟩
  exact Z7u hF ks _ (fun k h=>hs k (by simp [h])) h
theorem W4l {FC:E3}:∀rs Pr,rs.length=3->sp_built FC rs Pr->Z5h FC (sp_walked FC) sp_least (T7 Pr) (F2 Z0h rs):=by
 rintro rs Pr _ ⟨α,_,ts,key,step,start,fin,U,f,f2,Φ,Φ2,sp,fZ,hk,inj,rfl,hF,mV,hs,hl,hU,qT,h⟩
 have W:=Q3l (step:=step) (N:=U.length) (fun k h c hc=>(hU k h c hc).1) hs (ah _)
 have gb:=W.le
 unfold Z5h
 simp only [L8,Q8p,W9,D7,C2,D4,X0,Q1c,U8,Q4l,Q1f,Q1d,L1,Q1e]
 refine⟨_,rfl,_,rfl,rfl,_,⟨α,inferInstance,ts,key,step,start,U,f,Φ,sp,hk,inj,rfl,hF,hs,by omega,hU,rfl⟩,?_⟩
 refine⟨_,rfl,_,rfl,rfl,_,_,rfl,_,_,rfl,rfl,_,rfl,_,rfl,sz (by rw [ag];omega),?_⟩
 refine Z7u (fin:=fin) mV _ none (fun k hk=>qT k (W.sub k hk)) ?_
 refine⟨_,rfl,rfl,_,_,_,rfl,.inl rfl,W.wf fin,by rw [ag];omega,h⟩
noncomputable abbrev pT (p:Nat×Nat):List D:=[iD p.1,iD p.2]
noncomputable abbrev pK (p:Nat×Nat):List A7:=[ik p.1,ik p.2]
theorem Z3g (a b:Nat×Nat) (h:pK a=pK b):a=b:=by
 have h1:=(List.cons.inj h).1
 have h2:=(List.cons.inj (List.cons.inj h).2).1
 exact Prod.ext (Q2u _ _ h1) (Q2u _ _ h2)
noncomputable def Y8 (m1 m2:D8) (p:Nat×Nat) (c:Nat):Nat×Nat:=(C4 m1.2 p.1 c,C4 m2.2 p.2 c)
noncomputable def Q3e (g:Bool->Bool->Bool) (m1 m2:D8) (p:Nat×Nat):Bool:=g (m1.1.getD p.1 false) (m2.1.getD p.2 false)
noncomputable def L7 (n1 n2:Nat):List (Nat×Nat):=(List.range n1).flatMap fun i=>(List.range n2).map fun j=>(i,j)
theorem Q0c {n1 n2:Nat}{p:Nat×Nat}:p∈L7 n1 n2 ↔ p.1<n1/\p.2<n2:=by
 unfold L7
 simp only [List.mem_flatMap,bz,aq]
 constructor
 ·rintro ⟨i,hi,j,hj,rfl⟩;exact⟨hi,hj⟩
 ·rintro ⟨h1,h2⟩;exact⟨p.1,h1,p.2,h2,rfl⟩
theorem Q6g (n1 n2:Nat):(L7 n1 n2).length=n1*n2:=by
 have:∀(l:List Nat),(l.map fun _=>n2).sum=l.length*n2:=by
  intro l;induction l with
  | nil=>simp
  | cons a l ih=>rw [ao,List.sum_cons,ih,az,Nat.succ_mul];omega
 simp [L7,List.length_flatMap,this]
noncomputable def PU (m1 m2:D8):List (Nat×Nat):=L7 m1.1.length m2.1.length
theorem Q4f {m1 m2:D8} (w1:F7 m1) (w2:F7 m2) {p:Nat×Nat} (h:p∈PU m1 m2) {c:Nat} (hc:c∈B6):Y8 m1 m2 p c∈PU m1 m2:=by
 obtain⟨h1,h2⟩:=Q0c.mp h
 obtain⟨_,_,_,g1⟩:=w1.row h1
 obtain⟨_,_,_,g2⟩:=w2.row h2
 exact Q0c.mpr ⟨(g1 c (Z1 hc)).2,(g2 c (Z1 hc)).2⟩
def Z6s (m1 m2:D8) (sp:D6):Prop:=∀p∈PU m1 m2,∀c∈B6,sp [.st (.tup (pT p)),.st (iD c)] (.st (.tup (pT (Y8 m1 m2 p c))))
def EndP (g:Bool->Bool->Bool) (m1 m2:D8) (sp:D6):Prop:=∀p∈PU m1 m2,sp [.st (.tup (pT p))] (.st (.bl (Q3e g m1 m2 p)))
def Q2l (g:Bool->Bool->Bool) (sp:D6):Prop:=∀x y:Bool,sp [.st (.bl x),.st (.bl y)] (.st (.bl (g x y)))
noncomputable def sp_pair_step (FC:E3):G0:=fun rs Pr=>∃m1 m2,rs=[.st (mD m1),.st (mD m2)]/\F7 m1/\F7 m2/\∀f Φ sp,FC 2 f Φ sp->Z6s m1 m2 sp->Pr (.cl f Φ)
theorem W0v {FC:E3}:W4 (sp_pair_step FC):=fun rs P Q g ⟨m1,m2,e,h1,h2,h3⟩=>⟨m1,m2,e,h1,h2,fun f Φ sp a b=>g _ (h3 f Φ sp a b)⟩
noncomputable def sp_pair_end (cN dG:E3):G0:=fun rs Pr=>∃m1 m2 f Φ sp g,rs=[.st (mD m1),.st (mD m2),.cl f Φ]/\F7 m1/\F7 m2/\cN 2 f Φ sp/\Q1m Φ/\Q2l g sp/\∀f' Φ' jd,dG 1 f' Φ' jd->EndP g m1 m2 jd->Pr (.cl f' Φ')
theorem W0u {cN dG:E3}:W4 (sp_pair_end cN dG):=fun rs P Q q ⟨m1,m2,f,Φ,sp,g,e,h1,h2,h3,h4,h5,h6⟩=>⟨m1,m2,f,Φ,sp,g,e,h1,h2,h3,h4,h5,fun f' Φ' jd a b=>q _ (h6 f' Φ' jd a b)⟩
theorem J6 {b:List D}{i:Nat}{d:D} (h:b[i]?=some d) {Q:R->Prop} (q:Q (.st d)):C1 (.st (.tup b)) (.st (.int (i:Int))) Q:=by
 rw [Q8h];exact⟨_,Y1 h,q⟩
theorem Y9n {m1 m2:D8} (w1:F7 m1) (w2:F7 m2):Z6s m1 m2 (P8 Q9z [.dat (rsD m1.2),.dat (rsD m2.2)]):=by
 rintro ⟨i,j⟩ hp c hc
 obtain⟨h1,h2⟩:=Q0c.mp hp
 refine⟨[.tup (pT (i,j)),iD c],_,rfl,rfl,?_⟩
 unfold Q9z
 simp only [s_tup,D7,F1,F6,C2,J5,D4]
 refine⟨_,rfl,_,rfl,J6 (i:=0) rfl ?_⟩
 obtain⟨r,g1,_,g2⟩:=w1.row h1
 refine J6 (i:=i) (d:=rD r) (by rw [ai,g1];rfl) ⟨_,rfl,?_⟩
 refine J6 (i:=c) (d:=iD (C4 m1.2 i c)) (by rw [ai,(g2 c (Z1 hc)).1];rfl) ?_
 refine⟨_,rfl,_,rfl,J6 (i:=1) rfl ?_⟩
 obtain⟨r,g1,_,g2⟩:=w2.row h2
 refine J6 (i:=j) (d:=rD r) (by rw [ai,g1];rfl) ⟨_,rfl,?_⟩
 refine J6 (i:=c) (d:=iD (C4 m2.2 j c)) (by rw [ai,(g2 c (Z1 hc)).1];rfl) ?_
 exact⟨_,rfl,sz (by simp),rfl⟩
theorem W4y {FC:E3}:∀rs Pr,rs.length=2->sp_pair_step FC rs Pr->Q4w FC 2 [("rows",2),("other_rows",3)] Q9z Z4p Z4q Pr (F2 Z6o rs):=by
 rintro rs Pr _ ⟨m1,m2,rfl,w1,w2,h⟩
 unfold Q4w Z4p Z4q
 simp only [O7,F6,C2,J5]
 refine⟨_,rfl,J6 (i:=1) rfl ?_⟩
 rw [Q3]
 refine⟨_,rfl,J6 (i:=1) rfl ?_⟩
 rw [Q3]
 exact⟨_,⟨_,_,rfl,rfl,trivial,_,_,rfl,rfl,trivial,rfl⟩,fun f Φ hF=>h f Φ _ hF (Y9n w1 w2)⟩
theorem Q5h {es:List Bool}{i:Nat} (h:i<es.length):(es.map D.bl)[i]?=some (.bl (es.getD i false)):=by
 rw [ai,au,ac h];rfl
theorem Y9m {cN:E3}{m1 m2:D8}{f:Addr} {Φ:Hp->Prop}{sp:D6}{g:Bool->Bool->Bool} (hF:cN 2 f Φ sp) (ht:Q2l g sp):EndP g m1 m2 (P8 (Q9y cN) [.dat (.tup (m2.1.map .bl)),.cl f Φ,.dat (.tup (m1.1.map .bl))]):=by
 rintro ⟨i,j⟩ hp
 obtain⟨h1,h2⟩:=Q0c.mp hp
 refine⟨[.tup (pT (i,j))],_,rfl,rfl,?_⟩
 unfold Q9y
 simp only [Q8q,D7,F6,C2,J5,D4]
 refine⟨f,Φ,sp,rfl,hF,_,rfl,_,rfl,J6 (i:=0) rfl ?_⟩
 refine J6 (i:=i) (Q5h h1) ?_
 refine⟨_,rfl,_,rfl,J6 (i:=1) rfl ?_⟩
 refine J6 (i:=j) (Q5h h2) ?_
 exact⟨rfl,_,ht _ _,rfl⟩
theorem W4x {cN dG:E3}:∀rs Pr,rs.length=3->sp_pair_end cN dG rs Pr->Q4w dG 1 [("other_ends",4),("is_end",2),("ends",3)] (Q9y cN) Z4o w2_pair_end Pr (F2 Z6n rs):=by
 rintro rs Pr _ ⟨m1,m2,f,Φ,sp,g,rfl,w1,w2,hF,hH,ht,h⟩
 unfold Q4w Z4o w2_pair_end
 simp only [O7,F6,C2,J5]
 refine⟨_,rfl,J6 (i:=0) rfl ?_⟩
 rw [Q3]
 refine⟨_,rfl,J6 (i:=0) rfl ?_⟩
 rw [Q3]
 exact⟨_,⟨_,_,rfl,rfl,trivial,_,_,rfl,rfl,hH,_,_,rfl,rfl,trivial,rfl⟩,fun f' Φ' hF'=>h f' Φ' _ hF' (Y9m hF ht)⟩
noncomputable def W0 (g:Bool->Bool->Bool) (m1 m2:D8):D8:=Z7j (PU m1 m2) (Y8 m1 m2) (0,0) (Q3e g m1 m2)
noncomputable def Q0o (cN:E3):G0:=fun rs Pr=>∃m1 m2 f Φ sp g,rs=[.st (mD m1),.st (mD m2),.cl f Φ]/\F7 m1/\F7 m2/\m1.1.length*m2.1.length<=20000/\cN 2 f Φ sp/\Q1m Φ/\Q2l g sp/\Pr (.st (mD (W0 g m1 m2)))
theorem Z3a {cN:E3}:W4 (Q0o cN):=fun rs P Q q ⟨m1,m2,f,Φ,sp,g,e,h1,h2,h3,h4,h5,h6,h7⟩=>⟨m1,m2,f,Φ,sp,g,e,h1,h2,h3,h4,h5,h6,q _ h7⟩
theorem Q4x {m1 m2:D8} (w1:F7 m1) (w2:F7 m2):(0,0)∈PU m1 m2:=Q0c.mpr ⟨w1.pos,w2.pos⟩
theorem Z3t {g:Bool->Bool->Bool}{m1 m2:D8} (w1:F7 m1) (w2:F7 m2):F7 (W0 g m1 m2) :=
 Z2j ((Q3l (step:=Y8 m1 m2) (N:=(PU m1 m2).length) (fun k h c hc=>Q4f w1 w2 h hc) (Q4x w1 w2) (ah _)).wf _)
theorem W7a {g:Bool->Bool->Bool}{m1 m2:D8} (w1:F7 m1) (w2:F7 m2):(W0 g m1 m2).1.length<=m1.1.length*m2.1.length:=by
 have W:=Q3l (step:=Y8 m1 m2) (N:=(PU m1 m2).length) (fun k h c hc=>Q4f w1 w2 h hc) (Q4x w1 w2) (ah _)
 have h1:=Q7w (W.wf (Q3e g m1 m2))
 have h2:=W.le
 rw [ag]at h1
 have h3:(PU m1 m2).length=m1.1.length*m2.1.length:=Q6g _ _
 exact aR h1 (h3 ▸ h2)
theorem W4z {cN dG:E3}:∀rs Pr,rs.length=3->Q0o cN rs Pr->Z5u (sp_built dG) (sp_pair_step dG) (sp_pair_end cN dG) (T7 Pr) (F2 Z6p rs):=by
 rintro rs Pr _ ⟨m1,m2,f,Φ,sp,g,rfl,w1,w2,hl,hF,hH,ht,h⟩
 unfold Z5u
 simp only [X0,Q1c,D7,s_tup,F1,J5,D4,C2]
 refine⟨_,rfl,sz (by simp),_,rfl,_,rfl,rfl,m1,m2,rfl,w1,w2,fun f1 Φ1 sp1 r8 m9=>?_⟩
 refine⟨_,rfl,_,rfl,_,rfl,rfl,m1,m2,f,Φ,sp,g,rfl,w1,w2,hF,hH,ht,fun f2 Φ2 fZ mV ku=>?_⟩
 refine⟨rfl,Nat×Nat,inferInstance,pT,pK,Y8 m1 m2,(0,0),Q3e g m1 m2,PU m1 m2,f1,f2,Φ1,Φ2,sp1,fZ,fun _=>rfl,Z3g,rfl,r8,mV,Q4x w1 w2,by unfold PU;rw [Q6g];exact hl,fun k hk c hc=>⟨Q4f w1 w2 hk hc,m9 k hk c hc⟩,ku,h⟩
section
variable {α:Type} [DecidableEq α]
section T
variable {FC:E3}{f f2:Addr} {Φ Φ2:Hp->Prop}{sp fZ:D6}{step:α->Nat->α}{fin:α->Bool}{ts:α->List D}{key:α->List A7}
end T
end
noncomputable abbrev Q2r (x y:Bool):Bool:=x&&!y
noncomputable abbrev Q2q (x y:Bool):Bool:=x&&y
noncomputable abbrev gOr (x y:Bool):Bool:=x||y
structure Two (m1 m2:D8):Prop where
 w1:F7 m1
 w2:F7 m2
 le:m1.1.length*m2.1.length<=20000
theorem W8h:Q2l gOr (P8 Q6x []):=by
 intro x y
 refine⟨[.bl x,.bl y],_,rfl,rfl,?_⟩
 cases x <;> cases y <;> simp [Q6x]
theorem W8g:Q2l Q2q (P8 Q6w []):=by
 intro x y
 refine⟨[.bl x,.bl y],_,rfl,rfl,?_⟩
 cases x <;> cases y <;> simp [Q6w]
noncomputable def spS (g:Bool->Bool->Bool):G0:=fun rs Pr=>∃m1 m2,rs=[.st (mD m1),.st (mD m2)]/\Two m1 m2/\Pr (.st (mD (W0 g m1 m2)))
theorem Z2z {g:Bool->Bool->Bool}:W4 (spS g):=fun rs P Q q ⟨m1,m2,e,h1,h2⟩=>⟨m1,m2,e,h1,q _ h2⟩
theorem Z3l {cN:E3}{g:Bool->Bool->Bool}{wl:WE} (ht:Q2l g (P8 wl [])):∀rs Pr,rs.length=2->spS g rs Pr->(N3 (Q4 (Q0o cN) (A2 (wV 0) (A2 (wV 1) (A2 (Q4u cN 2 (P8 wl [])) A3))))) (T7 Pr) (F2 ["one","other"] rs):=by
 rintro rs Pr _ ⟨m1,m2,rfl,h2,h⟩
 simp only [X0,Q1c,D7,D4,C2,W6k]
 refine⟨_,rfl,_,rfl,fun f Φ hF hH=>?_⟩
 exact⟨rfl,m1,m2,f,Φ,_,g,rfl,h2.w1,h2.w2,h2.le,hF,hH,ht,h⟩
theorem W4p {cN:E3}:∀rs Pr,rs.length=2->spS gOr rs Pr->Y5b cN (Q0o cN) (T7 Pr) (F2 Z6h rs):=Z3l W8h
theorem W4k {cN:E3}:∀rs Pr,rs.length=2->spS Q2q rs Pr->Y5a cN (Q0o cN) (T7 Pr) (F2 Z6g rs):=Z3l W8g
noncomputable abbrev scr (ns:List Int):D:=.lst (ns.map D.int)
noncomputable def Q0v (ns:List Int) (k:Int):Int:=if ns=[]then 7*k else(ns[(k % (ns.length:Int)).toNat]?.getD 0)+6553*(k / (ns.length:Int))
noncomputable def Q6j:D6:=fun rs r=>∃ns k,rs=[.st (scr ns),.st (.int k)]/\ns.length<=63/\r=.st (.int (Q0v ns k))
theorem Y7u (ns:List Int):D.depth (scr ns)<=60:=by
 have:D.depths (ns.map D.int)=0:=by
  induction ns with
  | nil=>simp [D.depths]
  | cons n r ih=>simp [D.depths,D.depth,ih]
 simp [D.depth,this]
theorem Y6n {ns:List Int}{k:Int} (h:ns≠[]):M7 (ns.map D.int) (k % (ns.length:Int))=some (.int (ns[(k % (ns.length:Int)).toNat]?.getD 0)):=by
 have hp:0<(ns.length:Int):=by have:=List.length_pos_iff.mpr h;omega
 have h0:=iR k (by omega:(ns.length:Int)≠0)
 have h1:=eT k hp
 have bR:(k % (ns.length:Int)).toNat<ns.length:=by omega
 have e:k % (ns.length:Int)=(((k % (ns.length:Int)).toNat:Nat):Int):=by omega
 have q:M7 (ns.map D.int) (((k % (ns.length:Int)).toNat:Nat):Int)=some (.int (ns[(k % (ns.length:Int)).toNat]?.getD 0)):=Y1 (by rw [ai,ac bR];rfl)
 rw [<- e]at q
 exact q
theorem W4m:∀rs r,rs.length=2->Q6j rs r->Q9w (W1 r) (F2 Z6j rs):=by
 rintro rs r _ ⟨ns,k,rfl,hn,rfl⟩
 have hd:=Y7u ns
 by_cases h:ns=[]
 ·subst h
  simp [Q9w,Q1i,Q0v,hd,D.depth,D.depths]
 ·have hp:0<(ns.length:Int):=by have:=List.length_pos_iff.mpr h;omega
  simp [Q9w,Q1i,Q0f,Q0v,hd,h,Y6n h]
  omega
noncomputable def W6 (ns:List Int) (k m:Int):Int :=
 let c:=((Q0v ns k) % 2147483563*69069+104723*(k+1)) % 2147483563
 let c:=(c*c+c / 3) % 2147483399
 (c*c+c / 7) % 2147483647 / 11 % m
noncomputable def Q6k:D6:=fun rs r=>∃ns k m,rs=[.st (scr ns),.st (.int k),.st (.int m)]/\ns.length<=63/\0<m/\r=.st (.int (W6 ns k m))
theorem W4o:∀rs r,rs.length=3->Q6k rs r->Z5l Q6j (W1 r) (F2 Z6k rs):=by
 rintro rs r _ ⟨ns,k,m,rfl,hn,hm,rfl⟩
 have key:∀c:Int,0<=c->c<2147483648->Q1i c c:=fun c h1 h2=>.inl ⟨by omega,by omega⟩
 simp [Z5l,Q6j,hm,hn]
 refine⟨_,⟨ns,k,⟨rfl,rfl⟩,hn,rfl⟩,?_⟩
 have e1:=iR (Q0v ns k) (by decide:(2147483563:Int)≠0)
 have e2:=eT (Q0v ns k) (by decide:(0:Int)<2147483563)
 have b1:=iR (Q0v ns k % 2147483563*69069+104723*(k+1)) (by decide:(2147483563:Int)≠0)
 have b2:=eT (Q0v ns k % 2147483563*69069+104723*(k+1)) (by decide:(0:Int)<2147483563)
 simp only [W1l,Y1b,Q1y,Q3,M8,W1p,W1j,W6]
 generalize (Q0v ns k % 2147483563*69069+104723*(k+1)) % 2147483563=c at b1 b2 ⊢
 have b3:=iR (c*c+c / 3) (by decide:(2147483399:Int)≠0)
 have b4:=eT (c*c+c / 3) (by decide:(0:Int)<2147483399)
 generalize (c*c+c / 3) % 2147483399=c2 at b3 b4 ⊢
 have cd:∀c:Int,Q0f c 3/\Q0f c 7/\Q0f c 11:=fun c=>⟨⟨by decide,by decide⟩,⟨by decide,by decide⟩,⟨by decide,by decide⟩⟩
 exact⟨by decide,.inl ⟨by omega,by omega⟩,.inl ⟨by decide,by decide⟩,by decide,key _ b1 (by omega),(cd c).1,by decide,key _ b3 (by omega),(cd c2).2.1,by decide,(cd _).2.2,hm,trivial⟩
theorem Y7y (ns:List Int) (k:Int) {m:Int} (h:0<m):0<=W6 ns k m:=iR _ (by omega)
theorem Y7x (ns:List Int) (k:Int) {m:Int} (h:0<m):W6 ns k m<m:=eT _ h
noncomputable def drN (ns:List Int) (k:Int) (m:Nat):Nat:=(W6 ns k (m:Int)).toNat
theorem Z1m (ns:List Int) (k:Int) {m:Nat} (h:0<m):W6 ns k (m:Int)=(drN ns k m:Int):=by
 have:=Y7y ns k (m:=(m:Int)) (by omega)
 unfold drN;omega
theorem Z1n (ns:List Int) (k:Int) {m:Nat} (h:0<m):drN ns k m<m:=by
 have:=Y7x ns k (m:=(m:Int)) (by omega)
 have:=Z1m ns k h
 omega
noncomputable def S3 (ns:List Int) (at_:Int) (most:Nat):Nat:=1+drN ns at_ most
noncomputable def O6 (ns:List Int) (at_:Int) (most:Nat):D8 :=
 ((List.range (S3 ns at_ most)).map fun(k:Nat)=>decide (W6 ns (at_+1+(k:Int)) 2=0),(List.range (S3 ns at_ most)).map fun(k:Nat)=>B6.map fun(j:Nat)=>drN ns (at_+7+4*(k:Int)+(j:Int)) (S3 ns at_ most))
theorem Z2q (ns:List Int) (at_:Int) (most:Nat):(O6 ns at_ most).1.length=S3 ns at_ most:=by simp [O6]
theorem Y0a (ns:List Int) (at_:Int) {most:Nat} (h:0<most):(O6 ns at_ most).1.length<=most:=by
 rw [Z2q];unfold S3;have:=Z1n ns at_ h;omega
theorem Y0b (ns:List Int) (at_:Int) {most:Nat} (h:0<most):F7 (O6 ns at_ most):=by
 have hp:0<S3 ns at_ most:=by unfold S3;omega
 refine⟨by simp [O6],by rw [Z2q];exact hp,fun r hr=>?_,fun r hr x hx=>?_⟩
 ·obtain⟨k,_,rfl⟩:=aq.mp hr;rfl
 ·obtain⟨k,_,rfl⟩:=aq.mp hr
  obtain⟨j,_,rfl⟩:=aq.mp hx
  rw [Z2q];exact Z1n ns _ hp
theorem Y2f (ns:List Int) (hn:ns.length<=63) (at_:Int) {n:Nat} (h0:0<n) {E:F3}{o2 o4:Option Sl}:∀(l:List Nat) (ds:List D) (o6:Option Sl),ds.length+l.length<=1000 ->
  (∀o6,E.nx [some (.dat (scr ns)),some (.dat (.int at_)),o2,some (.dat (iD n)),o4,some (.own (ds++l.map fun(k:Nat)=>rD (B6.map fun(j:Nat)=>drN ns (at_+7+4*(k:Int)+(j:Int)) n))),o6]) ->
  C6 (B1 6) (S7 5 (A9 (C8 Q9 (A2 (N1 1 [0,3,1,6] (Q5t (A2 (wC (.int 4)) A3)) (B1 0) O9 (A9 (M9 Q6k (A2 (wV 1) (A2 (A6 G4 (A6 G4 (A6 G4 (wV 3) (wC (.int 7))) (A6 V7 (wC (.int 4)) (wV 4))) (wV 0)) (A2 (wV 2) A3)))))) A3))))
   E (l.map iD) [some (.dat (scr ns)),some (.dat (.int at_)),o2,some (.dat (iD n)),o4,some (.own ds),o6]
 | [],ds,o6,_,h=>by simpa [C6]using h o6
 | k::l,ds,o6,hz,h=>by
  rw [az]at hz
  have e4:L0 0 (Int.toNat 4)=B6.map iD:=rfl
  rw [ao,C6]
  simp only [L1,Q4j,F1,M4,D7,U8,Z3q,J5,D4]
  refine⟨_,rfl,_,rfl,by decide,by decide,by rw [e4];exact sz (by simp),?_⟩
  rw [e4]
  refine Q0w (f:=fun d=>match d with | .int j=>iD (drN ns (at_+7+4*(k:Int)+j) n) | d=>d) _ _ _ (fun d hd Q' q=>?_) ?_
  ·obtain⟨j,_,rfl⟩:=aq.mp hd
   simp only [F1,W9,D7,C2,F6,J5,D4]
   refine⟨_,rfl,_,rfl,_,rfl,?_⟩
   show V7 (R.st (.int 4)) (R.st (.int (k:Int))) _
   rw [Y1b]
   refine⟨.inl ⟨by decide,by decide⟩,?_⟩
   rw [Q1y]
   refine⟨_,rfl,?_⟩
   rw [M8,Q1y]
   refine⟨_,rfl,rfl,_,⟨ns,at_+7+4*(k:Int)+(j:Int),(n:Int),rfl,hn,by omega,rfl⟩,?_⟩
   rw [Z1m ns _ h0]
   exact q
  ·rw [Q2a]
   refine⟨_,rfl,_,rfl,szl (by omega),?_⟩
   have e:(B6.map iD).map (fun d=>match d with | .int j=>iD (drN ns (at_+7+4*(k:Int)+j) n) | d=>d)=(B6.map fun(j:Nat)=>drN ns (at_+7+4*(k:Int)+(j:Int)) n).map iD:=by rfl
   rw [e]
   refine Y2f ns hn at_ h0 l (ds++[rD (B6.map fun(j:Nat)=>drN ns (at_+7+4*(k:Int)+(j:Int)) n)]) _ (by simp;omega) fun o6=>?_
   simpa using h o6
noncomputable def Q8t:D6:=fun rs r=>∃ns at_ most,rs=[.st (scr ns),.st (.int at_),.st (iD most)]/\ns.length<=63/\0<most/\most<=50/\r=.st (mD (O6 ns at_ most))
theorem W4u:∀rs r,rs.length=3->Q8t rs r->Z5n Q6k (W1 r) (F2 Q7b rs):=by
 rintro rs r _ ⟨ns,at_,most,rfl,hn,h0,h1,rfl⟩
 have hN:1+W6 ns at_ (most:Int)=(S3 ns at_ most:Int):=by rw [Z1m ns at_ h0];unfold S3;omega
 have hp:0<S3 ns at_ most:=by unfold S3;omega
 have gb:S3 ns at_ most<=50:=by unfold S3;have:=Z1n ns at_ h0;omega
 have er:L0 0 (S3 ns at_ most:Int).toNat=(List.range (S3 ns at_ most)).map iD:=by simp [L0]
 unfold Z5n
 simp only [L8,O7,F6,J5,W9,D7,C2,D4,M4,U8,Z3q,s_lst,T3,Q2b,X0,s_tup,F1]
 refine⟨_,rfl,_,rfl,_,rfl,rfl,_,⟨ns,at_,(most:Int),rfl,hn,by omega,rfl⟩,?_⟩
 rw [Q1y,hN,Q3]
 refine⟨_,rfl,_,rfl,by omega,by omega,?_⟩
 rw [er]
 refine⟨sz (by simp;omega),?_⟩
 refine Q0w (f:=fun d=>match d with | .int k=>.bl (decide (W6 ns (at_+1+k) 2=0)) | d=>d) _ _ _ (fun d hd Q' q=>?_) ?_
 ·obtain⟨k,_,rfl⟩:=aq.mp hd
  simp only [F1,s_b,F6,W9,D7,C2,J5,D4]
  refine⟨_,rfl,_,rfl,?_⟩
  show G4 (R.st _) (R.st _) _
  rw [Q1y]
  refine⟨_,rfl,?_⟩
  rw [M8,Q1y]
  refine⟨rfl,_,⟨ns,at_+1+(k:Int),2,rfl,hn,by decide,rfl⟩,?_⟩
  rw [Q1z]
  refine⟨_,_,rfl,rfl,by simp [D.depth],?_⟩
  simp only [o_e1,cT,dl]
  have e:(W6 ns (at_+1+(k:Int)) 2==0)=decide (W6 ns (at_+1+(k:Int)) 2=0):=by
   by_cases h:W6 ns (at_+1+(k:Int)) 2=0
   ·rw [dm h,h];rfl
   ·rw [aM h];exact bT.mpr h
  rw [e]
  exact q
 ·rw [Q2a]
  refine⟨_,rfl,?_⟩
  rw [Q3]
  refine⟨_,rfl,sz (by simp),_,rfl,_,rfl,by omega,by omega,?_⟩
  rw [er]
  refine Y2f ns hn at_ hp (List.range (S3 ns at_ most)) [] _ (by simp;omega) fun o6=>?_
  refine⟨_,rfl,_,rfl,?_⟩
  simp only [D4,S6,Q2a]
  refine⟨_,rfl,_,rfl,sz (by simp),?_⟩
  show R.st _=R.st _
  have e1:((List.range (S3 ns at_ most)).map iD).map (fun d=>match d with | .int k=>D.bl (decide (W6 ns (at_+1+k) 2=0)) | d=>d)=(O6 ns at_ most).1.map .bl:=by
   unfold O6;rw [aN,aN];rfl
  have e2:(List.range (S3 ns at_ most)).map (fun(k:Nat)=>rD (B6.map fun(j:Nat)=>drN ns (at_+7+4*(k:Int)+(j:Int)) (S3 ns at_ most)))=(O6 ns at_ most).2.map rD:=by
   unfold O6;rw [aN];rfl
  rw [cm,e1,e2]
noncomputable abbrev pD (p:Nat×Nat):D:=.tup (pT p)
section
variable {m1 m2:D8}
end
section
variable {α:Type}
noncomputable def run (step:α->Nat->α) (k:α) (w:List Nat):α:=w.foldl step k
def E1 (w:List Nat):Prop:=∀c∈w,c∈B6
theorem E1.nil:E1 []:=fun c h=>by cases h
theorem E1.app {u w:List Nat} (h1:E1 u) (h2:E1 w):E1 (u++w):=fun c h=>(aU.mp h).elim (h1 c) (h2 c)
theorem E1.snoc {u:List Nat}{c:Nat} (h1:E1 u) (h2:c∈B6):E1 (u++[c]):=h1.app fun d hd=>by rw [aQ.mp hd];exact h2
noncomputable def X1 (c:Nat):Str:=match c with
 | 0=>"0"
 | 1=>"1"
 | 2=>"a"
 | _=>"b"
noncomputable def X2 (w:List Nat):Str:=w.foldl (fun t c=>t++X1 c) ""
theorem W8d (w:List Nat) (c:Nat):X2 (w++[c])=X2 w++X1 c:=by unfold X2;rw [List.foldl_append];rfl
end
section
variable {α:Type} [DecidableEq α]
end
noncomputable def stW (m:D8) (w:List Nat):Nat:=run (C4 m.2) 0 w
noncomputable def F8 (m:D8) (w:List Nat):Bool:=m.1.getD (stW m w) false
theorem prun (m1 m2:D8):∀(w:List Nat) (p:Nat×Nat),run (Y8 m1 m2) p w=(run (C4 m1.2) p.1 w,run (C4 m2.2) p.2 w)
 | [],p=>rfl
 | c::w,p=>prun m1 m2 w (Y8 m1 m2 p c)
theorem W3g (g:Bool->Bool->Bool) (m1 m2:D8) (w:List Nat):Q3e g m1 m2 (run (Y8 m1 m2) (0,0) w)=g (F8 m1 w) (F8 m2 w):=by rw [prun];rfl
theorem W1b {ks:List D}{d:D} (h:ks.Nodup):(S4 ks d).Nodup:=by
 unfold S4;split
 ·exact h
 ·rename_i n
  exact bG.mpr ⟨h,by simp,fun a ha b hb=>by
   rw [aQ]at hb;rintro rfl;exact n (hb ▸ ha)⟩
theorem Y0p:∀(ds ks:List D),ks.Nodup->(T4 ks ds).Nodup
 | [],ks,h=>h
 | d::r,ks,h=>Y0p r _ (W1b h)
theorem Y3v:∀(ds ks:List D) (x:D),x∈T4 ks ds->x∈ks\/x∈ds
 | [],ks,x,h=>.inl h
 | d::r,ks,x,h=>by
  rcases Y3v r _ x h with h | h
  ·unfold S4 at h
   split at h
   ·exact .inl h
   ·rcases aU.mp h with h | h
    ·exact .inl h
    ·exact .inr (by rw [aQ.mp h];simp)
  ·exact .inr (by simp [h])
theorem W1f {ds:List D}{j:Nat} (h:j<(T4 [] ds).length):j∈N8 [] ds:=by
 rw [Q4c,aq]
 have hm:=br h
 refine⟨(T4 [] ds)[j],?_,(Y0p ds [] (by simp)).idxOf_getElem j h⟩
 rcases Y3v ds [] _ hm with z | z
 ·cases z
 ·exact z
theorem W1g {ds:List D}{x:Nat} (h:x∈N8 [] ds):x<(T4 [] ds).length:=by
 rw [Q4c,aq]at h
 obtain⟨d,hd,rfl⟩:=h
 exact aP.mpr (Q6c ds [] (.inr hd))
theorem Y0t {ds:List D}{x:Nat} (cA:N8 [] ds≠[]) (h:x<=Q7 (N8 [] ds)):x∈N8 [] ds :=
 W1f (Nat.lt_of_le_of_lt h (W1g (Q6a cA)))
theorem Y8m {φ:Nat->Nat}{k k':Nat} (hk:k'<=k) (on:∀y,y<k->∃x,x<k'/\φ x=y) {a b:Nat} (ha:a<k') (hb:b<k') (e:φ a=φ b):a=b:=by
 rcases Nat.decEq a b with ne | eq
 ·exfalso
  have sub:List.range k ⊆ ((List.range k').erase b).map φ:=fun y hy=>by
   obtain⟨x,hx,rfl⟩:=on y (bz.mp hy)
   by_cases z:x=b
   ·subst z
    exact aq.mpr ⟨a,(List.mem_erase_of_ne ne).mpr (bz.mpr ha),e⟩
   ·exact aq.mpr ⟨x,(List.mem_erase_of_ne z).mpr (bz.mpr hx),rfl⟩
  have:=List.nodup_range.length_le_of_subset sub
  rw [ag,List.length_erase_of_mem (bz.mpr hb),cu,cu]at this
  omega
 ·exact eq
noncomputable abbrev blk (b:List Nat) (i:Nat):Nat:=b.getD i 0
theorem Q2s {b:List Nat}{i:Nat} (h:i<b.length):b[i]?=some (blk b i):=by
 rw [ac h]
 show _=some (b.getD i 0)
 rw [au,ac h];rfl
theorem W5k {es:List Bool}{rows:List (List Nat)} (w:Wf es rows) {f:Nat->Nat}{i j:Nat}{ri rj:List Nat} (hi:rows[i]?=some ri) (hj:rows[j]?=some rj) (li:i<es.length) (lj:j<es.length) :
  ri.map f=rj.map f ↔ ∀c,c<4->f (C4 rows i c)=f (C4 rows j c):=by
 obtain⟨r,e1,l1,g1⟩:=w.row li
 obtain⟨r',e2,l2,g2⟩:=w.row lj
 rw [hi]at e1;cases e1
 rw [hj]at e2;cases e2
 constructor
 ·intro h c hc
  have:=congrArg (fun l=>l[c]?) h
  simp only [ai,(g1 c hc).1,(g2 c hc).1]at this
  exact aB this
 ·intro h
  refine List.ext_getElem? fun c=>?_
  rw [ai,ai]
  rcases bD c 4 with hc | hc
  ·rw [(g1 c hc).1,(g2 c hc).1]
   exact congrArg some (h c hc)
  ·rw [aH.mpr (by omega),aH.mpr (by omega)]
theorem Y0e {rows:List (List Nat)}{b:List Nat}{i:Nat}{r:List Nat} (hb:i<b.length) (hr:rows[i]?=some r):(Q0b rows b)[i]?=some (Q0j b (blk b i,r)):=by
 unfold Q0b
 have e:(b.zip rows)[i]?=some (blk b i,r):=bO.mpr ⟨Q2s hb,hr⟩
 rw [ai,e]
 rfl
theorem Z1v {a b:Nat} (h:iD a=iD b):a=b:=by
 have:(a:Int)=(b:Int):=D.int.inj h
 omega
theorem Y0c:∀{l m:List Nat},l.map iD=m.map iD->l=m
 | [],[],_=>rfl
 | [],_::_,h=>by cases h
 | _::_,[],h=>by cases h
 | a::l,b::m,h=>by
  rw [ao,ao,dZ]at h
  rw [Z1v h.1,Y0c h.2]
theorem W0g {b:List Nat}{p q:Nat×List Nat}:Q0j b p=Q0j b q ↔ p.1=q.1/\p.2.map (blk b)=q.2.map (blk b):=by
 constructor
 ·intro h
  have h:=D.tup.inj h
  rw [dZ,dZ]at h
  exact⟨Z1v h.1,Y0c (D.tup.inj h.2.1)⟩
 ·rintro ⟨h1,h2⟩
  unfold Q0j
  rw [h1]
  show D.tup [_,rD (p.2.map (blk b))]=D.tup [_,rD (q.2.map (blk b))]
  rw [h2]
theorem Q6q {es:List Bool}{rows:List (List Nat)} (w:Wf es rows) {b:List Nat} (hb:J3 es.length b) {i j:Nat} (hi:i<es.length) (hj:j<es.length) :
  blk (K1 rows b) i=blk (K1 rows b) j ↔ blk b i=blk b j/\∀c,c<4->blk b (C4 rows i c)=blk b (C4 rows j c):=by
 obtain⟨r,e1,_,_⟩:=w.row hi
 obtain⟨r',e2,_,_⟩:=w.row hj
 have m1:=Y0e (b:=b) (by rw [hb.len];exact hi) e1
 have m2:=Y0e (b:=b) (by rw [hb.len];exact hj) e2
 have hB:=hb.step w.len
 have q:=Y0u m1 m2
 have g1:(N8 [] (Q0b rows b))[i]?=some (blk (K1 rows b) i):=Q2s (by show i<(K1 rows b).length;rw [hB.len];exact hi)
 have g2:(N8 [] (Q0b rows b))[j]?=some (blk (K1 rows b) j):=Q2s (by show j<(K1 rows b).length;rw [hB.len];exact hj)
 rw [g1,g2,Option.some_inj,W0g,W5k w e1 e2 hi hj]at q
 exact q
theorem Y4e {es:List Bool}{rows:List (List Nat)} (w:Wf es rows) {b:List Nat} (hb:J3 es.length b) (full:∀x,x<=Q7 b->x∈b) (hm:¬ Q7 b+1<=Q7 (K1 rows b)) {i j:Nat} (hi:i<es.length) (hj:j<es.length) (e:blk b i=blk b j) :
  blk (K1 rows b) i=blk (K1 rows b) j:=by
 have hB:=hb.step w.len
 have lb:∀{i:Nat},i<es.length->i<b.length:=fun h=>by rw [hb.len];exact h
 have lB:∀{i:Nat},i<es.length->i<(K1 rows b).length:=fun h=>by rw [hB.len];exact h
 have fφ:∀{i:Nat},i<es.length->blk b ((K1 rows b).idxOf (blk (K1 rows b) i))=blk b i:=fun {i} h=>by
  have jA:blk (K1 rows b) i∈K1 rows b:=Q0y (lB h)
  have bR:=aP.mpr jA
  have qz:(K1 rows b).idxOf (blk (K1 rows b) i)<es.length:=by rw [<- hB.len];exact bR
  have e0:blk (K1 rows b) ((K1 rows b).idxOf (blk (K1 rows b) i))=blk (K1 rows b) i:=by
   have:=Q2s bR
   rw [ac bR,List.getElem_idxOf bR]at this
   exact(aB this).symm
  exact((Q6q w hb qz h).mp e0).1
 refine Y8m (φ:=fun x=>blk b ((K1 rows b).idxOf x)) (k:=Q7 b+1) (k':=Q7 (K1 rows b)+1) (by omega) (fun y hy=>?_) (Nat.lt_succ_of_le (Q8a (Q0y (lB hi)))) (Nat.lt_succ_of_le (Q8a (Q0y (lB hj)))) ?_
 ·obtain⟨i,hi,rfl⟩:=cc.mp (full y (by omega))
  have fT:i<es.length:=by rw [<- hb.len];exact hi
  refine⟨blk (K1 rows b) i,Nat.lt_succ_of_le (Q8a (Q0y (lB fT))),?_⟩
  show blk b _=_
  rw [fφ fT]
  have:=Q2s hi
  rw [ac hi]at this
  exact(aB this).symm
 ·show blk b _=blk b _
  rw [fφ hi,fφ hj,e]
noncomputable def K4 (es:List Bool) (rows:List (List Nat)) (i:Nat) (w:List Nat):Bool:=es.getD (run (C4 rows) i w) false
theorem Q6i {es:List Bool}{rows:List (List Nat)} (wf:Wf es rows):∀(w:List Nat) (i:Nat),E1 w->i<es.length->run (C4 rows) i w<es.length
 | [],i,_,h=>h
 | c::w,i,hw,h=>by
  obtain⟨_,_,_,g⟩:=wf.row h
  exact Q6i wf w _ (fun d hd=>hw d (by simp [hd])) (g c (Z1 (hw c (by simp)))).2
structure Q3p (es:List Bool) (rows:List (List Nat)) (b:List Nat):Prop where
 blk:J3 es.length b
 full:∀x,x<=Q7 b->x∈b
 fin:∀i j,i<es.length->j<es.length->MC.blk b i=MC.blk b j->es.getD i false=es.getD j false
 apart:∀i j,i<es.length->j<es.length->MC.blk b i≠MC.blk b j->∃w,E1 w/\K4 es rows i w≠K4 es rows j w
theorem Q3p.step {es:List Bool}{rows:List (List Nat)}{b:List Nat} (w:Wf es rows) (P:Q3p es rows b):Q3p es rows (K1 rows b) where
 blk:=P.blk.step w.len
 full:=fun x hx=>Y0t (fun z=>by have h:=(P.blk.step w.len).len;unfold K1 at h;rw [z]at h;have:=w.pos;simp at h;omega) hx
 fin:=fun i j hi hj e=>P.fin i j hi hj ((Q6q w P.blk hi hj).mp e).1
 apart:=fun i j hi hj ne=>by
  by_cases h:MC.blk b i=MC.blk b j
  ·have:¬ ∀c,c<4->MC.blk b (C4 rows i c)=MC.blk b (C4 rows j c):=fun z=>ne ((Q6q w P.blk hi hj).mpr ⟨h,z⟩)
   obtain⟨c,hc⟩:=Classical.not_forall.mp this
   obtain⟨gg,cA⟩:=Classical.not_imp.mp hc
   obtain⟨_,_,_,g1⟩:=w.row hi
   obtain⟨_,_,_,g2⟩:=w.row hj
   obtain⟨u,hu,q⟩:=P.apart _ _ (g1 c gg).2 (g2 c gg).2 cA
   exact⟨c::u,fun d hd=>by rcases aj.mp hd with rfl | hd;exact Z9z gg;exact hu d hd,q⟩
  ·exact P.apart i j hi hj h
structure Told (es:List Bool) (rows:List (List Nat)) (b:List Nat):Prop extends Q3p es rows b where
 cong:∀i j,i<es.length->j<es.length->MC.blk b i=MC.blk b j->∀c,c<4->MC.blk b (C4 rows i c)=MC.blk b (C4 rows j c)
theorem Y4k {es:List Bool}{rows:List (List Nat)} (w:Wf es rows):∀(n:Nat) (b:List Nat),Q3p es rows b->es.length<=n+Q7 b+1->Told es rows (Q1g rows n (Q7 b+1) (K1 rows b))
 | 0,b,P,h=>by
  have hB:=P.step w
  have ne:K1 rows b≠[]:=fun z=>by have h:=hB.blk.len;rw [z]at h;have:=w.pos;simp at h;omega
  have:=hB.blk.lt _ (Q6a ne)
  refine⟨hB,fun i j hi hj e c hc=>?_⟩
  obtain⟨_,_,_,g1⟩:=w.row hi
  obtain⟨_,_,_,g2⟩:=w.row hj
  exact Y4e w P.blk P.full (by omega) (g1 c hc).2 (g2 c hc).2 (((Q6q w P.blk hi hj).mp e).2 c hc)
 | n+1,b,P,h=>by
  have hB:=P.step w
  unfold Q1g
  split
  ·rename_i hm
   exact Y4k w n _ hB (by omega)
  ·rename_i hm
   refine⟨hB,fun i j hi hj e c hc=>?_⟩
   obtain⟨_,_,_,g1⟩:=w.row hi
   obtain⟨_,_,_,g2⟩:=w.row hj
   exact Y4e w P.blk P.full hm (g1 c hc).2 (g2 c hc).2 (((Q6q w P.blk hi hj).mp e).2 c hc)
theorem Y6e {R:List (Nat×Nat)}{g d:Nat}:∃d',(g,d')∈L5 R g d:=by
 unfold L5;split
 ·rename_i h
  obtain⟨q,hq,rfl⟩:=aq.mp h
  exact⟨q.2,hq⟩
 ·exact⟨d,by simp⟩
structure Q7d (on:List (List Nat)) (good:Nat->Nat->Prop) (R:List (Nat×Nat)) (p:Nat):Prop where
 ri:Q0g on.length R
 good:∀q∈R,good q.1 q.2
 sorted:∀(i j:Nat) (q q':Nat×Nat),i<=j->R[i]?=some q->R[j]?=some q'->q.2<=q'.2
 near:∀q∈R,∀q',R[p]?=some q'->q.2<=q'.2+1
 past:∀(i:Nat) (q:Nat×Nat),i<p->R[i]?=some q->∀g∈on.getD q.1 [],∃d,(g,d)∈R/\d<=q.2+1
theorem Y0i {d:Nat}:∀(gs:List Nat) (R:List (Nat×Nat)) (B:Nat),(∀q∈R,q.2<=B)->d<=B->∀g∈gs,∃d',(g,d')∈goR d gs R/\d'<=B
 | [],R,B,_,_,g,h=>by cases h
 | x::gs,R,B,hR,hd,g,h=>by
  have dA:∀q∈L5 R x d,q.2<=B:=fun q hq=>by
   rcases Z2t hq with z | z
   ·exact hR q z
   ·rw [z];exact hd
  rw [goR]
  rcases aj.mp h with rfl | h
  ·obtain⟨d',h'⟩:=Y6e (R:=R) (g:=g) (d:=d)
   exact⟨d',(Z1u d gs _).subset h',dA _ h'⟩
  ·exact Y0i gs _ B dA hd g h
theorem Z8u {d:Nat}:∀(gs:List Nat) (R:List (Nat×Nat)),(∀(i j:Nat) (q q':Nat×Nat),i<=j->R[i]?=some q->R[j]?=some q'->q.2<=q'.2)->(∀q∈R,q.2<=d) ->
  (∀(i j:Nat) (q q':Nat×Nat),i<=j->(goR d gs R)[i]?=some q->(goR d gs R)[j]?=some q'->q.2<=q'.2)
 | [],R,h,_=>h
 | x::gs,R,h,hd=>by
  refine Z8u gs _ ?_ ?_
  ·unfold L5
   split
   ·exact h
   ·intro i j q q' mF hi hj
    rcases bD j R.length with hjl | hjl
    ·rw [aJ hjl]at hj
     rw [aJ (by omega)]at hi
     exact h i j q q' mF hi hj
    ·have l7:q'=(x,d):=by
      rw [aT hjl]at hj
      exact(aQ.mp (aC hj))
     rcases aU.mp (aC hi)with z | z
     ·rw [l7];exact hd q z
     ·rw [aQ.mp z,l7];exact ah _
  ·intro q hq
   rcases Z2t hq with z | z
   ·exact hd q z
   ·rw [z];exact ah _
theorem Y2a {on:List (List Nat)}{good:Nat->Nat->Prop} (jP:∀l∈on,∀g∈l,g<on.length) (hg:∀s d,s<on.length->good s d->∀g∈on.getD s [],good g (d+1)) :
  ∀(n:Nat) (R:List (Nat×Nat)) (p:Nat),Q7d on good R p->on.length<=n+p->p<=R.length->R <+: Q0n on n R p/\Q7d on good (Q0n on n R p) (Q0n on n R p).length
 | 0,R,p,J,h,hp=>by
  have b:=J.ri.bound
  have:p=R.length:=by omega
  subst this
  exact⟨cf _,J⟩
 | n+1,R,p,J,h,hp=>by
  unfold Q0n
  split
  ·rename_i e
   have:=aH.mp e
   have:p=R.length:=by omega
   subst this
   exact⟨cf _,J⟩
  ·rename_i q e
   obtain⟨s,d⟩:=q
   have kin:=aC e
   have hs:s<on.length:=J.ri.lt _ kin
   have hpl:p<R.length:=by obtain⟨z,_⟩:=aG.mp e;exact z
   have eo:on[s]?.getD []=on.getD s []:=(au ..).symm
   have jE:∀g∈on.getD s [],g<on.length:=fun g gO=>by
    rw [au,ac hs]at gO
    exact jP _ (br hs) g gO
   have pre:=Z1u (d+1) (on.getD s []) R
   have near:∀q∈R,q.2<=d+1:=fun q hq=>J.near q hq _ e
   have all:∀q∈goR (d+1) (on.getD s []) R,q.2<=d+1:=fun q hq=>by
    rcases Q8b _ _ hq with z | ⟨g,_,rfl⟩
    ·exact near q z
    ·exact ah _
   have at_:∀{i:Nat}{q:Nat×Nat},i<R.length->(goR (d+1) (on.getD s []) R)[i]?=some q->R[i]?=some q:=fun {i q} hi hq=>by
    obtain⟨t,ht⟩:=pre
    rw [<- ht,aJ hi]at hq
    exact hq
   have J2:Q7d on good (goR (d+1) (on.getD s []) R) (p+1):=by
    have so:=Z8u (d:=d+1) (on.getD s []) R J.sorted near
    refine⟨J.ri.go jE,fun q hq=>?_,so,fun q hq q' l7=>?_,fun i q hi hq g gO=>?_⟩
    ·rcases Q8b _ _ hq with z | ⟨g,gO,rfl⟩
     ·exact J.good q z
     ·exact hg s d hs (J.good _ kin) g gO
    ·have h1:=all q hq
     have h2:(goR (d+1) (on.getD s []) R)[p]?=some (s,d):=by
      obtain⟨t,ht⟩:=pre
      rw [<- ht,aJ hpl];exact e
     have h3:d<=q'.2:=so p (p+1) _ _ (by omega) h2 l7
     omega
    ·have hq:=at_ (by omega) hq
     rcases bD i p with z | z
     ·obtain⟨d',h1,h2⟩:=J.past i q z hq g gO
      exact⟨d',pre.subset h1,h2⟩
     ·have:i=p:=by omega
      subst this
      rw [e]at hq;cases hq
      exact Y0i _ R (d+1) near (ah _) g gO
   have bL:=pre.length_le
   obtain⟨a1,a2⟩:=Y2a jP hg n _ (p+1) J2 (by omega) (by omega)
   rw [eo]
   exact⟨pre.trans a1,a2⟩
theorem Q7x {R:List (Nat×Nat)} (nd:(R.map (·.1)).Nodup) {s d:Nat}:G5 R s=some d ↔ (s,d)∈R:=by
 unfold G5
 constructor
 ·intro h
  cases e:R.find? (fun q=>decide (q.1=s))with
  | none=>rw [e]at h;cases h
  | some q =>
   rw [e]at h
   have h:q.2=d:=aB h
   have h1:=List.mem_of_find?_eq_some e
   have h2:=List.find?_some e
   have h2:q.1=s:=by simpa using h2
   obtain⟨a,b⟩:=q
   simp only at h h2
   subst h h2;exact h1
 ·intro h
  induction R with
  | nil=>cases h
  | cons q R ih =>
   rw [ao,bA]at nd
   rw [b7]
   rcases aj.mp h with rfl | h
   ·simp
   ·have:¬ q.1=s:=fun z=>nd.1 (z ▸ aq.mpr ⟨_,h,rfl⟩)
    simp only [this,decide_false]
    exact ih nd.2 h
theorem Y7w {es:List Bool}{rows:List (List Nat)} (wf:Wf es rows) (b:Bool) {good:Nat->Nat->Prop} (g0:∀i,es[i]?=some b->good i 0) (gs:∀s d g c,g<es.length->c<4->C4 rows g c=s->good s d->good g (d+1)) :
  (∀q∈G6 (E2 rows) (E9 es b),good q.1 q.2)/\((G6 (E2 rows) (E9 es b)).map (·.1)).Nodup/\(∀i,es[i]?=some b->(i,0)∈G6 (E2 rows) (E9 es b)) /\
  ∀s d,(s,d)∈G6 (E2 rows) (E9 es b)->∀g c,g<es.length->c<4->C4 rows g c=s->∃d',(g,d')∈G6 (E2 rows) (E9 es b)/\d'<=d+1:=by
 have bR:∀r∈rows,∀g∈r,g<rows.length:=fun r hr g hg=>by rw [wf.len];exact wf.lt r hr g hg
 have qM:(E2 rows).length=es.length:=by rw [Q7h,wf.len]
 have J0:Q7d (E2 rows) good ((E9 es b).map fun x=>(x,0)) 0:=by
  refine⟨⟨by simpa [Function.comp_def]using Z8i,fun q hq=>?_⟩,fun q hq=>?_,fun i j q q' _ hi hj=>?_,fun q hq q' _=>?_,fun i q hi=>absurd hi (Nat.not_lt_zero _)⟩
  ·obtain⟨x,hx,rfl⟩:=aq.mp hq
   rw [qM];exact Z8h x hx
  ·obtain⟨x,hx,rfl⟩:=aq.mp hq
   exact g0 x (Z2x.mp hx)
  ·obtain⟨x,_,rfl⟩:=aq.mp (aC hi);exact bp _
  ·obtain⟨x,_,rfl⟩:=aq.mp hq;exact bp _
 obtain⟨pre,J⟩:=Y2a (Z7a bR) (fun s d hs qC g gO=>by
  obtain⟨r,e,hm⟩:=(Z2w bR).mp gO
  obtain⟨c,hc,e2⟩:=cc.mp hm
  have jF:g<es.length:=by rw [<- wf.len];obtain⟨z,_⟩:=aG.mp e;exact z
  obtain⟨r',e',l4,g4⟩:=wf.row jF
  rw [e]at e';cases e'
  have gg:c<4:=by rw [<- l4];exact hc
  have:=(g4 c gg).1
  rw [ac hc,e2]at this
  exact gs s d g c jF gg (aB this).symm qC) (E2 rows).length _ 0 J0 (by omega) (bp _)
 refine⟨J.good,J.ri.nd,fun i hi=>pre.subset (aq.mpr ⟨i,Z2x.mpr hi,rfl⟩),fun s d hm g c jF hc e=>?_⟩
 obtain⟨i,hi,e2⟩:=cc.mp hm
 obtain⟨r,e3,l4,g4⟩:=wf.row jF
 refine J.past i (s,d) hi (by show(G6 (E2 rows) (E9 es b))[i]?=_;rw [ac hi,e2]) g ((Z2w bR).mpr ⟨r,e3,?_⟩)
 rw [<- e]
 exact aC (g4 c hc).1
theorem Z8d {es:List Bool}{rows:List (List Nat)} (wf:Wf es rows) (b:Bool):(∀i d,i<es.length->G5 (G6 (E2 rows) (E9 es b)) i=some d->∃w,E1 w/\w.length=d/\K4 es rows i w=b) /\
  ∀(w:List Nat) (i:Nat),E1 w->i<es.length->K4 es rows i w=b->∃d,G5 (G6 (E2 rows) (E9 es b)) i=some d/\d<=w.length:=by
 obtain⟨h1,nd,h2,h3⟩:=Y7w wf b (good:=fun i d=>∃w,E1 w/\w.length=d/\K4 es rows i w=b)
  (fun i hi=>⟨[],E1.nil,rfl,by unfold K4 run;rw [List.foldl_nil,au,hi];rfl⟩)
  (fun s d g c hg hc e ⟨w,q1,q2,q3⟩=>⟨c::w,fun x hx=>by rcases aj.mp hx with rfl | hx;exact Z9z hc;exact q1 x hx,by rw [az,q2],by unfold K4 run at q3 ⊢;rw [List.foldl_cons,e];exact q3⟩)
 refine⟨fun i d _ h=>h1 (i,d) ((Q7x nd).mp h),fun w=>?_⟩
 induction w with
 | nil =>
  intro i _ hi h
  refine⟨0,(Q7x nd).mpr (h2 i ?_),ah _⟩
  unfold K4 run at h
  rw [List.foldl_nil,au,ac hi]at h
  rw [ac hi]
  exact congrArg some h
 | cons c w ih =>
  intro i hw hi h
  have gg:=Z1 (hw c (by simp))
  obtain⟨_,_,_,g4⟩:=wf.row hi
  obtain⟨d,q1,q2⟩:=ih (C4 rows i c) (fun x hx=>hw x (by simp [hx])) (g4 c gg).2 h
  obtain⟨d',q3,q4⟩:=h3 _ _ ((Q7x nd).mp q1) i c hi gg rfl
  exact⟨d',(Q7x nd).mpr q3,by rw [az];omega⟩
theorem Z8c {es:List Bool}{rows:List (List Nat)} (wf:Wf es rows) (b:Bool) {i j:Nat} (hi:i<es.length) (hj:j<es.length) (h:G5 (G6 (E2 rows) (E9 es b)) i≠G5 (G6 (E2 rows) (E9 es b)) j):∃w,E1 w/\K4 es rows i w≠K4 es rows j w:=by
 obtain⟨s1,s2⟩:=Z8d wf b
 have key:∀{i j d:Nat},i<es.length->j<es.length->G5 (G6 (E2 rows) (E9 es b)) i=some d->(∀d',G5 (G6 (E2 rows) (E9 es b)) j=some d'->d<d')->∃w,E1 w/\K4 es rows i w≠K4 es rows j w:=fun {i j d} hi hj e bR=>by
  obtain⟨w,q1,q2,q3⟩:=s1 i d hi e
  refine⟨w,q1,fun z=>?_⟩
  rw [q3]at z
  obtain⟨d',q4,q5⟩:=s2 w j q1 hj z.symm
  have:=bR d' q4
  omega
 cases e1:G5 (G6 (E2 rows) (E9 es b)) i with
 | none =>
  cases e2:G5 (G6 (E2 rows) (E9 es b)) j with
  | none=>rw [e1,e2]at h;exact absurd rfl h
  | some d =>
   obtain⟨w,q1,q2⟩:=key hj hi e2 (fun d' z=>by rw [e1]at z;cases z)
   exact⟨w,q1,fun z=>q2 z.symm⟩
 | some d =>
  cases e2:G5 (G6 (E2 rows) (E9 es b)) j with
  | none=>exact key hi hj e1 (fun d' z=>by rw [e2]at z;cases z)
  | some d' =>
   rcases bD d d' with z | z
   ·exact key hi hj e1 (fun x q=>by rw [e2]at q;cases q;exact z)
   ·have:d'<d:=by
     rcases bD d' d with y | y
     ·exact y
     ·rw [e1,e2,show d=d' by omega]at h;exact absurd rfl h
    obtain⟨w,q1,q2⟩:=key hj hi e2 (fun x q=>by rw [e1]at q;cases q;exact this)
    exact⟨w,q1,fun z=>q2 z.symm⟩
theorem Y0y {a b:Option Nat} (h:oD a=oD b):a=b:=by
 cases a <;> cases b
 ·rfl
 ·cases h
 ·cases h
 ·exact congrArg some (Z1v h)
theorem Y0d {es:List Bool}{rows:List (List Nat)}{i:Nat} (hi:i<es.length):(V6 es rows)[i]?=some (.tup [oD (G5 (G6 (E2 rows) (E9 es true)) i),oD (G5 (G6 (E2 rows) (E9 es false)) i)]):=by
 unfold V6
 rw [ai]
 have g:∀b,(W5 es rows b)[i]?=some (G5 (G6 (E2 rows) (E9 es b)) i):=fun b=>by
  unfold W5
  rw [ai,ac (by simpa using hi)]
  simp
 have e:((W5 es rows true).zip (W5 es rows false))[i]?=some (G5 (G6 (E2 rows) (E9 es true)) i,G5 (G6 (E2 rows) (E9 es false)) i):=bO.mpr ⟨g true,g false⟩
 rw [e]
 rfl
theorem W2g {es:List Bool}{rows:List (List Nat)} (wf:Wf es rows):Q3p es rows (N8 [] (V6 es rows)):=by
 have hB:J3 es.length (N8 [] (V6 es rows)):=J3.zero
 have oM:∀{i j:Nat},i<es.length->j<es.length->(MC.blk (N8 [] (V6 es rows)) i=MC.blk (N8 [] (V6 es rows)) j ↔ G5 (G6 (E2 rows) (E9 es true)) i=G5 (G6 (E2 rows) (E9 es true)) j/\G5 (G6 (E2 rows) (E9 es false)) i=G5 (G6 (E2 rows) (E9 es false)) j):=fun {i j} hi hj=>by
  have q:=Y0u (Y0d (rows:=rows) hi) (Y0d (rows:=rows) hj)
  rw [Q2s (by rw [hB.len];exact hi),Q2s (by rw [hB.len];exact hj),Option.some_inj]at q
  rw [q]
  constructor
  ·intro h
   have h:=D.tup.inj h
   rw [dZ,dZ]at h
   exact⟨Y0y h.1,Y0y h.2.1⟩
  ·rintro ⟨h1,h2⟩;rw [h1,h2]
 refine⟨hB,fun x hx=>Y0t (fun z=>by have h:=hB.len;rw [z]at h;have:=wf.pos;simp at h;omega) hx,fun i j hi hj e=>?_,fun i j hi hj ne=>?_⟩
 ·obtain⟨e1,_⟩:=(oM hi hj).mp e
  obtain⟨s1,s2⟩:=Z8d wf true
  have key:∀{i j:Nat},i<es.length->j<es.length->G5 (G6 (E2 rows) (E9 es true)) i=G5 (G6 (E2 rows) (E9 es true)) j->es.getD i false=true->es.getD j false=true:=fun {i j} hi hj e h=>by
   obtain⟨d,q1,q2⟩:=s2 [] i E1.nil hi h
   have:d=0:=by simpa using q2
   subst this
   rw [e]at q1
   obtain⟨w,_,q4,q5⟩:=s1 j 0 hj q1
   rw [List.length_eq_zero_iff.mp q4]at q5
   exact q5
  cases h1:es.getD i false <;> cases h2:es.getD j false
  ·rfl
  ·have:=key hj hi e1.symm h2;rw [h1]at this;cases this
  ·have:=key hi hj e1 h1;rw [h2]at this;cases this
  ·rfl
 ·by_cases h:G5 (G6 (E2 rows) (E9 es true)) i=G5 (G6 (E2 rows) (E9 es true)) j
  ·exact Z8c wf false hi hj fun z=>ne ((oM hi hj).mpr ⟨h,z⟩)
  ·exact Z8c wf true hi hj h
theorem Z4l {es:List Bool}{rows:List (List Nat)} (wf:Wf es rows):Told es rows (E4 es rows):=by
 unfold E4 Q1g
 rw [aI (bp _)]
 exact Y4k wf es.length _ (W2g wf) (by omega)
section
variable {α:Type} [DecidableEq α]
theorem Y2c {rs:List (List Nat)}{i c:Nat}{f:Nat->Nat} (h:rs[i]?=some (B6.map f)) (hc:c∈B6):C4 rs i c=f c:=by
 unfold C4
 rw [au,au,h,Option.getD_some,ai]
 have:B6[c]?=some c:=by
  simp only [B6,aj,aK,bq]at hc
  rcases hc with rfl | rfl | rfl | rfl <;> rfl
 rw [this];rfl
theorem Z1t {ks:List α}{x:α} (h:x∈ks):ks[ks.idxOf x]?=some x:=by
 have hl:=aP.mpr h
 rw [ac hl,List.getElem_idxOf hl]
theorem Q0s.run {step:α->Nat->α}{start:α}{U ks:List α}{rs:List (List Nat)} (W:Q0s step start U ks rs):∀(w:List Nat) (i:Nat) (k:α),E1 w->ks[i]?=some k->ks[MC.run (C4 rs) i w]?=some (MC.run step k w)
 | [],i,k,_,h=>h
 | c::w,i,k,hw,h=>by
  have hc:=hw c (by simp)
  have e:=Y2c (W.row i k h) hc
  refine Q0s.run W w _ _ (fun d hd=>hw d (by simp [hd])) ?_
  rw [e]
  exact Z1t (W.mem k (aC h) c hc)
theorem Y6r {step:α->Nat->α}{start:α}{U:List α}{fin:α->Bool} (hU:∀k∈U,∀c∈B6,step k c∈U) (hs:start∈U) {w:List Nat} (hw:E1 w):F8 (Q5j U step start fin) w=fin (run step start w):=by
 have W:=Q3l (step:=step) (N:=U.length) hU hs (ah _)
 have h:=W.run w 0 start hw W.zero
 unfold F8 stW Q5j
 show(List.map fin _).getD (run (C4 _) 0 w) false=_
 rw [au,ai,h]
 rfl
end
section
variable {es:List Bool}{rows:List (List Nat)}
theorem Q3r {b:List Nat}{x:Nat} (h:x∈b):blk b (b.idxOf x)=x:=by
 show b.getD _ 0=x
 rw [au,Z1t h];rfl
theorem Z9o (wf:Wf es rows):∀(w:List Nat) (t s:Nat),E1 w->s<es.length->(K5 es rows).1[t]?=some (blk (E4 es rows) s)->(K5 es rows).1[run (C4 (K5 es rows).2) t w]?=some (blk (E4 es rows) (run (C4 rows) s w))
 | [],t,s,_,_,h=>h
 | c::w,t,s,hw,hs,h=>by
  have W:=Q3z wf
  have T:=Z4l wf
  have hc:=hw c (by simp)
  obtain⟨_,_,_,g⟩:=wf.row hs
  have hm:blk (E4 es rows) s∈E4 es rows:=Q0y (by rw [T.blk.len];exact hs)
  have h0:(E4 es rows).idxOf (blk (E4 es rows) s)<es.length:=by rw [<- T.blk.len];exact aP.mpr hm
  have e1:=Y2c (W.row t _ h) hc
  have e2:Q0a rows (E4 es rows) (blk (E4 es rows) s) c=blk (E4 es rows) (C4 rows s c):=T.cong _ _ h0 hs (Q3r hm) c (Z1 hc)
  refine Z9o wf w _ (C4 rows s c) (fun d hd=>hw d (by simp [hd])) (g c (Z1 hc)).2 ?_
  rw [e1,<- e2]
  exact Z1t (W.mem _ (aC h) c hc)
theorem Z2l (wf:Wf es rows) {w:List Nat} (hw:E1 w) {t s:Nat} (hs:s<es.length) (h:(K5 es rows).1[t]?=some (blk (E4 es rows) s)):K4 (E8 es rows).1 (E8 es rows).2 t w=K4 es rows s w:=by
 have T:=Z4l wf
 have r:=Z9o wf w t s hw hs h
 have hl:=Q6i wf w s hw hs
 have hm:blk (E4 es rows) (run (C4 rows) s w)∈E4 es rows:=Q0y (by rw [T.blk.len];exact hl)
 have h0:(E4 es rows).idxOf (blk (E4 es rows) (run (C4 rows) s w))<es.length:=by rw [<- T.blk.len];exact aP.mpr hm
 unfold K4 E8
 show(List.map _ (K5 es rows).1).getD (run (C4 (K5 es rows).2) t w) false=_
 rw [au,ai,r]
 exact T.fin _ _ h0 hl (Q3r hm)
theorem Z9n (wf:Wf es rows) {w:List Nat} (hw:E1 w):F8 (E8 es rows) w=F8 (es,rows) w:=Z2l wf hw wf.pos (Q3z wf).zero
theorem Y9q (wf:Wf es rows) {i j:Nat} (hi:i<(E8 es rows).1.length) (hj:j<(E8 es rows).1.length) (ne:i≠j):∃w,E1 w/\K4 (E8 es rows).1 (E8 es rows).2 i w≠K4 (E8 es rows).1 (E8 es rows).2 j w:=by
 have W:=Q3z wf
 have T:=Z4l wf
 have el:(E8 es rows).1.length=(K5 es rows).1.length:=by simp [E8]
 rw [el]at hi hj
 have gi:=ac hi
 have gj:=ac hj
 have nk:(K5 es rows).1[i]≠(K5 es rows).1[j]:=fun z=>ne ((List.getElem_inj W.nd).mp z)
 have mi:=W.sub _ (br hi)
 have mj:=W.sub _ (br hj)
 have li:(E4 es rows).idxOf (K5 es rows).1[i]<es.length:=by rw [<- T.blk.len];exact aP.mpr mi
 have lj:(E4 es rows).idxOf (K5 es rows).1[j]<es.length:=by rw [<- T.blk.len];exact aP.mpr mj
 obtain⟨w,hw,q⟩:=T.apart _ _ li lj (by rw [Q3r mi,Q3r mj];exact nk)
 refine⟨w,hw,?_⟩
 rw [Z2l wf hw li (by rw [Q3r mi];exact gi),Z2l wf hw lj (by rw [Q3r mj];exact gj)]
 exact q
theorem Z3v {g:Bool->Bool->Bool}{m1 m2:D8} (w1:F7 m1) (w2:F7 m2) {w:List Nat} (hw:E1 w):F8 (W0 g m1 m2) w=g (F8 m1 w) (F8 m2 w):=by
 have W:=Q3l (step:=Y8 m1 m2) (N:=(PU m1 m2).length) (fun k h c hc=>Q4f w1 w2 h hc) (Q4x w1 w2) (ah _)
 have h:F8 (W0 g m1 m2) w=F8 (Q5j (PU m1 m2) (Y8 m1 m2) (0,0) (Q3e g m1 m2)) w:=Z9n (W.wf (Q3e g m1 m2)) hw
 rw [h,Y6r (fun k h c hc=>Q4f w1 w2 h hc) (Q4x w1 w2) hw,W3g]
end
noncomputable def Y5 (met:List Nat):List Nat->List Nat->List Nat
 | _,[]=>[]
 | pre,x::r=>if x∈met++pre then Y5 met (pre++[x]) r else x::Y5 met (pre++[x]) r
noncomputable def N7:List Nat->List (List Nat)->List Nat
 | met,[]=>met
 | met,r::rs=>N7 (met++Y5 met [] r) rs
theorem Q8c (r:List Nat):∀(rs:List (List Nat)) (met:List Nat),N7 met (rs++[r])=N7 met rs++Y5 (N7 met rs) [] r
 | [],met=>rfl
 | x::rs,met=>Q8c r rs _
section
variable {α:Type} [DecidableEq α]
theorem Q8d (st:Nat->α) (n:Nat):∀(cs:List Nat) (ks:List α) (pre full:List Nat),full=pre++cs.map (fun c=>(E7 st cs ks pre).1.idxOf (st c))->n<=ks.length->(∀x,x<ks.length->x<n\/x∈pre)->(∀x∈pre,x<ks.length) ->
  Y5 (List.range n) pre (cs.map fun c=>(E7 st cs ks pre).1.idxOf (st c))=(List.range ((E7 st cs ks pre).1.length-ks.length)).map fun i=>ks.length+i
 | [],ks,pre,full,_,_,_,_=>by simp [E7,Y5]
 | c::cs,ks,pre,full,_,hn,h1,h2=>by
  have pp:=Q4i st cs (L6 ks (st c)) (pre++[(L6 ks (st c)).idxOf (st c)])
  have jA:st c∈L6 ks (st c):=Z2v.mpr (.inr rfl)
  have ei:(E7 st (c::cs) ks pre).1.idxOf (st c)=(L6 ks (st c)).idxOf (st c):=by rw [E7];exact Z1z pp jA
  have me:E7 st (c::cs) ks pre=E7 st cs (L6 ks (st c)) (pre++[(L6 ks (st c)).idxOf (st c)]):=rfl
  have bL:=pp.length_le
  rw [ao,Y5,ei]
  simp only [me]
  by_cases hm:st c∈ks
  ·have ea:L6 ks (st c)=ks:=Z0s hm
   have hl:=aP.mpr hm
   simp only [ea]at bL ⊢
   rw [aI (by
    rcases h1 _ hl with z | z
    ·exact bi _ (bz.mpr z)
    ·exact am _ z)]
   exact Q8d st n cs ks _ _ rfl hn (fun x hx=>(h1 x hx).imp id fun z=>by simp [z]) fun x hx=>by
    rcases aU.mp hx with z | z
    ·exact h2 x z
    ·rw [aQ.mp z];exact hl
  ·have ea:L6 ks (st c)=ks++[st c]:=Z0t hm
   have ex:(ks++[st c]).idxOf (st c)=ks.length:=by
    rw [List.idxOf_append,aD hm];simp
   simp only [ea,ex]at bL ⊢
   rw [aA,bZ]at bL
   rw [aD (fun z=>by
    rcases aU.mp z with z | z
    ·have:=bz.mp z;omega
    ·have:=h2 _ z;omega)]
   have ih:=Q8d st n cs (ks++[st c]) (pre++[ks.length]) _ rfl (by simp;omega) (fun x hx=>by
    rw [aA,bZ]at hx
    rcases bD x ks.length with z | z
    ·exact(h1 x z).imp id fun z=>by simp [z]
    ·exact .inr (by simp;omega)) fun x hx=>by
    rw [aA,bZ]
    rcases aU.mp hx with z | z
    ·have:=h2 x z;omega
    ·rw [aQ.mp z];omega
   rw [ih]
   rw [aA,bZ]
   obtain⟨m,mv⟩:∃m,(E7 st cs (ks++[st c]) (pre++[ks.length])).1.length=ks.length+1+m:=⟨_,(Nat.add_sub_cancel' bL).symm⟩
   rw [mv,show ks.length+1+m-(ks.length+1)=m by omega,show ks.length+1+m-ks.length=m+1 by omega,List.range_succ_eq_map,ao,aN]
   congr 1
   exact bb fun i _=>by simp;omega
theorem range_add (n m:Nat):List.range n++(List.range m).map (fun i=>n+i)=List.range (n+m):=(List.range_add).symm
theorem Y0m {step:α->Nat->α}:∀(n:Nat) (ks:List α) (rs:List (List Nat)),N7 [0] rs=List.range ks.length->N7 [0] (L9 step n ks rs).2=List.range (L9 step n ks rs).1.length
 | 0,ks,rs,h=>h
 | n+1,ks,rs,h=>by
  unfold L9
  split
  ·exact h
  ·rename_i k e
   refine Y0m n _ _ ?_
   have hp:=(Q4i (step k) B6 ks []).length_le
   rw [Q8c,h,Q8o,cm,Q8d (step k) ks.length B6 ks [] _ rfl (ah _) (fun x hx=>.inl hx) (fun x hx=>by cases hx),range_add]
   congr 1
   omega
theorem W0n {step:α->Nat->α}{start:α}{N:Nat}:N7 [0] (X3 N step start).2=List.range (X3 N step start).1.length:=Y0m N _ _ rfl
end
theorem W0m (es:List Bool) (rows:List (List Nat)):N7 [0] (E8 es rows).2=List.range (E8 es rows).1.length:=by
 have:=W0n (step:=Q0a rows (E4 es rows)) (start:=(E4 es rows).getD 0 0) (N:=es.length)
 have el:(E8 es rows).1.length=(K5 es rows).1.length:=by simp [E8]
 rw [el]
 exact this
end MC
end
section
namespace PySem
section
variable {prog:Program}{w:World}{A:Around}{E:VS9}{s:Shared}{d it:Addr}{es:Array DictEntry}{ep i:Nat}
def X7 (h:Heap) (d:Addr) (es:Array DictEntry) (ep:Nat):Prop:=∃o,h.get? d=some o/\o.ExactDict/\o.data=.dict es ep
theorem X7.ty (x:X7 s.heap d es ep):s.TypeIs (.ref d) "dict":=let ⟨o,ho,hc,_⟩:=x;⟨o,ho,hc.1⟩
theorem X7.at {h h':Heap} (x:X7 h d es ep) (k:∀o,h.get? d=some o->h'.get? d=some o):X7 h' d es ep:=let ⟨o,ho,r⟩:=x;⟨o,k o ho,r⟩
theorem Y1w {Q:VS9} (hd:(d==sysModules)=false) (x:X7 s.heap d es ep)
  (q:Q (.ref s.heap.objs.size) { s with heap:=s.heap.push { cls:=.type "dict_keyiterator",data:=.fields #[.ref d,.int 0 0,.int es.size 0,.int ep 0] } }):wpAny (model prog w) A (pyIter (.ref d)) Q E s:=by
 obtain⟨o,g,hc,dat⟩:=id x
 refine wpAny_pyIter_slot x.ty F.slot_dict_iter (bc F.slot_dict_iter x.ty F.entry_dict_iter ?_ (F.args_dict_iter_1 _))
 unfold Builtin.«dict.__iter__» Builtin.Dict.dictSlotNone
 refine a9 (a9 (wpAny_notOrdered_dict x.ty ?_))
 refine(show wpAny _ _ (pure (Value.ref d)) _ _ s from af ?_)
 refine(show wpAny _ _ (Builtin.Dict.showsAll d>>=_) _ _ s from ?_)
 unfold Builtin.Dict.showsAll
 rw [aD (fun z=>by rw [hd]at z;cases z)]
 refine a9 (af (a9 (wpAny_dictEntries g dat (a9 (wpAny_dictEpoch g dat ?_)))))
 refine a9 (bt (af ⟨_,rfl,"dict_keyiterator",_,⟨_,aw _ rfl,rfl⟩,cP.lookup,?_⟩))
 simpa [rawInt]using q
theorem Y1v {e:DictEntry}{Q:Option Value->Shared->Prop} (hi:s.heap.IsKeyIter it d i es.size ep) (x:X7 s.heap d es ep) (he:es[i]?=some e)
  (q:∀h',h'.IsKeyIter it d (i+1) es.size ep->Heap.SameBut it s.heap h'->Q (some e.key) { s with heap:=h' }):wpAny (model prog w) A (pyNext (.ref it)) Q E s:=by
 obtain⟨o,g,oc,od⟩:=id hi
 obtain⟨o2,g2,c2,d2⟩:=id x
 unfold pyNext
 refine a9 (dL (b8 (name:=Str.ofString "__next__") hi.typeIs cP (bc cP hi.typeIs F.entry_dict_keyiterator_next ?_ (F.args_dict_keyiterator_next_1 _))))
 refine a9 (af (a9 (a9 ?_)))
 first | refine a9 (gm hi.typeIs (af ?_)) | refine a9 (wpAny_typeNameOf_keyiter hi.typeIs (af ?_))
 refine a9 (wpAny_fieldsOf g od ?_)
 have own:Builtin.Dict_items.ownsTuple "dict_keyiterator"=false:=by decide
 simp only [own,cT,dl]
 refine(show wpAny _ _ (if (Value.ref d==Value.none)=true then _ else _) _ _ s from ?_)
 rw [aD (show ¬ ((Value.ref d==Value.none)=true)by exact bK)]
 refine a9 (af (a9 (wpAny_dictEntries g2 d2 ?_)))
 rw [aD (by simp)]
 refine a9 (af (a9 (wpAny_dictEpoch g2 d2 ?_)))
 rw [aD (by simp)]
 refine af ?_
 obtain⟨lt,ee⟩:=Array.getElem?_eq_some_iff.mp he
 simp only [show ¬ ((i:Int)<0)by omega,dl,bo,bE lt]
 refine a9 ?_
 first | refine a9 (gm hi.typeIs (af ?_)) | refine a9 (wpAny_typeNameOf_keyiter hi.typeIs (af ?_))
 refine a9 (wpAny_isOneOf_keyiter hi.typeIs ?_)
 refine(show wpAny _ _ (setField (.ref it) 1 (rawInt ((i:Int)+1))>>=_) _ _ s from ?_)
 refine a9 (wpAny_setField g od (by simp) ?_)
 have nx:(s.heap.update it (Obj.mapFields (·.setIfInBounds 1 (rawInt ((i:Int)+1))))).IsKeyIter it d (i+1) es.size ep :=
  ⟨_,fK _ g (Obj.isFreed_of_fields (Obj.data_mapFields od _)),(Obj.cls_mapFields ..).trans oc,by rw [Obj.data_mapFields od];simp [rawInt]⟩
 refine a9 (bu (a9 (wpAny_isOneOf_keyiter (s:={ s with heap:=s.heap.update it (Obj.mapFields (·.setIfInBounds 1 (rawInt ((i:Int)+1)))) }) nx.typeIs ?_)))
 refine(show wpAny _ _ (pure es[i].key) _ _ _ from ?_)
 rw [ee]
 exact af (af ⟨_,rfl,af (q _ nx (bB ..))⟩)
theorem Y1u {Q:Option Value->Shared->Prop} (hh:A.handled=none) (hi:s.heap.IsKeyIter it d es.size es.size ep) (x:X7 s.heap d es ep) (q:∀h',Heap.ExtBut it s.heap h'->Q none { s with heap:=h' }):wpAny (model prog w) A (pyNext (.ref it)) Q E s:=by
 obtain⟨o,g,oc,od⟩:=id hi
 obtain⟨o2,g2,c2,d2⟩:=id x
 unfold pyNext
 refine a9 (dL (b8 (name:=Str.ofString "__next__") hi.typeIs cP (bc cP hi.typeIs F.entry_dict_keyiterator_next ?_ (F.args_dict_keyiterator_next_1 _))))
 refine a9 (af (a9 (a9 ?_)))
 first | refine a9 (gm hi.typeIs (af ?_)) | refine a9 (wpAny_typeNameOf_keyiter hi.typeIs (af ?_))
 refine a9 (wpAny_fieldsOf g od ?_)
 have own:Builtin.Dict_items.ownsTuple "dict_keyiterator"=false:=by decide
 simp only [own,cT,dl]
 refine(show wpAny _ _ (if (Value.ref d==Value.none)=true then _ else _) _ _ s from ?_)
 rw [aD (show ¬ ((Value.ref d==Value.none)=true)by exact bK)]
 refine a9 (af (a9 (wpAny_dictEntries g2 d2 ?_)))
 rw [aD (by simp)]
 refine a9 (af (a9 (wpAny_dictEpoch g2 d2 ?_)))
 rw [aD (by simp)]
 refine af ?_
 simp only [show ¬ ((es.size:Int)<0)by omega,dl,bo,Array.getElem?_eq_none (ah es.size)]
 refine a9 ?_
 first | refine a9 (gm hi.typeIs (af ?_)) | refine a9 (wpAny_typeNameOf_keyiter hi.typeIs (af ?_))
 refine(show wpAny _ _ (setField (.ref it) 0 .none>>=_) _ _ s from ?_)
 refine a9 (wpAny_setField g od (by simp) ?_)
 refine(show wpAny _ _ (newExc (.type "StopIteration") []>>=_) _ _ _ from a9 ?_)
 simp only [newExc,newTuple]
 refine a9 (bt ?_ (by size_fits))
 refine a9 (m:=firstArgMember _ _) (wpAny_of_eq (a:=Value.none) (by first | rfl | (simp only [firstArgMember];rfl)) ?_)
 refine bt ?_ (by size_fits)
 simp only [raiseNew]
 refine a9 (wpAny_handled ?_)
 rw [show A.in1.handled=none by exact hh]
 refine a9 (af (wpAny_throw ?_))
 refine a9 (wpAny_isInstance (T:="StopIteration") (b:=true) ⟨_,aw _ rfl,rfl⟩ isSubtype_stop ?_)
 exact af (q _ (((bB ..).extBut.push _).push _))
theorem Walks.raw (hh:A.handled=none) (I d:Addr) (cA:d≠I) (es:Array DictEntry) (ep:Nat) :
  Walks prog w A I [I,d] [I] es.size (fun i v=>∃e,es[i]?=some e/\v=e.key) (fun i h=>h.IsKeyIter I d i es.size ep/\X7 h d es ep) where
 sub:=fun b hb=>by simp at hb;simp [hb]
 frame:=fun _ _ _ st k=>⟨st.1.at fun o e=>k I (by simp) o e,st.2.at fun o e=>k d (by simp) o e⟩
 item:=fun i s Q E lt st q=>Y1v st.1 st.2 (bE lt) fun h' a b=>q _ h' s.toks ⟨_,bE lt,rfl⟩ ⟨a,st.2.at fun o e=>b.extBut d o cA e⟩ fun c o hc e=>b.extBut c o (fun z=>hc (by simp [z])) e
 done:=fun s Q E st q=>Y1u hh st.1 st.2 fun h' a=>q h' s.toks fun c o hc e=>a c o (fun z=>hc (by simp [z])) e
 self:=fun _ _ _ _ st q=>wpAny_pyIter_keyiter st.1 q
theorem W4f (lo:(d==sysModules)=false):PySem.W.KdlSrc prog w "dict" d d es.size (fun i v=>∃e,es[i]?=some e/\v=e.key) (fun h=>X7 h d es ep) where
 type:=fun _ x=>x.ty
 there:=fun _ ⟨_,ho,_⟩=>⟨ak ho,ak ho⟩
 keep:=fun _ _ x k=>x.at fun o e=>k d (.inl rfl) o e
 notList:=by decide
 notTuple:=by decide
 hint:=fun _ _ _ _ x q=>PySem.W.kdl_hint_dict x.ty q
 iter:=fun _ s hh x=>⟨_,_,(fun _ _ q=>Y1w lo x q),Walks.raw hh _ d (ay (let ⟨_,ho,_⟩:=x;ak ho)) es ep,⟨⟨_,aw _ rfl,rfl,rfl⟩,x.at fun o e=>aa _ e⟩⟩
end
end PySem
namespace TK
open PySem PySem.Spec PyProof.Rows L2
noncomputable abbrev ktD (ks:List A7):D:=.tup (ks.map kyD)
noncomputable def Q1x:List R->(R->Prop)->Prop
 | [.dt kvs],Q=>Q (.nw (kvs.map fun p=>ktD p.1))
 | _,_=>False
theorem Z9s {rs:List R}{Q:R->Prop} (h:Q1x rs Q):∃kvs,rs=[.dt kvs]/\Q (.nw (kvs.map fun p=>ktD p.1)):=by
 unfold Q1x at h
 split at h
 ·exact⟨_,rfl,h⟩
 ·exact h.elim
theorem W0c:Q1o Q1x:=fun x P Q g h=>by
 obtain⟨kvs,rfl,h⟩:=Z9s h
 exact g _ h
theorem Q7e {K:Fg9}{H:Hp}:∀(ks:List A7),AllS K H (ks.map kyD) (ks.map kV)
 | []=>AllS.nil
 | .inl i::r=>AllS.cons A1.s_int (Q7e r)
 | .inr x::r=>AllS.cons A1.s_str (Q7e r)
theorem B4.keysT {K:Fg9}{H:Hp}:∀{kvs:List (List A7×D)}{ps:List (List A7×V)},B4 K H kvs ps->(kvs.map fun p=>ktD p.1)=ps.map fun p=>ktD p.1
 | [],ps,h=>by unfold B4 at h;subst h;rfl
 | p::kvs,ps,h=>by
  unfold B4 at h
  obtain⟨v,r,rfl,iv,h⟩:=h
  rw [ao,ao,B4.keysT h]
theorem Z1o {P:Program}{w:World}{H:Hp}{h:Heap}{a:Addr}{ps:List (List A7×V)} (ok:G1 P w H h a (.dT ps)):(a==sysModules)=false/\ps.length<=sizeLine /\
  ∃es ep,X7 h a es ep/\es.size=ps.length/\∀(i:Nat) (x:DictEntry),es[i]?=some x->∃b p,ps[i]?=some p/\x.key=.ref b/\H b=some (.tup (p.1.map kV)):=by
 obtain⟨z,hd,xs,rel,o,es,ep,ho,hc,qI,he,_⟩:=ok
 have len:ps.length=xs.length:=by
  have go:∀{ps:List (List A7×V)}{xs:List (List A7×Addr×Value)}{R:List A7×V->List A7×Addr×Value->Prop},Paired R ps xs->ps.length=xs.length:=by
   intro ps xs R r
   induction r with
   | nil=>rfl
   | cons _ _ ih=>simp [ih]
  exact go rel
 refine⟨hd,z,es,ep,⟨o,ho,hc,qI⟩,by rw [<- bU,he,ag,len],fun i x hx=>?_⟩
 have jq:es.toList[i]?=some x:=by rw [Array.getElem?_toList];exact hx
 rw [he,ai]at jq
 cases q:xs[i]? with
 | none=>rw [q]at jq;cases jq
 | some y =>
  rw [q]at jq
  have jq:entryOfKey (tupleKind (J9 P w)) y=x:=aB jq
  have key:∀{ps:List (List A7×V)}{xs:List (List A7×Addr×Value)}{i:Nat}{y:List A7×Addr×Value},Paired (fun(p:List A7×V) (q:List A7×Addr×Value)=>p.1=q.1/\H q.2.1=some (.tup (p.1.map kV))/\B7 p.2 q.2.2) ps xs->xs[i]?=some y->∃p,ps[i]?=some p/\H y.2.1=some (.tup (p.1.map kV)):=by
   intro ps xs i y r
   induction r generalizing i with
   | nil=>intro q;cases q
   | cons h _ ih =>
    intro q
    cases i with
    | zero=>cases q;exact⟨_,rfl,h.2.1⟩
    | succ i=>exact ih (by simpa using q)
  obtain⟨p,hp,hb⟩:=key rel q
  exact⟨y.2.1,p,hp,by rw [<- jq];rfl,hb⟩
section
variable {X:Cx}
theorem Y6y (hc:X.calm=true):Q1j X (.type "list") Q1x:=by
 intro ae s σ H xs us Q I rv ⟨rs,cq,h⟩
 obtain⟨kvs,rfl,h⟩:=Z9s h
 obtain⟨v,rfl,ir⟩:=V3 cq
 obtain⟨a,ps,rfl,e,kv⟩:=ir
 obtain⟨u,rfl,ru⟩:=T5 rv
 cases ru
 obtain⟨hd,z,es,ep,raw,rl,keys⟩:=Z1o (I.hok a _ e)
 refine PySem.W.kdl_call (W4f hd) (I.ok.hd hc) raw (by omega) fun h' tk c9 c' k e2 it=>?_
 have hn:H s.heap.objs.size=none:=I.hok.fresh (ah _)
 obtain⟨vs,vl,al⟩:∃vs,B9 vs c9.toList/\AllS X.K H (ps.map fun p=>ktD p.1) vs:=by
  have go:∀(ps:List (List A7×V)) (us:List Value),us.length=ps.length->(∀(j:Nat) (v:Value),us[j]?=some v->∃b p,ps[j]?=some p/\v=.ref b/\H b=some (.tup (p.1.map kV)))->∃vs,B9 vs us/\AllS X.K H (ps.map fun p=>ktD p.1) vs:=by
   intro ps
   induction ps with
   | nil=>intro us l _;cases us with
    | nil=>exact⟨[],.nil,AllS.nil⟩
    | cons _ _=>cases l
   | cons p ps ih =>
    intro us l f
    cases us with
    | nil=>cases l
    | cons u us =>
     obtain⟨b,p',e1,rfl,hb⟩:=f 0 _ rfl
     cases e1
     obtain⟨vs,h1,h2⟩:=ih us (by simpa using l) fun j v e=>f (j+1) v (by simpa using e)
     exact⟨.ref b::vs,.cons rfl h1,AllS.cons (A1.s_tup hb (Q7e _)) h2⟩
  refine go ps c9.toList (by rw [bU,it.1,rl]) fun j v ej=>?_
  obtain⟨x,hx,rfl⟩:=it.2 j v (by rw [<- Array.getElem?_toList];exact ej)
  obtain⟨b,p,hp,hk,hb⟩:=keys j x hx
  exact⟨b,p,hp,hk,hb⟩
 refine⟨.ref s.heap.objs.size,_,I.laid (t':=tk) (o:=.lst vs) k (ah _) ⟨by rw [<- al.length,ag];exact z,c9.toList,c',vl,by simpa using e2⟩,rfl,h _ _ (D5 hn _) ⟨_,_,rfl,hn,upd_same,?_⟩⟩
 rw [B4.keysT kv]
 exact al.mono (Kp.of (D5 hn _)) _ _
end
end TK
end
section
namespace TK
open PySem PySem.Spec PyProof.Rows L2
abbrev IsZ (h:Heap) (z TI TO:Addr) (f0:Value) (f:Bool):Prop :=
 h.get? z=some { cls:=.type "zip",dict:=none,data:=.fields #[f0,.bool f,.bool false,.ref TI,.ref TO],slots:=#[] }
def Q1p (h:Heap) (z TI TO:Addr):Prop:=∃f0 f,IsZ h z TI TO f0 f/\(f0=.none\/∃T:Addr,f0=rawInt T)
section
variable {P:Program}{w:World}{A:Around}{E:VS9}{s:Shared}{z TI TO i1 i2:Addr}{eC eB:List Addr}{n1 n2 k:Nat}{P1 P2:Nat->Value->Prop}{S1 S2:Nat->Heap->Prop}{a b:Value}
theorem Y5j {Q:Bool->Shared->Prop} (hz:Q1p s.heap z TI TO) (h1:∀f0 f,IsZ s.heap z TI TO f0 f->Q true s) (h2:∀h' (T:Addr),IsZ h' z TI TO (rawInt T) true->Heap.SameBut z s.heap h'->Q false { s with heap:=h' }) :
  wpAny (model P w) A (Builtin.SmallTypes.ownedTupleIsFree (.ref z)) Q E s:=by
 obtain⟨f0,f,hz,rfl | ⟨T,rfl⟩⟩:=hz
 ·unfold Builtin.SmallTypes.ownedTupleIsFree;exact a9 (aW hz rfl (x:=.none) rfl (af (h1 _ _ hz)))
 ·unfold Builtin.SmallTypes.ownedTupleIsFree;refine a9 (aW hz rfl (x:=rawInt T) rfl ?_)
  change wpAny (model P w) A (loadIfAlive ((T:Int).toNat)>>=_) _ _ _
  rw [bo]
  refine a9 ?_
  cases e:s.heap.get? T with
  | none =>
   have nj:∀{Q:Option Obj->Shared->Prop},Q none s->wpAny (model P w) A (loadIfAlive T) Q E s:=fun {Q} h=>by
    have h':Q (s.heap.get? T) s:=by rw [e];exact h
    exact fun _ _ _=>h'
   refine nj ?_
   rw [aI (show(none:Option Obj).isNone=true from rfl)]
   exact af (h1 _ _ hz)
  | some o =>
   refine PySem.W.kdx_alive e ?_
   rw [aD (by simp)]
   refine a9 (aW hz rfl (x:=.bool f) rfl ?_)
   cases f with
   | true =>
    rw [aD (by decide)]
    exact af (h2 s.heap T hz (Heap.SameBut.refl _ _))
   | false =>
    rw [aI (by decide)]
    exact a9 (bf hz (by simp) fun h₃ mH i5=>af (h2 h₃ T mH i5))
theorem V0a {Q:VS9} (Z:X9 z TI TO i1 i2 eC eB) (D1:Draws P w A i1 eC n1 P1 S1) (D2:Draws P w A i2 eB n2 P2 S2) (kn:Q1p s.heap z TI TO) (cy:IsPair s.heap TI (.ref i1) (.ref i2)) (cH:IsPair s.heap TO a b) (h1:S1 k s.heap) (h2:S2 k s.heap) (l1:k<n1) (l2:k<n2)
  (hQ:∀h' tk x y,P1 k x->P2 k y->Q1p h' z TI TO->(∃a b,IsPair h' TO a b)->S1 (k+1) h'->S2 (k+1) h'->IsPair h' s.heap.objs.size x y->(∀c o,c≠z->c≠TO->c≠i1->c≠i2->s.heap.get? c=some o->h'.get? c=some o)->Q (.ref s.heap.objs.size) { s with heap:=h',toks:=tk }) :
  wpAny (model P w) A (Builtin.«zip.__next__» ⟨[.ref z],[]⟩) (fun fin s'=>∃v,fin=.done (.ret v)/\Q v s') E s:=by
 obtain⟨f0,f,hz,hf⟩:=id kn
 change wpAny (model P w) A (field (.ref z) 2>>=_) _ _ s
 refine a9 (aW hz rfl (x:=Value.bool false) rfl ?_)
 change wpAny (model P w) A (field (.ref z) 3>>=_) _ _ s
 refine a9 (aW hz rfl (x:=.ref TI) rfl (a9 (bg cy rfl ?_)))
 change wpAny (model P w) A (Builtin.SmallTypes.ownedTupleIsFree (.ref z)>>=_) _ _ s
 refine a9 (Y5j kn (fun f0 f hz=>?_) fun g₁ T dN cV=>?_)
 ·rw [aI rfl]
  refine a9 (dU (a9 (aW hz rfl (x:=.ref TO) rfl (a9 (bf hz (by simp) fun g₁ dN cV=>?_)))))
  have dN:IsZ g₁ z TI TO .ellipsis f:=dN
  refine a9 ?_
  simp only [bQ,List.zipIdx_nil,be,dr];refine a9 (a9 (dJ ?_))
  change wpAny (model P w) A (Builtin.SmallTypes.nextOf (.ref i1)>>=_) _ _ _
  refine a9 (D1.item k _ _ _ l1 (J8 D1 h1 cV.extBut fun b hb=>(Z.f1 b hb).1) fun x g₂ jX px gU cK=>af ?_)
  have dQ:IsPair g₂ TO a b:=cK.extBut _ _ Z.to1 (cV.extBut _ _ Z.toz cH)
  refine a9 (bg dQ rfl (a9 (dj dQ fun g₃ eL db=>a9 (gp (af ?_)))))
  have eL:IsPair g₃ TO x b:=eL
  refine a9 (a9 (dJ ?q))
  change wpAny (model P w) A (Builtin.SmallTypes.nextOf (.ref i2)>>=_) _ _ _
  have gT:S2 k g₃:=J8 D2 (J8 D2 (J8 D2 h2 cV.extBut fun b hb=>(Z.f2 b hb).1) cK.extBut fun b hb=>(Z.f2 b hb).2.2) db.extBut fun b hb=>(Z.f2 b hb).2.1
  refine a9 (D2.item k _ _ _ l2 gT fun y g₄ lA py mZ eZ=>af ?_)
  have gR:IsPair g₄ TO x b:=eZ.extBut _ _ Z.to2 eL
  refine a9 (bg gR rfl (a9 (dj gR fun g₅ eK eY=>a9 (gp (af (af ?_))))))
  have eK:IsPair g₅ TO x y:=eK
  refine a9 (bg eK rfl (a9 (wpAny_newTuple ?_)))
  have hsz:g₅.objs.size=s.heap.objs.size:=by rw [eY.1,eZ.1,db.1,cK.1,cV.1]
  have ki:IsZ g₅ z TI TO .ellipsis f:=eY.extBut _ _ Z.toz.symm (eZ.extBut _ _ Z.i2z.symm (db.extBut _ _ Z.toz.symm (cK.extBut _ _ Z.i1z.symm dN)))
  have my:∀c o,c≠z->c≠TO->c≠i1->c≠i2->s.heap.get? c=some o->g₅.get? c=some o:=fun c o c1 c2 c3 c4 e=>eY.extBut _ _ c2 (eZ.extBut _ _ c4 (db.extBut _ _ c2 (cK.extBut _ _ c3 (cV.extBut _ _ c1 e))))
  have n9:S1 (k+1) g₅:=J8 D1 (J8 D1 (J8 D1 gU db.extBut fun b hb=>(Z.f1 b hb).2.1) eZ.extBut fun b hb=>(Z.f1 b hb).2.2) eY.extBut fun b hb=>(Z.f1 b hb).2.1
  have mY:S2 (k+1) g₅:=J8 D2 mZ eY.extBut fun b hb=>(Z.f2 b hb).2.1
  have gG:z<g₅.objs.size:=ak ki
  change wpAny (model P w) A (Builtin.SmallTypes.ownedTupleHandOut (.ref z) (Value.ref g₅.objs.size)>>=_) _ _ _
  refine a9 ?_
  unfold Builtin.SmallTypes.ownedTupleHandOut;refine a9 (bf (aa _ ki:IsZ (g₅.push { cls:=.type "tuple",data:=.seq #[x,y] }) z TI TO .ellipsis f) (by simp) fun g₇ jp k8=>?_)
  have jp:IsZ g₇ z TI TO (rawInt g₅.objs.size) f:=jp
  refine bf jp (by simp) fun g₈ ip k7=>af ⟨_,rfl,?_⟩
  have ip:IsZ g₈ z TI TO (rawInt g₅.objs.size) false:=ip
  have up:∀c o,c≠z->g₅.get? c=some o->g₈.get? c=some o:=fun c o c1 e=>k7.extBut _ _ c1 (k8.extBut _ _ c1 (aa _ e))
  have kL:IsPair g₈ g₅.objs.size x y:=k7.extBut _ _ (Nat.ne_of_gt gG) (k8.extBut _ _ (Nat.ne_of_gt gG) (aw _ rfl))
  rw [hsz]at ip kL
  have goal:=hQ g₈ lA x y px py ⟨_,_,ip,.inr ⟨_,rfl⟩⟩ ⟨_,_,up _ _ Z.toz eK⟩ (D1.frame _ _ _ n9 fun b hb o e=>up b o (Z.f1 b hb).1 e) (D2.frame _ _ _ mY fun b hb o e=>up b o (Z.f2 b hb).1 e) kL fun c o c1 c2 c3 c4 e=>up c o c1 (my c o c1 c2 c3 c4 e)
  rw [<- hsz]at goal
  exact goal
 ·rw [aD (by decide)]
  refine a9 ?_
  rw [<- cU]
  rw [be]
  refine a9 (a9 (bu ?_))
  change wpAny (model P w) A (Builtin.SmallTypes.nextOf (.ref i1)>>=fun x=>pure (some x)) _ _ _
  refine a9 (D1.item k _ _ _ l1 (J8 D1 h1 cV.extBut fun b hb=>(Z.f1 b hb).1) fun x g₂ jX px gU cK=>af (af ?_))
  dsimp only
  rw [be]
  refine a9 (a9 (bu ?_))
  change wpAny (model P w) A (Builtin.SmallTypes.nextOf (.ref i2)>>=fun x=>pure (some x)) _ _ _
  have n8:S2 k g₂:=J8 D2 (J8 D2 h2 cV.extBut fun b hb=>(Z.f2 b hb).1) cK.extBut fun b hb=>(Z.f2 b hb).2.2
  refine a9 (D2.item k _ _ _ l2 n8 fun y g₃ pj py gT db=>af (af ?_))
  dsimp only
  rw [dr]
  refine af (a9 (wpAny_newTuple (af ⟨_,rfl,?_⟩) (hsz:=by show 2<=sizeLine;decide)))
  have sz:g₃.objs.size=s.heap.objs.size:=by rw [db.1,cK.1,cV.1]
  have up:∀c o,c≠z->c≠i1->c≠i2->s.heap.get? c=some o->g₃.get? c=some o:=fun c o c1 c2 c3 e=>db.extBut _ _ c3 (cK.extBut _ _ c2 (cV.extBut _ _ c1 e))
  have lY:IsZ g₃ z TI TO (rawInt T) true:=db.extBut _ _ Z.i2z.symm (cK.extBut _ _ Z.i1z.symm dN)
  have na:S1 (k+1) g₃:=J8 D1 gU db.extBut fun b hb=>(Z.f1 b hb).2.2
  have goal:=hQ (g₃.push { cls:=.type "tuple",data:=.seq #[x,y] }) pj x y px py ⟨_,_,aa _ lY,.inr ⟨_,rfl⟩⟩ ⟨_,_,aa _ (up _ _ Z.toz Z.to1 Z.to2 cH)⟩ (D1.frame _ _ _ na fun b hb o e=>aa _ e) (D2.frame _ _ _ gT fun b hb o e=>aa _ e)
   (by
    have e:(g₃.push { cls:=.type "tuple",data:=.seq #[x,y] }).get? g₃.objs.size=some { cls:=.type "tuple",data:=.seq #[x,y] }:=aw _ rfl
    rw [sz]at e;exact e) fun c o c1 _ c3 c4 e=>aa _ (up c o c1 c3 c4 e)
  rw [<- sz]at goal
  exact goal
theorem W9z {Q:Fin->Shared->Prop} (Z:X9 z TI TO i1 i2 eC eB) (D1:Draws P w A i1 eC n1 P1 S1) (D2:Draws P w A i2 eB n2 P2 S2) (kn:Q1p s.heap z TI TO) (cy:IsPair s.heap TI (.ref i1) (.ref i2)) (cH:IsPair s.heap TO a b) (h1:S1 k s.heap) (h2:S2 k s.heap) (hk:k=n1\/(k<n1/\k=n2))
  (hE:∀h' tk e,(∀c o,c≠z->c≠TO->c≠i1->c≠i2->s.heap.get? c=some o->h'.get? c=some o)->(∃o,h'.get? e=some o/\o.cls=.type "StopIteration")->E (.ref e) { s with heap:=h',toks:=tk }) :
  wpAny (model P w) A (Builtin.«zip.__next__» ⟨[.ref z],[]⟩) Q E s:=by
 obtain⟨f0,f,hz,hf⟩:=id kn
 change wpAny (model P w) A (field (.ref z) 2>>=_) _ _ s
 refine a9 (aW hz rfl (x:=Value.bool false) rfl ?_)
 change wpAny (model P w) A (field (.ref z) 3>>=_) _ _ s
 refine a9 (aW hz rfl (x:=.ref TI) rfl (a9 (bg cy rfl ?_)))
 change wpAny (model P w) A (Builtin.SmallTypes.ownedTupleIsFree (.ref z)>>=_) _ _ s
 refine a9 (Y5j kn (fun f0 f hz=>?_) fun g₁ T dN cV=>?_)
 ·rw [aI rfl]
  refine a9 (dU (a9 (aW hz rfl (x:=.ref TO) rfl (a9 (bf hz (by simp) fun g₁ dN cV=>?_)))))
  have dN:IsZ g₁ z TI TO .ellipsis f:=dN
  refine a9 ?_
  simp only [bQ,List.zipIdx_nil,be,dr];refine a9 (a9 (dJ ?_))
  change wpAny (model P w) A (Builtin.SmallTypes.nextOf (.ref i1)>>=_) _ _ _
  have j9:S1 k g₁:=J8 D1 h1 cV.extBut fun b hb=>(Z.f1 b hb).1
  rcases hk with hk | ⟨bR,hk⟩
  ·subst hk
   refine a9 (D1.done _ _ _ j9 fun g₂ e cK he=>?_)
   obtain⟨oe,fF,gQ⟩:=he
   have km:IsZ g₂ z TI TO .ellipsis f:=cK _ _ Z.i1z.symm dN
   have jH:e≠z:=fun q=>by subst q;rw [km]at fF;cases fF;simp at gQ
   exact bf km (by simp) fun g₃ _ db=>hE g₃ _ e (fun c o c1 _ c3 _ x=>db.extBut _ _ c1 (cK _ _ c3 (cV.extBut _ _ c1 x))) ⟨oe,db.extBut _ _ jH fF,gQ⟩
  ·refine a9 (D1.item k _ _ _ bR j9 fun x g₂ jX px gU cK=>af ?_)
   have dQ:IsPair g₂ TO a b:=cK.extBut _ _ Z.to1 (cV.extBut _ _ Z.toz cH)
   refine a9 (bg dQ rfl (a9 (dj dQ fun g₃ eL db=>a9 (gp (af ?_)))))
   refine a9 (a9 (dJ ?q))
   change wpAny (model P w) A (Builtin.SmallTypes.nextOf (.ref i2)>>=_) _ _ _
   have gT:S2 k g₃:=J8 D2 (J8 D2 (J8 D2 h2 cV.extBut fun b hb=>(Z.f2 b hb).1) cK.extBut fun b hb=>(Z.f2 b hb).2.2) db.extBut fun b hb=>(Z.f2 b hb).2.1
   subst hk
   refine a9 (D2.done _ _ _ gT fun g₄ e eZ he=>?_)
   obtain⟨oe,fF,gQ⟩:=he
   have kj:IsZ g₄ z TI TO .ellipsis f:=eZ _ _ Z.i2z.symm (db.extBut _ _ Z.toz.symm (cK.extBut _ _ Z.i1z.symm dN))
   have jH:e≠z:=fun q=>by subst q;rw [kj]at fF;cases fF;simp at gQ
   exact bf kj (by simp) fun g₅ _ eY=>hE g₅ _ e (fun c o c1 c2 c3 c4 x=>eY.extBut _ _ c1 (eZ _ _ c4 (db.extBut _ _ c2 (cK.extBut _ _ c3 (cV.extBut _ _ c1 x))))) ⟨oe,eY.extBut _ _ jH fF,gQ⟩
 ·rw [aD (by decide)]
  refine a9 ?_
  rw [<- cU]
  rw [be]
  refine a9 (a9 (bu ?_))
  change wpAny (model P w) A (Builtin.SmallTypes.nextOf (.ref i1)>>=fun x=>pure (some x)) _ _ _
  have j9:S1 k g₁:=J8 D1 h1 cV.extBut fun b hb=>(Z.f1 b hb).1
  rcases hk with hk | ⟨bR,hk⟩
  ·subst hk
   exact a9 (D1.done _ _ _ j9 fun g₂ e cK he=>hE g₂ _ e (fun c o c1 _ c3 _ x=>cK _ _ c3 (cV.extBut _ _ c1 x)) he)
  ·refine a9 (D1.item k _ _ _ bR j9 fun x g₂ jX px gU cK=>af (af ?_))
   dsimp only
   rw [be]
   refine a9 (a9 (bu ?_))
   change wpAny (model P w) A (Builtin.SmallTypes.nextOf (.ref i2)>>=fun x=>pure (some x)) _ _ _
   have n8:S2 k g₂:=J8 D2 (J8 D2 h2 cV.extBut fun b hb=>(Z.f2 b hb).1) cK.extBut fun b hb=>(Z.f2 b hb).2.2
   subst hk
   exact a9 (D2.done _ _ _ n8 fun g₃ e db he=>hE g₃ _ e (fun c o c1 _ c3 c4 x=>db _ _ c4 (cK.extBut _ _ c3 (cV.extBut _ _ c1 x))) he)
theorem V0b {Q:Option Value->Shared->Prop} (Z:X9 z TI TO i1 i2 eC eB) (D1:Draws P w A.in1 i1 eC n1 P1 S1) (D2:Draws P w A.in1 i2 eB n2 P2 S2) (hz:Q1p s.heap z TI TO) (cy:IsPair s.heap TI (.ref i1) (.ref i2)) (cH:IsPair s.heap TO a b) (h1:S1 k s.heap) (h2:S2 k s.heap) (l1:k<n1) (l2:k<n2)
  (hQ:∀h' tk x y,P1 k x->P2 k y->Q1p h' z TI TO->(∃a b,IsPair h' TO a b)->S1 (k+1) h'->S2 (k+1) h'->IsPair h' s.heap.objs.size x y->(∀c o,c≠z->c≠TO->c≠i1->c≠i2->s.heap.get? c=some o->h'.get? c=some o)->Q (some (.ref s.heap.objs.size)) { s with heap:=h',toks:=tk }) :
  wpAny (model P w) A (pyNext (.ref z)) Q E s:=by
 have hT:s.TypeIs (.ref z) "zip":=let ⟨_,_,q,_⟩:=hz;⟨_,q,rfl⟩
 unfold pyNext
 exact a9 (dL (b8 (name:=Str.ofString "__next__") hT bI (bc bI hT fQ
  (V0a Z D1 D2 hz cy cH h1 h2 l1 l2 fun h' tk x y a1 a2 a3 a4 a5 a6 a7 a8=>af (hQ h' tk x y a1 a2 a3 a4 a5 a6 a7 a8)) (eV _))))
theorem V0c {Q:Option Value->Shared->Prop} (Z:X9 z TI TO i1 i2 eC eB) (D1:Draws P w A.in1 i1 eC n1 P1 S1) (D2:Draws P w A.in1 i2 eB n2 P2 S2) (hz:Q1p s.heap z TI TO) (cy:IsPair s.heap TI (.ref i1) (.ref i2)) (cH:IsPair s.heap TO a b) (h1:S1 k s.heap) (h2:S2 k s.heap) (hk:k=n1\/(k<n1/\k=n2))
  (hQ:∀h' tk,(∀c o,c≠z->c≠TO->c≠i1->c≠i2->s.heap.get? c=some o->h'.get? c=some o)->Q none { s with heap:=h',toks:=tk }):wpAny (model P w) A (pyNext (.ref z)) Q E s:=by
 have hT:s.TypeIs (.ref z) "zip":=let ⟨_,_,q,_⟩:=hz;⟨_,q,rfl⟩
 unfold pyNext
 refine a9 (dL (b8 (name:=Str.ofString "__next__") hT bI (bc bI hT fQ (W9z Z D1 D2 hz cy cH h1 h2 hk fun h' tk e kp he=>?_) (eV _))))
 obtain⟨o,ho,hc⟩:=he
 exact a9 (wpAny_isInstance (T:="StopIteration") (b:=true) ⟨o,ho,hc⟩ isSubtype_stop (af (hQ _ _ kp)))
end
noncomputable abbrev zt1 (h:Heap) (l:Addr):Heap:=h.push { cls:=.type "tuple_iterator",data:=.fields #[.ref l,.int 0 0] }
noncomputable abbrev zt2 (h:Heap) (l t:Addr):Heap:=(zt1 h l).push { cls:=.type "tuple_iterator",data:=.fields #[.ref t,.int 0 0] }
noncomputable abbrev zt3 (h:Heap) (l t:Addr):Heap:=(zt2 h l t).push { cls:=.type "tuple",data:=.seq #[.ref h.objs.size,.ref (zt1 h l).objs.size] }
noncomputable abbrev zt4 (h:Heap) (l t:Addr):Heap:=(zt3 h l t).push { cls:=.type "tuple",data:=.seq #[.none,.none] }
noncomputable abbrev zt5 (h:Heap) (l t:Addr):Heap:=(zt4 h l t).push { cls:=.type "zip",data:=.fields #[.none,.bool false,.bool false,.ref (zt2 h l t).objs.size,.ref (zt3 h l t).objs.size] }
theorem W9t (l t:Addr) (xs ys:Array Value) :
  Meets (Builtin.«zip.__new__» ⟨[.type "zip",.ref l,.ref t],[]⟩) (fun _ R s=>s.heap.IsTuple l xs/\s.heap.IsTuple t ys/\R (.ok (.ret (.ref (zt4 s.heap l t).objs.size))) { s with heap:=zt5 s.heap l t }) :=
 Meets.of_wp fun prog w A R s h=>by
  obtain⟨hp,g,d,tk,os⟩:=s;obtain⟨dD,de,h⟩:=h
  have hsub:=sub_zip
  have mT:Heap.IsTuple (Shared.heap ⟨hp,g,d,tk,os⟩) l xs:=dD
  have mS:Heap.IsTuple (Shared.heap ⟨hp.push { cls:=.type "tuple_iterator",data:=.fields #[.ref l,.int 0 0] },g,d,tk,os⟩) t ys:=Heap.IsTuple.push de _
  wp_walk using dW mT,dW mS
  exact⟨_,rfl,h⟩
theorem Y7f {P:Program}{w:World}{A:Around}{E:VS9}{s:Shared}{l t:Addr}{xs ys:Array Value}{Q:VS9} (hl:s.heap.IsTuple l xs) (ht:s.heap.IsTuple t ys)
  (h:∀h',IsZip h' (s.heap.objs.size+4) (s.heap.objs.size+2) (s.heap.objs.size+3) .none->IsPair h' (s.heap.objs.size+2) (.ref s.heap.objs.size) (.ref (s.heap.objs.size+1))->IsPair h' (s.heap.objs.size+3) .none .none ->
   h'.IsTupleIter s.heap.objs.size l 0->h'.IsTupleIter (s.heap.objs.size+1) t 0->(∀c o,s.heap.get? c=some o->h'.get? c=some o)->Q (.ref (s.heap.objs.size+4)) { s with heap:=h' }) :
  wpAny (model P w) A (call (.type "zip") [.ref l,.ref t]) Q E s:=by
 refine callType_new F.called_zip (by decide) (F.typeCall_zip_2 _ _) (F.newCall_zip_2 _ _) (fun obj=>F.args_object_init_3 obj _ _) F.entry_zip_new (W9t l t xs ys) ⟨hl,ht,?_⟩
 have e1:(zt1 s.heap l).objs.size=s.heap.objs.size+1:=bn ..
 have e2:(zt2 s.heap l t).objs.size=s.heap.objs.size+2:=by rw [bn,e1]
 have e3:(zt3 s.heap l t).objs.size=s.heap.objs.size+3:=by rw [bn,e2]
 have e4:(zt4 s.heap l t).objs.size=s.heap.objs.size+4:=by rw [bn,e3]
 have g5:(zt5 s.heap l t).get? (zt4 s.heap l t).objs.size=some _:=aw _ rfl
 have g4:(zt5 s.heap l t).get? (zt3 s.heap l t).objs.size=some _:=aa _ (aw _ rfl)
 have g3:(zt5 s.heap l t).get? (zt2 s.heap l t).objs.size=some _:=aa _ (aa _ (aw _ rfl))
 have g2:(zt5 s.heap l t).get? (zt1 s.heap l).objs.size=some _:=aa _ (aa _ (aa _ (aw _ rfl)))
 have g1:(zt5 s.heap l t).get? s.heap.objs.size=some _:=aa _ (aa _ (aa _ (aa _ (aw _ rfl))))
 rw [e2,e3,e4]at g5
 rw [e1,e2]at g3
 rw [e3]at g4
 rw [e1]at g2
 rw [e4]
 exact⟨⟨_,g5,rfl⟩,h _ g5 g3 g4 ⟨_,g1,rfl,rfl⟩ ⟨_,g2,rfl,rfl⟩ fun c o x=>aa _ (aa _ (aa _ (aa _ (aa _ x))))⟩
theorem Y5k {P:Program}{w:World}{A:Around}{E:VS9}{s:Shared}{z TI TO:Addr}{f0:Value}{f:Bool}{Q:VS9} (hz:IsZ s.heap z TI TO f0 f) (hQ:Q (.ref z) s):wpAny (model P w) A (pyIter (.ref z)) Q E s:=by
 have q:s.TypeIs (.ref z) "zip":=⟨_,hz,rfl⟩
 exact wpAny_pyIter_slot q F.slot_zip_iter (bc F.slot_zip_iter q F.entry_zip_iter (show wpAny _ _ (ret (.ref z)) _ _ s from af ⟨_,rfl,"zip",_,q,bI.lookup,hQ⟩) (F.args_zip_iter_1 _))
noncomputable def Ipp (K:Fg9) (l1 l2:Addr) (n:Nat):It:=⟨fun i H=>i<n/\∃xs ys,C0 K H l1 xs/\C0 K H l2 ys/\min xs.length ys.length=n,
 fun i H v H'=>∃T x y,(∀xs,C0 K H l1 xs->xs[i]?=some x)/\(∀ys,C0 K H l2 ys->ys[i]?=some y)/\H T=none/\v=.ref T/\H'=upd H T (.tup [x,y]),fun i H=>i=n/\∃xs ys,C0 K H l1 xs/\C0 K H l2 ys/\min xs.length ys.length=n⟩
theorem W8s {P:Program}{w:World}{K:Fg9}{nm:Str}{pt:Pos}{z TI TO i1 i2 l1 l2:Addr}{n:Nat} (Z:X9 z TI TO i1 i2 [i1,l1] [i2,l2]) (dD:l1≠i1) (de:l2≠i2) :
  Z0 P w K (.Name nm pt) (Ipp K l1 l2 n) [z,TO,i1,i2,TI] z (fun i h=>Q1p h z TI TO/\IsPair h TI (.ref i1) (.ref i2)/\(∃a b,IsPair h TO a b)/\h.IsTupleIter i1 l1 i/\h.IsTupleIter i2 l2 i) where
 mem:=by simp
 obj:=fun i h ⟨hz,cy,⟨a,b,cH⟩,⟨o1,h1,_,d1⟩,⟨o2,h2,_,d2⟩⟩ c hc=>by
  simp only [aj,aK,bq]at hc
  rcases hc with rfl | rfl | rfl | rfl | rfl
  ·obtain⟨_,_,q,_⟩:=hz;exact⟨_,q,fun v z=>by cases z⟩
  ·exact⟨_,cH,fun v z=>by cases z⟩
  ·exact⟨o1,h1,fun v z=>by rw [d1]at z;cases z⟩
  ·exact⟨o2,h2,fun v z=>by rw [d2]at z;cases z⟩
  ·exact⟨_,cy,fun v z=>by cases z⟩
 keep:=fun i h h' ⟨hz,cy,⟨a,b,cH⟩,h1,⟨o2,h2,r2⟩⟩ k=>⟨(let ⟨f0,f,q,r⟩:=hz;⟨f0,f,k z (by simp) _ q,r⟩),k TI (by simp) _ cy,⟨a,b,k TO (by simp) _ cH⟩,(let ⟨o1,e1,r1⟩:=h1;⟨o1,k i1 (by simp) o1 e1,r1⟩),o2,k i2 (by simp) o2 h2,r2⟩
 item:=by
  intro X hP hw hK hc i ae s σ H E I hf st hg
  subst hP hw hK
  obtain⟨bR,xs,ys,iy,iw,hn⟩:=hg
  obtain⟨aS,rv,p1,kq⟩:=I.tuple iy
  obtain⟨bW,di,p2,m3⟩:=I.tuple iw
  have lT:=rv.length
  have lR:=di.length
  have hd:X.A.in1.handled=none:=I.ok.hd hc
  have D1:=Q1s (P:=X.prog) (w:=X.w) (A:=X.A.in1) hd i1 l1 dD aS.toArray
  have D2:=Q1s (P:=X.prog) (w:=X.w) (A:=X.A.in1) hd i2 l2 de bW.toArray
  obtain⟨sz,gx,⟨a0,b0,ig⟩,s1,s2⟩:=st
  have hx:xs[i]?=some (xs[i]'(by omega)):=ac _
  have hy:ys[i]?=some (ys[i]'(by omega)):=ac _
  obtain⟨u,hu,ru⟩:=rv.get hx
  obtain⟨u',kt,kc⟩:=di.get hy
  refine V0b Z D1 D2 sz gx ig ⟨s1,p1⟩ ⟨s2,p2⟩ (by simp;omega) (by simp;omega) fun h' tk x y px py z1 t1 a1 a2 pr kp=>⟨_,rfl,?_⟩
  have ex:x=u:=by
   have:aS[i]?=some x:=by simpa using px
   rw [hu]at this;exact(aB this).symm
  have ey:y=u':=by
   have:bW[i]?=some y:=by simpa using py
   rw [kt]at this;exact(aB this).symm
  subst ex ey
  refine(show wpAny (model X.prog X.w) X.A (pure ()) _ _ _ from af ?_)
  have io:∀c o,c∉[z,TO,i1,i2]->s.heap.get? c=some o->h'.get? c=some o:=fun c o hc e=>by
   simp only [aj,aK,bq,not_or]at hc
   exact kp c o hc.1 hc.2.1 hc.2.2.1 hc.2.2.2 e
  have eM:IsTup h' s.heap.objs.size ([x,y]).toArray:=⟨_,pr,rfl,_,rfl⟩
  have jG:∀b∈[z,TO,i1,i2],K2 X ae H b:=fun b hb=>hf b (by
   simp only [aj,aK,bq]at hb ⊢
   rcases hb with h | h | h | h <;> simp [h])
  have I2:=Q6r (t':=tk) (xs:=[xs[i]'(by omega),ys[i]'(by omega)]) I io jG (ah s.heap.objs.size) eM (.cons ru (.cons kc .nil)) (by show 2<=sizeLine;decide)
  refine⟨.ref s.heap.objs.size,_,I2,rfl,⟨s.heap.objs.size,_,_,fun zs hz=>by rw [I.tuple_inj hz iy];exact hx,fun zs hz=>by rw [I.tuple_inj hz iw];exact hy,I.hok.fresh (ah _),rfl,rfl⟩,⟨z1,kp _ _ Z.tiz Z.tito Z.ti1 Z.ti2 gx,t1,a1.1,a2.1⟩,fun b hb=>?_⟩
  ·have mN:b≠s.heap.objs.size:=fun zz=>by
    obtain⟨o,ho⟩:∃o,s.heap.get? b=some o:=by
     simp only [aj,aK,bq]at hb
     obtain⟨o1,h1,_⟩:=s1
     obtain⟨o2,h2,_⟩:=s2
     rcases hb with rfl | rfl | rfl | rfl | rfl
     ·obtain⟨_,_,q,_⟩:=sz;exact⟨_,q⟩
     ·exact⟨_,ig⟩
     ·exact⟨_,h1⟩
     ·exact⟨_,h2⟩
     ·exact⟨_,gx⟩
    exact aO _ (zz ▸ ak ho)
   rw [B0 mN]
   exact(hf b hb).1
 done:=by
  intro X hP hw hK hc i ae s σ H E I hf st hg
  subst hP hw hK
  obtain⟨hi,xs,ys,iy,iw,hn⟩:=hg
  obtain⟨aS,rv,p1,kq⟩:=I.tuple iy
  obtain⟨bW,di,p2,m3⟩:=I.tuple iw
  have lT:=rv.length
  have lR:=di.length
  have hd:X.A.in1.handled=none:=I.ok.hd hc
  have D1:=Q1s (P:=X.prog) (w:=X.w) (A:=X.A.in1) hd i1 l1 dD aS.toArray
  have D2:=Q1s (P:=X.prog) (w:=X.w) (A:=X.A.in1) hd i2 l2 de bW.toArray
  obtain⟨sz,gx,⟨a0,b0,ig⟩,s1,s2⟩:=st
  have jG:∀b∈[z,TO,i1,i2],K2 X ae H b:=fun b hb=>hf b (by
   simp only [aj,aK,bq]at hb ⊢
   rcases hb with h | h | h | h <;> simp [h])
  have hk:i=aS.toArray.size\/(i<aS.toArray.size/\i=bW.toArray.size):=by
   simp only [aE]
   omega
  refine V0c Z D1 D2 sz gx ig ⟨s1,p1⟩ ⟨s2,p2⟩ hk fun h' tk kp=>⟨rfl,Q3k I (fun c o hc e=>?_) jG⟩
  simp only [aj,aK,bq,not_or]at hc
  exact kp c o hc.1 hc.2.1 hc.2.2.1 hc.2.2.2 e
 self:=fun A i s Q E st h=>by obtain⟨⟨f0,f,q,r⟩,_⟩:=st;exact Y5k q h
theorem W9m {K:Fg9}{H:Hp}{l1 l2:Addr}{xs ys:List V}{ds es:List D} (lD:H l1=some (.tup xs)) (al:AllS K H ds xs) (cW:H l2=some (.tup ys)) (cJ:AllS K H es ys):YlS K (Ipp K l1 l2 (min ds.length es.length)) (P3 ds es) H where
 go:=fun H' s i hi=>by
  rw [Q6z]at hi
  exact⟨hi,xs,ys,C0.of (s _ _ lD),C0.of (s _ _ cW),by rw [al.length,cJ.length]⟩
 yld:=fun H' s i v dh d hd ⟨T,x,y,hx,hy,hT,hv,hH⟩=>by
  subst hH hv
  refine⟨D5 hT _,?_⟩
  obtain⟨d1,d2,e1,e2,rfl⟩:=Z6a hd
  obtain⟨v1,jt,q1⟩:=al.get e1
  obtain⟨v2,js,q2⟩:=cJ.get e2
  rw [hx xs (C0.of (s _ _ lD))]at jt;cases jt
  rw [hy ys (C0.of (s _ _ cW))]at js;cases js
  have kp:=Kp.of (s.trans (D5 hT (.tup [x,y])))
  exact A1.s_tup upd_same (AllS.cons (q1.mono kp _ _) (AllS.cons (q2.mono kp _ _) AllS.nil))
 stop:=fun H' s=>⟨Q6z _ _,xs,ys,C0.of (s _ _ lD),C0.of (s _ _ cW),by rw [al.length,cJ.length]⟩
section
variable {X:Cx}{H0:Hp}{a b:Expr}{p pos:Pos}{wr:WA}
noncomputable def Q7u (wr:WA):P5:=fun τ Q=>wr τ fun rs=>∃ds es,rs=[.st (.tup ds),.st (.tup es)]/\Q (P3 ds es)
theorem E5.zipP {nm:Str}{pt:Pos} (hg:Gl X "zip") (hm:X.mg "zip"=none) (hv:bootBuiltins "zip"=some (.type "zip")) (ha:DA X H0 [a,b] wr) (he:starEach [a,b] X.env=(false,eval a X.env)::starEach [b] X.env:=by rfl) (hpl:(backTo pos (starEach [b] X.env)).any (·.1)=false:=by rfl) :
  E5 X H0 (.Name nm pt) (.Call (.Name "zip" p) [a,b] [] pos) (Q7u wr) where
 mono:=fun τ P Q f h=>ha.mono τ _ _ (fun r ⟨ds,es,e1,q⟩=>⟨ds,es,e1,f _ q⟩) h
 pi:=by
  intro ae s σ H R I ⟨τ,hR,h⟩
  refine bh (Y4 I hg hm hv ?_ (by decide) (by decide))
  refine aY (B2 (ha.pa pos ae s σ H (fun vs H1=>A4 H H1/\∃l1 l2 xs ys ds es,vs=[.ref l1,.ref l2]/\H1 l1=some (.tup xs)/\AllS X.K H1 ds xs/\H1 l2=some (.tup ys)/\AllS X.K H1 es ys/\∀J H',A4 H H'->YlS X.K J (P3 ds es) H'->R J H') I
   ⟨τ,hR,ha.mono τ _ _ (fun rs ⟨ds,es,e1,q⟩ vs H1 s1 cq=>⟨s1,by
    subst e1
    obtain⟨v,u,rfl,ir,gF⟩:=Z0u cq
    have ir:A1 X.K H1 (.tup ds) v:=ir
    unfold A1 at ir
    obtain⟨l,xs,rfl,sq,al⟩:=ir
    have gF:A1 X.K H1 (.tup es) u:=gF
    unfold A1 at gF
    obtain⟨l2,ys,rfl,cW,cJ⟩:=gF
    exact⟨l,l2,xs,ys,ds,es,rfl,sq,al,cW,cJ,q⟩⟩) h⟩) fun us s1 ⟨vs,H1,I1,rv,sm,l1,l2,xs,ys,ds,es,e1,sq,al,cW,cJ,q⟩=>?_) he hpl
  subst e1
  have di:∃u1 u2,us=[u1,u2]/\B7 (.ref l1) u1/\B7 (.ref l2) u2:=by
   cases rv with
   | cons r1 rr =>
    obtain⟨u2,rfl,r2⟩:=T5 rr
    exact⟨_,u2,rfl,r1,r2⟩
  obtain⟨u1,u2,rfl,r1,r2⟩:=di
  cases (show u1=Value.ref l1 from r1)
  cases (show u2=Value.ref l2 from r2)
  obtain⟨aS,hJ,pl,g8⟩:=I1.tuple (C0.of sq)
  obtain⟨bW,ii,e9,ko⟩:=I1.tuple (C0.of cW)
  have hl:@LT.lt Nat _ l1 s1.heap.objs.size:=by obtain⟨o,ho,_⟩:=id pl;exact ak ho
  have de:@LT.lt Nat _ l2 s1.heap.objs.size:=by obtain⟨o,ho,_⟩:=id e9;exact ak ho
  refine Y7f pl e9 fun h' hz cy cH kE jS k=>?_
  have Z:X9 (s1.heap.objs.size+4) (s1.heap.objs.size+2) (s1.heap.objs.size+3) s1.heap.objs.size (s1.heap.objs.size+1) [s1.heap.objs.size,l1] [s1.heap.objs.size+1,l2]:=by
   refine⟨?_,?_,?_,?_,?_,?_,?_,?_,?_,?_,fun b hb=>?_,fun b hb=>?_⟩
   all_goals first | (show ¬ ((_:Nat)=(_:Nat));omega) | skip
   all_goals simp only [aj,aK,bq]at hb
   all_goals rcases hb with rfl | rfl <;> refine⟨?_,?_,?_⟩ <;> (show ¬ ((_:Nat)=(_:Nat));omega)
  refine Y5k hz ⟨s1.heap.objs.size+4,[s1.heap.objs.size+4,s1.heap.objs.size+3,s1.heap.objs.size,s1.heap.objs.size+1,s1.heap.objs.size+2],_,_,H1,rfl,I1.kept (t':=s1.toks) k,W8s (n:=Min.min ds.length es.length) Z (ay hl) (ay (bx de)),⟨⟨_,_,hz,.inl rfl⟩,cy,⟨_,_,cH⟩,kE,jS⟩,fun b hb=>?_,q _ _ sm (W9m sq al cW cJ)⟩
  have hb:s1.heap.objs.size<=b:=by
   simp only [aj,aK,bq]at hb
   rcases hb with rfl | rfl | rfl | rfl | rfl <;> first | exact ah _ | exact Nat.le_add_right _ _
  exact I1.fpOk hb (I1.hok.fresh hb)
@[simp] theorem W6e {τ:A8}{Q:List D->Prop}:Q7u wr τ Q=wr τ fun rs=>∃ds es,rs=[.st (.tup ds),.st (.tup es)]/\Q (P3 ds es):=rfl
end
noncomputable def FzT (K:Fg9) (a:Addr) (kvs:List (List A7×D)):Hp->Prop:=fun H=>∃o ps,H a=some (.frz o (.dT ps))/\B4 K H kvs ps
theorem FzT.mono {K:Fg9}{a:Addr}{kvs:List (List A7×D)}:Q2j (FzT K a kvs):=fun H H' k ⟨o,ps,h,q⟩=>⟨o,ps,k.frz _ _ _ h,q.mono k _ _⟩
section
variable {X:Cx}{ae:Pn9} {σ:St}{H H0:Hp}{s:Shared}{a:Addr}
theorem Y8o {ps:List (List A7×V)} (I:A0 X ae σ H s) (h:H a=some (.dT ps)):∃o,A0 X ae σ (upd H a (.frz o (.dT ps))) s:=by
 have ok:=I.hok a _ h
 obtain⟨z,hd,xs,rel,o,es,ep,ho,r⟩:=id (show G1 X.prog X.w H s.heap a (.dT ps)from ok)
 refine⟨o,I.write (t':=s.toks) (h':=s.heap) (e:=a) (o:=.frz o (.dT ps)) (by rw [h];trivial) (.inl rfl) (fun b u _ k=>k) ⟨_,ho⟩ ⟨ho,z,hd,xs,L2.Paired.mapP rel fun p q ⟨h1,h2,h3⟩=>⟨h1,?_,h3⟩,o,es,ep,ho,r⟩⟩
 rw [B0 (W8 h2 h (by intro z;cases z))];exact h2
theorem B5.freezeT {K:Fg9} {τ:A8}{i:Nat}{kvs:List (List A7×D)}{o:Obj}{ps:List (List A7×V)} (hR:B5 K H0 τ σ H) (e1:τ[i]?=some (some (.dt kvs))) (hv:σ[i]?=some (some (.ref a))) (h0:H0 a=none) (sq:H a=some (.dT ps)) (kv:B4 K H kvs ps) :
  B5 K H0 (τ.set i (some (.cl a (FzT K a kvs)))) σ (upd H a (.frz o (.dT ps))) :=
 hR.mutG e1 rfl hv h0 sq (by intro xs z;cases z) (by intro o u z;cases z) ⟨rfl,⟨o,ps,upd_same,kv.mono (Kp.updM sq (by intro xs z;cases z) (by intro o u z;cases z) _) _ _⟩,FzT.mono⟩
end
section
variable {X:Cx}{H0:Hp}{st:Stmt}{w:WS}
def Z4x (K:Fg9) (i:Nat) (w:WS):WS:=fun E τ=>w { E with nx:=fun τ'=>∃kvs,τ'[i]?=some (some (.dt kvs))/\∀a,E.nx (τ'.set i (some (.cl a (FzT K a kvs)))) } τ
theorem DS.fzT (i:Nat) (h:DS X H0 st w):DS X H0 st (Z4x X.K i w) where
 mono:=fun τ E F le q=>h.mono τ { E with nx:=fun τ'=>∃kvs,τ'[i]?=some (some (.dt kvs))/\∀a,E.nx (τ'.set i (some (.cl a (FzT X.K a kvs)))) } { F with nx:=fun τ'=>∃kvs,τ'[i]?=some (some (.dt kvs))/\∀a,F.nx (τ'.set i (some (.cl a (FzT X.K a kvs)))) } ⟨fun τ' ⟨kvs,e,q⟩=>⟨kvs,e,fun a=>le.nx _ (q a)⟩,le.rt,le.bk,le.ct⟩ q
 ps:=Q0 (Q8k h.ps) fun D σ H ⟨τ,hR,q⟩=>⟨τ,hR,h.mono τ { K8 X.K H0 H D with nx:=fun τ'=>∃kvs,τ'[i]?=some (some (.dt kvs))/\∀a,(K8 X.K H0 H D).nx (τ'.set i (some (.cl a (FzT X.K a kvs)))) } _ ⟨fun τ' ⟨kvs,e,q⟩ σ' H' kp cM ae s I=>by
  obtain⟨a,ps,hv,h0,sq,kv⟩:=cM.dtAt e
  obtain⟨o,I2⟩:=Y8o I sq
  exact⟨_,I2,q a σ' _ (kp.trans (Kp.updM sq (by intro xs z;cases z) (by intro o u z;cases z) _)) (cM.freezeT e hv h0 sq kv)⟩,fun _ h=>h,fun _ h=>h,fun _ h=>h⟩ q⟩
end
section
variable {X:Cx}{H0:Hp}{a b c e o tg:Expr}{pos bF p2 apos bv:Pos}{wa wb wi we wv:WE}{x:Str}{i:Nat}
theorem B5.ftAt {K:Fg9}{H:Hp} {τ:A8} {σ:St}{a:Addr}{kvs:List (List A7×D)} (hR:B5 K H0 τ σ H) (e1:τ[i]?=some (some (.cl a (FzT K a kvs)))):σ[i]?=some (some (.ref a))/\∃o ps,H a=some (.frz o (.dT ps))/\B4 K H kvs ps:=by
 obtain⟨v,hv,rfl,q,_⟩:=hR.here i _ e1
 exact⟨hv,q⟩
theorem Z9k {K:Fg9}{H:Hp}{ds:List D}{ks:List A7}{v:V} (e:O5 ds=some ks) (h:A1 K H (.tup ds) v):∃b,v=.ref b/\H b=some (.tup (ks.map kV)):=by
 unfold A1 at h
 obtain⟨b,xs,rfl,sb,al⟩:=h
 rw [Q2v e al]at sb
 exact⟨b,rfl,sb⟩
def Q9v (K:Fg9) (i:Nat) (we:WE):WE:=fun τ Q=>∃a kvs,τ[i]?=some (some (.cl a (FzT K a kvs)))/\we τ fun r=>∃ds ks d,r=.st (.tup ds)/\O5 ds=some ks/\C7 kvs ks=some d/\Q (.st d)
theorem DE.tget (hu:X.A.units+1<cLine) (ho:PE X o (O2 i)) (he:DE X H0 e we) (hs:Q2k e):DE X H0 (.Subscript o e pos) (Q9v X.K i we) where
 mono:=fun τ P Q f ⟨a,kvs,e1,h⟩=>⟨a,kvs,e1,he.mono τ _ _ (fun r ⟨ds,ks,d,a1,a2,a3,a4⟩=>⟨ds,ks,d,a1,a2,a3,f _ a4⟩) h⟩
 pe:=N9 (Q6h hu ho he.pe hs) fun σ H Q ⟨τ,hR,a,kvs,e1,h⟩=>by
  obtain⟨hv,ob,ps,sq,kv⟩:=hR.ftAt e1
  refine⟨_,hv,τ,hR,he.mono τ _ _ (fun r ⟨ds,ks,d,a1,a2,a3,a4⟩ v H1 s1 ir=>?_) h⟩
  subst a1
  obtain⟨b,rfl,sb⟩:=Z9k a2 ir
  rcases B4.val (k:=ks) (kv.mono (Kp.of s1) _ _)with⟨n1,_⟩ | ⟨d',v',n1,n2,n3⟩
  ·rw [a3]at n1;cases n1
  ·rw [a3]at n1;cases n1
   exact⟨a,v',rfl,.inr ⟨ps,ks,b,.inr ⟨ob,s1 _ _ sq⟩,rfl,sb,n2.symm⟩,a4 _ _ s1 n3⟩
def Q9o (i:Nat) (we:WE):WE:=fun τ Q=>∃kvs,τ[i]?=some (some (.bd kvs))/\we τ fun r=>∃ds ks d,r=.st (.tup ds)/\O5 ds=some ks/\C7 kvs ks=some d/\Q (.st d)
theorem DE.bget (hu:X.A.units+1<cLine) (ho:PE X o (O2 i)) (he:DE X H0 e we) (hs:Q2k e):DE X H0 (.Subscript o e pos) (Q9o i we) where
 mono:=fun τ P Q f ⟨kvs,e1,h⟩=>⟨kvs,e1,he.mono τ _ _ (fun r ⟨ds,ks,d,a1,a2,a3,a4⟩=>⟨ds,ks,d,a1,a2,a3,f _ a4⟩) h⟩
 pe:=N9 (Q6h hu ho he.pe hs) fun σ H Q ⟨τ,hR,kvs,e1,h⟩=>by
  obtain⟨v,hv,a,ps,rfl,sq,kv⟩:=hR.here i _ e1
  have sq:=hR.same _ _ sq
  refine⟨_,hv,τ,hR,he.mono τ _ _ (fun r ⟨ds,ks,d,a1,a2,a3,a4⟩ v H1 s1 ir=>?_) h⟩
  subst a1
  obtain⟨b,rfl,sb⟩:=Z9k a2 ir
  rcases B4.val (k:=ks) (kv.mono (Kp.of s1) _ _)with⟨n1,_⟩ | ⟨d',v',n1,n2,n3⟩
  ·rw [a3]at n1;cases n1
  ·rw [a3]at n1;cases n1
   exact⟨a,v',rfl,.inr ⟨ps,ks,b,.inl (s1 _ _ sq),rfl,sb,n2.symm⟩,a4 _ _ s1 n3⟩
end
noncomputable def Idt (d:Addr) (o:Obj) (ps:List (List A7×V)):It:=⟨fun i H=>i<ps.length/\H d=some (.frz o (.dT ps)),
 fun i H x H'=>H'=H/\∃b p,x=.ref b/\ps[i]?=some p/\H b=some (.tup (p.1.map kV)),fun i H=>i=ps.length/\H d=some (.frz o (.dT ps))⟩
theorem Y1x {P:Program}{w:World}{H:Hp}{h:Heap}{d:Addr}{o:Obj}{ps:List (List A7×V)}{es:Array DictEntry}{ep:Nat} (ok:F5 P w H h) (e:H d=some (.frz o (.dT ps))) (ho:o.data=.dict es ep):(d==sysModules)=false/\X7 h d es ep/\es.size=ps.length /\
  ∀(i:Nat) (x:DictEntry),es[i]?=some x->∃b p,ps[i]?=some p/\x.key=.ref b/\H b=some (.tup (p.1.map kV)):=by
 obtain⟨h1,h2⟩:=(show G1 P w H h d (.frz o (.dT ps))from ok d _ e)
 obtain⟨hd,_,eQ,lh,⟨o',h3,h4,h5⟩,h6,h7⟩:=Z1o h2
 rw [h1]at h3;cases h3
 rw [ho]at h5;cases h5
 exact⟨hd,⟨o,h1,h4,ho⟩,h6,h7⟩
theorem W8m {P:Program}{w:World}{K:Fg9}{tg:Expr}{d it:Addr}{o:Obj}{ps:List (List A7×V)}{es:Array DictEntry}{ep:Nat} (cA:d≠it) (ho:o.data=.dict es ep) (hl:es.size=ps.length):Z0 P w K tg (Idt d o ps) [it] it (fun i h=>h.IsKeyIter it d i es.size ep) where
 mem:=by simp
 obj:=fun i h st b hb=>by
  have e:b=it:=by simpa using hb
  subst e
  obtain⟨o,e,c,d⟩:=st
  exact⟨o,e,fun v z=>by rw [d]at z;cases z⟩
 keep:=fun i h h' st k=>st.at fun o e=>k it (by simp) o e
 item:=by
  intro X hP hw hK hc i ae s σ H E I hf st hg
  subst hP hw hK
  obtain⟨lt,hq⟩:=hg
  obtain⟨_,raw,_,keys⟩:=Y1x I.hok hq ho
  obtain⟨f0,f1,f2,f3,f4,f5⟩:=hf it (by simp)
  have lt':i<es.size:=by omega
  have he:es[i]?=some es[i]:=bE lt'
  obtain⟨b,p,hp,hk,hb⟩:=keys i _ he
  refine Y1v st raw he fun h' ft sb=>?_
  have I1:A0 X ae σ H { s with heap:=h' }:=I.turned (t':=s.toks) (fun b o hb e=>(sb.2 b hb).trans e) f0 f1 f3 f4 f5
  obtain⟨o',e,c,dd⟩:=id ft
  rw [hk]
  exact⟨_,rfl,Q5o (s:={ s with heap:=h' }) e c dd (by decide) ⟨.ref b,H,I1,rfl,⟨rfl,b,p,rfl,hp,hb⟩,ft,fun b hb=>(hf b hb).1⟩⟩
 done:=by
  intro X hP hw hK hc i ae s σ H E I hf st hg
  subst hP hw hK
  obtain⟨rfl,hq⟩:=hg
  obtain⟨_,raw,_,keys⟩:=Y1x I.hok hq ho
  obtain⟨f0,f1,f2,f3,f4,f5⟩:=hf it (by simp)
  rw [<- hl]at st
  exact Y1u (I.ok.hd hc) st raw fun h' eb=>⟨rfl,I.turned (t':=s.toks) (fun b o hb e=>eb b o hb e) f0 f1 f3 f4 f5⟩
 self:=fun _ _ _ _ _ st h=>wpAny_pyIter_keyiter st h
section
variable {X:Cx}{H0:Hp}{e tg:Expr}{i:Nat}
noncomputable def Z2d (K:Fg9) (i:Nat):P5:=fun τ Q=>∃a kvs,τ[i]?=some (some (.cl a (FzT K a kvs)))/\Q (kvs.map fun p=>ktD p.1)
theorem E5.fdT (he:PE X e (O2 i)):E5 X H0 tg e (Z2d X.K i) where
 mono:=fun τ P Q f ⟨a,kvs,e1,q⟩=>⟨a,kvs,e1,f _ q⟩
 pi:=by
  intro ae s σ H R I ⟨τ,hR,a,kvs,e1,q⟩
  obtain⟨hv,o,ps,sq,kv⟩:=hR.ftAt e1
  refine B2 (he ae s σ H (fun v H1=>v=.ref a/\H1=H) I ⟨_,hv,rfl,rfl⟩) fun u s1 ⟨v,H1,I1,rv,ev,eH⟩=>?_
  subst ev eH
  cases (show u=Value.ref a from rv)
  obtain⟨h1,h2⟩:=(show G1 X.prog X.w H1 s1.heap a (.frz o (.dT ps))from I1.hok a _ sq)
  obtain⟨hd,_,es,ep,⟨o',h3,h4,h5⟩,h6,h7⟩:=Z1o h2
  rw [h1]at h3;cases h3
  have lt:a<s1.heap.objs.size:=ak h1
  refine Y1w hd ⟨o,h1,h4,h5⟩ ⟨s1.heap.objs.size,[s1.heap.objs.size],_,_,H1,rfl,I1.kept (t':=s1.toks) fun c o x=>aa _ x,W8m (ay lt) h5 h6,⟨_,aw _ rfl,rfl,rfl⟩,fun b hb=>?_,q _ _ (A4.refl _) ⟨fun H' s i hi=>⟨by rw [ag,B4.length kv]at hi;exact hi,s _ _ sq⟩,fun H' s i x dh d hd ⟨e,b,p,e2,e3,e4⟩=>?_,fun H' s=>⟨by rw [ag,B4.length kv],s _ _ sq⟩⟩⟩
  ·have e:b=s1.heap.objs.size:=by simpa using hb
   subst e
   exact I1.fpOk (ah _) (I1.hok.fresh (ah _))
  ·subst e e2
   rw [B4.keysT kv,ai,e3]at hd
   cases hd
   exact⟨A4.refl _,A1.s_tup e4 (Q7e p.1)⟩
end
section
variable {X:Cx}{H0:Hp}{a:Expr}{p p2 pos dw:Pos}{wr:WA}
def Q9t (wr:WA):WE:=fun τ Q=>wr τ fun rs=>∃j:Int,rs=[.st (.int j)]/\0<=j/\j<=2 ^ 24/\Q (.nw (L0 0 j.toNat))
theorem DE.listRng (hc:X.calm=true) (hg:Gl X "list") (hm:X.mg "list"=none) (qB:Gl X "range") (qr:X.mg "range"=none) (ha:DA X H0 [a] wr)
  (hs:starEach [.Call (.Name "range" p2) [a] [] dw] X.env=(false,eval (.Call (.Name "range" p2) [a] [] dw) X.env)::starEach [] X.env:=by rfl)
  (he:starEach [a] X.env=(false,eval a X.env)::starEach [] X.env:=by rfl) (hpl:(backTo dw (starEach [] X.env)).any (·.1)=false:=by rfl) :
  DE X H0 (.Call (.Name "list" p) [.Call (.Name "range" p2) [a] [] dw] [] pos) (Q9t wr) where
 mono:=fun τ P Q f h=>ha.mono τ _ _ (fun r ⟨j,e1,h1,h2,q⟩=>⟨j,e1,h1,h2,f _ q⟩) h
 pe:=by
  intro ae s σ H Q I ⟨τ,hR,h⟩
  refine bh (Y4 I hg hm (u:=.type "list") rfl ?_ (by decide) (by decide))
  refine aY ?_ hs
  rw [hs]
  change wpAny (model X.prog X.w) X.A (spliced ((false,eval (.Call (.Name "range" p2) [a] [] dw) X.env)::backTo pos (starEach [] X.env))) _ _ s
  refine bV ?_
  refine bh (Y4 I qB qr (u:=.type "range") rfl ?_ (by decide) (by decide))
  refine aY (B2 (ha.pa dw ae s σ H (fun vs H1=>A4 H H1/\∃j:Int,vs=[.int j]/\0<=j/\j<=2 ^ 24/\∀v H',A4 H H'->D9 X.K H H' (.nw (L0 0 j.toNat)) v->Q v H') I
   ⟨τ,hR,ha.mono τ _ _ (fun rs ⟨j,e1,h1,h2,q⟩ vs H1 s1 cq=>⟨s1,by
    subst e1
    obtain⟨v,rfl,ir⟩:=V3 cq
    cases (show v=.int j from ir)
    exact⟨j,rfl,h1,h2,q⟩⟩) h⟩) fun us s1 ⟨vs,H1,I1,rv,sm,j,e1,h1,h2,q⟩=>?_) he hpl
  subst e1
  obtain⟨u,rfl,ru⟩:=T5 rv
  obtain⟨t,rfl⟩:=ru
  refine call_range_1 (cZ ?_)
  have sz:Builtin.Range.rangeSize 0 j 1=(j.toNat:Int):=by rw [rangeSize_one];split <;> omega
  refine call_list_range (I.ok.hd hc) (IsRange.new ..) (small_one (by omega) (by omega) (by omega) (by omega)) sz (by omega) fun h' tk c9 c' kp e it=>?_
  obtain⟨q9,iW⟩:=it
  dsimp only at e kp ⊢
  generalize hp:(s1.heap.push { cls:=.type "range",data:=.fields #[.int 0 s1.toks,.int j t,.int 1 (s1.toks+1)] })=g at e kp ⊢
  have eA:s1.heap.objs.size<=g.objs.size:=by rw [<- hp,bn];exact cx _
  have q0:∀b o,s1.heap.get? b=some o->h'.get? b=some o:=fun b o x=>kp b o (by rw [<- hp];exact aa _ x)
  have go:∀(n:Nat) (us:List Value),us.length=n->(∀(k:Nat) (v:Value),us[k]?=some v->∃t,v=.int (0+(k:Int)*1) t)->B9 ((List.range n).map fun(i:Nat)=>V.int (0+(i:Int))) us:=by
   intro n
   induction n with
   | zero=>intro us l _;cases us with
    | nil=>exact .nil
    | cons _ _=>cases l
   | succ n ih =>
    intro us l f
    obtain⟨ms,x,rfl⟩:∃ms x,us=ms++[x]:=by
     have ne:us≠[]:=fun z=>by subst z;cases l
     exact⟨_,_,(List.dropLast_concat_getLast ne).symm⟩
    have l2:ms.length=n:=by simpa using l
    have r1:=ih ms l2 fun k v hk=>f k v (by rw [aJ (aG.mp hk).1];exact hk)
    obtain⟨t,ht⟩:=f n x (by rw [<- l2];simp)
    rw [List.range_succ,bj,ht]
    exact r1.append (.cons ⟨t,by simp⟩ .nil)
  have rel:=go j.toNat c9.toList (by rw [bU];exact q9) fun k v hv=>iW k v (by simpa using hv)
  have hn:=I1.hok.fresh eA
  have al:∀(H:Hp) (l:List Nat),AllS X.K H (l.map fun(i:Nat)=>D.int (0+(i:Int))) (l.map fun(i:Nat)=>V.int (0+(i:Int))):=fun H l=>by
   induction l with
   | nil=>exact AllS.nil
   | cons a l ih=>exact AllS.cons A1.s_int ih
  refine⟨.ref g.objs.size,_,I1.laid (t':=tk) q0 eA (show G1 X.prog X.w _ h' _ (.lst ((List.range j.toNat).map fun(i:Nat)=>V.int (0+(i:Int))))from⟨by rw [ag,cu];show _<=2 ^ 24;omega,c9.toList,c',rel,by simpa using e⟩),rfl,q _ _ (sm.trans (D5 hn _)) ⟨_,_,rfl,sm.free hn,upd_same,al _ _⟩⟩
end
end TK
end
section
namespace MC
open PySem PySem.Spec PyProof.Rows L2 TK
abbrev Z6r:List Str:=["one","other"]
def Q6y:WE:=(Q0q (wV 0) (Q0r (wV 1)))
def Y5c (cN:E3)  (bS:G0):WS:=(N3 (Q4 bS (A2 (wV 0) (A2 (wV 1) (A2 (Q4u cN 2 (P8 Q6y [])) A3)))))
abbrev Z6m:List Str:=["machine","ends","rows"]
def Z5r   (sp_least:G0):WS:=(B3 (Q6s (wV 0) (O4 2 (E6 (B1 1) (E6 (B1 2) P6)))) (N3 (Q4 sp_least (A2 (wV 1) (A2 (wV 2) A3)))))
abbrev Z0l:List Str:=["one","ends","rows"]
def Z5t   (sp_least_of:G0):WS:=(B3 (Q6s (Q4 sp_least_of (A2 (wV 0) A3)) (O4 2 (E6 (B1 1) (E6 (B1 2) P6)))) (N3 (T6 (A2 (A9 (C8 Q9 (A2 (N1 1 [] (Q5u (wV 1)) (B1 0) O9 (A9 (Q0r (wV 0)))) A3))) (A2 (A9 (wV 2)) A3)))))
abbrev Z0i:List Str:=["_law_long","_law_found","_law_row","_law_turn","_law_longer","_law_text_here"]
def Z5p   :WS:=(B3 (C3 1 (N2 (A2 (A9 (wC (.str ""))) A3))) (B3 (C3 2 (A9 (N2 (A2 (A9 (wC (.str ""))) A3)))) (B3 (M5 (U6 (A2 (wV 0) A3)) (B1 3) (B3 (C3 4 (N2 A3)) (B3 (Q4q 4 (M5 (Q0z (A9 (wV 2))) (B1 5) (C3 4 (A6 G4 (wV 4) (N1 1 [5] (Z2e (wC (.str "01ab"))) (B1 0) O9 (A9 (A6 G4 (wV 1) (wV 0)))))))) (B3 (C3 2 (A9 (wV 4))) (C3 1 (A6 Q5f (wV 1) (wV 2))))))) (Q9u 1))))
abbrev Z6l:List Str:=["_law_machine_told","_law_state_here","_law_text_here","_law_sign"]
def Z5o   :WS:=(B3 (M5 (Z1y (wV 2)) (B1 3) (C3 1 (A6 C1 (A6 C1 (A6 C1 (wV 0) (wC (.int 1))) (wV 1)) (Q9r (wC (.str "01ab")) (wV 3))))) (Q9u 1))
abbrev Z6i:List Str:=["_law_machine_told","_law_text_here"]
def Z5k   (eF:D6):WS:=(N3 (A6 C1 (A6 C1 (wV 0) (wC (.int 0))) (M9 eF (A2 (wV 0) (A2 (wC (.int 0)) (A2 (wV 1) A3))))))
abbrev Q3o:List Str:=["_law_told","_law_size","_law_met","_law_state_here","_law_row","_law_apart","_law_one","_law_other","_law_turn","_law_steps"]
def Z5m  (K:Fg9) :WS:=(B3 (C3 1 (C8 F4 (A2 (A6 C1 (wV 0) (wC (.int 0))) A3))) (B3 (C3 2 (N2 (A2 (A9 (wC (.int 0))) A3))) (B3 (M5 (Q0z (A9 (Q9t (A2 (wV 1) A3)))) (B1 3) (U9 (A6 (T0 fun i j=>decide (i<j)) (wV 3) (C8 F4 (A2 (wV 2) A3))) (B3 (C3 4 (A6 C1 (A6 C1 (wV 0) (wC (.int 1))) (wV 3))) (C3 2 (A6 G4 (wV 2) (N1 2 [2,4] (Q5s (A2 (wV 4) A3)) (O4 2 (E6 (B1 0) (E6 (B1 1) P6))) (A6 (inL 59 true) (wV 1) (A6 G4 (wV 2) (C8 Q2y (A2 (wSl (wV 3) Z3b (Z3c (wV 0))) A3)))) (A9 (wV 1)))))) V0)) (B3 (U9 (A6 (eqD 59 true) (wV 2) (Q9t (A2 (wV 1) A3))) (N3 (wC (.bl false))) V0) (B3 (Z4s 5) (B3 (M5 (U6 (A2 (wV 1) A3)) (B1 6) (M5 (U6 (A2 (wV 1) A3)) (B1 7) (Q2f 5 (T6 (A2 (A9 (wV 6)) (A2 (A9 (wV 7)) A3))) (wB (A6 (eqD 59 true) (A6 C1 (A6 C1 (wV 0) (wC (.int 0))) (wV 6)) (A6 C1 (A6 C1 (wV 0) (wC (.int 0))) (wV 7))))))) (B3 (Z4x K 5 (M5 (U6 (A2 (wV 1) A3)) (B1 8) (M5 (Q0z (A9 (C8 Q1x (A2 (wV 5) A3)))) (O4 2 (E6 (B1 6) (E6 (B1 7) P6))) (B3 (C3 9 (N1 1 [5] (Q7u (A2 (A6 C1 (A6 C1 (wV 0) (wC (.int 1))) (wV 6)) (A2 (A6 C1 (A6 C1 (wV 0) (wC (.int 1))) (wV 7)) A3))) (B1 0) O9 (A9 (Q9o 1 (wV 0))))) (Q2f 5 (T6 (A2 (A9 (wV 6)) (A2 (A9 (wV 7)) A3))) (Q2g (Q4p 5 (T6 (A2 (A9 (wV 6)) (A2 (A9 (wV 7)) A3)))) (wB (A6 (inL 59 false) (wC (.bl true)) (wV 9))))))))) (N3 (wB (A6 (eqD 60 false) (N1 1 [5] (Z2d K 5) (B1 0) (Q9m (A6 (eqD 59 true) (A6 C1 (wV 0) (wC (.int 0))) (A6 C1 (wV 0) (wC (.int 1)))) (Q4v (Q6u (Q9v K 1 (wV 0))))) (A9 (wV 0))) (N2 A3)))))))))))
theorem W8k:Q2l Q2r (P8 Q6y []):=by
 intro x y
 refine⟨[.bl x,.bl y],_,rfl,rfl,?_⟩
 cases x <;> cases y <;> simp [Q6y]
theorem W5f {cN:E3}:∀rs Pr,rs.length=2->spS Q2r rs Pr->Y5c cN (Q0o cN) (T7 Pr) (F2 Z6r rs):=Z3l W8k
noncomputable def sp_least_of:G0:=fun rs Pr=>∃m:D8,rs=[.st (mD m)]/\F7 m/\m.1.length<=20000/\Pr (.st (mD (E8 m.1 m.2)))
theorem W0s:W4 sp_least_of:=fun rs P Q f ⟨m,e,h1,h2,h3⟩=>⟨m,e,h1,h2,f _ h3⟩
theorem W4t:∀rs Pr,rs.length=1->sp_least_of rs Pr->Z5r sp_least (T7 Pr) (F2 Z6m rs):=by
 rintro rs Pr _ ⟨m,rfl,hw,hl,h⟩
 unfold Z5r
 simp only [L8,X0,Q1c,D7,D4,C2,Q8p,Q1f,Q1d,L1,Q1e]
 exact⟨_,rfl,_,rfl,_,rfl,rfl,_,_,rfl,_,_,rfl,rfl,_,rfl,_,rfl,rfl,_,m.1,m.2,rfl,.inr rfl,hw,hl,h⟩
noncomputable def Y7 (m:D8):D8:=((E8 m.1 m.2).1.map not,(E8 m.1 m.2).2)
noncomputable def Q6m:G0:=fun rs Pr=>∃m:D8,rs=[.st (mD m)]/\F7 m/\m.1.length<=20000/\Pr (.st (mD (Y7 m)))
theorem W0t:W4 Q6m:=fun rs P Q f ⟨m,e,h1,h2,h3⟩=>⟨m,e,h1,h2,f _ h3⟩
theorem W4w:∀rs Pr,rs.length=1->Q6m rs Pr->Z5t sp_least_of (T7 Pr) (F2 Z0l rs):=by
 rintro rs Pr _ ⟨m,rfl,hw,hl,h⟩
 unfold Z5t
 simp only [L8,X0,Q1c,D7,D4,C2,Q8p,Q1f,Q1d,L1,Q1e,s_tup,F1,M4,U8,Z3r]
 refine⟨_,rfl,rfl,m,rfl,hw,hl,_,rfl,_,rfl,rfl,_,_,rfl,_,_,rfl,rfl,_,rfl,_,rfl,?_⟩
 refine⟨?_,?_⟩
 ·have gb:=Q7w hw
  rw [ag];exact sz (by omega)
 refine Q0w (f:=fun d=>match d with | .bl b=>.bl (!b) | d=>d) _ none _ (fun d hd Q' q=>?_) ?_
 ·obtain⟨b,_,rfl⟩:=aq.mp hd
  simp only [F1,Y2r,C2]
  exact⟨_,rfl,q⟩
 rw [aN]
 refine⟨_,rfl,?_⟩
 refine⟨_,rfl,_,rfl,sz (by simp),?_⟩
 unfold Y7 at h
 rw [show(E8 m.1 m.2).1.map ((fun d=>match d with | D.bl b=>D.bl (!b) | d=>d) ∘ D.bl)=((E8 m.1 m.2).1.map not).map D.bl by rw [aN];rfl]
 exact h
theorem W6y (t s:Str):G2 (t++s)=G2 t++G2 s:=by
 unfold G2
 rw [<- bj]
 congr 1
 exact Array.toList_append
theorem W6z {c:Nat} (h:c∈B6):G2 (X1 c)=[.str (X1 c)]:=by
 simp only [B6,aj,aK,bq]at h
 rcases h with rfl | rfl | rfl | rfl <;> rfl
theorem Y8l {c:Nat} (h:c∈B6):Q5r "01ab" (X1 c)=some c:=by
 simp only [B6,aj,aK,bq]at h
 rcases h with rfl | rfl | rfl | rfl <;> decide +kernel
theorem Y3z {w:List Nat} (h:E1 w):G2 (X2 w)=w.map fun c=>.str (X1 c):=by
 have go:∀(w:List Nat) (t:Str),E1 w->G2 (w.foldl (fun t c=>t++X1 c) t)=G2 t++w.map fun c=>.str (X1 c):=by
  intro w
  induction w with
  | nil=>intro t _;simp
  | cons c w ih =>
   intro t h
   rw [List.foldl_cons,ih _ (fun d hd=>h d (av _ hd)),W6y,W6z (h c ar),ao,cw];rfl
 rw [X2,go w "" h];rfl
noncomputable def Q8u:D6:=fun rs r=>∃(m:D8) (i:Nat) (w:List Nat),rs=[.st (mD m),.st (iD i),.st (.str (X2 w))]/\F7 m/\i<m.1.length/\E1 w/\r=.st (iD (run (C4 m.2) i w))
def wsS:WS:=(C3 1 (A6 C1 (A6 C1 (A6 C1 (wV 0) (wC (.int 1))) (wV 1)) (Q9r (wC (.str "01ab")) (wV 3))))
theorem Y4f {m:D8} (wf:F7 m) {E:F3}{o2:Option Sl}:∀(w:List Nat) (i:Nat) (o3:Option Sl),E1 w->i<m.1.length->(∀o3,E.nx [some (.dat (mD m)),some (.dat (iD (run (C4 m.2) i w))),o2,o3]) ->
  C6 (B1 3) wsS E (w.map fun c=>.str (X1 c)) [some (.dat (mD m)),some (.dat (iD i)),o2,o3]
 | [],i,o3,_,_,h=>h o3
 | c::w,i,o3,hw,hi,h=>by
  rw [ao,C6]
  simp only [wsS,L1,O7,F6,C2,J5,W6c]
  have hc:=hw c ar
  have gg:c<4:=by simp only [B6,aj,aK,bq]at hc;omega
  obtain⟨r,hr,_,nT⟩:=Wf.row wf hi
  refine⟨_,rfl,J6 (i:=1) rfl ⟨_,rfl,?_⟩⟩
  refine J6 (i:=i) (d:=.tup (r.map iD)) (by rw [ai,hr];rfl) ?_
  refine⟨_,rfl,_,rfl,_,c,rfl,Y8l hc,?_⟩
  refine J6 (i:=c) (d:=iD (C4 m.2 i c)) (by rw [ai,(nT c gg).1];rfl) ?_
  rw [Q3]
  exact Y4f wf w _ _ (fun d hd=>hw d (av _ hd)) (nT c gg).2 h
theorem W5a:∀rs r,rs.length=3->Q8u rs r->Z5o (W1 r) (F2 Z6l rs):=by
 rintro rs r _ ⟨m,i,w,rfl,wf,hi,hw,rfl⟩
 unfold Z5o
 simp only [L8,T3,W6a,C2,Z3s]
 refine⟨_,rfl,_,rfl,?_⟩
 rw [Y3z hw]
 exact Y4f wf w i none hw hi fun o3=>⟨_,rfl,rfl⟩
noncomputable def Q2c:D6:=fun rs r=>∃(m:D8) (w:List Nat),rs=[.st (mD m),.st (.str (X2 w))]/\F7 m/\E1 w/\r=.st (.bl (F8 m w))
theorem W4i:∀rs r,rs.length=2->Q2c rs r->Z5k Q8u (W1 r) (F2 Z6i rs):=by
 rintro rs r _ ⟨m,w,rfl,wf,hw,rfl⟩
 unfold Z5k
 simp only [X0,F6,C2,J5,W9,D7,D4]
 refine⟨_,rfl,J6 (i:=0) rfl ⟨_,rfl,_,rfl,rfl,_,⟨m,0,w,rfl,wf,wf.pos,hw,rfl⟩,?_⟩⟩
 refine J6 (i:=run (C4 m.2) 0 w) (Q5h (Q6i wf w 0 hw wf.pos)) ?_
 rfl
noncomputable abbrev tD (w:List Nat):D:=.str (X2 w)
noncomputable def Z9 (ws:List (List Nat)):List (List Nat):=ws.flatMap fun w=>B6.map fun c=>w++[c]
noncomputable def Z0a:Nat->List (List Nat)->List (List Nat)->List (List Nat)
 | 0,found,_=>found
 | n+1,found,row=>Z0a n (found++Z9 row) (Z9 row)
noncomputable def Y5e (n:Nat):List (List Nat):=Z0a n [[]] [[]]
theorem Z9u (ws:List (List Nat)):(Z9 ws).length=4*ws.length:=by
 induction ws with
 | nil=>rfl
 | cons w ws ih=>rw [Z9,List.flatMap_cons,aA,<- Z9,ih,ag];simp only [az,cb];omega
theorem W0e {ws:List (List Nat)}{k:Nat} (h:∀w∈ws,E1 w/\w.length<=k):∀w∈Z9 ws,E1 w/\w.length<=k+1:=by
 intro w hw
 obtain⟨u,hu,hw⟩:=List.mem_flatMap.mp hw
 obtain⟨c,hc,rfl⟩:=aq.mp hw
 refine⟨(h u hu).1.snoc hc,?_⟩
 have:=(h u hu).2
 rw [aA];simp only [az,cb];omega
theorem Y5f:∀(n:Nat) (found row:List (List Nat)),(∀w∈found,E1 w)->(∀w∈row,E1 w)->∀w∈Z0a n found row,E1 w
 | 0,_,_,h,_,w,hw=>h w hw
 | n+1,found,row,h,h2,w,hw=>by
  have l:∀w∈Z9 row,E1 w:=fun w hw=>by
   obtain⟨u,hu,hw⟩:=List.mem_flatMap.mp hw
   obtain⟨c,hc,rfl⟩:=aq.mp hw
   exact(h2 u hu).snoc hc
  exact Y5f n _ _ (fun w hw=>(aU.mp hw).elim (h w) (l w)) l w hw
theorem W9c {n:Nat}{w:List Nat} (h:w∈Y5e n):E1 w:=by
 have z:∀w∈([[]]:List (List Nat)),E1 w:=fun w hw=>by rw [aQ.mp hw];intro c hc;cases hc
 exact Y5f n _ _ z z w h
theorem W8e {w:List Nat} (h:E1 w):(X2 w).length=w.length:=by
 have:=congrArg List.length (Y3z h)
 rw [ag]at this
 rw [<- this];unfold G2;rw [ag,bU];rfl
theorem sgn4:G2 "01ab"=B6.map fun c=>.str (X1 c):=rfl
def wsI:WS:=(C3 4 (A6 G4 (wV 4) (N1 1 [5] (Z2e (wC (.str "01ab"))) (B1 0) O9 (A9 (A6 G4 (wV 1) (wV 0))))))
theorem Y4h {E:F3}{o0 o1 o2 o3:Option Sl}:∀(ws c9:List (List Nat)) (o5:Option Sl),(∀w∈ws,E1 w/\w.length<=1000)->c9.length+4*ws.length<=100000->(∀o5,E.nx [o0,o1,o2,o3,some (.own ((c9++Z9 ws).map tD)),o5]) ->
  C6 (B1 5) wsI E (ws.map tD) [o0,o1,o2,o3,some (.own (c9.map tD)),o5]
 | [],c9,o5,_,_,h=>by
  have:=h o5
  simp only [Z9,List.flatMap_nil,ba]at this
  exact this
 | w::ws,c9,o5,hw,hl,h=>by
  rw [ao,C6]
  rw [az]at hl
  simp only [wsI,L1,O7,F6,C2,J5,U8,W6d]
  refine⟨_,rfl,_,rfl,?_⟩
  rw [sgn4]
  refine⟨sz (by simp),?_⟩
  refine Q0w (f:=fun d=>match d with | .str s=>.str (X2 w++s) | d=>d) _ none _ (fun d hd Q' q=>?_) ?_
  ·obtain⟨c,hc,rfl⟩:=aq.mp hd
   simp only [F1,F6,C2]
   refine⟨_,rfl,_,rfl,?_⟩
   rw [M8,M8,W1h]
   refine⟨sz ?_,q⟩
   rw [W8e (hw w ar).1]
   have:=(hw w ar).2
   have:(X1 c).length=1:=by
    simp only [B6,aj,aK,bq]at hc
    rcases hc with rfl | rfl | rfl | rfl <;> rfl
   omega
  ·rw [S6,Z3d]
   refine⟨sz (by simp only [ag,az,cb];omega),?_⟩
   rw [V9]
   have e:c9.map tD++(B6.map fun c=>D.str (X1 c)).map (fun d=>match d with | .str s=>.str (X2 w++s) | d=>d)=(c9++B6.map fun c=>w++[c]).map tD:=by
    rw [bj,aN,aN]
    congr 1
    exact bb fun c _=>by show D.str (X2 w++X1 c)=.str (X2 (w++[c]));rw [W8d]
   show C6 _ _ _ _ [o0,o1,o2,o3,some (.own (c9.map tD++_)),_]
   rw [e]
   refine Y4h ws _ _ (fun u hu=>hw u (av _ hu)) (by simp only [aA,ag,az,cb];omega) fun o5=>?_
   have:=h o5
   rw [show Z9 (w::ws)=(B6.map fun c=>w++[c])++Z9 ws from rfl,<- cw]at this
   exact this
noncomputable def Q2d:Nat->Nat
 | 0=>0
 | n+1=>4+4*Q2d n
def wsO:WS:=(B3 (C3 4 (N2 A3)) (B3 (Q4q 4 (M5 (Q0z (A9 (wV 2))) (B1 5) wsI)) (B3 (C3 2 (A9 (wV 4))) (C3 1 (A6 Q5f (wV 1) (wV 2))))))
theorem Y4i {E:F3}{o0:Option Sl}:∀(l:List D) (k:Nat) (found row:List (List Nat)) (o3 o4 o5:Option Sl),(∀w∈row,E1 w/\w.length<=k)->k+l.length<=1000->found.length+row.length*Q2d l.length<=100000 ->
  (∀ τ',(∃o2 o3 o4 o5,τ'=[o0,some (.own ((Z0a l.length found row).map tD)),o2,o3,o4,o5])->E.nx τ') ->
  C6 (B1 3) wsO E l [o0,some (.own (found.map tD)),some (.dat (.lst (row.map tD))),o3,o4,o5]
 | [],k,found,row,o3,o4,o5,_,_,_,h=>h _ ⟨_,_,_,_,rfl⟩
 | d::l,k,found,row,o3,o4,o5,hw,hk,hl,h=>by
  rw [C6]
  rw [az]at hk hl
  have jQ:found.length+4*row.length+4*row.length*Q2d l.length<=100000:=by
   have e:row.length*Q2d (l.length+1)=4*row.length+4*row.length*Q2d l.length:=by
    show row.length*(4+4*Q2d l.length)=_
    rw [Nat.mul_add,Nat.mul_comm row.length 4,<- Nat.mul_assoc,Nat.mul_comm row.length 4]
   omega
  simp only [wsO,L1,L8,O7,s_lst,D4,Z3p,T3,Q4k,F1,C2,F6]
  refine⟨_,rfl,sz (by simp),?_⟩
  rw [V9]
  refine⟨_,rfl,?_⟩
  rw [M8,Q3b]
  refine⟨_,rfl,?_⟩
  refine Y4h row [] o5 (fun w hm=>⟨(hw w hm).1,by have:=(hw w hm).2;omega⟩) (by simp;omega) fun o5=>?_
  refine⟨_,rfl,_,rfl,?_⟩
  rw [M8,Q3b,Q3]
  refine⟨_,rfl,_,rfl,?_⟩
  rw [S6,M8,W1i]
  refine⟨_,_,rfl,rfl,sz (by simp only [ag,cm,Z9u];omega),?_⟩
  rw [V9,<- bj]
  exact Y4i l (k+1) _ _ _ _ _ (W0e hw) (by omega) (by rw [aA,cm,Z9u];omega) h
noncomputable def Q8v:D6:=fun rs r=>∃n:Nat,rs=[.st (iD n)]/\n<=5/\r=.nw ((Y5e n).map tD)
theorem W5b:∀rs r,rs.length=1->Q8v rs r->Z5p (W1 r) (F2 Z0i rs):=by
 rintro rs r _ ⟨n,rfl,hn,rfl⟩
 unfold Z5p
 simp only [L8,O7,s_lst,D7,D4,F1,J5,T3,Q2b,C2,Z3s]
 refine⟨_,rfl,sz (by simp),?_⟩
 rw [V9]
 refine⟨_,rfl,sz (by simp),?_⟩
 refine⟨_,rfl,_,rfl,by omega,by omega,?_⟩
 have len:(L0 0 (n:Int).toNat).length=n:=by unfold L0;simp
 have hs:Q2d n<=5000:=by
  have:∀k,k<=5->Q2d k<=5000:=by decide
  exact this n hn
 refine Y4i _ 0 [[]] [[]] _ _ _ (fun w hw=>?_) (by omega) (by rw [len];simp;omega) fun τ' ⟨o2,o3,o4,o5,e⟩=>?_
 ·rw [aQ.mp hw];exact⟨(fun c hc=>nomatch hc),ah _⟩
 subst e
 rw [len]
 exact⟨_,rfl,rfl⟩
section
variable {es:List Bool}{rows:List (List Nat)}
def Dt (es:List Bool) (rows:List (List Nat)) (t i j:Nat):Prop:=∃w,E1 w/\w.length<=t/\K4 es rows i w≠K4 es rows j w
theorem Dt.mono {t t' i j:Nat} (h:Dt es rows t i j) (l:t<=t'):Dt es rows t' i j:=let ⟨w,a,b,c⟩:=h;⟨w,a,aR b l,c⟩
theorem Dt.symm {t i j:Nat} (h:Dt es rows t i j):Dt es rows t j i:=let ⟨w,a,b,c⟩:=h;⟨w,a,b,fun e=>c e.symm⟩
theorem Dt.irr {t i:Nat}:¬ Dt es rows t i i:=fun⟨_,_,_,c⟩=>c rfl
theorem Dt.tr {t i j k:Nat} (h1:¬ Dt es rows t i j) (h2:¬ Dt es rows t j k):¬ Dt es rows t i k:=fun⟨w,a,b,c⟩=>by
 by_cases e:K4 es rows i w=K4 es rows j w
 ·exact h2 ⟨w,a,b,fun z=>c (e.trans z)⟩
 ·exact h1 ⟨w,a,b,e⟩
theorem Dt.cons {t i j c:Nat} (hc:c∈B6) (h:Dt es rows t (C4 rows i c) (C4 rows j c)):Dt es rows (t+1) i j:=by
 obtain⟨w,a,b,d⟩:=h
 exact⟨c::w,fun x hx=>(aj.mp hx).elim (fun e=>e ▸ hc) (a x),Nat.succ_le_succ b,d⟩
theorem Dt.case {t i j:Nat} (h:Dt es rows (t+1) i j):Dt es rows 0 i j\/∃c∈B6,Dt es rows t (C4 rows i c) (C4 rows j c):=by
 obtain⟨w,a,b,d⟩:=h
 cases w with
 | nil=>exact .inl ⟨[],a,ah _,d⟩
 | cons c w=>exact .inr ⟨c,a c ar,w,fun x hx=>a x (av _ hx),Nat.le_of_succ_le_succ b,d⟩
theorem Q4h (wf:Wf es rows) {i c:Nat} (hi:i<es.length) (hc:c∈B6):C4 rows i c<es.length:=by
 obtain⟨_,_,_,h⟩:=wf.row hi
 exact(h c (by simp only [B6,aj,aK,bq]at hc;omega)).2
theorem Dt.still (wf:Wf es rows) {t:Nat} (h:∀i j,i<es.length->j<es.length->Dt es rows (t+1) i j->Dt es rows t i j):∀(s i j:Nat),i<es.length->j<es.length->Dt es rows (t+s) i j->Dt es rows t i j
 | 0,_,_,_,_,d=>d
 | s+1,i,j,hi,hj,d=>by
  rcases Dt.case (t:=t+s) d with d | ⟨c,hc,d⟩
  ·exact d.mono (bp _)
  ·exact h i j hi hj ((Dt.still wf h s _ _ (Q4h wf hi hc) (Q4h wf hj hc) d).cons hc)
theorem Dt.least (t:Nat):∀x:Nat,∃y,y<=x/\¬ Dt es rows t x y/\∀z,z<y->Dt es rows t y z:=by
 intro x
 induction x using Nat.strongRecOn with
 | ind x ih =>
  by_cases h:∀z,z<x->Dt es rows t x z
  ·exact⟨x,ah _,Dt.irr,h⟩
  ·obtain⟨z,hz⟩:=Classical.not_forall.mp h
   obtain⟨zl,zd⟩:=Classical.not_imp.mp hz
   obtain⟨y,a,b,c⟩:=ih z zl
   exact⟨y,by omega,Dt.tr zd b,c⟩
theorem Y7l {p q:Nat->Bool} (le:∀x,p x=true->q x=true) {y:Nat} (h1:p y=false) (h2:q y=true):∀(l:List Nat),y∈l->(l.filter p).length<(l.filter q).length:=by
 have lv:∀l:List Nat,(l.filter p).length<=(l.filter q).length:=by
  intro l
  induction l with
  | nil=>exact ah _
  | cons a l ih =>
   rw [gr,gr]
   by_cases pa:p a=true
   ·rw [aI pa,aI (le a pa),az,az];omega
   ·rw [aD pa];split
    ·rw [az];omega
    ·exact ih
 intro l
 induction l with
 | nil=>intro h;cases h
 | cons a l ih =>
  intro hm
  rw [gr,gr]
  rcases aj.mp hm with rfl | hm
  ·rw [aD (by rw [h1];simp),aI h2,az]
   have:=lv l;omega
  ·have:=ih hm
   by_cases pa:p a=true
   ·rw [aI pa,aI (le a pa),az,az];omega
   ·rw [aD pa];split
    ·rw [az];omega
    ·exact this
noncomputable def Q2x (es:List Bool) (rows:List (List Nat)) (t y:Nat):Bool:=@decide (∀z,z<y->Dt es rows t y z) (Classical.propDecidable _)
theorem Q5v {t y:Nat}:Q2x es rows t y=true ↔ ∀z,z<y->Dt es rows t y z:=@decide_eq_true_iff _ (Classical.propDecidable _)
noncomputable def classes (es:List Bool) (rows:List (List Nat)) (t:Nat):Nat:=((List.range es.length).filter (Q2x es rows t)).length
theorem Y7j {t i j:Nat} (hi:i<es.length) (hj:j<es.length) (h1:Dt es rows (t+1) i j) (h2:¬ Dt es rows t i j):classes es rows t<classes es rows (t+1):=by
 obtain⟨m,ml,md,mm⟩:=Dt.least (es:=es) (rows:=rows) t i
 obtain⟨x,hx,xd,xi⟩:∃x,x<es.length/\Dt es rows (t+1) x m/\¬ Dt es rows t x m:=by
  by_cases d:Dt es rows (t+1) i m
  ·exact⟨i,hi,d,md⟩
  ·refine⟨j,hj,Classical.byContradiction fun z=>Dt.tr d (fun q=>z q.symm) h1,Dt.tr (fun q=>h2 q.symm) md⟩
 obtain⟨y,yl,yd,ym⟩:=Dt.least (es:=es) (rows:=rows) (t+1) x
 have yt:¬ Dt es rows t y m:=Dt.tr (fun q=>yd (q.symm.mono (cx t))) xi
 have ne:y≠m:=fun e=>yd (e ▸ xd)
 have lt:m<y:=by
  rcases bD m y with h | h
  ·exact h
  ·exact absurd (mm y (by omega)).symm yt
 exact Y7l (p:=Q2x es rows t) (q:=Q2x es rows (t+1)) (fun x h=>Q5v.mpr fun z hz=>(Q5v.mp h z hz).mono (cx t)) (y:=y) (by
  cases e:Q2x es rows t y with
  | false=>rfl
  | true=>exact absurd (Q5v.mp e m lt) yt) (Q5v.mpr ym) (List.range es.length) (bz.mpr (show y<es.length by omega))
theorem W0x (wf:Wf es rows) {i j:Nat} (hi:i<es.length) (hj:j<es.length) {w:List Nat} (hw:E1 w) (h:K4 es rows i w≠K4 es rows j w):Dt es rows es.length i j:=by
 by_cases st:∃t,t<es.length/\∀i j,i<es.length->j<es.length->Dt es rows (t+1) i j->Dt es rows t i j
 ·obtain⟨t,lt,st⟩:=st
  have d:Dt es rows (t+w.length) i j:=⟨w,hw,Nat.le_add_left _ _,h⟩
  exact(Dt.still wf st _ _ _ hi hj d).mono (dq lt)
 ·have more:∀t,t<=es.length->t+1<=classes es rows t:=by
   intro t
   induction t with
   | zero =>
    intro _
    have:0∈(List.range es.length).filter (Q2x es rows 0):=iQ.mpr ⟨bz.mpr wf.pos,Q5v.mpr fun z hz=>absurd hz (Nat.not_lt_zero _)⟩
    exact List.length_pos_of_mem this
   | succ t ih =>
    intro le
    obtain⟨i,j,hi,hj,d1,d2⟩:∃i j,i<es.length/\j<es.length/\Dt es rows (t+1) i j/\¬ Dt es rows t i j:=by
     refine Classical.byContradiction fun z=>st ⟨t,le,fun i j hi hj d=>Classical.byContradiction fun q=>z ⟨i,j,hi,hj,d,q⟩⟩
    have:=Y7j hi hj d1 d2
    have:=ih (by omega)
    omega
  have h1:=more es.length (ah _)
  have h2:classes es rows es.length<=es.length:=by
   have:=List.length_filter_le (Q2x es rows es.length) (List.range es.length)
   rw [cu]at this
   exact this
  omega
end
section
noncomputable abbrev AF:=Nat×Nat->Bool
noncomputable def upF (rows:List (List Nat)) (p:Nat×Nat) (f:AF):AF:=fun q=>if q=p then f p||B6.any (fun c=>f (C4 rows p.1 c,C4 rows p.2 c))else f q
noncomputable def Q9i (rows:List (List Nat)) (ps:List (Nat×Nat)) (f:AF):AF:=ps.foldl (fun f p=>upF rows p f) f
noncomputable def Q9j (rows:List (List Nat)) (ps:List (Nat×Nat)):Nat->AF->AF
 | 0,f=>f
 | n+1,f=>Q9j rows ps n (Q9i rows ps f)
variable {es:List Bool}{rows:List (List Nat)}
theorem Y4u {p q:Nat×Nat}{f:AF} (h:f q=true):upF rows p f q=true:=by
 unfold upF
 split
 ·rename_i e;rw [<- e,h];rfl
 ·exact h
theorem Y4m {q:Nat×Nat}:∀(ps:List (Nat×Nat)) (f:AF),f q=true->Q9i rows ps f q=true
 | [],f,h=>h
 | p::ps,f,h=>Y4m ps _ (Y4u h)
theorem Y4p {t:Nat}:∀(ps:List (Nat×Nat)) (f:AF),(∀i j,i<es.length->j<es.length->Dt es rows t i j->f (i,j)=true)->Wf es rows->∀p∈ps,p.1<es.length->p.2<es.length->Dt es rows (t+1) p.1 p.2->Q9i rows ps f p=true
 | [],f,_,_,p,hp,_,_,_=>by cases hp
 | q::ps,f,h,wf,p,hp,h1,h2,d=>by
  rcases aj.mp hp with rfl | hp
  ·refine Y4m ps _ ?_
   show(if p=p then _ else _)=true
   rw [aI rfl,Bool.or_eq_true]
   rcases d.case with d | ⟨c,hc,d⟩
   ·exact .inl (h _ _ h1 h2 (d.mono (bp _)))
   ·exact .inr (gu.mpr ⟨c,hc,h _ _ (Q4h wf h1 hc) (Q4h wf h2 hc) d⟩)
  ·exact Y4p ps _ (fun i j hi hj d=>Y4u (h i j hi hj d)) wf p hp h1 h2 d
theorem Y4s {ps:List (Nat×Nat)} (i6:∀i j,i<es.length->j<es.length->(i,j)∈ps) (wf:Wf es rows):∀(n t:Nat) (f:AF),(∀i j,i<es.length->j<es.length->Dt es rows t i j->f (i,j)=true) ->
  ∀i j,i<es.length->j<es.length->Dt es rows (t+n) i j->Q9j rows ps n f (i,j)=true
 | 0,t,f,h,i,j,hi,hj,d=>h i j hi hj d
 | n+1,t,f,h,i,j,hi,hj,d=>by
  refine Y4s i6 wf n (t+1) _ (fun i j hi hj d=>Y4p ps f h wf (i,j) (i6 i j hi hj) hi hj d) i j hi hj ?_
  rw [Nat.add_assoc,Nat.add_comm 1 n];exact d
noncomputable def ap0 (es:List Bool):AF:=fun p=>es.getD p.1 false != es.getD p.2 false
structure Q1n (m:D8):Prop where
 wf:F7 m
 met:N7 [0] m.2=List.range m.1.length
 seen:∀s,s<m.1.length->s<(N7 [0] (m.2.take s)).length
 apart:∀i j,i<m.1.length->j<m.1.length->i≠j->∃w,E1 w/\K4 m.1 m.2 i w≠K4 m.1 m.2 j w
theorem Q1n.turns {m:D8} (L:Q1n m) {ps:List (Nat×Nat)} (i6:∀i j,i<m.1.length->j<m.1.length->(i,j)∈ps) {i j:Nat} (hi:i<m.1.length) (hj:j<m.1.length) (ne:i≠j):Q9j m.2 ps m.1.length (ap0 m.1) (i,j)=true:=by
 obtain⟨w,hw,h⟩:=L.apart i j hi hj ne
 have d:=W0x L.wf hi hj hw h
 refine Y4s i6 L.wf m.1.length 0 (ap0 m.1) (fun i j hi hj d=>?_) i j hi hj (by rw [dn];exact d)
 obtain⟨w,_,hl,h⟩:=d
 cases w with
 | nil=>exact bne_iff_ne.mpr h
 | cons _ _=>cases hl
end
section
variable {α:Type} [DecidableEq α]
theorem Y3x {step:α->Nat->α}:∀(n:Nat) (ks:List α) (rs:List (List Nat)),N7 [0] rs=List.range ks.length->(∀s,s<rs.length->s<(N7 [0] (rs.take s)).length)->∀s,s<(L9 step n ks rs).2.length->s<(N7 [0] ((L9 step n ks rs).2.take s)).length
 | 0,ks,rs,_,h=>h
 | n+1,ks,rs,hm,h=>by
  unfold L9
  split
  ·exact h
  ·rename_i k e
   have hp:=(Q4i (step k) B6 ks []).length_le
   have mv:N7 [0] (rs++[(E7 (step k) B6 ks []).2])=List.range (E7 (step k) B6 ks []).1.length:=by
    rw [Q8c,hm,Q8o,cm,Q8d (step k) ks.length B6 ks [] _ rfl (ah _) (fun x hx=>.inl hx) (fun x hx=>by cases hx),range_add]
    congr 1
    omega
   refine Y3x n _ _ mv fun s hs=>?_
   rw [aA,az,cb]at hs
   by_cases lt:s<rs.length
   ·rw [List.take_append_of_le_length (dq lt)];exact h s lt
   ·have:s=rs.length:=by omega
    subst this
    rw [List.take_append_of_le_length (ah _),List.take_length,hm,cu]
    exact(aG.mp e).1
end
theorem W6x {es:List Bool}{rows:List (List Nat)} (w:Wf es rows):∀s,s<(E8 es rows).1.length->s<(N7 [0] ((E8 es rows).2.take s)).length:=by
 have h:=Y3x (step:=Q0a rows (E4 es rows)) es.length [(E4 es rows).getD 0 0] [] rfl (fun s hs=>absurd hs (Nat.not_lt_zero _))
 intro s hs
 refine h s ?_
 have:=(Z2j w).len
 show s<(E8 es rows).2.length
 rw [this];exact hs
theorem Z2k {es:List Bool}{rows:List (List Nat)} (w:Wf es rows):Q1n (E8 es rows):=⟨Z2j w,W0m es rows,W6x w,fun i j hi hj ne=>Y9q w hi hj ne⟩
theorem Z8s {es:List Bool}{k:Nat} (h:k<es.length):(es.map not).getD k false=!(es.getD k false):=by
 rw [au,au,ai,ac h];rfl
theorem Y1e {m:D8} (w:F7 m):Q1n (Y7 m):=by
 have L:=Z2k w
 have el:(Y7 m).1.length=(E8 m.1 m.2).1.length:=by unfold Y7;simp
 refine⟨?_,?_,?_,?_⟩
 ·exact⟨by rw [el];exact L.wf.len,by rw [el];exact L.wf.pos,L.wf.r4,fun r hr x hx=>by rw [el];exact L.wf.lt r hr x hx⟩
 ·rw [el];exact L.met
 ·rw [el];exact L.seen
 ·rw [el]
  intro i j hi hj ne
  obtain⟨u,hu,h⟩:=L.apart i j hi hj ne
  refine⟨u,hu,fun e=>h ?_⟩
  have go:∀k,k<(E8 m.1 m.2).1.length->K4 (Y7 m).1 (Y7 m).2 k u=!K4 (E8 m.1 m.2).1 (E8 m.1 m.2).2 k u:=fun k hk=>by
   have lt:=Q6i L.wf u k hu hk
   exact Z8s lt
  rw [go i hi,go j hj]at e
  cases h1:K4 (E8 m.1 m.2).1 (E8 m.1 m.2).2 i u <;> cases h2:K4 (E8 m.1 m.2).1 (E8 m.1 m.2).2 j u <;> rw [h1,h2]at e <;> first | rfl | cases e
theorem W2e {m:D8} (wf:F7 m) {w:List Nat} (hw:E1 w):F8 (Y7 m) w=!F8 m w:=by
 have L:=Z2k wf
 have e:=Z9n wf hw
 have lt:=Q6i L.wf w 0 hw L.wf.pos
 rw [<- e]
 exact Z8s lt
theorem Z3u {g:Bool->Bool->Bool}{m1 m2:D8} (w1:F7 m1) (w2:F7 m2):Q1n (W0 g m1 m2) :=
 Z2k ((Q3l (step:=Y8 m1 m2) (N:=(PU m1 m2).length) (fun k h c hc=>Q4f w1 w2 h hc) (Q4x w1 w2) (ah _)).wf _)
theorem Q8n (n:Nat):L0 0 n=(List.range n).map iD:=by
 unfold L0
 exact bb fun i _=>by show D.int (0+(i:Int))=.int (i:Int);rw [Int.zero_add]
theorem Y6m {l:List Nat}{x:Nat}:(l.map iD).any (fun e=>D.eq e (iD x))=decide (x∈l):=by
 rw [List.any_map,Bool.eq_iff_iff,gu,decide_eq_true_iff]
 constructor
 ·rintro ⟨y,hy,e⟩
  have:(y:Int)=x:=by simpa [D.eq]using e
  have:y=x:=by omega
  exact this ▸ hy
 ·intro h;exact⟨x,h,D.eq_refl _⟩
theorem Y7n (pre r:List Nat):Z2 ((pre++r).map iD) none (some (pre.length:Int))=pre.map iD:=by
 unfold Z2
 rw [HT.sIx_none,HT.sIx_nat,List.drop_zero,Nat.sub_zero,bj]
 rw [List.take_append_of_le_length (by rw [ag];exact Nat.min_le_left _ _)]
 have e:min pre.length (pre.map iD++r.map iD).length=(pre.map iD).length:=by rw [aA,ag];omega
 rw [e,List.take_length]
theorem Y0q (met:List Nat):∀(r pre:List Nat),(Y5 met pre r).length<=r.length
 | [],_=>ah _
 | x::r,pre=>by
  unfold Y5
  have:=Y0q met r (pre++[x])
  split
  ·rw [az];omega
  ·rw [az,az];omega
def tN:WT:=(A6 (inL 59 true) (wV 1) (A6 G4 (wV 2) (C8 Q2y (A2 (wSl (wV 3) Z3b (Z3c (wV 0))) A3))))
theorem Z1j {met full:List Nat}:∀(r pre:List Nat) (o0 o1:Option Sl) (Q:List D->Prop),full=pre++r->met.length+full.length<=100000->Q ((Y5 met pre r).map iD) ->
  G8 (O4 2 (E6 (B1 0) (E6 (B1 1) P6))) tN (A9 (wV 1)) ((r.zipIdx pre.length).map fun p=>.tup [.int (p.2:Int),iD p.1]) [o0,o1,some (.bor (met.map iD)),some (.dat (.tup (full.map iD)))] Q
 | [],pre,o0,o1,Q,_,_,h=>h
 | x::r,pre,o0,o1,Q,e,hl,h=>by
  rw [bQ,ao,G8]
  simp only [Q1f,Q1d,L1,Q1e,tN,F6,C2,M4,D7,s_sl,D4,F1]
  refine⟨_,rfl,rfl,_,_,rfl,_,_,rfl,rfl,_,rfl,_,rfl,_,rfl,?_⟩
  simp only [s_oN,s_oS,C2]
  refine⟨_,rfl,?_⟩
  have ec:Z2 (full.map iD) none (some (pre.length:Int))=pre.map iD:=by rw [e];exact Y7n _ _
  rw [M8,W1k,M8,W1q,W1n,ec]
  refine⟨_,rfl,?_⟩
  rw [W1o,Z3d]
  have gb:met.length+pre.length<=100000:=by rw [e,aA]at hl;omega
  refine⟨sz (by simp only [ag];omega),_,_,rfl,rfl,fun d hd=>?_,?_⟩
  ·rw [<- bj]at hd
   obtain⟨y,_,rfl⟩:=aq.mp hd
   exact bp _
  rw [<- bj,Y6m,aI rfl]
  unfold Y5 at h
  have e2:full=(pre++[x])++r:=by rw [e,cw];rfl
  have el:(pre++[x]).length=pre.length+1:=by simp
  by_cases hm:x∈met++pre
  ·rw [aI hm]at h
   rw [aD (by simp [hm])]
   have:=Z1j r (pre++[x]) (some (.dat (.int (pre.length:Int)))) (some (.dat (iD x))) Q e2 hl h
   rw [el]at this
   exact this
  ·rw [aD hm]at h
   rw [aI (by simp [hm])]
   refine⟨_,rfl,_,rfl,?_⟩
   have:=Z1j r (pre++[x]) (some (.dat (.int (pre.length:Int)))) (some (.dat (iD x))) (fun es=>Q (iD x::es)) e2 hl h
   rw [el]at this
   exact this
def wC1:WS:=(U9 (A6 (T0 fun i j=>decide (i<j)) (wV 3) (C8 F4 (A2 (wV 2) A3))) (B3 (C3 4 (A6 C1 (A6 C1 (wV 0) (wC (.int 1))) (wV 3))) (C3 2 (A6 G4 (wV 2) (N1 2 [2,4] (Q5s (A2 (wV 4) A3)) (O4 2 (E6 (B1 0) (E6 (B1 1) P6))) tN (A9 (wV 1)))))) V0)
theorem Y0l {m:D8} (L:Q1n m) (hn:m.1.length<=1000) {E:F3}{o1:Option Sl}{rest:A8}:∀(k s:Nat) (o3 o4:Option Sl),s+k=m.1.length->(N7 [0] (m.2.take s)).length<=1+4*s ->
  (∀o3 o4,E.nx (some (.dat (mD m))::o1::some (.own ((N7 [0] m.2).map iD))::o3::o4::rest)) ->
  C6 (B1 3) wC1 E ((List.range' s k).map iD) (some (.dat (mD m))::o1::some (.own ((N7 [0] (m.2.take s)).map iD))::o3::o4::rest)
 | 0,s,o3,o4,hs,_,h=>by
  have e:m.2.take s=m.2:=List.take_of_length_le (by rw [L.wf.len];omega)
  rw [e]
  exact h o3 o4
 | k+1,s,o3,o4,hs,hl,h=>by
  have lt:s<m.1.length:=by omega
  have seen:=L.seen s lt
  obtain⟨r,hr,r4,_⟩:=Wf.row L.wf lt
  rw [List.range'_succ,ao,C6]
  simp only [wC1,L1,Q3g,F6,C2,M4,D7,D4,L8,O7,J5,U8,Y2l]
  refine⟨_,rfl,_,rfl,?_⟩
  rw [S6,Q0m,M8,Q1b,aI (by rw [ag];simp only [fJ];omega)]
  refine⟨_,rfl,J6 (i:=1) rfl ⟨_,rfl,?_⟩⟩
  refine J6 (i:=s) (d:=.tup (r.map iD)) (by rw [ai,hr];rfl) ?_
  rw [Q3]
  refine⟨_,rfl,_,rfl,_,_,rfl,rfl,?_⟩
  have ee:G9 (r.map iD)=(r.zipIdx 0).map fun p=>.tup [.int (p.2:Int),iD p.1]:=by
   unfold G9;rw [List.zipIdx_map,aN];rfl
  rw [ee]
  refine⟨sz (by rw [ag,List.length_zipIdx];omega),?_⟩
  refine Z1j (met:=N7 [0] (m.2.take s)) (full:=r) r [] none none _ rfl (by omega) ?_
  have nl:=Y0q (N7 [0] (m.2.take s)) r []
  rw [S6,Z3d]
  refine⟨sz (by simp only [ag];omega),?_⟩
  rw [V9,<- bj]
  have et:m.2.take (s+1)=m.2.take s++[r]:=by
   rw [List.take_add_one,hr];rfl
  have em:N7 [0] (m.2.take s)++Y5 (N7 [0] (m.2.take s)) [] r=N7 [0] (m.2.take (s+1)):=by rw [et,Q8c]
  rw [em]
  refine Y0l L hn k (s+1) _ _ (by omega) ?_ h
  rw [<- em,aA];omega
noncomputable def J1 (ps:List (Nat×Nat)) (f:AF):List (List A7×D):=ps.map fun p=>(pK p,.bl (f p))
theorem Z9l (p q:Nat×Nat):decide (pK p=pK q)=decide (p=q):=by
 by_cases e:p=q
 ·rw [e];simp
 ·rw [aM e,aM fun z=>e (Z3g _ _ z)]
theorem Z2g {ps:List (Nat×Nat)}{f:AF}{q:Nat×Nat} (h:q∈ps):C7 (J1 ps f) (pK q)=some (.bl (f q)):=by
 induction ps with
 | nil=>cases h
 | cons p ps ih =>
  by_cases e:p=q
  ·rw [e];simp [J1,C7,b7]
  ·rcases aj.mp h with z | h
   ·exact absurd z.symm e
   ·have s:C7 (J1 (p::ps) f) (pK q)=C7 (J1 ps f) (pK q):=by
     unfold C7 J1
     rw [ao,b7]
     show Option.map _ (match decide (pK p=pK q)with | true=>_ | false=>_)=_
     rw [Z9l,aM e]
    rw [s];exact ih h
theorem Y9j {ps:List (Nat×Nat)}{f:AF}{q:Nat×Nat} (h:q∉ps):K9 (J1 ps f) (pK q) (.bl (f q))=J1 (ps++[q]) f:=by
 unfold K9
 rw [aD]
 ·unfold J1;rw [bj];rfl
 ·unfold J1
  rw [List.any_map,gu]
  rintro ⟨p,hp,e⟩
  simp only [Function.comp,Z9l,fJ]at e
  exact h (e ▸ hp)
theorem Y9k {ps:List (Nat×Nat)}{f:AF}{q:Nat×Nat}{v:Bool} (h:q∈ps):K9 (J1 ps f) (pK q) (.bl v)=J1 ps fun p=>if p=q then v else f p:=by
 unfold K9
 rw [aI]
 ·unfold J1
  rw [aN]
  refine bb fun p _=>?_
  simp only [Function.comp]
  by_cases e:p=q
  ·rw [aI e,aI (by rw [e])]
  ·rw [aD e,aD fun z=>e (Z3g _ _ z)]
 ·unfold J1
  rw [List.any_map,gu]
  exact⟨q,h,by simp⟩
theorem Q3y (i j:Nat):O5 [iD i,iD j]=some (pK (i,j)):=rfl
def wF1:WS:=(Q2f 5 (T6 (A2 (A9 (wV 6)) (A2 (A9 (wV 7)) A3))) (wB (A6 (eqD 59 true) (A6 C1 (A6 C1 (wV 0) (wC (.int 0))) (wV 6)) (A6 C1 (A6 C1 (wV 0) (wC (.int 0))) (wV 7)))))
theorem Z8l (a b:Bool):D.eq (.bl a) (.bl b)=(a==b):=by cases a <;> cases b <;> rfl
theorem Z8m {m:D8}{o1 o2 o3 o4 o8 o9:Option Sl}{E:F3}{i:Nat} (hi:i<m.1.length) (hn:m.1.length<=1000) {done:List (Nat×Nat)} (hd:∀p∈done,p.1<i) (hl:done.length<=1000000):∀(k t:Nat) (o7:Option Sl),t+k=m.1.length ->
  (∀o7,E.nx [some (.dat (mD m)),o1,o2,o3,o4,some (.dt (J1 (done++(List.range m.1.length).map fun j=>(i,j)) (ap0 m.1))),some (.dat (iD i)),o7,o8,o9]) ->
  C6 (B1 7) wF1 E ((List.range' t k).map iD) [some (.dat (mD m)),o1,o2,o3,o4,some (.dt (J1 (done++(List.range t).map fun j=>(i,j)) (ap0 m.1))),some (.dat (iD i)),o7,o8,o9]
 | 0,t,o7,ht,h=>by
  have:t=m.1.length:=by omega
  rw [this];exact h o7
 | k+1,t,o7,ht,h=>by
  have lt:t<m.1.length:=by omega
  rw [List.range'_succ,ao,C6]
  simp only [wF1,L1,Z3o,s_b,F6,C2,J5,s_tup,D7,F1,D4]
  refine⟨_,rfl,J6 (i:=0) rfl ⟨_,rfl,J6 (i:=i) (Q5h hi) ?_⟩⟩
  refine⟨_,rfl,J6 (i:=0) rfl ⟨_,rfl,J6 (i:=t) (Q5h lt) ?_⟩⟩
  rw [Q1z]
  refine⟨_,_,rfl,rfl,bp _,_,rfl,_,rfl,_,rfl,_,rfl,_,rfl,sz (by simp),_,_,rfl,Q3y i t,?_,?_⟩
  ·unfold J1
   rw [ag,aA,ag,cu]
   show _<2 ^ 24
   omega
  rw [aI rfl,Z8l]
  have nn:(i,t)∉done++(List.range t).map fun j=>(i,j):=fun z=>by
   rcases aU.mp z with z | z
   ·exact aO _ (hd _ z)
   ·obtain⟨j,hj,e⟩:=aq.mp z
    have:=bz.mp hj
    cases e
    omega
  have e:=Y9j (f:=ap0 m.1) nn
  have e2:(done++(List.range t).map fun j=>(i,j))++[(i,t)]=done++(List.range (t+1)).map fun j=>(i,j):=by
   rw [List.range_succ,bj,cw];rfl
  rw [e2]at e
  have e3:(D.bl (!(m.1.getD i false==m.1.getD t false)))=.bl (ap0 m.1 (i,t)):=rfl
  rw [e3,e]
  exact Z8m hi hn hd hl k (t+1) _ (by omega) h
theorem W2f (i n:Nat):L7 (i+1) n=L7 i n++(List.range n).map fun j=>(i,j):=by
 unfold L7
 rw [List.range_succ,List.flatMap_append]
 simp
theorem fill {m:D8}{o2 o3 o4 o8 o9:Option Sl}{E:F3} (hn:m.1.length<=1000):∀(k i:Nat) (o6 o7:Option Sl),i+k=m.1.length ->
  (∀o6 o7,E.nx [some (.dat (mD m)),some (.dat (iD m.1.length)),o2,o3,o4,some (.dt (J1 (L7 m.1.length m.1.length) (ap0 m.1))),o6,o7,o8,o9]) ->
  C6 (B1 6) (M5 (U6 (A2 (wV 1) A3)) (B1 7) wF1) E ((List.range' i k).map iD) [some (.dat (mD m)),some (.dat (iD m.1.length)),o2,o3,o4,some (.dt (J1 (L7 i m.1.length) (ap0 m.1))),o6,o7,o8,o9]
 | 0,i,o6,o7,hi,h=>by
  have:i=m.1.length:=by omega
  rw [this];exact h o6 o7
 | k+1,i,o6,o7,hi,h=>by
  have lt:i<m.1.length:=by omega
  rw [List.range'_succ,ao,C6]
  simp only [L1,T3,Q2b,D7,C2,D4]
  refine⟨_,rfl,_,rfl,by omega,by omega,?_⟩
  rw [bo,Q8n,List.range_eq_range']
  have hl:(L7 i m.1.length).length<=1000000:=by
   rw [Q6g]
   have:i*m.1.length<=1000*1000:=Nat.mul_le_mul (by omega) hn
   omega
  have:=Z8m (E:={ E with nx:=C6 (B1 6) (M5 (U6 (A2 (wV 1) A3)) (B1 7) wF1) E ((List.range' (i+1) k).map iD),ct:=C6 (B1 6) (M5 (U6 (A2 (wV 1) A3)) (B1 7) wF1) E ((List.range' (i+1) k).map iD),bk:=E.nx }) (o1:=some (.dat (iD m.1.length))) (o2:=o2) (o3:=o3) (o4:=o4) (o8:=o8) (o9:=o9) lt hn (done:=L7 i m.1.length) (fun p hp=>(Q0c.mp hp).1) hl m.1.length 0 o7 (dn _) (fun o7=>by
   rw [<- W2f]
   exact fill hn k (i+1) _ _ (by omega) h)
  rw [List.range_zero,cC,ba]at this
  exact this
@[simp] theorem W5r {n:Nat}{we:WE} {τ:A8}{Q:R->Prop}:Q9o n we τ Q=∃kvs,τ[n]?=some (some (.bd kvs))/\we τ fun r=>∃ds ks d,r=.st (.tup ds)/\O5 ds=some ks/\C7 kvs ks=some d/\Q (.st d):=rfl
theorem Y2e {es:List Bool}{rows:List (List Nat)} (wf:Wf es rows) {i:Nat} (h:i<es.length):rows[i]?=some (B6.map (C4 rows i)):=by
 obtain⟨r,hr,r4,hc⟩:=wf.row h
 rw [hr]
 congr 1
 refine List.ext_getElem? fun c=>?_
 by_cases lt:c<4
 ·rw [(hc c lt).1]
  have:c=0\/c=1\/c=2\/c=3:=by omega
  rcases this with rfl | rfl | rfl | rfl <;> rfl
 ·rw [cr (by omega),cr (by simp;omega)]
theorem Y6l (f:Nat->Bool) (l:List Nat):(l.map fun c=>D.bl (f c)).any (fun e=>D.eq e (.bl true))=l.any f:=by
 rw [List.any_map]
 congr 1
 funext c
 simp only [Function.comp,Z8l]
 cases f c <;> rfl
def wG1:WS:=(B3 (C3 9 (N1 1 [5] (Q7u (A2 (A6 C1 (A6 C1 (wV 0) (wC (.int 1))) (wV 6)) (A2 (A6 C1 (A6 C1 (wV 0) (wC (.int 1))) (wV 7)) A3))) (B1 0) O9 (A9 (Q9o 1 (wV 0))))) (Q2f 5 (T6 (A2 (A9 (wV 6)) (A2 (A9 (wV 7)) A3))) (Q2g (Q4p 5 (T6 (A2 (A9 (wV 6)) (A2 (A9 (wV 7)) A3)))) (wB (A6 (inL 59 false) (wC (.bl true)) (wV 9))))))
noncomputable def afD (f:AF):D->D
 | .tup [.int a,.int b]=>.bl (f (a.toNat,b.toNat))
 | d=>d
theorem Y4q {m:D8} (wf:F7 m) (hn:m.1.length<=1000) {o1 o2 o3 o4 o8:Option Sl}{E:F3}:∀(ps:List (Nat×Nat)) (f:AF) (o6 o7 o9:Option Sl),(∀p∈ps,p.1<m.1.length/\p.2<m.1.length) ->
  (∀o6 o7 o9,E.nx [some (.dat (mD m)),o1,o2,o3,o4,some (.dt (J1 (L7 m.1.length m.1.length) (Q9i m.2 ps f))),o6,o7,o8,o9]) ->
  C6 (O4 2 (E6 (B1 6) (E6 (B1 7) P6))) wG1 E (ps.map pD) [some (.dat (mD m)),o1,o2,o3,o4,some (.dt (J1 (L7 m.1.length m.1.length) f)),o6,o7,o8,o9]
 | [],f,o6,o7,o9,_,h=>h o6 o7 o9
 | p::ps,f,o6,o7,o9,hp,h=>by
  obtain⟨h1,h2⟩:=hp p ar
  have pin:p∈L7 m.1.length m.1.length:=Q0c.mpr ⟨h1,h2⟩
  rw [ao,C6]
  simp only [wG1,Q1f,Q1d,L1,Q1e,L8,O7,U8,W6e,D7,F6,C2,J5,D4,Z3o,s_tup,F1,Y2s,Y2h,s_b]
  refine⟨_,rfl,rfl,_,_,rfl,_,_,rfl,rfl,_,rfl,J6 (i:=1) rfl ⟨_,rfl,?_⟩⟩
  refine J6 (i:=p.1) (d:=.tup ((B6.map (C4 m.2 p.1)).map iD)) (by rw [ai,Y2e wf h1];rfl) ?_
  refine⟨_,rfl,J6 (i:=1) rfl ⟨_,rfl,?_⟩⟩
  refine J6 (i:=p.2) (d:=.tup ((B6.map (C4 m.2 p.2)).map iD)) (by rw [ai,Y2e wf h2];rfl) ?_
  refine⟨_,_,rfl,?_⟩
  have ez:P3 ((B6.map (C4 m.2 p.1)).map iD) ((B6.map (C4 m.2 p.2)).map iD)=B6.map fun c=>.tup [iD (C4 m.2 p.1 c),iD (C4 m.2 p.2 c)]:=rfl
  rw [ez]
  refine⟨sz (by simp),?_⟩
  refine Q0w (f:=afD f) _ none _ (fun d hd Q' q=>?_) ?_
  ·obtain⟨c,hc,rfl⟩:=aq.mp hd
   have q:Q' (.st (.bl (f (C4 m.2 p.1 c,C4 m.2 p.2 c)))):=by
    simp only [afD,bo]at q;exact q
   simp only [F1,W5r,C2]
   refine⟨_,rfl,_,rfl,_,_,_,rfl,Q3y _ _,Z2g (Q0c.mpr ⟨Q4h wf h1 hc,Q4h wf h2 hc⟩),q⟩
  have es:(B6.map fun c=>D.tup [iD (C4 m.2 p.1 c),iD (C4 m.2 p.2 c)]).map (afD f)=B6.map fun c=>.bl (f (C4 m.2 p.1 c,C4 m.2 p.2 c)):=by
   rw [aN]
   exact bb fun c _=>by simp only [Function.comp,afD,bo]
  rw [es,V9]
  have ll:(J1 (L7 m.1.length m.1.length) f).length<sizeLine:=by
   unfold J1
   rw [ag,Q6g]
   have:m.1.length*m.1.length<=1000*1000:=Nat.mul_le_mul hn hn
   show _<2 ^ 24
   omega
  have go:∀(v:Bool),v=(f p||B6.any fun c=>f (C4 m.2 p.1 c,C4 m.2 p.2 c))->C6 (O4 2 (E6 (B1 6) (E6 (B1 7) P6))) wG1 E (ps.map pD) [some (.dat (mD m)),o1,o2,o3,o4,some (.dt (K9 (J1 (L7 m.1.length m.1.length) f) (pK p) (.bl v))),some (.dat (iD p.1)),some (.dat (iD p.2)),o8,some (.own (B6.map fun c=>.bl (f (C4 m.2 p.1 c,C4 m.2 p.2 c))))]:=fun v hv=>by
   rw [Y9k pin]
   have eu:(fun q=>if q=p then v else f q)=upF m.2 p f:=by funext q;unfold upF;rw [hv]
   rw [eu]
   exact Y4q wf hn ps _ _ _ _ (fun q hq=>hp q (av _ hq)) h
  refine⟨_,rfl,_,rfl,_,rfl,_,rfl,sz (by simp),_,_,_,rfl,Q3y p.1 p.2,Z2g pin,?_⟩
  rw [o_bl]
  by_cases hf:f p=true
  ·rw [aI (show f (p.1,p.2)=true from hf)]
   exact⟨_,rfl,_,rfl,_,rfl,_,rfl,_,rfl,sz (by simp),_,_,rfl,Q3y p.1 p.2,ll,go true (by rw [hf];rfl)⟩
  ·rw [aD (show ¬ f (p.1,p.2)=true from hf)]
   refine⟨_,rfl,_,_,rfl,rfl,fun d hd=>?_,?_⟩
   ·obtain⟨c,_,rfl⟩:=aq.mp hd;exact bp _
   rw [aD bK,Y6l]
   exact⟨_,rfl,_,rfl,_,rfl,_,rfl,_,rfl,sz (by simp),_,_,rfl,Q3y p.1 p.2,ll,go _ (by rw [Bool.not_eq_true]at hf;rw [hf];rfl)⟩
theorem W0b {kvs:List (List A7×D)}{Q:R->Prop}:Q1x [.dt kvs] Q=Q (.nw (kvs.map fun p=>ktD p.1)):=by simp only [Q1x]
theorem Y4t {m:D8} (wf:F7 m) (hn:m.1.length<=1000) {o1 o2 o3 o4:Option Sl}{E:F3}:∀(l:List D) (f:AF) (o6 o7 o8 o9:Option Sl),
  (∀o6 o7 o8 o9,E.nx [some (.dat (mD m)),o1,o2,o3,o4,some (.dt (J1 (L7 m.1.length m.1.length) (Q9j m.2 (L7 m.1.length m.1.length) l.length f))),o6,o7,o8,o9]) ->
  C6 (B1 8) (M5 (Q0z (A9 (C8 Q1x (A2 (wV 5) A3)))) (O4 2 (E6 (B1 6) (E6 (B1 7) P6))) wG1) E l [some (.dat (mD m)),o1,o2,o3,o4,some (.dt (J1 (L7 m.1.length m.1.length) f)),o6,o7,o8,o9]
 | [],f,o6,o7,o8,o9,h=>h o6 o7 o8 o9
 | d::l,f,o6,o7,o8,o9,h=>by
  rw [C6]
  simp only [L1,T3,Q4k,F1,M4,D7,C2,D4]
  refine⟨_,rfl,?_⟩
  have el:(J1 (L7 m.1.length m.1.length) f).map (fun p=>ktD p.1)=(L7 m.1.length m.1.length).map pD:=by
   unfold J1;rw [aN];rfl
  rw [show Q8 (.dt (J1 (L7 m.1.length m.1.length) f))=.dt (J1 (L7 m.1.length m.1.length) f)from rfl,W0b,el]
  refine⟨_,rfl,?_⟩
  exact Y4q wf hn _ f _ _ _ (fun p hp=>Q0c.mp hp) fun o6 o7 o9=>Y4t wf hn l _ _ _ _ _ h
section
variable {K:Fg9}{n:Nat}{we:WE}{wr:WA}{w:WS}{E:F3} {τ:A8}
@[simp] theorem W6o {Q:R->Prop}:Q9t wr τ Q=wr τ fun rs=>∃j:Int,rs=[.st (.int j)]/\0<=j/\j<=2 ^ 24/\Q (.nw (L0 0 j.toNat)):=rfl
@[simp] theorem Y2k:Z4x K n w E τ=w { E with nx:=fun τ'=>∃kvs,τ'[n]?=some (some (.dt kvs))/\∀a,E.nx (τ'.set n (some (.cl a (FzT K a kvs)))) } τ:=rfl
@[simp] theorem Y2m {Q:List D->Prop}:Z2d K n τ Q=∃a kvs,τ[n]?=some (some (.cl a (FzT K a kvs)))/\Q (kvs.map fun p=>ktD p.1):=rfl
@[simp] theorem W6u {Q:R->Prop}:Q9v K n we τ Q=∃a kvs,τ[n]?=some (some (.cl a (FzT K a kvs)))/\we τ fun r=>∃ds ks d,r=.st (.tup ds)/\O5 ds=some ks/\C7 kvs ks=some d/\Q (.st d):=rfl
def tL (K:Fg9):WT:=(Q9m (A6 (eqD 59 true) (A6 C1 (wV 0) (wC (.int 0))) (A6 C1 (wV 0) (wC (.int 1)))) (Q4v (Q6u (Q9v K 1 (wV 0)))))
theorem Z7z {a:Addr}{ps0:List (Nat×Nat)}{f:AF}{Q:List D->Prop}:∀(ps:List (Nat×Nat)) (o:Option Sl),(∀p∈ps,p∈ps0/\(p.1≠p.2->f p=true))->Q [] ->
  G8 (B1 0) (tL K) (A9 (wV 0)) (ps.map pD) [o,some (.cl a (FzT K a (J1 ps0 f)))] Q
 | [],o,_,h=>h
 | p::ps,o,hp,h=>by
  obtain⟨h1,h2⟩:=hp p ar
  rw [ao,G8]
  simp only [L1,tL,W5o,F6,C2,J5,Y2q,Y2t,W6u]
  refine⟨_,rfl,J6 (i:=0) rfl ⟨_,rfl,J6 (i:=1) rfl ?_⟩⟩
  rw [Q1z]
  refine⟨_,_,rfl,rfl,bp _,?_⟩
  rw [aI rfl]
  have next:G8 (B1 0) (tL K) (A9 (wV 0)) (ps.map pD) [some (.dat (pD p)),some (.cl a (FzT K a (J1 ps0 f)))] Q:=Z7z ps _ (fun q hq=>hp q (av _ hq)) h
  by_cases e:p.1=p.2
  ·rw [aD (by rw [e,D.eq_refl];simp),aD bK]
   exact next
  ·rw [aI (by
    cases z:D.eq (iD p.1) (iD p.2)with
    | false=>rfl
    | true =>
     have:(p.1:Int)=p.2:=by simpa [D.eq]using z
     omega)]
   refine⟨_,_,rfl,_,rfl,_,_,_,rfl,Q3y p.1 p.2,Z2g h1,?_⟩
   rw [Y1c,h2 e,aD (by decide)]
   exact next
end
theorem Y7t (l:List Nat):D.depth (.lst (l.map iD))<=59:=by
 have h:∀l:List Nat,D.depths (l.map iD)<=0:=fun l=>by
  induction l with
  | nil=>exact ah _
  | cons a l ih=>simp only [ao,D.depths,D.depth];omega
 simp only [D.depth]
 have:=h l
 omega
noncomputable def Q6l:D6:=fun rs r=>∃m:D8,rs=[.st (mD m)]/\Q1n m/\m.1.length<=1000/\r=.st (.bl true)
theorem W4q {K:Fg9}:∀rs r,rs.length=1->Q6l rs r->Z5m K (W1 r) (F2 Q3o rs):=by
 rintro rs r _ ⟨m,rfl,L,hn,rfl⟩
 have r0:List.range m.1.length=List.range' 0 m.1.length:=List.range_eq_range'
 unfold Z5m
 simp only [L8,O7,M4,D7,F6,C2,J5,D4,s_lst,F1,T3,Q4k,Q3g,Y2i,Q2b,X0,Q4m,W6o,Y2k,s_b,U8,Y2m]
 refine⟨_,rfl,J6 (i:=0) rfl ?_⟩
 rw [Y0z,ag,Q3]
 refine⟨_,rfl,sz (by simp),?_⟩
 rw [V9]
 refine⟨_,rfl,_,rfl,by omega,by omega,?_⟩
 rw [bo,Q8n,r0]
 refine⟨_,rfl,?_⟩
 refine Y0l L hn m.1.length 0 none none (dn _) (by simp [N7]) fun o3 o4=>?_
 refine⟨_,rfl,_,rfl,_,rfl,by omega,by omega,?_⟩
 rw [bo,Q8n,S6]
 dsimp only
 rw [Q1z,L.met]
 refine⟨_,_,rfl,rfl,?_,?_⟩
 ·exact Y7t _
 rw [D.eq_refl,aI rfl,aD (by decide)]
 simp only [Q4m,L8,Y2i,T3,Q2b,D7,C2,D4]
 refine⟨_,rfl,_,rfl,by omega,by omega,?_⟩
 rw [bo,Q8n,r0]
 refine fill hn m.1.length 0 none none (dn _) fun o6 o7=>?_
 simp only [Y2k,T3,Q2b,D7,C2,D4]
 refine⟨_,rfl,_,rfl,by omega,by omega,?_⟩
 refine Y4t L.wf hn _ _ _ _ _ _ fun o6 o7 o8 o9=>?_
 refine⟨_,rfl,fun a=>?_⟩
 simp only [X0,s_b,F6,U8,Y2m]
 refine⟨a,_,rfl,?_⟩
 have el:∀f:AF,(J1 (L7 m.1.length m.1.length) f).map (fun p=>ktD p.1)=(L7 m.1.length m.1.length).map pD:=fun f=>by
  unfold J1;rw [aN];rfl
 have len:(L0 0 (m.1.length:Int).toNat).length=m.1.length:=by unfold L0;simp
 rw [el,len]
 refine⟨sz ?_,?_⟩
 ·rw [ag,Q6g]
  have:m.1.length*m.1.length<=1000*1000:=Nat.mul_le_mul hn hn
  omega
 refine Z7z (K:=K) (ps0:=L7 m.1.length m.1.length) (a:=a) _ none (fun p hp=>⟨hp,fun ne=>?_⟩) ?_
 ·obtain⟨h1,h2⟩:=Q0c.mp hp
  exact L.turns (fun i j hi hj=>Q0c.mpr ⟨hi,hj⟩) h1 h2 ne
 simp only [s_lst,D4]
 refine⟨_,rfl,sz (by simp),?_⟩
 rw [Q1z]
 exact⟨_,_,rfl,rfl,by decide,rfl⟩
end MC
end
section
namespace K20
open PySem PySem.Spec PyProof.Rows L2 TK MC
abbrev Q7a:List Str:=["_law_script","_law_one","_law_other","_law_told","_law_text_here","_law_mine","_law_yours","_law_due"]
def Z5j   (cQ:D6) (fS:G0) (fA:G0) (fy:G0) (e7:G0) (dH:D6) (eE:D6) (cn:D6):WS:=(B3 (C3 1 (M9 cQ (A2 (wV 0) (A2 (wC (.int 0)) (A2 (wC (.int 4)) A3))))) (B3 (C3 2 (M9 cQ (A2 (wV 0) (A2 (wC (.int 60)) (A2 (wC (.int 4)) A3))))) (B3 (C3 3 (N2 (A2 (A9 (Q4 fS (A2 (wV 1) (A2 (wV 2) A3)))) (A2 (A9 (Q4 fA (A2 (wV 1) (A2 (wV 2) A3)))) (A2 (A9 (Q4 fy (A2 (wV 1) (A2 (wV 2) A3)))) (A2 (A9 (Q4 e7 (A2 (wV 1) A3))) A3)))))) (B3 (U9 (A6 (eqD 59 true) (N1 1 [] (Q1u (wV 3)) (B1 0) (Q4v (Q6u (M9 dH (A2 (wV 0) A3)))) (A9 (wV 0))) (N2 A3)) (N3 (wC (.bl false))) V0) (B3 (M5 (Q0z (A9 (M9 eE (A2 (wC (.int 4)) A3)))) (B1 4) (B3 (C3 5 (M9 cn (A2 (wV 1) (A2 (wV 4) A3)))) (B3 (C3 6 (M9 cn (A2 (wV 2) (A2 (wV 4) A3)))) (B3 (C3 7 (N2 (A2 (A9 (Q2g (wV 5) (wV 6))) (A2 (A9 (Q0q (wV 5) (wV 6))) (A2 (A9 (Q0q (wV 5) (Q0r (wV 6)))) (A2 (A9 (Q0r (wV 5))) A3)))))) (U9 (A6 (eqD 59 true) (N1 1 [4] (Q1u (wV 3)) (B1 0) O9 (A9 (M9 cn (A2 (wV 0) (A2 (wV 1) A3))))) (wV 7)) (N3 (wC (.bl false))) V0))))) (N3 (wC (.bl true))))))))
noncomputable def sp_law:G0:=fun rs Pr=>∃ns:List Int,rs=[.st (scr ns)]/\ns.length<=63/\Pr (.st (.bl true))
theorem Z6y {Q:List D->Prop}:∀(ms:List D8) (o:Option Sl),(∀m∈ms,Q1n m/\m.1.length<=1000)->Q []->G8 (B1 0) (Q4v (Q6u (M9 Q6l (A2 (wV 0) A3)))) (A9 (wV 0)) (ms.map mD) [o] Q
 | [],_,_,q=>q
 | m::ms,o,h,q=>by
  obtain⟨h1,h2⟩:=h m ar
  rw [ao,G8]
  simp only [L1,Y2q,Y2t,W9,D7,C2,D4]
  refine⟨_,rfl,rfl,_,⟨m,rfl,h1,h2,rfl⟩,?_⟩
  rw [Y1c,aD (by decide)]
  exact Z6y ms _ (fun m hm=>h m (av _ hm)) q
theorem Z6x {w:List Nat} (hw:E1 w):∀(ms:List D8) (o:Option Sl) (Q:List D->Prop),(∀m∈ms,F7 m)->Q (ms.map fun m=>.bl (F8 m w))->G8 (B1 0) O9 (A9 (M9 Q2c (A2 (wV 0) (A2 (wV 1) A3)))) (ms.map mD) [o,some (.dat (tD w))] Q
 | [],_,_,_,q=>q
 | m::ms,o,Q,h,q=>by
  rw [ao,G8]
  simp only [L1,F1,W9,D7,C2,D4]
  rw [Y2u,aI rfl]
  refine⟨_,rfl,_,rfl,rfl,_,⟨m,w,rfl,h m ar,hw,rfl⟩,_,rfl,?_⟩
  exact Z6x hw ms _ (fun es=>Q (.bl (F8 m w)::es)) (fun m hm=>h m (av _ hm)) q
theorem Y7s (l:List Bool):D.depth (.lst (l.map D.bl))<=59:=by
 have h:∀l:List Bool,D.depths (l.map D.bl)<=0:=fun l=>by
  induction l with
  | nil=>exact ah _
  | cons a l ih=>simp only [ao,D.depths,D.depth];omega
 simp only [D.depth]
 have:=h l
 omega
def wB1:WS:=(B3 (C3 5 (M9 Q2c (A2 (wV 1) (A2 (wV 4) A3)))) (B3 (C3 6 (M9 Q2c (A2 (wV 2) (A2 (wV 4) A3)))) (B3 (C3 7 (N2 (A2 (A9 (Q2g (wV 5) (wV 6))) (A2 (A9 (Q0q (wV 5) (wV 6))) (A2 (A9 (Q0q (wV 5) (Q0r (wV 6)))) (A2 (A9 (Q0r (wV 5))) A3)))))) (U9 (A6 (eqD 59 true) (N1 1 [4] (Q1u (wV 3)) (B1 0) O9 (A9 (M9 Q2c (A2 (wV 0) (A2 (wV 1) A3))))) (wV 7)) (N3 (wC (.bl false))) V0))))
noncomputable abbrev Q2p (m1 m2:D8):List D8:=[W0 gOr m1 m2,W0 Q2q m1 m2,W0 Q2r m1 m2,Y7 m1]
theorem due4 (a b:Bool) {τ:A8} (h5:τ[5]?=some (some (.dat (.bl a)))) (h6:τ[6]?=some (some (.dat (.bl b)))) {Q:R->Prop} (q:Q (.nw [.bl (a||b),.bl (a&&b),.bl (a&&!b),.bl (!a)])) :
  (N2 (A2 (A9 (Q2g (wV 5) (wV 6))) (A2 (A9 (Q0q (wV 5) (wV 6))) (A2 (A9 (Q0q (wV 5) (Q0r (wV 6)))) (A2 (A9 (Q0r (wV 5))) A3))))) τ Q:=by
 have l4:(4:Nat)<=sizeLine:=by decide
 simp only [s_lst,D7,F1,Y2s,W5p,Y2r,C2,D4,h5,h6]
 cases a <;> cases b <;> simp [M8,o_bl,Q3b,Y9] <;> first | exact⟨l4,q⟩ | skip
theorem Y4g {m1 m2:D8} (T:Two m1 m2) {E:F3}{o0:Option Sl}:∀(ws:List (List Nat)) (o4 o5 o6 o7:Option Sl),(∀w∈ws,E1 w) ->
  (∀o4 o5 o6 o7,E.nx [o0,some (.dat (mD m1)),some (.dat (mD m2)),some (.own ((Q2p m1 m2).map mD)),o4,o5,o6,o7]) ->
  C6 (B1 4) wB1 E (ws.map tD) [o0,some (.dat (mD m1)),some (.dat (mD m2)),some (.own ((Q2p m1 m2).map mD)),o4,o5,o6,o7]
 | [],o4,o5,o6,o7,_,h=>h o4 o5 o6 o7
 | w::ws,o4,o5,o6,o7,hw,h=>by
  have w1:=T.w1
  have w2:=T.w2
  have ww:=hw w ar
  rw [ao,C6]
  simp only [wB1,L1,L8,O7,W9,D7,C2,D4]
  refine⟨_,rfl,_,rfl,rfl,_,⟨m1,w,rfl,w1,ww,rfl⟩,?_⟩
  rw [Q3]
  refine⟨_,rfl,_,rfl,rfl,_,⟨m2,w,rfl,w2,ww,rfl⟩,?_⟩
  rw [Q3]
  refine due4 (F8 m1 w) (F8 m2 w) rfl rfl ?_
  rw [V9]
  simp only [Q3g,F6,U8,Q4l,C2]
  refine⟨_,rfl,_,rfl,sz (by simp),?_⟩
  refine Z6x ww (Q2p m1 m2) none _ (fun m hm=>?_) ?_
  ·simp only [Q2p,aj,aK,bq]at hm
   rcases hm with rfl | rfl | rfl | rfl
   ·exact Z3t w1 w2
   ·exact Z3t w1 w2
   ·exact Z3t w1 w2
   ·exact(Y1e w1).wf
  refine⟨_,rfl,?_⟩
  have ed:(Q2p m1 m2).map (fun m=>D.bl (F8 m w))=[.bl (F8 m1 w||F8 m2 w),.bl (F8 m1 w&&F8 m2 w),.bl (F8 m1 w&&!F8 m2 w),.bl (!F8 m1 w)]:=by
   show [D.bl (F8 (W0 gOr m1 m2) w),.bl (F8 (W0 Q2q m1 m2) w),.bl (F8 (W0 Q2r m1 m2) w),.bl (F8 (Y7 m1) w)]=_
   rw [Z3v w1 w2 ww,Z3v w1 w2 ww,Z3v w1 w2 ww,W2e w1 ww]
  rw [ed,S6,Q1z]
  refine⟨_,_,rfl,rfl,Y7s [F8 m1 w||F8 m2 w,F8 m1 w&&F8 m2 w,F8 m1 w&&!F8 m2 w,!F8 m1 w],?_⟩
  rw [D.eq_refl,aI rfl,aD (by decide)]
  exact Y4g T ws _ _ _ _ (fun u hu=>hw u (av _ hu)) h
theorem W4r:∀rs Pr,rs.length=1->sp_law rs Pr->Z5j Q8t (spS gOr) (spS Q2q) (spS Q2r) Q6m Q6l Q8v Q2c (T7 Pr) (F2 Q7a rs):=by
 rintro rs Pr _ ⟨ns,rfl,hn,h⟩
 have w1:F7 (O6 ns 0 4):=Y0b ns 0 (by decide)
 have w2:F7 (O6 ns 60 4):=Y0b ns 60 (by decide)
 have l1:=Y0a ns 0 (most:=4) (by decide)
 have l2:=Y0a ns 60 (most:=4) (by decide)
 have le:(O6 ns 0 4).1.length*(O6 ns 60 4).1.length<=16:=Nat.mul_le_mul l1 l2
 have T:Two (O6 ns 0 4) (O6 ns 60 4):=⟨w1,w2,by omega⟩
 unfold Z5j
 simp only [L8,O7,W9,Q1c,D7,C2,J5,D4,s_lst,F1]
 refine⟨_,rfl,rfl,_,⟨ns,0,4,rfl,hn,by decide,by decide,rfl⟩,?_⟩
 rw [Q3]
 refine⟨_,rfl,rfl,_,⟨ns,60,4,rfl,hn,by decide,by decide,rfl⟩,?_⟩
 rw [Q3]
 refine⟨_,rfl,_,rfl,rfl,_,_,rfl,T,_,rfl,_,rfl,rfl,_,_,rfl,T,_,rfl,_,rfl,rfl,_,_,rfl,T,_,rfl,rfl,_,rfl,w1,by omega,_,rfl,sz (by simp),?_⟩
 rw [V9]
 simp only [Q3g,F6,U8,Q4l,C2,s_lst,D4,T3,Q4k,F1,W9,D7,J5]
 refine⟨_,rfl,_,rfl,sz (by simp),?_⟩
 refine Z6y (Q2p (O6 ns 0 4) (O6 ns 60 4)) none (fun m hm=>?_) ?_
 ·simp only [Q2p,aj,aK,bq]at hm
  have sl:∀g,(W0 g (O6 ns 0 4) (O6 ns 60 4)).1.length<=1000:=fun g=>aR (W7a w1 w2) (by omega)
  rcases hm with rfl | rfl | rfl | rfl
  ·exact⟨Z3u w1 w2,sl _⟩
  ·exact⟨Z3u w1 w2,sl _⟩
  ·exact⟨Z3u w1 w2,sl _⟩
  ·refine⟨Y1e w1,?_⟩
   have:=Q7w w1
   have e:(Y7 (O6 ns 0 4)).1.length=(E8 (O6 ns 0 4).1 (O6 ns 0 4).2).1.length:=by unfold Y7;simp
   omega
 refine⟨_,rfl,sz (by simp),?_⟩
 rw [Q1z]
 refine⟨_,_,rfl,rfl,by decide,?_⟩
 rw [D.eq_refl,aI rfl,aD (by decide)]
 simp only [Q4m,L8,T3,Q4k,F1,W9,D7,J5,D4]
 refine⟨rfl,_,⟨4,rfl,by decide,rfl⟩,_,rfl,?_⟩
 refine Y4g T _ _ _ _ _ (fun w hw=>W9c hw) fun o4 o5 o6 o7=>?_
 exact h
local macro_rules | `(tactic| trivial)=>`(tactic| first | exact Or.inl rfl | exact Or.inr rfl)
def P0 (i:Nat):Stmt:=PySem.Challenge.pw_textkinds_k20_sets.main.body.getD i (.Pass ⟨0,0,0,0⟩)
structure Txt (K:Fg9) (mg:Str->Option Value) (w:World):Prop where
 m_enumerate:mg "enumerate"=none
 m_len:mg "len"=none
 m_list:mg "list"=none
 m_max:mg "max"=none
 m_range:mg "range"=none
 m_tuple:mg "tuple"=none
 m_zip:mg "zip"=none
 c_SIGNS:∃t,mg "SIGNS"=some (.str "01ab" t)
theorem Q7k:bootBuiltins "enumerate"=some (.type "enumerate"):=by decide +kernel
theorem Z0z:bootBuiltins "list"=some (.type "list"):=by decide +kernel
theorem Z7i:bootBuiltins "max"=some (.builtin "max"):=by decide +kernel
theorem Z1a:bootBuiltins "zip"=some (.type "zip"):=by decide +kernel
abbrev Z4d:Stmt:=P0 2
abbrev Q8w:Stmt:=P0 3
abbrev Q4n:Stmt:=P0 4
abbrev Q9b:Stmt:=P0 5
abbrev Q9f:Stmt:=P0 6
abbrev Q6p:Stmt:=P0 7
abbrev Q8y:Stmt:=P0 8
abbrev Q9e:Stmt:=P0 9
abbrev Q9d:Stmt:=P0 10
abbrev Z4c:Stmt:=P0 11
abbrev Q8z:Stmt:=P0 15
abbrev Q8x:Stmt:=P0 16
abbrev Z3y:Stmt:=P0 20
abbrev Z3z:Stmt:=P0 21
abbrev Q6o:Stmt:=P0 24
abbrev Q9g:Stmt:=P0 17
abbrev Z4b:Stmt:=P0 13
abbrev Q9c:Stmt:=P0 18
abbrev Q9a:Stmt:=P0 23
abbrev Z4a:Stmt:=P0 25
abbrev Z3x:Stmt:=P0 26
abbrev Q3j:Stmt:=P0 27
abbrev Q6n:Stmt:=P0 28
structure Env (P:Program) (w:World) (K:Fg9) (mg:Str->Option Value) (base:Heap) (ts:List Addr) (ad:Nat->Addr) (fn:Nat->FuncData):Prop where
 T:Txt K mg w
 hBM:X4 mg base
 D_walked:Df K mg "walked" Z4d ["start","step"] (ad 0) (fn 0)
 D_all_reached:Df K mg "all_reached" Q8w ["some","onward"] (ad 1) (fn 1)
 D_distances:Df K mg "distances" Q4n ["ends","rows","wanted"] (ad 2) (fn 2)
 D_numbered:Df K mg "numbered" Q9b ["marks"] (ad 3) (fn 3)
 D_told_apart:Df K mg "told_apart" Q9f ["ends","rows"] (ad 4) (fn 4)
 D_least:Df K mg "least" Q6p ["ends","rows"] (ad 5) (fn 5)
 D_built:Df K mg "built" Q8y ["start","step","is_end"] (ad 6) (fn 6)
 D_pair_step:Df K mg "pair_step" Q9e ["one","other"] (ad 7) (fn 7)
 D_pair_end:Df K mg "pair_end" Q9d ["one","other","is_end"] (ad 8) (fn 8)
 D_side_by_side:Df K mg "side_by_side" Z4c ["one","other","is_end"] (ad 9) (fn 9)
 D_either:Df K mg "either" Q8z ["one","other"] (ad 10) (fn 10)
 D_both_of:Df K mg "both_of" Q8x ["one","other"] (ad 11) (fn 11)
 D_law_cell:Df K mg "_law_cell" Z3y ["_law_script","_law_k"] (ad 12) (fn 12)
 D_law_drawn:Df K mg "_law_drawn" Z3z ["_law_script","_law_k","_law_many"] (ad 13) (fn 13)
 D_law_machine:Df K mg "_law_machine" Q6o ["_law_script","_law_at","_law_most"] (ad 14) (fn 14)
 D_without:Df K mg "without" Q9g ["one","other"] (ad 15) (fn 15)
 D_least_of:Df K mg "least_of" Z4b ["machine"] (ad 16) (fn 16)
 D_other_than:Df K mg "other_than" Q9c ["one"] (ad 17) (fn 17)
 D_law_texts:Df K mg "_law_texts" Q9a ["_law_long"] (ad 18) (fn 18)
 D_law_state:Df K mg "_law_state" Z4a ["_law_machine_told","_law_state_here","_law_text_here"] (ad 19) (fn 19)
 D_law_accepts:Df K mg "_law_accepts" Z3x ["_law_machine_told","_law_text_here"] (ad 20) (fn 20)
 D_law_is_least:Df K mg "_law_is_least" Q3j ["_law_told"] (ad 21) (fn 21)
 D_law:Df K mg "law" Q6n ["_law_script"] (ad 22) (fn 22)
 C_least:∃c Pt,S8 K "least" "least" Q6p (ad 5) (fn 5) c Pt/\Pt∈ts
 C_pair_step:∃c Pt,S8 K "pair_step" "pair_step" Q9e (ad 7) (fn 7) c Pt/\Pt∈ts
 C_pair_end:∃c Pt,S8 K "pair_end" "pair_end" Q9d (ad 8) (fn 8) c Pt/\Pt∈ts
 C_either:∃c Pt,S8 K "either" "either" Q8z (ad 10) (fn 10) c Pt/\Pt∈ts
 C_both_of:∃c Pt,S8 K "both_of" "both_of" Q8x (ad 11) (fn 11) c Pt/\Pt∈ts
 C_without:∃c Pt,S8 K "without" "without" Q9g (ad 15) (fn 15) c Pt/\Pt∈ts
section
variable {P:Program}{w:World}{K:Fg9}{mg:Str->Option Value}{base:Heap}{ts:List Addr}{ad:Nat->Addr}{fn:Nat->FuncData} (Z:Env P w K mg base ts ad fn)
include Z
omit Z in
theorem Q8r:J4 MC.Z6q ["start","step"] (B8 Z4d):=O8 (by decide +kernel)
theorem Y5z:FnD P w K mg base 3 (ad 0) (fn 0) ["start","step"] (sp_walked (G7 P w K mg base 2)):=by
 have nd:=Q8r.nd
 refine Z.D_walked.ok Q8r (ws:=MC.Z5w (G7 P w K mg base 2) ) (fun cdv A outer s H E hr=>?_) MC.W5d
 exact(A5.cons (DS.sv 2 (DE.lst (DA.one (DE.fz (DE.v 0)))) nd) (A5.cons (DS.dnew1 (i:=3) hr.units0 (DE.v 0) DE.int nd rfl (by trivial)) (A5.cons (DS.sv 4 (DE.lst DA.nil) nd) (A5.cons (DS.fzO 2 (DS.whl aZ (DT.cmp Q7n Q5m (DE.len Z.T.m_len (DE.v 4)) (DE.len Z.T.m_len (DE.v 2)) (V8 _)) (A5.cons (DS.sv 5 (DE.ix (DE.v 2) (DE.len Z.T.m_len (DE.v 4)) (fun _ _=>rfl)) nd) (A5.cons (DS.sv 6 (DE.lst DA.nil) nd) (A5.cons (DS.for aZ rfl (DI.rng1 rfl Z.T.m_range (DA.one (DE.len Z.T.m_len (DE.gstr rfl Z.T.c_SIGNS)))) (DG.nm (i:=7) nd rfl (by trivial)) (A5.cons (DS.sv 8 (DE.callC (k:=2) (hr.mono (by decide)) (pv 1) (DA.cons (DE.v 5) (DA.one (DE.v 7)))) nd) (A5.cons (DS.ife (DT.dnotin (C5.hu1 hr) (DE.v 8) (pv 3)) (A5.cons (DS.dput (C5.hu1 hr) (pv 3) (DE.v 8) (DE.len Z.T.m_len (DE.v 2))) (A5.one (DS.append (pv 2) (DE.fz (DE.v 8))))) A5.nil) (A5.one (DS.append (pv 6) (DE.fz (DE.dgetT (C5.hu1 hr) (pv 3) (DE.v 8) (fun _ _=>rfl)))))))) (A5.one (DS.append (pv 4) (DE.fz (DE.tpl Z.T.m_tuple (DE.v 6)))))))))) (A5.one (DS.ret (DE.tup (DA.cons (DE.fz (DE.v 2)) (DA.one (DE.fz (DE.tpl Z.T.m_tuple (DE.v 4))))))))))))
theorem Y6a:FnD P w K mg base 3 (ad 0) (fn 0) ["start","step"] (sp_walkedK (G7 P w K mg base 2)):=by
 have nd:=Q8r.nd
 refine Z.D_walked.ok Q8r (ws:=MC.Z5x (G7 P w K mg base 2) ) (fun cdv A outer s H E hr=>?_) MC.W5e
 exact(A5.cons (DS.sv 2 (DE.lst (DA.one (DE.fz (DE.v 0)))) nd) (A5.cons (DS.knew1 (i:=3) (DE.v 0) DE.int nd rfl (by trivial)) (A5.cons (DS.sv 4 (DE.lst DA.nil) nd) (A5.cons (DS.fzO 2 (DS.whl aZ (DT.cmp Q7n Q5m (DE.len Z.T.m_len (DE.v 4)) (DE.len Z.T.m_len (DE.v 2)) (V8 _)) (A5.cons (DS.sv 5 (DE.ix (DE.v 2) (DE.len Z.T.m_len (DE.v 4)) (fun _ _=>rfl)) nd) (A5.cons (DS.sv 6 (DE.lst DA.nil) nd) (A5.cons (DS.for aZ rfl (DI.rng1 rfl Z.T.m_range (DA.one (DE.len Z.T.m_len (DE.gstr rfl Z.T.c_SIGNS)))) (DG.nm (i:=7) nd rfl (by trivial)) (A5.cons (DS.sv 8 (DE.callC (k:=2) (hr.mono (by decide)) (pv 1) (DA.cons (DE.v 5) (DA.one (DE.v 7)))) nd) (A5.cons (DS.ife (DT.knotin (C5.hu1 hr) (DE.v 8) (pv 3)) (A5.cons (DS.kput (C5.hu1 hr) (pv 3) (DE.v 8) (DE.len Z.T.m_len (DE.v 2))) (A5.one (DS.append (pv 2) (DE.fz (DE.v 8))))) A5.nil) (A5.one (DS.append (pv 6) (DE.fz (DE.kget (C5.hu1 hr) (pv 3) (DE.v 8) (fun _ _=>rfl)))))))) (A5.one (DS.append (pv 4) (DE.fz (DE.tpl Z.T.m_tuple (DE.v 6)))))))))) (A5.one (DS.ret (DE.tup (DA.cons (DE.fz (DE.v 2)) (DA.one (DE.fz (DE.tpl Z.T.m_tuple (DE.v 4))))))))))))
omit Z in
theorem Y2x:J4 MC.Z0g ["some","onward"] (B8 Q8w):=O8 (by decide +kernel)
theorem Y5l:FnT P w K mg base ts 1 (ad 1) (fn 1) ["some","onward"] (sp_all_reached K):=by
 have nd:=Y2x.nd
 refine Q5.okP Z.D_all_reached.F Y2x (ws:=MC.Z5g  K ) (fun cdv A outer s H E hT hr=>?_) MC.W4j
 exact(A5.cons (DS.setKC (i:=2) rfl (R8 (sc:=B8 Q8w) (N0:=MC.Z0g) (N:=["state"]) (nt:=1) (cap:=[]) rfl rfl (by decide +kernel)) (E5.lst (DE.v 0)) (fun _ _ _ _=>(DG.nm (i:=0) (show List.Nodup (["state"]:List Str)by decide +kernel) rfl (by trivial))) (fun _ _ _ _=>(DE.v 0)) (fun _ _ _ _=>(DE.fz DE.int)) nd rfl (by trivial)) (A5.cons (DS.sv 3 (DE.callTy (Y6w rfl) W0a rfl Z.T.m_list Z0z (DA.one (DE.v 2))) nd) (A5.cons (DS.sv 4 DE.int nd) (A5.cons (DS.whl aZ (DT.cmp Q7n Q5m (DE.v 4) (DE.len Z.T.m_len (DE.v 3)) (V8 _)) (A5.cons (DS.sv 5 (DE.ix (DE.v 3) (DE.v 4) (fun _ _=>rfl)) nd) (A5.cons (DS.for aZ rfl (DI.lst (DE.fz (DE.ix (DE.v 1) (DE.v 5) (fun _ _=>rfl)))) (DG.nm (i:=6) nd rfl (by trivial)) (A5.one (DS.ife (DT.knotin (C5.hu1 hr) (DE.v 6) (pv 2)) (A5.cons (DS.kput (C5.hu1 hr) (pv 2) (DE.v 6) (DE.op T2 S9 (DE.kget (C5.hu1 hr) (pv 2) (DE.v 5) (fun _ _=>rfl)) DE.int)) (A5.one (DS.append (pv 3) (DE.fz (DE.v 6))))) A5.nil))) (A5.one (DS.aug (i:=4) W1t Z6 DE.int nd rfl (by trivial)))))) (A5.one (DS.retK (pv 2)))))))
omit Z in
theorem Y3a:J4 MC.Q5a ["ends","rows","wanted"] (B8 Q4n):=O8 (by decide +kernel)
theorem Z6c:FnT P w K mg base ts 2 (ad 2) (fn 2) ["ends","rows","wanted"] sp_distances:=by
 have nd:=Y3a.nd
 refine Q5.okP Z.D_distances.F Y3a (ws:=MC.Z5i  K (sp_all_reached K)) (fun cdv A outer s H E hT hr=>?_) MC.W4n
 exact(A5.cons (DS.setLC (i:=3) rfl (R8 (sc:=B8 Q4n) (N0:=MC.Q5a) (N:=["row"]) (nt:=1) (cap:=[]) rfl rfl (by decide +kernel)) (E5.tup (DE.v 1)) (fun _ _ _ _=>(DG.nm (i:=0) (show List.Nodup (["row"]:List Str)by decide +kernel) rfl (by trivial))) (fun _ _ _ _=>(DE.lst DA.nil)) nd rfl (by trivial)) (A5.cons (DS.fzL 3 (DS.for aZ rfl (DI.enumX rfl Z.T.m_enumerate Q7k (DA.one (DE.v 1))) (DG.tp (n:=2) rfl (F9.cons (DG.nm (i:=4) nd rfl (by trivial)) (F9.cons (DG.nm (i:=5) nd rfl (by trivial)) F9.nil))) (A5.one (DS.for aZ rfl (DI.tup (DE.v 5)) (DG.nm (i:=6) nd rfl (by trivial)) (A5.one (DS.llapp (pv 3) (DE.v 6) (DE.fz (DE.v 4)) (fun _ _=>rfl) ⟨rfl,rfl,rfl,rfl⟩)))))) (A5.cons (DS.setF (i:=7) (DE.clP (W0q) (Y5l Z) hr hT Z.D_all_reached (DA.cons (DE.comp rfl (R8 (sc:=B8 Q4n) (N0:=MC.Q5a) (N:=["state","end","wanted"]) (nt:=2) (cap:=[2]) rfl rfl (by decide +kernel)) (E5.enumX rfl Z.T.m_enumerate Q7k (DA.one (DE.v 0))) (fun _ _ _ _=>(DG.tp (n:=2) rfl (F9.cons (DG.nm (i:=0) (show List.Nodup (["state","end","wanted"]:List Str)by decide +kernel) rfl (by trivial)) (F9.cons (DG.nm (i:=1) (show List.Nodup (["state","end","wanted"]:List Str)by decide +kernel) rfl (by trivial)) F9.nil)))) (fun _ _ _ _=>(O3.one (DT.cmp (Q7m (n:=60) (Q7s hr)) Q0x (DE.v 1) (DE.v 2) (V8 _)))) (fun _ _ _ _=>(DE.fz (DE.v 0)))) (DA.one (DE.v 3)))) nd rfl (by trivial)) (A5.one (DS.ret (DE.comp rfl (R8 (sc:=B8 Q4n) (N0:=MC.Q5a) (N:=["state","reached"]) (nt:=1) (cap:=[7]) rfl rfl (by decide +kernel)) (E5.rng1 rfl Z.T.m_range (DA.one (DE.len Z.T.m_len (DE.v 0)))) (fun _ _ _ _=>(DG.nm (i:=0) (show List.Nodup (["state","reached"]:List Str)by decide +kernel) rfl (by trivial))) (fun _ _ _ _=>O3.nil) (fun _ _ _ _=>(DE.fz (DE.fget1 (C5.hu1 hr) (pv 1) (DE.v 0) ⟨rfl,rfl,rfl,rfl⟩)))))))))
omit Z in
theorem Y3m:J4 MC.Z0k ["marks"] (B8 Q9b):=O8 (by decide +kernel)
theorem Z6f:FnD P w K mg base 1 (ad 3) (fn 3) ["marks"] sp_numbered:=by
 have nd:=Y3m.nd
 refine Z.D_numbered.ok Y3m (ws:=MC.Z5s  ) (fun cdv A outer s H E hr=>?_) MC.W4v
 exact(A5.numb rfl (by have:=hr.units;show _+9<cLine;exact Nat.lt_of_le_of_lt (Nat.add_le_add_left (by decide) _) this) (R8 (sc:=B8 Q9b) (N0:=MC.Z0k) (N:=["mark","numbers"]) (nt:=1) (cap:=[1]) rfl rfl (by decide +kernel)) (E5.lst (DE.v 0)) (fun _ _ _ _=>Y1l (show List.Nodup (["mark","numbers"]:List Str)by decide +kernel) rfl (by trivial)) (fun _ _ _ _=>W3b (by have:=hr.units;show _+9<cLine;exact Nat.lt_of_le_of_lt (Nat.add_le_add_left (by decide) _) this) (pv 1) (pv 0) rfl Z.T.m_len (pv 1) ⟨rfl,rfl,rfl,rfl⟩) nd rfl (by trivial))
omit Z in
theorem Y3r:J4 MC.Z0m ["ends","rows"] (B8 Q9f):=O8 (by decide +kernel)
theorem Y5y:FnT P w K mg base ts 3 (ad 4) (fn 4) ["ends","rows"] sp_told_apart:=by
 have nd:=Y3r.nd
 refine Q5.okP Z.D_told_apart.F Y3r (ws:=MC.Z5v  sp_numbered sp_distances) (fun cdv A outer s H E hT hr=>?_) MC.W5c
 exact(A5.cons (DS.sv 2 (DE.fz (DE.cl (Z6f Z) hr Z.D_numbered (DA.one (DE.listZip rfl rfl Z.T.m_list rfl Z.T.m_zip (DA.cons (DE.clP (Y0n) (Z6c Z) hr hT Z.D_distances (DA.cons (DE.v 0) (DA.cons (DE.v 1) (DA.one DE.bl)))) (DA.one (DE.clP (Y0n) (Z6c Z) hr hT Z.D_distances (DA.cons (DE.v 0) (DA.cons (DE.v 1) (DA.one DE.bl)))))))))) nd) (A5.cons (DS.sv 3 DE.int nd) (A5.cons (DS.whl aZ (DT.cmp Y7g Q5m (DE.callB (Z7l rfl) Y0f rfl Z.T.m_max Z7i (DA.one (DE.v 2))) (DE.v 3) (V8 _)) (A5.cons (DS.sv 3 (DE.op T2 S9 (DE.callB (Z7l rfl) Y0f rfl Z.T.m_max Z7i (DA.one (DE.v 2))) DE.int) nd) (A5.one (DS.sv 2 (DE.fz (DE.cl (Z6f Z) hr Z.D_numbered (DA.one (DE.comp rfl (R8 (sc:=B8 Q9f) (N0:=MC.Z0m) (N:=["block","row","blocks"]) (nt:=2) (cap:=[2]) rfl rfl (by decide +kernel)) (E5.zipT rfl Z.T.m_zip Z1a (DA.cons (DE.v 2) (DA.one (DE.v 1)))) (fun _ _ _ _=>(DG.tp (n:=2) rfl (F9.cons (DG.nm (i:=0) (show List.Nodup (["block","row","blocks"]:List Str)by decide +kernel) rfl (by trivial)) (F9.cons (DG.nm (i:=1) (show List.Nodup (["block","row","blocks"]:List Str)by decide +kernel) rfl (by trivial)) F9.nil)))) (fun _ _ _ _=>O3.nil) (fun _ _ _ _=>(DE.fz (DE.tup (DA.cons (DE.fz (DE.v 0)) (DA.one (DE.fz (DE.tpl Z.T.m_tuple (DE.comp rfl (R8 (N0:=["block","row","blocks"]) (N:=["goal","blocks"]) (nt:=1) (cap:=[2]) rfl rfl (by kernel_rfl)) (E5.tup (DE.v 1)) (fun _ _ _ _=>(DG.nm (i:=0) (show List.Nodup (["goal","blocks"]:List Str)by decide +kernel) rfl (by trivial))) (fun _ _ _ _=>O3.nil) (fun _ _ _ _=>(DE.fz (DE.ix (DE.v 1) (DE.v 0) (fun _ _=>rfl)))))))))))))))) nd)))) (A5.one (DS.retV (pv 2))))))
omit Z in
theorem Y3k:J4 MC.Z0j ["ends","rows"] (B8 Q6p):=O8 (by decide +kernel)
theorem Z6e:FnT P w K mg base ts 4 (ad 5) (fn 5) ["ends","rows"] sp_least:=by
 obtain⟨c,Pt,C,fY⟩:=Z.C_least
 have nd:=Y3k.nd
 refine S8.okP C Y3k (ws:=MC.Z5q (G7 P w K mg base 2) K sp_told_apart (sp_walkedK (G7 P w K mg base 2))) (fun A outer s H E hT hr=>?_) MC.W4s
 exact(A5.cons (DS.sv 2 (DE.fz (DE.clP (W0w) (Y5y Z) hr hT Z.D_told_apart (DA.cons (DE.v 0) (DA.one (DE.v 1))))) nd) (A5.cons (DS.knew (i:=3) nd rfl (by trivial)) (A5.cons (DS.fzK 3 (DS.for aZ rfl (DI.enumF rfl Z.T.m_enumerate Q7k (DA.one (DE.v 2))) (DG.tp (n:=2) rfl (F9.cons (DG.nm (i:=4) nd rfl (by trivial)) (F9.cons (DG.nm (i:=5) nd rfl (by trivial)) F9.nil))) (A5.one (DS.ksetd (pv 3) (DE.v 5) (DE.v 4) ⟨rfl,rfl,rfl,rfl⟩)))) (A5.cons (DS.asg (DE.callW (kl:=1) (ps:=["block","column"]) (cs:=[("samples",3),("rows",1),("blocks",2)]) (clos:=[("samples",s.heap.objs.size+4),("rows",s.heap.objs.size+2),("blocks",s.heap.objs.size+3)]) (wb:=(MC.Q9x K)) (Y6a Z) (hr.mono (by decide)) rfl Z.D_walked.m Z.D_walked.k Z.D_walked.b (DE.ix (DE.v 2) DE.int (fun _ _=>rfl)) (hT _ fY) Z.hBM rfl C.hd rfl rfl (aV.mpr ⟨rfl,aV.mpr ⟨rfl,aV.mpr ⟨rfl,fun _ h=>nomatch h⟩⟩⟩) (aV.mpr ⟨⟨rfl,rfl,rfl⟩,aV.mpr ⟨⟨rfl,rfl,rfl⟩,aV.mpr ⟨⟨rfl,rfl,rfl⟩,fun _ h=>nomatch h⟩⟩⟩) ⟨rfl,rfl,rfl,by decide +kernel,by decide +kernel,by decide +kernel,by decide +kernel,by decide +kernel⟩ (fun _ _ _ _ _ us hl=>match us,hl with | [_,_],_=>rfl) (fun caps f c' A outer s H q hn hr=>(DE.ix (DE.v 4) (DE.ix (DE.ix (DE.v 3) (DE.fget (C5.hu1 hr) (pv 2) (DE.v 0) (fun _ _=>rfl)) (fun _ _=>rfl)) (DE.v 1) (fun _ _=>rfl)) (fun _ _=>rfl)))) (DG.tp (n:=2) rfl (F9.cons (DG.nm (i:=6) nd rfl (by trivial)) (F9.cons (DG.nm (i:=7) nd rfl (by trivial)) F9.nil)))) (A5.one (DS.ret (DE.tup (DA.cons (DE.fz (DE.tpl Z.T.m_tuple (DE.comp rfl (R8 (sc:=B8 Q6p) (N0:=MC.Z0j) (N:=["block","ends","samples"]) (nt:=1) (cap:=[0,3]) rfl rfl (by decide +kernel)) (E5.lst (DE.v 6)) (fun _ _ _ _=>(DG.nm (i:=0) (show List.Nodup (["block","ends","samples"]:List Str)by decide +kernel) rfl (by trivial))) (fun _ _ _ _=>O3.nil) (fun _ _ _ _=>(DE.fz (DE.ix (DE.v 1) (DE.fget (C5.hu1 hr) (pv 2) (DE.v 0) (fun _ _=>rfl)) (fun _ _=>rfl))))))) (DA.one (DE.fz (DE.v 7)))))))))))
omit Z in
theorem Y2z:J4 MC.Z0h ["start","step","is_end"] (B8 Q8y):=O8 (by decide +kernel)
theorem Y5n:FnT P w K mg base ts 5 (ad 6) (fn 6) ["start","step","is_end"] (sp_built (G7 P w K mg base 2)):=by
 have nd:=Y2z.nd
 refine Q5.okP Z.D_built.F Y2z (ws:=MC.Z5h (G7 P w K mg base 2) (sp_walked (G7 P w K mg base 2)) sp_least) (fun cdv A outer s H E hT hr=>?_) MC.W4l
 exact(A5.cons (DS.asg (DE.cl (Y5z Z) hr Z.D_walked (DA.cons (DE.v 0) (DA.one (DE.v 1)))) (DG.tp (n:=2) rfl (F9.cons (DG.nm (i:=3) nd rfl (by trivial)) (F9.cons (DG.nm (i:=4) nd rfl (by trivial)) F9.nil)))) (A5.one (DS.ret (DE.clP (Y0o) (Z6e Z) hr hT Z.D_least (DA.cons (DE.comp rfl (R8 (sc:=B8 Q8y) (N0:=MC.Z0h) (N:=["key","is_end"]) (nt:=1) (cap:=[2]) rfl rfl (by decide +kernel)) (E5.lst (DE.v 3)) (fun _ _ _ _=>(DG.nm (i:=0) (show List.Nodup (["key","is_end"]:List Str)by decide +kernel) rfl (by trivial))) (fun _ _ _ _=>O3.nil) (fun _ _ _ _=>(DE.fz (DE.callC (k:=2) (hr.mono (by decide)) (pv 1) (DA.one (DE.v 0)))))) (DA.one (DE.v 4)))))))
omit Z in
theorem Y3p:J4 MC.Z6o ["one","other"] (B8 Q9e):=O8 (by decide +kernel)
theorem Y5x:FnT P w K mg base ts 3 (ad 7) (fn 7) ["one","other"] (sp_pair_step (G7 P w K mg base 2)):=by
 obtain⟨c,Pt,C,fY⟩:=Z.C_pair_step
 have nd:=Y3p.nd
 refine S8.okL (lps:=["pair","column"]) (w1:=MC.Z4p) (w2:=MC.Z4q) (wb:=MC.Q9z ) (cs:=[("rows",2),("other_rows",3)]) (kl:=1) C Y3p rfl Z.hBM fY (fun A outer s H E hr=>?_) (fun A outer s H E hr=>?_) (fun n=>[("rows",n+2),("other_rows",n+1)]) (fun n=>rfl) (fun n=>rfl) (fun n=>?_) ?_ ?_ (fun _ _ _ _ _ us hl=>match us,hl with | [_,_],_=>rfl) (fun caps g c' A outer s H q hn hr=>?_) (fun n=>rfl) MC.W4y
 ·exact(DS.sv 2 (DE.ix (DE.v 0) DE.int (fun _ _=>rfl)) nd)
 ·exact(DS.sv 3 (DE.ix (DE.v 1) DE.int (fun _ _=>rfl)) nd)
 ·exact aV.mpr ⟨rfl,aV.mpr ⟨rfl,fun _ h=>nomatch h⟩⟩
 ·exact aV.mpr ⟨⟨rfl,rfl⟩,aV.mpr ⟨⟨rfl,rfl⟩,fun _ h=>nomatch h⟩⟩
 ·exact⟨rfl,rfl,rfl,by decide +kernel,by decide +kernel,by decide +kernel,by decide +kernel,by decide +kernel⟩
 ·exact(DE.tup (DA.cons (DE.fz (DE.ix (DE.ix (DE.v 2) (DE.ix (DE.v 0) DE.int (fun _ _=>rfl)) (fun _ _=>rfl)) (DE.v 1) (fun _ _=>rfl))) (DA.one (DE.fz (DE.ix (DE.ix (DE.v 3) (DE.ix (DE.v 0) DE.int (fun _ _=>rfl)) (fun _ _=>rfl)) (DE.v 1) (fun _ _=>rfl))))))
omit Z in
theorem Y3o:J4 MC.Z6n ["one","other","is_end"] (B8 Q9d):=O8 (by decide +kernel)
theorem Y5w:FnT P w K mg base ts 3 (ad 8) (fn 8) ["one","other","is_end"] (sp_pair_end (G7 P w K mg base 1) (G7 P w K mg base 2)):=by
 obtain⟨c,Pt,C,fY⟩:=Z.C_pair_end
 have nd:=Y3o.nd
 refine S8.okL (lps:=["pair"]) (w1:=MC.Z4o) (w2:=MC.w2_pair_end) (wb:=MC.Q9y (G7 P w K mg base 1)) (cs:=[("other_ends",4),("is_end",2),("ends",3)]) (kl:=1) C Y3o rfl Z.hBM fY (fun A outer s H E hr=>?_) (fun A outer s H E hr=>?_) (fun n=>[("other_ends",n+3),("is_end",n+1),("ends",n+2)]) (fun n=>rfl) (fun n=>rfl) (fun n=>?_) ?_ ?_ (fun _ _ _ _ _ us hl=>match us,hl with | [_],_=>rfl) (fun caps g c' A outer s H q hn hr=>?_) (fun n=>rfl) MC.W4x
 ·exact(DS.sv 3 (DE.ix (DE.v 0) DE.int (fun _ _=>rfl)) nd)
 ·exact(DS.sv 4 (DE.ix (DE.v 1) DE.int (fun _ _=>rfl)) nd)
 ·exact aV.mpr ⟨rfl,aV.mpr ⟨rfl,aV.mpr ⟨rfl,fun _ h=>nomatch h⟩⟩⟩
 ·exact aV.mpr ⟨⟨rfl,rfl⟩,aV.mpr ⟨⟨rfl,rfl⟩,aV.mpr ⟨⟨rfl,rfl⟩,fun _ h=>nomatch h⟩⟩⟩
 ·exact⟨rfl,rfl,rfl,by decide +kernel,by decide +kernel,by decide +kernel,by decide +kernel,by decide +kernel⟩
 ·exact(DE.callC (k:=1) (hr.mono (ah 1)) (pv 2) (DA.cons (DE.ix (DE.v 3) (DE.ix (DE.v 0) DE.int (fun _ _=>rfl)) (fun _ _=>rfl)) (DA.one (DE.ix (DE.v 1) (DE.ix (DE.v 0) DE.int (fun _ _=>rfl)) (fun _ _=>rfl)))))
omit Z in
theorem Y3q:J4 MC.Z6p ["one","other","is_end"] (B8 Z4c):=O8 (by decide +kernel)
theorem Z0f:FnT P w K mg base ts 6 (ad 9) (fn 9) ["one","other","is_end"] (Q0o (G7 P w K mg base 1)):=by
 have nd:=Y3q.nd
 refine Q5.okP Z.D_side_by_side.F Y3q (ws:=MC.Z5u  (sp_built (G7 P w K mg base 2)) (sp_pair_step (G7 P w K mg base 2)) (sp_pair_end (G7 P w K mg base 1) (G7 P w K mg base 2))) (fun cdv A outer s H E hT hr=>?_) MC.W4z
 exact(A5.one (DS.ret (DE.clP (W0r) (Y5n Z) hr hT Z.D_built (DA.cons (DE.tup (DA.cons (DE.fz DE.int) (DA.one (DE.fz DE.int)))) (DA.cons (DE.clP (W0v) (Y5x Z) hr hT Z.D_pair_step (DA.cons (DE.v 0) (DA.one (DE.v 1)))) (DA.one (DE.clP (W0u) (Y5w Z) hr hT Z.D_pair_end (DA.cons (DE.v 0) (DA.cons (DE.v 1) (DA.one (DE.v 2)))))))))))
omit Z in
theorem Y3b:J4 MC.Z6h ["one","other"] (B8 Q8z):=O8 (by decide +kernel)
theorem Y5o:FnT P w K mg base ts 7 (ad 10) (fn 10) ["one","other"] (spS gOr):=by
 obtain⟨c,Pt,C,fY⟩:=Z.C_either
 have nd:=Y3b.nd
 refine S8.okP C Y3b (ws:=MC.Y5b (G7 P w K mg base 1) (Q0o (G7 P w K mg base 1))) (fun A outer s H E hT hr=>?_) MC.W4p
 exact(A5.one (DS.ret (DE.clP (Z3a) (Z0f Z) hr hT Z.D_side_by_side (DA.cons (DE.v 0) (DA.cons (DE.v 1) (DA.one (DE.lam0 (k:=0) (ps:=["end","other_end"]) (wb:=MC.Q6x) (sp:=P8 MC.Q6x []) (hT _ fY) Z.hBM rfl C.hd rfl ⟨rfl,rfl,rfl,by decide +kernel,by decide +kernel,by decide +kernel,by decide +kernel,by decide +kernel⟩ (fun _ _ _ _ us hl=>match us,hl with | [_,_],_=>rfl) (fun f c' A outer s H q hr=>(DE.or (DE.v 0) (DE.or1 (DE.v 1)))) (fun rs r _ ⟨ds,d,e1,e2,e3⟩=>⟨ds,d,e1,e2,by rw [cC,ba]at e3;exact e3⟩))))))))
omit Z in
theorem Y2y:J4 MC.Z6g ["one","other"] (B8 Q8x):=O8 (by decide +kernel)
theorem Y5m:FnT P w K mg base ts 7 (ad 11) (fn 11) ["one","other"] (spS Q2q):=by
 obtain⟨c,Pt,C,fY⟩:=Z.C_both_of
 have nd:=Y2y.nd
 refine S8.okP C Y2y (ws:=MC.Y5a (G7 P w K mg base 1) (Q0o (G7 P w K mg base 1))) (fun A outer s H E hT hr=>?_) MC.W4k
 exact(A5.one (DS.ret (DE.clP (Z3a) (Z0f Z) hr hT Z.D_side_by_side (DA.cons (DE.v 0) (DA.cons (DE.v 1) (DA.one (DE.lam0 (k:=0) (ps:=["end","other_end"]) (wb:=MC.Q6w) (sp:=P8 MC.Q6w []) (hT _ fY) Z.hBM rfl C.hd rfl ⟨rfl,rfl,rfl,by decide +kernel,by decide +kernel,by decide +kernel,by decide +kernel,by decide +kernel⟩ (fun _ _ _ _ us hl=>match us,hl with | [_,_],_=>rfl) (fun f c' A outer s H q hr=>(DE.and (DE.v 0) (DE.and1 (DE.v 1)))) (fun rs r _ ⟨ds,d,e1,e2,e3⟩=>⟨ds,d,e1,e2,by rw [cC,ba]at e3;exact e3⟩))))))))
omit Z in
theorem Y3e:J4 MC.Z6j ["_law_script","_law_k"] (B8 Z3y):=O8 (by decide +kernel)
theorem Y5q:FnD P w K mg base 1 (ad 12) (fn 12) ["_law_script","_law_k"] Q6j:=by
 have nd:=Y3e.nd
 refine Z.D_law_cell.ok Y3e (ws:=MC.Q9w  ) (fun cdv A outer s H E hr=>?_) MC.W4m
 exact(A5.cons (DS.ife (DT.cmp (Q7m (n:=60) (Q7s hr)) Q0x (DE.v 0) (DE.lst DA.nil) (V8 _)) (A5.one (DS.ret (DE.op Q3c Q3a DE.int (DE.v 1)))) A5.nil) (A5.one (DS.ret (DE.op T2 S9 (DE.ix (DE.v 0) (DE.op Q4d Z6 (DE.v 1) (DE.len Z.T.m_len (DE.v 0))) (fun _ _=>rfl)) (DE.op Q3c Q3a DE.int (DE.op Q8j Z6 (DE.v 1) (DE.len Z.T.m_len (DE.v 0))))))))
omit Z in
theorem Y3f:J4 MC.Z6k ["_law_script","_law_k","_law_many"] (B8 Z3z):=O8 (by decide +kernel)
theorem Z0e:FnD P w K mg base 2 (ad 13) (fn 13) ["_law_script","_law_k","_law_many"] Q6k:=by
 have nd:=Y3f.nd
 refine Z.D_law_drawn.ok Y3f (ws:=MC.Z5l  Q6j) (fun cdv A outer s H E hr=>?_) MC.W4o
 exact(A5.cons (DS.sv 3 (DE.op Q4d Z6 (DE.op T2 S9 (DE.op Q3c Q3a (DE.op Q4d Z6 (DE.cl (Y5q Z) hr Z.D_law_cell (DA.cons (DE.v 0) (DA.one (DE.v 1)))) DE.int) DE.int) (DE.op Q3c Q3a DE.int (DE.op T2 S9 (DE.v 1) DE.int))) DE.int) nd) (A5.cons (DS.sv 3 (DE.op Q4d Z6 (DE.op T2 S9 (DE.op Q3c Q3a (DE.v 3) (DE.v 3)) (DE.op Q8j Z6 (DE.v 3) DE.int)) DE.int) nd) (A5.one (DS.ret (DE.op Q4d Z6 (DE.op Q8j Z6 (DE.op Q4d Z6 (DE.op T2 S9 (DE.op Q3c Q3a (DE.v 3) (DE.v 3)) (DE.op Q8j Z6 (DE.v 3) DE.int)) DE.int) DE.int) (DE.v 2))))))
omit Z in
theorem Y3h:J4 MC.Q7b ["_law_script","_law_at","_law_most"] (B8 Q6o):=O8 (by decide +kernel)
theorem Z6d:FnD P w K mg base 3 (ad 14) (fn 14) ["_law_script","_law_at","_law_most"] Q8t:=by
 have nd:=Y3h.nd
 refine Z.D_law_machine.ok Y3h (ws:=MC.Z5n  Q6k) (fun cdv A outer s H E hr=>?_) MC.W4u
 exact(A5.cons (DS.sv 3 (DE.op T2 S9 DE.int (DE.cl (Z0e Z) hr Z.D_law_drawn (DA.cons (DE.v 0) (DA.cons (DE.v 1) (DA.one (DE.v 2)))))) nd) (A5.cons (DS.sv 4 (DE.tpl Z.T.m_tuple (DE.comp rfl (R8 (sc:=B8 Q6o) (N0:=MC.Q7b) (N:=["_law_k","_law_script","_law_at"]) (nt:=1) (cap:=[0,1]) rfl rfl (by decide +kernel)) (E5.rng1 rfl Z.T.m_range (DA.one (DE.v 3))) (fun _ _ _ _=>(DG.nm (i:=0) (show List.Nodup (["_law_k","_law_script","_law_at"]:List Str)by decide +kernel) rfl (by trivial))) (fun _ _ _ _=>O3.nil) (fun _ _ _ _=>(DE.fz (DE.cmp (Q7m (n:=60) (Q7s hr)) Q0x (DE.cl (Z0e Z) hr Z.D_law_drawn (DA.cons (DE.v 1) (DA.cons (DE.op T2 S9 (DE.op T2 S9 (DE.v 2) DE.int) (DE.v 0)) (DA.one DE.int)))) DE.int (V8 _)))))) nd) (A5.cons (DS.sv 5 (DE.lst DA.nil) nd) (A5.cons (DS.for aZ rfl (DI.rng1 rfl Z.T.m_range (DA.one (DE.v 3))) (DG.nm (i:=6) nd rfl (by trivial)) (A5.one (DS.append (pv 5) (DE.fz (DE.tpl Z.T.m_tuple (DE.comp rfl (R8 (sc:=B8 Q6o) (N0:=MC.Q7b) (N:=["_law_j","_law_script","_law_size","_law_at","_law_k"]) (nt:=1) (cap:=[0,3,1,6]) rfl rfl (by decide +kernel)) (E5.rng1 rfl Z.T.m_range (DA.one DE.int)) (fun _ _ _ _=>(DG.nm (i:=0) (show List.Nodup (["_law_j","_law_script","_law_size","_law_at","_law_k"]:List Str)by decide +kernel) rfl (by trivial))) (fun _ _ _ _=>O3.nil) (fun _ _ _ _=>(DE.fz (DE.cl (Z0e Z) hr Z.D_law_drawn (DA.cons (DE.v 1) (DA.cons (DE.op T2 S9 (DE.op T2 S9 (DE.op T2 S9 (DE.v 3) DE.int) (DE.op Q3c Q3a DE.int (DE.v 4))) (DE.v 0)) (DA.one (DE.v 2))))))))))))) (A5.one (DS.ret (DE.tup (DA.cons (DE.fz (DE.v 4)) (DA.one (DE.fz (DE.tpl Z.T.m_tuple (DE.v 5))))))))))))
omit Z in
theorem Y3s:J4 MC.Z6r ["one","other"] (B8 Q9g):=O8 (by decide +kernel)
theorem Y6b:FnT P w K mg base ts 7 (ad 15) (fn 15) ["one","other"] (spS Q2r):=by
 obtain⟨c,Pt,C,fY⟩:=Z.C_without
 have nd:=Y3s.nd
 refine S8.okP C Y3s (ws:=MC.Y5c (G7 P w K mg base 1) (Q0o (G7 P w K mg base 1))) (fun A outer s H E hT hr=>?_) MC.W5f
 exact(A5.one (DS.ret (DE.clP (Z3a) (Z0f Z) hr hT Z.D_side_by_side (DA.cons (DE.v 0) (DA.cons (DE.v 1) (DA.one (DE.lam0 (k:=0) (ps:=["end","other_end"]) (wb:=MC.Q6y) (sp:=P8 MC.Q6y []) (hT _ fY) Z.hBM rfl C.hd rfl ⟨rfl,rfl,rfl,by decide +kernel,by decide +kernel,by decide +kernel,by decide +kernel,by decide +kernel⟩ (fun _ _ _ _ us hl=>match us,hl with | [_,_],_=>rfl) (fun f c' A outer s H q hr=>(DE.and (DE.v 0) (DE.and1 (DE.nt (DE.v 1))))) (fun rs r _ ⟨ds,d,e1,e2,e3⟩=>⟨ds,d,e1,e2,by rw [cC,ba]at e3;exact e3⟩))))))))
omit Z in
theorem Y3l:J4 MC.Z6m ["machine"] (B8 Z4b):=O8 (by decide +kernel)
theorem Y5u:FnT P w K mg base ts 5 (ad 16) (fn 16) ["machine"] sp_least_of:=by
 have nd:=Y3l.nd
 refine Q5.okP Z.D_least_of.F Y3l (ws:=MC.Z5r  sp_least) (fun cdv A outer s H E hT hr=>?_) MC.W4t
 exact(A5.cons (DS.asg (DE.v 0) (DG.tp (n:=2) rfl (F9.cons (DG.nm (i:=1) nd rfl (by trivial)) (F9.cons (DG.nm (i:=2) nd rfl (by trivial)) F9.nil)))) (A5.one (DS.ret (DE.clP (Y0o) (Z6e Z) hr hT Z.D_least (DA.cons (DE.v 1) (DA.one (DE.v 2)))))))
omit Z in
theorem Y3n:J4 MC.Z0l ["one"] (B8 Q9c):=O8 (by decide +kernel)
theorem Y5v:FnT P w K mg base ts 6 (ad 17) (fn 17) ["one"] Q6m:=by
 have nd:=Y3n.nd
 refine Q5.okP Z.D_other_than.F Y3n (ws:=MC.Z5t  sp_least_of) (fun cdv A outer s H E hT hr=>?_) MC.W4w
 exact(A5.cons (DS.asg (DE.clP (W0s) (Y5u Z) hr hT Z.D_least_of (DA.one (DE.v 0))) (DG.tp (n:=2) rfl (F9.cons (DG.nm (i:=1) nd rfl (by trivial)) (F9.cons (DG.nm (i:=2) nd rfl (by trivial)) F9.nil)))) (A5.one (DS.ret (DE.tup (DA.cons (DE.fz (DE.tpl Z.T.m_tuple (DE.comp rfl (R8 (sc:=B8 Q9c) (N0:=MC.Z0l) (N:=["end"]) (nt:=1) (cap:=[]) rfl rfl (by decide +kernel)) (E5.tup (DE.v 1)) (fun _ _ _ _=>(DG.nm (i:=0) (show List.Nodup (["end"]:List Str)by decide +kernel) rfl (by trivial))) (fun _ _ _ _=>O3.nil) (fun _ _ _ _=>(DE.fz (DE.nt (DE.v 0))))))) (DA.one (DE.fz (DE.v 2))))))))
omit Z in
theorem Y3j:J4 MC.Z0i ["_law_long"] (B8 Q9a):=O8 (by decide +kernel)
theorem Y5t:FnD P w K mg base 1 (ad 18) (fn 18) ["_law_long"] Q8v:=by
 have nd:=Y3j.nd
 refine Z.D_law_texts.ok Y3j (ws:=MC.Z5p  ) (fun cdv A outer s H E hr=>?_) MC.W5b
 exact(A5.cons (DS.sv 1 (DE.lst (DA.one (DE.fz DE.str))) nd) (A5.cons (DS.sv 2 (DE.fz (DE.lst (DA.one (DE.fz DE.str)))) nd) (A5.cons (DS.for aZ rfl (DI.rng1 rfl Z.T.m_range (DA.one (DE.v 0))) (DG.nm (i:=3) nd rfl (by trivial)) (A5.cons (DS.sv 4 (DE.lst DA.nil) nd) (A5.cons (DS.fzO 4 (DS.for aZ rfl (DI.lst (DE.fz (DE.v 2))) (DG.nm (i:=5) nd rfl (by trivial)) (A5.one (DS.sv 4 (DE.op T2 S9 (DE.v 4) (DE.comp rfl (R8 (sc:=B8 Q9a) (N0:=MC.Z0i) (N:=["_law_sign","_law_text_here"]) (nt:=1) (cap:=[5]) rfl rfl (by decide +kernel)) (E5.str DE.str) (fun _ _ _ _=>(DG.nm (i:=0) (show List.Nodup (["_law_sign","_law_text_here"]:List Str)by decide +kernel) rfl (by trivial))) (fun _ _ _ _=>O3.nil) (fun _ _ _ _=>(DE.fz (DE.op T2 S9 (DE.v 1) (DE.v 0)))))) nd)))) (A5.cons (DS.sv 2 (DE.fz (DE.v 4)) nd) (A5.one (DS.sv 1 (DE.op W1r Y6d (DE.v 1) (DE.v 2)) nd)))))) (A5.one (DS.retV (pv 1))))))
omit Z in
theorem Y3i:J4 MC.Z6l ["_law_machine_told","_law_state_here","_law_text_here"] (B8 Z4a):=O8 (by decide +kernel)
theorem Y5s:FnD P w K mg base 1 (ad 19) (fn 19) ["_law_machine_told","_law_state_here","_law_text_here"] Q8u:=by
 have nd:=Y3i.nd
 refine Z.D_law_state.ok Y3i (ws:=MC.Z5o  ) (fun cdv A outer s H E hr=>?_) MC.W5a
 exact(A5.cons (DS.for aZ rfl (DI.str (DE.v 2)) (DG.nm (i:=3) nd rfl (by trivial)) (A5.one (DS.sv 1 (DE.ix (DE.ix (DE.ix (DE.v 0) DE.int (fun _ _=>rfl)) (DE.v 1) (fun _ _=>rfl)) (DE.index DE.str (DE.v 3)) (fun _ _=>rfl)) nd))) (A5.one (DS.retV (pv 1))))
omit Z in
theorem Y3d:J4 MC.Z6i ["_law_machine_told","_law_text_here"] (B8 Z3x):=O8 (by decide +kernel)
theorem Z0d:FnD P w K mg base 2 (ad 20) (fn 20) ["_law_machine_told","_law_text_here"] Q2c:=by
 have nd:=Y3d.nd
 refine Z.D_law_accepts.ok Y3d (ws:=MC.Z5k  Q8u) (fun cdv A outer s H E hr=>?_) MC.W4i
 exact(A5.one (DS.ret (DE.ix (DE.ix (DE.v 0) DE.int (fun _ _=>rfl)) (DE.cl (Y5s Z) hr Z.D_law_state (DA.cons (DE.v 0) (DA.cons DE.int (DA.one (DE.v 1))))) (fun _ _=>rfl))))
omit Z in
theorem Y3g:J4 MC.Q3o ["_law_told"] (B8 Q3j):=O8 (by decide +kernel)
theorem Y5r:FnD P w K mg base 1 (ad 21) (fn 21) ["_law_told"] Q6l:=by
 have nd:=Y3g.nd
 refine Z.D_law_is_least.ok Y3g (ws:=MC.Z5m  K ) (fun cdv A outer s H E hr=>?_) MC.W4q
 exact(A5.cons (DS.sv 1 (DE.len Z.T.m_len (DE.ix (DE.v 0) DE.int (fun _ _=>rfl))) nd) (A5.cons (DS.sv 2 (DE.lst (DA.one (DE.fz DE.int))) nd) (A5.cons (DS.for aZ rfl (DI.lst (DE.fz (DE.listRng rfl rfl Z.T.m_list rfl Z.T.m_range (DA.one (DE.v 1))))) (DG.nm (i:=3) nd rfl (by trivial)) (A5.one (DS.ife (DT.cmp Q7n Q5m (DE.v 3) (DE.len Z.T.m_len (DE.v 2)) (V8 _)) (A5.cons (DS.sv 4 (DE.ix (DE.ix (DE.v 0) DE.int (fun _ _=>rfl)) (DE.v 3) (fun _ _=>rfl)) nd) (A5.one (DS.sv 2 (DE.op T2 S9 (DE.v 2) (DE.comp rfl (R8 (sc:=B8 Q3j) (N0:=MC.Q3o) (N:=["_law_k","_law_there","_law_met","_law_row"]) (nt:=2) (cap:=[2,4]) rfl rfl (by decide +kernel)) (E5.enumX rfl Z.T.m_enumerate Q7k (DA.one (DE.v 4))) (fun _ _ _ _=>(DG.tp (n:=2) rfl (F9.cons (DG.nm (i:=0) (show List.Nodup (["_law_k","_law_there","_law_met","_law_row"]:List Str)by decide +kernel) rfl (by trivial)) (F9.cons (DG.nm (i:=1) (show List.Nodup (["_law_k","_law_there","_law_met","_law_row"]:List Str)by decide +kernel) rfl (by trivial)) F9.nil)))) (fun _ _ _ _=>(O3.one (DT.cmp (Y7i (n:=59) (Q2t hr)) Z8w (DE.v 1) (DE.op T2 S9 (DE.v 2) (DE.callTy Y6x Y9z rfl Z.T.m_list Z0z (DA.one (DE.slice (DE.v 3) DO.none (DO.some (DE.v 0)))))) (by with_unfolding_all rfl)))) (fun _ _ _ _=>(DE.fz (DE.v 1))))) nd))) A5.nil))) (A5.cons (DS.ife (DT.cmp (Q5l (n:=59) (Q2t hr)) Q0x (DE.v 2) (DE.listRng rfl rfl Z.T.m_list rfl Z.T.m_range (DA.one (DE.v 1))) (V8 _)) (A5.one (DS.ret DE.bl)) A5.nil) (A5.cons (DS.dnew (i:=5) nd rfl (by trivial)) (A5.cons (DS.for aZ rfl (DI.rng1 rfl Z.T.m_range (DA.one (DE.v 1))) (DG.nm (i:=6) nd rfl (by trivial)) (A5.one (DS.for aZ rfl (DI.rng1 rfl Z.T.m_range (DA.one (DE.v 1))) (DG.nm (i:=7) nd rfl (by trivial)) (A5.one (DS.dput (C5.hu1 hr) (pv 5) (DE.tup (DA.cons (DE.fz (DE.v 6)) (DA.one (DE.fz (DE.v 7))))) (DE.cmp (Q5l (n:=59) (Q2t hr)) Q0x (DE.ix (DE.ix (DE.v 0) DE.int (fun _ _=>rfl)) (DE.v 6) (fun _ _=>rfl)) (DE.ix (DE.ix (DE.v 0) DE.int (fun _ _=>rfl)) (DE.v 7) (fun _ _=>rfl)) (V8 _))))))) (A5.cons (DS.fzT 5 (DS.for aZ rfl (DI.rng1 rfl Z.T.m_range (DA.one (DE.v 1))) (DG.nm (i:=8) nd rfl (by trivial)) (A5.one (DS.for aZ rfl (DI.lst (DE.fz (DE.callTy (Y6y rfl) W0c rfl Z.T.m_list Z0z (DA.one (DE.v 5))))) (DG.tp (n:=2) rfl (F9.cons (DG.nm (i:=6) nd rfl (by trivial)) (F9.cons (DG.nm (i:=7) nd rfl (by trivial)) F9.nil))) (A5.cons (by first | exact DS.set (i:=9) (DE.comp rfl (R8 (sc:=B8 Q3j) (N0:=MC.Q3o) (N:=["_law_both","_law_apart"]) (nt:=1) (cap:=[5]) rfl rfl (by decide +kernel)) (E5.zipP rfl Z.T.m_zip Z1a (DA.cons (DE.ix (DE.ix (DE.v 0) DE.int (fun _ _=>rfl)) (DE.v 6) (fun _ _=>rfl)) (DA.one (DE.ix (DE.ix (DE.v 0) DE.int (fun _ _=>rfl)) (DE.v 7) (fun _ _=>rfl))))) (fun _ _ _ _=>(DG.nm (i:=0) (show List.Nodup (["_law_both","_law_apart"]:List Str)by decide +kernel) rfl (by trivial))) (fun _ _ _ _=>O3.nil) (fun _ _ _ _=>(DE.fz (DE.bget (C5.hu1 hr) (pv 1) (DE.v 0) (fun _ _=>rfl))))) nd rfl (by trivial) | exact DS.setC (i:=9) rfl (R8 (sc:=B8 Q3j) (N0:=MC.Q3o) (N:=["_law_both","_law_apart"]) (nt:=1) (cap:=[5]) rfl rfl (by decide +kernel)) (E5.zipP rfl Z.T.m_zip Z1a (DA.cons (DE.ix (DE.ix (DE.v 0) DE.int (fun _ _=>rfl)) (DE.v 6) (fun _ _=>rfl)) (DA.one (DE.ix (DE.ix (DE.v 0) DE.int (fun _ _=>rfl)) (DE.v 7) (fun _ _=>rfl))))) (fun _ _ _ _=>(DG.nm (i:=0) (show List.Nodup (["_law_both","_law_apart"]:List Str)by decide +kernel) rfl (by trivial))) (fun _ _ _ _=>O3.nil) (fun _ _ _ _=>(DE.fz (DE.bget (C5.hu1 hr) (pv 1) (DE.v 0) (fun _ _=>rfl)))) nd rfl (by trivial)) (A5.one (DS.dput (C5.hu1 hr) (pv 5) (DE.tup (DA.cons (DE.fz (DE.v 6)) (DA.one (DE.fz (DE.v 7))))) (DE.or (DE.dgetT (C5.hu1 hr) (pv 5) (DE.tup (DA.cons (DE.fz (DE.v 6)) (DA.one (DE.fz (DE.v 7))))) (fun _ _=>rfl)) (DE.or1 (DE.cmp (Y7h (n:=59) (Q2t hr)) Z8w DE.bl (DE.v 9) (by with_unfolding_all rfl))))))))))) (A5.one (DS.ret (DE.cmp (Q7m (n:=60) (Q7s hr)) Q0x (DE.comp rfl (R8 (sc:=B8 Q3j) (N0:=MC.Q3o) (N:=["_law_both","_law_apart"]) (nt:=1) (cap:=[5]) rfl rfl (by decide +kernel)) (E5.fdT (pv 5)) (fun _ _ _ _=>(DG.nm (i:=0) (show List.Nodup (["_law_both","_law_apart"]:List Str)by decide +kernel) rfl (by trivial))) (fun _ _ _ _=>(O3.one (DW.t (DW.and (DT.cmp (Q5l (n:=59) (Q2t hr)) Q0x (DE.ix (DE.v 0) DE.int (fun _ _=>rfl)) (DE.ix (DE.v 0) DE.int (fun _ _=>rfl)) (V8 _)) (DW.and1 (DT.nt (DT.tru (DE.tget (C5.hu1 hr) (pv 1) (DE.v 0) (fun _ _=>rfl)) (fun _=>rfl)))))))) (fun _ _ _ _=>(DE.fz (DE.v 0)))) (DE.lst DA.nil) (V8 _)))))))))))
omit Z in
theorem Y3c:J4 Q7a ["_law_script"] (B8 Q6n):=O8 (by decide +kernel)
theorem Y5p:FnT P w K mg base ts 8 (ad 22) (fn 22) ["_law_script"] sp_law:=by
 have nd:=Y3c.nd
 refine Q5.okP Z.D_law.F Y3c (ws:=Z5j  Q8t (spS gOr) (spS Q2q) (spS Q2r) Q6m Q6l Q8v Q2c) (fun cdv A outer s H E hT hr=>?_) W4r
 exact(A5.cons (DS.sv 1 (DE.cl (Z6d Z) hr Z.D_law_machine (DA.cons (DE.v 0) (DA.cons DE.int (DA.one DE.int)))) nd) (A5.cons (DS.sv 2 (DE.cl (Z6d Z) hr Z.D_law_machine (DA.cons (DE.v 0) (DA.cons DE.int (DA.one DE.int)))) nd) (A5.cons (DS.sv 3 (DE.lst (DA.cons (DE.fz (DE.clP (MC.Z2z) (Y5o Z) hr hT Z.D_either (DA.cons (DE.v 1) (DA.one (DE.v 2))))) (DA.cons (DE.fz (DE.clP (MC.Z2z) (Y5m Z) hr hT Z.D_both_of (DA.cons (DE.v 1) (DA.one (DE.v 2))))) (DA.cons (DE.fz (DE.clP (MC.Z2z) (Y6b Z) hr hT Z.D_without (DA.cons (DE.v 1) (DA.one (DE.v 2))))) (DA.one (DE.fz (DE.clP (W0t) (Y5v Z) hr hT Z.D_other_than (DA.one (DE.v 1))))))))) nd) (A5.cons (DS.ife (DT.cmp (Q5l (n:=59) (Q2t hr)) Q0x (DE.comp rfl (R8 (sc:=B8 Q6n) (N0:=Q7a) (N:=["_law_machine_told"]) (nt:=1) (cap:=[]) rfl rfl (by decide +kernel)) (E5.lst (DE.v 3)) (fun _ _ _ _=>(DG.nm (i:=0) (show List.Nodup (["_law_machine_told"]:List Str)by decide +kernel) rfl (by trivial))) (fun _ _ _ _=>(O3.one (DT.nt (DT.tru (DE.cl (Y5r Z) hr Z.D_law_is_least (DA.one (DE.v 0))) (fun _=>rfl))))) (fun _ _ _ _=>(DE.fz (DE.v 0)))) (DE.lst DA.nil) (V8 _)) (A5.one (DS.ret DE.bl)) A5.nil) (A5.cons (DS.for aZ rfl (DI.lst (DE.fz (DE.cl (Y5t Z) hr Z.D_law_texts (DA.one DE.int)))) (DG.nm (i:=4) nd rfl (by trivial)) (A5.cons (DS.sv 5 (DE.cl (Z0d Z) hr Z.D_law_accepts (DA.cons (DE.v 1) (DA.one (DE.v 4)))) nd) (A5.cons (DS.sv 6 (DE.cl (Z0d Z) hr Z.D_law_accepts (DA.cons (DE.v 2) (DA.one (DE.v 4)))) nd) (A5.cons (DS.sv 7 (DE.lst (DA.cons (DE.fz (DE.or (DE.v 5) (DE.or1 (DE.v 6)))) (DA.cons (DE.fz (DE.and (DE.v 5) (DE.and1 (DE.v 6)))) (DA.cons (DE.fz (DE.and (DE.v 5) (DE.and1 (DE.nt (DE.v 6))))) (DA.one (DE.fz (DE.nt (DE.v 5)))))))) nd) (A5.one (DS.ife (DT.cmp (Q5l (n:=59) (Q2t hr)) Q0x (DE.comp rfl (R8 (sc:=B8 Q6n) (N0:=Q7a) (N:=["_law_machine_told","_law_text_here"]) (nt:=1) (cap:=[4]) rfl rfl (by decide +kernel)) (E5.lst (DE.v 3)) (fun _ _ _ _=>(DG.nm (i:=0) (show List.Nodup (["_law_machine_told","_law_text_here"]:List Str)by decide +kernel) rfl (by trivial))) (fun _ _ _ _=>O3.nil) (fun _ _ _ _=>(DE.fz (DE.cl (Z0d Z) hr Z.D_law_accepts (DA.cons (DE.v 0) (DA.one (DE.v 1))))))) (DE.v 7) (V8 _)) (A5.one (DS.ret DE.bl)) A5.nil)))))) (A5.one (DS.ret DE.bl)))))))
end
theorem Y6j {l:PySem.W.OpenLaw}{w:World}{K:Fg9}{h:Heap}{mg:Str->Option Value}{fa:Addr}{ts:List Addr} (X:K.In h) (G:h.Ns mainGlobals mg) (qG:mg "law"=some (.ref fa))
  {f0:Addr}{d0:FuncData} (H0:Hr K "walked" Z4d f0 d0)
  {f1:Addr}{d1:FuncData} (H1:Hr K "all_reached" Q8w f1 d1)
  {f2:Addr}{d2:FuncData} (H2:Hr K "distances" Q4n f2 d2)
  {f3:Addr}{d3:FuncData} (H3:Hr K "numbered" Q9b f3 d3)
  {f4:Addr}{d4:FuncData} (H4:Hr K "told_apart" Q9f f4 d4)
  {f5 c5 p5:Addr}{d5:FuncData} (H5:HrC K "least" Q6p f5 d5 c5 p5 ts)
  {f6:Addr}{d6:FuncData} (H6:Hr K "built" Q8y f6 d6)
  {f7 c7 p7:Addr}{d7:FuncData} (H7:HrC K "pair_step" Q9e f7 d7 c7 p7 ts)
  {f8 c8 p8:Addr}{d8:FuncData} (H8:HrC K "pair_end" Q9d f8 d8 c8 p8 ts)
  {f9:Addr}{d9:FuncData} (H9:Hr K "side_by_side" Z4c f9 d9)
  {oK rH nG:Addr}{p0:FuncData} (H10:HrC K "either" Q8z oK p0 rH nG ts)
  {oJ rG nF:Addr}{oZ:FuncData} (H11:HrC K "both_of" Q8x oJ oZ rG nF ts)
  {oI:Addr}{oY:FuncData} (H12:Hr K "_law_cell" Z3y oI oY)
  {oH:Addr}{oX:FuncData} (H13:Hr K "_law_drawn" Z3z oH oX)
  {oG:Addr}{oW:FuncData} (H14:Hr K "_law_machine" Q6o oG oW)
  {oF rF nE:Addr}{oV:FuncData} (H15:HrC K "without" Q9g oF oV rF nE ts)
  {oE:Addr}{oU:FuncData} (H16:Hr K "least_of" Z4b oE oU)
  {oC:Addr}{oS:FuncData} (H17:Hr K "other_than" Q9c oC oS)
  {oB:Addr}{oR:FuncData} (H18:Hr K "_law_texts" Q9a oB oR)
  {oA:Addr}{oQ:FuncData} (H19:Hr K "_law_state" Z4a oA oQ)
  {kP:Addr}{oP:FuncData} (H20:Hr K "_law_accepts" Z3x kP oP)
  {ox:Addr}{oO:FuncData} (H21:Hr K "_law_is_least" Q3j ox oO)
  {rg:Addr}{nr:FuncData} (H22:Hr K "law" Q6n rg nr)
  (z0:PySem.W.nsIn K mainGlobals "enumerate"=some none)    (z1:PySem.W.nsIn K mainGlobals "len"=some none)    (z2:PySem.W.nsIn K mainGlobals "list"=some none)    (z3:PySem.W.nsIn K mainGlobals "max"=some none)    (z4:PySem.W.nsIn K mainGlobals "range"=some none)    (z5:PySem.W.nsIn K mainGlobals "tuple"=some none)    (z6:PySem.W.nsIn K mainGlobals "zip"=some none) {t0:Tok} (s0:PySem.W.nsIn K mainGlobals "SIGNS"=some (some (.str "01ab" t0))) (hsub:∀Pt∈ts,Pt=p5\/Pt=p7\/Pt=p8\/Pt=nG\/Pt=nF\/Pt=nE) :
  (∀Pt∈ts,(∃c,PySem.W.codeHdIn K c Pt=true)/\K.lookup Pt=none)/\∃fd:FuncData,(∀(s:Shared) (v:Value),BindsTo s fd ⟨[v],[]⟩ [("_law_script",v)])/\∀base:Heap,K.In base->base.Ns mainGlobals mg->X4 mg base->R1 l.prog w K mg base L3 8 fa fd ["_law_script"] (Q4a K ts 1 sp_law):=by
 have e:=qG.symm.trans (PySem.W.mg_of X G H22.1)
 cases e
 refine⟨fun Pt hp=>by
  rcases hsub Pt hp with rfl | rfl | rfl | rfl | rfl | rfl
  ·exact H5.at
  ·exact H7.at
  ·exact H8.at
  ·exact H10.at
  ·exact H11.at
  ·exact H15.at
  ,?_⟩
 have T:Txt K mg w:={ m_enumerate:=ci X G z0,m_len:=ci X G z1,m_list:=ci X G z2,m_max:=ci X G z3,m_range:=ci X G z4,m_tuple:=ci X G z5,m_zip:=ci X G z6,c_SIGNS:=⟨t0,PySem.W.mg_of X G s0⟩ }
 have Lw:=H22.df (ps:=["_law_script"]) X G fun _ _ _ _ _ _ us hl=>match us,hl with | [_],_=>rfl
 obtain⟨⟨oc,od,kV,dc,pm,an,cd,ct,sl,e,l1,l2⟩,kp⟩:=H22.2
 refine⟨nr,fun s v=>by subst e;exact .of_eq rfl,fun base hB _ hBM=>?_⟩
 exact Y5p (ad:=fun i=>([f0,f1,f2,f3,f4,f5,f6,f7,f8,f9,oK,oJ,oI,oH,oG,oF,oE,oC,oB,oA,kP,ox,fa]:List Addr).getD i 0) (fn:=fun i=>([d0,d1,d2,d3,d4,d5,d6,d7,d8,d9,p0,oZ,oY,oX,oW,oV,oU,oS,oR,oQ,oP,oO,nr]:List FuncData).getD i d0) ⟨T,hBM,
  H0.df X G fun _ _ _ _ _ _ us hl=>match us,hl with | [_,_],_=>rfl,
  H1.df X G fun _ _ _ _ _ _ us hl=>match us,hl with | [_,_],_=>rfl,
  H2.df X G fun _ _ _ _ _ _ us hl=>match us,hl with | [_,_,_],_=>rfl,
  H3.df X G fun _ _ _ _ _ _ us hl=>match us,hl with | [_],_=>rfl,
  H4.df X G fun _ _ _ _ _ _ us hl=>match us,hl with | [_,_],_=>rfl,
  H5.hr.df X G fun _ _ _ _ _ _ us hl=>match us,hl with | [_,_],_=>rfl,
  H6.df X G fun _ _ _ _ _ _ us hl=>match us,hl with | [_,_,_],_=>rfl,
  H7.hr.df X G fun _ _ _ _ _ _ us hl=>match us,hl with | [_,_],_=>rfl,
  H8.hr.df X G fun _ _ _ _ _ _ us hl=>match us,hl with | [_,_,_],_=>rfl,
  H9.df X G fun _ _ _ _ _ _ us hl=>match us,hl with | [_,_,_],_=>rfl,
  H10.hr.df X G fun _ _ _ _ _ _ us hl=>match us,hl with | [_,_],_=>rfl,
  H11.hr.df X G fun _ _ _ _ _ _ us hl=>match us,hl with | [_,_],_=>rfl,
  H12.df X G fun _ _ _ _ _ _ us hl=>match us,hl with | [_,_],_=>rfl,
  H13.df X G fun _ _ _ _ _ _ us hl=>match us,hl with | [_,_,_],_=>rfl,
  H14.df X G fun _ _ _ _ _ _ us hl=>match us,hl with | [_,_,_],_=>rfl,
  H15.hr.df X G fun _ _ _ _ _ _ us hl=>match us,hl with | [_,_],_=>rfl,
  H16.df X G fun _ _ _ _ _ _ us hl=>match us,hl with | [_],_=>rfl,
  H17.df X G fun _ _ _ _ _ _ us hl=>match us,hl with | [_],_=>rfl,
  H18.df X G fun _ _ _ _ _ _ us hl=>match us,hl with | [_],_=>rfl,
  H19.df X G fun _ _ _ _ _ _ us hl=>match us,hl with | [_,_,_],_=>rfl,
  H20.df X G fun _ _ _ _ _ _ us hl=>match us,hl with | [_,_],_=>rfl,
  H21.df X G fun _ _ _ _ _ _ us hl=>match us,hl with | [_],_=>rfl,
  H22.df X G fun _ _ _ _ _ _ us hl=>match us,hl with | [_],_=>rfl,⟨_,_,H5.fc,H5.tb⟩,⟨_,_,H7.fc,H7.tb⟩,⟨_,_,H8.fc,H8.tb⟩,⟨_,_,H10.fc,H10.tb⟩,⟨_,_,H11.fc,H11.tb⟩,⟨_,_,H15.fc,H15.tb⟩⟩
theorem walk {l:PySem.W.OpenLaw}{q:Program}{eh:List Str}{XP:(Str->Option Value)->Heap->Prop}{YP:World->Heap->Prop}{d:DefRec}{K:Params->Fg9}{ts:List Addr} (hn:l.most=some 63) (iH:d.params.defaults=[])
  (hY:∀(w:World) (h:Heap),YP w h->(K w.params).In h) (mO:∀(w:World) (h:Heap),YP w h->∀Pt∈ts,h.get? Pt=some (PySem.W.tabObj #[]))
  (F:∀(w:World) (mg:Str->Option Value) (fa:Addr) (h:Heap),(K w.params).In h->h.Ns mainGlobals mg->mg d.name=some (.ref fa) ->
   (∀Pt∈ts,(∃c,PySem.W.codeHdIn (K w.params) c Pt=true)/\(K w.params).lookup Pt=none) /\
   ∃fd:FuncData,(∀(s:Shared) (u:Value),BindsTo s fd ⟨[u],[]⟩ [("_law_script",u)])/\∀base:Heap,(K w.params).In base->base.Ns mainGlobals mg->X4 mg base->R1 l.prog w (K w.params) mg base L3 8 fa fd ["_law_script"] (Q4a (K w.params) ts 1 sp_law)) :
  PySem.W.WalkO q eh XP YP l.row.toRowW d [] (fun f vs=>PySem.call f vs) :=
 L2.W8w (n:=63) (k:=8) (x:="_law_script") (sp:=fun w=>Q4a (K w.params) ts 1 sp_law) hn (by decide) iH ⟨rfl,by decide,by decide⟩ hY mO F
  (fun w H a ns hl hT hz=>⟨[.st (scr ns)],fun r=>r=.st (.bl true),rfl,⟨_,_,rfl,A1.s_lst hz AllS.ints,rfl⟩,rfl,hT,⟨ns,rfl,hl,rfl⟩,fun r v H' e sm ir=>⟨by subst e;exact ir,fun Pt hp=>sm _ _ (hT Pt hp)⟩⟩)
end K20
end
open PySem PySem.W PyProof.Rows TK
theorem PySem.Challenge.cw_textkinds_k20_sets_holds : PySem.Challenge.rw_textkinds_k20_sets.Holds := by
 w_on;o_law;k_head;(case hw=>w_witness2)
 k_fill
 refine K20.walk (l:=PySem.Challenge.rw_textkinds_k20_sets) rfl rfl (fun w h Y=>PySem.W.km_in_of Y) (fun w h Y=>PySem.W.km_tabs_of Y) ?F
 case F =>
  intro w mg fa h KX G jz
  refine' K20.Y6j KX G jz ?H0 ?H1 ?H2 ?H3 ?H4 ?H5 ?H6 ?H7 ?H8 ?H9 ?H10 ?H11 ?H12 ?H13 ?H14 ?H15 ?H16 ?H17 ?H18 ?H19 ?H20 ?H21 ?H22 ?z0 ?z1 ?z2 ?z3 ?z4 ?z5 ?z6 ?s0 ?hsub
  (case H0=>(refine' T1 ?_ ?_ ?_ ?_;any_goals k_is))
  (case H1=>(refine' T1 ?_ ?_ ?_ ?_;any_goals k_is))
  (case H2=>(refine' T1 ?_ ?_ ?_ ?_;any_goals k_is))
  (case H3=>(refine' T1 ?_ ?_ ?_ ?_;any_goals k_is))
  (case H4=>(refine' T1 ?_ ?_ ?_ ?_;any_goals k_is))
  (case H5=>(refine' Q3u ?xa ?xl ?xc ?xk ?xq ?xp ?xh ?xn ?xm;(case xa=>k_is);(case xl=>k_is);(case xc=>k_is);(case xk=>k_is);(case xq=>k_is);(case xp=>rfl);(case xh=>kernel_rfl);(case xn=>kernel_rfl);(case xm=>decide)))
  (case H6=>(refine' T1 ?_ ?_ ?_ ?_;any_goals k_is))
  (case H7=>(refine' Q3u ?xa ?xl ?xc ?xk ?xq ?xp ?xh ?xn ?xm;(case xa=>k_is);(case xl=>k_is);(case xc=>k_is);(case xk=>k_is);(case xq=>k_is);(case xp=>rfl);(case xh=>kernel_rfl);(case xn=>kernel_rfl);(case xm=>decide)))
  (case H8=>(refine' Q3u ?xa ?xl ?xc ?xk ?xq ?xp ?xh ?xn ?xm;(case xa=>k_is);(case xl=>k_is);(case xc=>k_is);(case xk=>k_is);(case xq=>k_is);(case xp=>rfl);(case xh=>kernel_rfl);(case xn=>kernel_rfl);(case xm=>decide)))
  (case H9=>(refine' T1 ?_ ?_ ?_ ?_;any_goals k_is))
  (case H10=>(refine' Q3u ?xa ?xl ?xc ?xk ?xq ?xp ?xh ?xn ?xm;(case xa=>k_is);(case xl=>k_is);(case xc=>k_is);(case xk=>k_is);(case xq=>k_is);(case xp=>rfl);(case xh=>kernel_rfl);(case xn=>kernel_rfl);(case xm=>decide)))
  (case H11=>(refine' Q3u ?xa ?xl ?xc ?xk ?xq ?xp ?xh ?xn ?xm;(case xa=>k_is);(case xl=>k_is);(case xc=>k_is);(case xk=>k_is);(case xq=>k_is);(case xp=>rfl);(case xh=>kernel_rfl);(case xn=>kernel_rfl);(case xm=>decide)))
  (case H12=>(refine' T1 ?_ ?_ ?_ ?_;any_goals k_is))
  (case H13=>(refine' T1 ?_ ?_ ?_ ?_;any_goals k_is))
  (case H14=>(refine' T1 ?_ ?_ ?_ ?_;any_goals k_is))
  (case H15=>(refine' Q3u ?xa ?xl ?xc ?xk ?xq ?xp ?xh ?xn ?xm;(case xa=>k_is);(case xl=>k_is);(case xc=>k_is);(case xk=>k_is);(case xq=>k_is);(case xp=>rfl);(case xh=>kernel_rfl);(case xn=>kernel_rfl);(case xm=>decide)))
  (case H16=>(refine' T1 ?_ ?_ ?_ ?_;any_goals k_is))
  (case H17=>(refine' T1 ?_ ?_ ?_ ?_;any_goals k_is))
  (case H18=>(refine' T1 ?_ ?_ ?_ ?_;any_goals k_is))
  (case H19=>(refine' T1 ?_ ?_ ?_ ?_;any_goals k_is))
  (case H20=>(refine' T1 ?_ ?_ ?_ ?_;any_goals k_is))
  (case H21=>(refine' T1 ?_ ?_ ?_ ?_;any_goals k_is))
  (case H22=>(refine' T1 ?_ ?_ ?_ ?_;any_goals k_is))
  (case z0=>k_is)
  (case z1=>k_is)
  (case z2=>k_is)
  (case z3=>k_is)
  (case z4=>k_is)
  (case z5=>k_is)
  (case z6=>k_is)
  (case s0=>k_is)
  (case hsub=>decide)
#print axioms PySem.Challenge.cw_textkinds_k20_sets_holds
