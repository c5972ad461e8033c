import PyProof.Rows.All
import Wide.All
import OpenK.AllK
import Wide.FinOn
import Lean
import PyProof.EqAt
import PyProof.EqKinds
import PyProof.TupleCall
import PyProof.WalkInts
import KE.KDictSum
import PyProof.Rows.SetFrom
import PyProof.Rows.SumAny
import PyProof.Rows.SeqMore2
import PyProof.ListRange
import KE.KFinally
import PyProof.Rows.CountFlat
import PySem.Challenge.RW_textkinds_k16_numbers
set_option Elab.async false
set_option linter.all false
set_option maxRecDepth 100000
set_option maxHeartbeats 0
theorem a8:type_of% @PySem.wpAny_bind:=@PySem.wpAny_bind
theorem aa:type_of% @List.getElem?_eq_getElem:=@List.getElem?_eq_getElem
theorem ac:type_of% @List.length_map:=@List.length_map
theorem ae:type_of% @List.mem_cons_of_mem:=@List.mem_cons_of_mem
theorem af:type_of% @List.getElem?_map:=@List.getElem?_map
theorem ag:type_of% @List.mem_cons_self:=@List.mem_cons_self
theorem ah:type_of% @List.mem_map:=@List.mem_map
theorem ai:type_of% @List.length_append:=@List.length_append
theorem aj:type_of% @PySem.Heap.get?_push_of_some:=@PySem.Heap.get?_push_of_some
theorem ak:type_of% @List.getD_eq_getElem?_getD:=@List.getD_eq_getElem?_getD
theorem am:type_of% @List.map_cons:=@List.map_cons
theorem ao:type_of% @PySem.wpAny_pure:=@PySem.wpAny_pure
theorem aq:type_of% @Nat.le_refl:=@Nat.le_refl
theorem ar:type_of% @List.mem_cons:=@List.mem_cons
theorem au:type_of% @Nat.lt_of_lt_of_le:=@Nat.lt_of_lt_of_le
theorem av:type_of% @List.getElem?_eq_some_iff:=@List.getElem?_eq_some_iff
theorem aw:type_of% @List.getElem?_eq_none_iff:=@List.getElem?_eq_none_iff
theorem ax:type_of% @PySem.Heap.lt_size:=@PySem.Heap.lt_size
theorem ay:type_of% @Nat.ne_of_lt:=@Nat.ne_of_lt
theorem az:type_of% @if_neg:=@if_neg
theorem aA:type_of% @Option.some.inj:=@Option.some.inj
theorem aB:type_of% @List.mem_of_getElem?:=@List.mem_of_getElem?
theorem aC:type_of% @List.mem_append_right:=@List.mem_append_right
theorem aD:type_of% @List.length_cons:=@List.length_cons
theorem aE:type_of% @List.mem_singleton:=@List.mem_singleton
theorem aF:type_of% @List.map_map:=@List.map_map
theorem aG:type_of% @if_pos:=@if_pos
theorem aH:type_of% @List.size_toArray:=@List.size_toArray
theorem aI:type_of% @PySem.Heap.get?_push_size:=@PySem.Heap.get?_push_size
theorem aJ:type_of% @List.getElem?_append_left:=@List.getElem?_append_left
theorem aK:type_of% @List.mem_range:=@List.mem_range
theorem aL:type_of% @PySem.wpAny_mono:=@PySem.wpAny_mono
theorem aM:type_of% @List.map_congr_left:=@List.map_congr_left
theorem aN:type_of% @List.getElem?_set_ne:=@List.getElem?_set_ne
theorem aO:type_of% @Bool.false_ne_true:=@Bool.false_ne_true
theorem aQ:type_of% @List.getElem?_append_right:=@List.getElem?_append_right
theorem aR:type_of% @List.mem_append:=@List.mem_append
theorem aS:type_of% @Nat.le_trans:=@Nat.le_trans
theorem aT:type_of% @PySem.PassesOwn.never:=@PySem.PassesOwn.never
theorem aU:type_of% @List.map_append:=@List.map_append
theorem aV:type_of% @Nat.lt_irrefl:=@Nat.lt_irrefl
theorem aW:type_of% @List.append_nil:=@List.append_nil
theorem aX:type_of% @Nat.lt_or_ge:=@Nat.lt_or_ge
theorem aY:type_of% @List.length_replicate:=@List.length_replicate
theorem aZ:type_of% @List.length_range:=@List.length_range
theorem b7:type_of% @Int.toNat_natCast:=@Int.toNat_natCast
theorem b8:type_of% @List.mem_filter:=@List.mem_filter
theorem b9:type_of% @List.mem_append_left:=@List.mem_append_left
theorem ba:type_of% @List.not_mem_nil:=@List.not_mem_nil
theorem bb:type_of% @decide_eq_false:=@decide_eq_false
theorem bc:type_of% @PySem.wpAny_Call_Name_kw:=@PySem.wpAny_Call_Name_kw
theorem be:type_of% @List.nodup_append:=@List.nodup_append
theorem bf:type_of% @PySem.W.mg_none_of:=@PySem.W.mg_none_of
theorem bg:type_of% @PyProof.Rows.callWith_type1:=@PyProof.Rows.callWith_type1
theorem bh:type_of% @List.length_singleton:=@List.length_singleton
theorem bi:type_of% @List.nodup_cons:=@List.nodup_cons
theorem bj:type_of% @List.length_nil:=@List.length_nil
theorem bn:type_of% @List.find?_cons:=@List.find?_cons
theorem bo:type_of% @decide_eq_true:=@decide_eq_true
theorem bq:type_of% @List.range_succ_eq_map:=@List.range_succ_eq_map
theorem br:type_of% @List.getElem?_set_self:=@List.getElem?_set_self
theorem bt:type_of% @Nat.zero_le:=@Nat.zero_le
theorem bv:type_of% @PySem.W.kia_one:=@PySem.W.kia_one
theorem bx:type_of% @PySem.wpAny_newObj_type:=@PySem.wpAny_newObj_type
theorem bz:type_of% @Array.length_toList:=@Array.length_toList
theorem bA:type_of% @Nat.lt_succ_of_lt:=@Nat.lt_succ_of_lt
theorem bB:type_of% @List.flatMap_cons:=@List.flatMap_cons
theorem bE:type_of% @List.prefix_refl:=@List.prefix_refl
theorem bG:type_of% @PySem.wpAny_holding:=@PySem.wpAny_holding
theorem bI:type_of% @List.append_assoc:=@List.append_assoc
theorem bJ:type_of% @PySem.mem_of_lookup:=@PySem.mem_of_lookup
theorem bK:type_of% @List.getElem?_range:=@List.getElem?_range
theorem bL:type_of% @List.filterMap_cons:=@List.filterMap_cons
theorem bM:type_of% @List.length_set:=@List.length_set
theorem bN:type_of% @PyProof.Rows.slot_tuple_getitem:=@PyProof.Rows.slot_tuple_getitem
theorem bO:type_of% @PySem.Obj.data_mapFields:=@PySem.Obj.data_mapFields
theorem bP:type_of% @List.mem_flatMap:=@List.mem_flatMap
theorem bQ:type_of% @List.getElem_mem:=@List.getElem_mem
theorem bS:type_of% @List.mem_iff_getElem:=@List.mem_iff_getElem
theorem bV:type_of% @PySem.F.called_set:=@PySem.F.called_set
theorem bX:type_of% @List.nil_append:=@List.nil_append
theorem bZ:type_of% @List.sum_cons:=@List.sum_cons
theorem cb:type_of% @PySem.wpAny_call_entry:=@PySem.wpAny_call_entry
theorem cc:type_of% @List.replicate_succ:=@List.replicate_succ
theorem ce:type_of% @or_false:=@or_false
theorem cf:type_of% @Nat.lt_succ_self:=@Nat.lt_succ_self
theorem cg:type_of% @List.length_eq_zero_iff:=@List.length_eq_zero_iff
theorem ci:type_of% @List.all_eq_true:=@List.all_eq_true
theorem cj:type_of% @Bool.and_eq_true:=@Bool.and_eq_true
theorem cr:type_of% @PySem.wpAny_pyIter_enum:=@PySem.wpAny_pyIter_enum
theorem cx:type_of% @List.any_cons:=@List.any_cons
theorem cy:type_of% @List.flatten_cons:=@List.flatten_cons
theorem cA:type_of% @PySem.wpAny_callSpecial?_slot:=@PySem.wpAny_callSpecial?_slot
theorem cB:type_of% @PySem.W.hideAll_none:=@PySem.W.hideAll_none
theorem cC:type_of% @List.forall_mem_cons:=@List.forall_mem_cons
theorem cD:type_of% @Array.getElem?_eq_some_iff:=@Array.getElem?_eq_some_iff
theorem cF:type_of% @Ne.symm:=@Ne.symm
theorem cG:type_of% @Nat.zero_add:=@Nat.zero_add
theorem cH:type_of% @List.filter_cons:=@List.filter_cons
theorem cJ:type_of% @PySem.wpAny_field:=@PySem.wpAny_field
theorem cK:type_of% @List.drop_eq_getElem_cons:=@List.drop_eq_getElem_cons
theorem cL:type_of% @beq_eq_false_iff_ne:=@beq_eq_false_iff_ne
theorem cN:type_of% @PySem.W.mg_of:=@PySem.W.mg_of
theorem cU:type_of% @PySem.Heap.get?_update_self:=@PySem.Heap.get?_update_self
theorem cV:type_of% @Bool.false_eq_true:=@Bool.false_eq_true
theorem cY:type_of% @PySem.F.plainAttrs_list:=@PySem.F.plainAttrs_list
theorem dh:type_of% @of_decide_eq_true:=@of_decide_eq_true
theorem di:type_of% @PySem.Heap.size_push:=@PySem.Heap.size_push
theorem dz:type_of% @List.length_take:=@List.length_take
theorem dA:type_of% @PySem.Heap.SameBut.update:=@PySem.Heap.SameBut.update
theorem dI:type_of% @Nat.le_succ:=@Nat.le_succ
theorem dR:type_of% @PySem.wpAny_passesOwn:=@PySem.wpAny_passesOwn
theorem dW:type_of% @List.range_succ:=@List.range_succ
theorem dX:type_of% @List.of_mem_zip:=@List.of_mem_zip
theorem eA:type_of% @Nat.le_of_lt:=@Nat.le_of_lt
theorem eM:type_of% @PySem.wpAny_setState_of:=@PySem.wpAny_setState_of
theorem eN:type_of% @PySem.wpAny_loadPart_at:=@PySem.wpAny_loadPart_at
theorem eO:type_of% @if_false:=@if_false
theorem eQ:type_of% @List.prefix_append:=@List.prefix_append
theorem eR:type_of% @Int.emod_lt_of_pos:=@Int.emod_lt_of_pos
theorem fN:type_of% @List.idxOf_lt_length_iff:=@List.idxOf_lt_length_iff
theorem fO:type_of% @PySem.Around.in1_units:=@PySem.Around.in1_units
theorem g7:type_of% @PySem.wpAny_standAt:=@PySem.wpAny_standAt
theorem gj:type_of% @PySem.wpAny_of_eq:=@PySem.wpAny_of_eq
theorem gk:type_of% @PySem.sizeLine_eq:=@PySem.sizeLine_eq
theorem gm:type_of% @Nat.succ_ne_self:=@Nat.succ_ne_self
theorem gn:type_of% @List.length_drop:=@List.length_drop
theorem gp:type_of% @List.getElem?_replicate:=@List.getElem?_replicate
theorem gq:type_of% @List.drop_length:=@List.drop_length
theorem gr:type_of% @PySem.Calls.evalArgs_plain:=@PySem.Calls.evalArgs_plain
theorem gT:type_of% @if_true:=@if_true
theorem gU:type_of% @PySem.codeAny_builtin:=@PySem.codeAny_builtin
theorem gV:type_of% @PySem.W.cellsFrom_some:=@PySem.W.cellsFrom_some
theorem gW:type_of% @List.map_nil:=@List.map_nil
theorem ip:type_of% @Nat.not_lt_zero:=@Nat.not_lt_zero
theorem iq:type_of% @Int.emod_nonneg:=@Int.emod_nonneg
theorem iS:type_of% @PySem.codeAny_mono:=@PySem.codeAny_mono
theorem iT:type_of% @Array.getElem?_toList:=@Array.getElem?_toList
theorem jO:type_of% @PySem.wpAny_setField:=@PySem.wpAny_setField
theorem jP:type_of% @PySem.F.slot_tuple_iterator_next:=@PySem.F.slot_tuple_iterator_next
theorem jQ:type_of% @PySem.Calls.spliced_cons:=@PySem.Calls.spliced_cons
theorem lz:type_of% @PyProof.Rows.F.plain_set_update_loop:=@PyProof.Rows.F.plain_set_update_loop
theorem lA:type_of% @List.getElem_of_mem:=@List.getElem_of_mem
abbrev Fg9 := PySem.W.Frag
abbrev Pn9 := List (PySem.Addr×PySem.Obj)
abbrev VS9 := PySem.Value->PySem.Shared->Prop
section
namespace L2
open PySem PySem.Spec PyProof.Rows
abbrev B8:=Sum Int Str
def Q5b:B8->Value->Bool
 | .inl k,v=>Value.isInt k v
 | .inr x,v=>Value.isStrOf x v
def keyH (w:World):B8->Int
 | .inl k=>hashInt k
 | .inr x=>hashStr w x
theorem Q0w:∀{k:B8}{v:Value},Q5b k v=true->(∃i t,k=Sum.inl i/\v=Value.int i t)\/(∃x t,k=Sum.inr x/\v=Value.str x t)
 | .inl i,v,h=>by
  obtain⟨t,e⟩:=Value.isInt_shape (k:=i) (v:=v) h;exact .inl ⟨i,t,rfl,e⟩
 | .inr x,v,h=>by
  obtain⟨t,e⟩:=Value.isStrOf_shape (x:=x) (v:=v) h;exact .inr ⟨x,t,rfl,e⟩
def W3e (i:Int)(t:Tok):Q5b (.inl i) (.int i t)=true:=by simp [Q5b,Value.isInt]
def W3f (x:Str)(t:Tok):Q5b (.inr x) (.str x t)=true:=by simp [Q5b,Value.isStrOf]
def W3g (a b:Int):decide ((Sum.inl a:B8)=Sum.inl b)=(a==b):=by
 by_cases e:a=b
 ·subst e;simp
 ·have h:¬ (Sum.inl a:B8)=Sum.inl b:=fun q=>e (Sum.inl.inj q);rw [bb h];exact(cL.mpr e).symm
def W3j (a b:Str):decide ((Sum.inr a:B8)=Sum.inr b)=decide (a=b):=by
 by_cases e:a=b
 ·subst e;simp
 ·have h:¬ (Sum.inr a:B8)=Sum.inr b:=fun q=>e (Sum.inr.inj q);rw [bb h,bb e]
def W3h (a:Int)(b:Str):decide ((Sum.inl a:B8)=Sum.inr b)=false:=bb (fun q=>nomatch q)
def W3i (a:Str)(b:Int):decide ((Sum.inr a:B8)=Sum.inl b)=false:=bb (fun q=>nomatch q)
def M2 (prog:Program)(w:World):PySem.KeyKind prog w B8 where
 is:=Q5b
 hash:=keyH w
 inj:=fun v a b ha hb=>by
  rcases Q0w ha with⟨i,t,rfl,rfl⟩ | ⟨x,t,rfl,rfl⟩
  ·rcases Q0w hb with⟨j,u,rfl,e⟩ | ⟨y,u,rfl,e⟩
   ·injection e with e1 _;rw [e1]
   ·exact nomatch e
  ·rcases Q0w hb with⟨j,u,rfl,e⟩ | ⟨y,u,rfl,e⟩
   ·exact nomatch e
   ·injection e with e1 _;rw [e1]
 byValue:=fun k v h=>by
  rcases Q0w h with⟨i,t,rfl,rfl⟩ | ⟨x,t,rfl,rfl⟩ <;> rfl
 pyHash:=fun hv h=>by
  rcases Q0w hv with⟨i,t,rfl,rfl⟩ | ⟨x,t,rfl,rfl⟩
  ·exact wpAny_pyHash_int h
  ·exact wpAny_pyHash_str h
 eqBool:=fun hu hv h=>by
  rcases Q0w hu with⟨i,t,rfl,rfl⟩ | ⟨x,t,rfl,rfl⟩
  ·rcases Q0w hv with⟨j,u,rfl,rfl⟩ | ⟨y,u,rfl,rfl⟩
   ·rw [W3g]at h;exact wpAny_eqBool_int h
   ·rw [W3h]at h;exact SeqAt.EqAt.int_str i t y u _ _ _ _ h
  ·rcases Q0w hv with⟨j,u,rfl,rfl⟩ | ⟨y,u,rfl,rfl⟩
   ·rw [W3i]at h;exact SeqAt.EqAt.str_int x t j u _ _ _ _ h
   ·rw [W3j]at h;exact wpAny_eqBool_str h
 «strs»:=fun k x t v h=>by
  rcases Q0w h with⟨i,u,rfl,e⟩ | ⟨y,u,rfl,e⟩
  ·exact nomatch e
  ·injection e with e1 _
   subst e1;cases v <;> rfl
def W4p (prog:Program)(w:World)(i:Int)(t:Tok):(M2 prog w).is (.inl i) (.int i t)=true:=W3e i t
def W4q (prog:Program)(w:World)(x:Str)(t:Tok):(M2 prog w).is (.inr x) (.str x t)=true:=W3f x t
end L2
namespace L2
open PySem PySem.Spec PyProof.Rows
inductive V where
 | non | bl (b:Bool) | int (i:Int) | str (x:Str) | byt (b:Array UInt8) | flt (b:UInt64) | ref (a:Addr) | ty (n:String)
 deriving DecidableEq
def C1:V->Value->Prop
 | .non,u=>u=Value.none
 | .bl b,u=>u=Value.bool b
 | .int i,u=>∃t,u=Value.int i t
 | .str x,u=>∃t,u=Value.str x t
 | .byt b,u=>∃t,u=Value.bytes b t
 | .flt b,u=>∃t,u=Value.float b t
 | .ref a,u=>u=Value.ref a
 | .ty n,u=>u=Value.type n
abbrev C0:List V->List Value->Prop:=Paired C1
def C0.length {xs:List V}{us:List Value}(r:C0 xs us):xs.length=us.length:=Paired.length r
theorem C0.get:∀{xs:List V}{us:List Value}{i:Nat}{x:V},C0 xs us->xs[i]?=some x->∃u,us[i]?=some u/\C1 x u
 | _,_,_,_,.nil,e=>by simp at e
 | _,_,0,_,.cons r _,e=>by simp at e;subst e;exact⟨_,rfl,r⟩
 | _,_,i+1,x,.cons _ t,e=>by
  obtain⟨u,h1,h2⟩:=C0.get (i:=i) (x:=x) t (by simpa using e);exact⟨u,by simpa using h1,h2⟩
theorem C0.set {x:V}{u:Value}(r:C1 x u):∀{xs:List V}{us:List Value} (i:Nat),C0 xs us->C0 (xs.set i x) (us.set i u)
 | _,_,_,.nil=>.nil
 | _,_,0,.cons _ t=>.cons r t
 | _,_,i+1,.cons q t=>.cons q (C0.set r i t)
theorem C0.append:∀{xs ys:List V}{us ws:List Value},C0 xs us->C0 ys ws->C0 (xs++ys) (us++ws):=by
 intro xs
 induction xs with
 | nil=>intro ys us ws a s;cases a;exact s
 | cons x xs ih =>
  intro ys us ws a s;cases a with
  | cons r t=>exact .cons r (ih t s)
theorem C0.take:∀{xs:List V}{us:List Value} (n:Nat),C0 xs us->C0 (xs.take n) (us.take n)
 | _,_,0,_=>.nil
 | _,_,_+1,.nil=>.nil
 | _,_,n+1,.cons r t=>.cons r (C0.take n t)
theorem C0.drop:∀{xs:List V}{us:List Value} (n:Nat),C0 xs us->C0 (xs.drop n) (us.drop n)
 | _,_,0,r=>r
 | _,_,_+1,.nil=>.nil
 | _,_,n+1,.cons _ t=>C0.drop n t
def X1:Option V->Option Value->Prop
 | some v,some u=>C1 v u
 | none,none=>True
 | _,_=>False
def KV {κ:Type}:List (κ×V)->List (κ×Value)->Prop:=Paired fun(p:κ×V) (q:κ×Value)=>p.1=q.1/\C1 p.2 q.2
def kV:B8->V
 | .inl i=>.int i
 | .inr x=>.str x
inductive HO where
 | lst (xs:List V)
 | tup (xs:List V)
 | dK (kvs:List (B8×V)) | dT (kvs:List (List B8×V))
 | set (S:Int->Bool) (n:Nat)
 | ins (C dx:Addr) (fs:List (Str×V))
 | own (x:Addr)
 | xd (fs:List (Str×V))
 | met (f x:Addr)
 | rng (lo hi:Int)
 | frz (o:Obj) (u:HO)
 | tab
 | tbl (ps:Array Value)
 | ext (φ:Heap->Prop)
abbrev Hp:=Addr->Option HO
def upd (H:Hp)(a:Addr)(o:HO):Hp:=fun b=>if b=a then some o else H b
def upd_same {H:Hp}{a:Addr}{o:HO}:upd H a o a=some o:=by unfold upd;rw [aG rfl]
def B9 {H:Hp}{a b:Addr}{o:HO}(h:b≠a):upd H a o b=H b:=by unfold upd;rw [az h]
def Q0e {H:Hp}{a b:Addr}{o u:HO}(h:H a=some o)(h':H b=some u)(d:o≠u):a≠b:=by
 intro e;subst e;rw [h]at h';exact d (aA h')
def X5 {H:Hp}{a b:Addr}{o:HO}(h:H a=some o)(h':H b=none):a≠b:=by
 intro e;subst e;rw [h]at h';cases h'
def Q4m (o:Obj):Prop:=∃vs q t,o.data=.fields vs/\vs[1]?=some (Value.str q t)
def Z1o (a:Addr)(u:HO):Prop:=u=.own a\/∃o,u=.frz o (.own a)
section
variable (P:Program)(w:World)
def ObjOk (H:Hp)(h:Heap)(a:Addr):HO->Prop
 | .lst xs=>xs.length<=sizeLine/\∃(aP:List Value) (n:Nat),C0 xs aP/\h.get? a=some { cls:=.type "list",data:=.seq aP.toArray n }
 | .tup xs=>xs.length<=sizeLine/\∃aP:List Value,C0 xs aP/\IsTup h a aP.toArray
 | .dK kvs=>kvs.length<=sizeLine/\(a==sysModules)=false/\∃vs,KV kvs vs/\h.DictOf (M2 P w) a vs
 | .dT kvs=>kvs.length<=sizeLine/\(a==sysModules)=false/\∃xs:List (List B8×Addr×Value),
   Paired (fun(p:List B8×V) (q:List B8×Addr×Value)=>p.1=q.1/\H q.2.1=some (.tup (p.1.map kV))/\C1 p.2 q.2.2) kvs xs /\
   ∃o es ep,h.get? a=some o/\o.ExactDict/\o.data=.dict es ep/\es.toList=xs.map (entryOfKey (tupleKind (M2 P w)))/\(xs.map (·.1)).Nodup
 | .set S n=>h.SetOf (intKind P w) a S n
 | .ins C dx fs=>H dx=some (.own a)/\fs.length<=1000/\dx≠a/\h.get? a=some (PySem.W.instObj C dx) /\
   ∃mA,h.Ns1 dx mA/\(∀f,X1 (fs.lookup f) (mA f))/\PySem.Within mA (fs.map (·.1))
 | .own _=>∃o,h.get? a=some o
 | .xd fs=>∃mA,h.Ns1 a mA/\∀f,X1 (fs.lookup f) (mA f)
 | .rng lo hi=>∃t u v,h.get? a=some { cls:=.type "range",data:=.fields #[.int lo t,.int hi u,.int 1 v] }
 | .frz o u=>h.get? a=some o/\ObjOk H h a u
 | .tab=>∃ps,h.get? a=some (PySem.W.tabObj ps)/\TriplesOk ps.toList/\∀pos cv,codeAmong pos ps.toList=some cv->∃c' oc,cv=.ref c'/\H c'=some (.frz oc (.own a))/\Q4m oc
 | .tbl ps=>h.get? a=some { cls:=.none,data:=.fields ps }
 | .met f x=>h.get? a=some (PySem.W.methodObj (.ref f) (.ref x))
 | .ext φ=>φ h/\(∃o,h.get? a=some o)/\∀h1 h2:Heap,φ h1->(∀o,h1.get? a=some o->h2.get? a=some o)->φ h2
def F7 (H:Hp)(h:Heap):Prop:=∀a o,H a=some o->ObjOk P w H h a o
end
section
variable {P:Program}{w:World}{H H':Hp}{h h':Heap}{a:Addr}{o:HO}
theorem ObjOk.lt (x:ObjOk P w H h a o):a<h.objs.size:=by
 cases o with
 | lst xs=>obtain⟨_,_,_,_,e⟩:=x;exact ax e
 | tup xs=>obtain⟨_,_,_,p⟩:=x;exact p.lt
 | dK kvs=>obtain⟨_,_,_,_,o,_,_,e,_⟩:=x;exact ax e
 | dT kvs=>obtain⟨_,_,_,_,o,_,_,e,_⟩:=x;exact ax e
 | set S n=>obtain⟨o,_,_,_,e,_⟩:=x;exact ax e
 | ins C dx fs=>obtain⟨_,_,_,e,_⟩:=x;exact ax e
 | own y=>obtain⟨_,e⟩:=x;exact ax e
 | xd fs=>obtain⟨_,⟨_,_,_,e,_⟩,_⟩:=x;exact ax e
 | rng lo hi=>obtain⟨_,_,_,e⟩:=x;exact ax e
 | frz ob u=>obtain⟨e,_⟩:=x;exact ax e
 | tab=>obtain⟨_,e,_⟩:=x;exact ax e
 | tbl ps=>exact ax (show h.get? a=some _ from x)
 | met f y=>exact ax (show h.get? a=some _ from x)
 | ext φ=>obtain⟨_,⟨_,e⟩,_⟩:=x;exact ax e
theorem Paired.mapP {α β:Type}{F G:α->β->Prop}:∀{l₁:List α}{l₂:List β},Paired F l₁ l₂->(∀a b,F a b->G a b)->Paired G l₁ l₂:=by
 intro l₁
 induction l₁ with
 | nil=>intro l₂ a f;cases a;exact .nil
 | cons x l ih =>
  intro l₂ a f;cases a with
  | cons r t=>exact .cons (f _ _ r) (ih t f)
theorem ObjOk.stay (x:ObjOk P w H h a o)(k:∀b u,(b=a\/H b=some (.own a))->h.get? b=some u->h'.get? b=some u)
  (ho:∀b u,Z1o a u->H b=some u->H' b=some u) (ht:∀b xs,H b=some (.tup xs)->H' b=some (.tup xs)):ObjOk P w H' h' a o:=by
 induction o with
 | lst xs=>obtain⟨z,aP,n,r,e⟩:=x;exact⟨z,aP,n,r,k _ _ (.inl rfl) e⟩
 | tup xs=>obtain⟨z,aP,r,ob,e,c⟩:=x;exact⟨z,aP,r,ob,k _ _ (.inl rfl) e,c⟩
 | dK kvs=>obtain⟨z,y,vs,r,ob,es,ep,e,c⟩:=x;exact⟨z,y,vs,r,ob,es,ep,k _ _ (.inl rfl) e,c⟩
 | dT kvs =>
  obtain⟨z,y,xs,r,ob,es,ep,e,c⟩:=x;exact⟨z,y,xs,Paired.mapP r fun p q z=>⟨z.1,ht _ _ z.2.1,z.2.2⟩,ob,es,ep,k _ _ (.inl rfl) e,c⟩
 | set S n=>obtain⟨ob,es,ep,t,e,c⟩:=x;exact⟨ob,es,ep,t,k _ _ (.inl rfl) e,c⟩
 | ins C dx fs =>
  obtain⟨d,z,ne,e,mA,⟨od,es,ep,e2,c⟩,r⟩:=x;exact⟨ho _ _ (.inl rfl) d,z,ne,k _ _ (.inl rfl) e,mA,⟨od,es,ep,k _ _ (.inr d) e2,c⟩,r⟩
 | own y=>obtain⟨ob,e⟩:=x;exact⟨ob,k _ _ (.inl rfl) e⟩
 | xd fs=>obtain⟨mA,⟨od,es,ep,e,c⟩,r⟩:=x;exact⟨mA,⟨od,es,ep,k _ _ (.inl rfl) e,c⟩,r⟩
 | rng lo hi=>obtain⟨t,u,v,e⟩:=x;exact⟨t,u,v,k _ _ (.inl rfl) e⟩
 | frz ob u ih=>obtain⟨e,q⟩:=x;exact⟨k _ _ (.inl rfl) e,ih q⟩
 | tab =>
  obtain⟨ps,e,t,en⟩:=x;exact⟨ps,k _ _ (.inl rfl) e,t,fun pos cv q=>let ⟨c',oc,e1,e2,e3⟩:=en pos cv q;⟨c',oc,e1,ho _ _ (.inr ⟨_,rfl⟩) e2,e3⟩⟩
 | tbl ps =>
  have e:h.get? a=some { cls:=.none,data:=.fields ps }:=x;show h'.get? a=some { cls:=.none,data:=.fields ps };exact k a _ (.inl rfl) e
 | met f y =>
  have e:h.get? a=some (PySem.W.methodObj (.ref f) (.ref y)):=x;show h'.get? a=some (PySem.W.methodObj (.ref f) (.ref y));exact k a _ (.inl rfl) e
 | ext φ=>obtain⟨p,⟨o,e⟩,st⟩:=x;exact⟨st _ _ p fun o q=>k _ _ (.inl rfl) q,⟨o,k _ _ (.inl rfl) e⟩,st⟩
def F7.lt (x:F7 P w H h)(e:H a=some o):a<h.objs.size:=(x a o e).lt
theorem F7.fresh (x:F7 P w H h)(e:h.objs.size<=a):H a=none:=by
 cases q:H a with
 | none=>rfl
 | some u=>exact absurd (au (x.lt q) e) (aV _)
def F7.kept (x:F7 P w H h)(k:∀b u,h.get? b=some u->h'.get? b=some u):F7 P w H h':=fun a o e =>
 (x a o e).stay (fun b u _ q=>k b u q) (fun _ _ _ q=>q) fun _ _ q=>q
def F7.laid (x:F7 P w H h)(k:∀b u,h.get? b=some u->h'.get? b=some u)(hp:h.objs.size<=a)(new:ObjOk P w (upd H a o) h' a o):F7 P w (upd H a o) h':=fun b u e=>by
 have hn:=x.fresh hp
 by_cases hb:b=a
 ·subst hb;rw [upd_same]at e;cases e;exact new
 ·rw [B9 hb]at e;exact(x b u e).stay (fun c v _ q=>k c v q) (fun c u _ q=>by rw [B9 (X5 q hn)];exact q) fun c xs q=>by rw [B9 (X5 q hn)];exact q
end
def Rd (H:Hp)(a:Addr)(u:HO):Prop:=H a=some u\/∃o,H a=some (.frz o u)
def Rd.ok {P:Program}{w:World}{H:Hp}{h:Heap}{a:Addr}{u:HO}(r:Rd H a u)(x:F7 P w H h):ObjOk P w H h a u:=by
 rcases r with r | ⟨o,r⟩
 ·exact x a u r
 ·obtain⟨_,q⟩:=x a _ r;exact q
def Mut:Option HO->Prop
 | some (.lst _)=>True
 | some (.dK _)=>True
 | some (.dT _)=>True
 | some (.set _ _)=>True
 | some (.ins _ _ _)=>True
 | some (.ext _)=>True
 | some .tab=>True
 | _=>False
section
variable {P:Program}{w:World}{H:Hp}{h h':Heap}{x e:Addr}{o':HO}
def F7.write (ok:F7 P w H h)(mu:Mut (H x))(he:e=x\/H e=some (.own x))(k:∀b u,b≠e->h.get? b=some u->h'.get? b=some u)(jG:∃u,h'.get? e=some u)
  (new:ObjOk P w (upd H x o') h' x o'):F7 P w (upd H x o') h':=fun b u q=>by
 have lN:∀c y,H c=some (.own y)->c≠x:=fun c y r z=>by subst z;rw [r]at mu;exact mu
 have k9:∀c u y,Z1o y u->H c=some u->c≠x:=fun c u y ow r z=>by
  subst z;rw [r]at mu;rcases ow with rfl | ⟨o,rfl⟩
  ·exact mu
  ·exact mu
 have lM:∀c xs,H c=some (.tup xs)->c≠x:=fun c xs r z=>by subst z;rw [r]at mu;exact mu
 by_cases hb:b=x
 ·subst hb;rw [upd_same]at q;cases q;exact new
 ·rw [B9 hb]at q
  by_cases hbe:b=e
  ·have q':H b=some (.own x):=by
    rcases he with z | z
    ·exact absurd (hbe.trans z) hb
    ·rw [hbe];exact z
   rw [q]at q';cases q';obtain⟨v,hv⟩:=jG;exact⟨v,by rw [hbe];exact hv⟩
  ·refine(ok b u q).stay (fun c v hc r=>k c v ?_ r) (fun c u ow r=>by rw [B9 (k9 c u b ow r)];exact r) fun c xs r=>by rw [B9 (lM c xs r)];exact r
   rcases hc with rfl | hc
   ·exact hbe
   ·rintro rfl;rcases he with z | z
    ·exact lN c b hc z
    ·rw [hc]at z;cases z;exact hb rfl
end
structure Un (fs ex:List Addr)(H H':Hp)(h h':Heap):Prop where
 keep:∀b o,h.get? b=some o->H b=none->b∉fs->b∉ex->h'.get? b=some o
 slot:∀b o,h.get? b=some o->H b=none->b∈fs->b∉ex->∃sl,h'.get? b=some { o with slots:=sl }
 free:∀b o,h.get? b=some o->H b=none->b∉ex->H' b=none
 there:∀b o,h.get? b=some o->b∉ex->∃o',h'.get? b=some o'
 tups:∀b xs,H b=some (.tup xs)->H' b=some (.tup xs)
 frzs:∀b o u,H b=some (.frz o u)->H' b=some (.frz o u)
 tbls:∀b ps,H b=some (.tbl ps)->∃more,H' b=some (.tbl (ps++more))
section
variable {fs ex:List Addr}{H H1:Hp}{h h1 h':Heap}{a x e:Addr}{o:HO}
def Un.any (u:Un fs ex H H1 h h1){b:Addr}{ob:Obj}(q:h.get? b=some ob)(n:H b=none)(hx:b∉ex):∃sl,h1.get? b=some { ob with slots:=sl }:=by
 by_cases hb:b∈fs
 ·exact u.slot b ob q n hb hx
 ·exact⟨ob.slots,u.keep b ob q n hb hx⟩
def Un.kept (k:∀b u,h.get? b=some u->h'.get? b=some u):Un fs ex H H h h' :=
 ⟨fun b ob q _ _ _=>k b ob q,fun b ob q _ _ _=>⟨ob.slots,k b ob q⟩,fun _ _ _ n _=>n,fun b ob q _=>⟨ob,k b ob q⟩,fun _ _ q=>q,fun _ _ _ q=>q,fun _ ps q=>⟨#[],by rw [q];simp⟩⟩
def Un.refl:Un fs ex H H h h:=Un.kept fun _ _ q=>q
def Un.laid (k:∀b u,h.get? b=some u->h'.get? b=some u)(hp:h.objs.size<=a)(hn:H a=none):Un fs ex H (upd H a o) h h' where
 keep:=fun b u q _ _ _=>k b u q
 slot:=fun b u q _ _ _=>⟨u.slots,k b u q⟩
 free:=fun b u q n _=>by rw [B9 (ay (au (ax q) hp))];exact n
 there:=fun b u q _=>⟨u,k b u q⟩
 tups:=fun b xs q=>by rw [B9 (X5 q hn)];exact q
 frzs:=fun b u xs q=>by rw [B9 (X5 q hn)];exact q
 tbls:=fun b ps q=>⟨#[],by rw [B9 (X5 q hn),q];simp⟩
def Un.write (mu:Mut (H x))(he:e=x\/H e=some (.own x))(k:∀b u,b≠e->h.get? b=some u->h'.get? b=some u)(jG:∃u,h'.get? e=some u):Un fs ex H (upd H x o) h h':=by
 have hx:∀b,H b=none->b≠x:=fun b n z=>by subst z;rw [n]at mu;exact mu
 have hb:∀b,H b=none->b≠e:=fun b n z=>by
  subst z;rcases he with r | r
  ·exact hx b n r
  ·rw [n]at r;cases r
 have hm:∀b u,H b=some u->¬ Mut (some u)->b≠x:=fun b u q nm z=>by subst z;rw [q]at mu;exact nm mu
 refine⟨fun b u q n _ _=>k b u (hb b n) q,fun b u q n _ _=>⟨u.slots,k b u (hb b n) q⟩,fun b u q n _=>by rw [B9 (hx b n)];exact n,fun b u q _=>?_,
  fun b xs q=>by rw [B9 (hm b _ q fun z=>z)];exact q,fun b u xs q=>by rw [B9 (hm b _ q fun z=>z)];exact q,fun b ps q=>⟨#[],by rw [B9 (hm b _ q fun z=>z),q];simp⟩⟩
 by_cases hbe:b=e
 ·subst hbe;exact jG
 ·exact⟨u,k b u hbe q⟩
end
def trk (h:Heap)(H:Hp):List Addr:=(List.range h.objs.size).filter fun a=>(H a).isSome
def Q0s (h:Heap)(H:Hp):Heap:=PySem.W.hideAll h (trk h H)
def W1s (h:Heap)(H:Hp):(Q0s h H).objs.size=h.objs.size:=PySem.W.hideAll_size _ _
def W1r {h:Heap}{H:Hp}{b:Addr}{o:Obj}(e:h.get? b=some o)(n:H b=none):(Q0s h H).get? b=some o :=
 PySem.W.hideAll_get _ e fun hm=>by
  have q:(H b).isSome=true:=(b8.mp hm).2;rw [n]at q;simp at q
theorem W5s {h:Heap}{H:Hp}{b:Addr}{o:Obj}(e:(Q0s h H).get? b=some o):h.get? b=some o/\H b=none:=by
 have e':h.get? b=some o:=PySem.W.of_hideAll (trk h H) e;refine⟨e',?_⟩;cases q:H b with
 | none=>rfl
 | some x =>
  have hm:b∈trk h H:=b8.mpr ⟨aK.mpr (ax e'),by simp [q]⟩;have z:(Q0s h H).get? b=none:=cB (trk h H) hm;rw [z]at e;cases e
end L2
namespace L2
open PySem PySem.Spec PyProof.Rows
structure Mod (K:Fg9)(mg:Str->Option Value)(base:Heap):Prop where
 kin:K.In base
 glob:base.Ns mainGlobals mg
 blt:∃mb,base.Ns builtinsNs mb/\∀x:Str,x≠"__name__"->mb x=bootBuiltins x
 nolimit:base.NoLimit
structure Cx where
 prog:Program
 w:World
 K:Fg9
 mg:Str->Option Value
 base:Heap
 A:Around
 N:List Str
 s₀:Shared
 H₀:Hp
 env:Env
 outer:List Env
 stack:List Env
 ex:List Addr
 fn:Str->Bool
 calm:Bool
 pn:Pn9
 xe:VS9
def E6 (l:List Env):List Addr:=l.filterMap (·.frame)
abbrev Cx.fs (X:Cx):List Addr:=E6 X.outer
def Vis (sc:Scope)(x:Str):Prop:=sc.names.lookup x=some .local\/sc.names.lookup x=some .cell\/sc.names.lookup x=some .free
def Loc (sc:Scope)(x:Str):Prop:=sc.names.lookup x=some .local\/sc.names.lookup x=some .cell
def Look (env:Env)(h:Heap)(m:Str->Option Value)(x:Str)(u:Value):Prop :=
 (env.kindOf x=some .local/\m x=some u)\/((env.kindOf x=some .cell\/env.kindOf x=some .free)/\∃c,env.cells.lookup x=some c/\h.IsCell c (some u))
structure Cx.Ok (X:Cx):Prop where
 mod:Mod X.K X.mg X.base
 kind:X.env.scope.kind=.function
 glob:X.env.globals=mainGlobals
 blt:X.env.builtins=builtinsNs
 above:X.s₀.heap.objs.size<=X.env.locals
 inj:∀x y c,X.env.cells.lookup x=some c->X.env.cells.lookup y=some c->x=y
 has:∀x,(X.env.kindOf x=some .cell\/X.env.kindOf x=some .free)->∃c,X.env.cells.lookup x=some c
 cab:∀x c,X.fn x=true->X.env.cells.lookup x=some c->X.s₀.heap.objs.size<=c
 hd:X.calm=true->X.A.handled=none
 frames:X.A.frames=some X.stack
 stk:X.stack=X.outer\/(X.stack=X.env::X.outer/\X.env.frame=some X.env.locals)
 exf:∀b∈X.ex,b≠X.env.locals/\∀x c,X.env.cells.lookup x=some c->c≠b
 bs:∀b o,X.base.get? b=some o->X.s₀.heap.get? b=some o/\X.H₀ b=none
 bsz:X.base.objs.size<=X.s₀.heap.objs.size
 noex:∀b o,X.base.get? b=some o->b∉X.ex
 exfs:∀b∈X.ex,b∉X.fs
 funs:X.s₀.heap.FunFrames X.base X.outer
 frf:∀b∈X.fs,X.H₀ b=none
structure A0 (X:Cx)(a9:Pn9)(σ:List (Option V))(H:Hp)(s:Shared):Prop where
 ok:X.Ok
 os:s.os=X.s₀.os
 bare:AllBare s.gens
 base:Un X.fs X.ex X.H₀ H X.s₀.heap s.heap
 loc:∃m,s.heap.Ns X.env.locals m/\∀(i:Nat) (x:Str) (v:V),X.N[i]?=some x->σ[i]?=some (some v)->Vis X.env.scope x->∃u,C1 v u/\Look X.env s.heap m x u
 cell:∀x c,X.env.cells.lookup x=some c->∃v,s.heap.IsCell c v
 free:H X.env.locals=none
 freeC:∀x c,X.env.cells.lookup x=some c->H c=none
 pin:∀p∈X.pn++a9,s.heap.get? p.1=some p.2/\H p.1=none/\p.1≠X.env.locals/\p.1∉X.fs/\∀v,p.2.data≠.cell v
 hok:F7 X.prog X.w H s.heap
 len:σ.length=X.N.length
section
variable {X:Cx}{a9:Pn9}{σ:List (Option V)}{H H':Hp}{s:Shared}{h':Heap}
def Cx.Ok.nofr (ok:X.Ok){b:Addr}{o:Obj}(e:X.base.get? b=some o):b∉X.fs:=fun hb=>by
 have:=(ok.funs.mem hb).1;rw [e]at this;cases this
def A0.bs (I:A0 X a9 σ H s):∀b o,X.base.get? b=some o->s.heap.get? b=some o/\H b=none:=fun b o e =>
 ⟨I.base.keep b o (I.ok.bs b o e).1 (I.ok.bs b o e).2 (I.ok.nofr e) (I.ok.noex b o e),I.base.free b o (I.ok.bs b o e).1 (I.ok.bs b o e).2 (I.ok.noex b o e)⟩
def A0.bk (I:A0 X a9 σ H s):∀b o,X.base.get? b=some o->s.heap.get? b=some o:=fun b o e=>(I.bs b o e).1
def A0.mod (I:A0 X a9 σ H s):Mod X.K X.mg X.base:=I.ok.mod
def A0.kIn (I:A0 X a9 σ H s):X.K.In s.heap:=I.ok.mod.kin.keeps I.bk
def A0.lt (I:A0 X a9 σ H s):X.env.locals<s.heap.objs.size:=let ⟨_,hn,_⟩:=I.loc;hn.lt
def A0.sz (I:A0 X a9 σ H s):X.s₀.heap.objs.size<=s.heap.objs.size:=aS I.ok.above (eA I.lt)
def A0.nofs (I:A0 X a9 σ H s){a:Addr}(h:s.heap.objs.size<=a):a∉X.fs:=fun hb=>by
 obtain⟨_,o,ho,_⟩:=I.ok.funs.mem hb;exact absurd (au (ax ho) (aS I.sz h)) (aV _)
def A0.cne (I:A0 X a9 σ H s):∀x c,X.env.cells.lookup x=some c->c≠X.env.locals:=fun x c e z=>by
 obtain⟨v,o,ho,hd⟩:=I.cell x c e;obtain⟨m,⟨o',es,ep,jb,qP,_⟩,_⟩:=I.loc;rw [z,jb]at ho;cases ho;rw [qP]at hd;cases hd
def A0.funs (I:A0 X a9 σ H s):s.heap.FunFrames X.base X.outer:=by
 have all:∀(l:List Env),(∀b∈E6 l,b∈X.fs)->X.s₀.heap.FunFrames X.base l->s.heap.FunFrames X.base l:=by
  intro l
  induction l with
  | nil=>intro _ _;trivial
  | cons env r ih =>
   intro hs hl;obtain⟨hk,⟨L,o,hf,hn,ho,hd⟩,hr⟩:=hl;have hL:L∈X.fs:=hs L (by unfold E6;rw [bL,hf];exact ag);obtain⟨sl,e⟩:=I.base.slot L o ho (I.ok.frf L hL) hL fun z=>I.ok.exfs L z hL;exact⟨hk,⟨L,_,hf,hn,e,hd⟩,ih (fun b hb=>hs b (by unfold E6;rw [bL,hf];exact ae _ hb)) hr⟩
 exact all X.outer (fun _ hb=>hb) I.ok.funs
def A0.stack (I:A0 X a9 σ H s):s.heap.FunFrames X.base X.stack:=by
 rcases I.ok.stk with e | ⟨e,hf⟩
 ·rw [e];exact I.funs
 ·rw [e];obtain⟨m,hn,_⟩:=I.loc;refine .cons (by rw [I.ok.kind];decide) hf hn ?_ I.funs;exact Heap.get?_none_of_le (aS I.ok.bsz I.ok.above)
def A0.stkSub (I:A0 X a9 σ H s):∀b∈E6 X.stack,b∈X.env.locals::X.fs:=fun b hb=>by
 rcases I.ok.stk with e | ⟨e,hf⟩
 ·rw [e]at hb;exact ae _ hb
 ·rw [e]at hb;unfold E6 at hb;rw [bL,hf]at hb;exact hb
def A0.stkFree (I:A0 X a9 σ H s):∀b∈E6 X.stack,H b=none:=fun b hb=>by
 rcases ar.mp (I.stkSub b hb)with e | hb
 ·rw [e];exact I.free
 ·obtain⟨_,o,ho,_⟩:=I.ok.funs.mem hb;exact I.base.free b o ho (I.ok.frf b hb) fun z=>I.ok.exfs b z hb
def A0.step {g':Array GenState}{t':Nat}{d':Drawn}{ch:List Addr}(I:A0 X a9 σ H s)
  (gP:∀b∈ch,(b∈X.ex\/X.s₀.heap.objs.size<=b)/\b≠X.env.locals/\(∀x c,X.env.cells.lookup x=some c->c≠b)/\∀p∈X.pn++a9,p.1≠b)
  (keep:∀b o,b≠X.env.locals->b∉X.fs->b∉ch->s.heap.get? b=some o->H b=none->h'.get? b=some o)
  (slot:∀b o,b≠X.env.locals->b∈X.fs->b∉ch->s.heap.get? b=some o->H b=none->∃sl,h'.get? b=some { o with slots:=sl }) (free:∀b o,b∉ch->s.heap.get? b=some o->H b=none->H' b=none)
  (there:∀b o,b∉ch->s.heap.get? b=some o->∃o',h'.get? b=some o')
  (tups:∀b xs,H b=some (.tup xs)->H' b=some (.tup xs)) (frzs:∀b o u,H b=some (.frz o u)->H' b=some (.frz o u)) (tbls:∀b ps,H b=some (.tbl ps)->∃more,H' b=some (.tbl (ps++more)))
  (ns:∀m,s.heap.Ns X.env.locals m->h'.Ns X.env.locals m) (hok:F7 X.prog X.w H' h') (hg:AllBare g') :
  A0 X a9 σ H' { s with heap:=h',gens:=g',drawn:=d',toks:=t' }:=by
 have nM:∀b o,X.s₀.heap.get? b=some o->b≠X.env.locals:=fun b o e=>ay (au (ax e) I.ok.above);have gM:∀b o,X.s₀.heap.get? b=some o->b∉X.ex->b∉ch:=fun b o e hx hb=>by
  rcases (gP b hb).1 with z | z
  ·exact hx z
  ·exact absurd (au (ax e) z) (aV _)
 have fj:∀x c,X.env.cells.lookup x=some c->∀v,s.heap.IsCell c v->h'.IsCell c v:=fun x c e v ⟨o,ho,hd⟩=>by
  have kc:c∉ch:=fun z=>(gP c z).2.2.1 x c e rfl
  by_cases hc:c∈X.fs
  ·obtain⟨sl,q⟩:=slot c o (I.cne x c e) hc kc ho (I.freeC x c e);exact⟨_,q,hd⟩
  ·exact⟨o,keep c o (I.cne x c e) hc kc ho (I.freeC x c e),hd⟩
 refine⟨I.ok,I.os,hg,⟨fun b o e n hb hx=>?_,fun b o e n hb hx=>?_,fun b o e n hx=>?_,fun b o e hx=>?_,fun b xs e=>tups b xs (I.base.tups b xs e),fun b o xs e=>frzs b o xs (I.base.frzs b o xs e),fun b ps e=>?_⟩,?_,fun x c e=>?_,?_,fun x c e=>?_,fun p hp=>?_,hok,I.len⟩
 ·exact keep b o (nM b o e) hb (gM b o e hx) (I.base.keep b o e n hb hx) (I.base.free b o e n hx)
 ·obtain⟨sl,e1⟩:=I.base.slot b o e n hb hx;obtain⟨lH,e2⟩:=slot b _ (nM b o e) hb (gM b o e hx) e1 (I.base.free b o e n hx);exact⟨lH,e2⟩
 ·obtain⟨o',e1⟩:=I.base.there b o e hx;exact free b o' (gM b o e hx) e1 (I.base.free b o e n hx)
 ·obtain⟨o',e1⟩:=I.base.there b o e hx;exact there b o' (gM b o e hx) e1
 ·obtain⟨m1,e1⟩:=I.base.tbls b ps e;obtain⟨m2,e2⟩:=tbls b _ e1;exact⟨m1++m2,by rw [e2,Array.append_assoc]⟩
 ·obtain⟨m,hn,hl⟩:=I.loc;refine⟨m,ns m hn,fun i x v e1 e2 e3=>?_⟩;obtain⟨u,r,l⟩:=hl i x v e1 e2 e3;refine⟨u,r,?_⟩;rcases l with l | ⟨k,c,e,z⟩
  ·exact .inl l
  ·exact .inr ⟨k,c,e,fj x c e _ z⟩
 ·obtain⟨v,z⟩:=I.cell x c e;exact⟨v,fj x c e v z⟩
 ·obtain⟨m,⟨o,_,_,ho,_⟩,_⟩:=I.loc;exact free _ o (fun z=>(gP _ z).2.1 rfl) ho I.free
 ·obtain⟨v,o,ho,hd⟩:=I.cell x c e;exact free c o (fun z=>(gP c z).2.2.1 x c e rfl) ho (I.freeC x c e)
 ·obtain⟨e,n,ne,nf,d⟩:=I.pin p hp;have kc:p.1∉ch:=fun z=>(gP p.1 z).2.2.2 p hp rfl;exact⟨keep p.1 p.2 ne nf kc e n,free p.1 p.2 kc e n,ne,nf,d⟩
def A0.un {t':Nat}(I:A0 X a9 σ H s)(u:Un X.fs [] H H' s.heap h')(hok:F7 X.prog X.w H' h'):A0 X a9 σ H' { s with heap:=h',toks:=t' }:=by
 obtain⟨m,⟨o,es,ep,ho,r⟩,_⟩:=id I.loc;obtain⟨sl,hL⟩:=u.any ho I.free (by simp);exact I.step (g':=s.gens) (d':=s.drawn) (ch:=[]) (fun _ z=>nomatch z) (fun b o _ hb _ e n=>u.keep b o e n hb (by simp)) (fun b o _ hb _ e n=>u.slot b o e n hb (by simp)) (fun b o _ e n=>u.free b o e n (by simp)) (fun b o _ e=>u.there b o e (by simp)) u.tups u.frzs u.tbls (fun m' hm=>by
  obtain⟨o',fi,jJ,jb,r'⟩:=hm;rw [ho]at jb;cases jb;exact⟨_,fi,jJ,hL,r'⟩) hok I.bare
def A0.call {g':Array GenState}{t':Nat}{d':Drawn}{ch:List Addr}(I:A0 X a9 σ H s)(u:Un (E6 X.stack) ch H H' s.heap h')(hok:F7 X.prog X.w H' h')(hg:AllBare g')
  (gP:∀b∈ch,(b∈X.ex\/X.s₀.heap.objs.size<=b)/\b≠X.env.locals/\(∀x c,X.env.cells.lookup x=some c->c≠b)/\∀p∈X.pn++a9,p.1≠b) :
  A0 X a9 σ H' { s with heap:=h',gens:=g',drawn:=d',toks:=t' }:=by
 obtain⟨m,⟨o,es,ep,ho,r⟩,_⟩:=id I.loc;obtain⟨sl,hL⟩:=u.any ho I.free fun z=>(gP _ z).2.1 rfl;exact I.step (ch:=ch) gP (fun b o hL hb hc e n=>u.keep b o e n (fun z=>(ar.mp (I.stkSub b z)).elim hL hb) hc) (fun b o _ _ hc e n=>u.any e n hc) (fun b o hc e n=>u.free b o e n hc) (fun b o hc e=>u.there b o e hc) u.tups u.frzs u.tbls (fun m' hm=>by
  obtain⟨o',fi,jJ,jb,r'⟩:=hm;rw [ho]at jb;cases jb;exact⟨_,fi,jJ,hL,r'⟩) hok hg
def A0.turned {t':Nat}{it:Addr}(I:A0 X a9 σ H s)(k:∀b o,b≠it->s.heap.get? b=some o->h'.get? b=some o)(hn:H it=none)(hL:it≠X.env.locals)
  (h1:it∈X.ex\/X.s₀.heap.objs.size<=it) (h2:∀x c,X.env.cells.lookup x=some c->c≠it) (h3:∀p∈X.pn++a9,p.1≠it):A0 X a9 σ H { s with heap:=h',toks:=t' }:=by
 have iE:∀b u,H b=some u->b≠it:=fun b u e z=>by rw [z,hn]at e;cases e
 refine I.step (g':=s.gens) (d':=s.drawn) (ch:=[it]) (fun b hb=>?_) (fun b o _ _ hc e _=>k b o (fun z=>hc (by simp [z])) e) (fun b o _ _ hc e _=>⟨o.slots,k b o (fun z=>hc (by simp [z])) e⟩) (fun _ _ _ _ n=>n)
  (fun b o hc e=>⟨o,k b o (fun z=>hc (by simp [z])) e⟩) (fun _ _ e=>e) (fun _ _ _ e=>e) (fun b ps e=>⟨#[],by rw [e];simp⟩) (fun m hm=>?_) (fun b u e=>?_) I.bare
 ·have e:b=it:=by simpa using hb
  subst e;exact⟨h1,hL,h2,h3⟩
 ·obtain⟨o,es,ep,ho,r⟩:=hm;exact⟨o,es,ep,k _ o (cF hL) ho,r⟩
 ·refine(I.hok b u e).stay (fun c v hc q=>k c v ?_ q) (fun _ _ _ q=>q) fun _ _ q=>q;rcases hc with z | z
  ·rw [z];exact iE b u e
  ·exact iE c _ z
def A0.tok (I:A0 X a9 σ H s)(t:Nat):A0 X a9 σ H { s with toks:=t }:=I.un (h':=s.heap) (t':=t) Un.refl I.hok
def A0.kept {t':Nat}(I:A0 X a9 σ H s)(k:∀b u,s.heap.get? b=some u->h'.get? b=some u):A0 X a9 σ H { s with heap:=h',toks:=t' }:=I.un (Un.kept k) (I.hok.kept k)
def A0.laid {a:Addr}{o:HO}{t':Nat}(I:A0 X a9 σ H s)(k:∀b u,s.heap.get? b=some u->h'.get? b=some u)(hp:s.heap.objs.size<=a)(new:ObjOk X.prog X.w (upd H a o) h' a o) :
  A0 X a9 σ (upd H a o) { s with heap:=h',toks:=t' }:=I.un (Un.laid k hp (I.hok.fresh hp)) (I.hok.laid k hp new)
def A0.write {x e:Addr}{o:HO}{t':Nat}(I:A0 X a9 σ H s)(mu:Mut (H x))(he:e=x\/H e=some (.own x))(k:∀b u,b≠e->s.heap.get? b=some u->h'.get? b=some u)(jG:∃u,h'.get? e=some u)
  (new:ObjOk X.prog X.w (upd H x o) h' x o):A0 X a9 σ (upd H x o) { s with heap:=h',toks:=t' }:=I.un (Un.write mu he k jG) (I.hok.write mu he k jG new)
def A0.pins_of {iB:Pn9}(I:A0 X a9 σ H s)(h:∀p∈iB,s.heap.get? p.1=some p.2/\H p.1=none/\p.1≠X.env.locals/\p.1∉X.fs/\∀v,p.2.data≠.cell v):A0 X iB σ H s :=
 ⟨I.ok,I.os,I.bare,I.base,I.loc,I.cell,I.free,I.freeC,fun p hp=>(aR.mp hp).elim (fun z=>I.pin p (b9 _ z)) (h p),I.hok,I.len⟩
def Y2w {N:List Str}(hN:N.Nodup){i j:Nat}{x:Str}(a:N[i]?=some x)(b:N[j]?=some x):i=j:=by
 obtain⟨h1,e1⟩:=av.mp a;obtain⟨h2,e2⟩:=av.mp b;exact(List.getElem_inj hN).mp (e1.trans e2.symm)
def Q7r {M:Model}{A:Around}{E:VS9}{i:Nat}{x:Str}{v:V}{u:Value}{Q:Unit->Shared->Prop}(I:A0 X a9 σ H s)(hN:X.N.Nodup)(hi:X.N[i]?=some x)(hx:Loc X.env.scope x)(r:C1 v u)
  (h:∀s',A0 X a9 (σ.set i (some v)) H s'->(∃a,Heap.SameBut a s.heap s'.heap/\(a=X.env.locals\/X.env.cells.lookup x=some a))->Q () s') (hf:X.fn x=true\/X.env.scope.names.lookup x=some .local:=by first | exact .inl rfl | exact .inr rfl | assumption):wpAny M A (storeName X.env x u) Q E s:=by
 obtain⟨m,hn,hl⟩:=id I.loc;have fB:(X.env.scope.kind==.class||(X.env.scope.kind==.module&&X.env.locals != X.env.globals))=false:=by rw [I.ok.kind];rfl
 have hiσ:i<σ.length:=by rw [I.len];exact(av.mp hi).1
 have cne:=I.cne;have tracked:∀{a:Addr}{h':Heap},(∃o,s.heap.get? a=some o/\H a=none)->Heap.SameBut a s.heap h'->F7 X.prog X.w H h':=fun {a h'} ha hs b ob e=>by
  obtain⟨_,_,ez⟩:=ha;refine(I.hok b ob e).stay (fun c w' hc q=>(hs.2 c ?_).trans q) (fun _ _ _ q=>q) fun _ _ q=>q;rintro rfl;rcases hc with rfl | hc
  ·rw [ez]at e;cases e
  ·rw [ez]at hc;cases hc
 rcases hx with hk | hk
 ·refine wpAny_storeName_local hk hn (fun h' qt hs=>?_) fB;obtain⟨oL,_,_,kq,_⟩:=id hn;refine h _ ⟨I.ok,I.os,I.bare,⟨fun b o e n hb hx=>?_,fun b o e n hb hx=>?_,I.base.free,fun b o e hx=>?_,I.base.tups,I.base.frzs,I.base.tbls⟩,⟨_,qt,fun j y v' e1 e2 e3=>?_⟩,fun y c e=>?_,I.free,I.freeC,fun p hp=>?_,tracked ⟨oL,kq,I.free⟩ hs,by simpa using I.len⟩ ⟨_,hs,.inl rfl⟩
  ·exact(hs.2 b (ay (au (ax e) I.ok.above))).trans (I.base.keep b o e n hb hx)
  ·obtain⟨sl,e1⟩:=I.base.slot b o e n hb hx;exact⟨sl,(hs.2 b (ay (au (ax e) I.ok.above))).trans e1⟩
  ·obtain⟨o',e1⟩:=I.base.there b o e hx;exact⟨o',(hs.2 b (ay (au (ax e) I.ok.above))).trans e1⟩
  ·by_cases hj:j=i
   ·subst hj;rw [hi]at e1;cases e1;rw [br hiσ]at e2;cases e2;exact⟨u,r,.inl ⟨hk,by simp⟩⟩
   ·rw [aN (cF hj)]at e2;obtain⟨u',r',q⟩:=hl j y v' e1 e2 e3;refine⟨u',r',?_⟩;rcases q with⟨k,e⟩ | ⟨k,c,e,z⟩
    ·refine .inl ⟨k,?_⟩;have:y≠x:=fun e=>hj (Y2w hN e1 (e ▸ hi));simp [this,e]
    ·exact .inr ⟨k,c,e,z.sameBut hs (cne y c e)⟩
  ·obtain⟨w',z⟩:=I.cell y c e;exact⟨w',z.sameBut hs (cne y c e)⟩
  ·obtain⟨e,n,ne,nf,d⟩:=I.pin p hp;exact⟨(hs.2 p.1 ne).trans e,n,ne,nf,d⟩
 ·have iL:X.fn x=true:=by
   rcases hf with z | z
   ·exact z
   ·rw [z]at hk;cases hk
  obtain⟨c,hc⟩:=I.ok.has x (.inl hk);obtain⟨w',z⟩:=I.cell x c hc;refine wpAny_storeName_cell I.ok.kind hk hc z (fun h' dy hs=>?_);obtain⟨oc,eE,mr⟩:=id z;refine h { s with heap:=h' } ⟨I.ok,I.os,I.bare,⟨fun b o e n hb hx=>?_,fun b o e n hb hx=>?_,I.base.free,fun b o e hx=>?_,I.base.tups,I.base.frzs,I.base.tbls⟩,⟨m,hn.sameBut hs (cF (cne x c hc)),fun j y v' e1 e2 e3=>?_⟩,fun y c' e=>?_,I.free,I.freeC,fun p hp=>?_,tracked ⟨oc,eE,I.freeC x c hc⟩ hs,by simpa using I.len⟩ ⟨c,hs,.inr hc⟩
  ·exact(hs.2 b (ay (au (ax e) (I.ok.cab x c iL hc)))).trans (I.base.keep b o e n hb hx)
  ·obtain⟨sl,e1⟩:=I.base.slot b o e n hb hx;exact⟨sl,(hs.2 b (ay (au (ax e) (I.ok.cab x c iL hc)))).trans e1⟩
  ·obtain⟨o',e1⟩:=I.base.there b o e hx;exact⟨o',(hs.2 b (ay (au (ax e) (I.ok.cab x c iL hc)))).trans e1⟩
  ·by_cases hj:j=i
   ·subst hj;rw [hi]at e1;cases e1;rw [br hiσ]at e2;cases e2;exact⟨u,r,.inr ⟨.inl hk,c,hc,dy⟩⟩
   ·rw [aN (cF hj)]at e2;obtain⟨u',r',q⟩:=hl j y v' e1 e2 e3;refine⟨u',r',?_⟩;rcases q with q | ⟨k,c',e,z'⟩
    ·exact .inl q
    ·refine .inr ⟨k,c',e,z'.sameBut hs ?_⟩;rintro rfl;exact hj (Y2w hN e1 (I.ok.inj _ _ _ e hc ▸ hi))
  ·by_cases jI:c'=c
   ·subst jI;exact⟨_,dy⟩
   ·obtain⟨w2,z2⟩:=I.cell y c' e;exact⟨w2,z2.sameBut hs jI⟩
  ·obtain⟨e,n,ne,nf,d⟩:=I.pin p hp;refine⟨(hs.2 p.1 ?_).trans e,n,ne,nf,d⟩;intro q;rw [q,eE]at e;have q':oc=p.2:=aA e;exact d w' (by rw [<- q'];exact mr)
def Z5x {M:Model}{A:Around}{E:VS9}{i:Nat}{x:Str}{v:V}{u:Value}{Q:Unit->Shared->Prop}(I:A0 X a9 σ H s)(hN:X.N.Nodup)(hi:X.N[i]?=some x)(hx:Loc X.env.scope x)(r:C1 v u)
  (h:∀s',A0 X a9 (σ.set i (some v)) H s'->Q () s') (hf:X.fn x=true\/X.env.scope.names.lookup x=some .local:=by first | exact .inl rfl | exact .inr rfl | assumption):wpAny M A (storeName X.env x u) Q E s :=
 Q7r I hN hi hx r (fun s' I' _=>h s' I') hf
def A0.call' {s':Shared}{ch:List Addr}(I:A0 X a9 σ H s)(ho:s'.os=s.os)(u:Un (E6 X.stack) ch H H' s.heap s'.heap)(hok:F7 X.prog X.w H' s'.heap)(hg:AllBare s'.gens)
  (gP:∀b∈ch,(b∈X.ex\/X.s₀.heap.objs.size<=b)/\b≠X.env.locals/\(∀x c,X.env.cells.lookup x=some c->c≠b)/\∀p∈X.pn++a9,p.1≠b):A0 X a9 σ H' s':=by
 obtain⟨h',g',d',t',o'⟩:=s';have e:o'=s.os:=ho;subst e;exact I.call (g':=g') (t':=t') (d':=d') u hok hg gP
end
abbrev XK:=Value->Option Addr->Hp->Prop
abbrev St:=List (Option V)
abbrev VK:=V->Hp->Prop
abbrev TE:=St->Hp->VK->Prop
abbrev TT:=St->Hp->(Bool->Hp->Prop)->Prop
abbrev TA:=St->Hp->(List V->Hp->Prop)->Prop
structure S6 where
 nx:St->Hp->Prop
 rt:VK
 bk:St->Hp->Prop:=fun _ _=>False
 ct:St->Hp->Prop:=fun _ _=>False
abbrev TS:=S6->St->Hp->Prop
def EP (X:Cx)(a9:Pn9)(σ:St)(Q:VK)(u:Value)(s':Shared):Prop:=∃v H',A0 X a9 σ H' s'/\C1 v u/\Q v H'
def TP (X:Cx)(a9:Pn9)(σ:St)(Q:Bool->Hp->Prop)(b:Bool)(s':Shared):Prop:=∃H',A0 X a9 σ H' s'/\Q b H'
def AP (X:Cx)(a9:Pn9)(σ:St)(Q:List V->Hp->Prop)(us:List Value)(s':Shared):Prop:=∃vs H',A0 X a9 σ H' s'/\C0 vs us/\Q vs H'
def SP (X:Cx)(a9:Pn9)(D:S6)(f:Flow)(s':Shared):Prop :=
 match f with
 | .next=>∃ σ' H',A0 X a9 σ' H' s'/\D.nx σ' H'
 | .brk=>∃ σ' H',A0 X a9 σ' H' s'/\D.bk σ' H'
 | .cont=>∃ σ' H',A0 X a9 σ' H' s'/\D.ct σ' H'
 | .ret u=>∃v σ' H',A0 X a9 σ' H' s'/\C1 v u/\D.rt v H'
def PE (X:Cx)(e:Expr)(t:TE):Prop :=
 ∀(a9:Pn9) (s:Shared) (σ:St) (H:Hp) (Q:VK),A0 X a9 σ H s->t σ H Q->wpAny (model X.prog X.w) X.A (eval e X.env) (EP X a9 σ Q) X.xe s
def PT (X:Cx)(e:Expr)(t:TT):Prop :=
 ∀(a9:Pn9) (s:Shared) (σ:St) (H:Hp) (Q:Bool->Hp->Prop),A0 X a9 σ H s->t σ H Q->wpAny (model X.prog X.w) X.A (isTrue e X.env (eval e X.env)) (TP X a9 σ Q) X.xe s
def PW (X:Cx)(e:Expr)(t:TT):Prop :=
 ∀(whole:Sem Value) (a9:Pn9) (s:Shared) (σ:St) (H:Hp) (Q:Bool->Hp->Prop),A0 X a9 σ H s->t σ H Q->wpAny (model X.prog X.w) X.A (isTrue e X.env whole) (TP X a9 σ Q) X.xe s
def PW.pt {X:Cx}{e:Expr}{t:TT}(h:PW X e t):PT X e t:=h _
def PA (X:Cx)(es:List Expr)(t:TA):Prop :=
 ∀(pos:Pos) (a9:Pn9) (s:Shared) (σ:St) (H:Hp) (Q:List V->Hp->Prop),A0 X a9 σ H s->t σ H Q->wpAny (model X.prog X.w) X.A (spliced (backTo pos (starEach es X.env))) (AP X a9 σ Q) X.xe s
def PS (X:Cx)(st:Stmt)(t:TS):Prop :=
 ∀(a9:Pn9) (s:Shared) (σ:St) (H:Hp) (D:S6),A0 X a9 σ H s->t D σ H->wpAny (model X.prog X.w) X.A (exec st X.env) (SP X a9 D) X.xe s
def Q3 (X:Cx)(st:List Stmt)(t:TS):Prop :=
 ∀(a9:Pn9) (s:Shared) (σ:St) (H:Hp) (D:S6),A0 X a9 σ H s->t D σ H->wpAny (model X.prog X.w) X.A (execs st X.env) (SP X a9 D) X.xe s
def B4 {α:Type}{t:Sem α}{Q Q':α->Shared->Prop}{M:Model}{A:Around}{E:VS9}{s:Shared}(h:wpAny M A t Q E s)(hQ:∀a s,Q a s->Q' a s):wpAny M A t Q' E s:=aL h hQ fun _ _ x=>x
end L2
namespace L2
open PySem PySem.Spec PyProof.Rows
section
variable {X:Cx}
def S4 (i:Nat):TE:=fun σ H Q=>∃v,σ[i]?=some (some v)/\Q v H
def tC (v:V):TE:=fun _ H Q=>Q v H
def W7f {i:Nat}{x:Str}{pos:Pos}(hN:X.N[i]?=some x)(hv:Vis X.env.scope x)(hd:(x==("__debug__":Str))=false:=by decide)(dq:(x==("__classdict__":Str))=false:=by decide):PE X (.Name x pos) (S4 i):=by
 intro a9 s σ H Q I h;obtain⟨v,e,h⟩:=h;obtain⟨m,hn,hl⟩:=I.loc;obtain⟨u,r,l⟩:=hl i x v hN e hv;have fin:EP X a9 σ Q u s:=⟨v,H,I,r,h⟩
 rcases l with⟨hk,hm⟩ | ⟨hk,c,hc,db⟩
 ·exact wpAny_Name (wpAny_loadName_local I.ok.kind hk hn hm fin) hd
 ·rcases hk with hk | hk
  ·exact wpAny_Name (wpAny_loadName_cell I.ok.kind hk hc db fin) hd
  ·exact wpAny_Name (wpAny_loadName_free I.ok.kind hk hc db fin dq) hd
def W6v {i j pos}:PE X (.Constant (.int i) j pos) (tC (.int i)):=fun _ _ _ H _ I h=>wpAny_Constant_int ⟨.int i,H,I.tok _,⟨_,rfl⟩,h⟩
def W6m {b j pos}:PE X (.Constant (.bool b) j pos) (tC (.bl b)):=fun _ _ _ H _ I h=>Constant_bool ⟨.bl b,H,I,rfl,h⟩
def W6y {j pos}:PE X (.Constant .none j pos) (tC .non):=fun _ _ _ H _ I h=>Constant_none ⟨.non,H,I,rfl,h⟩
def W7c {x j pos}:PE X (.Constant (.str x) j pos) (tC (.str x)):=fun _ _ _ H _ I h=>Calls.Constant_str ⟨.str x,H,I.tok _,⟨_,rfl⟩,h⟩
def Gl (X:Cx)(x:Str):Prop:=X.env.kindOf x=some .globalImplicit
def Q3y {E:VS9}{a9:Pn9}{s:Shared}{σ:St}{H:Hp}{x:Str}{u:Value}{pos:Pos}{Q:VS9}(I:A0 X a9 σ H s)(hg:Gl X x)(hm:X.mg x=some u)(h:Q u s)
  (hd:(x==("__debug__":Str))=false:=by decide):wpAny (model X.prog X.w) X.A (eval (.Name x pos) X.env) Q E s :=
 Calls.Name_function_global I.ok.kind hg (Calls.loadGlobal_global (by rw [I.ok.glob];exact I.mod.glob.keeps I.bk) hm h) hd
def Y9 {E:VS9}{a9:Pn9}{s:Shared}{σ:St}{H:Hp}{x:Str}{u:Value}{pos:Pos}{Q:VS9}(I:A0 X a9 σ H s)(hg:Gl X x)(hm:X.mg x=none)(hv:bootBuiltins x=some u)(h:Q u s)
  (hn:x≠"__name__":=by decide) (hd:(x==("__debug__":Str))=false:=by decide):wpAny (model X.prog X.w) X.A (eval (.Name x pos) X.env) Q E s:=by
 obtain⟨mb,h1,h2⟩:=I.mod.blt;exact Calls.Name_function_global I.ok.kind hg (Calls.loadGlobal_builtin (by rw [I.ok.glob];exact I.mod.glob.keeps I.bk) hm (by rw [I.ok.blt];exact h1.keeps I.bk) ((h2 x hn).trans hv) h) hd
def Q9y {x:Str}{v:V}{u:Value}{pos:Pos}(hg:Gl X x)(hm:X.mg x=some u)(r:C1 v u)(hd:(x==("__debug__":Str))=false:=by decide):PE X (.Name x pos) (tC v) :=
 fun _ _ _ H _ I h=>Q3y I hg hm ⟨v,H,I,r,h⟩ hd
def Y3j {x:Str}{v:V}{u:Value}{pos:Pos}(hg:Gl X x)(hm:X.mg x=none)(hv:bootBuiltins x=some u)(r:C1 v u)(hn:x≠"__name__":=by decide)(hd:(x==("__debug__":Str))=false:=by decide):PE X (.Name x pos) (tC v) :=
 fun _ _ _ H _ I h=>Y9 I hg hm hv ⟨v,H,I,r,h⟩ hn hd
variable {a b:Expr}{ta tb:TE}{pos:Pos}
def PC (X:Cx)(op:CmpOp)(a b:Expr)(t:TE):Prop :=
 ∀(a9:Pn9) (s:Shared) (σ:St) (H:Hp) (Q:VK),A0 X a9 σ H s->t σ H Q ->
  wpAny (model X.prog X.w) X.A (eval a X.env) (fun v s₁=>wpAny (model X.prog X.w) X.A (eval b X.env) (fun u s₂=>wpAny (model X.prog X.w) X.A (compareOp op v u) (EP X a9 σ Q) X.xe s₂) X.xe s₁) X.xe s
def tB (t:TE):TT:=fun σ H Q=>t σ H fun x H1=>∃c,x=.bl c/\Q c H1
def W8c {op:CmpOp}{t:TE}(h:PC X op a b t)(h1:behindInMarks op b=false:=by first | exact nobehind _ (by decide) (by decide) | rfl):PT X (.Compare a [op] [b] pos) (tB t):=by
 intro a9 s σ H Q I hw;refine wpAny_isTrue_Compare1 (B4 (h a9 s σ H _ I hw) fun v s1 h1=>B4 h1 fun u s2 h2=>B4 h2 fun c s3 bu=>?_) h1;obtain⟨x,H1,I1,r1,q1⟩:=bu;obtain⟨d,rfl,q⟩:=q1;cases r1;exact wpAny_truthy_bool ⟨H1,I1,q⟩
variable {tA kX:TT}{rest:List Expr}
def tAnd (t u:TT):TT:=fun σ H Q=>t σ H fun c H1=>if c=true then u σ H1 Q else Q false H1
def tOr (t u:TT):TT:=fun σ H Q=>t σ H fun c H1=>if c=true then Q true H1 else u σ H1 Q
def tNot (t:TT):TT:=fun σ H Q=>t σ H fun c H1=>Q (!c) H1
theorem W8h (ha:PT X a tA):PW X (.BoolOp .And [a] pos) tA:=by
 intro wh a9 s σ H Q I h;refine isTrue_and (B4 (ha a9 s σ H Q I h) fun c s1 e=>?_);cases c with
 | true=>exact isTrue_and_nil e
 | false=>exact e
theorem W8j (ha:PT X a tA):PW X (.BoolOp .Or [a] pos) tA:=by
 intro wh a9 s σ H Q I h;refine isTrue_or (B4 (ha a9 s σ H Q I h) fun c s1 e=>?_);cases c with
 | false=>exact isTrue_or_nil e
 | true=>exact e
theorem W8g (ha:PT X a tA)(hb:PW X (.BoolOp .And (b::rest) pos) kX):PW X (.BoolOp .And (a::b::rest) pos) (tAnd tA kX):=by
 intro wh a9 s σ H Q I h;refine isTrue_and (B4 (ha a9 s σ H _ I h) fun c s1 bu=>?_);obtain⟨H1,I1,q1⟩:=bu;cases c with
 | true=>exact hb wh a9 s1 σ H1 Q I1 q1
 | false=>exact⟨H1,I1,q1⟩
theorem W8i (ha:PT X a tA)(hb:PW X (.BoolOp .Or (b::rest) pos) kX):PW X (.BoolOp .Or (a::b::rest) pos) (tOr tA kX):=by
 intro wh a9 s σ H Q I h;refine isTrue_or (B4 (ha a9 s σ H _ I h) fun c s1 bu=>?_);obtain⟨H1,I1,q1⟩:=bu;cases c with
 | true=>exact⟨H1,I1,q1⟩
 | false=>exact hb wh a9 s1 σ H1 Q I1 q1
def W8e (ha:PT X a tA):PT X (.UnaryOp .Not a pos) (tNot tA):=by
 intro a9 s σ H Q I h;exact isTrue_not (ha a9 s σ H (fun c H1=>Q (!c) H1) I h)
def V1z (ta tb:TE):TE:=fun σ H Q=>ta σ H fun x H1=>∃c,x=.bl c/\if c=true then tb σ H1 Q else Q (.bl false) H1
def W6z {op}{t:TE}(h:PE X a t):PE X (.BoolOp op [a] pos) t:=fun a9 s σ H Q I hw=>BoolOp_one (h a9 s σ H Q I hw)
theorem W6l (ha:PE X a ta)(hb:PE X (.BoolOp .And (b::rest) pos) tb):PE X (.BoolOp .And (a::b::rest) pos) (V1z ta tb):=by
 intro a9 s σ H Q I h;refine BoolOp_and (B4 (ha a9 s σ H _ I h) fun v s1 bu=>?_);obtain⟨x,H1,I1,r1,q1⟩:=bu;obtain⟨c,rfl,q1⟩:=q1;cases r1;refine wpAny_truthy_bool ?_;cases c with
 | true=>exact hb a9 s1 σ H1 Q I1 q1
 | false=>exact⟨.bl false,H1,I1,rfl,q1⟩
def tIf (t:TT)(ta tb:TE):TE:=fun σ H Q=>t σ H fun c H1=>if c=true then ta σ H1 Q else tb σ H1 Q
theorem W6u {c:Expr}(hc:PT X c tA)(ha:PE X a ta)(hb:PE X b tb):PE X (.IfExp c a b pos) (tIf tA ta tb):=by
 intro a9 s σ H Q I h;refine wpAny_IfExp (B4 (hc a9 s σ H _ I h) fun d s1 bu=>?_);obtain⟨H1,I1,q1⟩:=bu;cases d with
 | true=>exact ha a9 s1 σ H1 Q I1 q1
 | false=>exact hb a9 s1 σ H1 Q I1 q1
end
end L2
namespace L2
open PySem PySem.Spec PyProof.Rows
def D7 (K:Fg9)(H:Hp)(a:Addr)(xs:List V):Prop :=
 Rd H a (.lst xs) \/
  ∃(o:Obj) (aP:Array Value) (n:Nat),K.lookup a=some o/\o.cls=.type "list"/\o.dict=none/\o.data=.seq aP n/\aP.size<=sizeLine/\C0 xs aP.toList
def E1 (K:Fg9)(H:Hp)(a:Addr)(xs:List V):Prop :=
 Rd H a (.tup xs) \/
  ∃(o:Obj) (aP:Array Value) (n:Nat),K.lookup a=some o/\o.cls=.type "tuple"/\o.data=.seq aP n/\aP.size<=sizeLine/\C0 xs aP.toList
def absV:Value->Option V
 | .none=>some .non
 | .bool b=>some (.bl b)
 | .int i _=>some (.int i)
 | .str x _=>some (.str x)
 | .bytes b _=>some (.byt b)
 | .float b _=>some (.flt b)
 | .ref a=>some (.ref a)
 | .type n=>some (.ty n)
 | _=>none
theorem C1.abs {x:V}{u:Value}(r:C1 x u):absV u=some x:=by
 cases x with
 | non=>cases r;rfl
 | bl _=>cases r;rfl
 | int _=>obtain⟨t,rfl⟩:=r;rfl
 | str _=>obtain⟨t,rfl⟩:=r;rfl
 | byt _=>obtain⟨t,rfl⟩:=r;rfl
 | flt _=>obtain⟨t,rfl⟩:=r;rfl
 | ref _=>cases r;rfl
 | ty _=>cases r;rfl
def C1.inj {x y:V}{u:Value}(r:C1 x u)(q:C1 y u):x=y:=aA (r.abs.symm.trans q.abs)
theorem C0.inj:∀{xs ys:List V}{us:List Value},C0 xs us->C0 ys us->xs=ys:=by
 intro xs
 induction xs with
 | nil=>intro ys us a b;cases a;cases b;rfl
 | cons x xs ih =>
  intro ys us a b;cases a with
  | cons r t =>
   cases b with
   | cons r' t'=>rw [r.inj r',ih t t']
section
variable {X:Cx}{a9:Pn9}{σ:St}{H:Hp}{s:Shared}{a:Addr}{xs ys:List V}
def D7.of {K:Fg9}(h:H a=some (.lst xs)):D7 K H a xs:=.inl (.inl h)
def E1.of {K:Fg9}(h:H a=some (.tup xs)):E1 K H a xs:=.inl (.inl h)
def A0.list (I:A0 X a9 σ H s)(h:D7 X.K H a xs):∃aP:List Value,C0 xs aP/\PlainL s.heap a aP.toArray/\xs.length<=sizeLine:=by
 rcases h with h | ⟨o,aP,n,hk,hc,hd,hs,hz,r⟩
 ·obtain⟨z,aP,n,r,e⟩:=h.ok I.hok;exact⟨aP,r,⟨_,n,e,rfl,rfl,rfl⟩,z⟩
 ·refine⟨aP.toList,r,⟨o,n,I.kIn a o hk,hc,hd,by simpa using hs⟩,?_⟩;have e:=r.length;simp only [bz]at e;omega
def A0.tuple (I:A0 X a9 σ H s)(h:E1 X.K H a xs):∃aP:List Value,C0 xs aP/\IsTup s.heap a aP.toArray/\xs.length<=sizeLine:=by
 rcases h with h | ⟨o,aP,n,hk,hc,hs,hz,r⟩
 ·obtain⟨z,aP,r,p⟩:=h.ok I.hok;exact⟨aP,r,p,z⟩
 ·refine⟨aP.toList,r,⟨o,I.kIn a o hk,hc,n,by simpa using hs⟩,?_⟩;have e:=r.length;simp only [bz]at e;omega
def A0.list_inj (I:A0 X a9 σ H s)(h:D7 X.K H a xs)(h':D7 X.K H a ys):xs=ys:=by
 obtain⟨aP,r,⟨o,n,e,_,_,d⟩,_⟩:=I.list h;obtain⟨its',r',⟨o',n',e',_,_,d'⟩,_⟩:=I.list h';rw [e]at e';cases e';rw [d]at d';injection d' with d1 _
 have:aP=its':=by simpa using congrArg Array.toList d1
 subst this;exact r.inj r'
def A0.tuple_inj (I:A0 X a9 σ H s)(h:E1 X.K H a xs)(h':E1 X.K H a ys):xs=ys:=by
 obtain⟨aP,r,⟨o,e,_,n,d⟩,_⟩:=I.tuple h;obtain⟨its',r',⟨o',e',_,n',d'⟩,_⟩:=I.tuple h';rw [e]at e';cases e';rw [d]at d';injection d' with d1 _
 have:aP=its':=by simpa using congrArg Array.toList d1
 subst this;exact r.inj r'
end
abbrev Cx.wish (X:Cx)(E:VS9):Cx:={ X with xe:=E }
abbrev Cx.nox (X:Cx):Cx:=X.wish fun _ _=>False
def Cx.Ok.wish {X:Cx}(ok:X.Ok)(E:VS9):(X.wish E).Ok :=
 ⟨ok.mod,ok.kind,ok.glob,ok.blt,ok.above,ok.inj,ok.has,ok.cab,ok.hd,ok.frames,ok.stk,ok.exf,ok.bs,ok.bsz,ok.noex,ok.exfs,ok.funs,ok.frf⟩
def Cx.Ok.unwish {X:Cx}{E:VS9}(ok:(X.wish E).Ok):X.Ok :=
 ⟨ok.mod,ok.kind,ok.glob,ok.blt,ok.above,ok.inj,ok.has,ok.cab,ok.hd,ok.frames,ok.stk,ok.exf,ok.bs,ok.bsz,ok.noex,ok.exfs,ok.funs,ok.frf⟩
section
variable {X:Cx}{a9:Pn9}{σ:St}{H:Hp}{s:Shared}{E:VS9}
def A0.wish (I:A0 X a9 σ H s)(E:VS9):A0 (X.wish E) a9 σ H s:=⟨I.ok.wish E,I.os,I.bare,I.base,I.loc,I.cell,I.free,I.freeC,I.pin,I.hok,I.len⟩
def A0.unwish (I:A0 (X.wish E) a9 σ H s):A0 X a9 σ H s:=⟨I.ok.unwish,I.os,I.bare,I.base,I.loc,I.cell,I.free,I.freeC,I.pin,I.hok,I.len⟩
theorem SP.unwish {D:S6}{f:Flow}{s':Shared}(h:SP (X.wish E) a9 D f s'):SP X a9 D f s':=by
 cases f with
 | next=>obtain⟨σ',H',I,q⟩:=h;exact⟨σ',H',I.unwish,q⟩
 | brk=>obtain⟨σ',H',I,q⟩:=h;exact⟨σ',H',I.unwish,q⟩
 | cont=>obtain⟨σ',H',I,q⟩:=h;exact⟨σ',H',I.unwish,q⟩
 | ret u=>obtain⟨v,σ',H',I,r,q⟩:=h;exact⟨v,σ',H',I.unwish,r,q⟩
def Q3.nox {st:List Stmt}{t:TS}(h:Q3 X.nox st t):Q3 X st t:=fun a9 s σ H D I hw =>
 aL (h a9 s σ H D (I.wish _) hw) (fun _ _ q=>q.unwish) fun _ _ z=>False.elim z
end
section
variable {X:Cx}{st:Stmt}{rest:List Stmt}{t u:TS}{e:Expr}{te:TE}{pos:Pos}
def V2i:TS:=fun D σ H=>D.nx σ H
def tSeq (t u:TS):TS:=fun D σ H=>t { D with nx:=u D } σ H
def W8a:Q3 X [] V2i:=fun _ _ σ H _ I h=>wpAny_execs_nil ⟨σ,H,I,h⟩
theorem W7z (h1:PS X st t)(h2:Q3 X rest u):Q3 X (st::rest) (tSeq t u):=by
 intro a9 s σ H D I h;refine wpAny_execs_cons (B4 (h1 a9 s σ H { D with nx:=u D } I h) fun f s1 q=>?_);cases f with
 | next =>
  obtain⟨σ',H',I',q⟩:=q;exact h2 a9 s1 σ' H' D I' q
 | ret v=>exact q
 | brk=>exact q
 | cont=>exact q
theorem W8b (h1:PS X st t):Q3 X [st] t:=by
 intro a9 s σ H D I h;refine wpAny_execs_cons (B4 (h1 a9 s σ H D I h) fun f s1 q=>?_);cases f with
 | next=>exact wpAny_execs_nil q
 | ret v=>exact q
 | brk=>exact q
 | cont=>exact q
def A0.quiet {a9:Pn9}{σ:St}{H:Hp}{s:Shared}(I:A0 X a9 σ H s):interactive X.env=false:=by simp [interactive,I.ok.kind]
def V2g (te:TE):TS:=fun D σ H=>te σ H fun _ H1=>D.nx σ H1
def Y3p (he:PE X e te)(hs:swapsWith e none pos.line X.env=pure false:=by rfl):PS X (.Expr e pos) (V2g te):=by
 intro a9 s σ H D I h;exact wpAny_Expr_any (B4 (he a9 s σ H _ I h) fun v s1 ⟨x,H1,I1,r1,q1⟩=>⟨σ,H1,I1,q1⟩) I.quiet hs
def tRet (te:TE):TS:=fun D σ H=>te σ H D.rt
def Y3r (he:PE X e te):PS X (.Return (some e) pos) (tRet te):=by
 intro a9 s σ H D I h;exact wpAny_Return_some (B4 (he a9 s σ H _ I h) fun v s1 ⟨x,H1,I1,r1,q1⟩=>⟨x,σ,H1,I1,r1,q1⟩)
def tIfS (c:TT)(t u:TS):TS:=fun D σ H=>c σ H fun b H1=>if b=true then t D σ H1 else u D σ H1
theorem W7w {c:Expr}{a b:List Stmt}{tc:TT}(hc:PT X c tc)(ha:Q3 X a t)(hb:Q3 X b u):PS X (.If c a b pos) (tIfS tc t u):=by
 intro a9 s σ H D I h;refine wpAny_If (B4 (hc a9 s σ H _ I h) fun d s1 bu=>?_);obtain⟨H1,I1,q1⟩:=bu;cases d with
 | true=>exact ha a9 s1 σ H1 D I1 q1
 | false=>exact hb a9 s1 σ H1 D I1 q1
def V2h:TS:=fun _ _ _=>False
def V4g {jx:List Stmt}:Q3 X jx V2h:=fun _ _ _ _ _ _ h=>h.elim
end
abbrev TG:=V->St->Hp->(St->Hp->Prop)->Prop
abbrev TGs:=List V->St->Hp->(St->Hp->Prop)->Prop
def PG (X:Cx)(target:Expr)(t:TG):Prop :=
 ∀(a9:Pn9) (s:Shared) (σ:St) (H:Hp) (v:V) (u:Value) (Q:St->Hp->Prop),A0 X a9 σ H s->C1 v u->t v σ H Q ->
  wpAny (model X.prog X.w) X.A (assign target X.env u) (fun _ s'=>∃ σ' H',A0 X a9 σ' H' s'/\Q σ' H') X.xe s
def PGs (X:Cx)(ts:List Expr)(t:TGs):Prop :=
 ∀(a9:Pn9) (s:Shared) (σ:St) (H:Hp) (vs:List V) (us:List Value) (Q:St->Hp->Prop),A0 X a9 σ H s->C0 vs us->t vs σ H Q ->
  wpAny (model X.prog X.w) X.A (assignInOrder ((assignEach ts X.env).map (·.2)) us) (fun _ s'=>∃ σ' H',A0 X a9 σ' H' s'/\Q σ' H') X.xe s
abbrev Q6j:=V->V->V->Hp->(Hp->Prop)->Prop
def Z1p (X:Cx)(t:Q6j):Prop :=
 ∀(a9:Pn9) (s:Shared) (σ:St) (H:Hp) (o i v:V) (ov iv u:Value) (Q:Hp->Prop),A0 X a9 σ H s->C1 o ov->C1 i iv->C1 v u->t o i v H Q ->
  wpAny (model X.prog X.w) X.A (setItem ov iv u) (fun _ s'=>∃H',A0 X a9 σ H' s'/\Q H') X.xe s
abbrev TIp:=V->V->Hp->VK->Prop
def PIp (X:Cx)(op:Operator)(t:TIp):Prop :=
 ∀(a9:Pn9) (s:Shared) (σ:St) (H:Hp) (x y:V) (v u:Value) (Q:VK),A0 X a9 σ H s->C1 x v->C1 y u->t x y H Q ->
  wpAny (model X.prog X.w) X.A (inplaceOp op v u) (EP X a9 σ Q) X.xe s
section
variable {X:Cx}{pos:Pos}
def Y1f (i:Nat):TG:=fun v σ H Q=>Q (σ.set i (some v)) H
def W7g {i:Nat}{x:Str}(hN:X.N.Nodup)(hi:X.N[i]?=some x)(hx:Loc X.env.scope x)(hf:X.fn x=true\/X.env.scope.names.lookup x=some .local:=by first | exact .inl rfl | exact .inr rfl | assumption):PG X (.Name x pos) (Y1f i):=by
 intro a9 s σ H v u Q I r h;exact wpAny_assign_Name (Z5x I hN hi hx r (fun s' I'=>⟨_,H,I',h⟩) hf)
def gNil:TGs:=fun vs σ H Q=>vs=[]/\Q σ H
def W1i (t:TG)(u:TGs):TGs:=fun vs σ H Q=>∃v r,vs=v::r/\t v σ H fun σ' H'=>u r σ' H' Q
def W7k:PGs X [] gNil:=by
 intro a9 s σ H vs us Q I r h;obtain⟨e,h⟩:=h;subst e;cases r;exact assignInOrder_nil ⟨σ,H,I,h⟩
theorem W7j {e:Expr}{es:List Expr}{t:TG}{u:TGs}(h1:PG X e t)(h2:PGs X es u)
  (hs:(assignEach (e::es) X.env).map (·.2)=assign e X.env::(assignEach es X.env).map (·.2):=by rfl):PGs X (e::es) (W1i t u):=by
 intro a9 s σ H vs us Q I r h;obtain⟨v,vr,e1,h⟩:=h;subst e1;cases r with
 | cons r rr =>
  rw [hs];refine assignInOrder_cons (B4 (h1 a9 s σ H _ _ _ I r h) fun _ s1 bu=>?_);obtain⟨σ1,H1,I1,q1⟩:=bu;exact h2 a9 s1 σ1 H1 _ _ Q I1 rr q1
def gTup (K:Fg9)(n:Nat)(t:TGs):TG:=fun v σ H Q=>∃a xs,v=.ref a/\E1 K H a xs/\xs.length=n/\t xs σ H Q
def W7i {es:List Expr}{k:Nat}{t:TGs}{n:Nat}(hc:X.calm=true)(h:PGs X es t)
  (hn:(assignEach es X.env).length=n:=by rfl) (dH:(assignEach es X.env).findIdx? (·.1)=none:=by rfl):PG X (.Tuple es k pos) (gTup X.K n t):=by
 intro a9 s σ H v u Q I r hw;obtain⟨a,xs,e1,hq,hl,hw⟩:=hw;subst e1;cases r;obtain⟨aP,rv,ht,hz⟩:=I.tuple hq;refine assign_Tuple_tuple (I.ok.hd hc) ht (by simp [hn,<- hl,rv.length]) dH fun h' hx=>?_;have I1:A0 X a9 σ H { s with heap:=h' }:=I.kept (t':=s.toks) fun b o e=>hx b o (ay (ax e)) e;exact h a9 _ σ H xs _ Q I1 (by simpa using rv) hw
def gSub (to ti:TE)(t:Q6j):TG:=fun v σ H Q=>to σ H fun o H1=>ti σ H1 fun i H2=>t o i v H2 fun H3=>Q σ H3
def W7h {o i:Expr}{to ti:TE}{t:Q6j}(ho:PE X o to)(hi:PE X i ti)(hs:Z1p X t)
  (ha:∀v,assign (.Subscript o i pos) X.env v=(do
   let ov <- holding [v] (eval o X.env);let iv <- holding [v,ov] (eval i X.env)
   standAt pos
   holding [v,ov,iv] (setItem ov iv v)
   release [v,ov,iv] []):=by intro _;rfl):PG X (.Subscript o i pos) (gSub to ti t):=by
 intro a9 s σ H v u Q I r h;rw [ha];refine a8 (bG (B4 (ho a9 s σ H _ I h) fun ov s1 bu=>?_));obtain⟨x,H1,I1,r1,q1⟩:=bu;refine a8 (bG (B4 (hi a9 s1 σ H1 _ I1 q1) fun iv s2 bu=>?_));obtain⟨y,H2,I2,r2,q2⟩:=bu;refine a8 (g7 (a8 (bG (B4 (hs a9 s2 σ H2 x y v ov iv u _ I2 r1 r2 r q2) fun _ s3 bu=>?_))));obtain⟨H3,I3,q3⟩:=bu;exact wpAny_release ⟨σ,H3,I3,q3⟩
def tAsg (te:TE)(g:TG):TS:=fun D σ H=>te σ H fun x H1=>g x σ H1 D.nx
def Z4s {tg e:Expr}{te:TE}{g:TG}(he:PE X e te)(hg:PG X tg g)(hs:swapsWithSole [tg] e pos.line X.env=pure false:=by rfl)(hw:swappedStores [tg] e X.env=pure none:=by rfl)
  (h1:(assignEach [tg] X.env).map (·.2)=[assign tg X.env]:=by rfl):PS X (.Assign [tg] e pos) (tAsg te g):=by
 intro a9 s σ H D I h;refine wpAny_Assign_stores (B4 (he a9 s σ H _ I h) fun v s1 bu=>?_) hs hw;obtain⟨x,H1,I1,r1,q1⟩:=bu;rw [h1];exact B4 (hg a9 s1 σ H1 x v _ I1 r1 q1) fun _ s2 q=>q
def Z4t {i:Nat}{x:Str}{e:Expr}{te:TE}{bC:Pos}(hN:X.N.Nodup)(hi:X.N[i]?=some x)(hx:Loc X.env.scope x)(he:PE X e te)(hs:swapsWith e (some (.Name x bC)) pos.line X.env=pure false:=by rfl)(hf:X.fn x=true\/X.env.scope.names.lookup x=some .local:=by first | exact .inl rfl | exact .inr rfl | assumption) :
  PS X (.Assign [.Name x bC] e pos) (tAsg te (Y1f i)):=by
 intro a9 s σ H D I h;refine wpAny_Assign_Name (B4 (he a9 s σ H _ I h) fun v s1 bu=>?_) hs;obtain⟨y,H1,I1,r1,q1⟩:=bu;exact Z5x I1 hN hi hx r1 (fun s2 I2=>⟨_,H1,I2,q1⟩) hf
def tAug (i:Nat)(te:TE)(ti:TIp):TS:=fun D σ H=>∃x,σ[i]?=some (some x)/\te σ H fun y H1=>ti x y H1 fun z H2=>D.nx (σ.set i (some z)) H2
def W7s {i:Nat}{x:Str}{e:Expr}{te:TE}{op:Operator}{ti:TIp}{bC:Pos}(hN:X.N.Nodup)(hi:X.N[i]?=some x)(hx:Loc X.env.scope x)(he:PE X e te)(ho:PIp X op ti)(hf:X.fn x=true\/X.env.scope.names.lookup x=some .local:=by first | exact .inl rfl | exact .inr rfl | assumption) :
  PS X (.AugAssign (.Name x bC) op e pos) (tAug i te ti):=by
 intro a9 s σ H D I h;obtain⟨v,e1,h⟩:=h;obtain⟨m,hn,hl⟩:=I.loc;have pq:Vis X.env.scope x:=by rcases hx with k | k;exact .inl k;exact .inr (.inl k)
 obtain⟨u,r,l⟩:=hl i x v hi e1 pq;refine wpAny_AugAssign_Name ?_;have go:wpAny (model X.prog X.w) X.A (eval e X.env) (fun w s₂=>wpAny (model X.prog X.w) X.A (inplaceOp op u w) (fun r s₃=>wpAny (model X.prog X.w) X.A (storeName X.env x r) (fun _=>SP X a9 D .next) X.xe s₃) X.xe s₂) X.xe s:=by
  refine B4 (he a9 s σ H _ I h) fun w s1 bu=>?_;obtain⟨y,H1,I1,r1,q1⟩:=bu;refine B4 (ho a9 s1 σ H1 v y u w _ I1 r r1 q1) fun z s2 bu=>?_;obtain⟨zv,H2,I2,r2,q2⟩:=bu;exact Z5x I2 hN hi hx r2 (fun s3 I3=>⟨_,H2,I3,q2⟩) hf
 rcases l with⟨hk,hm⟩ | ⟨hk,c,hc,db⟩
 ·exact wpAny_loadName_local I.ok.kind hk hn hm go
 ·rcases hk with hk | hk
  ·exact wpAny_loadName_cell I.ok.kind hk hc db go
  ·rcases hx with k | k
   ·have:X.env.scope.names.lookup x=some .free:=hk;rw [k]at this;cases this
   ·have:X.env.scope.names.lookup x=some .free:=hk;rw [k]at this;cases this
def V2a (to ti te:TE)(h8:V->V->Hp->VK->Prop)(kW:TIp)(gY:Q6j):TS:=fun D σ H=>to σ H fun o H1=>ti σ H1 fun i H2=>h8 o i H2 fun x H3=>te σ H3 fun y H4=>kW x y H4 fun z H5=>gY o i z H5 fun H6=>D.nx σ H6
def PGet (X:Cx)(t:V->V->Hp->VK->Prop):Prop :=
 ∀(a9:Pn9) (s:Shared) (σ:St) (H:Hp) (o i:V) (ov iv:Value) (Q:VK),A0 X a9 σ H s->C1 o ov->C1 i iv->t o i H Q ->
  wpAny (model X.prog X.w) X.A (getItem ov iv) (EP X a9 σ Q) X.xe s
def W7t {o i e:Expr}{to ti te:TE}{h8:V->V->Hp->VK->Prop}{kW:TIp}{gY:Q6j}{op:Operator}{lD:Pos}(ho:PE X o to)(hi:PE X i ti)(hg:PGet X h8)(he:PE X e te)(hp:PIp X op kW)(hs:Z1p X gY)
  (ha:∀ov iv new,augStore i ov iv new=(do holding [new,ov,iv] (setItem ov iv new);release [new,ov,iv] [];pure .next):=by intros;rfl):PS X (.AugAssign (.Subscript o i lD) op e pos) (V2a to ti te h8 kW gY):=by
 intro a9 s σ H D I h;refine wpAny_AugAssign_SubscriptAny (B4 (ho a9 s σ H _ I h) fun ov s1 bu=>?_) ha;obtain⟨x1,H1,I1,r1,q1⟩:=bu;refine B4 (hi a9 s1 σ H1 _ I1 q1) fun iv s2 bu=>?_;obtain⟨x2,H2,I2,r2,q2⟩:=bu;refine B4 (hg a9 s2 σ H2 x1 x2 ov iv _ I2 r1 r2 q2) fun old s3 bu=>?_;obtain⟨x3,H3,I3,r3,q3⟩:=bu;refine B4 (he a9 s3 σ H3 _ I3 q3) fun v s4 bu=>?_;obtain⟨x4,H4,I4,r4,q4⟩:=bu;refine B4 (hp a9 s4 σ H4 x3 x4 old v _ I4 r3 r4 q4) fun new s5 bu=>?_;obtain⟨x5,H5,I5,r5,q5⟩:=bu;exact B4 (hs a9 s5 σ H5 x1 x2 x5 ov iv new _ I5 r1 r2 r5 q5) fun _ s6 ⟨H6,I6,q6⟩=>⟨σ,H6,I6,q6⟩
def ipI (f:Int->Int->Int):TIp:=fun x y H Q=>∃i j,x=.int i/\y=.int j/\Q (.int (f i j)) H
def W2m:PIp X .Add (ipI fun i j=>i+j):=by
 intro a9 s σ H x y v u Q I r1 r2 h;obtain⟨i,j,e1,e2,q⟩:=h;subst e1;subst e2;obtain⟨t,rfl⟩:=r1;obtain⟨t',rfl⟩:=r2;exact iadd_int ⟨.int _,H,I.tok _,⟨_,rfl⟩,q⟩
def W2n:PIp X .Sub (ipI fun i j=>i-j):=by
 intro a9 s σ H x y v u Q I r1 r2 h;obtain⟨i,j,e1,e2,q⟩:=h;subst e1;subst e2;obtain⟨t,rfl⟩:=r1;obtain⟨t',rfl⟩:=r2;exact isub_int ⟨.int _,H,I.tok _,⟨_,rfl⟩,q⟩
end
section
variable {X:Cx}{pos:Pos}
def V2m (c:TT)(tb:TS):TS:=fun D σ H=>∃W:Nat->St->Hp->Prop,(∃m,W m σ H)/\∀m σ H,W m σ H ->
 c σ H fun b H1=>if b=true then ∃N:St->Hp->Prop,(∀ σ' H',N σ' H'->∃m',m'<m/\W m' σ' H')/\tb { D with nx:=N,ct:=N,bk:=D.nx } σ H1 else D.nx σ H1
theorem W7y {c:Expr}{body:List Stmt}{tc:TT}{tb:TS}(hp:PassesOwn (model X.prog X.w) X.A X.env X.xe)(hc:PT X c tc)(hb:Q3 X body tb):PS X (.While c body [] pos) (V2m tc tb):=by
 intro a9 s σ H D I h;obtain⟨W,⟨m0,w0⟩,turn⟩:=h;refine wpAny_While (codeAny_whileLoop (fun n s'=>∃ σ' H',A0 X a9 σ' H' s'/\W n σ' H') ?_ m0 ⟨σ,H,I,w0⟩);rintro n s1 ⟨σ1,H1,I1,w1⟩;refine dR hp (B4 (hc a9 s1 σ1 H1 _ I1 (turn n σ1 H1 w1)) fun b s2 bu=>?_);obtain⟨H2,I2,q2⟩:=bu;cases b with
 | true =>
  obtain⟨N,hN,q2⟩:=q2;rw [aG rfl];refine dR hp (B4 (hb a9 s2 σ1 H2 _ I2 q2) fun f s3 q3=>?_);cases f with
  | next =>
   obtain⟨σ3,H3,I3,n3⟩:=q3;obtain⟨m',hm,w3⟩:=hN σ3 H3 n3;exact⟨m',hm,σ3,H3,I3,w3⟩
  | cont =>
   obtain⟨σ3,H3,I3,n3⟩:=q3;obtain⟨m',hm,w3⟩:=hN σ3 H3 n3;exact⟨m',hm,σ3,H3,I3,w3⟩
  | brk=>exact q3
  | ret v=>exact q3
 | false =>
  rw [az aO];exact wpAny_execs_nil ⟨σ1,H2,I2,q2⟩
end
structure It where
 go:Nat->Hp->Prop
 yld:Nat->Hp->V->Hp->Prop
 stop:Nat->Hp->Prop
def P4 (X:Cx)(a9:Pn9)(H:Hp)(b:Addr):Prop :=
 H b=none/\b≠X.env.locals/\b∉X.fs/\(b∈X.ex\/X.s₀.heap.objs.size<=b)/\(∀x c,X.env.cells.lookup x=some c->c≠b)/\∀p∈X.pn++a9,p.1≠b
def A0.fpOk {X:Cx}{a9:Pn9}{σ:St}{H H':Hp}{s:Shared}{b:Addr}(I:A0 X a9 σ H s)(hb:s.heap.objs.size<=b)(hn:H' b=none):P4 X a9 H' b:=by
 refine⟨hn,Nat.ne_of_gt (au I.lt hb),I.nofs hb,.inr (aS I.sz hb),fun x c e z=>?_,fun p hp z=>?_⟩
 ·obtain⟨v,q⟩:=I.cell x c e;exact absurd (au q.lt (by rw [z];exact hb)) (aV _)
 ·exact absurd (au (ax (I.pin p hp).1) (by rw [z];exact hb)) (aV _)
structure Q0o (P:Program)(w:World)(K:Fg9)(tg:Expr)(J:It)(fp:List Addr)(it:Addr)(tn:Nat->Heap->Prop):Prop where
 mem:it∈fp
 obj:∀i h,tn i h->∀b∈fp,∃o,h.get? b=some o/\∀v,o.data≠.cell v
 keep:∀i h h',tn i h->(∀b∈fp,∀o,h.get? b=some o->h'.get? b=some o)->tn i h'
 item:∀(X:Cx),X.prog=P->X.w=w->X.K=K->X.calm=true->∀(i:Nat) (a9:Pn9) (s:Shared) (σ:St) (H:Hp) (E:VS9),A0 X a9 σ H s->(∀b∈fp,P4 X a9 H b)->tn i s.heap->J.go i H ->
  wpAny (model P w) X.A (pyNext (.ref it)) (fun r s1=>∃u,r=some u /\
   wpAny (model P w) X.A (letOwnedTupleGo tg (.ref it) u) (fun _ s2=>∃x H',A0 X a9 σ H' s2/\C1 x u/\J.yld i H x H'/\tn (i+1) s2.heap/\∀b∈fp,H' b=none) E s1) E s
 done:∀(X:Cx),X.prog=P->X.w=w->X.K=K->X.calm=true->∀(i:Nat) (a9:Pn9) (s:Shared) (σ:St) (H:Hp) (E:VS9),A0 X a9 σ H s->(∀b∈fp,P4 X a9 H b)->tn i s.heap->J.stop i H ->
  wpAny (model P w) X.A (pyNext (.ref it)) (fun r s1=>r=none/\A0 X a9 σ H s1) E s
 self:∀(A:Around) (i:Nat) (s:Shared) (Q:VS9) (E:VS9),tn i s.heap->Q (.ref it) s->wpAny (model P w) A (pyIter (.ref it)) Q E s
abbrev TI:=St->Hp->(It->Hp->Prop)->Prop
def PIE (X:Cx)(a9:Pn9)(σ:St)(tg:Expr)(R:It->Hp->Prop)(jA:Value)(s2:Shared):Prop :=
 ∃(it:Addr) (fp:List Addr) (tn:Nat->Heap->Prop) (J:It) (H':Hp),jA=.ref it/\A0 X a9 σ H' s2/\Q0o X.prog X.w X.K tg J fp it tn/\tn 0 s2.heap/\(∀b∈fp,P4 X a9 H' b)/\R J H'
def PI (X:Cx)(tg iter:Expr)(wi:TI):Prop :=
 ∀(a9:Pn9) (s:Shared) (σ:St) (H:Hp) (R:It->Hp->Prop),A0 X a9 σ H s->wi σ H R ->
  wpAny (model X.prog X.w) X.A (eval iter X.env) (fun v s1=>wpAny (model X.prog X.w) X.A (pyIter v) (PIE X a9 σ tg R) X.xe s1) X.xe s
def Q4u {M:Model}{A:Around}{E:VS9}{s:Shared}{tg:Expr}{it:Addr}{u:Value}{o:Obj}{n:String}{vs:Array Value}{Q:Unit->Shared->Prop}(ho:s.heap.get? it=some o)(hc:o.cls=.type n)(hd:o.data=.fields vs)
  (hn:["enumerate","zip","dict_itemiterator","dict_reverseitemiterator","odict_iterator","itertools.zip_longest","itertools.pairwise"].contains n=false) (hQ:Q () s):wpAny M A (letOwnedTupleGo tg (.ref it) u) Q E s:=by
 unfold letOwnedTupleGo;cases tg <;> first
  | exact ao hQ
  | (cases u <;> first
    | exact ao hQ
    | (refine a8 (wpAny_load ho ?_)
       rw [hc,hd];show wpAny M A (if (["enumerate","zip","dict_itemiterator","dict_reverseitemiterator","odict_iterator","itertools.zip_longest","itertools.pairwise"].contains n&&vs[0]?==some (rawInt _))=true then _ else _) Q E s;rw [az (by intro h;rw [hn,Bool.false_and]at h;cases h)];exact ao hQ))
def Itl (K:Fg9)(a:Addr):It :=
 ⟨fun i H=>∃xs x,D7 K H a xs/\xs[i]?=some x,fun i H x H'=>H'=H/\∀xs,D7 K H a xs->xs[i]?=some x,fun i H=>∃xs,D7 K H a xs/\xs.length<=i⟩
def Itt (K:Fg9)(a:Addr):It :=
 ⟨fun i H=>∃xs x,E1 K H a xs/\xs[i]?=some x,fun i H x H'=>H'=H/\∀xs,E1 K H a xs->xs[i]?=some x,fun i H=>∃xs,E1 K H a xs/\xs.length<=i⟩
def Itr (lo:Int)(n:Nat):It:=⟨fun i _=>i<n,fun i H x H'=>H'=H/\x=.int (lo+i),fun i _=>n<=i⟩
def V2w {P:Program}{w:World}{K:Fg9}{tg:Expr}(a it:Addr):Q0o P w K tg (Itl K a) [it] it (fun i h=>h.IsListIter it a i) where
 mem:=by simp
 obj:=fun i h st b hb=>by
  have e:b=it:=by simpa using hb
  subst e;obtain⟨o,e,c,d⟩:=st;exact⟨o,e,fun v z=>by rw [d]at z;cases z⟩
 keep:=fun i h h' st k=>st.at fun o e=>k it (by simp) o e
 item:=by
  intro X hP hw hK hc i a9 s σ H E I hf st hg;subst hP hw hK;obtain⟨xs,x,hq,hx⟩:=hg;obtain⟨aP,rv,p,hz⟩:=I.list hq;obtain⟨u,hu,ru⟩:=rv.get hx;obtain⟨f0,f1,f2,f3,f4,f5⟩:=hf it (by simp);refine wpAny_pyNext_list_item st p.isList (x:=u) (by simpa using hu) fun h' fE sb=>?_;have I1:A0 X a9 σ H { s with heap:=h' }:=I.turned (t':=s.toks) (fun b o hb e=>(sb.2 b hb).trans e) f0 f1 f3 f4 f5;obtain⟨o,e,c,d⟩:=id fE;exact⟨u,rfl,Q4u (s:={ s with heap:=h' }) e c d (by decide) ⟨x,H,I1,ru,⟨rfl,fun ys hy=>by rw [I.list_inj hy hq];exact hx⟩,fE,fun b hb=>(hf b hb).1⟩⟩
 done:=by
  intro X hP hw hK hc i a9 s σ H E I hf st hg;subst hP hw hK;obtain⟨xs,hq,hx⟩:=hg;obtain⟨aP,rv,p,hz⟩:=I.list hq;obtain⟨f0,f1,f2,f3,f4,f5⟩:=hf it (by simp);have hl:=rv.length;exact wpAny_pyNext_list_end (I.ok.hd hc) st p.isList (by simp;omega) fun h' eb=>⟨rfl,I.turned (t':=s.toks) (fun b o hb e=>eb b o hb e) f0 f1 f3 f4 f5⟩
 self:=fun _ _ _ _ _ st h=>wpAny_pyIter_listiter st h
def V3a {P:Program}{w:World}{K:Fg9}{tg:Expr}(a it:Addr):Q0o P w K tg (Itt K a) [it] it (fun i h=>h.IsTupleIter it a i) where
 mem:=by simp
 obj:=fun i h st b hb=>by
  have e:b=it:=by simpa using hb
  subst e;obtain⟨o,e,c,d⟩:=st;exact⟨o,e,fun v z=>by rw [d]at z;cases z⟩
 keep:=fun i h h' st k=>st.at fun o e=>k it (by simp) o e
 item:=by
  intro X hP hw hK hc i a9 s σ H E I hf st hg;subst hP hw hK;obtain⟨xs,x,hq,hx⟩:=hg;obtain⟨aP,rv,p,hz⟩:=I.tuple hq;obtain⟨u,hu,ru⟩:=rv.get hx;obtain⟨f0,f1,f2,f3,f4,f5⟩:=hf it (by simp);refine wpAny_pyNext_tuple_item st (show s.heap.IsTuple a aP.toArray from p) (x:=u) (by simpa using hu) fun h' fE sb=>?_;have I1:A0 X a9 σ H { s with heap:=h' }:=I.turned (t':=s.toks) (fun b o hb e=>(sb.2 b hb).trans e) f0 f1 f3 f4 f5;obtain⟨o,e,c,d⟩:=id fE;exact⟨u,rfl,Q4u (s:={ s with heap:=h' }) e c d (by decide) ⟨x,H,I1,ru,⟨rfl,fun ys hy=>by rw [I.tuple_inj hy hq];exact hx⟩,fE,fun b hb=>(hf b hb).1⟩⟩
 done:=by
  intro X hP hw hK hc i a9 s σ H E I hf st hg;subst hP hw hK;obtain⟨xs,hq,hx⟩:=hg;obtain⟨aP,rv,p,hz⟩:=I.tuple hq;obtain⟨f0,f1,f2,f3,f4,f5⟩:=hf it (by simp);have hl:=rv.length;exact wpAny_pyNext_tuple_end (I.ok.hd hc) st (show s.heap.IsTuple a aP.toArray from p) (by simp;omega) fun h' eb=>⟨rfl,I.turned (t':=s.toks) (fun b o hb e=>eb b o hb e) f0 f1 f3 f4 f5⟩
 self:=fun _ _ _ _ _ st h=>wpAny_pyIter_tupleiter st h
def V2x {P:Program}{w:World}{K:Fg9}{tg:Expr}(it:Addr)(lo:Int)(n:Nat):Q0o P w K tg (Itr lo n) [it] it (fun i h=>IsRangeIter h it (lo+(i:Nat)*1) ((n:Int)-(i:Nat)) 1) where
 mem:=by simp
 obj:=fun i h st b hb=>by
  have e:b=it:=by simpa using hb
  subst e;exact⟨_,st,fun v z=>by
   have z':Data.fields _=Data.cell v:=z;cases z'⟩
 keep:=fun i h h' st k=>k it (by simp) _ st
 item:=by
  intro X hP hw hK hc i a9 s σ H E I hf st hg;subst hP hw hK;obtain⟨f0,f1,f2,f3,f4,f5⟩:=hf it (by simp);have W:=Walks.range (prog:=X.prog) (w:=X.w) (I.ok.hd hc) it lo 1 n;refine W.item i s _ _ hg st fun v h' tk hv fE kk=>?_;obtain⟨t,rfl⟩:=hv;have I1:A0 X a9 σ H { s with heap:=h',toks:=tk }:=I.turned (fun b o hb e=>kk b o (by simpa using hb) e) f0 f1 f3 f4 f5;refine⟨_,rfl,Q4u (s:={ s with heap:=h',toks:=tk }) (n:="range_iterator") fE rfl rfl (by decide) ⟨.int (lo+i),H,I1,⟨t,?_⟩,⟨rfl,rfl⟩,fE,fun b hb=>(hf b hb).1⟩⟩;rw [Int.mul_one]
 done:=by
  intro X hP hw hK hc i a9 s σ H E I hf st hg;subst hP hw hK;obtain⟨f0,f1,f2,f3,f4,f5⟩:=hf it (by simp);exact wpAny_pyNext_range_end (I.ok.hd hc) st (by have:n<=i:=hg;omega) fun h' eb=>⟨rfl,I.turned (t':=s.toks) (fun b o hb e=>eb b o hb e) f0 f1 f3 f4 f5⟩
 self:=fun _ _ _ _ _ st h=>wpAny_pyIter_rangeiter st h
end L2
namespace L2
open PySem PySem.Spec PyProof.Rows
section
variable {X:Cx}{tg:Expr}
def W1v (K:Fg9)(tl:TE):TI:=fun σ H R=>tl σ H fun x H1=>∃a,x=.ref a/\(∃xs,D7 K H1 a xs)/\R (Itl K a) H1
def Q6x (K:Fg9)(tl:TE):TI:=fun σ H R=>tl σ H fun x H1=>∃a,x=.ref a/\(∃xs,E1 K H1 a xs)/\R (Itt K a) H1
def Z4r {l:Expr}{tl:TE}(hl:PE X l tl):PI X tg l (W1v X.K tl):=by
 intro a9 s σ H R I h;refine B4 (hl a9 s σ H _ I h) fun v s1 bu=>?_;obtain⟨x,H1,I1,r1,q1⟩:=bu;obtain⟨a,e,⟨xs,hq⟩,q⟩:=q1;subst e;cases r1;obtain⟨aP,rv,p,hz⟩:=I1.list hq;refine wpAny_pyIter_list p.isList ?_;refine⟨s1.heap.objs.size,[s1.heap.objs.size],_,_,H1,rfl,I1.kept (t':=s1.toks) fun b o e=>aj _ e,V2w a _,⟨_,aI _ rfl,rfl,rfl⟩,fun b hb=>?_,q⟩;have e:b=s1.heap.objs.size:=by simpa using hb
 subst e;exact I1.fpOk (aq _) (I1.hok.fresh (aq _))
def Y3m {l:Expr}{tl:TE}(hl:PE X l tl):PI X tg l (Q6x X.K tl):=by
 intro a9 s σ H R I h;refine B4 (hl a9 s σ H _ I h) fun v s1 bu=>?_;obtain⟨x,H1,I1,r1,q1⟩:=bu;obtain⟨a,e,⟨xs,hq⟩,q⟩:=q1;subst e;cases r1;obtain⟨aP,rv,p,hz⟩:=I1.tuple hq;refine wpAny_pyIter_tuple (show s1.heap.IsTuple a aP.toArray from p) ?_;refine⟨s1.heap.objs.size,[s1.heap.objs.size],_,_,H1,rfl,I1.kept (t':=s1.toks) fun b o e=>aj _ e,V3a a _,⟨_,aI _ rfl,rfl,rfl⟩,fun b hb=>?_,q⟩;have e:b=s1.heap.objs.size:=by simpa using hb
 subst e;exact I1.fpOk (aq _) (I1.hok.fresh (aq _))
def W8q {a9:Pn9}{σ:St}{H:Hp}{s:Shared}{R:It->Hp->Prop}{E:VS9}{lo hi:Int}{t u v:Tok}{tk:Nat}(I:A0 X a9 σ H s)(h1:-(2 ^ 62)<=lo)(h2:lo<2 ^ 62)(h3:-(2 ^ 62)<=hi)(h4:hi<2 ^ 62)
  (q:R (Itr lo (hi-lo).toNat) H):wpAny (model X.prog X.w) X.A (pyIter (.ref s.heap.objs.size)) (PIE X a9 σ tg R) E { s with heap:=s.heap.push { cls:=.type "range",data:=.fields #[.int lo t,.int hi u,.int 1 v] },toks:=tk }:=by
 refine wpAny_pyIter_range (IsRange.new ..) (small_one h1 h2 h3 h4) ?_;have I1:A0 X a9 σ H { s with heap:=s.heap.push { cls:=.type "range",data:=.fields #[.int lo t,.int hi u,.int 1 v] },toks:=tk }:=I.kept fun b o e=>aj _ e;refine⟨(s.heap.push { cls:=.type "range",data:=.fields #[.int lo t,.int hi u,.int 1 v] }).objs.size,[(s.heap.push { cls:=.type "range",data:=.fields #[.int lo t,.int hi u,.int 1 v] }).objs.size],_,_,H,rfl,
  I1.kept (t':=tk) fun b o e=>aj _ e,V2x _ lo (hi-lo).toNat,?_,fun b hb=>?_,q⟩
 ·have e1:lo+((0:Nat):Int)*1=lo:=by simp
  have e2:(((hi-lo).toNat:Nat):Int)-((0:Nat):Int)=Builtin.Range.rangeSize lo hi 1:=by rw [rangeSize_one];split <;> omega
  show IsRangeIter _ _ (lo+((0:Nat):Int)*1) ((((hi-lo).toNat:Nat):Int)-((0:Nat):Int)) 1;rw [e1,e2];exact aI _ rfl
 ·have e:b=(s.heap.push { cls:=.type "range",data:=.fields #[.int lo t,.int hi u,.int 1 v] }).objs.size:=by simpa using hb
  subst e;exact I1.fpOk (aq _) (I1.hok.fresh (aq _))
def Q1z (ta:TA):TI:=fun σ H R=>ta σ H fun vs H1=>∃j:Int,vs=[.int j]/\-(2 ^ 62)<=j/\j<2 ^ 62/\R (Itr 0 j.toNat) H1
theorem Y3l {a:Expr}{ta:TA}{p pos:Pos}(hg:Gl X "range")(hm:X.mg "range"=none)(ha:PA X [a] ta)(hs:starEach [a] X.env=[(false,eval a X.env)]:=by rfl):PI X tg (.Call (.Name "range" p) [a] [] pos) (Q1z ta):=by
 intro a9 s σ H R I h;refine Call_ (Y9 I hg hm boot_range (bg (B4 (ha pos a9 s σ H _ I h) fun us s1 bu=>?_) hs rfl));obtain⟨vs,H1,I1,r1,q1⟩:=bu;obtain⟨j,e,q1,q2,q⟩:=q1;subst e;cases r1 with
 | cons r rr =>
  cases rr;obtain⟨t,rfl⟩:=r;exact call_range_1 (W8q I1 (by omega) (by omega) q1 q2 (by simpa using q))
def tFor (wi:TI)(g:TG)(tb:TS):TS:=fun D σ H=>wi σ H fun J H1=>∃W:Nat->Nat->St->Hp->Prop,(∃m,W 0 m σ H1)/\∀i m σ H,W i m σ H ->
 (J.stop i H/\D.nx σ H)\/(J.go i H/\∃N:St->Hp->Prop,(∀ σ' H',N σ' H'->∃m',m'<m/\W (i+1) m' σ' H')/\∀x H',J.yld i H x H'->g x σ H' fun σ2 H2=>tb { D with nx:=N,ct:=N,bk:=D.nx } σ2 H2)
def W5 (fp:List Addr)(h:Heap):Pn9:=fp.filterMap fun b=>(h.get? b).map fun o=>(b,o)
def Q2z {fp:List Addr}{h:Heap}{b:Addr}{o:Obj}(hb:b∈fp)(e:h.get? b=some o):(b,o)∈W5 fp h:=List.mem_filterMap.mpr ⟨b,hb,by rw [e];rfl⟩
theorem Q9t {fp:List Addr}{h:Heap}{p:Addr×Obj}(hp:p∈W5 fp h):p.1∈fp/\h.get? p.1=some p.2:=by
 obtain⟨b,hb,e⟩:=List.mem_filterMap.mp hp;cases q:h.get? b with
 | none=>rw [q]at e;cases e
 | some o =>
  rw [q]at e;have e':(b,o)=p:=aA e;subst e';exact⟨hb,q⟩
def A0.pinned {a9:Pn9}{σ:St}{H:Hp}{s:Shared}{fp:List Addr}(I:A0 X a9 σ H s)(hf:∀b∈fp,P4 X a9 H b)(ho:∀b∈fp,∃o,s.heap.get? b=some o/\∀v,o.data≠.cell v):A0 X (a9++W5 fp s.heap) σ H s :=
 I.pins_of fun p hp=>(aR.mp hp).elim (fun z=>I.pin p (aC _ z)) fun z=>by
  obtain⟨hb,e⟩:=Q9t z;obtain⟨f0,f1,f2,_⟩:=hf p.1 hb;obtain⟨o,e',d⟩:=ho p.1 hb;rw [e]at e';cases e';exact⟨e,f0,f1,f2,d⟩
def A0.unpinned {a9 pl:Pn9}{σ:St}{H:Hp}{s:Shared}(I:A0 X (a9++pl) σ H s):A0 X a9 σ H s:=I.pins_of fun p hp=>I.pin p (aC _ (b9 _ hp))
def W7v {iter:Expr}{body:List Stmt}{wi:TI}{g:TG}{tb:TS}{pos:Pos}(hp:PassesOwn (model X.prog X.w) X.A X.env X.xe)(hc:X.calm=true)(hi:PI X tg iter wi)(hg:PG X tg g)(hb:Q3 X body tb)
  (hs:∀x,foldedSetIterable iter X.env x=pure x:=by intro _;rfl):PS X (.For tg iter body [] pos) (tFor wi g tb):=by
 intro a9 s σ H D I h;refine wpAny_For (B4 (hi a9 s σ H _ I h) fun v s1 h1=>B4 h1 fun jA s2 h2=>?_) hs;obtain⟨it,fp,tn,J,H2,e,I2,T,eG,f2,W,⟨m0,w0⟩,turn⟩:=h2;subst e;have iU:∀{H':Hp},(∀b∈fp,H' b=none)->∀b∈fp,P4 X a9 H' b:=fun hn b hb=>⟨hn b hb,(f2 b hb).2⟩
 refine codeAny_forLoop_any (fun n s'=>∃i σ' H',A0 X a9 σ' H' s'/\tn i s'.heap/\(∀b∈fp,H' b=none)/\W i n σ' H') ?_ m0 ⟨0,σ,H2,I2,eG,fun b hb=>(f2 b hb).1,w0⟩;rintro n s3 ⟨i,σ3,H3,I3,gt,gJ,w3⟩;rcases turn i n σ3 H3 w3 with⟨stop,qn⟩ | ⟨go,N,hN,step⟩
 ·refine dR hp (B4 (T.done X rfl rfl rfl hc i a9 s3 σ3 H3 X.xe I3 (iU gJ) gt stop) fun r s4 bu=>?_);obtain⟨hr,I4⟩:=bu;subst hr;exact wpAny_execs_nil ⟨σ3,H3,I4,qn⟩
 ·refine dR hp (B4 (T.item X rfl rfl rfl hc i a9 s3 σ3 H3 X.xe I3 (iU gJ) gt go) fun r s4 bu=>?_);obtain⟨u,hr,h4⟩:=bu;subst hr;refine dR hp (B4 h4 fun _ s5 bu=>?_);obtain⟨x,H5,I5,r5,y5,fq,ju⟩:=bu;have jw:=I5.pinned (iU ju) (T.obj _ _ fq);refine dR hp (B4 (hg _ s5 σ3 H5 x u _ jw r5 (step x H5 y5)) fun _ s6 bu=>?_);obtain⟨σ6,H6,I6,q6⟩:=bu;refine dR hp (B4 (hb _ s6 σ6 H6 _ I6 q6) fun f s7 q7=>?_);have again:∀{σ7:St}{H7:Hp},A0 X (a9++W5 fp s5.heap) σ7 H7 s7->N σ7 H7->∃m,m<n/\∃i σ' H',A0 X a9 σ' H' s7/\tn i s7.heap/\(∀b∈fp,H' b=none)/\W i m σ' H':=fun {σ7 H7} I7 n7=>by
   obtain⟨m',hm,w7⟩:=hN σ7 H7 n7;refine⟨m',hm,i+1,σ7,H7,I7.unpinned,T.keep _ _ _ fq fun b hb o e=>(I7.pin (b,o) (aC _ (aC _ (Q2z hb e)))).1,fun b hb=>?_,w7⟩;obtain⟨o,e,d⟩:=T.obj _ _ fq b hb;exact(I7.pin (b,o) (aC _ (aC _ (Q2z hb e)))).2.1
  cases f with
  | next=>obtain⟨σ7,H7,I7,n7⟩:=q7;exact again I7 n7
  | cont=>obtain⟨σ7,H7,I7,n7⟩:=q7;exact again I7 n7
  | brk=>obtain⟨σ7,H7,I7,q7⟩:=q7;exact⟨σ7,H7,I7.unpinned,q7⟩
  | ret v=>obtain⟨x7,σ7,H7,I7,r7,q7⟩:=q7;exact⟨x7,σ7,H7,I7.unpinned,r7,q7⟩
end
end L2
namespace L2
open PySem PySem.Spec PyProof.Rows
abbrev R2:=V->V->Hp->VK->Prop
def M4 (X:Cx)(f:Value->Value->Sem Value)(r:R2):Prop :=
 ∀(a9:Pn9) (s:Shared) (σ:St) (H:Hp) (x y:V) (v u:Value) (Q:VK),A0 X a9 σ H s->C1 x v->C1 y u->r x y H Q ->
  wpAny (model X.prog X.w) X.A (f v u) (EP X a9 σ Q) X.xe s
def UnR (X:Cx)(f:Value->Sem Value)(r:V->Hp->VK->Prop):Prop :=
 ∀(a9:Pn9) (s:Shared) (σ:St) (H:Hp) (x:V) (v:Value) (Q:VK),A0 X a9 σ H s->C1 x v->r x H Q ->
  wpAny (model X.prog X.w) X.A (f v) (EP X a9 σ Q) X.xe s
def Q2m (X:Cx)(f:Value)(r:List V->Hp->VK->Prop):Prop :=
 ∀(a9:Pn9) (s:Shared) (σ:St) (H:Hp) (xs:List V) (us:List Value) (Q:VK),A0 X a9 σ H s->C0 xs us->r xs H Q ->
  wpAny (model X.prog X.w) X.A (call f us) (EP X a9 σ Q) X.xe s
def TruR (X:Cx)(r:V->Hp->(Bool->Hp->Prop)->Prop):Prop :=
 ∀(a9:Pn9) (s:Shared) (σ:St) (H:Hp) (x:V) (v:Value) (Q:Bool->Hp->Prop),A0 X a9 σ H s->C1 x v->r x H Q ->
  wpAny (model X.prog X.w) X.A (truthy v) (TP X a9 σ Q) X.xe s
def tOp (r:R2)(ta tb:TE):TE:=fun σ H Q=>ta σ H fun x H1=>tb σ H1 fun y H2=>r x y H2 Q
def tUn (r:V->Hp->VK->Prop)(ta:TE):TE:=fun σ H Q=>ta σ H fun x H1=>r x H1 Q
def rI (C:Int->Int->Prop)(g:Int->Int->V):R2:=fun x y H Q=>∃i j,x=.int i/\y=.int j/\C i j/\Q (g i j) H
def rI0 (g:Int->Int->V):R2:=fun x y H Q=>∃i j,x=.int i/\y=.int j/\Q (g i j) H
def rU (g:Int->V):V->Hp->VK->Prop:=fun x H Q=>∃i,x=.int i/\Q (g i) H
section
variable {X:Cx}{a b:Expr}{ta tb:TE}{pos:Pos}
def Z2a (ha:PE X a ta)(hb:PE X b tb){a9:Pn9}{s:Shared}{σ:St}{H:Hp}{R:V->V->Hp->Prop}(I:A0 X a9 σ H s)
  (h:ta σ H fun x H1=>tb σ H1 fun y H2=>R x y H2) {Q:VS9}{f:Value->Value->Sem Value}
  (hf:∀v u s2 x y H2,A0 X a9 σ H2 s2->C1 x v->C1 y u->R x y H2->wpAny (model X.prog X.w) X.A (f v u) Q X.xe s2) :
  wpAny (model X.prog X.w) X.A (eval a X.env) (fun v s₁=>wpAny (model X.prog X.w) X.A (eval b X.env) (fun u s₂=>wpAny (model X.prog X.w) X.A (f v u) Q X.xe s₂) X.xe s₁) X.xe s:=by
 refine B4 (ha a9 s σ H _ I h) fun v s1 bu=>?_;obtain⟨x,H1,I1,r1,q1⟩:=bu;refine B4 (hb a9 s1 σ H1 _ I1 q1) fun u s2 bu=>?_;obtain⟨y,H2,I2,r2,q2⟩:=bu;exact hf v u s2 x y H2 I2 r1 r2 q2
def W7a {op:Operator}{r:R2}(ho:M4 X (binaryOp op) r)(ha:PE X a ta)(hb:PE X b tb):PE X (.BinOp a op b pos) (tOp r ta tb):=by
 intro a9 s σ H Q I h;exact wpAny_BinOp (Z2a ha hb I h fun v u s2 x y H2 I2 rx ry q=>ho a9 s2 σ H2 x y v u Q I2 rx ry q)
def W7e {op:UnaryOp}{r:V->Hp->VK->Prop}(ho:UnR X (unaryOp op) r)(ha:PE X a ta):PE X (.UnaryOp op a pos) (tUn r ta):=by
 intro a9 s σ H Q I h;exact UnaryOp_ (B4 (ha a9 s σ H _ I h) fun v s1 ⟨x,H1,I1,r1,q1⟩=>ho a9 s1 σ H1 x v Q I1 r1 q1)
def opI {f:Value->Value->Sem Value}{C:Int->Int->Prop}{g:Int->Int->Int}
  (rule:∀(i j:Int) (t u:Tok) (s:Shared) (Q:VS9) (E:VS9),C i j->Q (.int (g i j) s.toks) { s with toks:=s.toks+1 }->wpAny (model X.prog X.w) X.A (f (.int i t) (.int j u)) Q E s) :
  M4 X f (rI C fun i j=>.int (g i j)):=by
 intro a9 s σ H x y v u Q I rx ry h;obtain⟨i,j,rfl,rfl,hc,q⟩:=h;obtain⟨t,rfl⟩:=rx;obtain⟨t',rfl⟩:=ry;exact rule i j t t' s _ _ hc ⟨.int (g i j),H,I.tok _,⟨_,rfl⟩,q⟩
def Z4o {f:Value->Value->Sem Value}{g:Int->Int->Int}
  (rule:∀(i j:Int) (t u:Tok) (s:Shared) (Q:VS9) (E:VS9),Q (.int (g i j) s.toks) { s with toks:=s.toks+1 }->wpAny (model X.prog X.w) X.A (f (.int i t) (.int j u)) Q E s) :
  M4 X f (rI0 fun i j=>.int (g i j)):=by
 intro a9 s σ H x y v u Q I rx ry h;obtain⟨i,j,rfl,rfl,q⟩:=h;obtain⟨t,rfl⟩:=rx;obtain⟨t',rfl⟩:=ry;exact rule i j t t' s _ _ ⟨.int (g i j),H,I.tok _,⟨_,rfl⟩,q⟩
def Z4n {f:Value->Value->Sem Value}{g:Int->Int->Bool}
  (rule:∀(i j:Int) (t u:Tok) (s:Shared) (Q:VS9) (E:VS9),Q (.bool (g i j)) s->wpAny (model X.prog X.w) X.A (f (.int i t) (.int j u)) Q E s) :
  M4 X f (rI0 fun i j=>.bl (g i j)):=by
 intro a9 s σ H x y v u Q I rx ry h;obtain⟨i,j,rfl,rfl,q⟩:=h;obtain⟨t,rfl⟩:=rx;obtain⟨t',rfl⟩:=ry;exact rule i j t t' s _ _ ⟨.bl (g i j),H,I,rfl,q⟩
def Q0j (i j:Int):Prop:=0<j/\j<1073741824
def Q2l (i j:Int):Prop:=(-(2 ^ 64)<i/\i<2 ^ 64)\/(-(2 ^ 64)<j/\j<2 ^ 64)
def Q2l.ok {i j:Int}(h:Q2l i j):IntMulOk i j:=by
 rcases h with⟨h1,h2⟩ | ⟨h1,h2⟩
 ·exact .of_left (intBits_le_64 h1 h2)
 ·exact .of_right (intBits_le_64 h1 h2)
def W5v:M4 X (binaryOp .Add) (rI0 fun i j=>.int (i+j)):=Z4o fun _ _ _ _ _ _ _ q=>add_int q
def W6f:M4 X (binaryOp .Mult) (rI Q2l fun i j=>.int (i*j)):=opI fun _ _ _ _ _ _ _ hc q=>mul_int q hc.ok
def W5z:M4 X (binaryOp .FloorDiv) (rI Q0j fun i j=>.int (i / j)):=opI fun i j _ _ _ _ _ hc q=>by
 have h1:(0:Int)<j:=hc.1;have h2:j<1073741824:=hc.2;exact floordiv_int (by omega) (by rw [Int.fdiv_eq_ediv_of_nonneg i (by omega)];exact q) (.inl (PyProof.noPylong_small (by omega)))
def W6e:M4 X (binaryOp .Mod) (rI (fun _ j=>0<j) fun i j=>.int (i % j)):=opI fun i j _ _ _ _ _ hc q=>by
 have h1:(0:Int)<j:=hc;exact mod_int' (by omega) (by rw [Int.fmod_eq_emod_of_nonneg i (by omega)];exact q)
def W2k:M4 X (inplaceOp .Add) (rI0 fun i j=>.int (i+j)):=Z4o fun _ _ _ _ _ _ _ q=>iadd_int q
def W2l:M4 X (inplaceOp .Sub) (rI0 fun i j=>.int (i-j)):=Z4o fun _ _ _ _ _ _ _ q=>isub_int q
def unI {f:Value->Sem Value}{g:Int->Int}
  (rule:∀(i:Int) (t:Tok) (s:Shared) (Q:VS9) (E:VS9),Q (.int (g i) s.toks) { s with toks:=s.toks+1 }->wpAny (model X.prog X.w) X.A (f (.int i t)) Q E s) :
  UnR X f (rU fun i=>.int (g i)):=by
 intro a9 s σ H x v Q I rx h;obtain⟨i,rfl,q⟩:=h;obtain⟨t,rfl⟩:=rx;exact rule i t s _ _ ⟨.int (g i),H,I.tok _,⟨_,rfl⟩,q⟩
def V3d:UnR X (unaryOp .USub) (rU fun i=>.int (-i)):=unI fun _ _ _ _ _ q=>neg_int q
end
def scal:V->V->Bool
 | .non,.non=>true | .non,.int _=>true | .int _,.non=>true | .non,.bl _=>true | .bl _,.non=>true | .non,.str _=>true | .str _,.non=>true
 | .int _,.int _=>true | .bl _,.bl _=>true | .str _,.str _=>true | .byt _,.byt _=>true
 | .int _,.str _=>true | .str _,.int _=>true | .bl _,.str _=>true | .str _,.bl _=>true
 | _,_=>false
def rNe:R2:=fun x y H Q=>scal x y=true/\Q (.bl (!decide (x=y))) H
def Y0m {i j:Int}:decide (V.int i=V.int j)=(i==j):=by
 rw [Bool.eq_iff_iff];simp
def Y0l {i j:Bool}:decide (V.bl i=V.bl j)=(i==j):=by
 rw [Bool.eq_iff_iff];simp
def Y0n {i j:Str}:decide (V.str i=V.str j)=(i==j):=by
 rw [Bool.eq_iff_iff];simp
def W0f {i j:Array UInt8}:decide (V.byt i=V.byt j)=(i.toList==j.toList):=by
 rw [Bool.eq_iff_iff];cases i;cases j;simp
section
variable {X:Cx}{a b c:Expr}{ta tb:TE}{pos:Pos}
def T7 {a9:Pn9}{σ:St}{H:Hp}{s:Shared}{Q:VK}{k k':Bool}(I:A0 X a9 σ H s)(q:Q (.bl k) H)(e:k=k'):EP X a9 σ Q (.bool k') s:=by
 subst e;exact⟨.bl k,H,I,rfl,q⟩
theorem W6g:M4 X (compareOp .NotEq) rNe:=by
 intro a9 s σ H x y v u Q I rx ry h;obtain⟨hs,q⟩:=h;cases x with
 | non =>
  cases rx;cases y with
  | non=>cases ry;exact PySem.EqNone.ne_none_none (T7 I q (by simp))
  | bl j=>cases ry;exact PySem.EqNone.ne_none_bool (T7 I q (by simp))
  | int j=>obtain⟨t',rfl⟩:=ry;exact PySem.EqNone.ne_none_int (T7 I q (by simp))
  | str j=>obtain⟨t',rfl⟩:=ry;exact PySem.EqNone.ne_none_str (T7 I q (by simp))
  | _=>exact absurd (show false=true from hs) aO
 | bl i =>
  cases rx;cases y with
  | non=>cases ry;exact PySem.EqNone.ne_bool_none (T7 I q (by simp))
  | bl j=>cases ry;exact ne_bool (T7 I q (congrArg not Y0l))
  | str j=>obtain⟨t',rfl⟩:=ry;exact PySem.EqMixed.ne_bool_str (T7 I q (by simp))
  | _=>exact absurd (show false=true from hs) aO
 | int i =>
  obtain⟨t,rfl⟩:=rx;cases y with
  | non=>cases ry;exact PySem.EqNone.ne_int_none (T7 I q (by simp))
  | int j=>obtain⟨t',rfl⟩:=ry;exact ne_int (T7 I q (congrArg not Y0m))
  | str j=>obtain⟨t',rfl⟩:=ry;exact PySem.EqMixed.ne_int_str (T7 I q (by simp))
  | _=>exact absurd (show false=true from hs) aO
 | str i =>
  obtain⟨t,rfl⟩:=rx;cases y with
  | non=>cases ry;exact PySem.EqNone.ne_str_none (T7 I q (by simp))
  | bl j=>cases ry;exact PySem.EqMixed.ne_str_bool (T7 I q (by simp))
  | int j=>obtain⟨t',rfl⟩:=ry;exact PySem.EqMixed.ne_str_int (T7 I q (by simp))
  | str j=>obtain⟨t',rfl⟩:=ry;exact ne_str (T7 I q (congrArg not Y0n))
  | _=>exact absurd (show false=true from hs) aO
 | byt i =>
  obtain⟨t,rfl⟩:=rx;cases y with
  | byt j=>obtain⟨t',rfl⟩:=ry;exact PySem.W.ne_bytes (T7 I q (congrArg not W0f))
  | _=>exact absurd (show false=true from hs) aO
 | _=>cases y <;> exact absurd (show false=true from hs) aO
def W6d:M4 X (compareOp .Lt) (rI0 fun i j=>.bl (decide (i<j))):=Z4n fun _ _ _ _ _ _ _ q=>lt_int q
def W6b:M4 X (compareOp .Gt) (rI0 fun i j=>.bl (decide (j<i))):=Z4n fun _ _ _ _ _ _ _ q=>gt_int q
def W6a:M4 X (compareOp .GtE) (rI0 fun i j=>.bl (decide (j<=i))):=Z4n fun _ _ _ _ _ _ _ q=>ge_int q
def W6c:M4 X (compareOp .Is) (fun x y H Q=>y=.non/\Q (.bl (decide (x=.non))) H):=by
 intro a9 s σ H x y v u Q I rx ry h;obtain⟨rfl,q⟩:=h;cases ry;refine is_none_gen (T7 I q ?_);cases x <;> first
  | (cases rx;rfl)
  | (obtain⟨t,rfl⟩:=rx;rfl)
def W6h:M4 X (compareOp .IsNot) (fun x y H Q=>y=.non/\Q (.bl (!decide (x=.non))) H):=by
 intro a9 s σ H x y v u Q I rx ry h;obtain⟨rfl,q⟩:=h;cases ry;refine isnot_none_gen (T7 I q ?_);cases x <;> first
  | (cases rx;rfl)
  | (obtain⟨t,rfl⟩:=rx;rfl)
def O1 (b:Expr){op:CmpOp}(h:op≠.In:=by decide)(h2:op≠.NotIn:=by decide):behindInMarks op b=false:=by
 have e1:(op==CmpOp.In)=false:=by cases op <;> first | rfl | exact absurd rfl h
 have e2:(op==CmpOp.NotIn)=false:=by cases op <;> first | rfl | exact absurd rfl h2
 cases b <;> simp [behindInMarks,e1,e2]
def W6q {op:CmpOp}{r:R2}(ho:M4 X (compareOp op) r)(ha:PE X a ta)(hb:PE X b tb)(hm:behindInMarks op b=false):PE X (.Compare a [op] [b] pos) (tOp r ta tb):=by
 intro a9 s σ H Q I h;exact wpAny_Compare1 (Z2a ha hb I h fun v u s2 x y H2 I2 rx ry q=>ho a9 s2 σ H2 x y v u Q I2 rx ry q) hm
def V2l (t:TE):TT:=fun σ H Q=>t σ H fun x H'=>∃k,x=.bl k/\Q k H'
def W8d {op:CmpOp}{r:R2}(ho:M4 X (compareOp op) r)(ha:PE X a ta)(hb:PE X b tb)(hm:behindInMarks op b=false):PT X (.Compare a [op] [b] pos) (V2l (tOp r ta tb)):=by
 intro a9 s σ H Q I h;refine wpAny_isTrue_Compare1 (B4 (ha a9 s σ H _ I h) fun v s1 ⟨x,H1,I1,r1,q1⟩=>B4 (hb a9 s1 σ H1 _ I1 q1) fun u s2 ⟨y,H2,I2,r2,q2⟩ =>
  B4 (ho a9 s2 σ H2 x y v u _ I2 r1 r2 q2) fun c s3 ⟨z,H3,I3,r3,k,e,q3⟩=>?_) hm
 subst e;cases r3;exact wpAny_truthy_bool ⟨H3,I3,q3⟩
def Z1r (K:Fg9)(x:V)(H:Hp)(k:Bool):Prop :=
 match x with
 | .non=>k=false
 | .bl b=>k=b
 | .int i=>k=(i != 0)
 | .str y=>y.length<=sizeLine/\k=((y.length:Int) != 0)
 | .byt y=>y.size<=sizeLine/\k=((y.size:Int) != 0)
 | .ref p=>(∃xs,D7 K H p xs/\k=!xs.isEmpty)\/(∃xs,E1 K H p xs/\k=!xs.isEmpty)\/∃kvs,H p=some (.dK kvs)/\k=!kvs.isEmpty
 | _=>False
def W2p {κ:Type}{kvs:List (κ×V)}{vs:List (κ×Value)}(r:KV kvs vs):(!vs.isEmpty)=!kvs.isEmpty:=by
 cases r <;> rfl
def Y1w {xs:List V}{aP:List Value}(r:C0 xs aP):(!aP.toArray.isEmpty)=!xs.isEmpty:=by
 cases r <;> simp
def Q2y:(sizeLine:Nat)<2 ^ 63:=by rw [gk];decide
theorem V2s:TruR X (fun x H Q=>∃k,Z1r X.K x H k/\Q k H):=by
 intro a9 s σ H x v Q I rx h;obtain⟨k,e,q⟩:=h;have hl:=Q2y;have hs:sizeLine=16777216:=gk;cases x with
 | non =>
  cases rx;have e':k=false:=e;subst e';exact truthy_none ⟨H,I,q⟩
 | bl b =>
  cases rx;have e':k=b:=e;subst e';exact wpAny_truthy_bool ⟨H,I,q⟩
 | int i =>
  obtain⟨t,rfl⟩:=rx;have e':k=(i != 0):=e;subst e';exact PySem.P.truthy_int ⟨H,I,q⟩
 | str y =>
  obtain⟨t,rfl⟩:=rx;obtain⟨hy,e'⟩:y.length<=sizeLine/\k=((y.length:Int) != 0):=e;subst e';exact PySem.P.truthy_str (by omega) ⟨H,I.tok _,q⟩
 | byt y =>
  obtain⟨t,rfl⟩:=rx;obtain⟨hy,e'⟩:y.size<=sizeLine/\k=((y.size:Int) != 0):=e;subst e';exact PySem.W.truthy_bytes (by omega) ⟨H,I.tok _,q⟩
 | ref p =>
  cases rx;have e':(∃xs,D7 X.K H p xs/\k=!xs.isEmpty)\/(∃xs,E1 X.K H p xs/\k=!xs.isEmpty)\/∃kvs,H p=some (.dK kvs)/\k=!kvs.isEmpty:=e;rcases e' with⟨xs,hx,e'⟩ | ⟨xs,hx,e'⟩ | ⟨kvs,hx,e'⟩
  ·subst e';obtain⟨aP,r,pl,hz⟩:=I.list hx;have bD:=r.length;exact wpAny_truthy_list pl.isList (by simp only [aH];omega) ⟨H,I.tok _,by rw [Y1w r];exact q⟩
  ·subst e';obtain⟨aP,r,pl,hz⟩:=I.tuple hx;have bD:=r.length;exact truthy_tuple pl (by simp only [aH];omega) ⟨H,I.tok _,by rw [Y1w r];exact q⟩
  ·subst e';obtain⟨hz,hS,vs,r,m⟩:kvs.length<=sizeLine/\(p==sysModules)=false/\∃vs,KV kvs vs/\s.heap.DictOf (M2 X.prog X.w) p vs:=I.hok p _ hx;have bD:kvs.length=vs.length:=Paired.length r;exact wpAny_truthy_dict hS m (by omega) ⟨H,I.tok _,by rw [W2p r];exact q⟩
 | _=>exact(show False from e).elim
def W8f (ha:PE X a ta)(he:∀whole,isTrue a X.env whole=(do let v <- whole;standAt a.pos;holding [v] (truthy v))) :
  PT X a (fun σ H Q=>ta σ H fun x H'=>∃k,Z1r X.K x H' k/\Q k H'):=by
 intro a9 s σ H Q I h;exact isTrue_plain (B4 (ha a9 s σ H _ I h) fun v s1 ⟨x,H1,I1,r1,q1⟩=>V2s a9 s1 σ H1 x v Q I1 r1 q1) (he _)
def W5w:M4 X (binaryOp .Add) (fun x y H Q=>∃i j,x=.str i/\y=.str j/\i.length+j.length<=sizeLine/\Q (.str (i++j)) H):=by
 intro a9 s σ H x y v u Q I rx ry h;obtain⟨i,j,rfl,rfl,hz,q⟩:=h;obtain⟨t,rfl⟩:=rx;obtain⟨t',rfl⟩:=ry;exact add_str (fun t' tk=>⟨.str (i++j),H,I.tok _,⟨_,rfl⟩,q⟩) hz
theorem T4 {x:V}{us:List Value}(r:C0 [x] us):∃u,us=[u]/\C1 x u:=by
 cases r with
 | cons r1 r2=>cases r2;exact⟨_,rfl,r1⟩
theorem Z6h {x y:V}{us:List Value}(r:C0 [x,y] us):∃u w',us=[u,w']/\C1 x u/\C1 y w':=by
 cases r with
 | cons r1 r2 =>
  cases r2 with
  | cons r3 r4=>cases r4;exact⟨_,_,rfl,r1,r3⟩
def LenV (K:Fg9)(x:V)(H:Hp)(n:Nat):Prop :=
 match x with
 | .str y=>y.length<=sizeLine/\n=y.length
 | .byt y=>y.size<=sizeLine/\n=y.size
 | .ref p=>(∃xs,D7 K H p xs/\n=xs.length)\/∃xs,E1 K H p xs/\n=xs.length
 | _=>False
theorem Q6q:Q2m X (.builtin "len") (fun xs H Q=>∃x n,xs=[x]/\LenV X.K x H n/\Q (.int n) H):=by
 intro a9 s σ H xs us Q I r h;obtain⟨x,n,rfl,e,q⟩:=h;obtain⟨u,rfl,rx⟩:=T4 r;have hl:=Q2y;have hs:sizeLine=16777216:=gk;cases x with
 | str y =>
  obtain⟨t,rfl⟩:=rx;obtain⟨hy,e'⟩:y.length<=sizeLine/\n=y.length:=e;subst e';exact len_str (by omega) ⟨.int _,H,I.tok _,⟨_,rfl⟩,q⟩
 | byt y =>
  obtain⟨t,rfl⟩:=rx;obtain⟨hy,e'⟩:y.size<=sizeLine/\n=y.size:=e;subst e';exact PySem.W.len_bytes (by omega) ⟨.int _,H,I.tok _,⟨_,rfl⟩,q⟩
 | ref p =>
  cases rx;have e':(∃xs,D7 X.K H p xs/\n=xs.length)\/∃xs,E1 X.K H p xs/\n=xs.length:=e;rcases e' with⟨xs,hx,e'⟩ | ⟨xs,hx,e'⟩
  ·subst e';obtain⟨aP,r',pl,hz⟩:=I.list hx;have bD:=r'.length;exact Calls.call_len_list pl.isList (by simp only [aH];omega) ⟨.int xs.length,H,I.tok _,⟨_,by simp only [aH];rw [bD]⟩,q⟩
  ·subst e';obtain⟨aP,r',pl,hz⟩:=I.tuple hx;have bD:=r'.length;exact len_tuple pl (by simp only [aH];omega) ⟨.int xs.length,H,I.tok _,⟨_,by simp only [aH];rw [bD]⟩,q⟩
 | _=>exact(show False from e).elim
end
end L2
namespace L2
open PySem PySem.Spec PyProof.Rows
structure Z1n (h:Heap)(x dx C:Addr)(mA:Str->Option Value):Prop where
 obj:h.get? x=some (PySem.W.instObj C dx)
 ns:h.Ns1 dx mA
 ne:dx≠x
def W4e {h:Heap}{dx:Addr}{mA:Str->Option Value}(n:h.Ns1 dx mA):∃od,h.get? dx=some od/\∀name,PySem.W.lookIn name od=some (mA name):=by
 obtain⟨o,es,ep,ho,hd,hk,_,hm⟩:=n;refine⟨o,ho,fun name=>?_⟩;have e:=hm name;unfold nsFind findBy at e;rw [<- Array.find?_toList]at e;unfold PySem.W.lookIn;rw [hd];dsimp only;split
 ·rename_i y q;rw [q]at e;exact congrArg some e
 ·rename_i q;rw [q]at e;have a:es.toList.any (·.refKey)=false:=by
   rw [List.any_eq_false];intro y hy;obtain⟨z,t,mE⟩:=hk y (Array.mem_toList_iff.mp hy);simp [DictEntry.refKey,mE]
  have a':¬ es.toList.any (·.refKey)=true:=by rw [a];exact aO
  rw [az a'];exact congrArg some e
def Z1n.look {h:Heap}{x dx C:Addr}{mA:Str->Option Value}(I:Z1n h x dx C mA):∃od,PySem.W.InstAt h x (PySem.W.instObj C dx) C (some od)/\∀name,PySem.W.lookIn name od=some (mA name) :=
 let ⟨od,ho,hl⟩:=W4e I.ns
 ⟨od,⟨I.obj,rfl,rfl,ho⟩,hl⟩
theorem X1.some_of {v:V}{o:Option Value}(r:X1 (some v) o):∃u,o=some u/\C1 v u:=by
 cases o with
 | none=>exact(show False from r).elim
 | some u=>exact⟨u,rfl,r⟩
section
variable {P:Program}{w:World}{H:Hp}{h:Heap}{a C dx:Addr}{fs:List (Str×V)}
def W2c (hok:F7 P w H h)(e:H a=some (.ins C dx fs)):∃mA,Z1n h a dx C mA/\(∀f,X1 (fs.lookup f) (mA f))/\PySem.Within mA (fs.map (·.1))/\fs.length<=1000/\H dx=some (.own a):=by
 obtain⟨d,z,ne,ob,mA,n,r,q⟩:=(show ObjOk P w H h a (.ins C dx fs)from hok a _ e)
 exact⟨mA,⟨ob,n,ne⟩,r,q,z,d⟩
end
structure Cls (K:Fg9)(C:Addr):Prop where
 pg:PySem.W.plainGet K C Str.empty=true
 hd:PySem.W.hasDictIn K C=true
 po:PySem.W.plainOver K C=true
 sa:PySem.W.findIn K (.ref C) "__setattr__"=some (some (.builtin "object.__setattr__"))
def Cls.get {K:Fg9}{C:Addr}(c:Cls K C)(f:Str):PySem.W.plainGet K C f=true:=c.pg
section
variable {X:Cx}{a9:Pn9}{σ:St}{H:Hp}{s:Shared}{A:Around}{E:VS9}{Q:VS9}{c:Value}{b:Bool}
inductive V8 (K:Fg9)(H:Hp):V->Value->Prop where
 | non:V8 K H .non (.type "NoneType")
 | bl (x:Bool):V8 K H (.bl x) (.type "bool")
 | int (i:Int):V8 K H (.int i) (.type "int")
 | str (x:Str):V8 K H (.str x) (.type "str")
 | flt (x:UInt64):V8 K H (.flt x) (.type "float")
 | lst {a:Addr}{xs:List V} (e:H a=some (.lst xs)):V8 K H (.ref a) (.type "list")
 | frz {a:Addr}{o:Obj}{xs:List V} (e:H a=some (.frz o (.lst xs))):V8 K H (.ref a) (.type "list")
 | tup {a:Addr}{xs:List V} (e:H a=some (.tup xs)):V8 K H (.ref a) (.type "tuple")
 | dK {a:Addr}{kvs:List (B8×V)} (e:H a=some (.dK kvs)):V8 K H (.ref a) (.type "dict")
 | dT {a:Addr}{kvs:List (List B8×V)} (e:H a=some (.dT kvs)):V8 K H (.ref a) (.type "dict")
 | ins {a C dx:Addr}{fs:List (Str×V)} (e:H a=some (.ins C dx fs)) (cl:Cls K C) (ha:PySem.W.findIn K (.ref C) "__class__"=some (some (.builtin "object.__class__")))
   (hn:PySem.W.specialIn K (.builtin "object.__class__") "__get__"=some (some (.builtin "getset_descriptor.__get__"))) (htk:PySem.W.takesIn K (.builtin "object.__class__")=some true)
   (hm:PySem.W.mroIn K C (.type "object")=some true):V8 K H (.ref a) (.ref C)
theorem W2s {x:V}{u t:Value}(I:A0 X a9 σ H s)(rx:C1 x u)(ty:V8 X.K H x t)(e:PySem.W.kitOne X.K t c=some b)(h:∀tk,Q (.bool b) { s with toks:=tk }) :
  wpAny (model X.prog X.w) A (call (.builtin "isinstance") [u,c]) Q E s:=by
 cases ty with
 | non=>cases (show u=Value.none from rx);exact bv PySem.W.kitx_none I.kIn True.intro e (fun z=>nomatch z) h
 | bl y=>cases (show u=Value.bool y from rx);exact bv PySem.W.kitx_bool I.kIn True.intro e (fun z=>nomatch z) h
 | int i=>obtain⟨t,q⟩:=(show ∃t,u=Value.int i t from rx);cases q;exact bv PySem.W.kitx_int I.kIn True.intro e (fun z=>nomatch z) h
 | str y=>obtain⟨t,q⟩:=(show ∃t,u=Value.str y t from rx);cases q;exact bv PySem.W.kitx_str I.kIn True.intro e (fun z=>nomatch z) h
 | flt y=>obtain⟨t,q⟩:=(show ∃t,u=Value.float y t from rx);cases q;exact bv PySem.W.kitx_float I.kIn True.intro e (fun z=>nomatch z) h
 | @lst a xs ea =>
  cases (show u=Value.ref a from rx);obtain⟨_,_,n,_,h1⟩:=(show ObjOk X.prog X.w H s.heap a (.lst xs)from I.hok a _ ea)
  exact bv PySem.W.kitx_list I.kIn ⟨_,h1,rfl⟩ e (fun z=>nomatch z) h
 | @frz a ob xs ea =>
  cases (show u=Value.ref a from rx);obtain⟨_,_,_,n,_,h1⟩:=(show ObjOk X.prog X.w H s.heap a (.frz ob (.lst xs))from I.hok a _ ea)
  exact bv PySem.W.kitx_list I.kIn ⟨_,h1,rfl⟩ e (fun z=>nomatch z) h
 | @tup a xs ea =>
  cases (show u=Value.ref a from rx);obtain⟨_,_,_,p⟩:=(show ObjOk X.prog X.w H s.heap a (.tup xs)from I.hok a _ ea)
  obtain⟨o,h1,h2,_⟩:=p;exact bv PySem.W.kitx_tuple I.kIn ⟨o,h1,h2⟩ e (fun z=>nomatch z) h
 | @dK a kvs ea =>
  cases (show u=Value.ref a from rx);obtain⟨_,_,vs,_,p⟩:=(show ObjOk X.prog X.w H s.heap a (.dK kvs)from I.hok a _ ea)
  obtain⟨o,es,ep,h1,h2,_⟩:=p;exact bv PySem.W.kitx_dict I.kIn ⟨o,h1,h2.1⟩ e (fun z=>nomatch z) h
 | @dT a kvs ea =>
  cases (show u=Value.ref a from rx);obtain⟨_,_,xs,_,o,es,ep,h1,h2,_⟩:=(show ObjOk X.prog X.w H s.heap a (.dT kvs)from I.hok a _ ea)
  exact bv PySem.W.kitx_dict I.kIn ⟨o,h1,h2.1⟩ e (fun z=>nomatch z) h
 | @ins a C dx fs ea cl ha hn htk hm =>
  cases (show u=Value.ref a from rx);obtain⟨mA,O,_⟩:=W2c I.hok ea;obtain⟨od,J,_⟩:=O.look;exact bv (PySem.W.kitx_own (cl.get _) cl.hd ha hn htk hm) I.kIn J e (fun z=>nomatch z) h
end
end L2
namespace L2
open PySem PySem.Spec PyProof.Rows
structure D4 (k:Nat)(A:Around):Prop where
 hd:A.handled=none
 dp:A.depth+3*k+5<recursionLimit
 un:A.units+16*k+200<cLine
def D4.mono {j k:Nat}{A:Around}(r:D4 k A)(h:j<=k):D4 j A:=⟨r.hd,by have:=r.dp;omega,by have:=r.un;omega⟩
def D4.deeper {k:Nat}{A:Around}(r:D4 (k+1) A)(env:Env):D4 k (A.deeper env) :=
 ⟨r.hd,by have:=r.dp;show A.depth+1+3*k+5<_;omega,by have:=r.un;show A.units+3+16*k+200<_;omega⟩
def D4.depth {k:Nat}{A:Around}(r:D4 k A):A.depth<recursionLimit:=by have:=r.dp;omega
def D4.units {k:Nat}{A:Around}(r:D4 k A):A.units+64<cLine:=by have:=r.un;omega
def Z6a:TA:=fun _ H Q=>Q [] H
def Q5y (ta:TE)(tr:TA):TA:=fun σ H Q=>ta σ H fun x H1=>tr σ H1 fun xs H2=>Q (x::xs) H2
section
variable {X:Cx}{e:Expr}{es:List Expr}{te:TE}{t:TA}{pos:Pos}
def X7:PA X [] Z6a:=fun _ _ _ _ H Q I h=>Calls.spliced_nil ⟨[],H,I,.nil,h⟩
def T0 (ha:PE X e te)(hr:PA X es t)(hs:starEach (e::es) X.env=(false,eval e X.env)::starEach es X.env:=by rfl):PA X (e::es) (Q5y te t):=by
 intro pos a9 s σ H Q I h;rw [hs];show wpAny _ _ (spliced ((false,eval e X.env)::backTo pos (starEach es X.env))) _ _ s;refine jQ (B4 (ha a9 s σ H _ I h) fun u s1 bu=>?_);obtain⟨x,H1,I1,r1,q1⟩:=bu;exact B4 (hr pos a9 s1 σ H1 _ I1 q1) fun us s2 ⟨xs,H2,I2,r2,q2⟩=>⟨x::xs,H2,I2,.cons r1 r2,q2⟩
def tTup (t:TA):TE:=fun σ H Q=>t σ H fun xs H1=>xs.length<=sizeLine/\∀p,H1 p=none->Q (.ref p) (upd H1 p (.tup xs))
def tLst (t:TA):TE:=fun σ H Q=>t σ H fun xs H1=>xs.length<=sizeLine/\∀p,H1 p=none->Q (.ref p) (upd H1 p (.lst xs))
def W7d {x1}(h:PA X es t):PE X (.Tuple es x1 pos) (tTup t):=by
 intro a9 s σ H Q I hq;refine wpAny_Tuple_spliced (B4 (h pos a9 s σ H _ I hq) fun us s1 ⟨xs,H1,I1,r,z,q⟩=>⟨by rw [<- r.length];exact z,?_⟩);have hf:H1 s1.heap.objs.size=none:=I1.hok.fresh (aq _);refine⟨.ref s1.heap.objs.size,upd H1 s1.heap.objs.size (.tup xs),I1.laid (t':=s1.toks) (fun b u e=>aj _ e) (aq _) ?_,rfl,q _ hf⟩;exact⟨z,us,r,⟨_,aI _ rfl,rfl,_,rfl⟩⟩
def W6x (h:PA X es t):PE X (.List es pos) (tLst t):=by
 intro a9 s σ H Q I hq;refine wpAny_List_spliced (B4 (h pos a9 s σ H _ I hq) fun us s1 ⟨xs,H1,I1,r,z,q⟩=>⟨by rw [<- r.length];exact z,?_⟩);have hf:H1 s1.heap.objs.size=none:=I1.hok.fresh (aq _);refine⟨.ref s1.heap.objs.size,upd H1 s1.heap.objs.size (.lst xs),I1.laid (t':=s1.toks) (fun b u e=>aj _ e) (aq _) ?_,rfl,q _ hf⟩;exact⟨z,us,0,r,aI _ rfl⟩
end
abbrev Sp:=List V->Hp->VK->XK->Prop
abbrev CXT:=List Env->Hp->Shared->XK->Value->Shared->Prop
structure Q1o (P:Program)(w:World)(K:Fg9)(mg:Str->Option Value)(base:Heap)(A:Around)(outer:List Env)(s:Shared)(H:Hp):Prop where
 frames:A.frames=some outer
 mod:Mod K mg base
 bs:∀b o,base.get? b=some o->s.heap.get? b=some o/\H b=none
 bsz:base.objs.size<=s.heap.objs.size
 funs:s.heap.FunFrames base outer
 frf:∀b∈E6 outer,H b=none
 hok:F7 P w H s.heap
 bare:AllBare s.gens
def CE (outer:List Env)(P:Program)(w:World)(H:Hp)(s:Shared)(Q:VK)(u:Value)(s':Shared):Prop :=
 ∃v H',s'.os=s.os/\AllBare s'.gens/\Un (E6 outer) [] H H' s.heap s'.heap/\F7 P w H' s'.heap/\C1 v u/\Q v H'
def CR (CX:CXT)(outer:List Env)(P:Program)(w:World)(H:Hp)(s:Shared)(Q:VK)(E:XK)(r:Result)(s':Shared):Prop :=
 match r with
 | .ok (.ret u)=>CE outer P w H s Q u s'
 | .ok _=>False
 | .error e=>CX outer H s E e s'
structure M9 (P:Program)(w:World)(K:Fg9)(mg:Str->Option Value)(base:Heap)(CX:CXT)(k:Nat)(f:Addr)(fd:FuncData)(ps:List Str)(sp:Sp):Prop where
 len:∀vs H Q E,sp vs H Q E->vs.length=ps.length
 run:∀(A:Around) (outer:List Env) (s:Shared) (H:Hp) (args:Args) (us:List Value) (vs:List V) (Q:VK) (E:XK),D4 k A->Q1o P w K mg base A outer s H->BindsTo s fd args (ps.zip us)->C0 vs us->sp vs H Q E ->
  codeAny (model P w) A (.call (.ref f) args) (CR CX outer P w H s Q E) s
section
variable {X:Cx}{a9:Pn9}{σ:St}{H:Hp}{s s':Shared}
def A0.env0 (I:A0 X a9 σ H s):Q1o X.prog X.w X.K X.mg X.base X.A X.stack s H :=
 ⟨I.ok.frames,I.ok.mod,I.bs,aS I.ok.bsz I.sz,I.stack,I.stkFree,I.hok,I.bare⟩
def A0.after {Q:VK}{u:Value}(I:A0 X a9 σ H s)(h:CE X.stack X.prog X.w H s Q u s'):EP X a9 σ Q u s':=by
 obtain⟨v,H',os,bare,un,hok,r,q⟩:=h;obtain⟨hh,g,d,t,k6⟩:=s';obtain rfl:k6=s.os:=os;exact⟨v,H',I.call (h':=hh) (g':=g) (d':=d) (t':=t) (ch:=[]) un hok bare (fun b z=>absurd z (by simp)),r,q⟩
end
def V2b (sp:Sp)(dvs:List V)(E:XK)(t:TA):TE:=fun σ H Q=>t σ H fun vs H1=>sp (vs++dvs) H1 Q E
def Q0 (K:Fg9)(fd:FuncData)(ps:List Str)(ds:List Value):Prop :=
 ∀(s:Shared) (us:List Value),K.In s.heap->(us++ds).length=ps.length->BindsTo s fd ⟨us,[]⟩ (ps.zip (us++ds))
def Q0.all {K:Fg9}{fd:FuncData}{ps:List Str}(h:∀us:List Value,us.length=ps.length->bindArgs fd ⟨us,[]⟩=pure (ps.zip us)):Q0 K fd ps []:=fun s us _ hl=>by
 rw [aW]at hl ⊢;exact .of_eq (h us hl)
def Q8g (CX:CXT)(X:Cx)(E:XK):Prop:=∀(a9:Pn9) (σ:St) (H:Hp) (s:Shared) (e:Value) (s':Shared),A0 X a9 σ H s->CX X.stack H s E e s'->X.xe e s'
section
variable {X:Cx}{CX:CXT}{k:Nat}{f:Addr}{fd:FuncData}{ps:List Str}{sp:Sp}{dvs:List V}{ds:List Value}{E:XK}{x:Str}{p pos:Pos}{e:Expr}{es:List Expr}{t:TA}
theorem Y4c {a9:Pn9}{σ:St}{H:Hp}{s:Shared}{Q:VK}{us:List Value}{vs:List V}(F:M9 X.prog X.w X.K X.mg X.base CX k f fd ps sp)(hr:D4 k X.A)(hb:Q0 X.K fd ps ds)(hd:C0 dvs ds)(hx:Q8g CX X E)
  (I:A0 X a9 σ H s) (r:C0 vs us) (h:sp (vs++dvs) H Q E):wpAny (model X.prog X.w) X.A (call (.ref f) us) (EP X a9 σ Q) X.xe s:=by
 have r2:C0 (vs++dvs) (us++ds):=r.append hd;have hl:(us++ds).length=ps.length:=by rw [<- r2.length];exact F.len _ _ _ _ h
 refine wpAny_call (iS (F.run X.A X.stack s H ⟨us,[]⟩ (us++ds) (vs++dvs) Q E hr I.env0 (hb s us I.kIn hl) r2 h) fun r s' hq=>?_);cases r with
 | error e=>exact hx a9 σ H s e s' I hq
 | ok fl =>
  cases fl with
  | ret u=>exact I.after hq
  | next=>exact False.elim hq
  | brk=>exact False.elim hq
  | cont=>exact False.elim hq
def Q9x (F:M9 X.prog X.w X.K X.mg X.base CX k f fd ps sp)(hr:D4 k X.A)(hg:Gl X x)(hm:X.mg x=some (.ref f))(hk:PySem.W.keepIn X.K (.ref f)=true)(hb:Q0 X.K fd ps ds)(hd:C0 dvs ds)(hx:Q8g CX X E)
  (ha:PA X (e::es) t) (cR:(x==("__debug__":Str))=false:=by decide) (he:starEach (e::es) X.env=(false,eval e X.env)::starEach es X.env:=by rfl) (hpl:(backTo pos (starEach es X.env)).any (·.1)=false:=by rfl) :
  PE X (.Call (.Name x p) (e::es) [] pos) (V2b sp dvs E t):=by
 intro a9 s σ H Q I h;refine bc (Q3y I hg hm ?_ cR);refine PySem.W.callWith_K (h₀:=X.base) I.ok.mod.kin hk (B4 (ha pos a9 s σ H _ I h) fun us s1 ⟨vs,H1,I1,r,q⟩=>⟨I1.kIn,?_⟩) he hpl;exact Y4c F hr hb hd hx I1 r q
end
structure G3 (N P:List Str)(sc:Scope):Prop where
 kind:sc.kind=.function
 co:sc.isCoroutine=false
 gen:sc.isGenerator=false
 nd:N.Nodup
 pre:N.take P.length=P
 par:∀x∈P,sc.names.lookup x=some .local\/sc.names.lookup x=some .cell
 nofree:∀y∈sc.names,y.2≠.free
theorem Z9j {kindOf:Str->Option NameKind}{x:Str}:∀{binds:List (Str×Value)}{m:Str->Option Value},(∀v,(x,v)∉binds)->bindL kindOf binds m x=m x
 | [],_,_=>rfl
 | (n,v)::r,m,h=>by
  unfold bindL;rw [Z9j fun w hw=>h w (ae _ hw)];split
  ·have:x≠n:=by rintro rfl;exact h v ag
   simp [this]
  ·rfl
theorem Z9h {kindOf:Str->Option NameKind}{x:Str}:∀{binds:List (Str×Value)}{m:Str->Option Value},(∀v,(x,v)∉binds)->bindC kindOf binds m x=m x
 | [],_,_=>rfl
 | (n,v)::r,m,h=>by
  unfold bindC;rw [Z9h fun w hw=>h w (ae _ hw)];split
  ·rfl
  ·have:x≠n:=by rintro rfl;exact h v ag
   simp [this]
theorem Z9i {kindOf:Str->Option NameKind}{x:Str}{v:Value}:∀{P:List Str}{vs:List Value}{i:Nat}{m:Str->Option Value},P.Nodup->P[i]?=some x->vs[i]?=some v->kindOf x=some .local ->
  bindL kindOf (P.zip vs) m x=some v
 | [],_,_,_,_,h,_,_=>by simp at h
 | _::_,[],_,_,_,_,h,_=>by simp at h
 | p::P,w::vs,0,m,nd,h1,h2,hk=>by
  simp at h1 h2;subst h1;subst h2;show bindL kindOf ((p,w)::P.zip vs) m p=_;unfold bindL;rw [Z9j fun v hv=>(bi.mp nd).1 (dX hv).1,aG hk];simp
 | p::P,w::vs,i+1,m,nd,h1,h2,hk=>by
  show bindL kindOf ((p,w)::P.zip vs) m x=_;unfold bindL;exact Z9i (i:=i) (bi.mp nd).2 (by simpa using h1) (by simpa using h2) hk
theorem Z9g {kindOf:Str->Option NameKind}{x:Str}{v:Value}:∀{P:List Str}{vs:List Value}{i:Nat}{m:Str->Option Value},P.Nodup->P[i]?=some x->vs[i]?=some v->kindOf x≠some .local ->
  bindC kindOf (P.zip vs) m x=some v
 | [],_,_,_,_,h,_,_=>by simp at h
 | _::_,[],_,_,_,_,h,_=>by simp at h
 | p::P,w::vs,0,m,nd,h1,h2,hk=>by
  simp at h1 h2;subst h1;subst h2;show bindC kindOf ((p,w)::P.zip vs) m p=_;unfold bindC;rw [Z9h fun v hv=>(bi.mp nd).1 (dX hv).1,az hk];simp
 | p::P,w::vs,i+1,m,nd,h1,h2,hk=>by
  show bindC kindOf ((p,w)::P.zip vs) m x=_;unfold bindC;exact Z9g (i:=i) (bi.mp nd).2 (by simpa using h1) (by simpa using h2) hk
def start (N:List Str)(vs:List V):St:=vs.map some++List.replicate (N.length-vs.length) none
def K9 (CX:CXT)(P:Program)(w:World)(K:Fg9)(mg:Str->Option Value)(base:Heap)(N:List Str)(qual:Str)(scope:Scope)(f:Addr)(cd:Value)(A:Around)(outer:List Env)(s:Shared)(H:Hp)(E:XK):Cx where
 prog:=P
 w:=w
 K:=K
 mg:=mg
 base:=base
 A:=A.deeper (envOfC qual scope s.heap.objs.size f cd)
 N:=N
 s₀:=s
 H₀:=H
 env:=envOfC qual scope s.heap.objs.size f cd
 outer:=outer
 stack:=envOfC qual scope s.heap.objs.size f cd::outer
 ex:=[]
 calm:=true
 fn:=fun _=>true
 pn:=[]
 xe:=fun e s'=>wpAny (model P w) (A.deeper (envOfC qual scope s.heap.objs.size f cd)) (leaving (envOfC qual scope s.heap.objs.size f cd) e) (fun _ jX=>CX outer H s E e jX) (fun e' jX=>CX outer H s E e' jX) s'
def Z9w {sc:Scope}{n:Nat}{x:Str}(h:sc.names.lookup x=some .cell):∃c,(cellsFrom n sc.names []).lookup x=some c:=by
 have q:=gV sc.names n [] (.inl h);exact Option.isSome_iff_exists.mp q
def Z3k {CX:CXT}{P:Program}{w:World}{K:Fg9}{mg:Str->Option Value}{base:Heap}{N ps:List Str}{qual:Str}{scope:Scope}{f:Addr}{cd:Value}{A:Around}{outer:List Env}{s s1:Shared}{H:Hp}{E:XK}{us:List Value}{vs:List V}
  (S:G3 N ps scope) (hd:A.handled=none) (e0:Q1o P w K mg base A outer s H) (hl:vs.length=ps.length) (r:C0 vs us)
  (x:InCallC s s.heap.objs.size (bindL (envOfC qual scope s.heap.objs.size f cd).kindOf (ps.zip us) fun _=>none) (cellsFrom (s.heap.objs.size+1) scope.names []) (bindC (envOfC qual scope s.heap.objs.size f cd).kindOf (ps.zip us) fun _=>none) s1) :
  A0 (K9 CX P w K mg base N qual scope f cd A outer s H E) [] (start N vs) H s1:=by
 have hpl:ps.length<=N.length:=by have:=congrArg List.length S.pre;rw [dz]at this;omega
 obtain⟨h1,tk,rfl,hk⟩:=x.done;have eI:∀b:Addr,b∉(K9 CX P w K mg base N qual scope f cd A outer s H E).ex:=fun b z=>absurd (show b∈([]:List Addr)from z) (by simp);refine⟨⟨e0.mod,S.kind,rfl,rfl,aq _,fun y z c h1 h2=>?_,fun y hy=>?_,fun y c _ h=>?_,fun _=>hd,Around.frames_deeper e0.frames,.inr ⟨rfl,rfl⟩,fun b z=>absurd z (eI b),e0.bs,e0.bsz,fun b _ _=>eI b,fun b z=>absurd z (eI b),e0.funs,e0.frf⟩,
  rfl,e0.bare,Un.kept hk,⟨_,x.toInCall.ns,fun i y v h1 h2 h3=>?_⟩,fun y c h=>⟨_,x.cell y c h⟩,e0.hok.fresh (aq _),fun y c h=>?_,fun p hp=>absurd (show p∈([]:Pn9)from hp) (by simp),e0.hok.kept hk,?_⟩
 ·exact name_of_addr x.apart (bJ h1) (bJ h2)
 ·have hy:scope.names.lookup y=some .cell\/scope.names.lookup y=some .free:=hy;rcases hy with hy | hy
  ·exact Z9w hy
  ·exact absurd rfl (S.nofree _ (bJ hy))
 ·exact eA (x.above y c (bJ h))
 ·have hi:i<vs.length:=by
   unfold start at h2
   by_cases hi:i<vs.length
   ·exact hi
   ·rw [aQ (by simpa using hi)]at h2;rw [gp]at h2;split at h2 <;> cases h2
  have ha:vs[i]?=some v:=by
   unfold start at h2;rw [aJ (by simpa using hi),af]at h2;cases e:vs[i]? with
   | none=>rw [e]at h2;cases h2
   | some a=>rw [e]at h2;cases h2;rfl
  obtain⟨u,hu,rv⟩:=r.get ha;have hp:ps[i]?=some y:=by
   rw [<- S.pre,List.getElem?_take_of_lt (by omega)];exact h1
  have nN:ps.Nodup:=by rw [<- S.pre];exact S.nd.sublist (List.take_sublist _ _)
  refine⟨u,rv,?_⟩;rcases S.par y (aB hp)with k | k
  ·exact .inl ⟨k,Z9i nN hp hu k⟩
  ·obtain⟨c,e⟩:=Z9w (n:=s.heap.objs.size+1) k;refine .inr ⟨.inl k,c,e,?_⟩;have q:=x.cell y c e;rw [Z9g nN hp hu (by show scope.names.lookup y≠_;rw [k];decide)]at q;exact q
 ·exact e0.hok.fresh (eA (x.above y c (bJ h)))
 ·unfold start;show _=N.length;rw [ai,ac,aY];omega
theorem Q8y {CX:CXT}{P:Program}{w:World}{K:Fg9}{mg:Str->Option Value}{base:Heap}{k:Nat}{f:Addr}{name qual:Str}{params:Arguments}{body:List Stmt}{scope:Scope}{dV kV cn pm cdv ct oc:Value}{an od:Option Addr}
  {cZ:Array (Option Value)}{N ps:List Str}{sp:Sp} (lk:K.lookup f=some ⟨oc,od,.func (PySem.W.fnOf name qual params body scope dV kV cn pm an cdv ct),cZ⟩) (dq:PySem.W.codeIn K cdv qual=true) (S:G3 N ps scope)
  (len:∀vs H Q E,sp vs H Q E->vs.length=ps.length)
  (bF:∀(A:Around) (outer:List Env) (s:Shared) (H:Hp) (vs:List V) (Q:VK) (E:XK),D4 k (A.deeper (envOfC qual scope s.heap.objs.size f cdv))->sp vs H Q E ->
   ∃t,Q3 (K9 CX P w K mg base N qual scope f cdv A outer s H E) body t/\t { nx:=fun _ H'=>Q .non H',rt:=Q } (start N vs) H) :
  M9 P w K mg base CX (k+1) f (PySem.W.fnOf name qual params body scope dV kV cn pm an cdv ct) ps sp:=by
 refine⟨len,fun A outer s H args us vs Q E hr e0 hb r eK=>?_⟩;have hl:=len _ _ _ _ eK;have KX:K.In s.heap:=e0.mod.kin.keeps fun b o e=>(e0.bs b o e).1;have i0:s.heap.NoLimit:=e0.mod.nolimit.keeps fun b o e=>(e0.bs b o e).1;have eZ:∀y∈ps.zip us,scope.names.lookup y.1=some .local\/(scope.names.lookup y.1=some .cell/\((cellsFrom (s.heap.objs.size+1) scope.names []).lookup y.1).isSome=true):=fun⟨n,v⟩ hy=>by
  rcases S.par n (dX hy).1 with q | q
  ·exact .inl q
  ·exact .inr ⟨q,gV _ _ _ (.inl q)⟩
 refine codeAny_call_function hr.depth (KX _ _ lk) rfl S.co S.gen rfl (PySem.W.codeRec_of KX dq) (hb _ _ _ _ ?_);refine wpAny_newFunctionEnv_cells S.kind eZ fun env he s1 x=>?_;subst he;refine⟨i0.keeps x.toInCall.keep,codeAny_func ?_⟩;obtain⟨t,ht,hq⟩:=bF A outer s H vs Q E (hr.deeper _) eK;have I:A0 (K9 CX P w K mg base N qual scope f cdv A outer s H E) [] (start N vs) H s1:=Z3k S hr.hd e0 hl r x;refine aL (ht [] s1 (start N vs) H _ I hq) (fun fl s' hs=>?_) fun e s' hs=>hs;have fin:∀{σ':St}{H':Hp}{v:V}{u:Value},A0 (K9 CX P w K mg base N qual scope f cdv A outer s H E) [] σ' H' s'->C1 v u->Q v H'->CE outer P w H s Q u s' :=
  fun {σ' H' v u} J rv q=>⟨v,H',J.os,J.bare,J.base,J.hok,rv,q⟩
 cases fl with
 | ret u =>
  obtain⟨v,σ',H',J,rv,q⟩:=hs;exact fin J rv q
 | next =>
  obtain⟨σ',H',J,q⟩:=hs;exact fin (v:=V.non) (u:=Value.none) J rfl q
 | brk =>
  obtain⟨_,_,_,q⟩:=hs;exact False.elim q
 | cont =>
  obtain⟨_,_,_,q⟩:=hs;exact False.elim q
end L2
namespace L2
open PySem PySem.Spec PyProof.Rows
section
variable {X:Cx}{x:Str}{p pos:Pos}{e:Expr}{es:List Expr}{t:TA}{id T:String}{r:List V->Hp->VK->Prop}
def tCB (r:List V->Hp->VK->Prop)(t:TA):TE:=fun σ H Q=>t σ H fun vs H1=>r vs H1 Q
def Z4p (hc:Q2m X (.builtin id) r)(hg:Gl X x)(hm:X.mg x=none)(hv:bootBuiltins x=some (.builtin id))(ha:PA X (e::es) t)(hn:x≠"__name__":=by decide)(cR:(x==("__debug__":Str))=false:=by decide)
  (he:starEach (e::es) X.env=(false,eval e X.env)::starEach es X.env:=by rfl) (hpl:(backTo pos (starEach es X.env)).any (·.1)=false:=by rfl):PE X (.Call (.Name x p) (e::es) [] pos) (tCB r t):=by
 intro a9 s σ H Q I h;refine bc (Y9 I hg hm hv ?_ hn cR);exact PyProof.Rows.callWith_builtin1 (B4 (ha pos a9 s σ H _ I h) fun us s1 ⟨vs,H1,I1,r1,q1⟩=>hc a9 s1 σ H1 vs us Q I1 r1 q1) he hpl
def W6p (hc:Q2m X (.type T) r)(hg:Gl X x)(hm:X.mg x=none)(hv:bootBuiltins x=some (.type T))(ha:PA X (e::es) t)(hn:x≠"__name__":=by decide)(cR:(x==("__debug__":Str))=false:=by decide)
  (he:starEach (e::es) X.env=(false,eval e X.env)::starEach es X.env:=by rfl) (hpl:(backTo pos (starEach es X.env)).any (·.1)=false:=by rfl):PE X (.Call (.Name x p) (e::es) [] pos) (tCB r t):=by
 intro a9 s σ H Q I h;refine bc (Y9 I hg hm hv ?_ hn cR);exact bg (B4 (ha pos a9 s σ H _ I h) fun us s1 ⟨vs,H1,I1,r1,q1⟩=>hc a9 s1 σ H1 vs us Q I1 r1 q1) he hpl
end
end L2
namespace HT
open PySem PyProof.Rows
section
variable {prog:Program}{w:World}{A:Around}{E:VS9}{s:Shared}
def cat_tup {t b:Addr}{vs ws:List Value}{Q:VS9}(ht:IsTup s.heap t vs.toArray)(hb:IsTup s.heap b ws.toArray)(hv:vs≠[])
  (h1:ws=[]->Q (.ref t) s) (h2:ws≠[]->Q (.ref s.heap.objs.size) { s with heap:=s.heap.push { cls:=.type "tuple",data:=.seq (vs++ws).toArray } })
  (hsz:vs.length+ws.length<=sizeLine):wpAny (model prog w) A (binaryOp .Add (.ref t) (.ref b)) Q E s:=by
 obtain⟨⟨cls,dd,data,sl⟩,ho,hc,n,hd⟩:=id ht;obtain⟨⟨kN,jK,data2,gL⟩,gh,fM,n2,gO⟩:=id hb;simp only at hc hd fM gO;subst hc hd fM gO;have e:vs.toArray++ws.toArray=(vs++ws).toArray:=by simp
 by_cases hw:ws=[]
 ·exact concat_meets ⟨_,ho,rfl⟩ ⟨_,gh,rfl⟩ noFill_tuple_add seq_tuple_add PySem.F.slot_tuple_add PySem.F.entry_tuple_add (PySem.F.args_tuple_add_2 _ _)
   (tuple_addW1 t b vs.toArray ws.toArray n n2 dd jK sl gL (by simpa using hv) (by simp [hw])) ⟨ho,gh,h1 hw⟩
 ·refine concat_meets ⟨_,ho,rfl⟩ ⟨_,gh,rfl⟩ noFill_tuple_add seq_tuple_add PySem.F.slot_tuple_add PySem.F.entry_tuple_add (PySem.F.args_tuple_add_2 _ _)
   (tuple_addW2 t b vs.toArray ws.toArray n n2 dd jK sl gL (by simpa using hv) (by simpa using hw) (by rw [aH,aH];exact hsz)) ⟨ho,gh,?_⟩
  rw [e];exact h2 hw
def sIx (n d:Nat):Option Int->Nat
 | none=>d
 | some v=>if v<0 then(v+(n:Int)).toNat else min v.toNat n
theorem sIx_none (n d:Nat):sIx n d none=d:=rfl
def sIx_nat (n d k:Nat):sIx n d (some (k:Int))=min k n:=by
 show(if (k:Int)<0 then((k:Int)+(n:Int)).toNat else min (k:Int).toNat n)=min k n;rw [az (by omega),b7]
theorem V0c (n d:Nat)(hd:d<=n)(o:Option Int):sIx n d o<=n:=by
 cases o with
 | none=>exact hd
 | some v =>
  show(if v<0 then(v+(n:Int)).toNat else min v.toNat n)<=n
  by_cases hv:v<0
  ·rw [aG hv];omega
  ·rw [az hv];exact Nat.min_le_right _ _
def Z9z (v:Int)(n d:Nat):(if v<0 then max (v+(n:Int)) 0 else min v (n:Int))=((sIx n d (some v):Nat):Int):=by
 show(if v<0 then max (v+(n:Int)) 0 else min v (n:Int))=(((if v<0 then(v+(n:Int)).toNat else min v.toNat n):Nat):Int)
 by_cases hv:v<0
 ·simp only [aG hv];omega
 ·simp only [az hv];omega
def Y8q (lo hi:Option Int)(n:Nat):Builtin.Slice.sliceAdjust lo hi 1 (n:Int)=(((sIx n 0 lo:Nat):Int),((sIx n n hi:Nat):Int)):=by
 have h1:¬ ((1:Int)<0):=by omega
 unfold Builtin.Slice.sliceAdjust;simp only [h1,eO];refine Prod.ext ?_ ?_
 ·cases lo with
  | none=>rfl
  | some v=>exact Z9z v n 0
 ·cases hi with
  | none=>rfl
  | some v=>exact Z9z v n n
def W7m (i j:Nat):Builtin.Slice.slicePlaces (i:Int) (j:Int) 1=j-i:=by
 unfold Builtin.Slice.slicePlaces;have h1:(1:Int) > 0:=by omega
 simp only [h1,gT,Int.ediv_one];split <;> omega
theorem Y5s {v:Value}{o:Option Int}{Q:Option Int->Shared->Prop}(p:IsPart v o)(h:Q o s):wpAny (model prog w) A (Builtin.Slice.slicePartIndex v) Q E s:=by
 cases p with
 | none=>exact slicePart_none h
 | int i t=>exact slicePart_int h
def Y5r {sl:Addr}{vl vu:Value}{lo hi:Option Int}{n:Nat}{Q:Int×Int×Nat->Shared->Prop}(hs:s.heap.IsSliceOf sl vl vu .none)(pl:IsPart vl lo)(pu:IsPart vu hi)
  (h:Q (((sIx n 0 lo:Nat):Int),1,sIx n n hi-sIx n 0 lo) s):wpAny (model prog w) A (Builtin.Slice.sliceApplied (.ref sl) (pure (n:Int))) Q E s:=by
 obtain⟨os,fJ,g6,g5⟩:=id hs;unfold Builtin.Slice.sliceApplied Builtin.Slice.sliceFields;refine a8 (a8 (cJ fJ g5 (x:=vl) rfl (a8 (cJ fJ g5 (x:=vu) rfl (a8 (cJ fJ g5 (x:=.none) rfl (ao ?_)))))));refine a8 (slicePart_none ?_);show wpAny _ _ (if ((1:Int)==0)=true then _ else _) _ _ s;rw [az (by decide)];refine a8 (Y5s pl (a8 (Y5s pu (a8 (ao ?_)))));show wpAny _ _ (match Builtin.Slice.sliceAdjust lo hi 1 (n:Int)with | (lo,hi)=>pure (lo,(1:Int),Builtin.Slice.slicePlaces lo hi 1)) _ _ s;rw [Y8q lo hi n];show wpAny _ _ (pure (((sIx n 0 lo:Nat):Int),(1:Int),Builtin.Slice.slicePlaces ((sIx n 0 lo:Nat):Int) ((sIx n n hi:Nat):Int) 1)) _ _ s;rw [W7m];exact ao h
def W7l (xs:Array Value)(i k:Nat):((List.range k).filterMap fun(m:Nat)=>xs[((i:Int)+(m:Int)*1).toNat]?).toArray=((xs.toList.drop i).take k).toArray:=by
 have e:(fun(m:Nat)=>xs[((i:Int)+(m:Int)*1).toNat]?)=fun m=>xs[i+m]?:=by
  funext m
  have:((i:Int)+(m:Int)*1).toNat=i+m:=by omega
  rw [this]
 rw [e];have:=pick_run xs i k;rw [List.filterMap_map]at this;have e2:((fun x=>xs[x]?) ∘ fun x=>i+x)=fun m=>xs[i+m]?:=rfl;rw [e2]at this;rw [this]
def getItem_tuple_cut {t sl:Addr}{items:Array Value}{vl vu:Value}{lo hi:Option Int}{Q:VS9}(ht:IsTup s.heap t items)(hs:s.heap.IsSliceOf sl vl vu .none)(pl:IsPart vl lo)(pu:IsPart vu hi)
  (hw:¬ (sIx items.size 0 lo=0/\sIx items.size items.size hi=items.size))
  (h:Q (.ref s.heap.objs.size) { s with heap:=s.heap.push { cls:=.type "tuple",data:=.seq ((items.toList.drop (sIx items.size 0 lo)).take (sIx items.size items.size hi-sIx items.size 0 lo)).toArray } })
  (hsz:items.size<=sizeLine):wpAny (model prog w) A (getItem (.ref t) (.ref sl)) Q E s:=by
 have fI:sizeOk (.seq ((items.toList.drop (sIx items.size 0 lo)).take (sIx items.size items.size hi-sIx items.size 0 lo)).toArray):=by
  show((items.toList.drop (sIx items.size 0 lo)).take (sIx items.size items.size hi-sIx items.size 0 lo)).toArray.size<=sizeLine;rw [aH,dz,gn,bz];omega
 have hj:sIx items.size items.size hi<=items.size:=V0c _ _ (aq _) hi;obtain⟨os,fJ,g6,g5⟩:=id hs;have mX:s.TypeIs (.ref sl) "slice":=⟨os,fJ,g6⟩
 unfold getItem
 try with_reducible refine bG ?_
 first | refine a8 (ao ?_) | skip
 refine a8 (wpAny_sequenceKey ht.typeIs (by decide) ?_);refine a8 (cA (name:=Str.ofString "__getitem__") ht.typeIs bN
  (cb bN ht.typeIs entry_tuple_getitem ?_ (args_tuple_getitem _ _)))
 show wpAny _ _ (Builtin.Tuple.tupleItemsOf (.ref t)>>=_) _ _ s;refine a8 (tupleItemsOf_ ht ?_);refine a8 (wpAny_typeOf mX ?_);rw [aG (by decide)];refine a8 (Y5r hs pl pu ?_);have qq:¬ ((((sIx items.size 0 lo:Nat):Int)==0&&(1:Int)==1&&(sIx items.size items.size hi-sIx items.size 0 lo)==items.size)=true):=by
  intro q;rw [cj,cj]at q;have q1:((sIx items.size 0 lo:Nat):Int)=0:=eq_of_beq q.1.1;have q2:sIx items.size items.size hi-sIx items.size 0 lo=items.size:=eq_of_beq q.2;exact hw ⟨by omega,by omega⟩
 show wpAny _ _ (if (((sIx items.size 0 lo:Nat):Int)==0&&(1:Int)==1&&(sIx items.size items.size hi-sIx items.size 0 lo)==items.size)=true then _ else _) _ _ s;rw [az qq,W7l]
 first
  | exact a8 (m:=Builtin.Tuple.tupleExact _) (bx (ao ⟨_,rfl,ao h⟩) fI)
  | exact a8 (m:=Builtin.Tuple.tupleExact _) (bx (a8 (ao (ao ⟨_,rfl,ao h⟩))) fI)
  | exact a8 (a8 (m:=Builtin.Tuple.tupleExact _) (bx (ao (ao ⟨_,rfl,ao h⟩)) fI))
  | exact a8 (a8 (m:=Builtin.Tuple.tupleExact _) (bx (ao ⟨_,rfl,ao h⟩) fI))
end
end HT
namespace L2
open PySem PySem.Spec PyProof.Rows
abbrev TO:=St->Hp->(Option Int->Hp->Prop)->Prop
def PO (X:Cx)(e:Option Expr)(t:TO):Prop :=
 ∀(a9:Pn9) (s:Shared) (σ:St) (H:Hp) (Q:Option Int->Hp->Prop),A0 X a9 σ H s->t σ H Q ->
  wpAny (model X.prog X.w) X.A (evalPart e X.env) (fun u s'=>∃o H',A0 X a9 σ H' s'/\IsPart u o/\Q o H') X.xe s
def V2j:TO:=fun _ H Q=>Q none H
def V2k (t:TE):TO:=fun σ H Q=>t σ H fun x H1=>∃i,x=.int i/\Q (some i) H1
section
variable {X:Cx}{e:Expr}{te:TE}{lo hi:Option Expr}{tl th:TO}{pos p2:Pos}
def W7n:PO X none V2j:=by
 intro a9 s σ H Q I h;rw [evalPart_none];exact ao ⟨none,H,I,.none,h⟩
def W7o (h:PE X e te):PO X (some e) (V2k te):=by
 intro a9 s σ H Q I hw;rw [evalPart_some];refine B4 (h a9 s σ H _ I hw) fun u s1 bu=>?_;obtain⟨x,H1,I1,r1,q1⟩:=bu;obtain⟨i,rfl,q⟩:=q1;obtain⟨t,rfl⟩:=r1;exact⟨some i,H1,I1,.int i t,q⟩
def O3 (X:Cx)(r:V->Option Int->Option Int->Hp->VK->Prop):Prop :=
 ∀(a9:Pn9) (s:Shared) (σ:St) (H:Hp) (x:V) (v vl vu:Value) (lo hi:Option Int) (sl:Addr) (Q:VK),A0 X a9 σ H s->C1 x v->s.heap.IsSliceOf sl vl vu .none->IsPart vl lo->IsPart vu hi->r x lo hi H Q ->
  ∃T id,typeLookup (.type T) "__getitem__"=pure (some (.builtin id))/\s.TypeIs v T/\wpAny (model X.prog X.w) X.A (getItem v (.ref sl)) (EP X a9 σ Q) X.xe s
def O3.or {r r':V->Option Int->Option Int->Hp->VK->Prop}(h:O3 X r)(h':O3 X r'):O3 X (fun x lo hi H Q=>r x lo hi H Q\/r' x lo hi H Q):=by
 intro a9 s σ H x v vl vu lo hi sl Q I rx hs pl pu q;rcases q with q | q
 ·exact h a9 s σ H x v vl vu lo hi sl Q I rx hs pl pu q
 ·exact h' a9 s σ H x v vl vu lo hi sl Q I rx hs pl pu q
def tSl (r:V->Option Int->Option Int->Hp->VK->Prop)(te:TE)(tl th:TO):TE:=fun σ H Q=>te σ H fun x H1=>tl σ H1 fun l H2=>th σ H2 fun u H3=>r x l u H3 Q
def W7b {r:V->Option Int->Option Int->Hp->VK->Prop}(hr:O3 X r)(he:PE X e te)(hl:PO X lo tl)(hu:PO X hi th):PE X (.Subscript e (.Slice lo hi none p2) pos) (tSl r te tl th):=by
 intro a9 s σ H Q I h;refine Subscript_ (B4 (he a9 s σ H _ I h) fun v s1 bu=>?_);obtain⟨x,H1,I1,r1,q1⟩:=bu;refine wpAny_Slice (B4 (hl a9 s1 σ H1 _ I1 q1) fun vl s2 ⟨l,H2,I2,pl,q2⟩=>B4 (hu a9 s2 σ H2 _ I2 q2) fun vu s3 bu=>?_);obtain⟨u,H3,I3,pu,q3⟩:=bu;rw [evalPart_none];refine ao ?_;have I4:A0 X a9 σ H3 { s3 with heap:=s3.heap.push { cls:=.type "slice",data:=.fields #[vl,vu,.none] } }:=I3.kept (t':=s3.toks) fun b ob q=>aj _ q;obtain⟨T,id,hT,ht,hg⟩:=hr a9 { s3 with heap:=s3.heap.push { cls:=.type "slice",data:=.fields #[vl,vu,.none] } } σ H3 x v vl vu l u s3.heap.objs.size Q I4 r1 (Heap.IsSliceOf.new ..) pl pu q3;show wpAny (model X.prog X.w) X.A (subscriptTail e (.Slice lo hi none p2) v (.ref s3.heap.objs.size)) (EP X a9 σ Q) X.xe { s3 with heap:=s3.heap.push { cls:=.type "slice",data:=.fields #[vl,vu,.none] } };exact tail_any (ops:=[.ref s3.heap.objs.size,v]) ht hT hg (by with_unfolding_all rfl)
def Q0c (xs:List V)(lo hi:Option Int):List V:=(xs.drop (HT.sIx xs.length 0 lo)).take (HT.sIx xs.length xs.length hi-HT.sIx xs.length 0 lo)
def Y0j (xs:List V)(lo hi:Option Int):(Q0c xs lo hi).length<=xs.length:=by
 unfold Q0c;rw [dz,gn];omega
def rSlT (K:Fg9):V->Option Int->Option Int->Hp->VK->Prop:=fun x lo hi H Q=>∃a xs,x=.ref a/\E1 K H a xs /\
 ¬ (HT.sIx xs.length 0 lo=0/\HT.sIx xs.length xs.length hi=xs.length)/\∀p,H p=none->Q (.ref p) (upd H p (.tup (Q0c xs lo hi)))
def V1m:O3 X (rSlT X.K):=by
 intro a9 s σ H x v vl vu lo hi sl Q I rx hs pl pu h;obtain⟨a,xs,rfl,hx,hw,q⟩:=h;cases rx;obtain⟨aP,r,ht,hz⟩:=I.tuple hx;have bD:aP.toArray.size=xs.length:=by rw [aH];exact r.length.symm
 refine⟨"tuple",_,bN.lookup,ht.typeIs,?_⟩;refine HT.getItem_tuple_cut ht hs pl pu (by rw [bD];exact hw) ?_ (by rw [bD];exact hz);rw [bD];refine⟨.ref s.heap.objs.size,_,I.laid (t':=s.toks) (o:=.tup (Q0c xs lo hi)) (fun b ob q=>aj _ q) (aq _) ?_,rfl,q _ (I.hok.fresh (aq _))⟩;exact⟨aS (Y0j xs lo hi) hz,_,(r.drop (HT.sIx xs.length 0 lo)).take (HT.sIx xs.length xs.length hi-HT.sIx xs.length 0 lo),IsTup.new _ _⟩
def W8n (K:Fg9):R2:=fun x y H Q=>∃a b xs ys,x=.ref a/\y=.ref b/\E1 K H a xs/\E1 K H b ys/\xs≠[]/\xs.length+ys.length<=sizeLine /\
 (ys=[]->Q (.ref a) H)/\(ys≠[]->∀p,H p=none->Q (.ref p) (upd H p (.tup (xs++ys))))
theorem C0.nil_iff {xs:List V}{us:List Value}(r:C0 xs us):us=[] ↔ xs=[]:=by
 cases r with
 | nil=>simp
 | cons _ _=>simp
def W5y:M4 X (binaryOp .Add) (W8n X.K):=by
 intro a9 s σ H x y v u Q I rx ry h;obtain⟨a,b,xs,ys,rfl,rfl,ha,hb,hx,hz,q1,q2⟩:=h;cases rx;cases ry;obtain⟨aP,r1,p1,_⟩:=I.tuple ha;obtain⟨cW,r2,p2,_⟩:=I.tuple hb;refine HT.cat_tup p1 p2 (fun z=>hx (r1.nil_iff.mp z)) (fun z=>⟨.ref a,H,I,rfl,q1 (r2.nil_iff.mp z)⟩) (fun z=>?_) (by rw [<- r1.length,<- r2.length];exact hz);refine⟨.ref s.heap.objs.size,_,I.laid (t':=s.toks) (o:=.tup (xs++ys)) (fun b ob q=>aj _ q) (aq _) ?_,rfl,q2 (fun w=>z (r2.nil_iff.mpr w)) _ (I.hok.fresh (aq _))⟩;exact⟨by rw [ai];exact hz,_,r1.append r2,IsTup.new _ _⟩
end
end L2
namespace L2
open PySem PySem.Spec PyProof.Rows
def ixN (n:Nat)(i:Int):Option Nat:=if 0<=i then(if i<n then some i.toNat else none)else if -(n:Int)<=i then some (i+n).toNat else none
def K8 {α:Type}(xs:List α)(i:Int):Option α:=(ixN xs.length i).bind fun j=>xs[j]?
def Z3l {n:Nat}{i:Int}{j:Nat}(h:ixN n i=some j):seqIndex? i n=some j/\j<n/\-(n:Int)<=i/\i<n:=by
 unfold ixN at h
 by_cases h0:0<=i
 ·rw [aG h0]at h
  by_cases h1:i<n
  ·rw [aG h1]at h;have e:i.toNat=j:=aA h;exact⟨by rw [seqIndex_of h0 h1,e],by omega,by omega,h1⟩
  ·rw [az h1]at h;cases h
 ·rw [az h0]at h
  by_cases h1:-(n:Int)<=i
  ·rw [aG h1]at h;have e:(i+n).toNat=j:=aA h;exact⟨by rw [seqIndex_neg (by omega) h1,e],by omega,h1,by omega⟩
  ·rw [az h1]at h;cases h
theorem Q8m {α:Type}{xs:List α}{i:Int}{v:α}(h:K8 xs i=some v):∃j,seqIndex? i xs.length=some j/\xs[j]?=some v/\j<xs.length/\-(xs.length:Int)<=i/\i<xs.length:=by
 unfold K8 at h;cases e:ixN xs.length i with
 | none=>rw [e]at h;cases h
 | some j =>
  rw [e]at h;obtain⟨h1,h2,h3,h4⟩:=Z3l e;exact⟨j,h1,h,h2,h3,h4⟩
def V9 {α:Type}{xs:List α}{j:Nat}{v:α}(h:xs[j]?=some v):K8 xs (j:Int)=some v:=by
 have hj:j<xs.length:=(av.mp h).1;have e:ixN xs.length (j:Int)=some j:=by
  unfold ixN;rw [aG (by omega),aG (by omega)];simp
 unfold K8;rw [e];exact h
def Z1q (b:Expr):Prop:=∀o i,subscripted b false o i=operate [o,i] (getItem o i)
def IxR (X:Cx)(r:R2):Prop :=
 ∀(value slice:Expr) (a9:Pn9) (s:Shared) (σ:St) (H:Hp) (x y:V) (v u:Value) (Q:VK),A0 X a9 σ H s->C1 x v->C1 y u->r x y H Q ->
  subscripted slice false v u=operate [v,u] (getItem v u)->wpAny (model X.prog X.w) X.A (subscriptTail value slice v u) (EP X a9 σ Q) X.xe s
def MtR (X:Cx)(id:String)(r:V->List V->Hp->VK->Prop):Prop :=
 ∀(a9:Pn9) (s:Shared) (σ:St) (H:Hp) (x:V) (xs:List V) (v:Value) (us:List Value) (Q:VK),A0 X a9 σ H s->C1 x v->C0 xs us->r x xs H Q ->
  wpAny (model X.prog X.w) X.A (call (.builtin id) (v::us)) (EP X a9 σ Q) X.xe s
section
variable {X:Cx}{a b:Expr}{ta tb:TE}{pos:Pos}
def IxR.or {r r':R2}(h:IxR X r)(h':IxR X r'):IxR X (fun x y H Q=>r x y H Q\/r' x y H Q):=by
 intro value slice a9 s σ H x y v u Q I rx ry q hs;rcases q with q | q
 ·exact h value slice a9 s σ H x y v u Q I rx ry q hs
 ·exact h' value slice a9 s σ H x y v u Q I rx ry q hs
def Y3k {r:R2}(hr:IxR X r)(ha:PE X a ta)(hb:PE X b tb)(hs:Z1q b):PE X (.Subscript a b pos) (tOp r ta tb):=by
 intro a9 s σ H Q I h;exact Subscript_ (Z2a ha hb I h fun v u s2 x y H2 I2 rx ry q=>hr a b a9 s2 σ H2 x y v u Q I2 rx ry q (hs _ _))
def rIxL (K:Fg9):R2:=fun x y H Q=>∃p xs i v,x=.ref p/\y=.int i/\D7 K H p xs/\K8 xs i=some v/\Q v H
def rIxT (K:Fg9):R2:=fun x y H Q=>∃p xs i v,x=.ref p/\y=.int i/\E1 K H p xs/\K8 xs i=some v/\Q v H
def rIxS:R2:=fun x y H Q=>∃z i c,x=.str z/\y=.int i/\z.length<=sizeLine/\K8 z.cps.toList i=some c/\Q (.str ⟨#[c]⟩) H
def W2x:IxR X (rIxL X.K):=by
 intro value slice a9 s σ H x y v u Q I rx ry h hs;obtain⟨p,xs,i,z,rfl,rfl,hq,he,q⟩:=h;cases rx;obtain⟨t,rfl⟩:=ry;obtain⟨aP,r,pl,hz⟩:=I.list hq;obtain⟨j,h1,h2,h3,h4,h5⟩:=Q8m he;obtain⟨w,ew,ft⟩:=r.get h2;have hl:=r.length;have hn:=Q2y;have fin:EP X a9 σ Q w s:=⟨z,H,I,ft,q⟩
 by_cases h0:0<=i
 ·have hj:i.toNat=j:=by
   rw [seqIndex_of h0 h5]at h1;exact aA h1
  exact item_listR pl.isList h0 (by omega) (by rw [hj];simpa using ew) fin hs
 ·have hj:(i+(aP.toArray.size:Int)).toNat=j:=by
   rw [seqIndex_neg (by omega) h4]at h1;rw [aH,<- hl];exact aA h1
  exact subscriptTail_builtinR (x:=w) pl.isList.typeIs slot_list_getitem.lookup
   (wpAny_getItem_list_neg (Q:=fun r s'=>r=w/\EP X a9 σ Q r s') pl.isList (by omega) (by rw [aH] <;> omega) (by omega) (by rw [hj];simpa using ew) ⟨rfl,fin⟩) hs
def W3b:IxR X (rIxT X.K):=by
 intro value slice a9 s σ H x y v u Q I rx ry h hs;obtain⟨p,xs,i,z,rfl,rfl,hq,he,q⟩:=h;cases rx;obtain⟨t,rfl⟩:=ry;obtain⟨aP,r,pl,hz⟩:=I.tuple hq;obtain⟨j,h1,h2,h3,h4,h5⟩:=Q8m he;obtain⟨w,ew,ft⟩:=r.get h2;have hl:=r.length;have hn:=Q2y;have fin:EP X a9 σ Q w s:=⟨z,H,I,ft,q⟩
 exact subscriptTail_builtinR (x:=w) pl.typeIs slot_tuple_getitem.lookup
  (getItem_tuple (j:=j) (Q:=fun r s'=>r=w/\EP X a9 σ Q r s') pl (by omega) (by omega) (by rw [aH,<- hl];exact h1) (by simpa using ew) ⟨rfl,fin⟩) hs
def W3a:IxR X rIxS:=by
 intro value slice a9 s σ H x y v u Q I rx ry h hs;obtain⟨z,i,c,rfl,rfl,hz,he,q⟩:=h;obtain⟨t,rfl⟩:=rx;obtain⟨t',rfl⟩:=ry;obtain⟨j,h1,h2,h3,h4,h5⟩:=Q8m he;have hl:z.cps.toList.length=z.length:=by simp [Str.length]
 rw [hl]at h1 h4 h5;have hn:=Q2y;exact tail_any (typeIs_str s z t) slot_str_getitem.lookup (getItem_str (c:=c) (by
  have e1:decide (i < -(2 ^ 63:Int))=false:=bb (by omega);have e2:decide (i ≥ 2 ^ 63)=false:=bb (by omega);rw [e1,e2,Bool.or_false]) (by rw [h1];simpa using h2) ⟨.str ⟨#[c]⟩,H,I.tok _,⟨_,rfl⟩,q⟩) hs
def rIx (K:Fg9):R2:=fun x y H Q=>rIxL K x y H Q\/rIxT K x y H Q\/rIxS x y H Q
def W2y:IxR X (rIx X.K):=W2x.or (W3b.or W3a)
def W4j (aP:List Value)(n j:Nat)(u:Value):Obj.mapSeq (·.setIfInBounds j u) { cls:=.type "list",data:=.seq aP.toArray n }={ cls:=.type "list",data:=.seq (aP.set j u).toArray n }:=by
 simp [Obj.mapSeq]
def A0.lst {a9:Pn9}{σ:St}{H:Hp}{s:Shared}{p:Addr}{xs:List V}(I:A0 X a9 σ H s)(h:H p=some (.lst xs)) :
  ∃(aP:List Value) (n:Nat),C0 xs aP/\s.heap.get? p=some { cls:=.type "list",data:=.seq aP.toArray n }/\xs.length<=sizeLine:=by
 obtain⟨z,aP,n,r,e⟩:=I.hok p _ h;exact⟨aP,n,r,e,z⟩
def A0.lstUpd {a9:Pn9}{σ:St}{H:Hp}{s:Shared}{p:Addr}{xs ys:List V}{aP its':List Value}{n n':Nat}{f:Obj->Obj}(I:A0 X a9 σ H s)(h:H p=some (.lst xs))
  (ho:s.heap.get? p=some { cls:=.type "list",data:=.seq aP.toArray n }) (hf:f { cls:=.type "list",data:=.seq aP.toArray n }={ cls:=.type "list",data:=.seq its'.toArray n' }) (r:C0 ys its') (hz:ys.length<=sizeLine) (t:Nat) :
  A0 X a9 σ (upd H p (.lst ys)) { s with heap:=s.heap.update p f,toks:=t }:=by
 have e:(s.heap.update p f).get? p=some { cls:=.type "list",data:=.seq its'.toArray n' }:=by
  rw [cU f ho (by rw [hf] <;> rfl),hf]
 refine I.write (x:=p) (e:=p) (by rw [h];trivial) (.inl rfl) (fun b u hb q=>(Heap.get?_update_other _ _ (cF hb)).trans q) ⟨_,e⟩ ?_;exact⟨hz,its',n',r,e⟩
def W8p:V->V->V->Hp->(Hp->Prop)->Prop:=fun o i v H Q=>∃p xs k j,o=.ref p/\i=.int k/\H p=some (.lst xs)/\ixN xs.length k=some j/\Q (upd H p (.lst (xs.set j v)))
def Y5n:Z1p X W8p:=by
 intro a9 s σ H o i v ov iv u Q I ro ri rv h;obtain⟨p,xs,k,j,rfl,rfl,hp,hj,q⟩:=h;cases ro;obtain⟨t,rfl⟩:=ri;obtain⟨aP,n,r,ho,hz⟩:=I.lst hp;obtain⟨h1,h2,h3,h4⟩:=Z3l hj;have hl:=r.length;have hn:=Q2y;have I':A0 X a9 σ (upd H p (.lst (xs.set j v))) { s with heap:=s.heap.update p (Obj.mapSeq (·.setIfInBounds j u)) } :=
  I.lstUpd hp ho (W4j aP n j u) (r.set rv j) (by rw [bM];exact hz) s.toks
 by_cases h0:0<=k
 ·have hk:k.toNat=j:=by
   rw [seqIndex_of h0 h4]at h1;exact aA h1
  exact PySem.W.ki_setAt ho h0 (by omega) (by rw [aH,<- hl];exact h4) (by rw [hk];exact⟨_,I',q⟩)
 ·have hk:(k+(aP.toArray.size:Int)).toNat=j:=by
   rw [seqIndex_neg (by omega) h3]at h1;rw [aH,<- hl];exact aA h1
  exact PySem.W.ki_setBack ho (by omega) (by rw [aH,<- hl];exact h3) (by omega) (by rw [hk];exact⟨_,I',q⟩)
def V1p (lo hi:Option Int)(n:Nat):(sliceBounds lo hi none n).1=((HT.sIx n 0 lo:Nat):Int)/\(sliceBounds lo hi none n).2.1=((HT.sIx n n hi:Nat):Int)/\(sliceBounds lo hi none n).2.2=1:=by
 refine⟨?_,?_,rfl⟩
 ·cases lo with
  | none=>simp [sliceBounds,HT.sIx]
  | some i =>
   simp only [sliceBounds,HT.sIx,Option.getD_none,show(1:Int) > 0 by decide,gT]
   by_cases h:i<0
   ·simp only [h,gT] <;> omega
   ·simp only [h,eO] <;> omega
 ·cases hi with
  | none=>simp [sliceBounds,HT.sIx]
  | some i =>
   simp only [sliceBounds,HT.sIx,Option.getD_none,show(1:Int) > 0 by decide,gT]
   by_cases h:i<0
   ·simp only [h,gT] <;> omega
   ·simp only [h,eO] <;> omega
def V1o (aP:List Value)(lo hi:Option Int):slicePick aP.toArray lo hi none=((aP.drop (HT.sIx aP.length 0 lo)).take (HT.sIx aP.length aP.length hi-HT.sIx aP.length 0 lo)).toArray:=by
 obtain⟨h1,h2,h3⟩:=V1p lo hi aP.toArray.size;unfold slicePick;rw [h1,h2,h3];simp only [sliceRange_one,pick_run,aH] <;> rfl
def rSlL (K:Fg9):V->Option Int->Option Int->Hp->VK->Prop:=fun x lo hi H Q=>∃a xs,x=.ref a/\D7 K H a xs/\∀p,H p=none->Q (.ref p) (upd H p (.lst (Q0c xs lo hi)))
def V1k:O3 X (rSlL X.K):=by
 intro a9 s σ H x v vl vu lo hi sl Q I rx hs pl pu h;obtain⟨a,xs,rfl,hx,q⟩:=h;cases rx;obtain⟨aP,r,ht,hz⟩:=I.list hx;have bD:=r.length;refine⟨"list",_,slot_list_getitem.lookup,ht.isList.typeIs,?_⟩;refine wpAny_getItem_list_slice ht.isList hs pl pu .none (by simp) ?_ (by rw [aH] <;> omega);rw [V1o,<- bD];refine⟨.ref s.heap.objs.size,_,I.laid (t':=s.toks) (o:=.lst (Q0c xs lo hi)) (fun b ob q=>aj _ q) (aq _) ?_,rfl,q _ (I.hok.fresh (aq _))⟩;exact⟨aS (Y0j xs lo hi) hz,_,0,(r.drop (HT.sIx xs.length 0 lo)).take (HT.sIx xs.length xs.length hi-HT.sIx xs.length 0 lo),aI _ rfl⟩
def Y9k:Q2m X (.type "list") (fun xs H Q=>∃p ys,xs=[.ref p]/\(D7 X.K H p ys\/E1 X.K H p ys)/\∀l,H l=none->Q (.ref l) (upd H l (.lst ys))):=by
 intro a9 s σ H xs us Q I r h;obtain⟨p,ys,rfl,hq,q⟩:=h;obtain⟨u,rfl,rx⟩:=T4 r;cases rx;have fin:∀(aP:List Value),C0 ys aP->ys.length<=sizeLine->∀(h':Heap) (c':Nat),(∀b o',s.heap.get? b=some o'->h'.get? b=some o') ->
   h'.get? s.heap.objs.size=some { cls:=.type "list",dict:=none,data:=.seq aP.toArray c',slots:=#[] }->EP X a9 σ Q (.ref s.heap.objs.size) { s with heap:=h' }:=fun aP r' hz h' c' kp e =>
  ⟨.ref s.heap.objs.size,_,I.laid (t':=s.toks) kp (aq _) (show ObjOk X.prog X.w _ h' _ (.lst ys)from⟨hz,aP,c',r',e⟩),rfl,q _ (I.hok.fresh (aq _))⟩
 rcases hq with hq | hq
 ·obtain⟨aP,r',pl,hz⟩:=I.list hq;have bD:=r'.length;obtain⟨o,ho,hc,n,hd⟩:=pl.isList;exact call_list_seq p (.inl rfl) ho hc hd (fun h' c' kp e=>fin aP r' hz h' c' kp e) (by simp only [aH] <;> omega)
 ·obtain⟨aP,r',pl,hz⟩:=I.tuple hq;have bD:=r'.length;obtain⟨o,ho,hc,n,hd⟩:=pl;exact call_list_seq p (.inr rfl) ho hc hd (fun h' c' kp e=>fin aP r' hz h' c' kp e) (by simp only [aH] <;> omega)
def Y9n:Q2m X (.type "tuple") (fun xs H Q=>∃p ys,xs=[.ref p]/\((D7 X.K H p ys/\∀l,H l=none->Q (.ref l) (upd H l (.tup ys)))\/(E1 X.K H p ys/\Q (.ref p) H))):=by
 intro a9 s σ H xs us Q I r h;obtain⟨p,ys,rfl,h⟩:=h;obtain⟨u,rfl,rx⟩:=T4 r;cases rx;rcases h with⟨hq,q⟩ | ⟨hq,q⟩
 ·obtain⟨aP,r',pl,hz⟩:=I.list hq;have bD:=r'.length;refine call_tuple_list pl.isList (fun h' kp=>?_) (by simp only [aH] <;> omega);have I1:A0 X a9 σ H { s with heap:=h' }:=I.kept (t':=s.toks) kp;have I2:A0 X a9 σ (upd H h'.objs.size (.tup ys)) { s with heap:=h'.push { cls:=.type "tuple",data:=.seq aP.toArray } } :=
   I1.laid (t':=s.toks) (fun b o e=>aj _ e) (aq _) (show ObjOk X.prog X.w _ _ _ (.tup ys)from⟨hz,aP,r',IsTup.new _ _⟩)
  exact⟨.ref h'.objs.size,_,I2,rfl,q _ (I1.hok.fresh (aq _))⟩
 ·obtain⟨aP,r',pl,hz⟩:=I.tuple hq;exact call_tuple_same pl ⟨.ref p,H,I,rfl,q⟩
def tyV (K:Fg9)(T:String)(x:V)(H:Hp):Prop:=match x with
 | .str _=>T="str"
 | .int _=>T="int"
 | .ref p=>(T="list"/\∃xs,D7 K H p xs)\/(T="tuple"/\∃o,K.lookup p=some o/\o.cls=.type "tuple"/\o.dict=none) \/
   (T="dict"/\((∃kvs,H p=some (.dK kvs))\/∃kvs,H p=some (.dT kvs)))\/(T="set"/\∃S n,H p=some (.set S n))
 | _=>False
theorem Y6q {a9:Pn9}{σ:St}{H:Hp}{s:Shared}{T:String}{x:V}{v:Value}(I:A0 X a9 σ H s)(r:C1 x v)(ty:tyV X.K T x H) :
  s.TypeIs v T/\∀a,v=.ref a->∃ob,s.heap.get? a=some ob/\ob.dict=none:=by
 cases x with
 | str z =>
  obtain⟨t,rfl⟩:=r;cases (show T="str" from ty);exact⟨typeIs_str s z t,fun _ e=>nomatch e⟩
 | int i =>
  obtain⟨t,rfl⟩:=r;cases (show T="int" from ty);exact⟨typeIs_int s i t,fun _ e=>nomatch e⟩
 | ref p =>
  cases r;rcases ty with⟨rfl,xs,hq⟩ | ⟨rfl,o,hk,hc,hd⟩ | ⟨rfl,hk⟩ | ⟨rfl,S,n,hk⟩
  ·obtain⟨aP,_,pl,_⟩:=I.list hq;refine⟨pl.isList.typeIs,fun a e=>?_⟩;cases e;obtain⟨o,n,e,c,hd,_⟩:=pl;exact⟨o,e,hd⟩
  ·refine⟨⟨o,I.kIn p o hk,hc⟩,fun a e=>?_⟩;cases e;exact⟨o,I.kIn _ o hk,hd⟩
  ·have z:∃o,s.heap.get? p=some o/\o.ExactDict:=by
    rcases hk with⟨kvs,hk⟩ | ⟨kvs,hk⟩
    ·obtain⟨_,_,_,_,o,_,_,e,ex,_⟩:=I.hok p _ hk;exact⟨o,e,ex⟩
    ·obtain⟨_,_,_,_,o,_,_,e,ex,_⟩:=I.hok p _ hk;exact⟨o,e,ex⟩
   obtain⟨o,e,ex⟩:=z;refine⟨⟨o,e,ex.1⟩,fun a e2=>?_⟩;cases e2;exact⟨o,e,ex.2.1⟩
  ·obtain⟨o,_,_,_,e,ex,_⟩:=I.hok p _ hk;refine⟨⟨o,e,ex.1⟩,fun a e2=>?_⟩;cases e2;exact⟨o,e,ex.2.1⟩
 | _=>exact False.elim ty
def tBM0 (K:Fg9)(T:String)(r:V->List V->Hp->VK->Prop)(to:TE):TE:=fun σ H Q=>to σ H fun x H1=>tyV K T x H1/\r x [] H1 Q
def tBM (K:Fg9)(T:String)(r:V->List V->Hp->VK->Prop)(to:TE)(t:TA):TE:=fun σ H Q=>to σ H fun x H1=>tyV K T x H1/\t σ H1 fun xs H2=>r x xs H2 Q
variable {o e:Expr}{es:List Expr}{to:TE}{t:TA}{name:Str}{apos bp:Pos}{T id:String}{r:V->List V->Hp->VK->Prop}
def W6n (pa:PlainAttrs T)(slot:Slot T name id)(gg:typeOf (.builtin id)=pure (.type "method_descriptor"))(hm:MtR X id r)(ho:PE X o to)
  (ck:attributeBase o name X.env (eval o X.env)=eval o X.env:=by rfl) (cw:(apos.endLine==bp.line)=true:=by rfl):PE X (.Call (.Attribute o name apos) [] [] bp) (tBM0 X.K T r to):=by
 intro a9 s σ H Q I h;refine wpAny_Call_method0_late ck cw (B4 (ho a9 s σ H _ I h) fun v s1 bu=>?_);obtain⟨x,H1,I1,r1,ty,q1⟩:=bu;obtain⟨h1,h2⟩:=Y6q I1 r1 ty;exact⟨T,id,pa,slot,gg,h1,h2,Calls.callWith_builtin rfl (PySem.evalArgs_none (hm a9 s1 σ H1 x [] v [] Q I1 r1 .nil q1))⟩
def Q7h (pa:PlainAttrs T)(slot:Slot T name id)(gg:typeOf (.builtin id)=pure (.type "method_descriptor"))(hm:MtR X id r)(ho:PE X o to)(ha:PA X (e::es) t)
  (ck:attributeBase o name X.env (eval o X.env)=eval o X.env:=by rfl)
  (dO:((backTo bp (starEach (e::es) X.env)).all (fun x=>!x.1)&&(backToKw bp (keywordEach [] X.env)).all (fun x=>x.1.isSome)
  &&decide ((e::es).length+([]:List Keyword).length+(if ([]:List Keyword).isEmpty then 0 else 1)<30))=true:=by rfl)
  (cw:(apos.endLine==bp.line)=true:=by rfl) (hs:starEach (e::es) X.env=(false,eval e X.env)::starEach es X.env:=by rfl) (cu:(backTo bp (starEach es X.env)).any (·.1)=false:=by rfl) :
  PE X (.Call (.Attribute o name apos) (e::es) [] bp) (tBM X.K T r to t):=by
 intro a9 s σ H Q I h;refine wpAny_Call_method_late ck dO cw rfl (B4 (ho a9 s σ H _ I h) fun v s1 bu=>?_);obtain⟨x,H1,I1,r1,ty,q1⟩:=bu;obtain⟨h1,h2⟩:=Y6q I1 r1 ty;refine⟨T,id,pa,slot,gg,h1,h2,?_⟩;have hA:=ha bp a9 s1 σ H1 _ I1 q1;rw [hs]at hA ⊢;refine Calls.callWith_builtin (by show(false||(backTo bp (starEach es X.env)).any (·.1))=false;rw [cu] <;> rfl) (gr ?_);exact B4 hA fun us s2 ⟨vs,H2,I2,r2,q2⟩=>hm a9 s2 σ H2 x vs v us Q I2 r1 r2 q2
end
end L2
namespace L2
open PySem PySem.Spec PyProof.Rows
def MtM (X:Cx)(id:String)(r:V->List V->Hp->VK->Prop):Prop :=
 ∀(a9:Pn9) (s:Shared) (σ:St) (H:Hp) (x:V) (xs:List V) (v:Value) (us:List Value) (Q:VK),A0 X a9 σ H s->C1 x v->C0 xs us->r x xs H Q ->
  wpAny (model X.prog X.w) X.A (call (.builtin id) (v::us)) (EP X a9 σ Q) X.xe s
theorem C0.one:∀{x:V}{us:List Value},C0 [x] us->∃u,us=[u]/\C1 x u:=by
 intro x us r;cases r with
 | cons r t=>cases t;exact⟨_,rfl,r⟩
theorem C0.zero:∀{us:List Value},C0 [] us->us=[]
 | _,.nil=>rfl
theorem C0.dropLast {xs:List V}{us:List Value}(h:C0 xs us):C0 xs.dropLast us.dropLast:=by
 induction h with
 | nil=>exact .nil
 | cons r t ih =>
  cases t with
  | nil=>exact .nil
  | cons q t'=>exact .cons r ih
theorem C0.rep {xs:List V}{us:List Value}(h:C0 xs us):∀k:Nat,C0 (List.replicate k xs).flatten (List.replicate k us).flatten
 | 0=>.nil
 | k+1=>by
  rw [cc,cc,cy,cy];exact C0.append h (C0.rep h k)
theorem W0w {α:Type}(l:List α):l.eraseIdx (l.length-1)=l.dropLast:=by
 induction l with
 | nil=>rfl
 | cons a r ih =>
  cases r with
  | nil=>rfl
  | cons b r =>
   have e:(a::b::r).length-1=((b::r).length-1)+1:=by
    have h1:(a::b::r).length=r.length+2:=rfl;have h2:(b::r).length=r.length+1:=rfl;omega
   rw [e,List.eraseIdx_cons_succ,ih]
   all_goals rfl
theorem Y0z (aP:List Value):∀(k:Nat) (bT:List Value),
  List.foldl (fun x1 x2=>x1++x2) bT.toArray (List.replicate k aP.toArray)=(bT++(List.replicate k aP).flatten).toArray
 | 0,bT=>by simp
 | k+1,bT=>by
  have e:bT.toArray++aP.toArray=(bT++aP).toArray:=by simp
  have e2:(bT++aP)++(List.replicate k aP).flatten=bT++(List.replicate (k+1) aP).flatten:=by
   rw [cc,cy,bI]
  rw [<- e2,<- Y0z aP k (bT++aP),<- e,cc,List.foldl_cons]
section
variable {X:Cx}{a9:Pn9}{σ:St}{H:Hp}{s:Shared}{l:Addr}{xs ys:List V}
def A0.lset {aP its':List Value}{n:Nat}{f:Array Value->Array Value}{t':Nat}(I:A0 X a9 σ H s)(hH:H l=some (.lst xs))
  (e:s.heap.get? l=some { cls:=.type "list",data:=.seq aP.toArray n }) (hf:f aP.toArray=its'.toArray) (hv:C0 ys its') (hz:ys.length<=sizeLine) :
  A0 X a9 σ (upd H l (.lst ys)) { s with heap:=s.heap.update l (Obj.mapSeq f),toks:=t' }:=by
 have q:=PySem.IsL.update e f;rw [hf]at q;refine I.write (x:=l) (e:=l) (by rw [hH];exact trivial) (.inl rfl) (fun b' u hb hu=>(Heap.get?_update_other s.heap (Obj.mapSeq f) (cF hb)).trans hu) ⟨_,q⟩ ?_;exact⟨hz,its',_,hv,q⟩
def A0.lnew {aP:List Value}{t':Nat}(I:A0 X a9 σ H s)(hv:C0 ys aP)(hz:ys.length<=sizeLine) :
  A0 X a9 σ (upd H s.heap.objs.size (.lst ys)) { s with heap:=s.heap.push { cls:=.type "list",data:=.seq aP.toArray },toks:=t' } :=
 I.laid (fun _ _ q=>aj _ q) (aq _) ⟨hz,aP,0,hv,aI _ rfl⟩
def A0.fresh (I:A0 X a9 σ H s):H s.heap.objs.size=none:=I.hok.fresh (aq _)
def A0.lstM (I:A0 X a9 σ H s)(hH:H l=some (.lst xs)):xs.length<=sizeLine/\∃(aP:List Value) (n:Nat),C0 xs aP/\xs.length=aP.length/\s.heap.get? l=some { cls:=.type "list",data:=.seq aP.toArray n }:=by
 obtain⟨z,aP,n,r,e⟩:=I.hok l _ hH;exact⟨z,aP,n,r,r.length,e⟩
def W5i {n:Nat}(h:n<=sizeLine):Builtin.List.listTooLong n=false:=by
 unfold Builtin.List.listTooLong;exact bb (by omega)
end
section
variable {X:Cx}
def W8m:V->List V->Hp->VK->Prop:=fun x vs H Q=>∃l xs y,x=.ref l/\vs=[y]/\H l=some (.lst xs)/\xs.length<sizeLine/\Q .non (upd H l (.lst (xs++[y])))
def W4x:MtM X "list.append" W8m:=by
 intro a9 s σ H x vs v us Q I rx rv h;obtain⟨l,xs,y,rfl,rfl,hH,hz,q⟩:=h;cases rx;obtain⟨u,rfl,ru⟩:=rv.one;obtain⟨z,aP,n,r,hl,e⟩:=I.lstM hH;refine call_meets F.slot_list_append ⟨_,e,rfl⟩ F.entry_list_append (F.args_list_append_2 _ _) (PySem.list_append l aP.toArray n u (by rw [aH];omega)) ⟨e,?_⟩;refine⟨.non,_,I.lset (its':=aP++[u]) hH e (by simp) (r.append (.cons ru .nil)) ?_,rfl,q⟩;rw [ai,bh];omega
def rPop:V->List V->Hp->VK->Prop:=fun x vs H Q=>∃l xs y,x=.ref l/\vs=[]/\H l=some (.lst xs)/\xs[xs.length-1]?=some y/\Q y (upd H l (.lst xs.dropLast))
def W5c:MtM X "list.pop" rPop:=by
 intro a9 s σ H x vs v us Q I rx rv h;obtain⟨l,xs,y,rfl,rfl,hH,hy,q⟩:=h;cases rx;have qd:=rv.zero;subst qd;obtain⟨z,aP,n,r,hl,e⟩:=I.lstM hH;obtain⟨u,hu,ru⟩:=r.get hy;have pW:aP.toArray[aP.toArray.size-1]?=some u:=by
  show aP.toArray[aP.length-1]?=some u;rw [<- iT,<- hl];exact hu
 refine call_meets F.slot_list_pop ⟨_,e,rfl⟩ F.entry_list_pop (F.args_list_pop_1 _) (MeetsSeq.list_pop_last l aP.toArray n u pW (by rw [aH];omega)) ⟨e,?_⟩;refine⟨y,_,I.lset (its':=aP.dropLast) hH e ?_ r.dropLast ?_,ru,q⟩
 ·show aP.toArray.eraseIdxIfInBounds (aP.toArray.size-1)=aP.dropLast.toArray;rw [aH,List.eraseIdxIfInBounds_toArray,W0w]
 ·rw [List.length_dropLast];omega
def rCat:R2:=fun x y H Q=>∃l b xs zs,x=.ref l/\y=.ref b/\H l=some (.lst xs)/\H b=some (.lst zs)/\xs.length+zs.length<=sizeLine/\∀p,H p=none->Q (.ref p) (upd H p (.lst (xs++zs)))
def W5x:M4 X (binaryOp .Add) rCat:=by
 intro a9 s σ H x y v u Q I rx ry h;obtain⟨l,b,xs,zs,rfl,rfl,hH,hB,hz,q⟩:=h;cases rx;cases ry;obtain⟨z,aP,n,r,hl,e⟩:=I.lstM hH;obtain⟨z2,cW,n2,r2,qB,e2⟩:=I.lstM hB;refine PySem.P.add_list e e2 ?_ (by rw [aH,aH];omega);have ea:aP.toArray++cW.toArray=(aP++cW).toArray:=by simp
 rw [ea];exact⟨.ref _,_,I.lnew (t':=s.toks) (r.append r2) (by rw [ai];omega),rfl,q _ I.fresh⟩
def rRep:R2:=fun x y H Q=>∃l k xs,x=.ref l/\y=.int k/\H l=some (.lst xs)/\-(2 ^ 63)<=k/\k<2 ^ 63/\xs.length*k.toNat<=sizeLine /\
 ∀p,H p=none->Q (.ref p) (upd H p (.lst (List.replicate k.toNat xs).flatten))
theorem W3r {α:Type}(xs:List α)(k:Nat):(List.replicate k xs).flatten.length=k*xs.length:=by
 induction k with
 | zero=>simp
 | succ k ih=>rw [cc,cy,ai,ih,Nat.succ_mul,Nat.add_comm]
def W6i:M4 X (binaryOp .Mult) rRep:=by
 intro a9 s σ H x y v u Q I rx ry h;obtain⟨l,k,xs,rfl,rfl,hH,h1,h2,hz,q⟩:=h;cases rx;obtain⟨t,rfl⟩:=ry;obtain⟨z,aP,n,r,hl,e⟩:=I.lstM hH;have bD:aP.toArray.size*k.toNat<=sizeLine:=by rw [aH,<- hl];exact hz
 have mR:¬ aP.toArray.size*k.toNat > (2 ^ 63-1) / 8:=by
  have:(sizeLine:Nat)<=(2 ^ 63-1) / 8:=by decide
  omega
 have mI:¬ (!Builtin.List.listFitsIndex k)=true:=by
  rw [fitsIndex_both h1 h2];exact aO
 have kw:¬ Builtin.List.listTooLong (aP.toArray.size*k.toNat)=true:=by
  rw [W5i bD];exact aO
 have fT:List.foldl (fun x1 x2=>x1++x2) #[] (List.replicate (if aP.toArray.isEmpty=true then 0 else k.toNat) aP.toArray)=(List.replicate k.toNat aP).flatten.toArray:=by
  have f0:∀m:Nat,List.foldl (fun x1 x2=>x1++x2) #[] (List.replicate m aP.toArray)=(List.replicate m aP).flatten.toArray:=fun m=>by
   have:=Y0z aP m [];rw [bX]at this;exact this
  rw [f0];cases aP with
  | nil=>simp
  | cons a r'=>rw [az (by simp)]
 refine wpAny_binaryOp_repeat_ref (T:="list") (U:="int") (by decide) ⟨_,e,rfl⟩ (fun s'=>typeIs_int s' k t) noFill_list_mul F.fills_int_mul F.slot_int_rmul repeat_list F.slot_int_index.lookup
  (call_meets F.slot_int_rmul (typeIs_int s k t) F.entry_int_rmul (F.args_int_rmul_2 _ _) (int___rmul___int_list k t l aP.toArray n)
   ⟨e,rfl,⟨_,e,rfl⟩,call_meets F.slot_list_mul ⟨_,e,rfl⟩ F.entry_list_mul (F.args_list_mul_2 _ _) (AutoListH.list___mul___list_int_3 l aP.toArray n k t mI mR kw) ⟨e,?_⟩⟩)
 rw [fT];exact⟨.ref _,_,I.lnew (t':=s.toks) (r.rep k.toNat) (by rw [W3r,Nat.mul_comm];exact hz),rfl,q _ I.fresh⟩
end
end L2
namespace L2
open PySem PySem.Spec PyProof.Rows
section
variable {κ:Type}[DecidableEq κ]
def W9 (kvs:List (κ×V))(k:κ):Option V:=(kvs.find? fun kv=>decide (kv.1=k)).map (·.2)
def S0 (kvs:List (κ×V))(k:κ)(v:V):List (κ×V) :=
 if (kvs.any fun kv=>decide (kv.1=k))=true then kvs.map (fun kv=>if kv.1=k then(kv.1,v)else kv)else kvs++[(k,v)]
def Z0t {p:κ×V}{r:List (κ×V)}{k:κ}(e:p.1=k):W9 (p::r) k=some p.2:=by simp [W9,bn,e]
def Z0s {p:κ×V}{r:List (κ×V)}{k:κ}(e:¬ p.1=k):W9 (p::r) k=W9 r k:=by simp [W9,bn,e]
theorem Y6y (k:κ):∀kvs:List (κ×V),(kvs.any fun kv=>decide (kv.1=k))=(W9 kvs k).isSome
 | []=>rfl
 | p::r=>by
  rw [cx]
  by_cases e:p.1=k
  ·simp only [Z0t e,bo e,Bool.true_or,Option.isSome_some]
  ·rw [Z0s e,bb e,Bool.false_or];exact Y6y k r
def Q9f (kvs:List (κ×V))(k:κ)(v:V):(S0 kvs k v).length<=kvs.length+1:=by
 unfold S0;split
 ·rw [ac];omega
 ·rw [ai,aD,bj];omega
theorem X1.isSome_eq {o:Option V}{u:Option Value}(r:X1 o u):o.isSome=u.isSome:=by
 cases o with
 | none=>cases u with
  | none=>rfl
  | some _=>exact(show False from r).elim
 | some _=>cases u with
  | none=>exact(show False from r).elim
  | some _=>rfl
theorem X1.getD {o:Option V}{u:Option Value}{d:V}{d':Value}(r:X1 o u)(rd:C1 d d'):C1 (o.getD d) (u.getD d'):=by
 cases o with
 | none=>cases u with
  | none=>exact rd
  | some _=>exact(show False from r).elim
 | some _=>cases u with
  | none=>exact(show False from r).elim
  | some _=>exact r
theorem KV.val {kvs:List (κ×V)}{vs:List (κ×Value)}(r:KV kvs vs)(k:κ):X1 (W9 kvs k) (valueAt vs k):=by
 unfold KV at r
 induction r with
 | nil=>exact True.intro
 | @cons p q ps qs h t ih =>
  obtain⟨h1,h2⟩:=h
  by_cases e:p.1=k
  ·have e':q.1=k:=h1.symm.trans e;have b:valueAt (q::qs) k=some q.2:=by simp [valueAt,bn,e']
   rw [Z0t e,b];exact h2
  ·have e':¬ q.1=k:=fun z=>e (h1.trans z);have b:valueAt (q::qs) k=valueAt qs k:=by simp [valueAt,bn,e']
   rw [Z0s e,b];exact ih
theorem KV.any {kvs:List (κ×V)}{vs:List (κ×Value)}(r:KV kvs vs)(k:κ):(kvs.any fun kv=>decide (kv.1=k))=vs.any fun kv=>decide (kv.1=k):=by
 unfold KV at r
 induction r with
 | nil=>rfl
 | cons h t ih=>rw [cx,cx,ih,h.1]
theorem KV.repl {kvs:List (κ×V)}{vs:List (κ×Value)}(r:KV kvs vs)(k:κ){y:V}{u:Value}(ry:C1 y u) :
  KV (kvs.map fun kv=>if kv.1=k then(kv.1,y)else kv) (vs.map fun kv=>if kv.1=k then(kv.1,u)else kv):=by
 unfold KV at r ⊢
 induction r with
 | nil=>exact .nil
 | @cons p q ps qs h t ih =>
  rw [am,am];refine .cons ?_ ih;obtain⟨h1,h2⟩:=h
  by_cases e:p.1=k
  ·rw [aG e,aG (h1.symm.trans e)];exact⟨h1,ry⟩
  ·rw [az e,az (fun z=>e (h1.trans z))];exact⟨h1,h2⟩
def KV.put {kvs:List (κ×V)}{vs:List (κ×Value)}(r:KV kvs vs)(k:κ){y:V}{u:Value}(ry:C1 y u):KV (S0 kvs k y) (stored vs k u):=by
 unfold S0 stored;rw [r.any k]
 by_cases e:(vs.any fun kv=>decide (kv.1=k))=true
 ·rw [aG e,aG e];exact r.repl k ry
 ·rw [az e,az e];exact Paired.snoc r ⟨rfl,ry⟩
def KV.length {kvs:List (κ×V)}{vs:List (κ×Value)}(r:KV kvs vs):kvs.length=vs.length:=Paired.length r
end
theorem Q3w {P:Program}{w:World}{k:B8}{u:Value}(r:C1 (kV k) u):(M2 P w).is k u=true:=by
 cases k with
 | inl i=>obtain⟨t,e⟩:=(show ∃t,u=Value.int i t from r);subst e;exact W4p P w i t
 | inr x=>obtain⟨t,e⟩:=(show ∃t,u=Value.str x t from r);subst e;exact W4q P w x t
theorem Y1y {P:Program}{w:World}:∀{ks:List B8}{us:List Value},C0 (ks.map kV) us->ItemsAre (M2 P w) ks us
 | [],_,r=>by rw [gW]at r;cases r;exact .nil
 | k::ks,_,r=>by
  rw [am]at r;cases r with
  | cons h t=>exact .cons (Q3w h) (Y1y t)
abbrev KT (H:Hp):List (List B8×V)->List (List B8×Addr×Value)->Prop:=Paired fun p q=>p.1=q.1/\H q.2.1=some (.tup (p.1.map kV))/\C1 p.2 q.2.2
theorem KT.val {H:Hp}{kvs:List (List B8×V)}{xs:List (List B8×Addr×Value)}(r:KT H kvs xs)(k:List B8):X1 (W9 kvs k) ((atKey xs k).map (·.2)):=by
 induction r with
 | nil=>exact True.intro
 | @cons p q ps qs h t ih =>
  obtain⟨h1,_,h2⟩:=h
  by_cases e:p.1=k
  ·have e':q.1=k:=h1.symm.trans e;have b:atKey (q::qs) k=some q.2:=by simp [atKey,bn,e']
   rw [Z0t e,b];exact h2
  ·have e':¬ q.1=k:=fun z=>e (h1.trans z);have b:atKey (q::qs) k=atKey qs k:=by simp [atKey,bn,e']
   rw [Z0s e,b];exact ih
theorem KT.repl {H:Hp}{kvs:List (List B8×V)}{xs:List (List B8×Addr×Value)}(r:KT H kvs xs)(k:List B8){y:V}{u:Value}(ry:C1 y u) :
  KT H (kvs.map fun kv=>if kv.1=k then(kv.1,y)else kv) (xs.map (putAt k u)):=by
 induction r with
 | nil=>exact .nil
 | @cons p q ps qs h t ih =>
  rw [am,am];refine .cons ?_ ih;obtain⟨h1,h2,h3⟩:=h;unfold putAt
  by_cases e:p.1=k
  ·rw [aG e,aG (h1.symm.trans e)];exact⟨h1,h2,ry⟩
  ·rw [az e,az (fun z=>e (h1.trans z))];exact⟨h1,h2,h3⟩
def KT.put {H:Hp}{kvs:List (List B8×V)}{xs:List (List B8×Addr×Value)}(r:KT H kvs xs)(k:List B8){b:Addr}{y:V}{u:Value}(hb:H b=some (.tup (k.map kV)))(ry:C1 y u) :
  KT H (S0 kvs k y) (storedH xs k b u):=by
 have e:(kvs.any fun kv=>decide (kv.1=k))=(atKey xs k).isSome:=by
  rw [Y6y,(r.val k).isSome_eq,Option.isSome_map]
 unfold S0 storedH;rw [e]
 by_cases q:(atKey xs k).isSome=true
 ·rw [aG q,aG q];exact r.repl k ry
 ·rw [az q,az q];exact Paired.snoc r ⟨rfl,hb,ry⟩
def KT.keeps {H H':Hp}{kvs:List (List B8×V)}{xs:List (List B8×Addr×Value)}(r:KT H kvs xs)(ht:∀b ys,H b=some (.tup ys)->H' b=some (.tup ys)):KT H' kvs xs :=
 Paired.mapP r fun _ _ z=>⟨z.1,ht _ _ z.2.1,z.2.2⟩
section
variable {P:Program}{w:World}{H:Hp}{h:Heap}{a:Addr}
def Y3v {u:HO}(ok:F7 P w H h)(e:Rd H a u):ObjOk P w H h a u:=e.ok ok
def Q4s {kvs:List (B8×V)}(ok:F7 P w H h)(e:Rd H a (.dK kvs)):kvs.length<=sizeLine/\(a==sysModules)=false/\∃vs,KV kvs vs/\h.DictOf (M2 P w) a vs :=
 show ObjOk P w H h a (.dK kvs)from Y3v ok e
def Z2r {kvs:List (B8×V)}(ok:F7 P w H h)(e:H a=some (.dK kvs)):kvs.length<=sizeLine/\(a==sysModules)=false/\∃vs,KV kvs vs/\h.DictOf (M2 P w) a vs:=Q4s ok (.inl e)
def Q7b {ks:List B8}(ok:F7 P w H h)(e:H a=some (.tup (ks.map kV))):(tupleKind (M2 P w)).is h ks a:=by
 obtain⟨_,aP,r,o,h1,h2,n,h3⟩:=(show ObjOk P w H h a (.tup (ks.map kV))from ok a _ e)
 exact⟨o,aP.toArray,n,h1,h2,h3,by simpa using Y1y r⟩
def Q4t {kvs:List (List B8×V)}(ok:F7 P w H h)(e:Rd H a (.dT kvs)):kvs.length<=sizeLine/\(a==sysModules)=false /\
  ∃xs,KT H kvs xs/\h.DictOfH (tupleKind (M2 P w)) a xs:=by
 obtain⟨z,y,xs,r,o,es,ep,h1,h2,h3,h4,h5⟩:=(show ObjOk P w H h a (.dT kvs)from Y3v ok e)
 refine⟨z,y,xs,r,o,es,ep,h1,h2,h3,h4,fun x hx=>?_,h5⟩;have all:∀{l:List (List B8×V)}{m:List (List B8×Addr×Value)},KT H l m->∀x∈m,(tupleKind (M2 P w)).is h x.1 x.2.1:=by
  intro l m q
  induction q with
  | nil=>intro x hx;exact nomatch hx
  | @cons p q ps qs hq t ih =>
   intro x hx;rcases ar.mp hx with e | hx
   ·subst e;exact Q7b ok (by rw [<- hq.1];exact hq.2.1)
   ·exact ih x hx
 exact all r x hx
def W0o {kvs:List (List B8×V)}(ok:F7 P w H h)(e:H a=some (.dT kvs)):kvs.length<=sizeLine/\(a==sysModules)=false /\
  ∃xs,KT H kvs xs/\h.DictOfH (tupleKind (M2 P w)) a xs:=Q4t ok (.inl e)
end
def Z7 (H:Hp)(a:Addr)(y:V)(r:Option V):Prop :=
 (∃kvs k,Rd H a (.dK kvs)/\y=kV k/\r=W9 kvs k)\/∃kvs k b,Rd H a (.dT kvs)/\y=.ref b/\H b=some (.tup (k.map kV))/\r=W9 kvs k
def Q6g (H:Hp)(a:Addr)(y v:V)(H':Hp):Prop :=
 (∃kvs k,H a=some (.dK kvs)/\y=kV k/\kvs.length<sizeLine/\H'=upd H a (.dK (S0 kvs k v))) \/
 ∃kvs k b,H a=some (.dT kvs)/\y=.ref b/\H b=some (.tup (k.map kV))/\kvs.length<sizeLine/\H'=upd H a (.dT (S0 kvs k v))
def Z7.k {H:Hp}{a:Addr}{kvs:List (B8×V)}{k:B8}(e:H a=some (.dK kvs)):Z7 H a (kV k) (W9 kvs k):=.inl ⟨kvs,k,.inl e,rfl,rfl⟩
def Q6g.k {H:Hp}{a:Addr}{kvs:List (B8×V)}{k:B8}{v:V}(e:H a=some (.dK kvs))(hl:kvs.length<sizeLine):Q6g H a (kV k) v (upd H a (.dK (S0 kvs k v))):=.inl ⟨kvs,k,e,rfl,hl,rfl⟩
section
variable {X:Cx}{a9:Pn9}{σ:St}{H:Hp}{s:Shared}{a:Addr}{y v:V}{u r:Value}{o:Option V}{A:Around}{E:VS9}
def A0.big (I:A0 X a9 σ H s):sysModules<s.heap.objs.size:=by
 have h:mainGlobals<s.heap.objs.size:=(I.mod.glob.keeps I.bk).lt;exact Nat.lt_trans (by decide) h
def W0c {Q:VS9}(hu:A.units+1<cLine)(I:A0 X a9 σ H s)(g:Z7 H a y (some v))(ry:C1 y u)(h:∀w' s',A0 X a9 σ H s'->C1 v w'->Q w' s') :
  wpAny (model X.prog X.w) A (getItem (.ref a) u) Q E s:=by
 rcases g with⟨kvs,k,e,ey,l⟩ | ⟨kvs,k,b,e,ey,eb,l⟩
 ·subst ey;obtain⟨z,hd,vs,rel,dd⟩:=Q4s I.hok e;obtain⟨w',hw,ft⟩:=X1.some_of (v:=v) (o:=valueAt vs k) (by rw [l];exact rel.val k);exact wpAny_getItem_of (Q3w ry) dd.mapOf hw (h w' _ (I.tok _) ft)
 ·subst ey;cases (show u=Value.ref b from ry);obtain⟨z,hd,xs,rel,dd⟩:=Q4t I.hok e;obtain⟨w',hw,ft⟩:=X1.some_of (v:=v) (o:=(atKey xs k).map (·.2)) (by rw [l];exact rel.val k);obtain⟨p,hp,qm⟩:=Option.map_eq_some_iff.mp hw;refine wpAny_getItem_heap (tupleKind_room_in1 hu) (Q7b I.hok eb) dd hp ?_;rw [qm];exact h w' _ (I.tok _) ft
def W0d {Q:VS9}(hu:A.units+1<cLine)(I:A0 X a9 σ H s)(g:Z7 H a y o)(ry:C1 y u)(h:∀s',A0 X a9 σ H s'->Q (.bool (!o.isSome)) s') :
  wpAny (model X.prog X.w) A (compareOp .NotIn u (.ref a)) Q E s:=by
 rcases g with⟨kvs,k,e,ey,l⟩ | ⟨kvs,k,b,e,ey,eb,l⟩
 ·subst ey;obtain⟨z,hd,vs,rel,dd⟩:=Q4s I.hok e;refine wpAny_notIn_of (Q3w ry) hd dd.mapOf ?_;rw [<- (rel.val k).isSome_eq,<- l];exact h _ (I.tok _)
 ·subst ey;cases (show u=Value.ref b from ry);obtain⟨z,hd,xs,rel,dd⟩:=Q4t I.hok e;refine wpAny_notIn_heap (tupleKind_room_in1 hu) (Q7b I.hok eb) hd dd ?_;have q:=(rel.val k).isSome_eq;rw [Option.isSome_map]at q;rw [<- q,<- l];exact h _ (I.tok _)
def Q8t {h':Heap}{t':Nat}{ob:HO}(I:A0 X a9 σ H s)(mu:Mut (H a))(hs:Heap.SameBut a s.heap h')(he:∃q,h'.get? a=some q)(new:ObjOk X.prog X.w (upd H a ob) h' a ob) :
  A0 X a9 σ (upd H a ob) { s with heap:=h',toks:=t' } :=
 I.write (x:=a) (e:=a) mu (.inl rfl) (fun b q hb z=>(hs.2 b hb).trans z) he new
def Y0o {P:Program}{w:World}{H':Hp}{h':Heap}{kvs:List (B8×V)}{vs:List (B8×Value)}(z:kvs.length<=sizeLine)(hd:(a==sysModules)=false)(rel:KV kvs vs)(dd:h'.DictOf (M2 P w) a vs) :
  ObjOk P w H' h' a (.dK kvs):=⟨z,hd,vs,rel,dd⟩
def W0e {H':Hp}{Q:Unit->Shared->Prop}(hu:A.units+1<cLine)(I:A0 X a9 σ H s)(g:Q6g H a y v H')(ry:C1 y u)(rv:C1 v r)(h:∀s',A0 X a9 σ H' s'->Q () s') :
  wpAny (model X.prog X.w) A (setItem (.ref a) u r) Q E s:=by
 rcases g with⟨kvs,k,e,ey,l,eH⟩ | ⟨kvs,k,b,e,ey,eb,l,eH⟩
 ·subst ey eH;obtain⟨z,hd,vs,rel,dd⟩:=Z2r I.hok e;have hz:vs.length<=sizeLine:=by rw [<- rel.length];exact z
  have hl:(S0 kvs k v).length<=sizeLine:=by have:=Q9f kvs k v;omega
  refine wpAny_setItem_pairs (hsz:=hz) (Q3w ry) dd fun h' jv hs=>h _ ?_;have he:∃q,h'.get? a=some q:=let ⟨q,_,_,hq,_⟩:=jv;⟨q,hq⟩;exact Q8t I (by rw [e];exact True.intro) hs he (Y0o hl hd (rel.put k rv) jv)
 ·subst ey eH;cases (show u=Value.ref b from ry);obtain⟨z,hd,xs,rel,dd⟩:=W0o I.hok e;have hz:xs.length<=sizeLine:=by rw [<- Paired.length rel];exact z
  have hl:(S0 kvs k v).length<=sizeLine:=by have:=Q9f kvs k v;omega
  refine wpAny_setItem_heap (hsz:=hz) (tupleKind_room_in1 hu) (Q7b I.hok eb) dd fun h' jv hs=>h _ ?_;obtain⟨q,es,ep,hq,h2,h3,h4,_,h5⟩:=jv;refine Q8t I (by rw [e];exact True.intro) hs ⟨q,hq⟩ ⟨hl,hd,_,(rel.put k eb rv).keeps fun c ys ec=>?_,q,es,ep,hq,h2,h3,h4,h5⟩;rw [B9 (Q0e ec e (fun z=>nomatch z))];exact ec
end
def Z1m (i:Expr):Prop:=∀ov iv,subscripted i false ov iv=operate [ov,iv] (getItem ov iv)
def V1w {prog:Program}{w:World}{A:Around}{E:VS9}{s:Shared}{env:Env}{value slice:Expr}{pos:Pos}{T id:String}{Q:VS9}
  (hl:typeLookup (.type T) "__getitem__"=pure (some (.builtin id))) (hs:Z1m slice)
  (h:wpAny (model prog w) A (eval value env) (fun o s₁=>wpAny (model prog w) A (eval slice env) (fun i s₂=>s₂.TypeIs o T/\wpAny (model prog w) A (getItem o i) Q E s₂) E s₁) E s) :
  wpAny (model prog w) A (eval (.Subscript value slice pos) env) Q E s:=by
 refine Subscript_ (aL h (fun o s₁ h₁=>aL h₁ (fun i s₂ h₂=>?_) fun _ _ x=>x) fun _ _ x=>x);obtain⟨hT,h₂⟩:=h₂;unfold subscriptTail;refine a8 ?_;rw [getitemInPython_of_ne hT.not_modules];refine a8 (wpAny_specialOf hT hl ?_);have fin:wpAny (model prog w) A (subscripted slice false o i) (fun r s₃=>wpAny (model prog w) A (letTemporaryGo value o r>>=fun _=>pure r) Q E s₃) E s₂:=by
  rw [hs o i];exact wpAny_operating (aL h₂ (fun r s₃ h₃=>a8 (wpAny_letTemporaryGo (ao h₃))) fun _ _ x=>x)
 first
  | exact ao (a8 fin)
  | exact a8 (ao (a8 fin))
  | exact a8 fin
def W0h {X:Cx}{a9:Pn9}{σ:St}{H:Hp}{s:Shared}{a:Addr}{y:V}{o:Option V}(I:A0 X a9 σ H s)(g:Z7 H a y o):s.TypeIs (.ref a) "dict":=by
 rcases g with⟨kvs,k,e,_,_⟩ | ⟨kvs,k,b,e,_,_,_⟩
 ·obtain⟨_,_,vs,_,dd⟩:=Q4s I.hok e;exact dd.typeIs
 ·obtain⟨_,_,xs,_,dd⟩:=Q4t I.hok e;exact dd.typeIs
def V2c (td ty:TE):TE:=fun σ H Q=>td σ H fun x H1=>ty σ H1 fun y H2=>∃a v,x=.ref a/\Z7 H2 a y (some v)/\Q v H2
def V2e (ty td:TE):TE:=fun σ H Q=>ty σ H fun y H1=>td σ H1 fun x H2=>∃a o,x=.ref a/\Z7 H2 a y o/\Q (.bl (!o.isSome)) H2
def V0b (td ty tv:TE):TS:=fun D σ H=>tv σ H fun v H1=>td σ H1 fun x H2=>ty σ H2 fun y H3=>∃a H4,x=.ref a/\Q6g H3 a y v H4/\D.nx σ H4
section
variable {X:Cx}{o i value:Expr}{pos bC:Pos}{td ty tv:TE}
def W6r (hu:X.A.units+1<cLine)(ho:PE X o td)(hi:PE X i ty)(hs:Z1m i):PE X (.Subscript o i pos) (V2c td ty):=by
 intro a9 s σ H Q I h;refine V1w PySem.F.slot_dict_getitem.lookup hs (B4 (ho a9 s σ H _ I h) fun u s1 ⟨x,H1,I1,rx,q1⟩=>B4 (hi a9 s1 σ H1 _ I1 q1) fun iv s2 bu=>?_);obtain⟨y,H2,I2,ry,a,v,ex,g,q2⟩:=bu;subst ex;obtain rfl:u=Value.ref a:=rx;exact⟨W0h I2 g,W0c hu I2 g ry fun w' s3 I3 ft=>⟨v,H2,I3,ft,q2⟩⟩
def W6k (hu:X.A.units+1<cLine)(hi:PE X i ty)(ho:PE X o td):PC X .NotIn i o (V2e ty td):=by
 intro a9 s σ H Q I h;refine B4 (hi a9 s σ H _ I h) fun iv s1 ⟨y,H1,I1,ry,q1⟩=>B4 (ho a9 s1 σ H1 _ I1 q1) fun u s2 bu=>?_;obtain⟨x,H2,I2,rx,a,ov,ex,g,q2⟩:=bu;subst ex;obtain rfl:u=Value.ref a:=rx;exact W0d hu I2 g ry fun s3 I3=>⟨.bl (!ov.isSome),H2,I3,rfl,q2⟩
def W7u (hu:X.A.units+1<cLine)(ho:PE X o td)(hi:PE X i ty)(hv:PE X value tv)(hs:swapsWith value (some (.Subscript o i bC)) pos.line X.env=pure false) :
  PS X (.Assign [.Subscript o i bC] value pos) (V0b td ty tv):=by
 intro a9 s σ H D I h;refine wpAny_Assign_Subscript (B4 (hv a9 s σ H _ I h) fun r s1 ⟨v,H1,I1,rv,q1⟩=>B4 (ho a9 s1 σ H1 _ I1 q1) fun u s2 ⟨x,H2,I2,rx,q2⟩=>B4 (hi a9 s2 σ H2 _ I2 q2) fun iv s3 bu=>?_) hs;obtain⟨y,H3,I3,ry,a,H4,ex,g,q3⟩:=bu;subst ex;obtain rfl:u=Value.ref a:=rx;exact W0e hu I3 g ry rv fun s4 I4=>⟨σ,H4,I4,q3⟩
end
def W0l {P:Program}{w:World}{H:Hp}(h:Heap)(hb:sysModules<h.objs.size):ObjOk P w H (h.push { cls:=.type "dict",data:=.dict #[] }) h.objs.size (.dK []) :=
 ⟨bt _,cL.mpr (cF (ay hb)),[],.nil,Heap.DictOf.new h⟩
def Z6b:List (TE×TE)->St->Hp->(List (V×V)->Hp->Prop)->Prop
 | [],_,H,Q=>Q [] H
 | (tk,tv)::r,σ,H,Q=>tk σ H fun x H1=>tv σ H1 fun y H2=>Z6b r σ H2 fun ps H3=>Q ((x,y)::ps) H3
abbrev VV:List (V×V)->List (Value×Value)->Prop:=Paired fun p q=>C1 p.1 q.1/\C1 p.2 q.2
def PPs (X:Cx)(pos:Pos)(keys:List (Option Expr))(values:List Expr)(gZ:List (TE×TE)):Prop :=
 ∀(a9:Pn9) (s:Shared) (σ:St) (H:Hp) (Q:List (V×V)->Hp->Prop),A0 X a9 σ H s->Z6b gZ σ H Q ->
  wpAny (model X.prog X.w) X.A (evalPairs (pairTrees keys values X.env pos)) (fun vs s'=>∃ps H',A0 X a9 σ H' s'/\VV ps vs/\Q ps H') X.xe s
def W7r {X:Cx}{pos:Pos}:PPs X pos [] [] []:=fun a9 s σ H Q I h=>pairTrees_nil_walk ⟨[],H,I,.nil,h⟩
def W7q {X:Cx}{pos:Pos}{k v:Expr}{ks:List (Option Expr)}{vs:List Expr}{tk tv:TE}{gZ:List (TE×TE)}(hk:PE X k tk)(hv:PE X v tv)(hr:PPs X pos ks vs gZ) :
  PPs X pos (some k::ks) (v::vs) ((tk,tv)::gZ):=fun a9 s σ H Q I h =>
 pairTrees_cons_walk (B4 (hk a9 s σ H _ I h) fun u s1 ⟨x,H1,I1,rx,q1⟩=>B4 (hv a9 s1 σ H1 _ I1 q1) fun w2 s2 ⟨y,H2,I2,ry,q2⟩ =>
  B4 (hr a9 s2 σ H2 _ I2 q2) fun ws s3 ⟨ps,H3,I3,rel,q3⟩=>⟨(x,y)::ps,H3,I3,.cons ⟨rx,ry⟩ rel,q3⟩)
def Q5h (kvs more:List (B8×V)):List (B8×V):=more.foldl (fun bT kv=>S0 bT kv.1 kv.2) kvs
theorem KV.merge:∀{more:List (B8×V)}{rs:List (B8×Value)}{kvs:List (B8×V)}{vs:List (B8×Value)},KV more rs->KV kvs vs->KV (Q5h kvs more) (merged vs rs):=by
 intro more rs kvs vs r;unfold KV at r
 induction r generalizing kvs vs with
 | nil=>intro q;exact q
 | @cons p q ps qs h t ih =>
  intro r0;have e:KV (S0 kvs p.1 p.2) (stored vs q.1 q.2):=by
   have:=r0.put p.1 h.2;rw [<- h.1];exact this
  exact ih e
theorem Y2c:∀(more kvs:List (B8×V)),(Q5h kvs more).length<=kvs.length+more.length
 | [],kvs=>by show kvs.length<=kvs.length+0;omega
 | p::r,kvs=>by
  have h1:=Y2c r (S0 kvs p.1 p.2);have h2:=Q9f kvs p.1 p.2;show(Q5h (S0 kvs p.1 p.2) r).length<=_;rw [aD];omega
theorem Z9u {P:Program}{w:World}:∀{kvs:List (B8×V)}{ws:List (Value×Value)},VV (kvs.map fun kv=>(kV kv.1,kv.2)) ws->∃rs,Carries (M2 P w) ws rs/\KV kvs rs
 | [],_,r=>by rw [gW]at r;cases r;exact⟨[],True.intro,.nil⟩
 | p::kvs,_,r=>by
  rw [am]at r;cases r with
  | @cons a b as bs h t =>
   obtain⟨rs,c,q⟩:=Z9u (P:=P) (w:=w) t;obtain⟨b1,b2⟩:=b;exact⟨(p.1,b2)::rs,⟨Q3w h.1,rfl,c⟩,.cons ⟨rfl,h.2⟩ q⟩
def V2f (gZ:List (TE×TE)):TE:=fun σ H Q=>∀p,H p=none->Z6b gZ σ (upd H p (.dK [])) fun ps H2=>H2 p=some (.dK [])/\∃kvs:List (B8×V),ps=kvs.map (fun kv=>(kV kv.1,kv.2))/\kvs.length<=15/\Q (.ref p) (upd H2 p (.dK (Q5h [] kvs)))
def W6t {X:Cx}{pos:Pos}{keys:List (Option Expr)}{values:List Expr}{gZ:List (TE×TE)}(h:PPs X pos keys values gZ)(jt:keys.all (·.isSome)=true)(hl:keys.length=values.length)(h0:keys≠[])
  (rh:keys.length<=15):PE X (.Dict keys values pos) (V2f gZ):=by
 intro a9 s σ H Q I q;have hn:=I.hok.fresh (aq s.heap.objs.size);have I1:=I.laid (a:=s.heap.objs.size) (o:=.dK []) (h':=s.heap.push { cls:=.type "dict",data:=.dict #[] }) (t':=s.toks) (fun _ _ q=>aj _ q) (aq _) (W0l s.heap I.big);refine wpAny_Dict_walk (knd:=M2 X.prog X.w) jt hl h0 rh (B4 (h a9 _ σ _ _ I1 (q _ hn)) fun ws s2 bu=>?_);obtain⟨ps,H2,I2,rel,e,kvs,ep,lk,q2⟩:=bu;subst ep;obtain⟨rs,c,rk⟩:=Z9u (P:=X.prog) (w:=X.w) rel;obtain⟨z,hd,rJ,r0,dd⟩:=Z2r I2.hok e;cases r0;refine⟨rs,c,dd,fun h' jv hs=>⟨.ref s.heap.objs.size,_,?_,rfl,q2⟩⟩;have hz:(Q5h [] kvs).length<=sizeLine:=by
  have h1:=Y2c kvs [];rw [bj]at h1;rw [gk];omega
 have he:∃q,h'.get? s.heap.objs.size=some q:=let ⟨q,_,_,hq,_⟩:=jv;⟨q,hq⟩;exact Q8t I2 (by rw [e];exact True.intro) hs he (Y0o hz hd (rk.merge .nil) jv)
structure M1 (X:Cx)(o:Expr)(m:Str)(apos:Pos)(e:Expr)(bp:Pos):Prop where
 base:attributeBase o m X.env (eval o X.env)=eval o X.env
 few:((backTo bp (starEach [e] X.env)).all (fun x=>!x.1)&&(backToKw bp (keywordEach [] X.env)).all (fun x=>x.1.isSome)
 &&decide (([e]:List Expr).length+([]:List Keyword).length+(if ([]:List Keyword).isEmpty then 0 else 1)<30))=true
 line:(apos.endLine==bp.line)=true
 trees:backTo bp (starEach [e] X.env)=[(false,eval e X.env)]
def IsD (H:Hp)(a:Addr):Prop:=(∃kvs,Rd H a (.dK kvs))\/∃kvs,Rd H a (.dT kvs)
def W2o {X:Cx}{a9:Pn9}{σ:St}{H:Hp}{s:Shared}{a:Addr}(I:A0 X a9 σ H s)(d:IsD H a) :
  s.TypeIs (.ref a) "dict"/\(∀b,Value.ref a=.ref b->∃ob,s.heap.get? b=some ob/\ob.dict=none)/\(a==sysModules)=false:=by
 rcases d with⟨kvs,e⟩ | ⟨kvs,e⟩
 ·obtain⟨_,hd,vs,_,dd⟩:=Q4s I.hok e;refine⟨dd.typeIs,fun b q=>?_,hd⟩;cases q;obtain⟨ob,_,_,h1,h2,_⟩:=dd;exact⟨ob,h1,h2.2.1⟩
 ·obtain⟨_,hd,xs,_,dd⟩:=Q4t I.hok e;refine⟨dd.typeIs,fun b q=>?_,hd⟩;cases q;obtain⟨ob,_,_,h1,h2,_⟩:=dd;exact⟨ob,h1,h2.2.1⟩
section
variable {X:Cx}{a9:Pn9}{σ:St}{H:Hp}{s:Shared}{a:Addr}{y:V}{u:Value}{o:Option V}{A:Around}{E:VS9}
def W0b {Q:VS9}(hu:A.units+1<cLine)(I:A0 X a9 σ H s)(g:Z7 H a y o)(ry:C1 y u)(h:∀w' s',A0 X a9 σ H s'->C1 (o.getD .non) w'->Q w' s') :
  wpAny (model X.prog X.w) A (call (.builtin "dict.get") [.ref a,u]) Q E s:=by
 rcases g with⟨kvs,k,e,ey,l⟩ | ⟨kvs,k,b,e,ey,eb,l⟩
 ·subst ey;obtain⟨z,hd,vs,rel,dd⟩:=Q4s I.hok e;refine call_meetsIn PySem.F.slot_dict_get dd.typeIs PySem.F.entry_dict_get (PySem.F.args_dict_get_2 _ _) (meets_dict_get (M2 X.prog X.w) a (Q3w ry) hd) ⟨_,dd.mapOf,h _ _ (I.tok _) ?_⟩;rw [l];exact(rel.val k).getD rfl
 ·subst ey;cases (show u=Value.ref b from ry);obtain⟨z,hd,xs,rel,dd⟩:=Q4t I.hok e;refine call_meetsIn PySem.F.slot_dict_get dd.typeIs PySem.F.entry_dict_get (PySem.F.args_dict_get_2 _ _) (meetsH_dict_get (tupleKind (M2 X.prog X.w)) a b hd) ⟨tupleKind_room_in1 hu,k,xs,Q7b I.hok eb,dd,h _ _ (I.tok _) ?_⟩;rw [l];exact(rel.val k).getD rfl
end
def V2d (td ty:TE):TE:=fun σ H Q=>td σ H fun x H1=>∃a,x=.ref a/\IsD H1 a/\ty σ H1 fun y H2=>∃o,Z7 H2 a y o/\Q (o.getD .non) H2
section
variable {X:Cx}{o e:Expr}{apos bp:Pos}{td ty:TE}
def W6s (hu:X.A.units+1<cLine)(ho:PE X o td)(he:PE X e ty)(m:M1 X o "get" apos e bp):PE X (.Call (.Attribute o "get" apos) [e] [] bp) (V2d td ty):=by
 intro a9 s σ H Q I h;refine wpAny_Call_method m.base m.few m.line PySem.F.plainAttrs_dict PySem.F.slot_dict_get PySem.F.type_dict_get (B4 (ho a9 s σ H _ I h) fun u s1 bu=>?_);obtain⟨x,H1,I1,rx,a,ex,d,q1⟩:=bu;subst ex;obtain rfl:u=Value.ref a:=rx;obtain⟨t1,t2,_⟩:=W2o I1 d;refine⟨t1,t2,?_⟩;rw [m.trees];refine Calls.callWith_builtin rfl (gr (jQ (B4 (he a9 s1 σ H1 _ I1 q1) fun iv s2 ⟨y,H2,I2,ry,ov,g,q2⟩=>Calls.spliced_nil ?_)));exact W0b hu I2 g ry fun w' s3 I3 ft=>⟨_,H2,I3,ft,q2⟩
end
end L2
namespace Att
open PySem PySem.W PySem.Calls PyProof.Rows
theorem W2e {P:Params}{h:Heap}:∀(ns:List Int) (vs:List Value),WellAll P h vs (ns.map WData.int)->IntsAre vs ns:=by
 intro ns
 induction ns with
 | nil =>
  intro vs w;rw [gW]at w;cases w;exact .nil
 | cons n ns ih =>
  intro vs w;rw [am]at w;cases w with
  | cons a b =>
   cases a;exact .cons _ _ (ih _ b)
theorem V1a {l:OpenLaw}{n:Nat}(hn:l.most=some n){P:Params}{h:Heap}{args:List WData}{fP:List Value}
  (ia:l.row.toRowW.claim.pre args=true) (j4:WellAll P h fP args) :
  ∃a vs ns,fP=[Value.ref a]/\args=[WData.list (ns.map WData.int)]/\h.get? a=some { cls:=.type "list",data:=.seq vs.toArray }/\IntsAre vs ns/\ns.length<=n:=by
 have qk:WShape.hasAll [] args [.list .int]=true:=(pre_splitW ia).1;have hc:l.pre.holds [] { args:=args }=true:=(pre_splitW ia).2;obtain⟨d,r,rfl,h1,h2⟩:=hasAllW_cons qk;obtain rfl:=hasAllW_nil h2;obtain⟨xs,rfl,h3⟩:=hasW_list h1;obtain⟨ns,rfl⟩:=items_int h3;have bD:ns.length<=n:=by
  unfold OpenLaw.pre at hc;have h4:(WTm.not (.lt (.lit (.int (n:Int))) (.len (.arg 0)))).holds [] { args:=[.list (ns.map .int)] }=true:=by
   have h4:=(holds_andW hc).1;rw [hn]at h4;exact h4
  have h5:=condW_of h4 (w_not (w_lt w_lit (w_len_list (w_arg rfl))));rw [ac]at h5;refine Nat.le_of_not_lt fun q=>?_;have q':(n:Int)<((ns.length:Nat):Int):=by omega
  first
   | (rw [bo q']at h5;exact absurd h5 (by decide))
   | (simp at h5;omega)
 cases j4 with
 | cons w1 w2 =>
  cases w2;cases w1 with
  | list ho jt=>exact⟨_,_,ns,rfl,rfl,ho,W2e ns _ jt,bD⟩
def W7p (l:OpenLaw)(args:List WData):l.row.toRowW.claim.post args (.bool true) args=true :=
 postW_of (r:=l.row.toRowW) (X:=(true==true))
  (show WShape.has [] (.bool true) .bool=true by first | rfl | decide | simp [WShape.has,WShape.arms,WShape.armsAll])
  (show(WTm.eq .res (.lit (.bool true))).value [] { args:=args,res:=some (.bool true),after:=args }=some (.bool (true==true))from w_eq_bool (w_res rfl) w_lit) rfl
def attach_call {l:OpenLaw}{n:Nat}{q:Program}{eh:List Str}{XP:(Str->Option Value)->Heap->Prop}{YP:World->Heap->Prop}{d:DefRec}
  (hn:l.most=some n) (jl:d.params.defaults=[])
  (call:∀(w:World) (s₀ s₁:Shared) (mg mb:Str->Option Value) (fa:Addr) (o:Obj) (pm cd cn:Value) (a:Addr) (vs:List Value) (ns:List Int),
   Ground q eh [] XP w s₀ mg mb s₁.heap->YP w s₁.heap ->
   s₁.heap.get? fa=some o->o.data=.func (docDef d.name d.params d.body d.scope pm cd cn)->s₁.heap.CodeRec cd d.name->mg d.name=some (.ref fa) ->
   s₁.heap.get? a=some { cls:=.type "list",data:=.seq vs.toArray }->IntsAre vs ns->ns.length<=n->s₁.gens=#[] ->
   codeAny (model l.prog w) callerA (.call (.ref fa) ⟨[.ref a],[]⟩) (fun r s'=>r=.ok (.ret (.bool true))/\OldK s₁.heap s'.heap/\s'.os=s₁.os/\AllBare s'.gens) s₁) :
  WalkO q eh XP YP l.row.toRowW d [] (fun f vs=>PySem.call f vs):=by
 intro w s₀ s₁ mg mb G Y fa o pm cd cn dV kV ho hd dq hD kt hg args fP as ia qA rR j4 rV;obtain rfl:dV=.none:=Dflts.none hD jl;obtain rfl:kV=.none:=Dflts.noKw hD;obtain⟨a,vs,ns,rfl,rfl,ja,ff,bD⟩:=V1a hn ia j4;refine enter_call (iS (call w s₀ s₁ mg mb fa o pm cd cn a vs ns G Y ho (fd_plain hd) dq kt ja ff bD hg) fun r s' hq=>?_);obtain⟨rfl,h2,h3,h4⟩:=hq;exact⟨.inl ⟨.bool true,.bool true,[],rfl,fun _=>rfl,.bool true,W7p l _,fun _=>⟨List.Pairwise.nil,fun _ hm=>(nomatch hm)⟩⟩,h2,h3,h4⟩
end Att
namespace L2
open PySem PySem.Spec PyProof.Rows
theorem Y6z:∀{vs:List Value}{ns:List Int},IntsAre vs ns->C0 (ns.map V.int) vs
 | _,_,.nil=>.nil
 | _,_,.cons n t h=>.cons ⟨t,rfl⟩ (Y6z h)
end L2
namespace L2
open PySem PySem.Spec PyProof.Rows
def U3 (s:Stmt):Arguments:=match s with
 | .FunctionDef _ a _ _ _ _ _ _ _ _=>a
 | _=>{ posonlyargs:=[],args:=[],vararg:=none,kwonlyargs:=[],kw_defaults:=[],kwarg:=none,defaults:=[] }
def K1 (s:Stmt):List Stmt:=match s with
 | .FunctionDef _ _ b _ _ _ _ _ _ _=>b
 | _=>[]
def B6 (s:Stmt):Scope:=match s with
 | .FunctionDef _ _ _ _ _ _ sc _ _ _=>sc
 | _=>{ kind:=.function,names:=[],isGenerator:=false,isCoroutine:=false }
abbrev G2:CXT:=fun _ _ _ _ _ _=>False
abbrev E0:XK:=fun _ _ _=>False
def Q9w {X:Cx}:Q8g G2 X E0:=fun _ _ _ _ _ _ _ h=>h.elim
structure N7 (K:Fg9)(x qual:Str)(st:Stmt)(f:Addr)(fd:FuncData):Prop where
 ex:∃(oc:Value) (od:Option Addr) (kV cn pm:Value) (an:Option Addr) (cdv ct:Value) (cZ:Array (Option Value)),
  fd=PySem.W.fnOf x qual (U3 st) (K1 st) (B6 st) .none kV cn pm an cdv ct/\K.lookup f=some ⟨oc,od,.func fd,cZ⟩/\PySem.W.codeIn K cdv qual=true
 kp:PySem.W.keepIn K (.ref f)=true
section
variable {P:Program}{w:World}{K:Fg9}{mg:Str->Option Value}{base:Heap}
def N7.ok {x qual:Str}{st:Stmt}{f:Addr}{fd:FuncData}{N ps:List Str}{k:Nat}{sp:Sp}(F:N7 K x qual st f fd)(S:G3 N ps (B6 st))(len:∀vs H Q E,sp vs H Q E->vs.length=ps.length)
  (bF:∀(cdv:Value) (A:Around) (outer:List Env) (s:Shared) (H:Hp) (vs:List V) (Q:VK) (E:XK),D4 k (A.deeper (envOfC qual (B6 st) s.heap.objs.size f cdv))->sp vs H Q E ->
   ∃t,Q3 (K9 G2 P w K mg base N qual (B6 st) f cdv A outer s H E).nox (K1 st) t/\t { nx:=fun _ H'=>Q .non H',rt:=Q } (start N vs) H):M9 P w K mg base G2 (k+1) f fd ps sp:=by
 obtain⟨oc,od,kV,cn,pm,an,cdv,ct,cZ,rfl,lk,dq⟩:=F.ex;refine Q8y lk dq S len fun A outer s H vs Q E hr eK=>?_;obtain⟨t,h,q⟩:=bF cdv A outer s H vs Q E hr eK;exact⟨t,h.nox,q⟩
def N7.binds {x qual:Str}{st:Stmt}{f:Addr}{fd:FuncData}{ps:List Str}(F:N7 K x qual st f fd)
  (h:∀(kV cn pm:Value) (an:Option Addr) (cdv ct:Value) (us:List Value),us.length=ps.length->bindArgs (PySem.W.fnOf x qual (U3 st) (K1 st) (B6 st) .none kV cn pm an cdv ct) ⟨us,[]⟩=pure (ps.zip us)):Q0 K fd ps []:=by
 obtain⟨oc,od,kV,cn,pm,an,cdv,ct,cZ,rfl,lk,dq⟩:=F.ex;exact .all (h kV cn pm an cdv ct)
def W1h {x qual:Str}{st:Stmt}{f:Addr}{oc:Value}{od an:Option Addr}{cZ:Array (Option Value)}{kV cn pm cdv ct:Value}(l:K.lookup f=some ⟨oc,od,.func (PySem.W.fnOf x qual (U3 st) (K1 st) (B6 st) .none kV cn pm an cdv ct),cZ⟩)
  (c:PySem.W.codeIn K cdv qual=true) (k:PySem.W.keepIn K (.ref f)=true):N7 K x qual st f (PySem.W.fnOf x qual (U3 st) (K1 st) (B6 st) .none kV cn pm an cdv ct):=⟨⟨oc,od,kV,cn,pm,an,cdv,ct,cZ,rfl,l,c⟩,k⟩
end
section
variable {X:Cx}
def pv (i:Nat){x:Str}{pos:Pos}(hN:X.N[i]?=some x:=by rfl)(hv:Vis X.env.scope x:=by first | exact Or.inl rfl | exact Or.inr (Or.inl rfl) | exact Or.inr (Or.inr rfl))(hd:(x==("__debug__":Str))=false:=by decide)
  (dq:(x==("__classdict__":Str))=false:=by decide):PE X (.Name x pos) (S4 i):=W7f hN hv hd dq
end
def A5 (H H':Hp):Prop:=∀b o,H b=some o->H' b=some o
def A5.refl (H:Hp):A5 H H:=fun _ _ h=>h
def A5.trans {H H1 H2:Hp}(a:A5 H H1)(b:A5 H1 H2):A5 H H2:=fun c o h=>b c o (a c o h)
theorem A5.free {H H':Hp}(e:A5 H H'){l:Addr}(h:H' l=Option.none):H l=Option.none:=by
 cases q:H l with
 | none=>rfl
 | some o =>
  rw [e l o q]at h;cases h
def A5.seq {K:Fg9}{H H':Hp}{a:Addr}{xs:List V}(e:A5 H H')(h:D7 K H a xs):D7 K H' a xs:=by
 rcases h with(h | ⟨o,h⟩) | h
 ·exact .inl (.inl (e _ _ h))
 ·exact .inl (.inr ⟨o,e _ _ h⟩)
 ·exact .inr h
end L2
end
section
namespace TK
open PySem PySem.Spec PyProof.Rows L2
abbrev St:=L2.St
inductive D where
 | non | bl (b:Bool) | int (i:Int) | str (x:Str) | tup (xs:List D) | lst (xs:List D)
def FzL (K:Fg9)(H:Hp)(a:Addr)(xs:List V):Prop :=
 (∃o,H a=some (.frz o (.lst xs))) \/
  ∃(o:Obj) (aP:Array Value) (n:Nat),K.lookup a=some o/\o.cls=.type "list"/\o.dict=none/\o.data=.seq aP n/\aP.size<=sizeLine/\C0 xs aP.toList
def FzL.sq {K:Fg9}{H:Hp}{a:Addr}{xs:List V}(h:FzL K H a xs):D7 K H a xs:=by
 rcases h with⟨o,h⟩ | h
 ·exact .inl (.inr ⟨o,h⟩)
 ·exact .inr h
structure Kp (H H':Hp):Prop where
 tup:∀a xs,H a=some (.tup xs)->H' a=some (.tup xs)
 frz:∀a o u,H a=some (.frz o u)->H' a=some (.frz o u)
def Kp.refl (H:Hp):Kp H H:=⟨fun _ _ h=>h,fun _ _ _ h=>h⟩
def Kp.trans {H H1 H2:Hp}(a:Kp H H1)(b:Kp H1 H2):Kp H H2:=⟨fun c xs h=>b.tup c xs (a.tup c xs h),fun c o u h=>b.frz c o u (a.frz c o u h)⟩
def Kp.of {H H':Hp}(s:A5 H H'):Kp H H':=⟨fun a xs h=>s a _ h,fun a o u h=>s a _ h⟩
def Kp.upd {H:Hp}{a:Addr}{xs:List V}(h:H a=some (.lst xs))(o:HO):Kp H (upd H a o) :=
 ⟨fun c ys q=>by rw [B9 (Q0e q h (by intro z;cases z))];exact q,fun c ob u q=>by rw [B9 (Q0e q h (by intro z;cases z))];exact q⟩
def Kp.fzL {K:Fg9}{H H':Hp}(k:Kp H H'){a:Addr}{xs:List V}(h:FzL K H a xs):FzL K H' a xs:=by
 rcases h with⟨o,h⟩ | h
 ·exact .inl ⟨o,k.frz _ _ _ h⟩
 ·exact .inr h
def G1 {H:Hp}{p:Addr}(h:H p=none)(o:HO):A5 H (upd H p o):=fun b u q=>by rw [B9 (X5 q h)];exact q
mutual
def A1 (K:Fg9)(H:Hp):D->V->Prop
 | .non,v=>v=.non
 | .bl b,v=>v=.bl b
 | .int i,v=>v=.int i
 | .str x,v=>v=.str x
 | .tup ds,v=>∃a xs,v=.ref a/\H a=some (.tup xs)/\AllS K H ds xs
 | .lst ds,v=>∃a xs,v=.ref a/\FzL K H a xs/\AllS K H ds xs
def AllS (K:Fg9)(H:Hp):List D->List V->Prop
 | [],vs=>vs=[]
 | d::ds,vs=>∃v r,vs=v::r/\A1 K H d v/\AllS K H ds r
end
section
variable {K:Fg9}{H H':Hp}
mutual
theorem A1.mono (k:Kp H H'):∀(d:D) (v:V),A1 K H d v->A1 K H' d v
 | .non,v,h=>h
 | .bl _,v,h=>h
 | .int _,v,h=>h
 | .str _,v,h=>h
 | .tup ds,v,h=>by
  unfold A1 at h ⊢;obtain⟨a,xs,e,q,r⟩:=h;exact⟨a,xs,e,k.tup _ _ q,AllS.mono k ds xs r⟩
 | .lst ds,v,h=>by
  unfold A1 at h ⊢;obtain⟨a,xs,e,q,r⟩:=h;exact⟨a,xs,e,k.fzL q,AllS.mono k ds xs r⟩
theorem AllS.mono (k:Kp H H'):∀(ds:List D) (vs:List V),AllS K H ds vs->AllS K H' ds vs
 | [],vs,h=>h
 | d::ds,vs,h=>by
  unfold AllS at h ⊢;obtain⟨v,r,e,q,t⟩:=h;exact⟨v,r,e,A1.mono k d v q,AllS.mono k ds r t⟩
end
theorem AllS.length:∀{ds:List D}{vs:List V},AllS K H ds vs->ds.length=vs.length
 | [],vs,h=>by unfold AllS at h;subst h;rfl
 | d::ds,vs,h=>by
  unfold AllS at h;obtain⟨v,r,e,q,t⟩:=h;subst e;rw [aD,aD,AllS.length t]
def AllS.nil:AllS K H [] []:=by unfold AllS;rfl
def AllS.cons {d:D}{ds:List D}{v:V}{vs:List V}(h:A1 K H d v)(t:AllS K H ds vs):AllS K H (d::ds) (v::vs):=by
 unfold AllS;exact⟨v,vs,rfl,h,t⟩
theorem AllS.get:∀{ds:List D}{vs:List V}{i:Nat}{d:D},AllS K H ds vs->ds[i]?=some d->∃v,vs[i]?=some v/\A1 K H d v
 | [],_,_,_,_,e=>by simp at e
 | d::ds,vs,0,x,h,e=>by
  unfold AllS at h;obtain⟨v,r,rfl,q,t⟩:=h;simp at e;subst e;exact⟨v,rfl,q⟩
 | d::ds,vs,i+1,x,h,e=>by
  unfold AllS at h;obtain⟨v,r,rfl,q,t⟩:=h;obtain⟨u,h1,h2⟩:=AllS.get (i:=i) t (by simpa using e);exact⟨u,by simpa using h1,h2⟩
theorem AllS.append:∀{ds es:List D}{vs us:List V},AllS K H ds vs->AllS K H es us->AllS K H (ds++es) (vs++us)
 | [],_,vs,_,h,t=>by unfold AllS at h;subst h;exact t
 | d::ds,es,vs,us,h,t=>by
  unfold AllS at h;obtain⟨v,r,rfl,q,s⟩:=h;exact AllS.cons q (AllS.append s t)
theorem AllS.take:∀{ds:List D}{vs:List V} (n:Nat),AllS K H ds vs->AllS K H (ds.take n) (vs.take n)
 | _,_,0,_=>by simp;exact AllS.nil
 | [],vs,n+1,h=>by unfold AllS at h;subst h;simp;exact AllS.nil
 | d::ds,vs,n+1,h=>by
  unfold AllS at h;obtain⟨v,r,rfl,q,s⟩:=h;exact AllS.cons q (AllS.take n s)
theorem AllS.drop:∀{ds:List D}{vs:List V} (n:Nat),AllS K H ds vs->AllS K H (ds.drop n) (vs.drop n)
 | _,_,0,h=>h
 | [],vs,n+1,h=>by unfold AllS at h;subst h;simp;exact AllS.nil
 | d::ds,vs,n+1,h=>by
  unfold AllS at h;obtain⟨v,r,rfl,q,s⟩:=h;exact AllS.drop n s
theorem AllS.set {ds:List D}{vs:List V}{d:D}{v:V}(q:A1 K H d v):∀(i:Nat),AllS K H ds vs->AllS K H (ds.set i d) (vs.set i v):=by
 intro i h
 induction ds generalizing vs i with
 | nil=>unfold AllS at h;subst h;exact AllS.nil
 | cons d ds ih =>
  unfold AllS at h;obtain⟨v,r,rfl,q',s⟩:=h;cases i with
  | zero=>exact AllS.cons q s
  | succ i=>exact AllS.cons q' (ih i s)
theorem AllS.ints {ns:List Int}:AllS K H (ns.map D.int) (ns.map V.int):=by
 induction ns with
 | nil=>exact AllS.nil
 | cons n r ih=>exact AllS.cons (by unfold A1;rfl) ih
def A1.s_int {i:Int}:A1 K H (.int i) (.int i):=by unfold A1;rfl
def A1.s_bl {i:Bool}:A1 K H (.bl i) (.bl i):=by unfold A1;rfl
def A1.s_str {i:Str}:A1 K H (.str i) (.str i):=by unfold A1;rfl
def A1.s_non:A1 K H .non .non:=by unfold A1;rfl
def A1.s_tup {ds:List D}{a:Addr}{xs:List V}(q:H a=some (.tup xs))(r:AllS K H ds xs):A1 K H (.tup ds) (.ref a):=by unfold A1;exact⟨a,xs,rfl,q,r⟩
def A1.s_lst {ds:List D}{a:Addr}{xs:List V}(q:FzL K H a xs)(r:AllS K H ds xs):A1 K H (.lst ds) (.ref a):=by unfold A1;exact⟨a,xs,rfl,q,r⟩
end
def Q4o (Φ:Hp->Prop):Prop:=∀H H':Hp,Kp H H'->Φ H->Φ H'
inductive R where
 | st (d:D) | nw (ds:List D) | bw (ds:List D) | dk (kvs:List (B8×D)) | dt (kvs:List (List B8×D)) | ob (a:Addr) | cl (a:Addr) (Φ:Hp->Prop) | ms (a C:Addr) (d:D) (fs:List (Str×D))
def C9 {κ:Type}(K:Fg9)(H:Hp):List (κ×D)->List (κ×V)->Prop
 | [],vs=>vs=[]
 | p::ps,vs=>∃v r,vs=(p.1,v)::r/\A1 K H p.2 v/\C9 K H ps r
theorem C9.mono {κ:Type}{K:Fg9}{H H':Hp}(k:Kp H H'):∀(ps:List (κ×D)) (vs:List (κ×V)),C9 K H ps vs->C9 K H' ps vs
 | [],_,h=>h
 | p::ps,vs,h=>by
  obtain⟨v,r,e,q,t⟩:=h;exact⟨v,r,e,q.mono k _ _,C9.mono k ps r t⟩
def E5 (K:Fg9)(H0 H:Hp):R->V->Prop
 | .st d,v=>A1 K H d v
 | .nw ds,v=>∃a xs,v=.ref a/\H0 a=none/\H a=some (.lst xs)/\AllS K H ds xs
 | .bw ds,v=>∃a xs,v=.ref a/\H a=some (.lst xs)/\AllS K H ds xs
 | .dk kvs,v=>∃a ps,v=.ref a/\H a=some (.dK ps)/\C9 K H kvs ps
 | .dt kvs,v=>∃a ps,v=.ref a/\H a=some (.dT ps)/\C9 K H kvs ps
 | .ob a,v=>v=.ref a
 | .cl a Φ,v=>v=.ref a/\Φ H/\Q4o Φ
 | .ms a C d fs,v=>A1 K H d v/\∃dx vs,H a=some (.ins C dx vs)/\C9 K H fs vs
theorem E5.mono {K:Fg9}{H0 H H':Hp}(s:A5 H H'):∀{r:R}{v:V},E5 K H0 H r v->E5 K H0 H' r v
 | .st d,v,h=>A1.mono (Kp.of s) d v h
 | .nw ds,v,h=>by obtain⟨a,xs,e,n,q,t⟩:=h;exact⟨a,xs,e,n,s _ _ q,t.mono (Kp.of s) _ _⟩
 | .bw ds,v,h=>by obtain⟨a,xs,e,q,t⟩:=h;exact⟨a,xs,e,s _ _ q,t.mono (Kp.of s) _ _⟩
 | .dk ds,v,h=>by obtain⟨a,xs,e,q,t⟩:=h;exact⟨a,xs,e,s _ _ q,t.mono (Kp.of s) _ _⟩
 | .dt ds,v,h=>by obtain⟨a,xs,e,q,t⟩:=h;exact⟨a,xs,e,s _ _ q,t.mono (Kp.of s) _ _⟩
 | .ob a,v,h=>h
 | .cl a Φ,v,h=>⟨h.1,h.2.2 _ _ (Kp.of s) h.2.1,h.2.2⟩
 | .ms a C d fs,v,h=>by obtain⟨h1,dx,vs,q,t⟩:=h;exact⟨h1.mono (Kp.of s) _ _,dx,vs,s _ _ q,t.mono (Kp.of s) _ _⟩
theorem E5.older {K:Fg9}{H0 H1 H:Hp}(s:A5 H0 H1):∀{r:R}{v:V},E5 K H1 H r v->E5 K H0 H r v
 | .st d,v,h=>h
 | .nw ds,v,h=>by obtain⟨a,xs,e,n,q,t⟩:=h;exact⟨a,xs,e,s.free n,q,t⟩
 | .bw ds,v,h=>h
 | .dk ds,v,h=>h
 | .dt ds,v,h=>h
 | .ob a,v,h=>h
 | .cl _ _,v,h=>h
 | .ms _ _ _ _,v,h=>h
def LO (b:Addr)(xs:List V):Heap->Prop:=fun h=>xs.length<=sizeLine/\∃(aP:List Value) (n:Nat),C0 xs aP/\h.get? b=some { cls:=.type "list",data:=.seq aP.toArray n }
def K0 (K:Fg9)(H:Hp):List Addr->List (List D)->Prop
 | [],dss=>dss=[]
 | b::bs,dss=>∃ds r,dss=ds::r/\(∃xs,H b=some (.ext (LO b xs))/\AllS K H ds xs)/\K0 K H bs r
def Q4n (K:Fg9)(H0 H:Hp)(a:Addr)(dss:List (List D)):Prop:=∃bs,(H a=some (.ext (LO a (bs.map V.ref)))/\H0 a=none/\a∉bs)/\bs.Nodup/\(∀b∈bs,H0 b=none)/\K0 K H bs dss
theorem K0.keep {K:Fg9}{H H':Hp}(k:Kp H H')(x:∀b φ,H b=some (.ext φ)->H' b=some (.ext φ)):∀{bs:List Addr}{dss:List (List D)},K0 K H bs dss->K0 K H' bs dss
 | [],_,h=>h
 | b::bs,_,h=>by obtain⟨ds,r,e,⟨xs,q,al⟩,t⟩:=h;exact⟨ds,r,e,⟨xs,x _ _ q,al.mono k _ _⟩,K0.keep k x t⟩
def Q4n.keep {K:Fg9}{H0 H H':Hp}{a:Addr}{dss:List (List D)}(h:Q4n K H0 H a dss)(k:Kp H H')(x:∀b φ,H b=some (.ext φ)->H' b=some (.ext φ)):Q4n K H0 H' a dss:=by
 obtain⟨bs,⟨q,q2⟩,n,f,t⟩:=h;exact⟨bs,⟨x _ _ q,q2⟩,n,f,t.keep k x⟩
inductive Sl where
 | dat (d:D) | own (ds:List D) | bor (ds:List D) | dk (kvs:List (B8×D)) | dt (kvs:List (List B8×D)) | bd (kvs:List (List B8×D)) | ob (a:Addr) | cl (a:Addr) (Φ:Hp->Prop) | ll (a:Addr) (dss:List (List D)) | ins (a C:Addr) (fs:List (Str×D))
abbrev A9:=List (Option Sl)
def Sl.mut:Sl->Bool
 | .own _=>true
 | .dk _=>true
 | .dt _=>true
 | .ins _ _ _=>true
 | _=>false
def O3 (K:Fg9)(H0 H:Hp):Sl->V->Prop
 | .dat d,v=>A1 K H d v
 | .own ds,v=>∃a xs,v=.ref a/\H0 a=none/\H a=some (.lst xs)/\AllS K H ds xs
 | .bor ds,v=>∃a xs,v=.ref a/\H0 a=some (.lst xs)/\AllS K H ds xs
 | .dk kvs,v=>∃a ps,v=.ref a/\H0 a=none/\H a=some (.dK ps)/\C9 K H kvs ps
 | .dt kvs,v=>∃a ps,v=.ref a/\H0 a=none/\H a=some (.dT ps)/\C9 K H kvs ps
 | .bd kvs,v=>∃a ps,v=.ref a/\H0 a=some (.dT ps)/\C9 K H kvs ps
 | .ob a,v=>v=.ref a
 | .cl a Φ,v=>v=.ref a/\Φ H/\Q4o Φ
 | .ll a dss,v=>v=.ref a/\Q4n K H0 H a dss
 | .ins a C fs,v=>v=.ref a/\H0 a=none/\∃dx vs,H a=some (.ins C dx vs)/\C9 K H fs vs
theorem O3.mono {K:Fg9}{H0 H H':Hp}(s:A5 H H'):∀{r:Sl}{v:V},O3 K H0 H r v->O3 K H0 H' r v
 | .dat d,v,h=>A1.mono (Kp.of s) d v h
 | .own ds,v,h=>by obtain⟨a,xs,e,n,q,t⟩:=h;exact⟨a,xs,e,n,s _ _ q,t.mono (Kp.of s) _ _⟩
 | .bor ds,v,h=>by obtain⟨a,xs,e,q,t⟩:=h;exact⟨a,xs,e,q,t.mono (Kp.of s) _ _⟩
 | .bd ds,v,h=>by obtain⟨a,xs,e,q,t⟩:=h;exact⟨a,xs,e,q,t.mono (Kp.of s) _ _⟩
 | .dk ds,v,h=>by obtain⟨a,xs,e,n,q,t⟩:=h;exact⟨a,xs,e,n,s _ _ q,t.mono (Kp.of s) _ _⟩
 | .dt ds,v,h=>by obtain⟨a,xs,e,n,q,t⟩:=h;exact⟨a,xs,e,n,s _ _ q,t.mono (Kp.of s) _ _⟩
 | .ob a,v,h=>h
 | .cl a Φ,v,h=>⟨h.1,h.2.2 _ _ (Kp.of s) h.2.1,h.2.2⟩
 | .ll a dss,v,h=>⟨h.1,h.2.keep (Kp.of s) fun b φ q=>s _ _ q⟩
 | .ins a C fs,v,h=>by obtain⟨e,n,dx,vs,q,t⟩:=h;exact⟨e,n,dx,vs,s _ _ q,t.mono (Kp.of s) _ _⟩
structure C4 (K:Fg9)(H0:Hp)(τ:A9)(σ:St)(H:Hp):Prop where
 len:τ.length=σ.length
 same:A5 H0 H
 here:∀(i:Nat) (s:Sl),τ[i]?=some (some s)->∃v,σ[i]?=some (some v)/\O3 K H0 H s v
 apart:∀(i j:Nat) (s t:Sl) (v:V),i≠j->τ[i]?=some (some s)->τ[j]?=some (some t)->s.mut=true->t.mut=true->σ[i]?=some (some v)->σ[j]?=some (some v)->False
def C4.mono {K:Fg9}{H0 H H':Hp}{τ:A9}{σ:St}(h:C4 K H0 τ σ H)(s:A5 H H'):C4 K H0 τ σ H' :=
 ⟨h.len,h.same.trans s,fun i sl e=>let ⟨v,q,r⟩:=h.here i sl e;⟨v,q,r.mono s⟩,h.apart⟩
abbrev WE:=A9->(R->Prop)->Prop
def Z3r (K:Fg9)(H0:Hp)(w:WE):TE:=fun σ H Q=>∃ τ,C4 K H0 τ σ H/\w τ fun r=>∀v H',A5 H H'->E5 K H H' r v->Q v H'
structure DE (X:Cx)(H0:Hp)(e:Expr)(w:WE):Prop where
 mono:∀(τ:A9) (P Q:R->Prop),(∀r,P r->Q r)->w τ P->w τ Q
 pe:PE X e (Z3r X.K H0 w)
abbrev WT:=A9->(Bool->Prop)->Prop
def Z3s (K:Fg9)(H0:Hp)(w:WT):TT:=fun σ H Q=>∃ τ,C4 K H0 τ σ H/\w τ fun b=>∀H',A5 H H'->Q b H'
structure DT (X:Cx)(H0:Hp)(e:Expr)(w:WT):Prop where
 mono:∀(τ:A9) (P Q:Bool->Prop),(∀r,P r->Q r)->w τ P->w τ Q
 pt:PT X e (Z3s X.K H0 w)
structure DW (X:Cx)(H0:Hp)(e:Expr)(w:WT):Prop where
 mono:∀(τ:A9) (P Q:Bool->Prop),(∀r,P r->Q r)->w τ P->w τ Q
 pw:PW X e (Z3s X.K H0 w)
abbrev WA:=A9->(List R->Prop)->Prop
def K5 (K:Fg9)(H0 H:Hp):List R->List V->Prop
 | [],vs=>vs=[]
 | r::rs,vs=>∃v t,vs=v::t/\E5 K H0 H r v/\K5 K H0 H rs t
def W3s (K:Fg9)(H0:Hp)(w:WA):TA:=fun σ H Q=>∃ τ,C4 K H0 τ σ H/\w τ fun rs=>∀vs H',A5 H H'->K5 K H H' rs vs->Q vs H'
structure DA (X:Cx)(H0:Hp)(es:List Expr)(w:WA):Prop where
 len:∀(τ:A9) (Q:List R->Prop),w τ Q->w τ fun rs=>rs.length=es.length/\Q rs
 mono:∀(τ:A9) (P Q:List R->Prop),(∀r,P r->Q r)->w τ P->w τ Q
 pa:PA X es (W3s X.K H0 w)
structure F6 where
 nx:A9->Prop
 rt:R->Prop
 bk:A9->Prop
 ct:A9->Prop
abbrev WS:=F6->A9->Prop
structure F6.Le (E F:F6):Prop where
 nx:∀ τ,E.nx τ->F.nx τ
 rt:∀r,E.rt r->F.rt r
 bk:∀ τ,E.bk τ->F.bk τ
 ct:∀ τ,E.ct τ->F.ct τ
def O7 (K:Fg9)(H0 Hs:Hp)(D:S6):F6 where
 nx:=fun τ=>∀ σ H,Kp Hs H->C4 K H0 τ σ H->D.nx σ H
 rt:=fun r=>∀v H,A5 H0 H->E5 K H0 H r v->D.rt v H
 bk:=fun τ=>∀ σ H,Kp Hs H->C4 K H0 τ σ H->D.bk σ H
 ct:=fun τ=>∀ σ H,Kp Hs H->C4 K H0 τ σ H->D.ct σ H
def Z3q {K:Fg9}{H0 H H1:Hp}{D:S6}(k:Kp H H1):(O7 K H0 H D).Le (O7 K H0 H1 D) :=
 ⟨fun τ h σ H2 k2 hR=>h σ H2 (k.trans k2) hR,fun _ h=>h,fun τ h σ H2 k2 hR=>h σ H2 (k.trans k2) hR,fun τ h σ H2 k2 hR=>h σ H2 (k.trans k2) hR⟩
def Q7d (K:Fg9)(H0:Hp)(w:WS):TS:=fun D σ H=>∃ τ,C4 K H0 τ σ H/\w (O7 K H0 H D) τ
structure DS (X:Cx)(H0:Hp)(st:Stmt)(w:WS):Prop where
 mono:∀(τ:A9) (E F:F6),E.Le F->w E τ->w F τ
 ps:PS X st (Q7d X.K H0 w)
structure A3 (X:Cx)(H0:Hp)(jx:List Stmt)(w:WS):Prop where
 mono:∀(τ:A9) (E F:F6),E.Le F->w E τ->w F τ
 ps:Q3 X jx (Q7d X.K H0 w)
def N4 {X:Cx}{e:Expr}{t t':TE}(h:PE X e t)(f:∀ σ H Q,t' σ H Q->t σ H Q):PE X e t':=fun a9 s σ H Q I q=>h a9 s σ H Q I (f σ H Q q)
def ptW {X:Cx}{e:Expr}{t t':TT}(h:PT X e t)(f:∀ σ H Q,t' σ H Q->t σ H Q):PT X e t':=fun a9 s σ H Q I q=>h a9 s σ H Q I (f σ H Q q)
def pwW {X:Cx}{e:Expr}{t t':TT}(h:PW X e t)(f:∀ σ H Q,t' σ H Q->t σ H Q):PW X e t':=fun whole a9 s σ H Q I q=>h whole a9 s σ H Q I (f σ H Q q)
def paW {X:Cx}{e:List Expr}{t t':TA}(h:PA X e t)(f:∀ σ H Q,t' σ H Q->t σ H Q):PA X e t':=fun pos a9 s σ H Q I q=>h pos a9 s σ H Q I (f σ H Q q)
def psW {X:Cx}{e:Stmt}{t t':TS}(h:PS X e t)(f:∀D σ H,t' D σ H->t D σ H):PS X e t':=fun a9 s σ H D I q=>h a9 s σ H D I (f D σ H q)
def Z4u {X:Cx}{e:List Stmt}{t t':TS}(h:Q3 X e t)(f:∀D σ H,t' D σ H->t D σ H):Q3 X e t':=fun a9 s σ H D I q=>h a9 s σ H D I (f D σ H q)
abbrev IsV (K:Fg9)(H:Hp):R->V->Prop:=E5 K (fun _=>none) H
theorem E5.v {K:Fg9}{H0 H:Hp}:∀{r:R}{v:V},E5 K H0 H r v->IsV K H r v
 | .st d,v,h=>h
 | .nw ds,v,h=>by obtain⟨a,xs,e,n,q,t⟩:=h;exact⟨a,xs,e,rfl,q,t⟩
 | .bw ds,v,h=>h
 | .dk ds,v,h=>h
 | .dt ds,v,h=>h
 | .ob a,v,h=>h
 | .cl _ _,v,h=>h
 | .ms _ _ _ _,v,h=>h
def Q9c {K:Fg9}{H0 H:Hp}{k:Bool}:E5 K H0 H (.st (.bl k)) (.bl k):=A1.s_bl (K:=K) (H:=H)
def U5 {K:Fg9}{H0 H:Hp}{k:Int}:E5 K H0 H (.st (.int k)) (.int k):=A1.s_int (K:=K) (H:=H)
def Q9d {K:Fg9}{H0 H:Hp}{k:Str}:E5 K H0 H (.st (.str k)) (.str k):=A1.s_str (K:=K) (H:=H)
section
variable {X:Cx}{H0:Hp}{a b c e:Expr}{pos:Pos}{wa wb we:WE}
def rdS:Sl->R
 | .dat d=>.st d
 | .own ds=>.bw ds
 | .bor ds=>.bw ds
 | .dk k=>.dk k
 | .dt k=>.dt k
 | .bd k=>.dt k
 | .ob a=>.ob a
 | .cl a Φ=>.cl a Φ
 | .ll a _=>.ob a
 | .ins a _ _=>.ob a
theorem O3.rd {K:Fg9}{H0 H Hs:Hp}(s:A5 H0 H):∀{r:Sl}{v:V},O3 K H0 H r v->E5 K Hs H (rdS r) v
 | .dat d,v,h=>h
 | .own ds,v,h=>by obtain⟨a,xs,e,n,q,t⟩:=h;exact⟨a,xs,e,q,t⟩
 | .bor ds,v,h=>by obtain⟨a,xs,e,q,t⟩:=h;exact⟨a,xs,e,s _ _ q,t⟩
 | .bd ds,v,h=>by obtain⟨a,xs,e,q,t⟩:=h;exact⟨a,xs,e,s _ _ q,t⟩
 | .dk ds,v,h=>by obtain⟨a,xs,e,n,q,t⟩:=h;exact⟨a,xs,e,q,t⟩
 | .dt ds,v,h=>by obtain⟨a,xs,e,n,q,t⟩:=h;exact⟨a,xs,e,q,t⟩
 | .ob a,v,h=>h
 | .cl _ _,v,h=>h
 | .ll a _,v,h=>h.1
 | .ins a C fs,v,h=>h.1
def wV (i:Nat):WE:=fun τ Q=>∃s,τ[i]?=some (some s)/\Q (rdS s)
def DE.var {i:Nat}(h:PE X e (S4 i)):DE X H0 e (wV i) where
 mono:=fun τ P Q f fx=>(by obtain⟨s,h1,h2⟩:=fx;exact⟨s,h1,f _ h2⟩)
 pe:=N4 h fun σ H Q fw=>by
  obtain⟨τ,hR,s,h1,h2⟩:=fw;obtain⟨v,hv,q⟩:=hR.here i s h1;exact⟨v,hv,h2 v H (A5.refl H) (q.rd hR.same)⟩
def wC (d:D):WE:=fun _ Q=>Q (.st d)
def DE.con {v:V}{d:D}(h:PE X e (tC v))(hd:∀K H,A1 K H d v):DE X H0 e (wC d) where
 mono:=fun τ P Q f h=>f _ h
 pe:=N4 h fun σ H Q gD=>(by obtain⟨τ,hR,h⟩:=gD;exact h v H (A5.refl H) (hd _ _))
def DE.int {i:Int}{j:Nat}:DE X H0 (.Constant (.int i) j pos) (wC (.int i)):=DE.con W6v fun _ _=>A1.s_int
def DE.bl {i:Bool}{j:Nat}:DE X H0 (.Constant (.bool i) j pos) (wC (.bl i)):=DE.con W6m fun _ _=>A1.s_bl
def DE.str {i:Str}{j:Nat}:DE X H0 (.Constant (.str i) j pos) (wC (.str i)):=DE.con W7c fun _ _=>A1.s_str
def DE.non {j:Nat}:DE X H0 (.Constant .none j pos) (wC .non):=DE.con W6y fun _ _=>A1.s_non
def fzR:R->(D->Prop)->Prop
 | .st d,Q=>Q d
 | .nw ds,Q=>Q (.lst ds)
 | _,_=>False
def A0.freeze {a9:Pn9}{σ:St}{H:Hp}{s:Shared}{x:Addr}{xs:List V}(I:A0 X a9 σ H s)(h:H x=some (.lst xs)):∃o,A0 X a9 σ (upd H x (.frz o (.lst xs))) s:=by
 obtain⟨z,aP,n,r,q⟩:=I.hok x _ h;refine⟨_,I.write (t':=s.toks) (h':=s.heap) (e:=x) (o:=.frz { cls:=.type "list",data:=.seq aP.toArray n } (.lst xs)) (by rw [h];trivial) (.inl rfl) (fun b u _ k=>k) ⟨_,q⟩ ?_⟩;exact⟨q,z,aP,n,r,q⟩
def DE.fz (h:DE X H0 e we):DE X H0 e (fun τ Q=>we τ fun r=>fzR r fun d=>Q (.st d)) where
 mono:=fun τ P Q f h'=>h.mono τ _ _ (fun r q=>by
  cases r <;> first | exact f _ q | exact q) h'
 pe:=by
  intro a9 s σ H Q I ⟨τ,hR,hw⟩;refine B4 (h.pe a9 s σ H (fun v H'=>A5 H H'/\∃r,E5 X.K H H' r v/\fzR r fun d=>∀v H',A5 H H'->A1 X.K H' d v->Q v H') I ⟨τ,hR,h.mono τ _ _ (fun r q v H' sm ir=>⟨sm,r,ir,q⟩) hw⟩) ?_;rintro u s1 ⟨v,H1,I1,rv,sm,r,ir,q⟩;cases r with
  | st d=>exact⟨v,H1,I1,rv,q v H1 sm ir⟩
  | nw ds =>
   obtain⟨p,xs,rfl,hn,hp,al⟩:=ir;obtain⟨o,I2⟩:=A0.freeze I1 hp;refine⟨.ref p,_,I2,rv,q _ _ (fun b ob hb=>?_) (A1.s_lst (.inl ⟨o,upd_same⟩) (al.mono (Kp.upd hp _) _ _))⟩;rw [B9 (X5 hb hn)];exact sm b ob hb
  | bw _=>exact q.elim
  | dk _=>exact q.elim
  | dt _=>exact q.elim
  | ob _=>exact q.elim
  | cl _ _=>exact q.elim
  | ms _ _ _ _=>exact q.elim
def two (ha:DE X H0 a wa)(hb:DE X H0 b wb){τ:A9}{σ:St}{H:Hp}(hR:C4 X.K H0 τ σ H){F:R->R->Prop}(h:wa τ fun x=>wb τ fun y=>F x y){G:V->V->Hp->Prop}
  (hG:∀x y v u H',A5 H H'->E5 X.K H H' x v->E5 X.K H H' y u->F x y->G v u H'):Z3r X.K H0 wa σ H fun v H1=>Z3r X.K H0 wb σ H1 fun u H2=>G v u H2 :=
 ⟨τ,hR,ha.mono τ _ _ (fun x hx v H1 s1 r1=>⟨τ,hR.mono s1,hb.mono τ _ _ (fun y hy u H2 s2 r2=>hG x y v u H2 (s1.trans s2) (r1.mono s2) (r2.older s1) hy) hx⟩) h⟩
def OpD (X:Cx)(f:Value->Value->Sem Value)(g:R->R->(R->Prop)->Prop):Prop :=
 M4 X f (fun x y H Q=>∃r1 r2,IsV X.K H r1 x/\IsV X.K H r2 y/\g r1 r2 fun r=>∀v H',A5 H H'->E5 X.K H H' r v->Q v H')
def V7 {α:Type}(g:R->R->(α->Prop)->Prop):Prop:=∀x y (P Q:α->Prop),(∀r,P r->Q r)->g x y P->g x y Q
def A2 {α:Type}(g:R->R->(α->Prop)->Prop)(wa wb:WE):A9->(α->Prop)->Prop:=fun τ Q=>wa τ fun x=>wb τ fun y=>g x y Q
def DE.op {op:Operator}{g:R->R->(R->Prop)->Prop}(ho:OpD X (binaryOp op) g)(mg:V7 g)(ha:DE X H0 a wa)(hb:DE X H0 b wb):DE X H0 (.BinOp a op b pos) (A2 g wa wb) where
 mono:=fun τ P Q f h=>ha.mono τ _ _ (fun x h=>hb.mono τ _ _ (fun y h=>mg x y P Q f h) h) h
 pe:=N4 (W7a ho ha.pe hb.pe) fun σ H Q ⟨τ,hR,h⟩=>two ha hb hR h fun x y v u H' sm rx ry q =>
  ⟨x,y,rx.v,ry.v,mg x y _ _ (fun r q v cT s2 ir=>q v cT (sm.trans s2) (ir.older sm)) q⟩
def T8 (X:Cx)(op:CmpOp)(g:R->R->(Bool->Prop)->Prop):Prop :=
 M4 X (compareOp op) (fun x y H Q=>∃r1 r2,IsV X.K H r1 x/\IsV X.K H r2 y/\g r1 r2 fun k=>Q (.bl k) H)
def DE.cmp {op:CmpOp}{g:R->R->(Bool->Prop)->Prop}(ho:T8 X op g)(mg:V7 g)(ha:DE X H0 a wa)(hb:DE X H0 b wb)(hm:behindInMarks op b=false) :
  DE X H0 (.Compare a [op] [b] pos) (fun τ Q=>A2 g wa wb τ fun k=>Q (.st (.bl k))) where
 mono:=fun τ P Q f h=>ha.mono τ _ _ (fun x h=>hb.mono τ _ _ (fun y h=>mg x y _ _ (fun k q=>f _ q) h) h) h
 pe:=N4 (W6q ho ha.pe hb.pe hm) fun σ H Q ⟨τ,hR,h⟩=>two ha hb hR h fun x y v u H' sm rx ry q =>
  ⟨x,y,rx.v,ry.v,mg x y _ _ (fun r q=>q _ _ sm Q9c) q⟩
def DT.cmp {op:CmpOp}{g:R->R->(Bool->Prop)->Prop}(ho:T8 X op g)(mg:V7 g)(ha:DE X H0 a wa)(hb:DE X H0 b wb)(hm:behindInMarks op b=false) :
  DT X H0 (.Compare a [op] [b] pos) (A2 g wa wb) where
 mono:=fun τ P Q f h=>ha.mono τ _ _ (fun x h=>hb.mono τ _ _ (fun y h=>mg x y _ _ (fun k q=>f _ q) h) h) h
 pt:=ptW (W8d ho ha.pe hb.pe hm) fun σ H Q ⟨τ,hR,h⟩=>two ha hb hR h fun x y v u H' sm rx ry q =>
  ⟨x,y,rx.v,ry.v,mg x y _ _ (fun r q=>⟨r,rfl,q _ sm⟩) q⟩
def Q3g:R->(Bool->Prop)->Prop
 | .st .non,Q=>Q false
 | .st (.bl b),Q=>Q b
 | .st (.int i),Q=>Q (i != 0)
 | .st (.str x),Q=>x.length<=sizeLine/\Q ((x.length:Int) != 0)
 | .st (.tup ds),Q=>Q (!ds.isEmpty)
 | .st (.lst ds),Q=>Q (!ds.isEmpty)
 | .nw ds,Q=>Q (!ds.isEmpty)
 | .bw ds,Q=>Q (!ds.isEmpty)
 | .dk kvs,Q=>Q (!kvs.isEmpty)
 | .dt _,_=>False
 | .ob _,_=>False
 | .cl _ _,_=>False
 | .ms _ _ _ _,_=>False
def AllS.empty {K:Fg9}{H:Hp}{ds:List D}{xs:List V}(h:AllS K H ds xs):ds.isEmpty=xs.isEmpty:=by
 have:=h.length;cases ds <;> cases xs <;> simp_all
def V2q (r:R)(P Q:Bool->Prop)(f:∀r,P r->Q r)(h:Q3g r P):Q3g r Q:=by
 unfold Q3g at h ⊢;split at h <;> first | exact f _ h | exact⟨h.1,f _ h.2⟩ | exact h
theorem V2r {K:Fg9}{H:Hp}{r:R}{v:V}(ir:IsV K H r v){Q:Bool->Prop}(h:Q3g r Q):∃k,Z1r K v H k/\Q k:=by
 cases r with
 | st d =>
  cases d with
  | non=>cases (show v=.non from ir);exact⟨_,rfl,h⟩
  | bl b=>cases (show v=.bl b from ir);exact⟨_,rfl,h⟩
  | int b=>cases (show v=.int b from ir);exact⟨_,rfl,h⟩
  | str b=>cases (show v=.str b from ir);exact⟨_,⟨h.1,rfl⟩,h.2⟩
  | tup ds =>
   have ir:A1 K H (.tup ds) v:=ir;unfold A1 at ir;obtain⟨p,xs,rfl,q,al⟩:=ir;exact⟨_,.inr (.inl ⟨xs,E1.of q,rfl⟩),by rw [<- al.empty];exact h⟩
  | lst ds =>
   have ir:A1 K H (.lst ds) v:=ir;unfold A1 at ir;obtain⟨p,xs,rfl,q,al⟩:=ir;exact⟨_,.inl ⟨xs,q.sq,rfl⟩,by rw [<- al.empty];exact h⟩
 | nw ds=>obtain⟨p,xs,rfl,_,q,al⟩:=ir;exact⟨_,.inl ⟨xs,D7.of q,rfl⟩,by rw [<- al.empty];exact h⟩
 | bw ds=>obtain⟨p,xs,rfl,q,al⟩:=ir;exact⟨_,.inl ⟨xs,D7.of q,rfl⟩,by rw [<- al.empty];exact h⟩
 | dk ds =>
  obtain⟨p,xs,rfl,q,al⟩:=ir;refine⟨_,.inr (.inr ⟨xs,q,rfl⟩),?_⟩;cases ds with
  | nil=>cases (show xs=[]from al);exact h
  | cons d ds=>obtain⟨v,r,rfl,_⟩:=al;exact h
 | dt _=>exact h.elim
 | ob _=>exact h.elim
 | cl _ _=>exact h.elim
 | ms _ _ _ _=>exact h.elim
def DT.tru (ha:DE X H0 a wa)(he:∀whole,isTrue a X.env whole=(do let v <- whole;standAt a.pos;holding [v] (truthy v))):DT X H0 a (fun τ Q=>wa τ fun r=>Q3g r Q) where
 mono:=fun τ P Q f h=>ha.mono τ _ _ (fun x h=>V2q x P Q f h) h
 pt:=ptW (W8f ha.pe he) fun σ H Q ⟨τ,hR,h⟩=>⟨τ,hR,ha.mono τ _ _ (fun r q v H' sm ir=>by
  obtain⟨k,h1,h2⟩:=V2r ir.v q;exact⟨k,h1,h2 H' sm⟩) h⟩
variable {ta tb tc:WT}{rest:List Expr}
def Q4k (t u:WT):WT:=fun τ Q=>t τ fun k=>if k=true then u τ Q else Q false
def wOr (t u:WT):WT:=fun τ Q=>t τ fun k=>if k=true then Q true else u τ Q
def Z0w (t:WT):WT:=fun τ Q=>t τ fun k=>Q (!k)
def X4 {c A B A' B':Prop}[Decidable c](f:A->A')(g:B->B')(h:if c then A else B):if c then A' else B':=by
 split at h
 ·rename_i hc;rw [aG hc];exact f h
 ·rename_i hc;rw [az hc];exact g h
def DW.and1 (ha:DT X H0 a ta):DW X H0 (.BoolOp .And [a] pos) ta:=⟨ha.mono,W8h ha.pt⟩
def DW.or1 (ha:DT X H0 a ta):DW X H0 (.BoolOp .Or [a] pos) ta:=⟨ha.mono,W8j ha.pt⟩
def DW.and (ha:DT X H0 a ta)(hb:DW X H0 (.BoolOp .And (b::rest) pos) tb):DW X H0 (.BoolOp .And (a::b::rest) pos) (Q4k ta tb) where
 mono:=fun τ P Q f h=>ha.mono τ _ _ (fun k h=>X4 (hb.mono τ _ _ f) (f _) h) h
 pw:=pwW (W8g ha.pt hb.pw) fun σ H Q ⟨τ,hR,h⟩=>⟨τ,hR,ha.mono τ _ _ (fun k q H1 s1 =>
  X4 (fun h=>⟨τ,hR.mono s1,hb.mono τ _ _ (fun k q H2 s2=>q H2 (s1.trans s2)) h⟩) (fun h=>h H1 s1) q) h⟩
def DW.or (ha:DT X H0 a ta)(hb:DW X H0 (.BoolOp .Or (b::rest) pos) tb):DW X H0 (.BoolOp .Or (a::b::rest) pos) (wOr ta tb) where
 mono:=fun τ P Q f h=>ha.mono τ _ _ (fun k h=>X4 (f _) (hb.mono τ _ _ f) h) h
 pw:=pwW (W8i ha.pt hb.pw) fun σ H Q ⟨τ,hR,h⟩=>⟨τ,hR,ha.mono τ _ _ (fun k q H1 s1 =>
  X4 (fun h=>h H1 s1) (fun h=>⟨τ,hR.mono s1,hb.mono τ _ _ (fun k q H2 s2=>q H2 (s1.trans s2)) h⟩) q) h⟩
def DW.t (h:DW X H0 a ta):DT X H0 a ta:=⟨h.mono,h.pw.pt⟩
def DT.nt (ha:DT X H0 a ta):DT X H0 (.UnaryOp .Not a pos) (Z0w ta) where
 mono:=fun τ P Q f h=>ha.mono τ _ _ (fun k h=>f _ h) h
 pt:=ptW (W8e ha.pt) fun σ H Q hq15=>(by obtain⟨τ,hR,h⟩:=hq15;exact⟨τ,hR,h⟩)
def blR:R->(Bool->Prop)->Prop
 | .st (.bl b),Q=>Q b
 | _,_=>False
def Z9k {r:R}{P:Bool->Prop}(h:blR r P):∃k,r=.st (.bl k)/\P k:=by
 unfold blR at h;split at h
 ·exact⟨_,rfl,h⟩
 ·exact h.elim
def Q3h (wa wb:WE):WE:=fun τ Q=>wa τ fun r=>blR r fun k=>if k=true then wb τ Q else Q (.st (.bl false))
def DE.and1 (ha:DE X H0 a wa):DE X H0 (.BoolOp .And [a] pos) wa:=⟨ha.mono,W6z ha.pe⟩
def DE.and (ha:DE X H0 a wa)(hb:DE X H0 (.BoolOp .And (b::rest) pos) wb):DE X H0 (.BoolOp .And (a::b::rest) pos) (Q3h wa wb) where
 mono:=fun τ P Q f h=>ha.mono τ _ _ (fun r h=>by
  obtain⟨k,rfl,h⟩:=Z9k h;exact X4 (hb.mono τ _ _ f) (f _) h) h
 pe:=N4 (W6l ha.pe hb.pe) fun σ H Q ⟨τ,hR,h⟩=>⟨τ,hR,ha.mono τ _ _ (fun r h v H1 s1 ir=>by
  obtain⟨k,rfl,h⟩:=Z9k h;refine⟨k,ir,X4 (fun h=>⟨τ,hR.mono s1,hb.mono τ _ _ (fun r q u H2 s2 iu=>q u H2 (s1.trans s2) (iu.older s1)) h⟩) (fun h=>h _ _ s1 Q9c) h⟩) h⟩
def wIf (t:WT)(wa wb:WE):WE:=fun τ Q=>t τ fun k=>if k=true then wa τ Q else wb τ Q
def DE.ife (hc:DT X H0 c tc)(ha:DE X H0 a wa)(hb:DE X H0 b wb):DE X H0 (.IfExp c a b pos) (wIf tc wa wb) where
 mono:=fun τ P Q f h=>hc.mono τ _ _ (fun k h=>X4 (ha.mono τ _ _ f) (hb.mono τ _ _ f) h) h
 pe:=N4 (W6u hc.pt ha.pe hb.pe) fun σ H Q ⟨τ,hR,h⟩=>⟨τ,hR,hc.mono τ _ _ (fun k h H1 s1 =>
  X4 (fun h=>⟨τ,hR.mono s1,ha.mono τ _ _ (fun r q u H2 s2 iu=>q u H2 (s1.trans s2) (iu.older s1)) h⟩) (fun h=>⟨τ,hR.mono s1,hb.mono τ _ _ (fun r q u H2 s2 iu=>q u H2 (s1.trans s2) (iu.older s1)) h⟩) h) h⟩
variable {es:List Expr}{wr:WA}
def A6:WA:=fun _ Q=>Q []
def A4 (we:WE)(wr:WA):WA:=fun τ Q=>we τ fun r=>wr τ fun rs=>Q (r::rs)
theorem K5.older {K:Fg9}{H0 H1 H:Hp}(s:A5 H0 H1):∀{rs:List R}{vs:List V},K5 K H1 H rs vs->K5 K H0 H rs vs
 | [],_,h=>h
 | r::rs,_,h=>by obtain⟨v,t,e,q,z⟩:=h;exact⟨v,t,e,q.older s,K5.older s z⟩
def DA.nil:DA X H0 [] A6:=⟨fun τ Q h=>⟨rfl,h⟩,fun τ P Q f h=>f _ h,paW X7 fun σ H Q hq16=>(by obtain⟨τ,hR,h⟩:=hq16;exact h [] H (A5.refl H) rfl)⟩
def DA.cons (ha:DE X H0 e we)(hr:DA X H0 es wr)(hs:starEach (e::es) X.env=(false,eval e X.env)::starEach es X.env:=by rfl):DA X H0 (e::es) (A4 we wr) where
 len:=fun τ Q h=>ha.mono τ _ _ (fun r h=>hr.mono τ _ _ (fun rs h=>⟨by rw [aD,aD,h.1],h.2⟩) (hr.len τ _ h)) h
 mono:=fun τ P Q f h=>ha.mono τ _ _ (fun r h=>hr.mono τ _ _ (fun rs h=>f _ h) h) h
 pa:=paW (T0 ha.pe hr.pa hs) fun σ H Q ⟨τ,hR,h⟩=>⟨τ,hR,ha.mono τ _ _ (fun r h v H1 s1 ir=>⟨τ,hR.mono s1,hr.mono τ _ _ (fun rs h vs H2 s2 cq =>
  h (v::vs) H2 (s1.trans s2) ⟨v,vs,rfl,ir.mono s2,cq.older s1⟩) h⟩) h⟩
def Q0g:List R->Option (List D)
 | []=>some []
 | .st d::rs=>(Q0g rs).map (d::·)
 | _::_=>none
theorem Z5k {K:Fg9}{H0 H:Hp}:∀{rs:List R}{ds:List D}{vs:List V},Q0g rs=some ds->K5 K H0 H rs vs->AllS K H ds vs
 | [],ds,vs,h,q=>by cases h;cases q;exact AllS.nil
 | .st d::rs,ds,vs,h,q=>by
  obtain⟨v,t,rfl,iv,z⟩:=q;unfold Q0g at h;cases e:Q0g rs with
  | none=>rw [e]at h;cases h
  | some es=>rw [e]at h;cases h;exact AllS.cons iv (Z5k e z)
 | .nw _::_,_,_,h,_=>by cases h
 | .bw _::_,_,_,h,_=>by cases h
 | .dk _::_,_,_,h,_=>by cases h
 | .dt _::_,_,_,h,_=>by cases h
 | .ob _::_,_,_,h,_=>by cases h
 | .cl _ _::_,_,_,h,_=>by cases h
 | .ms _ _ _ _::_,_,_,h,_=>by cases h
def Q3m (wr:WA):WE:=fun τ Q=>wr τ fun rs=>∃ds,Q0g rs=some ds/\ds.length<=sizeLine/\Q (.st (.tup ds))
def M3 (wr:WA):WE:=fun τ Q=>wr τ fun rs=>∃ds,Q0g rs=some ds/\ds.length<=sizeLine/\Q (.nw ds)
def DE.tup {k:Nat}(h:DA X H0 es wr):DE X H0 (.Tuple es k pos) (Q3m wr) where
 mono:=fun τ P Q f h'=>h.mono τ _ _ (fun rs ml=>(by obtain⟨ds,e,l,q⟩:=ml;exact⟨ds,e,l,f _ q⟩)) h'
 pe:=N4 (W7d h.pa) fun σ H Q ⟨τ,hR,h'⟩=>⟨τ,hR,h.mono τ _ _ (fun rs mj vs H1 s1 cq=>by
  obtain⟨ds,e,l,q⟩:=mj;have al:=Z5k e cq;refine⟨by rw [<- al.length];exact l,fun p hp=>q _ _ (s1.trans (G1 hp _)) (A1.s_tup upd_same (al.mono (Kp.of (G1 hp _)) _ _))⟩) h'⟩
def DE.lst (h:DA X H0 es wr):DE X H0 (.List es pos) (M3 wr) where
 mono:=fun τ P Q f h'=>h.mono τ _ _ (fun rs mi=>(by obtain⟨ds,e,l,q⟩:=mi;exact⟨ds,e,l,f _ q⟩)) h'
 pe:=N4 (W6x h.pa) fun σ H Q ⟨τ,hR,h'⟩=>⟨τ,hR,h.mono τ _ _ (fun rs mh vs H1 s1 cq=>by
  obtain⟨ds,e,l,q⟩:=mh;have al:=Z5k e cq;refine⟨by rw [<- al.length];exact l,fun p hp=>q _ _ (s1.trans (G1 hp _)) ⟨p,vs,rfl,s1.free hp,upd_same,al.mono (Kp.of (G1 hp _)) _ _⟩⟩) h'⟩
end
def X3 {α:Type}{l:List (Option α)}{i:Nat}{x:Option α}(h:i<l.length):(l.set i x)[i]?=some x:=by simp [h]
def C4.set {K:Fg9}{H0 H:Hp}{τ:A9}{σ:St}{i:Nat}{s:Sl}{v:V}(h:C4 K H0 τ σ H)(q:O3 K H0 H s v)
  (ap:s.mut=true->∀(j:Nat) (t:Sl),j≠i->τ[j]?=some (some t)->t.mut=true->σ[j]?≠some (some v)):C4 K H0 (τ.set i (some s)) (σ.set i (some v)) H where
 len:=by rw [bM,bM];exact h.len
 same:=h.same
 here:=fun j t e=>by
  by_cases hj:j=i
  ·subst hj
   by_cases hl:j<τ.length
   ·rw [X3 hl]at e;cases e;exact⟨v,X3 (by rw [<- h.len];exact hl),q⟩
   ·rw [aw.mpr (by rw [bM];omega)]at e;cases e
  ·rw [aN (fun z=>hj z.symm)]at e ⊢;exact h.here j t e
 apart:=fun j k s1 s2 u cz e1 e2 m1 m2 q1 q2=>by
  by_cases hj:j=i
  ·subst hj;have hk:k≠j:=fun z=>cz z.symm
   by_cases hl:j<τ.length
   ·rw [X3 hl]at e1;cases e1;rw [X3 (by rw [<- h.len];exact hl)]at q1;cases q1;rw [aN (fun z=>hk z.symm)]at e2 q2;exact ap m1 k s2 hk e2 m2 q2
   ·rw [aw.mpr (by rw [bM];omega)]at e1;cases e1
  ·by_cases hk:k=i
   ·subst hk
    by_cases hl:k<τ.length
    ·rw [X3 hl]at e2;cases e2;rw [X3 (by rw [<- h.len];exact hl)]at q2;cases q2;rw [aN (fun z=>hj z.symm)]at e1 q1;exact ap m2 j s1 hj e1 m1 q1
    ·rw [aw.mpr (by rw [bM];omega)]at e2;cases e2
   ·rw [aN (fun z=>hj z.symm)]at e1 q1;rw [aN (fun z=>hk z.symm)]at e2 q2;exact h.apart j k s1 s2 u cz e1 e2 m1 m2 q1 q2
theorem C4.tracked {K:Fg9}{H0 H:Hp}{τ:A9}{σ:St}{j:Nat}{t:Sl}{p:Addr}(h:C4 K H0 τ σ H)(e:τ[j]?=some (some t))(m:t.mut=true)(q:σ[j]?=some (some (.ref p))):∃o,H p=some o:=by
 obtain⟨v,hv,r⟩:=h.here j t e;rw [q]at hv;cases hv;cases t with
 | dat _=>cases m
 | bor _=>cases m
 | bd _=>cases m
 | own ds=>obtain⟨a,xs,e,_,q,_⟩:=r;cases e;exact⟨_,q⟩
 | dk ds=>obtain⟨a,xs,e,_,q,_⟩:=r;cases e;exact⟨_,q⟩
 | dt ds=>obtain⟨a,xs,e,_,q,_⟩:=r;cases e;exact⟨_,q⟩
 | ob _=>cases m
 | cl _ _=>cases m
 | ll _ _=>cases m
 | ins _ _ _=>obtain⟨e,_,dx,xs,q,_⟩:=r;cases e;exact⟨_,q⟩
def T3:R->(Sl->Prop)->Prop
 | .st d,Q=>Q (.dat d)
 | .nw ds,Q=>Q (.own ds)
 | _,_=>False
theorem V1v {r:R}{P:Sl->Prop}(h:T3 r P):∃s,P s/\((∃d,r=.st d/\s=.dat d)\/∃ds,r=.nw ds/\s=.own ds):=by
 cases r with
 | st d=>exact⟨_,h,.inl ⟨d,rfl,rfl⟩⟩
 | nw ds=>exact⟨_,h,.inr ⟨ds,rfl,rfl⟩⟩
 | bw _=>exact h.elim
 | dk _=>exact h.elim
 | dt _=>exact h.elim
 | ob _=>exact h.elim
 | cl _ _=>exact h.elim
 | ms _ _ _ _=>exact h.elim
def Z5w {r:R}{P Q:Sl->Prop}(f:∀s,P s->Q s)(h:T3 r P):T3 r Q:=by
 cases r <;> first | exact f _ h | exact h
def C4.store {K:Fg9}{H0 H H1:Hp}{τ:A9}{σ:St}{i:Nat}{r:R}{v:V}(h:C4 K H0 τ σ H)(sm:A5 H H1)(ir:E5 K H H1 r v){P:Sl->Prop}(st:T3 r P):∃s,P s/\C4 K H0 (τ.set i (some s)) (σ.set i (some v)) H1:=by
 obtain⟨s,p,⟨d,rfl,rfl⟩ | ⟨ds,rfl,rfl⟩⟩:=V1v st
 ·exact⟨_,p,(h.mono sm).set ir fun m=>by cases m⟩
 ·obtain⟨a,xs,rfl,hn,ha,al⟩:=ir;refine⟨_,p,(h.mono sm).set ⟨a,xs,rfl,h.same.free hn,ha,al⟩ fun _ j t hj e m q=>?_⟩;obtain⟨o,ho⟩:=h.tracked e m q;rw [hn]at ho;cases ho
section
variable {X:Cx}{H0:Hp}{c e:Expr}{pos bC:Pos}{wb we:WE}{tc:WT}{st:Stmt}{jx:List Stmt}{ws wt:WS}
def M7:WS:=fun E τ=>E.nx τ
def A7 (t u:WS):WS:=fun E τ=>t { E with nx:=u E } τ
def A3.nil:A3 X H0 [] M7:=⟨fun τ E F le h=>le.nx τ h,Z4u W8a fun D σ H bR=>(by obtain⟨τ,hR,h⟩:=bR;exact h σ H (Kp.refl H) hR)⟩
def A3.cons (h1:DS X H0 st ws)(h2:A3 X H0 jx wt):A3 X H0 (st::jx) (A7 ws wt) where
 mono:=fun τ E F le h=>h1.mono τ { E with nx:=wt E } { F with nx:=wt F } ⟨fun τ' h=>h2.mono τ' E F le h,le.rt,le.bk,le.ct⟩ h
 ps:=Z4u (W7z h1.ps h2.ps) fun D σ H cp=>(by obtain⟨τ,hR,h⟩:=cp;exact⟨τ,hR,h1.mono τ { O7 X.K H0 H D with nx:=wt (O7 X.K H0 H D) } _ ⟨fun τ' h σ' H' k de=>⟨τ',de,h2.mono τ' _ _ (Z3q k) h⟩,fun _ h=>h,fun _ h=>h,fun _ h=>h⟩ h⟩)
def A3.one (h1:DS X H0 st ws):A3 X H0 [st] ws:=⟨h1.mono,Z4u (W8b h1.ps) fun D σ H h=>h⟩
def N6 (t:WT)(ws wt:WS):WS:=fun E τ=>t τ fun k=>if k=true then ws E τ else wt E τ
def DS.ife {sa sb:List Stmt}(hc:DT X H0 c tc)(ha:A3 X H0 sa ws)(hb:A3 X H0 sb wt):DS X H0 (.If c sa sb pos) (N6 tc ws wt) where
 mono:=fun τ E F le h=>hc.mono τ _ _ (fun k h=>X4 (ha.mono τ E F le) (hb.mono τ E F le) h) h
 ps:=psW (W7w hc.pt ha.ps hb.ps) fun D σ H ⟨τ,hR,h⟩=>⟨τ,hR,hc.mono τ _ _ (fun k h H1 s1 =>
  X4 (fun h=>⟨τ,hR.mono s1,ha.mono τ _ _ (Z3q (Kp.of s1)) h⟩) (fun h=>⟨τ,hR.mono s1,hb.mono τ _ _ (Z3q (Kp.of s1)) h⟩) h) h⟩
def Q5n:R->(R->Prop)->Prop
 | .st d,Q=>Q (.st d)
 | .nw ds,Q=>Q (.nw ds)
 | _,_=>False
def W9w {r:R}{P:R->Prop}(h:Q5n r P):P r:=by
 cases r <;> first | exact h | exact h.elim
def W9v {r:R}{P Q:R->Prop}(f:∀s,P s->Q s)(h:Q5n r P):Q5n r Q:=by
 cases r <;> first | exact f _ h | exact h
def J3 (we:WE):WS:=fun E τ=>we τ fun r=>Q5n r E.rt
def DS.ret (he:DE X H0 e we):DS X H0 (.Return (some e) pos) (J3 we) where
 mono:=fun τ E F le h=>he.mono τ _ _ (fun r h=>W9v le.rt h) h
 ps:=psW (Y3r he.pe) fun D σ H i8=>(by obtain⟨τ,hR,h⟩:=i8;exact⟨τ,hR,he.mono τ _ _ (fun r h v H1 s1 ir=>W9w (P:=(O7 X.K H0 H D).rt) h v H1 (hR.same.trans s1) (ir.older hR.same)) h⟩)
def Q2e:Sl->(R->Prop)->Prop
 | .dat d,Q=>Q (.st d)
 | .own ds,Q=>Q (.nw ds)
 | _,_=>False
def DS.retV {i:Nat}(he:PE X e (S4 i)):DS X H0 (.Return (some e) pos) (fun E τ=>∃s,τ[i]?=some (some s)/\Q2e s E.rt) where
 mono:=fun τ E F le fQ=>(by obtain⟨s,h1,h2⟩:=fQ;exact⟨s,h1,by cases s <;> first | exact le.rt _ h2 | exact h2⟩)
 ps:=psW (Y3r he) fun D σ H bR=>by
  obtain⟨τ,hR,s,h1,h2⟩:=bR;obtain⟨v,hv,q⟩:=hR.here i s h1;refine⟨v,hv,?_⟩;cases s with
  | dat d=>exact h2 v H hR.same q
  | own ds=>exact h2 v H hR.same q
  | bor _=>exact h2.elim
  | bd _=>exact h2.elim
  | dk _=>exact h2.elim
  | dt _=>exact h2.elim
  | ob _=>exact h2.elim
  | cl _ _=>exact h2.elim
  | ll _ _=>exact h2.elim
  | ins _ _ _=>exact h2.elim
def C2 (i:Nat)(we:WE):WS:=fun E τ=>we τ fun r=>T3 r fun s=>E.nx (τ.set i (some s))
def DS.set {i:Nat}{x:Str}(he:DE X H0 e we)(hN:X.N.Nodup)(hi:X.N[i]?=some x)(hx:Loc X.env.scope x)(hs:swapsWith e (some (.Name x bC)) pos.line X.env=pure false:=by rfl)
  (hf:X.fn x=true\/X.env.scope.names.lookup x=some .local:=by first | exact .inl rfl | exact .inr rfl | assumption):DS X H0 (.Assign [.Name x bC] e pos) (C2 i we) where
 mono:=fun τ E F le h=>he.mono τ _ _ (fun r h=>Z5w (fun s h=>le.nx _ h) h) h
 ps:=psW (Z4t hN hi hx he.pe hs hf) fun D σ H ⟨τ,hR,h⟩=>⟨τ,hR,he.mono τ _ _ (fun r h v H1 s1 ir=>by
  obtain⟨s,p,de⟩:=hR.store (i:=i) s1 ir h;exact p _ _ (Kp.of s1) de) h⟩
def J4 (t:WT)(wb:WS):Nat->WS
 | 0=>fun _ _=>False
 | n+1=>fun E τ=>t τ fun k=>if k=true then wb { E with nx:=J4 t wb n E,ct:=J4 t wb n E,bk:=E.nx } τ else E.nx τ
def Q2k (t:WT)(wb:WS):WS:=fun E τ=>∃n,J4 t wb n E τ
theorem Z7u (ht:∀(τ:A9) (P Q:Bool->Prop),(∀r,P r->Q r)->tc τ P->tc τ Q)(hb:∀(τ:A9) (E F:F6),E.Le F->ws E τ->ws F τ) :
  ∀(n:Nat) (τ:A9) (E F:F6),E.Le F->J4 tc ws n E τ->J4 tc ws n F τ
 | 0,_,_,_,_,h=>h
 | n+1,τ,E,F,le,h=>ht τ _ _ (fun k h=>X4 (hb τ { E with nx:=J4 tc ws n E,ct:=J4 tc ws n E,bk:=E.nx } { F with nx:=J4 tc ws n F,ct:=J4 tc ws n F,bk:=F.nx } ⟨fun τ h=>Z7u ht hb n τ E F le h,le.rt,le.nx,fun τ h=>Z7u ht hb n τ E F le h⟩) (le.nx τ) h) h
def DS.whl {body:List Stmt}(hp:PassesOwn (model X.prog X.w) X.A X.env X.xe)(hc:DT X H0 c tc)(hb:A3 X H0 body ws):DS X H0 (.While c body [] pos) (Q2k tc ws) where
 mono:=fun τ E F le fx=>(by obtain⟨n,h⟩:=fx;exact⟨n,Z7u hc.mono hb.mono n τ E F le h⟩)
 ps:=psW (W7y hp hc.pt hb.ps) fun D σ H0' cp=>by
  obtain⟨τ,hR,n,h⟩:=cp;refine⟨fun m σ H=>∃ τ,C4 X.K H0 τ σ H/\Kp H0' H/\J4 tc ws m (O7 X.K H0 H0' D) τ,⟨n,τ,hR,Kp.refl _,h⟩,?_⟩;rintro m σ H ⟨τ,hR,kp,h⟩;cases m with
  | zero=>exact h.elim
  | succ m =>
   refine⟨τ,hR,hc.mono τ _ _ (fun k h H1 s1=>X4 (fun h=>?_) (fun h=>h σ H1 (kp.trans (Kp.of s1)) (hR.mono s1)) h) h⟩;refine⟨fun σ' H'=>∃ τ,C4 X.K H0 τ σ' H'/\Kp H0' H'/\J4 tc ws m (O7 X.K H0 H0' D) τ,fun σ' H' h'=>⟨m,cf m,h'⟩,τ,hR.mono s1,?_⟩;have k1:=kp.trans (Kp.of s1);exact hb.mono τ { O7 X.K H0 H0' D with nx:=J4 tc ws m (O7 X.K H0 H0' D),ct:=J4 tc ws m (O7 X.K H0 H0' D),bk:=(O7 X.K H0 H0' D).nx } _
    ⟨fun τ' h' σ' H' k de=>⟨τ',de,k1.trans k,h'⟩,fun _ h=>h,fun τ' h' σ' H' k de=>h' σ' H' (k1.trans k) de,fun τ' h' σ' H' k de=>⟨τ',de,k1.trans k,h'⟩⟩ h
end
abbrev D9:=List R->R->Prop
def N1:R->Bool
 | .st _=>true
 | .nw _=>true
 | .bw _=>true
 | .ob _=>true
 | .cl _ _=>true
 | _=>false
def J9:R->R
 | .nw ds=>.bw ds
 | r=>r
def Q2x (K:Fg9)(n:Nat)(sp:D9):Sp:=fun vs H Q _=>∃(rs:List R) (r:R),rs.length=n/\K5 K (fun _=>none) H rs vs/\rs.all N1=true/\sp (rs.map J9) r/\∀v H',A5 H H'->E5 K H H' r v->Q v H'
def R4:R->Sl
 | .st d=>.dat d
 | .nw ds=>.bor ds
 | .bw ds=>.bor ds
 | .dk k=>.dk k
 | .dt k=>.dt k
 | .ob a=>.ob a
 | .cl a Φ=>.cl a Φ
 | .ms a C _ fs=>.ins a C fs
def E9 (N:List Str)(rs:List R):A9:=rs.map (fun r=>some (R4 r))++List.replicate (N.length-rs.length) none
theorem K5.length {K:Fg9}{H0 H:Hp}:∀{rs:List R}{vs:List V},K5 K H0 H rs vs->rs.length=vs.length
 | [],_,h=>by cases h;rfl
 | r::rs,_,h=>by obtain⟨v,t,rfl,_,z⟩:=h;rw [aD,aD,K5.length z]
theorem K5.get {K:Fg9}{H0 H:Hp}:∀{rs:List R}{vs:List V}{i:Nat}{r:R},K5 K H0 H rs vs->rs[i]?=some r->∃v,vs[i]?=some v/\E5 K H0 H r v
 | [],_,_,_,_,e=>by simp at e
 | r::rs,_,0,r',h,e=>by obtain⟨v,t,rfl,q,z⟩:=h;simp at e;subst e;exact⟨v,rfl,q⟩
 | r::rs,_,i+1,r',h,e=>by
  obtain⟨v,t,rfl,q,z⟩:=h;obtain⟨u,h1,h2⟩:=K5.get (i:=i) z (by simpa using e);exact⟨u,by simpa using h1,h2⟩
theorem K5.v {K:Fg9}{H0 H:Hp}:∀{rs:List R}{vs:List V},K5 K H0 H rs vs->K5 K (fun _=>none) H rs vs
 | [],_,h=>h
 | r::rs,_,h=>by obtain⟨v,t,e,q,z⟩:=h;exact⟨v,t,e,q.v,K5.v z⟩
def V1r (r:R):R4 (J9 r)=R4 r:=by cases r <;> rfl
def Q7p (N:List Str)(rs:List R):E9 N (rs.map J9)=E9 N rs:=by
 unfold E9;rw [aF,ac];congr 1;exact aM fun r _=>congrArg some (V1r r)
theorem O3.arg {K:Fg9}{H:Hp}:∀{r:R}{v:V},N1 r=true->IsV K H r v->O3 K H H (R4 r) v
 | .st d,v,_,h=>h
 | .nw ds,v,_,h=>by obtain⟨a,xs,e,_,q,t⟩:=h;exact⟨a,xs,e,q,t⟩
 | .bw ds,v,_,h=>h
 | .dk _,_,h,_=>by cases h
 | .dt _,_,h,_=>by cases h
 | .ob a,v,_,h=>h
 | .cl _ _,v,_,h=>h
 | .ms _ _ _ _,_,h,_=>by cases h
theorem V1q:∀{r:R},N1 r=true->(R4 r).mut=false
 | .st d,_=>rfl
 | .nw ds,_=>rfl
 | .bw ds,_=>rfl
 | .dk _,h=>by cases h
 | .dt _,h=>by cases h
 | .ob _,_=>rfl
 | .cl _ _,_=>rfl
 | .ms _ _ _ _,h=>by cases h
def Q5m {K:Fg9}{H:Hp}{N:List Str}{rs:List R}{vs:List V}(al:K5 K (fun _=>none) H rs vs)(ok:rs.all N1=true):C4 K H (E9 N rs) (L2.start N vs) H:=by
 have hl:=al.length;have at_:∀(i:Nat) (s:Sl),(E9 N rs)[i]?=some (some s)->∃r,rs[i]?=some r/\s=R4 r:=fun i s e=>by
  unfold E9 at e
  by_cases hi:i<rs.length
  ·rw [aJ (by rw [ac];exact hi),af,aa hi]at e;exact⟨rs[i],aa hi,(aA (aA e)).symm⟩
  ·rw [aQ (by rw [ac];omega)]at e;have:=aB e;rw [List.mem_replicate]at this;cases this.2
 have nJ:∀(i:Nat) (r:R),rs[i]?=some r->N1 r=true:=fun i r e=>ci.mp ok r (aB e);refine⟨?_,A5.refl H,fun i s e=>?_,fun i j s t v _ e1 _ m _ _ _=>?_⟩
 ·unfold E9 L2.start;rw [ai,ai,ac,ac,aY,aY,hl]
 ·obtain⟨r,hr,rfl⟩:=at_ i s e;obtain⟨v,hv,q⟩:=al.get hr;refine⟨v,?_,O3.arg (nJ i r hr) q⟩;unfold L2.start;have hi:i<vs.length:=by
   rcases aX i vs.length with h | h
   ·exact h
   ·rw [aw.mpr h]at hv;cases hv
  rw [aJ (by rw [ac];exact hi),af,hv]
  rfl
 ·obtain⟨r,hr,rfl⟩:=at_ i s e1;rw [V1q (nJ i r hr)]at m;cases m
section
variable {P:Program}{w:World}{K:Fg9}{mg:Str->Option Value}{base:Heap}
def N7.okD {x qual:Str}{st:Stmt}{f:Addr}{fd:FuncData}{N ps:List Str}{k:Nat}{sp:D9}(F:N7 K x qual st f fd)(S:G3 N ps (B6 st))
  (bF:∀(cdv:Value) (A:Around) (outer:List Env) (s:Shared) (H:Hp) (E:XK),D4 k (A.deeper (envOfC qual (B6 st) s.heap.objs.size f cdv)) ->
   ∃ws,A3 (K9 G2 P w K mg base N qual (B6 st) f cdv A outer s H E).nox H (K1 st) ws /\
    ∀rs r,rs.length=ps.length->sp rs r->ws { nx:=fun _=>r=.st .non,rt:=fun r'=>r'=r,bk:=fun _=>False,ct:=fun _=>False } (E9 N rs)) :
  M9 P w K mg base G2 (k+1) f fd ps (Q2x K ps.length sp):=by
 refine F.ok S (fun vs H Q E h=>?_) (fun cdv A outer s H vs Q E hr h=>?_)
 ·obtain⟨rs,r,hl,al,_⟩:=h;rw [<- al.length];exact hl
 obtain⟨rs,r,hl,al,ok,h1,h2⟩:=h;obtain⟨ws,hd,hw⟩:=bF cdv A outer s H E hr;refine⟨_,hd.ps,E9 N rs,Q5m al ok,?_⟩;have hw:=hw (rs.map J9) r (by rw [ac];exact hl) h1;rw [Q7p]at hw;refine hd.mono _ _ _ ⟨fun τ h σ H' _ hR=>?_,fun r' h v H' sm ir=>?_,fun _ h=>False.elim h,fun _ h=>False.elim h⟩ hw
 ·have h:r=.st .non:=h;subst h;exact h2 .non H' hR.same (A1.s_non (K:=K) (H:=H'))
 ·have h:r'=r:=h;subst h;exact h2 v H' sm ir
end
section
variable {X:Cx}{H0:Hp}{e:Expr}{es:List Expr}{wr:WA}{k:Nat}{f:Addr}{fd:FuncData}{ps:List Str}{sp:D9}{x:Str}{p pos:Pos}
def J8 (sp:D9)(wr:WA):WE:=fun τ Q=>wr τ fun rs=>rs.all N1=true/\∃r,sp (rs.map J9) r/\Q r
def DE.call (F:M9 X.prog X.w X.K X.mg X.base G2 k f fd ps (Q2x X.K (e::es).length sp))(hr:D4 k X.A)(hg:Gl X x)(hm:X.mg x=some (.ref f))(hk:PySem.W.keepIn X.K (.ref f)=true)(hb:Q0 X.K fd ps [])
  (ha:DA X H0 (e::es) wr) (cR:(x==("__debug__":Str))=false:=by decide) (he:starEach (e::es) X.env=(false,eval e X.env)::starEach es X.env:=by rfl) (hpl:(backTo pos (starEach es X.env)).any (·.1)=false:=by rfl) :
  DE X H0 (.Call (.Name x p) (e::es) [] pos) (J8 sp wr) where
 mono:=fun τ P Q f h=>ha.mono τ _ _ (fun rs cQ=>by obtain⟨ok,r,h1,h2⟩:=cQ;exact⟨ok,r,h1,f r h2⟩) h
 pe:=N4 (Q9x F hr hg hm hk hb .nil Q9w ha.pa cR he hpl) fun σ H Q ⟨τ,hR,h⟩=>⟨τ,hR,ha.mono τ _ _ (fun rs dG vs H1 s1 cq=>by
  obtain⟨ib,ok,r,h1,h2⟩:=dG;refine⟨rs,r,ib,?_,ok,h1,fun v H' s2 ir=>h2 v H' (s1.trans s2) (ir.older s1)⟩;rw [aW];exact cq.v) (ha.len τ _ h)⟩
end
mutual
def D.eq:D->D->Bool
 | .non,.non=>true
 | .bl a,.bl b=>a==b
 | .bl a,.int b=>(if a then(1:Int)else 0)==b
 | .int a,.bl b=>a==(if b then(1:Int)else 0)
 | .int a,.int b=>a==b
 | .str a,.str b=>a==b
 | .tup a,.tup b=>D.eqs a b
 | .lst a,.lst b=>D.eqs a b
 | _,_=>false
def D.eqs:List D->List D->Bool
 | [],[]=>true
 | x::xs,y::ys=>D.eq x y&&D.eqs xs ys
 | _,_=>false
end
mutual
def D.depth:D->Nat
 | .tup a=>D.depths a+1
 | .lst a=>D.depths a+1
 | _=>0
def D.depths:List D->Nat
 | []=>0
 | x::xs=>max (D.depth x) (D.depths xs)
end
theorem D.depths_get:∀{ds:List D}{i:Nat}{d:D},ds[i]?=some d->d.depth<=D.depths ds
 | [],_,_,h=>by simp at h
 | x::xs,0,d,h=>by simp at h;subst h;unfold D.depths;omega
 | x::xs,i+1,d,h=>by
  have:=D.depths_get (ds:=xs) (i:=i) (d:=d) (by simpa using h);unfold D.depths;omega
mutual
theorem D.eq_refl:∀d:D,D.eq d d=true
 | .non=>by unfold D.eq;rfl
 | .bl a=>by unfold D.eq;simp
 | .int a=>by unfold D.eq;simp
 | .str a=>by unfold D.eq;simp
 | .tup a=>by unfold D.eq;exact D.eqs_refl a
 | .lst a=>by unfold D.eq;exact D.eqs_refl a
theorem D.eqs_refl:∀ds:List D,D.eqs ds ds=true
 | []=>by unfold D.eqs;rfl
 | x::xs=>by unfold D.eqs;rw [D.eq_refl x,D.eqs_refl xs];rfl
end
theorem D.eqs_range:∀(a b:List D),D.eqs a b=((List.range (min a.length b.length)).all (fun i=>match a[i]?,b[i]? with | some x,some y=>D.eq x y | _,_=>true)&&a.length==b.length)
 | [],[]=>by unfold D.eqs;simp
 | [],y::ys=>by unfold D.eqs;simp
 | x::xs,[]=>by unfold D.eqs;simp
 | x::xs,y::ys=>by
  unfold D.eqs;rw [D.eqs_range xs ys];have e:min (x::xs).length (y::ys).length=min xs.length ys.length+1:=by simp [Nat.succ_min_succ]
  rw [e,bq,List.all_cons,List.all_map];simp only [aD,List.getElem?_cons_zero,Function.comp_def,List.getElem?_cons_succ];rw [Bool.and_assoc];congr 2;simp
def IsW (K:Fg9)(H:Hp)(d:D)(v:V):Prop:=match d with
 | .lst ds=>∃a xs,v=.ref a/\D7 K H a xs/\AllS K H ds xs
 | d=>A1 K H d v
theorem A1.w {K:Fg9}{H:Hp}:∀{d:D}{v:V},A1 K H d v->IsW K H d v
 | .non,_,h=>h
 | .bl _,_,h=>h
 | .int _,_,h=>h
 | .str _,_,h=>h
 | .tup _,_,h=>h
 | .lst _,_,h=>by unfold A1 at h;obtain⟨a,xs,e,q,t⟩:=h;exact⟨a,xs,e,q.sq,t⟩
def R.d:R->Option D
 | .st d=>some d
 | .nw ds=>some (.lst ds)
 | .bw ds=>some (.lst ds)
 | _=>none
theorem E5.w {K:Fg9}{H0 H:Hp}:∀{r:R}{v:V}{d:D},r.d=some d->E5 K H0 H r v->IsW K H d v
 | .st d,v,_,e,h=>by cases e;exact A1.w h
 | .nw ds,v,_,e,h=>by cases e;obtain⟨a,xs,e,n,q,t⟩:=h;exact⟨a,xs,e,D7.of q,t⟩
 | .bw ds,v,_,e,h=>by cases e;obtain⟨a,xs,e,q,t⟩:=h;exact⟨a,xs,e,D7.of q,t⟩
 | .dk _,_,_,e,_=>by cases e
 | .dt _,_,_,e,_=>by cases e
 | .ob _,_,_,e,_=>by cases e
 | .cl _ _,_,_,e,_=>by cases e
 | .ms _ _ _ _,_,_,e,_=>by cases e
def Y6k {X:Cx}{a9:Pn9}{σ:St}{H:Hp}{s:Shared}(I:A0 X a9 σ H s){a:Addr}{xs ys:List V}(h1:E1 X.K H a xs)(h2:D7 X.K H a ys):False:=by
 obtain⟨_,_,⟨o,e,c,_⟩,_⟩:=I.tuple h1;obtain⟨_,_,⟨o',n,e',c',_⟩,_⟩:=I.list h2;rw [e]at e';cases e';rw [c]at c';exact absurd c' (by simp)
section
variable {X:Cx}{a9:Pn9}{σ:St}{H:Hp}{s:Shared}
mutual
theorem A1.inj (I:A0 X a9 σ H s):∀(d e:D) (v:V),A1 X.K H d v->A1 X.K H e v->d=e
 | .non,e,v,h1,h2=>by
  cases e <;> unfold A1 at h1 h2 <;> first | rfl | (obtain⟨_,_,z,_⟩:=h2;rw [h1]at z;cases z;done) | (rw [h1]at h2;cases h2;done) | (rw [h1]at h2;cases h2;rfl)
 | .bl p,e,v,h1,h2=>by
  cases e <;> unfold A1 at h1 h2 <;> first | rfl | (obtain⟨_,_,z,_⟩:=h2;rw [h1]at z;cases z;done) | (rw [h1]at h2;cases h2;done) | (rw [h1]at h2;cases h2;rfl)
 | .int p,e,v,h1,h2=>by
  cases e <;> unfold A1 at h1 h2 <;> first | rfl | (obtain⟨_,_,z,_⟩:=h2;rw [h1]at z;cases z;done) | (rw [h1]at h2;cases h2;done) | (rw [h1]at h2;cases h2;rfl)
 | .str p,e,v,h1,h2=>by
  cases e <;> unfold A1 at h1 h2 <;> first | rfl | (obtain⟨_,_,z,_⟩:=h2;rw [h1]at z;cases z;done) | (rw [h1]at h2;cases h2;done) | (rw [h1]at h2;cases h2;rfl)
 | .tup p,.non,v,h1,h2=>by unfold A1 at h1 h2;obtain⟨_,_,e,_⟩:=h1;rw [h2]at e;cases e
 | .tup p,.bl q,v,h1,h2=>by unfold A1 at h1 h2;obtain⟨_,_,e,_⟩:=h1;rw [h2]at e;cases e
 | .tup p,.int q,v,h1,h2=>by unfold A1 at h1 h2;obtain⟨_,_,e,_⟩:=h1;rw [h2]at e;cases e
 | .tup p,.str q,v,h1,h2=>by unfold A1 at h1 h2;obtain⟨_,_,e,_⟩:=h1;rw [h2]at e;cases e
 | .lst p,.non,v,h1,h2=>by unfold A1 at h1 h2;obtain⟨_,_,e,_⟩:=h1;rw [h2]at e;cases e
 | .lst p,.bl q,v,h1,h2=>by unfold A1 at h1 h2;obtain⟨_,_,e,_⟩:=h1;rw [h2]at e;cases e
 | .lst p,.int q,v,h1,h2=>by unfold A1 at h1 h2;obtain⟨_,_,e,_⟩:=h1;rw [h2]at e;cases e
 | .lst p,.str q,v,h1,h2=>by unfold A1 at h1 h2;obtain⟨_,_,e,_⟩:=h1;rw [h2]at e;cases e
 | .tup p,.tup q,v,h1,h2=>by unfold A1 at h1 h2;obtain⟨x,xs,e1,q1,r1⟩:=h1;obtain⟨y,ys,e2,q2,r2⟩:=h2;rw [e1]at e2;cases e2;have e:=I.tuple_inj (E1.of q1) (E1.of q2);subst e;rw [AllS.inj I p q xs r1 r2]
 | .tup p,.lst q,v,h1,h2=>by unfold A1 at h1 h2;obtain⟨x,xs,e1,q1,r1⟩:=h1;obtain⟨y,ys,e2,q2,r2⟩:=h2;rw [e1]at e2;cases e2;exact absurd (Y6k I (E1.of q1) q2.sq) id
 | .lst p,.tup q,v,h1,h2=>by unfold A1 at h1 h2;obtain⟨x,xs,e1,q1,r1⟩:=h2;obtain⟨y,ys,e2,q2,r2⟩:=h1;rw [e1]at e2;cases e2;exact absurd (Y6k I (E1.of q1) q2.sq) id
 | .lst p,.lst q,v,h1,h2=>by unfold A1 at h1 h2;obtain⟨x,xs,e1,q1,r1⟩:=h1;obtain⟨y,ys,e2,q2,r2⟩:=h2;rw [e1]at e2;cases e2;have e:=I.list_inj q1.sq q2.sq;subst e;rw [AllS.inj I p q xs r1 r2]
theorem AllS.inj (I:A0 X a9 σ H s):∀(ds es:List D) (vs:List V),AllS X.K H ds vs->AllS X.K H es vs->ds=es
 | [],[],_,_,_=>rfl
 | [],y::ys,vs,h1,h2=>by unfold AllS at h1 h2;obtain⟨_,_,e,_⟩:=h2;rw [h1]at e;cases e
 | x::xs,[],vs,h1,h2=>by unfold AllS at h1 h2;obtain⟨_,_,e,_⟩:=h1;rw [h2]at e;cases e
 | x::xs,y::ys,vs,h1,h2=>by
  unfold AllS at h1 h2;obtain⟨v,r,e1,q1,t1⟩:=h1;obtain⟨v',r',e2,q2,t2⟩:=h2;rw [e1]at e2;cases e2;rw [A1.inj I x y v q1 q2,AllS.inj I xs ys r t1 t2]
end
end
section
variable {X:Cx}{a9:Pn9}{σ:St}{H:Hp}{s:Shared}
open PySem.SeqAt
def Q2q {ds:List D}{xs:List V}{aP:List Value}(al:AllS X.K H ds xs)(rv:C0 xs aP){j:Nat}(h:j<aP.toArray.size):∃d v,ds[j]?=some d/\A1 X.K H d v/\C1 v aP.toArray[j]:=by
 have hl:=al.length;have hr:=rv.length;have hj:j<aP.length:=by simpa using h
 have fK:j<ds.length:=by omega
 obtain⟨v,hv,q⟩:=al.get (aa fK);obtain⟨u,hu,r⟩:=rv.get hv;have e:u=aP.toArray[j]:=by
  rw [aa hj]at hu;simpa using (aA hu).symm
 exact⟨ds[j],v,aa fK,q,e ▸ r⟩
def Q6u (I:A0 X a9 σ H s){d1 d2:D}{v1 v2:V}{u1 u2:Value}{n:Nat}(h:∀A:Around,A.units+n<cLine->RcAt A s u1 u2 (D.eq d1 d2))(i1:A1 X.K H d1 v1)(i2:A1 X.K H d2 v2)(r1:C1 v1 u1)(r2:C1 v2 u2){A:Around}(hu:A.units+n<cLine):EqAt A s u1 u2 (D.eq d1 d2):=by
 have hA:=h A hu
 by_cases e:u1=u2
 ·subst e;have ev:=r1.inj r2;subst ev;rw [A1.inj I d1 d2 v1 i1 i2,D.eq_refl];exact EqAt.same _
 ·intro prog w E Q hq;unfold eqBool;refine bG ?_;refine wpAny_ite_split (fun kC=>absurd (eq_of_beq kC) e) (fun _=>?_);have fin:wpAny (model prog w) A (richCompare .Eq u1 u2>>=truthOfDropped) Q E s:=a8 (hA prog w E _ (wpAny_truthy_bool hq));cases v1 with
  | non=>cases r1;exact fin
  | bl _=>cases r1;exact fin
  | int _=>obtain⟨t,rfl⟩:=r1;exact fin
  | str _=>obtain⟨t,rfl⟩:=r1;exact fin
  | byt _=>obtain⟨t,rfl⟩:=r1;exact fin
  | ref _=>cases r1;exact fin
  | ty _=>cases r1;exact fin
  | flt b=>cases d1 <;> first | (cases (show V.flt b=_ from i1)) | (unfold A1 at i1;obtain⟨_,_,z,_⟩:=i1;cases z)
inductive Vw (X:Cx)(H:Hp)(s:Shared):D->Value->Prop
 | non:Vw X H s .non .none
 | bl (b:Bool):Vw X H s (.bl b) (.bool b)
 | int (i:Int) (t:Tok):Vw X H s (.int i) (.int i t)
 | str (x:Str) (t:Tok):Vw X H s (.str x) (.str x t)
 | tup {ds:List D}{a:Addr}{xs:List V}{aP:List Value} (al:AllS X.K H ds xs) (rv:C0 xs aP) (pl:s.heap.IsTuple a aP.toArray):Vw X H s (.tup ds) (.ref a)
 | lst {ds:List D}{a:Addr}{xs:List V}{aP:List Value} (al:AllS X.K H ds xs) (rv:C0 xs aP) (pl:s.heap.IsList a aP.toArray):Vw X H s (.lst ds) (.ref a)
theorem Q6a (I:A0 X a9 σ H s){d:D}{v:V}{u:Value}(h:IsW X.K H d v)(r:C1 v u):Vw X H s d u:=by
 cases d with
 | non=>cases (show v=.non from h);cases r;exact .non
 | bl b=>cases (show v=.bl b from h);cases r;exact .bl b
 | int i=>cases (show v=.int i from h);obtain⟨t,rfl⟩:=r;exact .int i t
 | str x=>cases (show v=.str x from h);obtain⟨t,rfl⟩:=r;exact .str x t
 | tup ds=>have h:A1 X.K H (.tup ds) v:=h;unfold A1 at h;obtain⟨a,xs,rfl,sq,al⟩:=h;cases r;obtain⟨aP,rv,pl,_⟩:=I.tuple (E1.of sq);exact .tup al rv pl
 | lst ds=>obtain⟨a,xs,rfl,sq,al⟩:=h;cases r;obtain⟨aP,rv,pl,_⟩:=I.list sq;exact .lst al rv pl.isList
def Q3r (d e:D):Prop:=(∃p q,d=.tup p/\e=.tup q)\/∃p q,d=.lst p/\e=.lst q
def Y3u {d1 d2:D}{u1 u2:Value}{A:Around}(h1:Vw X H s d1 u1)(h2:Vw X H s d2 u2)(hu:A.units<cLine)(hb:¬ Q3r d1 d2):RcAt A s u1 u2 (D.eq d1 d2):=by
 cases h1 <;> cases h2 <;> first | exact absurd (.inl ⟨_,_,rfl,rfl⟩) hb | exact absurd (.inr ⟨_,_,rfl,rfl⟩) hb | (unfold D.eq;(try simp only [Bool.not_true,Bool.not_false]);(with_reducible first | exact RcAt.none_none | exact RcAt.none_bool _ | exact RcAt.none_int _ _ | exact RcAt.none_str _ _ | exact RcAt.none_tuple (by assumption) hu | exact RcAt.none_list (by assumption) hu | exact RcAt.bool_none _ | exact RcAt.bool_bool _ _ | exact RcAt.bool_int _ _ _ | exact RcAt.bool_str _ _ _ | exact RcAt.bool_tuple _ (by assumption) hu | exact RcAt.bool_list _ (by assumption) hu | exact RcAt.int_none _ _ | exact RcAt.int_bool _ _ _ | exact RcAt.int_int _ _ _ _ | exact RcAt.int_str _ _ _ _ | exact RcAt.int_tuple _ _ (by assumption) hu | exact RcAt.int_list _ _ (by assumption) hu | exact RcAt.str_none _ _ | exact RcAt.str_bool _ _ _ | exact RcAt.str_int _ _ _ _ | exact RcAt.str_str _ _ _ _ | exact RcAt.str_tuple _ _ (by assumption) hu | exact RcAt.str_list _ _ (by assumption) hu | exact RcAt.tuple_none (by assumption) hu | exact RcAt.tuple_bool _ (by assumption) hu | exact RcAt.tuple_int _ _ (by assumption) hu | exact RcAt.tuple_str _ _ (by assumption) hu | exact RcAt.tuple_list (by assumption) (by assumption) hu | exact RcAt.list_none (by assumption) hu | exact RcAt.list_bool _ (by assumption) hu | exact RcAt.list_int _ _ (by assumption) hu | exact RcAt.list_str _ _ (by assumption) hu | exact RcAt.list_tuple (by assumption) (by assumption) hu))
theorem Q9z (I:A0 X a9 σ H s):∀(n:Nat) (d1 d2:D) (v1 v2:V) (u1 u2:Value) (A:Around),d1.depth<=n->IsW X.K H d1 v1->IsW X.K H d2 v2->C1 v1 u1->C1 v2 u2->A.units+n<cLine->RcAt A s u1 u2 (D.eq d1 d2):=by
 intro n
 induction n with
 | zero =>
  intro d1 d2 v1 v2 u1 u2 A hd h1 h2 r1 r2 hu;refine Y3u (Q6a I h1 r1) (Q6a I h2 r2) (by omega) ?_;rintro (⟨p,q,rfl,rfl⟩ | ⟨p,q,rfl,rfl⟩) <;> unfold D.depth at hd <;> omega
 | succ n ih =>
  intro d1 d2 v1 v2 u1 u2 A hd h1 h2 r1 r2 hu;have w1:=Q6a I h1 r1;have w2:=Q6a I h2 r2
  by_cases hb:Q3r d1 d2
  ·obtain⟨p,q,rfl,rfl⟩ | ⟨p,q,rfl,rfl⟩:=hb
   ·cases w1;cases w2;rename_i a1 lC fu gx hV fm a2 lB cW fG gy ef;have hd:D.depths p+1<=n+1:=by unfold D.depth at hd;exact hd
    have l1:fu.toArray.size=p.length:=by have:=fm.length;have:=gx.length;simp;omega
    have l2:cW.toArray.size=q.length:=by have:=ef.length;have:=fG.length;simp;omega
    have k:=RcAt.tuples (A:=A) (s:=s) (e:=fun i=>match p[i]?,q[i]? with | some x,some y=>D.eq x y | _,_=>true) hV gy (by omega) (fun j jd fK=>by
     obtain⟨d1,v1,e1,i1,w1⟩:=Q2q fm gx jd;obtain⟨d2,v2,e2,i2,w2⟩:=Q2q ef fG fK;simp only [e1,e2];exact Q6u I (fun A=>ih d1 d2 v1 v2 _ _ A (by have:=D.depths_get e1;omega) i1.w i2.w w1 w2) i1 i2 w1 w2 (by simp only [fO];omega))
    rw [l1,l2]at k;unfold D.eq;rw [D.eqs_range];exact k
   ·cases w1;cases w2;rename_i a1 lC fu gx hV fm a2 lB cW fG gy ef;have hd:D.depths p+1<=n+1:=by unfold D.depth at hd;exact hd
    have l1:fu.toArray.size=p.length:=by have:=fm.length;have:=gx.length;simp;omega
    have l2:cW.toArray.size=q.length:=by have:=ef.length;have:=fG.length;simp;omega
    have kk:RcAt A s (.ref a1) (.ref a2) (D.eqs p q):=by
     rw [D.eqs_range]
     by_cases bD:p.length=q.length
     ·have k:=RcAt.lists (A:=A) (s:=s) (e:=fun i=>match p[i]?,q[i]? with | some x,some y=>D.eq x y | _,_=>true) hV gy (by omega) (by omega) (fun j jd fK=>by
       obtain⟨d1,v1,e1,i1,w1⟩:=Q2q fm gx jd;obtain⟨d2,v2,e2,i2,w2⟩:=Q2q ef fG fK;simp only [e1,e2];exact Q6u I (fun A=>ih d1 d2 v1 v2 _ _ A (by have:=D.depths_get e1;omega) i1.w i2.w w1 w2) i1 i2 w1 w2 (by simp only [fO];omega))
      rw [l1]at k;rw [<- bD,Nat.min_self,beq_self_eq_true,Bool.and_true];exact k
     ·rw [cL.mpr bD,Bool.and_false];exact RcAt.lists_lengths hV gy (by rw [l1,l2];simpa using bD) (by omega)
    unfold D.eq;exact kk
  ·exact Y3u w1 w2 (by omega) hb
end
end TK
end
section
namespace HT
open PySem PyProof.Rows
section
variable {prog:Program}{w:World}{A:Around}{E:VS9}{s:Shared}
def cat_tup0 {t b:Addr}{vs ws:List Value}{Q:VS9}(ht:IsTup s.heap t vs.toArray)(hb:IsTup s.heap b ws.toArray)(hv:vs=[])(h1:Q (.ref b) s):wpAny (model prog w) A (binaryOp .Add (.ref t) (.ref b)) Q E s:=by
 obtain⟨⟨cls,dd,data,sl⟩,ho,hc,n,hd⟩:=id ht;obtain⟨⟨kN,jK,data2,gL⟩,gh,fM,n2,gO⟩:=id hb;simp only at hc hd fM gO;subst hc hd fM gO;exact concat_meets ⟨_,ho,rfl⟩ ⟨_,gh,rfl⟩ noFill_tuple_add seq_tuple_add PySem.F.slot_tuple_add PySem.F.entry_tuple_add (PySem.F.args_tuple_add_2 _ _)
  (tuple_addW0 t b vs.toArray ws.toArray n n2 dd jK sl gL (by simp [hv])) ⟨ho,gh,h1⟩
end
end HT
namespace TK
open PySem PySem.Spec PyProof.Rows L2
section
variable {X:Cx}
def G7 (C:Int->Int->Prop)(f:Int->Int->Int):R->R->(R->Prop)->Prop
 | .st (.int i),.st (.int j),Q=>C i j/\Q (.st (.int (f i j)))
 | _,_,_=>False
def Z3i {C:Int->Int->Prop}{f:Int->Int->Int}{x y:R}{Q:R->Prop}(h:G7 C f x y Q):∃i j,x=.st (.int i)/\y=.st (.int j)/\C i j/\Q (.st (.int (f i j))):=by
 unfold G7 at h;split at h
 ·exact⟨_,_,rfl,rfl,h.1,h.2⟩
 ·exact h.elim
def U4 {C:Int->Int->Prop}{f:Int->Int->Int}:V7 (G7 C f):=fun x y P Q g h=>by
 obtain⟨i,j,rfl,rfl,c,q⟩:=Z3i h;exact⟨c,g _ q⟩
def OpD.ints {F:Value->Value->Sem Value}{C:Int->Int->Prop}{f:Int->Int->Int}(h:M4 X F (rI C fun i j=>.int (f i j))):OpD X F (G7 C f):=by
 intro a9 s σ H x y v u Q I rx ry ⟨r1,r2,h1,h2,hg⟩;obtain⟨i,j,rfl,rfl,c,q⟩:=Z3i hg;exact h a9 s σ H x y v u Q I rx ry ⟨i,j,h1,h2,c,q _ _ (A5.refl H) U5⟩
def OpD.ints0 {F:Value->Value->Sem Value}{f:Int->Int->Int}(h:M4 X F (rI0 fun i j=>.int (f i j))):OpD X F (G7 (fun _ _=>True) f):=by
 intro a9 s σ H x y v u Q I rx ry ⟨r1,r2,h1,h2,hg⟩;obtain⟨i,j,rfl,rfl,c,q⟩:=Z3i hg;exact h a9 s σ H x y v u Q I rx ry ⟨i,j,h1,h2,q _ _ (A5.refl H) U5⟩
abbrev NoC:Int->Int->Prop:=fun _ _=>True
def Q9s:OpD X (binaryOp .FloorDiv) (G7 Q0j fun i j=>i / j):=OpD.ints W5z
def Q5l:OpD X (binaryOp .Mod) (G7 (fun _ j=>0<j) fun i j=>i % j):=OpD.ints W6e
def lsM:R->Option (List D)
 | .nw ds=>some ds
 | .bw ds=>some ds
 | _=>none
def Q9:R->Option (List D)
 | .nw ds=>some ds
 | .bw ds=>some ds
 | .st (.lst ds)=>some ds
 | _=>none
theorem Y2j {K:Fg9}{H0 H:Hp}:∀{r:R}{ds:List D}{v:V},lsM r=some ds->E5 K H0 H r v->∃a xs,v=.ref a/\H a=some (.lst xs)/\AllS K H ds xs
 | .nw ds,_,v,e,h=>by cases e;obtain⟨a,xs,e,n,q,t⟩:=h;exact⟨a,xs,e,q,t⟩
 | .bw ds,_,v,e,h=>by cases e;obtain⟨a,xs,e,q,t⟩:=h;exact⟨a,xs,e,q,t⟩
 | .st _,_,_,e,_=>by cases e
 | .dk _,_,_,e,_=>by cases e
 | .dt _,_,_,e,_=>by cases e
 | .ob _,_,_,e,_=>by cases e
 | .cl _ _,_,_,e,_=>by cases e
 | .ms _ _ _ _,_,_,e,_=>by cases e
theorem Q2b {K:Fg9}{H0 H:Hp}:∀{r:R}{ds:List D}{v:V},Q9 r=some ds->E5 K H0 H r v->∃a xs,v=.ref a/\D7 K H a xs/\AllS K H ds xs
 | .nw ds,_,v,e,h=>by cases e;obtain⟨a,xs,e,n,q,t⟩:=h;exact⟨a,xs,e,D7.of q,t⟩
 | .bw ds,_,v,e,h=>by cases e;obtain⟨a,xs,e,q,t⟩:=h;exact⟨a,xs,e,D7.of q,t⟩
 | .st (.lst ds),_,v,e,h=>by cases e;have h:A1 K H (.lst ds) v:=h;unfold A1 at h;obtain⟨a,xs,e,q,t⟩:=h;exact⟨a,xs,e,q.sq,t⟩
 | .st .non,_,_,e,_=>by cases e
 | .st (.bl _),_,_,e,_=>by cases e
 | .st (.int _),_,_,e,_=>by cases e
 | .st (.str _),_,_,e,_=>by cases e
 | .st (.tup _),_,_,e,_=>by cases e
 | .dk _,_,_,e,_=>by cases e
 | .dt _,_,_,e,_=>by cases e
 | .ob _,_,_,e,_=>by cases e
 | .cl _ _,_,_,e,_=>by cases e
 | .ms _ _ _ _,_,_,e,_=>by cases e
def G5 (x y:R)(Q:R->Prop):Prop :=
 match x,y with
 | .st (.int i),.st (.int j)=>Q (.st (.int (i+j)))
 | .st (.str i),.st (.str j)=>i.length+j.length<=sizeLine/\Q (.st (.str (i++j)))
 | .st (.tup i),.st (.tup j)=>i.length+j.length<=sizeLine/\Q (.st (.tup (i++j)))
 | .nw i,.nw j=>i.length+j.length<=sizeLine/\Q (.nw (i++j))
 | .nw i,.bw j=>i.length+j.length<=sizeLine/\Q (.nw (i++j))
 | .bw i,.nw j=>i.length+j.length<=sizeLine/\Q (.nw (i++j))
 | .bw i,.bw j=>i.length+j.length<=sizeLine/\Q (.nw (i++j))
 | _,_=>False
def S7:V7 G5:=fun x y P Q g h=>by
 unfold G5 at h ⊢;split at h <;> first | exact g _ h | exact⟨h.1,g _ h.2⟩ | exact⟨h.1,h.2.1,g _ h.2.2⟩ | exact h
def Q8r {a9:Pn9}{s:Shared}{σ:St}{H:Hp}{x y:V}{v u:Value}{Q:VK}(I:A0 X a9 σ H s)(rx:C1 x v)(ry:C1 y u){r1 r2:R}{i j:List D}(e1:lsM r1=some i)(e2:lsM r2=some j)
  (h1:IsV X.K H r1 x) (h2:IsV X.K H r2 y) (hz:i.length+j.length<=sizeLine) (q:∀v H',A5 H H'->E5 X.K H H' (.nw (i++j)) v->Q v H'):wpAny (model X.prog X.w) X.A (binaryOp .Add v u) (EP X a9 σ Q) X.xe s:=by
 obtain⟨a,xs,rfl,qa,io⟩:=Y2j e1 h1;obtain⟨b,ys,rfl,qb,im⟩:=Y2j e2 h2;refine W5x a9 s σ H _ _ v u Q I rx ry ⟨a,b,xs,ys,rfl,rfl,qa,qb,by rw [<- io.length,<- im.length];exact hz,fun p hp=>?_⟩;have k:=Kp.of (G1 hp (.lst (xs++ys)));exact q _ _ (G1 hp _) ⟨p,xs++ys,rfl,hp,upd_same,(io.append im).mono k _ _⟩
def S9:OpD X (binaryOp .Add) G5:=by
 intro a9 s σ H x y v u Q I rx ry ⟨r1,r2,h1,h2,hg⟩;unfold G5 at hg;split at hg
 ·exact W5v a9 s σ H x y v u Q I rx ry ⟨_,_,h1,h2,hg _ _ (A5.refl H) U5⟩
 ·exact W5w a9 s σ H x y v u Q I rx ry ⟨_,_,h1,h2,hg.1,hg.2 _ _ (A5.refl H) Q9d⟩
 ·rename_i i j;have h1:A1 X.K H (.tup i) x:=h1;have h2:A1 X.K H (.tup j) y:=h2;unfold A1 at h1 h2;obtain⟨a,xs,rfl,qa,io⟩:=h1;obtain⟨b,ys,rfl,qb,im⟩:=h2;have la:=io.length;have lb:=im.length
  by_cases hx:xs=[]
  ·have zi:i=[]:=cg.mp (by rw [la,hx];rfl);subst zi;cases rx;cases ry;obtain⟨aP,r1,p1,_⟩:=I.tuple (E1.of (K:=X.K) qa);obtain⟨cW,r2,p2,_⟩:=I.tuple (E1.of (K:=X.K) qb);exact HT.cat_tup0 p1 p2 (r1.nil_iff.mpr hx) ⟨.ref b,H,I,rfl,hg.2 _ _ (A5.refl H) (A1.s_tup (K:=X.K) (H:=H) qb im)⟩
  refine W5y a9 s σ H _ _ v u Q I rx ry ⟨a,b,xs,ys,rfl,rfl,E1.of qa,E1.of qb,hx,by omega,fun z=>?_,fun z p hp=>?_⟩
  ·have zj:j=[]:=cg.mp (by rw [lb,z];rfl);subst zj;rw [aW]at hg;exact hg.2 _ _ (A5.refl H) (A1.s_tup (K:=X.K) (H:=H) qa io)
  ·exact hg.2 _ _ (G1 hp _) (A1.s_tup (K:=X.K) upd_same ((io.append im).mono (Kp.of (G1 hp _)) _ _))
 ·exact Q8r I rx ry rfl rfl h1 h2 hg.1 hg.2
 ·exact Q8r I rx ry rfl rfl h1 h2 hg.1 hg.2
 ·exact Q8r I rx ry rfl rfl h1 h2 hg.1 hg.2
 ·exact Q8r I rx ry rfl rfl h1 h2 hg.1 hg.2
 ·exact hg.elim
def S8 (x y:R)(Q:R->Prop):Prop :=
 match x,y with
 | .st (.int i),.st (.int j)=>Q2l i j/\Q (.st (.int (i*j)))
 | .nw ds,.st (.int k)=>-(2 ^ 63)<=k/\k<2 ^ 63/\ds.length*k.toNat<=sizeLine/\Q (.nw (List.replicate k.toNat ds).flatten)
 | _,_=>False
def Q0z:V7 S8:=fun x y P Q g h=>by
 unfold S8 at h ⊢;split at h <;> first | exact⟨h.1,g _ h.2⟩ | exact⟨h.1,h.2.1,h.2.2.1,g _ h.2.2.2⟩ | exact h
theorem AllS.rep {K:Fg9}{H:Hp}{ds:List D}{vs:List V}(h:AllS K H ds vs):∀k:Nat,AllS K H (List.replicate k ds).flatten (List.replicate k vs).flatten
 | 0=>AllS.nil
 | k+1=>by rw [cc,cc,cy,cy];exact h.append (AllS.rep h k)
def Q1f:OpD X (binaryOp .Mult) S8:=by
 intro a9 s σ H x y v u Q I rx ry ⟨r1,r2,h1,h2,hg⟩;unfold S8 at hg;split at hg
 ·exact W6f a9 s σ H x y v u Q I rx ry ⟨_,_,h1,h2,hg.1,hg.2 _ _ (A5.refl H) U5⟩
 ·obtain⟨a,xs,rfl,_,qa,io⟩:=h1;refine W6i a9 s σ H _ y v u Q I rx ry ⟨a,_,xs,rfl,h2,qa,hg.1,hg.2.1,by rw [<- io.length];exact hg.2.2.1,fun p hp=>?_⟩;exact hg.2.2.2 _ _ (G1 hp _) ⟨p,_,rfl,hp,upd_same,(io.rep _).mono (Kp.of (G1 hp _)) _ _⟩
 ·exact hg.elim
def L9 (f:Int->Int->Bool):R->R->(Bool->Prop)->Prop
 | .st (.int i),.st (.int j),Q=>Q (f i j)
 | _,_,_=>False
def Y0a {f:Int->Int->Bool}{x y:R}{Q:Bool->Prop}(h:L9 f x y Q):∃i j,x=.st (.int i)/\y=.st (.int j)/\Q (f i j):=by
 unfold L9 at h;split at h
 ·exact⟨_,_,rfl,rfl,h⟩
 ·exact h.elim
def Q2r {f:Int->Int->Bool}:V7 (L9 f):=fun x y P Q g h=>by
 obtain⟨i,j,rfl,rfl,q⟩:=Y0a h;exact g _ q
def T8.ints {op:CmpOp}{f:Int->Int->Bool}(h:M4 X (compareOp op) (rI0 fun i j=>.bl (f i j))):T8 X op (L9 f):=by
 intro a9 s σ H x y v u Q I rx ry ⟨r1,r2,h1,h2,hg⟩;obtain⟨i,j,rfl,rfl,q⟩:=Y0a hg;exact h a9 s σ H x y v u Q I rx ry ⟨i,j,h1,h2,q⟩
def Z2i:T8 X .Lt (L9 fun i j=>decide (i<j)):=T8.ints W6d
def Z9v:T8 X .Gt (L9 fun i j=>decide (j<i)):=T8.ints W6b
def Z2h:T8 X .GtE (L9 fun i j=>decide (j<=i)):=T8.ints W6a
def P6 (n:Nat)(neg:Bool)(x y:R)(Q:Bool->Prop):Prop:=∃d e,x.d=some d/\y.d=some e/\d.depth<=n/\Q (if neg then !D.eq d e else D.eq d e)
def Q0q {n:Nat}{neg:Bool}:V7 (P6 n neg):=fun x y P Q g bR=>(by obtain⟨d,e,h1,h2,h3,q⟩:=bR;exact⟨d,e,h1,h2,h3,g _ q⟩)
def Q1w {n:Nat}(hu:X.A.units+n<cLine):T8 X .Eq (P6 n false):=by
 intro a9 s σ H x y v u Q I rx ry ⟨r1,r2,h1,h2,d,e,e1,e2,hd,q⟩;exact Q9z I n d e x y v u X.A hd (h1.w e1) (h2.w e2) rx ry hu _ _ _ _ ⟨.bl _,H,I,rfl,q⟩
end
end TK
end
section
namespace TK
open PySem PySem.Spec PyProof.Rows L2
section
variable {X:Cx}
def scD:D->D->Bool
 | .non,.non=>true | .non,.int _=>true | .int _,.non=>true | .non,.bl _=>true | .bl _,.non=>true | .non,.str _=>true | .str _,.non=>true
 | .int _,.int _=>true | .bl _,.bl _=>true | .str _,.str _=>true
 | .int _,.str _=>true | .str _,.int _=>true | .bl _,.str _=>true | .str _,.bl _=>true
 | _,_=>false
def R0 (x y:R)(Q:Bool->Prop):Prop:=∃d e,x=.st d/\y=.st e/\scD d e=true/\Q (!D.eq d e)
def Z4c:V7 R0:=fun x y P Q g dF=>(by obtain⟨d,e,h1,h2,h3,q⟩:=dF;exact⟨d,e,h1,h2,h3,g _ q⟩)
def Z2j:T8 X .NotEq R0:=by
 intro a9 s σ H x y v u Q I rx ry ⟨r1,r2,h1,h2,d,e,e1,e2,hs,q⟩;subst e1 e2;have key:scal x y=true/\(D.eq d e)=decide (x=y):=by
  cases d <;> cases e <;> first
   | (cases hs;done)
   | (replace h1:A1 X.K H _ x:=h1;replace h2:A1 X.K H _ y:=h2;unfold A1 at h1 h2;subst h1;subst h2;refine⟨rfl,?_⟩;unfold D.eq;first | (exact(Y0m).symm) | (exact(Y0l).symm) | (exact(Y0n).symm) | rfl | (simp;done))
 refine W6g a9 s σ H x y v u Q I rx ry ⟨key.1,?_⟩;rw [<- key.2];exact q
def Q0u (neg:Bool)(x y:R)(Q:Bool->Prop):Prop:=∃d,x.d=some d/\y=.st .non/\Q (match d with | .non=>!neg | _=>neg)
def Q9b {neg:Bool}:V7 (Q0u neg):=fun x y P Q g i9=>(by obtain⟨d,h1,h2,q⟩:=i9;exact⟨d,h1,h2,g _ q⟩)
theorem Y1x {K:Fg9}{H:Hp}:∀{d:D}{v:V},IsW K H d v->decide (v=.non)=(match d with | .non=>true | _=>false)
 | .non,v,h=>by cases (show v=.non from h);rfl
 | .bl b,v,h=>by cases (show v=.bl b from h);rfl
 | .int b,v,h=>by cases (show v=.int b from h);rfl
 | .str b,v,h=>by cases (show v=.str b from h);rfl
 | .tup ds,v,h=>by have h:A1 K H (.tup ds) v:=h;unfold A1 at h;obtain⟨a,_,rfl,_⟩:=h;rfl
 | .lst ds,v,h=>by obtain⟨a,_,rfl,_⟩:=h;rfl
def Y9o:T8 X .Is (Q0u false):=by
 intro a9 s σ H x y v u Q I rx ry ⟨r1,r2,h1,h2,d,e1,e2,q⟩;subst e2;refine W6c a9 s σ H x y v u Q I rx ry ⟨h2,?_⟩;rw [Y1x (h1.w e1)];cases d <;> exact q
def Z2k:T8 X .IsNot (Q0u true):=by
 intro a9 s σ H x y v u Q I rx ry ⟨r1,r2,h1,h2,d,e1,e2,q⟩;subst e2;refine W6h a9 s σ H x y v u Q I rx ry ⟨h2,?_⟩;rw [Y1x (h1.w e1)];cases d <;> exact q
theorem Q8l {K:Fg9}{H:Hp}{ds:List D}{xs:List V}(al:AllS K H ds xs){i:Int}{d:D}(h:K8 ds i=some d):∃v,K8 xs i=some v/\A1 K H d v:=by
 unfold K8 at h ⊢;rw [<- al.length];cases e:ixN ds.length i with
 | none=>rw [e]at h;cases h
 | some j =>
  rw [e]at h;obtain⟨v,hv,q⟩:=al.get (i:=j) h;exact⟨v,hv,q⟩
def B1 (x y:R)(Q:R->Prop):Prop:=match x,y with
 | .st (.lst ds),.st (.int i)=>∃d,K8 ds i=some d/\Q (.st d)
 | .nw ds,.st (.int i)=>∃d,K8 ds i=some d/\Q (.st d)
 | .bw ds,.st (.int i)=>∃d,K8 ds i=some d/\Q (.st d)
 | .st (.tup ds),.st (.int i)=>∃d,K8 ds i=some d/\Q (.st d)
 | .st (.str z),.st (.int i)=>z.length<=sizeLine/\∃c,K8 z.cps.toList i=some c/\Q (.st (.str ⟨#[c]⟩))
 | _,_=>False
def W2v:V7 B1:=fun x y P Q g h=>by
 unfold B1 at h ⊢;split at h
 case h_6=>exact h
 case h_5=>obtain⟨z,c,h1,h2⟩:=h;exact⟨z,c,h1,g _ h2⟩
 all_goals (obtain⟨d,h1,h2⟩:=h;exact⟨d,h1,g _ h2⟩)
variable {H0:Hp}{a b c e:Expr}{pos:Pos}{wa wb we:WE}
def DE.ix (ha:DE X H0 a wa)(hb:DE X H0 b wb)(hs:Z1q b):DE X H0 (.Subscript a b pos) (A2 B1 wa wb) where
 mono:=fun τ P Q f h=>ha.mono τ _ _ (fun x h=>hb.mono τ _ _ (fun y h=>W2v x y P Q f h) h) h
 pe:=N4 (Y3k W2y ha.pe hb.pe hs) fun σ H Q ⟨τ,hR,h⟩=>two ha hb hR h fun x y v u H' sm rx ry q=>by
  unfold B1 at q;split at q
  ·have rx:A1 X.K H' _ v:=rx;unfold A1 at rx;obtain⟨p,xs,rfl,sq,al⟩:=rx;obtain⟨d,hd,q⟩:=q;obtain⟨z,hz,iz⟩:=Q8l al hd;exact .inl ⟨p,xs,_,z,rfl,ry,sq.sq,hz,q z H' sm iz⟩
  ·obtain⟨p,xs,rfl,_,sq,al⟩:=rx;obtain⟨d,hd,q⟩:=q;obtain⟨z,hz,iz⟩:=Q8l al hd;exact .inl ⟨p,xs,_,z,rfl,ry,D7.of sq,hz,q z H' sm iz⟩
  ·obtain⟨p,xs,rfl,sq,al⟩:=rx;obtain⟨d,hd,q⟩:=q;obtain⟨z,hz,iz⟩:=Q8l al hd;exact .inl ⟨p,xs,_,z,rfl,ry,D7.of sq,hz,q z H' sm iz⟩
  ·have rx:A1 X.K H' _ v:=rx;unfold A1 at rx;obtain⟨p,xs,rfl,sq,al⟩:=rx;obtain⟨d,hd,q⟩:=q;obtain⟨z,hz,iz⟩:=Q8l al hd;exact .inr (.inl ⟨p,xs,_,z,rfl,ry,E1.of sq,hz,q z H' sm iz⟩)
  ·obtain⟨z,c,h1,q⟩:=q;exact .inr (.inr ⟨_,_,c,rx,ry,z,h1,q _ H' sm Q9d⟩)
  ·exact q.elim
def Q1n (X:Cx)(f:Value)(g:List R->(R->Prop)->Prop):Prop :=
 Q2m X f (fun xs H Q=>∃rs,K5 X.K (fun _=>none) H rs xs/\g rs fun r=>∀v H',A5 H H'->E5 X.K H H' r v->Q v H')
def Q1r (g:List R->(R->Prop)->Prop):Prop:=∀x (P Q:R->Prop),(∀r,P r->Q r)->g x P->g x Q
variable {es:List Expr}{wr:WA}{x:Str}{p:Pos}{id T:String}{g:List R->(R->Prop)->Prop}
def E4 (g:List R->(R->Prop)->Prop)(wr:WA):WE:=fun τ Q=>wr τ fun rs=>g rs Q
def DE.callB (hc:Q1n X (.builtin id) g)(mg:Q1r g)(hg:Gl X x)(hm:X.mg x=none)(hv:bootBuiltins x=some (.builtin id))(ha:DA X H0 (e::es) wr)(hn:x≠"__name__":=by decide)(cR:(x==("__debug__":Str))=false:=by decide)
  (he:starEach (e::es) X.env=(false,eval e X.env)::starEach es X.env:=by rfl) (hpl:(backTo pos (starEach es X.env)).any (·.1)=false:=by rfl):DE X H0 (.Call (.Name x p) (e::es) [] pos) (E4 g wr) where
 mono:=fun τ P Q f h=>ha.mono τ _ _ (fun rs h=>mg rs P Q f h) h
 pe:=N4 (Z4p hc hg hm hv ha.pa hn cR he hpl) fun σ H Q i8=>(by obtain⟨τ,hR,h⟩:=i8;exact⟨τ,hR,ha.mono τ _ _ (fun rs h vs H1 s1 cq=>⟨rs,cq.v,mg rs _ _ (fun r h v H' s2 ir=>h v H' (s1.trans s2) (ir.older s1)) h⟩) h⟩)
def DE.callTy (hc:Q1n X (.type T) g)(mg:Q1r g)(hg:Gl X x)(hm:X.mg x=none)(hv:bootBuiltins x=some (.type T))(ha:DA X H0 (e::es) wr)(hn:x≠"__name__":=by decide)(cR:(x==("__debug__":Str))=false:=by decide)
  (he:starEach (e::es) X.env=(false,eval e X.env)::starEach es X.env:=by rfl) (hpl:(backTo pos (starEach es X.env)).any (·.1)=false:=by rfl):DE X H0 (.Call (.Name x p) (e::es) [] pos) (E4 g wr) where
 mono:=fun τ P Q f h=>ha.mono τ _ _ (fun rs h=>mg rs P Q f h) h
 pe:=N4 (W6p hc hg hm hv ha.pa hn cR he hpl) fun σ H Q j8=>(by obtain⟨τ,hR,h⟩:=j8;exact⟨τ,hR,ha.mono τ _ _ (fun rs h vs H1 s1 cq=>⟨rs,cq.v,mg rs _ _ (fun r h v H' s2 ir=>h v H' (s1.trans s2) (ir.older s1)) h⟩) h⟩)
def V0 {K:Fg9}{H0 H:Hp}{r:R}{vs:List V}(h:K5 K H0 H [r] vs):∃v,vs=[v]/\E5 K H0 H r v:=by
 obtain⟨v,t,rfl,q,z⟩:=h;cases (show t=[]from z);exact⟨v,rfl,q⟩
def Z3p:R->(Nat->Prop)->Prop
 | .st (.str z),Q=>z.length<=sizeLine/\Q z.length
 | .st (.tup ds),Q=>Q ds.length
 | .st (.lst ds),Q=>Q ds.length
 | .nw ds,Q=>Q ds.length
 | .bw ds,Q=>Q ds.length
 | _,_=>False
def F4:List R->(R->Prop)->Prop
 | [r],Q=>Z3p r fun n=>Q (.st (.int n))
 | _,_=>False
def W3q:Q1r F4:=fun x P Q g h=>by
 unfold F4 at h ⊢;split at h
 ·unfold Z3p at h ⊢;split at h <;> first | exact g _ h | exact⟨h.1,g _ h.2⟩ | exact h
 ·exact h
def Y9h:Q1n X (.builtin "len") F4:=by
 intro a9 s σ H xs us Q I rv ⟨rs,cq,h⟩;unfold F4 at h;split at h
 ·obtain⟨v,rfl,ir⟩:=V0 cq;unfold Z3p at h;split at h
  ·cases (show v=.str _ from ir);exact Q6q a9 s σ H _ us Q I rv ⟨_,_,rfl,⟨h.1,rfl⟩,h.2 _ _ (A5.refl H) U5⟩
  ·have ir:A1 X.K H _ v:=ir;unfold A1 at ir;obtain⟨p,xs,rfl,sq,al⟩:=ir;exact Q6q a9 s σ H _ us Q I rv ⟨_,_,rfl,.inr ⟨xs,E1.of sq,rfl⟩,by rw [<- al.length];exact h _ _ (A5.refl H) U5⟩
  ·have ir:A1 X.K H _ v:=ir;unfold A1 at ir;obtain⟨p,xs,rfl,sq,al⟩:=ir;exact Q6q a9 s σ H _ us Q I rv ⟨_,_,rfl,.inl ⟨xs,sq.sq,rfl⟩,by rw [<- al.length];exact h _ _ (A5.refl H) U5⟩
  ·obtain⟨p,xs,rfl,_,sq,al⟩:=ir;exact Q6q a9 s σ H _ us Q I rv ⟨_,_,rfl,.inl ⟨xs,D7.of sq,rfl⟩,by rw [<- al.length];exact h _ _ (A5.refl H) U5⟩
  ·obtain⟨p,xs,rfl,sq,al⟩:=ir;exact Q6q a9 s σ H _ us Q I rv ⟨_,_,rfl,.inl ⟨xs,D7.of sq,rfl⟩,by rw [<- al.length];exact h _ _ (A5.refl H) U5⟩
  ·exact h.elim
 ·exact h.elim
def Q5s:R->Option (List D)
 | .st (.tup ds)=>some ds
 | .st (.lst ds)=>some ds
 | .nw ds=>some ds
 | .bw ds=>some ds
 | _=>none
theorem Y5m {K:Fg9}{H0 H:Hp}:∀{r:R}{ds:List D}{v:V},Q5s r=some ds->E5 K H0 H r v->∃a xs,v=.ref a/\(D7 K H a xs\/H a=some (.tup xs))/\AllS K H ds xs
 | .st (.tup ds),_,v,e,h=>by cases e;have h:A1 K H (.tup ds) v:=h;unfold A1 at h;obtain⟨a,xs,e,q,t⟩:=h;exact⟨a,xs,e,.inr q,t⟩
 | .st (.lst ds),_,v,e,h=>by cases e;have h:A1 K H (.lst ds) v:=h;unfold A1 at h;obtain⟨a,xs,e,q,t⟩:=h;exact⟨a,xs,e,.inl q.sq,t⟩
 | .nw ds,_,v,e,h=>by cases e;obtain⟨a,xs,e,n,q,t⟩:=h;exact⟨a,xs,e,.inl (D7.of q),t⟩
 | .bw ds,_,v,e,h=>by cases e;obtain⟨a,xs,e,q,t⟩:=h;exact⟨a,xs,e,.inl (D7.of q),t⟩
 | .st .non,_,_,e,_=>by cases e
 | .st (.bl _),_,_,e,_=>by cases e
 | .st (.int _),_,_,e,_=>by cases e
 | .st (.str _),_,_,e,_=>by cases e
 | .dk _,_,_,e,_=>by cases e
 | .dt _,_,_,e,_=>by cases e
 | .ob _,_,_,e,_=>by cases e
 | .cl _ _,_,_,e,_=>by cases e
 | .ms _ _ _ _,_,_,e,_=>by cases e
def Q5d:List R->(R->Prop)->Prop
 | [r],Q=>∃ds,Q5s r=some ds/\Q (.nw ds)
 | _,_=>False
def W3y:Q1r Q5d:=fun x P Q g h=>by
 unfold Q5d at h ⊢;split at h
 ·obtain⟨ds,e,q⟩:=h;exact⟨ds,e,g _ q⟩
 ·exact h
theorem Y9j:Q1n X (.type "list") Q5d:=by
 intro a9 s σ H xs us Q I rv ⟨rs,cq,h⟩;unfold Q5d at h;split at h
 ·obtain⟨v,rfl,ir⟩:=V0 cq;obtain⟨ds,e,q⟩:=h;obtain⟨a,xs,rfl,sq,al⟩:=Y5m e ir;exact Y9k a9 s σ H _ us Q I rv ⟨a,xs,rfl,sq.imp id (fun z=>E1.of z),fun l hl=>q _ _ (G1 hl _) ⟨l,xs,rfl,hl,upd_same,al.mono (Kp.of (G1 hl _)) _ _⟩⟩
 ·exact h.elim
def Y0:List R->(R->Prop)->Prop
 | [r],Q=>∃ds,Q5s r=some ds/\Q (.st (.tup ds))
 | _,_=>False
def V2u:Q1r Y0:=fun x P Q g h=>by
 unfold Y0 at h ⊢;split at h
 ·obtain⟨ds,e,q⟩:=h;exact⟨ds,e,g _ q⟩
 ·exact h
def Y9m:Q1n X (.type "tuple") Y0:=by
 intro a9 s σ H xs us Q I rv ⟨rs,cq,h⟩;unfold Y0 at h;split at h
 ·obtain⟨v,rfl,ir⟩:=V0 cq;obtain⟨ds,e,q⟩:=h;obtain⟨a,xs,rfl,sq,al⟩:=Y5m e ir;refine Y9n a9 s σ H _ us Q I rv ⟨a,xs,rfl,?_⟩;rcases sq with sq | sq
  ·exact .inl ⟨sq,fun l hl=>q _ _ (G1 hl _) (A1.s_tup (K:=X.K) upd_same (al.mono (Kp.of (G1 hl _)) _ _))⟩
  ·exact .inr ⟨E1.of sq,q _ _ (A5.refl H) (A1.s_tup (K:=X.K) (H:=H) sq al)⟩
 ·exact h.elim
def Q7t:R->Option String
 | .st .non=>some "NoneType"
 | .st (.bl _)=>some "bool"
 | .st (.int _)=>some "int"
 | .st (.str _)=>some "str"
 | .st (.tup _)=>some "tuple"
 | .nw _=>some "list"
 | .bw _=>some "list"
 | .st (.lst _)=>some "list"
 | _=>none
theorem V3c {K:Fg9}{H0 H:Hp}:∀{r:R}{t:String}{v:V},Q7t r=some t->E5 K H0 H r v->V8 K H v (.type t)\/(t="list"/\∃a xs,v=.ref a/\D7 K H a xs)
 | .st .non,_,v,e,h=>by cases e;cases (show v=.non from h);exact .inl (.non)
 | .st (.bl b),_,v,e,h=>by cases e;cases (show v=.bl b from h);exact .inl (.bl b)
 | .st (.int b),_,v,e,h=>by cases e;cases (show v=.int b from h);exact .inl (.int b)
 | .st (.str b),_,v,e,h=>by cases e;cases (show v=.str b from h);exact .inl (.str b)
 | .st (.tup ds),_,v,e,h=>by cases e;have h:A1 K H (.tup ds) v:=h;unfold A1 at h;obtain⟨a,xs,rfl,q,t⟩:=h;exact .inl (.tup q)
 | .nw ds,_,v,e,h=>by cases e;obtain⟨a,xs,rfl,n,q,t⟩:=h;exact .inl (.lst q)
 | .bw ds,_,v,e,h=>by cases e;obtain⟨a,xs,rfl,q,t⟩:=h;exact .inl (.lst q)
 | .st (.lst ds),_,v,e,h=>by cases e;have h:A1 K H (.lst ds) v:=h;unfold A1 at h;obtain⟨a,xs,rfl,q,t⟩:=h;exact .inr ⟨rfl,a,xs,rfl,q.sq⟩
 | .dk _,_,_,e,_=>by cases e
 | .dt _,_,_,e,_=>by cases e
 | .ob _,_,_,e,_=>by cases e
 | .cl _ _,_,_,e,_=>by cases e
 | .ms _ _ _ _,_,_,e,_=>by cases e
def Q4z (T:String)(t:String):Bool:=t==T||(T=="int"&&t=="bool")
def Z0u (T:String)(we:WE):WE:=fun τ Q=>we τ fun r=>∃t,Q7t r=some t/\Q (.st (.bl (Q4z T t)))
def DE.isi {p2:Pos}{y:Str}(he:DE X H0 e we)(hg:Gl X "isinstance")(hm:X.mg "isinstance"=none)(hv:bootBuiltins "isinstance"=some (.builtin "isinstance"))(ji:Gl X y)(fV:X.mg y=none)(kg:bootBuiltins y=some (.type T))
  (hk:∀K t,t∈["NoneType","bool","int","str","tuple","list"]->PySem.W.kitOne K (.type t) (.type T)=some (Q4z T t))
  (kj:starEach [e,.Name y p2] X.env=(false,eval e X.env)::starEach [.Name y p2] X.env:=by rfl) (fv:starEach [.Name y p2] X.env=(false,eval (.Name y p2) X.env)::starEach [] X.env:=by rfl)
  (hpl:(backTo pos (starEach [.Name y p2] X.env)).any (·.1)=false:=by rfl) (hn:y≠"__name__":=by decide) (hd:(y==("__debug__":Str))=false:=by decide) :
  DE X H0 (.Call (.Name "isinstance" p) [e,.Name y p2] [] pos) (Z0u T we) where
 mono:=fun τ P Q f h=>he.mono τ _ _ (fun r bR=>by obtain⟨t,h1,h2⟩:=bR;exact⟨t,h1,f _ h2⟩) h
 pe:=by
  have hc:Q2m X (.builtin "isinstance") (fun xs H Q=>∃v t,xs=[v,.ty T]/\(V8 X.K H v (.type t)\/(t="list"/\∃a ys,v=.ref a/\D7 X.K H a ys))/\t∈["NoneType","bool","int","str","tuple","list"]/\Q (.bl (Q4z T t)) H):=by
   intro a9 s σ H xs us Q I rv ⟨v,t,e,ty,ht,q⟩;subst e;obtain⟨u,w',rfl,r1,r2⟩:=Z6h rv;cases (show w'=Value.type T from r2);rcases ty with ty | ⟨rfl,a,ys,rfl,sq⟩
   ·exact W2s I r1 ty (hk _ t ht) fun tk=>⟨.bl _,H,I.tok tk,rfl,q⟩
   ·cases (show u=Value.ref a from r1);obtain⟨aP,_,⟨o,n,h1,h2,_⟩,_⟩:=I.list sq;exact bv PySem.W.kitx_list I.kIn ⟨o,h1,h2⟩ (hk _ _ ht) (fun z=>nomatch z) fun tk=>⟨.bl _,H,I.tok tk,rfl,q⟩
  refine N4 (Z4p hc hg hm hv (T0 he.pe (T0 (Y3j (v:=.ty T) ji fV kg rfl hn hd) X7 fv) kj) (by decide) (by decide) kj hpl) fun σ H Q ⟨τ,hR,h⟩=>⟨τ,hR,he.mono τ _ _ (fun r h v H1 s1 ir=>?_) h⟩
  obtain⟨t,h1,h2⟩:=h;refine⟨v,t,rfl,V3c h1 ir,?_,h2 _ _ s1 Q9c⟩;unfold Q7t at h1;split at h1 <;> first | (cases h1;simp) | cases h1
end
abbrev WG:=D->A9->(A9->Prop)->Prop
def W3t (K:Fg9)(H0:Hp)(g:WG):TG:=fun v σ H Q=>∃ τ d,C4 K H0 τ σ H/\A1 K H d v/\g d τ fun τ'=>∀ σ' H',A5 H H'->C4 K H0 τ' σ' H'->Q σ' H'
structure DG (X:Cx)(H0:Hp)(tg:Expr)(g:WG):Prop where
 mono:∀d τ (P Q:A9->Prop),(∀ τ,P τ->Q τ)->g d τ P->g d τ Q
 pg:PG X tg (W3t X.K H0 g)
abbrev WGs:=List D->A9->(A9->Prop)->Prop
def W3u (K:Fg9)(H0:Hp)(g:WGs):TGs:=fun vs σ H Q=>∃ τ ds,C4 K H0 τ σ H/\AllS K H ds vs/\g ds τ fun τ'=>∀ σ' H',A5 H H'->C4 K H0 τ' σ' H'->Q σ' H'
structure G8 (X:Cx)(H0:Hp)(tg:List Expr)(g:WGs):Prop where
 mono:∀d τ (P Q:A9->Prop),(∀ τ,P τ->Q τ)->g d τ P->g d τ Q
 pg:PGs X tg (W3u X.K H0 g)
def pgW {X:Cx}{e:Expr}{t t':TG}(h:PG X e t)(f:∀v σ H Q,t' v σ H Q->t v σ H Q):PG X e t':=fun a9 s σ H v u Q I r q=>h a9 s σ H v u Q I r (f v σ H Q q)
def pgsW {X:Cx}{e:List Expr}{t t':TGs}(h:PGs X e t)(f:∀v σ H Q,t' v σ H Q->t v σ H Q):PGs X e t':=fun a9 s σ H v u Q I r q=>h a9 s σ H v u Q I r (f v σ H Q q)
section
variable {X:Cx}{H0:Hp}{a b e iter tg:Expr}{pos:Pos}{wb we:WE}{es:List Expr}
def B5 (i:Nat):WG:=fun d τ Q=>Q (τ.set i (some (.dat d)))
def DG.nm {i:Nat}{x:Str}(hN:X.N.Nodup)(hi:X.N[i]?=some x)(hx:Loc X.env.scope x)(hf:X.fn x=true\/X.env.scope.names.lookup x=some .local:=by first | exact .inl rfl | exact .inr rfl | assumption):DG X H0 (.Name x pos) (B5 i) where
 mono:=fun d τ P Q f h=>f _ h
 pg:=pgW (W7g hN hi hx hf) fun v σ H Q bR=>(by obtain⟨τ,d,hR,iv,h⟩:=bR;exact h _ _ (A5.refl H) (hR.set iv fun m=>by cases m))
def gNl:WGs:=fun ds τ Q=>ds=[]/\Q τ
def J5 (g:WG)(gs:WGs):WGs:=fun ds τ Q=>∃d r,ds=d::r/\g d τ fun τ'=>gs r τ' Q
def G8.nil:G8 X H0 [] gNl where
 mono:=fun d τ P Q f h=>⟨h.1,f _ h.2⟩
 pg:=pgsW W7k fun vs σ H Q bR=>by
  obtain⟨τ,ds,hR,al,h1,h2⟩:=bR;subst h1;unfold AllS at al;exact⟨al,h2 σ H (A5.refl H) hR⟩
def G8.cons {g:WG}{gs:WGs}(h1:DG X H0 e g)(h2:G8 X H0 es gs)(hs:(assignEach (e::es) X.env).map (·.2)=assign e X.env::(assignEach es X.env).map (·.2):=by rfl):G8 X H0 (e::es) (J5 g gs) where
 mono:=fun d τ P Q f cp=>(by obtain⟨x,r,e1,h⟩:=cp;exact⟨x,r,e1,h1.mono x τ _ _ (fun τ' h=>h2.mono r τ' P Q f h) h⟩)
 pg:=pgsW (W7j h1.pg h2.pg hs) fun vs σ H Q cp=>by
  obtain⟨τ,ds,hR,al,d,r,e1,h⟩:=cp;subst e1;unfold AllS at al;obtain⟨v,t,rfl,iv,al⟩:=al;exact⟨v,t,rfl,τ,d,hR,iv,h1.mono d τ _ _ (fun τ' h σ' H' sm de=>⟨τ',r,de,al.mono (Kp.of sm) _ _,h2.mono r τ' _ _ (fun τ2 h σ2 H2 s2 dZ=>h σ2 H2 (sm.trans s2) dZ) h⟩) h⟩
def gTp (n:Nat)(gs:WGs):WG:=fun d τ Q=>∃ds,d=.tup ds/\ds.length=n/\gs ds τ Q
def DG.tp {k n:Nat}{gs:WGs}(hc:X.calm=true)(h:G8 X H0 es gs)(hn:(assignEach es X.env).length=n:=by rfl)(dH:(assignEach es X.env).findIdx? (·.1)=none:=by rfl):DG X H0 (.Tuple es k pos) (gTp n gs) where
 mono:=fun d τ P Q f cQ=>(by obtain⟨ds,e1,e2,q⟩:=cQ;exact⟨ds,e1,e2,h.mono ds τ P Q f q⟩)
 pg:=pgW (W7i hc h.pg hn dH) fun v σ H Q cQ=>by
  obtain⟨τ,d,hR,iv,ds,e1,e2,q⟩:=cQ;subst e1;unfold A1 at iv;obtain⟨p,xs,rfl,sq,al⟩:=iv;exact⟨p,xs,rfl,E1.of sq,by rw [<- al.length];exact e2,τ,ds,hR,al,q⟩
def DS.asg {g:WG}(he:DE X H0 e we)(hg:DG X H0 tg g)(hs:swapsWithSole [tg] e pos.line X.env=pure false:=by rfl)(hw:swappedStores [tg] e X.env=pure none:=by rfl)
  (h1:(assignEach [tg] X.env).map (·.2)=[assign tg X.env]:=by rfl):DS X H0 (.Assign [tg] e pos) (fun E τ=>we τ fun r=>∃d,r=.st d/\g d τ E.nx) where
 mono:=fun τ E F le h=>he.mono τ _ _ (fun r dG=>by obtain⟨d,e1,h⟩:=dG;exact⟨d,e1,hg.mono d τ _ _ le.nx h⟩) h
 ps:=psW (Z4s he.pe hg.pg hs hw h1) fun D σ H ⟨τ,hR,h⟩=>⟨τ,hR,he.mono τ _ _ (fun r dL v H1 s1 ir=>by
  obtain⟨d,e1,h⟩:=dL;subst e1;exact⟨τ,d,hR.mono s1,ir,hg.mono d τ _ _ (fun τ' h σ' H' s2 de=>h σ' H' (Kp.of (s1.trans s2)) de) h⟩) h⟩
structure Yl (K:Fg9)(H0:Hp)(J:It)(ds:List D)(H:Hp):Prop where
 go:∀H',Kp H H'->A5 H0 H'->∀i,i<ds.length->J.go i H'
 yld:∀H',Kp H H'->A5 H0 H'->∀i x cT d,ds[i]?=some d->J.yld i H' x cT->A5 H' cT/\A1 K cT d x
 stop:∀H',Kp H H'->A5 H0 H'->J.stop ds.length H'
abbrev WI:=A9->(List D->A9->Prop)->Prop
def W3v (K:Fg9)(H0:Hp)(wi:WI):TI:=fun σ H R=>∃ τ,C4 K H0 τ σ H/\wi τ fun ds τ'=>∀J H',Kp H H'->C4 K H0 τ' σ H'->Yl K H0 J ds H'->R J H'
structure DI (X:Cx)(H0:Hp)(tg iter:Expr)(wi:WI):Prop where
 mono:∀ τ (P Q:List D->A9->Prop),(∀ds τ,P ds τ->Q ds τ)->wi τ P->wi τ Q
 pi:PI X tg iter (W3v X.K H0 wi)
def piW {X:Cx}{tg e:Expr}{t t':TI}(h:PI X tg e t)(f:∀ σ H Q,t' σ H Q->t σ H Q):PI X tg e t':=fun a9 s σ H R I q=>h a9 s σ H R I (f σ H R q)
def Y7q {K:Fg9}{H0 H:Hp}{a:Addr}{xs:List V}{ds:List D}(hq:∀H',Kp H H'->A5 H0 H'->D7 K H' a xs)(al:AllS K H ds xs):Yl K H0 (Itl K a) ds H where
 go:=fun H' k s i hi=>⟨xs,xs[i]'(by rw [<- al.length];exact hi),hq H' k s,aa _⟩
 yld:=fun H' k s i x cT d hd dF=>by
  obtain⟨e,y⟩:=dF;subst e;have hx:=y xs (hq _ k s);obtain⟨v,hv,q⟩:=(al.mono k _ _).get hd;rw [hx]at hv;cases hv;exact⟨A5.refl _,q⟩
 stop:=fun H' k s=>⟨xs,hq H' k s,by rw [al.length];exact aq _⟩
def DI.lst (he:DE X H0 e we):DI X H0 tg e (fun τ Q=>we τ fun r=>∃ds,r=.st (.lst ds)/\Q ds τ) where
 mono:=fun τ P Q f h=>he.mono τ _ _ (fun r i9=>by obtain⟨ds,e1,q⟩:=i9;exact⟨ds,e1,f _ _ q⟩) h
 pi:=piW (Z4r he.pe) fun σ H R ⟨τ,hR,h⟩=>⟨τ,hR,he.mono τ _ _ (fun r i8 v H1 s1 ir=>by
  obtain⟨ds,e1,q⟩:=i8;subst e1;have ir:A1 X.K H1 (.lst ds) v:=ir;unfold A1 at ir;obtain⟨a,xs,rfl,sq,al⟩:=ir;exact⟨a,rfl,⟨xs,sq.sq⟩,q _ _ (Kp.of s1) (hR.mono s1) (Y7q (fun H' k _=>(k.fzL sq).sq) al)⟩) h⟩
def C4.freeze {K:Fg9}{H:Hp}{τ:A9}{σ:St}{i:Nat}{ds:List D}{a:Addr}{o:Obj}{xs:List V}(hR:C4 K H0 τ σ H)(e1:τ[i]?=some (some (.own ds)))(hv:σ[i]?=some (some (.ref a)))(h0:H0 a=none)(sq:H a=some (.lst xs))(al:AllS K H ds xs) :
  C4 K H0 (τ.set i (some (.dat (.lst ds)))) σ (upd H a (.frz o (.lst xs))):=by
 have kp:Kp H (upd H a (.frz o (.lst xs))):=Kp.upd sq _;have hl:i<τ.length:=by
  rcases aX i τ.length with h | h
  ·exact h
  ·rw [aw.mpr h]at e1;cases e1
 refine⟨by rw [bM];exact hR.len,fun b ob hb=>?_,fun j s e=>?_,fun j k s t v cz e2 e3 m1 m2 q1 q2=>?_⟩
 ·rw [B9 (X5 hb h0)];exact hR.same b ob hb
 ·by_cases hj:j=i
  ·subst hj;rw [X3 hl]at e;cases e;exact⟨_,hv,A1.s_lst (K:=K) (.inl ⟨o,upd_same⟩) (al.mono kp _ _)⟩
  ·rw [aN (fun z=>hj z.symm)]at e;obtain⟨v,q,r⟩:=hR.here j s e;refine⟨v,q,?_⟩;have ap:s.mut=true->v≠.ref a:=fun m z=>by
    subst z;exact hR.apart i j _ s (.ref a) (fun z=>hj z.symm) e1 e rfl m hv q
   cases s with
   | dat d=>exact A1.mono kp _ _ r
   | own es=>obtain⟨b,ys,e,n,q,t⟩:=r;exact⟨b,ys,e,n,by rw [B9 (fun z=>ap rfl (by rw [e,z]))];exact q,t.mono kp _ _⟩
   | bor es=>obtain⟨b,ys,e,q,t⟩:=r;exact⟨b,ys,e,q,t.mono kp _ _⟩
   | bd es=>obtain⟨b,ys,e,q,t⟩:=r;exact⟨b,ys,e,q,t.mono kp _ _⟩
   | dk es=>obtain⟨b,ys,e,n,q,t⟩:=r;exact⟨b,ys,e,n,by rw [B9 (fun z=>ap rfl (by rw [e,z]))];exact q,t.mono kp _ _⟩
   | dt es=>obtain⟨b,ys,e,n,q,t⟩:=r;exact⟨b,ys,e,n,by rw [B9 (fun z=>ap rfl (by rw [e,z]))];exact q,t.mono kp _ _⟩
   | ob _=>exact r
   | cl _ _=>exact⟨r.1,r.2.2 _ _ kp r.2.1,r.2.2⟩
   | ll _ _=>exact⟨r.1,r.2.keep kp fun b φ q=>by rw [B9 (Q0e q sq (by intro z;cases z))];exact q⟩
   | ins _ _ _=>obtain⟨e,n,dx,ys,q,t⟩:=r;exact⟨e,n,dx,ys,by rw [B9 (fun z=>ap rfl (by rw [e,z]))];exact q,t.mono kp _ _⟩
 ·by_cases hj:j=i
  ·subst hj;rw [X3 hl]at e2;cases e2;cases m1
  ·by_cases hk:k=i
   ·subst hk;rw [X3 hl]at e3;cases e3;cases m2
   ·rw [aN (fun z=>hj z.symm)]at e2;rw [aN (fun z=>hk z.symm)]at e3;exact hR.apart j k s t v cz e2 e3 m1 m2 q1 q2
def DI.own {i:Nat}(he:PE X e (S4 i)):DI X H0 tg e (fun τ Q=>∃ds,τ[i]?=some (some (.own ds))/\Q ds (τ.set i (some (.dat (.lst ds))))) where
 mono:=fun τ P Q f dL=>(by obtain⟨ds,e1,q⟩:=dL;exact⟨ds,e1,f _ _ q⟩)
 pi:=by
  intro a9 s σ H R I ⟨τ,hR,ds,e1,q⟩;obtain⟨v,hv,a,xs,rfl,h0,sq,al⟩:=hR.here i _ e1;refine B4 (Z4r (tg:=tg) he a9 s σ H (fun J H'=>J=Itl X.K a/\H'=H) I ⟨_,hv,a,rfl,⟨xs,D7.of sq⟩,rfl,rfl⟩) fun u s1 h1=>B4 h1 fun jA s2 bu=>?_;obtain⟨it,fp,tn,J,H',e,I2,T,st,fo,hJ,hH⟩:=bu;subst hJ hH;obtain⟨o,I3⟩:=A0.freeze I2 sq;have kp:Kp H' (upd H' a (.frz o (.lst xs))):=Kp.upd sq _;refine⟨it,fp,tn,_,_,e,I3,T,st,fun b hb=>?_,q _ _ kp (hR.freeze e1 hv h0 sq al) (Y7q (xs:=xs) (fun H2 k _=>.inl (.inr ⟨o,k.frz _ _ _ upd_same⟩)) (al.mono kp _ _))⟩;obtain⟨f0,fr⟩:=fo b hb;exact⟨by rw [B9 (fun z=>by rw [z,sq]at f0;cases f0)];exact f0,fr⟩
def DI.tup (he:DE X H0 e we):DI X H0 tg e (fun τ Q=>we τ fun r=>∃ds,r=.st (.tup ds)/\Q ds τ) where
 mono:=fun τ P Q f h=>he.mono τ _ _ (fun r fQ=>by obtain⟨ds,e1,q⟩:=fQ;exact⟨ds,e1,f _ _ q⟩) h
 pi:=piW (Y3m he.pe) fun σ H R ⟨τ,hR,h⟩=>⟨τ,hR,he.mono τ _ _ (fun r eD v H1 s1 ir=>by
  obtain⟨ds,e1,q⟩:=eD;subst e1;have ir:A1 X.K H1 (.tup ds) v:=ir;unfold A1 at ir;obtain⟨a,xs,rfl,sq,al⟩:=ir;refine⟨a,rfl,⟨xs,E1.of sq⟩,q _ _ (Kp.of s1) (hR.mono s1) ⟨fun H' k _ i hi=>⟨xs,xs[i]'(by rw [<- al.length];exact hi),E1.of (k.tup _ _ sq),aa _⟩,fun H' k _ i x cT d hd ⟨e,y⟩=>?_,fun H' k _=>⟨xs,E1.of (k.tup _ _ sq),by rw [al.length];exact aq _⟩⟩⟩;subst e;have hx:=y xs (E1.of (k.tup _ _ sq));obtain⟨v,hv,q⟩:=(al.mono k _ _).get hd;rw [hx]at hv;cases hv;exact⟨A5.refl _,q⟩) h⟩
def O9 (lo:Int)(n:Nat):List D:=(List.range n).map fun(i:Nat)=>.int (lo+(i:Int))
def Z1c {K:Fg9}{H0 H:Hp}{lo:Int}{n:Nat}:Yl K H0 (Itr lo n) (O9 lo n) H where
 go:=fun H' _ _ i hi=>by
  have:i<n:=by simpa [O9]using hi
  exact this
 yld:=fun H' _ _ i x cT d hd fy=>by
  obtain⟨e,y⟩:=fy;subst e;refine⟨A5.refl _,?_⟩;unfold O9 at hd;rw [af]at hd;rcases aX i n with hi | hi
  ·rw [bK hi]at hd;have e:D.int (lo+i)=d:=aA hd;subst e y;exact A1.s_int
  ·rw [aw.mpr (by simpa using hi)]at hd;cases hd
 stop:=fun H' _ _=>by
  show n<=(O9 lo n).length;simp [O9]
variable {wr:WA}
def DI.rng1 {p:Pos}(hg:Gl X "range")(hm:X.mg "range"=none)(ha:DA X H0 [a] wr)(hs:starEach [a] X.env=[(false,eval a X.env)]:=by rfl) :
  DI X H0 tg (.Call (.Name "range" p) [a] [] pos) (fun τ Q=>wr τ fun rs=>∃j:Int,rs=[.st (.int j)]/\-(2 ^ 62)<=j/\j<2 ^ 62/\Q (O9 0 j.toNat) τ) where
 mono:=fun τ P Q f h=>ha.mono τ _ _ (fun r fx=>by obtain⟨j,e1,h1,h2,q⟩:=fx;exact⟨j,e1,h1,h2,f _ _ q⟩) h
 pi:=piW (Y3l hg hm ha.pa hs) fun σ H R ⟨τ,hR,h⟩=>⟨τ,hR,ha.mono τ _ _ (fun r fw vs H1 s1 cq=>by
  obtain⟨j,e1,h1,h2,q⟩:=fw;subst e1;obtain⟨v,rfl,ir⟩:=V0 cq;cases (show v=.int j from ir);exact⟨j,rfl,h1,h2,q _ _ (Kp.of s1) (hR.mono s1) Z1c⟩) h⟩
def Y8r {K:Fg9}{H0 H:Hp}{r r':R}{vs:List V}(h:K5 K H0 H [r,r'] vs):∃v u,vs=[v,u]/\E5 K H0 H r v/\E5 K H0 H r' u:=by
 obtain⟨v,t,rfl,q,z⟩:=h;obtain⟨u,rfl,q'⟩:=V0 z;exact⟨v,u,rfl,q,q'⟩
def D1 (g:WG)(wb:WS)(E:F6):List D->A9->Prop
 | [],τ=>E.nx τ
 | d::ds,τ=>g d τ fun τ'=>wb { E with nx:=D1 g wb E ds,ct:=D1 g wb E ds,bk:=E.nx } τ'
theorem Z2z {g:WG}{wb:WS}(hg:∀d τ (P Q:A9->Prop),(∀ τ,P τ->Q τ)->g d τ P->g d τ Q)(hb:∀(τ:A9) (E F:F6),E.Le F->wb E τ->wb F τ){E F:F6}(le:E.Le F):∀(ds:List D) (τ:A9),D1 g wb E ds τ->D1 g wb F ds τ
 | [],τ,h=>le.nx τ h
 | d::ds,τ,h=>hg d τ _ _ (fun τ' h=>hb τ' { E with nx:=D1 g wb E ds,ct:=D1 g wb E ds,bk:=E.nx } { F with nx:=D1 g wb F ds,ct:=D1 g wb F ds,bk:=F.nx } ⟨fun τ h=>Z2z hg hb le ds τ h,le.rt,le.nx,fun τ h=>Z2z hg hb le ds τ h⟩ h) h
def DS.for {body:List Stmt}{wi:WI}{g:WG}{wb:WS}(hp:PassesOwn (model X.prog X.w) X.A X.env X.xe)(hc:X.calm=true)(hi:DI X H0 tg iter wi)(hg:DG X H0 tg g)(hb:A3 X H0 body wb)
  (hs:∀x,foldedSetIterable iter X.env x=pure x:=by intro _;rfl):DS X H0 (.For tg iter body [] pos) (fun E τ=>wi τ fun ds τ'=>D1 g wb E ds τ') where
 mono:=fun τ E F le h=>hi.mono τ _ _ (fun ds τ' h=>Z2z hg.mono hb.mono le ds τ' h) h
 ps:=psW (W7v hp hc hi.pi hg.pg hb.ps hs) fun D σ H ⟨τ,hR,h⟩=>⟨τ,hR,hi.mono τ _ _ (fun ds τ' h J H1 k1 eL yl=>by
  refine⟨fun i m σ H2=>∃ τ,C4 X.K H0 τ σ H2/\Kp H1 H2/\i<=ds.length/\m=ds.length-i/\D1 g wb (O7 X.K H0 H D) (ds.drop i) τ,⟨ds.length,τ',eL,Kp.refl _,bt _,rfl,h⟩,?_⟩;rintro i m σ2 H2 ⟨τ2,dZ,k2,oh,rfl,h2⟩
  by_cases bU:i<ds.length
  ·refine .inr ⟨yl.go H2 k2 dZ.same i bU,fun σ' H'=>∃ τ,C4 X.K H0 τ σ' H'/\Kp H1 H'/\i+1<=ds.length/\D1 g wb (O7 X.K H0 H D) (ds.drop (i+1)) τ,fun σ' H' dF=>(by obtain⟨τ3,a3,b3,c3,d3⟩:=dF;exact⟨ds.length-(i+1),by omega,τ3,a3,b3,c3,rfl,d3⟩),fun x H3 y=>?_⟩;obtain⟨s3,ix⟩:=yl.yld H2 k2 dZ.same i x H3 _ (aa bU) y;rw [cK bU]at h2;have k3:=k2.trans (Kp.of s3);refine⟨τ2,ds[i],dZ.mono s3,ix,hg.mono _ _ _ _ (fun τ4 h4 σ4 H4 s4 n8=>⟨τ4,n8,?_⟩) h2⟩;have k4:=k3.trans (Kp.of s4);have k5:=k1.trans k4;exact hb.mono τ4 { O7 X.K H0 H D with nx:=D1 g wb (O7 X.K H0 H D) (ds.drop (i+1)),ct:=D1 g wb (O7 X.K H0 H D) (ds.drop (i+1)),bk:=(O7 X.K H0 H D).nx } _
    ⟨fun τ5 h5 σ5 H5 kk iN=>⟨τ5,iN,k4.trans kk,bU,h5⟩,fun _ h=>h,fun τ5 h5 σ5 H5 kk iN=>h5 σ5 H5 (k5.trans kk) iN,fun τ5 h5 σ5 H5 kk iN=>⟨τ5,iN,k4.trans kk,bU,h5⟩⟩ h4
  ·have e:i=ds.length:=by omega
   subst e;rw [gq]at h2;exact .inl ⟨yl.stop H2 k2 dZ.same,h2 σ2 H2 (k1.trans k2) dZ⟩) h⟩
end
def T9 (env:Env):List (Str×NameKind)->List (Str×Addr)->List (Str×Addr)
 | [],bT=>bT
 | (n,k)::r,bT=>T9 env r (if (k==NameKind.free)=true then(n,(env.cells.lookup n).getD 0)::bT else bT)
def Z2m {scope:Scope}{env:Env}(h:∀y∈scope.names,y.2=.free->∃c,env.cells.lookup y.1=some c):closureFor scope env=pure (T9 env scope.names []):=by
 have key:∀(l:List (Str×NameKind)) (bT:List (Str×Addr)),(∀y∈l,y.2=.free->∃c,env.cells.lookup y.1=some c) ->
   (forIn l bT fun x r=>(if (x.2==NameKind.free)=true then cellOf env x.1>>=fun c=>pure (ForInStep.yield ((x.1,c)::r))else pure (ForInStep.yield r):Sem (ForInStep (List (Str×Addr)))))=pure (T9 env l bT):=by
  intro l
  induction l with
  | nil=>intro bT _;rfl
  | cons x r ih =>
   intro bT hl;obtain⟨n,k⟩:=x;have hr:∀y∈r,y.2=.free->∃c,env.cells.lookup y.1=some c:=fun y hy=>hl y (ae _ hy);rw [List.forIn_cons]
   by_cases hk:(k==NameKind.free)=true
   ·obtain⟨c,hc⟩:=hl (n,k) ag (eq_of_beq hk);have hc:env.cells.lookup n=some c:=hc;have e:cellOf env n=pure c:=by unfold cellOf;rw [hc]
    show((if (k==NameKind.free)=true then cellOf env n>>=fun c=>pure (ForInStep.yield ((n,c)::bT))else pure (ForInStep.yield bT))>>=_)=_;rw [aG hk,e];show _=pure (T9 env r (if (k==NameKind.free)=true then(n,(env.cells.lookup n).getD 0)::bT else bT));rw [aG hk,hc];exact ih _ hr
   ·show((if (k==NameKind.free)=true then cellOf env n>>=fun c=>pure (ForInStep.yield ((n,c)::bT))else pure (ForInStep.yield bT))>>=_)=_;rw [az hk];show _=pure (T9 env r (if (k==NameKind.free)=true then(n,(env.cells.lookup n).getD 0)::bT else bT));rw [az hk];exact ih _ hr
 simp only [closureFor];rw [key scope.names [] h]
 rfl
theorem Z9y {env:Env}:∀(l:List (Str×NameKind)) (bT:List (Str×Addr)) (p:Str×Addr),p∈T9 env l bT->p∈bT\/((p.1,NameKind.free)∈l/\p.2=(env.cells.lookup p.1).getD 0)
 | [],bT,p,h=>.inl h
 | (n,k)::r,bT,p,h=>by
  rcases Z9y r _ p h with q | ⟨q1,q2⟩
  ·by_cases hk:(k==NameKind.free)=true
   ·rw [aG hk]at q;rcases ar.mp q with q | q
    ·refine .inr ⟨?_,by rw [q]⟩;have:k=NameKind.free:=eq_of_beq hk;rw [q,this];exact ag
    ·exact .inl q
   ·rw [az hk]at q;exact .inl q
  ·exact .inr ⟨ae _ q1,q2⟩
theorem Z9x {env:Env}:∀(l:List (Str×NameKind)) (bT:List (Str×Addr)) (n:Str),((n,NameKind.free)∈l\/∃c,(n,c)∈bT)->∃c,(n,c)∈T9 env l bT
 | [],bT,n,h=>by
  rcases h with h | h
  ·cases h
  ·exact h
 | (m,k)::r,bT,n,h=>by
  refine Z9x r _ n ?_;rcases h with h | ⟨c,h⟩
  ·rcases ar.mp h with e | h
   ·cases e;refine .inr ⟨(env.cells.lookup m).getD 0,?_⟩;rw [aG (by rfl)];exact ag
   ·exact .inl h
  ·refine .inr ⟨c,?_⟩;split
   ·exact ae _ h
   ·exact h
theorem Q9k {α:Type}:∀{l:List (Str×α)}{x:Str}{c:α},l.lookup x=some c->(x,c)∈l
 | [],_,_,h=>by simp at h
 | (n,d)::r,x,c,h=>by
  rw [List.lookup_cons]at h;cases e:x==n with
  | true=>rw [e]at h;cases h;rw [eq_of_beq e];exact ag
  | false=>rw [e]at h;exact ae _ (Q9k h)
theorem Y2q {α:Type}:∀{l:List (Str×α)}{x:Str}{c:α},(x,c)∈l->∃d,l.lookup x=some d
 | [],_,_,h=>by cases h
 | (n,d)::r,x,c,h=>by
  rw [List.lookup_cons];cases e:x==n with
  | true=>exact⟨d,rfl⟩
  | false =>
   rcases ar.mp h with q | q
   ·cases q;simp at e
   ·exact Y2q q
def D5 (X:Cx)(scope:Scope)(C:Addr)(s:Shared)(H:Hp)(fp:List Addr)(N:List Str):Cx :=
 { X with N:=N,s₀:=s,H₀:=H,env:=compEnvC scope (T9 X.env scope.names []) C X.env,outer:=X.stack,ex:=fp,fn:=fun _=>false,pn:=[],xe:=fun _ _=>False }
structure Blk (X:Cx)(scope:Scope)(N:List Str)(nt:Nat)(cap:List Nat):Prop where
 kind:scope.kind=.function
 cell:∀y∈scope.names,y.2≠.cell
 names:∀y∈scope.names,y.2=.local->scope.names.lookup y.1=some .local
 only:∀y∈scope.names,y.2=.free->scope.names.lookup y.1=some .free
 free:∀y∈scope.names,y.2=.free->X.env.kindOf y.1=some .cell\/X.env.kindOf y.1=some .free
 len:N.length=nt+cap.length
 caps:∀(j i:Nat) (x:Str),cap[j]?=some i->N[nt+j]?=some x->X.N[i]?=some x/\(x,NameKind.free)∈scope.names
section
variable {X:Cx}{scope:Scope}{N:List Str}{nt:Nat}{cap:List Nat}{a9:Pn9}{σ:St}{H:Hp}{s:Shared}
def Y6 (I:A0 X a9 σ H s)(B:Blk X scope N nt cap){x:Str}{c:Addr}(h:(T9 X.env scope.names []).lookup x=some c):X.env.cells.lookup x=some c:=by
 rcases Z9y _ _ _ (Q9k h)with q | ⟨q1,q2⟩
 ·cases q
 ·obtain⟨d,hd⟩:=I.ok.has x (B.free _ q1 rfl);have q2:c=(X.env.cells.lookup x).getD 0:=q2;rw [hd]at q2 ⊢;rw [q2];rfl
def Z2l (I:A0 X a9 σ H s)(B:Blk X scope N nt cap){x:Str}(h:(x,NameKind.free)∈scope.names):∃c,(T9 X.env scope.names []).lookup x=some c:=by
 obtain⟨c,hc⟩:=Z9x (env:=X.env) scope.names [] x (.inl h);exact Y2q hc
def Y3z {env:Env}{x:Str}{k:NameKind}(h:(relabel scope env).names.lookup x=some k)(hk:k=.cell\/k=.free)(nc:∀y∈scope.names,y.2≠.cell):(x,NameKind.free)∈scope.names:=by
 have m:=Q9k h;unfold relabel at m;obtain⟨⟨n,k'⟩,hm,e⟩:=ah.mp m;dsimp only at e;split at e
 ·rename_i hc;cases e;simp only [cj]at hc;have:k'=NameKind.free:=eq_of_beq hc.1.1;rw [<- this];exact hm
 ·cases e;rcases hk with rfl | rfl
  ·exact absurd rfl (nc _ hm)
  ·exact hm
def Y8x (I:A0 X a9 σ H s)(B:Blk X scope N nt cap){C:Addr}{fp:List Addr}(hC:s.heap.objs.size<=C)(hf:∀b∈fp,P4 X a9 H b)(fZ:∀b∈fp,b<s.heap.objs.size):(D5 X scope C s H fp N).Ok where
 mod:=I.ok.mod
 kind:=B.kind
 glob:=I.ok.glob
 blt:=I.ok.blt
 above:=hC
 inj:=fun x y c h1 h2=>I.ok.inj x y c (Y6 I B h1) (Y6 I B h2)
 has:=fun x h=>by
  rcases h with h | h
  ·exact Z2l I B (Y3z h (.inl rfl) B.cell)
  ·exact Z2l I B (Y3z h (.inr rfl) B.cell)
 cab:=fun x c h=>by cases h
 hd:=I.ok.hd
 frames:=I.ok.frames
 stk:=.inl rfl
 exf:=fun b hb=>⟨ay (au (fZ b hb) hC),fun x c h=>(hf b hb).2.2.2.2.1 x c (Y6 I B h)⟩
 bs:=I.bs
 bsz:=aS I.ok.bsz I.sz
 noex:=fun b o e hb=>by
  rcases (hf b hb).2.2.2.1 with z | z
  ·exact I.ok.noex b o e z
  ·exact absurd (au (ax e) (aS I.ok.bsz z)) (aV _)
 exfs:=fun b hb z=>by
  rcases ar.mp (I.stkSub b z)with e | e
  ·exact(hf b hb).2.1 e
  ·exact(hf b hb).2.2.1 e
 funs:=I.stack
 frf:=I.stkFree
def Z2b (I:A0 X a9 σ H s)(B:Blk X scope N nt cap){C:Addr}{fp:List Addr}(hf:∀b∈fp,P4 X a9 H b)(fZ:∀b∈fp,b<s.heap.objs.size){h':Heap}{t':Nat}{m:Str->Option Value}
  (hC:s.heap.objs.size<=C) (iJ:h'.Ns C m) (k:∀b o,s.heap.get? b=some o->h'.get? b=some o) :
  A0 (D5 X scope C s H fp N) [] (List.replicate nt none++cap.map fun i=>(σ[i]?).join) H { s with heap:=h',toks:=t' }:=by
 refine⟨Y8x I B hC hf fZ,rfl,I.bare,Un.kept k,⟨m,iJ,fun i x v h1 h2 h3=>?_⟩,fun x c h=>?_,I.hok.fresh hC,fun x c h=>I.freeC x c (Y6 I B h),(fun p hp=>by cases hp),I.hok.kept k,?_⟩
 ·have h1:N[i]?=some x:=h1
  by_cases hi:i<nt
  ·rw [aJ (by rw [aY];exact hi)]at h2;have:=aB h2;rw [List.mem_replicate]at this;cases this.2
  ·rw [aQ (by rw [aY];omega),aY,af]at h2;cases e:cap[i-nt]? with
   | none=>rw [e]at h2;cases h2
   | some j =>
    rw [e]at h2;have h2:(σ[j]?).join=some v:=aA h2;have hσ:σ[j]?=some (some v):=by
     cases q:σ[j]? with
     | none=>rw [q]at h2;cases h2
     | some o=>rw [q]at h2;exact congrArg some h2
    obtain⟨hN,hx⟩:=B.caps (i-nt) j x e (by rw [show nt+(i-nt)=i by omega];exact h1);obtain⟨m0,rT,hl⟩:=I.loc;have kd:=B.free _ hx rfl;obtain⟨u,r,l⟩:=hl j x v hN hσ (.inr kd);refine⟨u,r,?_⟩;obtain⟨c,hc⟩:=Z2l I B hx;have db:∃c',X.env.cells.lookup x=some c'/\s.heap.IsCell c' (some u):=by
     rcases l with⟨l1,_⟩ | ⟨_,l2⟩
     ·rcases kd with kd | kd
      ·rw [kd]at l1;cases l1
      ·rw [kd]at l1;cases l1
     ·exact l2
    obtain⟨c',dy,o,ho,hd⟩:=db;rw [Y6 I B hc]at dy;cases dy;have h3:Vis (relabel scope X.env) x:=h3;refine .inr ⟨?_,c,hc,o,k _ _ ho,hd⟩;rcases h3 with h3 | h3 | h3
    ·exfalso;have m1:=Q9k h3;unfold relabel at m1;obtain⟨⟨n,k'⟩,hm,e'⟩:=ah.mp m1;dsimp only at e';split at e'
     ·cases e'
     ·cases e';have a1:=B.names _ hm rfl;have a1:scope.names.lookup x=some .local:=a1;rw [B.only _ hx rfl]at a1;cases a1
    ·exact .inl h3
    ·exact .inr h3
 ·obtain⟨v,o,ho,hd⟩:=I.cell x c (Y6 I B h);exact⟨v,o,k _ _ ho,hd⟩
 ·rw [ai,aY,ac];exact B.len.symm
end
section
variable {prog:Program}{w:World}{A:Around}{RR:Result->Shared->Prop}{s:Shared}
theorem Y0f {dU target iter:Expr}{eJ:List Expr}{scope:Scope}{pos:Pos}{it bT:Value}{env:Env}(I:Nat->Shared->Prop)
  (turn:∀n s,I n s->wpAny (model prog w) A (pyNext it) (fun r s₁=>match r with
   | none=>RR (.ok .next) s₁
   | some v=>wpAny (model prog w) A (letOwnedTupleGo target it v) (fun _ sa=>wpAny (model prog w) A (assign target env v) (fun _ s₂ =>
     wpAny (model prog w) A (forIn eJ true fun c r=>if r=true then do let ok <- isTrue c env (eval c env);pure (ForInStep.yield ok)else pure (ForInStep.yield r)) (fun ok s₃ =>
      if ok=true then wpAny (model prog w) A (eval dU env) (fun x s₄ =>
       wpAny (model prog w) A (call (.builtin "list.append") [bT,x]) (fun _ s₅=>∃m,m<n/\I m s₅) (fun _ _=>False) s₄) (fun _ _=>False) s₃
      else ∃m,m<n/\I m s₃) (fun _ _=>False) s₂) (fun _ _=>False) sa) (fun _ _=>False) s₁) (fun _ _=>False) s)
  (n:Nat) (h:I n s):codeAny (model prog w) A (.compLoop (.ListComp dU [⟨target,iter,eJ,0⟩] scope pos) 0 it bT env) RR s:=by
 refine codeAny_loop rfl I (fun n s hI=>?_) n h;show wpAny _ _ ((compTurn (.ListComp dU [⟨target,iter,eJ,0⟩] scope pos) 0 it bT env).onRaise (fun x=>do noteFrame x env;theTreesLotGoes x)) _ _ s;refine wpAny_noted ?_;rw [compTurn_list];refine a8 (g7 (a8 (aL (turn n s hI) (fun r s₁ h₁=>?_) fun _ _ h'=>h'.elim)));cases r with
 | none=>exact ao h₁
 | some v =>
  refine a8 (aL h₁ (fun _ sa ha=>?_) fun _ _ h'=>h'.elim);refine a8 (aL ha (fun _ s₂ h₂=>a8 (aL h₂ (fun ok s₃ h₃=>?_) fun _ _ h'=>h'.elim)) fun _ _ h'=>h'.elim);cases ok with
  | false=>exact ao ⟨rfl,h₃⟩
  | true =>
   exact a8 (a8 (aL h₃ (fun x s₄ h₄=>a8 (aL h₄ (fun _ s₅ h₅=>ao (ao ⟨rfl,h₅⟩)) fun _ _ h'=>h'.elim)) fun _ _ h'=>h'.elim))
end
structure YlS (K:Fg9)(J:It)(ds:List D)(H:Hp):Prop where
 go:∀H',A5 H H'->∀i,i<ds.length->J.go i H'
 yld:∀H',A5 H H'->∀i x cT d,ds[i]?=some d->J.yld i H' x cT->A5 H' cT/\A1 K cT d x
 stop:∀H',A5 H H'->J.stop ds.length H'
abbrev WIE:=A9->(List D->Prop)->Prop
def W3w (K:Fg9)(H0:Hp)(wi:WIE):TI:=fun σ H R=>∃ τ,C4 K H0 τ σ H/\wi τ fun ds=>∀J H',A5 H H'->YlS K J ds H'->R J H'
structure F9 (X:Cx)(H0:Hp)(tg iter:Expr)(wi:WIE):Prop where
 mono:∀ τ (P Q:List D->Prop),(∀ds,P ds->Q ds)->wi τ P->wi τ Q
 pi:PI X tg iter (W3w X.K H0 wi)
def IfsR (X:Cx)(eJ:List Expr)(t:TT):Prop :=
 ∀(a9:Pn9) (s:Shared) (σ:St) (H:Hp) (Q:Bool->Hp->Prop),A0 X a9 σ H s->t σ H Q ->
  wpAny (model X.prog X.w) X.A (forIn eJ true fun c r=>if r=true then do let ok <- isTrue c X.env (eval c X.env);pure (ForInStep.yield ok)else pure (ForInStep.yield r)) (TP X a9 σ Q) X.xe s
structure O2 (X:Cx)(H0:Hp)(eJ:List Expr)(t:WT):Prop where
 mono:∀(τ:A9) (P Q:Bool->Prop),(∀r,P r->Q r)->t τ P->t τ Q
 pt:IfsR X eJ (Z3s X.K H0 t)
def O2.nil {X:Cx}{H0:Hp}:O2 X H0 [] (fun _ Q=>Q true) where
 mono:=fun τ P Q f h=>f _ h
 pt:=fun a9 s σ H Q I bR=>(by obtain⟨τ,hR,h⟩:=bR;exact wpAny_tests_nil ⟨H,I,h H (A5.refl H)⟩)
def O2.one {X:Cx}{H0:Hp}{c:Expr}{t:WT}(hc:DT X H0 c t):O2 X H0 [c] t where
 mono:=hc.mono
 pt:=fun a9 s σ H Q I h=>wpAny_tests_one (hc.pt a9 s σ H Q I h)
def O4 (g:WG)(t:WT)(we:WE):List D->A9->(List D->Prop)->Prop
 | [],_,Q=>Q []
 | d::ds,τ,Q=>g d τ fun τ'=>t τ' fun k=>if k=true then we τ' fun r=>∃e,r=.st e/\O4 g t we ds τ' fun es=>Q (e::es)else O4 g t we ds τ' Q
theorem Z2o {g:WG}{t:WT}{we:WE}(hg:∀d τ (P Q:A9->Prop),(∀ τ,P τ->Q τ)->g d τ P->g d τ Q)(ht:∀(τ:A9) (P Q:Bool->Prop),(∀r,P r->Q r)->t τ P->t τ Q)(he:∀(τ:A9) (P Q:R->Prop),(∀r,P r->Q r)->we τ P->we τ Q) :
  ∀(ds:List D) (τ:A9) (P Q:List D->Prop),(∀es,P es->Q es)->O4 g t we ds τ P->O4 g t we ds τ Q
 | [],_,_,_,f,h=>f _ h
 | d::ds,τ,P,Q,f,h=>hg d τ _ _ (fun τ' h=>ht τ' _ _ (fun k h=>X4 (fun h=>he τ' _ _ (fun r cp=>(by obtain⟨e,e1,h⟩:=cp;exact⟨e,e1,Z2o hg ht he ds τ' _ _ (fun es h=>f _ h) h⟩)) h) (fun h=>Z2o hg ht he ds τ' _ _ f h) h) h) h
def Z2d:Sl->Option Sl
 | .dat d=>some (.dat d)
 | .own ds=>some (.bor ds)
 | .bor ds=>some (.bor ds)
 | .dt k=>some (.bd k)
 | .bd k=>some (.bd k)
 | .cl a Φ=>some (.cl a Φ)
 | _=>none
def Q4 (nt:Nat)(cap:List Nat)(τ:A9):A9:=List.replicate nt none++cap.map fun i=>((τ[i]?).join).bind Z2d
def Z4x {K:Fg9}{H0 H:Hp}{τ:A9}{σ:St}(hR:C4 K H0 τ σ H)(nt:Nat)(cap:List Nat):C4 K H (Q4 nt cap τ) (List.replicate nt none++cap.map fun i=>(σ[i]?).join) H:=by
 have at_:∀(i:Nat) (s:Sl),(Q4 nt cap τ)[i]?=some (some s)->nt<=i/\∃j t,cap[i-nt]?=some j/\τ[j]?=some (some t)/\Z2d t=some s:=fun i s e=>by
  unfold Q4 at e
  by_cases hi:i<nt
  ·rw [aJ (by rw [aY];exact hi)]at e;have:=aB e;rw [List.mem_replicate]at this;cases this.2
  ·rw [aQ (by rw [aY];omega),aY,af]at e;cases q:cap[i-nt]? with
   | none=>rw [q]at e;cases e
   | some j =>
    rw [q]at e;have e:((τ[j]?).join).bind Z2d=some s:=aA e;cases q2:τ[j]? with
    | none=>rw [q2]at e;cases e
    | some o =>
     rw [q2]at e;cases o with
     | none=>cases e
     | some t=>exact⟨by omega,j,t,rfl,q2,e⟩
 refine⟨?_,A5.refl H,fun i s e=>?_,fun i j s t v _ e1 _ m _ _ _=>?_⟩
 ·unfold Q4;rw [ai,ai,ac,ac,aY,aY]
 ·obtain⟨hi,j,t,hc,ht,hb⟩:=at_ i s e;obtain⟨v,hv,q⟩:=hR.here j t ht;refine⟨v,?_,?_⟩
  ·rw [aQ (by rw [aY];omega),aY,af,hc];show some ((σ[j]?).join)=_;rw [hv];rfl
  ·cases t with
   | dat d=>cases hb;exact q
   | own ds=>cases hb;obtain⟨a,xs,e,_,q,al⟩:=q;exact⟨a,xs,e,q,al⟩
   | bor ds=>cases hb;obtain⟨a,xs,e,q,al⟩:=q;exact⟨a,xs,e,hR.same _ _ q,al⟩
   | bd ds=>cases hb;obtain⟨a,xs,e,q,al⟩:=q;exact⟨a,xs,e,hR.same _ _ q,al⟩
   | dk _=>cases hb
   | dt ds=>cases hb;obtain⟨a,xs,e,_,q,al⟩:=q;exact⟨a,xs,e,q,al⟩
   | ob _=>cases hb
   | cl _ _=>cases hb;exact q
   | ll _ _=>cases hb
   | ins _ _ _=>cases hb
 ·obtain⟨hi,j',t',hc,ht,hb⟩:=at_ i s e1;cases t' with
  | dat d=>cases hb;cases m
  | own ds=>cases hb;cases m
  | bor ds=>cases hb;cases m
  | dk _=>cases hb
  | dt _=>cases hb;cases m
  | bd _=>cases hb;cases m
  | ob _=>cases hb
  | cl _ _=>cases hb;cases m
  | ll _ _=>cases hb
  | ins _ _ _=>cases hb
def Y1l {C:Addr}{h h':Heap}(sb:Heap.SameBut C h h'):∀b o,b≠C->h.get? b=some o->h'.get? b=some o:=fun b o hb e=>(sb.2 b hb).trans e
def Z9l {X:Cx}{a9:Pn9}{σ:St}{H2 H':Hp}{s2 s1:Shared}{scope:Scope}{C D0:Addr}{fp:List Addr}{N:List Str}{pb:Pn9}{σ':St}{vs:List V}{ys:Array Value}{h':Heap}
  (I2:A0 X a9 σ H2 s2) (Ib:A0 (D5 X scope C s2 H2 fp N) pb σ' H' s1) (f2:∀b∈fp,P4 X a9 H2 b) (hC:s2.heap.objs.size<=C) (hD:s2.heap.objs.size<=D0) (dg:D0≠C) (nj:H' D0=none)
  (hl:s1.heap.PlainList D0 ys) (rv:C0 vs ys.toList) (hz:vs.length<=sizeLine) (sb:Heap.SameBut C s1.heap h'):A0 X a9 σ (upd H' D0 (.lst vs)) { s1 with heap:=h' }:=by
 have iZ:∀b o,s2.heap.get? b=some o->b≠C:=fun b o e=>ay (au (ax e) hC);have lT:∀b o,s2.heap.get? b=some o->b≠D0:=fun b o e=>ay (au (ax e) hD);have keep:=Y1l sb;have base:Un (E6 X.stack) fp H2 H' s2.heap s1.heap:=Ib.base;have nk:H' C=none:=Ib.free;have gM:∀b u,H' b=some u->b≠C:=fun b u e z=>by rw [z,nk]at e;cases e
 have R0:∀b u,H' b=some u->b≠D0:=fun b u e z=>by rw [z,nj]at e;cases e
 refine I2.call' (s':={ s1 with heap:=h' }) (ch:=fp) Ib.os ⟨fun b o e n hb hx=>keep b o (iZ b o e) (base.keep b o e n hb hx),fun b o e n hb hx=>?_,fun b o e n hx=>?_,fun b o e hx=>?_,fun b xs e=>?_,fun b o u e=>?_,fun b ps e=>?_⟩ (fun b u e=>?_) Ib.bare (fun b hb=>?_)
 ·obtain⟨sl,q⟩:=base.slot b o e n hb hx;exact⟨sl,keep b _ (iZ b o e) q⟩
 ·rw [B9 (lT b o e)];exact base.free b o e n hx
 ·obtain⟨o',q⟩:=base.there b o e hx;exact⟨o',keep b o' (iZ b o e) q⟩
 ·have q:=base.tups b xs e;rw [B9 (R0 b _ q)];exact q
 ·have q:=base.frzs b o u e;rw [B9 (R0 b _ q)];exact q
 ·obtain⟨more,q⟩:=base.tbls b ps e;exact⟨more,by rw [B9 (R0 b _ q)];exact q⟩
 ·by_cases hb:b=D0
  ·subst hb;rw [upd_same]at e;cases e;obtain⟨n,ho⟩:=hl;exact⟨hz,ys.toList,n,rv,keep b _ dg (by rw [ho])⟩
  ·rw [B9 hb]at e;refine(Ib.hok b u e).stay (fun c v hc q=>keep c v ?_ q) (fun c u _ q=>by rw [B9 (R0 c _ q)];exact q) fun c xs q=>by rw [B9 (R0 c _ q)];exact q
   rcases hc with z | z
   ·rw [z];exact gM b u e
   ·exact gM c _ z
 ·obtain⟨_,a2,a3,a4,a5,a6⟩:=f2 b hb;exact⟨a4,a2,a5,a6⟩
section
variable {X:Cx}{H0:Hp}{tg iter dU:Expr}{eJ:List Expr}{scope:Scope}{pos:Pos}{N:List Str}{nt:Nat}{cap:List Nat}{wi:WIE}{g:WG}{t:WT}{we:WE}
def P8 (nt:Nat)(cap:List Nat)(wi:WIE)(g:WG)(t:WT)(we:WE):WE:=fun τ Q=>wi τ fun ds=>ds.length<=sizeLine/\O4 g t we ds (Q4 nt cap τ) fun es=>Q (.nw es)
def Y0g {use:Option (Value->Sem Unit)}{QQ:VS9}{P:List D->Prop}{gz:Pos}{a9:Pn9}{s:Shared}{σ:St}{H:Hp}{τ:A9}(hc:X.calm=true)(B:Blk X scope N nt cap)(hi:F9 X H0 tg iter wi)
  (hg:∀C s H fp,DG (D5 X scope C s H fp N) H tg g) (ht:∀C s H fp,O2 (D5 X scope C s H fp N) H eJ t) (he:∀C s H fp,DE (D5 X scope C s H fp N) H dU we) (hs:∀x,foldedSetIterable iter X.env x=pure x)
  (I:A0 X a9 σ H s) (hR:C4 X.K H0 τ σ H) (hw:wi τ fun ds=>ds.length<=sizeLine/\O4 g t we ds (Q4 nt cap τ) P)
  (fin:∀(C D0:Addr) (s2 s4:Shared) (H2 H4:Hp) (fp:List Addr) (pb:Pn9) (σ4:St) (vs:List V) (ys:Array Value) (es:List D) (f:Flow),A0 X a9 σ H2 s2->A5 H H2->A0 (D5 X scope C s2 H2 fp N) pb σ4 H4 s4->(∀b∈fp,P4 X a9 H2 b) ->
   s2.heap.objs.size<=C->s2.heap.objs.size<=D0->D0≠C->H4 D0=none->s4.heap.PlainList D0 ys->C0 vs ys.toList->vs.length<=sizeLine->A5 H2 H4->AllS X.K H4 es vs->P es->compPost (model X.prog X.w) X.A X.xe use QQ (.ref D0) C (.ok f) s4) :
  wpAny (model X.prog X.w) X.A (comprehension (.ListComp dU [⟨tg,iter,eJ,0⟩] scope pos) scope X.env gz (newList []) false (eval iter X.env) use) QQ X.xe s:=by
 refine wpAny_comprehension_free rfl hs (Z2m fun y hy e=>I.ok.has y.1 (B.free y hy e)) B.kind B.names ?_;refine B4 (hi.pi a9 s σ H (fun J H2=>A5 H H2/\∃ds,YlS X.K J ds H2/\ds.length<=sizeLine/\O4 g t we ds (Q4 nt cap τ) P) I
  ⟨τ,hR,hi.mono τ _ _ (fun ds h J H' sm yl=>⟨sm,ds,yl,h.1,h.2⟩) hw⟩) fun v s1 h1=>B4 h1 fun jA s2 h2=>?_
 obtain⟨it,fp,tn,J,H2,e,I2,T,eG,f2,cM,ds,yl,hz,iG⟩:=h2;subst e;have fZ:∀b∈fp,b<s2.heap.objs.size:=fun b hb=>by
  obtain⟨o,ho,_⟩:=T.obj _ _ eG b hb;exact ax ho
 have dZ:=hR.mono cM;refine bx (wpAny_newFunctionEnv B.cell (by intro y hy;simp at hy) (fun h₁ dn cP=>?_) B.kind);dsimp only at dn cP ⊢;generalize hH2:s2.heap.push { cls:=.type "list",dict:=none,data:=.seq ([]:List Value).toArray }=Hq at dn cP ⊢;have hC:Hq.objs.size=s2.heap.objs.size+1:=by rw [<- hH2,di]
 have dg:s2.heap.objs.size≠Hq.objs.size:=by rw [hC];exact ay (cf _)
 have cS:s2.heap.objs.size<=Hq.objs.size:=by rw [hC];exact dI _
 have old:∀b o,s2.heap.get? b=some o->h₁.get? b=some o:=fun b o e=>cP.extBut b o (by rw [hC];exact ay (bA (ax e))) (aj _ (hH2 ▸ aj _ e));have dv:h₁.PlainList s2.heap.objs.size #[]:=⟨_,cP.extBut _ _ dg (aj _ (hH2 ▸ aI _ rfl))⟩
 generalize hCe:Hq.objs.size=C at dn cP hC dg cS ⊢;generalize hDe:s2.heap.objs.size=D0 at hC dg cS dv ⊢;have dM:∀b∈fp,b<D0:=fun b hb=>hDe ▸ fZ b hb;have eX:tn 0 h₁:=T.keep _ _ _ eG fun b _ o e=>old b o e;have kQ:=Z2b (C:=C) (h':=h₁) (t':=s2.toks+([]:List (Str×Value)).length) I2 B f2 fZ (by rw [hDe];exact cS) dn old;have iO:H2 D0=none:=I2.hok.fresh (by rw [hDe];exact aq _);have ka:D0∉E6 X.stack:=fun z=>by
  rcases ar.mp (I2.stkSub _ z)with e | e
  ·have:=I2.lt;rw [<- e,hDe]at this;exact aV _ this
  ·exact I2.nofs (by rw [hDe];exact aq _) e
 have kb:∀x c,(T9 X.env scope.names []).lookup x=some c->c≠D0:=fun x c h z=>by
  obtain⟨v,q⟩:=I2.cell x c (Y6 I2 B h);have:=q.lt;rw [z,hDe]at this;exact aV _ this
 have eV:∀{pb:Pn9} {σ':St}{H':Hp}{s':Shared}{ys:Array Value}{n:Nat},A0 (D5 X scope C s2 H2 fp N) pb σ' H' s'->H' D0=none->s'.heap.get? D0=some { cls:=.type "list",data:=.seq ys n } ->
   A0 (D5 X scope C s2 H2 fp N) [(D0,{ cls:=.type "list",data:=.seq ys n })] σ' H' s':=by
  intro pb σ' H' s' ys n I' n' e;refine I'.pins_of fun p hp=>?_;have e':p=(D0,{ cls:=.type "list",data:=.seq ys n }):=by simpa using hp
  subst e';exact⟨e,n',dg,ka,fun v z=>by cases z⟩
 have gK:∀{H':Hp}{ob:Obj},(∀b∈fp,H' b=none)->∀b∈fp,P4 (D5 X scope C s2 H2 fp N) [(D0,ob)] H' b:=by
  intro H' ob hn b hb;refine⟨hn b hb,(ay (au (dM b hb) cS)),fun z=>?_,.inl hb,fun x c h=>(f2 b hb).2.2.2.2.1 x c (Y6 I2 B h),fun p hp=>?_⟩
  ·rcases ar.mp (I2.stkSub b z)with e | e
   ·exact(f2 b hb).2.1 e
   ·exact(f2 b hb).2.2.1 e
  ·have e':p=(D0,ob):=by simpa [D5]using hp
   subst e';exact(ay (dM b hb)).symm
 let jN:Nat->Shared->Prop:=fun k s'=>∃(i:Nat) (σ':St) (H':Hp) (τ':A9) (ys:Array Value) (nn:Nat) (vs:List V) (es:List D),A0 (D5 X scope C s2 H2 fp N) [(D0,{ cls:=.type "list",data:=.seq ys nn })] σ' H' s'/\C4 X.K H2 τ' σ' H'/\tn i s'.heap /\
  (∀b∈fp,H' b=none)/\H' D0=none/\C0 vs ys.toList/\AllS X.K H' es vs/\i<=ds.length/\k=ds.length-i/\es.length<=i/\O4 g t we (ds.drop i) τ' fun fi=>P (es++fi)
 have loop:∀s₃:Shared,s₃={ s2 with heap:=h₁,toks:=s2.toks+([]:List (Str×Value)).length } ->
   codeAny (model X.prog X.w) X.A (.compLoop (.ListComp dU [⟨tg,iter,eJ,0⟩] scope pos) 0 (.ref it) (.ref D0) (compEnvC scope (T9 X.env scope.names []) C X.env))
    (compPost (model X.prog X.w) X.A X.xe use QQ (.ref D0) C) s₃:=by
  rintro s₃ rfl;obtain⟨nn,ho⟩:=id dv;refine Y0f jN ?_ ds.length ⟨0,_,H2,Q4 nt cap τ,#[],nn,[],[],eV kQ iO ho,Z4x dZ nt cap,eX,fun b hb=>(f2 b hb).1,iO,.nil,AllS.nil,bt _,rfl,aq _,by simpa using iG⟩;rintro k s3 ⟨i,σ3,H3,τ3,ys,nn,vs,es,I3,R3,gt,gJ,d3,l5,kP,og,rfl,lh,w3⟩;have bW:A5 H2 H3:=R3.same
  by_cases bU:i<ds.length
  ·refine aL (T.item (D5 X scope C s2 H2 fp N) rfl rfl rfl hc i _ s3 σ3 H3 (fun _ _=>False) I3 (gK gJ) gt (yl.go H3 bW i bU)) (fun r s4 bu=>?_) fun _ _ z=>z;obtain⟨u,hr,h4⟩:=bu;subst hr;refine aL h4 (fun _ s5 bu=>?_) fun _ _ z=>z;obtain⟨x,H5,I5,r5,y5,fq,ju⟩:=bu;obtain⟨iy,ix⟩:=yl.yld H3 bW i x H5 _ (aa bU) y5;rw [cK bU]at w3;have jw:=I5.pinned (gK ju) (T.obj _ _ fq);have again:∀{σ7:St}{H7:Hp}{s7:Shared} {τ7:A9}{kS:Array Value}{lP:Nat}{vs7:List V}{es7:List D},A0 (D5 X scope C s2 H2 fp N) (W5 fp s5.heap) σ7 H7 s7->C4 X.K H2 τ7 σ7 H7->H7 D0=none->s7.heap.get? D0=some { cls:=.type "list",data:=.seq kS lP } ->
     C0 vs7 kS.toList->AllS X.K H7 es7 vs7->es7.length<=i+1->O4 g t we (ds.drop (i+1)) τ7 (fun fi=>P (es7++fi))->∃m,m<ds.length-i/\jN m s7:=by
    intro σ7 H7 s7 τ7 kS lP vs7 es7 I7 R7 d7 o7 lI rC mJ w7;have pr:tn (i+1) s7.heap:=T.keep _ _ _ fq fun b hb o e=>(I7.pin (b,o) (aC _ (Q2z hb e))).1;refine⟨ds.length-(i+1),by omega,i+1,σ7,H7,τ7,kS,lP,vs7,es7,eV I7 d7 o7,R7,pr,fun b hb=>?_,d7,lI,rC,bU,rfl,mJ,w7⟩;obtain⟨o,e,_⟩:=T.obj _ _ fq b hb;exact(I7.pin (b,o) (aC _ (Q2z hb e))).2.1
   refine aL ((hg C s2 H2 fp).pg _ s5 σ3 H5 x u (fun σ6 H6=>∃ τ6,C4 X.K H2 τ6 σ6 H6/\A5 H5 H6/\t τ6 fun k=>if k=true then we τ6 fun r=>∃e,r=.st e/\O4 g t we (ds.drop (i+1)) τ6 fun fi=>P (es++(e::fi))
     else O4 g t we (ds.drop (i+1)) τ6 fun fi=>P (es++fi)) jw r5 ⟨τ3,ds[i],R3.mono iy,ix,(hg C s2 H2 fp).mono _ _ _ _ (fun τ6 h6 σ6 H6 gw R6=>⟨τ6,R6,gw,h6⟩) w3⟩) (fun _ s6 ⟨σ6,H6,I6,τ6,R6,gw,w6⟩=>?_) fun _ _ z=>z
   refine aL ((ht C s2 H2 fp).pt _ s6 σ6 H6 (fun k H7=>A5 H6 H7/\if k=true then we τ6 fun r=>∃e,r=.st e/\O4 g t we (ds.drop (i+1)) τ6 fun fi=>P (es++(e::fi))
     else O4 g t we (ds.drop (i+1)) τ6 fun fi=>P (es++fi)) I6 ⟨τ6,R6,(ht C s2 H2 fp).mono τ6 _ _ (fun k h H7 g9=>⟨g9,h⟩) w6⟩) (fun ok s7 ⟨H7,I7,g9,w7⟩=>?_) fun _ _ z=>z
   have pd:∀{σ':St}{H':Hp}{s':Shared},A0 (D5 X scope C s2 H2 fp N) ([(D0,{ cls:=.type "list",data:=.seq ys nn })]++W5 fp s5.heap) σ' H' s'->s'.heap.get? D0=some { cls:=.type "list",data:=.seq ys nn }/\H' D0=none:=fun I' =>
    ⟨(I'.pin (D0,_) (aC _ (b9 _ ag))).1,(I'.pin (D0,_) (aC _ (b9 _ ag))).2.1⟩
   have pf:∀{σ':St}{H':Hp}{s':Shared},A0 (D5 X scope C s2 H2 fp N) ([(D0,{ cls:=.type "list",data:=.seq ys nn })]++W5 fp s5.heap) σ' H' s'->A0 (D5 X scope C s2 H2 fp N) (W5 fp s5.heap) σ' H' s':=fun I' =>
    I'.pins_of fun p hp=>I'.pin p (aC _ (aC _ hp))
   have nI:A5 H3 H7:=iy.trans (gw.trans g9);cases ok with
   | false =>
    rw [az aO]at w7 ⊢;exact again (pf I7) (R6.mono g9) (pd I7).2 (pd I7).1 l5 (kP.mono (Kp.of nI) _ _) (by omega) w7
   | true =>
    rw [aG rfl]at w7 ⊢;refine aL ((he C s2 H2 fp).pe _ s7 σ6 H7 (fun v H8=>A5 H7 H8/\∃e,A1 X.K H8 e v/\O4 g t we (ds.drop (i+1)) τ6 fun fi=>P (es++(e::fi))) I7
     ⟨τ6,R6.mono g9,(he C s2 H2 fp).mono τ6 _ _ (fun r bR v H8 gv ir=>(by obtain⟨e,e1,h⟩:=bR;exact⟨gv,e,by subst e1;exact ir,h⟩)) w7⟩) (fun y s8 ⟨v8,H8,I8,jY,gv,e8,lY,w8⟩=>?_) fun _ _ z=>z
    obtain⟨o8,d8⟩:=pd I8;have jB:ys.size<=sizeLine:=by
     have e1:=l5.length;have e2:=kP.length;have e4:ys.toList.length=ys.size:=by simp
     omega
    refine wpAny_list_append_plain (hsz:=jB) ⟨nn,o8⟩ fun h₅ mB kh=>?_;have I9:A0 (D5 X scope C s2 H2 fp N) (W5 fp s5.heap) σ6 H8 { s8 with heap:=h₅ }:=by
     refine(pf I8).turned (t':=s8.toks) (it:=D0) (fun b o hb e=>(kh.2 b hb).trans e) d8 dg (.inr (by rw [<- hDe];exact aq _)) kb (fun p hp z=>?_);obtain⟨q1,_⟩:=Q9t (by simpa [D5]using hp);exact ay (dM _ q1) z
    obtain⟨lO,o9⟩:=mB;refine again I9 (R6.mono (g9.trans gv)) d8 o9 (vs7:=vs++[v8]) (es7:=es++[e8]) ?_ ((kP.mono (Kp.of (nI.trans gv)) _ _).append (AllS.cons lY AllS.nil)) (by rw [ai];simpa using lh) ?_
    ·have:(ys.push y).toList=ys.toList++[y]:=by simp
     rw [this];exact l5.append (.cons jY .nil)
    ·simpa using w8
  ·have e:i=ds.length:=by omega
   subst e;refine aL (T.done (D5 X scope C s2 H2 fp N) rfl rfl rfl hc ds.length _ s3 σ3 H3 (fun _ _=>False) I3 (gK gJ) gt (yl.stop H3 bW)) (fun r s4 bu=>?_) fun _ _ z=>z;obtain⟨hr,I4⟩:=bu;subst hr;have o4:=(I4.pin (D0,_) (aC _ ag)).1;rw [gq]at w3;have w3:P (es++[]):=w3;rw [aW]at w3;have q8:vs.length<=sizeLine:=by rw [<- kP.length];omega
   exact fin C D0 s2 s4 H2 H3 fp _ σ3 vs ys es _ I2 cM I4 f2 (by rw [hDe];exact cS) (by rw [hDe];exact aq _) dg d3 ⟨nn,o4⟩ l5 q8 bW kP w3
 exact codeAny_compStart_list (loop _ rfl) (T.self _ 0 _ _ _ eX (loop _ rfl))
def DE.comp (hc:X.calm=true)(B:Blk X scope N nt cap)(hi:F9 X H0 tg iter wi)(hg:∀C s H fp,DG (D5 X scope C s H fp N) H tg g)(ht:∀C s H fp,O2 (D5 X scope C s H fp N) H eJ t)
  (he:∀C s H fp,DE (D5 X scope C s H fp N) H dU we) (hs:∀x,foldedSetIterable iter X.env x=pure x:=by intro _;rfl) :
  DE X H0 (.ListComp dU [⟨tg,iter,eJ,0⟩] scope pos) (P8 nt cap wi g t we) where
 mono:=fun τ P Q f h=>hi.mono τ _ _ (fun ds h=>⟨h.1,Z2o (hg 0 X.s₀ X.H₀ []).mono (ht 0 X.s₀ X.H₀ []).mono (he 0 X.s₀ X.H₀ []).mono ds _ _ _ (fun es h=>f _ h) h.2⟩) h
 pe:=by
  intro a9 s σ H Q I ⟨τ,hR,hw⟩;rw [eval_ListComp];refine Y0g hc B hi hg ht he hs I hR hw fun C D0 s2 s4 H2 H4 fp pb σ4 vs ys es f I2 cM I4 f2 hC hD dg hn hl rv hz sm4 al w3=>?_;obtain⟨m4,jc,_⟩:=id I4.loc;refine⟨m4,jc,fun h' sb=>?_⟩;exact⟨.ref D0,_,Z9l I2 I4 f2 hC hD dg hn hl rv hz sb,rfl,w3 _ _ (cM.trans (sm4.trans (G1 hn _))) ⟨D0,vs,rfl,cM.free (I2.hok.fresh hD),upd_same,al.mono (Kp.of (G1 hn _)) _ _⟩⟩
end
section
variable {X:Cx}{H0:Hp}{tg iter dU:Expr}{eJ:List Expr}{scope:Scope}{pos bC eT:Pos}{N:List Str}{nt:Nat}{cap:List Nat}{wi:WIE}{g:WG}{t:WT}{we:WE}
def DS.setC {i:Nat}{x:Str}(hc:X.calm=true)(B:Blk X scope N nt cap)(hi:F9 X H0 tg iter wi)(hg:∀C s H fp,DG (D5 X scope C s H fp N) H tg g)(ht:∀C s H fp,O2 (D5 X scope C s H fp N) H eJ t)
  (he:∀C s H fp,DE (D5 X scope C s H fp N) H dU we) (hN:X.N.Nodup) (ky:X.N[i]?=some x) (hx:Loc X.env.scope x)
  (i5:swapsWith (.ListComp dU [⟨tg,iter,eJ,0⟩] scope pos) (some (.Name x bC)) eT.line X.env=pure true:=by rfl) (hs:∀x,foldedSetIterable iter X.env x=pure x:=by intro _;rfl)
  (hf:X.fn x=true\/X.env.scope.names.lookup x=some .local:=by first | exact .inl rfl | exact .inr rfl | assumption) :
  DS X H0 (.Assign [.Name x bC] (.ListComp dU [⟨tg,iter,eJ,0⟩] scope pos) eT) (C2 i (P8 nt cap wi g t we)) where
 mono:=fun τ E F le h=>(DE.comp (pos:=pos) hc B hi hg ht he hs).mono τ _ _ (fun r h=>Z5w (fun s h=>le.nx _ h) h) h
 ps:=by
  intro a9 s σ H D I ⟨τ,hR,hw⟩;rw [exec_Assign_Name_used _ _ _ _ i5];refine a8 (g7 (a8 ?_));show wpAny _ X.A (do let _ <- comprehension (.ListComp dU [⟨tg,iter,eJ,0⟩] scope pos) scope X.env _ (newList []) false (eval iter X.env) (some (assign (.Name x bC) X.env))) _ _ s;refine a8 (aL (Y0g (use:=some (assign (.Name x bC) X.env)) (QQ:=fun _ s'=>SP X a9 D .next s') hc B hi hg ht he hs I hR hw fun C D0 s2 s4 H2 H4 fp pb σ4 vs ys es f I2 cM I4 f2 hC hD dg hn hl rv hz sm4 al w3=>?_)
   (fun _ s' hq=>ao (ao hq)) fun _ _ e=>e)
  have Ib:A0 X a9 σ (upd H4 D0 (.lst vs)) { s4 with heap:=s4.heap }:=Z9l I2 I4 f2 hC hD dg hn hl rv hz ⟨rfl,fun _ _=>rfl⟩;have iQ:C≠X.env.locals:=fun z=>aV _ (au I2.lt (z ▸ hC));have iP:∀x c,X.env.cells.lookup x=some c->c≠C:=fun x c h z=>by
   obtain⟨v,q⟩:=I2.cell x c h;exact aV _ (au q.lt (z ▸ hC))
  show wpAny _ X.A (assign (.Name x bC) X.env (.ref D0)) _ _ s4;refine wpAny_assign_Name (Q7r (v:=.ref D0) Ib hN ky hx rfl (fun s5 I5 bu=>?_) hf);obtain⟨a,jV,ha⟩:=bu;obtain⟨m4,jc,_⟩:=id I4.loc;have kH:C≠a:=by
   rcases ha with ha | ha
   ·rw [ha];exact iQ
   ·exact fun z=>iP _ _ ha z.symm
  refine⟨m4,jc.sameBut jV kH,fun h' sb=>?_⟩;have kI:H4 C=none:=I4.free;have I6:A0 X a9 (σ.set i (some (.ref D0))) (upd H4 D0 (.lst vs)) { s5 with heap:=h' }:=by
   refine I5.turned (t':=s5.toks) (it:=C) (fun b o hb e=>(sb.2 b hb).trans e) (by rw [B9 (cF dg)];exact kI) iQ (.inr (aS I2.sz hC)) iP fun p hp z=>?_;have:=(I2.pin p hp).1;exact aV _ (au (ax this) (z ▸ hC))
  obtain⟨sl,p,de⟩:=hR.store (i:=i) (r:=.nw es) (v:=.ref D0) (H1:=upd H4 D0 (.lst vs)) (cM.trans (sm4.trans (G1 hn _))) ⟨D0,vs,rfl,cM.free (I2.hok.fresh hD),upd_same,al.mono (Kp.of (G1 hn _)) _ _⟩ w3;exact⟨_,_,I6,p _ _ (Kp.of (cM.trans (sm4.trans (G1 hn _)))) de⟩
end
section
variable {X:Cx}{H0:Hp}{a b c e tg:Expr}{pos:Pos}{we:WE}{wr:WA}
def F9.lst (he:DE X H0 e we):F9 X H0 tg e (fun τ Q=>we τ fun r=>∃ds,Q9 r=some ds/\Q ds) where
 mono:=fun τ P Q f h=>he.mono τ _ _ (fun r bR=>(by obtain⟨ds,e1,q⟩:=bR;exact⟨ds,e1,f _ q⟩)) h
 pi:=piW (Z4r he.pe) fun σ H R ⟨τ,hR,h⟩=>⟨τ,hR,he.mono τ _ _ (fun r cp v H1 s1 ir=>by
  obtain⟨ds,e1,q⟩:=cp;obtain⟨a,xs,rfl,sq,al⟩:=Q2b e1 ir;refine⟨a,rfl,⟨xs,sq⟩,q _ _ s1 ⟨fun H' s i hi=>⟨xs,xs[i]'(by rw [<- al.length];exact hi),s.seq sq,aa _⟩,fun H' s i x cT d hd ⟨e,y⟩=>?_,fun H' s=>⟨xs,s.seq sq,by rw [al.length];exact aq _⟩⟩⟩;subst e;have hx:=y xs (s.seq sq);obtain⟨v,hv,q⟩:=(al.mono (Kp.of s) _ _).get hd;rw [hx]at hv;cases hv;exact⟨A5.refl _,q⟩) h⟩
def F9.tup (he:DE X H0 e we):F9 X H0 tg e (fun τ Q=>we τ fun r=>∃ds,r=.st (.tup ds)/\Q ds) where
 mono:=fun τ P Q f h=>he.mono τ _ _ (fun r cQ=>(by obtain⟨ds,e1,q⟩:=cQ;exact⟨ds,e1,f _ q⟩)) h
 pi:=piW (Y3m he.pe) fun σ H R ⟨τ,hR,h⟩=>⟨τ,hR,he.mono τ _ _ (fun r dG v H1 s1 ir=>by
  obtain⟨ds,e1,q⟩:=dG;subst e1;have ir:A1 X.K H1 (.tup ds) v:=ir;unfold A1 at ir;obtain⟨a,xs,rfl,sq,al⟩:=ir;refine⟨a,rfl,⟨xs,E1.of sq⟩,q _ _ s1 ⟨fun H' s i hi=>⟨xs,xs[i]'(by rw [<- al.length];exact hi),E1.of (s _ _ sq),aa _⟩,fun H' s i x cT d hd ⟨e,y⟩=>?_,fun H' s=>⟨xs,E1.of (s _ _ sq),by rw [al.length];exact aq _⟩⟩⟩;subst e;have hx:=y xs (E1.of (s _ _ sq));obtain⟨v,hv,q⟩:=(al.mono (Kp.of s) _ _).get hd;rw [hx]at hv;cases hv;exact⟨A5.refl _,q⟩) h⟩
def V4c {K:Fg9}{H:Hp}{lo:Int}{n:Nat}:YlS K (Itr lo n) (O9 lo n) H :=
 ⟨fun H' s=>(Z1c (K:=K) (H0:=H) (H:=H)).go H' (Kp.of s) s,fun H' s=>(Z1c (K:=K) (H0:=H) (H:=H)).yld H' (Kp.of s) s,fun H' s=>(Z1c (K:=K) (H0:=H) (H:=H)).stop H' (Kp.of s) s⟩
def F9.rng1 {p:Pos}(hg:Gl X "range")(hm:X.mg "range"=none)(ha:DA X H0 [a] wr)(hs:starEach [a] X.env=[(false,eval a X.env)]:=by rfl) :
  F9 X H0 tg (.Call (.Name "range" p) [a] [] pos) (fun τ Q=>wr τ fun rs=>∃j:Int,rs=[.st (.int j)]/\-(2 ^ 62)<=j/\j<2 ^ 62/\Q (O9 0 j.toNat)) where
 mono:=fun τ P Q f h=>ha.mono τ _ _ (fun r dL=>(by obtain⟨j,e1,h1,h2,q⟩:=dL;exact⟨j,e1,h1,h2,f _ q⟩)) h
 pi:=piW (Y3l hg hm ha.pa hs) fun σ H R ⟨τ,hR,h⟩=>⟨τ,hR,ha.mono τ _ _ (fun r dF vs H1 s1 cq=>by
  obtain⟨j,e1,h1,h2,q⟩:=dF;subst e1;obtain⟨v,rfl,ir⟩:=V0 cq;cases (show v=.int j from ir);exact⟨j,rfl,h1,h2,q _ _ s1 V4c⟩) h⟩
def Q7s {a9:Pn9}{σ:St}{H:Hp}{s:Shared}{h':Heap}{t':Nat}{wr:List Addr}(I:A0 X a9 σ H s)(k:∀b o,b∉wr->s.heap.get? b=some o->h'.get? b=some o)(hf:∀b∈wr,P4 X a9 H b) :
  A0 X a9 σ H { s with heap:=h',toks:=t' }:=by
 have iE:∀b u,H b=some u->b∉wr:=fun b u e z=>by have:=(hf b z).1;rw [e]at this;cases this
 refine I.step (g':=s.gens) (d':=s.drawn) (ch:=wr) (fun b hb=>?_) (fun b o _ _ hc e _=>k b o hc e) (fun b o _ _ hc e _=>⟨o.slots,k b o hc e⟩) (fun _ _ _ _ n=>n)
  (fun b o hc e=>⟨o,k b o hc e⟩) (fun _ _ e=>e) (fun _ _ _ e=>e) (fun b ps e=>⟨#[],by rw [e];simp⟩) (fun m hm=>?_) (fun b u e=>?_) I.bare
 ·obtain⟨_,f1,_,f3,f4,f5⟩:=hf b hb;exact⟨f3,f1,f4,f5⟩
 ·obtain⟨o,es,ep,ho,r⟩:=hm;exact⟨o,es,ep,k _ o (fun z=>(hf _ z).2.1 rfl) ho,r⟩
 ·refine(I.hok b u e).stay (fun c v hc q=>k c v ?_ q) (fun _ _ _ q=>q) fun _ _ q=>q;rcases hc with z | z
  ·rw [z];exact iE b u e
  ·exact iE c _ z
def Its (x:Str):It:=⟨fun i _=>i<x.cps.size,fun i H v H'=>H'=H/\∃c,x.cps[i]?=some c/\v=.str ⟨#[c]⟩,fun i _=>i=x.cps.size⟩
def Y6n {P:Program}{w:World}{K:Fg9}{tg:Expr}{it:Addr}{ty:String}{x:Str}{t:Tok}(gg:ty="str_ascii_iterator"\/ty="str_iterator"):Q0o P w K tg (Its x) [it] it (fun i h=>h.IsStrIter it ty x t i) where
 mem:=by simp
 obj:=fun i h st b hb=>by
  have e:b=it:=by simpa using hb
  subst e;obtain⟨o,e,c,d⟩:=st;exact⟨o,e,fun v z=>by rw [d]at z;cases z⟩
 keep:=fun i h h' j8 k=>(by obtain⟨o,e,r⟩:=j8;exact⟨o,k it (by simp) o e,r⟩)
 item:=by
  intro X hP hw hK hc i a9 s σ H E I hf st hg;subst hP hw hK;have W:Walks X.prog X.w X.A it [it] [it] x.cps.size (SignAt x) (fun i h=>h.IsStrIter it ty x t i):=by
   rcases gg with rfl | rfl
   ·exact Walks.strAscii (I.ok.hd hc) it x t
   ·exact Walks.strWide (I.ok.hd hc) it x t
  refine W.item i s _ _ hg st fun v h' tk hv fE k=>?_;obtain⟨c,u,dy,rfl⟩:=hv;have I1:A0 X a9 σ H { s with heap:=h',toks:=tk }:=Q7s I k hf;obtain⟨o,e,cl,d⟩:=id fE;refine⟨_,rfl,Q4u (s:={ s with heap:=h',toks:=tk }) e cl d (by rcases gg with rfl | rfl <;> decide) ⟨.str ⟨#[c]⟩,H,I1,⟨u,rfl⟩,⟨rfl,c,dy,rfl⟩,fE,fun b hb=>(hf b hb).1⟩⟩
 done:=by
  intro X hP hw hK hc i a9 s σ H E I hf st hg;subst hP hw hK;have hg:i=x.cps.size:=hg;subst hg;have W:Walks X.prog X.w X.A it [it] [it] x.cps.size (SignAt x) (fun i h=>h.IsStrIter it ty x t i):=by
   rcases gg with rfl | rfl
   ·exact Walks.strAscii (I.ok.hd hc) it x t
   ·exact Walks.strWide (I.ok.hd hc) it x t
  exact W.done s _ _ st fun h' tk k=>⟨rfl,Q7s I k hf⟩
 self:=fun A i s Q E st h=>by
  rcases gg with rfl | rfl
  ·exact wpAny_pyIter_striter_ascii st h
  ·exact wpAny_pyIter_striter_wide st h
def F5 (x:Str):List D:=x.cps.toList.map fun c=>.str ⟨#[c]⟩
def V4d {K:Fg9}{H:Hp}{x:Str}:YlS K (Its x) (F5 x) H where
 go:=fun H' _ i hi=>by
  have:i<x.cps.size:=by simpa [F5]using hi
  exact this
 yld:=fun H' _ i v cT d hd fQ=>by
  obtain⟨e,c,hc,hv⟩:=fQ;subst e hv;refine⟨A5.refl _,?_⟩;unfold F5 at hd;rw [af]at hd;have:x.cps.toList[i]?=some c:=by simpa using hc
  rw [this]at hd;have e:D.str ⟨#[c]⟩=d:=aA hd;subst e;exact A1.s_str
 stop:=fun H' _=>by
  show(F5 x).length=x.cps.size;simp [F5]
def F9.str (he:DE X H0 e we):F9 X H0 tg e (fun τ Q=>we τ fun r=>∃x,r=.st (.str x)/\Q (F5 x)) where
 mono:=fun τ P Q f h=>he.mono τ _ _ (fun r eD=>(by obtain⟨ds,e1,q⟩:=eD;exact⟨ds,e1,f _ q⟩)) h
 pi:=by
  intro a9 s σ H R I ⟨τ,hR,h⟩;refine B4 (he.pe a9 s σ H (fun v H1=>A5 H H1/\∃x,v=.str x/\∀J H',A5 H H'->YlS X.K J (F5 x) H'->R J H') I ⟨τ,hR,he.mono τ _ _ (fun r fy v H1 s1 ir=>(by obtain⟨x,e1,q⟩:=fy;exact⟨s1,x,by subst e1;exact ir,q⟩)) h⟩) fun u s1 ⟨v,H1,I1,rv,sm,x,e1,q⟩=>?_;subst e1;obtain⟨t,rfl⟩:=rv;have fin:∀(ty:String),(ty="str_ascii_iterator"\/ty="str_iterator")->PIE X a9 σ tg R (.ref s1.heap.objs.size) { s1 with heap:=s1.heap.push { cls:=.type ty,data:=.fields #[.str x t,.int 0 0] } }:=fun ty gg=>by
   refine⟨s1.heap.objs.size,[s1.heap.objs.size],_,_,H1,rfl,I1.kept (t':=s1.toks) fun b o e=>aj _ e,Y6n (ty:=ty) (x:=x) (t:=t) gg,⟨_,aI _ rfl,rfl,rfl⟩,fun b hb=>?_,q _ _ sm V4d⟩;have e:b=s1.heap.objs.size:=by simpa using hb
   subst e;exact I1.fpOk (aq _) (I1.hok.fresh (aq _))
  cases ha:x.cps.all (·<128)
  ·exact wpAny_pyIter_wide ha (fin _ (.inr rfl))
  ·exact wpAny_pyIter_ascii ha (fin _ (.inl rfl))
end
section
variable {X:Cx}{b c e:Expr}{wr:WA}
def Z6d {a9:Pn9}{σ:St}{H:Hp}{s:Shared}{h':Heap}{t':Nat}{wr:List Addr}{T:Addr}{xs:List V}{aP:List Value}(I:A0 X a9 σ H s)(k:∀b o,b∉wr->s.heap.get? b=some o->h'.get? b=some o)(hf:∀b∈wr,P4 X a9 H b)
  (hT:s.heap.objs.size<=T) (ht:IsTup h' T aP.toArray) (rv:C0 xs aP) (hz:xs.length<=sizeLine):A0 X a9 σ (upd H T (.tup xs)) { s with heap:=h',toks:=t' }:=by
 have iE:∀b u,H b=some u->b∉wr:=fun b u e z=>by have:=(hf b z).1;rw [e]at this;cases this
 have qZ:H T=none:=I.hok.fresh hT;have neT:∀b u,H b=some u->b≠T:=fun b u e z=>by rw [z,qZ]at e;cases e
 refine I.step (g':=s.gens) (d':=s.drawn) (ch:=wr) (fun b hb=>?_) (fun b o _ _ hc e _=>k b o hc e) (fun b o _ _ hc e _=>⟨o.slots,k b o hc e⟩) (fun b o _ e n=>by rw [B9 (ay (au (ax e) hT))];exact n)
  (fun b o hc e=>⟨o,k b o hc e⟩) (fun b _ e=>by rw [B9 (neT b _ e)];exact e) (fun b _ _ e=>by rw [B9 (neT b _ e)];exact e) (fun b ps e=>⟨#[],by rw [B9 (neT b _ e),e];simp⟩) (fun m hm=>?_) (fun b u e=>?_) I.bare
 ·obtain⟨_,f1,_,f3,f4,f5⟩:=hf b hb;exact⟨f3,f1,f4,f5⟩
 ·obtain⟨o,es,ep,ho,r⟩:=hm;exact⟨o,es,ep,k _ o (fun z=>(hf _ z).2.1 rfl) ho,r⟩
 ·by_cases hb:b=T
  ·subst hb;rw [upd_same]at e;cases e;exact⟨hz,aP,rv,ht⟩
  ·rw [B9 hb]at e;refine(I.hok b u e).stay (fun c v hc q=>k c v ?_ q) (fun c u _ q=>by rw [B9 (neT c _ q)];exact q) fun c xs q=>by rw [B9 (neT c _ q)];exact q
   rcases hc with z | z
   ·rw [z];exact iE b u e
   ·exact iE c _ z
def G6 (ds:List D):List D:=ds.zipIdx.map fun(p:D×Nat)=>.tup [.int (p.2:Int),p.1]
theorem Q8w {ds:List D}{i:Nat}{d:D}(h:(G6 ds)[i]?=some d):∃x,ds[i]?=some x/\d=.tup [.int (i:Int),x]:=by
 unfold G6 at h;rw [af,List.getElem?_zipIdx]at h;cases e:ds[i]? with
 | none=>rw [e]at h;cases h
 | some x =>
  rw [e]at h;have h:D.tup [.int ((0+i:Nat):Int),x]=d:=aA h;exact⟨x,rfl,by rw [<- h,cG]⟩
def Q2u (ds:List D):(G6 ds).length=ds.length:=by simp [G6]
def Ies (x:Str):It:=⟨fun i _=>i<x.cps.size,fun i H v H'=>∃T c,x.cps[i]?=some c/\H T=none/\v=.ref T/\H'=upd H T (.tup [.int (i:Int),.str ⟨#[c]⟩]),fun i _=>i=x.cps.size⟩
def V2v {P:Program}{w:World}{K:Fg9}{du:List Expr}{kk:Nat}{pt:Pos}{en it:Addr}{x:Str}{t:Tok}(cz:en≠it) :
  Q0o P w K (.Tuple du kk pt) (Ies x) [en,it] en (fun i h=>(∃old,IsEnum h en it i old)/\h.IsStrIter it (strIterType x) x t i) where
 mem:=by simp
 obj:=fun i h st b hb=>by
  obtain⟨⟨old,he⟩,o,ho,_,d⟩:=st;rcases ar.mp hb with rfl | hb
  ·exact⟨_,he,fun v z=>by cases z⟩
  ·have e:b=it:=by simpa using hb
   subst e;exact⟨o,ho,fun v z=>by rw [d]at z;cases z⟩
 keep:=fun i h h' bR k=>(by obtain⟨⟨old,he⟩,o,ho,r⟩:=bR;exact⟨⟨old,k en (by simp) _ he⟩,o,k it (by simp) o ho,r⟩)
 item:=by
  intro X hP hw hK hc i a9 s σ H E I hf st hg;subst hP hw hK;have Dr:Draws X.prog X.w X.A.in1 it [it] x.cps.size (fun i v=>∃c u,x.cps[i]?=some c/\v=.str ⟨#[c]⟩ u) (fun i h=>h.IsStrIter it (strIterType x) x t i):=by
   unfold strIterType;split
   ·exact Draws.strAscii (A:=X.A.in1) (show X.A.in1.handled=none from I.ok.hd hc) it x t
   ·exact Draws.strWide (A:=X.A.in1) (show X.A.in1.handled=none from I.ok.hd hc) it x t
  have W:=WalksT.enumerateD Dr en cz (by simpa using cz) (by simp);have qL:∀b∈[en,it],P4 X a9 H b:=hf;refine W.item i s _ _ hg st fun T fP h' tk hv hT kF iF k=>?_;obtain⟨t1,y,⟨c,u,dy,rfl⟩,rfl⟩:=hv;refine⟨_,rfl,W.go du kk pt i T { s with heap:=h',toks:=tk } _ _ iF fun h2 eG k2=>?_⟩;have ke:∀b o,b∉[en,it]->s.heap.get? b=some o->h2.get? b=some o:=fun b o hb e=>k2 b o hb (k b o hb e);have iM:=W.apart i T h' iF;have gI:IsTup h2 T ([Value.int (i:Int) t1,Value.str ⟨#[c]⟩ u]).toArray:=by
   obtain⟨o,ho,r⟩:=kF;exact⟨o,k2 T o iM ho,r⟩
  have I2:=Z6d (t':=tk) (xs:=[.int (i:Int),.str ⟨#[c]⟩]) I ke qL hT gI (.cons ⟨t1,rfl⟩ (.cons ⟨u,rfl⟩ .nil)) (by show 2<=sizeLine;decide);refine⟨.ref T,_,I2,rfl,⟨T,c,dy,I.hok.fresh hT,rfl,rfl⟩,eG,fun b hb=>?_⟩;rw [B9 (show b≠T from fun z=>iM (by rw [<- z];exact hb))];exact(hf b hb).1
 done:=by
  intro X hP hw hK hc i a9 s σ H E I hf st hg;subst hP hw hK;have hg:i=x.cps.size:=hg;subst hg;have Dr:Draws X.prog X.w X.A.in1 it [it] x.cps.size (fun i v=>∃c u,x.cps[i]?=some c/\v=.str ⟨#[c]⟩ u) (fun i h=>h.IsStrIter it (strIterType x) x t i):=by
   unfold strIterType;split
   ·exact Draws.strAscii (A:=X.A.in1) (show X.A.in1.handled=none from I.ok.hd hc) it x t
   ·exact Draws.strWide (A:=X.A.in1) (show X.A.in1.handled=none from I.ok.hd hc) it x t
  have W:=WalksT.enumerateD Dr en cz (by simpa using cz) (by simp);exact W.done s _ _ st fun h' tk k=>⟨rfl,Q7s I k hf⟩
 self:=fun A i s Q E cp h=>(by obtain⟨⟨old,he⟩,_⟩:=cp;exact cr he h)
def Z8a {K:Fg9}{H:Hp}{x:Str}:YlS K (Ies x) (G6 (F5 x)) H where
 go:=fun H' _ i hi=>by
  have:i<x.cps.size:=by rw [Q2u]at hi;simpa [F5]using hi
  exact this
 yld:=fun H' _ i v cT d hd cQ=>by
  obtain⟨T,c,hc,hT,hv,hH⟩:=cQ;subst hH hv;refine⟨G1 hT _,?_⟩;obtain⟨y,hy,rfl⟩:=Q8w hd;unfold F5 at hy;rw [af]at hy;have:x.cps.toList[i]?=some c:=by simpa using hc
  rw [this]at hy;have e:D.str ⟨#[c]⟩=y:=aA hy;subst e;exact A1.s_tup upd_same (AllS.cons A1.s_int (AllS.cons A1.s_str AllS.nil))
 stop:=fun H' _=>by
  show(G6 (F5 x)).length=x.cps.size;rw [Q2u];simp [F5]
def Iel (K:Fg9)(l:Addr):It:=⟨fun i H=>∃xs x,D7 K H l xs/\xs[i]?=some x,fun i H v H'=>∃T x,(∀xs,D7 K H l xs->xs[i]?=some x)/\H T=none/\v=.ref T/\H'=upd H T (.tup [.int (i:Int),x]),fun i H=>∃xs,D7 K H l xs/\xs.length=i⟩
def Y6l {P:Program}{w:World}{K:Fg9}{du:List Expr}{kk:Nat}{pt:Pos}{en it l:Addr}(cz:en≠it)(fX:l≠en)(jE:l≠it) :
  Q0o P w K (.Tuple du kk pt) (Iel K l) [en,it] en (fun i h=>(∃old,IsEnum h en it i old)/\h.IsListIter it l i) where
 mem:=by simp
 obj:=fun i h st b hb=>by
  obtain⟨⟨old,he⟩,o,ho,_,d⟩:=st;rcases ar.mp hb with rfl | hb
  ·exact⟨_,he,fun v z=>by cases z⟩
  ·have e:b=it:=by simpa using hb
   subst e;exact⟨o,ho,fun v z=>by rw [d]at z;cases z⟩
 keep:=fun i h h' dG k=>(by obtain⟨⟨old,he⟩,hi⟩:=dG;exact⟨⟨old,k en (by simp) _ he⟩,hi.at fun o e=>k it (by simp) o e⟩)
 item:=by
  intro X hP hw hK hc i a9 s σ H E I hf st hg;subst hP hw hK;obtain⟨xs,x,hq,hx⟩:=hg;obtain⟨aP,rv,p,hz⟩:=I.list hq;have W:=WalksT.enumerate (prog:=X.prog) (w:=X.w) (A:=X.A) (I.ok.hd hc) en it l cz fX jE aP.toArray;obtain⟨u,hu,ru⟩:=rv.get hx;have bU:i<aP.toArray.size:=by
   rcases aX i aP.length with h | h
   ·simpa using h
   ·rw [aw.mpr h]at hu;cases hu
  refine W.item i s _ _ bU ⟨st.1,st.2,p.isList⟩ fun T fP h' tk hv hT kF iF k=>?_;obtain⟨t1,y,hy,rfl⟩:=hv;have ey:y=u:=by
   have:aP[i]?=some y:=by simpa using hy
   rw [hu]at this;exact(aA this).symm
  subst ey;refine⟨_,rfl,W.go du kk pt i T { s with heap:=h',toks:=tk } _ _ iF fun h2 eG k2=>?_⟩;have ke:∀b o,b∉[en,it]->s.heap.get? b=some o->h2.get? b=some o:=fun b o hb e=>k2 b o hb (k b o hb e);have iM:=W.apart i T h' iF;have gI:IsTup h2 T ([Value.int (i:Int) t1,y]).toArray:=by
   obtain⟨o,ho,r⟩:=kF;exact⟨o,k2 T o iM ho,r⟩
  have I2:=Z6d (t':=tk) (xs:=[.int (i:Int),x]) I ke hf hT gI (.cons ⟨t1,rfl⟩ (.cons ru .nil)) (by show 2<=sizeLine;decide);refine⟨.ref T,_,I2,rfl,⟨T,x,fun ys hy=>by rw [I.list_inj hy hq];exact hx,I.hok.fresh hT,rfl,rfl⟩,⟨eG.1,eG.2.1⟩,fun b hb=>?_⟩;rw [B9 (show b≠T from fun z=>iM (by rw [<- z];exact hb))];exact(hf b hb).1
 done:=by
  intro X hP hw hK hc i a9 s σ H E I hf st hg;subst hP hw hK;obtain⟨xs,hq,hx⟩:=hg;obtain⟨aP,rv,p,hz⟩:=I.list hq;have W:=WalksT.enumerate (prog:=X.prog) (w:=X.w) (A:=X.A) (I.ok.hd hc) en it l cz fX jE aP.toArray;have hl:=rv.length;have e:i=aP.toArray.size:=by simp;omega
  subst e;exact W.done s _ _ ⟨st.1,st.2,p.isList⟩ fun h' tk k=>⟨rfl,Q7s I k hf⟩
 self:=fun A i s Q E dL h=>(by obtain⟨⟨old,he⟩,_⟩:=dL;exact cr he h)
def V4a {K:Fg9}{H:Hp}{l:Addr}{xs:List V}{ds:List D}(sq:D7 K H l xs)(al:AllS K H ds xs):YlS K (Iel K l) (G6 ds) H where
 go:=fun H' s i hi=>by
  rw [Q2u]at hi;exact⟨xs,xs[i]'(by rw [<- al.length];exact hi),s.seq sq,aa _⟩
 yld:=fun H' s i v cT d hd dF=>by
  obtain⟨T,x,hx,hT,hv,hH⟩:=dF;subst hH hv;refine⟨G1 hT _,?_⟩;obtain⟨y,hy,rfl⟩:=Q8w hd;obtain⟨v,hv,q⟩:=al.get hy;rw [hx xs (s.seq sq)]at hv;cases hv;exact A1.s_tup upd_same (AllS.cons A1.s_int (AllS.cons (q.mono (Kp.of (s.trans (G1 hT _))) _ _) AllS.nil))
 stop:=fun H' s=>⟨xs,s.seq sq,by rw [Q2u];exact al.length.symm⟩
end
section
variable {X:Cx}{H0:Hp}{a b e o tg:Expr}{pos apos bp:Pos}{we:WE}
def C4.mutate {K:Fg9}{H:Hp}{τ:A9}{σ:St}{i:Nat}{ds lu:List D}{a:Addr}{xs jR:List V}(hR:C4 K H0 τ σ H)(e1:τ[i]?=some (some (.own ds)))(hv:σ[i]?=some (some (.ref a)))(h0:H0 a=none)(sq:H a=some (.lst xs))(al:AllS K H lu jR) :
  C4 K H0 (τ.set i (some (.own lu))) σ (upd H a (.lst jR)):=by
 have kp:Kp H (upd H a (.lst jR)):=Kp.upd sq _;have hl:i<τ.length:=by
  rcases aX i τ.length with h | h
  ·exact h
  ·rw [aw.mpr h]at e1;cases e1
 have old:∀(j:Nat) (s:Sl),(τ.set i (some (.own lu)))[j]?=some (some s)->j≠i->τ[j]?=some (some s):=fun j s e hj=>by rw [aN (fun z=>hj z.symm)]at e;exact e
 have eW:∀(j:Nat) (s:Sl),(τ.set i (some (.own lu)))[j]?=some (some s)->s.mut=true->∃t,τ[j]?=some (some t)/\t.mut=true:=fun j s e m=>by
  by_cases hj:j=i
  ·subst hj;exact⟨_,e1,rfl⟩
  ·exact⟨s,old j s e hj,m⟩
 refine⟨by rw [bM];exact hR.len,fun b ob hb=>?_,fun j s e=>?_,fun j k s t v cz e2 e3 m1 m2 q1 q2=>?_⟩
 ·rw [B9 (X5 hb h0)];exact hR.same b ob hb
 ·by_cases hj:j=i
  ·subst hj;rw [X3 hl]at e;cases e;exact⟨_,hv,a,jR,rfl,h0,upd_same,al.mono kp _ _⟩
  ·have e:=old j s e hj;obtain⟨v,q,r⟩:=hR.here j s e;refine⟨v,q,?_⟩;have ap:s.mut=true->v≠.ref a:=fun m z=>by
    subst z;exact hR.apart i j _ s (.ref a) (fun z=>hj z.symm) e1 e rfl m hv q
   cases s with
   | dat d=>exact A1.mono kp _ _ r
   | own es=>obtain⟨b,ys,e,n,q,t⟩:=r;exact⟨b,ys,e,n,by rw [B9 (fun z=>ap rfl (by rw [e,z]))];exact q,t.mono kp _ _⟩
   | bor es=>obtain⟨b,ys,e,q,t⟩:=r;exact⟨b,ys,e,q,t.mono kp _ _⟩
   | bd es=>obtain⟨b,ys,e,q,t⟩:=r;exact⟨b,ys,e,q,t.mono kp _ _⟩
   | dk es=>obtain⟨b,ys,e,n,q,t⟩:=r;exact⟨b,ys,e,n,by rw [B9 (fun z=>ap rfl (by rw [e,z]))];exact q,t.mono kp _ _⟩
   | dt es=>obtain⟨b,ys,e,n,q,t⟩:=r;exact⟨b,ys,e,n,by rw [B9 (fun z=>ap rfl (by rw [e,z]))];exact q,t.mono kp _ _⟩
   | ob _=>exact r
   | cl _ _=>exact⟨r.1,r.2.2 _ _ kp r.2.1,r.2.2⟩
   | ll _ _=>exact⟨r.1,r.2.keep kp fun b φ q=>by rw [B9 (Q0e q sq (by intro z;cases z))];exact q⟩
   | ins _ _ _=>obtain⟨e,n,dx,ys,q,t⟩:=r;exact⟨e,n,dx,ys,by rw [B9 (fun z=>ap rfl (by rw [e,z]))];exact q,t.mono kp _ _⟩
 ·obtain⟨s',nu,lS⟩:=eW j s e2 m1;obtain⟨t',nr,lR⟩:=eW k t e3 m2;exact hR.apart j k s' t' v cz nu nr lS lR q1 q2
def C4.ownAt {K:Fg9}{H:Hp}{τ:A9}{σ:St}{i:Nat}{ds:List D}(hR:C4 K H0 τ σ H)(e1:τ[i]?=some (some (.own ds))):∃a xs,σ[i]?=some (some (.ref a))/\H0 a=none/\H a=some (.lst xs)/\AllS K H ds xs:=by
 obtain⟨v,hv,a,xs,rfl,h0,sq,al⟩:=hR.here i _ e1;exact⟨a,xs,hv,h0,sq,al⟩
def P2 (i:Nat)(we:WE):WS:=fun E τ=>∃ds,τ[i]?=some (some (.own ds))/\we τ fun r=>∃d,r=.st d/\ds.length<sizeLine/\E.nx (τ.set i (some (.own (ds++[d]))))
def DS.append {i:Nat}(ho:PE X o (S4 i))(he:DE X H0 e we)(ck:attributeBase o "append" X.env (eval o X.env)=eval o X.env:=by rfl)
  (dO:((backTo bp (starEach [e] X.env)).all (fun x=>!x.1)&&(backToKw bp (keywordEach [] X.env)).all (fun x=>x.1.isSome)&&decide ([e].length+([]:List Keyword).length+(if ([]:List Keyword).isEmpty then 0 else 1)<30))=true:=by rfl)
  (cw:(apos.endLine==bp.line)=true:=by rfl) (hs:starEach [e] X.env=(false,eval e X.env)::starEach [] X.env:=by rfl) (cu:(backTo bp (starEach [] X.env)).any (·.1)=false:=by rfl)
  (i5:swapsWith (.Call (.Attribute o "append" apos) [e] [] bp) none pos.line X.env=pure false:=by rfl):DS X H0 (.Expr (.Call (.Attribute o "append" apos) [e] [] bp) pos) (P2 i we) where
 mono:=fun τ E F le bR=>(by obtain⟨ds,e1,h⟩:=bR;exact⟨ds,e1,he.mono τ _ _ (fun r bR=>by obtain⟨d,e2,h1,h2⟩:=bR;exact⟨d,e2,h1,le.nx _ h2⟩) h⟩)
 ps:=psW (Y3p (Q7h cY PySem.F.slot_list_append PySem.F.type_list_append W4x ho (T0 he.pe X7 hs) ck dO cw hs cu) i5) fun D σ H cp=>by
  obtain⟨τ,hR,ds,e1,h⟩:=cp;obtain⟨a,xs,hv,h0,sq,al⟩:=hR.ownAt e1;refine⟨_,hv,.inl ⟨rfl,_,D7.of sq⟩,τ,hR,he.mono τ _ _ (fun r ⟨d,e2,h1,h2⟩ v H1 s1 ir=>?_) h⟩;subst e2;have eL:=hR.mono s1;refine⟨a,xs,v,rfl,rfl,s1 _ _ sq,by rw [<- al.length];exact h1,h2 σ _ ((Kp.of s1).trans (Kp.upd (s1 _ _ sq) _)) ?_⟩;exact eL.mutate e1 hv h0 (s1 _ _ sq) ((al.mono (Kp.of s1) _ _).append (AllS.cons ir AllS.nil))
def DS.pop {i:Nat}{g:WG}(ho:PE X o (S4 i))(hg:DG X H0 tg g)(ck:attributeBase o "pop" X.env (eval o X.env)=eval o X.env:=by rfl)(cw:(apos.endLine==bp.line)=true:=by rfl)
  (hs:swapsWithSole [tg] (.Call (.Attribute o "pop" apos) [] [] bp) pos.line X.env=pure false:=by rfl) (hw:swappedStores [tg] (.Call (.Attribute o "pop" apos) [] [] bp) X.env=pure none:=by rfl)
  (h1:(assignEach [tg] X.env).map (·.2)=[assign tg X.env]:=by rfl) :
  DS X H0 (.Assign [tg] (.Call (.Attribute o "pop" apos) [] [] bp) pos) (fun E τ=>∃ds d,τ[i]?=some (some (.own (ds++[d])))/\g d (τ.set i (some (.own ds))) E.nx) where
 mono:=fun τ E F le cQ=>(by obtain⟨ds,d,e1,h⟩:=cQ;exact⟨ds,d,e1,hg.mono _ _ _ _ le.nx h⟩)
 ps:=psW (Z4s (W6n cY PySem.F.slot_list_pop PySem.F.type_list_pop W5c ho ck cw) hg.pg hs hw h1) fun D σ H dL=>by
  obtain⟨τ,hR,ds,d,e1,h⟩:=dL;obtain⟨a,xs,hv,h0,sq,al⟩:=hR.ownAt e1;have hl:=al.length;rw [ai,bh]at hl;obtain⟨v,hx,iv⟩:=al.get (i:=ds.length) (d:=d) (by simp);refine⟨_,hv,.inl ⟨rfl,_,D7.of sq⟩,a,xs,v,rfl,rfl,sq,by rw [show xs.length-1=ds.length by omega];exact hx,?_⟩;have kp:Kp H (upd H a (.lst xs.dropLast)):=Kp.upd sq _;have rE:AllS X.K H ds xs.dropLast:=by
   have:=al.take ds.length;rw [List.take_left]at this;rw [List.dropLast_eq_take,show xs.length-1=ds.length by omega];exact this
  exact⟨_,d,hR.mutate e1 hv h0 sq rE,A1.mono kp _ _ iv,hg.mono _ _ _ _ (fun τ' h σ' H' s' de=>h σ' H' (kp.trans (Kp.of s')) de) h⟩
def Q2j:List D->Option (List Str)
 | []=>some []
 | .str x::r=>(Q2j r).map (x::·)
 | _::_=>none
theorem Y5w {K:Fg9}{H:Hp}:∀{ds:List D}{ys:List Str}{xs:List V}{us:List Value},Q2j ds=some ys->AllS K H ds xs->C0 xs us->StrsAre us ys
 | [],ys,xs,us,h,al,rv=>by cases h;unfold AllS at al;subst al;cases rv;exact .nil
 | .str x::r,ys,xs,us,h,al,rv=>by
  unfold AllS at al;obtain⟨v,t,rfl,iv,al⟩:=al;unfold A1 at iv;subst iv;cases rv with
  | cons r1 r2 =>
   obtain⟨tk,rfl⟩:=r1;unfold Q2j at h;cases q:Q2j r with
   | none=>rw [q]at h;cases h
   | some zs=>rw [q]at h;cases h;exact .cons _ _ (Y5w q al r2)
 | .non::_,_,_,_,h,_,_=>by cases h
 | .bl _::_,_,_,_,h,_,_=>by cases h
 | .int _::_,_,_,_,h,_,_=>by cases h
 | .tup _::_,_,_,_,h,_,_=>by cases h
 | .lst _::_,_,_,_,h,_,_=>by cases h
def Z6o (wo we:WE):WE:=fun τ Q=>wo τ fun r1=>∃x,r1=.st (.str x)/\we τ fun r=>∃ds ys,Q9 r=some ds/\Q2j ds=some ys/\(ys.map (·.length)).sum+ys.length*x.length<=16777216/\Q (.st (.str (Txt.join x ys)))
def W5b:MtR X "str.join" (fun x vs H Q=>∃z l xs ds ys,x=.str z/\vs=[.ref l]/\D7 X.K H l xs/\AllS X.K H ds xs/\Q2j ds=some ys/\(ys.map (·.length)).sum+ys.length*z.length<=16777216/\Q (.str (Txt.join z ys)) H):=by
 intro a9 s σ H x vs v us Q I rx rv ⟨z,l,xs,ds,ys,e1,e2,sq,al,hs,hz,q⟩;subst e1 e2;obtain⟨t,rfl⟩:=rx;obtain⟨u,rfl,ru⟩:=T4 rv;cases (show u=Value.ref l from ru);obtain⟨aP,fH,pl,_⟩:=I.list sq;exact join_list pl.isList (by simpa using Y5w hs al fH) hz fun t' k=>⟨.str _,H,I.tok k,⟨t',rfl⟩,q⟩
def DE.join {wo:WE}(ho:DE X H0 o wo)(he:DE X H0 e we)(ck:attributeBase o "join" X.env (eval o X.env)=eval o X.env:=by rfl)
  (dO:((backTo bp (starEach [e] X.env)).all (fun x=>!x.1)&&(backToKw bp (keywordEach [] X.env)).all (fun x=>x.1.isSome)&&decide ([e].length+([]:List Keyword).length+(if ([]:List Keyword).isEmpty then 0 else 1)<30))=true:=by rfl)
  (cw:(apos.endLine==bp.line)=true:=by rfl) (hs:starEach [e] X.env=(false,eval e X.env)::starEach [] X.env:=by rfl) (cu:(backTo bp (starEach [] X.env)).any (·.1)=false:=by rfl) :
  DE X H0 (.Call (.Attribute o "join" apos) [e] [] bp) (Z6o wo we) where
 mono:=fun τ P Q f h=>ho.mono τ _ _ (fun r dF=>by obtain⟨x,e1,h⟩:=dF;exact⟨x,e1,he.mono τ _ _ (fun r i9=>by obtain⟨ds,ys,a1,a2,a3,a4⟩:=i9;exact⟨ds,ys,a1,a2,a3,f _ a4⟩) h⟩) h
 pe:=N4 (Q7h PySem.F.plainAttrs_str PySem.F.slot_str_join PySem.F.type_str_join W5b ho.pe (T0 he.pe X7 hs) ck dO cw hs cu) fun σ H Q ⟨τ,hR,h⟩=>⟨τ,hR,ho.mono τ _ _ (fun r i8 v H1 s1 ir=>by
  obtain⟨x,e1,h⟩:=i8;subst e1;cases (show v=.str x from ir);refine⟨rfl,τ,hR.mono s1,he.mono τ _ _ (fun r ⟨ds,ys,a1,a2,a3,a4⟩ u H2 s2 iu=>?_) h⟩;obtain⟨l,xs,rfl,sq,al⟩:=Q2b a1 iu;exact⟨x,l,xs,ds,ys,rfl,rfl,sq,al,a2,a3,a4 _ _ (s1.trans s2) Q9d⟩) h⟩
end
end TK
end
section
namespace HT
open PySem PyProof.Rows
section
variable {prog:Program}{w:World}{A:Around}{E:VS9}{s:Shared}
def getItem_tuple_whole {t sl:Addr}{items:Array Value}{vl vu:Value}{lo hi:Option Int}{Q:VS9}(ht:IsTup s.heap t items)(hs:s.heap.IsSliceOf sl vl vu .none)(pl:IsPart vl lo)(pu:IsPart vu hi)
  (hw:sIx items.size 0 lo=0/\sIx items.size items.size hi=items.size) (h:Q (.ref t) s):wpAny (model prog w) A (getItem (.ref t) (.ref sl)) Q E s:=by
 obtain⟨os,fJ,g6,g5⟩:=id hs;have mX:s.TypeIs (.ref sl) "slice":=⟨os,fJ,g6⟩
 unfold getItem
 try with_reducible refine bG ?_
 first | refine a8 (ao ?_) | skip
 refine a8 (wpAny_sequenceKey ht.typeIs (by decide) ?_);refine a8 (cA (name:=Str.ofString "__getitem__") ht.typeIs bN
  (cb bN ht.typeIs entry_tuple_getitem ?_ (args_tuple_getitem _ _)))
 show wpAny _ _ (Builtin.Tuple.tupleItemsOf (.ref t)>>=_) _ _ s;refine a8 (tupleItemsOf_ ht ?_);refine a8 (wpAny_typeOf mX ?_);rw [aG (by decide)];refine a8 (Y5r hs pl pu ?_);have lZ:((((sIx items.size 0 lo:Nat):Int)==0&&(1:Int)==1&&(sIx items.size items.size hi-sIx items.size 0 lo)==items.size)=true):=by
  rw [hw.1,hw.2];simp
 show wpAny _ _ (if (((sIx items.size 0 lo:Nat):Int)==0&&(1:Int)==1&&(sIx items.size items.size hi-sIx items.size 0 lo)==items.size)=true then _ else _) _ _ s;rw [aG lZ];show wpAny _ _ ((typeOf (.ref t)>>=fun y=>pure (y==Value.type "tuple"))>>=_) _ _ s;refine a8 (a8 (wpAny_typeOf ht.typeIs (ao ?_)));rw [aG (by decide)]
 first
  | exact a8 (wpAny_rule (ao ⟨_,rfl,ao h⟩))
  | exact a8 (wpAny_rule (a8 (ao (ao ⟨_,rfl,ao h⟩))))
end
end HT
namespace TK
open PySem PySem.Spec PyProof.Rows L2
def X2 {α:Type}(xs:List α)(lo hi:Option Int):List α:=(xs.drop (HT.sIx xs.length 0 lo)).take (HT.sIx xs.length xs.length hi-HT.sIx xs.length 0 lo)
def Z2q {K:Fg9}{H:Hp}{ds:List D}{xs:List V}(al:AllS K H ds xs)(lo hi:Option Int):AllS K H (X2 ds lo hi) (Q0c xs lo hi):=by
 unfold X2 Q0c;rw [<- al.length];exact(al.drop _).take _
section
variable {X:Cx}{H0:Hp}{a e o:Expr}{pos p2:Pos}{we:WE}{lo hi:Option Expr}
def V1n:L2.O3 X (fun x lo hi H Q=>∃a xs,x=.ref a/\H a=some (.tup xs)/\((¬ (HT.sIx xs.length 0 lo=0/\HT.sIx xs.length xs.length hi=xs.length))->∀p,H p=none->Q (.ref p) (upd H p (.tup (Q0c xs lo hi))))/\((HT.sIx xs.length 0 lo=0/\HT.sIx xs.length xs.length hi=xs.length)->Q (.ref a) H)):=by
 intro a9 s σ H x v vl vu lo hi sl Q I rx hs pl pu h;obtain⟨a,xs,rfl,hx,q1,q2⟩:=h
 by_cases hw:HT.sIx xs.length 0 lo=0/\HT.sIx xs.length xs.length hi=xs.length
 ·cases rx;obtain⟨aP,r,ht,hz⟩:=I.tuple (E1.of hx);have bD:aP.toArray.size=xs.length:=by rw [aH];exact r.length.symm
  exact⟨"tuple",_,bN.lookup,ht.typeIs,HT.getItem_tuple_whole ht hs pl pu (by rw [bD];exact hw) ⟨.ref a,H,I,rfl,q2 hw⟩⟩
 ·exact V1m a9 s σ H _ v vl vu lo hi sl Q I rx hs pl pu ⟨a,xs,rfl,E1.of hx,hw,q1 hw⟩
def Y9z {xs:List V}{lo hi:Option Int}(h:HT.sIx xs.length 0 lo=0/\HT.sIx xs.length xs.length hi=xs.length):Q0c xs lo hi=xs:=by
 unfold Q0c;rw [h.1,h.2];simp
abbrev WO:=A9->(Option Int->Prop)->Prop
def W3x (K:Fg9)(H0:Hp)(w:WO):TO:=fun σ H Q=>∃ τ,C4 K H0 τ σ H/\w τ fun o=>∀H',A5 H H'->Q o H'
structure DO (X:Cx)(H0:Hp)(e:Option Expr)(w:WO):Prop where
 mono:∀(τ:A9) (P Q:Option Int->Prop),(∀r,P r->Q r)->w τ P->w τ Q
 po:PO X e (W3x X.K H0 w)
def DO.none:DO X H0 none (fun _ Q=>Q none):=⟨fun _ _ _ f h=>f _ h,fun a9 s σ H Q I bR=>(by obtain⟨τ,hR,h⟩:=bR;exact W7n a9 s σ H Q I (h H (A5.refl H)))⟩
def Q2a:R->(Int->Prop)->Prop
 | .st (.int i),Q=>Q i
 | _,_=>False
def Q9a {r:R}{P:Int->Prop}(h:Q2a r P):∃i,r=.st (.int i)/\P i:=by
 unfold Q2a at h;split at h
 ·exact⟨_,rfl,h⟩
 ·exact h.elim
def DO.some (he:DE X H0 e we):DO X H0 (some e) (fun τ Q=>we τ fun r=>Q2a r fun i=>Q (some i)) where
 mono:=fun τ P Q f h=>he.mono τ _ _ (fun r h=>by obtain⟨i,rfl,q⟩:=Q9a h;exact f _ q) h
 po:=fun a9 s σ H Q I ⟨τ,hR,h⟩=>W7o he.pe a9 s σ H Q I ⟨τ,hR,he.mono τ _ _ (fun r h v H1 s1 ir=>by
  obtain⟨i,rfl,q⟩:=Q9a h;exact⟨i,ir,q H1 s1⟩) h⟩
def slD (x:R)(lo hi:Option Int)(Q:R->Prop):Prop:=match x with
 | .st (.tup ds)=>Q (.st (.tup (X2 ds lo hi)))
 | .st (.lst ds)=>Q (.nw (X2 ds lo hi))
 | .nw ds=>Q (.nw (X2 ds lo hi))
 | .bw ds=>Q (.nw (X2 ds lo hi))
 | .st (.str z)=>z.length<=sizeLine/\Q (.st (.str (Txt.slice z lo hi)))
 | _=>False
def V1j {x:R}{lo hi:Option Int}{P Q:R->Prop}(f:∀r,P r->Q r)(h:slD x lo hi P):slD x lo hi Q:=by
 unfold slD at h ⊢;split at h <;> first | exact f _ h | exact⟨h.1,f _ h.2⟩ | exact h
theorem V1l:L2.O3 X (fun x lo hi H Q=>∃z,x=.str z/\z.length<=sizeLine/\Q (.str (Txt.slice z lo hi)) H):=by
 intro a9 s σ H x v vl vu lo hi sl Q I rx hs pl pu h;obtain⟨z,rfl,hz,q⟩:=h;obtain⟨t,rfl⟩:=rx;refine⟨"str",_,PySem.F.slot_str_getitem.lookup,typeIs_str _ _ _,?_⟩;obtain⟨os,fJ,g6,g5⟩:=id hs;have fin:∀(t':Tok) (k:Nat),EP X a9 σ Q (.str (Txt.slice z lo hi) t') { s with toks:=k }:=fun t' k=>⟨.str _,H,I.tok k,⟨t',rfl⟩,q⟩
 cases pl with
 | none =>
  cases pu with
  | none=>exact wpAny_getItem_str_slice (l:=none) (u:=none) (st:=none) ⟨_,fJ,g6,g5⟩ rfl (post_val_or_str ⟨aS (Txt.slice_le z _ _) hz,fin⟩)
  | int j uj=>exact wpAny_getItem_str_slice (l:=none) (u:=some (j,uj)) (st:=none) ⟨_,fJ,g6,g5⟩ rfl (post_val_or_str ⟨aS (Txt.slice_le z _ _) hz,fin⟩)
 | int i ui =>
  cases pu with
  | none=>exact wpAny_getItem_str_slice (l:=some (i,ui)) (u:=none) (st:=none) ⟨_,fJ,g6,g5⟩ rfl (post_val_or_str ⟨aS (Txt.slice_le z _ _) hz,fin⟩)
  | int j uj=>exact wpAny_getItem_str_slice (l:=some (i,ui)) (u:=some (j,uj)) (st:=none) ⟨_,fJ,g6,g5⟩ rfl (post_val_or_str ⟨aS (Txt.slice_le z _ _) hz,fin⟩)
variable {wl wh:WO}
def DE.slice (he:DE X H0 e we)(hl:DO X H0 lo wl)(hh:DO X H0 hi wh):DE X H0 (.Subscript e (.Slice lo hi none p2) pos) (fun τ Q=>we τ fun x=>wl τ fun l=>wh τ fun u=>slD x l u Q) where
 mono:=fun τ P Q f h=>he.mono τ _ _ (fun x h=>hl.mono τ _ _ (fun l h=>hh.mono τ _ _ (fun u h=>V1j f h) h) h) h
 pe:=by
  refine N4 (W7b (V1n.or (V1k.or V1l)) he.pe hl.po hh.po) fun σ H Q ⟨τ,hR,h⟩=>⟨τ,hR,he.mono τ _ _ (fun x h v H1 s1 ir=>⟨τ,hR.mono s1,hl.mono τ _ _ (fun l h H2 s2=>⟨τ,hR.mono (s1.trans s2),hh.mono τ _ _ (fun u h H3 s3=>?_) h⟩) h⟩) h⟩
  have ir:=ir.mono (s2.trans s3);have jW:=s1.trans (s2.trans s3);have lists:∀ds,Q9 x=some ds->(∀r,r=R.nw (X2 ds l u)->∀v H',A5 H H'->E5 X.K H H' r v->Q v H')->rSlL X.K v l u H3 Q:=fun ds e1 q=>by
   obtain⟨p,xs,rfl,sq,al⟩:=Q2b e1 ir;exact⟨p,xs,rfl,sq,fun p' hp=>q _ rfl _ _ (jW.trans (G1 hp _)) ⟨p',_,rfl,jW.free hp,upd_same,(Z2q al l u).mono (Kp.of (G1 hp _)) _ _⟩⟩
  unfold slD at h;split at h
  ·have ir:A1 X.K H3 (.tup _) v:=ir;unfold A1 at ir;obtain⟨p,xs,rfl,sq,al⟩:=ir;refine .inl ⟨p,xs,rfl,sq,fun _ p' hp=>h _ _ (jW.trans (G1 hp _)) (A1.s_tup (K:=X.K) upd_same ((Z2q al l u).mono (Kp.of (G1 hp _)) _ _)),fun hw=>h _ _ jW (A1.s_tup (K:=X.K) (H:=H3) sq ?_)⟩;have:=Z2q al l u;rw [Y9z hw]at this;exact this
  ·exact .inr (.inl (lists _ rfl fun r e1=>by subst e1;exact h))
  ·exact .inr (.inl (lists _ rfl fun r e1=>by subst e1;exact h))
  ·exact .inr (.inl (lists _ rfl fun r e1=>by subst e1;exact h))
  ·cases (show v=.str _ from ir);exact .inr (.inr ⟨_,rfl,h.1,h.2 _ _ jW Q9d⟩)
  ·exact h.elim
def DE.neg (he:DE X H0 e we):DE X H0 (.UnaryOp .USub e pos) (fun τ Q=>we τ fun r=>Q2a r fun i=>Q (.st (.int (-i)))) where
 mono:=fun τ P Q f h=>he.mono τ _ _ (fun r h=>by obtain⟨i,rfl,q⟩:=Q9a h;exact f _ q) h
 pe:=N4 (W7e V3d he.pe) fun σ H Q ⟨τ,hR,h⟩=>⟨τ,hR,he.mono τ _ _ (fun r h v H1 s1 ir=>by
  obtain⟨i,rfl,q⟩:=Q9a h;exact⟨i,ir,q _ _ s1 U5⟩) h⟩
end
end TK
end
section
namespace TK
open PySem PySem.Spec PyProof.Rows L2
section
variable {X:Cx}{H0:Hp}{e:Expr}{pos bC p:Pos}{we:WE}{x:Str}
def DE.gstr {z:Str}(hg:Gl X x)(hm:∃t,X.mg x=some (.str z t))(hd:(x==("__debug__":Str))=false:=by decide):DE X H0 (.Name x pos) (wC (.str z)):=by
 obtain⟨t,hm⟩:=hm;exact DE.con (Q9y (v:=.str z) hg hm ⟨t,rfl⟩ hd) fun _ _=>A1.s_str
def V6 (i:Nat)(g:R->R->(R->Prop)->Prop)(we:WE):WS:=fun E τ=>∃s,τ[i]?=some (some s)/\we τ fun y=>g (rdS s) y fun r=>T3 r fun s'=>E.nx (τ.set i (some s'))
def DS.aug {i:Nat}{op:Operator}{g:R->R->(R->Prop)->Prop}(ho:OpD X (inplaceOp op) g)(mg:V7 g)(he:DE X H0 e we)(hN:X.N.Nodup)(hi:X.N[i]?=some x)(hx:Loc X.env.scope x)
  (hf:X.fn x=true\/X.env.scope.names.lookup x=some .local:=by first | exact .inl rfl | exact .inr rfl | assumption):DS X H0 (.AugAssign (.Name x bC) op e pos) (V6 i g we) where
 mono:=fun τ E F le cp=>(by obtain⟨s,e1,h⟩:=cp;exact⟨s,e1,he.mono τ _ _ (fun y h=>mg _ _ _ _ (fun r h=>Z5w (fun s h=>le.nx _ h) h) h) h⟩)
 ps:=psW (W7s hN hi hx he.pe ho hf) fun D σ H cQ=>by
  obtain⟨τ,hR,s,e1,h⟩:=cQ;obtain⟨v,hv,q⟩:=hR.here i s e1;refine⟨v,hv,τ,hR,he.mono τ _ _ (fun y h u H1 s1 iu=>?_) h⟩;have iv:IsV X.K H1 (rdS s) v:=(O3.rd (Hs:=fun _=>none) hR.same q).mono s1;refine⟨rdS s,y,iv,iu.v,mg _ _ _ _ (fun r h z H2 s2 iz=>?_) h⟩;obtain⟨s',p,de⟩:=(hR.mono s1).store (i:=i) s2 iz h;exact p _ _ (Kp.of (s1.trans s2)) de
def Q9u:OpD X (inplaceOp .Add) (G7 NoC fun i j=>i+j):=OpD.ints0 W2k
def Y3f:OpD X (inplaceOp .Sub) (G7 NoC fun i j=>i-j):=OpD.ints0 W2l
def blkB (sc:Scope)(N0:List Str)(scope:Scope)(N:List Str)(nt:Nat)(cap:List Nat):Bool :=
 decide (scope.kind=.function)&&scope.names.all (fun y=>y.2 != .cell)&&scope.names.all (fun y=>y.2 != .local||scope.names.lookup y.1==some .local) &&
 scope.names.all (fun y=>y.2 != .free||scope.names.lookup y.1==some .free)&&scope.names.all (fun y=>y.2 != .free||sc.names.lookup y.1==some .cell||sc.names.lookup y.1==some .free) &&
 decide (N.length=nt+cap.length)&&(List.range cap.length).all (fun j=>match cap[j]?,N[nt+j]? with | some i,some x=>N0[i]?==some x&&scope.names.contains (x,NameKind.free) | _,_=>false)
def R5 {sc:Scope}{N0:List Str}{scope:Scope}{N:List Str}{nt:Nat}{cap:List Nat}(h1:X.env.scope=sc)(h2:X.N=N0)(h:blkB sc N0 scope N nt cap=true):Blk X scope N nt cap:=by
 subst h1 h2;unfold blkB at h;simp only [cj]at h;obtain⟨⟨⟨⟨⟨⟨a1,a2⟩,a3⟩,a4⟩,a5⟩,a6⟩,a7⟩:=h;refine⟨dh a1,fun y hy=>?_,fun y hy e=>?_,fun y hy e=>?_,fun y hy e=>?_,dh a6,fun j i x hj hx=>?_⟩
 ·simpa using ci.mp a2 y hy
 ·have:=ci.mp a3 y hy;rw [e]at this;simpa using this
 ·have:=ci.mp a4 y hy;rw [e]at this;simpa using this
 ·have:=ci.mp a5 y hy;rw [e]at this;have this:X.env.scope.names.lookup y.1=some .cell\/X.env.scope.names.lookup y.1=some .free:=by simpa using this
  exact this
 ·have bU:j<cap.length:=by
   rcases aX j cap.length with h | h
   ·exact h
   ·rw [aw.mpr h]at hj;cases hj
  have:=ci.mp a7 j (aK.mpr bU);rw [hj,hx]at this;simpa using this
def Q0t {A:Around}{k:Nat}(hr:D4 k A):A.units+60<cLine:=by have:=hr.units;omega
def D4.hu1 {A:Around}{k:Nat}(hr:D4 k A):A.units+1<cLine:=by have:=hr.units;omega
def W3k (T:String)(h:T∈["bool","int","str","tuple","list"]):∀K t,t∈["NoneType","bool","int","str","tuple","list"]->PySem.W.kitOne K (.type t) (.type T)=some (Q4z T t):=by
 intro K t ht;simp only [ar,ba,ce]at h ht;rcases h with rfl | rfl | rfl | rfl | rfl <;> rcases ht with rfl | rfl | rfl | rfl | rfl | rfl <;> rfl
end
end TK
end
section
namespace TK
open PySem PySem.Spec PyProof.Rows L2
def B7 (we:WE):WE:=fun τ Q=>we τ fun r=>fzR r fun d=>Q (.st d)
def wB (t:WT):WE:=fun τ Q=>t τ fun k=>Q (.st (.bl k))
def Y2 (we:WE):WT:=fun τ Q=>we τ fun r=>Q3g r Q
def Q9p:WO:=fun _ Q=>Q none
def Q9q (we:WE):WO:=fun τ Q=>we τ fun r=>Q2a r fun i=>Q (some i)
def wSl (we:WE)(wl wh:WO):WE:=fun τ Q=>we τ fun x=>wl τ fun l=>wh τ fun u=>slD x l u Q
def Y1 (we:WE):WE:=fun τ Q=>we τ fun r=>Q2a r fun i=>Q (.st (.int (-i)))
def W8:WT:=fun _ Q=>Q true
def W1 (we:WE):WI:=fun τ Q=>we τ fun r=>∃ds,r=.st (.lst ds)/\Q ds τ
def iOwn (i:Nat):WI:=fun τ Q=>∃ds,τ[i]?=some (some (.own ds))/\Q ds (τ.set i (some (.dat (.lst ds))))
def Q6x (we:WE):WI:=fun τ Q=>we τ fun r=>∃ds,r=.st (.tup ds)/\Q ds τ
def Q1z (wr:WA):WI:=fun τ Q=>wr τ fun rs=>∃j:Int,rs=[.st (.int j)]/\-(2 ^ 62)<=j/\j<2 ^ 62/\Q (O9 0 j.toNat) τ
def Q2w (we:WE):WIE:=fun τ Q=>we τ fun r=>∃ds,Q9 r=some ds/\Q ds
def Q0v (we:WE):WIE:=fun τ Q=>we τ fun r=>∃ds,r=.st (.tup ds)/\Q ds
def Q7a (wr:WA):WIE:=fun τ Q=>wr τ fun rs=>∃j:Int,rs=[.st (.int j)]/\-(2 ^ 62)<=j/\j<2 ^ 62/\Q (O9 0 j.toNat)
def Z3m (we:WE):WIE:=fun τ Q=>we τ fun r=>∃x,r=.st (.str x)/\Q (F5 x)
def K4 (wi:WI)(g:WG)(wb:WS):WS:=fun E τ=>wi τ fun ds τ'=>D1 g wb E ds τ'
def Q7u (we:WE)(g:WG):WS:=fun E τ=>we τ fun r=>∃d,r=.st d/\g d τ E.nx
def Z6r (i:Nat)(g:WG):WS:=fun E τ=>∃ds d,τ[i]?=some (some (.own (ds++[d])))/\g d (τ.set i (some (.own ds))) E.nx
def Q6d (i:Nat):WS:=fun E τ=>∃s,τ[i]?=some (some s)/\Q2e s E.rt
structure Df (K:Fg9)(mg:Str->Option Value)(name:Str)(st:Stmt)(ps:List Str)(f:Addr)(fd:FuncData):Prop where
 F:N7 K name name st f fd
 b:Q0 K fd ps []
 k:PySem.W.keepIn K (.ref f)=true
 m:mg name=some (.ref f)
abbrev FnD (P:Program)(w:World)(K:Fg9)(mg:Str->Option Value)(base:Heap)(k:Nat)(f:Addr)(fd:FuncData)(ps:List Str)(sp:D9):Prop:=M9 P w K mg base G2 k f fd ps (Q2x K ps.length sp)
def P3 (r:R):F6:={ nx:=fun _=>r=.st .non,rt:=fun r'=>r'=r,bk:=fun _=>False,ct:=fun _=>False }
section
variable {P:Program}{w:World}{K:Fg9}{mg:Str->Option Value}{base:Heap}
def Df.ok {x:Str}{st:Stmt}{f:Addr}{fd:FuncData}{N ps:List Str}{k:Nat}{sp:D9}{ws:WS}(F:Df K mg x st ps f fd)(S:G3 N ps (B6 st))
  (bF:∀(cdv:Value) (A:Around) (outer:List Env) (s:Shared) (H:Hp) (E:XK),D4 k (A.deeper (envOfC x (B6 st) s.heap.objs.size f cdv))->A3 (K9 G2 P w K mg base N x (B6 st) f cdv A outer s H E).nox H (K1 st) ws)
  (hr:∀rs r,rs.length=ps.length->sp rs r->ws (P3 r) (E9 N rs)):FnD P w K mg base (k+1) f fd ps sp :=
 N7.okD F.F S fun cdv A outer s H E kn=>⟨ws,bF cdv A outer s H E kn,hr⟩
end
section
variable {τ:A9}{E:F6}{Q:R->Prop}{QB:Bool->Prop}{wa wb we:WE}{wr:WA}{t u:WT}{ws wt:WS}{i j:Int}{n:Nat}{x y:Str}{ds es:List D}{d e:D}
@[simp] theorem C8:A7 ws wt E τ=ws { E with nx:=wt E } τ:=rfl
@[simp] theorem V4:M7 E τ=E.nx τ:=rfl
@[simp] theorem W6:N6 t ws wt E τ=t τ fun k=>if k=true then ws E τ else wt E τ:=rfl
@[simp] theorem Q6:J3 we E τ=we τ fun r=>Q5n r E.rt:=rfl
@[simp] theorem Z5i:Q6d n E τ=∃s,τ[n]?=some (some s)/\Q2e s E.rt:=rfl
@[simp] theorem F8:C2 n we E τ=we τ fun r=>T3 r fun s=>E.nx (τ.set n (some s)):=rfl
@[simp] theorem Q5p {g:R->R->(R->Prop)->Prop}:V6 n g we E τ=∃s,τ[n]?=some (some s)/\we τ fun y=>g (rdS s) y fun r=>T3 r fun s'=>E.nx (τ.set n (some s')):=rfl
@[simp] theorem Z5a {g:WG}:Q7u we g E τ=we τ fun r=>∃d,r=.st d/\g d τ E.nx:=rfl
@[simp] theorem V0v {g:WG}:Z6r n g E τ=∃ds d,τ[n]?=some (some (.own (ds++[d])))/\g d (τ.set n (some (.own ds))) E.nx:=rfl
@[simp] theorem Q2h:P2 n we E τ=∃ds,τ[n]?=some (some (.own ds))/\we τ fun r=>∃d,r=.st d/\ds.length<sizeLine/\E.nx (τ.set n (some (.own (ds++[d])))):=rfl
@[simp] theorem S1 {wi:WI}{g:WG}:K4 wi g ws E τ=wi τ fun ds τ'=>D1 g ws E ds τ':=rfl
@[simp] theorem B0:wV n τ Q=∃s,τ[n]?=some (some s)/\Q (rdS s):=rfl
@[simp] theorem D8:wC d τ Q=Q (.st d):=rfl
@[simp] theorem D3 {α:Type}{g:R->R->(α->Prop)->Prop}{Q:α->Prop}:A2 g wa wb τ Q=wa τ fun x=>wb τ fun y=>g x y Q:=rfl
@[simp] theorem s_b:wB t τ Q=t τ fun k=>Q (.st (.bl k)):=rfl
@[simp] theorem Q1h:Y2 we τ QB=we τ fun r=>Q3g r QB:=rfl
@[simp] theorem Y4e:Q4k t u τ QB=t τ fun k=>if k=true then u τ QB else QB false:=rfl
@[simp] theorem s_or:wOr t u τ QB=t τ fun k=>if k=true then QB true else u τ QB:=rfl
@[simp] theorem Y4l:Z0w t τ QB=t τ fun k=>QB (!k):=rfl
@[simp] theorem Z4z:Q3h wa wb τ Q=wa τ fun r=>blR r fun k=>if k=true then wb τ Q else Q (.st (.bl false)):=rfl
@[simp] theorem Y4i:wIf t wa wb τ Q=t τ fun k=>if k=true then wa τ Q else wb τ Q:=rfl
@[simp] theorem C6 {Q:List R->Prop}:A6 τ Q=Q []:=rfl
@[simp] theorem D2 {Q:List R->Prop}:A4 we wr τ Q=we τ fun r=>wr τ fun rs=>Q (r::rs):=rfl
@[simp] theorem s_tup:Q3m wr τ Q=wr τ fun rs=>∃ds,Q0g rs=some ds/\ds.length<=sizeLine/\Q (.st (.tup ds)):=rfl
@[simp] theorem s_lst:M3 wr τ Q=wr τ fun rs=>∃ds,Q0g rs=some ds/\ds.length<=sizeLine/\Q (.nw ds):=rfl
@[simp] theorem E8:B7 we τ Q=we τ fun r=>fzR r fun d=>Q (.st d):=rfl
@[simp] theorem N5 {g:List R->(R->Prop)->Prop}:E4 g wr τ Q=wr τ fun rs=>g rs Q:=rfl
@[simp] theorem R1 {sp:D9}:J8 sp wr τ Q=wr τ fun rs=>rs.all N1=true/\∃r,sp (rs.map J9) r/\Q r:=rfl
@[simp] theorem V0n {T:String}:Z0u T we τ Q=we τ fun r=>∃t,Q7t r=some t/\Q (.st (.bl (Q4z T t))):=rfl
@[simp] theorem s_sl {wl wh:WO}:wSl we wl wh τ Q=we τ fun x=>wl τ fun l=>wh τ fun u=>slD x l u Q:=rfl
@[simp] theorem s_oN {Q:Option Int->Prop}:Q9p τ Q=Q none:=rfl
@[simp] theorem s_oS {Q:Option Int->Prop}:Q9q we τ Q=we τ fun r=>Q2a r fun i=>Q (some i):=rfl
@[simp] theorem Q5r:Y1 we τ Q=we τ fun r=>Q2a r fun i=>Q (.st (.int (-i))):=rfl
@[simp] theorem X8 {cap:List Nat}{wi:WIE}{g:WG}:P8 n cap wi g t we τ Q=wi τ fun ds=>ds.length<=sizeLine/\O4 g t we ds (Q4 n cap τ) fun es=>Q (.nw es):=rfl
@[simp] theorem V0p:Z6o wa we τ Q=wa τ fun r1=>∃x,r1=.st (.str x)/\we τ fun r=>∃ds ys,Q9 r=some ds/\Q2j ds=some ys/\(ys.map (·.length)).sum+ys.length*x.length<=16777216/\Q (.st (.str (Txt.join x ys))):=rfl
@[simp] theorem M6 {Q:A9->Prop}:B5 n d τ Q=Q (τ.set n (some (.dat d))):=rfl
@[simp] theorem Q3c {Q:A9->Prop}:gNl ds τ Q=(ds=[]/\Q τ):=rfl
@[simp] theorem Q3b {g:WG}{gs:WGs}{Q:A9->Prop}:J5 g gs ds τ Q=∃d r,ds=d::r/\g d τ fun τ'=>gs r τ' Q:=rfl
@[simp] theorem Q3d {gs:WGs}{Q:A9->Prop}:gTp n gs d τ Q=∃ds,d=.tup ds/\ds.length=n/\gs ds τ Q:=rfl
@[simp] theorem Q5q {Q:List D->A9->Prop}:W1 we τ Q=we τ fun r=>∃ds,r=.st (.lst ds)/\Q ds τ:=rfl
@[simp] theorem V0m {Q:List D->A9->Prop}:Q6x we τ Q=we τ fun r=>∃ds,r=.st (.tup ds)/\Q ds τ:=rfl
@[simp] theorem Z5d {Q:List D->A9->Prop}:Q1z wr τ Q=wr τ fun rs=>∃j:Int,rs=[.st (.int j)]/\-(2 ^ 62)<=j/\j<2 ^ 62/\Q (O9 0 j.toNat) τ:=rfl
@[simp] theorem Z0b {Q:List D->Prop}:Q2w we τ Q=we τ fun r=>∃ds,Q9 r=some ds/\Q ds:=rfl
@[simp] theorem V0o {Q:List D->Prop}:Z3m we τ Q=we τ fun r=>∃x,r=.st (.str x)/\Q (F5 x):=rfl
@[simp] theorem Z5f {Q:List D->Prop}:Q7a wr τ Q=wr τ fun rs=>∃j:Int,rs=[.st (.int j)]/\-(2 ^ 62)<=j/\j<2 ^ 62/\Q (O9 0 j.toNat):=rfl
@[simp] theorem Q5:rdS (.dat d)=.st d:=rfl
@[simp] theorem V3:rdS (.own ds)=.bw ds:=rfl
@[simp] theorem W5o:rdS (.bor ds)=.bw ds:=rfl
@[simp] theorem o_sl1:R4 (.st d)=.dat d:=rfl
@[simp] theorem o_sl2:R4 (.bw ds)=.bor ds:=rfl
@[simp] theorem W5p:Q5n (.st d) Q=Q (.st d):=rfl
@[simp] theorem L6 {P:Sl->Prop}:T3 (.st d) P=P (.dat d):=rfl
@[simp] theorem O8 {P:Sl->Prop}:T3 (.nw ds) P=P (.own ds):=rfl
@[simp] theorem Q9r {P:D->Prop}:fzR (.st d) P=P d:=rfl
@[simp] theorem Q5i {P:D->Prop}:fzR (.nw ds) P=P (.lst ds):=rfl
@[simp] theorem Z4f {b:Bool}:blR (.st (.bl b)) QB=QB b:=rfl
@[simp] theorem Q5j {P:Int->Prop}:Q2a (.st (.int i)) P=P i:=rfl
@[simp] theorem o_d1:R.d (.st d)=some d:=rfl
@[simp] theorem o_d2:R.d (.nw ds)=some (.lst ds):=rfl
@[simp] theorem o_d3:R.d (.bw ds)=some (.lst ds):=rfl
@[simp] theorem o_nrm1:J9 (.st d)=.st d:=rfl
@[simp] theorem o_nrm2:J9 (.nw ds)=.bw ds:=rfl
@[simp] theorem o_nrm3:J9 (.bw ds)=.bw ds:=rfl
@[simp] theorem o_arg1:N1 (.st d)=true:=rfl
@[simp] theorem o_arg2:N1 (.nw ds)=true:=rfl
@[simp] theorem o_arg3:N1 (.bw ds)=true:=rfl
@[simp] theorem o_sa0:Q0g []=some []:=rfl
@[simp] theorem o_sa1 {rs:List R}:Q0g (.st d::rs)=(Q0g rs).map (d::·):=rfl
@[simp] theorem o_ty1 {b:Bool}:Q7t (.st (.bl b))=some "bool":=rfl
@[simp] theorem Q1c:G5 (.st (.int i)) (.st (.int j)) Q=Q (.st (.int (i+j))):=rfl
@[simp] theorem Y3b:G5 (.st (.str x)) (.st (.str y)) Q=(x.length+y.length<=sizeLine/\Q (.st (.str (x++y)))):=rfl
@[simp] theorem W5l:G5 (.bw ds) (.nw es) Q=(ds.length+es.length<=sizeLine/\Q (.nw (ds++es))):=rfl
@[simp] theorem Z4j:S8 (.st (.int i)) (.st (.int j)) Q=(Q2l i j/\Q (.st (.int (i*j)))):=rfl
@[simp] theorem Q7f {C:Int->Int->Prop}{f:Int->Int->Int}:TK.G7 C f (.st (.int i)) (.st (.int j)) Q=(C i j/\Q (.st (.int (f i j)))):=rfl
@[simp] theorem Q2d {f:Int->Int->Bool}:L9 f (.st (.int i)) (.st (.int j)) QB=QB (f i j):=rfl
@[simp] theorem Z4g:B1 (.st (.lst ds)) (.st (.int i)) Q=∃d,K8 ds i=some d/\Q (.st d):=rfl
@[simp] theorem Q1d:B1 (.bw ds) (.st (.int i)) Q=∃d,K8 ds i=some d/\Q (.st d):=rfl
@[simp] theorem W5n:B1 (.st (.tup ds)) (.st (.int i)) Q=∃d,K8 ds i=some d/\Q (.st d):=rfl
@[simp] theorem Y3c:F4 [.st (.lst ds)] Q=Q (.st (.int ds.length)):=rfl
@[simp] theorem Z4h:F4 [.st (.tup ds)] Q=Q (.st (.int ds.length)):=rfl
@[simp] theorem o_len3:F4 [.nw ds] Q=Q (.st (.int ds.length)):=rfl
@[simp] theorem Q1e:F4 [.bw ds] Q=Q (.st (.int ds.length)):=rfl
@[simp] theorem Z4i:F4 [.st (.str x)] Q=(x.length<=sizeLine/\Q (.st (.int x.length))):=rfl
@[simp] theorem o_eq {r1 r2:R}{b:Bool}:P6 n b r1 r2 QB=∃d e,r1.d=some d/\r2.d=some e/\d.depth<=n/\QB (if b then !D.eq d e else D.eq d e):=rfl
@[simp] theorem W5q {lo hi:Option Int}:slD (.st (.tup ds)) lo hi Q=Q (.st (.tup (X2 ds lo hi))):=rfl
@[simp] theorem Q5k {b:Bool}:Q3g (.st (.bl b)) QB=QB b:=rfl
@[simp] theorem o_e1:D.eq (.int i) (.int j)=(i==j):=by simp [D.eq]
@[simp] theorem o_e2:D.eq (.str x) (.str y)=(x==y):=by simp [D.eq]
@[simp] theorem o_e3 {b c:Bool}:D.eq (.bl b) (.bl c)=(b==c):=by simp [D.eq]
@[simp] theorem o_e4:D.eq (.lst ds) (.lst es)=D.eqs ds es:=by simp [D.eq]
@[simp] theorem o_e5:D.eq (.tup ds) (.tup es)=D.eqs ds es:=by simp [D.eq]
@[simp] theorem o_eN:D.eqs ds []=ds.isEmpty:=by cases ds <;> simp [D.eqs]
@[simp] theorem W5m {r r':R}:(P3 r).rt r'=(r'=r):=rfl
@[simp] theorem o_endn {r:R}:(P3 r).nx τ=(r=.st .non):=rfl
@[simp] theorem o_dep0:D.depth (.int i)=0:=by simp [D.depth]
@[simp] theorem o_dep1:D.depth (.str x)=0:=by simp [D.depth]
@[simp] theorem o_zl:(0:Nat)<=sizeLine:=bt _
@[simp] theorem V4f {N:List Str}{rs:List R}:E9 N rs=rs.map (fun r=>some (R4 r))++List.replicate (N.length-rs.length) none:=rfl
end
section
variable {X:Cx}{a9:Pn9}{σ:St}{H:Hp}{s:Shared}
open PySem.SeqAt
def W8u {d1 d2:D}{u1 u2:Value}{A:Around}(h1:Vw X H s d1 u1)(h2:Vw X H s d2 u2)(hu:A.units<cLine)(hb:¬ Q3r d1 d2):RcNeAt A s u1 u2 (!D.eq d1 d2):=by
 cases h1 <;> cases h2 <;> first | exact absurd (.inl ⟨_,_,rfl,rfl⟩) hb | exact absurd (.inr ⟨_,_,rfl,rfl⟩) hb | (unfold D.eq;(try simp only [Bool.not_true,Bool.not_false]);(with_reducible first | exact RcNeAt.none_none | exact RcNeAt.none_bool _ | exact RcNeAt.none_int _ _ | exact RcNeAt.none_str _ _ | exact RcNeAt.none_tuple (by assumption) hu | exact RcNeAt.none_list (by assumption) hu | exact RcNeAt.bool_none _ | exact RcNeAt.bool_bool _ _ | exact RcNeAt.bool_int _ _ _ | exact RcNeAt.bool_str _ _ _ | exact RcNeAt.bool_tuple _ (by assumption) hu | exact RcNeAt.bool_list _ (by assumption) hu | exact RcNeAt.int_none _ _ | exact RcNeAt.int_bool _ _ _ | exact RcNeAt.int_int _ _ _ _ | exact RcNeAt.int_str _ _ _ _ | exact RcNeAt.int_tuple _ _ (by assumption) hu | exact RcNeAt.int_list _ _ (by assumption) hu | exact RcNeAt.str_none _ _ | exact RcNeAt.str_bool _ _ _ | exact RcNeAt.str_int _ _ _ _ | exact RcNeAt.str_str _ _ _ _ | exact RcNeAt.str_tuple _ _ (by assumption) hu | exact RcNeAt.str_list _ _ (by assumption) hu | exact RcNeAt.tuple_none (by assumption) hu | exact RcNeAt.tuple_bool _ (by assumption) hu | exact RcNeAt.tuple_int _ _ (by assumption) hu | exact RcNeAt.tuple_str _ _ (by assumption) hu | exact RcNeAt.tuple_list (by assumption) (by assumption) hu | exact RcNeAt.list_none (by assumption) hu | exact RcNeAt.list_bool _ (by assumption) hu | exact RcNeAt.list_int _ _ (by assumption) hu | exact RcNeAt.list_str _ _ (by assumption) hu | exact RcNeAt.list_tuple (by assumption) (by assumption) hu))
def W8t (I:A0 X a9 σ H s)(n:Nat)(d1 d2:D)(v1 v2:V)(u1 u2:Value)(A:Around)(hd:d1.depth<=n)(h1:IsW X.K H d1 v1)(h2:IsW X.K H d2 v2)(r1:C1 v1 u1)(r2:C1 v2 u2)(hu:A.units+n+1<cLine):RcNeAt A s u1 u2 (!D.eq d1 d2):=by
 have w1:=Q6a I h1 r1;have w2:=Q6a I h2 r2
 by_cases hb:Q3r d1 d2
 ·obtain⟨p,q,rfl,rfl⟩ | ⟨p,q,rfl,rfl⟩:=hb
  ·cases w1;cases w2;rename_i a1 lC fu gx hV fm a2 lB cW fG gy ef;have hd:D.depths p+1<=n:=by unfold D.depth at hd;exact hd
   have l1:fu.toArray.size=p.length:=by have:=fm.length;have:=gx.length;simp;omega
   have l2:cW.toArray.size=q.length:=by have:=ef.length;have:=fG.length;simp;omega
   have k:=RcNeAt.tuples (A:=A) (s:=s) (e:=fun i=>match p[i]?,q[i]? with | some x,some y=>D.eq x y | _,_=>true) hV gy (by omega) (fun j jd fK=>by
    obtain⟨d1,v1,e1,i1,w1⟩:=Q2q fm gx jd;obtain⟨d2,v2,e2,i2,w2⟩:=Q2q ef fG fK;simp only [e1,e2];exact Q6u I (fun A=>Q9z I n d1 d2 v1 v2 _ _ A (by have:=D.depths_get e1;omega) i1.w i2.w w1 w2) i1 i2 w1 w2 (by simp only [fO];omega))
   rw [l1,l2]at k;unfold D.eq;rw [D.eqs_range];exact k
  ·cases w1;cases w2;rename_i a1 lC fu gx hV fm a2 lB cW fG gy ef;have hd:D.depths p+1<=n:=by unfold D.depth at hd;exact hd
   have l1:fu.toArray.size=p.length:=by have:=fm.length;have:=gx.length;simp;omega
   have l2:cW.toArray.size=q.length:=by have:=ef.length;have:=fG.length;simp;omega
   have kk:RcNeAt A s (.ref a1) (.ref a2) (!D.eqs p q):=by
    rw [D.eqs_range]
    by_cases bD:p.length=q.length
    ·have k:=RcNeAt.lists (A:=A) (s:=s) (e:=fun i=>match p[i]?,q[i]? with | some x,some y=>D.eq x y | _,_=>true) hV gy (by omega) (by omega) (fun j jd fK=>by
      obtain⟨d1,v1,e1,i1,w1⟩:=Q2q fm gx jd;obtain⟨d2,v2,e2,i2,w2⟩:=Q2q ef fG fK;simp only [e1,e2];exact Q6u I (fun A=>Q9z I n d1 d2 v1 v2 _ _ A (by have:=D.depths_get e1;omega) i1.w i2.w w1 w2) i1 i2 w1 w2 (by simp only [fO];omega))
     rw [l1]at k;rw [<- bD,Nat.min_self,beq_self_eq_true,Bool.and_true];exact k
    ·rw [cL.mpr bD,Bool.and_false];exact RcNeAt.lists_lengths hV gy (by rw [l1,l2];simpa using bD) (by omega)
   unfold D.eq;exact kk
 ·exact W8u w1 w2 (by omega) hb
def Y9p {n:Nat}(hu:X.A.units+n+1<cLine):T8 X .NotEq (P6 n true):=by
 intro a9 s σ H x y v u Q I rx ry ⟨r1,r2,h1,h2,d,e,e1,e2,hd,q⟩;exact W8t I n d e x y v u X.A hd (h1.w e1) (h2.w e2) rx ry hu _ _ _ _ ⟨.bl _,H,I,rfl,q⟩
def Z3e {A:Around}{k:Nat}(hr:D4 k A):A.units+59+1<cLine:=by have:=hr.units;omega
end
section
variable {X:Cx}{H0:Hp}{a b c e o tg:Expr}{apos bp:Pos}{we:WE}
def Z9 (x y:R)(Q:R->Prop):Prop:=∃i j,Q9 x=some i/\Q9 y=some j/\i.length+j.length<=sizeLine/\Q (.nw (i++j))
def Z1v:V7 Z9:=fun x y P Q g dG=>(by obtain⟨i,j,a,b,c,q⟩:=dG;exact⟨i,j,a,b,c,g _ q⟩)
def Y2i {K:Fg9}{H:Hp}:∀{r:R}{ds:List D}{v:V},Q9 r=some ds->IsV K H r v->∃a xs,v=.ref a/\D7 K H a xs/\AllS K H ds xs:=fun {r ds v} e h=>Q2b (H0:=fun _=>none) e h
def Z4l:OpD X (binaryOp .Add) Z9:=by
 intro a9 s σ H x y v u Q I rx ry ⟨r1,r2,h1,h2,i,j,e1,e2,hz,q⟩;obtain⟨l,xs,rfl,sq,al⟩:=Y2i e1 h1;obtain⟨b,ys,rfl,px,im⟩:=Y2i e2 h2;cases rx;cases ry;obtain⟨aP,rv,pl,_⟩:=I.list sq;obtain⟨cW,fG,gy,_⟩:=I.list px;have la:=al.length;have lb:=im.length;have lr:=rv.length;have rN:=fG.length;obtain⟨⟨cls,dd,data,sl⟩,ho,hc,n,hd⟩:=id pl.isList;obtain⟨⟨kN,jK,data2,gL⟩,gh,fM,n2,gO⟩:=id gy.isList;simp only at hc hd fM gO;subst hc hd fM gO;have e:aP.toArray++cW.toArray=(aP++cW).toArray:=by simp
 refine concat_meets ⟨_,ho,rfl⟩ ⟨_,gh,rfl⟩ noFill_list_add seq_list_add PySem.F.slot_list_add PySem.F.entry_list_add (PySem.F.args_list_add_2 _ _) (list_addW l b aP.toArray cW.toArray n n2 dd jK sl gL (by simp;omega)) ⟨ho,gh,?_⟩;rw [e];have fr:=I.fresh;exact⟨.ref _,_,I.lnew (t':=s.toks) (rv.append fG) (by rw [ai];omega),rfl,q _ _ (G1 fr _) ⟨_,xs++ys,rfl,fr,upd_same,(al.mono (Kp.of (G1 fr _)) _ _).append (im.mono (Kp.of (G1 fr _)) _ _)⟩⟩
def Q6y (x y:Str):Option Nat:=(Builtin.Str.occurrences x y 0 x.length 1).head?
def Q3j (wo we:WE):WE:=fun τ Q=>wo τ fun r1=>∃x,r1=.st (.str x)/\we τ fun r=>∃y i,r=.st (.str y)/\Q6y x y=some i/\Q (.st (.int (i:Int)))
theorem W5a:MtR X "str.index" (fun x vs H Q=>∃z y i,x=.str z/\vs=[.str y]/\Q6y z y=some i/\Q (.int (i:Int)) H):=by
 intro a9 s σ H x vs v us Q I rx rv ⟨z,y,i,e1,e2,hi,q⟩;subst e1 e2;obtain⟨t,rfl⟩:=rx;obtain⟨u,rfl,t',rfl⟩:=T4 rv;unfold Q6y at hi;cases ho:Builtin.Str.occurrences z y 0 z.length 1 with
 | nil=>rw [ho]at hi;cases hi
 | cons j rest =>
  rw [ho]at hi;have hi:some j=some i:=hi;cases hi;exact PySem.SC.index ho ⟨.int _,H,I.tok _,⟨_,rfl⟩,q⟩
def DE.index {wo:WE}(ho:DE X H0 o wo)(he:DE X H0 e we)(ck:attributeBase o "index" X.env (eval o X.env)=eval o X.env:=by rfl)
  (dO:((backTo bp (starEach [e] X.env)).all (fun x=>!x.1)&&(backToKw bp (keywordEach [] X.env)).all (fun x=>x.1.isSome)&&decide ([e].length+([]:List Keyword).length+(if ([]:List Keyword).isEmpty then 0 else 1)<30))=true:=by rfl)
  (cw:(apos.endLine==bp.line)=true:=by rfl) (hs:starEach [e] X.env=(false,eval e X.env)::starEach [] X.env:=by rfl) (cu:(backTo bp (starEach [] X.env)).any (·.1)=false:=by rfl) :
  DE X H0 (.Call (.Attribute o "index" apos) [e] [] bp) (Q3j wo we) where
 mono:=fun τ P Q f h=>ho.mono τ _ _ (fun r dL=>(by obtain⟨x,e1,h⟩:=dL;exact⟨x,e1,he.mono τ _ _ (fun r dF=>(by obtain⟨y,i,a1,a2,a3⟩:=dF;exact⟨y,i,a1,a2,f _ a3⟩)) h⟩)) h
 pe:=N4 (Q7h PySem.F.plainAttrs_str PySem.F.slot_str_index PySem.F.type_str_index W5a ho.pe (T0 he.pe X7 hs) ck dO cw hs cu) fun σ H Q ⟨τ,hR,h⟩=>⟨τ,hR,ho.mono τ _ _ (fun r i9 v H1 s1 ir=>by
  obtain⟨x,e1,h⟩:=i9;subst e1;cases (show v=.str x from ir);refine⟨rfl,τ,hR.mono s1,he.mono τ _ _ (fun r ⟨y,i,a1,a2,a3⟩ u H2 s2 iu=>?_) h⟩;subst a1;cases (show u=.str y from iu);exact⟨x,y,i,rfl,rfl,a2,a3 _ _ (s1.trans s2) U5⟩) h⟩
def Q8z (we:WE):WI:=fun τ Q=>we τ fun r=>∃x,r=.st (.str x)/\Q (F5 x) τ
def V3z {K:Fg9}{H0 H:Hp}{x:Str}:Yl K H0 (Its x) (F5 x) H where
 go:=fun H' _ _ i hi=>by
  have:i<x.cps.size:=by simpa [F5]using hi
  exact this
 yld:=fun H' _ _ i v cT d hd i8=>by
  obtain⟨e,c,hc,hv⟩:=i8;subst e hv;refine⟨A5.refl _,?_⟩;unfold F5 at hd;rw [af]at hd;have:x.cps.toList[i]?=some c:=by simpa using hc
  rw [this]at hd;have e:D.str ⟨#[c]⟩=d:=aA hd;subst e;exact A1.s_str
 stop:=fun H' _ _=>by
  show(F5 x).length=x.cps.size;simp [F5]
def DI.str (he:DE X H0 e we):DI X H0 tg e (Q8z we) where
 mono:=fun τ P Q f h=>he.mono τ _ _ (fun r j8=>(by obtain⟨ds,e1,q⟩:=j8;exact⟨ds,e1,f _ _ q⟩)) h
 pi:=by
  intro a9 s σ H R I ⟨τ,hR,h⟩;refine B4 (he.pe a9 s σ H (fun v H1=>A5 H H1/\∃x,v=.str x/\∀J H',Kp H H'->C4 X.K H0 τ σ H'->Yl X.K H0 J (F5 x) H'->R J H') I ⟨τ,hR,he.mono τ _ _ (fun r fQ v H1 s1 ir=>(by obtain⟨x,e1,q⟩:=fQ;exact⟨s1,x,by subst e1;exact ir,q⟩)) h⟩) fun u s1 ⟨v,H1,I1,rv,sm,x,e1,q⟩=>?_;subst e1;obtain⟨t,rfl⟩:=rv;have fin:∀(ty:String),(ty="str_ascii_iterator"\/ty="str_iterator")->PIE X a9 σ tg R (.ref s1.heap.objs.size) { s1 with heap:=s1.heap.push { cls:=.type ty,data:=.fields #[.str x t,.int 0 0] } }:=fun ty gg=>by
   refine⟨s1.heap.objs.size,[s1.heap.objs.size],_,_,H1,rfl,I1.kept (t':=s1.toks) fun b o e=>aj _ e,Y6n (ty:=ty) (x:=x) (t:=t) gg,⟨_,aI _ rfl,rfl,rfl⟩,fun b hb=>?_,q _ _ (Kp.of sm) (hR.mono sm) V3z⟩;have e:b=s1.heap.objs.size:=by simpa using hb
   subst e;exact I1.fpOk (aq _) (I1.hok.fresh (aq _))
  cases ha:x.cps.all (·<128)
  ·exact wpAny_pyIter_wide ha (fin _ (.inr rfl))
  ·exact wpAny_pyIter_ascii ha (fin _ (.inl rfl))
end
section
variable {τ:A9}{Q:R->Prop}{QB:Bool->Prop}{wa we:WE}{d e:D}{ds:List D}{i j:Int}{x y:Str}
@[simp] theorem Y4h {Q:List D->A9->Prop}:Q8z we τ Q=we τ fun r=>∃x,r=.st (.str x)/\Q (F5 x) τ:=rfl
@[simp] theorem Z5e:Q3j wa we τ Q=wa τ fun r1=>∃x,r1=.st (.str x)/\we τ fun r=>∃y i,r=.st (.str y)/\Q6y x y=some i/\Q (.st (.int (i:Int))):=rfl
@[simp] theorem Q4d {Q:List D->Prop}:Q0v we τ Q=we τ fun r=>∃ds,r=.st (.tup ds)/\Q ds:=rfl
@[simp] theorem Z4e {r r':R}:Z9 r r' Q=∃i j,Q9 r=some i/\Q9 r'=some j/\i.length+j.length<=sizeLine/\Q (.nw (i++j)):=rfl
@[simp] theorem Q7g {r:R}:Y0 [r] Q=∃ds,Q5s r=some ds/\Q (.st (.tup ds)):=rfl
@[simp] theorem o_sq2:Q5s (.nw ds)=some ds:=rfl
@[simp] theorem Y3e:Q5s (.bw ds)=some ds:=rfl
@[simp] theorem o_ne {d e:D}:R0 (.st d) (.st e) QB ↔ (scD d e=true/\QB (!D.eq d e)):=by
 constructor
 ·rintro ⟨a,b,h1,h2,h3,h4⟩;cases h1;cases h2;exact⟨h3,h4⟩
 ·rintro ⟨h3,h4⟩;exact⟨d,e,rfl,rfl,h3,h4⟩
@[simp] theorem o_sc1:scD (.int i) (.int j)=true:=rfl
@[simp] theorem o_sc2 {k l:Bool}:scD (.bl k) (.bl l)=true:=rfl
@[simp] theorem o_sc3:scD (.str x) (.str y)=true:=rfl
end
theorem Q0b {we:WE}{f:D->D}{rest:A9}:∀(ds:List D) (o:Option Sl) (Q:List D->Prop),(∀d∈ds,∀Q':R->Prop,Q' (.st (f d))->we (some (.dat d)::rest) Q')->Q (ds.map f)->O4 (B5 0) W8 we ds (o::rest) Q
 | [],o,Q,h,q=>q
 | d::ds,o,Q,h,q=>by
  simp only [O4];simp;refine h d ag _ ⟨_,rfl,?_⟩;exact Q0b ds _ _ (fun d hd=>h d (ae _ hd)) q
theorem Q6r {t:WT}{we:WE}{p:D->Bool}{f:D->D}{rest:A9}:∀(ds:List D) (o:Option Sl) (Q:List D->Prop),(∀d∈ds,∀Q':Bool->Prop,Q' (p d)->t (some (.dat d)::rest) Q') ->
  (∀d∈ds,∀Q':R->Prop,p d=true->Q' (.st (f d))->we (some (.dat d)::rest) Q')->Q ((ds.filter p).map f)->O4 (B5 0) t we ds (o::rest) Q
 | [],o,Q,h,h2,q=>q
 | d::ds,o,Q,h,h2,q=>by
  simp only [O4];simp;refine h d ag _ ?_;cases hp:p d with
  | false =>
   rw [List.filter_cons_of_neg (by simp [hp])]at q;simp;exact Q6r ds _ _ (fun d hd=>h d (ae _ hd)) (fun d hd=>h2 d (ae _ hd)) q
  | true =>
   rw [List.filter_cons_of_pos hp]at q;simp;refine h2 d ag _ hp ⟨_,rfl,?_⟩;exact Q6r ds _ _ (fun d hd=>h d (ae _ hd)) (fun d hd=>h2 d (ae _ hd)) q
end TK
end
section
namespace HT
open PySem PySem.Spec PyProof.Rows
def W1c {b:Int}(h0:-(2 ^ 62)<=b)(h1:b<2 ^ 62):Builtin.Range.rangeFitsLong b=true:=by
 unfold Builtin.Range.rangeFitsLong;simp;omega
def W8r (r:Addr)(b:Int)(t u v:Tok)(h0:0<=b)(h1:b<2 ^ 62) :
  Meets (Builtin.«range.__reversed__» ⟨[.ref r],[]⟩) (fun _ R s=>s.heap.get? r=some { cls:=.type "range",data:=.fields #[.int 0 t,.int b u,.int 1 v] } /\
   R (.ok (.ret (Value.ref s.heap.objs.size))) { s with heap:=s.heap.push { cls:=.type "range_iterator",data:=.fields #[rawInt (b-1),rawInt b,rawInt (-1)] } }) :=
 .of_wp fun prog w A R s h=>by
  obtain⟨hp,g,d,tk,os⟩:=s;obtain⟨hl,h⟩:=h;have es:Builtin.Range.rangeSize 0 b 1=b:=by rw [rangeSize_one];split <;> omega
  have e2:(0:Int)+(b-1)*1=b-1:=by omega
  have hc:(Builtin.Range.rangeFitsLong 0&&Builtin.Range.rangeFitsLong b&&Builtin.Range.rangeFitsLong 1&&Builtin.Range.rangeFitsLong (-1)&&Builtin.Range.rangeFitsLong (0-1)&&Builtin.Range.rangeFitsLong (Builtin.Range.rangeSize 0 b 1))=true:=by
   rw [es,W1c (b:=b) (by omega) h1]
   decide
  wp_walk
  rw [hc,es,e2];simp only [Bool.not_true,cV,eO,gT]
  wp_walk
  exact⟨_,rfl,h⟩
section
variable {prog:Program}{w:World}{A:Around}{E:VS9}{s:Shared}
theorem Y9s {l:Addr}{b:Int}{t u v:Tok}{Q₁:VS9}(h0:0<=b)(h1:b<2 ^ 62)(hl:s.heap.get? l=some { cls:=.type "range",data:=.fields #[.int 0 t,.int b u,.int 1 v] })
  (h:Q₁ (.ref s.heap.objs.size) { s with heap:=s.heap.push { cls:=.type "range_iterator",data:=.fields #[rawInt (b-1),rawInt b,rawInt (-1)] } }) :
  codeAny (model prog w) A (.call (.builtin "reversed.__new__") ⟨[.type "reversed",.ref l],[]⟩) (wants Q₁ E) s:=by
 have hT:s.TypeIs (.ref l) "range":=⟨_,hl,rfl⟩
 refine codeAny_of_tree ?_;show wpAny _ A.in1 (do checkBuiltinCall "reversed.__new__" ⟨[.type "reversed",.ref l],[]⟩;again (.builtin "reversed.__new__" ⟨[.type "reversed",.ref l],[]⟩)) _ _ s;refine a8 (gj (PySem.F.newCall_reversed_1 _) (ao ⟨plainId_quiet PySem.F.plain_reversed_new _,gU PySem.F.entry_reversed_new ?_⟩));rw [Around.under_plainId PySem.F.plain_reversed_new _];unfold Builtin.«reversed.__new__»;refine a8 (gj (newClass_reversed _) ?_)
 try dsimp only
 refine a8 (gj (a:=()) (by first | rfl | kernel_rfl) ?_);refine a8 (gj (a:=()) (by first | rfl | kernel_rfl) ?_)
 try dsimp only
 refine a8 (wpAny_specialOf hT PySem.F.slot_range_reversed.lookup ?_)
 try dsimp only
 refine a8 (gj (PySem.F.slot_range_reversed.bind _) ?_)
 try dsimp only
 first
 | rw [az (show ¬ ((Value.builtin "range.__reversed__"==Value.none)=true)from aO)]
 | (show wpAny _ _ (if (Value.builtin "range.__reversed__"==Value.none)=true then _ else _) _ _ _;rw [az (show ¬ ((Value.builtin "range.__reversed__"==Value.none)=true)from aO)])
 refine a8 (wpAny_rule ?_);refine a8 (m:=runValue (.call (.builtin "range.__reversed__") ⟨[.ref l],[]⟩)) (show wpAny _ _ (call (.builtin "range.__reversed__") [.ref l]) _ _ _ from call_meets PySem.F.slot_range_reversed hT PySem.F.entry_range_reversed (PySem.F.args_range_reversed_1 _) (W8r l b t u v h0 h1) ⟨hl,?_⟩)
 first
 | exact ao h
 | exact a8 (ao (ao h))
def V1x:isSubtype (.type "range_iterator") (.type "reversed")=pure false:=by rw [isSubtype_type];kernel_rfl
def call_reversed_rng {l:Addr}{b:Int}{t u v:Tok}{Q:VS9}(h0:0<=b)(h1:b<2 ^ 62)(hl:s.heap.get? l=some { cls:=.type "range",data:=.fields #[.int 0 t,.int b u,.int 1 v] })
  (h:Q (.ref s.heap.objs.size) { s with heap:=s.heap.push { cls:=.type "range_iterator",data:=.fields #[rawInt (b-1),rawInt b,rawInt (-1)] } }):wpAny (model prog w) A (call (.type "reversed") [.ref l]) Q E s:=by
 refine callType_other (U:="range_iterator") (Q₁:=fun obj s₁=>obj=.ref s.heap.objs.size/\s₁={ s with heap:=s.heap.push { cls:=.type "range_iterator",data:=.fields #[rawInt (b-1),rawInt b,rawInt (-1)] } }) (by decide +kernel) PySem.F.create_reversed ⟨_,_,PySem.F.mro_reversed⟩ PySem.F.made_reversed V1x (PySem.F.typeCall_reversed_1 _) (Y9s h0 h1 hl ⟨rfl,rfl⟩) ?_;rintro obj s₁ ⟨rfl,rfl⟩;exact⟨⟨_,aI _ rfl,rfl⟩,h⟩
end
end HT
namespace TK
open PySem PySem.Spec PyProof.Rows L2
section
variable {X:Cx}{H0:Hp}{a b e tg:Expr}{pos p p2 dY:Pos}{wr:WA}
def Itd (n:Nat):It:=⟨fun i _=>i<n,fun i H v H'=>H'=H/\v=.int ((n:Int)-1-(i:Int)),fun i _=>n<=i⟩
def V2y {P:Program}{w:World}{K:Fg9}{tg:Expr}(it:Addr)(n:Nat):Q0o P w K tg (Itd n) [it] it (fun i h=>IsRangeIter h it ((n:Int)-1+(i:Nat)*(-1)) ((n:Int)-(i:Nat)) (-1)) where
 mem:=by simp
 obj:=fun i h st b hb=>by
  have e:b=it:=by simpa using hb
  subst e;exact⟨_,st,fun v z=>by
   have z':Data.fields _=Data.cell v:=z;cases z'⟩
 keep:=fun i h h' st k=>k it (by simp) _ st
 item:=by
  intro X hP hw hK hc i a9 s σ H E I hf st hg;subst hP hw hK;obtain⟨f0,f1,f2,f3,f4,f5⟩:=hf it (by simp);have W:=Walks.range (prog:=X.prog) (w:=X.w) (I.ok.hd hc) it ((n:Int)-1) (-1) n;refine W.item i s _ _ hg st fun v h' tk hv fE kk=>?_;obtain⟨t,rfl⟩:=hv;have I1:A0 X a9 σ H { s with heap:=h',toks:=tk }:=I.turned (fun b o hb e=>kk b o (by simpa using hb) e) f0 f1 f3 f4 f5;refine⟨_,rfl,Q4u (s:={ s with heap:=h',toks:=tk }) (n:="range_iterator") fE rfl rfl (by decide) ⟨.int ((n:Int)-1-(i:Int)),H,I1,⟨t,?_⟩,⟨rfl,rfl⟩,fE,fun b hb=>(hf b hb).1⟩⟩;congr 1;omega
 done:=by
  intro X hP hw hK hc i a9 s σ H E I hf st hg;subst hP hw hK;obtain⟨f0,f1,f2,f3,f4,f5⟩:=hf it (by simp);exact wpAny_pyNext_range_end (I.ok.hd hc) st (by have:n<=i:=hg;omega) fun h' eb=>⟨rfl,I.turned (t':=s.toks) (fun b o hb e=>eb b o hb e) f0 f1 f3 f4 f5⟩
 self:=fun _ _ _ _ _ st h=>wpAny_pyIter_rangeiter st h
def Z3 (n:Nat):List D:=(List.range n).map fun(i:Nat)=>.int ((n:Int)-1-(i:Int))
def V3y {K:Fg9}{H0 H:Hp}{n:Nat}:Yl K H0 (Itd n) (Z3 n) H where
 go:=fun H' _ _ i hi=>by
  have:i<n:=by simpa [Z3]using hi
  exact this
 yld:=fun H' _ _ i x cT d hd bR=>by
  obtain⟨e,y⟩:=bR;subst e;refine⟨A5.refl _,?_⟩;unfold Z3 at hd;rw [af]at hd;rcases aX i n with hi | hi
  ·rw [bK hi]at hd;have e:D.int ((n:Int)-1-(i:Int))=d:=aA hd;subst e y;exact A1.s_int
  ·rw [aw.mpr (by simpa using hi)]at hd;cases hd
 stop:=fun H' _ _=>by
  show n<=(Z3 n).length;simp [Z3]
def Z3f (wr:WA):WI:=fun τ Q=>wr τ fun rs=>∃j:Int,rs=[.st (.int j)]/\0<=j/\j<2 ^ 62/\Q (Z3 j.toNat) τ
def DI.rev1 (ji:Gl X "reversed")(fV:X.mg "reversed"=none)(kg:bootBuiltins "reversed"=some (.type "reversed"))(hg:Gl X "range")(hm:X.mg "range"=none)(ha:DA X H0 [a] wr)(hs:starEach [a] X.env=[(false,eval a X.env)]:=by rfl)
  (fv:starEach [.Call (.Name "range" p) [a] [] pos] X.env=(false,eval (.Call (.Name "range" p) [a] [] pos) X.env)::starEach [] X.env:=by rfl) (hpl:(backTo dY (starEach [] X.env)).any (·.1)=false:=by rfl) :
  DI X H0 tg (.Call (.Name "reversed" p2) [.Call (.Name "range" p) [a] [] pos] [] dY) (Z3f wr) where
 mono:=fun τ P Q f h=>ha.mono τ _ _ (fun r cp=>(by obtain⟨j,e1,h1,h2,q⟩:=cp;exact⟨j,e1,h1,h2,f _ _ q⟩)) h
 pi:=by
  intro a9 s σ H R I ⟨τ,hR,h⟩;refine bc (Y9 I ji fV kg ?_ (by decide) (by decide));refine bg ?_ fv hpl;rw [fv];show wpAny _ _ (spliced ((false,eval (.Call (.Name "range" p) [a] [] pos) X.env)::backTo dY (starEach [] X.env))) _ _ s;refine jQ ?_;refine Call_ (Y9 I hg hm boot_range (bg (B4 (ha.pa pos a9 s σ H (fun vs H1=>A5 H H1/\∃j:Int,vs=[.int j]/\0<=j/\j<2 ^ 62/\∀J H',Kp H H'->C4 X.K H0 τ σ H'->Yl X.K H0 J (Z3 j.toNat) H'->R J H') I
   ⟨τ,hR,ha.mono τ _ _ (fun rs cQ vs H1 s1 cq=>(by obtain⟨j,e1,h1,h2,q⟩:=cQ;exact⟨s1,j,by subst e1;obtain⟨v,rfl,ir⟩:=V0 cq;cases (show v=.int j from ir);rfl,h1,h2,q⟩)) h⟩) fun us s1 ⟨vs,H1,I1,rv,sm,j,e1,h1,h2,q⟩=>?_) hs rfl))
  ·subst e1;obtain⟨u,rfl,t,rfl⟩:=T4 rv;refine call_range_1 ?_;refine Calls.spliced_nil ?_;refine HT.call_reversed_rng (l:=s1.heap.objs.size) (b:=j) h1 h2 (aI _ rfl) ?_;have I2:A0 X a9 σ H1 { s1 with heap:=s1.heap.push { cls:=.type "range",data:=.fields #[.int 0 s1.toks,.int j t,.int 1 (s1.toks+1)] },toks:=s1.toks+1+1 }:=I1.kept fun b o e=>aj _ e;refine wpAny_pyIter_rangeiter (aI _ rfl) ?_;refine⟨_,[_],_,_,H1,rfl,I2.kept (t':=s1.toks+1+1) fun b o e=>aj _ e,V2y _ j.toNat,?_,fun b hb=>?_,q _ _ (Kp.of sm) (hR.mono sm) V3y⟩
   ·have e1:((j.toNat:Nat):Int)=j:=by omega
    have e2:(j-1)=((j.toNat:Nat):Int)-1+((0:Nat):Int)*(-1):=by omega
    have e3:j=((j.toNat:Nat):Int)-((0:Nat):Int):=by omega
    show IsRangeIter _ _ (((j.toNat:Nat):Int)-1+((0:Nat):Int)*(-1)) (((j.toNat:Nat):Int)-((0:Nat):Int)) (-1);rw [<- e2,<- e3];exact aI _ rfl
   ·rw [aE.mp hb];exact I2.fpOk (aq _) (I2.hok.fresh (aq _))
def Irl (K:Fg9)(l:Addr)(n:Nat):It:=⟨fun i H=>i<n/\∃xs,D7 K H l xs/\xs.length=n,fun i H v H'=>H'=H/\∀xs,D7 K H l xs->xs[n-1-i]?=some v,fun i _=>i=n⟩
def V2z {P:Program}{w:World}{K:Fg9}{tg:Expr}{it l:Addr}{n:Nat}:Q0o P w K tg (Irl K l n) [it] it (fun i h=>i<=n/\h.IsRevIter it l ((n:Int)-1-(i:Int))) where
 mem:=by simp
 obj:=fun i h st b hb=>by
  have e:b=it:=by simpa using hb
  subst e;obtain⟨_,o,ho,hc,hd⟩:=st;exact⟨o,ho,fun v z=>by rw [hd]at z;cases z⟩
 keep:=fun i h h' st k=>⟨st.1,st.2.at fun o e=>k it (by simp) o e⟩
 item:=by
  intro X hP hw hK hc i a9 s σ H E I hf st hg;subst hP hw hK;obtain⟨f0,f1,f2,f3,f4,f5⟩:=hf it (by simp);obtain⟨bU,xs,hq,hn⟩:=hg;obtain⟨aP,rv,pl,hz⟩:=I.list hq;have hl:=rv.length;have hx:xs[n-1-i]?=some (xs[n-1-i]'(by omega)):=aa _;obtain⟨u,hu,ru⟩:=rv.get hx;have hit:=st.2;have e:(n:Int)-1-(i:Int)=((n-1-i:Nat):Int):=by omega
  rw [e]at hit;refine wpAny_pyNext_rev_item hit pl.isList (by simpa using hu) fun h' fA i6=>?_;have I1:A0 X a9 σ H { s with heap:=h' }:=I.turned (t':=s.toks) (fun b o hb e=>i6.extBut b o hb e) f0 f1 f3 f4 f5;have e2:((n-1-i:Nat):Int)-1=(n:Int)-1-((i+1:Nat):Int):=by omega
  rw [e2]at fA;obtain⟨o,ho,eE,hd⟩:=id fA;exact⟨u,rfl,Q4u (s:={ s with heap:=h' }) ho eE hd (by decide) ⟨_,H,I1,ru,⟨rfl,fun ys hy=>by rw [I.list_inj hy hq];exact hx⟩,⟨by omega,fA⟩,fun b hb=>(hf b hb).1⟩⟩
 done:=by
  intro X hP hw hK hc i a9 s σ H E I hf st hg;subst hP hw hK;obtain⟨f0,f1,f2,f3,f4,f5⟩:=hf it (by simp);have hg:i=n:=hg;subst hg;have hit:=st.2;have e:(i:Int)-1-(i:Int)=-1:=by omega
  rw [e]at hit;exact wpAny_pyNext_rev_end (I.ok.hd hc) hit fun h' eb=>⟨rfl,I.turned (t':=s.toks) (fun b o hb e=>eb b o hb e) f0 f1 f3 f4 f5⟩
 self:=fun _ _ _ _ _ st h=>wpAny_pyIter_revIter st.2 h
end
end TK
end
section
namespace TK
open PySem PySem.Spec PyProof.Rows L2
def Kp.updM {H:Hp}{a:Addr}{old:HO}(h:H a=some old)(nt:∀xs,old≠.tup xs)(nf:∀o u,old≠.frz o u)(o:HO):Kp H (L2.upd H a o) :=
 ⟨fun c ys q=>by rw [B9 (Q0e q h (fun z=>nt _ z.symm))];exact q,fun c ob u q=>by rw [B9 (Q0e q h (fun z=>nf _ _ z.symm))];exact q⟩
def C4.mutG {K:Fg9}{H0 H:Hp}{τ:A9}{σ:St}{i:Nat}{s s':Sl}{a:Addr}{old new:HO}(hR:C4 K H0 τ σ H)(e1:τ[i]?=some (some s))(m:s.mut=true)(hv:σ[i]?=some (some (.ref a)))(h0:H0 a=none)
  (sq:H a=some old) (nt:∀xs,old≠.tup xs) (nf:∀o u,old≠.frz o u) (i6:O3 K H0 (upd H a new) s' (.ref a)) (ne:∀ φ,old≠.ext φ:=by intro φ z;cases z):C4 K H0 (τ.set i (some s')) σ (upd H a new):=by
 have kp:Kp H (upd H a new):=Kp.updM sq nt nf _;have hl:i<τ.length:=by
  rcases aX i τ.length with h | h
  ·exact h
  ·rw [aw.mpr h]at e1;cases e1
 have k7:∀(j:Nat) (t:Sl),(τ.set i (some s'))[j]?=some (some t)->j≠i->τ[j]?=some (some t):=fun j t e hj=>by rw [aN (fun z=>hj z.symm)]at e;exact e
 have eW:∀(j:Nat) (t:Sl),(τ.set i (some s'))[j]?=some (some t)->t.mut=true->∃t',τ[j]?=some (some t')/\t'.mut=true:=fun j t e mm=>by
  by_cases hj:j=i
  ·subst hj;exact⟨_,e1,m⟩
  ·exact⟨t,k7 j t e hj,mm⟩
 refine⟨by rw [bM];exact hR.len,fun b ob hb=>?_,fun j t e=>?_,fun j k t u v cz e2 e3 m1 m2 q1 q2=>?_⟩
 ·rw [B9 (X5 hb h0)];exact hR.same b ob hb
 ·by_cases hj:j=i
  ·subst hj;rw [X3 hl]at e;cases e;exact⟨_,hv,i6⟩
  ·have e:=k7 j t e hj;obtain⟨v,q,r⟩:=hR.here j t e;refine⟨v,q,?_⟩;have ap:t.mut=true->v≠.ref a:=fun mm z=>by
    subst z;exact hR.apart i j _ t (.ref a) (fun z=>hj z.symm) e1 e m mm hv q
   cases t with
   | dat d=>exact A1.mono kp _ _ r
   | own es=>obtain⟨b,ys,e,n,q,t⟩:=r;exact⟨b,ys,e,n,by rw [B9 (fun z=>ap rfl (by rw [e,z]))];exact q,t.mono kp _ _⟩
   | bor es=>obtain⟨b,ys,e,q,t⟩:=r;exact⟨b,ys,e,q,t.mono kp _ _⟩
   | bd es=>obtain⟨b,ys,e,q,t⟩:=r;exact⟨b,ys,e,q,t.mono kp _ _⟩
   | dk es=>obtain⟨b,ys,e,n,q,t⟩:=r;exact⟨b,ys,e,n,by rw [B9 (fun z=>ap rfl (by rw [e,z]))];exact q,t.mono kp _ _⟩
   | dt es=>obtain⟨b,ys,e,n,q,t⟩:=r;exact⟨b,ys,e,n,by rw [B9 (fun z=>ap rfl (by rw [e,z]))];exact q,t.mono kp _ _⟩
   | ob _=>exact r
   | cl _ _=>exact⟨r.1,r.2.2 _ _ kp r.2.1,r.2.2⟩
   | ll _ _=>exact⟨r.1,r.2.keep kp fun b φ q=>by rw [B9 (Q0e q sq (fun z=>ne _ z.symm))];exact q⟩
   | ins _ _ _=>obtain⟨e,n,dx,ys,q,t⟩:=r;exact⟨e,n,dx,ys,by rw [B9 (fun z=>ap rfl (by rw [e,z]))];exact q,t.mono kp _ _⟩
 ·obtain⟨s1,nu,lS⟩:=eW j t e2 m1;obtain⟨t1,nr,lR⟩:=eW k u e3 m2;exact hR.apart j k s1 t1 v cz nu nr lS lR q1 q2
def Q8:D->Option B8
 | .int i=>some (.inl i)
 | .str x=>some (.inr x)
 | _=>none
section
variable {κ:Type}[DecidableEq κ]
def J1 (kvs:List (κ×D))(k:κ):Option D:=(kvs.find? fun kv=>decide (kv.1=k)).map (·.2)
def R9 (kvs:List (κ×D))(k:κ)(v:D):List (κ×D):=if (kvs.any fun kv=>decide (kv.1=k))=true then kvs.map (fun kv=>if kv.1=k then(kv.1,v)else kv)else kvs++[(k,v)]
theorem C9.val {K:Fg9}{H:Hp}{k:κ}:∀{kvs:List (κ×D)}{ps:List (κ×V)},C9 K H kvs ps->(J1 kvs k=none/\W9 ps k=none)\/∃d v,J1 kvs k=some d/\W9 ps k=some v/\A1 K H d v
 | [],ps,h=>by unfold C9 at h;subst h;exact .inl ⟨rfl,rfl⟩
 | p::kvs,ps,h=>by
  unfold C9 at h;obtain⟨v,r,rfl,iv,h⟩:=h
  by_cases e:p.1=k
  ·exact .inr ⟨p.2,v,by simp [J1,bn,e],Z0t e,iv⟩
  ·rw [Z0s (p:=(p.1,v)) e];have:J1 (p::kvs) k=J1 kvs k:=by simp [J1,bn,e]
   rw [this];exact C9.val h
theorem C9.any {K:Fg9}{H:Hp}{k:κ}:∀{kvs:List (κ×D)}{ps:List (κ×V)},C9 K H kvs ps->(kvs.any fun kv=>decide (kv.1=k))=(ps.any fun kv=>decide (kv.1=k))
 | [],ps,h=>by unfold C9 at h;subst h;rfl
 | p::kvs,ps,h=>by
  unfold C9 at h;obtain⟨v,r,rfl,iv,h⟩:=h;rw [cx,cx,C9.any h]
theorem C9.length {K:Fg9}{H:Hp}:∀{kvs:List (κ×D)}{ps:List (κ×V)},C9 K H kvs ps->kvs.length=ps.length
 | [],ps,h=>by unfold C9 at h;subst h;rfl
 | p::kvs,ps,h=>by
  unfold C9 at h;obtain⟨v,r,rfl,iv,h⟩:=h;rw [aD,aD,C9.length h]
theorem C9.app {K:Fg9}{H:Hp}{k:κ}{d:D}{v:V}(q:A1 K H d v):∀{kvs:List (κ×D)}{ps:List (κ×V)},C9 K H kvs ps->C9 K H (kvs++[(k,d)]) (ps++[(k,v)])
 | [],ps,h=>by unfold C9 at h;subst h;exact⟨v,[],rfl,q,rfl⟩
 | p::kvs,ps,h=>by
  unfold C9 at h;obtain⟨v',r,rfl,iv,h⟩:=h;exact⟨v',_,rfl,iv,C9.app q h⟩
theorem C9.repl {K:Fg9}{H:Hp}{k:κ}{d:D}{v:V}(q:A1 K H d v):∀{kvs:List (κ×D)}{ps:List (κ×V)},C9 K H kvs ps->C9 K H (kvs.map fun kv=>if kv.1=k then(kv.1,d)else kv) (ps.map fun kv=>if kv.1=k then(kv.1,v)else kv)
 | [],ps,h=>by unfold C9 at h;subst h;rfl
 | p::kvs,ps,h=>by
  unfold C9 at h;obtain⟨v',r,rfl,iv,h⟩:=h;have ih:=C9.repl (k:=k) q h
  by_cases e:p.1=k
  ·simp only [am,e,gT];exact⟨v,_,rfl,q,ih⟩
  ·simp only [am,e,eO];exact⟨v',_,rfl,iv,ih⟩
def C9.put {K:Fg9}{H:Hp}{k:κ}{d:D}{v:V}(q:A1 K H d v){kvs:List (κ×D)}{ps:List (κ×V)}(h:C9 K H kvs ps):C9 K H (R9 kvs k d) (S0 ps k v):=by
 unfold R9 S0;rw [C9.any h];split
 ·exact C9.repl (k:=k) q h
 ·exact C9.app q h
end
section
variable {X:Cx}{H0:Hp}{a e o:Expr}{pos bC:Pos}{wi we:WE}
def Z0x (i:Nat)(wi wv:WE):WS:=fun E τ=>wv τ fun r=>∃d,r=.st d/\∃ds,τ[i]?=some (some (.own ds))/\wi τ fun rk=>∃k j,rk=.st (.int k)/\ixN ds.length k=some j/\E.nx (τ.set i (some (.own (ds.set j d))))
def DS.setIx {i:Nat}{v:Expr}{wv:WE}(ho:PE X o (S4 i))(he:DE X H0 e we)(hv:DE X H0 v wv)
  (hs:swapsWithSole [.Subscript o e bC] v pos.line X.env=pure false:=by rfl) (hw:swappedStores [.Subscript o e bC] v X.env=pure none:=by rfl)
  (h1:(assignEach [.Subscript o e bC] X.env).map (·.2)=[assign (.Subscript o e bC) X.env]:=by rfl)
  (ha:∀v,assign (.Subscript o e bC) X.env v=(do
   let ov <- holding [v] (eval o X.env);let iv <- holding [v,ov] (eval e X.env)
   standAt bC
   holding [v,ov,iv] (setItem ov iv v)
   release [v,ov,iv] []):=by intro _;rfl):DS X H0 (.Assign [.Subscript o e bC] v pos) (Z0x i we wv) where
 mono:=fun τ E F le h=>hv.mono τ _ _ (fun r j8=>by obtain⟨d,e1,ds,e2,h⟩:=j8;exact⟨d,e1,ds,e2,he.mono τ _ _ (fun r fQ=>by obtain⟨k,j,a1,a2,a3⟩:=fQ;exact⟨k,j,a1,a2,le.nx _ a3⟩) h⟩) h
 ps:=psW (Z4s hv.pe (W7h ho he.pe Y5n ha) hs hw h1) fun D σ H eD=>by
  obtain⟨τ,hR,h⟩:=eD;refine⟨τ,hR,hv.mono τ _ _ (fun r ⟨d,e1,ds,e2,h⟩ u H1 s1 ir=>?_) h⟩;subst e1;have eL:=hR.mono s1;obtain⟨a,xs,gB,h0,sq,al⟩:=eL.ownAt e2;refine⟨_,gB,τ,eL,he.mono τ _ _ (fun rk ⟨k,j,a1,a2,a3⟩ y H2 s2 ik=>?_) h⟩;subst a1;cases (show y=.int k from ik);have gu:=s2 _ _ sq;refine⟨a,xs,k,j,rfl,rfl,gu,by rw [<- al.length];exact a2,?_⟩;have ef:AllS X.K H2 (ds.set j d) (xs.set j u):=AllS.set (A1.mono (Kp.of s2) _ _ ir) j (al.mono (Kp.of s2) _ _);exact a3 σ _ ((Kp.of (s1.trans s2)).trans (Kp.upd gu _)) ((eL.mono s2).mutate e2 gB h0 gu ef)
end
section
variable {τ:A9}{E:F6}{Q:R->Prop}{wa wb:WE}{wr:WA}{n:Nat}{d:D}{ds:List D}{j:Int}
@[simp] theorem V0y:Z0x n wa wb E τ=wb τ fun r=>∃d,r=.st d/\∃ds,τ[n]?=some (some (.own ds))/\wa τ fun rk=>∃k j,rk=.st (.int k)/\ixN ds.length k=some j/\E.nx (τ.set n (some (.own (ds.set j d)))):=rfl
@[simp] theorem V0k {Q:List D->A9->Prop}:Z3f wr τ Q=wr τ fun rs=>∃j:Int,rs=[.st (.int j)]/\0<=j/\j<2 ^ 62/\Q (Z3 j.toNat) τ:=rfl
@[simp] theorem Y3d {k:Int}:S8 (.nw ds) (.st (.int k)) Q=(-(2 ^ 63)<=k/\k<2 ^ 63/\ds.length*k.toNat<=sizeLine/\Q (.nw (List.replicate k.toNat ds).flatten)):=rfl
@[simp] theorem W5r {lo hi:Option Int}:slD (.bw ds) lo hi Q=Q (.nw (X2 ds lo hi)):=rfl
end
def V3v {K:Fg9}{H0 H:Hp}{l:Addr}{xs:List V}{ds:List D}(hq:∀H',Kp H H'->A5 H0 H'->D7 K H' l xs)(al:AllS K H ds xs):Yl K H0 (Iel K l) (G6 ds) H where
 go:=fun H' k s i hi=>by
  rw [Q2u]at hi;exact⟨xs,xs[i]'(by rw [<- al.length];exact hi),hq H' k s,aa _⟩
 yld:=fun H' k s i v cT d hd bR=>by
  obtain⟨T,x,hx,hT,hv,hH⟩:=bR;subst hH hv;refine⟨G1 hT _,?_⟩;obtain⟨y,hy,rfl⟩:=Q8w hd;obtain⟨v,hv,q⟩:=al.get hy;rw [hx xs (hq H' k s)]at hv;cases hv;exact A1.s_tup upd_same (AllS.cons A1.s_int (AllS.cons (q.mono (k.trans (Kp.of (G1 hT _))) _ _) AllS.nil))
 stop:=fun H' k s=>⟨xs,hq H' k s,by rw [Q2u];exact al.length.symm⟩
section
variable {X:Cx}{H0:Hp}{a:Expr}{p pos:Pos}{wr:WA}
def Q6w (wr:WA):WI:=fun τ Q=>wr τ fun rs=>∃ds,rs=[.st (.lst ds)]/\Q (G6 ds) τ
def DI.enumF {du:List Expr}{kk:Nat}{pt:Pos}(hg:Gl X "enumerate")(hm:X.mg "enumerate"=none)(hv:bootBuiltins "enumerate"=some (.type "enumerate"))(ha:DA X H0 [a] wr)(he:starEach [a] X.env=(false,eval a X.env)::starEach [] X.env:=by rfl)(hpl:(backTo pos (starEach [] X.env)).any (·.1)=false:=by rfl) :
  DI X H0 (.Tuple du kk pt) (.Call (.Name "enumerate" p) [a] [] pos) (Q6w wr) where
 mono:=fun τ P Q f h=>ha.mono τ _ _ (fun r cp=>(by obtain⟨ds,e1,q⟩:=cp;exact⟨ds,e1,f _ _ q⟩)) h
 pi:=by
  intro a9 s σ H R I ⟨τ,hR,h⟩;refine bc (Y9 I hg hm hv ?_ (by decide) (by decide));refine bg (B4 (ha.pa pos a9 s σ H (fun vs H1=>A5 H H1/\∃l xs ds,vs=[.ref l]/\FzL X.K H1 l xs/\AllS X.K H1 ds xs/\∀J H',Kp H H'->C4 X.K H0 τ σ H'->Yl X.K H0 J (G6 ds) H'->R J H') I
   ⟨τ,hR,ha.mono τ _ _ (fun rs ⟨ds,e1,q⟩ vs H1 s1 cq=>⟨s1,by
    subst e1;obtain⟨v,rfl,ir⟩:=V0 cq;have ir:A1 X.K H1 (.lst ds) v:=ir;unfold A1 at ir;obtain⟨l,xs,rfl,sq,al⟩:=ir;exact⟨l,xs,ds,rfl,sq,al,q⟩⟩) h⟩) fun us s1 bu=>?_) he hpl
  obtain⟨vs,H1,I1,rv,sm,l,xs,ds,e1,sq,al,q⟩:=bu;subst e1;have big:∀b∈[s1.heap.objs.size+1,s1.heap.objs.size],P4 X a9 H1 b:=fun b hb=>by
   have hb:s1.heap.objs.size<=b:=by
    rcases ar.mp hb with rfl | hb
    ·exact dI _
    ·have e:b=s1.heap.objs.size:=by simpa using hb
     rw [e];exact aq _
   exact I1.fpOk hb (I1.hok.fresh hb)
  obtain⟨u,rfl,ru⟩:=T4 rv;cases (show u=Value.ref l from ru);obtain⟨aP,fH,pl,l8⟩:=I1.list sq.sq;obtain⟨o,n,ho,_⟩:=id pl;have hl:l<s1.heap.objs.size:=ax ho;refine call_enumerate_list pl.isList fun h' he hi hz k=>?_;refine cr he ⟨s1.heap.objs.size+1,[s1.heap.objs.size+1,s1.heap.objs.size],_,_,H1,rfl,I1.kept (t':=s1.toks) k,Y6l (l:=l) (gm _) (ay (bA hl)) (ay hl),⟨⟨_,he⟩,hi⟩,big,q _ _ (Kp.of sm) (hR.mono sm) (V3v (xs:=xs) (fun H' k _=>(k.fzL sq).sq) al)⟩
end
section
variable {τ:A9}{wr:WA}
@[simp] theorem V0j {Q:List D->A9->Prop}:Q6w wr τ Q=wr τ fun rs=>∃ds,rs=[.st (.lst ds)]/\Q (G6 ds) τ:=rfl
end
end TK
end
section
namespace L2
open PySem PySem.Spec PyProof.Rows
theorem Y8t {pos:Pos}{a b:Int}{c cv:Value}(l:List Value)(t:TriplesOk l)(h:codeAmong pos (l++[rawInt a,rawInt b,c])=some cv):codeAmong pos l=some cv\/cv=c:=by
 fun_induction TriplesOk l with
 | case1 =>
  right
  have h:(if (a==(pos.line:Int)&&b==(pos.col:Int))=true then some c else codeAmong pos [])=some cv:=h;split at h
  ·exact(aA h).symm
  ·cases h
 | case2 i ti j tj x rest ih =>
  have h:(if (i==(pos.line:Int)&&j==(pos.col:Int))=true then some x else codeAmong pos (rest++[rawInt a,rawInt b,c]))=some cv:=h;show(if (i==(pos.line:Int)&&j==(pos.col:Int))=true then some x else codeAmong pos rest)=some cv\/_;split at h
  ·rename_i hc;rw [aG hc];exact .inl h
  ·rename_i hc;rw [az hc];exact ih t h
 | case3=>exact t.elim
def M5:HO:=.ext fun _=>True
def Q6m {P:Program}{w:World}{H:Hp}{h:Heap}{a:Addr}{o:Obj}(e:h.get? a=some o):ObjOk P w H h a (.frz o M5):=⟨e,trivial,⟨o,e⟩,fun _ _ _ _=>trivial⟩
def Q0i (mg:Str->Option Value)(base:Heap):Prop:=∃bm ob,mg "__builtins__"=some (.ref bm)/\bm≠builtinsNs/\base.get? bm=some ob/\ob.cls=.type "module"/\ob.dict=some builtinsNs/\ob.data=.plain
abbrev W3 (X:Cx)(params:Arguments)(body:Expr)(sc:Scope)(clos:List (Str×Addr))(c':Addr)(ctv:Value):Obj :=
 PySem.W.kla_obj "<lambda>" (X.env.qual++"<lambda>") params body sc clos ((X.mg "__name__").getD .none) c' ctv
def tLam (P:Addr)(ob:Addr->Value->Obj):TE:=fun _ H Q=>∀f c' oc ctv H',A5 H H'->Q4m oc->H f=none->H' c'=some (.frz oc (.own P))->H' f=some (.frz (ob c' ctv) M5)->(∀b,H' b≠none->H b=none->b=f\/b=c')->Q (.ref f) H'
section
variable {X:Cx}{params:Arguments}{body:Expr}{sc:Scope}{pos:Pos}{c P:Addr}{clos:List (Str×Addr)}
theorem Z4q (hB:Q0i X.mg X.base)(dP:X.env.code=.ref c)(hC:PySem.W.codeHdIn X.K c P=true)(ig:closureFor sc X.env=pure clos)(hd:defaultsOf params X.env=([],[]):=by rfl) :
  PE X (.Lambda params body sc pos) (fun σ H Q=>H P=some .tab/\tLam P (fun c' ctv=>W3 X params body sc clos c' ctv) σ H Q):=by
 intro a9 s σ H Q I ⟨hP,h⟩;refine PySem.W.kla_eval hd ?_;have fY:s.heap.Ns mainGlobals X.mg:=I.mod.glob.keeps I.bk;have C:=PySem.W.codeHd_of_K I.kIn hC;obtain⟨ps,eP,ht,en⟩:=(show ObjOk X.prog X.w H s.heap P .tab from I.hok P _ hP)
 obtain⟨bm,ob,b1,b2,b3,b4,b5,b6⟩:=hB;have bH:∀b o,X.base.get? b=some o->b≠P:=fun b o e z=>by
  have:=(I.bs b o e).2;rw [z,hP]at this;cases this
 have mG:mainGlobals≠P:=by
  obtain⟨o,es,ep,e,hd,_⟩:=I.mod.glob;exact bH _ _ e
 have hZ:bm≠mainGlobals:=fun same=>by
  obtain⟨go,_,_,ge,gd,_⟩:=I.mod.glob;rw [same,ge]at b3;cases b3;rw [gd]at b6;cases b6
 have ot:s.heap.BuiltinsAt X.mg P:=⟨bm,ob,b1,b2,hZ,bH _ _ b3,I.bk _ _ b3,b4,b5,b6⟩
 cases hf:codeAmong pos ps.toList with
 | some cv =>
  obtain⟨c',oc,rfl,dy,eE⟩:=en pos cv hf;refine PySem.W.kla_makeFunctionHit (mg:=X.mg) ig I.ok.glob fY dP C eP ht hf ot fun ctv h' tk hk hsz=>?_;have ie:H h'.objs.size=none:=I.hok.fresh hsz;have ne:∀b u,H b=some u->b≠h'.objs.size:=fun b u e z=>by rw [z,ie]at e;cases e
  have kp:∀b o,s.heap.get? b=some o->(h'.push (W3 X params body sc clos c' ctv)).get? b=some o:=fun b o e=>aj _ (hk b o e);have lt:∀b o,s.heap.get? b=some o->b≠h'.objs.size:=fun b o e=>ay (au (ax e) hsz);refine⟨.ref h'.objs.size,upd H h'.objs.size (.frz (W3 X params body sc clos c' ctv) M5),I.un (t':=tk) ⟨fun b o e _ _ _=>kp b o e,fun b o e _ _ _=>⟨o.slots,kp b o e⟩,fun b o e n _=>by rw [B9 (lt b o e)];exact n,fun b o e _=>⟨o,kp b o e⟩,
   fun b xs e=>by rw [B9 (ne b _ e)];exact e,fun b o u e=>by rw [B9 (ne b _ e)];exact e,fun b ps e=>⟨#[],by rw [B9 (ne b _ e),e];simp⟩⟩ ?_,rfl,?_⟩
  ·refine F7.laid (h:=s.heap) I.hok kp hsz (Q6m (aI _ rfl))
  ·exact h _ c' oc ctv _ (fun b u e=>by rw [B9 (ne b _ e)];exact e) eE ie (by rw [B9 (ne _ _ dy)];exact dy) upd_same fun b n1 n2=>by
    by_cases hb:b=h'.objs.size
    ·exact .inl hb
    ·rw [B9 hb]at n1;exact absurd n2 n1
 | none =>
  refine PySem.W.kla_makeFunction (mg:=X.mg) ig I.ok.glob fY dP C eP ht hf mG ot fun c' ctv h' tk hx jh bU mf nU=>?_;obtain⟨c₂,oc,vs,tq,e2,eE,om,hv⟩:=mf;cases e2;have jo:H c'=none:=I.hok.fresh jh;have iL:H h'.objs.size=none:=I.hok.fresh (aS jh (eA bU));have qS:c'≠h'.objs.size:=ay bU;have sd:P≠c':=fun z=>by rw [<- z,hP]at jo;cases jo
  have s9:P≠h'.objs.size:=fun z=>by rw [<- z,hP]at iL;cases iL
  have pP:∀b o,s.heap.get? b=some o->b≠c':=fun b o e=>ay (au (ax e) jh);have pO:∀b o,s.heap.get? b=some o->b≠h'.objs.size:=fun b o e=>ay (au (ax e) (aS jh (eA bU)));have pK:∀b u,H b=some u->b≠c':=fun b u e z=>by rw [z,jo]at e;cases e
  have pJ:∀b u,H b=some u->b≠h'.objs.size:=fun b u e z=>by rw [z,iL]at e;cases e
  have hH:∀b,b≠c'->b≠h'.objs.size->upd (upd H c' (.frz oc (.own P))) h'.objs.size (.frz (W3 X params body sc clos c' ctv) M5) b=H b:=fun b n1 n2=>by rw [B9 n2,B9 n1]
  have nh:upd (upd H c' (.frz oc (.own P))) h'.objs.size (.frz (W3 X params body sc clos c' ctv) M5) c'=some (.frz oc (.own P)):=by rw [B9 qS,upd_same]
  have kp:∀b o,b≠P->s.heap.get? b=some o->(h'.push (W3 X params body sc clos c' ctv)).get? b=some o:=fun b o n e=>aj _ (hx b o n e);have nP:∀b,H b=none->b≠P:=fun b n z=>by rw [z,hP]at n;cases n
  have sm:A5 H (upd (upd H c' (.frz oc (.own P))) h'.objs.size (.frz (W3 X params body sc clos c' ctv) M5)):=fun b u e=>by rw [hH b (pK b u e) (pJ b u e)];exact e
  refine⟨.ref h'.objs.size,upd (upd H c' (.frz oc (.own P))) h'.objs.size (.frz (W3 X params body sc clos c' ctv) M5),I.un (t':=tk) ⟨fun b o e n _ _=>kp b o (nP b n) e,fun b o e n _ _=>⟨o.slots,kp b o (nP b n) e⟩,fun b o e n _=>by rw [hH b (pP b o e) (pO b o e)];exact n,fun b o e _=>?_,
   fun b xs e=>sm _ _ e,fun b o u e=>sm _ _ e,fun b ps e=>⟨#[],by rw [sm _ _ e];simp⟩⟩ ?_,rfl,?_⟩
  ·by_cases hb:b=P
   ·exact⟨_,aj _ (hb ▸ nU)⟩
   ·exact⟨o,kp b o hb e⟩
  ·intro b u e
   by_cases ou:b=h'.objs.size
   ·subst ou;rw [upd_same]at e;cases e;exact Q6m (aI _ rfl)
   by_cases hbc:b=c'
   ·subst hbc;rw [nh]at e;cases e;exact⟨aj _ eE,⟨_,aj _ eE⟩⟩
   rw [hH b hbc ou]at e
   by_cases hbP:b=P
   ·subst hbP;rw [hP]at e;cases e;refine⟨_,aj _ nU,?_,fun bC cv q=>?_⟩
    ·have:=TriplesOk_snoc (pos.line:Int) (pos.col:Int) (.ref c') ps.toList ht;simpa using this
    ·have q:codeAmong bC (ps.toList++[rawInt (pos.line:Int),rawInt (pos.col:Int),.ref c'])=some cv:=by simpa using q
     rcases Y8t _ ht q with q | q
     ·obtain⟨c2,o2,e1,e2,e3⟩:=en bC cv q;exact⟨c2,o2,e1,sm _ _ e2,e3⟩
     ·exact⟨c',oc,q,nh,⟨vs,_,tq,om,hv⟩⟩
   ·refine(I.hok b u e).stay (fun d v hc q=>kp d v ?_ q) (fun d v _ q=>sm _ _ q) fun d xs q=>sm _ _ q;rcases hc with z | z
    ·rw [z];exact hbP
    ·intro z2;rw [z2,hP]at z;cases z
  ·exact h _ c' oc ctv _ sm ⟨vs,_,tq,om,hv⟩ iL nh upd_same fun b n1 n2=>by
    by_cases hb:b=h'.objs.size
    ·exact .inl hb
    by_cases lm:b=c'
    ·exact .inr lm
    ·rw [hH b lm hb]at n1;exact absurd n2 n1
end
end L2
end
section
namespace L2
open PySem PySem.Spec PyProof.Rows
structure M8 where
 name:Str
 addr:Addr
 obj:Obj
 val:V
 slot:TK.Sl
def L5 (S:List Addr)(H:Hp):Hp:=fun b=>if b∈S then none else H b
def Q6v {S:List Addr}{H:Hp}{b:Addr}(h:b∈S):L5 S H b=none:=aG h
def Q0r {S:List Addr}{H:Hp}{b:Addr}(h:b∉S):L5 S H b=H b:=az h
def W1q {S:List Addr}{H:Hp}{b:Addr}{u:HO}(h:L5 S H b=some u):b∉S/\H b=some u:=by
 by_cases hb:b∈S
 ·rw [Q6v hb]at h;cases h
 ·exact⟨hb,by rw [Q0r hb]at h;exact h⟩
def showS (S:List Addr)(H H':Hp):Hp:=fun b=>if b∈S then H b else H' b
def Y5q {S:List Addr}{H H':Hp}{b:Addr}(h:b∈S):showS S H H' b=H b:=aG h
def Z0d {S:List Addr}{H H':Hp}{b:Addr}(h:b∉S):showS S H H' b=H' b:=az h
def S5 (S:List Addr)(H:Hp):Prop:=∀c∈S,∃o u,H c=some (.frz o M5)/\o.data=.cell u
section
variable {P:Program}{w:World}{S:List Addr}{H:Hp}{h h':Heap}
def S5.out (hS:S5 S H){b:Addr}{u:HO}(e:H b=some u)(n:∀o,u≠.frz o M5):b∉S:=fun hb=>by
 obtain⟨o,_,q,_⟩:=hS b hb;rw [e]at q;exact n o (aA q)
def S5.tup (hS:S5 S H){b:Addr}{xs:List V}(e:H b=some (.tup xs)):L5 S H b=some (.tup xs):=by
 rw [Q0r (hS.out e (by intro o z;cases z))];exact e
def S5.own (hS:S5 S H){a b:Addr}{u:HO}(ow:Z1o a u)(e:H b=some u):L5 S H b=some u:=by
 rw [Q0r (hS.out e (by
  intro o z;rcases ow with rfl | ⟨o',rfl⟩
  ·cases z
  ·injection z with _ z;cases z))]
 exact e
def F7.hid (x:F7 P w H h)(hS:S5 S H)(k:∀b u,h.get? b=some u->h'.get? b=some u):F7 P w (L5 S H) h':=fun b u e=>by
 obtain⟨hb,e⟩:=W1q e;exact(x b u e).stay (fun c v _ q=>k c v q) (fun c v ow q=>hS.own ow q) fun c xs q=>hS.tup q
end
end L2
namespace TK
open PySem PySem.Spec PyProof.Rows L2
def HidP (Φ:Hp->Prop):Prop:=∀(S:List Addr) (H:Hp),S5 S H->Φ H->Φ (L5 S H)
mutual
theorem A1.hid {K:Fg9}{S:List Addr}{H:Hp}(hS:S5 S H):∀(d:D) (v:V),A1 K H d v->A1 K (L5 S H) d v
 | .non,v,h=>by unfold A1 at h ⊢;exact h
 | .bl _,v,h=>by unfold A1 at h ⊢;exact h
 | .int _,v,h=>by unfold A1 at h ⊢;exact h
 | .str _,v,h=>by unfold A1 at h ⊢;exact h
 | .tup ds,v,h=>by
  unfold A1 at h ⊢;obtain⟨a,xs,e,q,t⟩:=h;exact⟨a,xs,e,hS.tup q,AllS.hid hS ds xs t⟩
 | .lst ds,v,h=>by
  unfold A1 at h ⊢;obtain⟨a,xs,e,q,t⟩:=h;refine⟨a,xs,e,?_,AllS.hid hS ds xs t⟩;rcases q with⟨o,q⟩ | q
  ·exact .inl ⟨o,by rw [Q0r (hS.out q (by intro o z;injection z with _ z;cases z))];exact q⟩
  ·exact .inr q
theorem AllS.hid {K:Fg9}{S:List Addr}{H:Hp}(hS:S5 S H):∀(ds:List D) (xs:List V),AllS K H ds xs->AllS K (L5 S H) ds xs
 | [],xs,h=>by unfold AllS at h ⊢;exact h
 | d::ds,xs,h=>by
  unfold AllS at h ⊢;obtain⟨v,r,e,q,t⟩:=h;exact⟨v,r,e,A1.hid hS d v q,AllS.hid hS ds r t⟩
end
def Q3o (K:Fg9)(H:Hp):Sl->V->Prop
 | .dat d,v=>A1 K H d v
 | .cl a Φ,v=>v=.ref a/\Φ H/\Q4o Φ/\HidP Φ
 | _,_=>False
theorem Q3o.mono {K:Fg9}{H H':Hp}(k:Kp H H'):∀{s:Sl}{v:V},Q3o K H s v->Q3o K H' s v
 | .dat d,v,h=>A1.mono k d v h
 | .cl a Φ,v,h=>⟨h.1,h.2.2.1 _ _ k h.2.1,h.2.2⟩
 | .own _,_,h=>h.elim
 | .bor _,_,h=>h.elim
 | .bd _,_,h=>h.elim
 | .dk _,_,h=>h.elim
 | .dt _,_,h=>h.elim
 | .ob _,_,h=>h.elim
 | .ins _ _ _,_,h=>h.elim
 | .ll _ _,_,h=>h.elim
theorem Q3o.slot {K:Fg9}{S:List Addr}{H:Hp}(hS:S5 S H):∀{s:Sl}{v:V},Q3o K H s v->O3 K (L5 S H) (L5 S H) s v/\s.mut=false
 | .dat d,v,h=>⟨A1.hid hS d v h,rfl⟩
 | .cl a Φ,v,h=>⟨⟨h.1,h.2.2.2 _ _ hS h.2.1,h.2.2.1⟩,rfl⟩
 | .own _,_,h=>h.elim
 | .bor _,_,h=>h.elim
 | .bd _,_,h=>h.elim
 | .dk _,_,h=>h.elim
 | .dt _,_,h=>h.elim
 | .ob _,_,h=>h.elim
 | .ins _ _ _,_,h=>h.elim
 | .ll _ _,_,h=>h.elim
structure Z8b (K:Fg9)(H:Hp)(p:M8):Prop where
 at_:H p.addr=some (.frz p.obj M5)
 cell:∃u,p.obj.data=.cell (some u)/\C1 p.val u
 rel:Q3o K H p.slot p.val
def Q1q (K:Fg9)(caps:List M8)(f c':Addr)(fo:Obj)(H:Hp):Prop :=
 H f=some (.frz fo M5)/\(∃oc Pt,H c'=some (.frz oc (.own Pt))/\Q4m oc)/\∀p∈caps,Z8b K H p
def Q1q.mono {K:Fg9}{caps:List M8}{f c':Addr}{fo:Obj}:Q4o (Q1q K caps f c' fo):=fun H H' k ⟨h1,⟨oc,Pt,h2,h3⟩,h4⟩ =>
 ⟨k.frz _ _ _ h1,⟨oc,Pt,k.frz _ _ _ h2,h3⟩,fun p hp=>⟨k.frz _ _ _ (h4 p hp).at_,(h4 p hp).cell,(h4 p hp).rel.mono k⟩⟩
def Q7c (K:Fg9)(n:Nat)(Φ:Hp->Prop)(sp:D9):Sp:=fun vs H Q _=>∃(rs:List R) (r:R),rs.length=n/\K5 K (fun _=>none) H rs vs/\rs.all N1=true/\Φ H/\sp (rs.map J9) r/\∀v H',A5 H H'->E5 K H H' r v->Q v H'
end TK
namespace L2
open PySem PySem.Spec PyProof.Rows TK
abbrev P5 (caps:List M8):List (Str×Addr):=caps.map fun p=>(p.name,p.addr)
structure Q6h (ps fr:List Str)(sc:Scope):Prop where
 kind:sc.kind=.function
 co:sc.isCoroutine=false
 gen:sc.isGenerator=false
 nd:(ps++fr).Nodup
 par:∀x∈ps,sc.names.lookup x=some .local
 fre:∀x∈fr,sc.names.lookup x=some .free
 nocell:∀y∈sc.names,y.2≠.cell
 all:∀y∈sc.names,y.2=.free->y.1∈fr
def cxL (P:Program)(w:World)(K:Fg9)(mg:Str->Option Value)(base:Heap)(N:List Str)(q:Str)(sc:Scope)(f c':Addr)(caps:List M8)(A:Around)(outer:List Env)(s:Shared)(H:Hp):Cx where
 prog:=P
 w:=w
 K:=K
 mg:=mg
 base:=base
 A:=A.deeper (PySem.W.envX q sc s.heap.objs.size f (.ref c') (P5 caps))
 N:=N
 s₀:=s
 H₀:=H
 env:=PySem.W.envX q sc s.heap.objs.size f (.ref c') (P5 caps)
 outer:=outer
 stack:=PySem.W.envX q sc s.heap.objs.size f (.ref c') (P5 caps)::outer
 ex:=[]
 calm:=true
 fn:=fun _=>false
 pn:=[]
 xe:=fun _ _=>False
def Q9j {caps:List M8}{x:Str}{c:Addr}(h:(P5 caps).lookup x=some c):∃p∈caps,p.name=x/\p.addr=c:=by
 have:=bJ h;obtain⟨p,hp,e⟩:=ah.mp this;cases e;exact⟨p,hp,rfl,rfl⟩
theorem Z2f:∀{caps:List M8}{p:M8},(caps.map (·.name)).Nodup->p∈caps->(P5 caps).lookup p.name=some p.addr
 | [],_,_,mem=>absurd mem (by simp)
 | q::r,p,nd,mem=>by
  rw [am,bi]at nd;show List.lookup p.name ((q.name,q.addr)::P5 r)=_;rcases ar.mp mem with rfl | mem
  ·simp [List.lookup]
  ·have cz:p.name≠q.name:=fun z=>nd.1 (z ▸ List.mem_map_of_mem mem);rw [List.lookup_cons];have:(p.name==q.name)=false:=by simpa using cz
   rw [this];exact Z2f nd.2 mem
theorem Z1x:∀{caps:List M8}{p q:M8},(caps.map (·.addr)).Nodup->p∈caps->q∈caps->p.addr=q.addr->p=q
 | [],_,_,_,h,_,_=>absurd h (by simp)
 | r::l,p,q,nd,h1,h2,e=>by
  rw [am,bi]at nd;rcases ar.mp h1 with a1 | a1
  ·rcases ar.mp h2 with a2 | a2
   ·rw [a1,a2]
   ·exact absurd (ah.mpr ⟨q,a2,by rw [<- e,a1]⟩) nd.1
  ·rcases ar.mp h2 with a2 | a2
   ·exact absurd (ah.mpr ⟨p,a1,by rw [e,a2]⟩) nd.1
   ·exact Z1x nd.2 a1 a2 e
end L2
end
section
namespace L2
open PySem PySem.Spec PyProof.Rows TK
section
variable {Pg:Program}{Wd:World}{Ar:Around}{Rs:Result->Shared->Prop}{s:Shared}
def Y9g {a:Addr}{args:Args}{o:Obj}{fd:FuncData}{body:Expr}{q:Str}(deep:Ar.depth<recursionLimit)(at_:s.heap.get? a=some o)(is:o.data=.func fd)(c0:fd.scope.isCoroutine=false)(g0:fd.scope.isGenerator=false)(bd:fd.body=.expr body)(cd:s.heap.CodeRec fd.code q)
  (go:wpAny (model Pg Wd) Ar.in1 (bindArgs fd args)
   (fun bs s1=>wpAny (model Pg Wd) Ar.in1 (newFunctionEnv fd.scope fd.globals fd.closure bs (q++".<locals>.") (some a) fd.code none fd.builtins) (fun ev s2=>s2.heap.NoLimit/\codeAny (model Pg Wd) Ar (.expr body ev) Rs s2) (fun x s1=>Rs (.error x) s1) s1)
   (fun x s1=>Rs (.error x) s1) s):codeAny (model Pg Wd) Ar (.call (.ref a) args) Rs s:=by
 obtain⟨c,oc,fs,tk,hc,eE,qM,hn⟩:=cd;have run:wpAny (model Pg Wd) Ar.in1 (callAny (.ref a) args) (fun fin s1=>match fin with | .done fl=>Rs (.ok fl) s1 | .again c'=>c'.quiet=true/\codeAny (model Pg Wd) Ar c' Rs s1) (fun x s1=>Rs (.error x) s1) s:=by
  unfold callAny;refine a8 (wpAny_load at_ ?_);rw [is];dsimp only;rw [hc]at go;unfold callFunction;simp only [c0,g0,bd,hc];refine a8 (m:=field (.ref c) 1) (cJ eE qM hn (a8 (ao (a8 (B4 go fun bs s1 h1=>?_)))));exact a8 (B4 h1 fun ev s2 bR=>(by obtain⟨i0,h2⟩:=bR;exact a8 (wpAny_enterFrame i0 deep (ao ⟨rfl,h2⟩))))
 exact codeAny_of_tree run
end
theorem V4e {x:Str}{u:Value}:∀{ps:List Str}{us:List Value}{i:Nat},ps.Nodup->ps[i]?=some x->us[i]?=some u->(ps.zip us).reverse.lookup x=some u:=by
 intro ps us i nd h1 h2;have hm:(x,u)∈(ps.zip us).reverse:=by
  rw [List.mem_reverse];refine aB (i:=i) ?_;rw [List.getElem?_zip_eq_some];exact⟨h1,h2⟩
 have un:∀v,(x,v)∈(ps.zip us).reverse->v=u:=fun v hv=>by
  rw [List.mem_reverse]at hv;obtain⟨j,hj⟩:=List.getElem?_of_mem hv;rw [List.getElem?_zip_eq_some]at hj;have hi:i<ps.length:=(av.mp h1).1;have mF:i=j:=(List.getElem?_inj hi nd).mp (h1.trans hj.1.symm);subst mF;rw [h2]at hj;exact(aA hj.2).symm
 cases hl:(ps.zip us).reverse.lookup x with
 | none =>
  have:=List.lookup_eq_none_iff.mp hl _ hm;simp at this
 | some v=>rw [un v (bJ hl)]
section
variable {P:Program}{w:World}{K:Fg9}{mg:Str->Option Value}{base:Heap}{ps:List Str}{q:Str}{sc:Scope}{f c':Addr}{caps:List M8}{A:Around}{outer:List Env}{s:Shared}{H:Hp}{us:List Value}{vs:List V}
def W2i (S:Q6h ps (caps.map (·.name)) sc)(kr:(caps.map (·.addr)).Nodup)(hd:A.handled=none)(e0:Q1o P w K mg base A outer s H)(hl:vs.length=ps.length)(r:C0 vs us)(hc:∀p∈caps,Z8b K H p)
  {h1:Heap}{tk:Nat} (iJ:h1.Ns s.heap.objs.size fun x=>(ps.zip us).reverse.lookup x) (hk:∀b o,s.heap.get? b=some o->h1.get? b=some o) :
  A0 (cxL P w K mg base (ps++caps.map (·.name)) q sc f c' caps A outer s (L5 (caps.map (·.addr)) H)) [] ((vs++caps.map (·.val)).map some) (L5 (caps.map (·.addr)) H) { s with heap:=h1,toks:=tk }:=by
 have hS:S5 (caps.map (·.addr)) H:=fun c dy=>by
  obtain⟨p,hp,rfl⟩:=ah.mp dy;obtain⟨u,hu,_⟩:=(hc p hp).cell;exact⟨_,_,(hc p hp).at_,hu⟩
 have je:∀b,H b=none->L5 (caps.map (·.addr)) H b=none:=fun b n=>by
  unfold L5;split
  ·rfl
  ·exact n
 have jz:(caps.map (·.name)).Nodup:=(be.mp S.nd).2.1;have kO:∀p∈caps,∃u,h1.IsCell p.addr (some u)/\C1 p.val u:=fun p hp=>by
  obtain⟨u,hu,ru⟩:=(hc p hp).cell;exact⟨u,⟨p.obj,hk _ _ (e0.hok _ _ (hc p hp).at_).1,hu⟩,ru⟩
 have eI:∀b:Addr,b∉(cxL P w K mg base (ps++caps.map (·.name)) q sc f c' caps A outer s (L5 (caps.map (·.addr)) H)).ex:=fun b z=>absurd (show b∈([]:List Addr)from z) (by simp);refine⟨⟨e0.mod,S.kind,rfl,rfl,aq _,fun y z c h1 h2=>?_,fun y hy=>?_,fun y c hf _=>absurd (show false=true from hf) (by decide),fun _=>hd,Around.frames_deeper e0.frames,.inr ⟨rfl,rfl⟩,fun b z=>absurd z (eI b),fun b o e=>⟨(e0.bs b o e).1,je _ (e0.bs b o e).2⟩,e0.bsz,fun b _ _=>eI b,fun b z=>absurd z (eI b),e0.funs,fun b hb=>je _ (e0.frf b hb)⟩,
  rfl,e0.bare,Un.kept hk,⟨_,iJ,fun i y v h1 h2 h3=>?_⟩,fun y c h=>?_,je _ (e0.hok.fresh (aq _)),fun y c h=>?_,fun p hp=>absurd (show p∈([]:Pn9)from hp) (by simp),e0.hok.hid hS hk,?_⟩
 ·obtain⟨p,hp,rfl,e1⟩:=Q9j h1;obtain⟨p',qo,rfl,e2⟩:=Q9j h2;rw [Z1x kr hp qo (e1.trans e2.symm)]
 ·have hy:sc.names.lookup y=some .cell\/sc.names.lookup y=some .free:=hy;rcases hy with hy | hy
  ·exact absurd rfl (S.nocell _ (bJ hy))
  ·have:=S.all _ (bJ hy) rfl;obtain⟨p,hp,e⟩:=ah.mp this;have e:p.name=y:=e;exact⟨p.addr,by rw [<- e];exact Z2f jz hp⟩
 ·by_cases hi:i<ps.length
  ·have hp:ps[i]?=some y:=by rw [show(cxL P w K mg base (ps++caps.map (·.name)) q sc f c' caps A outer s (L5 (caps.map (·.addr)) H)).N=ps++caps.map (·.name)from rfl,aJ hi]at h1;exact h1
   have hv:vs[i]?=some v:=by
    rw [af,aJ (by omega)]at h2;cases e:vs[i]? with
    | none=>rw [e]at h2;cases h2
    | some a=>rw [e]at h2;cases h2;rfl
   obtain⟨u,hu,rv⟩:=r.get hv;exact⟨u,rv,.inl ⟨S.par y (aB hp),V4e (be.mp S.nd).1 hp hu⟩⟩
  ·have hp:(caps.map (·.name))[i-ps.length]?=some y:=by rw [show(cxL P w K mg base (ps++caps.map (·.name)) q sc f c' caps A outer s (L5 (caps.map (·.addr)) H)).N=ps++caps.map (·.name)from rfl,aQ (by omega)]at h1;exact h1
   have hv:(caps.map (·.val))[i-ps.length]?=some v:=by
    rw [af,aQ (by omega),hl]at h2;cases e:(caps.map (·.val))[i-ps.length]? with
    | none=>rw [e]at h2;cases h2
    | some a=>rw [e]at h2;cases h2;rfl
   rw [af]at hp hv;cases e:caps[i-ps.length]? with
   | none=>rw [e]at hp;cases hp
   | some p =>
    rw [e]at hp hv;cases hp;cases hv;have mn:=aB e;obtain⟨u,db,ru⟩:=kO p mn;exact⟨u,ru,.inr ⟨.inr (S.fre _ (List.mem_map_of_mem mn)),p.addr,Z2f jz mn,db⟩⟩
 ·obtain⟨p,hp,rfl,rfl⟩:=Q9j h;obtain⟨u,db,_⟩:=kO p hp;exact⟨_,db⟩
 ·obtain⟨p,hp,rfl,rfl⟩:=Q9j h;exact Q6v (List.mem_map_of_mem hp)
 ·rw [ac,ai,ac,hl];show _=(ps++caps.map (·.name)).length;rw [ai,ac]
end
def A5.showS {S:List Addr}{H H':Hp}(hS:S5 S H)(sm:A5 (L5 S H) H'):A5 H (L2.showS S H H'):=fun b u e=>by
 by_cases hb:b∈S
 ·rw [Y5q hb];exact e
 ·rw [Z0d hb];exact sm b u (by rw [Q0r hb];exact e)
def Z2x {P:Program}{w:World}{K:Fg9}{mg:Str->Option Value}{base:Heap}{k:Nat}{f c':Addr}{name qual:Str}{params:Arguments}{body:Expr}{sc:Scope}{pm ctv:Value}{ps:List Str}{caps:List M8}{sp:D9}{wb:WE}
  (S:Q6h ps (caps.map (·.name)) sc) (kr:(caps.map (·.addr)).Nodup)
  (bF:∀(A:Around) (outer:List Env) (s:Shared) (H:Hp) (q:Str),D4 k (A.deeper (PySem.W.envX q sc s.heap.objs.size f (.ref c') (P5 caps)))->DE (cxL P w K mg base (ps++caps.map (·.name)) q sc f c' caps A outer s H) H body wb)
  (hw:∀rs r,rs.length=ps.length->sp rs r->∃(ds:List D) (d:D),rs=ds.map R.st/\r=.st d/\wb (ds.map (fun d=>some (Sl.dat d))++caps.map fun p=>some p.slot) fun r'=>r'=.st d) :
  M9 P w K mg base G2 (k+1) f (PySem.W.kla_fn name qual params body sc (P5 caps) pm (.ref c') ctv) ps (Q7c K ps.length (Q1q K caps f c' (PySem.W.kla_obj name qual params body sc (P5 caps) pm c' ctv)) sp):=by
 refine⟨fun vs H Q E h=>?_,fun A outer s H args us vs Q E hr e0 hb r eK=>?_⟩
 ·obtain⟨rs,r,hl,al,_⟩:=h;rw [<- al.length];exact hl
 obtain⟨rs,r0,hl,al,ok,⟨hf,⟨oc,Pt,hc,qc⟩,fL⟩,h1,h2⟩:=eK;have qz:vs.length=ps.length:=by rw [<- al.length];exact hl
 have i0:s.heap.NoLimit:=e0.mod.nolimit.keeps fun b o e=>(e0.bs b o e).1;have gf:s.heap.get? f=some _:=(e0.hok _ _ hf).1;have gc:s.heap.get? c'=some oc:=(e0.hok _ _ hc).1;obtain⟨rp,q,tq,dq,hq⟩:=qc;obtain⟨ds,d,g5,rfl,pZ⟩:=hw (rs.map J9) r0 (by rw [ac];exact hl) h1;have hS:S5 (caps.map (·.addr)) H:=fun c dy=>by
  obtain⟨p,hp,rfl⟩:=ah.mp dy;obtain⟨u,hu,_⟩:=(fL p hp).cell;exact⟨_,_,(fL p hp).at_,hu⟩
 refine Y9g (fd:=PySem.W.kla_fn name qual params body sc (P5 caps) pm (.ref c') ctv) hr.depth gf rfl S.co S.gen rfl ⟨c',oc,rp,tq,rfl,gc,dq,hq⟩ (hb _ _ _ _ ?_);refine wpAny_newFunctionEnv S.nocell (fun y hy=>S.par _ (dX hy).1) (fun h1 iJ ki=>⟨(i0).fresh _ ki,?_⟩) S.kind;have hk:∀b o,s.heap.get? b=some o->h1.get? b=some o:=fun b o e=>(ki.2 b (ay (ax e))).trans (aj _ e);show codeAny _ _ (.expr body (PySem.W.envX q sc s.heap.objs.size f (.ref c') (P5 caps))) _ _;have I:=W2i (q:=q) (f:=f) (c':=c') (tk:=s.toks+(ps.zip us).length) S kr hr.hd e0 qz r fL iJ hk;have hD:=bF A outer s (L5 (caps.map (·.addr)) H) q (hr.deeper _);have rep:C4 K (L5 (caps.map (·.addr)) H) (ds.map (fun d=>some (Sl.dat d))++caps.map fun p=>some p.slot) ((vs++caps.map (·.val)).map some) (L5 (caps.map (·.addr)) H):=by
  have bD:ds.length=vs.length:=by
   have:=congrArg List.length g5;rw [ac,ac]at this;rw [<- this,al.length]
  have args:∀(i:Nat) (d:D),ds[i]?=some d->∃v,vs[i]?=some v/\A1 K H d v:=fun i d e=>by
   have:(rs.map J9)[i]?=some (.st d):=by rw [g5,af,e];rfl
   rw [af]at this;cases e2:rs[i]? with
   | none=>rw [e2]at this;cases this
   | some x =>
    rw [e2]at this;have hx:J9 x=.st d:=aA this;obtain⟨v,hv,q⟩:=al.get e2;refine⟨v,hv,?_⟩;cases x with
    | st y=>cases hx;exact q
    | nw _=>cases hx
    | bw _=>cases hx
    | dk _=>cases hx
    | dt _=>cases hx
    | ob _=>cases hx
    | cl _ _=>cases hx
    | ms _ _ _ _=>cases hx
  have Q3r:∀(i:Nat) (sl:Sl),(ds.map (fun d=>some (Sl.dat d))++caps.map fun p=>some p.slot)[i]?=some (some sl)->∃v,((vs++caps.map (·.val)).map some)[i]?=some (some v)/\TK.O3 K (L5 (caps.map (·.addr)) H) (L5 (caps.map (·.addr)) H) sl v/\sl.mut=false:=fun i sl e=>by
   by_cases hi:i<ds.length
   ·rw [aJ (by rw [ac];exact hi),af]at e;cases e1:ds[i]? with
    | none=>rw [e1]at e;cases e
    | some y =>
     rw [e1]at e;cases e;obtain⟨v,hv,q⟩:=args i y e1;refine⟨v,?_,A1.hid hS _ _ q,rfl⟩;rw [af,aJ (by omega),hv];rfl
   ·rw [aQ (by rw [ac];omega),ac,af]at e;cases e1:caps[i-ds.length]? with
    | none=>rw [e1]at e;cases e
    | some p =>
     rw [e1]at e;cases e;obtain⟨q1,q2⟩:=(fL p (aB e1)).rel.slot hS;refine⟨p.val,?_,q1,q2⟩;rw [af,aQ (by omega),af,<- bD,e1];rfl
  refine⟨by simp [bD],A5.refl _,fun i sl e=>let ⟨v,a,b,_⟩:=Q3r i sl e;⟨v,a,b⟩,fun i j s t v _ e1 _ m _ _ _=>?_⟩;obtain⟨_,_,_,z⟩:=Q3r i s e1;rw [z]at m;cases m
 refine PySem.W.kla_codeExpr (aL (hD.pe [] _ _ _ (fun v H'=>A5 (L5 (caps.map (·.addr)) H) H'/\A1 K H' d v) I ⟨_,rep,hD.mono _ _ _ (fun r' kn v H' sm ir=>by subst kn;exact⟨sm,ir⟩) pZ⟩) (fun u s' hs=>?_) fun e s' hs=>(show False from hs).elim);obtain⟨v,H',J,rv,sm,q⟩:=hs;have out:∀b u,H' b=some u->b∉caps.map (·.addr):=fun b u e fh=>by
  obtain⟨o,u',js,_⟩:=hS b fh;have:=J.base.free b o (e0.hok _ _ js).1 (Q6v fh) (by show b∉([]:List Addr);simp);rw [this]at e;cases e
 have cM:A5 H' (L2.showS (caps.map (·.addr)) H H'):=fun b u e=>by rw [Z0d (out b u e)];exact e
 have kZ:=A5.showS hS sm;show CE outer P w H s Q u s';refine⟨v,L2.showS (caps.map (·.addr)) H H',J.os,J.bare,?_,?_,rv,h2 v (L2.showS (caps.map (·.addr)) H H') kZ (show E5 K H (L2.showS (caps.map (·.addr)) H H') (.st d) v from A1.mono (Kp.of cM) d v q)⟩
 ·have hn:∀b,H b=none->b∉caps.map (·.addr):=fun b n hb=>by obtain⟨o,u,q,_⟩:=hS b hb;rw [n]at q;cases q
  have jf:∀b,H b=none->L5 (caps.map (·.addr)) H b=none:=fun b n=>by rw [Q0r (hn b n)];exact n
  refine⟨fun b o e n hb hx=>J.base.keep b o e (jf b n) hb hx,fun b o e n hb hx=>J.base.slot b o e (jf b n) hb hx,fun b o e n hx=>?_,fun b o e hx=>J.base.there b o e hx,fun b xs e=>kZ _ _ e,fun b o u e=>kZ _ _ e,fun b ps e=>⟨#[],by rw [kZ _ _ e];simp⟩⟩;rw [Z0d (hn b n)];exact J.base.free b o e (jf b n) hx
 ·intro b u e
  by_cases fh:b∈caps.map (·.addr)
  ·rw [Y5q fh]at e;obtain⟨o,u',js,_⟩:=hS b fh;rw [js]at e;cases e;have g:=(e0.hok _ _ js).1;have:b∉E6 outer:=fun z=>by have:=e0.frf b z;rw [js]at this;cases this
   exact Q6m (J.base.keep b o g (Q6v fh) this (by show b∉([]:List Addr);simp))
  ·rw [Z0d fh]at e;exact(J.hok b u e).stay (fun c v _ q=>q) (fun c v _ q=>cM _ _ q) fun c xs q=>cM _ _ q
end L2
end
section
namespace L2
open PySem PySem.Spec PyProof.Rows TK
structure FnC (P:Program)(w:World)(K:Fg9)(mg:Str->Option Value)(base:Heap)(k n:Nat)(f:Addr)(Φ:Hp->Prop)(sp:D9):Prop where
 ex:∃(fd:FuncData) (ps:List Str),M9 P w K mg base G2 k f fd ps (Q7c K n Φ sp)/\ps.length=n/\Q0 K fd ps []/\∀(h:Heap) (H:Hp),F7 P w H h->K.In h->Φ H->∃o,h.get? f=some o/\o.data=.func fd
section
variable {X:Cx}{k n i:Nat}{x:Str}{e:Expr}{es:List Expr}{t:TA}{p pos:Pos}
def W6o (hr:D4 k X.A)(hv:PE X (.Name x p) (S4 i))(ha:PA X (e::es) t)(he:starEach (e::es) X.env=(false,eval e X.env)::starEach es X.env:=by rfl)(hpl:(backTo pos (starEach es X.env)).any (·.1)=false:=by rfl) :
  PE X (.Call (.Name x p) (e::es) [] pos) (fun σ H Q=>∃f Φ sp,σ[i]?=some (some (.ref f))/\FnC X.prog X.w X.K X.mg X.base k n f Φ sp/\t σ H fun vs H1=>Q7c X.K n Φ sp vs H1 Q E0):=by
 intro a9 s σ H Q I ⟨f,Φ,sp,h0,F,h⟩;obtain⟨fd,ps,F,hn,hb,here⟩:=F.ex;refine bc (B4 (hv a9 s σ H (fun v H'=>v=.ref f/\t σ H' fun vs H1=>Q7c X.K n Φ sp vs H1 Q E0) I ⟨.ref f,h0,rfl,h⟩) fun u s1 bu=>?_);obtain⟨v,H1,I1,r,ev,q⟩:=bu;subst ev;obtain rfl:u=Value.ref f:=r;refine PySem.W.callWith_of (P:=fun h=>∃o,h.get? f=some o/\o.data=.func fd) (by rw [he];show((false||(backTo pos (starEach es X.env)).any (·.1))||false)=false;rw [hpl];rfl) (fun h ⟨o,e1,e2⟩=>⟨.frame,.inl rfl,?_⟩) ?_
 ·obtain⟨oc,od,dt,sl⟩:=o;have e2:dt=.func fd:=e2;subst e2;exact(PySem.W.Looks.ld (part:=none) e1).andThen .now
 rw [he];refine gr ?_;have h2:=ha pos a9 s1 σ H1 _ I1 q;rw [he]at h2;refine B4 h2 fun us s2 ⟨vs,H2,I2,r,q⟩=>⟨?_,?_⟩
 ·obtain⟨rs,r0,_,_,_,hΦ,_⟩:=q;exact here _ _ I2.hok I2.kIn hΦ
 ·have:=Y4c F hr hb .nil Q9w I2 r (show Q7c X.K n Φ sp (vs++[]) H2 Q E0 by rw [aW];exact q);exact this
end
end L2
namespace TK
open PySem PySem.Spec PyProof.Rows L2
abbrev Q2:=Nat->Addr->(Hp->Prop)->D9->Prop
section
variable {X:Cx}{H0:Hp}{e:Expr}{es:List Expr}{wr:WA}{k i n:Nat}{x:Str}{p pos:Pos}
def Q3i (FC:Q2)(n i:Nat)(wr:WA):WE:=fun τ Q=>∃f Φ sp,τ[i]?=some (some (.cl f Φ))/\FC n f Φ sp/\wr τ fun rs=>rs.all N1=true/\∃r,sp (rs.map J9) r/\Q r
def DE.callC (hr:D4 k X.A)(hv:PE X (.Name x p) (S4 i))(ha:DA X H0 (e::es) wr)(he:starEach (e::es) X.env=(false,eval e X.env)::starEach es X.env:=by rfl)(hpl:(backTo pos (starEach es X.env)).any (·.1)=false:=by rfl) :
  DE X H0 (.Call (.Name x p) (e::es) [] pos) (Q3i (FnC X.prog X.w X.K X.mg X.base k) (e::es).length i wr) where
 mono:=fun τ P Q f bR=>(by obtain⟨g,Φ,sp,h0,F,h⟩:=bR;exact⟨g,Φ,sp,h0,F,ha.mono τ _ _ (fun rs cp=>(by obtain⟨ok,r,h1,h2⟩:=cp;exact⟨ok,r,h1,f r h2⟩)) h⟩)
 pe:=N4 (W6o (n:=(e::es).length) hr hv ha.pa he hpl) fun σ H Q cQ=>by
  obtain⟨τ,hR,f,Φ,sp,h0,F,h⟩:=cQ;obtain⟨v,hv,rv⟩:=hR.here i _ h0;obtain⟨rfl,hΦ,hM⟩:v=.ref f/\Φ H/\Q4o Φ:=rv;exact⟨f,Φ,sp,hv,F,τ,hR,ha.mono τ _ _ (fun rs dG vs H1 s1 cq=>(by obtain⟨ib,ok,r,h1,h2⟩:=dG;exact⟨rs,r,ib,cq.v,ok,hM _ _ (Kp.of s1) hΦ,h1,fun v H' s2 ir=>h2 v H' (s1.trans s2) (ir.older s1)⟩)) (ha.len τ _ h)⟩
@[simp] theorem Z5b {FC:Q2}{τ:A9}{Q:R->Prop}:Q3i FC n i wr τ Q=∃f Φ sp,τ[i]?=some (some (.cl f Φ))/\FC n f Φ sp/\wr τ fun rs=>rs.all N1=true/\∃r,sp (rs.map J9) r/\Q r:=rfl
end
end TK
end
section
namespace L2
open PySem PySem.Spec PyProof.Rows TK
def U9 (caps:List M8)(H:Hp):Hp:=fun b=>match caps.find? (fun p=>p.addr==b)with
 | some p=>some (.frz p.obj M5)
 | none=>H b
theorem Q4q {caps:List M8}{H:Hp}{p:M8}(nd:(caps.map (·.addr)).Nodup)(hp:p∈caps):U9 caps H p.addr=some (.frz p.obj M5):=by
 unfold U9;cases e:caps.find? (fun q=>q.addr==p.addr)with
 | none =>
  have:=List.find?_eq_none.mp e p hp;simp at this
 | some q =>
  have h1:(q.addr==p.addr)=true:=List.find?_some (p:=fun q:M8=>q.addr==p.addr) e;have h2:=List.mem_of_find?_eq_some e;rw [Z1x nd h2 hp (by simpa using h1)]
theorem Q8j {caps:List M8}{H:Hp}{b:Addr}(h:b∉caps.map (·.addr)):U9 caps H b=H b:=by
 unfold U9;cases e:caps.find? (fun q=>q.addr==b)with
 | none=>rfl
 | some q =>
  have h1:(q.addr==b)=true:=List.find?_some (p:=fun q:M8=>q.addr==b) e;have h2:=List.mem_of_find?_eq_some e;exact absurd (ah.mpr ⟨q,h2,by simpa using h1⟩) h
structure Q2n (X:Cx)(s:Shared)(p:M8):Prop where
 look:X.env.cells.lookup p.name=some p.addr
 own:X.fn p.name=true
 get:s.heap.get? p.addr=some p.obj
 cell:∃u,p.obj.data=.cell (some u)/\C1 p.val u
section
variable {X:Cx}{a9:Pn9}{σ:St}{H:Hp}{s:Shared}{caps:List M8}
theorem Z2g (I:A0 X a9 σ H s):∀{caps:List M8},(caps.map (·.name)).Nodup->(∀p∈caps,Q2n X s p)->(caps.map (·.addr)).Nodup
 | [],_,_=>List.nodup_nil
 | p::r,nd,h=>by
  rw [am,bi]at nd ⊢;refine⟨fun hm=>?_,Z2g I nd.2 fun q hq=>h q (ae _ hq)⟩;obtain⟨q,hq,e⟩:=ah.mp hm;have e:q.addr=p.addr:=e;have h1:=(h p ag).look;have h2:=(h q (ae _ hq)).look;rw [e]at h2;exact nd.1 (ah.mpr ⟨q,hq,I.ok.inj _ _ _ h2 h1⟩)
def Q6l (I:A0 X a9 σ H s)(hc:∀p∈caps,Q2n X s p):A5 H (U9 caps H):=fun b u e=>by
 rw [Q8j]
 ·exact e
 ·intro hb;obtain⟨p,hp,rfl⟩:=ah.mp hb;rw [I.freeC _ _ (hc p hp).look]at e;cases e
def Z1u (nd:(caps.map (·.addr)).Nodup)(hc:∀p∈caps,Q2n X s p):S5 (caps.map (·.addr)) (U9 caps H):=fun c jp=>by
 obtain⟨p,hp,rfl⟩:=ah.mp jp;obtain⟨u,hu,_⟩:=(hc p hp).cell;exact⟨p.obj,some u,Q4q nd hp,hu⟩
def W0s (I:A0 X a9 σ H s)(nd:(caps.map (·.addr)).Nodup)(hc:∀p∈caps,Q2n X s p):Q1o X.prog X.w X.K X.mg X.base X.A X.stack s (U9 caps H):=by
 have e0:=I.env0;have ge:∀p∈caps,X.s₀.heap.objs.size<=p.addr:=fun p hp=>I.ok.cab _ _ (hc p hp).own (hc p hp).look;have keep:∀b,b∉caps.map (·.addr)->H b=none->U9 caps H b=none:=fun b hb n=>by rw [Q8j hb];exact n
 refine⟨e0.frames,e0.mod,fun b o e=>⟨(e0.bs b o e).1,keep b (fun hb=>?_) (e0.bs b o e).2⟩,e0.bsz,e0.funs,fun b hb=>keep b (fun gQ=>?_) (e0.frf b hb),fun b u e=>?_,e0.bare⟩
 ·obtain⟨p,hp,rfl⟩:=ah.mp hb;exact absurd (au (ax e) I.ok.bsz) (Nat.not_lt.mpr (ge p hp))
 ·obtain⟨p,hp,rfl⟩:=ah.mp gQ;rcases ar.mp (I.stkSub _ hb)with z | z
  ·exact I.cne _ _ (hc p hp).look z
  ·obtain⟨_,o,ho,_⟩:=I.ok.funs.mem z;exact absurd (ax ho) (Nat.not_lt.mpr (ge p hp))
 ·by_cases hb:b∈caps.map (·.addr)
  ·obtain⟨p,hp,rfl⟩:=ah.mp hb;rw [Q4q nd hp]at e;cases e;exact Q6m (hc p hp).get
  ·rw [Q8j hb]at e;exact(I.hok b u e).stay (fun c v _ q=>q) (fun c v _ q=>Q6l I hc _ _ q) fun c xs q=>Q6l I hc _ _ q
theorem Y4d {CX:CXT}{k:Nat}{f:Addr}{fd:FuncData}{ps:List Str}{sp:Sp}{Q:VK}{E:XK}{us:List Value}{vs:List V}(F:M9 X.prog X.w X.K X.mg X.base G2 k f fd ps sp)(hr:D4 k X.A)(hb:Q0 X.K fd ps [])
  (I:A0 X a9 σ H s) (nd:(caps.map (·.addr)).Nodup) (hc:∀p∈caps,Q2n X s p) (r:C0 vs us) (h:sp vs (U9 caps H) (fun v H'=>A5 (U9 caps H) H'/\Q v (L5 (caps.map (·.addr)) H')) E):wpAny (model X.prog X.w) X.A (call (.ref f) us) (EP X a9 σ Q) X.xe s:=by
 have hl:us.length=ps.length:=by rw [<- r.length];exact F.len _ _ _ _ h
 have gQ:BindsTo s fd ⟨us,[]⟩ (ps.zip us):=by have:=hb s us I.kIn (by rw [aW];exact hl);rw [aW]at this;exact this
 refine wpAny_call (iS (F.run X.A X.stack s (U9 caps H) ⟨us,[]⟩ us vs _ E hr (W0s I nd hc) gQ r h) fun r s' hq=>?_);cases r with
 | error e=>exact(show False from hq).elim
 | ok fl =>
  cases fl with
  | next=>exact False.elim hq
  | brk=>exact False.elim hq
  | cont=>exact False.elim hq
  | ret u =>
   obtain⟨v,H',os,bare,un,hok,rv,sm,q⟩:=hq;have hS:S5 (caps.map (·.addr)) H':=fun c jp=>by
    obtain⟨o,u,e1,e2⟩:=Z1u (H:=H) nd hc c jp;exact⟨o,u,un.frzs _ _ _ e1,e2⟩
   have iX:∀b,H b=none->b∉caps.map (·.addr)->U9 caps H b=none:=fun b n hb=>by rw [Q8j hb];exact n
   have kept:∀p∈caps,s'.heap.get? p.addr=some p.obj:=fun p hp=>(hok _ _ (un.frzs _ _ _ (Q4q nd hp))).1;have Q2e:∀b u,H b=some u->b∉caps.map (·.addr):=fun b u e hb=>by
    obtain⟨p,hp,rfl⟩:=ah.mp hb;rw [I.freeC _ _ (hc p hp).look]at e;cases e
   have fk:∀b u,H b=some u->L5 (caps.map (·.addr)) H' b=some u:=fun b u e=>by
    rw [Q0r (Q2e b u e)];exact sm _ _ (Q6l I hc _ _ e)
   refine I.after ⟨v,L5 (caps.map (·.addr)) H',os,bare,⟨fun b o e n hb hx=>?_,fun b o e n hb hx=>?_,fun b o e n hx=>?_,fun b o e hx=>un.there b o e hx,fun b xs e=>fk _ _ e,fun b o u e=>fk _ _ e,fun b ps e=>⟨#[],by rw [fk _ _ e];simp⟩⟩,F7.hid hok hS fun _ _ q=>q,rv,q⟩
   ·by_cases fh:b∈caps.map (·.addr)
    ·obtain⟨p,hp,rfl⟩:=ah.mp fh;rw [(hc p hp).get]at e;cases e;exact kept p hp
    ·exact un.keep b o e (iX b n fh) hb hx
   ·by_cases fh:b∈caps.map (·.addr)
    ·obtain⟨p,hp,rfl⟩:=ah.mp fh;rw [(hc p hp).get]at e;cases e;exact⟨_,kept p hp⟩
    ·exact un.slot b o e (iX b n fh) hb hx
   ·by_cases fh:b∈caps.map (·.addr)
    ·exact Q6v fh
    ·rw [Q0r fh];exact un.free b o e (iX b n fh) hx
end
end L2
end
section
namespace TK
open PySem PySem.Spec PyProof.Rows L2
def Q0d (wb:WE)(cE:List Sl):D9:=fun rs r=>∃(ds:List D) (d:D),rs=ds.map R.st/\r=.st d/\wb (ds.map (fun d=>some (Sl.dat d))++cE.map some) fun r'=>r'=.st d
def capS:Sl->Prop
 | .dat _=>True
 | .cl _ Φ=>HidP Φ
 | _=>False
def Q1v (τ:A9):List (Str×Nat)->List Sl->Prop
 | [],cE=>cE=[]
 | c::cs,cE=>∃s r,cE=s::r/\τ[c.2]?=some (some s)/\capS s/\Q1v τ cs r
section
variable {X:Cx}{H0:Hp}{a9:Pn9}{σ:St}{H:Hp}{s:Shared}{τ:A9}
theorem Q8q (I:A0 X a9 σ H s)(hR:C4 X.K H0 τ σ H):∀{cs:List (Str×Nat)}{cE:List Sl},(∀c∈cs,X.N[c.2]?=some c.1/\X.env.kindOf c.1=some .cell/\X.fn c.1=true)->Q1v τ cs cE ->
  ∃caps:List M8,caps.map (·.name)=cs.map (·.1)/\caps.map (·.slot)=cE/\∀p∈caps,Q2n X s p/\Q3o X.K H p.slot p.val
 | [],cE,_,h=>by
  have h:cE=[]:=h;subst h;exact⟨[],rfl,rfl,fun p hp=>absurd hp (by simp)⟩
 | c::cs,cE,hk,h=>by
  obtain⟨sl,r,rfl,e,hc,h⟩:=h;obtain⟨caps,h1,h2,h3⟩:=Q8q I hR (fun c hc=>hk c (ae _ hc)) h;obtain⟨k1,k2,k3⟩:=hk c ag;obtain⟨v,hv,rv⟩:=hR.here c.2 sl e;obtain⟨m,hn,hl⟩:=I.loc;obtain⟨u,ru,lk⟩:=hl c.2 c.1 v k1 hv (.inr (.inl k2));rcases lk with⟨z,_⟩ | ⟨_,ca,fC,o,ho,hd⟩
  ·rw [k2]at z;cases z
  refine⟨⟨c.1,ca,o,v,sl⟩::caps,by rw [am,am,h1],by rw [am,h2],fun p hp=>?_⟩;rcases ar.mp hp with rfl | hp
  ·refine⟨⟨fC,k3,ho,⟨u,hd,ru⟩⟩,?_⟩;cases sl with
   | dat d=>exact rv
   | cl a Φ=>exact⟨rv.1,rv.2.1,rv.2.2,hc⟩
   | own _=>exact hc.elim
   | bor _=>exact hc.elim
   | bd _=>exact hc.elim
   | dk _=>exact hc.elim
   | dt _=>exact hc.elim
   | ob _=>exact hc.elim
   | ins _ _ _=>exact hc.elim
   | ll _ _=>exact hc.elim
  ·exact h3 p hp
theorem Q8p {cs:List (Str×Addr)}:∀{caps:List M8}{cs:List (Str×Addr)},caps.map (·.name)=cs.map (·.1)->(∀p∈caps,X.env.cells.lookup p.name=some p.addr)->(∀y∈cs,X.env.cells.lookup y.1=some y.2)->P5 caps=cs
 | [],[],_,_,_=>rfl
 | [],_::_,h,_,_=>by cases h
 | _::_,[],h,_,_=>by cases h
 | p::r,y::cs,h,h1,h2=>by
  rw [am,am,List.cons.injEq]at h;have e1:=h1 p ag;have e2:=h2 y ag;rw [h.1,e2]at e1;show(p.name,p.addr)::P5 r=y::cs;rw [Q8p (cs:=cs) h.2 (fun q hq=>h1 q (ae _ hq)) fun z hz=>h2 z (ae _ hz),h.1,<- aA e1]
end
def Z6l (FC:Q2)(n:Nat)(cs:List (Str×Nat))(wb:WE)(sp:D9)(we:WE):WE:=fun τ Q=>we τ fun r1=>N1 r1=true/\∃cE,Q1v τ cs cE/\∀f Φ,FC n f Φ (Q0d wb cE)->∃d,sp [J9 r1,.cl f Φ] (.st d)/\Q (.st d)
section
variable {X:Cx}{H0:Hp}{e:Expr}{we wb:WE}{k kl:Nat}{f:Addr}{fd:FuncData}{jZ ps:List Str}{sp:D9}{x:Str}{p pos cI:Pos}{params:Arguments}{body:Expr}{sc:Scope}{c Pt:Addr}{cs:List (Str×Nat)}{clos:List (Str×Addr)}
def DE.callW (F:M9 X.prog X.w X.K X.mg X.base G2 k f fd jZ (Q2x X.K 2 sp))(hr:D4 k X.A)(hg:Gl X x)(hm:X.mg x=some (.ref f))(hk:PySem.W.keepIn X.K (.ref f)=true)(hb:Q0 X.K fd jZ [])(ha:DE X H0 e we)
  (hT:H0 Pt=some .tab) (hB:Q0i X.mg X.base) (dP:X.env.code=.ref c) (hC:PySem.W.codeHdIn X.K c Pt=true) (ig:closureFor sc X.env=pure clos) (jo:cs.map (·.1)=clos.map (·.1)) (jI:∀y∈clos,X.env.cells.lookup y.1=some y.2)
  (g6:∀c∈cs,X.N[c.2]?=some c.1/\X.env.kindOf c.1=some .cell/\X.fn c.1=true) (S:Q6h ps (cs.map (·.1)) sc)
  (fg:∀(qual:Str) (cl:List (Str×Addr)) (pm cd ct:Value) (us:List Value),us.length=ps.length->bindArgs (PySem.W.kla_fn "<lambda>" qual params body sc cl pm cd ct) ⟨us,[]⟩=pure (ps.zip us))
  (bF:∀(caps:List M8) (f c':Addr) (A:Around) (outer:List Env) (s:Shared) (H:Hp) (q:Str),caps.map (·.name)=cs.map (·.1)->D4 kl (A.deeper (PySem.W.envX q sc s.heap.objs.size f (.ref c') (P5 caps)))->DE (cxL X.prog X.w X.K X.mg X.base (ps++cs.map (·.1)) q sc f c' caps A outer s H) H body wb)
  (cR:(x==("__debug__":Str))=false:=by decide) (he:starEach [e,.Lambda params body sc cI] X.env=(false,eval e X.env)::starEach [.Lambda params body sc cI] X.env:=by rfl) (mK:starEach [.Lambda params body sc cI] X.env=(false,eval (.Lambda params body sc cI) X.env)::starEach [] X.env:=by rfl)
  (hpl:(backTo pos (starEach [.Lambda params body sc cI] X.env)).any (·.1)=false:=by rfl) (hd:defaultsOf params X.env=([],[]):=by rfl) :
  DE X H0 (.Call (.Name x p) [e,.Lambda params body sc cI] [] pos) (Z6l (FnC X.prog X.w X.K X.mg X.base (kl+1)) ps.length cs wb sp we) where
 mono:=fun τ P Q g h=>ha.mono τ _ _ (fun r1 bR=>by obtain⟨ok,cE,h1,h2⟩:=bR;exact⟨ok,cE,h1,fun f Φ F=>let ⟨d,a,b⟩:=h2 f Φ F;⟨d,a,g _ b⟩⟩) h
 pe:=by
  intro a9 s σ H Q I ⟨τ,hR,h⟩;refine bc (Q3y I hg hm ?_ cR);have ng:PA X [e,.Lambda params body sc cI] (Q5y _ (Q5y _ Z6a)):=T0 (es:=[.Lambda params body sc cI]) ha.pe (T0 (es:=[]) (Z4q (pos:=cI) hB dP hC ig hd) X7 mK) he;refine PySem.W.callWith_K (h₀:=X.base) I.ok.mod.kin hk (B4 (ng pos a9 s σ H (fun vs H1=>A5 H H1/\∃v1 fa c' oc ctv r1,vs=[v1,.ref fa]/\E5 X.K H H1 r1 v1/\N1 r1=true/\Q4m oc/\H1 c'=some (.frz oc (.own Pt))/\H1 fa=some (.frz (W3 X params body sc clos c' ctv) M5) /\
   ∃cE,Q1v τ cs cE/\∀f Φ,FnC X.prog X.w X.K X.mg X.base (kl+1) ps.length f Φ (Q0d wb cE)->∃d,sp [J9 r1,.cl f Φ] (.st d)/\∀v H',A5 H H'->E5 X.K H H' (.st d) v->Q v H') I ?_) fun us s1 ⟨vs,H1,I1,r,iw,q⟩=>⟨I1.kIn,?_⟩) he hpl
  ·refine⟨τ,hR,ha.mono τ _ _ (fun r1 ⟨ok,cE,h1,h2⟩ v1 H1 s1 ir=>?_) h⟩;refine⟨s1 _ _ (hR.same _ _ hT),fun fa c' oc ctv H' sm eE hf dy jk _=>?_⟩;exact⟨s1.trans sm,v1,fa,c',oc,ctv,r1,rfl,ir.mono sm,ok,eE,dy,jk,cE,h1,h2⟩
  ·obtain⟨v1,fa,c',oc,ctv,r1,rfl,ir,ok,eE,dy,jk,cE,h1,h2⟩:=q;obtain⟨caps,n1,n2,jn⟩:=Q8q I1 (hR.mono iw) g6 h1;have fC:∀p∈caps,Q2n X s1 p:=fun p hp=>(jn p hp).1;have jz:(caps.map (·.name)).Nodup:=by rw [n1];exact(be.mp S.nd).2.1
   have nd:=Z2g I1 jz fC;have hL:P5 caps=clos:=Q8p (cs:=clos) (n1.trans jo) (fun p hp=>(fC p hp).look) jI;have fF:=Q6l I1 fC;subst hL;have LP:Q1q X.K caps fa c' (W3 X params body sc (P5 caps) c' ctv) (U9 caps H1):=⟨fF _ _ jk,⟨oc,Pt,fF _ _ dy,eE⟩,fun p hp=>⟨Q4q nd hp,(fC p hp).cell,(jn p hp).2.mono (Kp.of fF)⟩⟩
   have F0:=Z2x (P:=X.prog) (w:=X.w) (K:=X.K) (mg:=X.mg) (base:=X.base) (k:=kl) (f:=fa) (c':=c') (name:="<lambda>") (qual:=X.env.qual++"<lambda>") (params:=params) (body:=body) (sc:=sc) (pm:=(X.mg "__name__").getD .none) (ctv:=ctv) (ps:=ps) (caps:=caps) (sp:=Q0d wb cE) (wb:=wb) (by rw [n1];exact S) nd
    (fun A outer s H q hr=>by rw [n1];exact bF caps fa c' A outer s H q n1 hr) (fun rs r _ hs=>by
     obtain⟨ds,d,e1,e2,e3⟩:=hs;refine⟨ds,d,e1,e2,?_⟩;have:cE.map some=caps.map fun p=>some p.slot:=by rw [<- n2,aF];rfl
     rw [<- this];exact e3)
   obtain⟨d,g1,g2⟩:=h2 fa _ ⟨_,ps,F0,rfl,Q0.all (fg _ _ _ _ _),fun hh Hh hok _ hΦ=>⟨_,(hok _ _ hΦ.1).1,rfl⟩⟩;refine Y4d (CX:=G2) (E:=E0) F hr hb I1 nd fC r ⟨[r1,.cl fa _],.st d,rfl,⟨v1,_,rfl,(ir.mono fF).v,_,_,rfl,⟨rfl,LP,Q1q.mono⟩,rfl⟩,by rw [List.all_cons,ok];rfl,g1,fun v H' cM iv=>⟨cM,?_⟩⟩;have hS:S5 (caps.map (·.addr)) H':=fun c jp=>by
    obtain⟨o,u,e1,e2⟩:=Z1u (H:=H1) nd fC c jp;exact⟨o,u,cM _ _ e1,e2⟩
   have Q2e:∀b u,H1 b=some u->b∉caps.map (·.addr):=fun b u e hb=>by
    obtain⟨p,hp,rfl⟩:=ah.mp hb;rw [I1.freeC _ _ (fC p hp).look]at e;cases e
   exact g2 v _ (fun b u e=>by rw [Q0r (Q2e b u (iw _ _ e))];exact cM _ _ (fF _ _ (iw _ _ e))) (show A1 X.K _ d v from A1.hid hS d v iv)
@[simp] theorem V0g {FC:Q2}{n:Nat}{τ:A9}{Q:R->Prop}:Z6l FC n cs wb sp we τ Q=we τ fun r1=>N1 r1=true/\∃cE,Q1v τ cs cE/\∀f Φ,FC n f Φ (Q0d wb cE)->∃d,sp [J9 r1,.cl f Φ] (.st d)/\Q (.st d):=rfl
end
end TK
end
section
namespace L2
open PySem PySem.Spec PyProof.Rows TK
theorem W3n {P:Program}{w:World}{K:Fg9}{mg mb:Str->Option Value}{k:Nat}{fa a:Addr}{fd:FuncData}{x:Str}{sp:Sp}{s₁:Shared}{vs:List Value}{ns:List Int}{ts:List Addr}
  (KX:K.In s₁.heap) (iJ:s₁.heap.Ns mainGlobals mg) (hb:s₁.heap.Ns builtinsNs mb) (qV:∀x:Str,x≠"__name__"->mb x=bootBuiltins x) (mC:s₁.heap.NoLimit) (qT:Q0i mg s₁.heap) (hg:s₁.gens=#[])
  (iH:∀Pt∈ts,s₁.heap.get? Pt=some (PySem.W.tabObj #[])) (dq:∀Pt∈ts,∃c,PySem.W.codeHdIn K c Pt=true) (rf:∀Pt∈ts,K.lookup Pt=none)
  (ha:s₁.heap.get? a=some { cls:=.type "list",data:=.seq vs.toArray }) (hi:IntsAre vs ns) (hl:ns.length<=sizeLine) (hr:D4 k callerA)
  (F:∀base:Heap,K.In base->base.Ns mainGlobals mg->Q0i mg base->M9 P w K mg base G2 k fa fd [x] sp) (fg:∀(s:Shared) (u:Value),BindsTo s fd ⟨[u],[]⟩ [(x,u)])
  (eK:∀H:Hp,(∀Pt∈ts,H Pt=some .tab)->FzL K H a (ns.map V.int)->sp [.ref a] H (fun v H'=>v=.bl true/\∀Pt∈ts,H' Pt=some .tab) fun _ _ _=>False) :
  codeAny (model P w) callerA (.call (.ref fa) ⟨[.ref a],[]⟩) (fun r s'=>r=.ok (.ret (.bool true))/\OldK s₁.heap s'.heap/\s'.os=s₁.os/\AllBare s'.gens) s₁:=by
 have rv:=Y6z hi;have lV:=hi.length;have core:∀H:Hp,(∀b u,H b=some u->(b∈ts/\u=.tab)\/(b=a/\K.lookup a=none/\u=.frz { cls:=.type "list",data:=.seq vs.toArray } (.lst (ns.map V.int))))->(∀Pt∈ts,H Pt=some .tab)->FzL K H a (ns.map V.int) ->
   codeAny (model P w) callerA (.call (.ref fa) ⟨[.ref a],[]⟩) (fun r s'=>r=.ok (.ret (.bool true))/\OldK s₁.heap s'.heap/\s'.os=s₁.os/\AllBare s'.gens) s₁:=by
  intro H hO hT hS;have hok:F7 P w H s₁.heap:=fun b u e=>by
   rcases hO b u e with⟨hb,rfl⟩ | ⟨rfl,_,rfl⟩
   ·exact⟨#[],iH b hb,trivial,fun pos cv q=>by cases q⟩
   ·exact⟨ha,by rw [ac];exact hl,vs,_,rv,ha⟩
  have eF:∀{b:Addr}{o:Obj},s₁.heap.get? b=some o->H b=none->(Q0s s₁.heap H).get? b=some o:=fun e n=>W1r e n;have eI:∀{b:Addr}{o:Obj},s₁.heap.get? b=some o->(∀xs,o.data≠.fields xs)->(∀xs n,o.data≠.seq xs n)->H b=none:=fun {b o} e d1 d2=>by
   cases q:H b with
   | none=>rfl
   | some u =>
    rcases hO b u q with⟨hb,rfl⟩ | ⟨rfl,_,rfl⟩
    ·rw [iH b hb]at e;cases e;exact absurd rfl (d1 _)
    ·rw [ha]at e;cases e;exact absurd rfl (d2 _ _)
  have l6:∀{b:Addr}{m:Str->Option Value},s₁.heap.Ns b m->(Q0s s₁.heap H).Ns b m:=fun {b m} bR=>(by obtain⟨o,es,ep,e,d,r⟩:=bR;exact⟨o,es,ep,eF e (eI e (fun xs z=>by rw [d]at z;cases z) (fun xs n z=>by rw [d]at z;cases z)),d,r⟩)
  have oy:K.In (Q0s s₁.heap H):=fun b o e=>eF (KX b o e) (by
   cases q:H b with
   | none=>rfl
   | some u =>
    rcases hO b u q with⟨hb,rfl⟩ | ⟨rfl,hk,rfl⟩
    ·rw [rf b hb]at e;cases e
    ·rw [hk]at e;cases e)
  have hM:Mod K mg (Q0s s₁.heap H):=⟨oy,l6 iJ,⟨mb,l6 hb,qV⟩,let ⟨mc,h1,h2⟩:=mC;⟨mc,l6 h1,h2⟩⟩
  have hBM:Q0i mg (Q0s s₁.heap H):=by
   obtain⟨bm,ob,b1,b2,b3,b4,b5,b6⟩:=qT;exact⟨bm,ob,b1,b2,eF b3 (eI b3 (fun xs z=>by rw [b6]at z;cases z) (fun xs n z=>by rw [b6]at z;cases z)),b4,b5,b6⟩
  have e0:Q1o P w K mg (Q0s s₁.heap H) callerA [] s₁ H:=⟨rfl,hM,fun b o e=>W5s e,Nat.le_of_eq (W1s _ _),trivial,fun b hb=>absurd (show b∈([]:List Addr)from hb) (by simp),hok,.of_eq hg⟩
  refine iS ((F _ oy (l6 iJ) hBM).run callerA [] s₁ H ⟨[.ref a],[]⟩ [.ref a] [.ref a] _ _ hr e0 (fg s₁ (.ref a)) (.cons rfl .nil) (eK H hT hS)) fun r s' h=>?_;cases r with
  | error e=>exact(show False from h).elim
  | ok fl =>
   cases fl with
   | next=>exact False.elim h
   | brk=>exact False.elim h
   | cont=>exact False.elim h
   | ret u =>
    obtain⟨v,H',os,bare,un,ko,r',q,kE⟩:=h;have q':v=.bl true:=q;subst q';obtain rfl:u=Value.bool true:=r';refine⟨rfl,⟨fun b o e=>?_,fun b o e=>un.there b o e (by simp)⟩,os,bare⟩;cases q:H b with
    | none=>exact .inl (un.keep b o e q (by intro z;exact absurd (show b∈([]:List Addr)from z) (by simp)) (by simp))
    | some u =>
     rcases hO b u q with⟨hb,rfl⟩ | ⟨rfl,hk,rfl⟩
     ·obtain⟨ps,g1,_⟩:=(show ObjOk P w H' s'.heap b .tab from ko b _ (kE b hb))
      obtain⟨c,hc⟩:=dq b hb;have e1:=iH b hb;rw [e]at e1;cases e1;refine .inr (.inl ⟨((PySem.W.codeHd_of_K KX hc).tab (iH b hb)).isCodeTable,rfl,#[],ps,rfl,?_⟩);rw [g1];simp
     ·have z2:=un.frzs b _ _ q;obtain⟨e2,_⟩:=ko b _ z2;rw [ha]at e;cases e;exact .inl e2
 have pG:a∉ts:=fun hb=>by
  have:=iH a hb;rw [ha]at this;cases this
 cases hk:K.lookup a with
 | some o =>
  have e:=KX a o hk;rw [ha]at e;cases e;refine core (fun b=>if b∈ts then some .tab else none) (fun b u e=>?_) (fun Pt h=>aG h) (.inr ⟨_,vs.toArray,_,hk,rfl,rfl,rfl,by rw [aH,lV];exact hl,by simpa using rv⟩)
  by_cases hb:b∈ts
  ·have e:=(aG hb).symm.trans e;cases e;exact .inl ⟨hb,rfl⟩
  ·have e:=(az hb).symm.trans e;cases e
 | none =>
  refine core (fun b=>if b∈ts then some .tab else if b=a then some (.frz { cls:=.type "list",data:=.seq vs.toArray } (.lst (ns.map V.int)))else none) (fun b u e=>?_) (fun Pt h=>aG h) (.inl ⟨_,(az pG).trans (aG rfl)⟩)
  by_cases hb:b∈ts
  ·have e:=(aG hb).symm.trans e;cases e;exact .inl ⟨hb,rfl⟩
  ·have e:=(az hb).symm.trans e
   by_cases ha:b=a
   ·have e:=(aG ha).symm.trans e;cases e;exact .inr ⟨ha,hk,rfl⟩
   ·have e:=(az ha).symm.trans e;cases e
def V3i {l:PySem.W.OpenLaw}{n k:Nat}{q:Program}{eh:List Str}{XP:(Str->Option Value)->Heap->Prop}{YP:World->Heap->Prop}{d:DefRec}{K:Params->Fg9}{sp:World->Sp}{x:Str}{ts:List Addr}
  (hn:l.most=some n) (lc:n<=sizeLine) (jl:d.params.defaults=[]) (hr:D4 k callerA)
  (hY:∀(w:World) (h:Heap),YP w h->(K w.params).In h) (mV:∀(w:World) (h:Heap),YP w h->∀Pt∈ts,h.get? Pt=some (PySem.W.tabObj #[]))
  (F:∀(w:World) (mg:Str->Option Value) (fa:Addr) (h:Heap),(K w.params).In h->h.Ns mainGlobals mg->mg d.name=some (.ref fa) ->
   (∀Pt∈ts,(∃c,PySem.W.codeHdIn (K w.params) c Pt=true)/\(K w.params).lookup Pt=none) /\
   ∃fd:FuncData,(∀(s:Shared) (u:Value),BindsTo s fd ⟨[u],[]⟩ [(x,u)]) /\
    ∀base:Heap,(K w.params).In base->base.Ns mainGlobals mg->Q0i mg base->M9 l.prog w (K w.params) mg base G2 k fa fd [x] (sp w))
  (eK:∀(w:World) (H:Hp) (a:Addr) (ns:List Int),ns.length<=n->(∀Pt∈ts,H Pt=some .tab)->FzL (K w.params) H a (ns.map V.int)->sp w [.ref a] H (fun v H'=>v=.bl true/\∀Pt∈ts,H' Pt=some .tab) fun _ _ _=>False) :
  PySem.W.WalkO q eh XP YP l.row.toRowW d [] (fun f vs=>PySem.call f vs):=by
 refine Att.attach_call hn jl fun w s₀ s₁ mg mb fa o pm cd cn a vs ns G Y ho hd dq kt ja ff bD hg=>?_;have KX:=hY w _ Y;obtain⟨iH,fd,hb,hF⟩:=F w mg fa _ KX G.T.g kt;exact W3n KX G.T.g G.T.b G.T.builtins G.T.nolimit G.T.bmain hg (mV w _ Y) (fun Pt h=>(iH Pt h).1) (fun Pt h=>(iH Pt h).2) ja ff (aS bD lc) hr hF hb fun H hT hS=>eK w H a ns bD hT hS
end L2
namespace TK
open PySem PySem.Spec PyProof.Rows L2
def Z8 (ts:List Addr)(H:Hp):Prop:=∀Pt∈ts,H Pt=some .tab
abbrev Q1:=List R->(R->Prop)->Prop
def Q5c (K:Fg9)(ts:List Addr)(n:Nat)(sp:Q1):Sp:=fun vs H Q _=>∃(rs:List R) (P:R->Prop),rs.length=n/\K5 K (fun _=>none) H rs vs/\rs.all N1=true/\Z8 ts H/\sp (rs.map J9) P/\∀r v H',P r->A5 H H'->E5 K H H' r v->Q v H'
abbrev FnT (P:Program)(w:World)(K:Fg9)(mg:Str->Option Value)(base:Heap)(ts:List Addr)(k:Nat)(f:Addr)(fd:FuncData)(ps:List Str)(sp:Q1):Prop:=M9 P w K mg base G2 k f fd ps (Q5c K ts ps.length sp)
end TK
end
section
namespace TK
open PySem PySem.Spec PyProof.Rows L2
structure Q3p (K:Fg9)(x qual:Str)(st:Stmt)(f:Addr)(fd:FuncData)(c Pt:Addr):Prop where
 ex:∃(oc:Value) (od:Option Addr) (kV cn pm:Value) (an:Option Addr) (ct:Value) (cZ:Array (Option Value)),
  fd=PySem.W.fnOf x qual (U3 st) (K1 st) (B6 st) .none kV cn pm an (.ref c) ct/\K.lookup f=some ⟨oc,od,.func fd,cZ⟩/\PySem.W.codeIn K (.ref c) qual=true
 hd:PySem.W.codeHdIn K c Pt=true
abbrev T5 (P:R->Prop):F6:={ nx:=fun _=>P (.st .non),rt:=P,bk:=fun _=>False,ct:=fun _=>False }
section
variable {P:Program}{w:World}{K:Fg9}{mg:Str->Option Value}{base:Heap}{ts:List Addr}{x qual:Str}{st:Stmt}{f:Addr}{fd:FuncData}{N ps:List Str}{k:Nat}{sp:Q1}
def Y3g {cdv:Value}{A:Around}{outer:List Env}{s:Shared}{H:Hp}{E:XK}{ws:WS}{rs:List R}{vs:List V}{Q:VK}{Pr:R->Prop}{X:Cx}(hX:X.K=K)(hd:A3 X H (K1 st) ws)(hl:rs.length=ps.length)(al:K5 K (fun _=>none) H rs vs)(ok:rs.all N1=true)
  (h1:sp (rs.map J9) Pr) (h2:∀r v H',Pr r->A5 H H'->E5 K H H' r v->Q v H') (hw:∀rs Pr,rs.length=ps.length->sp rs Pr->ws (T5 Pr) (E9 N rs)) :
  ∃t,Q3 X (K1 st) t/\t { nx:=fun _ H'=>Q .non H',rt:=Q } (start N vs) H:=by
 subst hX;refine⟨_,hd.ps,E9 N rs,Q5m al ok,?_⟩;have hw:=hw (rs.map J9) Pr (by rw [ac];exact hl) h1;rw [Q7p]at hw;refine hd.mono _ _ _ ⟨fun τ h σ H' _ hR=>?_,fun r' h v H' sm ir=>?_,fun _ h=>False.elim h,fun _ h=>False.elim h⟩ hw
 ·exact h2 (.st .non) .non H' h hR.same (A1.s_non (K:=X.K) (H:=H'))
 ·exact h2 r' v H' h sm ir
def N7.okP {ws:WS}(F:N7 K x qual st f fd)(S:G3 N ps (B6 st))
  (bF:∀(cdv:Value) (A:Around) (outer:List Env) (s:Shared) (H:Hp) (E:XK),Z8 ts H->D4 k (A.deeper (envOfC qual (B6 st) s.heap.objs.size f cdv))->A3 (K9 G2 P w K mg base N qual (B6 st) f cdv A outer s H E).nox H (K1 st) ws)
  (hw:∀rs Pr,rs.length=ps.length->sp rs Pr->ws (T5 Pr) (E9 N rs)):FnT P w K mg base ts (k+1) f fd ps sp:=by
 refine F.ok S (fun vs H Q E h=>?_) (fun cdv A outer s H vs Q E hr h=>?_)
 ·obtain⟨rs,r,hl,al,_⟩:=h;rw [<- al.length];exact hl
 obtain⟨rs,Pr,hl,al,ok,hT,h1,h2⟩:=h;exact Y3g (st:=st) (cdv:=cdv) (A:=A) (outer:=outer) (s:=s) (E:=E) rfl (bF cdv A outer s H E hT hr) hl al ok h1 h2 hw
def Q3p.okP {c Pt:Addr}{ws:WS}(F:Q3p K x qual st f fd c Pt)(S:G3 N ps (B6 st))
  (bF:∀(A:Around) (outer:List Env) (s:Shared) (H:Hp) (E:XK),Z8 ts H->D4 k (A.deeper (envOfC qual (B6 st) s.heap.objs.size f (.ref c)))->A3 (K9 G2 P w K mg base N qual (B6 st) f (.ref c) A outer s H E).nox H (K1 st) ws)
  (hw:∀rs Pr,rs.length=ps.length->sp rs Pr->ws (T5 Pr) (E9 N rs)):FnT P w K mg base ts (k+1) f fd ps sp:=by
 obtain⟨oc,od,kV,cn,pm,an,ct,cZ,rfl,lk,dq⟩:=F.ex;refine Q8y lk dq S (fun vs H Q E h=>?_) fun A outer s H vs Q E hr h=>?_
 ·obtain⟨rs,r,hl,al,_⟩:=h;rw [<- al.length];exact hl
 obtain⟨rs,Pr,hl,al,ok,hT,h1,h2⟩:=h;obtain⟨t,ht,q⟩:=Y3g (st:=st) (cdv:=.ref c) (A:=A) (outer:=outer) (s:=s) (E:=E) rfl (bF A outer s H E hT hr) hl al ok h1 h2 hw;exact⟨t,ht.nox,q⟩
end
section
variable {X:Cx}{H0:Hp}{e:Expr}{es:List Expr}{wr:WA}{k:Nat}{f:Addr}{fd:FuncData}{ps:List Str}{sp:Q1}{x:Str}{p pos:Pos}{ts:List Addr}
def Q2p (sp:Q1):Prop:=∀rs P Q,(∀r,P r->Q r)->sp rs P->sp rs Q
def Z6 (sp:Q1)(wr:WA):WE:=fun τ Q=>wr τ fun rs=>rs.all N1=true/\sp (rs.map J9) Q
def DE.callP (ku:Q2p sp)(F:M9 X.prog X.w X.K X.mg X.base G2 k f fd ps (Q5c X.K ts (e::es).length sp))(hr:D4 k X.A)(hT:Z8 ts H0)(hg:Gl X x)(hm:X.mg x=some (.ref f))(hk:PySem.W.keepIn X.K (.ref f)=true)(hb:Q0 X.K fd ps [])
  (ha:DA X H0 (e::es) wr) (cR:(x==("__debug__":Str))=false:=by decide) (he:starEach (e::es) X.env=(false,eval e X.env)::starEach es X.env:=by rfl) (hpl:(backTo pos (starEach es X.env)).any (·.1)=false:=by rfl) :
  DE X H0 (.Call (.Name x p) (e::es) [] pos) (Z6 sp wr) where
 mono:=fun τ P Q g h=>ha.mono τ _ _ (fun rs bR=>(by obtain⟨ok,h1⟩:=bR;exact⟨ok,ku _ _ _ g h1⟩)) h
 pe:=N4 (Q9x F hr hg hm hk hb .nil Q9w ha.pa cR he hpl) fun σ H Q ⟨τ,hR,h⟩=>⟨τ,hR,ha.mono τ _ _ (fun rs cp vs H1 s1 cq=>by
  obtain⟨ib,ok,h1⟩:=cp;refine⟨rs,_,ib,?_,ok,fun Pt hp=>s1 _ _ (hR.same _ _ (hT Pt hp)),h1,fun r v H' q s2 ir=>q v H' (s1.trans s2) (ir.older s1)⟩;rw [aW];exact cq.v) (ha.len τ _ h)⟩
@[simp] theorem Q4c {τ:A9}{Q:R->Prop}:Z6 sp wr τ Q=wr τ fun rs=>rs.all N1=true/\sp (rs.map J9) Q:=rfl
end
def Y7d (FC:Q2)(n m:Nat)(cs es:List (Str×Nat))(wb wc:WE)(sp:D9)(we:WE):WE:=fun τ Q=>we τ fun r1=>N1 r1=true/\∃cE g8,Q1v τ cs cE/\Q1v τ es g8/\∀f Φ h Ψ,FC n f Φ (Q0d wb cE)->FC m h Ψ (Q0d wc g8)->∃d,sp [J9 r1,.cl f Φ,.cl h Ψ] (.st d)/\Q (.st d)
section
variable {X:Cx}{H0:Hp}{e:Expr}{we wb wc:WE}{k kl:Nat}{f:Addr}{fd:FuncData}{jZ ps qs:List Str}{sp:D9}{x:Str}{p pos cI dE:Pos}{params cm:Arguments}{body cX:Expr}{sc eC:Scope}{c Pt:Addr}{cs es:List (Str×Nat)}{clos clo2:List (Str×Addr)}
def DE.callW2 (F:M9 X.prog X.w X.K X.mg X.base G2 k f fd jZ (Q2x X.K 3 sp))(hr:D4 k X.A)(hg:Gl X x)(hm:X.mg x=some (.ref f))(hk:PySem.W.keepIn X.K (.ref f)=true)(hb:Q0 X.K fd jZ [])(ha:DE X H0 e we)
  (hT:H0 Pt=some .tab) (hB:Q0i X.mg X.base) (dP:X.env.code=.ref c) (hC:PySem.W.codeHdIn X.K c Pt=true)
  (ig:closureFor sc X.env=pure clos) (jo:cs.map (·.1)=clos.map (·.1)) (jI:∀y∈clos,X.env.cells.lookup y.1=some y.2) (g6:∀c∈cs,X.N[c.2]?=some c.1/\X.env.kindOf c.1=some .cell/\X.fn c.1=true) (S:Q6h ps (cs.map (·.1)) sc)
  (mP:closureFor eC X.env=pure clo2) (mO:es.map (·.1)=clo2.map (·.1)) (mQ:∀y∈clo2,X.env.cells.lookup y.1=some y.2) (mM:∀c∈es,X.N[c.2]?=some c.1/\X.env.kindOf c.1=some .cell/\X.fn c.1=true) (S2:Q6h qs (es.map (·.1)) eC)
  (kr:(cs.map (·.1)++es.map (·.1)).Nodup)
  (fg:∀(qual:Str) (cl:List (Str×Addr)) (pm cd ct:Value) (us:List Value),us.length=ps.length->bindArgs (PySem.W.kla_fn "<lambda>" qual params body sc cl pm cd ct) ⟨us,[]⟩=pure (ps.zip us))
  (jr:∀(qual:Str) (cl:List (Str×Addr)) (pm cd ct:Value) (us:List Value),us.length=qs.length->bindArgs (PySem.W.kla_fn "<lambda>" qual cm cX eC cl pm cd ct) ⟨us,[]⟩=pure (qs.zip us))
  (bF:∀(caps:List M8) (f c':Addr) (A:Around) (outer:List Env) (s:Shared) (H:Hp) (q:Str),caps.map (·.name)=cs.map (·.1)->D4 kl (A.deeper (PySem.W.envX q sc s.heap.objs.size f (.ref c') (P5 caps)))->DE (cxL X.prog X.w X.K X.mg X.base (ps++cs.map (·.1)) q sc f c' caps A outer s H) H body wb)
  (jq:∀(caps:List M8) (f c':Addr) (A:Around) (outer:List Env) (s:Shared) (H:Hp) (q:Str),caps.map (·.name)=es.map (·.1)->D4 kl (A.deeper (PySem.W.envX q eC s.heap.objs.size f (.ref c') (P5 caps)))->DE (cxL X.prog X.w X.K X.mg X.base (qs++es.map (·.1)) q eC f c' caps A outer s H) H cX wc)
  (cR:(x==("__debug__":Str))=false:=by decide) (he:starEach [e,.Lambda params body sc cI,.Lambda cm cX eC dE] X.env=(false,eval e X.env)::starEach [.Lambda params body sc cI,.Lambda cm cX eC dE] X.env:=by rfl)
  (mK:starEach [.Lambda params body sc cI,.Lambda cm cX eC dE] X.env=(false,eval (.Lambda params body sc cI) X.env)::starEach [.Lambda cm cX eC dE] X.env:=by rfl) (qO:starEach [.Lambda cm cX eC dE] X.env=(false,eval (.Lambda cm cX eC dE) X.env)::starEach [] X.env:=by rfl)
  (hpl:(backTo pos (starEach [.Lambda params body sc cI,.Lambda cm cX eC dE] X.env)).any (·.1)=false:=by rfl) (hd:defaultsOf params X.env=([],[]):=by rfl) (gO:defaultsOf cm X.env=([],[]):=by rfl) :
  DE X H0 (.Call (.Name x p) [e,.Lambda params body sc cI,.Lambda cm cX eC dE] [] pos) (Y7d (FnC X.prog X.w X.K X.mg X.base (kl+1)) ps.length qs.length cs es wb wc sp we) where
 mono:=fun τ P Q g h=>ha.mono τ _ _ (fun r1 bR=>by obtain⟨ok,cE,g8,h1,kJ,h2⟩:=bR;exact⟨ok,cE,g8,h1,kJ,fun f Φ h Ψ F G=>let ⟨d,a,b⟩:=h2 f Φ h Ψ F G;⟨d,a,g _ b⟩⟩) h
 pe:=by
  intro a9 s σ H Q I ⟨τ,hR,h⟩;refine bc (Q3y I hg hm ?_ cR);have ng:PA X [e,.Lambda params body sc cI,.Lambda cm cX eC dE] (Q5y _ (Q5y _ (Q5y _ Z6a))):=T0 (es:=[.Lambda params body sc cI,.Lambda cm cX eC dE]) ha.pe (T0 (es:=[.Lambda cm cX eC dE]) (Z4q (pos:=cI) hB dP hC ig hd) (T0 (es:=[]) (Z4q (pos:=dE) hB dP hC mP gO) X7 qO) mK) he;refine PySem.W.callWith_K (h₀:=X.base) I.ok.mod.kin hk (B4 (ng pos a9 s σ H (fun vs H1=>A5 H H1/\∃v1 fa c' oc ctv fb c2 jy jL r1,vs=[v1,.ref fa,.ref fb]/\E5 X.K H H1 r1 v1/\N1 r1=true/\(Q4m oc/\H1 c'=some (.frz oc (.own Pt))/\H1 fa=some (.frz (W3 X params body sc clos c' ctv) M5)) /\
   (Q4m jy/\H1 c2=some (.frz jy (.own Pt))/\H1 fb=some (.frz (W3 X cm cX eC clo2 c2 jL) M5)) /\
   ∃cE g8,Q1v τ cs cE/\Q1v τ es g8/\∀f Φ h Ψ,FnC X.prog X.w X.K X.mg X.base (kl+1) ps.length f Φ (Q0d wb cE)->FnC X.prog X.w X.K X.mg X.base (kl+1) qs.length h Ψ (Q0d wc g8)->∃d,sp [J9 r1,.cl f Φ,.cl h Ψ] (.st d)/\∀v H',A5 H H'->E5 X.K H H' (.st d) v->Q v H') I ?_) fun us s1 ⟨vs,H1,I1,r,iw,q⟩=>⟨I1.kIn,?_⟩) he hpl
  ·refine⟨τ,hR,ha.mono τ _ _ (fun r1 ⟨ok,cE,g8,h1,kJ,h2⟩ v1 H1 s1 ir=>?_) h⟩;refine⟨s1 _ _ (hR.same _ _ hT),fun fa c' oc ctv H' sm eE hf dy jk _=>?_⟩;refine⟨sm _ _ (s1 _ _ (hR.same _ _ hT)),fun fb c2 jy jL H2 l0 j9 rX fM jj _=>?_⟩;exact⟨s1.trans (sm.trans l0),v1,fa,c',oc,ctv,fb,c2,jy,jL,r1,rfl,ir.mono (sm.trans l0),ok,⟨eE,l0 _ _ dy,l0 _ _ jk⟩,⟨j9,fM,jj⟩,cE,g8,h1,kJ,h2⟩
  ·obtain⟨v1,fa,c',oc,ctv,fb,c2,jy,jL,r1,rfl,ir,ok,⟨eE,dy,jk⟩,⟨j9,fM,jj⟩,cE,g8,h1,kJ,h2⟩:=q;obtain⟨caps,n1,n2,jn⟩:=Q8q I1 (hR.mono iw) g6 h1;obtain⟨gi,m1,m2,li⟩:=Q8q I1 (hR.mono iw) mM kJ;have fC:∀p∈caps++gi,Q2n X s1 p:=fun p hp=>(aR.mp hp).elim (fun h=>(jn p h).1) fun h=>(li p h).1;have jz:((caps++gi).map (·.name)).Nodup:=by rw [aU,n1,m1];exact kr
   have nd:=Z2g I1 jz fC;have lQ:=nd;rw [aU]at lQ;have pM:=(be.mp lQ).1;have pL:=(be.mp lQ).2.1;have hL:P5 caps=clos:=Q8p (cs:=clos) (n1.trans jo) (fun p hp=>(jn p hp).1.look) jI;have re:P5 gi=clo2:=Q8p (cs:=clo2) (m1.trans mO) (fun p hp=>(li p hp).1.look) mQ;have fF:=Q6l I1 fC;subst hL re;have LP:Q1q X.K caps fa c' (W3 X params body sc (P5 caps) c' ctv) (U9 (caps++gi) H1):=⟨fF _ _ jk,⟨oc,Pt,fF _ _ dy,eE⟩,fun p hp=>⟨Q4q nd (b9 _ hp),(jn p hp).1.cell,(jn p hp).2.mono (Kp.of fF)⟩⟩
   have rF:Q1q X.K gi fb c2 (W3 X cm cX eC (P5 gi) c2 jL) (U9 (caps++gi) H1):=⟨fF _ _ jj,⟨jy,Pt,fF _ _ fM,j9⟩,fun p hp=>⟨Q4q nd (aC _ hp),(li p hp).1.cell,(li p hp).2.mono (Kp.of fF)⟩⟩
   have F0:=Z2x (P:=X.prog) (w:=X.w) (K:=X.K) (mg:=X.mg) (base:=X.base) (k:=kl) (f:=fa) (c':=c') (name:="<lambda>") (qual:=X.env.qual++"<lambda>") (params:=params) (body:=body) (sc:=sc) (pm:=(X.mg "__name__").getD .none) (ctv:=ctv) (ps:=ps) (caps:=caps) (sp:=Q0d wb cE) (wb:=wb) (by rw [n1];exact S) pM
    (fun A outer s H q hr=>by rw [n1];exact bF caps fa c' A outer s H q n1 hr) (fun rs r _ hs=>by
     obtain⟨ds,d,e1,e2,e3⟩:=hs;refine⟨ds,d,e1,e2,?_⟩;have:cE.map some=caps.map fun p=>some p.slot:=by rw [<- n2,aF];rfl
     rw [<- this];exact e3)
   have F1:=Z2x (P:=X.prog) (w:=X.w) (K:=X.K) (mg:=X.mg) (base:=X.base) (k:=kl) (f:=fb) (c':=c2) (name:="<lambda>") (qual:=X.env.qual++"<lambda>") (params:=cm) (body:=cX) (sc:=eC) (pm:=(X.mg "__name__").getD .none) (ctv:=jL) (ps:=qs) (caps:=gi) (sp:=Q0d wc g8) (wb:=wc) (by rw [m1];exact S2) pL
    (fun A outer s H q hr=>by rw [m1];exact jq gi fb c2 A outer s H q m1 hr) (fun rs r _ hs=>by
     obtain⟨ds,d,e1,e2,e3⟩:=hs;refine⟨ds,d,e1,e2,?_⟩;have:g8.map some=gi.map fun p=>some p.slot:=by rw [<- m2,aF];rfl
     rw [<- this];exact e3)
   obtain⟨d,g1,g2⟩:=h2 fa _ fb _ ⟨_,ps,F0,rfl,Q0.all (fg _ _ _ _ _),fun hh Hh hok _ hΦ=>⟨_,(hok _ _ hΦ.1).1,rfl⟩⟩ ⟨_,qs,F1,rfl,Q0.all (jr _ _ _ _ _),fun hh Hh hok _ hΦ=>⟨_,(hok _ _ hΦ.1).1,rfl⟩⟩;refine Y4d (CX:=G2) (E:=E0) F hr hb I1 nd fC r ⟨[r1,.cl fa _,.cl fb _],.st d,rfl,⟨v1,_,rfl,(ir.mono fF).v,_,_,rfl,⟨rfl,LP,Q1q.mono⟩,_,_,rfl,⟨rfl,rF,Q1q.mono⟩,rfl⟩,by rw [List.all_cons,ok];rfl,g1,fun v H' cM iv=>⟨cM,?_⟩⟩;have hS:S5 ((caps++gi).map (·.addr)) H':=fun c jp=>by
    obtain⟨o,u,e1,e2⟩:=Z1u (H:=H1) nd fC c jp;exact⟨o,u,cM _ _ e1,e2⟩
   have Q2e:∀b u,H1 b=some u->b∉(caps++gi).map (·.addr):=fun b u e hb=>by
    obtain⟨p,hp,rfl⟩:=ah.mp hb;rw [I1.freeC _ _ (fC p hp).look]at e;cases e
   exact g2 v _ (fun b u e=>by rw [Q0r (Q2e b u (iw _ _ e))];exact cM _ _ (fF _ _ (iw _ _ e))) (show A1 X.K _ d v from A1.hid hS d v iv)
end
end TK
end
section
namespace TK
open PySem PySem.Spec PyProof.Rows L2
theorem Q5a {K:Fg9}{H:Hp}:∀{d:D}{k:B8}{v:V},Q8 d=some k->A1 K H d v->v=kV k
 | .int i,k,v,h,q=>by cases h;unfold A1 at q;rw [q];rfl
 | .str x,k,v,h,q=>by cases h;unfold A1 at q;rw [q];rfl
 | .non,_,_,h,_=>by cases h
 | .bl _,_,_,h,_=>by cases h
 | .tup _,_,_,h,_=>by cases h
 | .lst _,_,_,h,_=>by cases h
section
variable {X:Cx}{H0:Hp}{a e o:Expr}{pos bC:Pos}{we:WE}
def C4.dkAt {K:Fg9}{H:Hp}{τ:A9}{σ:St}{i:Nat}{kvs:List (B8×D)}(hR:C4 K H0 τ σ H)(e1:τ[i]?=some (some (.dk kvs))):∃a ps,σ[i]?=some (some (.ref a))/\H0 a=none/\H a=some (.dK ps)/\C9 K H kvs ps:=by
 obtain⟨v,hv,a,xs,rfl,h0,sq,al⟩:=hR.here i _ e1;exact⟨a,xs,hv,h0,sq,al⟩
def Q1m (i:Nat)(we:WE):WE:=fun τ Q=>∃kvs,τ[i]?=some (some (.dk kvs))/\we τ fun r=>∃kd k d,r=.st kd/\Q8 kd=some k/\J1 kvs k=some d/\Q (.st d)
def DE.kget {i:Nat}(hu:X.A.units+1<cLine)(ho:PE X o (S4 i))(he:DE X H0 e we)(hs:Z1m e):DE X H0 (.Subscript o e pos) (Q1m i we) where
 mono:=fun τ P Q f dG=>(by obtain⟨kvs,e1,h⟩:=dG;exact⟨kvs,e1,he.mono τ _ _ (fun r dL=>(by obtain⟨ds,ks,d,a1,a2,a3,a4⟩:=dL;exact⟨ds,ks,d,a1,a2,a3,f _ a4⟩)) h⟩)
 pe:=N4 (W6r hu ho he.pe hs) fun σ H Q dF=>by
  obtain⟨τ,hR,kvs,e1,h⟩:=dF;obtain⟨a,ps,hv,h0,sq,kv⟩:=hR.dkAt e1;refine⟨_,hv,τ,hR,he.mono τ _ _ (fun r ⟨kd,k,d,a1,a2,a3,a4⟩ v H1 s1 ir=>?_) h⟩;subst a1;cases Q5a a2 (show A1 X.K H1 kd v from ir);rcases C9.val (k:=k) (kv.mono (Kp.of s1) _ _)with⟨n1,_⟩ | ⟨d',v',n1,n2,n3⟩
  ·rw [a3]at n1;cases n1
  ·rw [a3]at n1;cases n1;refine⟨a,v',rfl,?_,a4 _ _ s1 n3⟩;have g:=Z7.k (k:=k) (s1 _ _ sq);rw [n2]at g;exact g
def Q3k (i:Nat)(we:WE):WT:=fun τ Q=>∃kvs,τ[i]?=some (some (.dk kvs))/\we τ fun r=>∃kd k,r=.st kd/\Q8 kd=some k/\Q (!(J1 kvs k).isSome)
def DT.knotin {i:Nat}(hu:X.A.units+1<cLine)(he:DE X H0 e we)(ho:PE X o (S4 i))(h1:behindInMarks .NotIn o=false:=by rfl):DT X H0 (.Compare e [.NotIn] [o] pos) (Q3k i we) where
 mono:=fun τ P Q f fQ=>(by obtain⟨kvs,e1,h⟩:=fQ;exact⟨kvs,e1,he.mono τ _ _ (fun r eD=>(by obtain⟨ds,ks,a1,a2,a4⟩:=eD;exact⟨ds,ks,a1,a2,f _ a4⟩)) h⟩)
 pt:=ptW (W8c (W6k hu he.pe ho) h1) fun σ H Q fy=>by
  obtain⟨τ,hR,kvs,e1,h⟩:=fy;refine⟨τ,hR,he.mono τ _ _ (fun r ⟨kd,k,a1,a2,a4⟩ v H1 s1 ir=>?_) h⟩;obtain⟨a,ps,hv,h0,sq,kv⟩:=(hR.mono s1).dkAt e1;subst a1;cases Q5a a2 (show A1 X.K H1 kd v from ir);refine⟨_,hv,a,_,rfl,Z7.k (k:=k) sq,?_⟩;have e:(W9 ps k).isSome=(J1 kvs k).isSome:=by
   rcases C9.val (k:=k) kv with⟨n1,n2⟩ | ⟨d',v',n1,n2,n3⟩ <;> rw [n1,n2] <;> rfl
  rw [e];exact⟨_,rfl,a4 _ s1⟩
def Q3l (i:Nat)(we wv:WE):WS:=fun E τ=>wv τ fun r=>∃d,r=.st d/\∃kvs,τ[i]?=some (some (.dk kvs))/\we τ fun rk=>∃kd k,rk=.st kd/\Q8 kd=some k/\kvs.length<sizeLine/\E.nx (τ.set i (some (.dk (R9 kvs k d))))
def DS.kput {i:Nat}{v:Expr}{wv:WE}(hu:X.A.units+1<cLine)(ho:PE X o (S4 i))(he:DE X H0 e we)(hv:DE X H0 v wv)(hs:swapsWith v (some (.Subscript o e bC)) pos.line X.env=pure false:=by rfl) :
  DS X H0 (.Assign [.Subscript o e bC] v pos) (Q3l i we wv) where
 mono:=fun τ E F le h=>hv.mono τ _ _ (fun r fx=>(by obtain⟨d,e1,kvs,e2,h⟩:=fx;exact⟨d,e1,kvs,e2,he.mono τ _ _ (fun r fw=>(by obtain⟨ds,ks,a1,a2,a3,a4⟩:=fw;exact⟨ds,ks,a1,a2,a3,le.nx _ a4⟩)) h⟩)) h
 ps:=psW (W7u hu ho he.pe hv.pe hs) fun D σ H gD=>by
  obtain⟨τ,hR,h⟩:=gD;refine⟨τ,hR,hv.mono τ _ _ (fun r ⟨d,e1,kvs,e2,h⟩ u H1 s1 ir=>?_) h⟩;subst e1;have eL:=hR.mono s1;obtain⟨a,ps,gB,h0,sq,kv⟩:=eL.dkAt e2;refine⟨_,gB,τ,eL,he.mono τ _ _ (fun rk ⟨kd,k,a1,a2,a3,a4⟩ y H2 s2 ik=>?_) h⟩;subst a1;cases Q5a a2 (show A1 X.K H2 kd y from ik);have gu:=s2 _ _ sq;have nS:=kv.mono (Kp.of s2) _ _;refine⟨a,_,rfl,Q6g.k gu (by rw [<- C9.length nS];exact a3),?_⟩;have kp:Kp H2 (upd H2 a (.dK (S0 ps k u))):=Kp.updM gu (by intro xs z;cases z) (by intro o u z;cases z) _;have iv:A1 X.K H2 d u:=A1.mono (Kp.of s2) _ _ ir;refine a4 σ _ ((Kp.of (s1.trans s2)).trans kp) ((eL.mono s2).mutG e2 rfl gB h0 gu (by intro xs z;cases z) (by intro o u z;cases z) ⟨a,_,rfl,h0,upd_same,?_⟩);exact C9.mono kp _ _ (C9.put iv nS)
@[simp] theorem Z0c {i:Nat}{τ:A9}{Q:R->Prop}:Q1m i we τ Q=∃kvs,τ[i]?=some (some (.dk kvs))/\we τ fun r=>∃kd k d,r=.st kd/\Q8 kd=some k/\J1 kvs k=some d/\Q (.st d):=rfl
@[simp] theorem Z5g {i:Nat}{τ:A9}{Q:Bool->Prop}:Q3k i we τ Q=∃kvs,τ[i]?=some (some (.dk kvs))/\we τ fun r=>∃kd k,r=.st kd/\Q8 kd=some k/\Q (!(J1 kvs k).isSome):=rfl
@[simp] theorem Z5h {i:Nat}{wv:WE}{E:F6}{τ:A9}:Q3l i we wv E τ=wv τ fun r=>∃d,r=.st d/\∃kvs,τ[i]?=some (some (.dk kvs))/\we τ fun rk=>∃kd k,rk=.st kd/\Q8 kd=some k/\kvs.length<sizeLine/\E.nx (τ.set i (some (.dk (R9 kvs k d)))):=rfl
end
end TK
end
section
namespace TK
open PySem PySem.Spec PyProof.Rows L2
noncomputable instance decD:DecidableEq D:=fun a b=>Classical.propDecidable (a=b)
def FzD (K:Fg9)(a:Addr)(kvs:List (B8×D)):Hp->Prop:=fun H=>∃o ps,H a=some (.frz o (.dK ps))/\C9 K H kvs ps
def FzD.mono {K:Fg9}{a:Addr}{kvs:List (B8×D)}:Q4o (FzD K a kvs):=fun H H' k bR=>(by obtain⟨o,ps,h,q⟩:=bR;exact⟨o,ps,k.frz _ _ _ h,q.mono k _ _⟩)
section
variable {X:Cx}{a9:Pn9}{σ:St}{H:Hp}{s:Shared}{a:Addr}
def W2h {ps:List (B8×V)}(I:A0 X a9 σ H s)(h:H a=some (.dK ps)):∃o,A0 X a9 σ (upd H a (.frz o (.dK ps))) s:=by
 have ok:=I.hok a _ h;obtain⟨_,_,_,_,o,_,_,q,_⟩:=id (show ObjOk X.prog X.w H s.heap a (.dK ps)from ok);refine⟨o,I.write (t':=s.toks) (h':=s.heap) (e:=a) (o:=.frz o (.dK ps)) (by rw [h];trivial) (.inl rfl) (fun b u _ k=>k) ⟨_,q⟩ ⟨q,?_⟩⟩;exact ok
end
section
variable {X:Cx}{st:Stmt}
theorem Y3q {t:TS}(h:PS X st t):PS X st (fun D σ H=>t { D with nx:=fun σ' H'=>∀a9 s,A0 X a9 σ' H' s->∃cT,A0 X a9 σ' cT s/\D.nx σ' cT } σ H):=by
 intro a9 s σ H D I q;refine B4 (h a9 s σ H _ I q) fun f s1 q1=>?_;cases f with
 | next =>
  obtain⟨σ',H',I',q2⟩:=q1;obtain⟨cT,rG,q3⟩:=q2 a9 s1 I';exact⟨σ',cT,rG,q3⟩
 | brk=>exact q1
 | cont=>exact q1
 | ret v=>exact q1
end
section
variable {X:Cx}{H0:Hp}{a b e o:Expr}{pos bC p2 apos bp:Pos}{we wv:WE}{x:Str}{i:Nat}
def Z6t (K:Fg9)(i:Nat):WS:=fun E τ=>∃kvs,τ[i]?=some (some (.dk kvs))/\∀a,E.rt (.cl a (FzD K a kvs))
def DS.retK (he:PE X e (S4 i)):DS X H0 (.Return (some e) pos) (Z6t X.K i) where
 mono:=fun τ E F le dG=>(by obtain⟨kvs,e1,q⟩:=dG;exact⟨kvs,e1,fun a=>le.rt _ (q a)⟩)
 ps:=by
  intro a9 s σ H D I ⟨τ,hR,kvs,e1,q⟩;obtain⟨a,ps,hv,h0,sq,kv⟩:=hR.dkAt e1;refine wpAny_Return_some (B4 (he a9 s σ H (fun v H1=>v=.ref a/\H1=H) I ⟨_,hv,rfl,rfl⟩) fun u s1 bu=>?_);obtain⟨v,H1,I1,rv,ev,eH⟩:=bu;subst ev eH;obtain⟨ob,I2⟩:=W2h I1 sq;have kp:Kp H1 (upd H1 a (.frz ob (.dK ps))):=Kp.updM sq (by intro xs z;cases z) (by intro o u z;cases z) _;refine⟨.ref a,σ,_,I2,rv,q a _ _ (fun b ob hb=>?_) ⟨rfl,⟨ob,ps,upd_same,kv.mono kp _ _⟩,FzD.mono⟩⟩;rw [B9 (X5 hb h0)];exact hR.same _ _ hb
def Z6u (i:Nat)(we:WE):WS:=fun E τ=>we τ fun r=>∃a Φ,r=.cl a Φ/\E.nx (τ.set i (some (.cl a Φ)))
def DS.setF (he:DE X H0 e we)(hN:X.N.Nodup)(hi:X.N[i]?=some x)(hx:Loc X.env.scope x)(hs:swapsWith e (some (.Name x bC)) pos.line X.env=pure false:=by rfl)
  (hf:X.fn x=true\/X.env.scope.names.lookup x=some .local:=by first | exact .inl rfl | exact .inr rfl | assumption):DS X H0 (.Assign [.Name x bC] e pos) (Z6u i we) where
 mono:=fun τ E F le h=>he.mono τ _ _ (fun r dL=>(by obtain⟨a,Φ,e1,q⟩:=dL;exact⟨a,Φ,e1,le.nx _ q⟩)) h
 ps:=psW (Z4t hN hi hx he.pe hs hf) fun D σ H ⟨τ,hR,h⟩=>⟨τ,hR,he.mono τ _ _ (fun r dF v H1 s1 ir=>by
  obtain⟨a,Φ,e1,q⟩:=dF;subst e1;exact q _ _ (Kp.of s1) ((hR.mono s1).set (s:=.cl a Φ) ir fun m=>by cases m)) h⟩
def C4.fkAt {K:Fg9}{H:Hp}{τ:A9}{σ:St}{a:Addr}{kvs:List (B8×D)}(hR:C4 K H0 τ σ H)(e1:τ[i]?=some (some (.cl a (FzD K a kvs)))):σ[i]?=some (some (.ref a))/\∃o ps,H a=some (.frz o (.dK ps))/\C9 K H kvs ps:=by
 obtain⟨v,hv,rfl,q,_⟩:=hR.here i _ e1;exact⟨hv,q⟩
def Z6m (K:Fg9)(i:Nat)(we:WE):WE:=fun τ Q=>∃a kvs,τ[i]?=some (some (.cl a (FzD K a kvs)))/\we τ fun r=>∃kd k,r=.st kd/\Q8 kd=some k/\Q (.st ((J1 kvs k).getD .non))
def DE.fget1 (hu:X.A.units+1<cLine)(ho:PE X o (S4 i))(he:DE X H0 e we)(m:M1 X o "get" apos e bp):DE X H0 (.Call (.Attribute o "get" apos) [e] [] bp) (Z6m X.K i we) where
 mono:=fun τ P Q f fQ=>(by obtain⟨a,kvs,e1,h⟩:=fQ;exact⟨a,kvs,e1,he.mono τ _ _ (fun r eD=>(by obtain⟨ds,ks,a1,a2,a4⟩:=eD;exact⟨ds,ks,a1,a2,f _ a4⟩)) h⟩)
 pe:=N4 (W6s hu ho he.pe m) fun σ H Q fy=>by
  obtain⟨τ,hR,a,kvs,e1,h⟩:=fy;obtain⟨hv,ob,ps,sq,kv⟩:=hR.fkAt e1;refine⟨_,hv,a,rfl,.inl ⟨ps,.inr ⟨ob,sq⟩⟩,τ,hR,he.mono τ _ _ (fun r ⟨kd,k,a1,a2,a4⟩ v H1 s1 ir=>?_) h⟩;subst a1;cases Q5a a2 (show A1 X.K H1 kd v from ir);refine⟨_,.inl ⟨ps,k,.inr ⟨ob,s1 _ _ sq⟩,rfl,rfl⟩,a4 _ _ s1 ?_⟩;rcases C9.val (k:=k) (kv.mono (Kp.of s1) _ _)with⟨n1,n2⟩ | ⟨d',v',n1,n2,n3⟩
  ·rw [n1,n2];exact A1.s_non (K:=X.K) (H:=H1)
  ·rw [n1,n2];exact n3
def Z0v (i:Nat)(we wv:WE):WS:=fun E τ=>i<τ.length/\we τ fun rk=>∃kd k,rk=.st kd/\Q8 kd=some k/\wv τ fun r=>∃d,r=.st d/\E.nx (τ.set i (some (.dk [(k,d)])))
def DS.knew1 {v:Expr}(he:DE X H0 e we)(hv:DE X H0 v wv)(hN:X.N.Nodup)(hi:X.N[i]?=some x)(hx:Loc X.env.scope x)(hs:swapsWith (.Dict [some e] [v] p2) (some (.Name x bC)) pos.line X.env=pure false:=by rfl)
  (hf:X.fn x=true\/X.env.scope.names.lookup x=some .local:=by first | exact .inl rfl | exact .inr rfl | assumption):DS X H0 (.Assign [.Name x bC] (.Dict [some e] [v] p2) pos) (Z0v i we wv) where
 mono:=fun τ E F le h=>⟨h.1,he.mono τ _ _ (fun r fw=>(by obtain⟨ds,ks,a1,a2,h⟩:=fw;exact⟨ds,ks,a1,a2,hv.mono τ _ _ (fun r gD=>(by obtain⟨d,b1,b2⟩:=gD;exact⟨d,b1,le.nx _ b2⟩)) h⟩)) h.2⟩
 ps:=psW (Z4t hN hi hx (W6t (W7q he.pe hv.pe W7r) rfl rfl (by simp) (by simp)) hs hf) fun D σ H hq15 p hp=>by
  obtain⟨τ,hR,hl,h⟩:=hq15;have sm:A5 H (upd H p (.dK [])):=G1 hp _;have eL:=hR.mono sm;refine⟨τ,eL,he.mono τ _ _ (fun rk ⟨kd,k,a1,a2,h⟩ y H1 s1 ik=>?_) h⟩;subst a1;have dZ:=eL.mono s1;refine⟨τ,dZ,hv.mono τ _ _ (fun r ⟨d,b1,b2⟩ u H2 s2 iv=>?_) h⟩;subst b1;cases Q5a a2 (show A1 X.K H1 kd y from ik);have ep:=s2 _ _ (s1 _ _ (upd_same (H:=H) (a:=p) (o:=.dK [])));refine⟨ep,[(k,u)],rfl,by simp,?_⟩;have e1:Q5h [] [(k,u)]=[(k,u)]:=rfl;rw [e1];have kp:Kp H2 (upd H2 p (.dK [(k,u)])):=Kp.updM ep (by intro xs z;cases z) (by intro o u z;cases z) _;have n9:=dZ.mono s2;have h0:H0 p=none:=hR.same.free hp;have pS:Kp H (upd H2 p (.dK [(k,u)])):=(Kp.of ((sm.trans s1).trans s2)).trans kp;have ek:∀(j:Nat) (t:Sl),τ[j]?=some (some t)->t.mut=true->σ[j]?≠some (some (.ref p)):=fun j t e m q=>by
   obtain⟨o,ho⟩:=hR.tracked e m q;rw [hp]at ho;cases ho
  have n8:C4 X.K H0 (τ.set i (some (.dk []))) (σ.set i (some (.ref p))) H2:=n9.set (s:=.dk []) ⟨p,[],rfl,h0,ep,rfl⟩ fun _ j t hj e m q=>ek j t e m q;have g1:(τ.set i (some (.dk [])))[i]?=some (some (.dk [])):=br hl;have g2:(σ.set i (some (V.ref p)))[i]?=some (some (.ref p)):=br (by rw [<- hR.len];exact hl);have iN:=n8.mutG (s':=.dk [(k,d)]) (new:=.dK [(k,u)]) g1 rfl g2 h0 ep (by intro xs z;cases z) (by intro o u z;cases z) ⟨p,[(k,u)],rfl,h0,upd_same,⟨u,[],rfl,A1.mono kp _ _ iv,rfl⟩⟩;rw [List.set_set]at iN;exact b2 _ _ pS iN
end
def Z9m {X:Cx}{a9:Pn9}{σ:St}{H2 H':Hp}{s2 s1:Shared}{scope:Scope}{C D0:Addr}{fp:List Addr}{N:List Str}{pb:Pn9}{σ':St}{h':Heap}{u0:HO}
  (I2:A0 X a9 σ H2 s2) (Ib:A0 (D5 X scope C s2 H2 fp N) pb σ' H' s1) (f2:∀b∈fp,P4 X a9 H2 b) (hC:s2.heap.objs.size<=C) (hD:s2.heap.objs.size<=D0) (nj:H' D0=none)
  (sb:Heap.SameBut C s1.heap h') (new:ObjOk X.prog X.w (upd H' D0 u0) h' D0 u0):A0 X a9 σ (upd H' D0 u0) { s1 with heap:=h' }:=by
 have iZ:∀b o,s2.heap.get? b=some o->b≠C:=fun b o e=>ay (au (ax e) hC);have lT:∀b o,s2.heap.get? b=some o->b≠D0:=fun b o e=>ay (au (ax e) hD);have keep:=Y1l sb;have base:Un (E6 X.stack) fp H2 H' s2.heap s1.heap:=Ib.base;have nk:H' C=none:=Ib.free;have gM:∀b u,H' b=some u->b≠C:=fun b u e z=>by rw [z,nk]at e;cases e
 have R0:∀b u,H' b=some u->b≠D0:=fun b u e z=>by rw [z,nj]at e;cases e
 refine I2.call' (s':={ s1 with heap:=h' }) (ch:=fp) Ib.os ⟨fun b o e n hb hx=>keep b o (iZ b o e) (base.keep b o e n hb hx),fun b o e n hb hx=>?_,fun b o e n hx=>?_,fun b o e hx=>?_,fun b xs e=>?_,fun b o u e=>?_,fun b ps e=>?_⟩ (fun b u e=>?_) Ib.bare (fun b hb=>?_)
 ·obtain⟨sl,q⟩:=base.slot b o e n hb hx;exact⟨sl,keep b _ (iZ b o e) q⟩
 ·rw [B9 (lT b o e)];exact base.free b o e n hx
 ·obtain⟨o',q⟩:=base.there b o e hx;exact⟨o',keep b o' (iZ b o e) q⟩
 ·have q:=base.tups b xs e;rw [B9 (R0 b _ q)];exact q
 ·have q:=base.frzs b o u e;rw [B9 (R0 b _ q)];exact q
 ·obtain⟨more,q⟩:=base.tbls b ps e;exact⟨more,by rw [B9 (R0 b _ q)];exact q⟩
 ·by_cases hb:b=D0
  ·subst hb;rw [upd_same]at e;cases e;exact new
  ·rw [B9 hb]at e;refine(Ib.hok b u e).stay (fun c v hc q=>keep c v ?_ q) (fun c u _ q=>by rw [B9 (R0 c _ q)];exact q) fun c xs q=>by rw [B9 (R0 c _ q)];exact q
   rcases hc with z | z
   ·rw [z];exact gM b u e
   ·exact gM c _ z
 ·obtain⟨_,a2,a3,a4,a5,a6⟩:=f2 b hb;exact⟨a4,a2,a5,a6⟩
section
variable {prog:Program}{w:World}{A:Around}{RR:Result->Shared->Prop}{s:Shared}
theorem Y9x {kx vx target iter:Expr}{scope:Scope}{pos:Pos}{it:Value}{D0:Addr}{env:Env}(I:Nat->Shared->Prop)
  (turn:∀n s,I n s->wpAny (model prog w) A (pyNext it) (fun r s₁=>match r with
   | none=>RR (.ok .next) s₁
   | some v=>wpAny (model prog w) A (letOwnedTupleGo target it v) (fun _ sa=>wpAny (model prog w) A (assign target env v) (fun _ s₃ =>
     wpAny (model prog w) A (eval kx env) (fun x s₄=>wpAny (model prog w) A (eval vx env) (fun y s₅ =>
       wpAny (model prog w) A (dictSet D0 x y) (fun _ s₆=>∃m,m<n/\I m s₆) (fun _ _=>False) s₅) (fun _ _=>False) s₄) (fun _ _=>False) s₃) (fun _ _=>False) sa) (fun _ _=>False) s₁) (fun _ _=>False) s)
  (n:Nat) (h:I n s):codeAny (model prog w) A (.compLoop (.DictComp kx vx [⟨target,iter,[],0⟩] scope pos) 0 it (.ref D0) env) RR s:=by
 refine codeAny_loop rfl I (fun n s hI=>?_) n h
 change wpAny (model prog w) A ((compTurn (.DictComp kx vx [⟨target,iter,[],0⟩] scope pos) 0 it (Value.ref D0) env).onRaise (fun x=>do noteFrame x env;theTreesLotGoes x)) _ _ s
 refine wpAny_noted ?_;rw [compTurn_dict];refine a8 (g7 (a8 (aL (turn n s hI) (fun r s₁ h₁=>?_) fun _ _ h'=>h'.elim)));cases r with
 | none=>exact ao h₁
 | some v =>
  refine a8 (aL h₁ (fun _ sa ha=>a8 (aL ha (fun _ s₃ h₃=>a8 (wpAny_tests_nil ?_)) fun _ _ h'=>h'.elim)) fun _ _ h'=>h'.elim);exact a8 (a8 (aL h₃ (fun x s₄ h₄=>a8 (bG (aL h₄ (fun y s₅ h₅=>a8 (g7 (bG (aL h₅ (fun _ s₆ h₆=>ao ⟨rfl,h₆⟩) fun _ _ h'=>h'.elim)))) fun _ _ h'=>h'.elim))) fun _ _ h'=>h'.elim))
end
def V1 (g:WG)(wk wv:WE):List D->A9->List (B8×D)->(List (B8×D)->Prop)->Prop
 | [],_,kvs,Q=>Q kvs
 | d::ds,τ,kvs,Q=>g d τ fun τ'=>wk τ' fun r=>∃kd k,r=.st kd/\Q8 kd=some k/\wv τ' fun r2=>∃e,r2=.st e/\V1 g wk wv ds τ' (R9 kvs k e) Q
theorem Y0d {g:WG}{wk wv:WE}(hg:∀d τ (P Q:A9->Prop),(∀ τ,P τ->Q τ)->g d τ P->g d τ Q)(hk:∀(τ:A9) (P Q:R->Prop),(∀r,P r->Q r)->wk τ P->wk τ Q)(hv:∀(τ:A9) (P Q:R->Prop),(∀r,P r->Q r)->wv τ P->wv τ Q) :
  ∀(ds:List D) (τ:A9) (kvs:List (B8×D)) (P Q:List (B8×D)->Prop),(∀es,P es->Q es)->V1 g wk wv ds τ kvs P->V1 g wk wv ds τ kvs Q
 | [],_,_,_,_,f,h=>f _ h
 | d::ds,τ,kvs,P,Q,f,h=>hg d τ _ _ (fun τ' h=>hk τ' _ _ (fun r bR=>(by obtain⟨kd,k,e1,e2,h⟩:=bR;exact⟨kd,k,e1,e2,hv τ' _ _ (fun r cp=>(by obtain⟨e,e1,h⟩:=cp;exact⟨e,e1,Y0d hg hk hv ds τ' _ _ _ f h⟩)) h⟩)) h) h
section
variable {X:Cx}{H0:Hp}{tg iter kx vx:Expr}{scope:Scope}{pos bC eT:Pos}{N:List Str}{nt:Nat}{cap:List Nat}{wi:WIE}{g:WG}{wk wv:WE}
def W3d {use:Option (Value->Sem Unit)}{QQ:VS9}{P:List (B8×D)->Prop}{gz:Pos}{a9:Pn9}{s:Shared}{σ:St}{H:Hp}{τ:A9}(hc:X.calm=true)(B:Blk X scope N nt cap)(hi:F9 X H0 tg iter wi)
  (hg:∀C s H fp,DG (D5 X scope C s H fp N) H tg g) (hk:∀C s H fp,DE (D5 X scope C s H fp N) H kx wk) (hv:∀C s H fp,DE (D5 X scope C s H fp N) H vx wv) (hs:∀x,foldedSetIterable iter X.env x=pure x)
  (I:A0 X a9 σ H s) (hR:C4 X.K H0 τ σ H) (hw:wi τ fun ds=>ds.length<sizeLine/\V1 g wk wv ds (Q4 nt cap τ) [] P)
  (fin:∀(C D0:Addr) (s2 s4:Shared) (H2 H4:Hp) (fp:List Addr) (pb:Pn9) (σ4:St) (ps:List (B8×V)) (vs:List (B8×Value)) (kvs:List (B8×D)) (f:Flow),A0 X a9 σ H2 s2->A5 H H2->A0 (D5 X scope C s2 H2 fp N) pb σ4 H4 s4->(∀b∈fp,P4 X a9 H2 b) ->
   s2.heap.objs.size<=C->s2.heap.objs.size<=D0->D0≠C->H4 D0=none->(D0==sysModules)=false->s4.heap.DictOf (M2 X.prog X.w) D0 vs->KV ps vs->ps.length<=sizeLine->A5 H2 H4->C9 X.K H4 kvs ps->P kvs->compPost (model X.prog X.w) X.A X.xe use QQ (.ref D0) C (.ok f) s4) :
  wpAny (model X.prog X.w) X.A (comprehension (.DictComp kx vx [⟨tg,iter,[],0⟩] scope pos) scope X.env gz newDict false (eval iter X.env) use) QQ X.xe s:=by
 refine wpAny_comprehension_free rfl hs (Z2m fun y hy e=>I.ok.has y.1 (B.free y hy e)) B.kind B.names ?_;refine B4 (hi.pi a9 s σ H (fun J H2=>A5 H H2/\∃ds,YlS X.K J ds H2/\ds.length<sizeLine/\V1 g wk wv ds (Q4 nt cap τ) [] P) I
  ⟨τ,hR,hi.mono τ _ _ (fun ds h J H' sm yl=>⟨sm,ds,yl,h.1,h.2⟩) hw⟩) fun v s1 h1=>B4 h1 fun jA s2 h2=>?_
 obtain⟨it,fp,tn,J,H2,e,I2,T,eG,f2,cM,ds,yl,hz,iG⟩:=h2;subst e;have fZ:∀b∈fp,b<s2.heap.objs.size:=fun b hb=>by
  obtain⟨o,ho,_⟩:=T.obj _ _ eG b hb;exact ax ho
 have dZ:=hR.mono cM;have i4:(s2.heap.objs.size==sysModules)=false:=cL.mpr (cF (ay I2.big));refine bx (wpAny_newFunctionEnv B.cell (by intro y hy;simp at hy) (fun h₁ dn cP=>?_) B.kind);dsimp only at dn cP ⊢;have fT:(s2.heap.push { cls:=.type "dict",dict:=none,data:=.dict #[] }).DictOf (M2 X.prog X.w) s2.heap.objs.size []:=Heap.DictOf.new s2.heap;generalize hH2:s2.heap.push { cls:=.type "dict",dict:=none,data:=.dict #[] }=Hq at dn cP fT ⊢;have hC:Hq.objs.size=s2.heap.objs.size+1:=by rw [<- hH2,di]
 have dg:s2.heap.objs.size≠Hq.objs.size:=by rw [hC];exact ay (cf _)
 have cS:s2.heap.objs.size<=Hq.objs.size:=by rw [hC];exact dI _
 have old:∀b o,s2.heap.get? b=some o->h₁.get? b=some o:=fun b o e=>cP.extBut b o (by rw [hC];exact ay (bA (ax e))) (aj _ (hH2 ▸ aj _ e));have dv:h₁.DictOf (M2 X.prog X.w) s2.heap.objs.size []:=fT.at fun o e=>cP.extBut _ _ dg (aj _ e);generalize hCe:Hq.objs.size=C at dn cP hC dg cS ⊢;generalize hDe:s2.heap.objs.size=D0 at hC dg cS dv i4 ⊢;have dM:∀b∈fp,b<D0:=fun b hb=>hDe ▸ fZ b hb;have eX:tn 0 h₁:=T.keep _ _ _ eG fun b _ o e=>old b o e;have kQ:=Z2b (C:=C) (h':=h₁) (t':=s2.toks+([]:List (Str×Value)).length) I2 B f2 fZ (by rw [hDe];exact cS) dn old;have iO:H2 D0=none:=I2.hok.fresh (by rw [hDe];exact aq _);have ka:D0∉E6 X.stack:=fun z=>by
  rcases ar.mp (I2.stkSub _ z)with e | e
  ·have:=I2.lt;rw [<- e,hDe]at this;exact aV _ this
  ·exact I2.nofs (by rw [hDe];exact aq _) e
 have kb:∀x c,(T9 X.env scope.names []).lookup x=some c->c≠D0:=fun x c h z=>by
  obtain⟨v,q⟩:=I2.cell x c (Y6 I2 B h);have:=q.lt;rw [z,hDe]at this;exact aV _ this
 have kL:∀{h:Heap}{vs:List (B8×Value)}{o:Obj},h.DictOf (M2 X.prog X.w) D0 vs->h.get? D0=some o->∀v,o.data≠.cell v:=by
  intro h vs o dd e v z;obtain⟨o',es,ep,e',_,d,_⟩:=dd;rw [e]at e';cases e';rw [d]at z;cases z
 have eV:∀{pb:Pn9} {σ':St}{H':Hp}{s':Shared}{vs:List (B8×Value)}{o:Obj},A0 (D5 X scope C s2 H2 fp N) pb σ' H' s'->H' D0=none->s'.heap.DictOf (M2 X.prog X.w) D0 vs->s'.heap.get? D0=some o ->
   A0 (D5 X scope C s2 H2 fp N) [(D0,o)] σ' H' s':=by
  intro pb σ' H' s' vs o I' n' dd e;refine I'.pins_of fun p hp=>?_;have e':p=(D0,o):=by simpa using hp
  subst e';exact⟨e,n',dg,ka,kL dd e⟩
 have gK:∀{H':Hp}{ob:Obj},(∀b∈fp,H' b=none)->∀b∈fp,P4 (D5 X scope C s2 H2 fp N) [(D0,ob)] H' b:=by
  intro H' ob hn b hb;refine⟨hn b hb,(ay (au (dM b hb) cS)),fun z=>?_,.inl hb,fun x c h=>(f2 b hb).2.2.2.2.1 x c (Y6 I2 B h),fun p hp=>?_⟩
  ·rcases ar.mp (I2.stkSub b z)with e | e
   ·exact(f2 b hb).2.1 e
   ·exact(f2 b hb).2.2.1 e
  ·have e':p=(D0,ob):=by simpa [D5]using hp
   subst e';exact(ay (dM b hb)).symm
 let jN:Nat->Shared->Prop:=fun k s'=>∃(i:Nat) (σ':St) (H':Hp) (τ':A9) (ob:Obj) (vs:List (B8×Value)) (ps:List (B8×V)) (kvs:List (B8×D)),A0 (D5 X scope C s2 H2 fp N) [(D0,ob)] σ' H' s'/\C4 X.K H2 τ' σ' H'/\tn i s'.heap /\
  (∀b∈fp,H' b=none)/\H' D0=none/\s'.heap.get? D0=some ob/\s'.heap.DictOf (M2 X.prog X.w) D0 vs/\KV ps vs/\C9 X.K H' kvs ps/\i<=ds.length/\k=ds.length-i/\ps.length<=i/\V1 g wk wv (ds.drop i) τ' kvs P
 have loop:∀s₃:Shared,s₃={ s2 with heap:=h₁,toks:=s2.toks+([]:List (Str×Value)).length } ->
   codeAny (model X.prog X.w) X.A (.compLoop (.DictComp kx vx [⟨tg,iter,[],0⟩] scope pos) 0 (.ref it) (.ref D0) (compEnvC scope (T9 X.env scope.names []) C X.env))
    (compPost (model X.prog X.w) X.A X.xe use QQ (.ref D0) C) s₃:=by
  rintro s₃ rfl;obtain⟨pD,ho⟩:∃o,h₁.get? D0=some o:=by obtain⟨o,_,_,e,_⟩:=id dv;exact⟨o,e⟩
  refine Y9x jN ?_ ds.length ⟨0,_,H2,Q4 nt cap τ,pD,[],[],[],eV kQ iO dv ho,Z4x dZ nt cap,eX,fun b hb=>(f2 b hb).1,iO,ho,dv,.nil,rfl,bt _,rfl,aq _,by simpa using iG⟩;rintro k s3 ⟨i,σ3,H3,τ3,ob,vs,ps,kvs,I3,R3,gt,gJ,d3,o3,oP,lK,nR,og,rfl,lh,w3⟩;have bW:A5 H2 H3:=R3.same
  by_cases bU:i<ds.length
  ·refine aL (T.item (D5 X scope C s2 H2 fp N) rfl rfl rfl hc i _ s3 σ3 H3 (fun _ _=>False) I3 (gK gJ) gt (yl.go H3 bW i bU)) (fun r s4 bu=>?_) fun _ _ z=>z;obtain⟨u,hr,h4⟩:=bu;subst hr;refine aL h4 (fun _ s5 bu=>?_) fun _ _ z=>z;obtain⟨x,H5,I5,r5,y5,fq,ju⟩:=bu;obtain⟨iy,ix⟩:=yl.yld H3 bW i x H5 _ (aa bU) y5;rw [cK bU]at w3;have jw:=I5.pinned (gK ju) (T.obj _ _ fq);refine aL ((hg C s2 H2 fp).pg _ s5 σ3 H5 x u (fun σ6 H6=>∃ τ6,C4 X.K H2 τ6 σ6 H6/\A5 H5 H6/\wk τ6 fun r=>∃kd k,r=.st kd/\Q8 kd=some k/\wv τ6 fun r2=>∃e,r2=.st e/\V1 g wk wv (ds.drop (i+1)) τ6 (R9 kvs k e) P)
    jw r5 ⟨τ3,ds[i],R3.mono iy,ix,(hg C s2 H2 fp).mono _ _ _ _ (fun τ6 h6 σ6 H6 gw R6=>⟨τ6,R6,gw,h6⟩) w3⟩) (fun _ s6 ⟨σ6,H6,I6,τ6,R6,gw,w6⟩=>?_) fun _ _ z=>z
   refine aL ((hk C s2 H2 fp).pe _ s6 σ6 H6 (fun v H7=>A5 H6 H7/\∃kd k,A1 X.K H7 kd v/\Q8 kd=some k/\wv τ6 fun r2=>∃e,r2=.st e/\V1 g wk wv (ds.drop (i+1)) τ6 (R9 kvs k e) P) I6
    ⟨τ6,R6,(hk C s2 H2 fp).mono τ6 _ _ (fun r cQ v H7 g9 ir=>(by obtain⟨kd,k,e1,e2,h⟩:=cQ;exact⟨g9,kd,k,by subst e1;exact ir,e2,h⟩)) w6⟩) (fun yk s7 ⟨v7,H7,I7,lI,g9,kd,k,pV,ek7,w7⟩=>?_) fun _ _ z=>z
   refine aL ((hv C s2 H2 fp).pe _ s7 σ6 H7 (fun v H8=>A5 H7 H8/\∃e,A1 X.K H8 e v/\V1 g wk wv (ds.drop (i+1)) τ6 (R9 kvs k e) P) I7
    ⟨τ6,R6.mono g9,(hv C s2 H2 fp).mono τ6 _ _ (fun r dG v H8 gv ir=>(by obtain⟨e,e1,h⟩:=dG;exact⟨gv,e,by subst e1;exact ir,h⟩)) w7⟩) (fun yv s8 ⟨v8,H8,I8,jY,gv,e8,lY,w8⟩=>?_) fun _ _ z=>z
   have pd:=I8.pin (D0,ob) (aC _ (b9 _ ag));obtain⟨o8,d8,_⟩:=pd;have nE:A0 (D5 X scope C s2 H2 fp N) (W5 fp s5.heap) σ6 H8 s8:=I8.pins_of fun p hp=>I8.pin p (aC _ (aC _ hp));have rm:s8.heap.DictOf (M2 X.prog X.w) D0 vs:=oP.at fun o e=>by rw [o3]at e;cases e;exact o8
   have el:vs.length=ps.length:=by rw [<- lK.length]
   cases Q5a ek7 pV;refine wpAny_dictSet_pairs (hsz:=by omega) (Q3w lI) rm fun h₅ nv kh=>?_;have I9:A0 (D5 X scope C s2 H2 fp N) (W5 fp s5.heap) σ6 H8 { s8 with heap:=h₅,toks:=s8.toks+1 }:=by
    refine nE.turned (t':=s8.toks+1) (it:=D0) (fun b o hb e=>(kh.2 b hb).trans e) d8 dg (.inr (by rw [<- hDe];exact aq _)) kb (fun p hp z=>?_);obtain⟨q1,_⟩:=Q9t (by simpa [D5]using hp);exact ay (dM _ q1) z
   obtain⟨pC,o9⟩:∃o,h₅.get? D0=some o:=by obtain⟨o,_,_,e,_⟩:=id nv;exact⟨o,e⟩
   have pA:A5 H3 H8:=iy.trans (gw.trans (g9.trans gv));have lF:tn (i+1) h₅:=T.keep _ _ _ fq fun b hb o e=>(I9.pin (b,o) (aC _ (Q2z hb e))).1;refine⟨ds.length-(i+1),by omega,i+1,σ6,H8,τ6,pC,stored vs k yv,S0 ps k v8,R9 kvs k e8,eV I9 d8 nv o9,R6.mono (g9.trans gv),lF,fun b hb=>?_,d8,o9,nv,lK.put k jY,C9.put lY (nR.mono (Kp.of pA) _ _),bU,rfl,?_,w8⟩
   ·obtain⟨o,e,_⟩:=T.obj _ _ fq b hb;exact(I9.pin (b,o) (aC _ (Q2z hb e))).2.1
   ·have:=Q9f ps k v8;omega
  ·have e:i=ds.length:=by omega
   subst e;refine aL (T.done (D5 X scope C s2 H2 fp N) rfl rfl rfl hc ds.length _ s3 σ3 H3 (fun _ _=>False) I3 (gK gJ) gt (yl.stop H3 bW)) (fun r s4 bu=>?_) fun _ _ z=>z;obtain⟨hr,I4⟩:=bu;subst hr;have o4:=(I4.pin (D0,_) (aC _ ag)).1;rw [gq]at w3;have rn:s4.heap.DictOf (M2 X.prog X.w) D0 vs:=oP.at fun o e=>by rw [o3]at e;cases e;exact o4
   exact fin C D0 s2 s4 H2 H3 fp _ σ3 ps vs kvs _ I2 cM I4 f2 (by rw [hDe];exact cS) (by rw [hDe];exact aq _) dg d3 i4 rn lK (by omega) bW nR w3
 exact codeAny_compStart_dict (loop _ rfl) (T.self _ 0 _ _ _ eX (loop _ rfl))
def Z6p (i nt:Nat)(cap:List Nat)(wi:WIE)(g:WG)(wk wv:WE):WS:=fun E τ=>wi τ fun ds=>ds.length<sizeLine/\V1 g wk wv ds (Q4 nt cap τ) [] fun kvs=>E.nx (τ.set i (some (.dk kvs)))
def DS.setKC {i:Nat}{x:Str}(hc:X.calm=true)(B:Blk X scope N nt cap)(hi:F9 X H0 tg iter wi)(hg:∀C s H fp,DG (D5 X scope C s H fp N) H tg g)(hk:∀C s H fp,DE (D5 X scope C s H fp N) H kx wk)
  (hv:∀C s H fp,DE (D5 X scope C s H fp N) H vx wv) (hN:X.N.Nodup) (ky:X.N[i]?=some x) (hx:Loc X.env.scope x)
  (i5:swapsWith (.DictComp kx vx [⟨tg,iter,[],0⟩] scope pos) (some (.Name x bC)) eT.line X.env=pure true:=by rfl) (hs:∀x,foldedSetIterable iter X.env x=pure x:=by intro _;rfl)
  (hf:X.fn x=true\/X.env.scope.names.lookup x=some .local:=by first | exact .inl rfl | exact .inr rfl | assumption) :
  DS X H0 (.Assign [.Name x bC] (.DictComp kx vx [⟨tg,iter,[],0⟩] scope pos) eT) (Z6p i nt cap wi g wk wv) where
 mono:=fun τ E F le h=>hi.mono τ _ _ (fun ds h=>⟨h.1,Y0d (hg 0 X.s₀ X.H₀ []).mono (hk 0 X.s₀ X.H₀ []).mono (hv 0 X.s₀ X.H₀ []).mono ds _ _ _ _ (fun es h=>le.nx _ h) h.2⟩) h
 ps:=by
  intro a9 s σ H D I ⟨τ,hR,hw⟩;rw [exec_Assign_Name_used _ _ _ _ i5];refine a8 (g7 (a8 ?_))
  change wpAny (model X.prog X.w) X.A (do let _ <- comprehension (.DictComp kx vx [⟨tg,iter,[],0⟩] scope pos) scope X.env _ newDict false (eval iter X.env) (some (assign (.Name x bC) X.env))) _ _ s
  refine a8 (aL (W3d (use:=some (assign (.Name x bC) X.env)) (QQ:=fun _ s'=>SP X a9 D .next s') hc B hi hg hk hv hs I hR hw fun C D0 s2 s4 H2 H4 fp pb σ4 ps vs kvs f I2 cM I4 f2 hC hD dg hn i4 dd rk hz sm4 kv w3=>?_)
   (fun _ s' hq=>ao (ao hq)) fun _ _ e=>e)
  have Ib:A0 X a9 σ (upd H4 D0 (.dK ps)) { s4 with heap:=s4.heap }:=Z9m I2 I4 f2 hC hD hn ⟨rfl,fun _ _=>rfl⟩ ⟨hz,i4,vs,rk,dd⟩;have iQ:C≠X.env.locals:=fun z=>aV _ (au I2.lt (z ▸ hC));have iP:∀x c,X.env.cells.lookup x=some c->c≠C:=fun x c h z=>by
   obtain⟨v,q⟩:=I2.cell x c h;exact aV _ (au q.lt (z ▸ hC))
  change wpAny (model X.prog X.w) X.A (assign (.Name x bC) X.env (Value.ref D0)) _ _ s4
  refine wpAny_assign_Name (Q7r (v:=.ref D0) Ib hN ky hx rfl (fun s5 I5 bu=>?_) hf);obtain⟨a,jV,ha⟩:=bu;obtain⟨m4,jc,_⟩:=id I4.loc;have kH:C≠a:=by
   rcases ha with ha | ha
   ·rw [ha];exact iQ
   ·exact fun z=>iP _ _ ha z.symm
  refine⟨m4,jc.sameBut jV kH,fun h' sb=>?_⟩;have kI:H4 C=none:=I4.free;have I6:A0 X a9 (σ.set i (some (.ref D0))) (upd H4 D0 (.dK ps)) { s5 with heap:=h' }:=by
   refine I5.turned (t':=s5.toks) (it:=C) (fun b o hb e=>(sb.2 b hb).trans e) (by rw [B9 (cF dg)];exact kI) iQ (.inr (aS I2.sz hC)) iP fun p hp z=>?_;have:=(I2.pin p hp).1;exact aV _ (au (ax this) (z ▸ hC))
  have jU:A5 H (upd H4 D0 (.dK ps)):=cM.trans (sm4.trans (G1 hn _));have de:=(hR.mono jU).set (i:=i) (s:=.dk kvs) (v:=.ref D0) ⟨D0,ps,rfl,hR.same.free (cM.free (I2.hok.fresh hD)),upd_same,kv.mono (Kp.of (G1 hn _)) _ _⟩ fun _ j t hj e m q=>by
   obtain⟨o,ho⟩:=hR.tracked e m q;rw [cM.free (I2.hok.fresh hD)]at ho;cases ho
  exact⟨_,_,I6,w3 _ _ (Kp.of jU) de⟩
end
def kyD:B8->D
 | .inl i=>.int i
 | .inr x=>.str x
def Q3z:List R->(R->Prop)->Prop
 | [.dk kvs],Q=>Q (.nw (kvs.map fun p=>kyD p.1))
 | _,_=>False
def Y2e {rs:List R}{Q:R->Prop}(h:Q3z rs Q):∃kvs,rs=[.dk kvs]/\Q (.nw (kvs.map fun p=>kyD p.1)):=by
 unfold Q3z at h;split at h
 ·exact⟨_,rfl,h⟩
 ·exact h.elim
def W3z:Q1r Q3z:=fun x P Q g h=>by
 obtain⟨kvs,rfl,h⟩:=Y2e h;exact g _ h
theorem Z1y {K:Fg9}{H:Hp}:∀(ps:List (B8×V)),AllS K H (ps.map fun p=>kyD p.1) (ps.map fun p=>kV p.1)
 | []=>AllS.nil
 | (.inl i,v)::r=>AllS.cons A1.s_int (Z1y r)
 | (.inr x,v)::r=>AllS.cons A1.s_str (Z1y r)
theorem C9.keysEq {K:Fg9}{H:Hp}:∀{kvs:List (B8×D)}{ps:List (B8×V)},C9 K H kvs ps->(kvs.map fun p=>kyD p.1)=ps.map fun p=>kyD p.1
 | [],ps,h=>by unfold C9 at h;subst h;rfl
 | p::kvs,ps,h=>by
  unfold C9 at h;obtain⟨v,r,rfl,iv,h⟩:=h;rw [am,am,C9.keysEq h]
section
variable {X:Cx}
def Y9i (hc:X.calm=true):Q1n X (.type "list") Q3z:=by
 intro a9 s σ H xs us Q I rv ⟨rs,cq,h⟩;obtain⟨kvs,rfl,h⟩:=Y2e h;obtain⟨v,rfl,ir⟩:=V0 cq;obtain⟨a,ps,rfl,e,kv⟩:=ir;obtain⟨u,rfl,ru⟩:=T4 rv;cases ru;obtain⟨z,hd,vs,rel,dd⟩:=Z2r I.hok e;obtain⟨ep,da⟩:=dd.dictAt;have el:vs.length=ps.length:=by rw [<- rel.length]
 refine PySem.W.kdl_call (PySem.W.kdl_dict (knd:=M2 X.prog X.w) (kvs:=vs) (ep:=ep) hd) (I.ok.hd hc) da (by omega) fun h' tk bT c' k e2 it=>?_;have hn:H s.heap.objs.size=none:=I.hok.fresh (aq _);have vl:C0 (ps.map fun p=>kV p.1) bT.toList:=by
  have key:∀(ps:List (B8×V)) (vs:List (B8×Value)) (us:List Value),KV ps vs->us.length=vs.length->(∀(j:Nat) (v:Value),us[j]?=some v->∃k x,vs[j]?=some (k,x)/\(M2 X.prog X.w).is k v=true)->C0 (ps.map fun p=>kV p.1) us:=by
   intro ps
   induction ps with
   | nil=>intro vs us r l _;cases r;cases us with
    | nil=>exact .nil
    | cons _ _=>cases l
   | cons p ps ih =>
    intro vs us r l f;cases r with
    | @cons _ q _ qs h1 t =>
     cases us with
     | nil=>cases l
     | cons u us =>
      obtain⟨k,x,e1,e2⟩:=f 0 u rfl;cases e1;refine .cons ?_ (ih qs us t (by simpa using l) fun j v e=>f (j+1) v (by simpa using e));have h1:p.1=k:=h1.1;show C1 (kV p.1) u;rw [h1];rcases Q0w e2 with⟨i,t,rfl,rfl⟩ | ⟨i,t,rfl,rfl⟩
      ·exact⟨t,rfl⟩
      ·exact⟨t,rfl⟩
  refine key ps vs bT.toList rel (by rw [bz];exact it.1) fun j v e=>it.2 j v (by rw [<- iT];exact e)
 refine⟨.ref s.heap.objs.size,_,I.laid (t':=tk) (o:=.lst (ps.map fun p=>kV p.1)) k (aq _) ⟨by rw [ac];exact z,bT.toList,c',vl,by simpa using e2⟩,rfl,h _ _ (G1 hn _) ⟨_,_,rfl,hn,upd_same,?_⟩⟩;rw [C9.keysEq kv];exact Z1y ps
def Q5g:List R->(R->Prop)->Prop
 | [r],Q=>∃ns:List Int,Q9 r=some (ns.map .int)/\ns≠[]/\∀m,m∈ns->(∀n∈ns,n<=m)->Q (.st (.int m))
 | _,_=>False
def Y2k:Q1r Q5g:=fun x P Q g h=>by
 unfold Q5g at h ⊢;split at h
 ·obtain⟨ns,a,b,c⟩:=h;exact⟨ns,a,b,fun m h1 h2=>g _ (c m h1 h2)⟩
 ·exact h
theorem Z9a (f:Nat->Int):∀k,argBest (fun i j=>decide (f i > f j)) k<=k/\∀j,j<=k->f j<=f (argBest (fun i j=>decide (f i > f j)) k)
 | 0=>⟨aq _,fun j hj=>by rw [Nat.le_zero.mp hj];exact Int.le_refl _⟩
 | k+1=>by
  obtain⟨h1,h2⟩:=Z9a f k;unfold argBest
  by_cases e:f (k+1) > f (argBest (fun i j=>decide (f i > f j)) k)
  ·rw [aG (by simpa using e)];refine⟨aq (k+1),fun j hj=>?_⟩
   by_cases z:j<=k
   ·exact Int.le_trans (h2 j z) (Int.le_of_lt e)
   ·rw [show j=k+1 by omega];exact Int.le_refl _
  ·rw [az (by simpa using e)];refine⟨Nat.le_succ_of_le h1,fun j hj=>?_⟩
   by_cases z:j<=k
   ·exact h2 j z
   ·rw [show j=k+1 by omega];omega
theorem Z3j:∀{ns:List Int}{aP:List Value},C0 (ns.map V.int) aP->∃xs:List (Int×Tok),aP=xs.map (fun p=>Value.int p.1 p.2)/\xs.map (·.1)=ns
 | [],aP,r=>by cases r;exact⟨[],rfl,rfl⟩
 | n::ns,aP,r=>by
  cases r with
  | cons h t =>
   obtain⟨tk,e⟩:=h;obtain⟨xs,e1,e2⟩:=Z3j (ns:=ns) t;exact⟨(n,tk)::xs,by rw [e,e1];rfl,by rw [am,e2]⟩
theorem Q8k {K:Fg9}{H:Hp}:∀{ns:List Int}{xs:List V},AllS K H (ns.map .int) xs->xs=ns.map V.int
 | [],xs,h=>by unfold List.map AllS at h;exact h
 | n::ns,xs,h=>by
  rw [am]at h;unfold AllS at h;obtain⟨v,r,rfl,i,t⟩:=h;unfold A1 at i;rw [i,Q8k t];rfl
def Z9s (hc:X.calm=true):Q1n X (.builtin "max") Q5g:=by
 intro a9 s σ H xs us Q I rv ⟨rs,cq,h⟩;unfold Q5g at h;split at h
 ·rename_i r;obtain⟨ns,e1,cz,h⟩:=h;obtain⟨v,rfl,ir⟩:=V0 cq;obtain⟨l,ys,rfl,sq,al⟩:=Q2b e1 ir;obtain⟨u,rfl,ru⟩:=T4 rv;cases ru;have ey:=Q8k al;subst ey;obtain⟨aP,fH,pl,hz⟩:=I.list sq;obtain⟨ps,ei,en⟩:=Z3j fH;subst ei;have hit:s.heap.IsList l (intItems ps.toArray):=by
   have:=pl.isList;have e:intItems ps.toArray=(ps.map fun p=>Value.int p.1 p.2).toArray:=by simp [intItems]
   rw [e];exact this
  have ql:0<ps.toArray.size:=by
   cases ps with
   | nil=>exact absurd en.symm cz
   | cons _ _=>simp
  refine max_intList (I.ok.hd hc) hit ql fun v h' tk e k=>?_;obtain⟨b1,b2⟩:=Z9a (numAt ps.toArray) (ps.toArray.size-1);obtain⟨t,et⟩:=intItems_at e;subst et;generalize argBest (fun i j=>decide (numAt ps.toArray i > numAt ps.toArray j)) (ps.toArray.size-1)=k0 at b1 b2 e;have at_:∀j,j<ps.length->ns[j]?=some (numAt ps.toArray j):=fun j hj=>by
   rw [<- en,af,aa hj];simp [numAt,hj]
  have qF:k0<ps.length:=by
   have:ps.toArray.size=ps.length:=by simp
   omega
  refine⟨.int (numAt ps.toArray k0),H,I.kept k,⟨t,rfl⟩,h _ (aB (at_ k0 qF)) (fun n hn=>?_) _ _ (A5.refl _) U5⟩;obtain⟨j,hj,e⟩:=lA hn;have hl:ns.length=ps.length:=by rw [<- en,ac]
  have:=at_ j (by omega);rw [aa hj,e]at this;rw [aA this];exact b2 j (by
   have:ps.toArray.size=ps.length:=by simp
   omega)
 ·exact h.elim
end
def LO.ok {P:Program}{w:World}{H:Hp}{h:Heap}{b:Addr}{xs:List V}(g:LO b xs h):ObjOk P w H h b (.ext (LO b xs)):=by
 obtain⟨z,aP,n,r,e⟩:=id g;exact⟨g,⟨_,e⟩,fun h1 h2 bR k=>(by obtain⟨z,aP,n,r,e⟩:=bR;exact⟨z,aP,n,r,k _ e⟩)⟩
def K3:Option Sl->Bool
 | some (.ll _ _)=>false
 | _=>true
def X6:Nat->A9->Bool
 | _,[]=>true
 | 0,_::r=>r.all K3
 | i+1,s::r=>K3 s&&X6 i r
theorem Z4m:∀{i:Nat} {τ:A9}{j:Nat}{a:Addr}{dss:List (List D)},X6 i τ=true->j≠i->τ[j]?≠some (some (.ll a dss))
 | _,[],j,a,dss,_,_=>by simp
 | 0,s::r,0,a,dss,_,h=>absurd rfl h
 | 0,s::r,j+1,a,dss,h,_=>fun e=>by
  have e:r[j]?=some (some (.ll a dss)):=by simpa using e
  have:=ci.mp h _ (aB e);cases this
 | i+1,s::r,0,a,dss,h,_=>fun e=>by
  have e:s=some (.ll a dss):=by simpa using e
  subst e;simp [X6,K3]at h
 | i+1,s::r,j+1,a,dss,h,n=>fun e=>by
  rw [X6,cj]at h;exact Z4m (i:=i) (j:=j) h.2 (fun z=>n (by rw [z])) (by simpa using e)
theorem K0.length {K:Fg9}{H:Hp}:∀{bs:List Addr}{dss:List (List D)},K0 K H bs dss->bs.length=dss.length
 | [],_,h=>by rw [show _=[]from h];rfl
 | b::bs,_,h=>by obtain⟨ds,r,rfl,_,t⟩:=h;rw [aD,aD,t.length]
theorem K0.get {K:Fg9}{H:Hp}:∀{bs:List Addr}{dss:List (List D)}{j:Nat},K0 K H bs dss->j<dss.length->∃b xs,bs[j]?=some b/\H b=some (.ext (LO b xs))/\AllS K H (dss.getD j []) xs
 | [],_,j,h,l=>by rw [show _=[]from h]at l;simp at l
 | b::bs,_,0,h,l=>by obtain⟨ds,r,rfl,⟨xs,q,al⟩,t⟩:=h;exact⟨b,xs,rfl,q,al⟩
 | b::bs,_,j+1,h,l=>by
  obtain⟨ds,r,rfl,_,t⟩:=h;obtain⟨b',xs,e,q,al⟩:=K0.get (j:=j) t (by simpa using l);exact⟨b',xs,by simpa using e,q,by simpa using al⟩
theorem K0.mem {K:Fg9}{H:Hp}:∀{bs:List Addr}{dss:List (List D)}{b:Addr},K0 K H bs dss->b∈bs->∃xs,H b=some (.ext (LO b xs))
 | [],_,b,h,l=>by cases l
 | c::bs,_,b,h,l=>by
  obtain⟨ds,r,rfl,⟨xs,q,al⟩,t⟩:=h;rcases ar.mp l with rfl | l
  ·exact⟨xs,q⟩
  ·exact t.mem l
theorem K0.set {K:Fg9}{H H':Hp}(k:Kp H H'){b0:Addr}{lq:List D}{gX:List V}(h0:H' b0=some (.ext (LO b0 gX)))(ph:AllS K H' lq gX)(gb:∀b φ,b≠b0->H b=some (.ext φ)->H' b=some (.ext φ)) :
  ∀{bs:List Addr}{dss:List (List D)}{j:Nat},bs.Nodup->K0 K H bs dss->bs[j]?=some b0->K0 K H' bs (dss.set j lq)
 | [],_,j,_,h,e=>by simp at e
 | b::bs,_,0,n,h,e=>by
  obtain⟨ds,r,rfl,⟨xs,q,al⟩,t⟩:=h;have e:b=b0:=by simpa using e
  subst e;rw [bi]at n;refine⟨lq,r,rfl,⟨gX,h0,ph⟩,?_⟩;have same:∀{cs:List Addr}{ess:List (List D)},b∉cs->K0 K H cs ess->K0 K H' cs ess:=by
   intro cs
   induction cs with
   | nil=>intro ess _ h;exact h
   | cons c cs ih =>
    intro ess nb h;obtain⟨ds,r,rfl,⟨xs,q,al⟩,t⟩:=h;exact⟨ds,r,rfl,⟨xs,gb c _ (fun z=>nb (by rw [z];exact ag)) q,al.mono k _ _⟩,ih (fun z=>nb (ae _ z)) t⟩
  exact same n.1 t
 | b::bs,_,j+1,n,h,e=>by
  obtain⟨ds,r,rfl,⟨xs,q,al⟩,t⟩:=h;rw [bi]at n;have e:bs[j]?=some b0:=by simpa using e
  exact⟨ds,r.set j lq,rfl,⟨xs,gb b _ (fun z=>n.1 (by rw [z];exact aB e)) q,al.mono k _ _⟩,K0.set k h0 ph gb n.2 t e⟩
section
variable {X:Cx}{H0:Hp}{o e v:Expr}{pos apos bp sp:Pos}{we wv:WE}{i:Nat}
def W6w {td ty:TE}(ho:PE X o td)(he:PE X e ty)(m:M1 X o "append" apos e bp):PE X (.Call (.Attribute o "append" apos) [e] [] bp)
  (fun σ H Q=>td σ H fun x H1=>∃b gX,x=.ref b/\H1 b=some (.ext (LO b gX))/\ty σ H1 fun y H2=>∃xs,H2 b=some (.ext (LO b xs))/\xs.length<sizeLine/\Q .non (upd H2 b (.ext (LO b (xs++[y]))))):=by
 intro a9 s σ H Q I h;refine wpAny_Call_method m.base m.few m.line cY PySem.F.slot_list_append PySem.F.type_list_append (B4 (ho a9 s σ H _ I h) fun u s1 bu=>?_);obtain⟨x,H1,I1,rx,b,gX,ex,eb,q1⟩:=bu;subst ex;obtain rfl:u=Value.ref b:=rx;obtain⟨_,pU,n0,_,e0⟩:=(show LO b gX s1.heap from(I1.hok b _ eb).1)
 refine⟨⟨_,e0,rfl⟩,fun c ec=>?_,?_⟩
 ·cases ec;exact⟨_,e0,rfl⟩
 rw [m.trees];refine Calls.callWith_builtin rfl (gr (jQ (B4 (he a9 s1 σ H1 _ I1 q1) fun yv s2 ⟨y,H2,I2,ry,xs,e2,hz,q2⟩=>Calls.spliced_nil ?_)));obtain⟨z2,aP,n,rv,e3⟩:=(show LO b xs s2.heap from(I2.hok b _ e2).1)
 have el:=rv.length;refine wpAny_list_append_plain (hsz:=by rw [aH];omega) ⟨n,e3⟩ fun h' hl hs=>⟨.non,_,?_,rfl,q2⟩
 obtain⟨n',e4⟩:=hl;refine Q8t (t':=s2.toks) I2 (by rw [e2];exact True.intro) hs ⟨_,e4⟩ (LO.ok ⟨by rw [ai];show xs.length+1<=_;omega,aP++[yv],n',rv.append (.cons ry .nil),by simpa using e4⟩)
def C4.llAt {K:Fg9}{H:Hp}{τ:A9}{σ:St}{a:Addr}{dss:List (List D)}(hR:C4 K H0 τ σ H)(e1:τ[i]?=some (some (.ll a dss))):σ[i]?=some (some (.ref a))/\Q4n K H0 H a dss:=by
 obtain⟨v,hv,rfl,q⟩:=hR.here i _ e1;exact⟨hv,q⟩
def rIxE:R2:=fun x y H Q=>∃p xs i v,x=.ref p/\y=.int i/\H p=some (.ext (LO p xs))/\K8 xs i=some v/\Q v H
def W2g {a9:Pn9}{σ:St}{H:Hp}{s:Shared}{p:Addr}{xs:List V}(I:A0 X a9 σ H s)(h:H p=some (.ext (LO p xs))):xs.length<=sizeLine/\∃aP n,C0 xs aP/\s.heap.get? p=some { cls:=.type "list",data:=.seq aP.toArray n }:=(I.hok p _ h).1
def W2w:IxR X rIxE:=by
 intro value slice a9 s σ H x y v u Q I rx ry h hs;obtain⟨p,xs,i,z,rfl,rfl,hq,he,q⟩:=h;cases rx;obtain⟨t,rfl⟩:=ry;obtain⟨hz,aP,n,r,e⟩:=W2g I hq;have pl:s.heap.IsList p aP.toArray:=⟨_,e,rfl,n,rfl⟩
 obtain⟨j,h1,h2,h3,h4,h5⟩:=Q8m he;obtain⟨w,ew,ft⟩:=r.get h2;have hl:=r.length;have hn:=Q2y;have fin:EP X a9 σ Q w s:=⟨z,H,I,ft,q⟩
 by_cases h0:0<=i
 ·have hj:i.toNat=j:=by
   rw [seqIndex_of h0 h5]at h1;exact aA h1
  exact item_listR pl h0 (by omega) (by rw [hj];simpa using ew) fin hs
 ·have hj:(i+(aP.toArray.size:Int)).toNat=j:=by
   rw [seqIndex_neg (by omega) h4]at h1;rw [aH,<- hl];exact aA h1
  exact subscriptTail_builtinR (x:=w) pl.typeIs slot_list_getitem.lookup
   (wpAny_getItem_list_neg (Q:=fun r s'=>r=w/\EP X a9 σ Q r s') pl (by omega) (by rw [aH] <;> omega) (by omega) (by rw [hj];simpa using ew) ⟨rfl,fin⟩) hs
def C4.llre {K:Fg9}{H H':Hp}{τ:A9}{σ:St}{a:Addr}{dss kK:List (List D)}(hR:C4 K H0 τ σ H)(e1:τ[i]?=some (some (.ll a dss)))(hv:σ[i]?=some (some (.ref a)))(only:X6 i τ=true)
  (kp:Kp H H') (ne:∀c u,H c=some u->(∀ φ,u≠.ext φ)->H' c=some u) (sm:A5 H0 H') (ll:Q4n K H0 H' a kK):C4 K H0 (τ.set i (some (.ll a kK))) σ H':=by
 have hl:i<τ.length:=(av.mp e1).1;refine⟨by rw [bM];exact hR.len,sm,fun k t e=>?_,fun k l t u w cz e2 e3 m1 m2 q1 q2=>?_⟩
 ·by_cases hk:k=i
  ·subst hk;rw [br hl]at e;cases e;exact⟨_,hv,rfl,ll⟩
  ·rw [aN (fun z=>hk z.symm)]at e;obtain⟨w,q,r⟩:=hR.here k t e;refine⟨w,q,?_⟩;cases t with
   | dat d=>exact A1.mono kp _ _ r
   | own es=>obtain⟨c,ys,e,n,q,t⟩:=r;exact⟨c,ys,e,n,ne _ _ q (by intro φ z;cases z),t.mono kp _ _⟩
   | bor es=>obtain⟨c,ys,e,q,t⟩:=r;exact⟨c,ys,e,q,t.mono kp _ _⟩
   | bd es=>obtain⟨c,ys,e,q,t⟩:=r;exact⟨c,ys,e,q,t.mono kp _ _⟩
   | dk es=>obtain⟨c,ys,e,n,q,t⟩:=r;exact⟨c,ys,e,n,ne _ _ q (by intro φ z;cases z),t.mono kp _ _⟩
   | dt es=>obtain⟨c,ys,e,n,q,t⟩:=r;exact⟨c,ys,e,n,ne _ _ q (by intro φ z;cases z),t.mono kp _ _⟩
   | ob _=>exact r
   | cl _ _=>exact⟨r.1,r.2.2 _ _ kp r.2.1,r.2.2⟩
   | ll a' d'=>exact absurd e (Z4m only hk)
   | ins _ _ _=>obtain⟨e,n,dx,ys,q,t⟩:=r;exact⟨e,n,dx,ys,ne _ _ q (by intro φ z;cases z),t.mono kp _ _⟩
 ·by_cases hk:k=i
  ·subst hk;rw [br hl]at e2;cases e2;cases m1
  ·by_cases jF:l=i
   ·subst jF;rw [br hl]at e3;cases e3;cases m2
   ·rw [aN (fun z=>hk z.symm)]at e2;rw [aN (fun z=>jF z.symm)]at e3;exact hR.apart k l t u w cz e2 e3 m1 m2 q1 q2
def C4.llset {K:Fg9}{H:Hp}{τ:A9}{σ:St}{a b:Addr}{dss:List (List D)}{j:Nat}{ds:List D}{bs:List Addr}{gX xs:List V}(hR:C4 K H0 τ σ H)(e1:τ[i]?=some (some (.ll a dss)))(hv:σ[i]?=some (some (.ref a)))(only:X6 i τ=true)
  (ha:H a=some (.ext (LO a (bs.map V.ref)))/\H0 a=none/\a∉bs) (nd:bs.Nodup) (h0:∀b∈bs,H0 b=none) (ll:K0 K H bs dss) (ej:bs[j]?=some b) (eb:H b=some (.ext (LO b gX))) (al:AllS K H ds xs) :
  Kp H (upd H b (.ext (LO b xs)))/\C4 K H0 (τ.set i (some (.ll a (dss.set j ds)))) σ (upd H b (.ext (LO b xs))):=by
 have kp:Kp H (upd H b (.ext (LO b xs))):=Kp.updM eb (by intro xs z;cases z) (by intro o u z;cases z) _;have qX:H0 b=none:=h0 b (aB ej);refine⟨kp,hR.llre e1 hv only kp (fun c u q n=>by rw [B9 (Q0e q eb (n _))];exact q) (fun c u q=>by rw [B9 (fun z=>by rw [z,qX]at q;cases q)];exact hR.same c u q)
  ⟨bs,⟨by rw [B9 (show a≠b from fun z=>ha.2.2 (by rw [z];exact aB ej))];exact ha.1,ha.2⟩,nd,h0,K0.set kp upd_same (al.mono kp _ _) (fun c φ hc q=>by rw [B9 hc];exact q) nd ll ej⟩⟩
def Q7w (i:Nat)(we wv:WE):WS:=fun E τ=>∃a dss,τ[i]?=some (some (.ll a dss))/\X6 i τ=true/\we τ fun r=>∃k j,r=.st (.int k)/\ixN dss.length k=some j/\wv τ fun r2=>∃d,r2=.st d/\(dss.getD j []).length<sizeLine /\
 E.nx (τ.set i (some (.ll a (dss.set j (dss.getD j []++[d])))))
def DS.llapp {b:Expr}(ho:PE X b (S4 i))(he:DE X H0 e we)(hv:DE X H0 v wv)(hpl:Z1q e)(m:M1 X (.Subscript b e pos) "append" apos v bp)(i5:swapsWith (.Call (.Attribute (.Subscript b e pos) "append" apos) [v] [] bp) none sp.line X.env=pure false:=by rfl) :
  DS X H0 (.Expr (.Call (.Attribute (.Subscript b e pos) "append" apos) [v] [] bp) sp) (Q7w i we wv) where
 mono:=fun τ E F le cp=>(by obtain⟨a,dss,e1,o,h⟩:=cp;exact⟨a,dss,e1,o,he.mono τ _ _ (fun r cQ=>(by obtain⟨k,j,a1,a2,h⟩:=cQ;exact⟨k,j,a1,a2,hv.mono τ _ _ (fun r dG=>(by obtain⟨d,b1,b2,b3⟩:=dG;exact⟨d,b1,b2,le.nx _ b3⟩)) h⟩)) h⟩)
 ps:=psW (Y3p (W6w (Y3k W2w ho he.pe hpl) hv.pe m) i5) fun D σ H dL=>by
  obtain⟨τ,hR,a,dss,e1,only,h⟩:=dL;obtain⟨gB,_⟩:=hR.llAt e1;refine⟨_,gB,τ,hR,he.mono τ _ _ (fun r ⟨k,j,a1,a2,h⟩ y H1 s1 ik=>?_) h⟩;subst a1;cases (show y=.int k from ik);have eL:=hR.mono s1;obtain⟨_,bs,ha,nd,h0,ll⟩:=eL.llAt e1;have el:=ll.length;obtain⟨_,hj,_,_⟩:=Z3l a2;obtain⟨b0,xs,ej,eb,al⟩:=ll.get hj;have qY:K8 (bs.map V.ref) k=some (V.ref b0):=by unfold K8;rw [ac,el,a2];show(bs.map V.ref)[j]?=_;rw [af,ej];rfl
  refine⟨a,bs.map V.ref,k,V.ref b0,rfl,rfl,ha.1,qY,b0,xs,rfl,eb,τ,eL,hv.mono τ _ _ (fun r ⟨d,b1,b2,b3⟩ u H2 s2 iv=>?_) h⟩;subst b1;have dZ:=eL.mono s2;have ef:=al.mono (Kp.of s2) _ _;refine⟨xs,s2 _ _ eb,by rw [<- al.length];exact b2,?_⟩;obtain⟨kp,n9⟩:=dZ.llset (xs:=xs++[u]) (ds:=dss.getD j []++[d]) e1 gB only ⟨s2 _ _ ha.1,ha.2⟩ nd h0 (ll.keep (Kp.of s2) fun b φ q=>s2 _ _ q) ej (s2 _ _ eb) (ef.append (AllS.cons iv AllS.nil));exact b3 _ _ ((Kp.of (s1.trans s2)).trans kp) n9
def Y1r {a9:Pn9}{σ:St}{H:Hp}{s:Shared}{b:Addr}{xs:List V}(I:A0 X a9 σ H s)(h:H b=some (.ext (LO b xs))):∃o,A0 X a9 σ (upd H b (.frz o (.lst xs))) s:=by
 obtain⟨z,aP,n,r,q⟩:=(show LO b xs s.heap from(I.hok b _ h).1)
 refine⟨_,I.write (t':=s.toks) (h':=s.heap) (e:=b) (o:=.frz { cls:=.type "list",data:=.seq aP.toArray n } (.lst xs)) (by rw [h];trivial) (.inl rfl) (fun b u _ k=>k) ⟨_,q⟩ ?_⟩;exact⟨q,z,aP,n,r,q⟩
theorem Y1q {a9:Pn9}{σ:St}{s:Shared}:∀{bs:List Addr}{dss:List (List D)}{H:Hp},A0 X a9 σ H s->bs.Nodup->K0 X.K H bs dss ->
  ∃H',A0 X a9 σ H' s/\Kp H H'/\(∀c,c∉bs->H' c=H c)/\(∀c u,H c=some u->(∀ φ,u≠.ext φ)->H' c=some u)/\AllS X.K H' (dss.map .lst) (bs.map V.ref)
 | [],dss,H,I,_,h=>by
  rw [show dss=[]from h];exact⟨H,I,Kp.refl H,fun _ _=>rfl,fun _ _ q _=>q,AllS.nil⟩
 | b::bs,dss,H,I,n,h=>by
  obtain⟨ds,r,rfl,⟨xs,q,al⟩,t⟩:=h;rw [bi]at n;obtain⟨o,I1⟩:=Y1r I q;have kp:Kp H (upd H b (.frz o (.lst xs))):=Kp.updM q (by intro xs z;cases z) (by intro o u z;cases z) _;have t1:K0 X.K (upd H b (.frz o (.lst xs))) bs r:=by
   have same:∀{cs:List Addr}{ess:List (List D)},b∉cs->K0 X.K H cs ess->K0 X.K (upd H b (.frz o (.lst xs))) cs ess:=by
    intro cs
    induction cs with
    | nil=>intro ess _ h;exact h
    | cons c cs ih =>
     intro ess nb h;obtain⟨ds,r,rfl,⟨xs,q,al⟩,t⟩:=h;exact⟨ds,r,rfl,⟨xs,by rw [B9 (fun z=>nb (by rw [z];exact ag))];exact q,al.mono kp _ _⟩,ih (fun z=>nb (ae _ z)) t⟩
   exact same n.1 t
  obtain⟨H',I2,k2,o2,e2,ef⟩:=Y1q I1 n.2 t1;refine⟨H',I2,kp.trans k2,fun c hc=>?_,fun c u hq hu=>?_,AllS.cons (A1.s_lst (.inl ⟨o,k2.frz _ _ _ upd_same⟩) ((al.mono kp _ _).mono k2 _ _)) ef⟩
  ·rw [o2 c (fun z=>hc (ae _ z)),B9 (fun z=>hc (by rw [z];exact ag))]
  ·exact e2 c u (by rw [B9 (Q0e hq q (hu _))];exact hq) hu
def Z6n (i:Nat)(w:WS):WS:=fun E τ=>w { E with nx:=fun τ'=>∃a dss,τ'[i]?=some (some (.ll a dss))/\X6 i τ'=true/\E.nx (τ'.set i (some (.dat (.lst (dss.map .lst))))) } τ
def DS.fzL {st:Stmt}{w:WS}(i:Nat)(h:DS X H0 st w):DS X H0 st (Z6n i w) where
 mono:=fun τ E F le q=>h.mono τ { E with nx:=fun τ'=>∃a dss,τ'[i]?=some (some (.ll a dss))/\X6 i τ'=true/\E.nx (τ'.set i (some (.dat (.lst (dss.map .lst))))) } { F with nx:=fun τ'=>∃a dss,τ'[i]?=some (some (.ll a dss))/\X6 i τ'=true/\F.nx (τ'.set i (some (.dat (.lst (dss.map .lst))))) }
  ⟨fun τ' dF=>(by obtain⟨a,dss,e,o,q⟩:=dF;exact⟨a,dss,e,o,le.nx _ q⟩),le.rt,le.bk,le.ct⟩ q
 ps:=psW (Y3q h.ps) fun D σ H ⟨τ,hR,q⟩=>⟨τ,hR,h.mono τ { O7 X.K H0 H D with nx:=fun τ'=>∃a dss,τ'[i]?=some (some (.ll a dss))/\X6 i τ'=true/\(O7 X.K H0 H D).nx (τ'.set i (some (.dat (.lst (dss.map .lst))))) } _
  ⟨fun τ' i9 σ' H' kp de a9 s I=>by
   obtain⟨a,dss,e,only,q⟩:=i9;obtain⟨hv,bs,ha,nd,h0,ll⟩:=de.llAt e;obtain⟨H1,I1,k1,o1,e1,fm⟩:=Y1q I nd ll;have mU:H1 a=some (.ext (LO a (bs.map V.ref))):=by rw [o1 a ha.2.2];exact ha.1
   obtain⟨ob,I2⟩:=Y1r I1 mU;have k3:Kp H1 (upd H1 a (.frz ob (.lst (bs.map V.ref)))):=Kp.updM mU (by intro xs z;cases z) (by intro o u z;cases z) _;have k2:=k1.trans k3;have e2:∀c u,H' c=some u->(∀ φ,u≠.ext φ)->upd H1 a (.frz ob (.lst (bs.map V.ref))) c=some u:=fun c u q n=>by rw [B9 (Q0e (e1 c u q n) mU (n _))];exact e1 c u q n
   have ef:=fm.mono k3 _ _;have hl:i<τ'.length:=(av.mp e).1;refine⟨_,I2,q σ' _ (kp.trans k2) ⟨by rw [bM];exact de.len,fun c u hq=>?_,fun k t et=>?_,fun k l t u w cz et eu m1 m2 q1 q2=>?_⟩⟩
   ·rw [B9 (fun z=>by rw [z,ha.2.1]at hq;cases hq),o1 c (fun z=>by rw [h0 c z]at hq;cases hq)];exact de.same c u hq
   ·by_cases hk:k=i
    ·subst hk;rw [br hl]at et;cases et;exact⟨_,hv,A1.s_lst (K:=X.K) (.inl ⟨ob,upd_same⟩) ef⟩
    ·rw [aN (fun z=>hk z.symm)]at et;obtain⟨w,q,r⟩:=de.here k t et;refine⟨w,q,?_⟩;cases t with
     | dat d=>exact A1.mono k2 _ _ r
     | own es=>obtain⟨c,ys,e,n,q,t⟩:=r;exact⟨c,ys,e,n,e2 _ _ q (by intro φ z;cases z),t.mono k2 _ _⟩
     | bor es=>obtain⟨c,ys,e,q,t⟩:=r;exact⟨c,ys,e,q,t.mono k2 _ _⟩
     | bd es=>obtain⟨c,ys,e,q,t⟩:=r;exact⟨c,ys,e,q,t.mono k2 _ _⟩
     | dk es=>obtain⟨c,ys,e,n,q,t⟩:=r;exact⟨c,ys,e,n,e2 _ _ q (by intro φ z;cases z),t.mono k2 _ _⟩
     | dt es=>obtain⟨c,ys,e,n,q,t⟩:=r;exact⟨c,ys,e,n,e2 _ _ q (by intro φ z;cases z),t.mono k2 _ _⟩
     | ob _=>exact r
     | cl _ _=>exact⟨r.1,r.2.2 _ _ k2 r.2.1,r.2.2⟩
     | ll a' d'=>exact absurd et (Z4m only hk)
     | ins _ _ _=>obtain⟨e,n,dx,ys,q,t⟩:=r;exact⟨e,n,dx,ys,e2 _ _ q (by intro φ z;cases z),t.mono k2 _ _⟩
   ·by_cases hk:k=i
    ·subst hk;rw [br hl]at et;cases et;cases m1
    ·by_cases jF:l=i
     ·subst jF;rw [br hl]at eu;cases eu;cases m2
     ·rw [aN (fun z=>hk z.symm)]at et;rw [aN (fun z=>jF z.symm)]at eu;exact de.apart k l t u w cz et eu m1 m2 q1 q2,fun _ h=>h,fun _ h=>h,fun _ h=>h⟩ q⟩
end
def Y7 (g:WG)(we:WE):List D->A9->(List (List D)->Prop)->Prop
 | [],_,Q=>Q []
 | d::ds,τ,Q=>g d τ fun τ'=>we τ' fun r=>∃es,r=.nw es/\Y7 g we ds τ' fun ess=>Q (es::ess)
theorem Y0e {g:WG}{we:WE}(hg:∀d τ (P Q:A9->Prop),(∀ τ,P τ->Q τ)->g d τ P->g d τ Q)(he:∀(τ:A9) (P Q:R->Prop),(∀r,P r->Q r)->we τ P->we τ Q) :
  ∀(ds:List D) (τ:A9) (P Q:List (List D)->Prop),(∀es,P es->Q es)->Y7 g we ds τ P->Y7 g we ds τ Q
 | [],_,_,_,f,h=>f _ h
 | d::ds,τ,P,Q,f,h=>hg d τ _ _ (fun τ' h=>he τ' _ _ (fun r bR=>(by obtain⟨e,e1,h⟩:=bR;exact⟨e,e1,Y0e hg he ds τ' _ _ (fun es h=>f _ h) h⟩)) h) h
theorem K0.append {K:Fg9}{H:Hp}{b:Addr}{ds:List D}{xs:List V}(q:H b=some (.ext (LO b xs)))(al:AllS K H ds xs):∀{bs:List Addr}{dss:List (List D)},K0 K H bs dss->K0 K H (bs++[b]) (dss++[ds])
 | [],dss,h=>by rw [show dss=[]from h];exact⟨ds,[],rfl,⟨xs,q,al⟩,rfl⟩
 | c::bs,dss,h=>by obtain⟨es,r,rfl,x,t⟩:=h;exact⟨es,r++[ds],rfl,x,t.append q al⟩
theorem Y7b:∀(bs:List Addr),C0 (bs.map V.ref) (bs.map Value.ref)
 | []=>.nil
 | b::bs=>.cons rfl (Y7b bs)
section
variable {X:Cx}{H0:Hp}{tg iter dU:Expr}{scope:Scope}{pos bC eT:Pos}{N:List Str}{nt:Nat}{cap:List Nat}{wi:WIE}{g:WG}{we:WE}
def W3p {use:Option (Value->Sem Unit)}{QQ:VS9}{P:List (List D)->Prop}{gz:Pos}{a9:Pn9}{s:Shared}{σ:St}{H:Hp}{τ:A9}(hc:X.calm=true)(B:Blk X scope N nt cap)(hi:F9 X H0 tg iter wi)
  (hg:∀C s H fp,DG (D5 X scope C s H fp N) H tg g) (he:∀C s H fp,DE (D5 X scope C s H fp N) H dU we) (hs:∀x,foldedSetIterable iter X.env x=pure x)
  (I:A0 X a9 σ H s) (hR:C4 X.K H0 τ σ H) (hw:wi τ fun ds=>ds.length<=sizeLine/\Y7 g we ds (Q4 nt cap τ) P)
  (fin:∀(C D0:Addr) (s2 s4:Shared) (H2 H4:Hp) (fp:List Addr) (pb:Pn9) (σ4:St) (bs:List Addr) (nn:Nat) (dss:List (List D)) (f:Flow),A0 X a9 σ H2 s2->A5 H H2->A0 (D5 X scope C s2 H2 fp N) pb σ4 H4 s4->(∀b∈fp,P4 X a9 H2 b) ->
   s2.heap.objs.size<=C->s2.heap.objs.size<=D0->D0≠C->H4 D0=none->s4.heap.get? D0=some { cls:=.type "list",data:=.seq (bs.map Value.ref).toArray nn }->bs.length<=sizeLine->A5 H2 H4->bs.Nodup->(∀b∈bs,H2 b=none)->K0 X.K H4 bs dss->P dss->compPost (model X.prog X.w) X.A X.xe use QQ (.ref D0) C (.ok f) s4) :
  wpAny (model X.prog X.w) X.A (comprehension (.ListComp dU [⟨tg,iter,[],0⟩] scope pos) scope X.env gz (newList []) false (eval iter X.env) use) QQ X.xe s:=by
 refine wpAny_comprehension_free rfl hs (Z2m fun y hy e=>I.ok.has y.1 (B.free y hy e)) B.kind B.names ?_;refine B4 (hi.pi a9 s σ H (fun J H2=>A5 H H2/\∃ds,YlS X.K J ds H2/\ds.length<=sizeLine/\Y7 g we ds (Q4 nt cap τ) P) I
  ⟨τ,hR,hi.mono τ _ _ (fun ds h J H' sm yl=>⟨sm,ds,yl,h.1,h.2⟩) hw⟩) fun v s1 h1=>B4 h1 fun jA s2 h2=>?_
 obtain⟨it,fp,tn,J,H2,e,I2,T,eG,f2,cM,ds,yl,hz,iG⟩:=h2;subst e;have fZ:∀b∈fp,b<s2.heap.objs.size:=fun b hb=>by
  obtain⟨o,ho,_⟩:=T.obj _ _ eG b hb;exact ax ho
 have dZ:=hR.mono cM;refine bx (wpAny_newFunctionEnv B.cell (by intro y hy;simp at hy) (fun h₁ dn cP=>?_) B.kind);dsimp only at dn cP ⊢;generalize hH2:s2.heap.push { cls:=.type "list",dict:=none,data:=.seq ([]:List Value).toArray }=Hq at dn cP ⊢;have hC:Hq.objs.size=s2.heap.objs.size+1:=by rw [<- hH2,di]
 have dg:s2.heap.objs.size≠Hq.objs.size:=by rw [hC];exact ay (cf _)
 have cS:s2.heap.objs.size<=Hq.objs.size:=by rw [hC];exact dI _
 have old:∀b o,s2.heap.get? b=some o->h₁.get? b=some o:=fun b o e=>cP.extBut b o (by rw [hC];exact ay (bA (ax e))) (aj _ (hH2 ▸ aj _ e));have dv:h₁.PlainList s2.heap.objs.size #[]:=⟨_,cP.extBut _ _ dg (aj _ (hH2 ▸ aI _ rfl))⟩
 generalize hCe:Hq.objs.size=C at dn cP hC dg cS ⊢;generalize hDe:s2.heap.objs.size=D0 at hC dg cS dv ⊢;have dM:∀b∈fp,b<D0:=fun b hb=>hDe ▸ fZ b hb;have eX:tn 0 h₁:=T.keep _ _ _ eG fun b _ o e=>old b o e;have kQ:=Z2b (C:=C) (h':=h₁) (t':=s2.toks+([]:List (Str×Value)).length) I2 B f2 fZ (by rw [hDe];exact cS) dn old;have iO:H2 D0=none:=I2.hok.fresh (by rw [hDe];exact aq _);have ka:D0∉E6 X.stack:=fun z=>by
  rcases ar.mp (I2.stkSub _ z)with e | e
  ·have:=I2.lt;rw [<- e,hDe]at this;exact aV _ this
  ·exact I2.nofs (by rw [hDe];exact aq _) e
 have kb:∀x c,(T9 X.env scope.names []).lookup x=some c->c≠D0:=fun x c h z=>by
  obtain⟨v,q⟩:=I2.cell x c (Y6 I2 B h);have:=q.lt;rw [z,hDe]at this;exact aV _ this
 have eV:∀{pb:Pn9} {σ':St}{H':Hp}{s':Shared}{ys:Array Value}{n:Nat},A0 (D5 X scope C s2 H2 fp N) pb σ' H' s'->H' D0=none->s'.heap.get? D0=some { cls:=.type "list",data:=.seq ys n } ->
   A0 (D5 X scope C s2 H2 fp N) [(D0,{ cls:=.type "list",data:=.seq ys n })] σ' H' s':=by
  intro pb σ' H' s' ys n I' n' e;refine I'.pins_of fun p hp=>?_;have e':p=(D0,{ cls:=.type "list",data:=.seq ys n }):=by simpa using hp
  subst e';exact⟨e,n',dg,ka,fun v z=>by cases z⟩
 have gK:∀{H':Hp}{ob:Obj},(∀b∈fp,H' b=none)->∀b∈fp,P4 (D5 X scope C s2 H2 fp N) [(D0,ob)] H' b:=by
  intro H' ob hn b hb;refine⟨hn b hb,(ay (au (dM b hb) cS)),fun z=>?_,.inl hb,fun x c h=>(f2 b hb).2.2.2.2.1 x c (Y6 I2 B h),fun p hp=>?_⟩
  ·rcases ar.mp (I2.stkSub b z)with e | e
   ·exact(f2 b hb).2.1 e
   ·exact(f2 b hb).2.2.1 e
  ·have e':p=(D0,ob):=by simpa [D5]using hp
   subst e';exact(ay (dM b hb)).symm
 let jN:Nat->Shared->Prop:=fun k s'=>∃(i:Nat) (σ':St) (H':Hp) (τ':A9) (nn:Nat) (bs:List Addr) (dss:List (List D)),A0 (D5 X scope C s2 H2 fp N) [(D0,{ cls:=.type "list",data:=.seq (bs.map Value.ref).toArray nn })] σ' H' s'/\C4 X.K H2 τ' σ' H'/\tn i s'.heap /\
  (∀b∈fp,H' b=none)/\H' D0=none/\bs.Nodup/\(∀b∈bs,H2 b=none)/\K0 X.K H' bs dss/\i<=ds.length/\k=ds.length-i/\bs.length=i/\Y7 g we (ds.drop i) τ' fun ess=>P (dss++ess)
 have loop:∀s₃:Shared,s₃={ s2 with heap:=h₁,toks:=s2.toks+([]:List (Str×Value)).length } ->
   codeAny (model X.prog X.w) X.A (.compLoop (.ListComp dU [⟨tg,iter,[],0⟩] scope pos) 0 (.ref it) (.ref D0) (compEnvC scope (T9 X.env scope.names []) C X.env))
    (compPost (model X.prog X.w) X.A X.xe use QQ (.ref D0) C) s₃:=by
  rintro s₃ rfl;obtain⟨nn,ho⟩:=id dv;refine Y0f jN ?_ ds.length ⟨0,_,H2,Q4 nt cap τ,nn,[],[],eV kQ iO ho,Z4x dZ nt cap,eX,fun b hb=>(f2 b hb).1,iO,List.nodup_nil,(by intro b hb;cases hb),rfl,bt _,rfl,rfl,by simpa using iG⟩;rintro k s3 ⟨i,σ3,H3,τ3,nn,bs,dss,I3,R3,gt,gJ,d3,nO,f3,lU,og,rfl,lh,w3⟩;have bW:A5 H2 H3:=R3.same
  by_cases bU:i<ds.length
  ·refine aL (T.item (D5 X scope C s2 H2 fp N) rfl rfl rfl hc i _ s3 σ3 H3 (fun _ _=>False) I3 (gK gJ) gt (yl.go H3 bW i bU)) (fun r s4 bu=>?_) fun _ _ z=>z;obtain⟨u,hr,h4⟩:=bu;subst hr;refine aL h4 (fun _ s5 bu=>?_) fun _ _ z=>z;obtain⟨x,H5,I5,r5,y5,fq,ju⟩:=bu;obtain⟨iy,ix⟩:=yl.yld H3 bW i x H5 _ (aa bU) y5;rw [cK bU]at w3;have jw:=I5.pinned (gK ju) (T.obj _ _ fq);refine aL ((hg C s2 H2 fp).pg _ s5 σ3 H5 x u (fun σ6 H6=>∃ τ6,C4 X.K H2 τ6 σ6 H6/\A5 H5 H6/\we τ6 fun r=>∃es,r=.nw es/\Y7 g we (ds.drop (i+1)) τ6 fun ess=>P (dss++(es::ess)))
    jw r5 ⟨τ3,ds[i],R3.mono iy,ix,(hg C s2 H2 fp).mono _ _ _ _ (fun τ6 h6 σ6 H6 gw R6=>⟨τ6,R6,gw,h6⟩) w3⟩) (fun _ s6 ⟨σ6,H6,I6,τ6,R6,gw,w6⟩=>?_) fun _ _ z=>z
   refine wpAny_tests_nil ?_;rw [aG rfl];refine aL ((he C s2 H2 fp).pe _ s6 σ6 H6 (fun v H8=>A5 H6 H8/\∃es,E5 X.K H6 H8 (.nw es) v/\Y7 g we (ds.drop (i+1)) τ6 fun ess=>P (dss++(es::ess))) I6
    ⟨τ6,R6,(he C s2 H2 fp).mono τ6 _ _ (fun r cp v H8 gv ir=>(by obtain⟨e,e1,h⟩:=cp;exact⟨gv,e,by subst e1;exact ir,h⟩)) w6⟩) (fun y s8 ⟨v8,H8,I8,jY,pz,es,⟨b,xs,eb,nb,kB,rB⟩,w8⟩=>?_) fun _ _ z=>z
   subst eb;obtain rfl:y=Value.ref b:=jY;have pd:=I8.pin (D0,_) (aC _ (b9 _ ag));obtain⟨o8,d8,_⟩:=pd;have qW:b≠D0:=fun z=>by rw [z,d8]at kB;cases kB
   obtain⟨zb,lW,pN,rb,ob⟩:=I8.hok b _ kB;have pk:A0 (D5 X scope C s2 H2 fp N) ([(D0,{ cls:=.type "list",data:=.seq (bs.map Value.ref).toArray nn })]++W5 fp s5.heap) σ6 (upd H8 b (.ext (LO b xs))) s8 :=
    I8.write (t':=s8.toks) (h':=s8.heap) (e:=b) (by rw [kB];trivial) (.inl rfl) (fun c u _ k=>k) ⟨_,ob⟩ (LO.ok ⟨zb,lW,pN,rb,ob⟩)
   have kp:Kp H8 (upd H8 b (.ext (LO b xs))):=Kp.upd kB _;have iW:A5 H6 (upd H8 b (.ext (LO b xs))):=fun c u q=>by rw [B9 (X5 q nb)];exact pz c u q
   have jB:(bs.map Value.ref).toArray.size<=sizeLine:=by simp;omega
   refine wpAny_list_append_plain (hsz:=jB) ⟨nn,o8⟩ fun h₅ mB kh=>?_;have nE:A0 (D5 X scope C s2 H2 fp N) (W5 fp s5.heap) σ6 (upd H8 b (.ext (LO b xs))) s8:=pk.pins_of fun p hp=>pk.pin p (aC _ (aC _ hp));have ny:upd H8 b (.ext (LO b xs)) D0=none:=by rw [B9 (cF qW)];exact d8
   have I9:A0 (D5 X scope C s2 H2 fp N) (W5 fp s5.heap) σ6 (upd H8 b (.ext (LO b xs))) { s8 with heap:=h₅ }:=by
    refine nE.turned (t':=s8.toks) (it:=D0) (fun c o hb e=>(kh.2 c hb).trans e) ny dg (.inr (by rw [<- hDe];exact aq _)) kb (fun p hp z=>?_);obtain⟨q1,_⟩:=Q9t (by simpa [D5]using hp);exact ay (dM _ q1) z
   obtain⟨lO,o9⟩:=mB;have pE:h₅.get? D0=some { cls:=.type "list",data:=.seq ((bs++[b]).map Value.ref).toArray lO }:=by rw [o9];simp
   have l3:A5 H3 H6:=iy.trans gw;have lF:tn (i+1) h₅:=T.keep _ _ _ fq fun b hb o e=>(I9.pin (b,o) (aC _ (Q2z hb e))).1;have pQ:K0 X.K (upd H8 b (.ext (LO b xs))) bs dss:=lU.keep (Kp.of (l3.trans iW)) fun c φ q=>(l3.trans iW) _ _ q;refine⟨ds.length-(i+1),by omega,i+1,σ6,_,τ6,lO,bs++[b],dss++[es],eV I9 ny pE,R6.mono iW,lF,fun c hb=>?_,ny,?_,fun c hc=>?_,pQ.append upd_same (rB.mono kp _ _),bU,rfl,by rw [ai,lh];rfl,by simpa using w8⟩
   ·obtain⟨o,e,_⟩:=T.obj _ _ fq c hb;exact(I9.pin (c,o) (aC _ (Q2z hb e))).2.1
   ·rw [be];refine⟨nO,by simp,fun c hc c' dy z=>?_⟩;rw [show c'=b by simpa using dy]at z;obtain⟨jR,q⟩:=lU.mem hc;have q6:=l3 _ _ q;rw [z,nb]at q6;cases q6
   ·rcases aR.mp hc with z | z
    ·exact f3 c z
    ·rw [aE.mp z];exact(bW.trans l3).free nb
  ·have e:i=ds.length:=by omega
   subst e;refine aL (T.done (D5 X scope C s2 H2 fp N) rfl rfl rfl hc ds.length _ s3 σ3 H3 (fun _ _=>False) I3 (gK gJ) gt (yl.stop H3 bW)) (fun r s4 bu=>?_) fun _ _ z=>z;obtain⟨hr,I4⟩:=bu;subst hr;have o4:=(I4.pin (D0,_) (aC _ ag)).1;rw [gq]at w3;have w3:P (dss++[]):=w3;rw [aW]at w3;exact fin C D0 s2 s4 H2 H3 fp _ σ3 bs nn dss _ I2 cM I4 f2 (by rw [hDe];exact cS) (by rw [hDe];exact aq _) dg d3 o4 (by omega) bW nO f3 lU w3
 exact codeAny_compStart_list (loop _ rfl) (T.self _ 0 _ _ _ eX (loop _ rfl))
def Z6q (i nt:Nat)(cap:List Nat)(wi:WIE)(g:WG)(we:WE):WS:=fun E τ=>wi τ fun ds=>ds.length<=sizeLine/\Y7 g we ds (Q4 nt cap τ) fun dss=>∀a,E.nx (τ.set i (some (.ll a dss)))
def DS.setLC {i:Nat}{x:Str}(hc:X.calm=true)(B:Blk X scope N nt cap)(hi:F9 X H0 tg iter wi)(hg:∀C s H fp,DG (D5 X scope C s H fp N) H tg g)(he:∀C s H fp,DE (D5 X scope C s H fp N) H dU we)(hN:X.N.Nodup)(ky:X.N[i]?=some x)(hx:Loc X.env.scope x)
  (i5:swapsWith (.ListComp dU [⟨tg,iter,[],0⟩] scope pos) (some (.Name x bC)) eT.line X.env=pure true:=by rfl) (hs:∀x,foldedSetIterable iter X.env x=pure x:=by intro _;rfl)
  (hf:X.fn x=true\/X.env.scope.names.lookup x=some .local:=by first | exact .inl rfl | exact .inr rfl | assumption) :
  DS X H0 (.Assign [.Name x bC] (.ListComp dU [⟨tg,iter,[],0⟩] scope pos) eT) (Z6q i nt cap wi g we) where
 mono:=fun τ E F le h=>hi.mono τ _ _ (fun ds h=>⟨h.1,Y0e (hg 0 X.s₀ X.H₀ []).mono (he 0 X.s₀ X.H₀ []).mono ds _ _ _ (fun es h a=>le.nx _ (h a)) h.2⟩) h
 ps:=by
  intro a9 s σ H D I ⟨τ,hR,hw⟩;rw [exec_Assign_Name_used _ _ _ _ i5];refine a8 (g7 (a8 ?_))
  change wpAny (model X.prog X.w) X.A (do let _ <- comprehension (.ListComp dU [⟨tg,iter,[],0⟩] scope pos) scope X.env _ (newList []) false (eval iter X.env) (some (assign (.Name x bC) X.env))) _ _ s
  refine a8 (aL (W3p (use:=some (assign (.Name x bC) X.env)) (QQ:=fun _ s'=>SP X a9 D .next s') hc B hi hg he hs I hR hw fun C D0 s2 s4 H2 H4 fp pb σ4 bs nn dss f I2 cM I4 f2 hC hD dg hn ho hz sm4 nd fr ll w3=>?_)
   (fun _ s' hq=>ao (ao hq)) fun _ _ e=>e)
  have Ib:A0 X a9 σ (upd H4 D0 (.ext (LO D0 (bs.map V.ref)))) { s4 with heap:=s4.heap } :=
   Z9m I2 I4 f2 hC hD hn ⟨rfl,fun _ _=>rfl⟩ (LO.ok ⟨by rw [ac];exact hz,bs.map Value.ref,nn,Y7b bs,ho⟩)
  have iQ:C≠X.env.locals:=fun z=>aV _ (au I2.lt (z ▸ hC));have iP:∀x c,X.env.cells.lookup x=some c->c≠C:=fun x c h z=>by
   obtain⟨v,q⟩:=I2.cell x c h;exact aV _ (au q.lt (z ▸ hC))
  change wpAny (model X.prog X.w) X.A (assign (.Name x bC) X.env (Value.ref D0)) _ _ s4
  refine wpAny_assign_Name (Q7r (v:=.ref D0) Ib hN ky hx rfl (fun s5 I5 bu=>?_) hf);obtain⟨a,jV,ha⟩:=bu;obtain⟨m4,jc,_⟩:=id I4.loc;have kH:C≠a:=by
   rcases ha with ha | ha
   ·rw [ha];exact iQ
   ·exact fun z=>iP _ _ ha z.symm
  refine⟨m4,jc.sameBut jV kH,fun h' sb=>?_⟩;have kI:H4 C=none:=I4.free;have I6:A0 X a9 (σ.set i (some (.ref D0))) (upd H4 D0 (.ext (LO D0 (bs.map V.ref)))) { s5 with heap:=h' }:=by
   refine I5.turned (t':=s5.toks) (it:=C) (fun b o hb e=>(sb.2 b hb).trans e) (by rw [B9 (cF dg)];exact kI) iQ (.inr (aS I2.sz hC)) iP fun p hp z=>?_;have:=(I2.pin p hp).1;exact aV _ (au (ax this) (z ▸ hC))
  have jU:A5 H (upd H4 D0 (.ext (LO D0 (bs.map V.ref)))):=cM.trans (sm4.trans (G1 hn _));have de:=(hR.mono jU).set (i:=i) (s:=.ll D0 dss) (v:=.ref D0) ⟨rfl,bs,⟨upd_same,((hR.same.trans cM).trans sm4).free hn,fun z=>by obtain⟨xs,q⟩:=ll.mem z;rw [hn]at q;cases q⟩,nd,fun b hb=>(hR.same.trans cM).free (fr b hb),ll.keep (Kp.of (G1 hn _)) fun c φ q=>by rw [B9 (X5 q hn)];exact q⟩ fun m=>by cases m
  exact⟨_,_,I6,w3 D0 _ _ (Kp.of jU) de⟩
end
section
variable {X:Cx}{H0:Hp}{st:Stmt}{w:WS}{a e o:Expr}{we wv wk:WE}{i j nt:Nat}{cap:List Nat}{kT:WIE}{g:WG}{τ:A9}{E:F6}{K:Fg9}{Q:R->Prop}
def Q6c (i:Nat)(w:WS):WS:=fun E τ=>w { E with nx:=fun τ'=>∃ds,τ'[i]?=some (some (.own ds))/\E.nx (τ'.set i (some (.dat (.lst ds)))) } τ
def DS.fzO (i:Nat)(h:DS X H0 st w):DS X H0 st (Q6c i w) where
 mono:=fun τ E F le q=>h.mono τ { E with nx:=fun τ'=>∃ds,τ'[i]?=some (some (.own ds))/\E.nx (τ'.set i (some (.dat (.lst ds)))) } { F with nx:=fun τ'=>∃ds,τ'[i]?=some (some (.own ds))/\F.nx (τ'.set i (some (.dat (.lst ds)))) } ⟨fun τ' cp=>(by obtain⟨ds,e,q⟩:=cp;exact⟨ds,e,le.nx _ q⟩),le.rt,le.bk,le.ct⟩ q
 ps:=psW (Y3q h.ps) fun D σ H ⟨τ,hR,q⟩=>⟨τ,hR,h.mono τ { O7 X.K H0 H D with nx:=fun τ'=>∃ds,τ'[i]?=some (some (.own ds))/\(O7 X.K H0 H D).nx (τ'.set i (some (.dat (.lst ds)))) } _ ⟨fun τ' cQ σ' H' kp de a9 s I=>by
  obtain⟨ds,e,q⟩:=cQ;obtain⟨a,xs,hv,h0,sq,al⟩:=de.ownAt e;obtain⟨o,I2⟩:=A0.freeze I sq;exact⟨_,I2,q σ' _ (kp.trans (Kp.upd sq _)) (de.freeze e hv h0 sq al)⟩,fun _ h=>h,fun _ h=>h,fun _ h=>h⟩ q⟩
@[simp] theorem Z5c:Q6c i w E τ=w { E with nx:=fun τ'=>∃ds,τ'[i]?=some (some (.own ds))/\E.nx (τ'.set i (some (.dat (.lst ds)))) } τ:=rfl
@[simp] theorem V0i:Z6n i w E τ=w { E with nx:=fun τ'=>∃a dss,τ'[i]?=some (some (.ll a dss))/\X6 i τ'=true/\E.nx (τ'.set i (some (.dat (.lst (dss.map .lst))))) } τ:=rfl
@[simp] theorem V0w:Z6t K i E τ=∃kvs,τ[i]?=some (some (.dk kvs))/\∀a,E.rt (.cl a (FzD K a kvs)):=rfl
@[simp] theorem V0x:Z6u i we E τ=we τ fun r=>∃a Φ,r=.cl a Φ/\E.nx (τ.set i (some (.cl a Φ))):=rfl
@[simp] theorem V0h:Z6m K i we τ Q=∃a kvs,τ[i]?=some (some (.cl a (FzD K a kvs)))/\we τ fun r=>∃kd k,r=.st kd/\Q8 kd=some k/\Q (.st ((J1 kvs k).getD .non)):=rfl
@[simp] theorem Y4k:Z0v i we wv E τ=(i<τ.length/\we τ fun rk=>∃kd k,rk=.st kd/\Q8 kd=some k/\wv τ fun r=>∃d,r=.st d/\E.nx (τ.set i (some (.dk [(k,d)])))):=rfl
@[simp] theorem V0q:Z6p i nt cap kT g wk wv E τ=kT τ fun ds=>ds.length<sizeLine/\V1 g wk wv ds (Q4 nt cap τ) [] fun kvs=>E.nx (τ.set i (some (.dk kvs))):=rfl
@[simp] theorem V0s:Z6q i nt cap kT g we E τ=kT τ fun ds=>ds.length<=sizeLine/\Y7 g we ds (Q4 nt cap τ) fun dss=>∀a,E.nx (τ.set i (some (.ll a dss))):=rfl
@[simp] theorem V0r:Q7w i we wv E τ=∃a dss,τ[i]?=some (some (.ll a dss))/\X6 i τ=true/\we τ fun r=>∃k j,r=.st (.int k)/\ixN dss.length k=some j/\wv τ fun r2=>∃d,r2=.st d/\(dss.getD j []).length<sizeLine/\E.nx (τ.set i (some (.ll a (dss.set j (dss.getD j []++[d]))))):=rfl
@[simp] theorem V0t {kvs:List (B8×D)}:Q3z [.dk kvs] Q=Q (.nw (kvs.map fun p=>kyD p.1)):=rfl
end
section
variable {P:Program}{w:World}{A:Around}{E:VS9}{s:Shared}{it t:Addr}{i:Nat}{items:Array Value}
def W5e {x:Value}{Q:VS9}(hit:s.heap.IsTupleIter it t i)(ht:s.heap.IsTuple t items)(hx:items[i]?=some x)(hQ:∀h',h'.IsTupleIter it t (i+1)->Heap.SameBut it s.heap h'->Q x { s with heap:=h' }) :
  wpAny (model P w) A (Builtin.SmallTypes.nextOf (.ref it)) Q E s:=by
 obtain⟨o,ho,hc,hd⟩:=id hit;obtain⟨ol,jC,_,nl,jH⟩:=ht;unfold Builtin.SmallTypes.nextOf;refine a8 (cA (name:=Str.ofString "__next__") hit.typeIs jP (cb jP hit.typeIs F.entry_tuple_iterator_next ?_ (F.args_tuple_iterator_next_1 _)))
 change wpAny (model P w) A.in1 (field (Value.ref it) 0>>=_) _ _ s
 refine a8 (cJ ho hd (x:=.ref t) rfl (?_:wpAny (model P w) A.in1 (if (Value.ref t==Value.none)=true then _ else _) _ _ s));rw [az (show ¬ (Value.ref t==Value.none)=true from aO)]
 change wpAny (model P w) A.in1 (field (Value.ref it) 1>>=_) _ _ s
 refine a8 (cJ ho hd (x:=.int i 0) rfl (?_:wpAny (model P w) A.in1 (seqItems? (Value.ref t)>>=_) _ _ s));refine a8 (wpAny_seqItems jC jH ?_);simp only [b7,hx];refine a8 (jO ho hd (by simp) (ao ⟨x,rfl,ao (hQ _ ⟨_,cU _ ho (Obj.isFreed_of_fields (bO hd _)),(Obj.cls_mapFields ..).trans hc,by rw [bO hd];simp [rawInt]⟩ (dA ..))⟩))
def W5f {Q:VS9}(hh:A.handled=none)(hit:s.heap.IsTupleIter it t i)(ht:s.heap.IsTuple t items)(hx:items[i]?=none)
  (hE:∀h' e,Heap.ExtBut it s.heap h'->(∃o,h'.get? e=some o/\o.cls=.type "StopIteration")->E (.ref e) { s with heap:=h' }):wpAny (model P w) A (Builtin.SmallTypes.nextOf (.ref it)) Q E s:=by
 obtain⟨o,ho,hc,hd⟩:=id hit;obtain⟨ol,jC,_,nl,jH⟩:=ht;unfold Builtin.SmallTypes.nextOf;refine a8 (cA (name:=Str.ofString "__next__") hit.typeIs jP (cb jP hit.typeIs F.entry_tuple_iterator_next ?_ (F.args_tuple_iterator_next_1 _)))
 change wpAny (model P w) A.in1 (field (Value.ref it) 0>>=_) _ _ s
 refine a8 (cJ ho hd (x:=.ref t) rfl (?_:wpAny (model P w) A.in1 (if (Value.ref t==Value.none)=true then _ else _) _ _ s));rw [az (show ¬ (Value.ref t==Value.none)=true from aO)]
 change wpAny (model P w) A.in1 (field (Value.ref it) 1>>=_) _ _ s
 refine a8 (cJ ho hd (x:=.int i 0) rfl (?_:wpAny (model P w) A.in1 (seqItems? (Value.ref t)>>=_) _ _ s));refine a8 (wpAny_seqItems jC jH ?_);simp only [b7,hx];refine a8 (wpAny_rule (a8 (jO ho hd (by simp) (?_:wpAny (model P w) A.in1 (newExc (.type "StopIteration") []>>=_) _ _ _))));refine a8 ?_;simp only [newExc,newTuple];refine a8 (bx (?_) (by size_fits));refine a8 (m:=firstArgMember _ _) (gj (a:=Value.none) (by rfl) (bx ?_ (by size_fits)));simp only [raiseNew];refine a8 (wpAny_handled ?_);rw [show A.in1.handled=none from hh];exact a8 (ao (wpAny_throw (hE _ _ (((dA ..).extBut.push _).push _) ⟨_,aI _ rfl,rfl⟩)))
end
def Y0p {P:Program}{w:World}{A:Around}(hh:A.handled=none)(it t:Addr)(cz:t≠it)(items:Array Value) :
  Draws P w A it [it,t] items.size (fun i v=>items[i]?=some v) (fun i h=>h.IsTupleIter it t i/\h.IsTuple t items) where
 live:=fun _ _ st=>let ⟨o,ho,_⟩:=st.1;⟨o,ho⟩
 frame:=fun _ _ _ bR hk=>(by obtain⟨⟨o,ho,r⟩,o2,gh,r2⟩:=bR;exact⟨⟨o,hk it (by simp) o ho,r⟩,o2,hk t (by simp) o2 gh,r2⟩)
 item:=fun i s Q E hi st hQ=>W5e st.1 st.2 (x:=items[i]) (by simp [hi]) fun h' fA i6=>hQ _ h' s.toks (by simp [hi]) ⟨fA,st.2.extBut i6.extBut cz⟩ i6
 done:=fun s Q E st hE=>W5f hh st.1 st.2 (by simp) hE
open AutoSeq1 (wpAny_loadPart') in
def W0r (t:Addr)(items:Array Value) :
  Meets (Builtin.«enumerate.__new__» ⟨[.type "enumerate",.ref t],[]⟩) (fun _ R s=>s.heap.IsTuple t items /\
   R (.ok (.ret (.ref (s.heap.push { cls:=.type "tuple_iterator",data:=.fields #[.ref t,.int 0 0] }).objs.size)))
    { s with heap:=(s.heap.push { cls:=.type "tuple_iterator",data:=.fields #[.ref t,.int 0 0] }).push { cls:=.type "enumerate",data:=.fields #[.none,.bool false,.ref s.heap.objs.size,rawInt 0,.none,.none] } }) :=
 .of_wp fun prog w A R s h=>by
  obtain⟨hp,g,d,tk,os⟩:=s;obtain⟨hL,h⟩:=h;obtain⟨⟨c,sf,dt,sl⟩,hl,hc,n,hd⟩:=id hL
  replace hc:c=.type "tuple":=hc
  replace hd:dt=.seq items n:=hd
  subst hc hd;have hL:Heap.IsTuple (Shared.heap ⟨hp,g,d,tk,os⟩) t items:=hL;have hsub:=sub_enumerate
  wp_walk using wpAny_loadPart' hl
  refine wpAny_stack_any fun st=>ao ?_;split
  ·rename_i c _ _ _ _ _;cases (c==Value.type "enumerate") <;> (wp_walk using wpAny_loadPart' hl,wpAny_pyIter_tuple hL) <;> exact⟨_,rfl,h⟩
  ·wp_walk using wpAny_loadPart' hl,wpAny_pyIter_tuple hL
   exact⟨_,rfl,h⟩
section
variable {P:Program}{w:World}{A:Around}{E:VS9}{s:Shared}
def Z9r {t:Addr}{items:Array Value}{Q:VS9}(ht:s.heap.IsTuple t items)
  (h:∀h',IsEnum h' (s.heap.objs.size+1) s.heap.objs.size 0 .none->h'.IsTupleIter s.heap.objs.size t 0->h'.objs.size=s.heap.objs.size+2->(∀b o,s.heap.get? b=some o->h'.get? b=some o)->Q (.ref (s.heap.objs.size+1)) { s with heap:=h' }) :
  wpAny (model P w) A (call (.type "enumerate") [.ref t]) Q E s:=by
 refine callType_new F.called_enumerate (by decide) (F.typeCall_enumerate_1 _) (F.newCall_enumerate_1 _) (fun obj=>F.args_object_init_2 obj _) F.entry_enumerate_new (W0r t items) ⟨ht,?_⟩;have hz:(s.heap.push { cls:=.type "tuple_iterator",data:=.fields #[.ref t,.int 0 0] }).objs.size=s.heap.objs.size+1:=di ..;have he:IsEnum ((s.heap.push { cls:=.type "tuple_iterator",data:=.fields #[.ref t,.int 0 0] }).push { cls:=.type "enumerate",data:=.fields #[.none,.bool false,.ref s.heap.objs.size,rawInt 0,.none,.none] }) (s.heap.objs.size+1) s.heap.objs.size 0 .none:=by
  have e:=aI (s.heap.push { cls:=.type "tuple_iterator",data:=.fields #[.ref t,.int 0 0] }) (o:={ cls:=.type "enumerate",data:=.fields #[.none,.bool false,.ref s.heap.objs.size,rawInt 0,.none,.none] }) rfl;rw [hz]at e;exact e
 rw [hz];exact⟨⟨_,he,rfl⟩,h _ he ⟨_,aj _ (aI _ rfl),rfl,rfl⟩ (by rw [di,hz]) fun b o x=>aj _ (aj _ x)⟩
end
def Iet (K:Fg9)(l:Addr):It:=⟨fun i H=>∃xs x,E1 K H l xs/\xs[i]?=some x,fun i H v H'=>∃T x,(∀xs,E1 K H l xs->xs[i]?=some x)/\H T=none/\v=.ref T/\H'=upd H T (.tup [.int (i:Int),x]),fun i H=>∃xs,E1 K H l xs/\xs.length=i⟩
def Y6m {P:Program}{w:World}{K:Fg9}{du:List Expr}{kk:Nat}{pt:Pos}{en it l:Addr}(cz:en≠it)(fX:l≠en)(jE:l≠it) :
  Q0o P w K (.Tuple du kk pt) (Iet K l) [en,it] en (fun i h=>(∃old,IsEnum h en it i old)/\h.IsTupleIter it l i) where
 mem:=by simp
 obj:=fun i h st b hb=>by
  obtain⟨⟨old,he⟩,o,ho,_,d⟩:=st;rcases ar.mp hb with rfl | hb
  ·exact⟨_,he,fun v z=>by cases z⟩
  ·have e:b=it:=by simpa using hb
   subst e;exact⟨o,ho,fun v z=>by rw [d]at z;cases z⟩
 keep:=fun i h h' cp k=>(by obtain⟨⟨old,he⟩,o,ho,r⟩:=cp;exact⟨⟨old,k en (by simp) _ he⟩,o,k it (by simp) o ho,r⟩)
 item:=by
  intro X hP hw hK hc i a9 s σ H E I hf st hg;subst hP hw hK;obtain⟨xs,x,hq,hx⟩:=hg;obtain⟨aP,rv,p,hz⟩:=I.tuple hq;have W:=WalksT.enumerateD (Y0p (P:=X.prog) (w:=X.w) (A:=X.A.in1) (show X.A.in1.handled=none from I.ok.hd hc) it l jE aP.toArray) en cz (by simp;exact⟨cz,fun z=>fX z.symm⟩) (by simp);obtain⟨u,hu,ru⟩:=rv.get hx;have bU:i<aP.toArray.size:=by
   rcases aX i aP.length with h | h
   ·simpa using h
   ·rw [aw.mpr h]at hu;cases hu
  refine W.item i s _ _ bU ⟨st.1,st.2,p⟩ fun T fP h' tk hv hT kF iF k=>?_;obtain⟨t1,y,hy,rfl⟩:=hv;have ey:y=u:=by
   have:aP[i]?=some y:=by simpa using hy
   rw [hu]at this;exact(aA this).symm
  subst ey;refine⟨_,rfl,W.go du kk pt i T { s with heap:=h',toks:=tk } _ _ iF fun h2 eG k2=>?_⟩;have ke:∀b o,b∉[en,it]->s.heap.get? b=some o->h2.get? b=some o:=fun b o hb e=>k2 b o hb (k b o hb e);have iM:=W.apart i T h' iF;have gI:IsTup h2 T ([Value.int (i:Int) t1,y]).toArray:=by
   obtain⟨o,ho,r⟩:=kF;exact⟨o,k2 T o iM ho,r⟩
  have I2:=Z6d (t':=tk) (xs:=[.int (i:Int),x]) I ke hf hT gI (.cons ⟨t1,rfl⟩ (.cons ru .nil)) (by show 2<=sizeLine;decide);refine⟨.ref T,_,I2,rfl,⟨T,x,fun ys hy=>by rw [I.tuple_inj hy hq];exact hx,I.hok.fresh hT,rfl,rfl⟩,⟨eG.1,eG.2.1⟩,fun b hb=>?_⟩;rw [B9 (show b≠T from fun z=>iM (by rw [<- z];exact hb))];exact(hf b hb).1
 done:=by
  intro X hP hw hK hc i a9 s σ H E I hf st hg;subst hP hw hK;obtain⟨xs,hq,hx⟩:=hg;obtain⟨aP,rv,p,hz⟩:=I.tuple hq;have W:=WalksT.enumerateD (Y0p (P:=X.prog) (w:=X.w) (A:=X.A.in1) (show X.A.in1.handled=none from I.ok.hd hc) it l jE aP.toArray) en cz (by simp;exact⟨cz,fun z=>fX z.symm⟩) (by simp);have hl:=rv.length;have e:i=aP.toArray.size:=by simp;omega
  subst e;exact W.done s _ _ ⟨st.1,st.2,p⟩ fun h' tk k=>⟨rfl,Q7s I k hf⟩
 self:=fun A i s Q E cQ h=>(by obtain⟨⟨old,he⟩,_⟩:=cQ;exact cr he h)
def Z1b {K:Fg9}{H0 H:Hp}{l:Addr}{xs:List V}{ds:List D}(hq:H l=some (.tup xs))(al:AllS K H ds xs):Yl K H0 (Iet K l) (G6 ds) H where
 go:=fun H' k s i hi=>by
  rw [Q2u]at hi;exact⟨xs,xs[i]'(by rw [<- al.length];exact hi),E1.of (k.tup _ _ hq),aa _⟩
 yld:=fun H' k s i v cT d hd dG=>by
  obtain⟨T,x,hx,hT,hv,hH⟩:=dG;subst hH hv;refine⟨G1 hT _,?_⟩;obtain⟨y,hy,rfl⟩:=Q8w hd;obtain⟨v,hv,q⟩:=al.get hy;rw [hx xs (E1.of (k.tup _ _ hq))]at hv;cases hv;exact A1.s_tup upd_same (AllS.cons A1.s_int (AllS.cons (q.mono (k.trans (Kp.of (G1 hT _))) _ _) AllS.nil))
 stop:=fun H' k s=>⟨xs,E1.of (k.tup _ _ hq),by rw [Q2u];exact al.length.symm⟩
def V3w {K:Fg9}{H0 H:Hp}{x:Str}:Yl K H0 (Ies x) (G6 (F5 x)) H where
 go:=fun H' _ _ i hi=>(Z8a (K:=K) (H:=H')).go H' (A5.refl _) i hi
 yld:=fun H' _ _ i v cT d hd h=>(Z8a (K:=K) (H:=H')).yld H' (A5.refl _) i v cT d hd h
 stop:=fun H' _ _=>(Z8a (K:=K) (H:=H')).stop H' (A5.refl _)
section
variable {X:Cx}{H0:Hp}{a:Expr}{p pos:Pos}{wr:WA}
def Q4x (wr:WA):WI:=fun τ Q=>wr τ fun rs=>(∃x,rs=[.st (.str x)]/\Q (G6 (F5 x)) τ)\/∃ds,rs=[.st (.tup ds)]/\Q (G6 ds) τ
def DI.enumX {du:List Expr}{kk:Nat}{pt:Pos}(hg:Gl X "enumerate")(hm:X.mg "enumerate"=none)(hv:bootBuiltins "enumerate"=some (.type "enumerate"))(ha:DA X H0 [a] wr)(he:starEach [a] X.env=(false,eval a X.env)::starEach [] X.env:=by rfl)(hpl:(backTo pos (starEach [] X.env)).any (·.1)=false:=by rfl) :
  DI X H0 (.Tuple du kk pt) (.Call (.Name "enumerate" p) [a] [] pos) (Q4x wr) where
 mono:=fun τ P Q f h=>ha.mono τ _ _ (fun r h=>h.imp (fun dL=>(by obtain⟨x,e1,q⟩:=dL;exact⟨x,e1,f _ _ q⟩)) fun dF=>(by obtain⟨ds,e1,q⟩:=dF;exact⟨ds,e1,f _ _ q⟩)) h
 pi:=by
  intro a9 s σ H R I ⟨τ,hR,h⟩;refine bc (Y9 I hg hm hv ?_ (by decide) (by decide));refine bg (B4 (ha.pa pos a9 s σ H (fun vs H1=>A5 H H1/\((∃x,vs=[.str x]/\∀J H',Kp H H'->C4 X.K H0 τ σ H'->Yl X.K H0 J (G6 (F5 x)) H'->R J H') \/
    ∃l xs ds,vs=[.ref l]/\H1 l=some (.tup xs)/\AllS X.K H1 ds xs/\∀J H',Kp H H'->C4 X.K H0 τ σ H'->Yl X.K H0 J (G6 ds) H'->R J H')) I
   ⟨τ,hR,ha.mono τ _ _ (fun rs h vs H1 s1 cq=>⟨s1,?_⟩) h⟩) fun us s1 ⟨vs,H1,I1,rv,sm,hh⟩=>?_) he hpl
  ·rcases h with⟨x,e1,q⟩ | ⟨ds,e1,q⟩
   ·subst e1;obtain⟨v,rfl,ir⟩:=V0 cq;cases (show v=.str x from ir);exact .inl ⟨x,rfl,q⟩
   ·subst e1;obtain⟨v,rfl,ir⟩:=V0 cq;have ir:A1 X.K H1 (.tup ds) v:=ir;unfold A1 at ir;obtain⟨l,xs,rfl,sq,al⟩:=ir;exact .inr ⟨l,xs,ds,rfl,sq,al,q⟩
  ·have big:∀b∈[s1.heap.objs.size+1,s1.heap.objs.size],P4 X a9 H1 b:=fun b hb=>by
    have hb:s1.heap.objs.size<=b:=by
     rcases ar.mp hb with rfl | hb
     ·exact dI _
     ·have e:b=s1.heap.objs.size:=by simpa using hb
      rw [e];exact aq _
    exact I1.fpOk hb (I1.hok.fresh hb)
   rcases hh with⟨x,rfl,q⟩ | ⟨l,xs,ds,rfl,sq,al,q⟩
   ·obtain⟨u,rfl,ru⟩:=T4 rv;obtain⟨t,rfl⟩:=ru;refine call_enumerate_str fun h' he hi hz k=>?_;exact cr he ⟨s1.heap.objs.size+1,[s1.heap.objs.size+1,s1.heap.objs.size],_,_,H1,rfl,I1.kept (t':=s1.toks) k,V2v (x:=x) (t:=t) (gm _),⟨⟨_,he⟩,hi⟩,big,q _ _ (Kp.of sm) (hR.mono sm) V3w⟩
   ·obtain⟨u,rfl,ru⟩:=T4 rv;cases (show u=Value.ref l from ru);obtain⟨aP,fH,pl,l8⟩:=I1.tuple (E1.of sq);have hl:l<s1.heap.objs.size:=by obtain⟨o,ho,_⟩:=pl;exact ax ho
    refine Z9r pl fun h' he hi hz k=>?_;exact cr he ⟨s1.heap.objs.size+1,[s1.heap.objs.size+1,s1.heap.objs.size],_,_,H1,rfl,I1.kept (t':=s1.toks) k,Y6m (l:=l) (gm _) (ay (bA hl)) (ay hl),⟨⟨_,he⟩,hi⟩,big,q _ _ (Kp.of sm) (hR.mono sm) (Z1b sq al)⟩
@[simp] theorem Y4g {τ:A9}{Q:List D->A9->Prop}:Q4x wr τ Q=wr τ fun rs=>(∃x,rs=[.st (.str x)]/\Q (G6 (F5 x)) τ)\/∃ds,rs=[.st (.tup ds)]/\Q (G6 ds) τ:=rfl
end
def V4b {K:Fg9}{H:Hp}{l:Addr}{xs:List V}{ds:List D}(hq:H l=some (.tup xs))(al:AllS K H ds xs):YlS K (Iet K l) (G6 ds) H where
 go:=fun H' s i hi=>(Z1b (H0:=H) hq al).go H' (Kp.of s) s i hi
 yld:=fun H' s i v cT d hd h=>(Z1b (H0:=H) hq al).yld H' (Kp.of s) s i v cT d hd h
 stop:=fun H' s=>(Z1b (H0:=H) hq al).stop H' (Kp.of s) s
section
variable {X:Cx}{H0:Hp}{a:Expr}{p pos:Pos}{wr:WA}
def Q4j:R->Option (List D)
 | .st (.tup ds)=>some ds
 | r=>Q9 r
def Q9e (wr:WA):WIE:=fun τ Q=>wr τ fun rs=>∃r ds,rs=[r]/\Q4j r=some ds/\Q (G6 ds)
def F9.enumX {du:List Expr}{kk:Nat}{pt p:Pos}(hg:Gl X "enumerate")(hm:X.mg "enumerate"=none)(hv:bootBuiltins "enumerate"=some (.type "enumerate"))(ha:DA X H0 [a] wr)(he:starEach [a] X.env=(false,eval a X.env)::starEach [] X.env:=by rfl)(hpl:(backTo pos (starEach [] X.env)).any (·.1)=false:=by rfl) :
  F9 X H0 (.Tuple du kk pt) (.Call (.Name "enumerate" p) [a] [] pos) (Q9e wr) where
 mono:=fun τ P Q f h=>ha.mono τ _ _ (fun r bR=>(by obtain⟨r',ds,e1,e2,q⟩:=bR;exact⟨r',ds,e1,e2,f _ q⟩)) h
 pi:=by
  intro a9 s σ H R I ⟨τ,hR,h⟩;refine bc (Y9 I hg hm hv ?_ (by decide) (by decide));refine bg (B4 (ha.pa pos a9 s σ H (fun vs H1=>A5 H H1/\((∃l xs ds,vs=[.ref l]/\H1 l=some (.tup xs)/\AllS X.K H1 ds xs/\∀J H',A5 H H'->YlS X.K J (G6 ds) H'->R J H')\/∃l xs ds,vs=[.ref l]/\D7 X.K H1 l xs/\AllS X.K H1 ds xs/\∀J H',A5 H H'->YlS X.K J (G6 ds) H'->R J H')) I
   ⟨τ,hR,ha.mono τ _ _ (fun rs h vs H1 s1 cq=>⟨s1,?_⟩) h⟩) fun us s1 ⟨vs,H1,I1,rv,sm,hh⟩=>?_) he hpl
  ·obtain⟨r,ds,e1,e2,q⟩:=h;subst e1;obtain⟨v,rfl,ir⟩:=V0 cq
   by_cases ht:∃es,r=.st (.tup es)
   ·obtain⟨es,rfl⟩:=ht;cases e2;have ir:A1 X.K H1 (.tup ds) v:=ir;unfold A1 at ir;obtain⟨l,xs,rfl,sq,al⟩:=ir;exact .inl ⟨l,xs,ds,rfl,sq,al,q⟩
   ·have e2:Q9 r=some ds:=by
     unfold Q4j at e2;split at e2
     ·exact absurd ⟨_,rfl⟩ ht
     ·exact e2
    obtain⟨l,xs,rfl,sq,al⟩:=Q2b e2 ir;exact .inr ⟨l,xs,ds,rfl,sq,al,q⟩
  ·have big:∀b∈[s1.heap.objs.size+1,s1.heap.objs.size],P4 X a9 H1 b:=fun b hb=>by
    have hb:s1.heap.objs.size<=b:=by
     rcases ar.mp hb with rfl | hb
     ·exact dI _
     ·have e:b=s1.heap.objs.size:=by simpa using hb
      rw [e];exact aq _
    exact I1.fpOk hb (I1.hok.fresh hb)
   rcases hh with⟨l,xs,ds,rfl,sq,al,q⟩ | ⟨l,xs,ds,rfl,sq,al,q⟩
   ·obtain⟨u,rfl,ru⟩:=T4 rv;cases (show u=Value.ref l from ru);obtain⟨aP,fH,pl,l8⟩:=I1.tuple (E1.of sq);have hl:l<s1.heap.objs.size:=by obtain⟨o,ho,_⟩:=pl;exact ax ho
    refine Z9r pl fun h' he hi hz k=>?_;exact cr he ⟨s1.heap.objs.size+1,[s1.heap.objs.size+1,s1.heap.objs.size],_,_,H1,rfl,I1.kept (t':=s1.toks) k,Y6m (l:=l) (gm _) (ay (bA hl)) (ay hl),⟨⟨_,he⟩,hi⟩,big,q _ _ sm (V4b sq al)⟩
   ·obtain⟨u,rfl,ru⟩:=T4 rv;cases (show u=Value.ref l from ru);obtain⟨aP,fH,pl,l8⟩:=I1.list sq;obtain⟨o,n,ho,_⟩:=id pl;have hl:l<s1.heap.objs.size:=ax ho;refine call_enumerate_list pl.isList fun h' he hi hz k=>?_;refine cr he ⟨s1.heap.objs.size+1,[s1.heap.objs.size+1,s1.heap.objs.size],_,_,H1,rfl,I1.kept (t':=s1.toks) k,Y6l (l:=l) (gm _) (ay (bA hl)) (ay hl),⟨⟨_,he⟩,hi⟩,big,q _ _ sm (V4a sq al)⟩
@[simp] theorem Y4j {τ:A9}{Q:List D->Prop}:Q9e wr τ Q=wr τ fun rs=>∃r ds,rs=[r]/\Q4j r=some ds/\Q (G6 ds):=rfl
end
section
variable {X:Cx}{a9:Pn9}{σ:St}{H:Hp}{s:Shared}
noncomputable def Q0p (K:Fg9)(H:Hp)(d:D)(u:Value):Bool:=@decide (∃d' v',C1 v' u/\A1 K H d' v'/\D.eq d' d=true) (Classical.propDecidable _)
theorem Y0t (I:A0 X a9 σ H s){d d':D}{v':V}{u:Value}(r:C1 v' u)(i:A1 X.K H d' v'):Q0p X.K H d u=D.eq d' d:=by
 unfold Q0p;cases e:D.eq d' d with
 | true=>exact @bo _ (Classical.propDecidable _) ⟨d',v',r,i,e⟩
 | false =>
  refine @bb _ (Classical.propDecidable _) fun bu=>?_;obtain⟨d2,v2,r2,i2,e2⟩:=bu;have ev:=r.inj r2;subst ev;rw [A1.inj I d2 d' v' i2 i,e]at e2;cases e2
theorem Z1z (I:A0 X a9 σ H s){d:D}:∀{ds:List D}{xs:List V}{aP:List Value},AllS X.K H ds xs->C0 xs aP->aP.any (Q0p X.K H d)=ds.any fun e=>D.eq e d
 | [],xs,aP,al,r=>by
  unfold AllS at al;subst al;cases r;rfl
 | e::ds,xs,aP,al,r=>by
  unfold AllS at al;obtain⟨v,t,rfl,i,al⟩:=al;cases r with
  | cons r1 r2=>rw [cx,cx,Y0t I r1 i,Z1z I al r2]
theorem Z3y (I:A0 X a9 σ H s){d:D}{x:V}{v:Value}{n:Nat}(ix:A1 X.K H d x)(rx:C1 x v){A:Around}(hu:A.units+n<cLine):∀{ds:List D}{xs:List V}{aP:List Value},AllS X.K H ds xs->C0 xs aP->(∀e∈ds,e.depth<=n)->∀u∈aP,SeqAt.EqAt A s u v (Q0p X.K H d u)
 | [],xs,aP,al,r,_=>by
  unfold AllS at al;subst al;cases r;intro u hu;cases hu
 | e::ds,xs,aP,al,r,hd=>by
  unfold AllS at al;obtain⟨v',t,rfl,i,al⟩:=al;cases r with
  | cons r1 r2 =>
   intro u hm;rcases ar.mp hm with rfl | hm
   ·rw [Y0t I r1 i];exact Q6u I (fun A=>Q9z I n e d v' x _ _ A (hd e (by simp)) i.w ix.w r1 rx) i ix r1 rx hu
   ·exact Z3y I ix rx hu al r2 (fun e h=>hd e (by simp [h])) u hm
end
section
variable {X:Cx}
def inL (n:Nat)(neg:Bool)(x y:R)(Q:Bool->Prop):Prop:=∃d ds,x=.st d/\Q4j y=some ds/\(∀e∈ds,e.depth<=n)/\Q (if neg then !ds.any (fun e=>D.eq e d)else ds.any fun e=>D.eq e d)
def W1y {n:Nat}{neg:Bool}:V7 (inL n neg):=fun x y P Q g bR=>(by obtain⟨d,ds,e1,e2,h,q⟩:=bR;exact⟨d,ds,e1,e2,h,g _ q⟩)
def V1t {K:Fg9}{H0 H:Hp}{r:R}{ds:List D}{v:V}(e:Q4j r=some ds)(h:E5 K H0 H r v):∃a xs,v=.ref a/\(D7 K H a xs\/E1 K H a xs)/\AllS K H ds xs:=by
 by_cases ht:∃es,r=.st (.tup es)
 ·obtain⟨es,rfl⟩:=ht;cases e;have h:A1 K H (.tup ds) v:=h;unfold A1 at h;obtain⟨l,xs,rfl,sq,al⟩:=h;exact⟨l,xs,rfl,.inr (E1.of sq),al⟩
 ·have e2:Q9 r=some ds:=by
   unfold Q4j at e;split at e
   ·exact absurd ⟨_,rfl⟩ ht
   ·exact e
  obtain⟨l,xs,rfl,sq,al⟩:=Q2b e2 h;exact⟨l,xs,rfl,.inl sq,al⟩
def Y9q {n:Nat}(hu:X.A.units+n+1<cLine):T8 X .NotIn (inL n true):=by
 intro a9 s σ H x y v u Q I rx ry ⟨r1,r2,h1,h2,d,ds,e1,e2,hd,q⟩;subst e1;have ix:A1 X.K H d x:=h1;obtain⟨a,xs,rfl,hq,al⟩:=V1t e2 h2;cases ry;rcases hq with hq | hq
 ·obtain⟨aP,r,pl,hz⟩:=I.list hq;refine SeqAt.notIn_listAt (Q0p X.K H d) pl.isList (fun w hw=>Z3y I ix rx (n:=n) (by try simp only [fO];omega) al r hd w (by simpa using hw)) ⟨.bl _,H,I,rfl,?_⟩;rw [show aP.toArray.any (Q0p X.K H d)=aP.any (Q0p X.K H d)by simp,Z1z I al r];exact q
 ·obtain⟨aP,r,pl,hz⟩:=I.tuple hq;refine SeqAt.notIn_tupleAt (Q0p X.K H d) pl (fun w hw=>Z3y I ix rx (n:=n) (by try simp only [fO];omega) al r hd w (by simpa using hw)) ⟨.bl _,H,I,rfl,?_⟩;rw [show aP.toArray.any (Q0p X.K H d)=aP.any (Q0p X.K H d)by simp,Z1z I al r];exact q
end
section
variable {X:Cx}{H0:Hp}{tg e:Expr}
def jOr (a b:WIE):WIE:=fun τ Q=>a τ Q\/b τ Q
def iOr (a b:WI):WI:=fun τ Q=>a τ Q\/b τ Q
def F9.or {a b:WIE}(h1:F9 X H0 tg e a)(h2:F9 X H0 tg e b):F9 X H0 tg e (jOr a b) where
 mono:=fun τ P Q f h=>h.elim (fun h=>.inl (h1.mono τ P Q f h)) fun h=>.inr (h2.mono τ P Q f h)
 pi:=fun a9 s σ H R I h=>by
  obtain⟨τ,hR,h | h⟩:=h
  ·exact h1.pi a9 s σ H R I ⟨τ,hR,h⟩
  ·exact h2.pi a9 s σ H R I ⟨τ,hR,h⟩
def DI.or {a b:WI}(h1:DI X H0 tg e a)(h2:DI X H0 tg e b):DI X H0 tg e (iOr a b) where
 mono:=fun τ P Q f h=>h.elim (fun h=>.inl (h1.mono τ P Q f h)) fun h=>.inr (h2.mono τ P Q f h)
 pi:=fun a9 s σ H R I h=>by
  obtain⟨τ,hR,h | h⟩:=h
  ·exact h1.pi a9 s σ H R I ⟨τ,hR,h⟩
  ·exact h2.pi a9 s σ H R I ⟨τ,hR,h⟩
end
end TK
end
section
namespace TK
open PySem PySem.Spec PyProof.Rows L2
def Z5y:List Nat->List (List Nat)
 | []=>[[]]
 | x::xs=>Z5y xs++(Z5y xs).map (x::·)
def S3:List (List Nat):=Z5y [0,1,2,3]
def P7 (S:List Nat)(led:Bool):SetTable:={ mask:=7,place:=S.toArray,dummies:=#[],finger:=0,led:=led,moves:=0,plain:=true }
def E2 (tk:Nat->Tok)(S:List Nat):Array (Int×Value):=(S.map fun(i:Nat)=>((i:Int),Value.int (i:Int) (tk i))).toArray
abbrev Z5 (S:List Nat)(tk:Nat->Tok)(ep:Nat)(led:Bool):Obj:={ cls:=.type "set",dict:=none,data:=.set (E2 tk S) ep (P7 S led) }
def inS (i:Nat)(S:List Nat):List Nat:=S.take (SetTable.below S.toArray i)++i::S.drop (SetTable.below S.toArray i)
def adS (i:Nat)(S:List Nat):List Nat:=if i∈S then S else inS i S
structure Sm (S:List Nat)(led:Bool):Prop where
 add:∀i∈[0,1,2,3],adS i S∈S3/\(i∉S->(P7 S led).freeSlot (i:Int)=some (i,false))/\(∀j∈[0,1,2,3],(j∈adS i S ↔ j=i\/j∈S))
 few:(P7 S led).tooFull=false
 fits:(P7 S led).fits S.length=true
 len:S.length<=4
 ord:S.Pairwise (·<·)
 lt:∀j∈S,j<4
 nxt:∀k,k<S.length->SetTable.below S.toArray (S.getD k 0+1)=k+1
 zero:SetTable.below S.toArray 0=0
def W7 {S:List Nat}(h:S∈S3)(led:Bool):Sm S led:=by
 have key:∀S∈S3,∀led:Bool,(∀i∈[0,1,2,3],adS i S∈S3/\(i∉S->(P7 S led).freeSlot (i:Int)=some (i,false))/\(∀j∈[0,1,2,3],(j∈adS i S ↔ j=i\/j∈S)))
 /\(P7 S led).tooFull=false/\(P7 S led).fits S.length=true/\S.length<=4/\S.Pairwise (·<·)/\(∀j∈S,j<4)/\(∀k,k<S.length->SetTable.below S.toArray (S.getD k 0+1)=k+1)/\SetTable.below S.toArray 0=0:=by decide +kernel
 obtain⟨a,b,c,d,e,f,g,i⟩:=key S h led;exact⟨a,b,c,d,e,f,g,i⟩
def lt4 {i:Nat}(h:i<4):i∈[0,1,2,3]:=by
 rcases (show i=0\/i=1\/i=2\/i=3 by omega)with rfl | rfl | rfl | rfl <;> decide
def Z3d {i:Nat}(h:i<4):hashInt (i:Int)=i:=by
 rcases (show i=0\/i=1\/i=2\/i=3 by omega)with rfl | rfl | rfl | rfl <;> decide +kernel
def V5 (tk:Nat->Tok)(S:List Nat):(E2 tk S).size=S.length:=by simp [E2]
def Y1p {α:Type}(l:List α)(p:Nat)(x:α):SetTable.insertAt l.toArray p x=(l.take p++x::l.drop p).toArray:=by
 unfold SetTable.insertAt;apply Array.toList_inj.mp;simp;rw [List.take_of_length_le (by simp)]
section
variable {prog:Program}{w:World}{A:Around}{E:VS9}{s:Shared}{S:List Nat}{tk:Nat->Tok}{ep:Nat}{led:Bool}{a:Addr}
def V1b (h:S∈S3):ElemsOf (intKind prog w) (E2 tk S).toList:=by
 intro e he;simp only [E2,ah]at he;obtain⟨i,hi,rfl⟩:=he;have:=(W7 h true).lt i hi;exact⟨⟨(i:Int),intKind_is _ _ _ _,(Z3d this).symm⟩,rfl⟩
def V1c {S:List Nat}{i:Nat}{t:Tok}(hi:i∉S):SetTable.insertAt (E2 tk S) (SetTable.below S.toArray i) ((i:Int),Value.int (i:Int) t)=E2 (fun j=>if j=i then t else tk j) (inS i S):=by
 unfold E2 inS;rw [Y1p];congr 1;rw [aU,am,List.map_take,List.map_drop];dsimp only;rw [aG rfl];have:(S.map fun(j:Nat)=>((j:Int),Value.int (j:Int) (tk j)))=S.map fun(j:Nat)=>((j:Int),Value.int (j:Int) (if j=i then t else tk j)):=aM fun j hj=>by rw [az (show ¬ j=i from fun z=>hi (z ▸ hj))]
 rw [this]
def W3o {i:Nat}{t:Tok}(h:S∈S3)(kz:i<4)(hi:i∉S):layNew (P7 S led) (E2 tk S) (i:Int) (Value.int (i:Int) t)=(E2 (fun j=>if j=i then t else tk j) (inS i S),P7 (inS i S) led,false,false):=by
 have F:=W7 h led;obtain⟨h1,h2,_⟩:=F.add i (lt4 kz);have e1:(P7 S led).put i=(P7 (inS i S) led,SetTable.below S.toArray i):=by
  unfold SetTable.put;show(({ (P7 S led)with place:=SetTable.insertAt S.toArray (SetTable.below S.toArray i) i,dummies:=if SetTable.has #[] i then _ else #[] }:SetTable),SetTable.below S.toArray i)=_;rw [Y1p,az (by simp [SetTable.has])];rfl
 unfold layNew;rw [h2 hi];dsimp only;rw [e1];dsimp only;rw [V1c hi];have h1:inS i S∈S3:=by unfold adS at h1;rw [az hi]at h1;exact h1
 have hf:=(W7 h1 led).fits;unfold SetTable.orStandIn;rw [V5,aG hf,hf];rfl
theorem W1w {i:Nat}(hi:i∉S):(E2 tk S).toList.findIdx? (fun e=>(intKind prog w).is (i:Int) e.2)=none:=by
 rw [List.findIdx?_eq_none_iff];intro e he;simp only [E2,ah]at he;obtain⟨j,hj,rfl⟩:=he;cases q:(intKind prog w).is (i:Int) (Value.int (j:Int) (tk j))with
 | false=>rfl
 | true =>
  have:=(intKind prog w).inj _ _ _ q (intKind_is _ _ (j:Int) (tk j));have:i=j:=by omega
  exact absurd (this ▸ hj) hi
theorem W1x {i:Nat}(hi:i∈S):∃j,(E2 tk S).toList.findIdx? (fun e=>(intKind prog w).is (i:Int) e.2)=some j:=by
 cases q:(E2 tk S).toList.findIdx? (fun e=>(intKind prog w).is (i:Int) e.2)with
 | some j=>exact⟨j,rfl⟩
 | none =>
  have:=List.findIdx?_eq_none_iff.mp q ((i:Int),Value.int (i:Int) (tk i)) (by simp only [E2,ah];exact⟨i,hi,rfl⟩);rw [show(intKind prog w).is (i:Int) (Value.int (i:Int) (tk i))=true from intKind_is _ _ _ _]at this;cases this
def V1f {i:Nat}{t:Tok}{Q:Bool->Shared->Prop}(h:S∈S3)(kz:i<4)(ho:s.heap.get? a=some (Z5 S tk ep led))
  (hq:∀b h' kU jJ,Heap.SameBut a s.heap h'->h'.get? a=some (Z5 (adS i S) kU jJ led)->Q b { s with heap:=h' }) :
  wpAny (model prog w) A (setAddHashed a (Value.int (i:Int) t) (i:Int)) Q E s:=by
 have oj:ElemsOf (intKind prog w) (E2 tk S).toList:=V1b h;have F:=W7 h led;have hf:(P7 S led).fits (E2 tk S).size=true:=by rw [V5];exact F.fits
 have hb:(E2 tk S).size<scanBound:=by rw [V5];have:=F.len;unfold scanBound;omega
 have hk:=intKind_is prog w (i:Int) t;unfold setAddHashed setAddHashedIn;refine bG (a8 (eM ho rfl hf ?_));dsimp only;rw [byScan_of (knd:=intKind prog w) rfl hb oj];simp only [↓reduceIte];unfold setAddByScan;refine a8 (a8 (wpAny_rule ?_));have hh:(i:Int)=(intKind prog w).hash (i:Int):=(Z3d kz).symm;rw [show setScan a (Value.int (i:Int) t) (i:Int) true (E2 tk S)=setScan a (Value.int (i:Int) t) ((intKind prog w).hash (i:Int)) true (E2 tk S)by rw [<- hh]];refine a8 (wpAny_setScan_of hk ho rfl hf oj ?_)
 by_cases hi:i∈S
 ·obtain⟨j,ej⟩:=W1x (prog:=prog) (w:=w) (tk:=tk) hi;rw [ej];refine ao (ao ?_);refine hq _ s.heap tk ep (Heap.SameBut.refl a s.heap) ?_;rw [adS,aG hi];exact ho
 ·rw [W1w hi];dsimp only;rw [W3o h kz hi];dsimp only;have ek:inS i S∈S3:=by have:=(F.add i (lt4 kz)).1;unfold adS at this;rw [az hi]at this;exact this
  have F2:=W7 ek led;refine a8 (ao ?_);rw [aG (show(P7 (inS i S) led).plain=true from rfl),hashByValue_scannable 8 rfl];refine a8 (ao ?_);rw [aG (show plainKind (Value.int (i:Int) t)=true from rfl)];have hz:(E2 (fun j=>if j=i then t else tk j) (inS i S)).size<=sizeLine:=by rw [V5];have:=F2.len;rw [gk];omega
  refine a8 (wpAny_storeSet_of ho rfl ?_ hz);rw [az (by rw [F2.few];simp)];refine ao (ao ?_);refine hq _ _ (fun j=>if j=i then t else tk j) (ep+1) (dA s.heap a _) ?_;rw [cU _ ho (by rw [putSet_of _ _ rfl];rfl),putSet_of _ _ rfl,adS,az hi]
end
def Q0k (h:Heap)(a:Addr)(led:Bool)(val:Nat->Nat)(i:Nat):Prop:=∃S tk ep,S∈S3/\h.get? a=some (Z5 S tk ep led)/\∀x,x∈S ↔ ∃j,j<i/\val j=x
def Q0k.step {h h':Heap}{a:Addr}{led:Bool}{val:Nat->Nat}{i:Nat}{S:List Nat}{tk:Nat->Tok}{ep:Nat}(hS:S∈S3)(hm:∀x,x∈S ↔ ∃j,j<i/\val j=x)(h4:val i<4)(e0:h'.get? a=some (Z5 (adS (val i) S) tk ep led)):Q0k h' a led val (i+1):=by
 have F:=W7 hS led;obtain⟨h1,_,h3⟩:=F.add (val i) (lt4 h4);refine⟨_,_,_,h1,e0,fun x=>?_⟩;have:x∈adS (val i) S ↔ x=val i\/x∈S:=by
  by_cases hx:x<4
  ·exact h3 x (lt4 hx)
  ·constructor
   ·intro z;exact absurd ((W7 h1 led).lt x z) hx
   ·rintro (z | z)
    ·rw [z]at hx;exact absurd h4 hx
    ·exact absurd (F.lt x z) hx
 rw [this,hm x];constructor
 ·rintro (rfl | ⟨j,hj,e⟩)
  ·exact⟨i,cf _,rfl⟩
  ·exact⟨j,bA hj,e⟩
 ·rintro ⟨j,hj,e⟩;rcases aX j i with z | z
  ·exact .inr ⟨j,z,e⟩
  ·have:j=i:=by omega
   subst this;exact .inl e.symm
section
variable {prog:Program}{w:World}{A:Around}{R:Result->Shared->Prop}{I:Addr}{fp wr:List Addr}{G:Array GenState->Array GenState->Prop}{n:Nat}{P:Nat->Value->Prop}{St:Nat->Shared->Prop}
theorem V1g (W:WalksS prog w A.in1 I fp wr G n P St)(Sa:Addr)(lp:Sa∉fp)(val:Nat->Nat)(led:Bool)(m5:∀i v,P i v->i<n->∃t,v=.int (val i:Int) t)(h4:∀i,i<n->val i<4) :
  ∀(k i:Nat) (s:Shared),n-i=k->i<=n->St i s->Q0k s.heap Sa led val i->(∀s',Moved (Sa::wr) G s s'->Q0k s'.heap Sa led val n->R (.ok (.ret .none)) s') ->
   codeAny (model prog w) A (.builtin "set.update.loop" ⟨[.ref Sa,.ref I],[]⟩) R s:=by
 have ox:Sa∉wr:=fun h=>lp (W.sub _ h);have hsub:∀b∈wr,b∈Sa::wr:=fun b hb=>ae _ hb;intro k
 induction k with
 | zero =>
  intro i s hk hi dH hS hR;have ek:i=n:=by omega
  subst ek;refine gU PyProof.Rows.F.entry_set_update_loop ?_;rw [Around.under_plainId lz _]
  change wpAny _ A.in1 (pyNext (.ref I)>>=_) _ _ s
  refine a8 (W.done s _ _ dH fun s' hm=>?_)
  change wpAny _ A.in1 (ret Value.none) _ _ s'
  refine ao (hR s' (hm.mono hsub) ?_);obtain⟨S,tk,ep,h1,h2,h3⟩:=hS;exact⟨S,tk,ep,h1,hm.heap Sa _ ox h2,h3⟩
 | succ k ih =>
  intro i s hk hi dH hS hR;have bU:i<n:=by omega
  refine gU PyProof.Rows.F.entry_set_update_loop ?_;rw [Around.under_plainId lz _]
  change wpAny _ A.in1 (pyNext (.ref I)>>=_) _ _ s
  refine a8 (W.item i s _ _ bU dH fun v s' hP m6 hm=>?_);obtain⟨t,rfl⟩:=m5 i v hP bU;obtain⟨S,tk,ep,h1,h2,h3⟩:=hS;have h2:=hm.heap Sa _ ox h2
  change wpAny _ A.in1 (holding [Value.int (val i:Int) t] (setAdd Sa (.int (val i:Int) t))>>=_) _ _ s'
  refine a8 (bG ?_);unfold setAdd;refine bG (a8 ((intKind prog w).pyHash (k:=(val i:Int)) (intKind_is _ _ _ _) ?_));rw [show(intKind prog w).hash (val i:Int)=(val i:Int)from Z3d (h4 i bU)];refine V1f (s:={ s' with toks:=s'.toks+1 }) h1 (h4 i bU) h2 fun b h' kU jJ ki e=>?_;refine ao ⟨plainId_quiet lz _,ih (i+1) _ (by omega) bU (W.frame _ s' _ _ m6 (dI _) fun b hb o e=>?_) (Q0k.step (h:=s'.heap) h1 h3 (h4 i bU) e) fun jX my mY=>?_⟩
  ·rw [ki.2 b (fun h:b=Sa=>lp (by rw [<- h];exact hb))];exact e
  ·refine hR jX (Moved.trans W.gtrans ((hm.mono hsub).then_heap (dI _) fun b o hb e=>?_) my) mY;rw [ki.2 b (fun h:b=Sa=>hb (by rw [h];exact ag))];exact e
end
def Q0k.none (led:Bool)(val:Nat->Nat){h:Heap}{a:Addr}(e:h.get? a=some { cls:=.type "set",dict:=none,data:=.set #[] 0 (.fresh 0 0 led) }):Q0k h a led val 0 :=
 ⟨[],fun _=>0,0,by decide,e,fun x=>⟨fun z=>(by cases z),fun bR=>(by obtain⟨j,hj,_⟩:=bR;exact absurd hj (ip _))⟩⟩
abbrev G4 (w:World):Bool:=!(w.params.followText "set-order")
section
variable {prog:Program}{w:World}{A:Around}{E:VS9}{s:Shared}
def V1d (a:Value){Q₁:VS9}(h:Q₁ (.ref s.heap.objs.size) { s with heap:=s.heap.push { cls:=.type "set",dict:=none,data:=.set #[] 0 (.fresh 0 0 (G4 w)) } }) :
  codeAny (model prog w) A (.call (.builtin "set.__new__") ⟨[.type "set",a],[]⟩) (wants Q₁ E) s:=by
 refine codeAny_of_tree ?_
 change wpAny _ A.in1 (do checkBuiltinCall "set.__new__" ⟨[.type "set",a],[]⟩;again (.builtin "set.__new__" ⟨[.type "set",a],[]⟩)) _ _ s
 refine a8 (gj (PySem.F.newCall_set_1 a) (ao ⟨plainId_quiet PySem.F.plain_set_new _,gU PySem.F.entry_set_new ?_⟩));rw [Around.under_plainId PySem.F.plain_set_new _];unfold Builtin.«set.__new__» Builtin.Frozenset.newClass;have hsub:=sub_set_self;obtain⟨hp,g,d,tk,os⟩:=s;dsimp only
 wp_walk
 refine wpAny_askSetting (ao ?_);dsimp only;simp only [newObj];exact a8 (wpAny_alloc (ao (ao h)))
theorem V1e {l:Addr}{items:Array Value}{ns:List Nat}{Q:VS9}(hh:A.handled=none)(hl:s.heap.IsList l items)(hi:∀(i:Nat) (v:Value),items[i]?=some v->∃t:Tok,v=Value.int ((ns.getD i 0:Nat):Int) t)(hn:items.size=ns.length)(h4:∀x∈ns,x<4)
  (h:∀(h':Heap) (tk:Nat),Q0k h' s.heap.objs.size (G4 w) (fun i=>ns.getD i 0) ns.length->(∀b o,b<s.heap.objs.size->s.heap.get? b=some o->h'.get? b=some o)->Q (.ref s.heap.objs.size) { s with heap:=h',toks:=tk }) :
  wpAny (model prog w) A (call (.type "set") [.ref l]) Q E s:=by
 obtain⟨c,tl,qw⟩:=bV.mro;have nX:=bV.made;have hsub:=bV.sub;refine wpAny_call (codeAny_of_tree ?_)
 change wpAny _ _ (callAny (.type "set") _) _ _ _
 refine ao ⟨Code.quiet_builtin _ (by decide +kernel),gU PySem.F.entry_type_call ?_⟩;rw [Around.under_plain (weight_type_call_type "set" [.ref l] []) rfl];have h1:=bV.notType;have h2:=bV.canCreate;have rY:=PySem.F.typeCall_set_1 (.ref l)
 repeat (any_goals (first | assumption | wp_step))
 refine iS (V1d (.ref l) (E:=E) (Q₁:=fun obj s₁=>obj=.ref s.heap.objs.size/\s₁={ s with heap:=s.heap.push { cls:=.type "set",dict:=none,data:=.set #[] 0 (.fresh 0 0 (G4 w)) } }) ⟨rfl,rfl⟩) fun r s₁ hr=>?_;cases r with
 | error e=>exact hr
 | ok fl =>
  cases fl with
  | ret obj =>
   obtain⟨rfl,rfl⟩:=hr;have hS:(s.heap.push { cls:=.type "set",dict:=none,data:=.set #[] 0 (.fresh 0 0 (G4 w)) }).get? s.heap.objs.size=some { cls:=.type "set",dict:=none,data:=.set #[] 0 (.fresh 0 0 (G4 w)) }:=aI _ rfl;have hT:Shared.TypeIs { s with heap:=s.heap.push { cls:=.type "set",dict:=none,data:=.set #[] 0 (.fresh 0 0 (G4 w)) } } (.ref s.heap.objs.size) "set":=⟨_,hS,rfl⟩
   have jE:=bV.init.lookup;have rZ:=bV.init.bind (.ref s.heap.objs.size)
   repeat (any_goals (first | assumption | wp_step))
   refine iS (codeAny_call_builtin (R:=wants (fun r s₂=>r=.none/\∃h' tk,s₂={ s with heap:=h',toks:=tk }/\Q0k h' s.heap.objs.size (G4 w) (fun i=>ns.getD i 0) ns.length /\
     (∀b o,b<s.heap.objs.size->s.heap.get? b=some o->h'.get? b=some o)) E) bV.init.plain PySem.F.entry_set_init (check_set_init_1 hT ?_)) fun r₂ s₂ md=>?_
   ·obtain⟨ol,jC,ig,nl,jH⟩:=hl;obtain⟨pB,k8,nK,iY⟩:=ol;simp only at ig jH;subst ig;subst jH;have mq:(s.heap.push { cls:=.type "set",dict:=none,data:=.set #[] 0 (.fresh 0 0 (G4 w)) }).get? l=some { cls:=.type "list",dict:=k8,data:=.seq items nl,slots:=iY }:=aj _ jC;have qi:=PySem.F.sub_list_set;have qj:=PySem.F.sub_list_frozenset;have cz:(Value.type "list"==Value.type "dict")=false:=by decide
    have nZ:(s.heap.push { cls:=.type "set",dict:=none,data:=.set #[] 0 (.fresh 0 0 (G4 w)) }).IsList l items:=⟨_,mq,rfl,nl,rfl⟩
    unfold Builtin.«set.__init__» noKeywords Builtin.Frozenset.updateFrom;generalize hPI:pyIter=PI
    wp_walk
    subst hPI;refine wpAny_pyIter_list nZ ?_;refine a8 (wpAny_runValue ?_);have nY:l<s.heap.objs.size:=ax jC;have qH:A.in1.in1.in1.handled=none:=by simp [hh]
    have mt:l≠(s.heap.push { cls:=.type "set",dict:=none,data:=.set #[] 0 (.fresh 0 0 (G4 w)) }).objs.size:=by
     rw [di];exact ay (bA nY)
    have lp:s.heap.objs.size∉[(s.heap.push { cls:=.type "set",dict:=none,data:=.set #[] 0 (.fresh 0 0 (G4 w)) }).objs.size,l]:=by
     rw [di];simp only [ar,aE,ba,ce,not_or];exact⟨ay (cf _),Nat.ne_of_gt nY⟩
    rw [<- hn];refine V1g ((Walks.list qH _ l mt items).toS) s.heap.objs.size lp (fun i=>ns.getD i 0) (G4 w) (fun i v hv _=>hi i v hv) (fun i iK=>?_) (items.size-0) 0 _ (by omega) (bt _)
     ⟨⟨_,aI _ rfl,rfl,rfl⟩,(nZ.push _)⟩ (Q0k.none _ _ (aj _ hS)) fun s' hm mZ=>?_
    ·have:i<ns.length:=by omega
     rw [ak,aa this];exact h4 _ (bQ this)
    ·obtain⟨h',g',d',kU,k6⟩:=s';have eg:g'=s.gens:=hm.gens;have ed:d'=s.drawn:=hm.drawn;have eo:k6=s.os:=hm.os;subst eg;subst ed;subst eo;show wpAny _ _ _ _ _ _;refine ao ?_
     change wpAny _ _ (ret Value.none) _ _ _
     refine ao ⟨rfl,h',kU,rfl,mZ,fun b o hb e=>?_⟩;have js:b≠s.heap.objs.size:=ay hb;have lm:b≠(s.heap.push { cls:=.type "set",dict:=none,data:=.set #[] 0 (.fresh 0 0 (G4 w)) }).objs.size:=by
      rw [di];exact ay (bA hb)
     exact hm.heap b o (by simp only [ar,aE,ba,ce,not_or];exact⟨js,lm⟩) (aj _ (aj _ e))
   ·cases r₂ with
    | error e=>exact md
    | ok fl₂ =>
     cases fl₂ with
     | ret r =>
      obtain⟨rfl,h',tk,rfl,mZ,fe⟩:=md
      repeat (any_goals (first | assumption | wp_step))
      exact h _ _ mZ fe
     | _=>exact md.elim
  | _=>exact hr.elim
end
theorem Y0v {α:Type}:∀(l:List α) (i:Nat) (h:i<l.length),(l[i]::l.eraseIdx i).Perm l
 | [],i,h=>absurd h (ip _)
 | x::l,0,_=>List.Perm.refl _
 | x::l,i+1,h=>by
  have ih:=Y0v l i (by simpa using h);exact(List.Perm.swap x _ _).trans (ih.cons x)
theorem Y3n {α:Type}(next:Nat->Nat):∀(ij k:Nat) (left:List α) (out:Array α),left.length=ij->(pickOrder.go next ij k left out).toList.Perm (out.toList++left)
 | 0,k,left,out,h=>by
  rw [cg.mp h,aW];unfold pickOrder.go;exact List.Perm.refl _
 | ij+1,k,left,out,h=>by
  have hm:next k % left.length<left.length:=Nat.mod_lt _ (by omega)
  unfold pickOrder.go;rw [aa hm];dsimp only;refine(Y3n next ij (k+1) _ _ (by rw [List.length_eraseIdx,aG hm];omega)).trans ?_;rw [Array.toList_push,bI];refine List.Perm.append_left _ ?_;exact Y0v _ _ hm
def Y3o {α:Type}(next:Nat->Nat)(xs:Array α):(pickOrder next xs).toList.Perm xs.toList:=by
 have:=Y3n next xs.size 0 xs.toList #[] (by simp)
 simpa [pickOrder]using this
def W4 (w:World)(a:Addr)(ep:Nat)(es:Array (Int×Value)):Array (Int×Value):=if w.params.followText "set-order"=true then pickOrder (w.params.setOrder a ep) es else es
def Y3i (w:World)(a:Addr)(ep:Nat)(es:Array (Int×Value)):(W4 w a ep es).toList.Perm es.toList:=by
 unfold W4;split
 ·exact Y3o _ _
 ·exact List.Perm.refl _
def O5 (w:World)(S:List Nat)(i:Nat):Nat:=if w.params.followText "set-order"=true then 0 else if i=0 then 0 else S.getD (i-1) 0+1
def Q1p (w:World)(S:List Nat)(h:Heap)(it a:Addr)(ep i:Nat):Prop:=∃o,h.get? it=some o/\o.cls=.type "set_iterator"/\o.data=.fields #[rawInt (O5 w S i),rawInt i,.ref a,rawInt S.length,rawInt ep]
def Q1p.typeIs {w:World}{S:List Nat}{s:Shared}{it a:Addr}{ep i:Nat}(h:Q1p w S s.heap it a ep i):s.TypeIs (.ref it) "set_iterator":=let ⟨o,ho,hc,_⟩:=h;⟨o,ho,hc⟩
def Q5t:Slot "set_iterator" "__next__" "set_iterator.__next__" :=
 .of (owner:="set_iterator") (n:="__next__") (by rw [typeLookup_type,builtinLookup_eq_fast];kernel_rfl) (by decide +kernel) (by decide +kernel) (by decide +kernel) (by first | exact .inl (by decide +kernel) | exact .inr (by decide +kernel)) (by rw [isSubtype_type];kernel_rfl)
def Y5t:Slot "set_iterator" "__iter__" "set_iterator.__iter__" :=
 .of (owner:="set_iterator") (n:="__iter__") (by rw [typeLookup_type,builtinLookup_eq_fast];kernel_rfl) (by decide +kernel) (by decide +kernel) (by decide +kernel) (by first | exact .inl (by decide +kernel) | exact .inr (by decide +kernel)) (by rw [isSubtype_type];kernel_rfl)
def Y0s:entryFor table "set_iterator.__next__"=some Builtin.«set_iterator.__next__»:=entryFor_of_tree (by kernel_rfl)
def W0q:entryFor table "set_iterator.__iter__"=some Builtin.«dict_keyiterator.__iter__»:=entryFor_alias (id':="dict_keyiterator.__iter__") (by kernel_rfl) rfl (by decide +kernel) (by kernel_rfl)
def W0p:entryFor table "set.__iter__"=some Builtin.«frozenset.__iter__»:=entryFor_alias (id':="frozenset.__iter__") (by kernel_rfl) rfl (by decide +kernel) (by kernel_rfl)
def Z9b (a:Value):argsOk "set_iterator.__next__" ⟨[a],[]⟩:=by unfold argsOk;kernel_rfl
def Y8u (a:Value):argsOk "set_iterator.__iter__" ⟨[a],[]⟩:=by unfold argsOk;kernel_rfl
section
variable {prog:Program}{w:World}{A:Around}{E:VS9}{s:Shared}{S:List Nat}{tk:Nat->Tok}{ep:Nat}{a:Addr}
def Q6p {Q:Bool->Shared->Prop}(h:Q (w.params.followText "set-order") s):wpAny (model prog w) A setsByText Q E s:=by
 unfold setsByText;exact a8 (wpAny_askSetting (ao h))
def W2u {Q:VS9}(hS:S∈S3)(ho:s.heap.get? a=some (Z5 S tk ep (G4 w)))
  (h:Q (.ref s.heap.objs.size) { s with heap:=s.heap.push { cls:=.type "set_iterator",data:=.fields #[rawInt 0,rawInt 0,.ref a,rawInt S.length,rawInt ep] } }):wpAny (model prog w) A (pyIter (.ref a)) Q E s:=by
 have F:=W7 hS (G4 w);have hf:(P7 S (G4 w)).fits (E2 tk S).size=true:=by rw [V5];exact F.fits
 have hT:s.TypeIs (.ref a) "set":=⟨_,ho,rfl⟩
 refine wpAny_pyIter_slot hT PySem.F.slot_set_iter (cb PySem.F.slot_set_iter hT W0p ?_ (PySem.F.args_set_iter_1 _));unfold Builtin.«frozenset.__iter__»
 change wpAny _ _ (Builtin.Frozenset.sizeOf a>>=_) _ _ s
 unfold Builtin.Frozenset.sizeOf;refine a8 (a8 (wpAny_setEntries_of ho rfl hf (ao ?_)));unfold setDrawn;refine a8 (a8 (eM ho rfl hf (a8 (Q6p (ao ?_)))));dsimp only;rw [az (by
  show ¬ (!(w.params.followText "set-order")&&(!true&&decide ((E2 tk S).size > 1)))=true;simp)]
 refine a8 (ao ?_);refine a8 (wpAny_setEpoch_of ho rfl hf ?_);refine a8 (bx (ao ⟨_,rfl,"set_iterator",_,⟨_,aI _ rfl,rfl⟩,Q5t.lookup,?_⟩));rw [V5];exact h
end
section
variable {prog:Program}{w:World}{A:Around}{E:VS9}{s:Shared}{S:List Nat}{tk:Nat->Tok}{ep:Nat}{a:Addr}
def Y5l {i:Nat}(h:i<S.length):(E2 tk S)[i]?=some ((S.getD i 0:Int),Value.int (S.getD i 0:Int) (tk (S.getD i 0))):=by
 unfold E2;rw [List.getElem?_toArray,af,ak,aa h];rfl
theorem W5h {i:Nat}{Q:Option (Value×Nat)->Shared->Prop}(hS:S∈S3)(ho:s.heap.get? a=some (Z5 S tk ep (G4 w)))(hi:i<S.length)
  (h:∀e,(W4 w a ep (E2 tk S))[i]?=some e->Q (some (e.2,O5 w S (i+1))) s):wpAny (model prog w) A (setNext a (O5 w S i) i ep) Q E s:=by
 have F:=W7 hS (G4 w);have hf:(P7 S (G4 w)).fits (E2 tk S).size=true:=by rw [V5];exact F.fits
 unfold setNext;refine a8 (eM ho rfl hf ?_);dsimp only;refine a8 (Q6p ?_);cases hb:w.params.followText "set-order" with
 | true =>
  rw [aG rfl,az (by simp)];unfold setWalk;refine a8 (a8 (eM ho rfl hf ?_));dsimp only;refine a8 (Q6p ?_);rw [hb,aG rfl];refine a8 (wpAny_askSetting (ao (ao ?_)));have eo:W4 w a ep (E2 tk S)=pickOrder (w.params.setOrder a ep) (E2 tk S):=by unfold W4;rw [aG hb]
  have hl:i<(W4 w a ep (E2 tk S)).size:=by
   have:=(Y3i w a ep (E2 tk S)).length_eq;rw [bz,bz,V5]at this;omega
  obtain⟨e,he⟩:∃e,(W4 w a ep (E2 tk S))[i]?=some e:=⟨_,Array.getElem?_eq_getElem hl⟩
  have q:=h e he;rw [eo]at he;have e1:O5 w S (i+1)=O5 w S i:=by unfold O5;rw [aG hb,aG hb]
  rw [e1]at q;show Q (Option.map (fun e=>(e.snd,O5 w S i)) (pickOrder (w.params.setOrder a ep) (E2 tk S))[i]?) s;rw [he];exact q
 | false =>
  have eo:W4 w a ep (E2 tk S)=E2 tk S:=by unfold W4;rw [az (by rw [hb];exact aO)]
  have nq:SetTable.below S.toArray (O5 w S i)=i:=by
   unfold O5;rw [az (by rw [hb];exact aO)]
   by_cases hz:i=0
   ·rw [aG hz,hz];exact F.zero
   ·rw [az hz,F.nxt (i-1) (by omega)];omega
  have q:=h _ (by rw [eo];exact Y5l hi);have e2:O5 w S (i+1)=S.getD i 0+1:=by
   unfold O5;rw [az (by rw [hb];exact aO),az (by omega)];rfl
  rw [az aO,az (by
   show ¬ (!true&&decide ((E2 tk S).size > 1))=true;simp)]
  refine a8 (m:=(if (!(G4 w)&&!(E2 tk S).isEmpty)=true then PySem.unsupported "set:maker-not-led" else pure ())) ?_;rw [az (by rw [show G4 w=true by show(!(w.params.followText "set-order"))=true;rw [hb];rfl];simp)];refine ao (ao ?_);have e3:(P7 S (G4 w)).place[i]?=some (S.getD i 0):=by
   show S.toArray[i]?=_;rw [List.getElem?_toArray,ak,aa hi];rfl
  show Q (match (E2 tk S)[SetTable.below S.toArray (O5 w S i)]?,(P7 S (G4 w)).place[SetTable.below S.toArray (O5 w S i)]? with | some (_,x),some j=>some (x,j+1) | _,_=>none) s;rw [nq,e3,Y5l hi];rw [e2]at q;exact q
theorem W5g {Q:Option (Value×Nat)->Shared->Prop}(hS:S∈S3)(ho:s.heap.get? a=some (Z5 S tk ep (G4 w)))(h:Q none s):wpAny (model prog w) A (setNext a (O5 w S S.length) S.length ep) Q E s:=by
 have F:=W7 hS (G4 w);have hf:(P7 S (G4 w)).fits (E2 tk S).size=true:=by rw [V5];exact F.fits
 unfold setNext;refine a8 (eM ho rfl hf ?_);dsimp only;refine a8 (Q6p ?_);cases hb:w.params.followText "set-order" with
 | true =>
  rw [aG rfl,az (by simp)];unfold setWalk;refine a8 (a8 (eM ho rfl hf ?_));dsimp only;refine a8 (Q6p ?_);rw [hb,aG rfl];refine a8 (wpAny_askSetting (ao (ao ?_)));have hl:(pickOrder (w.params.setOrder a ep) (E2 tk S)).size=S.length:=by
   have:=(Y3o (w.params.setOrder a ep) (E2 tk S)).length_eq;rw [bz,bz,V5]at this;exact this
  show Q (Option.map (fun e=>(e.snd,O5 w S S.length)) (pickOrder (w.params.setOrder a ep) (E2 tk S))[S.length]?) s;rw [Array.getElem?_eq_none (by omega)];exact h
 | false =>
  have nq:SetTable.below S.toArray (O5 w S S.length)=S.length:=by
   unfold O5;rw [az (by rw [hb];exact aO)]
   by_cases hz:S.length=0
   ·rw [aG hz,hz];exact F.zero
   ·rw [az hz,F.nxt (S.length-1) (by omega)];omega
  rw [az aO,az (by
   show ¬ (!true&&decide ((E2 tk S).size > 1))=true;simp)]
  refine a8 (m:=(if (!(G4 w)&&!(E2 tk S).isEmpty)=true then PySem.unsupported "set:maker-not-led" else pure ())) ?_;rw [az (by rw [show G4 w=true by show(!(w.params.followText "set-order"))=true;rw [hb];rfl];simp)];refine ao (ao ?_);show Q (match (E2 tk S)[SetTable.below S.toArray (O5 w S S.length)]?,(P7 S (G4 w)).place[SetTable.below S.toArray (O5 w S S.length)]? with | some (_,x),some j=>some (x,j+1) | _,_=>none) s;rw [nq,Array.getElem?_eq_none (by rw [V5];exact aq _)];exact h
end
section
variable {prog:Program}{w:World}{A:Around}{E:VS9}{s:Shared}{S:List Nat}{tk:Nat->Tok}{ep:Nat}{a it:Addr}
def Q1p.at {h h':Heap}{i:Nat}(x:Q1p w S h it a ep i)(e:∀o,h.get? it=some o->h'.get? it=some o):Q1p w S h' it a ep i:=let ⟨o,ho,r⟩:=x;⟨o,e _ ho,r⟩
def W8k {i:Nat}{Q:Option Value->Shared->Prop}(hS:S∈S3)(hit:Q1p w S s.heap it a ep i)(ho:s.heap.get? a=some (Z5 S tk ep (G4 w)))(hi:i<S.length)
  (hQ:∀e h',(W4 w a ep (E2 tk S))[i]?=some e->Q1p w S h' it a ep (i+1)->Heap.SameBut it s.heap h'->Q (some e.2) { s with heap:=h' }):wpAny (model prog w) A (pyNext (.ref it)) Q E s:=by
 have F:=W7 hS (G4 w);have hf:(P7 S (G4 w)).fits (E2 tk S).size=true:=by rw [V5];exact F.fits
 obtain⟨o,jD,hc,hd⟩:=id hit;unfold pyNext;refine a8 (wpAny_attempt (cA (name:=Str.ofString "__next__") hit.typeIs Q5t (cb Q5t hit.typeIs Y0s ?_ (Z9b _))));unfold Builtin.«set_iterator.__next__»;refine a8 (ao ?_);refine a8 (wpAny_fieldsOf jD hd ?_)
 change wpAny _ _ (setEntries a>>=_) _ _ s
 refine a8 (wpAny_setEntries_of ho rfl hf ?_);rw [az (by rw [V5];simp)]
 change wpAny _ _ (setNext a (Int.toNat ((O5 w S i:Nat):Int)) (Int.toNat ((i:Nat):Int)) (Int.toNat ((ep:Nat):Int))>>=_) _ _ s
 rw [b7,b7,b7];refine a8 (W5h hS ho hi fun e he=>?_);dsimp only;refine a8 (jO jD hd (by simp) ?_);have h1:=cU (Obj.mapFields (·.setIfInBounds 0 (rawInt ((O5 w S (i+1):Nat):Int)))) jD (Obj.isFreed_of_fields (bO hd _));refine a8 (jO h1 (bO hd _) (by simp) ?_);refine ao ⟨_,rfl,ao (hQ e _ he ?_ ((dA ..).trans (dA ..)))⟩;refine⟨_,cU _ h1 (Obj.isFreed_of_fields (bO (bO hd _) _)),(Obj.cls_mapFields ..).trans ((Obj.cls_mapFields ..).trans hc),?_⟩;rw [bO (bO hd _)];simp [rawInt]
def W8l {Q:Option Value->Shared->Prop}(hh:A.handled=none)(hS:S∈S3)(hit:Q1p w S s.heap it a ep S.length)(ho:s.heap.get? a=some (Z5 S tk ep (G4 w)))
  (hQ:∀h',Heap.ExtBut it s.heap h'->Q none { s with heap:=h' }):wpAny (model prog w) A (pyNext (.ref it)) Q E s:=by
 have F:=W7 hS (G4 w);have hf:(P7 S (G4 w)).fits (E2 tk S).size=true:=by rw [V5];exact F.fits
 obtain⟨o,jD,hc,hd⟩:=id hit;unfold pyNext;refine a8 (wpAny_attempt (cA (name:=Str.ofString "__next__") hit.typeIs Q5t (cb Q5t hit.typeIs Y0s ?_ (Z9b _))));unfold Builtin.«set_iterator.__next__»;refine a8 (ao ?_);refine a8 (wpAny_fieldsOf jD hd ?_)
 change wpAny _ _ (setEntries a>>=_) _ _ s
 refine a8 (wpAny_setEntries_of ho rfl hf ?_);rw [az (by rw [V5];simp)]
 change wpAny _ _ (setNext a (Int.toNat ((O5 w S S.length:Nat):Int)) (Int.toNat ((S.length:Nat):Int)) (Int.toNat ((ep:Nat):Int))>>=_) _ _ s
 rw [b7,b7,b7];refine a8 (W5g hS ho ?_);dsimp only;refine a8 (jO jD hd (by simp) ?_);refine a8 ?_;simp only [newExc,newTuple];refine a8 (bx ?_ (by size_fits));refine a8 (m:=firstArgMember _ _) (gj (a:=Value.none) (by rfl) (bx ?_ (by size_fits)));simp only [raiseNew];refine a8 (wpAny_handled ?_);rw [show A.in1.handled=none from hh];refine a8 (ao (wpAny_throw ?_));refine a8 (wpAny_isInstance (T:="StopIteration") (b:=true) ⟨_,aI _ rfl,rfl⟩ isSubtype_stop ?_);exact ao (hQ _ (((dA ..).extBut.push _).push _))
def V3j (hh:A.handled=none)(hS:S∈S3)(cz:a≠it):Walks prog w A it [it,a] [it] S.length (fun i v=>∃e,(W4 w a ep (E2 tk S))[i]?=some e/\v=e.2) (fun i h=>Q1p w S h it a ep i/\h.get? a=some (Z5 S tk ep (G4 w))) where
 sub:=fun b hb=>by simp at hb;simp [hb]
 frame:=fun _ _ _ st hk=>⟨st.1.at fun o e=>hk it (by simp) o e,hk a (by simp) _ st.2⟩
 item:=fun i s Q E hi st hQ=>W8k hS st.1 st.2 hi fun e h' he fA i6=>hQ e.2 h' s.toks ⟨e,he,rfl⟩ ⟨fA,i6.extBut a _ cz st.2⟩ fun b o hb q=>i6.extBut b o (fun h=>hb (by simp [h])) q
 done:=fun s Q E st hQ=>W8l hh hS st.1 st.2 fun h' kA=>hQ h' s.toks fun b o hb e=>kA b o (fun h=>hb (by simp [h])) e
 self:=fun _ s Q E st hQ=>by
  refine wpAny_pyIter_slot st.1.typeIs Y5t (cb Y5t st.1.typeIs W0q ?_ (Y8u _))
  change wpAny _ _ (ret (.ref it)) _ _ s
  exact ao ⟨_,rfl,"set_iterator",_,st.1.typeIs,Q5t.lookup,hQ⟩
def W1t {r:Addr}{Q:Bool->Shared->Prop}(hT:s.TypeIs (.ref r) "set")(h:Q false s):wpAny (model prog w) A (Builtin.List.listLengthHint (.ref r)) Q E s:=by
 unfold Builtin.List.listLengthHint;refine a8 (wpAny_specialOf hT PySem.F.slot_set_len.lookup ?_);generalize hid:("set.__len__":String)=id0
 wp_delta
 rw [show splitId id0=some ("set","__len__")from by subst hid;decide +kernel];subst hid;refine a8 (wpAny_isInstance (T:="set") (b:=true) hT (by rw [isSubtype_type];kernel_rfl) ?_);refine wpAny_ite_split (fun kC=>absurd kC (by decide)) (fun _=>?_);refine wpAny_ite_split (fun _=>?_) (fun kC=>absurd (by decide +kernel) kC);refine a8 (wpAny_typeOf hT ?_);exact ao h
def V1u (hS:S∈S3):PySem.W.KdlSrc prog w "set" a a S.length (fun i v=>∃e,(W4 w a ep (E2 tk S))[i]?=some e/\v=e.2) (fun h=>h.get? a=some (Z5 S tk ep (G4 w))) where
 type:=fun _ hm=>⟨_,hm,rfl⟩
 there:=fun _ hm=>⟨ax hm,ax hm⟩
 keep:=fun _ _ hm hk=>hk a (.inl rfl) _ hm
 notList:=by decide
 notTuple:=by decide
 hint:=fun _ _ _ _ hm hq=>W1t ⟨_,hm,rfl⟩ hq
 iter:=fun _ s hh hm=>⟨_,_,(fun _ _ hq=>W2u hS hm hq),V3j hh hS (ay (ax hm)),⟨⟨_,aI _ rfl,rfl,by
  have:O5 w S 0=0:=by unfold O5;split <;> rfl
  rw [this];rfl⟩,aj _ hm⟩⟩
end
theorem W2d {vs:List Value}{es:List (Int×Value)}(hl:vs.length=es.length)(h:∀(j:Nat) (v:Value),vs[j]?=some v->∃e,es[j]?=some e/\v=e.2)(hv:∀e∈es,∃t:Tok,e.2=Value.int e.1 t):IntsAre vs (es.map (·.1)):=by
 induction vs generalizing es with
 | nil=>cases es with
  | nil=>exact .nil
  | cons _ _=>cases hl
 | cons v vs ih =>
  cases es with
  | nil=>cases hl
  | cons e es =>
   obtain⟨e',q1,q2⟩:=h 0 v rfl;cases q1;obtain⟨t,ht⟩:=hv e ag;rw [am,q2,ht];exact .cons _ _ (ih (by simpa using hl) (fun j v q=>h (j+1) v (by simpa using q)) fun e he=>hv e (ae _ he))
def W0v {xs ys:List Int}(p:xs.Perm ys)(h1:xs.Pairwise (·<=·))(h2:ys.Pairwise (·<=·)):xs=ys:=p.eq_of_pairwise (fun a b _ _ h h'=>Int.le_antisymm h h') h1 h2
section
variable {prog:Program}{w:World}{A:Around}{E:VS9}{s:Shared}{S:List Nat}{tk:Nat->Tok}{ep:Nat}{a:Addr}
def V1s {Q:VS9}(hh:A.handled=none)(hS:S∈S3)(ho:s.heap.get? a=some (Z5 S tk ep (G4 w)))
  (h:∀(h':Heap) (t':Nat) (D:Addr) (c:Nat) (out:Array Value),(∀b o,s.heap.get? b=some o->h'.get? b=some o)->a<D->h'.get? D=some (seqObj "list" out c)->IntsAre out.toList (S.map fun(i:Nat)=>(i:Int))->Q (.ref D) { s with heap:=h',toks:=t' }) :
  wpAny (model prog w) A (call (.builtin "sorted") [.ref a]) Q E s:=by
 have F:=W7 hS (G4 w);refine Calls.call_function_entry kind_sorted plain_sorted entry_sorted (args_sorted1 _) ?_;unfold Builtin.«sorted»;refine a8 (m:=checkCount "sorted" 1 1 _) (ao ?_);refine a8 (PySem.W.kdu_collect (A:=A.in1) (V1u (prog:=prog) (w:=w) (a:=a) (tk:=tk) (ep:=ep) hS) hh ho (by have:=F.len;rw [gk];omega) fun h' t' bT hk dv=>?_);have hl:bT.toList.length=S.length:=by rw [bz];exact dv.1
 refine a8 (wpAny_newList ?_ (by rw [hl];have:=F.len;rw [gk];omega));have kq:(h'.push (seqObj "list" bT.toList.toArray 0)).get? h'.objs.size=some (seqObj "list" bT.toList.toArray 0):=aI _ rfl;have pm:=Y3i w a ep (E2 tk S);have hI:IntsAre bT.toList ((W4 w a ep (E2 tk S)).toList.map (·.1)):=by
  refine W2d ?_ (fun j v q=>?_) fun e he=>?_
  ·rw [hl,pm.length_eq];simp [E2]
  ·obtain⟨e,q1,q2⟩:=dv.2 j v (by rw [<- iT];exact q);exact⟨e,by rw [iT];exact q1,q2⟩
  ·have:=pm.mem_iff.mp he;simp only [E2,ah]at this;obtain⟨i,_,rfl⟩:=this;exact⟨_,rfl⟩
 have kp:∀b o,s.heap.get? b=some o->∀out,(sortedHeap (h'.push (seqObj "list" bT.toList.toArray 0)) h'.objs.size bT.toList out).get? b=some o:=fun b o e out=>by
  have hb:=ax (hk b o e);rw [sortedHeap_old (ay hb) (by rw [size_push'];exact bA hb)];exact aj _ (hk b o e)
 refine a8 (bG (cb slot_list_sort ⟨_,kq,rfl⟩ entry_list_sort (list_sort_tree kq hI (by rw [hl];have:=F.len;omega) fun out pH a1 a2 a3=>⟨_,rfl,?_⟩) (args_list_sort _)));obtain⟨c,hc⟩:=sortedHeap_at (out:=out) kq;refine ao ⟨_,rfl,h _ _ _ c out (fun b o e=>kp b o e out) ?_ hc ?_⟩
 ·exact ax (hk a _ ho)
 ·have e:(W4 w a ep (E2 tk S)).toList.map (·.1)=_:=rfl;have p2:pH.Perm (S.map fun(i:Nat)=>(i:Int)):=by
   refine a2.trans ((pm.map (·.1)).trans ?_);rw [E2];simp only [aF];exact List.Perm.refl _
  have o2:(S.map fun(i:Nat)=>(i:Int)).Pairwise (·<=·):=by
   rw [List.pairwise_map];exact F.ord.imp fun h=>by omega
  rw [<- W0v p2 a3 o2];exact a1
end
theorem W2f {vs:List Value}:∀{ns:List Int},IntsAre vs ns->C0 (ns.map V.int) vs:=by
 intro ns h
 induction h with
 | nil=>exact .nil
 | cons n t _ ih=>exact .cons ⟨t,rfl⟩ ih
theorem Y7a:∀{ns:List Nat}{aP:List Value},C0 (ns.map fun(n:Nat)=>V.int (n:Int)) aP->∀(i:Nat) (v:Value),aP[i]?=some v->∃t:Tok,v=Value.int ((ns.getD i 0:Nat):Int) t
 | [],aP,r,i,v,e=>by cases r;cases e
 | n::ns,aP,r,i,v,e=>by
  cases r with
  | cons h t =>
   cases i with
   | zero=>obtain⟨tk,q⟩:=h;cases e;exact⟨tk,q⟩
   | succ i=>exact Y7a t i v (by simpa using e)
def Q6e (we:WE):WE:=fun τ Q=>we τ fun r=>∃ns:List Nat,Q9 r=some (ns.map fun(n:Nat)=>.int (n:Int))/\(∀n∈ns,n<4)/\∀S:List Nat,S.Pairwise (·<·)->(∀x,x∈S ↔ x∈ns)->Q (.nw (S.map fun(n:Nat)=>.int (n:Int)))
section
variable {X:Cx}{H0:Hp}{e:Expr}{we:WE}{p p2 pos dY:Pos}
def DE.sset (hc:X.calm=true)(hg:Gl X "sorted")(hm:X.mg "sorted"=none)(qI:Gl X "set")(qu:X.mg "set"=none)(q9:bootBuiltins "sorted"=some (.builtin "sorted"))(kg:bootBuiltins "set"=some (.type "set"))(he:DE X H0 e we)
  (hs:starEach [.Call (.Name "set" p2) [e] [] dY] X.env=(false,eval (.Call (.Name "set" p2) [e] [] dY) X.env)::starEach [] X.env:=by rfl)
  (fv:starEach [e] X.env=(false,eval e X.env)::starEach [] X.env:=by rfl) (hpl:(backTo dY (starEach [] X.env)).any (·.1)=false:=by rfl) :
  DE X H0 (.Call (.Name "sorted" p) [.Call (.Name "set" p2) [e] [] dY] [] pos) (Q6e we) where
 mono:=fun τ P Q f h=>he.mono τ _ _ (fun r bR=>(by obtain⟨ns,e1,e2,q⟩:=bR;exact⟨ns,e1,e2,fun S a b=>f _ (q S a b)⟩)) h
 pe:=by
  intro a9 s σ H Q I ⟨τ,hR,h⟩;refine bc (Y9 I hg hm q9 ?_ (by decide) (by decide));refine PyProof.Rows.callWith_builtin1 ?_ hs;rw [hs]
  change wpAny (model X.prog X.w) X.A (spliced ((false,eval (.Call (.Name "set" p2) [e] [] dY) X.env)::backTo pos (starEach [] X.env))) _ _ s
  refine jQ ?_;refine bc (Y9 I qI qu kg ?_ (by decide) (by decide));refine bg (B4 ((T0 he.pe X7 fv) dY a9 s σ H (fun vs H1=>A5 H H1/\∃(l:Addr) (ns:List Nat),vs=[.ref l]/\D7 X.K H1 l (ns.map fun(n:Nat)=>V.int (n:Int))/\(∀n∈ns,n<4) /\
   ∀S:List Nat,S.Pairwise (·<·)->(∀x,x∈S ↔ x∈ns)->∀v H',A5 H H'->E5 X.K H H' (.nw (S.map fun(n:Nat)=>.int (n:Int))) v->Q v H') I ?_) fun us s1 bu=>?_) fv hpl
  ·refine⟨τ,hR,he.mono τ _ _ (fun r ⟨ns,e1,e2,q⟩ v H1 s1 ir=>?_) h⟩;obtain⟨l,ys,rfl,sq,al⟩:=Q2b e1 ir;have al:AllS X.K H1 ((ns.map fun(n:Nat)=>(n:Int)).map .int) ys:=by rw [aF];exact al
   have ey:=Q8k al;rw [aF]at ey;subst ey;exact⟨s1,l,ns,rfl,sq,e2,q⟩
  obtain⟨vs,H1,I1,rv,sm,l,ns,e1,sq,h4,q⟩:=bu;subst e1;obtain⟨u,rfl,ru⟩:=T4 rv;cases ru;obtain⟨aP,fH,pl,hz⟩:=I1.list sq;have hn:aP.length=ns.length:=by have:=fH.length;rw [ac]at this;exact this.symm
  refine V1e (I.ok.hd hc) pl.isList (fun i v e=>Y7a fH i v (by simpa using e)) (by simpa using hn) h4 fun h' tk hH k=>Calls.spliced_nil ?_;obtain⟨S,rL,ep,hS,fJ,fU⟩:=hH;refine V1s (s:={ s1 with heap:=h',toks:=tk }) (I.ok.hd hc) hS fJ fun h2 t2 D c out k2 hD eY ff=>?_;have F:=W7 hS true;have jh:s1.heap.objs.size<=D:=eA hD;have hf:H1 D=none:=I1.hok.fresh jh;have fV:∀x,x∈S ↔ x∈ns:=fun x=>by
   rw [fU x];constructor
   ·rintro ⟨j,hj,rfl⟩;show ns.getD j 0∈ns;rw [ak,aa hj];exact bQ hj
   ·intro hx;obtain⟨j,hj,e⟩:=lA hx;exact⟨j,hj,by show ns.getD j 0=x;rw [ak,aa hj];exact e⟩
  refine⟨.ref D,_,I1.laid (t':=t2) (o:=.lst ((S.map fun(n:Nat)=>(n:Int)).map V.int)) (fun b o e=>k2 b o (k b o (ax e) e)) jh ⟨?_,out.toList,c,W2f ff,by simpa using eY⟩,rfl,
   q S F.ord fV _ _ (sm.trans (G1 hf _)) ⟨D,_,rfl,sm.free hf,upd_same,?_⟩⟩
  ·rw [ac,ac];have:=F.len;rw [gk];omega
  ·have:=AllS.ints (K:=X.K) (H:=upd H1 D (.lst ((S.map fun(n:Nat)=>(n:Int)).map V.int))) (ns:=S.map fun(n:Nat)=>(n:Int));have e2:(S.map fun(n:Nat)=>TK.D.int (n:Int))=(S.map fun(n:Nat)=>(n:Int)).map TK.D.int:=by rw [aF];rfl
   rw [e2];exact this
@[simp] theorem V0z {τ:A9}{Q:R->Prop}:Q6e we τ Q=we τ fun r=>∃ns:List Nat,Q9 r=some (ns.map fun(n:Nat)=>.int (n:Int))/\(∀n∈ns,n<4)/\∀S:List Nat,S.Pairwise (·<·)->(∀x,x∈S ↔ x∈ns)->Q (.nw (S.map fun(n:Nat)=>.int (n:Int))):=rfl
end
def ixNn {n j:Nat}(h:j<n):ixN n (j:Int)=some j:=by
 unfold ixN;rw [aG (by omega),aG (by omega),b7]
section
variable {X:Cx}{H0:Hp}{a b e o v tg:Expr}{we wv:WE}{wr:WA}{p pos bC:Pos}{op:Operator}{f:Int->Int->Int}
def W8o (K:Fg9):V->V->Hp->VK->Prop:=fun x y H Q=>∃(p:Addr) (xs:List V) (i:Nat) (v:V),x=.ref p/\y=.int (i:Int)/\D7 K H p xs/\xs[i]?=some v/\Q v H
def W1k:PGet X (W8o X.K):=by
 intro a9 s σ H x y v u Q I rx ry h;obtain⟨p,xs,i,z,rfl,rfl,hq,he,q⟩:=h;cases rx;obtain⟨t,rfl⟩:=ry;obtain⟨aP,r,pl,hz⟩:=I.list hq;obtain⟨w,ew,ft⟩:=r.get he;have hl:=r.length;have hi:i<aP.length:=by
  rcases aX i aP.length with h | h
  ·exact h
  ·rw [aw.mpr h]at ew;cases ew
 have hn:=Q2y;exact wpAny_getItem_list pl.isList (by omega) (by omega) (by rw [b7];simpa using ew) ⟨z,H,I,ft,q⟩
def Q6b (i:Nat)(f:Int->Int->Int)(we wv:WE):WS:=fun E τ=>∃ds,τ[i]?=some (some (.own ds))/\we τ fun rk=>∃(j:Nat) (x:Int),rk=.st (.int (j:Int))/\ds[j]?=some (.int x)/\wv τ fun r=>∃y,r=.st (.int y)/\E.nx (τ.set i (some (.own (ds.set j (.int (f x y))))))
def DS.augIx {i:Nat}(hp:PIp X op (ipI f))(ho:PE X o (S4 i))(he:DE X H0 e we)(hv:DE X H0 v wv)
  (ha:∀ov iv new,augStore e ov iv new=(do holding [new,ov,iv] (setItem ov iv new);release [new,ov,iv] [];pure .next):=by intros;rfl):DS X H0 (.AugAssign (.Subscript o e bC) op v pos) (Q6b i f we wv) where
 mono:=fun τ E F le bR=>(by obtain⟨ds,e1,h⟩:=bR;exact⟨ds,e1,he.mono τ _ _ (fun r cp=>(by obtain⟨j,x,a1,a3,h⟩:=cp;exact⟨j,x,a1,a3,hv.mono τ _ _ (fun r cQ=>(by obtain⟨y,b1,b2⟩:=cQ;exact⟨y,b1,le.nx _ b2⟩)) h⟩)) h⟩)
 ps:=psW (W7t ho he.pe W1k hv.pe hp Y5n ha) fun D σ H dG=>by
  obtain⟨τ,hR,ds,e1,h⟩:=dG;obtain⟨q,xs,gB,h0,sq,al⟩:=hR.ownAt e1;refine⟨_,gB,τ,hR,he.mono τ _ _ (fun rk ⟨j,x,a1,a3,h⟩ y H1 s1 ik=>?_) h⟩;subst a1;cases (show y=.int (j:Int)from ik);have nG:=s1 _ _ sq;have fm:=al.mono (Kp.of s1) _ _;obtain⟨z,hz,iz⟩:=fm.get a3;cases (show z=.int x by unfold A1 at iz;exact iz);refine⟨q,xs,j,_,rfl,rfl,D7.of nG,hz,τ,hR.mono s1,hv.mono τ _ _ (fun r ⟨y,b1,b2⟩ u H2 s2 iu=>?_) h⟩;subst b1;cases (show u=.int y from iu);have gu:=s2 _ _ nG;have hj:j<xs.length:=by
   rw [<- al.length];rcases aX j ds.length with h | h
   ·exact h
   ·rw [aw.mpr h]at a3;cases a3
  refine⟨x,y,rfl,rfl,q,xs,(j:Int),j,rfl,rfl,gu,ixNn hj,?_⟩;have ef:AllS X.K H2 (ds.set j (.int (f x y))) (xs.set j (.int (f x y))):=AllS.set A1.s_int j (fm.mono (Kp.of s2) _ _);exact b2 σ _ ((Kp.of (s1.trans s2)).trans (Kp.upd gu _)) (((hR.mono s1).mono s2).mutate e1 gB h0 gu ef)
@[simp] theorem Y4f {i:Nat}{E:F6}{τ:A9}:Q6b i f we wv E τ=∃ds,τ[i]?=some (some (.own ds))/\we τ fun rk=>∃(j:Nat) (x:Int),rk=.st (.int (j:Int))/\ds[j]?=some (.int x)/\wv τ fun r=>∃y,r=.st (.int y)/\E.nx (τ.set i (some (.own (ds.set j (.int (f x y)))))):=rfl
def Q1k:List R->(R->Prop)->Prop
 | [r],Q=>∃ns:List Int,Q9 r=some (ns.map .int)/\Q (.st (.int ns.sum))
 | _,_=>False
def Y5y:Q1r Q1k:=fun x P Q g h=>by
 unfold Q1k at h ⊢;split at h
 ·obtain⟨ns,a,b⟩:=h;exact⟨ns,a,g _ b⟩
 ·exact h
def Z9t (hc:X.calm=true):Q1n X (.builtin "sum") Q1k:=by
 intro a9 s σ H xs us Q I rv ⟨rs,cq,h⟩;unfold Q1k at h;split at h
 ·rename_i r;obtain⟨ns,e1,h⟩:=h;obtain⟨v,rfl,ir⟩:=V0 cq;obtain⟨l,ys,rfl,sq,al⟩:=Q2b e1 ir;obtain⟨u,rfl,ru⟩:=T4 rv;cases ru;have ey:=Q8k al;subst ey;obtain⟨aP,fH,pl,hz⟩:=I.list sq;obtain⟨ps,ei,en⟩:=Z3j fH;subst ei;have hit:s.heap.IsList l (intItems ps.toArray):=by
   have:=pl.isList;have e:intItems ps.toArray=(ps.map fun p=>Value.int p.1 p.2).toArray:=by simp [intItems]
   rw [e];exact this
  refine sum_intListG (I.ok.hd hc) hit fun h' tk t' k=>⟨.int ns.sum,H,I.kept k,⟨t',?_⟩,h _ _ (A5.refl _) U5⟩
  have:preSum (numAt ps.toArray) ps.toArray.size=ns.sum:=by
   rw [preSum_eq,List.take_of_length_le (by simp),<- en]
  rw [this]
 ·exact h.elim
@[simp] theorem Y4m {r:R}{Q:R->Prop}:Q1k [r] Q=∃ns:List Int,Q9 r=some (ns.map .int)/\Q (.st (.int ns.sum)):=rfl
def V3x {K:Fg9}{H0 H:Hp}{l:Addr}{xs:List V}{ds:List D}(sq:FzL K H l xs)(al:AllS K H ds xs):Yl K H0 (Irl K l ds.length) ds.reverse H where
 go:=fun H' k s i hi=>⟨by simpa using hi,xs,(k.fzL sq).sq,al.length.symm⟩
 yld:=fun H' k s i v cT d hd dL=>by
  obtain⟨e,hx⟩:=dL;subst e;refine⟨A5.refl _,?_⟩;have hl:=al.length;have hi:i<ds.length:=by
   rcases aX i ds.length with h | h
   ·exact h
   ·rw [aw.mpr (by simpa using h)]at hd;cases hd
  rw [List.getElem?_reverse hi]at hd;obtain⟨v',nT,q⟩:=(al.mono k _ _).get hd;have:=hx xs (k.fzL sq).sq;rw [this]at nT;cases nT;exact q
 stop:=fun H' k s=>by
  show ds.reverse.length=ds.length;simp
def Z3g (wr:WA):WI:=fun τ Q=>wr τ fun rs=>∃ds,rs=[.st (.lst ds)]/\Q ds.reverse τ
def DI.revF (hg:Gl X "reversed")(hm:X.mg "reversed"=none)(hv:bootBuiltins "reversed"=some (.type "reversed"))(ha:DA X H0 [a] wr)(he:starEach [a] X.env=(false,eval a X.env)::starEach [] X.env:=by rfl)(hpl:(backTo pos (starEach [] X.env)).any (·.1)=false:=by rfl) :
  DI X H0 tg (.Call (.Name "reversed" p) [a] [] pos) (Z3g wr) where
 mono:=fun τ P Q f h=>ha.mono τ _ _ (fun r dF=>(by obtain⟨ds,e1,q⟩:=dF;exact⟨ds,e1,f _ _ q⟩)) h
 pi:=by
  intro a9 s σ H R I ⟨τ,hR,h⟩;refine bc (Y9 I hg hm hv ?_ (by decide) (by decide));refine bg (B4 (ha.pa pos a9 s σ H (fun vs H1=>A5 H H1/\∃l xs ds,vs=[.ref l]/\FzL X.K H1 l xs/\AllS X.K H1 ds xs/\∀J H',Kp H H'->C4 X.K H0 τ σ H'->Yl X.K H0 J ds.reverse H'->R J H') I
   ⟨τ,hR,ha.mono τ _ _ (fun rs ⟨ds,e1,q⟩ vs H1 s1 cq=>⟨s1,by
    subst e1;obtain⟨v,rfl,ir⟩:=V0 cq;have ir:A1 X.K H1 (.lst ds) v:=ir;unfold A1 at ir;obtain⟨l,xs,rfl,sq,al⟩:=ir;exact⟨l,xs,ds,rfl,sq,al,q⟩⟩) h⟩) fun us s1 bu=>?_) he hpl
  obtain⟨vs,H1,I1,rv,sm,l,xs,ds,e1,sq,al,q⟩:=bu;subst e1;obtain⟨u,rfl,ru⟩:=T4 rv;cases (show u=Value.ref l from ru);obtain⟨aP,fH,pl,l8⟩:=I1.list sq.sq;have hl:=fH.length;have qB:=al.length;refine call_reversed_list pl.isList ?_;have hit:(s1.heap.push (revObj l ((aP.toArray.size:Int)-1))).IsRevIter s1.heap.objs.size l ((aP.toArray.size:Int)-1):=⟨_,aI _ rfl,rfl,rfl⟩
  refine wpAny_pyIter_revIter hit ⟨s1.heap.objs.size,[s1.heap.objs.size],_,_,H1,rfl,I1.kept (t':=s1.toks) fun b o e=>aj _ e,V2z (l:=l) (n:=ds.length),⟨bt _,?_⟩,fun b hb=>?_,q _ _ (Kp.of sm) (hR.mono sm) (V3x sq al)⟩
  ·have e:((ds.length:Nat):Int)-1-((0:Nat):Int)=(aP.toArray.size:Int)-1:=by simp;omega
   rw [e];exact hit
  ·rw [aE.mp hb];exact I1.fpOk (aq _) (I1.hok.fresh (aq _))
@[simp] theorem V0l {τ:A9}{Q:List D->A9->Prop}:Z3g wr τ Q=wr τ fun rs=>∃ds,rs=[.st (.lst ds)]/\Q ds.reverse τ:=rfl
end
section
variable {X:Cx}
def Q7e (rs:List R)(Q:R->Prop):Prop:=∃i j:Int,rs=[.st (.int i),.st (.int j)]/\Q (.st (.int (if j > i then j else i)))
def W4k:Q1r Q7e:=fun rs P Q f bR=>(by obtain⟨i,j,e,h⟩:=bR;exact⟨i,j,e,f _ h⟩)
def Y9l (hc:X.calm=true):Q1n X (.builtin "max") Q7e:=by
 intro a9 s σ H xs us Q I rv ⟨rs,cq,i,j,e,h⟩;subst e;obtain⟨v,v',rfl,iv,pT⟩:=Y8r cq;cases (show v=.int i from iv);cases (show v'=.int j from pT);obtain⟨u,u',rfl,⟨t1,rfl⟩,⟨t2,rfl⟩⟩:=Z6h rv;refine max_two_ints (I.ok.hd hc) fun h' tk k=>⟨_,H,I.kept (t':=tk) k,?_,h _ _ (A5.refl H) U5⟩
 by_cases bU:j > i
 ·rw [aG bU,aG bU];exact⟨_,rfl⟩
 ·rw [az bU,az bU];exact⟨_,rfl⟩
@[simp] theorem V0u {a b:Int}{Q:R->Prop}:Q7e [.st (.int a),.st (.int b)] Q ↔ Q (.st (.int (if b > a then b else a))):=by
 constructor
 ·rintro ⟨i,j,e,h⟩;cases e;exact h
 ·intro h;exact⟨a,b,rfl,h⟩
end
structure Q4l (K:Fg9)(x qual:Str)(st:Stmt)(f:Addr)(fd:FuncData):Prop where
 ex:∃(oc:Value) (od:Option Addr) (dV kV cn pm:Value) (an:Option Addr) (cdv ct:Value) (cZ:Array (Option Value)),
  fd=PySem.W.fnOf x qual (U3 st) (K1 st) (B6 st) dV kV cn pm an cdv ct/\K.lookup f=some ⟨oc,od,.func fd,cZ⟩/\PySem.W.codeIn K cdv qual=true
section
variable {P:Program}{w:World}{K:Fg9}{mg:Str->Option Value}{base:Heap}
def Q4l.ok {x qual:Str}{st:Stmt}{f:Addr}{fd:FuncData}{N ps:List Str}{k:Nat}{sp:Sp}(F:Q4l K x qual st f fd)(S:G3 N ps (B6 st))(len:∀vs H Q E,sp vs H Q E->vs.length=ps.length)
  (bF:∀(cdv:Value) (A:Around) (outer:List Env) (s:Shared) (H:Hp) (vs:List V) (Q:VK) (E:XK),D4 k (A.deeper (envOfC qual (B6 st) s.heap.objs.size f cdv))->sp vs H Q E ->
   ∃t,Q3 (K9 G2 P w K mg base N qual (B6 st) f cdv A outer s H E).nox (K1 st) t/\t { nx:=fun _ H'=>Q .non H',rt:=Q } (start N vs) H):M9 P w K mg base G2 (k+1) f fd ps sp:=by
 obtain⟨oc,od,dV,kV,cn,pm,an,cdv,ct,cZ,rfl,lk,dq⟩:=F.ex;refine Q8y lk dq S len fun A outer s H vs Q E hr eK=>?_;obtain⟨t,h,q⟩:=bF cdv A outer s H vs Q E hr eK;exact⟨t,h.nox,q⟩
def Q4l.okD {x qual:Str}{st:Stmt}{f:Addr}{fd:FuncData}{N ps:List Str}{k:Nat}{sp:D9}(F:Q4l K x qual st f fd)(S:G3 N ps (B6 st))
  (bF:∀(cdv:Value) (A:Around) (outer:List Env) (s:Shared) (H:Hp) (E:XK),D4 k (A.deeper (envOfC qual (B6 st) s.heap.objs.size f cdv)) ->
   ∃ws,A3 (K9 G2 P w K mg base N qual (B6 st) f cdv A outer s H E).nox H (K1 st) ws /\
    ∀rs r,rs.length=ps.length->sp rs r->ws { nx:=fun _=>r=.st .non,rt:=fun r'=>r'=r,bk:=fun _=>False,ct:=fun _=>False } (E9 N rs)) :
  M9 P w K mg base G2 (k+1) f fd ps (Q2x K ps.length sp):=by
 refine F.ok S (fun vs H Q E h=>?_) (fun cdv A outer s H vs Q E hr h=>?_)
 ·obtain⟨rs,r,hl,al,_⟩:=h;rw [<- al.length];exact hl
 obtain⟨rs,r,hl,al,ok,h1,h2⟩:=h;obtain⟨ws,hd,hw⟩:=bF cdv A outer s H E hr;refine⟨_,hd.ps,E9 N rs,Q5m al ok,?_⟩;have hw:=hw (rs.map J9) r (by rw [ac];exact hl) h1;rw [Q7p]at hw;refine hd.mono _ _ _ ⟨fun τ h σ H' _ hR=>?_,fun r' h v H' sm ir=>?_,fun _ h=>False.elim h,fun _ h=>False.elim h⟩ hw
 ·have h:r=.st .non:=h;subst h;exact h2 .non H' hR.same (A1.s_non (K:=K) (H:=H'))
 ·have h:r'=r:=h;subst h;exact h2 v H' sm ir
end
structure DfO (K:Fg9)(mg:Str->Option Value)(name:Str)(st:Stmt)(ps:List Str)(z:Int)(f:Addr)(fd:FuncData):Prop where
 F:Q4l K name name st f fd
 b:∃t,Q0 K fd ps [.int z t]
 k:PySem.W.keepIn K (.ref f)=true
 m:mg name=some (.ref f)
section
variable {P:Program}{w:World}{K:Fg9}{mg:Str->Option Value}{base:Heap}
def DfO.ok {x:Str}{st:Stmt}{f:Addr}{fd:FuncData}{N ps:List Str}{z:Int}{k:Nat}{sp:D9}{ws:WS}(F:DfO K mg x st ps z f fd)(S:G3 N ps (B6 st))
  (bF:∀(cdv:Value) (A:Around) (outer:List Env) (s:Shared) (H:Hp) (E:XK),D4 k (A.deeper (envOfC x (B6 st) s.heap.objs.size f cdv))->A3 (K9 G2 P w K mg base N x (B6 st) f cdv A outer s H E).nox H (K1 st) ws)
  (hr:∀rs r,rs.length=ps.length->sp rs r->ws (P3 r) (E9 N rs)):FnD P w K mg base (k+1) f fd ps sp :=
 Q4l.okD F.F S fun cdv A outer s H E kn=>⟨ws,bF cdv A outer s H E kn,hr⟩
end
section
variable {X:Cx}{H0:Hp}{e:Expr}{es:List Expr}{wr:WA}{k:Nat}{f:Addr}{fd:FuncData}{ps:List Str}{sp:D9}{x:Str}{p pos:Pos}{z:Int}
theorem K5.snoc {K:Fg9}{H0 H:Hp}{r:R}{v:V}(h:E5 K H0 H r v):∀{rs:List R}{vs:List V},K5 K H0 H rs vs->K5 K H0 H (rs++[r]) (vs++[v])
 | [],vs,q=>by
  have q:vs=[]:=q;subst q;exact⟨v,[],rfl,h,rfl⟩
 | a::rs,vs,q=>by
  obtain⟨v',jS,rfl,h1,h2⟩:=q;exact⟨v',jS++[v],rfl,h1,K5.snoc h h2⟩
def Z6k (z:Int)(sp:D9)(wr:WA):WE:=fun τ Q=>wr τ fun rs=>rs.all N1=true/\∃r,sp (rs.map J9++[.st (.int z)]) r/\Q r
def DE.callO (F:M9 X.prog X.w X.K X.mg X.base G2 k f fd ps (Q2x X.K ((e::es).length+1) sp))(hr:D4 k X.A)(hg:Gl X x)(hm:X.mg x=some (.ref f))(hk:PySem.W.keepIn X.K (.ref f)=true)(hb:∃t,Q0 X.K fd ps [.int z t])
  (ha:DA X H0 (e::es) wr) (cR:(x==("__debug__":Str))=false:=by decide) (he:starEach (e::es) X.env=(false,eval e X.env)::starEach es X.env:=by rfl) (hpl:(backTo pos (starEach es X.env)).any (·.1)=false:=by rfl) :
  DE X H0 (.Call (.Name x p) (e::es) [] pos) (Z6k z sp wr) where
 mono:=fun τ P Q f h=>ha.mono τ _ _ (fun rs bR=>(by obtain⟨ok,r,h1,h2⟩:=bR;exact⟨ok,r,h1,f r h2⟩)) h
 pe:=by
  obtain⟨t,hb⟩:=hb;refine N4 (Q9x F hr hg hm hk hb (dvs:=[V.int z]) (.cons ⟨t,rfl⟩ .nil) Q9w ha.pa cR he hpl) fun σ H Q ⟨τ,hR,h⟩=>⟨τ,hR,ha.mono τ _ _ (fun rs ⟨ib,ok,r,h1,h2⟩ vs H1 s1 cq=>?_) (ha.len τ _ h)⟩
  refine⟨rs++[.st (.int z)],r,by rw [ai,ib];rfl,cq.v.snoc ?_,by rw [List.all_append,ok];rfl,by rw [aU];exact h1,fun v H' s2 ir=>h2 v H' (s1.trans s2) (ir.older s1)⟩;exact A1.s_int (K:=X.K) (H:=H1)
@[simp] theorem V0f {τ:A9}{Q:R->Prop}:Z6k z sp wr τ Q=wr τ fun rs=>rs.all N1=true/\∃r,sp (rs.map J9++[.st (.int z)]) r/\Q r:=rfl
end
section
variable {X:Cx}{H0:Hp}{e a:Expr}{es:List Expr}{wr:WA}{wa:WE}{k l:Nat}{f:Addr}{fd:FuncData}{ps:List Str}{x:Str}{p pos:Pos}{ts:List Addr}{st:Stmt}
def DE.cl {sp:D9}(F:M9 X.prog X.w X.K X.mg X.base G2 l f fd ps (Q2x X.K (e::es).length sp))(hr:D4 k X.A)(D:Df X.K X.mg x st ps f fd)(ha:DA X H0 (e::es) wr)(hl:l<=k:=by decide)(hg:Gl X x:=by rfl)
  (cR:(x==("__debug__":Str))=false:=by decide) (he:starEach (e::es) X.env=(false,eval e X.env)::starEach es X.env:=by rfl) (hpl:(backTo pos (starEach es X.env)).any (·.1)=false:=by rfl) :
  DE X H0 (.Call (.Name x p) (e::es) [] pos) (J8 sp wr):=DE.call F (hr.mono hl) hg D.m D.k D.b ha cR he hpl
def DE.clP {sp:Q1}(ku:Q2p sp)(F:M9 X.prog X.w X.K X.mg X.base G2 l f fd ps (Q5c X.K ts (e::es).length sp))(hr:D4 k X.A)(hT:Z8 ts H0)(D:Df X.K X.mg x st ps f fd)(ha:DA X H0 (e::es) wr)(hl:l<=k:=by decide)(hg:Gl X x:=by rfl)
  (cR:(x==("__debug__":Str))=false:=by decide) (he:starEach (e::es) X.env=(false,eval e X.env)::starEach es X.env:=by rfl) (hpl:(backTo pos (starEach es X.env)).any (·.1)=false:=by rfl) :
  DE X H0 (.Call (.Name x p) (e::es) [] pos) (Z6 sp wr):=DE.callP ku F (hr.mono hl) hT hg D.m D.k D.b ha cR he hpl
def DE.v (i:Nat)(hN:X.N[i]?=some x:=by rfl)(hv:Vis X.env.scope x:=by first | exact Or.inl rfl | exact Or.inr (Or.inl rfl) | exact Or.inr (Or.inr rfl))(hd:(x==("__debug__":Str))=false:=by decide)
  (dq:(x==("__classdict__":Str))=false:=by decide):DE X H0 (.Name x pos) (wV i):=DE.var (pv i hN hv hd dq)
def DA.one (ha:DE X H0 a wa)(hs:starEach [a] X.env=(false,eval a X.env)::starEach [] X.env:=by rfl):DA X H0 [a] (A4 wa A6):=DA.cons ha DA.nil hs
def DS.sv (i:Nat)(he:DE X H0 e wa)(hN:X.N.Nodup)(hi:X.N[i]?=some x:=by rfl)(hx:Loc X.env.scope x:=by first | exact Or.inl rfl | exact Or.inr rfl)(hs:swapsWith e (some (.Name x p)) pos.line X.env=pure false:=by rfl)
  (hf:X.fn x=true\/X.env.scope.names.lookup x=some .local:=by first | exact .inl rfl | exact .inr rfl | assumption):DS X H0 (.Assign [.Name x p] e pos) (C2 i wa):=DS.set he hN hi hx hs hf
def scB (N P:List Str)(sc:Scope):Bool:=decide (sc.kind=.function)&&!sc.isCoroutine&&!sc.isGenerator&&decide N.Nodup&&decide (N.take P.length=P)&&P.all (fun x=>decide (sc.names.lookup x=some .local)||decide (sc.names.lookup x=some .cell))&&sc.names.all (fun y=>decide (y.2≠.free))
def P0 {N P:List Str}{sc:Scope}(h:scB N P sc=true):G3 N P sc:=by
 unfold scB at h;simp only [cj,decide_eq_true_eq,ci,Bool.or_eq_true,Bool.not_eq_true']at h;obtain⟨⟨⟨⟨⟨⟨h1,h2⟩,h3⟩,h4⟩,h5⟩,h6⟩,h7⟩:=h;exact⟨h1,h2,h3,h4,h5,h6,h7⟩
def Y8z:bootBuiltins "len"=some (.builtin "len"):=by decide +kernel
def Y9a:bootBuiltins "tuple"=some (.type "tuple"):=by decide +kernel
def DE.len (hm:X.mg "len"=none)(ha:DE X H0 a wa)(hg:Gl X "len":=by rfl)(hs:starEach [a] X.env=(false,eval a X.env)::starEach [] X.env:=by rfl)(hpl:(backTo pos (starEach [] X.env)).any (·.1)=false:=by rfl):DE X H0 (.Call (.Name "len" p) [a] [] pos) (E4 F4 (A4 wa A6)) :=
 DE.callB Y9h W3q hg hm Y8z (DA.cons ha DA.nil hs) (he:=hs) (hpl:=hpl)
def DE.tpl (hm:X.mg "tuple"=none)(ha:DE X H0 a wa)(hg:Gl X "tuple":=by rfl)(hs:starEach [a] X.env=(false,eval a X.env)::starEach [] X.env:=by rfl)(hpl:(backTo pos (starEach [] X.env)).any (·.1)=false:=by rfl):DE X H0 (.Call (.Name "tuple" p) [a] [] pos) (E4 Y0 (A4 wa A6)) :=
 DE.callTy Y9m V2u hg hm Y9a (DA.cons ha DA.nil hs) (he:=hs) (hpl:=hpl)
end
def Hr (K:Fg9)(n:Str)(st:Stmt)(f:Addr)(fd:FuncData):Prop:=PySem.W.nsIn K mainGlobals n=some (some (.ref f))/\N7 K n n st f fd
def HrC (K:Fg9)(n:Str)(st:Stmt)(f:Addr)(fd:FuncData)(c Pt:Addr)(ts:List Addr):Prop:=PySem.W.nsIn K mainGlobals n=some (some (.ref f))/\PySem.W.keepIn K (.ref f)=true /\
 (∃(oc:Value) (od:Option Addr) (kV cn pm:Value) (an:Option Addr) (ct:Value) (cZ:Array (Option Value)),fd=PySem.W.fnOf n n (U3 st) (K1 st) (B6 st) .none kV cn pm an (.ref c) ct/\K.lookup f=some ⟨oc,od,.func fd,cZ⟩/\PySem.W.codeIn K (.ref c) n=true) /\
 (∃(vo:Value) (vd:Option Addr) (vv:Array Value) (vs:Array (Option Value)),K.lookup c=some ⟨vo,vd,.fields vv,vs⟩/\vv[11]?=some (.ref Pt))/\PySem.W.codeHdIn K c Pt=true/\K.lookup Pt=none/\Pt∈ts
section
variable {K:Fg9}{h:Heap}{mg:Str->Option Value}{n:Str}{st:Stmt}{f c Pt:Addr}{fd:FuncData}{ts:List Addr}{ps:List Str}
def Q7 {oc:Value}{od an:Option Addr}{cZ:Array (Option Value)}{kV cn pm cdv ct:Value}(a:PySem.W.nsIn K mainGlobals n=some (some (.ref f)))(l:K.lookup f=some ⟨oc,od,.func (PySem.W.fnOf n n (U3 st) (K1 st) (B6 st) .none kV cn pm an cdv ct),cZ⟩)(q:PySem.W.codeIn K cdv n=true)(k:PySem.W.keepIn K (.ref f)=true) :
  Hr K n st f (PySem.W.fnOf n n (U3 st) (K1 st) (B6 st) .none kV cn pm an cdv ct):=⟨a,W1h l q k⟩
def Y1n {oc vo:Value}{od an vd:Option Addr}{cZ vs:Array (Option Value)}{kV cn pm ct:Value}{vv:Array Value}(a:PySem.W.nsIn K mainGlobals n=some (some (.ref f)))(l:K.lookup f=some ⟨oc,od,.func (PySem.W.fnOf n n (U3 st) (K1 st) (B6 st) .none kV cn pm an (.ref c) ct),cZ⟩)(q:PySem.W.codeIn K (.ref c) n=true)(k:PySem.W.keepIn K (.ref f)=true)
  (v:K.lookup c=some ⟨vo,vd,.fields vv,vs⟩) (p:vv[11]?=some (.ref Pt)) (e:PySem.W.codeHdIn K c Pt=true) (o:K.lookup Pt=none) (m:Pt∈ts):HrC K n st f (PySem.W.fnOf n n (U3 st) (K1 st) (B6 st) .none kV cn pm an (.ref c) ct) c Pt ts :=
 ⟨a,k,⟨_,_,_,_,_,_,_,_,rfl,l,q⟩,⟨_,_,_,_,v,p⟩,e,o,m⟩
def Hr.df (H:Hr K n st f fd)(X:K.In h)(G:h.Ns mainGlobals mg)(hb:∀(kV cn pm:Value) (an:Option Addr) (cdv ct:Value) (us:List Value),us.length=ps.length->bindArgs (PySem.W.fnOf n n (U3 st) (K1 st) (B6 st) .none kV cn pm an cdv ct) ⟨us,[]⟩=pure (ps.zip us)):Df K mg n st ps f fd :=
 ⟨H.2,H.2.binds hb,H.2.kp,cN X G H.1⟩
def HrC.hr (H:HrC K n st f fd c Pt ts):Hr K n st f fd:=let ⟨a,k,⟨oc,od,kV,cn,pm,an,ct,cZ,e,l,q⟩,_⟩:=H;⟨a,⟨oc,od,kV,cn,pm,an,_,ct,cZ,e,l,q⟩,k⟩
def HrC.fc (H:HrC K n st f fd c Pt ts):Q3p K n n st f fd c Pt:=let ⟨_,_,e,_,q,_⟩:=H;⟨e,q⟩
def HrC.tb (H:HrC K n st f fd c Pt ts):Pt∈ts:=let ⟨_,_,_,_,_,_,m⟩:=H;m
def HrC.at (H:HrC K n st f fd c Pt ts):(∃c,PySem.W.codeHdIn K c Pt=true)/\K.lookup Pt=none:=let ⟨_,_,_,_,q,n,_⟩:=H;⟨⟨_,q⟩,n⟩
end
@[elab_as_elim] theorem Q0x {α:Type}{P:List α->Prop}(us:List α)(hl:us.length=1)(h:∀a,P [a]):P us:=by
 obtain⟨a,rfl⟩:=List.length_eq_one_iff.mp hl;exact h a
@[elab_as_elim] theorem Q2c {α:Type}{P:List α->Prop}(us:List α)(hl:us.length=2)(h:∀a b,P [a,b]):P us:=by
 cases us with
 | nil=>cases hl
 | cons a us=>exact @Q0x α (fun l=>P (a::l)) us (Nat.succ.inj hl) (h a)
@[elab_as_elim] theorem Q4a {α:Type}{P:List α->Prop}(us:List α)(hl:us.length=3)(h:∀a b c,P [a,b,c]):P us:=by
 cases us with
 | nil=>cases hl
 | cons a us=>exact @Q2c α (fun l=>P (a::l)) us (Nat.succ.inj hl) (h a)
@[elab_as_elim] theorem lst4 {α:Type}{P:List α->Prop}(us:List α)(hl:us.length=4)(h:∀a b c d,P [a,b,c,d]):P us:=by
 cases us with
 | nil=>cases hl
 | cons a us=>exact @Q4a α (fun l=>P (a::l)) us (Nat.succ.inj hl) (h a)
def HrO (K:Fg9)(n:Str)(st:Stmt)(z:Int)(f:Addr)(fd:FuncData):Prop:=PySem.W.nsIn K mainGlobals n=some (some (.ref f))/\PySem.W.keepIn K (.ref f)=true /\
 ∃(oc:Value) (od:Option Addr) (kV cn pm:Value) (an:Option Addr) (cdv ct:Value) (cZ:Array (Option Value)) (dT:Addr) (dC:Value) (dD:Option Addr) (dN:Nat) (dS:Array (Option Value)) (t:Tok),
  fd=PySem.W.fnOf n n (U3 st) (K1 st) (B6 st) (.ref dT) kV cn pm an cdv ct/\K.lookup f=some ⟨oc,od,.func fd,cZ⟩/\PySem.W.codeIn K cdv n=true/\K.lookup dT=some ⟨dC,dD,.seq #[.int z t] dN,dS⟩
section
variable {K:Fg9}{h:Heap}{mg:Str->Option Value}{n:Str}{st:Stmt}{f:Addr}{fd:FuncData}{ps:List Str}{z:Int}
def W1u {oc:Value}{od an:Option Addr}{cZ:Array (Option Value)}{kV cn pm cdv ct:Value}{dT:Addr}{dC:Value}{dD:Option Addr}{dN:Nat}{dS:Array (Option Value)}{t:Tok}(a:PySem.W.nsIn K mainGlobals n=some (some (.ref f)))
  (l:K.lookup f=some ⟨oc,od,.func (PySem.W.fnOf n n (U3 st) (K1 st) (B6 st) (.ref dT) kV cn pm an cdv ct),cZ⟩) (q:PySem.W.codeIn K cdv n=true) (k:PySem.W.keepIn K (.ref f)=true) (d:K.lookup dT=some ⟨dC,dD,.seq #[.int z t] dN,dS⟩) :
  HrO K n st z f (PySem.W.fnOf n n (U3 st) (K1 st) (B6 st) (.ref dT) kV cn pm an cdv ct):=⟨a,k,_,_,_,_,_,_,_,_,_,_,_,_,_,_,_,rfl,l,q,d⟩
def HrO.df (H:HrO K n st z f fd)(X:K.In h)(G:h.Ns mainGlobals mg)
  (hb:∀(kV cn pm:Value) (an:Option Addr) (cdv ct:Value) (dT:Addr) (dC:Value) (dD:Option Addr) (dN:Nat) (dS:Array (Option Value)) (t:Tok),K.lookup dT=some ⟨dC,dD,.seq #[.int z t] dN,dS⟩->Q0 K (PySem.W.fnOf n n (U3 st) (K1 st) (B6 st) (.ref dT) kV cn pm an cdv ct) ps [.int z t]):DfO K mg n st ps z f fd:=by
 obtain⟨a,k,oc,od,kV,cn,pm,an,cdv,ct,cZ,dT,dC,dD,dN,dS,t,rfl,l,q,d⟩:=H;exact⟨⟨⟨_,_,_,_,_,_,_,_,_,_,rfl,l,q⟩⟩,⟨t,hb _ _ _ _ _ _ _ _ _ _ _ _ d⟩,k,cN X G a⟩
end
end TK
end
section
namespace MC
open PySem PySem.Spec PyProof.Rows L2 TK
section
variable {α:Type}[DecidableEq α]
def N8 (ks:List α)(g:α):List α:=if g∈ks then ks else ks++[g]
def Z8v {ks:List α}{g:α}(h:g∈ks):N8 ks g=ks:=aG h
def Z8w {ks:List α}{g:α}(h:g∉ks):N8 ks g=ks++[g]:=az h
def Y8p (ks:List α)(g:α):ks <+: N8 ks g:=by
 unfold N8;split
 ·exact bE _
 ·exact eQ _ _
def Z3v {ks:List α}{g x:α}:x∈N8 ks g ↔ x∈ks\/x=g:=by
 unfold N8;split
 ·constructor
  ·exact .inl
  ·rintro (h | rfl) <;> assumption
 ·rw [aR,aE]
def W5d {ks:List α}{g:α}(h:ks.Nodup):(N8 ks g).Nodup:=by
 unfold N8;split
 ·exact h
 ·rename_i n;exact be.mpr ⟨h,by simp,fun a ha b hb=>by
   rw [aE]at hb;rintro rfl;exact n (hb ▸ ha)⟩
def Z3h {ks ls:List α}{g:α}(p:ks <+: ls)(h:g∈ks):ls.idxOf g=ks.idxOf g:=by
 obtain⟨t,rfl⟩:=p;rw [List.idxOf_append,aG h]
def I0 (st:Nat->α):List Nat->List α->List Nat->List α×List Nat
 | [],ks,r=>(ks,r)
 | c::cs,ks,r=>I0 st cs (N8 ks (st c)) (r++[(N8 ks (st c)).idxOf (st c)])
theorem Q5o (st:Nat->α):∀(cs:List Nat) (ks:List α) (r:List Nat),ks <+: (I0 st cs ks r).1
 | [],ks,r=>bE _
 | c::cs,ks,r=>(Y8p ks (st c)).trans (Q5o st cs _ _)
theorem Y4a (st:Nat->α):∀(cs:List Nat) (ks:List α) (r:List Nat),ks.Nodup->(I0 st cs ks r).1.Nodup
 | [],ks,r,h=>h
 | c::cs,ks,r,h=>Y4a st cs _ _ (W5d h)
theorem Z4a (st:Nat->α){x:α}:∀(cs:List Nat) (ks:List α) (r:List Nat),x∈(I0 st cs ks r).1 ↔ x∈ks\/∃c∈cs,x=st c
 | [],ks,r=>by simp [I0]
 | c::cs,ks,r=>by
  rw [I0,Z4a st cs,Z3v];simp [or_assoc]
theorem Z0a (st:Nat->α):∀(cs:List Nat) (ks:List α) (r:List Nat),(I0 st cs ks r).2=r++cs.map fun c=>(I0 st cs ks r).1.idxOf (st c)
 | [],ks,r=>by simp [I0]
 | c::cs,ks,r=>by
  have h:=Z0a st cs (N8 ks (st c)) (r++[(N8 ks (st c)).idxOf (st c)]);have e:=Z3h (Q5o st cs (N8 ks (st c)) (r++[(N8 ks (st c)).idxOf (st c)])) (Z3v.mpr (.inr rfl):st c∈N8 ks (st c));rw [I0,h,am,e,bI]
  rfl
abbrev B2:List Nat:=[0,1,2,3]
def P9 (step:α->Nat->α):Nat->List α->List (List Nat)->List α×List (List Nat)
 | 0,ks,rs=>(ks,rs)
 | n+1,ks,rs=>match ks[rs.length]? with
  | none=>(ks,rs)
  | some k=>P9 step n (I0 (step k) B2 ks []).1 (rs++[(I0 (step k) B2 ks []).2])
structure Y3 (step:α->Nat->α)(start:α)(U:List α)(ks:List α)(rs:List (List Nat)):Prop where
 nd:ks.Nodup
 zero:ks[0]?=some start
 sub:∀k∈ks,k∈U
 len:rs.length<=ks.length
 row:∀(i:Nat) (r:List Nat),rs[i]?=some r->∃k,ks[i]?=some k/\(∀c∈B2,step k c∈ks)/\r=B2.map fun c=>ks.idxOf (step k c)
def Y3.start {step:α->Nat->α}{start:α}{U:List α}(h:start∈U):Y3 step start U [start] [] :=
 ⟨by simp,rfl,fun k hk=>by rw [aE]at hk;exact hk ▸ h,by simp,fun i r e=>by simp at e⟩
def Y3.next {step:α->Nat->α}{start k:α}{U:List α}{ks:List α}{rs:List (List Nat)}(hU:∀k∈U,∀c∈B2,step k c∈U)(W:Y3 step start U ks rs)(hk:ks[rs.length]?=some k) :
  Y3 step start U (I0 (step k) B2 ks []).1 (rs++[(I0 (step k) B2 ks []).2]):=by
 have p:=Q5o (step k) B2 ks [];have kin:k∈ks:=aB hk;have get:∀{i:Nat}{x:α},ks[i]?=some x->(I0 (step k) B2 ks []).1[i]?=some x:=fun {i x} e=>by
  obtain⟨t,ht⟩:=p;rw [<- ht,aJ]
  ·exact e
  ·obtain⟨h,_⟩:=av.mp e;exact h
 have lt:rs.length<ks.length:=by obtain⟨h,_⟩:=av.mp hk;exact h
 refine⟨Y4a _ _ _ _ W.nd,get W.zero,fun x hx=>?_,?_,fun i r e=>?_⟩
 ·rcases (Z4a _ _ _ _).mp hx with h | ⟨c,hc,rfl⟩
  ·exact W.sub x h
  ·exact hU k (W.sub k kin) c hc
 ·rw [ai,bh];exact aS lt p.length_le
 ·rcases aX i rs.length with h | h
  ·rw [aJ h]at e;obtain⟨k',e1,e2,e3⟩:=W.row i r e;refine⟨k',get e1,fun c hc=>p.subset (e2 c hc),?_⟩;rw [e3];exact aM fun c hc=>(Z3h p (e2 c hc)).symm
  ·rw [aQ h]at e;have:i-rs.length=0:=by
    rcases Nat.eq_zero_or_pos (i-rs.length)with z | z
    ·exact z
    ·rw [aw.mpr (by simp;omega)]at e;cases e
   rw [this]at e;have e:(I0 (step k) B2 ks []).2=r:=aA e;refine⟨k,get (by rw [show i=rs.length by omega];exact hk),fun c hc=>(Z4a _ _ _ _).mpr (.inr ⟨c,hc,rfl⟩),?_⟩;rw [<- e,Z0a,bX]
def Y3.bound {step:α->Nat->α}{start:α}{U:List α}{ks:List α}{rs:List (List Nat)}(W:Y3 step start U ks rs):ks.length<=U.length:=W.nd.length_le_of_subset fun x hx=>W.sub x hx
theorem Y7g {step:α->Nat->α}{start:α}{U:List α}(hU:∀k∈U,∀c∈B2,step k c∈U):∀(n:Nat) (ks:List α) (rs:List (List Nat)),Y3 step start U ks rs->U.length<=n+rs.length ->
  Y3 step start U (P9 step n ks rs).1 (P9 step n ks rs).2/\(P9 step n ks rs).2.length=(P9 step n ks rs).1.length
 | 0,ks,rs,W,h=>⟨W,by have:=W.bound;have:=W.len;simp [P9];omega⟩
 | n+1,ks,rs,W,h=>by
  unfold P9;split
  ·rename_i e;have:=aw.mp e;exact⟨W,by have:=W.len;simp;omega⟩
  ·rename_i k e;exact Y7g hU n _ _ (W.next hU e) (by simp;omega)
structure Q1s (step:α->Nat->α)(start:α)(U ks:List α)(rs:List (List Nat)):Prop where
 nd:ks.Nodup
 zero:ks[0]?=some start
 sub:∀k∈ks,k∈U
 len:rs.length=ks.length
 mem:∀k∈ks,∀c∈B2,step k c∈ks
 row:∀(i:Nat) (k:α),ks[i]?=some k->rs[i]?=some (B2.map fun c=>ks.idxOf (step k c))
def X0 (N:Nat)(step:α->Nat->α)(start:α):List α×List (List Nat):=P9 step N [start] []
def Y7f {step:α->Nat->α}{start:α}{U:List α}{N:Nat}(hU:∀k∈U,∀c∈B2,step k c∈U)(hs:start∈U)(hN:U.length<=N):Q1s step start U (X0 N step start).1 (X0 N step start).2:=by
 unfold X0;obtain⟨W,e⟩:=Y7g hU N [start] [] (Y3.start hs) (by simpa using hN);refine⟨W.nd,W.zero,W.sub,e,fun k hk c hc=>?_,fun i k hk=>?_⟩
 ·obtain⟨i,hi,rfl⟩:=bS.mp hk;have iK:i<(P9 step N [start] []).2.length:=by rw [e];exact hi
  obtain⟨k',e1,e2,_⟩:=W.row i _ (aa iK);rw [aa hi]at e1;cases e1;exact e2 c hc
 ·obtain⟨hi,rfl⟩:=av.mp hk;have iK:i<(P9 step N [start] []).2.length:=by rw [e];exact hi
  obtain⟨k',e1,_,e3⟩:=W.row i _ (aa iK);have fe:(P9 step N [start] []).1[i]?=some k':=e1;rw [aa hi]at fe;cases fe;rw [aa iK,e3]
section
variable {κ:Type}[DecidableEq κ]{key:α->κ}
def kvm (key:α->κ)(L:List (α×D)):List (κ×D):=L.map fun p=>(key p.1,p.2)
theorem Q3x (inj:∀a b,key a=key b->a=b)(L:List (α×D))(g:α):J1 (kvm key L) (key g)=J1 L g:=by
 induction L with
 | nil=>rfl
 | cons p L ih =>
  unfold J1 kvm at ih ⊢;rw [am,bn,bn]
  by_cases h:p.1=g
  ·have:key p.1=key g:=by rw [h]
   simp [h]
  ·have:¬ key p.1=key g:=fun z=>h (inj _ _ z);simp only [h,this,decide_false];exact ih
def Y6x {L:List (α×D)}{g:α}:J1 L g=none ↔ g∉L.map (·.1):=by
 unfold J1;rw [Option.map_eq_none_iff,List.find?_eq_none];simp only [ah,not_exists,decide_eq_true_eq];constructor
 ·rintro h x ⟨hx,rfl⟩;exact h x hx rfl
 ·rintro h x hx rfl;exact h x ⟨hx,rfl⟩
def Z6g {L:List (α×D)}{g:α}:(J1 L g).isSome=decide (g∈L.map (·.1)):=by
 by_cases h:g∈L.map (·.1)
 ·rw [bo h];cases e:J1 L g with
  | none=>exact absurd h (Y6x.mp e)
  | some d=>rfl
 ·rw [bb h,Y6x.mpr h];rfl
def Z3o (inj:∀a b,key a=key b->a=b){L:List (α×D)}{g:α}(h:g∉L.map (·.1))(d:D):R9 (kvm key L) (key g) d=kvm key (L++[(g,d)]):=by
 unfold R9;rw [az]
 ·simp [kvm]
 ·intro z;rw [List.any_eq_true]at z;obtain⟨x,hx,e⟩:=z;obtain⟨p,hp,rfl⟩:=ah.mp hx;exact h (ah.mpr ⟨p,hp,inj _ _ (dh e)⟩)
theorem Y6w {L:List (α×D)}(nd:(L.map (·.1)).Nodup){g:α}{d:D}(h:(g,d)∈L):J1 L g=some d:=by
 induction L with
 | nil=>cases h
 | cons p L ih =>
  rw [am,bi]at nd;unfold J1 at ih ⊢;rw [bn];rcases ar.mp h with rfl | h
  ·simp
  ·have:¬ p.1=g:=fun z=>nd.1 (z ▸ ah.mpr ⟨_,h,rfl⟩);simp only [this,decide_false];exact ih nd.2 h
def U7 (ks:List α):List (α×D):=ks.zipIdx.map fun p=>(p.1,D.int (p.2:Int))
def Y2y (ks:List α):(U7 ks).map (·.1)=ks:=by
 unfold U7;rw [aF];exact List.zipIdx_map_fst 0 ks
def W5j (ks:List α)(g:α):U7 (ks++[g])=U7 ks++[(g,D.int (ks.length:Int))]:=by
 unfold U7;rw [List.zipIdx_append];simp
def Y2z {ks:List α}{g:α}(h:g∈ks):J1 (U7 ks) g=some (.int (ks.idxOf g:Nat)):=by
 have key:∀(ks:List α) (n:Nat),g∈ks->J1 (ks.zipIdx n |>.map fun p=>(p.1,D.int (p.2:Int))) g=some (.int ((n+ks.idxOf g:Nat):Int)):=by
  intro ks
  induction ks with
  | nil=>intro n h;cases h
  | cons k ks ih =>
   intro n h;unfold J1 at ih ⊢;rw [List.zipIdx_cons,am,bn]
   by_cases e:k=g
   ·subst e;simp
   ·have hg:g∈ks:=by
     rcases ar.mp h with z | z
     ·exact absurd z.symm e
     ·exact z
    simp only [e,decide_false];rw [ih (n+1) hg,List.idxOf_cons];have e':(k==g)=false:=by simp [e]
    rw [e'];simp;omega
 have:=key ks 0 h;rw [cG]at this;exact this
end
end
abbrev Y8j:List Str:=["start","step","keys","numbers","rows","key","row","column","goal"]
abbrev Y8k:List Str:=["start","step","keys","numbers","rows","key","row","column","goal"]
def Z7p (dQ:Q2)  :WS:=(A7 (C2 2 (M3 (A4 (B7 (wV 0)) A6))) (A7 (Z0v 3 (wV 0) (wC (.int 0))) (A7 (C2 4 (M3 A6)) (A7 (Q6c 2 (Q2k (A2 (L9 fun i j=>decide (i<j)) (E4 F4 (A4 (wV 4) A6)) (E4 F4 (A4 (wV 2) A6))) (A7 (C2 5 (A2 B1 (wV 2) (E4 F4 (A4 (wV 4) A6)))) (A7 (C2 6 (M3 A6)) (A7 (K4 (Q1z (A4 (E4 F4 (A4 (wC (.str "01ab")) A6)) A6)) (B5 7) (A7 (C2 8 (Q3i dQ 2 1 (A4 (wV 5) (A4 (wV 7) A6)))) (A7 (N6 (Q3k 3 (wV 8)) (A7 (Q3l 3 (wV 8) (E4 F4 (A4 (wV 2) A6))) (P2 2 (B7 (wV 8)))) M7) (P2 6 (B7 (Q1m 3 (wV 8))))))) (P2 4 (B7 (E4 Y0 (A4 (wV 6) A6))))))))) (J3 (Q3m (A4 (B7 (wV 2)) (A4 (B7 (E4 Y0 (A4 (wV 4) A6))) A6))))))))
abbrev Y8h:List Str:=["start","step","is_end","keys","texts","place","key","column","sign","goal"]
abbrev Z1g:List Str:=["some","onward","reached","states","place","state","goal"]
def Z6v   (K:Fg9) :WS:=(A7 (Z6p 2 1 [] (Q2w (wV 0)) (B5 0) (wV 0) (B7 (wC (.int 0)))) (A7 (C2 3 (E4 Q3z (A4 (wV 2) A6))) (A7 (C2 4 (wC (.int 0))) (A7 (Q2k (A2 (L9 fun i j=>decide (i<j)) (wV 4) (E4 F4 (A4 (wV 3) A6))) (A7 (C2 5 (A2 B1 (wV 3) (wV 4))) (A7 (K4 (W1 (B7 (A2 B1 (wV 1) (wV 5)))) (B5 6) (N6 (Q3k 2 (wV 6)) (A7 (Q3l 2 (wV 6) (A2 G5 (Q1m 2 (wV 5)) (wC (.int 1)))) (P2 3 (B7 (wV 6)))) M7)) (V6 4 (G7 NoC fun i j=>i+j) (wC (.int 1)))))) (Z6t K 2)))))
abbrev Q6i:List Str:=["ends","rows","wanted","backward","state","row","goal","reached"]
def Z6w   (K:Fg9)(sp_all_reached:Q1):WS:=(A7 (Z6q 3 1 [] (jOr (Q0v (wV 1)) (Q2w (wV 1))) (B5 0) (M3 A6)) (A7 (Z6n 3 (K4 (iOr (Q4x (A4 (wV 1) A6)) (Q6w (A4 (wV 1) A6))) (gTp 2 (J5 (B5 4) (J5 (B5 5) gNl))) (K4 (Q6x (wV 5)) (B5 6) (Q7w 3 (wV 6) (B7 (wV 4)))))) (A7 (Z6u 7 (Z6 sp_all_reached (A4 (P8 2 [2] (Q9e (A4 (wV 0) A6)) (gTp 2 (J5 (B5 0) (J5 (B5 1) gNl))) (A2 (P6 60 false) (wV 1) (wV 2)) (B7 (wV 0))) (A4 (wV 3) A6)))) (J3 (P8 1 [7] (Q7a (A4 (E4 F4 (A4 (wV 0) A6)) A6)) (B5 0) W8 (B7 (Z6m K 1 (wV 0))))))))
abbrev Z8i:List Str:=["_law_script","_law_k"]
def Z0y  :WS:=(A7 (N6 (A2 (P6 60 false) (wV 0) (M3 A6)) (J3 (A2 S8 (wC (.int 7)) (wV 1))) M7) (J3 (A2 G5 (A2 B1 (wV 0) (A2 (G7 (fun _ j=>0<j) fun i j=>i % j) (wV 1) (E4 F4 (A4 (wV 0) A6)))) (A2 S8 (wC (.int 6553)) (A2 (G7 Q0j fun i j=>i / j) (wV 1) (E4 F4 (A4 (wV 0) A6)))))))
abbrev Z8j:List Str:=["_law_script","_law_k","_law_many","_law_cell_here"]
def Z7b  (eU:D9):WS:=(A7 (C2 3 (A2 (G7 (fun _ j=>0<j) fun i j=>i % j) (A2 G5 (A2 S8 (A2 (G7 (fun _ j=>0<j) fun i j=>i % j) (J8 eU (A4 (wV 0) (A4 (wV 1) A6))) (wC (.int 2147483563))) (wC (.int 69069))) (A2 S8 (wC (.int 104723)) (A2 G5 (wV 1) (wC (.int 1))))) (wC (.int 2147483563)))) (A7 (C2 3 (A2 (G7 (fun _ j=>0<j) fun i j=>i % j) (A2 G5 (A2 S8 (wV 3) (wV 3)) (A2 (G7 Q0j fun i j=>i / j) (wV 3) (wC (.int 3)))) (wC (.int 2147483399)))) (J3 (A2 (G7 (fun _ j=>0<j) fun i j=>i % j) (A2 (G7 Q0j fun i j=>i / j) (A2 (G7 (fun _ j=>0<j) fun i j=>i % j) (A2 G5 (A2 S8 (wV 3) (wV 3)) (A2 (G7 Q0j fun i j=>i / j) (wV 3) (wC (.int 7)))) (wC (.int 2147483647))) (wC (.int 11))) (wV 2)))))
abbrev Q8d:List Str:=["_law_script","_law_at","_law_most","_law_size","_law_ends","_law_rows","_law_k"]
def Z7d  (bY:D9):WS:=(A7 (C2 3 (A2 G5 (wC (.int 1)) (J8 bY (A4 (wV 0) (A4 (wV 1) (A4 (wV 2) A6)))))) (A7 (C2 4 (E4 Y0 (A4 (P8 1 [0,1] (Q7a (A4 (wV 3) A6)) (B5 0) W8 (B7 (wB (A2 (P6 60 false) (J8 bY (A4 (wV 1) (A4 (A2 G5 (A2 G5 (wV 2) (wC (.int 1))) (wV 0)) (A4 (wC (.int 2)) A6)))) (wC (.int 0)))))) A6))) (A7 (C2 5 (M3 A6)) (A7 (K4 (Q1z (A4 (wV 3) A6)) (B5 6) (P2 5 (B7 (E4 Y0 (A4 (P8 1 [0,3,1,6] (Q7a (A4 (wC (.int 4)) A6)) (B5 0) W8 (B7 (J8 bY (A4 (wV 1) (A4 (A2 G5 (A2 G5 (A2 G5 (wV 3) (wC (.int 7))) (A2 S8 (wC (.int 4)) (wV 4))) (wV 0)) (A4 (wV 2) A6)))))) A6))))) (J3 (Q3m (A4 (B7 (wV 4)) (A4 (B7 (E4 Y0 (A4 (wV 5) A6))) A6))))))))
abbrev iD (n:Nat):D:=.int (n:Int)
abbrev rD (r:List Nat):D:=.tup (r.map iD)
abbrev rsD (rs:List (List Nat)):D:=.tup (rs.map rD)
def sz {n:Nat}(h:n<=1000000):n<=sizeLine:=aS h (by decide)
def szl {n:Nat}(h:n<=1000000):n<sizeLine:=Nat.lt_of_le_of_lt h (by decide)
theorem ixn {n j:Nat}(h:j<n):ixN n (j:Int)=some j:=by
 have:K8 (List.range n) (j:Int)=some j:=V9 (by rw [aa (by simpa using h)];simp);unfold K8 at this;rw [aZ]at this;cases e:ixN n (j:Int)with
 | none=>rw [e]at this;cases this
 | some k =>
  rw [e]at this;have this:(List.range n)[k]?=some j:=this;obtain⟨hk,e2⟩:=av.mp this;rw [<- e2,List.getElem_range]
section
variable {α:Type}[DecidableEq α]
section T
theorem r4:O9 0 (Int.toNat ((Str.ofString "01ab").length:Int))=B2.map iD:=rfl
end T
end
section
variable {α:Type}[DecidableEq α]{FC:Q2}{f:Addr}{Φ:Hp->Prop}{sp:D9}{step:α->Nat->α}
section T
variable {en:α->D}{key:α->B8}
def wbK (dQ:Q2):WS:=(A7 (C2 8 (Q3i dQ 2 1 (A4 (wV 5) (A4 (wV 7) A6)))) (A7 (N6 (Q3k 3 (wV 8)) (A7 (Q3l 3 (wV 8) (E4 F4 (A4 (wV 2) A6))) (P2 2 (B7 (wV 8)))) M7) (P2 6 (B7 (Q1m 3 (wV 8))))))
theorem forK (hk:∀a,Q8 (en a)=some (key a))(inj:∀a b,key a=key b->a=b)(hF:FC 2 f Φ sp){k:α}{E:F6}{o0 o4:Option Sl}:∀(cs:List Nat) (ks:List α) (r:List Nat) (o7 o8:Option Sl),
  (∀c∈cs,sp [.st ((en k)),.st (iD c)] (.st ((en (step k c)))))->ks.length+cs.length<=1000000->r.length+cs.length<=1000000 ->
  (∀o7 o8,E.nx [o0,some (.cl f Φ),some (.own ((I0 (step k) cs ks r).1.map fun a=>(en a))),some (.dk (kvm key (U7 (I0 (step k) cs ks r).1))),o4,some (.dat ((en k))),some (.own ((I0 (step k) cs ks r).2.map iD)),o7,o8]) ->
  D1 (B5 7) (wbK FC) E (cs.map iD) [o0,some (.cl f Φ),some (.own (ks.map fun a=>(en a))),some (.dk (kvm key (U7 ks))),o4,some (.dat ((en k))),some (.own (r.map iD)),o7,o8]
 | [],ks,r,o7,o8,_,_,_,h=>h o7 o8
 | c::cs,ks,r,o7,o8,hs,h1,h2,h=>by
  rw [aD]at h1 h2;have ma:=hs c ag;have ih:=fun pR r'=>forK hk inj hF (k:=k) (E:=E) (o0:=o0) (o4:=o4) cs pR r';simp only [am,D1];have hv:=Q3x inj (U7 ks) (step k c);have hi:(J1 (kvm key (U7 ks)) (key (step k c))).isSome=decide (step k c∈ks):=by rw [hv,Z6g,Y2y]
  simp only [wbK,C8,M6,F8,Z5b,D2,B0,C6,W6,Z5g,Z5h,Q2h,E8,V4,Z0c,N5];refine⟨f,Φ,sp,rfl,hF,.dat ((en k)),rfl,.dat (iD c),rfl,rfl,_,ma,?_⟩;simp only [L6];refine⟨_,rfl,_,rfl,en (step k c),key (step k c),rfl,hk _,?_⟩;rw [hi]
  by_cases hm:step k c∈ks
  ·have ea:N8 ks (step k c)=ks:=Z8v hm;rw [az (by simp [hm])];refine⟨_,rfl,_,rfl,_,rfl,en (step k c),key (step k c),_,rfl,hk _,by rw [hv];exact Y2z hm,_,rfl,szl (by simp;omega),?_⟩;have e:(r.map iD++[D.int ((ks.idxOf (step k c):Nat):Int)])=(r++[ks.idxOf (step k c)]).map iD:=by simp
   show D1 _ _ _ _ [_,_,_,_,_,_,some (.own (r.map iD++[_])),_,_];rw [e];refine ih ks _ _ _ (fun c hc=>hs c (ae _ hc)) (by omega) (by simp;omega) ?_;simpa only [I0,ea]using h
  ·have ea:N8 ks (step k c)=ks++[step k c]:=Z8w hm;rw [aG (by simp [hm])];refine⟨_,rfl,_,rfl,_,rfl,_,rfl,en (step k c),key (step k c),rfl,hk _,szl (by simp [kvm,U7];omega),?_⟩;have ep:R9 (kvm key (U7 ks)) (key (step k c)) (.int (ks.length:Int))=kvm key (U7 (ks++[step k c])):=by
    rw [Z3o inj (by rw [Y2y];exact hm),W5j]
   refine⟨_,rfl,_,rfl,_,rfl,szl (by simp;omega),?_⟩;refine⟨_,rfl,_,rfl,_,rfl,en (step k c),key (step k c),.int (((ks++[step k c]).idxOf (step k c):Nat):Int),rfl,hk _,?_,_,rfl,szl (by simp;omega),?_⟩
   ·rw [ac,ep,Q3x inj];exact Y2z (by simp)
   ·have e:(r.map iD++[D.int (((ks++[step k c]).idxOf (step k c):Nat):Int)])=(r++[(ks++[step k c]).idxOf (step k c)]).map iD:=by simp
    have e2:(ks.map fun a=>en a)++[en (step k c)]=(ks++[step k c]).map fun a=>en a:=by simp
    show D1 _ _ _ _ [_,_,some (.own ((ks.map fun a=>en a)++[en (step k c)])),some (.dk (R9 (kvm key (U7 ks)) (key (step k c)) (.int ((ks.map fun a=>en a).length:Int)))),_,_,some (.own (r.map iD++[_])),_,_];rw [e,e2,ac,ep];refine ih _ _ _ _ (fun c hc=>hs c (ae _ hc)) (by simp;omega) (by simp;omega) ?_;simpa only [I0,ea]using h
def wtK:WT:=(A2 (L9 fun i j=>decide (i<j)) (E4 F4 (A4 (wV 4) A6)) (E4 F4 (A4 (wV 2) A6)))
def wlK (dQ:Q2):WS:=(A7 (C2 5 (A2 B1 (wV 2) (E4 F4 (A4 (wV 4) A6)))) (A7 (C2 6 (M3 A6)) (A7 (K4 (Q1z (A4 (E4 F4 (A4 (wC (.str "01ab")) A6)) A6)) (B5 7) (wbK dQ)) (P2 4 (B7 (E4 Y0 (A4 (wV 6) A6)))))))
theorem V3l (hk:∀a,Q8 (en a)=some (key a))(inj:∀a b,key a=key b->a=b)(hF:FC 2 f Φ sp){start:α}{U:List α}{E:F6}{o0:Option Sl}(hU:∀k∈U,∀c∈B2,step k c∈U)(hl:U.length<=100000)
  (hs:∀k∈U,∀c∈B2,sp [.st ((en k)),.st (iD c)] (.st ((en (step k c))))):∀(n:Nat) (ks:List α) (rs:List (List Nat)) (o5 o6 o7 o8:Option Sl),Y3 step start U ks rs->U.length<=n+rs.length ->
  (∀o5 o6 o7 o8,E.nx [o0,some (.cl f Φ),some (.own ((P9 step n ks rs).1.map fun a=>(en a))),some (.dk (kvm key (U7 (P9 step n ks rs).1))),some (.own ((P9 step n ks rs).2.map rD)),o5,o6,o7,o8]) ->
  J4 wtK (wlK FC) (n+1) E [o0,some (.cl f Φ),some (.own (ks.map fun a=>(en a))),some (.dk (kvm key (U7 ks))),some (.own (rs.map rD)),o5,o6,o7,o8]:=by
 intro n
 induction n with
 | zero =>
  intro ks rs o5 o6 o7 o8 W hn h;have b:=W.bound;simp only [J4,wtK,D3,N5,D2,B0,C6];refine⟨_,rfl,_,rfl,?_⟩;simp only [V3,Q1e,Q2d,ac];rw [az (by simp;omega)];exact h _ _ _ _
 | succ n ih =>
  intro ks rs o5 o6 o7 o8 W hn h;have b:=W.bound;have fX:=W.len;rw [J4];simp only [wtK,D3,N5,D2,B0,C6];refine⟨_,rfl,_,rfl,?_⟩;simp only [V3,Q1e,Q2d,ac]
  by_cases bU:rs.length<ks.length
  ·rw [aG (by simpa using bU)];have fe:ks[rs.length]?=some ks[rs.length]:=aa bU;have kin:=bQ bU;generalize ks[rs.length]=k at fe kin;have W2:=W.next hU fe;have b2:=W2.bound;simp only [wlK,C8,F8,D3,N5,D2,B0,C6,s_lst,S1,Z5d,D8,Q2h,E8];refine⟨_,rfl,_,rfl,?_⟩;simp only [V3,Q1e,Q1d];refine⟨(en k),by rw [ac];exact V9 (by rw [af,fe];rfl),?_⟩;refine⟨_,rfl,sz (by simp),?_⟩;rw [O8,Z4i];refine⟨sz (by decide),_,rfl,by decide,by decide,?_⟩;rw [r4];have hW:=h;rw [P9,fe]at hW;refine forK hk inj hF (o0:=o0) (o4:=some (.own (rs.map rD))) B2 ks [] _ _ (hs k (W.sub k kin)) (by simp;omega) (by simp) fun o7 o8=>?_;simp only [L6,O8,Q9r,Q7g,Y3e];refine⟨_,rfl,_,rfl,_,rfl,_,rfl,szl (by simp;omega),?_⟩;have e:rs.map rD++[D.tup ((I0 (step k) B2 ks []).2.map iD)]=(rs++[(I0 (step k) B2 ks []).2]).map rD:=by simp
   show J4 wtK (wlK FC) (n+1) E [_,_,_,_,some (.own (rs.map rD++[D.tup ((I0 (step k) B2 ks []).2.map iD)])),_,_,_,_];rw [e];exact ih _ _ _ _ _ _ W2 (by simp;omega) hW
  ·rw [az (by simpa using bU)];have e:ks[rs.length]?=none:=aw.mpr (by omega);rw [P9,e]at h;exact h _ _ _ _
def Q5v (FC:Q2):D9:=fun rs r=>∃(α:Type) (_:DecidableEq α) (en:α->D) (key:α->B8) (step:α->Nat->α) (start:α) (U:List α) (f:Addr) (Φ:Hp->Prop) (sp:D9),
 (∀a,Q8 (en a)=some (key a))/\(∀a b,key a=key b->a=b)/\rs=[.st ((en start)),.cl f Φ]/\FC 2 f Φ sp/\start∈U/\U.length<=100000/\(∀k∈U,∀c∈B2,step k c∈U/\sp [.st ((en k)),.st (iD c)] (.st ((en (step k c))))) /\
 r=.st (.tup [.lst ((X0 U.length step start).1.map fun a=>(en a)),rsD (X0 U.length step start).2])
def W9r {FC:Q2}:∀rs r,rs.length=2->Q5v FC rs r->Z7p FC (P3 r) (E9 Y8k rs):=by
 rintro rs r _ ⟨α,_,en,key,step,start,U,f,Φ,sp,hk,inj,rfl,hF,hs,hl,hU,rfl⟩;have l2:(2:Nat)<=sizeLine:=by decide
 unfold Z7p;simp only [C8,F8,s_lst,D2,E8,B0,C6,Y4k,D8,Z5c,Q6,s_tup,N5];refine⟨_,rfl,_,rfl,sz (by simp),?_⟩;refine⟨(by decide:3<9),_,rfl,en start,key start,rfl,hk _,_,rfl,_,rfl,sz (by simp),?_⟩;refine⟨U.length+1,?_⟩;refine V3l hk inj hF (step:=step) (start:=start) (U:=U) (fun k h c hc=>(hU k h c hc).1) hl (fun k h c hc=>(hU k h c hc).2) U.length [start] [] _ _ _ _ (Y3.start hs) (by simp) fun o5 o6 o7 o8=>?_;refine⟨_,rfl,_,rfl,_,rfl,?_⟩;simp only [Q5,V3,Q9r,Q7g,Y3e];refine⟨_,rfl,_,rfl,l2,rfl⟩
end T
end
abbrev ik (n:Nat):B8:=.inl (n:Int)
def Q4y (a b:Nat)(h:ik a=ik b):a=b:=by
 have:(a:Int)=(b:Int):=Sum.inl.inj h;omega
abbrev kR (R:List (Nat×Nat)):List (B8×D):=kvm ik (R.map fun q=>(q.1,iD q.2))
def T6 (R:List (Nat×Nat))(g d:Nat):List (Nat×Nat):=if g∈R.map (·.1)then R else R++[(g,d)]
def goR (d:Nat):List Nat->List (Nat×Nat)->List (Nat×Nat)
 | [],R=>R
 | g::gs,R=>goR d gs (T6 R g d)
def Q1g (on:List (List Nat)):Nat->List (Nat×Nat)->Nat->List (Nat×Nat)
 | 0,R,_=>R
 | n+1,R,p=>match R[p]? with
  | none=>R
  | some q=>Q1g on n (goR (q.2+1) (on[q.1]?.getD []) R) (p+1)
def T1 (on:List (List Nat))(xs:List Nat):List (Nat×Nat):=Q1g on on.length (xs.map fun x=>(x,0)) 0
def Z3n (R:List (Nat×Nat)):(R.map fun q=>(q.1,iD q.2)).map (·.1)=R.map (·.1):=by simp
def Z8u (R:List (Nat×Nat))(g d:Nat):R <+: T6 R g d:=by
 unfold T6;split
 ·exact bE _
 ·exact eQ _ _
theorem Z3b (d:Nat):∀(gs:List Nat) (R:List (Nat×Nat)),R <+: goR d gs R
 | [],R=>bE _
 | g::gs,R=>(Z8u R g d).trans (Z3b d gs _)
def Y8o {R:List (Nat×Nat)}{g d:Nat}(h:(R.map (·.1)).Nodup):((T6 R g d).map (·.1)).Nodup:=by
 unfold T6;split
 ·exact h
 ·rename_i n;rw [aU,be];exact⟨h,by simp,fun a ha b hb=>by
   simp at hb;rintro rfl;exact n (hb ▸ ha)⟩
theorem Y1h {d:Nat}:∀(gs:List Nat) (R:List (Nat×Nat)),(R.map (·.1)).Nodup->((goR d gs R).map (·.1)).Nodup
 | [],R,h=>h
 | g::gs,R,h=>Y1h gs _ (Y8o h)
def Z3u {R:List (Nat×Nat)}{g d:Nat}{q:Nat×Nat}(h:q∈T6 R g d):q∈R\/q=(g,d):=by
 unfold T6 at h;split at h
 ·exact .inl h
 ·simpa using h
theorem Q9l {d:Nat}{q:Nat×Nat}:∀(gs:List Nat) (R:List (Nat×Nat)),q∈goR d gs R->q∈R\/∃g∈gs,q=(g,d)
 | [],R,h=>.inl h
 | g::gs,R,h=>by
  rcases Q9l gs _ h with h | ⟨g',h1,h2⟩
  ·rcases Z3u h with h | h
   ·exact .inl h
   ·exact .inr ⟨g,by simp,h⟩
  ·exact .inr ⟨g',by simp [h1],h2⟩
structure Q0m (n:Nat)(R:List (Nat×Nat)):Prop where
 nd:(R.map (·.1)).Nodup
 lt:∀q∈R,q.1<n
def Q0m.bound {n:Nat}{R:List (Nat×Nat)}(h:Q0m n R):R.length<=n:=by
 have:=h.nd.length_le_of_subset (l₂:=List.range n) fun x hx=>by
  obtain⟨q,hq,rfl⟩:=ah.mp hx;exact aK.mpr (h.lt q hq)
 simpa using this
def Q0m.go {n d:Nat}{R:List (Nat×Nat)}{gs:List Nat}(h:Q0m n R)(hg:∀g∈gs,g<n):Q0m n (goR d gs R) :=
 ⟨Y1h gs R h.nd,fun q hq=>by
  rcases Q9l gs R hq with h' | ⟨g,h1,rfl⟩
  ·exact h.lt q h'
  ·exact hg g h1⟩
def V3g {R:List (Nat×Nat)}(nd:(R.map (·.1)).Nodup){s d:Nat}(h:(s,d)∈R):J1 (kR R) (ik s)=some (iD d):=by
 rw [Q3x Q4y];exact Y6w (by rw [Z3n];exact nd) (ah.mpr ⟨_,h,rfl⟩)
def W2r (R:List (Nat×Nat))(g:Nat):(J1 (kR R) (ik g)).isSome=decide (g∈R.map (·.1)):=by
 rw [Q3x Q4y,Z6g,Z3n]
def Y3s {R:List (Nat×Nat)}{g d:Nat}(h:g∉R.map (·.1)):R9 (kR R) (ik g) (iD d)=kR (R++[(g,d)]):=by
 rw [Z3o Q4y (by rw [Z3n];exact h)];simp [kR]
theorem Y0h {Q:List (B8×D)->Prop}:∀(xs:List Nat) (R:List (Nat×Nat)) (o:Option Sl),(R.map (·.1)++xs).Nodup->Q (kR (R++xs.map fun x=>(x,0))) ->
  V1 (B5 0) (wV 0) (B7 (wC (.int 0))) (xs.map iD) [o] (kR R) Q
 | [],R,o,_,h=>by simpa [V1]using h
 | x::xs,R,o,nd,h=>by
  have nx:x∉R.map (·.1):=fun z=>by
   have:=(be.mp nd).2.2 x z x (by simp);exact this rfl
  rw [am,V1];simp only [M6,B0,E8,D8];refine⟨_,rfl,iD x,ik x,rfl,rfl,_,rfl,?_⟩;have e:=Y3s (d:=0) nx;show V1 _ _ _ _ _ (R9 (kR R) (ik x) (iD 0)) _;rw [e];refine Y0h xs _ _ (by simpa using nd) ?_;simpa using h
abbrev llD (on:List (List Nat)):D:=.lst (on.map fun l=>.lst (l.map iD))
def wbR:WS:=(N6 (Q3k 2 (wV 6)) (A7 (Q3l 2 (wV 6) (A2 G5 (Q1m 2 (wV 5)) (wC (.int 1)))) (P2 3 (B7 (wV 6)))) M7)
theorem forR {s d n:Nat}{E:F6}{o0 o1 o4:Option Sl}(hn:n<=100000):∀(gs:List Nat) (R:List (Nat×Nat)) (o6:Option Sl),Q0m n R->(s,d)∈R->(∀g∈gs,g<n) ->
  (∀o6,E.nx [o0,o1,some (.dk (kR (goR (d+1) gs R))),some (.own ((goR (d+1) gs R).map fun q=>iD q.1)),o4,some (.dat (iD s)),o6]) ->
  D1 (B5 6) wbR E (gs.map iD) [o0,o1,some (.dk (kR R)),some (.own (R.map fun q=>iD q.1)),o4,some (.dat (iD s)),o6]
 | [],R,o6,_,_,_,h=>h o6
 | g::gs,R,o6,hI,hs,hg,h=>by
  have b:=hI.bound;have ih:=forR (s:=s) (d:=d) (E:=E) (o0:=o0) (o1:=o1) (o4:=o4) hn gs;have kG:Q0m n (T6 R g (d+1)):=hI.go (d:=d+1) (gs:=[g]) (by simpa using hg g (by simp));have fv:(s,d)∈T6 R g (d+1):=(Z8u R g (d+1)).subset hs;have b2:=kG.bound;rw [am,D1];simp only [wbR,M6,W6,Z5g,B0,C8,Z5h,D3,Z0c,D8,Q2h,E8,V4];refine⟨_,rfl,_,rfl,iD g,ik g,rfl,rfl,?_⟩;rw [W2r]
  by_cases hm:g∈R.map (·.1)
  ·have ea:T6 R g (d+1)=R:=aG hm;rw [az (by simpa using hm)];refine ih R _ hI hs (fun g' h'=>hg g' (by simp [h'])) ?_;simpa only [goR,ea]using h
  ·have ea:T6 R g (d+1)=R++[(g,d+1)]:=az hm;rw [aG (by simpa using hm)];refine⟨_,rfl,_,rfl,iD s,ik s,iD d,rfl,rfl,V3g hI.nd hs,?_⟩;rw [Q1c];refine⟨_,rfl,_,rfl,_,rfl,iD g,ik g,rfl,rfl,szl (by simp [kvm];omega),_,rfl,_,rfl,_,rfl,szl (by simp;omega),?_⟩;have e1:R9 (kR R) (ik g) (.int ((d:Int)+1))=kR (T6 R g (d+1)):=by
    rw [ea,<- Y3s hm];rfl
   have e2:(R.map fun q=>iD q.1)++[iD g]=(T6 R g (d+1)).map fun q=>iD q.1:=by rw [ea];simp
   show D1 _ _ _ _ [_,_,some (.dk (R9 (kR R) (ik g) (.int ((d:Int)+1)))),some (.own ((R.map fun q=>iD q.1)++[iD g])),_,_,_];rw [e1,e2];exact ih _ _ kG fv (fun g' h'=>hg g' (by simp [h'])) h
def wtR:WT:=(A2 (L9 fun i j=>decide (i<j)) (wV 4) (E4 F4 (A4 (wV 3) A6)))
def wlR:WS:=(A7 (C2 5 (A2 B1 (wV 3) (wV 4))) (A7 (K4 (W1 (B7 (A2 B1 (wV 1) (wV 5)))) (B5 6) wbR) (V6 4 (G7 NoC fun i j=>i+j) (wC (.int 1)))))
theorem V3n {on:List (List Nat)}{E:F6}{o0:Option Sl}(iI:∀l∈on,∀g∈l,g<on.length)(hl:on.length<=100000):∀(n:Nat) (R:List (Nat×Nat)) (p:Nat) (o5 o6:Option Sl),Q0m on.length R->on.length<=n+p ->
  (∀o4 o5 o6,E.nx [o0,some (.dat (llD on)),some (.dk (kR (Q1g on n R p))),some (.own ((Q1g on n R p).map fun q=>iD q.1)),o4,o5,o6]) ->
  J4 wtR wlR (n+1) E [o0,some (.dat (llD on)),some (.dk (kR R)),some (.own (R.map fun q=>iD q.1)),some (.dat (iD p)),o5,o6]:=by
 intro n
 induction n with
 | zero =>
  intro R p o5 o6 hI hp h;have b:=hI.bound;simp only [J4,wtR,D3,N5,D2,B0,C6];refine⟨_,rfl,_,rfl,?_⟩;simp only [Q5,V3,Q1e,Q2d,ac];rw [az (by simp;omega)];exact h _ _ _
 | succ n ih =>
  intro R p o5 o6 hI hp h;have b:=hI.bound;rw [J4];simp only [wtR,D3,N5,D2,B0,C6];refine⟨_,rfl,_,rfl,?_⟩;simp only [Q5,V3,Q1e,Q2d,ac]
  by_cases bU:p<R.length
  ·rw [aG (by simpa using bU)];have fe:R[p]?=some R[p]:=aa bU;have kin:=bQ bU;generalize R[p]=q at fe kin;obtain⟨s,d⟩:=q;have hs:s<on.length:=hI.lt _ kin;have fY:on[s]?=some on[s]:=aa hs;have jg:=iI _ (bQ hs);simp only [wlR,C8,F8,D3,B0,S1,Q5q,E8,Q5p,D8];refine⟨_,rfl,_,rfl,?_⟩;rw [V3,Q5,Q1d];refine⟨iD s,V9 (by rw [af,fe];rfl),_,rfl,_,rfl,?_⟩;rw [Q5];simp only [Q5,Z4g];refine⟨.lst (on[s].map iD),V9 (by rw [af,fY];rfl),_,rfl,?_⟩;rw [Q1g,fe]at h;simp only [fY]at h;refine forR (n:=on.length) (d:=d) hl on[s] R _ hI kin jg fun o6=>?_;refine⟨_,rfl,trivial,?_⟩;have e:((p:Int)+1)=((p+1:Nat):Int):=by omega
   show J4 wtR wlR (n+1) E [_,_,_,_,some (.dat (.int ((p:Int)+1))),_,_];rw [e];exact ih _ _ _ _ (hI.go jg) (by omega) h
  ·rw [az (by simpa using bU)];have e:R[p]?=none:=aw.mpr (by omega);rw [Q1g,e]at h;exact h _ _ _
def sp_all_reached (K:Fg9):Q1:=fun rs Pr=>∃(xs:List Nat) (on:List (List Nat)),rs=[.bw (xs.map iD),.st (llD on)]/\xs.Nodup/\(∀x∈xs,x<on.length)/\(∀l∈on,∀g∈l,g<on.length)/\on.length<=100000/\∀a,Pr (.cl a (FzD K a (kR (T1 on xs))))
def W4r {K:Fg9}:Q2p (sp_all_reached K):=by rintro rs P Q f ⟨xs,on,e,h1,h2,h3,h4,h5⟩;exact⟨xs,on,e,h1,h2,h3,h4,fun a=>f _ (h5 a)⟩
def W8w {K:Fg9}:∀rs Pr,rs.length=2->sp_all_reached K rs Pr->Z6v K (T5 Pr) (E9 Z1g rs):=by
 rintro rs Pr _ ⟨xs,on,rfl,nd,hx,iI,hl,h⟩;have hI:Q0m on.length (xs.map fun x=>(x,0)):=⟨by simpa [Function.comp_def]using nd,fun q hq=>by
  obtain⟨x,h1,rfl⟩:=ah.mp hq;exact hx x h1⟩
 have b:=hI.bound;rw [ac]at b;unfold Z6v;simp only [C8,V0q,Z0b,B0,F8,N5,D2,C6,D8,V0w];refine⟨_,rfl,_,rfl,szl (by simp;omega),?_⟩;refine Y0h xs [] _ (by simpa using nd) ?_;refine⟨_,rfl,?_⟩;have el:(kR ([]++xs.map fun x=>(x,0))).map (fun p=>kyD p.1)=((xs.map fun x=>(x,0)).map fun q=>iD q.1):=by simp [kvm,kyD]
 show Q3z [.dk _] _;rw [V0t,el,bX];simp only [L6,O8];refine⟨on.length+1,?_⟩;refine V3n iI hl on.length (xs.map fun x=>(x,0)) 0 _ _ hI (by omega) fun o4 o5 o6=>?_;exact⟨_,rfl,h⟩
structure Wf (es:List Bool)(rows:List (List Nat)):Prop where
 len:rows.length=es.length
 pos:0<es.length
 r4:∀r∈rows,r.length=4
 lt:∀r∈rows,∀x∈r,x<es.length
def Y4 (B:List (List Nat))(g s:Nat):List (List Nat):=B.set g (B.getD g []++[s])
def Q1u (s:Nat):List Nat->List (List Nat)->List (List Nat)
 | [],B=>B
 | g::gs,B=>Q1u s gs (Y4 B g s)
def Q1t:Nat->List (List Nat)->List (List Nat)->List (List Nat)
 | _,[],B=>B
 | s,r::rs,B=>Q1t (s+1) rs (Q1u s r B)
def K6 (rows:List (List Nat)):List (List Nat):=Q1t 0 rows (rows.map fun _=>[])
abbrev lls (B:List (List Nat)):List (List D):=B.map fun l=>l.map iD
def Z1t (B:List (List Nat))(g s:Nat):(Y4 B g s).length=B.length:=by simp [Y4]
theorem Q8o {s:Nat}:∀(gs:List Nat) (B:List (List Nat)),(Q1u s gs B).length=B.length
 | [],B=>rfl
 | g::gs,B=>by rw [Q1u,Q8o gs,Z1t]
theorem Z9e:∀(rs:List (List Nat)) (s:Nat) (B:List (List Nat)),(Q1t s rs B).length=B.length
 | [],s,B=>rfl
 | r::rs,s,B=>by rw [Q1t,Z9e rs,Q8o]
def Y2f (B:List (List Nat))(g:Nat):(lls B).getD g []=(B.getD g []).map iD:=by
 rw [ak,ak,af];cases B[g]? <;> rfl
def W4a (B:List (List Nat))(g s:Nat):(lls B).set g ((lls B).getD g []++[iD s])=lls (Y4 B g s):=by
 rw [Y2f];unfold Y4 lls;rw [List.map_set];simp
theorem Y1g {B:List (List Nat)}{m g:Nat}(h:∀l∈B,l.length<=m):(B.getD g []).length<=m:=by
 rw [ak];cases e:B[g]? with
 | none=>simp
 | some l=>exact h l (aB e)
def Z8t {B:List (List Nat)}{m g s:Nat}(h:∀l∈B,l.length<=m):∀l∈Y4 B g s,l.length<=m+1:=by
 intro l hl;rcases List.mem_or_eq_of_mem_set hl with h' | rfl
 ·exact Nat.le_succ_of_le (h l h')
 ·have:=Y1g (g:=g) h;rw [ai,bh];omega
theorem Z9f {s:Nat}:∀(gs:List Nat) (B:List (List Nat)) (m:Nat),(∀l∈B,l.length<=m)->∀l∈Q1u s gs B,l.length<=m+gs.length
 | [],B,m,h=>h
 | g::gs,B,m,h=>fun l hl=>by
  have:=Z9f gs _ (m+1) (Z8t h) l hl;simp;omega
def W4l {B:List (List Nat)}{g s i x:Nat}(hx:x∈(Y4 B g s).getD i []):x∈B.getD i []\/(i=g/\x=s):=by
 unfold Y4 at hx;rw [ak,List.getElem?_set]at hx
 by_cases h:g=i
 ·subst h
  by_cases hl:g<B.length
  ·rw [aG rfl,aG hl]at hx;rcases aR.mp (show x∈B.getD g []++[s]from hx)with h | h
   ·exact .inl h
   ·exact .inr ⟨rfl,by simpa using h⟩
  ·rw [aG rfl,az hl]at hx;cases hx
 ·rw [az h]at hx;exact .inl (by rw [ak];exact hx)
def W4n {B:List (List Nat)}{g s i x:Nat}(hx:x∈B.getD i []):x∈(Y4 B g s).getD i []:=by
 unfold Y4;rw [ak]at hx ⊢;rw [List.getElem?_set]
 by_cases h:g=i
 ·subst h
  by_cases hl:g<B.length
  ·rw [aG rfl,aG hl];exact b9 _ (by rw [ak];exact hx)
  ·rw [aw.mpr (by omega)]at hx;cases hx
 ·rw [az h];exact hx
def W4m {B:List (List Nat)}{g s:Nat}(hl:g<B.length):s∈(Y4 B g s).getD g []:=by
 unfold Y4;rw [ak,List.getElem?_set,aG rfl,aG hl];exact aC _ (by simp)
theorem Y2m {s i x:Nat}:∀(gs:List Nat) (B:List (List Nat)),(∀g∈gs,g<B.length)->(x∈(Q1u s gs B).getD i [] ↔ x∈B.getD i []\/(i∈gs/\x=s))
 | [],B,_=>by simp [Q1u]
 | g::gs,B,h=>by
  rw [Q1u,Y2m gs _ (fun g' h'=>by rw [Z1t];exact h g' (by simp [h']))];constructor
  ·rintro (h' | ⟨h1,h2⟩)
   ·rcases W4l h' with h' | ⟨h1,h2⟩
    ·exact .inl h'
    ·exact .inr ⟨by simp [h1],h2⟩
   ·exact .inr ⟨by simp [h1],h2⟩
  ·rintro (h' | ⟨h1,rfl⟩)
   ·exact .inl (W4n h')
   ·rcases ar.mp h1 with rfl | h1
    ·exact .inl (W4m (h _ (by simp)))
    ·exact .inr ⟨h1,rfl⟩
theorem Y2l {i x:Nat}:∀(rs:List (List Nat)) (s:Nat) (B:List (List Nat)),(∀r∈rs,∀g∈r,g<B.length)->(x∈(Q1t s rs B).getD i [] ↔ x∈B.getD i []\/∃j r,rs[j]?=some r/\i∈r/\x=s+j)
 | [],s,B,_=>by simp [Q1t]
 | r::rs,s,B,h=>by
  rw [Q1t,Y2l rs _ _ (fun r' h' g hg=>by rw [Q8o];exact h r' (by simp [h']) g hg),Y2m _ _ (h r (by simp))];constructor
  ·rintro ((h' | ⟨h1,rfl⟩) | ⟨j,r',e,h1,rfl⟩)
   ·exact .inl h'
   ·exact .inr ⟨0,r,rfl,h1,rfl⟩
   ·exact .inr ⟨j+1,r',by simpa using e,h1,by omega⟩
  ·rintro (h' | ⟨j,r',e,h1,rfl⟩)
   ·exact .inl (.inl h')
   ·cases j with
    | zero=>cases e;exact .inl (.inr ⟨h1,rfl⟩)
    | succ j=>exact .inr ⟨j,r',by simpa using e,h1,by omega⟩
def Z3w {rows:List (List Nat)}(h:∀r∈rows,∀g∈r,g<rows.length){i x:Nat}:x∈(K6 rows).getD i [] ↔ ∃r,rows[x]?=some r/\i∈r:=by
 unfold K6;rw [Y2l rows 0 _ (fun r hr g hg=>by rw [ac];exact h r hr g hg)];have e0:x∉(rows.map fun _=>([]:List Nat)).getD i []:=by
  rw [ak,af];cases rows[i]? <;> simp
 constructor
 ·rintro (h' | ⟨j,r,e,h1,rfl⟩)
  ·exact absurd h' e0
  ·exact⟨r,by rw [cG];exact e,h1⟩
 ·rintro ⟨r,e,h1⟩;exact .inr ⟨x,r,e,h1,by omega⟩
def Q8n (rows:List (List Nat)):(K6 rows).length=rows.length:=by simp [K6,Z9e]
def Z9d {rows:List (List Nat)}(h:∀r∈rows,∀g∈r,g<rows.length):∀l∈K6 rows,∀x∈l,x<(K6 rows).length:=by
 intro l hl x hx;obtain⟨i,hi,rfl⟩:=bS.mp hl;have:x∈(K6 rows).getD i []:=by rw [ak,aa hi];exact hx
 obtain⟨r,e,_⟩:=(Z3w h).mp this;obtain⟨h',_⟩:=av.mp e;rw [Q8n];exact h'
def N9 (es:List Bool)(b:Bool):List Nat:=((es.zipIdx).filter fun p=>p.1==b).map (·.2)
def Z3x {es:List Bool}{b:Bool}{i:Nat}:i∈N9 es b ↔ es[i]?=some b:=by
 unfold N9;rw [ah];constructor
 ·rintro ⟨⟨c,j⟩,h,rfl⟩;rw [b8]at h;have h1:=List.mem_zipIdx_iff_getElem?.mp h.1;have h2:c=b:=by simpa using h.2
  subst h2;exact h1
 ·intro h;exact⟨(b,i),b8.mpr ⟨List.mem_zipIdx_iff_getElem?.mpr h,by simp⟩,rfl⟩
def Y0q {es:List Bool}{b:Bool}:∀x∈N9 es b,x<es.length:=fun x hx=>by
 obtain⟨h,_⟩:=av.mp (Z3x.mp hx);exact h
def Y0r {es:List Bool}{b:Bool}:(N9 es b).Nodup:=by
 have:(es.zipIdx.map (·.2)).Nodup:=by rw [List.zipIdx_map_snd];exact List.nodup_range'
 exact this.sublist (List.filter_sublist.map _)
def Z0 (R:List (Nat×Nat))(s:Nat):Option Nat:=(R.find? fun q=>decide (q.1=s)).map (·.2)
abbrev oD:Option Nat->D
 | none=>.non
 | some d=>iD d
theorem V3h (R:List (Nat×Nat))(s:Nat):(J1 (kR R) (ik s)).getD .non=oD (Z0 R s):=by
 rw [Q3x Q4y];unfold J1 Z0
 induction R with
 | nil=>rfl
 | cons q R ih =>
  rw [am,bn,bn]
  by_cases h:q.1=s
  ·simp [h]
  ·simp only [h,decide_false];exact ih
def Q6t (es:List Bool)(rows:List (List Nat))(b:Bool):List (Option Nat):=(List.range es.length).map (Z0 (T1 (K6 rows) (N9 es b)))
theorem Y0i {Q:List (List D)->Prop}:∀(ds:List D) (o:Option Sl),Q (ds.map fun _=>[])->Y7 (B5 0) (M3 A6) ds [o] Q
 | [],o,h=>h
 | d::ds,o,h=>by
  rw [Y7];simp only [M6,s_lst,C6];exact⟨_,rfl,sz (by simp),_,rfl,Y0i ds _ h⟩
@[simp] theorem nll1 {d:D}:K3 (some (.dat d))=true:=rfl
@[simp] theorem nll2:K3 none=true:=rfl
theorem forB {s:Nat}{E:F6}{a:Addr}{o0 o1 o2 o5 o7:Option Sl}(n0:K3 o0=true)(n1:K3 o1=true)(n2:K3 o2=true)(n5:K3 o5=true)(n7:K3 o7=true):∀(gs:List Nat) (B:List (List Nat)) (m:Nat) (o6:Option Sl),K3 o6=true ->
  (∀g∈gs,g<B.length)->(∀l∈B,l.length<=m)->m+gs.length<=1000000 ->
  (∀o6,K3 o6=true->E.nx [o0,o1,o2,some (.ll a (lls (Q1u s gs B))),some (.dat (iD s)),o5,o6,o7]) ->
  D1 (B5 6) (Q7w 3 (wV 6) (B7 (wV 4))) E (gs.map iD) [o0,o1,o2,some (.ll a (lls B)),some (.dat (iD s)),o5,o6,o7]
 | [],B,m,o6,n6,_,_,_,h=>h o6 n6
 | g::gs,B,m,o6,n6,hg,hm,hz,h=>by
  rw [aD]at hz;have gl:=hg g (by simp);have bd:=Y1g (g:=g) hm;rw [am,D1];simp only [M6,V0r,B0,E8];refine⟨a,lls B,rfl,?_,_,rfl,_,g,rfl,?_,_,rfl,_,rfl,?_,?_⟩
  ·show(K3 o0&&(K3 o1&&(K3 o2&&([some (.dat (iD s)),o5,some (.dat (iD g)),o7]:A9).all K3)))=true;simp [n0,n1,n2,n5,n7,nll1]
  ·rw [ac];exact ixn gl
  ·rw [Y2f,ac];exact szl (by omega)
  ·show D1 _ _ _ _ [_,_,_,some (.ll a ((lls B).set g ((lls B).getD g []++[iD s]))),_,_,_,_];rw [W4a];exact forB n0 n1 n2 n5 n7 gs _ (m+1) _ rfl (fun g' h'=>by rw [Z1t];exact hg g' (by simp [h'])) (Z8t hm) (by omega) h
theorem Y1b {E:F6}{a:Addr}{o0 o1 o2 o7:Option Sl}(n0:K3 o0=true)(n1:K3 o1=true)(n2:K3 o2=true)(n7:K3 o7=true):∀(rs:List (List Nat)) (s:Nat) (B:List (List Nat)) (m:Nat) (o4 o5 o6:Option Sl),K3 o4=true->K3 o5=true->K3 o6=true ->
  (∀r∈rs,r.length=4/\∀g∈r,g<B.length)->(∀l∈B,l.length<=m)->m+4*rs.length<=1000000 ->
  (∀o4 o5 o6,K3 o4=true->K3 o5=true->K3 o6=true->E.nx [o0,o1,o2,some (.ll a (lls (Q1t s rs B))),o4,o5,o6,o7]) ->
  D1 (gTp 2 (J5 (B5 4) (J5 (B5 5) gNl))) (K4 (Q6x (wV 5)) (B5 6) (Q7w 3 (wV 6) (B7 (wV 4)))) E ((rs.zipIdx s).map fun p=>.tup [.int (p.2:Int),rD p.1]) [o0,o1,o2,some (.ll a (lls B)),o4,o5,o6,o7]
 | [],s,B,m,o4,o5,o6,n4,n5,n6,_,_,_,h=>h o4 o5 o6 n4 n5 n6
 | r::rs,s,B,m,o4,o5,o6,n4,n5,n6,hg,hm,hz,h=>by
  rw [aD]at hz;obtain⟨l4,gl⟩:=hg r (by simp);rw [List.zipIdx_cons,am,D1];simp only [Q3d,Q3b,M6,Q3c,S1,V0m,B0];refine⟨_,rfl,rfl,_,_,rfl,_,_,rfl,rfl,_,rfl,_,rfl,?_⟩;refine forB n0 n1 n2 (o5:=some (.dat (rD r))) rfl n7 r B m o6 n6 gl hm (by omega) fun o6 n6=>?_;exact Y1b n0 n1 n2 n7 rs (s+1) _ (m+4) _ _ _ rfl rfl n6 (fun r' h'=>⟨(hg r' (by simp [h'])).1,fun g h2=>by rw [Q8o];exact(hg r' (by simp [h'])).2 g h2⟩)
   (by have:=Z9f (s:=s) r B m hm;rw [l4]at this;exact this) (by omega) h
theorem Z2p {b:Bool}{Q:List D->Prop}:∀(es:List Bool) (n:Nat) (o0 o1:Option Sl),Q (((es.zipIdx n).filter fun p=>p.1==b).map fun p=>iD p.2) ->
  O4 (gTp 2 (J5 (B5 0) (J5 (B5 1) gNl))) (A2 (P6 60 false) (wV 1) (wV 2)) (B7 (wV 0)) ((es.zipIdx n).map fun p=>.tup [.int (p.2:Int),.bl p.1]) [o0,o1,some (.dat (.bl b))] Q
 | [],n,o0,o1,h=>h
 | e::es,n,o0,o1,h=>by
  rw [List.zipIdx_cons,am,O4];simp only [Q3d,Q3b,M6,Q3c,D3,B0,E8];refine⟨_,rfl,rfl,_,_,rfl,_,_,rfl,rfl,_,rfl,_,rfl,?_⟩;simp only [Q5,o_eq,o_d1];refine⟨_,_,rfl,rfl,by simp [D.depth],?_⟩;rw [List.zipIdx_cons,cH]at h
  by_cases hb:e=b
  ·subst hb;simp only [BEq.rfl,gT]at h;simp only [o_e3,BEq.rfl,gT,eO,cV];exact⟨_,rfl,_,rfl,Z2p es (n+1) _ _ h⟩
  ·have gQ:(e==b)=false:=by simpa using hb
   simp only [gQ,cV,eO]at h;simp only [o_e3,gQ,eO,cV];exact Z2p es (n+1) _ _ h
def S6 (ra:R)(es:List Bool):Prop:=ra=.bw (es.map .bl)\/ra=.st (.tup (es.map .bl))
def S6.rd {ra:R}{es:List Bool}(h:S6 ra es):rdS (R4 ra)=ra:=by rcases h with rfl | rfl <;> rfl
def S6.nll {ra:R}{es:List Bool}(h:S6 ra es):K3 (some (R4 ra))=true:=by rcases h with rfl | rfl <;> rfl
def S6.sq {ra:R}{es:List Bool}(h:S6 ra es):Q4j ra=some (es.map .bl):=by rcases h with rfl | rfl <;> rfl
def S6.len {ra:R}{es:List Bool}(h:S6 ra es){Q:R->Prop}:F4 [ra] Q=Q (.st (.int (es.length:Int))):=by
 rcases h with rfl | rfl
 ·rw [Q1e,ac]
 ·rw [Z4h,ac]
def RwD (d:D)(rows:List (List Nat)):Prop:=d=rsD rows\/d=.lst (rows.map rD)
def RwD.j {d:D}{rows:List (List Nat)}(h:RwD d rows){τ:A9}{i:Nat}(e:τ[i]?=some (some (.dat d))){Q:List D->Prop}(q:Q (rows.map rD)):jOr (Q0v (wV i)) (Q2w (wV i)) τ Q:=by
 rcases h with rfl | rfl
 ·exact .inl ⟨_,e,_,rfl,q⟩
 ·exact .inr ⟨_,e,_,rfl,q⟩
def RwD.i {d:D}{rows:List (List Nat)}(h:RwD d rows){τ:A9}{i:Nat}(e:τ[i]?=some (some (.dat d))){Q:List D->A9->Prop}(q:Q (G6 (rows.map rD)) τ):iOr (Q4x (A4 (wV i) A6)) (Q6w (A4 (wV i) A6)) τ Q:=by
 rcases h with rfl | rfl
 ·exact .inl ⟨_,e,.inr ⟨_,rfl,q⟩⟩
 ·exact .inr ⟨_,e,_,rfl,q⟩
def Q4f:Q1:=fun rs Pr=>∃ra es rows b d,rs=[ra,.st d,.st (.bl b)]/\RwD d rows/\S6 ra es/\Wf es rows/\es.length<=20000/\Pr (.nw ((Q6t es rows b).map oD))
def W4s:Q2p Q4f:=by rintro rs P Q f ⟨ra,es,rows,b,d,e,h0,h1,h2,h3,h4⟩;exact⟨ra,es,rows,b,d,e,h0,h1,h2,h3,f _ h4⟩
def W8z {K:Fg9}:∀rs Pr,rs.length=3->Q4f rs Pr->Z6w K (sp_all_reached K) (T5 Pr) (E9 Q6i rs):=by
 rintro rs Pr _ ⟨ra,es,rows,b,d,rfl,hd,ha,wf,hl,h⟩;have wl:=wf.len;have bU:∀r∈rows,∀g∈r,g<rows.length:=fun r hr g hg=>by rw [wl];exact wf.lt r hr g hg
 unfold Z6w;simp only [C8,V0s,Q4d,B0,V0i,S1,Y4g,D2,C6,V0x,Q4c,X8,Y4j,Q6,Z5f,N5];refine hd.j rfl ⟨sz (by simp;omega),?_⟩;refine Y0i _ _ fun a=>?_;refine hd.i rfl ?_;have e1:G6 (rows.map rD)=(rows.zipIdx 0).map fun p=>.tup [.int (p.2:Int),rD p.1]:=by
  unfold G6;rw [List.zipIdx_map,aF];rfl
 have e2:((rows.map rD).map fun _=>([]:List D))=lls (rows.map fun _=>[]):=by simp [lls]
 rw [e1,e2];refine Y1b (o0:=some (R4 ra)) (o1:=some (.dat d)) (o2:=some (.dat (.bl b))) (o7:=none) ha.nll rfl rfl rfl rows 0 _ 0 none none none rfl rfl rfl (fun r hr=>⟨wf.r4 r hr,fun g hg=>by rw [ac];exact bU r hr g hg⟩) (fun l hl=>by simp at hl;simp [hl.2]) (by omega) fun o4 o5 o6 n4 n5 n6=>?_;refine⟨a,_,rfl,?_,?_⟩
 ·show(K3 _&&(K3 _&&(K3 _&&([o4,o5,o6,none]:A9).all K3)))=true;have:=ha.nll;simp [this,n4,n5,n6,nll1,nll2]
 refine⟨_,rfl,?_⟩;show ∃r ds,[rdS (R4 ra)]=[r]/\_;refine⟨_,_,rfl,by rw [ha.rd];exact ha.sq,sz (by simp [G6];omega),?_⟩;have e3:G6 (es.map .bl)=(es.zipIdx 0).map fun p=>.tup [.int (p.2:Int),.bl p.1]:=by
  unfold G6;rw [List.zipIdx_map,aF];rfl
 rw [e3];refine Z2p es 0 _ _ ?_;refine⟨_,rfl,rfl,N9 es b,K6 rows,?_,Y0r,fun x hx=>by rw [Q8n,wl];exact Y0q x hx,Z9d bU,by rw [Q8n,wl];omega,fun a'=>?_⟩
 ·have q1:((es.zipIdx 0).filter fun p=>p.1==b).map (fun p=>iD p.2)=(N9 es b).map iD:=by unfold N9;rw [aF];rfl
  have q2:D.lst ((lls (Q1t 0 rows (rows.map fun _=>[]))).map D.lst)=llD (K6 rows):=by unfold lls llD K6;rw [aF];rfl
  show [R.bw _,R.st (.lst _)]=_;rw [q1,q2]
 refine⟨a',_,rfl,?_⟩;refine⟨_,rfl,?_⟩;show F4 [rdS (R4 ra)] _;rw [ha.rd,ha.len];refine⟨_,rfl,by omega,by omega,sz (by simp [O9];omega),?_⟩;have hf:∀i:Nat,(J1 (kR (T1 (K6 rows) (N9 es b))) (ik i)).getD .non=oD (Z0 (T1 (K6 rows) (N9 es b)) i):=V3h _;have er:O9 0 (es.length:Int).toNat=(List.range es.length).map iD:=by simp [O9]
 rw [er];refine Q0b (f:=fun d=>match d with | .int i=>(J1 (kR (T1 (K6 rows) (N9 es b))) (.inl i)).getD .non | d=>d) _ _ _ (fun d hd Q' q=>?_) ?_
 ·obtain⟨i,_,rfl⟩:=ah.mp hd;simp only [E8,V0h,B0];exact⟨a',_,rfl,_,rfl,_,ik i,rfl,rfl,q⟩
 ·rw [aF];have:(List.range es.length).map ((fun d=>match d with | .int i=>(J1 (kR (T1 (K6 rows) (N9 es b))) (.inl i)).getD .non | d=>d) ∘ iD)=(Q6t es rows b).map oD:=by
   unfold Q6t;rw [aF];exact aM fun i _=>hf i
  rw [this];exact h
abbrev A8:=List Bool×List (List Nat)
abbrev mD (m:A8):D:=.tup [.tup (m.1.map .bl),rsD m.2]
abbrev C7 (m:A8):Prop:=Wf m.1 m.2
def B3 (rows:List (List Nat))(s c:Nat):Nat:=(rows.getD s []).getD c 0
def W9z {rows:List (List Nat)}{s c:Nat}{r:List Nat}(h:rows[s]?=some r)(hc:c<r.length):r[c]?=some (B3 rows s c):=by
 unfold B3;rw [ak,ak,h,Option.getD_some,aa hc,Option.getD_some]
def Wf.row {es:List Bool}{rows:List (List Nat)}(w:Wf es rows){s:Nat}(h:s<es.length):∃r,rows[s]?=some r/\r.length=4/\∀c<4,r[c]?=some (B3 rows s c)/\B3 rows s c<es.length:=by
 have h':s<rows.length:=by rw [w.len];exact h
 have e:rows[s]?=some rows[s]:=aa h';have m:=bQ h';refine⟨_,e,w.r4 _ m,fun c hc=>?_⟩;have g:=W9z e (c:=c) (by rw [w.r4 _ m];exact hc);exact⟨g,w.lt _ m _ (aB g)⟩
def Q8s {c:Nat}(h:c∈B2):c<4:=by
 simp [B2]at h;omega
def Q5f {c:Nat}(h:c<4):c∈B2:=by
 simp [B2];omega
section
variable {α:Type}[DecidableEq α]
def Q4r (U:List α)(step:α->Nat->α)(start:α)(fin:α->Bool):A8:=((X0 U.length step start).1.map fin,(X0 U.length step start).2)
def Q1s.wf {step:α->Nat->α}{start:α}{U ks:List α}{rs:List (List Nat)}(W:Q1s step start U ks rs)(fin:α->Bool):Wf (ks.map fin) rs:=by
 have iA:∀r∈rs,∃k∈ks,r=B2.map fun c=>ks.idxOf (step k c):=fun r hr=>by
  obtain⟨i,hi,rfl⟩:=bS.mp hr;have iK:i<ks.length:=by rw [<- W.len];exact hi
  have:=W.row i _ (aa iK);rw [aa hi]at this;exact⟨_,bQ iK,aA this⟩
 refine⟨by rw [ac];exact W.len,?_,fun r hr=>?_,fun r hr x hx=>?_⟩
 ·rw [ac];obtain⟨h,_⟩:=av.mp W.zero;exact h
 ·obtain⟨k,_,rfl⟩:=iA r hr;rfl
 ·rw [ac];obtain⟨k,hk,rfl⟩:=iA r hr;obtain⟨c,hc,rfl⟩:=ah.mp hx;exact fN.mpr (W.mem k hk c hc)
def Q1s.le {step:α->Nat->α}{start:α}{U ks:List α}{rs:List (List Nat)}(W:Q1s step start U ks rs):ks.length<=U.length:=W.nd.length_le_of_subset fun x hx=>W.sub x hx
end
def O6 {b:List D}{i:Nat}{d:D}(h:b[i]?=some d){Q:R->Prop}(q:Q (.st d)):B1 (.st (.tup b)) (.st (.int (i:Int))) Q:=by
 rw [W5n];exact⟨_,V9 h,q⟩
def Q6n {es:List Bool}{i:Nat}(h:i<es.length):(es.map D.bl)[i]?=some (.bl (es.getD i false)):=by
 rw [af,ak,aa h];rfl
abbrev sD:Option Str->D
 | none=>.non
 | some t=>.str t
abbrev U1:List (Nat×Str):=[(0,"0"),(1,"1"),(2,"a"),(3,"b")]
theorem enm4:G6 (F5 "01ab")=U1.map fun p=>.tup [.int (p.1:Int),.str p.2]:=rfl
section
variable {α:Type}[DecidableEq α]
def Y5 (T:List (α×Str))(g:α)(t:Str):List (α×Str):=if g∈T.map (·.1)then T else T++[(g,t)]
def goT (st:Nat->α)(t:Str):List (Nat×Str)->List (α×Str)->List (α×Str)
 | [],T=>T
 | c::cs,T=>goT st t cs (Y5 T (st c.1) (t++c.2))
def ftN (step:α->Nat->α)(fin:α->Bool):Nat->List (α×Str)->Nat->Option Str
 | 0,_,_=>none
 | n+1,T,p=>match T[p]? with
  | none=>none
  | some q=>if fin q.1 then some q.2 else ftN step fin n (goT (step q.1) q.2 U1 T) (p+1)
def Q2v (n:Nat)(step:α->Nat->α)(start:α)(fin:α->Bool):Option Str:=ftN step fin n [(start,"")] 0
structure U8 (U:List α)(T:List (α×Str)):Prop where
 nd:(T.map (·.1)).Nodup
 sub:∀q∈T,q.1∈U
 len:∀q∈T,q.2.length<T.length
def U8.bound {U:List α}{T:List (α×Str)}(h:U8 U T):T.length<=U.length:=by
 have:=h.nd.length_le_of_subset fun x hx=>by
  obtain⟨q,hq,rfl⟩:=ah.mp hx;exact h.sub q hq
 simpa using this
def Z1w (T:List (α×Str))(g:α)(t:Str):T <+: Y5 T g t:=by
 unfold Y5;split
 ·exact bE _
 ·exact eQ _ _
def U8.add {U:List α}{T:List (α×Str)}(h:U8 U T){g k:α}{t s:Str}(hg:g∈U)(hk:(k,t)∈T)(hs:s.length=1):U8 U (Y5 T g (t++s)):=by
 unfold Y5;split
 ·exact h
 ·rename_i n;have hl:=h.len _ hk;refine⟨?_,fun q hq=>?_,fun q hq=>?_⟩
  ·rw [aU,be];exact⟨h.nd,by simp,fun a ha b hb=>by
    simp at hb;rintro rfl;exact n (hb ▸ ha)⟩
  ·rcases aR.mp hq with hq | hq
   ·exact h.sub q hq
   ·rw [aE.mp hq];exact hg
  ·rw [ai,bh];rcases aR.mp hq with hq | hq
   ·have:=h.len q hq;omega
   ·rw [aE.mp hq];show(t++s).length<_;rw [PySem.Str.length_append,hs];have hl:t.length<T.length:=hl;omega
theorem U8.go {U:List α}{st:Nat->α}{k:α}{t:Str}:∀(cs:List (Nat×Str)) (T:List (α×Str)),U8 U T->(k,t)∈T->(∀c∈cs,st c.1∈U/\c.2.length=1)->U8 U (goT st t cs T)
 | [],T,h,_,_=>h
 | c::cs,T,h,hk,hc=>U8.go cs _ (h.add (hc c (by simp)).1 hk (hc c (by simp)).2) ((Z1w _ _ _).subset hk) fun c' h'=>hc c' (by simp [h'])
def Q2t {c:Nat×Str}(h:c∈U1):c.1∈B2/\c.2.length=1:=by
 simp only [U1,ar,ba,ce]at h;rcases h with rfl | rfl | rfl | rfl <;> exact⟨by decide,rfl⟩
section T
def Z6c (T:List (α×Str)):(T.map fun q=>(q.1,D.str q.2)).map (·.1)=T.map (·.1):=by simp
end T
end
def Y6p {α:Type}{U:List α}{st:α}(h:st∈U):U8 U [(st,("":Str))]:=⟨by simp,fun q hq=>by rw [aE.mp hq];exact h,fun q hq=>by rw [aE.mp hq];show(Str.ofString "").length<1;decide⟩
abbrev Y8i:List Str:=["start","step","is_end","keys","texts","place","key","column","sign","goal"]
def Z6x (dQ:Q2)  :WS:=(A7 (C2 3 (M3 (A4 (B7 (wV 0)) A6))) (A7 (Z0v 4 (wV 0) (wC (.str ""))) (A7 (C2 5 (wC (.int 0))) (A7 (Q2k (A2 (L9 fun i j=>decide (i<j)) (wV 5) (E4 F4 (A4 (wV 3) A6))) (A7 (C2 6 (A2 B1 (wV 3) (wV 5))) (A7 (N6 (Y2 (Q3i dQ 1 2 (A4 (wV 6) A6))) (J3 (Q1m 4 (wV 6))) M7) (A7 (K4 (Q4x (A4 (wC (.str "01ab")) A6)) (gTp 2 (J5 (B5 7) (J5 (B5 8) gNl))) (A7 (C2 9 (Q3i dQ 2 1 (A4 (wV 6) (A4 (wV 7) A6)))) (N6 (Q3k 4 (wV 9)) (A7 (Q3l 4 (wV 9) (A2 G5 (Q1m 4 (wV 6)) (wV 8))) (P2 3 (B7 (wV 9)))) M7))) (V6 5 (G7 NoC fun i j=>i+j) (wC (.int 1))))))) (J3 (wC .non))))))
section
variable {α:Type}[DecidableEq α]
variable {FC:Q2}{f f2:Addr}{Φ Φ2:Hp->Prop}{sp iV:D9}{step:α->Nat->α}{fin:α->Bool}{en:α->D}{key:α->B8}
abbrev tK (key:α->B8)(T:List (α×Str)):List (B8×D):=kvm key (T.map fun q=>(q.1,.str q.2))
def Y6b (inj:∀a b,key a=key b->a=b){T:List (α×Str)}(nd:(T.map (·.1)).Nodup){k:α}{t:Str}(h:(k,t)∈T):J1 (tK key T) (key k)=some (.str t):=by
 rw [Q3x inj];exact Y6w (by rw [Z6c];exact nd) (ah.mpr ⟨_,h,rfl⟩)
def Z7q (dQ:Q2):WS:=(A7 (C2 9 (Q3i dQ 2 1 (A4 (wV 6) (A4 (wV 7) A6)))) (N6 (Q3k 4 (wV 9)) (A7 (Q3l 4 (wV 9) (A2 G5 (Q1m 4 (wV 6)) (wV 8))) (P2 3 (B7 (wV 9)))) M7))
theorem Y1c (hk:∀a,Q8 (en a)=some (key a))(inj:∀a b,key a=key b->a=b)(hF:FC 2 f Φ sp){U:List α}(hl:U.length<=100000){k:α}{t:Str}{E:F6}{o0 o2 o5:Option Sl}:∀(cs:List (Nat×Str)) (T:List (α×Str)) (o7 o8 o9:Option Sl),
  U8 U T->(k,t)∈T->(∀c∈cs,(step k c.1∈U/\c.2.length=1)/\sp [.st ((en k)),.st (iD c.1)] (.st ((en (step k c.1))))) ->
  (∀o7 o8 o9,E.nx [o0,some (.cl f Φ),o2,some (.own ((goT (step k) t cs T).map fun q=>(en q.1))),some (.dk (tK key (goT (step k) t cs T))),o5,some (.dat ((en k))),o7,o8,o9]) ->
  D1 (gTp 2 (J5 (B5 7) (J5 (B5 8) gNl))) (Z7q FC) E (cs.map fun p=>.tup [.int (p.1:Int),.str p.2]) [o0,some (.cl f Φ),o2,some (.own (T.map fun q=>(en q.1))),some (.dk (tK key T)),o5,some (.dat ((en k))),o7,o8,o9]
 | [],T,o7,o8,o9,_,_,_,h=>h o7 o8 o9
 | c::cs,T,o7,o8,o9,hI,hkt,hs,h=>by
  obtain⟨⟨hU,h1⟩,ma⟩:=hs c ag;have b:=hI.bound;have kG:=hI.add hU hkt h1;have qE:=(Z1w T (step k c.1) (t++c.2)).subset hkt;have b2:=kG.bound;have ih:=Y1c hk inj hF hl (k:=k) (t:=t) (E:=E) (o0:=o0) (o2:=o2) (o5:=o5) cs;have bD:=hI.len _ hkt;have bD:t.length<T.length:=bD;have hv:=Q3x inj (T.map fun q=>(q.1,D.str q.2)) (step k c.1);have hi:(J1 (tK key T) (key (step k c.1))).isSome=decide (step k c.1∈T.map (·.1)):=by rw [hv,Z6g,Z6c]
  rw [am,D1];simp only [Z7q,Q3d,Q3b,M6,Q3c,C8,F8,Z5b,D2,B0,C6,W6,Z5g,Z5h,Q2h,E8,V4,Z0c,D3];refine⟨_,rfl,rfl,_,_,rfl,_,_,rfl,rfl,f,Φ,sp,rfl,hF,_,rfl,_,rfl,rfl,_,ma,?_⟩;rw [L6];refine⟨_,rfl,_,rfl,en (step k c.1),key (step k c.1),rfl,hk _,?_⟩;rw [hi]
  by_cases hm:step k c.1∈T.map (·.1)
  ·have ea:Y5 T (step k c.1) (t++c.2)=T:=aG hm;rw [az (by simpa using hm)];refine ih T _ _ _ hI hkt (fun c' h'=>hs c' (ae _ h')) ?_;simpa only [goT,ea]using h
  ·have ea:Y5 T (step k c.1) (t++c.2)=T++[(step k c.1,t++c.2)]:=az hm;rw [aG (by simpa using hm)];refine⟨_,rfl,_,rfl,en k,key k,_,rfl,hk _,Y6b inj hI.nd hkt,_,rfl,?_⟩;rw [Q5,Y3b];refine⟨sz (by rw [h1];omega),_,rfl,_,rfl,_,rfl,en (step k c.1),key (step k c.1),rfl,hk _,szl (by simp [kvm];omega),_,rfl,_,rfl,_,rfl,szl (by simp;omega),?_⟩;have e1:R9 (tK key T) (key (step k c.1)) (.str (t++c.2))=tK key (Y5 T (step k c.1) (t++c.2)):=by
    rw [Z3o inj (by rw [Z6c];exact hm),ea];simp [tK]
   have e2:(T.map fun q=>en q.1)++[en (step k c.1)]=(Y5 T (step k c.1) (t++c.2)).map fun q=>en q.1:=by rw [ea];simp
   show D1 _ _ _ _ [_,_,_,some (.own ((T.map fun q=>en q.1)++[en (step k c.1)])),some (.dk (R9 (tK key T) (key (step k c.1)) (.str (t++c.2)))),_,_,_,_,_];rw [e1,e2];exact ih _ _ _ _ kG qE (fun c' h'=>hs c' (ae _ h')) h
def Z0z:WT:=(A2 (L9 fun i j=>decide (i<j)) (wV 5) (E4 F4 (A4 (wV 3) A6)))
def Z7w (dQ:Q2):WS:=(A7 (C2 6 (A2 B1 (wV 3) (wV 5))) (A7 (N6 (Y2 (Q3i dQ 1 2 (A4 (wV 6) A6))) (J3 (Q1m 4 (wV 6))) M7) (A7 (K4 (Q4x (A4 (wC (.str "01ab")) A6)) (gTp 2 (J5 (B5 7) (J5 (B5 8) gNl))) (Z7q dQ)) (V6 5 (G7 NoC fun i j=>i+j) (wC (.int 1))))))
theorem V3k (hk:∀a,Q8 (en a)=some (key a))(inj:∀a b,key a=key b->a=b)(hF:FC 2 f Φ sp)(ni:FC 1 f2 Φ2 iV){U:List α}(hl:U.length<=100000){E:F6}{o0:Option Sl}
  (hU:∀k∈U,∀c∈B2,step k c∈U/\sp [.st ((en k)),.st (iD c)] (.st ((en (step k c))))) (mW:∀k∈U,iV [.st ((en k))] (.st (.bl (fin k)))):∀(n:Nat) (T:List (α×Str)) (p:Nat) (o6 o7 o8 o9:Option Sl),U8 U T->U.length<=n+p ->
  (ftN step fin n T p=none->∀ τ,E.nx τ)->(∀t,ftN step fin n T p=some t->E.rt (.st (.str t))) ->
  J4 Z0z (Z7w FC) (n+1) E [o0,some (.cl f Φ),some (.cl f2 Φ2),some (.own (T.map fun q=>(en q.1))),some (.dk (tK key T)),some (.dat (iD p)),o6,o7,o8,o9]:=by
 intro n
 induction n with
 | zero =>
  intro T p o6 o7 o8 o9 hI hp h h2;have b:=hI.bound;simp only [J4,Z0z,D3,N5,D2,B0,C6];refine⟨_,rfl,_,rfl,?_⟩;simp only [Q5,V3,Q1e,Q2d,ac];rw [az (by simp;omega)];exact h rfl _
 | succ n ih =>
  intro T p o6 o7 o8 o9 hI hp h h2;have b:=hI.bound;rw [J4];simp only [Z0z,D3,N5,D2,B0,C6];refine⟨_,rfl,_,rfl,?_⟩;simp only [Q5,V3,Q1e,Q2d,ac]
  by_cases bU:p<T.length
  ·rw [aG (by simpa using bU)];have fe:T[p]?=some T[p]:=aa bU;have kin:=bQ bU;generalize T[p]=q at fe kin;obtain⟨k,t⟩:=q;have lf:k∈U:=hI.sub _ kin;rw [ftN,fe]at h h2;simp only [Z7w,C8,F8,D3,B0,W6,Q1h,Z5b,D2,C6,Q6,Z0c,V4,S1,Y4g,D8,Q5p];refine⟨_,rfl,_,rfl,?_⟩;rw [V3,Q5,Q1d];refine⟨(en k),V9 (by rw [af,fe];rfl),f2,Φ2,iV,rfl,ni,_,rfl,rfl,_,mW k lf,?_⟩;rw [Q5k]
   by_cases hf:fin k=true
   ·rw [aG hf];have h2:=h2 t (by show(if fin k=true then some t else _)=_;rw [aG hf]);refine⟨_,rfl,_,rfl,en k,key k,_,rfl,hk _,Y6b inj hI.nd kin,h2⟩
   ·rw [az hf];simp only [hf]at h h2;refine .inl ⟨_,rfl,?_⟩;rw [enm4];refine Y1c hk inj hF hl U1 T _ _ _ hI kin (fun c hc=>⟨⟨(hU k lf c.1 (Q2t hc).1).1,(Q2t hc).2⟩,(hU k lf c.1 (Q2t hc).1).2⟩) fun o7 o8 o9=>?_;refine⟨_,rfl,trivial,?_⟩;have e:((p:Int)+1)=((p+1:Nat):Int):=by omega
    show J4 Z0z (Z7w FC) (n+1) E [_,_,_,_,_,some (.dat (.int ((p:Int)+1))),_,_,_,_];rw [e];exact ih _ _ _ _ _ _ (U8.go U1 T hI kin fun c hc=>⟨(hU k lf c.1 (Q2t hc).1).1,(Q2t hc).2⟩) (by omega) h h2
  ·rw [az (by simpa using bU)];have e:T[p]?=none:=aw.mpr (by omega);exact h (by rw [ftN,e]) _
end
def Q5u (FC:Q2):D9:=fun rs r=>∃(α:Type) (_:DecidableEq α) (en:α->D) (key:α->B8) (step:α->Nat->α) (start:α) (fin:α->Bool) (U:List α) (f f2:Addr) (Φ Φ2:Hp->Prop) (sp iV:D9),
 (∀a,Q8 (en a)=some (key a))/\(∀a b,key a=key b->a=b)/\rs=[.st ((en start)),.cl f Φ,.cl f2 Φ2]/\FC 2 f Φ sp/\FC 1 f2 Φ2 iV/\start∈U/\U.length<=100000/\(∀k∈U,∀c∈B2,step k c∈U/\sp [.st ((en k)),.st (iD c)] (.st ((en (step k c))))) /\
 (∀k∈U,iV [.st ((en k))] (.st (.bl (fin k))))/\r=.st (sD (Q2v U.length step start fin))
def W9c {FC:Q2}:∀rs r,rs.length=3->Q5u FC rs r->Z6x FC (P3 r) (E9 Y8i rs):=by
 rintro rs r _ ⟨α,_,en,key,step,lG,fin,U,f,f2,Φ,Φ2,sp,iV,hk,inj,rfl,hF,ni,hs,hl,hU,mW,rfl⟩;unfold Z6x;simp only [C8,F8,s_lst,D2,E8,B0,C6,Y4k,D8,Q6];refine⟨_,rfl,_,rfl,sz (by simp),?_⟩;refine⟨(by decide:4<10),_,rfl,en lG,key lG,rfl,hk _,_,rfl,?_⟩;rw [L6];refine⟨U.length+1,?_⟩;refine V3k hk inj hF ni hl hU mW U.length [(lG,"")] 0 _ _ _ _ (Y6p hs) (by omega) (fun e τ=>?_) (fun t e=>?_)
 ·show R.st .non=.st (sD (Q2v _ _ _ _));unfold Q2v;rw [e]
 ·show R.st (.str t)=.st (sD (Q2v _ _ _ _));unfold Q2v;rw [e]
abbrev scr (ns:List Int):D:=.lst (ns.map D.int)
def Q1x (ns:List Int)(k:Int):Int:=if ns=[]then 7*k else(ns[(k % (ns.length:Int)).toNat]?.getD 0)+6553*(k / (ns.length:Int))
def Q7j:D9:=fun rs r=>∃ns k,rs=[.st (scr ns),.st (.int k)]/\ns.length<=63/\r=.st (.int (Q1x ns k))
def W0g (ns:List Int):D.depth (scr ns)<=60:=by
 have:D.depths (ns.map D.int)=0:=by
  induction ns with
  | nil=>simp [D.depths]
  | cons n r ih=>simp [D.depths,D.depth,ih]
 simp [D.depth,this]
def Y8v {ns:List Int}{k:Int}(h:ns≠[]):K8 (ns.map D.int) (k % (ns.length:Int))=some (.int (ns[(k % (ns.length:Int)).toNat]?.getD 0)):=by
 have hp:0<(ns.length:Int):=by have:=List.length_pos_iff.mpr h;omega
 have h0:=iq k (by omega:(ns.length:Int)≠0);have h1:=eR k hp;have bU:(k % (ns.length:Int)).toNat<ns.length:=by omega
 have e:k % (ns.length:Int)=(((k % (ns.length:Int)).toNat:Nat):Int):=by omega
 have q:K8 (ns.map D.int) (((k % (ns.length:Int)).toNat:Nat):Int)=some (.int (ns[(k % (ns.length:Int)).toNat]?.getD 0)):=V9 (by rw [af,aa bU];rfl);rw [<- e]at q;exact q
def W8y:∀rs r,rs.length=2->Q7j rs r->Z0y (P3 r) (E9 Z8i rs):=by
 rintro rs r _ ⟨ns,k,rfl,hn,rfl⟩;have hd:=W0g ns
 by_cases h:ns=[]
 ·subst h;simp [Z0y,Q2l,Q1x,hd,D.depth,D.depths]
 ·have hp:0<(ns.length:Int):=by have:=List.length_pos_iff.mpr h;omega
  simp [Z0y,Q2l,Q0j,Q1x,hd,h,Y8v h];omega
def W0 (ns:List Int)(k m:Int):Int :=
 let c:=((Q1x ns k) % 2147483563*69069+104723*(k+1)) % 2147483563;let c:=(c*c+c / 3) % 2147483399
 (c*c+c / 7) % 2147483647 / 11 % m
def Q3e:D9:=fun rs r=>∃ns k m,rs=[.st (scr ns),.st (.int k),.st (.int m)]/\ns.length<=63/\0<m/\r=.st (.int (W0 ns k m))
def W9a:∀rs r,rs.length=3->Q3e rs r->Z7b Q7j (P3 r) (E9 Z8j rs):=by
 rintro rs r _ ⟨ns,k,m,rfl,hn,hm,rfl⟩;have key:∀c:Int,0<=c->c<2147483648->Q2l c c:=fun c h1 h2=>.inl ⟨by omega,by omega⟩;simp [Z7b,Q7j,hm,hn];refine⟨_,⟨ns,k,⟨rfl,rfl⟩,hn,rfl⟩,?_⟩;have e1:=iq (Q1x ns k) (by decide:(2147483563:Int)≠0);have e2:=eR (Q1x ns k) (by decide:(0:Int)<2147483563);have b1:=iq (Q1x ns k % 2147483563*69069+104723*(k+1)) (by decide:(2147483563:Int)≠0);have b2:=eR (Q1x ns k % 2147483563*69069+104723*(k+1)) (by decide:(0:Int)<2147483563);simp only [Q7f,Z4j,Q1c,L6,Q5,W5p,W5m,W0];generalize (Q1x ns k % 2147483563*69069+104723*(k+1)) % 2147483563=c at b1 b2 ⊢;have b3:=iq (c*c+c / 3) (by decide:(2147483399:Int)≠0);have b4:=eR (c*c+c / 3) (by decide:(0:Int)<2147483399);generalize (c*c+c / 3) % 2147483399=c2 at b3 b4 ⊢;have cd:∀c:Int,Q0j c 3/\Q0j c 7/\Q0j c 11:=fun c=>⟨⟨by decide,by decide⟩,⟨by decide,by decide⟩,⟨by decide,by decide⟩⟩
 exact⟨by decide,.inl ⟨by omega,by omega⟩,.inl ⟨by decide,by decide⟩,by decide,key _ b1 (by omega),(cd c).1,by decide,key _ b3 (by omega),(cd c2).2.1,by decide,(cd _).2.2,hm,trivial⟩
def W0n (ns:List Int)(k:Int){m:Int}(h:0<m):0<=W0 ns k m:=iq _ (by omega)
def W0m (ns:List Int)(k:Int){m:Int}(h:0<m):W0 ns k m<m:=eR _ h
def drN (ns:List Int)(k:Int)(m:Nat):Nat:=(W0 ns k (m:Int)).toNat
def Q8u (ns:List Int)(k:Int){m:Nat}(h:0<m):W0 ns k (m:Int)=(drN ns k m:Int):=by
 have:=W0n ns k (m:=(m:Int)) (by omega);unfold drN;omega
def Q8v (ns:List Int)(k:Int){m:Nat}(h:0<m):drN ns k m<m:=by
 have:=W0m ns k (m:=(m:Int)) (by omega);have:=Q8u ns k h;omega
def R8 (ns:List Int)(at_:Int)(most:Nat):Nat:=1+drN ns at_ most
def Z1 (ns:List Int)(at_:Int)(most:Nat):A8 :=
 ((List.range (R8 ns at_ most)).map fun(k:Nat)=>decide (W0 ns (at_+1+(k:Int)) 2=0),(List.range (R8 ns at_ most)).map fun(k:Nat)=>B2.map fun(j:Nat)=>drN ns (at_+7+4*(k:Int)+(j:Int)) (R8 ns at_ most))
def Z3t (ns:List Int)(at_:Int)(most:Nat):(Z1 ns at_ most).1.length=R8 ns at_ most:=by simp [Z1]
def W4h (ns:List Int)(at_:Int){most:Nat}(h:0<most):(Z1 ns at_ most).1.length<=most:=by
 rw [Z3t];unfold R8;have:=Q8v ns at_ h;omega
def W4i (ns:List Int)(at_:Int){most:Nat}(h:0<most):C7 (Z1 ns at_ most):=by
 have hp:0<R8 ns at_ most:=by unfold R8;omega
 refine⟨by simp [Z1],by rw [Z3t];exact hp,fun r hr=>?_,fun r hr x hx=>?_⟩
 ·obtain⟨k,_,rfl⟩:=ah.mp hr;rfl
 ·obtain⟨k,_,rfl⟩:=ah.mp hr;obtain⟨j,_,rfl⟩:=ah.mp hx;rw [Z3t];exact Q8v ns _ hp
theorem Y4b (ns:List Int)(hn:ns.length<=63)(at_:Int){n:Nat}(h0:0<n){E:F6}{o2 o4:Option Sl}:∀(l:List Nat) (ds:List D) (o6:Option Sl),ds.length+l.length<=1000 ->
  (∀o6,E.nx [some (.dat (scr ns)),some (.dat (.int at_)),o2,some (.dat (iD n)),o4,some (.own (ds++l.map fun(k:Nat)=>rD (B2.map fun(j:Nat)=>drN ns (at_+7+4*(k:Int)+(j:Int)) n))),o6]) ->
  D1 (B5 6) (P2 5 (B7 (E4 Y0 (A4 (P8 1 [0,3,1,6] (Q7a (A4 (wC (.int 4)) A6)) (B5 0) W8 (B7 (J8 Q3e (A4 (wV 1) (A4 (A2 G5 (A2 G5 (A2 G5 (wV 3) (wC (.int 7))) (A2 S8 (wC (.int 4)) (wV 4))) (wV 0)) (A4 (wV 2) A6)))))) A6))))
   E (l.map iD) [some (.dat (scr ns)),some (.dat (.int at_)),o2,some (.dat (iD n)),o4,some (.own ds),o6]
 | [],ds,o6,_,h=>by simpa [D1]using h o6
 | k::l,ds,o6,hz,h=>by
  rw [aD]at hz;have e4:O9 0 (Int.toNat 4)=B2.map iD:=rfl;rw [am,D1];simp only [M6,Q2h,E8,N5,D2,X8,Z5f,D8,C6];refine⟨_,rfl,_,rfl,by decide,by decide,by rw [e4];exact sz (by simp),?_⟩;rw [e4];refine Q0b (f:=fun d=>match d with | .int j=>iD (drN ns (at_+7+4*(k:Int)+j) n) | d=>d) _ _ _ (fun d hd Q' q=>?_) ?_
  ·obtain⟨j,_,rfl⟩:=ah.mp hd;simp only [E8,R1,D2,B0,D3,D8,C6];refine⟨_,rfl,_,rfl,_,rfl,?_⟩;show S8 (R.st (.int 4)) (R.st (.int (k:Int))) _;rw [Z4j];refine⟨.inl ⟨by decide,by decide⟩,?_⟩;rw [Q1c];refine⟨_,rfl,?_⟩;rw [Q5,Q1c];refine⟨_,rfl,rfl,_,⟨ns,at_+7+4*(k:Int)+(j:Int),(n:Int),rfl,hn,by omega,rfl⟩,?_⟩;rw [Q8u ns _ h0];exact q
  ·rw [Q7g];refine⟨_,rfl,_,rfl,szl (by omega),?_⟩;have e:(B2.map iD).map (fun d=>match d with | .int j=>iD (drN ns (at_+7+4*(k:Int)+j) n) | d=>d)=(B2.map fun(j:Nat)=>drN ns (at_+7+4*(k:Int)+(j:Int)) n).map iD:=by rfl
   rw [e];refine Y4b ns hn at_ h0 l (ds++[rD (B2.map fun(j:Nat)=>drN ns (at_+7+4*(k:Int)+(j:Int)) n)]) _ (by simp;omega) fun o6=>?_;simpa using h o6
def Z0g:D9:=fun rs r=>∃ns at_ most,rs=[.st (scr ns),.st (.int at_),.st (iD most)]/\ns.length<=63/\0<most/\most<=50/\r=.st (mD (Z1 ns at_ most))
def W9g:∀rs r,rs.length=3->Z0g rs r->Z7d Q3e (P3 r) (E9 Q8d rs):=by
 rintro rs r _ ⟨ns,at_,most,rfl,hn,h0,h1,rfl⟩;have hN:1+W0 ns at_ (most:Int)=(R8 ns at_ most:Int):=by rw [Q8u ns at_ h0];unfold R8;omega
 have hp:0<R8 ns at_ most:=by unfold R8;omega
 have fX:R8 ns at_ most<=50:=by unfold R8;have:=Q8v ns at_ h0;omega
 have er:O9 0 (R8 ns at_ most:Int).toNat=(List.range (R8 ns at_ most)).map iD:=by simp [O9]
 unfold Z7d;simp only [C8,F8,D3,D8,R1,D2,B0,C6,N5,X8,Z5f,s_lst,S1,Z5d,Q6,s_tup,E8];refine⟨_,rfl,_,rfl,_,rfl,rfl,_,⟨ns,at_,(most:Int),rfl,hn,by omega,rfl⟩,?_⟩;rw [Q1c,hN,L6];refine⟨_,rfl,_,rfl,by omega,by omega,?_⟩;rw [er];refine⟨sz (by simp;omega),?_⟩;refine Q0b (f:=fun d=>match d with | .int k=>.bl (decide (W0 ns (at_+1+k) 2=0)) | d=>d) _ _ _ (fun d hd Q' q=>?_) ?_
 ·obtain⟨k,_,rfl⟩:=ah.mp hd;simp only [E8,s_b,D3,R1,D2,B0,D8,C6];refine⟨_,rfl,_,rfl,?_⟩;show G5 (R.st _) (R.st _) _;rw [Q1c];refine⟨_,rfl,?_⟩;rw [Q5,Q1c];refine⟨rfl,_,⟨ns,at_+1+(k:Int),2,rfl,hn,by decide,rfl⟩,?_⟩;rw [o_eq];refine⟨_,_,rfl,rfl,by simp [D.depth],?_⟩;simp only [o_e1,cV,eO];have e:(W0 ns (at_+1+(k:Int)) 2==0)=decide (W0 ns (at_+1+(k:Int)) 2=0):=by
   by_cases h:W0 ns (at_+1+(k:Int)) 2=0
   ·rw [bo h,h];rfl
   ·rw [bb h];exact cL.mpr h
  rw [e];exact q
 ·rw [Q7g];refine⟨_,rfl,?_⟩;rw [L6];refine⟨_,rfl,sz (by simp),_,rfl,_,rfl,by omega,by omega,?_⟩;rw [er];refine Y4b ns hn at_ hp (List.range (R8 ns at_ most)) [] _ (by simp;omega) fun o6=>?_;refine⟨_,rfl,_,rfl,?_⟩;simp only [C6,V3,Q7g];refine⟨_,rfl,_,rfl,sz (by simp),?_⟩;show R.st _=R.st _;have e1:((List.range (R8 ns at_ most)).map iD).map (fun d=>match d with | .int k=>D.bl (decide (W0 ns (at_+1+k) 2=0)) | d=>d)=(Z1 ns at_ most).1.map .bl:=by
   unfold Z1;rw [aF,aF];rfl
  have e2:(List.range (R8 ns at_ most)).map (fun(k:Nat)=>rD (B2.map fun(j:Nat)=>drN ns (at_+7+4*(k:Int)+(j:Int)) (R8 ns at_ most)))=(Z1 ns at_ most).2.map rD:=by
   unfold Z1;rw [aF];rfl
  rw [bX,e1,e2]
theorem Z3c {α:Type}[DecidableEq α]{st:Nat->α}{t:Str}:∀(cs:List (Nat×Str)) (T:List (α×Str)),T <+: goT st t cs T
 | [],T=>bE _
 | c::cs,T=>(Z1w _ _ _).trans (Z3c cs _)
section
variable {α:Type}
def Z0e {P:List Nat->Prop}(h0:P [])(hs:∀w c,P w->P (w++[c]))(w:List Nat):P w:=by
 have:∀w:List Nat,P w.reverse:=by
  intro w
  induction w with
  | nil=>exact h0
  | cons c w ih=>rw [List.reverse_cons];exact hs _ _ ih
 have:=this w.reverse;rwa [List.reverse_reverse]at this
def run (step:α->Nat->α)(k:α)(w:List Nat):α:=w.foldl step k
def Q2g (step:α->Nat->α)(k:α)(u w:List Nat):run step k (u++w)=run step (run step k u) w:=List.foldl_append
def C3 (w:List Nat):Prop:=∀c∈w,c∈B2
def C3.nil:C3 []:=fun c h=>by cases h
def C3.app {u w:List Nat}(h1:C3 u)(h2:C3 w):C3 (u++w):=fun c h=>(aR.mp h).elim (h1 c) (h2 c)
def C3.snoc {u:List Nat}{c:Nat}(h1:C3 u)(h2:c∈B2):C3 (u++[c]):=h1.app fun d hd=>by rw [aE.mp hd];exact h2
def K7 (c:Nat):Str:=match c with
 | 0=>"0"
 | 1=>"1"
 | 2=>"a"
 | _=>"b"
def J7 (w:List Nat):Str:=w.foldl (fun t c=>t++K7 c) ""
def Y6g (w:List Nat)(c:Nat):J7 (w++[c])=J7 w++K7 c:=by unfold J7;rw [List.foldl_append];rfl
def Y9t {c:Nat×Str}(h:c∈U1):c.2=K7 c.1:=by
 simp only [U1,ar,ba,ce]at h;rcases h with rfl | rfl | rfl | rfl <;> rfl
end
section
variable {α:Type}[DecidableEq α]
structure FtI (step:α->Nat->α)(start:α)(fin:α->Bool)(U:List α)(T:List (α×Str))(p:Nat):Prop where
 ti:U8 U T
 zero:start∈T.map (·.1)
 word:∀q∈T,∃w,C3 w/\q.1=run step start w/\q.2=J7 w
 past:∀i,i<p->∀q,T[i]?=some q->fin q.1=false/\∀c∈B2,step q.1 c∈T.map (·.1)
theorem Y2o {st:Nat->α}{t:Str}{q:α×Str}:∀(cs:List (Nat×Str)) (T:List (α×Str)),q∈goT st t cs T->q∈T\/∃c∈cs,q=(st c.1,t++c.2)
 | [],T,h=>.inl h
 | c::cs,T,h=>by
  rcases Y2o cs _ h with h | ⟨c',h1,h2⟩
  ·unfold Y5 at h;split at h
   ·exact .inl h
   ·rcases aR.mp h with h | h
    ·exact .inl h
    ·exact .inr ⟨c,by simp,aE.mp h⟩
  ·exact .inr ⟨c',by simp [h1],h2⟩
theorem Y1j {st:Nat->α}{t:Str}:∀(cs:List (Nat×Str)) (T:List (α×Str)),∀c∈cs,st c.1∈(goT st t cs T).map (·.1)
 | [],T,c,h=>by cases h
 | d::cs,T,c,h=>by
  rw [goT];rcases ar.mp h with rfl | h
  ·have:st c.1∈(Y5 T (st c.1) (t++c.2)).map (·.1):=by
    unfold Y5;split
    ·assumption
    ·simp
   obtain⟨q,hq,e⟩:=ah.mp this;exact ah.mpr ⟨q,(Z3c cs _).subset hq,e⟩
  ·exact Y1j cs _ c h
def Y9u {c:Nat}(h:c∈B2):∃s,(c,s)∈U1:=by
 simp only [B2,ar,ba,ce]at h;rcases h with rfl | rfl | rfl | rfl <;> exact⟨_,by simp [U1];rfl⟩
def FtI.next {step:α->Nat->α}{start:α}{fin:α->Bool}{U:List α}{T:List (α×Str)}{p:Nat}{k:α}{t:Str}(hU:∀k∈U,∀c∈B2,step k c∈U)(F:FtI step start fin U T p)(hp:T[p]?=some (k,t))(hf:fin k=false) :
  FtI step start fin U (goT (step k) t U1 T) (p+1):=by
 have kin:=aB hp;have pre:=Z3c (st:=step k) (t:=t) U1 T;have mono:∀x,x∈T.map (·.1)->x∈(goT (step k) t U1 T).map (·.1):=fun x hx=>by
  obtain⟨q,hq,e⟩:=ah.mp hx;exact ah.mpr ⟨q,pre.subset hq,e⟩
 refine⟨U8.go U1 T F.ti kin fun c hc=>⟨hU k (F.ti.sub _ kin) _ (Q2t hc).1,(Q2t hc).2⟩,mono _ F.zero,fun q hq=>?_,fun i hi q hq=>?_⟩
 ·rcases Y2o U1 T hq with h | ⟨c,hc,rfl⟩
  ·exact F.word q h
  ·obtain⟨w,h1,h2,h3⟩:=F.word _ kin;refine⟨w++[c.1],h1.snoc (Q2t hc).1,?_,?_⟩
   ·rw [Q2g,<- h2];rfl
   ·rw [Y6g,<- Y9t hc];have h3:t=J7 w:=h3;rw [<- h3]
 ·obtain⟨add,mS⟩:=pre;have hpl:p<T.length:=by obtain⟨h,_⟩:=av.mp hp;exact h
  rw [<- mS,aJ (by omega)]at hq;rcases aX i p with h | h
  ·obtain⟨h1,h2⟩:=F.past i h q hq;exact⟨h1,fun c hc=>mono _ (h2 c hc)⟩
  ·have:i=p:=by omega
   subst this;rw [hp]at hq;cases hq;refine⟨hf,fun c hc=>?_⟩;obtain⟨s,hs⟩:=Y9u hc;exact Y1j U1 T _ hs
theorem W1g {step:α->Nat->α}{start:α}{fin:α->Bool}{U:List α}(hU:∀k∈U,∀c∈B2,step k c∈U):∀(n:Nat) (T:List (α×Str)) (p:Nat),FtI step start fin U T p->U.length<=n+p ->
  (ftN step fin n T p=none->∀w,C3 w->fin (run step start w)=false)/\(∀t,ftN step fin n T p=some t->∃w,C3 w/\t=J7 w/\fin (run step start w)=true):=by
 have done:∀(T:List (α×Str)) (p:Nat),FtI step start fin U T p->T.length<=p->∀w,C3 w->fin (run step start w)=false:=by
  intro T p F hl w hw;have all:∀w,C3 w->run step start w∈T.map (·.1):=by
   refine Z0e ?_ ?_
   ·exact fun _=>F.zero
   ·intro w c ih hw;obtain⟨q,hq,e⟩:=ah.mp (ih fun d hd=>hw d (by simp [hd]));obtain⟨i,hi,e2⟩:=bS.mp hq;have:=(F.past i (by omega) q (by rw [aa hi,e2])).2 c (hw c (by simp));rw [Q2g,<- e];exact this
  obtain⟨q,hq,e⟩:=ah.mp (all w hw);obtain⟨i,hi,e2⟩:=bS.mp hq;have:=(F.past i (by omega) q (by rw [aa hi,e2])).1;rw [<- e];exact this
 intro n
 induction n with
 | zero =>
  intro T p F h;have b:=F.ti.bound;exact⟨fun _=>done T p F (by omega),fun t e=>by cases e⟩
 | succ n ih =>
  intro T p F h;rw [ftN];split
  ·rename_i e;have:=aw.mp e;exact⟨fun _=>done T p F this,fun t e=>by cases e⟩
  ·rename_i q e;obtain⟨k,t⟩:=q
   by_cases hf:fin k=true
   ·simp only [hf,gT];refine⟨fun z=>by(cases z),fun t' e'=>?_⟩;cases e';obtain⟨w,h1,h2,h3⟩:=F.word _ (aB e);exact⟨w,h1,h3,by rw [<- h2];exact hf⟩
   ·have oi:fin k=false:=by simpa using hf
    simp only [oi,eO,cV];exact ih _ _ (F.next hU e oi) (by omega)
def W1b {step:α->Nat->α}{start:α}{fin:α->Bool}{U:List α}(hU:∀k∈U,∀c∈B2,step k c∈U)(hs:start∈U) :
  (Q2v U.length step start fin=none->∀w,C3 w->fin (run step start w)=false)/\(∀t,Q2v U.length step start fin=some t->∃w,C3 w/\t=J7 w/\fin (run step start w)=true) :=
 W1g hU U.length _ 0 ⟨Y6p hs,by simp,fun q hq=>⟨[],C3.nil,by rw [aE.mp hq];rfl,by rw [aE.mp hq];rfl⟩,fun i hi=>by omega⟩ (by omega)
end
def D6 (m:A8)(w:List Nat):Nat:=run (B3 m.2) 0 w
def J6 (m:A8)(w:List Nat):Bool:=m.1.getD (D6 m w) false
def Q1j {m:A8}(wf:C7 m):∀w,C3 w->D6 m w<m.1.length:=by
 refine Z0e ?_ ?_
 ·exact fun _=>wf.pos
 ·intro w c ih hw;have h:=ih fun d hd=>hw d (by simp [hd]);obtain⟨_,_,_,g⟩:=wf.row h;unfold D6 at h ⊢;rw [Q2g];exact(g c (Q8s (hw c (by simp)))).2
def Q3q (es:List Bool)(rows:List (List Nat))(i:Nat)(w:List Nat):Bool:=es.getD (run (B3 rows) i w) false
theorem Z4y {es:List Bool}{rows:List (List Nat)}(wf:Wf es rows):∀(w:List Nat) (i:Nat),C3 w->i<es.length->run (B3 rows) i w<es.length
 | [],i,_,h=>h
 | c::w,i,hw,h=>by
  obtain⟨_,_,_,g⟩:=wf.row h;exact Z4y wf w _ (fun d hd=>hw d (by simp [hd])) (g c (Q8s (hw c (by simp)))).2
def Y8n {R:List (Nat×Nat)}{g d:Nat}:∃d',(g,d')∈T6 R g d:=by
 unfold T6;split
 ·rename_i h;obtain⟨q,hq,rfl⟩:=ah.mp h;exact⟨q.2,hq⟩
 ·exact⟨d,by simp⟩
structure Q8h (on:List (List Nat))(good:Nat->Nat->Prop)(R:List (Nat×Nat))(p:Nat):Prop where
 ri:Q0m on.length R
 good:∀q∈R,good q.1 q.2
 sorted:∀(i j:Nat) (q q':Nat×Nat),i<=j->R[i]?=some q->R[j]?=some q'->q.2<=q'.2
 near:∀q∈R,∀q',R[p]?=some q'->q.2<=q'.2+1
 past:∀(i:Nat) (q:Nat×Nat),i<p->R[i]?=some q->∀g∈on.getD q.1 [],∃d,(g,d)∈R/\d<=q.2+1
theorem Y2n {d:Nat}:∀(gs:List Nat) (R:List (Nat×Nat)) (B:Nat),(∀q∈R,q.2<=B)->d<=B->∀g∈gs,∃d',(g,d')∈goR d gs R/\d'<=B
 | [],R,B,_,_,g,h=>by cases h
 | x::gs,R,B,hR,hd,g,h=>by
  have dZ:∀q∈T6 R x d,q.2<=B:=fun q hq=>by
   rcases Z3u hq with z | z
   ·exact hR q z
   ·rw [z];exact hd
  rw [goR];rcases ar.mp h with rfl | h
  ·obtain⟨d',h'⟩:=Y8n (R:=R) (g:=g) (d:=d);exact⟨d',(Z3b d gs _).subset h',dZ _ h'⟩
  ·exact Y2n gs _ B dZ hd g h
theorem Y1i {d:Nat}:∀(gs:List Nat) (R:List (Nat×Nat)),(∀(i j:Nat) (q q':Nat×Nat),i<=j->R[i]?=some q->R[j]?=some q'->q.2<=q'.2)->(∀q∈R,q.2<=d) ->
  (∀(i j:Nat) (q q':Nat×Nat),i<=j->(goR d gs R)[i]?=some q->(goR d gs R)[j]?=some q'->q.2<=q'.2)
 | [],R,h,_=>h
 | x::gs,R,h,hd=>by
  refine Y1i gs _ ?_ ?_
  ·unfold T6;split
   ·exact h
   ·intro i j q q' mF hi hj;rcases aX j R.length with hjl | hjl
    ·rw [aJ hjl]at hj;rw [aJ (by omega)]at hi;exact h i j q q' mF hi hj
    ·have l9:q'=(x,d):=by
      rw [aQ hjl]at hj;exact(aE.mp (aB hj))
     rcases aR.mp (aB hi)with z | z
     ·rw [l9];exact hd q z
     ·rw [aE.mp z,l9];exact aq _
  ·intro q hq;rcases Z3u hq with z | z
   ·exact hd q z
   ·rw [z];exact aq _
theorem Y3w {on:List (List Nat)}{good:Nat->Nat->Prop}(iI:∀l∈on,∀g∈l,g<on.length)(hg:∀s d,s<on.length->good s d->∀g∈on.getD s [],good g (d+1)) :
  ∀(n:Nat) (R:List (Nat×Nat)) (p:Nat),Q8h on good R p->on.length<=n+p->p<=R.length->R <+: Q1g on n R p/\Q8h on good (Q1g on n R p) (Q1g on n R p).length
 | 0,R,p,J,h,hp=>by
  have b:=J.ri.bound;have:p=R.length:=by omega
  subst this;exact⟨bE _,J⟩
 | n+1,R,p,J,h,hp=>by
  unfold Q1g;split
  ·rename_i e;have:=aw.mp e;have:p=R.length:=by omega
   subst this;exact⟨bE _,J⟩
  ·rename_i q e;obtain⟨s,d⟩:=q;have kin:=aB e;have hs:s<on.length:=J.ri.lt _ kin;have hpl:p<R.length:=by obtain⟨z,_⟩:=av.mp e;exact z
   have eo:on[s]?.getD []=on.getD s []:=(ak ..).symm;have fY:∀g∈on.getD s [],g<on.length:=fun g ic=>by
    rw [ak,aa hs]at ic;exact iI _ (bQ hs) g ic
   have pre:=Z3b (d+1) (on.getD s []) R;have near:∀q∈R,q.2<=d+1:=fun q hq=>J.near q hq _ e;have all:∀q∈goR (d+1) (on.getD s []) R,q.2<=d+1:=fun q hq=>by
    rcases Q9l _ _ hq with z | ⟨g,_,rfl⟩
    ·exact near q z
    ·exact aq _
   have at_:∀{i:Nat}{q:Nat×Nat},i<R.length->(goR (d+1) (on.getD s []) R)[i]?=some q->R[i]?=some q:=fun {i q} hi hq=>by
    obtain⟨t,ht⟩:=pre;rw [<- ht,aJ hi]at hq;exact hq
   have J2:Q8h on good (goR (d+1) (on.getD s []) R) (p+1):=by
    have so:=Y1i (d:=d+1) (on.getD s []) R J.sorted near;refine⟨J.ri.go fY,fun q hq=>?_,so,fun q hq q' l9=>?_,fun i q hi hq g ic=>?_⟩
    ·rcases Q9l _ _ hq with z | ⟨g,ic,rfl⟩
     ·exact J.good q z
     ·exact hg s d hs (J.good _ kin) g ic
    ·have h1:=all q hq;have h2:(goR (d+1) (on.getD s []) R)[p]?=some (s,d):=by
      obtain⟨t,ht⟩:=pre;rw [<- ht,aJ hpl];exact e
     have h3:d<=q'.2:=so p (p+1) _ _ (by omega) h2 l9;omega
    ·have hq:=at_ (by omega) hq;rcases aX i p with z | z
     ·obtain⟨d',h1,h2⟩:=J.past i q z hq g ic;exact⟨d',pre.subset h1,h2⟩
     ·have:i=p:=by omega
      subst this;rw [e]at hq;cases hq;exact Y2n _ R (d+1) near (aq _) g ic
   have bD:=pre.length_le;obtain⟨a1,a2⟩:=Y3w iI hg n _ (p+1) J2 (by omega) (by omega);rw [eo];exact⟨pre.trans a1,a2⟩
def Q9i {R:List (Nat×Nat)}(nd:(R.map (·.1)).Nodup){s d:Nat}:Z0 R s=some d ↔ (s,d)∈R:=by
 unfold Z0;constructor
 ·intro h;cases e:R.find? (fun q=>decide (q.1=s))with
  | none=>rw [e]at h;cases h
  | some q =>
   rw [e]at h;have h:q.2=d:=aA h;have h1:=List.mem_of_find?_eq_some e;have h2:=List.find?_some e;have h2:q.1=s:=by simpa using h2
   obtain⟨a,b⟩:=q;simp only at h h2;subst h h2;exact h1
 ·intro h
  induction R with
  | nil=>cases h
  | cons q R ih =>
   rw [am,bi]at nd;rw [bn];rcases ar.mp h with rfl | h
   ·simp
   ·have:¬ q.1=s:=fun z=>nd.1 (z ▸ ah.mpr ⟨_,h,rfl⟩);simp only [this,decide_false];exact ih nd.2 h
def W0j {es:List Bool}{rows:List (List Nat)}(wf:Wf es rows)(b:Bool){good:Nat->Nat->Prop}(g0:∀i,es[i]?=some b->good i 0)(gs:∀s d g c,g<es.length->c<4->B3 rows g c=s->good s d->good g (d+1)) :
  (∀q∈T1 (K6 rows) (N9 es b),good q.1 q.2)/\((T1 (K6 rows) (N9 es b)).map (·.1)).Nodup/\(∀i,es[i]?=some b->(i,0)∈T1 (K6 rows) (N9 es b)) /\
  ∀s d,(s,d)∈T1 (K6 rows) (N9 es b)->∀g c,g<es.length->c<4->B3 rows g c=s->∃d',(g,d')∈T1 (K6 rows) (N9 es b)/\d'<=d+1:=by
 have bU:∀r∈rows,∀g∈r,g<rows.length:=fun r hr g hg=>by rw [wf.len];exact wf.lt r hr g hg
 have qU:(K6 rows).length=es.length:=by rw [Q8n,wf.len]
 have J0:Q8h (K6 rows) good ((N9 es b).map fun x=>(x,0)) 0:=by
  refine⟨⟨by simpa [Function.comp_def]using Y0r,fun q hq=>?_⟩,fun q hq=>?_,fun i j q q' _ hi hj=>?_,fun q hq q' _=>?_,fun i q hi=>absurd hi (ip _)⟩
  ·obtain⟨x,hx,rfl⟩:=ah.mp hq;rw [qU];exact Y0q x hx
  ·obtain⟨x,hx,rfl⟩:=ah.mp hq;exact g0 x (Z3x.mp hx)
  ·obtain⟨x,_,rfl⟩:=ah.mp (aB hi);exact bt _
  ·obtain⟨x,_,rfl⟩:=ah.mp hq;exact bt _
 obtain⟨pre,J⟩:=Y3w (Z9d bU) (fun s d hs qK g ic=>by
  obtain⟨r,e,hm⟩:=(Z3w bU).mp ic;obtain⟨c,hc,e2⟩:=bS.mp hm;have jg:g<es.length:=by rw [<- wf.len];obtain⟨z,_⟩:=av.mp e;exact z
  obtain⟨r',e',l4,g4⟩:=wf.row jg;rw [e]at e';cases e';have gH:c<4:=by rw [<- l4];exact hc
  have:=(g4 c gH).1;rw [aa hc,e2]at this;exact gs s d g c jg gH (aA this).symm qK) (K6 rows).length _ 0 J0 (by omega) (bt _)
 refine⟨J.good,J.ri.nd,fun i hi=>pre.subset (ah.mpr ⟨i,Z3x.mpr hi,rfl⟩),fun s d hm g c jg hc e=>?_⟩;obtain⟨i,hi,e2⟩:=bS.mp hm;obtain⟨r,e3,l4,g4⟩:=wf.row jg;refine J.past i (s,d) hi (by show(T1 (K6 rows) (N9 es b))[i]?=_;rw [aa hi,e2]) g ((Z3w bU).mpr ⟨r,e3,?_⟩);rw [<- e];exact aB (g4 c hc).1
theorem W0k {es:List Bool}{rows:List (List Nat)}(wf:Wf es rows)(b:Bool):(∀i d,i<es.length->Z0 (T1 (K6 rows) (N9 es b)) i=some d->∃w,C3 w/\w.length=d/\Q3q es rows i w=b) /\
  ∀(w:List Nat) (i:Nat),C3 w->i<es.length->Q3q es rows i w=b->∃d,Z0 (T1 (K6 rows) (N9 es b)) i=some d/\d<=w.length:=by
 obtain⟨h1,nd,h2,h3⟩:=W0j wf b (good:=fun i d=>∃w,C3 w/\w.length=d/\Q3q es rows i w=b)
  (fun i hi=>⟨[],C3.nil,rfl,by unfold Q3q run;rw [List.foldl_nil,ak,hi];rfl⟩)
  (fun s d g c hg hc e bR=>(by obtain⟨w,q1,q2,q3⟩:=bR;exact⟨c::w,fun x hx=>by rcases ar.mp hx with rfl | hx;exact Q5f hc;exact q1 x hx,by rw [aD,q2],by unfold Q3q run at q3 ⊢;rw [List.foldl_cons,e];exact q3⟩))
 refine⟨fun i d _ h=>h1 (i,d) ((Q9i nd).mp h),fun w=>?_⟩
 induction w with
 | nil =>
  intro i _ hi h;refine⟨0,(Q9i nd).mpr (h2 i ?_),aq _⟩;unfold Q3q run at h;rw [List.foldl_nil,ak,aa hi]at h;rw [aa hi];exact congrArg some h
 | cons c w ih =>
  intro i hw hi h;have gH:=Q8s (hw c (by simp));obtain⟨_,_,_,g4⟩:=wf.row hi;obtain⟨d,q1,q2⟩:=ih (B3 rows i c) (fun x hx=>hw x (by simp [hx])) (g4 c gH).2 h;obtain⟨d',q3,q4⟩:=h3 _ _ ((Q9i nd).mp q1) i c hi gH rfl;exact⟨d',(Q9i nd).mpr q3,by rw [aD];omega⟩
section
variable {α:Type}[DecidableEq α]
def W9y {rs:List (List Nat)}{i c:Nat}{f:Nat->Nat}(h:rs[i]?=some (B2.map f))(hc:c∈B2):B3 rs i c=f c:=by
 unfold B3;rw [ak,ak,h,Option.getD_some,af];have:B2[c]?=some c:=by
  simp only [B2,ar,ba,ce]at hc;rcases hc with rfl | rfl | rfl | rfl <;> rfl
 rw [this];rfl
def W1j {ks:List α}{x:α}(h:x∈ks):ks[ks.idxOf x]?=some x:=by
 have hl:=fN.mpr h;rw [aa hl,List.getElem_idxOf hl]
theorem Q1s.run {step:α->Nat->α}{start:α}{U ks:List α}{rs:List (List Nat)}(W:Q1s step start U ks rs):∀(w:List Nat) (i:Nat) (k:α),C3 w->ks[i]?=some k->ks[MC.run (B3 rs) i w]?=some (MC.run step k w)
 | [],i,k,_,h=>h
 | c::w,i,k,hw,h=>by
  have hc:=hw c (by simp);have e:=W9y (W.row i k h) hc;refine Q1s.run W w _ _ (fun d hd=>hw d (by simp [hd])) ?_;rw [e];exact W1j (W.mem k (aB h) c hc)
def Y9f {step:α->Nat->α}{start:α}{U:List α}{fin:α->Bool}(hU:∀k∈U,∀c∈B2,step k c∈U)(hs:start∈U){w:List Nat}(hw:C3 w):J6 (Q4r U step start fin) w=fin (run step start w):=by
 have W:=Y7f (step:=step) (N:=U.length) hU hs (aq _);have h:=W.run w 0 start hw W.zero;unfold J6 D6 Q4r;show(List.map fin _).getD (run (B3 _) 0 w) false=_;rw [ak,af,h]
 rfl
end
def Q1a (met:List Nat):List Nat->List Nat->List Nat
 | _,[]=>[]
 | pre,x::r=>if x∈met++pre then Q1a met (pre++[x]) r else x::Q1a met (pre++[x]) r
def O0:List Nat->List (List Nat)->List Nat
 | met,[]=>met
 | met,r::rs=>O0 (met++Q1a met [] r) rs
theorem Z4b (r:List Nat):∀(rs:List (List Nat)) (met:List Nat),O0 met (rs++[r])=O0 met rs++Q1a (O0 met rs) [] r
 | [],met=>rfl
 | x::rs,met=>Z4b r rs _
section
variable {α:Type}[DecidableEq α]
theorem Q9n (st:Nat->α)(n:Nat):∀(cs:List Nat) (ks:List α) (pre full:List Nat),full=pre++cs.map (fun c=>(I0 st cs ks pre).1.idxOf (st c))->n<=ks.length->(∀x,x<ks.length->x<n\/x∈pre)->(∀x∈pre,x<ks.length) ->
  Q1a (List.range n) pre (cs.map fun c=>(I0 st cs ks pre).1.idxOf (st c))=(List.range ((I0 st cs ks pre).1.length-ks.length)).map fun i=>ks.length+i
 | [],ks,pre,full,_,_,_,_=>by simp [I0,Q1a]
 | c::cs,ks,pre,full,_,hn,h1,h2=>by
  have pp:=Q5o st cs (N8 ks (st c)) (pre++[(N8 ks (st c)).idxOf (st c)]);have fU:st c∈N8 ks (st c):=Z3v.mpr (.inr rfl);have ei:(I0 st (c::cs) ks pre).1.idxOf (st c)=(N8 ks (st c)).idxOf (st c):=by rw [I0];exact Z3h pp fU
  have i7:I0 st (c::cs) ks pre=I0 st cs (N8 ks (st c)) (pre++[(N8 ks (st c)).idxOf (st c)]):=rfl;have bD:=pp.length_le;rw [am,Q1a,ei];simp only [i7]
  by_cases hm:st c∈ks
  ·have ea:N8 ks (st c)=ks:=Z8v hm;have hl:=fN.mpr hm;simp only [ea]at bD ⊢;rw [aG (by
    rcases h1 _ hl with z | z
    ·exact b9 _ (aK.mpr z)
    ·exact aC _ z)]
   exact Q9n st n cs ks _ _ rfl hn (fun x hx=>(h1 x hx).imp id fun z=>by simp [z]) fun x hx=>by
    rcases aR.mp hx with z | z
    ·exact h2 x z
    ·rw [aE.mp z];exact hl
  ·have ea:N8 ks (st c)=ks++[st c]:=Z8w hm;have ex:(ks++[st c]).idxOf (st c)=ks.length:=by
    rw [List.idxOf_append,az hm];simp
   simp only [ea,ex]at bD ⊢;rw [ai,bh]at bD;rw [az (fun z=>by
    rcases aR.mp z with z | z
    ·have:=aK.mp z;omega
    ·have:=h2 _ z;omega)]
   have ih:=Q9n st n cs (ks++[st c]) (pre++[ks.length]) _ rfl (by simp;omega) (fun x hx=>by
    rw [ai,bh]at hx;rcases aX x ks.length with z | z
    ·exact(h1 x z).imp id fun z=>by simp [z]
    ·exact .inr (by simp;omega)) fun x hx=>by
    rw [ai,bh];rcases aR.mp hx with z | z
    ·have:=h2 x z;omega
    ·rw [aE.mp z];omega
   rw [ih];rw [ai,bh];obtain⟨m,mz⟩:∃m,(I0 st cs (ks++[st c]) (pre++[ks.length])).1.length=ks.length+1+m:=⟨_,(Nat.add_sub_cancel' bD).symm⟩
   rw [mz,show ks.length+1+m-(ks.length+1)=m by omega,show ks.length+1+m-ks.length=m+1 by omega,bq,am,aF];congr 1;exact aM fun i _=>by simp;omega
def range_add (n m:Nat):List.range n++(List.range m).map (fun i=>n+i)=List.range (n+m):=(List.range_add).symm
theorem Y2u {step:α->Nat->α}:∀(n:Nat) (ks:List α) (rs:List (List Nat)),O0 [0] rs=List.range ks.length->O0 [0] (P9 step n ks rs).2=List.range (P9 step n ks rs).1.length
 | 0,ks,rs,h=>h
 | n+1,ks,rs,h=>by
  unfold P9;split
  ·exact h
  ·rename_i k e;refine Y2u n _ _ ?_;have hp:=(Q5o (step k) B2 ks []).length_le;rw [Z4b,h,Z0a,bX,Q9n (step k) ks.length B2 ks [] _ rfl (aq _) (fun x hx=>.inl hx) (fun x hx=>by cases hx),range_add];congr 1;omega
def W4o {step:α->Nat->α}{start:α}{N:Nat}:O0 [0] (X0 N step start).2=List.range (X0 N step start).1.length:=Y2u N _ _ rfl
end
end MC
end
section
namespace MC
open PySem PySem.Spec PyProof.Rows L2 TK
abbrev Z1i:List Str:=["_law_long","_law_found","_law_row","_law_turn","_law_longer","_law_text_here"]
def Z7g   :WS:=(A7 (C2 1 (M3 (A4 (B7 (wC (.str ""))) A6))) (A7 (C2 2 (B7 (M3 (A4 (B7 (wC (.str ""))) A6)))) (A7 (K4 (Q1z (A4 (wV 0) A6)) (B5 3) (A7 (C2 4 (M3 A6)) (A7 (Q6c 4 (K4 (W1 (B7 (wV 2))) (B5 5) (C2 4 (A2 G5 (wV 4) (P8 1 [5] (Z3m (wC (.str "01ab"))) (B5 0) W8 (B7 (A2 G5 (wV 1) (wV 0)))))))) (A7 (C2 2 (B7 (wV 4))) (C2 1 (A2 Z9 (wV 1) (wV 2))))))) (Q6d 1))))
abbrev Z8l:List Str:=["_law_machine_told","_law_state_here","_law_text_here","_law_sign"]
def Z7f   :WS:=(A7 (K4 (Q8z (wV 2)) (B5 3) (C2 1 (A2 B1 (A2 B1 (A2 B1 (wV 0) (wC (.int 1))) (wV 1)) (Q3j (wC (.str "01ab")) (wV 3))))) (Q6d 1))
abbrev Z8h:List Str:=["_law_machine_told","_law_text_here"]
def Z7a   (eB:D9):WS:=(J3 (A2 B1 (A2 B1 (wV 0) (wC (.int 0))) (J8 eB (A4 (wV 0) (A4 (wC (.int 0)) (A4 (wV 1) A6))))))
abbrev Z8n:List Str:=["rows","text","start","states","sign"]
def Z7m   :WS:=(A7 (C2 3 (M3 (A4 (B7 (wV 2)) A6))) (A7 (K4 (Q8z (wV 1)) (B5 4) (P2 3 (B7 (A2 B1 (A2 B1 (wV 0) (A2 B1 (wV 3) (Y1 (wC (.int 1))))) (Q3j (wC (.str "01ab")) (wV 4)))))) (Q6d 3)))
def Z5j (t s:Str):F5 (t++s)=F5 t++F5 s:=by
 unfold F5;rw [<- aU];congr 1;exact Array.toList_append
def Y5p {c:Nat}(h:c∈B2):F5 (K7 c)=[.str (K7 c)]:=by
 simp only [B2,ar,ba,ce]at h;rcases h with rfl | rfl | rfl | rfl <;> rfl
def Q6z {c:Nat}(h:c∈B2):Q6y "01ab" (K7 c)=some c:=by
 simp only [B2,ar,ba,ce]at h;rcases h with rfl | rfl | rfl | rfl <;> decide +kernel
def Q4e {w:List Nat}(h:C3 w):F5 (J7 w)=w.map fun c=>.str (K7 c):=by
 have go:∀(w:List Nat) (t:Str),C3 w->F5 (w.foldl (fun t c=>t++K7 c) t)=F5 t++w.map fun c=>.str (K7 c):=by
  intro w
  induction w with
  | nil=>intro t _;simp
  | cons c w ih =>
   intro t h;rw [List.foldl_cons,ih _ (fun d hd=>h d (ae _ hd)),Z5j,Y5p (h c ag),am,bI];rfl
 rw [J7,go w "" h];rfl
def Z0h:D9:=fun rs r=>∃(m:A8) (i:Nat) (w:List Nat),rs=[.st (mD m),.st (iD i),.st (.str (J7 w))]/\C7 m/\i<m.1.length/\C3 w/\r=.st (iD (run (B3 m.2) i w))
def wsS:WS:=(C2 1 (A2 B1 (A2 B1 (A2 B1 (wV 0) (wC (.int 1))) (wV 1)) (Q3j (wC (.str "01ab")) (wV 3))))
theorem Y5u {m:A8}(wf:C7 m){E:F6}{o2:Option Sl}:∀(w:List Nat) (i:Nat) (o3:Option Sl),C3 w->i<m.1.length->(∀o3,E.nx [some (.dat (mD m)),some (.dat (iD (run (B3 m.2) i w))),o2,o3]) ->
  D1 (B5 3) wsS E (w.map fun c=>.str (K7 c)) [some (.dat (mD m)),some (.dat (iD i)),o2,o3]
 | [],i,o3,_,_,h=>h o3
 | c::w,i,o3,hw,hi,h=>by
  rw [am,D1];simp only [wsS,M6,F8,D3,B0,D8,Z5e];have hc:=hw c ag;have gH:c<4:=by simp only [B2,ar,ba,ce]at hc;omega
  obtain⟨r,hr,_,j7⟩:=Wf.row wf hi;refine⟨_,rfl,O6 (i:=1) rfl ⟨_,rfl,?_⟩⟩;refine O6 (i:=i) (d:=.tup (r.map iD)) (by rw [af,hr];rfl) ?_;refine⟨_,rfl,_,rfl,_,c,rfl,Q6z hc,?_⟩;refine O6 (i:=c) (d:=iD (B3 m.2 i c)) (by rw [af,(j7 c gH).1];rfl) ?_;rw [L6];exact Y5u wf w _ _ (fun d hd=>hw d (ae _ hd)) (j7 c gH).2 h
def W9m:∀rs r,rs.length=3->Z0h rs r->Z7f (P3 r) (E9 Z8l rs):=by
 rintro rs r _ ⟨m,i,w,rfl,wf,hi,hw,rfl⟩;unfold Z7f;simp only [C8,S1,Y4h,B0,Z5i];refine⟨_,rfl,_,rfl,?_⟩;rw [Q4e hw];exact Y5u wf w i none hw hi fun o3=>⟨_,rfl,rfl⟩
def Q7i:D9:=fun rs r=>∃(m:A8) (w:List Nat),rs=[.st (mD m),.st (.str (J7 w))]/\C7 m/\C3 w/\r=.st (.bl (J6 m w))
def W8v:∀rs r,rs.length=2->Q7i rs r->Z7a Z0h (P3 r) (E9 Z8h rs):=by
 rintro rs r _ ⟨m,w,rfl,wf,hw,rfl⟩;unfold Z7a;simp only [Q6,D3,B0,D8,R1,D2,C6];refine⟨_,rfl,O6 (i:=0) rfl ⟨_,rfl,_,rfl,rfl,_,⟨m,0,w,rfl,wf,wf.pos,hw,rfl⟩,?_⟩⟩;refine O6 (i:=run (B3 m.2) 0 w) (Q6n (Z4y wf w 0 hw wf.pos)) ?_
 rfl
def V1h {x y:Str}(h:F5 x=F5 y):x=y:=by
 unfold F5 at h;have go:∀l m:List Nat,(l.map fun c=>D.str ⟨#[c]⟩)=(m.map fun c=>D.str ⟨#[c]⟩)->l=m:=by
  intro l
  induction l with
  | nil=>intro m h;cases m with
   | nil=>rfl
   | cons _ _=>cases h
  | cons a l ih =>
   intro m h;cases m with
   | nil=>cases h
   | cons b m =>
    injection h with h1 h2
    injection h1 with h1
    injection h1 with h1
    have:a=b:=by simpa using h1
    rw [this,ih m h2]
 have:=go _ _ h;cases x;cases y;simp only [Str.mk.injEq];exact Array.toList_inj.mp this
theorem Y5o:∀ys:List Str,F5 (Str.join Str.empty ys)=(ys.map F5).flatten
 | []=>rfl
 | [x]=>by simp [Str.join]
 | x::y::r=>by
  show F5 (x++Str.empty++Str.join Str.empty (y::r))=_;rw [Z5j,Z5j,Y5o (y::r)];simp [F5,Str.empty]
theorem W3c {w:List Nat}(h:C3 w):Txt.join (Str.ofString "") (w.map K7)=J7 w:=by
 refine V1h ?_;have e:Txt.join (Str.ofString "") (w.map K7)=Str.join Str.empty (w.map K7):=StrLaws.glued_eq_join _ _;rw [e,Y5o,Q4e h,aF];clear e
 induction w with
 | nil=>rfl
 | cons c w ih=>rw [am,cy,ih fun d hd=>h d (ae _ hd),Function.comp,Y5p (h c ag)];rfl
def V1i {c d:Nat}(hc:c∈B2)(hd:d∈B2)(e:K7 c=K7 d):c=d:=by
 have a:=Q6z hc;rw [e,Q6z hd]at a;exact(aA a).symm
def Y6h:∀{u w:List Nat},C3 u->C3 w->J7 u=J7 w->u=w:=by
 intro u w hu hw e;have e:=congrArg F5 e;rw [Q4e hu,Q4e hw]at e;have go:∀l m:List Nat,C3 l->C3 m->(l.map fun c=>D.str (K7 c))=(m.map fun c=>D.str (K7 c))->l=m:=by
  intro l
  induction l with
  | nil=>intro m _ _ h;cases m with
   | nil=>rfl
   | cons _ _=>cases h
  | cons a l ih =>
   intro m hl hm h;cases m with
   | nil=>cases h
   | cons b m =>
    injection h with h1 h2
    injection h1 with h1
    rw [V1i (hl a ag) (hm b ag) h1,ih m (fun d hd=>hl d (ae _ hd)) (fun d hd=>hm d (ae _ hd)) h2]
 exact go u w hu hw e
theorem Y5x:∀l:List Str,Q2j (l.map D.str)=some l
 | []=>rfl
 | x::r=>by simp [Q2j,Y5x r]
theorem Y6a:∀{l:List Nat},C3 l->((l.map K7).map (·.length)).sum=l.length
 | [],_=>rfl
 | j::r,h=>by
  have hj:(K7 j).length=1:=by
   have:=h j ag;simp only [B2,ar,ba,ce]at this;rcases this with rfl | rfl | rfl | rfl <;> rfl
  rw [am,am,bZ,hj,Y6a fun d hd=>h d (ae _ hd),aD];omega
def W2z {c:Nat}(h:c∈B2){Q:R->Prop}(q:Q (.st (.str (K7 c)))):B1 (.st (.str "01ab")) (.st (.int (c:Int))) Q:=by
 simp only [B2,ar,ba,ce]at h;rcases h with rfl | rfl | rfl | rfl <;> exact⟨by decide,_,rfl,q⟩
def Q0a (rows:List (List Nat))(i:Nat):List Nat->List Nat
 | []=>[]
 | c::w=>B3 rows i c::Q0a rows (B3 rows i c) w
def Z9c {ds:List D}{d:D}:K8 (ds++[d]) (-1)=some d:=by
 unfold K8 ixN;rw [az (by decide),aG (by rw [ai,bh];omega),Option.bind_some];have:((-1:Int)+((ds++[d]).length:Nat)).toNat=ds.length:=by rw [ai,bh];omega
 rw [this];simp
theorem Z8y (rows:List (List Nat)):∀(w:List Nat) (i:Nat),∃l,i::Q0a rows i w=l++[run (B3 rows) i w]
 | [],i=>⟨[],rfl⟩
 | c::w,i=>by
  obtain⟨l,e⟩:=Z8y rows w (B3 rows i c);exact⟨i::l,by rw [Q0a,e];rfl⟩
def Z0f:D9:=fun rs r=>∃(m:A8) (i:Nat) (w:List Nat),rs=[.st (rsD m.2),.st (.str (J7 w)),.st (iD i)]/\C7 m/\i<m.1.length/\C3 w/\w.length<=100000/\r=.nw ((i::Q0a m.2 i w).map iD)
def wsA:WS:=(P2 3 (B7 (A2 B1 (A2 B1 (wV 0) (A2 B1 (wV 3) (Y1 (wC (.int 1))))) (Q3j (wC (.str "01ab")) (wV 4)))))
theorem Z8z {m:A8}(wf:C7 m){E:F6}{o1 o2:Option Sl}:∀(w:List Nat) (l:List Nat) (i:Nat) (o4:Option Sl),C3 w->i<m.1.length->l.length+w.length<=200000->(∀o4,E.nx [some (.dat (rsD m.2)),o1,o2,some (.own ((l++i::Q0a m.2 i w).map iD)),o4]) ->
  D1 (B5 4) wsA E (w.map fun c=>.str (K7 c)) [some (.dat (rsD m.2)),o1,o2,some (.own ((l++[i]).map iD)),o4]
 | [],l,i,o4,_,_,_,h=>h o4
 | c::w,l,i,o4,hw,hi,hz,h=>by
  rw [aD]at hz;rw [am,D1];simp only [wsA,M6,Q2h,E8,D3,B0,D8,Z5e,Q5r];have hc:=hw c ag;have gH:c<4:=Q8s hc;obtain⟨r,hr,_,j7⟩:=Wf.row wf hi;refine⟨_,rfl,_,rfl,_,rfl,?_⟩;rw [Q5j];show B1 (.bw ((l++[i]).map iD)) (.st (.int (-1))) _;rw [Q1d];refine⟨iD i,by rw [aU];exact Z9c,?_⟩;refine O6 (i:=i) (d:=.tup (r.map iD)) (by rw [af,hr];rfl) ?_;refine⟨_,rfl,_,rfl,_,c,rfl,Q6z hc,?_⟩;refine O6 (i:=c) (d:=iD (B3 m.2 i c)) (by rw [af,(j7 c gH).1];rfl) ?_;refine⟨_,rfl,szl (by simp;omega),?_⟩;have e:(l++[i]).map iD++[iD (B3 m.2 i c)]=(l++[i]++[B3 m.2 i c]).map iD:=by simp
  show D1 _ _ _ _ [_,_,_,some (Sl.own ((l++[i]).map iD++[iD (B3 m.2 i c)])),_];rw [e];refine Z8z wf w (l++[i]) _ _ (fun d hd=>hw d (ae _ hd)) (j7 c gH).2 (by simp;omega) fun o4=>?_;rw [bI];exact h o4
def W8x:∀rs r,rs.length=3->Z0f rs r->Z7m (P3 r) (E9 Z8n rs):=by
 rintro rs r _ ⟨m,i,w,rfl,wf,hi,hw,hl,rfl⟩;unfold Z7m;simp only [C8,F8,s_lst,D2,E8,B0,C6,S1,Y4h,Z5i];refine⟨_,rfl,_,rfl,sz (by simp),?_⟩;rw [O8];refine⟨_,rfl,_,rfl,?_⟩;rw [Q4e hw];exact Z8z wf w [] i none hw hi (by simp;omega) fun o4=>⟨_,rfl,rfl⟩
mutual
theorem W0u:∀a b:D,D.eq a b=D.eq b a
 | .non,b=>by cases b <;> rfl
 | .bl a,b=>by cases b <;> simp [D.eq,Bool.beq_comm,eq_comm,BEq.comm]
 | .int a,b=>by cases b <;> simp [D.eq,eq_comm,BEq.comm]
 | .str a,b=>by cases b <;> simp [D.eq,eq_comm,BEq.comm]
 | .tup a,b=>by
  cases b with
  | tup b=>simp only [D.eq];exact eqs_comm' a b
  | _=>rfl
 | .lst a,b=>by
  cases b with
  | lst b=>simp only [D.eq];exact eqs_comm' a b
  | _=>rfl
theorem eqs_comm':∀a b:List D,D.eqs a b=D.eqs b a
 | [],b=>by cases b <;> rfl
 | x::xs,b=>by
  cases b with
  | nil=>rfl
  | cons y ys=>simp only [D.eqs];rw [W0u x y,eqs_comm' xs ys]
end
abbrev tD (w:List Nat):D:=.str (J7 w)
def U6 (ws:List (List Nat)):List (List Nat):=ws.flatMap fun w=>B2.map fun c=>w++[c]
def Q6f:Nat->List (List Nat)->List (List Nat)->List (List Nat)
 | 0,found,_=>found
 | n+1,found,row=>Q6f n (found++U6 row) (U6 row)
def Q3n (n:Nat):List (List Nat):=Q6f n [[]] [[]]
theorem Y2g (ws:List (List Nat)):(U6 ws).length=4*ws.length:=by
 induction ws with
 | nil=>rfl
 | cons w ws ih=>rw [U6,bB,ai,<- U6,ih,ac];simp only [aD,bj];omega
def W4d {ws:List (List Nat)}{k:Nat}(h:∀w∈ws,C3 w/\w.length<=k):∀w∈U6 ws,C3 w/\w.length<=k+1:=by
 intro w hw;obtain⟨u,hu,hw⟩:=bP.mp hw;obtain⟨c,hc,rfl⟩:=ah.mp hw;refine⟨(h u hu).1.snoc hc,?_⟩;have:=(h u hu).2;rw [ai];simp only [aD,bj];omega
def Z0q {w:List Nat}(h:C3 w):(J7 w).length=w.length:=by
 have:=congrArg List.length (Q4e h);rw [ac]at this;rw [<- this];unfold F5;rw [ac,bz];rfl
theorem sgn4:F5 "01ab"=B2.map fun c=>.str (K7 c):=rfl
def wsI:WS:=(C2 4 (A2 G5 (wV 4) (P8 1 [5] (Z3m (wC (.str "01ab"))) (B5 0) W8 (B7 (A2 G5 (wV 1) (wV 0))))))
theorem Y6i {E:F6}{o0 o1 o2 o3:Option Sl}:∀(ws bT:List (List Nat)) (o5:Option Sl),(∀w∈ws,C3 w/\w.length<=1000)->bT.length+4*ws.length<=100000->(∀o5,E.nx [o0,o1,o2,o3,some (.own ((bT++U6 ws).map tD)),o5]) ->
  D1 (B5 5) wsI E (ws.map tD) [o0,o1,o2,o3,some (.own (bT.map tD)),o5]
 | [],bT,o5,_,_,h=>by
  have:=h o5;simp only [U6,List.flatMap_nil,aW]at this;exact this
 | w::ws,bT,o5,hw,hl,h=>by
  rw [am,D1];rw [aD]at hl;simp only [wsI,M6,F8,D3,B0,D8,X8,V0o];refine⟨_,rfl,_,rfl,?_⟩;rw [sgn4];refine⟨sz (by simp),?_⟩;refine Q0b (f:=fun d=>match d with | .str s=>.str (J7 w++s) | d=>d) _ none _ (fun d hd Q' q=>?_) ?_
  ·obtain⟨c,hc,rfl⟩:=ah.mp hd;simp only [E8,D3,B0];refine⟨_,rfl,_,rfl,?_⟩;rw [Q5,Q5,Y3b];refine⟨sz ?_,q⟩;rw [Z0q (hw w ag).1];have:=(hw w ag).2;have:(K7 c).length=1:=by
    simp only [B2,ar,ba,ce]at hc;rcases hc with rfl | rfl | rfl | rfl <;> rfl
   omega
  ·rw [V3,W5l];refine⟨sz (by simp only [ac,aD,bj];omega),?_⟩;rw [O8];have e:bT.map tD++(B2.map fun c=>D.str (K7 c)).map (fun d=>match d with | .str s=>.str (J7 w++s) | d=>d)=(bT++B2.map fun c=>w++[c]).map tD:=by
    rw [aU,aF,aF];congr 1;exact aM fun c _=>by show D.str (J7 w++K7 c)=.str (J7 (w++[c]));rw [Y6g]
   show D1 _ _ _ _ [o0,o1,o2,o3,some (.own (bT.map tD++_)),_];rw [e];refine Y6i ws _ _ (fun u hu=>hw u (ae _ hu)) (by simp only [ai,ac,aD,bj];omega) fun o5=>?_;have:=h o5;rw [show U6 (w::ws)=(B2.map fun c=>w++[c])++U6 ws from rfl,<- bI]at this;exact this
def Q3f:Nat->Nat
 | 0=>0
 | n+1=>4+4*Q3f n
def wsO:WS:=(A7 (C2 4 (M3 A6)) (A7 (Q6c 4 (K4 (W1 (B7 (wV 2))) (B5 5) wsI)) (A7 (C2 2 (B7 (wV 4))) (C2 1 (A2 Z9 (wV 1) (wV 2))))))
theorem Y6j {E:F6}{o0:Option Sl}:∀(l:List D) (k:Nat) (found row:List (List Nat)) (o3 o4 o5:Option Sl),(∀w∈row,C3 w/\w.length<=k)->k+l.length<=1000->found.length+row.length*Q3f l.length<=100000 ->
  (∀ τ',(∃o2 o3 o4 o5,τ'=[o0,some (.own ((Q6f l.length found row).map tD)),o2,o3,o4,o5])->E.nx τ') ->
  D1 (B5 3) wsO E l [o0,some (.own (found.map tD)),some (.dat (.lst (row.map tD))),o3,o4,o5]
 | [],k,found,row,o3,o4,o5,_,_,_,h=>h _ ⟨_,_,_,_,rfl⟩
 | d::l,k,found,row,o3,o4,o5,hw,hk,hl,h=>by
  rw [D1];rw [aD]at hk hl;have jF:found.length+4*row.length+4*row.length*Q3f l.length<=100000:=by
   have e:row.length*Q3f (l.length+1)=4*row.length+4*row.length*Q3f l.length:=by
    show row.length*(4+4*Q3f l.length)=_;rw [Nat.mul_add,Nat.mul_comm row.length 4,<- Nat.mul_assoc,Nat.mul_comm row.length 4]
   omega
  simp only [wsO,M6,C8,F8,s_lst,C6,Z5c,S1,Q5q,E8,B0,D3];refine⟨_,rfl,sz (by simp),?_⟩;rw [O8];refine⟨_,rfl,?_⟩;rw [Q5,Q9r];refine⟨_,rfl,?_⟩;refine Y6i row [] o5 (fun w hm=>⟨(hw w hm).1,by have:=(hw w hm).2;omega⟩) (by simp;omega) fun o5=>?_;refine⟨_,rfl,_,rfl,?_⟩;rw [Q5,Q9r,L6];refine⟨_,rfl,_,rfl,?_⟩;rw [V3,Q5,Z4e];refine⟨_,_,rfl,rfl,sz (by simp only [ac,bX,Y2g];omega),?_⟩;rw [O8,<- aU];exact Y6j l (k+1) _ _ _ _ _ (W4d hw) (by omega) (by rw [ai,bX,Y2g];omega) h
def Z0i:D9:=fun rs r=>∃n:Nat,rs=[.st (iD n)]/\n<=5/\r=.nw ((Q3n n).map tD)
def W9p:∀rs r,rs.length=1->Z0i rs r->Z7g (P3 r) (E9 Z1i rs):=by
 rintro rs r _ ⟨n,rfl,hn,rfl⟩;unfold Z7g;simp only [C8,F8,s_lst,D2,C6,E8,D8,S1,Z5d,B0,Z5i];refine⟨_,rfl,sz (by simp),?_⟩;rw [O8];refine⟨_,rfl,sz (by simp),?_⟩;refine⟨_,rfl,_,rfl,by omega,by omega,?_⟩;have len:(O9 0 (n:Int).toNat).length=n:=by unfold O9;simp
 have hs:Q3f n<=5000:=by
  have:∀k,k<=5->Q3f k<=5000:=by decide
  exact this n hn
 refine Y6j _ 0 [[]] [[]] _ _ _ (fun w hw=>?_) (by omega) (by rw [len];simp;omega) fun τ' ⟨o2,o3,o4,o5,e⟩=>?_
 ·rw [aE.mp hw];exact⟨(fun c hc=>nomatch hc),aq _⟩
 subst e;rw [len];exact⟨_,rfl,rfl⟩
section
variable {es:List Bool}{rows:List (List Nat)}
def Z4 (wf:Wf es rows){i c:Nat}(hi:i<es.length)(hc:c∈B2):B3 rows i c<es.length:=by
 obtain⟨_,_,_,h⟩:=wf.row hi;exact(h c (by simp only [B2,ar,ba,ce]at hc;omega)).2
end
section
variable {α:Type}[DecidableEq α]
theorem Y5k {step:α->Nat->α}:∀(n:Nat) (ks:List α) (rs:List (List Nat)),O0 [0] rs=List.range ks.length->(∀s,s<rs.length->s<(O0 [0] (rs.take s)).length)->∀s,s<(P9 step n ks rs).2.length->s<(O0 [0] ((P9 step n ks rs).2.take s)).length
 | 0,ks,rs,_,h=>h
 | n+1,ks,rs,hm,h=>by
  unfold P9;split
  ·exact h
  ·rename_i k e;have hp:=(Q5o (step k) B2 ks []).length_le;have mz:O0 [0] (rs++[(I0 (step k) B2 ks []).2])=List.range (I0 (step k) B2 ks []).1.length:=by
    rw [Z4b,hm,Z0a,bX,Q9n (step k) ks.length B2 ks [] _ rfl (aq _) (fun x hx=>.inl hx) (fun x hx=>by cases hx),range_add];congr 1;omega
   refine Y5k n _ _ mz fun s hs=>?_;rw [ai,aD,bj]at hs
   by_cases lt:s<rs.length
   ·rw [List.take_append_of_le_length (eA lt)];exact h s lt
   ·have:s=rs.length:=by omega
    subst this;rw [List.take_append_of_le_length (aq _),List.take_length,hm,aZ];exact(av.mp e).1
end
theorem Y2t:∀(rs:List (List Nat)) (met:List Nat),met <+: O0 met rs
 | [],_=>bE _
 | r::rs,met=>(eQ _ _).trans (Y2t rs _)
theorem Y2s:∀(rs qs:List (List Nat)) (met:List Nat),O0 met (rs++qs)=O0 (O0 met rs) qs
 | [],_,_=>rfl
 | r::rs,qs,met=>Y2s rs qs _
theorem Wf.rowEq {es:List Bool}{rows:List (List Nat)}(w:Wf es rows){s:Nat}(h:s<es.length):rows[s]?=some (B2.map (B3 rows s)):=by
 obtain⟨r,e,l,g⟩:=w.row h;rw [e];have g0:=(g 0 (by decide)).1;have g1:=(g 1 (by decide)).1;have g2:=(g 2 (by decide)).1;have g3:=(g 3 (by decide)).1
 match r,l with
 | [a,b,c,d],_ =>
  injection g0 with g0;injection g1 with g1;injection g2 with g2;injection g3 with g3
  show some [a,b,c,d]=some [B3 rows s 0,B3 rows s 1,B3 rows s 2,B3 rows s 3];rw [<- g0,<- g1,<- g2,<- g3]
theorem Z3z {met:List Nat}{x:Nat}:∀(r pre:List Nat),x∈Q1a met pre r->x∈r
 | [],pre,h=>by rw [Q1a]at h;cases h
 | y::r,pre,h=>by
  rw [Q1a]at h;split at h
  ·exact ae _ (Z3z r _ h)
  ·rcases ar.mp h with rfl | h
   ·exact ag
   ·exact ae _ (Z3z r _ h)
theorem Y2r {x:Nat}:∀(rs:List (List Nat)) (met:List Nat),x∈O0 met rs->x∈met\/∃r∈rs,x∈r
 | [],met,h=>.inl h
 | r::rs,met,h=>by
  rw [O0]at h;rcases Y2r rs _ h with h | ⟨q,hq,h⟩
  ·rcases aR.mp h with h | h
   ·exact .inl h
   ·exact .inr ⟨r,ag,Z3z _ _ h⟩
  ·exact .inr ⟨q,ae _ hq,h⟩
abbrev Q8f:List Str:=["machine","ends","rows","keys","reached_rows","steps"]
def Y7m:WE:=(A2 B1 (A2 B1 (wV 2) (wV 0)) (wV 1))
def Z7k (dQ:Q2)  (Q5v:D9)(Q4f:Q1):WS:=(A7 (Q7u (wV 0) (gTp 2 (J5 (B5 1) (J5 (B5 2) gNl)))) (A7 (Q7u (Z6l dQ 2 [("rows",2)] Y7m Q5v (wC (.int 0))) (gTp 2 (J5 (B5 3) (J5 (B5 4) gNl)))) (A7 (C2 5 (Z6 Q4f (A4 (P8 1 [1] (Q2w (wV 3)) (B5 0) W8 (B7 (A2 B1 (wV 1) (wV 0)))) (A4 (wV 4) (A4 (wC (.bl true)) A6))))) (J3 (P8 1 [5] (Q0v (wV 4)) (B5 0) W8 (B7 (P8 1 [1] (Q0v (wV 0)) (B5 0) (A2 (Q0u true) (A2 B1 (wV 1) (wV 0)) (wC .non)) (B7 (wV 0)))))))))
abbrev Q8b:List Str:=["machine","onward","awaited","goals","goal","lengths","waiting","state"]
def Z6y   (sp_least_text:Q1)(sp_onward_goals:Q1):WS:=(A7 (N6 (A2 (Q0u false) (Z6 sp_least_text (A4 (wV 0) A6)) (wC .non)) (J3 (Y1 (wC (.int 1)))) M7) (A7 (C2 1 (Z6 sp_onward_goals (A4 (wV 0) A6))) (A7 (C2 2 (A2 S8 (M3 (A4 (B7 (wC (.int 0))) A6)) (E4 F4 (A4 (wV 1) A6)))) (A7 (K4 (iOwn 1) (B5 3) (K4 (W1 (B7 (wV 3))) (B5 4) (Q6b 2 (fun i j=>i+j) (wV 4) (wC (.int 1))))) (A7 (C2 5 (A2 S8 (M3 (A4 (B7 (wC (.int 0))) A6)) (E4 F4 (A4 (wV 1) A6)))) (A7 (C2 6 (P8 2 [] (Q9e (A4 (wV 2) A6)) (gTp 2 (J5 (B5 0) (J5 (B5 1) gNl))) (A2 (P6 60 false) (wV 1) (wC (.int 0))) (B7 (wV 0)))) (A7 (Q2k (Y2 (wV 6)) (A7 (Z6r 6 (B5 7)) (K4 (W1 (B7 (A2 B1 (wV 1) (wV 7)))) (B5 4) (A7 (Z0x 5 (wV 4) (B7 (E4 Q7e (A4 (A2 B1 (wV 5) (wV 4)) (A4 (A2 G5 (A2 B1 (wV 5) (wV 7)) (wC (.int 1))) A6))))) (A7 (Q6b 2 (fun i j=>i-j) (wV 4) (wC (.int 1))) (N6 (A2 (P6 60 false) (A2 B1 (wV 2) (wV 4)) (wC (.int 0))) (P2 6 (B7 (wV 4))) M7)))))) (J3 (wIf (A2 (P6 60 false) (E4 Q5g (A4 (wV 2) A6)) (wC (.int 0))) (E4 Q5g (A4 (wV 5) A6)) (wC .non))))))))))
abbrev Z8m:List Str:=["machine","ends","rows"]
def Y7k:WE:=(A2 B1 (A2 B1 (wV 2) (wV 0)) (wV 1))
def Z7v:WE:=(A2 B1 (wV 1) (wV 0))
def Z7h (dQ:Q2)  (Q5u:D9):WS:=(A7 (Q7u (wV 0) (gTp 2 (J5 (B5 1) (J5 (B5 2) gNl)))) (J3 (Y7d dQ 2 1 [("rows",2)] [("ends",1)] Y7k Z7v Q5u (wC (.int 0)))))
abbrev Z1k:List Str:=["machine"]
def Z7i   :WS:=(J3 (P8 1 [] (Q0v (A2 B1 (wV 0) (wC (.int 0)))) (B5 0) W8 (B7 (wIf (Y2 (wV 0)) (wC (.int 1)) (wC (.int 0))))))
abbrev Q8e:List Str:=["machine","counts"]
def Z7j   :WS:=(J3 (P8 1 [1] (Q0v (A2 B1 (wV 0) (wC (.int 1)))) (B5 0) W8 (B7 (E4 Q1k (A4 (P8 1 [1] (Q0v (wV 0)) (B5 0) W8 (B7 (A2 B1 (wV 1) (wV 0)))) A6)))))
def wl:Nat->List (List Nat)
 | 0=>[[]]
 | n+1=>U6 (wl n)
theorem Y7o:∀(n k:Nat) (found:List (List Nat)),Q6f n found (wl k)=found++(List.range n).flatMap fun i=>wl (k+1+i)
 | 0,k,found=>by simp [Q6f]
 | n+1,k,found=>by
  rw [Q6f,show U6 (wl k)=wl (k+1)from rfl,Y7o n (k+1),bq,bB,List.flatMap_map,bI];have:(fun(a:Nat)=>wl (k+1+a.succ))=fun(i:Nat)=>wl (k+1+1+i):=by funext i;rw [show k+1+i.succ=k+1+1+i by omega]
  rw [this]
def Z7y (n:Nat):Q3n n=(List.range (n+1)).flatMap wl:=by
 rw [Q3n,show([[]]:List (List Nat))=wl 0 from rfl,Y7o,bq,bB,List.flatMap_map];have:(fun(i:Nat)=>wl (0+1+i))=fun(a:Nat)=>wl a.succ:=by funext i;rw [show 0+1+i=i.succ by omega]
 rw [this]
theorem V2:∀{n:Nat}{w:List Nat},w∈wl n ↔ C3 w/\w.length=n
 | 0,w=>by
  rw [wl,aE];constructor
  ·rintro rfl;exact⟨C3.nil,rfl⟩
  ·rintro ⟨_,h⟩;exact cg.mp h
 | n+1,w=>by
  rw [wl,U6,bP];constructor
  ·rintro ⟨u,hu,hw⟩;obtain⟨c,hc,rfl⟩:=ah.mp hw;obtain⟨h1,h2⟩:=V2.mp hu;exact⟨h1.snoc hc,by rw [ai,h2];rfl⟩
  ·rintro ⟨h1,h2⟩;have cz:w≠[]:=fun e=>by rw [e]at h2;cases h2
   have e:=List.dropLast_concat_getLast cz;refine⟨w.dropLast,V2.mpr ⟨fun c hc=>h1 c (List.dropLast_subset w hc),by rw [List.length_dropLast,h2];rfl⟩,ah.mpr ⟨w.getLast cz,h1 _ (List.getLast_mem cz),e⟩⟩
def Q9m {n:Nat}{w:List Nat}:w∈Q3n n ↔ C3 w/\w.length<=n:=by
 rw [Z7y,bP];constructor
 ·rintro ⟨i,hi,h⟩;obtain⟨a,b⟩:=V2.mp h;exact⟨a,by have:=aK.mp hi;omega⟩
 ·rintro ⟨a,b⟩;exact⟨w.length,aK.mpr (by omega),V2.mpr ⟨a,rfl⟩⟩
def num (w:List Nat):Nat:=w.foldl (fun n c=>4*n+c+1) 0
def Q9o (w:List Nat)(c:Nat):num (w++[c])=4*num w+c+1:=by unfold num;rw [List.foldl_append];rfl
def Q3t {c:Nat}(h:c∈B2):c<4:=by simp only [B2,ar,ba,ce]at h;omega
theorem W4c {ws:List (List Nat)}(h:ws.Pairwise fun a b=>num a<num b):(U6 ws).Pairwise fun a b=>num a<num b:=by
 induction ws with
 | nil=>exact List.Pairwise.nil
 | cons w ws ih =>
  obtain⟨h1,h2⟩:=List.pairwise_cons.mp h;rw [U6,bB,List.pairwise_append];refine⟨?_,ih h2,fun a ha b hb=>?_⟩
  ·simp only [B2,am,gW];simp [List.pairwise_cons,Q9o]
  ·obtain⟨c,hc,rfl⟩:=ah.mp ha;obtain⟨v,hv,hb⟩:=bP.mp hb;obtain⟨d,hd,rfl⟩:=ah.mp hb;have:=h1 v hv;rw [Q9o,Q9o];have:=Q3t hc;omega
theorem Y7n:∀n,(wl n).Pairwise fun a b=>num a<num b
 | 0=>by rw [wl];simp
 | n+1=>W4c (Y7n n)
def lo:Nat->Nat
 | 0=>0
 | n+1=>4*lo n+1
def Y3a (w:List Nat):C3 w->lo w.length<=num w/\num w<lo (w.length+1):=by
 refine Z0e (P:=fun w=>C3 w->lo w.length<=num w/\num w<lo (w.length+1)) ?_ ?_ w
 ·intro _;exact⟨aq _,by show(0:Nat)<4*0+1;omega⟩
 ·intro w c ih hw;obtain⟨h1,h2⟩:=ih fun d hd=>hw d (aR.mpr (.inl hd));have hc:=Q3t (hw c (by simp));rw [Q9o,ai];show 4*lo w.length+1<=_/\_<4*lo (w.length+1)+1;omega
theorem W4b {i j:Nat}(h:i<=j):lo i<=lo j:=by
 induction j with
 | zero=>rw [Nat.le_zero.mp h];exact aq _
 | succ j ih =>
  rcases aX j i with z | z
  ·rw [show i=j+1 by omega];exact aq _
  ·have:=ih z;show lo i<=4*lo j+1;omega
def W5k {u w:List Nat}(hu:C3 u)(hw:C3 w)(h:u.length<w.length):num u<num w :=
 au (Y3a u hu).2 (aS (W4b h) (Y3a w hw).1)
def V3r (n:Nat):(Q3n n).Pairwise fun a b=>num a<num b:=by
 rw [Z7y];have key:∀l:List Nat,l.Pairwise (·<·)->(l.flatMap wl).Pairwise fun a b=>num a<num b:=by
  intro l
  induction l with
  | nil=>intro _;exact List.Pairwise.nil
  | cons i l ih =>
   intro h;obtain⟨h1,h2⟩:=List.pairwise_cons.mp h;rw [bB,List.pairwise_append];refine⟨Y7n i,ih h2,fun a ha b hb=>?_⟩;obtain⟨j,hj,hb⟩:=bP.mp hb;obtain⟨a1,a2⟩:=V2.mp ha;obtain⟨b1,b2⟩:=V2.mp hb;exact W5k a1 b1 (by have:=h1 j hj;omega)
 exact key _ List.pairwise_lt_range
def M0 (m:A8):Nat->List Nat
 | 0=>m.1.map fun b=>if b=true then 1 else 0
 | l+1=>m.2.map fun r=>(r.map fun g=>(M0 m l).getD g 0).sum
def E3 (m:A8)(l s:Nat):Nat:=(M0 m l).getD s 0
theorem Y9r {m:A8}(wf:C7 m):∀l,(M0 m l).length=m.1.length
 | 0=>by rw [M0,ac]
 | l+1=>by rw [M0,ac];exact wf.len
def Y0b (m:A8)(s:Nat):E3 m 0 s=if m.1.getD s false=true then 1 else 0:=by
 unfold E3 M0;rw [ak,af,ak];cases m.1[s]? <;> rfl
def Z2n {m:A8}(wf:C7 m){s:Nat}(h:s<m.1.length)(l:Nat):E3 m (l+1) s=(B2.map fun c=>E3 m l (B3 m.2 s c)).sum:=by
 unfold E3;rw [M0,ak,af,Wf.rowEq wf h];show((B2.map (B3 m.2 s)).map _).sum=_;rw [aF];rfl
def Q2i (m:A8)(p:List Nat)(c:Nat):D6 m (p++[c])=B3 m.2 (D6 m p) c:=by unfold D6;rw [Q2g];rfl
theorem Y0c {m:A8}(wf:C7 m):∀(k l:Nat),((wl k).map fun p=>E3 m l (D6 m p)).sum=E3 m (l+k) 0
 | 0,l=>by simp [wl,D6,run]
 | k+1,l=>by
  rw [show l+(k+1)=(l+1)+k by omega,<- Y0c wf k (l+1),wl,U6];have key:∀ws:List (List Nat),(∀w∈ws,C3 w)->((ws.flatMap fun w=>B2.map fun c=>w++[c]).map fun p=>E3 m l (D6 m p)).sum=(ws.map fun p=>E3 m (l+1) (D6 m p)).sum:=by
   intro ws
   induction ws with
   | nil=>intro _;rfl
   | cons w ws ih =>
    intro h;rw [bB,aU,List.sum_append,ih fun u hu=>h u (ae _ hu),am (f:=fun p=>E3 m (l+1) (D6 m p)),bZ,Z2n wf (Q1j wf w (h w ag)),aF];congr 2;exact aM fun c _=>by show E3 m l (D6 m (w++[c]))=_;rw [Q2i]
  exact key _ fun w hw=>(V2.mp hw).1
def Q2s {m:A8}(wf:C7 m)(k:Nat):E3 m k 0=((wl k).filter (J6 m)).length:=by
 have:=Y0c wf k 0;rw [cG]at this;rw [<- this];have key:∀ws:List (List Nat),(ws.map fun p=>E3 m 0 (D6 m p)).sum=(ws.filter (J6 m)).length:=by
  intro ws
  induction ws with
  | nil=>rfl
  | cons w ws ih =>
   rw [am,bZ,ih,Y0b,cH];show(if J6 m w=true then 1 else 0)+_=_;split
   ·rw [aD];omega
   ·omega
 exact key _
theorem V1y {l:List Nat}:0<l.sum ↔ ∃x∈l,0<x:=by
 induction l with
 | nil=>simp
 | cons a l ih =>
  rw [bZ];constructor
  ·intro h;rcases Nat.eq_zero_or_pos a with z | z
   ·obtain⟨x,hx,h⟩:=ih.mp (by omega);exact⟨x,ae _ hx,h⟩
   ·exact⟨a,ag,z⟩
  ·rintro ⟨x,hx,h⟩;rcases ar.mp hx with rfl | hx
   ·omega
   ·have:=ih.mpr ⟨x,hx,h⟩;omega
def Y6o {m:A8}(wf:C7 m){w:List Nat}(hw:C3 w)(hl:m.1.length<=w.length):∃i j,i<j/\j<=m.1.length/\D6 m (w.take i)=D6 m (w.take j):=by
 refine Classical.byContradiction fun no=>?_;have nd:((List.range (m.1.length+1)).map fun i=>D6 m (w.take i)).Nodup:=by
  rw [List.nodup_iff_pairwise_ne,List.pairwise_map];refine List.Pairwise.imp_of_mem (R:=fun a b=>a<b) (fun {a b} ha hb h e=>no ⟨a,b,h,?_,e⟩) List.pairwise_lt_range;have:=aK.mp hb;omega
 have:=nd.length_le_of_subset (l₂:=List.range m.1.length) fun x hx=>by
  obtain⟨i,_,rfl⟩:=ah.mp hx;exact aK.mpr (Q1j wf _ fun c hc=>hw c (List.mem_of_mem_take hc))
 simp at this;omega
def Z8s (m:A8){w:List Nat}{i j:Nat}(e:D6 m (w.take i)=D6 m (w.take j)):J6 m (w.take i++w.drop j)=J6 m w:=by
 have h:D6 m (w.take i++w.drop j)=D6 m w:=by
  conv=>rhs;rw [<- List.take_append_drop j w]
  unfold D6 at e ⊢;rw [Q2g,Q2g,e]
 unfold J6;rw [h]
def C3.parts {w:List Nat}(h:C3 w)(i j:Nat):C3 (w.take i++w.drop j):=fun c hc=>(aR.mp hc).elim (fun q=>h c (List.mem_of_mem_take q)) fun q=>h c (List.mem_of_mem_drop q)
def cut {m:A8}(wf:C7 m){w:List Nat}(hw:C3 w)(ha:J6 m w=true)(hl:m.1.length<=w.length):∃u,C3 u/\J6 m u=true/\u.length<w.length/\w.length<=u.length+m.1.length:=by
 obtain⟨i,j,h1,h2,e⟩:=Y6o wf hw hl;refine⟨w.take i++w.drop j,hw.parts i j,by rw [Z8s m e];exact ha,?_,?_⟩ <;> (rw [ai,dz,gn];omega)
def pump {m:A8}(wf:C7 m){w:List Nat}(hw:C3 w)(ha:J6 m w=true)(hl:m.1.length<=w.length):∃u,C3 u/\J6 m u=true/\w.length<u.length:=by
 obtain⟨i,j,h1,h2,e⟩:=Y6o wf hw hl;refine⟨w.take j++w.drop i,hw.parts j i,by rw [Z8s m e.symm];exact ha,?_⟩;rw [ai,dz,gn];omega
def L8 (m:A8)(w:List Nat):Prop:=C3 w/\J6 m w=true
def Inf (m:A8):Prop:=∀N,∃w,L8 m w/\N<=w.length
def Y7j {m:A8}(wf:C7 m)(h:Inf m)(N:Nat):∃w,L8 m w/\N<=w.length/\w.length<N+m.1.length:=by
 obtain⟨w,hw,hN⟩:=h N;have key:∀(k:Nat) (w:List Nat),w.length<=k->L8 m w->N<=w.length->∃w,L8 m w/\N<=w.length/\w.length<N+m.1.length:=by
  intro k
  induction k with
  | zero=>intro w hk hw hN;exact⟨w,hw,hN,by have:=wf.pos;omega⟩
  | succ k ih =>
   intro w hk hw hN
   by_cases hl:w.length<N+m.1.length
   ·exact⟨w,hw,hN,hl⟩
   ·obtain⟨u,u1,u2,u3,u4⟩:=cut wf hw.1 hw.2 (by omega);exact ih u (by omega) ⟨u1,u2⟩ (by omega)
 exact key _ w (aq _) hw hN
def Q0l (m:A8)(d:D):Prop:=(d=.int (-1)/\∀w,¬ L8 m w)\/(∃L:Nat,d=.int (L:Int)/\(∃w,L8 m w/\w.length=L)/\∀w,L8 m w->w.length<=L)\/(d=.non/\Inf m)
def W3l {m:A8}(wf:C7 m){L:Nat}(h:∀w,L8 m w->w.length<=L)(e:∃w,L8 m w/\w.length=L):L<m.1.length:=by
 obtain⟨w,hw,rfl⟩:=e;refine Classical.byContradiction fun no=>?_;obtain⟨u,u1,u2,u3⟩:=pump wf hw.1 hw.2 (by omega);have:=h u ⟨u1,u2⟩;omega
def Use (m:A8)(s:Nat):Prop:=∃w,C3 w/\Q3q m.1 m.2 s w=true
structure Gr (m:A8)(on:List (List Nat)):Prop where
 wf:C7 m
 len:on.length=m.1.length
 mem:∀u v,u<m.1.length->(v∈on.getD u [] ↔ (∃c∈B2,B3 m.2 u c=v)/\Use m v)
 reach:∀s,s<m.1.length->∃w,C3 w/\D6 m w=s
section
variable {m:A8}{on:List (List Nat)}(G:Gr m on)
include G
def Gr.lt {u v:Nat}(hu:u<m.1.length)(h:v∈on.getD u []):v<m.1.length:=by
 obtain⟨⟨c,hc,rfl⟩,_⟩:=(G.mem u v hu).mp h;exact Z4 G.wf hu hc
omit G in
def Y6u {u c:Nat}(hc:c∈B2)(h:Use m (B3 m.2 u c)):Use m u:=by
 obtain⟨w,hw,ha⟩:=h;exact⟨c::w,fun d hd=>by rcases ar.mp hd with rfl | hd;exact hc;exact hw d hd,ha⟩
def Gr.edge {u c:Nat}(hu:u<m.1.length)(hc:c∈B2)(h:Use m (B3 m.2 u c)):B3 m.2 u c∈on.getD u []:=(G.mem u _ hu).mpr ⟨⟨c,hc,rfl⟩,h⟩
def Gr.long {Ln:Nat->Nat}(h1:∀u v,u<m.1.length->v∈on.getD u []->Ln u+1<=Ln v)(w:List Nat):C3 w->Use m (D6 m w)->w.length<=Ln (D6 m w):=by
 refine Z0e (P:=fun w=>C3 w->Use m (D6 m w)->w.length<=Ln (D6 m w)) (fun _ _=>bt _) ?_ w;intro u c ih hw hU;have hu:C3 u:=fun d hd=>hw d (by simp [hd]);have hc:=hw c (by simp);rw [Q2i]at hU ⊢;have:=ih hu (Y6u hc hU);have:=h1 _ _ (Q1j G.wf u hu) (G.edge (Q1j G.wf u hu) hc hU);rw [ai];simp only [aD,bj];omega
theorem Gr.way {Ln:Nat->Nat}(h1:∀u v,u<m.1.length->v∈on.getD u []->Ln u+1<=Ln v)(h2:∀v,v<m.1.length->0<Ln v->∃u,u<m.1.length/\v∈on.getD u []/\Ln v=Ln u+1):∀(k v:Nat),v<m.1.length->Ln v=k->Use m v->∃w,C3 w/\w.length=k/\D6 m w=v
 | 0,v,hv,e,hU=>by
  obtain⟨w,hw,hs⟩:=G.reach v hv;rcases List.eq_nil_or_concat w with rfl | ⟨u,c,rfl⟩
  ·exact⟨[],C3.nil,rfl,hs⟩
  ·have hu:C3 u:=fun d hd=>hw d (by simp [hd]);have hc:=hw c (by simp);rw [List.concat_eq_append,Q2i]at hs;have:=h1 _ _ (Q1j G.wf u hu) (G.edge (Q1j G.wf u hu) hc (by rw [hs];exact hU));rw [hs]at this;omega
 | k+1,v,hv,e,hU=>by
  obtain⟨u,hu,ek,e2⟩:=h2 v hv (by omega);obtain⟨⟨c,hc,ec⟩,_⟩:=(G.mem u v hu).mp ek;obtain⟨w,w1,w2,w3⟩:=Gr.way h1 h2 k u hu (by omega) (Y6u hc (by rw [ec];exact hU));exact⟨w++[c],w1.snoc hc,by rw [ai,w2];rfl,by rw [Q2i,w3,ec]⟩
def Gr.last {Ln:Nat->Nat}{L:Nat}(h1:∀u v,u<m.1.length->v∈on.getD u []->Ln u+1<=Ln v)(h2:∀v,v<m.1.length->0<Ln v->∃u,u<m.1.length/\v∈on.getD u []/\Ln v=Ln u+1)
  (hm:∃v,v<m.1.length/\Ln v=L) (hL:∀v,v<m.1.length->Ln v<=L) (ha:∃w,L8 m w):Q0l m (.int (L:Int)):=by
 have up:∀w,L8 m w->w.length<=L:=fun w hw=>aS (G.long h1 w hw.1 ⟨[],C3.nil,hw.2⟩) (hL _ (Q1j G.wf w hw.1));have U0:Use m 0:=by obtain⟨w,hw⟩:=ha;exact⟨w,hw.1,hw.2⟩
 have fin:∀v,v<m.1.length->Ln v=L->Use m v->∃w,L8 m w/\w.length=L:=fun v hv e hU=>by
  obtain⟨w,w1,w2,w3⟩:=G.way h1 h2 L v hv e hU;obtain⟨x,hx,ln⟩:=hU;cases x with
  | nil=>exact⟨w,⟨w1,by unfold J6;rw [w3];exact ln⟩,w2⟩
  | cons c x =>
   have hc:=hx c ag;have U2:Use m (B3 m.2 v c):=⟨x,fun d hd=>hx d (ae _ hd),ln⟩
   have:=h1 _ _ hv (G.edge hv hc U2);have:=hL _ (Z4 G.wf hv hc);omega
 refine .inr (.inl ⟨L,rfl,?_,up⟩);obtain⟨v,hv,e⟩:=hm;rcases Nat.eq_zero_or_pos L with z | z
 ·exact fin 0 G.wf.pos (by have:=hL 0 G.wf.pos;omega) U0
 ·obtain⟨u,hu,ek,_⟩:=h2 v hv (by omega);exact fin v hv e ((G.mem u v hu).mp ek).2
def Gr.inf {S:Nat->Prop}(h:∀v,S v->v<m.1.length/\∃u,S u/\v∈on.getD u [])(hS:∃v,S v):Inf m:=by
 have key:∀(N v:Nat),S v->∃u w,u<m.1.length/\C3 w/\w.length=N/\run (B3 m.2) u w=v:=by
  intro N
  induction N with
  | zero=>intro v hv;exact⟨v,[],(h v hv).1,C3.nil,rfl,rfl⟩
  | succ N ih =>
   intro v hv;obtain⟨_,u,hu,ek⟩:=h v hv;obtain⟨⟨c,hc,ec⟩,_⟩:=(G.mem u v (h u hu).1).mp ek;obtain⟨x,w,x1,x2,x3,x4⟩:=ih u hu;exact⟨x,w++[c],x1,x2.snoc hc,by rw [ai,x3];rfl,by rw [Q2g,x4];exact ec⟩
 intro N;obtain⟨v,hv⟩:=hS;obtain⟨u,w,u1,w1,w2,w3⟩:=key N v hv;obtain⟨_,u',qf,ek⟩:=h v hv;obtain⟨_,x,hx,ln⟩:=(G.mem u' v (h u' qf).1).mp ek;obtain⟨y,hy,jB⟩:=G.reach u u1;refine⟨y++w++x,⟨(hy.app w1).app hx,?_⟩,by rw [ai,ai];omega⟩;unfold J6 D6;rw [Q2g,Q2g];unfold D6 at jB;rw [jB,w3];exact ln
end
def inc (on:List (List Nat))(P:List Nat)(v:Nat):Nat:=(((List.range on.length).filter fun u=>decide (u∉P)).map fun u=>(on.getD u []).count v).sum
theorem Y5z {f:Nat->Nat}{s:Nat}:∀{l:List Nat},l.Nodup->s∈l->(l.map f).sum=((l.filter fun u=>decide (u≠s)).map f).sum+f s
 | [],_,h=>by cases h
 | x::l,nd,h=>by
  obtain⟨n1,n2⟩:=bi.mp nd;rw [am,bZ,cH]
  by_cases e:x=s
  ·subst e;rw [az (by simp)];have:l.filter (fun u=>decide (u≠x))=l:=List.filter_eq_self.mpr fun u hu=>bo fun z=>n1 (z ▸ hu);rw [this];omega
  ·rw [aG (by simpa using e),am,bZ,Y5z n2 ((ar.mp h).resolve_left fun z=>e z.symm)];omega
def W2a {on:List (List Nat)}{P:List Nat}{s:Nat}(hs:s<on.length)(hP:s∉P)(v:Nat):inc on P v=inc on (s::P) v+(on.getD s []).count v:=by
 unfold inc;rw [Y5z (s:=s) ((List.nodup_range.sublist List.filter_sublist)) (b8.mpr ⟨aK.mpr hs,bo hP⟩),List.filter_filter];congr 3;refine List.filter_congr fun u _=>?_
 by_cases h1:u=s <;> by_cases h2:u∈P <;> simp [h1,h2]
def W2b {on:List (List Nat)}{P:List Nat}{v:Nat}(h:0<inc on P v):∃u,u<on.length/\u∉P/\v∈on.getD u []:=by
 unfold inc at h;obtain⟨x,hx,h⟩:=V1y.mp h;obtain⟨u,hu,rfl⟩:=ah.mp hx;obtain⟨h1,h2⟩:=b8.mp hu;exact⟨u,aK.mp h1,dh h2,List.count_pos_iff.mp h⟩
structure Kh (on:List (List Nat))(a Ln:Nat->Nat)(W P:List Nat):Prop where
 cnt:∀v,v<on.length->a v=inc on P v
 nd:(W++P).Nodup
 lt:∀v∈W++P,v<on.length
 zero:∀v,v<on.length->(a v=0 ↔ v∈W++P)
 ge:∀u v,u∈P->v∈on.getD u []->Ln u+1<=Ln v
 eq:∀v,0<Ln v->∃u∈P,v∈on.getD u []/\Ln v=Ln u+1
structure Ki (on:List (List Nat))(s:Nat)(a Ln:Nat->Nat)(W P rest:List Nat):Prop where
 cnt:∀v,v<on.length->a v=inc on (s::P) v+rest.count v
 nd:(W++s::P).Nodup
 lt:∀v∈W++s::P,v<on.length
 zero:∀v,v<on.length->(a v=0 ↔ v∈W++s::P)
 ge:∀u v,u∈P->v∈on.getD u []->Ln u+1<=Ln v
 ges:∀v,v∈on.getD s []->v∈rest\/Ln s+1<=Ln v
 eq:∀v,0<Ln v->∃u∈s::P,v∈on.getD u []/\Ln v=Ln u+1
 sub:∀v∈rest,v∈on.getD s []
 ins:∀v,v∈on.getD s []->v<on.length
def Kh.pop {on:List (List Nat)}{a Ln:Nat->Nat}{W P:List Nat}{s:Nat}(K:Kh on a Ln (W++[s]) P)(ek:∀v,v∈on.getD s []->v<on.length):Ki on s a Ln W P (on.getD s []):=by
 have hs:s<on.length:=K.lt s (by simp);have e:W++[s]++P=W++s::P:=by simp
 have nd:=K.nd;rw [e]at nd;have hP:s∉P:=(bi.mp (be.mp nd).2.1).1;refine⟨fun v hv=>by rw [K.cnt v hv,W2a hs hP],nd,fun v hv=>K.lt v (by rw [e];exact hv),fun v hv=>by rw [K.zero v hv,e],K.ge,fun v hv=>.inl hv,fun v h=>?_,fun v h=>h,ek⟩;obtain⟨u,hu,q⟩:=K.eq v h;exact⟨u,ae _ hu,q⟩
def Ki.done {on:List (List Nat)}{a Ln:Nat->Nat}{W P:List Nat}{s:Nat}(K:Ki on s a Ln W P []):Kh on a Ln W (s::P):=by
 refine⟨fun v hv=>by rw [K.cnt v hv];rfl,K.nd,K.lt,K.zero,fun u v hu hv=>?_,K.eq⟩;rcases ar.mp hu with rfl | hu
 ·exact(K.ges v hv).resolve_left (by simp)
 ·exact K.ge u v hu hv
def Ki.turn {on:List (List Nat)}{a Ln:Nat->Nat}{W P rest:List Nat}{s g:Nat}(K:Ki on s a Ln W P (g::rest)) :
  g<on.length/\0<a g/\g≠s/\Ki on s (fun i=>if i=g then a i-1 else a i) (fun i=>if i=g then max (Ln i) (Ln s+1)else Ln i) (if a g=1 then W++[g]else W) P rest:=by
 have hg:g<on.length:=K.ins g (K.sub g ag);have hc:=K.cnt g hg;rw [List.count_cons_self]at hc;have fR:0<a g:=by omega
 have eY:g∉W++s::P:=fun h=>by have:=(K.zero g hg).mpr h;omega
 have fY:g≠s:=fun e=>eY (by rw [e];simp);have mG:g∉P:=fun h=>eY (by simp [h]);refine⟨hg,fR,fY,?_⟩;have fU:∀v,v∈(if a g=1 then W++[g]else W)++s::P ↔ v∈W++s::P\/(a g=1/\v=g):=fun v=>by
  split
  ·rename_i h;simp only [aR,ar,ba,ce];constructor
   ·rintro ((q | q) | q)
    ·exact .inl (.inl q)
    ·exact .inr ⟨h,q⟩
    ·exact .inl (.inr q)
   ·rintro ((q | q) | ⟨_,q⟩)
    ·exact .inl (.inl q)
    ·exact .inr q
    ·exact .inl (.inr q)
  ·rename_i h;constructor
   ·exact .inl
   ·rintro (q | ⟨q,_⟩)
    ·exact q
    ·exact absurd q h
 refine⟨fun v hv=>?_,?_,fun v hv=>?_,fun v hv=>?_,fun u v hu hv=>?_,fun v hv=>?_,fun v h=>?_,fun v hv=>K.sub v (ae _ hv),K.ins⟩
 ·show(if v=g then a v-1 else a v)=_
  by_cases e:v=g
  ·subst e;rw [aG rfl];omega
  ·rw [az e,K.cnt v hv,List.count_cons_of_ne (fun z=>e z.symm)]
 ·split
  ·rw [bI];have nd:=be.mp K.nd;rw [be];refine⟨nd.1,?_,fun x hx y hy=>?_⟩
   ·rw [List.singleton_append,bi];exact⟨fun h=>eY (aR.mpr (.inr h)),nd.2.1⟩
   ·rcases aR.mp hy with hy | hy
    ·rw [aE.mp hy];rintro rfl;exact eY (aR.mpr (.inl hx))
    ·exact nd.2.2 x hx y hy
  ·exact K.nd
 ·rcases (fU v).mp hv with h | ⟨_,rfl⟩
  ·exact K.lt v h
  ·exact hg
 ·rw [fU v];show(if v=g then a v-1 else a v)=0 ↔ _
  by_cases e:v=g
  ·subst e;rw [aG rfl];constructor
   ·intro h;exact .inr ⟨by omega,rfl⟩
   ·rintro (h | ⟨h,_⟩)
    ·exact absurd h eY
    ·omega
  ·rw [az e,K.zero v hv];exact⟨.inl,fun h=>h.resolve_right fun q=>e q.2⟩
 ·show(if u=g then _ else Ln u)+1<=(if v=g then _ else Ln v);have qe:u≠g:=fun e=>mG (e ▸ hu);rw [az qe];have:=K.ge u v hu hv;split <;> omega
 ·show _\/(if s=g then _ else Ln s)+1<=(if v=g then _ else Ln v);rw [az (fun e=>fY e.symm)]
  by_cases e:v=g
  ·subst e;rw [aG rfl];exact .inr (Nat.le_max_right _ _)
  ·rw [az e];rcases K.ges v hv with h | h
   ·exact .inl ((ar.mp h).resolve_left e)
   ·exact .inr h
 ·have keep:∀u,u∈s::P->(if u=g then max (Ln u) (Ln s+1)else Ln u)=Ln u:=fun u hu=>az fun e=>eY (by rw [<- e];exact aR.mpr (.inr hu));have h:0<(if v=g then max (Ln v) (Ln s+1)else Ln v):=h;show ∃u∈s::P,v∈on.getD u []/\(if v=g then max (Ln v) (Ln s+1)else Ln v)=(if u=g then _ else Ln u)+1
  by_cases e:v=g
  ·subst e;rw [aG rfl];rcases Nat.le_total (Ln v) (Ln s+1)with q | q
   ·refine⟨s,ag,K.sub v ag,?_⟩;rw [keep s ag,Nat.max_eq_right q]
   ·obtain⟨u,hu,h1,h2⟩:=K.eq v (by omega);exact⟨u,hu,h1,by rw [keep u hu,Nat.max_eq_left q];exact h2⟩
  ·rw [az e]at h ⊢;obtain⟨u,hu,h1,h2⟩:=K.eq v h;exact⟨u,hu,h1,by rw [keep u hu];exact h2⟩
def Kh.last {m:A8}{on:List (List Nat)}(G:Gr m on){a Ln:Nat->Nat}{P:List Nat}{L:Nat}(K:Kh on a Ln [] P)(h0:∀v,v<on.length->a v=0)(hm:∃v,v<on.length/\Ln v=L)(hL:∀v,v<on.length->Ln v<=L)(ha:∃w,L8 m w):Q0l m (.int (L:Int)):=by
 have all:∀v,v<on.length->v∈P:=fun v hv=>by simpa using (K.zero v hv).mp (h0 v hv)
 rw [G.len]at hm;refine G.last (fun u v hu hv=>K.ge u v (all u (by rw [G.len];exact hu)) hv) (fun v hv h=>?_) hm (fun v hv=>hL v (by rw [G.len];exact hv)) ha;obtain⟨u,hu,q⟩:=K.eq v h;exact⟨u,by rw [<- G.len];exact K.lt u (by simpa using hu),q⟩
def Kh.inf {m:A8}{on:List (List Nat)}(G:Gr m on){a Ln:Nat->Nat}{P:List Nat}(K:Kh on a Ln [] P)(h0:∃v,v<on.length/\a v≠0):Inf m:=by
 refine G.inf (S:=fun v=>v<on.length/\a v≠0) (fun v ⟨hv,h⟩=>⟨by rw [<- G.len];exact hv,?_⟩) h0;rw [K.cnt v hv]at h;obtain⟨u,u1,u2,u3⟩:=W2b (by omega:0<inc on P v);exact⟨u,⟨u1,fun z=>u2 (by simpa using (K.zero u u1).mp z)⟩,u3⟩
def Kh.start (on:List (List Nat)):Kh on (inc on []) (fun _=>0) ((List.range on.length).filter fun v=>decide (inc on [] v=0)) []:=by
 refine⟨fun v _=>rfl,?_,fun v hv=>?_,fun v hv=>?_,fun u v hu=>(by cases hu),fun v h=>absurd h (aV 0)⟩
 ·rw [aW];exact(List.nodup_range.sublist List.filter_sublist)
 ·rw [aW]at hv;exact aK.mp (b8.mp hv).1
 ·rw [aW,b8,aK,decide_eq_true_iff];exact⟨fun h=>⟨hv,h⟩,fun h=>h.2⟩
def E7 (m:A8):A8:=Q4r (List.range m.1.length) (B3 m.2) 0 (fun s=>m.1.getD s false)
section
variable {m:A8}(wf:C7 m)
include wf
def Q7q:∀k∈List.range m.1.length,∀c∈B2,B3 m.2 k c∈List.range m.1.length:=fun k hk c hc=>aK.mpr (Z4 wf (aK.mp hk) hc)
def Q7y:0∈List.range m.1.length:=aK.mpr wf.pos
def Z4v:Q1s (B3 m.2) 0 (List.range m.1.length) (X0 (List.range m.1.length).length (B3 m.2) 0).1 (X0 (List.range m.1.length).length (B3 m.2) 0).2:=Y7f (Q7q wf) (Q7y wf) (aq _)
def Z4w:C7 (E7 m):=(Z4v wf).wf _
def Y3x {w:List Nat}(hw:C3 w):J6 (E7 m) w=J6 m w:=Y9f (Q7q wf) (Q7y wf) hw
def Y3y:(E7 m).1.length<=m.1.length:=by
 have:=(Z4v wf).le;rw [aZ]at this;show(List.map _ _).length<=_;rw [ac];rw [aZ];exact this
theorem W9s (s:Nat)(hs:s<(E7 m).1.length):∃w,C3 w/\D6 (E7 m) w=s:=by
 have el:(E7 m).1.length=(X0 (List.range m.1.length).length (B3 m.2) 0).1.length:=by simp [E7,Q4r]
 have met:O0 [0] (E7 m).2=List.range (E7 m).1.length:=by rw [el];exact W4o (α:=Nat) (step:=B3 m.2) (start:=0) (N:=(List.range m.1.length).length)
 have seen:∀s,s<(E7 m).2.length->s<(O0 [0] ((E7 m).2.take s)).length:=Y5k (step:=B3 m.2) (List.range m.1.length).length [0] [] rfl fun s hs=>absurd hs (ip _);have nF:=Z4w wf
 induction s using Nat.strongRecOn with
 | _ s ih =>
  have hk:∃k,O0 [0] ((E7 m).2.take s)=List.range k:=by
   have p:O0 [0] ((E7 m).2.take s) <+: O0 [0] (E7 m).2:=by
    conv=>rhs;rw [<- List.take_append_drop s (E7 m).2]
    rw [Y2s];exact Y2t _ _
   rw [met]at p;obtain⟨t,ht⟩:=p;refine⟨(O0 [0] ((E7 m).2.take s)).length,?_⟩;have e:=congrArg (List.take (O0 [0] ((E7 m).2.take s)).length) ht;rw [List.take_left,List.take_range]at e;have hl:=congrArg List.length ht;rw [ai,aZ]at hl;rw [Nat.min_eq_left (by omega)]at e;exact e
  obtain⟨k,hk⟩:=hk;have h:=seen s (by rw [nF.len];exact hs);rw [hk,aZ]at h;have hm:s∈O0 [0] ((E7 m).2.take s):=by rw [hk];exact aK.mpr h
  rcases Y2r _ _ hm with h0 | ⟨r,hr,hx⟩
  ·rw [aE.mp h0];exact⟨[],C3.nil,rfl⟩
  ·obtain⟨i,hi,e⟩:=bS.mp hr;rw [dz]at hi;have qG:i<s:=by omega
   have oa:i<(E7 m).1.length:=by omega
   rw [List.getElem_take]at e;have i7:=nF.rowEq oa;have oh:i<(E7 m).2.length:=by omega
   rw [aa oh,e]at i7;rw [aA i7]at hx;obtain⟨c,hc,qQ⟩:=ah.mp hx;obtain⟨w,hw,pY⟩:=ih i qG oa;exact⟨w++[c],hw.snoc hc,by rw [Q2i,pY,qQ]⟩
end
def Q1l (m:A8)(g:Nat):Bool:=(Z0 (T1 (K6 m.2) (N9 m.1 true)) g).isSome
def G9 (m:A8):List (List Nat):=(E7 m).2.map fun r=>r.filter (Q1l (E7 m))
def Y6v {m:A8}(wf:C7 m){g:Nat}(hg:g<m.1.length):Q1l m g=true ↔ Use m g:=by
 obtain⟨h1,h2⟩:=W0k wf true;unfold Q1l;constructor
 ·intro h;obtain⟨d,e⟩:=Option.isSome_iff_exists.mp h;obtain⟨w,hw,_,ha⟩:=h1 g d hg e;exact⟨w,hw,ha⟩
 ·rintro ⟨w,hw,ha⟩;obtain⟨d,e,_⟩:=h2 w g hw hg ha;rw [e];rfl
def W5u {m:A8}(wf:C7 m):Gr (E7 m) (G9 m):=by
 have w2:=Z4w wf;refine⟨w2,by rw [G9,ac];exact w2.len,fun u v hu=>?_,W9s wf⟩;have e:(G9 m).getD u []=(B2.map (B3 (E7 m).2 u)).filter (Q1l (E7 m)):=by
  rw [G9,ak,af,w2.rowEq hu];rfl
 rw [e,b8,ah];constructor
 ·rintro ⟨⟨c,hc,rfl⟩,h⟩;exact⟨⟨c,hc,rfl⟩,(Y6v w2 (Z4 w2 hu hc)).mp h⟩
 ·rintro ⟨⟨c,hc,rfl⟩,h⟩;exact⟨⟨c,hc,rfl⟩,(Y6v w2 (Z4 w2 hu hc)).mpr h⟩
def Q8x (m:A8):Option Str:=Q2v m.1.length (B3 m.2) 0 fun s=>m.1.getD s false
def sp_least_text:Q1:=fun rs Pr=>∃m:A8,rs=[.st (mD m)]/\C7 m/\m.1.length<=20000/\Pr (.st (sD (Q8x m)))
def W4u:Q2p sp_least_text:=by rintro rs P Q f ⟨m,e,h1,h2,h3⟩;exact⟨m,e,h1,h2,f _ h3⟩
def Y1z {m:A8}(wf:C7 m){k c:Nat}(hk:k<m.1.length)(hc:c∈B2){wb:WE}(hb:wb=(A2 B1 (A2 B1 (wV 2) (wV 0)) (wV 1))):Q0d wb [.dat (rsD m.2)] [.st (iD k),.st (iD c)] (.st (iD (B3 m.2 k c))):=by
 subst hb;refine⟨[iD k,iD c],iD (B3 m.2 k c),rfl,rfl,?_⟩;obtain⟨r,hr,_,j7⟩:=Wf.row wf hk;simp only [D3,B0];refine⟨_,rfl,_,rfl,?_⟩;refine O6 (i:=k) (d:=.tup (r.map iD)) (by rw [af,hr];rfl) ?_;refine⟨_,rfl,O6 (i:=c) (d:=iD (B3 m.2 k c)) (by rw [af,(j7 c (Q3t hc)).1];rfl) rfl⟩
def W9f {dQ:Q2}:∀rs Pr,rs.length=1->sp_least_text rs Pr->Z7h dQ (Q5u dQ) (T5 Pr) (E9 Z8m rs):=by
 rintro rs Pr _ ⟨m,rfl,wf,hl,h⟩;unfold Z7h;simp only [C8,Z5a,B0,Q3d,Q3b,M6,Q3c,Q6];refine⟨_,rfl,_,rfl,_,rfl,rfl,_,_,rfl,_,_,rfl,rfl,?_⟩;refine⟨rfl,[.dat (rsD m.2)],[.dat (.tup (m.1.map .bl))],⟨_,_,rfl,rfl,trivial,rfl⟩,⟨_,_,rfl,rfl,trivial,rfl⟩,fun f Φ g Ψ hF hG=>?_⟩;refine⟨_,⟨Nat,inferInstance,iD,ik,B3 m.2,0,fun s=>m.1.getD s false,List.range m.1.length,f,g,Φ,Ψ,_,_,fun _=>rfl,Q4y,rfl,hF,hG,Q7y wf,by rw [aZ];omega,fun k hk c hc=>⟨Q7q wf k hk c hc,Y1z wf (aK.mp hk) hc rfl⟩,fun k hk=>?_,rfl⟩,?_⟩
 ·refine⟨[iD k],_,rfl,rfl,?_⟩;unfold Z7v;simp only [D3,B0];exact⟨_,rfl,_,rfl,O6 (i:=k) (Q6n (aK.mp hk)) rfl⟩
 ·rw [aZ];exact h
abbrev onD (on:List (List Nat)):List D:=on.map fun gs=>.lst (gs.map iD)
def sp_onward_goals:Q1:=fun rs Pr=>∃m:A8,rs=[.st (mD m)]/\C7 m/\m.1.length<=20000/\Pr (.nw (onD (G9 m)))
def W4v:Q2p sp_onward_goals:=by rintro rs P Q f ⟨m,e,h1,h2,h3⟩;exact⟨m,e,h1,h2,f _ h3⟩
def W0i {m:A8}{g:Nat}(hg:g<m.1.length):(Q6t m.1 m.2 true)[g]?=some (Z0 (T1 (K6 m.2) (N9 m.1 true)) g):=by
 unfold Q6t;rw [af,bK hg];rfl
def W9j {dQ:Q2}:∀rs Pr,rs.length=1->sp_onward_goals rs Pr->Z7k dQ (Q5v dQ) Q4f (T5 Pr) (E9 Q8f rs):=by
 rintro rs Pr _ ⟨m,rfl,wf,hl,h⟩;have W:=Z4v wf;have w2:=Z4w wf;have fX:=Y3y wf;have el:(X0 (List.range m.1.length).length (B3 m.2) 0).1.length=(E7 m).1.length:=by simp [E7,Q4r]
 unfold Z7k;simp only [C8,Z5a,B0,Q3d,Q3b,M6,Q3c,Q6,V0g,D8,F8,Q4c,D2,C6,X8,Z0b];refine⟨_,rfl,_,rfl,_,rfl,rfl,_,_,rfl,_,_,rfl,rfl,?_⟩;refine⟨rfl,[.dat (rsD m.2)],⟨_,_,rfl,rfl,trivial,rfl⟩,fun f Φ hF=>?_⟩;refine⟨_,⟨Nat,inferInstance,iD,ik,B3 m.2,0,List.range m.1.length,f,Φ,_,fun _=>rfl,Q4y,rfl,hF,Q7y wf,by rw [aZ];omega,fun k hk c hc=>⟨Q7q wf k hk c hc,Y1z wf (aK.mp hk) hc rfl⟩,rfl⟩,?_⟩;refine⟨_,rfl,_,rfl,rfl,_,_,rfl,_,_,rfl,rfl,?_⟩;refine⟨_,rfl,_,rfl,sz (by rw [ac,el];omega),?_⟩;refine Q0b (f:=fun d=>match d with | .int i=>.bl (m.1.getD i.toNat false) | d=>d) _ none _ (fun d hd Q' q=>?_) ?_
 ·obtain⟨x,hx,rfl⟩:=ah.mp hd;simp only [E8,D3,B0];refine⟨_,rfl,_,rfl,O6 (i:=x) (Q6n (aK.mp (W.sub x hx))) ?_⟩;exact q
 refine⟨_,rfl,rfl,.bw (((E7 m).1).map .bl),(E7 m).1,(E7 m).2,true,_,?_,.inl rfl,.inl rfl,w2,by omega,?_⟩
 ·have e:((X0 (List.range m.1.length).length (B3 m.2) 0).1.map fun a=>iD a).map (fun d=>match d with | .int i=>D.bl (m.1.getD i.toNat false) | d=>d)=(E7 m).1.map .bl:=by
   unfold E7 Q4r;rw [aF,aF];exact aM fun x _=>by simp
  rw [e];rfl
 show T3 (.nw _) _;rw [O8];simp only [Q4d,B0];have bD:(E7 m).2.length=(E7 m).1.length:=w2.len;refine⟨_,rfl,_,rfl,sz (by rw [ac];show(E7 m).2.length<=_;omega),?_⟩;refine Q0b (f:=fun d=>match d with | .tup ds=>.lst (ds.filter fun d=>match d with | .int i=>Q1l (E7 m) i.toNat | _=>false) | d=>d) _ none _ (fun d hd Q' q=>?_) ?_
 ·obtain⟨r,hr,rfl⟩:=ah.mp hd;have hr:r∈(E7 m).2:=hr;simp only [E8,X8,Q4d,B0];refine⟨_,rfl,_,rfl,sz (by rw [ac];have:=w2.r4 r hr;omega),?_⟩;refine Q6r (p:=fun d=>match d with | .int i=>Q1l (E7 m) i.toNat | _=>false) (f:=fun d=>d) _ none _ (fun d hd Q' q=>?_) (fun d hd Q' _ q=>?_) ?_
  ·obtain⟨x,hx,rfl⟩:=ah.mp hd;have m3:=w2.lt r hr x hx;simp only [D3,B0,D8];refine⟨_,rfl,_,rfl,?_⟩;refine⟨oD (Z0 (T1 (K6 (E7 m).2) (N9 (E7 m).1 true)) x),V9 (by rw [af,W0i m3];rfl),?_⟩;refine⟨_,rfl,rfl,?_⟩;have q:Q' (Q1l (E7 m) x):=by simpa using q
   unfold Q1l at q;cases e:Z0 (T1 (K6 (E7 m).2) (N9 (E7 m).1 true)) x with
   | none=>rw [e]at q;exact q
   | some d=>rw [e]at q;exact q
  ·simp only [E8,B0];exact⟨_,rfl,q⟩
  ·rw [List.map_id'];exact q
 ·have e:((E7 m).2.map rD).map (fun d=>match d with | .tup ds=>D.lst (ds.filter fun d=>match d with | .int i=>Q1l (E7 m) i.toNat | _=>false) | d=>d)=onD (G9 m):=by
   unfold G9 onD;rw [aF,aF];refine aM fun r _=>?_;show D.lst ((r.map iD).filter _)=D.lst ((r.filter _).map iD);rw [List.filter_map];congr 2
  have h':Pr (.nw (((E7 m).2.map rD).map (fun d=>match d with | .tup ds=>D.lst (ds.filter fun d=>match d with | .int i=>Q1l (E7 m) i.toNat | _=>false) | d=>d))):=by rw [e];exact h
  exact h'
def G0 (n:Nat)(f:Nat->Nat):List D:=(List.range n).map fun i=>iD (f i)
def W1e (n:Nat)(f:Nat->Nat):(G0 n f).length=n:=by simp [G0]
def Z2u {n g:Nat}(h:g<n)(f:Nat->Nat):(G0 n f)[g]?=some (iD (f g)):=by
 unfold G0;rw [af,bK h];rfl
def Z2v {n g:Nat}(f:Nat->Nat)(x:Nat):(G0 n f).set g (iD x)=G0 n (fun i=>if i=g then x else f i):=by
 unfold G0;apply List.ext_getElem?;intro i;rw [List.getElem?_set,ac,aZ,af,af]
 by_cases e:g=i
 ·subst e;rw [aG rfl]
  by_cases h:g<n
  ·rw [aG h,bK h];simp
  ·rw [az h,aw.mpr (by simpa using h)];rfl
 ·rw [az e]
  by_cases h:i<n
  ·rw [bK h];show some (iD (f i))=some (iD (if i=g then x else f i));rw [az (fun z=>e z.symm)]
  ·rw [aw.mpr (by simpa using h)];rfl
def eqI {a b:Nat}{n:Nat}{Q:Bool->Prop}(q:Q (decide (a=b))):P6 n false (.st (iD a)) (.st (.int (b:Int))) Q:=by
 refine⟨_,_,rfl,rfl,bt _,?_⟩;show Q (D.eq (.int (a:Int)) (.int (b:Int)));have:D.eq (.int (a:Int)) (.int (b:Int))=decide (a=b):=by
  simp only [D.eq]
  by_cases h:a=b
  ·simp [h]
  ·have:(a:Int)≠(b:Int):=by omega
   simp [h,this]
 rw [this];exact q
def wbA:WS:=(Q6b 2 (fun i j=>i+j) (wV 4) (wC (.int 1)))
theorem forA {n:Nat}{E:F6}{o0 o1 o3 o5 o6 o7:Option Sl}:∀(gs:List Nat) (a:Nat->Nat) (o4:Option Sl),(∀g∈gs,g<n)->(∀o4,E.nx [o0,o1,some (.own (G0 n fun v=>a v+gs.count v)),o3,o4,o5,o6,o7]) ->
  D1 (B5 4) wbA E (gs.map iD) [o0,o1,some (.own (G0 n a)),o3,o4,o5,o6,o7]
 | [],a,o4,_,h=>by have:=h o4;simp only [List.count_nil,Nat.add_zero]at this;exact this
 | g::gs,a,o4,hg,h=>by
  have qJ:=hg g ag;rw [am,D1];simp only [wbA,M6,Y4f,B0,D8];refine⟨_,rfl,_,rfl,g,(a g:Int),rfl,Z2u qJ a,_,rfl,?_⟩;have e:(G0 n a).set g (.int ((a g:Int)+1))=G0 n (fun i=>if i=g then a g+1 else a i):=by
   rw [<- Z2v];congr 1
  show D1 _ _ _ _ [_,_,some (.own ((G0 n a).set g (.int ((a g:Int)+1)))),_,_,_,_,_];rw [e];refine forA gs _ _ (fun x hx=>hg x (ae _ hx)) fun o4=>?_;have e2:(fun v=>(if v=g then a g+1 else a v)+gs.count v)=fun v=>a v+(g::gs).count v:=by
   funext v
   by_cases z:v=g
   ·subst z;rw [aG rfl,List.count_cons_self];omega
   ·rw [az z,List.count_cons_of_ne (fun q=>z q.symm)]
  rw [e2];exact h o4
def wbB:WS:=(K4 (W1 (B7 (wV 3))) (B5 4) wbA)
theorem Y1a {n:Nat}{E:F6}{o0 o1 o5 o6 o7:Option Sl}:∀(on:List (List Nat)) (a:Nat->Nat) (o3 o4:Option Sl),(∀gs∈on,∀g∈gs,g<n)->(∀o3 o4,E.nx [o0,o1,some (.own (G0 n fun v=>a v+(on.map fun gs=>gs.count v).sum)),o3,o4,o5,o6,o7]) ->
  D1 (B5 3) wbB E (onD on) [o0,o1,some (.own (G0 n a)),o3,o4,o5,o6,o7]
 | [],a,o3,o4,_,h=>by have:=h o3 o4;simp only [gW,List.sum_nil,Nat.add_zero]at this;exact this
 | gs::on,a,o3,o4,hg,h=>by
  rw [onD,am,D1];simp only [wbB,M6,S1,Q5q,E8,B0];refine⟨_,rfl,_,rfl,?_⟩;refine forA gs a _ (hg gs ag) fun o4=>?_;refine Y1a on _ _ _ (fun g lg=>hg g (ae _ lg)) fun o3 o4=>?_;have e2:(fun v=>a v+gs.count v+(on.map fun gs=>gs.count v).sum)=fun v=>a v+((gs::on).map fun gs=>gs.count v).sum:=by
   funext v;rw [am,bZ];omega
  rw [e2];exact h o3 o4
def W1z (on:List (List Nat))(v:Nat):inc on [] v=(on.map fun gs=>gs.count v).sum:=by
 unfold inc;rw [List.filter_eq_self.mpr (fun _ _=>by simp)];congr 1;apply List.ext_getElem?;intro i;rw [af,af]
 by_cases h:i<on.length
 ·rw [bK h,aa h];simp [ak,aa h]
 ·rw [aw.mpr (by simpa using h),aw.mpr (by omega)];rfl
def wbI:WS:=(A7 (Z0x 5 (wV 4) (B7 (E4 Q7e (A4 (A2 B1 (wV 5) (wV 4)) (A4 (A2 G5 (A2 B1 (wV 5) (wV 7)) (wC (.int 1))) A6))))) (A7 (Q6b 2 (fun i j=>i-j) (wV 4) (wC (.int 1))) (N6 (A2 (P6 60 false) (A2 B1 (wV 2) (wV 4)) (wC (.int 0))) (P2 6 (B7 (wV 4))) M7)))
def Z2w {n g:Nat}(h:g<n){f:Nat->Nat}{Q:R->Prop}(q:Q (.st (iD (f g)))):B1 (.bw (G0 n f)) (.st (.int (g:Int))) Q:=by
 rw [Q1d];exact⟨_,V9 (Z2u h f),q⟩
theorem Z2y {on:List (List Nat)}{s:Nat}{P:List Nat}{E:F6}{o0 o1 o3:Option Sl}(hl:on.length<=20000)(hs:s<on.length):∀(rest:List Nat) (a Ln:Nat->Nat) (W:List Nat) (o4:Option Sl),Ki on s a Ln W P rest ->
  (∀a Ln W o4,Ki on s a Ln W P []->E.nx [o0,o1,some (.own (G0 on.length a)),o3,o4,some (.own (G0 on.length Ln)),some (.own (W.map iD)),some (.dat (iD s))]) ->
  D1 (B5 4) wbI E (rest.map iD) [o0,o1,some (.own (G0 on.length a)),o3,o4,some (.own (G0 on.length Ln)),some (.own (W.map iD)),some (.dat (iD s))]
 | [],a,Ln,W,o4,K,h=>h a Ln W o4 K
 | g::rest,a,Ln,W,o4,K,h=>by
  obtain⟨hg,fR,fY,K2⟩:=K.turn;have hW:W.length<=20000:=by
   have:=(be.mp K.nd).1.length_le_of_subset (l₂:=List.range on.length) fun x hx=>aK.mpr (K.lt x (aR.mpr (.inl hx)));rw [aZ]at this;omega
  rw [am,D1];simp only [wbI,M6,C8,V0y,E8,N5,D2,D3,B0,D8,C6,Y4f,W6,Q2h,V4];refine⟨_,rfl,_,rfl,Z2w hg ?_⟩;refine⟨_,rfl,_,rfl,Z2w hs ?_⟩;rw [Q1c];rw [V0u];have em:(if (Ln s:Int)+1 > (Ln g:Int)then(Ln s:Int)+1 else(Ln g:Int))=((max (Ln g) (Ln s+1):Nat):Int):=by
   by_cases z:(Ln s:Int)+1 > (Ln g:Int)
   ·rw [aG z,Nat.max_eq_right (by omega)];omega
   ·rw [az z,Nat.max_eq_left (by omega)]
  refine⟨_,rfl,_,rfl,_,rfl,_,g,rfl,ixn (by rw [W1e];exact hg),?_⟩;have e1:(G0 on.length Ln).set g (.int (if (Ln s:Int)+1 > (Ln g:Int)then(Ln s:Int)+1 else(Ln g:Int)))=G0 on.length (fun i=>if i=g then max (Ln i) (Ln s+1)else Ln i):=by
   rw [em,show D.int ((max (Ln g) (Ln s+1):Nat):Int)=iD (max (Ln g) (Ln s+1))from rfl,Z2v];congr 1;funext i;by_cases z:i=g
   ·subst z;rfl
   ·rw [az z,az z]
  refine⟨_,rfl,_,rfl,g,(a g:Int),rfl,Z2u hg a,_,rfl,?_⟩;have e2:(G0 on.length a).set g (.int ((a g:Int)-1))=G0 on.length (fun i=>if i=g then a i-1 else a i):=by
   rw [show D.int ((a g:Int)-1)=iD (a g-1)by show D.int _=D.int _;congr 1;omega,Z2v];congr 1;funext i;by_cases z:i=g
   ·subst z;rfl
   ·rw [az z,az z]
  refine⟨_,rfl,_,rfl,?_⟩;show B1 (.bw ((G0 on.length a).set g (.int ((a g:Int)-1)))) (.st (.int (g:Int))) _;rw [e2,e1];refine Z2w hg (eqI (b:=0) ?_);rw [aG (show g=g from rfl)]
  by_cases h1:a g=1
  ·rw [aG (by simp [h1])];rw [aG h1]at K2;refine⟨_,rfl,_,rfl,_,rfl,szl (by rw [ac];omega),?_⟩;have:=Z2y hl hs rest _ _ _ (some (.dat (iD g))) K2 h;rw [aU]at this;exact this
  ·rw [az (by simp;omega)];rw [az h1]at K2;exact Z2y hl hs rest _ _ _ (some (.dat (iD g))) K2 h
def Z1a:WT:=Y2 (wV 6)
def Z7x:WS:=(A7 (Z6r 6 (B5 7)) (K4 (W1 (B7 (A2 B1 (wV 1) (wV 7)))) (B5 4) wbI))
def Y3h {m:A8}{on:List (List Nat)}(G:Gr m on){s:Nat}(hs:s<on.length):∀v,v∈on.getD s []->v<on.length:=fun v hv=>by rw [G.len]at hs ⊢;exact G.lt hs hv
theorem V3m {m:A8}{on:List (List Nat)}(G:Gr m on){E:F6}{o0 o3:Option Sl}(hl:on.length<=20000):∀(k:Nat) (a Ln:Nat->Nat) (W P:List Nat) (o4 o7:Option Sl),Kh on a Ln W P->on.length<=k+P.length ->
  (∀a Ln P o4 o7,Kh on a Ln [] P->E.nx [o0,some (.dat (.lst (onD on))),some (.own (G0 on.length a)),o3,o4,some (.own (G0 on.length Ln)),some (.own []),o7]) ->
  J4 Z1a Z7x (k+1) E [o0,some (.dat (.lst (onD on))),some (.own (G0 on.length a)),o3,o4,some (.own (G0 on.length Ln)),some (.own (W.map iD)),o7]:=by
 intro k
 induction k with
 | zero =>
  intro a Ln W P o4 o7 K hk h;have hb:=K.nd.length_le_of_subset (l₂:=List.range on.length) fun x hx=>aK.mpr (K.lt x hx);rw [ai,aZ]at hb;have hW:W=[]:=cg.mp (by omega);subst hW;rw [J4];simp only [Z1a,Q1h,B0];refine⟨_,rfl,?_⟩;exact h a Ln P o4 o7 K
 | succ k ih =>
  intro a Ln W P o4 o7 K hk h;rw [J4];simp only [Z1a,Q1h,B0];refine⟨_,rfl,?_⟩;show(if (!(W.map iD).isEmpty)=true then(_:Prop)else(_:Prop));rcases List.eq_nil_or_concat W with rfl | ⟨V,s,rfl⟩
  ·rw [az (by decide)];exact h a Ln P o4 o7 K
  ·rw [List.concat_eq_append]at K ⊢;rw [aG (by simp)];have hs:s<on.length:=K.lt s (by simp);simp only [Z7x,C8,V0v,M6,S1,Q5q,E8,D3,B0];refine⟨V.map iD,iD s,by rw [aU];rfl,_,rfl,_,rfl,?_⟩;show B1 (.st (.lst (onD on))) (.st (.int (s:Int))) _;rw [Z4g];refine⟨.lst ((on.getD s []).map iD),V9 (by rw [onD,af,aa hs,ak,aa hs];rfl),_,rfl,?_⟩;refine Z2y (P:=P) hl hs (on.getD s []) a Ln V _ (K.pop (Y3h G hs)) fun a Ln W o4 K=>?_;exact ih a Ln W (s::P) o4 _ K.done (by rw [aD];omega) h
def Q4g:Q1:=fun rs Pr=>∃m:A8,rs=[.st (mD m)]/\C7 m/\m.1.length<=20000/\∀d,Q0l m d->Pr (.st d)
def W4t:Q2p Q4g:=by rintro rs P Q f ⟨m,e,h1,h2,h3⟩;exact⟨m,e,h1,h2,fun d hd=>f _ (h3 d hd)⟩
def Q6k {m:A8}(wf:C7 m){w:List Nat}:L8 (E7 m) w ↔ L8 m w:=⟨fun h=>⟨h.1,by rw [<- Y3x wf h.1];exact h.2⟩,fun h=>⟨h.1,by rw [Y3x wf h.1];exact h.2⟩⟩
def Y2a {m:A8}(wf:C7 m){d:D}(h:Q0l (E7 m) d):Q0l m d:=by
 rcases h with⟨e,h⟩ | ⟨L,e,⟨w,hw,hl⟩,h⟩ | ⟨e,h⟩
 ·exact .inl ⟨e,fun w hw=>h w ((Q6k wf).mpr hw)⟩
 ·exact .inr (.inl ⟨L,e,⟨w,(Q6k wf).mp hw,hl⟩,fun u hu=>h u ((Q6k wf).mpr hu)⟩)
 ·exact .inr (.inr ⟨e,fun N=>let ⟨w,hw,hl⟩:=h N;⟨w,(Q6k wf).mp hw,hl⟩⟩)
def Y0w {m:A8}(wf:C7 m):Q8x m=none ↔ ∀w,¬ L8 m w:=by
 have S:=W1b (fin:=fun s=>m.1.getD s false) (Q7q wf) (Q7y wf);rw [aZ]at S;constructor
 ·intro h w hw;have:=S.1 h w hw.1;have h2:=hw.2;unfold J6 D6 at h2;rw [h2]at this;cases this
 ·intro h;cases e:Q8x m with
  | none=>rfl
  | some t =>
   obtain⟨w,h1,_,h2⟩:=S.2 t e;exact absurd ⟨h1,h2⟩ (h w)
theorem rep0:∀n:Nat,(List.replicate n [D.int 0]).flatten=G0 n fun _=>0
 | 0=>rfl
 | n+1=>by rw [List.replicate_succ',List.flatten_append,rep0 n];unfold G0;rw [dW,aU];rfl
def Y9y (a:Nat->Nat)(n:Nat)(o1 o2:Option Sl){Q:List D->Prop}(q:Q (((List.range n).filter fun v=>decide (a v=0)).map iD)) :
  O4 (gTp 2 (J5 (B5 0) (J5 (B5 1) gNl))) (A2 (P6 60 false) (wV 1) (wC (.int 0))) (B7 (wV 0)) (G6 (G0 n a)) [o1,o2] Q:=by
 have key:∀(l:List Nat) (o1 o2:Option Sl) (Q:List D->Prop),Q ((l.filter fun v=>decide (a v=0)).map iD)->O4 (gTp 2 (J5 (B5 0) (J5 (B5 1) gNl))) (A2 (P6 60 false) (wV 1) (wC (.int 0))) (B7 (wV 0)) (l.map fun i=>.tup [iD i,iD (a i)]) [o1,o2] Q:=by
  intro l
  induction l with
  | nil=>intro o1 o2 Q q;exact q
  | cons i l ih =>
   intro o1 o2 Q q;rw [am,O4];simp only [Q3d,Q3b,M6,Q3c,D3,B0,D8,E8];refine⟨_,rfl,rfl,_,_,rfl,_,_,rfl,rfl,_,rfl,eqI (b:=0) ?_⟩;rw [cH]at q
   by_cases h:a i=0
   ·rw [aG (by simpa using h)];rw [aG (by simpa using h)]at q;exact⟨_,rfl,_,rfl,ih _ _ _ q⟩
   ·rw [az (by simpa using h)];rw [az (by simpa using h)]at q;exact ih _ _ _ q
 have e:G6 (G0 n a)=(List.range n).map fun i=>.tup [iD i,iD (a i)]:=by
  unfold G6 G0;apply List.ext_getElem?;intro i;rw [af,List.getElem?_zipIdx,af,af]
  by_cases h:i<n
  ·rw [bK h];simp
  ·rw [aw.mpr (by simpa using h)];rfl
 rw [e];exact key _ o1 o2 Q q
theorem W9d:∀rs Pr,rs.length=1->Q4g rs Pr->Z6y sp_least_text sp_onward_goals (T5 Pr) (E9 Q8b rs):=by
 rintro rs Pr _ ⟨m,rfl,wf,hl,h⟩;have G:=W5u wf;have fX:=Y3y wf;have iI:(G9 m).length<=20000:=by rw [G.len];omega
 unfold Z6y;rw [C8,W6];simp only [D3,Q4c,D2,B0,C6,D8];refine⟨_,rfl,rfl,m,rfl,wf,hl,?_⟩;refine⟨_,rfl,rfl,?_⟩;cases e:Q8x m with
 | none =>
  show(if true=true then(_:Prop)else(_:Prop));rw [aG rfl,Q6,Q5r,D8];exact h _ (.inl ⟨rfl,(Y0w wf).mp e⟩)
 | some t =>
  have ha:∃w,L8 m w:=Classical.byContradiction fun no=>by
   have:=(Y0w wf).mpr fun w hw=>no ⟨w,hw⟩;rw [e]at this;cases this
  show(if false=true then(_:Prop)else(_:Prop));rw [az (by decide),V4];dsimp only;rw [C8,F8,Q4c];simp only [D2,B0,C6];refine⟨_,rfl,rfl,m,rfl,wf,hl,?_⟩;show T3 (.nw _) _;rw [O8];show A7 (C2 2 _) _ (T5 Pr) [some (.dat (mD m)),some (.own (onD (G9 m))),none,none,none,none,none,none];rw [C8,F8,D3,s_lst];simp only [D2,E8,D8,C6,N5,B0];refine⟨_,rfl,sz (by decide),_,rfl,?_⟩;show F4 [.bw _] _;rw [Q1e,Y3d];have gA:(onD (G9 m)).length=(G9 m).length:=by simp [onD]
  have e0:(List.replicate (((onD (G9 m)).length:Int)).toNat [D.int 0]).flatten=G0 (G9 m).length fun _=>0:=by
   rw [gA,b7];exact rep0 _
  refine⟨by omega,by rw [gA];omega,by rw [gA,b7];exact sz (by simp;omega),?_⟩;rw [e0,O8];show A7 (K4 (iOwn 1) (B5 3) wbB) _ (T5 Pr) [some (.dat (mD m)),some (.own (onD (G9 m))),some (.own (G0 (G9 m).length fun _=>0)),none,none,none,none,none];rw [C8,S1];refine⟨_,rfl,?_⟩;refine Y1a (G9 m) (fun _=>0) none none (fun gs fY g hg=>?_) fun o3 o4=>?_
  ·obtain⟨u,hu,eu⟩:=lA fY;exact Y3h G hu g (by rw [ak,aa hu,eu];exact hg)
  have ea:(fun v=>0+((G9 m).map fun gs=>gs.count v).sum)=inc (G9 m) []:=by funext v;rw [W1z,cG]
  rw [ea];dsimp only;rw [C8,F8,D3,s_lst];simp only [D2,E8,D8,C6,N5,B0];refine⟨_,rfl,sz (by decide),_,rfl,?_⟩;show F4 [.st (.lst _)] _;rw [Y3c,Y3d];refine⟨by omega,by rw [gA];omega,by rw [gA,b7];exact sz (by simp;omega),?_⟩;rw [e0,O8];show A7 (C2 6 _) _ (T5 Pr) [some (.dat (mD m)),some (.dat (.lst (onD (G9 m)))),some (.own (G0 (G9 m).length (inc (G9 m) []))),o3,o4,some (.own (G0 (G9 m).length fun _=>0)),none,none];rw [C8,F8,X8,Y4j];simp only [D2,B0,C6];refine⟨_,rfl,_,_,rfl,rfl,sz (by simp [G0,G6];omega),?_⟩;refine Y9y (inc (G9 m) []) (G9 m).length none none ?_;show T3 (.nw _) _;rw [O8];show A7 (Q2k Z1a Z7x) _ (T5 Pr) [some (.dat (mD m)),some (.dat (.lst (onD (G9 m)))),some (.own (G0 (G9 m).length (inc (G9 m) []))),o3,o4,some (.own (G0 (G9 m).length fun _=>0)),some (.own (((List.range (G9 m).length).filter fun v=>decide (inc (G9 m) [] v=0)).map iD)),none];rw [C8];refine⟨(G9 m).length+1,V3m G iI _ _ _ _ [] _ _ (Kh.start (G9 m)) (by simp) fun a Ln P o4 o7 K=>?_⟩;dsimp only;rw [Q6,Y4i];simp only [D3,N5,D2,B0,C6,D8];have pos:0<(G9 m).length:=by rw [G.len];exact G.wf.pos
  refine⟨_,rfl,?_⟩;refine⟨(List.range (G9 m).length).map fun i=>(a i:Int),by rw [aF];rfl,fun z=>by have:=congrArg List.length z;rw [ac,aZ,bj]at this;omega,fun x hx mx=>?_⟩;obtain⟨i,hi,rfl⟩:=ah.mp hx;refine eqI (b:=0) ?_
  by_cases hz:a i=0
  ·rw [aG (by simp [hz])];refine⟨_,rfl,?_⟩;refine⟨(List.range (G9 m).length).map fun i=>(Ln i:Int),by rw [aF];rfl,fun z=>by have:=congrArg List.length z;rw [ac,aZ,bj]at this;omega,fun y hy qv=>?_⟩;obtain⟨j,hj,rfl⟩:=ah.mp hy;refine h _ (Y2a wf (K.last G (fun v hv=>?_) ⟨j,aK.mp hj,rfl⟩ (fun v hv=>?_) (let ⟨w,hw⟩:=ha;⟨w,(Q6k wf).mpr hw⟩)))
   ·have:=mx (a v:Int) (ah.mpr ⟨v,aK.mpr hv,rfl⟩);omega
   ·have:=qv (Ln v:Int) (ah.mpr ⟨v,aK.mpr hv,rfl⟩);omega
  ·rw [az (by simpa using hz)];exact h _ (Y2a wf (.inr (.inr ⟨rfl,K.inf G ⟨i,aK.mp hi,hz⟩⟩)))
def W0a {α:Type}(xs:List α)(k:Nat):X2 xs none (some (k:Int))=xs.take k:=by
 unfold X2;rw [HT.sIx_none,HT.sIx_nat,List.drop_zero,Nat.sub_zero,List.take_eq_take_iff];omega
def Q1i:D9:=fun rs r=>∃m:A8,rs=[.st (mD m)]/\m.1.length<=20000/\r=.nw ((M0 m 0).map iD)
def W9h:∀rs r,rs.length=1->Q1i rs r->Z7i (P3 r) (E9 Z1k rs):=by
 rintro rs r _ ⟨m,rfl,hl,rfl⟩;unfold Z7i;rw [Q6,X8,Q4d];simp only [D3,B0,D8];refine⟨_,rfl,O6 (i:=0) rfl ⟨_,rfl,sz (by rw [ac];omega),?_⟩⟩;refine Q0b (f:=fun d=>match d with | .bl true=>.int 1 | _=>.int 0) _ none _ (fun d hd Q' q=>?_) ?_
 ·obtain⟨b,_,rfl⟩:=ah.mp hd;rw [E8,Y4i,Q1h,B0];refine⟨_,rfl,?_⟩;cases b
  ·exact q
  ·exact q
 ·show R.nw _=R.nw _;congr 1;rw [M0,aF,aF];exact aM fun b _=>by cases b <;> rfl
def CtR (r:R)(cs:List Nat):Prop:=r=.bw (cs.map iD)\/r=.st (.lst (cs.map iD))
def X9:D9:=fun rs r=>∃(m:A8) (rc:R) (l:Nat),rs=[.st (mD m),rc]/\CtR rc (M0 m l)/\C7 m/\m.1.length<=20000/\r=.nw ((M0 m (l+1)).map iD)
def Q6s {m:A8}(wf:C7 m){l:Nat}{rc:R}(h:CtR rc (M0 m l)){g:Nat}(hg:g<m.1.length){Q:R->Prop}(q:Q (.st (iD (E3 m l g)))):B1 rc (.st (.int (g:Int))) Q:=by
 have e:((M0 m l).map iD)[g]?=some (iD (E3 m l g)):=by
  have lg:g<(M0 m l).length:=by rw [Y9r wf];exact hg
  rw [af,aa lg,E3,ak,aa lg];rfl
 rcases h with rfl | rfl
 ·rw [Q1d];exact⟨_,V9 e,q⟩
 ·rw [Z4g];exact⟨_,V9 e,q⟩
theorem Z5z {f:Nat->Nat}:∀t:List Nat,(t.map fun g=>((f g:Nat):Int)).sum=(((t.map f).sum:Nat):Int)
 | []=>rfl
 | a::t=>by rw [am,bZ,am,bZ,Z5z t];omega
def W9i:∀rs r,rs.length=2->X9 rs r->Z7j (P3 r) (E9 Q8e rs):=by
 rintro rs r _ ⟨m,rc,l,rfl,hc,wf,hl,rfl⟩;have rH:=wf.len;unfold Z7j;rw [Q6,X8,Q4d];simp only [D3,B0,D8];refine⟨_,rfl,O6 (i:=1) rfl ⟨_,rfl,sz (by rw [ac];omega),?_⟩⟩;have eb:Q4 1 [1] (E9 Q8e [.st (mD m),rc])=[none,some (R4 rc)]:=by rcases hc with rfl | rfl <;> rfl
 rw [eb];refine Q0b (f:=fun d=>match d with | .tup ds=>iD ((ds.map fun d=>match d with | .int i=>E3 m l i.toNat | _=>0).sum) | d=>d) (rest:=[some (R4 rc)]) _ none _ (fun d hd Q' q=>?_) ?_
 ·obtain⟨row,hr,rfl⟩:=ah.mp hd;rw [E8];simp only [N5,D2,C6,X8,Q4d,B0];refine⟨_,rfl,_,rfl,sz (by rw [ac,wf.r4 row hr];decide),?_⟩;have rl:Q4 1 [1] [some (.dat (rD row)),some (R4 rc)]=[none,some (R4 rc)]:=by rcases hc with rfl | rfl <;> rfl
  rw [rl];refine Q0b (f:=fun d=>match d with | .int i=>iD (E3 m l i.toNat) | d=>d) (rest:=[some (R4 rc)]) _ none _ (fun d hd Q' q=>?_) ?_
  ·obtain⟨g,hg,rfl⟩:=ah.mp hd;have ji:=wf.lt row hr g hg;simp only [E8,D3,B0];refine⟨_,rfl,_,rfl,?_⟩;have er:rdS (R4 rc)=rc:=by rcases hc with rfl | rfl <;> rfl
   rw [er];exact Q6s wf hc ji (by simpa using q)
  ·show Q1k [.nw _] _;rw [Y4m];refine⟨row.map fun g=>((E3 m l g:Nat):Int),?_,?_⟩
   ·show some _=some _;congr 1;rw [aF,aF];exact aM fun g _=>by simp
   ·have e:=Z5z (f:=E3 m l) row;rw [e];have q:Q' (.st (iD ((row.map fun g=>E3 m l g).sum))):=by
     simpa [rD,aF,Function.comp_def]using q
    exact q
 ·show R.nw _=R.nw _;congr 1;rw [M0,aF,aF];exact aM fun row _=>by
   show iD (((row.map iD).map _).sum)=iD _;rw [aF];congr 1
def V3q {m:A8}{k:Nat}(h:∀w,L8 m w->w.length≠k):(wl k).filter (J6 m)=[]:=by
 rw [List.filter_eq_nil_iff];intro w hw ha;obtain⟨h1,h2⟩:=V2.mp hw;exact h w ⟨h1,ha⟩ h2
abbrev L7 (m:A8)(j:Nat):List D:=(List.range j).map fun l=>.lst ((M0 m l).map iD)
def Y6d (m:A8)(L:Nat):K8 (L7 m (L+1)) (-1)=some (.lst ((M0 m L).map iD)):=by
 unfold K8 ixN;rw [az (by decide)];have hl:(L7 m (L+1)).length=L+1:=by simp
 rw [hl,aG (by omega)];show(L7 m (L+1))[((-1:Int)+((L+1:Nat):Int)).toNat]?=_;rw [show((-1:Int)+((L+1:Nat):Int)).toNat=L by omega,af,bK (cf L)];rfl
def Y0k {α:Type}(xs:List α):X2 xs none (some (-1))=xs.dropLast:=by
 unfold X2;rw [HT.sIx_none,List.drop_zero,Nat.sub_zero,List.dropLast_eq_take];congr 1;unfold HT.sIx;simp;omega
def Y6c (m:A8)(L:Nat):(L7 m (L+1)).dropLast=L7 m L:=by
 unfold L7;rw [dW,aU,List.map_singleton,List.dropLast_concat]
def C5 (m:A8)(j:Nat):List (List Nat):=(List.range j).flatMap fun l=>(wl l).filter (J6 m)
def Q0h (m:A8)(j:Nat):C5 m (j+1)=C5 m j++(wl j).filter (J6 m):=by unfold C5;rw [dW,List.flatMap_append,List.flatMap_singleton]
def Z0r (m:A8)(n:Nat):(Q3n n).filter (J6 m)=C5 m (n+1):=by rw [Z7y,C5,List.filter_flatMap]
theorem Q5z (m:A8){i j:Nat}(h:i<=j):C5 m i <+: C5 m j:=by
 induction j with
 | zero=>rw [Nat.le_zero.mp h];exact bE _
 | succ j ih =>
  rcases aX j i with z | z
  ·rw [show i=j+1 by omega];exact bE _
  ·rw [Q0h];exact(ih z).trans (eQ _ _)
def Q0y {m:A8}{j:Nat}{w:List Nat}:w∈C5 m j ↔ L8 m w/\w.length<j:=by
 unfold C5;rw [bP];constructor
 ·rintro ⟨l,hl,h⟩;obtain⟨h1,h2⟩:=b8.mp h;obtain⟨a,b⟩:=V2.mp h1;exact⟨⟨a,h2⟩,by have:=aK.mp hl;omega⟩
 ·rintro ⟨⟨a,b⟩,h⟩;exact⟨w.length,aK.mpr h,b8.mpr ⟨V2.mpr ⟨a,rfl⟩,b⟩⟩
theorem Y6s {m:A8}{i j:Nat}(h:i<=j)(hn:∀w,L8 m w->w.length<i):C5 m j=C5 m i:=by
 induction j with
 | zero=>rw [Nat.le_zero.mp h]
 | succ j ih =>
  rcases aX j i with z | z
  ·rw [show i=j+1 by omega]
  ·rw [Q0h,ih z,V3q fun w hw e=>by have:=hn w hw;omega,aW]
def V2n (m:A8)(j:Nat):L7 m (j+1)++[.lst ((M0 m (j+1)).map iD)]=L7 m (j+1+1):=by unfold L7;rw [dW (n:=j+1),aU];rfl
theorem Z6f {m:A8}(wf:C7 m)(h:Inf m):∀s:Nat,s<=(C5 m (s*m.1.length)).length
 | 0=>bt _
 | s+1=>by
  have ih:=Z6f wf h s;obtain⟨w,hw,h1,h2⟩:=Y7j wf h (s*m.1.length);rw [Nat.succ_mul];obtain⟨t,ht⟩:=Q5z m (show s*m.1.length<=s*m.1.length+m.1.length by omega);rw [<- ht,ai];have:0<t.length:=by
   rcases Nat.eq_zero_or_pos t.length with z | z
   ·have iG:w∈C5 m (s*m.1.length+m.1.length):=Q0y.mpr ⟨hw,h2⟩;rw [<- ht,cg.mp z,aW]at iG;have:=(Q0y.mp iG).2;omega
   ·exact z
  omega
def Q4b (d:D)(j:Nat):Bool:=match d with | .int i=>decide ((j:Int)<=i) | _=>true
end MC
end
section
namespace TK
open PySem PySem.Spec PyProof.Rows L2
def hid (a:Addr)(H:Hp):Hp:=fun b=>if b=a then none else H b
structure Fly (H:Hp)(h g:Heap)(C a:Addr):Prop where
 free:H a=none
 new:g.get? a=none
 there:∃oe vs,h.get? a=some oe/\oe.cls=.ref C/\oe.data=.fields vs /\
  (vs[1]?=some .none\/∃T oT ts,vs[1]?=some (.ref T)/\T≠a/\H T=none/\g.get? T=none/\h.get? T=some oT/\oT.data=.fields ts/\ts[3]?=some .none)
theorem Z3a {h base iR:Heap}:∀{l:List Env},h.FunFrames base l->(∀b∈E6 l,iR.get? b=none)->h.FunFrames iR l
 | [],_,_=>trivial
 | env::r,⟨hk,⟨L,o,hf,hn,ho,hd⟩,hr⟩,hb=>by
  have hm:∀b,b=L\/b∈E6 r->b∈E6 (env::r):=fun b hb=>by
   unfold E6;rw [bL,hf];rcases hb with rfl | hb
   ·exact ag
   ·exact ae _ hb
  exact⟨hk,⟨L,o,hf,hb L (hm L (.inl rfl)),ho,hd⟩,Z3a hr fun b h=>hb b (hm b (.inr h))⟩
theorem Q3u {h base:Heap}:∀{l:List Env},h.FunFrames base l->∀b∈E6 l,∃o,h.get? b=some o/\∀vs,o.data≠.fields vs
 | [],_,b,hb=>absurd hb (by simp [E6])
 | env::r,⟨hk,⟨L,o,hf,hn,ho,hd⟩,hr⟩,b,hb=>by
  unfold E6 at hb;rw [bL,hf]at hb;rcases ar.mp hb with rfl | hb
  ·exact⟨o,ho,hd⟩
  ·exact Q3u hr b hb
theorem _root_.L2.ObjOk.there {P:Program}{w:World}{H:Hp}{h:Heap}{a:Addr}{o:HO}(x:ObjOk P w H h a o):∃o,h.get? a=some o:=by
 induction o with
 | lst xs=>obtain⟨_,_,_,_,e⟩:=x;exact⟨_,e⟩
 | tup xs=>obtain⟨_,_,_,ob,e,_⟩:=x;exact⟨_,e⟩
 | dK kvs=>obtain⟨_,_,_,_,ob,_,_,e,_⟩:=x;exact⟨_,e⟩
 | dT kvs=>obtain⟨_,_,_,_,ob,_,_,e,_⟩:=x;exact⟨_,e⟩
 | set S n=>obtain⟨ob,_,_,_,e,_⟩:=x;exact⟨_,e⟩
 | ins C dx fs=>obtain⟨_,_,_,e,_⟩:=x;exact⟨_,e⟩
 | own y=>exact x
 | xd fs=>obtain⟨_,⟨od,_,_,e,_⟩,_⟩:=x;exact⟨_,e⟩
 | rng lo hi=>obtain⟨_,_,_,e⟩:=x;exact⟨_,e⟩
 | frz ob u ih=>exact⟨_,x.1⟩
 | tab=>obtain⟨_,e,_⟩:=x;exact⟨_,e⟩
 | tbl ps=>exact⟨_,x⟩
 | met f y=>exact⟨_,x⟩
 | ext φ=>exact x.2.1
def CX1 (P:Program)(w:World):CXT:=fun outer H s E e s'=>∃H' C a,e=.ref a/\s'.os=s.os/\AllBare s'.gens/\Un (E6 outer) [] H H' s.heap s'.heap/\F7 P w H' s'.heap/\Fly H' s'.heap s.heap C a/\E e (some C) H'
def XW (X:Cx)(G:Hp)(XE:Addr->Prop):VS9:=fun e s'=>∃ σ H C a,e=.ref a/\A0 X [] σ H s'/\A5 G H/\Fly H s'.heap X.s₀.heap C a/\XE C
def V3p (H0:Hp)(XE:Addr->Prop):XK:=fun _ o H'=>∃C,o=some C/\XE C/\A5 H0 H'
abbrev Z2:List Value:=[.type "ValueError",.type "Exception",.type "BaseException",.type "object"]
theorem W7x {Y:Cx}{G:Hp}{XE:Addr->Prop}{x:Str}{C:Addr}{np bp pos:Pos}{arg:Expr}{ta:TE}(O:OwnCls x C Z2 "ValueError.__new__" Y.mg Y.base)(hg:Gl Y x)(gF:Y.calm=true)(hex:Y.ex=[])(ha:PE (Y.wish (XW Y G XE)) arg ta)(dH:starEach [arg] Y.env=(false,eval arg Y.env)::starEach [] Y.env:=by rfl)(hpl:(backTo bp (starEach [arg] Y.env)).any (·.1)=false:=by rfl)(cR:(x==("__debug__":Str))=false:=by decide)
  (qx:∀ σ H (P Q:V->Hp->Prop),(∀v H,P v H->Q v H)->ta σ H P->ta σ H Q) :
  PS (Y.wish (XW Y G XE)) (.Raise (some (.Call (.Name x np) [arg] [] bp)) none pos) (fun D σ H=>ta σ H fun _ H'=>A5 G H'/\XE C):=by
 intro a9 s σ H D I hta;obtain⟨tl,N,nm,q,bs,hdct,sn,sub,ab,col,dd,k0,k1,k2,k3,k5,mN,hC,hN,nV,T⟩:=O.obj;refine wpAny_Raise_call_subT (C:=C) (nm:=nm) (q:=q) (N:=N) (bs:=bs) (bm:=tl) (hdct:=hdct) (sn:=sn) (sub:=sub) (ab:=ab) (col:=col) (dd:=dd) (k0:=k0) (k1:=k1) (k2:=k2) (k3:=k3) (k5:=k5)
  PySem.F.excBase_ValueError (mN:=mN) (T.hasType PySem.F.excBase_ValueError.hasBase) (I.ok.hd gF) hpl nV (Q3y I hg O.bound ⟨rfl,?_⟩ cR)
 have key:=B4 ((T0 (X:=Y.wish (XW Y G XE)) ha X7 dH) bp a9 s σ H (fun vs H'=>(A5 G H'/\XE C)/\vs.length=1) I (qx σ H _ _ (fun v H' q=>⟨q,rfl⟩) hta)) (Q':=fun vs s2=>∃xs H2,A0 (Y.wish (XW Y G XE)) a9 σ H2 s2/\C0 xs vs/\(A5 G H2/\XE C)/\xs.length=1) fun vs s2 bR=>(by obtain⟨xs,H2,I2,rv,sm,e2⟩:=bR;exact⟨xs,H2,I2,rv,sm,e2⟩)
 have hb:∃z,backTo bp (starEach [arg] Y.env)=(false,z)::[]:=by rw [dH];exact⟨_,rfl⟩
 obtain⟨zz,hb⟩:=hb;have gQ:backTo bp (starEach [arg] (Y.wish (XW Y G XE)).env)=(false,zz)::[]:=hb;rw [gQ]at key ⊢;refine gr (B4 key fun vs s2 ⟨xs,H2,I2,rv,⟨sm,hx⟩,e2⟩=>?_);have z:vs.length=1:=by rw [<- rv.length];exact e2
 have bk:=I2.bk;refine⟨rfl,by rw [z];decide,bk _ _ hC,hN.keeps bk,T.keeps bk,fun h' e hm=>?_⟩;obtain⟨t,ht,rS,rQ⟩:=hm.there;have I3:A0 (Y.wish (XW Y G XE)) a9 σ H2 { s2 with heap:=h' }:=I2.kept (t':=s2.toks) hm.keeps;have ez:H2 e=none:=by
  cases q:H2 e with
  | none=>rfl
  | some u=>obtain⟨o,z⟩:=(I2.hok e u q).there;rw [hm.new]at z;cases z
 refine⟨σ,H2,C,e,rfl,(I3.unwish).pins_of fun p hp=>(I3.unwish).pin p (b9 _ (by simpa using hp)),sm,⟨ez,?_,_,_,ht,rfl,rfl,.inl rfl⟩,hx⟩;cases q:Y.s₀.heap.get? e with
 | none=>rfl
 | some u =>
  obtain⟨o,z⟩:=I2.base.there e u q (by show e∉Y.ex;rw [hex];simp);rw [hm.new]at z;cases z
inductive Out where
 | ok (r:R)
 | ex (C:Addr)
def endX (K:Fg9)(H:Hp)(Q:VK)(E:XK):Out->Prop
 | .ok r=>∀v H',A5 H H'->E5 K H H' r v->Q v H'
 | .ex C=>∀e H',A5 H H'->E e (some C) H'
abbrev Cx.may (Y:Cx)(G:Hp)(XE:Addr->Prop):Cx:=Y.wish (XW Y G XE)
section
variable {Y:Cx}{XE:Addr->Prop}{H0:Hp}
def Z6s (XE:Addr->Prop)(C:Addr)(we:WE):WS:=fun _ τ=>we τ fun _=>XE C
def DS.raise {x:Str}{C:Addr}{np bp pos:Pos}{arg:Expr}{we:WE}(O:OwnCls x C Z2 "ValueError.__new__" Y.mg Y.base)(hg:Gl Y x)(gF:Y.calm=true)(hex:Y.ex=[])(ha:DE (Cx.may Y H0 XE) H0 arg we)(dH:starEach [arg] Y.env=(false,eval arg Y.env)::starEach [] Y.env:=by rfl)(hpl:(backTo bp (starEach [arg] Y.env)).any (·.1)=false:=by rfl)(cR:(x==("__debug__":Str))=false:=by decide) :
  DS (Cx.may Y H0 XE) H0 (.Raise (some (.Call (.Name x np) [arg] [] bp)) none pos) (Z6s XE C we) where
 mono:=fun τ _ _ _ h=>h
 ps:=psW (W7x O hg gF hex ha.pe dH hpl cR (fun σ H P Q f cp=>(by obtain⟨τ,hR,h⟩:=cp;exact⟨τ,hR,ha.mono τ _ _ (fun r h v H' sm ir=>f _ _ (h v H' sm ir)) h⟩))) fun D σ H cQ=>(by obtain⟨τ,hR,h⟩:=cQ;exact⟨τ,hR,ha.mono τ _ _ (fun r h v H' sm ir=>⟨hR.same.trans sm,h⟩) h⟩)
def W6j {G:Hp}(hex:Y.ex=[]):Q8g (CX1 Y.prog Y.w) (Cx.may Y G XE) (V3p G XE):=by
 intro a9 σ H s e s' I ⟨H',C,a,e1,os,bare,un,hok,F,C',e2,hx,cM⟩;cases e2;have I2:A0 (Cx.may Y G XE) a9 σ H' s':=by
  obtain⟨hh,g,d,t,k6⟩:=s';obtain rfl:k6=s.os:=os;exact I.call (h':=hh) (g':=g) (d':=d) (t':=t) (ch:=[]) un hok bare (fun b z=>absurd z (by simp))
 have J:=I2.unwish;refine⟨σ,H',C,a,e1,J.pins_of fun p hp=>J.pin p (b9 _ (by simpa using hp)),cM,⟨F.free,?_,?_⟩,hx⟩
 ·cases q:Y.s₀.heap.get? a with
  | none=>rfl
  | some u =>
   obtain⟨o,z⟩:=I.base.there a u q (by show a∉Y.ex;rw [hex];simp);rw [F.new]at z;cases z
 ·obtain⟨oe,vs,h1,h2,h3,h4⟩:=F.there;refine⟨oe,vs,h1,h2,h3,h4.imp id ?_⟩;rintro ⟨T,oT,ts,a1,a2,a3,a4,a5,a6,a7⟩;refine⟨T,oT,ts,a1,a2,a3,?_,a5,a6,a7⟩;cases q:Y.s₀.heap.get? T with
  | none=>rfl
  | some u =>
   obtain⟨o,z⟩:=I.base.there T u q (by show T∉Y.ex;rw [hex];simp);rw [a4]at z;cases z
def outX (XE:Addr->Prop)(Q:R->Prop):Out->Prop
 | .ok r=>Q r
 | .ex C=>XE C
end
section
variable {M:Model}{A:Around}{E:VS9}{s:Shared}{P:Program}{w:World}
structure Q4p (H:Hp)(g h h':Heap)(fr:List Addr)(C a:Addr):Prop where
 ch:∃ch:List Addr,(∀b∈ch,H b=none/\g.get? b=none/\∃o vs,h.get? b=some o/\o.data=.fields vs)/\∀b o,h.get? b=some o->b∉fr->b∉ch->h'.get? b=some o
 slot:∀b o,h.get? b=some o->(∀vs,o.data≠.fields vs)->∃sl,h'.get? b=some { o with slots:=sl }
 fly:Fly H h' g C a
 tr:∃oe vs T oT ts,h'.get? a=some oe/\oe.cls=.ref C/\oe.data=.fields vs/\vs[1]?=some (.ref T)/\T≠a/\h'.get? T=some oT/\oT.data=.fields ts/\ts[3]?=some .none
def Y2b {H:Hp}{g h h':Heap}{C a:Addr}{env:Env}{outer:List Env}{base:Heap}{as:List Addr}(hl:h.FunFrames base (env::outer))(hok:F7 P w H h)(hn:∀b o,g.get? b=some o->∃o',h.get? b=some o')(ez:H a=none)(fT:g.get? a=none)
  (h1:∀b∈as,b∉E6 (env::outer)->H b=none/\g.get? b=none/\∃o vs,h.get? b=some o/\o.data=.fields vs) (h2:∀b∈E6 (env::outer),b∈as)
  (x:Heap.Left (PySem.W.hideAll h as) (env::outer) a (.ref C) h h'):Q4p H g h h' (E6 (env::outer)) C a:=by
 obtain⟨x1,x2,x3,x4⟩:=x;obtain⟨lL,jS,T,oT,ts,e1,e2,e3,e4,e5,e6,e7,e8,e9⟩:=x3;have gR:H T=none/\g.get? T=none:=by
  cases hT:h.get? T with
  | none =>
   constructor
   ·cases q:H T with
    | none=>rfl
    | some u=>obtain⟨o,z⟩:=(hok T u q).there;rw [hT]at z;cases z
   ·cases q:g.get? T with
    | none=>rfl
    | some u=>obtain⟨o,z⟩:=hn T u q;rw [hT]at z;cases z
  | some o =>
   have hm:T∈as:=by
    cases Classical.em (T∈as)with
    | inl z=>exact z
    | inr z=>rw [PySem.W.hideAll_get _ hT z]at e5;cases e5
   have gE:T∉E6 (env::outer):=fun z=>by
    obtain⟨o2,q1,q2⟩:=Q3u hl T z;obtain⟨sl,q3⟩:=x4 T o2 q1 q2;rw [e7]at q3;cases q3;exact q2 _ e8
   exact⟨(h1 T hm gE).1,(h1 T hm gE).2.1⟩
 refine⟨⟨as.filter fun b=>decide (b∉E6 (env::outer)),fun b hb=>?_,fun b o e hb hc=>x1 b o (PySem.W.hideAll_get _ e fun hm=>hc (b8.mpr ⟨hm,bo hb⟩))⟩,x4,⟨ez,fT,lL,jS,e1,e2,e3,.inr ⟨T,oT,ts,e4,e6,gR.1,gR.2,e7,e8,e9⟩⟩,lL,jS,T,oT,ts,e1,e2,e3,e4,e6,e7,e8,e9⟩;obtain⟨q1,q2⟩:=b8.mp hb;exact h1 b q1 (dh q2)
def Y0y {H:Hp}{g:Heap}{C a L:Addr}{env:Env}{outer:List Env}{base:Heap}{Q:Unit->Shared->Prop}(ie:A.frames=some (env::outer))(hf:env.frame=some L)(hl:s.heap.FunFrames base (env::outer))
  (F:Fly H s.heap g C a) (hok:F7 P w H s.heap) (hn:∀b o,g.get? b=some o->∃o',s.heap.get? b=some o')
  (k:∀h',Q4p H g s.heap h' (E6 (env::outer)) C a->Q () { s with heap:=h' }):wpAny M A (noteFrame (.ref a) env) (fun _ s₂=>wpAny M A (setFlight (.ref a) none) Q E s₂) E s:=by
 obtain⟨oe,vs,he,hc,hd,tb⟩:=F.there;rcases tb with h1 | ⟨T,oT,ts,h1,kD,rg,qr,hT,gN,h3⟩
 ·unfold noteFrame;simp only [hf];refine a8 (cJ he hd h1 ?_);rw [az (by decide)];refine wpAny_newEntry (base:=PySem.W.hideAll s.heap (a::E6 (env::outer))) ie (Z3a hl fun b hb=>cB _ (ae _ hb)) hf he (fun b o e=>PySem.W.of_hideAll _ e) (cB _ ag) hd (cD.mp h1).1 fun h' x=>k h' ?_;rw [hc]at x;refine Y2b hl hok hn F.free F.new (fun b hb mv=>?_) (fun b hb=>ae _ hb) x;rcases ar.mp hb with rfl | hb
  ·exact⟨F.free,F.new,oe,vs,he,hd⟩
  ·exact absurd hb mv
 ·unfold noteFrame;simp only [hf];refine a8 (cJ he hd h1 ?_);rw [aG (show(Value.ref T != Value.none)=true from by simp)];refine a8 (cJ hT gN h3 ?_);rw [az (show ¬ ((Value.none==rawInt L)=true)from by simp [rawInt])];refine a8 (jO hT gN (cD.mp h3).1 ?_);have gb:∀b,b≠T->(s.heap.update T (Obj.mapFields (·.setIfInBounds 3 Value.none))).get? b=s.heap.get? b:=fun b hb=>Heap.get?_update_other _ _ (cF hb);have nL:∀b o,s.heap.get? b=some o->(∀vs,o.data≠.fields vs)->b≠T:=fun b o hb gE q=>by
   rw [q,hT]at hb;cases hb;exact gE ts gN
  refine wpAny_newEntry (base:=PySem.W.hideAll s.heap (a::T::E6 (env::outer))) ie ((Z3a hl fun b hb=>cB _ (ae _ (ae _ hb))).of_keeps fun b o hb gE=>⟨o,(gb b (nL b o hb gE)).trans hb,rfl⟩) hf ((gb a (cF kD)).trans he)
   (fun b o e=>?_) (cB _ ag) hd (cD.mp h1).1 fun h' x=>k h' ?_
  ·rw [gb b fun q=>by rw [q,cB _ (ae _ ag)]at e;cases e];exact PySem.W.of_hideAll _ e
  ·rw [hc]at x;obtain⟨x1,x2,x3,x4⟩:=x;refine Y2b (as:=a::T::E6 (env::outer)) hl hok hn F.free F.new (fun b hb mv=>?_) (fun b hb=>ae _ (ae _ hb)) ⟨x1,x2,x3,fun b o hb gE=>x4 b o ((gb b (nL b o hb gE)).trans hb) gE⟩;rcases ar.mp hb with rfl | hb
   ·exact⟨F.free,F.new,oe,vs,he,hd⟩
   ·rcases ar.mp hb with rfl | hb
    ·exact⟨rg,qr,oT,ts,hT,gN⟩
    ·exact absurd hb mv
end
section
variable {Y:Cx}{σ:St}{H:Hp}{s:Shared}{h':Heap}{C a:Addr}
def F7.noted {P:Program}{w:World}{fr:List Addr}{g:Heap}(N:Q4p H g s.heap h' fr C a)(hok:F7 P w H s.heap)(ie:∀b∈fr,H b=none):F7 P w H h':=fun b u e=>by
 obtain⟨ch,c1,c2⟩:=N.ch;have no:∀c v,H c=some v->c∉fr/\c∉ch:=fun c v e=>⟨fun z=>(by rw [ie c z]at e;cases e),fun z=>(by rw [(c1 c z).1]at e;cases e)⟩
 refine(hok b u e).stay (fun c v hc q=>?_) (fun _ _ _ q=>q) fun _ _ q=>q;rcases hc with rfl | hc
 ·exact c2 c v q (no c u e).1 (no c u e).2
 ·exact c2 c v q (no c _ hc).1 (no c _ hc).2
def Y1t {t':Nat}(fS:Y.pn=[])(I:A0 Y [] σ H s)(N:Q4p H Y.s₀.heap s.heap h' (E6 Y.stack) C a)(dH:Y.stack=Y.env::Y.outer/\Y.env.frame=some Y.env.locals):A0 Y [] σ H { s with heap:=h',toks:=t' }:=by
 obtain⟨ch,c1,c2⟩:=N.ch;have lX:∀b,b∈E6 Y.stack->b=Y.env.locals\/b∈Y.fs:=fun b hb=>by
  rw [dH.1]at hb;unfold E6 at hb;rw [bL,dH.2]at hb;exact ar.mp hb
 have lE:∀b,b∈Y.fs->b∈E6 Y.stack:=fun b hb=>by
  rw [dH.1];unfold E6;rw [bL,dH.2];exact ae _ hb
 have old:∀b o,Y.s₀.heap.get? b=some o->b≠Y.env.locals/\b∉ch:=fun b o e=>⟨ay (au (ax e) I.ok.above),fun z=>(by rw [(c1 b z).2.1]at e;cases e)⟩
 have fj:∀c v,s.heap.IsCell c v->h'.IsCell c v:=fun c v bR=>by
  obtain⟨o,ho,hd⟩:=bR;obtain⟨sl,q⟩:=N.slot c o ho (fun vs z=>by rw [hd]at z;cases z);exact⟨_,q,hd⟩
 refine⟨I.ok,I.os,I.bare,⟨fun b o e n hb hx=>?_,fun b o e n hb hx=>?_,I.base.free,fun b o e hx=>?_,I.base.tups,I.base.frzs,I.base.tbls⟩,?_,fun x c e=>?_,I.free,I.freeC,fun p hp=>?_,F7.noted N I.hok I.stkFree,I.len⟩
 ·refine c2 b o (I.base.keep b o e n hb hx) (fun z=>?_) (old b o e).2;rcases lX b z with z | z
  ·exact(old b o e).1 z
  ·exact hb z
 ·obtain⟨sl,q⟩:=I.base.slot b o e n hb hx;obtain⟨o2,q1,q2⟩:=Q3u I.stack b (lE b hb);rw [q]at q1;cases q1;obtain⟨gL,q3⟩:=N.slot b _ q q2;exact⟨gL,q3⟩
 ·obtain⟨o',q⟩:=I.base.there b o e hx
  by_cases hb:b∈E6 Y.stack
  ·obtain⟨o2,q1,q2⟩:=Q3u I.stack b hb;obtain⟨sl,q3⟩:=N.slot b o2 q1 q2;exact⟨_,q3⟩
  ·exact⟨o',c2 b o' q hb (old b o e).2⟩
 ·obtain⟨m,⟨o,es,ep,ho,hd,hr⟩,hl⟩:=I.loc;obtain⟨sl,q⟩:=N.slot _ o ho (fun vs z=>by rw [hd]at z;cases z);refine⟨m,⟨_,es,ep,q,hd,hr⟩,fun i x v e1 e2 e3=>?_⟩;obtain⟨u,r,l⟩:=hl i x v e1 e2 e3;refine⟨u,r,?_⟩;rcases l with l | ⟨k,c,e,z⟩
  ·exact .inl l
  ·exact .inr ⟨k,c,e,fj c _ z⟩
 ·obtain⟨v,z⟩:=I.cell x c e;exact⟨v,fj c v z⟩
 ·rw [fS]at hp;cases hp
end
theorem W1a {M:Model}{A:Around}{E:VS9}{h:Heap}{g:Array GenState}{d:Drawn}{t:Nat}{os:OsState}{e C D NC ND:Addr}{oe:Obj}{nC qC nD qD:Str}{lw jM pc nB:List Value}{lj oo:Bool}{kY nH:List Str}{h9 jT:List Value}{ly pj:Bool}{il kM:Option Bool}{lv oO:Option Addr}
  {k0 k1 k2 k3 k5 j0 j1 j2 j3 j5:Option Value}{l7 kf:String}{Q:Bool->Shared->Prop} (hC:h.get? C=some (excClassObj nC qC C NC lw jM lj kY h9 ly il lv k0 k1 k2 k3 k5 l7)) (hD:h.get? D=some (excClassObj nD qD D ND pc nB oo nH jT pj kM oO j0 j1 j2 j3 j5 kf))
  (he:h.get? e=some oe) (fB:oe.cls=.ref C) (ck:nB.contains (.type "BaseException")=true) {b:Bool} (ek:(Value.ref C::jM).contains (.ref D)=b) (hq:Q b ⟨h,g,d,t,os⟩):wpAny M A (excMatches (.ref e) (.ref D)) Q E ⟨h,g,d,t,os⟩:=by
 have oq:(Value.ref D::nB).contains (.type "BaseException")=true:=by rw [List.contains_cons,ck,Bool.or_true]
 have f:=tc_notTuple;unfold excMatches;cases b with
 | true =>
  repeat (first | (with_reducible refine wpAny_isSubtype_exc hD ?_;rw [oq]) | (with_reducible refine eN he ?_;rw [fB]) | with_reducible refine eN hD ?_ | (with_reducible refine wpAny_isSubtype_exc hC ?_;rw [ek]) | with_reducible refine eN hC ?_ | wp_step)
  exact hq
 | false =>
  repeat (first | (with_reducible refine wpAny_isSubtype_exc hD ?_;rw [oq]) | (with_reducible refine eN he ?_;rw [fB]) | with_reducible refine eN hD ?_ | (with_reducible refine wpAny_isSubtype_exc hC ?_;rw [ek]) | with_reducible refine eN hC ?_ | wp_step)
  exact hq
abbrev _root_.L2.Cx.hand (Y:Cx)(a:Addr)(pn:Pn9):Cx:={ Y with A:=Y.A.mark (some (.ref a)),calm:=false,pn:=pn,xe:=fun _ _=>False }
abbrev Q1b (Y:Cx):St:=List.replicate Y.N.length none
section
variable {Y:Cx}{σ:St}{H:Hp}{s:Shared}{a:Addr}{pn:Pn9}
def W5t (ok:Y.Ok):(Y.hand a pn).Ok :=
 ⟨ok.mod,ok.kind,ok.glob,ok.blt,ok.above,ok.inj,ok.has,ok.cab,fun z=>(by cases z),ok.frames,ok.stk,ok.exf,ok.bs,ok.bsz,ok.noex,ok.exfs,ok.funs,ok.frf⟩
def Z4d {Y:Cx}{i:Nat}{v:V}(h:(Q1b Y)[i]?=some (some v)):False:=by
 rw [gp]at h;split at h <;> cases h
def Y1s (I:A0 Y [] σ H s)(hp:∀p∈pn,s.heap.get? p.1=some p.2/\H p.1=none/\p.1≠Y.env.locals/\p.1∉Y.fs/\∀v,p.2.data≠.cell v):A0 (Y.hand a pn) [] (Q1b Y) H s:=by
 obtain⟨m,hn,_⟩:=I.loc;exact⟨W5t I.ok,I.os,I.bare,I.base,⟨m,hn,fun i x v _ e _=>(Z4d e).elim⟩,I.cell,I.free,I.freeC,fun p q=>hp p (by simpa using q),I.hok,by simp⟩
def Y1u {h':Heap}{m':Str->Option Value}{t':Nat}(ok:Y.Ok)(fS:Y.pn=[])(I:A0 (Y.hand a pn) [] σ H s)(hn:h'.Ns Y.env.locals m')(hs:Heap.SameBut Y.env.locals s.heap h'):A0 Y [] (Q1b Y) H { s with heap:=h',toks:=t' }:=by
 have J:A0 Y [] (Q1b Y) H s:=⟨ok,I.os,I.bare,I.base,(let ⟨m,q,_⟩:=I.loc;⟨m,q,fun i x v _ e _=>(Z4d e).elim⟩),I.cell,I.free,I.freeC,fun p q=>(by rw [fS]at q;cases q),I.hok,by simp⟩
 have kp:∀b o,b≠Y.env.locals->s.heap.get? b=some o->h'.get? b=some o:=fun b o hb e=>hs.extBut b o hb e;refine⟨ok,J.os,J.bare,⟨fun b o e n hb hx=>?_,fun b o e n hb hx=>?_,J.base.free,fun b o e hx=>?_,J.base.tups,J.base.frzs,J.base.tbls⟩,⟨m',hn,fun i x v _ e _=>(Z4d e).elim⟩,fun x c e=>?_,J.free,J.freeC,fun p q=>(by rw [fS]at q;cases q),fun b u e=>?_,by simp⟩
 ·exact kp b o (ay (au (ax e) ok.above)) (J.base.keep b o e n hb hx)
 ·obtain⟨sl,q⟩:=J.base.slot b o e n hb hx;exact⟨sl,kp b _ (ay (au (ax e) ok.above)) q⟩
 ·obtain⟨o',q⟩:=J.base.there b o e hx;exact⟨o',kp b _ (ay (au (ax e) ok.above)) q⟩
 ·obtain⟨v,o,ho,hd⟩:=J.cell x c e;exact⟨v,o,kp c o (J.cne x c e) ho,hd⟩
 ·have fr:∀c v,H c=some v->c≠Y.env.locals:=fun c v e z=>by rw [z,J.free]at e;cases e
  refine(J.hok b u e).stay (fun c v hc q=>kp c v ?_ q) (fun _ _ _ q=>q) fun _ _ q=>q;rcases hc with rfl | hc
  ·exact fr c u e
  ·exact fr c _ hc
end
def Q7z (h:Heap)(C D:Addr):Prop:=∃nC qC NC lw jM lj kY h9 ly il lv k0 k1 k2 k3 k5 l7,h.get? C=some (excClassObj nC qC C NC lw jM lj kY h9 ly il lv k0 k1 k2 k3 k5 l7)/\(Value.ref C::jM).contains (.ref D)=true
def V2t {Y:Cx}{G:Hp}{XE:Addr->Prop}{Z:VS9}{σ:St}{H:Hp}{s:Shared}(fS:Y.pn=[])(hex:Y.ex=[])(dH:Y.stack=Y.env::Y.outer/\Y.env.frame=some Y.env.locals){n xD:Str}{i:Nat}{D:Addr}{kf:String}(hN:Y.N.Nodup)(hi:Y.N[i]?=some n)(fW:Y.env.kindOf n=some .local)
  (OD:OwnCls xD D Z2 kf Y.mg Y.base) (mH:Gl Y xD) (hsub:∀C,XE C->Q7z Y.base C D) {body:List Stmt}{b₀:Stmt}{eS:List Stmt}{tb:TS}{th:Addr->Addr->TS}{np fR pos:Pos} (hb:Q3 (Cx.may Y G XE) body tb)
  (hs:∀C a pn,XE C->(∃oe,(a,oe)∈pn/\oe.cls=.ref C)->Y.s₀.heap.get? a=none->Q3 (Y.hand a pn) (b₀::eS) (th C a)) {E:S6} (I:A0 Y [] σ H s) (cp:tb E σ H)
  (cQ:∀C a H',XE C->A5 G H'->Y.s₀.heap.get? a=none->th C a { nx:=fun _ cT=>E.nx (Q1b Y) cT,rt:=E.rt,bk:=fun _ _=>False,ct:=fun _ _=>False } ((Q1b Y).set i (some (.ref a))) H') (cR:(xD==("__debug__":Str))=false:=by decide) :
  wpAny (model Y.prog Y.w) Y.A (exec (.Try body [.ExceptHandler (some (.Name xD np)) (some n) (b₀::eS) fR] [] [] pos) Y.env) (SP Y [] E) Z s:=by
 have eI:∀b:Addr,b∉Y.ex:=fun b z=>by rw [hex]at z;cases z
 refine wpAny_Try_except (aL (hb [] s σ H E (I.wish _) cp) (fun f s₁ q=>?_) fun e s₁ q=>?_)
 ·have q:=q.unwish;cases f with
  | next=>exact ao q
  | brk=>exact q
  | cont=>exact q
  | ret u=>exact q
 ·obtain⟨σ₁,H₁,C,a,rfl,I₁,sm,F,hx⟩:=q;have ie:Y.A.frames=some (Y.env::Y.outer):=by rw [<- dH.1];exact I₁.ok.frames
  have stk:s₁.heap.FunFrames Y.base (Y.env::Y.outer):=by rw [<- dH.1];exact I₁.stack
  refine Y0y (P:=Y.prog) (w:=Y.w) (g:=Y.s₀.heap) ie dH.2 stk F I₁.hok (fun b o e=>I₁.base.there b o e (eI b)) fun h' N=>?_;have N':Q4p H₁ Y.s₀.heap s₁.heap h' (E6 Y.stack) C a:=by rw [dH.1];exact N
  have I₂:A0 Y [] σ₁ H₁ { s₁ with heap:=h' }:=Y1t (t':=s₁.toks) fS I₁ N' dH;have I₃:A0 (Y.hand a []) [] (Q1b Y) H₁ { s₁ with heap:=h' }:=Y1s I₂ (by simp);obtain⟨nC,qC,NC,lw,jM,lj,kY,h9,ly,il,lv,k0,k1,k2,k3,k5,l7,hC,ek⟩:=hsub C hx;obtain⟨tl,ND,nD,qD,pc,oo,nH,jT,pj,kM,oO,j0,j1,j2,j3,j5,mN,hD,se,nV,T2⟩:=OD.obj;obtain⟨oe,vs,T,oT,ts,he,hc,hd,h1,kD,hT,gN,h3⟩:=N.tr;refine wpAny_handleBy_cons (codeAny_handlers_test (Q3y (X:=Y.hand a []) I₃ mH OD.bound ?_ cR)) (by intro q;cases q);refine W1a (I₃.bk _ _ hC) (I₃.bk _ _ hD) he hc (T2.hasType PySem.F.excBase_ValueError.hasBase) ek ?_;refine codeAny_handlers_suite_as (wpAny_setFlight_none (tb:=T) (vs:=vs) he hd h1 hT gN (cD.mp h3).1 ?_);have gR:H₁ T=none/\Y.s₀.heap.get? T=none:=by
   obtain⟨lL,jS,q1,q2,q3,q4⟩:=N.fly.there;rw [he]at q1;cases q1;rw [hd]at q3;cases q3;rcases q4 with q4 | ⟨T',rM,rK,q4,_,q6,q7,_⟩
   ·rw [h1]at q4;cases q4
   ·rw [h1]at q4;cases q4;exact⟨q6,q7⟩
  have gb:∀b,b≠T->(h'.update T (Obj.mapFields (·.setIfInBounds 3 Value.none))).get? b=h'.get? b:=fun b hb=>Heap.get?_update_other _ _ (cF hb);have kE:=cU (Obj.mapFields (·.setIfInBounds 3 Value.none)) hT (Obj.isFreed_of_fields (bO gN _));have jm:(Obj.mapFields (·.setIfInBounds 3 Value.none) oT).data=.fields (ts.setIfInBounds 3 .none):=bO gN _;have oz:(ts.setIfInBounds 3 Value.none)[3]?=some Value.none:=by
   have:=(cD.mp h3).1;simp [Array.getElem?_setIfInBounds,this]
  have kA:(h'.update T (Obj.mapFields (·.setIfInBounds 3 Value.none))).get? a=some oe:=(gb a (cF kD)).trans he;have N2:Q4p H₁ Y.s₀.heap h' (h'.update T (Obj.mapFields (·.setIfInBounds 3 Value.none))) (E6 Y.stack) C a:=by
   refine⟨⟨[T],fun b hb=>?_,fun b o e _ hb=>?_⟩,fun b o e gE=>?_,⟨N.fly.free,N.fly.new,oe,vs,kA,hc,hd,.inr ⟨T,_,_,h1,kD,gR.1,gR.2,kE,jm,oz⟩⟩,oe,vs,T,_,_,kA,hc,hd,h1,kD,kE,jm,oz⟩
   ·cases aE.mp hb;exact⟨gR.1,gR.2,oT,ts,hT,gN⟩
   ·rw [gb b (fun z=>hb (aE.mpr z))];exact e
   ·refine⟨o.slots,?_⟩;rw [gb b (fun z=>by rw [z,hT]at e;cases e;exact gE _ gN)];exact e
  have I₄:=Y1t (t':=s₁.toks) (h':=h'.update T (Obj.mapFields (·.setIfInBounds 3 Value.none))) fS I₂ N2 dH;have iC:∀(b:Addr) (o:Obj) (us:Array Value),(h'.update T (Obj.mapFields (·.setIfInBounds 3 Value.none))).get? b=some o->o.data=.fields us->H₁ b=none->(h'.update T (Obj.mapFields (·.setIfInBounds 3 Value.none))).get? b=some o/\H₁ b=none/\b≠Y.env.locals/\b∉Y.fs/\∀v,o.data≠.cell v:=fun b o us e hd hH=>by
   refine⟨e,hH,fun z=>?_,fun z=>?_,fun v z=>by rw [hd]at z;cases z⟩
   ·obtain⟨m,⟨o2,es,ep,q1,q2,_⟩,_⟩:=I₄.loc;rw [<- z]at q1;cases (e.symm.trans q1);rw [hd]at q2;cases q2
   ·obtain⟨o2,q1,q2⟩:=Q3u I₄.funs b z;cases (e.symm.trans q1);exact q2 _ hd
  have I₅:A0 (Y.hand a [(a,oe),(T,_)]) [] (Q1b Y) H₁ _:=Y1s I₄ (fun p hp=>by
   rcases ar.mp hp with rfl | hp
   ·exact iC a oe vs kA hd N.fly.free
   ·cases aE.mp hp;exact iC T _ _ kE jm gR.1)
  refine Q7r (X:=Y.hand a _) (u:=.ref a) (v:=.ref a) I₅ hN hi (.inl fW) rfl (fun s₅ I₆ _=>?_) (.inr fW);refine aL (hs C a _ hx ⟨oe,ag,hc⟩ N.fly.new [] s₅ _ H₁ _ I₆ (cQ C a H₁ hx sm N.fly.new)) (fun f s₆ q=>?_) fun _ _ z=>False.elim z;have fB:(Y.env.scope.kind==.class||(Y.env.scope.kind==.module&&Y.env.locals != Y.env.globals))=false:=by rw [I₁.ok.kind];rfl
  cases f with
  | next =>
   obtain⟨σ',H',J,q⟩:=q;obtain⟨m,hn,_⟩:=J.loc;exact wpAny_nameGoes fW hn fB fun h7 m7 mw m8=>⟨Q1b Y,H',Y1u I₁.ok fS J mw m8,q⟩
  | ret u =>
   obtain⟨v,σ',H',J,r,q⟩:=q;obtain⟨m,hn,_⟩:=J.loc;exact wpAny_nameGoes fW hn fB fun h7 m7 mw m8=>⟨v,Q1b Y,H',Y1u I₁.ok fS J mw m8,r,q⟩
  | brk=>obtain⟨_,_,_,q⟩:=q;exact False.elim q
  | cont=>obtain⟨_,_,_,q⟩:=q;exact False.elim q
def Q9v {K:Fg9}{h:Heap}{mg:Str->Option Value}{x:Str}{C:Addr}{lx:List Value}{id:String}(X:K.In h)(hm:mg x=some (.ref C))(q:PySem.W.excIn K C lx id=true):OwnCls x C lx id mg h:=by
 constructor
 ·exact hm
 ·unfold PySem.W.excIn at q;cases hk:K.lookup C with
  | none=>rw [hk]at q;cases q
  | some o =>
   rw [hk]at q;obtain⟨cls,dict,data,slots⟩:=o;split at q
   ·rename_i p9 py e;cases e;split at q
    ·rename_i bm a0 a1 a2 a3 pI a5 fV fv;simp only [cj,beq_iff_eq,Bool.not_eq_true']at q;obtain⟨⟨⟨⟨⟨r1,r2⟩,r3⟩,r4⟩,r5⟩,r6⟩:=q;subst r1 r2;obtain⟨c1,c2,c3,c4,c5,c6,c7,c8,c9,rA,rz⟩:=p9;dsimp only at fV r3 r5 r6;subst fV r3;obtain⟨sl⟩:=slots;have m9:sl=_:=fv;subst m9;exact⟨_,_,_,_,_,_,_,_,_,_,_,_,_,_,_,_,_,X _ _ hk,.of_isNs (PySem.W.isNs_of_in X r5),PySem.W.nsMap_none_of_in X r5 r6,PySem.W.tail_of_in X r4⟩
    ·cases q
   ·cases q
theorem W1f {CX:CXT}{P:Program}{w:World}{K:Fg9}{mg:Str->Option Value}{base:Heap}{k:Nat}{f:Addr}{name qual:Str}{params:Arguments}{body:List Stmt}{scope:Scope}{dV kV cn pm cdv ct oc:Value}{an od:Option Addr}
  {cZ:Array (Option Value)}{N ps:List Str}{sp:Sp} (lk:K.lookup f=some ⟨oc,od,.func (PySem.W.fnOf name qual params body scope dV kV cn pm an cdv ct),cZ⟩) (dq:PySem.W.codeIn K cdv qual=true) (S:G3 N ps scope)
  (len:∀vs H Q E,sp vs H Q E->vs.length=ps.length)
  (bF:∀(A:Around) (outer:List Env) (s:Shared) (H:Hp) (vs:List V) (Q:VK) (E:XK),D4 k (A.deeper (envOfC qual scope s.heap.objs.size f cdv))->sp vs H Q E ->
   ∀s1,A0 (K9 CX P w K mg base N qual scope f cdv A outer s H E) [] (L2.start N vs) H s1->wpAny (model P w) (A.deeper (envOfC qual scope s.heap.objs.size f cdv)) (execs body (envOfC qual scope s.heap.objs.size f cdv)) (SP (K9 CX P w K mg base N qual scope f cdv A outer s H E) [] { nx:=fun _ H'=>Q .non H',rt:=Q }) (K9 CX P w K mg base N qual scope f cdv A outer s H E).xe s1) :
  M9 P w K mg base CX (k+1) f (PySem.W.fnOf name qual params body scope dV kV cn pm an cdv ct) ps sp:=by
 refine⟨len,fun A outer s H args us vs Q E hr e0 hb r eK=>?_⟩;have hl:=len _ _ _ _ eK;have KX:K.In s.heap:=e0.mod.kin.keeps fun b o e=>(e0.bs b o e).1;have i0:s.heap.NoLimit:=e0.mod.nolimit.keeps fun b o e=>(e0.bs b o e).1;have eZ:∀y∈ps.zip us,scope.names.lookup y.1=some .local\/(scope.names.lookup y.1=some .cell/\((cellsFrom (s.heap.objs.size+1) scope.names []).lookup y.1).isSome=true):=fun bR hy=>by
  obtain⟨n,v⟩:=bR;rcases S.par n (dX hy).1 with q | q
  ·exact .inl q
  ·exact .inr ⟨q,gV _ _ _ (.inl q)⟩
 refine codeAny_call_function hr.depth (KX _ _ lk) rfl S.co S.gen rfl (PySem.W.codeRec_of KX dq) (hb _ _ _ _ ?_);refine wpAny_newFunctionEnv_cells S.kind eZ fun env he s1 x=>?_;subst he;refine⟨i0.keeps x.toInCall.keep,codeAny_func ?_⟩;have I:A0 (K9 CX P w K mg base N qual scope f cdv A outer s H E) [] (L2.start N vs) H s1:=Z3k S hr.hd e0 hl r x;refine aL (bF A outer s H vs Q E (hr.deeper _) eK s1 I) (fun fl s' hs=>?_) fun e s' hs=>hs;have fin:∀{σ':St}{H':Hp}{v:V}{u:Value},A0 (K9 CX P w K mg base N qual scope f cdv A outer s H E) [] σ' H' s'->C1 v u->Q v H'->CE outer P w H s Q u s' :=
  fun {σ' H' v u} J rv q=>⟨v,H',J.os,J.bare,J.base,J.hok,rv,q⟩
 cases fl with
 | ret u =>
  obtain⟨v,σ',H',J,rv,q⟩:=hs;exact fin J rv q
 | next =>
  obtain⟨σ',H',J,q⟩:=hs;exact fin (v:=V.non) (u:=Value.none) J rfl q
 | brk =>
  obtain⟨_,_,_,q⟩:=hs;exact False.elim q
 | cont =>
  obtain⟨_,_,_,q⟩:=hs;exact False.elim q
end TK
end
section
namespace PySem.W
open PySem PySem.Spec PySem.Calls PyProof.Rows
open Builtin Builtin.ObjectAttr Builtin.Getset_descriptor
structure ExcK (K:Frag)(C:Addr):Prop where
 ga:findIn K (.ref C) "__getattribute__"=some (some (.builtin "BaseException.__getattribute__"))
 hk:findIn K (.ref C) "__getattr__"=some none
 ha:findIn K (.ref C) "__class__"=some (some (.builtin "object.__class__"))
 hn:specialIn K (.builtin "object.__class__") "__get__"=some (some (.builtin "getset_descriptor.__get__"))
 htk:takesIn K (.builtin "object.__class__")=some true
 mo:mroIn K C (.type "object")=some true
 mb:mroIn K C (.type "BaseException")=some true
section
variable {prog:Program}{w:World}{A:Around}{E:VS9}{s:Shared}{K:Frag}{x C:Addr}{o:Obj}
def Z2s {M:Model}{h:Heap}(hx:h.get? x=some o)(hc:o.cls=.ref C):Looks M h (typeOf (.ref x)) (.ref C):=hc ▸ (Looks.ld hx).andThen .now
def W0z {M:Model}{h:Heap}(Z:ExcK K C)(X:K.In h):Looks M h (find (.ref x) (.ref C) "__class__") (.bind (.builtin "getset_descriptor.__get__") (.builtin "object.__class__")):=by
 have L1:=looks_findIn (M:=M) X Z.ha;have L2:Looks M h (getOf (some (.builtin "object.__class__"))) (some (.builtin "getset_descriptor.__get__")):=looks_specialIn X Z.hn;have L3:=looks_takesIn (M:=M) X Z.htk;unfold find;refine L1.andThen (L2.andThen ?_);refine Looks.andThen (a:=some (.builtin "getset_descriptor.__get__",.builtin "object.__class__")) ?_ (Looks.tag .now);unfold dataDescriptor?;exact L3.andThen .now
def W0y {tp:Value}{R:Result->Shared->Prop}(Z:ExcK K C)(X:K.In s.heap)(hx:s.heap.get? x=some o)(hc:o.cls=.ref C)
  (h:R (.ok (.ret (.ref C))) s):codeAny (model prog w) A (.call (.builtin "getset_descriptor.__get__") ⟨[.builtin "object.__class__",.ref x,tp],[]⟩) R s:=by
 obtain⟨hh,g,dr,t,os⟩:=s;have L0:=Z2s (M:=model prog w) hx hc;have L1:=looks_mroIn (M:=model prog w) X Z.mo;refine codeAny_call_builtin KF.slot_gs.plain KF.entry_gs (KF.slot_gs.check _ _ _ _ _ _ _ _ KF.type_class (KF.args_gs _ _ _) ?_);unfold Builtin.«getset_descriptor.__get__» descrGet;rw [dga_obj];refine a8 (ao ?_);unfold descrGetter descrCheckInstance descrNameAndClass isInstance;simp only [KF.owner_class]
 repeat lk
 refine⟨Code.quiet_builtin _ (by decide +kernel),gU KF.entry_class ?_⟩;unfold Builtin.«object.__class__» shownTypeOf
 repeat lk
 exact h
def W0x {Q:Option Value->Shared->Prop}(Z:ExcK K C)(X:K.In s.heap)(hx:s.heap.get? x=some o)(hc:o.cls=.ref C)(h:Q (some (.ref C)) { s with toks:=s.toks+1 }) :
  wpAny (model prog w) A (getAttr? (.ref x) "__class__") Q E s:=by
 obtain⟨hh,g,d,t,os⟩:=s;have L0:=Z2s (M:=model prog w) hx hc;have L1:=looks_findIn (M:=model prog w) X Z.ga;have L2:=looks_findIn (M:=model prog w) X Z.hk;have L3:=W0z (M:=model prog w) (x:=x) Z X;have L4:=looks_mroIn (M:=model prog w) X Z.mb;unfold getAttr? getAttrBy? getAttrBy;refine a8 (wpAny_mkText (a8 (wpAny_attempt (bG (a8 (L0.at (a8 (L1.at ?_))))))));have pX:(onTheHeap (Value.ref C)&&Value.builtin "BaseException.__getattribute__"==Value.builtin "object.__getattribute__")=false:=by
  have m3:(Value.builtin "BaseException.__getattribute__"==Value.builtin "object.__getattribute__")=false:=by decide +kernel
  rw [m3];rfl
 show wpAny _ _ (if (onTheHeap (Value.ref C)&&Value.builtin "BaseException.__getattribute__"==Value.builtin "object.__getattribute__")=true then _ else _) _ _ _;rw [az (by rw [pX];decide)];unfold getAttrByItsOwn hookBefore;show wpAny _ _ (typeLookup (.ref C) "__getattr__">>=_) _ _ _;refine a8 (L2.at ?_);refine a8 (wpAny_attempt (bG ?_));show wpAny _ _ (boundAndCalled (.builtin "BaseException.__getattribute__") (.ref x) (.str "__class__" t)) _ _ _;unfold boundAndCalled;rw [F.attr_ValueError.ga.bind (.ref x)];refine a8 (ao ?_);refine wpAny_call (codeAny_call_builtin F.attr_ValueError.ga.plain F.entry_bexc_ga ?_);have hk:builtinKind "BaseException.__getattribute__"=some .slot:=by decide +kernel
 have j6:splitId "BaseException.__getattribute__"=some ("BaseException","__getattribute__"):=by decide +kernel
 have ha:=F.args_bexc_ga (.ref x) (.str "__class__" t);simp only [checkBuiltinCall,hk,j6];refine a8 ?_;unfold isInstance
 repeat (any_goals (first | assumption | with_reducible refine L0.at ?_ | with_reducible refine L4.at ?_ | with_reducible refine L3.at ?_ | wp_step))
 refine W0y Z X hx hc ?_
 repeat (any_goals (first | assumption | wp_step))
def kitx_exc (Z:ExcK K C):KitX K (.ref x) (.ref C) (fun h=>∃o,h.get? x=some o/\o.cls=.ref C) where
 ty:=fun M h _ bR=>(by obtain⟨o,h1,h2⟩:=bR;exact Z2s h1 h2)
 it:=fun _ _ X _=>by
  obtain⟨nA,gG,_⟩:=Option.bind_eq_some_iff.mp Z.mo;unfold clsIn at gG;split at gG
  ·rename_i c' d' rq lH ho;intro A' Q' E' s' k q;unfold isType loadHead;exact a8 (wpAny_loadPart (k _ _ (X _ _ ho)) (ao q))
  ·cases gG
 ne:=fun h tp dd aP n sl X qg=>by
  obtain⟨nA,gG,_⟩:=Option.bind_eq_some_iff.mp Z.mo;refine Bool.eq_false_iff.mpr fun q=>?_;have e:C=tp:=Value.ref.inj (beq_iff_eq.mp q);subst e;unfold clsIn at gG;split at gG
  ·rename_i c' d' rq lH ho;have z:=(X _ _ ho).symm.trans qg;cases z
  ·cases gG
 ca:=fun X cp k=>(by obtain⟨o,h1,h2⟩:=cp;exact W0x Z X h1 h2 k)
end
end PySem.W
namespace TK
open PySem PySem.Spec PyProof.Rows L2
theorem Y8w {K:Fg9}{h:Heap}{C D:Addr}{lx:List Value}{id:String}(X:K.In h)(q:PySem.W.excIn K C lx id=true)(m:PySem.W.mroIn K C (.ref D)=some true):Q7z h C D:=by
 unfold PySem.W.excIn at q;obtain⟨nA,gG,hm⟩:=Option.bind_eq_some_iff.mp m;unfold PySem.W.clsIn at gG;cases hk:K.lookup C with
 | none=>rw [hk]at q;cases q
 | some o =>
  rw [hk]at q gG;obtain⟨cls,dict,data,slots⟩:=o;split at q
  ·rename_i p9 py e;cases e;cases gG;split at q
   ·rename_i bm a0 a1 a2 a3 pI a5 fV fv;simp only [cj,beq_iff_eq,Bool.not_eq_true']at q;obtain⟨⟨⟨⟨⟨r1,r2⟩,r3⟩,r4⟩,r5⟩,r6⟩:=q;subst r1 r2;obtain⟨c1,c2,c3,c4,c5,c6,c7,c8,c9,rA,rz⟩:=nA;dsimp only at fV r3 r5 r6 hm;subst fV r3;obtain⟨sl⟩:=slots;have m9:sl=_:=fv;subst m9;refine⟨_,_,_,_,_,_,_,_,_,_,_,_,_,_,_,_,_,X _ _ hk,?_⟩;split at hm
    ·cases hm
    ·exact aA hm
   ·cases q
  ·cases q
section
variable {a:Addr}
def Q7v (i:Nat)(a:Addr)(b:Bool):WE:=fun τ Q=>τ[i]?=some (some (.ob a))/\Q (.st (.bl b))
end
end TK
end
section
namespace TK
open PySem PySem.Spec PyProof.Rows L2
abbrev Q3a (N:List Str):A9:=List.replicate N.length none
def W9u {K:Fg9}{H0 H:Hp}{N:List Str}{i:Nat}{a:Addr}(hi:i<N.length)(s:A5 H0 H):C4 K H0 ((Q3a N).set i (some (.ob a))) ((List.replicate N.length none:St).set i (some (.ref a))) H:=by
 have at_:∀(j:Nat) (sl:Sl),((Q3a N).set i (some (.ob a)))[j]?=some (some sl)->j=i/\sl=.ob a:=fun j sl e=>by
  by_cases hj:j=i
  ·subst hj;rw [X3 (by simpa using hi)]at e;exact⟨rfl,(aA (aA e)).symm⟩
  ·rw [aN (fun z=>hj z.symm),gp]at e;split at e <;> cases e
 refine⟨by simp,s,fun j sl e=>?_,fun j k s t v cz e1 e2 m1 _ _ _=>?_⟩
 ·obtain⟨rfl,rfl⟩:=at_ j sl e;exact⟨.ref a,X3 (by simpa using hi),rfl⟩
 ·obtain⟨_,rfl⟩:=at_ j s e1;cases m1
def Y2x {N:List Str}{j:Nat}{sl:Sl}(e:(Q3a N)[j]?=some (some sl)):False:=by
 rw [gp]at e;split at e <;> cases e
def W9t {K:Fg9}{H0 H:Hp}{N:List Str}(s:A5 H0 H):C4 K H0 (Q3a N) (List.replicate N.length none) H :=
 ⟨by simp,s,fun j sl e=>(Y2x e).elim,fun j k s t v _ e1 _ _ _ _ _=>(Y2x e1).elim⟩
section
def wTry (N:List Str)(i:Nat)(XE:Addr->Prop)(wb:(Addr->Prop)->WS)(wh:Addr->Addr->WS)(wr:WS):WS:=fun E τ =>
 ∃gS:Addr->Prop,(∀C,gS C->XE C)/\wb gS { E with nx:=wr E } τ/\∀C a,gS C->wh C a { nx:=fun _=>wr E (Q3a N),rt:=E.rt,bk:=fun _=>False,ct:=fun _=>False } ((Q3a N).set i (some (.ob a)))
end
abbrev Q2o:=List R->(Out->Prop)->Prop
def Z8g (sp:Q2o):Prop:=∀rs (P Q:Out->Prop),(∀o,P o->Q o)->sp rs P->sp rs Q
def Y2d (K:Fg9)(ts:List Addr)(n:Nat)(sp:Q2o):Sp:=fun vs H Q E=>∃(rs:List R) (Po:Out->Prop),rs.length=n/\K5 K (fun _=>none) H rs vs/\rs.all N1=true/\Z8 ts H/\sp (rs.map J9) Po/\∀o,Po o->endX K H Q E o
abbrev FnXT (P:Program)(w:World)(K:Fg9)(mg:Str->Option Value)(base:Heap)(ts:List Addr)(k:Nat)(f:Addr)(fd:FuncData)(ps:List Str)(sp:Q2o):Prop:=M9 P w K mg base (CX1 P w) k f fd ps (Y2d K ts ps.length sp)
def Z8c (Po:Out->Prop):F6:={ nx:=fun _=>Po (.ok (.st .non)),rt:=fun r=>Po (.ok r),bk:=fun _=>False,ct:=fun _=>False }
section
variable {Y:Cx}{XE:Addr->Prop}{H0:Hp}{ts:List Addr}
def Y7e (XE:Addr->Prop)(sp:Q2o)(wr:WA):WE:=fun τ Q=>wr τ fun rs=>rs.all N1=true/\sp (rs.map J9) (outX XE Q)
def DE.callXT {k:Nat}{f:Addr}{fd:FuncData}{ps:List Str}{sp:Q2o}{x:Str}{p pos:Pos}{e:Expr}{es:List Expr}{wr:WA}(ku:Z8g sp)(F:M9 Y.prog Y.w Y.K Y.mg Y.base (CX1 Y.prog Y.w) k f fd ps (Y2d Y.K ts (e::es).length sp))(hr:D4 k Y.A)(hT:Z8 ts H0)(hg:Gl Y x)(hm:Y.mg x=some (.ref f))(hk:PySem.W.keepIn Y.K (.ref f)=true)(hb:Q0 Y.K fd ps [])
  (ha:DA (Cx.may Y H0 XE) H0 (e::es) wr) (hex:Y.ex=[]) (cR:(x==("__debug__":Str))=false:=by decide) (he:starEach (e::es) Y.env=(false,eval e Y.env)::starEach es Y.env:=by rfl) (hpl:(backTo pos (starEach es Y.env)).any (·.1)=false:=by rfl) :
  DE (Cx.may Y H0 XE) H0 (.Call (.Name x p) (e::es) [] pos) (Y7e XE sp wr) where
 mono:=fun τ P Q f h=>ha.mono τ _ _ (fun rs bR=>(by obtain⟨ok,h1⟩:=bR;exact⟨ok,ku _ _ _ (fun o q=>by cases o with | ok r=>exact f r q | ex C=>exact q) h1⟩)) h
 pe:=N4 (Q9x (X:=Cx.may Y H0 XE) F hr hg hm hk hb .nil (W6j hex) ha.pa cR he hpl) fun σ H Q ⟨τ,hR,h⟩=>⟨τ,hR,ha.mono τ _ _ (fun rs cp vs H1 s1 cq=>by
  obtain⟨ib,ok,h1⟩:=cp;refine⟨rs,_,ib,?_,ok,fun Pt hp=>s1 _ _ (hR.same _ _ (hT Pt hp)),h1,fun o q=>?_⟩
  ·rw [aW];exact cq.v
  ·cases o with
   | ok r=>exact fun v H' s2 ir=>q v H' (s1.trans s2) (ir.older s1)
   | ex C=>exact fun e H' s2=>⟨C,rfl,q,hR.same.trans (s1.trans s2)⟩) (ha.len τ _ h)⟩
end
section
variable {P:Program}{w:World}{K:Fg9}{mg:Str->Option Value}{base:Heap}{ts:List Addr}
def N7.okTryT {x qual:Str}{st:Stmt}{f:Addr}{fd:FuncData}{N ps:List Str}{k:Nat}{sp:Q1}(F:N7 K x qual st f fd)(S:G3 N ps (B6 st)){body eS rest:List Stmt}{b₀:Stmt}{n xD:Str}{np fR pos:Pos}{i:Nat}{D:Addr}{kf:String}
  {XE:Addr->Prop}{wb:(Addr->Prop)->WS}{wh:Addr->Addr->WS}{wr:WS} (jl:K1 st=.Try body [.ExceptHandler (some (.Name xD np)) (some n) (b₀::eS) fR] [] [] pos::rest) (hi:N[i]?=some n) (bD:i<N.length)
  (fW:(B6 st).names.lookup n=some .local) (OD:OwnCls xD D Z2 kf mg base) (hsub:∀C,XE C->Q7z base C D)
  (mH:∀(cdv:Value) (A:Around) (outer:List Env) (s:Shared) (H:Hp) (E:XK),Gl (K9 G2 P w K mg base N qual (B6 st) f cdv A outer s H E) xD)
  (bF:∀(cdv:Value) (A:Around) (outer:List Env) (s:Shared) (H:Hp) (E:XK) (gS:Addr->Prop),Z8 ts H->D4 k (A.deeper (envOfC qual (B6 st) s.heap.objs.size f cdv)) ->
   A3 (Cx.may (K9 G2 P w K mg base N qual (B6 st) f cdv A outer s H E) H gS) H body (wb gS))
  (gC:∀(cdv:Value) (A:Around) (outer:List Env) (s:Shared) (H:Hp) (E:XK) (C a:Addr) (pn:Pn9),Z8 ts H->D4 k (A.deeper (envOfC qual (B6 st) s.heap.objs.size f cdv))->XE C->(∃oe,(a,oe)∈pn/\oe.cls=.ref C)->s.heap.get? a=none ->
   A3 ((K9 G2 P w K mg base N qual (B6 st) f cdv A outer s H E).hand a pn) H (b₀::eS) (wh C a))
  (km:∀(cdv:Value) (A:Around) (outer:List Env) (s:Shared) (H:Hp) (E:XK),Z8 ts H->D4 k (A.deeper (envOfC qual (B6 st) s.heap.objs.size f cdv)) ->
   A3 (K9 G2 P w K mg base N qual (B6 st) f cdv A outer s H E).nox H rest wr)
  (hw:∀rs Pr,rs.length=ps.length->sp rs Pr->wTry N i XE wb wh wr (T5 Pr) (E9 N rs)) (cR:(xD==("__debug__":Str))=false:=by decide):FnT P w K mg base ts (k+1) f fd ps sp:=by
 obtain⟨oc,od,kV,cn,pm,an,cdv,ct,cZ,rfl,lk,dq⟩:=F.ex;refine W1f lk dq S (fun vs H Q E h=>?_) fun A outer s H vs Q E hr h s1 I=>?_
 ·obtain⟨rs,Pr,hl,al,_⟩:=h;rw [<- al.length];exact hl
 obtain⟨rs,Pr,hl,al,ok,hT,h1,h2⟩:=h;obtain⟨gS,fX,q1,q2⟩:=hw (rs.map J9) Pr (by rw [ac];exact hl) h1;rw [Q7p]at q1;have hb:=bF cdv A outer s H E gS hT hr;have me:=km cdv A outer s H E hT hr;have nn:=S.nd;have pF:Pr (.st .non)->∀H',A5 H H'->Q .non H':=fun e H' sm=>h2 _ .non H' e sm (A1.s_non (K:=K) (H:=H'));have lJ:∀r',Pr r'->∀v H',A5 H H'->E5 K H H' r' v->Q v H':=fun r' e v H' sm ir=>h2 r' v H' e sm ir;have nQ:∀Hs,(T5 Pr).Le (O7 K H Hs { nx:=fun _ H'=>Q .non H',rt:=Q }):=fun Hs=>⟨fun τ h σ H' _ hR=>pF h H' hR.same,fun r' h v H' sm ir=>lJ r' h v H' sm ir,fun _ h=>False.elim h,fun _ h=>False.elim h⟩
 have mL:K1 st=_:=jl;show wpAny _ _ (execs (K1 st) _) _ _ s1;rw [mL];refine wpAny_execs_cons (B4 (V2t (Y:=K9 G2 P w K mg base N qual (B6 st) f cdv A outer s H E) (G:=H) (XE:=gS) (tb:=Q7d K H (wb gS)) (th:=fun C a=>Q7d K H (wh C a)) (E:={ nx:=Q7d K H wr { nx:=fun _ H'=>Q .non H',rt:=Q },rt:=Q }) rfl rfl ⟨rfl,rfl⟩ nn hi fW OD (mH cdv A outer s H E) (fun C hx=>hsub C (fX C hx)) hb.ps (fun C a pn hx hp hn=>(gC cdv A outer s H E C a pn hT hr (fX C hx) hp hn).ps) I ?_ (fun C a H' hx sm hn=>?_) cR) fun fl s2 q=>?_)
 ·refine⟨E9 N rs,Q5m al ok,hb.mono _ _ _ ⟨fun τ h σ H' kp hR=>⟨τ,hR,me.mono τ _ _ (nQ _) h⟩,fun r' h v H' sm ir=>lJ r' h v H' sm ir,fun _ h=>False.elim h,fun _ h=>False.elim h⟩ q1⟩
 ·refine⟨(Q3a N).set i (some (.ob a)),W9u bD sm,(gC cdv A outer s H E C a _ hT hr (fX C hx) ⟨⟨.ref C,none,.fields #[],#[]⟩,aE.mpr rfl,rfl⟩ hn).mono _ _ _ ⟨fun τ h σ cT kp hR=>⟨Q3a N,W9t hR.same,me.mono _ _ _ (nQ _) h⟩,fun r' h v H' sm ir=>lJ r' h v H' sm ir,fun _ h=>False.elim h,fun _ h=>False.elim h⟩ (q2 C a hx)⟩
 ·cases fl with
  | next =>
   obtain⟨σ',H',I',q⟩:=q;exact me.ps.nox [] s2 σ' H' _ I' q
  | ret v=>exact q
  | brk=>exact q
  | cont=>exact q
end
structure Q0n (k:Nat)(A:Around):Prop where
 dp:A.depth+3*k+5<recursionLimit
 un:A.units+16*k+200<cLine
def Q0n.hand {k:Nat}{A:Around}(r:D4 k A){v:Option Value}:Q0n k (A.mark v):=⟨r.dp,r.un⟩
def Q0n.deeper {k:Nat}{A:Around}(r:Q0n (k+1) A)(env:Env):Q0n k (A.deeper env) :=
 ⟨by have:=r.dp;show A.depth+1+3*k+5<_;omega,by have:=r.un;show A.units+3+16*k+200<_;omega⟩
structure FnU (P:Program)(w:World)(K:Fg9)(mg:Str->Option Value)(base:Heap)(k:Nat)(f:Addr)(fd:FuncData)(ps:List Str)(sp:Sp):Prop where
 len:∀vs H Q E,sp vs H Q E->vs.length=ps.length
 run:∀(A:Around) (outer:List Env) (s:Shared) (H:Hp) (args:Args) (us:List Value) (vs:List V) (Q:VK) (E:XK),Q0n k A->Q1o P w K mg base A outer s H->BindsTo s fd args (ps.zip us)->C0 vs us->sp vs H Q E ->
  codeAny (model P w) A (.call (.ref f) args) (CR G2 outer P w H s Q E) s
abbrev cxU (P:Program)(w:World)(K:Fg9)(mg:Str->Option Value)(base:Heap)(N:List Str)(qual:Str)(scope:Scope)(f:Addr)(cd:Value)(A:Around)(outer:List Env)(s:Shared)(H:Hp):Cx :=
 { K9 G2 P w K mg base N qual scope f cd A outer s H (fun _ _ _=>False)with calm:=false,xe:=fun _ _=>False }
def W2j {P:Program}{w:World}{K:Fg9}{mg:Str->Option Value}{base:Heap}{N ps:List Str}{qual:Str}{scope:Scope}{f:Addr}{cd:Value}{A:Around}{outer:List Env}{s s1:Shared}{H:Hp}{us:List Value}{vs:List V}
  (S:G3 N ps scope) (e0:Q1o P w K mg base A outer s H) (hl:vs.length=ps.length) (r:C0 vs us)
  (x:InCallC s s.heap.objs.size (bindL (envOfC qual scope s.heap.objs.size f cd).kindOf (ps.zip us) fun _=>none) (cellsFrom (s.heap.objs.size+1) scope.names []) (bindC (envOfC qual scope s.heap.objs.size f cd).kindOf (ps.zip us) fun _=>none) s1) :
  A0 (cxU P w K mg base N qual scope f cd A outer s H) [] (start N vs) H s1:=by
 have I:=Z3k (CX:=G2) (E:=fun _ _ _=>False) (A:={ A with handled:=none }) S rfl ⟨e0.frames,e0.mod,e0.bs,e0.bsz,e0.funs,e0.frf,e0.hok,e0.bare⟩ hl r x;have o:=I.ok;exact⟨⟨o.mod,o.kind,o.glob,o.blt,o.above,o.inj,o.has,o.cab,fun z=>Bool.noConfusion z,Around.frames_deeper e0.frames,o.stk,o.exf,o.bs,o.bsz,o.noex,o.exfs,o.funs,o.frf⟩,I.os,I.bare,I.base,I.loc,I.cell,I.free,I.freeC,I.pin,I.hok,I.len⟩
def Q9h (K:Fg9)(C:Addr)(d:D):Sp:=fun vs H Q _=>∃a oe,vs=[.ref a]/\H a=some (.frz oe M5)/\oe.cls=.ref C/\∀v H',A5 H H'->A1 K H' d v->Q v H'
def Q4w {a b:Addr}{H:Hp}(h:b≠a):hid a H b=H b:=az h
def Y1m {a:Addr}{H:Hp}:hid a H a=none:=aG rfl
def W2t {K:Fg9}{H:Hp}{a:Addr}{oe:Obj}(ha:H a=some (.frz oe M5)){x:Str}{i:Int}{v:V}(h:A1 K H (.tup [.str x,.int i]) v):A1 K (hid a H) (.tup [.str x,.int i]) v:=by
 unfold A1 at h ⊢;obtain⟨b,xs,e,q,t⟩:=h;refine⟨b,xs,e,?_,?_⟩
 ·rw [Q4w (fun z=>by rw [z,ha]at q;cases q)];exact q
 ·simp only [AllS,A1]at t ⊢;exact t
section
variable {X:Cx}{a9:Pn9}{σ:St}{H:Hp}{s:Shared}{a:Addr}{oe:Obj}
def Z4k (hH:H a=none):A5 H (upd H a (.frz oe M5)):=fun b u e=>by
 rw [B9 (fun z=>by rw [z,hH]at e;cases e)];exact e
def W0t (I:A0 X a9 σ H s)(hp:(a,oe)∈X.pn)(hn:X.s₀.heap.get? a=none):Q1o X.prog X.w X.K X.mg X.base X.A X.stack s (upd H a (.frz oe M5)):=by
 have e0:=I.env0;obtain⟨p1,p2,p3,p4,_⟩:=I.pin _ (b9 _ hp);have keep:∀b,b≠a->H b=none->upd H a (.frz oe M5) b=none:=fun b hb n=>by rw [B9 hb];exact n
 refine⟨e0.frames,e0.mod,fun b o e=>⟨(e0.bs b o e).1,keep b (fun z=>?_) (e0.bs b o e).2⟩,e0.bsz,e0.funs,fun b hb=>keep b (fun z=>?_) (e0.frf b hb),fun b u e=>?_,e0.bare⟩
 ·subst z;rw [(I.ok.bs _ o e).1]at hn;cases hn
 ·subst z;rcases ar.mp (I.stkSub _ hb)with z | z
  ·exact p3 z
  ·exact p4 z
 ·by_cases hb:b=a
  ·subst hb;rw [upd_same]at e;cases e;exact Q6m p1
  ·rw [B9 hb]at e;exact(I.hok b u e).stay (fun c v _ q=>q) (fun c v _ q=>Z4k p2 _ _ q) fun c xs q=>Z4k p2 _ _ q
theorem V0a {k:Nat}{f C:Addr}{fd:FuncData}{p:Str}{x:Str}{i:Int}{Q:VK}(F:FnU X.prog X.w X.K X.mg X.base k f fd [p] (Q9h X.K C (.tup [.str x,.int i])))(hr:Q0n k X.A)(hb:Q0 X.K fd [p] [])
  (I:A0 X a9 σ H s) (hp:(a,oe)∈X.pn) (hC:oe.cls=.ref C) (hn:X.s₀.heap.get? a=none) (h:∀v H',A5 H H'->A1 X.K H' (.tup [.str x,.int i]) v->Q v H'):wpAny (model X.prog X.w) X.A (call (.ref f) [.ref a]) (EP X a9 σ Q) X.xe s:=by
 have gQ:BindsTo s fd ⟨[.ref a],[]⟩ [(p,.ref a)]:=by have:=hb s [.ref a] I.kIn rfl;exact this
 obtain⟨p1,p2,p3,p4,_⟩:=I.pin _ (b9 _ hp);have p1:s.heap.get? a=some oe:=p1;have p2:H a=none:=p2;have cz:∀{b:Addr}{u:HO},H b=some u->b≠a:=fun e z=>by rw [z,p2]at e;cases e
 refine wpAny_call (iS (F.run X.A X.stack s (upd H a (.frz oe M5)) ⟨[.ref a],[]⟩ [.ref a] [.ref a] (fun v H'=>A5 (upd H a (.frz oe M5)) H'/\A1 X.K H' (.tup [.str x,.int i]) v) (fun _ _ _=>False) hr (W0t I hp hn) gQ (.cons rfl .nil) ⟨a,oe,rfl,upd_same,hC,fun v H' sm iv=>⟨sm,iv⟩⟩) fun r s' hq=>?_);cases r with
 | error e=>exact(show False from hq).elim
 | ok fl =>
  cases fl with
  | next=>exact False.elim hq
  | brk=>exact False.elim hq
  | cont=>exact False.elim hq
  | ret u =>
   obtain⟨v,H',os,bare,un,hok,rv,sm,iv⟩:=hq;have ha:H' a=some (.frz oe M5):=sm _ _ upd_same;have kept:s'.heap.get? a=some oe:=(hok _ _ ha).1;have fk:∀b u,H b=some u->hid a H' b=some u:=fun b u e=>by
    rw [Q4w (cz e)];exact sm _ _ (Z4k p2 _ _ e)
   refine I.after ⟨v,hid a H',os,bare,⟨fun b o e n hb hx=>?_,fun b o e n hb hx=>?_,fun b o e n hx=>?_,fun b o e hx=>un.there b o e hx,fun b xs e=>fk _ _ e,fun b o u e=>fk _ _ e,fun b ps e=>⟨#[],by rw [fk _ _ e];simp⟩⟩,fun b u e=>?_,rv,h v _ (fun b u e=>fk b u e) (W2t ha iv)⟩
   ·by_cases z:b=a
    ·subst z;rw [p1]at e;cases e;exact kept
    ·exact un.keep b o e (by rw [B9 z];exact n) hb hx
   ·by_cases z:b=a
    ·subst z;rw [p1]at e;cases e;exact⟨_,kept⟩
    ·exact un.slot b o e (by rw [B9 z];exact n) hb hx
   ·by_cases z:b=a
    ·subst z;exact Y1m
    ·rw [Q4w z];exact un.free b o e (by rw [B9 z];exact n) hx
   ·have hz:b≠a:=fun z=>by rw [z,Y1m]at e;cases e
    rw [Q4w hz]at e;refine(hok b u e).stay (fun c v _ q=>q) (fun c v ow q=>?_) fun c xs q=>?_
    ·rw [Q4w (fun z=>?_)]
     ·exact q
     ·rw [z,ha]at q;rcases ow with rfl | ⟨o',rfl⟩
      ·cases q
      ·injection q with q;injection q with _ q;cases q
    ·rw [Q4w (fun z=>by rw [z,ha]at q;cases q)];exact q
end
section
variable {X:Cx}{H0:Hp}{e:Expr}{pos p:Pos}{x y:Str}{a C f:Addr}{fd:FuncData}{k:Nat}
def Y7c (i:Nat)(a:Addr)(d:D):WE:=fun τ Q=>τ[i]?=some (some (.ob a))/\Q (.st d)
def DE.callOb {i:Nat}{t:Str}{j:Int}(F:FnU X.prog X.w X.K X.mg X.base k f fd [y] (Q9h X.K C (.tup [.str t,.int j])))(hr:Q0n k X.A)(fS:∃oe,(a,oe)∈X.pn/\oe.cls=.ref C)(hn:X.s₀.heap.get? a=none)(hg:Gl X x)(hm:X.mg x=some (.ref f))(hk:PySem.W.keepIn X.K (.ref f)=true)(hb:Q0 X.K fd [y] [])
  (he:PE X e (S4 i)) (cR:(x==("__debug__":Str))=false:=by decide) (hs:starEach [e] X.env=(false,eval e X.env)::starEach [] X.env:=by rfl) (hpl:(backTo pos (starEach [] X.env)).any (·.1)=false:=by rfl) :
  DE X H0 (.Call (.Name x p) [e] [] pos) (Y7c i a (.tup [.str t,.int j])) where
 mono:=fun τ P Q f bR=>(by obtain⟨h1,h2⟩:=bR;exact⟨h1,f _ h2⟩)
 pe:=by
  intro a9 s σ H Q I ⟨τ,hR,h1,h2⟩;obtain⟨v,hv,r⟩:=hR.here i _ h1;cases (show v=.ref a from r);obtain⟨oe,hp,hC⟩:=fS;refine bc (Q3y I hg hm ?_ cR);refine PySem.W.callWith_K (h₀:=X.base) I.ok.mod.kin hk (B4 ((T0 he X7 hs) pos a9 s σ H (fun vs H'=>vs=[.ref a]/\H'=H) I ⟨_,hv,rfl,rfl⟩) fun us s1 ⟨vs,H1,I1,rr,e1,e2⟩=>⟨I1.kIn,?_⟩) hs hpl;subst e1 e2;obtain⟨u,rfl,ru⟩:∃u,us=[u]/\C1 (.ref a) u:=by
   cases rr with | cons a b=>cases b;exact⟨_,rfl,a⟩
  cases (show u=Value.ref a from ru);exact V0a F hr hb I1 hp hC hn fun v H' sm iv=>h2 v H' sm iv
def DE.isiF {i:Nat}{cv:V}{c:Value}{b:Bool}{p2:Pos}(he:PE X e (S4 i))(hH:∃oe,H0 a=some (.frz oe M5)/\oe.cls=.ref C)(Z:PySem.W.ExcK X.K C)(hg:Gl X "isinstance")(hm:X.mg "isinstance"=none)(hv:bootBuiltins "isinstance"=some (.builtin "isinstance"))(h2:PE X (.Name y p2) (tC cv))(qR:∀u,C1 cv u->u=c)(hk:PySem.W.kitOne X.K (.ref C) c=some b)
  (kj:starEach [e,.Name y p2] X.env=(false,eval e X.env)::starEach [.Name y p2] X.env:=by rfl) (fv:starEach [.Name y p2] X.env=(false,eval (.Name y p2) X.env)::starEach [] X.env:=by rfl)
  (hpl:(backTo pos (starEach [.Name y p2] X.env)).any (·.1)=false:=by rfl) :
  DE X H0 (.Call (.Name "isinstance" p) [e,.Name y p2] [] pos) (Q7v i a b) where
 mono:=fun τ P Q f cp=>(by obtain⟨h1,h2⟩:=cp;exact⟨h1,f _ h2⟩)
 pe:=by
  obtain⟨oe,qy,fV⟩:=hH;have hc:Q2m X (.builtin "isinstance") (fun xs H Q=>(xs=[.ref a,cv]/\H a=some (.frz oe M5))/\Q (.bl b) H):=by
   intro a9 s σ H xs us Q I rv ⟨⟨e,ha⟩,q⟩;subst e;obtain⟨u,w',rfl,r1,r2⟩:=Z6h rv;cases (show u=Value.ref a from r1);cases qR _ r2;exact bv (PySem.W.kitx_exc Z) I.kIn ⟨oe,(I.hok _ _ ha).1,fV⟩ hk (fun z=>nomatch z) fun tk=>⟨.bl _,H,I.tok tk,rfl,q⟩
  refine N4 (Z4p hc hg hm hv (T0 he (T0 h2 X7 fv) kj) (by decide) (by decide) kj hpl) fun σ H Q ⟨τ,hR,h1,h⟩=>?_;obtain⟨v,hv,r⟩:=hR.here i _ h1;cases (show v=.ref a from r);exact⟨_,hv,⟨rfl,hR.same _ _ qy⟩,h _ _ (A5.refl H) Q9c⟩
end
section
variable {P:Program}{w:World}{K:Fg9}{mg:Str->Option Value}{base:Heap}{x qual y:Str}{st:Stmt}{f C:Addr}{fd:FuncData}{N:List Str}{k:Nat}{d:D}
def N7.okOb {ws:Addr->WS}(F:N7 K x qual st f fd)(S:G3 N [y] (B6 st))
  (bF:∀(cdv:Value) (A:Around) (outer:List Env) (s:Shared) (H:Hp) (a:Addr),(∃oe,H a=some (.frz oe M5)/\oe.cls=.ref C)->Q0n k (A.deeper (envOfC qual (B6 st) s.heap.objs.size f cdv))->A3 (cxU P w K mg base N qual (B6 st) f cdv A outer s H) H (K1 st) (ws a))
  (hw:∀a,ws a (P3 (.st d)) (E9 N [.ob a])):FnU P w K mg base (k+1) f fd [y] (Q9h K C d):=by
 obtain⟨oc,od,kV,cn,pm,an,cdv,ct,cZ,rfl,lk,dq⟩:=F.ex;refine⟨fun vs H Q E h=>by obtain⟨a,oe,rfl,_⟩:=h;rfl,fun A outer s H args us vs Q E hr e0 hb r eK=>?_⟩;have hl:vs.length=[y].length:=by obtain⟨a,oe,rfl,_⟩:=eK;rfl
 have KX:K.In s.heap:=e0.mod.kin.keeps fun b o e=>(e0.bs b o e).1;have i0:s.heap.NoLimit:=e0.mod.nolimit.keeps fun b o e=>(e0.bs b o e).1;have eZ:∀z∈[y].zip us,(B6 st).names.lookup z.1=some .local\/((B6 st).names.lookup z.1=some .cell/\((cellsFrom (s.heap.objs.size+1) (B6 st).names []).lookup z.1).isSome=true):=fun cQ hy=>by
  obtain⟨n,v⟩:=cQ;rcases S.par n (dX hy).1 with q | q
  ·exact .inl q
  ·exact .inr ⟨q,gV _ _ _ (.inl q)⟩
 refine codeAny_call_function (by have:=hr.dp;omega) (KX _ _ lk) rfl S.co S.gen rfl (PySem.W.codeRec_of KX dq) (hb _ _ _ _ ?_);refine wpAny_newFunctionEnv_cells S.kind eZ fun env he s1 x=>?_;subst he;refine⟨i0.keeps x.toInCall.keep,codeAny_func ?_⟩;have I:=W2j (P:=P) (w:=w) (K:=K) (mg:=mg) (base:=base) (N:=N) (qual:=qual) (f:=f) (cd:=cdv) (A:=A) (outer:=outer) (H:=H) S e0 hl r x;obtain⟨a,oe,rfl,h1,h2,h3⟩:=eK;have hd:=bF cdv A outer s H a ⟨oe,h1,h2⟩ (hr.deeper _);have fin:∀{σ':St}{H':Hp}{v:V}{u:Value}{s':Shared},A0 (cxU P w K mg base N qual (B6 st) f cdv A outer s H) [] σ' H' s'->C1 v u->Q v H'->CE outer P w H s Q u s' :=
  fun {σ' H' v u s'} J rv q=>⟨v,H',J.os,J.bare,J.base,J.hok,rv,q⟩
 refine aL (hd.ps [] s1 _ H { nx:=fun _ H'=>Q .non H',rt:=Q } I ⟨E9 N [.ob a],Q5m ⟨_,_,rfl,rfl,rfl⟩ rfl,hd.mono _ _ _ ⟨fun τ h σ H' _ hR=>?_,fun r' h v H' sm ir=>?_,fun _ h=>False.elim h,fun _ h=>False.elim h⟩ (hw a)⟩) (fun fl s' hs=>?_) fun e s' hs=>False.elim hs
 ·have h:R.st d=.st .non:=h;cases h;exact h3 .non H' hR.same (A1.s_non (K:=K) (H:=H'))
 ·have h:r'=R.st d:=h;subst h;exact h3 v H' sm ir
 ·cases fl with
  | ret u =>
   obtain⟨v,σ',H',J,rv,q⟩:=hs;exact fin J rv q
  | next =>
   obtain⟨σ',H',J,q⟩:=hs;exact fin (v:=V.non) (u:=Value.none) J rfl q
  | brk =>
   obtain⟨_,_,_,q⟩:=hs;exact False.elim q
  | cont =>
   obtain⟨_,_,_,q⟩:=hs;exact False.elim q
end
section
variable {P:Program}{w:World}{K:Fg9}{mg:Str->Option Value}{base:Heap}{N:List Str}{qual:Str}{scope:Scope}{f:Addr}{cd:Value}{A:Around}{outer:List Env}{s:Shared}{H:Hp}{E:XK}{G:Hp}{XE:Addr->Prop}
def XL (P:Program)(w:World)(qual:Str)(scope:Scope)(f:Addr)(cd:Value)(A:Around)(outer:List Env)(s:Shared)(H:Hp)(E:XK):VS9:=fun e s' =>
 True/\wpAny (model P w) (A.deeper (envOfC qual scope s.heap.objs.size f cd)) (noteFrame e (envOfC qual scope s.heap.objs.size f cd)) (fun _ s2=>wpAny (model P w) (A.deeper (envOfC qual scope s.heap.objs.size f cd)) (setFlight e none) (fun _ s3=>CX1 P w outer H s E e s3) (fun e' s3=>CX1 P w outer H s E e' s3) s2) (fun e' s2=>CX1 P w outer H s E e' s2) s'
def V3t {e:Value}{s':Shared}(hE:∀C e H',XE C->A5 G H'->E e (some C) H')
  (h:XW (K9 (CX1 P w) P w K mg base N qual scope f cd A outer s H E) G XE e s'):XL P w qual scope f cd A outer s H E e s':=by
 obtain⟨σ,H',C,a,rfl,I,sm,F,hx⟩:=h;have eI:∀b:Addr,b∉(K9 (CX1 P w) P w K mg base N qual scope f cd A outer s H E).ex:=fun b z=>absurd (show b∈([]:List Addr)from z) (by simp);have hL:(envOfC qual scope s.heap.objs.size f cd).frame=some s.heap.objs.size:=rfl;have lX:∀b,b∈E6 (envOfC qual scope s.heap.objs.size f cd::outer)->b=s.heap.objs.size\/b∈E6 outer:=fun b hb=>by
  unfold E6 at hb;rw [bL,hL]at hb;exact ar.mp hb
 have lE:∀b,b∈E6 outer->b∈E6 (envOfC qual scope s.heap.objs.size f cd::outer):=fun b hb=>by
  unfold E6;rw [bL,hL];exact ae _ hb
 have old:∀b o,s.heap.get? b=some o->b≠s.heap.objs.size:=fun b o e z=>absurd (ax e) (by rw [z];exact aV _);have stk:s'.heap.FunFrames base (envOfC qual scope s.heap.objs.size f cd::outer):=I.stack;refine⟨trivial,Y0y (P:=P) (w:=w) (g:=s.heap) I.ok.frames hL stk F I.hok (fun b o e=>I.base.there b o e (eI b)) fun h' N=>?_⟩;obtain⟨ch,c1,c2⟩:=N.ch;have k1:∀b o,s'.heap.get? b=some o->b∉E6 (envOfC qual scope s.heap.objs.size f cd::outer)->((∃o',s.heap.get? b=some o')\/∃u,H' b=some u)->h'.get? b=some o:=fun b o e n q=>c2 b o e n fun z=>by
  obtain⟨z1,z2,_⟩:=c1 b z;rcases q with⟨o',q⟩ | ⟨u,q⟩
  ·have z2:s.heap.get? b=none:=z2;rw [z2]at q;cases q
  ·rw [z1]at q;cases q
 have k2:=N.slot;refine⟨H',C,a,rfl,I.os,I.bare,⟨fun b o e n hb _=>?_,fun b o e n hb _=>?_,fun b o e n _=>I.base.free b o e n (eI b),fun b o e _=>?_,I.base.tups,I.base.frzs,I.base.tbls⟩,fun b u e=>?_,N.fly,hE C _ H' hx sm⟩
 ·refine k1 b o (I.base.keep b o e n hb (eI b)) (fun z=>?_) (.inl ⟨o,e⟩);rcases lX b z with z | z
  ·exact old b o e z
  ·exact hb z
 ·obtain⟨sl,q⟩:=I.base.slot b o e n hb (eI b);obtain⟨o2,q1,q2⟩:=Q3u stk b (lE b hb);rw [q]at q1;cases q1;obtain⟨gL,q3⟩:=k2 b _ q q2;exact⟨gL,q3⟩
 ·obtain⟨o',q⟩:=I.base.there b o e (eI b)
  by_cases hb:b∈E6 (envOfC qual scope s.heap.objs.size f cd::outer)
  ·obtain⟨o2,q1,q2⟩:=Q3u stk b hb;obtain⟨sl,q3⟩:=k2 b o2 q1 q2;exact⟨_,q3⟩
  ·exact⟨o',k1 b o' q hb (.inl ⟨o,e⟩)⟩
 ·refine(I.hok b u e).stay (fun c v hc q=>k1 c v q (fun z=>?_) ?_) (fun _ _ _ q=>q) fun _ _ q=>q
  ·have n:=I.stkFree c z;rcases hc with rfl | hc
   ·rw [n]at e;cases e
   ·rw [n]at hc;cases hc
  ·rcases hc with rfl | hc
   ·exact .inr ⟨u,e⟩
   ·exact .inr ⟨_,hc⟩
def V3s {e:Value}{s':Shared}(h:XL P w qual scope f cd A outer s H E e s'):(K9 (CX1 P w) P w K mg base N qual scope f cd A outer s H E).xe e s':=by
 show wpAny _ _ (leaving _ _) _ _ _;unfold leaving;exact a8 h.2
def V3u:PassesOwn (model P w) (A.deeper (envOfC qual scope s.heap.objs.size f cd)) (envOfC qual scope s.heap.objs.size f cd) (XL P w qual scope f cd A outer s H E):=PySem.kfy_passes
abbrev cxLp (P:Program)(w:World)(K:Fg9)(mg:Str->Option Value)(base:Heap)(N:List Str)(qual:Str)(scope:Scope)(f:Addr)(cd:Value)(A:Around)(outer:List Env)(s:Shared)(H:Hp)(E:XK):Cx :=
 (K9 (CX1 P w) P w K mg base N qual scope f cd A outer s H E).wish (XL P w qual scope f cd A outer s H E)
def DS.raiseL {st:Stmt}{ws:WS}(hE:∀C e H',XE C->A5 H H'->E e (some C) H')(h:DS (Cx.may (K9 (CX1 P w) P w K mg base N qual scope f cd A outer s H E) H XE) H st ws):DS (cxLp P w K mg base N qual scope f cd A outer s H E) H st ws where
 mono:=h.mono
 ps:=fun a9 s1 σ H1 D I hq=>aL (h.ps a9 s1 σ H1 D (I.unwish.wish _) hq) (fun fl s2 q=>by
  have q:=q.unwish;cases fl with
  | next=>obtain⟨σ',H',J,q⟩:=q;exact⟨σ',H',J.wish _,q⟩
  | brk=>obtain⟨σ',H',J,q⟩:=q;exact⟨σ',H',J.wish _,q⟩
  | cont=>obtain⟨σ',H',J,q⟩:=q;exact⟨σ',H',J.wish _,q⟩
  | ret u=>obtain⟨v,σ',H',J,q⟩:=q;exact⟨v,σ',H',J.wish _,q⟩) fun e s2 q=>V3t hE q
end
section
variable {P:Program}{w:World}{K:Fg9}{mg:Str->Option Value}{base:Heap}{ts:List Addr}{x qual:Str}{st:Stmt}{f:Addr}{fd:FuncData}{N ps:List Str}{k:Nat}
def N7.okXL {sp:Q2o}{ws:(Addr->Prop)->WS}(F:N7 K x qual st f fd)(S:G3 N ps (B6 st))
  (bF:∀(cdv:Value) (A:Around) (outer:List Env) (s:Shared) (H:Hp) (E:XK) (XE:Addr->Prop),(∀C e H',XE C->A5 H H'->E e (some C) H')->Z8 ts H->D4 k (A.deeper (envOfC qual (B6 st) s.heap.objs.size f cdv)) ->
   A3 (cxLp P w K mg base N qual (B6 st) f cdv A outer s H E) H (K1 st) (ws XE))
  (hw:∀rs Po,rs.length=ps.length->sp rs Po->ws (fun C=>Po (.ex C)) (Z8c Po) (E9 N rs)):FnXT P w K mg base ts (k+1) f fd ps sp:=by
 obtain⟨oc,od,kV,cn,pm,an,cdv,ct,cZ,rfl,lk,dq⟩:=F.ex;refine Q8y lk dq S (fun vs H Q E h=>?_) fun A outer s H vs Q E hr h=>?_
 ·obtain⟨rs,Po,hl,al,_⟩:=h;rw [<- al.length];exact hl
 obtain⟨rs,Po,hl,al,ok,hT,h1,h2⟩:=h;have hd:=bF cdv A outer s H E (fun C=>Po (.ex C)) (fun C e H' hx sm=>(h2 (.ex C) hx:∀e H',A5 H H'->E e (some C) H') e H' sm) hT hr;have hw:=hw (rs.map J9) Po (by rw [ac];exact hl) h1;rw [Q7p]at hw;refine⟨_,fun a9 s1 σ H1 D I hq=>aL (hd.ps a9 s1 σ H1 D (I.wish _) hq) (fun _ _ q=>q.unwish) fun e s2 q=>V3s q,E9 N rs,Q5m al ok,?_⟩;refine hd.mono _ _ _ ⟨fun τ h σ H' _ hR=>?_,fun r' h v H' sm ir=>?_,fun _ h=>False.elim h,fun _ h=>False.elim h⟩ hw
 ·exact(h2 (.ok (.st .non)) h:∀v H',A5 H H'->E5 K H H' (.st .non) v->Q v H') .non H' hR.same (A1.s_non (K:=K) (H:=H'))
 ·exact(h2 (.ok r') h:∀v H',A5 H H'->E5 K H H' r' v->Q v H') v H' sm ir
end
section
variable {X:Cx}{H0:Hp}{o e:Expr}{wo we:WE}{apos bp:Pos}
theorem Z2c {K:Fg9}{H:Hp}:∀{bs:List Bool}{xs:List V}{aP:List Value},AllS K H (bs.map D.bl) xs->C0 xs aP->aP=bs.map Value.bool
 | [],xs,aP,al,r=>by
  have e:xs=[]:=al;subst e;cases r
  rfl
 | n::ns,xs,aP,al,r=>by
  obtain⟨v,t,rfl,i,al⟩:=al;cases r with
  | cons r1 r2 =>
   cases (show v=.bl n from i);rw [Z2c al r2];cases (show _=Value.bool n from r1)
   rfl
def Y0u (k:Bool){bs:List Bool}(y:Value)(hy:y∈bs.map Value.bool)(A:Around)(s:Shared):PySem.SeqAt.EqAt A s y (.bool k) (isBoolOf k y):=by
 obtain⟨b,_,rfl⟩:=ah.mp hy;exact PySem.SeqAt.EqAt.bool_bool b k
def W4y:MtR X "list.count" (fun x vs H Q=>∃(l:Addr) (xs:List V) (bs:List Bool) (k:Bool),x=.ref l/\vs=[.bl k]/\D7 X.K H l xs/\AllS X.K H (bs.map D.bl) xs/\Q (.int ((bs.count k:Nat):Int)) H):=by
 intro a9 s σ H x vs v us Q I rx rv ⟨l,xs,bs,k,e1,e2,sq,al,q⟩;subst e1 e2;cases rx;obtain⟨u,rfl,r⟩:=T4 rv;cases (show u=Value.bool k from r);obtain⟨aP,rv,pl,_⟩:=I.list sq;have ii:=Z2c al rv;subst ii;obtain⟨⟨cls,dd,data,sl⟩,ho,hc,n,hd⟩:=id pl.isList;simp only at hc hd;subst hc hd;refine call_meets PySem.F.slot_list_count ⟨_,ho,rfl⟩ PySem.F.entry_list_count (PySem.F.args_list_count_2 _ _) (PySem.SeqAt.list_countAt l _ n dd sl (.bool k) (isBoolOf k)) ⟨ho,fun y hy=>Y0u k y (by simpa using hy) _ _,?_⟩;refine⟨.int _,H,I.tok _,⟨_,rfl⟩,?_⟩;rw [show((bs.map Value.bool).toArray.toList.countP (isBoolOf k):Nat)=bs.count k by rw [show(bs.map Value.bool).toArray.toList=bs.map Value.bool from rfl,List.countP_map];rfl];exact q
def W4z:MtR X "list.index" (fun x vs H Q=>∃(l:Addr) (xs:List V) (bs:List Bool) (k:Bool),x=.ref l/\vs=[.bl k]/\D7 X.K H l xs/\AllS X.K H (bs.map D.bl) xs/\bs.length<=sizeLine/\k∈bs/\Q (.int ((bs.idxOf k:Nat):Int)) H):=by
 intro a9 s σ H x vs v us Q I rx rv ⟨l,xs,bs,k,e1,e2,sq,al,hz,hk,q⟩;subst e1 e2;cases rx;obtain⟨u,rfl,r⟩:=T4 rv;cases (show u=Value.bool k from r);obtain⟨aP,rv,pl,_⟩:=I.list sq;have ii:=Z2c al rv;subst ii;obtain⟨⟨cls,dd,data,sl⟩,ho,hc,n,hd⟩:=id pl.isList;simp only at hc hd;subst hc hd;have hj:bs.idxOf k<bs.length:=fN.mpr hk;have hb:sizeLine<2 ^ 62:=by decide
 refine call_meets PySem.F.slot_list_index ⟨_,ho,rfl⟩ PySem.F.entry_list_index (PySem.F.args_list_index_2 _ _) (PySem.SeqAt.list_indexAt l _ n dd sl _ (isBoolOf k) (bs.idxOf k) (by simpa using hj) (by omega) ?_ ?_)
  ⟨ho,fun y hy=>Y0u k y (by simpa using hy) _ _,.int _,H,I.tok _,⟨_,rfl⟩,q⟩
 ·show isBoolOf k ((bs.map Value.bool)[bs.idxOf k]'(by simpa using hj))=true;rw [List.getElem_map];show(bs[bs.idxOf k]==k)=true;simp
 ·intro j h1 h2;have fK:j<bs.length:=by omega
  show isBoolOf k ((bs.map Value.bool)[j]'(by simpa using fK))=false;rw [List.getElem_map];have:=List.not_of_lt_findIdx (p:=(·==k)) (xs:=bs) h2;exact this
def Z6i (wo we:WE):WE:=fun τ Q=>wo τ fun r1=>∃bs:List Bool,r1=.st (.lst (bs.map .bl))/\we τ fun r=>∃k,r=.st (.bl k)/\Q (.st (.int ((bs.count k:Nat):Int)))
def Z6j (wo we:WE):WE:=fun τ Q=>wo τ fun r1=>∃bs:List Bool,r1=.st (.lst (bs.map .bl))/\we τ fun r=>∃k,r=.st (.bl k)/\bs.length<=sizeLine/\k∈bs/\Q (.st (.int ((bs.idxOf k:Nat):Int)))
def DE.bcount (ho:DE X H0 o wo)(he:DE X H0 e we)(ck:attributeBase o "count" X.env (eval o X.env)=eval o X.env:=by rfl)
  (dO:((backTo bp (starEach [e] X.env)).all (fun x=>!x.1)&&(backToKw bp (keywordEach [] X.env)).all (fun x=>x.1.isSome)&&decide ([e].length+([]:List Keyword).length+(if ([]:List Keyword).isEmpty then 0 else 1)<30))=true:=by rfl)
  (cw:(apos.endLine==bp.line)=true:=by rfl) (hs:starEach [e] X.env=(false,eval e X.env)::starEach [] X.env:=by rfl) (cu:(backTo bp (starEach [] X.env)).any (·.1)=false:=by rfl) :
  DE X H0 (.Call (.Attribute o "count" apos) [e] [] bp) (Z6i wo we) where
 mono:=fun τ P Q f h=>ho.mono τ _ _ (fun r bR=>(by obtain⟨x,e1,h⟩:=bR;exact⟨x,e1,he.mono τ _ _ (fun r cp=>(by obtain⟨y,a1,a4⟩:=cp;exact⟨y,a1,f _ a4⟩)) h⟩)) h
 pe:=N4 (Q7h cY PySem.F.slot_list_count PySem.F.type_list_count W4y ho.pe (T0 he.pe X7 hs) ck dO cw hs cu) fun σ H Q ⟨τ,hR,h⟩=>⟨τ,hR,ho.mono τ _ _ (fun r cQ v H1 s1 ir=>by
  obtain⟨x,e1,h⟩:=cQ;subst e1;have ir:A1 X.K H1 (.lst (x.map D.bl)) v:=ir;unfold A1 at ir;obtain⟨l,xs,rfl,sq,al⟩:=ir;refine⟨.inl ⟨rfl,xs,sq.sq⟩,τ,hR.mono s1,he.mono τ _ _ (fun r ⟨y,a1,a4⟩ u H2 s2 iu=>?_) h⟩;subst a1;cases (show u=.bl y from iu);exact⟨l,xs,x,y,rfl,rfl,((Kp.of s2).fzL sq).sq,al.mono (Kp.of s2) _ _,a4 _ _ (s1.trans s2) U5⟩) h⟩
def DE.bindex (ho:DE X H0 o wo)(he:DE X H0 e we)(ck:attributeBase o "index" X.env (eval o X.env)=eval o X.env:=by rfl)
  (dO:((backTo bp (starEach [e] X.env)).all (fun x=>!x.1)&&(backToKw bp (keywordEach [] X.env)).all (fun x=>x.1.isSome)&&decide ([e].length+([]:List Keyword).length+(if ([]:List Keyword).isEmpty then 0 else 1)<30))=true:=by rfl)
  (cw:(apos.endLine==bp.line)=true:=by rfl) (hs:starEach [e] X.env=(false,eval e X.env)::starEach [] X.env:=by rfl) (cu:(backTo bp (starEach [] X.env)).any (·.1)=false:=by rfl) :
  DE X H0 (.Call (.Attribute o "index" apos) [e] [] bp) (Z6j wo we) where
 mono:=fun τ P Q f h=>ho.mono τ _ _ (fun r dG=>(by obtain⟨x,e1,h⟩:=dG;exact⟨x,e1,he.mono τ _ _ (fun r dL=>(by obtain⟨y,a1,a2,a3,a4⟩:=dL;exact⟨y,a1,a2,a3,f _ a4⟩)) h⟩)) h
 pe:=N4 (Q7h cY PySem.F.slot_list_index PySem.F.type_list_index W4z ho.pe (T0 he.pe X7 hs) ck dO cw hs cu) fun σ H Q ⟨τ,hR,h⟩=>⟨τ,hR,ho.mono τ _ _ (fun r dF v H1 s1 ir=>by
  obtain⟨x,e1,h⟩:=dF;subst e1;have ir:A1 X.K H1 (.lst (x.map D.bl)) v:=ir;unfold A1 at ir;obtain⟨l,xs,rfl,sq,al⟩:=ir;refine⟨.inl ⟨rfl,xs,sq.sq⟩,τ,hR.mono s1,he.mono τ _ _ (fun r ⟨y,a1,a2,a3,a4⟩ u H2 s2 iu=>?_) h⟩;subst a1;cases (show u=.bl y from iu);exact⟨l,xs,x,y,rfl,rfl,((Kp.of s2).fzL sq).sq,al.mono (Kp.of s2) _ _,a2,a3,a4 _ _ (s1.trans s2) U5⟩) h⟩
@[simp] theorem V0d {τ:A9}{Q:R->Prop}:Z6i wo we τ Q=wo τ fun r1=>∃bs:List Bool,r1=.st (.lst (bs.map .bl))/\we τ fun r=>∃k,r=.st (.bl k)/\Q (.st (.int ((bs.count k:Nat):Int))):=rfl
@[simp] theorem V0e {τ:A9}{Q:R->Prop}:Z6j wo we τ Q=wo τ fun r1=>∃bs:List Bool,r1=.st (.lst (bs.map .bl))/\we τ fun r=>∃k,r=.st (.bl k)/\bs.length<=sizeLine/\k∈bs/\Q (.st (.int ((bs.idxOf k:Nat):Int))):=rfl
end
end TK
end
section
namespace MC
open PySem PySem.Spec PyProof.Rows L2 TK
abbrev Z1l:List Str:=["machine","text","ends","rows","states","rank","counts","place","lower"]
def Z7l  (dB:D9)(Q1i:D9)(X9:D9) :WS:=(A7 (Q7u (wV 0) (gTp 2 (J5 (B5 2) (J5 (B5 3) gNl)))) (A7 (C2 4 (Z6k 0 dB (A4 (wV 3) (A4 (wV 1) A6)))) (A7 (N6 (Z0w (Y2 (A2 B1 (wV 2) (A2 B1 (wV 4) (Y1 (wC (.int 1))))))) (J3 (wC .non)) M7) (A7 (C2 5 (wC (.int 0))) (A7 (C2 6 (J8 Q1i (A4 (wV 0) A6))) (A7 (K4 (Z3f (A4 (E4 F4 (A4 (wV 1) A6)) A6)) (B5 7) (A7 (C2 8 (wSl (A2 B1 (wV 3) (A2 B1 (wV 4) (wV 7))) Q9p (Q9q (Q3j (wC (.str "01ab")) (A2 B1 (wV 1) (wV 7)))))) (A7 (V6 5 (G7 NoC fun i j=>i+j) (A2 G5 (A2 B1 (wV 6) (wC (.int 0))) (E4 Q1k (A4 (P8 1 [6] (Q0v (wV 8)) (B5 0) W8 (B7 (A2 B1 (wV 1) (wV 0)))) A6)))) (C2 6 (J8 X9 (A4 (wV 0) (A4 (wV 6) A6))))))) (Q6d 5)))))))
abbrev Z8p:List Str:=["machine","tables","number","signs","state","left","counts","column"]
def Z7o   :WS:=(A7 (C2 3 (M3 A6)) (A7 (C2 4 (wC (.int 0))) (A7 (C2 5 (wV 2)) (A7 (K4 (Z3g (A4 (B7 (wSl (wV 1) Q9p (Q9q (Y1 (wC (.int 1)))))) A6)) (B5 6) (A7 (C2 7 (wC (.int 0))) (A7 (Q2k (A2 (L9 fun i j=>decide (j<=i)) (wV 5) (A2 B1 (wV 6) (A2 B1 (A2 B1 (A2 B1 (wV 0) (wC (.int 1))) (wV 4)) (wV 7)))) (A7 (V6 5 (G7 NoC fun i j=>i-j) (A2 B1 (wV 6) (A2 B1 (A2 B1 (A2 B1 (wV 0) (wC (.int 1))) (wV 4)) (wV 7)))) (V6 7 (G7 NoC fun i j=>i+j) (wC (.int 1))))) (A7 (P2 3 (B7 (A2 B1 (wC (.str "01ab")) (wV 7)))) (C2 4 (A2 B1 (A2 B1 (A2 B1 (wV 0) (wC (.int 1))) (wV 4)) (wV 7))))))) (J3 (Z6o (wC (.str "")) (wV 3)))))))
abbrev Z8o:List Str:=["machine","number","last","left","tables"]
def Z7n (fD:Addr)(Q4g:Q1)(Q1i:D9)(X9:D9)(sp_text_of_length_at:D9)(XE:Addr->Prop):WS:=(A7 (C2 2 (Z6 Q4g (A4 (wV 0) A6))) (A7 (C2 3 (wV 1)) (A7 (C2 4 (M3 (A4 (B7 (J8 Q1i (A4 (wV 0) A6))) A6))) (A7 (Q2k (A2 (L9 fun i j=>decide (j<=i)) (wV 3) (A2 B1 (A2 B1 (wV 4) (Y1 (wC (.int 1)))) (wC (.int 0)))) (A7 (N6 (Q4k (A2 (Q0u true) (wV 2) (wC .non)) (A2 (L9 fun i j=>decide (j<i)) (E4 F4 (A4 (wV 4) A6)) (wV 2))) (Z6s XE fD (wC (.str "fewer texts are accepted"))) M7) (A7 (V6 3 (G7 NoC fun i j=>i-j) (A2 B1 (A2 B1 (wV 4) (Y1 (wC (.int 1)))) (wC (.int 0)))) (P2 4 (B7 (J8 X9 (A4 (wV 0) (A4 (A2 B1 (wV 4) (Y1 (wC (.int 1)))) A6)))))))) (J3 (J8 sp_text_of_length_at (A4 (wV 0) (A4 (wV 4) (A4 (wV 3) A6)))))))))
theorem Z2t {α β:Type}{f g:α->List β}{l:List α}(h:∀x∈l,f x=g x):l.flatMap f=l.flatMap g:=by
 induction l with
 | nil=>rfl
 | cons a l ih=>rw [bB,bB,h a ag,ih fun x hx=>h x (ae _ hx)]
theorem Y7l:∀n,wl (n+1)=B2.flatMap fun c=>(wl n).map (c::·)
 | 0=>rfl
 | n+1=>by
  have e:wl (n+1+1)=(wl (n+1)).flatMap fun w=>B2.map fun c=>w++[c]:=rfl;have e2:wl (n+1)=(wl n).flatMap fun w=>B2.map fun c=>w++[c]:=rfl;rw [e,show(wl (n+1)).flatMap (fun w=>B2.map fun c=>w++[c])=(B2.flatMap fun c=>(wl n).map (c::·)).flatMap (fun w=>B2.map fun c=>w++[c])by rw [Y7l n],List.flatMap_assoc];refine Z2t fun c _=>?_;rw [e2,List.flatMap_map,List.map_flatMap];refine Z2t fun w _=>?_;rw [aF]
  rfl
def acS (m:A8)(s l:Nat):List (List Nat):=(wl l).filter fun w=>m.1.getD (run (B3 m.2) s w) false
def Z1s (m:A8)(s:Nat):acS m s 0=if m.1.getD s false=true then [[]]else []:=by
 unfold acS wl;rw [cH];rfl
def Z8r (m:A8)(s l:Nat):acS m s (l+1)=B2.flatMap fun c=>(acS m (B3 m.2 s c) l).map (c::·):=by
 unfold acS;rw [Y7l,List.filter_flatMap];refine Z2t fun c _=>?_;rw [List.filter_map]
 rfl
theorem Q8i {m:A8}(wf:C7 m):∀(l:Nat) {s:Nat},s<m.1.length->(acS m s l).length=E3 m l s
 | 0,s,_=>by
  rw [Y0b,Z1s];split <;> rfl
 | l+1,s,hs=>by
  rw [Z2n wf hs,Z8r,List.length_flatMap];congr 1;refine aM fun c hc=>?_;rw [ac,Q8i wf l (Z4 wf hs hc)]
def idS (m:A8):Nat->List Nat->Nat
 | _,[]=>0
 | s,c::w=>((List.range c).map fun d=>E3 m w.length (B3 m.2 s d)).sum+idS m (B3 m.2 s c) w
theorem Y0x {α:Type}(F:Nat->List α):∀(a c:Nat) (n k:Nat),c<n->k<(F (a+c)).length->(((List.range n).map (a+·)).flatMap F)[((List.range c).map fun d=>(F (a+d)).length).sum+k]?=(F (a+c))[k]?
 | a,0,n+1,k,_,hk=>by
  rw [bq,am,bB];simp only [List.range_zero,gW,List.sum_nil,cG];exact aJ hk
 | a,c+1,n+1,k,hc,hk=>by
  rw [bq,am,bB,bq,am,bZ,aF,aF];have:=Y0x F (a+1) c n k (by omega) (by rw [show a+1+c=a+(c+1)by omega];exact hk);rw [show a+1+c=a+(c+1)by omega]at this;rw [<- this];have e1:(List.range n).map ((fun x=>a+x) ∘ Nat.succ)=(List.range n).map (a+1+·):=aM fun i _=>by show a+(i+1)=_;omega
  have e2:(List.range c).map ((fun d=>(F (a+d)).length) ∘ Nat.succ)=(List.range c).map fun d=>(F (a+1+d)).length:=aM fun i _=>by show(F (a+(i+1))).length=_;rw [show a+(i+1)=a+1+i by omega]
  rw [e1,e2,Nat.add_zero];rw [aQ (by omega)];congr 1;omega
def Y9w:B2=(List.range 4).map (0+·):=by decide
def Z8q {m:A8}(wf:C7 m){s l c k:Nat}(hs:s<m.1.length)(hc:c<4)(hk:k<E3 m l (B3 m.2 s c)):(acS m s (l+1))[((List.range c).map fun d=>E3 m l (B3 m.2 s d)).sum+k]?=((acS m (B3 m.2 s c) l)[k]?).map (c::·):=by
 have hl:∀d,d<4->((acS m (B3 m.2 s d) l).map (d::·)).length=E3 m l (B3 m.2 s d):=fun d hd=>by rw [ac,Q8i wf l (Z4 wf hs (Q5f hd))]
 have:=Y0x (fun c=>(acS m (B3 m.2 s c) l).map (c::·)) 0 c 4 k hc (by rw [cG,hl c hc];exact hk);rw [<- Y9w,<- Z8r,cG,af]at this;rw [<- this];congr 2;refine congrArg List.sum (aM fun d hd=>?_);rw [cG,hl d (by have:=aK.mp hd;omega)]
theorem Y1o {m:A8}(wf:C7 m):∀(w:List Nat) (s:Nat),s<m.1.length->C3 w->m.1.getD (run (B3 m.2) s w) false=true->(acS m s w.length)[idS m s w]?=some w
 | [],s,hs,_,ha=>by
  rw [bj,Z1s,aG (show m.1.getD s false=true from ha)];rfl
 | c::w,s,hs,hw,ha=>by
  have hc:=hw c ag;have ih:=Y1o wf w (B3 m.2 s c) (Z4 wf hs hc) (fun d hd=>hw d (ae _ hd)) ha;have hk:idS m (B3 m.2 s c) w<E3 m w.length (B3 m.2 s c):=by
   rw [<- Q8i wf _ (Z4 wf hs hc)];exact(av.mp ih).1
  rw [aD,idS,Z8q wf hs (Q3t hc) hk,ih];rfl
def N3 (m:A8)(l s c:Nat):Nat:=((List.range c).map fun d=>E3 m l (B3 m.2 s d)).sum
def Q5e (m:A8)(l s c:Nat):N3 m l s (c+1)=N3 m l s c+E3 m l (B3 m.2 s c):=by
 unfold N3;rw [dW,aU,List.sum_append];simp
theorem W4g (m:A8)(l s:Nat){c d:Nat}(h:c<=d):N3 m l s c<=N3 m l s d:=by
 induction d with
 | zero=>rw [Nat.le_zero.mp h];exact aq _
 | succ d ih =>
  rcases aX d c with z | z
  ·rw [show c=d+1 by omega];exact aq _
  ·rw [Q5e];have:=ih z;omega
theorem Y2h (m:A8)(l s k:Nat):∀n,k<N3 m l s n->∃c,c<n/\N3 m l s c<=k/\k<N3 m l s (c+1)
 | 0,h=>absurd h (ip _)
 | n+1,h=>by
  rcases aX k (N3 m l s n)with z | z
  ·obtain⟨c,h1,h2,h3⟩:=Y2h m l s k n z;exact⟨c,by omega,h2,h3⟩
  ·exact⟨n,cf _,z,h⟩
def Y8l {m:A8}(wf:C7 m){s l k:Nat}(hs:s<m.1.length){u:List Nat}(h:(acS m s (l+1))[k]?=some u) :
  ∃c u',c<4/\N3 m l s c<=k/\k<N3 m l s (c+1)/\u=c::u'/\(acS m (B3 m.2 s c) l)[k-N3 m l s c]?=some u':=by
 have hk:k<N3 m l s 4:=by
  have:=(av.mp h).1;rw [Q8i wf _ hs,Z2n wf hs]at this;exact this
 obtain⟨c,h1,h2,h3⟩:=Y2h m l s k 4 hk;rw [Q5e]at h3;have:=Z8q wf hs h1 (k:=k-N3 m l s c) (l:=l) (by omega);rw [show((List.range c).map fun d=>E3 m l (B3 m.2 s d)).sum+(k-N3 m l s c)=k from Nat.add_sub_cancel' h2,h]at this;obtain⟨u',e1,e2⟩:=Option.map_eq_some_iff.mp this.symm;exact⟨c,u',h1,h2,by rw [Q5e];exact h3,e2.symm,e1⟩
theorem Y9v {j:Nat}(h:j<4):B2[j]?=some j:=by
 match j,h with
 | 0,_=>rfl
 | 1,_=>rfl
 | 2,_=>rfl
 | 3,_=>rfl
def wGo:WE:=(A2 B1 (A2 B1 (A2 B1 (wV 0) (wC (.int 1))) (wV 4)) (wV 7))
def goRd {m:A8}(wf:C7 m){s j:Nat}(hs:s<m.1.length)(hj:j<4){o1 o2 o3 o5 o6:Option Sl}{Q:R->Prop}(q:Q (.st (iD (B3 m.2 s j)))):wGo [some (.dat (mD m)),o1,o2,o3,some (.dat (iD s)),o5,o6,some (.dat (iD j))] Q:=by
 unfold wGo;simp only [D3,B0,D8];refine⟨_,rfl,O6 (i:=1) rfl ⟨_,rfl,?_⟩⟩;refine O6 (i:=s) (d:=rD (B2.map (B3 m.2 s))) (by rw [af,Wf.rowEq wf hs];rfl) ⟨_,rfl,?_⟩;exact O6 (i:=j) (by rw [af,af,Y9v hj];rfl) q
def wCt:WE:=(A2 B1 (wV 6) wGo)
def ctRd {m:A8}(wf:C7 m){s j l:Nat}(hs:s<m.1.length)(hj:j<4){o1 o2 o3 o5:Option Sl}{Q:R->Prop}(q:Q (.st (iD (E3 m l (B3 m.2 s j))))):wCt [some (.dat (mD m)),o1,o2,o3,some (.dat (iD s)),o5,some (.dat (.lst ((M0 m l).map iD))),some (.dat (iD j))] Q:=by
 unfold wCt;rw [D3,B0];refine⟨_,rfl,goRd wf hs hj ?_⟩;exact Q6s wf (.inr rfl) (Z4 wf hs (Q5f hj)) q
def wtN:WT:=(A2 (L9 fun i j=>decide (j<=i)) (wV 5) wCt)
def wbN:WS:=(A7 (V6 5 (G7 NoC fun i j=>i-j) wCt) (V6 7 (G7 NoC fun i j=>i+j) (wC (.int 1))))
def Y6e {m:A8}(wf:C7 m){s j l x:Nat}(hs:s<m.1.length)(hj:j<4){o1 o2 o3:Option Sl}{Q:Bool->Prop}(q:Q (decide (((E3 m l (B3 m.2 s j):Nat):Int)<=(x:Int)))):wtN [some (.dat (mD m)),o1,o2,o3,some (.dat (iD s)),some (.dat (iD x)),some (.dat (.lst ((M0 m l).map iD))),some (.dat (iD j))] Q:=by
 unfold wtN;rw [D3,B0];exact⟨_,rfl,ctRd wf hs hj q⟩
theorem Y7i {m:A8}(wf:C7 m){s l k c:Nat}(hs:s<m.1.length)(hc:c<4)(h1:N3 m l s c<=k)(h2:k<N3 m l s (c+1)){o1 o2 o3:Option Sl}{E:F6}
  (h:E.nx [some (.dat (mD m)),o1,o2,o3,some (.dat (iD s)),some (.dat (iD (k-N3 m l s c))),some (.dat (.lst ((M0 m l).map iD))),some (.dat (iD c))]):∀(n j:Nat),j+n=c ->
  J4 wtN wbN (n+1) E [some (.dat (mD m)),o1,o2,o3,some (.dat (iD s)),some (.dat (iD (k-N3 m l s j))),some (.dat (.lst ((M0 m l).map iD))),some (.dat (iD j))]
 | 0,j,e=>by
  have e:j=c:=e;subst e;rw [Q5e]at h2;rw [J4];refine Y6e wf hs hc ?_;rw [az (by simp;omega)];exact h
 | n+1,j,e=>by
  have hl:N3 m l s (j+1)<=N3 m l s c:=W4g m l s (by omega);rw [Q5e]at hl;rw [J4];refine Y6e wf hs (by omega) ?_;rw [aG (by simp;omega)];unfold wbN;rw [C8,Q5p];refine⟨_,rfl,ctRd wf hs (by omega) ?_⟩;show G7 _ _ (.st (.int _)) (.st (.int _)) _;rw [Q7f];refine⟨trivial,?_⟩;rw [L6];dsimp only;rw [Q5p];refine⟨_,rfl,?_⟩;rw [D8];show G7 _ _ (.st (.int (j:Int))) (.st (.int 1)) _;rw [Q7f];refine⟨trivial,?_⟩;rw [L6];have ih:=Y7i wf hs hc h1 h2 h n (j+1) (by omega);have e1:D.int (((k-N3 m l s j:Nat):Int)-((E3 m l (B3 m.2 s j):Nat):Int))=iD (k-N3 m l s (j+1)):=by
   show D.int _=D.int _;rw [Q5e];congr 1;omega
  show J4 _ _ _ _ [_,_,_,_,_,some (.dat (D.int (((k-N3 m l s j:Nat):Int)-((E3 m l (B3 m.2 s j):Nat):Int)))),_,_];rw [e1];exact ih
def wbLa:WS:=(A7 (C2 7 (wC (.int 0))) (A7 (Q2k wtN wbN) (A7 (P2 3 (B7 (A2 B1 (wC (.str "01ab")) (wV 7)))) (C2 4 wGo))))
theorem Y1d {m:A8}(wf:C7 m){E:F6}{o1 o2:Option Sl}{w:List Nat}:∀(l k:Nat) (p u:List Nat) (o6 o7:Option Sl),C3 p->p.length+l<=1000->(acS m (D6 m p) l)[k]?=some u->w=p++u->(∀o4 o5 o6 o7,E.nx [some (.dat (mD m)),o1,o2,some (.own ((w.map K7).map D.str)),o4,o5,o6,o7]) ->
  D1 (B5 6) wbLa E (L7 m l).reverse [some (.dat (mD m)),o1,o2,some (.own ((p.map K7).map D.str)),some (.dat (iD (D6 m p))),some (.dat (iD k)),o6,o7]
 | 0,k,p,u,o6,o7,hp,hl,hu,e,h=>by
  have e0:u=[]:=by
   rw [Z1s]at hu;split at hu
   ·have:=aB hu;simpa using this
   ·cases hu
  subst e0;rw [aW]at e;subst e;exact h _ _ _ _
 | l+1,k,p,u,o6,o7,hp,hl,hu,e,h=>by
  have hs:=Q1j wf p hp;obtain⟨c,u',hc,h1,h2,e1,e2⟩:=Y8l wf hs hu;have et:(L7 m (l+1)).reverse=.lst ((M0 m l).map iD)::(L7 m l).reverse:=by
   unfold L7;rw [dW,aU,List.reverse_append];rfl
  rw [et,D1,M6];unfold wbLa;rw [C8,F8,D8,L6];dsimp only;rw [C8];refine⟨c+1,?_⟩;have h0:N3 m l (D6 m p) 0=0:=rfl;refine Y7i wf hs hc h1 h2 ?_ c 0 (by omega);dsimp only;rw [C8,Q2h];refine⟨_,rfl,?_⟩;rw [E8,D3,D8,B0];refine⟨_,rfl,W2z (Q5f hc) ?_⟩;refine⟨_,rfl,szl (by rw [ac,ac];omega),?_⟩;dsimp only;rw [F8];refine goRd wf hs hc ?_;rw [L6];have es:D6 m (p++[c])=B3 m.2 (D6 m p) c:=Q2i m p c;have:=Y1d wf l (k-N3 m l (D6 m p) c) (p++[c]) u' (some (.dat (.lst ((M0 m l).map iD)))) (some (.dat (iD c))) (fun d hd=>by
   rcases aR.mp hd with q | q
   ·exact hp d q
   ·rw [aE.mp q];exact Q5f hc) (by rw [ai];simp only [aD,bj];omega) (by rw [es];exact e2) (by rw [e,e1,bI];rfl) h
  rw [es,aU,aU]at this;exact this
def sp_text_of_length_at:D9:=fun rs r=>∃(m:A8) (L k:Nat) (w:List Nat),rs=[.st (mD m),.bw (L7 m (L+1)),.st (iD k)]/\C7 m/\L<=1000/\((wl L).filter (J6 m))[k]?=some w/\r=.st (tD w)
def W9o:∀rs r,rs.length=3->sp_text_of_length_at rs r->Z7o (P3 r) (E9 Z8p rs):=by
 rintro rs r _ ⟨m,L,k,w,rfl,wf,hL,hw,rfl⟩;have hm:=V2.mp (b8.mp (aB hw)).1;unfold Z7o;rw [C8,F8,s_lst,C6];refine⟨_,rfl,sz (by decide),?_⟩;rw [O8];dsimp only;rw [C8,F8,D8,L6];dsimp only;rw [C8,F8,B0];refine⟨_,rfl,?_⟩;show T3 (.st (iD k)) _;rw [L6];dsimp only;rw [C8,S1,V0l];simp only [D2,E8,s_sl,B0,s_oN,s_oS,Q5r,D8,C6];refine⟨_,rfl,?_⟩;simp only [Q5j,W5o,W5r,Y0k,Y6c];refine⟨_,rfl,?_⟩;rw [Y0k,Y6c];refine Y1d (w:=w) wf L k [] w none none (fun d hd=>by cases hd) (by simp;omega) hw rfl fun o4 o5 o6 o7=>?_;dsimp only;rw [Q6,V0p,D8];refine⟨_,rfl,?_⟩;rw [B0];refine⟨_,rfl,_,_,rfl,Y5x _,?_,?_⟩
 ·rw [Y6a hm.1];have:(Str.ofString "").length=0:=rfl;show w.length+_*(Str.ofString "").length<=_;rw [this,Nat.mul_zero,hm.2];omega
 ·show R.st _=R.st _;rw [show Txt.join "" (w.map K7)=J7 w from W3c hm.1]
def Q4h (C:Addr):Q2o:=fun rs Po=>∃(m:A8) (n:Nat),rs=[.st (mD m),.st (iD n)]/\C7 m/\m.1.length<=8/\n<=100/\(∀w j,(C5 m j)[n]?=some w->Po (.ok (.st (tD w))))/\((∀j,(C5 m j).length<=n)->Po (.ex C))
def W4w (C:Addr):Z8g (Q4h C):=by rintro rs P Q f ⟨m,n,e,h1,h2,h3,h4,h5⟩;exact⟨m,n,e,h1,h2,h3,fun w j h=>f _ (h4 w j h),fun h=>f _ (h5 h)⟩
def Q7x:WE:=(A2 B1 (A2 B1 (wV 4) (Y1 (wC (.int 1)))) (wC (.int 0)))
def topT {m:A8}(wf:C7 m){j:Nat}{o0 o1 o2 o3:Option Sl}{Q:R->Prop}(q:Q (.st (iD (E3 m j 0)))):Q7x [o0,o1,o2,o3,some (.own (L7 m (j+1)))] Q:=by
 unfold Q7x;simp only [D3,B0,Q5r,D8];refine⟨_,rfl,?_⟩;rw [Q5j];show B1 (.bw (L7 m (j+1))) (.st (.int (-1))) _;rw [Q1d];refine⟨_,Y6d m j,?_⟩;exact Q6s wf (.inr rfl) (g:=0) wf.pos q
def Z7z:WT:=(A2 (L9 fun i j=>decide (j<=i)) (wV 3) Q7x)
def Y6f {m:A8}(wf:C7 m){j x:Nat}{o0 o1 o2:Option Sl}{Q:Bool->Prop}(q:Q (decide (((E3 m j 0:Nat):Int)<=(x:Int)))):Z7z [o0,o1,o2,some (.dat (iD x)),some (.own (L7 m (j+1)))] Q:=by
 unfold Z7z;rw [D3,B0];exact⟨_,rfl,topT wf q⟩
def wtXa:WT:=(Q4k (A2 (Q0u true) (wV 2) (wC .non)) (A2 (L9 fun i j=>decide (j<i)) (E4 F4 (A4 (wV 4) A6)) (wV 2)))
def V2o {m:A8}{d:D}(hd:Q0l m d){j:Nat}{o0 o1 o3:Option Sl}{Q:Bool->Prop}(q:Q (!Q4b d (j+1))):wtXa [o0,o1,some (.dat d),o3,some (.own (L7 m (j+1)))] Q:=by
 unfold wtXa;rw [Y4e];simp only [D3,B0,D8,N5,D2,C6];have int:∀i:Int,d=.int i->∃s,([o0,o1,some (.dat d),o3,some (.own (L7 m (j+1)))]:A9)[4]?=some (some s)/\F4 [rdS s] fun y=>∃s,([o0,o1,some (.dat d),o3,some (.own (L7 m (j+1)))]:A9)[2]?=some (some s)/\L9 (fun i j=>decide (j<i)) y (rdS s) Q:=by
  intro i e;subst e;refine⟨_,rfl,?_⟩;rw [V3,Q1e];refine⟨_,rfl,?_⟩;show L9 _ (.st (.int _)) (.st (.int i)) _;rw [Q2d];have e:decide (i<((L7 m (j+1)).length:Int))=!decide (((j+1:Nat):Int)<=i):=by
   rw [show((L7 m (j+1)).length:Int)=((j+1:Nat):Int)by simp]
   by_cases z:i<((j+1:Nat):Int)
   ·rw [bo z,bb (by omega)];rfl
   ·rw [bb z,bo (by omega)];rfl
  rw [e];exact q
 refine⟨_,rfl,_,rfl,rfl,?_⟩;rcases hd with⟨e,_⟩ | ⟨L,e,_⟩ | ⟨e,_⟩
 ·have:=int _ e;subst e;exact this
 ·have:=int _ e;subst e;exact this
 ·subst e;exact q
def Y5v {m:A8}{d:D}(hd:Q0l m d){j n:Nat}(hm:Q4b d (j+1)=false)(hu:(C5 m (j+1)).length<=n)(i:Nat):(C5 m i).length<=n:=by
 have hs:∀w,L8 m w->w.length<j+1:=by
  rcases hd with⟨e,hd⟩ | ⟨L,e,_,hd⟩ | ⟨e,_⟩
  ·exact fun w hw=>absurd hw (hd w)
  ·subst e;have:decide (((j+1:Nat):Int)<=(L:Int))=false:=hm;simp at this;intro w hw;have:=hd w hw;omega
  ·subst e;cases hm
 rcases Nat.le_total i (j+1)with q | q
 ·exact aS (Q5z m q).length_le hu
 ·rw [Y6s q hs];exact hu
def Y1k {m:A8}(wf:C7 m){d:D}(hd:Q0l m d){j n:Nat}(hj:(n+1)*m.1.length<=j)(hu:(C5 m (j+1)).length<=n):Q4b d (j+1)=false:=by
 have h1:m.1.length<=(n+1)*m.1.length:=Nat.le_mul_of_pos_left _ (by omega);rcases hd with⟨e,hd⟩ | ⟨L,e,he,hd⟩ | ⟨e,hi⟩
 ·subst e;show decide (((j+1:Nat):Int)<=-1)=false;simp;omega
 ·subst e;have:=W3l wf hd he;show decide (((j+1:Nat):Int)<=(L:Int))=false;simp;omega
 ·have h2:=Z6f wf hi (n+1);have h3:=(Q5z m (show(n+1)*m.1.length<=j+1 by omega)).length_le;omega
def Z7s (XE:Addr->Prop)(C:Addr):WS:=(A7 (N6 (Q4k (A2 (Q0u true) (wV 2) (wC .non)) (A2 (L9 fun i j=>decide (j<i)) (E4 F4 (A4 (wV 4) A6)) (wV 2))) (Z6s XE C (wC (.str "fewer texts are accepted"))) M7) (A7 (V6 3 (G7 NoC fun i j=>i-j) Q7x) (P2 4 (B7 (J8 X9 (A4 (wV 0) (A4 (A2 B1 (wV 4) (Y1 (wC (.int 1)))) A6)))))))
theorem Z9n {m:A8}(wf:C7 m)(hl:m.1.length<=20000){XE:Addr->Prop}{C:Addr}{d:D}(hd:Q0l m d){j x:Nat}(hj:j<=10000)(hx:E3 m j 0<=x){E:F6}{o1:Option Sl}(h1:Q4b d (j+1)=false->XE C)(h2:Q4b d (j+1)=true->E.nx [some (.dat (mD m)),o1,some (.dat d),some (.dat (iD (x-E3 m j 0))),some (.own (L7 m (j+1+1)))]) :
  Z7s XE C E [some (.dat (mD m)),o1,some (.dat d),some (.dat (iD x)),some (.own (L7 m (j+1)))]:=by
 have tail:Q4b d (j+1)=true->(A7 (V6 3 (G7 NoC fun i j=>i-j) Q7x) (P2 4 (B7 (J8 X9 (A4 (wV 0) (A4 (A2 B1 (wV 4) (Y1 (wC (.int 1)))) A6)))))) E [some (.dat (mD m)),o1,some (.dat d),some (.dat (iD x)),some (.own (L7 m (j+1)))]:=by
  intro hm;rw [C8,Q5p];refine⟨_,rfl,topT wf ?_⟩;show G7 _ _ (.st (.int _)) (.st (.int _)) _;rw [Q7f];refine⟨trivial,?_⟩;rw [L6];dsimp only;rw [Q2h];refine⟨_,rfl,?_⟩;simp only [E8,R1,D2,B0,D3,Q5r,D8,C6];refine⟨_,rfl,_,rfl,?_⟩;rw [Q5j];show B1 (.bw (L7 m (j+1))) (.st (.int (-1))) _;rw [Q1d];refine⟨_,Y6d m j,rfl,_,⟨m,_,j,rfl,.inr rfl,wf,hl,rfl⟩,?_⟩;rw [Q5i];refine⟨_,rfl,szl (by simp;omega),?_⟩;have e1:D.int ((x:Int)-((E3 m j 0:Nat):Int))=iD (x-E3 m j 0):=by
   show D.int _=D.int _;congr 1;omega
  show E.nx [_,_,_,some (.dat (D.int ((x:Int)-((E3 m j 0:Nat):Int)))),some (.own (L7 m (j+1)++[.lst ((M0 m (j+1)).map iD)]))];rw [e1,V2n];exact h2 hm
 unfold Z7s;rw [C8,W6];refine V2o hd ?_;cases hm:Q4b d (j+1)with
 | false =>
  rw [show(!false)=true from rfl,aG rfl];exact h1 hm
 | true =>
  rw [show(!true)=false from rfl,az (by decide),V4];exact tail hm
theorem V3o {m:A8}(wf:C7 m)(hl:m.1.length<=8){XE:Addr->Prop}{C:Addr}{d:D}(hd:Q0l m d){n:Nat}(hn:n<=100){E:F6}{o1:Option Sl}(hx:(∀j,(C5 m j).length<=n)->XE C)
  (h:∀j,j<=(n+1)*m.1.length->(C5 m j).length<=n->n<(C5 m (j+1)).length->E.nx [some (.dat (mD m)),o1,some (.dat d),some (.dat (iD (n-(C5 m j).length))),some (.own (L7 m (j+1)))]):∀(f j:Nat),(n+1)*m.1.length<=f+j->j<=(n+1)*m.1.length->(C5 m j).length<=n ->
  J4 Z7z (Z7s XE C) (f+1) E [some (.dat (mD m)),o1,some (.dat d),some (.dat (iD (n-(C5 m j).length))),some (.own (L7 m (j+1)))]:=by
 have hB:(n+1)*m.1.length<=808:=aS (Nat.mul_le_mul (show n+1<=101 by omega) hl) (by decide);intro f
 induction f with
 | zero =>
  intro j hf hj hu;rw [J4];refine Y6f wf ?_
  by_cases hz:E3 m j 0<=n-(C5 m j).length
  ·rw [aG (by simpa using hz)];rw [Q2s wf]at hz;have i3:(C5 m (j+1)).length<=n:=by rw [Q0h,ai];omega
   refine Z9n wf (by omega) hd (by omega) (by rw [Q2s wf];exact hz) (fun hm=>hx fun i=>?_) fun hm=>?_
   ·exact Y5v hd hm i3 i
   ·exact absurd hm (by rw [Y1k wf hd (by omega) i3];decide)
  ·rw [az (by simpa using hz)];rw [Q2s wf]at hz;exact h j hj hu (by rw [Q0h,ai];omega)
 | succ f ih =>
  intro j hf hj hu;rw [J4];refine Y6f wf ?_
  by_cases hz:E3 m j 0<=n-(C5 m j).length
  ·rw [aG (by simpa using hz)];rw [Q2s wf]at hz;have i3:(C5 m (j+1)).length<=n:=by rw [Q0h,ai];omega
   refine Z9n wf (by omega) hd (by omega) (by rw [Q2s wf];exact hz) (fun hm=>hx fun i=>?_) fun hm=>?_
   ·exact Y5v hd hm i3 i
   ·have fK:j+1<=(n+1)*m.1.length:=by
     rcases aX j ((n+1)*m.1.length)with q | q
     ·exact q
     ·exact absurd hm (by rw [Y1k wf hd q i3];decide)
    have:=ih (j+1) (by omega) fK i3;rw [Q2s wf];rw [show n-(C5 m (j+1)).length=n-(C5 m j).length-((wl j).filter (J6 m)).length by rw [Q0h,ai];omega]at this;exact this
  ·rw [az (by simpa using hz)];rw [Q2s wf]at hz;exact h j hj hu (by rw [Q0h,ai];omega)
def W9n (C:Addr):∀rs Po,rs.length=2->Q4h C rs Po->Z7n C Q4g Q1i X9 sp_text_of_length_at (fun C=>Po (.ex C)) (Z8c Po) (E9 Z8o rs):=by
 rintro rs Po _ ⟨m,n,rfl,wf,hl,hn,hok,hex⟩;unfold Z7n;rw [C8,F8,Q4c];simp only [D2,B0,C6];refine⟨_,rfl,rfl,m,rfl,wf,by omega,fun d hd=>?_⟩;show T3 (.st d) _;rw [L6,C8,F8,B0];refine⟨_,rfl,?_⟩;show T3 (.st (iD n)) _;rw [L6];dsimp only;rw [C8,F8,s_lst];simp only [D2,E8,R1,B0,C6];refine⟨_,rfl,rfl,_,⟨m,rfl,by omega,rfl⟩,?_⟩;rw [Q5i];refine⟨_,rfl,sz (by simp),?_⟩;rw [O8];dsimp only;rw [C8];refine⟨(n+1)*m.1.length+1,?_⟩;refine V3o (XE:=fun C=>Po (.ex C)) (C:=C) wf hl hd hn hex (fun j hj h1 h2=>?_) _ 0 (by omega) (bt _) (bt _);have hB:(n+1)*m.1.length<=808:=aS (Nat.mul_le_mul (show n+1<=101 by omega) hl) (by decide);dsimp only;rw [Q6];simp only [R1,D2,B0,C6];rw [Q0h,ai]at h2;have hk:n-(C5 m j).length<((wl j).filter (J6 m)).length:=by omega
 refine⟨_,rfl,_,rfl,_,rfl,rfl,_,⟨m,j,n-(C5 m j).length,_,rfl,wf,by omega,aa hk,rfl⟩,?_⟩;refine hok _ (j+1) ?_;rw [Q0h,aQ h1,aa hk]
def Q2f (m:A8)(w:List Nat):Nat:=(C5 m w.length).length+idS m 0 w
def W8s {m:A8}(wf:C7 m){w:List Nat}(h:L8 m w):(C5 m (w.length+1))[Q2f m w]?=some w:=by
 have h1:=Y1o wf w 0 wf.pos h.1 h.2;rw [Q0h,aQ (by unfold Q2f;omega),show Q2f m w-(C5 m w.length).length=idS m 0 w by unfold Q2f;omega];exact h1
theorem V3e (m:A8):∀j,(C5 m j).Nodup
 | 0=>by unfold C5;simp
 | j+1=>by
  rw [<- Z0r m j];exact(List.Pairwise.filter _ (V3r j)).imp fun h e=>by subst e;exact aV _ h
def Y6t {m:A8}{i j a b:Nat}{w:List Nat}(h1:(C5 m i)[a]?=some w)(h2:(C5 m j)[b]?=some w):a=b:=by
 have up:∀{i k:Nat}{a:Nat},i<=k->(C5 m i)[a]?=some w->(C5 m k)[a]?=some w:=fun {i k a} h e=>by
  obtain⟨t,ht⟩:=Q5z m h;rw [<- ht,aJ (av.mp e).1];exact e
 have h1:=up (Nat.le_max_left i j) h1;have h2:=up (Nat.le_max_right i j) h2;obtain⟨l1,e1⟩:=av.mp h1;obtain⟨l2,e2⟩:=av.mp h2;exact(List.getElem_inj (V3e m _)).mp (e1.trans e2.symm)
def Y3t {m:A8}(wf:C7 m){j n:Nat}{w:List Nat}(h:(C5 m j)[n]?=some w):Q2f m w=n :=
 Y6t (W8s wf (Q0y.mp (aB h)).1) h
theorem Z8x (rows:List (List Nat)):∀(w:List Nat) (i p:Nat),p<=w.length->(i::Q0a rows i w)[p]?=some (run (B3 rows) i (w.take p))
 | w,i,0,_=>rfl
 | [],i,p+1,h=>absurd h (by simp)
 | c::w,i,p+1,h=>by
  rw [List.getElem?_cons_succ,Q0a,Z8x rows w _ p (by rw [aD]at h;omega)];rfl
def V2p {w:List Nat}(hw:C3 w)(hl:w.length<=100000){p c:Nat}(h:w[p]?=some c){Q:R->Prop}(q:Q (.st (.str (K7 c)))):B1 (.st (.str (J7 w))) (.st (.int (p:Int))) Q:=by
 have e:=Q4e hw;have e2:(F5 (J7 w))[p]?=some (.str (K7 c)):=by rw [e,af,h];rfl
 unfold F5 at e2;rw [af]at e2;obtain⟨c',e3,e4⟩:=Option.map_eq_some_iff.mp e2;refine⟨sz (by rw [Z0q hw];omega),c',V9 e3,?_⟩;rw [D.str.inj e4];exact q
theorem W4f {m:A8}{s c:Nat}(hc:c<4):(B2.map (B3 m.2 s)).take c=(List.range c).map (B3 m.2 s):=by
 match c,hc with
 | 0,_=>rfl
 | 1,_=>rfl
 | 2,_=>rfl
 | 3,_=>rfl
def Q0f:D9:=fun rs r=>∃(m:A8) (w:List Nat),rs=[.st (mD m),.st (tD w)]/\C7 m/\m.1.length<=20000/\C3 w/\w.length<=1000/\r=.st (if J6 m w=true then iD (Q2f m w)else .non)
def wbRk:WS:=(A7 (C2 8 (wSl (A2 B1 (wV 3) (A2 B1 (wV 4) (wV 7))) Q9p (Q9q (Q3j (wC (.str "01ab")) (A2 B1 (wV 1) (wV 7)))))) (A7 (V6 5 (G7 NoC fun i j=>i+j) (A2 G5 (A2 B1 (wV 6) (wC (.int 0))) (E4 Q1k (A4 (P8 1 [6] (Q0v (wV 8)) (B5 0) W8 (B7 (A2 B1 (wV 1) (wV 0)))) A6)))) (C2 6 (J8 X9 (A4 (wV 0) (A4 (wV 6) A6))))))
def W9x (p:Nat):Z3 (p+1)=iD p::Z3 p:=by
 unfold Z3;rw [bq,am,aF];congr 1
 ·show D.int _=D.int _;congr 1;omega
 ·exact aM fun i _=>by show D.int _=D.int _;congr 1;simp;omega
theorem Y1e {m:A8}(wf:C7 m)(hl:m.1.length<=20000){w:List Nat}(hw:C3 w)(j4:w.length<=1000){E:F6}{o2:Option Sl}(h:∀o6 o7 o8,E.nx [some (.dat (mD m)),some (.dat (tD w)),o2,some (.dat (rsD m.2)),some (.own ((0::Q0a m.2 0 w).map iD)),some (.dat (iD (Q2f m w))),o6,o7,o8]):∀(p:Nat) (o7 o8:Option Sl),p<=w.length ->
  D1 (B5 7) wbRk E (Z3 p) [some (.dat (mD m)),some (.dat (tD w)),o2,some (.dat (rsD m.2)),some (.own ((0::Q0a m.2 0 w).map iD)),some (.dat (iD ((C5 m (w.length-p)).length+idS m (D6 m (w.take p)) (w.drop p)))),some (.own ((M0 m (w.length-p)).map iD)),o7,o8]
 | 0,o7,o8,_=>by
  rw [Nat.sub_zero,List.take_zero,List.drop_zero];exact h _ _ _
 | p+1,o7,o8,hp=>by
  have hpl:p<w.length:=by omega
  have hc:=hw w[p] (bQ hpl);have hs:D6 m (w.take p)<m.1.length:=Q1j wf _ fun d hd=>hw d (List.mem_of_mem_take hd);have ed:w.drop p=w[p]::w.drop (p+1):=cK hpl;have et:D6 m (w.take (p+1))=B3 m.2 (D6 m (w.take p)) w[p]:=by
   rw [List.take_add_one,aa hpl];exact Q2i m _ _
  have eg:(w.drop (p+1)).length=w.length-(p+1):=gn;rw [W9x,D1,M6];unfold wbRk;rw [C8,F8,s_sl];simp only [D3,B0,s_oN,s_oS,Z5e,D8];refine⟨_,rfl,_,rfl,_,rfl,?_⟩;show B1 (.bw ((0::Q0a m.2 0 w).map iD)) (.st (.int (p:Int))) _;rw [Q1d];refine⟨iD (D6 m (w.take p)),V9 (by rw [af,Z8x m.2 w 0 p (by omega)];rfl),?_⟩;refine O6 (i:=D6 m (w.take p)) (d:=rD (B2.map (B3 m.2 (D6 m (w.take p))))) (by rw [af,Wf.rowEq wf hs];rfl) ?_;refine⟨_,rfl,_,rfl,_,rfl,V2p hw (by omega) (aa hpl) ?_⟩;refine⟨_,w[p],rfl,Q6z hc,?_⟩;rw [Q5j];show slD (.st (.tup ((B2.map (B3 m.2 (D6 m (w.take p)))).map iD))) none (some ((w[p]:Nat):Int)) _;rw [W5q,W0a,<- List.map_take,W4f (Q3t hc),L6];rw [C8,Q5p];refine⟨_,rfl,?_⟩;simp only [D3,B0,D8,N5,D2,C6,X8,Q4d];refine⟨_,rfl,?_⟩;show B1 (.bw ((M0 m (w.length-(p+1))).map iD)) (.st (.int ((0:Nat):Int))) _;refine Q6s wf (.inl rfl) wf.pos ?_;refine⟨_,rfl,_,rfl,sz (by have:=Q3t hc;simp;omega),?_⟩;refine Q0b (f:=fun d=>match d with | .int i=>iD (E3 m (w.length-(p+1)) i.toNat) | d=>d) (rest:=[some (.bor ((M0 m (w.length-(p+1))).map iD))]) _ none _ (fun d hd Q' q=>?_) ?_
  ·obtain⟨g,hg,rfl⟩:=ah.mp hd;obtain⟨c,fM,rfl⟩:=ah.mp hg;have ji:B3 m.2 (D6 m (w.take p)) c<m.1.length:=Z4 wf hs (Q5f (by have:=aK.mp fM;have:=Q3t hc;omega));simp only [E8,D3,B0];refine⟨_,rfl,_,rfl,?_⟩;exact Q6s wf (.inl rfl) ji (by simpa using q)
  ·show Q1k [.nw _] _;rw [Y4m];refine⟨(List.range w[p]).map fun d=>((E3 m (w.length-(p+1)) (B3 m.2 (D6 m (w.take p)) d):Nat):Int),?_,?_⟩
   ·show some _=some _;congr 1;rw [aF,aF,aF];exact aM fun g _=>by simp
   ·rw [Z5z (f:=fun d=>E3 m (w.length-(p+1)) (B3 m.2 (D6 m (w.take p)) d))];show G5 (.st (.int _)) (.st (.int _)) _;rw [Q1c];show G7 _ _ (.st (.int _)) (.st (.int _)) _;rw [Q7f];refine⟨trivial,?_⟩;rw [L6];rw [F8];simp only [R1,D2,B0,C6];refine⟨_,rfl,_,rfl,rfl,_,⟨m,_,w.length-(p+1),rfl,.inl rfl,wf,hl,rfl⟩,?_⟩;rw [O8];have ih:=Y1e wf hl hw j4 h p (some (.dat (iD p))) (some (.dat (.tup (((List.range w[p]).map (B3 m.2 (D6 m (w.take p)))).map iD)))) (by omega);have e1:(C5 m (w.length-p)).length+idS m (D6 m (w.take p)) (w.drop p)=(C5 m (w.length-(p+1))).length+idS m (D6 m (w.take (p+1))) (w.drop (p+1))+(E3 m (w.length-(p+1)) 0+((List.range w[p]).map fun d=>E3 m (w.length-(p+1)) (B3 m.2 (D6 m (w.take p)) d)).sum):=by
     rw [ed,idS,eg,<- et,show w.length-p=w.length-(p+1)+1 by omega,Q0h,ai,Q2s wf];omega
    rw [e1,show w.length-p=w.length-(p+1)+1 by omega]at ih;have e2:D.int (((((C5 m (w.length-(p+1))).length+idS m (D6 m (w.take (p+1))) (w.drop (p+1)):Nat)):Int)+(((E3 m (w.length-(p+1)) 0:Nat):Int)+((((List.range w[p]).map fun d=>E3 m (w.length-(p+1)) (B3 m.2 (D6 m (w.take p)) d)).sum:Nat):Int)))=iD ((C5 m (w.length-(p+1))).length+idS m (D6 m (w.take (p+1))) (w.drop (p+1))+(E3 m (w.length-(p+1)) 0+((List.range w[p]).map fun d=>E3 m (w.length-(p+1)) (B3 m.2 (D6 m (w.take p)) d)).sum)):=by
     show D.int _=D.int _;congr 1
    rw [<- e2]at ih;exact ih
theorem W9k:∀rs r,rs.length=2->Q0f rs r->Z7l Z0f Q1i X9 (P3 r) (E9 Z1l rs):=by
 rintro rs r _ ⟨m,w,rfl,wf,hl,hw,j4,rfl⟩;unfold Z7l;rw [C8,Z5a];simp only [B0,Q3d,Q3b,M6,Q3c];refine⟨_,rfl,_,rfl,_,rfl,rfl,_,_,rfl,_,_,rfl,rfl,?_⟩;rw [C8,F8,V0f];simp only [D2,B0,C6];refine⟨_,rfl,_,rfl,rfl,_,⟨m,0,w,rfl,wf,wf.pos,hw,by omega,rfl⟩,?_⟩;rw [O8];rw [C8,W6,Y4l,Q1h];simp only [D3,B0,Q5r,D8];refine⟨_,rfl,_,rfl,?_⟩;obtain⟨l,e⟩:=Z8y m.2 w 0;rw [Q5j];show B1 (.bw ((0::Q0a m.2 0 w).map iD)) (.st (.int (-1))) _;rw [Q1d];refine⟨iD (run (B3 m.2) 0 w),by rw [e,aU];exact Z9c,?_⟩;refine O6 (i:=run (B3 m.2) 0 w) (Q6n (Z4y wf w 0 hw wf.pos)) ?_;rw [Q5k];cases ha:J6 m w with
 | false =>
  have mT:m.1.getD (run (B3 m.2) 0 w) false=false:=ha;rw [mT,show(!false)=true from rfl,aG rfl,Q6,D8]
  rfl
 | true =>
  have mT:m.1.getD (run (B3 m.2) 0 w) false=true:=ha;rw [mT,show(!true)=false from rfl,az (by decide),V4];dsimp only;rw [C8,F8,D8,L6];dsimp only;rw [C8,F8];simp only [R1,D2,B0,C6];refine⟨_,rfl,rfl,_,⟨m,rfl,hl,rfl⟩,?_⟩;rw [O8];rw [C8,S1,V0k];simp only [D2,N5,B0,C6];refine⟨_,rfl,?_⟩;show F4 [.st (.str (J7 w))] _;rw [Z4i,Z0q hw];refine⟨sz (by omega),_,rfl,by omega,by omega,?_⟩;rw [b7];have:=Y1e (E:={ P3 (R.st (iD (Q2f m w)))with nx:=Q6d 5 (P3 (R.st (iD (Q2f m w)))) }) (o2:=some (.dat (.tup (m.1.map .bl)))) wf hl hw j4 (fun o6 o7 o8=>⟨_,rfl,rfl⟩) w.length none none (aq _);rw [Nat.sub_self,List.take_length,gq]at this;exact this
end MC
end
section
namespace K14
open PySem PySem.Spec PyProof.Rows L2 TK MC
def Y8 (m:A8)(l:Nat):Bool:=(wl l).any (J6 m)
def Q9g (m:A8):List Nat:=(List.range (2*m.1.length)).filter (Y8 m)
structure StS (m:A8)(l:Nat)(S:List Nat):Prop where
 ord:S.Pairwise (·<·)
 mem:∀x,x∈S ↔ ∃w∈wl l,D6 m w=x
def StS.lt {m:A8}(wf:C7 m){l:Nat}{S:List Nat}(h:StS m l S){x:Nat}(hx:x∈S):x<m.1.length:=by
 obtain⟨w,hw,rfl⟩:=(h.mem x).mp hx;exact Q1j wf w (V2.mp hw).1
def StS.len {m:A8}(wf:C7 m)(h4:m.1.length<=4){l:Nat}{S:List Nat}(h:StS m l S):S.length<=4:=by
 have nd:S.Nodup:=h.ord.imp fun h=>ay h;have:=nd.length_le_of_subset (l₂:=List.range m.1.length) fun x hx=>aK.mpr (h.lt wf hx);rw [aZ]at this;omega
def Q4v (m:A8)(S:List Nat):List Nat:=S.flatMap fun s=>B2.map (B3 m.2 s)
def StS.next {m:A8}{l:Nat}{S T:List Nat}(h:StS m l S)(ho:T.Pairwise (·<·))(hT:∀x,x∈T ↔ x∈Q4v m S):StS m (l+1) T:=by
 refine⟨ho,fun x=>?_⟩;rw [hT,Q4v,bP];constructor
 ·rintro ⟨s,hs,hx⟩;obtain⟨c,hc,rfl⟩:=ah.mp hx;obtain⟨w,hw,rfl⟩:=(h.mem s).mp hs;exact⟨w++[c],bP.mpr ⟨w,hw,ah.mpr ⟨c,hc,rfl⟩⟩,Q2i m w c⟩
 ·rintro ⟨w,hw,rfl⟩;obtain⟨u,hu,hw⟩:=bP.mp hw;obtain⟨c,hc,rfl⟩:=ah.mp hw;exact⟨D6 m u,(h.mem _).mpr ⟨u,hu,rfl⟩,ah.mpr ⟨c,hc,(Q2i m u c).symm⟩⟩
def StS.has {m:A8}{l:Nat}{S:List Nat}(h:StS m l S):(S.filter fun s=>m.1.getD s false)=[] ↔ Y8 m l=false:=by
 rw [List.filter_eq_nil_iff];unfold Y8;rw [List.any_eq_false];constructor
 ·intro q w hw ha;exact q (D6 m w) ((h.mem _).mpr ⟨w,hw,rfl⟩) ha
 ·intro q s hs ha;obtain⟨w,hw,rfl⟩:=(h.mem s).mp hs;exact q w hw ha
def wbG:WS:=(C2 4 (A2 Z9 (wV 4) (E4 Q5d (A4 (A2 B1 (A2 B1 (wV 0) (wC (.int 1))) (wV 5)) A6))))
theorem forG {m:A8}(wf:C7 m){E:F6}{o1 o2 o3:Option Sl}:∀(S bT:List Nat) (o5:Option Sl),(∀s∈S,s<m.1.length)->bT.length+4*S.length<=1000->(∀o5,E.nx [some (.dat (mD m)),o1,o2,o3,some (.own ((bT++Q4v m S).map iD)),o5]) ->
  D1 (B5 5) wbG E (S.map iD) [some (.dat (mD m)),o1,o2,o3,some (.own (bT.map iD)),o5]
 | [],bT,o5,_,_,h=>by have:=h o5;rw [Q4v,List.flatMap_nil,aW]at this;exact this
 | s::S,bT,o5,hs,ha,h=>by
  have qh:=hs s ag;rw [aD]at ha;rw [am,D1];simp only [wbG,M6,F8,D3,B0,N5,D2,D8,C6];refine⟨_,rfl,_,rfl,O6 (i:=1) rfl ⟨_,rfl,?_⟩⟩;refine O6 (i:=s) (d:=rD (B2.map (B3 m.2 s))) (by rw [af,Wf.rowEq wf qh];rfl) ?_;refine⟨_,rfl,?_⟩;show Z9 (.bw (bT.map iD)) (.nw ((B2.map (B3 m.2 s)).map iD)) _;rw [Z4e];refine⟨_,_,rfl,rfl,sz (by simp only [ai,ac,B2,aD,bj];omega),?_⟩;rw [O8];have e:bT.map iD++(B2.map (B3 m.2 s)).map iD=(bT++B2.map (B3 m.2 s)).map iD:=by rw [aU]
  show D1 _ _ _ _ [_,_,_,_,some (.own (bT.map iD++(B2.map (B3 m.2 s)).map iD)),_];rw [e];refine forG wf S _ _ (fun x hx=>hs x (ae _ hx)) (by rw [ai];simp only [ac,aD,bj];omega) fun o5=>?_;have:=h o5;rw [Q4v,bB,<- bI]at this;exact this
def W1p {m:A8}{l:Nat}:Y8 m l=true ↔ ∃w,L8 m w/\w.length=l:=by
 unfold Y8;rw [List.any_eq_true];exact⟨fun⟨w,h,a⟩=>⟨w,⟨(V2.mp h).1,a⟩,(V2.mp h).2⟩,fun⟨w,a,e⟩=>⟨w,V2.mpr ⟨a.1,e⟩,a.2⟩⟩
def Y2p {m:A8}{l:Nat}:l∈Q9g m ↔ l<2*m.1.length/\∃w,L8 m w/\w.length=l:=by
 unfold Q9g;rw [b8,aK,W1p]
def Q1y (m:A8):List Nat:=(Q9g m).filter fun l=>decide (m.1.length<=l)
def W1n {m:A8}(h:∀w,L8 m w->w.length<m.1.length):Q1y m=[]:=by
 unfold Q1y;rw [List.filter_eq_nil_iff];intro l hl hd;obtain⟨_,w,hw,rfl⟩:=Y2p.mp hl;have:=h w hw;have:=dh hd;omega
def W1m {m:A8}(wf:C7 m)(h:Inf m):Q1y m≠[]:=by
 obtain⟨w,hw,h1,h2⟩:=Y7j wf h m.1.length;have:w.length∈Q1y m:=b8.mpr ⟨Y2p.mpr ⟨by omega,w,hw,rfl⟩,bo h1⟩;intro e;rw [e]at this;cases this
def V3f {m:A8}{j:Nat}{w:List Nat}(h:w∈C5 m j):C3 w:=(Q0y.mp h).1.1
def Z6e (m:A8):(C5 m 4).length<=85:=by
 rw [<- Z0r m 3];exact aS (List.length_filter_le _ _) (by decide +kernel)
def same {r1 r2:R}{d:D}{n:Nat}{neg:Bool}{Q:Bool->Prop}(h1:r1.d=some d)(h2:r2.d=some d)(hd:d.depth<=n)(q:Q (!neg)):P6 n neg r1 r2 Q:=by
 refine⟨d,d,h1,h2,hd,?_⟩;rw [D.eq_refl];cases neg <;> exact q
theorem flat {α:Type}{f:α->D}(h:∀x,(f x).depth=0):∀l:List α,D.depths (l.map f)=0
 | []=>rfl
 | a::l=>by rw [am,D.depths,h,flat h l];rfl
def W1d {α:Type}{f:α->D}(h:∀x,(f x).depth=0)(l:List α){n:Nat}(hn:1<=n):D.depth (.lst (l.map f))<=n:=by
 show D.depths (l.map f)+1<=n;rw [flat h];exact hn
def W2q {α:Type}{f:α->D}(h:∀x,(f x).depth=0)(l:List α){n:Nat}(hn:1<=n){neg:Bool}{Q:Bool->Prop}(q:Q (if neg=true then !l.isEmpty else l.isEmpty)):P6 n neg (.bw (l.map f)) (.nw []) Q:=by
 refine⟨_,_,rfl,rfl,W1d h l hn,?_⟩;cases l <;> exact q
theorem iD0 (i:Nat):(iD i).depth=0:=rfl
def Y1v (m:A8):D->Bool
 | .str x=>decide (x∈(C5 m 4).map J7)
 | _=>false
theorem Y8m (m:A8):(((Q3n 3).map tD).filter (Y1v m)).map (fun d=>d)=(C5 m 4).map tD:=by
 rw [List.map_id',List.filter_map,<- Z0r m 3];congr 1;refine List.filter_congr fun w hm=>?_;have hw:=Q9m.mp hm;show decide (J7 w∈(C5 m 4).map J7)=_;rw [<- Z0r m 3];cases ha:J6 m w with
 | true=>exact bo (ah.mpr ⟨w,b8.mpr ⟨hm,ha⟩,rfl⟩)
 | false =>
  refine bb fun z=>?_;obtain⟨u,hu,e⟩:=ah.mp z;obtain⟨hu1,i3⟩:=b8.mp hu;rw [Y6h (Q9m.mp hu1).1 hw.1 e,ha]at i3;cases i3
end K14
end
section
namespace K16
open PySem PySem.Spec PyProof.Rows L2 TK MC
abbrev Z8k:List Str:=["_law_e","_law_flags"]
def Z7e (a:Addr):WS:=(A7 (C2 1 (B7 (M3 (A4 (B7 (Q7v 0 a true)) (A4 (B7 (Q7v 0 a false)) (A4 (B7 (Q7v 0 a false)) A6)))))) (A7 (N6 (wOr (A2 R0 (Z6i (wV 1) (wC (.bl true))) (wC (.int 1))) (Z0w (Y2 (Q7v 0 a true)))) (J3 (Q3m (A4 (B7 (wC (.str "refused"))) (A4 (B7 (Y1 (wC (.int 1)))) A6)))) M7) (J3 (Q3m (A4 (B7 (wC (.str "refused"))) (A4 (B7 (Z6j (wV 1) (wC (.bl true)))) A6))))))
abbrev Z1j:List Str:=["_law_told_here","_law_number","_law_e"]
def Z7t (Q4h:Q2o)(XE:Addr->Prop):WS:=(J3 (Y7e XE Q4h (A4 (wV 0) (A4 (wV 1) A6))))
def Y7h (a:Addr):WS:=(J3 (Y7c 2 a (.tup [.str "refused",.int 0])))
def Y7p:WS:=M7
abbrev Z1h:List Str:=["_law_told_here","_law_states","_law_found","_law_long","_law_behind","_law_state_here"]
def Z7c   :WS:=(A7 (C2 1 (B7 (M3 (A4 (B7 (wC (.int 0))) A6)))) (A7 (C2 2 (M3 A6)) (A7 (K4 (Q1z (A4 (A2 S8 (wC (.int 2)) (E4 F4 (A4 (A2 B1 (wV 0) (wC (.int 0))) A6))) A6)) (B5 3) (A7 (N6 (A2 (L9 fun i j=>decide (j<=i)) (wV 3) (E4 F4 (A4 (A2 B1 (wV 0) (wC (.int 0))) A6))) (C2 2 (A2 Z9 (wV 2) (P8 1 [0] (Q2w (wV 1)) (B5 0) (Y2 (A2 B1 (A2 B1 (wV 1) (wC (.int 0))) (wV 0))) (B7 (wV 0))))) M7) (A7 (C2 4 (M3 A6)) (A7 (K4 (W1 (B7 (wV 1))) (B5 5) (C2 4 (A2 Z9 (wV 4) (E4 Q5d (A4 (A2 B1 (A2 B1 (wV 0) (wC (.int 1))) (wV 5)) A6))))) (C2 1 (B7 (Q6e (wV 4)))))))) (J3 (wB (A2 (P6 59 true) (wV 2) (M3 A6)))))))
abbrev Q8c:List Str:=["_law_script","_law_told_here","_law_accepted","_law_number","_law_text_here","_law_more"]
def Z6z   (dJ:D9)(dj:D9)(cO:D9)(dw:Q1)(Q0f:D9)(bY:D9)(dm:D9):WS:=(A7 (C2 1 (J8 dJ (A4 (wV 0) (A4 (wC (.int 0)) (A4 (wC (.int 4)) A6))))) (A7 (Q6c 2 (C2 2 (P8 1 [1] (Q2w (J8 dj (A4 (wC (.int 3)) A6))) (B5 0) (Y2 (J8 cO (A4 (wV 1) (A4 (wV 0) A6)))) (B7 (wV 0))))) (A7 (K4 (Q6w (A4 (wV 2) A6)) (gTp 2 (J5 (B5 3) (J5 (B5 4) gNl))) (N6 (wOr (A2 R0 (Z6 dw (A4 (wV 1) (A4 (wV 3) A6))) (wV 4)) (A2 R0 (J8 Q0f (A4 (wV 1) (A4 (wV 4) A6))) (wV 3))) (J3 (wC (.bl false))) M7)) (A7 (K4 (W1 (B7 (J8 dj (A4 (wC (.int 3)) A6)))) (B5 4) (N6 (Q4k (A2 (inL 59 true) (wV 4) (wV 2)) (A2 (Q0u true) (J8 Q0f (A4 (wV 1) (A4 (wV 4) A6))) (wC .non))) (J3 (wC (.bl false))) M7)) (A7 (C2 3 (A2 G5 (E4 F4 (A4 (wV 2) A6)) (J8 bY (A4 (wV 0) (A4 (wC (.int 60)) (A4 (wC (.int 5)) A6)))))) (A7 (C2 5 (Z6 dw (A4 (wV 1) (A4 (wV 3) A6)))) (A7 (N6 (Y2 (J8 dm (A4 (wV 1) A6))) (J3 (Q3h (Z0u "str" (wV 5)) (Q3h (wB (A2 (L9 fun i j=>decide (j<i)) (E4 F4 (A4 (wV 5) A6)) (wC (.int 3)))) (Q3h (J8 cO (A4 (wV 1) (A4 (wV 5) A6))) (wB (A2 (P6 60 false) (J8 Q0f (A4 (wV 1) (A4 (wV 5) A6))) (wV 3))))))) M7) (J3 (wB (A2 (P6 60 false) (wV 5) (Q3m (A4 (B7 (wC (.str "refused"))) (A4 (B7 (wC (.int 0))) A6)))))))))))))
abbrev refD:D:=.tup [.str "refused",.int 0]
def W9l:∀a,Z7e a (P3 (.st (.tup [.str "refused",.int 0]))) (E9 Z8k [.ob a]):=by
 intro a;unfold Z7e;rw [C8,F8,E8,s_lst];simp only [D2,E8,C6];refine⟨rfl,rfl,rfl,?_⟩;refine⟨[.bl true,.bl false,.bl false],rfl,sz (by decide),?_⟩;rw [Q5i,L6,C8,W6,s_or];simp only [D3,V0d,B0,D8];refine⟨_,rfl,[true,false,false],rfl,true,rfl,?_⟩;refine⟨_,_,rfl,rfl,rfl,?_⟩;show(if (!D.eq (.int ((1:Nat):Int)) (.int 1))=true then(_:Prop)else(_:Prop));rw [show(!D.eq (.int ((1:Nat):Int)) (.int 1))=false by rw [show(((1:Nat):Int))=1 from rfl,D.eq_refl];rfl,az (by decide),Y4l,Q1h];refine⟨rfl,?_⟩;dsimp only;rw [Q5k,show(!true)=false from rfl,az (by decide),V4];dsimp only;rw [Q6,s_tup];simp only [D2,E8,D8,V0e,B0,C6];refine⟨_,rfl,[true,false,false],rfl,true,rfl,sz (by decide),by decide,?_⟩;exact⟨_,rfl,sz (by decide),rfl⟩
def Q4i:Q1:=fun rs Pr=>∃(m:A8) (n:Nat),rs=[.st (mD m),.st (iD n)]/\C7 m/\m.1.length<=8/\n<=100/\(∀w j,(C5 m j)[n]?=some w->Pr (.st (tD w)))/\((∀j,(C5 m j).length<=n)->Pr (.st refD))
def Y2v:Q2p Q4i:=by rintro rs P Q f ⟨m,n,e,h1,h2,h3,h4,h5⟩;exact⟨m,n,e,h1,h2,h3,fun w j h=>f _ (h4 w j h),fun h=>f _ (h5 h)⟩
def W9q (C:Addr):∀rs Pr,rs.length=2->Q4i rs Pr->wTry Z1j 2 (fun c=>c=C) (Z7t (Q4h C)) (fun _ a=>Y7h a) Y7p (T5 Pr) (E9 Z1j rs):=by
 rintro rs Pr _ ⟨m,n,rfl,wf,hl,hn,h1,h2⟩;refine⟨fun c=>c=C/\∀j,(C5 m j).length<=n,fun c h=>h.1,?_,fun c a hc=>?_⟩
 ·unfold Z7t;rw [Q6];refine⟨_,rfl,_,rfl,rfl,m,n,rfl,wf,hl,hn,fun w j e=>?_,fun h=>⟨rfl,h⟩⟩;exact h1 w j e
 ·show J3 _ _ _;rw [Q6];exact⟨rfl,h2 hc.2⟩
def Q7k:D9:=fun rs r=>∃m:A8,rs=[.st (mD m)]/\C7 m/\m.1.length<=4/\r=.st (.bl (!(K14.Q1y m).isEmpty))
def Q3v (m:A8)(a n:Nat):Bool:=((List.range n).map (a+·)).any fun l=>decide (m.1.length<=l)&&K14.Y8 m l
def W1o (m:A8)(a n:Nat):Q3v m a (n+1)=((decide (m.1.length<=a)&&K14.Y8 m a)||Q3v m (a+1) n):=by
 unfold Q3v;rw [bq,am,cx,aF,Nat.add_zero];congr 2;exact aM fun i _=>by show a+(i+1)=_;omega
def Z7r:WS:=(A7 (N6 (A2 (L9 fun i j=>decide (j<=i)) (wV 3) (E4 F4 (A4 (A2 B1 (wV 0) (wC (.int 0))) A6))) (C2 2 (A2 Z9 (wV 2) (P8 1 [0] (Q2w (wV 1)) (B5 0) (Y2 (A2 B1 (A2 B1 (wV 1) (wC (.int 0))) (wV 0))) (B7 (wV 0))))) M7) (A7 (C2 4 (M3 A6)) (A7 (K4 (W1 (B7 (wV 1))) (B5 5) K14.wbG) (C2 1 (B7 (Q6e (wV 4)))))))
def Y8y {m:A8}(wf:C7 m)(h4:m.1.length<=4){E:F6}{l:Nat}{S F:List Nat}(hS:K14.StS m l S)(hf:F.length<=100){o4 o5:Option Sl}
  (h:∀(T F2:List Nat) (o4 o5:Option Sl),K14.StS m (l+1) T->F2.length<=F.length+4->(F2.isEmpty=(F.isEmpty&&!(decide (m.1.length<=l)&&K14.Y8 m l)))->E.nx [some (.dat (mD m)),some (.dat (.lst (T.map iD))),some (.own (F2.map iD)),some (.dat (iD l)),o4,o5]) :
  Z7r E [some (.dat (mD m)),some (.dat (.lst (S.map iD))),some (.own (F.map iD)),some (.dat (iD l)),o4,o5]:=by
 have r9:=hS.len wf h4;have tail:∀F2:List Nat,F2.length<=F.length+4->(F2.isEmpty=(F.isEmpty&&!(decide (m.1.length<=l)&&K14.Y8 m l)))->(A7 (C2 4 (M3 A6)) (A7 (K4 (W1 (B7 (wV 1))) (B5 5) K14.wbG) (C2 1 (B7 (Q6e (wV 4)))))) E [some (.dat (mD m)),some (.dat (.lst (S.map iD))),some (.own (F2.map iD)),some (.dat (iD l)),o4,o5]:=by
  intro F2 q1 q2;rw [C8,F8,s_lst,C6];refine⟨_,rfl,sz (by decide),?_⟩;rw [O8];dsimp only;rw [C8,S1,Q5q,E8,B0];refine⟨_,rfl,_,rfl,?_⟩;refine K14.forG wf S [] _ (fun s hs=>hS.lt wf hs) (by simp only [bj];omega) fun o5=>?_;rw [bX];dsimp only;rw [F8,E8,V0z,B0];refine⟨_,rfl,K14.Q4v m S,by rw [V3];show some _=some _;rfl,fun x hx=>?_,fun T r8 gR=>?_⟩
  ·obtain⟨s,hs,hx⟩:=bP.mp hx;obtain⟨c,hc,rfl⟩:=ah.mp hx;have:=Z4 wf (hS.lt wf hs) hc;omega
  ·rw [Q5i,L6];exact h T F2 _ _ (hS.next r8 gR) q1 q2
 unfold Z7r;rw [C8,W6];simp only [D3,B0,N5,D2,D8,C6];refine⟨_,rfl,_,rfl,O6 (i:=0) rfl ?_⟩;rw [Z4h,ac];show L9 _ (.st (.int (l:Int))) (.st (.int _)) _;rw [Q2d]
 by_cases hz:m.1.length<=l
 ·rw [aG (bo (by omega)),F8];simp only [D3,B0,X8,Z0b];refine⟨_,rfl,_,rfl,_,rfl,sz (by rw [ac];omega),?_⟩;refine Q6r (p:=fun d=>match d with | .int i=>m.1.getD i.toNat false | _=>false) (f:=fun d=>d) _ none _ (fun d hd Q' q=>?_) (fun d hd Q' _ q=>?_) ?_
  ·obtain⟨x,hx,rfl⟩:=ah.mp hd;rw [Q1h,D3,D3,B0];refine⟨_,rfl,?_⟩;rw [D8,Q5];refine O6 (i:=0) rfl ?_;rw [B0];refine⟨_,rfl,O6 (i:=x) (Q6n (hS.lt wf hx)) ?_⟩;have q:Q' (m.1.getD x false):=by simpa using q
   exact q
  ·rw [E8,B0];exact⟨_,rfl,q⟩
  have e:((S.map iD).filter (fun d=>match d with | .int i=>m.1.getD i.toNat false | _=>false)).map (fun d=>d)=(S.filter fun s=>m.1.getD s false).map iD:=by
   rw [List.map_id',List.filter_map];rfl
  rw [e];have fZ:(S.filter fun s=>m.1.getD s false).length<=4:=aS (List.length_filter_le _ _) r9;show Z9 (.bw (F.map iD)) (.nw ((S.filter fun s=>m.1.getD s false).map iD)) _;rw [Z4e];refine⟨_,_,rfl,rfl,sz (by rw [ac,ac];omega),?_⟩;rw [O8];have e2:F.map iD++(S.filter fun s=>m.1.getD s false).map iD=(F++S.filter fun s=>m.1.getD s false).map iD:=by rw [aU]
  show(A7 (C2 4 (M3 A6)) (A7 (K4 (W1 (B7 (wV 1))) (B5 5) K14.wbG) (C2 1 (B7 (Q6e (wV 4)))))) E [some (.dat (mD m)),some (.dat (.lst (S.map iD))),some (.own (F.map iD++(S.filter fun s=>m.1.getD s false).map iD)),some (.dat (iD l)),o4,o5];rw [e2];refine tail _ (by rw [ai];omega) ?_;rw [bo hz,Bool.true_and];cases hh:K14.Y8 m l with
  | false =>
   rw [hS.has.mpr hh,aW];simp
  | true =>
   have cz:(S.filter fun s=>m.1.getD s false)≠[]:=fun z=>by have:=hS.has.mp z;rw [hh]at this;cases this
   rw [Bool.not_true,Bool.and_false];cases q:S.filter (fun s=>m.1.getD s false)with
   | nil=>exact absurd q cz
   | cons x xs=>cases F <;> rfl
 ·rw [az (by simp;omega),V4];refine tail F (by omega) ?_;rw [bb hz];simp
theorem forE {m:A8}(wf:C7 m)(h4:m.1.length<=4){E:F6}:∀(n l:Nat) (S F:List Nat) (o3 o4 o5:Option Sl),F.length+4*n<=100->K14.StS m l S->(∀(F2:List Nat) (o1 o3 o4 o5:Option Sl),F2.length<=100->(F2.isEmpty=(F.isEmpty&&!Q3v m l n))->E.nx [some (.dat (mD m)),o1,some (.own (F2.map iD)),o3,o4,o5]) ->
  D1 (B5 3) Z7r E ((List.range n).map fun i=>iD (l+i)) [some (.dat (mD m)),some (.dat (.lst (S.map iD))),some (.own (F.map iD)),o3,o4,o5]
 | 0,l,S,F,o3,o4,o5,hf,_,h=>h F _ _ _ _ (by omega) (by simp [Q3v])
 | n+1,l,S,F,o3,o4,o5,hf,hS,h=>by
  rw [bq,am,aF,D1,M6,Nat.add_zero];refine Y8y wf h4 hS (by omega) fun T F2 o4 o5 hT q1 q2=>?_;have e1:(List.range n).map ((fun i=>iD (l+i)) ∘ Nat.succ)=(List.range n).map fun i=>iD (l+1+i):=aM fun i _=>by show iD (l+(i+1))=_;rw [show l+(i+1)=l+1+i by omega]
  rw [e1];refine forE wf h4 n (l+1) T F2 _ _ _ (by omega) hT fun F3 o1 o3 o4 o5 q3 q4=>?_;refine h F3 _ _ _ _ q3 ?_;rw [q4,q2,W1o];cases F.isEmpty <;> cases (decide (m.1.length<=l)&&K14.Y8 m l) <;> simp
theorem W1l (m:A8):(!(K14.Q1y m).isEmpty)=Q3v m 0 (2*m.1.length):=by
 unfold K14.Q1y K14.Q9g Q3v;have e:(List.range (2*m.1.length)).map (0+·)=List.range (2*m.1.length):=by simp
 rw [e];generalize List.range (2*m.1.length)=l
 induction l with
 | nil=>rfl
 | cons a l ih =>
  rw [cH,cx,<- ih]
  by_cases h1:K14.Y8 m a=true
  ·rw [aG h1,cH,h1,Bool.and_true];cases decide (m.1.length<=a) <;> simp
  ·rw [az h1,Bool.eq_false_iff.mpr h1];simp
def W9b:∀rs r,rs.length=1->Q7k rs r->Z7c (P3 r) (E9 Z1h rs):=by
 rintro rs r _ ⟨m,rfl,wf,h4,rfl⟩;unfold Z7c;rw [C8,F8,E8,s_lst];simp only [D2,E8,D8,C6];refine⟨_,rfl,sz (by simp),?_⟩;rw [Q5i,L6];rw [C8,F8,s_lst,C6];refine⟨_,rfl,sz (by decide),?_⟩;rw [O8];dsimp only;rw [C8,S1];simp only [TK.Q1z,D2,D3,D8,N5,B0,C6];refine⟨_,rfl,O6 (i:=0) rfl ?_⟩;rw [Z4h,Z4j];have e:(2:Int)*(((m.1.map D.bl).length:Nat):Int)=((2*m.1.length:Nat):Int):=by rw [ac];omega
 rw [e];refine⟨.inl ⟨by decide,by omega⟩,_,rfl,by omega,by omega,?_⟩;rw [b7];have e2:O9 0 (2*m.1.length)=(List.range (2*m.1.length)).map fun i=>iD (0+i):=by
  unfold O9;exact aM fun i _=>by show D.int _=D.int _;congr 1
 rw [e2];refine forE wf h4 (2*m.1.length) 0 [0] [] none none none (by simp;omega) ⟨by simp,fun x=>?_⟩ fun F o1 o3 o4 o5 q1 q2=>?_
 ·rw [aE];constructor
  ·rintro rfl;exact⟨[],by simp [wl],rfl⟩
  ·rintro ⟨w,hw,rfl⟩;rw [wl,aE]at hw;subst hw;rfl
 ·dsimp only;rw [Q6,s_b];simp only [D3,B0,s_lst,C6];refine⟨_,rfl,_,rfl,sz (by decide),?_⟩;refine K14.W2q K14.iD0 _ (by decide) ?_;show R.st (.bl _)=R.st (.bl _);rw [W1l,aG rfl,q2];simp
def V3b {m:A8}(wf:C7 m):(∀w,L8 m w->w.length<m.1.length)\/Inf m:=by
 by_cases h:∀w,L8 m w->w.length<m.1.length
 ·exact .inl h
 ·refine .inr fun N=>?_;have ⟨w,hw⟩:=Classical.not_forall.mp h;have ⟨ha,hl⟩:=Classical.not_imp.mp hw;have key:∀N,∃w,L8 m w/\m.1.length<=w.length/\N<=w.length:=by
   intro N
   induction N with
   | zero=>exact⟨w,ha,by omega,bt _⟩
   | succ N ih =>
    obtain⟨u,hu,h1,h2⟩:=ih;obtain⟨v,v1,v2,v3⟩:=pump wf hu.1 hu.2 h1;exact⟨v,⟨v1,v2⟩,by omega,by omega⟩
  obtain⟨u,hu,_,h2⟩:=key N;exact⟨u,hu,h2⟩
def Y6r {m:A8}{i j a:Nat}{w v:List Nat}(h1:(C5 m i)[a]?=some w)(h2:(C5 m j)[a]?=some v):w=v:=by
 have up:∀{i k:Nat}{w:List Nat},i<=k->(C5 m i)[a]?=some w->(C5 m k)[a]?=some w:=fun {i k w} h e=>by
  obtain⟨t,ht⟩:=Q5z m h;rw [<- ht,aJ (av.mp e).1];exact e
 have h1:=up (Nat.le_max_left i j) h1;have h2:=up (Nat.le_max_right i j) h2;rw [h1]at h2;exact aA h2
def Q7l:Q1:=fun rs Pr=>∃ns:List Int,rs=[.st (scr ns)]/\ns.length<=63/\Pr (.st (.bl true))
def wbQ:WS:=(N6 (wOr (A2 R0 (Z6 Q4i (A4 (wV 1) (A4 (wV 3) A6))) (wV 4)) (A2 R0 (J8 Q0f (A4 (wV 1) (A4 (wV 4) A6))) (wV 3))) (J3 (wC (.bl false))) M7)
theorem forQ {m:A8}(wf:C7 m)(h4:m.1.length<=4){E:F6}{o0 o2 o5:Option Sl}:∀(ps:List (List Nat×Nat)) (o3 o4:Option Sl),(∀p∈ps,(C5 m 4)[p.2]?=some p.1)->(∀o3 o4,E.nx [o0,some (.dat (mD m)),o2,o3,o4,o5]) ->
  D1 (gTp 2 (J5 (B5 3) (J5 (B5 4) gNl))) wbQ E (ps.map fun p=>.tup [iD p.2,tD p.1]) [o0,some (.dat (mD m)),o2,o3,o4,o5]
 | [],o3,o4,_,h=>h o3 o4
 | p::ps,o3,o4,hp,h=>by
  have hw:=hp p ag;have hm:=Q0y.mp (aB hw);have hi:=(av.mp hw).1;have hu:=K14.Z6e m;rw [am,D1];unfold wbQ;simp only [Q3d,Q3b,M6,Q3c,W6,s_or];refine⟨_,rfl,rfl,_,_,rfl,_,_,rfl,rfl,?_⟩;rw [D3,Q4c];simp only [D2,B0,C6];refine⟨_,rfl,_,rfl,rfl,m,p.2,rfl,wf,by omega,by omega,fun w j e=>?_,fun z=>absurd (z 4) (by omega)⟩;have ew:=Y6r e hw;subst ew;refine⟨_,rfl,_,_,rfl,rfl,rfl,?_⟩;rw [D.eq_refl];show(if false=true then(_:Prop)else(_:Prop));rw [az (by decide),D3,R1];simp only [D2,B0,C6];refine⟨_,rfl,_,rfl,rfl,_,⟨m,p.1,rfl,wf,by omega,hm.1.1,by omega,rfl⟩,?_⟩;rw [aG hm.1.2,Y3t wf hw];refine⟨_,rfl,_,_,rfl,rfl,rfl,?_⟩;rw [D.eq_refl];show(if false=true then(_:Prop)else(_:Prop));rw [az (by decide),V4];exact forQ wf h4 ps _ _ (fun q hq=>hp q (ae _ hq)) h
def wbS:WS:=(N6 (Q4k (A2 (inL 59 true) (wV 4) (wV 2)) (A2 (Q0u true) (J8 Q0f (A4 (wV 1) (A4 (wV 4) A6))) (wC .non))) (J3 (wC (.bl false))) M7)
theorem forS {m:A8}(wf:C7 m)(h4:m.1.length<=4){E:F6}{o0 o3 o5:Option Sl}:∀(ws:List (List Nat)) (o4:Option Sl),(∀w∈ws,C3 w/\w.length<=3)->(∀o4,E.nx [o0,some (.dat (mD m)),some (.dat (.lst ((C5 m 4).map tD))),o3,o4,o5]) ->
  D1 (B5 4) wbS E (ws.map tD) [o0,some (.dat (mD m)),some (.dat (.lst ((C5 m 4).map tD))),o3,o4,o5]
 | [],o4,_,h=>h o4
 | w::ws,o4,hw,h=>by
  obtain⟨h1,h2⟩:=hw w ag;rw [am,D1];unfold wbS;rw [M6,W6,Y4e,D3,B0];refine⟨_,rfl,?_⟩;rw [B0];refine⟨_,rfl,?_⟩;refine⟨_,_,rfl,rfl,fun e he=>?_,?_⟩
  ·obtain⟨u,_,rfl⟩:=ah.mp he;exact bt _
  rw [aG rfl];have go:=forS wf h4 ws (some (.dat (tD w))) (fun q hq=>hw q (ae _ hq)) h;cases ha:J6 m w with
  | true =>
   have:((C5 m 4).map tD).any (fun e=>D.eq e (tD w))=true:=List.any_eq_true.mpr ⟨tD w,ah.mpr ⟨w,Q0y.mpr ⟨⟨h1,ha⟩,by omega⟩,rfl⟩,D.eq_refl _⟩;rw [this];show(if false=true then(_:Prop)else(_:Prop));rw [az (by decide)];show(if false=true then(_:Prop)else(_:Prop));rw [az (by decide),V4];exact go
  | false =>
   cases hb:((C5 m 4).map tD).any (fun e=>D.eq e (tD w))with
   | true =>
    show(if false=true then(_:Prop)else(_:Prop));rw [az (by decide)];show(if false=true then(_:Prop)else(_:Prop));rw [az (by decide),V4];exact go
   | false =>
    show(if true=true then(_:Prop)else(_:Prop));rw [aG rfl,D3,R1];simp only [D2,B0,C6];refine⟨_,rfl,_,rfl,rfl,_,⟨m,w,rfl,wf,by omega,h1,by omega,rfl⟩,?_⟩;rw [ha,az (by decide),D8];refine⟨_,rfl,rfl,?_⟩;show(if false=true then(_:Prop)else(_:Prop));rw [az (by decide),V4];exact go
def wFin:WS:=(A7 (C2 3 (A2 G5 (E4 F4 (A4 (wV 2) A6)) (J8 Q3e (A4 (wV 0) (A4 (wC (.int 60)) (A4 (wC (.int 5)) A6)))))) (A7 (C2 5 (Z6 Q4i (A4 (wV 1) (A4 (wV 3) A6)))) (A7 (N6 (Y2 (J8 Q7k (A4 (wV 1) A6))) (J3 (Q3h (Z0u "str" (wV 5)) (Q3h (wB (A2 (L9 fun i j=>decide (j<i)) (E4 F4 (A4 (wV 5) A6)) (wC (.int 3)))) (Q3h (J8 Q7i (A4 (wV 1) (A4 (wV 5) A6))) (wB (A2 (P6 60 false) (J8 Q0f (A4 (wV 1) (A4 (wV 5) A6))) (wV 3))))))) M7) (J3 (wB (A2 (P6 60 false) (wV 5) (Q3m (A4 (B7 (wC (.str "refused"))) (A4 (B7 (wC (.int 0))) A6)))))))))
def W3m {ns:List Int}(hn:ns.length<=63){m:A8}(wf:C7 m)(h4:m.1.length<=4){Pr:R->Prop}(h:Pr (.st (.bl true))){o3 o4 o5:Option Sl} :
  wFin (T5 Pr) [some (.dat (scr ns)),some (.dat (mD m)),some (.dat (.lst ((C5 m 4).map tD))),o3,o4,o5]:=by
 have hu:=K14.Z6e m;have hd:=Q8v ns 60 (m:=5) (by decide);unfold wFin;rw [C8,F8];simp only [D3,N5,R1,D2,B0,D8,C6];refine⟨_,rfl,?_⟩;rw [Q5,Y3c,ac];refine⟨_,rfl,rfl,_,⟨ns,60,5,rfl,hn,by decide,rfl⟩,?_⟩;rw [show W0 ns 60 5=(drN ns 60 5:Int)from Q8u ns 60 (m:=5) (by decide),Q1c,L6];have en:D.int ((((C5 m 4).length:Nat):Int)+((drN ns 60 5:Nat):Int))=iD ((C5 m 4).length+drN ns 60 5):=by show D.int _=D.int _;congr 1
 rw [en];generalize hN:(C5 m 4).length+drN ns 60 5=n;have nW:(C5 m 4).length<=n:=by omega
 have lc:n<=100:=by omega
 rw [C8,F8,Q4c];simp only [D2,B0,C6];rcases V3b wf with fin | inf
 ·have hg:=K14.W1n fin;have all:∀j,(C5 m j).length<=n:=fun j=>by
   rcases Nat.le_total j 4 with q | q
   ·exact aS (Q5z m q).length_le nW
   ·rw [Y6s q fun w hw=>by have:=fin w hw;omega];exact nW
  refine⟨_,rfl,_,rfl,rfl,m,n,rfl,wf,by omega,lc,fun w j e=>?_,fun _=>?_⟩
  ·have:=(av.mp e).1;have:=all j;omega
  ·show T3 (.st refD) _;rw [L6];rw [C8,W6,Q1h,R1];simp only [D2,B0,C6];refine⟨_,rfl,rfl,_,⟨m,rfl,wf,h4,rfl⟩,?_⟩;rw [hg,Q5k,show(!([]:List Nat).isEmpty)=false from rfl,az (by decide),V4];dsimp only;rw [Q6,s_b];simp only [D3,B0,s_tup,D2,E8,D8,C6];refine⟨_,rfl,_,rfl,sz (by decide),?_⟩;exact K14.same rfl rfl (by decide) h
 ·have hg:=K14.W1m wf inf;have many:=Z6f wf inf (n+1);refine⟨_,rfl,_,rfl,rfl,m,n,rfl,wf,by omega,lc,fun w j e=>?_,fun z=>?_⟩
  ·have hB:(n+1)*m.1.length<=404:=aS (Nat.mul_le_mul (show n+1<=101 by omega) h4) (by decide);have e2:(C5 m ((n+1)*m.1.length))[n]?=some (C5 m ((n+1)*m.1.length))[n]:=aa (by omega);have ew:=Y6r e2 e;rw [ew]at e2;have hm:=Q0y.mp (aB e2);have rW:3<w.length:=by
    rcases aX 3 w.length with q | q
    ·exact q
    ·have q0:w∈C5 m 4:=Q0y.mpr ⟨hm.1,by omega⟩;obtain⟨b,hb,eb⟩:=lA q0;have:=Y6t (av.mpr ⟨hb,eb⟩) e2;omega
   show T3 (.st (tD w)) _;rw [L6];rw [C8,W6,Q1h,R1];simp only [D2,B0,C6];refine⟨_,rfl,rfl,_,⟨m,rfl,wf,h4,rfl⟩,?_⟩;rw [Q5k,show(!(K14.Q1y m).isEmpty)=true by cases q:K14.Q1y m with | nil=>exact absurd q hg | cons _ _=>rfl,aG rfl,Q6,Z4z];rw [V0n,B0];refine⟨_,rfl,_,rfl,?_⟩;rw [Z4f,aG (show Q4z "str" "str"=true by decide),Z4z,s_b];simp only [D3,N5,D2,B0,D8,C6];refine⟨_,rfl,?_⟩;show F4 [.st (.str (J7 w))] _;rw [Z4i,Z0q hm.1.1];refine⟨sz (by omega),?_⟩;rw [Q2d,Z4f,aG (bo (by omega)),Z4z,R1];simp only [D2,B0,C6];refine⟨_,rfl,_,rfl,rfl,_,⟨m,w,rfl,wf,hm.1.1,rfl⟩,?_⟩;rw [hm.1.2,Z4f,aG rfl,s_b];simp only [D3,R1,D2,B0,C6];refine⟨_,rfl,_,rfl,rfl,_,⟨m,w,rfl,wf,by omega,hm.1.1,by omega,rfl⟩,_,rfl,?_⟩;rw [aG hm.1.2,Y3t wf e2];exact K14.same rfl rfl (bt _) h
  ·have:=z ((n+1)*m.1.length);omega
def W9e:∀rs Pr,rs.length=1->Q7l rs Pr->Z6z Z0g Z0i Q7i Q4i Q0f Q3e Q7k (T5 Pr) (E9 Q8c rs):=by
 rintro rs Pr _ ⟨ns,rfl,hn,h⟩;have wf:C7 (Z1 ns 0 4):=W4i ns 0 (by decide);have h4:=W4h ns 0 (most:=4) (by decide);unfold Z6z;rw [C8,F8];simp only [R1,D2,B0,D8,C6];refine⟨_,rfl,rfl,_,⟨ns,0,4,rfl,hn,by decide,by decide,rfl⟩,?_⟩;rw [L6];generalize Z1 ns 0 4=m at wf h4 ⊢;have hu:=K14.Z6e m;rw [C8,Z5c,F8,X8,Z0b];simp only [R1,D2,D8,C6];refine⟨rfl,_,⟨3,rfl,by decide,rfl⟩,_,rfl,sz (by decide +kernel),?_⟩;refine Q6r (p:=K14.Y1v m) (f:=fun d=>d) _ none _ (fun d hd Q' q=>?_) (fun d hd Q' _ q=>?_) ?_
 ·obtain⟨w,hm,rfl⟩:=ah.mp hd;have hw:=Q9m.mp hm;rw [Q1h,R1];simp only [D2,B0,C6];refine⟨_,rfl,_,rfl,rfl,_,⟨m,w,rfl,wf,hw.1,rfl⟩,?_⟩;rw [Q5k];have e:decide (J7 w∈(C5 m 4).map J7)=J6 m w:=by
   cases ha:J6 m w with
   | true=>exact bo (ah.mpr ⟨w,Q0y.mpr ⟨⟨hw.1,ha⟩,by omega⟩,rfl⟩)
   | false =>
    refine bb fun z=>?_;obtain⟨u,hu,e⟩:=ah.mp z;rw [Y6h (K14.V3f hu) hw.1 e]at hu;have:=(Q0y.mp hu).1.2;rw [ha]at this;cases this
  have q:Q' (decide (J7 w∈(C5 m 4).map J7)):=q;rw [e]at q;exact q
 ·rw [E8,B0];exact⟨_,rfl,q⟩
 rw [K14.Y8m m,O8];refine⟨_,rfl,?_⟩;rw [C8,S1,V0j];simp only [D2,B0,C6];refine⟨_,rfl,_,rfl,?_⟩;have ee:G6 ((C5 m 4).map tD)=((C5 m 4).zipIdx 0).map fun p=>.tup [iD p.2,tD p.1]:=by
  unfold G6;rw [List.zipIdx_map,aF];rfl
 rw [ee];refine forQ wf h4 _ _ _ (fun p hp=>?_) fun o3 o4=>?_
 ·obtain⟨a,b⟩:=p;have:=List.mem_zipIdx hp;obtain⟨q1,q2,q3⟩:=this;exact av.mpr ⟨by omega,by simpa using q3.symm⟩
 dsimp only;rw [C8,S1,Q5q,E8];simp only [R1,D2,D8,C6];refine⟨rfl,_,⟨3,rfl,by decide,rfl⟩,?_⟩;rw [Q5i];refine⟨_,rfl,?_⟩;refine forS wf h4 (Q3n 3) _ (fun w hw=>Q9m.mp hw) fun o4=>?_;exact W3m hn wf h4 h
local macro_rules | `(tactic| trivial)=>`(tactic| first | exact Or.inl rfl | exact Or.inr rfl)
def P1 (i:Nat):Stmt:=PySem.Challenge.pw_textkinds_k16_numbers.main.body.getD i (.Pass ⟨0,0,0,0⟩)
structure Txt (K:Fg9)(mg:Str->Option Value)(w:World):Prop where
 m_ValueError:mg "ValueError"=none
 m_enumerate:mg "enumerate"=none
 m_isinstance:mg "isinstance"=none
 m_len:mg "len"=none
 m_list:mg "list"=none
 m_max:mg "max"=none
 m_range:mg "range"=none
 m_reversed:mg "reversed"=none
 m_set:mg "set"=none
 m_sorted:mg "sorted"=none
 m_str:mg "str"=none
 m_sum:mg "sum"=none
 m_tuple:mg "tuple"=none
 c_SIGNS:∃t,mg "SIGNS"=some (.str "01ab" t)
def Y9b:bootBuiltins "ValueError"=some (.type "ValueError"):=by decide +kernel
def Q3s:bootBuiltins "enumerate"=some (.type "enumerate"):=by decide +kernel
def Q6o:bootBuiltins "isinstance"=some (.builtin "isinstance"):=by decide +kernel
def Z9o:bootBuiltins "list"=some (.type "list"):=by decide +kernel
def Z2e:bootBuiltins "max"=some (.builtin "max"):=by decide +kernel
def Z9p:bootBuiltins "reversed"=some (.type "reversed"):=by decide +kernel
def Y9c:bootBuiltins "set"=some (.type "set"):=by decide +kernel
def Y9d:bootBuiltins "sorted"=some (.builtin "sorted"):=by decide +kernel
def Y9e:bootBuiltins "str"=some (.type "str"):=by decide +kernel
def Z9q:bootBuiltins "sum"=some (.builtin "sum"):=by decide +kernel
abbrev Z5v:Stmt:=P1 2
abbrev Z5l:Stmt:=P1 3
abbrev Z5s:Stmt:=P1 4
abbrev Z0j:Stmt:=P1 5
abbrev Q5w:Stmt:=P1 6
abbrev Z0m:Stmt:=P1 15
abbrev Q5x:Stmt:=P1 13
abbrev Q7m:Stmt:=P1 14
abbrev Z0n:Stmt:=P1 16
abbrev Z0o:Stmt:=P1 17
abbrev Z5u:Stmt:=P1 19
abbrev Z5t:Stmt:=P1 18
abbrev Z0p:Stmt:=P1 20
abbrev Z5n:Stmt:=P1 22
abbrev Z5o:Stmt:=P1 23
abbrev Z0l:Stmt:=P1 25
abbrev Q7o:Stmt:=P1 26
abbrev Z5q:Stmt:=P1 27
abbrev Z5m:Stmt:=P1 28
abbrev Z5p:Stmt:=P1 29
abbrev Z5r:Stmt:=P1 30
abbrev Z0k:Stmt:=P1 31
abbrev Q7n:Stmt:=P1 32
structure Env (P:Program)(w:World)(K:Fg9)(mg:Str->Option Value)(base:Heap)(ts:List Addr)(ad:Nat->Addr)(fn:Nat->FuncData)(xc:Nat->Addr):Prop where
 T:Txt K mg w
 hBM:Q0i mg base
 O_KindError:OwnCls "KindError" (xc 0) Z2 "ValueError.__new__" mg base
 O_NoneSuch:OwnCls "NoneSuch" (xc 1) Z2 "ValueError.__new__" mg base
 O_NoGiven:OwnCls "NoGiven" (xc 2) Z2 "ValueError.__new__" mg base
 O_NoSign:OwnCls "NoSign" (xc 3) Z2 "ValueError.__new__" mg base
 B_x:Q7z base (xc 1) (xc 0)
 V_x:PySem.W.ExcK K (xc 1)
 k_NoneSuch:PySem.W.kitOne K (.ref (xc 1)) (.ref (xc 1))=some true
 k_NoGiven:PySem.W.kitOne K (.ref (xc 1)) (.ref (xc 2))=some false
 k_NoSign:PySem.W.kitOne K (.ref (xc 1)) (.ref (xc 3))=some false
 k_ValueError:PySem.W.kitOne K (.ref (xc 1)) (.type "ValueError")=some true
 D_walked:Df K mg "walked" Z5v ["start","step"] (ad 0) (fn 0)
 D_first_text:Df K mg "first_text" Z5l ["start","step","is_end"] (ad 1) (fn 1)
 D_states_along:DfO K mg "states_along" Z5s ["rows","text","start"] 0 (ad 2) (fn 2)
 D_all_reached:Df K mg "all_reached" Z0j ["some","onward"] (ad 3) (fn 3)
 D_distances:Df K mg "distances" Q5w ["ends","rows","wanted"] (ad 4) (fn 4)
 D_least_text:Df K mg "least_text" Z0m ["machine"] (ad 5) (fn 5)
 D_onward_goals:Df K mg "onward_goals" Q5x ["machine"] (ad 6) (fn 6)
 D_last_length:Df K mg "last_length" Q7m ["machine"] (ad 7) (fn 7)
 D_no_signs:Df K mg "no_signs" Z0n ["machine"] (ad 8) (fn 8)
 D_one_more_sign:Df K mg "one_more_sign" Z0o ["machine","counts"] (ad 9) (fn 9)
 D_text_of_length_at:Df K mg "text_of_length_at" Z5u ["machine","tables","number"] (ad 10) (fn 10)
 D_text_at:Df K mg "text_at" Z5t ["machine","number"] (ad 11) (fn 11)
 D_rank_of:Df K mg "rank_of" Z0p ["machine","text"] (ad 12) (fn 12)
 D_law_cell:Df K mg "_law_cell" Z5n ["_law_script","_law_k"] (ad 13) (fn 13)
 D_law_drawn:Df K mg "_law_drawn" Z5o ["_law_script","_law_k","_law_many"] (ad 14) (fn 14)
 D_law_texts:Df K mg "_law_texts" Z0l ["_law_long"] (ad 15) (fn 15)
 D_law_machine:Df K mg "_law_machine" Q7o ["_law_script","_law_at","_law_most"] (ad 16) (fn 16)
 D_law_state:Df K mg "_law_state" Z5q ["_law_machine_told","_law_state_here","_law_text_here"] (ad 17) (fn 17)
 D_law_accepts:Df K mg "_law_accepts" Z5m ["_law_machine_told","_law_text_here"] (ad 18) (fn 18)
 D_law_refused:Df K mg "_law_refused" Z5p ["_law_e"] (ad 19) (fn 19)
 D_law_told:Df K mg "_law_told" Z5r ["_law_told_here","_law_number"] (ad 20) (fn 20)
 D_law_is_endless:Df K mg "_law_is_endless" Z0k ["_law_told_here"] (ad 21) (fn 21)
 D_law:Df K mg "law" Q7n ["_law_script"] (ad 22) (fn 22)
 C_least_text:∃c Pt,Q3p K "least_text" "least_text" Z0m (ad 5) (fn 5) c Pt/\Pt∈ts
 C_onward_goals:∃c Pt,Q3p K "onward_goals" "onward_goals" Q5x (ad 6) (fn 6) c Pt/\Pt∈ts
section
variable {P:Program}{w:World}{K:Fg9}{mg:Str->Option Value}{base:Heap}{ts:List Addr}{ad:Nat->Addr}{fn:Nat->FuncData}{xc:Nat->Addr}(Z:Env P w K mg base ts ad fn xc)
include Z
omit Z in
def Y5j:G3 MC.Y8j ["start","step"] (B6 Z5v):=P0 (by decide +kernel)
def Y8g:FnD P w K mg base 3 (ad 0) (fn 0) ["start","step"] (Q5v (FnC P w K mg base 2)):=by
 have nd:=Y5j.nd;refine Z.D_walked.ok Y5j (ws:=MC.Z7p (FnC P w K mg base 2) ) (fun cdv A outer s H E hr=>?_) MC.W9r;exact(A3.cons (DS.sv 2 (DE.lst (DA.one (DE.fz (DE.v 0)))) nd) (A3.cons (DS.knew1 (i:=3) (DE.v 0) DE.int nd rfl (by trivial)) (A3.cons (DS.sv 4 (DE.lst DA.nil) nd) (A3.cons (DS.fzO 2 (DS.whl aT (DT.cmp Z2i Q2r (DE.len Z.T.m_len (DE.v 4)) (DE.len Z.T.m_len (DE.v 2)) (O1 _)) (A3.cons (DS.sv 5 (DE.ix (DE.v 2) (DE.len Z.T.m_len (DE.v 4)) (fun _ _=>rfl)) nd) (A3.cons (DS.sv 6 (DE.lst DA.nil) nd) (A3.cons (DS.for aT rfl (DI.rng1 rfl Z.T.m_range (DA.one (DE.len Z.T.m_len (DE.gstr rfl Z.T.c_SIGNS)))) (DG.nm (i:=7) nd rfl (by trivial)) (A3.cons (DS.sv 8 (DE.callC (k:=2) (hr.mono (by decide)) (pv 1) (DA.cons (DE.v 5) (DA.one (DE.v 7)))) nd) (A3.cons (DS.ife (DT.knotin (D4.hu1 hr) (DE.v 8) (pv 3)) (A3.cons (DS.kput (D4.hu1 hr) (pv 3) (DE.v 8) (DE.len Z.T.m_len (DE.v 2))) (A3.one (DS.append (pv 2) (DE.fz (DE.v 8))))) A3.nil) (A3.one (DS.append (pv 6) (DE.fz (DE.kget (D4.hu1 hr) (pv 3) (DE.v 8) (fun _ _=>rfl)))))))) (A3.one (DS.append (pv 4) (DE.fz (DE.tpl Z.T.m_tuple (DE.v 6)))))))))) (A3.one (DS.ret (DE.tup (DA.cons (DE.fz (DE.v 2)) (DA.one (DE.fz (DE.tpl Z.T.m_tuple (DE.v 4))))))))))))
omit Z in
def Y4p:G3 MC.Y8h ["start","step","is_end"] (B6 Z5l):=P0 (by decide +kernel)
def Y7t:FnD P w K mg base 3 (ad 1) (fn 1) ["start","step","is_end"] (Q5u (FnC P w K mg base 2)):=by
 have nd:=Y4p.nd;refine Z.D_first_text.ok Y4p (ws:=MC.Z6x (FnC P w K mg base 2) ) (fun cdv A outer s H E hr=>?_) MC.W9c;exact(A3.cons (DS.sv 3 (DE.lst (DA.one (DE.fz (DE.v 0)))) nd) (A3.cons (DS.knew1 (i:=4) (DE.v 0) DE.str nd rfl (by trivial)) (A3.cons (DS.sv 5 DE.int nd) (A3.cons (DS.whl aT (DT.cmp Z2i Q2r (DE.v 5) (DE.len Z.T.m_len (DE.v 3)) (O1 _)) (A3.cons (DS.sv 6 (DE.ix (DE.v 3) (DE.v 5) (fun _ _=>rfl)) nd) (A3.cons (DS.ife (DT.tru (DE.callC (k:=2) (hr.mono (by decide)) (pv 2) (DA.one (DE.v 6))) (fun _=>rfl)) (A3.one (DS.ret (DE.kget (D4.hu1 hr) (pv 4) (DE.v 6) (fun _ _=>rfl)))) A3.nil) (A3.cons (DS.for aT rfl (DI.enumX rfl Z.T.m_enumerate Q3s (DA.one (DE.gstr rfl Z.T.c_SIGNS))) (DG.tp (n:=2) rfl (G8.cons (DG.nm (i:=7) nd rfl (by trivial)) (G8.cons (DG.nm (i:=8) nd rfl (by trivial)) G8.nil))) (A3.cons (DS.sv 9 (DE.callC (k:=2) (hr.mono (by decide)) (pv 1) (DA.cons (DE.v 6) (DA.one (DE.v 7)))) nd) (A3.one (DS.ife (DT.knotin (D4.hu1 hr) (DE.v 9) (pv 4)) (A3.cons (DS.kput (D4.hu1 hr) (pv 4) (DE.v 9) (DE.op S9 S7 (DE.kget (D4.hu1 hr) (pv 4) (DE.v 6) (fun _ _=>rfl)) (DE.v 8))) (A3.one (DS.append (pv 3) (DE.fz (DE.v 9))))) A3.nil)))) (A3.one (DS.aug (i:=5) Q9u U4 DE.int nd rfl (by trivial))))))) (A3.one (DS.ret DE.non))))))
omit Z in
def Y5g:G3 MC.Z8n ["rows","text","start"] (B6 Z5s):=P0 (by decide +kernel)
def Y8d:FnD P w K mg base 1 (ad 2) (fn 2) ["rows","text","start"] Z0f:=by
 have nd:=Y5g.nd;refine Z.D_states_along.ok Y5g (ws:=MC.Z7m  ) (fun cdv A outer s H E hr=>?_) MC.W8x;exact(A3.cons (DS.sv 3 (DE.lst (DA.one (DE.fz (DE.v 2)))) nd) (A3.cons (DS.for aT rfl (DI.str (DE.v 1)) (DG.nm (i:=4) nd rfl (by trivial)) (A3.one (DS.append (pv 3) (DE.fz (DE.ix (DE.ix (DE.v 0) (DE.ix (DE.v 3) (DE.neg DE.int) (fun _ _=>rfl)) (fun _ _=>rfl)) (DE.index (DE.gstr rfl Z.T.c_SIGNS) (DE.v 4)) (fun _ _=>rfl)))))) (A3.one (DS.retV (pv 3)))))
omit Z in
def Y4n:G3 MC.Z1g ["some","onward"] (B6 Z0j):=P0 (by decide +kernel)
def Y7r:FnT P w K mg base ts 1 (ad 3) (fn 3) ["some","onward"] (sp_all_reached K):=by
 have nd:=Y4n.nd;refine N7.okP Z.D_all_reached.F Y4n (ws:=MC.Z6v  K ) (fun cdv A outer s H E hT hr=>?_) MC.W8w;exact(A3.cons (DS.setKC (i:=2) rfl (R5 (sc:=B6 Z0j) (N0:=MC.Z1g) (N:=["state"]) (nt:=1) (cap:=[]) rfl rfl (by decide +kernel)) (F9.lst (DE.v 0)) (fun _ _ _ _=>(DG.nm (i:=0) (show List.Nodup (["state"]:List Str)by decide +kernel) rfl (by trivial))) (fun _ _ _ _=>(DE.v 0)) (fun _ _ _ _=>(DE.fz DE.int)) nd rfl (by trivial)) (A3.cons (DS.sv 3 (DE.callTy (Y9i rfl) W3z rfl Z.T.m_list Z9o (DA.one (DE.v 2))) nd) (A3.cons (DS.sv 4 DE.int nd) (A3.cons (DS.whl aT (DT.cmp Z2i Q2r (DE.v 4) (DE.len Z.T.m_len (DE.v 3)) (O1 _)) (A3.cons (DS.sv 5 (DE.ix (DE.v 3) (DE.v 4) (fun _ _=>rfl)) nd) (A3.cons (DS.for aT rfl (DI.lst (DE.fz (DE.ix (DE.v 1) (DE.v 5) (fun _ _=>rfl)))) (DG.nm (i:=6) nd rfl (by trivial)) (A3.one (DS.ife (DT.knotin (D4.hu1 hr) (DE.v 6) (pv 2)) (A3.cons (DS.kput (D4.hu1 hr) (pv 2) (DE.v 6) (DE.op S9 S7 (DE.kget (D4.hu1 hr) (pv 2) (DE.v 5) (fun _ _=>rfl)) DE.int)) (A3.one (DS.append (pv 3) (DE.fz (DE.v 6))))) A3.nil))) (A3.one (DS.aug (i:=4) Q9u U4 DE.int nd rfl (by trivial)))))) (A3.one (DS.retK (pv 2)))))))
omit Z in
def Y4o:G3 MC.Q6i ["ends","rows","wanted"] (B6 Q5w):=P0 (by decide +kernel)
def Y7s:FnT P w K mg base ts 2 (ad 4) (fn 4) ["ends","rows","wanted"] Q4f:=by
 have nd:=Y4o.nd;refine N7.okP Z.D_distances.F Y4o (ws:=MC.Z6w  K (sp_all_reached K)) (fun cdv A outer s H E hT hr=>?_) MC.W8z;exact(A3.cons (DS.setLC (i:=3) rfl (R5 (sc:=B6 Q5w) (N0:=MC.Q6i) (N:=["row"]) (nt:=1) (cap:=[]) rfl rfl (by decide +kernel)) (F9.or (F9.tup (DE.v 1)) (F9.lst (DE.v 1))) (fun _ _ _ _=>(DG.nm (i:=0) (show List.Nodup (["row"]:List Str)by decide +kernel) rfl (by trivial))) (fun _ _ _ _=>(DE.lst DA.nil)) nd rfl (by trivial)) (A3.cons (DS.fzL 3 (DS.for aT rfl (DI.or (DI.enumX rfl Z.T.m_enumerate Q3s (DA.one (DE.v 1))) (DI.enumF rfl Z.T.m_enumerate Q3s (DA.one (DE.v 1)))) (DG.tp (n:=2) rfl (G8.cons (DG.nm (i:=4) nd rfl (by trivial)) (G8.cons (DG.nm (i:=5) nd rfl (by trivial)) G8.nil))) (A3.one (DS.for aT rfl (DI.tup (DE.v 5)) (DG.nm (i:=6) nd rfl (by trivial)) (A3.one (DS.llapp (pv 3) (DE.v 6) (DE.fz (DE.v 4)) (fun _ _=>rfl) ⟨rfl,rfl,rfl,rfl⟩)))))) (A3.cons (DS.setF (i:=7) (DE.clP (W4r) (Y7r Z) hr hT Z.D_all_reached (DA.cons (DE.comp rfl (R5 (sc:=B6 Q5w) (N0:=MC.Q6i) (N:=["state","end","wanted"]) (nt:=2) (cap:=[2]) rfl rfl (by decide +kernel)) (F9.enumX rfl Z.T.m_enumerate Q3s (DA.one (DE.v 0))) (fun _ _ _ _=>(DG.tp (n:=2) rfl (G8.cons (DG.nm (i:=0) (show List.Nodup (["state","end","wanted"]:List Str)by decide +kernel) rfl (by trivial)) (G8.cons (DG.nm (i:=1) (show List.Nodup (["state","end","wanted"]:List Str)by decide +kernel) rfl (by trivial)) G8.nil)))) (fun _ _ _ _=>(O2.one (DT.cmp (Q1w (n:=60) (Q0t hr)) Q0q (DE.v 1) (DE.v 2) (O1 _)))) (fun _ _ _ _=>(DE.fz (DE.v 0)))) (DA.one (DE.v 3)))) nd rfl (by trivial)) (A3.one (DS.ret (DE.comp rfl (R5 (sc:=B6 Q5w) (N0:=MC.Q6i) (N:=["state","reached"]) (nt:=1) (cap:=[7]) rfl rfl (by decide +kernel)) (F9.rng1 rfl Z.T.m_range (DA.one (DE.len Z.T.m_len (DE.v 0)))) (fun _ _ _ _=>(DG.nm (i:=0) (show List.Nodup (["state","reached"]:List Str)by decide +kernel) rfl (by trivial))) (fun _ _ _ _=>O2.nil) (fun _ _ _ _=>(DE.fz (DE.fget1 (D4.hu1 hr) (pv 1) (DE.v 0) ⟨rfl,rfl,rfl,rfl⟩)))))))))
omit Z in
def Y5b:G3 MC.Z8m ["machine"] (B6 Z0m):=P0 (by decide +kernel)
def Y8b:FnT P w K mg base ts 4 (ad 5) (fn 5) ["machine"] sp_least_text:=by
 obtain⟨c,Pt,C,na⟩:=Z.C_least_text;have nd:=Y5b.nd;refine Q3p.okP C Y5b (ws:=MC.Z7h (FnC P w K mg base 2) (Q5u (FnC P w K mg base 2))) (fun A outer s H E hT hr=>?_) MC.W9f;exact(A3.cons (DS.asg (DE.v 0) (DG.tp (n:=2) rfl (G8.cons (DG.nm (i:=1) nd rfl (by trivial)) (G8.cons (DG.nm (i:=2) nd rfl (by trivial)) G8.nil)))) (A3.one (DS.ret (DE.callW2 (kl:=1) (ps:=["state","column"]) (qs:=["state"]) (cs:=[("rows",2)]) (es:=[("ends",1)]) (clos:=[("rows",s.heap.objs.size+2)]) (clo2:=[("ends",s.heap.objs.size+1)]) (wb:=MC.Y7k) (wc:=MC.Z7v) (Y7t Z) (hr.mono (by decide)) rfl Z.D_first_text.m Z.D_first_text.k Z.D_first_text.b DE.int (hT _ na) Z.hBM rfl C.hd rfl rfl (cC.mpr ⟨rfl,fun _ h=>nomatch h⟩) (cC.mpr ⟨⟨rfl,rfl,rfl⟩,fun _ h=>nomatch h⟩) ⟨rfl,rfl,rfl,by decide +kernel,by decide +kernel,by decide +kernel,by decide +kernel,by decide +kernel⟩ rfl rfl (cC.mpr ⟨rfl,fun _ h=>nomatch h⟩) (cC.mpr ⟨⟨rfl,rfl,rfl⟩,fun _ h=>nomatch h⟩) ⟨rfl,rfl,rfl,by decide +kernel,by decide +kernel,by decide +kernel,by decide +kernel,by decide +kernel⟩ (by decide) (fun _ _ _ _ _ us hl=>match us,hl with | [_,_],_=>rfl) (fun _ _ _ _ _ us hl=>match us,hl with | [_],_=>rfl) (fun caps f c' A outer s H q hn hr=>(DE.ix (DE.ix (DE.v 2) (DE.v 0) (fun _ _=>rfl)) (DE.v 1) (fun _ _=>rfl))) (fun caps f c' A outer s H q hn hr=>(DE.ix (DE.v 1) (DE.v 0) (fun _ _=>rfl)))))))
omit Z in
def Y5e:G3 MC.Q8f ["machine"] (B6 Q5x):=P0 (by decide +kernel)
def Y8c:FnT P w K mg base ts 4 (ad 6) (fn 6) ["machine"] sp_onward_goals:=by
 obtain⟨c,Pt,C,na⟩:=Z.C_onward_goals;have nd:=Y5e.nd;refine Q3p.okP C Y5e (ws:=MC.Z7k (FnC P w K mg base 2) (Q5v (FnC P w K mg base 2)) Q4f) (fun A outer s H E hT hr=>?_) MC.W9j;exact(A3.cons (DS.asg (DE.v 0) (DG.tp (n:=2) rfl (G8.cons (DG.nm (i:=1) nd rfl (by trivial)) (G8.cons (DG.nm (i:=2) nd rfl (by trivial)) G8.nil)))) (A3.cons (DS.asg (DE.callW (kl:=1) (ps:=["state","column"]) (cs:=[("rows",2)]) (clos:=[("rows",s.heap.objs.size+3)]) (wb:=MC.Y7m) (Y8g Z) (hr.mono (by decide)) rfl Z.D_walked.m Z.D_walked.k Z.D_walked.b DE.int (hT _ na) Z.hBM rfl C.hd rfl rfl (cC.mpr ⟨rfl,fun _ h=>nomatch h⟩) (cC.mpr ⟨⟨rfl,rfl,rfl⟩,fun _ h=>nomatch h⟩) ⟨rfl,rfl,rfl,by decide +kernel,by decide +kernel,by decide +kernel,by decide +kernel,by decide +kernel⟩ (fun _ _ _ _ _ us hl=>match us,hl with | [_,_],_=>rfl) (fun caps f c' A outer s H q hn hr=>(DE.ix (DE.ix (DE.v 2) (DE.v 0) (fun _ _=>rfl)) (DE.v 1) (fun _ _=>rfl)))) (DG.tp (n:=2) rfl (G8.cons (DG.nm (i:=3) nd rfl (by trivial)) (G8.cons (DG.nm (i:=4) nd rfl (by trivial)) G8.nil)))) (A3.cons (DS.sv 5 (DE.clP (W4s) (Y7s Z) hr hT Z.D_distances (DA.cons (DE.comp rfl (R5 (sc:=B6 Q5x) (N0:=MC.Q8f) (N:=["key","ends"]) (nt:=1) (cap:=[1]) rfl rfl (by decide +kernel)) (F9.lst (DE.v 3)) (fun _ _ _ _=>(DG.nm (i:=0) (show List.Nodup (["key","ends"]:List Str)by decide +kernel) rfl (by trivial))) (fun _ _ _ _=>O2.nil) (fun _ _ _ _=>(DE.fz (DE.ix (DE.v 1) (DE.v 0) (fun _ _=>rfl))))) (DA.cons (DE.v 4) (DA.one DE.bl)))) nd) (A3.one (DS.ret (DE.comp rfl (R5 (sc:=B6 Q5x) (N0:=MC.Q8f) (N:=["row","steps"]) (nt:=1) (cap:=[5]) rfl rfl (by decide +kernel)) (F9.tup (DE.v 4)) (fun _ _ _ _=>(DG.nm (i:=0) (show List.Nodup (["row","steps"]:List Str)by decide +kernel) rfl (by trivial))) (fun _ _ _ _=>O2.nil) (fun _ _ _ _=>(DE.fz (DE.comp rfl (R5 (N0:=["row","steps"]) (N:=["goal","steps"]) (nt:=1) (cap:=[1]) rfl rfl (by kernel_rfl)) (F9.tup (DE.v 0)) (fun _ _ _ _=>(DG.nm (i:=0) (show List.Nodup (["goal","steps"]:List Str)by decide +kernel) rfl (by trivial))) (fun _ _ _ _=>(O2.one (DT.cmp Z2k Q9b (DE.ix (DE.v 1) (DE.v 0) (fun _ _=>rfl)) DE.non (O1 _)))) (fun _ _ _ _=>(DE.fz (DE.v 0))))))))))))
omit Z in
def Y4q:G3 MC.Q8b ["machine"] (B6 Q7m):=P0 (by decide +kernel)
def Y7u:FnT P w K mg base ts 5 (ad 7) (fn 7) ["machine"] Q4g:=by
 have nd:=Y4q.nd;refine N7.okP Z.D_last_length.F Y4q (ws:=MC.Z6y  sp_least_text sp_onward_goals) (fun cdv A outer s H E hT hr=>?_) MC.W9d;exact(A3.cons (DS.ife (DT.cmp Y9o Q9b (DE.clP (W4u) (Y8b Z) hr hT Z.D_least_text (DA.one (DE.v 0))) DE.non (O1 _)) (A3.one (DS.ret (DE.neg DE.int))) A3.nil) (A3.cons (DS.sv 1 (DE.clP (W4v) (Y8c Z) hr hT Z.D_onward_goals (DA.one (DE.v 0))) nd) (A3.cons (DS.sv 2 (DE.op Q1f Q0z (DE.lst (DA.one (DE.fz DE.int))) (DE.len Z.T.m_len (DE.v 1))) nd) (A3.cons (DS.for aT rfl (DI.own (pv 1)) (DG.nm (i:=3) nd rfl (by trivial)) (A3.one (DS.for aT rfl (DI.lst (DE.fz (DE.v 3))) (DG.nm (i:=4) nd rfl (by trivial)) (A3.one (DS.augIx W2m (pv 2) (DE.v 4) DE.int))))) (A3.cons (DS.sv 5 (DE.op Q1f Q0z (DE.lst (DA.one (DE.fz DE.int))) (DE.len Z.T.m_len (DE.v 1))) nd) (A3.cons (by first | exact DS.set (i:=6) (DE.comp rfl (R5 (sc:=B6 Q7m) (N0:=MC.Q8b) (N:=["state","many"]) (nt:=2) (cap:=[]) rfl rfl (by decide +kernel)) (F9.enumX rfl Z.T.m_enumerate Q3s (DA.one (DE.v 2))) (fun _ _ _ _=>(DG.tp (n:=2) rfl (G8.cons (DG.nm (i:=0) (show List.Nodup (["state","many"]:List Str)by decide +kernel) rfl (by trivial)) (G8.cons (DG.nm (i:=1) (show List.Nodup (["state","many"]:List Str)by decide +kernel) rfl (by trivial)) G8.nil)))) (fun _ _ _ _=>(O2.one (DT.cmp (Q1w (n:=60) (Q0t hr)) Q0q (DE.v 1) DE.int (O1 _)))) (fun _ _ _ _=>(DE.fz (DE.v 0)))) nd rfl (by trivial) | exact DS.setC (i:=6) rfl (R5 (sc:=B6 Q7m) (N0:=MC.Q8b) (N:=["state","many"]) (nt:=2) (cap:=[]) rfl rfl (by decide +kernel)) (F9.enumX rfl Z.T.m_enumerate Q3s (DA.one (DE.v 2))) (fun _ _ _ _=>(DG.tp (n:=2) rfl (G8.cons (DG.nm (i:=0) (show List.Nodup (["state","many"]:List Str)by decide +kernel) rfl (by trivial)) (G8.cons (DG.nm (i:=1) (show List.Nodup (["state","many"]:List Str)by decide +kernel) rfl (by trivial)) G8.nil)))) (fun _ _ _ _=>(O2.one (DT.cmp (Q1w (n:=60) (Q0t hr)) Q0q (DE.v 1) DE.int (O1 _)))) (fun _ _ _ _=>(DE.fz (DE.v 0))) nd rfl (by trivial)) (A3.cons (DS.whl aT (DT.tru (DE.v 6) (fun _=>rfl)) (A3.cons (DS.pop (pv 6) (DG.nm (i:=7) nd rfl (by trivial))) (A3.one (DS.for aT rfl (DI.lst (DE.fz (DE.ix (DE.v 1) (DE.v 7) (fun _ _=>rfl)))) (DG.nm (i:=4) nd rfl (by trivial)) (A3.cons (DS.setIx (pv 5) (DE.v 4) (DE.fz (DE.callB (Y9l rfl) W4k rfl Z.T.m_max Z2e (DA.cons (DE.ix (DE.v 5) (DE.v 4) (fun _ _=>rfl)) (DA.one (DE.op S9 S7 (DE.ix (DE.v 5) (DE.v 7) (fun _ _=>rfl)) DE.int)))))) (A3.cons (DS.augIx W2n (pv 2) (DE.v 4) DE.int) (A3.one (DS.ife (DT.cmp (Q1w (n:=60) (Q0t hr)) Q0q (DE.ix (DE.v 2) (DE.v 4) (fun _ _=>rfl)) DE.int (O1 _)) (A3.one (DS.append (pv 6) (DE.fz (DE.v 4)))) A3.nil)))))))) (A3.one (DS.ret (DE.ife (DT.cmp (Q1w (n:=60) (Q0t hr)) Q0q (DE.callB (Z9s rfl) Y2k rfl Z.T.m_max Z2e (DA.one (DE.v 2))) DE.int (O1 _)) (DE.callB (Z9s rfl) Y2k rfl Z.T.m_max Z2e (DA.one (DE.v 5))) DE.non))))))))))
omit Z in
def Y5c:G3 MC.Z1k ["machine"] (B6 Z0n):=P0 (by decide +kernel)
def Z8e:FnD P w K mg base 1 (ad 8) (fn 8) ["machine"] Q1i:=by
 have nd:=Y5c.nd;refine Z.D_no_signs.ok Y5c (ws:=MC.Z7i  ) (fun cdv A outer s H E hr=>?_) MC.W9h;exact(A3.one (DS.ret (DE.comp rfl (R5 (sc:=B6 Z0n) (N0:=MC.Z1k) (N:=["end"]) (nt:=1) (cap:=[]) rfl rfl (by decide +kernel)) (F9.tup (DE.ix (DE.v 0) DE.int (fun _ _=>rfl))) (fun _ _ _ _=>(DG.nm (i:=0) (show List.Nodup (["end"]:List Str)by decide +kernel) rfl (by trivial))) (fun _ _ _ _=>O2.nil) (fun _ _ _ _=>(DE.fz (DE.ife (DT.tru (DE.v 0) (fun _=>rfl)) DE.int DE.int))))))
omit Z in
def Y5d:G3 MC.Q8e ["machine","counts"] (B6 Z0o):=P0 (by decide +kernel)
def Z8f:FnD P w K mg base 1 (ad 9) (fn 9) ["machine","counts"] X9:=by
 have nd:=Y5d.nd;refine Z.D_one_more_sign.ok Y5d (ws:=MC.Z7j  ) (fun cdv A outer s H E hr=>?_) MC.W9i;exact(A3.one (DS.ret (DE.comp rfl (R5 (sc:=B6 Z0o) (N0:=MC.Q8e) (N:=["row","counts"]) (nt:=1) (cap:=[1]) rfl rfl (by decide +kernel)) (F9.tup (DE.ix (DE.v 0) DE.int (fun _ _=>rfl))) (fun _ _ _ _=>(DG.nm (i:=0) (show List.Nodup (["row","counts"]:List Str)by decide +kernel) rfl (by trivial))) (fun _ _ _ _=>O2.nil) (fun _ _ _ _=>(DE.fz (DE.callB (Z9t rfl) Y5y rfl Z.T.m_sum Z9q (DA.one (DE.comp rfl (R5 (N0:=["row","counts"]) (N:=["goal","counts"]) (nt:=1) (cap:=[1]) rfl rfl (by kernel_rfl)) (F9.tup (DE.v 0)) (fun _ _ _ _=>(DG.nm (i:=0) (show List.Nodup (["goal","counts"]:List Str)by decide +kernel) rfl (by trivial))) (fun _ _ _ _=>O2.nil) (fun _ _ _ _=>(DE.fz (DE.ix (DE.v 1) (DE.v 0) (fun _ _=>rfl))))))))))))
omit Z in
def Y5i:G3 MC.Z8p ["machine","tables","number"] (B6 Z5u):=P0 (by decide +kernel)
def Y8f:FnD P w K mg base 1 (ad 10) (fn 10) ["machine","tables","number"] sp_text_of_length_at:=by
 have nd:=Y5i.nd;refine Z.D_text_of_length_at.ok Y5i (ws:=MC.Z7o  ) (fun cdv A outer s H E hr=>?_) MC.W9o;exact(A3.cons (DS.sv 3 (DE.lst DA.nil) nd) (A3.cons (DS.sv 4 DE.int nd) (A3.cons (DS.sv 5 (DE.v 2) nd) (A3.cons (DS.for aT rfl (DI.revF rfl Z.T.m_reversed Z9p (DA.one (DE.fz (DE.slice (DE.v 1) DO.none (DO.some (DE.neg DE.int)))))) (DG.nm (i:=6) nd rfl (by trivial)) (A3.cons (DS.sv 7 DE.int nd) (A3.cons (DS.whl aT (DT.cmp Z2h Q2r (DE.v 5) (DE.ix (DE.v 6) (DE.ix (DE.ix (DE.ix (DE.v 0) DE.int (fun _ _=>rfl)) (DE.v 4) (fun _ _=>rfl)) (DE.v 7) (fun _ _=>rfl)) (fun _ _=>rfl)) (O1 _)) (A3.cons (DS.aug (i:=5) Y3f U4 (DE.ix (DE.v 6) (DE.ix (DE.ix (DE.ix (DE.v 0) DE.int (fun _ _=>rfl)) (DE.v 4) (fun _ _=>rfl)) (DE.v 7) (fun _ _=>rfl)) (fun _ _=>rfl)) nd rfl (by trivial)) (A3.one (DS.aug (i:=7) Q9u U4 DE.int nd rfl (by trivial))))) (A3.cons (DS.append (pv 3) (DE.fz (DE.ix (DE.gstr rfl Z.T.c_SIGNS) (DE.v 7) (fun _ _=>rfl)))) (A3.one (DS.sv 4 (DE.ix (DE.ix (DE.ix (DE.v 0) DE.int (fun _ _=>rfl)) (DE.v 4) (fun _ _=>rfl)) (DE.v 7) (fun _ _=>rfl)) nd)))))) (A3.one (DS.ret (DE.join DE.str (DE.v 3))))))))
omit Z in
def Y5h:G3 MC.Z8o ["machine","number"] (B6 Z5t):=P0 (by decide +kernel)
def Y8e:FnXT P w K mg base ts 6 (ad 11) (fn 11) ["machine","number"] (Q4h (xc 1)):=by
 have nd:=Y5h.nd;refine N7.okXL Z.D_text_at.F Y5h (ws:=MC.Z7n (xc 1) Q4g Q1i X9 sp_text_of_length_at) (fun cdv A outer s H E XE hE hT hr=>?_) (MC.W9n _);exact(A3.cons (DS.sv 2 (DE.clP (W4t) (Y7u Z) hr hT Z.D_last_length (DA.one (DE.v 0))) nd) (A3.cons (DS.sv 3 (DE.v 1) nd) (A3.cons (DS.sv 4 (DE.lst (DA.one (DE.fz (DE.cl (Z8e Z) hr Z.D_no_signs (DA.one (DE.v 0)))))) nd) (A3.cons (DS.whl V3u (DT.cmp Z2h Q2r (DE.v 3) (DE.ix (DE.ix (DE.v 4) (DE.neg DE.int) (fun _ _=>rfl)) DE.int (fun _ _=>rfl)) (O1 _)) (A3.cons (DS.ife (DW.t (DW.and (DT.cmp Z2k Q9b (DE.v 2) DE.non (O1 _)) (DW.and1 (DT.cmp Z9v Q2r (DE.len Z.T.m_len (DE.v 4)) (DE.v 2) (O1 _))))) (A3.one (DS.raiseL hE (DS.raise Z.O_NoneSuch rfl rfl rfl DE.str))) A3.nil) (A3.cons (DS.aug (i:=3) Y3f U4 (DE.ix (DE.ix (DE.v 4) (DE.neg DE.int) (fun _ _=>rfl)) DE.int (fun _ _=>rfl)) nd rfl (by trivial)) (A3.one (DS.append (pv 4) (DE.fz (DE.cl (Z8f Z) hr Z.D_one_more_sign (DA.cons (DE.v 0) (DA.one (DE.ix (DE.v 4) (DE.neg DE.int) (fun _ _=>rfl))))))))))) (A3.one (DS.ret (DE.cl (Y8f Z) hr Z.D_text_of_length_at (DA.cons (DE.v 0) (DA.cons (DE.v 4) (DA.one (DE.v 3)))))))))))
omit Z in
def Y5f:G3 MC.Z1l ["machine","text"] (B6 Z0p):=P0 (by decide +kernel)
def Z1f:FnD P w K mg base 2 (ad 12) (fn 12) ["machine","text"] Q0f:=by
 have nd:=Y5f.nd;refine Z.D_rank_of.ok Y5f (ws:=MC.Z7l  Z0f Q1i X9) (fun cdv A outer s H E hr=>?_) MC.W9k;exact(A3.cons (DS.asg (DE.v 0) (DG.tp (n:=2) rfl (G8.cons (DG.nm (i:=2) nd rfl (by trivial)) (G8.cons (DG.nm (i:=3) nd rfl (by trivial)) G8.nil)))) (A3.cons (DS.sv 4 (DE.callO (Y8d Z) (hr.mono (by decide)) rfl Z.D_states_along.m Z.D_states_along.k Z.D_states_along.b (DA.cons (DE.v 3) (DA.one (DE.v 1)))) nd) (A3.cons (DS.ife (DT.nt (DT.tru (DE.ix (DE.v 2) (DE.ix (DE.v 4) (DE.neg DE.int) (fun _ _=>rfl)) (fun _ _=>rfl)) (fun _=>rfl))) (A3.one (DS.ret DE.non)) A3.nil) (A3.cons (DS.sv 5 DE.int nd) (A3.cons (DS.sv 6 (DE.cl (Z8e Z) hr Z.D_no_signs (DA.one (DE.v 0))) nd) (A3.cons (DS.for aT rfl (DI.rev1 rfl Z.T.m_reversed Z9p rfl Z.T.m_range (DA.one (DE.len Z.T.m_len (DE.v 1)))) (DG.nm (i:=7) nd rfl (by trivial)) (A3.cons (DS.sv 8 (DE.slice (DE.ix (DE.v 3) (DE.ix (DE.v 4) (DE.v 7) (fun _ _=>rfl)) (fun _ _=>rfl)) DO.none (DO.some (DE.index (DE.gstr rfl Z.T.c_SIGNS) (DE.ix (DE.v 1) (DE.v 7) (fun _ _=>rfl))))) nd) (A3.cons (DS.aug (i:=5) Q9u U4 (DE.op S9 S7 (DE.ix (DE.v 6) DE.int (fun _ _=>rfl)) (DE.callB (Z9t rfl) Y5y rfl Z.T.m_sum Z9q (DA.one (DE.comp rfl (R5 (sc:=B6 Z0p) (N0:=MC.Z1l) (N:=["goal","counts"]) (nt:=1) (cap:=[6]) rfl rfl (by decide +kernel)) (F9.tup (DE.v 8)) (fun _ _ _ _=>(DG.nm (i:=0) (show List.Nodup (["goal","counts"]:List Str)by decide +kernel) rfl (by trivial))) (fun _ _ _ _=>O2.nil) (fun _ _ _ _=>(DE.fz (DE.ix (DE.v 1) (DE.v 0) (fun _ _=>rfl)))))))) nd rfl (by trivial)) (A3.one (DS.sv 6 (DE.cl (Z8f Z) hr Z.D_one_more_sign (DA.cons (DE.v 0) (DA.one (DE.v 6)))) nd))))) (A3.one (DS.retV (pv 5)))))))))
omit Z in
def Y4t:G3 MC.Z8i ["_law_script","_law_k"] (B6 Z5n):=P0 (by decide +kernel)
def Y7w:FnD P w K mg base 1 (ad 13) (fn 13) ["_law_script","_law_k"] Q7j:=by
 have nd:=Y4t.nd;refine Z.D_law_cell.ok Y4t (ws:=MC.Z0y  ) (fun cdv A outer s H E hr=>?_) MC.W8y;exact(A3.cons (DS.ife (DT.cmp (Q1w (n:=60) (Q0t hr)) Q0q (DE.v 0) (DE.lst DA.nil) (O1 _)) (A3.one (DS.ret (DE.op Q1f Q0z DE.int (DE.v 1)))) A3.nil) (A3.one (DS.ret (DE.op S9 S7 (DE.ix (DE.v 0) (DE.op Q5l U4 (DE.v 1) (DE.len Z.T.m_len (DE.v 0))) (fun _ _=>rfl)) (DE.op Q1f Q0z DE.int (DE.op Q9s U4 (DE.v 1) (DE.len Z.T.m_len (DE.v 0))))))))
omit Z in
def Y4u:G3 MC.Z8j ["_law_script","_law_k","_law_many"] (B6 Z5o):=P0 (by decide +kernel)
def Q8a:FnD P w K mg base 2 (ad 14) (fn 14) ["_law_script","_law_k","_law_many"] Q3e:=by
 have nd:=Y4u.nd;refine Z.D_law_drawn.ok Y4u (ws:=MC.Z7b  Q7j) (fun cdv A outer s H E hr=>?_) MC.W9a;exact(A3.cons (DS.sv 3 (DE.op Q5l U4 (DE.op S9 S7 (DE.op Q1f Q0z (DE.op Q5l U4 (DE.cl (Y7w Z) hr Z.D_law_cell (DA.cons (DE.v 0) (DA.one (DE.v 1)))) DE.int) DE.int) (DE.op Q1f Q0z DE.int (DE.op S9 S7 (DE.v 1) DE.int))) DE.int) nd) (A3.cons (DS.sv 3 (DE.op Q5l U4 (DE.op S9 S7 (DE.op Q1f Q0z (DE.v 3) (DE.v 3)) (DE.op Q9s U4 (DE.v 3) DE.int)) DE.int) nd) (A3.one (DS.ret (DE.op Q5l U4 (DE.op Q9s U4 (DE.op Q5l U4 (DE.op S9 S7 (DE.op Q1f Q0z (DE.v 3) (DE.v 3)) (DE.op Q9s U4 (DE.v 3) DE.int)) DE.int) DE.int) (DE.v 2))))))
omit Z in
def Y4z:G3 MC.Z1i ["_law_long"] (B6 Z0l):=P0 (by decide +kernel)
def Z1e:FnD P w K mg base 1 (ad 15) (fn 15) ["_law_long"] Z0i:=by
 have nd:=Y4z.nd;refine Z.D_law_texts.ok Y4z (ws:=MC.Z7g  ) (fun cdv A outer s H E hr=>?_) MC.W9p;exact(A3.cons (DS.sv 1 (DE.lst (DA.one (DE.fz DE.str))) nd) (A3.cons (DS.sv 2 (DE.fz (DE.lst (DA.one (DE.fz DE.str)))) nd) (A3.cons (DS.for aT rfl (DI.rng1 rfl Z.T.m_range (DA.one (DE.v 0))) (DG.nm (i:=3) nd rfl (by trivial)) (A3.cons (DS.sv 4 (DE.lst DA.nil) nd) (A3.cons (DS.fzO 4 (DS.for aT rfl (DI.lst (DE.fz (DE.v 2))) (DG.nm (i:=5) nd rfl (by trivial)) (A3.one (DS.sv 4 (DE.op S9 S7 (DE.v 4) (DE.comp rfl (R5 (sc:=B6 Z0l) (N0:=MC.Z1i) (N:=["_law_sign","_law_text_here"]) (nt:=1) (cap:=[5]) rfl rfl (by decide +kernel)) (F9.str DE.str) (fun _ _ _ _=>(DG.nm (i:=0) (show List.Nodup (["_law_sign","_law_text_here"]:List Str)by decide +kernel) rfl (by trivial))) (fun _ _ _ _=>O2.nil) (fun _ _ _ _=>(DE.fz (DE.op S9 S7 (DE.v 1) (DE.v 0)))))) nd)))) (A3.cons (DS.sv 2 (DE.fz (DE.v 4)) nd) (A3.one (DS.sv 1 (DE.op Z4l Z1v (DE.v 1) (DE.v 2)) nd)))))) (A3.one (DS.retV (pv 1))))))
omit Z in
def Y4w:G3 MC.Q8d ["_law_script","_law_at","_law_most"] (B6 Q7o):=P0 (by decide +kernel)
def Y7y:FnD P w K mg base 3 (ad 16) (fn 16) ["_law_script","_law_at","_law_most"] Z0g:=by
 have nd:=Y4w.nd;refine Z.D_law_machine.ok Y4w (ws:=MC.Z7d  Q3e) (fun cdv A outer s H E hr=>?_) MC.W9g;exact(A3.cons (DS.sv 3 (DE.op S9 S7 DE.int (DE.cl (Q8a Z) hr Z.D_law_drawn (DA.cons (DE.v 0) (DA.cons (DE.v 1) (DA.one (DE.v 2)))))) nd) (A3.cons (DS.sv 4 (DE.tpl Z.T.m_tuple (DE.comp rfl (R5 (sc:=B6 Q7o) (N0:=MC.Q8d) (N:=["_law_k","_law_script","_law_at"]) (nt:=1) (cap:=[0,1]) rfl rfl (by decide +kernel)) (F9.rng1 rfl Z.T.m_range (DA.one (DE.v 3))) (fun _ _ _ _=>(DG.nm (i:=0) (show List.Nodup (["_law_k","_law_script","_law_at"]:List Str)by decide +kernel) rfl (by trivial))) (fun _ _ _ _=>O2.nil) (fun _ _ _ _=>(DE.fz (DE.cmp (Q1w (n:=60) (Q0t hr)) Q0q (DE.cl (Q8a Z) hr Z.D_law_drawn (DA.cons (DE.v 1) (DA.cons (DE.op S9 S7 (DE.op S9 S7 (DE.v 2) DE.int) (DE.v 0)) (DA.one DE.int)))) DE.int (O1 _)))))) nd) (A3.cons (DS.sv 5 (DE.lst DA.nil) nd) (A3.cons (DS.for aT rfl (DI.rng1 rfl Z.T.m_range (DA.one (DE.v 3))) (DG.nm (i:=6) nd rfl (by trivial)) (A3.one (DS.append (pv 5) (DE.fz (DE.tpl Z.T.m_tuple (DE.comp rfl (R5 (sc:=B6 Q7o) (N0:=MC.Q8d) (N:=["_law_j","_law_script","_law_size","_law_at","_law_k"]) (nt:=1) (cap:=[0,3,1,6]) rfl rfl (by decide +kernel)) (F9.rng1 rfl Z.T.m_range (DA.one DE.int)) (fun _ _ _ _=>(DG.nm (i:=0) (show List.Nodup (["_law_j","_law_script","_law_size","_law_at","_law_k"]:List Str)by decide +kernel) rfl (by trivial))) (fun _ _ _ _=>O2.nil) (fun _ _ _ _=>(DE.fz (DE.cl (Q8a Z) hr Z.D_law_drawn (DA.cons (DE.v 1) (DA.cons (DE.op S9 S7 (DE.op S9 S7 (DE.op S9 S7 (DE.v 3) DE.int) (DE.op Q1f Q0z DE.int (DE.v 4))) (DE.v 0)) (DA.one (DE.v 2))))))))))))) (A3.one (DS.ret (DE.tup (DA.cons (DE.fz (DE.v 4)) (DA.one (DE.fz (DE.tpl Z.T.m_tuple (DE.v 5))))))))))))
omit Z in
def Y4y:G3 MC.Z8l ["_law_machine_told","_law_state_here","_law_text_here"] (B6 Z5q):=P0 (by decide +kernel)
def Y8a:FnD P w K mg base 1 (ad 17) (fn 17) ["_law_machine_told","_law_state_here","_law_text_here"] Z0h:=by
 have nd:=Y4y.nd;refine Z.D_law_state.ok Y4y (ws:=MC.Z7f  ) (fun cdv A outer s H E hr=>?_) MC.W9m;exact(A3.cons (DS.for aT rfl (DI.str (DE.v 2)) (DG.nm (i:=3) nd rfl (by trivial)) (A3.one (DS.sv 1 (DE.ix (DE.ix (DE.ix (DE.v 0) DE.int (fun _ _=>rfl)) (DE.v 1) (fun _ _=>rfl)) (DE.index DE.str (DE.v 3)) (fun _ _=>rfl)) nd))) (A3.one (DS.retV (pv 1))))
omit Z in
def Y4s:G3 MC.Z8h ["_law_machine_told","_law_text_here"] (B6 Z5m):=P0 (by decide +kernel)
def Z1d:FnD P w K mg base 2 (ad 18) (fn 18) ["_law_machine_told","_law_text_here"] Q7i:=by
 have nd:=Y4s.nd;refine Z.D_law_accepts.ok Y4s (ws:=MC.Z7a  Z0h) (fun cdv A outer s H E hr=>?_) MC.W8v;exact(A3.one (DS.ret (DE.ix (DE.ix (DE.v 0) DE.int (fun _ _=>rfl)) (DE.cl (Y8a Z) hr Z.D_law_state (DA.cons (DE.v 0) (DA.cons DE.int (DA.one (DE.v 1))))) (fun _ _=>rfl))))
omit Z in
def Y4x:G3 Z8k ["_law_e"] (B6 Z5p):=P0 (by decide +kernel)
def Y7z:FnU P w K mg base 1 (ad 19) (fn 19) ["_law_e"] (Q9h K (xc 1) (.tup [.str "refused",.int 0])):=by
 have nd:=Y4x.nd;refine N7.okOb Z.D_law_refused.F Y4x (ws:=Z7e) (fun cdv A outer s H a hH hr=>?_) W9l;exact(A3.cons (DS.sv 1 (DE.fz (DE.lst (DA.cons (DE.fz (DE.isiF (he:=pv 0) hH Z.V_x rfl Z.T.m_isinstance Q6o (Q9y (v:=.ref (xc 1)) rfl Z.O_NoneSuch.bound rfl) (fun _ r=>r) Z.k_NoneSuch)) (DA.cons (DE.fz (DE.isiF (he:=pv 0) hH Z.V_x rfl Z.T.m_isinstance Q6o (Q9y (v:=.ref (xc 2)) rfl Z.O_NoGiven.bound rfl) (fun _ r=>r) Z.k_NoGiven)) (DA.one (DE.fz (DE.isiF (he:=pv 0) hH Z.V_x rfl Z.T.m_isinstance Q6o (Q9y (v:=.ref (xc 3)) rfl Z.O_NoSign.bound rfl) (fun _ r=>r) Z.k_NoSign))))))) nd) (A3.cons (DS.ife (DW.t (DW.or (DT.cmp Z2j Z4c (DE.bcount (DE.v 1) DE.bl) DE.int (O1 _)) (DW.or1 (DT.nt (DT.tru (DE.isiF (he:=pv 0) hH Z.V_x rfl Z.T.m_isinstance Q6o (Y3j (v:=.ty "ValueError") rfl Z.T.m_ValueError Y9b rfl) (fun _ r=>r) Z.k_ValueError) (fun _=>rfl)))))) (A3.one (DS.ret (DE.tup (DA.cons (DE.fz DE.str) (DA.one (DE.fz (DE.neg DE.int))))))) A3.nil) (A3.one (DS.ret (DE.tup (DA.cons (DE.fz DE.str) (DA.one (DE.fz (DE.bindex (DE.v 1) DE.bl)))))))))
omit Z in
def Y5a:G3 Z1j ["_law_told_here","_law_number"] (B6 Z5r):=P0 (by decide +kernel)
def Z8d:FnT P w K mg base ts 7 (ad 20) (fn 20) ["_law_told_here","_law_number"] Q4i:=by
 have nd:=Y5a.nd;refine N7.okTryT (i:=2) (n:="_law_e") (XE:=fun c=>c=xc 1) (wb:=Z7t (Q4h (xc 1))) (wh:=fun _ a=>Y7h a) (wr:=Y7p) Z.D_law_told.F Y5a rfl rfl (by decide) rfl Z.O_KindError (fun c hc=>by subst hc;exact Z.B_x) (fun _ _ _ _ _ _=>rfl)
  (fun cdv A outer s H E XE hT hr=>?_) (fun cdv A outer s H E c a pn hT hr hc fS qp=>?_) (fun cdv A outer s H E hT hr=>?_) (W9q _)
 ·exact(A3.one (DS.ret (DE.callXT (W4w _) (Y8e Z) (hr.mono (by decide)) hT rfl Z.D_text_at.m Z.D_text_at.k Z.D_text_at.b (DA.cons (DE.v 0) (DA.one (DE.v 1))) rfl)))
 ·have hc:=hc.symm;subst hc;have rO:=Q0t hr;have rP:=Z3e hr;exact(A3.one (DS.ret (DE.callOb (Y7z Z) (Q0n.hand (hr.mono (by decide))) fS qp rfl Z.D_law_refused.m Z.D_law_refused.k Z.D_law_refused.b (pv 2))))
 ·exact A3.nil
omit Z in
def Y4v:G3 Z1h ["_law_told_here"] (B6 Z0k):=P0 (by decide +kernel)
def Y7x:FnD P w K mg base 1 (ad 21) (fn 21) ["_law_told_here"] Q7k:=by
 have nd:=Y4v.nd;refine Z.D_law_is_endless.ok Y4v (ws:=Z7c  ) (fun cdv A outer s H E hr=>?_) W9b;exact(A3.cons (DS.sv 1 (DE.fz (DE.lst (DA.one (DE.fz DE.int)))) nd) (A3.cons (DS.sv 2 (DE.lst DA.nil) nd) (A3.cons (DS.for aT rfl (DI.rng1 rfl Z.T.m_range (DA.one (DE.op Q1f Q0z DE.int (DE.len Z.T.m_len (DE.ix (DE.v 0) DE.int (fun _ _=>rfl)))))) (DG.nm (i:=3) nd rfl (by trivial)) (A3.cons (DS.ife (DT.cmp Z2h Q2r (DE.v 3) (DE.len Z.T.m_len (DE.ix (DE.v 0) DE.int (fun _ _=>rfl))) (O1 _)) (A3.one (DS.sv 2 (DE.op Z4l Z1v (DE.v 2) (DE.comp rfl (R5 (sc:=B6 Z0k) (N0:=Z1h) (N:=["_law_state_here","_law_told_here"]) (nt:=1) (cap:=[0]) rfl rfl (by decide +kernel)) (F9.lst (DE.v 1)) (fun _ _ _ _=>(DG.nm (i:=0) (show List.Nodup (["_law_state_here","_law_told_here"]:List Str)by decide +kernel) rfl (by trivial))) (fun _ _ _ _=>(O2.one (DT.tru (DE.ix (DE.ix (DE.v 1) DE.int (fun _ _=>rfl)) (DE.v 0) (fun _ _=>rfl)) (fun _=>rfl)))) (fun _ _ _ _=>(DE.fz (DE.v 0))))) nd)) A3.nil) (A3.cons (DS.sv 4 (DE.lst DA.nil) nd) (A3.cons (DS.for aT rfl (DI.lst (DE.fz (DE.v 1))) (DG.nm (i:=5) nd rfl (by trivial)) (A3.one (DS.sv 4 (DE.op Z4l Z1v (DE.v 4) (DE.callTy Y9j W3y rfl Z.T.m_list Z9o (DA.one (DE.ix (DE.ix (DE.v 0) DE.int (fun _ _=>rfl)) (DE.v 5) (fun _ _=>rfl))))) nd))) (A3.one (DS.sv 1 (DE.fz (DE.sset rfl rfl Z.T.m_sorted rfl Z.T.m_set Y9d Y9c (DE.v 4))) nd)))))) (A3.one (DS.ret (DE.cmp (Y9p (n:=59) (Z3e hr)) Q0q (DE.v 2) (DE.lst DA.nil) (O1 _)))))))
omit Z in
def Y4r:G3 Q8c ["_law_script"] (B6 Q7n):=P0 (by decide +kernel)
def Y7v:FnT P w K mg base ts 8 (ad 22) (fn 22) ["_law_script"] Q7l:=by
 have nd:=Y4r.nd;refine N7.okP Z.D_law.F Y4r (ws:=Z6z  Z0g Z0i Q7i Q4i Q0f Q3e Q7k) (fun cdv A outer s H E hT hr=>?_) W9e;exact(A3.cons (DS.sv 1 (DE.cl (Y7y Z) hr Z.D_law_machine (DA.cons (DE.v 0) (DA.cons DE.int (DA.one DE.int)))) nd) (A3.cons (DS.fzO 2 (by first | exact DS.set (i:=2) (DE.comp rfl (R5 (sc:=B6 Q7n) (N0:=Q8c) (N:=["_law_text_here","_law_told_here"]) (nt:=1) (cap:=[1]) rfl rfl (by decide +kernel)) (F9.lst (DE.cl (Z1e Z) hr Z.D_law_texts (DA.one DE.int))) (fun _ _ _ _=>(DG.nm (i:=0) (show List.Nodup (["_law_text_here","_law_told_here"]:List Str)by decide +kernel) rfl (by trivial))) (fun _ _ _ _=>(O2.one (DT.tru (DE.cl (Z1d Z) hr Z.D_law_accepts (DA.cons (DE.v 1) (DA.one (DE.v 0)))) (fun _=>rfl)))) (fun _ _ _ _=>(DE.fz (DE.v 0)))) nd rfl (by trivial) | exact DS.setC (i:=2) rfl (R5 (sc:=B6 Q7n) (N0:=Q8c) (N:=["_law_text_here","_law_told_here"]) (nt:=1) (cap:=[1]) rfl rfl (by decide +kernel)) (F9.lst (DE.cl (Z1e Z) hr Z.D_law_texts (DA.one DE.int))) (fun _ _ _ _=>(DG.nm (i:=0) (show List.Nodup (["_law_text_here","_law_told_here"]:List Str)by decide +kernel) rfl (by trivial))) (fun _ _ _ _=>(O2.one (DT.tru (DE.cl (Z1d Z) hr Z.D_law_accepts (DA.cons (DE.v 1) (DA.one (DE.v 0)))) (fun _=>rfl)))) (fun _ _ _ _=>(DE.fz (DE.v 0))) nd rfl (by trivial))) (A3.cons (DS.for aT rfl (DI.enumF rfl Z.T.m_enumerate Q3s (DA.one (DE.v 2))) (DG.tp (n:=2) rfl (G8.cons (DG.nm (i:=3) nd rfl (by trivial)) (G8.cons (DG.nm (i:=4) nd rfl (by trivial)) G8.nil))) (A3.one (DS.ife (DW.t (DW.or (DT.cmp Z2j Z4c (DE.clP (Y2v) (Z8d Z) hr hT Z.D_law_told (DA.cons (DE.v 1) (DA.one (DE.v 3)))) (DE.v 4) (O1 _)) (DW.or1 (DT.cmp Z2j Z4c (DE.cl (Z1f Z) hr Z.D_rank_of (DA.cons (DE.v 1) (DA.one (DE.v 4)))) (DE.v 3) (O1 _))))) (A3.one (DS.ret DE.bl)) A3.nil))) (A3.cons (DS.for aT rfl (DI.lst (DE.fz (DE.cl (Z1e Z) hr Z.D_law_texts (DA.one DE.int)))) (DG.nm (i:=4) nd rfl (by trivial)) (A3.one (DS.ife (DW.t (DW.and (DT.cmp (Y9q (n:=59) (Z3e hr)) W1y (DE.v 4) (DE.v 2) (by with_unfolding_all rfl)) (DW.and1 (DT.cmp Z2k Q9b (DE.cl (Z1f Z) hr Z.D_rank_of (DA.cons (DE.v 1) (DA.one (DE.v 4)))) DE.non (O1 _))))) (A3.one (DS.ret DE.bl)) A3.nil))) (A3.cons (DS.sv 3 (DE.op S9 S7 (DE.len Z.T.m_len (DE.v 2)) (DE.cl (Q8a Z) hr Z.D_law_drawn (DA.cons (DE.v 0) (DA.cons DE.int (DA.one DE.int))))) nd) (A3.cons (DS.sv 5 (DE.clP (Y2v) (Z8d Z) hr hT Z.D_law_told (DA.cons (DE.v 1) (DA.one (DE.v 3)))) nd) (A3.cons (DS.ife (DT.tru (DE.cl (Y7x Z) hr Z.D_law_is_endless (DA.one (DE.v 1))) (fun _=>rfl)) (A3.one (DS.ret (DE.and (DE.isi (DE.v 5) rfl Z.T.m_isinstance Q6o rfl Z.T.m_str Y9e (W3k _ (by decide))) (DE.and (DE.cmp Z9v Q2r (DE.len Z.T.m_len (DE.v 5)) DE.int (O1 _)) (DE.and (DE.cl (Z1d Z) hr Z.D_law_accepts (DA.cons (DE.v 1) (DA.one (DE.v 5)))) (DE.and1 (DE.cmp (Q1w (n:=60) (Q0t hr)) Q0q (DE.cl (Z1f Z) hr Z.D_rank_of (DA.cons (DE.v 1) (DA.one (DE.v 5)))) (DE.v 3) (O1 _)))))))) A3.nil) (A3.one (DS.ret (DE.cmp (Q1w (n:=60) (Q0t hr)) Q0q (DE.v 5) (DE.tup (DA.cons (DE.fz DE.str) (DA.one (DE.fz DE.int)))) (O1 _)))))))))))
end
def Y8s {l:PySem.W.OpenLaw}{w:World}{K:Fg9}{h:Heap}{mg:Str->Option Value}{fa:Addr}{ts:List Addr}(X:K.In h)(G:h.Ns mainGlobals mg)(qN:mg "law"=some (.ref fa))
  {f0:Addr}{d0:FuncData} (H0:Hr K "walked" Z5v f0 d0)
  {f1:Addr}{d1:FuncData} (H1:Hr K "first_text" Z5l f1 d1)
  {f2:Addr}{d2:FuncData} (H2:HrO K "states_along" Z5s 0 f2 d2)
  {f3:Addr}{d3:FuncData} (H3:Hr K "all_reached" Z0j f3 d3)
  {f4:Addr}{d4:FuncData} (H4:Hr K "distances" Q5w f4 d4)
  {f5 c5 p5:Addr}{d5:FuncData} (H5:HrC K "least_text" Z0m f5 d5 c5 p5 ts)
  {f6 c6 p6:Addr}{d6:FuncData} (H6:HrC K "onward_goals" Q5x f6 d6 c6 p6 ts)
  {f7:Addr}{d7:FuncData} (H7:Hr K "last_length" Q7m f7 d7)
  {f8:Addr}{d8:FuncData} (H8:Hr K "no_signs" Z0n f8 d8)
  {f9:Addr}{d9:FuncData} (H9:Hr K "one_more_sign" Z0o f9 d9)
  {oN:Addr}{p8:FuncData} (H10:Hr K "text_of_length_at" Z5u oN p8)
  {oM:Addr}{p7:FuncData} (H11:Hr K "text_at" Z5t oM p7)
  {oK:Addr}{p0:FuncData} (H12:Hr K "rank_of" Z0p oK p0)
  {oJ:Addr}{oZ:FuncData} (H13:Hr K "_law_cell" Z5n oJ oZ)
  {oI:Addr}{oY:FuncData} (H14:Hr K "_law_drawn" Z5o oI oY)
  {oH:Addr}{oX:FuncData} (H15:Hr K "_law_texts" Z0l oH oX)
  {oG:Addr}{oW:FuncData} (H16:Hr K "_law_machine" Q7o oG oW)
  {oF:Addr}{oV:FuncData} (H17:Hr K "_law_state" Z5q oF oV)
  {oE:Addr}{oU:FuncData} (H18:Hr K "_law_accepts" Z5m oE oU)
  {oC:Addr}{oS:FuncData} (H19:Hr K "_law_refused" Z5p oC oS)
  {oB:Addr}{oR:FuncData} (H20:Hr K "_law_told" Z5r oB oR)
  {oA:Addr}{oQ:FuncData} (H21:Hr K "_law_is_endless" Z0k oA oQ)
  {rj:Addr}{nz:FuncData} (H22:Hr K "law" Q7n rj nz)
  (z0:PySem.W.nsIn K mainGlobals "ValueError"=some none)    (z1:PySem.W.nsIn K mainGlobals "enumerate"=some none)    (z2:PySem.W.nsIn K mainGlobals "isinstance"=some none)    (z3:PySem.W.nsIn K mainGlobals "len"=some none)    (z4:PySem.W.nsIn K mainGlobals "list"=some none)    (z5:PySem.W.nsIn K mainGlobals "max"=some none)    (z6:PySem.W.nsIn K mainGlobals "range"=some none)    (z7:PySem.W.nsIn K mainGlobals "reversed"=some none)    (z8:PySem.W.nsIn K mainGlobals "set"=some none)    (z9:PySem.W.nsIn K mainGlobals "sorted"=some none)    (z10:PySem.W.nsIn K mainGlobals "str"=some none)    (z11:PySem.W.nsIn K mainGlobals "sum"=some none)    (z12:PySem.W.nsIn K mainGlobals "tuple"=some none) {t0:Tok} (s0:PySem.W.nsIn K mainGlobals "SIGNS"=some (some (.str "01ab" t0)))
  {x0:Addr} (ae0:PySem.W.nsIn K mainGlobals "KindError"=some (some (.ref x0))) (qe0:PySem.W.excIn K x0 Z2 "ValueError.__new__"=true) {x1:Addr} (ae1:PySem.W.nsIn K mainGlobals "NoneSuch"=some (some (.ref x1))) (qe1:PySem.W.excIn K x1 Z2 "ValueError.__new__"=true) {x2:Addr} (ae2:PySem.W.nsIn K mainGlobals "NoGiven"=some (some (.ref x2))) (qe2:PySem.W.excIn K x2 Z2 "ValueError.__new__"=true) {x3:Addr} (ae3:PySem.W.nsIn K mainGlobals "NoSign"=some (some (.ref x3))) (qe3:PySem.W.excIn K x3 Z2 "ValueError.__new__"=true)
  (ek0:PySem.W.findIn K (.ref x1) "__getattribute__"=some (some (.builtin "BaseException.__getattribute__"))) (ek1:PySem.W.findIn K (.ref x1) "__getattr__"=some none) (ek2:PySem.W.findIn K (.ref x1) "__class__"=some (some (.builtin "object.__class__"))) (ek3:PySem.W.specialIn K (.builtin "object.__class__") "__get__"=some (some (.builtin "getset_descriptor.__get__"))) (ek4:PySem.W.takesIn K (.builtin "object.__class__")=some true) (ek5:PySem.W.mroIn K x1 (.type "object")=some true) (ek6:PySem.W.mroIn K x1 (.type "BaseException")=some true) (ek7:PySem.W.mroIn K x1 (.ref x0)=some true)
  (ki_NoneSuch:PySem.W.kitOne K (.ref x1) (.ref x1)=some true) (ki_NoGiven:PySem.W.kitOne K (.ref x1) (.ref x2)=some false) (ki_NoSign:PySem.W.kitOne K (.ref x1) (.ref x3)=some false) (ki_ValueError:PySem.W.kitOne K (.ref x1) (.type "ValueError")=some true) (hsub:∀Pt∈ts,Pt=p5\/Pt=p6) :
  (∀Pt∈ts,(∃c,PySem.W.codeHdIn K c Pt=true)/\K.lookup Pt=none)/\∃fd:FuncData,(∀(s:Shared) (v:Value),BindsTo s fd ⟨[v],[]⟩ [("_law_script",v)])/\∀base:Heap,K.In base->base.Ns mainGlobals mg->Q0i mg base->M9 l.prog w K mg base G2 8 fa fd ["_law_script"] (Q5c K ts 1 Q7l):=by
 have e:=qN.symm.trans (cN X G H22.1);cases e;refine⟨fun Pt hp=>by
  rcases hsub Pt hp with rfl | rfl
  ·exact H5.at
  ·exact H6.at
  ,?_⟩
 have T:Txt K mg w:={ m_ValueError:=bf X G z0,m_enumerate:=bf X G z1,m_isinstance:=bf X G z2,m_len:=bf X G z3,m_list:=bf X G z4,m_max:=bf X G z5,m_range:=bf X G z6,m_reversed:=bf X G z7,m_set:=bf X G z8,m_sorted:=bf X G z9,m_str:=bf X G z10,m_sum:=bf X G z11,m_tuple:=bf X G z12,c_SIGNS:=⟨t0,cN X G s0⟩ }
 have Lw:=H22.df (ps:=["_law_script"]) X G fun _ _ _ _ _ _ us hl=>Q0x us hl fun _=>rfl;obtain⟨⟨oc,od,kV,dc,pm,an,cd,ct,sl,e,l1,l2⟩,kp⟩:=H22.2;refine⟨nz,fun s v=>by subst e;exact .of_eq rfl,fun base hB _ hBM=>?_⟩;exact Y7v (ad:=fun i=>([f0,f1,f2,f3,f4,f5,f6,f7,f8,f9,oN,oM,oK,oJ,oI,oH,oG,oF,oE,oC,oB,oA,fa]:List Addr).getD i 0) (fn:=fun i=>([d0,d1,d2,d3,d4,d5,d6,d7,d8,d9,p8,p7,p0,oZ,oY,oX,oW,oV,oU,oS,oR,oQ,nz]:List FuncData).getD i d0) (xc:=fun i=>([x0,x1,x2,x3]:List Addr).getD i 0) ⟨T,hBM,Q9v hB (cN X G ae0) qe0,Q9v hB (cN X G ae1) qe1,Q9v hB (cN X G ae2) qe2,Q9v hB (cN X G ae3) qe3,Y8w hB qe1 ek7,⟨ek0,ek1,ek2,ek3,ek4,ek5,ek6⟩,ki_NoneSuch,ki_NoGiven,ki_NoSign,ki_ValueError,
  H0.df X G fun _ _ _ _ _ _ us hl=>Q2c us hl fun _ _=>rfl,
  H1.df X G fun _ _ _ _ _ _ us hl=>Q4a us hl fun _ _ _=>rfl,
  H2.df X G fun _ _ _ _ _ _ _ _ _ _ _ _ dl s us hK hl=>match us,(show us.length=2 by simpa using hl)with | [_,_],_=>PySem.W.binds_K hK rfl dl rfl rfl rfl,
  H3.df X G fun _ _ _ _ _ _ us hl=>Q2c us hl fun _ _=>rfl,
  H4.df X G fun _ _ _ _ _ _ us hl=>Q4a us hl fun _ _ _=>rfl,
  H5.hr.df X G fun _ _ _ _ _ _ us hl=>Q0x us hl fun _=>rfl,
  H6.hr.df X G fun _ _ _ _ _ _ us hl=>Q0x us hl fun _=>rfl,
  H7.df X G fun _ _ _ _ _ _ us hl=>Q0x us hl fun _=>rfl,
  H8.df X G fun _ _ _ _ _ _ us hl=>Q0x us hl fun _=>rfl,
  H9.df X G fun _ _ _ _ _ _ us hl=>Q2c us hl fun _ _=>rfl,
  H10.df X G fun _ _ _ _ _ _ us hl=>Q4a us hl fun _ _ _=>rfl,
  H11.df X G fun _ _ _ _ _ _ us hl=>Q2c us hl fun _ _=>rfl,
  H12.df X G fun _ _ _ _ _ _ us hl=>Q2c us hl fun _ _=>rfl,
  H13.df X G fun _ _ _ _ _ _ us hl=>Q2c us hl fun _ _=>rfl,
  H14.df X G fun _ _ _ _ _ _ us hl=>Q4a us hl fun _ _ _=>rfl,
  H15.df X G fun _ _ _ _ _ _ us hl=>Q0x us hl fun _=>rfl,
  H16.df X G fun _ _ _ _ _ _ us hl=>Q4a us hl fun _ _ _=>rfl,
  H17.df X G fun _ _ _ _ _ _ us hl=>Q4a us hl fun _ _ _=>rfl,
  H18.df X G fun _ _ _ _ _ _ us hl=>Q2c us hl fun _ _=>rfl,
  H19.df X G fun _ _ _ _ _ _ us hl=>Q0x us hl fun _=>rfl,
  H20.df X G fun _ _ _ _ _ _ us hl=>Q2c us hl fun _ _=>rfl,
  H21.df X G fun _ _ _ _ _ _ us hl=>Q0x us hl fun _=>rfl,
  H22.df X G fun _ _ _ _ _ _ us hl=>Q0x us hl fun _=>rfl,⟨_,_,H5.fc,H5.tb⟩,⟨_,_,H6.fc,H6.tb⟩⟩
def walk {l:PySem.W.OpenLaw}{q:Program}{eh:List Str}{XP:(Str->Option Value)->Heap->Prop}{YP:World->Heap->Prop}{d:DefRec}{K:Params->Fg9}{ts:List Addr}(hn:l.most=some 63)(jl:d.params.defaults=[])
  (hY:∀(w:World) (h:Heap),YP w h->(K w.params).In h) (mV:∀(w:World) (h:Heap),YP w h->∀Pt∈ts,h.get? Pt=some (PySem.W.tabObj #[]))
  (F:∀(w:World) (mg:Str->Option Value) (fa:Addr) (h:Heap),(K w.params).In h->h.Ns mainGlobals mg->mg d.name=some (.ref fa) ->
   (∀Pt∈ts,(∃c,PySem.W.codeHdIn (K w.params) c Pt=true)/\(K w.params).lookup Pt=none) /\
   ∃fd:FuncData,(∀(s:Shared) (u:Value),BindsTo s fd ⟨[u],[]⟩ [("_law_script",u)])/\∀base:Heap,(K w.params).In base->base.Ns mainGlobals mg->Q0i mg base->M9 l.prog w (K w.params) mg base G2 8 fa fd ["_law_script"] (Q5c (K w.params) ts 1 Q7l)) :
  PySem.W.WalkO q eh XP YP l.row.toRowW d [] (fun f vs=>PySem.call f vs) :=
 L2.V3i (n:=63) (k:=8) (x:="_law_script") (sp:=fun w=>Q5c (K w.params) ts 1 Q7l) hn (by decide) jl ⟨rfl,by decide,by decide⟩ hY mV F
  (fun w H a ns hl hT hz=>⟨[.st (scr ns)],fun r=>r=.st (.bl true),rfl,⟨_,_,rfl,A1.s_lst hz AllS.ints,rfl⟩,rfl,hT,⟨ns,rfl,hl,rfl⟩,fun r v H' e sm ir=>⟨by subst e;exact ir,fun Pt hp=>sm _ _ (hT Pt hp)⟩⟩)
end K16
end
open PySem PySem.W PyProof.Rows TK
namespace PySem.W.Fast
theorem tw8097360656290181420:1=1:=rfl
theorem tw1168426289274281456:1=1:=rfl
theorem tw15699800313966530373:1=1:=rfl
theorem tw3759645180246267857:1=1:=rfl
theorem tw12055624831708505656:1=1:=rfl
theorem tw12377550819200062883:1=1:=rfl
theorem tw10064652049740871474:1=1:=rfl
theorem tw6984172838223711085:1=1:=rfl
theorem tw6536066513882581985:1=1:=rfl
theorem tw7094699537407985898:1=1:=rfl
theorem tw9917163188324625895:1=1:=rfl
theorem tw10888290522559803937:1=1:=rfl
theorem tw8024047511851995458:1=1:=rfl
theorem tw5247516802943287696:1=1:=rfl
theorem tw9032305825850873178:1=1:=rfl
theorem tw17176238641253421281:1=1:=rfl
theorem tw6880962014120752278:1=1:=rfl
theorem tw3889407528926703328:1=1:=rfl
theorem tw7314727513935023343:1=1:=rfl
theorem tw10844605214032712183:1=1:=rfl
theorem tw4888406104151774686:1=1:=rfl
theorem tw9307881992683960432:1=1:=rfl
theorem tw15762504663601193481:1=1:=rfl
theorem tw12875307713255449863:1=1:=rfl
theorem tw10779677263508375175:1=1:=rfl
theorem tw10984407271385786474:1=1:=rfl
theorem tw12769824142916277180:1=1:=rfl
theorem tw13224728474477520684:1=1:=rfl
theorem tw2733923299456131652:1=1:=rfl
theorem tw18058201185440473038:1=1:=rfl
theorem tw9409259765577925057:1=1:=rfl
theorem tw17227081360580624187:1=1:=rfl
theorem tw10959243631379255515:1=1:=rfl
theorem tw9484643665414266493:1=1:=rfl
theorem tw4985441636217262418:1=1:=rfl
theorem tw12281408937603227418:1=1:=rfl
theorem tw6091210090073573466:1=1:=rfl
theorem tw14624498629069227253:1=1:=rfl
theorem tw8531598364213180423:1=1:=rfl
theorem tw6133217440725075938:1=1:=rfl
theorem tw4649967280345678393:1=1:=rfl
theorem tw10114595959728496866:1=1:=rfl
theorem tw18255938024378212673:1=1:=rfl
theorem tw13914329073027464773:1=1:=rfl
theorem tw13405706789062229794:1=1:=rfl
theorem tw15151650771553135368:1=1:=rfl
theorem tw7651673462095282178:1=1:=rfl
theorem tw14297731556457865699:1=1:=rfl
theorem tw11071741260464567565:1=1:=rfl
theorem tw17568085053157911215:1=1:=rfl
theorem tw911832019445291717:1=1:=rfl
theorem tw5104164288939981408:1=1:=rfl
theorem tw15149736142311455245:1=1:=rfl
theorem tw16698058375383150456:1=1:=rfl
theorem tw2347643849697902182:1=1:=rfl
theorem tw10885906967901625504:1=1:=rfl
theorem tw11206660311294770050:1=1:=rfl
theorem tw16080549757820687801:1=1:=rfl
theorem tw12904555510163289795:1=1:=rfl
theorem tw6243756691390347131:1=1:=rfl
theorem tw3410733825943408930:1=1:=rfl
theorem tw9842842206873327095:1=1:=rfl
theorem tw15553934739547976623:1=1:=rfl
theorem tw5274530047987059543:1=1:=rfl
theorem tw6960957094580595300:1=1:=rfl
theorem tw7610578088349411484:1=1:=rfl
theorem tw6014346776010253912:1=1:=rfl
theorem tw18086637873723008368:1=1:=rfl
theorem tw16477239792770407315:1=1:=rfl
theorem tw9881519428976552141:1=1:=rfl
theorem tw16939755672565352035:1=1:=rfl
theorem tw44470029187674397:1=1:=rfl
theorem tw11209231109225252378:1=1:=rfl
end PySem.W.Fast
theorem PySem.Challenge.cw_textkinds_k16_numbers_holds : PySem.Challenge.rw_textkinds_k16_numbers.Holds := by
 w_on;o_law;k_head;(case hw=>w_witness2)
 k_fill
 refine K16.walk (l:=PySem.Challenge.rw_textkinds_k16_numbers) rfl rfl (fun w h Y=>PySem.W.km_in_of Y) (fun w h Y=>PySem.W.km_tabs_of Y) ?F
 case F =>
  intro w mg fa h KX G kt
  refine' K16.Y8s KX G kt ?H0 ?H1 ?H2 ?H3 ?H4 ?H5 ?H6 ?H7 ?H8 ?H9 ?H10 ?H11 ?H12 ?H13 ?H14 ?H15 ?H16 ?H17 ?H18 ?H19 ?H20 ?H21 ?H22 ?z0 ?z1 ?z2 ?z3 ?z4 ?z5 ?z6 ?z7 ?z8 ?z9 ?z10 ?z11 ?z12 ?s0 ?ae0 ?qe0 ?ae1 ?qe1 ?ae2 ?qe2 ?ae3 ?qe3 ?ek0 ?ek1 ?ek2 ?ek3 ?ek4 ?ek5 ?ek6 ?ek7 ?ki_NoneSuch ?ki_NoGiven ?ki_NoSign ?ki_ValueError ?hsub
  (case H0=>(refine' Q7 ?_ ?_ ?_ ?_;any_goals k_is))
  (case H1=>(refine' Q7 ?_ ?_ ?_ ?_;any_goals k_is))
  (case H2=>(refine' W1u ?_ ?_ ?_ ?_ ?_;any_goals k_is))
  (case H3=>(refine' Q7 ?_ ?_ ?_ ?_;any_goals k_is))
  (case H4=>(refine' Q7 ?_ ?_ ?_ ?_;any_goals k_is))
  (case H5=>(refine' Y1n ?xa ?xl ?xc ?xk ?xq ?xp ?xh ?xn ?xm;(case xa=>k_is);(case xl=>k_is);(case xc=>k_is);(case xk=>k_is);(case xq=>k_is);(case xp=>rfl);(case xh=>kernel_rfl);(case xn=>kernel_rfl);(case xm=>decide)))
  (case H6=>(refine' Y1n ?xa ?xl ?xc ?xk ?xq ?xp ?xh ?xn ?xm;(case xa=>k_is);(case xl=>k_is);(case xc=>k_is);(case xk=>k_is);(case xq=>k_is);(case xp=>rfl);(case xh=>kernel_rfl);(case xn=>kernel_rfl);(case xm=>decide)))
  (case H7=>(refine' Q7 ?_ ?_ ?_ ?_;any_goals k_is))
  (case H8=>(refine' Q7 ?_ ?_ ?_ ?_;any_goals k_is))
  (case H9=>(refine' Q7 ?_ ?_ ?_ ?_;any_goals k_is))
  (case H10=>(refine' Q7 ?_ ?_ ?_ ?_;any_goals k_is))
  (case H11=>(refine' Q7 ?_ ?_ ?_ ?_;any_goals k_is))
  (case H12=>(refine' Q7 ?_ ?_ ?_ ?_;any_goals k_is))
  (case H13=>(refine' Q7 ?_ ?_ ?_ ?_;any_goals k_is))
  (case H14=>(refine' Q7 ?_ ?_ ?_ ?_;any_goals k_is))
  (case H15=>(refine' Q7 ?_ ?_ ?_ ?_;any_goals k_is))
  (case H16=>(refine' Q7 ?_ ?_ ?_ ?_;any_goals k_is))
  (case H17=>(refine' Q7 ?_ ?_ ?_ ?_;any_goals k_is))
  (case H18=>(refine' Q7 ?_ ?_ ?_ ?_;any_goals k_is))
  (case H19=>(refine' Q7 ?_ ?_ ?_ ?_;any_goals k_is))
  (case H20=>(refine' Q7 ?_ ?_ ?_ ?_;any_goals k_is))
  (case H21=>(refine' Q7 ?_ ?_ ?_ ?_;any_goals k_is))
  (case H22=>(refine' Q7 ?_ ?_ ?_ ?_;any_goals k_is))
  (case z0=>k_is)
  (case z1=>k_is)
  (case z2=>k_is)
  (case z3=>k_is)
  (case z4=>k_is)
  (case z5=>k_is)
  (case z6=>k_is)
  (case z7=>k_is)
  (case z8=>k_is)
  (case z9=>k_is)
  (case z10=>k_is)
  (case z11=>k_is)
  (case z12=>k_is)
  (case s0=>k_is)
  (case ae0=>k_is)
  (case qe0=>k_exc)
  (case ae1=>k_is)
  (case qe1=>k_exc)
  (case ae2=>k_is)
  (case qe2=>k_exc)
  (case ae3=>k_is)
  (case qe3=>k_exc)
  (case ek0=>k_is)
  (case ek1=>k_is)
  (case ek2=>k_is)
  (case ek3=>k_is)
  (case ek4=>k_is)
  (case ek5=>k_is)
  (case ek6=>k_is)
  (case ek7=>k_is)
  (case ki_NoneSuch=>first | kit_is | k_is | rfl)
  (case ki_NoGiven=>first | kit_is | k_is | rfl)
  (case ki_NoSign=>first | kit_is | k_is | rfl)
  (case ki_ValueError=>first | kit_is | k_is | rfl)
  (case hsub=>decide)
#print axioms PySem.Challenge.cw_textkinds_k16_numbers_holds