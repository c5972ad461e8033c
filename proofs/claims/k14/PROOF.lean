import PyProof.Rows.All
import Wide.All
import OpenK.AllK
import Wide.FinOn
import Lean
import PyProof.EqAt
import PyProof.EqKinds
import PyProof.TupleCall
import PyProof.WalkInts
import KE.KDictSum
import PyProof.Rows.SetFrom
import PyProof.Rows.SumAny
import PyProof.ListRange
import PySem.Challenge.RW_textkinds_k14_texts
set_option Elab.async false
set_option linter.all false
set_option maxRecDepth 100000
set_option maxHeartbeats 0
theorem aa:type_of% @PySem.wpAny_bind:=@PySem.wpAny_bind
theorem ab:type_of% @List.getElem?_eq_getElem:=@List.getElem?_eq_getElem
theorem af:type_of% @PySem.Heap.get?_push_of_some:=@PySem.Heap.get?_push_of_some
theorem ag:type_of% @List.length_map:=@List.length_map
theorem ah:type_of% @List.mem_map:=@List.mem_map
theorem ai:type_of% @List.mem_cons_of_mem:=@List.mem_cons_of_mem
theorem aj:type_of% @PySem.wpAny_pure:=@PySem.wpAny_pure
theorem ak:type_of% @List.getElem?_map:=@List.getElem?_map
theorem am:type_of% @List.mem_cons_self:=@List.mem_cons_self
theorem ao:type_of% @Nat.le_refl:=@Nat.le_refl
theorem aq:type_of% @List.length_append:=@List.length_append
theorem ar:type_of% @List.getD_eq_getElem?_getD:=@List.getD_eq_getElem?_getD
theorem au:type_of% @List.map_cons:=@List.map_cons
theorem av:type_of% @List.mem_cons:=@List.mem_cons
theorem aw:type_of% @List.getElem?_eq_none_iff:=@List.getElem?_eq_none_iff
theorem ax:type_of% @if_neg:=@if_neg
theorem ay:type_of% @PySem.Heap.lt_size:=@PySem.Heap.lt_size
theorem az:type_of% @Nat.lt_of_lt_of_le:=@Nat.lt_of_lt_of_le
theorem aA:type_of% @Option.some.inj:=@Option.some.inj
theorem aB:type_of% @List.length_cons:=@List.length_cons
theorem aC:type_of% @if_pos:=@if_pos
theorem aD:type_of% @Nat.ne_of_lt:=@Nat.ne_of_lt
theorem aE:type_of% @List.size_toArray:=@List.size_toArray
theorem aF:type_of% @List.mem_append_right:=@List.mem_append_right
theorem aG:type_of% @List.getElem?_eq_some_iff:=@List.getElem?_eq_some_iff
theorem aH:type_of% @PySem.Heap.get?_push_size:=@PySem.Heap.get?_push_size
theorem aI:type_of% @List.mem_singleton:=@List.mem_singleton
theorem aJ:type_of% @List.mem_of_getElem?:=@List.mem_of_getElem?
theorem aK:type_of% @List.getElem?_append_left:=@List.getElem?_append_left
theorem aL:type_of% @List.map_map:=@List.map_map
theorem aM:type_of% @List.mem_range:=@List.mem_range
theorem aN:type_of% @List.mem_append:=@List.mem_append
theorem aO:type_of% @List.not_mem_nil:=@List.not_mem_nil
theorem aP:type_of% @List.getElem?_set_ne:=@List.getElem?_set_ne
theorem aQ:type_of% @Bool.false_ne_true:=@Bool.false_ne_true
theorem aR:type_of% @PySem.PassesOwn.never:=@PySem.PassesOwn.never
theorem aS:type_of% @PySem.wpAny_mono:=@PySem.wpAny_mono
theorem aU:type_of% @List.getElem?_append_right:=@List.getElem?_append_right
theorem aV:type_of% @Nat.le_trans:=@Nat.le_trans
theorem aW:type_of% @Nat.lt_or_ge:=@Nat.lt_or_ge
theorem aX:type_of% @List.append_nil:=@List.append_nil
theorem aY:type_of% @List.map_append:=@List.map_append
theorem aZ:type_of% @Nat.lt_irrefl:=@Nat.lt_irrefl
theorem b7:type_of% @List.length_replicate:=@List.length_replicate
theorem b8:type_of% @List.length_range:=@List.length_range
theorem b9:type_of% @Int.toNat_natCast:=@Int.toNat_natCast
theorem ba:type_of% @List.mem_filter:=@List.mem_filter
theorem bb:type_of% @List.map_congr_left:=@List.map_congr_left
theorem bc:type_of% @List.length_nil:=@List.length_nil
theorem be:type_of% @decide_eq_true:=@decide_eq_true
theorem bf:type_of% @PySem.W.mg_none_of:=@PySem.W.mg_none_of
theorem bg:type_of% @decide_eq_false:=@decide_eq_false
theorem bh:type_of% @List.nodup_append:=@List.nodup_append
theorem bi:type_of% @Nat.zero_le:=@Nat.zero_le
theorem bj:type_of% @List.nodup_cons:=@List.nodup_cons
theorem bn:type_of% @List.find?_cons:=@List.find?_cons
theorem bo:type_of% @PySem.wpAny_Call_Name_kw:=@PySem.wpAny_Call_Name_kw
theorem bp:type_of% @List.mem_iff_getElem:=@List.mem_iff_getElem
theorem bq:type_of% @List.getElem?_set_self:=@List.getElem?_set_self
theorem br:type_of% @of_decide_eq_true:=@of_decide_eq_true
theorem bt:type_of% @PyProof.Rows.callWith_type1:=@PyProof.Rows.callWith_type1
theorem bu:type_of% @Nat.lt_succ_of_lt:=@Nat.lt_succ_of_lt
theorem bv:type_of% @List.flatMap_cons:=@List.flatMap_cons
theorem bz:type_of% @PySem.Heap.size_push:=@PySem.Heap.size_push
theorem bA:type_of% @PySem.wpAny_holding:=@PySem.wpAny_holding
theorem bD:type_of% @List.prefix_refl:=@List.prefix_refl
theorem bE:type_of% @List.mem_flatMap:=@List.mem_flatMap
theorem bF:type_of% @PySem.wpAny_newObj_type:=@PySem.wpAny_newObj_type
theorem bG:type_of% @Array.length_toList:=@Array.length_toList
theorem bI:type_of% @List.append_assoc:=@List.append_assoc
theorem bJ:type_of% @List.length_singleton:=@List.length_singleton
theorem bK:type_of% @PySem.W.kia_one:=@PySem.W.kia_one
theorem bL:type_of% @List.nil_append:=@List.nil_append
theorem bM:type_of% @PySem.wpAny_call_entry:=@PySem.wpAny_call_entry
theorem bO:type_of% @or_false:=@or_false
theorem bP:type_of% @List.mem_append_left:=@List.mem_append_left
theorem bQ:type_of% @List.length_take:=@List.length_take
theorem bR:type_of% @List.getElem_mem:=@List.getElem_mem
theorem bS:type_of% @PySem.wpAny_field:=@PySem.wpAny_field
theorem bT:type_of% @List.filter_eq_nil_iff:=@List.filter_eq_nil_iff
theorem bV:type_of% @PySem.mem_of_lookup:=@PySem.mem_of_lookup
theorem bW:type_of% @List.length_set:=@List.length_set
theorem bX:type_of% @PyProof.Rows.slot_tuple_getitem:=@PyProof.Rows.slot_tuple_getitem
theorem bY:type_of% @PySem.wpAny_callSpecial?_slot:=@PySem.wpAny_callSpecial?_slot
theorem c6:type_of% @List.getElem?_range:=@List.getElem?_range
theorem c7:type_of% @List.filter_cons:=@List.filter_cons
theorem c8:type_of% @PySem.F.called_set:=@PySem.F.called_set
theorem cf:type_of% @List.replicate_succ:=@List.replicate_succ
theorem cg:type_of% @PySem.wpAny_setField_rec:=@PySem.wpAny_setField_rec
theorem ci:type_of% @PySem.Obj.data_mapFields:=@PySem.Obj.data_mapFields
theorem cj:type_of% @List.length_eq_zero_iff:=@List.length_eq_zero_iff
theorem ck:type_of% @List.all_eq_true:=@List.all_eq_true
theorem cn:type_of% @List.take_append_of_le_length:=@List.take_append_of_le_length
theorem cq:type_of% @List.range_succ_eq_map:=@List.range_succ_eq_map
theorem cr:type_of% @PySem.wpAny_pyIter_enum:=@PySem.wpAny_pyIter_enum
theorem cw:type_of% @List.length_filter_le:=@List.length_filter_le
theorem cx:type_of% @List.filter_congr:=@List.filter_congr
theorem cz:type_of% @List.forall_mem_cons:=@List.forall_mem_cons
theorem cC:type_of% @Nat.lt_succ_self:=@Nat.lt_succ_self
theorem cD:type_of% @Nat.le_of_lt:=@Nat.le_of_lt
theorem cE:type_of% @beq_eq_false_iff_ne:=@beq_eq_false_iff_ne
theorem cF:type_of% @List.sum_cons:=@List.sum_cons
theorem cL:type_of% @List.forIn_cons:=@List.forIn_cons
theorem cM:type_of% @List.filter_map:=@List.filter_map
theorem cN:type_of% @List.prefix_append:=@List.prefix_append
theorem cO:type_of% @Bool.false_eq_true:=@Bool.false_eq_true
theorem cW:type_of% @PySem.wpAny_seqItems:=@PySem.wpAny_seqItems
theorem cX:type_of% @List.map_nil:=@List.map_nil
theorem cY:type_of% @List.flatten_cons:=@List.flatten_cons
theorem dh:type_of% @List.zipIdx_cons:=@List.zipIdx_cons
theorem di:type_of% @PySem.Heap.SameBut.update:=@PySem.Heap.SameBut.update
theorem dj:type_of% @Bool.and_eq_true:=@Bool.and_eq_true
theorem dn:type_of% @Nat.le_succ:=@Nat.le_succ
theorem dz:type_of% @PySem.wpAny_passesOwn:=@PySem.wpAny_passesOwn
theorem dG:type_of% @Ne.symm:=@Ne.symm
theorem dH:type_of% @Nat.zero_add:=@Nat.zero_add
theorem dX:type_of% @PySem.wpAny_setState_of:=@PySem.wpAny_setState_of
theorem dY:type_of% @if_false:=@if_false
theorem dZ:type_of% @Nat.eq_zero_or_pos:=@Nat.eq_zero_or_pos
theorem e6:type_of% @Int.emod_lt_of_pos:=@Int.emod_lt_of_pos
theorem eJ:type_of% @List.drop_eq_getElem_cons:=@List.drop_eq_getElem_cons
theorem eK:type_of% @Classical.byContradiction:=@Classical.byContradiction
theorem eU:type_of% @PySem.Heap.get?_update_self:=@PySem.Heap.get?_update_self
theorem ft:type_of% @PySem.wpAny_standAt:=@PySem.wpAny_standAt
theorem fH:type_of% @PySem.sizeLine_eq:=@PySem.sizeLine_eq
theorem fI:type_of% @PySem.F.plainAttrs_list:=@PySem.F.plainAttrs_list
theorem fJ:type_of% @Nat.succ_ne_self:=@Nat.succ_ne_self
theorem gj:type_of% @if_true:=@if_true
theorem gk:type_of% @List.take_of_length_le:=@List.take_of_length_le
theorem gm:type_of% @List.map_id':=@List.map_id'
theorem gG:type_of% @List.range_succ:=@List.range_succ
theorem gH:type_of% @Int.emod_nonneg:=@Int.emod_nonneg
theorem i4:type_of% @Array.getElem?_toList:=@Array.getElem?_toList
theorem j5:type_of% @PySem.F.slot_tuple_iterator_next:=@PySem.F.slot_tuple_iterator_next
theorem ku:type_of% @PyProof.Rows.F.plain_set_update_loop:=@PyProof.Rows.F.plain_set_update_loop
theorem kw:type_of% @List.getElem_of_mem:=@List.getElem_of_mem
theorem ky:type_of% @List.filter_eq_self:=@List.filter_eq_self
noncomputable abbrev Fg9 := PySem.W.Frag
noncomputable abbrev Pn9 := List (PySem.Addr×PySem.Obj)
noncomputable abbrev VS9 := PySem.Value->PySem.Shared->Prop
section
namespace L2
open PySem PySem.Spec PyProof.Rows
noncomputable abbrev B3:=Sum Int Str
noncomputable def Q4p:B3->Value->Bool
 | .inl k,v=>Value.isInt k v
 | .inr x,v=>Value.isStrOf x v
noncomputable def keyH (w:World):B3->Int
 | .inl k=>hashInt k
 | .inr x=>hashStr w x
theorem Q1i:∀{k:B3}{v:Value},Q4p k v=true->(∃i t,k=Sum.inl i/\v=Value.int i t)\/(∃x t,k=Sum.inr x/\v=Value.str x t)
 | .inl i,v,h=>by
  obtain⟨t,e⟩:=Value.isInt_shape (k:=i) (v:=v) h
  exact .inl ⟨i,t,rfl,e⟩
 | .inr x,v,h=>by
  obtain⟨t,e⟩:=Value.isStrOf_shape (x:=x) (v:=v) h
  exact .inr ⟨x,t,rfl,e⟩
theorem W0v (i:Int) (t:Tok):Q4p (.inl i) (.int i t)=true:=by simp [Q4p,Value.isInt]
theorem W0w (x:Str) (t:Tok):Q4p (.inr x) (.str x t)=true:=by simp [Q4p,Value.isStrOf]
theorem W0x (a b:Int):decide ((Sum.inl a:B3)=Sum.inl b)=(a==b):=by
 by_cases e:a=b
 ·subst e;simp
 ·have h:¬ (Sum.inl a:B3)=Sum.inl b:=fun q=>e (Sum.inl.inj q)
  rw [bg h]
  exact(cE.mpr e).symm
theorem W1a (a b:Str):decide ((Sum.inr a:B3)=Sum.inr b)=decide (a=b):=by
 by_cases e:a=b
 ·subst e;simp
 ·have h:¬ (Sum.inr a:B3)=Sum.inr b:=fun q=>e (Sum.inr.inj q)
  rw [bg h,bg e]
theorem W0y (a:Int) (b:Str):decide ((Sum.inl a:B3)=Sum.inr b)=false:=bg (fun q=>nomatch q)
theorem W0z (a:Str) (b:Int):decide ((Sum.inr a:B3)=Sum.inl b)=false:=bg (fun q=>nomatch q)
noncomputable def M3 (prog:Program) (w:World):PySem.KeyKind prog w B3 where
 is:=Q4p
 hash:=keyH w
 inj:=fun v a b ha hb=>by
  rcases Q1i ha with⟨i,t,rfl,rfl⟩ | ⟨x,t,rfl,rfl⟩
  ·rcases Q1i hb with⟨j,u,rfl,e⟩ | ⟨y,u,rfl,e⟩
   ·injection e with e1 _;rw [e1]
   ·exact nomatch e
  ·rcases Q1i hb with⟨j,u,rfl,e⟩ | ⟨y,u,rfl,e⟩
   ·exact nomatch e
   ·injection e with e1 _;rw [e1]
 byValue:=fun k v h=>by
  rcases Q1i h with⟨i,t,rfl,rfl⟩ | ⟨x,t,rfl,rfl⟩ <;> rfl
 pyHash:=fun hv h=>by
  rcases Q1i hv with⟨i,t,rfl,rfl⟩ | ⟨x,t,rfl,rfl⟩
  ·exact wpAny_pyHash_int h
  ·exact wpAny_pyHash_str h
 eqBool:=fun hu hv h=>by
  rcases Q1i hu with⟨i,t,rfl,rfl⟩ | ⟨x,t,rfl,rfl⟩
  ·rcases Q1i hv with⟨j,u,rfl,rfl⟩ | ⟨y,u,rfl,rfl⟩
   ·rw [W0x]at h;exact wpAny_eqBool_int h
   ·rw [W0y]at h;exact SeqAt.EqAt.int_str i t y u _ _ _ _ h
  ·rcases Q1i hv with⟨j,u,rfl,rfl⟩ | ⟨y,u,rfl,rfl⟩
   ·rw [W0z]at h;exact SeqAt.EqAt.str_int x t j u _ _ _ _ h
   ·rw [W1a]at h;exact wpAny_eqBool_str h
 «strs»:=fun k x t v h=>by
  rcases Q1i h with⟨i,u,rfl,e⟩ | ⟨y,u,rfl,e⟩
  ·exact nomatch e
  ·injection e with e1 _
   subst e1
   cases v <;> rfl
theorem W2j (prog:Program) (w:World) (i:Int) (t:Tok):(M3 prog w).is (.inl i) (.int i t)=true:=W0v i t
theorem W2k (prog:Program) (w:World) (x:Str) (t:Tok):(M3 prog w).is (.inr x) (.str x t)=true:=W0w x t
end L2
namespace L2
open PySem PySem.Spec PyProof.Rows
inductive V where
 | non | bl (b:Bool) | int (i:Int) | str (x:Str) | byt (b:Array UInt8) | flt (b:UInt64) | ref (a:Addr) | ty (n:String)
 deriving DecidableEq
noncomputable def C3:V->Value->Prop
 | .non,u=>u=Value.none
 | .bl b,u=>u=Value.bool b
 | .int i,u=>∃t,u=Value.int i t
 | .str x,u=>∃t,u=Value.str x t
 | .byt b,u=>∃t,u=Value.bytes b t
 | .flt b,u=>∃t,u=Value.float b t
 | .ref a,u=>u=Value.ref a
 | .ty n,u=>u=Value.type n
noncomputable abbrev B7:List V->List Value->Prop:=Paired C3
theorem B7.length {xs:List V}{us:List Value} (r:B7 xs us):xs.length=us.length:=Paired.length r
theorem B7.get:∀{xs:List V}{us:List Value}{i:Nat}{x:V},B7 xs us->xs[i]?=some x->∃u,us[i]?=some u/\C3 x u
 | _,_,_,_,.nil,e=>by simp at e
 | _,_,0,_,.cons r _,e=>by simp at e;subst e;exact⟨_,rfl,r⟩
 | _,_,i+1,x,.cons _ t,e=>by
  obtain⟨u,h1,h2⟩:=B7.get (i:=i) (x:=x) t (by simpa using e)
  exact⟨u,by simpa using h1,h2⟩
theorem B7.set {x:V}{u:Value} (r:C3 x u):∀{xs:List V}{us:List Value} (i:Nat),B7 xs us->B7 (xs.set i x) (us.set i u)
 | _,_,_,.nil=>.nil
 | _,_,0,.cons _ t=>.cons r t
 | _,_,i+1,.cons q t=>.cons q (B7.set r i t)
theorem B7.append:∀{xs ys:List V}{us ws:List Value},B7 xs us->B7 ys ws->B7 (xs++ys) (us++ws)
 | _,_,_,_,.nil,s=>s
 | _,_,_,_,.cons r t,s=>.cons r (B7.append t s)
theorem B7.take:∀{xs:List V}{us:List Value} (n:Nat),B7 xs us->B7 (xs.take n) (us.take n)
 | _,_,0,_=>.nil
 | _,_,_+1,.nil=>.nil
 | _,_,n+1,.cons r t=>.cons r (B7.take n t)
theorem B7.drop:∀{xs:List V}{us:List Value} (n:Nat),B7 xs us->B7 (xs.drop n) (us.drop n)
 | _,_,0,r=>r
 | _,_,_+1,.nil=>.nil
 | _,_,n+1,.cons _ t=>B7.drop n t
noncomputable def Y2:Option V->Option Value->Prop
 | some v,some u=>C3 v u
 | none,none=>True
 | _,_=>False
noncomputable def KV {κ:Type}:List (κ×V)->List (κ×Value)->Prop:=Paired fun(p:κ×V) (q:κ×Value)=>p.1=q.1/\C3 p.2 q.2
noncomputable def kV:B3->V
 | .inl i=>.int i
 | .inr x=>.str x
inductive HO where
 | lst (xs:List V)
 | tup (xs:List V)
 | dK (kvs:List (B3×V)) | dT (kvs:List (List B3×V))
 | set (S:Int->Bool) (n:Nat)
 | ins (C dx:Addr) (fs:List (Str×V))
 | own (x:Addr)
 | xd (fs:List (Str×V))
 | met (f x:Addr)
 | rng (lo hi:Int)
 | frz (o:Obj) (u:HO)
 | tab
 | tbl (ps:Array Value)
 | ext (φ:Heap->Prop)
noncomputable abbrev Hp:=Addr->Option HO
noncomputable def upd (H:Hp) (a:Addr) (o:HO):Hp:=fun b=>if b=a then some o else H b
theorem upd_same {H:Hp}{a:Addr}{o:HO}:upd H a o a=some o:=by unfold upd;rw [aC rfl]
theorem B6 {H:Hp}{a b:Addr}{o:HO} (h:b≠a):upd H a o b=H b:=by unfold upd;rw [ax h]
theorem Q0s {H:Hp}{a b:Addr}{o u:HO} (h:H a=some o) (h':H b=some u) (d:o≠u):a≠b:=by
 intro e;subst e;rw [h]at h';exact d (aA h')
theorem Y6 {H:Hp}{a b:Addr}{o:HO} (h:H a=some o) (h':H b=none):a≠b:=by
 intro e;subst e;rw [h]at h';cases h'
def Q3z (o:Obj):Prop:=∃vs q t,o.data=.fields vs/\vs[1]?=some (Value.str q t)
def Z0y (a:Addr) (u:HO):Prop:=u=.own a\/∃o,u=.frz o (.own a)
section
variable (P:Program) (w:World)
noncomputable def K4 (H:Hp) (h:Heap) (a:Addr):HO->Prop
 | .lst xs=>xs.length<=sizeLine/\∃(aT:List Value) (n:Nat),B7 xs aT/\h.get? a=some { cls:=.type "list",data:=.seq aT.toArray n }
 | .tup xs=>xs.length<=sizeLine/\∃aT:List Value,B7 xs aT/\IsTup h a aT.toArray
 | .dK kvs=>kvs.length<=sizeLine/\(a==sysModules)=false/\∃vs,KV kvs vs/\h.DictOf (M3 P w) a vs
 | .dT kvs=>kvs.length<=sizeLine/\(a==sysModules)=false/\∃xs:List (List B3×Addr×Value),
   Paired (fun(p:List B3×V) (q:List B3×Addr×Value)=>p.1=q.1/\H q.2.1=some (.tup (p.1.map kV))/\C3 p.2 q.2.2) kvs xs /\
   ∃o es ep,h.get? a=some o/\o.ExactDict/\o.data=.dict es ep/\es.toList=xs.map (entryOfKey (tupleKind (M3 P w)))/\(xs.map (·.1)).Nodup
 | .set S n=>h.SetOf (intKind P w) a S n
 | .ins C dx fs=>H dx=some (.own a)/\fs.length<=1000/\dx≠a/\h.get? a=some (PySem.W.instObj C dx) /\
   ∃mA,h.Ns1 dx mA/\(∀f,Y2 (fs.lookup f) (mA f))/\PySem.Within mA (fs.map (·.1))
 | .own _=>∃o,h.get? a=some o
 | .xd fs=>∃mA,h.Ns1 a mA/\∀f,Y2 (fs.lookup f) (mA f)
 | .rng lo hi=>∃t u v,h.get? a=some { cls:=.type "range",data:=.fields #[.int lo t,.int hi u,.int 1 v] }
 | .frz o u=>h.get? a=some o/\K4 H h a u
 | .tab=>∃ps,h.get? a=some (PySem.W.tabObj ps)/\TriplesOk ps.toList/\∀pos cv,codeAmong pos ps.toList=some cv->∃c' oc,cv=.ref c'/\H c'=some (.frz oc (.own a))/\Q3z oc
 | .tbl ps=>h.get? a=some { cls:=.none,data:=.fields ps }
 | .met f x=>h.get? a=some (PySem.W.methodObj (.ref f) (.ref x))
 | .ext φ=>φ h/\(∃o,h.get? a=some o)/\∀h1 h2:Heap,φ h1->(∀o,h1.get? a=some o->h2.get? a=some o)->φ h2
def J1 (H:Hp) (h:Heap):Prop:=∀a o,H a=some o->K4 P w H h a o
end
section
variable {P:Program}{w:World}{H H':Hp}{h h':Heap}{a:Addr}{o:HO}
theorem K4.lt (x:K4 P w H h a o):a<h.objs.size:=by
 cases o with
 | lst xs=>obtain⟨_,_,_,_,e⟩:=x;exact ay e
 | tup xs=>obtain⟨_,_,_,p⟩:=x;exact p.lt
 | dK kvs=>obtain⟨_,_,_,_,o,_,_,e,_⟩:=x;exact ay e
 | dT kvs=>obtain⟨_,_,_,_,o,_,_,e,_⟩:=x;exact ay e
 | set S n=>obtain⟨o,_,_,_,e,_⟩:=x;exact ay e
 | ins C dx fs=>obtain⟨_,_,_,e,_⟩:=x;exact ay e
 | own y=>obtain⟨_,e⟩:=x;exact ay e
 | xd fs=>obtain⟨_,⟨_,_,_,e,_⟩,_⟩:=x;exact ay e
 | rng lo hi=>obtain⟨_,_,_,e⟩:=x;exact ay e
 | frz ob u=>obtain⟨e,_⟩:=x;exact ay e
 | tab=>obtain⟨_,e,_⟩:=x;exact ay e
 | tbl ps=>exact ay (show h.get? a=some _ from x)
 | met f y=>exact ay (show h.get? a=some _ from x)
 | ext φ=>obtain⟨_,⟨_,e⟩,_⟩:=x;exact ay e
theorem Paired.mapP {α β:Type}{F G:α->β->Prop}:∀{l₁:List α}{l₂:List β},Paired F l₁ l₂->(∀a b,F a b->G a b)->Paired G l₁ l₂
 | _,_,.nil,_=>.nil
 | _,_,.cons r t,f=>.cons (f _ _ r) (Paired.mapP t f)
theorem K4.stay (x:K4 P w H h a o) (k:∀b u,(b=a\/H b=some (.own a))->h.get? b=some u->h'.get? b=some u)
  (ho:∀b u,Z0y a u->H b=some u->H' b=some u) (ht:∀b xs,H b=some (.tup xs)->H' b=some (.tup xs)):K4 P w H' h' a o:=by
 induction o with
 | lst xs=>obtain⟨z,aT,n,r,e⟩:=x;exact⟨z,aT,n,r,k _ _ (.inl rfl) e⟩
 | tup xs=>obtain⟨z,aT,r,ob,e,c⟩:=x;exact⟨z,aT,r,ob,k _ _ (.inl rfl) e,c⟩
 | dK kvs=>obtain⟨z,y,vs,r,ob,es,ep,e,c⟩:=x;exact⟨z,y,vs,r,ob,es,ep,k _ _ (.inl rfl) e,c⟩
 | dT kvs =>
  obtain⟨z,y,xs,r,ob,es,ep,e,c⟩:=x
  exact⟨z,y,xs,Paired.mapP r fun p q z=>⟨z.1,ht _ _ z.2.1,z.2.2⟩,ob,es,ep,k _ _ (.inl rfl) e,c⟩
 | set S n=>obtain⟨ob,es,ep,t,e,c⟩:=x;exact⟨ob,es,ep,t,k _ _ (.inl rfl) e,c⟩
 | ins C dx fs =>
  obtain⟨d,z,ne,e,mA,⟨od,es,ep,e2,c⟩,r⟩:=x
  exact⟨ho _ _ (.inl rfl) d,z,ne,k _ _ (.inl rfl) e,mA,⟨od,es,ep,k _ _ (.inr d) e2,c⟩,r⟩
 | own y=>obtain⟨ob,e⟩:=x;exact⟨ob,k _ _ (.inl rfl) e⟩
 | xd fs=>obtain⟨mA,⟨od,es,ep,e,c⟩,r⟩:=x;exact⟨mA,⟨od,es,ep,k _ _ (.inl rfl) e,c⟩,r⟩
 | rng lo hi=>obtain⟨t,u,v,e⟩:=x;exact⟨t,u,v,k _ _ (.inl rfl) e⟩
 | frz ob u ih=>obtain⟨e,q⟩:=x;exact⟨k _ _ (.inl rfl) e,ih q⟩
 | tab =>
  obtain⟨ps,e,t,en⟩:=x
  exact⟨ps,k _ _ (.inl rfl) e,t,fun pos cv q=>let ⟨c',oc,e1,e2,e3⟩:=en pos cv q;⟨c',oc,e1,ho _ _ (.inr ⟨_,rfl⟩) e2,e3⟩⟩
 | tbl ps =>
  have e:h.get? a=some { cls:=.none,data:=.fields ps }:=x
  show h'.get? a=some { cls:=.none,data:=.fields ps }
  exact k a _ (.inl rfl) e
 | met f y =>
  have e:h.get? a=some (PySem.W.methodObj (.ref f) (.ref y)):=x
  show h'.get? a=some (PySem.W.methodObj (.ref f) (.ref y))
  exact k a _ (.inl rfl) e
 | ext φ=>obtain⟨p,⟨o,e⟩,st⟩:=x;exact⟨st _ _ p fun o q=>k _ _ (.inl rfl) q,⟨o,k _ _ (.inl rfl) e⟩,st⟩
theorem J1.lt (x:J1 P w H h) (e:H a=some o):a<h.objs.size:=(x a o e).lt
theorem J1.fresh (x:J1 P w H h) (e:h.objs.size<=a):H a=none:=by
 cases q:H a with
 | none=>rfl
 | some u=>exact absurd (az (x.lt q) e) (aZ _)
theorem J1.kept (x:J1 P w H h) (k:∀b u,h.get? b=some u->h'.get? b=some u):J1 P w H h':=fun a o e =>
 (x a o e).stay (fun b u _ q=>k b u q) (fun _ _ _ q=>q) fun _ _ q=>q
theorem J1.laid (x:J1 P w H h) (k:∀b u,h.get? b=some u->h'.get? b=some u) (hp:h.objs.size<=a) (new:K4 P w (upd H a o) h' a o):J1 P w (upd H a o) h':=fun b u e=>by
 have hn:=x.fresh hp
 by_cases hb:b=a
 ·subst hb;rw [upd_same]at e;cases e;exact new
 ·rw [B6 hb]at e
  exact(x b u e).stay (fun c v _ q=>k c v q) (fun c u _ q=>by rw [B6 (Y6 q hn)];exact q) fun c xs q=>by rw [B6 (Y6 q hn)];exact q
end
def Rd (H:Hp) (a:Addr) (u:HO):Prop:=H a=some u\/∃o,H a=some (.frz o u)
theorem Rd.ok {P:Program}{w:World}{H:Hp}{h:Heap}{a:Addr}{u:HO} (r:Rd H a u) (x:J1 P w H h):K4 P w H h a u:=by
 rcases r with r | ⟨o,r⟩
 ·exact x a u r
 ·obtain⟨_,q⟩:=x a _ r
  exact q
noncomputable def Mut:Option HO->Prop
 | some (.lst _)=>True
 | some (.dK _)=>True
 | some (.dT _)=>True
 | some (.set _ _)=>True
 | some (.ins _ _ _)=>True
 | some (.ext _)=>True
 | some .tab=>True
 | _=>False
section
variable {P:Program}{w:World}{H:Hp}{h h':Heap}{x e:Addr}{o':HO}
theorem J1.write (ok:J1 P w H h) (mu:Mut (H x)) (he:e=x\/H e=some (.own x)) (k:∀b u,b≠e->h.get? b=some u->h'.get? b=some u) (iZ:∃u,h'.get? e=some u)
  (new:K4 P w (upd H x o') h' x o'):J1 P w (upd H x o') h':=fun b u q=>by
 have kN:∀c y,H c=some (.own y)->c≠x:=fun c y r z=>by subst z;rw [r]at mu;exact mu
 have jf:∀c u y,Z0y y u->H c=some u->c≠x:=fun c u y ow r z=>by
  subst z
  rw [r]at mu
  rcases ow with rfl | ⟨o,rfl⟩
  ·exact mu
  ·exact mu
 have kM:∀c xs,H c=some (.tup xs)->c≠x:=fun c xs r z=>by subst z;rw [r]at mu;exact mu
 by_cases hb:b=x
 ·subst hb;rw [upd_same]at q;cases q;exact new
 ·rw [B6 hb]at q
  by_cases hbe:b=e
  ·have q':H b=some (.own x):=by
    rcases he with z | z
    ·exact absurd (hbe.trans z) hb
    ·rw [hbe];exact z
   rw [q]at q';cases q'
   obtain⟨v,hv⟩:=iZ
   exact⟨v,by rw [hbe];exact hv⟩
  ·refine(ok b u q).stay (fun c v hc r=>k c v ?_ r) (fun c u ow r=>by rw [B6 (jf c u b ow r)];exact r) fun c xs r=>by rw [B6 (kM c xs r)];exact r
   rcases hc with rfl | hc
   ·exact hbe
   ·rintro rfl
    rcases he with z | z
    ·exact kN c b hc z
    ·rw [hc]at z;cases z;exact hb rfl
end
structure Un (fs ex:List Addr) (H H':Hp) (h h':Heap):Prop where
 keep:∀b o,h.get? b=some o->H b=none->b∉fs->b∉ex->h'.get? b=some o
 slot:∀b o,h.get? b=some o->H b=none->b∈fs->b∉ex->∃sl,h'.get? b=some { o with slots:=sl }
 free:∀b o,h.get? b=some o->H b=none->b∉ex->H' b=none
 there:∀b o,h.get? b=some o->b∉ex->∃o',h'.get? b=some o'
 tups:∀b xs,H b=some (.tup xs)->H' b=some (.tup xs)
 frzs:∀b o u,H b=some (.frz o u)->H' b=some (.frz o u)
 tbls:∀b ps,H b=some (.tbl ps)->∃more,H' b=some (.tbl (ps++more))
section
variable {fs qf ex qK:List Addr}{H H1 H2:Hp}{h h1 h2 h':Heap}{a x e:Addr}{o:HO}
theorem Un.any (u:Un fs ex H H1 h h1) {b:Addr}{ob:Obj} (q:h.get? b=some ob) (n:H b=none) (hx:b∉ex):∃sl,h1.get? b=some { ob with slots:=sl }:=by
 by_cases hb:b∈fs
 ·exact u.slot b ob q n hb hx
 ·exact⟨ob.slots,u.keep b ob q n hb hx⟩
theorem Un.kept (k:∀b u,h.get? b=some u->h'.get? b=some u):Un fs ex H H h h' :=
 ⟨fun b ob q _ _ _=>k b ob q,fun b ob q _ _ _=>⟨ob.slots,k b ob q⟩,fun _ _ _ n _=>n,fun b ob q _=>⟨ob,k b ob q⟩,fun _ _ q=>q,fun _ _ _ q=>q,fun _ ps q=>⟨#[],by rw [q];simp⟩⟩
theorem Un.refl:Un fs ex H H h h:=Un.kept fun _ _ q=>q
theorem Un.laid (k:∀b u,h.get? b=some u->h'.get? b=some u) (hp:h.objs.size<=a) (hn:H a=none):Un fs ex H (upd H a o) h h' where
 keep:=fun b u q _ _ _=>k b u q
 slot:=fun b u q _ _ _=>⟨u.slots,k b u q⟩
 free:=fun b u q n _=>by rw [B6 (aD (az (ay q) hp))];exact n
 there:=fun b u q _=>⟨u,k b u q⟩
 tups:=fun b xs q=>by rw [B6 (Y6 q hn)];exact q
 frzs:=fun b u xs q=>by rw [B6 (Y6 q hn)];exact q
 tbls:=fun b ps q=>⟨#[],by rw [B6 (Y6 q hn),q];simp⟩
theorem Un.write (mu:Mut (H x)) (he:e=x\/H e=some (.own x)) (k:∀b u,b≠e->h.get? b=some u->h'.get? b=some u) (iZ:∃u,h'.get? e=some u):Un fs ex H (upd H x o) h h':=by
 have hx:∀b,H b=none->b≠x:=fun b n z=>by subst z;rw [n]at mu;exact mu
 have hb:∀b,H b=none->b≠e:=fun b n z=>by
  subst z
  rcases he with r | r
  ·exact hx b n r
  ·rw [n]at r;cases r
 have hm:∀b u,H b=some u->¬ Mut (some u)->b≠x:=fun b u q nm z=>by subst z;rw [q]at mu;exact nm mu
 refine⟨fun b u q n _ _=>k b u (hb b n) q,fun b u q n _ _=>⟨u.slots,k b u (hb b n) q⟩,fun b u q n _=>by rw [B6 (hx b n)];exact n,fun b u q _=>?_,
  fun b xs q=>by rw [B6 (hm b _ q fun z=>z)];exact q,fun b u xs q=>by rw [B6 (hm b _ q fun z=>z)];exact q,fun b ps q=>⟨#[],by rw [B6 (hm b _ q fun z=>z),q];simp⟩⟩
 by_cases hbe:b=e
 ·subst hbe;exact iZ
 ·exact⟨u,k b u hbe q⟩
end
noncomputable def trk (h:Heap) (H:Hp):List Addr:=(List.range h.objs.size).filter fun a=>(H a).isSome
noncomputable def Q1g (h:Heap) (H:Hp):Heap:=PySem.W.hideAll h (trk h H)
theorem Y9o (h:Heap) (H:Hp):(Q1g h H).objs.size=h.objs.size:=PySem.W.hideAll_size _ _
theorem Y9n {h:Heap}{H:Hp}{b:Addr}{o:Obj} (e:h.get? b=some o) (n:H b=none):(Q1g h H).get? b=some o :=
 PySem.W.hideAll_get _ e fun hm=>by
  have q:(H b).isSome=true:=(ba.mp hm).2
  rw [n]at q;simp at q
theorem W3o {h:Heap}{H:Hp}{b:Addr}{o:Obj} (e:(Q1g h H).get? b=some o):h.get? b=some o/\H b=none:=by
 have e':h.get? b=some o:=PySem.W.of_hideAll (trk h H) e
 refine⟨e',?_⟩
 cases q:H b with
 | none=>rfl
 | some x =>
  have hm:b∈trk h H:=ba.mpr ⟨aM.mpr (ay e'),by simp [q]⟩
  have z:(Q1g h H).get? b=none:=PySem.W.hideAll_none (trk h H) hm
  rw [z]at e;cases e
end L2
namespace L2
open PySem PySem.Spec PyProof.Rows
structure Mod (K:Fg9) (mg:Str->Option Value) (base:Heap):Prop where
 kin:K.In base
 glob:base.Ns mainGlobals mg
 blt:∃mb,base.Ns builtinsNs mb/\∀x:Str,x≠"__name__"->mb x=bootBuiltins x
 nolimit:base.NoLimit
structure Cx where
 prog:Program
 w:World
 K:Fg9
 mg:Str->Option Value
 base:Heap
 A:Around
 N:List Str
 s₀:Shared
 H₀:Hp
 env:Env
 outer:List Env
 stack:List Env
 ex:List Addr
 fn:Str->Bool
 calm:Bool
 pn:Pn9
 xe:VS9
noncomputable def frs (l:List Env):List Addr:=l.filterMap (·.frame)
noncomputable abbrev Cx.fs (X:Cx):List Addr:=frs X.outer
def Vis (sc:Scope) (x:Str):Prop:=sc.names.lookup x=some .local\/sc.names.lookup x=some .cell\/sc.names.lookup x=some .free
def Loc (sc:Scope) (x:Str):Prop:=sc.names.lookup x=some .local\/sc.names.lookup x=some .cell
def Look (env:Env) (h:Heap) (m:Str->Option Value) (x:Str) (u:Value):Prop :=
 (env.kindOf x=some .local/\m x=some u)\/((env.kindOf x=some .cell\/env.kindOf x=some .free)/\∃c,env.cells.lookup x=some c/\h.IsCell c (some u))
structure Cx.Ok (X:Cx):Prop where
 mod:Mod X.K X.mg X.base
 kind:X.env.scope.kind=.function
 glob:X.env.globals=mainGlobals
 blt:X.env.builtins=builtinsNs
 above:X.s₀.heap.objs.size<=X.env.locals
 inj:∀x y c,X.env.cells.lookup x=some c->X.env.cells.lookup y=some c->x=y
 has:∀x,(X.env.kindOf x=some .cell\/X.env.kindOf x=some .free)->∃c,X.env.cells.lookup x=some c
 cab:∀x c,X.fn x=true->X.env.cells.lookup x=some c->X.s₀.heap.objs.size<=c
 hd:X.calm=true->X.A.handled=none
 frames:X.A.frames=some X.stack
 stk:X.stack=X.outer\/(X.stack=X.env::X.outer/\X.env.frame=some X.env.locals)
 exf:∀b∈X.ex,b≠X.env.locals/\∀x c,X.env.cells.lookup x=some c->c≠b
 bs:∀b o,X.base.get? b=some o->X.s₀.heap.get? b=some o/\X.H₀ b=none
 bsz:X.base.objs.size<=X.s₀.heap.objs.size
 noex:∀b o,X.base.get? b=some o->b∉X.ex
 exfs:∀b∈X.ex,b∉X.fs
 funs:X.s₀.heap.FunFrames X.base X.outer
 frf:∀b∈X.fs,X.H₀ b=none
structure A0 (X:Cx) (ae:Pn9) (σ:List (Option V)) (H:Hp) (s:Shared):Prop where
 ok:X.Ok
 os:s.os=X.s₀.os
 bare:AllBare s.gens
 base:Un X.fs X.ex X.H₀ H X.s₀.heap s.heap
 loc:∃m,s.heap.Ns X.env.locals m/\∀(i:Nat) (x:Str) (v:V),X.N[i]?=some x->σ[i]?=some (some v)->Vis X.env.scope x->∃u,C3 v u/\Look X.env s.heap m x u
 cell:∀x c,X.env.cells.lookup x=some c->∃v,s.heap.IsCell c v
 free:H X.env.locals=none
 freeC:∀x c,X.env.cells.lookup x=some c->H c=none
 pin:∀p∈X.pn++ae,s.heap.get? p.1=some p.2/\H p.1=none/\p.1≠X.env.locals/\p.1∉X.fs/\∀v,p.2.data≠.cell v
 hok:J1 X.prog X.w H s.heap
 len:σ.length=X.N.length
section
variable {X:Cx}{ae:Pn9} {σ:List (Option V)}{H H':Hp}{s:Shared}{h':Heap}
theorem Cx.Ok.nofr (ok:X.Ok) {b:Addr}{o:Obj} (e:X.base.get? b=some o):b∉X.fs:=fun hb=>by
 have:=(ok.funs.mem hb).1
 rw [e]at this;cases this
theorem A0.bs (I:A0 X ae σ H s):∀b o,X.base.get? b=some o->s.heap.get? b=some o/\H b=none:=fun b o e =>
 ⟨I.base.keep b o (I.ok.bs b o e).1 (I.ok.bs b o e).2 (I.ok.nofr e) (I.ok.noex b o e),I.base.free b o (I.ok.bs b o e).1 (I.ok.bs b o e).2 (I.ok.noex b o e)⟩
theorem A0.bk (I:A0 X ae σ H s):∀b o,X.base.get? b=some o->s.heap.get? b=some o:=fun b o e=>(I.bs b o e).1
theorem A0.mod (I:A0 X ae σ H s):Mod X.K X.mg X.base:=I.ok.mod
theorem A0.kIn (I:A0 X ae σ H s):X.K.In s.heap:=I.ok.mod.kin.keeps I.bk
theorem A0.lt (I:A0 X ae σ H s):X.env.locals<s.heap.objs.size:=let ⟨_,hn,_⟩:=I.loc;hn.lt
theorem A0.sz (I:A0 X ae σ H s):X.s₀.heap.objs.size<=s.heap.objs.size:=aV I.ok.above (cD I.lt)
theorem A0.nofs (I:A0 X ae σ H s) {a:Addr} (h:s.heap.objs.size<=a):a∉X.fs:=fun hb=>by
 obtain⟨_,o,ho,_⟩:=I.ok.funs.mem hb
 exact absurd (az (ay ho) (aV I.sz h)) (aZ _)
theorem A0.cne (I:A0 X ae σ H s):∀x c,X.env.cells.lookup x=some c->c≠X.env.locals:=fun x c e z=>by
 obtain⟨v,o,ho,hd⟩:=I.cell x c e
 obtain⟨m,⟨o',es,ep,ij,pM,_⟩,_⟩:=I.loc
 rw [z,ij]at ho;cases ho;rw [pM]at hd;cases hd
theorem A0.funs (I:A0 X ae σ H s):s.heap.FunFrames X.base X.outer:=by
 have all:∀(l:List Env),(∀b∈frs l,b∈X.fs)->X.s₀.heap.FunFrames X.base l->s.heap.FunFrames X.base l:=by
  intro l
  induction l with
  | nil=>intro _ _;trivial
  | cons env r ih =>
   intro hs hl
   obtain⟨hk,⟨L,o,hf,hn,ho,hd⟩,hr⟩:=hl
   have hL:L∈X.fs:=hs L (by unfold frs;rw [List.filterMap_cons,hf];exact am)
   obtain⟨sl,e⟩:=I.base.slot L o ho (I.ok.frf L hL) hL fun z=>I.ok.exfs L z hL
   exact⟨hk,⟨L,_,hf,hn,e,hd⟩,ih (fun b hb=>hs b (by unfold frs;rw [List.filterMap_cons,hf];exact ai _ hb)) hr⟩
 exact all X.outer (fun _ hb=>hb) I.ok.funs
theorem A0.stack (I:A0 X ae σ H s):s.heap.FunFrames X.base X.stack:=by
 rcases I.ok.stk with e | ⟨e,hf⟩
 ·rw [e];exact I.funs
 ·rw [e]
  obtain⟨m,hn,_⟩:=I.loc
  refine .cons (by rw [I.ok.kind];decide) hf hn ?_ I.funs
  exact Heap.get?_none_of_le (aV I.ok.bsz I.ok.above)
theorem A0.stkSub (I:A0 X ae σ H s):∀b∈frs X.stack,b∈X.env.locals::X.fs:=fun b hb=>by
 rcases I.ok.stk with e | ⟨e,hf⟩
 ·rw [e]at hb;exact ai _ hb
 ·rw [e]at hb
  unfold frs at hb
  rw [List.filterMap_cons,hf]at hb
  exact hb
theorem A0.stkFree (I:A0 X ae σ H s):∀b∈frs X.stack,H b=none:=fun b hb=>by
 rcases av.mp (I.stkSub b hb)with e | hb
 ·rw [e];exact I.free
 ·obtain⟨_,o,ho,_⟩:=I.ok.funs.mem hb
  exact I.base.free b o ho (I.ok.frf b hb) fun z=>I.ok.exfs b z hb
theorem A0.step {g':Array GenState}{t':Nat}{d':Drawn}{ch:List Addr} (I:A0 X ae σ H s)
  (gg:∀b∈ch,(b∈X.ex\/X.s₀.heap.objs.size<=b)/\b≠X.env.locals/\(∀x c,X.env.cells.lookup x=some c->c≠b)/\∀p∈X.pn++ae,p.1≠b)
  (keep:∀b o,b≠X.env.locals->b∉X.fs->b∉ch->s.heap.get? b=some o->H b=none->h'.get? b=some o)
  (slot:∀b o,b≠X.env.locals->b∈X.fs->b∉ch->s.heap.get? b=some o->H b=none->∃sl,h'.get? b=some { o with slots:=sl }) (free:∀b o,b∉ch->s.heap.get? b=some o->H b=none->H' b=none)
  (there:∀b o,b∉ch->s.heap.get? b=some o->∃o',h'.get? b=some o')
  (tups:∀b xs,H b=some (.tup xs)->H' b=some (.tup xs)) (frzs:∀b o u,H b=some (.frz o u)->H' b=some (.frz o u)) (tbls:∀b ps,H b=some (.tbl ps)->∃more,H' b=some (.tbl (ps++more)))
  (ns:∀m,s.heap.Ns X.env.locals m->h'.Ns X.env.locals m) (hok:J1 X.prog X.w H' h') (hg:AllBare g') :
  A0 X ae σ H' { s with heap:=h',gens:=g',drawn:=d',toks:=t' }:=by
 have mr:∀b o,X.s₀.heap.get? b=some o->b≠X.env.locals:=fun b o e=>aD (az (ay e) I.ok.above)
 have ga:∀b o,X.s₀.heap.get? b=some o->b∉X.ex->b∉ch:=fun b o e hx hb=>by
  rcases (gg b hb).1 with z | z
  ·exact hx z
  ·exact absurd (az (ay e) z) (aZ _)
 have i3:∀x c,X.env.cells.lookup x=some c->∀v,s.heap.IsCell c v->h'.IsCell c v:=fun x c e v ⟨o,ho,hd⟩=>by
  have ji:c∉ch:=fun z=>(gg c z).2.2.1 x c e rfl
  by_cases hc:c∈X.fs
  ·obtain⟨sl,q⟩:=slot c o (I.cne x c e) hc ji ho (I.freeC x c e)
   exact⟨_,q,hd⟩
  ·exact⟨o,keep c o (I.cne x c e) hc ji ho (I.freeC x c e),hd⟩
 refine⟨I.ok,I.os,hg,⟨fun b o e n hb hx=>?_,fun b o e n hb hx=>?_,fun b o e n hx=>?_,fun b o e hx=>?_,fun b xs e=>tups b xs (I.base.tups b xs e),fun b o xs e=>frzs b o xs (I.base.frzs b o xs e),fun b ps e=>?_⟩,?_,fun x c e=>?_,?_,fun x c e=>?_,fun p hp=>?_,hok,I.len⟩
 ·exact keep b o (mr b o e) hb (ga b o e hx) (I.base.keep b o e n hb hx) (I.base.free b o e n hx)
 ·obtain⟨sl,e1⟩:=I.base.slot b o e n hb hx
  obtain⟨nM,e2⟩:=slot b _ (mr b o e) hb (ga b o e hx) e1 (I.base.free b o e n hx)
  exact⟨nM,e2⟩
 ·obtain⟨o',e1⟩:=I.base.there b o e hx
  exact free b o' (ga b o e hx) e1 (I.base.free b o e n hx)
 ·obtain⟨o',e1⟩:=I.base.there b o e hx
  exact there b o' (ga b o e hx) e1
 ·obtain⟨m1,e1⟩:=I.base.tbls b ps e
  obtain⟨m2,e2⟩:=tbls b _ e1
  exact⟨m1++m2,by rw [e2,Array.append_assoc]⟩
 ·obtain⟨m,hn,hl⟩:=I.loc
  refine⟨m,ns m hn,fun i x v e1 e2 e3=>?_⟩
  obtain⟨u,r,l⟩:=hl i x v e1 e2 e3
  refine⟨u,r,?_⟩
  rcases l with l | ⟨k,c,e,z⟩
  ·exact .inl l
  ·exact .inr ⟨k,c,e,i3 x c e _ z⟩
 ·obtain⟨v,z⟩:=I.cell x c e
  exact⟨v,i3 x c e v z⟩
 ·obtain⟨m,⟨o,_,_,ho,_⟩,_⟩:=I.loc
  exact free _ o (fun z=>(gg _ z).2.1 rfl) ho I.free
 ·obtain⟨v,o,ho,hd⟩:=I.cell x c e
  exact free c o (fun z=>(gg c z).2.2.1 x c e rfl) ho (I.freeC x c e)
 ·obtain⟨e,n,ne,nf,d⟩:=I.pin p hp
  have ji:p.1∉ch:=fun z=>(gg p.1 z).2.2.2 p hp rfl
  exact⟨keep p.1 p.2 ne nf ji e n,free p.1 p.2 ji e n,ne,nf,d⟩
theorem A0.un {t':Nat} (I:A0 X ae σ H s) (u:Un X.fs [] H H' s.heap h') (hok:J1 X.prog X.w H' h'):A0 X ae σ H' { s with heap:=h',toks:=t' }:=by
 obtain⟨m,⟨o,es,ep,ho,r⟩,_⟩:=id I.loc
 obtain⟨sl,hL⟩:=u.any ho I.free (by simp)
 exact I.step (g':=s.gens) (d':=s.drawn) (ch:=[]) (fun _ z=>nomatch z) (fun b o _ hb _ e n=>u.keep b o e n hb (by simp)) (fun b o _ hb _ e n=>u.slot b o e n hb (by simp)) (fun b o _ e n=>u.free b o e n (by simp)) (fun b o _ e=>u.there b o e (by simp)) u.tups u.frzs u.tbls (fun m' hm=>by
  obtain⟨o',eF,j1,ij,r'⟩:=hm
  rw [ho]at ij;cases ij
  exact⟨_,eF,j1,hL,r'⟩) hok I.bare
theorem A0.call {g':Array GenState}{t':Nat}{d':Drawn}{ch:List Addr} (I:A0 X ae σ H s) (u:Un (frs X.stack) ch H H' s.heap h') (hok:J1 X.prog X.w H' h') (hg:AllBare g')
  (gg:∀b∈ch,(b∈X.ex\/X.s₀.heap.objs.size<=b)/\b≠X.env.locals/\(∀x c,X.env.cells.lookup x=some c->c≠b)/\∀p∈X.pn++ae,p.1≠b) :
  A0 X ae σ H' { s with heap:=h',gens:=g',drawn:=d',toks:=t' }:=by
 obtain⟨m,⟨o,es,ep,ho,r⟩,_⟩:=id I.loc
 obtain⟨sl,hL⟩:=u.any ho I.free fun z=>(gg _ z).2.1 rfl
 exact I.step (ch:=ch) gg (fun b o hL hb hc e n=>u.keep b o e n (fun z=>(av.mp (I.stkSub b z)).elim hL hb) hc) (fun b o _ _ hc e n=>u.any e n hc) (fun b o hc e n=>u.free b o e n hc) (fun b o hc e=>u.there b o e hc) u.tups u.frzs u.tbls (fun m' hm=>by
  obtain⟨o',eF,j1,ij,r'⟩:=hm
  rw [ho]at ij;cases ij
  exact⟨_,eF,j1,hL,r'⟩) hok hg
theorem A0.turned {t':Nat}{it:Addr} (I:A0 X ae σ H s) (k:∀b o,b≠it->s.heap.get? b=some o->h'.get? b=some o) (hn:H it=none) (hL:it≠X.env.locals)
  (h1:it∈X.ex\/X.s₀.heap.objs.size<=it) (h2:∀x c,X.env.cells.lookup x=some c->c≠it) (h3:∀p∈X.pn++ae,p.1≠it):A0 X ae σ H { s with heap:=h',toks:=t' }:=by
 have gP:∀b u,H b=some u->b≠it:=fun b u e z=>by rw [z,hn]at e;cases e
 refine I.step (g':=s.gens) (d':=s.drawn) (ch:=[it]) (fun b hb=>?_) (fun b o _ _ hc e _=>k b o (fun z=>hc (by simp [z])) e) (fun b o _ _ hc e _=>⟨o.slots,k b o (fun z=>hc (by simp [z])) e⟩) (fun _ _ _ _ n=>n)
  (fun b o hc e=>⟨o,k b o (fun z=>hc (by simp [z])) e⟩) (fun _ _ e=>e) (fun _ _ _ e=>e) (fun b ps e=>⟨#[],by rw [e];simp⟩) (fun m hm=>?_) (fun b u e=>?_) I.bare
 ·have e:b=it:=by simpa using hb
  subst e
  exact⟨h1,hL,h2,h3⟩
 ·obtain⟨o,es,ep,ho,r⟩:=hm
  exact⟨o,es,ep,k _ o (dG hL) ho,r⟩
 ·refine(I.hok b u e).stay (fun c v hc q=>k c v ?_ q) (fun _ _ _ q=>q) fun _ _ q=>q
  rcases hc with z | z
  ·rw [z];exact gP b u e
  ·exact gP c _ z
theorem A0.tok (I:A0 X ae σ H s) (t:Nat):A0 X ae σ H { s with toks:=t }:=I.un (h':=s.heap) (t':=t) Un.refl I.hok
theorem A0.kept {t':Nat} (I:A0 X ae σ H s) (k:∀b u,s.heap.get? b=some u->h'.get? b=some u):A0 X ae σ H { s with heap:=h',toks:=t' }:=I.un (Un.kept k) (I.hok.kept k)
theorem A0.laid {a:Addr}{o:HO}{t':Nat} (I:A0 X ae σ H s) (k:∀b u,s.heap.get? b=some u->h'.get? b=some u) (hp:s.heap.objs.size<=a) (new:K4 X.prog X.w (upd H a o) h' a o) :
  A0 X ae σ (upd H a o) { s with heap:=h',toks:=t' }:=I.un (Un.laid k hp (I.hok.fresh hp)) (I.hok.laid k hp new)
theorem A0.write {x e:Addr}{o:HO}{t':Nat} (I:A0 X ae σ H s) (mu:Mut (H x)) (he:e=x\/H e=some (.own x)) (k:∀b u,b≠e->s.heap.get? b=some u->h'.get? b=some u) (iZ:∃u,h'.get? e=some u)
  (new:K4 X.prog X.w (upd H x o) h' x o):A0 X ae σ (upd H x o) { s with heap:=h',toks:=t' }:=I.un (Un.write mu he k iZ) (I.hok.write mu he k iZ new)
theorem A0.pins_of {gO:Pn9} (I:A0 X ae σ H s) (h:∀p∈gO,s.heap.get? p.1=some p.2/\H p.1=none/\p.1≠X.env.locals/\p.1∉X.fs/\∀v,p.2.data≠.cell v):A0 X gO σ H s :=
 ⟨I.ok,I.os,I.bare,I.base,I.loc,I.cell,I.free,I.freeC,fun p hp=>(aN.mp hp).elim (fun z=>I.pin p (bP _ z)) (h p),I.hok,I.len⟩
theorem Y1f {N:List Str} (hN:N.Nodup) {i j:Nat}{x:Str} (a:N[i]?=some x) (b:N[j]?=some x):i=j:=by
 obtain⟨h1,e1⟩:=aG.mp a
 obtain⟨h2,e2⟩:=aG.mp b
 exact(List.getElem_inj hN).mp (e1.trans e2.symm)
theorem Q9u {M:Model}{A:Around}{E:VS9}{i:Nat}{x:Str}{v:V}{u:Value}{Q:Unit->Shared->Prop} (I:A0 X ae σ H s) (hN:X.N.Nodup) (hi:X.N[i]?=some x) (hx:Loc X.env.scope x) (r:C3 v u)
  (h:∀s',A0 X ae (σ.set i (some v)) H s'->(∃a,Heap.SameBut a s.heap s'.heap/\(a=X.env.locals\/X.env.cells.lookup x=some a))->Q () s') (hf:X.fn x=true\/X.env.scope.names.lookup x=some .local:=by first | exact .inl rfl | exact .inr rfl | assumption):wpAny M A (storeName X.env x u) Q E s:=by
 obtain⟨m,hn,hl⟩:=id I.loc
 have lK:(X.env.scope.kind==.class||(X.env.scope.kind==.module&&X.env.locals != X.env.globals))=false:=by rw [I.ok.kind];rfl
 have hiσ:i<σ.length:=by rw [I.len];exact(aG.mp hi).1
 have cne:=I.cne
 have tracked:∀{a:Addr}{h':Heap},(∃o,s.heap.get? a=some o/\H a=none)->Heap.SameBut a s.heap h'->J1 X.prog X.w H h':=fun {a h'} ha hs b ob e=>by
  obtain⟨_,_,gW⟩:=ha
  refine(I.hok b ob e).stay (fun c w' hc q=>(hs.2 c ?_).trans q) (fun _ _ _ q=>q) fun _ _ q=>q
  rintro rfl
  rcases hc with rfl | hc
  ·rw [gW]at e;cases e
  ·rw [gW]at hc;cases hc
 rcases hx with hk | hk
 ·refine wpAny_storeName_local hk hn (fun h' oY hs=>?_) lK
  obtain⟨oL,_,_,jq,_⟩:=id hn
  refine h _ ⟨I.ok,I.os,I.bare,⟨fun b o e n hb hx=>?_,fun b o e n hb hx=>?_,I.base.free,fun b o e hx=>?_,I.base.tups,I.base.frzs,I.base.tbls⟩,⟨_,oY,fun j y v' e1 e2 e3=>?_⟩,fun y c e=>?_,I.free,I.freeC,fun p hp=>?_,tracked ⟨oL,jq,I.free⟩ hs,by simpa using I.len⟩ ⟨_,hs,.inl rfl⟩
  ·exact(hs.2 b (aD (az (ay e) I.ok.above))).trans (I.base.keep b o e n hb hx)
  ·obtain⟨sl,e1⟩:=I.base.slot b o e n hb hx
   exact⟨sl,(hs.2 b (aD (az (ay e) I.ok.above))).trans e1⟩
  ·obtain⟨o',e1⟩:=I.base.there b o e hx
   exact⟨o',(hs.2 b (aD (az (ay e) I.ok.above))).trans e1⟩
  ·by_cases hj:j=i
   ·subst hj
    rw [hi]at e1;cases e1
    rw [bq hiσ]at e2
    cases e2
    exact⟨u,r,.inl ⟨hk,by simp⟩⟩
   ·rw [aP (dG hj)]at e2
    obtain⟨u',r',q⟩:=hl j y v' e1 e2 e3
    refine⟨u',r',?_⟩
    rcases q with⟨k,e⟩ | ⟨k,c,e,z⟩
    ·refine .inl ⟨k,?_⟩
     have:y≠x:=fun e=>hj (Y1f hN e1 (e ▸ hi))
     simp [this,e]
    ·exact .inr ⟨k,c,e,z.sameBut hs (cne y c e)⟩
  ·obtain⟨w',z⟩:=I.cell y c e
   exact⟨w',z.sameBut hs (cne y c e)⟩
  ·obtain⟨e,n,ne,nf,d⟩:=I.pin p hp
   exact⟨(hs.2 p.1 ne).trans e,n,ne,nf,d⟩
 ·have gX:X.fn x=true:=by
   rcases hf with z | z
   ·exact z
   ·rw [z]at hk;cases hk
  obtain⟨c,hc⟩:=I.ok.has x (.inl hk)
  obtain⟨w',z⟩:=I.cell x c hc
  refine wpAny_storeName_cell I.ok.kind hk hc z (fun h' dg hs=>?_)
  obtain⟨oc,dR,ln⟩:=id z
  refine h { s with heap:=h' } ⟨I.ok,I.os,I.bare,⟨fun b o e n hb hx=>?_,fun b o e n hb hx=>?_,I.base.free,fun b o e hx=>?_,I.base.tups,I.base.frzs,I.base.tbls⟩,⟨m,hn.sameBut hs (dG (cne x c hc)),fun j y v' e1 e2 e3=>?_⟩,fun y c' e=>?_,I.free,I.freeC,fun p hp=>?_,tracked ⟨oc,dR,I.freeC x c hc⟩ hs,by simpa using I.len⟩ ⟨c,hs,.inr hc⟩
  ·exact(hs.2 b (aD (az (ay e) (I.ok.cab x c gX hc)))).trans (I.base.keep b o e n hb hx)
  ·obtain⟨sl,e1⟩:=I.base.slot b o e n hb hx
   exact⟨sl,(hs.2 b (aD (az (ay e) (I.ok.cab x c gX hc)))).trans e1⟩
  ·obtain⟨o',e1⟩:=I.base.there b o e hx
   exact⟨o',(hs.2 b (aD (az (ay e) (I.ok.cab x c gX hc)))).trans e1⟩
  ·by_cases hj:j=i
   ·subst hj
    rw [hi]at e1;cases e1
    rw [bq hiσ]at e2
    cases e2
    exact⟨u,r,.inr ⟨.inl hk,c,hc,dg⟩⟩
   ·rw [aP (dG hj)]at e2
    obtain⟨u',r',q⟩:=hl j y v' e1 e2 e3
    refine⟨u',r',?_⟩
    rcases q with q | ⟨k,c',e,z'⟩
    ·exact .inl q
    ·refine .inr ⟨k,c',e,z'.sameBut hs ?_⟩
     rintro rfl
     exact hj (Y1f hN e1 (I.ok.inj _ _ _ e hc ▸ hi))
  ·by_cases fD:c'=c
   ·subst fD;exact⟨_,dg⟩
   ·obtain⟨w2,z2⟩:=I.cell y c' e
    exact⟨w2,z2.sameBut hs fD⟩
  ·obtain⟨e,n,ne,nf,d⟩:=I.pin p hp
   refine⟨(hs.2 p.1 ?_).trans e,n,ne,nf,d⟩
   intro q
   rw [q,dR]at e
   have q':oc=p.2:=aA e
   exact d w' (by rw [<- q'];exact ln)
theorem Z5f {M:Model}{A:Around}{E:VS9}{i:Nat}{x:Str}{v:V}{u:Value}{Q:Unit->Shared->Prop} (I:A0 X ae σ H s) (hN:X.N.Nodup) (hi:X.N[i]?=some x) (hx:Loc X.env.scope x) (r:C3 v u)
  (h:∀s',A0 X ae (σ.set i (some v)) H s'->Q () s') (hf:X.fn x=true\/X.env.scope.names.lookup x=some .local:=by first | exact .inl rfl | exact .inr rfl | assumption):wpAny M A (storeName X.env x u) Q E s :=
 Q9u I hN hi hx r (fun s' I' _=>h s' I') hf
theorem A0.call' {s':Shared}{ch:List Addr} (I:A0 X ae σ H s) (ho:s'.os=s.os) (u:Un (frs X.stack) ch H H' s.heap s'.heap) (hok:J1 X.prog X.w H' s'.heap) (hg:AllBare s'.gens)
  (gg:∀b∈ch,(b∈X.ex\/X.s₀.heap.objs.size<=b)/\b≠X.env.locals/\(∀x c,X.env.cells.lookup x=some c->c≠b)/\∀p∈X.pn++ae,p.1≠b):A0 X ae σ H' s':=by
 obtain⟨h',g',d',t',o'⟩:=s'
 have e:o'=s.os:=ho
 subst e
 exact I.call (g':=g') (t':=t') (d':=d') u hok hg gg
end
noncomputable abbrev XK:=Value->Option Addr->Hp->Prop
noncomputable abbrev St:=List (Option V)
noncomputable abbrev VK:=V->Hp->Prop
noncomputable abbrev TE:=St->Hp->VK->Prop
noncomputable abbrev TT:=St->Hp->(Bool->Hp->Prop)->Prop
noncomputable abbrev TA:=St->Hp->(List V->Hp->Prop)->Prop
structure T6 where
 nx:St->Hp->Prop
 rt:VK
 bk:St->Hp->Prop:=fun _ _=>False
 ct:St->Hp->Prop:=fun _ _=>False
noncomputable abbrev TS:=T6->St->Hp->Prop
def EP (X:Cx) (ae:Pn9) (σ:St) (Q:VK) (u:Value) (s':Shared):Prop:=∃v H',A0 X ae σ H' s'/\C3 v u/\Q v H'
def TP (X:Cx) (ae:Pn9) (σ:St) (Q:Bool->Hp->Prop) (b:Bool) (s':Shared):Prop:=∃H',A0 X ae σ H' s'/\Q b H'
def AP (X:Cx) (ae:Pn9) (σ:St) (Q:List V->Hp->Prop) (us:List Value) (s':Shared):Prop:=∃vs H',A0 X ae σ H' s'/\B7 vs us/\Q vs H'
def SP (X:Cx) (ae:Pn9) (D:T6) (f:Flow) (s':Shared):Prop :=
 match f with
 | .next=>∃ σ' H',A0 X ae σ' H' s'/\D.nx σ' H'
 | .brk=>∃ σ' H',A0 X ae σ' H' s'/\D.bk σ' H'
 | .cont=>∃ σ' H',A0 X ae σ' H' s'/\D.ct σ' H'
 | .ret u=>∃v σ' H',A0 X ae σ' H' s'/\C3 v u/\D.rt v H'
def PE (X:Cx) (e:Expr) (t:TE):Prop :=
 ∀(ae:Pn9) (s:Shared) (σ:St) (H:Hp) (Q:VK),A0 X ae σ H s->t σ H Q->wpAny (model X.prog X.w) X.A (eval e X.env) (EP X ae σ Q) X.xe s
def PT (X:Cx) (e:Expr) (t:TT):Prop :=
 ∀(ae:Pn9) (s:Shared) (σ:St) (H:Hp) (Q:Bool->Hp->Prop),A0 X ae σ H s->t σ H Q->wpAny (model X.prog X.w) X.A (isTrue e X.env (eval e X.env)) (TP X ae σ Q) X.xe s
def PW (X:Cx) (e:Expr) (t:TT):Prop :=
 ∀(whole:Sem Value) (ae:Pn9) (s:Shared) (σ:St) (H:Hp) (Q:Bool->Hp->Prop),A0 X ae σ H s->t σ H Q->wpAny (model X.prog X.w) X.A (isTrue e X.env whole) (TP X ae σ Q) X.xe s
theorem PW.pt {X:Cx}{e:Expr}{t:TT} (h:PW X e t):PT X e t:=h _
def PA (X:Cx) (es:List Expr) (t:TA):Prop :=
 ∀(pos:Pos) (ae:Pn9) (s:Shared) (σ:St) (H:Hp) (Q:List V->Hp->Prop),A0 X ae σ H s->t σ H Q->wpAny (model X.prog X.w) X.A (spliced (backTo pos (starEach es X.env))) (AP X ae σ Q) X.xe s
def PS (X:Cx) (st:Stmt) (t:TS):Prop :=
 ∀(ae:Pn9) (s:Shared) (σ:St) (H:Hp) (D:T6),A0 X ae σ H s->t D σ H->wpAny (model X.prog X.w) X.A (exec st X.env) (SP X ae D) X.xe s
def PSs (X:Cx) (st:List Stmt) (t:TS):Prop :=
 ∀(ae:Pn9) (s:Shared) (σ:St) (H:Hp) (D:T6),A0 X ae σ H s->t D σ H->wpAny (model X.prog X.w) X.A (execs st X.env) (SP X ae D) X.xe s
theorem B4 {α:Type}{t:Sem α}{Q Q':α->Shared->Prop}{M:Model}{A:Around}{E:VS9}{s:Shared} (h:wpAny M A t Q E s) (hQ:∀a s,Q a s->Q' a s):wpAny M A t Q' E s:=aS h hQ fun _ _ x=>x
end L2
namespace L2
open PySem PySem.Spec PyProof.Rows
section
variable {X:Cx}
def T4 (i:Nat):TE:=fun σ H Q=>∃v,σ[i]?=some (some v)/\Q v H
def tC (v:V):TE:=fun _ H Q=>Q v H
theorem W5c {i:Nat}{x:Str}{pos:Pos} (hN:X.N[i]?=some x) (hv:Vis X.env.scope x) (hd:(x==("__debug__":Str))=false:=by decide) (dS:(x==("__classdict__":Str))=false:=by decide):PE X (.Name x pos) (T4 i):=by
 intro ae s σ H Q I h
 obtain⟨v,e,h⟩:=h
 obtain⟨m,hn,hl⟩:=I.loc
 obtain⟨u,r,l⟩:=hl i x v hN e hv
 have fin:EP X ae σ Q u s:=⟨v,H,I,r,h⟩
 rcases l with⟨hk,hm⟩ | ⟨hk,c,hc,cR⟩
 ·exact wpAny_Name (wpAny_loadName_local I.ok.kind hk hn hm fin) hd
 ·rcases hk with hk | hk
  ·exact wpAny_Name (wpAny_loadName_cell I.ok.kind hk hc cR fin) hd
  ·exact wpAny_Name (wpAny_loadName_free I.ok.kind hk hc cR fin dS) hd
theorem W4t {i j pos}:PE X (.Constant (.int i) j pos) (tC (.int i)):=fun _ _ _ H _ I h=>wpAny_Constant_int ⟨.int i,H,I.tok _,⟨_,rfl⟩,h⟩
theorem W4i {b j pos}:PE X (.Constant (.bool b) j pos) (tC (.bl b)):=fun _ _ _ H _ I h=>Constant_bool ⟨.bl b,H,I,rfl,h⟩
theorem W4w {j pos}:PE X (.Constant .none j pos) (tC .non):=fun _ _ _ H _ I h=>Constant_none ⟨.non,H,I,rfl,h⟩
theorem W4z {x j pos}:PE X (.Constant (.str x) j pos) (tC (.str x)):=fun _ _ _ H _ I h=>Calls.Constant_str ⟨.str x,H,I.tok _,⟨_,rfl⟩,h⟩
def Gl (X:Cx) (x:Str):Prop:=X.env.kindOf x=some .globalImplicit
theorem Q8q {E:VS9}{ae:Pn9}{s:Shared} {σ:St}{H:Hp}{x:Str}{u:Value}{pos:Pos}{Q:VS9} (I:A0 X ae σ H s) (hg:Gl X x) (hm:X.mg x=some u) (h:Q u s)
  (hd:(x==("__debug__":Str))=false:=by decide):wpAny (model X.prog X.w) X.A (eval (.Name x pos) X.env) Q E s :=
 Calls.Name_function_global I.ok.kind hg (Calls.loadGlobal_global (by rw [I.ok.glob];exact I.mod.glob.keeps I.bk) hm h) hd
theorem Q0p {E:VS9}{ae:Pn9}{s:Shared} {σ:St}{H:Hp}{x:Str}{u:Value}{pos:Pos}{Q:VS9} (I:A0 X ae σ H s) (hg:Gl X x) (hm:X.mg x=none) (hv:bootBuiltins x=some u) (h:Q u s)
  (hn:x≠"__name__":=by decide) (hd:(x==("__debug__":Str))=false:=by decide):wpAny (model X.prog X.w) X.A (eval (.Name x pos) X.env) Q E s:=by
 obtain⟨mb,h1,h2⟩:=I.mod.blt
 exact Calls.Name_function_global I.ok.kind hg (Calls.loadGlobal_builtin (by rw [I.ok.glob];exact I.mod.glob.keeps I.bk) hm (by rw [I.ok.blt];exact h1.keeps I.bk) ((h2 x hn).trans hv) h) hd
theorem W4r {x:Str}{v:V}{u:Value}{pos:Pos} (hg:Gl X x) (hm:X.mg x=some u) (r:C3 v u) (hd:(x==("__debug__":Str))=false:=by decide):PE X (.Name x pos) (tC v) :=
 fun _ _ _ H _ I h=>Q8q I hg hm ⟨v,H,I,r,h⟩ hd
theorem W4j {x:Str}{v:V}{u:Value}{pos:Pos} (hg:Gl X x) (hm:X.mg x=none) (hv:bootBuiltins x=some u) (r:C3 v u) (hn:x≠"__name__":=by decide) (hd:(x==("__debug__":Str))=false:=by decide):PE X (.Name x pos) (tC v) :=
 fun _ _ _ H _ I h=>Q0p I hg hm hv ⟨v,H,I,r,h⟩ hn hd
variable {a b:Expr}{ta tb:TE}{pos:Pos}
def PC (X:Cx) (op:CmpOp) (a b:Expr) (t:TE):Prop :=
 ∀(ae:Pn9) (s:Shared) (σ:St) (H:Hp) (Q:VK),A0 X ae σ H s->t σ H Q ->
  wpAny (model X.prog X.w) X.A (eval a X.env) (fun v s₁=>wpAny (model X.prog X.w) X.A (eval b X.env) (fun u s₂=>wpAny (model X.prog X.w) X.A (compareOp op v u) (EP X ae σ Q) X.xe s₂) X.xe s₁) X.xe s
def tB (t:TE):TT:=fun σ H Q=>t σ H fun x H1=>∃c,x=.bl c/\Q c H1
theorem W5y {op:CmpOp}{t:TE} (h:PC X op a b t) (h1:behindInMarks op b=false:=by first | exact nobehind _ (by decide) (by decide) | rfl):PT X (.Compare a [op] [b] pos) (tB t):=by
 intro ae s σ H Q I hw
 refine wpAny_isTrue_Compare1 (B4 (h ae s σ H _ I hw) fun v s1 h1=>B4 h1 fun u s2 h2=>B4 h2 fun c s3 bx=>?_) h1
 obtain⟨x,H1,I1,r1,q1⟩:=bx
 obtain⟨d,rfl,q⟩:=q1
 cases r1
 exact wpAny_truthy_bool ⟨H1,I1,q⟩
variable {tA jW:TT}{rest:List Expr}
def tAnd (t u:TT):TT:=fun σ H Q=>t σ H fun c H1=>if c=true then u σ H1 Q else Q false H1
def tOr (t u:TT):TT:=fun σ H Q=>t σ H fun c H1=>if c=true then Q true H1 else u σ H1 Q
def tNot (t:TT):TT:=fun σ H Q=>t σ H fun c H1=>Q (!c) H1
theorem W6d (ha:PT X a tA):PW X (.BoolOp .And [a] pos) tA:=by
 intro wh ae s σ H Q I h
 refine isTrue_and (B4 (ha ae s σ H Q I h) fun c s1 e=>?_)
 cases c with
 | true=>exact isTrue_and_nil e
 | false=>exact e
theorem W6f (ha:PT X a tA):PW X (.BoolOp .Or [a] pos) tA:=by
 intro wh ae s σ H Q I h
 refine isTrue_or (B4 (ha ae s σ H Q I h) fun c s1 e=>?_)
 cases c with
 | false=>exact isTrue_or_nil e
 | true=>exact e
theorem W6c (ha:PT X a tA) (hb:PW X (.BoolOp .And (b::rest) pos) jW):PW X (.BoolOp .And (a::b::rest) pos) (tAnd tA jW):=by
 intro wh ae s σ H Q I h
 refine isTrue_and (B4 (ha ae s σ H _ I h) fun c s1 bx=>?_)
 obtain⟨H1,I1,q1⟩:=bx
 cases c with
 | true=>exact hb wh ae s1 σ H1 Q I1 q1
 | false=>exact⟨H1,I1,q1⟩
theorem W6e (ha:PT X a tA) (hb:PW X (.BoolOp .Or (b::rest) pos) jW):PW X (.BoolOp .Or (a::b::rest) pos) (tOr tA jW):=by
 intro wh ae s σ H Q I h
 refine isTrue_or (B4 (ha ae s σ H _ I h) fun c s1 bx=>?_)
 obtain⟨H1,I1,q1⟩:=bx
 cases c with
 | true=>exact⟨H1,I1,q1⟩
 | false=>exact hb wh ae s1 σ H1 Q I1 q1
theorem W6a (ha:PT X a tA):PT X (.UnaryOp .Not a pos) (tNot tA):=by
 intro ae s σ H Q I h
 exact isTrue_not (ha ae s σ H (fun c H1=>Q (!c) H1) I h)
def tIf (t:TT) (ta tb:TE):TE:=fun σ H Q=>t σ H fun c H1=>if c=true then ta σ H1 Q else tb σ H1 Q
theorem W4s {c:Expr} (hc:PT X c tA) (ha:PE X a ta) (hb:PE X b tb):PE X (.IfExp c a b pos) (tIf tA ta tb):=by
 intro ae s σ H Q I h
 refine wpAny_IfExp (B4 (hc ae s σ H _ I h) fun d s1 bx=>?_)
 obtain⟨H1,I1,q1⟩:=bx
 cases d with
 | true=>exact ha ae s1 σ H1 Q I1 q1
 | false=>exact hb ae s1 σ H1 Q I1 q1
end
end L2
namespace L2
open PySem PySem.Spec PyProof.Rows
def E3 (K:Fg9) (H:Hp) (a:Addr) (xs:List V):Prop :=
 Rd H a (.lst xs) \/
  ∃(o:Obj) (aT:Array Value) (n:Nat),K.lookup a=some o/\o.cls=.type "list"/\o.dict=none/\o.data=.seq aT n/\aT.size<=sizeLine/\B7 xs aT.toList
def D8 (K:Fg9) (H:Hp) (a:Addr) (xs:List V):Prop :=
 Rd H a (.tup xs) \/
  ∃(o:Obj) (aT:Array Value) (n:Nat),K.lookup a=some o/\o.cls=.type "tuple"/\o.data=.seq aT n/\aT.size<=sizeLine/\B7 xs aT.toList
noncomputable def absV:Value->Option V
 | .none=>some .non
 | .bool b=>some (.bl b)
 | .int i _=>some (.int i)
 | .str x _=>some (.str x)
 | .bytes b _=>some (.byt b)
 | .float b _=>some (.flt b)
 | .ref a=>some (.ref a)
 | .type n=>some (.ty n)
 | _=>none
theorem C3.abs {x:V}{u:Value} (r:C3 x u):absV u=some x:=by
 cases x with
 | non=>cases r;rfl
 | bl _=>cases r;rfl
 | int _=>obtain⟨t,rfl⟩:=r;rfl
 | str _=>obtain⟨t,rfl⟩:=r;rfl
 | byt _=>obtain⟨t,rfl⟩:=r;rfl
 | flt _=>obtain⟨t,rfl⟩:=r;rfl
 | ref _=>cases r;rfl
 | ty _=>cases r;rfl
theorem C3.inj {x y:V}{u:Value} (r:C3 x u) (q:C3 y u):x=y:=aA (r.abs.symm.trans q.abs)
theorem B7.inj:∀{xs ys:List V}{us:List Value},B7 xs us->B7 ys us->xs=ys
 | _,_,_,.nil,.nil=>rfl
 | _,_,_,.cons r t,.cons r' t'=>by rw [r.inj r',B7.inj t t']
section
variable {X:Cx}{ae:Pn9} {σ:St}{H:Hp}{s:Shared}{a:Addr}{xs ys:List V}
theorem E3.of {K:Fg9} (h:H a=some (.lst xs)):E3 K H a xs:=.inl (.inl h)
theorem D8.of {K:Fg9} (h:H a=some (.tup xs)):D8 K H a xs:=.inl (.inl h)
theorem A0.list (I:A0 X ae σ H s) (h:E3 X.K H a xs):∃aT:List Value,B7 xs aT/\PlainL s.heap a aT.toArray/\xs.length<=sizeLine:=by
 rcases h with h | ⟨o,aT,n,hk,hc,hd,hs,hz,r⟩
 ·obtain⟨z,aT,n,r,e⟩:=h.ok I.hok
  exact⟨aT,r,⟨_,n,e,rfl,rfl,rfl⟩,z⟩
 ·refine⟨aT.toList,r,⟨o,n,I.kIn a o hk,hc,hd,by simpa using hs⟩,?_⟩
  have e:=r.length
  simp only [bG]at e
  omega
theorem A0.tuple (I:A0 X ae σ H s) (h:D8 X.K H a xs):∃aT:List Value,B7 xs aT/\IsTup s.heap a aT.toArray/\xs.length<=sizeLine:=by
 rcases h with h | ⟨o,aT,n,hk,hc,hs,hz,r⟩
 ·obtain⟨z,aT,r,p⟩:=h.ok I.hok
  exact⟨aT,r,p,z⟩
 ·refine⟨aT.toList,r,⟨o,I.kIn a o hk,hc,n,by simpa using hs⟩,?_⟩
  have e:=r.length
  simp only [bG]at e
  omega
theorem A0.list_inj (I:A0 X ae σ H s) (h:E3 X.K H a xs) (h':E3 X.K H a ys):xs=ys:=by
 obtain⟨aT,r,⟨o,n,e,_,_,d⟩,_⟩:=I.list h
 obtain⟨its',r',⟨o',n',e',_,_,d'⟩,_⟩:=I.list h'
 rw [e]at e';cases e'
 rw [d]at d'
 injection d' with d1 _
 have:aT=its':=by simpa using congrArg Array.toList d1
 subst this
 exact r.inj r'
theorem A0.tuple_inj (I:A0 X ae σ H s) (h:D8 X.K H a xs) (h':D8 X.K H a ys):xs=ys:=by
 obtain⟨aT,r,⟨o,e,_,n,d⟩,_⟩:=I.tuple h
 obtain⟨its',r',⟨o',e',_,n',d'⟩,_⟩:=I.tuple h'
 rw [e]at e';cases e'
 rw [d]at d'
 injection d' with d1 _
 have:aT=its':=by simpa using congrArg Array.toList d1
 subst this
 exact r.inj r'
end
noncomputable abbrev Cx.wish (X:Cx) (E:VS9):Cx:={ X with xe:=E }
noncomputable abbrev Cx.nox (X:Cx):Cx:=X.wish fun _ _=>False
theorem Cx.Ok.wish {X:Cx} (ok:X.Ok) (E:VS9):(X.wish E).Ok :=
 ⟨ok.mod,ok.kind,ok.glob,ok.blt,ok.above,ok.inj,ok.has,ok.cab,ok.hd,ok.frames,ok.stk,ok.exf,ok.bs,ok.bsz,ok.noex,ok.exfs,ok.funs,ok.frf⟩
theorem Cx.Ok.unwish {X:Cx}{E:VS9} (ok:(X.wish E).Ok):X.Ok :=
 ⟨ok.mod,ok.kind,ok.glob,ok.blt,ok.above,ok.inj,ok.has,ok.cab,ok.hd,ok.frames,ok.stk,ok.exf,ok.bs,ok.bsz,ok.noex,ok.exfs,ok.funs,ok.frf⟩
section
variable {X:Cx}{ae:Pn9} {σ:St}{H:Hp}{s:Shared}{E:VS9}
theorem A0.wish (I:A0 X ae σ H s) (E:VS9):A0 (X.wish E) ae σ H s:=⟨I.ok.wish E,I.os,I.bare,I.base,I.loc,I.cell,I.free,I.freeC,I.pin,I.hok,I.len⟩
theorem A0.unwish (I:A0 (X.wish E) ae σ H s):A0 X ae σ H s:=⟨I.ok.unwish,I.os,I.bare,I.base,I.loc,I.cell,I.free,I.freeC,I.pin,I.hok,I.len⟩
theorem SP.unwish {D:T6}{f:Flow}{s':Shared} (h:SP (X.wish E) ae D f s'):SP X ae D f s':=by
 cases f with
 | next=>obtain⟨σ',H',I,q⟩:=h;exact⟨σ',H',I.unwish,q⟩
 | brk=>obtain⟨σ',H',I,q⟩:=h;exact⟨σ',H',I.unwish,q⟩
 | cont=>obtain⟨σ',H',I,q⟩:=h;exact⟨σ',H',I.unwish,q⟩
 | ret u=>obtain⟨v,σ',H',I,r,q⟩:=h;exact⟨v,σ',H',I.unwish,r,q⟩
theorem PSs.nox {st:List Stmt}{t:TS} (h:PSs X.nox st t):PSs X st t:=fun ae s σ H D I hw =>
 aS (h ae s σ H D (I.wish _) hw) (fun _ _ q=>q.unwish) fun _ _ z=>False.elim z
end
section
variable {X:Cx}{st:Stmt}{rest:List Stmt}{t u:TS}{e:Expr}{te:TE}{pos:Pos}
def W9x:TS:=fun D σ H=>D.nx σ H
def tSeq (t u:TS):TS:=fun D σ H=>t { D with nx:=u D } σ H
theorem W5w:PSs X [] W9x:=fun _ _ σ H _ I h=>wpAny_execs_nil ⟨σ,H,I,h⟩
theorem W5v (h1:PS X st t) (h2:PSs X rest u):PSs X (st::rest) (tSeq t u):=by
 intro ae s σ H D I h
 refine wpAny_execs_cons (B4 (h1 ae s σ H { D with nx:=u D } I h) fun f s1 q=>?_)
 cases f with
 | next =>
  obtain⟨σ',H',I',q⟩:=q
  exact h2 ae s1 σ' H' D I' q
 | ret v=>exact q
 | brk=>exact q
 | cont=>exact q
theorem W5x (h1:PS X st t):PSs X [st] t:=by
 intro ae s σ H D I h
 refine wpAny_execs_cons (B4 (h1 ae s σ H D I h) fun f s1 q=>?_)
 cases f with
 | next=>exact wpAny_execs_nil q
 | ret v=>exact q
 | brk=>exact q
 | cont=>exact q
theorem A0.quiet {ae:Pn9} {σ:St}{H:Hp}{s:Shared} (I:A0 X ae σ H s):interactive X.env=false:=by simp [interactive,I.ok.kind]
def W9v (te:TE):TS:=fun D σ H=>te σ H fun _ H1=>D.nx σ H1
theorem Z4d (he:PE X e te) (hs:swapsWith e none pos.line X.env=pure false:=by rfl):PS X (.Expr e pos) (W9v te):=by
 intro ae s σ H D I h
 exact wpAny_Expr_any (B4 (he ae s σ H _ I h) fun v s1 ⟨x,H1,I1,r1,q1⟩=>⟨σ,H1,I1,q1⟩) I.quiet hs
def tRet (te:TE):TS:=fun D σ H=>te σ H D.rt
theorem Y2a (he:PE X e te):PS X (.Return (some e) pos) (tRet te):=by
 intro ae s σ H D I h
 exact wpAny_Return_some (B4 (he ae s σ H _ I h) fun v s1 ⟨x,H1,I1,r1,q1⟩=>⟨x,σ,H1,I1,r1,q1⟩)
def tIfS (c:TT) (t u:TS):TS:=fun D σ H=>c σ H fun b H1=>if b=true then t D σ H1 else u D σ H1
theorem W5t {c:Expr}{a b:List Stmt}{tc:TT} (hc:PT X c tc) (ha:PSs X a t) (hb:PSs X b u):PS X (.If c a b pos) (tIfS tc t u):=by
 intro ae s σ H D I h
 refine wpAny_If (B4 (hc ae s σ H _ I h) fun d s1 bx=>?_)
 obtain⟨H1,I1,q1⟩:=bx
 cases d with
 | true=>exact ha ae s1 σ H1 D I1 q1
 | false=>exact hb ae s1 σ H1 D I1 q1
def W9w:TS:=fun _ _ _=>False
theorem V1v {iM:List Stmt}:PSs X iM W9w:=fun _ _ _ _ _ _ h=>h.elim
end
noncomputable abbrev TG:=V->St->Hp->(St->Hp->Prop)->Prop
noncomputable abbrev TGs:=List V->St->Hp->(St->Hp->Prop)->Prop
def PG (X:Cx) (target:Expr) (t:TG):Prop :=
 ∀(ae:Pn9) (s:Shared) (σ:St) (H:Hp) (v:V) (u:Value) (Q:St->Hp->Prop),A0 X ae σ H s->C3 v u->t v σ H Q ->
  wpAny (model X.prog X.w) X.A (assign target X.env u) (fun _ s'=>∃ σ' H',A0 X ae σ' H' s'/\Q σ' H') X.xe s
def PGs (X:Cx) (ts:List Expr) (t:TGs):Prop :=
 ∀(ae:Pn9) (s:Shared) (σ:St) (H:Hp) (vs:List V) (us:List Value) (Q:St->Hp->Prop),A0 X ae σ H s->B7 vs us->t vs σ H Q ->
  wpAny (model X.prog X.w) X.A (assignInOrder ((assignEach ts X.env).map (·.2)) us) (fun _ s'=>∃ σ' H',A0 X ae σ' H' s'/\Q σ' H') X.xe s
noncomputable abbrev Q5x:=V->V->V->Hp->(Hp->Prop)->Prop
def Z0z (X:Cx) (t:Q5x):Prop :=
 ∀(ae:Pn9) (s:Shared) (σ:St) (H:Hp) (o i v:V) (ov iv u:Value) (Q:Hp->Prop),A0 X ae σ H s->C3 o ov->C3 i iv->C3 v u->t o i v H Q ->
  wpAny (model X.prog X.w) X.A (setItem ov iv u) (fun _ s'=>∃H',A0 X ae σ H' s'/\Q H') X.xe s
noncomputable abbrev TIp:=V->V->Hp->VK->Prop
def PIp (X:Cx) (op:Operator) (t:TIp):Prop :=
 ∀(ae:Pn9) (s:Shared) (σ:St) (H:Hp) (x y:V) (v u:Value) (Q:VK),A0 X ae σ H s->C3 x v->C3 y u->t x y H Q ->
  wpAny (model X.prog X.w) X.A (inplaceOp op v u) (EP X ae σ Q) X.xe s
section
variable {X:Cx}{pos:Pos}
noncomputable def Z9u (i:Nat):TG:=fun v σ H Q=>Q (σ.set i (some v)) H
theorem W5d {i:Nat}{x:Str} (hN:X.N.Nodup) (hi:X.N[i]?=some x) (hx:Loc X.env.scope x) (hf:X.fn x=true\/X.env.scope.names.lookup x=some .local:=by first | exact .inl rfl | exact .inr rfl | assumption):PG X (.Name x pos) (Z9u i):=by
 intro ae s σ H v u Q I r h
 exact wpAny_assign_Name (Z5f I hN hi hx r (fun s' I'=>⟨_,H,I',h⟩) hf)
noncomputable def gNil:TGs:=fun vs σ H Q=>vs=[]/\Q σ H
noncomputable def Y9h (t:TG) (u:TGs):TGs:=fun vs σ H Q=>∃v r,vs=v::r/\t v σ H fun σ' H'=>u r σ' H' Q
theorem W5h:PGs X [] gNil:=by
 intro ae s σ H vs us Q I r h
 obtain⟨e,h⟩:=h
 subst e
 cases r
 exact assignInOrder_nil ⟨σ,H,I,h⟩
theorem W5g {e:Expr}{es:List Expr}{t:TG}{u:TGs} (h1:PG X e t) (h2:PGs X es u)
  (hs:(assignEach (e::es) X.env).map (·.2)=assign e X.env::(assignEach es X.env).map (·.2):=by rfl):PGs X (e::es) (Y9h t u):=by
 intro ae s σ H vs us Q I r h
 obtain⟨v,vr,e1,h⟩:=h
 subst e1
 cases r with
 | cons r rr =>
  rw [hs]
  refine assignInOrder_cons (B4 (h1 ae s σ H _ _ _ I r h) fun _ s1 bx=>?_)
  obtain⟨σ1,H1,I1,q1⟩:=bx
  exact h2 ae s1 σ1 H1 _ _ Q I1 rr q1
noncomputable def gTup (K:Fg9) (n:Nat) (t:TGs):TG:=fun v σ H Q=>∃a xs,v=.ref a/\D8 K H a xs/\xs.length=n/\t xs σ H Q
theorem W5f {es:List Expr}{k:Nat}{t:TGs}{n:Nat} (hc:X.calm=true) (h:PGs X es t)
  (hn:(assignEach es X.env).length=n:=by rfl) (ic:(assignEach es X.env).findIdx? (·.1)=none:=by rfl):PG X (.Tuple es k pos) (gTup X.K n t):=by
 intro ae s σ H v u Q I r hw
 obtain⟨a,xs,e1,hq,hl,hw⟩:=hw
 subst e1
 cases r
 obtain⟨aT,rv,ht,hz⟩:=I.tuple hq
 refine assign_Tuple_tuple (I.ok.hd hc) ht (by simp [hn,<- hl,rv.length]) ic fun h' hx=>?_
 have I1:A0 X ae σ H { s with heap:=h' }:=I.kept (t':=s.toks) fun b o e=>hx b o (aD (ay e)) e
 exact h ae _ σ H xs _ Q I1 (by simpa using rv) hw
noncomputable def gSub (to ti:TE) (t:Q5x):TG:=fun v σ H Q=>to σ H fun o H1=>ti σ H1 fun i H2=>t o i v H2 fun H3=>Q σ H3
theorem W5e {o i:Expr}{to ti:TE}{t:Q5x} (ho:PE X o to) (hi:PE X i ti) (hs:Z0z X t)
  (ha:∀v,assign (.Subscript o i pos) X.env v=(do
   let ov <- holding [v] (eval o X.env)
   let iv <- holding [v,ov] (eval i X.env)
   standAt pos
   holding [v,ov,iv] (setItem ov iv v)
   release [v,ov,iv] []):=by intro _;rfl):PG X (.Subscript o i pos) (gSub to ti t):=by
 intro ae s σ H v u Q I r h
 rw [ha]
 refine aa (bA (B4 (ho ae s σ H _ I h) fun ov s1 bx=>?_))
 obtain⟨x,H1,I1,r1,q1⟩:=bx
 refine aa (bA (B4 (hi ae s1 σ H1 _ I1 q1) fun iv s2 bx=>?_))
 obtain⟨y,H2,I2,r2,q2⟩:=bx
 refine aa (ft (aa (bA (B4 (hs ae s2 σ H2 x y v ov iv u _ I2 r1 r2 r q2) fun _ s3 bx=>?_))))
 obtain⟨H3,I3,q3⟩:=bx
 exact wpAny_release ⟨σ,H3,I3,q3⟩
def tAsg (te:TE) (g:TG):TS:=fun D σ H=>te σ H fun x H1=>g x σ H1 D.nx
theorem Z4c {tg e:Expr}{te:TE}{g:TG} (he:PE X e te) (hg:PG X tg g) (hs:swapsWithSole [tg] e pos.line X.env=pure false:=by rfl) (hw:swappedStores [tg] e X.env=pure none:=by rfl)
  (h1:(assignEach [tg] X.env).map (·.2)=[assign tg X.env]:=by rfl):PS X (.Assign [tg] e pos) (tAsg te g):=by
 intro ae s σ H D I h
 refine wpAny_Assign_stores (B4 (he ae s σ H _ I h) fun v s1 bx=>?_) hs hw
 obtain⟨x,H1,I1,r1,q1⟩:=bx
 rw [h1]
 exact B4 (hg ae s1 σ H1 x v _ I1 r1 q1) fun _ s2 q=>q
theorem Z4e {i:Nat}{x:Str}{e:Expr}{te:TE}{bB:Pos} (hN:X.N.Nodup) (hi:X.N[i]?=some x) (hx:Loc X.env.scope x) (he:PE X e te) (hs:swapsWith e (some (.Name x bB)) pos.line X.env=pure false:=by rfl) (hf:X.fn x=true\/X.env.scope.names.lookup x=some .local:=by first | exact .inl rfl | exact .inr rfl | assumption) :
  PS X (.Assign [.Name x bB] e pos) (tAsg te (Z9u i)):=by
 intro ae s σ H D I h
 refine wpAny_Assign_Name (B4 (he ae s σ H _ I h) fun v s1 bx=>?_) hs
 obtain⟨y,H1,I1,r1,q1⟩:=bx
 exact Z5f I1 hN hi hx r1 (fun s2 I2=>⟨_,H1,I2,q1⟩) hf
def tAug (i:Nat) (te:TE) (ti:TIp):TS:=fun D σ H=>∃x,σ[i]?=some (some x)/\te σ H fun y H1=>ti x y H1 fun z H2=>D.nx (σ.set i (some z)) H2
theorem W5p {i:Nat}{x:Str}{e:Expr}{te:TE}{op:Operator}{ti:TIp}{bB:Pos} (hN:X.N.Nodup) (hi:X.N[i]?=some x) (hx:Loc X.env.scope x) (he:PE X e te) (ho:PIp X op ti) (hf:X.fn x=true\/X.env.scope.names.lookup x=some .local:=by first | exact .inl rfl | exact .inr rfl | assumption) :
  PS X (.AugAssign (.Name x bB) op e pos) (tAug i te ti):=by
 intro ae s σ H D I h
 obtain⟨v,e1,h⟩:=h
 obtain⟨m,hn,hl⟩:=I.loc
 have nI:Vis X.env.scope x:=by rcases hx with k | k;exact .inl k;exact .inr (.inl k)
 obtain⟨u,r,l⟩:=hl i x v hi e1 nI
 refine wpAny_AugAssign_Name ?_
 have go:wpAny (model X.prog X.w) X.A (eval e X.env) (fun w s₂=>wpAny (model X.prog X.w) X.A (inplaceOp op u w) (fun r s₃=>wpAny (model X.prog X.w) X.A (storeName X.env x r) (fun _=>SP X ae D .next) X.xe s₃) X.xe s₂) X.xe s:=by
  refine B4 (he ae s σ H _ I h) fun w s1 bx=>?_
  obtain⟨y,H1,I1,r1,q1⟩:=bx
  refine B4 (ho ae s1 σ H1 v y u w _ I1 r r1 q1) fun z s2 bx=>?_
  obtain⟨zv,H2,I2,r2,q2⟩:=bx
  exact Z5f I2 hN hi hx r2 (fun s3 I3=>⟨_,H2,I3,q2⟩) hf
 rcases l with⟨hk,hm⟩ | ⟨hk,c,hc,cR⟩
 ·exact wpAny_loadName_local I.ok.kind hk hn hm go
 ·rcases hk with hk | hk
  ·exact wpAny_loadName_cell I.ok.kind hk hc cR go
  ·rcases hx with k | k
   ·have:X.env.scope.names.lookup x=some .free:=hk
    rw [k]at this;cases this
   ·have:X.env.scope.names.lookup x=some .free:=hk
    rw [k]at this;cases this
def W9p (to ti te:TE) (gr:V->V->Hp->VK->Prop) (jV:TIp) (gp:Q5x):TS:=fun D σ H=>to σ H fun o H1=>ti σ H1 fun i H2=>gr o i H2 fun x H3=>te σ H3 fun y H4=>jV x y H4 fun z H5=>gp o i z H5 fun H6=>D.nx σ H6
def PGet (X:Cx) (t:V->V->Hp->VK->Prop):Prop :=
 ∀(ae:Pn9) (s:Shared) (σ:St) (H:Hp) (o i:V) (ov iv:Value) (Q:VK),A0 X ae σ H s->C3 o ov->C3 i iv->t o i H Q ->
  wpAny (model X.prog X.w) X.A (getItem ov iv) (EP X ae σ Q) X.xe s
theorem W5q {o i e:Expr}{to ti te:TE}{gr:V->V->Hp->VK->Prop}{jV:TIp}{gp:Q5x}{op:Operator}{i5:Pos} (ho:PE X o to) (hi:PE X i ti) (hg:PGet X gr) (he:PE X e te) (hp:PIp X op jV) (hs:Z0z X gp)
  (ha:∀ov iv new,augStore i ov iv new=(do holding [new,ov,iv] (setItem ov iv new);release [new,ov,iv] [];pure .next):=by intros;rfl):PS X (.AugAssign (.Subscript o i i5) op e pos) (W9p to ti te gr jV gp):=by
 intro ae s σ H D I h
 refine wpAny_AugAssign_SubscriptAny (B4 (ho ae s σ H _ I h) fun ov s1 bx=>?_) ha
 obtain⟨x1,H1,I1,r1,q1⟩:=bx
 refine B4 (hi ae s1 σ H1 _ I1 q1) fun iv s2 bx=>?_
 obtain⟨x2,H2,I2,r2,q2⟩:=bx
 refine B4 (hg ae s2 σ H2 x1 x2 ov iv _ I2 r1 r2 q2) fun old s3 bx=>?_
 obtain⟨x3,H3,I3,r3,q3⟩:=bx
 refine B4 (he ae s3 σ H3 _ I3 q3) fun v s4 bx=>?_
 obtain⟨x4,H4,I4,r4,q4⟩:=bx
 refine B4 (hp ae s4 σ H4 x3 x4 old v _ I4 r3 r4 q4) fun new s5 bx=>?_
 obtain⟨x5,H5,I5,r5,q5⟩:=bx
 exact B4 (hs ae s5 σ H5 x1 x2 x5 ov iv new _ I5 r1 r2 r5 q5) fun _ s6 ⟨H6,I6,q6⟩=>⟨σ,H6,I6,q6⟩
noncomputable def ipI (f:Int->Int->Int):TIp:=fun x y H Q=>∃i j,x=.int i/\y=.int j/\Q (.int (f i j)) H
theorem W0f:PIp X .Add (ipI fun i j=>i+j):=by
 intro ae s σ H x y v u Q I r1 r2 h
 obtain⟨i,j,e1,e2,q⟩:=h
 subst e1;subst e2
 obtain⟨t,rfl⟩:=r1
 obtain⟨t',rfl⟩:=r2
 exact iadd_int ⟨.int _,H,I.tok _,⟨_,rfl⟩,q⟩
theorem W0g:PIp X .Sub (ipI fun i j=>i-j):=by
 intro ae s σ H x y v u Q I r1 r2 h
 obtain⟨i,j,e1,e2,q⟩:=h
 subst e1;subst e2
 obtain⟨t,rfl⟩:=r1
 obtain⟨t',rfl⟩:=r2
 exact isub_int ⟨.int _,H,I.tok _,⟨_,rfl⟩,q⟩
end
section
variable {X:Cx}{pos:Pos}
def V0b (c:TT) (tb:TS):TS:=fun D σ H=>∃W:Nat->St->Hp->Prop,(∃m,W m σ H)/\∀m σ H,W m σ H ->
 c σ H fun b H1=>if b=true then ∃N:St->Hp->Prop,(∀ σ' H',N σ' H'->∃m',m'<m/\W m' σ' H')/\tb { D with nx:=N,ct:=N,bk:=D.nx } σ H1 else D.nx σ H1
theorem W5u {c:Expr}{body:List Stmt}{tc:TT}{tb:TS} (hp:PassesOwn (model X.prog X.w) X.A X.env X.xe) (hc:PT X c tc) (hb:PSs X body tb):PS X (.While c body [] pos) (V0b tc tb):=by
 intro ae s σ H D I h
 obtain⟨W,⟨m0,w0⟩,turn⟩:=h
 refine wpAny_While (codeAny_whileLoop (fun n s'=>∃ σ' H',A0 X ae σ' H' s'/\W n σ' H') ?_ m0 ⟨σ,H,I,w0⟩)
 rintro n s1 ⟨σ1,H1,I1,w1⟩
 refine dz hp (B4 (hc ae s1 σ1 H1 _ I1 (turn n σ1 H1 w1)) fun b s2 bx=>?_)
 obtain⟨H2,I2,q2⟩:=bx
 cases b with
 | true =>
  obtain⟨N,hN,q2⟩:=q2
  rw [aC rfl]
  refine dz hp (B4 (hb ae s2 σ1 H2 _ I2 q2) fun f s3 q3=>?_)
  cases f with
  | next =>
   obtain⟨σ3,H3,I3,n3⟩:=q3
   obtain⟨m',hm,w3⟩:=hN σ3 H3 n3
   exact⟨m',hm,σ3,H3,I3,w3⟩
  | cont =>
   obtain⟨σ3,H3,I3,n3⟩:=q3
   obtain⟨m',hm,w3⟩:=hN σ3 H3 n3
   exact⟨m',hm,σ3,H3,I3,w3⟩
  | brk=>exact q3
  | ret v=>exact q3
 | false =>
  rw [ax aQ]
  exact wpAny_execs_nil ⟨σ1,H2,I2,q2⟩
end
structure It where
 go:Nat->Hp->Prop
 yld:Nat->Hp->V->Hp->Prop
 stop:Nat->Hp->Prop
def O4 (X:Cx) (ae:Pn9) (H:Hp) (b:Addr):Prop :=
 H b=none/\b≠X.env.locals/\b∉X.fs/\(b∈X.ex\/X.s₀.heap.objs.size<=b)/\(∀x c,X.env.cells.lookup x=some c->c≠b)/\∀p∈X.pn++ae,p.1≠b
theorem A0.fpOk {X:Cx}{ae:Pn9} {σ:St}{H H':Hp}{s:Shared}{b:Addr} (I:A0 X ae σ H s) (hb:s.heap.objs.size<=b) (hn:H' b=none):O4 X ae H' b:=by
 refine⟨hn,Nat.ne_of_gt (az I.lt hb),I.nofs hb,.inr (aV I.sz hb),fun x c e z=>?_,fun p hp z=>?_⟩
 ·obtain⟨v,q⟩:=I.cell x c e
  exact absurd (az q.lt (by rw [z];exact hb)) (aZ _)
 ·exact absurd (az (ay (I.pin p hp).1) (by rw [z];exact hb)) (aZ _)
structure Q1c (P:Program) (w:World) (K:Fg9) (tg:Expr) (J:It) (fp:List Addr) (it:Addr) (tn:Nat->Heap->Prop):Prop where
 mem:it∈fp
 obj:∀i h,tn i h->∀b∈fp,∃o,h.get? b=some o/\∀v,o.data≠.cell v
 keep:∀i h h',tn i h->(∀b∈fp,∀o,h.get? b=some o->h'.get? b=some o)->tn i h'
 item:∀(X:Cx),X.prog=P->X.w=w->X.K=K->X.calm=true->∀(i:Nat) (ae:Pn9) (s:Shared) (σ:St) (H:Hp) (E:VS9),A0 X ae σ H s->(∀b∈fp,O4 X ae H b)->tn i s.heap->J.go i H ->
  wpAny (model P w) X.A (pyNext (.ref it)) (fun r s1=>∃u,r=some u /\
   wpAny (model P w) X.A (letOwnedTupleGo tg (.ref it) u) (fun _ s2=>∃x H',A0 X ae σ H' s2/\C3 x u/\J.yld i H x H'/\tn (i+1) s2.heap/\∀b∈fp,H' b=none) E s1) E s
 done:∀(X:Cx),X.prog=P->X.w=w->X.K=K->X.calm=true->∀(i:Nat) (ae:Pn9) (s:Shared) (σ:St) (H:Hp) (E:VS9),A0 X ae σ H s->(∀b∈fp,O4 X ae H b)->tn i s.heap->J.stop i H ->
  wpAny (model P w) X.A (pyNext (.ref it)) (fun r s1=>r=none/\A0 X ae σ H s1) E s
 self:∀(A:Around) (i:Nat) (s:Shared) (Q:VS9) (E:VS9),tn i s.heap->Q (.ref it) s->wpAny (model P w) A (pyIter (.ref it)) Q E s
noncomputable abbrev TI:=St->Hp->(It->Hp->Prop)->Prop
def PIE (X:Cx) (ae:Pn9) (σ:St) (tg:Expr) (R:It->Hp->Prop) (iQ:Value) (s2:Shared):Prop :=
 ∃(it:Addr) (fp:List Addr) (tn:Nat->Heap->Prop) (J:It) (H':Hp),iQ=.ref it/\A0 X ae σ H' s2/\Q1c X.prog X.w X.K tg J fp it tn/\tn 0 s2.heap/\(∀b∈fp,O4 X ae H' b)/\R J H'
def PI (X:Cx) (tg iter:Expr) (wi:TI):Prop :=
 ∀(ae:Pn9) (s:Shared) (σ:St) (H:Hp) (R:It->Hp->Prop),A0 X ae σ H s->wi σ H R ->
  wpAny (model X.prog X.w) X.A (eval iter X.env) (fun v s1=>wpAny (model X.prog X.w) X.A (pyIter v) (PIE X ae σ tg R) X.xe s1) X.xe s
theorem Q6g {M:Model}{A:Around}{E:VS9}{s:Shared}{tg:Expr}{it:Addr}{u:Value}{o:Obj}{n:String}{vs:Array Value}{Q:Unit->Shared->Prop} (ho:s.heap.get? it=some o) (hc:o.cls=.type n) (hd:o.data=.fields vs)
  (hn:["enumerate","zip","dict_itemiterator","dict_reverseitemiterator","odict_iterator","itertools.zip_longest","itertools.pairwise"].contains n=false) (hQ:Q () s):wpAny M A (letOwnedTupleGo tg (.ref it) u) Q E s:=by
 unfold letOwnedTupleGo
 cases tg <;> first
  | exact aj hQ
  | (cases u <;> first
    | exact aj hQ
    | (refine aa (wpAny_load ho ?_)
       rw [hc,hd]
       show wpAny M A (if (["enumerate","zip","dict_itemiterator","dict_reverseitemiterator","odict_iterator","itertools.zip_longest","itertools.pairwise"].contains n&&vs[0]?==some (rawInt _))=true then _ else _) Q E s
       rw [ax (by intro h;rw [hn,Bool.false_and]at h;cases h)]
       exact aj hQ))
noncomputable def Itl (K:Fg9) (a:Addr):It :=
 ⟨fun i H=>∃xs x,E3 K H a xs/\xs[i]?=some x,fun i H x H'=>H'=H/\∀xs,E3 K H a xs->xs[i]?=some x,fun i H=>∃xs,E3 K H a xs/\xs.length<=i⟩
noncomputable def Itt (K:Fg9) (a:Addr):It :=
 ⟨fun i H=>∃xs x,D8 K H a xs/\xs[i]?=some x,fun i H x H'=>H'=H/\∀xs,D8 K H a xs->xs[i]?=some x,fun i H=>∃xs,D8 K H a xs/\xs.length<=i⟩
noncomputable def Itr (lo:Int) (n:Nat):It:=⟨fun i _=>i<n,fun i H x H'=>H'=H/\x=.int (lo+i),fun i _=>n<=i⟩
theorem V0i {P:Program}{w:World}{K:Fg9}{tg:Expr} (a it:Addr):Q1c P w K tg (Itl K a) [it] it (fun i h=>h.IsListIter it a i) where
 mem:=by simp
 obj:=fun i h st b hb=>by
  have e:b=it:=by simpa using hb
  subst e
  obtain⟨o,e,c,d⟩:=st
  exact⟨o,e,fun v z=>by rw [d]at z;cases z⟩
 keep:=fun i h h' st k=>st.at fun o e=>k it (by simp) o e
 item:=by
  intro X hP hw hK hc i ae s σ H E I hf st hg
  subst hP hw hK
  obtain⟨xs,x,hq,hx⟩:=hg
  obtain⟨aT,rv,p,hz⟩:=I.list hq
  obtain⟨u,hu,ru⟩:=rv.get hx
  obtain⟨f0,f1,f2,f3,f4,f5⟩:=hf it (by simp)
  refine wpAny_pyNext_list_item st p.isList (x:=u) (by simpa using hu) fun h' fM sb=>?_
  have I1:A0 X ae σ H { s with heap:=h' }:=I.turned (t':=s.toks) (fun b o hb e=>(sb.2 b hb).trans e) f0 f1 f3 f4 f5
  obtain⟨o,e,c,d⟩:=id fM
  exact⟨u,rfl,Q6g (s:={ s with heap:=h' }) e c d (by decide) ⟨x,H,I1,ru,⟨rfl,fun ys hy=>by rw [I.list_inj hy hq];exact hx⟩,fM,fun b hb=>(hf b hb).1⟩⟩
 done:=by
  intro X hP hw hK hc i ae s σ H E I hf st hg
  subst hP hw hK
  obtain⟨xs,hq,hx⟩:=hg
  obtain⟨aT,rv,p,hz⟩:=I.list hq
  obtain⟨f0,f1,f2,f3,f4,f5⟩:=hf it (by simp)
  have hl:=rv.length
  exact wpAny_pyNext_list_end (I.ok.hd hc) st p.isList (by simp;omega) fun h' eb=>⟨rfl,I.turned (t':=s.toks) (fun b o hb e=>eb b o hb e) f0 f1 f3 f4 f5⟩
 self:=fun _ _ _ _ _ st h=>wpAny_pyIter_listiter st h
theorem V0l {P:Program}{w:World}{K:Fg9}{tg:Expr} (a it:Addr):Q1c P w K tg (Itt K a) [it] it (fun i h=>h.IsTupleIter it a i) where
 mem:=by simp
 obj:=fun i h st b hb=>by
  have e:b=it:=by simpa using hb
  subst e
  obtain⟨o,e,c,d⟩:=st
  exact⟨o,e,fun v z=>by rw [d]at z;cases z⟩
 keep:=fun i h h' st k=>st.at fun o e=>k it (by simp) o e
 item:=by
  intro X hP hw hK hc i ae s σ H E I hf st hg
  subst hP hw hK
  obtain⟨xs,x,hq,hx⟩:=hg
  obtain⟨aT,rv,p,hz⟩:=I.tuple hq
  obtain⟨u,hu,ru⟩:=rv.get hx
  obtain⟨f0,f1,f2,f3,f4,f5⟩:=hf it (by simp)
  refine wpAny_pyNext_tuple_item st (show s.heap.IsTuple a aT.toArray from p) (x:=u) (by simpa using hu) fun h' fM sb=>?_
  have I1:A0 X ae σ H { s with heap:=h' }:=I.turned (t':=s.toks) (fun b o hb e=>(sb.2 b hb).trans e) f0 f1 f3 f4 f5
  obtain⟨o,e,c,d⟩:=id fM
  exact⟨u,rfl,Q6g (s:={ s with heap:=h' }) e c d (by decide) ⟨x,H,I1,ru,⟨rfl,fun ys hy=>by rw [I.tuple_inj hy hq];exact hx⟩,fM,fun b hb=>(hf b hb).1⟩⟩
 done:=by
  intro X hP hw hK hc i ae s σ H E I hf st hg
  subst hP hw hK
  obtain⟨xs,hq,hx⟩:=hg
  obtain⟨aT,rv,p,hz⟩:=I.tuple hq
  obtain⟨f0,f1,f2,f3,f4,f5⟩:=hf it (by simp)
  have hl:=rv.length
  exact wpAny_pyNext_tuple_end (I.ok.hd hc) st (show s.heap.IsTuple a aT.toArray from p) (by simp;omega) fun h' eb=>⟨rfl,I.turned (t':=s.toks) (fun b o hb e=>eb b o hb e) f0 f1 f3 f4 f5⟩
 self:=fun _ _ _ _ _ st h=>wpAny_pyIter_tupleiter st h
theorem V0j {P:Program}{w:World}{K:Fg9}{tg:Expr} (it:Addr) (lo:Int) (n:Nat):Q1c P w K tg (Itr lo n) [it] it (fun i h=>IsRangeIter h it (lo+(i:Nat)*1) ((n:Int)-(i:Nat)) 1) where
 mem:=by simp
 obj:=fun i h st b hb=>by
  have e:b=it:=by simpa using hb
  subst e
  exact⟨_,st,fun v z=>by
   have z':Data.fields _=Data.cell v:=z
   cases z'⟩
 keep:=fun i h h' st k=>k it (by simp) _ st
 item:=by
  intro X hP hw hK hc i ae s σ H E I hf st hg
  subst hP hw hK
  obtain⟨f0,f1,f2,f3,f4,f5⟩:=hf it (by simp)
  have W:=Walks.range (prog:=X.prog) (w:=X.w) (I.ok.hd hc) it lo 1 n
  refine W.item i s _ _ hg st fun v h' tk hv fM kk=>?_
  obtain⟨t,rfl⟩:=hv
  have I1:A0 X ae σ H { s with heap:=h',toks:=tk }:=I.turned (fun b o hb e=>kk b o (by simpa using hb) e) f0 f1 f3 f4 f5
  refine⟨_,rfl,Q6g (s:={ s with heap:=h',toks:=tk }) (n:="range_iterator") fM rfl rfl (by decide) ⟨.int (lo+i),H,I1,⟨t,?_⟩,⟨rfl,rfl⟩,fM,fun b hb=>(hf b hb).1⟩⟩
  rw [Int.mul_one]
 done:=by
  intro X hP hw hK hc i ae s σ H E I hf st hg
  subst hP hw hK
  obtain⟨f0,f1,f2,f3,f4,f5⟩:=hf it (by simp)
  exact wpAny_pyNext_range_end (I.ok.hd hc) st (by have:n<=i:=hg;omega) fun h' eb=>⟨rfl,I.turned (t':=s.toks) (fun b o hb e=>eb b o hb e) f0 f1 f3 f4 f5⟩
 self:=fun _ _ _ _ _ st h=>wpAny_pyIter_rangeiter st h
end L2
namespace L2
open PySem PySem.Spec PyProof.Rows
section
variable {X:Cx}{tg:Expr}
noncomputable def Y9q (K:Fg9) (tl:TE):TI:=fun σ H R=>tl σ H fun x H1=>∃a,x=.ref a/\(∃xs,E3 K H1 a xs)/\R (Itl K a) H1
noncomputable def Q6i (K:Fg9) (tl:TE):TI:=fun σ H R=>tl σ H fun x H1=>∃a,x=.ref a/\(∃xs,D8 K H1 a xs)/\R (Itt K a) H1
theorem Z4b {l:Expr}{tl:TE} (hl:PE X l tl):PI X tg l (Y9q X.K tl):=by
 intro ae s σ H R I h
 refine B4 (hl ae s σ H _ I h) fun v s1 bx=>?_
 obtain⟨x,H1,I1,r1,q1⟩:=bx
 obtain⟨a,e,⟨xs,hq⟩,q⟩:=q1
 subst e
 cases r1
 obtain⟨aT,rv,p,hz⟩:=I1.list hq
 refine wpAny_pyIter_list p.isList ?_
 refine⟨s1.heap.objs.size,[s1.heap.objs.size],_,_,H1,rfl,I1.kept (t':=s1.toks) fun b o e=>af _ e,V0i a _,⟨_,aH _ rfl,rfl,rfl⟩,fun b hb=>?_,q⟩
 have e:b=s1.heap.objs.size:=by simpa using hb
 subst e
 exact I1.fpOk (ao _) (I1.hok.fresh (ao _))
theorem Y1w {l:Expr}{tl:TE} (hl:PE X l tl):PI X tg l (Q6i X.K tl):=by
 intro ae s σ H R I h
 refine B4 (hl ae s σ H _ I h) fun v s1 bx=>?_
 obtain⟨x,H1,I1,r1,q1⟩:=bx
 obtain⟨a,e,⟨xs,hq⟩,q⟩:=q1
 subst e
 cases r1
 obtain⟨aT,rv,p,hz⟩:=I1.tuple hq
 refine wpAny_pyIter_tuple (show s1.heap.IsTuple a aT.toArray from p) ?_
 refine⟨s1.heap.objs.size,[s1.heap.objs.size],_,_,H1,rfl,I1.kept (t':=s1.toks) fun b o e=>af _ e,V0l a _,⟨_,aH _ rfl,rfl,rfl⟩,fun b hb=>?_,q⟩
 have e:b=s1.heap.objs.size:=by simpa using hb
 subst e
 exact I1.fpOk (ao _) (I1.hok.fresh (ao _))
theorem W6n {ae:Pn9} {σ:St}{H:Hp}{s:Shared}{R:It->Hp->Prop}{E:VS9}{lo hi:Int}{t u v:Tok}{tk:Nat} (I:A0 X ae σ H s) (h1:-(2 ^ 62)<=lo) (h2:lo<2 ^ 62) (h3:-(2 ^ 62)<=hi) (h4:hi<2 ^ 62)
  (q:R (Itr lo (hi-lo).toNat) H):wpAny (model X.prog X.w) X.A (pyIter (.ref s.heap.objs.size)) (PIE X ae σ tg R) E { s with heap:=s.heap.push { cls:=.type "range",data:=.fields #[.int lo t,.int hi u,.int 1 v] },toks:=tk }:=by
 refine wpAny_pyIter_range (IsRange.new ..) (small_one h1 h2 h3 h4) ?_
 have I1:A0 X ae σ H { s with heap:=s.heap.push { cls:=.type "range",data:=.fields #[.int lo t,.int hi u,.int 1 v] },toks:=tk }:=I.kept fun b o e=>af _ e
 refine⟨(s.heap.push { cls:=.type "range",data:=.fields #[.int lo t,.int hi u,.int 1 v] }).objs.size,[(s.heap.push { cls:=.type "range",data:=.fields #[.int lo t,.int hi u,.int 1 v] }).objs.size],_,_,H,rfl,
  I1.kept (t':=tk) fun b o e=>af _ e,V0j _ lo (hi-lo).toNat,?_,fun b hb=>?_,q⟩
 ·have e1:lo+((0:Nat):Int)*1=lo:=by simp
  have e2:(((hi-lo).toNat:Nat):Int)-((0:Nat):Int)=Builtin.Range.rangeSize lo hi 1:=by rw [rangeSize_one];split <;> omega
  show IsRangeIter _ _ (lo+((0:Nat):Int)*1) ((((hi-lo).toNat:Nat):Int)-((0:Nat):Int)) 1
  rw [e1,e2]
  exact aH _ rfl
 ·have e:b=(s.heap.push { cls:=.type "range",data:=.fields #[.int lo t,.int hi u,.int 1 v] }).objs.size:=by simpa using hb
  subst e
  exact I1.fpOk (ao _) (I1.hok.fresh (ao _))
noncomputable def Y4 (ta:TA):TI:=fun σ H R=>ta σ H fun vs H1=>∃j:Int,vs=[.int j]/\-(2 ^ 62)<=j/\j<2 ^ 62/\R (Itr 0 j.toNat) H1
theorem Y1v {a:Expr}{ta:TA}{p pos:Pos} (hg:Gl X "range") (hm:X.mg "range"=none) (ha:PA X [a] ta) (hs:starEach [a] X.env=[(false,eval a X.env)]:=by rfl):PI X tg (.Call (.Name "range" p) [a] [] pos) (Y4 ta):=by
 intro ae s σ H R I h
 refine Call_ (Q0p I hg hm boot_range (bt (B4 (ha pos ae s σ H _ I h) fun us s1 bx=>?_) hs rfl))
 obtain⟨vs,H1,I1,r1,q1⟩:=bx
 obtain⟨j,e,q1,q2,q⟩:=q1
 subst e
 cases r1 with
 | cons r rr =>
  cases rr
  obtain⟨t,rfl⟩:=r
  exact call_range_1 (W6n I1 (by omega) (by omega) q1 q2 (by simpa using q))
def tFor (wi:TI) (g:TG) (tb:TS):TS:=fun D σ H=>wi σ H fun J H1=>∃W:Nat->Nat->St->Hp->Prop,(∃m,W 0 m σ H1)/\∀i m σ H,W i m σ H ->
 (J.stop i H/\D.nx σ H)\/(J.go i H/\∃N:St->Hp->Prop,(∀ σ' H',N σ' H'->∃m',m'<m/\W (i+1) m' σ' H')/\∀x H',J.yld i H x H'->g x σ H' fun σ2 H2=>tb { D with nx:=N,ct:=N,bk:=D.nx } σ2 H2)
noncomputable def X5 (fp:List Addr) (h:Heap):Pn9:=fp.filterMap fun b=>(h.get? b).map fun o=>(b,o)
theorem Q2r {fp:List Addr}{h:Heap}{b:Addr}{o:Obj} (hb:b∈fp) (e:h.get? b=some o):(b,o)∈X5 fp h:=List.mem_filterMap.mpr ⟨b,hb,by rw [e];rfl⟩
theorem Q9b {fp:List Addr}{h:Heap}{p:Addr×Obj} (hp:p∈X5 fp h):p.1∈fp/\h.get? p.1=some p.2:=by
 obtain⟨b,hb,e⟩:=List.mem_filterMap.mp hp
 cases q:h.get? b with
 | none=>rw [q]at e;cases e
 | some o =>
  rw [q]at e
  have e':(b,o)=p:=aA e
  subst e'
  exact⟨hb,q⟩
theorem A0.pinned {ae:Pn9} {σ:St}{H:Hp}{s:Shared}{fp:List Addr} (I:A0 X ae σ H s) (hf:∀b∈fp,O4 X ae H b) (ho:∀b∈fp,∃o,s.heap.get? b=some o/\∀v,o.data≠.cell v):A0 X (ae++X5 fp s.heap) σ H s :=
 I.pins_of fun p hp=>(aN.mp hp).elim (fun z=>I.pin p (aF _ z)) fun z=>by
  obtain⟨hb,e⟩:=Q9b z
  obtain⟨f0,f1,f2,_⟩:=hf p.1 hb
  obtain⟨o,e',d⟩:=ho p.1 hb
  rw [e]at e';cases e'
  exact⟨e,f0,f1,f2,d⟩
theorem A0.unpinned {ae pl:Pn9} {σ:St}{H:Hp}{s:Shared} (I:A0 X (ae++pl) σ H s):A0 X ae σ H s:=I.pins_of fun p hp=>I.pin p (aF _ (bP _ hp))
theorem W5s {iter:Expr}{body:List Stmt}{wi:TI}{g:TG}{tb:TS}{pos:Pos} (hp:PassesOwn (model X.prog X.w) X.A X.env X.xe) (hc:X.calm=true) (hi:PI X tg iter wi) (hg:PG X tg g) (hb:PSs X body tb)
  (hs:∀x,foldedSetIterable iter X.env x=pure x:=by intro _;rfl):PS X (.For tg iter body [] pos) (tFor wi g tb):=by
 intro ae s σ H D I h
 refine wpAny_For (B4 (hi ae s σ H _ I h) fun v s1 h1=>B4 h1 fun iQ s2 h2=>?_) hs
 obtain⟨it,fp,tn,J,H2,e,I2,T,dI,f2,W,⟨m0,w0⟩,turn⟩:=h2
 subst e
 have i6:∀{H':Hp},(∀b∈fp,H' b=none)->∀b∈fp,O4 X ae H' b:=fun hn b hb=>⟨hn b hb,(f2 b hb).2⟩
 refine codeAny_forLoop_any (fun n s'=>∃i σ' H',A0 X ae σ' H' s'/\tn i s'.heap/\(∀b∈fp,H' b=none)/\W i n σ' H') ?_ m0 ⟨0,σ,H2,I2,dI,fun b hb=>(f2 b hb).1,w0⟩
 rintro n s3 ⟨i,σ3,H3,I3,fL,g6,w3⟩
 rcases turn i n σ3 H3 w3 with⟨stop,qn⟩ | ⟨go,N,hN,step⟩
 ·refine dz hp (B4 (T.done X rfl rfl rfl hc i ae s3 σ3 H3 X.xe I3 (i6 g6) fL stop) fun r s4 bx=>?_)
  obtain⟨hr,I4⟩:=bx
  subst hr
  exact wpAny_execs_nil ⟨σ3,H3,I4,qn⟩
 ·refine dz hp (B4 (T.item X rfl rfl rfl hc i ae s3 σ3 H3 X.xe I3 (i6 g6) fL go) fun r s4 bx=>?_)
  obtain⟨u,hr,h4⟩:=bx
  subst hr
  refine dz hp (B4 h4 fun _ s5 bx=>?_)
  obtain⟨x,H5,I5,r5,y5,eL,iJ⟩:=bx
  have iL:=I5.pinned (i6 iJ) (T.obj _ _ eL)
  refine dz hp (B4 (hg _ s5 σ3 H5 x u _ iL r5 (step x H5 y5)) fun _ s6 bx=>?_)
  obtain⟨σ6,H6,I6,q6⟩:=bx
  refine dz hp (B4 (hb _ s6 σ6 H6 _ I6 q6) fun f s7 q7=>?_)
  have again:∀{σ7:St}{H7:Hp},A0 X (ae++X5 fp s5.heap) σ7 H7 s7->N σ7 H7->∃m,m<n/\∃i σ' H',A0 X ae σ' H' s7/\tn i s7.heap/\(∀b∈fp,H' b=none)/\W i m σ' H':=fun {σ7 H7} I7 n7=>by
   obtain⟨m',hm,w7⟩:=hN σ7 H7 n7
   refine⟨m',hm,i+1,σ7,H7,I7.unpinned,T.keep _ _ _ eL fun b hb o e=>(I7.pin (b,o) (aF _ (aF _ (Q2r hb e)))).1,fun b hb=>?_,w7⟩
   obtain⟨o,e,d⟩:=T.obj _ _ eL b hb
   exact(I7.pin (b,o) (aF _ (aF _ (Q2r hb e)))).2.1
  cases f with
  | next=>obtain⟨σ7,H7,I7,n7⟩:=q7;exact again I7 n7
  | cont=>obtain⟨σ7,H7,I7,n7⟩:=q7;exact again I7 n7
  | brk=>obtain⟨σ7,H7,I7,q7⟩:=q7;exact⟨σ7,H7,I7.unpinned,q7⟩
  | ret v=>obtain⟨x7,σ7,H7,I7,r7,q7⟩:=q7;exact⟨x7,σ7,H7,I7.unpinned,r7,q7⟩
end
end L2
namespace L2
open PySem PySem.Spec PyProof.Rows
noncomputable abbrev R2:=V->V->Hp->VK->Prop
def L9 (X:Cx) (f:Value->Value->Sem Value) (r:R2):Prop :=
 ∀(ae:Pn9) (s:Shared) (σ:St) (H:Hp) (x y:V) (v u:Value) (Q:VK),A0 X ae σ H s->C3 x v->C3 y u->r x y H Q ->
  wpAny (model X.prog X.w) X.A (f v u) (EP X ae σ Q) X.xe s
def UnR (X:Cx) (f:Value->Sem Value) (r:V->Hp->VK->Prop):Prop :=
 ∀(ae:Pn9) (s:Shared) (σ:St) (H:Hp) (x:V) (v:Value) (Q:VK),A0 X ae σ H s->C3 x v->r x H Q ->
  wpAny (model X.prog X.w) X.A (f v) (EP X ae σ Q) X.xe s
def Q3j (X:Cx) (f:Value) (r:List V->Hp->VK->Prop):Prop :=
 ∀(ae:Pn9) (s:Shared) (σ:St) (H:Hp) (xs:List V) (us:List Value) (Q:VK),A0 X ae σ H s->B7 xs us->r xs H Q ->
  wpAny (model X.prog X.w) X.A (call f us) (EP X ae σ Q) X.xe s
def TruR (X:Cx) (r:V->Hp->(Bool->Hp->Prop)->Prop):Prop :=
 ∀(ae:Pn9) (s:Shared) (σ:St) (H:Hp) (x:V) (v:Value) (Q:Bool->Hp->Prop),A0 X ae σ H s->C3 x v->r x H Q ->
  wpAny (model X.prog X.w) X.A (truthy v) (TP X ae σ Q) X.xe s
def tOp (r:R2) (ta tb:TE):TE:=fun σ H Q=>ta σ H fun x H1=>tb σ H1 fun y H2=>r x y H2 Q
def tUn (r:V->Hp->VK->Prop) (ta:TE):TE:=fun σ H Q=>ta σ H fun x H1=>r x H1 Q
def rI (C:Int->Int->Prop) (g:Int->Int->V):R2:=fun x y H Q=>∃i j,x=.int i/\y=.int j/\C i j/\Q (g i j) H
def rI0 (g:Int->Int->V):R2:=fun x y H Q=>∃i j,x=.int i/\y=.int j/\Q (g i j) H
noncomputable def rU (g:Int->V):V->Hp->VK->Prop:=fun x H Q=>∃i,x=.int i/\Q (g i) H
section
variable {X:Cx}{a b c:Expr}{ta tb tc:TE}{pos:Pos}
theorem Z1j (ha:PE X a ta) (hb:PE X b tb) {ae:Pn9}{s:Shared} {σ:St}{H:Hp}{R:V->V->Hp->Prop} (I:A0 X ae σ H s)
  (h:ta σ H fun x H1=>tb σ H1 fun y H2=>R x y H2) {Q:VS9}{f:Value->Value->Sem Value}
  (hf:∀v u s2 x y H2,A0 X ae σ H2 s2->C3 x v->C3 y u->R x y H2->wpAny (model X.prog X.w) X.A (f v u) Q X.xe s2) :
  wpAny (model X.prog X.w) X.A (eval a X.env) (fun v s₁=>wpAny (model X.prog X.w) X.A (eval b X.env) (fun u s₂=>wpAny (model X.prog X.w) X.A (f v u) Q X.xe s₂) X.xe s₁) X.xe s:=by
 refine B4 (ha ae s σ H _ I h) fun v s1 bx=>?_
 obtain⟨x,H1,I1,r1,q1⟩:=bx
 refine B4 (hb ae s1 σ H1 _ I1 q1) fun u s2 bx=>?_
 obtain⟨y,H2,I2,r2,q2⟩:=bx
 exact hf v u s2 x y H2 I2 r1 r2 q2
theorem W4x {op:Operator}{r:R2} (ho:L9 X (binaryOp op) r) (ha:PE X a ta) (hb:PE X b tb):PE X (.BinOp a op b pos) (tOp r ta tb):=by
 intro ae s σ H Q I h
 exact wpAny_BinOp (Z1j ha hb I h fun v u s2 x y H2 I2 rx ry q=>ho ae s2 σ H2 x y v u Q I2 rx ry q)
theorem W5b {op:UnaryOp}{r:V->Hp->VK->Prop} (ho:UnR X (unaryOp op) r) (ha:PE X a ta):PE X (.UnaryOp op a pos) (tUn r ta):=by
 intro ae s σ H Q I h
 exact UnaryOp_ (B4 (ha ae s σ H _ I h) fun v s1 ⟨x,H1,I1,r1,q1⟩=>ho ae s1 σ H1 x v Q I1 r1 q1)
theorem opI {f:Value->Value->Sem Value}{C:Int->Int->Prop}{g:Int->Int->Int}
  (rule:∀(i j:Int) (t u:Tok) (s:Shared) (Q:VS9) (E:VS9),C i j->Q (.int (g i j) s.toks) { s with toks:=s.toks+1 }->wpAny (model X.prog X.w) X.A (f (.int i t) (.int j u)) Q E s) :
  L9 X f (rI C fun i j=>.int (g i j)):=by
 intro ae s σ H x y v u Q I rx ry h
 obtain⟨i,j,rfl,rfl,hc,q⟩:=h
 obtain⟨t,rfl⟩:=rx
 obtain⟨t',rfl⟩:=ry
 exact rule i j t t' s _ _ hc ⟨.int (g i j),H,I.tok _,⟨_,rfl⟩,q⟩
theorem Z3x {f:Value->Value->Sem Value}{g:Int->Int->Int}
  (rule:∀(i j:Int) (t u:Tok) (s:Shared) (Q:VS9) (E:VS9),Q (.int (g i j) s.toks) { s with toks:=s.toks+1 }->wpAny (model X.prog X.w) X.A (f (.int i t) (.int j u)) Q E s) :
  L9 X f (rI0 fun i j=>.int (g i j)):=by
 intro ae s σ H x y v u Q I rx ry h
 obtain⟨i,j,rfl,rfl,q⟩:=h
 obtain⟨t,rfl⟩:=rx
 obtain⟨t',rfl⟩:=ry
 exact rule i j t t' s _ _ ⟨.int (g i j),H,I.tok _,⟨_,rfl⟩,q⟩
theorem Q9d {f:Value->Value->Sem Value}{g:Int->Int->Bool}
  (rule:∀(i j:Int) (t u:Tok) (s:Shared) (Q:VS9) (E:VS9),Q (.bool (g i j)) s->wpAny (model X.prog X.w) X.A (f (.int i t) (.int j u)) Q E s) :
  L9 X f (rI0 fun i j=>.bl (g i j)):=by
 intro ae s σ H x y v u Q I rx ry h
 obtain⟨i,j,rfl,rfl,q⟩:=h
 obtain⟨t,rfl⟩:=rx
 obtain⟨t',rfl⟩:=ry
 exact rule i j t t' s _ _ ⟨.bl (g i j),H,I,rfl,q⟩
def Q0x (i j:Int):Prop:=0<j/\j<1073741824
def Q2i (i j:Int):Prop:=(-(2 ^ 64)<i/\i<2 ^ 64)\/(-(2 ^ 64)<j/\j<2 ^ 64)
theorem Q2i.ok {i j:Int} (h:Q2i i j):IntMulOk i j:=by
 rcases h with⟨h1,h2⟩ | ⟨h1,h2⟩
 ·exact .of_left (intBits_le_64 h1 h2)
 ·exact .of_right (intBits_le_64 h1 h2)
theorem W3r:L9 X (binaryOp .Add) (rI0 fun i j=>.int (i+j)):=Z3x fun _ _ _ _ _ _ _ q=>add_int q
theorem W4g:L9 X (binaryOp .Sub) (rI0 fun i j=>.int (i-j)):=Z3x fun _ _ _ _ _ _ _ q=>sub_int q
theorem W4c:L9 X (binaryOp .Mult) (rI Q2i fun i j=>.int (i*j)):=opI fun _ _ _ _ _ _ _ hc q=>mul_int q hc.ok
theorem W3v:L9 X (binaryOp .FloorDiv) (rI Q0x fun i j=>.int (i / j)):=opI fun i j _ _ _ _ _ hc q=>by
 have h1:(0:Int)<j:=hc.1
 have h2:j<1073741824:=hc.2
 exact floordiv_int (by omega) (by rw [Int.fdiv_eq_ediv_of_nonneg i (by omega)];exact q) (.inl (PyProof.noPylong_small (by omega)))
theorem W4b:L9 X (binaryOp .Mod) (rI (fun _ j=>0<j) fun i j=>.int (i % j)):=opI fun i j _ _ _ _ _ hc q=>by
 have h1:(0:Int)<j:=hc
 exact mod_int' (by omega) (by rw [Int.fmod_eq_emod_of_nonneg i (by omega)];exact q)
theorem W0e:L9 X (inplaceOp .Add) (rI0 fun i j=>.int (i+j)):=Z3x fun _ _ _ _ _ _ _ q=>iadd_int q
theorem unI {f:Value->Sem Value}{g:Int->Int}
  (rule:∀(i:Int) (t:Tok) (s:Shared) (Q:VS9) (E:VS9),Q (.int (g i) s.toks) { s with toks:=s.toks+1 }->wpAny (model X.prog X.w) X.A (f (.int i t)) Q E s) :
  UnR X f (rU fun i=>.int (g i)):=by
 intro ae s σ H x v Q I rx h
 obtain⟨i,rfl,q⟩:=h
 obtain⟨t,rfl⟩:=rx
 exact rule i t s _ _ ⟨.int (g i),H,I.tok _,⟨_,rfl⟩,q⟩
theorem V0o:UnR X (unaryOp .USub) (rU fun i=>.int (-i)):=unI fun _ _ _ _ _ q=>neg_int q
end
noncomputable def scal:V->V->Bool
 | .non,.non=>true | .non,.int _=>true | .int _,.non=>true | .non,.bl _=>true | .bl _,.non=>true | .non,.str _=>true | .str _,.non=>true
 | .int _,.int _=>true | .bl _,.bl _=>true | .str _,.str _=>true | .byt _,.byt _=>true
 | .int _,.str _=>true | .str _,.int _=>true | .bl _,.str _=>true | .str _,.bl _=>true
 | _,_=>false
def rNe:R2:=fun x y H Q=>scal x y=true/\Q (.bl (!decide (x=y))) H
theorem Z9d {i j:Int}:decide (V.int i=V.int j)=(i==j):=by
 rw [Bool.eq_iff_iff]
 simp
theorem Z9c {i j:Bool}:decide (V.bl i=V.bl j)=(i==j):=by
 rw [Bool.eq_iff_iff]
 simp
theorem Z9e {i j:Str}:decide (V.str i=V.str j)=(i==j):=by
 rw [Bool.eq_iff_iff]
 simp
theorem Y8i {i j:Array UInt8}:decide (V.byt i=V.byt j)=(i.toList==j.toList):=by
 rw [Bool.eq_iff_iff]
 cases i
 cases j
 simp
section
variable {X:Cx}{a b c:Expr}{ta tb tc:TE}{pos:Pos}
theorem T9 {ae:Pn9} {σ:St}{H:Hp}{s:Shared}{Q:VK}{k k':Bool} (I:A0 X ae σ H s) (q:Q (.bl k) H) (e:k=k'):EP X ae σ Q (.bool k') s:=by
 subst e
 exact⟨.bl k,H,I,rfl,q⟩
theorem W4d:L9 X (compareOp .NotEq) rNe:=by
 intro ae s σ H x y v u Q I rx ry h
 obtain⟨hs,q⟩:=h
 cases x with
 | non =>
  cases rx
  cases y with
  | non=>cases ry;exact PySem.EqNone.ne_none_none (T9 I q (by simp))
  | bl j=>cases ry;exact PySem.EqNone.ne_none_bool (T9 I q (by simp))
  | int j=>obtain⟨t',rfl⟩:=ry;exact PySem.EqNone.ne_none_int (T9 I q (by simp))
  | str j=>obtain⟨t',rfl⟩:=ry;exact PySem.EqNone.ne_none_str (T9 I q (by simp))
  | _=>exact absurd (show false=true from hs) aQ
 | bl i =>
  cases rx
  cases y with
  | non=>cases ry;exact PySem.EqNone.ne_bool_none (T9 I q (by simp))
  | bl j=>cases ry;exact ne_bool (T9 I q (congrArg not Z9c))
  | str j=>obtain⟨t',rfl⟩:=ry;exact PySem.EqMixed.ne_bool_str (T9 I q (by simp))
  | _=>exact absurd (show false=true from hs) aQ
 | int i =>
  obtain⟨t,rfl⟩:=rx
  cases y with
  | non=>cases ry;exact PySem.EqNone.ne_int_none (T9 I q (by simp))
  | int j=>obtain⟨t',rfl⟩:=ry;exact ne_int (T9 I q (congrArg not Z9d))
  | str j=>obtain⟨t',rfl⟩:=ry;exact PySem.EqMixed.ne_int_str (T9 I q (by simp))
  | _=>exact absurd (show false=true from hs) aQ
 | str i =>
  obtain⟨t,rfl⟩:=rx
  cases y with
  | non=>cases ry;exact PySem.EqNone.ne_str_none (T9 I q (by simp))
  | bl j=>cases ry;exact PySem.EqMixed.ne_str_bool (T9 I q (by simp))
  | int j=>obtain⟨t',rfl⟩:=ry;exact PySem.EqMixed.ne_str_int (T9 I q (by simp))
  | str j=>obtain⟨t',rfl⟩:=ry;exact ne_str (T9 I q (congrArg not Z9e))
  | _=>exact absurd (show false=true from hs) aQ
 | byt i =>
  obtain⟨t,rfl⟩:=rx
  cases y with
  | byt j=>obtain⟨t',rfl⟩:=ry;exact PySem.W.ne_bytes (T9 I q (congrArg not Y8i))
  | _=>exact absurd (show false=true from hs) aQ
 | _=>cases y <;> exact absurd (show false=true from hs) aQ
theorem W4a:L9 X (compareOp .Lt) (rI0 fun i j=>.bl (decide (i<j))):=Q9d fun _ _ _ _ _ _ _ q=>lt_int q
theorem W3z:L9 X (compareOp .LtE) (rI0 fun i j=>.bl (decide (i<=j))):=Q9d fun _ _ _ _ _ _ _ q=>le_int q
theorem W3x:L9 X (compareOp .Gt) (rI0 fun i j=>.bl (decide (j<i))):=Q9d fun _ _ _ _ _ _ _ q=>gt_int q
theorem W3w:L9 X (compareOp .GtE) (rI0 fun i j=>.bl (decide (j<=i))):=Q9d fun _ _ _ _ _ _ _ q=>ge_int q
theorem W3y:L9 X (compareOp .Is) (fun x y H Q=>y=.non/\Q (.bl (decide (x=.non))) H):=by
 intro ae s σ H x y v u Q I rx ry h
 obtain⟨rfl,q⟩:=h
 cases ry
 refine is_none_gen (T9 I q ?_)
 cases x <;> first
  | (cases rx;rfl)
  | (obtain⟨t,rfl⟩:=rx;rfl)
theorem W4e:L9 X (compareOp .IsNot) (fun x y H Q=>y=.non/\Q (.bl (!decide (x=.non))) H):=by
 intro ae s σ H x y v u Q I rx ry h
 obtain⟨rfl,q⟩:=h
 cases ry
 refine isnot_none_gen (T9 I q ?_)
 cases x <;> first
  | (cases rx;rfl)
  | (obtain⟨t,rfl⟩:=rx;rfl)
theorem G3 (b:Expr) {op:CmpOp} (h:op≠.In:=by decide) (h2:op≠.NotIn:=by decide):behindInMarks op b=false:=by
 have e1:(op==CmpOp.In)=false:=by cases op <;> first | rfl | exact absurd rfl h
 have e2:(op==CmpOp.NotIn)=false:=by cases op <;> first | rfl | exact absurd rfl h2
 cases b <;> simp [behindInMarks,e1,e2]
theorem W4n {op:CmpOp}{r:R2} (ho:L9 X (compareOp op) r) (ha:PE X a ta) (hb:PE X b tb) (hm:behindInMarks op b=false):PE X (.Compare a [op] [b] pos) (tOp r ta tb):=by
 intro ae s σ H Q I h
 exact wpAny_Compare1 (Z1j ha hb I h fun v u s2 x y H2 I2 rx ry q=>ho ae s2 σ H2 x y v u Q I2 rx ry q) hm
def V0a (t:TE):TT:=fun σ H Q=>t σ H fun x H'=>∃k,x=.bl k/\Q k H'
theorem W5z {op:CmpOp}{r:R2} (ho:L9 X (compareOp op) r) (ha:PE X a ta) (hb:PE X b tb) (hm:behindInMarks op b=false):PT X (.Compare a [op] [b] pos) (V0a (tOp r ta tb)):=by
 intro ae s σ H Q I h
 refine wpAny_isTrue_Compare1 (B4 (ha ae s σ H _ I h) fun v s1 ⟨x,H1,I1,r1,q1⟩=>B4 (hb ae s1 σ H1 _ I1 q1) fun u s2 ⟨y,H2,I2,r2,q2⟩ =>
  B4 (ho ae s2 σ H2 x y v u _ I2 r1 r2 q2) fun c s3 ⟨z,H3,I3,r3,k,e,q3⟩=>?_) hm
 subst e
 cases r3
 exact wpAny_truthy_bool ⟨H3,I3,q3⟩
def Z1c (K:Fg9) (x:V) (H:Hp) (k:Bool):Prop :=
 match x with
 | .non=>k=false
 | .bl b=>k=b
 | .int i=>k=(i != 0)
 | .str y=>y.length<=sizeLine/\k=((y.length:Int) != 0)
 | .byt y=>y.size<=sizeLine/\k=((y.size:Int) != 0)
 | .ref p=>(∃xs,E3 K H p xs/\k=!xs.isEmpty)\/(∃xs,D8 K H p xs/\k=!xs.isEmpty)\/∃kvs,H p=some (.dK kvs)/\k=!kvs.isEmpty
 | _=>False
theorem W0i {κ:Type}{kvs:List (κ×V)}{vs:List (κ×Value)} (r:KV kvs vs):(!vs.isEmpty)=!kvs.isEmpty:=by
 cases r <;> rfl
theorem Y0g {xs:List V}{aT:List Value} (r:B7 xs aT):(!aT.toArray.isEmpty)=!xs.isEmpty:=by
 cases r <;> simp
theorem Q2q:(sizeLine:Nat)<2 ^ 63:=by rw [fH];decide
theorem V0f:TruR X (fun x H Q=>∃k,Z1c X.K x H k/\Q k H):=by
 intro ae s σ H x v Q I rx h
 obtain⟨k,e,q⟩:=h
 have hl:=Q2q
 have hs:sizeLine=16777216:=fH
 cases x with
 | non =>
  cases rx
  have e':k=false:=e
  subst e'
  exact truthy_none ⟨H,I,q⟩
 | bl b =>
  cases rx
  have e':k=b:=e
  subst e'
  exact wpAny_truthy_bool ⟨H,I,q⟩
 | int i =>
  obtain⟨t,rfl⟩:=rx
  have e':k=(i != 0):=e
  subst e'
  exact PySem.P.truthy_int ⟨H,I,q⟩
 | str y =>
  obtain⟨t,rfl⟩:=rx
  obtain⟨hy,e'⟩:y.length<=sizeLine/\k=((y.length:Int) != 0):=e
  subst e'
  exact PySem.P.truthy_str (by omega) ⟨H,I.tok _,q⟩
 | byt y =>
  obtain⟨t,rfl⟩:=rx
  obtain⟨hy,e'⟩:y.size<=sizeLine/\k=((y.size:Int) != 0):=e
  subst e'
  exact PySem.W.truthy_bytes (by omega) ⟨H,I.tok _,q⟩
 | ref p =>
  cases rx
  have e':(∃xs,E3 X.K H p xs/\k=!xs.isEmpty)\/(∃xs,D8 X.K H p xs/\k=!xs.isEmpty)\/∃kvs,H p=some (.dK kvs)/\k=!kvs.isEmpty:=e
  rcases e' with⟨xs,hx,e'⟩ | ⟨xs,hx,e'⟩ | ⟨kvs,hx,e'⟩
  ·subst e'
   obtain⟨aT,r,pl,hz⟩:=I.list hx
   have bN:=r.length
   exact wpAny_truthy_list pl.isList (by simp only [aE];omega) ⟨H,I.tok _,by rw [Y0g r];exact q⟩
  ·subst e'
   obtain⟨aT,r,pl,hz⟩:=I.tuple hx
   have bN:=r.length
   exact truthy_tuple pl (by simp only [aE];omega) ⟨H,I.tok _,by rw [Y0g r];exact q⟩
  ·subst e'
   obtain⟨hz,hS,vs,r,m⟩:kvs.length<=sizeLine/\(p==sysModules)=false/\∃vs,KV kvs vs/\s.heap.DictOf (M3 X.prog X.w) p vs:=I.hok p _ hx
   have bN:kvs.length=vs.length:=Paired.length r
   exact wpAny_truthy_dict hS m (by omega) ⟨H,I.tok _,by rw [W0i r];exact q⟩
 | _=>exact(show False from e).elim
theorem W6b (ha:PE X a ta) (he:∀whole,isTrue a X.env whole=(do let v <- whole;standAt a.pos;holding [v] (truthy v))) :
  PT X a (fun σ H Q=>ta σ H fun x H'=>∃k,Z1c X.K x H' k/\Q k H'):=by
 intro ae s σ H Q I h
 exact isTrue_plain (B4 (ha ae s σ H _ I h) fun v s1 ⟨x,H1,I1,r1,q1⟩=>V0f ae s1 σ H1 x v Q I1 r1 q1) (he _)
theorem W3s:L9 X (binaryOp .Add) (fun x y H Q=>∃i j,x=.str i/\y=.str j/\i.length+j.length<=sizeLine/\Q (.str (i++j)) H):=by
 intro ae s σ H x y v u Q I rx ry h
 obtain⟨i,j,rfl,rfl,hz,q⟩:=h
 obtain⟨t,rfl⟩:=rx
 obtain⟨t',rfl⟩:=ry
 exact add_str (fun t' tk=>⟨.str (i++j),H,I.tok _,⟨_,rfl⟩,q⟩) hz
theorem X9 {x:V}{us:List Value} (r:B7 [x] us):∃u,us=[u]/\C3 x u:=by
 cases r with
 | cons r1 r2=>cases r2;exact⟨_,rfl,r1⟩
theorem Z5l {x y:V}{us:List Value} (r:B7 [x,y] us):∃u w',us=[u,w']/\C3 x u/\C3 y w':=by
 cases r with
 | cons r1 r2 =>
  cases r2 with
  | cons r3 r4=>cases r4;exact⟨_,_,rfl,r1,r3⟩
def LenV (K:Fg9) (x:V) (H:Hp) (n:Nat):Prop :=
 match x with
 | .str y=>y.length<=sizeLine/\n=y.length
 | .byt y=>y.size<=sizeLine/\n=y.size
 | .ref p=>(∃xs,E3 K H p xs/\n=xs.length)\/∃xs,D8 K H p xs/\n=xs.length
 | _=>False
theorem Q6c:Q3j X (.builtin "len") (fun xs H Q=>∃x n,xs=[x]/\LenV X.K x H n/\Q (.int n) H):=by
 intro ae s σ H xs us Q I r h
 obtain⟨x,n,rfl,e,q⟩:=h
 obtain⟨u,rfl,rx⟩:=X9 r
 have hl:=Q2q
 have hs:sizeLine=16777216:=fH
 cases x with
 | str y =>
  obtain⟨t,rfl⟩:=rx
  obtain⟨hy,e'⟩:y.length<=sizeLine/\n=y.length:=e
  subst e'
  exact len_str (by omega) ⟨.int _,H,I.tok _,⟨_,rfl⟩,q⟩
 | byt y =>
  obtain⟨t,rfl⟩:=rx
  obtain⟨hy,e'⟩:y.size<=sizeLine/\n=y.size:=e
  subst e'
  exact PySem.W.len_bytes (by omega) ⟨.int _,H,I.tok _,⟨_,rfl⟩,q⟩
 | ref p =>
  cases rx
  have e':(∃xs,E3 X.K H p xs/\n=xs.length)\/∃xs,D8 X.K H p xs/\n=xs.length:=e
  rcases e' with⟨xs,hx,e'⟩ | ⟨xs,hx,e'⟩
  ·subst e'
   obtain⟨aT,r',pl,hz⟩:=I.list hx
   have bN:=r'.length
   exact Calls.call_len_list pl.isList (by simp only [aE];omega) ⟨.int xs.length,H,I.tok _,⟨_,by simp only [aE];rw [bN]⟩,q⟩
  ·subst e'
   obtain⟨aT,r',pl,hz⟩:=I.tuple hx
   have bN:=r'.length
   exact len_tuple pl (by simp only [aE];omega) ⟨.int xs.length,H,I.tok _,⟨_,by simp only [aE];rw [bN]⟩,q⟩
 | _=>exact(show False from e).elim
end
end L2
namespace L2
open PySem PySem.Spec PyProof.Rows
structure Z0x (h:Heap) (x dx C:Addr) (mA:Str->Option Value):Prop where
 obj:h.get? x=some (PySem.W.instObj C dx)
 ns:h.Ns1 dx mA
 ne:dx≠x
theorem W1x {h:Heap}{dx:Addr}{mA:Str->Option Value} (n:h.Ns1 dx mA):∃od,h.get? dx=some od/\∀name,PySem.W.lookIn name od=some (mA name):=by
 obtain⟨o,es,ep,ho,hd,hk,_,hm⟩:=n
 refine⟨o,ho,fun name=>?_⟩
 have e:=hm name
 unfold nsFind findBy at e
 rw [<- Array.find?_toList]at e
 unfold PySem.W.lookIn
 rw [hd]
 dsimp only
 split
 ·rename_i y q
  rw [q]at e
  exact congrArg some e
 ·rename_i q
  rw [q]at e
  have a:es.toList.any (·.refKey)=false:=by
   rw [List.any_eq_false]
   intro y hy
   obtain⟨z,t,lz⟩:=hk y (Array.mem_toList_iff.mp hy)
   simp [DictEntry.refKey,lz]
  have a':¬ es.toList.any (·.refKey)=true:=by rw [a];exact aQ
  rw [ax a']
  exact congrArg some e
theorem Z0x.look {h:Heap}{x dx C:Addr}{mA:Str->Option Value} (I:Z0x h x dx C mA):∃od,PySem.W.InstAt h x (PySem.W.instObj C dx) C (some od)/\∀name,PySem.W.lookIn name od=some (mA name) :=
 let ⟨od,ho,hl⟩:=W1x I.ns
 ⟨od,⟨I.obj,rfl,rfl,ho⟩,hl⟩
section
variable {prog:Program}{w:World}{A:Around}{E:VS9}{s:Shared}{K:Fg9}{x dx C f:Addr}{mA:Str->Option Value}{name:Str}{v:Value}
end
theorem Y2.some_of {v:V}{o:Option Value} (r:Y2 (some v) o):∃u,o=some u/\C3 v u:=by
 cases o with
 | none=>exact(show False from r).elim
 | some u=>exact⟨u,rfl,r⟩
section
variable {P:Program}{w:World}{H H':Hp}{h h':Heap}{a C dx:Addr}{fs qf:List (Str×V)}
theorem Y9w (hok:J1 P w H h) (e:H a=some (.ins C dx fs)):∃mA,Z0x h a dx C mA/\(∀f,Y2 (fs.lookup f) (mA f))/\PySem.Within mA (fs.map (·.1))/\fs.length<=1000/\H dx=some (.own a):=by
 obtain⟨d,z,ne,ob,mA,n,r,q⟩:=(show K4 P w H h a (.ins C dx fs)from hok a _ e)
 exact⟨mA,⟨ob,n,ne⟩,r,q,z,d⟩
end
structure Cls (K:Fg9) (C:Addr):Prop where
 pg:PySem.W.plainGet K C Str.empty=true
 hd:PySem.W.hasDictIn K C=true
 po:PySem.W.plainOver K C=true
 sa:PySem.W.findIn K (.ref C) "__setattr__"=some (some (.builtin "object.__setattr__"))
theorem Cls.get {K:Fg9}{C:Addr} (c:Cls K C) (f:Str):PySem.W.plainGet K C f=true:=c.pg
section
variable {X:Cx}{ae:Pn9} {σ:St}{H:Hp}{s:Shared}{a C dx:Addr}{fs:List (Str×V)}{f:Str}{v:V}{A:Around}{E:VS9}
end
section
variable {X:Cx}{o e value:Expr}{f:Str}{pos bB i5:Pos}{ta tv:TE}
end
section
variable {X:Cx}{ae:Pn9} {σ:St}{H:Hp}{s:Shared}{A:Around}{E:VS9}{Q:VS9}{c:Value}{b:Bool}
inductive W5 (K:Fg9) (H:Hp):V->Value->Prop where
 | non:W5 K H .non (.type "NoneType")
 | bl (x:Bool):W5 K H (.bl x) (.type "bool")
 | int (i:Int):W5 K H (.int i) (.type "int")
 | str (x:Str):W5 K H (.str x) (.type "str")
 | flt (x:UInt64):W5 K H (.flt x) (.type "float")
 | lst {a:Addr}{xs:List V} (e:H a=some (.lst xs)):W5 K H (.ref a) (.type "list")
 | frz {a:Addr}{o:Obj}{xs:List V} (e:H a=some (.frz o (.lst xs))):W5 K H (.ref a) (.type "list")
 | tup {a:Addr}{xs:List V} (e:H a=some (.tup xs)):W5 K H (.ref a) (.type "tuple")
 | dK {a:Addr}{kvs:List (B3×V)} (e:H a=some (.dK kvs)):W5 K H (.ref a) (.type "dict")
 | dT {a:Addr}{kvs:List (List B3×V)} (e:H a=some (.dT kvs)):W5 K H (.ref a) (.type "dict")
 | ins {a C dx:Addr}{fs:List (Str×V)} (e:H a=some (.ins C dx fs)) (cl:Cls K C) (ha:PySem.W.findIn K (.ref C) "__class__"=some (some (.builtin "object.__class__")))
   (hn:PySem.W.specialIn K (.builtin "object.__class__") "__get__"=some (some (.builtin "getset_descriptor.__get__"))) (mF:PySem.W.takesIn K (.builtin "object.__class__")=some true)
   (hm:PySem.W.mroIn K C (.type "object")=some true):W5 K H (.ref a) (.ref C)
theorem W0k {x:V}{u t:Value} (I:A0 X ae σ H s) (rx:C3 x u) (ty:W5 X.K H x t) (e:PySem.W.kitOne X.K t c=some b) (h:∀tk,Q (.bool b) { s with toks:=tk }) :
  wpAny (model X.prog X.w) A (call (.builtin "isinstance") [u,c]) Q E s:=by
 cases ty with
 | non=>cases (show u=Value.none from rx);exact bK PySem.W.kitx_none I.kIn True.intro e (fun z=>nomatch z) h
 | bl y=>cases (show u=Value.bool y from rx);exact bK PySem.W.kitx_bool I.kIn True.intro e (fun z=>nomatch z) h
 | int i=>obtain⟨t,q⟩:=(show ∃t,u=Value.int i t from rx);cases q;exact bK PySem.W.kitx_int I.kIn True.intro e (fun z=>nomatch z) h
 | str y=>obtain⟨t,q⟩:=(show ∃t,u=Value.str y t from rx);cases q;exact bK PySem.W.kitx_str I.kIn True.intro e (fun z=>nomatch z) h
 | flt y=>obtain⟨t,q⟩:=(show ∃t,u=Value.float y t from rx);cases q;exact bK PySem.W.kitx_float I.kIn True.intro e (fun z=>nomatch z) h
 | @lst a xs ea =>
  cases (show u=Value.ref a from rx)
  obtain⟨_,_,n,_,h1⟩:=(show K4 X.prog X.w H s.heap a (.lst xs)from I.hok a _ ea)
  exact bK PySem.W.kitx_list I.kIn ⟨_,h1,rfl⟩ e (fun z=>nomatch z) h
 | @frz a ob xs ea =>
  cases (show u=Value.ref a from rx)
  obtain⟨_,_,_,n,_,h1⟩:=(show K4 X.prog X.w H s.heap a (.frz ob (.lst xs))from I.hok a _ ea)
  exact bK PySem.W.kitx_list I.kIn ⟨_,h1,rfl⟩ e (fun z=>nomatch z) h
 | @tup a xs ea =>
  cases (show u=Value.ref a from rx)
  obtain⟨_,_,_,p⟩:=(show K4 X.prog X.w H s.heap a (.tup xs)from I.hok a _ ea)
  obtain⟨o,h1,h2,_⟩:=p
  exact bK PySem.W.kitx_tuple I.kIn ⟨o,h1,h2⟩ e (fun z=>nomatch z) h
 | @dK a kvs ea =>
  cases (show u=Value.ref a from rx)
  obtain⟨_,_,vs,_,p⟩:=(show K4 X.prog X.w H s.heap a (.dK kvs)from I.hok a _ ea)
  obtain⟨o,es,ep,h1,h2,_⟩:=p
  exact bK PySem.W.kitx_dict I.kIn ⟨o,h1,h2.1⟩ e (fun z=>nomatch z) h
 | @dT a kvs ea =>
  cases (show u=Value.ref a from rx)
  obtain⟨_,_,xs,_,o,es,ep,h1,h2,_⟩:=(show K4 X.prog X.w H s.heap a (.dT kvs)from I.hok a _ ea)
  exact bK PySem.W.kitx_dict I.kIn ⟨o,h1,h2.1⟩ e (fun z=>nomatch z) h
 | @ins a C dx fs ea cl ha hn mF hm =>
  cases (show u=Value.ref a from rx)
  obtain⟨mA,O,_⟩:=Y9w I.hok ea
  obtain⟨od,J,_⟩:=O.look
  exact bK (PySem.W.kitx_own (cl.get _) cl.hd ha hn mF hm) I.kIn J e (fun z=>nomatch z) h
end
end L2
namespace L2
open PySem PySem.Spec PyProof.Rows
structure E7 (k:Nat) (A:Around):Prop where
 hd:A.handled=none
 dp:A.depth+3*k+5<recursionLimit
 un:A.units+16*k+200<cLine
theorem E7.mono {j k:Nat}{A:Around} (r:E7 k A) (h:j<=k):E7 j A:=⟨r.hd,by have:=r.dp;omega,by have:=r.un;omega⟩
theorem E7.deeper {k:Nat}{A:Around} (r:E7 (k+1) A) (env:Env):E7 k (A.deeper env) :=
 ⟨r.hd,by have:=r.dp;show A.depth+1+3*k+5<_;omega,by have:=r.un;show A.units+3+16*k+200<_;omega⟩
theorem E7.depth {k:Nat}{A:Around} (r:E7 k A):A.depth<recursionLimit:=by have:=r.dp;omega
theorem E7.units {k:Nat}{A:Around} (r:E7 k A):A.units+64<cLine:=by have:=r.un;omega
def Z5h:TA:=fun _ H Q=>Q [] H
def Q5h (ta:TE) (tr:TA):TA:=fun σ H Q=>ta σ H fun x H1=>tr σ H1 fun xs H2=>Q (x::xs) H2
section
variable {X:Cx}{e:Expr}{es:List Expr}{te:TE}{t:TA}{pos:Pos}
theorem Q2s:PA X [] Z5h:=fun _ _ _ _ H Q I h=>Calls.spliced_nil ⟨[],H,I,.nil,h⟩
theorem Q0d (ha:PE X e te) (hr:PA X es t) (hs:starEach (e::es) X.env=(false,eval e X.env)::starEach es X.env:=by rfl):PA X (e::es) (Q5h te t):=by
 intro pos ae s σ H Q I h
 rw [hs]
 show wpAny _ _ (spliced ((false,eval e X.env)::backTo pos (starEach es X.env))) _ _ s
 refine Calls.spliced_cons (B4 (ha ae s σ H _ I h) fun u s1 bx=>?_)
 obtain⟨x,H1,I1,r1,q1⟩:=bx
 exact B4 (hr pos ae s1 σ H1 _ I1 q1) fun us s2 ⟨xs,H2,I2,r2,q2⟩=>⟨x::xs,H2,I2,.cons r1 r2,q2⟩
def tTup (t:TA):TE:=fun σ H Q=>t σ H fun xs H1=>xs.length<=sizeLine/\∀p,H1 p=none->Q (.ref p) (upd H1 p (.tup xs))
def tLst (t:TA):TE:=fun σ H Q=>t σ H fun xs H1=>xs.length<=sizeLine/\∀p,H1 p=none->Q (.ref p) (upd H1 p (.lst xs))
theorem W5a {x1} (h:PA X es t):PE X (.Tuple es x1 pos) (tTup t):=by
 intro ae s σ H Q I hq
 refine wpAny_Tuple_spliced (B4 (h pos ae s σ H _ I hq) fun us s1 ⟨xs,H1,I1,r,z,q⟩=>⟨by rw [<- r.length];exact z,?_⟩)
 have hf:H1 s1.heap.objs.size=none:=I1.hok.fresh (ao _)
 refine⟨.ref s1.heap.objs.size,upd H1 s1.heap.objs.size (.tup xs),I1.laid (t':=s1.toks) (fun b u e=>af _ e) (ao _) ?_,rfl,q _ hf⟩
 exact⟨z,us,r,⟨_,aH _ rfl,rfl,_,rfl⟩⟩
theorem W4v (h:PA X es t):PE X (.List es pos) (tLst t):=by
 intro ae s σ H Q I hq
 refine wpAny_List_spliced (B4 (h pos ae s σ H _ I hq) fun us s1 ⟨xs,H1,I1,r,z,q⟩=>⟨by rw [<- r.length];exact z,?_⟩)
 have hf:H1 s1.heap.objs.size=none:=I1.hok.fresh (ao _)
 refine⟨.ref s1.heap.objs.size,upd H1 s1.heap.objs.size (.lst xs),I1.laid (t':=s1.toks) (fun b u e=>af _ e) (ao _) ?_,rfl,q _ hf⟩
 exact⟨z,us,0,r,aH _ rfl⟩
end
noncomputable abbrev Sp:=List V->Hp->VK->XK->Prop
noncomputable abbrev CXT:=List Env->Hp->Shared->XK->Value->Shared->Prop
structure Q3y (P:Program) (w:World) (K:Fg9) (mg:Str->Option Value) (base:Heap) (A:Around) (outer:List Env) (s:Shared) (H:Hp):Prop where
 frames:A.frames=some outer
 mod:Mod K mg base
 bs:∀b o,base.get? b=some o->s.heap.get? b=some o/\H b=none
 bsz:base.objs.size<=s.heap.objs.size
 funs:s.heap.FunFrames base outer
 frf:∀b∈frs outer,H b=none
 hok:J1 P w H s.heap
 bare:AllBare s.gens
def CE (outer:List Env) (P:Program) (w:World) (H:Hp) (s:Shared) (Q:VK) (u:Value) (s':Shared):Prop :=
 ∃v H',s'.os=s.os/\AllBare s'.gens/\Un (frs outer) [] H H' s.heap s'.heap/\J1 P w H' s'.heap/\C3 v u/\Q v H'
def CR (CX:CXT) (outer:List Env) (P:Program) (w:World) (H:Hp) (s:Shared) (Q:VK) (E:XK) (r:Result) (s':Shared):Prop :=
 match r with
 | .ok (.ret u)=>CE outer P w H s Q u s'
 | .ok _=>False
 | .error e=>CX outer H s E e s'
structure Q7 (P:Program) (w:World) (K:Fg9) (mg:Str->Option Value) (base:Heap) (CX:CXT) (k:Nat) (f:Addr) (fd:FuncData) (ps:List Str) (sp:Sp):Prop where
 len:∀vs H Q E,sp vs H Q E->vs.length=ps.length
 run:∀(A:Around) (outer:List Env) (s:Shared) (H:Hp) (args:Args) (us:List Value) (vs:List V) (Q:VK) (E:XK),E7 k A->Q3y P w K mg base A outer s H->BindsTo s fd args (ps.zip us)->B7 vs us->sp vs H Q E ->
  codeAny (model P w) A (.call (.ref f) args) (CR CX outer P w H s Q E) s
section
variable {X:Cx}{ae:Pn9} {σ:St}{H:Hp}{s s':Shared}
theorem A0.env0 (I:A0 X ae σ H s):Q3y X.prog X.w X.K X.mg X.base X.A X.stack s H :=
 ⟨I.ok.frames,I.ok.mod,I.bs,aV I.ok.bsz I.sz,I.stack,I.stkFree,I.hok,I.bare⟩
theorem A0.after {Q:VK}{u:Value} (I:A0 X ae σ H s) (h:CE X.stack X.prog X.w H s Q u s'):EP X ae σ Q u s':=by
 obtain⟨v,H',os,bare,un,hok,r,q⟩:=h
 obtain⟨hh,g,d,t,kL⟩:=s'
 obtain rfl:kL=s.os:=os
 exact⟨v,H',I.call (h':=hh) (g':=g) (d':=d) (t':=t) (ch:=[]) un hok bare (fun b z=>absurd z (by simp)),r,q⟩
end
def W9q (sp:Sp) (gE:List V) (E:XK) (t:TA):TE:=fun σ H Q=>t σ H fun vs H1=>sp (vs++gE) H1 Q E
def V2 (K:Fg9) (fd:FuncData) (ps:List Str) (ds:List Value):Prop :=
 ∀(s:Shared) (us:List Value),K.In s.heap->(us++ds).length=ps.length->BindsTo s fd ⟨us,[]⟩ (ps.zip (us++ds))
theorem V2.all {K:Fg9}{fd:FuncData}{ps:List Str} (h:∀us:List Value,us.length=ps.length->bindArgs fd ⟨us,[]⟩=pure (ps.zip us)):V2 K fd ps []:=fun s us _ hl=>by
 rw [aX]at hl ⊢
 exact .of_eq (h us hl)
def Z1a (CX:CXT) (X:Cx) (E:XK):Prop:=∀(ae:Pn9) (σ:St) (H:Hp) (s:Shared) (e:Value) (s':Shared),A0 X ae σ H s->CX X.stack H s E e s'->X.xe e s'
section
variable {X:Cx}{CX:CXT}{k:Nat}{f C:Addr}{fd:FuncData}{ps:List Str}{sp:Sp}{gE:List V}{ds:List Value}{E:XK}{x m:Str}{p pos apos:Pos}{e o:Expr}{es:List Expr}{ta:TE}{t:TA}
theorem Y2l {ae:Pn9} {σ:St}{H:Hp}{s:Shared}{Q:VK}{us:List Value}{vs:List V} (F:Q7 X.prog X.w X.K X.mg X.base CX k f fd ps sp) (hr:E7 k X.A) (hb:V2 X.K fd ps ds) (hd:B7 gE ds) (hx:Z1a CX X E)
  (I:A0 X ae σ H s) (r:B7 vs us) (h:sp (vs++gE) H Q E):wpAny (model X.prog X.w) X.A (call (.ref f) us) (EP X ae σ Q) X.xe s:=by
 have r2:B7 (vs++gE) (us++ds):=r.append hd
 have hl:(us++ds).length=ps.length:=by rw [<- r2.length];exact F.len _ _ _ _ h
 refine wpAny_call (codeAny_mono (F.run X.A X.stack s H ⟨us,[]⟩ (us++ds) (vs++gE) Q E hr I.env0 (hb s us I.kIn hl) r2 h) fun r s' hq=>?_)
 cases r with
 | error e=>exact hx ae σ H s e s' I hq
 | ok fl =>
  cases fl with
  | ret u=>exact I.after hq
  | next=>exact False.elim hq
  | brk=>exact False.elim hq
  | cont=>exact False.elim hq
theorem Y1s (F:Q7 X.prog X.w X.K X.mg X.base CX k f fd ps sp) (hr:E7 k X.A) (hg:Gl X x) (hm:X.mg x=some (.ref f)) (hk:PySem.W.keepIn X.K (.ref f)=true) (hb:V2 X.K fd ps ds) (hd:B7 gE ds) (hx:Z1a CX X E)
  (ha:PA X (e::es) t) (dC:(x==("__debug__":Str))=false:=by decide) (he:starEach (e::es) X.env=(false,eval e X.env)::starEach es X.env:=by rfl) (hpl:(backTo pos (starEach es X.env)).any (·.1)=false:=by rfl) :
  PE X (.Call (.Name x p) (e::es) [] pos) (W9q sp gE E t):=by
 intro ae s σ H Q I h
 refine bo (Q8q I hg hm ?_ dC)
 refine PySem.W.callWith_K (h₀:=X.base) I.ok.mod.kin hk (B4 (ha pos ae s σ H _ I h) fun us s1 ⟨vs,H1,I1,r,q⟩=>⟨I1.kIn,?_⟩) he hpl
 exact Y2l F hr hb hd hx I1 r q
end
section
variable {X:Cx}{CX:CXT}{k:Nat}{f C:Addr}{fd:FuncData}{ps ks:List Str}{sp:Sp}{E:XK}{x m:Str}{p pos apos ou:Pos}{e o:Expr}{es:List Expr}{qA:List Keyword}{te ta:TE}{t tk:TA}{nm:Option Str}
variable {g:List Value->List Value->List Value}{gV:List V->List V->List V}
end
structure K5 (N P:List Str) (sc:Scope):Prop where
 kind:sc.kind=.function
 co:sc.isCoroutine=false
 gen:sc.isGenerator=false
 nd:N.Nodup
 pre:N.take P.length=P
 par:∀x∈P,sc.names.lookup x=some .local\/sc.names.lookup x=some .cell
 nofree:∀y∈sc.names,y.2≠.free
theorem Z8d {kindOf:Str->Option NameKind}{x:Str}:∀{binds:List (Str×Value)}{m:Str->Option Value},(∀v,(x,v)∉binds)->bindL kindOf binds m x=m x
 | [],_,_=>rfl
 | (n,v)::r,m,h=>by
  unfold bindL
  rw [Z8d fun w hw=>h w (ai _ hw)]
  split
  ·have:x≠n:=by rintro rfl;exact h v am
   simp [this]
  ·rfl
theorem Z8b {kindOf:Str->Option NameKind}{x:Str}:∀{binds:List (Str×Value)}{m:Str->Option Value},(∀v,(x,v)∉binds)->bindC kindOf binds m x=m x
 | [],_,_=>rfl
 | (n,v)::r,m,h=>by
  unfold bindC
  rw [Z8b fun w hw=>h w (ai _ hw)]
  split
  ·rfl
  ·have:x≠n:=by rintro rfl;exact h v am
   simp [this]
theorem Z8c {kindOf:Str->Option NameKind}{x:Str}{v:Value}:∀{P:List Str}{vs:List Value}{i:Nat}{m:Str->Option Value},P.Nodup->P[i]?=some x->vs[i]?=some v->kindOf x=some .local ->
  bindL kindOf (P.zip vs) m x=some v
 | [],_,_,_,_,h,_,_=>by simp at h
 | _::_,[],_,_,_,_,h,_=>by simp at h
 | p::P,w::vs,0,m,nd,h1,h2,hk=>by
  simp at h1 h2;subst h1;subst h2
  show bindL kindOf ((p,w)::P.zip vs) m p=_
  unfold bindL
  rw [Z8d fun v hv=>(bj.mp nd).1 (List.of_mem_zip hv).1,aC hk]
  simp
 | p::P,w::vs,i+1,m,nd,h1,h2,hk=>by
  show bindL kindOf ((p,w)::P.zip vs) m x=_
  unfold bindL
  exact Z8c (i:=i) (bj.mp nd).2 (by simpa using h1) (by simpa using h2) hk
theorem Z8a {kindOf:Str->Option NameKind}{x:Str}{v:Value}:∀{P:List Str}{vs:List Value}{i:Nat}{m:Str->Option Value},P.Nodup->P[i]?=some x->vs[i]?=some v->kindOf x≠some .local ->
  bindC kindOf (P.zip vs) m x=some v
 | [],_,_,_,_,h,_,_=>by simp at h
 | _::_,[],_,_,_,_,h,_=>by simp at h
 | p::P,w::vs,0,m,nd,h1,h2,hk=>by
  simp at h1 h2;subst h1;subst h2
  show bindC kindOf ((p,w)::P.zip vs) m p=_
  unfold bindC
  rw [Z8b fun v hv=>(bj.mp nd).1 (List.of_mem_zip hv).1,ax hk]
  simp
 | p::P,w::vs,i+1,m,nd,h1,h2,hk=>by
  show bindC kindOf ((p,w)::P.zip vs) m x=_
  unfold bindC
  exact Z8a (i:=i) (bj.mp nd).2 (by simpa using h1) (by simpa using h2) hk
noncomputable def start (N:List Str) (vs:List V):St:=vs.map some++List.replicate (N.length-vs.length) none
noncomputable def Q1e (CX:CXT) (P:Program) (w:World) (K:Fg9) (mg:Str->Option Value) (base:Heap) (N:List Str) (qual:Str) (scope:Scope) (f:Addr) (cd:Value) (A:Around) (outer:List Env) (s:Shared) (H:Hp) (E:XK):Cx where
 prog:=P
 w:=w
 K:=K
 mg:=mg
 base:=base
 A:=A.deeper (envOfC qual scope s.heap.objs.size f cd)
 N:=N
 s₀:=s
 H₀:=H
 env:=envOfC qual scope s.heap.objs.size f cd
 outer:=outer
 stack:=envOfC qual scope s.heap.objs.size f cd::outer
 ex:=[]
 calm:=true
 fn:=fun _=>true
 pn:=[]
 xe:=fun e s'=>wpAny (model P w) (A.deeper (envOfC qual scope s.heap.objs.size f cd)) (leaving (envOfC qual scope s.heap.objs.size f cd) e) (fun _ ja=>CX outer H s E e ja) (fun e' ja=>CX outer H s E e' ja) s'
theorem Z8k {sc:Scope}{n:Nat}{x:Str} (h:sc.names.lookup x=some .cell):∃c,(cellsFrom n sc.names []).lookup x=some c:=by
 have q:=PySem.W.cellsFrom_some sc.names n [] (.inl h)
 exact Option.isSome_iff_exists.mp q
theorem W0d {CX:CXT}{P:Program}{w:World}{K:Fg9}{mg:Str->Option Value}{base:Heap}{N ps:List Str}{qual:Str}{scope:Scope}{f:Addr}{cd:Value}{A:Around}{outer:List Env}{s s1:Shared}{H:Hp}{E:XK}{us:List Value}{vs:List V}
  (S:K5 N ps scope) (hd:A.handled=none) (e0:Q3y P w K mg base A outer s H) (hl:vs.length=ps.length) (r:B7 vs us)
  (x:InCallC s s.heap.objs.size (bindL (envOfC qual scope s.heap.objs.size f cd).kindOf (ps.zip us) fun _=>none) (cellsFrom (s.heap.objs.size+1) scope.names []) (bindC (envOfC qual scope s.heap.objs.size f cd).kindOf (ps.zip us) fun _=>none) s1) :
  A0 (Q1e CX P w K mg base N qual scope f cd A outer s H E) [] (start N vs) H s1:=by
 have hpl:ps.length<=N.length:=by have:=congrArg List.length S.pre;rw [bQ]at this;omega
 obtain⟨h1,tk,rfl,hk⟩:=x.done
 have g9:∀b:Addr,b∉(Q1e CX P w K mg base N qual scope f cd A outer s H E).ex:=fun b z=>absurd (show b∈([]:List Addr)from z) (by simp)
 refine⟨⟨e0.mod,S.kind,rfl,rfl,ao _,fun y z c h1 h2=>?_,fun y hy=>?_,fun y c _ h=>?_,fun _=>hd,Around.frames_deeper e0.frames,.inr ⟨rfl,rfl⟩,fun b z=>absurd z (g9 b),e0.bs,e0.bsz,fun b _ _=>g9 b,fun b z=>absurd z (g9 b),e0.funs,e0.frf⟩,
  rfl,e0.bare,Un.kept hk,⟨_,x.toInCall.ns,fun i y v h1 h2 h3=>?_⟩,fun y c h=>⟨_,x.cell y c h⟩,e0.hok.fresh (ao _),fun y c h=>?_,fun p hp=>absurd (show p∈([]:Pn9)from hp) (by simp),e0.hok.kept hk,?_⟩
 ·exact name_of_addr x.apart (bV h1) (bV h2)
 ·have hy:scope.names.lookup y=some .cell\/scope.names.lookup y=some .free:=hy
  rcases hy with hy | hy
  ·exact Z8k hy
  ·exact absurd rfl (S.nofree _ (bV hy))
 ·exact cD (x.above y c (bV h))
 ·have hi:i<vs.length:=by
   unfold start at h2
   by_cases hi:i<vs.length
   ·exact hi
   ·rw [aU (by simpa using hi)]at h2
    rw [List.getElem?_replicate]at h2
    split at h2 <;> cases h2
  have ha:vs[i]?=some v:=by
   unfold start at h2
   rw [aK (by simpa using hi),ak]at h2
   cases e:vs[i]? with
   | none=>rw [e]at h2;cases h2
   | some a=>rw [e]at h2;cases h2;rfl
  obtain⟨u,hu,rv⟩:=r.get ha
  have hp:ps[i]?=some y:=by
   rw [<- S.pre,List.getElem?_take_of_lt (by omega)];exact h1
  have mt:ps.Nodup:=by rw [<- S.pre];exact S.nd.sublist (List.take_sublist _ _)
  refine⟨u,rv,?_⟩
  rcases S.par y (aJ hp)with k | k
  ·exact .inl ⟨k,Z8c mt hp hu k⟩
  ·obtain⟨c,e⟩:=Z8k (n:=s.heap.objs.size+1) k
   refine .inr ⟨.inl k,c,e,?_⟩
   have q:=x.cell y c e
   rw [Z8a mt hp hu (by show scope.names.lookup y≠_;rw [k];decide)]at q
   exact q
 ·exact e0.hok.fresh (cD (x.above y c (bV h)))
 ·unfold start
  show _=N.length
  rw [aq,ag,b7]
  omega
theorem Z9o {CX:CXT}{P:Program}{w:World}{K:Fg9}{mg:Str->Option Value}{base:Heap}{k:Nat}{f:Addr}{name qual:Str}{params:Arguments}{body:List Stmt}{scope:Scope}{dV kV cP pm cdv ct oc:Value}{an od:Option Addr}
  {dQ:Array (Option Value)}{N ps:List Str}{sp:Sp} (lk:K.lookup f=some ⟨oc,od,.func (PySem.W.fnOf name qual params body scope dV kV cP pm an cdv ct),dQ⟩) (dS:PySem.W.codeIn K cdv qual=true) (S:K5 N ps scope)
  (len:∀vs H Q E,sp vs H Q E->vs.length=ps.length)
  (cm:∀(A:Around) (outer:List Env) (s:Shared) (H:Hp) (vs:List V) (Q:VK) (E:XK),E7 k (A.deeper (envOfC qual scope s.heap.objs.size f cdv))->sp vs H Q E ->
   ∃t,PSs (Q1e CX P w K mg base N qual scope f cdv A outer s H E) body t/\t { nx:=fun _ H'=>Q .non H',rt:=Q } (start N vs) H) :
  Q7 P w K mg base CX (k+1) f (PySem.W.fnOf name qual params body scope dV kV cP pm an cdv ct) ps sp:=by
 refine⟨len,fun A outer s H args us vs Q E hr e0 hb r gb=>?_⟩
 have hl:=len _ _ _ _ gb
 have KX:K.In s.heap:=e0.mod.kin.keeps fun b o e=>(e0.bs b o e).1
 have jj:s.heap.NoLimit:=e0.mod.nolimit.keeps fun b o e=>(e0.bs b o e).1
 have jv:∀y∈ps.zip us,scope.names.lookup y.1=some .local\/(scope.names.lookup y.1=some .cell/\((cellsFrom (s.heap.objs.size+1) scope.names []).lookup y.1).isSome=true):=fun⟨n,v⟩ hy=>by
  rcases S.par n (List.of_mem_zip hy).1 with q | q
  ·exact .inl q
  ·exact .inr ⟨q,PySem.W.cellsFrom_some _ _ _ (.inl q)⟩
 refine codeAny_call_function hr.depth (KX _ _ lk) rfl S.co S.gen rfl (PySem.W.codeRec_of KX dS) (hb _ _ _ _ ?_)
 refine wpAny_newFunctionEnv_cells S.kind jv fun env he s1 x=>?_
 subst he
 refine⟨jj.keeps x.toInCall.keep,codeAny_func ?_⟩
 obtain⟨t,ht,hq⟩:=cm A outer s H vs Q E (hr.deeper _) gb
 have I:A0 (Q1e CX P w K mg base N qual scope f cdv A outer s H E) [] (start N vs) H s1:=W0d S hr.hd e0 hl r x
 refine aS (ht [] s1 (start N vs) H _ I hq) (fun fl s' hs=>?_) fun e s' hs=>hs
 have fin:∀{σ':St}{H':Hp}{v:V}{u:Value},A0 (Q1e CX P w K mg base N qual scope f cdv A outer s H E) [] σ' H' s'->C3 v u->Q v H'->CE outer P w H s Q u s' :=
  fun {σ' H' v u} J rv q=>⟨v,H',J.os,J.bare,J.base,J.hok,rv,q⟩
 cases fl with
 | ret u =>
  obtain⟨v,σ',H',J,rv,q⟩:=hs
  exact fin J rv q
 | next =>
  obtain⟨σ',H',J,q⟩:=hs
  exact fin (v:=V.non) (u:=Value.none) J rfl q
 | brk =>
  obtain⟨_,_,_,q⟩:=hs
  exact False.elim q
 | cont =>
  obtain⟨_,_,_,q⟩:=hs
  exact False.elim q
end L2
namespace L2
open PySem PySem.Spec PyProof.Rows
section
variable {X:Cx}{x:Str}{p pos:Pos}{e:Expr}{es:List Expr}{t:TA}{id T:String}{r:List V->Hp->VK->Prop}
def tCB (r:List V->Hp->VK->Prop) (t:TA):TE:=fun σ H Q=>t σ H fun vs H1=>r vs H1 Q
theorem Y1t (hc:Q3j X (.builtin id) r) (hg:Gl X x) (hm:X.mg x=none) (hv:bootBuiltins x=some (.builtin id)) (ha:PA X (e::es) t) (hn:x≠"__name__":=by decide) (dC:(x==("__debug__":Str))=false:=by decide)
  (he:starEach (e::es) X.env=(false,eval e X.env)::starEach es X.env:=by rfl) (hpl:(backTo pos (starEach es X.env)).any (·.1)=false:=by rfl):PE X (.Call (.Name x p) (e::es) [] pos) (tCB r t):=by
 intro ae s σ H Q I h
 refine bo (Q0p I hg hm hv ?_ hn dC)
 exact PyProof.Rows.callWith_builtin1 (B4 (ha pos ae s σ H _ I h) fun us s1 ⟨vs,H1,I1,r1,q1⟩=>hc ae s1 σ H1 vs us Q I1 r1 q1) he hpl
theorem W4m (hc:Q3j X (.type T) r) (hg:Gl X x) (hm:X.mg x=none) (hv:bootBuiltins x=some (.type T)) (ha:PA X (e::es) t) (hn:x≠"__name__":=by decide) (dC:(x==("__debug__":Str))=false:=by decide)
  (he:starEach (e::es) X.env=(false,eval e X.env)::starEach es X.env:=by rfl) (hpl:(backTo pos (starEach es X.env)).any (·.1)=false:=by rfl):PE X (.Call (.Name x p) (e::es) [] pos) (tCB r t):=by
 intro ae s σ H Q I h
 refine bo (Q0p I hg hm hv ?_ hn dC)
 exact bt (B4 (ha pos ae s σ H _ I h) fun us s1 ⟨vs,H1,I1,r1,q1⟩=>hc ae s1 σ H1 vs us Q I1 r1 q1) he hpl
end
end L2
namespace HT
open PySem PyProof.Rows
section
open PySem.SeqAt
open PySem.AutoSeq1 (wpAny_loadPart')
open PySem.MeetsSeq PySem.MeetsSeq2 PySem.MeetsSeq3
end
section
variable {prog:Program}{w:World}{A:Around}{E:VS9}{s:Shared}
theorem cat_tup {t b:Addr}{vs ws:List Value}{Q:VS9} (ht:IsTup s.heap t vs.toArray) (hb:IsTup s.heap b ws.toArray) (hv:vs≠[])
  (h1:ws=[]->Q (.ref t) s) (h2:ws≠[]->Q (.ref s.heap.objs.size) { s with heap:=s.heap.push { cls:=.type "tuple",data:=.seq (vs++ws).toArray } })
  (hsz:vs.length+ws.length<=sizeLine):wpAny (model prog w) A (binaryOp .Add (.ref t) (.ref b)) Q E s:=by
 obtain⟨⟨cls,dd,data,sl⟩,ho,hc,n,hd⟩:=id ht
 obtain⟨⟨jO,j2,data2,iN⟩,fy,fE,n2,fC⟩:=id hb
 simp only at hc hd fE fC
 subst hc hd fE fC
 have e:vs.toArray++ws.toArray=(vs++ws).toArray:=by simp
 by_cases hw:ws=[]
 ·exact concat_meets ⟨_,ho,rfl⟩ ⟨_,fy,rfl⟩ noFill_tuple_add seq_tuple_add PySem.F.slot_tuple_add PySem.F.entry_tuple_add (PySem.F.args_tuple_add_2 _ _)
   (tuple_addW1 t b vs.toArray ws.toArray n n2 dd j2 sl iN (by simpa using hv) (by simp [hw])) ⟨ho,fy,h1 hw⟩
 ·refine concat_meets ⟨_,ho,rfl⟩ ⟨_,fy,rfl⟩ noFill_tuple_add seq_tuple_add PySem.F.slot_tuple_add PySem.F.entry_tuple_add (PySem.F.args_tuple_add_2 _ _)
   (tuple_addW2 t b vs.toArray ws.toArray n n2 dd j2 sl iN (by simpa using hv) (by simpa using hw) (by rw [aE,aE];exact hsz)) ⟨ho,fy,?_⟩
  rw [e]
  exact h2 hw
noncomputable def sIx (n d:Nat):Option Int->Nat
 | none=>d
 | some v=>if v<0 then(v+(n:Int)).toNat else min v.toNat n
theorem sIx_none (n d:Nat):sIx n d none=d:=rfl
theorem sIx_nat (n d k:Nat):sIx n d (some (k:Int))=min k n:=by
 show(if (k:Int)<0 then((k:Int)+(n:Int)).toNat else min (k:Int).toNat n)=min k n
 rw [ax (by omega),b9]
theorem W7t (n d:Nat) (hd:d<=n) (o:Option Int):sIx n d o<=n:=by
 cases o with
 | none=>exact hd
 | some v =>
  show(if v<0 then(v+(n:Int)).toNat else min v.toNat n)<=n
  by_cases hv:v<0
  ·rw [aC hv];omega
  ·rw [ax hv];exact Nat.min_le_right _ _
theorem Z8n (v:Int) (n d:Nat):(if v<0 then max (v+(n:Int)) 0 else min v (n:Int))=((sIx n d (some v):Nat):Int):=by
 show(if v<0 then max (v+(n:Int)) 0 else min v (n:Int))=(((if v<0 then(v+(n:Int)).toNat else min v.toNat n):Nat):Int)
 by_cases hv:v<0
 ·simp only [aC hv];omega
 ·simp only [ax hv];omega
theorem Y6q (lo hi:Option Int) (n:Nat):Builtin.Slice.sliceAdjust lo hi 1 (n:Int)=(((sIx n 0 lo:Nat):Int),((sIx n n hi:Nat):Int)):=by
 have h1:¬ ((1:Int)<0):=by omega
 unfold Builtin.Slice.sliceAdjust
 simp only [h1,dY]
 refine Prod.ext ?_ ?_
 ·cases lo with
  | none=>rfl
  | some v=>exact Z8n v n 0
 ·cases hi with
  | none=>rfl
  | some v=>exact Z8n v n n
theorem W5j (i j:Nat):Builtin.Slice.slicePlaces (i:Int) (j:Int) 1=j-i:=by
 unfold Builtin.Slice.slicePlaces
 have h1:(1:Int) > 0:=by omega
 simp only [h1,gj,Int.ediv_one]
 split <;> omega
theorem Y4b {v:Value}{o:Option Int}{Q:Option Int->Shared->Prop} (p:IsPart v o) (h:Q o s):wpAny (model prog w) A (Builtin.Slice.slicePartIndex v) Q E s:=by
 cases p with
 | none=>exact slicePart_none h
 | int i t=>exact slicePart_int h
theorem Y4a {sl:Addr}{vl vu:Value}{lo hi:Option Int}{n:Nat}{Q:Int×Int×Nat->Shared->Prop} (hs:s.heap.IsSliceOf sl vl vu .none) (pl:IsPart vl lo) (pu:IsPart vu hi)
  (h:Q (((sIx n 0 lo:Nat):Int),1,sIx n n hi-sIx n 0 lo) s):wpAny (model prog w) A (Builtin.Slice.sliceApplied (.ref sl) (pure (n:Int))) Q E s:=by
 obtain⟨os,eY,fm,fj⟩:=id hs
 unfold Builtin.Slice.sliceApplied Builtin.Slice.sliceFields
 refine aa (aa (bS eY fj (x:=vl) rfl (aa (bS eY fj (x:=vu) rfl (aa (bS eY fj (x:=.none) rfl (aj ?_)))))))
 refine aa (slicePart_none ?_)
 show wpAny _ _ (if ((1:Int)==0)=true then _ else _) _ _ s
 rw [ax (by decide)]
 refine aa (Y4b pl (aa (Y4b pu (aa (aj ?_)))))
 show wpAny _ _ (match Builtin.Slice.sliceAdjust lo hi 1 (n:Int)with | (lo,hi)=>pure (lo,(1:Int),Builtin.Slice.slicePlaces lo hi 1)) _ _ s
 rw [Y6q lo hi n]
 show wpAny _ _ (pure (((sIx n 0 lo:Nat):Int),(1:Int),Builtin.Slice.slicePlaces ((sIx n 0 lo:Nat):Int) ((sIx n n hi:Nat):Int) 1)) _ _ s
 rw [W5j]
 exact aj h
theorem W5i (xs:Array Value) (i k:Nat):((List.range k).filterMap fun(m:Nat)=>xs[((i:Int)+(m:Int)*1).toNat]?).toArray=((xs.toList.drop i).take k).toArray:=by
 have e:(fun(m:Nat)=>xs[((i:Int)+(m:Int)*1).toNat]?)=fun m=>xs[i+m]?:=by
  funext m
  have:((i:Int)+(m:Int)*1).toNat=i+m:=by omega
  rw [this]
 rw [e]
 have:=pick_run xs i k
 rw [List.filterMap_map]at this
 have e2:((fun x=>xs[x]?) ∘ fun x=>i+x)=fun m=>xs[i+m]?:=rfl
 rw [e2]at this
 rw [this]
theorem getItem_tuple_cut {t sl:Addr}{items:Array Value}{vl vu:Value}{lo hi:Option Int}{Q:VS9} (ht:IsTup s.heap t items) (hs:s.heap.IsSliceOf sl vl vu .none) (pl:IsPart vl lo) (pu:IsPart vu hi)
  (hw:¬ (sIx items.size 0 lo=0/\sIx items.size items.size hi=items.size))
  (h:Q (.ref s.heap.objs.size) { s with heap:=s.heap.push { cls:=.type "tuple",data:=.seq ((items.toList.drop (sIx items.size 0 lo)).take (sIx items.size items.size hi-sIx items.size 0 lo)).toArray } })
  (hsz:items.size<=sizeLine):wpAny (model prog w) A (getItem (.ref t) (.ref sl)) Q E s:=by
 have eX:sizeOk (.seq ((items.toList.drop (sIx items.size 0 lo)).take (sIx items.size items.size hi-sIx items.size 0 lo)).toArray):=by
  show((items.toList.drop (sIx items.size 0 lo)).take (sIx items.size items.size hi-sIx items.size 0 lo)).toArray.size<=sizeLine
  rw [aE,bQ,List.length_drop,bG]
  omega
 have hj:sIx items.size items.size hi<=items.size:=W7t _ _ (ao _) hi
 obtain⟨os,eY,fm,fj⟩:=id hs
 have lR:s.TypeIs (.ref sl) "slice":=⟨os,eY,fm⟩
 unfold getItem
 try with_reducible refine bA ?_
 first | refine aa (aj ?_) | skip
 refine aa (wpAny_sequenceKey ht.typeIs (by decide) ?_)
 refine aa (bY (name:=Str.ofString "__getitem__") ht.typeIs bX
  (bM bX ht.typeIs entry_tuple_getitem ?_ (args_tuple_getitem _ _)))
 show wpAny _ _ (Builtin.Tuple.tupleItemsOf (.ref t)>>=_) _ _ s
 refine aa (tupleItemsOf_ ht ?_)
 refine aa (wpAny_typeOf lR ?_)
 rw [aC (by decide)]
 refine aa (Y4a hs pl pu ?_)
 have oW:¬ ((((sIx items.size 0 lo:Nat):Int)==0&&(1:Int)==1&&(sIx items.size items.size hi-sIx items.size 0 lo)==items.size)=true):=by
  intro q
  rw [dj,dj]at q
  have q1:((sIx items.size 0 lo:Nat):Int)=0:=eq_of_beq q.1.1
  have q2:sIx items.size items.size hi-sIx items.size 0 lo=items.size:=eq_of_beq q.2
  exact hw ⟨by omega,by omega⟩
 show wpAny _ _ (if (((sIx items.size 0 lo:Nat):Int)==0&&(1:Int)==1&&(sIx items.size items.size hi-sIx items.size 0 lo)==items.size)=true then _ else _) _ _ s
 rw [ax oW,W5i]
 first
  | exact aa (m:=Builtin.Tuple.tupleExact _) (bF (aj ⟨_,rfl,aj h⟩) eX)
  | exact aa (m:=Builtin.Tuple.tupleExact _) (bF (aa (aj (aj ⟨_,rfl,aj h⟩))) eX)
  | exact aa (aa (m:=Builtin.Tuple.tupleExact _) (bF (aj (aj ⟨_,rfl,aj h⟩)) eX))
  | exact aa (aa (m:=Builtin.Tuple.tupleExact _) (bF (aj ⟨_,rfl,aj h⟩) eX))
end
end HT
namespace L2
open PySem PySem.Spec PyProof.Rows
noncomputable abbrev TO:=St->Hp->(Option Int->Hp->Prop)->Prop
def PO (X:Cx) (e:Option Expr) (t:TO):Prop :=
 ∀(ae:Pn9) (s:Shared) (σ:St) (H:Hp) (Q:Option Int->Hp->Prop),A0 X ae σ H s->t σ H Q ->
  wpAny (model X.prog X.w) X.A (evalPart e X.env) (fun u s'=>∃o H',A0 X ae σ H' s'/\IsPart u o/\Q o H') X.xe s
noncomputable def W9y:TO:=fun _ H Q=>Q none H
noncomputable def W9z (t:TE):TO:=fun σ H Q=>t σ H fun x H1=>∃i,x=.int i/\Q (some i) H1
section
variable {X:Cx}{e:Expr}{te:TE}{lo hi:Option Expr}{tl th:TO}{pos p2:Pos}
theorem W5k:PO X none W9y:=by
 intro ae s σ H Q I h
 rw [evalPart_none]
 exact aj ⟨none,H,I,.none,h⟩
theorem W5l (h:PE X e te):PO X (some e) (W9z te):=by
 intro ae s σ H Q I hw
 rw [evalPart_some]
 refine B4 (h ae s σ H _ I hw) fun u s1 bx=>?_
 obtain⟨x,H1,I1,r1,q1⟩:=bx
 obtain⟨i,rfl,q⟩:=q1
 obtain⟨t,rfl⟩:=r1
 exact⟨some i,H1,I1,.int i t,q⟩
def O5 (X:Cx) (r:V->Option Int->Option Int->Hp->VK->Prop):Prop :=
 ∀(ae:Pn9) (s:Shared) (σ:St) (H:Hp) (x:V) (v vl vu:Value) (lo hi:Option Int) (sl:Addr) (Q:VK),A0 X ae σ H s->C3 x v->s.heap.IsSliceOf sl vl vu .none->IsPart vl lo->IsPart vu hi->r x lo hi H Q ->
  ∃T id,typeLookup (.type T) "__getitem__"=pure (some (.builtin id))/\s.TypeIs v T/\wpAny (model X.prog X.w) X.A (getItem v (.ref sl)) (EP X ae σ Q) X.xe s
theorem O5.or {r r':V->Option Int->Option Int->Hp->VK->Prop} (h:O5 X r) (h':O5 X r'):O5 X (fun x lo hi H Q=>r x lo hi H Q\/r' x lo hi H Q):=by
 intro ae s σ H x v vl vu lo hi sl Q I rx hs pl pu q
 rcases q with q | q
 ·exact h ae s σ H x v vl vu lo hi sl Q I rx hs pl pu q
 ·exact h' ae s σ H x v vl vu lo hi sl Q I rx hs pl pu q
def tSl (r:V->Option Int->Option Int->Hp->VK->Prop) (te:TE) (tl th:TO):TE:=fun σ H Q=>te σ H fun x H1=>tl σ H1 fun l H2=>th σ H2 fun u H3=>r x l u H3 Q
theorem W4y {r:V->Option Int->Option Int->Hp->VK->Prop} (hr:O5 X r) (he:PE X e te) (hl:PO X lo tl) (hu:PO X hi th):PE X (.Subscript e (.Slice lo hi none p2) pos) (tSl r te tl th):=by
 intro ae s σ H Q I h
 refine Subscript_ (B4 (he ae s σ H _ I h) fun v s1 bx=>?_)
 obtain⟨x,H1,I1,r1,q1⟩:=bx
 refine wpAny_Slice (B4 (hl ae s1 σ H1 _ I1 q1) fun vl s2 ⟨l,H2,I2,pl,q2⟩=>B4 (hu ae s2 σ H2 _ I2 q2) fun vu s3 bx=>?_)
 obtain⟨u,H3,I3,pu,q3⟩:=bx
 rw [evalPart_none]
 refine aj ?_
 have I4:A0 X ae σ H3 { s3 with heap:=s3.heap.push { cls:=.type "slice",data:=.fields #[vl,vu,.none] } }:=I3.kept (t':=s3.toks) fun b ob q=>af _ q
 obtain⟨T,id,hT,ht,hg⟩:=hr ae { s3 with heap:=s3.heap.push { cls:=.type "slice",data:=.fields #[vl,vu,.none] } } σ H3 x v vl vu l u s3.heap.objs.size Q I4 r1 (Heap.IsSliceOf.new ..) pl pu q3
 show wpAny (model X.prog X.w) X.A (subscriptTail e (.Slice lo hi none p2) v (.ref s3.heap.objs.size)) (EP X ae σ Q) X.xe { s3 with heap:=s3.heap.push { cls:=.type "slice",data:=.fields #[vl,vu,.none] } }
 exact tail_any (ops:=[.ref s3.heap.objs.size,v]) ht hT hg (by with_unfolding_all rfl)
noncomputable def Q0j (xs:List V) (lo hi:Option Int):List V:=(xs.drop (HT.sIx xs.length 0 lo)).take (HT.sIx xs.length xs.length hi-HT.sIx xs.length 0 lo)
theorem Z9b (xs:List V) (lo hi:Option Int):(Q0j xs lo hi).length<=xs.length:=by
 unfold Q0j
 rw [bQ,List.length_drop]
 omega
noncomputable def rSlT (K:Fg9):V->Option Int->Option Int->Hp->VK->Prop:=fun x lo hi H Q=>∃a xs,x=.ref a/\D8 K H a xs /\
 ¬ (HT.sIx xs.length 0 lo=0/\HT.sIx xs.length xs.length hi=xs.length)/\∀p,H p=none->Q (.ref p) (upd H p (.tup (Q0j xs lo hi)))
theorem W9e:O5 X (rSlT X.K):=by
 intro ae s σ H x v vl vu lo hi sl Q I rx hs pl pu h
 obtain⟨a,xs,rfl,hx,hw,q⟩:=h
 cases rx
 obtain⟨aT,r,ht,hz⟩:=I.tuple hx
 have bN:aT.toArray.size=xs.length:=by rw [aE];exact r.length.symm
 refine⟨"tuple",_,bX.lookup,ht.typeIs,?_⟩
 refine HT.getItem_tuple_cut ht hs pl pu (by rw [bN];exact hw) ?_ (by rw [bN];exact hz)
 rw [bN]
 refine⟨.ref s.heap.objs.size,_,I.laid (t':=s.toks) (o:=.tup (Q0j xs lo hi)) (fun b ob q=>af _ q) (ao _) ?_,rfl,q _ (I.hok.fresh (ao _))⟩
 exact⟨aV (Z9b xs lo hi) hz,_,(r.drop (HT.sIx xs.length 0 lo)).take (HT.sIx xs.length xs.length hi-HT.sIx xs.length 0 lo),IsTup.new _ _⟩
def W6j (K:Fg9):R2:=fun x y H Q=>∃a b xs ys,x=.ref a/\y=.ref b/\D8 K H a xs/\D8 K H b ys/\xs≠[]/\xs.length+ys.length<=sizeLine /\
 (ys=[]->Q (.ref a) H)/\(ys≠[]->∀p,H p=none->Q (.ref p) (upd H p (.tup (xs++ys))))
theorem B7.nil_iff {xs:List V}{us:List Value} (r:B7 xs us):us=[] ↔ xs=[]:=by
 cases r with
 | nil=>simp
 | cons _ _=>simp
theorem W3u:L9 X (binaryOp .Add) (W6j X.K):=by
 intro ae s σ H x y v u Q I rx ry h
 obtain⟨a,b,xs,ys,rfl,rfl,ha,hb,hx,hz,q1,q2⟩:=h
 cases rx
 cases ry
 obtain⟨aT,r1,p1,_⟩:=I.tuple ha
 obtain⟨ce,r2,p2,_⟩:=I.tuple hb
 refine HT.cat_tup p1 p2 (fun z=>hx (r1.nil_iff.mp z)) (fun z=>⟨.ref a,H,I,rfl,q1 (r2.nil_iff.mp z)⟩) (fun z=>?_) (by rw [<- r1.length,<- r2.length];exact hz)
 refine⟨.ref s.heap.objs.size,_,I.laid (t':=s.toks) (o:=.tup (xs++ys)) (fun b ob q=>af _ q) (ao _) ?_,rfl,q2 (fun w=>z (r2.nil_iff.mpr w)) _ (I.hok.fresh (ao _))⟩
 exact⟨by rw [aq];exact hz,_,r1.append r2,IsTup.new _ _⟩
end
end L2
namespace L2
open PySem PySem.Spec PyProof.Rows
noncomputable def ixN (n:Nat) (i:Int):Option Nat:=if 0<=i then(if i<n then some i.toNat else none)else if -(n:Int)<=i then some (i+n).toNat else none
noncomputable def K7 {α:Type} (xs:List α) (i:Int):Option α:=(ixN xs.length i).bind fun j=>xs[j]?
theorem Z2u {n:Nat}{i:Int}{j:Nat} (h:ixN n i=some j):seqIndex? i n=some j/\j<n/\-(n:Int)<=i/\i<n:=by
 unfold ixN at h
 by_cases h0:0<=i
 ·rw [aC h0]at h
  by_cases h1:i<n
  ·rw [aC h1]at h
   have e:i.toNat=j:=aA h
   exact⟨by rw [seqIndex_of h0 h1,e],by omega,by omega,h1⟩
  ·rw [ax h1]at h;cases h
 ·rw [ax h0]at h
  by_cases h1:-(n:Int)<=i
  ·rw [aC h1]at h
   have e:(i+n).toNat=j:=aA h
   exact⟨by rw [seqIndex_neg (by omega) h1,e],by omega,h1,by omega⟩
  ·rw [ax h1]at h;cases h
theorem Q7t {α:Type}{xs:List α}{i:Int}{v:α} (h:K7 xs i=some v):∃j,seqIndex? i xs.length=some j/\xs[j]?=some v/\j<xs.length/\-(xs.length:Int)<=i/\i<xs.length:=by
 unfold K7 at h
 cases e:ixN xs.length i with
 | none=>rw [e]at h;cases h
 | some j =>
  rw [e]at h
  obtain⟨h1,h2,h3,h4⟩:=Z2u e
  exact⟨j,h1,h,h2,h3,h4⟩
theorem Z6 {α:Type}{xs:List α}{j:Nat}{v:α} (h:xs[j]?=some v):K7 xs (j:Int)=some v:=by
 have hj:j<xs.length:=(aG.mp h).1
 have e:ixN xs.length (j:Int)=some j:=by
  unfold ixN
  rw [aC (by omega),aC (by omega)];simp
 unfold K7;rw [e];exact h
def Z1b (b:Expr):Prop:=∀o i,subscripted b false o i=operate [o,i] (getItem o i)
def IxR (X:Cx) (r:R2):Prop :=
 ∀(value slice:Expr) (ae:Pn9) (s:Shared) (σ:St) (H:Hp) (x y:V) (v u:Value) (Q:VK),A0 X ae σ H s->C3 x v->C3 y u->r x y H Q ->
  subscripted slice false v u=operate [v,u] (getItem v u)->wpAny (model X.prog X.w) X.A (subscriptTail value slice v u) (EP X ae σ Q) X.xe s
def MtR (X:Cx) (id:String) (r:V->List V->Hp->VK->Prop):Prop :=
 ∀(ae:Pn9) (s:Shared) (σ:St) (H:Hp) (x:V) (xs:List V) (v:Value) (us:List Value) (Q:VK),A0 X ae σ H s->C3 x v->B7 xs us->r x xs H Q ->
  wpAny (model X.prog X.w) X.A (call (.builtin id) (v::us)) (EP X ae σ Q) X.xe s
section
variable {X:Cx}{a b:Expr}{ta tb:TE}{pos:Pos}
theorem IxR.or {r r':R2} (h:IxR X r) (h':IxR X r'):IxR X (fun x y H Q=>r x y H Q\/r' x y H Q):=by
 intro value slice ae s σ H x y v u Q I rx ry q hs
 rcases q with q | q
 ·exact h value slice ae s σ H x y v u Q I rx ry q hs
 ·exact h' value slice ae s σ H x y v u Q I rx ry q hs
theorem Y1u {r:R2} (hr:IxR X r) (ha:PE X a ta) (hb:PE X b tb) (hs:Z1b b):PE X (.Subscript a b pos) (tOp r ta tb):=by
 intro ae s σ H Q I h
 exact Subscript_ (Z1j ha hb I h fun v u s2 x y H2 I2 rx ry q=>hr a b ae s2 σ H2 x y v u Q I2 rx ry q (hs _ _))
def rIxL (K:Fg9):R2:=fun x y H Q=>∃p xs i v,x=.ref p/\y=.int i/\E3 K H p xs/\K7 xs i=some v/\Q v H
def rIxT (K:Fg9):R2:=fun x y H Q=>∃p xs i v,x=.ref p/\y=.int i/\D8 K H p xs/\K7 xs i=some v/\Q v H
def rIxS:R2:=fun x y H Q=>∃z i c,x=.str z/\y=.int i/\z.length<=sizeLine/\K7 z.cps.toList i=some c/\Q (.str ⟨#[c]⟩) H
theorem W0q:IxR X (rIxL X.K):=by
 intro value slice ae s σ H x y v u Q I rx ry h hs
 obtain⟨p,xs,i,z,rfl,rfl,hq,he,q⟩:=h
 cases rx
 obtain⟨t,rfl⟩:=ry
 obtain⟨aT,r,pl,hz⟩:=I.list hq
 obtain⟨j,h1,h2,h3,h4,h5⟩:=Q7t he
 obtain⟨w,ew,eM⟩:=r.get h2
 have hl:=r.length
 have hn:=Q2q
 have fin:EP X ae σ Q w s:=⟨z,H,I,eM,q⟩
 by_cases h0:0<=i
 ·have hj:i.toNat=j:=by
   rw [seqIndex_of h0 h5]at h1
   exact aA h1
  exact item_listR pl.isList h0 (by omega) (by rw [hj];simpa using ew) fin hs
 ·have hj:(i+(aT.toArray.size:Int)).toNat=j:=by
   rw [seqIndex_neg (by omega) h4]at h1
   rw [aE,<- hl]
   exact aA h1
  exact subscriptTail_builtinR (x:=w) pl.isList.typeIs slot_list_getitem.lookup
   (wpAny_getItem_list_neg (Q:=fun r s'=>r=w/\EP X ae σ Q r s') pl.isList (by omega) (by rw [aE] <;> omega) (by omega) (by rw [hj];simpa using ew) ⟨rfl,fin⟩) hs
theorem W0t:IxR X (rIxT X.K):=by
 intro value slice ae s σ H x y v u Q I rx ry h hs
 obtain⟨p,xs,i,z,rfl,rfl,hq,he,q⟩:=h
 cases rx
 obtain⟨t,rfl⟩:=ry
 obtain⟨aT,r,pl,hz⟩:=I.tuple hq
 obtain⟨j,h1,h2,h3,h4,h5⟩:=Q7t he
 obtain⟨w,ew,eM⟩:=r.get h2
 have hl:=r.length
 have hn:=Q2q
 have fin:EP X ae σ Q w s:=⟨z,H,I,eM,q⟩
 exact subscriptTail_builtinR (x:=w) pl.typeIs slot_tuple_getitem.lookup
  (getItem_tuple (j:=j) (Q:=fun r s'=>r=w/\EP X ae σ Q r s') pl (by omega) (by omega) (by rw [aE,<- hl];exact h1) (by simpa using ew) ⟨rfl,fin⟩) hs
theorem W0s:IxR X rIxS:=by
 intro value slice ae s σ H x y v u Q I rx ry h hs
 obtain⟨z,i,c,rfl,rfl,hz,he,q⟩:=h
 obtain⟨t,rfl⟩:=rx
 obtain⟨t',rfl⟩:=ry
 obtain⟨j,h1,h2,h3,h4,h5⟩:=Q7t he
 have hl:z.cps.toList.length=z.length:=by simp [Str.length]
 rw [hl]at h1 h4 h5
 have hn:=Q2q
 exact tail_any (typeIs_str s z t) slot_str_getitem.lookup (getItem_str (c:=c) (by
  have e1:decide (i < -(2 ^ 63:Int))=false:=bg (by omega)
  have e2:decide (i ≥ 2 ^ 63)=false:=bg (by omega)
  rw [e1,e2,Bool.or_false]) (by rw [h1];simpa using h2) ⟨.str ⟨#[c]⟩,H,I.tok _,⟨_,rfl⟩,q⟩) hs
def rIx (K:Fg9):R2:=fun x y H Q=>rIxL K x y H Q\/rIxT K x y H Q\/rIxS x y H Q
theorem W0r:IxR X (rIx X.K):=W0q.or (W0t.or W0s)
theorem W2c (aT:List Value) (n j:Nat) (u:Value):Obj.mapSeq (·.setIfInBounds j u) { cls:=.type "list",data:=.seq aT.toArray n }={ cls:=.type "list",data:=.seq (aT.set j u).toArray n }:=by
 simp [Obj.mapSeq]
theorem A0.lst {ae:Pn9} {σ:St}{H:Hp}{s:Shared}{p:Addr}{xs:List V} (I:A0 X ae σ H s) (h:H p=some (.lst xs)) :
  ∃(aT:List Value) (n:Nat),B7 xs aT/\s.heap.get? p=some { cls:=.type "list",data:=.seq aT.toArray n }/\xs.length<=sizeLine:=by
 obtain⟨z,aT,n,r,e⟩:=I.hok p _ h
 exact⟨aT,n,r,e,z⟩
theorem A0.lstUpd {ae:Pn9} {σ:St}{H:Hp}{s:Shared}{p:Addr}{xs ys:List V}{aT its':List Value}{n n':Nat}{f:Obj->Obj} (I:A0 X ae σ H s) (h:H p=some (.lst xs))
  (ho:s.heap.get? p=some { cls:=.type "list",data:=.seq aT.toArray n }) (hf:f { cls:=.type "list",data:=.seq aT.toArray n }={ cls:=.type "list",data:=.seq its'.toArray n' }) (r:B7 ys its') (hz:ys.length<=sizeLine) (t:Nat) :
  A0 X ae σ (upd H p (.lst ys)) { s with heap:=s.heap.update p f,toks:=t }:=by
 have e:(s.heap.update p f).get? p=some { cls:=.type "list",data:=.seq its'.toArray n' }:=by
  rw [eU f ho (by rw [hf] <;> rfl),hf]
 refine I.write (x:=p) (e:=p) (by rw [h];trivial) (.inl rfl) (fun b u hb q=>(Heap.get?_update_other _ _ (dG hb)).trans q) ⟨_,e⟩ ?_
 exact⟨hz,its',n',r,e⟩
noncomputable def W6m:V->V->V->Hp->(Hp->Prop)->Prop:=fun o i v H Q=>∃p xs k j,o=.ref p/\i=.int k/\H p=some (.lst xs)/\ixN xs.length k=some j/\Q (upd H p (.lst (xs.set j v)))
theorem Y3x:Z0z X W6m:=by
 intro ae s σ H o i v ov iv u Q I ro ri rv h
 obtain⟨p,xs,k,j,rfl,rfl,hp,hj,q⟩:=h
 cases ro
 obtain⟨t,rfl⟩:=ri
 obtain⟨aT,n,r,ho,hz⟩:=I.lst hp
 obtain⟨h1,h2,h3,h4⟩:=Z2u hj
 have hl:=r.length
 have hn:=Q2q
 have I':A0 X ae σ (upd H p (.lst (xs.set j v))) { s with heap:=s.heap.update p (Obj.mapSeq (·.setIfInBounds j u)) } :=
  I.lstUpd hp ho (W2c aT n j u) (r.set rv j) (by rw [bW];exact hz) s.toks
 by_cases h0:0<=k
 ·have hk:k.toNat=j:=by
   rw [seqIndex_of h0 h4]at h1
   exact aA h1
  exact PySem.W.ki_setAt ho h0 (by omega) (by rw [aE,<- hl];exact h4) (by rw [hk];exact⟨_,I',q⟩)
 ·have hk:(k+(aT.toArray.size:Int)).toNat=j:=by
   rw [seqIndex_neg (by omega) h3]at h1
   rw [aE,<- hl]
   exact aA h1
  exact PySem.W.ki_setBack ho (by omega) (by rw [aE,<- hl];exact h3) (by omega) (by rw [hk];exact⟨_,I',q⟩)
theorem W9h (lo hi:Option Int) (n:Nat):(sliceBounds lo hi none n).1=((HT.sIx n 0 lo:Nat):Int)/\(sliceBounds lo hi none n).2.1=((HT.sIx n n hi:Nat):Int)/\(sliceBounds lo hi none n).2.2=1:=by
 refine⟨?_,?_,rfl⟩
 ·cases lo with
  | none=>simp [sliceBounds,HT.sIx]
  | some i =>
   simp only [sliceBounds,HT.sIx,Option.getD_none,show(1:Int) > 0 by decide,gj]
   by_cases h:i<0
   ·simp only [h,gj] <;> omega
   ·simp only [h,dY] <;> omega
 ·cases hi with
  | none=>simp [sliceBounds,HT.sIx]
  | some i =>
   simp only [sliceBounds,HT.sIx,Option.getD_none,show(1:Int) > 0 by decide,gj]
   by_cases h:i<0
   ·simp only [h,gj] <;> omega
   ·simp only [h,dY] <;> omega
theorem W9g (aT:List Value) (lo hi:Option Int):slicePick aT.toArray lo hi none=((aT.drop (HT.sIx aT.length 0 lo)).take (HT.sIx aT.length aT.length hi-HT.sIx aT.length 0 lo)).toArray:=by
 obtain⟨h1,h2,h3⟩:=W9h lo hi aT.toArray.size
 unfold slicePick
 rw [h1,h2,h3]
 simp only [sliceRange_one,pick_run,aE] <;> rfl
noncomputable def rSlL (K:Fg9):V->Option Int->Option Int->Hp->VK->Prop:=fun x lo hi H Q=>∃a xs,x=.ref a/\E3 K H a xs/\∀p,H p=none->Q (.ref p) (upd H p (.lst (Q0j xs lo hi)))
theorem W9c:O5 X (rSlL X.K):=by
 intro ae s σ H x v vl vu lo hi sl Q I rx hs pl pu h
 obtain⟨a,xs,rfl,hx,q⟩:=h
 cases rx
 obtain⟨aT,r,ht,hz⟩:=I.list hx
 have bN:=r.length
 refine⟨"list",_,slot_list_getitem.lookup,ht.isList.typeIs,?_⟩
 refine wpAny_getItem_list_slice ht.isList hs pl pu .none (by simp) ?_ (by rw [aE] <;> omega)
 rw [W9g,<- bN]
 refine⟨.ref s.heap.objs.size,_,I.laid (t':=s.toks) (o:=.lst (Q0j xs lo hi)) (fun b ob q=>af _ q) (ao _) ?_,rfl,q _ (I.hok.fresh (ao _))⟩
 exact⟨aV (Z9b xs lo hi) hz,_,0,(r.drop (HT.sIx xs.length 0 lo)).take (HT.sIx xs.length xs.length hi-HT.sIx xs.length 0 lo),aH _ rfl⟩
theorem Y7n:Q3j X (.type "list") (fun xs H Q=>∃p ys,xs=[.ref p]/\(E3 X.K H p ys\/D8 X.K H p ys)/\∀l,H l=none->Q (.ref l) (upd H l (.lst ys))):=by
 intro ae s σ H xs us Q I r h
 obtain⟨p,ys,rfl,hq,q⟩:=h
 obtain⟨u,rfl,rx⟩:=X9 r
 cases rx
 have fin:∀(aT:List Value),B7 ys aT->ys.length<=sizeLine->∀(h':Heap) (c':Nat),(∀b o',s.heap.get? b=some o'->h'.get? b=some o') ->
   h'.get? s.heap.objs.size=some { cls:=.type "list",dict:=none,data:=.seq aT.toArray c',slots:=#[] }->EP X ae σ Q (.ref s.heap.objs.size) { s with heap:=h' }:=fun aT r' hz h' c' kp e =>
  ⟨.ref s.heap.objs.size,_,I.laid (t':=s.toks) kp (ao _) (show K4 X.prog X.w _ h' _ (.lst ys)from⟨hz,aT,c',r',e⟩),rfl,q _ (I.hok.fresh (ao _))⟩
 rcases hq with hq | hq
 ·obtain⟨aT,r',pl,hz⟩:=I.list hq
  have bN:=r'.length
  obtain⟨o,ho,hc,n,hd⟩:=pl.isList
  exact call_list_seq p (.inl rfl) ho hc hd (fun h' c' kp e=>fin aT r' hz h' c' kp e) (by simp only [aE] <;> omega)
 ·obtain⟨aT,r',pl,hz⟩:=I.tuple hq
  have bN:=r'.length
  obtain⟨o,ho,hc,n,hd⟩:=pl
  exact call_list_seq p (.inr rfl) ho hc hd (fun h' c' kp e=>fin aT r' hz h' c' kp e) (by simp only [aE] <;> omega)
theorem Y7s:Q3j X (.type "tuple") (fun xs H Q=>∃p ys,xs=[.ref p]/\((E3 X.K H p ys/\∀l,H l=none->Q (.ref l) (upd H l (.tup ys)))\/(D8 X.K H p ys/\Q (.ref p) H))):=by
 intro ae s σ H xs us Q I r h
 obtain⟨p,ys,rfl,h⟩:=h
 obtain⟨u,rfl,rx⟩:=X9 r
 cases rx
 rcases h with⟨hq,q⟩ | ⟨hq,q⟩
 ·obtain⟨aT,r',pl,hz⟩:=I.list hq
  have bN:=r'.length
  refine call_tuple_list pl.isList (fun h' kp=>?_) (by simp only [aE] <;> omega)
  have I1:A0 X ae σ H { s with heap:=h' }:=I.kept (t':=s.toks) kp
  have I2:A0 X ae σ (upd H h'.objs.size (.tup ys)) { s with heap:=h'.push { cls:=.type "tuple",data:=.seq aT.toArray } } :=
   I1.laid (t':=s.toks) (fun b o e=>af _ e) (ao _) (show K4 X.prog X.w _ _ _ (.tup ys)from⟨hz,aT,r',IsTup.new _ _⟩)
  exact⟨.ref h'.objs.size,_,I2,rfl,q _ (I1.hok.fresh (ao _))⟩
 ·obtain⟨aT,r',pl,hz⟩:=I.tuple hq
  exact call_tuple_same pl ⟨.ref p,H,I,rfl,q⟩
def tyV (K:Fg9) (T:String) (x:V) (H:Hp):Prop:=match x with
 | .str _=>T="str"
 | .int _=>T="int"
 | .ref p=>(T="list"/\∃xs,E3 K H p xs)\/(T="tuple"/\∃o,K.lookup p=some o/\o.cls=.type "tuple"/\o.dict=none) \/
   (T="dict"/\((∃kvs,H p=some (.dK kvs))\/∃kvs,H p=some (.dT kvs)))\/(T="set"/\∃S n,H p=some (.set S n))
 | _=>False
theorem Y4w {ae:Pn9} {σ:St}{H:Hp}{s:Shared}{T:String}{x:V}{v:Value} (I:A0 X ae σ H s) (r:C3 x v) (ty:tyV X.K T x H) :
  s.TypeIs v T/\∀a,v=.ref a->∃ob,s.heap.get? a=some ob/\ob.dict=none:=by
 cases x with
 | str z =>
  obtain⟨t,rfl⟩:=r
  cases (show T="str" from ty)
  exact⟨typeIs_str s z t,fun _ e=>nomatch e⟩
 | int i =>
  obtain⟨t,rfl⟩:=r
  cases (show T="int" from ty)
  exact⟨typeIs_int s i t,fun _ e=>nomatch e⟩
 | ref p =>
  cases r
  rcases ty with⟨rfl,xs,hq⟩ | ⟨rfl,o,hk,hc,hd⟩ | ⟨rfl,hk⟩ | ⟨rfl,S,n,hk⟩
  ·obtain⟨aT,_,pl,_⟩:=I.list hq
   refine⟨pl.isList.typeIs,fun a e=>?_⟩
   cases e
   obtain⟨o,n,e,c,hd,_⟩:=pl
   exact⟨o,e,hd⟩
  ·refine⟨⟨o,I.kIn p o hk,hc⟩,fun a e=>?_⟩
   cases e
   exact⟨o,I.kIn _ o hk,hd⟩
  ·have z:∃o,s.heap.get? p=some o/\o.ExactDict:=by
    rcases hk with⟨kvs,hk⟩ | ⟨kvs,hk⟩
    ·obtain⟨_,_,_,_,o,_,_,e,ex,_⟩:=I.hok p _ hk
     exact⟨o,e,ex⟩
    ·obtain⟨_,_,_,_,o,_,_,e,ex,_⟩:=I.hok p _ hk
     exact⟨o,e,ex⟩
   obtain⟨o,e,ex⟩:=z
   refine⟨⟨o,e,ex.1⟩,fun a e2=>?_⟩
   cases e2
   exact⟨o,e,ex.2.1⟩
  ·obtain⟨o,_,_,_,e,ex,_⟩:=I.hok p _ hk
   refine⟨⟨o,e,ex.1⟩,fun a e2=>?_⟩
   cases e2
   exact⟨o,e,ex.2.1⟩
 | _=>exact False.elim ty
def tBM0 (K:Fg9) (T:String) (r:V->List V->Hp->VK->Prop) (to:TE):TE:=fun σ H Q=>to σ H fun x H1=>tyV K T x H1/\r x [] H1 Q
def tBM (K:Fg9) (T:String) (r:V->List V->Hp->VK->Prop) (to:TE) (t:TA):TE:=fun σ H Q=>to σ H fun x H1=>tyV K T x H1/\t σ H1 fun xs H2=>r x xs H2 Q
variable {o e:Expr}{es:List Expr}{to:TE}{t:TA}{name:Str}{apos bC:Pos}{T id:String}{r:V->List V->Hp->VK->Prop}
theorem W4k (pa:PlainAttrs T) (slot:Slot T name id) (fx:typeOf (.builtin id)=pure (.type "method_descriptor")) (hm:MtR X id r) (ho:PE X o to)
  (cJ:attributeBase o name X.env (eval o X.env)=eval o X.env:=by rfl) (cI:(apos.endLine==bC.line)=true:=by rfl):PE X (.Call (.Attribute o name apos) [] [] bC) (tBM0 X.K T r to):=by
 intro ae s σ H Q I h
 refine wpAny_Call_method0_late cJ cI (B4 (ho ae s σ H _ I h) fun v s1 bx=>?_)
 obtain⟨x,H1,I1,r1,ty,q1⟩:=bx
 obtain⟨h1,h2⟩:=Y4w I1 r1 ty
 exact⟨T,id,pa,slot,fx,h1,h2,Calls.callWith_builtin rfl (PySem.evalArgs_none (hm ae s1 σ H1 x [] v [] Q I1 r1 .nil q1))⟩
theorem Z3z (pa:PlainAttrs T) (slot:Slot T name id) (fx:typeOf (.builtin id)=pure (.type "method_descriptor")) (hm:MtR X id r) (ho:PE X o to) (ha:PA X (e::es) t)
  (cJ:attributeBase o name X.env (eval o X.env)=eval o X.env:=by rfl)
  (eR:((backTo bC (starEach (e::es) X.env)).all (fun x=>!x.1)&&(backToKw bC (keywordEach [] X.env)).all (fun x=>x.1.isSome)
  &&decide ((e::es).length+([]:List Keyword).length+(if ([]:List Keyword).isEmpty then 0 else 1)<30))=true:=by rfl)
  (cI:(apos.endLine==bC.line)=true:=by rfl) (hs:starEach (e::es) X.env=(false,eval e X.env)::starEach es X.env:=by rfl) (cT:(backTo bC (starEach es X.env)).any (·.1)=false:=by rfl) :
  PE X (.Call (.Attribute o name apos) (e::es) [] bC) (tBM X.K T r to t):=by
 intro ae s σ H Q I h
 refine wpAny_Call_method_late cJ eR cI rfl (B4 (ho ae s σ H _ I h) fun v s1 bx=>?_)
 obtain⟨x,H1,I1,r1,ty,q1⟩:=bx
 obtain⟨h1,h2⟩:=Y4w I1 r1 ty
 refine⟨T,id,pa,slot,fx,h1,h2,?_⟩
 have hA:=ha bC ae s1 σ H1 _ I1 q1
 rw [hs]at hA ⊢
 refine Calls.callWith_builtin (by show(false||(backTo bC (starEach es X.env)).any (·.1))=false;rw [cT] <;> rfl) (Calls.evalArgs_plain ?_)
 exact B4 hA fun us s2 ⟨vs,H2,I2,r2,q2⟩=>hm ae s2 σ H2 x vs v us Q I2 r1 r2 q2
end
end L2
namespace L2
open PySem PySem.Spec PyProof.Rows
def MtM (X:Cx) (id:String) (r:V->List V->Hp->VK->Prop):Prop :=
 ∀(ae:Pn9) (s:Shared) (σ:St) (H:Hp) (x:V) (xs:List V) (v:Value) (us:List Value) (Q:VK),A0 X ae σ H s->C3 x v->B7 xs us->r x xs H Q ->
  wpAny (model X.prog X.w) X.A (call (.builtin id) (v::us)) (EP X ae σ Q) X.xe s
theorem B7.one:∀{x:V}{us:List Value},B7 [x] us->∃u,us=[u]/\C3 x u
 | _,_,.cons r .nil=>⟨_,rfl,r⟩
theorem B7.two:∀{x y:V}{us:List Value},B7 [x,y] us->∃u v,us=[u,v]/\C3 x u/\C3 y v
 | _,_,_,.cons r (.cons q .nil)=>⟨_,_,rfl,r,q⟩
theorem B7.zero:∀{us:List Value},B7 [] us->us=[]
 | _,.nil=>rfl
theorem B7.dropLast {xs:List V}{us:List Value} (h:B7 xs us):B7 xs.dropLast us.dropLast:=by
 induction h with
 | nil=>exact .nil
 | cons r t ih =>
  cases t with
  | nil=>exact .nil
  | cons q t'=>exact .cons r ih
theorem B7.rep {xs:List V}{us:List Value} (h:B7 xs us):∀k:Nat,B7 (List.replicate k xs).flatten (List.replicate k us).flatten
 | 0=>.nil
 | k+1=>by
  rw [cf,cf,cY,cY]
  exact B7.append h (B7.rep h k)
theorem Y8x {α:Type} (l:List α):l.eraseIdx (l.length-1)=l.dropLast:=by
 induction l with
 | nil=>rfl
 | cons a r ih =>
  cases r with
  | nil=>rfl
  | cons b r =>
   have e:(a::b::r).length-1=((b::r).length-1)+1:=by
    have h1:(a::b::r).length=r.length+2:=rfl
    have h2:(b::r).length=r.length+1:=rfl
    omega
   rw [e,List.eraseIdx_cons_succ,ih]
   all_goals rfl
theorem Z9p (aT:List Value):∀(k:Nat) (bU:List Value),
  List.foldl (fun x1 x2=>x1++x2) bU.toArray (List.replicate k aT.toArray)=(bU++(List.replicate k aT).flatten).toArray
 | 0,bU=>by simp
 | k+1,bU=>by
  have e:bU.toArray++aT.toArray=(bU++aT).toArray:=by simp
  have e2:(bU++aT)++(List.replicate k aT).flatten=bU++(List.replicate (k+1) aT).flatten:=by
   rw [cf,cY,bI]
  rw [<- e2,<- Z9p aT k (bU++aT),<- e,cf,List.foldl_cons]
section
variable {X:Cx}{ae:Pn9} {σ:St}{H:Hp}{s:Shared}{l b:Addr}{xs ys zs:List V}
theorem A0.lset {aT its':List Value}{n:Nat}{f:Array Value->Array Value}{t':Nat} (I:A0 X ae σ H s) (hH:H l=some (.lst xs))
  (e:s.heap.get? l=some { cls:=.type "list",data:=.seq aT.toArray n }) (hf:f aT.toArray=its'.toArray) (hv:B7 ys its') (hz:ys.length<=sizeLine) :
  A0 X ae σ (upd H l (.lst ys)) { s with heap:=s.heap.update l (Obj.mapSeq f),toks:=t' }:=by
 have q:=PySem.IsL.update e f
 rw [hf]at q
 refine I.write (x:=l) (e:=l) (by rw [hH];exact trivial) (.inl rfl) (fun b' u hb hu=>(Heap.get?_update_other s.heap (Obj.mapSeq f) (dG hb)).trans hu) ⟨_,q⟩ ?_
 exact⟨hz,its',_,hv,q⟩
theorem A0.lnew {aT:List Value}{t':Nat} (I:A0 X ae σ H s) (hv:B7 ys aT) (hz:ys.length<=sizeLine) :
  A0 X ae σ (upd H s.heap.objs.size (.lst ys)) { s with heap:=s.heap.push { cls:=.type "list",data:=.seq aT.toArray },toks:=t' } :=
 I.laid (fun _ _ q=>af _ q) (ao _) ⟨hz,aT,0,hv,aH _ rfl⟩
theorem A0.fresh (I:A0 X ae σ H s):H s.heap.objs.size=none:=I.hok.fresh (ao _)
theorem A0.lstM (I:A0 X ae σ H s) (hH:H l=some (.lst xs)):xs.length<=sizeLine/\∃(aT:List Value) (n:Nat),B7 xs aT/\xs.length=aT.length/\s.heap.get? l=some { cls:=.type "list",data:=.seq aT.toArray n }:=by
 obtain⟨z,aT,n,r,e⟩:=I.hok l _ hH
 exact⟨z,aT,n,r,r.length,e⟩
theorem Y1g {n:Nat} (h:n<=sizeLine):Builtin.List.listTooLong n=false:=by
 unfold Builtin.List.listTooLong
 exact bg (by omega)
end
section
variable {X:Cx}
noncomputable def W6i:V->List V->Hp->VK->Prop:=fun x vs H Q=>∃l xs y,x=.ref l/\vs=[y]/\H l=some (.lst xs)/\xs.length<sizeLine/\Q .non (upd H l (.lst (xs++[y])))
theorem W2t:MtM X "list.append" W6i:=by
 intro ae s σ H x vs v us Q I rx rv h
 obtain⟨l,xs,y,rfl,rfl,hH,hz,q⟩:=h
 cases rx
 obtain⟨u,rfl,ru⟩:=rv.one
 obtain⟨z,aT,n,r,hl,e⟩:=I.lstM hH
 refine call_meets F.slot_list_append ⟨_,e,rfl⟩ F.entry_list_append (F.args_list_append_2 _ _) (PySem.list_append l aT.toArray n u (by rw [aE];omega)) ⟨e,?_⟩
 refine⟨.non,_,I.lset (its':=aT++[u]) hH e (by simp) (r.append (.cons ru .nil)) ?_,rfl,q⟩
 rw [aq,bJ]
 omega
noncomputable def W6k:V->List V->Hp->VK->Prop:=fun x vs H Q=>∃l b xs zs,x=.ref l/\vs=[.ref b]/\H l=some (.lst xs)/\H b=some (.lst zs)/\xs.length+zs.length<=sizeLine/\Q .non (upd H l (.lst (xs++zs)))
theorem W2u:MtM X "list.extend" W6k:=by
 intro ae s σ H x vs v us Q I rx rv h
 obtain⟨l,b,xs,zs,rfl,rfl,hH,hB,hz,q⟩:=h
 cases rx
 obtain⟨u,rfl,ru⟩:=rv.one
 cases ru
 obtain⟨z,aT,n,r,hl,e⟩:=I.lstM hH
 obtain⟨z2,ce,n2,r2,kf,e2⟩:=I.lstM hB
 have hsz:aT.toArray.size+ce.toArray.size<=sizeLine:=by rw [aE,aE];omega
 have fX:¬ (!aT.toArray.isEmpty&&Builtin.List.listTooLong (aT.toArray.size+ce.toArray.size))=true:=by
  rw [Y1g hsz,Bool.and_false]
  exact aQ
 refine call_meets F.slot_list_extend ⟨_,e,rfl⟩ F.entry_list_extend (F.args_list_extend_2 _ _)
  (AutoSeq1.list_extend_list_list_0 l aT.toArray n b ce.toArray n2 fX (by rw [aE];omega) (by omega)) ⟨e,e2,?_⟩
 refine⟨.non,_,I.lset (its':=aT++ce) hH e (by simp) (r.append r2) ?_,rfl,q⟩
 rw [aq]
 omega
noncomputable def rPop:V->List V->Hp->VK->Prop:=fun x vs H Q=>∃l xs y,x=.ref l/\vs=[]/\H l=some (.lst xs)/\xs[xs.length-1]?=some y/\Q y (upd H l (.lst xs.dropLast))
theorem W2w:MtM X "list.pop" rPop:=by
 intro ae s σ H x vs v us Q I rx rv h
 obtain⟨l,xs,y,rfl,rfl,hH,hy,q⟩:=h
 cases rx
 have oK:=rv.zero
 subst oK
 obtain⟨z,aT,n,r,hl,e⟩:=I.lstM hH
 obtain⟨u,hu,ru⟩:=r.get hy
 have oE:aT.toArray[aT.toArray.size-1]?=some u:=by
  show aT.toArray[aT.length-1]?=some u
  rw [<- i4,<- hl]
  exact hu
 refine call_meets F.slot_list_pop ⟨_,e,rfl⟩ F.entry_list_pop (F.args_list_pop_1 _) (MeetsSeq.list_pop_last l aT.toArray n u oE (by rw [aE];omega)) ⟨e,?_⟩
 refine⟨y,_,I.lset (its':=aT.dropLast) hH e ?_ r.dropLast ?_,ru,q⟩
 ·show aT.toArray.eraseIdxIfInBounds (aT.toArray.size-1)=aT.dropLast.toArray
  rw [aE,List.eraseIdxIfInBounds_toArray,Y8x]
 ·rw [List.length_dropLast]
  omega
def rCat:R2:=fun x y H Q=>∃l b xs zs,x=.ref l/\y=.ref b/\H l=some (.lst xs)/\H b=some (.lst zs)/\xs.length+zs.length<=sizeLine/\∀p,H p=none->Q (.ref p) (upd H p (.lst (xs++zs)))
theorem W3t:L9 X (binaryOp .Add) rCat:=by
 intro ae s σ H x y v u Q I rx ry h
 obtain⟨l,b,xs,zs,rfl,rfl,hH,hB,hz,q⟩:=h
 cases rx
 cases ry
 obtain⟨z,aT,n,r,hl,e⟩:=I.lstM hH
 obtain⟨z2,ce,n2,r2,kf,e2⟩:=I.lstM hB
 refine PySem.P.add_list e e2 ?_ (by rw [aE,aE];omega)
 have ea:aT.toArray++ce.toArray=(aT++ce).toArray:=by simp
 rw [ea]
 exact⟨.ref _,_,I.lnew (t':=s.toks) (r.append r2) (by rw [aq];omega),rfl,q _ I.fresh⟩
def rRep:R2:=fun x y H Q=>∃l k xs,x=.ref l/\y=.int k/\H l=some (.lst xs)/\-(2 ^ 63)<=k/\k<2 ^ 63/\xs.length*k.toNat<=sizeLine /\
 ∀p,H p=none->Q (.ref p) (upd H p (.lst (List.replicate k.toNat xs).flatten))
theorem W1j {α:Type} (xs:List α) (k:Nat):(List.replicate k xs).flatten.length=k*xs.length:=by
 induction k with
 | zero=>simp
 | succ k ih=>rw [cf,cY,aq,ih,Nat.succ_mul,Nat.add_comm]
theorem W4f:L9 X (binaryOp .Mult) rRep:=by
 intro ae s σ H x y v u Q I rx ry h
 obtain⟨l,k,xs,rfl,rfl,hH,h1,h2,hz,q⟩:=h
 cases rx
 obtain⟨t,rfl⟩:=ry
 obtain⟨z,aT,n,r,hl,e⟩:=I.lstM hH
 have bN:aT.toArray.size*k.toNat<=sizeLine:=by rw [aE,<- hl];exact hz
 have lN:¬ aT.toArray.size*k.toNat > (2 ^ 63-1) / 8:=by
  have:(sizeLine:Nat)<=(2 ^ 63-1) / 8:=by decide
  omega
 have lD:¬ (!Builtin.List.listFitsIndex k)=true:=by
  rw [fitsIndex_both h1 h2]
  exact aQ
 have fX:¬ Builtin.List.listTooLong (aT.toArray.size*k.toNat)=true:=by
  rw [Y1g bN]
  exact aQ
 have gy:List.foldl (fun x1 x2=>x1++x2) #[] (List.replicate (if aT.toArray.isEmpty=true then 0 else k.toNat) aT.toArray)=(List.replicate k.toNat aT).flatten.toArray:=by
  have f0:∀m:Nat,List.foldl (fun x1 x2=>x1++x2) #[] (List.replicate m aT.toArray)=(List.replicate m aT).flatten.toArray:=fun m=>by
   have:=Z9p aT m []
   rw [bL]at this
   exact this
  rw [f0]
  cases aT with
  | nil=>simp
  | cons a r'=>rw [ax (by simp)]
 refine wpAny_binaryOp_repeat_ref (T:="list") (U:="int") (by decide) ⟨_,e,rfl⟩ (fun s'=>typeIs_int s' k t) noFill_list_mul F.fills_int_mul F.slot_int_rmul repeat_list F.slot_int_index.lookup
  (call_meets F.slot_int_rmul (typeIs_int s k t) F.entry_int_rmul (F.args_int_rmul_2 _ _) (int___rmul___int_list k t l aT.toArray n)
   ⟨e,rfl,⟨_,e,rfl⟩,call_meets F.slot_list_mul ⟨_,e,rfl⟩ F.entry_list_mul (F.args_list_mul_2 _ _) (AutoListH.list___mul___list_int_3 l aT.toArray n k t lD lN fX) ⟨e,?_⟩⟩)
 rw [gy]
 exact⟨.ref _,_,I.lnew (t':=s.toks) (r.rep k.toNat) (by rw [W1j,Nat.mul_comm];exact hz),rfl,q _ I.fresh⟩
end
section
variable {prog:Program}{w:World}{A:Around}{E:VS9}{s:Shared}
end
section
variable {X:Cx}
end
end L2
namespace L2
open PySem PySem.Spec PyProof.Rows
section
variable {κ:Type} [DecidableEq κ]
noncomputable def X8 (kvs:List (κ×V)) (k:κ):Option V:=(kvs.find? fun kv=>decide (kv.1=k)).map (·.2)
noncomputable def S5 (kvs:List (κ×V)) (k:κ) (v:V):List (κ×V) :=
 if (kvs.any fun kv=>decide (kv.1=k))=true then kvs.map (fun kv=>if kv.1=k then(kv.1,v)else kv)else kvs++[(k,v)]
theorem Z0b {p:κ×V}{r:List (κ×V)}{k:κ} (e:p.1=k):X8 (p::r) k=some p.2:=by simp [X8,bn,e]
theorem Z0a {p:κ×V}{r:List (κ×V)}{k:κ} (e:¬ p.1=k):X8 (p::r) k=X8 r k:=by simp [X8,bn,e]
theorem Y5e (k:κ):∀kvs:List (κ×V),(kvs.any fun kv=>decide (kv.1=k))=(X8 kvs k).isSome
 | []=>rfl
 | p::r=>by
  rw [List.any_cons]
  by_cases e:p.1=k
  ·simp only [Z0b e,be e,Bool.true_or,Option.isSome_some]
  ·rw [Z0a e,bg e,Bool.false_or];exact Y5e k r
theorem Q8r (kvs:List (κ×V)) (k:κ) (v:V):(S5 kvs k v).length<=kvs.length+1:=by
 unfold S5
 split
 ·rw [ag];omega
 ·rw [aq,aB,bc];omega
theorem Y2.isSome_eq {o:Option V}{u:Option Value} (r:Y2 o u):o.isSome=u.isSome:=by
 cases o with
 | none=>cases u with
  | none=>rfl
  | some _=>exact(show False from r).elim
 | some _=>cases u with
  | none=>exact(show False from r).elim
  | some _=>rfl
theorem Y2.getD {o:Option V}{u:Option Value}{d:V}{d':Value} (r:Y2 o u) (rd:C3 d d'):C3 (o.getD d) (u.getD d'):=by
 cases o with
 | none=>cases u with
  | none=>exact rd
  | some _=>exact(show False from r).elim
 | some _=>cases u with
  | none=>exact(show False from r).elim
  | some _=>exact r
theorem KV.val {kvs:List (κ×V)}{vs:List (κ×Value)} (r:KV kvs vs) (k:κ):Y2 (X8 kvs k) (valueAt vs k):=by
 unfold KV at r
 induction r with
 | nil=>exact True.intro
 | @cons p q ps qs h t ih =>
  obtain⟨h1,h2⟩:=h
  by_cases e:p.1=k
  ·have e':q.1=k:=h1.symm.trans e
   have b:valueAt (q::qs) k=some q.2:=by simp [valueAt,bn,e']
   rw [Z0b e,b];exact h2
  ·have e':¬ q.1=k:=fun z=>e (h1.trans z)
   have b:valueAt (q::qs) k=valueAt qs k:=by simp [valueAt,bn,e']
   rw [Z0a e,b];exact ih
theorem KV.any {kvs:List (κ×V)}{vs:List (κ×Value)} (r:KV kvs vs) (k:κ):(kvs.any fun kv=>decide (kv.1=k))=vs.any fun kv=>decide (kv.1=k):=by
 unfold KV at r
 induction r with
 | nil=>rfl
 | cons h t ih=>rw [List.any_cons,List.any_cons,ih,h.1]
theorem KV.repl {kvs:List (κ×V)}{vs:List (κ×Value)} (r:KV kvs vs) (k:κ) {y:V}{u:Value} (ry:C3 y u) :
  KV (kvs.map fun kv=>if kv.1=k then(kv.1,y)else kv) (vs.map fun kv=>if kv.1=k then(kv.1,u)else kv):=by
 unfold KV at r ⊢
 induction r with
 | nil=>exact .nil
 | @cons p q ps qs h t ih =>
  rw [au,au]
  refine .cons ?_ ih
  obtain⟨h1,h2⟩:=h
  by_cases e:p.1=k
  ·rw [aC e,aC (h1.symm.trans e)];exact⟨h1,ry⟩
  ·rw [ax e,ax (fun z=>e (h1.trans z))];exact⟨h1,h2⟩
theorem KV.put {kvs:List (κ×V)}{vs:List (κ×Value)} (r:KV kvs vs) (k:κ) {y:V}{u:Value} (ry:C3 y u):KV (S5 kvs k y) (stored vs k u):=by
 unfold S5 stored
 rw [r.any k]
 by_cases e:(vs.any fun kv=>decide (kv.1=k))=true
 ·rw [aC e,aC e];exact r.repl k ry
 ·rw [ax e,ax e];exact Paired.snoc r ⟨rfl,ry⟩
theorem KV.length {kvs:List (κ×V)}{vs:List (κ×Value)} (r:KV kvs vs):kvs.length=vs.length:=Paired.length r
end
theorem Q3o {P:Program}{w:World}{k:B3}{u:Value} (r:C3 (kV k) u):(M3 P w).is k u=true:=by
 cases k with
 | inl i=>obtain⟨t,e⟩:=(show ∃t,u=Value.int i t from r);subst e;exact W2j P w i t
 | inr x=>obtain⟨t,e⟩:=(show ∃t,u=Value.str x t from r);subst e;exact W2k P w x t
theorem Y0j {P:Program}{w:World}:∀{ks:List B3}{us:List Value},B7 (ks.map kV) us->ItemsAre (M3 P w) ks us
 | [],_,r=>by rw [cX]at r;cases r;exact .nil
 | k::ks,_,r=>by
  rw [au]at r
  cases r with
  | cons h t=>exact .cons (Q3o h) (Y0j t)
noncomputable abbrev KT (H:Hp):List (List B3×V)->List (List B3×Addr×Value)->Prop:=Paired fun p q=>p.1=q.1/\H q.2.1=some (.tup (p.1.map kV))/\C3 p.2 q.2.2
theorem KT.val {H:Hp}{kvs:List (List B3×V)}{xs:List (List B3×Addr×Value)} (r:KT H kvs xs) (k:List B3):Y2 (X8 kvs k) ((atKey xs k).map (·.2)):=by
 induction r with
 | nil=>exact True.intro
 | @cons p q ps qs h t ih =>
  obtain⟨h1,_,h2⟩:=h
  by_cases e:p.1=k
  ·have e':q.1=k:=h1.symm.trans e
   have b:atKey (q::qs) k=some q.2:=by simp [atKey,bn,e']
   rw [Z0b e,b];exact h2
  ·have e':¬ q.1=k:=fun z=>e (h1.trans z)
   have b:atKey (q::qs) k=atKey qs k:=by simp [atKey,bn,e']
   rw [Z0a e,b];exact ih
theorem KT.repl {H:Hp}{kvs:List (List B3×V)}{xs:List (List B3×Addr×Value)} (r:KT H kvs xs) (k:List B3) {y:V}{u:Value} (ry:C3 y u) :
  KT H (kvs.map fun kv=>if kv.1=k then(kv.1,y)else kv) (xs.map (putAt k u)):=by
 induction r with
 | nil=>exact .nil
 | @cons p q ps qs h t ih =>
  rw [au,au]
  refine .cons ?_ ih
  obtain⟨h1,h2,h3⟩:=h
  unfold putAt
  by_cases e:p.1=k
  ·rw [aC e,aC (h1.symm.trans e)];exact⟨h1,h2,ry⟩
  ·rw [ax e,ax (fun z=>e (h1.trans z))];exact⟨h1,h2,h3⟩
theorem KT.put {H:Hp}{kvs:List (List B3×V)}{xs:List (List B3×Addr×Value)} (r:KT H kvs xs) (k:List B3) {b:Addr}{y:V}{u:Value} (hb:H b=some (.tup (k.map kV))) (ry:C3 y u) :
  KT H (S5 kvs k y) (storedH xs k b u):=by
 have e:(kvs.any fun kv=>decide (kv.1=k))=(atKey xs k).isSome:=by
  rw [Y5e,(r.val k).isSome_eq,Option.isSome_map]
 unfold S5 storedH
 rw [e]
 by_cases q:(atKey xs k).isSome=true
 ·rw [aC q,aC q];exact r.repl k ry
 ·rw [ax q,ax q];exact Paired.snoc r ⟨rfl,hb,ry⟩
theorem KT.keeps {H H':Hp}{kvs:List (List B3×V)}{xs:List (List B3×Addr×Value)} (r:KT H kvs xs) (ht:∀b ys,H b=some (.tup ys)->H' b=some (.tup ys)):KT H' kvs xs :=
 Paired.mapP r fun _ _ z=>⟨z.1,ht _ _ z.2.1,z.2.2⟩
section
variable {P:Program}{w:World}{H:Hp}{h:Heap}{a:Addr}
theorem Y2d {u:HO} (ok:J1 P w H h) (e:Rd H a u):K4 P w H h a u:=e.ok ok
theorem Q4h {kvs:List (B3×V)} (ok:J1 P w H h) (e:Rd H a (.dK kvs)):kvs.length<=sizeLine/\(a==sysModules)=false/\∃vs,KV kvs vs/\h.DictOf (M3 P w) a vs :=
 show K4 P w H h a (.dK kvs)from Y2d ok e
theorem Z2b {kvs:List (B3×V)} (ok:J1 P w H h) (e:H a=some (.dK kvs)):kvs.length<=sizeLine/\(a==sysModules)=false/\∃vs,KV kvs vs/\h.DictOf (M3 P w) a vs:=Q4h ok (.inl e)
theorem Q6m {ks:List B3} (ok:J1 P w H h) (e:H a=some (.tup (ks.map kV))):(tupleKind (M3 P w)).is h ks a:=by
 obtain⟨_,aT,r,o,h1,h2,n,h3⟩:=(show K4 P w H h a (.tup (ks.map kV))from ok a _ e)
 exact⟨o,aT.toArray,n,h1,h2,h3,by simpa using Y0j r⟩
theorem Q4i {kvs:List (List B3×V)} (ok:J1 P w H h) (e:Rd H a (.dT kvs)):kvs.length<=sizeLine/\(a==sysModules)=false /\
  ∃xs,KT H kvs xs/\h.DictOfH (tupleKind (M3 P w)) a xs:=by
 obtain⟨z,y,xs,r,o,es,ep,h1,h2,h3,h4,h5⟩:=(show K4 P w H h a (.dT kvs)from Y2d ok e)
 refine⟨z,y,xs,r,o,es,ep,h1,h2,h3,h4,fun x hx=>?_,h5⟩
 have all:∀{l:List (List B3×V)}{m:List (List B3×Addr×Value)},KT H l m->∀x∈m,(tupleKind (M3 P w)).is h x.1 x.2.1:=by
  intro l m q
  induction q with
  | nil=>intro x hx;exact nomatch hx
  | @cons p q ps qs hq t ih =>
   intro x hx
   rcases av.mp hx with e | hx
   ·subst e
    exact Q6m ok (by rw [<- hq.1];exact hq.2.1)
   ·exact ih x hx
 exact all r x hx
theorem Y8r {kvs:List (List B3×V)} (ok:J1 P w H h) (e:H a=some (.dT kvs)):kvs.length<=sizeLine/\(a==sysModules)=false /\
  ∃xs,KT H kvs xs/\h.DictOfH (tupleKind (M3 P w)) a xs:=Q4i ok (.inl e)
end
def Q0h (H:Hp) (a:Addr) (y:V) (r:Option V):Prop :=
 (∃kvs k,Rd H a (.dK kvs)/\y=kV k/\r=X8 kvs k)\/∃kvs k b,Rd H a (.dT kvs)/\y=.ref b/\H b=some (.tup (k.map kV))/\r=X8 kvs k
def Q5t (H:Hp) (a:Addr) (y v:V) (H':Hp):Prop :=
 (∃kvs k,H a=some (.dK kvs)/\y=kV k/\kvs.length<sizeLine/\H'=upd H a (.dK (S5 kvs k v))) \/
 ∃kvs k b,H a=some (.dT kvs)/\y=.ref b/\H b=some (.tup (k.map kV))/\kvs.length<sizeLine/\H'=upd H a (.dT (S5 kvs k v))
theorem Q0h.k {H:Hp}{a:Addr}{kvs:List (B3×V)}{k:B3} (e:H a=some (.dK kvs)):Q0h H a (kV k) (X8 kvs k):=.inl ⟨kvs,k,.inl e,rfl,rfl⟩
theorem Q5t.k {H:Hp}{a:Addr}{kvs:List (B3×V)}{k:B3}{v:V} (e:H a=some (.dK kvs)) (hl:kvs.length<sizeLine):Q5t H a (kV k) v (upd H a (.dK (S5 kvs k v))):=.inl ⟨kvs,k,e,rfl,hl,rfl⟩
section
variable {X:Cx}{ae:Pn9} {σ:St}{H:Hp}{s:Shared}{a:Addr}{y v:V}{u r:Value}{o:Option V}{A:Around}{E:VS9}
theorem A0.big (I:A0 X ae σ H s):sysModules<s.heap.objs.size:=by
 have h:mainGlobals<s.heap.objs.size:=(I.mod.glob.keeps I.bk).lt
 exact Nat.lt_trans (by decide) h
theorem Y8f {Q:VS9} (hu:A.units+1<cLine) (I:A0 X ae σ H s) (g:Q0h H a y (some v)) (ry:C3 y u) (h:∀w' s',A0 X ae σ H s'->C3 v w'->Q w' s') :
  wpAny (model X.prog X.w) A (getItem (.ref a) u) Q E s:=by
 rcases g with⟨kvs,k,e,ey,l⟩ | ⟨kvs,k,b,e,ey,eb,l⟩
 ·subst ey
  obtain⟨z,hd,vs,rel,dd⟩:=Q4h I.hok e
  obtain⟨w',hw,eM⟩:=Y2.some_of (v:=v) (o:=valueAt vs k) (by rw [l];exact rel.val k)
  exact wpAny_getItem_of (Q3o ry) dd.mapOf hw (h w' _ (I.tok _) eM)
 ·subst ey
  cases (show u=Value.ref b from ry)
  obtain⟨z,hd,xs,rel,dd⟩:=Q4i I.hok e
  obtain⟨w',hw,eM⟩:=Y2.some_of (v:=v) (o:=(atKey xs k).map (·.2)) (by rw [l];exact rel.val k)
  obtain⟨p,hp,oU⟩:=Option.map_eq_some_iff.mp hw
  refine wpAny_getItem_heap (tupleKind_room_in1 hu) (Q6m I.hok eb) dd hp ?_
  rw [oU]
  exact h w' _ (I.tok _) eM
theorem Y8g {Q:VS9} (hu:A.units+1<cLine) (I:A0 X ae σ H s) (g:Q0h H a y o) (ry:C3 y u) (h:∀s',A0 X ae σ H s'->Q (.bool (!o.isSome)) s') :
  wpAny (model X.prog X.w) A (compareOp .NotIn u (.ref a)) Q E s:=by
 rcases g with⟨kvs,k,e,ey,l⟩ | ⟨kvs,k,b,e,ey,eb,l⟩
 ·subst ey
  obtain⟨z,hd,vs,rel,dd⟩:=Q4h I.hok e
  refine wpAny_notIn_of (Q3o ry) hd dd.mapOf ?_
  rw [<- (rel.val k).isSome_eq,<- l]
  exact h _ (I.tok _)
 ·subst ey
  cases (show u=Value.ref b from ry)
  obtain⟨z,hd,xs,rel,dd⟩:=Q4i I.hok e
  refine wpAny_notIn_heap (tupleKind_room_in1 hu) (Q6m I.hok eb) hd dd ?_
  have q:=(rel.val k).isSome_eq
  rw [Option.isSome_map]at q
  rw [<- q,<- l]
  exact h _ (I.tok _)
theorem Q8d {h':Heap}{t':Nat}{ob:HO} (I:A0 X ae σ H s) (mu:Mut (H a)) (hs:Heap.SameBut a s.heap h') (he:∃q,h'.get? a=some q) (new:K4 X.prog X.w (upd H a ob) h' a ob) :
  A0 X ae σ (upd H a ob) { s with heap:=h',toks:=t' } :=
 I.write (x:=a) (e:=a) mu (.inl rfl) (fun b q hb z=>(hs.2 b hb).trans z) he new
theorem Z9f {P:Program}{w:World}{H':Hp}{h':Heap}{kvs:List (B3×V)}{vs:List (B3×Value)} (z:kvs.length<=sizeLine) (hd:(a==sysModules)=false) (rel:KV kvs vs) (dd:h'.DictOf (M3 P w) a vs) :
  K4 P w H' h' a (.dK kvs):=⟨z,hd,vs,rel,dd⟩
theorem Y8h {H':Hp}{Q:Unit->Shared->Prop} (hu:A.units+1<cLine) (I:A0 X ae σ H s) (g:Q5t H a y v H') (ry:C3 y u) (rv:C3 v r) (h:∀s',A0 X ae σ H' s'->Q () s') :
  wpAny (model X.prog X.w) A (setItem (.ref a) u r) Q E s:=by
 rcases g with⟨kvs,k,e,ey,l,eH⟩ | ⟨kvs,k,b,e,ey,eb,l,eH⟩
 ·subst ey eH
  obtain⟨z,hd,vs,rel,dd⟩:=Z2b I.hok e
  have hz:vs.length<=sizeLine:=by rw [<- rel.length];exact z
  have hl:(S5 kvs k v).length<=sizeLine:=by have:=Q8r kvs k v;omega
  refine wpAny_setItem_pairs (hsz:=hz) (Q3o ry) dd fun h' iK hs=>h _ ?_
  have he:∃q,h'.get? a=some q:=let ⟨q,_,_,hq,_⟩:=iK;⟨q,hq⟩
  exact Q8d I (by rw [e];exact True.intro) hs he (Z9f hl hd (rel.put k rv) iK)
 ·subst ey eH
  cases (show u=Value.ref b from ry)
  obtain⟨z,hd,xs,rel,dd⟩:=Y8r I.hok e
  have hz:xs.length<=sizeLine:=by rw [<- Paired.length rel];exact z
  have hl:(S5 kvs k v).length<=sizeLine:=by have:=Q8r kvs k v;omega
  refine wpAny_setItem_heap (hsz:=hz) (tupleKind_room_in1 hu) (Q6m I.hok eb) dd fun h' iK hs=>h _ ?_
  obtain⟨q,es,ep,hq,h2,h3,h4,_,h5⟩:=iK
  refine Q8d I (by rw [e];exact True.intro) hs ⟨q,hq⟩ ⟨hl,hd,_,(rel.put k eb rv).keeps fun c ys ec=>?_,q,es,ep,hq,h2,h3,h4,h5⟩
  rw [B6 (Q0s ec e (fun z=>nomatch z))]
  exact ec
end
section
variable {X:Cx}{ae:Pn9} {σ:St}{H:Hp}{s:Shared}{a:Addr}{kvs:List (B3×V)}{k:B3}{u:Value}{A:Around}{E:VS9}
end
def Z0w (i:Expr):Prop:=∀ov iv,subscripted i false ov iv=operate [ov,iv] (getItem ov iv)
theorem W9n {prog:Program}{w:World}{A:Around}{E:VS9}{s:Shared}{env:Env}{value slice:Expr}{pos:Pos}{T id:String}{Q:VS9}
  (hl:typeLookup (.type T) "__getitem__"=pure (some (.builtin id))) (hs:Z0w slice)
  (h:wpAny (model prog w) A (eval value env) (fun o s₁=>wpAny (model prog w) A (eval slice env) (fun i s₂=>s₂.TypeIs o T/\wpAny (model prog w) A (getItem o i) Q E s₂) E s₁) E s) :
  wpAny (model prog w) A (eval (.Subscript value slice pos) env) Q E s:=by
 refine Subscript_ (aS h (fun o s₁ h₁=>aS h₁ (fun i s₂ h₂=>?_) fun _ _ x=>x) fun _ _ x=>x)
 obtain⟨hT,h₂⟩:=h₂
 unfold subscriptTail
 refine aa ?_
 rw [getitemInPython_of_ne hT.not_modules]
 refine aa (wpAny_specialOf hT hl ?_)
 have fin:wpAny (model prog w) A (subscripted slice false o i) (fun r s₃=>wpAny (model prog w) A (letTemporaryGo value o r>>=fun _=>pure r) Q E s₃) E s₂:=by
  rw [hs o i]
  exact wpAny_operating (aS h₂ (fun r s₃ h₃=>aa (wpAny_letTemporaryGo (aj h₃))) fun _ _ x=>x)
 first
  | exact aj (aa fin)
  | exact aa (aj (aa fin))
  | exact aa fin
theorem Y8k {X:Cx}{ae:Pn9} {σ:St}{H:Hp}{s:Shared}{a:Addr}{y:V}{o:Option V} (I:A0 X ae σ H s) (g:Q0h H a y o):s.TypeIs (.ref a) "dict":=by
 rcases g with⟨kvs,k,e,_,_⟩ | ⟨kvs,k,b,e,_,_,_⟩
 ·obtain⟨_,_,vs,_,dd⟩:=Q4h I.hok e
  exact dd.typeIs
 ·obtain⟨_,_,xs,_,dd⟩:=Q4i I.hok e
  exact dd.typeIs
def W9r (td ty:TE):TE:=fun σ H Q=>td σ H fun x H1=>ty σ H1 fun y H2=>∃a v,x=.ref a/\Q0h H2 a y (some v)/\Q v H2
def W9t (ty td:TE):TE:=fun σ H Q=>ty σ H fun y H1=>td σ H1 fun x H2=>∃a o,x=.ref a/\Q0h H2 a y o/\Q (.bl (!o.isSome)) H2
def W7s (td ty tv:TE):TS:=fun D σ H=>tv σ H fun v H1=>td σ H1 fun x H2=>ty σ H2 fun y H3=>∃a H4,x=.ref a/\Q5t H3 a y v H4/\D.nx σ H4
section
variable {X:Cx}{o i e value:Expr}{pos bB i5:Pos}{td ty tv:TE}
theorem W4o (hu:X.A.units+1<cLine) (ho:PE X o td) (hi:PE X i ty) (hs:Z0w i):PE X (.Subscript o i pos) (W9r td ty):=by
 intro ae s σ H Q I h
 refine W9n PySem.F.slot_dict_getitem.lookup hs (B4 (ho ae s σ H _ I h) fun u s1 ⟨x,H1,I1,rx,q1⟩=>B4 (hi ae s1 σ H1 _ I1 q1) fun iv s2 bx=>?_)
 obtain⟨y,H2,I2,ry,a,v,ex,g,q2⟩:=bx
 subst ex
 obtain rfl:u=Value.ref a:=rx
 exact⟨Y8k I2 g,Y8f hu I2 g ry fun w' s3 I3 eM=>⟨v,H2,I3,eM,q2⟩⟩
theorem W4h (hu:X.A.units+1<cLine) (hi:PE X i ty) (ho:PE X o td):PC X .NotIn i o (W9t ty td):=by
 intro ae s σ H Q I h
 refine B4 (hi ae s σ H _ I h) fun iv s1 ⟨y,H1,I1,ry,q1⟩=>B4 (ho ae s1 σ H1 _ I1 q1) fun u s2 bx=>?_
 obtain⟨x,H2,I2,rx,a,ov,ex,g,q2⟩:=bx
 subst ex
 obtain rfl:u=Value.ref a:=rx
 exact Y8g hu I2 g ry fun s3 I3=>⟨.bl (!ov.isSome),H2,I3,rfl,q2⟩
theorem W5r (hu:X.A.units+1<cLine) (ho:PE X o td) (hi:PE X i ty) (hv:PE X value tv) (hs:swapsWith value (some (.Subscript o i bB)) pos.line X.env=pure false) :
  PS X (.Assign [.Subscript o i bB] value pos) (W7s td ty tv):=by
 intro ae s σ H D I h
 refine wpAny_Assign_Subscript (B4 (hv ae s σ H _ I h) fun r s1 ⟨v,H1,I1,rv,q1⟩=>B4 (ho ae s1 σ H1 _ I1 q1) fun u s2 ⟨x,H2,I2,rx,q2⟩=>B4 (hi ae s2 σ H2 _ I2 q2) fun iv s3 bx=>?_) hs
 obtain⟨y,H3,I3,ry,a,H4,ex,g,q3⟩:=bx
 subst ex
 obtain rfl:u=Value.ref a:=rx
 exact Y8h hu I3 g ry rv fun s4 I4=>⟨σ,H4,I4,q3⟩
end
theorem Y8o {P:Program}{w:World}{H:Hp} (h:Heap) (hb:sysModules<h.objs.size):K4 P w H (h.push { cls:=.type "dict",data:=.dict #[] }) h.objs.size (.dK []) :=
 ⟨bi _,cE.mpr (dG (aD hb)),[],.nil,Heap.DictOf.new h⟩
section
variable {X:Cx}{pos:Pos}
end
noncomputable def Z5i:List (TE×TE)->St->Hp->(List (V×V)->Hp->Prop)->Prop
 | [],_,H,Q=>Q [] H
 | (tk,tv)::r,σ,H,Q=>tk σ H fun x H1=>tv σ H1 fun y H2=>Z5i r σ H2 fun ps H3=>Q ((x,y)::ps) H3
noncomputable abbrev VV:List (V×V)->List (Value×Value)->Prop:=Paired fun p q=>C3 p.1 q.1/\C3 p.2 q.2
def PPs (X:Cx) (pos:Pos) (keys:List (Option Expr)) (values:List Expr) (gq:List (TE×TE)):Prop :=
 ∀(ae:Pn9) (s:Shared) (σ:St) (H:Hp) (Q:List (V×V)->Hp->Prop),A0 X ae σ H s->Z5i gq σ H Q ->
  wpAny (model X.prog X.w) X.A (evalPairs (pairTrees keys values X.env pos)) (fun vs s'=>∃ps H',A0 X ae σ H' s'/\VV ps vs/\Q ps H') X.xe s
theorem W5o {X:Cx}{pos:Pos}:PPs X pos [] [] []:=fun ae s σ H Q I h=>pairTrees_nil_walk ⟨[],H,I,.nil,h⟩
theorem W5n {X:Cx}{pos:Pos}{k v:Expr}{ks:List (Option Expr)}{vs:List Expr}{tk tv:TE}{gq:List (TE×TE)} (hk:PE X k tk) (hv:PE X v tv) (hr:PPs X pos ks vs gq) :
  PPs X pos (some k::ks) (v::vs) ((tk,tv)::gq):=fun ae s σ H Q I h =>
 pairTrees_cons_walk (B4 (hk ae s σ H _ I h) fun u s1 ⟨x,H1,I1,rx,q1⟩=>B4 (hv ae s1 σ H1 _ I1 q1) fun w2 s2 ⟨y,H2,I2,ry,q2⟩ =>
  B4 (hr ae s2 σ H2 _ I2 q2) fun ws s3 ⟨ps,H3,I3,rel,q3⟩=>⟨(x,y)::ps,H3,I3,.cons ⟨rx,ry⟩ rel,q3⟩)
noncomputable def Q4v (kvs more:List (B3×V)):List (B3×V):=more.foldl (fun bU kv=>S5 bU kv.1 kv.2) kvs
theorem KV.merge:∀{more:List (B3×V)}{rs:List (B3×Value)}{kvs:List (B3×V)}{vs:List (B3×Value)},KV more rs->KV kvs vs->KV (Q4v kvs more) (merged vs rs):=by
 intro more rs kvs vs r
 unfold KV at r
 induction r generalizing kvs vs with
 | nil=>intro q;exact q
 | @cons p q ps qs h t ih =>
  intro r0
  have e:KV (S5 kvs p.1 p.2) (stored vs q.1 q.2):=by
   have:=r0.put p.1 h.2
   rw [<- h.1];exact this
  exact ih e
theorem Y0n:∀(more kvs:List (B3×V)),(Q4v kvs more).length<=kvs.length+more.length
 | [],kvs=>by show kvs.length<=kvs.length+0;omega
 | p::r,kvs=>by
  have h1:=Y0n r (S5 kvs p.1 p.2)
  have h2:=Q8r kvs p.1 p.2
  show(Q4v (S5 kvs p.1 p.2) r).length<=_
  rw [aB];omega
theorem Z8j {P:Program}{w:World}:∀{kvs:List (B3×V)}{ws:List (Value×Value)},VV (kvs.map fun kv=>(kV kv.1,kv.2)) ws->∃rs,Carries (M3 P w) ws rs/\KV kvs rs
 | [],_,r=>by rw [cX]at r;cases r;exact⟨[],True.intro,.nil⟩
 | p::kvs,_,r=>by
  rw [au]at r
  cases r with
  | @cons a b as bs h t =>
   obtain⟨rs,c,q⟩:=Z8j (P:=P) (w:=w) t
   obtain⟨b1,b2⟩:=b
   exact⟨(p.1,b2)::rs,⟨Q3o h.1,rfl,c⟩,.cons ⟨rfl,h.2⟩ q⟩
def W9u (gq:List (TE×TE)):TE:=fun σ H Q=>∀p,H p=none->Z5i gq σ (upd H p (.dK [])) fun ps H2=>H2 p=some (.dK [])/\∃kvs:List (B3×V),ps=kvs.map (fun kv=>(kV kv.1,kv.2))/\kvs.length<=15/\Q (.ref p) (upd H2 p (.dK (Q4v [] kvs)))
theorem W4q {X:Cx}{pos:Pos}{keys:List (Option Expr)}{values:List Expr}{gq:List (TE×TE)} (h:PPs X pos keys values gq) (iI:keys.all (·.isSome)=true) (hl:keys.length=values.length) (h0:keys≠[])
  (qe:keys.length<=15):PE X (.Dict keys values pos) (W9u gq):=by
 intro ae s σ H Q I q
 have hn:=I.hok.fresh (ao s.heap.objs.size)
 have I1:=I.laid (a:=s.heap.objs.size) (o:=.dK []) (h':=s.heap.push { cls:=.type "dict",data:=.dict #[] }) (t':=s.toks) (fun _ _ q=>af _ q) (ao _) (Y8o s.heap I.big)
 refine wpAny_Dict_walk (knd:=M3 X.prog X.w) iI hl h0 qe (B4 (h ae _ σ _ _ I1 (q _ hn)) fun ws s2 bx=>?_)
 obtain⟨ps,H2,I2,rel,e,kvs,ep,lk,q2⟩:=bx
 subst ep
 obtain⟨rs,c,rk⟩:=Z8j (P:=X.prog) (w:=X.w) rel
 obtain⟨z,hd,qu,r0,dd⟩:=Z2b I2.hok e
 cases r0
 refine⟨rs,c,dd,fun h' iK hs=>⟨.ref s.heap.objs.size,_,?_,rfl,q2⟩⟩
 have hz:(Q4v [] kvs).length<=sizeLine:=by
  have h1:=Y0n kvs []
  rw [bc]at h1
  rw [fH];omega
 have he:∃q,h'.get? s.heap.objs.size=some q:=let ⟨q,_,_,hq,_⟩:=iK;⟨q,hq⟩
 exact Q8d I2 (by rw [e];exact True.intro) hs he (Z9f hz hd (rk.merge .nil) iK)
structure M1 (X:Cx) (o:Expr) (m:Str) (apos:Pos) (e:Expr) (bC:Pos):Prop where
 base:attributeBase o m X.env (eval o X.env)=eval o X.env
 few:((backTo bC (starEach [e] X.env)).all (fun x=>!x.1)&&(backToKw bC (keywordEach [] X.env)).all (fun x=>x.1.isSome)
 &&decide (([e]:List Expr).length+([]:List Keyword).length+(if ([]:List Keyword).isEmpty then 0 else 1)<30))=true
 line:(apos.endLine==bC.line)=true
 trees:backTo bC (starEach [e] X.env)=[(false,eval e X.env)]
def IsD (H:Hp) (a:Addr):Prop:=(∃kvs,Rd H a (.dK kvs))\/∃kvs,Rd H a (.dT kvs)
theorem W0h {X:Cx}{ae:Pn9} {σ:St}{H:Hp}{s:Shared}{a:Addr} (I:A0 X ae σ H s) (d:IsD H a) :
  s.TypeIs (.ref a) "dict"/\(∀b,Value.ref a=.ref b->∃ob,s.heap.get? b=some ob/\ob.dict=none)/\(a==sysModules)=false:=by
 rcases d with⟨kvs,e⟩ | ⟨kvs,e⟩
 ·obtain⟨_,hd,vs,_,dd⟩:=Q4h I.hok e
  refine⟨dd.typeIs,fun b q=>?_,hd⟩
  cases q
  obtain⟨ob,_,_,h1,h2,_⟩:=dd
  exact⟨ob,h1,h2.2.1⟩
 ·obtain⟨_,hd,xs,_,dd⟩:=Q4i I.hok e
  refine⟨dd.typeIs,fun b q=>?_,hd⟩
  cases q
  obtain⟨ob,_,_,h1,h2,_⟩:=dd
  exact⟨ob,h1,h2.2.1⟩
section
variable {X:Cx}{ae:Pn9} {σ:St}{H:Hp}{s:Shared}{a:Addr}{y d:V}{u r:Value}{o:Option V}{A:Around}{E:VS9}
theorem Y8e {Q:VS9} (hu:A.units+1<cLine) (I:A0 X ae σ H s) (g:Q0h H a y o) (ry:C3 y u) (h:∀w' s',A0 X ae σ H s'->C3 (o.getD .non) w'->Q w' s') :
  wpAny (model X.prog X.w) A (call (.builtin "dict.get") [.ref a,u]) Q E s:=by
 rcases g with⟨kvs,k,e,ey,l⟩ | ⟨kvs,k,b,e,ey,eb,l⟩
 ·subst ey
  obtain⟨z,hd,vs,rel,dd⟩:=Q4h I.hok e
  refine call_meetsIn PySem.F.slot_dict_get dd.typeIs PySem.F.entry_dict_get (PySem.F.args_dict_get_2 _ _) (meets_dict_get (M3 X.prog X.w) a (Q3o ry) hd) ⟨_,dd.mapOf,h _ _ (I.tok _) ?_⟩
  rw [l]
  exact(rel.val k).getD rfl
 ·subst ey
  cases (show u=Value.ref b from ry)
  obtain⟨z,hd,xs,rel,dd⟩:=Q4i I.hok e
  refine call_meetsIn PySem.F.slot_dict_get dd.typeIs PySem.F.entry_dict_get (PySem.F.args_dict_get_2 _ _) (meetsH_dict_get (tupleKind (M3 X.prog X.w)) a b hd) ⟨tupleKind_room_in1 hu,k,xs,Q6m I.hok eb,dd,h _ _ (I.tok _) ?_⟩
  rw [l]
  exact(rel.val k).getD rfl
end
def W9s (td ty:TE):TE:=fun σ H Q=>td σ H fun x H1=>∃a,x=.ref a/\IsD H1 a/\ty σ H1 fun y H2=>∃o,Q0h H2 a y o/\Q (o.getD .non) H2
section
variable {X:Cx}{o e f:Expr}{apos bC:Pos}{td ty tx:TE}
theorem W4p (hu:X.A.units+1<cLine) (ho:PE X o td) (he:PE X e ty) (m:M1 X o "get" apos e bC):PE X (.Call (.Attribute o "get" apos) [e] [] bC) (W9s td ty):=by
 intro ae s σ H Q I h
 refine wpAny_Call_method m.base m.few m.line PySem.F.plainAttrs_dict PySem.F.slot_dict_get PySem.F.type_dict_get (B4 (ho ae s σ H _ I h) fun u s1 bx=>?_)
 obtain⟨x,H1,I1,rx,a,ex,d,q1⟩:=bx
 subst ex
 obtain rfl:u=Value.ref a:=rx
 obtain⟨t1,t2,_⟩:=W0h I1 d
 refine⟨t1,t2,?_⟩
 rw [m.trees]
 refine Calls.callWith_builtin rfl (Calls.evalArgs_plain (Calls.spliced_cons (B4 (he ae s1 σ H1 _ I1 q1) fun iv s2 ⟨y,H2,I2,ry,ov,g,q2⟩=>Calls.spliced_nil ?_)))
 exact Y8e hu I2 g ry fun w' s3 I3 eM=>⟨_,H2,I3,eM,q2⟩
end
section
variable {X:Cx}{ae:Pn9} {σ:St}{H:Hp}{s:Shared}{a:Addr}{kvs:List (B3×V)}{A:Around}{E:VS9}
end
section
variable {X:Cx}{ae:Pn9} {σ:St}{H:Hp}{s:Shared}{a:Addr}{y:V}{u:Value}{A:Around}{E:VS9}
end
end L2
namespace Att
open PySem PySem.W PySem.Calls PyProof.Rows
theorem Y9y {P:Params}{h:Heap}:∀(ns:List Int) (vs:List Value),WellAll P h vs (ns.map WData.int)->IntsAre vs ns:=by
 intro ns
 induction ns with
 | nil =>
  intro vs w
  rw [cX]at w
  cases w
  exact .nil
 | cons n ns ih =>
  intro vs w
  rw [au]at w
  cases w with
  | cons a b =>
   cases a
   exact .cons _ _ (ih _ b)
theorem W8q {l:OpenLaw}{n:Nat} (hn:l.most=some n) {P:Params}{h:Heap}{args:List WData}{ff:List Value}
  (gx:l.row.toRowW.claim.pre args=true) (l6:WellAll P h ff args) :
  ∃a vs ns,ff=[Value.ref a]/\args=[WData.list (ns.map WData.int)]/\h.get? a=some { cls:=.type "list",data:=.seq vs.toArray }/\IntsAre vs ns/\ns.length<=n:=by
 have oR:WShape.hasAll [] args [.list .int]=true:=(pre_splitW gx).1
 have hc:l.pre.holds [] { args:=args }=true:=(pre_splitW gx).2
 obtain⟨d,r,rfl,h1,h2⟩:=hasAllW_cons oR
 obtain rfl:=hasAllW_nil h2
 obtain⟨xs,rfl,h3⟩:=hasW_list h1
 obtain⟨ns,rfl⟩:=items_int h3
 have bN:ns.length<=n:=by
  unfold OpenLaw.pre at hc
  have h4:(WTm.not (.lt (.lit (.int (n:Int))) (.len (.arg 0)))).holds [] { args:=[.list (ns.map .int)] }=true:=by
   have h4:=(holds_andW hc).1
   rw [hn]at h4
   exact h4
  have h5:=condW_of h4 (w_not (w_lt w_lit (w_len_list (w_arg rfl))))
  rw [ag]at h5
  refine Nat.le_of_not_lt fun q=>?_
  have q':(n:Int)<((ns.length:Nat):Int):=by omega
  first
   | (rw [be q']at h5;exact absurd h5 (by decide))
   | (simp at h5;omega)
 cases l6 with
 | cons w1 w2 =>
  cases w2
  cases w1 with
  | list ho iI=>exact⟨_,_,ns,rfl,rfl,ho,Y9y ns _ iI,bN⟩
theorem W5m (l:OpenLaw) (args:List WData):l.row.toRowW.claim.post args (.bool true) args=true :=
 postW_of (r:=l.row.toRowW) (X:=(true==true))
  (show WShape.has [] (.bool true) .bool=true by first | rfl | decide | simp [WShape.has,WShape.arms,WShape.armsAll])
  (show(WTm.eq .res (.lit (.bool true))).value [] { args:=args,res:=some (.bool true),after:=args }=some (.bool (true==true))from w_eq_bool (w_res rfl) w_lit) rfl
theorem attach_call {l:OpenLaw}{n:Nat}{q:Program}{dE:List Str}{XP:(Str->Option Value)->Heap->Prop}{YP:World->Heap->Prop}{d:DefRec}
  (hn:l.most=some n) (jz:d.params.defaults=[])
  (call:∀(w:World) (s₀ s₁:Shared) (mg mb:Str->Option Value) (fa:Addr) (o:Obj) (pm cd cP:Value) (a:Addr) (vs:List Value) (ns:List Int),
   Ground q dE [] XP w s₀ mg mb s₁.heap->YP w s₁.heap ->
   s₁.heap.get? fa=some o->o.data=.func (docDef d.name d.params d.body d.scope pm cd cP)->s₁.heap.CodeRec cd d.name->mg d.name=some (.ref fa) ->
   s₁.heap.get? a=some { cls:=.type "list",data:=.seq vs.toArray }->IntsAre vs ns->ns.length<=n->s₁.gens=#[] ->
   codeAny (model l.prog w) callerA (.call (.ref fa) ⟨[.ref a],[]⟩) (fun r s'=>r=.ok (.ret (.bool true))/\OldK s₁.heap s'.heap/\s'.os=s₁.os/\AllBare s'.gens) s₁) :
  WalkO q dE XP YP l.row.toRowW d [] (fun f vs=>PySem.call f vs):=by
 intro w s₀ s₁ mg mb G Y fa o pm cd cP dV kV ho hd dS hD js hg args ff as gx pc qB l6 qD
 obtain rfl:dV=.none:=Dflts.none hD jz
 obtain rfl:kV=.none:=Dflts.noKw hD
 obtain⟨a,vs,ns,rfl,rfl,ii,eC,bN⟩:=W8q hn gx l6
 refine enter_call (codeAny_mono (call w s₀ s₁ mg mb fa o pm cd cP a vs ns G Y ho (fd_plain hd) dS js ii eC bN hg) fun r s' hq=>?_)
 obtain⟨rfl,h2,h3,h4⟩:=hq
 exact⟨.inl ⟨.bool true,.bool true,[],rfl,fun _=>rfl,.bool true,W5m l _,fun _=>⟨List.Pairwise.nil,fun _ hm=>(nomatch hm)⟩⟩,h2,h3,h4⟩
section
variable {prog:Program}{w:World}{A:Around}{E:VS9}{s:Shared}{K:Frag}
end
end Att
namespace L2
open PySem PySem.Spec PyProof.Rows
theorem Y5f:∀{vs:List Value}{ns:List Int},IntsAre vs ns->B7 (ns.map V.int) vs
 | _,_,.nil=>.nil
 | _,_,.cons n t h=>.cons ⟨t,rfl⟩ (Y5f h)
end L2
namespace L2
open PySem PySem.Spec PyProof.Rows
end L2
namespace L2
open PySem PySem.Spec PyProof.Rows
noncomputable def Q0k (s:Stmt):Arguments:=match s with
 | .FunctionDef _ a _ _ _ _ _ _ _ _=>a
 | _=>{ posonlyargs:=[],args:=[],vararg:=none,kwonlyargs:=[],kw_defaults:=[],kwarg:=none,defaults:=[] }
noncomputable def T0 (s:Stmt):List Stmt:=match s with
 | .FunctionDef _ _ b _ _ _ _ _ _ _=>b
 | _=>[]
noncomputable def C5 (s:Stmt):Scope:=match s with
 | .FunctionDef _ _ _ _ _ _ sc _ _ _=>sc
 | _=>{ kind:=.function,names:=[],isGenerator:=false,isCoroutine:=false }
abbrev N1:CXT:=fun _ _ _ _ _ _=>False
abbrev E0:XK:=fun _ _ _=>False
theorem Z3y {X:Cx}:Z1a N1 X E0:=fun _ _ _ _ _ _ _ h=>h.elim
structure Q3 (K:Fg9) (x qual:Str) (st:Stmt) (f:Addr) (fd:FuncData):Prop where
 ex:∃(oc:Value) (od:Option Addr) (kV cP pm:Value) (an:Option Addr) (cdv ct:Value) (dQ:Array (Option Value)),
  fd=PySem.W.fnOf x qual (Q0k st) (T0 st) (C5 st) .none kV cP pm an cdv ct/\K.lookup f=some ⟨oc,od,.func fd,dQ⟩/\PySem.W.codeIn K cdv qual=true
 kp:PySem.W.keepIn K (.ref f)=true
section
variable {P:Program}{w:World}{K:Fg9}{mg:Str->Option Value}{base:Heap}
theorem Q3.ok {x qual:Str}{st:Stmt}{f:Addr}{fd:FuncData}{N ps:List Str}{k:Nat}{sp:Sp} (F:Q3 K x qual st f fd) (S:K5 N ps (C5 st)) (len:∀vs H Q E,sp vs H Q E->vs.length=ps.length)
  (cm:∀(cdv:Value) (A:Around) (outer:List Env) (s:Shared) (H:Hp) (vs:List V) (Q:VK) (E:XK),E7 k (A.deeper (envOfC qual (C5 st) s.heap.objs.size f cdv))->sp vs H Q E ->
   ∃t,PSs (Q1e N1 P w K mg base N qual (C5 st) f cdv A outer s H E).nox (T0 st) t/\t { nx:=fun _ H'=>Q .non H',rt:=Q } (start N vs) H):Q7 P w K mg base N1 (k+1) f fd ps sp:=by
 obtain⟨oc,od,kV,cP,pm,an,cdv,ct,dQ,rfl,lk,dS⟩:=F.ex
 refine Z9o lk dS S len fun A outer s H vs Q E hr gb=>?_
 obtain⟨t,h,q⟩:=cm cdv A outer s H vs Q E hr gb
 exact⟨t,h.nox,q⟩
theorem Q3.binds {x qual:Str}{st:Stmt}{f:Addr}{fd:FuncData}{ps:List Str} (F:Q3 K x qual st f fd)
  (h:∀(kV cP pm:Value) (an:Option Addr) (cdv ct:Value) (us:List Value),us.length=ps.length->bindArgs (PySem.W.fnOf x qual (Q0k st) (T0 st) (C5 st) .none kV cP pm an cdv ct) ⟨us,[]⟩=pure (ps.zip us)):V2 K fd ps []:=by
 obtain⟨oc,od,kV,cP,pm,an,cdv,ct,dQ,rfl,lk,dS⟩:=F.ex
 exact .all (h kV cP pm an cdv ct)
theorem Y9g {x qual:Str}{st:Stmt}{f:Addr}{oc:Value}{od an:Option Addr}{dQ:Array (Option Value)}{kV cP pm cdv ct:Value} (l:K.lookup f=some ⟨oc,od,.func (PySem.W.fnOf x qual (Q0k st) (T0 st) (C5 st) .none kV cP pm an cdv ct),dQ⟩)
  (c:PySem.W.codeIn K cdv qual=true) (k:PySem.W.keepIn K (.ref f)=true):Q3 K x qual st f (PySem.W.fnOf x qual (Q0k st) (T0 st) (C5 st) .none kV cP pm an cdv ct):=⟨⟨oc,od,kV,cP,pm,an,cdv,ct,dQ,rfl,l,c⟩,k⟩
end
section
variable {X:Cx}
theorem pv (i:Nat) {x:Str}{pos:Pos} (hN:X.N[i]?=some x:=by rfl) (hv:Vis X.env.scope x:=by first | exact Or.inl rfl | exact Or.inr (Or.inl rfl) | exact Or.inr (Or.inr rfl)) (hd:(x==("__debug__":Str))=false:=by decide)
  (dS:(x==("__classdict__":Str))=false:=by decide):PE X (.Name x pos) (T4 i):=W5c hN hv hd dS
end
def A6 (H H':Hp):Prop:=∀b o,H b=some o->H' b=some o
theorem A6.refl (H:Hp):A6 H H:=fun _ _ h=>h
theorem A6.trans {H H1 H2:Hp} (a:A6 H H1) (b:A6 H1 H2):A6 H H2:=fun c o h=>b c o (a c o h)
theorem A6.free {H H':Hp} (e:A6 H H') {l:Addr} (h:H' l=Option.none):H l=Option.none:=by
 cases q:H l with
 | none=>rfl
 | some o =>
  rw [e l o q]at h
  cases h
theorem A6.seq {K:Fg9}{H H':Hp}{a:Addr}{xs:List V} (e:A6 H H') (h:E3 K H a xs):E3 K H' a xs:=by
 rcases h with(h | ⟨o,h⟩) | h
 ·exact .inl (.inl (e _ _ h))
 ·exact .inl (.inr ⟨o,e _ _ h⟩)
 ·exact .inr h
section
variable {κ:Type} [DecidableEq κ]
end
end L2
end
section
namespace TK
open PySem PySem.Spec PyProof.Rows L2
noncomputable abbrev St:=L2.St
inductive D where
 | non | bl (b:Bool) | int (i:Int) | str (x:Str) | tup (xs:List D) | lst (xs:List D)
def FzL (K:Fg9) (H:Hp) (a:Addr) (xs:List V):Prop :=
 (∃o,H a=some (.frz o (.lst xs))) \/
  ∃(o:Obj) (aT:Array Value) (n:Nat),K.lookup a=some o/\o.cls=.type "list"/\o.dict=none/\o.data=.seq aT n/\aT.size<=sizeLine/\B7 xs aT.toList
theorem FzL.sq {K:Fg9}{H:Hp}{a:Addr}{xs:List V} (h:FzL K H a xs):E3 K H a xs:=by
 rcases h with⟨o,h⟩ | h
 ·exact .inl (.inr ⟨o,h⟩)
 ·exact .inr h
structure Kp (H H':Hp):Prop where
 tup:∀a xs,H a=some (.tup xs)->H' a=some (.tup xs)
 frz:∀a o u,H a=some (.frz o u)->H' a=some (.frz o u)
theorem Kp.refl (H:Hp):Kp H H:=⟨fun _ _ h=>h,fun _ _ _ h=>h⟩
theorem Kp.trans {H H1 H2:Hp} (a:Kp H H1) (b:Kp H1 H2):Kp H H2:=⟨fun c xs h=>b.tup c xs (a.tup c xs h),fun c o u h=>b.frz c o u (a.frz c o u h)⟩
theorem Kp.of {H H':Hp} (s:A6 H H'):Kp H H':=⟨fun a xs h=>s a _ h,fun a o u h=>s a _ h⟩
theorem Kp.upd {H:Hp}{a:Addr}{xs:List V} (h:H a=some (.lst xs)) (o:HO):Kp H (upd H a o) :=
 ⟨fun c ys q=>by rw [B6 (Q0s q h (by intro z;cases z))];exact q,fun c ob u q=>by rw [B6 (Q0s q h (by intro z;cases z))];exact q⟩
theorem Kp.fzL {K:Fg9}{H H':Hp} (k:Kp H H') {a:Addr}{xs:List V} (h:FzL K H a xs):FzL K H' a xs:=by
 rcases h with⟨o,h⟩ | h
 ·exact .inl ⟨o,k.frz _ _ _ h⟩
 ·exact .inr h
theorem G0 {H:Hp}{p:Addr} (h:H p=none) (o:HO):A6 H (upd H p o):=fun b u q=>by rw [B6 (Y6 q h)];exact q
mutual
noncomputable def A2 (K:Fg9) (H:Hp):D->V->Prop
 | .non,v=>v=.non
 | .bl b,v=>v=.bl b
 | .int i,v=>v=.int i
 | .str x,v=>v=.str x
 | .tup ds,v=>∃a xs,v=.ref a/\H a=some (.tup xs)/\AllS K H ds xs
 | .lst ds,v=>∃a xs,v=.ref a/\FzL K H a xs/\AllS K H ds xs
noncomputable def AllS (K:Fg9) (H:Hp):List D->List V->Prop
 | [],vs=>vs=[]
 | d::ds,vs=>∃v r,vs=v::r/\A2 K H d v/\AllS K H ds r
end
section
variable {K:Fg9}{H H' H0:Hp}
mutual
theorem A2.mono (k:Kp H H'):∀(d:D) (v:V),A2 K H d v->A2 K H' d v
 | .non,v,h=>h
 | .bl _,v,h=>h
 | .int _,v,h=>h
 | .str _,v,h=>h
 | .tup ds,v,h=>by
  unfold A2 at h ⊢
  obtain⟨a,xs,e,q,r⟩:=h
  exact⟨a,xs,e,k.tup _ _ q,AllS.mono k ds xs r⟩
 | .lst ds,v,h=>by
  unfold A2 at h ⊢
  obtain⟨a,xs,e,q,r⟩:=h
  exact⟨a,xs,e,k.fzL q,AllS.mono k ds xs r⟩
theorem AllS.mono (k:Kp H H'):∀(ds:List D) (vs:List V),AllS K H ds vs->AllS K H' ds vs
 | [],vs,h=>h
 | d::ds,vs,h=>by
  unfold AllS at h ⊢
  obtain⟨v,r,e,q,t⟩:=h
  exact⟨v,r,e,A2.mono k d v q,AllS.mono k ds r t⟩
end
theorem AllS.length:∀{ds:List D}{vs:List V},AllS K H ds vs->ds.length=vs.length
 | [],vs,h=>by unfold AllS at h;subst h;rfl
 | d::ds,vs,h=>by
  unfold AllS at h
  obtain⟨v,r,e,q,t⟩:=h
  subst e
  rw [aB,aB,AllS.length t]
theorem AllS.nil:AllS K H [] []:=by unfold AllS;rfl
theorem AllS.cons {d:D}{ds:List D}{v:V}{vs:List V} (h:A2 K H d v) (t:AllS K H ds vs):AllS K H (d::ds) (v::vs):=by
 unfold AllS;exact⟨v,vs,rfl,h,t⟩
theorem AllS.get:∀{ds:List D}{vs:List V}{i:Nat}{d:D},AllS K H ds vs->ds[i]?=some d->∃v,vs[i]?=some v/\A2 K H d v
 | [],_,_,_,_,e=>by simp at e
 | d::ds,vs,0,x,h,e=>by
  unfold AllS at h
  obtain⟨v,r,rfl,q,t⟩:=h
  simp at e;subst e
  exact⟨v,rfl,q⟩
 | d::ds,vs,i+1,x,h,e=>by
  unfold AllS at h
  obtain⟨v,r,rfl,q,t⟩:=h
  obtain⟨u,h1,h2⟩:=AllS.get (i:=i) t (by simpa using e)
  exact⟨u,by simpa using h1,h2⟩
theorem AllS.append:∀{ds es:List D}{vs us:List V},AllS K H ds vs->AllS K H es us->AllS K H (ds++es) (vs++us)
 | [],_,vs,_,h,t=>by unfold AllS at h;subst h;exact t
 | d::ds,es,vs,us,h,t=>by
  unfold AllS at h
  obtain⟨v,r,rfl,q,s⟩:=h
  exact AllS.cons q (AllS.append s t)
theorem AllS.take:∀{ds:List D}{vs:List V} (n:Nat),AllS K H ds vs->AllS K H (ds.take n) (vs.take n)
 | _,_,0,_=>by simp;exact AllS.nil
 | [],vs,n+1,h=>by unfold AllS at h;subst h;simp;exact AllS.nil
 | d::ds,vs,n+1,h=>by
  unfold AllS at h
  obtain⟨v,r,rfl,q,s⟩:=h
  exact AllS.cons q (AllS.take n s)
theorem AllS.drop:∀{ds:List D}{vs:List V} (n:Nat),AllS K H ds vs->AllS K H (ds.drop n) (vs.drop n)
 | _,_,0,h=>h
 | [],vs,n+1,h=>by unfold AllS at h;subst h;simp;exact AllS.nil
 | d::ds,vs,n+1,h=>by
  unfold AllS at h
  obtain⟨v,r,rfl,q,s⟩:=h
  exact AllS.drop n s
theorem AllS.set {ds:List D}{vs:List V}{d:D}{v:V} (q:A2 K H d v):∀(i:Nat),AllS K H ds vs->AllS K H (ds.set i d) (vs.set i v):=by
 intro i h
 induction ds generalizing vs i with
 | nil=>unfold AllS at h;subst h;exact AllS.nil
 | cons d ds ih =>
  unfold AllS at h
  obtain⟨v,r,rfl,q',s⟩:=h
  cases i with
  | zero=>exact AllS.cons q s
  | succ i=>exact AllS.cons q' (ih i s)
theorem AllS.ints {ns:List Int}:AllS K H (ns.map D.int) (ns.map V.int):=by
 induction ns with
 | nil=>exact AllS.nil
 | cons n r ih=>exact AllS.cons (by unfold A2;rfl) ih
theorem A2.s_int {i:Int}:A2 K H (.int i) (.int i):=by unfold A2;rfl
theorem A2.s_bl {i:Bool}:A2 K H (.bl i) (.bl i):=by unfold A2;rfl
theorem A2.s_str {i:Str}:A2 K H (.str i) (.str i):=by unfold A2;rfl
theorem A2.s_non:A2 K H .non .non:=by unfold A2;rfl
theorem A2.s_tup {ds:List D}{a:Addr}{xs:List V} (q:H a=some (.tup xs)) (r:AllS K H ds xs):A2 K H (.tup ds) (.ref a):=by unfold A2;exact⟨a,xs,rfl,q,r⟩
theorem A2.s_lst {ds:List D}{a:Addr}{xs:List V} (q:FzL K H a xs) (r:AllS K H ds xs):A2 K H (.lst ds) (.ref a):=by unfold A2;exact⟨a,xs,rfl,q,r⟩
end
def Q4b (Φ:Hp->Prop):Prop:=∀H H':Hp,Kp H H'->Φ H->Φ H'
inductive R where
 | st (d:D) | nw (ds:List D) | bw (ds:List D) | dk (kvs:List (B3×D)) | dt (kvs:List (List B3×D)) | ob (a:Addr) | cl (a:Addr) (Φ:Hp->Prop) | ms (a C:Addr) (d:D) (fs:List (Str×D))
noncomputable def D4 {κ:Type} (K:Fg9) (H:Hp):List (κ×D)->List (κ×V)->Prop
 | [],vs=>vs=[]
 | p::ps,vs=>∃v r,vs=(p.1,v)::r/\A2 K H p.2 v/\D4 K H ps r
theorem D4.mono {κ:Type}{K:Fg9}{H H':Hp} (k:Kp H H'):∀(ps:List (κ×D)) (vs:List (κ×V)),D4 K H ps vs->D4 K H' ps vs
 | [],_,h=>h
 | p::ps,vs,h=>by
  obtain⟨v,r,e,q,t⟩:=h
  exact⟨v,r,e,q.mono k _ _,D4.mono k ps r t⟩
noncomputable def F7 (K:Fg9) (H0 H:Hp):R->V->Prop
 | .st d,v=>A2 K H d v
 | .nw ds,v=>∃a xs,v=.ref a/\H0 a=none/\H a=some (.lst xs)/\AllS K H ds xs
 | .bw ds,v=>∃a xs,v=.ref a/\H a=some (.lst xs)/\AllS K H ds xs
 | .dk kvs,v=>∃a ps,v=.ref a/\H a=some (.dK ps)/\D4 K H kvs ps
 | .dt kvs,v=>∃a ps,v=.ref a/\H a=some (.dT ps)/\D4 K H kvs ps
 | .ob a,v=>v=.ref a
 | .cl a Φ,v=>v=.ref a/\Φ H/\Q4b Φ
 | .ms a C d fs,v=>A2 K H d v/\∃dx vs,H a=some (.ins C dx vs)/\D4 K H fs vs
theorem F7.mono {K:Fg9}{H0 H H':Hp} (s:A6 H H'):∀{r:R}{v:V},F7 K H0 H r v->F7 K H0 H' r v
 | .st d,v,h=>A2.mono (Kp.of s) d v h
 | .nw ds,v,h=>by obtain⟨a,xs,e,n,q,t⟩:=h;exact⟨a,xs,e,n,s _ _ q,t.mono (Kp.of s) _ _⟩
 | .bw ds,v,h=>by obtain⟨a,xs,e,q,t⟩:=h;exact⟨a,xs,e,s _ _ q,t.mono (Kp.of s) _ _⟩
 | .dk ds,v,h=>by obtain⟨a,xs,e,q,t⟩:=h;exact⟨a,xs,e,s _ _ q,t.mono (Kp.of s) _ _⟩
 | .dt ds,v,h=>by obtain⟨a,xs,e,q,t⟩:=h;exact⟨a,xs,e,s _ _ q,t.mono (Kp.of s) _ _⟩
 | .ob a,v,h=>h
 | .cl a Φ,v,h=>⟨h.1,h.2.2 _ _ (Kp.of s) h.2.1,h.2.2⟩
 | .ms a C d fs,v,h=>by obtain⟨h1,dx,vs,q,t⟩:=h;exact⟨h1.mono (Kp.of s) _ _,dx,vs,s _ _ q,t.mono (Kp.of s) _ _⟩
theorem F7.older {K:Fg9}{H0 H1 H:Hp} (s:A6 H0 H1):∀{r:R}{v:V},F7 K H1 H r v->F7 K H0 H r v
 | .st d,v,h=>h
 | .nw ds,v,h=>by obtain⟨a,xs,e,n,q,t⟩:=h;exact⟨a,xs,e,s.free n,q,t⟩
 | .bw ds,v,h=>h
 | .dk ds,v,h=>h
 | .dt ds,v,h=>h
 | .ob a,v,h=>h
 | .cl _ _,v,h=>h
 | .ms _ _ _ _,v,h=>h
noncomputable def LO (b:Addr) (xs:List V):Heap->Prop:=fun h=>xs.length<=sizeLine/\∃(aT:List Value) (n:Nat),B7 xs aT/\h.get? b=some { cls:=.type "list",data:=.seq aT.toArray n }
noncomputable def K6 (K:Fg9) (H:Hp):List Addr->List (List D)->Prop
 | [],dss=>dss=[]
 | b::bs,dss=>∃ds r,dss=ds::r/\(∃xs,H b=some (.ext (LO b xs))/\AllS K H ds xs)/\K6 K H bs r
def Q4a (K:Fg9) (H0 H:Hp) (a:Addr) (dss:List (List D)):Prop:=∃bs,(H a=some (.ext (LO a (bs.map V.ref)))/\H0 a=none/\a∉bs)/\bs.Nodup/\(∀b∈bs,H0 b=none)/\K6 K H bs dss
theorem K6.keep {K:Fg9}{H H':Hp} (k:Kp H H') (x:∀b φ,H b=some (.ext φ)->H' b=some (.ext φ)):∀{bs:List Addr}{dss:List (List D)},K6 K H bs dss->K6 K H' bs dss
 | [],_,h=>h
 | b::bs,_,h=>by obtain⟨ds,r,e,⟨xs,q,al⟩,t⟩:=h;exact⟨ds,r,e,⟨xs,x _ _ q,al.mono k _ _⟩,K6.keep k x t⟩
theorem Q4a.keep {K:Fg9}{H0 H H':Hp}{a:Addr}{dss:List (List D)} (h:Q4a K H0 H a dss) (k:Kp H H') (x:∀b φ,H b=some (.ext φ)->H' b=some (.ext φ)):Q4a K H0 H' a dss:=by
 obtain⟨bs,⟨q,q2⟩,n,f,t⟩:=h
 exact⟨bs,⟨x _ _ q,q2⟩,n,f,t.keep k x⟩
inductive Sl where
 | dat (d:D) | own (ds:List D) | bor (ds:List D) | dk (kvs:List (B3×D)) | dt (kvs:List (List B3×D)) | bd (kvs:List (List B3×D)) | ob (a:Addr) | cl (a:Addr) (Φ:Hp->Prop) | ll (a:Addr) (dss:List (List D)) | ins (a C:Addr) (fs:List (Str×D))
noncomputable abbrev A9:=List (Option Sl)
noncomputable def Sl.mut:Sl->Bool
 | .own _=>true
 | .dk _=>true
 | .dt _=>true
 | .ins _ _ _=>true
 | _=>false
noncomputable def O5 (K:Fg9) (H0 H:Hp):Sl->V->Prop
 | .dat d,v=>A2 K H d v
 | .own ds,v=>∃a xs,v=.ref a/\H0 a=none/\H a=some (.lst xs)/\AllS K H ds xs
 | .bor ds,v=>∃a xs,v=.ref a/\H0 a=some (.lst xs)/\AllS K H ds xs
 | .dk kvs,v=>∃a ps,v=.ref a/\H0 a=none/\H a=some (.dK ps)/\D4 K H kvs ps
 | .dt kvs,v=>∃a ps,v=.ref a/\H0 a=none/\H a=some (.dT ps)/\D4 K H kvs ps
 | .bd kvs,v=>∃a ps,v=.ref a/\H0 a=some (.dT ps)/\D4 K H kvs ps
 | .ob a,v=>v=.ref a
 | .cl a Φ,v=>v=.ref a/\Φ H/\Q4b Φ
 | .ll a dss,v=>v=.ref a/\Q4a K H0 H a dss
 | .ins a C fs,v=>v=.ref a/\H0 a=none/\∃dx vs,H a=some (.ins C dx vs)/\D4 K H fs vs
theorem O5.mono {K:Fg9}{H0 H H':Hp} (s:A6 H H'):∀{r:Sl}{v:V},O5 K H0 H r v->O5 K H0 H' r v
 | .dat d,v,h=>A2.mono (Kp.of s) d v h
 | .own ds,v,h=>by obtain⟨a,xs,e,n,q,t⟩:=h;exact⟨a,xs,e,n,s _ _ q,t.mono (Kp.of s) _ _⟩
 | .bor ds,v,h=>by obtain⟨a,xs,e,q,t⟩:=h;exact⟨a,xs,e,q,t.mono (Kp.of s) _ _⟩
 | .bd ds,v,h=>by obtain⟨a,xs,e,q,t⟩:=h;exact⟨a,xs,e,q,t.mono (Kp.of s) _ _⟩
 | .dk ds,v,h=>by obtain⟨a,xs,e,n,q,t⟩:=h;exact⟨a,xs,e,n,s _ _ q,t.mono (Kp.of s) _ _⟩
 | .dt ds,v,h=>by obtain⟨a,xs,e,n,q,t⟩:=h;exact⟨a,xs,e,n,s _ _ q,t.mono (Kp.of s) _ _⟩
 | .ob a,v,h=>h
 | .cl a Φ,v,h=>⟨h.1,h.2.2 _ _ (Kp.of s) h.2.1,h.2.2⟩
 | .ll a dss,v,h=>⟨h.1,h.2.keep (Kp.of s) fun b φ q=>s _ _ q⟩
 | .ins a C fs,v,h=>by obtain⟨e,n,dx,vs,q,t⟩:=h;exact⟨e,n,dx,vs,s _ _ q,t.mono (Kp.of s) _ _⟩
structure C4 (K:Fg9) (H0:Hp) (τ:A9) (σ:St) (H:Hp):Prop where
 len:τ.length=σ.length
 same:A6 H0 H
 here:∀(i:Nat) (s:Sl),τ[i]?=some (some s)->∃v,σ[i]?=some (some v)/\O5 K H0 H s v
 apart:∀(i j:Nat) (s t:Sl) (v:V),i≠j->τ[i]?=some (some s)->τ[j]?=some (some t)->s.mut=true->t.mut=true->σ[i]?=some (some v)->σ[j]?=some (some v)->False
theorem C4.mono {K:Fg9}{H0 H H':Hp} {τ:A9} {σ:St} (h:C4 K H0 τ σ H) (s:A6 H H'):C4 K H0 τ σ H' :=
 ⟨h.len,h.same.trans s,fun i sl e=>let ⟨v,q,r⟩:=h.here i sl e;⟨v,q,r.mono s⟩,h.apart⟩
noncomputable abbrev WE:=A9->(R->Prop)->Prop
def Z3b (K:Fg9) (H0:Hp) (w:WE):TE:=fun σ H Q=>∃ τ,C4 K H0 τ σ H/\w τ fun r=>∀v H',A6 H H'->F7 K H H' r v->Q v H'
structure DE (X:Cx) (H0:Hp) (e:Expr) (w:WE):Prop where
 mono:∀(τ:A9) (P Q:R->Prop),(∀r,P r->Q r)->w τ P->w τ Q
 pe:PE X e (Z3b X.K H0 w)
noncomputable abbrev WT:=A9->(Bool->Prop)->Prop
def Z3c (K:Fg9) (H0:Hp) (w:WT):TT:=fun σ H Q=>∃ τ,C4 K H0 τ σ H/\w τ fun b=>∀H',A6 H H'->Q b H'
structure DT (X:Cx) (H0:Hp) (e:Expr) (w:WT):Prop where
 mono:∀(τ:A9) (P Q:Bool->Prop),(∀r,P r->Q r)->w τ P->w τ Q
 pt:PT X e (Z3c X.K H0 w)
structure DW (X:Cx) (H0:Hp) (e:Expr) (w:WT):Prop where
 mono:∀(τ:A9) (P Q:Bool->Prop),(∀r,P r->Q r)->w τ P->w τ Q
 pw:PW X e (Z3c X.K H0 w)
noncomputable abbrev WA:=A9->(List R->Prop)->Prop
noncomputable def M9 (K:Fg9) (H0 H:Hp):List R->List V->Prop
 | [],vs=>vs=[]
 | r::rs,vs=>∃v t,vs=v::t/\F7 K H0 H r v/\M9 K H0 H rs t
def W1l (K:Fg9) (H0:Hp) (w:WA):TA:=fun σ H Q=>∃ τ,C4 K H0 τ σ H/\w τ fun rs=>∀vs H',A6 H H'->M9 K H H' rs vs->Q vs H'
structure DA (X:Cx) (H0:Hp) (es:List Expr) (w:WA):Prop where
 len:∀(τ:A9) (Q:List R->Prop),w τ Q->w τ fun rs=>rs.length=es.length/\Q rs
 mono:∀(τ:A9) (P Q:List R->Prop),(∀r,P r->Q r)->w τ P->w τ Q
 pa:PA X es (W1l X.K H0 w)
structure F6 where
 nx:A9->Prop
 rt:R->Prop
 bk:A9->Prop
 ct:A9->Prop
noncomputable abbrev WS:=F6->A9->Prop
structure F6.Le (E F:F6):Prop where
 nx:∀ τ,E.nx τ->F.nx τ
 rt:∀r,E.rt r->F.rt r
 bk:∀ τ,E.bk τ->F.bk τ
 ct:∀ τ,E.ct τ->F.ct τ
noncomputable def Q0 (K:Fg9) (H0 Hs:Hp) (D:T6):F6 where
 nx:=fun τ=>∀ σ H,Kp Hs H->C4 K H0 τ σ H->D.nx σ H
 rt:=fun r=>∀v H,A6 H0 H->F7 K H0 H r v->D.rt v H
 bk:=fun τ=>∀ σ H,Kp Hs H->C4 K H0 τ σ H->D.bk σ H
 ct:=fun τ=>∀ σ H,Kp Hs H->C4 K H0 τ σ H->D.ct σ H
theorem Z3a {K:Fg9}{H0 H H1:Hp}{D:T6} (k:Kp H H1):(Q0 K H0 H D).Le (Q0 K H0 H1 D) :=
 ⟨fun τ h σ H2 k2 hR=>h σ H2 (k.trans k2) hR,fun _ h=>h,fun τ h σ H2 k2 hR=>h σ H2 (k.trans k2) hR,fun τ h σ H2 k2 hR=>h σ H2 (k.trans k2) hR⟩
def Y0o (K:Fg9) (H0:Hp) (w:WS):TS:=fun D σ H=>∃ τ,C4 K H0 τ σ H/\w (Q0 K H0 H D) τ
structure DS (X:Cx) (H0:Hp) (st:Stmt) (w:WS):Prop where
 mono:∀(τ:A9) (E F:F6),E.Le F->w E τ->w F τ
 ps:PS X st (Y0o X.K H0 w)
structure A4 (X:Cx) (H0:Hp) (iM:List Stmt) (w:WS):Prop where
 mono:∀(τ:A9) (E F:F6),E.Le F->w E τ->w F τ
 ps:PSs X iM (Y0o X.K H0 w)
theorem peW {X:Cx}{e:Expr}{t t':TE} (h:PE X e t) (f:∀ σ H Q,t' σ H Q->t σ H Q):PE X e t':=fun ae s σ H Q I q=>h ae s σ H Q I (f σ H Q q)
theorem ptW {X:Cx}{e:Expr}{t t':TT} (h:PT X e t) (f:∀ σ H Q,t' σ H Q->t σ H Q):PT X e t':=fun ae s σ H Q I q=>h ae s σ H Q I (f σ H Q q)
theorem pwW {X:Cx}{e:Expr}{t t':TT} (h:PW X e t) (f:∀ σ H Q,t' σ H Q->t σ H Q):PW X e t':=fun whole ae s σ H Q I q=>h whole ae s σ H Q I (f σ H Q q)
theorem paW {X:Cx}{e:List Expr}{t t':TA} (h:PA X e t) (f:∀ σ H Q,t' σ H Q->t σ H Q):PA X e t':=fun pos ae s σ H Q I q=>h pos ae s σ H Q I (f σ H Q q)
theorem psW {X:Cx}{e:Stmt}{t t':TS} (h:PS X e t) (f:∀D σ H,t' D σ H->t D σ H):PS X e t':=fun ae s σ H D I q=>h ae s σ H D I (f D σ H q)
theorem Z4f {X:Cx}{e:List Stmt}{t t':TS} (h:PSs X e t) (f:∀D σ H,t' D σ H->t D σ H):PSs X e t':=fun ae s σ H D I q=>h ae s σ H D I (f D σ H q)
noncomputable abbrev IsV (K:Fg9) (H:Hp):R->V->Prop:=F7 K (fun _=>none) H
theorem F7.v {K:Fg9}{H0 H:Hp}:∀{r:R}{v:V},F7 K H0 H r v->IsV K H r v
 | .st d,v,h=>h
 | .nw ds,v,h=>by obtain⟨a,xs,e,n,q,t⟩:=h;exact⟨a,xs,e,rfl,q,t⟩
 | .bw ds,v,h=>h
 | .dk ds,v,h=>h
 | .dt ds,v,h=>h
 | .ob a,v,h=>h
 | .cl _ _,v,h=>h
 | .ms _ _ _ _,v,h=>h
theorem Y0i {K:Fg9}{H0 H:Hp}{k:Bool}:F7 K H0 H (.st (.bl k)) (.bl k):=A2.s_bl (K:=K) (H:=H)
theorem V6 {K:Fg9}{H0 H:Hp}{k:Int}:F7 K H0 H (.st (.int k)) (.int k):=A2.s_int (K:=K) (H:=H)
theorem Z2t {K:Fg9}{H0 H:Hp}{k:Str}:F7 K H0 H (.st (.str k)) (.str k):=A2.s_str (K:=K) (H:=H)
section
variable {X:Cx}{H0:Hp}{a b c e:Expr}{pos:Pos}{wa wb wc we:WE}
noncomputable def rdS:Sl->R
 | .dat d=>.st d
 | .own ds=>.bw ds
 | .bor ds=>.bw ds
 | .dk k=>.dk k
 | .dt k=>.dt k
 | .bd k=>.dt k
 | .ob a=>.ob a
 | .cl a Φ=>.cl a Φ
 | .ll a _=>.ob a
 | .ins a _ _=>.ob a
theorem O5.rd {K:Fg9}{H0 H Hs:Hp} (s:A6 H0 H):∀{r:Sl}{v:V},O5 K H0 H r v->F7 K Hs H (rdS r) v
 | .dat d,v,h=>h
 | .own ds,v,h=>by obtain⟨a,xs,e,n,q,t⟩:=h;exact⟨a,xs,e,q,t⟩
 | .bor ds,v,h=>by obtain⟨a,xs,e,q,t⟩:=h;exact⟨a,xs,e,s _ _ q,t⟩
 | .bd ds,v,h=>by obtain⟨a,xs,e,q,t⟩:=h;exact⟨a,xs,e,s _ _ q,t⟩
 | .dk ds,v,h=>by obtain⟨a,xs,e,n,q,t⟩:=h;exact⟨a,xs,e,q,t⟩
 | .dt ds,v,h=>by obtain⟨a,xs,e,n,q,t⟩:=h;exact⟨a,xs,e,q,t⟩
 | .ob a,v,h=>h
 | .cl _ _,v,h=>h
 | .ll a _,v,h=>h.1
 | .ins a C fs,v,h=>h.1
def wV (i:Nat):WE:=fun τ Q=>∃s,τ[i]?=some (some s)/\Q (rdS s)
theorem DE.var {i:Nat} (h:PE X e (T4 i)):DE X H0 e (wV i) where
 mono:=fun τ P Q f ⟨s,h1,h2⟩=>⟨s,h1,f _ h2⟩
 pe:=peW h fun σ H Q ⟨τ,hR,s,h1,h2⟩=>by
  obtain⟨v,hv,q⟩:=hR.here i s h1
  exact⟨v,hv,h2 v H (A6.refl H) (q.rd hR.same)⟩
def wC (d:D):WE:=fun _ Q=>Q (.st d)
theorem DE.con {v:V}{d:D} (h:PE X e (tC v)) (hd:∀K H,A2 K H d v):DE X H0 e (wC d) where
 mono:=fun τ P Q f h=>f _ h
 pe:=peW h fun σ H Q ⟨τ,hR,h⟩=>h v H (A6.refl H) (hd _ _)
theorem DE.int {i:Int}{j:Nat}:DE X H0 (.Constant (.int i) j pos) (wC (.int i)):=DE.con W4t fun _ _=>A2.s_int
theorem DE.bl {i:Bool}{j:Nat}:DE X H0 (.Constant (.bool i) j pos) (wC (.bl i)):=DE.con W4i fun _ _=>A2.s_bl
theorem DE.str {i:Str}{j:Nat}:DE X H0 (.Constant (.str i) j pos) (wC (.str i)):=DE.con W4z fun _ _=>A2.s_str
theorem DE.non {j:Nat}:DE X H0 (.Constant .none j pos) (wC .non):=DE.con W4w fun _ _=>A2.s_non
noncomputable def fzR:R->(D->Prop)->Prop
 | .st d,Q=>Q d
 | .nw ds,Q=>Q (.lst ds)
 | _,_=>False
theorem A0.freeze {ae:Pn9} {σ:St}{H:Hp}{s:Shared}{x:Addr}{xs:List V} (I:A0 X ae σ H s) (h:H x=some (.lst xs)):∃o,A0 X ae σ (upd H x (.frz o (.lst xs))) s:=by
 obtain⟨z,aT,n,r,q⟩:=I.hok x _ h
 refine⟨_,I.write (t':=s.toks) (h':=s.heap) (e:=x) (o:=.frz { cls:=.type "list",data:=.seq aT.toArray n } (.lst xs)) (by rw [h];trivial) (.inl rfl) (fun b u _ k=>k) ⟨_,q⟩ ?_⟩
 exact⟨q,z,aT,n,r,q⟩
theorem DE.fz (h:DE X H0 e we):DE X H0 e (fun τ Q=>we τ fun r=>fzR r fun d=>Q (.st d)) where
 mono:=fun τ P Q f h'=>h.mono τ _ _ (fun r q=>by
  cases r <;> first | exact f _ q | exact q) h'
 pe:=by
  intro ae s σ H Q I ⟨τ,hR,hw⟩
  refine B4 (h.pe ae s σ H (fun v H'=>A6 H H'/\∃r,F7 X.K H H' r v/\fzR r fun d=>∀v H',A6 H H'->A2 X.K H' d v->Q v H') I ⟨τ,hR,h.mono τ _ _ (fun r q v H' sm ir=>⟨sm,r,ir,q⟩) hw⟩) ?_
  rintro u s1 ⟨v,H1,I1,rv,sm,r,ir,q⟩
  cases r with
  | st d=>exact⟨v,H1,I1,rv,q v H1 sm ir⟩
  | nw ds =>
   obtain⟨p,xs,rfl,hn,hp,al⟩:=ir
   obtain⟨o,I2⟩:=A0.freeze I1 hp
   refine⟨.ref p,_,I2,rv,q _ _ (fun b ob hb=>?_) (A2.s_lst (.inl ⟨o,upd_same⟩) (al.mono (Kp.upd hp _) _ _))⟩
   rw [B6 (Y6 hb hn)]
   exact sm b ob hb
  | bw _=>exact q.elim
  | dk _=>exact q.elim
  | dt _=>exact q.elim
  | ob _=>exact q.elim
  | cl _ _=>exact q.elim
  | ms _ _ _ _=>exact q.elim
theorem two (ha:DE X H0 a wa) (hb:DE X H0 b wb) {τ:A9} {σ:St}{H:Hp} (hR:C4 X.K H0 τ σ H) {F:R->R->Prop} (h:wa τ fun x=>wb τ fun y=>F x y) {G:V->V->Hp->Prop}
  (hG:∀x y v u H',A6 H H'->F7 X.K H H' x v->F7 X.K H H' y u->F x y->G v u H'):Z3b X.K H0 wa σ H fun v H1=>Z3b X.K H0 wb σ H1 fun u H2=>G v u H2 :=
 ⟨τ,hR,ha.mono τ _ _ (fun x hx v H1 s1 r1=>⟨τ,hR.mono s1,hb.mono τ _ _ (fun y hy u H2 s2 r2=>hG x y v u H2 (s1.trans s2) (r1.mono s2) (r2.older s1) hy) hx⟩) h⟩
def OpD (X:Cx) (f:Value->Value->Sem Value) (g:R->R->(R->Prop)->Prop):Prop :=
 L9 X f (fun x y H Q=>∃r1 r2,IsV X.K H r1 x/\IsV X.K H r2 y/\g r1 r2 fun r=>∀v H',A6 H H'->F7 X.K H H' r v->Q v H')
def Y1 {α:Type} (g:R->R->(α->Prop)->Prop):Prop:=∀x y (P Q:α->Prop),(∀r,P r->Q r)->g x y P->g x y Q
noncomputable def A3 {α:Type} (g:R->R->(α->Prop)->Prop) (wa wb:WE):A9->(α->Prop)->Prop:=fun τ Q=>wa τ fun x=>wb τ fun y=>g x y Q
theorem DE.op {op:Operator}{g:R->R->(R->Prop)->Prop} (ho:OpD X (binaryOp op) g) (mg:Y1 g) (ha:DE X H0 a wa) (hb:DE X H0 b wb):DE X H0 (.BinOp a op b pos) (A3 g wa wb) where
 mono:=fun τ P Q f h=>ha.mono τ _ _ (fun x h=>hb.mono τ _ _ (fun y h=>mg x y P Q f h) h) h
 pe:=peW (W4x ho ha.pe hb.pe) fun σ H Q ⟨τ,hR,h⟩=>two ha hb hR h fun x y v u H' sm rx ry q =>
  ⟨x,y,rx.v,ry.v,mg x y _ _ (fun r q v cV s2 ir=>q v cV (sm.trans s2) (ir.older sm)) q⟩
def T5 (X:Cx) (op:CmpOp) (g:R->R->(Bool->Prop)->Prop):Prop :=
 L9 X (compareOp op) (fun x y H Q=>∃r1 r2,IsV X.K H r1 x/\IsV X.K H r2 y/\g r1 r2 fun k=>Q (.bl k) H)
theorem DE.cmp {op:CmpOp}{g:R->R->(Bool->Prop)->Prop} (ho:T5 X op g) (mg:Y1 g) (ha:DE X H0 a wa) (hb:DE X H0 b wb) (hm:behindInMarks op b=false) :
  DE X H0 (.Compare a [op] [b] pos) (fun τ Q=>A3 g wa wb τ fun k=>Q (.st (.bl k))) where
 mono:=fun τ P Q f h=>ha.mono τ _ _ (fun x h=>hb.mono τ _ _ (fun y h=>mg x y _ _ (fun k q=>f _ q) h) h) h
 pe:=peW (W4n ho ha.pe hb.pe hm) fun σ H Q ⟨τ,hR,h⟩=>two ha hb hR h fun x y v u H' sm rx ry q =>
  ⟨x,y,rx.v,ry.v,mg x y _ _ (fun r q=>q _ _ sm Y0i) q⟩
theorem DT.cmp {op:CmpOp}{g:R->R->(Bool->Prop)->Prop} (ho:T5 X op g) (mg:Y1 g) (ha:DE X H0 a wa) (hb:DE X H0 b wb) (hm:behindInMarks op b=false) :
  DT X H0 (.Compare a [op] [b] pos) (A3 g wa wb) where
 mono:=fun τ P Q f h=>ha.mono τ _ _ (fun x h=>hb.mono τ _ _ (fun y h=>mg x y _ _ (fun k q=>f _ q) h) h) h
 pt:=ptW (W5z ho ha.pe hb.pe hm) fun σ H Q ⟨τ,hR,h⟩=>two ha hb hR h fun x y v u H' sm rx ry q =>
  ⟨x,y,rx.v,ry.v,mg x y _ _ (fun r q=>⟨r,rfl,q _ sm⟩) q⟩
noncomputable def Q3e:R->(Bool->Prop)->Prop
 | .st .non,Q=>Q false
 | .st (.bl b),Q=>Q b
 | .st (.int i),Q=>Q (i != 0)
 | .st (.str x),Q=>x.length<=sizeLine/\Q ((x.length:Int) != 0)
 | .st (.tup ds),Q=>Q (!ds.isEmpty)
 | .st (.lst ds),Q=>Q (!ds.isEmpty)
 | .nw ds,Q=>Q (!ds.isEmpty)
 | .bw ds,Q=>Q (!ds.isEmpty)
 | .dk kvs,Q=>Q (!kvs.isEmpty)
 | .dt _,_=>False
 | .ob _,_=>False
 | .cl _ _,_=>False
 | .ms _ _ _ _,_=>False
theorem AllS.empty {K:Fg9}{H:Hp}{ds:List D}{xs:List V} (h:AllS K H ds xs):ds.isEmpty=xs.isEmpty:=by
 have:=h.length
 cases ds <;> cases xs <;> simp_all
theorem V0d (r:R) (P Q:Bool->Prop) (f:∀r,P r->Q r) (h:Q3e r P):Q3e r Q:=by
 unfold Q3e at h ⊢
 split at h <;> first | exact f _ h | exact⟨h.1,f _ h.2⟩ | exact h
theorem V0e {K:Fg9}{H:Hp}{r:R}{v:V} (ir:IsV K H r v) {Q:Bool->Prop} (h:Q3e r Q):∃k,Z1c K v H k/\Q k:=by
 cases r with
 | st d =>
  cases d with
  | non=>cases (show v=.non from ir);exact⟨_,rfl,h⟩
  | bl b=>cases (show v=.bl b from ir);exact⟨_,rfl,h⟩
  | int b=>cases (show v=.int b from ir);exact⟨_,rfl,h⟩
  | str b=>cases (show v=.str b from ir);exact⟨_,⟨h.1,rfl⟩,h.2⟩
  | tup ds =>
   have ir:A2 K H (.tup ds) v:=ir
   unfold A2 at ir
   obtain⟨p,xs,rfl,q,al⟩:=ir
   exact⟨_,.inr (.inl ⟨xs,D8.of q,rfl⟩),by rw [<- al.empty];exact h⟩
  | lst ds =>
   have ir:A2 K H (.lst ds) v:=ir
   unfold A2 at ir
   obtain⟨p,xs,rfl,q,al⟩:=ir
   exact⟨_,.inl ⟨xs,q.sq,rfl⟩,by rw [<- al.empty];exact h⟩
 | nw ds=>obtain⟨p,xs,rfl,_,q,al⟩:=ir;exact⟨_,.inl ⟨xs,E3.of q,rfl⟩,by rw [<- al.empty];exact h⟩
 | bw ds=>obtain⟨p,xs,rfl,q,al⟩:=ir;exact⟨_,.inl ⟨xs,E3.of q,rfl⟩,by rw [<- al.empty];exact h⟩
 | dk ds =>
  obtain⟨p,xs,rfl,q,al⟩:=ir
  refine⟨_,.inr (.inr ⟨xs,q,rfl⟩),?_⟩
  cases ds with
  | nil=>cases (show xs=[]from al);exact h
  | cons d ds=>obtain⟨v,r,rfl,_⟩:=al;exact h
 | dt _=>exact h.elim
 | ob _=>exact h.elim
 | cl _ _=>exact h.elim
 | ms _ _ _ _=>exact h.elim
theorem DT.tru (ha:DE X H0 a wa) (he:∀whole,isTrue a X.env whole=(do let v <- whole;standAt a.pos;holding [v] (truthy v))):DT X H0 a (fun τ Q=>wa τ fun r=>Q3e r Q) where
 mono:=fun τ P Q f h=>ha.mono τ _ _ (fun x h=>V0d x P Q f h) h
 pt:=ptW (W6b ha.pe he) fun σ H Q ⟨τ,hR,h⟩=>⟨τ,hR,ha.mono τ _ _ (fun r q v H' sm ir=>by
  obtain⟨k,h1,h2⟩:=V0e ir.v q
  exact⟨k,h1,h2 H' sm⟩) h⟩
variable {ta tb tc:WT}{rest:List Expr}
def Q5n (t u:WT):WT:=fun τ Q=>t τ fun k=>if k=true then u τ Q else Q false
def wOr (t u:WT):WT:=fun τ Q=>t τ fun k=>if k=true then Q true else u τ Q
def Z0g (t:WT):WT:=fun τ Q=>t τ fun k=>Q (!k)
theorem Q0n {c A B A' B':Prop} [Decidable c] (f:A->A') (g:B->B') (h:if c then A else B):if c then A' else B':=by
 split at h
 ·rename_i hc;rw [aC hc];exact f h
 ·rename_i hc;rw [ax hc];exact g h
theorem DW.and1 (ha:DT X H0 a ta):DW X H0 (.BoolOp .And [a] pos) ta:=⟨ha.mono,W6d ha.pt⟩
theorem DW.or1 (ha:DT X H0 a ta):DW X H0 (.BoolOp .Or [a] pos) ta:=⟨ha.mono,W6f ha.pt⟩
theorem DW.and (ha:DT X H0 a ta) (hb:DW X H0 (.BoolOp .And (b::rest) pos) tb):DW X H0 (.BoolOp .And (a::b::rest) pos) (Q5n ta tb) where
 mono:=fun τ P Q f h=>ha.mono τ _ _ (fun k h=>Q0n (hb.mono τ _ _ f) (f _) h) h
 pw:=pwW (W6c ha.pt hb.pw) fun σ H Q ⟨τ,hR,h⟩=>⟨τ,hR,ha.mono τ _ _ (fun k q H1 s1 =>
  Q0n (fun h=>⟨τ,hR.mono s1,hb.mono τ _ _ (fun k q H2 s2=>q H2 (s1.trans s2)) h⟩) (fun h=>h H1 s1) q) h⟩
theorem DW.or (ha:DT X H0 a ta) (hb:DW X H0 (.BoolOp .Or (b::rest) pos) tb):DW X H0 (.BoolOp .Or (a::b::rest) pos) (wOr ta tb) where
 mono:=fun τ P Q f h=>ha.mono τ _ _ (fun k h=>Q0n (f _) (hb.mono τ _ _ f) h) h
 pw:=pwW (W6e ha.pt hb.pw) fun σ H Q ⟨τ,hR,h⟩=>⟨τ,hR,ha.mono τ _ _ (fun k q H1 s1 =>
  Q0n (fun h=>h H1 s1) (fun h=>⟨τ,hR.mono s1,hb.mono τ _ _ (fun k q H2 s2=>q H2 (s1.trans s2)) h⟩) q) h⟩
theorem DW.t (h:DW X H0 a ta):DT X H0 a ta:=⟨h.mono,h.pw.pt⟩
theorem DT.nt (ha:DT X H0 a ta):DT X H0 (.UnaryOp .Not a pos) (Z0g ta) where
 mono:=fun τ P Q f h=>ha.mono τ _ _ (fun k h=>f _ h) h
 pt:=ptW (W6a ha.pt) fun σ H Q ⟨τ,hR,h⟩=>⟨τ,hR,h⟩
def wIf (t:WT) (wa wb:WE):WE:=fun τ Q=>t τ fun k=>if k=true then wa τ Q else wb τ Q
theorem DE.ife (hc:DT X H0 c tc) (ha:DE X H0 a wa) (hb:DE X H0 b wb):DE X H0 (.IfExp c a b pos) (wIf tc wa wb) where
 mono:=fun τ P Q f h=>hc.mono τ _ _ (fun k h=>Q0n (ha.mono τ _ _ f) (hb.mono τ _ _ f) h) h
 pe:=peW (W4s hc.pt ha.pe hb.pe) fun σ H Q ⟨τ,hR,h⟩=>⟨τ,hR,hc.mono τ _ _ (fun k h H1 s1 =>
  Q0n (fun h=>⟨τ,hR.mono s1,ha.mono τ _ _ (fun r q u H2 s2 iu=>q u H2 (s1.trans s2) (iu.older s1)) h⟩) (fun h=>⟨τ,hR.mono s1,hb.mono τ _ _ (fun r q u H2 s2 iu=>q u H2 (s1.trans s2) (iu.older s1)) h⟩) h) h⟩
variable {es:List Expr}{wr:WA}
def A5:WA:=fun _ Q=>Q []
def A1 (we:WE) (wr:WA):WA:=fun τ Q=>we τ fun r=>wr τ fun rs=>Q (r::rs)
theorem M9.older {K:Fg9}{H0 H1 H:Hp} (s:A6 H0 H1):∀{rs:List R}{vs:List V},M9 K H1 H rs vs->M9 K H0 H rs vs
 | [],_,h=>h
 | r::rs,_,h=>by obtain⟨v,t,e,q,z⟩:=h;exact⟨v,t,e,q.older s,M9.older s z⟩
theorem DA.nil:DA X H0 [] A5:=⟨fun τ Q h=>⟨rfl,h⟩,fun τ P Q f h=>f _ h,paW Q2s fun σ H Q ⟨τ,hR,h⟩=>h [] H (A6.refl H) rfl⟩
theorem DA.cons (ha:DE X H0 e we) (hr:DA X H0 es wr) (hs:starEach (e::es) X.env=(false,eval e X.env)::starEach es X.env:=by rfl):DA X H0 (e::es) (A1 we wr) where
 len:=fun τ Q h=>ha.mono τ _ _ (fun r h=>hr.mono τ _ _ (fun rs h=>⟨by rw [aB,aB,h.1],h.2⟩) (hr.len τ _ h)) h
 mono:=fun τ P Q f h=>ha.mono τ _ _ (fun r h=>hr.mono τ _ _ (fun rs h=>f _ h) h) h
 pa:=paW (Q0d ha.pe hr.pa hs) fun σ H Q ⟨τ,hR,h⟩=>⟨τ,hR,ha.mono τ _ _ (fun r h v H1 s1 ir=>⟨τ,hR.mono s1,hr.mono τ _ _ (fun rs h vs H2 s2 cu =>
  h (v::vs) H2 (s1.trans s2) ⟨v,vs,rfl,ir.mono s2,cu.older s1⟩) h⟩) h⟩
noncomputable def Q0u:List R->Option (List D)
 | []=>some []
 | .st d::rs=>(Q0u rs).map (d::·)
 | _::_=>none
theorem Z4s {K:Fg9}{H0 H:Hp}:∀{rs:List R}{ds:List D}{vs:List V},Q0u rs=some ds->M9 K H0 H rs vs->AllS K H ds vs
 | [],ds,vs,h,q=>by cases h;cases q;exact AllS.nil
 | .st d::rs,ds,vs,h,q=>by
  obtain⟨v,t,rfl,iv,z⟩:=q
  unfold Q0u at h
  cases e:Q0u rs with
  | none=>rw [e]at h;cases h
  | some es=>rw [e]at h;cases h;exact AllS.cons iv (Z4s e z)
 | .nw _::_,_,_,h,_=>by cases h
 | .bw _::_,_,_,h,_=>by cases h
 | .dk _::_,_,_,h,_=>by cases h
 | .dt _::_,_,_,h,_=>by cases h
 | .ob _::_,_,_,h,_=>by cases h
 | .cl _ _::_,_,_,h,_=>by cases h
 | .ms _ _ _ _::_,_,_,h,_=>by cases h
def Q3x (wr:WA):WE:=fun τ Q=>wr τ fun rs=>∃ds,Q0u rs=some ds/\ds.length<=sizeLine/\Q (.st (.tup ds))
def G6 (wr:WA):WE:=fun τ Q=>wr τ fun rs=>∃ds,Q0u rs=some ds/\ds.length<=sizeLine/\Q (.nw ds)
theorem DE.tup {k:Nat} (h:DA X H0 es wr):DE X H0 (.Tuple es k pos) (Q3x wr) where
 mono:=fun τ P Q f h'=>h.mono τ _ _ (fun rs ⟨ds,e,l,q⟩=>⟨ds,e,l,f _ q⟩) h'
 pe:=peW (W5a h.pa) fun σ H Q ⟨τ,hR,h'⟩=>⟨τ,hR,h.mono τ _ _ (fun rs ⟨ds,e,l,q⟩ vs H1 s1 cu=>by
  have al:=Z4s e cu
  refine⟨by rw [<- al.length];exact l,fun p hp=>q _ _ (s1.trans (G0 hp _)) (A2.s_tup upd_same (al.mono (Kp.of (G0 hp _)) _ _))⟩) h'⟩
theorem DE.lst (h:DA X H0 es wr):DE X H0 (.List es pos) (G6 wr) where
 mono:=fun τ P Q f h'=>h.mono τ _ _ (fun rs ⟨ds,e,l,q⟩=>⟨ds,e,l,f _ q⟩) h'
 pe:=peW (W4v h.pa) fun σ H Q ⟨τ,hR,h'⟩=>⟨τ,hR,h.mono τ _ _ (fun rs ⟨ds,e,l,q⟩ vs H1 s1 cu=>by
  have al:=Z4s e cu
  refine⟨by rw [<- al.length];exact l,fun p hp=>q _ _ (s1.trans (G0 hp _)) ⟨p,vs,rfl,s1.free hp,upd_same,al.mono (Kp.of (G0 hp _)) _ _⟩⟩) h'⟩
end
theorem Q0l {α:Type}{l:List (Option α)}{i:Nat}{x:Option α} (h:i<l.length):(l.set i x)[i]?=some x:=by simp [h]
theorem C4.set {K:Fg9}{H0 H:Hp} {τ:A9} {σ:St}{i:Nat}{s:Sl}{v:V} (h:C4 K H0 τ σ H) (q:O5 K H0 H s v)
  (ap:s.mut=true->∀(j:Nat) (t:Sl),j≠i->τ[j]?=some (some t)->t.mut=true->σ[j]?≠some (some v)):C4 K H0 (τ.set i (some s)) (σ.set i (some v)) H where
 len:=by rw [bW,bW];exact h.len
 same:=h.same
 here:=fun j t e=>by
  by_cases hj:j=i
  ·subst hj
   by_cases hl:j<τ.length
   ·rw [Q0l hl]at e
    cases e
    exact⟨v,Q0l (by rw [<- h.len];exact hl),q⟩
   ·rw [aw.mpr (by rw [bW];omega)]at e;cases e
  ·rw [aP (fun z=>hj z.symm)]at e ⊢
   exact h.here j t e
 apart:=fun j k s1 s2 u cy e1 e2 m1 m2 q1 q2=>by
  by_cases hj:j=i
  ·subst hj
   have hk:k≠j:=fun z=>cy z.symm
   by_cases hl:j<τ.length
   ·rw [Q0l hl]at e1
    cases e1
    rw [Q0l (by rw [<- h.len];exact hl)]at q1
    cases q1
    rw [aP (fun z=>hk z.symm)]at e2 q2
    exact ap m1 k s2 hk e2 m2 q2
   ·rw [aw.mpr (by rw [bW];omega)]at e1;cases e1
  ·by_cases hk:k=i
   ·subst hk
    by_cases hl:k<τ.length
    ·rw [Q0l hl]at e2
     cases e2
     rw [Q0l (by rw [<- h.len];exact hl)]at q2
     cases q2
     rw [aP (fun z=>hj z.symm)]at e1 q1
     exact ap m2 j s1 hj e1 m1 q1
    ·rw [aw.mpr (by rw [bW];omega)]at e2;cases e2
   ·rw [aP (fun z=>hj z.symm)]at e1 q1
    rw [aP (fun z=>hk z.symm)]at e2 q2
    exact h.apart j k s1 s2 u cy e1 e2 m1 m2 q1 q2
theorem C4.tracked {K:Fg9}{H0 H:Hp} {τ:A9} {σ:St}{j:Nat}{t:Sl}{p:Addr} (h:C4 K H0 τ σ H) (e:τ[j]?=some (some t)) (m:t.mut=true) (q:σ[j]?=some (some (.ref p))):∃o,H p=some o:=by
 obtain⟨v,hv,r⟩:=h.here j t e
 rw [q]at hv;cases hv
 cases t with
 | dat _=>cases m
 | bor _=>cases m
 | bd _=>cases m
 | own ds=>obtain⟨a,xs,e,_,q,_⟩:=r;cases e;exact⟨_,q⟩
 | dk ds=>obtain⟨a,xs,e,_,q,_⟩:=r;cases e;exact⟨_,q⟩
 | dt ds=>obtain⟨a,xs,e,_,q,_⟩:=r;cases e;exact⟨_,q⟩
 | ob _=>cases m
 | cl _ _=>cases m
 | ll _ _=>cases m
 | ins _ _ _=>obtain⟨e,_,dx,xs,q,_⟩:=r;cases e;exact⟨_,q⟩
noncomputable def T3:R->(Sl->Prop)->Prop
 | .st d,Q=>Q (.dat d)
 | .nw ds,Q=>Q (.own ds)
 | _,_=>False
theorem W9m {r:R}{P:Sl->Prop} (h:T3 r P):∃s,P s/\((∃d,r=.st d/\s=.dat d)\/∃ds,r=.nw ds/\s=.own ds):=by
 cases r with
 | st d=>exact⟨_,h,.inl ⟨d,rfl,rfl⟩⟩
 | nw ds=>exact⟨_,h,.inr ⟨ds,rfl,rfl⟩⟩
 | bw _=>exact h.elim
 | dk _=>exact h.elim
 | dt _=>exact h.elim
 | ob _=>exact h.elim
 | cl _ _=>exact h.elim
 | ms _ _ _ _=>exact h.elim
theorem Z5e {r:R}{P Q:Sl->Prop} (f:∀s,P s->Q s) (h:T3 r P):T3 r Q:=by
 cases r <;> first | exact f _ h | exact h
theorem C4.store {K:Fg9}{H0 H H1:Hp} {τ:A9} {σ:St}{i:Nat}{r:R}{v:V} (h:C4 K H0 τ σ H) (sm:A6 H H1) (ir:F7 K H H1 r v) {P:Sl->Prop} (st:T3 r P):∃s,P s/\C4 K H0 (τ.set i (some s)) (σ.set i (some v)) H1:=by
 obtain⟨s,p,⟨d,rfl,rfl⟩ | ⟨ds,rfl,rfl⟩⟩:=W9m st
 ·exact⟨_,p,(h.mono sm).set ir fun m=>by cases m⟩
 ·obtain⟨a,xs,rfl,hn,ha,al⟩:=ir
  refine⟨_,p,(h.mono sm).set ⟨a,xs,rfl,h.same.free hn,ha,al⟩ fun _ j t hj e m q=>?_⟩
  obtain⟨o,ho⟩:=h.tracked e m q
  rw [hn]at ho;cases ho
section
variable {X:Cx}{H0:Hp}{a b c e:Expr}{pos bB:Pos}{wa wb we:WE}{tc:WT}{st:Stmt}{iM:List Stmt}{ws wt:WS}
def L3:WS:=fun E τ=>E.nx τ
def A7 (t u:WS):WS:=fun E τ=>t { E with nx:=u E } τ
theorem A4.nil:A4 X H0 [] L3:=⟨fun τ E F le h=>le.nx τ h,Z4f W5w fun D σ H ⟨τ,hR,h⟩=>h σ H (Kp.refl H) hR⟩
theorem A4.cons (h1:DS X H0 st ws) (h2:A4 X H0 iM wt):A4 X H0 (st::iM) (A7 ws wt) where
 mono:=fun τ E F le h=>h1.mono τ { E with nx:=wt E } { F with nx:=wt F } ⟨fun τ' h=>h2.mono τ' E F le h,le.rt,le.bk,le.ct⟩ h
 ps:=Z4f (W5v h1.ps h2.ps) fun D σ H ⟨τ,hR,h⟩=>⟨τ,hR,h1.mono τ { Q0 X.K H0 H D with nx:=wt (Q0 X.K H0 H D) } _ ⟨fun τ' h σ' H' k cS=>⟨τ',cS,h2.mono τ' _ _ (Z3a k) h⟩,fun _ h=>h,fun _ h=>h,fun _ h=>h⟩ h⟩
theorem A4.one (h1:DS X H0 st ws):A4 X H0 [st] ws:=⟨h1.mono,Z4f (W5x h1.ps) fun D σ H h=>h⟩
def L1 (t:WT) (ws wt:WS):WS:=fun E τ=>t τ fun k=>if k=true then ws E τ else wt E τ
theorem DS.ife {sa sb:List Stmt} (hc:DT X H0 c tc) (ha:A4 X H0 sa ws) (hb:A4 X H0 sb wt):DS X H0 (.If c sa sb pos) (L1 tc ws wt) where
 mono:=fun τ E F le h=>hc.mono τ _ _ (fun k h=>Q0n (ha.mono τ E F le) (hb.mono τ E F le) h) h
 ps:=psW (W5t hc.pt ha.ps hb.ps) fun D σ H ⟨τ,hR,h⟩=>⟨τ,hR,hc.mono τ _ _ (fun k h H1 s1 =>
  Q0n (fun h=>⟨τ,hR.mono s1,ha.mono τ _ _ (Z3a (Kp.of s1)) h⟩) (fun h=>⟨τ,hR.mono s1,hb.mono τ _ _ (Z3a (Kp.of s1)) h⟩) h) h⟩
noncomputable def Q4y:R->(R->Prop)->Prop
 | .st d,Q=>Q (.st d)
 | .nw ds,Q=>Q (.nw ds)
 | _,_=>False
theorem W7p {r:R}{P:R->Prop} (h:Q4y r P):P r:=by
 cases r <;> first | exact h | exact h.elim
theorem W7o {r:R}{P Q:R->Prop} (f:∀s,P s->Q s) (h:Q4y r P):Q4y r Q:=by
 cases r <;> first | exact f _ h | exact h
def I0 (we:WE):WS:=fun E τ=>we τ fun r=>Q4y r E.rt
theorem DS.ret (he:DE X H0 e we):DS X H0 (.Return (some e) pos) (I0 we) where
 mono:=fun τ E F le h=>he.mono τ _ _ (fun r h=>W7o le.rt h) h
 ps:=psW (Y2a he.pe) fun D σ H ⟨τ,hR,h⟩=>⟨τ,hR,he.mono τ _ _ (fun r h v H1 s1 ir=>W7p (P:=(Q0 X.K H0 H D).rt) h v H1 (hR.same.trans s1) (ir.older hR.same)) h⟩
noncomputable def Q2e:Sl->(R->Prop)->Prop
 | .dat d,Q=>Q (.st d)
 | .own ds,Q=>Q (.nw ds)
 | _,_=>False
theorem DS.retV {i:Nat} (he:PE X e (T4 i)):DS X H0 (.Return (some e) pos) (fun E τ=>∃s,τ[i]?=some (some s)/\Q2e s E.rt) where
 mono:=fun τ E F le ⟨s,h1,h2⟩=>⟨s,h1,by cases s <;> first | exact le.rt _ h2 | exact h2⟩
 ps:=psW (Y2a he) fun D σ H ⟨τ,hR,s,h1,h2⟩=>by
  obtain⟨v,hv,q⟩:=hR.here i s h1
  refine⟨v,hv,?_⟩
  cases s with
  | dat d=>exact h2 v H hR.same q
  | own ds=>exact h2 v H hR.same q
  | bor _=>exact h2.elim
  | bd _=>exact h2.elim
  | dk _=>exact h2.elim
  | dt _=>exact h2.elim
  | ob _=>exact h2.elim
  | cl _ _=>exact h2.elim
  | ll _ _=>exact h2.elim
  | ins _ _ _=>exact h2.elim
def C1 (i:Nat) (we:WE):WS:=fun E τ=>we τ fun r=>T3 r fun s=>E.nx (τ.set i (some s))
theorem DS.set {i:Nat}{x:Str} (he:DE X H0 e we) (hN:X.N.Nodup) (hi:X.N[i]?=some x) (hx:Loc X.env.scope x) (hs:swapsWith e (some (.Name x bB)) pos.line X.env=pure false:=by rfl)
  (hf:X.fn x=true\/X.env.scope.names.lookup x=some .local:=by first | exact .inl rfl | exact .inr rfl | assumption):DS X H0 (.Assign [.Name x bB] e pos) (C1 i we) where
 mono:=fun τ E F le h=>he.mono τ _ _ (fun r h=>Z5e (fun s h=>le.nx _ h) h) h
 ps:=psW (Z4e hN hi hx he.pe hs hf) fun D σ H ⟨τ,hR,h⟩=>⟨τ,hR,he.mono τ _ _ (fun r h v H1 s1 ir=>by
  obtain⟨s,p,cS⟩:=hR.store (i:=i) s1 ir h
  exact p _ _ (Kp.of s1) cS) h⟩
noncomputable def J8 (t:WT) (wb:WS):Nat->WS
 | 0=>fun _ _=>False
 | n+1=>fun E τ=>t τ fun k=>if k=true then wb { E with nx:=J8 t wb n E,ct:=J8 t wb n E,bk:=E.nx } τ else E.nx τ
def Q3i (t:WT) (wb:WS):WS:=fun E τ=>∃n,J8 t wb n E τ
theorem Z6s (ht:∀(τ:A9) (P Q:Bool->Prop),(∀r,P r->Q r)->tc τ P->tc τ Q) (hb:∀(τ:A9) (E F:F6),E.Le F->ws E τ->ws F τ) :
  ∀(n:Nat) (τ:A9) (E F:F6),E.Le F->J8 tc ws n E τ->J8 tc ws n F τ
 | 0,_,_,_,_,h=>h
 | n+1,τ,E,F,le,h=>ht τ _ _ (fun k h=>Q0n (hb τ { E with nx:=J8 tc ws n E,ct:=J8 tc ws n E,bk:=E.nx } { F with nx:=J8 tc ws n F,ct:=J8 tc ws n F,bk:=F.nx } ⟨fun τ h=>Z6s ht hb n τ E F le h,le.rt,le.nx,fun τ h=>Z6s ht hb n τ E F le h⟩) (le.nx τ) h) h
theorem DS.whl {body:List Stmt} (hp:PassesOwn (model X.prog X.w) X.A X.env X.xe) (hc:DT X H0 c tc) (hb:A4 X H0 body ws):DS X H0 (.While c body [] pos) (Q3i tc ws) where
 mono:=fun τ E F le ⟨n,h⟩=>⟨n,Z6s hc.mono hb.mono n τ E F le h⟩
 ps:=psW (W5u hp hc.pt hb.ps) fun D σ H0' ⟨τ,hR,n,h⟩=>by
  refine⟨fun m σ H=>∃ τ,C4 X.K H0 τ σ H/\Kp H0' H/\J8 tc ws m (Q0 X.K H0 H0' D) τ,⟨n,τ,hR,Kp.refl _,h⟩,?_⟩
  rintro m σ H ⟨τ,hR,kp,h⟩
  cases m with
  | zero=>exact h.elim
  | succ m =>
   refine⟨τ,hR,hc.mono τ _ _ (fun k h H1 s1=>Q0n (fun h=>?_) (fun h=>h σ H1 (kp.trans (Kp.of s1)) (hR.mono s1)) h) h⟩
   refine⟨fun σ' H'=>∃ τ,C4 X.K H0 τ σ' H'/\Kp H0' H'/\J8 tc ws m (Q0 X.K H0 H0' D) τ,fun σ' H' h'=>⟨m,cC m,h'⟩,τ,hR.mono s1,?_⟩
   have k1:=kp.trans (Kp.of s1)
   exact hb.mono τ { Q0 X.K H0 H0' D with nx:=J8 tc ws m (Q0 X.K H0 H0' D),ct:=J8 tc ws m (Q0 X.K H0 H0' D),bk:=(Q0 X.K H0 H0' D).nx } _
    ⟨fun τ' h' σ' H' k cS=>⟨τ',cS,k1.trans k,h'⟩,fun _ h=>h,fun τ' h' σ' H' k cS=>h' σ' H' (k1.trans k) cS,fun τ' h' σ' H' k cS=>⟨τ',cS,k1.trans k,h'⟩⟩ h
end
noncomputable abbrev E6:=List R->R->Prop
noncomputable def P8:R->Bool
 | .st _=>true
 | .nw _=>true
 | .bw _=>true
 | .ob _=>true
 | .cl _ _=>true
 | _=>false
noncomputable def N6:R->R
 | .nw ds=>.bw ds
 | r=>r
noncomputable def Q4r (K:Fg9) (n:Nat) (sp:E6):Sp:=fun vs H Q _=>∃(rs:List R) (r:R),rs.length=n/\M9 K (fun _=>none) H rs vs/\rs.all P8=true/\sp (rs.map N6) r/\∀v H',A6 H H'->F7 K H H' r v->Q v H'
noncomputable def R4:R->Sl
 | .st d=>.dat d
 | .nw ds=>.bor ds
 | .bw ds=>.bor ds
 | .dk k=>.dk k
 | .dt k=>.dt k
 | .ob a=>.ob a
 | .cl a Φ=>.cl a Φ
 | .ms a C _ fs=>.ins a C fs
noncomputable def G9 (N:List Str) (rs:List R):A9:=rs.map (fun r=>some (R4 r))++List.replicate (N.length-rs.length) none
theorem M9.length {K:Fg9}{H0 H:Hp}:∀{rs:List R}{vs:List V},M9 K H0 H rs vs->rs.length=vs.length
 | [],_,h=>by cases h;rfl
 | r::rs,_,h=>by obtain⟨v,t,rfl,_,z⟩:=h;rw [aB,aB,M9.length z]
theorem M9.get {K:Fg9}{H0 H:Hp}:∀{rs:List R}{vs:List V}{i:Nat}{r:R},M9 K H0 H rs vs->rs[i]?=some r->∃v,vs[i]?=some v/\F7 K H0 H r v
 | [],_,_,_,_,e=>by simp at e
 | r::rs,_,0,r',h,e=>by obtain⟨v,t,rfl,q,z⟩:=h;simp at e;subst e;exact⟨v,rfl,q⟩
 | r::rs,_,i+1,r',h,e=>by
  obtain⟨v,t,rfl,q,z⟩:=h
  obtain⟨u,h1,h2⟩:=M9.get (i:=i) z (by simpa using e)
  exact⟨u,by simpa using h1,h2⟩
theorem M9.v {K:Fg9}{H0 H:Hp}:∀{rs:List R}{vs:List V},M9 K H0 H rs vs->M9 K (fun _=>none) H rs vs
 | [],_,h=>h
 | r::rs,_,h=>by obtain⟨v,t,e,q,z⟩:=h;exact⟨v,t,e,q.v,M9.v z⟩
theorem W9j (r:R):R4 (N6 r)=R4 r:=by cases r <;> rfl
theorem Y4d (N:List Str) (rs:List R):G9 N (rs.map N6)=G9 N rs:=by
 unfold G9
 rw [aL,ag]
 congr 1
 exact bb fun r _=>congrArg some (W9j r)
theorem O5.arg {K:Fg9}{H:Hp}:∀{r:R}{v:V},P8 r=true->IsV K H r v->O5 K H H (R4 r) v
 | .st d,v,_,h=>h
 | .nw ds,v,_,h=>by obtain⟨a,xs,e,_,q,t⟩:=h;exact⟨a,xs,e,q,t⟩
 | .bw ds,v,_,h=>h
 | .dk _,_,h,_=>by cases h
 | .dt _,_,h,_=>by cases h
 | .ob a,v,_,h=>h
 | .cl _ _,v,_,h=>h
 | .ms _ _ _ _,_,h,_=>by cases h
theorem W9i:∀{r:R},P8 r=true->(R4 r).mut=false
 | .st d,_=>rfl
 | .nw ds,_=>rfl
 | .bw ds,_=>rfl
 | .dk _,h=>by cases h
 | .dt _,h=>by cases h
 | .ob _,_=>rfl
 | .cl _ _,_=>rfl
 | .ms _ _ _ _,h=>by cases h
theorem Y2i {K:Fg9}{H:Hp}{N:List Str}{rs:List R}{vs:List V} (al:M9 K (fun _=>none) H rs vs) (ok:rs.all P8=true):C4 K H (G9 N rs) (L2.start N vs) H:=by
 have hl:=al.length
 have at_:∀(i:Nat) (s:Sl),(G9 N rs)[i]?=some (some s)->∃r,rs[i]?=some r/\s=R4 r:=fun i s e=>by
  unfold G9 at e
  by_cases hi:i<rs.length
  ·rw [aK (by rw [ag];exact hi),ak,ab hi]at e
   exact⟨rs[i],ab hi,(aA (aA e)).symm⟩
  ·rw [aU (by rw [ag];omega)]at e
   have:=aJ e
   rw [List.mem_replicate]at this
   cases this.2
 have mo:∀(i:Nat) (r:R),rs[i]?=some r->P8 r=true:=fun i r e=>ck.mp ok r (aJ e)
 refine⟨?_,A6.refl H,fun i s e=>?_,fun i j s t v _ e1 _ m _ _ _=>?_⟩
 ·unfold G9 L2.start
  rw [aq,aq,ag,ag,b7,b7,hl]
 ·obtain⟨r,hr,rfl⟩:=at_ i s e
  obtain⟨v,hv,q⟩:=al.get hr
  refine⟨v,?_,O5.arg (mo i r hr) q⟩
  unfold L2.start
  have hi:i<vs.length:=by
   rcases aW i vs.length with h | h
   ·exact h
   ·rw [aw.mpr h]at hv;cases hv
  rw [aK (by rw [ag];exact hi),ak,hv]
  rfl
 ·obtain⟨r,hr,rfl⟩:=at_ i s e1
  rw [W9i (mo i r hr)]at m;cases m
section
variable {P:Program}{w:World}{K:Fg9}{mg:Str->Option Value}{base:Heap}
theorem Q3.okD {x qual:Str}{st:Stmt}{f:Addr}{fd:FuncData}{N ps:List Str}{k:Nat}{sp:E6} (F:Q3 K x qual st f fd) (S:K5 N ps (C5 st))
  (cm:∀(cdv:Value) (A:Around) (outer:List Env) (s:Shared) (H:Hp) (E:XK),E7 k (A.deeper (envOfC qual (C5 st) s.heap.objs.size f cdv)) ->
   ∃ws,A4 (Q1e N1 P w K mg base N qual (C5 st) f cdv A outer s H E).nox H (T0 st) ws /\
    ∀rs r,rs.length=ps.length->sp rs r->ws { nx:=fun _=>r=.st .non,rt:=fun r'=>r'=r,bk:=fun _=>False,ct:=fun _=>False } (G9 N rs)) :
  Q7 P w K mg base N1 (k+1) f fd ps (Q4r K ps.length sp):=by
 refine F.ok S (fun vs H Q E h=>?_) (fun cdv A outer s H vs Q E hr h=>?_)
 ·obtain⟨rs,r,hl,al,_⟩:=h
  rw [<- al.length];exact hl
 obtain⟨rs,r,hl,al,ok,h1,h2⟩:=h
 obtain⟨ws,hd,hw⟩:=cm cdv A outer s H E hr
 refine⟨_,hd.ps,G9 N rs,Y2i al ok,?_⟩
 have hw:=hw (rs.map N6) r (by rw [ag];exact hl) h1
 rw [Y4d]at hw
 refine hd.mono _ _ _ ⟨fun τ h σ H' _ hR=>?_,fun r' h v H' sm ir=>?_,fun _ h=>False.elim h,fun _ h=>False.elim h⟩ hw
 ·have h:r=.st .non:=h
  subst h
  exact h2 .non H' hR.same (A2.s_non (K:=K) (H:=H'))
 ·have h:r'=r:=h
  subst h
  exact h2 v H' sm ir
end
section
variable {X:Cx}{H0:Hp}{e:Expr}{es:List Expr}{wr:WA}{k:Nat}{f:Addr}{fd:FuncData}{ps:List Str}{sp:E6}{x:Str}{p pos:Pos}
def L8 (sp:E6) (wr:WA):WE:=fun τ Q=>wr τ fun rs=>rs.all P8=true/\∃r,sp (rs.map N6) r/\Q r
theorem DE.call (F:Q7 X.prog X.w X.K X.mg X.base N1 k f fd ps (Q4r X.K (e::es).length sp)) (hr:E7 k X.A) (hg:Gl X x) (hm:X.mg x=some (.ref f)) (hk:PySem.W.keepIn X.K (.ref f)=true) (hb:V2 X.K fd ps [])
  (ha:DA X H0 (e::es) wr) (dC:(x==("__debug__":Str))=false:=by decide) (he:starEach (e::es) X.env=(false,eval e X.env)::starEach es X.env:=by rfl) (hpl:(backTo pos (starEach es X.env)).any (·.1)=false:=by rfl) :
  DE X H0 (.Call (.Name x p) (e::es) [] pos) (L8 sp wr) where
 mono:=fun τ P Q f h=>ha.mono τ _ _ (fun rs ⟨ok,r,h1,h2⟩=>⟨ok,r,h1,f r h2⟩) h
 pe:=peW (Y1s F hr hg hm hk hb .nil Z3y ha.pa dC he hpl) fun σ H Q ⟨τ,hR,h⟩=>⟨τ,hR,ha.mono τ _ _ (fun rs ⟨ju,ok,r,h1,h2⟩ vs H1 s1 cu=>by
  refine⟨rs,r,ju,?_,ok,h1,fun v H' s2 ir=>h2 v H' (s1.trans s2) (ir.older s1)⟩
  rw [aX]
  exact cu.v) (ha.len τ _ h)⟩
end
mutual
noncomputable def D.eq:D->D->Bool
 | .non,.non=>true
 | .bl a,.bl b=>a==b
 | .bl a,.int b=>(if a then(1:Int)else 0)==b
 | .int a,.bl b=>a==(if b then(1:Int)else 0)
 | .int a,.int b=>a==b
 | .str a,.str b=>a==b
 | .tup a,.tup b=>D.eqs a b
 | .lst a,.lst b=>D.eqs a b
 | _,_=>false
noncomputable def D.eqs:List D->List D->Bool
 | [],[]=>true
 | x::xs,y::ys=>D.eq x y&&D.eqs xs ys
 | _,_=>false
end
mutual
noncomputable def D.depth:D->Nat
 | .tup a=>D.depths a+1
 | .lst a=>D.depths a+1
 | _=>0
noncomputable def D.depths:List D->Nat
 | []=>0
 | x::xs=>max (D.depth x) (D.depths xs)
end
theorem D.depths_get:∀{ds:List D}{i:Nat}{d:D},ds[i]?=some d->d.depth<=D.depths ds
 | [],_,_,h=>by simp at h
 | x::xs,0,d,h=>by simp at h;subst h;unfold D.depths;omega
 | x::xs,i+1,d,h=>by
  have:=D.depths_get (ds:=xs) (i:=i) (d:=d) (by simpa using h)
  unfold D.depths;omega
mutual
theorem D.eq_refl:∀d:D,D.eq d d=true
 | .non=>by unfold D.eq;rfl
 | .bl a=>by unfold D.eq;simp
 | .int a=>by unfold D.eq;simp
 | .str a=>by unfold D.eq;simp
 | .tup a=>by unfold D.eq;exact D.eqs_refl a
 | .lst a=>by unfold D.eq;exact D.eqs_refl a
theorem D.eqs_refl:∀ds:List D,D.eqs ds ds=true
 | []=>by unfold D.eqs;rfl
 | x::xs=>by unfold D.eqs;rw [D.eq_refl x,D.eqs_refl xs];rfl
end
theorem D.eqs_range:∀(a b:List D),D.eqs a b=((List.range (min a.length b.length)).all (fun i=>match a[i]?,b[i]? with | some x,some y=>D.eq x y | _,_=>true)&&a.length==b.length)
 | [],[]=>by unfold D.eqs;simp
 | [],y::ys=>by unfold D.eqs;simp
 | x::xs,[]=>by unfold D.eqs;simp
 | x::xs,y::ys=>by
  unfold D.eqs
  rw [D.eqs_range xs ys]
  have e:min (x::xs).length (y::ys).length=min xs.length ys.length+1:=by simp [Nat.succ_min_succ]
  rw [e,cq,List.all_cons,List.all_map]
  simp only [aB,List.getElem?_cons_zero,Function.comp_def,List.getElem?_cons_succ]
  rw [Bool.and_assoc]
  congr 2
  simp
def IsW (K:Fg9) (H:Hp) (d:D) (v:V):Prop:=match d with
 | .lst ds=>∃a xs,v=.ref a/\E3 K H a xs/\AllS K H ds xs
 | d=>A2 K H d v
theorem A2.w {K:Fg9}{H:Hp}:∀{d:D}{v:V},A2 K H d v->IsW K H d v
 | .non,_,h=>h
 | .bl _,_,h=>h
 | .int _,_,h=>h
 | .str _,_,h=>h
 | .tup _,_,h=>h
 | .lst _,_,h=>by unfold A2 at h;obtain⟨a,xs,e,q,t⟩:=h;exact⟨a,xs,e,q.sq,t⟩
noncomputable def R.d:R->Option D
 | .st d=>some d
 | .nw ds=>some (.lst ds)
 | .bw ds=>some (.lst ds)
 | _=>none
theorem F7.w {K:Fg9}{H0 H:Hp}:∀{r:R}{v:V}{d:D},r.d=some d->F7 K H0 H r v->IsW K H d v
 | .st d,v,_,e,h=>by cases e;exact A2.w h
 | .nw ds,v,_,e,h=>by cases e;obtain⟨a,xs,e,n,q,t⟩:=h;exact⟨a,xs,e,E3.of q,t⟩
 | .bw ds,v,_,e,h=>by cases e;obtain⟨a,xs,e,q,t⟩:=h;exact⟨a,xs,e,E3.of q,t⟩
 | .dk _,_,_,e,_=>by cases e
 | .dt _,_,_,e,_=>by cases e
 | .ob _,_,_,e,_=>by cases e
 | .cl _ _,_,_,e,_=>by cases e
 | .ms _ _ _ _,_,_,e,_=>by cases e
theorem Y4q {X:Cx}{ae:Pn9} {σ:St}{H:Hp}{s:Shared} (I:A0 X ae σ H s) {a:Addr}{xs ys:List V} (h1:D8 X.K H a xs) (h2:E3 X.K H a ys):False:=by
 obtain⟨_,_,⟨o,e,c,_⟩,_⟩:=I.tuple h1
 obtain⟨_,_,⟨o',n,e',c',_⟩,_⟩:=I.list h2
 rw [e]at e';cases e'
 rw [c]at c';exact absurd c' (by simp)
section
variable {X:Cx}{ae:Pn9} {σ:St}{H:Hp}{s:Shared}
mutual
theorem A2.inj (I:A0 X ae σ H s):∀(d e:D) (v:V),A2 X.K H d v->A2 X.K H e v->d=e
 | .non,e,v,h1,h2=>by
  cases e <;> unfold A2 at h1 h2 <;> first | rfl | (obtain⟨_,_,z,_⟩:=h2;rw [h1]at z;cases z;done) | (rw [h1]at h2;cases h2;done) | (rw [h1]at h2;cases h2;rfl)
 | .bl p,e,v,h1,h2=>by
  cases e <;> unfold A2 at h1 h2 <;> first | rfl | (obtain⟨_,_,z,_⟩:=h2;rw [h1]at z;cases z;done) | (rw [h1]at h2;cases h2;done) | (rw [h1]at h2;cases h2;rfl)
 | .int p,e,v,h1,h2=>by
  cases e <;> unfold A2 at h1 h2 <;> first | rfl | (obtain⟨_,_,z,_⟩:=h2;rw [h1]at z;cases z;done) | (rw [h1]at h2;cases h2;done) | (rw [h1]at h2;cases h2;rfl)
 | .str p,e,v,h1,h2=>by
  cases e <;> unfold A2 at h1 h2 <;> first | rfl | (obtain⟨_,_,z,_⟩:=h2;rw [h1]at z;cases z;done) | (rw [h1]at h2;cases h2;done) | (rw [h1]at h2;cases h2;rfl)
 | .tup p,.non,v,h1,h2=>by unfold A2 at h1 h2;obtain⟨_,_,e,_⟩:=h1;rw [h2]at e;cases e
 | .tup p,.bl q,v,h1,h2=>by unfold A2 at h1 h2;obtain⟨_,_,e,_⟩:=h1;rw [h2]at e;cases e
 | .tup p,.int q,v,h1,h2=>by unfold A2 at h1 h2;obtain⟨_,_,e,_⟩:=h1;rw [h2]at e;cases e
 | .tup p,.str q,v,h1,h2=>by unfold A2 at h1 h2;obtain⟨_,_,e,_⟩:=h1;rw [h2]at e;cases e
 | .lst p,.non,v,h1,h2=>by unfold A2 at h1 h2;obtain⟨_,_,e,_⟩:=h1;rw [h2]at e;cases e
 | .lst p,.bl q,v,h1,h2=>by unfold A2 at h1 h2;obtain⟨_,_,e,_⟩:=h1;rw [h2]at e;cases e
 | .lst p,.int q,v,h1,h2=>by unfold A2 at h1 h2;obtain⟨_,_,e,_⟩:=h1;rw [h2]at e;cases e
 | .lst p,.str q,v,h1,h2=>by unfold A2 at h1 h2;obtain⟨_,_,e,_⟩:=h1;rw [h2]at e;cases e
 | .tup p,.tup q,v,h1,h2=>by unfold A2 at h1 h2;obtain⟨x,xs,e1,q1,r1⟩:=h1;obtain⟨y,ys,e2,q2,r2⟩:=h2;rw [e1]at e2;cases e2;have e:=I.tuple_inj (D8.of q1) (D8.of q2);subst e;rw [AllS.inj I p q xs r1 r2]
 | .tup p,.lst q,v,h1,h2=>by unfold A2 at h1 h2;obtain⟨x,xs,e1,q1,r1⟩:=h1;obtain⟨y,ys,e2,q2,r2⟩:=h2;rw [e1]at e2;cases e2;exact absurd (Y4q I (D8.of q1) q2.sq) id
 | .lst p,.tup q,v,h1,h2=>by unfold A2 at h1 h2;obtain⟨x,xs,e1,q1,r1⟩:=h2;obtain⟨y,ys,e2,q2,r2⟩:=h1;rw [e1]at e2;cases e2;exact absurd (Y4q I (D8.of q1) q2.sq) id
 | .lst p,.lst q,v,h1,h2=>by unfold A2 at h1 h2;obtain⟨x,xs,e1,q1,r1⟩:=h1;obtain⟨y,ys,e2,q2,r2⟩:=h2;rw [e1]at e2;cases e2;have e:=I.list_inj q1.sq q2.sq;subst e;rw [AllS.inj I p q xs r1 r2]
theorem AllS.inj (I:A0 X ae σ H s):∀(ds es:List D) (vs:List V),AllS X.K H ds vs->AllS X.K H es vs->ds=es
 | [],[],_,_,_=>rfl
 | [],y::ys,vs,h1,h2=>by unfold AllS at h1 h2;obtain⟨_,_,e,_⟩:=h2;rw [h1]at e;cases e
 | x::xs,[],vs,h1,h2=>by unfold AllS at h1 h2;obtain⟨_,_,e,_⟩:=h1;rw [h2]at e;cases e
 | x::xs,y::ys,vs,h1,h2=>by
  unfold AllS at h1 h2
  obtain⟨v,r,e1,q1,t1⟩:=h1
  obtain⟨v',r',e2,q2,t2⟩:=h2
  rw [e1]at e2;cases e2
  rw [A2.inj I x y v q1 q2,AllS.inj I xs ys r t1 t2]
end
end
section
variable {X:Cx}{ae:Pn9} {σ:St}{H:Hp}{s:Shared}
open PySem.SeqAt
theorem Q2k {ds:List D}{xs:List V}{aT:List Value} (al:AllS X.K H ds xs) (rv:B7 xs aT) {j:Nat} (h:j<aT.toArray.size):∃d v,ds[j]?=some d/\A2 X.K H d v/\C3 v aT.toArray[j]:=by
 have hl:=al.length
 have hr:=rv.length
 have hj:j<aT.length:=by simpa using h
 have eG:j<ds.length:=by omega
 obtain⟨v,hv,q⟩:=al.get (ab eG)
 obtain⟨u,hu,r⟩:=rv.get hv
 have e:u=aT.toArray[j]:=by
  rw [ab hj]at hu
  simpa using (aA hu).symm
 exact⟨ds[j],v,ab eG,q,e ▸ r⟩
theorem Q8i (I:A0 X ae σ H s) {d1 d2:D}{v1 v2:V}{u1 u2:Value}{n:Nat} (h:∀A:Around,A.units+n<cLine->RcAt A s u1 u2 (D.eq d1 d2)) (i1:A2 X.K H d1 v1) (i2:A2 X.K H d2 v2) (r1:C3 v1 u1) (r2:C3 v2 u2) {A:Around} (hu:A.units+n<cLine):EqAt A s u1 u2 (D.eq d1 d2):=by
 have hA:=h A hu
 by_cases e:u1=u2
 ·subst e
  have ev:=r1.inj r2
  subst ev
  rw [A2.inj I d1 d2 v1 i1 i2,D.eq_refl]
  exact EqAt.same _
 ·intro prog w E Q hq
  unfold eqBool
  refine bA ?_
  refine wpAny_ite_split (fun jC=>absurd (eq_of_beq jC) e) (fun _=>?_)
  have fin:wpAny (model prog w) A (richCompare .Eq u1 u2>>=truthOfDropped) Q E s:=aa (hA prog w E _ (wpAny_truthy_bool hq))
  cases v1 with
  | non=>cases r1;exact fin
  | bl _=>cases r1;exact fin
  | int _=>obtain⟨t,rfl⟩:=r1;exact fin
  | str _=>obtain⟨t,rfl⟩:=r1;exact fin
  | byt _=>obtain⟨t,rfl⟩:=r1;exact fin
  | ref _=>cases r1;exact fin
  | ty _=>cases r1;exact fin
  | flt b=>cases d1 <;> first | (cases (show V.flt b=_ from i1)) | (unfold A2 at i1;obtain⟨_,_,z,_⟩:=i1;cases z)
inductive Vw (X:Cx) (H:Hp) (s:Shared):D->Value->Prop
 | non:Vw X H s .non .none
 | bl (b:Bool):Vw X H s (.bl b) (.bool b)
 | int (i:Int) (t:Tok):Vw X H s (.int i) (.int i t)
 | str (x:Str) (t:Tok):Vw X H s (.str x) (.str x t)
 | tup {ds:List D}{a:Addr}{xs:List V}{aT:List Value} (al:AllS X.K H ds xs) (rv:B7 xs aT) (pl:s.heap.IsTuple a aT.toArray):Vw X H s (.tup ds) (.ref a)
 | lst {ds:List D}{a:Addr}{xs:List V}{aT:List Value} (al:AllS X.K H ds xs) (rv:B7 xs aT) (pl:s.heap.IsList a aT.toArray):Vw X H s (.lst ds) (.ref a)
theorem Q5m (I:A0 X ae σ H s) {d:D}{v:V}{u:Value} (h:IsW X.K H d v) (r:C3 v u):Vw X H s d u:=by
 cases d with
 | non=>cases (show v=.non from h);cases r;exact .non
 | bl b=>cases (show v=.bl b from h);cases r;exact .bl b
 | int i=>cases (show v=.int i from h);obtain⟨t,rfl⟩:=r;exact .int i t
 | str x=>cases (show v=.str x from h);obtain⟨t,rfl⟩:=r;exact .str x t
 | tup ds=>have h:A2 X.K H (.tup ds) v:=h;unfold A2 at h;obtain⟨a,xs,rfl,sq,al⟩:=h;cases r;obtain⟨aT,rv,pl,_⟩:=I.tuple (D8.of sq);exact .tup al rv pl
 | lst ds=>obtain⟨a,xs,rfl,sq,al⟩:=h;cases r;obtain⟨aT,rv,pl,_⟩:=I.list sq;exact .lst al rv pl.isList
def Q3n (d e:D):Prop:=(∃p q,d=.tup p/\e=.tup q)\/∃p q,d=.lst p/\e=.lst q
theorem Y2c {d1 d2:D}{u1 u2:Value}{A:Around} (h1:Vw X H s d1 u1) (h2:Vw X H s d2 u2) (hu:A.units<cLine) (hb:¬ Q3n d1 d2):RcAt A s u1 u2 (D.eq d1 d2):=by
 cases h1 <;> cases h2 <;> first | exact absurd (.inl ⟨_,_,rfl,rfl⟩) hb | exact absurd (.inr ⟨_,_,rfl,rfl⟩) hb | (unfold D.eq;(try simp only [Bool.not_true,Bool.not_false]);(with_reducible first | exact RcAt.none_none | exact RcAt.none_bool _ | exact RcAt.none_int _ _ | exact RcAt.none_str _ _ | exact RcAt.none_tuple (by assumption) hu | exact RcAt.none_list (by assumption) hu | exact RcAt.bool_none _ | exact RcAt.bool_bool _ _ | exact RcAt.bool_int _ _ _ | exact RcAt.bool_str _ _ _ | exact RcAt.bool_tuple _ (by assumption) hu | exact RcAt.bool_list _ (by assumption) hu | exact RcAt.int_none _ _ | exact RcAt.int_bool _ _ _ | exact RcAt.int_int _ _ _ _ | exact RcAt.int_str _ _ _ _ | exact RcAt.int_tuple _ _ (by assumption) hu | exact RcAt.int_list _ _ (by assumption) hu | exact RcAt.str_none _ _ | exact RcAt.str_bool _ _ _ | exact RcAt.str_int _ _ _ _ | exact RcAt.str_str _ _ _ _ | exact RcAt.str_tuple _ _ (by assumption) hu | exact RcAt.str_list _ _ (by assumption) hu | exact RcAt.tuple_none (by assumption) hu | exact RcAt.tuple_bool _ (by assumption) hu | exact RcAt.tuple_int _ _ (by assumption) hu | exact RcAt.tuple_str _ _ (by assumption) hu | exact RcAt.tuple_list (by assumption) (by assumption) hu | exact RcAt.list_none (by assumption) hu | exact RcAt.list_bool _ (by assumption) hu | exact RcAt.list_int _ _ (by assumption) hu | exact RcAt.list_str _ _ (by assumption) hu | exact RcAt.list_tuple (by assumption) (by assumption) hu))
theorem Z4g (I:A0 X ae σ H s):∀(n:Nat) (d1 d2:D) (v1 v2:V) (u1 u2:Value) (A:Around),d1.depth<=n->IsW X.K H d1 v1->IsW X.K H d2 v2->C3 v1 u1->C3 v2 u2->A.units+n<cLine->RcAt A s u1 u2 (D.eq d1 d2):=by
 intro n
 induction n with
 | zero =>
  intro d1 d2 v1 v2 u1 u2 A hd h1 h2 r1 r2 hu
  refine Y2c (Q5m I h1 r1) (Q5m I h2 r2) (by omega) ?_
  rintro (⟨p,q,rfl,rfl⟩ | ⟨p,q,rfl,rfl⟩) <;> unfold D.depth at hd <;> omega
 | succ n ih =>
  intro d1 d2 v1 v2 u1 u2 A hd h1 h2 r1 r2 hu
  have w1:=Q5m I h1 r1
  have w2:=Q5m I h2 r2
  by_cases hb:Q3n d1 d2
  ·obtain⟨p,q,rfl,rfl⟩ | ⟨p,q,rfl,rfl⟩:=hb
   ·cases w1;cases w2
    rename_i a1 kA eN fQ gt eI a2 kz ce dO eW dm
    have hd:D.depths p+1<=n+1:=by unfold D.depth at hd;exact hd
    have l1:eN.toArray.size=p.length:=by have:=eI.length;have:=fQ.length;simp;omega
    have l2:ce.toArray.size=q.length:=by have:=dm.length;have:=dO.length;simp;omega
    have k:=RcAt.tuples (A:=A) (s:=s) (e:=fun i=>match p[i]?,q[i]? with | some x,some y=>D.eq x y | _,_=>true) gt eW (by omega) (fun j im eG=>by
     obtain⟨d1,v1,e1,i1,w1⟩:=Q2k eI fQ im
     obtain⟨d2,v2,e2,i2,w2⟩:=Q2k dm dO eG
     simp only [e1,e2]
     exact Q8i I (fun A=>ih d1 d2 v1 v2 _ _ A (by have:=D.depths_get e1;omega) i1.w i2.w w1 w2) i1 i2 w1 w2 (by simp only [Around.in1_units];omega))
    rw [l1,l2]at k
    unfold D.eq;rw [D.eqs_range];exact k
   ·cases w1;cases w2
    rename_i a1 kA eN fQ gt eI a2 kz ce dO eW dm
    have hd:D.depths p+1<=n+1:=by unfold D.depth at hd;exact hd
    have l1:eN.toArray.size=p.length:=by have:=eI.length;have:=fQ.length;simp;omega
    have l2:ce.toArray.size=q.length:=by have:=dm.length;have:=dO.length;simp;omega
    have kk:RcAt A s (.ref a1) (.ref a2) (D.eqs p q):=by
     rw [D.eqs_range]
     by_cases bN:p.length=q.length
     ·have k:=RcAt.lists (A:=A) (s:=s) (e:=fun i=>match p[i]?,q[i]? with | some x,some y=>D.eq x y | _,_=>true) gt eW (by omega) (by omega) (fun j im eG=>by
       obtain⟨d1,v1,e1,i1,w1⟩:=Q2k eI fQ im
       obtain⟨d2,v2,e2,i2,w2⟩:=Q2k dm dO eG
       simp only [e1,e2]
       exact Q8i I (fun A=>ih d1 d2 v1 v2 _ _ A (by have:=D.depths_get e1;omega) i1.w i2.w w1 w2) i1 i2 w1 w2 (by simp only [Around.in1_units];omega))
      rw [l1]at k
      rw [<- bN,Nat.min_self,beq_self_eq_true,Bool.and_true]
      exact k
     ·rw [cE.mpr bN,Bool.and_false]
      exact RcAt.lists_lengths gt eW (by rw [l1,l2];simpa using bN) (by omega)
    unfold D.eq;exact kk
  ·exact Y2c w1 w2 (by omega) hb
end
end TK
end
section
namespace HT
open PySem PyProof.Rows
section
variable {prog:Program}{w:World}{A:Around}{E:VS9}{s:Shared}
theorem cat_tup0 {t b:Addr}{vs ws:List Value}{Q:VS9} (ht:IsTup s.heap t vs.toArray) (hb:IsTup s.heap b ws.toArray) (hv:vs=[]) (h1:Q (.ref b) s):wpAny (model prog w) A (binaryOp .Add (.ref t) (.ref b)) Q E s:=by
 obtain⟨⟨cls,dd,data,sl⟩,ho,hc,n,hd⟩:=id ht
 obtain⟨⟨jO,j2,data2,iN⟩,fy,fE,n2,fC⟩:=id hb
 simp only at hc hd fE fC
 subst hc hd fE fC
 exact concat_meets ⟨_,ho,rfl⟩ ⟨_,fy,rfl⟩ noFill_tuple_add seq_tuple_add PySem.F.slot_tuple_add PySem.F.entry_tuple_add (PySem.F.args_tuple_add_2 _ _)
  (tuple_addW0 t b vs.toArray ws.toArray n n2 dd j2 sl iN (by simp [hv])) ⟨ho,fy,h1⟩
end
end HT
namespace TK
open PySem PySem.Spec PyProof.Rows L2
section
variable {X:Cx}
noncomputable def M5 (C:Int->Int->Prop) (f:Int->Int->Int):R->R->(R->Prop)->Prop
 | .st (.int i),.st (.int j),Q=>C i j/\Q (.st (.int (f i j)))
 | _,_,_=>False
theorem Z2r {C:Int->Int->Prop}{f:Int->Int->Int}{x y:R}{Q:R->Prop} (h:M5 C f x y Q):∃i j,x=.st (.int i)/\y=.st (.int j)/\C i j/\Q (.st (.int (f i j))):=by
 unfold M5 at h
 split at h
 ·exact⟨_,_,rfl,rfl,h.1,h.2⟩
 ·exact h.elim
theorem Y5 {C:Int->Int->Prop}{f:Int->Int->Int}:Y1 (M5 C f):=fun x y P Q g h=>by
 obtain⟨i,j,rfl,rfl,c,q⟩:=Z2r h
 exact⟨c,g _ q⟩
theorem OpD.ints {F:Value->Value->Sem Value}{C:Int->Int->Prop}{f:Int->Int->Int} (h:L9 X F (rI C fun i j=>.int (f i j))):OpD X F (M5 C f):=by
 intro ae s σ H x y v u Q I rx ry ⟨r1,r2,h1,h2,hg⟩
 obtain⟨i,j,rfl,rfl,c,q⟩:=Z2r hg
 exact h ae s σ H x y v u Q I rx ry ⟨i,j,h1,h2,c,q _ _ (A6.refl H) V6⟩
theorem OpD.ints0 {F:Value->Value->Sem Value}{f:Int->Int->Int} (h:L9 X F (rI0 fun i j=>.int (f i j))):OpD X F (M5 (fun _ _=>True) f):=by
 intro ae s σ H x y v u Q I rx ry ⟨r1,r2,h1,h2,hg⟩
 obtain⟨i,j,rfl,rfl,c,q⟩:=Z2r hg
 exact h ae s σ H x y v u Q I rx ry ⟨i,j,h1,h2,q _ _ (A6.refl H) V6⟩
noncomputable abbrev NoC:Int->Int->Prop:=fun _ _=>True
theorem W3n:OpD X (binaryOp .Sub) (M5 NoC fun i j=>i-j):=OpD.ints0 W4g
theorem Q9a:OpD X (binaryOp .FloorDiv) (M5 Q0x fun i j=>i / j):=OpD.ints W3v
theorem Q4x:OpD X (binaryOp .Mod) (M5 (fun _ j=>0<j) fun i j=>i % j):=OpD.ints W4b
noncomputable def lsM:R->Option (List D)
 | .nw ds=>some ds
 | .bw ds=>some ds
 | _=>none
noncomputable def U3:R->Option (List D)
 | .nw ds=>some ds
 | .bw ds=>some ds
 | .st (.lst ds)=>some ds
 | _=>none
theorem Z3e {K:Fg9}{H0 H:Hp}:∀{r:R}{ds:List D}{v:V},lsM r=some ds->F7 K H0 H r v->∃a xs,v=.ref a/\H a=some (.lst xs)/\AllS K H ds xs
 | .nw ds,_,v,e,h=>by cases e;obtain⟨a,xs,e,n,q,t⟩:=h;exact⟨a,xs,e,q,t⟩
 | .bw ds,_,v,e,h=>by cases e;obtain⟨a,xs,e,q,t⟩:=h;exact⟨a,xs,e,q,t⟩
 | .st _,_,_,e,_=>by cases e
 | .dk _,_,_,e,_=>by cases e
 | .dt _,_,_,e,_=>by cases e
 | .ob _,_,_,e,_=>by cases e
 | .cl _ _,_,_,e,_=>by cases e
 | .ms _ _ _ _,_,_,e,_=>by cases e
theorem Q3r {K:Fg9}{H0 H:Hp}:∀{r:R}{ds:List D}{v:V},U3 r=some ds->F7 K H0 H r v->∃a xs,v=.ref a/\E3 K H a xs/\AllS K H ds xs
 | .nw ds,_,v,e,h=>by cases e;obtain⟨a,xs,e,n,q,t⟩:=h;exact⟨a,xs,e,E3.of q,t⟩
 | .bw ds,_,v,e,h=>by cases e;obtain⟨a,xs,e,q,t⟩:=h;exact⟨a,xs,e,E3.of q,t⟩
 | .st (.lst ds),_,v,e,h=>by cases e;have h:A2 K H (.lst ds) v:=h;unfold A2 at h;obtain⟨a,xs,e,q,t⟩:=h;exact⟨a,xs,e,q.sq,t⟩
 | .st .non,_,_,e,_=>by cases e
 | .st (.bl _),_,_,e,_=>by cases e
 | .st (.int _),_,_,e,_=>by cases e
 | .st (.str _),_,_,e,_=>by cases e
 | .st (.tup _),_,_,e,_=>by cases e
 | .dk _,_,_,e,_=>by cases e
 | .dt _,_,_,e,_=>by cases e
 | .ob _,_,_,e,_=>by cases e
 | .cl _ _,_,_,e,_=>by cases e
 | .ms _ _ _ _,_,_,e,_=>by cases e
def G2 (x y:R) (Q:R->Prop):Prop :=
 match x,y with
 | .st (.int i),.st (.int j)=>Q (.st (.int (i+j)))
 | .st (.str i),.st (.str j)=>i.length+j.length<=sizeLine/\Q (.st (.str (i++j)))
 | .st (.tup i),.st (.tup j)=>i.length+j.length<=sizeLine/\Q (.st (.tup (i++j)))
 | .nw i,.nw j=>i.length+j.length<=sizeLine/\Q (.nw (i++j))
 | .nw i,.bw j=>i.length+j.length<=sizeLine/\Q (.nw (i++j))
 | .bw i,.nw j=>i.length+j.length<=sizeLine/\Q (.nw (i++j))
 | .bw i,.bw j=>i.length+j.length<=sizeLine/\Q (.nw (i++j))
 | _,_=>False
theorem R5:Y1 G2:=fun x y P Q g h=>by
 unfold G2 at h ⊢
 split at h <;> first | exact g _ h | exact⟨h.1,g _ h.2⟩ | exact⟨h.1,h.2.1,g _ h.2.2⟩ | exact h
theorem Q7z {ae:Pn9}{s:Shared} {σ:St}{H:Hp}{x y:V}{v u:Value}{Q:VK} (I:A0 X ae σ H s) (rx:C3 x v) (ry:C3 y u) {r1 r2:R}{i j:List D} (e1:lsM r1=some i) (e2:lsM r2=some j)
  (h1:IsV X.K H r1 x) (h2:IsV X.K H r2 y) (hz:i.length+j.length<=sizeLine) (q:∀v H',A6 H H'->F7 X.K H H' (.nw (i++j)) v->Q v H'):wpAny (model X.prog X.w) X.A (binaryOp .Add v u) (EP X ae σ Q) X.xe s:=by
 obtain⟨a,xs,rfl,qa,gF⟩:=Z3e e1 h1
 obtain⟨b,ys,rfl,qb,fG⟩:=Z3e e2 h2
 refine W3t ae s σ H _ _ v u Q I rx ry ⟨a,b,xs,ys,rfl,rfl,qa,qb,by rw [<- gF.length,<- fG.length];exact hz,fun p hp=>?_⟩
 have k:=Kp.of (G0 hp (.lst (xs++ys)))
 exact q _ _ (G0 hp _) ⟨p,xs++ys,rfl,hp,upd_same,(gF.append fG).mono k _ _⟩
theorem S3:OpD X (binaryOp .Add) G2:=by
 intro ae s σ H x y v u Q I rx ry ⟨r1,r2,h1,h2,hg⟩
 unfold G2 at hg
 split at hg
 ·exact W3r ae s σ H x y v u Q I rx ry ⟨_,_,h1,h2,hg _ _ (A6.refl H) V6⟩
 ·exact W3s ae s σ H x y v u Q I rx ry ⟨_,_,h1,h2,hg.1,hg.2 _ _ (A6.refl H) Z2t⟩
 ·rename_i i j
  have h1:A2 X.K H (.tup i) x:=h1
  have h2:A2 X.K H (.tup j) y:=h2
  unfold A2 at h1 h2
  obtain⟨a,xs,rfl,qa,gF⟩:=h1
  obtain⟨b,ys,rfl,qb,fG⟩:=h2
  have la:=gF.length
  have lb:=fG.length
  by_cases hx:xs=[]
  ·have zi:i=[]:=cj.mp (by rw [la,hx];rfl)
   subst zi
   cases rx
   cases ry
   obtain⟨aT,r1,p1,_⟩:=I.tuple (D8.of (K:=X.K) qa)
   obtain⟨ce,r2,p2,_⟩:=I.tuple (D8.of (K:=X.K) qb)
   exact HT.cat_tup0 p1 p2 (r1.nil_iff.mpr hx) ⟨.ref b,H,I,rfl,hg.2 _ _ (A6.refl H) (A2.s_tup (K:=X.K) (H:=H) qb fG)⟩
  refine W3u ae s σ H _ _ v u Q I rx ry ⟨a,b,xs,ys,rfl,rfl,D8.of qa,D8.of qb,hx,by omega,fun z=>?_,fun z p hp=>?_⟩
  ·have zj:j=[]:=cj.mp (by rw [lb,z];rfl)
   subst zj
   rw [aX]at hg
   exact hg.2 _ _ (A6.refl H) (A2.s_tup (K:=X.K) (H:=H) qa gF)
  ·exact hg.2 _ _ (G0 hp _) (A2.s_tup (K:=X.K) upd_same ((gF.append fG).mono (Kp.of (G0 hp _)) _ _))
 ·exact Q7z I rx ry rfl rfl h1 h2 hg.1 hg.2
 ·exact Q7z I rx ry rfl rfl h1 h2 hg.1 hg.2
 ·exact Q7z I rx ry rfl rfl h1 h2 hg.1 hg.2
 ·exact Q7z I rx ry rfl rfl h1 h2 hg.1 hg.2
 ·exact hg.elim
def T1 (x y:R) (Q:R->Prop):Prop :=
 match x,y with
 | .st (.int i),.st (.int j)=>Q2i i j/\Q (.st (.int (i*j)))
 | .nw ds,.st (.int k)=>-(2 ^ 63)<=k/\k<2 ^ 63/\ds.length*k.toNat<=sizeLine/\Q (.nw (List.replicate k.toNat ds).flatten)
 | _,_=>False
theorem Q1j:Y1 T1:=fun x y P Q g h=>by
 unfold T1 at h ⊢
 split at h <;> first | exact⟨h.1,g _ h.2⟩ | exact⟨h.1,h.2.1,h.2.2.1,g _ h.2.2.2⟩ | exact h
theorem AllS.rep {K:Fg9}{H:Hp}{ds:List D}{vs:List V} (h:AllS K H ds vs):∀k:Nat,AllS K H (List.replicate k ds).flatten (List.replicate k vs).flatten
 | 0=>AllS.nil
 | k+1=>by rw [cf,cf,cY,cY];exact h.append (AllS.rep h k)
theorem Q1m:OpD X (binaryOp .Mult) T1:=by
 intro ae s σ H x y v u Q I rx ry ⟨r1,r2,h1,h2,hg⟩
 unfold T1 at hg
 split at hg
 ·exact W4c ae s σ H x y v u Q I rx ry ⟨_,_,h1,h2,hg.1,hg.2 _ _ (A6.refl H) V6⟩
 ·obtain⟨a,xs,rfl,_,qa,gF⟩:=h1
  refine W4f ae s σ H _ y v u Q I rx ry ⟨a,_,xs,rfl,h2,qa,hg.1,hg.2.1,by rw [<- gF.length];exact hg.2.2.1,fun p hp=>?_⟩
  exact hg.2.2.2 _ _ (G0 hp _) ⟨p,_,rfl,hp,upd_same,(gF.rep _).mono (Kp.of (G0 hp _)) _ _⟩
 ·exact hg.elim
noncomputable def J3 (f:Int->Int->Bool):R->R->(Bool->Prop)->Prop
 | .st (.int i),.st (.int j),Q=>Q (f i j)
 | _,_,_=>False
theorem Z8o {f:Int->Int->Bool}{x y:R}{Q:Bool->Prop} (h:J3 f x y Q):∃i j,x=.st (.int i)/\y=.st (.int j)/\Q (f i j):=by
 unfold J3 at h
 split at h
 ·exact⟨_,_,rfl,rfl,h⟩
 ·exact h.elim
theorem W9 {f:Int->Int->Bool}:Y1 (J3 f):=fun x y P Q g h=>by
 obtain⟨i,j,rfl,rfl,q⟩:=Z8o h
 exact g _ q
theorem T5.ints {op:CmpOp}{f:Int->Int->Bool} (h:L9 X (compareOp op) (rI0 fun i j=>.bl (f i j))):T5 X op (J3 f):=by
 intro ae s σ H x y v u Q I rx ry ⟨r1,r2,h1,h2,hg⟩
 obtain⟨i,j,rfl,rfl,q⟩:=Z8o hg
 exact h ae s σ H x y v u Q I rx ry ⟨i,j,h1,h2,q⟩
theorem Q8b:T5 X .Lt (J3 fun i j=>decide (i<j)):=T5.ints W4a
theorem Q8a:T5 X .LtE (J3 fun i j=>decide (i<=j)):=T5.ints W3z
theorem Z1q:T5 X .Gt (J3 fun i j=>decide (j<i)):=T5.ints W3x
theorem Z1p:T5 X .GtE (J3 fun i j=>decide (j<=i)):=T5.ints W3w
def F8 (n:Nat) (neg:Bool) (x y:R) (Q:Bool->Prop):Prop:=∃d e,x.d=some d/\y.d=some e/\d.depth<=n/\Q (if neg then !D.eq d e else D.eq d e)
theorem Q9 {n:Nat}{neg:Bool}:Y1 (F8 n neg):=fun x y P Q g ⟨d,e,h1,h2,h3,q⟩=>⟨d,e,h1,h2,h3,g _ q⟩
theorem W8 {n:Nat} (hu:X.A.units+n<cLine):T5 X .Eq (F8 n false):=by
 intro ae s σ H x y v u Q I rx ry ⟨r1,r2,h1,h2,d,e,e1,e2,hd,q⟩
 exact Z4g I n d e x y v u X.A hd (h1.w e1) (h2.w e2) rx ry hu _ _ _ _ ⟨.bl _,H,I,rfl,q⟩
end
end TK
end
section
namespace TK
open PySem PySem.Spec PyProof.Rows L2
section
variable {X:Cx}
noncomputable def scD:D->D->Bool
 | .non,.non=>true | .non,.int _=>true | .int _,.non=>true | .non,.bl _=>true | .bl _,.non=>true | .non,.str _=>true | .str _,.non=>true
 | .int _,.int _=>true | .bl _,.bl _=>true | .str _,.str _=>true
 | .int _,.str _=>true | .str _,.int _=>true | .bl _,.str _=>true | .str _,.bl _=>true
 | _,_=>false
def neD (x y:R) (Q:Bool->Prop):Prop:=∃d e,x=.st d/\y=.st e/\scD d e=true/\Q (!D.eq d e)
theorem W2y:Y1 neD:=fun x y P Q g ⟨d,e,h1,h2,h3,q⟩=>⟨d,e,h1,h2,h3,g _ q⟩
theorem Y7u:T5 X .NotEq neD:=by
 intro ae s σ H x y v u Q I rx ry ⟨r1,r2,h1,h2,d,e,e1,e2,hs,q⟩
 subst e1 e2
 have key:scal x y=true/\(D.eq d e)=decide (x=y):=by
  cases d <;> cases e <;> first
   | (cases hs;done)
   | (replace h1:A2 X.K H _ x:=h1;replace h2:A2 X.K H _ y:=h2;unfold A2 at h1 h2;subst h1;subst h2;refine⟨rfl,?_⟩;unfold D.eq;first | (exact(Z9d).symm) | (exact(Z9c).symm) | (exact(Z9e).symm) | rfl | (simp;done))
 refine W4d ae s σ H x y v u Q I rx ry ⟨key.1,?_⟩
 rw [<- key.2]
 exact q
def Q0m (neg:Bool) (x y:R) (Q:Bool->Prop):Prop:=∃d,x.d=some d/\y=.st .non/\Q (match d with | .non=>!neg | _=>neg)
theorem Q4n {neg:Bool}:Y1 (Q0m neg):=fun x y P Q g ⟨d,h1,h2,q⟩=>⟨d,h1,h2,g _ q⟩
theorem Y0h {K:Fg9}{H:Hp}:∀{d:D}{v:V},IsW K H d v->decide (v=.non)=(match d with | .non=>true | _=>false)
 | .non,v,h=>by cases (show v=.non from h);rfl
 | .bl b,v,h=>by cases (show v=.bl b from h);rfl
 | .int b,v,h=>by cases (show v=.int b from h);rfl
 | .str b,v,h=>by cases (show v=.str b from h);rfl
 | .tup ds,v,h=>by have h:A2 K H (.tup ds) v:=h;unfold A2 at h;obtain⟨a,_,rfl,_⟩:=h;rfl
 | .lst ds,v,h=>by obtain⟨a,_,rfl,_⟩:=h;rfl
theorem Z1r:T5 X .Is (Q0m false):=by
 intro ae s σ H x y v u Q I rx ry ⟨r1,r2,h1,h2,d,e1,e2,q⟩
 subst e2
 refine W3y ae s σ H x y v u Q I rx ry ⟨h2,?_⟩
 rw [Y0h (h1.w e1)]
 cases d <;> exact q
theorem Z1s:T5 X .IsNot (Q0m true):=by
 intro ae s σ H x y v u Q I rx ry ⟨r1,r2,h1,h2,d,e1,e2,q⟩
 subst e2
 refine W4e ae s σ H x y v u Q I rx ry ⟨h2,?_⟩
 rw [Y0h (h1.w e1)]
 cases d <;> exact q
theorem Q7s {K:Fg9}{H:Hp}{ds:List D}{xs:List V} (al:AllS K H ds xs) {i:Int}{d:D} (h:K7 ds i=some d):∃v,K7 xs i=some v/\A2 K H d v:=by
 unfold K7 at h ⊢
 rw [<- al.length]
 cases e:ixN ds.length i with
 | none=>rw [e]at h;cases h
 | some j =>
  rw [e]at h
  obtain⟨v,hv,q⟩:=al.get (i:=j) h
  exact⟨v,hv,q⟩
def B9 (x y:R) (Q:R->Prop):Prop:=match x,y with
 | .st (.lst ds),.st (.int i)=>∃d,K7 ds i=some d/\Q (.st d)
 | .nw ds,.st (.int i)=>∃d,K7 ds i=some d/\Q (.st d)
 | .bw ds,.st (.int i)=>∃d,K7 ds i=some d/\Q (.st d)
 | .st (.tup ds),.st (.int i)=>∃d,K7 ds i=some d/\Q (.st d)
 | .st (.str z),.st (.int i)=>z.length<=sizeLine/\∃c,K7 z.cps.toList i=some c/\Q (.st (.str ⟨#[c]⟩))
 | _,_=>False
theorem W0o:Y1 B9:=fun x y P Q g h=>by
 unfold B9 at h ⊢
 split at h
 case h_6=>exact h
 case h_5=>obtain⟨z,c,h1,h2⟩:=h;exact⟨z,c,h1,g _ h2⟩
 all_goals (obtain⟨d,h1,h2⟩:=h;exact⟨d,h1,g _ h2⟩)
variable {H0:Hp}{a b c e:Expr}{pos:Pos}{wa wb wc we:WE}
theorem DE.ix (ha:DE X H0 a wa) (hb:DE X H0 b wb) (hs:Z1b b):DE X H0 (.Subscript a b pos) (A3 B9 wa wb) where
 mono:=fun τ P Q f h=>ha.mono τ _ _ (fun x h=>hb.mono τ _ _ (fun y h=>W0o x y P Q f h) h) h
 pe:=peW (Y1u W0r ha.pe hb.pe hs) fun σ H Q ⟨τ,hR,h⟩=>two ha hb hR h fun x y v u H' sm rx ry q=>by
  unfold B9 at q
  split at q
  ·have rx:A2 X.K H' _ v:=rx
   unfold A2 at rx
   obtain⟨p,xs,rfl,sq,al⟩:=rx
   obtain⟨d,hd,q⟩:=q
   obtain⟨z,hz,iz⟩:=Q7s al hd
   exact .inl ⟨p,xs,_,z,rfl,ry,sq.sq,hz,q z H' sm iz⟩
  ·obtain⟨p,xs,rfl,_,sq,al⟩:=rx
   obtain⟨d,hd,q⟩:=q
   obtain⟨z,hz,iz⟩:=Q7s al hd
   exact .inl ⟨p,xs,_,z,rfl,ry,E3.of sq,hz,q z H' sm iz⟩
  ·obtain⟨p,xs,rfl,sq,al⟩:=rx
   obtain⟨d,hd,q⟩:=q
   obtain⟨z,hz,iz⟩:=Q7s al hd
   exact .inl ⟨p,xs,_,z,rfl,ry,E3.of sq,hz,q z H' sm iz⟩
  ·have rx:A2 X.K H' _ v:=rx
   unfold A2 at rx
   obtain⟨p,xs,rfl,sq,al⟩:=rx
   obtain⟨d,hd,q⟩:=q
   obtain⟨z,hz,iz⟩:=Q7s al hd
   exact .inr (.inl ⟨p,xs,_,z,rfl,ry,D8.of sq,hz,q z H' sm iz⟩)
  ·obtain⟨z,c,h1,q⟩:=q
   exact .inr (.inr ⟨_,_,c,rx,ry,z,h1,q _ H' sm Z2t⟩)
  ·exact q.elim
def Q0y (X:Cx) (f:Value) (g:List R->(R->Prop)->Prop):Prop :=
 Q3j X f (fun xs H Q=>∃rs,M9 X.K (fun _=>none) H rs xs/\g rs fun r=>∀v H',A6 H H'->F7 X.K H H' r v->Q v H')
def Q1a (g:List R->(R->Prop)->Prop):Prop:=∀x (P Q:R->Prop),(∀r,P r->Q r)->g x P->g x Q
variable {es:List Expr}{wr:WA}{x:Str}{p:Pos}{id T:String}{g:List R->(R->Prop)->Prop}
def D3 (g:List R->(R->Prop)->Prop) (wr:WA):WE:=fun τ Q=>wr τ fun rs=>g rs Q
theorem DE.callB (hc:Q0y X (.builtin id) g) (mg:Q1a g) (hg:Gl X x) (hm:X.mg x=none) (hv:bootBuiltins x=some (.builtin id)) (ha:DA X H0 (e::es) wr) (hn:x≠"__name__":=by decide) (dC:(x==("__debug__":Str))=false:=by decide)
  (he:starEach (e::es) X.env=(false,eval e X.env)::starEach es X.env:=by rfl) (hpl:(backTo pos (starEach es X.env)).any (·.1)=false:=by rfl):DE X H0 (.Call (.Name x p) (e::es) [] pos) (D3 g wr) where
 mono:=fun τ P Q f h=>ha.mono τ _ _ (fun rs h=>mg rs P Q f h) h
 pe:=peW (Y1t hc hg hm hv ha.pa hn dC he hpl) fun σ H Q ⟨τ,hR,h⟩=>⟨τ,hR,ha.mono τ _ _ (fun rs h vs H1 s1 cu=>⟨rs,cu.v,mg rs _ _ (fun r h v H' s2 ir=>h v H' (s1.trans s2) (ir.older s1)) h⟩) h⟩
theorem DE.callTy (hc:Q0y X (.type T) g) (mg:Q1a g) (hg:Gl X x) (hm:X.mg x=none) (hv:bootBuiltins x=some (.type T)) (ha:DA X H0 (e::es) wr) (hn:x≠"__name__":=by decide) (dC:(x==("__debug__":Str))=false:=by decide)
  (he:starEach (e::es) X.env=(false,eval e X.env)::starEach es X.env:=by rfl) (hpl:(backTo pos (starEach es X.env)).any (·.1)=false:=by rfl):DE X H0 (.Call (.Name x p) (e::es) [] pos) (D3 g wr) where
 mono:=fun τ P Q f h=>ha.mono τ _ _ (fun rs h=>mg rs P Q f h) h
 pe:=peW (W4m hc hg hm hv ha.pa hn dC he hpl) fun σ H Q ⟨τ,hR,h⟩=>⟨τ,hR,ha.mono τ _ _ (fun rs h vs H1 s1 cu=>⟨rs,cu.v,mg rs _ _ (fun r h v H' s2 ir=>h v H' (s1.trans s2) (ir.older s1)) h⟩) h⟩
theorem W7 {K:Fg9}{H0 H:Hp}{r:R}{vs:List V} (h:M9 K H0 H [r] vs):∃v,vs=[v]/\F7 K H0 H r v:=by
 obtain⟨v,t,rfl,q,z⟩:=h
 cases (show t=[]from z)
 exact⟨v,rfl,q⟩
noncomputable def Z2z:R->(Nat->Prop)->Prop
 | .st (.str z),Q=>z.length<=sizeLine/\Q z.length
 | .st (.tup ds),Q=>Q ds.length
 | .st (.lst ds),Q=>Q ds.length
 | .nw ds,Q=>Q ds.length
 | .bw ds,Q=>Q ds.length
 | _,_=>False
noncomputable def D9:List R->(R->Prop)->Prop
 | [r],Q=>Z2z r fun n=>Q (.st (.int n))
 | _,_=>False
theorem W1i:Q1a D9:=fun x P Q g h=>by
 unfold D9 at h ⊢
 split at h
 ·unfold Z2z at h ⊢
  split at h <;> first | exact g _ h | exact⟨h.1,g _ h.2⟩ | exact h
 ·exact h
theorem Y7k:Q0y X (.builtin "len") D9:=by
 intro ae s σ H xs us Q I rv ⟨rs,cu,h⟩
 unfold D9 at h
 split at h
 ·obtain⟨v,rfl,ir⟩:=W7 cu
  unfold Z2z at h
  split at h
  ·cases (show v=.str _ from ir)
   exact Q6c ae s σ H _ us Q I rv ⟨_,_,rfl,⟨h.1,rfl⟩,h.2 _ _ (A6.refl H) V6⟩
  ·have ir:A2 X.K H _ v:=ir
   unfold A2 at ir
   obtain⟨p,xs,rfl,sq,al⟩:=ir
   exact Q6c ae s σ H _ us Q I rv ⟨_,_,rfl,.inr ⟨xs,D8.of sq,rfl⟩,by rw [<- al.length];exact h _ _ (A6.refl H) V6⟩
  ·have ir:A2 X.K H _ v:=ir
   unfold A2 at ir
   obtain⟨p,xs,rfl,sq,al⟩:=ir
   exact Q6c ae s σ H _ us Q I rv ⟨_,_,rfl,.inl ⟨xs,sq.sq,rfl⟩,by rw [<- al.length];exact h _ _ (A6.refl H) V6⟩
  ·obtain⟨p,xs,rfl,_,sq,al⟩:=ir
   exact Q6c ae s σ H _ us Q I rv ⟨_,_,rfl,.inl ⟨xs,E3.of sq,rfl⟩,by rw [<- al.length];exact h _ _ (A6.refl H) V6⟩
  ·obtain⟨p,xs,rfl,sq,al⟩:=ir
   exact Q6c ae s σ H _ us Q I rv ⟨_,_,rfl,.inl ⟨xs,E3.of sq,rfl⟩,by rw [<- al.length];exact h _ _ (A6.refl H) V6⟩
  ·exact h.elim
 ·exact h.elim
noncomputable def Q5b:R->Option (List D)
 | .st (.tup ds)=>some ds
 | .st (.lst ds)=>some ds
 | .nw ds=>some ds
 | .bw ds=>some ds
 | _=>none
theorem Y3w {K:Fg9}{H0 H:Hp}:∀{r:R}{ds:List D}{v:V},Q5b r=some ds->F7 K H0 H r v->∃a xs,v=.ref a/\(E3 K H a xs\/H a=some (.tup xs))/\AllS K H ds xs
 | .st (.tup ds),_,v,e,h=>by cases e;have h:A2 K H (.tup ds) v:=h;unfold A2 at h;obtain⟨a,xs,e,q,t⟩:=h;exact⟨a,xs,e,.inr q,t⟩
 | .st (.lst ds),_,v,e,h=>by cases e;have h:A2 K H (.lst ds) v:=h;unfold A2 at h;obtain⟨a,xs,e,q,t⟩:=h;exact⟨a,xs,e,.inl q.sq,t⟩
 | .nw ds,_,v,e,h=>by cases e;obtain⟨a,xs,e,n,q,t⟩:=h;exact⟨a,xs,e,.inl (E3.of q),t⟩
 | .bw ds,_,v,e,h=>by cases e;obtain⟨a,xs,e,q,t⟩:=h;exact⟨a,xs,e,.inl (E3.of q),t⟩
 | .st .non,_,_,e,_=>by cases e
 | .st (.bl _),_,_,e,_=>by cases e
 | .st (.int _),_,_,e,_=>by cases e
 | .st (.str _),_,_,e,_=>by cases e
 | .dk _,_,_,e,_=>by cases e
 | .dt _,_,_,e,_=>by cases e
 | .ob _,_,_,e,_=>by cases e
 | .cl _ _,_,_,e,_=>by cases e
 | .ms _ _ _ _,_,_,e,_=>by cases e
noncomputable def Q4s:List R->(R->Prop)->Prop
 | [r],Q=>∃ds,Q5b r=some ds/\Q (.nw ds)
 | _,_=>False
theorem W1r:Q1a Q4s:=fun x P Q g h=>by
 unfold Q4s at h ⊢
 split at h
 ·obtain⟨ds,e,q⟩:=h;exact⟨ds,e,g _ q⟩
 ·exact h
theorem Y7m:Q0y X (.type "list") Q4s:=by
 intro ae s σ H xs us Q I rv ⟨rs,cu,h⟩
 unfold Q4s at h
 split at h
 ·obtain⟨v,rfl,ir⟩:=W7 cu
  obtain⟨ds,e,q⟩:=h
  obtain⟨a,xs,rfl,sq,al⟩:=Y3w e ir
  exact Y7n ae s σ H _ us Q I rv ⟨a,xs,rfl,sq.imp id (fun z=>D8.of z),fun l hl=>q _ _ (G0 hl _) ⟨l,xs,rfl,hl,upd_same,al.mono (Kp.of (G0 hl _)) _ _⟩⟩
 ·exact h.elim
noncomputable def Z0:List R->(R->Prop)->Prop
 | [r],Q=>∃ds,Q5b r=some ds/\Q (.st (.tup ds))
 | _,_=>False
theorem V0g:Q1a Z0:=fun x P Q g h=>by
 unfold Z0 at h ⊢
 split at h
 ·obtain⟨ds,e,q⟩:=h;exact⟨ds,e,g _ q⟩
 ·exact h
theorem Y7r:Q0y X (.type "tuple") Z0:=by
 intro ae s σ H xs us Q I rv ⟨rs,cu,h⟩
 unfold Z0 at h
 split at h
 ·obtain⟨v,rfl,ir⟩:=W7 cu
  obtain⟨ds,e,q⟩:=h
  obtain⟨a,xs,rfl,sq,al⟩:=Y3w e ir
  refine Y7s ae s σ H _ us Q I rv ⟨a,xs,rfl,?_⟩
  rcases sq with sq | sq
  ·exact .inl ⟨sq,fun l hl=>q _ _ (G0 hl _) (A2.s_tup (K:=X.K) upd_same (al.mono (Kp.of (G0 hl _)) _ _))⟩
  ·exact .inr ⟨D8.of sq,q _ _ (A6.refl H) (A2.s_tup (K:=X.K) (H:=H) sq al)⟩
 ·exact h.elim
noncomputable def Q7d:R->Option String
 | .st .non=>some "NoneType"
 | .st (.bl _)=>some "bool"
 | .st (.int _)=>some "int"
 | .st (.str _)=>some "str"
 | .st (.tup _)=>some "tuple"
 | .nw _=>some "list"
 | .bw _=>some "list"
 | .st (.lst _)=>some "list"
 | _=>none
theorem V0n {K:Fg9}{H0 H:Hp}:∀{r:R}{t:String}{v:V},Q7d r=some t->F7 K H0 H r v->W5 K H v (.type t)\/(t="list"/\∃a xs,v=.ref a/\E3 K H a xs)
 | .st .non,_,v,e,h=>by cases e;cases (show v=.non from h);exact .inl (.non)
 | .st (.bl b),_,v,e,h=>by cases e;cases (show v=.bl b from h);exact .inl (.bl b)
 | .st (.int b),_,v,e,h=>by cases e;cases (show v=.int b from h);exact .inl (.int b)
 | .st (.str b),_,v,e,h=>by cases e;cases (show v=.str b from h);exact .inl (.str b)
 | .st (.tup ds),_,v,e,h=>by cases e;have h:A2 K H (.tup ds) v:=h;unfold A2 at h;obtain⟨a,xs,rfl,q,t⟩:=h;exact .inl (.tup q)
 | .nw ds,_,v,e,h=>by cases e;obtain⟨a,xs,rfl,n,q,t⟩:=h;exact .inl (.lst q)
 | .bw ds,_,v,e,h=>by cases e;obtain⟨a,xs,rfl,q,t⟩:=h;exact .inl (.lst q)
 | .st (.lst ds),_,v,e,h=>by cases e;have h:A2 K H (.lst ds) v:=h;unfold A2 at h;obtain⟨a,xs,rfl,q,t⟩:=h;exact .inr ⟨rfl,a,xs,rfl,q.sq⟩
 | .dk _,_,_,e,_=>by cases e
 | .dt _,_,_,e,_=>by cases e
 | .ob _,_,_,e,_=>by cases e
 | .cl _ _,_,_,e,_=>by cases e
 | .ms _ _ _ _,_,_,e,_=>by cases e
noncomputable def Q6k (T:String) (t:String):Bool:=t==T||(T=="int"&&t=="bool")
def Z0e (T:String) (we:WE):WE:=fun τ Q=>we τ fun r=>∃t,Q7d r=some t/\Q (.st (.bl (Q6k T t)))
theorem DE.isi {p2:Pos}{y:Str} (he:DE X H0 e we) (hg:Gl X "isinstance") (hm:X.mg "isinstance"=none) (hv:bootBuiltins "isinstance"=some (.builtin "isinstance")) (lC:Gl X y) (jt:X.mg y=none) (iT:bootBuiltins y=some (.type T))
  (hk:∀K t,t∈["NoneType","bool","int","str","tuple","list"]->PySem.W.kitOne K (.type t) (.type T)=some (Q6k T t))
  (mH:starEach [e,.Name y p2] X.env=(false,eval e X.env)::starEach [.Name y p2] X.env:=by rfl) (iU:starEach [.Name y p2] X.env=(false,eval (.Name y p2) X.env)::starEach [] X.env:=by rfl)
  (hpl:(backTo pos (starEach [.Name y p2] X.env)).any (·.1)=false:=by rfl) (hn:y≠"__name__":=by decide) (hd:(y==("__debug__":Str))=false:=by decide) :
  DE X H0 (.Call (.Name "isinstance" p) [e,.Name y p2] [] pos) (Z0e T we) where
 mono:=fun τ P Q f h=>he.mono τ _ _ (fun r ⟨t,h1,h2⟩=>⟨t,h1,f _ h2⟩) h
 pe:=by
  have hc:Q3j X (.builtin "isinstance") (fun xs H Q=>∃v t,xs=[v,.ty T]/\(W5 X.K H v (.type t)\/(t="list"/\∃a ys,v=.ref a/\E3 X.K H a ys))/\t∈["NoneType","bool","int","str","tuple","list"]/\Q (.bl (Q6k T t)) H):=by
   intro ae s σ H xs us Q I rv ⟨v,t,e,ty,ht,q⟩
   subst e
   obtain⟨u,w',rfl,r1,r2⟩:=Z5l rv
   cases (show w'=Value.type T from r2)
   rcases ty with ty | ⟨rfl,a,ys,rfl,sq⟩
   ·exact W0k I r1 ty (hk _ t ht) fun tk=>⟨.bl _,H,I.tok tk,rfl,q⟩
   ·cases (show u=Value.ref a from r1)
    obtain⟨aT,_,⟨o,n,h1,h2,_⟩,_⟩:=I.list sq
    exact bK PySem.W.kitx_list I.kIn ⟨o,h1,h2⟩ (hk _ _ ht) (fun z=>nomatch z) fun tk=>⟨.bl _,H,I.tok tk,rfl,q⟩
  refine peW (Y1t hc hg hm hv (Q0d he.pe (Q0d (W4j (v:=.ty T) lC jt iT rfl hn hd) Q2s iU) mH) (by decide) (by decide) mH hpl) fun σ H Q ⟨τ,hR,h⟩=>⟨τ,hR,he.mono τ _ _ (fun r h v H1 s1 ir=>?_) h⟩
  obtain⟨t,h1,h2⟩:=h
  refine⟨v,t,rfl,V0n h1 ir,?_,h2 _ _ s1 Y0i⟩
  unfold Q7d at h1
  split at h1 <;> first | (cases h1;simp) | cases h1
end
noncomputable abbrev WG:=D->A9->(A9->Prop)->Prop
noncomputable def W1m (K:Fg9) (H0:Hp) (g:WG):TG:=fun v σ H Q=>∃ τ d,C4 K H0 τ σ H/\A2 K H d v/\g d τ fun τ'=>∀ σ' H',A6 H H'->C4 K H0 τ' σ' H'->Q σ' H'
structure DG (X:Cx) (H0:Hp) (tg:Expr) (g:WG):Prop where
 mono:∀d τ (P Q:A9->Prop),(∀ τ,P τ->Q τ)->g d τ P->g d τ Q
 pg:PG X tg (W1m X.K H0 g)
noncomputable abbrev WGs:=List D->A9->(A9->Prop)->Prop
noncomputable def W1n (K:Fg9) (H0:Hp) (g:WGs):TGs:=fun vs σ H Q=>∃ τ ds,C4 K H0 τ σ H/\AllS K H ds vs/\g ds τ fun τ'=>∀ σ' H',A6 H H'->C4 K H0 τ' σ' H'->Q σ' H'
structure G7 (X:Cx) (H0:Hp) (tg:List Expr) (g:WGs):Prop where
 mono:∀d τ (P Q:A9->Prop),(∀ τ,P τ->Q τ)->g d τ P->g d τ Q
 pg:PGs X tg (W1n X.K H0 g)
theorem pgW {X:Cx}{e:Expr}{t t':TG} (h:PG X e t) (f:∀v σ H Q,t' v σ H Q->t v σ H Q):PG X e t':=fun ae s σ H v u Q I r q=>h ae s σ H v u Q I r (f v σ H Q q)
theorem pgsW {X:Cx}{e:List Expr}{t t':TGs} (h:PGs X e t) (f:∀v σ H Q,t' v σ H Q->t v σ H Q):PGs X e t':=fun ae s σ H v u Q I r q=>h ae s σ H v u Q I r (f v σ H Q q)
section
variable {X:Cx}{H0:Hp}{a b c e iter tg:Expr}{pos:Pos}{wa wb we:WE}{es:List Expr}
def B1 (i:Nat):WG:=fun d τ Q=>Q (τ.set i (some (.dat d)))
theorem DG.nm {i:Nat}{x:Str} (hN:X.N.Nodup) (hi:X.N[i]?=some x) (hx:Loc X.env.scope x) (hf:X.fn x=true\/X.env.scope.names.lookup x=some .local:=by first | exact .inl rfl | exact .inr rfl | assumption):DG X H0 (.Name x pos) (B1 i) where
 mono:=fun d τ P Q f h=>f _ h
 pg:=pgW (W5d hN hi hx hf) fun v σ H Q ⟨τ,d,hR,iv,h⟩=>h _ _ (A6.refl H) (hR.set iv fun m=>by cases m)
def O7:WGs:=fun ds τ Q=>ds=[]/\Q τ
def F4 (g:WG) (gs:WGs):WGs:=fun ds τ Q=>∃d r,ds=d::r/\g d τ fun τ'=>gs r τ' Q
theorem G7.nil:G7 X H0 [] O7 where
 mono:=fun d τ P Q f h=>⟨h.1,f _ h.2⟩
 pg:=pgsW W5h fun vs σ H Q ⟨τ,ds,hR,al,h1,h2⟩=>by
  subst h1
  unfold AllS at al
  exact⟨al,h2 σ H (A6.refl H) hR⟩
theorem G7.cons {g:WG}{gs:WGs} (h1:DG X H0 e g) (h2:G7 X H0 es gs) (hs:(assignEach (e::es) X.env).map (·.2)=assign e X.env::(assignEach es X.env).map (·.2):=by rfl):G7 X H0 (e::es) (F4 g gs) where
 mono:=fun d τ P Q f ⟨x,r,e1,h⟩=>⟨x,r,e1,h1.mono x τ _ _ (fun τ' h=>h2.mono r τ' P Q f h) h⟩
 pg:=pgsW (W5g h1.pg h2.pg hs) fun vs σ H Q ⟨τ,ds,hR,al,d,r,e1,h⟩=>by
  subst e1
  unfold AllS at al
  obtain⟨v,t,rfl,iv,al⟩:=al
  exact⟨v,t,rfl,τ,d,hR,iv,h1.mono d τ _ _ (fun τ' h σ' H' sm cS=>⟨τ',r,cS,al.mono (Kp.of sm) _ _,h2.mono r τ' _ _ (fun τ2 h σ2 H2 s2 dD=>h σ2 H2 (sm.trans s2) dD) h⟩) h⟩
def N4 (n:Nat) (gs:WGs):WG:=fun d τ Q=>∃ds,d=.tup ds/\ds.length=n/\gs ds τ Q
theorem DG.tp {k n:Nat}{gs:WGs} (hc:X.calm=true) (h:G7 X H0 es gs) (hn:(assignEach es X.env).length=n:=by rfl) (ic:(assignEach es X.env).findIdx? (·.1)=none:=by rfl):DG X H0 (.Tuple es k pos) (N4 n gs) where
 mono:=fun d τ P Q f ⟨ds,e1,e2,q⟩=>⟨ds,e1,e2,h.mono ds τ P Q f q⟩
 pg:=pgW (W5f hc h.pg hn ic) fun v σ H Q ⟨τ,d,hR,iv,ds,e1,e2,q⟩=>by
  subst e1
  unfold A2 at iv
  obtain⟨p,xs,rfl,sq,al⟩:=iv
  exact⟨p,xs,rfl,D8.of sq,by rw [<- al.length];exact e2,τ,ds,hR,al,q⟩
theorem DS.asg {g:WG} (he:DE X H0 e we) (hg:DG X H0 tg g) (hs:swapsWithSole [tg] e pos.line X.env=pure false:=by rfl) (hw:swappedStores [tg] e X.env=pure none:=by rfl)
  (h1:(assignEach [tg] X.env).map (·.2)=[assign tg X.env]:=by rfl):DS X H0 (.Assign [tg] e pos) (fun E τ=>we τ fun r=>∃d,r=.st d/\g d τ E.nx) where
 mono:=fun τ E F le h=>he.mono τ _ _ (fun r ⟨d,e1,h⟩=>⟨d,e1,hg.mono d τ _ _ le.nx h⟩) h
 ps:=psW (Z4c he.pe hg.pg hs hw h1) fun D σ H ⟨τ,hR,h⟩=>⟨τ,hR,he.mono τ _ _ (fun r ⟨d,e1,h⟩ v H1 s1 ir=>by
  subst e1
  exact⟨τ,d,hR.mono s1,ir,hg.mono d τ _ _ (fun τ' h σ' H' s2 cS=>h σ' H' (Kp.of (s1.trans s2)) cS) h⟩) h⟩
structure Yl (K:Fg9) (H0:Hp) (J:It) (ds:List D) (H:Hp):Prop where
 go:∀H',Kp H H'->A6 H0 H'->∀i,i<ds.length->J.go i H'
 yld:∀H',Kp H H'->A6 H0 H'->∀i x cV d,ds[i]?=some d->J.yld i H' x cV->A6 H' cV/\A2 K cV d x
 stop:∀H',Kp H H'->A6 H0 H'->J.stop ds.length H'
noncomputable abbrev WI:=A9->(List D->A9->Prop)->Prop
noncomputable def W1o (K:Fg9) (H0:Hp) (wi:WI):TI:=fun σ H R=>∃ τ,C4 K H0 τ σ H/\wi τ fun ds τ'=>∀J H',Kp H H'->C4 K H0 τ' σ H'->Yl K H0 J ds H'->R J H'
structure DI (X:Cx) (H0:Hp) (tg iter:Expr) (wi:WI):Prop where
 mono:∀ τ (P Q:List D->A9->Prop),(∀ds τ,P ds τ->Q ds τ)->wi τ P->wi τ Q
 pi:PI X tg iter (W1o X.K H0 wi)
theorem piW {X:Cx}{tg e:Expr}{t t':TI} (h:PI X tg e t) (f:∀ σ H Q,t' σ H Q->t σ H Q):PI X tg e t':=fun ae s σ H R I q=>h ae s σ H R I (f σ H R q)
theorem Y5r {K:Fg9}{H0 H:Hp}{a:Addr}{xs:List V}{ds:List D} (hq:∀H',Kp H H'->A6 H0 H'->E3 K H' a xs) (al:AllS K H ds xs):Yl K H0 (Itl K a) ds H where
 go:=fun H' k s i hi=>⟨xs,xs[i]'(by rw [<- al.length];exact hi),hq H' k s,ab _⟩
 yld:=fun H' k s i x cV d hd ⟨e,y⟩=>by
  subst e
  have hx:=y xs (hq _ k s)
  obtain⟨v,hv,q⟩:=(al.mono k _ _).get hd
  rw [hx]at hv;cases hv
  exact⟨A6.refl _,q⟩
 stop:=fun H' k s=>⟨xs,hq H' k s,by rw [al.length];exact ao _⟩
theorem DI.lst (he:DE X H0 e we):DI X H0 tg e (fun τ Q=>we τ fun r=>∃ds,r=.st (.lst ds)/\Q ds τ) where
 mono:=fun τ P Q f h=>he.mono τ _ _ (fun r ⟨ds,e1,q⟩=>⟨ds,e1,f _ _ q⟩) h
 pi:=piW (Z4b he.pe) fun σ H R ⟨τ,hR,h⟩=>⟨τ,hR,he.mono τ _ _ (fun r ⟨ds,e1,q⟩ v H1 s1 ir=>by
  subst e1
  have ir:A2 X.K H1 (.lst ds) v:=ir
  unfold A2 at ir
  obtain⟨a,xs,rfl,sq,al⟩:=ir
  exact⟨a,rfl,⟨xs,sq.sq⟩,q _ _ (Kp.of s1) (hR.mono s1) (Y5r (fun H' k _=>(k.fzL sq).sq) al)⟩) h⟩
theorem C4.freeze {K:Fg9}{H:Hp} {τ:A9} {σ:St}{i:Nat}{ds:List D}{a:Addr}{o:Obj}{xs:List V} (hR:C4 K H0 τ σ H) (e1:τ[i]?=some (some (.own ds))) (hv:σ[i]?=some (some (.ref a))) (h0:H0 a=none) (sq:H a=some (.lst xs)) (al:AllS K H ds xs) :
  C4 K H0 (τ.set i (some (.dat (.lst ds)))) σ (upd H a (.frz o (.lst xs))):=by
 have kp:Kp H (upd H a (.frz o (.lst xs))):=Kp.upd sq _
 have hl:i<τ.length:=by
  rcases aW i τ.length with h | h
  ·exact h
  ·rw [aw.mpr h]at e1;cases e1
 refine⟨by rw [bW];exact hR.len,fun b ob hb=>?_,fun j s e=>?_,fun j k s t v cy e2 e3 m1 m2 q1 q2=>?_⟩
 ·rw [B6 (Y6 hb h0)];exact hR.same b ob hb
 ·by_cases hj:j=i
  ·subst hj
   rw [Q0l hl]at e;cases e
   exact⟨_,hv,A2.s_lst (K:=K) (.inl ⟨o,upd_same⟩) (al.mono kp _ _)⟩
  ·rw [aP (fun z=>hj z.symm)]at e
   obtain⟨v,q,r⟩:=hR.here j s e
   refine⟨v,q,?_⟩
   have ap:s.mut=true->v≠.ref a:=fun m z=>by
    subst z
    exact hR.apart i j _ s (.ref a) (fun z=>hj z.symm) e1 e rfl m hv q
   cases s with
   | dat d=>exact A2.mono kp _ _ r
   | own es=>obtain⟨b,ys,e,n,q,t⟩:=r;exact⟨b,ys,e,n,by rw [B6 (fun z=>ap rfl (by rw [e,z]))];exact q,t.mono kp _ _⟩
   | bor es=>obtain⟨b,ys,e,q,t⟩:=r;exact⟨b,ys,e,q,t.mono kp _ _⟩
   | bd es=>obtain⟨b,ys,e,q,t⟩:=r;exact⟨b,ys,e,q,t.mono kp _ _⟩
   | dk es=>obtain⟨b,ys,e,n,q,t⟩:=r;exact⟨b,ys,e,n,by rw [B6 (fun z=>ap rfl (by rw [e,z]))];exact q,t.mono kp _ _⟩
   | dt es=>obtain⟨b,ys,e,n,q,t⟩:=r;exact⟨b,ys,e,n,by rw [B6 (fun z=>ap rfl (by rw [e,z]))];exact q,t.mono kp _ _⟩
   | ob _=>exact r
   | cl _ _=>exact⟨r.1,r.2.2 _ _ kp r.2.1,r.2.2⟩
   | ll _ _=>exact⟨r.1,r.2.keep kp fun b φ q=>by rw [B6 (Q0s q sq (by intro z;cases z))];exact q⟩
   | ins _ _ _=>obtain⟨e,n,dx,ys,q,t⟩:=r;exact⟨e,n,dx,ys,by rw [B6 (fun z=>ap rfl (by rw [e,z]))];exact q,t.mono kp _ _⟩
 ·by_cases hj:j=i
  ·subst hj;rw [Q0l hl]at e2;cases e2;cases m1
  ·by_cases hk:k=i
   ·subst hk;rw [Q0l hl]at e3;cases e3;cases m2
   ·rw [aP (fun z=>hj z.symm)]at e2
    rw [aP (fun z=>hk z.symm)]at e3
    exact hR.apart j k s t v cy e2 e3 m1 m2 q1 q2
theorem DI.own {i:Nat} (he:PE X e (T4 i)):DI X H0 tg e (fun τ Q=>∃ds,τ[i]?=some (some (.own ds))/\Q ds (τ.set i (some (.dat (.lst ds))))) where
 mono:=fun τ P Q f ⟨ds,e1,q⟩=>⟨ds,e1,f _ _ q⟩
 pi:=by
  intro ae s σ H R I ⟨τ,hR,ds,e1,q⟩
  obtain⟨v,hv,a,xs,rfl,h0,sq,al⟩:=hR.here i _ e1
  refine B4 (Z4b (tg:=tg) he ae s σ H (fun J H'=>J=Itl X.K a/\H'=H) I ⟨_,hv,a,rfl,⟨xs,E3.of sq⟩,rfl,rfl⟩) fun u s1 h1=>B4 h1 fun iQ s2 bx=>?_
  obtain⟨it,fp,tn,J,H',e,I2,T,st,fo,hJ,hH⟩:=bx
  subst hJ hH
  obtain⟨o,I3⟩:=A0.freeze I2 sq
  have kp:Kp H' (upd H' a (.frz o (.lst xs))):=Kp.upd sq _
  refine⟨it,fp,tn,_,_,e,I3,T,st,fun b hb=>?_,q _ _ kp (hR.freeze e1 hv h0 sq al) (Y5r (xs:=xs) (fun H2 k _=>.inl (.inr ⟨o,k.frz _ _ _ upd_same⟩)) (al.mono kp _ _))⟩
  obtain⟨f0,fr⟩:=fo b hb
  exact⟨by rw [B6 (fun z=>by rw [z,sq]at f0;cases f0)];exact f0,fr⟩
theorem DI.tup (he:DE X H0 e we):DI X H0 tg e (fun τ Q=>we τ fun r=>∃ds,r=.st (.tup ds)/\Q ds τ) where
 mono:=fun τ P Q f h=>he.mono τ _ _ (fun r ⟨ds,e1,q⟩=>⟨ds,e1,f _ _ q⟩) h
 pi:=piW (Y1w he.pe) fun σ H R ⟨τ,hR,h⟩=>⟨τ,hR,he.mono τ _ _ (fun r ⟨ds,e1,q⟩ v H1 s1 ir=>by
  subst e1
  have ir:A2 X.K H1 (.tup ds) v:=ir
  unfold A2 at ir
  obtain⟨a,xs,rfl,sq,al⟩:=ir
  refine⟨a,rfl,⟨xs,D8.of sq⟩,q _ _ (Kp.of s1) (hR.mono s1) ⟨fun H' k _ i hi=>⟨xs,xs[i]'(by rw [<- al.length];exact hi),D8.of (k.tup _ _ sq),ab _⟩,fun H' k _ i x cV d hd ⟨e,y⟩=>?_,fun H' k _=>⟨xs,D8.of (k.tup _ _ sq),by rw [al.length];exact ao _⟩⟩⟩
  subst e
  have hx:=y xs (D8.of (k.tup _ _ sq))
  obtain⟨v,hv,q⟩:=(al.mono k _ _).get hd
  rw [hx]at hv;cases hv
  exact⟨A6.refl _,q⟩) h⟩
noncomputable def N8 (lo:Int) (n:Nat):List D:=(List.range n).map fun(i:Nat)=>.int (lo+(i:Int))
theorem Z0o {K:Fg9}{H0 H:Hp}{lo:Int}{n:Nat}:Yl K H0 (Itr lo n) (N8 lo n) H where
 go:=fun H' _ _ i hi=>by
  have:i<n:=by simpa [N8]using hi
  exact this
 yld:=fun H' _ _ i x cV d hd ⟨e,y⟩=>by
  subst e
  refine⟨A6.refl _,?_⟩
  unfold N8 at hd
  rw [ak]at hd
  rcases aW i n with hi | hi
  ·rw [c6 hi]at hd
   have e:D.int (lo+i)=d:=aA hd
   subst e y
   exact A2.s_int
  ·rw [aw.mpr (by simpa using hi)]at hd;cases hd
 stop:=fun H' _ _=>by
  show n<=(N8 lo n).length
  simp [N8]
variable {wr:WA}
theorem DI.rng1 {p:Pos} (hg:Gl X "range") (hm:X.mg "range"=none) (ha:DA X H0 [a] wr) (hs:starEach [a] X.env=[(false,eval a X.env)]:=by rfl) :
  DI X H0 tg (.Call (.Name "range" p) [a] [] pos) (fun τ Q=>wr τ fun rs=>∃j:Int,rs=[.st (.int j)]/\-(2 ^ 62)<=j/\j<2 ^ 62/\Q (N8 0 j.toNat) τ) where
 mono:=fun τ P Q f h=>ha.mono τ _ _ (fun r ⟨j,e1,h1,h2,q⟩=>⟨j,e1,h1,h2,f _ _ q⟩) h
 pi:=piW (Y1v hg hm ha.pa hs) fun σ H R ⟨τ,hR,h⟩=>⟨τ,hR,ha.mono τ _ _ (fun r ⟨j,e1,h1,h2,q⟩ vs H1 s1 cu=>by
  subst e1
  obtain⟨v,rfl,ir⟩:=W7 cu
  cases (show v=.int j from ir)
  exact⟨j,rfl,h1,h2,q _ _ (Kp.of s1) (hR.mono s1) Z0o⟩) h⟩
theorem Z7u {K:Fg9}{H0 H:Hp}{r r':R}{vs:List V} (h:M9 K H0 H [r,r'] vs):∃v u,vs=[v,u]/\F7 K H0 H r v/\F7 K H0 H r' u:=by
 obtain⟨v,t,rfl,q,z⟩:=h
 obtain⟨u,rfl,q'⟩:=W7 z
 exact⟨v,u,rfl,q,q'⟩
noncomputable def D6 (g:WG) (wb:WS) (E:F6):List D->A9->Prop
 | [],τ=>E.nx τ
 | d::ds,τ=>g d τ fun τ'=>wb { E with nx:=D6 g wb E ds,ct:=D6 g wb E ds,bk:=E.nx } τ'
theorem Z2i {g:WG}{wb:WS} (hg:∀d τ (P Q:A9->Prop),(∀ τ,P τ->Q τ)->g d τ P->g d τ Q) (hb:∀(τ:A9) (E F:F6),E.Le F->wb E τ->wb F τ) {E F:F6} (le:E.Le F):∀(ds:List D) (τ:A9),D6 g wb E ds τ->D6 g wb F ds τ
 | [],τ,h=>le.nx τ h
 | d::ds,τ,h=>hg d τ _ _ (fun τ' h=>hb τ' { E with nx:=D6 g wb E ds,ct:=D6 g wb E ds,bk:=E.nx } { F with nx:=D6 g wb F ds,ct:=D6 g wb F ds,bk:=F.nx } ⟨fun τ h=>Z2i hg hb le ds τ h,le.rt,le.nx,fun τ h=>Z2i hg hb le ds τ h⟩ h) h
theorem DS.for {body:List Stmt}{wi:WI}{g:WG}{wb:WS} (hp:PassesOwn (model X.prog X.w) X.A X.env X.xe) (hc:X.calm=true) (hi:DI X H0 tg iter wi) (hg:DG X H0 tg g) (hb:A4 X H0 body wb)
  (hs:∀x,foldedSetIterable iter X.env x=pure x:=by intro _;rfl):DS X H0 (.For tg iter body [] pos) (fun E τ=>wi τ fun ds τ'=>D6 g wb E ds τ') where
 mono:=fun τ E F le h=>hi.mono τ _ _ (fun ds τ' h=>Z2i hg.mono hb.mono le ds τ' h) h
 ps:=psW (W5s hp hc hi.pi hg.pg hb.ps hs) fun D σ H ⟨τ,hR,h⟩=>⟨τ,hR,hi.mono τ _ _ (fun ds τ' h J H1 k1 dF yl=>by
  refine⟨fun i m σ H2=>∃ τ,C4 X.K H0 τ σ H2/\Kp H1 H2/\i<=ds.length/\m=ds.length-i/\D6 g wb (Q0 X.K H0 H D) (ds.drop i) τ,⟨ds.length,τ',dF,Kp.refl _,bi _,rfl,h⟩,?_⟩
  rintro i m σ2 H2 ⟨τ2,dD,k2,kh,rfl,h2⟩
  by_cases bZ:i<ds.length
  ·refine .inr ⟨yl.go H2 k2 dD.same i bZ,fun σ' H'=>∃ τ,C4 X.K H0 τ σ' H'/\Kp H1 H'/\i+1<=ds.length/\D6 g wb (Q0 X.K H0 H D) (ds.drop (i+1)) τ,fun σ' H' ⟨τ3,a3,b3,c3,d3⟩=>⟨ds.length-(i+1),by omega,τ3,a3,b3,c3,rfl,d3⟩,fun x H3 y=>?_⟩
   obtain⟨s3,ix⟩:=yl.yld H2 k2 dD.same i x H3 _ (ab bZ) y
   rw [eJ bZ]at h2
   have k3:=k2.trans (Kp.of s3)
   refine⟨τ2,ds[i],dD.mono s3,ix,hg.mono _ _ _ _ (fun τ4 h4 σ4 H4 s4 lU=>⟨τ4,lU,?_⟩) h2⟩
   have k4:=k3.trans (Kp.of s4)
   have k5:=k1.trans k4
   exact hb.mono τ4 { Q0 X.K H0 H D with nx:=D6 g wb (Q0 X.K H0 H D) (ds.drop (i+1)),ct:=D6 g wb (Q0 X.K H0 H D) (ds.drop (i+1)),bk:=(Q0 X.K H0 H D).nx } _
    ⟨fun τ5 h5 σ5 H5 kk h9=>⟨τ5,h9,k4.trans kk,bZ,h5⟩,fun _ h=>h,fun τ5 h5 σ5 H5 kk h9=>h5 σ5 H5 (k5.trans kk) h9,fun τ5 h5 σ5 H5 kk h9=>⟨τ5,h9,k4.trans kk,bZ,h5⟩⟩ h4
  ·have e:i=ds.length:=by omega
   subst e
   rw [List.drop_length]at h2
   exact .inl ⟨yl.stop H2 k2 dD.same,h2 σ2 H2 (k1.trans k2) dD⟩) h⟩
end
noncomputable def U8 (env:Env):List (Str×NameKind)->List (Str×Addr)->List (Str×Addr)
 | [],bU=>bU
 | (n,k)::r,bU=>U8 env r (if (k==NameKind.free)=true then(n,(env.cells.lookup n).getD 0)::bU else bU)
theorem Z1u {scope:Scope}{env:Env} (h:∀y∈scope.names,y.2=.free->∃c,env.cells.lookup y.1=some c):closureFor scope env=pure (U8 env scope.names []):=by
 have key:∀(l:List (Str×NameKind)) (bU:List (Str×Addr)),(∀y∈l,y.2=.free->∃c,env.cells.lookup y.1=some c) ->
   (forIn l bU fun x r=>(if (x.2==NameKind.free)=true then cellOf env x.1>>=fun c=>pure (ForInStep.yield ((x.1,c)::r))else pure (ForInStep.yield r):Sem (ForInStep (List (Str×Addr)))))=pure (U8 env l bU):=by
  intro l
  induction l with
  | nil=>intro bU _;rfl
  | cons x r ih =>
   intro bU hl
   obtain⟨n,k⟩:=x
   have hr:∀y∈r,y.2=.free->∃c,env.cells.lookup y.1=some c:=fun y hy=>hl y (ai _ hy)
   rw [cL]
   by_cases hk:(k==NameKind.free)=true
   ·obtain⟨c,hc⟩:=hl (n,k) am (eq_of_beq hk)
    have hc:env.cells.lookup n=some c:=hc
    have e:cellOf env n=pure c:=by unfold cellOf;rw [hc]
    show((if (k==NameKind.free)=true then cellOf env n>>=fun c=>pure (ForInStep.yield ((n,c)::bU))else pure (ForInStep.yield bU))>>=_)=_
    rw [aC hk,e]
    show _=pure (U8 env r (if (k==NameKind.free)=true then(n,(env.cells.lookup n).getD 0)::bU else bU))
    rw [aC hk,hc]
    exact ih _ hr
   ·show((if (k==NameKind.free)=true then cellOf env n>>=fun c=>pure (ForInStep.yield ((n,c)::bU))else pure (ForInStep.yield bU))>>=_)=_
    rw [ax hk]
    show _=pure (U8 env r (if (k==NameKind.free)=true then(n,(env.cells.lookup n).getD 0)::bU else bU))
    rw [ax hk]
    exact ih _ hr
 simp only [closureFor]
 rw [key scope.names [] h]
 rfl
theorem Z8m {env:Env}:∀(l:List (Str×NameKind)) (bU:List (Str×Addr)) (p:Str×Addr),p∈U8 env l bU->p∈bU\/((p.1,NameKind.free)∈l/\p.2=(env.cells.lookup p.1).getD 0)
 | [],bU,p,h=>.inl h
 | (n,k)::r,bU,p,h=>by
  rcases Z8m r _ p h with q | ⟨q1,q2⟩
  ·by_cases hk:(k==NameKind.free)=true
   ·rw [aC hk]at q
    rcases av.mp q with q | q
    ·refine .inr ⟨?_,by rw [q]⟩
     have:k=NameKind.free:=eq_of_beq hk
     rw [q,this];exact am
    ·exact .inl q
   ·rw [ax hk]at q;exact .inl q
  ·exact .inr ⟨ai _ q1,q2⟩
theorem Z8l {env:Env}:∀(l:List (Str×NameKind)) (bU:List (Str×Addr)) (n:Str),((n,NameKind.free)∈l\/∃c,(n,c)∈bU)->∃c,(n,c)∈U8 env l bU
 | [],bU,n,h=>by
  rcases h with h | h
  ·cases h
  ·exact h
 | (m,k)::r,bU,n,h=>by
  refine Z8l r _ n ?_
  rcases h with h | ⟨c,h⟩
  ·rcases av.mp h with e | h
   ·cases e
    refine .inr ⟨(env.cells.lookup m).getD 0,?_⟩
    rw [aC (by rfl)]
    exact am
   ·exact .inl h
  ·refine .inr ⟨c,?_⟩
   split
   ·exact ai _ h
   ·exact h
theorem Q8u {α:Type}:∀{l:List (Str×α)}{x:Str}{c:α},l.lookup x=some c->(x,c)∈l
 | [],_,_,h=>by simp at h
 | (n,d)::r,x,c,h=>by
  rw [List.lookup_cons]at h
  cases e:x==n with
  | true=>rw [e]at h;cases h;rw [eq_of_beq e];exact am
  | false=>rw [e]at h;exact ai _ (Q8u h)
theorem Y0x {α:Type}:∀{l:List (Str×α)}{x:Str}{c:α},(x,c)∈l->∃d,l.lookup x=some d
 | [],_,_,h=>by cases h
 | (n,d)::r,x,c,h=>by
  rw [List.lookup_cons]
  cases e:x==n with
  | true=>exact⟨d,rfl⟩
  | false =>
   rcases av.mp h with q | q
   ·cases q;simp at e
   ·exact Y0x q
noncomputable def C9 (X:Cx) (scope:Scope) (C:Addr) (s:Shared) (H:Hp) (fp:List Addr) (N:List Str):Cx :=
 { X with N:=N,s₀:=s,H₀:=H,env:=compEnvC scope (U8 X.env scope.names []) C X.env,outer:=X.stack,ex:=fp,fn:=fun _=>false,pn:=[],xe:=fun _ _=>False }
structure Blk (X:Cx) (scope:Scope) (N:List Str) (nt:Nat) (cap:List Nat):Prop where
 kind:scope.kind=.function
 cell:∀y∈scope.names,y.2≠.cell
 names:∀y∈scope.names,y.2=.local->scope.names.lookup y.1=some .local
 only:∀y∈scope.names,y.2=.free->scope.names.lookup y.1=some .free
 free:∀y∈scope.names,y.2=.free->X.env.kindOf y.1=some .cell\/X.env.kindOf y.1=some .free
 len:N.length=nt+cap.length
 caps:∀(j i:Nat) (x:Str),cap[j]?=some i->N[nt+j]?=some x->X.N[i]?=some x/\(x,NameKind.free)∈scope.names
section
variable {X:Cx}{scope:Scope}{N:List Str}{nt:Nat}{cap:List Nat}{ae:Pn9} {σ:St}{H:Hp}{s:Shared}
theorem Z7 (I:A0 X ae σ H s) (B:Blk X scope N nt cap) {x:Str}{c:Addr} (h:(U8 X.env scope.names []).lookup x=some c):X.env.cells.lookup x=some c:=by
 rcases Z8m _ _ _ (Q8u h)with q | ⟨q1,q2⟩
 ·cases q
 ·obtain⟨d,hd⟩:=I.ok.has x (B.free _ q1 rfl)
  have q2:c=(X.env.cells.lookup x).getD 0:=q2
  rw [hd]at q2 ⊢
  rw [q2];rfl
theorem Z1t (I:A0 X ae σ H s) (B:Blk X scope N nt cap) {x:Str} (h:(x,NameKind.free)∈scope.names):∃c,(U8 X.env scope.names []).lookup x=some c:=by
 obtain⟨c,hc⟩:=Z8l (env:=X.env) scope.names [] x (.inl h)
 exact Y0x hc
theorem Y2h {env:Env}{x:Str}{k:NameKind} (h:(relabel scope env).names.lookup x=some k) (hk:k=.cell\/k=.free) (nc:∀y∈scope.names,y.2≠.cell):(x,NameKind.free)∈scope.names:=by
 have m:=Q8u h
 unfold relabel at m
 obtain⟨⟨n,k'⟩,hm,e⟩:=ah.mp m
 dsimp only at e
 split at e
 ·rename_i hc
  cases e
  simp only [dj]at hc
  have:k'=NameKind.free:=eq_of_beq hc.1.1
  rw [<- this];exact hm
 ·cases e
  rcases hk with rfl | rfl
  ·exact absurd rfl (nc _ hm)
  ·exact hm
theorem Y6v (I:A0 X ae σ H s) (B:Blk X scope N nt cap) {C:Addr}{fp:List Addr} (hC:s.heap.objs.size<=C) (hf:∀b∈fp,O4 X ae H b) (fB:∀b∈fp,b<s.heap.objs.size):(C9 X scope C s H fp N).Ok where
 mod:=I.ok.mod
 kind:=B.kind
 glob:=I.ok.glob
 blt:=I.ok.blt
 above:=hC
 inj:=fun x y c h1 h2=>I.ok.inj x y c (Z7 I B h1) (Z7 I B h2)
 has:=fun x h=>by
  rcases h with h | h
  ·exact Z1t I B (Y2h h (.inl rfl) B.cell)
  ·exact Z1t I B (Y2h h (.inr rfl) B.cell)
 cab:=fun x c h=>by cases h
 hd:=I.ok.hd
 frames:=I.ok.frames
 stk:=.inl rfl
 exf:=fun b hb=>⟨aD (az (fB b hb) hC),fun x c h=>(hf b hb).2.2.2.2.1 x c (Z7 I B h)⟩
 bs:=I.bs
 bsz:=aV I.ok.bsz I.sz
 noex:=fun b o e hb=>by
  rcases (hf b hb).2.2.2.1 with z | z
  ·exact I.ok.noex b o e z
  ·exact absurd (az (ay e) (aV I.ok.bsz z)) (aZ _)
 exfs:=fun b hb z=>by
  rcases av.mp (I.stkSub b z)with e | e
  ·exact(hf b hb).2.1 e
  ·exact(hf b hb).2.2.1 e
 funs:=I.stack
 frf:=I.stkFree
theorem Z1k (I:A0 X ae σ H s) (B:Blk X scope N nt cap) {C:Addr}{fp:List Addr} (hf:∀b∈fp,O4 X ae H b) (fB:∀b∈fp,b<s.heap.objs.size) {h':Heap}{t':Nat}{m:Str->Option Value}
  (hC:s.heap.objs.size<=C) (gU:h'.Ns C m) (k:∀b o,s.heap.get? b=some o->h'.get? b=some o) :
  A0 (C9 X scope C s H fp N) [] (List.replicate nt none++cap.map fun i=>(σ[i]?).join) H { s with heap:=h',toks:=t' }:=by
 refine⟨Y6v I B hC hf fB,rfl,I.bare,Un.kept k,⟨m,gU,fun i x v h1 h2 h3=>?_⟩,fun x c h=>?_,I.hok.fresh hC,fun x c h=>I.freeC x c (Z7 I B h),(fun p hp=>by cases hp),I.hok.kept k,?_⟩
 ·have h1:N[i]?=some x:=h1
  by_cases hi:i<nt
  ·rw [aK (by rw [b7];exact hi)]at h2
   have:=aJ h2
   rw [List.mem_replicate]at this
   cases this.2
  ·rw [aU (by rw [b7];omega),b7,ak]at h2
   cases e:cap[i-nt]? with
   | none=>rw [e]at h2;cases h2
   | some j =>
    rw [e]at h2
    have h2:(σ[j]?).join=some v:=aA h2
    have hσ:σ[j]?=some (some v):=by
     cases q:σ[j]? with
     | none=>rw [q]at h2;cases h2
     | some o=>rw [q]at h2;exact congrArg some h2
    obtain⟨hN,hx⟩:=B.caps (i-nt) j x e (by rw [show nt+(i-nt)=i by omega];exact h1)
    obtain⟨m0,qC,hl⟩:=I.loc
    have kd:=B.free _ hx rfl
    obtain⟨u,r,l⟩:=hl j x v hN hσ (.inr kd)
    refine⟨u,r,?_⟩
    obtain⟨c,hc⟩:=Z1t I B hx
    have cR:∃c',X.env.cells.lookup x=some c'/\s.heap.IsCell c' (some u):=by
     rcases l with⟨l1,_⟩ | ⟨_,l2⟩
     ·rcases kd with kd | kd
      ·rw [kd]at l1;cases l1
      ·rw [kd]at l1;cases l1
     ·exact l2
    obtain⟨c',dg,o,ho,hd⟩:=cR
    rw [Z7 I B hc]at dg;cases dg
    have h3:Vis (relabel scope X.env) x:=h3
    refine .inr ⟨?_,c,hc,o,k _ _ ho,hd⟩
    rcases h3 with h3 | h3 | h3
    ·exfalso
     have m1:=Q8u h3
     unfold relabel at m1
     obtain⟨⟨n,k'⟩,hm,e'⟩:=ah.mp m1
     dsimp only at e'
     split at e'
     ·cases e'
     ·cases e'
      have a1:=B.names _ hm rfl
      have a1:scope.names.lookup x=some .local:=a1
      rw [B.only _ hx rfl]at a1;cases a1
    ·exact .inl h3
    ·exact .inr h3
 ·obtain⟨v,o,ho,hd⟩:=I.cell x c (Z7 I B h)
  exact⟨v,o,k _ _ ho,hd⟩
 ·rw [aq,b7,ag];exact B.len.symm
end
section
variable {prog:Program}{w:World}{A:Around}{RR:Result->Shared->Prop}{s:Shared}
theorem Z8v {dA target iter:Expr}{dW:List Expr}{scope:Scope}{pos:Pos}{it bU:Value}{env:Env} (I:Nat->Shared->Prop)
  (turn:∀n s,I n s->wpAny (model prog w) A (pyNext it) (fun r s₁=>match r with
   | none=>RR (.ok .next) s₁
   | some v=>wpAny (model prog w) A (letOwnedTupleGo target it v) (fun _ sa=>wpAny (model prog w) A (assign target env v) (fun _ s₂ =>
     wpAny (model prog w) A (forIn dW true fun c r=>if r=true then do let ok <- isTrue c env (eval c env);pure (ForInStep.yield ok)else pure (ForInStep.yield r)) (fun ok s₃ =>
      if ok=true then wpAny (model prog w) A (eval dA env) (fun x s₄ =>
       wpAny (model prog w) A (call (.builtin "list.append") [bU,x]) (fun _ s₅=>∃m,m<n/\I m s₅) (fun _ _=>False) s₄) (fun _ _=>False) s₃
      else ∃m,m<n/\I m s₃) (fun _ _=>False) s₂) (fun _ _=>False) sa) (fun _ _=>False) s₁) (fun _ _=>False) s)
  (n:Nat) (h:I n s):codeAny (model prog w) A (.compLoop (.ListComp dA [⟨target,iter,dW,0⟩] scope pos) 0 it bU env) RR s:=by
 refine codeAny_loop rfl I (fun n s hI=>?_) n h
 show wpAny _ _ ((compTurn (.ListComp dA [⟨target,iter,dW,0⟩] scope pos) 0 it bU env).onRaise (fun x=>do noteFrame x env;theTreesLotGoes x)) _ _ s
 refine wpAny_noted ?_
 rw [compTurn_list]
 refine aa (ft (aa (aS (turn n s hI) (fun r s₁ h₁=>?_) fun _ _ h'=>h'.elim)))
 cases r with
 | none=>exact aj h₁
 | some v =>
  refine aa (aS h₁ (fun _ sa ha=>?_) fun _ _ h'=>h'.elim)
  refine aa (aS ha (fun _ s₂ h₂=>aa (aS h₂ (fun ok s₃ h₃=>?_) fun _ _ h'=>h'.elim)) fun _ _ h'=>h'.elim)
  cases ok with
  | false=>exact aj ⟨rfl,h₃⟩
  | true =>
   exact aa (aa (aS h₃ (fun x s₄ h₄=>aa (aS h₄ (fun _ s₅ h₅=>aj (aj ⟨rfl,h₅⟩)) fun _ _ h'=>h'.elim)) fun _ _ h'=>h'.elim))
end
structure YlS (K:Fg9) (J:It) (ds:List D) (H:Hp):Prop where
 go:∀H',A6 H H'->∀i,i<ds.length->J.go i H'
 yld:∀H',A6 H H'->∀i x cV d,ds[i]?=some d->J.yld i H' x cV->A6 H' cV/\A2 K cV d x
 stop:∀H',A6 H H'->J.stop ds.length H'
noncomputable abbrev Q8:=A9->(List D->Prop)->Prop
noncomputable def W1p (K:Fg9) (H0:Hp) (wi:Q8):TI:=fun σ H R=>∃ τ,C4 K H0 τ σ H/\wi τ fun ds=>∀J H',A6 H H'->YlS K J ds H'->R J H'
structure F3 (X:Cx) (H0:Hp) (tg iter:Expr) (wi:Q8):Prop where
 mono:∀ τ (P Q:List D->Prop),(∀ds,P ds->Q ds)->wi τ P->wi τ Q
 pi:PI X tg iter (W1p X.K H0 wi)
def IfsR (X:Cx) (dW:List Expr) (t:TT):Prop :=
 ∀(ae:Pn9) (s:Shared) (σ:St) (H:Hp) (Q:Bool->Hp->Prop),A0 X ae σ H s->t σ H Q ->
  wpAny (model X.prog X.w) X.A (forIn dW true fun c r=>if r=true then do let ok <- isTrue c X.env (eval c X.env);pure (ForInStep.yield ok)else pure (ForInStep.yield r)) (TP X ae σ Q) X.xe s
structure L5 (X:Cx) (H0:Hp) (dW:List Expr) (t:WT):Prop where
 mono:∀(τ:A9) (P Q:Bool->Prop),(∀r,P r->Q r)->t τ P->t τ Q
 pt:IfsR X dW (Z3c X.K H0 t)
theorem L5.nil {X:Cx}{H0:Hp}:L5 X H0 [] (fun _ Q=>Q true) where
 mono:=fun τ P Q f h=>f _ h
 pt:=fun ae s σ H Q I ⟨τ,hR,h⟩=>wpAny_tests_nil ⟨H,I,h H (A6.refl H)⟩
theorem L5.one {X:Cx}{H0:Hp}{c:Expr}{t:WT} (hc:DT X H0 c t):L5 X H0 [c] t where
 mono:=hc.mono
 pt:=fun ae s σ H Q I h=>wpAny_tests_one (hc.pt ae s σ H Q I h)
noncomputable def M2 (g:WG) (t:WT) (we:WE):List D->A9->(List D->Prop)->Prop
 | [],_,Q=>Q []
 | d::ds,τ,Q=>g d τ fun τ'=>t τ' fun k=>if k=true then we τ' fun r=>∃e,r=.st e/\M2 g t we ds τ' fun es=>Q (e::es)else M2 g t we ds τ' Q
theorem Z1y {g:WG}{t:WT}{we:WE} (hg:∀d τ (P Q:A9->Prop),(∀ τ,P τ->Q τ)->g d τ P->g d τ Q) (ht:∀(τ:A9) (P Q:Bool->Prop),(∀r,P r->Q r)->t τ P->t τ Q) (he:∀(τ:A9) (P Q:R->Prop),(∀r,P r->Q r)->we τ P->we τ Q) :
  ∀(ds:List D) (τ:A9) (P Q:List D->Prop),(∀es,P es->Q es)->M2 g t we ds τ P->M2 g t we ds τ Q
 | [],_,_,_,f,h=>f _ h
 | d::ds,τ,P,Q,f,h=>hg d τ _ _ (fun τ' h=>ht τ' _ _ (fun k h=>Q0n (fun h=>he τ' _ _ (fun r ⟨e,e1,h⟩=>⟨e,e1,Z1y hg ht he ds τ' _ _ (fun es h=>f _ h) h⟩) h) (fun h=>Z1y hg ht he ds τ' _ _ f h) h) h) h
noncomputable def Z1l:Sl->Option Sl
 | .dat d=>some (.dat d)
 | .own ds=>some (.bor ds)
 | .bor ds=>some (.bor ds)
 | .dt k=>some (.bd k)
 | .bd k=>some (.bd k)
 | .cl a Φ=>some (.cl a Φ)
 | _=>none
noncomputable def Q4 (nt:Nat) (cap:List Nat) (τ:A9):A9:=List.replicate nt none++cap.map fun i=>((τ[i]?).join).bind Z1l
theorem Z4j {K:Fg9}{H0 H:Hp} {τ:A9} {σ:St} (hR:C4 K H0 τ σ H) (nt:Nat) (cap:List Nat):C4 K H (Q4 nt cap τ) (List.replicate nt none++cap.map fun i=>(σ[i]?).join) H:=by
 have at_:∀(i:Nat) (s:Sl),(Q4 nt cap τ)[i]?=some (some s)->nt<=i/\∃j t,cap[i-nt]?=some j/\τ[j]?=some (some t)/\Z1l t=some s:=fun i s e=>by
  unfold Q4 at e
  by_cases hi:i<nt
  ·rw [aK (by rw [b7];exact hi)]at e
   have:=aJ e
   rw [List.mem_replicate]at this
   cases this.2
  ·rw [aU (by rw [b7];omega),b7,ak]at e
   cases q:cap[i-nt]? with
   | none=>rw [q]at e;cases e
   | some j =>
    rw [q]at e
    have e:((τ[j]?).join).bind Z1l=some s:=aA e
    cases q2:τ[j]? with
    | none=>rw [q2]at e;cases e
    | some o =>
     rw [q2]at e
     cases o with
     | none=>cases e
     | some t=>exact⟨by omega,j,t,rfl,q2,e⟩
 refine⟨?_,A6.refl H,fun i s e=>?_,fun i j s t v _ e1 _ m _ _ _=>?_⟩
 ·unfold Q4
  rw [aq,aq,ag,ag,b7,b7]
 ·obtain⟨hi,j,t,hc,ht,hb⟩:=at_ i s e
  obtain⟨v,hv,q⟩:=hR.here j t ht
  refine⟨v,?_,?_⟩
  ·rw [aU (by rw [b7];omega),b7,ak,hc]
   show some ((σ[j]?).join)=_
   rw [hv];rfl
  ·cases t with
   | dat d=>cases hb;exact q
   | own ds=>cases hb;obtain⟨a,xs,e,_,q,al⟩:=q;exact⟨a,xs,e,q,al⟩
   | bor ds=>cases hb;obtain⟨a,xs,e,q,al⟩:=q;exact⟨a,xs,e,hR.same _ _ q,al⟩
   | bd ds=>cases hb;obtain⟨a,xs,e,q,al⟩:=q;exact⟨a,xs,e,hR.same _ _ q,al⟩
   | dk _=>cases hb
   | dt ds=>cases hb;obtain⟨a,xs,e,_,q,al⟩:=q;exact⟨a,xs,e,q,al⟩
   | ob _=>cases hb
   | cl _ _=>cases hb;exact q
   | ll _ _=>cases hb
   | ins _ _ _=>cases hb
 ·obtain⟨hi,j',t',hc,ht,hb⟩:=at_ i s e1
  cases t' with
  | dat d=>cases hb;cases m
  | own ds=>cases hb;cases m
  | bor ds=>cases hb;cases m
  | dk _=>cases hb
  | dt _=>cases hb;cases m
  | bd _=>cases hb;cases m
  | ob _=>cases hb
  | cl _ _=>cases hb;cases m
  | ll _ _=>cases hb
  | ins _ _ _=>cases hb
theorem Y0b {C:Addr}{h h':Heap} (sb:Heap.SameBut C h h'):∀b o,b≠C->h.get? b=some o->h'.get? b=some o:=fun b o hb e=>(sb.2 b hb).trans e
theorem Z8e {X:Cx}{ae:Pn9} {σ:St}{H2 H':Hp}{s2 s1:Shared}{scope:Scope}{C D0:Addr}{fp:List Addr}{N:List Str}{pb:Pn9} {σ':St}{vs:List V}{ys:Array Value}{h':Heap}
  (I2:A0 X ae σ H2 s2) (Ib:A0 (C9 X scope C s2 H2 fp N) pb σ' H' s1) (f2:∀b∈fp,O4 X ae H2 b) (hC:s2.heap.objs.size<=C) (hD:s2.heap.objs.size<=D0) (cU:D0≠C) (m5:H' D0=none)
  (hl:s1.heap.PlainList D0 ys) (rv:B7 vs ys.toList) (hz:vs.length<=sizeLine) (sb:Heap.SameBut C s1.heap h'):A0 X ae σ (upd H' D0 (.lst vs)) { s1 with heap:=h' }:=by
 have ia:∀b o,s2.heap.get? b=some o->b≠C:=fun b o e=>aD (az (ay e) hC)
 have kU:∀b o,s2.heap.get? b=some o->b≠D0:=fun b o e=>aD (az (ay e) hD)
 have keep:=Y0b sb
 have base:Un (frs X.stack) fp H2 H' s2.heap s1.heap:=Ib.base
 have m6:H' C=none:=Ib.free
 have ga:∀b u,H' b=some u->b≠C:=fun b u e z=>by rw [z,m6]at e;cases e
 have neD:∀b u,H' b=some u->b≠D0:=fun b u e z=>by rw [z,m5]at e;cases e
 refine I2.call' (s':={ s1 with heap:=h' }) (ch:=fp) Ib.os ⟨fun b o e n hb hx=>keep b o (ia b o e) (base.keep b o e n hb hx),fun b o e n hb hx=>?_,fun b o e n hx=>?_,fun b o e hx=>?_,fun b xs e=>?_,fun b o u e=>?_,fun b ps e=>?_⟩ (fun b u e=>?_) Ib.bare (fun b hb=>?_)
 ·obtain⟨sl,q⟩:=base.slot b o e n hb hx
  exact⟨sl,keep b _ (ia b o e) q⟩
 ·rw [B6 (kU b o e)];exact base.free b o e n hx
 ·obtain⟨o',q⟩:=base.there b o e hx
  exact⟨o',keep b o' (ia b o e) q⟩
 ·have q:=base.tups b xs e
  rw [B6 (neD b _ q)];exact q
 ·have q:=base.frzs b o u e
  rw [B6 (neD b _ q)];exact q
 ·obtain⟨more,q⟩:=base.tbls b ps e
  exact⟨more,by rw [B6 (neD b _ q)];exact q⟩
 ·by_cases hb:b=D0
  ·subst hb
   rw [upd_same]at e;cases e
   obtain⟨n,ho⟩:=hl
   exact⟨hz,ys.toList,n,rv,keep b _ cU (by rw [ho])⟩
  ·rw [B6 hb]at e
   refine(Ib.hok b u e).stay (fun c v hc q=>keep c v ?_ q) (fun c u _ q=>by rw [B6 (neD c _ q)];exact q) fun c xs q=>by rw [B6 (neD c _ q)];exact q
   rcases hc with z | z
   ·rw [z];exact ga b u e
   ·exact ga c _ z
 ·obtain⟨_,a2,a3,a4,a5,a6⟩:=f2 b hb
  exact⟨a4,a2,a5,a6⟩
section
variable {X:Cx}{H0:Hp}{tg iter dA:Expr}{dW:List Expr}{scope:Scope}{pos:Pos}{N:List Str}{nt:Nat}{cap:List Nat}{wi:Q8}{g:WG}{t:WT}{we:WE}
def M6 (nt:Nat) (cap:List Nat) (wi:Q8) (g:WG) (t:WT) (we:WE):WE:=fun τ Q=>wi τ fun ds=>ds.length<=sizeLine/\M2 g t we ds (Q4 nt cap τ) fun es=>Q (.nw es)
theorem Z8w {use:Option (Value->Sem Unit)}{QQ:VS9}{P:List D->Prop}{fR:Pos}{ae:Pn9}{s:Shared} {σ:St}{H:Hp} {τ:A9} (hc:X.calm=true) (B:Blk X scope N nt cap) (hi:F3 X H0 tg iter wi)
  (hg:∀C s H fp,DG (C9 X scope C s H fp N) H tg g) (ht:∀C s H fp,L5 (C9 X scope C s H fp N) H dW t) (he:∀C s H fp,DE (C9 X scope C s H fp N) H dA we) (hs:∀x,foldedSetIterable iter X.env x=pure x)
  (I:A0 X ae σ H s) (hR:C4 X.K H0 τ σ H) (hw:wi τ fun ds=>ds.length<=sizeLine/\M2 g t we ds (Q4 nt cap τ) P)
  (fin:∀(C D0:Addr) (s2 s4:Shared) (H2 H4:Hp) (fp:List Addr) (pb:Pn9) (σ4:St) (vs:List V) (ys:Array Value) (es:List D) (f:Flow),A0 X ae σ H2 s2->A6 H H2->A0 (C9 X scope C s2 H2 fp N) pb σ4 H4 s4->(∀b∈fp,O4 X ae H2 b) ->
   s2.heap.objs.size<=C->s2.heap.objs.size<=D0->D0≠C->H4 D0=none->s4.heap.PlainList D0 ys->B7 vs ys.toList->vs.length<=sizeLine->A6 H2 H4->AllS X.K H4 es vs->P es->compPost (model X.prog X.w) X.A X.xe use QQ (.ref D0) C (.ok f) s4) :
  wpAny (model X.prog X.w) X.A (comprehension (.ListComp dA [⟨tg,iter,dW,0⟩] scope pos) scope X.env fR (newList []) false (eval iter X.env) use) QQ X.xe s:=by
 refine wpAny_comprehension_free rfl hs (Z1u fun y hy e=>I.ok.has y.1 (B.free y hy e)) B.kind B.names ?_
 refine B4 (hi.pi ae s σ H (fun J H2=>A6 H H2/\∃ds,YlS X.K J ds H2/\ds.length<=sizeLine/\M2 g t we ds (Q4 nt cap τ) P) I
  ⟨τ,hR,hi.mono τ _ _ (fun ds h J H' sm yl=>⟨sm,ds,yl,h.1,h.2⟩) hw⟩) fun v s1 h1=>B4 h1 fun iQ s2 h2=>?_
 obtain⟨it,fp,tn,J,H2,e,I2,T,dI,f2,cG,ds,yl,hz,gR⟩:=h2
 subst e
 have fB:∀b∈fp,b<s2.heap.objs.size:=fun b hb=>by
  obtain⟨o,ho,_⟩:=T.obj _ _ dI b hb
  exact ay ho
 have dD:=hR.mono cG
 refine bF (wpAny_newFunctionEnv B.cell (by intro y hy;simp at hy) (fun h₁ cZ cH=>?_) B.kind)
 dsimp only at cZ cH ⊢
 generalize hH2:s2.heap.push { cls:=.type "list",dict:=none,data:=.seq ([]:List Value).toArray }=Hq at cZ cH ⊢
 have hC:Hq.objs.size=s2.heap.objs.size+1:=by rw [<- hH2,bz]
 have cU:s2.heap.objs.size≠Hq.objs.size:=by rw [hC];exact aD (cC _)
 have cK:s2.heap.objs.size<=Hq.objs.size:=by rw [hC];exact dn _
 have old:∀b o,s2.heap.get? b=some o->h₁.get? b=some o:=fun b o e=>cH.extBut b o (by rw [hC];exact aD (bu (ay e))) (af _ (hH2 ▸ af _ e))
 have de:h₁.PlainList s2.heap.objs.size #[]:=⟨_,cH.extBut _ _ cU (af _ (hH2 ▸ aH _ rfl))⟩
 generalize hCe:Hq.objs.size=C at cZ cH hC cU cK ⊢
 generalize hDe:s2.heap.objs.size=D0 at hC cU cK de ⊢
 have dv:∀b∈fp,b<D0:=fun b hb=>hDe ▸ fB b hb
 have eh:tn 0 h₁:=T.keep _ _ _ dI fun b _ o e=>old b o e
 have jR:=Z1k (C:=C) (h':=h₁) (t':=s2.toks+([]:List (Str×Value)).length) I2 B f2 fB (by rw [hDe];exact cK) cZ old
 have hV:H2 D0=none:=I2.hok.fresh (by rw [hDe];exact ao _)
 have jg:D0∉frs X.stack:=fun z=>by
  rcases av.mp (I2.stkSub _ z)with e | e
  ·have:=I2.lt;rw [<- e,hDe]at this;exact aZ _ this
  ·exact I2.nofs (by rw [hDe];exact ao _) e
 have jh:∀x c,(U8 X.env scope.names []).lookup x=some c->c≠D0:=fun x c h z=>by
  obtain⟨v,q⟩:=I2.cell x c (Z7 I2 B h)
  have:=q.lt
  rw [z,hDe]at this
  exact aZ _ this
 have ee:∀{pb:Pn9} {σ':St}{H':Hp}{s':Shared}{ys:Array Value}{n:Nat},A0 (C9 X scope C s2 H2 fp N) pb σ' H' s'->H' D0=none->s'.heap.get? D0=some { cls:=.type "list",data:=.seq ys n } ->
   A0 (C9 X scope C s2 H2 fp N) [(D0,{ cls:=.type "list",data:=.seq ys n })] σ' H' s':=by
  intro pb σ' H' s' ys n I' n' e
  refine I'.pins_of fun p hp=>?_
  have e':p=(D0,{ cls:=.type "list",data:=.seq ys n }):=by simpa using hp
  subst e'
  exact⟨e,n',cU,jg,fun v z=>by cases z⟩
 have g7:∀{H':Hp}{ob:Obj},(∀b∈fp,H' b=none)->∀b∈fp,O4 (C9 X scope C s2 H2 fp N) [(D0,ob)] H' b:=by
  intro H' ob hn b hb
  refine⟨hn b hb,(aD (az (dv b hb) cK)),fun z=>?_,.inl hb,fun x c h=>(f2 b hb).2.2.2.2.1 x c (Z7 I2 B h),fun p hp=>?_⟩
  ·rcases av.mp (I2.stkSub b z)with e | e
   ·exact(f2 b hb).2.1 e
   ·exact(f2 b hb).2.2.1 e
  ·have e':p=(D0,ob):=by simpa [C9]using hp
   subst e'
   exact(aD (dv b hb)).symm
 let j4:Nat->Shared->Prop:=fun k s'=>∃(i:Nat) (σ':St) (H':Hp) (τ':A9) (ys:Array Value) (nn:Nat) (vs:List V) (es:List D),A0 (C9 X scope C s2 H2 fp N) [(D0,{ cls:=.type "list",data:=.seq ys nn })] σ' H' s'/\C4 X.K H2 τ' σ' H'/\tn i s'.heap /\
  (∀b∈fp,H' b=none)/\H' D0=none/\B7 vs ys.toList/\AllS X.K H' es vs/\i<=ds.length/\k=ds.length-i/\es.length<=i/\M2 g t we (ds.drop i) τ' fun eF=>P (es++eF)
 have loop:∀s₃:Shared,s₃={ s2 with heap:=h₁,toks:=s2.toks+([]:List (Str×Value)).length } ->
   codeAny (model X.prog X.w) X.A (.compLoop (.ListComp dA [⟨tg,iter,dW,0⟩] scope pos) 0 (.ref it) (.ref D0) (compEnvC scope (U8 X.env scope.names []) C X.env))
    (compPost (model X.prog X.w) X.A X.xe use QQ (.ref D0) C) s₃:=by
  rintro s₃ rfl
  obtain⟨nn,ho⟩:=id de
  refine Z8v j4 ?_ ds.length ⟨0,_,H2,Q4 nt cap τ,#[],nn,[],[],ee jR hV ho,Z4j dD nt cap,eh,fun b hb=>(f2 b hb).1,hV,.nil,AllS.nil,bi _,rfl,ao _,by simpa using gR⟩
  rintro k s3 ⟨i,σ3,H3,τ3,ys,nn,vs,es,I3,R3,fL,g6,d3,k7,jQ,mN,rfl,kj,w3⟩
  have c9:A6 H2 H3:=R3.same
  by_cases bZ:i<ds.length
  ·refine aS (T.item (C9 X scope C s2 H2 fp N) rfl rfl rfl hc i _ s3 σ3 H3 (fun _ _=>False) I3 (g7 g6) fL (yl.go H3 c9 i bZ)) (fun r s4 bx=>?_) fun _ _ z=>z
   obtain⟨u,hr,h4⟩:=bx
   subst hr
   refine aS h4 (fun _ s5 bx=>?_) fun _ _ z=>z
   obtain⟨x,H5,I5,r5,y5,eL,iJ⟩:=bx
   obtain⟨gM,ix⟩:=yl.yld H3 c9 i x H5 _ (ab bZ) y5
   rw [eJ bZ]at w3
   have iL:=I5.pinned (g7 iJ) (T.obj _ _ eL)
   have again:∀{σ7:St}{H7:Hp}{s7:Shared} {τ7:A9}{jS:Array Value}{kP:Nat}{vs7:List V}{es7:List D},A0 (C9 X scope C s2 H2 fp N) (X5 fp s5.heap) σ7 H7 s7->C4 X.K H2 τ7 σ7 H7->H7 D0=none->s7.heap.get? D0=some { cls:=.type "list",data:=.seq jS kP } ->
     B7 vs7 jS.toList->AllS X.K H7 es7 vs7->es7.length<=i+1->M2 g t we (ds.drop (i+1)) τ7 (fun eF=>P (es7++eF))->∃m,m<ds.length-i/\j4 m s7:=by
    intro σ7 H7 s7 τ7 jS kP vs7 es7 I7 R7 d7 o7 kI qo lG w7
    have nL:tn (i+1) s7.heap:=T.keep _ _ _ eL fun b hb o e=>(I7.pin (b,o) (aF _ (Q2r hb e))).1
    refine⟨ds.length-(i+1),by omega,i+1,σ7,H7,τ7,jS,kP,vs7,es7,ee I7 d7 o7,R7,nL,fun b hb=>?_,d7,kI,qo,bZ,rfl,lG,w7⟩
    obtain⟨o,e,_⟩:=T.obj _ _ eL b hb
    exact(I7.pin (b,o) (aF _ (Q2r hb e))).2.1
   refine aS ((hg C s2 H2 fp).pg _ s5 σ3 H5 x u (fun σ6 H6=>∃ τ6,C4 X.K H2 τ6 σ6 H6/\A6 H5 H6/\t τ6 fun k=>if k=true then we τ6 fun r=>∃e,r=.st e/\M2 g t we (ds.drop (i+1)) τ6 fun eF=>P (es++(e::eF))
     else M2 g t we (ds.drop (i+1)) τ6 fun eF=>P (es++eF)) iL r5 ⟨τ3,ds[i],R3.mono gM,ix,(hg C s2 H2 fp).mono _ _ _ _ (fun τ6 h6 σ6 H6 fP R6=>⟨τ6,R6,fP,h6⟩) w3⟩) (fun _ s6 ⟨σ6,H6,I6,τ6,R6,fP,w6⟩=>?_) fun _ _ z=>z
   refine aS ((ht C s2 H2 fp).pt _ s6 σ6 H6 (fun k H7=>A6 H6 H7/\if k=true then we τ6 fun r=>∃e,r=.st e/\M2 g t we (ds.drop (i+1)) τ6 fun eF=>P (es++(e::eF))
     else M2 g t we (ds.drop (i+1)) τ6 fun eF=>P (es++eF)) I6 ⟨τ6,R6,(ht C s2 H2 fp).mono τ6 _ _ (fun k h H7 fv=>⟨fv,h⟩) w6⟩) (fun ok s7 ⟨H7,I7,fv,w7⟩=>?_) fun _ _ z=>z
   have pd:∀{σ':St}{H':Hp}{s':Shared},A0 (C9 X scope C s2 H2 fp N) ([(D0,{ cls:=.type "list",data:=.seq ys nn })]++X5 fp s5.heap) σ' H' s'->s'.heap.get? D0=some { cls:=.type "list",data:=.seq ys nn }/\H' D0=none:=fun I' =>
    ⟨(I'.pin (D0,_) (aF _ (bP _ am))).1,(I'.pin (D0,_) (aF _ (bP _ am))).2.1⟩
   have pf:∀{σ':St}{H':Hp}{s':Shared},A0 (C9 X scope C s2 H2 fp N) ([(D0,{ cls:=.type "list",data:=.seq ys nn })]++X5 fp s5.heap) σ' H' s'->A0 (C9 X scope C s2 H2 fp N) (X5 fp s5.heap) σ' H' s':=fun I' =>
    I'.pins_of fun p hp=>I'.pin p (aF _ (aF _ hp))
   have mn:A6 H3 H7:=gM.trans (fP.trans fv)
   cases ok with
   | false =>
    rw [ax aQ]at w7 ⊢
    exact again (pf I7) (R6.mono fv) (pd I7).2 (pd I7).1 k7 (jQ.mono (Kp.of mn) _ _) (by omega) w7
   | true =>
    rw [aC rfl]at w7 ⊢
    refine aS ((he C s2 H2 fp).pe _ s7 σ6 H7 (fun v H8=>A6 H7 H8/\∃e,A2 X.K H8 e v/\M2 g t we (ds.drop (i+1)) τ6 fun eF=>P (es++(e::eF))) I7
     ⟨τ6,R6.mono fv,(he C s2 H2 fp).mono τ6 _ _ (fun r ⟨e,e1,h⟩ v H8 fO ir=>⟨fO,e,by subst e1;exact ir,h⟩) w7⟩) (fun y s8 ⟨v8,H8,I8,jb,fO,e8,l0,w8⟩=>?_) fun _ _ z=>z
    obtain⟨o8,d8⟩:=pd I8
    have iS:ys.size<=sizeLine:=by
     have e1:=k7.length
     have e2:=jQ.length
     have e4:ys.toList.length=ys.size:=by simp
     omega
    refine wpAny_list_append_plain (hsz:=iS) ⟨nn,o8⟩ fun h₅ lx jm=>?_
    have I9:A0 (C9 X scope C s2 H2 fp N) (X5 fp s5.heap) σ6 H8 { s8 with heap:=h₅ }:=by
     refine(pf I8).turned (t':=s8.toks) (it:=D0) (fun b o hb e=>(jm.2 b hb).trans e) d8 cU (.inr (by rw [<- hDe];exact ao _)) jh (fun p hp z=>?_)
     obtain⟨q1,_⟩:=Q9b (by simpa [C9]using hp)
     exact aD (dv _ q1) z
    obtain⟨kO,o9⟩:=lx
    refine again I9 (R6.mono (fv.trans fO)) d8 o9 (vs7:=vs++[v8]) (es7:=es++[e8]) ?_ ((jQ.mono (Kp.of (mn.trans fO)) _ _).append (AllS.cons l0 AllS.nil)) (by rw [aq];simpa using kj) ?_
    ·have:(ys.push y).toList=ys.toList++[y]:=by simp
     rw [this]
     exact k7.append (.cons jb .nil)
    ·simpa using w8
  ·have e:i=ds.length:=by omega
   subst e
   refine aS (T.done (C9 X scope C s2 H2 fp N) rfl rfl rfl hc ds.length _ s3 σ3 H3 (fun _ _=>False) I3 (g7 g6) fL (yl.stop H3 c9)) (fun r s4 bx=>?_) fun _ _ z=>z
   obtain⟨hr,I4⟩:=bx
   subst hr
   have o4:=(I4.pin (D0,_) (aF _ am)).1
   rw [List.drop_length]at w3
   have w3:P (es++[]):=w3
   rw [aX]at w3
   have oI:vs.length<=sizeLine:=by rw [<- jQ.length];omega
   exact fin C D0 s2 s4 H2 H3 fp _ σ3 vs ys es _ I2 cG I4 f2 (by rw [hDe];exact cK) (by rw [hDe];exact ao _) cU d3 ⟨nn,o4⟩ k7 oI c9 jQ w3
 exact codeAny_compStart_list (loop _ rfl) (T.self _ 0 _ _ _ eh (loop _ rfl))
theorem DE.comp (hc:X.calm=true) (B:Blk X scope N nt cap) (hi:F3 X H0 tg iter wi) (hg:∀C s H fp,DG (C9 X scope C s H fp N) H tg g) (ht:∀C s H fp,L5 (C9 X scope C s H fp N) H dW t)
  (he:∀C s H fp,DE (C9 X scope C s H fp N) H dA we) (hs:∀x,foldedSetIterable iter X.env x=pure x:=by intro _;rfl) :
  DE X H0 (.ListComp dA [⟨tg,iter,dW,0⟩] scope pos) (M6 nt cap wi g t we) where
 mono:=fun τ P Q f h=>hi.mono τ _ _ (fun ds h=>⟨h.1,Z1y (hg 0 X.s₀ X.H₀ []).mono (ht 0 X.s₀ X.H₀ []).mono (he 0 X.s₀ X.H₀ []).mono ds _ _ _ (fun es h=>f _ h) h.2⟩) h
 pe:=by
  intro ae s σ H Q I ⟨τ,hR,hw⟩
  rw [eval_ListComp]
  refine Z8w hc B hi hg ht he hs I hR hw fun C D0 s2 s4 H2 H4 fp pb σ4 vs ys es f I2 cG I4 f2 hC hD cU hn hl rv hz sm4 al w3=>?_
  obtain⟨m4,il,_⟩:=id I4.loc
  refine⟨m4,il,fun h' sb=>?_⟩
  exact⟨.ref D0,_,Z8e I2 I4 f2 hC hD cU hn hl rv hz sb,rfl,w3 _ _ (cG.trans (sm4.trans (G0 hn _))) ⟨D0,vs,rfl,cG.free (I2.hok.fresh hD),upd_same,al.mono (Kp.of (G0 hn _)) _ _⟩⟩
end
section
variable {X:Cx}{H0:Hp}{tg iter dA:Expr}{dW:List Expr}{scope:Scope}{pos bB e7:Pos}{N:List Str}{nt:Nat}{cap:List Nat}{wi:Q8}{g:WG}{t:WT}{we:WE}
theorem DS.setC {i:Nat}{x:Str} (hc:X.calm=true) (B:Blk X scope N nt cap) (hi:F3 X H0 tg iter wi) (hg:∀C s H fp,DG (C9 X scope C s H fp N) H tg g) (ht:∀C s H fp,L5 (C9 X scope C s H fp N) H dW t)
  (he:∀C s H fp,DE (C9 X scope C s H fp N) H dA we) (hN:X.N.Nodup) (jw:X.N[i]?=some x) (hx:Loc X.env.scope x)
  (fV:swapsWith (.ListComp dA [⟨tg,iter,dW,0⟩] scope pos) (some (.Name x bB)) e7.line X.env=pure true:=by rfl) (hs:∀x,foldedSetIterable iter X.env x=pure x:=by intro _;rfl)
  (hf:X.fn x=true\/X.env.scope.names.lookup x=some .local:=by first | exact .inl rfl | exact .inr rfl | assumption) :
  DS X H0 (.Assign [.Name x bB] (.ListComp dA [⟨tg,iter,dW,0⟩] scope pos) e7) (C1 i (M6 nt cap wi g t we)) where
 mono:=fun τ E F le h=>(DE.comp (pos:=pos) hc B hi hg ht he hs).mono τ _ _ (fun r h=>Z5e (fun s h=>le.nx _ h) h) h
 ps:=by
  intro ae s σ H D I ⟨τ,hR,hw⟩
  rw [exec_Assign_Name_used _ _ _ _ fV]
  refine aa (ft (aa ?_))
  show wpAny _ X.A (do let _ <- comprehension (.ListComp dA [⟨tg,iter,dW,0⟩] scope pos) scope X.env _ (newList []) false (eval iter X.env) (some (assign (.Name x bB) X.env))) _ _ s
  refine aa (aS (Z8w (use:=some (assign (.Name x bB) X.env)) (QQ:=fun _ s'=>SP X ae D .next s') hc B hi hg ht he hs I hR hw fun C D0 s2 s4 H2 H4 fp pb σ4 vs ys es f I2 cG I4 f2 hC hD cU hn hl rv hz sm4 al w3=>?_)
   (fun _ s' hq=>aj (aj hq)) fun _ _ e=>e)
  have Ib:A0 X ae σ (upd H4 D0 (.lst vs)) { s4 with heap:=s4.heap }:=Z8e I2 I4 f2 hC hD cU hn hl rv hz ⟨rfl,fun _ _=>rfl⟩
  have i0:C≠X.env.locals:=fun z=>aZ _ (az I2.lt (z ▸ hC))
  have hZ:∀x c,X.env.cells.lookup x=some c->c≠C:=fun x c h z=>by
   obtain⟨v,q⟩:=I2.cell x c h
   exact aZ _ (az q.lt (z ▸ hC))
  show wpAny _ X.A (assign (.Name x bB) X.env (.ref D0)) _ _ s4
  refine wpAny_assign_Name (Q9u (v:=.ref D0) Ib hN jw hx rfl (fun s5 I5 bx=>?_) hf)
  obtain⟨a,j8,ha⟩:=bx
  obtain⟨m4,il,_⟩:=id I4.loc
  have jG:C≠a:=by
   rcases ha with ha | ha
   ·rw [ha];exact i0
   ·exact fun z=>hZ _ _ ha z.symm
  refine⟨m4,il.sameBut j8 jG,fun h' sb=>?_⟩
  have jH:H4 C=none:=I4.free
  have I6:A0 X ae (σ.set i (some (.ref D0))) (upd H4 D0 (.lst vs)) { s5 with heap:=h' }:=by
   refine I5.turned (t':=s5.toks) (it:=C) (fun b o hb e=>(sb.2 b hb).trans e) (by rw [B6 (dG cU)];exact jH) i0 (.inr (aV I2.sz hC)) hZ fun p hp z=>?_
   have:=(I2.pin p hp).1
   exact aZ _ (az (ay this) (z ▸ hC))
  obtain⟨sl,p,cS⟩:=hR.store (i:=i) (r:=.nw es) (v:=.ref D0) (H1:=upd H4 D0 (.lst vs)) (cG.trans (sm4.trans (G0 hn _))) ⟨D0,vs,rfl,cG.free (I2.hok.fresh hD),upd_same,al.mono (Kp.of (G0 hn _)) _ _⟩ w3
  exact⟨_,_,I6,p _ _ (Kp.of (cG.trans (sm4.trans (G0 hn _)))) cS⟩
end
section
variable {X:Cx}{H0:Hp}{a b c e tg:Expr}{pos:Pos}{wa wb we:WE}{wr:WA}
theorem F3.lst (he:DE X H0 e we):F3 X H0 tg e (fun τ Q=>we τ fun r=>∃ds,U3 r=some ds/\Q ds) where
 mono:=fun τ P Q f h=>he.mono τ _ _ (fun r ⟨ds,e1,q⟩=>⟨ds,e1,f _ q⟩) h
 pi:=piW (Z4b he.pe) fun σ H R ⟨τ,hR,h⟩=>⟨τ,hR,he.mono τ _ _ (fun r ⟨ds,e1,q⟩ v H1 s1 ir=>by
  obtain⟨a,xs,rfl,sq,al⟩:=Q3r e1 ir
  refine⟨a,rfl,⟨xs,sq⟩,q _ _ s1 ⟨fun H' s i hi=>⟨xs,xs[i]'(by rw [<- al.length];exact hi),s.seq sq,ab _⟩,fun H' s i x cV d hd ⟨e,y⟩=>?_,fun H' s=>⟨xs,s.seq sq,by rw [al.length];exact ao _⟩⟩⟩
  subst e
  have hx:=y xs (s.seq sq)
  obtain⟨v,hv,q⟩:=(al.mono (Kp.of s) _ _).get hd
  rw [hx]at hv;cases hv
  exact⟨A6.refl _,q⟩) h⟩
theorem F3.tup (he:DE X H0 e we):F3 X H0 tg e (fun τ Q=>we τ fun r=>∃ds,r=.st (.tup ds)/\Q ds) where
 mono:=fun τ P Q f h=>he.mono τ _ _ (fun r ⟨ds,e1,q⟩=>⟨ds,e1,f _ q⟩) h
 pi:=piW (Y1w he.pe) fun σ H R ⟨τ,hR,h⟩=>⟨τ,hR,he.mono τ _ _ (fun r ⟨ds,e1,q⟩ v H1 s1 ir=>by
  subst e1
  have ir:A2 X.K H1 (.tup ds) v:=ir
  unfold A2 at ir
  obtain⟨a,xs,rfl,sq,al⟩:=ir
  refine⟨a,rfl,⟨xs,D8.of sq⟩,q _ _ s1 ⟨fun H' s i hi=>⟨xs,xs[i]'(by rw [<- al.length];exact hi),D8.of (s _ _ sq),ab _⟩,fun H' s i x cV d hd ⟨e,y⟩=>?_,fun H' s=>⟨xs,D8.of (s _ _ sq),by rw [al.length];exact ao _⟩⟩⟩
  subst e
  have hx:=y xs (D8.of (s _ _ sq))
  obtain⟨v,hv,q⟩:=(al.mono (Kp.of s) _ _).get hd
  rw [hx]at hv;cases hv
  exact⟨A6.refl _,q⟩) h⟩
theorem V1j {K:Fg9}{H:Hp}{lo:Int}{n:Nat}:YlS K (Itr lo n) (N8 lo n) H :=
 ⟨fun H' s=>(Z0o (K:=K) (H0:=H) (H:=H)).go H' (Kp.of s) s,fun H' s=>(Z0o (K:=K) (H0:=H) (H:=H)).yld H' (Kp.of s) s,fun H' s=>(Z0o (K:=K) (H0:=H) (H:=H)).stop H' (Kp.of s) s⟩
theorem F3.rng1 {p:Pos} (hg:Gl X "range") (hm:X.mg "range"=none) (ha:DA X H0 [a] wr) (hs:starEach [a] X.env=[(false,eval a X.env)]:=by rfl) :
  F3 X H0 tg (.Call (.Name "range" p) [a] [] pos) (fun τ Q=>wr τ fun rs=>∃j:Int,rs=[.st (.int j)]/\-(2 ^ 62)<=j/\j<2 ^ 62/\Q (N8 0 j.toNat)) where
 mono:=fun τ P Q f h=>ha.mono τ _ _ (fun r ⟨j,e1,h1,h2,q⟩=>⟨j,e1,h1,h2,f _ q⟩) h
 pi:=piW (Y1v hg hm ha.pa hs) fun σ H R ⟨τ,hR,h⟩=>⟨τ,hR,ha.mono τ _ _ (fun r ⟨j,e1,h1,h2,q⟩ vs H1 s1 cu=>by
  subst e1
  obtain⟨v,rfl,ir⟩:=W7 cu
  cases (show v=.int j from ir)
  exact⟨j,rfl,h1,h2,q _ _ s1 V1j⟩) h⟩
theorem Q5j {ae:Pn9} {σ:St}{H:Hp}{s:Shared}{h':Heap}{t':Nat}{wr:List Addr} (I:A0 X ae σ H s) (k:∀b o,b∉wr->s.heap.get? b=some o->h'.get? b=some o) (hf:∀b∈wr,O4 X ae H b) :
  A0 X ae σ H { s with heap:=h',toks:=t' }:=by
 have gP:∀b u,H b=some u->b∉wr:=fun b u e z=>by have:=(hf b z).1;rw [e]at this;cases this
 refine I.step (g':=s.gens) (d':=s.drawn) (ch:=wr) (fun b hb=>?_) (fun b o _ _ hc e _=>k b o hc e) (fun b o _ _ hc e _=>⟨o.slots,k b o hc e⟩) (fun _ _ _ _ n=>n)
  (fun b o hc e=>⟨o,k b o hc e⟩) (fun _ _ e=>e) (fun _ _ _ e=>e) (fun b ps e=>⟨#[],by rw [e];simp⟩) (fun m hm=>?_) (fun b u e=>?_) I.bare
 ·obtain⟨_,f1,_,f3,f4,f5⟩:=hf b hb
  exact⟨f3,f1,f4,f5⟩
 ·obtain⟨o,es,ep,ho,r⟩:=hm
  exact⟨o,es,ep,k _ o (fun z=>(hf _ z).2.1 rfl) ho,r⟩
 ·refine(I.hok b u e).stay (fun c v hc q=>k c v ?_ q) (fun _ _ _ q=>q) fun _ _ q=>q
  rcases hc with z | z
  ·rw [z];exact gP b u e
  ·exact gP c _ z
noncomputable def Its (x:Str):It:=⟨fun i _=>i<x.cps.size,fun i H v H'=>H'=H/\∃c,x.cps[i]?=some c/\v=.str ⟨#[c]⟩,fun i _=>i=x.cps.size⟩
theorem Y4t {P:Program}{w:World}{K:Fg9}{tg:Expr}{it:Addr}{ty:String}{x:Str}{t:Tok} (fx:ty="str_ascii_iterator"\/ty="str_iterator"):Q1c P w K tg (Its x) [it] it (fun i h=>h.IsStrIter it ty x t i) where
 mem:=by simp
 obj:=fun i h st b hb=>by
  have e:b=it:=by simpa using hb
  subst e
  obtain⟨o,e,c,d⟩:=st
  exact⟨o,e,fun v z=>by rw [d]at z;cases z⟩
 keep:=fun i h h' ⟨o,e,r⟩ k=>⟨o,k it (by simp) o e,r⟩
 item:=by
  intro X hP hw hK hc i ae s σ H E I hf st hg
  subst hP hw hK
  have W:Walks X.prog X.w X.A it [it] [it] x.cps.size (SignAt x) (fun i h=>h.IsStrIter it ty x t i):=by
   rcases fx with rfl | rfl
   ·exact Walks.strAscii (I.ok.hd hc) it x t
   ·exact Walks.strWide (I.ok.hd hc) it x t
  refine W.item i s _ _ hg st fun v h' tk hv fM k=>?_
  obtain⟨c,u,dg,rfl⟩:=hv
  have I1:A0 X ae σ H { s with heap:=h',toks:=tk }:=Q5j I k hf
  obtain⟨o,e,cl,d⟩:=id fM
  refine⟨_,rfl,Q6g (s:={ s with heap:=h',toks:=tk }) e cl d (by rcases fx with rfl | rfl <;> decide) ⟨.str ⟨#[c]⟩,H,I1,⟨u,rfl⟩,⟨rfl,c,dg,rfl⟩,fM,fun b hb=>(hf b hb).1⟩⟩
 done:=by
  intro X hP hw hK hc i ae s σ H E I hf st hg
  subst hP hw hK
  have hg:i=x.cps.size:=hg
  subst hg
  have W:Walks X.prog X.w X.A it [it] [it] x.cps.size (SignAt x) (fun i h=>h.IsStrIter it ty x t i):=by
   rcases fx with rfl | rfl
   ·exact Walks.strAscii (I.ok.hd hc) it x t
   ·exact Walks.strWide (I.ok.hd hc) it x t
  exact W.done s _ _ st fun h' tk k=>⟨rfl,Q5j I k hf⟩
 self:=fun A i s Q E st h=>by
  rcases fx with rfl | rfl
  ·exact wpAny_pyIter_striter_ascii st h
  ·exact wpAny_pyIter_striter_wide st h
noncomputable def F5 (x:Str):List D:=x.cps.toList.map fun c=>.str ⟨#[c]⟩
theorem V1k {K:Fg9}{H:Hp}{x:Str}:YlS K (Its x) (F5 x) H where
 go:=fun H' _ i hi=>by
  have:i<x.cps.size:=by simpa [F5]using hi
  exact this
 yld:=fun H' _ i v cV d hd ⟨e,c,hc,hv⟩=>by
  subst e hv
  refine⟨A6.refl _,?_⟩
  unfold F5 at hd
  rw [ak]at hd
  have:x.cps.toList[i]?=some c:=by simpa using hc
  rw [this]at hd
  have e:D.str ⟨#[c]⟩=d:=aA hd
  subst e
  exact A2.s_str
 stop:=fun H' _=>by
  show(F5 x).length=x.cps.size
  simp [F5]
theorem F3.str (he:DE X H0 e we):F3 X H0 tg e (fun τ Q=>we τ fun r=>∃x,r=.st (.str x)/\Q (F5 x)) where
 mono:=fun τ P Q f h=>he.mono τ _ _ (fun r ⟨ds,e1,q⟩=>⟨ds,e1,f _ q⟩) h
 pi:=by
  intro ae s σ H R I ⟨τ,hR,h⟩
  refine B4 (he.pe ae s σ H (fun v H1=>A6 H H1/\∃x,v=.str x/\∀J H',A6 H H'->YlS X.K J (F5 x) H'->R J H') I ⟨τ,hR,he.mono τ _ _ (fun r ⟨x,e1,q⟩ v H1 s1 ir=>⟨s1,x,by subst e1;exact ir,q⟩) h⟩) fun u s1 ⟨v,H1,I1,rv,sm,x,e1,q⟩=>?_
  subst e1
  obtain⟨t,rfl⟩:=rv
  have fin:∀(ty:String),(ty="str_ascii_iterator"\/ty="str_iterator")->PIE X ae σ tg R (.ref s1.heap.objs.size) { s1 with heap:=s1.heap.push { cls:=.type ty,data:=.fields #[.str x t,.int 0 0] } }:=fun ty fx=>by
   refine⟨s1.heap.objs.size,[s1.heap.objs.size],_,_,H1,rfl,I1.kept (t':=s1.toks) fun b o e=>af _ e,Y4t (ty:=ty) (x:=x) (t:=t) fx,⟨_,aH _ rfl,rfl,rfl⟩,fun b hb=>?_,q _ _ sm V1k⟩
   have e:b=s1.heap.objs.size:=by simpa using hb
   subst e
   exact I1.fpOk (ao _) (I1.hok.fresh (ao _))
  cases ha:x.cps.all (·<128)
  ·exact wpAny_pyIter_wide ha (fin _ (.inr rfl))
  ·exact wpAny_pyIter_ascii ha (fin _ (.inl rfl))
end
section
variable {X:Cx}{H0:Hp}{a b c e tg:Expr}{pos:Pos}{wa wb we:WE}{wr:WA}
theorem Q9x {ae:Pn9} {σ:St}{H:Hp}{s:Shared}{h':Heap}{t':Nat}{wr:List Addr}{T:Addr}{xs:List V}{aT:List Value} (I:A0 X ae σ H s) (k:∀b o,b∉wr->s.heap.get? b=some o->h'.get? b=some o) (hf:∀b∈wr,O4 X ae H b)
  (hT:s.heap.objs.size<=T) (ht:IsTup h' T aT.toArray) (rv:B7 xs aT) (hz:xs.length<=sizeLine):A0 X ae σ (upd H T (.tup xs)) { s with heap:=h',toks:=t' }:=by
 have gP:∀b u,H b=some u->b∉wr:=fun b u e z=>by have:=(hf b z).1;rw [e]at this;cases this
 have pV:H T=none:=I.hok.fresh hT
 have neT:∀b u,H b=some u->b≠T:=fun b u e z=>by rw [z,pV]at e;cases e
 refine I.step (g':=s.gens) (d':=s.drawn) (ch:=wr) (fun b hb=>?_) (fun b o _ _ hc e _=>k b o hc e) (fun b o _ _ hc e _=>⟨o.slots,k b o hc e⟩) (fun b o _ e n=>by rw [B6 (aD (az (ay e) hT))];exact n)
  (fun b o hc e=>⟨o,k b o hc e⟩) (fun b _ e=>by rw [B6 (neT b _ e)];exact e) (fun b _ _ e=>by rw [B6 (neT b _ e)];exact e) (fun b ps e=>⟨#[],by rw [B6 (neT b _ e),e];simp⟩) (fun m hm=>?_) (fun b u e=>?_) I.bare
 ·obtain⟨_,f1,_,f3,f4,f5⟩:=hf b hb
  exact⟨f3,f1,f4,f5⟩
 ·obtain⟨o,es,ep,ho,r⟩:=hm
  exact⟨o,es,ep,k _ o (fun z=>(hf _ z).2.1 rfl) ho,r⟩
 ·by_cases hb:b=T
  ·subst hb
   rw [upd_same]at e;cases e
   exact⟨hz,aT,rv,ht⟩
  ·rw [B6 hb]at e
   refine(I.hok b u e).stay (fun c v hc q=>k c v ?_ q) (fun c u _ q=>by rw [B6 (neT c _ q)];exact q) fun c xs q=>by rw [B6 (neT c _ q)];exact q
   rcases hc with z | z
   ·rw [z];exact gP b u e
   ·exact gP c _ z
noncomputable def K0 (ds:List D):List D:=ds.zipIdx.map fun(p:D×Nat)=>.tup [.int (p.2:Int),p.1]
theorem Q8h {ds:List D}{i:Nat}{d:D} (h:(K0 ds)[i]?=some d):∃x,ds[i]?=some x/\d=.tup [.int (i:Int),x]:=by
 unfold K0 at h
 rw [ak,List.getElem?_zipIdx]at h
 cases e:ds[i]? with
 | none=>rw [e]at h;cases h
 | some x =>
  rw [e]at h
  have h:D.tup [.int ((0+i:Nat):Int),x]=d:=aA h
  exact⟨x,rfl,by rw [<- h,dH]⟩
theorem Q2n (ds:List D):(K0 ds).length=ds.length:=by simp [K0]
noncomputable def Ies (x:Str):It:=⟨fun i _=>i<x.cps.size,fun i H v H'=>∃T c,x.cps[i]?=some c/\H T=none/\v=.ref T/\H'=upd H T (.tup [.int (i:Int),.str ⟨#[c]⟩]),fun i _=>i=x.cps.size⟩
theorem V0h {P:Program}{w:World}{K:Fg9}{db:List Expr}{kk:Nat}{pt:Pos}{en it:Addr}{x:Str}{t:Tok} (cy:en≠it) :
  Q1c P w K (.Tuple db kk pt) (Ies x) [en,it] en (fun i h=>(∃old,IsEnum h en it i old)/\h.IsStrIter it (strIterType x) x t i) where
 mem:=by simp
 obj:=fun i h st b hb=>by
  obtain⟨⟨old,he⟩,o,ho,_,d⟩:=st
  rcases av.mp hb with rfl | hb
  ·exact⟨_,he,fun v z=>by cases z⟩
  ·have e:b=it:=by simpa using hb
   subst e
   exact⟨o,ho,fun v z=>by rw [d]at z;cases z⟩
 keep:=fun i h h' ⟨⟨old,he⟩,o,ho,r⟩ k=>⟨⟨old,k en (by simp) _ he⟩,o,k it (by simp) o ho,r⟩
 item:=by
  intro X hP hw hK hc i ae s σ H E I hf st hg
  subst hP hw hK
  have Dr:Draws X.prog X.w X.A.in1 it [it] x.cps.size (fun i v=>∃c u,x.cps[i]?=some c/\v=.str ⟨#[c]⟩ u) (fun i h=>h.IsStrIter it (strIterType x) x t i):=by
   unfold strIterType
   split
   ·exact Draws.strAscii (A:=X.A.in1) (show X.A.in1.handled=none from I.ok.hd hc) it x t
   ·exact Draws.strWide (A:=X.A.in1) (show X.A.in1.handled=none from I.ok.hd hc) it x t
  have W:=WalksT.enumerateD Dr en cy (by simpa using cy) (by simp)
  have pE:∀b∈[en,it],O4 X ae H b:=hf
  refine W.item i s _ _ hg st fun T ff h' tk hv hT jE gQ k=>?_
  obtain⟨t1,y,⟨c,u,dg,rfl⟩,rfl⟩:=hv
  refine⟨_,rfl,W.go db kk pt i T { s with heap:=h',toks:=tk } _ _ gQ fun h2 dI k2=>?_⟩
  have ib:∀b o,b∉[en,it]->s.heap.get? b=some o->h2.get? b=some o:=fun b o hb e=>k2 b o hb (k b o hb e)
  have h8:=W.apart i T h' gQ
  have eT:IsTup h2 T ([Value.int (i:Int) t1,Value.str ⟨#[c]⟩ u]).toArray:=by
   obtain⟨o,ho,r⟩:=jE
   exact⟨o,k2 T o h8 ho,r⟩
  have I2:=Q9x (t':=tk) (xs:=[.int (i:Int),.str ⟨#[c]⟩]) I ib pE hT eT (.cons ⟨t1,rfl⟩ (.cons ⟨u,rfl⟩ .nil)) (by show 2<=sizeLine;decide)
  refine⟨.ref T,_,I2,rfl,⟨T,c,dg,I.hok.fresh hT,rfl,rfl⟩,dI,fun b hb=>?_⟩
  rw [B6 (show b≠T from fun z=>h8 (by rw [<- z];exact hb))]
  exact(hf b hb).1
 done:=by
  intro X hP hw hK hc i ae s σ H E I hf st hg
  subst hP hw hK
  have hg:i=x.cps.size:=hg
  subst hg
  have Dr:Draws X.prog X.w X.A.in1 it [it] x.cps.size (fun i v=>∃c u,x.cps[i]?=some c/\v=.str ⟨#[c]⟩ u) (fun i h=>h.IsStrIter it (strIterType x) x t i):=by
   unfold strIterType
   split
   ·exact Draws.strAscii (A:=X.A.in1) (show X.A.in1.handled=none from I.ok.hd hc) it x t
   ·exact Draws.strWide (A:=X.A.in1) (show X.A.in1.handled=none from I.ok.hd hc) it x t
  have W:=WalksT.enumerateD Dr en cy (by simpa using cy) (by simp)
  exact W.done s _ _ st fun h' tk k=>⟨rfl,Q5j I k hf⟩
 self:=fun A i s Q E ⟨⟨old,he⟩,_⟩ h=>cr he h
theorem Z6y {K:Fg9}{H:Hp}{x:Str}:YlS K (Ies x) (K0 (F5 x)) H where
 go:=fun H' _ i hi=>by
  have:i<x.cps.size:=by rw [Q2n]at hi;simpa [F5]using hi
  exact this
 yld:=fun H' _ i v cV d hd ⟨T,c,hc,hT,hv,hH⟩=>by
  subst hH hv
  refine⟨G0 hT _,?_⟩
  obtain⟨y,hy,rfl⟩:=Q8h hd
  unfold F5 at hy
  rw [ak]at hy
  have:x.cps.toList[i]?=some c:=by simpa using hc
  rw [this]at hy
  have e:D.str ⟨#[c]⟩=y:=aA hy
  subst e
  exact A2.s_tup upd_same (AllS.cons A2.s_int (AllS.cons A2.s_str AllS.nil))
 stop:=fun H' _=>by
  show(K0 (F5 x)).length=x.cps.size
  rw [Q2n];simp [F5]
noncomputable def Iel (K:Fg9) (l:Addr):It:=⟨fun i H=>∃xs x,E3 K H l xs/\xs[i]?=some x,fun i H v H'=>∃T x,(∀xs,E3 K H l xs->xs[i]?=some x)/\H T=none/\v=.ref T/\H'=upd H T (.tup [.int (i:Int),x]),fun i H=>∃xs,E3 K H l xs/\xs.length=i⟩
theorem Y4r {P:Program}{w:World}{K:Fg9}{db:List Expr}{kk:Nat}{pt:Pos}{en it l:Addr} (cy:en≠it) (fh:l≠en) (iX:l≠it) :
  Q1c P w K (.Tuple db kk pt) (Iel K l) [en,it] en (fun i h=>(∃old,IsEnum h en it i old)/\h.IsListIter it l i) where
 mem:=by simp
 obj:=fun i h st b hb=>by
  obtain⟨⟨old,he⟩,o,ho,_,d⟩:=st
  rcases av.mp hb with rfl | hb
  ·exact⟨_,he,fun v z=>by cases z⟩
  ·have e:b=it:=by simpa using hb
   subst e
   exact⟨o,ho,fun v z=>by rw [d]at z;cases z⟩
 keep:=fun i h h' ⟨⟨old,he⟩,hi⟩ k=>⟨⟨old,k en (by simp) _ he⟩,hi.at fun o e=>k it (by simp) o e⟩
 item:=by
  intro X hP hw hK hc i ae s σ H E I hf st hg
  subst hP hw hK
  obtain⟨xs,x,hq,hx⟩:=hg
  obtain⟨aT,rv,p,hz⟩:=I.list hq
  have W:=WalksT.enumerate (prog:=X.prog) (w:=X.w) (A:=X.A) (I.ok.hd hc) en it l cy fh iX aT.toArray
  obtain⟨u,hu,ru⟩:=rv.get hx
  have bZ:i<aT.toArray.size:=by
   rcases aW i aT.length with h | h
   ·simpa using h
   ·rw [aw.mpr h]at hu;cases hu
  refine W.item i s _ _ bZ ⟨st.1,st.2,p.isList⟩ fun T ff h' tk hv hT jE gQ k=>?_
  obtain⟨t1,y,hy,rfl⟩:=hv
  have ey:y=u:=by
   have:aT[i]?=some y:=by simpa using hy
   rw [hu]at this;exact(aA this).symm
  subst ey
  refine⟨_,rfl,W.go db kk pt i T { s with heap:=h',toks:=tk } _ _ gQ fun h2 dI k2=>?_⟩
  have ib:∀b o,b∉[en,it]->s.heap.get? b=some o->h2.get? b=some o:=fun b o hb e=>k2 b o hb (k b o hb e)
  have h8:=W.apart i T h' gQ
  have eT:IsTup h2 T ([Value.int (i:Int) t1,y]).toArray:=by
   obtain⟨o,ho,r⟩:=jE
   exact⟨o,k2 T o h8 ho,r⟩
  have I2:=Q9x (t':=tk) (xs:=[.int (i:Int),x]) I ib hf hT eT (.cons ⟨t1,rfl⟩ (.cons ru .nil)) (by show 2<=sizeLine;decide)
  refine⟨.ref T,_,I2,rfl,⟨T,x,fun ys hy=>by rw [I.list_inj hy hq];exact hx,I.hok.fresh hT,rfl,rfl⟩,⟨dI.1,dI.2.1⟩,fun b hb=>?_⟩
  rw [B6 (show b≠T from fun z=>h8 (by rw [<- z];exact hb))]
  exact(hf b hb).1
 done:=by
  intro X hP hw hK hc i ae s σ H E I hf st hg
  subst hP hw hK
  obtain⟨xs,hq,hx⟩:=hg
  obtain⟨aT,rv,p,hz⟩:=I.list hq
  have W:=WalksT.enumerate (prog:=X.prog) (w:=X.w) (A:=X.A) (I.ok.hd hc) en it l cy fh iX aT.toArray
  have hl:=rv.length
  have e:i=aT.toArray.size:=by simp;omega
  subst e
  exact W.done s _ _ ⟨st.1,st.2,p.isList⟩ fun h' tk k=>⟨rfl,Q5j I k hf⟩
 self:=fun A i s Q E ⟨⟨old,he⟩,_⟩ h=>cr he h
theorem V1h {K:Fg9}{H:Hp}{l:Addr}{xs:List V}{ds:List D} (sq:E3 K H l xs) (al:AllS K H ds xs):YlS K (Iel K l) (K0 ds) H where
 go:=fun H' s i hi=>by
  rw [Q2n]at hi
  exact⟨xs,xs[i]'(by rw [<- al.length];exact hi),s.seq sq,ab _⟩
 yld:=fun H' s i v cV d hd ⟨T,x,hx,hT,hv,hH⟩=>by
  subst hH hv
  refine⟨G0 hT _,?_⟩
  obtain⟨y,hy,rfl⟩:=Q8h hd
  obtain⟨v,hv,q⟩:=al.get hy
  rw [hx xs (s.seq sq)]at hv;cases hv
  exact A2.s_tup upd_same (AllS.cons A2.s_int (AllS.cons (q.mono (Kp.of (s.trans (G0 hT _))) _ _) AllS.nil))
 stop:=fun H' s=>⟨xs,s.seq sq,by rw [Q2n];exact al.length.symm⟩
end
section
variable {X:Cx}{H0:Hp}{a b c e o tg:Expr}{pos apos bC:Pos}{wa wb we:WE}{wr:WA}
theorem C4.mutate {K:Fg9}{H:Hp} {τ:A9} {σ:St}{i:Nat}{ds kt:List D}{a:Addr}{xs j6:List V} (hR:C4 K H0 τ σ H) (e1:τ[i]?=some (some (.own ds))) (hv:σ[i]?=some (some (.ref a))) (h0:H0 a=none) (sq:H a=some (.lst xs)) (al:AllS K H kt j6) :
  C4 K H0 (τ.set i (some (.own kt))) σ (upd H a (.lst j6)):=by
 have kp:Kp H (upd H a (.lst j6)):=Kp.upd sq _
 have hl:i<τ.length:=by
  rcases aW i τ.length with h | h
  ·exact h
  ·rw [aw.mpr h]at e1;cases e1
 have old:∀(j:Nat) (s:Sl),(τ.set i (some (.own kt)))[j]?=some (some s)->j≠i->τ[j]?=some (some s):=fun j s e hj=>by rw [aP (fun z=>hj z.symm)]at e;exact e
 have ef:∀(j:Nat) (s:Sl),(τ.set i (some (.own kt)))[j]?=some (some s)->s.mut=true->∃t,τ[j]?=some (some t)/\t.mut=true:=fun j s e m=>by
  by_cases hj:j=i
  ·subst hj;exact⟨_,e1,rfl⟩
  ·exact⟨s,old j s e hj,m⟩
 refine⟨by rw [bW];exact hR.len,fun b ob hb=>?_,fun j s e=>?_,fun j k s t v cy e2 e3 m1 m2 q1 q2=>?_⟩
 ·rw [B6 (Y6 hb h0)];exact hR.same b ob hb
 ·by_cases hj:j=i
  ·subst hj
   rw [Q0l hl]at e;cases e
   exact⟨_,hv,a,j6,rfl,h0,upd_same,al.mono kp _ _⟩
  ·have e:=old j s e hj
   obtain⟨v,q,r⟩:=hR.here j s e
   refine⟨v,q,?_⟩
   have ap:s.mut=true->v≠.ref a:=fun m z=>by
    subst z
    exact hR.apart i j _ s (.ref a) (fun z=>hj z.symm) e1 e rfl m hv q
   cases s with
   | dat d=>exact A2.mono kp _ _ r
   | own es=>obtain⟨b,ys,e,n,q,t⟩:=r;exact⟨b,ys,e,n,by rw [B6 (fun z=>ap rfl (by rw [e,z]))];exact q,t.mono kp _ _⟩
   | bor es=>obtain⟨b,ys,e,q,t⟩:=r;exact⟨b,ys,e,q,t.mono kp _ _⟩
   | bd es=>obtain⟨b,ys,e,q,t⟩:=r;exact⟨b,ys,e,q,t.mono kp _ _⟩
   | dk es=>obtain⟨b,ys,e,n,q,t⟩:=r;exact⟨b,ys,e,n,by rw [B6 (fun z=>ap rfl (by rw [e,z]))];exact q,t.mono kp _ _⟩
   | dt es=>obtain⟨b,ys,e,n,q,t⟩:=r;exact⟨b,ys,e,n,by rw [B6 (fun z=>ap rfl (by rw [e,z]))];exact q,t.mono kp _ _⟩
   | ob _=>exact r
   | cl _ _=>exact⟨r.1,r.2.2 _ _ kp r.2.1,r.2.2⟩
   | ll _ _=>exact⟨r.1,r.2.keep kp fun b φ q=>by rw [B6 (Q0s q sq (by intro z;cases z))];exact q⟩
   | ins _ _ _=>obtain⟨e,n,dx,ys,q,t⟩:=r;exact⟨e,n,dx,ys,by rw [B6 (fun z=>ap rfl (by rw [e,z]))];exact q,t.mono kp _ _⟩
 ·obtain⟨s',ma,kT⟩:=ef j s e2 m1
  obtain⟨t',m9,kS⟩:=ef k t e3 m2
  exact hR.apart j k s' t' v cy ma m9 kT kS q1 q2
theorem C4.ownAt {K:Fg9}{H:Hp} {τ:A9} {σ:St}{i:Nat}{ds:List D} (hR:C4 K H0 τ σ H) (e1:τ[i]?=some (some (.own ds))):∃a xs,σ[i]?=some (some (.ref a))/\H0 a=none/\H a=some (.lst xs)/\AllS K H ds xs:=by
 obtain⟨v,hv,a,xs,rfl,h0,sq,al⟩:=hR.here i _ e1
 exact⟨a,xs,hv,h0,sq,al⟩
def P3 (i:Nat) (we:WE):WS:=fun E τ=>∃ds,τ[i]?=some (some (.own ds))/\we τ fun r=>∃d,r=.st d/\ds.length<sizeLine/\E.nx (τ.set i (some (.own (ds++[d]))))
theorem DS.append {i:Nat} (ho:PE X o (T4 i)) (he:DE X H0 e we) (cJ:attributeBase o "append" X.env (eval o X.env)=eval o X.env:=by rfl)
  (eR:((backTo bC (starEach [e] X.env)).all (fun x=>!x.1)&&(backToKw bC (keywordEach [] X.env)).all (fun x=>x.1.isSome)&&decide ([e].length+([]:List Keyword).length+(if ([]:List Keyword).isEmpty then 0 else 1)<30))=true:=by rfl)
  (cI:(apos.endLine==bC.line)=true:=by rfl) (hs:starEach [e] X.env=(false,eval e X.env)::starEach [] X.env:=by rfl) (cT:(backTo bC (starEach [] X.env)).any (·.1)=false:=by rfl)
  (fV:swapsWith (.Call (.Attribute o "append" apos) [e] [] bC) none pos.line X.env=pure false:=by rfl):DS X H0 (.Expr (.Call (.Attribute o "append" apos) [e] [] bC) pos) (P3 i we) where
 mono:=fun τ E F le ⟨ds,e1,h⟩=>⟨ds,e1,he.mono τ _ _ (fun r ⟨d,e2,h1,h2⟩=>⟨d,e2,h1,le.nx _ h2⟩) h⟩
 ps:=psW (Z4d (Z3z fI PySem.F.slot_list_append PySem.F.type_list_append W2t ho (Q0d he.pe Q2s hs) cJ eR cI hs cT) fV) fun D σ H ⟨τ,hR,ds,e1,h⟩=>by
  obtain⟨a,xs,hv,h0,sq,al⟩:=hR.ownAt e1
  refine⟨_,hv,.inl ⟨rfl,_,E3.of sq⟩,τ,hR,he.mono τ _ _ (fun r ⟨d,e2,h1,h2⟩ v H1 s1 ir=>?_) h⟩
  subst e2
  have dF:=hR.mono s1
  refine⟨a,xs,v,rfl,rfl,s1 _ _ sq,by rw [<- al.length];exact h1,h2 σ _ ((Kp.of s1).trans (Kp.upd (s1 _ _ sq) _)) ?_⟩
  exact dF.mutate e1 hv h0 (s1 _ _ sq) ((al.mono (Kp.of s1) _ _).append (AllS.cons ir AllS.nil))
def Q5q (i:Nat) (we:WE):WS:=fun E τ=>∃ds,τ[i]?=some (some (.own ds))/\we τ fun r=>∃es,lsM r=some es/\ds.length+es.length<=sizeLine/\E.nx (τ.set i (some (.own (ds++es))))
theorem DS.extend {i:Nat} (ho:PE X o (T4 i)) (he:DE X H0 e we) (cJ:attributeBase o "extend" X.env (eval o X.env)=eval o X.env:=by rfl)
  (eR:((backTo bC (starEach [e] X.env)).all (fun x=>!x.1)&&(backToKw bC (keywordEach [] X.env)).all (fun x=>x.1.isSome)&&decide ([e].length+([]:List Keyword).length+(if ([]:List Keyword).isEmpty then 0 else 1)<30))=true:=by rfl)
  (cI:(apos.endLine==bC.line)=true:=by rfl) (hs:starEach [e] X.env=(false,eval e X.env)::starEach [] X.env:=by rfl) (cT:(backTo bC (starEach [] X.env)).any (·.1)=false:=by rfl)
  (fV:swapsWith (.Call (.Attribute o "extend" apos) [e] [] bC) none pos.line X.env=pure false:=by rfl):DS X H0 (.Expr (.Call (.Attribute o "extend" apos) [e] [] bC) pos) (Q5q i we) where
 mono:=fun τ E F le ⟨ds,e1,h⟩=>⟨ds,e1,he.mono τ _ _ (fun r ⟨d,e2,h1,h2⟩=>⟨d,e2,h1,le.nx _ h2⟩) h⟩
 ps:=psW (Z4d (Z3z fI PySem.F.slot_list_extend PySem.F.type_list_extend W2u ho (Q0d he.pe Q2s hs) cJ eR cI hs cT) fV) fun D σ H ⟨τ,hR,ds,e1,h⟩=>by
  obtain⟨a,xs,hv,h0,sq,al⟩:=hR.ownAt e1
  refine⟨_,hv,.inl ⟨rfl,_,E3.of sq⟩,τ,hR,he.mono τ _ _ (fun r ⟨es,e2,h1,h2⟩ v H1 s1 ir=>?_) h⟩
  obtain⟨b,ys,rfl,kG,fG⟩:=Z3e e2 ir
  have dF:=hR.mono s1
  refine⟨a,b,xs,ys,rfl,rfl,s1 _ _ sq,kG,by rw [<- al.length,<- fG.length];exact h1,h2 σ _ ((Kp.of s1).trans (Kp.upd (s1 _ _ sq) _)) ?_⟩
  exact dF.mutate e1 hv h0 (s1 _ _ sq) ((al.mono (Kp.of s1) _ _).append fG)
theorem DS.pop {i:Nat}{g:WG} (ho:PE X o (T4 i)) (hg:DG X H0 tg g) (cJ:attributeBase o "pop" X.env (eval o X.env)=eval o X.env:=by rfl) (cI:(apos.endLine==bC.line)=true:=by rfl)
  (hs:swapsWithSole [tg] (.Call (.Attribute o "pop" apos) [] [] bC) pos.line X.env=pure false:=by rfl) (hw:swappedStores [tg] (.Call (.Attribute o "pop" apos) [] [] bC) X.env=pure none:=by rfl)
  (h1:(assignEach [tg] X.env).map (·.2)=[assign tg X.env]:=by rfl) :
  DS X H0 (.Assign [tg] (.Call (.Attribute o "pop" apos) [] [] bC) pos) (fun E τ=>∃ds d,τ[i]?=some (some (.own (ds++[d])))/\g d (τ.set i (some (.own ds))) E.nx) where
 mono:=fun τ E F le ⟨ds,d,e1,h⟩=>⟨ds,d,e1,hg.mono _ _ _ _ le.nx h⟩
 ps:=psW (Z4c (W4k fI PySem.F.slot_list_pop PySem.F.type_list_pop W2w ho cJ cI) hg.pg hs hw h1) fun D σ H ⟨τ,hR,ds,d,e1,h⟩=>by
  obtain⟨a,xs,hv,h0,sq,al⟩:=hR.ownAt e1
  have hl:=al.length
  rw [aq,bJ]at hl
  obtain⟨v,hx,iv⟩:=al.get (i:=ds.length) (d:=d) (by simp)
  refine⟨_,hv,.inl ⟨rfl,_,E3.of sq⟩,a,xs,v,rfl,rfl,sq,by rw [show xs.length-1=ds.length by omega];exact hx,?_⟩
  have kp:Kp H (upd H a (.lst xs.dropLast)):=Kp.upd sq _
  have qp:AllS X.K H ds xs.dropLast:=by
   have:=al.take ds.length
   rw [List.take_left]at this
   rw [List.dropLast_eq_take,show xs.length-1=ds.length by omega]
   exact this
  exact⟨_,d,hR.mutate e1 hv h0 sq qp,A2.mono kp _ _ iv,hg.mono _ _ _ _ (fun τ' h σ' H' s' cS=>h σ' H' (kp.trans (Kp.of s')) cS) h⟩
end
end TK
end
section
namespace HT
open PySem PyProof.Rows
section
variable {prog:Program}{w:World}{A:Around}{E:VS9}{s:Shared}
theorem getItem_tuple_whole {t sl:Addr}{items:Array Value}{vl vu:Value}{lo hi:Option Int}{Q:VS9} (ht:IsTup s.heap t items) (hs:s.heap.IsSliceOf sl vl vu .none) (pl:IsPart vl lo) (pu:IsPart vu hi)
  (hw:sIx items.size 0 lo=0/\sIx items.size items.size hi=items.size) (h:Q (.ref t) s):wpAny (model prog w) A (getItem (.ref t) (.ref sl)) Q E s:=by
 obtain⟨os,eY,fm,fj⟩:=id hs
 have lR:s.TypeIs (.ref sl) "slice":=⟨os,eY,fm⟩
 unfold getItem
 try with_reducible refine bA ?_
 first | refine aa (aj ?_) | skip
 refine aa (wpAny_sequenceKey ht.typeIs (by decide) ?_)
 refine aa (bY (name:=Str.ofString "__getitem__") ht.typeIs bX
  (bM bX ht.typeIs entry_tuple_getitem ?_ (args_tuple_getitem _ _)))
 show wpAny _ _ (Builtin.Tuple.tupleItemsOf (.ref t)>>=_) _ _ s
 refine aa (tupleItemsOf_ ht ?_)
 refine aa (wpAny_typeOf lR ?_)
 rw [aC (by decide)]
 refine aa (Y4a hs pl pu ?_)
 have l5:((((sIx items.size 0 lo:Nat):Int)==0&&(1:Int)==1&&(sIx items.size items.size hi-sIx items.size 0 lo)==items.size)=true):=by
  rw [hw.1,hw.2];simp
 show wpAny _ _ (if (((sIx items.size 0 lo:Nat):Int)==0&&(1:Int)==1&&(sIx items.size items.size hi-sIx items.size 0 lo)==items.size)=true then _ else _) _ _ s
 rw [aC l5]
 show wpAny _ _ ((typeOf (.ref t)>>=fun y=>pure (y==Value.type "tuple"))>>=_) _ _ s
 refine aa (aa (wpAny_typeOf ht.typeIs (aj ?_)))
 rw [aC (by decide)]
 first
  | exact aa (wpAny_rule (aj ⟨_,rfl,aj h⟩))
  | exact aa (wpAny_rule (aa (aj (aj ⟨_,rfl,aj h⟩))))
end
end HT
namespace TK
open PySem PySem.Spec PyProof.Rows L2
noncomputable def Y3 {α:Type} (xs:List α) (lo hi:Option Int):List α:=(xs.drop (HT.sIx xs.length 0 lo)).take (HT.sIx xs.length xs.length hi-HT.sIx xs.length 0 lo)
theorem Z2a {K:Fg9}{H:Hp}{ds:List D}{xs:List V} (al:AllS K H ds xs) (lo hi:Option Int):AllS K H (Y3 ds lo hi) (Q0j xs lo hi):=by
 unfold Y3 Q0j
 rw [<- al.length]
 exact(al.drop _).take _
section
variable {X:Cx}{H0:Hp}{a b c e o tg:Expr}{pos p2:Pos}{wa wb we:WE}{lo hi:Option Expr}
theorem W9f:L2.O5 X (fun x lo hi H Q=>∃a xs,x=.ref a/\H a=some (.tup xs)/\((¬ (HT.sIx xs.length 0 lo=0/\HT.sIx xs.length xs.length hi=xs.length))->∀p,H p=none->Q (.ref p) (upd H p (.tup (Q0j xs lo hi))))/\((HT.sIx xs.length 0 lo=0/\HT.sIx xs.length xs.length hi=xs.length)->Q (.ref a) H)):=by
 intro ae s σ H x v vl vu lo hi sl Q I rx hs pl pu h
 obtain⟨a,xs,rfl,hx,q1,q2⟩:=h
 by_cases hw:HT.sIx xs.length 0 lo=0/\HT.sIx xs.length xs.length hi=xs.length
 ·cases rx
  obtain⟨aT,r,ht,hz⟩:=I.tuple (D8.of hx)
  have bN:aT.toArray.size=xs.length:=by rw [aE];exact r.length.symm
  exact⟨"tuple",_,bX.lookup,ht.typeIs,HT.getItem_tuple_whole ht hs pl pu (by rw [bN];exact hw) ⟨.ref a,H,I,rfl,q2 hw⟩⟩
 ·exact W9e ae s σ H _ v vl vu lo hi sl Q I rx hs pl pu ⟨a,xs,rfl,D8.of hx,hw,q1 hw⟩
theorem Y8c {xs:List V}{lo hi:Option Int} (h:HT.sIx xs.length 0 lo=0/\HT.sIx xs.length xs.length hi=xs.length):Q0j xs lo hi=xs:=by
 unfold Q0j;rw [h.1,h.2];simp
noncomputable abbrev WO:=A9->(Option Int->Prop)->Prop
noncomputable def W1q (K:Fg9) (H0:Hp) (w:WO):TO:=fun σ H Q=>∃ τ,C4 K H0 τ σ H/\w τ fun o=>∀H',A6 H H'->Q o H'
structure DO (X:Cx) (H0:Hp) (e:Option Expr) (w:WO):Prop where
 mono:∀(τ:A9) (P Q:Option Int->Prop),(∀r,P r->Q r)->w τ P->w τ Q
 po:PO X e (W1q X.K H0 w)
theorem DO.none:DO X H0 none (fun _ Q=>Q none):=⟨fun _ _ _ f h=>f _ h,fun ae s σ H Q I ⟨τ,hR,h⟩=>W5k ae s σ H Q I (h H (A6.refl H))⟩
noncomputable def Q1h:R->(Int->Prop)->Prop
 | .st (.int i),Q=>Q i
 | _,_=>False
theorem Q8n {r:R}{P:Int->Prop} (h:Q1h r P):∃i,r=.st (.int i)/\P i:=by
 unfold Q1h at h
 split at h
 ·exact⟨_,rfl,h⟩
 ·exact h.elim
theorem DO.some (he:DE X H0 e we):DO X H0 (some e) (fun τ Q=>we τ fun r=>Q1h r fun i=>Q (some i)) where
 mono:=fun τ P Q f h=>he.mono τ _ _ (fun r h=>by obtain⟨i,rfl,q⟩:=Q8n h;exact f _ q) h
 po:=fun ae s σ H Q I ⟨τ,hR,h⟩=>W5l he.pe ae s σ H Q I ⟨τ,hR,he.mono τ _ _ (fun r h v H1 s1 ir=>by
  obtain⟨i,rfl,q⟩:=Q8n h
  exact⟨i,ir,q H1 s1⟩) h⟩
def slD (x:R) (lo hi:Option Int) (Q:R->Prop):Prop:=match x with
 | .st (.tup ds)=>Q (.st (.tup (Y3 ds lo hi)))
 | .st (.lst ds)=>Q (.nw (Y3 ds lo hi))
 | .nw ds=>Q (.nw (Y3 ds lo hi))
 | .bw ds=>Q (.nw (Y3 ds lo hi))
 | .st (.str z)=>z.length<=sizeLine/\Q (.st (.str (Txt.slice z lo hi)))
 | _=>False
theorem W9b {x:R}{lo hi:Option Int}{P Q:R->Prop} (f:∀r,P r->Q r) (h:slD x lo hi P):slD x lo hi Q:=by
 unfold slD at h ⊢
 split at h <;> first | exact f _ h | exact⟨h.1,f _ h.2⟩ | exact h
theorem W9d:L2.O5 X (fun x lo hi H Q=>∃z,x=.str z/\z.length<=sizeLine/\Q (.str (Txt.slice z lo hi)) H):=by
 intro ae s σ H x v vl vu lo hi sl Q I rx hs pl pu h
 obtain⟨z,rfl,hz,q⟩:=h
 obtain⟨t,rfl⟩:=rx
 refine⟨"str",_,PySem.F.slot_str_getitem.lookup,typeIs_str _ _ _,?_⟩
 obtain⟨os,eY,fm,fj⟩:=id hs
 have fin:∀(t':Tok) (k:Nat),EP X ae σ Q (.str (Txt.slice z lo hi) t') { s with toks:=k }:=fun t' k=>⟨.str _,H,I.tok k,⟨t',rfl⟩,q⟩
 cases pl with
 | none =>
  cases pu with
  | none=>exact wpAny_getItem_str_slice (l:=none) (u:=none) (st:=none) ⟨_,eY,fm,fj⟩ rfl (post_val_or_str ⟨aV (Txt.slice_le z _ _) hz,fin⟩)
  | int j uj=>exact wpAny_getItem_str_slice (l:=none) (u:=some (j,uj)) (st:=none) ⟨_,eY,fm,fj⟩ rfl (post_val_or_str ⟨aV (Txt.slice_le z _ _) hz,fin⟩)
 | int i ui =>
  cases pu with
  | none=>exact wpAny_getItem_str_slice (l:=some (i,ui)) (u:=none) (st:=none) ⟨_,eY,fm,fj⟩ rfl (post_val_or_str ⟨aV (Txt.slice_le z _ _) hz,fin⟩)
  | int j uj=>exact wpAny_getItem_str_slice (l:=some (i,ui)) (u:=some (j,uj)) (st:=none) ⟨_,eY,fm,fj⟩ rfl (post_val_or_str ⟨aV (Txt.slice_le z _ _) hz,fin⟩)
variable {wl wh:WO}
theorem DE.slice (he:DE X H0 e we) (hl:DO X H0 lo wl) (hh:DO X H0 hi wh):DE X H0 (.Subscript e (.Slice lo hi none p2) pos) (fun τ Q=>we τ fun x=>wl τ fun l=>wh τ fun u=>slD x l u Q) where
 mono:=fun τ P Q f h=>he.mono τ _ _ (fun x h=>hl.mono τ _ _ (fun l h=>hh.mono τ _ _ (fun u h=>W9b f h) h) h) h
 pe:=by
  refine peW (W4y (W9f.or (W9c.or W9d)) he.pe hl.po hh.po) fun σ H Q ⟨τ,hR,h⟩=>⟨τ,hR,he.mono τ _ _ (fun x h v H1 s1 ir=>⟨τ,hR.mono s1,hl.mono τ _ _ (fun l h H2 s2=>⟨τ,hR.mono (s1.trans s2),hh.mono τ _ _ (fun u h H3 s3=>?_) h⟩) h⟩) h⟩
  have ir:=ir.mono (s2.trans s3)
  have j9:=s1.trans (s2.trans s3)
  have lists:∀ds,U3 x=some ds->(∀r,r=R.nw (Y3 ds l u)->∀v H',A6 H H'->F7 X.K H H' r v->Q v H')->rSlL X.K v l u H3 Q:=fun ds e1 q=>by
   obtain⟨p,xs,rfl,sq,al⟩:=Q3r e1 ir
   exact⟨p,xs,rfl,sq,fun p' hp=>q _ rfl _ _ (j9.trans (G0 hp _)) ⟨p',_,rfl,j9.free hp,upd_same,(Z2a al l u).mono (Kp.of (G0 hp _)) _ _⟩⟩
  unfold slD at h
  split at h
  ·have ir:A2 X.K H3 (.tup _) v:=ir
   unfold A2 at ir
   obtain⟨p,xs,rfl,sq,al⟩:=ir
   refine .inl ⟨p,xs,rfl,sq,fun _ p' hp=>h _ _ (j9.trans (G0 hp _)) (A2.s_tup (K:=X.K) upd_same ((Z2a al l u).mono (Kp.of (G0 hp _)) _ _)),fun hw=>h _ _ j9 (A2.s_tup (K:=X.K) (H:=H3) sq ?_)⟩
   have:=Z2a al l u
   rw [Y8c hw]at this
   exact this
  ·exact .inr (.inl (lists _ rfl fun r e1=>by subst e1;exact h))
  ·exact .inr (.inl (lists _ rfl fun r e1=>by subst e1;exact h))
  ·exact .inr (.inl (lists _ rfl fun r e1=>by subst e1;exact h))
  ·cases (show v=.str _ from ir)
   exact .inr (.inr ⟨_,rfl,h.1,h.2 _ _ j9 Z2t⟩)
  ·exact h.elim
theorem DE.neg (he:DE X H0 e we):DE X H0 (.UnaryOp .USub e pos) (fun τ Q=>we τ fun r=>Q1h r fun i=>Q (.st (.int (-i)))) where
 mono:=fun τ P Q f h=>he.mono τ _ _ (fun r h=>by obtain⟨i,rfl,q⟩:=Q8n h;exact f _ q) h
 pe:=peW (W5b V0o he.pe) fun σ H Q ⟨τ,hR,h⟩=>⟨τ,hR,he.mono τ _ _ (fun r h v H1 s1 ir=>by
  obtain⟨i,rfl,q⟩:=Q8n h
  exact⟨i,ir,q _ _ s1 V6⟩) h⟩
end
end TK
end
section
namespace TK
open PySem PySem.Spec PyProof.Rows L2
section
variable {X:Cx}{H0:Hp}{a b c e o tg:Expr}{pos bB p p2:Pos}{wa wb we:WE}{x:Str}{d:Addr}{kvs:List (Str×Int)}
theorem DE.gstr {z:Str} (hg:Gl X x) (hm:∃t,X.mg x=some (.str z t)) (hd:(x==("__debug__":Str))=false:=by decide):DE X H0 (.Name x pos) (wC (.str z)):=by
 obtain⟨t,hm⟩:=hm
 exact DE.con (W4r (v:=.str z) hg hm ⟨t,rfl⟩ hd) fun _ _=>A2.s_str
def Q5o (i:Nat) (g:R->R->(R->Prop)->Prop) (we:WE):WS:=fun E τ=>∃s,τ[i]?=some (some s)/\we τ fun y=>g (rdS s) y fun r=>T3 r fun s'=>E.nx (τ.set i (some s'))
theorem DS.aug {i:Nat}{op:Operator}{g:R->R->(R->Prop)->Prop} (ho:OpD X (inplaceOp op) g) (mg:Y1 g) (he:DE X H0 e we) (hN:X.N.Nodup) (hi:X.N[i]?=some x) (hx:Loc X.env.scope x)
  (hf:X.fn x=true\/X.env.scope.names.lookup x=some .local:=by first | exact .inl rfl | exact .inr rfl | assumption):DS X H0 (.AugAssign (.Name x bB) op e pos) (Q5o i g we) where
 mono:=fun τ E F le ⟨s,e1,h⟩=>⟨s,e1,he.mono τ _ _ (fun y h=>mg _ _ _ _ (fun r h=>Z5e (fun s h=>le.nx _ h) h) h) h⟩
 ps:=psW (W5p hN hi hx he.pe ho hf) fun D σ H ⟨τ,hR,s,e1,h⟩=>by
  obtain⟨v,hv,q⟩:=hR.here i s e1
  refine⟨v,hv,τ,hR,he.mono τ _ _ (fun y h u H1 s1 iu=>?_) h⟩
  have iv:IsV X.K H1 (rdS s) v:=(O5.rd (Hs:=fun _=>none) hR.same q).mono s1
  refine⟨rdS s,y,iv,iu.v,mg _ _ _ _ (fun r h z H2 s2 iz=>?_) h⟩
  obtain⟨s',p,cS⟩:=(hR.mono s1).store (i:=i) s2 iz h
  exact p _ _ (Kp.of (s1.trans s2)) cS
theorem Y1n:OpD X (inplaceOp .Add) (M5 NoC fun i j=>i+j):=OpD.ints0 W0e
noncomputable def blkB (sc:Scope) (N0:List Str) (scope:Scope) (N:List Str) (nt:Nat) (cap:List Nat):Bool :=
 decide (scope.kind=.function)&&scope.names.all (fun y=>y.2 != .cell)&&scope.names.all (fun y=>y.2 != .local||scope.names.lookup y.1==some .local) &&
 scope.names.all (fun y=>y.2 != .free||scope.names.lookup y.1==some .free)&&scope.names.all (fun y=>y.2 != .free||sc.names.lookup y.1==some .cell||sc.names.lookup y.1==some .free) &&
 decide (N.length=nt+cap.length)&&(List.range cap.length).all (fun j=>match cap[j]?,N[nt+j]? with | some i,some x=>N0[i]?==some x&&scope.names.contains (x,NameKind.free) | _,_=>false)
theorem O6 {sc:Scope}{N0:List Str}{scope:Scope}{N:List Str}{nt:Nat}{cap:List Nat} (h1:X.env.scope=sc) (h2:X.N=N0) (h:blkB sc N0 scope N nt cap=true):Blk X scope N nt cap:=by
 subst h1 h2
 unfold blkB at h
 simp only [dj]at h
 obtain⟨⟨⟨⟨⟨⟨a1,a2⟩,a3⟩,a4⟩,a5⟩,a6⟩,a7⟩:=h
 refine⟨br a1,fun y hy=>?_,fun y hy e=>?_,fun y hy e=>?_,fun y hy e=>?_,br a6,fun j i x hj hx=>?_⟩
 ·simpa using ck.mp a2 y hy
 ·have:=ck.mp a3 y hy
  rw [e]at this
  simpa using this
 ·have:=ck.mp a4 y hy
  rw [e]at this
  simpa using this
 ·have:=ck.mp a5 y hy
  rw [e]at this
  have this:X.env.scope.names.lookup y.1=some .cell\/X.env.scope.names.lookup y.1=some .free:=by simpa using this
  exact this
 ·have bZ:j<cap.length:=by
   rcases aW j cap.length with h | h
   ·exact h
   ·rw [aw.mpr h]at hj;cases hj
  have:=ck.mp a7 j (aM.mpr bZ)
  rw [hj,hx]at this
  simpa using this
theorem X2 {A:Around}{k:Nat} (hr:E7 k A):A.units+60<cLine:=by have:=hr.units;omega
theorem E7.hu1 {A:Around}{k:Nat} (hr:E7 k A):A.units+1<cLine:=by have:=hr.units;omega
theorem W1b (T:String) (h:T∈["bool","int","str","tuple","list"]):∀K t,t∈["NoneType","bool","int","str","tuple","list"]->PySem.W.kitOne K (.type t) (.type T)=some (Q6k T t):=by
 intro K t ht
 simp only [av,aO,bO]at h ht
 rcases h with rfl | rfl | rfl | rfl | rfl <;> rcases ht with rfl | rfl | rfl | rfl | rfl | rfl <;> rfl
end
end TK
end
section
namespace HT
open PySem PySem.Spec PyProof.Rows
open AutoSeq1 (wpAny_loadPart')
section
variable {prog:Program}{w:World}{A:Around}{E:VS9}{s:Shared}
end
end HT
namespace TK
open PySem PySem.Spec PyProof.Rows L2
section
variable {X:Cx}{H0:Hp}{a b c e o tg:Expr}{pos bB p p2 p3 p4:Pos}{wa wb we:WE}
end
end TK
end
section
namespace TK
open PySem PySem.Spec PyProof.Rows L2
def B5 (we:WE):WE:=fun τ Q=>we τ fun r=>fzR r fun d=>Q (.st d)
def wB (t:WT):WE:=fun τ Q=>t τ fun k=>Q (.st (.bl k))
def Q0v (we:WE):WT:=fun τ Q=>we τ fun r=>Q3e r Q
def Y7:WO:=fun _ Q=>Q none
def Y8 (we:WE):WO:=fun τ Q=>we τ fun r=>Q1h r fun i=>Q (some i)
def wSl (we:WE) (wl wh:WO):WE:=fun τ Q=>we τ fun x=>wl τ fun l=>wh τ fun u=>slD x l u Q
def Z1 (we:WE):WE:=fun τ Q=>we τ fun r=>Q1h r fun i=>Q (.st (.int (-i)))
def W1:WT:=fun _ Q=>Q true
def Z9 (we:WE):WI:=fun τ Q=>we τ fun r=>∃ds,r=.st (.lst ds)/\Q ds τ
def Q8k (i:Nat):WI:=fun τ Q=>∃ds,τ[i]?=some (some (.own ds))/\Q ds (τ.set i (some (.dat (.lst ds))))
def Q6i (we:WE):WI:=fun τ Q=>we τ fun r=>∃ds,r=.st (.tup ds)/\Q ds τ
def Y4 (wr:WA):WI:=fun τ Q=>wr τ fun rs=>∃j:Int,rs=[.st (.int j)]/\-(2 ^ 62)<=j/\j<2 ^ 62/\Q (N8 0 j.toNat) τ
noncomputable def V7 (we:WE):Q8:=fun τ Q=>we τ fun r=>∃ds,U3 r=some ds/\Q ds
noncomputable def Q2p (we:WE):Q8:=fun τ Q=>we τ fun r=>∃ds,r=.st (.tup ds)/\Q ds
noncomputable def Q6l (wr:WA):Q8:=fun τ Q=>wr τ fun rs=>∃j:Int,rs=[.st (.int j)]/\-(2 ^ 62)<=j/\j<2 ^ 62/\Q (N8 0 j.toNat)
noncomputable def Z2v (we:WE):Q8:=fun τ Q=>we τ fun r=>∃x,r=.st (.str x)/\Q (F5 x)
def K3 (wi:WI) (g:WG) (wb:WS):WS:=fun E τ=>wi τ fun ds τ'=>D6 g wb E ds τ'
def Z0c (we:WE) (g:WG):WS:=fun E τ=>we τ fun r=>∃d,r=.st d/\g d τ E.nx
def Z5s (i:Nat) (g:WG):WS:=fun E τ=>∃ds d,τ[i]?=some (some (.own (ds++[d])))/\g d (τ.set i (some (.own ds))) E.nx
def Q5r (i:Nat):WS:=fun E τ=>∃s,τ[i]?=some (some s)/\Q2e s E.rt
structure Df (K:Fg9) (mg:Str->Option Value) (name:Str) (st:Stmt) (ps:List Str) (f:Addr) (fd:FuncData):Prop where
 F:Q3 K name name st f fd
 b:V2 K fd ps []
 k:PySem.W.keepIn K (.ref f)=true
 m:mg name=some (.ref f)
abbrev FnD (P:Program) (w:World) (K:Fg9) (mg:Str->Option Value) (base:Heap) (k:Nat) (f:Addr) (fd:FuncData) (ps:List Str) (sp:E6):Prop:=Q7 P w K mg base N1 k f fd ps (Q4r K ps.length sp)
noncomputable def U6 (r:R):F6:={ nx:=fun _=>r=.st .non,rt:=fun r'=>r'=r,bk:=fun _=>False,ct:=fun _=>False }
section
variable {P:Program}{w:World}{K:Fg9}{mg:Str->Option Value}{base:Heap}
theorem Df.ok {x:Str}{st:Stmt}{f:Addr}{fd:FuncData}{N ps:List Str}{k:Nat}{sp:E6}{ws:WS} (F:Df K mg x st ps f fd) (S:K5 N ps (C5 st))
  (cm:∀(cdv:Value) (A:Around) (outer:List Env) (s:Shared) (H:Hp) (E:XK),E7 k (A.deeper (envOfC x (C5 st) s.heap.objs.size f cdv))->A4 (Q1e N1 P w K mg base N x (C5 st) f cdv A outer s H E).nox H (T0 st) ws)
  (hr:∀rs r,rs.length=ps.length->sp rs r->ws (U6 r) (G9 N rs)):FnD P w K mg base (k+1) f fd ps sp :=
 Q3.okD F.F S fun cdv A outer s H E li=>⟨ws,cm cdv A outer s H E li,hr⟩
end
section
variable {τ:A9}{E:F6}{Q:R->Prop}{QB:Bool->Prop}{wa wb we:WE}{wr:WA}{t u:WT}{ws wt:WS}{i j:Int}{n:Nat}{x y:Str}{ds es:List D}{d e:D}
@[simp] theorem D7:A7 ws wt E τ=ws { E with nx:=wt E } τ:=rfl
@[simp] theorem X6:L3 E τ=E.nx τ:=rfl
@[simp] theorem V9:L1 t ws wt E τ=t τ fun k=>if k=true then ws E τ else wt E τ:=rfl
@[simp] theorem R1:I0 we E τ=we τ fun r=>Q4y r E.rt:=rfl
@[simp] theorem Q6v:Q5r n E τ=∃s,τ[n]?=some (some s)/\Q2e s E.rt:=rfl
@[simp] theorem F9:C1 n we E τ=we τ fun r=>T3 r fun s=>E.nx (τ.set n (some s)):=rfl
@[simp] theorem Y2p {g:R->R->(R->Prop)->Prop}:Q5o n g we E τ=∃s,τ[n]?=some (some s)/\we τ fun y=>g (rdS s) y fun r=>T3 r fun s'=>E.nx (τ.set n (some s')):=rfl
@[simp] theorem Y2o {g:WG}:Z0c we g E τ=we τ fun r=>∃d,r=.st d/\g d τ E.nx:=rfl
@[simp] theorem W8k {g:WG}:Z5s n g E τ=∃ds d,τ[n]?=some (some (.own (ds++[d])))/\g d (τ.set n (some (.own ds))) E.nx:=rfl
@[simp] theorem Q1p:P3 n we E τ=∃ds,τ[n]?=some (some (.own ds))/\we τ fun r=>∃d,r=.st d/\ds.length<sizeLine/\E.nx (τ.set n (some (.own (ds++[d])))):=rfl
@[simp] theorem Y2r:Q5q n we E τ=∃ds,τ[n]?=some (some (.own ds))/\we τ fun r=>∃es,lsM r=some es/\ds.length+es.length<=sizeLine/\E.nx (τ.set n (some (.own (ds++es)))):=rfl
@[simp] theorem S6 {wi:WI}{g:WG}:K3 wi g ws E τ=wi τ fun ds τ'=>D6 g ws E ds τ':=rfl
@[simp] theorem B0:wV n τ Q=∃s,τ[n]?=some (some s)/\Q (rdS s):=rfl
@[simp] theorem E4:wC d τ Q=Q (.st d):=rfl
@[simp] theorem C8 {α:Type}{g:R->R->(α->Prop)->Prop}{Q:α->Prop}:A3 g wa wb τ Q=wa τ fun x=>wb τ fun y=>g x y Q:=rfl
@[simp] theorem s_b:wB t τ Q=t τ fun k=>Q (.st (.bl k)):=rfl
@[simp] theorem Q3u:Q0v we τ QB=we τ fun r=>Q3e r QB:=rfl
@[simp] theorem Z4l:Q5n t u τ QB=t τ fun k=>if k=true then u τ QB else QB false:=rfl
@[simp] theorem Z4r:wOr t u τ QB=t τ fun k=>if k=true then QB true else u τ QB:=rfl
@[simp] theorem W8j:Z0g t τ QB=t τ fun k=>QB (!k):=rfl
@[simp] theorem Q6s:wIf t wa wb τ Q=t τ fun k=>if k=true then wa τ Q else wb τ Q:=rfl
@[simp] theorem C2 {Q:List R->Prop}:A5 τ Q=Q []:=rfl
@[simp] theorem C7 {Q:List R->Prop}:A1 we wr τ Q=we τ fun r=>wr τ fun rs=>Q (r::rs):=rfl
@[simp] theorem s_tup:Q3x wr τ Q=wr τ fun rs=>∃ds,Q0u rs=some ds/\ds.length<=sizeLine/\Q (.st (.tup ds)):=rfl
@[simp] theorem s_lst:G6 wr τ Q=wr τ fun rs=>∃ds,Q0u rs=some ds/\ds.length<=sizeLine/\Q (.nw ds):=rfl
@[simp] theorem E9:B5 we τ Q=we τ fun r=>fzR r fun d=>Q (.st d):=rfl
@[simp] theorem L0 {g:List R->(R->Prop)->Prop}:D3 g wr τ Q=wr τ fun rs=>g rs Q:=rfl
@[simp] theorem U5 {sp:E6}:L8 sp wr τ Q=wr τ fun rs=>rs.all P8=true/\∃r,sp (rs.map N6) r/\Q r:=rfl
@[simp] theorem W8c {T:String}:Z0e T we τ Q=we τ fun r=>∃t,Q7d r=some t/\Q (.st (.bl (Q6k T t))):=rfl
@[simp] theorem Q6w {wl wh:WO}:wSl we wl wh τ Q=we τ fun x=>wl τ fun l=>wh τ fun u=>slD x l u Q:=rfl
@[simp] theorem Q6t {Q:Option Int->Prop}:Y7 τ Q=Q none:=rfl
@[simp] theorem Q6u {Q:Option Int->Prop}:Y8 we τ Q=we τ fun r=>Q1h r fun i=>Q (some i):=rfl
@[simp] theorem Q2x:Z1 we τ Q=we τ fun r=>Q1h r fun i=>Q (.st (.int (-i))):=rfl
@[simp] theorem V1 {cap:List Nat}{wi:Q8}{g:WG}:M6 n cap wi g t we τ Q=wi τ fun ds=>ds.length<=sizeLine/\M2 g t we ds (Q4 n cap τ) fun es=>Q (.nw es):=rfl
@[simp] theorem M8 {Q:A9->Prop}:B1 n d τ Q=Q (τ.set n (some (.dat d))):=rfl
@[simp] theorem Q2u {Q:A9->Prop}:O7 ds τ Q=(ds=[]/\Q τ):=rfl
@[simp] theorem Q2t {g:WG}{gs:WGs}{Q:A9->Prop}:F4 g gs ds τ Q=∃d r,ds=d::r/\g d τ fun τ'=>gs r τ' Q:=rfl
@[simp] theorem Q2v {gs:WGs}{Q:A9->Prop}:N4 n gs d τ Q=∃ds,d=.tup ds/\ds.length=n/\gs ds τ Q:=rfl
@[simp] theorem Q6r {Q:List D->A9->Prop}:Z9 we τ Q=we τ fun r=>∃ds,r=.st (.lst ds)/\Q ds τ:=rfl
@[simp] theorem W7z {Q:List D->A9->Prop}:Q6i we τ Q=we τ fun r=>∃ds,r=.st (.tup ds)/\Q ds τ:=rfl
@[simp] theorem Z4n {Q:List D->A9->Prop}:Y4 wr τ Q=wr τ fun rs=>∃j:Int,rs=[.st (.int j)]/\-(2 ^ 62)<=j/\j<2 ^ 62/\Q (N8 0 j.toNat) τ:=rfl
@[simp] theorem Q2w {Q:List D->Prop}:V7 we τ Q=we τ fun r=>∃ds,U3 r=some ds/\Q ds:=rfl
@[simp] theorem W8d {Q:List D->Prop}:Z2v we τ Q=we τ fun r=>∃x,r=.st (.str x)/\Q (F5 x):=rfl
@[simp] theorem Z4o {Q:List D->Prop}:Q6l wr τ Q=wr τ fun rs=>∃j:Int,rs=[.st (.int j)]/\-(2 ^ 62)<=j/\j<2 ^ 62/\Q (N8 0 j.toNat):=rfl
@[simp] theorem N7:rdS (.dat d)=.st d:=rfl
@[simp] theorem O9:rdS (.own ds)=.bw ds:=rfl
@[simp] theorem W3l:rdS (.bor ds)=.bw ds:=rfl
@[simp] theorem o_sl1:R4 (.st d)=.dat d:=rfl
@[simp] theorem o_sl2:R4 (.bw ds)=.bor ds:=rfl
@[simp] theorem W3m:Q4y (.st d) Q=Q (.st d):=rfl
@[simp] theorem Q6 {P:Sl->Prop}:T3 (.st d) P=P (.dat d):=rfl
@[simp] theorem L7 {P:Sl->Prop}:T3 (.nw ds) P=P (.own ds):=rfl
@[simp] theorem Q8y {P:D->Prop}:fzR (.st d) P=P d:=rfl
@[simp] theorem Q4w {P:D->Prop}:fzR (.nw ds) P=P (.lst ds):=rfl
@[simp] theorem Q0t {P:Int->Prop}:Q1h (.st (.int i)) P=P i:=rfl
@[simp] theorem o_d1:R.d (.st d)=some d:=rfl
@[simp] theorem o_d2:R.d (.nw ds)=some (.lst ds):=rfl
@[simp] theorem o_d3:R.d (.bw ds)=some (.lst ds):=rfl
@[simp] theorem o_nrm1:N6 (.st d)=.st d:=rfl
@[simp] theorem o_nrm2:N6 (.nw ds)=.bw ds:=rfl
@[simp] theorem o_nrm3:N6 (.bw ds)=.bw ds:=rfl
@[simp] theorem o_arg1:P8 (.st d)=true:=rfl
@[simp] theorem o_arg2:P8 (.nw ds)=true:=rfl
@[simp] theorem o_arg3:P8 (.bw ds)=true:=rfl
@[simp] theorem o_sa0:Q0u []=some []:=rfl
@[simp] theorem o_sa1 {rs:List R}:Q0u (.st d::rs)=(Q0u rs).map (d::·):=rfl
@[simp] theorem o_ty1 {b:Bool}:Q7d (.st (.bl b))=some "bool":=rfl
@[simp] theorem Q0c:G2 (.st (.int i)) (.st (.int j)) Q=Q (.st (.int (i+j))):=rfl
@[simp] theorem Z3o:G2 (.st (.str x)) (.st (.str y)) Q=(x.length+y.length<=sizeLine/\Q (.st (.str (x++y)))):=rfl
@[simp] theorem W3e:G2 (.bw ds) (.nw es) Q=(ds.length+es.length<=sizeLine/\Q (.nw (ds++es))):=rfl
@[simp] theorem Z3t:T1 (.st (.int i)) (.st (.int j)) Q=(Q2i i j/\Q (.st (.int (i*j)))):=rfl
@[simp] theorem W3g {C:Int->Int->Prop}{f:Int->Int->Int}:TK.M5 C f (.st (.int i)) (.st (.int j)) Q=(C i j/\Q (.st (.int (f i j)))):=rfl
@[simp] theorem U4 {f:Int->Int->Bool}:J3 f (.st (.int i)) (.st (.int j)) QB=QB (f i j):=rfl
@[simp] theorem Z3q:B9 (.st (.lst ds)) (.st (.int i)) Q=∃d,K7 ds i=some d/\Q (.st d):=rfl
@[simp] theorem W3h:B9 (.nw ds) (.st (.int i)) Q=∃d,K7 ds i=some d/\Q (.st d):=rfl
@[simp] theorem Q1l:B9 (.bw ds) (.st (.int i)) Q=∃d,K7 ds i=some d/\Q (.st d):=rfl
@[simp] theorem W3i:B9 (.st (.tup ds)) (.st (.int i)) Q=∃d,K7 ds i=some d/\Q (.st d):=rfl
@[simp] theorem W3j:D9 [.st (.lst ds)] Q=Q (.st (.int ds.length)):=rfl
@[simp] theorem Z3r:D9 [.st (.tup ds)] Q=Q (.st (.int ds.length)):=rfl
@[simp] theorem W3k:D9 [.nw ds] Q=Q (.st (.int ds.length)):=rfl
@[simp] theorem V8:D9 [.bw ds] Q=Q (.st (.int ds.length)):=rfl
@[simp] theorem Z3s:D9 [.st (.str x)] Q=(x.length<=sizeLine/\Q (.st (.int x.length))):=rfl
@[simp] theorem o_eq {r1 r2:R}{b:Bool}:F8 n b r1 r2 QB=∃d e,r1.d=some d/\r2.d=some e/\d.depth<=n/\QB (if b then !D.eq d e else D.eq d e):=rfl
@[simp] theorem Z3u {b:Bool}:Q3e (.st (.bl b)) QB=QB b:=rfl
@[simp] theorem o_e1:D.eq (.int i) (.int j)=(i==j):=by simp [D.eq]
@[simp] theorem o_e2:D.eq (.str x) (.str y)=(x==y):=by simp [D.eq]
@[simp] theorem o_e3 {b c:Bool}:D.eq (.bl b) (.bl c)=(b==c):=by simp [D.eq]
@[simp] theorem o_e4:D.eq (.lst ds) (.lst es)=D.eqs ds es:=by simp [D.eq]
@[simp] theorem o_e5:D.eq (.tup ds) (.tup es)=D.eqs ds es:=by simp [D.eq]
@[simp] theorem o_eN:D.eqs ds []=ds.isEmpty:=by cases ds <;> simp [D.eqs]
@[simp] theorem W3f {r r':R}:(U6 r).rt r'=(r'=r):=rfl
@[simp] theorem o_endn {r:R}:(U6 r).nx τ=(r=.st .non):=rfl
@[simp] theorem o_dep0:D.depth (.int i)=0:=by simp [D.depth]
@[simp] theorem o_dep1:D.depth (.str x)=0:=by simp [D.depth]
@[simp] theorem o_zl:(0:Nat)<=sizeLine:=bi _
@[simp] theorem V1u {N:List Str}{rs:List R}:G9 N rs=rs.map (fun r=>some (R4 r))++List.replicate (N.length-rs.length) none:=rfl
end
section
variable {X:Cx}{ae:Pn9} {σ:St}{H:Hp}{s:Shared}
open PySem.SeqAt
theorem W6p {d1 d2:D}{u1 u2:Value}{A:Around} (h1:Vw X H s d1 u1) (h2:Vw X H s d2 u2) (hu:A.units<cLine) (hb:¬ Q3n d1 d2):RcNeAt A s u1 u2 (!D.eq d1 d2):=by
 cases h1 <;> cases h2 <;> first | exact absurd (.inl ⟨_,_,rfl,rfl⟩) hb | exact absurd (.inr ⟨_,_,rfl,rfl⟩) hb | (unfold D.eq;(try simp only [Bool.not_true,Bool.not_false]);(with_reducible first | exact RcNeAt.none_none | exact RcNeAt.none_bool _ | exact RcNeAt.none_int _ _ | exact RcNeAt.none_str _ _ | exact RcNeAt.none_tuple (by assumption) hu | exact RcNeAt.none_list (by assumption) hu | exact RcNeAt.bool_none _ | exact RcNeAt.bool_bool _ _ | exact RcNeAt.bool_int _ _ _ | exact RcNeAt.bool_str _ _ _ | exact RcNeAt.bool_tuple _ (by assumption) hu | exact RcNeAt.bool_list _ (by assumption) hu | exact RcNeAt.int_none _ _ | exact RcNeAt.int_bool _ _ _ | exact RcNeAt.int_int _ _ _ _ | exact RcNeAt.int_str _ _ _ _ | exact RcNeAt.int_tuple _ _ (by assumption) hu | exact RcNeAt.int_list _ _ (by assumption) hu | exact RcNeAt.str_none _ _ | exact RcNeAt.str_bool _ _ _ | exact RcNeAt.str_int _ _ _ _ | exact RcNeAt.str_str _ _ _ _ | exact RcNeAt.str_tuple _ _ (by assumption) hu | exact RcNeAt.str_list _ _ (by assumption) hu | exact RcNeAt.tuple_none (by assumption) hu | exact RcNeAt.tuple_bool _ (by assumption) hu | exact RcNeAt.tuple_int _ _ (by assumption) hu | exact RcNeAt.tuple_str _ _ (by assumption) hu | exact RcNeAt.tuple_list (by assumption) (by assumption) hu | exact RcNeAt.list_none (by assumption) hu | exact RcNeAt.list_bool _ (by assumption) hu | exact RcNeAt.list_int _ _ (by assumption) hu | exact RcNeAt.list_str _ _ (by assumption) hu | exact RcNeAt.list_tuple (by assumption) (by assumption) hu))
theorem W6o (I:A0 X ae σ H s) (n:Nat) (d1 d2:D) (v1 v2:V) (u1 u2:Value) (A:Around) (hd:d1.depth<=n) (h1:IsW X.K H d1 v1) (h2:IsW X.K H d2 v2) (r1:C3 v1 u1) (r2:C3 v2 u2) (hu:A.units+n+1<cLine):RcNeAt A s u1 u2 (!D.eq d1 d2):=by
 have w1:=Q5m I h1 r1
 have w2:=Q5m I h2 r2
 by_cases hb:Q3n d1 d2
 ·obtain⟨p,q,rfl,rfl⟩ | ⟨p,q,rfl,rfl⟩:=hb
  ·cases w1;cases w2
   rename_i a1 kA eN fQ gt eI a2 kz ce dO eW dm
   have hd:D.depths p+1<=n:=by unfold D.depth at hd;exact hd
   have l1:eN.toArray.size=p.length:=by have:=eI.length;have:=fQ.length;simp;omega
   have l2:ce.toArray.size=q.length:=by have:=dm.length;have:=dO.length;simp;omega
   have k:=RcNeAt.tuples (A:=A) (s:=s) (e:=fun i=>match p[i]?,q[i]? with | some x,some y=>D.eq x y | _,_=>true) gt eW (by omega) (fun j im eG=>by
    obtain⟨d1,v1,e1,i1,w1⟩:=Q2k eI fQ im
    obtain⟨d2,v2,e2,i2,w2⟩:=Q2k dm dO eG
    simp only [e1,e2]
    exact Q8i I (fun A=>Z4g I n d1 d2 v1 v2 _ _ A (by have:=D.depths_get e1;omega) i1.w i2.w w1 w2) i1 i2 w1 w2 (by simp only [Around.in1_units];omega))
   rw [l1,l2]at k
   unfold D.eq;rw [D.eqs_range];exact k
  ·cases w1;cases w2
   rename_i a1 kA eN fQ gt eI a2 kz ce dO eW dm
   have hd:D.depths p+1<=n:=by unfold D.depth at hd;exact hd
   have l1:eN.toArray.size=p.length:=by have:=eI.length;have:=fQ.length;simp;omega
   have l2:ce.toArray.size=q.length:=by have:=dm.length;have:=dO.length;simp;omega
   have kk:RcNeAt A s (.ref a1) (.ref a2) (!D.eqs p q):=by
    rw [D.eqs_range]
    by_cases bN:p.length=q.length
    ·have k:=RcNeAt.lists (A:=A) (s:=s) (e:=fun i=>match p[i]?,q[i]? with | some x,some y=>D.eq x y | _,_=>true) gt eW (by omega) (by omega) (fun j im eG=>by
      obtain⟨d1,v1,e1,i1,w1⟩:=Q2k eI fQ im
      obtain⟨d2,v2,e2,i2,w2⟩:=Q2k dm dO eG
      simp only [e1,e2]
      exact Q8i I (fun A=>Z4g I n d1 d2 v1 v2 _ _ A (by have:=D.depths_get e1;omega) i1.w i2.w w1 w2) i1 i2 w1 w2 (by simp only [Around.in1_units];omega))
     rw [l1]at k
     rw [<- bN,Nat.min_self,beq_self_eq_true,Bool.and_true]
     exact k
    ·rw [cE.mpr bN,Bool.and_false]
     exact RcNeAt.lists_lengths gt eW (by rw [l1,l2];simpa using bN) (by omega)
   unfold D.eq;exact kk
 ·exact W6p w1 w2 (by omega) hb
theorem Q4g {n:Nat} (hu:X.A.units+n+1<cLine):T5 X .NotEq (F8 n true):=by
 intro ae s σ H x y v u Q I rx ry ⟨r1,r2,h1,h2,d,e,e1,e2,hd,q⟩
 exact W6o I n d e x y v u X.A hd (h1.w e1) (h2.w e2) rx ry hu _ _ _ _ ⟨.bl _,H,I,rfl,q⟩
theorem Q4k {A:Around}{k:Nat} (hr:E7 k A):A.units+59+1<cLine:=by have:=hr.units;omega
end
section
variable {X:Cx}{H0:Hp}{a b c e o tg:Expr}{pos apos bC:Pos}{wa wb wc we:WE}{wr:WA}
def Q0i (x y:R) (Q:R->Prop):Prop:=∃i j,U3 x=some i/\U3 y=some j/\i.length+j.length<=sizeLine/\Q (.nw (i++j))
theorem Z1f:Y1 Q0i:=fun x y P Q g ⟨i,j,a,b,c,q⟩=>⟨i,j,a,b,c,g _ q⟩
theorem Y0r {K:Fg9}{H:Hp}:∀{r:R}{ds:List D}{v:V},U3 r=some ds->IsV K H r v->∃a xs,v=.ref a/\E3 K H a xs/\AllS K H ds xs:=fun {r ds v} e h=>Q3r (H0:=fun _=>none) e h
theorem Z3v:OpD X (binaryOp .Add) Q0i:=by
 intro ae s σ H x y v u Q I rx ry ⟨r1,r2,h1,h2,i,j,e1,e2,hz,q⟩
 obtain⟨l,xs,rfl,sq,al⟩:=Y0r e1 h1
 obtain⟨b,ys,rfl,kG,fG⟩:=Y0r e2 h2
 cases rx;cases ry
 obtain⟨aT,rv,pl,_⟩:=I.list sq
 obtain⟨ce,dO,eW,_⟩:=I.list kG
 have la:=al.length
 have lb:=fG.length
 have lr:=rv.length
 have qy:=dO.length
 obtain⟨⟨cls,dd,data,sl⟩,ho,hc,n,hd⟩:=id pl.isList
 obtain⟨⟨jO,j2,data2,iN⟩,fy,fE,n2,fC⟩:=id eW.isList
 simp only at hc hd fE fC
 subst hc hd fE fC
 have e:aT.toArray++ce.toArray=(aT++ce).toArray:=by simp
 refine concat_meets ⟨_,ho,rfl⟩ ⟨_,fy,rfl⟩ noFill_list_add seq_list_add PySem.F.slot_list_add PySem.F.entry_list_add (PySem.F.args_list_add_2 _ _) (list_addW l b aT.toArray ce.toArray n n2 dd j2 sl iN (by simp;omega)) ⟨ho,fy,?_⟩
 rw [e]
 have fr:=I.fresh
 exact⟨.ref _,_,I.lnew (t':=s.toks) (rv.append dO) (by rw [aq];omega),rfl,q _ _ (G0 fr _) ⟨_,xs++ys,rfl,fr,upd_same,(al.mono (Kp.of (G0 fr _)) _ _).append (fG.mono (Kp.of (G0 fr _)) _ _)⟩⟩
noncomputable def Q6j (x y:Str):Option Nat:=(Builtin.Str.occurrences x y 0 x.length 1).head?
def Z0d (wo we:WE):WE:=fun τ Q=>wo τ fun r1=>∃x,r1=.st (.str x)/\we τ fun r=>∃y i,r=.st (.str y)/\Q6j x y=some i/\Q (.st (.int (i:Int)))
theorem W2v:MtR X "str.index" (fun x vs H Q=>∃z y i,x=.str z/\vs=[.str y]/\Q6j z y=some i/\Q (.int (i:Int)) H):=by
 intro ae s σ H x vs v us Q I rx rv ⟨z,y,i,e1,e2,hi,q⟩
 subst e1 e2
 obtain⟨t,rfl⟩:=rx
 obtain⟨u,rfl,t',rfl⟩:=X9 rv
 unfold Q6j at hi
 cases ho:Builtin.Str.occurrences z y 0 z.length 1 with
 | nil=>rw [ho]at hi;cases hi
 | cons j rest =>
  rw [ho]at hi
  have hi:some j=some i:=hi
  cases hi
  exact PySem.SC.index ho ⟨.int _,H,I.tok _,⟨_,rfl⟩,q⟩
theorem DE.index {wo:WE} (ho:DE X H0 o wo) (he:DE X H0 e we) (cJ:attributeBase o "index" X.env (eval o X.env)=eval o X.env:=by rfl)
  (eR:((backTo bC (starEach [e] X.env)).all (fun x=>!x.1)&&(backToKw bC (keywordEach [] X.env)).all (fun x=>x.1.isSome)&&decide ([e].length+([]:List Keyword).length+(if ([]:List Keyword).isEmpty then 0 else 1)<30))=true:=by rfl)
  (cI:(apos.endLine==bC.line)=true:=by rfl) (hs:starEach [e] X.env=(false,eval e X.env)::starEach [] X.env:=by rfl) (cT:(backTo bC (starEach [] X.env)).any (·.1)=false:=by rfl) :
  DE X H0 (.Call (.Attribute o "index" apos) [e] [] bC) (Z0d wo we) where
 mono:=fun τ P Q f h=>ho.mono τ _ _ (fun r ⟨x,e1,h⟩=>⟨x,e1,he.mono τ _ _ (fun r ⟨y,i,a1,a2,a3⟩=>⟨y,i,a1,a2,f _ a3⟩) h⟩) h
 pe:=peW (Z3z PySem.F.plainAttrs_str PySem.F.slot_str_index PySem.F.type_str_index W2v ho.pe (Q0d he.pe Q2s hs) cJ eR cI hs cT) fun σ H Q ⟨τ,hR,h⟩=>⟨τ,hR,ho.mono τ _ _ (fun r ⟨x,e1,h⟩ v H1 s1 ir=>by
  subst e1
  cases (show v=.str x from ir)
  refine⟨rfl,τ,hR.mono s1,he.mono τ _ _ (fun r ⟨y,i,a1,a2,a3⟩ u H2 s2 iu=>?_) h⟩
  subst a1
  cases (show u=.str y from iu)
  exact⟨x,y,i,rfl,rfl,a2,a3 _ _ (s1.trans s2) V6⟩) h⟩
def Z2o (we:WE):WI:=fun τ Q=>we τ fun r=>∃x,r=.st (.str x)/\Q (F5 x) τ
theorem V1f {K:Fg9}{H0 H:Hp}{x:Str}:Yl K H0 (Its x) (F5 x) H where
 go:=fun H' _ _ i hi=>by
  have:i<x.cps.size:=by simpa [F5]using hi
  exact this
 yld:=fun H' _ _ i v cV d hd ⟨e,c,hc,hv⟩=>by
  subst e hv
  refine⟨A6.refl _,?_⟩
  unfold F5 at hd
  rw [ak]at hd
  have:x.cps.toList[i]?=some c:=by simpa using hc
  rw [this]at hd
  have e:D.str ⟨#[c]⟩=d:=aA hd
  subst e
  exact A2.s_str
 stop:=fun H' _ _=>by
  show(F5 x).length=x.cps.size
  simp [F5]
theorem DI.str (he:DE X H0 e we):DI X H0 tg e (Z2o we) where
 mono:=fun τ P Q f h=>he.mono τ _ _ (fun r ⟨ds,e1,q⟩=>⟨ds,e1,f _ _ q⟩) h
 pi:=by
  intro ae s σ H R I ⟨τ,hR,h⟩
  refine B4 (he.pe ae s σ H (fun v H1=>A6 H H1/\∃x,v=.str x/\∀J H',Kp H H'->C4 X.K H0 τ σ H'->Yl X.K H0 J (F5 x) H'->R J H') I ⟨τ,hR,he.mono τ _ _ (fun r ⟨x,e1,q⟩ v H1 s1 ir=>⟨s1,x,by subst e1;exact ir,q⟩) h⟩) fun u s1 ⟨v,H1,I1,rv,sm,x,e1,q⟩=>?_
  subst e1
  obtain⟨t,rfl⟩:=rv
  have fin:∀(ty:String),(ty="str_ascii_iterator"\/ty="str_iterator")->PIE X ae σ tg R (.ref s1.heap.objs.size) { s1 with heap:=s1.heap.push { cls:=.type ty,data:=.fields #[.str x t,.int 0 0] } }:=fun ty fx=>by
   refine⟨s1.heap.objs.size,[s1.heap.objs.size],_,_,H1,rfl,I1.kept (t':=s1.toks) fun b o e=>af _ e,Y4t (ty:=ty) (x:=x) (t:=t) fx,⟨_,aH _ rfl,rfl,rfl⟩,fun b hb=>?_,q _ _ (Kp.of sm) (hR.mono sm) V1f⟩
   have e:b=s1.heap.objs.size:=by simpa using hb
   subst e
   exact I1.fpOk (ao _) (I1.hok.fresh (ao _))
  cases ha:x.cps.all (·<128)
  ·exact wpAny_pyIter_wide ha (fin _ (.inr rfl))
  ·exact wpAny_pyIter_ascii ha (fin _ (.inl rfl))
end
def Z9a (ds:List D) (P:D->List D->Prop):Prop:=match ds with
 | []=>False
 | d::r=>P d r
def tupR (d:D) (P:List D->Prop):Prop:=match d with
 | .tup ds=>P ds
 | _=>False
section
variable {τ:A9}{Q:R->Prop}{QB:Bool->Prop}{wa wb wc we:WE}{wr:WA}{n:Nat}{d e:D}{ds es:List D}{i j:Int}{x y:Str}
@[simp] theorem W7y {Q:List D->A9->Prop}:Z2o we τ Q=we τ fun r=>∃x,r=.st (.str x)/\Q (F5 x) τ:=rfl
@[simp] theorem W8b:Z0d wa we τ Q=wa τ fun r1=>∃x,r1=.st (.str x)/\we τ fun r=>∃y i,r=.st (.str y)/\Q6j x y=some i/\Q (.st (.int (i:Int))):=rfl
@[simp] theorem Q5a {Q:List D->Prop}:Q2p we τ Q=we τ fun r=>∃ds,r=.st (.tup ds)/\Q ds:=rfl
@[simp] theorem Z3p {r r':R}:Q0i r r' Q=∃i j,U3 r=some i/\U3 r'=some j/\i.length+j.length<=sizeLine/\Q (.nw (i++j)):=rfl
@[simp] theorem Q6q {r:R}:Z0 [r] Q=∃ds,Q5b r=some ds/\Q (.st (.tup ds)):=rfl
@[simp] theorem o_sq2:Q5b (.nw ds)=some ds:=rfl
@[simp] theorem Y1m:Q5b (.bw ds)=some ds:=rfl
@[simp] theorem o_ne {d e:D}:neD (.st d) (.st e) QB ↔ (scD d e=true/\QB (!D.eq d e)):=by
 constructor
 ·rintro ⟨a,b,h1,h2,h3,h4⟩
  cases h1;cases h2
  exact⟨h3,h4⟩
 ·rintro ⟨h3,h4⟩
  exact⟨d,e,rfl,rfl,h3,h4⟩
@[simp high] theorem s_gCn2 {g:WG}{gs:WGs}{Q:A9->Prop}:F4 g gs ds τ Q ↔ Z9a ds fun d r=>g d τ fun τ'=>gs r τ' Q:=by
 constructor
 ·rintro ⟨a,b,h,q⟩
  cases h;exact q
 ·intro h
  cases ds with
  | nil=>exact h.elim
  | cons d r=>exact⟨d,r,rfl,h⟩
@[simp high] theorem s_gTp2 {gs:WGs}{Q:A9->Prop}:N4 n gs d τ Q ↔ tupR d fun ds=>ds.length=n/\gs ds τ Q:=by
 constructor
 ·rintro ⟨a,h,q⟩
  cases h;exact q
 ·intro h
  cases d with
  | tup ds=>exact⟨ds,rfl,h⟩
  | _=>exact h.elim
@[simp] theorem V1t {P:D->List D->Prop}:Z9a (d::ds) P=P d ds:=rfl
@[simp] theorem o_tupR {P:List D->Prop}:tupR (.tup ds) P=P ds:=rfl
@[simp] theorem o_sc1:scD (.int i) (.int j)=true:=rfl
@[simp] theorem o_sc2 {k l:Bool}:scD (.bl k) (.bl l)=true:=rfl
@[simp] theorem o_sc3:scD (.str x) (.str y)=true:=rfl
end
theorem Q1d {we:WE}{f:D->D}{rest:A9}:∀(ds:List D) (o:Option Sl) (Q:List D->Prop),(∀d∈ds,∀Q':R->Prop,Q' (.st (f d))->we (some (.dat d)::rest) Q')->Q (ds.map f)->M2 (B1 0) W1 we ds (o::rest) Q
 | [],o,Q,h,q=>q
 | d::ds,o,Q,h,q=>by
  simp only [M2]
  simp
  refine h d am _ ⟨_,rfl,?_⟩
  exact Q1d ds _ _ (fun d hd=>h d (ai _ hd)) q
theorem Q2m {t:WT}{we:WE}{p:D->Bool}{f:D->D}{rest:A9}:∀(ds:List D) (o:Option Sl) (Q:List D->Prop),(∀d∈ds,∀Q':Bool->Prop,Q' (p d)->t (some (.dat d)::rest) Q') ->
  (∀d∈ds,∀Q':R->Prop,p d=true->Q' (.st (f d))->we (some (.dat d)::rest) Q')->Q ((ds.filter p).map f)->M2 (B1 0) t we ds (o::rest) Q
 | [],o,Q,h,h2,q=>q
 | d::ds,o,Q,h,h2,q=>by
  simp only [M2]
  simp
  refine h d am _ ?_
  cases hp:p d with
  | false =>
   rw [List.filter_cons_of_neg (by simp [hp])]at q
   simp
   exact Q2m ds _ _ (fun d hd=>h d (ai _ hd)) (fun d hd=>h2 d (ai _ hd)) q
  | true =>
   rw [List.filter_cons_of_pos hp]at q
   simp
   refine h2 d am _ hp ⟨_,rfl,?_⟩
   exact Q2m ds _ _ (fun d hd=>h d (ai _ hd)) (fun d hd=>h2 d (ai _ hd)) q
end TK
end
section
namespace HT
open PySem PySem.Spec PyProof.Rows
open AutoSeq1 (wpAny_loadPart')
section
variable {prog:Program}{w:World}{A:Around}{E:VS9}{s:Shared}
end
end HT
namespace TK
open PySem PySem.Spec PyProof.Rows L2
section
variable {X:Cx}
end
end TK
end
section
namespace HT
open PySem PySem.Spec PyProof.Rows
section
variable {prog:Program}{w:World}{A:Around}{E:VS9}{s:Shared}
end
end HT
namespace TK
open PySem PySem.Spec PyProof.Rows L2
section
variable {X:Cx}{H0:Hp}{a b c e tg:Expr}{pos p p2 dP:Pos}{wa wb we:WE}{wr:WA}
noncomputable def Irl (K:Fg9) (l:Addr) (n:Nat):It:=⟨fun i H=>i<n/\∃xs,E3 K H l xs/\xs.length=n,fun i H v H'=>H'=H/\∀xs,E3 K H l xs->xs[n-1-i]?=some v,fun i _=>i=n⟩
theorem V0k {P:Program}{w:World}{K:Fg9}{tg:Expr}{it l:Addr}{n:Nat}:Q1c P w K tg (Irl K l n) [it] it (fun i h=>i<=n/\h.IsRevIter it l ((n:Int)-1-(i:Int))) where
 mem:=by simp
 obj:=fun i h st b hb=>by
  have e:b=it:=by simpa using hb
  subst e
  obtain⟨_,o,ho,hc,hd⟩:=st
  exact⟨o,ho,fun v z=>by rw [hd]at z;cases z⟩
 keep:=fun i h h' st k=>⟨st.1,st.2.at fun o e=>k it (by simp) o e⟩
 item:=by
  intro X hP hw hK hc i ae s σ H E I hf st hg
  subst hP hw hK
  obtain⟨f0,f1,f2,f3,f4,f5⟩:=hf it (by simp)
  obtain⟨bZ,xs,hq,hn⟩:=hg
  obtain⟨aT,rv,pl,hz⟩:=I.list hq
  have hl:=rv.length
  have hx:xs[n-1-i]?=some (xs[n-1-i]'(by omega)):=ab _
  obtain⟨u,hu,ru⟩:=rv.get hx
  have hit:=st.2
  have e:(n:Int)-1-(i:Int)=((n-1-i:Nat):Int):=by omega
  rw [e]at hit
  refine wpAny_pyNext_rev_item hit pl.isList (by simpa using hu) fun h' eO fW=>?_
  have I1:A0 X ae σ H { s with heap:=h' }:=I.turned (t':=s.toks) (fun b o hb e=>fW.extBut b o hb e) f0 f1 f3 f4 f5
  have e2:((n-1-i:Nat):Int)-1=(n:Int)-1-((i+1:Nat):Int):=by omega
  rw [e2]at eO
  obtain⟨o,ho,dR,hd⟩:=id eO
  exact⟨u,rfl,Q6g (s:={ s with heap:=h' }) ho dR hd (by decide) ⟨_,H,I1,ru,⟨rfl,fun ys hy=>by rw [I.list_inj hy hq];exact hx⟩,⟨by omega,eO⟩,fun b hb=>(hf b hb).1⟩⟩
 done:=by
  intro X hP hw hK hc i ae s σ H E I hf st hg
  subst hP hw hK
  obtain⟨f0,f1,f2,f3,f4,f5⟩:=hf it (by simp)
  have hg:i=n:=hg
  subst hg
  have hit:=st.2
  have e:(i:Int)-1-(i:Int)=-1:=by omega
  rw [e]at hit
  exact wpAny_pyNext_rev_end (I.ok.hd hc) hit fun h' eb=>⟨rfl,I.turned (t':=s.toks) (fun b o hb e=>eb b o hb e) f0 f1 f3 f4 f5⟩
 self:=fun _ _ _ _ _ st h=>wpAny_pyIter_revIter st.2 h
noncomputable def Q2h (ds es:List D):List D:=(ds.zip es).map fun p=>.tup [p.1,p.2]
theorem V1l {ds es:List D}{i:Nat}{d:D} (h:(Q2h ds es)[i]?=some d):∃x y,ds[i]?=some x/\es[i]?=some y/\d=.tup [x,y]:=by
 unfold Q2h at h
 rw [ak]at h
 cases e:(ds.zip es)[i]? with
 | none=>rw [e]at h;cases h
 | some q =>
  rw [e]at h
  have h:D.tup [q.1,q.2]=d:=aA h
  rw [List.getElem?_zip_eq_some]at e
  exact⟨q.1,q.2,e.1,e.2,h.symm⟩
theorem Y5s (ds es:List D):(Q2h ds es).length=min ds.length es.length:=by simp [Q2h]
end
end TK
end
section
namespace HT
open PySem PySem.Spec PyProof.Rows L2
section
variable {prog:Program}{w:World}{A:Around}{E:VS9}{s:Shared}
end
end HT
end
section
namespace TK
open PySem PySem.Spec PyProof.Rows L2
theorem Kp.updM {H:Hp}{a:Addr}{old:HO} (h:H a=some old) (nt:∀xs,old≠.tup xs) (nf:∀o u,old≠.frz o u) (o:HO):Kp H (L2.upd H a o) :=
 ⟨fun c ys q=>by rw [B6 (Q0s q h (fun z=>nt _ z.symm))];exact q,fun c ob u q=>by rw [B6 (Q0s q h (fun z=>nf _ _ z.symm))];exact q⟩
theorem C4.mutG {K:Fg9}{H0 H:Hp} {τ:A9} {σ:St}{i:Nat}{s s':Sl}{a:Addr}{old new:HO} (hR:C4 K H0 τ σ H) (e1:τ[i]?=some (some s)) (m:s.mut=true) (hv:σ[i]?=some (some (.ref a))) (h0:H0 a=none)
  (sq:H a=some old) (nt:∀xs,old≠.tup xs) (nf:∀o u,old≠.frz o u) (fW:O5 K H0 (upd H a new) s' (.ref a)) (ne:∀ φ,old≠.ext φ:=by intro φ z;cases z):C4 K H0 (τ.set i (some s')) σ (upd H a new):=by
 have kp:Kp H (upd H a new):=Kp.updM sq nt nf _
 have hl:i<τ.length:=by
  rcases aW i τ.length with h | h
  ·exact h
  ·rw [aw.mpr h]at e1;cases e1
 have jd:∀(j:Nat) (t:Sl),(τ.set i (some s'))[j]?=some (some t)->j≠i->τ[j]?=some (some t):=fun j t e hj=>by rw [aP (fun z=>hj z.symm)]at e;exact e
 have ef:∀(j:Nat) (t:Sl),(τ.set i (some s'))[j]?=some (some t)->t.mut=true->∃t',τ[j]?=some (some t')/\t'.mut=true:=fun j t e mm=>by
  by_cases hj:j=i
  ·subst hj;exact⟨_,e1,m⟩
  ·exact⟨t,jd j t e hj,mm⟩
 refine⟨by rw [bW];exact hR.len,fun b ob hb=>?_,fun j t e=>?_,fun j k t u v cy e2 e3 m1 m2 q1 q2=>?_⟩
 ·rw [B6 (Y6 hb h0)];exact hR.same b ob hb
 ·by_cases hj:j=i
  ·subst hj
   rw [Q0l hl]at e;cases e
   exact⟨_,hv,fW⟩
  ·have e:=jd j t e hj
   obtain⟨v,q,r⟩:=hR.here j t e
   refine⟨v,q,?_⟩
   have ap:t.mut=true->v≠.ref a:=fun mm z=>by
    subst z
    exact hR.apart i j _ t (.ref a) (fun z=>hj z.symm) e1 e m mm hv q
   cases t with
   | dat d=>exact A2.mono kp _ _ r
   | own es=>obtain⟨b,ys,e,n,q,t⟩:=r;exact⟨b,ys,e,n,by rw [B6 (fun z=>ap rfl (by rw [e,z]))];exact q,t.mono kp _ _⟩
   | bor es=>obtain⟨b,ys,e,q,t⟩:=r;exact⟨b,ys,e,q,t.mono kp _ _⟩
   | bd es=>obtain⟨b,ys,e,q,t⟩:=r;exact⟨b,ys,e,q,t.mono kp _ _⟩
   | dk es=>obtain⟨b,ys,e,n,q,t⟩:=r;exact⟨b,ys,e,n,by rw [B6 (fun z=>ap rfl (by rw [e,z]))];exact q,t.mono kp _ _⟩
   | dt es=>obtain⟨b,ys,e,n,q,t⟩:=r;exact⟨b,ys,e,n,by rw [B6 (fun z=>ap rfl (by rw [e,z]))];exact q,t.mono kp _ _⟩
   | ob _=>exact r
   | cl _ _=>exact⟨r.1,r.2.2 _ _ kp r.2.1,r.2.2⟩
   | ll _ _=>exact⟨r.1,r.2.keep kp fun b φ q=>by rw [B6 (Q0s q sq (fun z=>ne _ z.symm))];exact q⟩
   | ins _ _ _=>obtain⟨e,n,dx,ys,q,t⟩:=r;exact⟨e,n,dx,ys,by rw [B6 (fun z=>ap rfl (by rw [e,z]))];exact q,t.mono kp _ _⟩
 ·obtain⟨s1,ma,kT⟩:=ef j t e2 m1
  obtain⟨t1,m9,kS⟩:=ef k u e3 m2
  exact hR.apart j k s1 t1 v cy ma m9 kT kS q1 q2
noncomputable def R0:D->Option B3
 | .int i=>some (.inl i)
 | .str x=>some (.inr x)
 | _=>none
section
variable {κ:Type} [DecidableEq κ]
noncomputable def J7 (kvs:List (κ×D)) (k:κ):Option D:=(kvs.find? fun kv=>decide (kv.1=k)).map (·.2)
noncomputable def S4 (kvs:List (κ×D)) (k:κ) (v:D):List (κ×D):=if (kvs.any fun kv=>decide (kv.1=k))=true then kvs.map (fun kv=>if kv.1=k then(kv.1,v)else kv)else kvs++[(k,v)]
theorem D4.val {K:Fg9}{H:Hp}{k:κ}:∀{kvs:List (κ×D)}{ps:List (κ×V)},D4 K H kvs ps->(J7 kvs k=none/\X8 ps k=none)\/∃d v,J7 kvs k=some d/\X8 ps k=some v/\A2 K H d v
 | [],ps,h=>by unfold D4 at h;subst h;exact .inl ⟨rfl,rfl⟩
 | p::kvs,ps,h=>by
  unfold D4 at h
  obtain⟨v,r,rfl,iv,h⟩:=h
  by_cases e:p.1=k
  ·exact .inr ⟨p.2,v,by simp [J7,bn,e],Z0b e,iv⟩
  ·rw [Z0a (p:=(p.1,v)) e]
   have:J7 (p::kvs) k=J7 kvs k:=by simp [J7,bn,e]
   rw [this]
   exact D4.val h
theorem D4.any {K:Fg9}{H:Hp}{k:κ}:∀{kvs:List (κ×D)}{ps:List (κ×V)},D4 K H kvs ps->(kvs.any fun kv=>decide (kv.1=k))=(ps.any fun kv=>decide (kv.1=k))
 | [],ps,h=>by unfold D4 at h;subst h;rfl
 | p::kvs,ps,h=>by
  unfold D4 at h
  obtain⟨v,r,rfl,iv,h⟩:=h
  rw [List.any_cons,List.any_cons,D4.any h]
theorem D4.length {K:Fg9}{H:Hp}:∀{kvs:List (κ×D)}{ps:List (κ×V)},D4 K H kvs ps->kvs.length=ps.length
 | [],ps,h=>by unfold D4 at h;subst h;rfl
 | p::kvs,ps,h=>by
  unfold D4 at h
  obtain⟨v,r,rfl,iv,h⟩:=h
  rw [aB,aB,D4.length h]
theorem D4.app {K:Fg9}{H:Hp}{k:κ}{d:D}{v:V} (q:A2 K H d v):∀{kvs:List (κ×D)}{ps:List (κ×V)},D4 K H kvs ps->D4 K H (kvs++[(k,d)]) (ps++[(k,v)])
 | [],ps,h=>by unfold D4 at h;subst h;exact⟨v,[],rfl,q,rfl⟩
 | p::kvs,ps,h=>by
  unfold D4 at h
  obtain⟨v',r,rfl,iv,h⟩:=h
  exact⟨v',_,rfl,iv,D4.app q h⟩
theorem D4.repl {K:Fg9}{H:Hp}{k:κ}{d:D}{v:V} (q:A2 K H d v):∀{kvs:List (κ×D)}{ps:List (κ×V)},D4 K H kvs ps->D4 K H (kvs.map fun kv=>if kv.1=k then(kv.1,d)else kv) (ps.map fun kv=>if kv.1=k then(kv.1,v)else kv)
 | [],ps,h=>by unfold D4 at h;subst h;rfl
 | p::kvs,ps,h=>by
  unfold D4 at h
  obtain⟨v',r,rfl,iv,h⟩:=h
  have ih:=D4.repl (k:=k) q h
  by_cases e:p.1=k
  ·simp only [au,e,gj]
   exact⟨v,_,rfl,q,ih⟩
  ·simp only [au,e,dY]
   exact⟨v',_,rfl,iv,ih⟩
theorem D4.put {K:Fg9}{H:Hp}{k:κ}{d:D}{v:V} (q:A2 K H d v) {kvs:List (κ×D)}{ps:List (κ×V)} (h:D4 K H kvs ps):D4 K H (S4 kvs k d) (S5 ps k v):=by
 unfold S4 S5
 rw [D4.any h]
 split
 ·exact D4.repl (k:=k) q h
 ·exact D4.app q h
end
section
variable {X:Cx}{H0:Hp}{a b c e o tg:Expr}{pos bB p2 apos bC:Pos}{wa wb wi we:WE}{x:Str}
def Z0h (i:Nat) (wi wv:WE):WS:=fun E τ=>wv τ fun r=>∃d,r=.st d/\∃ds,τ[i]?=some (some (.own ds))/\wi τ fun rk=>∃k j,rk=.st (.int k)/\ixN ds.length k=some j/\E.nx (τ.set i (some (.own (ds.set j d))))
theorem DS.setIx {i:Nat}{v:Expr}{wv:WE} (ho:PE X o (T4 i)) (he:DE X H0 e we) (hv:DE X H0 v wv)
  (hs:swapsWithSole [.Subscript o e bB] v pos.line X.env=pure false:=by rfl) (hw:swappedStores [.Subscript o e bB] v X.env=pure none:=by rfl)
  (h1:(assignEach [.Subscript o e bB] X.env).map (·.2)=[assign (.Subscript o e bB) X.env]:=by rfl)
  (ha:∀v,assign (.Subscript o e bB) X.env v=(do
   let ov <- holding [v] (eval o X.env)
   let iv <- holding [v,ov] (eval e X.env)
   standAt bB
   holding [v,ov,iv] (setItem ov iv v)
   release [v,ov,iv] []):=by intro _;rfl):DS X H0 (.Assign [.Subscript o e bB] v pos) (Z0h i we wv) where
 mono:=fun τ E F le h=>hv.mono τ _ _ (fun r ⟨d,e1,ds,e2,h⟩=>⟨d,e1,ds,e2,he.mono τ _ _ (fun r ⟨k,j,a1,a2,a3⟩=>⟨k,j,a1,a2,le.nx _ a3⟩) h⟩) h
 ps:=psW (Z4c hv.pe (W5e ho he.pe Y3x ha) hs hw h1) fun D σ H ⟨τ,hR,h⟩=>by
  refine⟨τ,hR,hv.mono τ _ _ (fun r ⟨d,e1,ds,e2,h⟩ u H1 s1 ir=>?_) h⟩
  subst e1
  have dF:=hR.mono s1
  obtain⟨a,xs,fU,h0,sq,al⟩:=dF.ownAt e2
  refine⟨_,fU,τ,dF,he.mono τ _ _ (fun rk ⟨k,j,a1,a2,a3⟩ y H2 s2 ik=>?_) h⟩
  subst a1
  cases (show y=.int k from ik)
  have fN:=s2 _ _ sq
  refine⟨a,xs,k,j,rfl,rfl,fN,by rw [<- al.length];exact a2,?_⟩
  have dm:AllS X.K H2 (ds.set j d) (xs.set j u):=AllS.set (A2.mono (Kp.of s2) _ _ ir) j (al.mono (Kp.of s2) _ _)
  exact a3 σ _ ((Kp.of (s1.trans s2)).trans (Kp.upd fN _)) ((dF.mono s2).mutate e2 fU h0 fN dm)
end
section
variable {τ:A9}{E:F6}{Q:R->Prop}{QB:Bool->Prop}{wa wb wc we:WE}{wr:WA}{n:Nat}{d e:D}{ds es:List D}{i j:Int}{x y:Str}
@[simp] theorem W8n:Z0h n wa wb E τ=wb τ fun r=>∃d,r=.st d/\∃ds,τ[n]?=some (some (.own ds))/\wa τ fun rk=>∃k j,rk=.st (.int k)/\ixN ds.length k=some j/\E.nx (τ.set n (some (.own (ds.set j d)))):=rfl
@[simp] theorem Y1l {k:Int}:T1 (.nw ds) (.st (.int k)) Q=(-(2 ^ 63)<=k/\k<2 ^ 63/\ds.length*k.toNat<=sizeLine/\Q (.nw (List.replicate k.toNat ds).flatten)):=rfl
@[simp] theorem Q8z {lo hi:Option Int}:slD (.bw ds) lo hi Q=Q (.nw (Y3 ds lo hi)):=rfl
end
theorem Z8y {we:WE}{f:D->D->D}{rest:A9}:∀(ps:List (D×D)) (o1 o2:Option Sl) (Q:List D->Prop),(∀p∈ps,∀Q':R->Prop,Q' (.st (f p.1 p.2))->we (some (.dat p.1)::some (.dat p.2)::rest) Q') ->
  Q (ps.map fun p=>f p.1 p.2)->M2 (N4 2 (F4 (B1 0) (F4 (B1 1) O7))) W1 we (ps.map fun p=>.tup [p.1,p.2]) (o1::o2::rest) Q
 | [],o1,o2,Q,h,q=>q
 | p::ps,o1,o2,Q,h,q=>by
  simp only [au,M2]
  simp
  refine h p am _ ⟨_,rfl,?_⟩
  exact Z8y ps _ _ _ (fun p hp=>h p (ai _ hp)) q
theorem V1c {K:Fg9}{H0 H:Hp}{l:Addr}{xs:List V}{ds:List D} (hq:∀H',Kp H H'->A6 H0 H'->E3 K H' l xs) (al:AllS K H ds xs):Yl K H0 (Iel K l) (K0 ds) H where
 go:=fun H' k s i hi=>by
  rw [Q2n]at hi
  exact⟨xs,xs[i]'(by rw [<- al.length];exact hi),hq H' k s,ab _⟩
 yld:=fun H' k s i v cV d hd ⟨T,x,hx,hT,hv,hH⟩=>by
  subst hH hv
  refine⟨G0 hT _,?_⟩
  obtain⟨y,hy,rfl⟩:=Q8h hd
  obtain⟨v,hv,q⟩:=al.get hy
  rw [hx xs (hq H' k s)]at hv;cases hv
  exact A2.s_tup upd_same (AllS.cons A2.s_int (AllS.cons (q.mono (k.trans (Kp.of (G0 hT _))) _ _) AllS.nil))
 stop:=fun H' k s=>⟨xs,hq H' k s,by rw [Q2n];exact al.length.symm⟩
section
variable {X:Cx}{H0:Hp}{a:Expr}{p pos:Pos}{wr:WA}
def Z2n (wr:WA):WI:=fun τ Q=>wr τ fun rs=>∃ds,rs=[.st (.lst ds)]/\Q (K0 ds) τ
theorem DI.enumF {db:List Expr}{kk:Nat}{pt:Pos} (hg:Gl X "enumerate") (hm:X.mg "enumerate"=none) (hv:bootBuiltins "enumerate"=some (.type "enumerate")) (ha:DA X H0 [a] wr) (he:starEach [a] X.env=(false,eval a X.env)::starEach [] X.env:=by rfl) (hpl:(backTo pos (starEach [] X.env)).any (·.1)=false:=by rfl) :
  DI X H0 (.Tuple db kk pt) (.Call (.Name "enumerate" p) [a] [] pos) (Z2n wr) where
 mono:=fun τ P Q f h=>ha.mono τ _ _ (fun r ⟨ds,e1,q⟩=>⟨ds,e1,f _ _ q⟩) h
 pi:=by
  intro ae s σ H R I ⟨τ,hR,h⟩
  refine bo (Q0p I hg hm hv ?_ (by decide) (by decide))
  refine bt (B4 (ha.pa pos ae s σ H (fun vs H1=>A6 H H1/\∃l xs ds,vs=[.ref l]/\FzL X.K H1 l xs/\AllS X.K H1 ds xs/\∀J H',Kp H H'->C4 X.K H0 τ σ H'->Yl X.K H0 J (K0 ds) H'->R J H') I
   ⟨τ,hR,ha.mono τ _ _ (fun rs ⟨ds,e1,q⟩ vs H1 s1 cu=>⟨s1,by
    subst e1
    obtain⟨v,rfl,ir⟩:=W7 cu
    have ir:A2 X.K H1 (.lst ds) v:=ir
    unfold A2 at ir
    obtain⟨l,xs,rfl,sq,al⟩:=ir
    exact⟨l,xs,ds,rfl,sq,al,q⟩⟩) h⟩) fun us s1 bx=>?_) he hpl
  obtain⟨vs,H1,I1,rv,sm,l,xs,ds,e1,sq,al,q⟩:=bx
  subst e1
  have big:∀b∈[s1.heap.objs.size+1,s1.heap.objs.size],O4 X ae H1 b:=fun b hb=>by
   have hb:s1.heap.objs.size<=b:=by
    rcases av.mp hb with rfl | hb
    ·exact dn _
    ·have e:b=s1.heap.objs.size:=by simpa using hb
     rw [e];exact ao _
   exact I1.fpOk hb (I1.hok.fresh hb)
  obtain⟨u,rfl,ru⟩:=X9 rv
  cases (show u=Value.ref l from ru)
  obtain⟨aT,fw,pl,iR⟩:=I1.list sq.sq
  obtain⟨o,n,ho,_⟩:=id pl
  have hl:l<s1.heap.objs.size:=ay ho
  refine call_enumerate_list pl.isList fun h' he hi hz k=>?_
  refine cr he ⟨s1.heap.objs.size+1,[s1.heap.objs.size+1,s1.heap.objs.size],_,_,H1,rfl,I1.kept (t':=s1.toks) k,Y4r (l:=l) (fJ _) (aD (bu hl)) (aD hl),⟨⟨_,he⟩,hi⟩,big,q _ _ (Kp.of sm) (hR.mono sm) (V1c (xs:=xs) (fun H' k _=>(k.fzL sq).sq) al)⟩
end
section
variable {τ:A9}{wr:WA}{QB:Bool->Prop}
end
end TK
end
section
namespace L2
open PySem PySem.Spec PyProof.Rows
variable {X:Cx}{CX:CXT}{k i:Nat}{f:Addr}{fd:FuncData}{ps:List Str}{sp:Sp}{ds:List Value}{gE:List V}{E:XK}{x:Str}{e:Expr}{es:List Expr}{t:TA}{p pos:Pos}
end L2
namespace TK
open PySem PySem.Spec PyProof.Rows L2
section
variable {X:Cx}{H0:Hp}{e:Expr}{es:List Expr}{wr:WA}{k i:Nat}{f:Addr}{fd:FuncData}{ps:List Str}{sp:E6}{x:Str}{p pos:Pos}
end
end TK
end
section
namespace L2
open PySem PySem.Spec PyProof.Rows
theorem Y6s {pos:Pos}{a b:Int}{c cv:Value} (l:List Value) (t:TriplesOk l) (h:codeAmong pos (l++[rawInt a,rawInt b,c])=some cv):codeAmong pos l=some cv\/cv=c:=by
 fun_induction TriplesOk l with
 | case1 =>
  right
  have h:(if (a==(pos.line:Int)&&b==(pos.col:Int))=true then some c else codeAmong pos [])=some cv:=h
  split at h
  ·exact(aA h).symm
  ·cases h
 | case2 i ti j tj x rest ih =>
  have h:(if (i==(pos.line:Int)&&j==(pos.col:Int))=true then some x else codeAmong pos (rest++[rawInt a,rawInt b,c]))=some cv:=h
  show(if (i==(pos.line:Int)&&j==(pos.col:Int))=true then some x else codeAmong pos rest)=some cv\/_
  split at h
  ·rename_i hc;rw [aC hc];exact .inl h
  ·rename_i hc;rw [ax hc];exact ih t h
 | case3=>exact t.elim
noncomputable def U7:HO:=.ext fun _=>True
theorem Q7r {P:Program}{w:World}{H:Hp}{h:Heap}{a:Addr}{o:Obj} (e:h.get? a=some o):K4 P w H h a (.frz o U7):=⟨e,trivial,⟨o,e⟩,fun _ _ _ _=>trivial⟩
def Q0w (mg:Str->Option Value) (base:Heap):Prop:=∃bm ob,mg "__builtins__"=some (.ref bm)/\bm≠builtinsNs/\base.get? bm=some ob/\ob.cls=.type "module"/\ob.dict=some builtinsNs/\ob.data=.plain
noncomputable abbrev X3 (X:Cx) (params:Arguments) (body:Expr) (sc:Scope) (clos:List (Str×Addr)) (c':Addr) (ctv:Value):Obj :=
 PySem.W.kla_obj "<lambda>" (X.env.qual++"<lambda>") params body sc clos ((X.mg "__name__").getD .none) c' ctv
def tLam (P:Addr) (ob:Addr->Value->Obj):TE:=fun _ H Q=>∀f c' oc ctv H',A6 H H'->Q3z oc->H f=none->H' c'=some (.frz oc (.own P))->H' f=some (.frz (ob c' ctv) U7)->(∀b,H' b≠none->H b=none->b=f\/b=c')->Q (.ref f) H'
section
variable {X:Cx}{params:Arguments}{body:Expr}{sc:Scope}{pos:Pos}{c P:Addr}{clos:List (Str×Addr)}
theorem Z4a (hB:Q0w X.mg X.base) (dw:X.env.code=.ref c) (hC:PySem.W.codeHdIn X.K c P=true) (gA:closureFor sc X.env=pure clos) (hd:defaultsOf params X.env=([],[]):=by rfl) :
  PE X (.Lambda params body sc pos) (fun σ H Q=>H P=some .tab/\tLam P (fun c' ctv=>X3 X params body sc clos c' ctv) σ H Q):=by
 intro ae s σ H Q I ⟨hP,h⟩
 refine PySem.W.kla_eval hd ?_
 have fi:s.heap.Ns mainGlobals X.mg:=I.mod.glob.keeps I.bk
 have C:=PySem.W.codeHd_of_K I.kIn hC
 obtain⟨ps,eP,ht,en⟩:=(show K4 X.prog X.w H s.heap P .tab from I.hok P _ hP)
 obtain⟨bm,ob,b1,b2,b3,b4,b5,b6⟩:=hB
 have bH:∀b o,X.base.get? b=some o->b≠P:=fun b o e z=>by
  have:=(I.bs b o e).2
  rw [z,hP]at this;cases this
 have lB:mainGlobals≠P:=by
  obtain⟨o,es,ep,e,hd,_⟩:=I.mod.glob
  exact bH _ _ e
 have gu:bm≠mainGlobals:=fun same=>by
  obtain⟨go,_,_,ge,gd,_⟩:=I.mod.glob
  rw [same,ge]at b3
  cases b3
  rw [gd]at b6
  cases b6
 have mR:s.heap.BuiltinsAt X.mg P:=⟨bm,ob,b1,b2,gu,bH _ _ b3,I.bk _ _ b3,b4,b5,b6⟩
 cases hf:codeAmong pos ps.toList with
 | some cv =>
  obtain⟨c',oc,rfl,dg,dR⟩:=en pos cv hf
  refine PySem.W.kla_makeFunctionHit (mg:=X.mg) gA I.ok.glob fi dw C eP ht hf mR fun ctv h' tk hk hsz=>?_
  have mO:H h'.objs.size=none:=I.hok.fresh hsz
  have ne:∀b u,H b=some u->b≠h'.objs.size:=fun b u e z=>by rw [z,mO]at e;cases e
  have kp:∀b o,s.heap.get? b=some o->(h'.push (X3 X params body sc clos c' ctv)).get? b=some o:=fun b o e=>af _ (hk b o e)
  have lt:∀b o,s.heap.get? b=some o->b≠h'.objs.size:=fun b o e=>aD (az (ay e) hsz)
  refine⟨.ref h'.objs.size,upd H h'.objs.size (.frz (X3 X params body sc clos c' ctv) U7),I.un (t':=tk) ⟨fun b o e _ _ _=>kp b o e,fun b o e _ _ _=>⟨o.slots,kp b o e⟩,fun b o e n _=>by rw [B6 (lt b o e)];exact n,fun b o e _=>⟨o,kp b o e⟩,
   fun b xs e=>by rw [B6 (ne b _ e)];exact e,fun b o u e=>by rw [B6 (ne b _ e)];exact e,fun b ps e=>⟨#[],by rw [B6 (ne b _ e),e];simp⟩⟩ ?_,rfl,?_⟩
  ·refine J1.laid (h:=s.heap) I.hok kp hsz (Q7r (aH _ rfl))
  ·exact h _ c' oc ctv _ (fun b u e=>by rw [B6 (ne b _ e)];exact e) dR mO (by rw [B6 (ne _ _ dg)];exact dg) upd_same fun b n1 n2=>by
    by_cases hb:b=h'.objs.size
    ·exact .inl hb
    ·rw [B6 hb]at n1;exact absurd n2 n1
 | none =>
  refine PySem.W.kla_makeFunction (mg:=X.mg) gA I.ok.glob fi dw C eP ht hf lB mR fun c' ctv h' tk hx iw bZ lh mG=>?_
  obtain⟨c₂,oc,vs,tq,e2,dR,mQ,hv⟩:=lh
  cases e2
  have iC:H c'=none:=I.hok.fresh iw
  have gX:H h'.objs.size=none:=I.hok.fresh (aV iw (cD bZ))
  have pO:c'≠h'.objs.size:=aD bZ
  have qJ:P≠c':=fun z=>by rw [<- z,hP]at iC;cases iC
  have qI:P≠h'.objs.size:=fun z=>by rw [<- z,hP]at gX;cases gX
  have om:∀b o,s.heap.get? b=some o->b≠c':=fun b o e=>aD (az (ay e) iw)
  have oj:∀b o,s.heap.get? b=some o->b≠h'.objs.size:=fun b o e=>aD (az (ay e) (aV iw (cD bZ)))
  have oa:∀b u,H b=some u->b≠c':=fun b u e z=>by rw [z,iC]at e;cases e
  have nZ:∀b u,H b=some u->b≠h'.objs.size:=fun b u e z=>by rw [z,gX]at e;cases e
  have hH:∀b,b≠c'->b≠h'.objs.size->upd (upd H c' (.frz oc (.own P))) h'.objs.size (.frz (X3 X params body sc clos c' ctv) U7) b=H b:=fun b n1 n2=>by rw [B6 n2,B6 n1]
  have lZ:upd (upd H c' (.frz oc (.own P))) h'.objs.size (.frz (X3 X params body sc clos c' ctv) U7) c'=some (.frz oc (.own P)):=by rw [B6 pO,upd_same]
  have kp:∀b o,b≠P->s.heap.get? b=some o->(h'.push (X3 X params body sc clos c' ctv)).get? b=some o:=fun b o n e=>af _ (hx b o n e)
  have nP:∀b,H b=none->b≠P:=fun b n z=>by rw [z,hP]at n;cases n
  have sm:A6 H (upd (upd H c' (.frz oc (.own P))) h'.objs.size (.frz (X3 X params body sc clos c' ctv) U7)):=fun b u e=>by rw [hH b (oa b u e) (nZ b u e)];exact e
  refine⟨.ref h'.objs.size,upd (upd H c' (.frz oc (.own P))) h'.objs.size (.frz (X3 X params body sc clos c' ctv) U7),I.un (t':=tk) ⟨fun b o e n _ _=>kp b o (nP b n) e,fun b o e n _ _=>⟨o.slots,kp b o (nP b n) e⟩,fun b o e n _=>by rw [hH b (om b o e) (oj b o e)];exact n,fun b o e _=>?_,
   fun b xs e=>sm _ _ e,fun b o u e=>sm _ _ e,fun b ps e=>⟨#[],by rw [sm _ _ e];simp⟩⟩ ?_,rfl,?_⟩
  ·by_cases hb:b=P
   ·exact⟨_,af _ (hb ▸ mG)⟩
   ·exact⟨o,kp b o hb e⟩
  ·intro b u e
   by_cases mS:b=h'.objs.size
   ·subst mS;rw [upd_same]at e;cases e
    exact Q7r (aH _ rfl)
   by_cases hbc:b=c'
   ·subst hbc;rw [lZ]at e;cases e
    exact⟨af _ dR,⟨_,af _ dR⟩⟩
   rw [hH b hbc mS]at e
   by_cases hbP:b=P
   ·subst hbP;rw [hP]at e;cases e
    refine⟨_,af _ mG,?_,fun bB cv q=>?_⟩
    ·have:=TriplesOk_snoc (pos.line:Int) (pos.col:Int) (.ref c') ps.toList ht
     simpa using this
    ·have q:codeAmong bB (ps.toList++[rawInt (pos.line:Int),rawInt (pos.col:Int),.ref c'])=some cv:=by simpa using q
     rcases Y6s _ ht q with q | q
     ·obtain⟨c2,o2,e1,e2,e3⟩:=en bB cv q
      exact⟨c2,o2,e1,sm _ _ e2,e3⟩
     ·exact⟨c',oc,q,lZ,⟨vs,_,tq,mQ,hv⟩⟩
   ·refine(I.hok b u e).stay (fun d v hc q=>kp d v ?_ q) (fun d v _ q=>sm _ _ q) fun d xs q=>sm _ _ q
    rcases hc with z | z
    ·rw [z];exact hbP
    ·intro z2
     rw [z2,hP]at z;cases z
  ·exact h _ c' oc ctv _ sm ⟨vs,_,tq,mQ,hv⟩ gX lZ upd_same fun b n1 n2=>by
    by_cases hb:b=h'.objs.size
    ·exact .inl hb
    by_cases kn:b=c'
    ·exact .inr kn
    ·rw [hH b kn hb]at n1;exact absurd n2 n1
end
end L2
end
section
namespace L2
open PySem PySem.Spec PyProof.Rows
structure M7 where
 name:Str
 addr:Addr
 obj:Obj
 val:V
 slot:TK.Sl
noncomputable def L6 (S:List Addr) (H:Hp):Hp:=fun b=>if b∈S then none else H b
theorem Q6h {S:List Addr}{H:Hp}{b:Addr} (h:b∈S):L6 S H b=none:=aC h
theorem Q1f {S:List Addr}{H:Hp}{b:Addr} (h:b∉S):L6 S H b=H b:=ax h
theorem Y9m {S:List Addr}{H:Hp}{b:Addr}{u:HO} (h:L6 S H b=some u):b∉S/\H b=some u:=by
 by_cases hb:b∈S
 ·rw [Q6h hb]at h;cases h
 ·exact⟨hb,by rw [Q1f hb]at h;exact h⟩
noncomputable def showS (S:List Addr) (H H':Hp):Hp:=fun b=>if b∈S then H b else H' b
theorem Y3z {S:List Addr}{H H':Hp}{b:Addr} (h:b∈S):showS S H H' b=H b:=aC h
theorem Q9h {S:List Addr}{H H':Hp}{b:Addr} (h:b∉S):showS S H H' b=H' b:=ax h
def S9 (S:List Addr) (H:Hp):Prop:=∀c∈S,∃o u,H c=some (.frz o U7)/\o.data=.cell u
section
variable {P:Program}{w:World}{S:List Addr}{H H':Hp}{h h':Heap}
theorem S9.out (hS:S9 S H) {b:Addr}{u:HO} (e:H b=some u) (n:∀o,u≠.frz o U7):b∉S:=fun hb=>by
 obtain⟨o,_,q,_⟩:=hS b hb
 rw [e]at q;exact n o (aA q)
theorem S9.tup (hS:S9 S H) {b:Addr}{xs:List V} (e:H b=some (.tup xs)):L6 S H b=some (.tup xs):=by
 rw [Q1f (hS.out e (by intro o z;cases z))];exact e
theorem S9.own (hS:S9 S H) {a b:Addr}{u:HO} (ow:Z0y a u) (e:H b=some u):L6 S H b=some u:=by
 rw [Q1f (hS.out e (by
  intro o z
  rcases ow with rfl | ⟨o',rfl⟩
  ·cases z
  ·injection z with _ z;cases z))]
 exact e
theorem J1.hid (x:J1 P w H h) (hS:S9 S H) (k:∀b u,h.get? b=some u->h'.get? b=some u):J1 P w (L6 S H) h':=fun b u e=>by
 obtain⟨hb,e⟩:=Y9m e
 exact(x b u e).stay (fun c v _ q=>k c v q) (fun c v ow q=>hS.own ow q) fun c xs q=>hS.tup q
end
end L2
namespace TK
open PySem PySem.Spec PyProof.Rows L2
def HidP (Φ:Hp->Prop):Prop:=∀(S:List Addr) (H:Hp),S9 S H->Φ H->Φ (L6 S H)
mutual
theorem A2.hid {K:Fg9}{S:List Addr}{H:Hp} (hS:S9 S H):∀(d:D) (v:V),A2 K H d v->A2 K (L6 S H) d v
 | .non,v,h=>by unfold A2 at h ⊢;exact h
 | .bl _,v,h=>by unfold A2 at h ⊢;exact h
 | .int _,v,h=>by unfold A2 at h ⊢;exact h
 | .str _,v,h=>by unfold A2 at h ⊢;exact h
 | .tup ds,v,h=>by
  unfold A2 at h ⊢
  obtain⟨a,xs,e,q,t⟩:=h
  exact⟨a,xs,e,hS.tup q,AllS.hid hS ds xs t⟩
 | .lst ds,v,h=>by
  unfold A2 at h ⊢
  obtain⟨a,xs,e,q,t⟩:=h
  refine⟨a,xs,e,?_,AllS.hid hS ds xs t⟩
  rcases q with⟨o,q⟩ | q
  ·exact .inl ⟨o,by rw [Q1f (hS.out q (by intro o z;injection z with _ z;cases z))];exact q⟩
  ·exact .inr q
theorem AllS.hid {K:Fg9}{S:List Addr}{H:Hp} (hS:S9 S H):∀(ds:List D) (xs:List V),AllS K H ds xs->AllS K (L6 S H) ds xs
 | [],xs,h=>by unfold AllS at h ⊢;exact h
 | d::ds,xs,h=>by
  unfold AllS at h ⊢
  obtain⟨v,r,e,q,t⟩:=h
  exact⟨v,r,e,A2.hid hS d v q,AllS.hid hS ds r t⟩
end
noncomputable def Q3k (K:Fg9) (H:Hp):Sl->V->Prop
 | .dat d,v=>A2 K H d v
 | .cl a Φ,v=>v=.ref a/\Φ H/\Q4b Φ/\HidP Φ
 | _,_=>False
theorem Q3k.mono {K:Fg9}{H H':Hp} (k:Kp H H'):∀{s:Sl}{v:V},Q3k K H s v->Q3k K H' s v
 | .dat d,v,h=>A2.mono k d v h
 | .cl a Φ,v,h=>⟨h.1,h.2.2.1 _ _ k h.2.1,h.2.2⟩
 | .own _,_,h=>h.elim
 | .bor _,_,h=>h.elim
 | .bd _,_,h=>h.elim
 | .dk _,_,h=>h.elim
 | .dt _,_,h=>h.elim
 | .ob _,_,h=>h.elim
 | .ins _ _ _,_,h=>h.elim
 | .ll _ _,_,h=>h.elim
theorem Q3k.slot {K:Fg9}{S:List Addr}{H:Hp} (hS:S9 S H):∀{s:Sl}{v:V},Q3k K H s v->O5 K (L6 S H) (L6 S H) s v/\s.mut=false
 | .dat d,v,h=>⟨A2.hid hS d v h,rfl⟩
 | .cl a Φ,v,h=>⟨⟨h.1,h.2.2.2 _ _ hS h.2.1,h.2.2.1⟩,rfl⟩
 | .own _,_,h=>h.elim
 | .bor _,_,h=>h.elim
 | .bd _,_,h=>h.elim
 | .dk _,_,h=>h.elim
 | .dt _,_,h=>h.elim
 | .ob _,_,h=>h.elim
 | .ins _ _ _,_,h=>h.elim
 | .ll _ _,_,h=>h.elim
structure Z6z (K:Fg9) (H:Hp) (p:M7):Prop where
 at_:H p.addr=some (.frz p.obj U7)
 cell:∃u,p.obj.data=.cell (some u)/\C3 p.val u
 rel:Q3k K H p.slot p.val
def Q1v (K:Fg9) (caps:List M7) (f c':Addr) (fo:Obj) (H:Hp):Prop :=
 H f=some (.frz fo U7)/\(∃oc Pt,H c'=some (.frz oc (.own Pt))/\Q3z oc)/\∀p∈caps,Z6z K H p
theorem Q1v.mono {K:Fg9}{caps:List M7}{f c':Addr}{fo:Obj}:Q4b (Q1v K caps f c' fo):=fun H H' k ⟨h1,⟨oc,Pt,h2,h3⟩,h4⟩ =>
 ⟨k.frz _ _ _ h1,⟨oc,Pt,k.frz _ _ _ h2,h3⟩,fun p hp=>⟨k.frz _ _ _ (h4 p hp).at_,(h4 p hp).cell,(h4 p hp).rel.mono k⟩⟩
noncomputable def Q6n (K:Fg9) (n:Nat) (Φ:Hp->Prop) (sp:E6):Sp:=fun vs H Q _=>∃(rs:List R) (r:R),rs.length=n/\M9 K (fun _=>none) H rs vs/\rs.all P8=true/\Φ H/\sp (rs.map N6) r/\∀v H',A6 H H'->F7 K H H' r v->Q v H'
end TK
namespace L2
open PySem PySem.Spec PyProof.Rows TK
noncomputable abbrev P9 (caps:List M7):List (Str×Addr):=caps.map fun p=>(p.name,p.addr)
structure Q5v (ps fr:List Str) (sc:Scope):Prop where
 kind:sc.kind=.function
 co:sc.isCoroutine=false
 gen:sc.isGenerator=false
 nd:(ps++fr).Nodup
 par:∀x∈ps,sc.names.lookup x=some .local
 fre:∀x∈fr,sc.names.lookup x=some .free
 nocell:∀y∈sc.names,y.2≠.cell
 all:∀y∈sc.names,y.2=.free->y.1∈fr
noncomputable def cxL (P:Program) (w:World) (K:Fg9) (mg:Str->Option Value) (base:Heap) (N:List Str) (q:Str) (sc:Scope) (f c':Addr) (caps:List M7) (A:Around) (outer:List Env) (s:Shared) (H:Hp):Cx where
 prog:=P
 w:=w
 K:=K
 mg:=mg
 base:=base
 A:=A.deeper (PySem.W.envX q sc s.heap.objs.size f (.ref c') (P9 caps))
 N:=N
 s₀:=s
 H₀:=H
 env:=PySem.W.envX q sc s.heap.objs.size f (.ref c') (P9 caps)
 outer:=outer
 stack:=PySem.W.envX q sc s.heap.objs.size f (.ref c') (P9 caps)::outer
 ex:=[]
 calm:=true
 fn:=fun _=>false
 pn:=[]
 xe:=fun _ _=>False
theorem Q8t {caps:List M7}{x:Str}{c:Addr} (h:(P9 caps).lookup x=some c):∃p∈caps,p.name=x/\p.addr=c:=by
 have:=bV h
 obtain⟨p,hp,e⟩:=ah.mp this
 cases e
 exact⟨p,hp,rfl,rfl⟩
theorem Z1n:∀{caps:List M7}{p:M7},(caps.map (·.name)).Nodup->p∈caps->(P9 caps).lookup p.name=some p.addr
 | [],_,_,mem=>absurd mem (by simp)
 | q::r,p,nd,mem=>by
  rw [au,bj]at nd
  show List.lookup p.name ((q.name,q.addr)::P9 r)=_
  rcases av.mp mem with rfl | mem
  ·simp [List.lookup]
  ·have cy:p.name≠q.name:=fun z=>nd.1 (z ▸ List.mem_map_of_mem mem)
   rw [List.lookup_cons]
   have:(p.name==q.name)=false:=by simpa using cy
   rw [this]
   exact Z1n nd.2 mem
theorem Z1h:∀{caps:List M7}{p q:M7},(caps.map (·.addr)).Nodup->p∈caps->q∈caps->p.addr=q.addr->p=q
 | [],_,_,_,h,_,_=>absurd h (by simp)
 | r::l,p,q,nd,h1,h2,e=>by
  rw [au,bj]at nd
  rcases av.mp h1 with a1 | a1
  ·rcases av.mp h2 with a2 | a2
   ·rw [a1,a2]
   ·exact absurd (ah.mpr ⟨q,a2,by rw [<- e,a1]⟩) nd.1
  ·rcases av.mp h2 with a2 | a2
   ·exact absurd (ah.mpr ⟨p,a1,by rw [e,a2]⟩) nd.1
   ·exact Z1h nd.2 a1 a2 e
end L2
end
section
namespace L2
open PySem PySem.Spec PyProof.Rows TK
section
variable {Pg:Program}{Wd:World}{Ar:Around}{Rs:Result->Shared->Prop}{s:Shared}
theorem Y7j {a:Addr}{args:Args}{o:Obj}{fd:FuncData}{body:Expr}{q:Str} (deep:Ar.depth<recursionLimit) (at_:s.heap.get? a=some o) (is:o.data=.func fd) (c0:fd.scope.isCoroutine=false) (g0:fd.scope.isGenerator=false) (bd:fd.body=.expr body) (cd:s.heap.CodeRec fd.code q)
  (go:wpAny (model Pg Wd) Ar.in1 (bindArgs fd args)
   (fun bs s1=>wpAny (model Pg Wd) Ar.in1 (newFunctionEnv fd.scope fd.globals fd.closure bs (q++".<locals>.") (some a) fd.code none fd.builtins) (fun ev s2=>s2.heap.NoLimit/\codeAny (model Pg Wd) Ar (.expr body ev) Rs s2) (fun x s1=>Rs (.error x) s1) s1)
   (fun x s1=>Rs (.error x) s1) s):codeAny (model Pg Wd) Ar (.call (.ref a) args) Rs s:=by
 obtain⟨c,oc,fs,tk,hc,dR,pG,hn⟩:=cd
 have run:wpAny (model Pg Wd) Ar.in1 (callAny (.ref a) args) (fun fin s1=>match fin with | .done fl=>Rs (.ok fl) s1 | .again c'=>c'.quiet=true/\codeAny (model Pg Wd) Ar c' Rs s1) (fun x s1=>Rs (.error x) s1) s:=by
  unfold callAny
  refine aa (wpAny_load at_ ?_)
  rw [is]
  dsimp only
  rw [hc]at go
  unfold callFunction
  simp only [c0,g0,bd,hc]
  refine aa (m:=field (.ref c) 1) (bS dR pG hn (aa (aj (aa (B4 go fun bs s1 h1=>?_)))))
  exact aa (B4 h1 fun ev s2 ⟨jj,h2⟩=>aa (wpAny_enterFrame jj deep (aj ⟨rfl,h2⟩)))
 exact codeAny_of_tree run
end
theorem V1m {x:Str}{u:Value}:∀{ps:List Str}{us:List Value}{i:Nat},ps.Nodup->ps[i]?=some x->us[i]?=some u->(ps.zip us).reverse.lookup x=some u:=by
 intro ps us i nd h1 h2
 have hm:(x,u)∈(ps.zip us).reverse:=by
  rw [List.mem_reverse]
  refine aJ (i:=i) ?_
  rw [List.getElem?_zip_eq_some]
  exact⟨h1,h2⟩
 have un:∀v,(x,v)∈(ps.zip us).reverse->v=u:=fun v hv=>by
  rw [List.mem_reverse]at hv
  obtain⟨j,hj⟩:=List.getElem?_of_mem hv
  rw [List.getElem?_zip_eq_some]at hj
  have hi:i<ps.length:=(aG.mp h1).1
  have lA:i=j:=(List.getElem?_inj hi nd).mp (h1.trans hj.1.symm)
  subst lA
  rw [h2]at hj;exact(aA hj.2).symm
 cases hl:(ps.zip us).reverse.lookup x with
 | none =>
  have:=List.lookup_eq_none_iff.mp hl _ hm
  simp at this
 | some v=>rw [un v (bV hl)]
section
variable {P:Program}{w:World}{K:Fg9}{mg:Str->Option Value}{base:Heap}{ps:List Str}{q:Str}{sc:Scope}{f c':Addr}{caps:List M7}{A:Around}{outer:List Env}{s s1:Shared}{H:Hp}{us:List Value}{vs:List V}
theorem W0c (S:Q5v ps (caps.map (·.name)) sc) (jr:(caps.map (·.addr)).Nodup) (hd:A.handled=none) (e0:Q3y P w K mg base A outer s H) (hl:vs.length=ps.length) (r:B7 vs us) (hc:∀p∈caps,Z6z K H p)
  {h1:Heap}{tk:Nat} (gU:h1.Ns s.heap.objs.size fun x=>(ps.zip us).reverse.lookup x) (hk:∀b o,s.heap.get? b=some o->h1.get? b=some o) :
  A0 (cxL P w K mg base (ps++caps.map (·.name)) q sc f c' caps A outer s (L6 (caps.map (·.addr)) H)) [] ((vs++caps.map (·.val)).map some) (L6 (caps.map (·.addr)) H) { s with heap:=h1,toks:=tk }:=by
 have hS:S9 (caps.map (·.addr)) H:=fun c dg=>by
  obtain⟨p,hp,rfl⟩:=ah.mp dg
  obtain⟨u,hu,_⟩:=(hc p hp).cell
  exact⟨_,_,(hc p hp).at_,hu⟩
 have io:∀b,H b=none->L6 (caps.map (·.addr)) H b=none:=fun b n=>by
  unfold L6;split
  ·rfl
  ·exact n
 have iP:(caps.map (·.name)).Nodup:=(bh.mp S.nd).2.1
 have jP:∀p∈caps,∃u,h1.IsCell p.addr (some u)/\C3 p.val u:=fun p hp=>by
  obtain⟨u,hu,ru⟩:=(hc p hp).cell
  exact⟨u,⟨p.obj,hk _ _ (e0.hok _ _ (hc p hp).at_).1,hu⟩,ru⟩
 have g9:∀b:Addr,b∉(cxL P w K mg base (ps++caps.map (·.name)) q sc f c' caps A outer s (L6 (caps.map (·.addr)) H)).ex:=fun b z=>absurd (show b∈([]:List Addr)from z) (by simp)
 refine⟨⟨e0.mod,S.kind,rfl,rfl,ao _,fun y z c h1 h2=>?_,fun y hy=>?_,fun y c hf _=>absurd (show false=true from hf) (by decide),fun _=>hd,Around.frames_deeper e0.frames,.inr ⟨rfl,rfl⟩,fun b z=>absurd z (g9 b),fun b o e=>⟨(e0.bs b o e).1,io _ (e0.bs b o e).2⟩,e0.bsz,fun b _ _=>g9 b,fun b z=>absurd z (g9 b),e0.funs,fun b hb=>io _ (e0.frf b hb)⟩,
  rfl,e0.bare,Un.kept hk,⟨_,gU,fun i y v h1 h2 h3=>?_⟩,fun y c h=>?_,io _ (e0.hok.fresh (ao _)),fun y c h=>?_,fun p hp=>absurd (show p∈([]:Pn9)from hp) (by simp),e0.hok.hid hS hk,?_⟩
 ·obtain⟨p,hp,rfl,e1⟩:=Q8t h1
  obtain⟨p',oV,rfl,e2⟩:=Q8t h2
  rw [Z1h jr hp oV (e1.trans e2.symm)]
 ·have hy:sc.names.lookup y=some .cell\/sc.names.lookup y=some .free:=hy
  rcases hy with hy | hy
  ·exact absurd rfl (S.nocell _ (bV hy))
  ·have:=S.all _ (bV hy) rfl
   obtain⟨p,hp,e⟩:=ah.mp this
   have e:p.name=y:=e
   exact⟨p.addr,by rw [<- e];exact Z1n iP hp⟩
 ·by_cases hi:i<ps.length
  ·have hp:ps[i]?=some y:=by rw [show(cxL P w K mg base (ps++caps.map (·.name)) q sc f c' caps A outer s (L6 (caps.map (·.addr)) H)).N=ps++caps.map (·.name)from rfl,aK hi]at h1;exact h1
   have hv:vs[i]?=some v:=by
    rw [ak,aK (by omega)]at h2
    cases e:vs[i]? with
    | none=>rw [e]at h2;cases h2
    | some a=>rw [e]at h2;cases h2;rfl
   obtain⟨u,hu,rv⟩:=r.get hv
   exact⟨u,rv,.inl ⟨S.par y (aJ hp),V1m (bh.mp S.nd).1 hp hu⟩⟩
  ·have hp:(caps.map (·.name))[i-ps.length]?=some y:=by rw [show(cxL P w K mg base (ps++caps.map (·.name)) q sc f c' caps A outer s (L6 (caps.map (·.addr)) H)).N=ps++caps.map (·.name)from rfl,aU (by omega)]at h1;exact h1
   have hv:(caps.map (·.val))[i-ps.length]?=some v:=by
    rw [ak,aU (by omega),hl]at h2
    cases e:(caps.map (·.val))[i-ps.length]? with
    | none=>rw [e]at h2;cases h2
    | some a=>rw [e]at h2;cases h2;rfl
   rw [ak]at hp hv
   cases e:caps[i-ps.length]? with
   | none=>rw [e]at hp;cases hp
   | some p =>
    rw [e]at hp hv
    cases hp;cases hv
    have lj:=aJ e
    obtain⟨u,cR,ru⟩:=jP p lj
    exact⟨u,ru,.inr ⟨.inr (S.fre _ (List.mem_map_of_mem lj)),p.addr,Z1n iP lj,cR⟩⟩
 ·obtain⟨p,hp,rfl,rfl⟩:=Q8t h
  obtain⟨u,cR,_⟩:=jP p hp
  exact⟨_,cR⟩
 ·obtain⟨p,hp,rfl,rfl⟩:=Q8t h
  exact Q6h (List.mem_map_of_mem hp)
 ·rw [ag,aq,ag,hl]
  show _=(ps++caps.map (·.name)).length
  rw [aq,ag]
end
theorem A6.showS {S:List Addr}{H H':Hp} (hS:S9 S H) (sm:A6 (L6 S H) H'):A6 H (L2.showS S H H'):=fun b u e=>by
 by_cases hb:b∈S
 ·rw [Y3z hb];exact e
 ·rw [Q9h hb];exact sm b u (by rw [Q1f hb];exact e)
theorem Z2g {P:Program}{w:World}{K:Fg9}{mg:Str->Option Value}{base:Heap}{k:Nat}{f c':Addr}{name qual:Str}{params:Arguments}{body:Expr}{sc:Scope}{pm ctv:Value}{ps:List Str}{caps:List M7}{sp:E6}{wb:WE}
  (S:Q5v ps (caps.map (·.name)) sc) (jr:(caps.map (·.addr)).Nodup)
  (cm:∀(A:Around) (outer:List Env) (s:Shared) (H:Hp) (q:Str),E7 k (A.deeper (PySem.W.envX q sc s.heap.objs.size f (.ref c') (P9 caps)))->DE (cxL P w K mg base (ps++caps.map (·.name)) q sc f c' caps A outer s H) H body wb)
  (hw:∀rs r,rs.length=ps.length->sp rs r->∃(ds:List D) (d:D),rs=ds.map R.st/\r=.st d/\wb (ds.map (fun d=>some (Sl.dat d))++caps.map fun p=>some p.slot) fun r'=>r'=.st d) :
  Q7 P w K mg base N1 (k+1) f (PySem.W.kla_fn name qual params body sc (P9 caps) pm (.ref c') ctv) ps (Q6n K ps.length (Q1v K caps f c' (PySem.W.kla_obj name qual params body sc (P9 caps) pm c' ctv)) sp):=by
 refine⟨fun vs H Q E h=>?_,fun A outer s H args us vs Q E hr e0 hb r gb=>?_⟩
 ·obtain⟨rs,r,hl,al,_⟩:=h
  rw [<- al.length];exact hl
 obtain⟨rs,r0,hl,al,ok,⟨hf,⟨oc,Pt,hc,qc⟩,eZ⟩,h1,h2⟩:=gb
 have p8:vs.length=ps.length:=by rw [<- al.length];exact hl
 have jj:s.heap.NoLimit:=e0.mod.nolimit.keeps fun b o e=>(e0.bs b o e).1
 have gf:s.heap.get? f=some _:=(e0.hok _ _ hf).1
 have gc:s.heap.get? c'=some oc:=(e0.hok _ _ hc).1
 obtain⟨ql,q,tq,dS,hq⟩:=qc
 obtain⟨ds,d,fj,rfl,oH⟩:=hw (rs.map N6) r0 (by rw [ag];exact hl) h1
 have hS:S9 (caps.map (·.addr)) H:=fun c dg=>by
  obtain⟨p,hp,rfl⟩:=ah.mp dg
  obtain⟨u,hu,_⟩:=(eZ p hp).cell
  exact⟨_,_,(eZ p hp).at_,hu⟩
 refine Y7j (fd:=PySem.W.kla_fn name qual params body sc (P9 caps) pm (.ref c') ctv) hr.depth gf rfl S.co S.gen rfl ⟨c',oc,ql,tq,rfl,gc,dS,hq⟩ (hb _ _ _ _ ?_)
 refine wpAny_newFunctionEnv S.nocell (fun y hy=>S.par _ (List.of_mem_zip hy).1) (fun h1 gU jn=>⟨(jj).fresh _ jn,?_⟩) S.kind
 have hk:∀b o,s.heap.get? b=some o->h1.get? b=some o:=fun b o e=>(jn.2 b (aD (ay e))).trans (af _ e)
 show codeAny _ _ (.expr body (PySem.W.envX q sc s.heap.objs.size f (.ref c') (P9 caps))) _ _
 have I:=W0c (q:=q) (f:=f) (c':=c') (tk:=s.toks+(ps.zip us).length) S jr hr.hd e0 p8 r eZ gU hk
 have hD:=cm A outer s (L6 (caps.map (·.addr)) H) q (hr.deeper _)
 have rep:C4 K (L6 (caps.map (·.addr)) H) (ds.map (fun d=>some (Sl.dat d))++caps.map fun p=>some p.slot) ((vs++caps.map (·.val)).map some) (L6 (caps.map (·.addr)) H):=by
  have bN:ds.length=vs.length:=by
   have:=congrArg List.length fj
   rw [ag,ag]at this
   rw [<- this,al.length]
  have args:∀(i:Nat) (d:D),ds[i]?=some d->∃v,vs[i]?=some v/\A2 K H d v:=fun i d e=>by
   have:(rs.map N6)[i]?=some (.st d):=by rw [fj,ak,e];rfl
   rw [ak]at this
   cases e2:rs[i]? with
   | none=>rw [e2]at this;cases this
   | some x =>
    rw [e2]at this
    have hx:N6 x=.st d:=aA this
    obtain⟨v,hv,q⟩:=al.get e2
    refine⟨v,hv,?_⟩
    cases x with
    | st y=>cases hx;exact q
    | nw _=>cases hx
    | bw _=>cases hx
    | dk _=>cases hx
    | dt _=>cases hx
    | ob _=>cases hx
    | cl _ _=>cases hx
    | ms _ _ _ _=>cases hx
  have Q3n:∀(i:Nat) (sl:Sl),(ds.map (fun d=>some (Sl.dat d))++caps.map fun p=>some p.slot)[i]?=some (some sl)->∃v,((vs++caps.map (·.val)).map some)[i]?=some (some v)/\TK.O5 K (L6 (caps.map (·.addr)) H) (L6 (caps.map (·.addr)) H) sl v/\sl.mut=false:=fun i sl e=>by
   by_cases hi:i<ds.length
   ·rw [aK (by rw [ag];exact hi),ak]at e
    cases e1:ds[i]? with
    | none=>rw [e1]at e;cases e
    | some y =>
     rw [e1]at e
     cases e
     obtain⟨v,hv,q⟩:=args i y e1
     refine⟨v,?_,A2.hid hS _ _ q,rfl⟩
     rw [ak,aK (by omega),hv];rfl
   ·rw [aU (by rw [ag];omega),ag,ak]at e
    cases e1:caps[i-ds.length]? with
    | none=>rw [e1]at e;cases e
    | some p =>
     rw [e1]at e
     cases e
     obtain⟨q1,q2⟩:=(eZ p (aJ e1)).rel.slot hS
     refine⟨p.val,?_,q1,q2⟩
     rw [ak,aU (by omega),ak,<- bN,e1];rfl
  refine⟨by simp [bN],A6.refl _,fun i sl e=>let ⟨v,a,b,_⟩:=Q3n i sl e;⟨v,a,b⟩,fun i j s t v _ e1 _ m _ _ _=>?_⟩
  obtain⟨_,_,_,z⟩:=Q3n i s e1
  rw [z]at m;cases m
 refine PySem.W.kla_codeExpr (aS (hD.pe [] _ _ _ (fun v H'=>A6 (L6 (caps.map (·.addr)) H) H'/\A2 K H' d v) I ⟨_,rep,hD.mono _ _ _ (fun r' li v H' sm ir=>by subst li;exact⟨sm,ir⟩) oH⟩) (fun u s' hs=>?_) fun e s' hs=>(show False from hs).elim)
 obtain⟨v,H',J,rv,sm,q⟩:=hs
 have out:∀b u,H' b=some u->b∉caps.map (·.addr):=fun b u e eE=>by
  obtain⟨o,u',iH,_⟩:=hS b eE
  have:=J.base.free b o (e0.hok _ _ iH).1 (Q6h eE) (by show b∉([]:List Addr);simp)
  rw [this]at e;cases e
 have cG:A6 H' (L2.showS (caps.map (·.addr)) H H'):=fun b u e=>by rw [Q9h (out b u e)];exact e
 have jX:=A6.showS hS sm
 show CE outer P w H s Q u s'
 refine⟨v,L2.showS (caps.map (·.addr)) H H',J.os,J.bare,?_,?_,rv,h2 v (L2.showS (caps.map (·.addr)) H H') jX (show F7 K H (L2.showS (caps.map (·.addr)) H H') (.st d) v from A2.mono (Kp.of cG) d v q)⟩
 ·have hn:∀b,H b=none->b∉caps.map (·.addr):=fun b n hb=>by obtain⟨o,u,q,_⟩:=hS b hb;rw [n]at q;cases q
  have ip:∀b,H b=none->L6 (caps.map (·.addr)) H b=none:=fun b n=>by rw [Q1f (hn b n)];exact n
  refine⟨fun b o e n hb hx=>J.base.keep b o e (ip b n) hb hx,fun b o e n hb hx=>J.base.slot b o e (ip b n) hb hx,fun b o e n hx=>?_,fun b o e hx=>J.base.there b o e hx,fun b xs e=>jX _ _ e,fun b o u e=>jX _ _ e,fun b ps e=>⟨#[],by rw [jX _ _ e];simp⟩⟩
  rw [Q9h (hn b n)]
  exact J.base.free b o e (ip b n) hx
 ·intro b u e
  by_cases eE:b∈caps.map (·.addr)
  ·rw [Y3z eE]at e
   obtain⟨o,u',iH,_⟩:=hS b eE
   rw [iH]at e;cases e
   have g:=(e0.hok _ _ iH).1
   have:b∉frs outer:=fun z=>by have:=e0.frf b z;rw [iH]at this;cases this
   exact Q7r (J.base.keep b o g (Q6h eE) this (by show b∉([]:List Addr);simp))
  ·rw [Q9h eE]at e
   exact(J.hok b u e).stay (fun c v _ q=>q) (fun c v _ q=>cG _ _ q) fun c xs q=>cG _ _ q
end L2
end
section
namespace L2
open PySem PySem.Spec PyProof.Rows TK
structure FnC (P:Program) (w:World) (K:Fg9) (mg:Str->Option Value) (base:Heap) (k n:Nat) (f:Addr) (Φ:Hp->Prop) (sp:E6):Prop where
 ex:∃(fd:FuncData) (ps:List Str),Q7 P w K mg base N1 k f fd ps (Q6n K n Φ sp)/\ps.length=n/\V2 K fd ps []/\∀(h:Heap) (H:Hp),J1 P w H h->K.In h->Φ H->∃o,h.get? f=some o/\o.data=.func fd
section
variable {X:Cx}{k n i:Nat}{x:Str}{e:Expr}{es:List Expr}{t:TA}{p pos:Pos}
theorem W4l (hr:E7 k X.A) (hv:PE X (.Name x p) (T4 i)) (ha:PA X (e::es) t) (he:starEach (e::es) X.env=(false,eval e X.env)::starEach es X.env:=by rfl) (hpl:(backTo pos (starEach es X.env)).any (·.1)=false:=by rfl) :
  PE X (.Call (.Name x p) (e::es) [] pos) (fun σ H Q=>∃f Φ sp,σ[i]?=some (some (.ref f))/\FnC X.prog X.w X.K X.mg X.base k n f Φ sp/\t σ H fun vs H1=>Q6n X.K n Φ sp vs H1 Q E0):=by
 intro ae s σ H Q I ⟨f,Φ,sp,h0,F,h⟩
 obtain⟨fd,ps,F,hn,hb,here⟩:=F.ex
 refine bo (B4 (hv ae s σ H (fun v H'=>v=.ref f/\t σ H' fun vs H1=>Q6n X.K n Φ sp vs H1 Q E0) I ⟨.ref f,h0,rfl,h⟩) fun u s1 bx=>?_)
 obtain⟨v,H1,I1,r,ev,q⟩:=bx
 subst ev
 obtain rfl:u=Value.ref f:=r
 refine PySem.W.callWith_of (P:=fun h=>∃o,h.get? f=some o/\o.data=.func fd) (by rw [he];show((false||(backTo pos (starEach es X.env)).any (·.1))||false)=false;rw [hpl];rfl) (fun h ⟨o,e1,e2⟩=>⟨.frame,.inl rfl,?_⟩) ?_
 ·obtain⟨oc,od,dt,sl⟩:=o
  have e2:dt=.func fd:=e2
  subst e2
  exact(PySem.W.Looks.ld (part:=none) e1).andThen .now
 rw [he]
 refine Calls.evalArgs_plain ?_
 have h2:=ha pos ae s1 σ H1 _ I1 q
 rw [he]at h2
 refine B4 h2 fun us s2 ⟨vs,H2,I2,r,q⟩=>⟨?_,?_⟩
 ·obtain⟨rs,r0,_,_,_,hΦ,_⟩:=q
  exact here _ _ I2.hok I2.kIn hΦ
 ·have:=Y2l F hr hb .nil Z3y I2 r (show Q6n X.K n Φ sp (vs++[]) H2 Q E0 by rw [aX];exact q)
  exact this
end
end L2
namespace TK
open PySem PySem.Spec PyProof.Rows L2
noncomputable abbrev P5:=Nat->Addr->(Hp->Prop)->E6->Prop
section
variable {X:Cx}{H0:Hp}{e:Expr}{es:List Expr}{wr:WA}{k i n:Nat}{x:Str}{p pos:Pos}
def Q3f (FC:P5) (n i:Nat) (wr:WA):WE:=fun τ Q=>∃f Φ sp,τ[i]?=some (some (.cl f Φ))/\FC n f Φ sp/\wr τ fun rs=>rs.all P8=true/\∃r,sp (rs.map N6) r/\Q r
theorem DE.callC (hr:E7 k X.A) (hv:PE X (.Name x p) (T4 i)) (ha:DA X H0 (e::es) wr) (he:starEach (e::es) X.env=(false,eval e X.env)::starEach es X.env:=by rfl) (hpl:(backTo pos (starEach es X.env)).any (·.1)=false:=by rfl) :
  DE X H0 (.Call (.Name x p) (e::es) [] pos) (Q3f (FnC X.prog X.w X.K X.mg X.base k) (e::es).length i wr) where
 mono:=fun τ P Q f ⟨g,Φ,sp,h0,F,h⟩=>⟨g,Φ,sp,h0,F,ha.mono τ _ _ (fun rs ⟨ok,r,h1,h2⟩=>⟨ok,r,h1,f r h2⟩) h⟩
 pe:=peW (W4l (n:=(e::es).length) hr hv ha.pa he hpl) fun σ H Q ⟨τ,hR,f,Φ,sp,h0,F,h⟩=>by
  obtain⟨v,hv,rv⟩:=hR.here i _ h0
  obtain⟨rfl,hΦ,hM⟩:v=.ref f/\Φ H/\Q4b Φ:=rv
  exact⟨f,Φ,sp,hv,F,τ,hR,ha.mono τ _ _ (fun rs ⟨ju,ok,r,h1,h2⟩ vs H1 s1 cu=>⟨rs,r,ju,cu.v,ok,hM _ _ (Kp.of s1) hΦ,h1,fun v H' s2 ir=>h2 v H' (s1.trans s2) (ir.older s1)⟩) (ha.len τ _ h)⟩
@[simp] theorem Z4m {FC:P5} {τ:A9}{Q:R->Prop}:Q3f FC n i wr τ Q=∃f Φ sp,τ[i]?=some (some (.cl f Φ))/\FC n f Φ sp/\wr τ fun rs=>rs.all P8=true/\∃r,sp (rs.map N6) r/\Q r:=rfl
end
section
variable {X:Cx}{H0:Hp}{params:Arguments}{body:Expr}{sc:Scope}{pos:Pos}{c Pt:Addr}{k:Nat}{ps:List Str}{sp:E6}{wb:WE}
end
end TK
end
section
namespace L2
open PySem PySem.Spec PyProof.Rows TK
noncomputable def V4 (caps:List M7) (H:Hp):Hp:=fun b=>match caps.find? (fun p=>p.addr==b)with
 | some p=>some (.frz p.obj U7)
 | none=>H b
theorem Q4d {caps:List M7}{H:Hp}{p:M7} (nd:(caps.map (·.addr)).Nodup) (hp:p∈caps):V4 caps H p.addr=some (.frz p.obj U7):=by
 unfold V4
 cases e:caps.find? (fun q=>q.addr==p.addr)with
 | none =>
  have:=List.find?_eq_none.mp e p hp
  simp at this
 | some q =>
  have h1:(q.addr==p.addr)=true:=List.find?_some (p:=fun q:M7=>q.addr==p.addr) e
  have h2:=List.mem_of_find?_eq_some e
  rw [Z1h nd h2 hp (by simpa using h1)]
theorem Q7p {caps:List M7}{H:Hp}{b:Addr} (h:b∉caps.map (·.addr)):V4 caps H b=H b:=by
 unfold V4
 cases e:caps.find? (fun q=>q.addr==b)with
 | none=>rfl
 | some q =>
  have h1:(q.addr==b)=true:=List.find?_some (p:=fun q:M7=>q.addr==b) e
  have h2:=List.mem_of_find?_eq_some e
  exact absurd (ah.mpr ⟨q,h2,by simpa using h1⟩) h
structure Q2j (X:Cx) (s:Shared) (p:M7):Prop where
 look:X.env.cells.lookup p.name=some p.addr
 own:X.fn p.name=true
 get:s.heap.get? p.addr=some p.obj
 cell:∃u,p.obj.data=.cell (some u)/\C3 p.val u
section
variable {X:Cx}{ae:Pn9} {σ:St}{H:Hp}{s:Shared}{caps:List M7}
theorem Z1o (I:A0 X ae σ H s):∀{caps:List M7},(caps.map (·.name)).Nodup->(∀p∈caps,Q2j X s p)->(caps.map (·.addr)).Nodup
 | [],_,_=>List.nodup_nil
 | p::r,nd,h=>by
  rw [au,bj]at nd ⊢
  refine⟨fun hm=>?_,Z1o I nd.2 fun q hq=>h q (ai _ hq)⟩
  obtain⟨q,hq,e⟩:=ah.mp hm
  have e:q.addr=p.addr:=e
  have h1:=(h p am).look
  have h2:=(h q (ai _ hq)).look
  rw [e]at h2
  exact nd.1 (ah.mpr ⟨q,hq,I.ok.inj _ _ _ h2 h1⟩)
theorem Q6a (I:A0 X ae σ H s) (hc:∀p∈caps,Q2j X s p):A6 H (V4 caps H):=fun b u e=>by
 rw [Q7p]
 ·exact e
 ·intro hb
  obtain⟨p,hp,rfl⟩:=ah.mp hb
  rw [I.freeC _ _ (hc p hp).look]at e;cases e
theorem Z1e (nd:(caps.map (·.addr)).Nodup) (hc:∀p∈caps,Q2j X s p):S9 (caps.map (·.addr)) (V4 caps H):=fun c iE=>by
 obtain⟨p,hp,rfl⟩:=ah.mp iE
 obtain⟨u,hu,_⟩:=(hc p hp).cell
 exact⟨p.obj,some u,Q4d nd hp,hu⟩
theorem Y8v (I:A0 X ae σ H s) (nd:(caps.map (·.addr)).Nodup) (hc:∀p∈caps,Q2j X s p):Q3y X.prog X.w X.K X.mg X.base X.A X.stack s (V4 caps H):=by
 have e0:=I.env0
 have ge:∀p∈caps,X.s₀.heap.objs.size<=p.addr:=fun p hp=>I.ok.cab _ _ (hc p hp).own (hc p hp).look
 have keep:∀b,b∉caps.map (·.addr)->H b=none->V4 caps H b=none:=fun b hb n=>by rw [Q7p hb];exact n
 refine⟨e0.frames,e0.mod,fun b o e=>⟨(e0.bs b o e).1,keep b (fun hb=>?_) (e0.bs b o e).2⟩,e0.bsz,e0.funs,fun b hb=>keep b (fun gZ=>?_) (e0.frf b hb),fun b u e=>?_,e0.bare⟩
 ·obtain⟨p,hp,rfl⟩:=ah.mp hb
  exact absurd (az (ay e) I.ok.bsz) (Nat.not_lt.mpr (ge p hp))
 ·obtain⟨p,hp,rfl⟩:=ah.mp gZ
  rcases av.mp (I.stkSub _ hb)with z | z
  ·exact I.cne _ _ (hc p hp).look z
  ·obtain⟨_,o,ho,_⟩:=I.ok.funs.mem z
   exact absurd (ay ho) (Nat.not_lt.mpr (ge p hp))
 ·by_cases hb:b∈caps.map (·.addr)
  ·obtain⟨p,hp,rfl⟩:=ah.mp hb
   rw [Q4d nd hp]at e;cases e
   exact Q7r (hc p hp).get
  ·rw [Q7p hb]at e
   exact(I.hok b u e).stay (fun c v _ q=>q) (fun c v _ q=>Q6a I hc _ _ q) fun c xs q=>Q6a I hc _ _ q
theorem Y2m {CX:CXT}{k:Nat}{f:Addr}{fd:FuncData}{ps:List Str}{sp:Sp}{Q:VK}{E:XK}{us:List Value}{vs:List V} (F:Q7 X.prog X.w X.K X.mg X.base N1 k f fd ps sp) (hr:E7 k X.A) (hb:V2 X.K fd ps [])
  (I:A0 X ae σ H s) (nd:(caps.map (·.addr)).Nodup) (hc:∀p∈caps,Q2j X s p) (r:B7 vs us) (h:sp vs (V4 caps H) (fun v H'=>A6 (V4 caps H) H'/\Q v (L6 (caps.map (·.addr)) H')) E):wpAny (model X.prog X.w) X.A (call (.ref f) us) (EP X ae σ Q) X.xe s:=by
 have hl:us.length=ps.length:=by rw [<- r.length];exact F.len _ _ _ _ h
 have gZ:BindsTo s fd ⟨us,[]⟩ (ps.zip us):=by have:=hb s us I.kIn (by rw [aX];exact hl);rw [aX]at this;exact this
 refine wpAny_call (codeAny_mono (F.run X.A X.stack s (V4 caps H) ⟨us,[]⟩ us vs _ E hr (Y8v I nd hc) gZ r h) fun r s' hq=>?_)
 cases r with
 | error e=>exact(show False from hq).elim
 | ok fl =>
  cases fl with
  | next=>exact False.elim hq
  | brk=>exact False.elim hq
  | cont=>exact False.elim hq
  | ret u =>
   obtain⟨v,H',os,bare,un,hok,rv,sm,q⟩:=hq
   have hS:S9 (caps.map (·.addr)) H':=fun c iE=>by
    obtain⟨o,u,e1,e2⟩:=Z1e (H:=H) nd hc c iE
    exact⟨o,u,un.frzs _ _ _ e1,e2⟩
   have i8:∀b,H b=none->b∉caps.map (·.addr)->V4 caps H b=none:=fun b n hb=>by rw [Q7p hb];exact n
   have kept:∀p∈caps,s'.heap.get? p.addr=some p.obj:=fun p hp=>(hok _ _ (un.frzs _ _ _ (Q4d nd hp))).1
   have Q2e:∀b u,H b=some u->b∉caps.map (·.addr):=fun b u e hb=>by
    obtain⟨p,hp,rfl⟩:=ah.mp hb
    rw [I.freeC _ _ (hc p hp).look]at e;cases e
   have g8:∀b u,H b=some u->L6 (caps.map (·.addr)) H' b=some u:=fun b u e=>by
    rw [Q1f (Q2e b u e)]
    exact sm _ _ (Q6a I hc _ _ e)
   refine I.after ⟨v,L6 (caps.map (·.addr)) H',os,bare,⟨fun b o e n hb hx=>?_,fun b o e n hb hx=>?_,fun b o e n hx=>?_,fun b o e hx=>un.there b o e hx,fun b xs e=>g8 _ _ e,fun b o u e=>g8 _ _ e,fun b ps e=>⟨#[],by rw [g8 _ _ e];simp⟩⟩,J1.hid hok hS fun _ _ q=>q,rv,q⟩
   ·by_cases eE:b∈caps.map (·.addr)
    ·obtain⟨p,hp,rfl⟩:=ah.mp eE
     rw [(hc p hp).get]at e;cases e
     exact kept p hp
    ·exact un.keep b o e (i8 b n eE) hb hx
   ·by_cases eE:b∈caps.map (·.addr)
    ·obtain⟨p,hp,rfl⟩:=ah.mp eE
     rw [(hc p hp).get]at e;cases e
     exact⟨_,kept p hp⟩
    ·exact un.slot b o e (i8 b n eE) hb hx
   ·by_cases eE:b∈caps.map (·.addr)
    ·exact Q6h eE
    ·rw [Q1f eE]
     exact un.free b o e (i8 b n eE) hx
end
end L2
end
section
namespace TK
open PySem PySem.Spec PyProof.Rows L2
noncomputable def Q0o (wb:WE) (cB:List Sl):E6:=fun rs r=>∃(ds:List D) (d:D),rs=ds.map R.st/\r=.st d/\wb (ds.map (fun d=>some (Sl.dat d))++cB.map some) fun r'=>r'=.st d
noncomputable def capS:Sl->Prop
 | .dat _=>True
 | .cl _ Φ=>HidP Φ
 | _=>False
noncomputable def Q2a (τ:A9):List (Str×Nat)->List Sl->Prop
 | [],cB=>cB=[]
 | c::cs,cB=>∃s r,cB=s::r/\τ[c.2]?=some (some s)/\capS s/\Q2a τ cs r
section
variable {X:Cx}{H0:Hp}{ae:Pn9} {σ:St}{H:Hp}{s:Shared} {τ:A9}
theorem Q7y (I:A0 X ae σ H s) (hR:C4 X.K H0 τ σ H):∀{cs:List (Str×Nat)}{cB:List Sl},(∀c∈cs,X.N[c.2]?=some c.1/\X.env.kindOf c.1=some .cell/\X.fn c.1=true)->Q2a τ cs cB ->
  ∃caps:List M7,caps.map (·.name)=cs.map (·.1)/\caps.map (·.slot)=cB/\∀p∈caps,Q2j X s p/\Q3k X.K H p.slot p.val
 | [],cB,_,h=>by
  have h:cB=[]:=h
  subst h
  exact⟨[],rfl,rfl,fun p hp=>absurd hp (by simp)⟩
 | c::cs,cB,hk,h=>by
  obtain⟨sl,r,rfl,e,hc,h⟩:=h
  obtain⟨caps,h1,h2,h3⟩:=Q7y I hR (fun c hc=>hk c (ai _ hc)) h
  obtain⟨k1,k2,k3⟩:=hk c am
  obtain⟨v,hv,rv⟩:=hR.here c.2 sl e
  obtain⟨m,hn,hl⟩:=I.loc
  obtain⟨u,ru,lk⟩:=hl c.2 c.1 v k1 hv (.inr (.inl k2))
  rcases lk with⟨z,_⟩ | ⟨_,ca,eS,o,ho,hd⟩
  ·rw [k2]at z;cases z
  refine⟨⟨c.1,ca,o,v,sl⟩::caps,by rw [au,au,h1],by rw [au,h2],fun p hp=>?_⟩
  rcases av.mp hp with rfl | hp
  ·refine⟨⟨eS,k3,ho,⟨u,hd,ru⟩⟩,?_⟩
   cases sl with
   | dat d=>exact rv
   | cl a Φ=>exact⟨rv.1,rv.2.1,rv.2.2,hc⟩
   | own _=>exact hc.elim
   | bor _=>exact hc.elim
   | bd _=>exact hc.elim
   | dk _=>exact hc.elim
   | dt _=>exact hc.elim
   | ob _=>exact hc.elim
   | ins _ _ _=>exact hc.elim
   | ll _ _=>exact hc.elim
  ·exact h3 p hp
theorem Q7x {cs:List (Str×Addr)}:∀{caps:List M7}{cs:List (Str×Addr)},caps.map (·.name)=cs.map (·.1)->(∀p∈caps,X.env.cells.lookup p.name=some p.addr)->(∀y∈cs,X.env.cells.lookup y.1=some y.2)->P9 caps=cs
 | [],[],_,_,_=>rfl
 | [],_::_,h,_,_=>by cases h
 | _::_,[],h,_,_=>by cases h
 | p::r,y::cs,h,h1,h2=>by
  rw [au,au,List.cons.injEq]at h
  have e1:=h1 p am
  have e2:=h2 y am
  rw [h.1,e2]at e1
  show(p.name,p.addr)::P9 r=y::cs
  rw [Q7x (cs:=cs) h.2 (fun q hq=>h1 q (ai _ hq)) fun z hz=>h2 z (ai _ hz),h.1,<- aA e1]
end
def Z5m (FC:P5) (n:Nat) (cs:List (Str×Nat)) (wb:WE) (sp:E6) (we:WE):WE:=fun τ Q=>we τ fun r1=>P8 r1=true/\∃cB,Q2a τ cs cB/\∀f Φ,FC n f Φ (Q0o wb cB)->∃d,sp [N6 r1,.cl f Φ] (.st d)/\Q (.st d)
section
variable {X:Cx}{H0:Hp}{e:Expr}{we wb:WE}{k kl:Nat}{f:Addr}{fd:FuncData}{jc ps:List Str}{sp:E6}{x:Str}{p pos cA:Pos}{params:Arguments}{body:Expr}{sc:Scope}{c Pt:Addr}{cs:List (Str×Nat)}{clos:List (Str×Addr)}
theorem DE.callW (F:Q7 X.prog X.w X.K X.mg X.base N1 k f fd jc (Q4r X.K 2 sp)) (hr:E7 k X.A) (hg:Gl X x) (hm:X.mg x=some (.ref f)) (hk:PySem.W.keepIn X.K (.ref f)=true) (hb:V2 X.K fd jc []) (ha:DE X H0 e we)
  (hT:H0 Pt=some .tab) (hB:Q0w X.mg X.base) (dw:X.env.code=.ref c) (hC:PySem.W.codeHdIn X.K c Pt=true) (gA:closureFor sc X.env=pure clos) (iC:cs.map (·.1)=clos.map (·.1)) (fD:∀y∈clos,X.env.cells.lookup y.1=some y.2)
  (fm:∀c∈cs,X.N[c.2]?=some c.1/\X.env.kindOf c.1=some .cell/\X.fn c.1=true) (S:Q5v ps (cs.map (·.1)) sc)
  (eD:∀(qual:Str) (cl:List (Str×Addr)) (pm cd ct:Value) (us:List Value),us.length=ps.length->bindArgs (PySem.W.kla_fn "<lambda>" qual params body sc cl pm cd ct) ⟨us,[]⟩=pure (ps.zip us))
  (cm:∀(caps:List M7) (f c':Addr) (A:Around) (outer:List Env) (s:Shared) (H:Hp) (q:Str),caps.map (·.name)=cs.map (·.1)->E7 kl (A.deeper (PySem.W.envX q sc s.heap.objs.size f (.ref c') (P9 caps)))->DE (cxL X.prog X.w X.K X.mg X.base (ps++cs.map (·.1)) q sc f c' caps A outer s H) H body wb)
  (dC:(x==("__debug__":Str))=false:=by decide) (he:starEach [e,.Lambda params body sc cA] X.env=(false,eval e X.env)::starEach [.Lambda params body sc cA] X.env:=by rfl) (lH:starEach [.Lambda params body sc cA] X.env=(false,eval (.Lambda params body sc cA) X.env)::starEach [] X.env:=by rfl)
  (hpl:(backTo pos (starEach [.Lambda params body sc cA] X.env)).any (·.1)=false:=by rfl) (hd:defaultsOf params X.env=([],[]):=by rfl) :
  DE X H0 (.Call (.Name x p) [e,.Lambda params body sc cA] [] pos) (Z5m (FnC X.prog X.w X.K X.mg X.base (kl+1)) ps.length cs wb sp we) where
 mono:=fun τ P Q g h=>ha.mono τ _ _ (fun r1 ⟨ok,cB,h1,h2⟩=>⟨ok,cB,h1,fun f Φ F=>let ⟨d,a,b⟩:=h2 f Φ F;⟨d,a,g _ b⟩⟩) h
 pe:=by
  intro ae s σ H Q I ⟨τ,hR,h⟩
  refine bo (Q8q I hg hm ?_ dC)
  have lX:PA X [e,.Lambda params body sc cA] (Q5h _ (Q5h _ Z5h)):=Q0d (es:=[.Lambda params body sc cA]) ha.pe (Q0d (es:=[]) (Z4a (pos:=cA) hB dw hC gA hd) Q2s lH) he
  refine PySem.W.callWith_K (h₀:=X.base) I.ok.mod.kin hk (B4 (lX pos ae s σ H (fun vs H1=>A6 H H1/\∃v1 fa c' oc ctv r1,vs=[v1,.ref fa]/\F7 X.K H H1 r1 v1/\P8 r1=true/\Q3z oc/\H1 c'=some (.frz oc (.own Pt))/\H1 fa=some (.frz (X3 X params body sc clos c' ctv) U7) /\
   ∃cB,Q2a τ cs cB/\∀f Φ,FnC X.prog X.w X.K X.mg X.base (kl+1) ps.length f Φ (Q0o wb cB)->∃d,sp [N6 r1,.cl f Φ] (.st d)/\∀v H',A6 H H'->F7 X.K H H' (.st d) v->Q v H') I ?_) fun us s1 ⟨vs,H1,I1,r,gL,q⟩=>⟨I1.kIn,?_⟩) he hpl
  ·refine⟨τ,hR,ha.mono τ _ _ (fun r1 ⟨ok,cB,h1,h2⟩ v1 H1 s1 ir=>?_) h⟩
   refine⟨s1 _ _ (hR.same _ _ hT),fun fa c' oc ctv H' sm dR hf dg iA _=>?_⟩
   exact⟨s1.trans sm,v1,fa,c',oc,ctv,r1,rfl,ir.mono sm,ok,dR,dg,iA,cB,h1,h2⟩
  ·obtain⟨v1,fa,c',oc,ctv,r1,rfl,ir,ok,dR,dg,iA,cB,h1,h2⟩:=q
   obtain⟨caps,n1,n2,iB⟩:=Q7y I1 (hR.mono gL) fm h1
   have eS:∀p∈caps,Q2j X s1 p:=fun p hp=>(iB p hp).1
   have iP:(caps.map (·.name)).Nodup:=by rw [n1];exact(bh.mp S.nd).2.1
   have nd:=Z1o I1 iP eS
   have hL:P9 caps=clos:=Q7x (cs:=clos) (n1.trans iC) (fun p hp=>(eS p hp).look) fD
   have eV:=Q6a I1 eS
   subst hL
   have LP:Q1v X.K caps fa c' (X3 X params body sc (P9 caps) c' ctv) (V4 caps H1):=⟨eV _ _ iA,⟨oc,Pt,eV _ _ dg,dR⟩,fun p hp=>⟨Q4d nd hp,(eS p hp).cell,(iB p hp).2.mono (Kp.of eV)⟩⟩
   have F0:=Z2g (P:=X.prog) (w:=X.w) (K:=X.K) (mg:=X.mg) (base:=X.base) (k:=kl) (f:=fa) (c':=c') (name:="<lambda>") (qual:=X.env.qual++"<lambda>") (params:=params) (body:=body) (sc:=sc) (pm:=(X.mg "__name__").getD .none) (ctv:=ctv) (ps:=ps) (caps:=caps) (sp:=Q0o wb cB) (wb:=wb) (by rw [n1];exact S) nd
    (fun A outer s H q hr=>by rw [n1];exact cm caps fa c' A outer s H q n1 hr) (fun rs r _ hs=>by
     obtain⟨ds,d,e1,e2,e3⟩:=hs
     refine⟨ds,d,e1,e2,?_⟩
     have:cB.map some=caps.map fun p=>some p.slot:=by rw [<- n2,aL];rfl
     rw [<- this];exact e3)
   obtain⟨d,g1,g2⟩:=h2 fa _ ⟨_,ps,F0,rfl,V2.all (eD _ _ _ _ _),fun hh Hh hok _ hΦ=>⟨_,(hok _ _ hΦ.1).1,rfl⟩⟩
   refine Y2m (CX:=N1) (E:=E0) F hr hb I1 nd eS r ⟨[r1,.cl fa _],.st d,rfl,⟨v1,_,rfl,(ir.mono eV).v,_,_,rfl,⟨rfl,LP,Q1v.mono⟩,rfl⟩,by rw [List.all_cons,ok];rfl,g1,fun v H' cG iv=>⟨cG,?_⟩⟩
   have hS:S9 (caps.map (·.addr)) H':=fun c iE=>by
    obtain⟨o,u,e1,e2⟩:=Z1e (H:=H1) nd eS c iE
    exact⟨o,u,cG _ _ e1,e2⟩
   have Q2e:∀b u,H1 b=some u->b∉caps.map (·.addr):=fun b u e hb=>by
    obtain⟨p,hp,rfl⟩:=ah.mp hb
    rw [I1.freeC _ _ (eS p hp).look]at e;cases e
   exact g2 v _ (fun b u e=>by rw [Q1f (Q2e b u (gL _ _ e))];exact cG _ _ (eV _ _ (gL _ _ e))) (show A2 X.K _ d v from A2.hid hS d v iv)
@[simp] theorem W7u {FC:P5}{n:Nat} {τ:A9}{Q:R->Prop}:Z5m FC n cs wb sp we τ Q=we τ fun r1=>P8 r1=true/\∃cB,Q2a τ cs cB/\∀f Φ,FC n f Φ (Q0o wb cB)->∃d,sp [N6 r1,.cl f Φ] (.st d)/\Q (.st d):=rfl
end
end TK
end
section
namespace L2
open PySem PySem.Spec PyProof.Rows TK
theorem W1f {P:Program}{w:World}{K:Fg9}{mg mb:Str->Option Value}{k:Nat}{fa a:Addr}{fd:FuncData}{x:Str}{sp:Sp}{s₁:Shared}{vs:List Value}{ns:List Int}{ts:List Addr}
  (KX:K.In s₁.heap) (gU:s₁.heap.Ns mainGlobals mg) (hb:s₁.heap.Ns builtinsNs mb) (pR:∀x:Str,x≠"__name__"->mb x=bootBuiltins x) (ly:s₁.heap.NoLimit) (pP:Q0w mg s₁.heap) (hg:s₁.gens=#[])
  (gS:∀Pt∈ts,s₁.heap.get? Pt=some (PySem.W.tabObj #[])) (dS:∀Pt∈ts,∃c,PySem.W.codeHdIn K c Pt=true) (pZ:∀Pt∈ts,K.lookup Pt=none)
  (ha:s₁.heap.get? a=some { cls:=.type "list",data:=.seq vs.toArray }) (hi:IntsAre vs ns) (hl:ns.length<=sizeLine) (hr:E7 k callerA)
  (F:∀base:Heap,K.In base->base.Ns mainGlobals mg->Q0w mg base->Q7 P w K mg base N1 k fa fd [x] sp) (eD:∀(s:Shared) (u:Value),BindsTo s fd ⟨[u],[]⟩ [(x,u)])
  (gb:∀H:Hp,(∀Pt∈ts,H Pt=some .tab)->FzL K H a (ns.map V.int)->sp [.ref a] H (fun v H'=>v=.bl true/\∀Pt∈ts,H' Pt=some .tab) fun _ _ _=>False) :
  codeAny (model P w) callerA (.call (.ref fa) ⟨[.ref a],[]⟩) (fun r s'=>r=.ok (.ret (.bool true))/\OldK s₁.heap s'.heap/\s'.os=s₁.os/\AllBare s'.gens) s₁:=by
 have rv:=Y5f hi
 have kX:=hi.length
 have core:∀H:Hp,(∀b u,H b=some u->(b∈ts/\u=.tab)\/(b=a/\K.lookup a=none/\u=.frz { cls:=.type "list",data:=.seq vs.toArray } (.lst (ns.map V.int))))->(∀Pt∈ts,H Pt=some .tab)->FzL K H a (ns.map V.int) ->
   codeAny (model P w) callerA (.call (.ref fa) ⟨[.ref a],[]⟩) (fun r s'=>r=.ok (.ret (.bool true))/\OldK s₁.heap s'.heap/\s'.os=s₁.os/\AllBare s'.gens) s₁:=by
  intro H hO hT hS
  have hok:J1 P w H s₁.heap:=fun b u e=>by
   rcases hO b u e with⟨hb,rfl⟩ | ⟨rfl,_,rfl⟩
   ·exact⟨#[],gS b hb,trivial,fun pos cv q=>by cases q⟩
   ·exact⟨ha,by rw [ag];exact hl,vs,_,rv,ha⟩
  have dU:∀{b:Addr}{o:Obj},s₁.heap.get? b=some o->H b=none->(Q1g s₁.heap H).get? b=some o:=fun e n=>Y9n e n
  have g9:∀{b:Addr}{o:Obj},s₁.heap.get? b=some o->(∀xs,o.data≠.fields xs)->(∀xs n,o.data≠.seq xs n)->H b=none:=fun {b o} e d1 d2=>by
   cases q:H b with
   | none=>rfl
   | some u =>
    rcases hO b u q with⟨hb,rfl⟩ | ⟨rfl,_,rfl⟩
    ·rw [gS b hb]at e;cases e;exact absurd rfl (d1 _)
    ·rw [ha]at e;cases e;exact absurd rfl (d2 _ _)
  have k8:∀{b:Addr}{m:Str->Option Value},s₁.heap.Ns b m->(Q1g s₁.heap H).Ns b m:=fun {b m} ⟨o,es,ep,e,d,r⟩=>⟨o,es,ep,dU e (g9 e (fun xs z=>by rw [d]at z;cases z) (fun xs n z=>by rw [d]at z;cases z)),d,r⟩
  have mV:K.In (Q1g s₁.heap H):=fun b o e=>dU (KX b o e) (by
   cases q:H b with
   | none=>rfl
   | some u =>
    rcases hO b u q with⟨hb,rfl⟩ | ⟨rfl,hk,rfl⟩
    ·rw [pZ b hb]at e;cases e
    ·rw [hk]at e;cases e)
  have hM:Mod K mg (Q1g s₁.heap H):=⟨mV,k8 gU,⟨mb,k8 hb,pR⟩,let ⟨mc,h1,h2⟩:=ly;⟨mc,k8 h1,h2⟩⟩
  have hBM:Q0w mg (Q1g s₁.heap H):=by
   obtain⟨bm,ob,b1,b2,b3,b4,b5,b6⟩:=pP
   exact⟨bm,ob,b1,b2,dU b3 (g9 b3 (fun xs z=>by rw [b6]at z;cases z) (fun xs n z=>by rw [b6]at z;cases z)),b4,b5,b6⟩
  have e0:Q3y P w K mg (Q1g s₁.heap H) callerA [] s₁ H:=⟨rfl,hM,fun b o e=>W3o e,Nat.le_of_eq (Y9o _ _),trivial,fun b hb=>absurd (show b∈([]:List Addr)from hb) (by simp),hok,.of_eq hg⟩
  refine codeAny_mono ((F _ mV (k8 gU) hBM).run callerA [] s₁ H ⟨[.ref a],[]⟩ [.ref a] [.ref a] _ _ hr e0 (eD s₁ (.ref a)) (.cons rfl .nil) (gb H hT hS)) fun r s' h=>?_
  cases r with
  | error e=>exact(show False from h).elim
  | ok fl =>
   cases fl with
   | next=>exact False.elim h
   | brk=>exact False.elim h
   | cont=>exact False.elim h
   | ret u =>
    obtain⟨v,H',os,bare,un,jp,r',q,pY⟩:=h
    have q':v=.bl true:=q
    subst q'
    obtain rfl:u=Value.bool true:=r'
    refine⟨rfl,⟨fun b o e=>?_,fun b o e=>un.there b o e (by simp)⟩,os,bare⟩
    cases q:H b with
    | none=>exact .inl (un.keep b o e q (by intro z;exact absurd (show b∈([]:List Addr)from z) (by simp)) (by simp))
    | some u =>
     rcases hO b u q with⟨hb,rfl⟩ | ⟨rfl,hk,rfl⟩
     ·obtain⟨ps,g1,_⟩:=(show K4 P w H' s'.heap b .tab from jp b _ (pY b hb))
      obtain⟨c,hc⟩:=dS b hb
      have e1:=gS b hb
      rw [e]at e1;cases e1
      refine .inr (.inl ⟨((PySem.W.codeHd_of_K KX hc).tab (gS b hb)).isCodeTable,rfl,#[],ps,rfl,?_⟩)
      rw [g1];simp
     ·have z2:=un.frzs b _ _ q
      obtain⟨e2,_⟩:=jp b _ z2
      rw [ha]at e;cases e
      exact .inl e2
 have nX:a∉ts:=fun hb=>by
  have:=gS a hb
  rw [ha]at this;cases this
 cases hk:K.lookup a with
 | some o =>
  have e:=KX a o hk
  rw [ha]at e
  cases e
  refine core (fun b=>if b∈ts then some .tab else none) (fun b u e=>?_) (fun Pt h=>aC h) (.inr ⟨_,vs.toArray,_,hk,rfl,rfl,rfl,by rw [aE,kX];exact hl,by simpa using rv⟩)
  by_cases hb:b∈ts
  ·have e:=(aC hb).symm.trans e;cases e;exact .inl ⟨hb,rfl⟩
  ·have e:=(ax hb).symm.trans e;cases e
 | none =>
  refine core (fun b=>if b∈ts then some .tab else if b=a then some (.frz { cls:=.type "list",data:=.seq vs.toArray } (.lst (ns.map V.int)))else none) (fun b u e=>?_) (fun Pt h=>aC h) (.inl ⟨_,(ax nX).trans (aC rfl)⟩)
  by_cases hb:b∈ts
  ·have e:=(aC hb).symm.trans e;cases e;exact .inl ⟨hb,rfl⟩
  ·have e:=(ax hb).symm.trans e
   by_cases ha:b=a
   ·have e:=(aC ha).symm.trans e;cases e;exact .inr ⟨ha,hk,rfl⟩
   ·have e:=(ax ha).symm.trans e;cases e
theorem V0t {l:PySem.W.OpenLaw}{n k:Nat}{q:Program}{dE:List Str}{XP:(Str->Option Value)->Heap->Prop}{YP:World->Heap->Prop}{d:DefRec}{K:Params->Fg9}{sp:World->Sp}{x:Str}{ts:List Addr}
  (hn:l.most=some n) (oX:n<=sizeLine) (jz:d.params.defaults=[]) (hr:E7 k callerA)
  (hY:∀(w:World) (h:Heap),YP w h->(K w.params).In h) (lP:∀(w:World) (h:Heap),YP w h->∀Pt∈ts,h.get? Pt=some (PySem.W.tabObj #[]))
  (F:∀(w:World) (mg:Str->Option Value) (fa:Addr) (h:Heap),(K w.params).In h->h.Ns mainGlobals mg->mg d.name=some (.ref fa) ->
   (∀Pt∈ts,(∃c,PySem.W.codeHdIn (K w.params) c Pt=true)/\(K w.params).lookup Pt=none) /\
   ∃fd:FuncData,(∀(s:Shared) (u:Value),BindsTo s fd ⟨[u],[]⟩ [(x,u)]) /\
    ∀base:Heap,(K w.params).In base->base.Ns mainGlobals mg->Q0w mg base->Q7 l.prog w (K w.params) mg base N1 k fa fd [x] (sp w))
  (gb:∀(w:World) (H:Hp) (a:Addr) (ns:List Int),ns.length<=n->(∀Pt∈ts,H Pt=some .tab)->FzL (K w.params) H a (ns.map V.int)->sp w [.ref a] H (fun v H'=>v=.bl true/\∀Pt∈ts,H' Pt=some .tab) fun _ _ _=>False) :
  PySem.W.WalkO q dE XP YP l.row.toRowW d [] (fun f vs=>PySem.call f vs):=by
 refine Att.attach_call hn jz fun w s₀ s₁ mg mb fa o pm cd cP a vs ns G Y ho hd dS js ii eC bN hg=>?_
 have KX:=hY w _ Y
 obtain⟨gS,fd,hb,hF⟩:=F w mg fa _ KX G.T.g js
 exact W1f KX G.T.g G.T.b G.T.builtins G.T.nolimit G.T.bmain hg (lP w _ Y) (fun Pt h=>(gS Pt h).1) (fun Pt h=>(gS Pt h).2) ii eC (aV bN oX) hr hF hb fun H hT hS=>gb w H a ns bN hT hS
end L2
namespace TK
open PySem PySem.Spec PyProof.Rows L2
def Q5y (ts:List Addr) (H:Hp):Prop:=∀Pt∈ts,H Pt=some .tab
noncomputable abbrev J9:=List R->(R->Prop)->Prop
noncomputable def Q4q (K:Fg9) (ts:List Addr) (n:Nat) (sp:J9):Sp:=fun vs H Q _=>∃(rs:List R) (P:R->Prop),rs.length=n/\M9 K (fun _=>none) H rs vs/\rs.all P8=true/\Q5y ts H/\sp (rs.map N6) P/\∀r v H',P r->A6 H H'->F7 K H H' r v->Q v H'
abbrev FnT (P:Program) (w:World) (K:Fg9) (mg:Str->Option Value) (base:Heap) (ts:List Addr) (k:Nat) (f:Addr) (fd:FuncData) (ps:List Str) (sp:J9):Prop:=Q7 P w K mg base N1 k f fd ps (Q4q K ts ps.length sp)
end TK
end
section
namespace TK
open PySem PySem.Spec PyProof.Rows L2
structure Q3l (K:Fg9) (x qual:Str) (st:Stmt) (f:Addr) (fd:FuncData) (c Pt:Addr):Prop where
 ex:∃(oc:Value) (od:Option Addr) (kV cP pm:Value) (an:Option Addr) (ct:Value) (dQ:Array (Option Value)),
  fd=PySem.W.fnOf x qual (Q0k st) (T0 st) (C5 st) .none kV cP pm an (.ref c) ct/\K.lookup f=some ⟨oc,od,.func fd,dQ⟩/\PySem.W.codeIn K (.ref c) qual=true
 hd:PySem.W.codeHdIn K c Pt=true
noncomputable abbrev P4 (P:R->Prop):F6:={ nx:=fun _=>P (.st .non),rt:=P,bk:=fun _=>False,ct:=fun _=>False }
section
variable {P:Program}{w:World}{K:Fg9}{mg:Str->Option Value}{base:Heap}{ts:List Addr}{x qual:Str}{st:Stmt}{f:Addr}{fd:FuncData}{N ps:List Str}{k:Nat}{sp:J9}
theorem Y1o {cdv:Value}{A:Around}{outer:List Env}{s:Shared}{H:Hp}{E:XK}{ws:WS}{rs:List R}{vs:List V}{Q:VK}{Pr:R->Prop}{X:Cx} (hX:X.K=K) (hd:A4 X H (T0 st) ws) (hl:rs.length=ps.length) (al:M9 K (fun _=>none) H rs vs) (ok:rs.all P8=true)
  (h1:sp (rs.map N6) Pr) (h2:∀r v H',Pr r->A6 H H'->F7 K H H' r v->Q v H') (hw:∀rs Pr,rs.length=ps.length->sp rs Pr->ws (P4 Pr) (G9 N rs)) :
  ∃t,PSs X (T0 st) t/\t { nx:=fun _ H'=>Q .non H',rt:=Q } (start N vs) H:=by
 subst hX
 refine⟨_,hd.ps,G9 N rs,Y2i al ok,?_⟩
 have hw:=hw (rs.map N6) Pr (by rw [ag];exact hl) h1
 rw [Y4d]at hw
 refine hd.mono _ _ _ ⟨fun τ h σ H' _ hR=>?_,fun r' h v H' sm ir=>?_,fun _ h=>False.elim h,fun _ h=>False.elim h⟩ hw
 ·exact h2 (.st .non) .non H' h hR.same (A2.s_non (K:=X.K) (H:=H'))
 ·exact h2 r' v H' h sm ir
theorem Q3.okP {ws:WS} (F:Q3 K x qual st f fd) (S:K5 N ps (C5 st))
  (cm:∀(cdv:Value) (A:Around) (outer:List Env) (s:Shared) (H:Hp) (E:XK),Q5y ts H->E7 k (A.deeper (envOfC qual (C5 st) s.heap.objs.size f cdv))->A4 (Q1e N1 P w K mg base N qual (C5 st) f cdv A outer s H E).nox H (T0 st) ws)
  (hw:∀rs Pr,rs.length=ps.length->sp rs Pr->ws (P4 Pr) (G9 N rs)):FnT P w K mg base ts (k+1) f fd ps sp:=by
 refine F.ok S (fun vs H Q E h=>?_) (fun cdv A outer s H vs Q E hr h=>?_)
 ·obtain⟨rs,r,hl,al,_⟩:=h
  rw [<- al.length];exact hl
 obtain⟨rs,Pr,hl,al,ok,hT,h1,h2⟩:=h
 exact Y1o (st:=st) (cdv:=cdv) (A:=A) (outer:=outer) (s:=s) (E:=E) rfl (cm cdv A outer s H E hT hr) hl al ok h1 h2 hw
theorem Q3l.okP {c Pt:Addr}{ws:WS} (F:Q3l K x qual st f fd c Pt) (S:K5 N ps (C5 st))
  (cm:∀(A:Around) (outer:List Env) (s:Shared) (H:Hp) (E:XK),Q5y ts H->E7 k (A.deeper (envOfC qual (C5 st) s.heap.objs.size f (.ref c)))->A4 (Q1e N1 P w K mg base N qual (C5 st) f (.ref c) A outer s H E).nox H (T0 st) ws)
  (hw:∀rs Pr,rs.length=ps.length->sp rs Pr->ws (P4 Pr) (G9 N rs)):FnT P w K mg base ts (k+1) f fd ps sp:=by
 obtain⟨oc,od,kV,cP,pm,an,ct,dQ,rfl,lk,dS⟩:=F.ex
 refine Z9o lk dS S (fun vs H Q E h=>?_) fun A outer s H vs Q E hr h=>?_
 ·obtain⟨rs,r,hl,al,_⟩:=h
  rw [<- al.length];exact hl
 obtain⟨rs,Pr,hl,al,ok,hT,h1,h2⟩:=h
 obtain⟨t,ht,q⟩:=Y1o (st:=st) (cdv:=.ref c) (A:=A) (outer:=outer) (s:=s) (E:=E) rfl (cm A outer s H E hT hr) hl al ok h1 h2 hw
 exact⟨t,ht.nox,q⟩
end
section
variable {X:Cx}{H0:Hp}{e:Expr}{es:List Expr}{wr:WA}{k:Nat}{f:Addr}{fd:FuncData}{ps:List Str}{sp:J9}{x:Str}{p pos:Pos}{ts:List Addr}
def Z2 (sp:J9):Prop:=∀rs P Q,(∀r,P r->Q r)->sp rs P->sp rs Q
def M4 (sp:J9) (wr:WA):WE:=fun τ Q=>wr τ fun rs=>rs.all P8=true/\sp (rs.map N6) Q
theorem DE.callP (lu:Z2 sp) (F:Q7 X.prog X.w X.K X.mg X.base N1 k f fd ps (Q4q X.K ts (e::es).length sp)) (hr:E7 k X.A) (hT:Q5y ts H0) (hg:Gl X x) (hm:X.mg x=some (.ref f)) (hk:PySem.W.keepIn X.K (.ref f)=true) (hb:V2 X.K fd ps [])
  (ha:DA X H0 (e::es) wr) (dC:(x==("__debug__":Str))=false:=by decide) (he:starEach (e::es) X.env=(false,eval e X.env)::starEach es X.env:=by rfl) (hpl:(backTo pos (starEach es X.env)).any (·.1)=false:=by rfl) :
  DE X H0 (.Call (.Name x p) (e::es) [] pos) (M4 sp wr) where
 mono:=fun τ P Q g h=>ha.mono τ _ _ (fun rs ⟨ok,h1⟩=>⟨ok,lu _ _ _ g h1⟩) h
 pe:=peW (Y1s F hr hg hm hk hb .nil Z3y ha.pa dC he hpl) fun σ H Q ⟨τ,hR,h⟩=>⟨τ,hR,ha.mono τ _ _ (fun rs ⟨ju,ok,h1⟩ vs H1 s1 cu=>by
  refine⟨rs,_,ju,?_,ok,fun Pt hp=>s1 _ _ (hR.same _ _ (hT Pt hp)),h1,fun r v H' q s2 ir=>q v H' (s1.trans s2) (ir.older s1)⟩
  rw [aX]
  exact cu.v) (ha.len τ _ h)⟩
@[simp] theorem V0 {τ:A9}{Q:R->Prop}:M4 sp wr τ Q=wr τ fun rs=>rs.all P8=true/\sp (rs.map N6) Q:=rfl
end
section
variable {P:Program}{w:World}{K:Fg9}{mg:Str->Option Value}{base:Heap}{ts:List Addr}{x qual:Str}{st:Stmt}{f:Addr}{fd:FuncData}{N ps:List Str}{k kl:Nat}{sp:J9}{c Pt:Addr}
 {qw dI:Stmt}{params:Arguments}{body:Expr}{sc:Scope}{cA nS:Pos}{cs:List (Str×Nat)}{qz:List Str}{w1 w2:WS}{wb:WE}
end
def Y5i (FC:P5) (n m:Nat) (cs es:List (Str×Nat)) (wb wc:WE) (sp:E6) (we:WE):WE:=fun τ Q=>we τ fun r1=>P8 r1=true/\∃cB fu,Q2a τ cs cB/\Q2a τ es fu/\∀f Φ h Ψ,FC n f Φ (Q0o wb cB)->FC m h Ψ (Q0o wc fu)->∃d,sp [N6 r1,.cl f Φ,.cl h Ψ] (.st d)/\Q (.st d)
section
variable {X:Cx}{H0:Hp}{e:Expr}{we wb wc:WE}{k kl:Nat}{f:Addr}{fd:FuncData}{jc ps qs:List Str}{sp:E6}{x:Str}{p pos cA dl:Pos}{params cp:Arguments}{body cQ:Expr}{sc dN:Scope}{c Pt:Addr}{cs es:List (Str×Nat)}{clos clo2:List (Str×Addr)}
theorem DE.callW2 (F:Q7 X.prog X.w X.K X.mg X.base N1 k f fd jc (Q4r X.K 3 sp)) (hr:E7 k X.A) (hg:Gl X x) (hm:X.mg x=some (.ref f)) (hk:PySem.W.keepIn X.K (.ref f)=true) (hb:V2 X.K fd jc []) (ha:DE X H0 e we)
  (hT:H0 Pt=some .tab) (hB:Q0w X.mg X.base) (dw:X.env.code=.ref c) (hC:PySem.W.codeHdIn X.K c Pt=true)
  (gA:closureFor sc X.env=pure clos) (iC:cs.map (·.1)=clos.map (·.1)) (fD:∀y∈clos,X.env.cells.lookup y.1=some y.2) (fm:∀c∈cs,X.N[c.2]?=some c.1/\X.env.kindOf c.1=some .cell/\X.fn c.1=true) (S:Q5v ps (cs.map (·.1)) sc)
  (lL:closureFor dN X.env=pure clo2) (lJ:es.map (·.1)=clo2.map (·.1)) (lM:∀y∈clo2,X.env.cells.lookup y.1=some y.2) (lI:∀c∈es,X.N[c.2]?=some c.1/\X.env.kindOf c.1=some .cell/\X.fn c.1=true) (S2:Q5v qs (es.map (·.1)) dN)
  (jr:(cs.map (·.1)++es.map (·.1)).Nodup)
  (eD:∀(qual:Str) (cl:List (Str×Addr)) (pm cd ct:Value) (us:List Value),us.length=ps.length->bindArgs (PySem.W.kla_fn "<lambda>" qual params body sc cl pm cd ct) ⟨us,[]⟩=pure (ps.zip us))
  (iG:∀(qual:Str) (cl:List (Str×Addr)) (pm cd ct:Value) (us:List Value),us.length=qs.length->bindArgs (PySem.W.kla_fn "<lambda>" qual cp cQ dN cl pm cd ct) ⟨us,[]⟩=pure (qs.zip us))
  (cm:∀(caps:List M7) (f c':Addr) (A:Around) (outer:List Env) (s:Shared) (H:Hp) (q:Str),caps.map (·.name)=cs.map (·.1)->E7 kl (A.deeper (PySem.W.envX q sc s.heap.objs.size f (.ref c') (P9 caps)))->DE (cxL X.prog X.w X.K X.mg X.base (ps++cs.map (·.1)) q sc f c' caps A outer s H) H body wb)
  (iF:∀(caps:List M7) (f c':Addr) (A:Around) (outer:List Env) (s:Shared) (H:Hp) (q:Str),caps.map (·.name)=es.map (·.1)->E7 kl (A.deeper (PySem.W.envX q dN s.heap.objs.size f (.ref c') (P9 caps)))->DE (cxL X.prog X.w X.K X.mg X.base (qs++es.map (·.1)) q dN f c' caps A outer s H) H cQ wc)
  (dC:(x==("__debug__":Str))=false:=by decide) (he:starEach [e,.Lambda params body sc cA,.Lambda cp cQ dN dl] X.env=(false,eval e X.env)::starEach [.Lambda params body sc cA,.Lambda cp cQ dN dl] X.env:=by rfl)
  (lH:starEach [.Lambda params body sc cA,.Lambda cp cQ dN dl] X.env=(false,eval (.Lambda params body sc cA) X.env)::starEach [.Lambda cp cQ dN dl] X.env:=by rfl) (pK:starEach [.Lambda cp cQ dN dl] X.env=(false,eval (.Lambda cp cQ dN dl) X.env)::starEach [] X.env:=by rfl)
  (hpl:(backTo pos (starEach [.Lambda params body sc cA,.Lambda cp cQ dN dl] X.env)).any (·.1)=false:=by rfl) (hd:defaultsOf params X.env=([],[]):=by rfl) (fC:defaultsOf cp X.env=([],[]):=by rfl) :
  DE X H0 (.Call (.Name x p) [e,.Lambda params body sc cA,.Lambda cp cQ dN dl] [] pos) (Y5i (FnC X.prog X.w X.K X.mg X.base (kl+1)) ps.length qs.length cs es wb wc sp we) where
 mono:=fun τ P Q g h=>ha.mono τ _ _ (fun r1 ⟨ok,cB,fu,h1,jL,h2⟩=>⟨ok,cB,fu,h1,jL,fun f Φ h Ψ F G=>let ⟨d,a,b⟩:=h2 f Φ h Ψ F G;⟨d,a,g _ b⟩⟩) h
 pe:=by
  intro ae s σ H Q I ⟨τ,hR,h⟩
  refine bo (Q8q I hg hm ?_ dC)
  have lX:PA X [e,.Lambda params body sc cA,.Lambda cp cQ dN dl] (Q5h _ (Q5h _ (Q5h _ Z5h))):=Q0d (es:=[.Lambda params body sc cA,.Lambda cp cQ dN dl]) ha.pe (Q0d (es:=[.Lambda cp cQ dN dl]) (Z4a (pos:=cA) hB dw hC gA hd) (Q0d (es:=[]) (Z4a (pos:=dl) hB dw hC lL fC) Q2s pK) lH) he
  refine PySem.W.callWith_K (h₀:=X.base) I.ok.mod.kin hk (B4 (lX pos ae s σ H (fun vs H1=>A6 H H1/\∃v1 fa c' oc ctv fb c2 iO j3 r1,vs=[v1,.ref fa,.ref fb]/\F7 X.K H H1 r1 v1/\P8 r1=true/\(Q3z oc/\H1 c'=some (.frz oc (.own Pt))/\H1 fa=some (.frz (X3 X params body sc clos c' ctv) U7)) /\
   (Q3z iO/\H1 c2=some (.frz iO (.own Pt))/\H1 fb=some (.frz (X3 X cp cQ dN clo2 c2 j3) U7)) /\
   ∃cB fu,Q2a τ cs cB/\Q2a τ es fu/\∀f Φ h Ψ,FnC X.prog X.w X.K X.mg X.base (kl+1) ps.length f Φ (Q0o wb cB)->FnC X.prog X.w X.K X.mg X.base (kl+1) qs.length h Ψ (Q0o wc fu)->∃d,sp [N6 r1,.cl f Φ,.cl h Ψ] (.st d)/\∀v H',A6 H H'->F7 X.K H H' (.st d) v->Q v H') I ?_) fun us s1 ⟨vs,H1,I1,r,gL,q⟩=>⟨I1.kIn,?_⟩) he hpl
  ·refine⟨τ,hR,ha.mono τ _ _ (fun r1 ⟨ok,cB,fu,h1,jL,h2⟩ v1 H1 s1 ir=>?_) h⟩
   refine⟨s1 _ _ (hR.same _ _ hT),fun fa c' oc ctv H' sm dR hf dg iA _=>?_⟩
   refine⟨sm _ _ (s1 _ _ (hR.same _ _ hT)),fun fb c2 iO j3 H2 jY ig qE fE iy _=>?_⟩
   exact⟨s1.trans (sm.trans jY),v1,fa,c',oc,ctv,fb,c2,iO,j3,r1,rfl,ir.mono (sm.trans jY),ok,⟨dR,jY _ _ dg,jY _ _ iA⟩,⟨ig,fE,iy⟩,cB,fu,h1,jL,h2⟩
  ·obtain⟨v1,fa,c',oc,ctv,fb,c2,iO,j3,r1,rfl,ir,ok,⟨dR,dg,iA⟩,⟨ig,fE,iy⟩,cB,fu,h1,jL,h2⟩:=q
   obtain⟨caps,n1,n2,iB⟩:=Q7y I1 (hR.mono gL) fm h1
   obtain⟨fF,m1,m2,km⟩:=Q7y I1 (hR.mono gL) lI jL
   have eS:∀p∈caps++fF,Q2j X s1 p:=fun p hp=>(aN.mp hp).elim (fun h=>(iB p h).1) fun h=>(km p h).1
   have iP:((caps++fF).map (·.name)).Nodup:=by rw [aY,n1,m1];exact jr
   have nd:=Z1o I1 iP eS
   have kQ:=nd
   rw [aY]at kQ
   have oh:=(bh.mp kQ).1
   have og:=(bh.mp kQ).2.1
   have hL:P9 caps=clos:=Q7x (cs:=clos) (n1.trans iC) (fun p hp=>(iB p hp).1.look) fD
   have lY:P9 fF=clo2:=Q7x (cs:=clo2) (m1.trans lJ) (fun p hp=>(km p hp).1.look) lM
   have eV:=Q6a I1 eS
   subst hL lY
   have LP:Q1v X.K caps fa c' (X3 X params body sc (P9 caps) c' ctv) (V4 (caps++fF) H1):=⟨eV _ _ iA,⟨oc,Pt,eV _ _ dg,dR⟩,fun p hp=>⟨Q4d nd (bP _ hp),(iB p hp).1.cell,(iB p hp).2.mono (Kp.of eV)⟩⟩
   have qq:Q1v X.K fF fb c2 (X3 X cp cQ dN (P9 fF) c2 j3) (V4 (caps++fF) H1):=⟨eV _ _ iy,⟨iO,Pt,eV _ _ fE,ig⟩,fun p hp=>⟨Q4d nd (aF _ hp),(km p hp).1.cell,(km p hp).2.mono (Kp.of eV)⟩⟩
   have F0:=Z2g (P:=X.prog) (w:=X.w) (K:=X.K) (mg:=X.mg) (base:=X.base) (k:=kl) (f:=fa) (c':=c') (name:="<lambda>") (qual:=X.env.qual++"<lambda>") (params:=params) (body:=body) (sc:=sc) (pm:=(X.mg "__name__").getD .none) (ctv:=ctv) (ps:=ps) (caps:=caps) (sp:=Q0o wb cB) (wb:=wb) (by rw [n1];exact S) oh
    (fun A outer s H q hr=>by rw [n1];exact cm caps fa c' A outer s H q n1 hr) (fun rs r _ hs=>by
     obtain⟨ds,d,e1,e2,e3⟩:=hs
     refine⟨ds,d,e1,e2,?_⟩
     have:cB.map some=caps.map fun p=>some p.slot:=by rw [<- n2,aL];rfl
     rw [<- this];exact e3)
   have F1:=Z2g (P:=X.prog) (w:=X.w) (K:=X.K) (mg:=X.mg) (base:=X.base) (k:=kl) (f:=fb) (c':=c2) (name:="<lambda>") (qual:=X.env.qual++"<lambda>") (params:=cp) (body:=cQ) (sc:=dN) (pm:=(X.mg "__name__").getD .none) (ctv:=j3) (ps:=qs) (caps:=fF) (sp:=Q0o wc fu) (wb:=wc) (by rw [m1];exact S2) og
    (fun A outer s H q hr=>by rw [m1];exact iF fF fb c2 A outer s H q m1 hr) (fun rs r _ hs=>by
     obtain⟨ds,d,e1,e2,e3⟩:=hs
     refine⟨ds,d,e1,e2,?_⟩
     have:fu.map some=fF.map fun p=>some p.slot:=by rw [<- m2,aL];rfl
     rw [<- this];exact e3)
   obtain⟨d,g1,g2⟩:=h2 fa _ fb _ ⟨_,ps,F0,rfl,V2.all (eD _ _ _ _ _),fun hh Hh hok _ hΦ=>⟨_,(hok _ _ hΦ.1).1,rfl⟩⟩ ⟨_,qs,F1,rfl,V2.all (iG _ _ _ _ _),fun hh Hh hok _ hΦ=>⟨_,(hok _ _ hΦ.1).1,rfl⟩⟩
   refine Y2m (CX:=N1) (E:=E0) F hr hb I1 nd eS r ⟨[r1,.cl fa _,.cl fb _],.st d,rfl,⟨v1,_,rfl,(ir.mono eV).v,_,_,rfl,⟨rfl,LP,Q1v.mono⟩,_,_,rfl,⟨rfl,qq,Q1v.mono⟩,rfl⟩,by rw [List.all_cons,ok];rfl,g1,fun v H' cG iv=>⟨cG,?_⟩⟩
   have hS:S9 ((caps++fF).map (·.addr)) H':=fun c iE=>by
    obtain⟨o,u,e1,e2⟩:=Z1e (H:=H1) nd eS c iE
    exact⟨o,u,cG _ _ e1,e2⟩
   have Q2e:∀b u,H1 b=some u->b∉(caps++fF).map (·.addr):=fun b u e hb=>by
    obtain⟨p,hp,rfl⟩:=ah.mp hb
    rw [I1.freeC _ _ (eS p hp).look]at e;cases e
   exact g2 v _ (fun b u e=>by rw [Q1f (Q2e b u (gL _ _ e))];exact cG _ _ (eV _ _ (gL _ _ e))) (show A2 X.K _ d v from A2.hid hS d v iv)
end
end TK
end
section
namespace L2
open PySem PySem.Spec PyProof.Rows
section
variable {X:Cx}{k v:Expr}{tk tv:TE}{pos:Pos}
end
end L2
namespace TK
open PySem PySem.Spec PyProof.Rows L2
theorem Q4o {K:Fg9}{H:Hp}:∀{d:D}{k:B3}{v:V},R0 d=some k->A2 K H d v->v=kV k
 | .int i,k,v,h,q=>by cases h;unfold A2 at q;rw [q];rfl
 | .str x,k,v,h,q=>by cases h;unfold A2 at q;rw [q];rfl
 | .non,_,_,h,_=>by cases h
 | .bl _,_,_,h,_=>by cases h
 | .tup _,_,_,h,_=>by cases h
 | .lst _,_,_,h,_=>by cases h
section
variable {X:Cx}{H0:Hp}{a b c e o tg:Expr}{pos bB p2 apos bC:Pos}{wa wb wi we:WE}{x:Str}
theorem C4.dkAt {K:Fg9}{H:Hp} {τ:A9} {σ:St}{i:Nat}{kvs:List (B3×D)} (hR:C4 K H0 τ σ H) (e1:τ[i]?=some (some (.dk kvs))):∃a ps,σ[i]?=some (some (.ref a))/\H0 a=none/\H a=some (.dK ps)/\D4 K H kvs ps:=by
 obtain⟨v,hv,a,xs,rfl,h0,sq,al⟩:=hR.here i _ e1
 exact⟨a,xs,hv,h0,sq,al⟩
def Q1s (i:Nat) (we:WE):WE:=fun τ Q=>∃kvs,τ[i]?=some (some (.dk kvs))/\we τ fun r=>∃kd k d,r=.st kd/\R0 kd=some k/\J7 kvs k=some d/\Q (.st d)
theorem DE.kget {i:Nat} (hu:X.A.units+1<cLine) (ho:PE X o (T4 i)) (he:DE X H0 e we) (hs:Z0w e):DE X H0 (.Subscript o e pos) (Q1s i we) where
 mono:=fun τ P Q f ⟨kvs,e1,h⟩=>⟨kvs,e1,he.mono τ _ _ (fun r ⟨ds,ks,d,a1,a2,a3,a4⟩=>⟨ds,ks,d,a1,a2,a3,f _ a4⟩) h⟩
 pe:=peW (W4o hu ho he.pe hs) fun σ H Q ⟨τ,hR,kvs,e1,h⟩=>by
  obtain⟨a,ps,hv,h0,sq,kv⟩:=hR.dkAt e1
  refine⟨_,hv,τ,hR,he.mono τ _ _ (fun r ⟨kd,k,d,a1,a2,a3,a4⟩ v H1 s1 ir=>?_) h⟩
  subst a1
  cases Q4o a2 (show A2 X.K H1 kd v from ir)
  rcases D4.val (k:=k) (kv.mono (Kp.of s1) _ _)with⟨n1,_⟩ | ⟨d',v',n1,n2,n3⟩
  ·rw [a3]at n1;cases n1
  ·rw [a3]at n1;cases n1
   refine⟨a,v',rfl,?_,a4 _ _ s1 n3⟩
   have g:=Q0h.k (k:=k) (s1 _ _ sq)
   rw [n2]at g
   exact g
def Q3g (i:Nat) (we:WE):WT:=fun τ Q=>∃kvs,τ[i]?=some (some (.dk kvs))/\we τ fun r=>∃kd k,r=.st kd/\R0 kd=some k/\Q (!(J7 kvs k).isSome)
theorem DT.knotin {i:Nat} (hu:X.A.units+1<cLine) (he:DE X H0 e we) (ho:PE X o (T4 i)) (h1:behindInMarks .NotIn o=false:=by rfl):DT X H0 (.Compare e [.NotIn] [o] pos) (Q3g i we) where
 mono:=fun τ P Q f ⟨kvs,e1,h⟩=>⟨kvs,e1,he.mono τ _ _ (fun r ⟨ds,ks,a1,a2,a4⟩=>⟨ds,ks,a1,a2,f _ a4⟩) h⟩
 pt:=ptW (W5y (W4h hu he.pe ho) h1) fun σ H Q ⟨τ,hR,kvs,e1,h⟩=>by
  refine⟨τ,hR,he.mono τ _ _ (fun r ⟨kd,k,a1,a2,a4⟩ v H1 s1 ir=>?_) h⟩
  obtain⟨a,ps,hv,h0,sq,kv⟩:=(hR.mono s1).dkAt e1
  subst a1
  cases Q4o a2 (show A2 X.K H1 kd v from ir)
  refine⟨_,hv,a,_,rfl,Q0h.k (k:=k) sq,?_⟩
  have e:(X8 ps k).isSome=(J7 kvs k).isSome:=by
   rcases D4.val (k:=k) kv with⟨n1,n2⟩ | ⟨d',v',n1,n2,n3⟩ <;> rw [n1,n2] <;> rfl
  rw [e]
  exact⟨_,rfl,a4 _ s1⟩
def Q3h (i:Nat) (we wv:WE):WS:=fun E τ=>wv τ fun r=>∃d,r=.st d/\∃kvs,τ[i]?=some (some (.dk kvs))/\we τ fun rk=>∃kd k,rk=.st kd/\R0 kd=some k/\kvs.length<sizeLine/\E.nx (τ.set i (some (.dk (S4 kvs k d))))
theorem DS.kput {i:Nat}{v:Expr}{wv:WE} (hu:X.A.units+1<cLine) (ho:PE X o (T4 i)) (he:DE X H0 e we) (hv:DE X H0 v wv) (hs:swapsWith v (some (.Subscript o e bB)) pos.line X.env=pure false:=by rfl) :
  DS X H0 (.Assign [.Subscript o e bB] v pos) (Q3h i we wv) where
 mono:=fun τ E F le h=>hv.mono τ _ _ (fun r ⟨d,e1,kvs,e2,h⟩=>⟨d,e1,kvs,e2,he.mono τ _ _ (fun r ⟨ds,ks,a1,a2,a3,a4⟩=>⟨ds,ks,a1,a2,a3,le.nx _ a4⟩) h⟩) h
 ps:=psW (W5r hu ho he.pe hv.pe hs) fun D σ H ⟨τ,hR,h⟩=>by
  refine⟨τ,hR,hv.mono τ _ _ (fun r ⟨d,e1,kvs,e2,h⟩ u H1 s1 ir=>?_) h⟩
  subst e1
  have dF:=hR.mono s1
  obtain⟨a,ps,fU,h0,sq,kv⟩:=dF.dkAt e2
  refine⟨_,fU,τ,dF,he.mono τ _ _ (fun rk ⟨kd,k,a1,a2,a3,a4⟩ y H2 s2 ik=>?_) h⟩
  subst a1
  cases Q4o a2 (show A2 X.K H2 kd y from ik)
  have fN:=s2 _ _ sq
  have mx:=kv.mono (Kp.of s2) _ _
  refine⟨a,_,rfl,Q5t.k fN (by rw [<- D4.length mx];exact a3),?_⟩
  have kp:Kp H2 (upd H2 a (.dK (S5 ps k u))):=Kp.updM fN (by intro xs z;cases z) (by intro o u z;cases z) _
  have iv:A2 X.K H2 d u:=A2.mono (Kp.of s2) _ _ ir
  refine a4 σ _ ((Kp.of (s1.trans s2)).trans kp) ((dF.mono s2).mutG e2 rfl fU h0 fN (by intro xs z;cases z) (by intro o u z;cases z) ⟨a,_,rfl,h0,upd_same,?_⟩)
  exact D4.mono kp _ _ (D4.put iv mx)
@[simp] theorem Q9f {i:Nat} {τ:A9}{Q:R->Prop}:Q1s i we τ Q=∃kvs,τ[i]?=some (some (.dk kvs))/\we τ fun r=>∃kd k d,r=.st kd/\R0 kd=some k/\J7 kvs k=some d/\Q (.st d):=rfl
@[simp] theorem Z4p {i:Nat} {τ:A9}{Q:Bool->Prop}:Q3g i we τ Q=∃kvs,τ[i]?=some (some (.dk kvs))/\we τ fun r=>∃kd k,r=.st kd/\R0 kd=some k/\Q (!(J7 kvs k).isSome):=rfl
@[simp] theorem Z4q {i:Nat}{wv:WE}{E:F6} {τ:A9}:Q3h i we wv E τ=wv τ fun r=>∃d,r=.st d/\∃kvs,τ[i]?=some (some (.dk kvs))/\we τ fun rk=>∃kd k,rk=.st kd/\R0 kd=some k/\kvs.length<sizeLine/\E.nx (τ.set i (some (.dk (S4 kvs k d)))):=rfl
end
end TK
end
section
namespace TK
open PySem PySem.Spec PyProof.Rows L2
noncomputable instance decD:DecidableEq D:=fun a b=>Classical.propDecidable (a=b)
section
variable {E:VS9}{prog:Program}{w:World}
end
section
variable {κ:Type} [DecidableEq κ] {P:Program}{w:World}{knd:HeapKind P w κ}{A:Around}{E:VS9}{s:Shared}{d a:Addr}{xs:List (κ×Addr×Value)}{k:κ}
end
section
variable {P:Program}{w:World}{H:Hp}{h h':Heap}{p:Addr}{ks:List (D×Addr)}{K:Fg9}
end
section
variable {X:Cx}{ae:Pn9} {σ:St}{H:Hp}{s:Shared}{p:Addr}
end
section
variable {X:Cx}{o e x':Expr}{apos bC q3 q5:Pos}{i j:Nat}
end
section
variable {X:Cx}{H0:Hp}{mk x:Str}{iter:Expr}{scope:Scope}{pos p1 o1 o2 o3 apos bC q3 q5:Pos}{i:Nat}{wi:Q8}
variable {sp qx dp rp:Pos}
end
noncomputable def FzD (K:Fg9) (a:Addr) (kvs:List (B3×D)):Hp->Prop:=fun H=>∃o ps,H a=some (.frz o (.dK ps))/\D4 K H kvs ps
theorem FzD.mono {K:Fg9}{a:Addr}{kvs:List (B3×D)}:Q4b (FzD K a kvs):=fun H H' k ⟨o,ps,h,q⟩=>⟨o,ps,k.frz _ _ _ h,q.mono k _ _⟩
section
variable {X:Cx}{ae:Pn9} {σ:St}{H H0:Hp}{s:Shared}{a:Addr}
theorem W0b {ps:List (B3×V)} (I:A0 X ae σ H s) (h:H a=some (.dK ps)):∃o,A0 X ae σ (upd H a (.frz o (.dK ps))) s:=by
 have ok:=I.hok a _ h
 obtain⟨_,_,_,_,o,_,_,q,_⟩:=id (show K4 X.prog X.w H s.heap a (.dK ps)from ok)
 refine⟨o,I.write (t':=s.toks) (h':=s.heap) (e:=a) (o:=.frz o (.dK ps)) (by rw [h];trivial) (.inl rfl) (fun b u _ k=>k) ⟨_,q⟩ ⟨q,?_⟩⟩
 exact ok
end
section
variable {X:Cx}{H0:Hp}{st:Stmt}{w:WS}
theorem Y1z {t:TS} (h:PS X st t):PS X st (fun D σ H=>t { D with nx:=fun σ' H'=>∀ae s,A0 X ae σ' H' s->∃cV,A0 X ae σ' cV s/\D.nx σ' cV } σ H):=by
 intro ae s σ H D I q
 refine B4 (h ae s σ H _ I q) fun f s1 q1=>?_
 cases f with
 | next =>
  obtain⟨σ',H',I',q2⟩:=q1
  obtain⟨cV,qr,q3⟩:=q2 ae s1 I'
  exact⟨σ',cV,qr,q3⟩
 | brk=>exact q1
 | cont=>exact q1
 | ret v=>exact q1
end
section
variable {X:Cx}{H0:Hp}{a b c e o tg:Expr}{pos bB p2 apos bC:Pos}{wa wb wi we wv:WE}{x:Str}{i:Nat}
def Z5t (K:Fg9) (i:Nat):WS:=fun E τ=>∃kvs,τ[i]?=some (some (.dk kvs))/\∀a,E.rt (.cl a (FzD K a kvs))
theorem DS.retK (he:PE X e (T4 i)):DS X H0 (.Return (some e) pos) (Z5t X.K i) where
 mono:=fun τ E F le ⟨kvs,e1,q⟩=>⟨kvs,e1,fun a=>le.rt _ (q a)⟩
 ps:=by
  intro ae s σ H D I ⟨τ,hR,kvs,e1,q⟩
  obtain⟨a,ps,hv,h0,sq,kv⟩:=hR.dkAt e1
  refine wpAny_Return_some (B4 (he ae s σ H (fun v H1=>v=.ref a/\H1=H) I ⟨_,hv,rfl,rfl⟩) fun u s1 bx=>?_)
  obtain⟨v,H1,I1,rv,ev,eH⟩:=bx
  subst ev eH
  obtain⟨ob,I2⟩:=W0b I1 sq
  have kp:Kp H1 (upd H1 a (.frz ob (.dK ps))):=Kp.updM sq (by intro xs z;cases z) (by intro o u z;cases z) _
  refine⟨.ref a,σ,_,I2,rv,q a _ _ (fun b ob hb=>?_) ⟨rfl,⟨ob,ps,upd_same,kv.mono kp _ _⟩,FzD.mono⟩⟩
  rw [B6 (Y6 hb h0)];exact hR.same _ _ hb
def Z5u (i:Nat) (we:WE):WS:=fun E τ=>we τ fun r=>∃a Φ,r=.cl a Φ/\E.nx (τ.set i (some (.cl a Φ)))
theorem DS.setF (he:DE X H0 e we) (hN:X.N.Nodup) (hi:X.N[i]?=some x) (hx:Loc X.env.scope x) (hs:swapsWith e (some (.Name x bB)) pos.line X.env=pure false:=by rfl)
  (hf:X.fn x=true\/X.env.scope.names.lookup x=some .local:=by first | exact .inl rfl | exact .inr rfl | assumption):DS X H0 (.Assign [.Name x bB] e pos) (Z5u i we) where
 mono:=fun τ E F le h=>he.mono τ _ _ (fun r ⟨a,Φ,e1,q⟩=>⟨a,Φ,e1,le.nx _ q⟩) h
 ps:=psW (Z4e hN hi hx he.pe hs hf) fun D σ H ⟨τ,hR,h⟩=>⟨τ,hR,he.mono τ _ _ (fun r ⟨a,Φ,e1,q⟩ v H1 s1 ir=>by
  subst e1
  exact q _ _ (Kp.of s1) ((hR.mono s1).set (s:=.cl a Φ) ir fun m=>by cases m)) h⟩
theorem C4.fkAt {K:Fg9}{H:Hp} {τ:A9} {σ:St}{a:Addr}{kvs:List (B3×D)} (hR:C4 K H0 τ σ H) (e1:τ[i]?=some (some (.cl a (FzD K a kvs)))):σ[i]?=some (some (.ref a))/\∃o ps,H a=some (.frz o (.dK ps))/\D4 K H kvs ps:=by
 obtain⟨v,hv,rfl,q,_⟩:=hR.here i _ e1
 exact⟨hv,q⟩
def Z5o (K:Fg9) (i:Nat) (we:WE):WE:=fun τ Q=>∃a kvs,τ[i]?=some (some (.cl a (FzD K a kvs)))/\we τ fun r=>∃kd k,r=.st kd/\R0 kd=some k/\Q (.st ((J7 kvs k).getD .non))
theorem DE.fget1 (hu:X.A.units+1<cLine) (ho:PE X o (T4 i)) (he:DE X H0 e we) (m:M1 X o "get" apos e bC):DE X H0 (.Call (.Attribute o "get" apos) [e] [] bC) (Z5o X.K i we) where
 mono:=fun τ P Q f ⟨a,kvs,e1,h⟩=>⟨a,kvs,e1,he.mono τ _ _ (fun r ⟨ds,ks,a1,a2,a4⟩=>⟨ds,ks,a1,a2,f _ a4⟩) h⟩
 pe:=peW (W4p hu ho he.pe m) fun σ H Q ⟨τ,hR,a,kvs,e1,h⟩=>by
  obtain⟨hv,ob,ps,sq,kv⟩:=hR.fkAt e1
  refine⟨_,hv,a,rfl,.inl ⟨ps,.inr ⟨ob,sq⟩⟩,τ,hR,he.mono τ _ _ (fun r ⟨kd,k,a1,a2,a4⟩ v H1 s1 ir=>?_) h⟩
  subst a1
  cases Q4o a2 (show A2 X.K H1 kd v from ir)
  refine⟨_,.inl ⟨ps,k,.inr ⟨ob,s1 _ _ sq⟩,rfl,rfl⟩,a4 _ _ s1 ?_⟩
  rcases D4.val (k:=k) (kv.mono (Kp.of s1) _ _)with⟨n1,n2⟩ | ⟨d',v',n1,n2,n3⟩
  ·rw [n1,n2];exact A2.s_non (K:=X.K) (H:=H1)
  ·rw [n1,n2];exact n3
def Z0f (i:Nat) (we wv:WE):WS:=fun E τ=>i<τ.length/\we τ fun rk=>∃kd k,rk=.st kd/\R0 kd=some k/\wv τ fun r=>∃d,r=.st d/\E.nx (τ.set i (some (.dk [(k,d)])))
theorem DS.knew1 {v:Expr} (he:DE X H0 e we) (hv:DE X H0 v wv) (hN:X.N.Nodup) (hi:X.N[i]?=some x) (hx:Loc X.env.scope x) (hs:swapsWith (.Dict [some e] [v] p2) (some (.Name x bB)) pos.line X.env=pure false:=by rfl)
  (hf:X.fn x=true\/X.env.scope.names.lookup x=some .local:=by first | exact .inl rfl | exact .inr rfl | assumption):DS X H0 (.Assign [.Name x bB] (.Dict [some e] [v] p2) pos) (Z0f i we wv) where
 mono:=fun τ E F le h=>⟨h.1,he.mono τ _ _ (fun r ⟨ds,ks,a1,a2,h⟩=>⟨ds,ks,a1,a2,hv.mono τ _ _ (fun r ⟨d,b1,b2⟩=>⟨d,b1,le.nx _ b2⟩) h⟩) h.2⟩
 ps:=psW (Z4e hN hi hx (W4q (W5n he.pe hv.pe W5o) rfl rfl (by simp) (by simp)) hs hf) fun D σ H ⟨τ,hR,hl,h⟩ p hp=>by
  have sm:A6 H (upd H p (.dK [])):=G0 hp _
  have dF:=hR.mono sm
  refine⟨τ,dF,he.mono τ _ _ (fun rk ⟨kd,k,a1,a2,h⟩ y H1 s1 ik=>?_) h⟩
  subst a1
  have dD:=dF.mono s1
  refine⟨τ,dD,hv.mono τ _ _ (fun r ⟨d,b1,b2⟩ u H2 s2 iv=>?_) h⟩
  subst b1
  cases Q4o a2 (show A2 X.K H1 kd y from ik)
  have ep:=s2 _ _ (s1 _ _ (upd_same (H:=H) (a:=p) (o:=.dK [])))
  refine⟨ep,[(k,u)],rfl,by simp,?_⟩
  have e1:Q4v [] [(k,u)]=[(k,u)]:=rfl
  rw [e1]
  have kp:Kp H2 (upd H2 p (.dK [(k,u)])):=Kp.updM ep (by intro xs z;cases z) (by intro o u z;cases z) _
  have lV:=dD.mono s2
  have h0:H0 p=none:=hR.same.free hp
  have ox:Kp H (upd H2 p (.dK [(k,u)])):=(Kp.of ((sm.trans s1).trans s2)).trans kp
  have eQ:∀(j:Nat) (t:Sl),τ[j]?=some (some t)->t.mut=true->σ[j]?≠some (some (.ref p)):=fun j t e m q=>by
   obtain⟨o,ho⟩:=hR.tracked e m q
   rw [hp]at ho;cases ho
  have lU:C4 X.K H0 (τ.set i (some (.dk []))) (σ.set i (some (.ref p))) H2:=lV.set (s:=.dk []) ⟨p,[],rfl,h0,ep,rfl⟩ fun _ j t hj e m q=>eQ j t e m q
  have g1:(τ.set i (some (.dk [])))[i]?=some (some (.dk [])):=bq hl
  have g2:(σ.set i (some (V.ref p)))[i]?=some (some (.ref p)):=bq (by rw [<- hR.len];exact hl)
  have h9:=lU.mutG (s':=.dk [(k,d)]) (new:=.dK [(k,u)]) g1 rfl g2 h0 ep (by intro xs z;cases z) (by intro o u z;cases z) ⟨p,[(k,u)],rfl,h0,upd_same,⟨u,[],rfl,A2.mono kp _ _ iv,rfl⟩⟩
  rw [List.set_set]at h9
  exact b2 _ _ ox h9
end
theorem Z8f {X:Cx}{ae:Pn9} {σ:St}{H2 H':Hp}{s2 s1:Shared}{scope:Scope}{C D0:Addr}{fp:List Addr}{N:List Str}{pb:Pn9} {σ':St}{h':Heap}{u0:HO}
  (I2:A0 X ae σ H2 s2) (Ib:A0 (C9 X scope C s2 H2 fp N) pb σ' H' s1) (f2:∀b∈fp,O4 X ae H2 b) (hC:s2.heap.objs.size<=C) (hD:s2.heap.objs.size<=D0) (m5:H' D0=none)
  (sb:Heap.SameBut C s1.heap h') (new:K4 X.prog X.w (upd H' D0 u0) h' D0 u0):A0 X ae σ (upd H' D0 u0) { s1 with heap:=h' }:=by
 have ia:∀b o,s2.heap.get? b=some o->b≠C:=fun b o e=>aD (az (ay e) hC)
 have kU:∀b o,s2.heap.get? b=some o->b≠D0:=fun b o e=>aD (az (ay e) hD)
 have keep:=Y0b sb
 have base:Un (frs X.stack) fp H2 H' s2.heap s1.heap:=Ib.base
 have m6:H' C=none:=Ib.free
 have ga:∀b u,H' b=some u->b≠C:=fun b u e z=>by rw [z,m6]at e;cases e
 have neD:∀b u,H' b=some u->b≠D0:=fun b u e z=>by rw [z,m5]at e;cases e
 refine I2.call' (s':={ s1 with heap:=h' }) (ch:=fp) Ib.os ⟨fun b o e n hb hx=>keep b o (ia b o e) (base.keep b o e n hb hx),fun b o e n hb hx=>?_,fun b o e n hx=>?_,fun b o e hx=>?_,fun b xs e=>?_,fun b o u e=>?_,fun b ps e=>?_⟩ (fun b u e=>?_) Ib.bare (fun b hb=>?_)
 ·obtain⟨sl,q⟩:=base.slot b o e n hb hx
  exact⟨sl,keep b _ (ia b o e) q⟩
 ·rw [B6 (kU b o e)];exact base.free b o e n hx
 ·obtain⟨o',q⟩:=base.there b o e hx
  exact⟨o',keep b o' (ia b o e) q⟩
 ·have q:=base.tups b xs e
  rw [B6 (neD b _ q)];exact q
 ·have q:=base.frzs b o u e
  rw [B6 (neD b _ q)];exact q
 ·obtain⟨more,q⟩:=base.tbls b ps e
  exact⟨more,by rw [B6 (neD b _ q)];exact q⟩
 ·by_cases hb:b=D0
  ·subst hb
   rw [upd_same]at e;cases e
   exact new
  ·rw [B6 hb]at e
   refine(Ib.hok b u e).stay (fun c v hc q=>keep c v ?_ q) (fun c u _ q=>by rw [B6 (neD c _ q)];exact q) fun c xs q=>by rw [B6 (neD c _ q)];exact q
   rcases hc with z | z
   ·rw [z];exact ga b u e
   ·exact ga c _ z
 ·obtain⟨_,a2,a3,a4,a5,a6⟩:=f2 b hb
  exact⟨a4,a2,a5,a6⟩
section
variable {prog:Program}{w:World}{A:Around}{RR:Result->Shared->Prop}{s:Shared}
theorem Y7y {kx vx target iter:Expr}{scope:Scope}{pos:Pos}{it:Value}{D0:Addr}{env:Env} (I:Nat->Shared->Prop)
  (turn:∀n s,I n s->wpAny (model prog w) A (pyNext it) (fun r s₁=>match r with
   | none=>RR (.ok .next) s₁
   | some v=>wpAny (model prog w) A (letOwnedTupleGo target it v) (fun _ sa=>wpAny (model prog w) A (assign target env v) (fun _ s₃ =>
     wpAny (model prog w) A (eval kx env) (fun x s₄=>wpAny (model prog w) A (eval vx env) (fun y s₅ =>
       wpAny (model prog w) A (dictSet D0 x y) (fun _ s₆=>∃m,m<n/\I m s₆) (fun _ _=>False) s₅) (fun _ _=>False) s₄) (fun _ _=>False) s₃) (fun _ _=>False) sa) (fun _ _=>False) s₁) (fun _ _=>False) s)
  (n:Nat) (h:I n s):codeAny (model prog w) A (.compLoop (.DictComp kx vx [⟨target,iter,[],0⟩] scope pos) 0 it (.ref D0) env) RR s:=by
 refine codeAny_loop rfl I (fun n s hI=>?_) n h
 change wpAny (model prog w) A ((compTurn (.DictComp kx vx [⟨target,iter,[],0⟩] scope pos) 0 it (Value.ref D0) env).onRaise (fun x=>do noteFrame x env;theTreesLotGoes x)) _ _ s
 refine wpAny_noted ?_
 rw [compTurn_dict]
 refine aa (ft (aa (aS (turn n s hI) (fun r s₁ h₁=>?_) fun _ _ h'=>h'.elim)))
 cases r with
 | none=>exact aj h₁
 | some v =>
  refine aa (aS h₁ (fun _ sa ha=>aa (aS ha (fun _ s₃ h₃=>aa (wpAny_tests_nil ?_)) fun _ _ h'=>h'.elim)) fun _ _ h'=>h'.elim)
  exact aa (aa (aS h₃ (fun x s₄ h₄=>aa (bA (aS h₄ (fun y s₅ h₅=>aa (ft (bA (aS h₅ (fun _ s₆ h₆=>aj ⟨rfl,h₆⟩) fun _ _ h'=>h'.elim)))) fun _ _ h'=>h'.elim))) fun _ _ h'=>h'.elim))
end
noncomputable def V5 (g:WG) (wk wv:WE):List D->A9->List (B3×D)->(List (B3×D)->Prop)->Prop
 | [],_,kvs,Q=>Q kvs
 | d::ds,τ,kvs,Q=>g d τ fun τ'=>wk τ' fun r=>∃kd k,r=.st kd/\R0 kd=some k/\wv τ' fun r2=>∃e,r2=.st e/\V5 g wk wv ds τ' (S4 kvs k e) Q
theorem Z8t {g:WG}{wk wv:WE} (hg:∀d τ (P Q:A9->Prop),(∀ τ,P τ->Q τ)->g d τ P->g d τ Q) (hk:∀(τ:A9) (P Q:R->Prop),(∀r,P r->Q r)->wk τ P->wk τ Q) (hv:∀(τ:A9) (P Q:R->Prop),(∀r,P r->Q r)->wv τ P->wv τ Q) :
  ∀(ds:List D) (τ:A9) (kvs:List (B3×D)) (P Q:List (B3×D)->Prop),(∀es,P es->Q es)->V5 g wk wv ds τ kvs P->V5 g wk wv ds τ kvs Q
 | [],_,_,_,_,f,h=>f _ h
 | d::ds,τ,kvs,P,Q,f,h=>hg d τ _ _ (fun τ' h=>hk τ' _ _ (fun r ⟨kd,k,e1,e2,h⟩=>⟨kd,k,e1,e2,hv τ' _ _ (fun r ⟨e,e1,h⟩=>⟨e,e1,Z8t hg hk hv ds τ' _ _ _ f h⟩) h⟩) h) h
section
variable {X:Cx}{H0:Hp}{tg iter kx vx:Expr}{scope:Scope}{pos bB e7:Pos}{N:List Str}{nt:Nat}{cap:List Nat}{wi:Q8}{g:WG}{wk wv:WE}
theorem W0u {use:Option (Value->Sem Unit)}{QQ:VS9}{P:List (B3×D)->Prop}{fR:Pos}{ae:Pn9}{s:Shared} {σ:St}{H:Hp} {τ:A9} (hc:X.calm=true) (B:Blk X scope N nt cap) (hi:F3 X H0 tg iter wi)
  (hg:∀C s H fp,DG (C9 X scope C s H fp N) H tg g) (hk:∀C s H fp,DE (C9 X scope C s H fp N) H kx wk) (hv:∀C s H fp,DE (C9 X scope C s H fp N) H vx wv) (hs:∀x,foldedSetIterable iter X.env x=pure x)
  (I:A0 X ae σ H s) (hR:C4 X.K H0 τ σ H) (hw:wi τ fun ds=>ds.length<sizeLine/\V5 g wk wv ds (Q4 nt cap τ) [] P)
  (fin:∀(C D0:Addr) (s2 s4:Shared) (H2 H4:Hp) (fp:List Addr) (pb:Pn9) (σ4:St) (ps:List (B3×V)) (vs:List (B3×Value)) (kvs:List (B3×D)) (f:Flow),A0 X ae σ H2 s2->A6 H H2->A0 (C9 X scope C s2 H2 fp N) pb σ4 H4 s4->(∀b∈fp,O4 X ae H2 b) ->
   s2.heap.objs.size<=C->s2.heap.objs.size<=D0->D0≠C->H4 D0=none->(D0==sysModules)=false->s4.heap.DictOf (M3 X.prog X.w) D0 vs->KV ps vs->ps.length<=sizeLine->A6 H2 H4->D4 X.K H4 kvs ps->P kvs->compPost (model X.prog X.w) X.A X.xe use QQ (.ref D0) C (.ok f) s4) :
  wpAny (model X.prog X.w) X.A (comprehension (.DictComp kx vx [⟨tg,iter,[],0⟩] scope pos) scope X.env fR newDict false (eval iter X.env) use) QQ X.xe s:=by
 refine wpAny_comprehension_free rfl hs (Z1u fun y hy e=>I.ok.has y.1 (B.free y hy e)) B.kind B.names ?_
 refine B4 (hi.pi ae s σ H (fun J H2=>A6 H H2/\∃ds,YlS X.K J ds H2/\ds.length<sizeLine/\V5 g wk wv ds (Q4 nt cap τ) [] P) I
  ⟨τ,hR,hi.mono τ _ _ (fun ds h J H' sm yl=>⟨sm,ds,yl,h.1,h.2⟩) hw⟩) fun v s1 h1=>B4 h1 fun iQ s2 h2=>?_
 obtain⟨it,fp,tn,J,H2,e,I2,T,dI,f2,cG,ds,yl,hz,gR⟩:=h2
 subst e
 have fB:∀b∈fp,b<s2.heap.objs.size:=fun b hb=>by
  obtain⟨o,ho,_⟩:=T.obj _ _ dI b hb
  exact ay ho
 have dD:=hR.mono cG
 have gv:(s2.heap.objs.size==sysModules)=false:=cE.mpr (dG (aD I2.big))
 refine bF (wpAny_newFunctionEnv B.cell (by intro y hy;simp at hy) (fun h₁ cZ cH=>?_) B.kind)
 dsimp only at cZ cH ⊢
 have gy:(s2.heap.push { cls:=.type "dict",dict:=none,data:=.dict #[] }).DictOf (M3 X.prog X.w) s2.heap.objs.size []:=Heap.DictOf.new s2.heap
 generalize hH2:s2.heap.push { cls:=.type "dict",dict:=none,data:=.dict #[] }=Hq at cZ cH gy ⊢
 have hC:Hq.objs.size=s2.heap.objs.size+1:=by rw [<- hH2,bz]
 have cU:s2.heap.objs.size≠Hq.objs.size:=by rw [hC];exact aD (cC _)
 have cK:s2.heap.objs.size<=Hq.objs.size:=by rw [hC];exact dn _
 have old:∀b o,s2.heap.get? b=some o->h₁.get? b=some o:=fun b o e=>cH.extBut b o (by rw [hC];exact aD (bu (ay e))) (af _ (hH2 ▸ af _ e))
 have de:h₁.DictOf (M3 X.prog X.w) s2.heap.objs.size []:=gy.at fun o e=>cH.extBut _ _ cU (af _ e)
 generalize hCe:Hq.objs.size=C at cZ cH hC cU cK ⊢
 generalize hDe:s2.heap.objs.size=D0 at hC cU cK de gv ⊢
 have dv:∀b∈fp,b<D0:=fun b hb=>hDe ▸ fB b hb
 have eh:tn 0 h₁:=T.keep _ _ _ dI fun b _ o e=>old b o e
 have jR:=Z1k (C:=C) (h':=h₁) (t':=s2.toks+([]:List (Str×Value)).length) I2 B f2 fB (by rw [hDe];exact cK) cZ old
 have hV:H2 D0=none:=I2.hok.fresh (by rw [hDe];exact ao _)
 have jg:D0∉frs X.stack:=fun z=>by
  rcases av.mp (I2.stkSub _ z)with e | e
  ·have:=I2.lt;rw [<- e,hDe]at this;exact aZ _ this
  ·exact I2.nofs (by rw [hDe];exact ao _) e
 have jh:∀x c,(U8 X.env scope.names []).lookup x=some c->c≠D0:=fun x c h z=>by
  obtain⟨v,q⟩:=I2.cell x c (Z7 I2 B h)
  have:=q.lt
  rw [z,hDe]at this
  exact aZ _ this
 have jN:∀{h:Heap}{vs:List (B3×Value)}{o:Obj},h.DictOf (M3 X.prog X.w) D0 vs->h.get? D0=some o->∀v,o.data≠.cell v:=by
  intro h vs o dd e v z
  obtain⟨o',es,ep,e',_,d,_⟩:=dd
  rw [e]at e';cases e'
  rw [d]at z;cases z
 have ee:∀{pb:Pn9} {σ':St}{H':Hp}{s':Shared}{vs:List (B3×Value)}{o:Obj},A0 (C9 X scope C s2 H2 fp N) pb σ' H' s'->H' D0=none->s'.heap.DictOf (M3 X.prog X.w) D0 vs->s'.heap.get? D0=some o ->
   A0 (C9 X scope C s2 H2 fp N) [(D0,o)] σ' H' s':=by
  intro pb σ' H' s' vs o I' n' dd e
  refine I'.pins_of fun p hp=>?_
  have e':p=(D0,o):=by simpa using hp
  subst e'
  exact⟨e,n',cU,jg,jN dd e⟩
 have g7:∀{H':Hp}{ob:Obj},(∀b∈fp,H' b=none)->∀b∈fp,O4 (C9 X scope C s2 H2 fp N) [(D0,ob)] H' b:=by
  intro H' ob hn b hb
  refine⟨hn b hb,(aD (az (dv b hb) cK)),fun z=>?_,.inl hb,fun x c h=>(f2 b hb).2.2.2.2.1 x c (Z7 I2 B h),fun p hp=>?_⟩
  ·rcases av.mp (I2.stkSub b z)with e | e
   ·exact(f2 b hb).2.1 e
   ·exact(f2 b hb).2.2.1 e
  ·have e':p=(D0,ob):=by simpa [C9]using hp
   subst e'
   exact(aD (dv b hb)).symm
 let j4:Nat->Shared->Prop:=fun k s'=>∃(i:Nat) (σ':St) (H':Hp) (τ':A9) (ob:Obj) (vs:List (B3×Value)) (ps:List (B3×V)) (kvs:List (B3×D)),A0 (C9 X scope C s2 H2 fp N) [(D0,ob)] σ' H' s'/\C4 X.K H2 τ' σ' H'/\tn i s'.heap /\
  (∀b∈fp,H' b=none)/\H' D0=none/\s'.heap.get? D0=some ob/\s'.heap.DictOf (M3 X.prog X.w) D0 vs/\KV ps vs/\D4 X.K H' kvs ps/\i<=ds.length/\k=ds.length-i/\ps.length<=i/\V5 g wk wv (ds.drop i) τ' kvs P
 have loop:∀s₃:Shared,s₃={ s2 with heap:=h₁,toks:=s2.toks+([]:List (Str×Value)).length } ->
   codeAny (model X.prog X.w) X.A (.compLoop (.DictComp kx vx [⟨tg,iter,[],0⟩] scope pos) 0 (.ref it) (.ref D0) (compEnvC scope (U8 X.env scope.names []) C X.env))
    (compPost (model X.prog X.w) X.A X.xe use QQ (.ref D0) C) s₃:=by
  rintro s₃ rfl
  obtain⟨nV,ho⟩:∃o,h₁.get? D0=some o:=by obtain⟨o,_,_,e,_⟩:=id de;exact⟨o,e⟩
  refine Y7y j4 ?_ ds.length ⟨0,_,H2,Q4 nt cap τ,nV,[],[],[],ee jR hV de ho,Z4j dD nt cap,eh,fun b hb=>(f2 b hb).1,hV,ho,de,.nil,rfl,bi _,rfl,ao _,by simpa using gR⟩
  rintro k s3 ⟨i,σ3,H3,τ3,ob,vs,ps,kvs,I3,R3,fL,g6,d3,o3,np,kJ,mw,mN,rfl,kj,w3⟩
  have c9:A6 H2 H3:=R3.same
  by_cases bZ:i<ds.length
  ·refine aS (T.item (C9 X scope C s2 H2 fp N) rfl rfl rfl hc i _ s3 σ3 H3 (fun _ _=>False) I3 (g7 g6) fL (yl.go H3 c9 i bZ)) (fun r s4 bx=>?_) fun _ _ z=>z
   obtain⟨u,hr,h4⟩:=bx
   subst hr
   refine aS h4 (fun _ s5 bx=>?_) fun _ _ z=>z
   obtain⟨x,H5,I5,r5,y5,eL,iJ⟩:=bx
   obtain⟨gM,ix⟩:=yl.yld H3 c9 i x H5 _ (ab bZ) y5
   rw [eJ bZ]at w3
   have iL:=I5.pinned (g7 iJ) (T.obj _ _ eL)
   refine aS ((hg C s2 H2 fp).pg _ s5 σ3 H5 x u (fun σ6 H6=>∃ τ6,C4 X.K H2 τ6 σ6 H6/\A6 H5 H6/\wk τ6 fun r=>∃kd k,r=.st kd/\R0 kd=some k/\wv τ6 fun r2=>∃e,r2=.st e/\V5 g wk wv (ds.drop (i+1)) τ6 (S4 kvs k e) P)
    iL r5 ⟨τ3,ds[i],R3.mono gM,ix,(hg C s2 H2 fp).mono _ _ _ _ (fun τ6 h6 σ6 H6 fP R6=>⟨τ6,R6,fP,h6⟩) w3⟩) (fun _ s6 ⟨σ6,H6,I6,τ6,R6,fP,w6⟩=>?_) fun _ _ z=>z
   refine aS ((hk C s2 H2 fp).pe _ s6 σ6 H6 (fun v H7=>A6 H6 H7/\∃kd k,A2 X.K H7 kd v/\R0 kd=some k/\wv τ6 fun r2=>∃e,r2=.st e/\V5 g wk wv (ds.drop (i+1)) τ6 (S4 kvs k e) P) I6
    ⟨τ6,R6,(hk C s2 H2 fp).mono τ6 _ _ (fun r ⟨kd,k,e1,e2,h⟩ v H7 fv ir=>⟨fv,kd,k,by subst e1;exact ir,e2,h⟩) w6⟩) (fun yk s7 ⟨v7,H7,I7,kI,fv,kd,k,oz,qh,w7⟩=>?_) fun _ _ z=>z
   refine aS ((hv C s2 H2 fp).pe _ s7 σ6 H7 (fun v H8=>A6 H7 H8/\∃e,A2 X.K H8 e v/\V5 g wk wv (ds.drop (i+1)) τ6 (S4 kvs k e) P) I7
    ⟨τ6,R6.mono fv,(hv C s2 H2 fp).mono τ6 _ _ (fun r ⟨e,e1,h⟩ v H8 fO ir=>⟨fO,e,by subst e1;exact ir,h⟩) w7⟩) (fun yv s8 ⟨v8,H8,I8,jb,fO,e8,l0,w8⟩=>?_) fun _ _ z=>z
   have pd:=I8.pin (D0,ob) (aF _ (bP _ am))
   obtain⟨o8,d8,_⟩:=pd
   have mi:A0 (C9 X scope C s2 H2 fp N) (X5 fp s5.heap) σ6 H8 s8:=I8.pins_of fun p hp=>I8.pin p (aF _ (aF _ hp))
   have qj:s8.heap.DictOf (M3 X.prog X.w) D0 vs:=np.at fun o e=>by rw [o3]at e;cases e;exact o8
   have el:vs.length=ps.length:=by rw [<- kJ.length]
   cases Q4o qh oz
   refine wpAny_dictSet_pairs (hsz:=by omega) (Q3o kI) qj fun h₅ me jm=>?_
   have I9:A0 (C9 X scope C s2 H2 fp N) (X5 fp s5.heap) σ6 H8 { s8 with heap:=h₅,toks:=s8.toks+1 }:=by
    refine mi.turned (t':=s8.toks+1) (it:=D0) (fun b o hb e=>(jm.2 b hb).trans e) d8 cU (.inr (by rw [<- hDe];exact ao _)) jh (fun p hp z=>?_)
    obtain⟨q1,_⟩:=Q9b (by simpa [C9]using hp)
    exact aD (dv _ q1) z
   obtain⟨nU,o9⟩:∃o,h₅.get? D0=some o:=by obtain⟨o,_,_,e,_⟩:=id me;exact⟨o,e⟩
   have nO:A6 H3 H8:=gM.trans (fP.trans (fv.trans fO))
   have kC:tn (i+1) h₅:=T.keep _ _ _ eL fun b hb o e=>(I9.pin (b,o) (aF _ (Q2r hb e))).1
   refine⟨ds.length-(i+1),by omega,i+1,σ6,H8,τ6,nU,stored vs k yv,S5 ps k v8,S4 kvs k e8,ee I9 d8 me o9,R6.mono (fv.trans fO),kC,fun b hb=>?_,d8,o9,me,kJ.put k jb,D4.put l0 (mw.mono (Kp.of nO) _ _),bZ,rfl,?_,w8⟩
   ·obtain⟨o,e,_⟩:=T.obj _ _ eL b hb
    exact(I9.pin (b,o) (aF _ (Q2r hb e))).2.1
   ·have:=Q8r ps k v8;omega
  ·have e:i=ds.length:=by omega
   subst e
   refine aS (T.done (C9 X scope C s2 H2 fp N) rfl rfl rfl hc ds.length _ s3 σ3 H3 (fun _ _=>False) I3 (g7 g6) fL (yl.stop H3 c9)) (fun r s4 bx=>?_) fun _ _ z=>z
   obtain⟨hr,I4⟩:=bx
   subst hr
   have o4:=(I4.pin (D0,_) (aF _ am)).1
   rw [List.drop_length]at w3
   have qk:s4.heap.DictOf (M3 X.prog X.w) D0 vs:=np.at fun o e=>by rw [o3]at e;cases e;exact o4
   exact fin C D0 s2 s4 H2 H3 fp _ σ3 ps vs kvs _ I2 cG I4 f2 (by rw [hDe];exact cK) (by rw [hDe];exact ao _) cU d3 gv qk kJ (by omega) c9 mw w3
 exact codeAny_compStart_dict (loop _ rfl) (T.self _ 0 _ _ _ eh (loop _ rfl))
def Z5q (i nt:Nat) (cap:List Nat) (wi:Q8) (g:WG) (wk wv:WE):WS:=fun E τ=>wi τ fun ds=>ds.length<sizeLine/\V5 g wk wv ds (Q4 nt cap τ) [] fun kvs=>E.nx (τ.set i (some (.dk kvs)))
theorem DS.setKC {i:Nat}{x:Str} (hc:X.calm=true) (B:Blk X scope N nt cap) (hi:F3 X H0 tg iter wi) (hg:∀C s H fp,DG (C9 X scope C s H fp N) H tg g) (hk:∀C s H fp,DE (C9 X scope C s H fp N) H kx wk)
  (hv:∀C s H fp,DE (C9 X scope C s H fp N) H vx wv) (hN:X.N.Nodup) (jw:X.N[i]?=some x) (hx:Loc X.env.scope x)
  (fV:swapsWith (.DictComp kx vx [⟨tg,iter,[],0⟩] scope pos) (some (.Name x bB)) e7.line X.env=pure true:=by rfl) (hs:∀x,foldedSetIterable iter X.env x=pure x:=by intro _;rfl)
  (hf:X.fn x=true\/X.env.scope.names.lookup x=some .local:=by first | exact .inl rfl | exact .inr rfl | assumption) :
  DS X H0 (.Assign [.Name x bB] (.DictComp kx vx [⟨tg,iter,[],0⟩] scope pos) e7) (Z5q i nt cap wi g wk wv) where
 mono:=fun τ E F le h=>hi.mono τ _ _ (fun ds h=>⟨h.1,Z8t (hg 0 X.s₀ X.H₀ []).mono (hk 0 X.s₀ X.H₀ []).mono (hv 0 X.s₀ X.H₀ []).mono ds _ _ _ _ (fun es h=>le.nx _ h) h.2⟩) h
 ps:=by
  intro ae s σ H D I ⟨τ,hR,hw⟩
  rw [exec_Assign_Name_used _ _ _ _ fV]
  refine aa (ft (aa ?_))
  change wpAny (model X.prog X.w) X.A (do let _ <- comprehension (.DictComp kx vx [⟨tg,iter,[],0⟩] scope pos) scope X.env _ newDict false (eval iter X.env) (some (assign (.Name x bB) X.env))) _ _ s
  refine aa (aS (W0u (use:=some (assign (.Name x bB) X.env)) (QQ:=fun _ s'=>SP X ae D .next s') hc B hi hg hk hv hs I hR hw fun C D0 s2 s4 H2 H4 fp pb σ4 ps vs kvs f I2 cG I4 f2 hC hD cU hn gv dd rk hz sm4 kv w3=>?_)
   (fun _ s' hq=>aj (aj hq)) fun _ _ e=>e)
  have Ib:A0 X ae σ (upd H4 D0 (.dK ps)) { s4 with heap:=s4.heap }:=Z8f I2 I4 f2 hC hD hn ⟨rfl,fun _ _=>rfl⟩ ⟨hz,gv,vs,rk,dd⟩
  have i0:C≠X.env.locals:=fun z=>aZ _ (az I2.lt (z ▸ hC))
  have hZ:∀x c,X.env.cells.lookup x=some c->c≠C:=fun x c h z=>by
   obtain⟨v,q⟩:=I2.cell x c h
   exact aZ _ (az q.lt (z ▸ hC))
  change wpAny (model X.prog X.w) X.A (assign (.Name x bB) X.env (Value.ref D0)) _ _ s4
  refine wpAny_assign_Name (Q9u (v:=.ref D0) Ib hN jw hx rfl (fun s5 I5 bx=>?_) hf)
  obtain⟨a,j8,ha⟩:=bx
  obtain⟨m4,il,_⟩:=id I4.loc
  have jG:C≠a:=by
   rcases ha with ha | ha
   ·rw [ha];exact i0
   ·exact fun z=>hZ _ _ ha z.symm
  refine⟨m4,il.sameBut j8 jG,fun h' sb=>?_⟩
  have jH:H4 C=none:=I4.free
  have I6:A0 X ae (σ.set i (some (.ref D0))) (upd H4 D0 (.dK ps)) { s5 with heap:=h' }:=by
   refine I5.turned (t':=s5.toks) (it:=C) (fun b o hb e=>(sb.2 b hb).trans e) (by rw [B6 (dG cU)];exact jH) i0 (.inr (aV I2.sz hC)) hZ fun p hp z=>?_
   have:=(I2.pin p hp).1
   exact aZ _ (az (ay this) (z ▸ hC))
  have j7:A6 H (upd H4 D0 (.dK ps)):=cG.trans (sm4.trans (G0 hn _))
  have cS:=(hR.mono j7).set (i:=i) (s:=.dk kvs) (v:=.ref D0) ⟨D0,ps,rfl,hR.same.free (cG.free (I2.hok.fresh hD)),upd_same,kv.mono (Kp.of (G0 hn _)) _ _⟩ fun _ j t hj e m q=>by
   obtain⟨o,ho⟩:=hR.tracked e m q
   rw [cG.free (I2.hok.fresh hD)]at ho;cases ho
  exact⟨_,_,I6,w3 _ _ (Kp.of j7) cS⟩
end
noncomputable def kyD:B3->D
 | .inl i=>.int i
 | .inr x=>.str x
noncomputable def Q3q:List R->(R->Prop)->Prop
 | [.dk kvs],Q=>Q (.nw (kvs.map fun p=>kyD p.1))
 | _,_=>False
theorem Y0p {rs:List R}{Q:R->Prop} (h:Q3q rs Q):∃kvs,rs=[.dk kvs]/\Q (.nw (kvs.map fun p=>kyD p.1)):=by
 unfold Q3q at h
 split at h
 ·exact⟨_,rfl,h⟩
 ·exact h.elim
theorem W1s:Q1a Q3q:=fun x P Q g h=>by
 obtain⟨kvs,rfl,h⟩:=Y0p h
 exact g _ h
theorem Z1i {K:Fg9}{H:Hp}:∀(ps:List (B3×V)),AllS K H (ps.map fun p=>kyD p.1) (ps.map fun p=>kV p.1)
 | []=>AllS.nil
 | (.inl i,v)::r=>AllS.cons A2.s_int (Z1i r)
 | (.inr x,v)::r=>AllS.cons A2.s_str (Z1i r)
theorem D4.keysEq {K:Fg9}{H:Hp}:∀{kvs:List (B3×D)}{ps:List (B3×V)},D4 K H kvs ps->(kvs.map fun p=>kyD p.1)=ps.map fun p=>kyD p.1
 | [],ps,h=>by unfold D4 at h;subst h;rfl
 | p::kvs,ps,h=>by
  unfold D4 at h
  obtain⟨v,r,rfl,iv,h⟩:=h
  rw [au,au,D4.keysEq h]
section
variable {X:Cx}
theorem Y7l (hc:X.calm=true):Q0y X (.type "list") Q3q:=by
 intro ae s σ H xs us Q I rv ⟨rs,cu,h⟩
 obtain⟨kvs,rfl,h⟩:=Y0p h
 obtain⟨v,rfl,ir⟩:=W7 cu
 obtain⟨a,ps,rfl,e,kv⟩:=ir
 obtain⟨u,rfl,ru⟩:=X9 rv
 cases ru
 obtain⟨z,hd,vs,rel,dd⟩:=Z2b I.hok e
 obtain⟨ep,da⟩:=dd.dictAt
 have el:vs.length=ps.length:=by rw [<- rel.length]
 refine PySem.W.kdl_call (PySem.W.kdl_dict (knd:=M3 X.prog X.w) (kvs:=vs) (ep:=ep) hd) (I.ok.hd hc) da (by omega) fun h' tk bU c' k e2 it=>?_
 have hn:H s.heap.objs.size=none:=I.hok.fresh (ao _)
 have vl:B7 (ps.map fun p=>kV p.1) bU.toList:=by
  have key:∀(ps:List (B3×V)) (vs:List (B3×Value)) (us:List Value),KV ps vs->us.length=vs.length->(∀(j:Nat) (v:Value),us[j]?=some v->∃k x,vs[j]?=some (k,x)/\(M3 X.prog X.w).is k v=true)->B7 (ps.map fun p=>kV p.1) us:=by
   intro ps
   induction ps with
   | nil=>intro vs us r l _;cases r;cases us with
    | nil=>exact .nil
    | cons _ _=>cases l
   | cons p ps ih =>
    intro vs us r l f
    cases r with
    | @cons _ q _ qs h1 t =>
     cases us with
     | nil=>cases l
     | cons u us =>
      obtain⟨k,x,e1,e2⟩:=f 0 u rfl
      cases e1
      refine .cons ?_ (ih qs us t (by simpa using l) fun j v e=>f (j+1) v (by simpa using e))
      have h1:p.1=k:=h1.1
      show C3 (kV p.1) u
      rw [h1]
      rcases Q1i e2 with⟨i,t,rfl,rfl⟩ | ⟨i,t,rfl,rfl⟩
      ·exact⟨t,rfl⟩
      ·exact⟨t,rfl⟩
  refine key ps vs bU.toList rel (by rw [bG];exact it.1) fun j v e=>it.2 j v (by rw [<- i4];exact e)
 refine⟨.ref s.heap.objs.size,_,I.laid (t':=tk) (o:=.lst (ps.map fun p=>kV p.1)) k (ao _) ⟨by rw [ag];exact z,bU.toList,c',vl,by simpa using e2⟩,rfl,h _ _ (G0 hn _) ⟨_,_,rfl,hn,upd_same,?_⟩⟩
 rw [D4.keysEq kv]
 exact Z1i ps
noncomputable def Q4t:List R->(R->Prop)->Prop
 | [r],Q=>∃ns:List Int,U3 r=some (ns.map .int)/\ns≠[]/\∀m,m∈ns->(∀n∈ns,n<=m)->Q (.st (.int m))
 | _,_=>False
theorem Y0s:Q1a Q4t:=fun x P Q g h=>by
 unfold Q4t at h ⊢
 split at h
 ·obtain⟨ns,a,b,c⟩:=h
  exact⟨ns,a,b,fun m h1 h2=>g _ (c m h1 h2)⟩
 ·exact h
theorem Z7v (f:Nat->Int):∀k,argBest (fun i j=>decide (f i > f j)) k<=k/\∀j,j<=k->f j<=f (argBest (fun i j=>decide (f i > f j)) k)
 | 0=>⟨ao _,fun j hj=>by rw [Nat.le_zero.mp hj];exact Int.le_refl _⟩
 | k+1=>by
  obtain⟨h1,h2⟩:=Z7v f k
  unfold argBest
  by_cases e:f (k+1) > f (argBest (fun i j=>decide (f i > f j)) k)
  ·rw [aC (by simpa using e)]
   refine⟨ao (k+1),fun j hj=>?_⟩
   by_cases z:j<=k
   ·exact Int.le_trans (h2 j z) (Int.le_of_lt e)
   ·rw [show j=k+1 by omega];exact Int.le_refl _
  ·rw [ax (by simpa using e)]
   refine⟨Nat.le_succ_of_le h1,fun j hj=>?_⟩
   by_cases z:j<=k
   ·exact h2 j z
   ·rw [show j=k+1 by omega];omega
theorem Z2s:∀{ns:List Int}{aT:List Value},B7 (ns.map V.int) aT->∃xs:List (Int×Tok),aT=xs.map (fun p=>Value.int p.1 p.2)/\xs.map (·.1)=ns
 | [],aT,r=>by cases r;exact⟨[],rfl,rfl⟩
 | n::ns,aT,r=>by
  cases r with
  | cons h t =>
   obtain⟨tk,e⟩:=h
   obtain⟨xs,e1,e2⟩:=Z2s (ns:=ns) t
   exact⟨(n,tk)::xs,by rw [e,e1];rfl,by rw [au,e2]⟩
theorem Q7q {K:Fg9}{H:Hp}:∀{ns:List Int}{xs:List V},AllS K H (ns.map .int) xs->xs=ns.map V.int
 | [],xs,h=>by unfold List.map AllS at h;exact h
 | n::ns,xs,h=>by
  rw [au]at h
  unfold AllS at h
  obtain⟨v,r,rfl,i,t⟩:=h
  unfold A2 at i
  rw [i,Q7q t];rfl
theorem Z8i (hc:X.calm=true):Q0y X (.builtin "max") Q4t:=by
 intro ae s σ H xs us Q I rv ⟨rs,cu,h⟩
 unfold Q4t at h
 split at h
 ·rename_i r
  obtain⟨ns,e1,cy,h⟩:=h
  obtain⟨v,rfl,ir⟩:=W7 cu
  obtain⟨l,ys,rfl,sq,al⟩:=Q3r e1 ir
  obtain⟨u,rfl,ru⟩:=X9 rv
  cases ru
  have ey:=Q7q al
  subst ey
  obtain⟨aT,fw,pl,hz⟩:=I.list sq
  obtain⟨ps,ei,en⟩:=Z2s fw
  subst ei
  have hit:s.heap.IsList l (intItems ps.toArray):=by
   have:=pl.isList
   have e:intItems ps.toArray=(ps.map fun p=>Value.int p.1 p.2).toArray:=by simp [intItems]
   rw [e];exact this
  have oS:0<ps.toArray.size:=by
   cases ps with
   | nil=>exact absurd en.symm cy
   | cons _ _=>simp
  refine max_intList (I.ok.hd hc) hit oS fun v h' tk e k=>?_
  obtain⟨b1,b2⟩:=Z7v (numAt ps.toArray) (ps.toArray.size-1)
  obtain⟨t,et⟩:=intItems_at e
  subst et
  generalize argBest (fun i j=>decide (numAt ps.toArray i > numAt ps.toArray j)) (ps.toArray.size-1)=k0 at b1 b2 e
  have at_:∀j,j<ps.length->ns[j]?=some (numAt ps.toArray j):=fun j hj=>by
   rw [<- en,ak,ab hj]
   simp [numAt,hj]
  have pk:k0<ps.length:=by
   have:ps.toArray.size=ps.length:=by simp
   omega
  refine⟨.int (numAt ps.toArray k0),H,I.kept k,⟨t,rfl⟩,h _ (aJ (at_ k0 pk)) (fun n hn=>?_) _ _ (A6.refl _) V6⟩
  obtain⟨j,hj,e⟩:=kw hn
  have hl:ns.length=ps.length:=by rw [<- en,ag]
  have:=at_ j (by omega)
  rw [ab hj,e]at this
  rw [aA this]
  exact b2 j (by
   have:ps.toArray.size=ps.length:=by simp
   omega)
 ·exact h.elim
end
theorem LO.ok {P:Program}{w:World}{H:Hp}{h:Heap}{b:Addr}{xs:List V} (g:LO b xs h):K4 P w H h b (.ext (LO b xs)):=by
 obtain⟨z,aT,n,r,e⟩:=id g
 exact⟨g,⟨_,e⟩,fun h1 h2 ⟨z,aT,n,r,e⟩ k=>⟨z,aT,n,r,k _ e⟩⟩
noncomputable def K8:Option Sl->Bool
 | some (.ll _ _)=>false
 | _=>true
noncomputable def Y9:Nat->A9->Bool
 | _,[]=>true
 | 0,_::r=>r.all K8
 | i+1,s::r=>K8 s&&Y9 i r
theorem Z3w:∀{i:Nat} {τ:A9}{j:Nat}{a:Addr}{dss:List (List D)},Y9 i τ=true->j≠i->τ[j]?≠some (some (.ll a dss))
 | _,[],j,a,dss,_,_=>by simp
 | 0,s::r,0,a,dss,_,h=>absurd rfl h
 | 0,s::r,j+1,a,dss,h,_=>fun e=>by
  have e:r[j]?=some (some (.ll a dss)):=by simpa using e
  have:=ck.mp h _ (aJ e)
  cases this
 | i+1,s::r,0,a,dss,h,_=>fun e=>by
  have e:s=some (.ll a dss):=by simpa using e
  subst e
  simp [Y9,K8]at h
 | i+1,s::r,j+1,a,dss,h,n=>fun e=>by
  rw [Y9,dj]at h
  exact Z3w (i:=i) (j:=j) h.2 (fun z=>n (by rw [z])) (by simpa using e)
theorem K6.length {K:Fg9}{H:Hp}:∀{bs:List Addr}{dss:List (List D)},K6 K H bs dss->bs.length=dss.length
 | [],_,h=>by rw [show _=[]from h];rfl
 | b::bs,_,h=>by obtain⟨ds,r,rfl,_,t⟩:=h;rw [aB,aB,t.length]
theorem K6.get {K:Fg9}{H:Hp}:∀{bs:List Addr}{dss:List (List D)}{j:Nat},K6 K H bs dss->j<dss.length->∃b xs,bs[j]?=some b/\H b=some (.ext (LO b xs))/\AllS K H (dss.getD j []) xs
 | [],_,j,h,l=>by rw [show _=[]from h]at l;simp at l
 | b::bs,_,0,h,l=>by obtain⟨ds,r,rfl,⟨xs,q,al⟩,t⟩:=h;exact⟨b,xs,rfl,q,al⟩
 | b::bs,_,j+1,h,l=>by
  obtain⟨ds,r,rfl,_,t⟩:=h
  obtain⟨b',xs,e,q,al⟩:=K6.get (j:=j) t (by simpa using l)
  exact⟨b',xs,by simpa using e,q,by simpa using al⟩
theorem K6.mem {K:Fg9}{H:Hp}:∀{bs:List Addr}{dss:List (List D)}{b:Addr},K6 K H bs dss->b∈bs->∃xs,H b=some (.ext (LO b xs))
 | [],_,b,h,l=>by cases l
 | c::bs,_,b,h,l=>by
  obtain⟨ds,r,rfl,⟨xs,q,al⟩,t⟩:=h
  rcases av.mp l with rfl | l
  ·exact⟨xs,q⟩
  ·exact t.mem l
theorem K6.set {K:Fg9}{H H':Hp} (k:Kp H H') {b0:Addr}{kr:List D}{gn:List V} (h0:H' b0=some (.ext (LO b0 gn))) (nG:AllS K H' kr gn) (kK:∀b φ,b≠b0->H b=some (.ext φ)->H' b=some (.ext φ)) :
  ∀{bs:List Addr}{dss:List (List D)}{j:Nat},bs.Nodup->K6 K H bs dss->bs[j]?=some b0->K6 K H' bs (dss.set j kr)
 | [],_,j,_,h,e=>by simp at e
 | b::bs,_,0,n,h,e=>by
  obtain⟨ds,r,rfl,⟨xs,q,al⟩,t⟩:=h
  have e:b=b0:=by simpa using e
  subst e
  rw [bj]at n
  refine⟨kr,r,rfl,⟨gn,h0,nG⟩,?_⟩
  have same:∀{cs:List Addr}{ess:List (List D)},b∉cs->K6 K H cs ess->K6 K H' cs ess:=by
   intro cs
   induction cs with
   | nil=>intro ess _ h;exact h
   | cons c cs ih =>
    intro ess nb h
    obtain⟨ds,r,rfl,⟨xs,q,al⟩,t⟩:=h
    exact⟨ds,r,rfl,⟨xs,kK c _ (fun z=>nb (by rw [z];exact am)) q,al.mono k _ _⟩,ih (fun z=>nb (ai _ z)) t⟩
  exact same n.1 t
 | b::bs,_,j+1,n,h,e=>by
  obtain⟨ds,r,rfl,⟨xs,q,al⟩,t⟩:=h
  rw [bj]at n
  have e:bs[j]?=some b0:=by simpa using e
  exact⟨ds,r.set j kr,rfl,⟨xs,kK b _ (fun z=>n.1 (by rw [z];exact aJ e)) q,al.mono k _ _⟩,K6.set k h0 nG kK n.2 t e⟩
section
variable {X:Cx}{H0:Hp}{o e f v:Expr}{pos apos bC sp:Pos}{we wv:WE}{i:Nat}
theorem W4u {td ty:TE} (ho:PE X o td) (he:PE X e ty) (m:M1 X o "append" apos e bC):PE X (.Call (.Attribute o "append" apos) [e] [] bC)
  (fun σ H Q=>td σ H fun x H1=>∃b gn,x=.ref b/\H1 b=some (.ext (LO b gn))/\ty σ H1 fun y H2=>∃xs,H2 b=some (.ext (LO b xs))/\xs.length<sizeLine/\Q .non (upd H2 b (.ext (LO b (xs++[y]))))):=by
 intro ae s σ H Q I h
 refine wpAny_Call_method m.base m.few m.line fI PySem.F.slot_list_append PySem.F.type_list_append (B4 (ho ae s σ H _ I h) fun u s1 bx=>?_)
 obtain⟨x,H1,I1,rx,b,gn,ex,eb,q1⟩:=bx
 subst ex
 obtain rfl:u=Value.ref b:=rx
 obtain⟨_,oy,n0,_,e0⟩:=(show LO b gn s1.heap from(I1.hok b _ eb).1)
 refine⟨⟨_,e0,rfl⟩,fun c ec=>?_,?_⟩
 ·cases ec;exact⟨_,e0,rfl⟩
 rw [m.trees]
 refine Calls.callWith_builtin rfl (Calls.evalArgs_plain (Calls.spliced_cons (B4 (he ae s1 σ H1 _ I1 q1) fun yv s2 ⟨y,H2,I2,ry,xs,e2,hz,q2⟩=>Calls.spliced_nil ?_)))
 obtain⟨z2,aT,n,rv,e3⟩:=(show LO b xs s2.heap from(I2.hok b _ e2).1)
 have el:=rv.length
 refine wpAny_list_append_plain (hsz:=by rw [aE];omega) ⟨n,e3⟩ fun h' hl hs=>⟨.non,_,?_,rfl,q2⟩
 obtain⟨n',e4⟩:=hl
 refine Q8d (t':=s2.toks) I2 (by rw [e2];exact True.intro) hs ⟨_,e4⟩ (LO.ok ⟨by rw [aq];show xs.length+1<=_;omega,aT++[yv],n',rv.append (.cons ry .nil),by simpa using e4⟩)
theorem C4.llAt {K:Fg9}{H:Hp} {τ:A9} {σ:St}{a:Addr}{dss:List (List D)} (hR:C4 K H0 τ σ H) (e1:τ[i]?=some (some (.ll a dss))):σ[i]?=some (some (.ref a))/\Q4a K H0 H a dss:=by
 obtain⟨v,hv,rfl,q⟩:=hR.here i _ e1
 exact⟨hv,q⟩
def rIxE:R2:=fun x y H Q=>∃p xs i v,x=.ref p/\y=.int i/\H p=some (.ext (LO p xs))/\K7 xs i=some v/\Q v H
theorem W0a {ae:Pn9} {σ:St}{H:Hp}{s:Shared}{p:Addr}{xs:List V} (I:A0 X ae σ H s) (h:H p=some (.ext (LO p xs))):xs.length<=sizeLine/\∃aT n,B7 xs aT/\s.heap.get? p=some { cls:=.type "list",data:=.seq aT.toArray n }:=(I.hok p _ h).1
theorem W0p:IxR X rIxE:=by
 intro value slice ae s σ H x y v u Q I rx ry h hs
 obtain⟨p,xs,i,z,rfl,rfl,hq,he,q⟩:=h
 cases rx
 obtain⟨t,rfl⟩:=ry
 obtain⟨hz,aT,n,r,e⟩:=W0a I hq
 have pl:s.heap.IsList p aT.toArray:=⟨_,e,rfl,n,rfl⟩
 obtain⟨j,h1,h2,h3,h4,h5⟩:=Q7t he
 obtain⟨w,ew,eM⟩:=r.get h2
 have hl:=r.length
 have hn:=Q2q
 have fin:EP X ae σ Q w s:=⟨z,H,I,eM,q⟩
 by_cases h0:0<=i
 ·have hj:i.toNat=j:=by
   rw [seqIndex_of h0 h5]at h1
   exact aA h1
  exact item_listR pl h0 (by omega) (by rw [hj];simpa using ew) fin hs
 ·have hj:(i+(aT.toArray.size:Int)).toNat=j:=by
   rw [seqIndex_neg (by omega) h4]at h1
   rw [aE,<- hl]
   exact aA h1
  exact subscriptTail_builtinR (x:=w) pl.typeIs slot_list_getitem.lookup
   (wpAny_getItem_list_neg (Q:=fun r s'=>r=w/\EP X ae σ Q r s') pl (by omega) (by rw [aE] <;> omega) (by omega) (by rw [hj];simpa using ew) ⟨rfl,fin⟩) hs
theorem C4.llre {K:Fg9}{H H':Hp} {τ:A9} {σ:St}{a:Addr}{dss jM:List (List D)} (hR:C4 K H0 τ σ H) (e1:τ[i]?=some (some (.ll a dss))) (hv:σ[i]?=some (some (.ref a))) (only:Y9 i τ=true)
  (kp:Kp H H') (ne:∀c u,H c=some u->(∀ φ,u≠.ext φ)->H' c=some u) (sm:A6 H0 H') (ll:Q4a K H0 H' a jM):C4 K H0 (τ.set i (some (.ll a jM))) σ H':=by
 have hl:i<τ.length:=(aG.mp e1).1
 refine⟨by rw [bW];exact hR.len,sm,fun k t e=>?_,fun k l t u w cy e2 e3 m1 m2 q1 q2=>?_⟩
 ·by_cases hk:k=i
  ·subst hk
   rw [bq hl]at e;cases e
   exact⟨_,hv,rfl,ll⟩
  ·rw [aP (fun z=>hk z.symm)]at e
   obtain⟨w,q,r⟩:=hR.here k t e
   refine⟨w,q,?_⟩
   cases t with
   | dat d=>exact A2.mono kp _ _ r
   | own es=>obtain⟨c,ys,e,n,q,t⟩:=r;exact⟨c,ys,e,n,ne _ _ q (by intro φ z;cases z),t.mono kp _ _⟩
   | bor es=>obtain⟨c,ys,e,q,t⟩:=r;exact⟨c,ys,e,q,t.mono kp _ _⟩
   | bd es=>obtain⟨c,ys,e,q,t⟩:=r;exact⟨c,ys,e,q,t.mono kp _ _⟩
   | dk es=>obtain⟨c,ys,e,n,q,t⟩:=r;exact⟨c,ys,e,n,ne _ _ q (by intro φ z;cases z),t.mono kp _ _⟩
   | dt es=>obtain⟨c,ys,e,n,q,t⟩:=r;exact⟨c,ys,e,n,ne _ _ q (by intro φ z;cases z),t.mono kp _ _⟩
   | ob _=>exact r
   | cl _ _=>exact⟨r.1,r.2.2 _ _ kp r.2.1,r.2.2⟩
   | ll a' d'=>exact absurd e (Z3w only hk)
   | ins _ _ _=>obtain⟨e,n,dx,ys,q,t⟩:=r;exact⟨e,n,dx,ys,ne _ _ q (by intro φ z;cases z),t.mono kp _ _⟩
 ·by_cases hk:k=i
  ·subst hk;rw [bq hl]at e2;cases e2;cases m1
  ·by_cases iY:l=i
   ·subst iY;rw [bq hl]at e3;cases e3;cases m2
   ·rw [aP (fun z=>hk z.symm)]at e2
    rw [aP (fun z=>iY z.symm)]at e3
    exact hR.apart k l t u w cy e2 e3 m1 m2 q1 q2
theorem C4.llset {K:Fg9}{H:Hp} {τ:A9} {σ:St}{a b:Addr}{dss:List (List D)}{j:Nat}{ds:List D}{bs:List Addr}{gn xs:List V} (hR:C4 K H0 τ σ H) (e1:τ[i]?=some (some (.ll a dss))) (hv:σ[i]?=some (some (.ref a))) (only:Y9 i τ=true)
  (ha:H a=some (.ext (LO a (bs.map V.ref)))/\H0 a=none/\a∉bs) (nd:bs.Nodup) (h0:∀b∈bs,H0 b=none) (ll:K6 K H bs dss) (ej:bs[j]?=some b) (eb:H b=some (.ext (LO b gn))) (al:AllS K H ds xs) :
  Kp H (upd H b (.ext (LO b xs)))/\C4 K H0 (τ.set i (some (.ll a (dss.set j ds)))) σ (upd H b (.ext (LO b xs))):=by
 have kp:Kp H (upd H b (.ext (LO b xs))):=Kp.updM eb (by intro xs z;cases z) (by intro o u z;cases z) _
 have pT:H0 b=none:=h0 b (aJ ej)
 refine⟨kp,hR.llre e1 hv only kp (fun c u q n=>by rw [B6 (Q0s q eb (n _))];exact q) (fun c u q=>by rw [B6 (fun z=>by rw [z,pT]at q;cases q)];exact hR.same c u q)
  ⟨bs,⟨by rw [B6 (show a≠b from fun z=>ha.2.2 (by rw [z];exact aJ ej))];exact ha.1,ha.2⟩,nd,h0,K6.set kp upd_same (al.mono kp _ _) (fun c φ hc q=>by rw [B6 hc];exact q) nd ll ej⟩⟩
def Q7g (i:Nat) (we wv:WE):WS:=fun E τ=>∃a dss,τ[i]?=some (some (.ll a dss))/\Y9 i τ=true/\we τ fun r=>∃k j,r=.st (.int k)/\ixN dss.length k=some j/\wv τ fun r2=>∃d,r2=.st d/\(dss.getD j []).length<sizeLine /\
 E.nx (τ.set i (some (.ll a (dss.set j (dss.getD j []++[d])))))
theorem DS.llapp {b:Expr} (ho:PE X b (T4 i)) (he:DE X H0 e we) (hv:DE X H0 v wv) (hpl:Z1b e) (m:M1 X (.Subscript b e pos) "append" apos v bC) (fV:swapsWith (.Call (.Attribute (.Subscript b e pos) "append" apos) [v] [] bC) none sp.line X.env=pure false:=by rfl) :
  DS X H0 (.Expr (.Call (.Attribute (.Subscript b e pos) "append" apos) [v] [] bC) sp) (Q7g i we wv) where
 mono:=fun τ E F le ⟨a,dss,e1,o,h⟩=>⟨a,dss,e1,o,he.mono τ _ _ (fun r ⟨k,j,a1,a2,h⟩=>⟨k,j,a1,a2,hv.mono τ _ _ (fun r ⟨d,b1,b2,b3⟩=>⟨d,b1,b2,le.nx _ b3⟩) h⟩) h⟩
 ps:=psW (Z4d (W4u (Y1u W0p ho he.pe hpl) hv.pe m) fV) fun D σ H ⟨τ,hR,a,dss,e1,only,h⟩=>by
  obtain⟨fU,_⟩:=hR.llAt e1
  refine⟨_,fU,τ,hR,he.mono τ _ _ (fun r ⟨k,j,a1,a2,h⟩ y H1 s1 ik=>?_) h⟩
  subst a1
  cases (show y=.int k from ik)
  have dF:=hR.mono s1
  obtain⟨_,bs,ha,nd,h0,ll⟩:=dF.llAt e1
  have el:=ll.length
  obtain⟨_,hj,_,_⟩:=Z2u a2
  obtain⟨b0,xs,ej,eb,al⟩:=ll.get hj
  have pU:K7 (bs.map V.ref) k=some (V.ref b0):=by unfold K7;rw [ag,el,a2];show(bs.map V.ref)[j]?=_;rw [ak,ej];rfl
  refine⟨a,bs.map V.ref,k,V.ref b0,rfl,rfl,ha.1,pU,b0,xs,rfl,eb,τ,dF,hv.mono τ _ _ (fun r ⟨d,b1,b2,b3⟩ u H2 s2 iv=>?_) h⟩
  subst b1
  have dD:=dF.mono s2
  have dm:=al.mono (Kp.of s2) _ _
  refine⟨xs,s2 _ _ eb,by rw [<- al.length];exact b2,?_⟩
  obtain⟨kp,lV⟩:=dD.llset (xs:=xs++[u]) (ds:=dss.getD j []++[d]) e1 fU only ⟨s2 _ _ ha.1,ha.2⟩ nd h0 (ll.keep (Kp.of s2) fun b φ q=>s2 _ _ q) ej (s2 _ _ eb) (dm.append (AllS.cons iv AllS.nil))
  exact b3 _ _ ((Kp.of (s1.trans s2)).trans kp) lV
theorem Y0f {ae:Pn9} {σ:St}{H:Hp}{s:Shared}{b:Addr}{xs:List V} (I:A0 X ae σ H s) (h:H b=some (.ext (LO b xs))):∃o,A0 X ae σ (upd H b (.frz o (.lst xs))) s:=by
 obtain⟨z,aT,n,r,q⟩:=(show LO b xs s.heap from(I.hok b _ h).1)
 refine⟨_,I.write (t':=s.toks) (h':=s.heap) (e:=b) (o:=.frz { cls:=.type "list",data:=.seq aT.toArray n } (.lst xs)) (by rw [h];trivial) (.inl rfl) (fun b u _ k=>k) ⟨_,q⟩ ?_⟩
 exact⟨q,z,aT,n,r,q⟩
theorem Y0e {ae:Pn9} {σ:St}{s:Shared}:∀{bs:List Addr}{dss:List (List D)}{H:Hp},A0 X ae σ H s->bs.Nodup->K6 X.K H bs dss ->
  ∃H',A0 X ae σ H' s/\Kp H H'/\(∀c,c∉bs->H' c=H c)/\(∀c u,H c=some u->(∀ φ,u≠.ext φ)->H' c=some u)/\AllS X.K H' (dss.map .lst) (bs.map V.ref)
 | [],dss,H,I,_,h=>by
  rw [show dss=[]from h]
  exact⟨H,I,Kp.refl H,fun _ _=>rfl,fun _ _ q _=>q,AllS.nil⟩
 | b::bs,dss,H,I,n,h=>by
  obtain⟨ds,r,rfl,⟨xs,q,al⟩,t⟩:=h
  rw [bj]at n
  obtain⟨o,I1⟩:=Y0f I q
  have kp:Kp H (upd H b (.frz o (.lst xs))):=Kp.updM q (by intro xs z;cases z) (by intro o u z;cases z) _
  have t1:K6 X.K (upd H b (.frz o (.lst xs))) bs r:=by
   have same:∀{cs:List Addr}{ess:List (List D)},b∉cs->K6 X.K H cs ess->K6 X.K (upd H b (.frz o (.lst xs))) cs ess:=by
    intro cs
    induction cs with
    | nil=>intro ess _ h;exact h
    | cons c cs ih =>
     intro ess nb h
     obtain⟨ds,r,rfl,⟨xs,q,al⟩,t⟩:=h
     exact⟨ds,r,rfl,⟨xs,by rw [B6 (fun z=>nb (by rw [z];exact am))];exact q,al.mono kp _ _⟩,ih (fun z=>nb (ai _ z)) t⟩
   exact same n.1 t
  obtain⟨H',I2,k2,o2,e2,dm⟩:=Y0e I1 n.2 t1
  refine⟨H',I2,kp.trans k2,fun c hc=>?_,fun c u hq hu=>?_,AllS.cons (A2.s_lst (.inl ⟨o,k2.frz _ _ _ upd_same⟩) ((al.mono kp _ _).mono k2 _ _)) dm⟩
  ·rw [o2 c (fun z=>hc (ai _ z)),B6 (fun z=>hc (by rw [z];exact am))]
  ·exact e2 c u (by rw [B6 (Q0s hq q (hu _))];exact hq) hu
def Z5p (i:Nat) (w:WS):WS:=fun E τ=>w { E with nx:=fun τ'=>∃a dss,τ'[i]?=some (some (.ll a dss))/\Y9 i τ'=true/\E.nx (τ'.set i (some (.dat (.lst (dss.map .lst))))) } τ
theorem DS.fzL {st:Stmt}{w:WS} (i:Nat) (h:DS X H0 st w):DS X H0 st (Z5p i w) where
 mono:=fun τ E F le q=>h.mono τ { E with nx:=fun τ'=>∃a dss,τ'[i]?=some (some (.ll a dss))/\Y9 i τ'=true/\E.nx (τ'.set i (some (.dat (.lst (dss.map .lst))))) } { F with nx:=fun τ'=>∃a dss,τ'[i]?=some (some (.ll a dss))/\Y9 i τ'=true/\F.nx (τ'.set i (some (.dat (.lst (dss.map .lst))))) }
  ⟨fun τ' ⟨a,dss,e,o,q⟩=>⟨a,dss,e,o,le.nx _ q⟩,le.rt,le.bk,le.ct⟩ q
 ps:=psW (Y1z h.ps) fun D σ H ⟨τ,hR,q⟩=>⟨τ,hR,h.mono τ { Q0 X.K H0 H D with nx:=fun τ'=>∃a dss,τ'[i]?=some (some (.ll a dss))/\Y9 i τ'=true/\(Q0 X.K H0 H D).nx (τ'.set i (some (.dat (.lst (dss.map .lst))))) } _
  ⟨fun τ' ⟨a,dss,e,only,q⟩ σ' H' kp cS ae s I=>by
   obtain⟨hv,bs,ha,nd,h0,ll⟩:=cS.llAt e
   obtain⟨H1,I1,k1,o1,e1,eI⟩:=Y0e I nd ll
   have lO:H1 a=some (.ext (LO a (bs.map V.ref))):=by rw [o1 a ha.2.2];exact ha.1
   obtain⟨ob,I2⟩:=Y0f I1 lO
   have k3:Kp H1 (upd H1 a (.frz ob (.lst (bs.map V.ref)))):=Kp.updM lO (by intro xs z;cases z) (by intro o u z;cases z) _
   have k2:=k1.trans k3
   have e2:∀c u,H' c=some u->(∀ φ,u≠.ext φ)->upd H1 a (.frz ob (.lst (bs.map V.ref))) c=some u:=fun c u q n=>by rw [B6 (Q0s (e1 c u q n) lO (n _))];exact e1 c u q n
   have dm:=eI.mono k3 _ _
   have hl:i<τ'.length:=(aG.mp e).1
   refine⟨_,I2,q σ' _ (kp.trans k2) ⟨by rw [bW];exact cS.len,fun c u hq=>?_,fun k t et=>?_,fun k l t u w cy et eu m1 m2 q1 q2=>?_⟩⟩
   ·rw [B6 (fun z=>by rw [z,ha.2.1]at hq;cases hq),o1 c (fun z=>by rw [h0 c z]at hq;cases hq)];exact cS.same c u hq
   ·by_cases hk:k=i
    ·subst hk
     rw [bq hl]at et;cases et
     exact⟨_,hv,A2.s_lst (K:=X.K) (.inl ⟨ob,upd_same⟩) dm⟩
    ·rw [aP (fun z=>hk z.symm)]at et
     obtain⟨w,q,r⟩:=cS.here k t et
     refine⟨w,q,?_⟩
     cases t with
     | dat d=>exact A2.mono k2 _ _ r
     | own es=>obtain⟨c,ys,e,n,q,t⟩:=r;exact⟨c,ys,e,n,e2 _ _ q (by intro φ z;cases z),t.mono k2 _ _⟩
     | bor es=>obtain⟨c,ys,e,q,t⟩:=r;exact⟨c,ys,e,q,t.mono k2 _ _⟩
     | bd es=>obtain⟨c,ys,e,q,t⟩:=r;exact⟨c,ys,e,q,t.mono k2 _ _⟩
     | dk es=>obtain⟨c,ys,e,n,q,t⟩:=r;exact⟨c,ys,e,n,e2 _ _ q (by intro φ z;cases z),t.mono k2 _ _⟩
     | dt es=>obtain⟨c,ys,e,n,q,t⟩:=r;exact⟨c,ys,e,n,e2 _ _ q (by intro φ z;cases z),t.mono k2 _ _⟩
     | ob _=>exact r
     | cl _ _=>exact⟨r.1,r.2.2 _ _ k2 r.2.1,r.2.2⟩
     | ll a' d'=>exact absurd et (Z3w only hk)
     | ins _ _ _=>obtain⟨e,n,dx,ys,q,t⟩:=r;exact⟨e,n,dx,ys,e2 _ _ q (by intro φ z;cases z),t.mono k2 _ _⟩
   ·by_cases hk:k=i
    ·subst hk;rw [bq hl]at et;cases et;cases m1
    ·by_cases iY:l=i
     ·subst iY;rw [bq hl]at eu;cases eu;cases m2
     ·rw [aP (fun z=>hk z.symm)]at et
      rw [aP (fun z=>iY z.symm)]at eu
      exact cS.apart k l t u w cy et eu m1 m2 q1 q2,fun _ h=>h,fun _ h=>h,fun _ h=>h⟩ q⟩
end
noncomputable def Z8 (g:WG) (we:WE):List D->A9->(List (List D)->Prop)->Prop
 | [],_,Q=>Q []
 | d::ds,τ,Q=>g d τ fun τ'=>we τ' fun r=>∃es,r=.nw es/\Z8 g we ds τ' fun ess=>Q (es::ess)
theorem Z8u {g:WG}{we:WE} (hg:∀d τ (P Q:A9->Prop),(∀ τ,P τ->Q τ)->g d τ P->g d τ Q) (he:∀(τ:A9) (P Q:R->Prop),(∀r,P r->Q r)->we τ P->we τ Q) :
  ∀(ds:List D) (τ:A9) (P Q:List (List D)->Prop),(∀es,P es->Q es)->Z8 g we ds τ P->Z8 g we ds τ Q
 | [],_,_,_,f,h=>f _ h
 | d::ds,τ,P,Q,f,h=>hg d τ _ _ (fun τ' h=>he τ' _ _ (fun r ⟨e,e1,h⟩=>⟨e,e1,Z8u hg he ds τ' _ _ (fun es h=>f _ h) h⟩) h) h
theorem K6.append {K:Fg9}{H:Hp}{b:Addr}{ds:List D}{xs:List V} (q:H b=some (.ext (LO b xs))) (al:AllS K H ds xs):∀{bs:List Addr}{dss:List (List D)},K6 K H bs dss->K6 K H (bs++[b]) (dss++[ds])
 | [],dss,h=>by rw [show dss=[]from h];exact⟨ds,[],rfl,⟨xs,q,al⟩,rfl⟩
 | c::bs,dss,h=>by obtain⟨es,r,rfl,x,t⟩:=h;exact⟨es,r++[ds],rfl,x,t.append q al⟩
theorem Y5h:∀(bs:List Addr),B7 (bs.map V.ref) (bs.map Value.ref)
 | []=>.nil
 | b::bs=>.cons rfl (Y5h bs)
section
variable {X:Cx}{H0:Hp}{tg iter dA:Expr}{scope:Scope}{pos bB e7:Pos}{N:List Str}{nt:Nat}{cap:List Nat}{wi:Q8}{g:WG}{we:WE}
theorem W1h {use:Option (Value->Sem Unit)}{QQ:VS9}{P:List (List D)->Prop}{fR:Pos}{ae:Pn9}{s:Shared} {σ:St}{H:Hp} {τ:A9} (hc:X.calm=true) (B:Blk X scope N nt cap) (hi:F3 X H0 tg iter wi)
  (hg:∀C s H fp,DG (C9 X scope C s H fp N) H tg g) (he:∀C s H fp,DE (C9 X scope C s H fp N) H dA we) (hs:∀x,foldedSetIterable iter X.env x=pure x)
  (I:A0 X ae σ H s) (hR:C4 X.K H0 τ σ H) (hw:wi τ fun ds=>ds.length<=sizeLine/\Z8 g we ds (Q4 nt cap τ) P)
  (fin:∀(C D0:Addr) (s2 s4:Shared) (H2 H4:Hp) (fp:List Addr) (pb:Pn9) (σ4:St) (bs:List Addr) (nn:Nat) (dss:List (List D)) (f:Flow),A0 X ae σ H2 s2->A6 H H2->A0 (C9 X scope C s2 H2 fp N) pb σ4 H4 s4->(∀b∈fp,O4 X ae H2 b) ->
   s2.heap.objs.size<=C->s2.heap.objs.size<=D0->D0≠C->H4 D0=none->s4.heap.get? D0=some { cls:=.type "list",data:=.seq (bs.map Value.ref).toArray nn }->bs.length<=sizeLine->A6 H2 H4->bs.Nodup->(∀b∈bs,H2 b=none)->K6 X.K H4 bs dss->P dss->compPost (model X.prog X.w) X.A X.xe use QQ (.ref D0) C (.ok f) s4) :
  wpAny (model X.prog X.w) X.A (comprehension (.ListComp dA [⟨tg,iter,[],0⟩] scope pos) scope X.env fR (newList []) false (eval iter X.env) use) QQ X.xe s:=by
 refine wpAny_comprehension_free rfl hs (Z1u fun y hy e=>I.ok.has y.1 (B.free y hy e)) B.kind B.names ?_
 refine B4 (hi.pi ae s σ H (fun J H2=>A6 H H2/\∃ds,YlS X.K J ds H2/\ds.length<=sizeLine/\Z8 g we ds (Q4 nt cap τ) P) I
  ⟨τ,hR,hi.mono τ _ _ (fun ds h J H' sm yl=>⟨sm,ds,yl,h.1,h.2⟩) hw⟩) fun v s1 h1=>B4 h1 fun iQ s2 h2=>?_
 obtain⟨it,fp,tn,J,H2,e,I2,T,dI,f2,cG,ds,yl,hz,gR⟩:=h2
 subst e
 have fB:∀b∈fp,b<s2.heap.objs.size:=fun b hb=>by
  obtain⟨o,ho,_⟩:=T.obj _ _ dI b hb
  exact ay ho
 have dD:=hR.mono cG
 refine bF (wpAny_newFunctionEnv B.cell (by intro y hy;simp at hy) (fun h₁ cZ cH=>?_) B.kind)
 dsimp only at cZ cH ⊢
 generalize hH2:s2.heap.push { cls:=.type "list",dict:=none,data:=.seq ([]:List Value).toArray }=Hq at cZ cH ⊢
 have hC:Hq.objs.size=s2.heap.objs.size+1:=by rw [<- hH2,bz]
 have cU:s2.heap.objs.size≠Hq.objs.size:=by rw [hC];exact aD (cC _)
 have cK:s2.heap.objs.size<=Hq.objs.size:=by rw [hC];exact dn _
 have old:∀b o,s2.heap.get? b=some o->h₁.get? b=some o:=fun b o e=>cH.extBut b o (by rw [hC];exact aD (bu (ay e))) (af _ (hH2 ▸ af _ e))
 have de:h₁.PlainList s2.heap.objs.size #[]:=⟨_,cH.extBut _ _ cU (af _ (hH2 ▸ aH _ rfl))⟩
 generalize hCe:Hq.objs.size=C at cZ cH hC cU cK ⊢
 generalize hDe:s2.heap.objs.size=D0 at hC cU cK de ⊢
 have dv:∀b∈fp,b<D0:=fun b hb=>hDe ▸ fB b hb
 have eh:tn 0 h₁:=T.keep _ _ _ dI fun b _ o e=>old b o e
 have jR:=Z1k (C:=C) (h':=h₁) (t':=s2.toks+([]:List (Str×Value)).length) I2 B f2 fB (by rw [hDe];exact cK) cZ old
 have hV:H2 D0=none:=I2.hok.fresh (by rw [hDe];exact ao _)
 have jg:D0∉frs X.stack:=fun z=>by
  rcases av.mp (I2.stkSub _ z)with e | e
  ·have:=I2.lt;rw [<- e,hDe]at this;exact aZ _ this
  ·exact I2.nofs (by rw [hDe];exact ao _) e
 have jh:∀x c,(U8 X.env scope.names []).lookup x=some c->c≠D0:=fun x c h z=>by
  obtain⟨v,q⟩:=I2.cell x c (Z7 I2 B h)
  have:=q.lt
  rw [z,hDe]at this
  exact aZ _ this
 have ee:∀{pb:Pn9} {σ':St}{H':Hp}{s':Shared}{ys:Array Value}{n:Nat},A0 (C9 X scope C s2 H2 fp N) pb σ' H' s'->H' D0=none->s'.heap.get? D0=some { cls:=.type "list",data:=.seq ys n } ->
   A0 (C9 X scope C s2 H2 fp N) [(D0,{ cls:=.type "list",data:=.seq ys n })] σ' H' s':=by
  intro pb σ' H' s' ys n I' n' e
  refine I'.pins_of fun p hp=>?_
  have e':p=(D0,{ cls:=.type "list",data:=.seq ys n }):=by simpa using hp
  subst e'
  exact⟨e,n',cU,jg,fun v z=>by cases z⟩
 have g7:∀{H':Hp}{ob:Obj},(∀b∈fp,H' b=none)->∀b∈fp,O4 (C9 X scope C s2 H2 fp N) [(D0,ob)] H' b:=by
  intro H' ob hn b hb
  refine⟨hn b hb,(aD (az (dv b hb) cK)),fun z=>?_,.inl hb,fun x c h=>(f2 b hb).2.2.2.2.1 x c (Z7 I2 B h),fun p hp=>?_⟩
  ·rcases av.mp (I2.stkSub b z)with e | e
   ·exact(f2 b hb).2.1 e
   ·exact(f2 b hb).2.2.1 e
  ·have e':p=(D0,ob):=by simpa [C9]using hp
   subst e'
   exact(aD (dv b hb)).symm
 let j4:Nat->Shared->Prop:=fun k s'=>∃(i:Nat) (σ':St) (H':Hp) (τ':A9) (nn:Nat) (bs:List Addr) (dss:List (List D)),A0 (C9 X scope C s2 H2 fp N) [(D0,{ cls:=.type "list",data:=.seq (bs.map Value.ref).toArray nn })] σ' H' s'/\C4 X.K H2 τ' σ' H'/\tn i s'.heap /\
  (∀b∈fp,H' b=none)/\H' D0=none/\bs.Nodup/\(∀b∈bs,H2 b=none)/\K6 X.K H' bs dss/\i<=ds.length/\k=ds.length-i/\bs.length=i/\Z8 g we (ds.drop i) τ' fun ess=>P (dss++ess)
 have loop:∀s₃:Shared,s₃={ s2 with heap:=h₁,toks:=s2.toks+([]:List (Str×Value)).length } ->
   codeAny (model X.prog X.w) X.A (.compLoop (.ListComp dA [⟨tg,iter,[],0⟩] scope pos) 0 (.ref it) (.ref D0) (compEnvC scope (U8 X.env scope.names []) C X.env))
    (compPost (model X.prog X.w) X.A X.xe use QQ (.ref D0) C) s₃:=by
  rintro s₃ rfl
  obtain⟨nn,ho⟩:=id de
  refine Z8v j4 ?_ ds.length ⟨0,_,H2,Q4 nt cap τ,nn,[],[],ee jR hV ho,Z4j dD nt cap,eh,fun b hb=>(f2 b hb).1,hV,List.nodup_nil,(by intro b hb;cases hb),rfl,bi _,rfl,rfl,by simpa using gR⟩
  rintro k s3 ⟨i,σ3,H3,τ3,nn,bs,dss,I3,R3,fL,g6,d3,mv,f3,kW,mN,rfl,kj,w3⟩
  have c9:A6 H2 H3:=R3.same
  by_cases bZ:i<ds.length
  ·refine aS (T.item (C9 X scope C s2 H2 fp N) rfl rfl rfl hc i _ s3 σ3 H3 (fun _ _=>False) I3 (g7 g6) fL (yl.go H3 c9 i bZ)) (fun r s4 bx=>?_) fun _ _ z=>z
   obtain⟨u,hr,h4⟩:=bx
   subst hr
   refine aS h4 (fun _ s5 bx=>?_) fun _ _ z=>z
   obtain⟨x,H5,I5,r5,y5,eL,iJ⟩:=bx
   obtain⟨gM,ix⟩:=yl.yld H3 c9 i x H5 _ (ab bZ) y5
   rw [eJ bZ]at w3
   have iL:=I5.pinned (g7 iJ) (T.obj _ _ eL)
   refine aS ((hg C s2 H2 fp).pg _ s5 σ3 H5 x u (fun σ6 H6=>∃ τ6,C4 X.K H2 τ6 σ6 H6/\A6 H5 H6/\we τ6 fun r=>∃es,r=.nw es/\Z8 g we (ds.drop (i+1)) τ6 fun ess=>P (dss++(es::ess)))
    iL r5 ⟨τ3,ds[i],R3.mono gM,ix,(hg C s2 H2 fp).mono _ _ _ _ (fun τ6 h6 σ6 H6 fP R6=>⟨τ6,R6,fP,h6⟩) w3⟩) (fun _ s6 ⟨σ6,H6,I6,τ6,R6,fP,w6⟩=>?_) fun _ _ z=>z
   refine wpAny_tests_nil ?_
   rw [aC rfl]
   refine aS ((he C s2 H2 fp).pe _ s6 σ6 H6 (fun v H8=>A6 H6 H8/\∃es,F7 X.K H6 H8 (.nw es) v/\Z8 g we (ds.drop (i+1)) τ6 fun ess=>P (dss++(es::ess))) I6
    ⟨τ6,R6,(he C s2 H2 fp).mono τ6 _ _ (fun r ⟨e,e1,h⟩ v H8 fO ir=>⟨fO,e,by subst e1;exact ir,h⟩) w6⟩) (fun y s8 ⟨v8,H8,I8,jb,nN,es,⟨b,xs,eb,nb,jB,qm⟩,w8⟩=>?_) fun _ _ z=>z
   subst eb
   obtain rfl:y=Value.ref b:=jb
   have pd:=I8.pin (D0,_) (aF _ (bP _ am))
   obtain⟨o8,d8,_⟩:=pd
   have pS:b≠D0:=fun z=>by rw [z,d8]at jB;cases jB
   obtain⟨zb,kZ,oi,rb,ob⟩:=I8.hok b _ jB
   have nH:A0 (C9 X scope C s2 H2 fp N) ([(D0,{ cls:=.type "list",data:=.seq (bs.map Value.ref).toArray nn })]++X5 fp s5.heap) σ6 (upd H8 b (.ext (LO b xs))) s8 :=
    I8.write (t':=s8.toks) (h':=s8.heap) (e:=b) (by rw [jB];trivial) (.inl rfl) (fun c u _ k=>k) ⟨_,ob⟩ (LO.ok ⟨zb,kZ,oi,rb,ob⟩)
   have kp:Kp H8 (upd H8 b (.ext (LO b xs))):=Kp.upd jB _
   have i7:A6 H6 (upd H8 b (.ext (LO b xs))):=fun c u q=>by rw [B6 (Y6 q nb)];exact nN c u q
   have iS:(bs.map Value.ref).toArray.size<=sizeLine:=by simp;omega
   refine wpAny_list_append_plain (hsz:=iS) ⟨nn,o8⟩ fun h₅ lx jm=>?_
   have mi:A0 (C9 X scope C s2 H2 fp N) (X5 fp s5.heap) σ6 (upd H8 b (.ext (LO b xs))) s8:=nH.pins_of fun p hp=>nH.pin p (aF _ (aF _ hp))
   have mf:upd H8 b (.ext (LO b xs)) D0=none:=by rw [B6 (dG pS)];exact d8
   have I9:A0 (C9 X scope C s2 H2 fp N) (X5 fp s5.heap) σ6 (upd H8 b (.ext (LO b xs))) { s8 with heap:=h₅ }:=by
    refine mi.turned (t':=s8.toks) (it:=D0) (fun c o hb e=>(jm.2 c hb).trans e) mf cU (.inr (by rw [<- hDe];exact ao _)) jh (fun p hp z=>?_)
    obtain⟨q1,_⟩:=Q9b (by simpa [C9]using hp)
    exact aD (dv _ q1) z
   obtain⟨kO,o9⟩:=lx
   have nW:h₅.get? D0=some { cls:=.type "list",data:=.seq ((bs++[b]).map Value.ref).toArray kO }:=by rw [o9];simp
   have k6:A6 H3 H6:=gM.trans fP
   have kC:tn (i+1) h₅:=T.keep _ _ _ eL fun b hb o e=>(I9.pin (b,o) (aF _ (Q2r hb e))).1
   have oo:K6 X.K (upd H8 b (.ext (LO b xs))) bs dss:=kW.keep (Kp.of (k6.trans i7)) fun c φ q=>(k6.trans i7) _ _ q
   refine⟨ds.length-(i+1),by omega,i+1,σ6,_,τ6,kO,bs++[b],dss++[es],ee I9 mf nW,R6.mono i7,kC,fun c hb=>?_,mf,?_,fun c hc=>?_,oo.append upd_same (qm.mono kp _ _),bZ,rfl,by rw [aq,kj];rfl,by simpa using w8⟩
   ·obtain⟨o,e,_⟩:=T.obj _ _ eL c hb
    exact(I9.pin (c,o) (aF _ (Q2r hb e))).2.1
   ·rw [bh]
    refine⟨mv,by simp,fun c hc c' dg z=>?_⟩
    rw [show c'=b by simpa using dg]at z
    obtain⟨j6,q⟩:=kW.mem hc
    have q6:=k6 _ _ q
    rw [z,nb]at q6;cases q6
   ·rcases aN.mp hc with z | z
    ·exact f3 c z
    ·rw [aI.mp z]
     exact(c9.trans k6).free nb
  ·have e:i=ds.length:=by omega
   subst e
   refine aS (T.done (C9 X scope C s2 H2 fp N) rfl rfl rfl hc ds.length _ s3 σ3 H3 (fun _ _=>False) I3 (g7 g6) fL (yl.stop H3 c9)) (fun r s4 bx=>?_) fun _ _ z=>z
   obtain⟨hr,I4⟩:=bx
   subst hr
   have o4:=(I4.pin (D0,_) (aF _ am)).1
   rw [List.drop_length]at w3
   have w3:P (dss++[]):=w3
   rw [aX]at w3
   exact fin C D0 s2 s4 H2 H3 fp _ σ3 bs nn dss _ I2 cG I4 f2 (by rw [hDe];exact cK) (by rw [hDe];exact ao _) cU d3 o4 (by omega) c9 mv f3 kW w3
 exact codeAny_compStart_list (loop _ rfl) (T.self _ 0 _ _ _ eh (loop _ rfl))
def Z5r (i nt:Nat) (cap:List Nat) (wi:Q8) (g:WG) (we:WE):WS:=fun E τ=>wi τ fun ds=>ds.length<=sizeLine/\Z8 g we ds (Q4 nt cap τ) fun dss=>∀a,E.nx (τ.set i (some (.ll a dss)))
theorem DS.setLC {i:Nat}{x:Str} (hc:X.calm=true) (B:Blk X scope N nt cap) (hi:F3 X H0 tg iter wi) (hg:∀C s H fp,DG (C9 X scope C s H fp N) H tg g) (he:∀C s H fp,DE (C9 X scope C s H fp N) H dA we) (hN:X.N.Nodup) (jw:X.N[i]?=some x) (hx:Loc X.env.scope x)
  (fV:swapsWith (.ListComp dA [⟨tg,iter,[],0⟩] scope pos) (some (.Name x bB)) e7.line X.env=pure true:=by rfl) (hs:∀x,foldedSetIterable iter X.env x=pure x:=by intro _;rfl)
  (hf:X.fn x=true\/X.env.scope.names.lookup x=some .local:=by first | exact .inl rfl | exact .inr rfl | assumption) :
  DS X H0 (.Assign [.Name x bB] (.ListComp dA [⟨tg,iter,[],0⟩] scope pos) e7) (Z5r i nt cap wi g we) where
 mono:=fun τ E F le h=>hi.mono τ _ _ (fun ds h=>⟨h.1,Z8u (hg 0 X.s₀ X.H₀ []).mono (he 0 X.s₀ X.H₀ []).mono ds _ _ _ (fun es h a=>le.nx _ (h a)) h.2⟩) h
 ps:=by
  intro ae s σ H D I ⟨τ,hR,hw⟩
  rw [exec_Assign_Name_used _ _ _ _ fV]
  refine aa (ft (aa ?_))
  change wpAny (model X.prog X.w) X.A (do let _ <- comprehension (.ListComp dA [⟨tg,iter,[],0⟩] scope pos) scope X.env _ (newList []) false (eval iter X.env) (some (assign (.Name x bB) X.env))) _ _ s
  refine aa (aS (W1h (use:=some (assign (.Name x bB) X.env)) (QQ:=fun _ s'=>SP X ae D .next s') hc B hi hg he hs I hR hw fun C D0 s2 s4 H2 H4 fp pb σ4 bs nn dss f I2 cG I4 f2 hC hD cU hn ho hz sm4 nd fr ll w3=>?_)
   (fun _ s' hq=>aj (aj hq)) fun _ _ e=>e)
  have Ib:A0 X ae σ (upd H4 D0 (.ext (LO D0 (bs.map V.ref)))) { s4 with heap:=s4.heap } :=
   Z8f I2 I4 f2 hC hD hn ⟨rfl,fun _ _=>rfl⟩ (LO.ok ⟨by rw [ag];exact hz,bs.map Value.ref,nn,Y5h bs,ho⟩)
  have i0:C≠X.env.locals:=fun z=>aZ _ (az I2.lt (z ▸ hC))
  have hZ:∀x c,X.env.cells.lookup x=some c->c≠C:=fun x c h z=>by
   obtain⟨v,q⟩:=I2.cell x c h
   exact aZ _ (az q.lt (z ▸ hC))
  change wpAny (model X.prog X.w) X.A (assign (.Name x bB) X.env (Value.ref D0)) _ _ s4
  refine wpAny_assign_Name (Q9u (v:=.ref D0) Ib hN jw hx rfl (fun s5 I5 bx=>?_) hf)
  obtain⟨a,j8,ha⟩:=bx
  obtain⟨m4,il,_⟩:=id I4.loc
  have jG:C≠a:=by
   rcases ha with ha | ha
   ·rw [ha];exact i0
   ·exact fun z=>hZ _ _ ha z.symm
  refine⟨m4,il.sameBut j8 jG,fun h' sb=>?_⟩
  have jH:H4 C=none:=I4.free
  have I6:A0 X ae (σ.set i (some (.ref D0))) (upd H4 D0 (.ext (LO D0 (bs.map V.ref)))) { s5 with heap:=h' }:=by
   refine I5.turned (t':=s5.toks) (it:=C) (fun b o hb e=>(sb.2 b hb).trans e) (by rw [B6 (dG cU)];exact jH) i0 (.inr (aV I2.sz hC)) hZ fun p hp z=>?_
   have:=(I2.pin p hp).1
   exact aZ _ (az (ay this) (z ▸ hC))
  have j7:A6 H (upd H4 D0 (.ext (LO D0 (bs.map V.ref)))):=cG.trans (sm4.trans (G0 hn _))
  have cS:=(hR.mono j7).set (i:=i) (s:=.ll D0 dss) (v:=.ref D0) ⟨rfl,bs,⟨upd_same,((hR.same.trans cG).trans sm4).free hn,fun z=>by obtain⟨xs,q⟩:=ll.mem z;rw [hn]at q;cases q⟩,nd,fun b hb=>(hR.same.trans cG).free (fr b hb),ll.keep (Kp.of (G0 hn _)) fun c φ q=>by rw [B6 (Y6 q hn)];exact q⟩ fun m=>by cases m
  exact⟨_,_,I6,w3 D0 _ _ (Kp.of j7) cS⟩
end
section
variable {X:Cx}{H0:Hp}{st:Stmt}{w:WS}{a b c e o:Expr}{wa wb wi we wv wk:WE}{wr:WA}{i j nt:Nat}{cap:List Nat}{jT:Q8}{g:WG} {τ:A9}{E:F6}{K:Fg9}{Q:R->Prop}
def Q7f (i:Nat) (w:WS):WS:=fun E τ=>w { E with nx:=fun τ'=>∃ds,τ'[i]?=some (some (.own ds))/\E.nx (τ'.set i (some (.dat (.lst ds)))) } τ
theorem DS.fzO (i:Nat) (h:DS X H0 st w):DS X H0 st (Q7f i w) where
 mono:=fun τ E F le q=>h.mono τ { E with nx:=fun τ'=>∃ds,τ'[i]?=some (some (.own ds))/\E.nx (τ'.set i (some (.dat (.lst ds)))) } { F with nx:=fun τ'=>∃ds,τ'[i]?=some (some (.own ds))/\F.nx (τ'.set i (some (.dat (.lst ds)))) } ⟨fun τ' ⟨ds,e,q⟩=>⟨ds,e,le.nx _ q⟩,le.rt,le.bk,le.ct⟩ q
 ps:=psW (Y1z h.ps) fun D σ H ⟨τ,hR,q⟩=>⟨τ,hR,h.mono τ { Q0 X.K H0 H D with nx:=fun τ'=>∃ds,τ'[i]?=some (some (.own ds))/\(Q0 X.K H0 H D).nx (τ'.set i (some (.dat (.lst ds)))) } _ ⟨fun τ' ⟨ds,e,q⟩ σ' H' kp cS ae s I=>by
  obtain⟨a,xs,hv,h0,sq,al⟩:=cS.ownAt e
  obtain⟨o,I2⟩:=A0.freeze I sq
  exact⟨_,I2,q σ' _ (kp.trans (Kp.upd sq _)) (cS.freeze e hv h0 sq al)⟩,fun _ h=>h,fun _ h=>h,fun _ h=>h⟩ q⟩
@[simp] theorem Y2s:Q7f i w E τ=w { E with nx:=fun τ'=>∃ds,τ'[i]?=some (some (.own ds))/\E.nx (τ'.set i (some (.dat (.lst ds)))) } τ:=rfl
@[simp] theorem W7w:Z5p i w E τ=w { E with nx:=fun τ'=>∃a dss,τ'[i]?=some (some (.ll a dss))/\Y9 i τ'=true/\E.nx (τ'.set i (some (.dat (.lst (dss.map .lst))))) } τ:=rfl
@[simp] theorem W8l:Z5t K i E τ=∃kvs,τ[i]?=some (some (.dk kvs))/\∀a,E.rt (.cl a (FzD K a kvs)):=rfl
@[simp] theorem W8m:Z5u i we E τ=we τ fun r=>∃a Φ,r=.cl a Φ/\E.nx (τ.set i (some (.cl a Φ))):=rfl
@[simp] theorem W7v:Z5o K i we τ Q=∃a kvs,τ[i]?=some (some (.cl a (FzD K a kvs)))/\we τ fun r=>∃kd k,r=.st kd/\R0 kd=some k/\Q (.st ((J7 kvs k).getD .non)):=rfl
@[simp] theorem Y2v:Z0f i we wv E τ=(i<τ.length/\we τ fun rk=>∃kd k,rk=.st kd/\R0 kd=some k/\wv τ fun r=>∃d,r=.st d/\E.nx (τ.set i (some (.dk [(k,d)])))):=rfl
@[simp] theorem W8e:Z5q i nt cap jT g wk wv E τ=jT τ fun ds=>ds.length<sizeLine/\V5 g wk wv ds (Q4 nt cap τ) [] fun kvs=>E.nx (τ.set i (some (.dk kvs))):=rfl
@[simp] theorem W8g:Z5r i nt cap jT g we E τ=jT τ fun ds=>ds.length<=sizeLine/\Z8 g we ds (Q4 nt cap τ) fun dss=>∀a,E.nx (τ.set i (some (.ll a dss))):=rfl
@[simp] theorem W8f:Q7g i we wv E τ=∃a dss,τ[i]?=some (some (.ll a dss))/\Y9 i τ=true/\we τ fun r=>∃k j,r=.st (.int k)/\ixN dss.length k=some j/\wv τ fun r2=>∃d,r2=.st d/\(dss.getD j []).length<sizeLine/\E.nx (τ.set i (some (.ll a (dss.set j (dss.getD j []++[d]))))):=rfl
@[simp] theorem W8h {kvs:List (B3×D)}:Q3q [.dk kvs] Q=Q (.nw (kvs.map fun p=>kyD p.1)):=rfl
end
section
variable {P:Program}{w:World}{A:Around}{E:VS9}{s:Shared}{it t:Addr}{i:Nat}{items:Array Value}
theorem W2z {x:Value}{Q:VS9} (hit:s.heap.IsTupleIter it t i) (ht:s.heap.IsTuple t items) (hx:items[i]?=some x) (hQ:∀h',h'.IsTupleIter it t (i+1)->Heap.SameBut it s.heap h'->Q x { s with heap:=h' }) :
  wpAny (model P w) A (Builtin.SmallTypes.nextOf (.ref it)) Q E s:=by
 obtain⟨o,ho,hc,hd⟩:=id hit
 obtain⟨ol,iV,_,nl,j0⟩:=ht
 unfold Builtin.SmallTypes.nextOf;refine aa (bY (name:=Str.ofString "__next__") hit.typeIs j5 (bM j5 hit.typeIs F.entry_tuple_iterator_next ?_ (F.args_tuple_iterator_next_1 _)))
 change wpAny (model P w) A.in1 (field (Value.ref it) 0>>=_) _ _ s
 refine aa (bS ho hd (x:=.ref t) rfl (?_:wpAny (model P w) A.in1 (if (Value.ref t==Value.none)=true then _ else _) _ _ s))
 rw [ax (show ¬ (Value.ref t==Value.none)=true from aQ)]
 change wpAny (model P w) A.in1 (field (Value.ref it) 1>>=_) _ _ s
 refine aa (bS ho hd (x:=.int i 0) rfl (?_:wpAny (model P w) A.in1 (seqItems? (Value.ref t)>>=_) _ _ s))
 refine aa (cW iV j0 ?_);simp only [b9,hx]
 refine aa (wpAny_setField ho hd (by simp) (aj ⟨x,rfl,aj (hQ _ ⟨_,eU _ ho (Obj.isFreed_of_fields (ci hd _)),(Obj.cls_mapFields ..).trans hc,by rw [ci hd];simp [rawInt]⟩ (di ..))⟩))
theorem W3a {Q:VS9} (hh:A.handled=none) (hit:s.heap.IsTupleIter it t i) (ht:s.heap.IsTuple t items) (hx:items[i]?=none)
  (hE:∀h' e,Heap.ExtBut it s.heap h'->(∃o,h'.get? e=some o/\o.cls=.type "StopIteration")->E (.ref e) { s with heap:=h' }):wpAny (model P w) A (Builtin.SmallTypes.nextOf (.ref it)) Q E s:=by
 obtain⟨o,ho,hc,hd⟩:=id hit
 obtain⟨ol,iV,_,nl,j0⟩:=ht
 unfold Builtin.SmallTypes.nextOf;refine aa (bY (name:=Str.ofString "__next__") hit.typeIs j5 (bM j5 hit.typeIs F.entry_tuple_iterator_next ?_ (F.args_tuple_iterator_next_1 _)))
 change wpAny (model P w) A.in1 (field (Value.ref it) 0>>=_) _ _ s
 refine aa (bS ho hd (x:=.ref t) rfl (?_:wpAny (model P w) A.in1 (if (Value.ref t==Value.none)=true then _ else _) _ _ s))
 rw [ax (show ¬ (Value.ref t==Value.none)=true from aQ)]
 change wpAny (model P w) A.in1 (field (Value.ref it) 1>>=_) _ _ s
 refine aa (bS ho hd (x:=.int i 0) rfl (?_:wpAny (model P w) A.in1 (seqItems? (Value.ref t)>>=_) _ _ s))
 refine aa (cW iV j0 ?_);simp only [b9,hx]
 refine aa (wpAny_rule (aa (wpAny_setField ho hd (by simp) (?_:wpAny (model P w) A.in1 (newExc (.type "StopIteration") []>>=_) _ _ _))))
 refine aa ?_;simp only [newExc,newTuple]
 refine aa (bF (?_) (by size_fits))
 refine aa (m:=firstArgMember _ _) (wpAny_of_eq (a:=Value.none) (by rfl) (bF ?_ (by size_fits)))
 simp only [raiseNew];refine aa (wpAny_handled ?_)
 rw [show A.in1.handled=none from hh]
 exact aa (aj (wpAny_throw (hE _ _ (((di ..).extBut.push _).push _) ⟨_,aH _ rfl,rfl⟩)))
end
theorem Q8g {P:Program}{w:World}{A:Around} (hh:A.handled=none) (it t:Addr) (cy:t≠it) (items:Array Value) :
  Draws P w A it [it,t] items.size (fun i v=>items[i]?=some v) (fun i h=>h.IsTupleIter it t i/\h.IsTuple t items) where
 live:=fun _ _ st=>let ⟨o,ho,_⟩:=st.1;⟨o,ho⟩
 frame:=fun _ _ _ ⟨⟨o,ho,r⟩,o2,fy,r2⟩ hk=>⟨⟨o,hk it (by simp) o ho,r⟩,o2,hk t (by simp) o2 fy,r2⟩
 item:=fun i s Q E hi st hQ=>W2z st.1 st.2 (x:=items[i]) (by simp [hi]) fun h' eO fW=>hQ _ h' s.toks (by simp [hi]) ⟨eO,st.2.extBut fW.extBut cy⟩ fW
 done:=fun s Q E st hE=>W3a hh st.1 st.2 (by simp) hE
open AutoSeq1 (wpAny_loadPart') in
theorem Y8u (t:Addr) (items:Array Value) :
  Meets (Builtin.«enumerate.__new__» ⟨[.type "enumerate",.ref t],[]⟩) (fun _ R s=>s.heap.IsTuple t items /\
   R (.ok (.ret (.ref (s.heap.push { cls:=.type "tuple_iterator",data:=.fields #[.ref t,.int 0 0] }).objs.size)))
    { s with heap:=(s.heap.push { cls:=.type "tuple_iterator",data:=.fields #[.ref t,.int 0 0] }).push { cls:=.type "enumerate",data:=.fields #[.none,.bool false,.ref s.heap.objs.size,rawInt 0,.none,.none] } }) :=
 .of_wp fun prog w A R s h=>by
  obtain⟨hp,g,d,tk,os⟩:=s;obtain⟨hL,h⟩:=h
  obtain⟨⟨c,qL,dt,sl⟩,hl,hc,n,hd⟩:=id hL
  replace hc:c=.type "tuple":=hc
  replace hd:dt=.seq items n:=hd
  subst hc hd
  have hL:Heap.IsTuple (Shared.heap ⟨hp,g,d,tk,os⟩) t items:=hL
  have hsub:=sub_enumerate
  wp_walk using wpAny_loadPart' hl
  refine wpAny_stack_any fun st=>aj ?_
  split
  ·rename_i c _ _ _ _ _
   cases (c==Value.type "enumerate") <;> (wp_walk using wpAny_loadPart' hl,wpAny_pyIter_tuple hL) <;> exact⟨_,rfl,h⟩
  ·wp_walk using wpAny_loadPart' hl,wpAny_pyIter_tuple hL
   exact⟨_,rfl,h⟩
section
variable {P:Program}{w:World}{A:Around}{E:VS9}{s:Shared}
theorem Z8h {t:Addr}{items:Array Value}{Q:VS9} (ht:s.heap.IsTuple t items)
  (h:∀h',IsEnum h' (s.heap.objs.size+1) s.heap.objs.size 0 .none->h'.IsTupleIter s.heap.objs.size t 0->h'.objs.size=s.heap.objs.size+2->(∀b o,s.heap.get? b=some o->h'.get? b=some o)->Q (.ref (s.heap.objs.size+1)) { s with heap:=h' }) :
  wpAny (model P w) A (call (.type "enumerate") [.ref t]) Q E s:=by
 refine callType_new F.called_enumerate (by decide) (F.typeCall_enumerate_1 _) (F.newCall_enumerate_1 _) (fun obj=>F.args_object_init_2 obj _) F.entry_enumerate_new (Y8u t items) ⟨ht,?_⟩
 have hz:(s.heap.push { cls:=.type "tuple_iterator",data:=.fields #[.ref t,.int 0 0] }).objs.size=s.heap.objs.size+1:=bz ..
 have he:IsEnum ((s.heap.push { cls:=.type "tuple_iterator",data:=.fields #[.ref t,.int 0 0] }).push { cls:=.type "enumerate",data:=.fields #[.none,.bool false,.ref s.heap.objs.size,rawInt 0,.none,.none] }) (s.heap.objs.size+1) s.heap.objs.size 0 .none:=by
  have e:=aH (s.heap.push { cls:=.type "tuple_iterator",data:=.fields #[.ref t,.int 0 0] }) (o:={ cls:=.type "enumerate",data:=.fields #[.none,.bool false,.ref s.heap.objs.size,rawInt 0,.none,.none] }) rfl
  rw [hz]at e;exact e
 rw [hz]
 exact⟨⟨_,he,rfl⟩,h _ he ⟨_,af _ (aH _ rfl),rfl,rfl⟩ (by rw [bz,hz]) fun b o x=>af _ (af _ x)⟩
end
noncomputable def Iet (K:Fg9) (l:Addr):It:=⟨fun i H=>∃xs x,D8 K H l xs/\xs[i]?=some x,fun i H v H'=>∃T x,(∀xs,D8 K H l xs->xs[i]?=some x)/\H T=none/\v=.ref T/\H'=upd H T (.tup [.int (i:Int),x]),fun i H=>∃xs,D8 K H l xs/\xs.length=i⟩
theorem Y4s {P:Program}{w:World}{K:Fg9}{db:List Expr}{kk:Nat}{pt:Pos}{en it l:Addr} (cy:en≠it) (fh:l≠en) (iX:l≠it) :
  Q1c P w K (.Tuple db kk pt) (Iet K l) [en,it] en (fun i h=>(∃old,IsEnum h en it i old)/\h.IsTupleIter it l i) where
 mem:=by simp
 obj:=fun i h st b hb=>by
  obtain⟨⟨old,he⟩,o,ho,_,d⟩:=st
  rcases av.mp hb with rfl | hb
  ·exact⟨_,he,fun v z=>by cases z⟩
  ·have e:b=it:=by simpa using hb
   subst e
   exact⟨o,ho,fun v z=>by rw [d]at z;cases z⟩
 keep:=fun i h h' ⟨⟨old,he⟩,o,ho,r⟩ k=>⟨⟨old,k en (by simp) _ he⟩,o,k it (by simp) o ho,r⟩
 item:=by
  intro X hP hw hK hc i ae s σ H E I hf st hg
  subst hP hw hK
  obtain⟨xs,x,hq,hx⟩:=hg
  obtain⟨aT,rv,p,hz⟩:=I.tuple hq
  have W:=WalksT.enumerateD (Q8g (P:=X.prog) (w:=X.w) (A:=X.A.in1) (show X.A.in1.handled=none from I.ok.hd hc) it l iX aT.toArray) en cy (by simp;exact⟨cy,fun z=>fh z.symm⟩) (by simp)
  obtain⟨u,hu,ru⟩:=rv.get hx
  have bZ:i<aT.toArray.size:=by
   rcases aW i aT.length with h | h
   ·simpa using h
   ·rw [aw.mpr h]at hu;cases hu
  refine W.item i s _ _ bZ ⟨st.1,st.2,p⟩ fun T ff h' tk hv hT jE gQ k=>?_
  obtain⟨t1,y,hy,rfl⟩:=hv
  have ey:y=u:=by
   have:aT[i]?=some y:=by simpa using hy
   rw [hu]at this;exact(aA this).symm
  subst ey
  refine⟨_,rfl,W.go db kk pt i T { s with heap:=h',toks:=tk } _ _ gQ fun h2 dI k2=>?_⟩
  have ib:∀b o,b∉[en,it]->s.heap.get? b=some o->h2.get? b=some o:=fun b o hb e=>k2 b o hb (k b o hb e)
  have h8:=W.apart i T h' gQ
  have eT:IsTup h2 T ([Value.int (i:Int) t1,y]).toArray:=by
   obtain⟨o,ho,r⟩:=jE
   exact⟨o,k2 T o h8 ho,r⟩
  have I2:=Q9x (t':=tk) (xs:=[.int (i:Int),x]) I ib hf hT eT (.cons ⟨t1,rfl⟩ (.cons ru .nil)) (by show 2<=sizeLine;decide)
  refine⟨.ref T,_,I2,rfl,⟨T,x,fun ys hy=>by rw [I.tuple_inj hy hq];exact hx,I.hok.fresh hT,rfl,rfl⟩,⟨dI.1,dI.2.1⟩,fun b hb=>?_⟩
  rw [B6 (show b≠T from fun z=>h8 (by rw [<- z];exact hb))]
  exact(hf b hb).1
 done:=by
  intro X hP hw hK hc i ae s σ H E I hf st hg
  subst hP hw hK
  obtain⟨xs,hq,hx⟩:=hg
  obtain⟨aT,rv,p,hz⟩:=I.tuple hq
  have W:=WalksT.enumerateD (Q8g (P:=X.prog) (w:=X.w) (A:=X.A.in1) (show X.A.in1.handled=none from I.ok.hd hc) it l iX aT.toArray) en cy (by simp;exact⟨cy,fun z=>fh z.symm⟩) (by simp)
  have hl:=rv.length
  have e:i=aT.toArray.size:=by simp;omega
  subst e
  exact W.done s _ _ ⟨st.1,st.2,p⟩ fun h' tk k=>⟨rfl,Q5j I k hf⟩
 self:=fun A i s Q E ⟨⟨old,he⟩,_⟩ h=>cr he h
theorem Z0n {K:Fg9}{H0 H:Hp}{l:Addr}{xs:List V}{ds:List D} (hq:H l=some (.tup xs)) (al:AllS K H ds xs):Yl K H0 (Iet K l) (K0 ds) H where
 go:=fun H' k s i hi=>by
  rw [Q2n]at hi
  exact⟨xs,xs[i]'(by rw [<- al.length];exact hi),D8.of (k.tup _ _ hq),ab _⟩
 yld:=fun H' k s i v cV d hd ⟨T,x,hx,hT,hv,hH⟩=>by
  subst hH hv
  refine⟨G0 hT _,?_⟩
  obtain⟨y,hy,rfl⟩:=Q8h hd
  obtain⟨v,hv,q⟩:=al.get hy
  rw [hx xs (D8.of (k.tup _ _ hq))]at hv;cases hv
  exact A2.s_tup upd_same (AllS.cons A2.s_int (AllS.cons (q.mono (k.trans (Kp.of (G0 hT _))) _ _) AllS.nil))
 stop:=fun H' k s=>⟨xs,D8.of (k.tup _ _ hq),by rw [Q2n];exact al.length.symm⟩
theorem V1d {K:Fg9}{H0 H:Hp}{x:Str}:Yl K H0 (Ies x) (K0 (F5 x)) H where
 go:=fun H' _ _ i hi=>(Z6y (K:=K) (H:=H')).go H' (A6.refl _) i hi
 yld:=fun H' _ _ i v cV d hd h=>(Z6y (K:=K) (H:=H')).yld H' (A6.refl _) i v cV d hd h
 stop:=fun H' _ _=>(Z6y (K:=K) (H:=H')).stop H' (A6.refl _)
section
variable {X:Cx}{H0:Hp}{a:Expr}{p pos:Pos}{wr:WA}
def Q4l (wr:WA):WI:=fun τ Q=>wr τ fun rs=>(∃x,rs=[.st (.str x)]/\Q (K0 (F5 x)) τ)\/∃ds,rs=[.st (.tup ds)]/\Q (K0 ds) τ
theorem DI.enumX {db:List Expr}{kk:Nat}{pt:Pos} (hg:Gl X "enumerate") (hm:X.mg "enumerate"=none) (hv:bootBuiltins "enumerate"=some (.type "enumerate")) (ha:DA X H0 [a] wr) (he:starEach [a] X.env=(false,eval a X.env)::starEach [] X.env:=by rfl) (hpl:(backTo pos (starEach [] X.env)).any (·.1)=false:=by rfl) :
  DI X H0 (.Tuple db kk pt) (.Call (.Name "enumerate" p) [a] [] pos) (Q4l wr) where
 mono:=fun τ P Q f h=>ha.mono τ _ _ (fun r h=>h.imp (fun⟨x,e1,q⟩=>⟨x,e1,f _ _ q⟩) fun⟨ds,e1,q⟩=>⟨ds,e1,f _ _ q⟩) h
 pi:=by
  intro ae s σ H R I ⟨τ,hR,h⟩
  refine bo (Q0p I hg hm hv ?_ (by decide) (by decide))
  refine bt (B4 (ha.pa pos ae s σ H (fun vs H1=>A6 H H1/\((∃x,vs=[.str x]/\∀J H',Kp H H'->C4 X.K H0 τ σ H'->Yl X.K H0 J (K0 (F5 x)) H'->R J H') \/
    ∃l xs ds,vs=[.ref l]/\H1 l=some (.tup xs)/\AllS X.K H1 ds xs/\∀J H',Kp H H'->C4 X.K H0 τ σ H'->Yl X.K H0 J (K0 ds) H'->R J H')) I
   ⟨τ,hR,ha.mono τ _ _ (fun rs h vs H1 s1 cu=>⟨s1,?_⟩) h⟩) fun us s1 ⟨vs,H1,I1,rv,sm,hh⟩=>?_) he hpl
  ·rcases h with⟨x,e1,q⟩ | ⟨ds,e1,q⟩
   ·subst e1
    obtain⟨v,rfl,ir⟩:=W7 cu
    cases (show v=.str x from ir)
    exact .inl ⟨x,rfl,q⟩
   ·subst e1
    obtain⟨v,rfl,ir⟩:=W7 cu
    have ir:A2 X.K H1 (.tup ds) v:=ir
    unfold A2 at ir
    obtain⟨l,xs,rfl,sq,al⟩:=ir
    exact .inr ⟨l,xs,ds,rfl,sq,al,q⟩
  ·have big:∀b∈[s1.heap.objs.size+1,s1.heap.objs.size],O4 X ae H1 b:=fun b hb=>by
    have hb:s1.heap.objs.size<=b:=by
     rcases av.mp hb with rfl | hb
     ·exact dn _
     ·have e:b=s1.heap.objs.size:=by simpa using hb
      rw [e];exact ao _
    exact I1.fpOk hb (I1.hok.fresh hb)
   rcases hh with⟨x,rfl,q⟩ | ⟨l,xs,ds,rfl,sq,al,q⟩
   ·obtain⟨u,rfl,ru⟩:=X9 rv
    obtain⟨t,rfl⟩:=ru
    refine call_enumerate_str fun h' he hi hz k=>?_
    exact cr he ⟨s1.heap.objs.size+1,[s1.heap.objs.size+1,s1.heap.objs.size],_,_,H1,rfl,I1.kept (t':=s1.toks) k,V0h (x:=x) (t:=t) (fJ _),⟨⟨_,he⟩,hi⟩,big,q _ _ (Kp.of sm) (hR.mono sm) V1d⟩
   ·obtain⟨u,rfl,ru⟩:=X9 rv
    cases (show u=Value.ref l from ru)
    obtain⟨aT,fw,pl,iR⟩:=I1.tuple (D8.of sq)
    have hl:l<s1.heap.objs.size:=by obtain⟨o,ho,_⟩:=pl;exact ay ho
    refine Z8h pl fun h' he hi hz k=>?_
    exact cr he ⟨s1.heap.objs.size+1,[s1.heap.objs.size+1,s1.heap.objs.size],_,_,H1,rfl,I1.kept (t':=s1.toks) k,Y4s (l:=l) (fJ _) (aD (bu hl)) (aD hl),⟨⟨_,he⟩,hi⟩,big,q _ _ (Kp.of sm) (hR.mono sm) (Z0n sq al)⟩
@[simp] theorem Y2t {τ:A9}{Q:List D->A9->Prop}:Q4l wr τ Q=wr τ fun rs=>(∃x,rs=[.st (.str x)]/\Q (K0 (F5 x)) τ)\/∃ds,rs=[.st (.tup ds)]/\Q (K0 ds) τ:=rfl
end
theorem V1i {K:Fg9}{H:Hp}{l:Addr}{xs:List V}{ds:List D} (hq:H l=some (.tup xs)) (al:AllS K H ds xs):YlS K (Iet K l) (K0 ds) H where
 go:=fun H' s i hi=>(Z0n (H0:=H) hq al).go H' (Kp.of s) s i hi
 yld:=fun H' s i v cV d hd h=>(Z0n (H0:=H) hq al).yld H' (Kp.of s) s i v cV d hd h
 stop:=fun H' s=>(Z0n (H0:=H) hq al).stop H' (Kp.of s) s
section
variable {X:Cx}{H0:Hp}{a:Expr}{p pos:Pos}{wr:WA}
noncomputable def Q9m:R->Option (List D)
 | .st (.tup ds)=>some ds
 | r=>U3 r
noncomputable def Q8p (wr:WA):Q8:=fun τ Q=>wr τ fun rs=>∃r ds,rs=[r]/\Q9m r=some ds/\Q (K0 ds)
theorem F3.enumX {db:List Expr}{kk:Nat}{pt p:Pos} (hg:Gl X "enumerate") (hm:X.mg "enumerate"=none) (hv:bootBuiltins "enumerate"=some (.type "enumerate")) (ha:DA X H0 [a] wr) (he:starEach [a] X.env=(false,eval a X.env)::starEach [] X.env:=by rfl) (hpl:(backTo pos (starEach [] X.env)).any (·.1)=false:=by rfl) :
  F3 X H0 (.Tuple db kk pt) (.Call (.Name "enumerate" p) [a] [] pos) (Q8p wr) where
 mono:=fun τ P Q f h=>ha.mono τ _ _ (fun r ⟨r',ds,e1,e2,q⟩=>⟨r',ds,e1,e2,f _ q⟩) h
 pi:=by
  intro ae s σ H R I ⟨τ,hR,h⟩
  refine bo (Q0p I hg hm hv ?_ (by decide) (by decide))
  refine bt (B4 (ha.pa pos ae s σ H (fun vs H1=>A6 H H1/\((∃l xs ds,vs=[.ref l]/\H1 l=some (.tup xs)/\AllS X.K H1 ds xs/\∀J H',A6 H H'->YlS X.K J (K0 ds) H'->R J H')\/∃l xs ds,vs=[.ref l]/\E3 X.K H1 l xs/\AllS X.K H1 ds xs/\∀J H',A6 H H'->YlS X.K J (K0 ds) H'->R J H')) I
   ⟨τ,hR,ha.mono τ _ _ (fun rs h vs H1 s1 cu=>⟨s1,?_⟩) h⟩) fun us s1 ⟨vs,H1,I1,rv,sm,hh⟩=>?_) he hpl
  ·obtain⟨r,ds,e1,e2,q⟩:=h
   subst e1
   obtain⟨v,rfl,ir⟩:=W7 cu
   by_cases ht:∃es,r=.st (.tup es)
   ·obtain⟨es,rfl⟩:=ht
    cases e2
    have ir:A2 X.K H1 (.tup ds) v:=ir
    unfold A2 at ir
    obtain⟨l,xs,rfl,sq,al⟩:=ir
    exact .inl ⟨l,xs,ds,rfl,sq,al,q⟩
   ·have e2:U3 r=some ds:=by
     unfold Q9m at e2
     split at e2
     ·exact absurd ⟨_,rfl⟩ ht
     ·exact e2
    obtain⟨l,xs,rfl,sq,al⟩:=Q3r e2 ir
    exact .inr ⟨l,xs,ds,rfl,sq,al,q⟩
  ·have big:∀b∈[s1.heap.objs.size+1,s1.heap.objs.size],O4 X ae H1 b:=fun b hb=>by
    have hb:s1.heap.objs.size<=b:=by
     rcases av.mp hb with rfl | hb
     ·exact dn _
     ·have e:b=s1.heap.objs.size:=by simpa using hb
      rw [e];exact ao _
    exact I1.fpOk hb (I1.hok.fresh hb)
   rcases hh with⟨l,xs,ds,rfl,sq,al,q⟩ | ⟨l,xs,ds,rfl,sq,al,q⟩
   ·obtain⟨u,rfl,ru⟩:=X9 rv
    cases (show u=Value.ref l from ru)
    obtain⟨aT,fw,pl,iR⟩:=I1.tuple (D8.of sq)
    have hl:l<s1.heap.objs.size:=by obtain⟨o,ho,_⟩:=pl;exact ay ho
    refine Z8h pl fun h' he hi hz k=>?_
    exact cr he ⟨s1.heap.objs.size+1,[s1.heap.objs.size+1,s1.heap.objs.size],_,_,H1,rfl,I1.kept (t':=s1.toks) k,Y4s (l:=l) (fJ _) (aD (bu hl)) (aD hl),⟨⟨_,he⟩,hi⟩,big,q _ _ sm (V1i sq al)⟩
   ·obtain⟨u,rfl,ru⟩:=X9 rv
    cases (show u=Value.ref l from ru)
    obtain⟨aT,fw,pl,iR⟩:=I1.list sq
    obtain⟨o,n,ho,_⟩:=id pl
    have hl:l<s1.heap.objs.size:=ay ho
    refine call_enumerate_list pl.isList fun h' he hi hz k=>?_
    refine cr he ⟨s1.heap.objs.size+1,[s1.heap.objs.size+1,s1.heap.objs.size],_,_,H1,rfl,I1.kept (t':=s1.toks) k,Y4r (l:=l) (fJ _) (aD (bu hl)) (aD hl),⟨⟨_,he⟩,hi⟩,big,q _ _ sm (V1h sq al)⟩
@[simp] theorem Y2u {τ:A9}{Q:List D->Prop}:Q8p wr τ Q=wr τ fun rs=>∃r ds,rs=[r]/\Q9m r=some ds/\Q (K0 ds):=rfl
end
section
variable {X:Cx}{ae:Pn9} {σ:St}{H:Hp}{s:Shared}
end
section
variable {X:Cx}
end
structure Q4c (z TI TO i1 i2:Addr) (gi gh:List Addr):Prop where
 tiz:TI≠z
 toz:TO≠z
 i1z:i1≠z
 i2z:i2≠z
 tito:TI≠TO
 ti1:TI≠i1
 ti2:TI≠i2
 to1:TO≠i1
 to2:TO≠i2
 i12:i1≠i2
 f1:∀b∈gi,b≠z/\b≠TO/\b≠i2
 f2:∀b∈gh,b≠z/\b≠TO/\b≠i1
abbrev IsZ (h:Heap) (z TI TO:Addr) (f0:Value) (f:Bool):Prop :=
 h.get? z=some { cls:=.type "zip",dict:=none,data:=.fields #[f0,.bool f,.bool false,.ref TI,.ref TO],slots:=#[] }
def Z4 (h:Heap) (z TI TO:Addr):Prop:=∃f0 f,IsZ h z TI TO f0 f/\(f0=.none\/∃T:Addr,f0=rawInt T)
section
variable {P:Program}{w:World}{A:Around}{E:VS9}{s:Shared}{z TI TO i1 i2:Addr}{gi gh:List Addr}{n1 n2 k:Nat}{P1 P2:Nat->Value->Prop}{S1 S2:Nat->Heap->Prop}{a b:Value}
theorem R8 {it:Addr}{fp:List Addr}{n i:Nat}{Q:Nat->Value->Prop}{S:Nat->Heap->Prop} (D:Draws P w A it fp n Q S) {h h':Heap}{c:Addr} (st:S i h) (sb:Heap.ExtBut c h h') (hc:∀b∈fp,b≠c):S i h':=D.frame _ _ _ st fun b hb o e=>sb b o (hc b hb) e
theorem Y5t {Q:Bool->Shared->Prop} (hz:Z4 s.heap z TI TO) (h1:∀f0 f,IsZ s.heap z TI TO f0 f->Q true s) (h2:∀h' (T:Addr),IsZ h' z TI TO (rawInt T) true->Heap.SameBut z s.heap h'->Q false { s with heap:=h' }) :
  wpAny (model P w) A (Builtin.SmallTypes.ownedTupleIsFree (.ref z)) Q E s:=by
 obtain⟨f0,f,hz,rfl | ⟨T,rfl⟩⟩:=hz
 ·unfold Builtin.SmallTypes.ownedTupleIsFree;exact aa (bS hz rfl (x:=.none) rfl (aj (h1 _ _ hz)))
 ·unfold Builtin.SmallTypes.ownedTupleIsFree;refine aa (bS hz rfl (x:=rawInt T) rfl ?_)
  change wpAny (model P w) A (loadIfAlive ((T:Int).toNat)>>=_) _ _ _
  rw [b9]
  refine aa ?_
  cases e:s.heap.get? T with
  | none =>
   have md:∀{Q:Option Obj->Shared->Prop},Q none s->wpAny (model P w) A (loadIfAlive T) Q E s:=fun {Q} h=>by
    have h':Q (s.heap.get? T) s:=by rw [e];exact h
    exact fun _ _ _=>h'
   refine md ?_
   rw [aC (show(none:Option Obj).isNone=true from rfl)]
   exact aj (h1 _ _ hz)
  | some o =>
   refine PySem.W.kdx_alive e ?_
   rw [ax (by simp)]
   refine aa (bS hz rfl (x:=.bool f) rfl ?_)
   cases f with
   | true =>
    rw [ax (by decide)]
    exact aj (h2 s.heap T hz (Heap.SameBut.refl _ _))
   | false =>
    rw [aC (by decide)]
    exact aa (cg hz (by simp) fun h₃ pI oN=>aj (h2 h₃ T pI oN))
theorem V1p {Q:VS9} (Z:Q4c z TI TO i1 i2 gi gh) (D1:Draws P w A i1 gi n1 P1 S1) (D2:Draws P w A i2 gh n2 P2 S2) (jk:Z4 s.heap z TI TO) (fq:IsPair s.heap TI (.ref i1) (.ref i2)) (fe:IsPair s.heap TO a b) (h1:S1 k s.heap) (h2:S2 k s.heap) (l1:k<n1) (l2:k<n2)
  (hQ:∀h' tk x y,P1 k x->P2 k y->Z4 h' z TI TO->(∃a b,IsPair h' TO a b)->S1 (k+1) h'->S2 (k+1) h'->IsPair h' s.heap.objs.size x y->h'.objs.size=s.heap.objs.size+1->(∀c o,c≠z->c≠TO->c≠i1->c≠i2->s.heap.get? c=some o->h'.get? c=some o)->Q (.ref s.heap.objs.size) { s with heap:=h',toks:=tk }) :
  wpAny (model P w) A (Builtin.«zip.__next__» ⟨[.ref z],[]⟩) (fun fin s'=>∃v,fin=.done (.ret v)/\Q v s') E s:=by
 obtain⟨f0,f,hz,hf⟩:=id jk
 change wpAny (model P w) A (field (.ref z) 2>>=_) _ _ s
 refine aa (bS hz rfl (x:=Value.bool false) rfl ?_)
 change wpAny (model P w) A (field (.ref z) 3>>=_) _ _ s
 refine aa (bS hz rfl (x:=.ref TI) rfl (aa (cW fq rfl ?_)))
 change wpAny (model P w) A (Builtin.SmallTypes.ownedTupleIsFree (.ref z)>>=_) _ _ s
 refine aa (Y5t jk (fun f0 f hz=>?_) fun g₁ T fT dB=>?_)
 ·rw [aC rfl]
  refine aa (wpAny_rule (aa (bS hz rfl (x:=.ref TO) rfl (aa (cg hz (by simp) fun g₁ fT dB=>?_)))))
  have fT:IsZ g₁ z TI TO .ellipsis f:=fT
  refine aa ?_
  simp only [dh,List.zipIdx_nil,cL,List.forIn_nil];refine aa (aa (wpAny_onRaise ?_))
  change wpAny (model P w) A (Builtin.SmallTypes.nextOf (.ref i1)>>=_) _ _ _
  refine aa (D1.item k _ _ _ l1 (R8 D1 h1 dB.extBut fun b hb=>(Z.f1 b hb).1) fun x g₂ kB px jJ dq=>aj ?_)
  have fZ:IsPair g₂ TO a b:=dq.extBut _ _ Z.to1 (dB.extBut _ _ Z.toz fe)
  refine aa (cW fZ rfl (aa (wpAny_updateSeq_pair fZ fun g₃ gC dJ=>aa (wpAny_letGo (aj ?_)))))
  have gC:IsPair g₃ TO x b:=gC
  refine aa (aa (wpAny_onRaise ?q))
  change wpAny (model P w) A (Builtin.SmallTypes.nextOf (.ref i2)>>=_) _ _ _
  have jI:S2 k g₃:=R8 D2 (R8 D2 (R8 D2 h2 dB.extBut fun b hb=>(Z.f2 b hb).1) dq.extBut fun b hb=>(Z.f2 b hb).2.2) dJ.extBut fun b hb=>(Z.f2 b hb).2.1
  refine aa (D2.item k _ _ _ l2 jI fun y g₄ nJ py q8 gJ=>aj ?_)
  have jD:IsPair g₄ TO x b:=gJ.extBut _ _ Z.to2 gC
  refine aa (cW jD rfl (aa (wpAny_updateSeq_pair jD fun g₅ gB gI=>aa (wpAny_letGo (aj (aj ?_))))))
  have gB:IsPair g₅ TO x y:=gB
  refine aa (cW gB rfl (aa (wpAny_newTuple ?_)))
  have hsz:g₅.objs.size=s.heap.objs.size:=by rw [gI.1,gJ.1,dJ.1,dq.1,dB.1]
  have my:IsZ g₅ z TI TO .ellipsis f:=gI.extBut _ _ Z.toz.symm (gJ.extBut _ _ Z.i2z.symm (dJ.extBut _ _ Z.toz.symm (dq.extBut _ _ Z.i1z.symm fT)))
  have ph:∀c o,c≠z->c≠TO->c≠i1->c≠i2->s.heap.get? c=some o->g₅.get? c=some o:=fun c o c1 c2 c3 c4 e=>gI.extBut _ _ c2 (gJ.extBut _ _ c4 (dJ.extBut _ _ c2 (dq.extBut _ _ c3 (dB.extBut _ _ c1 e))))
  have q9:S1 (k+1) g₅:=R8 D1 (R8 D1 (R8 D1 jJ dJ.extBut fun b hb=>(Z.f1 b hb).2.1) gJ.extBut fun b hb=>(Z.f1 b hb).2.2) gI.extBut fun b hb=>(Z.f1 b hb).2.1
  have q0:S2 (k+1) g₅:=R8 D2 q8 gI.extBut fun b hb=>(Z.f2 b hb).2.1
  have jl:z<g₅.objs.size:=ay my
  change wpAny (model P w) A (Builtin.SmallTypes.ownedTupleHandOut (.ref z) (Value.ref g₅.objs.size)>>=_) _ _ _
  refine aa ?_
  unfold Builtin.SmallTypes.ownedTupleHandOut;refine aa (cg (af _ my:IsZ (g₅.push { cls:=.type "tuple",data:=.seq #[x,y] }) z TI TO .ellipsis f) (by simp) fun g₇ l3 kF=>?_)
  have l3:IsZ g₇ z TI TO (rawInt g₅.objs.size) f:=l3
  refine cg l3 (by simp) fun g₈ ka kE=>aj ⟨_,rfl,?_⟩
  have ka:IsZ g₈ z TI TO (rawInt g₅.objs.size) false:=ka
  have up:∀c o,c≠z->g₅.get? c=some o->g₈.get? c=some o:=fun c o c1 e=>kE.extBut _ _ c1 (kF.extBut _ _ c1 (af _ e))
  have mT:IsPair g₈ g₅.objs.size x y:=kE.extBut _ _ (Nat.ne_of_gt jl) (kF.extBut _ _ (Nat.ne_of_gt jl) (aH _ rfl))
  rw [hsz]at ka mT
  have goal:=hQ g₈ nJ x y px py ⟨_,_,ka,.inr ⟨_,rfl⟩⟩ ⟨_,_,up _ _ Z.toz gB⟩ (D1.frame _ _ _ q9 fun b hb o e=>up b o (Z.f1 b hb).1 e) (D2.frame _ _ _ q0 fun b hb o e=>up b o (Z.f2 b hb).1 e) mT (by rw [kE.1,kF.1,bz,hsz]) fun c o c1 c2 c3 c4 e=>up c o c1 (ph c o c1 c2 c3 c4 e)
  rw [<- hsz]at goal
  exact goal
 ·rw [ax (by decide)]
  refine aa ?_
  rw [<- Array.forIn_toList]
  rw [cL]
  refine aa (aa (bA ?_))
  change wpAny (model P w) A (Builtin.SmallTypes.nextOf (.ref i1)>>=fun x=>pure (some x)) _ _ _
  refine aa (D1.item k _ _ _ l1 (R8 D1 h1 dB.extBut fun b hb=>(Z.f1 b hb).1) fun x g₂ kB px jJ dq=>aj (aj ?_))
  dsimp only
  rw [cL]
  refine aa (aa (bA ?_))
  change wpAny (model P w) A (Builtin.SmallTypes.nextOf (.ref i2)>>=fun x=>pure (some x)) _ _ _
  have m7:S2 k g₂:=R8 D2 (R8 D2 h2 dB.extBut fun b hb=>(Z.f2 b hb).1) dq.extBut fun b hb=>(Z.f2 b hb).2.2
  refine aa (D2.item k _ _ _ l2 m7 fun y g₃ nK py jI dJ=>aj (aj ?_))
  dsimp only
  rw [List.forIn_nil]
  refine aj (aa (wpAny_newTuple (aj ⟨_,rfl,?_⟩) (hsz:=by show 2<=sizeLine;decide)))
  have sz:g₃.objs.size=s.heap.objs.size:=by rw [dJ.1,dq.1,dB.1]
  have up:∀c o,c≠z->c≠i1->c≠i2->s.heap.get? c=some o->g₃.get? c=some o:=fun c o c1 c2 c3 e=>dJ.extBut _ _ c3 (dq.extBut _ _ c2 (dB.extBut _ _ c1 e))
  have oA:IsZ g₃ z TI TO (rawInt T) true:=dJ.extBut _ _ Z.i2z.symm (dq.extBut _ _ Z.i1z.symm fT)
  have qd:S1 (k+1) g₃:=R8 D1 jJ dJ.extBut fun b hb=>(Z.f1 b hb).2.2
  have goal:=hQ (g₃.push { cls:=.type "tuple",data:=.seq #[x,y] }) nK x y px py ⟨_,_,af _ oA,.inr ⟨_,rfl⟩⟩ ⟨_,_,af _ (up _ _ Z.toz Z.to1 Z.to2 fe)⟩ (D1.frame _ _ _ qd fun b hb o e=>af _ e) (D2.frame _ _ _ jI fun b hb o e=>af _ e)
   (by
    have e:(g₃.push { cls:=.type "tuple",data:=.seq #[x,y] }).get? g₃.objs.size=some { cls:=.type "tuple",data:=.seq #[x,y] }:=aH _ rfl
    rw [sz]at e;exact e) (by rw [bz,sz]) fun c o c1 _ c3 c4 e=>af _ (up c o c1 c3 c4 e)
  rw [<- sz]at goal
  exact goal
theorem V1o {Q:Fin->Shared->Prop} (Z:Q4c z TI TO i1 i2 gi gh) (D1:Draws P w A i1 gi n1 P1 S1) (D2:Draws P w A i2 gh n2 P2 S2) (jk:Z4 s.heap z TI TO) (fq:IsPair s.heap TI (.ref i1) (.ref i2)) (fe:IsPair s.heap TO a b) (h1:S1 k s.heap) (h2:S2 k s.heap) (hk:k=n1\/(k<n1/\k=n2))
  (hE:∀h' tk e,(∀c o,c≠z->c≠TO->c≠i1->c≠i2->s.heap.get? c=some o->h'.get? c=some o)->(∃o,h'.get? e=some o/\o.cls=.type "StopIteration")->E (.ref e) { s with heap:=h',toks:=tk }) :
  wpAny (model P w) A (Builtin.«zip.__next__» ⟨[.ref z],[]⟩) Q E s:=by
 obtain⟨f0,f,hz,hf⟩:=id jk
 change wpAny (model P w) A (field (.ref z) 2>>=_) _ _ s
 refine aa (bS hz rfl (x:=Value.bool false) rfl ?_)
 change wpAny (model P w) A (field (.ref z) 3>>=_) _ _ s
 refine aa (bS hz rfl (x:=.ref TI) rfl (aa (cW fq rfl ?_)))
 change wpAny (model P w) A (Builtin.SmallTypes.ownedTupleIsFree (.ref z)>>=_) _ _ s
 refine aa (Y5t jk (fun f0 f hz=>?_) fun g₁ T fT dB=>?_)
 ·rw [aC rfl]
  refine aa (wpAny_rule (aa (bS hz rfl (x:=.ref TO) rfl (aa (cg hz (by simp) fun g₁ fT dB=>?_)))))
  have fT:IsZ g₁ z TI TO .ellipsis f:=fT
  refine aa ?_
  simp only [dh,List.zipIdx_nil,cL,List.forIn_nil];refine aa (aa (wpAny_onRaise ?_))
  change wpAny (model P w) A (Builtin.SmallTypes.nextOf (.ref i1)>>=_) _ _ _
  have jK:S1 k g₁:=R8 D1 h1 dB.extBut fun b hb=>(Z.f1 b hb).1
  rcases hk with hk | ⟨bZ,hk⟩
  ·subst hk
   refine aa (D1.done _ _ _ jK fun g₂ e dq he=>?_)
   obtain⟨oe,ie,jA⟩:=he
   have mB:IsZ g₂ z TI TO .ellipsis f:=dq _ _ Z.i1z.symm fT
   have lF:e≠z:=fun q=>by subst q;rw [mB]at ie;cases ie;simp at jA
   exact cg mB (by simp) fun g₃ _ dJ=>hE g₃ _ e (fun c o c1 _ c3 _ x=>dJ.extBut _ _ c1 (dq _ _ c3 (dB.extBut _ _ c1 x))) ⟨oe,dJ.extBut _ _ lF ie,jA⟩
  ·refine aa (D1.item k _ _ _ bZ jK fun x g₂ kB px jJ dq=>aj ?_)
   have fZ:IsPair g₂ TO a b:=dq.extBut _ _ Z.to1 (dB.extBut _ _ Z.toz fe)
   refine aa (cW fZ rfl (aa (wpAny_updateSeq_pair fZ fun g₃ gC dJ=>aa (wpAny_letGo (aj ?_)))))
   refine aa (aa (wpAny_onRaise ?q))
   change wpAny (model P w) A (Builtin.SmallTypes.nextOf (.ref i2)>>=_) _ _ _
   have jI:S2 k g₃:=R8 D2 (R8 D2 (R8 D2 h2 dB.extBut fun b hb=>(Z.f2 b hb).1) dq.extBut fun b hb=>(Z.f2 b hb).2.2) dJ.extBut fun b hb=>(Z.f2 b hb).2.1
   subst hk
   refine aa (D2.done _ _ _ jI fun g₄ e gJ he=>?_)
   obtain⟨oe,ie,jA⟩:=he
   have mz:IsZ g₄ z TI TO .ellipsis f:=gJ _ _ Z.i2z.symm (dJ.extBut _ _ Z.toz.symm (dq.extBut _ _ Z.i1z.symm fT))
   have lF:e≠z:=fun q=>by subst q;rw [mz]at ie;cases ie;simp at jA
   exact cg mz (by simp) fun g₅ _ gI=>hE g₅ _ e (fun c o c1 c2 c3 c4 x=>gI.extBut _ _ c1 (gJ _ _ c4 (dJ.extBut _ _ c2 (dq.extBut _ _ c3 (dB.extBut _ _ c1 x))))) ⟨oe,gI.extBut _ _ lF ie,jA⟩
 ·rw [ax (by decide)]
  refine aa ?_
  rw [<- Array.forIn_toList]
  rw [cL]
  refine aa (aa (bA ?_))
  change wpAny (model P w) A (Builtin.SmallTypes.nextOf (.ref i1)>>=fun x=>pure (some x)) _ _ _
  have jK:S1 k g₁:=R8 D1 h1 dB.extBut fun b hb=>(Z.f1 b hb).1
  rcases hk with hk | ⟨bZ,hk⟩
  ·subst hk
   exact aa (D1.done _ _ _ jK fun g₂ e dq he=>hE g₂ _ e (fun c o c1 _ c3 _ x=>dq _ _ c3 (dB.extBut _ _ c1 x)) he)
  ·refine aa (D1.item k _ _ _ bZ jK fun x g₂ kB px jJ dq=>aj (aj ?_))
   dsimp only
   rw [cL]
   refine aa (aa (bA ?_))
   change wpAny (model P w) A (Builtin.SmallTypes.nextOf (.ref i2)>>=fun x=>pure (some x)) _ _ _
   have m7:S2 k g₂:=R8 D2 (R8 D2 h2 dB.extBut fun b hb=>(Z.f2 b hb).1) dq.extBut fun b hb=>(Z.f2 b hb).2.2
   subst hk
   exact aa (D2.done _ _ _ m7 fun g₃ e dJ he=>hE g₃ _ e (fun c o c1 _ c3 c4 x=>dJ _ _ c4 (dq.extBut _ _ c3 (dB.extBut _ _ c1 x))) he)
theorem V1r {Q:Option Value->Shared->Prop} (Z:Q4c z TI TO i1 i2 gi gh) (D1:Draws P w A.in1 i1 gi n1 P1 S1) (D2:Draws P w A.in1 i2 gh n2 P2 S2) (hz:Z4 s.heap z TI TO) (fq:IsPair s.heap TI (.ref i1) (.ref i2)) (fe:IsPair s.heap TO a b) (h1:S1 k s.heap) (h2:S2 k s.heap) (l1:k<n1) (l2:k<n2)
  (hQ:∀h' tk x y,P1 k x->P2 k y->Z4 h' z TI TO->(∃a b,IsPair h' TO a b)->S1 (k+1) h'->S2 (k+1) h'->IsPair h' s.heap.objs.size x y->h'.objs.size=s.heap.objs.size+1->(∀c o,c≠z->c≠TO->c≠i1->c≠i2->s.heap.get? c=some o->h'.get? c=some o)->Q (some (.ref s.heap.objs.size)) { s with heap:=h',toks:=tk }) :
  wpAny (model P w) A (pyNext (.ref z)) Q E s:=by
 have hT:s.TypeIs (.ref z) "zip":=let ⟨_,_,q,_⟩:=hz;⟨_,q,rfl⟩
 unfold pyNext
 exact aa (wpAny_attempt (bY (name:=Str.ofString "__next__") hT F.slot_zip_next (bM F.slot_zip_next hT F.entry_zip_next
  (V1p Z D1 D2 hz fq fe h1 h2 l1 l2 fun h' tk x y a1 a2 a3 a4 a5 a6 a7 a8 a9=>aj (hQ h' tk x y a1 a2 a3 a4 a5 a6 a7 a8 a9)) (F.args_zip_next_1 _))))
theorem V1s {Q:Option Value->Shared->Prop} (Z:Q4c z TI TO i1 i2 gi gh) (D1:Draws P w A.in1 i1 gi n1 P1 S1) (D2:Draws P w A.in1 i2 gh n2 P2 S2) (hz:Z4 s.heap z TI TO) (fq:IsPair s.heap TI (.ref i1) (.ref i2)) (fe:IsPair s.heap TO a b) (h1:S1 k s.heap) (h2:S2 k s.heap) (hk:k=n1\/(k<n1/\k=n2))
  (hQ:∀h' tk,(∀c o,c≠z->c≠TO->c≠i1->c≠i2->s.heap.get? c=some o->h'.get? c=some o)->Q none { s with heap:=h',toks:=tk }):wpAny (model P w) A (pyNext (.ref z)) Q E s:=by
 have hT:s.TypeIs (.ref z) "zip":=let ⟨_,_,q,_⟩:=hz;⟨_,q,rfl⟩
 unfold pyNext
 refine aa (wpAny_attempt (bY (name:=Str.ofString "__next__") hT F.slot_zip_next (bM F.slot_zip_next hT F.entry_zip_next (V1o Z D1 D2 hz fq fe h1 h2 hk fun h' tk e kp he=>?_) (F.args_zip_next_1 _))))
 obtain⟨o,ho,hc⟩:=he
 exact aa (wpAny_isInstance (T:="StopIteration") (b:=true) ⟨o,ho,hc⟩ isSubtype_stop (aj (hQ _ _ kp)))
end
def ItB (b:Bool) (h:Heap) (i l:Addr) (k:Nat):Prop:=match b with | true=>h.IsTupleIter i l k | false=>h.IsListIter i l k
def ObB (b:Bool) (h:Heap) (l:Addr) (a:Array Value):Prop:=match b with | true=>h.IsTuple l a | false=>h.IsList l a
noncomputable def itO (b:Bool) (l:Addr):Obj:={ cls:=.type (match b with | true=>"tuple_iterator" | false=>"list_iterator"),data:=.fields #[.ref l,.int 0 0] }
section
variable {P:Program}{w:World}{A:Around}{E:VS9}{s:Shared}{b b1 b2:Bool}{h h' H1:Heap}{i l k:Addr}{n:Nat}{xs ys:List V}{as:Array Value}{K:Fg9}{H H':Hp}{X:Cx}{ae:Pn9} {σ:St}
theorem ItB.keep (t:ItB b h i l n) (k:∀o,h.get? i=some o->h'.get? i=some o):ItB b h' i l n:=by
 cases b <;> (obtain⟨o,e,r⟩:=t;exact⟨o,k o e,r⟩)
theorem ItB.obj (t:ItB b h i l n):∃o,h.get? i=some o/\∀v,o.data≠.cell v:=by
 cases b <;> (obtain⟨o,e,_,d⟩:=t;exact⟨o,e,fun v z=>by rw [d]at z;cases z⟩)
theorem ObB.keep (t:ObB b h l as) (k:∀o,h.get? l=some o->h'.get? l=some o):ObB b h' l as:=by
 cases b <;> (obtain⟨o,e,r⟩:=t;exact⟨o,k o e,r⟩)
theorem W0m {Q:VS9} (t:ObB b s.heap l as) (hQ:Q (.ref s.heap.objs.size) { s with heap:=s.heap.push (itO b l) }):wpAny (model P w) A (pyIter (.ref l)) Q E s:=by
 cases b
 ·exact wpAny_pyIter_list t hQ
 ·exact wpAny_pyIter_tuple t hQ
theorem W0l (e:h.get? i=some (itO b l)):ItB b h i l 0:=by cases b <;> exact⟨_,e,rfl,rfl⟩
end
theorem Y5u {P:Program}{w:World}{A:Around}{E:VS9}{s:Shared}{z TI TO:Addr}{Q:VS9} (hz:Z4 s.heap z TI TO) (hQ:Q (.ref z) s):wpAny (model P w) A (pyIter (.ref z)) Q E s:=by
 obtain⟨_,_,hz,_⟩:=hz
 have q:s.TypeIs (.ref z) "zip":=⟨_,hz,rfl⟩
 exact wpAny_pyIter_slot q F.slot_zip_iter (bM F.slot_zip_iter q F.entry_zip_iter (show wpAny _ _ (ret (.ref z)) _ _ s from aj ⟨_,rfl,"zip",_,q,F.slot_zip_next.lookup,hQ⟩) (F.args_zip_iter_1 _))
theorem V1q {P:Program}{w:World}{A:Around}{E:VS9}{s:Shared}{z TI TO T:Addr}{tg:Expr}{Q:Unit->Shared->Prop} (hz:Z4 s.heap z TI TO) (hQ:∀h',Z4 h' z TI TO->Heap.SameBut z s.heap h'->Q () { s with heap:=h' }) :
  wpAny (model P w) A (letOwnedTupleGo tg (.ref z) (.ref T)) Q E s:=by
 have no:Q () s:=hQ s.heap hz (Heap.SameBut.refl _ _)
 have yes:wpAny (model P w) A (load z>>=fun o=>match o.cls,o.data with
  | .type n,.fields vs=>if (["enumerate","zip","dict_itemiterator","dict_reverseitemiterator","odict_iterator","itertools.zip_longest","itertools.pairwise"].contains n&&vs[0]?==some (rawInt T))=true then(do rule "for.unpacks-the-owned-tuple";updateField z 0 .none)else pure ()
  | _,_=>pure ()) Q E s:=by
  obtain⟨f0,f,hz,_⟩:=id hz
  refine aa (wpAny_load hz ?_)
  dsimp only
  split
  ·refine aa (wpAny_rule ?_)
   show wpAny _ _ (setField (.ref z) 0 .none) Q E s
   exact cg hz (by simp) fun h' iR fW=>hQ h' ⟨_,_,iR,.inl rfl⟩ fW
  ·exact aj no
 unfold letOwnedTupleGo
 cases tg <;> first | exact yes | exact aj no
section
variable {P:Program}{w:World}{A:Around}{E:VS9}{s:Shared}{b1 b2:Bool}{z TI TO i1 i2 l1 l2:Addr}{xs ys:Array Value}
end
section
variable {X:Cx}{H0:Hp}{a b:Expr}{p p2 pos dP:Pos}{wr:WA}
end
section
variable {X:Cx}{H0:Hp}{tg e:Expr}
noncomputable def jOr (a b:Q8):Q8:=fun τ Q=>a τ Q\/b τ Q
def iOr (a b:WI):WI:=fun τ Q=>a τ Q\/b τ Q
theorem F3.or {a b:Q8} (h1:F3 X H0 tg e a) (h2:F3 X H0 tg e b):F3 X H0 tg e (jOr a b) where
 mono:=fun τ P Q f h=>h.elim (fun h=>.inl (h1.mono τ P Q f h)) fun h=>.inr (h2.mono τ P Q f h)
 pi:=fun ae s σ H R I h=>by
  obtain⟨τ,hR,h | h⟩:=h
  ·exact h1.pi ae s σ H R I ⟨τ,hR,h⟩
  ·exact h2.pi ae s σ H R I ⟨τ,hR,h⟩
theorem DI.or {a b:WI} (h1:DI X H0 tg e a) (h2:DI X H0 tg e b):DI X H0 tg e (iOr a b) where
 mono:=fun τ P Q f h=>h.elim (fun h=>.inl (h1.mono τ P Q f h)) fun h=>.inr (h2.mono τ P Q f h)
 pi:=fun ae s σ H R I h=>by
  obtain⟨τ,hR,h | h⟩:=h
  ·exact h1.pi ae s σ H R I ⟨τ,hR,h⟩
  ·exact h2.pi ae s σ H R I ⟨τ,hR,h⟩
end
section
variable {X:Cx}{H0:Hp}{o e f v b:Expr}{pos bB apos bC sp p1 p2:Pos}{we wf wv w1 w2:WE}{i:Nat}
end
section
variable {X:Cx}{H0:Hp}
def Q3s (rs:List R) (Q:R->Prop):Prop:=∃i j:Int,rs=[.st (.int i),.st (.int j)]/\Q (.st (.int (if j<i then j else i)))
theorem W2i:Q1a Q3s:=fun rs P Q f ⟨i,j,e,h⟩=>⟨i,j,e,f _ h⟩
theorem Y7p (hc:X.calm=true):Q0y X (.builtin "min") Q3s:=by
 intro ae s σ H xs us Q I rv ⟨rs,cu,i,j,e,h⟩
 subst e
 obtain⟨v,t,rfl,iv,v',t',rfl,kY,et⟩:=cu
 cases (show t'=[]from et)
 cases (show v=.int i from iv)
 cases (show v'=.int j from kY)
 obtain⟨u,u',rfl,⟨t1,rfl⟩,⟨t2,rfl⟩⟩:=Z5l rv
 refine min_two_ints (I.ok.hd hc) fun h' tk k=>⟨_,H,I.kept (t':=tk) k,?_,h _ _ (A6.refl H) V6⟩
 by_cases bZ:j<i
 ·rw [aC bZ,aC bZ];exact⟨_,rfl⟩
 ·rw [ax bZ,ax bZ];exact⟨_,rfl⟩
@[simp] theorem Y2w {a b:Int}{Q:R->Prop}:Q3s [.st (.int a),.st (.int b)] Q ↔ Q (.st (.int (if b<a then b else a))):=by
 constructor
 ·rintro ⟨i,j,e,h⟩;cases e;exact h
 ·intro h;exact⟨a,b,rfl,h⟩
end
end TK
end
section
namespace HT
open PySem PySem.Spec PyProof.Rows
open AutoSeq1 (wpAny_loadPart')
section
variable {prog:Program}{w:World}{A:Around}{E:VS9}{s:Shared}
end
end HT
namespace TK
open PySem PySem.Spec PyProof.Rows L2
section
variable {X:Cx}
end
end TK
end
section
namespace TK
open PySem PySem.Spec PyProof.Rows L2
noncomputable def Z5g:List Nat->List (List Nat)
 | []=>[[]]
 | x::xs=>Z5g xs++(Z5g xs).map (x::·)
noncomputable def S7:List (List Nat):=Z5g [0,1,2,3]
noncomputable def Q1 (S:List Nat) (led:Bool):SetTable:={ mask:=7,place:=S.toArray,dummies:=#[],finger:=0,led:=led,moves:=0,plain:=true }
noncomputable def E5 (tk:Nat->Tok) (S:List Nat):Array (Int×Value):=(S.map fun(i:Nat)=>((i:Int),Value.int (i:Int) (tk i))).toArray
noncomputable abbrev Q0e (S:List Nat) (tk:Nat->Tok) (ep:Nat) (led:Bool):Obj:={ cls:=.type "set",dict:=none,data:=.set (E5 tk S) ep (Q1 S led) }
noncomputable def inS (i:Nat) (S:List Nat):List Nat:=S.take (SetTable.below S.toArray i)++i::S.drop (SetTable.below S.toArray i)
noncomputable def adS (i:Nat) (S:List Nat):List Nat:=if i∈S then S else inS i S
structure Sm (S:List Nat) (led:Bool):Prop where
 add:∀i∈[0,1,2,3],adS i S∈S7/\(i∉S->(Q1 S led).freeSlot (i:Int)=some (i,false))/\(∀j∈[0,1,2,3],(j∈adS i S ↔ j=i\/j∈S))
 few:(Q1 S led).tooFull=false
 fits:(Q1 S led).fits S.length=true
 len:S.length<=4
 ord:S.Pairwise (·<·)
 lt:∀j∈S,j<4
 nxt:∀k,k<S.length->SetTable.below S.toArray (S.getD k 0+1)=k+1
 zero:SetTable.below S.toArray 0=0
theorem X7 {S:List Nat} (h:S∈S7) (led:Bool):Sm S led:=by
 have key:∀S∈S7,∀led:Bool,(∀i∈[0,1,2,3],adS i S∈S7/\(i∉S->(Q1 S led).freeSlot (i:Int)=some (i,false))/\(∀j∈[0,1,2,3],(j∈adS i S ↔ j=i\/j∈S)))
 /\(Q1 S led).tooFull=false/\(Q1 S led).fits S.length=true/\S.length<=4/\S.Pairwise (·<·)/\(∀j∈S,j<4)/\(∀k,k<S.length->SetTable.below S.toArray (S.getD k 0+1)=k+1)/\SetTable.below S.toArray 0=0:=by decide +kernel
 obtain⟨a,b,c,d,e,f,g,i⟩:=key S h led
 exact⟨a,b,c,d,e,f,g,i⟩
theorem lt4 {i:Nat} (h:i<4):i∈[0,1,2,3]:=by
 rcases (show i=0\/i=1\/i=2\/i=3 by omega)with rfl | rfl | rfl | rfl <;> decide
theorem Z2m {i:Nat} (h:i<4):hashInt (i:Int)=i:=by
 rcases (show i=0\/i=1\/i=2\/i=3 by omega)with rfl | rfl | rfl | rfl <;> decide +kernel
theorem W0 (tk:Nat->Tok) (S:List Nat):(E5 tk S).size=S.length:=by simp [E5]
theorem Y0d {α:Type} (l:List α) (p:Nat) (x:α):SetTable.insertAt l.toArray p x=(l.take p++x::l.drop p).toArray:=by
 unfold SetTable.insertAt
 apply Array.toList_inj.mp
 simp
 rw [gk (by simp)]
section
variable {prog:Program}{w:World}{A:Around}{E:VS9}{s:Shared}{S:List Nat}{tk:Nat->Tok}{ep:Nat}{led:Bool}{a:Addr}
theorem W8r (h:S∈S7):ElemsOf (intKind prog w) (E5 tk S).toList:=by
 intro e he
 simp only [E5,ah]at he
 obtain⟨i,hi,rfl⟩:=he
 have:=(X7 h true).lt i hi
 exact⟨⟨(i:Int),intKind_is _ _ _ _,(Z2m this).symm⟩,rfl⟩
theorem W8s {S:List Nat}{i:Nat}{t:Tok} (hi:i∉S):SetTable.insertAt (E5 tk S) (SetTable.below S.toArray i) ((i:Int),Value.int (i:Int) t)=E5 (fun j=>if j=i then t else tk j) (inS i S):=by
 unfold E5 inS
 rw [Y0d]
 congr 1
 rw [aY,au,List.map_take,List.map_drop]
 dsimp only
 rw [aC rfl]
 have:(S.map fun(j:Nat)=>((j:Int),Value.int (j:Int) (tk j)))=S.map fun(j:Nat)=>((j:Int),Value.int (j:Int) (if j=i then t else tk j)):=bb fun j hj=>by rw [ax (show ¬ j=i from fun z=>hi (z ▸ hj))]
 rw [this]
theorem W1g {i:Nat}{t:Tok} (h:S∈S7) (jx:i<4) (hi:i∉S):layNew (Q1 S led) (E5 tk S) (i:Int) (Value.int (i:Int) t)=(E5 (fun j=>if j=i then t else tk j) (inS i S),Q1 (inS i S) led,false,false):=by
 have F:=X7 h led
 obtain⟨h1,h2,_⟩:=F.add i (lt4 jx)
 have e1:(Q1 S led).put i=(Q1 (inS i S) led,SetTable.below S.toArray i):=by
  unfold SetTable.put
  show(({ (Q1 S led)with place:=SetTable.insertAt S.toArray (SetTable.below S.toArray i) i,dummies:=if SetTable.has #[] i then _ else #[] }:SetTable),SetTable.below S.toArray i)=_
  rw [Y0d,ax (by simp [SetTable.has])];rfl
 unfold layNew
 rw [h2 hi]
 dsimp only
 rw [e1]
 dsimp only
 rw [W8s hi]
 have h1:inS i S∈S7:=by unfold adS at h1;rw [ax hi]at h1;exact h1
 have hf:=(X7 h1 led).fits
 unfold SetTable.orStandIn
 rw [W0,aC hf,hf];rfl
theorem Y9r {i:Nat} (hi:i∉S):(E5 tk S).toList.findIdx? (fun e=>(intKind prog w).is (i:Int) e.2)=none:=by
 rw [List.findIdx?_eq_none_iff]
 intro e he
 simp only [E5,ah]at he
 obtain⟨j,hj,rfl⟩:=he
 cases q:(intKind prog w).is (i:Int) (Value.int (j:Int) (tk j))with
 | false=>rfl
 | true =>
  have:=(intKind prog w).inj _ _ _ q (intKind_is _ _ (j:Int) (tk j))
  have:i=j:=by omega
  exact absurd (this ▸ hj) hi
theorem Y9s {i:Nat} (hi:i∈S):∃j,(E5 tk S).toList.findIdx? (fun e=>(intKind prog w).is (i:Int) e.2)=some j:=by
 cases q:(E5 tk S).toList.findIdx? (fun e=>(intKind prog w).is (i:Int) e.2)with
 | some j=>exact⟨j,rfl⟩
 | none =>
  have:=List.findIdx?_eq_none_iff.mp q ((i:Int),Value.int (i:Int) (tk i)) (by simp only [E5,ah];exact⟨i,hi,rfl⟩)
  rw [show(intKind prog w).is (i:Int) (Value.int (i:Int) (tk i))=true from intKind_is _ _ _ _]at this
  cases this
theorem W8v {i:Nat}{t:Tok}{Q:Bool->Shared->Prop} (h:S∈S7) (jx:i<4) (ho:s.heap.get? a=some (Q0e S tk ep led))
  (hq:∀b h' jU j1,Heap.SameBut a s.heap h'->h'.get? a=some (Q0e (adS i S) jU j1 led)->Q b { s with heap:=h' }) :
  wpAny (model prog w) A (setAddHashed a (Value.int (i:Int) t) (i:Int)) Q E s:=by
 have mP:ElemsOf (intKind prog w) (E5 tk S).toList:=W8r h
 have F:=X7 h led
 have hf:(Q1 S led).fits (E5 tk S).size=true:=by rw [W0];exact F.fits
 have hb:(E5 tk S).size<scanBound:=by rw [W0];have:=F.len;unfold scanBound;omega
 have hk:=intKind_is prog w (i:Int) t
 unfold setAddHashed setAddHashedIn
 refine bA (aa (dX ho rfl hf ?_))
 dsimp only
 rw [byScan_of (knd:=intKind prog w) rfl hb mP]
 simp only [↓reduceIte]
 unfold setAddByScan
 refine aa (aa (wpAny_rule ?_))
 have hh:(i:Int)=(intKind prog w).hash (i:Int):=(Z2m jx).symm
 rw [show setScan a (Value.int (i:Int) t) (i:Int) true (E5 tk S)=setScan a (Value.int (i:Int) t) ((intKind prog w).hash (i:Int)) true (E5 tk S)by rw [<- hh]]
 refine aa (wpAny_setScan_of hk ho rfl hf mP ?_)
 by_cases hi:i∈S
 ·obtain⟨j,ej⟩:=Y9s (prog:=prog) (w:=w) (tk:=tk) hi
  rw [ej]
  refine aj (aj ?_)
  refine hq _ s.heap tk ep (Heap.SameBut.refl a s.heap) ?_
  rw [adS,aC hi];exact ho
 ·rw [Y9r hi]
  dsimp only
  rw [W1g h jx hi]
  dsimp only
  have eQ:inS i S∈S7:=by have:=(F.add i (lt4 jx)).1;unfold adS at this;rw [ax hi]at this;exact this
  have F2:=X7 eQ led
  refine aa (aj ?_)
  rw [aC (show(Q1 (inS i S) led).plain=true from rfl),hashByValue_scannable 8 rfl]
  refine aa (aj ?_)
  rw [aC (show plainKind (Value.int (i:Int) t)=true from rfl)]
  have hz:(E5 (fun j=>if j=i then t else tk j) (inS i S)).size<=sizeLine:=by rw [W0];have:=F2.len;rw [fH];omega
  refine aa (wpAny_storeSet_of ho rfl ?_ hz)
  rw [ax (by rw [F2.few];simp)]
  refine aj (aj ?_)
  refine hq _ _ (fun j=>if j=i then t else tk j) (ep+1) (di s.heap a _) ?_
  rw [eU _ ho (by rw [putSet_of _ _ rfl];rfl),putSet_of _ _ rfl,adS,ax hi]
end
def Q0z (h:Heap) (a:Addr) (led:Bool) (val:Nat->Nat) (i:Nat):Prop:=∃S tk ep,S∈S7/\h.get? a=some (Q0e S tk ep led)/\∀x,x∈S ↔ ∃j,j<i/\val j=x
theorem Q0z.step {h h':Heap}{a:Addr}{led:Bool}{val:Nat->Nat}{i:Nat}{S:List Nat}{tk:Nat->Tok}{ep:Nat} (hS:S∈S7) (hm:∀x,x∈S ↔ ∃j,j<i/\val j=x) (h4:val i<4) (e0:h'.get? a=some (Q0e (adS (val i) S) tk ep led)):Q0z h' a led val (i+1):=by
 have F:=X7 hS led
 obtain⟨h1,_,h3⟩:=F.add (val i) (lt4 h4)
 refine⟨_,_,_,h1,e0,fun x=>?_⟩
 have:x∈adS (val i) S ↔ x=val i\/x∈S:=by
  by_cases hx:x<4
  ·exact h3 x (lt4 hx)
  ·constructor
   ·intro z;exact absurd ((X7 h1 led).lt x z) hx
   ·rintro (z | z)
    ·rw [z]at hx;exact absurd h4 hx
    ·exact absurd (F.lt x z) hx
 rw [this,hm x]
 constructor
 ·rintro (rfl | ⟨j,hj,e⟩)
  ·exact⟨i,cC _,rfl⟩
  ·exact⟨j,bu hj,e⟩
 ·rintro ⟨j,hj,e⟩
  rcases aW j i with z | z
  ·exact .inr ⟨j,z,e⟩
  ·have:j=i:=by omega
   subst this;exact .inl e.symm
section
variable {prog:Program}{w:World}{A:Around}{R:Result->Shared->Prop}{I:Addr}{fp wr:List Addr}{G:Array GenState->Array GenState->Prop}{n:Nat}{P:Nat->Value->Prop}{St:Nat->Shared->Prop}
theorem W8w (W:WalksS prog w A.in1 I fp wr G n P St) (Sa:Addr) (kq:Sa∉fp) (val:Nat->Nat) (led:Bool) (l7:∀i v,P i v->i<n->∃t,v=.int (val i:Int) t) (h4:∀i,i<n->val i<4) :
  ∀(k i:Nat) (s:Shared),n-i=k->i<=n->St i s->Q0z s.heap Sa led val i->(∀s',Moved (Sa::wr) G s s'->Q0z s'.heap Sa led val n->R (.ok (.ret .none)) s') ->
   codeAny (model prog w) A (.builtin "set.update.loop" ⟨[.ref Sa,.ref I],[]⟩) R s:=by
 have mU:Sa∉wr:=fun h=>kq (W.sub _ h)
 have hsub:∀b∈wr,b∈Sa::wr:=fun b hb=>ai _ hb
 intro k
 induction k with
 | zero =>
  intro i s hk hi ic hS hR
  have eQ:i=n:=by omega
  subst eQ
  refine codeAny_builtin PyProof.Rows.F.entry_set_update_loop ?_
  rw [Around.under_plainId ku _]
  change wpAny _ A.in1 (pyNext (.ref I)>>=_) _ _ s
  refine aa (W.done s _ _ ic fun s' hm=>?_)
  change wpAny _ A.in1 (ret Value.none) _ _ s'
  refine aj (hR s' (hm.mono hsub) ?_)
  obtain⟨S,tk,ep,h1,h2,h3⟩:=hS
  exact⟨S,tk,ep,h1,hm.heap Sa _ mU h2,h3⟩
 | succ k ih =>
  intro i s hk hi ic hS hR
  have bZ:i<n:=by omega
  refine codeAny_builtin PyProof.Rows.F.entry_set_update_loop ?_
  rw [Around.under_plainId ku _]
  change wpAny _ A.in1 (pyNext (.ref I)>>=_) _ _ s
  refine aa (W.item i s _ _ bZ ic fun v s' hP lc hm=>?_)
  obtain⟨t,rfl⟩:=l7 i v hP bZ
  obtain⟨S,tk,ep,h1,h2,h3⟩:=hS
  have h2:=hm.heap Sa _ mU h2
  change wpAny _ A.in1 (holding [Value.int (val i:Int) t] (setAdd Sa (.int (val i:Int) t))>>=_) _ _ s'
  refine aa (bA ?_)
  unfold setAdd
  refine bA (aa ((intKind prog w).pyHash (k:=(val i:Int)) (intKind_is _ _ _ _) ?_))
  rw [show(intKind prog w).hash (val i:Int)=(val i:Int)from Z2m (h4 i bZ)]
  refine W8v (s:={ s' with toks:=s'.toks+1 }) h1 (h4 i bZ) h2 fun b h' jU j1 jn e=>?_
  refine aj ⟨plainId_quiet ku _,ih (i+1) _ (by omega) bZ (W.frame _ s' _ _ lc (dn _) fun b hb o e=>?_) (Q0z.step (h:=s'.heap) h1 h3 (h4 i bZ) e) fun ja lv lS=>?_⟩
  ·rw [jn.2 b (fun h:b=Sa=>kq (by rw [<- h];exact hb))];exact e
  ·refine hR ja (Moved.trans W.gtrans ((hm.mono hsub).then_heap (dn _) fun b o hb e=>?_) lv) lS
   rw [jn.2 b (fun h:b=Sa=>hb (by rw [h];exact am))];exact e
end
theorem Q0z.none (led:Bool) (val:Nat->Nat) {h:Heap}{a:Addr} (e:h.get? a=some { cls:=.type "set",dict:=none,data:=.set #[] 0 (.fresh 0 0 led) }):Q0z h a led val 0 :=
 ⟨[],fun _=>0,0,by decide,e,fun x=>⟨fun z=>(by cases z),fun⟨j,hj,_⟩=>absurd hj (Nat.not_lt_zero _)⟩⟩
noncomputable abbrev G8 (w:World):Bool:=!(w.params.followText "set-order")
section
variable {prog:Program}{w:World}{A:Around}{E:VS9}{s:Shared}
theorem W8t (a:Value) {Q₁:VS9} (h:Q₁ (.ref s.heap.objs.size) { s with heap:=s.heap.push { cls:=.type "set",dict:=none,data:=.set #[] 0 (.fresh 0 0 (G8 w)) } }) :
  codeAny (model prog w) A (.call (.builtin "set.__new__") ⟨[.type "set",a],[]⟩) (wants Q₁ E) s:=by
 refine codeAny_of_tree ?_
 change wpAny _ A.in1 (do checkBuiltinCall "set.__new__" ⟨[.type "set",a],[]⟩;again (.builtin "set.__new__" ⟨[.type "set",a],[]⟩)) _ _ s
 refine aa (wpAny_of_eq (PySem.F.newCall_set_1 a) (aj ⟨plainId_quiet PySem.F.plain_set_new _,codeAny_builtin PySem.F.entry_set_new ?_⟩))
 rw [Around.under_plainId PySem.F.plain_set_new _]
 unfold Builtin.«set.__new__» Builtin.Frozenset.newClass
 have hsub:=sub_set_self
 obtain⟨hp,g,d,tk,os⟩:=s
 dsimp only
 wp_walk
 refine wpAny_askSetting (aj ?_)
 dsimp only
 simp only [newObj]
 exact aa (wpAny_alloc (aj (aj h)))
theorem W8u {l:Addr}{items:Array Value}{ns:List Nat}{Q:VS9} (hh:A.handled=none) (hl:s.heap.IsList l items) (hi:∀(i:Nat) (v:Value),items[i]?=some v->∃t:Tok,v=Value.int ((ns.getD i 0:Nat):Int) t) (hn:items.size=ns.length) (h4:∀x∈ns,x<4)
  (h:∀(h':Heap) (tk:Nat),Q0z h' s.heap.objs.size (G8 w) (fun i=>ns.getD i 0) ns.length->(∀b o,b<s.heap.objs.size->s.heap.get? b=some o->h'.get? b=some o)->Q (.ref s.heap.objs.size) { s with heap:=h',toks:=tk }) :
  wpAny (model prog w) A (call (.type "set") [.ref l]) Q E s:=by
 obtain⟨c,tl,p7⟩:=c8.mro
 have mJ:=c8.made
 have hsub:=c8.sub
 refine wpAny_call (codeAny_of_tree ?_)
 change wpAny _ _ (callAny (.type "set") _) _ _ _
 refine aj ⟨Code.quiet_builtin _ (by decide +kernel),codeAny_builtin PySem.F.entry_type_call ?_⟩
 rw [Around.under_plain (weight_type_call_type "set" [.ref l] []) rfl]
 have h1:=c8.notType
 have h2:=c8.canCreate
 have qF:=PySem.F.typeCall_set_1 (.ref l)
 repeat (any_goals (first | assumption | wp_step))
 refine codeAny_mono (W8t (.ref l) (E:=E) (Q₁:=fun obj s₁=>obj=.ref s.heap.objs.size/\s₁={ s with heap:=s.heap.push { cls:=.type "set",dict:=none,data:=.set #[] 0 (.fresh 0 0 (G8 w)) } }) ⟨rfl,rfl⟩) fun r s₁ hr=>?_
 cases r with
 | error e=>exact hr
 | ok fl =>
  cases fl with
  | ret obj =>
   obtain⟨rfl,rfl⟩:=hr
   have hS:(s.heap.push { cls:=.type "set",dict:=none,data:=.set #[] 0 (.fresh 0 0 (G8 w)) }).get? s.heap.objs.size=some { cls:=.type "set",dict:=none,data:=.set #[] 0 (.fresh 0 0 (G8 w)) }:=aH _ rfl
   have hT:Shared.TypeIs { s with heap:=s.heap.push { cls:=.type "set",dict:=none,data:=.set #[] 0 (.fresh 0 0 (G8 w)) } } (.ref s.heap.objs.size) "set":=⟨_,hS,rfl⟩
   have iX:=c8.init.lookup
   have qG:=c8.init.bind (.ref s.heap.objs.size)
   repeat (any_goals (first | assumption | wp_step))
   refine codeAny_mono (codeAny_call_builtin (R:=wants (fun r s₂=>r=.none/\∃h' tk,s₂={ s with heap:=h',toks:=tk }/\Q0z h' s.heap.objs.size (G8 w) (fun i=>ns.getD i 0) ns.length /\
     (∀b o,b<s.heap.objs.size->s.heap.get? b=some o->h'.get? b=some o)) E) c8.init.plain PySem.F.entry_set_init (check_set_init_1 hT ?_)) fun r₂ s₂ lg=>?_
   ·obtain⟨ol,iV,gA,nl,j0⟩:=hl
    obtain⟨nT,je,mq,i9⟩:=ol
    simp only at gA j0
    subst gA;subst j0
    have lm:(s.heap.push { cls:=.type "set",dict:=none,data:=.set #[] 0 (.fresh 0 0 (G8 w)) }).get? l=some { cls:=.type "list",dict:=je,data:=.seq items nl,slots:=i9 }:=af _ iV
    have oP:=PySem.F.sub_list_set
    have oQ:=PySem.F.sub_list_frozenset
    have cy:(Value.type "list"==Value.type "dict")=false:=by decide
    have mL:(s.heap.push { cls:=.type "set",dict:=none,data:=.set #[] 0 (.fresh 0 0 (G8 w)) }).IsList l items:=⟨_,lm,rfl,nl,rfl⟩
    unfold Builtin.«set.__init__» noKeywords Builtin.Frozenset.updateFrom
    generalize hPI:pyIter=PI
    wp_walk
    subst hPI
    refine wpAny_pyIter_list mL ?_
    refine aa (wpAny_runValue ?_)
    have mK:l<s.heap.objs.size:=ay iV
    have pA:A.in1.in1.in1.handled=none:=by simp [hh]
    have lp:l≠(s.heap.push { cls:=.type "set",dict:=none,data:=.set #[] 0 (.fresh 0 0 (G8 w)) }).objs.size:=by
     rw [bz];exact aD (bu mK)
    have kq:s.heap.objs.size∉[(s.heap.push { cls:=.type "set",dict:=none,data:=.set #[] 0 (.fresh 0 0 (G8 w)) }).objs.size,l]:=by
     rw [bz];simp only [av,aI,aO,bO,not_or]
     exact⟨aD (cC _),Nat.ne_of_gt mK⟩
    rw [<- hn]
    refine W8w ((Walks.list pA _ l lp items).toS) s.heap.objs.size kq (fun i=>ns.getD i 0) (G8 w) (fun i v hv _=>hi i v hv) (fun i fA=>?_) (items.size-0) 0 _ (by omega) (bi _)
     ⟨⟨_,aH _ rfl,rfl,rfl⟩,(mL.push _)⟩ (Q0z.none _ _ (af _ hS)) fun s' hm lT=>?_
    ·have:i<ns.length:=by omega
     rw [ar,ab this]
     exact h4 _ (bR this)
    ·obtain⟨h',g',d',jU,kL⟩:=s'
     have eg:g'=s.gens:=hm.gens
     have ed:d'=s.drawn:=hm.drawn
     have eo:kL=s.os:=hm.os
     subst eg;subst ed;subst eo
     show wpAny _ _ _ _ _ _
     refine aj ?_
     change wpAny _ _ (ret Value.none) _ _ _
     refine aj ⟨rfl,h',jU,rfl,lT,fun b o hb e=>?_⟩
     have iH:b≠s.heap.objs.size:=aD hb
     have kn:b≠(s.heap.push { cls:=.type "set",dict:=none,data:=.set #[] 0 (.fresh 0 0 (G8 w)) }).objs.size:=by
      rw [bz];exact aD (bu hb)
     exact hm.heap b o (by simp only [av,aI,aO,bO,not_or];exact⟨iH,kn⟩) (af _ (af _ e))
   ·cases r₂ with
    | error e=>exact lg
    | ok fl₂ =>
     cases fl₂ with
     | ret r =>
      obtain⟨rfl,h',tk,rfl,lT,eB⟩:=lg
      repeat (any_goals (first | assumption | wp_step))
      exact h _ _ lT eB
     | _=>exact lg.elim
  | _=>exact hr.elim
end
theorem Z9k {α:Type}:∀(l:List α) (i:Nat) (h:i<l.length),(l[i]::l.eraseIdx i).Perm l
 | [],i,h=>absurd h (Nat.not_lt_zero _)
 | x::l,0,_=>List.Perm.refl _
 | x::l,i+1,h=>by
  have ih:=Z9k l i (by simpa using h)
  exact(List.Perm.swap x _ _).trans (ih.cons x)
theorem Y1x {α:Type} (next:Nat->Nat):∀(gD k:Nat) (left:List α) (out:Array α),left.length=gD->(pickOrder.go next gD k left out).toList.Perm (out.toList++left)
 | 0,k,left,out,h=>by
  rw [cj.mp h,aX]
  unfold pickOrder.go;exact List.Perm.refl _
 | gD+1,k,left,out,h=>by
  have hm:next k % left.length<left.length:=Nat.mod_lt _ (by omega)
  unfold pickOrder.go
  rw [ab hm]
  dsimp only
  refine(Y1x next gD (k+1) _ _ (by rw [List.length_eraseIdx,aC hm];omega)).trans ?_
  rw [Array.toList_push,bI]
  refine List.Perm.append_left _ ?_
  exact Z9k _ _ hm
theorem Y1y {α:Type} (next:Nat->Nat) (xs:Array α):(pickOrder next xs).toList.Perm xs.toList:=by
 have:=Y1x next xs.size 0 xs.toList #[] (by simp)
 simpa [pickOrder]using this
noncomputable def X4 (w:World) (a:Addr) (ep:Nat) (es:Array (Int×Value)):Array (Int×Value):=if w.params.followText "set-order"=true then pickOrder (w.params.setOrder a ep) es else es
theorem Y1q (w:World) (a:Addr) (ep:Nat) (es:Array (Int×Value)):(X4 w a ep es).toList.Perm es.toList:=by
 unfold X4
 split
 ·exact Y1y _ _
 ·exact List.Perm.refl _
noncomputable def P0 (w:World) (S:List Nat) (i:Nat):Nat:=if w.params.followText "set-order"=true then 0 else if i=0 then 0 else S.getD (i-1) 0+1
def Q1u (w:World) (S:List Nat) (h:Heap) (it a:Addr) (ep i:Nat):Prop:=∃o,h.get? it=some o/\o.cls=.type "set_iterator"/\o.data=.fields #[rawInt (P0 w S i),rawInt i,.ref a,rawInt S.length,rawInt ep]
theorem Q1u.typeIs {w:World}{S:List Nat}{s:Shared}{it a:Addr}{ep i:Nat} (h:Q1u w S s.heap it a ep i):s.TypeIs (.ref it) "set_iterator":=let ⟨o,ho,hc,_⟩:=h;⟨o,ho,hc⟩
theorem Q5c:Slot "set_iterator" "__next__" "set_iterator.__next__" :=
 .of (owner:="set_iterator") (n:="__next__") (by rw [typeLookup_type,builtinLookup_eq_fast];kernel_rfl) (by decide +kernel) (by decide +kernel) (by decide +kernel) (by first | exact .inl (by decide +kernel) | exact .inr (by decide +kernel)) (by rw [isSubtype_type];kernel_rfl)
theorem Y4c:Slot "set_iterator" "__iter__" "set_iterator.__iter__" :=
 .of (owner:="set_iterator") (n:="__iter__") (by rw [typeLookup_type,builtinLookup_eq_fast];kernel_rfl) (by decide +kernel) (by decide +kernel) (by decide +kernel) (by first | exact .inl (by decide +kernel) | exact .inr (by decide +kernel)) (by rw [isSubtype_type];kernel_rfl)
theorem Z9j:entryFor table "set_iterator.__next__"=some Builtin.«set_iterator.__next__»:=entryFor_of_tree (by kernel_rfl)
theorem Y8t:entryFor table "set_iterator.__iter__"=some Builtin.«dict_keyiterator.__iter__»:=entryFor_alias (id':="dict_keyiterator.__iter__") (by kernel_rfl) rfl (by decide +kernel) (by kernel_rfl)
theorem Y8s:entryFor table "set.__iter__"=some Builtin.«frozenset.__iter__»:=entryFor_alias (id':="frozenset.__iter__") (by kernel_rfl) rfl (by decide +kernel) (by kernel_rfl)
theorem Z7w (a:Value):argsOk "set_iterator.__next__" ⟨[a],[]⟩:=by unfold argsOk;kernel_rfl
theorem Y6t (a:Value):argsOk "set_iterator.__iter__" ⟨[a],[]⟩:=by unfold argsOk;kernel_rfl
section
variable {prog:Program}{w:World}{A:Around}{E:VS9}{s:Shared}{S:List Nat}{tk:Nat->Tok}{ep:Nat}{a it:Addr}
theorem Q6b {Q:Bool->Shared->Prop} (h:Q (w.params.followText "set-order") s):wpAny (model prog w) A setsByText Q E s:=by
 unfold setsByText
 exact aa (wpAny_askSetting (aj h))
theorem W0n {Q:VS9} (hS:S∈S7) (ho:s.heap.get? a=some (Q0e S tk ep (G8 w)))
  (h:Q (.ref s.heap.objs.size) { s with heap:=s.heap.push { cls:=.type "set_iterator",data:=.fields #[rawInt 0,rawInt 0,.ref a,rawInt S.length,rawInt ep] } }):wpAny (model prog w) A (pyIter (.ref a)) Q E s:=by
 have F:=X7 hS (G8 w)
 have hf:(Q1 S (G8 w)).fits (E5 tk S).size=true:=by rw [W0];exact F.fits
 have hT:s.TypeIs (.ref a) "set":=⟨_,ho,rfl⟩
 refine wpAny_pyIter_slot hT PySem.F.slot_set_iter (bM PySem.F.slot_set_iter hT Y8s ?_ (PySem.F.args_set_iter_1 _))
 unfold Builtin.«frozenset.__iter__»
 change wpAny _ _ (Builtin.Frozenset.sizeOf a>>=_) _ _ s
 unfold Builtin.Frozenset.sizeOf
 refine aa (aa (wpAny_setEntries_of ho rfl hf (aj ?_)))
 unfold setDrawn
 refine aa (aa (dX ho rfl hf (aa (Q6b (aj ?_)))))
 dsimp only
 rw [ax (by
  show ¬ (!(w.params.followText "set-order")&&(!true&&decide ((E5 tk S).size > 1)))=true
  simp)]
 refine aa (aj ?_)
 refine aa (wpAny_setEpoch_of ho rfl hf ?_)
 refine aa (bF (aj ⟨_,rfl,"set_iterator",_,⟨_,aH _ rfl,rfl⟩,Q5c.lookup,?_⟩))
 rw [W0]
 exact h
end
section
variable {prog:Program}{w:World}{A:Around}{E:VS9}{s:Shared}{S:List Nat}{tk:Nat->Tok}{ep:Nat}{a it:Addr}
theorem Y3v {i:Nat} (h:i<S.length):(E5 tk S)[i]?=some ((S.getD i 0:Int),Value.int (S.getD i 0:Int) (tk (S.getD i 0))):=by
 unfold E5
 rw [List.getElem?_toArray,ak,ar,ab h];rfl
theorem W3c {i:Nat}{Q:Option (Value×Nat)->Shared->Prop} (hS:S∈S7) (ho:s.heap.get? a=some (Q0e S tk ep (G8 w))) (hi:i<S.length)
  (h:∀e,(X4 w a ep (E5 tk S))[i]?=some e->Q (some (e.2,P0 w S (i+1))) s):wpAny (model prog w) A (setNext a (P0 w S i) i ep) Q E s:=by
 have F:=X7 hS (G8 w)
 have hf:(Q1 S (G8 w)).fits (E5 tk S).size=true:=by rw [W0];exact F.fits
 unfold setNext
 refine aa (dX ho rfl hf ?_)
 dsimp only
 refine aa (Q6b ?_)
 cases hb:w.params.followText "set-order" with
 | true =>
  rw [aC rfl,ax (by simp)]
  unfold setWalk
  refine aa (aa (dX ho rfl hf ?_))
  dsimp only
  refine aa (Q6b ?_)
  rw [hb,aC rfl]
  refine aa (wpAny_askSetting (aj (aj ?_)))
  have eo:X4 w a ep (E5 tk S)=pickOrder (w.params.setOrder a ep) (E5 tk S):=by unfold X4;rw [aC hb]
  have hl:i<(X4 w a ep (E5 tk S)).size:=by
   have:=(Y1q w a ep (E5 tk S)).length_eq
   rw [bG,bG,W0]at this
   omega
  obtain⟨e,he⟩:∃e,(X4 w a ep (E5 tk S))[i]?=some e:=⟨_,Array.getElem?_eq_getElem hl⟩
  have q:=h e he
  rw [eo]at he
  have e1:P0 w S (i+1)=P0 w S i:=by unfold P0;rw [aC hb,aC hb]
  rw [e1]at q
  show Q (Option.map (fun e=>(e.snd,P0 w S i)) (pickOrder (w.params.setOrder a ep) (E5 tk S))[i]?) s
  rw [he];exact q
 | false =>
  have eo:X4 w a ep (E5 tk S)=E5 tk S:=by unfold X4;rw [ax (by rw [hb];exact aQ)]
  have m8:SetTable.below S.toArray (P0 w S i)=i:=by
   unfold P0
   rw [ax (by rw [hb];exact aQ)]
   by_cases hz:i=0
   ·rw [aC hz,hz];exact F.zero
   ·rw [ax hz,F.nxt (i-1) (by omega)];omega
  have q:=h _ (by rw [eo];exact Y3v hi)
  have e2:P0 w S (i+1)=S.getD i 0+1:=by
   unfold P0
   rw [ax (by rw [hb];exact aQ),ax (by omega)];rfl
  rw [ax aQ,ax (by
   show ¬ (!true&&decide ((E5 tk S).size > 1))=true
   simp)]
  refine aa (m:=(if (!(G8 w)&&!(E5 tk S).isEmpty)=true then PySem.unsupported "set:maker-not-led" else pure ())) ?_
  rw [ax (by rw [show G8 w=true by show(!(w.params.followText "set-order"))=true;rw [hb];rfl];simp)]
  refine aj (aj ?_)
  have e3:(Q1 S (G8 w)).place[i]?=some (S.getD i 0):=by
   show S.toArray[i]?=_
   rw [List.getElem?_toArray,ar,ab hi];rfl
  show Q (match (E5 tk S)[SetTable.below S.toArray (P0 w S i)]?,(Q1 S (G8 w)).place[SetTable.below S.toArray (P0 w S i)]? with | some (_,x),some j=>some (x,j+1) | _,_=>none) s
  rw [m8,e3,Y3v hi]
  rw [e2]at q
  exact q
theorem W3b {Q:Option (Value×Nat)->Shared->Prop} (hS:S∈S7) (ho:s.heap.get? a=some (Q0e S tk ep (G8 w))) (h:Q none s):wpAny (model prog w) A (setNext a (P0 w S S.length) S.length ep) Q E s:=by
 have F:=X7 hS (G8 w)
 have hf:(Q1 S (G8 w)).fits (E5 tk S).size=true:=by rw [W0];exact F.fits
 unfold setNext
 refine aa (dX ho rfl hf ?_)
 dsimp only
 refine aa (Q6b ?_)
 cases hb:w.params.followText "set-order" with
 | true =>
  rw [aC rfl,ax (by simp)]
  unfold setWalk
  refine aa (aa (dX ho rfl hf ?_))
  dsimp only
  refine aa (Q6b ?_)
  rw [hb,aC rfl]
  refine aa (wpAny_askSetting (aj (aj ?_)))
  have hl:(pickOrder (w.params.setOrder a ep) (E5 tk S)).size=S.length:=by
   have:=(Y1y (w.params.setOrder a ep) (E5 tk S)).length_eq
   rw [bG,bG,W0]at this
   exact this
  show Q (Option.map (fun e=>(e.snd,P0 w S S.length)) (pickOrder (w.params.setOrder a ep) (E5 tk S))[S.length]?) s
  rw [Array.getElem?_eq_none (by omega)];exact h
 | false =>
  have m8:SetTable.below S.toArray (P0 w S S.length)=S.length:=by
   unfold P0
   rw [ax (by rw [hb];exact aQ)]
   by_cases hz:S.length=0
   ·rw [aC hz,hz];exact F.zero
   ·rw [ax hz,F.nxt (S.length-1) (by omega)];omega
  rw [ax aQ,ax (by
   show ¬ (!true&&decide ((E5 tk S).size > 1))=true
   simp)]
  refine aa (m:=(if (!(G8 w)&&!(E5 tk S).isEmpty)=true then PySem.unsupported "set:maker-not-led" else pure ())) ?_
  rw [ax (by rw [show G8 w=true by show(!(w.params.followText "set-order"))=true;rw [hb];rfl];simp)]
  refine aj (aj ?_)
  show Q (match (E5 tk S)[SetTable.below S.toArray (P0 w S S.length)]?,(Q1 S (G8 w)).place[SetTable.below S.toArray (P0 w S S.length)]? with | some (_,x),some j=>some (x,j+1) | _,_=>none) s
  rw [m8,Array.getElem?_eq_none (by rw [W0];exact ao _)]
  exact h
end
section
variable {prog:Program}{w:World}{A:Around}{E:VS9}{s:Shared}{S:List Nat}{tk:Nat->Tok}{ep:Nat}{a it:Addr}
theorem Q1u.at {h h':Heap}{i:Nat} (x:Q1u w S h it a ep i) (e:∀o,h.get? it=some o->h'.get? it=some o):Q1u w S h' it a ep i:=let ⟨o,ho,r⟩:=x;⟨o,e _ ho,r⟩
theorem W6g {i:Nat}{Q:Option Value->Shared->Prop} (hS:S∈S7) (hit:Q1u w S s.heap it a ep i) (ho:s.heap.get? a=some (Q0e S tk ep (G8 w))) (hi:i<S.length)
  (hQ:∀e h',(X4 w a ep (E5 tk S))[i]?=some e->Q1u w S h' it a ep (i+1)->Heap.SameBut it s.heap h'->Q (some e.2) { s with heap:=h' }):wpAny (model prog w) A (pyNext (.ref it)) Q E s:=by
 have F:=X7 hS (G8 w)
 have hf:(Q1 S (G8 w)).fits (E5 tk S).size=true:=by rw [W0];exact F.fits
 obtain⟨o,iW,hc,hd⟩:=id hit
 unfold pyNext
 refine aa (wpAny_attempt (bY (name:=Str.ofString "__next__") hit.typeIs Q5c (bM Q5c hit.typeIs Z9j ?_ (Z7w _))))
 unfold Builtin.«set_iterator.__next__»
 refine aa (aj ?_)
 refine aa (wpAny_fieldsOf iW hd ?_)
 change wpAny _ _ (setEntries a>>=_) _ _ s
 refine aa (wpAny_setEntries_of ho rfl hf ?_)
 rw [ax (by rw [W0];simp)]
 change wpAny _ _ (setNext a (Int.toNat ((P0 w S i:Nat):Int)) (Int.toNat ((i:Nat):Int)) (Int.toNat ((ep:Nat):Int))>>=_) _ _ s
 rw [b9,b9,b9]
 refine aa (W3c hS ho hi fun e he=>?_)
 dsimp only
 refine aa (wpAny_setField iW hd (by simp) ?_)
 have h1:=eU (Obj.mapFields (·.setIfInBounds 0 (rawInt ((P0 w S (i+1):Nat):Int)))) iW (Obj.isFreed_of_fields (ci hd _))
 refine aa (wpAny_setField h1 (ci hd _) (by simp) ?_)
 refine aj ⟨_,rfl,aj (hQ e _ he ?_ ((di ..).trans (di ..)))⟩
 refine⟨_,eU _ h1 (Obj.isFreed_of_fields (ci (ci hd _) _)),(Obj.cls_mapFields ..).trans ((Obj.cls_mapFields ..).trans hc),?_⟩
 rw [ci (ci hd _)]
 simp [rawInt]
theorem W6h {Q:Option Value->Shared->Prop} (hh:A.handled=none) (hS:S∈S7) (hit:Q1u w S s.heap it a ep S.length) (ho:s.heap.get? a=some (Q0e S tk ep (G8 w)))
  (hQ:∀h',Heap.ExtBut it s.heap h'->Q none { s with heap:=h' }):wpAny (model prog w) A (pyNext (.ref it)) Q E s:=by
 have F:=X7 hS (G8 w)
 have hf:(Q1 S (G8 w)).fits (E5 tk S).size=true:=by rw [W0];exact F.fits
 obtain⟨o,iW,hc,hd⟩:=id hit
 unfold pyNext
 refine aa (wpAny_attempt (bY (name:=Str.ofString "__next__") hit.typeIs Q5c (bM Q5c hit.typeIs Z9j ?_ (Z7w _))))
 unfold Builtin.«set_iterator.__next__»
 refine aa (aj ?_)
 refine aa (wpAny_fieldsOf iW hd ?_)
 change wpAny _ _ (setEntries a>>=_) _ _ s
 refine aa (wpAny_setEntries_of ho rfl hf ?_)
 rw [ax (by rw [W0];simp)]
 change wpAny _ _ (setNext a (Int.toNat ((P0 w S S.length:Nat):Int)) (Int.toNat ((S.length:Nat):Int)) (Int.toNat ((ep:Nat):Int))>>=_) _ _ s
 rw [b9,b9,b9]
 refine aa (W3b hS ho ?_)
 dsimp only
 refine aa (wpAny_setField iW hd (by simp) ?_)
 refine aa ?_
 simp only [newExc,newTuple]
 refine aa (bF ?_ (by size_fits))
 refine aa (m:=firstArgMember _ _) (wpAny_of_eq (a:=Value.none) (by rfl) (bF ?_ (by size_fits)))
 simp only [raiseNew]
 refine aa (wpAny_handled ?_)
 rw [show A.in1.handled=none from hh]
 refine aa (aj (wpAny_throw ?_))
 refine aa (wpAny_isInstance (T:="StopIteration") (b:=true) ⟨_,aH _ rfl,rfl⟩ isSubtype_stop ?_)
 exact aj (hQ _ (((di ..).extBut.push _).push _))
theorem V0u (hh:A.handled=none) (hS:S∈S7) (cy:a≠it):Walks prog w A it [it,a] [it] S.length (fun i v=>∃e,(X4 w a ep (E5 tk S))[i]?=some e/\v=e.2) (fun i h=>Q1u w S h it a ep i/\h.get? a=some (Q0e S tk ep (G8 w))) where
 sub:=fun b hb=>by simp at hb;simp [hb]
 frame:=fun _ _ _ st hk=>⟨st.1.at fun o e=>hk it (by simp) o e,hk a (by simp) _ st.2⟩
 item:=fun i s Q E hi st hQ=>W6g hS st.1 st.2 hi fun e h' he eO fW=>hQ e.2 h' s.toks ⟨e,he,rfl⟩ ⟨eO,fW.extBut a _ cy st.2⟩ fun b o hb q=>fW.extBut b o (fun h=>hb (by simp [h])) q
 done:=fun s Q E st hQ=>W6h hh hS st.1 st.2 fun h' pL=>hQ h' s.toks fun b o hb e=>pL b o (fun h=>hb (by simp [h])) e
 self:=fun _ s Q E st hQ=>by
  refine wpAny_pyIter_slot st.1.typeIs Y4c (bM Y4c st.1.typeIs Y8t ?_ (Y6t _))
  change wpAny _ _ (ret (.ref it)) _ _ s
  exact aj ⟨_,rfl,"set_iterator",_,st.1.typeIs,Q5c.lookup,hQ⟩
theorem Y9p {r:Addr}{Q:Bool->Shared->Prop} (hT:s.TypeIs (.ref r) "set") (h:Q false s):wpAny (model prog w) A (Builtin.List.listLengthHint (.ref r)) Q E s:=by
 unfold Builtin.List.listLengthHint
 refine aa (wpAny_specialOf hT PySem.F.slot_set_len.lookup ?_)
 generalize hid:("set.__len__":String)=id0
 wp_delta
 rw [show splitId id0=some ("set","__len__")from by subst hid;decide +kernel]
 subst hid
 refine aa (wpAny_isInstance (T:="set") (b:=true) hT (by rw [isSubtype_type];kernel_rfl) ?_)
 refine wpAny_ite_split (fun jC=>absurd jC (by decide)) (fun _=>?_)
 refine wpAny_ite_split (fun _=>?_) (fun jC=>absurd (by decide +kernel) jC)
 refine aa (wpAny_typeOf hT ?_)
 exact aj h
theorem W9l (hS:S∈S7):PySem.W.KdlSrc prog w "set" a a S.length (fun i v=>∃e,(X4 w a ep (E5 tk S))[i]?=some e/\v=e.2) (fun h=>h.get? a=some (Q0e S tk ep (G8 w))) where
 type:=fun _ hm=>⟨_,hm,rfl⟩
 there:=fun _ hm=>⟨ay hm,ay hm⟩
 keep:=fun _ _ hm hk=>hk a (.inl rfl) _ hm
 notList:=by decide
 notTuple:=by decide
 hint:=fun _ _ _ _ hm hq=>Y9p ⟨_,hm,rfl⟩ hq
 iter:=fun _ s hh hm=>⟨_,_,(fun _ _ hq=>W0n hS hm hq),V0u hh hS (aD (ay hm)),⟨⟨_,aH _ rfl,rfl,by
  have:P0 w S 0=0:=by unfold P0;split <;> rfl
  rw [this];rfl⟩,af _ hm⟩⟩
end
theorem Y9x {vs:List Value}{es:List (Int×Value)} (hl:vs.length=es.length) (h:∀(j:Nat) (v:Value),vs[j]?=some v->∃e,es[j]?=some e/\v=e.2) (hv:∀e∈es,∃t:Tok,e.2=Value.int e.1 t):IntsAre vs (es.map (·.1)):=by
 induction vs generalizing es with
 | nil=>cases es with
  | nil=>exact .nil
  | cons _ _=>cases hl
 | cons v vs ih =>
  cases es with
  | nil=>cases hl
  | cons e es =>
   obtain⟨e',q1,q2⟩:=h 0 v rfl
   cases q1
   obtain⟨t,ht⟩:=hv e am
   rw [au,q2,ht]
   exact .cons _ _ (ih (by simpa using hl) (fun j v q=>h (j+1) v (by simpa using q)) fun e he=>hv e (ai _ he))
theorem Y8w {xs ys:List Int} (p:xs.Perm ys) (h1:xs.Pairwise (·<=·)) (h2:ys.Pairwise (·<=·)):xs=ys:=p.eq_of_pairwise (fun a b _ _ h h'=>Int.le_antisymm h h') h1 h2
section
variable {prog:Program}{w:World}{A:Around}{E:VS9}{s:Shared}{S:List Nat}{tk:Nat->Tok}{ep:Nat}{a it:Addr}
theorem W9k {Q:VS9} (hh:A.handled=none) (hS:S∈S7) (ho:s.heap.get? a=some (Q0e S tk ep (G8 w)))
  (h:∀(h':Heap) (t':Nat) (D:Addr) (c:Nat) (out:Array Value),(∀b o,s.heap.get? b=some o->h'.get? b=some o)->a<D->h'.get? D=some (seqObj "list" out c)->IntsAre out.toList (S.map fun(i:Nat)=>(i:Int))->Q (.ref D) { s with heap:=h',toks:=t' }) :
  wpAny (model prog w) A (call (.builtin "sorted") [.ref a]) Q E s:=by
 have F:=X7 hS (G8 w)
 refine Calls.call_function_entry kind_sorted plain_sorted entry_sorted (args_sorted1 _) ?_
 unfold Builtin.«sorted»
 refine aa (m:=checkCount "sorted" 1 1 _) (aj ?_)
 refine aa (PySem.W.kdu_collect (A:=A.in1) (W9l (prog:=prog) (w:=w) (a:=a) (tk:=tk) (ep:=ep) hS) hh ho (by have:=F.len;rw [fH];omega) fun h' t' bU hk de=>?_)
 have hl:bU.toList.length=S.length:=by rw [bG];exact de.1
 refine aa (wpAny_newList ?_ (by rw [hl];have:=F.len;rw [fH];omega))
 have jq:(h'.push (seqObj "list" bU.toList.toArray 0)).get? h'.objs.size=some (seqObj "list" bU.toList.toArray 0):=aH _ rfl
 have pm:=Y1q w a ep (E5 tk S)
 have hI:IntsAre bU.toList ((X4 w a ep (E5 tk S)).toList.map (·.1)):=by
  refine Y9x ?_ (fun j v q=>?_) fun e he=>?_
  ·rw [hl,pm.length_eq];simp [E5]
  ·obtain⟨e,q1,q2⟩:=de.2 j v (by rw [<- i4];exact q)
   exact⟨e,by rw [i4];exact q1,q2⟩
  ·have:=pm.mem_iff.mp he
   simp only [E5,ah]at this
   obtain⟨i,_,rfl⟩:=this
   exact⟨_,rfl⟩
 have kp:∀b o,s.heap.get? b=some o->∀out,(sortedHeap (h'.push (seqObj "list" bU.toList.toArray 0)) h'.objs.size bU.toList out).get? b=some o:=fun b o e out=>by
  have hb:=ay (hk b o e)
  rw [sortedHeap_old (aD hb) (by rw [size_push'];exact bu hb)]
  exact af _ (hk b o e)
 refine aa (bA (bM slot_list_sort ⟨_,jq,rfl⟩ entry_list_sort (list_sort_tree jq hI (by rw [hl];have:=F.len;omega) fun out nY a1 a2 a3=>⟨_,rfl,?_⟩) (args_list_sort _)))
 obtain⟨c,hc⟩:=sortedHeap_at (out:=out) jq
 refine aj ⟨_,rfl,h _ _ _ c out (fun b o e=>kp b o e out) ?_ hc ?_⟩
 ·exact ay (hk a _ ho)
 ·have e:(X4 w a ep (E5 tk S)).toList.map (·.1)=_:=rfl
  have p2:nY.Perm (S.map fun(i:Nat)=>(i:Int)):=by
   refine a2.trans ((pm.map (·.1)).trans ?_)
   rw [E5]
   simp only [aL]
   exact List.Perm.refl _
  have o2:(S.map fun(i:Nat)=>(i:Int)).Pairwise (·<=·):=by
   rw [List.pairwise_map]
   exact F.ord.imp fun h=>by omega
  rw [<- Y8w p2 a3 o2];exact a1
end
theorem Y9z {vs:List Value}:∀{ns:List Int},IntsAre vs ns->B7 (ns.map V.int) vs:=by
 intro ns h
 induction h with
 | nil=>exact .nil
 | cons n t _ ih=>exact .cons ⟨t,rfl⟩ ih
theorem Y5g:∀{ns:List Nat}{aT:List Value},B7 (ns.map fun(n:Nat)=>V.int (n:Int)) aT->∀(i:Nat) (v:Value),aT[i]?=some v->∃t:Tok,v=Value.int ((ns.getD i 0:Nat):Int) t
 | [],aT,r,i,v,e=>by cases r;cases e
 | n::ns,aT,r,i,v,e=>by
  cases r with
  | cons h t =>
   cases i with
   | zero=>obtain⟨tk,q⟩:=h;cases e;exact⟨tk,q⟩
   | succ i=>exact Y5g t i v (by simpa using e)
def Q7h (we:WE):WE:=fun τ Q=>we τ fun r=>∃ns:List Nat,U3 r=some (ns.map fun(n:Nat)=>.int (n:Int))/\(∀n∈ns,n<4)/\∀S:List Nat,S.Pairwise (·<·)->(∀x,x∈S ↔ x∈ns)->Q (.nw (S.map fun(n:Nat)=>.int (n:Int)))
section
variable {X:Cx}{H0:Hp}{e:Expr}{we:WE}{p p2 pos dP:Pos}
theorem DE.sset (hc:X.calm=true) (hg:Gl X "sorted") (hm:X.mg "sorted"=none) (pB:Gl X "set") (oZ:X.mg "set"=none) (oJ:bootBuiltins "sorted"=some (.builtin "sorted")) (iT:bootBuiltins "set"=some (.type "set")) (he:DE X H0 e we)
  (hs:starEach [.Call (.Name "set" p2) [e] [] dP] X.env=(false,eval (.Call (.Name "set" p2) [e] [] dP) X.env)::starEach [] X.env:=by rfl)
  (iU:starEach [e] X.env=(false,eval e X.env)::starEach [] X.env:=by rfl) (hpl:(backTo dP (starEach [] X.env)).any (·.1)=false:=by rfl) :
  DE X H0 (.Call (.Name "sorted" p) [.Call (.Name "set" p2) [e] [] dP] [] pos) (Q7h we) where
 mono:=fun τ P Q f h=>he.mono τ _ _ (fun r ⟨ns,e1,e2,q⟩=>⟨ns,e1,e2,fun S a b=>f _ (q S a b)⟩) h
 pe:=by
  intro ae s σ H Q I ⟨τ,hR,h⟩
  refine bo (Q0p I hg hm oJ ?_ (by decide) (by decide))
  refine PyProof.Rows.callWith_builtin1 ?_ hs
  rw [hs]
  change wpAny (model X.prog X.w) X.A (spliced ((false,eval (.Call (.Name "set" p2) [e] [] dP) X.env)::backTo pos (starEach [] X.env))) _ _ s
  refine Calls.spliced_cons ?_
  refine bo (Q0p I pB oZ iT ?_ (by decide) (by decide))
  refine bt (B4 ((Q0d he.pe Q2s iU) dP ae s σ H (fun vs H1=>A6 H H1/\∃(l:Addr) (ns:List Nat),vs=[.ref l]/\E3 X.K H1 l (ns.map fun(n:Nat)=>V.int (n:Int))/\(∀n∈ns,n<4) /\
   ∀S:List Nat,S.Pairwise (·<·)->(∀x,x∈S ↔ x∈ns)->∀v H',A6 H H'->F7 X.K H H' (.nw (S.map fun(n:Nat)=>.int (n:Int))) v->Q v H') I ?_) fun us s1 bx=>?_) iU hpl
  ·refine⟨τ,hR,he.mono τ _ _ (fun r ⟨ns,e1,e2,q⟩ v H1 s1 ir=>?_) h⟩
   obtain⟨l,ys,rfl,sq,al⟩:=Q3r e1 ir
   have al:AllS X.K H1 ((ns.map fun(n:Nat)=>(n:Int)).map .int) ys:=by rw [aL];exact al
   have ey:=Q7q al
   rw [aL]at ey
   subst ey
   exact⟨s1,l,ns,rfl,sq,e2,q⟩
  obtain⟨vs,H1,I1,rv,sm,l,ns,e1,sq,h4,q⟩:=bx
  subst e1
  obtain⟨u,rfl,ru⟩:=X9 rv
  cases ru
  obtain⟨aT,fw,pl,hz⟩:=I1.list sq
  have hn:aT.length=ns.length:=by have:=fw.length;rw [ag]at this;exact this.symm
  refine W8u (I.ok.hd hc) pl.isList (fun i v e=>Y5g fw i v (by simpa using e)) (by simpa using hn) h4 fun h' tk hH k=>Calls.spliced_nil ?_
  obtain⟨S,qv,ep,hS,eY,fg⟩:=hH
  refine W9k (s:={ s1 with heap:=h',toks:=tk }) (I.ok.hd hc) hS eY fun h2 t2 D c out k2 hD eA eC=>?_
  have F:=X7 hS true
  have iw:s1.heap.objs.size<=D:=cD hD
  have hf:H1 D=none:=I1.hok.fresh iw
  have jt:∀x,x∈S ↔ x∈ns:=fun x=>by
   rw [fg x]
   constructor
   ·rintro ⟨j,hj,rfl⟩
    show ns.getD j 0∈ns
    rw [ar,ab hj];exact bR hj
   ·intro hx
    obtain⟨j,hj,e⟩:=kw hx
    exact⟨j,hj,by show ns.getD j 0=x;rw [ar,ab hj];exact e⟩
  refine⟨.ref D,_,I1.laid (t':=t2) (o:=.lst ((S.map fun(n:Nat)=>(n:Int)).map V.int)) (fun b o e=>k2 b o (k b o (ay e) e)) iw ⟨?_,out.toList,c,Y9z eC,by simpa using eA⟩,rfl,
   q S F.ord jt _ _ (sm.trans (G0 hf _)) ⟨D,_,rfl,sm.free hf,upd_same,?_⟩⟩
  ·rw [ag,ag];have:=F.len;rw [fH];omega
  ·have:=AllS.ints (K:=X.K) (H:=upd H1 D (.lst ((S.map fun(n:Nat)=>(n:Int)).map V.int))) (ns:=S.map fun(n:Nat)=>(n:Int))
   have e2:(S.map fun(n:Nat)=>TK.D.int (n:Int))=(S.map fun(n:Nat)=>(n:Int)).map TK.D.int:=by rw [aL];rfl
   rw [e2];exact this
@[simp] theorem W8o {τ:A9}{Q:R->Prop}:Q7h we τ Q=we τ fun r=>∃ns:List Nat,U3 r=some (ns.map fun(n:Nat)=>.int (n:Int))/\(∀n∈ns,n<4)/\∀S:List Nat,S.Pairwise (·<·)->(∀x,x∈S ↔ x∈ns)->Q (.nw (S.map fun(n:Nat)=>.int (n:Int))):=rfl
end
theorem ixNn {n j:Nat} (h:j<n):ixN n (j:Int)=some j:=by
 unfold ixN;rw [aC (by omega),aC (by omega),b9]
section
variable {X:Cx}{H0:Hp}{a b e o v tg:Expr}{we wv:WE}{wr:WA}{p pos bB:Pos}{op:Operator}{f:Int->Int->Int}
noncomputable def W6l (K:Fg9):V->V->Hp->VK->Prop:=fun x y H Q=>∃(p:Addr) (xs:List V) (i:Nat) (v:V),x=.ref p/\y=.int (i:Int)/\E3 K H p xs/\xs[i]?=some v/\Q v H
theorem Y9j:PGet X (W6l X.K):=by
 intro ae s σ H x y v u Q I rx ry h
 obtain⟨p,xs,i,z,rfl,rfl,hq,he,q⟩:=h
 cases rx
 obtain⟨t,rfl⟩:=ry
 obtain⟨aT,r,pl,hz⟩:=I.list hq
 obtain⟨w,ew,eM⟩:=r.get he
 have hl:=r.length
 have hi:i<aT.length:=by
  rcases aW i aT.length with h | h
  ·exact h
  ·rw [aw.mpr h]at ew;cases ew
 have hn:=Q2q
 exact wpAny_getItem_list pl.isList (by omega) (by omega) (by rw [b9];simpa using ew) ⟨z,H,I,eM,q⟩
def Q5p (i:Nat) (f:Int->Int->Int) (we wv:WE):WS:=fun E τ=>∃ds,τ[i]?=some (some (.own ds))/\we τ fun rk=>∃(j:Nat) (x:Int),rk=.st (.int (j:Int))/\ds[j]?=some (.int x)/\wv τ fun r=>∃y,r=.st (.int y)/\E.nx (τ.set i (some (.own (ds.set j (.int (f x y))))))
theorem DS.augIx {i:Nat} (hp:PIp X op (ipI f)) (ho:PE X o (T4 i)) (he:DE X H0 e we) (hv:DE X H0 v wv)
  (ha:∀ov iv new,augStore e ov iv new=(do holding [new,ov,iv] (setItem ov iv new);release [new,ov,iv] [];pure .next):=by intros;rfl):DS X H0 (.AugAssign (.Subscript o e bB) op v pos) (Q5p i f we wv) where
 mono:=fun τ E F le ⟨ds,e1,h⟩=>⟨ds,e1,he.mono τ _ _ (fun r ⟨j,x,a1,a3,h⟩=>⟨j,x,a1,a3,hv.mono τ _ _ (fun r ⟨y,b1,b2⟩=>⟨y,b1,le.nx _ b2⟩) h⟩) h⟩
 ps:=psW (W5q ho he.pe Y9j hv.pe hp Y3x ha) fun D σ H ⟨τ,hR,ds,e1,h⟩=>by
  obtain⟨q,xs,fU,h0,sq,al⟩:=hR.ownAt e1
  refine⟨_,fU,τ,hR,he.mono τ _ _ (fun rk ⟨j,x,a1,a3,h⟩ y H1 s1 ik=>?_) h⟩
  subst a1
  cases (show y=.int (j:Int)from ik)
  have ml:=s1 _ _ sq
  have eI:=al.mono (Kp.of s1) _ _
  obtain⟨z,hz,iz⟩:=eI.get a3
  cases (show z=.int x by unfold A2 at iz;exact iz)
  refine⟨q,xs,j,_,rfl,rfl,E3.of ml,hz,τ,hR.mono s1,hv.mono τ _ _ (fun r ⟨y,b1,b2⟩ u H2 s2 iu=>?_) h⟩
  subst b1
  cases (show u=.int y from iu)
  have fN:=s2 _ _ ml
  have hj:j<xs.length:=by
   rw [<- al.length]
   rcases aW j ds.length with h | h
   ·exact h
   ·rw [aw.mpr h]at a3;cases a3
  refine⟨x,y,rfl,rfl,q,xs,(j:Int),j,rfl,rfl,fN,ixNn hj,?_⟩
  have dm:AllS X.K H2 (ds.set j (.int (f x y))) (xs.set j (.int (f x y))):=AllS.set A2.s_int j (eI.mono (Kp.of s2) _ _)
  exact b2 σ _ ((Kp.of (s1.trans s2)).trans (Kp.upd fN _)) (((hR.mono s1).mono s2).mutate e1 fU h0 fN dm)
@[simp] theorem Y2q {i:Nat}{E:F6} {τ:A9}:Q5p i f we wv E τ=∃ds,τ[i]?=some (some (.own ds))/\we τ fun rk=>∃(j:Nat) (x:Int),rk=.st (.int (j:Int))/\ds[j]?=some (.int x)/\wv τ fun r=>∃y,r=.st (.int y)/\E.nx (τ.set i (some (.own (ds.set j (.int (f x y)))))):=rfl
noncomputable def Q3w:List R->(R->Prop)->Prop
 | [r],Q=>∃ns:List Int,U3 r=some (ns.map .int)/\Q (.st (.int ns.sum))
 | _,_=>False
theorem W9o:Q1a Q3w:=fun x P Q g h=>by
 unfold Q3w at h ⊢
 split at h
 ·obtain⟨ns,a,b⟩:=h;exact⟨ns,a,g _ b⟩
 ·exact h
theorem Y7q (hc:X.calm=true):Q0y X (.builtin "sum") Q3w:=by
 intro ae s σ H xs us Q I rv ⟨rs,cu,h⟩
 unfold Q3w at h
 split at h
 ·rename_i r
  obtain⟨ns,e1,h⟩:=h
  obtain⟨v,rfl,ir⟩:=W7 cu
  obtain⟨l,ys,rfl,sq,al⟩:=Q3r e1 ir
  obtain⟨u,rfl,ru⟩:=X9 rv
  cases ru
  have ey:=Q7q al
  subst ey
  obtain⟨aT,fw,pl,hz⟩:=I.list sq
  obtain⟨ps,ei,en⟩:=Z2s fw
  subst ei
  have hit:s.heap.IsList l (intItems ps.toArray):=by
   have:=pl.isList
   have e:intItems ps.toArray=(ps.map fun p=>Value.int p.1 p.2).toArray:=by simp [intItems]
   rw [e];exact this
  refine sum_intListG (I.ok.hd hc) hit fun h' tk t' k=>⟨.int ns.sum,H,I.kept k,⟨t',?_⟩,h _ _ (A6.refl _) V6⟩
  have:preSum (numAt ps.toArray) ps.toArray.size=ns.sum:=by
   rw [preSum_eq,gk (by simp),<- en]
  rw [this]
 ·exact h.elim
@[simp] theorem W8p {r:R}{Q:R->Prop}:Q3w [r] Q=∃ns:List Int,U3 r=some (ns.map .int)/\Q (.st (.int ns.sum)):=rfl
theorem V1e {K:Fg9}{H0 H:Hp}{l:Addr}{xs:List V}{ds:List D} (sq:FzL K H l xs) (al:AllS K H ds xs):Yl K H0 (Irl K l ds.length) ds.reverse H where
 go:=fun H' k s i hi=>⟨by simpa using hi,xs,(k.fzL sq).sq,al.length.symm⟩
 yld:=fun H' k s i v cV d hd ⟨e,hx⟩=>by
  subst e
  refine⟨A6.refl _,?_⟩
  have hl:=al.length
  have hi:i<ds.length:=by
   rcases aW i ds.length with h | h
   ·exact h
   ·rw [aw.mpr (by simpa using h)]at hd;cases hd
  rw [List.getElem?_reverse hi]at hd
  obtain⟨v',mC,q⟩:=(al.mono k _ _).get hd
  have:=hx xs (k.fzL sq).sq
  rw [this]at mC;cases mC
  exact q
 stop:=fun H' k s=>by
  show ds.reverse.length=ds.length
  simp
def Q8l (wr:WA):WI:=fun τ Q=>wr τ fun rs=>∃ds,rs=[.st (.lst ds)]/\Q ds.reverse τ
theorem DI.revF (hg:Gl X "reversed") (hm:X.mg "reversed"=none) (hv:bootBuiltins "reversed"=some (.type "reversed")) (ha:DA X H0 [a] wr) (he:starEach [a] X.env=(false,eval a X.env)::starEach [] X.env:=by rfl) (hpl:(backTo pos (starEach [] X.env)).any (·.1)=false:=by rfl) :
  DI X H0 tg (.Call (.Name "reversed" p) [a] [] pos) (Q8l wr) where
 mono:=fun τ P Q f h=>ha.mono τ _ _ (fun r ⟨ds,e1,q⟩=>⟨ds,e1,f _ _ q⟩) h
 pi:=by
  intro ae s σ H R I ⟨τ,hR,h⟩
  refine bo (Q0p I hg hm hv ?_ (by decide) (by decide))
  refine bt (B4 (ha.pa pos ae s σ H (fun vs H1=>A6 H H1/\∃l xs ds,vs=[.ref l]/\FzL X.K H1 l xs/\AllS X.K H1 ds xs/\∀J H',Kp H H'->C4 X.K H0 τ σ H'->Yl X.K H0 J ds.reverse H'->R J H') I
   ⟨τ,hR,ha.mono τ _ _ (fun rs ⟨ds,e1,q⟩ vs H1 s1 cu=>⟨s1,by
    subst e1
    obtain⟨v,rfl,ir⟩:=W7 cu
    have ir:A2 X.K H1 (.lst ds) v:=ir
    unfold A2 at ir
    obtain⟨l,xs,rfl,sq,al⟩:=ir
    exact⟨l,xs,ds,rfl,sq,al,q⟩⟩) h⟩) fun us s1 bx=>?_) he hpl
  obtain⟨vs,H1,I1,rv,sm,l,xs,ds,e1,sq,al,q⟩:=bx
  subst e1
  obtain⟨u,rfl,ru⟩:=X9 rv
  cases (show u=Value.ref l from ru)
  obtain⟨aT,fw,pl,iR⟩:=I1.list sq.sq
  have hl:=fw.length
  have kf:=al.length
  refine call_reversed_list pl.isList ?_
  have hit:(s1.heap.push (revObj l ((aT.toArray.size:Int)-1))).IsRevIter s1.heap.objs.size l ((aT.toArray.size:Int)-1):=⟨_,aH _ rfl,rfl,rfl⟩
  refine wpAny_pyIter_revIter hit ⟨s1.heap.objs.size,[s1.heap.objs.size],_,_,H1,rfl,I1.kept (t':=s1.toks) fun b o e=>af _ e,V0k (l:=l) (n:=ds.length),⟨bi _,?_⟩,fun b hb=>?_,q _ _ (Kp.of sm) (hR.mono sm) (V1e sq al)⟩
  ·have e:((ds.length:Nat):Int)-1-((0:Nat):Int)=(aT.toArray.size:Int)-1:=by simp;omega
   rw [e];exact hit
  ·rw [aI.mp hb]
   exact I1.fpOk (ao _) (I1.hok.fresh (ao _))
@[simp] theorem W7x {τ:A9}{Q:List D->A9->Prop}:Q8l wr τ Q=wr τ fun rs=>∃ds,rs=[.st (.lst ds)]/\Q ds.reverse τ:=rfl
end
section
variable {P:Program}{w:World}{A:Around}{E:VS9}{s:Shared}{x:Str}{t:Tok}{l:Addr}
noncomputable abbrev sO (x:Str) (t:Tok):Obj:={ cls:=.type (strIterType x),data:=.fields #[.str x t,.int 0 0] }
noncomputable abbrev zs1 (x:Str) (t:Tok) (h:Heap):Heap:=h.push (sO x t)
noncomputable abbrev zs2 (x:Str) (t:Tok) (h:Heap) (l:Addr):Heap:=(zs1 x t h).push (itO true l)
noncomputable abbrev zs3 (x:Str) (t:Tok) (h:Heap) (l:Addr):Heap:=(zs2 x t h l).push { cls:=.type "tuple",data:=.seq #[.ref h.objs.size,.ref (zs1 x t h).objs.size] }
noncomputable abbrev zs4 (x:Str) (t:Tok) (h:Heap) (l:Addr):Heap:=(zs3 x t h l).push { cls:=.type "tuple",data:=.seq #[.none,.none] }
noncomputable abbrev zs5 (x:Str) (t:Tok) (h:Heap) (l:Addr):Heap:=(zs4 x t h l).push { cls:=.type "zip",data:=.fields #[.none,.bool false,.bool false,.ref (zs2 x t h l).objs.size,.ref (zs3 x t h l).objs.size] }
theorem V1n (x:Str) (t:Tok) (l:Addr) (ys:Array Value) :
  Meets (Builtin.«zip.__new__» ⟨[.type "zip",.str x t,.ref l],[]⟩) (fun _ R s=>ObB true s.heap l ys/\R (.ok (.ret (.ref (zs4 x t s.heap l).objs.size))) { s with heap:=zs5 x t s.heap l }) :=
 Meets.of_wp fun prog w A R s h=>by
  obtain⟨hp,g,d,tk,os⟩:=s;obtain⟨kf,h⟩:=h
  have hsub:=sub_zip
  have lY:ObB true (Shared.heap ⟨hp.push (sO x t),g,d,tk,os⟩) l ys:=kf.keep fun o e=>af _ e
  wp_walk using wpAny_pyIter_strU,W0m lY
  exact⟨_,rfl,h⟩
theorem Y7t {ys:Array Value}{Q:VS9} (ht:ObB true s.heap l ys)
  (h:∀h',Z4 h' (s.heap.objs.size+4) (s.heap.objs.size+2) (s.heap.objs.size+3)->IsPair h' (s.heap.objs.size+2) (.ref s.heap.objs.size) (.ref (s.heap.objs.size+1))->IsPair h' (s.heap.objs.size+3) .none .none ->
   h'.IsStrIter s.heap.objs.size (strIterType x) x t 0->ItB true h' (s.heap.objs.size+1) l 0->h'.objs.size=s.heap.objs.size+5->(∀c o,s.heap.get? c=some o->h'.get? c=some o)->Q (.ref (s.heap.objs.size+4)) { s with heap:=h' }) :
  wpAny (model P w) A (call (.type "zip") [.str x t,.ref l]) Q E s:=by
 refine callType_new F.called_zip (by decide) (F.typeCall_zip_2 _ _) (F.newCall_zip_2 _ _) (fun obj=>F.args_object_init_3 obj _ _) F.entry_zip_new (V1n x t l ys) ⟨ht,?_⟩
 have e1:(zs1 x t s.heap).objs.size=s.heap.objs.size+1:=bz ..
 have e2:(zs2 x t s.heap l).objs.size=s.heap.objs.size+2:=by rw [bz,e1]
 have e3:(zs3 x t s.heap l).objs.size=s.heap.objs.size+3:=by rw [bz,e2]
 have e4:(zs4 x t s.heap l).objs.size=s.heap.objs.size+4:=by rw [bz,e3]
 have e5:(zs5 x t s.heap l).objs.size=s.heap.objs.size+5:=by rw [bz,e4]
 have g5:(zs5 x t s.heap l).get? (zs4 x t s.heap l).objs.size=some _:=aH _ rfl
 have g4:(zs5 x t s.heap l).get? (zs3 x t s.heap l).objs.size=some _:=af _ (aH _ rfl)
 have g3:(zs5 x t s.heap l).get? (zs2 x t s.heap l).objs.size=some _:=af _ (af _ (aH _ rfl))
 have g2:(zs5 x t s.heap l).get? (zs1 x t s.heap).objs.size=some (itO true l):=af _ (af _ (af _ (aH _ rfl)))
 have g1:(zs5 x t s.heap l).get? s.heap.objs.size=some (sO x t):=af _ (af _ (af _ (af _ (aH _ rfl))))
 rw [e2,e3,e4]at g5
 rw [e1,e2]at g3
 rw [e3]at g4
 rw [e1]at g2
 rw [e4]
 exact⟨⟨_,g5,rfl⟩,h _ ⟨_,_,g5,.inl rfl⟩ g3 g4 ⟨_,g1,rfl,rfl⟩ (W0l g2) e5 fun c o x=>af _ (af _ (af _ (af _ (af _ x))))⟩
end
noncomputable def Izs (x:Str) (K:Fg9) (l:Addr) (n:Nat):It:=⟨fun i H=>i<n/\n<=x.cps.size/\∃ys,D8 K H l ys/\min x.cps.size ys.length=n,
 fun i H v H'=>∃T c y,x.cps[i]?=some c/\(∀ys,D8 K H l ys->ys[i]?=some y)/\H T=none/\v=.ref T/\H'=upd H T (.tup [.str ⟨#[c]⟩,y]),fun i H=>i=n/\∃ys,D8 K H l ys/\min x.cps.size ys.length=n⟩
def ZTs (x:Str) (t:Tok) (z TI TO i1 i2 l:Addr) (i:Nat) (h:Heap):Prop:=Z4 h z TI TO/\IsPair h TI (.ref i1) (.ref i2)/\(∃a b,IsPair h TO a b)/\h.IsStrIter i1 (strIterType x) x t i/\ItB true h i2 l i
theorem ZTs.obj {x:Str}{t:Tok}{z TI TO i1 i2 l:Addr}{i:Nat}{h:Heap} (st:ZTs x t z TI TO i1 i2 l i h):∀c∈[z,TO,i1,i2,TI],∃o,h.get? c=some o/\∀v,o.data≠.cell v:=by
 obtain⟨⟨_,_,hz,_⟩,fq,⟨a,b,fe⟩,⟨o1,g1,_,d1⟩,h2⟩:=st
 intro c hc
 simp only [av,aO,bO]at hc
 rcases hc with rfl | rfl | rfl | rfl | rfl
 ·exact⟨_,hz,fun v z=>by cases z⟩
 ·exact⟨_,fe,fun v z=>by cases z⟩
 ·exact⟨_,g1,fun v z=>by rw [d1]at z;cases z⟩
 ·exact h2.obj
 ·exact⟨_,fq,fun v z=>by cases z⟩
theorem ZTs.keep {x:Str}{t:Tok}{z TI TO i1 i2 l:Addr}{i:Nat}{h h':Heap} (st:ZTs x t z TI TO i1 i2 l i h) (k:∀b∈[z,TO,i1,i2,TI],∀o,h.get? b=some o->h'.get? b=some o):ZTs x t z TI TO i1 i2 l i h':=by
 obtain⟨⟨f0,f,hz,r⟩,fq,⟨a,b,fe⟩,⟨o1,g1,r1⟩,h2⟩:=st
 exact⟨⟨f0,f,k z (by simp) _ hz,r⟩,k TI (by simp) _ fq,⟨a,b,k TO (by simp) _ fe⟩,⟨o1,k i1 (by simp) _ g1,r1⟩,h2.keep (k i2 (by simp))⟩
theorem Z9g {P:Program}{w:World}{A:Around} (hh:A.handled=none) (it:Addr) (x:Str) (t:Tok):Draws P w A it [it] x.cps.size (fun i v=>∃c u,x.cps[i]?=some c/\v=.str ⟨#[c]⟩ u) (fun i h=>h.IsStrIter it (strIterType x) x t i):=by
 unfold strIterType
 split
 ·exact Draws.strAscii hh it x t
 ·exact Draws.strWide hh it x t
theorem V0m {P:Program}{w:World}{K:Fg9}{tg:Expr}{x:Str}{t:Tok}{z TI TO i1 i2 l:Addr}{n:Nat} (Z:Q4c z TI TO i1 i2 [i1] [i2,l]) (hl:l≠i2) :
  Q1c P w K tg (Izs x K l n) [z,TO,i1,i2,TI] z (ZTs x t z TI TO i1 i2 l) where
 mem:=by simp
 obj:=fun i h t=>t.obj
 keep:=fun i h h' t k=>t.keep k
 item:=by
  intro X hP hw hK hc i ae s σ H E I hf st hg
  subst hP hw hK
  obtain⟨bZ,fh,ys,kc,hn⟩:=hg
  obtain⟨ce,dO,p2,oC⟩:=I.tuple kc
  have oq:=dO.length
  have hd:X.A.in1.handled=none:=I.ok.hd hc
  have so:=st.obj
  obtain⟨sz,jZ,⟨a0,b0,kH⟩,s1,s2⟩:=st
  have hy:ys[i]?=some (ys[i]'(by omega)):=ab _
  obtain⟨u',l8,nR⟩:=dO.get hy
  refine V1r Z (Z9g hd i1 x t) (Q8g hd i2 l hl ce.toArray) sz jZ kH s1 ⟨s2,p2⟩ (by omega) (by simp;omega) fun h' tk c y px py z1 t1 a1 a2 pr _ kp=>⟨_,rfl,?_⟩
  obtain⟨cc,tu,fD,rfl⟩:=px
  have ey:y=u':=by
   have:ce[i]?=some y:=by simpa using py
   rw [l8]at this;exact(aA this).symm
  subst ey
  have hT:∀b∈[z,TO,i1,i2,TI],b≠s.heap.objs.size:=fun b hb zz=>by
   obtain⟨o,ho,_⟩:=so b hb
   exact aZ _ (zz ▸ ay ho)
  refine V1q z1 fun h2 z2 sb=>?_
  have ib:∀c o,c∉[z,TO,i1,i2]->s.heap.get? c=some o->h2.get? c=some o:=fun c o hc e=>by
   simp only [av,aO,bO,not_or]at hc
   exact(sb.2 c hc.1).trans (kp c o hc.1 hc.2.1 hc.2.2.1 hc.2.2.2 e)
  have eT:IsTup h2 s.heap.objs.size ([Value.str ⟨#[cc]⟩ tu,y]).toArray:=⟨_,(sb.2 _ (hT z (by simp)).symm).trans pr,rfl,_,rfl⟩
  have lE:∀b∈[z,TO,i1,i2],O4 X ae H b:=fun b hb=>hf b (by
   simp only [av,aO,bO]at hb ⊢
   rcases hb with h | h | h | h <;> simp [h])
  have I2:=Q9x (t':=tk) (xs:=[.str ⟨#[cc]⟩,ys[i]'(by omega)]) I ib lE (ao s.heap.objs.size) eT (.cons ⟨tu,rfl⟩ (.cons nR .nil)) (by show 2<=sizeLine;decide)
  obtain⟨ta,tb,t1⟩:=t1
  obtain⟨o1,g1,r1⟩:=a1
  refine⟨.ref s.heap.objs.size,_,I2,rfl,⟨s.heap.objs.size,cc,_,fD,fun zs hz=>by rw [I.tuple_inj hz kc];exact hy,I.hok.fresh (ao _),rfl,rfl⟩,
   ⟨z2,(sb.2 _ Z.tiz).trans (kp _ _ Z.tiz Z.tito Z.ti1 Z.ti2 jZ),⟨_,_,(sb.2 _ Z.toz).trans t1⟩,⟨o1,(sb.2 _ Z.i1z).trans g1,r1⟩,(show ItB true h' i2 l (i+1)from a2.1).keep fun o e=>(sb.2 _ Z.i2z).trans e⟩,fun b hb=>?_⟩
  rw [B6 (hT b hb)]
  exact(hf b hb).1
 done:=by
  intro X hP hw hK hc i ae s σ H E I hf st hg
  subst hP hw hK
  obtain⟨hi,ys,kc,hn⟩:=hg
  obtain⟨ce,dO,p2,oC⟩:=I.tuple kc
  have oq:=dO.length
  have hd:X.A.in1.handled=none:=I.ok.hd hc
  obtain⟨sz,jZ,⟨a0,b0,kH⟩,s1,s2⟩:=st
  have lE:∀b∈[z,TO,i1,i2],O4 X ae H b:=fun b hb=>hf b (by
   simp only [av,aO,bO]at hb ⊢
   rcases hb with h | h | h | h <;> simp [h])
  refine V1s Z (Z9g hd i1 x t) (Q8g hd i2 l hl ce.toArray) sz jZ kH s1 ⟨s2,p2⟩ (by simp only [aE];omega) fun h' tk kp=>⟨rfl,Q5j I (fun c o hc e=>?_) lE⟩
  simp only [av,aO,bO,not_or]at hc
  exact kp c o hc.1 hc.2.1 hc.2.2.1 hc.2.2.2 e
 self:=fun A i s Q E st h=>Y5u st.1 h
theorem W8y {x:Str}{i:Nat}{c:Nat} (h:x.cps[i]?=some c):(F5 x)[i]?=some (.str ⟨#[c]⟩):=by
 unfold F5
 simp [h]
theorem Y3y (x:Str):(F5 x).length=x.cps.size:=by simp [F5]
theorem V1g {K:Fg9}{H0 H:Hp}{x:Str}{l:Addr}{ys:List V}{es:List D} (sq:H l=some (.tup ys)) (dm:AllS K H es ys):Yl K H0 (Izs x K l (min x.cps.size es.length)) (Q2h (F5 x) es) H where
 go:=fun H' k s i hi=>by
  rw [Y5s,Y3y]at hi
  exact⟨hi,Nat.min_le_left _ _,ys,D8.of (k.tup _ _ sq),by rw [dm.length]⟩
 yld:=fun H' k s i v cV d hd ⟨T,c,y,hx,hy,hT,hv,hH⟩=>by
  subst hH hv
  refine⟨G0 hT _,?_⟩
  obtain⟨d1,d2,e1,e2,rfl⟩:=V1l hd
  obtain⟨v2,iT,q2⟩:=dm.get e2
  rw [hy ys (D8.of (k.tup _ _ sq))]at iT;cases iT
  rw [W8y hx]at e1;cases e1
  have kp:=k.trans (Kp.of (G0 hT (.tup [.str ⟨#[c]⟩,y])))
  exact A2.s_tup upd_same (AllS.cons A2.s_str (AllS.cons (q2.mono kp _ _) AllS.nil))
 stop:=fun H' k s=>⟨by rw [Y5s,Y3y],ys,D8.of (k.tup _ _ sq),by rw [dm.length]⟩
section
variable {X:Cx}{H0:Hp}{a b tg:Expr}{wr:WA}{p pos:Pos}
def Q8m (wr:WA):WI:=fun τ Q=>wr τ fun rs=>∃x es,rs=[.st (.str x),.st (.tup es)]/\Q (Q2h (F5 x) es) τ
theorem DI.zipS (hg:Gl X "zip") (hm:X.mg "zip"=none) (ha:DA X H0 [a,b] wr) (he:starEach [a,b] X.env=(false,eval a X.env)::starEach [b] X.env:=by rfl) (hpl:(backTo pos (starEach [b] X.env)).any (·.1)=false:=by rfl) :
  DI X H0 tg (.Call (.Name "zip" p) [a,b] [] pos) (Q8m wr) where
 mono:=fun τ P Q f h=>ha.mono τ _ _ (fun r ⟨x,es,e1,q⟩=>⟨x,es,e1,f _ _ q⟩) h
 pi:=by
  intro ae s σ H R I ⟨τ,hR,h⟩
  refine bo (Q0p I hg hm (u:=.type "zip") rfl ?_ (by decide) (by decide))
  refine bt (B4 (ha.pa pos ae s σ H (fun vs H1=>A6 H H1/\∃x l ys es,vs=[.str x,.ref l]/\H1 l=some (.tup ys)/\AllS X.K H1 es ys/\∀J H',Kp H H'->C4 X.K H0 τ σ H'->Yl X.K H0 J (Q2h (F5 x) es) H'->R J H') I
   ⟨τ,hR,ha.mono τ _ _ (fun rs ⟨x,es,e1,q⟩ vs H1 s1 cu=>⟨s1,by
    subst e1
    obtain⟨v,u,rfl,ir,k9⟩:=Z7u cu
    cases (show v=.str x from ir)
    have k9:A2 X.K H1 (.tup es) u:=k9
    unfold A2 at k9
    obtain⟨l,ys,rfl,sq,al⟩:=k9
    exact⟨x,l,ys,es,rfl,sq,al,q⟩⟩) h⟩) fun us s1 bx=>?_) he hpl
  obtain⟨vs,H1,I1,rv,sm,x,l,ys,es,e1,sq,al,q⟩:=bx
  subst e1
  obtain⟨u1,u2,rfl,r1,r2⟩:=rv.two
  obtain⟨t,rfl⟩:=r1
  cases (show u2=Value.ref l from r2)
  obtain⟨ce,nQ,eW,oB⟩:=I1.tuple (D8.of (K:=X.K) sq)
  have hl:@LT.lt Nat _ l s1.heap.objs.size:=by obtain⟨o,ho,_⟩:=eW;exact ay ho
  refine Y7t (ys:=ce.toArray) eW fun h' hz fq fe pz kh hsz k=>?_
  have Z:Q4c (s1.heap.objs.size+4) (s1.heap.objs.size+2) (s1.heap.objs.size+3) s1.heap.objs.size (s1.heap.objs.size+1) [s1.heap.objs.size] [s1.heap.objs.size+1,l]:=by
   refine⟨?_,?_,?_,?_,?_,?_,?_,?_,?_,?_,fun b hb=>?_,fun b hb=>?_⟩
   all_goals first | (show ¬ ((_:Nat)=(_:Nat));omega) | skip
   ·rw [aI.mp hb];refine⟨?_,?_,?_⟩ <;> (show ¬ ((_:Nat)=(_:Nat));omega)
   ·simp only [av,aO,bO]at hb
    rcases hb with rfl | rfl <;> refine⟨?_,?_,?_⟩ <;> (show ¬ ((_:Nat)=(_:Nat));omega)
  refine Y5u (s:={ s1 with heap:=h' }) hz ⟨s1.heap.objs.size+4,[s1.heap.objs.size+4,s1.heap.objs.size+3,s1.heap.objs.size,s1.heap.objs.size+1,s1.heap.objs.size+2],_,_,H1,rfl,I1.kept (t':=s1.toks) k,V0m (n:=Min.min x.cps.size es.length) Z (aD (bu hl)),⟨hz,fq,⟨_,_,fe⟩,pz,kh⟩,fun b hb=>?_,q _ _ (Kp.of sm) (hR.mono sm) (V1g sq al)⟩
  have hb:s1.heap.objs.size<=b:=by
   simp only [av,aO,bO]at hb
   rcases hb with rfl | rfl | rfl | rfl | rfl <;> first | exact ao _ | exact Nat.le_add_right _ _
  exact I1.fpOk hb (I1.hok.fresh hb)
@[simp] theorem W8a {τ:A9}{Q:List D->A9->Prop}:Q8m wr τ Q=wr τ fun rs=>∃x es,rs=[.st (.str x),.st (.tup es)]/\Q (Q2h (F5 x) es) τ:=rfl
end
section
variable {X:Cx}{H0:Hp}
def Q6o (rs:List R) (Q:R->Prop):Prop:=∃i j:Int,rs=[.st (.int i),.st (.int j)]/\Q (.st (.int (if j > i then j else i)))
theorem W2d:Q1a Q6o:=fun rs P Q f ⟨i,j,e,h⟩=>⟨i,j,e,f _ h⟩
theorem Y7o (hc:X.calm=true):Q0y X (.builtin "max") Q6o:=by
 intro ae s σ H xs us Q I rv ⟨rs,cu,i,j,e,h⟩
 subst e
 obtain⟨v,v',rfl,iv,kY⟩:=Z7u cu
 cases (show v=.int i from iv)
 cases (show v'=.int j from kY)
 obtain⟨u,u',rfl,⟨t1,rfl⟩,⟨t2,rfl⟩⟩:=Z5l rv
 refine max_two_ints (I.ok.hd hc) fun h' tk k=>⟨_,H,I.kept (t':=tk) k,?_,h _ _ (A6.refl H) V6⟩
 by_cases bZ:j > i
 ·rw [aC bZ,aC bZ];exact⟨_,rfl⟩
 ·rw [ax bZ,ax bZ];exact⟨_,rfl⟩
@[simp] theorem W8i {a b:Int}{Q:R->Prop}:Q6o [.st (.int a),.st (.int b)] Q ↔ Q (.st (.int (if b > a then b else a))):=by
 constructor
 ·rintro ⟨i,j,e,h⟩;cases e;exact h
 ·intro h;exact⟨a,b,rfl,h⟩
end
section
variable {X:Cx}{H0:Hp}{e a:Expr}{es:List Expr}{wr:WA}{wa:WE}{k l:Nat}{f:Addr}{fd:FuncData}{ps:List Str}{x:Str}{p pos:Pos}{ts:List Addr}{st:Stmt}
theorem DE.cl {sp:E6} (F:Q7 X.prog X.w X.K X.mg X.base N1 l f fd ps (Q4r X.K (e::es).length sp)) (hr:E7 k X.A) (D:Df X.K X.mg x st ps f fd) (ha:DA X H0 (e::es) wr) (hl:l<=k:=by decide) (hg:Gl X x:=by rfl)
  (dC:(x==("__debug__":Str))=false:=by decide) (he:starEach (e::es) X.env=(false,eval e X.env)::starEach es X.env:=by rfl) (hpl:(backTo pos (starEach es X.env)).any (·.1)=false:=by rfl) :
  DE X H0 (.Call (.Name x p) (e::es) [] pos) (L8 sp wr):=DE.call F (hr.mono hl) hg D.m D.k D.b ha dC he hpl
theorem DE.clP {sp:J9} (lu:Z2 sp) (F:Q7 X.prog X.w X.K X.mg X.base N1 l f fd ps (Q4q X.K ts (e::es).length sp)) (hr:E7 k X.A) (hT:Q5y ts H0) (D:Df X.K X.mg x st ps f fd) (ha:DA X H0 (e::es) wr) (hl:l<=k:=by decide) (hg:Gl X x:=by rfl)
  (dC:(x==("__debug__":Str))=false:=by decide) (he:starEach (e::es) X.env=(false,eval e X.env)::starEach es X.env:=by rfl) (hpl:(backTo pos (starEach es X.env)).any (·.1)=false:=by rfl) :
  DE X H0 (.Call (.Name x p) (e::es) [] pos) (M4 sp wr):=DE.callP lu F (hr.mono hl) hT hg D.m D.k D.b ha dC he hpl
theorem DE.v (i:Nat) (hN:X.N[i]?=some x:=by rfl) (hv:Vis X.env.scope x:=by first | exact Or.inl rfl | exact Or.inr (Or.inl rfl) | exact Or.inr (Or.inr rfl)) (hd:(x==("__debug__":Str))=false:=by decide)
  (dS:(x==("__classdict__":Str))=false:=by decide):DE X H0 (.Name x pos) (wV i):=DE.var (pv i hN hv hd dS)
theorem DA.one (ha:DE X H0 a wa) (hs:starEach [a] X.env=(false,eval a X.env)::starEach [] X.env:=by rfl):DA X H0 [a] (A1 wa A5):=DA.cons ha DA.nil hs
theorem DS.sv (i:Nat) (he:DE X H0 e wa) (hN:X.N.Nodup) (hi:X.N[i]?=some x:=by rfl) (hx:Loc X.env.scope x:=by first | exact Or.inl rfl | exact Or.inr rfl) (hs:swapsWith e (some (.Name x p)) pos.line X.env=pure false:=by rfl)
  (hf:X.fn x=true\/X.env.scope.names.lookup x=some .local:=by first | exact .inl rfl | exact .inr rfl | assumption):DS X H0 (.Assign [.Name x p] e pos) (C1 i wa):=DS.set he hN hi hx hs hf
noncomputable def scB (N P:List Str) (sc:Scope):Bool:=decide (sc.kind=.function)&&!sc.isCoroutine&&!sc.isGenerator&&decide N.Nodup&&decide (N.take P.length=P)&&P.all (fun x=>decide (sc.names.lookup x=some .local)||decide (sc.names.lookup x=some .cell))&&sc.names.all (fun y=>decide (y.2≠.free))
theorem P7 {N P:List Str}{sc:Scope} (h:scB N P sc=true):K5 N P sc:=by
 unfold scB at h
 simp only [dj,decide_eq_true_eq,ck,Bool.or_eq_true,Bool.not_eq_true']at h
 obtain⟨⟨⟨⟨⟨⟨h1,h2⟩,h3⟩,h4⟩,h5⟩,h6⟩,h7⟩:=h
 exact⟨h1,h2,h3,h4,h5,h6,h7⟩
theorem Y6z:bootBuiltins "len"=some (.builtin "len"):=by decide +kernel
theorem Y7a:bootBuiltins "tuple"=some (.type "tuple"):=by decide +kernel
theorem DE.len (hm:X.mg "len"=none) (ha:DE X H0 a wa) (hg:Gl X "len":=by rfl) (hs:starEach [a] X.env=(false,eval a X.env)::starEach [] X.env:=by rfl) (hpl:(backTo pos (starEach [] X.env)).any (·.1)=false:=by rfl):DE X H0 (.Call (.Name "len" p) [a] [] pos) (D3 D9 (A1 wa A5)) :=
 DE.callB Y7k W1i hg hm Y6z (DA.cons ha DA.nil hs) (he:=hs) (hpl:=hpl)
theorem DE.tpl (hm:X.mg "tuple"=none) (ha:DE X H0 a wa) (hg:Gl X "tuple":=by rfl) (hs:starEach [a] X.env=(false,eval a X.env)::starEach [] X.env:=by rfl) (hpl:(backTo pos (starEach [] X.env)).any (·.1)=false:=by rfl):DE X H0 (.Call (.Name "tuple" p) [a] [] pos) (D3 Z0 (A1 wa A5)) :=
 DE.callTy Y7r V0g hg hm Y7a (DA.cons ha DA.nil hs) (he:=hs) (hpl:=hpl)
end
def Hr (K:Fg9) (n:Str) (st:Stmt) (f:Addr) (fd:FuncData):Prop:=PySem.W.nsIn K mainGlobals n=some (some (.ref f))/\Q3 K n n st f fd
def HrC (K:Fg9) (n:Str) (st:Stmt) (f:Addr) (fd:FuncData) (c Pt:Addr) (ts:List Addr):Prop:=PySem.W.nsIn K mainGlobals n=some (some (.ref f))/\PySem.W.keepIn K (.ref f)=true /\
 (∃(oc:Value) (od:Option Addr) (kV cP pm:Value) (an:Option Addr) (ct:Value) (dQ:Array (Option Value)),fd=PySem.W.fnOf n n (Q0k st) (T0 st) (C5 st) .none kV cP pm an (.ref c) ct/\K.lookup f=some ⟨oc,od,.func fd,dQ⟩/\PySem.W.codeIn K (.ref c) n=true) /\
 (∃(vo:Value) (vd:Option Addr) (vv:Array Value) (vs:Array (Option Value)),K.lookup c=some ⟨vo,vd,.fields vv,vs⟩/\vv[11]?=some (.ref Pt))/\PySem.W.codeHdIn K c Pt=true/\K.lookup Pt=none/\Pt∈ts
section
variable {K:Fg9}{h:Heap}{mg:Str->Option Value}{n:Str}{st:Stmt}{f c Pt:Addr}{fd:FuncData}{ts:List Addr}{ps:List Str}
theorem Q5 {oc:Value}{od an:Option Addr}{dQ:Array (Option Value)}{kV cP pm cdv ct:Value} (a:PySem.W.nsIn K mainGlobals n=some (some (.ref f))) (l:K.lookup f=some ⟨oc,od,.func (PySem.W.fnOf n n (Q0k st) (T0 st) (C5 st) .none kV cP pm an cdv ct),dQ⟩) (q:PySem.W.codeIn K cdv n=true) (k:PySem.W.keepIn K (.ref f)=true) :
  Hr K n st f (PySem.W.fnOf n n (Q0k st) (T0 st) (C5 st) .none kV cP pm an cdv ct):=⟨a,Y9g l q k⟩
theorem Y0c {oc vo:Value}{od an vd:Option Addr}{dQ vs:Array (Option Value)}{kV cP pm ct:Value}{vv:Array Value} (a:PySem.W.nsIn K mainGlobals n=some (some (.ref f))) (l:K.lookup f=some ⟨oc,od,.func (PySem.W.fnOf n n (Q0k st) (T0 st) (C5 st) .none kV cP pm an (.ref c) ct),dQ⟩) (q:PySem.W.codeIn K (.ref c) n=true) (k:PySem.W.keepIn K (.ref f)=true)
  (v:K.lookup c=some ⟨vo,vd,.fields vv,vs⟩) (p:vv[11]?=some (.ref Pt)) (e:PySem.W.codeHdIn K c Pt=true) (o:K.lookup Pt=none) (m:Pt∈ts):HrC K n st f (PySem.W.fnOf n n (Q0k st) (T0 st) (C5 st) .none kV cP pm an (.ref c) ct) c Pt ts :=
 ⟨a,k,⟨_,_,_,_,_,_,_,_,rfl,l,q⟩,⟨_,_,_,_,v,p⟩,e,o,m⟩
theorem Hr.df (H:Hr K n st f fd) (X:K.In h) (G:h.Ns mainGlobals mg) (hb:∀(kV cP pm:Value) (an:Option Addr) (cdv ct:Value) (us:List Value),us.length=ps.length->bindArgs (PySem.W.fnOf n n (Q0k st) (T0 st) (C5 st) .none kV cP pm an cdv ct) ⟨us,[]⟩=pure (ps.zip us)):Df K mg n st ps f fd :=
 ⟨H.2,H.2.binds hb,H.2.kp,PySem.W.mg_of X G H.1⟩
theorem HrC.hr (H:HrC K n st f fd c Pt ts):Hr K n st f fd:=let ⟨a,k,⟨oc,od,kV,cP,pm,an,ct,dQ,e,l,q⟩,_⟩:=H;⟨a,⟨oc,od,kV,cP,pm,an,_,ct,dQ,e,l,q⟩,k⟩
theorem HrC.fc (H:HrC K n st f fd c Pt ts):Q3l K n n st f fd c Pt:=let ⟨_,_,e,_,q,_⟩:=H;⟨e,q⟩
theorem HrC.tb (H:HrC K n st f fd c Pt ts):Pt∈ts:=let ⟨_,_,_,_,_,_,m⟩:=H;m
theorem HrC.at (H:HrC K n st f fd c Pt ts):(∃c,PySem.W.codeHdIn K c Pt=true)/\K.lookup Pt=none:=let ⟨_,_,_,_,q,n,_⟩:=H;⟨⟨_,q⟩,n⟩
end
end TK
end
section
namespace MC
open PySem PySem.Spec PyProof.Rows L2 TK
section
variable {α:Type} [DecidableEq α]
noncomputable def N2 (ks:List α) (g:α):List α:=if g∈ks then ks else ks++[g]
theorem Z7s {ks:List α}{g:α} (h:g∈ks):N2 ks g=ks:=aC h
theorem Z7t {ks:List α}{g:α} (h:g∉ks):N2 ks g=ks++[g]:=ax h
theorem Y6p (ks:List α) (g:α):ks <+: N2 ks g:=by
 unfold N2;split
 ·exact bD _
 ·exact cN _ _
theorem Z3h {ks:List α}{g x:α}:x∈N2 ks g ↔ x∈ks\/x=g:=by
 unfold N2;split
 ·constructor
  ·exact .inl
  ·rintro (h | rfl) <;> assumption
 ·rw [aN,aI]
theorem W2x {ks:List α}{g:α} (h:ks.Nodup):(N2 ks g).Nodup:=by
 unfold N2;split
 ·exact h
 ·rename_i n
  exact bh.mpr ⟨h,by simp,fun a ha b hb=>by
   rw [aI]at hb;rintro rfl;exact n (hb ▸ ha)⟩
theorem Z2p {ks ls:List α}{g:α} (p:ks <+: ls) (h:g∈ks):ls.idxOf g=ks.idxOf g:=by
 obtain⟨t,rfl⟩:=p
 rw [List.idxOf_append,aC h]
noncomputable def J6 (st:Nat->α):List Nat->List α->List Nat->List α×List Nat
 | [],ks,r=>(ks,r)
 | c::cs,ks,r=>J6 st cs (N2 ks (st c)) (r++[(N2 ks (st c)).idxOf (st c)])
theorem Q4z (st:Nat->α):∀(cs:List Nat) (ks:List α) (r:List Nat),ks <+: (J6 st cs ks r).1
 | [],ks,r=>bD _
 | c::cs,ks,r=>(Y6p ks (st c)).trans (Q4z st cs _ _)
theorem Y2j (st:Nat->α):∀(cs:List Nat) (ks:List α) (r:List Nat),ks.Nodup->(J6 st cs ks r).1.Nodup
 | [],ks,r,h=>h
 | c::cs,ks,r,h=>Y2j st cs _ _ (W2x h)
theorem Z3l (st:Nat->α) {x:α}:∀(cs:List Nat) (ks:List α) (r:List Nat),x∈(J6 st cs ks r).1 ↔ x∈ks\/∃c∈cs,x=st c
 | [],ks,r=>by simp [J6]
 | c::cs,ks,r=>by
  rw [J6,Z3l st cs,Z3h]
  simp [or_assoc]
theorem Q9e (st:Nat->α):∀(cs:List Nat) (ks:List α) (r:List Nat),(J6 st cs ks r).2=r++cs.map fun c=>(J6 st cs ks r).1.idxOf (st c)
 | [],ks,r=>by simp [J6]
 | c::cs,ks,r=>by
  have h:=Q9e st cs (N2 ks (st c)) (r++[(N2 ks (st c)).idxOf (st c)])
  have e:=Z2p (Q4z st cs (N2 ks (st c)) (r++[(N2 ks (st c)).idxOf (st c)])) (Z3h.mpr (.inr rfl):st c∈N2 ks (st c))
  rw [J6,h,au,e,bI]
  rfl
noncomputable abbrev B2:List Nat:=[0,1,2,3]
noncomputable def Q2 (step:α->Nat->α):Nat->List α->List (List Nat)->List α×List (List Nat)
 | 0,ks,rs=>(ks,rs)
 | n+1,ks,rs=>match ks[rs.length]? with
  | none=>(ks,rs)
  | some k=>Q2 step n (J6 (step k) B2 ks []).1 (rs++[(J6 (step k) B2 ks []).2])
structure Z3 (step:α->Nat->α) (start:α) (U:List α) (ks:List α) (rs:List (List Nat)):Prop where
 nd:ks.Nodup
 zero:ks[0]?=some start
 sub:∀k∈ks,k∈U
 len:rs.length<=ks.length
 row:∀(i:Nat) (r:List Nat),rs[i]?=some r->∃k,ks[i]?=some k/\(∀c∈B2,step k c∈ks)/\r=B2.map fun c=>ks.idxOf (step k c)
theorem Z3.start {step:α->Nat->α}{start:α}{U:List α} (h:start∈U):Z3 step start U [start] [] :=
 ⟨by simp,rfl,fun k hk=>by rw [aI]at hk;exact hk ▸ h,by simp,fun i r e=>by simp at e⟩
theorem Z3.next {step:α->Nat->α}{start k:α}{U:List α}{ks:List α}{rs:List (List Nat)} (hU:∀k∈U,∀c∈B2,step k c∈U) (W:Z3 step start U ks rs) (hk:ks[rs.length]?=some k) :
  Z3 step start U (J6 (step k) B2 ks []).1 (rs++[(J6 (step k) B2 ks []).2]):=by
 have p:=Q4z (step k) B2 ks []
 have kin:k∈ks:=aJ hk
 have get:∀{i:Nat}{x:α},ks[i]?=some x->(J6 (step k) B2 ks []).1[i]?=some x:=fun {i x} e=>by
  obtain⟨t,ht⟩:=p
  rw [<- ht,aK]
  ·exact e
  ·obtain⟨h,_⟩:=aG.mp e;exact h
 have lt:rs.length<ks.length:=by obtain⟨h,_⟩:=aG.mp hk;exact h
 refine⟨Y2j _ _ _ _ W.nd,get W.zero,fun x hx=>?_,?_,fun i r e=>?_⟩
 ·rcases (Z3l _ _ _ _).mp hx with h | ⟨c,hc,rfl⟩
  ·exact W.sub x h
  ·exact hU k (W.sub k kin) c hc
 ·rw [aq,bJ]
  exact aV lt p.length_le
 ·rcases aW i rs.length with h | h
  ·rw [aK h]at e
   obtain⟨k',e1,e2,e3⟩:=W.row i r e
   refine⟨k',get e1,fun c hc=>p.subset (e2 c hc),?_⟩
   rw [e3]
   exact bb fun c hc=>(Z2p p (e2 c hc)).symm
  ·rw [aU h]at e
   have:i-rs.length=0:=by
    rcases dZ (i-rs.length)with z | z
    ·exact z
    ·rw [aw.mpr (by simp;omega)]at e;cases e
   rw [this]at e
   have e:(J6 (step k) B2 ks []).2=r:=aA e
   refine⟨k,get (by rw [show i=rs.length by omega];exact hk),fun c hc=>(Z3l _ _ _ _).mpr (.inr ⟨c,hc,rfl⟩),?_⟩
   rw [<- e,Q9e,bL]
theorem Z3.bound {step:α->Nat->α}{start:α}{U:List α}{ks:List α}{rs:List (List Nat)} (W:Z3 step start U ks rs):ks.length<=U.length:=W.nd.length_le_of_subset fun x hx=>W.sub x hx
theorem Y5k {step:α->Nat->α}{start:α}{U:List α} (hU:∀k∈U,∀c∈B2,step k c∈U):∀(n:Nat) (ks:List α) (rs:List (List Nat)),Z3 step start U ks rs->U.length<=n+rs.length ->
  Z3 step start U (Q2 step n ks rs).1 (Q2 step n ks rs).2/\(Q2 step n ks rs).2.length=(Q2 step n ks rs).1.length
 | 0,ks,rs,W,h=>⟨W,by have:=W.bound;have:=W.len;simp [Q2];omega⟩
 | n+1,ks,rs,W,h=>by
  unfold Q2
  split
  ·rename_i e
   have:=aw.mp e
   exact⟨W,by have:=W.len;simp;omega⟩
  ·rename_i k e
   exact Y5k hU n _ _ (W.next hU e) (by simp;omega)
structure Q1x (step:α->Nat->α) (start:α) (U ks:List α) (rs:List (List Nat)):Prop where
 nd:ks.Nodup
 zero:ks[0]?=some start
 sub:∀k∈ks,k∈U
 len:rs.length=ks.length
 mem:∀k∈ks,∀c∈B2,step k c∈ks
 row:∀(i:Nat) (k:α),ks[i]?=some k->rs[i]?=some (B2.map fun c=>ks.idxOf (step k c))
noncomputable def Y0 (N:Nat) (step:α->Nat->α) (start:α):List α×List (List Nat):=Q2 step N [start] []
theorem Y5j {step:α->Nat->α}{start:α}{U:List α}{N:Nat} (hU:∀k∈U,∀c∈B2,step k c∈U) (hs:start∈U) (hN:U.length<=N):Q1x step start U (Y0 N step start).1 (Y0 N step start).2:=by
 unfold Y0
 obtain⟨W,e⟩:=Y5k hU N [start] [] (Z3.start hs) (by simpa using hN)
 refine⟨W.nd,W.zero,W.sub,e,fun k hk c hc=>?_,fun i k hk=>?_⟩
 ·obtain⟨i,hi,rfl⟩:=bp.mp hk
  have fA:i<(Q2 step N [start] []).2.length:=by rw [e];exact hi
  obtain⟨k',e1,e2,_⟩:=W.row i _ (ab fA)
  rw [ab hi]at e1
  cases e1
  exact e2 c hc
 ·obtain⟨hi,rfl⟩:=aG.mp hk
  have fA:i<(Q2 step N [start] []).2.length:=by rw [e];exact hi
  obtain⟨k',e1,_,e3⟩:=W.row i _ (ab fA)
  have eB:(Q2 step N [start] []).1[i]?=some k':=e1
  rw [ab hi]at eB
  cases eB
  rw [ab fA,e3]
section
variable {κ:Type} [DecidableEq κ] {key:α->κ}
noncomputable def kvm (key:α->κ) (L:List (α×D)):List (κ×D):=L.map fun p=>(key p.1,p.2)
theorem Q3p (inj:∀a b,key a=key b->a=b) (L:List (α×D)) (g:α):J7 (kvm key L) (key g)=J7 L g:=by
 induction L with
 | nil=>rfl
 | cons p L ih =>
  unfold J7 kvm at ih ⊢
  rw [au,bn,bn]
  by_cases h:p.1=g
  ·have:key p.1=key g:=by rw [h]
   simp [h]
  ·have:¬ key p.1=key g:=fun z=>h (inj _ _ z)
   simp only [h,this,decide_false]
   exact ih
theorem Y5d {L:List (α×D)}{g:α}:J7 L g=none ↔ g∉L.map (·.1):=by
 unfold J7
 rw [Option.map_eq_none_iff,List.find?_eq_none]
 simp only [ah,not_exists,decide_eq_true_eq]
 constructor
 ·rintro h x ⟨hx,rfl⟩;exact h x hx rfl
 ·rintro h x hx rfl;exact h x ⟨hx,rfl⟩
theorem Z5k {L:List (α×D)}{g:α}:(J7 L g).isSome=decide (g∈L.map (·.1)):=by
 by_cases h:g∈L.map (·.1)
 ·rw [be h]
  cases e:J7 L g with
  | none=>exact absurd h (Y5d.mp e)
  | some d=>rfl
 ·rw [bg h,Y5d.mpr h];rfl
theorem Z2x (inj:∀a b,key a=key b->a=b) {L:List (α×D)}{g:α} (h:g∉L.map (·.1)) (d:D):S4 (kvm key L) (key g) d=kvm key (L++[(g,d)]):=by
 unfold S4
 rw [ax]
 ·simp [kvm]
 ·intro z
  rw [List.any_eq_true]at z
  obtain⟨x,hx,e⟩:=z
  obtain⟨p,hp,rfl⟩:=ah.mp hx
  exact h (ah.mpr ⟨p,hp,inj _ _ (br e)⟩)
theorem Y5c {L:List (α×D)} (nd:(L.map (·.1)).Nodup) {g:α}{d:D} (h:(g,d)∈L):J7 L g=some d:=by
 induction L with
 | nil=>cases h
 | cons p L ih =>
  rw [au,bj]at nd
  unfold J7 at ih ⊢
  rw [bn]
  rcases av.mp h with rfl | h
  ·simp
  ·have:¬ p.1=g:=fun z=>nd.1 (z ▸ ah.mpr ⟨_,h,rfl⟩)
   simp only [this,decide_false]
   exact ih nd.2 h
noncomputable def U9 (ks:List α):List (α×D):=ks.zipIdx.map fun p=>(p.1,D.int (p.2:Int))
theorem Y1h (ks:List α):(U9 ks).map (·.1)=ks:=by
 unfold U9
 rw [aL]
 exact List.zipIdx_map_fst 0 ks
theorem W3d (ks:List α) (g:α):U9 (ks++[g])=U9 ks++[(g,D.int (ks.length:Int))]:=by
 unfold U9
 rw [List.zipIdx_append]
 simp
theorem Y1i {ks:List α}{g:α} (h:g∈ks):J7 (U9 ks) g=some (.int (ks.idxOf g:Nat)):=by
 have key:∀(ks:List α) (n:Nat),g∈ks->J7 (ks.zipIdx n |>.map fun p=>(p.1,D.int (p.2:Int))) g=some (.int ((n+ks.idxOf g:Nat):Int)):=by
  intro ks
  induction ks with
  | nil=>intro n h;cases h
  | cons k ks ih =>
   intro n h
   unfold J7 at ih ⊢
   rw [dh,au,bn]
   by_cases e:k=g
   ·subst e;simp
   ·have hg:g∈ks:=by
     rcases av.mp h with z | z
     ·exact absurd z.symm e
     ·exact z
    simp only [e,decide_false]
    rw [ih (n+1) hg,List.idxOf_cons]
    have e':(k==g)=false:=by simp [e]
    rw [e']
    simp
    omega
 have:=key ks 0 h
 rw [dH]at this
 exact this
end
end
abbrev Y6l:List Str:=["start","step","keys","numbers","rows","key","row","column","goal"]
abbrev Y6m:List Str:=["start","step","keys","numbers","rows","key","row","column","goal"]
def Z6q (dy:P5)  :WS:=(A7 (C1 2 (G6 (A1 (B5 (wV 0)) A5))) (A7 (Z0f 3 (wV 0) (wC (.int 0))) (A7 (C1 4 (G6 A5)) (A7 (Q7f 2 (Q3i (A3 (J3 fun i j=>decide (i<j)) (D3 D9 (A1 (wV 4) A5)) (D3 D9 (A1 (wV 2) A5))) (A7 (C1 5 (A3 B9 (wV 2) (D3 D9 (A1 (wV 4) A5)))) (A7 (C1 6 (G6 A5)) (A7 (K3 (Y4 (A1 (D3 D9 (A1 (wC (.str "01ab")) A5)) A5)) (B1 7) (A7 (C1 8 (Q3f dy 2 1 (A1 (wV 5) (A1 (wV 7) A5)))) (A7 (L1 (Q3g 3 (wV 8)) (A7 (Q3h 3 (wV 8) (D3 D9 (A1 (wV 2) A5))) (P3 2 (B5 (wV 8)))) L3) (P3 6 (B5 (Q1s 3 (wV 8))))))) (P3 4 (B5 (D3 Z0 (A1 (wV 6) A5))))))))) (I0 (Q3x (A1 (B5 (wV 2)) (A1 (B5 (D3 Z0 (A1 (wV 4) A5))) A5))))))))
abbrev Y6j:List Str:=["start","step","is_end","keys","texts","place","key","column","sign","goal"]
abbrev Z0r:List Str:=["some","onward","reached","states","place","state","goal"]
def Z5v   (K:Fg9) :WS:=(A7 (Z5q 2 1 [] (V7 (wV 0)) (B1 0) (wV 0) (B5 (wC (.int 0)))) (A7 (C1 3 (D3 Q3q (A1 (wV 2) A5))) (A7 (C1 4 (wC (.int 0))) (A7 (Q3i (A3 (J3 fun i j=>decide (i<j)) (wV 4) (D3 D9 (A1 (wV 3) A5))) (A7 (C1 5 (A3 B9 (wV 3) (wV 4))) (A7 (K3 (Z9 (B5 (A3 B9 (wV 1) (wV 5)))) (B1 6) (L1 (Q3g 2 (wV 6)) (A7 (Q3h 2 (wV 6) (A3 G2 (Q1s 2 (wV 5)) (wC (.int 1)))) (P3 3 (B5 (wV 6)))) L3)) (Q5o 4 (M5 NoC fun i j=>i+j) (wC (.int 1)))))) (Z5t K 2)))))
abbrev Q5w:List Str:=["ends","rows","wanted","backward","state","row","goal","reached"]
def Z5w   (K:Fg9) (sp_all_reached:J9):WS:=(A7 (Z5r 3 1 [] (jOr (Q2p (wV 1)) (V7 (wV 1))) (B1 0) (G6 A5)) (A7 (Z5p 3 (K3 (iOr (Q4l (A1 (wV 1) A5)) (Z2n (A1 (wV 1) A5))) (N4 2 (F4 (B1 4) (F4 (B1 5) O7))) (K3 (Q6i (wV 5)) (B1 6) (Q7g 3 (wV 6) (B5 (wV 4)))))) (A7 (Z5u 7 (M4 sp_all_reached (A1 (M6 2 [2] (Q8p (A1 (wV 0) A5)) (N4 2 (F4 (B1 0) (F4 (B1 1) O7))) (A3 (F8 60 false) (wV 1) (wV 2)) (B5 (wV 0))) (A1 (wV 3) A5)))) (I0 (M6 1 [7] (Q6l (A1 (D3 D9 (A1 (wV 0) A5)) A5)) (B1 0) W1 (B5 (Z5o K 1 (wV 0))))))))
abbrev Z7j:List Str:=["_law_script","_law_k"]
def Z0i  :WS:=(A7 (L1 (A3 (F8 60 false) (wV 0) (G6 A5)) (I0 (A3 T1 (wC (.int 7)) (wV 1))) L3) (I0 (A3 G2 (A3 B9 (wV 0) (A3 (M5 (fun _ j=>0<j) fun i j=>i % j) (wV 1) (D3 D9 (A1 (wV 0) A5)))) (A3 T1 (wC (.int 6553)) (A3 (M5 Q0x fun i j=>i / j) (wV 1) (D3 D9 (A1 (wV 0) A5)))))))
abbrev Z7k:List Str:=["_law_script","_law_k","_law_many","_law_cell_here"]
def Z6e  (e9:E6):WS:=(A7 (C1 3 (A3 (M5 (fun _ j=>0<j) fun i j=>i % j) (A3 G2 (A3 T1 (A3 (M5 (fun _ j=>0<j) fun i j=>i % j) (L8 e9 (A1 (wV 0) (A1 (wV 1) A5))) (wC (.int 2147483563))) (wC (.int 69069))) (A3 T1 (wC (.int 104723)) (A3 G2 (wV 1) (wC (.int 1))))) (wC (.int 2147483563)))) (A7 (C1 3 (A3 (M5 (fun _ j=>0<j) fun i j=>i % j) (A3 G2 (A3 T1 (wV 3) (wV 3)) (A3 (M5 Q0x fun i j=>i / j) (wV 3) (wC (.int 3)))) (wC (.int 2147483399)))) (I0 (A3 (M5 (fun _ j=>0<j) fun i j=>i % j) (A3 (M5 Q0x fun i j=>i / j) (A3 (M5 (fun _ j=>0<j) fun i j=>i % j) (A3 G2 (A3 T1 (wV 3) (wV 3)) (A3 (M5 Q0x fun i j=>i / j) (wV 3) (wC (.int 7)))) (wC (.int 2147483647))) (wC (.int 11))) (wV 2)))))
abbrev Q7l:List Str:=["_law_script","_law_at","_law_most","_law_size","_law_ends","_law_rows","_law_k"]
def Z6g  (cb:E6):WS:=(A7 (C1 3 (A3 G2 (wC (.int 1)) (L8 cb (A1 (wV 0) (A1 (wV 1) (A1 (wV 2) A5)))))) (A7 (C1 4 (D3 Z0 (A1 (M6 1 [0,1] (Q6l (A1 (wV 3) A5)) (B1 0) W1 (B5 (wB (A3 (F8 60 false) (L8 cb (A1 (wV 1) (A1 (A3 G2 (A3 G2 (wV 2) (wC (.int 1))) (wV 0)) (A1 (wC (.int 2)) A5)))) (wC (.int 0)))))) A5))) (A7 (C1 5 (G6 A5)) (A7 (K3 (Y4 (A1 (wV 3) A5)) (B1 6) (P3 5 (B5 (D3 Z0 (A1 (M6 1 [0,3,1,6] (Q6l (A1 (wC (.int 4)) A5)) (B1 0) W1 (B5 (L8 cb (A1 (wV 1) (A1 (A3 G2 (A3 G2 (A3 G2 (wV 3) (wC (.int 7))) (A3 T1 (wC (.int 4)) (wV 4))) (wV 0)) (A1 (wV 2) A5)))))) A5))))) (I0 (Q3x (A1 (B5 (wV 4)) (A1 (B5 (D3 Z0 (A1 (wV 5) A5))) A5))))))))
noncomputable abbrev iD (n:Nat):D:=.int (n:Int)
noncomputable abbrev rD (r:List Nat):D:=.tup (r.map iD)
noncomputable abbrev rsD (rs:List (List Nat)):D:=.tup (rs.map rD)
theorem sz {n:Nat} (h:n<=1000000):n<=sizeLine:=aV h (by decide)
theorem szl {n:Nat} (h:n<=1000000):n<sizeLine:=Nat.lt_of_le_of_lt h (by decide)
theorem ixn {n j:Nat} (h:j<n):ixN n (j:Int)=some j:=by
 have:K7 (List.range n) (j:Int)=some j:=Z6 (by rw [ab (by simpa using h)];simp)
 unfold K7 at this
 rw [b8]at this
 cases e:ixN n (j:Int)with
 | none=>rw [e]at this;cases this
 | some k =>
  rw [e]at this
  have this:(List.range n)[k]?=some j:=this
  obtain⟨hk,e2⟩:=aG.mp this
  rw [<- e2,List.getElem_range]
section
variable {α:Type} [DecidableEq α] {FC:P5}{f:Addr} {Φ:Hp->Prop}{sp:E6}{step:α->Nat->α}
section T
variable {ts:α->List D}{key:α->List B3}
theorem r4:N8 0 (Int.toNat ((Str.ofString "01ab").length:Int))=B2.map iD:=rfl
end T
end
section
variable {α:Type} [DecidableEq α] {FC:P5}{f:Addr} {Φ:Hp->Prop}{sp:E6}{step:α->Nat->α}
section T
variable {en:α->D}{key:α->B3}
def wbK (dy:P5):WS:=(A7 (C1 8 (Q3f dy 2 1 (A1 (wV 5) (A1 (wV 7) A5)))) (A7 (L1 (Q3g 3 (wV 8)) (A7 (Q3h 3 (wV 8) (D3 D9 (A1 (wV 2) A5))) (P3 2 (B5 (wV 8)))) L3) (P3 6 (B5 (Q1s 3 (wV 8))))))
theorem forK (hk:∀a,R0 (en a)=some (key a)) (inj:∀a b,key a=key b->a=b) (hF:FC 2 f Φ sp) {k:α}{E:F6}{o0 o4:Option Sl}:∀(cs:List Nat) (ks:List α) (r:List Nat) (o7 o8:Option Sl),
  (∀c∈cs,sp [.st ((en k)),.st (iD c)] (.st ((en (step k c)))))->ks.length+cs.length<=1000000->r.length+cs.length<=1000000 ->
  (∀o7 o8,E.nx [o0,some (.cl f Φ),some (.own ((J6 (step k) cs ks r).1.map fun a=>(en a))),some (.dk (kvm key (U9 (J6 (step k) cs ks r).1))),o4,some (.dat ((en k))),some (.own ((J6 (step k) cs ks r).2.map iD)),o7,o8]) ->
  D6 (B1 7) (wbK FC) E (cs.map iD) [o0,some (.cl f Φ),some (.own (ks.map fun a=>(en a))),some (.dk (kvm key (U9 ks))),o4,some (.dat ((en k))),some (.own (r.map iD)),o7,o8]
 | [],ks,r,o7,o8,_,_,_,h=>h o7 o8
 | c::cs,ks,r,o7,o8,hs,h1,h2,h=>by
  rw [aB]at h1 h2
  have lf:=hs c am
  have ih:=fun ot r'=>forK hk inj hF (k:=k) (E:=E) (o0:=o0) (o4:=o4) cs ot r'
  simp only [au,D6]
  have hv:=Q3p inj (U9 ks) (step k c)
  have hi:(J7 (kvm key (U9 ks)) (key (step k c))).isSome=decide (step k c∈ks):=by rw [hv,Z5k,Y1h]
  simp only [wbK,D7,M8,F9,Z4m,C7,B0,C2,V9,Z4p,Z4q,Q1p,E9,X6,Q9f,L0]
  refine⟨f,Φ,sp,rfl,hF,.dat ((en k)),rfl,.dat (iD c),rfl,rfl,_,lf,?_⟩
  simp only [Q6]
  refine⟨_,rfl,_,rfl,en (step k c),key (step k c),rfl,hk _,?_⟩
  rw [hi]
  by_cases hm:step k c∈ks
  ·have ea:N2 ks (step k c)=ks:=Z7s hm
   rw [ax (by simp [hm])]
   refine⟨_,rfl,_,rfl,_,rfl,en (step k c),key (step k c),_,rfl,hk _,by rw [hv];exact Y1i hm,_,rfl,szl (by simp;omega),?_⟩
   have e:(r.map iD++[D.int ((ks.idxOf (step k c):Nat):Int)])=(r++[ks.idxOf (step k c)]).map iD:=by simp
   show D6 _ _ _ _ [_,_,_,_,_,_,some (.own (r.map iD++[_])),_,_]
   rw [e]
   refine ih ks _ _ _ (fun c hc=>hs c (ai _ hc)) (by omega) (by simp;omega) ?_
   simpa only [J6,ea]using h
  ·have ea:N2 ks (step k c)=ks++[step k c]:=Z7t hm
   rw [aC (by simp [hm])]
   refine⟨_,rfl,_,rfl,_,rfl,_,rfl,en (step k c),key (step k c),rfl,hk _,szl (by simp [kvm,U9];omega),?_⟩
   have ep:S4 (kvm key (U9 ks)) (key (step k c)) (.int (ks.length:Int))=kvm key (U9 (ks++[step k c])):=by
    rw [Z2x inj (by rw [Y1h];exact hm),W3d]
   refine⟨_,rfl,_,rfl,_,rfl,szl (by simp;omega),?_⟩
   refine⟨_,rfl,_,rfl,_,rfl,en (step k c),key (step k c),.int (((ks++[step k c]).idxOf (step k c):Nat):Int),rfl,hk _,?_,_,rfl,szl (by simp;omega),?_⟩
   ·rw [ag,ep,Q3p inj];exact Y1i (by simp)
   ·have e:(r.map iD++[D.int (((ks++[step k c]).idxOf (step k c):Nat):Int)])=(r++[(ks++[step k c]).idxOf (step k c)]).map iD:=by simp
    have e2:(ks.map fun a=>en a)++[en (step k c)]=(ks++[step k c]).map fun a=>en a:=by simp
    show D6 _ _ _ _ [_,_,some (.own ((ks.map fun a=>en a)++[en (step k c)])),some (.dk (S4 (kvm key (U9 ks)) (key (step k c)) (.int ((ks.map fun a=>en a).length:Int)))),_,_,some (.own (r.map iD++[_])),_,_]
    rw [e,e2,ag,ep]
    refine ih _ _ _ _ (fun c hc=>hs c (ai _ hc)) (by simp;omega) (by simp;omega) ?_
    simpa only [J6,ea]using h
def wtK:WT:=(A3 (J3 fun i j=>decide (i<j)) (D3 D9 (A1 (wV 4) A5)) (D3 D9 (A1 (wV 2) A5)))
def wlK (dy:P5):WS:=(A7 (C1 5 (A3 B9 (wV 2) (D3 D9 (A1 (wV 4) A5)))) (A7 (C1 6 (G6 A5)) (A7 (K3 (Y4 (A1 (D3 D9 (A1 (wC (.str "01ab")) A5)) A5)) (B1 7) (wbK dy)) (P3 4 (B5 (D3 Z0 (A1 (wV 6) A5)))))))
theorem V0x (hk:∀a,R0 (en a)=some (key a)) (inj:∀a b,key a=key b->a=b) (hF:FC 2 f Φ sp) {start:α}{U:List α}{E:F6}{o0:Option Sl} (hU:∀k∈U,∀c∈B2,step k c∈U) (hl:U.length<=100000)
  (hs:∀k∈U,∀c∈B2,sp [.st ((en k)),.st (iD c)] (.st ((en (step k c))))):∀(n:Nat) (ks:List α) (rs:List (List Nat)) (o5 o6 o7 o8:Option Sl),Z3 step start U ks rs->U.length<=n+rs.length ->
  (∀o5 o6 o7 o8,E.nx [o0,some (.cl f Φ),some (.own ((Q2 step n ks rs).1.map fun a=>(en a))),some (.dk (kvm key (U9 (Q2 step n ks rs).1))),some (.own ((Q2 step n ks rs).2.map rD)),o5,o6,o7,o8]) ->
  J8 wtK (wlK FC) (n+1) E [o0,some (.cl f Φ),some (.own (ks.map fun a=>(en a))),some (.dk (kvm key (U9 ks))),some (.own (rs.map rD)),o5,o6,o7,o8]:=by
 intro n
 induction n with
 | zero =>
  intro ks rs o5 o6 o7 o8 W hn h
  have b:=W.bound
  simp only [J8,wtK,C8,L0,C7,B0,C2]
  refine⟨_,rfl,_,rfl,?_⟩
  simp only [O9,V8,U4,ag]
  rw [ax (by simp;omega)]
  exact h _ _ _ _
 | succ n ih =>
  intro ks rs o5 o6 o7 o8 W hn h
  have b:=W.bound
  have fh:=W.len
  rw [J8]
  simp only [wtK,C8,L0,C7,B0,C2]
  refine⟨_,rfl,_,rfl,?_⟩
  simp only [O9,V8,U4,ag]
  by_cases bZ:rs.length<ks.length
  ·rw [aC (by simpa using bZ)]
   have eB:ks[rs.length]?=some ks[rs.length]:=ab bZ
   have kin:=bR bZ
   generalize ks[rs.length]=k at eB kin
   have W2:=W.next hU eB
   have b2:=W2.bound
   simp only [wlK,D7,F9,C8,L0,C7,B0,C2,s_lst,S6,Z4n,E4,Q1p,E9]
   refine⟨_,rfl,_,rfl,?_⟩
   simp only [O9,V8,Q1l]
   refine⟨(en k),by rw [ag];exact Z6 (by rw [ak,eB];rfl),?_⟩
   refine⟨_,rfl,sz (by simp),?_⟩
   rw [L7,Z3s]
   refine⟨sz (by decide),_,rfl,by decide,by decide,?_⟩
   rw [r4]
   have hW:=h
   rw [Q2,eB]at hW
   refine forK hk inj hF (o0:=o0) (o4:=some (.own (rs.map rD))) B2 ks [] _ _ (hs k (W.sub k kin)) (by simp;omega) (by simp) fun o7 o8=>?_
   simp only [Q6,L7,Q8y,Q6q,Y1m]
   refine⟨_,rfl,_,rfl,_,rfl,_,rfl,szl (by simp;omega),?_⟩
   have e:rs.map rD++[D.tup ((J6 (step k) B2 ks []).2.map iD)]=(rs++[(J6 (step k) B2 ks []).2]).map rD:=by simp
   show J8 wtK (wlK FC) (n+1) E [_,_,_,_,some (.own (rs.map rD++[D.tup ((J6 (step k) B2 ks []).2.map iD)])),_,_,_,_]
   rw [e]
   exact ih _ _ _ _ _ _ W2 (by simp;omega) hW
  ·rw [ax (by simpa using bZ)]
   have e:ks[rs.length]?=none:=aw.mpr (by omega)
   rw [Q2,e]at h
   exact h _ _ _ _
noncomputable def Q5e (FC:P5):E6:=fun rs r=>∃(α:Type) (_:DecidableEq α) (en:α->D) (key:α->B3) (step:α->Nat->α) (start:α) (U:List α) (f:Addr) (Φ:Hp->Prop) (sp:E6),
 (∀a,R0 (en a)=some (key a))/\(∀a b,key a=key b->a=b)/\rs=[.st ((en start)),.cl f Φ]/\FC 2 f Φ sp/\start∈U/\U.length<=100000/\(∀k∈U,∀c∈B2,step k c∈U/\sp [.st ((en k)),.st (iD c)] (.st ((en (step k c))))) /\
 r=.st (.tup [.lst ((Y0 U.length step start).1.map fun a=>(en a)),rsD (Y0 U.length step start).2])
theorem W7m {FC:P5}:∀rs r,rs.length=2->Q5e FC rs r->Z6q FC (U6 r) (G9 Y6m rs):=by
 rintro rs r _ ⟨α,_,en,key,step,start,U,f,Φ,sp,hk,inj,rfl,hF,hs,hl,hU,rfl⟩
 have l2:(2:Nat)<=sizeLine:=by decide
 unfold Z6q
 simp only [D7,F9,s_lst,C7,E9,B0,C2,Y2v,E4,Y2s,R1,s_tup,L0]
 refine⟨_,rfl,_,rfl,sz (by simp),?_⟩
 refine⟨(by decide:3<9),_,rfl,en start,key start,rfl,hk _,_,rfl,_,rfl,sz (by simp),?_⟩
 refine⟨U.length+1,?_⟩
 refine V0x hk inj hF (step:=step) (start:=start) (U:=U) (fun k h c hc=>(hU k h c hc).1) hl (fun k h c hc=>(hU k h c hc).2) U.length [start] [] _ _ _ _ (Z3.start hs) (by simp) fun o5 o6 o7 o8=>?_
 refine⟨_,rfl,_,rfl,_,rfl,?_⟩
 simp only [N7,O9,Q8y,Q6q,Y1m]
 refine⟨_,rfl,_,rfl,l2,rfl⟩
end T
end
noncomputable abbrev ik (n:Nat):B3:=.inl (n:Int)
theorem Q4m (a b:Nat) (h:ik a=ik b):a=b:=by
 have:(a:Int)=(b:Int):=Sum.inl.inj h
 omega
noncomputable abbrev kR (R:List (Nat×Nat)):List (B3×D):=kvm ik (R.map fun q=>(q.1,iD q.2))
noncomputable def T7 (R:List (Nat×Nat)) (g d:Nat):List (Nat×Nat):=if g∈R.map (·.1)then R else R++[(g,d)]
noncomputable def goR (d:Nat):List Nat->List (Nat×Nat)->List (Nat×Nat)
 | [],R=>R
 | g::gs,R=>goR d gs (T7 R g d)
noncomputable def Q1n (on:List (List Nat)):Nat->List (Nat×Nat)->Nat->List (Nat×Nat)
 | 0,R,_=>R
 | n+1,R,p=>match R[p]? with
  | none=>R
  | some q=>Q1n on n (goR (q.2+1) (on[q.1]?.getD []) R) (p+1)
noncomputable def T2 (on:List (List Nat)) (xs:List Nat):List (Nat×Nat):=Q1n on on.length (xs.map fun x=>(x,0)) 0
theorem Z2w (R:List (Nat×Nat)):(R.map fun q=>(q.1,iD q.2)).map (·.1)=R.map (·.1):=by simp
theorem Z7r (R:List (Nat×Nat)) (g d:Nat):R <+: T7 R g d:=by
 unfold T7;split
 ·exact bD _
 ·exact cN _ _
theorem Z2k (d:Nat):∀(gs:List Nat) (R:List (Nat×Nat)),R <+: goR d gs R
 | [],R=>bD _
 | g::gs,R=>(Z7r R g d).trans (Z2k d gs _)
theorem Y6o {R:List (Nat×Nat)}{g d:Nat} (h:(R.map (·.1)).Nodup):((T7 R g d).map (·.1)).Nodup:=by
 unfold T7;split
 ·exact h
 ·rename_i n
  rw [aY,bh]
  exact⟨h,by simp,fun a ha b hb=>by
   simp at hb;rintro rfl;exact n (hb ▸ ha)⟩
theorem Z9w {d:Nat}:∀(gs:List Nat) (R:List (Nat×Nat)),(R.map (·.1)).Nodup->((goR d gs R).map (·.1)).Nodup
 | [],R,h=>h
 | g::gs,R,h=>Z9w gs _ (Y6o h)
theorem Z3g {R:List (Nat×Nat)}{g d:Nat}{q:Nat×Nat} (h:q∈T7 R g d):q∈R\/q=(g,d):=by
 unfold T7 at h;split at h
 ·exact .inl h
 ·simpa using h
theorem Q8v {d:Nat}{q:Nat×Nat}:∀(gs:List Nat) (R:List (Nat×Nat)),q∈goR d gs R->q∈R\/∃g∈gs,q=(g,d)
 | [],R,h=>.inl h
 | g::gs,R,h=>by
  rcases Q8v gs _ h with h | ⟨g',h1,h2⟩
  ·rcases Z3g h with h | h
   ·exact .inl h
   ·exact .inr ⟨g,by simp,h⟩
  ·exact .inr ⟨g',by simp [h1],h2⟩
structure Q1b (n:Nat) (R:List (Nat×Nat)):Prop where
 nd:(R.map (·.1)).Nodup
 lt:∀q∈R,q.1<n
theorem Q1b.bound {n:Nat}{R:List (Nat×Nat)} (h:Q1b n R):R.length<=n:=by
 have:=h.nd.length_le_of_subset (l₂:=List.range n) fun x hx=>by
  obtain⟨q,hq,rfl⟩:=ah.mp hx
  exact aM.mpr (h.lt q hq)
 simpa using this
theorem Q1b.go {n d:Nat}{R:List (Nat×Nat)}{gs:List Nat} (h:Q1b n R) (hg:∀g∈gs,g<n):Q1b n (goR d gs R) :=
 ⟨Z9w gs R h.nd,fun q hq=>by
  rcases Q8v gs R hq with h' | ⟨g,h1,rfl⟩
  ·exact h.lt q h'
  ·exact hg g h1⟩
theorem V0r {R:List (Nat×Nat)} (nd:(R.map (·.1)).Nodup) {s d:Nat} (h:(s,d)∈R):J7 (kR R) (ik s)=some (iD d):=by
 rw [Q3p Q4m]
 exact Y5c (by rw [Z2w];exact nd) (ah.mpr ⟨_,h,rfl⟩)
theorem W0j (R:List (Nat×Nat)) (g:Nat):(J7 (kR R) (ik g)).isSome=decide (g∈R.map (·.1)):=by
 rw [Q3p Q4m,Z5k,Z2w]
theorem Y2b {R:List (Nat×Nat)}{g d:Nat} (h:g∉R.map (·.1)):S4 (kR R) (ik g) (iD d)=kR (R++[(g,d)]):=by
 rw [Z2x Q4m (by rw [Z2w];exact h)];simp [kR]
theorem Z8x {Q:List (B3×D)->Prop}:∀(xs:List Nat) (R:List (Nat×Nat)) (o:Option Sl),(R.map (·.1)++xs).Nodup->Q (kR (R++xs.map fun x=>(x,0))) ->
  V5 (B1 0) (wV 0) (B5 (wC (.int 0))) (xs.map iD) [o] (kR R) Q
 | [],R,o,_,h=>by simpa [V5]using h
 | x::xs,R,o,nd,h=>by
  have nx:x∉R.map (·.1):=fun z=>by
   have:=(bh.mp nd).2.2 x z x (by simp)
   exact this rfl
  rw [au,V5]
  simp only [M8,B0,E9,E4]
  refine⟨_,rfl,iD x,ik x,rfl,rfl,_,rfl,?_⟩
  have e:=Y2b (d:=0) nx
  show V5 _ _ _ _ _ (S4 (kR R) (ik x) (iD 0)) _
  rw [e]
  refine Z8x xs _ _ (by simpa using nd) ?_
  simpa using h
noncomputable abbrev llD (on:List (List Nat)):D:=.lst (on.map fun l=>.lst (l.map iD))
def wbR:WS:=(L1 (Q3g 2 (wV 6)) (A7 (Q3h 2 (wV 6) (A3 G2 (Q1s 2 (wV 5)) (wC (.int 1)))) (P3 3 (B5 (wV 6)))) L3)
theorem forR {s d n:Nat}{E:F6}{o0 o1 o4:Option Sl} (hn:n<=100000):∀(gs:List Nat) (R:List (Nat×Nat)) (o6:Option Sl),Q1b n R->(s,d)∈R->(∀g∈gs,g<n) ->
  (∀o6,E.nx [o0,o1,some (.dk (kR (goR (d+1) gs R))),some (.own ((goR (d+1) gs R).map fun q=>iD q.1)),o4,some (.dat (iD s)),o6]) ->
  D6 (B1 6) wbR E (gs.map iD) [o0,o1,some (.dk (kR R)),some (.own (R.map fun q=>iD q.1)),o4,some (.dat (iD s)),o6]
 | [],R,o6,_,_,_,h=>h o6
 | g::gs,R,o6,hI,hs,hg,h=>by
  have b:=hI.bound
  have ih:=forR (s:=s) (d:=d) (E:=E) (o0:=o0) (o1:=o1) (o4:=o4) hn gs
  have jF:Q1b n (T7 R g (d+1)):=hI.go (d:=d+1) (gs:=[g]) (by simpa using hg g (by simp))
  have iU:(s,d)∈T7 R g (d+1):=(Z7r R g (d+1)).subset hs
  have b2:=jF.bound
  rw [au,D6]
  simp only [wbR,M8,V9,Z4p,B0,D7,Z4q,C8,Q9f,E4,Q1p,E9,X6]
  refine⟨_,rfl,_,rfl,iD g,ik g,rfl,rfl,?_⟩
  rw [W0j]
  by_cases hm:g∈R.map (·.1)
  ·have ea:T7 R g (d+1)=R:=aC hm
   rw [ax (by simpa using hm)]
   refine ih R _ hI hs (fun g' h'=>hg g' (by simp [h'])) ?_
   simpa only [goR,ea]using h
  ·have ea:T7 R g (d+1)=R++[(g,d+1)]:=ax hm
   rw [aC (by simpa using hm)]
   refine⟨_,rfl,_,rfl,iD s,ik s,iD d,rfl,rfl,V0r hI.nd hs,?_⟩
   rw [Q0c]
   refine⟨_,rfl,_,rfl,_,rfl,iD g,ik g,rfl,rfl,szl (by simp [kvm];omega),_,rfl,_,rfl,_,rfl,szl (by simp;omega),?_⟩
   have e1:S4 (kR R) (ik g) (.int ((d:Int)+1))=kR (T7 R g (d+1)):=by
    rw [ea,<- Y2b hm];rfl
   have e2:(R.map fun q=>iD q.1)++[iD g]=(T7 R g (d+1)).map fun q=>iD q.1:=by rw [ea];simp
   show D6 _ _ _ _ [_,_,some (.dk (S4 (kR R) (ik g) (.int ((d:Int)+1)))),some (.own ((R.map fun q=>iD q.1)++[iD g])),_,_,_]
   rw [e1,e2]
   exact ih _ _ jF iU (fun g' h'=>hg g' (by simp [h'])) h
def wtR:WT:=(A3 (J3 fun i j=>decide (i<j)) (wV 4) (D3 D9 (A1 (wV 3) A5)))
def wlR:WS:=(A7 (C1 5 (A3 B9 (wV 3) (wV 4))) (A7 (K3 (Z9 (B5 (A3 B9 (wV 1) (wV 5)))) (B1 6) wbR) (Q5o 4 (M5 NoC fun i j=>i+j) (wC (.int 1)))))
theorem V0z {on:List (List Nat)}{E:F6}{o0:Option Sl} (gT:∀l∈on,∀g∈l,g<on.length) (hl:on.length<=100000):∀(n:Nat) (R:List (Nat×Nat)) (p:Nat) (o5 o6:Option Sl),Q1b on.length R->on.length<=n+p ->
  (∀o4 o5 o6,E.nx [o0,some (.dat (llD on)),some (.dk (kR (Q1n on n R p))),some (.own ((Q1n on n R p).map fun q=>iD q.1)),o4,o5,o6]) ->
  J8 wtR wlR (n+1) E [o0,some (.dat (llD on)),some (.dk (kR R)),some (.own (R.map fun q=>iD q.1)),some (.dat (iD p)),o5,o6]:=by
 intro n
 induction n with
 | zero =>
  intro R p o5 o6 hI hp h
  have b:=hI.bound
  simp only [J8,wtR,C8,L0,C7,B0,C2]
  refine⟨_,rfl,_,rfl,?_⟩
  simp only [N7,O9,V8,U4,ag]
  rw [ax (by simp;omega)]
  exact h _ _ _
 | succ n ih =>
  intro R p o5 o6 hI hp h
  have b:=hI.bound
  rw [J8]
  simp only [wtR,C8,L0,C7,B0,C2]
  refine⟨_,rfl,_,rfl,?_⟩
  simp only [N7,O9,V8,U4,ag]
  by_cases bZ:p<R.length
  ·rw [aC (by simpa using bZ)]
   have eB:R[p]?=some R[p]:=ab bZ
   have kin:=bR bZ
   generalize R[p]=q at eB kin
   obtain⟨s,d⟩:=q
   have hs:s<on.length:=hI.lt _ kin
   have fi:on[s]?=some on[s]:=ab hs
   have iq:=gT _ (bR hs)
   simp only [wlR,D7,F9,C8,B0,S6,Q6r,E9,Y2p,E4]
   refine⟨_,rfl,_,rfl,?_⟩
   rw [O9,N7,Q1l]
   refine⟨iD s,Z6 (by rw [ak,eB];rfl),_,rfl,_,rfl,?_⟩
   rw [N7]
   simp only [N7,Z3q]
   refine⟨.lst (on[s].map iD),Z6 (by rw [ak,fi];rfl),_,rfl,?_⟩
   rw [Q1n,eB]at h
   simp only [fi]at h
   refine forR (n:=on.length) (d:=d) hl on[s] R _ hI kin iq fun o6=>?_
   refine⟨_,rfl,trivial,?_⟩
   have e:((p:Int)+1)=((p+1:Nat):Int):=by omega
   show J8 wtR wlR (n+1) E [_,_,_,_,some (.dat (.int ((p:Int)+1))),_,_]
   rw [e]
   exact ih _ _ _ _ (hI.go iq) (by omega) h
  ·rw [ax (by simpa using bZ)]
   have e:R[p]?=none:=aw.mpr (by omega)
   rw [Q1n,e]at h
   exact h _ _ _
noncomputable def sp_all_reached (K:Fg9):J9:=fun rs Pr=>∃(xs:List Nat) (on:List (List Nat)),rs=[.bw (xs.map iD),.st (llD on)]/\xs.Nodup/\(∀x∈xs,x<on.length)/\(∀l∈on,∀g∈l,g<on.length)/\on.length<=100000/\∀a,Pr (.cl a (FzD K a (kR (T2 on xs))))
theorem W2l {K:Fg9}:Z2 (sp_all_reached K):=by rintro rs P Q f ⟨xs,on,e,h1,h2,h3,h4,h5⟩;exact⟨xs,on,e,h1,h2,h3,h4,fun a=>f _ (h5 a)⟩
theorem W6r {K:Fg9}:∀rs Pr,rs.length=2->sp_all_reached K rs Pr->Z5v K (P4 Pr) (G9 Z0r rs):=by
 rintro rs Pr _ ⟨xs,on,rfl,nd,hx,gT,hl,h⟩
 have hI:Q1b on.length (xs.map fun x=>(x,0)):=⟨by simpa [Function.comp_def]using nd,fun q hq=>by
  obtain⟨x,h1,rfl⟩:=ah.mp hq
  exact hx x h1⟩
 have b:=hI.bound
 rw [ag]at b
 unfold Z5v
 simp only [D7,W8e,Q2w,B0,F9,L0,C7,C2,E4,W8l]
 refine⟨_,rfl,_,rfl,szl (by simp;omega),?_⟩
 refine Z8x xs [] _ (by simpa using nd) ?_
 refine⟨_,rfl,?_⟩
 have el:(kR ([]++xs.map fun x=>(x,0))).map (fun p=>kyD p.1)=((xs.map fun x=>(x,0)).map fun q=>iD q.1):=by simp [kvm,kyD]
 show Q3q [.dk _] _
 rw [W8h,el,bL]
 simp only [Q6,L7]
 refine⟨on.length+1,?_⟩
 refine V0z gT hl on.length (xs.map fun x=>(x,0)) 0 _ _ hI (by omega) fun o4 o5 o6=>?_
 exact⟨_,rfl,h⟩
structure Wf (es:List Bool) (rows:List (List Nat)):Prop where
 len:rows.length=es.length
 pos:0<es.length
 r4:∀r∈rows,r.length=4
 lt:∀r∈rows,∀x∈r,x<es.length
noncomputable def Z5 (B:List (List Nat)) (g s:Nat):List (List Nat):=B.set g (B.getD g []++[s])
noncomputable def Q1z (s:Nat):List Nat->List (List Nat)->List (List Nat)
 | [],B=>B
 | g::gs,B=>Q1z s gs (Z5 B g s)
noncomputable def Q1y:Nat->List (List Nat)->List (List Nat)->List (List Nat)
 | _,[],B=>B
 | s,r::rs,B=>Q1y (s+1) rs (Q1z s r B)
noncomputable def K9 (rows:List (List Nat)):List (List Nat):=Q1y 0 rows (rows.map fun _=>[])
noncomputable abbrev lls (B:List (List Nat)):List (List D):=B.map fun l=>l.map iD
theorem Z1d (B:List (List Nat)) (g s:Nat):(Z5 B g s).length=B.length:=by simp [Z5]
theorem Q7v {s:Nat}:∀(gs:List Nat) (B:List (List Nat)),(Q1z s gs B).length=B.length
 | [],B=>rfl
 | g::gs,B=>by rw [Q1z,Q7v gs,Z1d]
theorem Z7y:∀(rs:List (List Nat)) (s:Nat) (B:List (List Nat)),(Q1y s rs B).length=B.length
 | [],s,B=>rfl
 | r::rs,s,B=>by rw [Q1y,Z7y rs,Q7v]
theorem Y0q (B:List (List Nat)) (g:Nat):(lls B).getD g []=(B.getD g []).map iD:=by
 rw [ar,ar,ak]
 cases B[g]? <;> rfl
theorem W1t (B:List (List Nat)) (g s:Nat):(lls B).set g ((lls B).getD g []++[iD s])=lls (Z5 B g s):=by
 rw [Y0q]
 unfold Z5 lls
 rw [List.map_set]
 simp
theorem Z9v {B:List (List Nat)}{m g:Nat} (h:∀l∈B,l.length<=m):(B.getD g []).length<=m:=by
 rw [ar]
 cases e:B[g]? with
 | none=>simp
 | some l=>exact h l (aJ e)
theorem Z7q {B:List (List Nat)}{m g s:Nat} (h:∀l∈B,l.length<=m):∀l∈Z5 B g s,l.length<=m+1:=by
 intro l hl
 rcases List.mem_or_eq_of_mem_set hl with h' | rfl
 ·exact Nat.le_succ_of_le (h l h')
 ·have:=Z9v (g:=g) h
  rw [aq,bJ];omega
theorem Z7z {s:Nat}:∀(gs:List Nat) (B:List (List Nat)) (m:Nat),(∀l∈B,l.length<=m)->∀l∈Q1z s gs B,l.length<=m+gs.length
 | [],B,m,h=>h
 | g::gs,B,m,h=>fun l hl=>by
  have:=Z7z gs _ (m+1) (Z7q h) l hl
  simp;omega
theorem W2e {B:List (List Nat)}{g s i x:Nat} (hx:x∈(Z5 B g s).getD i []):x∈B.getD i []\/(i=g/\x=s):=by
 unfold Z5 at hx
 rw [ar,List.getElem?_set]at hx
 by_cases h:g=i
 ·subst h
  by_cases hl:g<B.length
  ·rw [aC rfl,aC hl]at hx
   rcases aN.mp (show x∈B.getD g []++[s]from hx)with h | h
   ·exact .inl h
   ·exact .inr ⟨rfl,by simpa using h⟩
  ·rw [aC rfl,ax hl]at hx
   cases hx
 ·rw [ax h]at hx
  exact .inl (by rw [ar];exact hx)
theorem W2g {B:List (List Nat)}{g s i x:Nat} (hx:x∈B.getD i []):x∈(Z5 B g s).getD i []:=by
 unfold Z5
 rw [ar]at hx ⊢
 rw [List.getElem?_set]
 by_cases h:g=i
 ·subst h
  by_cases hl:g<B.length
  ·rw [aC rfl,aC hl]
   exact bP _ (by rw [ar];exact hx)
  ·rw [aw.mpr (by omega)]at hx;cases hx
 ·rw [ax h];exact hx
theorem W2f {B:List (List Nat)}{g s:Nat} (hl:g<B.length):s∈(Z5 B g s).getD g []:=by
 unfold Z5
 rw [ar,List.getElem?_set,aC rfl,aC hl]
 exact aF _ (by simp)
theorem Y0u {s i x:Nat}:∀(gs:List Nat) (B:List (List Nat)),(∀g∈gs,g<B.length)->(x∈(Q1z s gs B).getD i [] ↔ x∈B.getD i []\/(i∈gs/\x=s))
 | [],B,_=>by simp [Q1z]
 | g::gs,B,h=>by
  rw [Q1z,Y0u gs _ (fun g' h'=>by rw [Z1d];exact h g' (by simp [h']))]
  constructor
  ·rintro (h' | ⟨h1,h2⟩)
   ·rcases W2e h' with h' | ⟨h1,h2⟩
    ·exact .inl h'
    ·exact .inr ⟨by simp [h1],h2⟩
   ·exact .inr ⟨by simp [h1],h2⟩
  ·rintro (h' | ⟨h1,rfl⟩)
   ·exact .inl (W2g h')
   ·rcases av.mp h1 with rfl | h1
    ·exact .inl (W2f (h _ (by simp)))
    ·exact .inr ⟨h1,rfl⟩
theorem Y0t {i x:Nat}:∀(rs:List (List Nat)) (s:Nat) (B:List (List Nat)),(∀r∈rs,∀g∈r,g<B.length)->(x∈(Q1y s rs B).getD i [] ↔ x∈B.getD i []\/∃j r,rs[j]?=some r/\i∈r/\x=s+j)
 | [],s,B,_=>by simp [Q1y]
 | r::rs,s,B,h=>by
  rw [Q1y,Y0t rs _ _ (fun r' h' g hg=>by rw [Q7v];exact h r' (by simp [h']) g hg),Y0u _ _ (h r (by simp))]
  constructor
  ·rintro ((h' | ⟨h1,rfl⟩) | ⟨j,r',e,h1,rfl⟩)
   ·exact .inl h'
   ·exact .inr ⟨0,r,rfl,h1,rfl⟩
   ·exact .inr ⟨j+1,r',by simpa using e,h1,by omega⟩
  ·rintro (h' | ⟨j,r',e,h1,rfl⟩)
   ·exact .inl (.inl h')
   ·cases j with
    | zero=>cases e;exact .inl (.inr ⟨h1,rfl⟩)
    | succ j=>exact .inr ⟨j,r',by simpa using e,h1,by omega⟩
theorem Z3i {rows:List (List Nat)} (h:∀r∈rows,∀g∈r,g<rows.length) {i x:Nat}:x∈(K9 rows).getD i [] ↔ ∃r,rows[x]?=some r/\i∈r:=by
 unfold K9
 rw [Y0t rows 0 _ (fun r hr g hg=>by rw [ag];exact h r hr g hg)]
 have e0:x∉(rows.map fun _=>([]:List Nat)).getD i []:=by
  rw [ar,ak]
  cases rows[i]? <;> simp
 constructor
 ·rintro (h' | ⟨j,r,e,h1,rfl⟩)
  ·exact absurd h' e0
  ·exact⟨r,by rw [dH];exact e,h1⟩
 ·rintro ⟨r,e,h1⟩
  exact .inr ⟨x,r,e,h1,by omega⟩
theorem Q7u (rows:List (List Nat)):(K9 rows).length=rows.length:=by simp [K9,Z7y]
theorem Z7x {rows:List (List Nat)} (h:∀r∈rows,∀g∈r,g<rows.length):∀l∈K9 rows,∀x∈l,x<(K9 rows).length:=by
 intro l hl x hx
 obtain⟨i,hi,rfl⟩:=bp.mp hl
 have:x∈(K9 rows).getD i []:=by rw [ar,ab hi];exact hx
 obtain⟨r,e,_⟩:=(Z3i h).mp this
 obtain⟨h',_⟩:=aG.mp e
 rw [Q7u];exact h'
noncomputable def N3 (es:List Bool) (b:Bool):List Nat:=((es.zipIdx).filter fun p=>p.1==b).map (·.2)
theorem Z3j {es:List Bool}{b:Bool}{i:Nat}:i∈N3 es b ↔ es[i]?=some b:=by
 unfold N3
 rw [ah]
 constructor
 ·rintro ⟨⟨c,j⟩,h,rfl⟩
  rw [ba]at h
  have h1:=List.mem_zipIdx_iff_getElem?.mp h.1
  have h2:c=b:=by simpa using h.2
  subst h2;exact h1
 ·intro h
  exact⟨(b,i),ba.mpr ⟨List.mem_zipIdx_iff_getElem?.mpr h,by simp⟩,rfl⟩
theorem Z9h {es:List Bool}{b:Bool}:∀x∈N3 es b,x<es.length:=fun x hx=>by
 obtain⟨h,_⟩:=aG.mp (Z3j.mp hx);exact h
theorem Z9i {es:List Bool}{b:Bool}:(N3 es b).Nodup:=by
 have:(es.zipIdx.map (·.2)).Nodup:=by rw [List.zipIdx_map_snd];exact List.nodup_range'
 exact this.sublist (List.filter_sublist.map _)
noncomputable def Q0a (R:List (Nat×Nat)) (s:Nat):Option Nat:=(R.find? fun q=>decide (q.1=s)).map (·.2)
noncomputable abbrev oD:Option Nat->D
 | none=>.non
 | some d=>iD d
theorem V0s (R:List (Nat×Nat)) (s:Nat):(J7 (kR R) (ik s)).getD .non=oD (Q0a R s):=by
 rw [Q3p Q4m]
 unfold J7 Q0a
 induction R with
 | nil=>rfl
 | cons q R ih =>
  rw [au,bn,bn]
  by_cases h:q.1=s
  ·simp [h]
  ·simp only [h,decide_false];exact ih
noncomputable def Q6e (es:List Bool) (rows:List (List Nat)) (b:Bool):List (Option Nat):=(List.range es.length).map (Q0a (T2 (K9 rows) (N3 es b)))
theorem Z8z {Q:List (List D)->Prop}:∀(ds:List D) (o:Option Sl),Q (ds.map fun _=>[])->Z8 (B1 0) (G6 A5) ds [o] Q
 | [],o,h=>h
 | d::ds,o,h=>by
  rw [Z8]
  simp only [M8,s_lst,C2]
  exact⟨_,rfl,sz (by simp),_,rfl,Z8z ds _ h⟩
@[simp] theorem nll1 {d:D}:K8 (some (.dat d))=true:=rfl
@[simp] theorem nll2:K8 none=true:=rfl
theorem forB {s:Nat}{E:F6}{a:Addr}{o0 o1 o2 o5 o7:Option Sl} (n0:K8 o0=true) (n1:K8 o1=true) (n2:K8 o2=true) (n5:K8 o5=true) (n7:K8 o7=true):∀(gs:List Nat) (B:List (List Nat)) (m:Nat) (o6:Option Sl),K8 o6=true ->
  (∀g∈gs,g<B.length)->(∀l∈B,l.length<=m)->m+gs.length<=1000000 ->
  (∀o6,K8 o6=true->E.nx [o0,o1,o2,some (.ll a (lls (Q1z s gs B))),some (.dat (iD s)),o5,o6,o7]) ->
  D6 (B1 6) (Q7g 3 (wV 6) (B5 (wV 4))) E (gs.map iD) [o0,o1,o2,some (.ll a (lls B)),some (.dat (iD s)),o5,o6,o7]
 | [],B,m,o6,n6,_,_,_,h=>h o6 n6
 | g::gs,B,m,o6,n6,hg,hm,hz,h=>by
  rw [aB]at hz
  have gl:=hg g (by simp)
  have bd:=Z9v (g:=g) hm
  rw [au,D6]
  simp only [M8,W8f,B0,E9]
  refine⟨a,lls B,rfl,?_,_,rfl,_,g,rfl,?_,_,rfl,_,rfl,?_,?_⟩
  ·show(K8 o0&&(K8 o1&&(K8 o2&&([some (.dat (iD s)),o5,some (.dat (iD g)),o7]:A9).all K8)))=true
   simp [n0,n1,n2,n5,n7,nll1]
  ·rw [ag];exact ixn gl
  ·rw [Y0q,ag];exact szl (by omega)
  ·show D6 _ _ _ _ [_,_,_,some (.ll a ((lls B).set g ((lls B).getD g []++[iD s]))),_,_,_,_]
   rw [W1t]
   exact forB n0 n1 n2 n5 n7 gs _ (m+1) _ rfl (fun g' h'=>by rw [Z1d];exact hg g' (by simp [h'])) (Z7q hm) (by omega) h
theorem Z9r {E:F6}{a:Addr}{o0 o1 o2 o7:Option Sl} (n0:K8 o0=true) (n1:K8 o1=true) (n2:K8 o2=true) (n7:K8 o7=true):∀(rs:List (List Nat)) (s:Nat) (B:List (List Nat)) (m:Nat) (o4 o5 o6:Option Sl),K8 o4=true->K8 o5=true->K8 o6=true ->
  (∀r∈rs,r.length=4/\∀g∈r,g<B.length)->(∀l∈B,l.length<=m)->m+4*rs.length<=1000000 ->
  (∀o4 o5 o6,K8 o4=true->K8 o5=true->K8 o6=true->E.nx [o0,o1,o2,some (.ll a (lls (Q1y s rs B))),o4,o5,o6,o7]) ->
  D6 (N4 2 (F4 (B1 4) (F4 (B1 5) O7))) (K3 (Q6i (wV 5)) (B1 6) (Q7g 3 (wV 6) (B5 (wV 4)))) E ((rs.zipIdx s).map fun p=>.tup [.int (p.2:Int),rD p.1]) [o0,o1,o2,some (.ll a (lls B)),o4,o5,o6,o7]
 | [],s,B,m,o4,o5,o6,n4,n5,n6,_,_,_,h=>h o4 o5 o6 n4 n5 n6
 | r::rs,s,B,m,o4,o5,o6,n4,n5,n6,hg,hm,hz,h=>by
  rw [aB]at hz
  obtain⟨l4,gl⟩:=hg r (by simp)
  rw [dh,au,D6]
  simp only [Q2v,Q2t,M8,Q2u,S6,W7z,B0]
  refine⟨_,rfl,rfl,_,_,rfl,_,_,rfl,rfl,_,rfl,_,rfl,?_⟩
  refine forB n0 n1 n2 (o5:=some (.dat (rD r))) rfl n7 r B m o6 n6 gl hm (by omega) fun o6 n6=>?_
  exact Z9r n0 n1 n2 n7 rs (s+1) _ (m+4) _ _ _ rfl rfl n6 (fun r' h'=>⟨(hg r' (by simp [h'])).1,fun g h2=>by rw [Q7v];exact(hg r' (by simp [h'])).2 g h2⟩)
   (by have:=Z7z (s:=s) r B m hm;rw [l4]at this;exact this) (by omega) h
theorem Z1z {b:Bool}{Q:List D->Prop}:∀(es:List Bool) (n:Nat) (o0 o1:Option Sl),Q (((es.zipIdx n).filter fun p=>p.1==b).map fun p=>iD p.2) ->
  M2 (N4 2 (F4 (B1 0) (F4 (B1 1) O7))) (A3 (F8 60 false) (wV 1) (wV 2)) (B5 (wV 0)) ((es.zipIdx n).map fun p=>.tup [.int (p.2:Int),.bl p.1]) [o0,o1,some (.dat (.bl b))] Q
 | [],n,o0,o1,h=>h
 | e::es,n,o0,o1,h=>by
  rw [dh,au,M2]
  simp only [Q2v,Q2t,M8,Q2u,C8,B0,E9]
  refine⟨_,rfl,rfl,_,_,rfl,_,_,rfl,rfl,_,rfl,_,rfl,?_⟩
  simp only [N7,o_eq,o_d1]
  refine⟨_,_,rfl,rfl,by simp [D.depth],?_⟩
  rw [dh,c7]at h
  by_cases hb:e=b
  ·subst hb
   simp only [BEq.rfl,gj]at h
   simp only [o_e3,BEq.rfl,gj,dY,cO]
   exact⟨_,rfl,_,rfl,Z1z es (n+1) _ _ h⟩
  ·have gZ:(e==b)=false:=by simpa using hb
   simp only [gZ,cO,dY]at h
   simp only [o_e3,gZ,dY,cO]
   exact Z1z es (n+1) _ _ h
def T6 (ra:R) (es:List Bool):Prop:=ra=.bw (es.map .bl)\/ra=.st (.tup (es.map .bl))
theorem T6.rd {ra:R}{es:List Bool} (h:T6 ra es):rdS (R4 ra)=ra:=by rcases h with rfl | rfl <;> rfl
theorem T6.nll {ra:R}{es:List Bool} (h:T6 ra es):K8 (some (R4 ra))=true:=by rcases h with rfl | rfl <;> rfl
theorem T6.sq {ra:R}{es:List Bool} (h:T6 ra es):Q9m ra=some (es.map .bl):=by rcases h with rfl | rfl <;> rfl
theorem T6.len {ra:R}{es:List Bool} (h:T6 ra es) {Q:R->Prop}:D9 [ra] Q=Q (.st (.int (es.length:Int))):=by
 rcases h with rfl | rfl
 ·rw [V8,ag]
 ·rw [Z3r,ag]
def RwD (d:D) (rows:List (List Nat)):Prop:=d=rsD rows\/d=.lst (rows.map rD)
theorem RwD.j {d:D}{rows:List (List Nat)} (h:RwD d rows) {τ:A9}{i:Nat} (e:τ[i]?=some (some (.dat d))) {Q:List D->Prop} (q:Q (rows.map rD)):jOr (Q2p (wV i)) (V7 (wV i)) τ Q:=by
 rcases h with rfl | rfl
 ·exact .inl ⟨_,e,_,rfl,q⟩
 ·exact .inr ⟨_,e,_,rfl,q⟩
theorem RwD.i {d:D}{rows:List (List Nat)} (h:RwD d rows) {τ:A9}{i:Nat} (e:τ[i]?=some (some (.dat d))) {Q:List D->A9->Prop} (q:Q (K0 (rows.map rD)) τ):iOr (Q4l (A1 (wV i) A5)) (Z2n (A1 (wV i) A5)) τ Q:=by
 rcases h with rfl | rfl
 ·exact .inl ⟨_,e,.inr ⟨_,rfl,q⟩⟩
 ·exact .inr ⟨_,e,_,rfl,q⟩
noncomputable def Q3v:J9:=fun rs Pr=>∃ra es rows b d,rs=[ra,.st d,.st (.bl b)]/\RwD d rows/\T6 ra es/\Wf es rows/\es.length<=20000/\Pr (.nw ((Q6e es rows b).map oD))
theorem W2m:Z2 Q3v:=by rintro rs P Q f ⟨ra,es,rows,b,d,e,h0,h1,h2,h3,h4⟩;exact⟨ra,es,rows,b,d,e,h0,h1,h2,h3,f _ h4⟩
theorem W6t {K:Fg9}:∀rs Pr,rs.length=3->Q3v rs Pr->Z5w K (sp_all_reached K) (P4 Pr) (G9 Q5w rs):=by
 rintro rs Pr _ ⟨ra,es,rows,b,d,rfl,hd,ha,wf,hl,h⟩
 have wl:=wf.len
 have bZ:∀r∈rows,∀g∈r,g<rows.length:=fun r hr g hg=>by rw [wl];exact wf.lt r hr g hg
 unfold Z5w
 simp only [D7,W8g,Q5a,B0,W7w,S6,Y2t,C7,C2,W8m,V0,V1,Y2u,R1,Z4o,L0]
 refine hd.j rfl ⟨sz (by simp;omega),?_⟩
 refine Z8z _ _ fun a=>?_
 refine hd.i rfl ?_
 have e1:K0 (rows.map rD)=(rows.zipIdx 0).map fun p=>.tup [.int (p.2:Int),rD p.1]:=by
  unfold K0;rw [List.zipIdx_map,aL];rfl
 have e2:((rows.map rD).map fun _=>([]:List D))=lls (rows.map fun _=>[]):=by simp [lls]
 rw [e1,e2]
 refine Z9r (o0:=some (R4 ra)) (o1:=some (.dat d)) (o2:=some (.dat (.bl b))) (o7:=none) ha.nll rfl rfl rfl rows 0 _ 0 none none none rfl rfl rfl (fun r hr=>⟨wf.r4 r hr,fun g hg=>by rw [ag];exact bZ r hr g hg⟩) (fun l hl=>by simp at hl;simp [hl.2]) (by omega) fun o4 o5 o6 n4 n5 n6=>?_
 refine⟨a,_,rfl,?_,?_⟩
 ·show(K8 _&&(K8 _&&(K8 _&&([o4,o5,o6,none]:A9).all K8)))=true
  have:=ha.nll
  simp [this,n4,n5,n6,nll1,nll2]
 refine⟨_,rfl,?_⟩
 show ∃r ds,[rdS (R4 ra)]=[r]/\_
 refine⟨_,_,rfl,by rw [ha.rd];exact ha.sq,sz (by simp [K0];omega),?_⟩
 have e3:K0 (es.map .bl)=(es.zipIdx 0).map fun p=>.tup [.int (p.2:Int),.bl p.1]:=by
  unfold K0;rw [List.zipIdx_map,aL];rfl
 rw [e3]
 refine Z1z es 0 _ _ ?_
 refine⟨_,rfl,rfl,N3 es b,K9 rows,?_,Z9i,fun x hx=>by rw [Q7u,wl];exact Z9h x hx,Z7x bZ,by rw [Q7u,wl];omega,fun a'=>?_⟩
 ·have q1:((es.zipIdx 0).filter fun p=>p.1==b).map (fun p=>iD p.2)=(N3 es b).map iD:=by unfold N3;rw [aL];rfl
  have q2:D.lst ((lls (Q1y 0 rows (rows.map fun _=>[]))).map D.lst)=llD (K9 rows):=by unfold lls llD K9;rw [aL];rfl
  show [R.bw _,R.st (.lst _)]=_
  rw [q1,q2]
 refine⟨a',_,rfl,?_⟩
 refine⟨_,rfl,?_⟩
 show D9 [rdS (R4 ra)] _
 rw [ha.rd,ha.len]
 refine⟨_,rfl,by omega,by omega,sz (by simp [N8];omega),?_⟩
 have hf:∀i:Nat,(J7 (kR (T2 (K9 rows) (N3 es b))) (ik i)).getD .non=oD (Q0a (T2 (K9 rows) (N3 es b)) i):=V0s _
 have er:N8 0 (es.length:Int).toNat=(List.range es.length).map iD:=by simp [N8]
 rw [er]
 refine Q1d (f:=fun d=>match d with | .int i=>(J7 (kR (T2 (K9 rows) (N3 es b))) (.inl i)).getD .non | d=>d) _ _ _ (fun d hd Q' q=>?_) ?_
 ·obtain⟨i,_,rfl⟩:=ah.mp hd
  simp only [E9,W7v,B0]
  exact⟨a',_,rfl,_,rfl,_,ik i,rfl,rfl,q⟩
 ·rw [aL]
  have:(List.range es.length).map ((fun d=>match d with | .int i=>(J7 (kR (T2 (K9 rows) (N3 es b))) (.inl i)).getD .non | d=>d) ∘ iD)=(Q6e es rows b).map oD:=by
   unfold Q6e
   rw [aL]
   exact bb fun i _=>hf i
  rw [this]
  exact h
noncomputable abbrev A8:=List Bool×List (List Nat)
noncomputable abbrev mD (m:A8):D:=.tup [.tup (m.1.map .bl),rsD m.2]
abbrev D5 (m:A8):Prop:=Wf m.1 m.2
noncomputable def C6 (rows:List (List Nat)) (s c:Nat):Nat:=(rows.getD s []).getD c 0
theorem W7r {rows:List (List Nat)}{s c:Nat}{r:List Nat} (h:rows[s]?=some r) (hc:c<r.length):r[c]?=some (C6 rows s c):=by
 unfold C6
 rw [ar,ar,h,Option.getD_some,ab hc,Option.getD_some]
theorem Wf.row {es:List Bool}{rows:List (List Nat)} (w:Wf es rows) {s:Nat} (h:s<es.length):∃r,rows[s]?=some r/\r.length=4/\∀c<4,r[c]?=some (C6 rows s c)/\C6 rows s c<es.length:=by
 have h':s<rows.length:=by rw [w.len];exact h
 have e:rows[s]?=some rows[s]:=ab h'
 have m:=bR h'
 refine⟨_,e,w.r4 _ m,fun c hc=>?_⟩
 have g:=W7r e (c:=c) (by rw [w.r4 _ m];exact hc)
 exact⟨g,w.lt _ m _ (aJ g)⟩
theorem Z1x {c:Nat} (h:c∈B2):c<4:=by
 simp [B2]at h;omega
theorem W1z {c:Nat} (h:c<4):c∈B2:=by
 simp [B2];omega
section
variable {α:Type} [DecidableEq α]
noncomputable def Q4f (U:List α) (step:α->Nat->α) (start:α) (fin:α->Bool):A8:=((Y0 U.length step start).1.map fin,(Y0 U.length step start).2)
theorem Q1x.wf {step:α->Nat->α}{start:α}{U ks:List α}{rs:List (List Nat)} (W:Q1x step start U ks rs) (fin:α->Bool):Wf (ks.map fin) rs:=by
 have gN:∀r∈rs,∃k∈ks,r=B2.map fun c=>ks.idxOf (step k c):=fun r hr=>by
  obtain⟨i,hi,rfl⟩:=bp.mp hr
  have fA:i<ks.length:=by rw [<- W.len];exact hi
  have:=W.row i _ (ab fA)
  rw [ab hi]at this
  exact⟨_,bR fA,aA this⟩
 refine⟨by rw [ag];exact W.len,?_,fun r hr=>?_,fun r hr x hx=>?_⟩
 ·rw [ag]
  obtain⟨h,_⟩:=aG.mp W.zero;exact h
 ·obtain⟨k,_,rfl⟩:=gN r hr;rfl
 ·rw [ag]
  obtain⟨k,hk,rfl⟩:=gN r hr
  obtain⟨c,hc,rfl⟩:=ah.mp hx
  exact List.idxOf_lt_length_iff.mpr (W.mem k hk c hc)
theorem Q1x.le {step:α->Nat->α}{start:α}{U ks:List α}{rs:List (List Nat)} (W:Q1x step start U ks rs):ks.length<=U.length:=W.nd.length_le_of_subset fun x hx=>W.sub x hx
end
theorem S8 {b:List D}{i:Nat}{d:D} (h:b[i]?=some d) {Q:R->Prop} (q:Q (.st d)):B9 (.st (.tup b)) (.st (.int (i:Int))) Q:=by
 rw [W3i];exact⟨_,Z6 h,q⟩
theorem Q7w {es:List Bool}{i:Nat} (h:i<es.length):(es.map D.bl)[i]?=some (.bl (es.getD i false)):=by
 rw [ak,ar,ab h];rfl
noncomputable abbrev sD:Option Str->D
 | none=>.non
 | some t=>.str t
noncomputable abbrev T8:List (Nat×Str):=[(0,"0"),(1,"1"),(2,"a"),(3,"b")]
theorem enm4:K0 (F5 "01ab")=T8.map fun p=>.tup [.int (p.1:Int),.str p.2]:=rfl
section
variable {α:Type} [DecidableEq α]
noncomputable def W6 (T:List (α×Str)) (g:α) (t:Str):List (α×Str):=if g∈T.map (·.1)then T else T++[(g,t)]
noncomputable def goT (st:Nat->α) (t:Str):List (Nat×Str)->List (α×Str)->List (α×Str)
 | [],T=>T
 | c::cs,T=>goT st t cs (W6 T (st c.1) (t++c.2))
noncomputable def ftN (step:α->Nat->α) (fin:α->Bool):Nat->List (α×Str)->Nat->Option Str
 | 0,_,_=>none
 | n+1,T,p=>match T[p]? with
  | none=>none
  | some q=>if fin q.1 then some q.2 else ftN step fin n (goT (step q.1) q.2 T8 T) (p+1)
noncomputable def Q2c (n:Nat) (step:α->Nat->α) (start:α) (fin:α->Bool):Option Str:=ftN step fin n [(start,"")] 0
structure V3 (U:List α) (T:List (α×Str)):Prop where
 nd:(T.map (·.1)).Nodup
 sub:∀q∈T,q.1∈U
 len:∀q∈T,q.2.length<T.length
theorem V3.bound {U:List α}{T:List (α×Str)} (h:V3 U T):T.length<=U.length:=by
 have:=h.nd.length_le_of_subset fun x hx=>by
  obtain⟨q,hq,rfl⟩:=ah.mp hx
  exact h.sub q hq
 simpa using this
theorem Z1g (T:List (α×Str)) (g:α) (t:Str):T <+: W6 T g t:=by
 unfold W6;split
 ·exact bD _
 ·exact cN _ _
theorem V3.add {U:List α}{T:List (α×Str)} (h:V3 U T) {g k:α}{t s:Str} (hg:g∈U) (hk:(k,t)∈T) (hs:s.length=1):V3 U (W6 T g (t++s)):=by
 unfold W6;split
 ·exact h
 ·rename_i n
  have hl:=h.len _ hk
  refine⟨?_,fun q hq=>?_,fun q hq=>?_⟩
  ·rw [aY,bh]
   exact⟨h.nd,by simp,fun a ha b hb=>by
    simp at hb;rintro rfl;exact n (hb ▸ ha)⟩
  ·rcases aN.mp hq with hq | hq
   ·exact h.sub q hq
   ·rw [aI.mp hq];exact hg
  ·rw [aq,bJ]
   rcases aN.mp hq with hq | hq
   ·have:=h.len q hq;omega
   ·rw [aI.mp hq]
    show(t++s).length<_
    rw [PySem.Str.length_append,hs]
    have hl:t.length<T.length:=hl
    omega
theorem V3.go {U:List α}{st:Nat->α}{k:α}{t:Str}:∀(cs:List (Nat×Str)) (T:List (α×Str)),V3 U T->(k,t)∈T->(∀c∈cs,st c.1∈U/\c.2.length=1)->V3 U (goT st t cs T)
 | [],T,h,_,_=>h
 | c::cs,T,h,hk,hc=>V3.go cs _ (h.add (hc c (by simp)).1 hk (hc c (by simp)).2) ((Z1g _ _ _).subset hk) fun c' h'=>hc c' (by simp [h'])
theorem Q2l {c:Nat×Str} (h:c∈T8):c.1∈B2/\c.2.length=1:=by
 simp only [T8,av,aO,bO]at h
 rcases h with rfl | rfl | rfl | rfl <;> exact⟨by decide,rfl⟩
section T
variable {FC:P5}{f f2:Addr} {Φ Φ2:Hp->Prop}{sp gK:E6}{step:α->Nat->α}{fin:α->Bool}{ts:α->List D}{key:α->List B3}
theorem Z5j (T:List (α×Str)):(T.map fun q=>(q.1,D.str q.2)).map (·.1)=T.map (·.1):=by simp
end T
end
theorem Y4v {α:Type}{U:List α}{st:α} (h:st∈U):V3 U [(st,("":Str))]:=⟨by simp,fun q hq=>by rw [aI.mp hq];exact h,fun q hq=>by rw [aI.mp hq];show(Str.ofString "").length<1;decide⟩
abbrev Y6k:List Str:=["start","step","is_end","keys","texts","place","key","column","sign","goal"]
def Z5x (dy:P5)  :WS:=(A7 (C1 3 (G6 (A1 (B5 (wV 0)) A5))) (A7 (Z0f 4 (wV 0) (wC (.str ""))) (A7 (C1 5 (wC (.int 0))) (A7 (Q3i (A3 (J3 fun i j=>decide (i<j)) (wV 5) (D3 D9 (A1 (wV 3) A5))) (A7 (C1 6 (A3 B9 (wV 3) (wV 5))) (A7 (L1 (Q0v (Q3f dy 1 2 (A1 (wV 6) A5))) (I0 (Q1s 4 (wV 6))) L3) (A7 (K3 (Q4l (A1 (wC (.str "01ab")) A5)) (N4 2 (F4 (B1 7) (F4 (B1 8) O7))) (A7 (C1 9 (Q3f dy 2 1 (A1 (wV 6) (A1 (wV 7) A5)))) (L1 (Q3g 4 (wV 9)) (A7 (Q3h 4 (wV 9) (A3 G2 (Q1s 4 (wV 6)) (wV 8))) (P3 3 (B5 (wV 9)))) L3))) (Q5o 5 (M5 NoC fun i j=>i+j) (wC (.int 1))))))) (I0 (wC .non))))))
section
variable {α:Type} [DecidableEq α]
variable {FC:P5}{f f2:Addr} {Φ Φ2:Hp->Prop}{sp gK:E6}{step:α->Nat->α}{fin:α->Bool}{en:α->D}{key:α->B3}
noncomputable abbrev tK (key:α->B3) (T:List (α×Str)):List (B3×D):=kvm key (T.map fun q=>(q.1,.str q.2))
theorem Y4h (inj:∀a b,key a=key b->a=b) {T:List (α×Str)} (nd:(T.map (·.1)).Nodup) {k:α}{t:Str} (h:(k,t)∈T):J7 (tK key T) (key k)=some (.str t):=by
 rw [Q3p inj]
 exact Y5c (by rw [Z5j];exact nd) (ah.mpr ⟨_,h,rfl⟩)
def Z6r (dy:P5):WS:=(A7 (C1 9 (Q3f dy 2 1 (A1 (wV 6) (A1 (wV 7) A5)))) (L1 (Q3g 4 (wV 9)) (A7 (Q3h 4 (wV 9) (A3 G2 (Q1s 4 (wV 6)) (wV 8))) (P3 3 (B5 (wV 9)))) L3))
theorem Z9s (hk:∀a,R0 (en a)=some (key a)) (inj:∀a b,key a=key b->a=b) (hF:FC 2 f Φ sp) {U:List α} (hl:U.length<=100000) {k:α}{t:Str}{E:F6}{o0 o2 o5:Option Sl}:∀(cs:List (Nat×Str)) (T:List (α×Str)) (o7 o8 o9:Option Sl),
  V3 U T->(k,t)∈T->(∀c∈cs,(step k c.1∈U/\c.2.length=1)/\sp [.st ((en k)),.st (iD c.1)] (.st ((en (step k c.1))))) ->
  (∀o7 o8 o9,E.nx [o0,some (.cl f Φ),o2,some (.own ((goT (step k) t cs T).map fun q=>(en q.1))),some (.dk (tK key (goT (step k) t cs T))),o5,some (.dat ((en k))),o7,o8,o9]) ->
  D6 (N4 2 (F4 (B1 7) (F4 (B1 8) O7))) (Z6r FC) E (cs.map fun p=>.tup [.int (p.1:Int),.str p.2]) [o0,some (.cl f Φ),o2,some (.own (T.map fun q=>(en q.1))),some (.dk (tK key T)),o5,some (.dat ((en k))),o7,o8,o9]
 | [],T,o7,o8,o9,_,_,_,h=>h o7 o8 o9
 | c::cs,T,o7,o8,o9,hI,hkt,hs,h=>by
  obtain⟨⟨hU,h1⟩,lf⟩:=hs c am
  have b:=hI.bound
  have jF:=hI.add hU hkt h1
  have pj:=(Z1g T (step k c.1) (t++c.2)).subset hkt
  have b2:=jF.bound
  have ih:=Z9s hk inj hF hl (k:=k) (t:=t) (E:=E) (o0:=o0) (o2:=o2) (o5:=o5) cs
  have bN:=hI.len _ hkt
  have bN:t.length<T.length:=bN
  have hv:=Q3p inj (T.map fun q=>(q.1,D.str q.2)) (step k c.1)
  have hi:(J7 (tK key T) (key (step k c.1))).isSome=decide (step k c.1∈T.map (·.1)):=by rw [hv,Z5k,Z5j]
  rw [au,D6]
  simp only [Z6r,Q2v,Q2t,M8,Q2u,D7,F9,Z4m,C7,B0,C2,V9,Z4p,Z4q,Q1p,E9,X6,Q9f,C8]
  refine⟨_,rfl,rfl,_,_,rfl,_,_,rfl,rfl,f,Φ,sp,rfl,hF,_,rfl,_,rfl,rfl,_,lf,?_⟩
  rw [Q6]
  refine⟨_,rfl,_,rfl,en (step k c.1),key (step k c.1),rfl,hk _,?_⟩
  rw [hi]
  by_cases hm:step k c.1∈T.map (·.1)
  ·have ea:W6 T (step k c.1) (t++c.2)=T:=aC hm
   rw [ax (by simpa using hm)]
   refine ih T _ _ _ hI hkt (fun c' h'=>hs c' (ai _ h')) ?_
   simpa only [goT,ea]using h
  ·have ea:W6 T (step k c.1) (t++c.2)=T++[(step k c.1,t++c.2)]:=ax hm
   rw [aC (by simpa using hm)]
   refine⟨_,rfl,_,rfl,en k,key k,_,rfl,hk _,Y4h inj hI.nd hkt,_,rfl,?_⟩
   rw [N7,Z3o]
   refine⟨sz (by rw [h1];omega),_,rfl,_,rfl,_,rfl,en (step k c.1),key (step k c.1),rfl,hk _,szl (by simp [kvm];omega),_,rfl,_,rfl,_,rfl,szl (by simp;omega),?_⟩
   have e1:S4 (tK key T) (key (step k c.1)) (.str (t++c.2))=tK key (W6 T (step k c.1) (t++c.2)):=by
    rw [Z2x inj (by rw [Z5j];exact hm),ea];simp [tK]
   have e2:(T.map fun q=>en q.1)++[en (step k c.1)]=(W6 T (step k c.1) (t++c.2)).map fun q=>en q.1:=by rw [ea];simp
   show D6 _ _ _ _ [_,_,_,some (.own ((T.map fun q=>en q.1)++[en (step k c.1)])),some (.dk (S4 (tK key T) (key (step k c.1)) (.str (t++c.2)))),_,_,_,_,_]
   rw [e1,e2]
   exact ih _ _ _ _ jF pj (fun c' h'=>hs c' (ai _ h')) h
def Z0l:WT:=(A3 (J3 fun i j=>decide (i<j)) (wV 5) (D3 D9 (A1 (wV 3) A5)))
def Z6u (dy:P5):WS:=(A7 (C1 6 (A3 B9 (wV 3) (wV 5))) (A7 (L1 (Q0v (Q3f dy 1 2 (A1 (wV 6) A5))) (I0 (Q1s 4 (wV 6))) L3) (A7 (K3 (Q4l (A1 (wC (.str "01ab")) A5)) (N4 2 (F4 (B1 7) (F4 (B1 8) O7))) (Z6r dy)) (Q5o 5 (M5 NoC fun i j=>i+j) (wC (.int 1))))))
theorem V0w (hk:∀a,R0 (en a)=some (key a)) (inj:∀a b,key a=key b->a=b) (hF:FC 2 f Φ sp) (m3:FC 1 f2 Φ2 gK) {U:List α} (hl:U.length<=100000) {E:F6}{o0:Option Sl}
  (hU:∀k∈U,∀c∈B2,step k c∈U/\sp [.st ((en k)),.st (iD c)] (.st ((en (step k c))))) (lQ:∀k∈U,gK [.st ((en k))] (.st (.bl (fin k)))):∀(n:Nat) (T:List (α×Str)) (p:Nat) (o6 o7 o8 o9:Option Sl),V3 U T->U.length<=n+p ->
  (ftN step fin n T p=none->∀ τ,E.nx τ)->(∀t,ftN step fin n T p=some t->E.rt (.st (.str t))) ->
  J8 Z0l (Z6u FC) (n+1) E [o0,some (.cl f Φ),some (.cl f2 Φ2),some (.own (T.map fun q=>(en q.1))),some (.dk (tK key T)),some (.dat (iD p)),o6,o7,o8,o9]:=by
 intro n
 induction n with
 | zero =>
  intro T p o6 o7 o8 o9 hI hp h h2
  have b:=hI.bound
  simp only [J8,Z0l,C8,L0,C7,B0,C2]
  refine⟨_,rfl,_,rfl,?_⟩
  simp only [N7,O9,V8,U4,ag]
  rw [ax (by simp;omega)]
  exact h rfl _
 | succ n ih =>
  intro T p o6 o7 o8 o9 hI hp h h2
  have b:=hI.bound
  rw [J8]
  simp only [Z0l,C8,L0,C7,B0,C2]
  refine⟨_,rfl,_,rfl,?_⟩
  simp only [N7,O9,V8,U4,ag]
  by_cases bZ:p<T.length
  ·rw [aC (by simpa using bZ)]
   have eB:T[p]?=some T[p]:=ab bZ
   have kin:=bR bZ
   generalize T[p]=q at eB kin
   obtain⟨k,t⟩:=q
   have kg:k∈U:=hI.sub _ kin
   rw [ftN,eB]at h h2
   simp only [Z6u,D7,F9,C8,B0,V9,Q3u,Z4m,C7,C2,R1,Q9f,X6,S6,Y2t,E4,Y2p]
   refine⟨_,rfl,_,rfl,?_⟩
   rw [O9,N7,Q1l]
   refine⟨(en k),Z6 (by rw [ak,eB];rfl),f2,Φ2,gK,rfl,m3,_,rfl,rfl,_,lQ k kg,?_⟩
   rw [Z3u]
   by_cases hf:fin k=true
   ·rw [aC hf]
    have h2:=h2 t (by show(if fin k=true then some t else _)=_;rw [aC hf])
    refine⟨_,rfl,_,rfl,en k,key k,_,rfl,hk _,Y4h inj hI.nd kin,h2⟩
   ·rw [ax hf]
    simp only [hf]at h h2
    refine .inl ⟨_,rfl,?_⟩
    rw [enm4]
    refine Z9s hk inj hF hl T8 T _ _ _ hI kin (fun c hc=>⟨⟨(hU k kg c.1 (Q2l hc).1).1,(Q2l hc).2⟩,(hU k kg c.1 (Q2l hc).1).2⟩) fun o7 o8 o9=>?_
    refine⟨_,rfl,trivial,?_⟩
    have e:((p:Int)+1)=((p+1:Nat):Int):=by omega
    show J8 Z0l (Z6u FC) (n+1) E [_,_,_,_,_,some (.dat (.int ((p:Int)+1))),_,_,_,_]
    rw [e]
    exact ih _ _ _ _ _ _ (V3.go T8 T hI kin fun c hc=>⟨(hU k kg c.1 (Q2l hc).1).1,(Q2l hc).2⟩) (by omega) h h2
  ·rw [ax (by simpa using bZ)]
   have e:T[p]?=none:=aw.mpr (by omega)
   exact h (by rw [ftN,e]) _
end
noncomputable def Q5d (FC:P5):E6:=fun rs r=>∃(α:Type) (_:DecidableEq α) (en:α->D) (key:α->B3) (step:α->Nat->α) (start:α) (fin:α->Bool) (U:List α) (f f2:Addr) (Φ Φ2:Hp->Prop) (sp gK:E6),
 (∀a,R0 (en a)=some (key a))/\(∀a b,key a=key b->a=b)/\rs=[.st ((en start)),.cl f Φ,.cl f2 Φ2]/\FC 2 f Φ sp/\FC 1 f2 Φ2 gK/\start∈U/\U.length<=100000/\(∀k∈U,∀c∈B2,step k c∈U/\sp [.st ((en k)),.st (iD c)] (.st ((en (step k c))))) /\
 (∀k∈U,gK [.st ((en k))] (.st (.bl (fin k))))/\r=.st (sD (Q2c U.length step start fin))
theorem W6v {FC:P5}:∀rs r,rs.length=3->Q5d FC rs r->Z5x FC (U6 r) (G9 Y6k rs):=by
 rintro rs r _ ⟨α,_,en,key,step,kD,fin,U,f,f2,Φ,Φ2,sp,gK,hk,inj,rfl,hF,m3,hs,hl,hU,lQ,rfl⟩
 unfold Z5x
 simp only [D7,F9,s_lst,C7,E9,B0,C2,Y2v,E4,R1]
 refine⟨_,rfl,_,rfl,sz (by simp),?_⟩
 refine⟨(by decide:4<10),_,rfl,en kD,key kD,rfl,hk _,_,rfl,?_⟩
 rw [Q6]
 refine⟨U.length+1,?_⟩
 refine V0w hk inj hF m3 hl hU lQ U.length [(kD,"")] 0 _ _ _ _ (Y4v hs) (by omega) (fun e τ=>?_) (fun t e=>?_)
 ·show R.st .non=.st (sD (Q2c _ _ _ _))
  unfold Q2c;rw [e]
 ·show R.st (.str t)=.st (sD (Q2c _ _ _ _))
  unfold Q2c;rw [e]
noncomputable abbrev scr (ns:List Int):D:=.lst (ns.map D.int)
noncomputable def Q2b (ns:List Int) (k:Int):Int:=if ns=[]then 7*k else(ns[(k % (ns.length:Int)).toNat]?.getD 0)+6553*(k / (ns.length:Int))
noncomputable def Q6y:E6:=fun rs r=>∃ns k,rs=[.st (scr ns),.st (.int k)]/\ns.length<=63/\r=.st (.int (Q2b ns k))
theorem Y8j (ns:List Int):D.depth (scr ns)<=60:=by
 have:D.depths (ns.map D.int)=0:=by
  induction ns with
  | nil=>simp [D.depths]
  | cons n r ih=>simp [D.depths,D.depth,ih]
 simp [D.depth,this]
theorem Y6u {ns:List Int}{k:Int} (h:ns≠[]):K7 (ns.map D.int) (k % (ns.length:Int))=some (.int (ns[(k % (ns.length:Int)).toNat]?.getD 0)):=by
 have hp:0<(ns.length:Int):=by have:=List.length_pos_iff.mpr h;omega
 have h0:=gH k (by omega:(ns.length:Int)≠0)
 have h1:=e6 k hp
 have bZ:(k % (ns.length:Int)).toNat<ns.length:=by omega
 have e:k % (ns.length:Int)=(((k % (ns.length:Int)).toNat:Nat):Int):=by omega
 have q:K7 (ns.map D.int) (((k % (ns.length:Int)).toNat:Nat):Int)=some (.int (ns[(k % (ns.length:Int)).toNat]?.getD 0)):=Z6 (by rw [ak,ab bZ];rfl)
 rw [<- e]at q
 exact q
theorem W6s:∀rs r,rs.length=2->Q6y rs r->Z0i (U6 r) (G9 Z7j rs):=by
 rintro rs r _ ⟨ns,k,rfl,hn,rfl⟩
 have hd:=Y8j ns
 by_cases h:ns=[]
 ·subst h
  simp [Z0i,Q2i,Q2b,hd,D.depth,D.depths]
 ·have hp:0<(ns.length:Int):=by have:=List.length_pos_iff.mpr h;omega
  simp [Z0i,Q2i,Q0x,Q2b,hd,h,Y6u h]
  omega
noncomputable def X0 (ns:List Int) (k m:Int):Int :=
 let c:=((Q2b ns k) % 2147483563*69069+104723*(k+1)) % 2147483563
 let c:=(c*c+c / 3) % 2147483399
 (c*c+c / 7) % 2147483647 / 11 % m
noncomputable def Q2y:E6:=fun rs r=>∃ns k m,rs=[.st (scr ns),.st (.int k),.st (.int m)]/\ns.length<=63/\0<m/\r=.st (.int (X0 ns k m))
theorem W6u:∀rs r,rs.length=3->Q2y rs r->Z6e Q6y (U6 r) (G9 Z7k rs):=by
 rintro rs r _ ⟨ns,k,m,rfl,hn,hm,rfl⟩
 have key:∀c:Int,0<=c->c<2147483648->Q2i c c:=fun c h1 h2=>.inl ⟨by omega,by omega⟩
 simp [Z6e,Q6y,hm,hn]
 refine⟨_,⟨ns,k,⟨rfl,rfl⟩,hn,rfl⟩,?_⟩
 have e1:=gH (Q2b ns k) (by decide:(2147483563:Int)≠0)
 have e2:=e6 (Q2b ns k) (by decide:(0:Int)<2147483563)
 have b1:=gH (Q2b ns k % 2147483563*69069+104723*(k+1)) (by decide:(2147483563:Int)≠0)
 have b2:=e6 (Q2b ns k % 2147483563*69069+104723*(k+1)) (by decide:(0:Int)<2147483563)
 simp only [W3g,Z3t,Q0c,Q6,N7,W3m,W3f,X0]
 generalize (Q2b ns k % 2147483563*69069+104723*(k+1)) % 2147483563=c at b1 b2 ⊢
 have b3:=gH (c*c+c / 3) (by decide:(2147483399:Int)≠0)
 have b4:=e6 (c*c+c / 3) (by decide:(0:Int)<2147483399)
 generalize (c*c+c / 3) % 2147483399=c2 at b3 b4 ⊢
 have cd:∀c:Int,Q0x c 3/\Q0x c 7/\Q0x c 11:=fun c=>⟨⟨by decide,by decide⟩,⟨by decide,by decide⟩,⟨by decide,by decide⟩⟩
 exact⟨by decide,.inl ⟨by omega,by omega⟩,.inl ⟨by decide,by decide⟩,by decide,key _ b1 (by omega),(cd c).1,by decide,key _ b3 (by omega),(cd c2).2.1,by decide,(cd _).2.2,hm,trivial⟩
theorem Y8q (ns:List Int) (k:Int) {m:Int} (h:0<m):0<=X0 ns k m:=gH _ (by omega)
theorem Y8p (ns:List Int) (k:Int) {m:Int} (h:0<m):X0 ns k m<m:=e6 _ h
noncomputable def drN (ns:List Int) (k:Int) (m:Nat):Nat:=(X0 ns k (m:Int)).toNat
theorem Q8e (ns:List Int) (k:Int) {m:Nat} (h:0<m):X0 ns k (m:Int)=(drN ns k m:Int):=by
 have:=Y8q ns k (m:=(m:Int)) (by omega)
 unfold drN;omega
theorem Q8f (ns:List Int) (k:Int) {m:Nat} (h:0<m):drN ns k m<m:=by
 have:=Y8p ns k (m:=(m:Int)) (by omega)
 have:=Q8e ns k h
 omega
noncomputable def R9 (ns:List Int) (at_:Int) (most:Nat):Nat:=1+drN ns at_ most
noncomputable def Q0b (ns:List Int) (at_:Int) (most:Nat):A8 :=
 ((List.range (R9 ns at_ most)).map fun(k:Nat)=>decide (X0 ns (at_+1+(k:Int)) 2=0),(List.range (R9 ns at_ most)).map fun(k:Nat)=>B2.map fun(j:Nat)=>drN ns (at_+7+4*(k:Int)+(j:Int)) (R9 ns at_ most))
theorem Z3f (ns:List Int) (at_:Int) (most:Nat):(Q0b ns at_ most).1.length=R9 ns at_ most:=by simp [Q0b]
theorem W2a (ns:List Int) (at_:Int) {most:Nat} (h:0<most):(Q0b ns at_ most).1.length<=most:=by
 rw [Z3f];unfold R9;have:=Q8f ns at_ h;omega
theorem W2b (ns:List Int) (at_:Int) {most:Nat} (h:0<most):D5 (Q0b ns at_ most):=by
 have hp:0<R9 ns at_ most:=by unfold R9;omega
 refine⟨by simp [Q0b],by rw [Z3f];exact hp,fun r hr=>?_,fun r hr x hx=>?_⟩
 ·obtain⟨k,_,rfl⟩:=ah.mp hr;rfl
 ·obtain⟨k,_,rfl⟩:=ah.mp hr
  obtain⟨j,_,rfl⟩:=ah.mp hx
  rw [Z3f];exact Q8f ns _ hp
theorem Y2k (ns:List Int) (hn:ns.length<=63) (at_:Int) {n:Nat} (h0:0<n) {E:F6}{o2 o4:Option Sl}:∀(l:List Nat) (ds:List D) (o6:Option Sl),ds.length+l.length<=1000 ->
  (∀o6,E.nx [some (.dat (scr ns)),some (.dat (.int at_)),o2,some (.dat (iD n)),o4,some (.own (ds++l.map fun(k:Nat)=>rD (B2.map fun(j:Nat)=>drN ns (at_+7+4*(k:Int)+(j:Int)) n))),o6]) ->
  D6 (B1 6) (P3 5 (B5 (D3 Z0 (A1 (M6 1 [0,3,1,6] (Q6l (A1 (wC (.int 4)) A5)) (B1 0) W1 (B5 (L8 Q2y (A1 (wV 1) (A1 (A3 G2 (A3 G2 (A3 G2 (wV 3) (wC (.int 7))) (A3 T1 (wC (.int 4)) (wV 4))) (wV 0)) (A1 (wV 2) A5)))))) A5))))
   E (l.map iD) [some (.dat (scr ns)),some (.dat (.int at_)),o2,some (.dat (iD n)),o4,some (.own ds),o6]
 | [],ds,o6,_,h=>by simpa [D6]using h o6
 | k::l,ds,o6,hz,h=>by
  rw [aB]at hz
  have e4:N8 0 (Int.toNat 4)=B2.map iD:=rfl
  rw [au,D6]
  simp only [M8,Q1p,E9,L0,C7,V1,Z4o,E4,C2]
  refine⟨_,rfl,_,rfl,by decide,by decide,by rw [e4];exact sz (by simp),?_⟩
  rw [e4]
  refine Q1d (f:=fun d=>match d with | .int j=>iD (drN ns (at_+7+4*(k:Int)+j) n) | d=>d) _ _ _ (fun d hd Q' q=>?_) ?_
  ·obtain⟨j,_,rfl⟩:=ah.mp hd
   simp only [E9,U5,C7,B0,C8,E4,C2]
   refine⟨_,rfl,_,rfl,_,rfl,?_⟩
   show T1 (R.st (.int 4)) (R.st (.int (k:Int))) _
   rw [Z3t]
   refine⟨.inl ⟨by decide,by decide⟩,?_⟩
   rw [Q0c]
   refine⟨_,rfl,?_⟩
   rw [N7,Q0c]
   refine⟨_,rfl,rfl,_,⟨ns,at_+7+4*(k:Int)+(j:Int),(n:Int),rfl,hn,by omega,rfl⟩,?_⟩
   rw [Q8e ns _ h0]
   exact q
  ·rw [Q6q]
   refine⟨_,rfl,_,rfl,szl (by omega),?_⟩
   have e:(B2.map iD).map (fun d=>match d with | .int j=>iD (drN ns (at_+7+4*(k:Int)+j) n) | d=>d)=(B2.map fun(j:Nat)=>drN ns (at_+7+4*(k:Int)+(j:Int)) n).map iD:=by rfl
   rw [e]
   refine Y2k ns hn at_ h0 l (ds++[rD (B2.map fun(j:Nat)=>drN ns (at_+7+4*(k:Int)+(j:Int)) n)]) _ (by simp;omega) fun o6=>?_
   simpa using h o6
noncomputable def Q9j:E6:=fun rs r=>∃ns at_ most,rs=[.st (scr ns),.st (.int at_),.st (iD most)]/\ns.length<=63/\0<most/\most<=50/\r=.st (mD (Q0b ns at_ most))
theorem W7e:∀rs r,rs.length=3->Q9j rs r->Z6g Q2y (U6 r) (G9 Q7l rs):=by
 rintro rs r _ ⟨ns,at_,most,rfl,hn,h0,h1,rfl⟩
 have hN:1+X0 ns at_ (most:Int)=(R9 ns at_ most:Int):=by rw [Q8e ns at_ h0];unfold R9;omega
 have hp:0<R9 ns at_ most:=by unfold R9;omega
 have fh:R9 ns at_ most<=50:=by unfold R9;have:=Q8f ns at_ h0;omega
 have er:N8 0 (R9 ns at_ most:Int).toNat=(List.range (R9 ns at_ most)).map iD:=by simp [N8]
 unfold Z6g
 simp only [D7,F9,C8,E4,U5,C7,B0,C2,L0,V1,Z4o,s_lst,S6,Z4n,R1,s_tup,E9]
 refine⟨_,rfl,_,rfl,_,rfl,rfl,_,⟨ns,at_,(most:Int),rfl,hn,by omega,rfl⟩,?_⟩
 rw [Q0c,hN,Q6]
 refine⟨_,rfl,_,rfl,by omega,by omega,?_⟩
 rw [er]
 refine⟨sz (by simp;omega),?_⟩
 refine Q1d (f:=fun d=>match d with | .int k=>.bl (decide (X0 ns (at_+1+k) 2=0)) | d=>d) _ _ _ (fun d hd Q' q=>?_) ?_
 ·obtain⟨k,_,rfl⟩:=ah.mp hd
  simp only [E9,s_b,C8,U5,C7,B0,E4,C2]
  refine⟨_,rfl,_,rfl,?_⟩
  show G2 (R.st _) (R.st _) _
  rw [Q0c]
  refine⟨_,rfl,?_⟩
  rw [N7,Q0c]
  refine⟨rfl,_,⟨ns,at_+1+(k:Int),2,rfl,hn,by decide,rfl⟩,?_⟩
  rw [o_eq]
  refine⟨_,_,rfl,rfl,by simp [D.depth],?_⟩
  simp only [o_e1,cO,dY]
  have e:(X0 ns (at_+1+(k:Int)) 2==0)=decide (X0 ns (at_+1+(k:Int)) 2=0):=by
   by_cases h:X0 ns (at_+1+(k:Int)) 2=0
   ·rw [be h,h];rfl
   ·rw [bg h];exact cE.mpr h
  rw [e]
  exact q
 ·rw [Q6q]
  refine⟨_,rfl,?_⟩
  rw [Q6]
  refine⟨_,rfl,sz (by simp),_,rfl,_,rfl,by omega,by omega,?_⟩
  rw [er]
  refine Y2k ns hn at_ hp (List.range (R9 ns at_ most)) [] _ (by simp;omega) fun o6=>?_
  refine⟨_,rfl,_,rfl,?_⟩
  simp only [C2,O9,Q6q]
  refine⟨_,rfl,_,rfl,sz (by simp),?_⟩
  show R.st _=R.st _
  have e1:((List.range (R9 ns at_ most)).map iD).map (fun d=>match d with | .int k=>D.bl (decide (X0 ns (at_+1+k) 2=0)) | d=>d)=(Q0b ns at_ most).1.map .bl:=by
   unfold Q0b;rw [aL,aL];rfl
  have e2:(List.range (R9 ns at_ most)).map (fun(k:Nat)=>rD (B2.map fun(j:Nat)=>drN ns (at_+7+4*(k:Int)+(j:Int)) (R9 ns at_ most)))=(Q0b ns at_ most).2.map rD:=by
   unfold Q0b;rw [aL];rfl
  rw [bL,e1,e2]
theorem Z2l {α:Type} [DecidableEq α] {st:Nat->α}{t:Str}:∀(cs:List (Nat×Str)) (T:List (α×Str)),T <+: goT st t cs T
 | [],T=>bD _
 | c::cs,T=>(Z1g _ _ _).trans (Z2l cs _)
section
variable {m1 m2:A8}
end
section
variable {α:Type}
theorem Q6x {P:List Nat->Prop} (h0:P []) (hs:∀w c,P w->P (w++[c])) (w:List Nat):P w:=by
 have:∀w:List Nat,P w.reverse:=by
  intro w
  induction w with
  | nil=>exact h0
  | cons c w ih=>rw [List.reverse_cons];exact hs _ _ ih
 have:=this w.reverse
 rwa [List.reverse_reverse]at this
noncomputable def run (step:α->Nat->α) (k:α) (w:List Nat):α:=w.foldl step k
theorem Q1o (step:α->Nat->α) (k:α) (u w:List Nat):run step k (u++w)=run step (run step k u) w:=List.foldl_append
def B8 (w:List Nat):Prop:=∀c∈w,c∈B2
theorem B8.nil:B8 []:=fun c h=>by cases h
theorem B8.app {u w:List Nat} (h1:B8 u) (h2:B8 w):B8 (u++w):=fun c h=>(aN.mp h).elim (h1 c) (h2 c)
theorem B8.snoc {u:List Nat}{c:Nat} (h1:B8 u) (h2:c∈B2):B8 (u++[c]):=h1.app fun d hd=>by rw [aI.mp hd];exact h2
noncomputable def N9 (c:Nat):Str:=match c with
 | 0=>"0"
 | 1=>"1"
 | 2=>"a"
 | _=>"b"
noncomputable def G1 (w:List Nat):Str:=w.foldl (fun t c=>t++N9 c) ""
theorem Q9w (w:List Nat) (c:Nat):G1 (w++[c])=G1 w++N9 c:=by unfold G1;rw [List.foldl_append];rfl
theorem Y7w {c:Nat×Str} (h:c∈T8):c.2=N9 c.1:=by
 simp only [T8,av,aO,bO]at h
 rcases h with rfl | rfl | rfl | rfl <;> rfl
end
section
variable {α:Type} [DecidableEq α]
structure FtI (step:α->Nat->α) (start:α) (fin:α->Bool) (U:List α) (T:List (α×Str)) (p:Nat):Prop where
 ti:V3 U T
 zero:start∈T.map (·.1)
 word:∀q∈T,∃w,B8 w/\q.1=run step start w/\q.2=G1 w
 past:∀i,i<p->∀q,T[i]?=some q->fin q.1=false/\∀c∈B2,step q.1 c∈T.map (·.1)
theorem Y0w {st:Nat->α}{t:Str}{q:α×Str}:∀(cs:List (Nat×Str)) (T:List (α×Str)),q∈goT st t cs T->q∈T\/∃c∈cs,q=(st c.1,t++c.2)
 | [],T,h=>.inl h
 | c::cs,T,h=>by
  rcases Y0w cs _ h with h | ⟨c',h1,h2⟩
  ·unfold W6 at h
   split at h
   ·exact .inl h
   ·rcases aN.mp h with h | h
    ·exact .inl h
    ·exact .inr ⟨c,by simp,aI.mp h⟩
  ·exact .inr ⟨c',by simp [h1],h2⟩
theorem Z9y {st:Nat->α}{t:Str}:∀(cs:List (Nat×Str)) (T:List (α×Str)),∀c∈cs,st c.1∈(goT st t cs T).map (·.1)
 | [],T,c,h=>by cases h
 | d::cs,T,c,h=>by
  rw [goT]
  rcases av.mp h with rfl | h
  ·have:st c.1∈(W6 T (st c.1) (t++c.2)).map (·.1):=by
    unfold W6
    split
    ·assumption
    ·simp
   obtain⟨q,hq,e⟩:=ah.mp this
   exact ah.mpr ⟨q,(Z2l cs _).subset hq,e⟩
  ·exact Z9y cs _ c h
theorem Y7x {c:Nat} (h:c∈B2):∃s,(c,s)∈T8:=by
 simp only [B2,av,aO,bO]at h
 rcases h with rfl | rfl | rfl | rfl <;> exact⟨_,by simp [T8];rfl⟩
theorem FtI.next {step:α->Nat->α}{start:α}{fin:α->Bool}{U:List α}{T:List (α×Str)}{p:Nat}{k:α}{t:Str} (hU:∀k∈U,∀c∈B2,step k c∈U) (F:FtI step start fin U T p) (hp:T[p]?=some (k,t)) (hf:fin k=false) :
  FtI step start fin U (goT (step k) t T8 T) (p+1):=by
 have kin:=aJ hp
 have pre:=Z2l (st:=step k) (t:=t) T8 T
 have mono:∀x,x∈T.map (·.1)->x∈(goT (step k) t T8 T).map (·.1):=fun x hx=>by
  obtain⟨q,hq,e⟩:=ah.mp hx
  exact ah.mpr ⟨q,pre.subset hq,e⟩
 refine⟨V3.go T8 T F.ti kin fun c hc=>⟨hU k (F.ti.sub _ kin) _ (Q2l hc).1,(Q2l hc).2⟩,mono _ F.zero,fun q hq=>?_,fun i hi q hq=>?_⟩
 ·rcases Y0w T8 T hq with h | ⟨c,hc,rfl⟩
  ·exact F.word q h
  ·obtain⟨w,h1,h2,h3⟩:=F.word _ kin
   refine⟨w++[c.1],h1.snoc (Q2l hc).1,?_,?_⟩
   ·rw [Q1o,<- h2];rfl
   ·rw [Q9w,<- Y7w hc]
    have h3:t=G1 w:=h3
    rw [<- h3]
 ·obtain⟨add,fY⟩:=pre
  have hpl:p<T.length:=by obtain⟨h,_⟩:=aG.mp hp;exact h
  rw [<- fY,aK (by omega)]at hq
  rcases aW i p with h | h
  ·obtain⟨h1,h2⟩:=F.past i h q hq
   exact⟨h1,fun c hc=>mono _ (h2 c hc)⟩
  ·have:i=p:=by omega
   subst this
   rw [hp]at hq;cases hq
   refine⟨hf,fun c hc=>?_⟩
   obtain⟨s,hs⟩:=Y7x hc
   exact Z9y T8 T _ hs
theorem Y9f {step:α->Nat->α}{start:α}{fin:α->Bool}{U:List α} (hU:∀k∈U,∀c∈B2,step k c∈U):∀(n:Nat) (T:List (α×Str)) (p:Nat),FtI step start fin U T p->U.length<=n+p ->
  (ftN step fin n T p=none->∀w,B8 w->fin (run step start w)=false)/\(∀t,ftN step fin n T p=some t->∃w,B8 w/\t=G1 w/\fin (run step start w)=true):=by
 have done:∀(T:List (α×Str)) (p:Nat),FtI step start fin U T p->T.length<=p->∀w,B8 w->fin (run step start w)=false:=by
  intro T p F hl w hw
  have all:∀w,B8 w->run step start w∈T.map (·.1):=by
   refine Q6x ?_ ?_
   ·exact fun _=>F.zero
   ·intro w c ih hw
    obtain⟨q,hq,e⟩:=ah.mp (ih fun d hd=>hw d (by simp [hd]))
    obtain⟨i,hi,e2⟩:=bp.mp hq
    have:=(F.past i (by omega) q (by rw [ab hi,e2])).2 c (hw c (by simp))
    rw [Q1o,<- e]
    exact this
  obtain⟨q,hq,e⟩:=ah.mp (all w hw)
  obtain⟨i,hi,e2⟩:=bp.mp hq
  have:=(F.past i (by omega) q (by rw [ab hi,e2])).1
  rw [<- e];exact this
 intro n
 induction n with
 | zero =>
  intro T p F h
  have b:=F.ti.bound
  exact⟨fun _=>done T p F (by omega),fun t e=>by cases e⟩
 | succ n ih =>
  intro T p F h
  rw [ftN]
  split
  ·rename_i e
   have:=aw.mp e
   exact⟨fun _=>done T p F this,fun t e=>by cases e⟩
  ·rename_i q e
   obtain⟨k,t⟩:=q
   by_cases hf:fin k=true
   ·simp only [hf,gj]
    refine⟨fun z=>by(cases z),fun t' e'=>?_⟩
    cases e'
    obtain⟨w,h1,h2,h3⟩:=F.word _ (aJ e)
    exact⟨w,h1,h3,by rw [<- h2];exact hf⟩
   ·have jy:fin k=false:=by simpa using hf
    simp only [jy,dY,cO]
    exact ih _ _ (F.next hU e jy) (by omega)
theorem Y8z {step:α->Nat->α}{start:α}{fin:α->Bool}{U:List α} (hU:∀k∈U,∀c∈B2,step k c∈U) (hs:start∈U) :
  (Q2c U.length step start fin=none->∀w,B8 w->fin (run step start w)=false)/\(∀t,Q2c U.length step start fin=some t->∃w,B8 w/\t=G1 w/\fin (run step start w)=true) :=
 Y9f hU U.length _ 0 ⟨Y4v hs,by simp,fun q hq=>⟨[],B8.nil,by rw [aI.mp hq];rfl,by rw [aI.mp hq];rfl⟩,fun i hi=>by omega⟩ (by omega)
end
noncomputable def E1 (m:A8) (w:List Nat):Nat:=run (C6 m.2) 0 w
noncomputable def G4 (m:A8) (w:List Nat):Bool:=m.1.getD (E1 m w) false
theorem Q0g {m:A8} (wf:D5 m):∀w,B8 w->E1 m w<m.1.length:=by
 refine Q6x ?_ ?_
 ·exact fun _=>wf.pos
 ·intro w c ih hw
  have h:=ih fun d hd=>hw d (by simp [hd])
  obtain⟨_,_,_,g⟩:=wf.row h
  unfold E1 at h ⊢
  rw [Q1o]
  exact(g c (Z1x (hw c (by simp)))).2
noncomputable def Q3m (es:List Bool) (rows:List (List Nat)) (i:Nat) (w:List Nat):Bool:=es.getD (run (C6 rows) i w) false
theorem Y2n {es:List Bool}{rows:List (List Nat)} (wf:Wf es rows):∀(w:List Nat) (i:Nat),B8 w->i<es.length->run (C6 rows) i w<es.length
 | [],i,_,h=>h
 | c::w,i,hw,h=>by
  obtain⟨_,_,_,g⟩:=wf.row h
  exact Y2n wf w _ (fun d hd=>hw d (by simp [hd])) (g c (Z1x (hw c (by simp)))).2
theorem Y6n {R:List (Nat×Nat)}{g d:Nat}:∃d',(g,d')∈T7 R g d:=by
 unfold T7;split
 ·rename_i h
  obtain⟨q,hq,rfl⟩:=ah.mp h
  exact⟨q.2,hq⟩
 ·exact⟨d,by simp⟩
structure Q7o (on:List (List Nat)) (good:Nat->Nat->Prop) (R:List (Nat×Nat)) (p:Nat):Prop where
 ri:Q1b on.length R
 good:∀q∈R,good q.1 q.2
 sorted:∀(i j:Nat) (q q':Nat×Nat),i<=j->R[i]?=some q->R[j]?=some q'->q.2<=q'.2
 near:∀q∈R,∀q',R[p]?=some q'->q.2<=q'.2+1
 past:∀(i:Nat) (q:Nat×Nat),i<p->R[i]?=some q->∀g∈on.getD q.1 [],∃d,(g,d)∈R/\d<=q.2+1
theorem Y0v {d:Nat}:∀(gs:List Nat) (R:List (Nat×Nat)) (B:Nat),(∀q∈R,q.2<=B)->d<=B->∀g∈gs,∃d',(g,d')∈goR d gs R/\d'<=B
 | [],R,B,_,_,g,h=>by cases h
 | x::gs,R,B,hR,hd,g,h=>by
  have dD:∀q∈T7 R x d,q.2<=B:=fun q hq=>by
   rcases Z3g hq with z | z
   ·exact hR q z
   ·rw [z];exact hd
  rw [goR]
  rcases av.mp h with rfl | h
  ·obtain⟨d',h'⟩:=Y6n (R:=R) (g:=g) (d:=d)
   exact⟨d',(Z2k d gs _).subset h',dD _ h'⟩
  ·exact Y0v gs _ B dD hd g h
theorem Z9x {d:Nat}:∀(gs:List Nat) (R:List (Nat×Nat)),(∀(i j:Nat) (q q':Nat×Nat),i<=j->R[i]?=some q->R[j]?=some q'->q.2<=q'.2)->(∀q∈R,q.2<=d) ->
  (∀(i j:Nat) (q q':Nat×Nat),i<=j->(goR d gs R)[i]?=some q->(goR d gs R)[j]?=some q'->q.2<=q'.2)
 | [],R,h,_=>h
 | x::gs,R,h,hd=>by
  refine Z9x gs _ ?_ ?_
  ·unfold T7
   split
   ·exact h
   ·intro i j q q' lA hi hj
    rcases aW j R.length with hjl | hjl
    ·rw [aK hjl]at hj
     rw [aK (by omega)]at hi
     exact h i j q q' lA hi hj
    ·have ke:q'=(x,d):=by
      rw [aU hjl]at hj
      exact(aI.mp (aJ hj))
     rcases aN.mp (aJ hi)with z | z
     ·rw [ke];exact hd q z
     ·rw [aI.mp z,ke];exact ao _
  ·intro q hq
   rcases Z3g hq with z | z
   ·exact hd q z
   ·rw [z];exact ao _
theorem Y2e {on:List (List Nat)}{good:Nat->Nat->Prop} (gT:∀l∈on,∀g∈l,g<on.length) (hg:∀s d,s<on.length->good s d->∀g∈on.getD s [],good g (d+1)) :
  ∀(n:Nat) (R:List (Nat×Nat)) (p:Nat),Q7o on good R p->on.length<=n+p->p<=R.length->R <+: Q1n on n R p/\Q7o on good (Q1n on n R p) (Q1n on n R p).length
 | 0,R,p,J,h,hp=>by
  have b:=J.ri.bound
  have:p=R.length:=by omega
  subst this
  exact⟨bD _,J⟩
 | n+1,R,p,J,h,hp=>by
  unfold Q1n
  split
  ·rename_i e
   have:=aw.mp e
   have:p=R.length:=by omega
   subst this
   exact⟨bD _,J⟩
  ·rename_i q e
   obtain⟨s,d⟩:=q
   have kin:=aJ e
   have hs:s<on.length:=J.ri.lt _ kin
   have hpl:p<R.length:=by obtain⟨z,_⟩:=aG.mp e;exact z
   have eo:on[s]?.getD []=on.getD s []:=(ar ..).symm
   have fi:∀g∈on.getD s [],g<on.length:=fun g gz=>by
    rw [ar,ab hs]at gz
    exact gT _ (bR hs) g gz
   have pre:=Z2k (d+1) (on.getD s []) R
   have near:∀q∈R,q.2<=d+1:=fun q hq=>J.near q hq _ e
   have all:∀q∈goR (d+1) (on.getD s []) R,q.2<=d+1:=fun q hq=>by
    rcases Q8v _ _ hq with z | ⟨g,_,rfl⟩
    ·exact near q z
    ·exact ao _
   have at_:∀{i:Nat}{q:Nat×Nat},i<R.length->(goR (d+1) (on.getD s []) R)[i]?=some q->R[i]?=some q:=fun {i q} hi hq=>by
    obtain⟨t,ht⟩:=pre
    rw [<- ht,aK hi]at hq
    exact hq
   have J2:Q7o on good (goR (d+1) (on.getD s []) R) (p+1):=by
    have so:=Z9x (d:=d+1) (on.getD s []) R J.sorted near
    refine⟨J.ri.go fi,fun q hq=>?_,so,fun q hq q' ke=>?_,fun i q hi hq g gz=>?_⟩
    ·rcases Q8v _ _ hq with z | ⟨g,gz,rfl⟩
     ·exact J.good q z
     ·exact hg s d hs (J.good _ kin) g gz
    ·have h1:=all q hq
     have h2:(goR (d+1) (on.getD s []) R)[p]?=some (s,d):=by
      obtain⟨t,ht⟩:=pre
      rw [<- ht,aK hpl];exact e
     have h3:d<=q'.2:=so p (p+1) _ _ (by omega) h2 ke
     omega
    ·have hq:=at_ (by omega) hq
     rcases aW i p with z | z
     ·obtain⟨d',h1,h2⟩:=J.past i q z hq g gz
      exact⟨d',pre.subset h1,h2⟩
     ·have:i=p:=by omega
      subst this
      rw [e]at hq;cases hq
      exact Y0v _ R (d+1) near (ao _) g gz
   have bN:=pre.length_le
   obtain⟨a1,a2⟩:=Y2e gT hg n _ (p+1) J2 (by omega) (by omega)
   rw [eo]
   exact⟨pre.trans a1,a2⟩
theorem Q8s {R:List (Nat×Nat)} (nd:(R.map (·.1)).Nodup) {s d:Nat}:Q0a R s=some d ↔ (s,d)∈R:=by
 unfold Q0a
 constructor
 ·intro h
  cases e:R.find? (fun q=>decide (q.1=s))with
  | none=>rw [e]at h;cases h
  | some q =>
   rw [e]at h
   have h:q.2=d:=aA h
   have h1:=List.mem_of_find?_eq_some e
   have h2:=List.find?_some e
   have h2:q.1=s:=by simpa using h2
   obtain⟨a,b⟩:=q
   simp only at h h2
   subst h h2;exact h1
 ·intro h
  induction R with
  | nil=>cases h
  | cons q R ih =>
   rw [au,bj]at nd
   rw [bn]
   rcases av.mp h with rfl | h
   ·simp
   ·have:¬ q.1=s:=fun z=>nd.1 (z ▸ ah.mpr ⟨_,h,rfl⟩)
    simp only [this,decide_false]
    exact ih nd.2 h
theorem Y8m {es:List Bool}{rows:List (List Nat)} (wf:Wf es rows) (b:Bool) {good:Nat->Nat->Prop} (g0:∀i,es[i]?=some b->good i 0) (gs:∀s d g c,g<es.length->c<4->C6 rows g c=s->good s d->good g (d+1)) :
  (∀q∈T2 (K9 rows) (N3 es b),good q.1 q.2)/\((T2 (K9 rows) (N3 es b)).map (·.1)).Nodup/\(∀i,es[i]?=some b->(i,0)∈T2 (K9 rows) (N3 es b)) /\
  ∀s d,(s,d)∈T2 (K9 rows) (N3 es b)->∀g c,g<es.length->c<4->C6 rows g c=s->∃d',(g,d')∈T2 (K9 rows) (N3 es b)/\d'<=d+1:=by
 have bZ:∀r∈rows,∀g∈r,g<rows.length:=fun r hr g hg=>by rw [wf.len];exact wf.lt r hr g hg
 have pQ:(K9 rows).length=es.length:=by rw [Q7u,wf.len]
 have J0:Q7o (K9 rows) good ((N3 es b).map fun x=>(x,0)) 0:=by
  refine⟨⟨by simpa [Function.comp_def]using Z9i,fun q hq=>?_⟩,fun q hq=>?_,fun i j q q' _ hi hj=>?_,fun q hq q' _=>?_,fun i q hi=>absurd hi (Nat.not_lt_zero _)⟩
  ·obtain⟨x,hx,rfl⟩:=ah.mp hq
   rw [pQ];exact Z9h x hx
  ·obtain⟨x,hx,rfl⟩:=ah.mp hq
   exact g0 x (Z3j.mp hx)
  ·obtain⟨x,_,rfl⟩:=ah.mp (aJ hi);exact bi _
  ·obtain⟨x,_,rfl⟩:=ah.mp hq;exact bi _
 obtain⟨pre,J⟩:=Y2e (Z7x bZ) (fun s d hs pD g gz=>by
  obtain⟨r,e,hm⟩:=(Z3i bZ).mp gz
  obtain⟨c,hc,e2⟩:=bp.mp hm
  have iq:g<es.length:=by rw [<- wf.len];obtain⟨z,_⟩:=aG.mp e;exact z
  obtain⟨r',e',l4,g4⟩:=wf.row iq
  rw [e]at e';cases e'
  have gY:c<4:=by rw [<- l4];exact hc
  have:=(g4 c gY).1
  rw [ab hc,e2]at this
  exact gs s d g c iq gY (aA this).symm pD) (K9 rows).length _ 0 J0 (by omega) (bi _)
 refine⟨J.good,J.ri.nd,fun i hi=>pre.subset (ah.mpr ⟨i,Z3j.mpr hi,rfl⟩),fun s d hm g c iq hc e=>?_⟩
 obtain⟨i,hi,e2⟩:=bp.mp hm
 obtain⟨r,e3,l4,g4⟩:=wf.row iq
 refine J.past i (s,d) hi (by show(T2 (K9 rows) (N3 es b))[i]?=_;rw [ab hi,e2]) g ((Z3i bZ).mpr ⟨r,e3,?_⟩)
 rw [<- e]
 exact aJ (g4 c hc).1
theorem Y8n {es:List Bool}{rows:List (List Nat)} (wf:Wf es rows) (b:Bool):(∀i d,i<es.length->Q0a (T2 (K9 rows) (N3 es b)) i=some d->∃w,B8 w/\w.length=d/\Q3m es rows i w=b) /\
  ∀(w:List Nat) (i:Nat),B8 w->i<es.length->Q3m es rows i w=b->∃d,Q0a (T2 (K9 rows) (N3 es b)) i=some d/\d<=w.length:=by
 obtain⟨h1,nd,h2,h3⟩:=Y8m wf b (good:=fun i d=>∃w,B8 w/\w.length=d/\Q3m es rows i w=b)
  (fun i hi=>⟨[],B8.nil,rfl,by unfold Q3m run;rw [List.foldl_nil,ar,hi];rfl⟩)
  (fun s d g c hg hc e ⟨w,q1,q2,q3⟩=>⟨c::w,fun x hx=>by rcases av.mp hx with rfl | hx;exact W1z hc;exact q1 x hx,by rw [aB,q2],by unfold Q3m run at q3 ⊢;rw [List.foldl_cons,e];exact q3⟩)
 refine⟨fun i d _ h=>h1 (i,d) ((Q8s nd).mp h),fun w=>?_⟩
 induction w with
 | nil =>
  intro i _ hi h
  refine⟨0,(Q8s nd).mpr (h2 i ?_),ao _⟩
  unfold Q3m run at h
  rw [List.foldl_nil,ar,ab hi]at h
  rw [ab hi]
  exact congrArg some h
 | cons c w ih =>
  intro i hw hi h
  have gY:=Z1x (hw c (by simp))
  obtain⟨_,_,_,g4⟩:=wf.row hi
  obtain⟨d,q1,q2⟩:=ih (C6 rows i c) (fun x hx=>hw x (by simp [hx])) (g4 c gY).2 h
  obtain⟨d',q3,q4⟩:=h3 _ _ ((Q8s nd).mp q1) i c hi gY rfl
  exact⟨d',(Q8s nd).mpr q3,by rw [aB];omega⟩
section
variable {α:Type} [DecidableEq α]
theorem W7q {rs:List (List Nat)}{i c:Nat}{f:Nat->Nat} (h:rs[i]?=some (B2.map f)) (hc:c∈B2):C6 rs i c=f c:=by
 unfold C6
 rw [ar,ar,h,Option.getD_some,ak]
 have:B2[c]?=some c:=by
  simp only [B2,av,aO,bO]at hc
  rcases hc with rfl | rfl | rfl | rfl <;> rfl
 rw [this];rfl
theorem Y9i {ks:List α}{x:α} (h:x∈ks):ks[ks.idxOf x]?=some x:=by
 have hl:=List.idxOf_lt_length_iff.mpr h
 rw [ab hl,List.getElem_idxOf hl]
theorem Q1x.run {step:α->Nat->α}{start:α}{U ks:List α}{rs:List (List Nat)} (W:Q1x step start U ks rs):∀(w:List Nat) (i:Nat) (k:α),B8 w->ks[i]?=some k->ks[MC.run (C6 rs) i w]?=some (MC.run step k w)
 | [],i,k,_,h=>h
 | c::w,i,k,hw,h=>by
  have hc:=hw c (by simp)
  have e:=W7q (W.row i k h) hc
  refine Q1x.run W w _ _ (fun d hd=>hw d (by simp [hd])) ?_
  rw [e]
  exact Y9i (W.mem k (aJ h) c hc)
theorem Y7i {step:α->Nat->α}{start:α}{U:List α}{fin:α->Bool} (hU:∀k∈U,∀c∈B2,step k c∈U) (hs:start∈U) {w:List Nat} (hw:B8 w):G4 (Q4f U step start fin) w=fin (run step start w):=by
 have W:=Y5j (step:=step) (N:=U.length) hU hs (ao _)
 have h:=W.run w 0 start hw W.zero
 unfold G4 E1 Q4f
 show(List.map fin _).getD (run (C6 _) 0 w) false=_
 rw [ar,ak,h]
 rfl
end
section
variable {es:List Bool}{rows:List (List Nat)}
end
noncomputable def Q1k (met:List Nat):List Nat->List Nat->List Nat
 | _,[]=>[]
 | pre,x::r=>if x∈met++pre then Q1k met (pre++[x]) r else x::Q1k met (pre++[x]) r
noncomputable def N5:List Nat->List (List Nat)->List Nat
 | met,[]=>met
 | met,r::rs=>N5 (met++Q1k met [] r) rs
theorem Z3n (r:List Nat):∀(rs:List (List Nat)) (met:List Nat),N5 met (rs++[r])=N5 met rs++Q1k (N5 met rs) [] r
 | [],met=>rfl
 | x::rs,met=>Z3n r rs _
section
variable {α:Type} [DecidableEq α]
theorem Q8x (st:Nat->α) (n:Nat):∀(cs:List Nat) (ks:List α) (pre full:List Nat),full=pre++cs.map (fun c=>(J6 st cs ks pre).1.idxOf (st c))->n<=ks.length->(∀x,x<ks.length->x<n\/x∈pre)->(∀x∈pre,x<ks.length) ->
  Q1k (List.range n) pre (cs.map fun c=>(J6 st cs ks pre).1.idxOf (st c))=(List.range ((J6 st cs ks pre).1.length-ks.length)).map fun i=>ks.length+i
 | [],ks,pre,full,_,_,_,_=>by simp [J6,Q1k]
 | c::cs,ks,pre,full,_,hn,h1,h2=>by
  have pp:=Q4z st cs (N2 ks (st c)) (pre++[(N2 ks (st c)).idxOf (st c)])
  have fg:st c∈N2 ks (st c):=Z3h.mpr (.inr rfl)
  have ei:(J6 st (c::cs) ks pre).1.idxOf (st c)=(N2 ks (st c)).idxOf (st c):=by rw [J6];exact Z2p pp fg
  have gw:J6 st (c::cs) ks pre=J6 st cs (N2 ks (st c)) (pre++[(N2 ks (st c)).idxOf (st c)]):=rfl
  have bN:=pp.length_le
  rw [au,Q1k,ei]
  simp only [gw]
  by_cases hm:st c∈ks
  ·have ea:N2 ks (st c)=ks:=Z7s hm
   have hl:=List.idxOf_lt_length_iff.mpr hm
   simp only [ea]at bN ⊢
   rw [aC (by
    rcases h1 _ hl with z | z
    ·exact bP _ (aM.mpr z)
    ·exact aF _ z)]
   exact Q8x st n cs ks _ _ rfl hn (fun x hx=>(h1 x hx).imp id fun z=>by simp [z]) fun x hx=>by
    rcases aN.mp hx with z | z
    ·exact h2 x z
    ·rw [aI.mp z];exact hl
  ·have ea:N2 ks (st c)=ks++[st c]:=Z7t hm
   have ex:(ks++[st c]).idxOf (st c)=ks.length:=by
    rw [List.idxOf_append,ax hm];simp
   simp only [ea,ex]at bN ⊢
   rw [aq,bJ]at bN
   rw [ax (fun z=>by
    rcases aN.mp z with z | z
    ·have:=aM.mp z;omega
    ·have:=h2 _ z;omega)]
   have ih:=Q8x st n cs (ks++[st c]) (pre++[ks.length]) _ rfl (by simp;omega) (fun x hx=>by
    rw [aq,bJ]at hx
    rcases aW x ks.length with z | z
    ·exact(h1 x z).imp id fun z=>by simp [z]
    ·exact .inr (by simp;omega)) fun x hx=>by
    rw [aq,bJ]
    rcases aN.mp hx with z | z
    ·have:=h2 x z;omega
    ·rw [aI.mp z];omega
   rw [ih]
   rw [aq,bJ]
   obtain⟨m,lw⟩:∃m,(J6 st cs (ks++[st c]) (pre++[ks.length])).1.length=ks.length+1+m:=⟨_,(Nat.add_sub_cancel' bN).symm⟩
   rw [lw,show ks.length+1+m-(ks.length+1)=m by omega,show ks.length+1+m-ks.length=m+1 by omega,cq,au,aL]
   congr 1
   exact bb fun i _=>by simp;omega
theorem range_add (n m:Nat):List.range n++(List.range m).map (fun i=>n+i)=List.range (n+m):=(List.range_add).symm
theorem Y1b {step:α->Nat->α}:∀(n:Nat) (ks:List α) (rs:List (List Nat)),N5 [0] rs=List.range ks.length->N5 [0] (Q2 step n ks rs).2=List.range (Q2 step n ks rs).1.length
 | 0,ks,rs,h=>h
 | n+1,ks,rs,h=>by
  unfold Q2
  split
  ·exact h
  ·rename_i k e
   refine Y1b n _ _ ?_
   have hp:=(Q4z (step k) B2 ks []).length_le
   rw [Z3n,h,Q9e,bL,Q8x (step k) ks.length B2 ks [] _ rfl (ao _) (fun x hx=>.inl hx) (fun x hx=>by cases hx),range_add]
   congr 1
   omega
theorem W2h {step:α->Nat->α}{start:α}{N:Nat}:N5 [0] (Y0 N step start).2=List.range (Y0 N step start).1.length:=Y1b N _ _ rfl
end
end MC
end
section
namespace PySem
section
variable {prog:Program}{w:World}{A:Around}{E:VS9}{s:Shared}{d it:Addr}{es:Array DictEntry}{ep i:Nat}
end
end PySem
namespace TK
open PySem PySem.Spec PyProof.Rows L2
section
variable {X:Cx}
end
end TK
end
section
namespace TK
open PySem PySem.Spec PyProof.Rows L2
section
variable {X:Cx}{ae:Pn9} {σ:St}{H H0:Hp}{s:Shared}{a:Addr}
end
section
variable {X:Cx}{H0:Hp}{st:Stmt}{w:WS}
end
section
variable {X:Cx}{H0:Hp}{a b c e o tg:Expr}{pos bB p2 apos bC:Pos}{wa wb wi we wv:WE}{x:Str}{i:Nat}
end
section
variable {X:Cx}{H0:Hp}{e tg:Expr}{i:Nat}
end
section
variable {X:Cx}{H0:Hp}{a:Expr}{p p2 pos dP:Pos}{wr:WA}
end
end TK
end
section
namespace MC
open PySem PySem.Spec PyProof.Rows L2 TK
abbrev Z0t:List Str:=["_law_long","_law_found","_law_row","_law_turn","_law_longer","_law_text_here"]
def Z6i   :WS:=(A7 (C1 1 (G6 (A1 (B5 (wC (.str ""))) A5))) (A7 (C1 2 (B5 (G6 (A1 (B5 (wC (.str ""))) A5)))) (A7 (K3 (Y4 (A1 (wV 0) A5)) (B1 3) (A7 (C1 4 (G6 A5)) (A7 (Q7f 4 (K3 (Z9 (B5 (wV 2))) (B1 5) (C1 4 (A3 G2 (wV 4) (M6 1 [5] (Z2v (wC (.str "01ab"))) (B1 0) W1 (B5 (A3 G2 (wV 1) (wV 0)))))))) (A7 (C1 2 (B5 (wV 4))) (C1 1 (A3 Q0i (wV 1) (wV 2))))))) (Q5r 1))))
abbrev Z7l:List Str:=["_law_machine_told","_law_state_here","_law_text_here","_law_sign"]
def Z6h   :WS:=(A7 (K3 (Z2o (wV 2)) (B1 3) (C1 1 (A3 B9 (A3 B9 (A3 B9 (wV 0) (wC (.int 1))) (wV 1)) (Z0d (wC (.str "01ab")) (wV 3))))) (Q5r 1))
abbrev Z7i:List Str:=["_law_machine_told","_law_text_here"]
def Z6d   (dM:E6):WS:=(I0 (A3 B9 (A3 B9 (wV 0) (wC (.int 0))) (L8 dM (A1 (wV 0) (A1 (wC (.int 0)) (A1 (wV 1) A5))))))
theorem W8x (t s:Str):F5 (t++s)=F5 t++F5 s:=by
 unfold F5
 rw [<- aY]
 congr 1
 exact Array.toList_append
theorem W8z {c:Nat} (h:c∈B2):F5 (N9 c)=[.str (N9 c)]:=by
 simp only [B2,av,aO,bO]at h
 rcases h with rfl | rfl | rfl | rfl <;> rfl
theorem Z2q {c:Nat} (h:c∈B2):Q6j "01ab" (N9 c)=some c:=by
 simp only [B2,av,aO,bO]at h
 rcases h with rfl | rfl | rfl | rfl <;> decide +kernel
theorem Q9g {w:List Nat} (h:B8 w):F5 (G1 w)=w.map fun c=>.str (N9 c):=by
 have go:∀(w:List Nat) (t:Str),B8 w->F5 (w.foldl (fun t c=>t++N9 c) t)=F5 t++w.map fun c=>.str (N9 c):=by
  intro w
  induction w with
  | nil=>intro t _;simp
  | cons c w ih =>
   intro t h
   rw [List.foldl_cons,ih _ (fun d hd=>h d (ai _ hd)),W8x,W8z (h c am),au,bI];rfl
 rw [G1,go w "" h];rfl
noncomputable def Q9k:E6:=fun rs r=>∃(m:A8) (i:Nat) (w:List Nat),rs=[.st (mD m),.st (iD i),.st (.str (G1 w))]/\D5 m/\i<m.1.length/\B8 w/\r=.st (iD (run (C6 m.2) i w))
def wsS:WS:=(C1 1 (A3 B9 (A3 B9 (A3 B9 (wV 0) (wC (.int 1))) (wV 1)) (Z0d (wC (.str "01ab")) (wV 3))))
theorem Y4e {m:A8} (wf:D5 m) {E:F6}{o2:Option Sl}:∀(w:List Nat) (i:Nat) (o3:Option Sl),B8 w->i<m.1.length->(∀o3,E.nx [some (.dat (mD m)),some (.dat (iD (run (C6 m.2) i w))),o2,o3]) ->
  D6 (B1 3) wsS E (w.map fun c=>.str (N9 c)) [some (.dat (mD m)),some (.dat (iD i)),o2,o3]
 | [],i,o3,_,_,h=>h o3
 | c::w,i,o3,hw,hi,h=>by
  rw [au,D6]
  simp only [wsS,M8,F9,C8,B0,E4,W8b]
  have hc:=hw c am
  have gY:c<4:=by simp only [B2,av,aO,bO]at hc;omega
  obtain⟨r,hr,_,kb⟩:=Wf.row wf hi
  refine⟨_,rfl,S8 (i:=1) rfl ⟨_,rfl,?_⟩⟩
  refine S8 (i:=i) (d:=.tup (r.map iD)) (by rw [ak,hr];rfl) ?_
  refine⟨_,rfl,_,rfl,_,c,rfl,Z2q hc,?_⟩
  refine S8 (i:=c) (d:=iD (C6 m.2 i c)) (by rw [ak,(kb c gY).1];rfl) ?_
  rw [Q6]
  exact Y4e wf w _ _ (fun d hd=>hw d (ai _ hd)) (kb c gY).2 h
theorem W7i:∀rs r,rs.length=3->Q9k rs r->Z6h (U6 r) (G9 Z7l rs):=by
 rintro rs r _ ⟨m,i,w,rfl,wf,hi,hw,rfl⟩
 unfold Z6h
 simp only [D7,S6,W7y,B0,Q6v]
 refine⟨_,rfl,_,rfl,?_⟩
 rw [Q9g hw]
 exact Y4e wf w i none hw hi fun o3=>⟨_,rfl,rfl⟩
noncomputable def Q9i:E6:=fun rs r=>∃(m:A8) (w:List Nat),rs=[.st (mD m),.st (.str (G1 w))]/\D5 m/\B8 w/\r=.st (.bl (G4 m w))
theorem W6q:∀rs r,rs.length=2->Q9i rs r->Z6d Q9k (U6 r) (G9 Z7i rs):=by
 rintro rs r _ ⟨m,w,rfl,wf,hw,rfl⟩
 unfold Z6d
 simp only [R1,C8,B0,E4,U5,C7,C2]
 refine⟨_,rfl,S8 (i:=0) rfl ⟨_,rfl,_,rfl,rfl,_,⟨m,0,w,rfl,wf,wf.pos,hw,rfl⟩,?_⟩⟩
 refine S8 (i:=run (C6 m.2) 0 w) (Q7w (Y2n wf w 0 hw wf.pos)) ?_
 rfl
theorem W9a {c d:Nat} (hc:c∈B2) (hd:d∈B2) (e:N9 c=N9 d):c=d:=by
 have a:=Z2q hc
 rw [e,Z2q hd]at a
 exact(aA a).symm
theorem Y4n:∀{u w:List Nat},B8 u->B8 w->G1 u=G1 w->u=w:=by
 intro u w hu hw e
 have e:=congrArg F5 e
 rw [Q9g hu,Q9g hw]at e
 have go:∀l m:List Nat,B8 l->B8 m->(l.map fun c=>D.str (N9 c))=(m.map fun c=>D.str (N9 c))->l=m:=by
  intro l
  induction l with
  | nil=>intro m _ _ h;cases m with
   | nil=>rfl
   | cons _ _=>cases h
  | cons a l ih =>
   intro m hl hm h
   cases m with
   | nil=>cases h
   | cons b m =>
    injection h with h1 h2
    injection h1 with h1
    rw [W9a (hl a am) (hm b am) h1,ih m (fun d hd=>hl d (ai _ hd)) (fun d hd=>hm d (ai _ hd)) h2]
 exact go u w hu hw e
noncomputable abbrev tD (w:List Nat):D:=.str (G1 w)
noncomputable def U1 (ws:List (List Nat)):List (List Nat):=ws.flatMap fun w=>B2.map fun c=>w++[c]
noncomputable def Q5s:Nat->List (List Nat)->List (List Nat)->List (List Nat)
 | 0,found,_=>found
 | n+1,found,row=>Q5s n (found++U1 row) (U1 row)
noncomputable def Q1t (n:Nat):List (List Nat):=Q5s n [[]] [[]]
theorem Z3d (ws:List (List Nat)):(U1 ws).length=4*ws.length:=by
 induction ws with
 | nil=>rfl
 | cons w ws ih=>rw [U1,bv,aq,<- U1,ih,ag];simp only [aB,bc];omega
theorem W1w {ws:List (List Nat)}{k:Nat} (h:∀w∈ws,B8 w/\w.length<=k):∀w∈U1 ws,B8 w/\w.length<=k+1:=by
 intro w hw
 obtain⟨u,hu,hw⟩:=bE.mp hw
 obtain⟨c,hc,rfl⟩:=ah.mp hw
 refine⟨(h u hu).1.snoc hc,?_⟩
 have:=(h u hu).2
 rw [aq];simp only [aB,bc];omega
theorem Q5i {w:List Nat} (h:B8 w):(G1 w).length=w.length:=by
 have:=congrArg List.length (Q9g h)
 rw [ag]at this
 rw [<- this];unfold F5;rw [ag,bG];rfl
theorem sgn4:F5 "01ab"=B2.map fun c=>.str (N9 c):=rfl
def wsI:WS:=(C1 4 (A3 G2 (wV 4) (M6 1 [5] (Z2v (wC (.str "01ab"))) (B1 0) W1 (B5 (A3 G2 (wV 1) (wV 0))))))
theorem Y4o {E:F6}{o0 o1 o2 o3:Option Sl}:∀(ws bU:List (List Nat)) (o5:Option Sl),(∀w∈ws,B8 w/\w.length<=1000)->bU.length+4*ws.length<=100000->(∀o5,E.nx [o0,o1,o2,o3,some (.own ((bU++U1 ws).map tD)),o5]) ->
  D6 (B1 5) wsI E (ws.map tD) [o0,o1,o2,o3,some (.own (bU.map tD)),o5]
 | [],bU,o5,_,_,h=>by
  have:=h o5
  simp only [U1,List.flatMap_nil,aX]at this
  exact this
 | w::ws,bU,o5,hw,hl,h=>by
  rw [au,D6]
  rw [aB]at hl
  simp only [wsI,M8,F9,C8,B0,E4,V1,W8d]
  refine⟨_,rfl,_,rfl,?_⟩
  rw [sgn4]
  refine⟨sz (by simp),?_⟩
  refine Q1d (f:=fun d=>match d with | .str s=>.str (G1 w++s) | d=>d) _ none _ (fun d hd Q' q=>?_) ?_
  ·obtain⟨c,hc,rfl⟩:=ah.mp hd
   simp only [E9,C8,B0]
   refine⟨_,rfl,_,rfl,?_⟩
   rw [N7,N7,Z3o]
   refine⟨sz ?_,q⟩
   rw [Q5i (hw w am).1]
   have:=(hw w am).2
   have:(N9 c).length=1:=by
    simp only [B2,av,aO,bO]at hc
    rcases hc with rfl | rfl | rfl | rfl <;> rfl
   omega
  ·rw [O9,W3e]
   refine⟨sz (by simp only [ag,aB,bc];omega),?_⟩
   rw [L7]
   have e:bU.map tD++(B2.map fun c=>D.str (N9 c)).map (fun d=>match d with | .str s=>.str (G1 w++s) | d=>d)=(bU++B2.map fun c=>w++[c]).map tD:=by
    rw [aY,aL,aL]
    congr 1
    exact bb fun c _=>by show D.str (G1 w++N9 c)=.str (G1 (w++[c]));rw [Q9w]
   show D6 _ _ _ _ [o0,o1,o2,o3,some (.own (bU.map tD++_)),_]
   rw [e]
   refine Y4o ws _ _ (fun u hu=>hw u (ai _ hu)) (by simp only [aq,ag,aB,bc];omega) fun o5=>?_
   have:=h o5
   rw [show U1 (w::ws)=(B2.map fun c=>w++[c])++U1 ws from rfl,<- bI]at this
   exact this
noncomputable def Q3d:Nat->Nat
 | 0=>0
 | n+1=>4+4*Q3d n
def wsO:WS:=(A7 (C1 4 (G6 A5)) (A7 (Q7f 4 (K3 (Z9 (B5 (wV 2))) (B1 5) wsI)) (A7 (C1 2 (B5 (wV 4))) (C1 1 (A3 Q0i (wV 1) (wV 2))))))
theorem Y4p {E:F6}{o0:Option Sl}:∀(l:List D) (k:Nat) (found row:List (List Nat)) (o3 o4 o5:Option Sl),(∀w∈row,B8 w/\w.length<=k)->k+l.length<=1000->found.length+row.length*Q3d l.length<=100000 ->
  (∀ τ',(∃o2 o3 o4 o5,τ'=[o0,some (.own ((Q5s l.length found row).map tD)),o2,o3,o4,o5])->E.nx τ') ->
  D6 (B1 3) wsO E l [o0,some (.own (found.map tD)),some (.dat (.lst (row.map tD))),o3,o4,o5]
 | [],k,found,row,o3,o4,o5,_,_,_,h=>h _ ⟨_,_,_,_,rfl⟩
 | d::l,k,found,row,o3,o4,o5,hw,hk,hl,h=>by
  rw [D6]
  rw [aB]at hk hl
  have iY:found.length+4*row.length+4*row.length*Q3d l.length<=100000:=by
   have e:row.length*Q3d (l.length+1)=4*row.length+4*row.length*Q3d l.length:=by
    show row.length*(4+4*Q3d l.length)=_
    rw [Nat.mul_add,Nat.mul_comm row.length 4,<- Nat.mul_assoc,Nat.mul_comm row.length 4]
   omega
  simp only [wsO,M8,D7,F9,s_lst,C2,Y2s,S6,Q6r,E9,B0,C8]
  refine⟨_,rfl,sz (by simp),?_⟩
  rw [L7]
  refine⟨_,rfl,?_⟩
  rw [N7,Q8y]
  refine⟨_,rfl,?_⟩
  refine Y4o row [] o5 (fun w hm=>⟨(hw w hm).1,by have:=(hw w hm).2;omega⟩) (by simp;omega) fun o5=>?_
  refine⟨_,rfl,_,rfl,?_⟩
  rw [N7,Q8y,Q6]
  refine⟨_,rfl,_,rfl,?_⟩
  rw [O9,N7,Z3p]
  refine⟨_,_,rfl,rfl,sz (by simp only [ag,bL,Z3d];omega),?_⟩
  rw [L7,<- aY]
  exact Y4p l (k+1) _ _ _ _ _ (W1w hw) (by omega) (by rw [aq,bL,Z3d];omega) h
noncomputable def Q9l:E6:=fun rs r=>∃n:Nat,rs=[.st (iD n)]/\n<=5/\r=.nw ((Q1t n).map tD)
theorem W7j:∀rs r,rs.length=1->Q9l rs r->Z6i (U6 r) (G9 Z0t rs):=by
 rintro rs r _ ⟨n,rfl,hn,rfl⟩
 unfold Z6i
 simp only [D7,F9,s_lst,C7,C2,E9,E4,S6,Z4n,B0,Q6v]
 refine⟨_,rfl,sz (by simp),?_⟩
 rw [L7]
 refine⟨_,rfl,sz (by simp),?_⟩
 refine⟨_,rfl,_,rfl,by omega,by omega,?_⟩
 have len:(N8 0 (n:Int).toNat).length=n:=by unfold N8;simp
 have hs:Q3d n<=5000:=by
  have:∀k,k<=5->Q3d k<=5000:=by decide
  exact this n hn
 refine Y4p _ 0 [[]] [[]] _ _ _ (fun w hw=>?_) (by omega) (by rw [len];simp;omega) fun τ' ⟨o2,o3,o4,o5,e⟩=>?_
 ·rw [aI.mp hw];exact⟨(fun c hc=>nomatch hc),ao _⟩
 subst e
 rw [len]
 exact⟨_,rfl,rfl⟩
section
variable {es:List Bool}{rows:List (List Nat)}
theorem Q3t (wf:Wf es rows) {i c:Nat} (hi:i<es.length) (hc:c∈B2):C6 rows i c<es.length:=by
 obtain⟨_,_,_,h⟩:=wf.row hi
 exact(h c (by simp only [B2,av,aO,bO]at hc;omega)).2
end
section
variable {es:List Bool}{rows:List (List Nat)}
end
section
variable {α:Type} [DecidableEq α]
theorem Y3u {step:α->Nat->α}:∀(n:Nat) (ks:List α) (rs:List (List Nat)),N5 [0] rs=List.range ks.length->(∀s,s<rs.length->s<(N5 [0] (rs.take s)).length)->∀s,s<(Q2 step n ks rs).2.length->s<(N5 [0] ((Q2 step n ks rs).2.take s)).length
 | 0,ks,rs,_,h=>h
 | n+1,ks,rs,hm,h=>by
  unfold Q2
  split
  ·exact h
  ·rename_i k e
   have hp:=(Q4z (step k) B2 ks []).length_le
   have lw:N5 [0] (rs++[(J6 (step k) B2 ks []).2])=List.range (J6 (step k) B2 ks []).1.length:=by
    rw [Z3n,hm,Q9e,bL,Q8x (step k) ks.length B2 ks [] _ rfl (ao _) (fun x hx=>.inl hx) (fun x hx=>by cases hx),range_add]
    congr 1
    omega
   refine Y3u n _ _ lw fun s hs=>?_
   rw [aq,aB,bc]at hs
   by_cases lt:s<rs.length
   ·rw [cn (cD lt)];exact h s lt
   ·have:s=rs.length:=by omega
    subst this
    rw [cn (ao _),List.take_length,hm,b8]
    exact(aG.mp e).1
end
theorem Y1a:∀(rs:List (List Nat)) (met:List Nat),met <+: N5 met rs
 | [],_=>bD _
 | r::rs,met=>(cN _ _).trans (Y1a rs _)
theorem Y0z:∀(rs qs:List (List Nat)) (met:List Nat),N5 met (rs++qs)=N5 (N5 met rs) qs
 | [],_,_=>rfl
 | r::rs,qs,met=>Y0z rs qs _
theorem Wf.rowEq {es:List Bool}{rows:List (List Nat)} (w:Wf es rows) {s:Nat} (h:s<es.length):rows[s]?=some (B2.map (C6 rows s)):=by
 obtain⟨r,e,l,g⟩:=w.row h
 rw [e]
 have g0:=(g 0 (by decide)).1
 have g1:=(g 1 (by decide)).1
 have g2:=(g 2 (by decide)).1
 have g3:=(g 3 (by decide)).1
 match r,l with
 | [a,b,c,d],_ =>
  injection g0 with g0;injection g1 with g1;injection g2 with g2;injection g3 with g3
  show some [a,b,c,d]=some [C6 rows s 0,C6 rows s 1,C6 rows s 2,C6 rows s 3]
  rw [<- g0,<- g1,<- g2,<- g3]
theorem Z3k {met:List Nat}{x:Nat}:∀(r pre:List Nat),x∈Q1k met pre r->x∈r
 | [],pre,h=>by rw [Q1k]at h;cases h
 | y::r,pre,h=>by
  rw [Q1k]at h
  split at h
  ·exact ai _ (Z3k r _ h)
  ·rcases av.mp h with rfl | h
   ·exact am
   ·exact ai _ (Z3k r _ h)
theorem Y0y {x:Nat}:∀(rs:List (List Nat)) (met:List Nat),x∈N5 met rs->x∈met\/∃r∈rs,x∈r
 | [],met,h=>.inl h
 | r::rs,met,h=>by
  rw [N5]at h
  rcases Y0y rs _ h with h | ⟨q,hq,h⟩
  ·rcases aN.mp h with h | h
   ·exact .inl h
   ·exact .inr ⟨r,am,Z3k _ _ h⟩
  ·exact .inr ⟨q,ai _ hq,h⟩
abbrev Q7n:List Str:=["machine","ends","rows","keys","reached_rows","steps"]
def Y5o:WE:=(A3 B9 (A3 B9 (wV 2) (wV 0)) (wV 1))
def Z6n (dy:P5)  (Q5e:E6) (Q3v:J9):WS:=(A7 (Z0c (wV 0) (N4 2 (F4 (B1 1) (F4 (B1 2) O7)))) (A7 (Z0c (Z5m dy 2 [("rows",2)] Y5o Q5e (wC (.int 0))) (N4 2 (F4 (B1 3) (F4 (B1 4) O7)))) (A7 (C1 5 (M4 Q3v (A1 (M6 1 [1] (V7 (wV 3)) (B1 0) W1 (B5 (A3 B9 (wV 1) (wV 0)))) (A1 (wV 4) (A1 (wC (.bl true)) A5))))) (I0 (M6 1 [5] (Q2p (wV 4)) (B1 0) W1 (B5 (M6 1 [1] (Q2p (wV 0)) (B1 0) (A3 (Q0m true) (A3 B9 (wV 1) (wV 0)) (wC .non)) (B5 (wV 0)))))))))
abbrev Q7k:List Str:=["machine","onward","awaited","goals","goal","lengths","waiting","state"]
def Z6b   (sp_least_text:J9) (sp_onward_goals:J9):WS:=(A7 (L1 (A3 (Q0m false) (M4 sp_least_text (A1 (wV 0) A5)) (wC .non)) (I0 (Z1 (wC (.int 1)))) L3) (A7 (C1 1 (M4 sp_onward_goals (A1 (wV 0) A5))) (A7 (C1 2 (A3 T1 (G6 (A1 (B5 (wC (.int 0))) A5)) (D3 D9 (A1 (wV 1) A5)))) (A7 (K3 (Q8k 1) (B1 3) (K3 (Z9 (B5 (wV 3))) (B1 4) (Q5p 2 (fun i j=>i+j) (wV 4) (wC (.int 1))))) (A7 (C1 5 (A3 T1 (G6 (A1 (B5 (wC (.int 0))) A5)) (D3 D9 (A1 (wV 1) A5)))) (A7 (C1 6 (M6 2 [] (Q8p (A1 (wV 2) A5)) (N4 2 (F4 (B1 0) (F4 (B1 1) O7))) (A3 (F8 60 false) (wV 1) (wC (.int 0))) (B5 (wV 0)))) (A7 (Q3i (Q0v (wV 6)) (A7 (Z5s 6 (B1 7)) (K3 (Z9 (B5 (A3 B9 (wV 1) (wV 7)))) (B1 4) (A7 (Z0h 5 (wV 4) (B5 (D3 Q6o (A1 (A3 B9 (wV 5) (wV 4)) (A1 (A3 G2 (A3 B9 (wV 5) (wV 7)) (wC (.int 1))) A5))))) (A7 (Q5p 2 (fun i j=>i-j) (wV 4) (wC (.int 1))) (L1 (A3 (F8 60 false) (A3 B9 (wV 2) (wV 4)) (wC (.int 0))) (P3 6 (B5 (wV 4))) L3)))))) (I0 (wIf (A3 (F8 60 false) (D3 Q4t (A1 (wV 2) A5)) (wC (.int 0))) (D3 Q4t (A1 (wV 5) A5)) (wC .non))))))))))
abbrev Z7h:List Str:=["machine"]
def Z6a   (sp_last_length:J9):WS:=(I0 (wB (A3 (Q0m true) (M4 sp_last_length (A1 (wV 0) A5)) (wC .non))))
abbrev Z7n:List Str:=["machine","last"]
def Z6k   (sp_last_length:J9):WS:=(A7 (C1 1 (M4 sp_last_length (A1 (wV 0) A5))) (I0 (wIf (A3 (F8 60 false) (wV 1) (Z1 (wC (.int 1)))) (wC .non) (wV 1))))
abbrev Z7m:List Str:=["machine","ends","rows"]
def Y5m:WE:=(A3 B9 (A3 B9 (wV 2) (wV 0)) (wV 1))
def Z6t:WE:=(A3 B9 (wV 1) (wV 0))
def Z6j (dy:P5)  (Q5d:E6):WS:=(A7 (Z0c (wV 0) (N4 2 (F4 (B1 1) (F4 (B1 2) O7)))) (I0 (Y5i dy 2 1 [("rows",2)] [("ends",1)] Y5m Z6t Q5d (wC (.int 0)))))
abbrev Z0u:List Str:=["machine"]
def Z6l   :WS:=(I0 (M6 1 [] (Q2p (A3 B9 (wV 0) (wC (.int 0)))) (B1 0) W1 (B5 (wIf (Q0v (wV 0)) (wC (.int 1)) (wC (.int 0))))))
abbrev Q7m:List Str:=["machine","counts"]
def Z6m   :WS:=(I0 (M6 1 [1] (Q2p (A3 B9 (wV 0) (wC (.int 1)))) (B1 0) W1 (B5 (D3 Q3w (A1 (M6 1 [1] (Q2p (wV 0)) (B1 0) W1 (B5 (A3 B9 (wV 1) (wV 0)))) A5)))))
abbrev Z7g:List Str:=["machine","long","last","counts","step"]
def Z5z   (sp_last_length:J9) (sp_no_signs:E6) (sp_one_more_sign:E6):WS:=(A7 (C1 2 (M4 sp_last_length (A1 (wV 0) A5))) (A7 (L1 (Q5n (A3 (Q0m true) (wV 2) (wC .non)) (A3 (J3 fun i j=>decide (j<i)) (wV 1) (wV 2))) (I0 (wC (.int 0))) L3) (A7 (C1 3 (L8 sp_no_signs (A1 (wV 0) A5))) (A7 (K3 (Y4 (A1 (wV 1) A5)) (B1 4) (C1 3 (L8 sp_one_more_sign (A1 (wV 0) (A1 (wV 3) A5))))) (I0 (A3 B9 (wV 3) (wC (.int 0))))))))
abbrev Z0v:List Str:=["machine","tables","size","found","counts","longer","text","state","sign","goal"]
def Z6o   :WS:=(A7 (C1 3 (wIf (A3 (J3 fun i j=>decide (j<i)) (A3 B9 (A3 B9 (wV 1) (Z1 (wC (.int 1)))) (wC (.int 0))) (wC (.int 0))) (G6 (A1 (B5 (Q3x (A1 (B5 (wC (.str ""))) (A1 (B5 (wC (.int 0))) A5)))) A5)) (G6 A5))) (A7 (K3 (Q8l (A1 (B5 (wSl (wV 1) Y7 (Y8 (Z1 (wC (.int 1)))))) A5)) (B1 4) (A7 (C1 5 (G6 A5)) (A7 (K3 (Q8k 3) (N4 2 (F4 (B1 6) (F4 (B1 7) O7))) (K3 (Q8m (A1 (wC (.str "01ab")) (A1 (A3 B9 (A3 B9 (wV 0) (wC (.int 1))) (wV 7)) A5))) (N4 2 (F4 (B1 8) (F4 (B1 9) O7))) (L1 (A3 (J3 fun i j=>decide (j<i)) (A3 B9 (wV 4) (wV 9)) (wC (.int 0))) (P3 5 (B5 (Q3x (A1 (B5 (A3 G2 (wV 6) (wV 8))) (A1 (B5 (wV 9)) A5))))) L3))) (C1 3 (wSl (wV 5) Y7 (Y8 (wV 2))))))) (I0 (M6 2 [] (V7 (wSl (wV 3) Y7 (Y8 (wV 2)))) (N4 2 (F4 (B1 0) (F4 (B1 1) O7))) W1 (B5 (wV 0))))))
abbrev Z7o:List Str:=["machine","long","last","told","tables"]
def Z6p   (sp_last_length:J9) (sp_no_signs:E6) (sp_texts_of_length:E6) (sp_one_more_sign:E6):WS:=(A7 (C1 2 (M4 sp_last_length (A1 (wV 0) A5))) (A7 (C1 3 (G6 A5)) (A7 (C1 4 (G6 (A1 (B5 (L8 sp_no_signs (A1 (wV 0) A5))) A5))) (A7 (Q3i (A3 (J3 fun i j=>decide (i<=j)) (D3 D9 (A1 (wV 4) A5)) (A3 G2 (wIf (A3 (Q0m false) (wV 2) (wC .non)) (wV 1) (D3 Q3s (A1 (wV 1) (A1 (wV 2) A5)))) (wC (.int 1)))) (A7 (Q5q 3 (L8 sp_texts_of_length (A1 (wV 0) (A1 (wV 4) (A1 (A3 B9 (A3 B9 (wV 4) (Z1 (wC (.int 1)))) (wC (.int 0))) A5))))) (P3 4 (B5 (L8 sp_one_more_sign (A1 (wV 0) (A1 (A3 B9 (wV 4) (Z1 (wC (.int 1)))) A5))))))) (Q5r 3)))))
abbrev Z7f:List Str:=["machine","size","last","told","tables"]
def Z5y   (sp_last_length:J9) (sp_no_signs:E6) (sp_texts_of_length:E6) (sp_one_more_sign:E6):WS:=(A7 (C1 2 (M4 sp_last_length (A1 (wV 0) A5))) (A7 (C1 3 (G6 A5)) (A7 (C1 4 (G6 (A1 (B5 (L8 sp_no_signs (A1 (wV 0) A5))) A5))) (A7 (Q3i (Q5n (A3 (J3 fun i j=>decide (i<j)) (D3 D9 (A1 (wV 3) A5)) (wV 1)) (wOr (A3 (Q0m false) (wV 2) (wC .non)) (A3 (J3 fun i j=>decide (i<=j)) (D3 D9 (A1 (wV 4) A5)) (A3 G2 (wV 2) (wC (.int 1)))))) (A7 (Q5q 3 (L8 sp_texts_of_length (A1 (wV 0) (A1 (wV 4) (A1 (A3 (M5 NoC fun i j=>i-j) (wV 1) (D3 D9 (A1 (wV 3) A5))) A5))))) (P3 4 (B5 (L8 sp_one_more_sign (A1 (wV 0) (A1 (A3 B9 (wV 4) (Z1 (wC (.int 1)))) A5))))))) (Q5r 3)))))
noncomputable def wl:Nat->List (List Nat)
 | 0=>[[]]
 | n+1=>U1 (wl n)
theorem Y5q:∀(n k:Nat) (found:List (List Nat)),Q5s n found (wl k)=found++(List.range n).flatMap fun i=>wl (k+1+i)
 | 0,k,found=>by simp [Q5s]
 | n+1,k,found=>by
  rw [Q5s,show U1 (wl k)=wl (k+1)from rfl,Y5q n (k+1),cq,bv,List.flatMap_map,bI]
  have:(fun(a:Nat)=>wl (k+1+a.succ))=fun(i:Nat)=>wl (k+1+1+i):=by funext i;rw [show k+1+i.succ=k+1+1+i by omega]
  rw [this]
theorem Z6x (n:Nat):Q1t n=(List.range (n+1)).flatMap wl:=by
 rw [Q1t,show([[]]:List (List Nat))=wl 0 from rfl,Y5q,cq,bv,List.flatMap_map]
 have:(fun(i:Nat)=>wl (0+1+i))=fun(a:Nat)=>wl a.succ:=by funext i;rw [show 0+1+i=i.succ by omega]
 rw [this]
theorem S0:∀{n:Nat}{w:List Nat},w∈wl n ↔ B8 w/\w.length=n
 | 0,w=>by
  rw [wl,aI]
  constructor
  ·rintro rfl;exact⟨B8.nil,rfl⟩
  ·rintro ⟨_,h⟩;exact cj.mp h
 | n+1,w=>by
  rw [wl,U1,bE]
  constructor
  ·rintro ⟨u,hu,hw⟩
   obtain⟨c,hc,rfl⟩:=ah.mp hw
   obtain⟨h1,h2⟩:=S0.mp hu
   exact⟨h1.snoc hc,by rw [aq,h2];rfl⟩
  ·rintro ⟨h1,h2⟩
   have cy:w≠[]:=fun e=>by rw [e]at h2;cases h2
   have e:=List.dropLast_concat_getLast cy
   refine⟨w.dropLast,S0.mpr ⟨fun c hc=>h1 c (List.dropLast_subset w hc),by rw [List.length_dropLast,h2];rfl⟩,ah.mpr ⟨w.getLast cy,h1 _ (List.getLast_mem cy),e⟩⟩
theorem Z3m {n:Nat}{w:List Nat}:w∈Q1t n ↔ B8 w/\w.length<=n:=by
 rw [Z6x,bE]
 constructor
 ·rintro ⟨i,hi,h⟩
  obtain⟨a,b⟩:=S0.mp h
  exact⟨a,by have:=aM.mp hi;omega⟩
 ·rintro ⟨a,b⟩
  exact⟨w.length,aM.mpr (by omega),S0.mpr ⟨a,rfl⟩⟩
noncomputable def E2 (w:List Nat):Nat:=w.foldl (fun n c=>4*n+c+1) 0
theorem Q2d (w:List Nat) (c:Nat):E2 (w++[c])=4*E2 w+c+1:=by unfold E2;rw [List.foldl_append];rfl
theorem Z1w {c:Nat} (h:c∈B2):c<4:=by simp only [B2,av,aO,bO]at h;omega
theorem W1v {ws:List (List Nat)} (h:ws.Pairwise fun a b=>E2 a<E2 b):(U1 ws).Pairwise fun a b=>E2 a<E2 b:=by
 induction ws with
 | nil=>exact List.Pairwise.nil
 | cons w ws ih =>
  obtain⟨h1,h2⟩:=List.pairwise_cons.mp h
  rw [U1,bv,List.pairwise_append]
  refine⟨?_,ih h2,fun a ha b hb=>?_⟩
  ·simp only [B2,au,cX]
   simp [List.pairwise_cons,Q2d]
  ·obtain⟨c,hc,rfl⟩:=ah.mp ha
   obtain⟨v,hv,hb⟩:=bE.mp hb
   obtain⟨d,hd,rfl⟩:=ah.mp hb
   have:=h1 v hv
   rw [Q2d,Q2d]
   have:=Z1w hc
   omega
theorem Y5p:∀n,(wl n).Pairwise fun a b=>E2 a<E2 b
 | 0=>by rw [wl];simp
 | n+1=>W1v (Y5p n)
noncomputable def lo:Nat->Nat
 | 0=>0
 | n+1=>4*lo n+1
theorem Y1k (w:List Nat):B8 w->lo w.length<=E2 w/\E2 w<lo (w.length+1):=by
 refine Q6x (P:=fun w=>B8 w->lo w.length<=E2 w/\E2 w<lo (w.length+1)) ?_ ?_ w
 ·intro _;exact⟨ao _,by show(0:Nat)<4*0+1;omega⟩
 ·intro w c ih hw
  obtain⟨h1,h2⟩:=ih fun d hd=>hw d (aN.mpr (.inl hd))
  have hc:=Z1w (hw c (by simp))
  rw [Q2d,aq]
  show 4*lo w.length+1<=_/\_<4*lo (w.length+1)+1
  omega
theorem W1u {i j:Nat} (h:i<=j):lo i<=lo j:=by
 induction j with
 | zero=>rw [Nat.le_zero.mp h];exact ao _
 | succ j ih =>
  rcases aW j i with z | z
  ·rw [show i=j+1 by omega];exact ao _
  ·have:=ih z;show lo i<=4*lo j+1;omega
theorem Y1j {u w:List Nat} (hu:B8 u) (hw:B8 w) (h:u.length<w.length):E2 u<E2 w :=
 az (Y1k u hu).2 (aV (W1u h) (Y1k w hw).1)
theorem V1b (n:Nat):(Q1t n).Pairwise fun a b=>E2 a<E2 b:=by
 rw [Z6x]
 have key:∀l:List Nat,l.Pairwise (·<·)->(l.flatMap wl).Pairwise fun a b=>E2 a<E2 b:=by
  intro l
  induction l with
  | nil=>intro _;exact List.Pairwise.nil
  | cons i l ih =>
   intro h
   obtain⟨h1,h2⟩:=List.pairwise_cons.mp h
   rw [bv,List.pairwise_append]
   refine⟨Y5p i,ih h2,fun a ha b hb=>?_⟩
   obtain⟨j,hj,hb⟩:=bE.mp hb
   obtain⟨a1,a2⟩:=S0.mp ha
   obtain⟨b1,b2⟩:=S0.mp hb
   exact Y1j a1 b1 (by have:=h1 j hj;omega)
 exact key _ List.pairwise_lt_range
noncomputable def M0 (m:A8):Nat->List Nat
 | 0=>m.1.map fun b=>if b=true then 1 else 0
 | l+1=>m.2.map fun r=>(r.map fun g=>(M0 m l).getD g 0).sum
noncomputable def J4 (m:A8) (l s:Nat):Nat:=(M0 m l).getD s 0
theorem Y7v {m:A8} (wf:D5 m):∀l,(M0 m l).length=m.1.length
 | 0=>by rw [M0,ag]
 | l+1=>by rw [M0,ag];exact wf.len
theorem Z8q (m:A8) (s:Nat):J4 m 0 s=if m.1.getD s false=true then 1 else 0:=by
 unfold J4 M0
 rw [ar,ak,ar]
 cases m.1[s]? <;> rfl
theorem Z8p {m:A8} (wf:D5 m) {s:Nat} (h:s<m.1.length) (l:Nat):J4 m (l+1) s=(B2.map fun c=>J4 m l (C6 m.2 s c)).sum:=by
 unfold J4
 rw [M0,ar,ak,Wf.rowEq wf h]
 show((B2.map (C6 m.2 s)).map _).sum=_
 rw [aL];rfl
theorem Q2f (m:A8) (p:List Nat) (c:Nat):E1 m (p++[c])=C6 m.2 (E1 m p) c:=by unfold E1;rw [Q1o];rfl
theorem Z8s {m:A8} (wf:D5 m):∀(k l:Nat),((wl k).map fun p=>J4 m l (E1 m p)).sum=J4 m (l+k) 0
 | 0,l=>by simp [wl,E1,run]
 | k+1,l=>by
  rw [show l+(k+1)=(l+1)+k by omega,<- Z8s wf k (l+1),wl,U1]
  have key:∀ws:List (List Nat),(∀w∈ws,B8 w)->((ws.flatMap fun w=>B2.map fun c=>w++[c]).map fun p=>J4 m l (E1 m p)).sum=(ws.map fun p=>J4 m (l+1) (E1 m p)).sum:=by
   intro ws
   induction ws with
   | nil=>intro _;rfl
   | cons w ws ih =>
    intro h
    rw [bv,aY,List.sum_append,ih fun u hu=>h u (ai _ hu),au (f:=fun p=>J4 m (l+1) (E1 m p)),cF,Z8p wf (Q0g wf w (h w am)),aL]
    congr 2
    exact bb fun c _=>by show J4 m l (E1 m (w++[c]))=_;rw [Q2f]
  exact key _ fun w hw=>(S0.mp hw).1
theorem Z1v {m:A8} (wf:D5 m) (k:Nat):J4 m k 0=((wl k).filter (G4 m)).length:=by
 have:=Z8s wf k 0
 rw [dH]at this
 rw [<- this]
 have key:∀ws:List (List Nat),(ws.map fun p=>J4 m 0 (E1 m p)).sum=(ws.filter (G4 m)).length:=by
  intro ws
  induction ws with
  | nil=>rfl
  | cons w ws ih =>
   rw [au,cF,ih,Z8q,c7]
   show(if G4 m w=true then 1 else 0)+_=_
   split
   ·rw [aB];omega
   ·omega
 exact key _
noncomputable def fk (m:A8) (l k:Nat):List (List Nat):=(wl k).filter fun p=>decide (0<J4 m l (E1 m p))
noncomputable def ext (m:A8) (l:Nat) (p:List Nat):List (List Nat):=(B2.filter fun c=>decide (0<J4 m l (C6 m.2 (E1 m p) c))).map fun c=>p++[c]
theorem Y4g {l:List Nat}:0<l.sum ↔ ∃x∈l,0<x:=by
 induction l with
 | nil=>simp
 | cons a l ih =>
  rw [cF]
  constructor
  ·intro h
   rcases dZ a with z | z
   ·obtain⟨x,hx,h⟩:=ih.mp (by omega);exact⟨x,ai _ hx,h⟩
   ·exact⟨a,am,z⟩
  ·rintro ⟨x,hx,h⟩
   rcases av.mp hx with rfl | hx
   ·omega
   ·have:=ih.mpr ⟨x,hx,h⟩;omega
theorem Z8r {m:A8} (wf:D5 m) {s:Nat} (h:s<m.1.length) {l:Nat}:0<J4 m (l+1) s ↔ ∃c∈B2,0<J4 m l (C6 m.2 s c):=by
 rw [Z8p wf h,Y4g]
 constructor
 ·rintro ⟨x,hx,q⟩;obtain⟨c,hc,rfl⟩:=ah.mp hx;exact⟨c,hc,q⟩
 ·rintro ⟨c,hc,q⟩;exact⟨_,ah.mpr ⟨c,hc,rfl⟩,q⟩
theorem Z9m {m:A8} (wf:D5 m) (l k:Nat):(fk m (l+1) k).flatMap (ext m l)=fk m l (k+1):=by
 unfold fk
 rw [wl,U1]
 have key:∀ws:List (List Nat),(∀w∈ws,B8 w)->(ws.filter fun p=>decide (0<J4 m (l+1) (E1 m p))).flatMap (ext m l)=(ws.flatMap fun w=>B2.map fun c=>w++[c]).filter fun p=>decide (0<J4 m l (E1 m p)):=by
  intro ws
  induction ws with
  | nil=>intro _;rfl
  | cons w ws ih =>
   intro h
   have hw:=Q0g wf w (h w am)
   have e:ext m l w=(B2.map fun c=>w++[c]).filter fun p=>decide (0<J4 m l (E1 m p)):=by
    rw [cM]
    unfold ext
    congr 1
    exact cx fun c _=>by show _=decide (0<J4 m l (E1 m (w++[c])));rw [Q2f]
   rw [bv,List.filter_append,<- ih fun u hu=>h u (ai _ hu),c7,<- e]
   split
   ·rw [bv]
   ·rename_i hn
    have:ext m l w=[]:=by
     unfold ext
     rw [List.map_eq_nil_iff,bT]
     intro c hc hp
     exact hn (be ((Z8r wf hw).mpr ⟨c,hc,br hp⟩))
    rw [this];rfl
 exact key _ fun w hw=>(S0.mp hw).1
theorem Z9l {m:A8} (wf:D5 m) {l k:Nat}{p:List Nat} (h:p∈fk m (l+1) k):ext m l p≠[]:=by
 obtain⟨h1,h2⟩:=ba.mp h
 obtain⟨c,hc,q⟩:=(Z8r wf (Q0g wf p (S0.mp h1).1)).mp (br h2)
 intro e
 unfold ext at e
 rw [List.map_eq_nil_iff,bT]at e
 exact e c hc (be q)
theorem Y9c (m:A8) (k:Nat):fk m 0 k=(wl k).filter (G4 m):=by
 unfold fk
 refine cx fun p _=>?_
 rw [Z8q]
 show _=m.1.getD (E1 m p) false
 cases m.1.getD (E1 m p) false <;> rfl
theorem Z9n {α β:Type} (f:α->List β):∀(l:List α) (n:Nat),(∀x∈l,f x≠[])->((l.take n).flatMap f).take n=(l.flatMap f).take n:=by
 have key:∀(l:List α) (n k:Nat),n<=k->(∀x∈l,f x≠[])->((l.take k).flatMap f).take n=(l.flatMap f).take n:=by
  intro l
  induction l with
  | nil=>intro n k _ _;rw [List.take_nil]
  | cons x l ih =>
   intro n k hk h
   cases n with
   | zero=>rw [List.take_zero,List.take_zero]
   | succ n =>
    cases k with
    | zero=>omega
    | succ k =>
     rw [List.take_succ_cons,bv,bv,List.take_append,List.take_append]
     congr 1
     have:0<(f x).length:=List.length_pos_iff.mpr (h x am)
     exact ih _ _ (by omega) fun y hy=>h y (ai _ hy)
 exact fun l n h=>key l n n (ao _) h
theorem Y4u {m:A8} (wf:D5 m) {w:List Nat} (hw:B8 w) (hl:m.1.length<=w.length):∃i j,i<j/\j<=m.1.length/\E1 m (w.take i)=E1 m (w.take j):=by
 refine eK fun no=>?_
 have nd:((List.range (m.1.length+1)).map fun i=>E1 m (w.take i)).Nodup:=by
  rw [List.nodup_iff_pairwise_ne,List.pairwise_map]
  refine List.Pairwise.imp_of_mem (R:=fun a b=>a<b) (fun {a b} ha hb h e=>no ⟨a,b,h,?_,e⟩) List.pairwise_lt_range
  have:=aM.mp hb;omega
 have:=nd.length_le_of_subset (l₂:=List.range m.1.length) fun x hx=>by
  obtain⟨i,_,rfl⟩:=ah.mp hx
  exact aM.mpr (Q0g wf _ fun c hc=>hw c (List.mem_of_mem_take hc))
 simp at this
 omega
theorem Z7p (m:A8) {w:List Nat}{i j:Nat} (e:E1 m (w.take i)=E1 m (w.take j)):G4 m (w.take i++w.drop j)=G4 m w:=by
 have h:E1 m (w.take i++w.drop j)=E1 m w:=by
  conv=>rhs;rw [<- List.take_append_drop j w]
  unfold E1 at e ⊢
  rw [Q1o,Q1o,e]
 unfold G4;rw [h]
theorem B8.parts {w:List Nat} (h:B8 w) (i j:Nat):B8 (w.take i++w.drop j):=fun c hc=>(aN.mp hc).elim (fun q=>h c (List.mem_of_mem_take q)) fun q=>h c (List.mem_of_mem_drop q)
theorem cut {m:A8} (wf:D5 m) {w:List Nat} (hw:B8 w) (ha:G4 m w=true) (hl:m.1.length<=w.length):∃u,B8 u/\G4 m u=true/\u.length<w.length/\w.length<=u.length+m.1.length:=by
 obtain⟨i,j,h1,h2,e⟩:=Y4u wf hw hl
 refine⟨w.take i++w.drop j,hw.parts i j,by rw [Z7p m e];exact ha,?_,?_⟩ <;> (rw [aq,bQ,List.length_drop];omega)
theorem pump {m:A8} (wf:D5 m) {w:List Nat} (hw:B8 w) (ha:G4 m w=true) (hl:m.1.length<=w.length):∃u,B8 u/\G4 m u=true/\w.length<u.length:=by
 obtain⟨i,j,h1,h2,e⟩:=Y4u wf hw hl
 refine⟨w.take j++w.drop i,hw.parts j i,by rw [Z7p m e.symm];exact ha,?_⟩
 rw [aq,bQ,List.length_drop];omega
def L4 (m:A8) (w:List Nat):Prop:=B8 w/\G4 m w=true
def Inf (m:A8):Prop:=∀N,∃w,L4 m w/\N<=w.length
theorem Y5l {m:A8} (wf:D5 m) (h:Inf m) (N:Nat):∃w,L4 m w/\N<=w.length/\w.length<N+m.1.length:=by
 obtain⟨w,hw,hN⟩:=h N
 have key:∀(k:Nat) (w:List Nat),w.length<=k->L4 m w->N<=w.length->∃w,L4 m w/\N<=w.length/\w.length<N+m.1.length:=by
  intro k
  induction k with
  | zero=>intro w hk hw hN;exact⟨w,hw,hN,by have:=wf.pos;omega⟩
  | succ k ih =>
   intro w hk hw hN
   by_cases hl:w.length<N+m.1.length
   ·exact⟨w,hw,hN,hl⟩
   ·obtain⟨u,u1,u2,u3,u4⟩:=cut wf hw.1 hw.2 (by omega)
    exact ih u (by omega) ⟨u1,u2⟩ (by omega)
 exact key _ w (ao _) hw hN
def W4 (m:A8) (d:D):Prop:=(d=.int (-1)/\∀w,¬ L4 m w)\/(∃L:Nat,d=.int (L:Int)/\(∃w,L4 m w/\w.length=L)/\∀w,L4 m w->w.length<=L)\/(d=.non/\Inf m)
theorem Y0l {m:A8} (wf:D5 m) {L:Nat} (h:∀w,L4 m w->w.length<=L) (e:∃w,L4 m w/\w.length=L):L<m.1.length:=by
 obtain⟨w,hw,rfl⟩:=e
 refine eK fun no=>?_
 obtain⟨u,u1,u2,u3⟩:=pump wf hw.1 hw.2 (by omega)
 have:=h u ⟨u1,u2⟩
 omega
section
variable {α:Type} [DecidableEq α] {step:α->Nat->α}{start:α}{fin:α->Bool}
structure OkT (step:α->Nat->α) (start:α) (T:List (α×Str)) (ws:List (List Nat)):Prop where
 len:ws.length=T.length
 at_:∀(i:Nat) (w:List Nat),ws[i]?=some w->T[i]?=some (run step start w,G1 w)/\B8 w
 ord:ws.Pairwise fun a b=>E2 a<E2 b
theorem Z4k (w:List Nat) (c:Nat):run step start (w++[c])=step (run step start w) c:=by rw [Q1o];rfl
theorem Q9c {w:List Nat} (hw:B8 w) {c:Nat} (hc:c∈B2) {T:List (α×Str)}{ws:List (List Nat)} (O:OkT step start T ws) (hb:∀v∈ws,E2 v<=4*E2 w+c) :
  ∃vs,ws <+: vs/\OkT step start (W6 T (step (run step start w) c) (G1 w++N9 c)) vs/\(∀v∈vs,E2 v<=4*E2 w+c+1)/\∃v∈vs,run step start v=step (run step start w) c/\E2 v<=E2 (w++[c]):=by
 unfold W6
 split
 ·rename_i h
  obtain⟨q,hq,e⟩:=ah.mp h
  obtain⟨i,hi,e2⟩:=bp.mp hq
  have fA:i<ws.length:=by rw [O.len];exact hi
  obtain⟨a1,a2⟩:=O.at_ i _ (ab fA)
  rw [ab hi,e2]at a1
  have e3:q=(run step start ws[i],G1 ws[i]):=aA a1
  refine⟨ws,bD _,O,fun v hv=>Nat.le_succ_of_le (hb v hv),ws[i],bR fA,?_,?_⟩
  ·rw [<- e,e3]
  ·rw [Q2d];have:=hb _ (bR fA);omega
 ·refine⟨ws++[w++[c]],cN _ _,⟨by simp [O.len],fun i v e=>?_,?_⟩,fun v hv=>?_,w++[c],by simp,Z4k w c,ao _⟩
  ·rcases aW i ws.length with h | h
   ·rw [aK h]at e
    obtain⟨a1,a2⟩:=O.at_ i v e
    exact⟨by rw [aK (by rw [<- O.len];exact h)];exact a1,a2⟩
   ·rw [aU h]at e
    have hz:i-ws.length=0:=by
     rcases dZ (i-ws.length)with z | z
     ·exact z
     ·rw [aw.mpr (by simp;omega)]at e;cases e
    rw [hz]at e
    cases e
    refine⟨?_,hw.snoc hc⟩
    rw [aU (by rw [<- O.len];exact h),<- O.len,hz,Z4k,Q9w];rfl
  ·rw [List.pairwise_append]
   refine⟨O.ord,by simp,fun a ha b gZ=>?_⟩
   rw [aI.mp gZ,Q2d]
   have:=hb a ha;omega
  ·rcases aN.mp hv with h | h
   ·exact Nat.le_succ_of_le (hb v h)
   ·rw [aI.mp h,Q2d];exact ao _
theorem W3p {w:List Nat} (hw:B8 w) {T:List (α×Str)}{ws:List (List Nat)} (O:OkT step start T ws) (hb:∀v∈ws,E2 v<=4*E2 w) :
  ∃vs,ws <+: vs/\OkT step start (goT (step (run step start w)) (G1 w) T8 T) vs/\(∀v∈vs,E2 v<=4*E2 w+4)/\∀c∈B2,∃v∈vs,run step start v=step (run step start w) c/\E2 v<=E2 (w++[c]):=by
 obtain⟨v0,p0,O0,b0,r0⟩:=Q9c hw (c:=0) (by decide) O hb
 obtain⟨v1,p1,O1,b1,r1⟩:=Q9c hw (c:=1) (by decide) O0 b0
 obtain⟨v2,p2,O2,b2,r2⟩:=Q9c hw (c:=2) (by decide) O1 b1
 obtain⟨v3,p3,O3,b3,r3⟩:=Q9c hw (c:=3) (by decide) O2 b2
 refine⟨v3,p0.trans (p1.trans (p2.trans p3)),O3,b3,fun c hc=>?_⟩
 simp only [B2,av,aO,bO]at hc
 rcases hc with rfl | rfl | rfl | rfl
 ·obtain⟨v,h1,h2⟩:=r0;exact⟨v,(p1.trans (p2.trans p3)).subset h1,h2⟩
 ·obtain⟨v,h1,h2⟩:=r1;exact⟨v,(p2.trans p3).subset h1,h2⟩
 ·obtain⟨v,h1,h2⟩:=r2;exact⟨v,p3.subset h1,h2⟩
 ·exact r3
structure FtM (step:α->Nat->α) (start:α) (fin:α->Bool) (T:List (α×Str)) (ws:List (List Nat)) (p:Nat):Prop where
 ok:OkT step start T ws
 zero:ws[0]?=some []
 past:∀(i:Nat) (w:List Nat),i<p->ws[i]?=some w->fin (run step start w)=false/\∀c∈B2,∃v∈ws,run step start v=step (run step start w) c/\E2 v<=E2 (w++[c])
 top:∀w,ws[p]?=some w->∀v∈ws,E2 v<=4*E2 w
theorem Y9e {T:List (α×Str)}{ws:List (List Nat)}{p:Nat} (F:FtM step start fin T ws p) (w:List Nat):B8 w->(∃v∈ws,run step start v=run step start w/\E2 v<=E2 w)\/∃(i:Nat) (v:List Nat),p<=i/\ws[i]?=some v/\E2 v<=E2 w:=by
 refine Q6x (P:=fun w=>B8 w->(∃v∈ws,run step start v=run step start w/\E2 v<=E2 w)\/∃(i:Nat) (v:List Nat),p<=i/\ws[i]?=some v/\E2 v<=E2 w) ?_ ?_ w
 ·intro _;exact .inl ⟨[],aJ F.zero,rfl,ao _⟩
 ·intro u c ih hw
  have hc:=hw c (by simp)
  have bZ:E2 u<E2 (u++[c]):=by rw [Q2d];omega
  rcases ih fun d hd=>hw d (by simp [hd])with⟨v,hv,e,h⟩ | ⟨i,v,hi,e,h⟩
  ·obtain⟨j,hj,e2⟩:=bp.mp hv
   have ej:ws[j]?=some v:=by rw [ab hj,e2]
   rcases aW j p with hp | hp
   ·obtain⟨_,q⟩:=F.past j v hp ej
    obtain⟨x,x1,x2,x3⟩:=q c hc
    refine .inl ⟨x,x1,by rw [x2,Z4k,e],?_⟩
    rw [Q2d]at x3 ⊢;omega
   ·exact .inr ⟨j,v,hp,ej,by omega⟩
  ·exact .inr ⟨i,v,hi,e,by omega⟩
theorem Y1r {ws:List (List Nat)} (h:ws.Pairwise fun a b=>E2 a<E2 b) {i j:Nat}{a b:List Nat} (hi:ws[i]?=some a) (hj:ws[j]?=some b) (hl:i<=j):E2 a<=E2 b:=by
 rcases aW i j with h1 | h1
 ·obtain⟨p1,q1⟩:=aG.mp hi
  obtain⟨p2,q2⟩:=aG.mp hj
  have:=List.pairwise_iff_getElem.mp h i j p1 p2 h1
  rw [q1,q2]at this;omega
 ·rw [show i=j by omega,hj]at hi;cases hi;exact ao _
theorem Z9t:∀(n:Nat) (T:List (α×Str)) (ws:List (List Nat)) (p:Nat),FtM step start fin T ws p->∀t,ftN step fin n T p=some t->∃w,B8 w/\t=G1 w/\fin (run step start w)=true/\∀u,B8 u->fin (run step start u)=true->E2 w<=E2 u
 | 0,T,ws,p,F,t,e=>by rw [ftN]at e;cases e
 | n+1,T,ws,p,F,t,e=>by
  rw [ftN]at e
  split at e
  ·cases e
  ·rename_i q hq
   obtain⟨k,s⟩:=q
   have hpl:p<ws.length:=by rw [F.ok.len];obtain⟨h,_⟩:=aG.mp hq;exact h
   have ew:=ab hpl
   obtain⟨a1,a2⟩:=F.ok.at_ p _ ew
   rw [hq]at a1
   have ek:k=run step start ws[p]:=congrArg Prod.fst (aA a1)
   have es:s=G1 ws[p]:=congrArg Prod.snd (aA a1)
   by_cases hf:fin k=true
   ·simp only [hf,gj]at e
    cases e
    refine⟨ws[p],a2,es,by rw [<- ek];exact hf,fun u hu pF=>?_⟩
    rcases Y9e F u hu with⟨v,hv,e1,h⟩ | ⟨i,v,hi,e1,h⟩
    ·obtain⟨j,hj,e2⟩:=bp.mp hv
     have ej:ws[j]?=some v:=by rw [ab hj,e2]
     have oT:p<=j:=by
      rcases aW j p with z | z
      ·have:=(F.past j v z ej).1;rw [e1,pF]at this;cases this
      ·exact z
     exact aV (Y1r F.ok.ord ew ej oT) h
    ·exact aV (Y1r F.ok.ord ew e1 hi) h
   ·have jy:fin k=false:=by simpa using hf
    simp only [jy,dY,cO]at e
    obtain⟨vs,pre,O,b,r⟩:=W3p (step:=step) (start:=start) a2 F.ok (F.top _ ew)
    rw [ek,es]at e
    obtain⟨add,fY⟩:=pre
    have get:∀{i:Nat}{v:List Nat},ws[i]?=some v->vs[i]?=some v:=fun {i v} q=>by
     rw [<- fY,aK]
     ·exact q
     ·obtain⟨h,_⟩:=aG.mp q;exact h
    have g8:∀{i:Nat}{v:List Nat},i<ws.length->vs[i]?=some v->ws[i]?=some v:=fun {i v} hi q=>by
     rw [<- fY,aK hi]at q;exact q
    refine Z9t n _ vs (p+1) ⟨O,get F.zero,fun i w hi q=>?_,fun w q v hv=>?_⟩ t e
    ·have q':=g8 (by omega) q
     rcases aW i p with z | z
     ·obtain⟨f1,f2⟩:=F.past i w z q'
      exact⟨f1,fun c hc=>let ⟨v,v1,v2⟩:=f2 c hc;⟨v,by rw [<- fY];exact aN.mpr (.inl v1),v2⟩⟩
     ·have:i=p:=by omega
      subst this
      rw [ew]at q';cases q'
      exact⟨by rw [<- ek];exact jy,r⟩
    ·have h1:=b v hv
     obtain⟨g1,g2⟩:=aG.mp q
     have:=List.pairwise_iff_getElem.mp O.ord p (p+1) (by omega) g1 (by omega)
     have e3:vs[p]?=some ws[p]:=get ew
     rw [ab (by omega)]at e3
     rw [aA e3,g2]at this
     omega
theorem Y8y {n:Nat}{t:Str} (h:Q2c n step start fin=some t):∃w,B8 w/\t=G1 w/\fin (run step start w)=true/\∀u,B8 u->fin (run step start u)=true->E2 w<=E2 u:=by
 refine Z9t n _ [[]] 0 ⟨⟨rfl,fun i w e=>?_,by simp⟩,rfl,fun i w hi=>by omega,fun w e v hv=>?_⟩ t h
 ·cases i with
  | zero=>cases e;exact⟨rfl,B8.nil⟩
  | succ i=>cases e
 ·cases e;rw [aI.mp hv];exact bi _
end
def Use (m:A8) (s:Nat):Prop:=∃w,B8 w/\Q3m m.1 m.2 s w=true
structure Gr (m:A8) (on:List (List Nat)):Prop where
 wf:D5 m
 len:on.length=m.1.length
 mem:∀u v,u<m.1.length->(v∈on.getD u [] ↔ (∃c∈B2,C6 m.2 u c=v)/\Use m v)
 reach:∀s,s<m.1.length->∃w,B8 w/\E1 m w=s
section
variable {m:A8}{on:List (List Nat)} (G:Gr m on)
include G
theorem Gr.lt {u v:Nat} (hu:u<m.1.length) (h:v∈on.getD u []):v<m.1.length:=by
 obtain⟨⟨c,hc,rfl⟩,_⟩:=(G.mem u v hu).mp h
 exact Q3t G.wf hu hc
omit G in
theorem Y5a {u c:Nat} (hc:c∈B2) (h:Use m (C6 m.2 u c)):Use m u:=by
 obtain⟨w,hw,ha⟩:=h
 exact⟨c::w,fun d hd=>by rcases av.mp hd with rfl | hd;exact hc;exact hw d hd,ha⟩
theorem Gr.edge {u c:Nat} (hu:u<m.1.length) (hc:c∈B2) (h:Use m (C6 m.2 u c)):C6 m.2 u c∈on.getD u []:=(G.mem u _ hu).mpr ⟨⟨c,hc,rfl⟩,h⟩
theorem Gr.long {Ln:Nat->Nat} (h1:∀u v,u<m.1.length->v∈on.getD u []->Ln u+1<=Ln v) (w:List Nat):B8 w->Use m (E1 m w)->w.length<=Ln (E1 m w):=by
 refine Q6x (P:=fun w=>B8 w->Use m (E1 m w)->w.length<=Ln (E1 m w)) (fun _ _=>bi _) ?_ w
 intro u c ih hw hU
 have hu:B8 u:=fun d hd=>hw d (by simp [hd])
 have hc:=hw c (by simp)
 rw [Q2f]at hU ⊢
 have:=ih hu (Y5a hc hU)
 have:=h1 _ _ (Q0g G.wf u hu) (G.edge (Q0g G.wf u hu) hc hU)
 rw [aq];simp only [aB,bc];omega
theorem Gr.way {Ln:Nat->Nat} (h1:∀u v,u<m.1.length->v∈on.getD u []->Ln u+1<=Ln v) (h2:∀v,v<m.1.length->0<Ln v->∃u,u<m.1.length/\v∈on.getD u []/\Ln v=Ln u+1):∀(k v:Nat),v<m.1.length->Ln v=k->Use m v->∃w,B8 w/\w.length=k/\E1 m w=v
 | 0,v,hv,e,hU=>by
  obtain⟨w,hw,hs⟩:=G.reach v hv
  rcases List.eq_nil_or_concat w with rfl | ⟨u,c,rfl⟩
  ·exact⟨[],B8.nil,rfl,hs⟩
  ·have hu:B8 u:=fun d hd=>hw d (by simp [hd])
   have hc:=hw c (by simp)
   rw [List.concat_eq_append,Q2f]at hs
   have:=h1 _ _ (Q0g G.wf u hu) (G.edge (Q0g G.wf u hu) hc (by rw [hs];exact hU))
   rw [hs]at this;omega
 | k+1,v,hv,e,hU=>by
  obtain⟨u,hu,eQ,e2⟩:=h2 v hv (by omega)
  obtain⟨⟨c,hc,ec⟩,_⟩:=(G.mem u v hu).mp eQ
  obtain⟨w,w1,w2,w3⟩:=Gr.way h1 h2 k u hu (by omega) (Y5a hc (by rw [ec];exact hU))
  exact⟨w++[c],w1.snoc hc,by rw [aq,w2];rfl,by rw [Q2f,w3,ec]⟩
theorem Gr.last {Ln:Nat->Nat}{L:Nat} (h1:∀u v,u<m.1.length->v∈on.getD u []->Ln u+1<=Ln v) (h2:∀v,v<m.1.length->0<Ln v->∃u,u<m.1.length/\v∈on.getD u []/\Ln v=Ln u+1)
  (hm:∃v,v<m.1.length/\Ln v=L) (hL:∀v,v<m.1.length->Ln v<=L) (ha:∃w,L4 m w):W4 m (.int (L:Int)):=by
 have up:∀w,L4 m w->w.length<=L:=fun w hw=>aV (G.long h1 w hw.1 ⟨[],B8.nil,hw.2⟩) (hL _ (Q0g G.wf w hw.1))
 have U0:Use m 0:=by obtain⟨w,hw⟩:=ha;exact⟨w,hw.1,hw.2⟩
 have fin:∀v,v<m.1.length->Ln v=L->Use m v->∃w,L4 m w/\w.length=L:=fun v hv e hU=>by
  obtain⟨w,w1,w2,w3⟩:=G.way h1 h2 L v hv e hU
  obtain⟨x,hx,ko⟩:=hU
  cases x with
  | nil=>exact⟨w,⟨w1,by unfold G4;rw [w3];exact ko⟩,w2⟩
  | cons c x =>
   have hc:=hx c am
   have U2:Use m (C6 m.2 v c):=⟨x,fun d hd=>hx d (ai _ hd),ko⟩
   have:=h1 _ _ hv (G.edge hv hc U2)
   have:=hL _ (Q3t G.wf hv hc)
   omega
 refine .inr (.inl ⟨L,rfl,?_,up⟩)
 obtain⟨v,hv,e⟩:=hm
 rcases dZ L with z | z
 ·exact fin 0 G.wf.pos (by have:=hL 0 G.wf.pos;omega) U0
 ·obtain⟨u,hu,eQ,_⟩:=h2 v hv (by omega)
  exact fin v hv e ((G.mem u v hu).mp eQ).2
theorem Gr.inf {S:Nat->Prop} (h:∀v,S v->v<m.1.length/\∃u,S u/\v∈on.getD u []) (hS:∃v,S v):Inf m:=by
 have key:∀(N v:Nat),S v->∃u w,u<m.1.length/\B8 w/\w.length=N/\run (C6 m.2) u w=v:=by
  intro N
  induction N with
  | zero=>intro v hv;exact⟨v,[],(h v hv).1,B8.nil,rfl,rfl⟩
  | succ N ih =>
   intro v hv
   obtain⟨_,u,hu,eQ⟩:=h v hv
   obtain⟨⟨c,hc,ec⟩,_⟩:=(G.mem u v (h u hu).1).mp eQ
   obtain⟨x,w,x1,x2,x3,x4⟩:=ih u hu
   exact⟨x,w++[c],x1,x2.snoc hc,by rw [aq,x3];rfl,by rw [Q1o,x4];exact ec⟩
 intro N
 obtain⟨v,hv⟩:=hS
 obtain⟨u,w,u1,w1,w2,w3⟩:=key N v hv
 obtain⟨_,u',l8,eQ⟩:=h v hv
 obtain⟨_,x,hx,ko⟩:=(G.mem u' v (h u' l8).1).mp eQ
 obtain⟨y,hy,iS⟩:=G.reach u u1
 refine⟨y++w++x,⟨(hy.app w1).app hx,?_⟩,by rw [aq,aq];omega⟩
 unfold G4 E1
 rw [Q1o,Q1o]
 unfold E1 at iS
 rw [iS,w3]
 exact ko
end
noncomputable def inc (on:List (List Nat)) (P:List Nat) (v:Nat):Nat:=(((List.range on.length).filter fun u=>decide (u∉P)).map fun u=>(on.getD u []).count v).sum
theorem Y4f {f:Nat->Nat}{s:Nat}:∀{l:List Nat},l.Nodup->s∈l->(l.map f).sum=((l.filter fun u=>decide (u≠s)).map f).sum+f s
 | [],_,h=>by cases h
 | x::l,nd,h=>by
  obtain⟨n1,n2⟩:=bj.mp nd
  rw [au,cF,c7]
  by_cases e:x=s
  ·subst e
   rw [ax (by simp)]
   have:l.filter (fun u=>decide (u≠x))=l:=ky.mpr fun u hu=>be fun z=>n1 (z ▸ hu)
   rw [this];omega
  ·rw [aC (by simpa using e),au,cF,Y4f n2 ((av.mp h).resolve_left fun z=>e z.symm)];omega
theorem Y9u {on:List (List Nat)}{P:List Nat}{s:Nat} (hs:s<on.length) (hP:s∉P) (v:Nat):inc on P v=inc on (s::P) v+(on.getD s []).count v:=by
 unfold inc
 rw [Y4f (s:=s) ((List.nodup_range.sublist List.filter_sublist)) (ba.mpr ⟨aM.mpr hs,be hP⟩),List.filter_filter]
 congr 3
 refine cx fun u _=>?_
 by_cases h1:u=s <;> by_cases h2:u∈P <;> simp [h1,h2]
theorem Y9v {on:List (List Nat)}{P:List Nat}{v:Nat} (h:0<inc on P v):∃u,u<on.length/\u∉P/\v∈on.getD u []:=by
 unfold inc at h
 obtain⟨x,hx,h⟩:=Y4g.mp h
 obtain⟨u,hu,rfl⟩:=ah.mp hx
 obtain⟨h1,h2⟩:=ba.mp hu
 exact⟨u,aM.mp h1,br h2,List.count_pos_iff.mp h⟩
structure Kh (on:List (List Nat)) (a Ln:Nat->Nat) (W P:List Nat):Prop where
 cnt:∀v,v<on.length->a v=inc on P v
 nd:(W++P).Nodup
 lt:∀v∈W++P,v<on.length
 zero:∀v,v<on.length->(a v=0 ↔ v∈W++P)
 ge:∀u v,u∈P->v∈on.getD u []->Ln u+1<=Ln v
 eq:∀v,0<Ln v->∃u∈P,v∈on.getD u []/\Ln v=Ln u+1
structure Ki (on:List (List Nat)) (s:Nat) (a Ln:Nat->Nat) (W P rest:List Nat):Prop where
 cnt:∀v,v<on.length->a v=inc on (s::P) v+rest.count v
 nd:(W++s::P).Nodup
 lt:∀v∈W++s::P,v<on.length
 zero:∀v,v<on.length->(a v=0 ↔ v∈W++s::P)
 ge:∀u v,u∈P->v∈on.getD u []->Ln u+1<=Ln v
 ges:∀v,v∈on.getD s []->v∈rest\/Ln s+1<=Ln v
 eq:∀v,0<Ln v->∃u∈s::P,v∈on.getD u []/\Ln v=Ln u+1
 sub:∀v∈rest,v∈on.getD s []
 ins:∀v,v∈on.getD s []->v<on.length
theorem Kh.pop {on:List (List Nat)}{a Ln:Nat->Nat}{W P:List Nat}{s:Nat} (K:Kh on a Ln (W++[s]) P) (eQ:∀v,v∈on.getD s []->v<on.length):Ki on s a Ln W P (on.getD s []):=by
 have hs:s<on.length:=K.lt s (by simp)
 have e:W++[s]++P=W++s::P:=by simp
 have nd:=K.nd
 rw [e]at nd
 have hP:s∉P:=(bj.mp (bh.mp nd).2.1).1
 refine⟨fun v hv=>by rw [K.cnt v hv,Y9u hs hP],nd,fun v hv=>K.lt v (by rw [e];exact hv),fun v hv=>by rw [K.zero v hv,e],K.ge,fun v hv=>.inl hv,fun v h=>?_,fun v h=>h,eQ⟩
 obtain⟨u,hu,q⟩:=K.eq v h
 exact⟨u,ai _ hu,q⟩
theorem Ki.done {on:List (List Nat)}{a Ln:Nat->Nat}{W P:List Nat}{s:Nat} (K:Ki on s a Ln W P []):Kh on a Ln W (s::P):=by
 refine⟨fun v hv=>by rw [K.cnt v hv];rfl,K.nd,K.lt,K.zero,fun u v hu hv=>?_,K.eq⟩
 rcases av.mp hu with rfl | hu
 ·exact(K.ges v hv).resolve_left (by simp)
 ·exact K.ge u v hu hv
theorem Ki.turn {on:List (List Nat)}{a Ln:Nat->Nat}{W P rest:List Nat}{s g:Nat} (K:Ki on s a Ln W P (g::rest)) :
  g<on.length/\0<a g/\g≠s/\Ki on s (fun i=>if i=g then a i-1 else a i) (fun i=>if i=g then max (Ln i) (Ln s+1)else Ln i) (if a g=1 then W++[g]else W) P rest:=by
 have hg:g<on.length:=K.ins g (K.sub g am)
 have hc:=K.cnt g hg
 rw [List.count_cons_self]at hc
 have jo:0<a g:=by omega
 have eA:g∉W++s::P:=fun h=>by have:=(K.zero g hg).mpr h;omega
 have fi:g≠s:=fun e=>eA (by rw [e];simp)
 have lB:g∉P:=fun h=>eA (by simp [h])
 refine⟨hg,jo,fi,?_⟩
 have fg:∀v,v∈(if a g=1 then W++[g]else W)++s::P ↔ v∈W++s::P\/(a g=1/\v=g):=fun v=>by
  split
  ·rename_i h;simp only [aN,av,aO,bO]
   constructor
   ·rintro ((q | q) | q)
    ·exact .inl (.inl q)
    ·exact .inr ⟨h,q⟩
    ·exact .inl (.inr q)
   ·rintro ((q | q) | ⟨_,q⟩)
    ·exact .inl (.inl q)
    ·exact .inr q
    ·exact .inl (.inr q)
  ·rename_i h
   constructor
   ·exact .inl
   ·rintro (q | ⟨q,_⟩)
    ·exact q
    ·exact absurd q h
 refine⟨fun v hv=>?_,?_,fun v hv=>?_,fun v hv=>?_,fun u v hu hv=>?_,fun v hv=>?_,fun v h=>?_,fun v hv=>K.sub v (ai _ hv),K.ins⟩
 ·show(if v=g then a v-1 else a v)=_
  by_cases e:v=g
  ·subst e;rw [aC rfl];omega
  ·rw [ax e,K.cnt v hv,List.count_cons_of_ne (fun z=>e z.symm)]
 ·split
  ·rw [bI]
   have nd:=bh.mp K.nd
   rw [bh]
   refine⟨nd.1,?_,fun x hx y hy=>?_⟩
   ·rw [List.singleton_append,bj];exact⟨fun h=>eA (aN.mpr (.inr h)),nd.2.1⟩
   ·rcases aN.mp hy with hy | hy
    ·rw [aI.mp hy];rintro rfl;exact eA (aN.mpr (.inl hx))
    ·exact nd.2.2 x hx y hy
  ·exact K.nd
 ·rcases (fg v).mp hv with h | ⟨_,rfl⟩
  ·exact K.lt v h
  ·exact hg
 ·rw [fg v]
  show(if v=g then a v-1 else a v)=0 ↔ _
  by_cases e:v=g
  ·subst e;rw [aC rfl]
   constructor
   ·intro h;exact .inr ⟨by omega,rfl⟩
   ·rintro (h | ⟨h,_⟩)
    ·exact absurd h eA
    ·omega
  ·rw [ax e,K.zero v hv]
   exact⟨.inl,fun h=>h.resolve_right fun q=>e q.2⟩
 ·show(if u=g then _ else Ln u)+1<=(if v=g then _ else Ln v)
  have oM:u≠g:=fun e=>lB (e ▸ hu)
  rw [ax oM]
  have:=K.ge u v hu hv
  split <;> omega
 ·show _\/(if s=g then _ else Ln s)+1<=(if v=g then _ else Ln v)
  rw [ax (fun e=>fi e.symm)]
  by_cases e:v=g
  ·subst e;rw [aC rfl];exact .inr (Nat.le_max_right _ _)
  ·rw [ax e]
   rcases K.ges v hv with h | h
   ·exact .inl ((av.mp h).resolve_left e)
   ·exact .inr h
 ·have keep:∀u,u∈s::P->(if u=g then max (Ln u) (Ln s+1)else Ln u)=Ln u:=fun u hu=>ax fun e=>eA (by rw [<- e];exact aN.mpr (.inr hu))
  have h:0<(if v=g then max (Ln v) (Ln s+1)else Ln v):=h
  show ∃u∈s::P,v∈on.getD u []/\(if v=g then max (Ln v) (Ln s+1)else Ln v)=(if u=g then _ else Ln u)+1
  by_cases e:v=g
  ·subst e
   rw [aC rfl]
   rcases Nat.le_total (Ln v) (Ln s+1)with q | q
   ·refine⟨s,am,K.sub v am,?_⟩
    rw [keep s am,Nat.max_eq_right q]
   ·obtain⟨u,hu,h1,h2⟩:=K.eq v (by omega)
    exact⟨u,hu,h1,by rw [keep u hu,Nat.max_eq_left q];exact h2⟩
  ·rw [ax e]at h ⊢
   obtain⟨u,hu,h1,h2⟩:=K.eq v h
   exact⟨u,hu,h1,by rw [keep u hu];exact h2⟩
theorem Kh.last {m:A8}{on:List (List Nat)} (G:Gr m on) {a Ln:Nat->Nat}{P:List Nat}{L:Nat} (K:Kh on a Ln [] P) (h0:∀v,v<on.length->a v=0) (hm:∃v,v<on.length/\Ln v=L) (hL:∀v,v<on.length->Ln v<=L) (ha:∃w,L4 m w):W4 m (.int (L:Int)):=by
 have all:∀v,v<on.length->v∈P:=fun v hv=>by simpa using (K.zero v hv).mp (h0 v hv)
 rw [G.len]at hm
 refine G.last (fun u v hu hv=>K.ge u v (all u (by rw [G.len];exact hu)) hv) (fun v hv h=>?_) hm (fun v hv=>hL v (by rw [G.len];exact hv)) ha
 obtain⟨u,hu,q⟩:=K.eq v h
 exact⟨u,by rw [<- G.len];exact K.lt u (by simpa using hu),q⟩
theorem Kh.inf {m:A8}{on:List (List Nat)} (G:Gr m on) {a Ln:Nat->Nat}{P:List Nat} (K:Kh on a Ln [] P) (h0:∃v,v<on.length/\a v≠0):Inf m:=by
 refine G.inf (S:=fun v=>v<on.length/\a v≠0) (fun v ⟨hv,h⟩=>⟨by rw [<- G.len];exact hv,?_⟩) h0
 rw [K.cnt v hv]at h
 obtain⟨u,u1,u2,u3⟩:=Y9v (by omega:0<inc on P v)
 exact⟨u,⟨u1,fun z=>u2 (by simpa using (K.zero u u1).mp z)⟩,u3⟩
theorem Kh.start (on:List (List Nat)):Kh on (inc on []) (fun _=>0) ((List.range on.length).filter fun v=>decide (inc on [] v=0)) []:=by
 refine⟨fun v _=>rfl,?_,fun v hv=>?_,fun v hv=>?_,fun u v hu=>(by cases hu),fun v h=>absurd h (aZ 0)⟩
 ·rw [aX];exact(List.nodup_range.sublist List.filter_sublist)
 ·rw [aX]at hv;exact aM.mp (ba.mp hv).1
 ·rw [aX,ba,aM,decide_eq_true_iff];exact⟨fun h=>⟨hv,h⟩,fun h=>h.2⟩
noncomputable def E8 (m:A8):A8:=Q4f (List.range m.1.length) (C6 m.2) 0 (fun s=>m.1.getD s false)
section
variable {m:A8} (wf:D5 m)
include wf
theorem Q7c:∀k∈List.range m.1.length,∀c∈B2,C6 m.2 k c∈List.range m.1.length:=fun k hk c hc=>aM.mpr (Q3t wf (aM.mp hk) hc)
theorem Q7i:0∈List.range m.1.length:=aM.mpr wf.pos
theorem Z4h:Q1x (C6 m.2) 0 (List.range m.1.length) (Y0 (List.range m.1.length).length (C6 m.2) 0).1 (Y0 (List.range m.1.length).length (C6 m.2) 0).2:=Y5j (Q7c wf) (Q7i wf) (ao _)
theorem Z4i:D5 (E8 m):=(Z4h wf).wf _
theorem Y2f {w:List Nat} (hw:B8 w):G4 (E8 m) w=G4 m w:=Y7i (Q7c wf) (Q7i wf) hw
theorem Y2g:(E8 m).1.length<=m.1.length:=by
 have:=(Z4h wf).le
 rw [b8]at this
 show(List.map _ _).length<=_
 rw [ag]
 rw [b8]
 exact this
theorem W7n (s:Nat) (hs:s<(E8 m).1.length):∃w,B8 w/\E1 (E8 m) w=s:=by
 have el:(E8 m).1.length=(Y0 (List.range m.1.length).length (C6 m.2) 0).1.length:=by simp [E8,Q4f]
 have met:N5 [0] (E8 m).2=List.range (E8 m).1.length:=by rw [el];exact W2h (α:=Nat) (step:=C6 m.2) (start:=0) (N:=(List.range m.1.length).length)
 have seen:∀s,s<(E8 m).2.length->s<(N5 [0] ((E8 m).2.take s)).length:=Y3u (step:=C6 m.2) (List.range m.1.length).length [0] [] rfl fun s hs=>absurd hs (Nat.not_lt_zero _)
 have mj:=Z4i wf
 induction s using Nat.strongRecOn with
 | _ s ih =>
  have hk:∃k,N5 [0] ((E8 m).2.take s)=List.range k:=by
   have p:N5 [0] ((E8 m).2.take s) <+: N5 [0] (E8 m).2:=by
    conv=>rhs;rw [<- List.take_append_drop s (E8 m).2]
    rw [Y0z];exact Y1a _ _
   rw [met]at p
   obtain⟨t,ht⟩:=p
   refine⟨(N5 [0] ((E8 m).2.take s)).length,?_⟩
   have e:=congrArg (List.take (N5 [0] ((E8 m).2.take s)).length) ht
   rw [List.take_left,List.take_range]at e
   have hl:=congrArg List.length ht
   rw [aq,b8]at hl
   rw [Nat.min_eq_left (by omega)]at e
   exact e
  obtain⟨k,hk⟩:=hk
  have h:=seen s (by rw [mj.len];exact hs)
  rw [hk,b8]at h
  have hm:s∈N5 [0] ((E8 m).2.take s):=by rw [hk];exact aM.mpr h
  rcases Y0y _ _ hm with h0 | ⟨r,hr,hx⟩
  ·rw [aI.mp h0];exact⟨[],B8.nil,rfl⟩
  ·obtain⟨i,hi,e⟩:=bp.mp hr
   rw [bQ]at hi
   have pq:i<s:=by omega
   have mM:i<(E8 m).1.length:=by omega
   rw [List.getElem_take]at e
   have gw:=mj.rowEq mM
   have kh:i<(E8 m).2.length:=by omega
   rw [ab kh,e]at gw
   rw [aA gw]at hx
   obtain⟨c,hc,pN⟩:=ah.mp hx
   obtain⟨w,hw,oG⟩:=ih i pq mM
   exact⟨w++[c],hw.snoc hc,by rw [Q2f,oG,pN]⟩
end
noncomputable def Q1r (m:A8) (g:Nat):Bool:=(Q0a (T2 (K9 m.2) (N3 m.1 true)) g).isSome
noncomputable def J5 (m:A8):List (List Nat):=(E8 m).2.map fun r=>r.filter (Q1r (E8 m))
theorem Y5b {m:A8} (wf:D5 m) {g:Nat} (hg:g<m.1.length):Q1r m g=true ↔ Use m g:=by
 obtain⟨h1,h2⟩:=Y8n wf true
 unfold Q1r
 constructor
 ·intro h
  obtain⟨d,e⟩:=Option.isSome_iff_exists.mp h
  obtain⟨w,hw,_,ha⟩:=h1 g d hg e
  exact⟨w,hw,ha⟩
 ·rintro ⟨w,hw,ha⟩
  obtain⟨d,e,_⟩:=h2 w g hw hg ha
  rw [e];rfl
theorem W3q {m:A8} (wf:D5 m):Gr (E8 m) (J5 m):=by
 have w2:=Z4i wf
 refine⟨w2,by rw [J5,ag];exact w2.len,fun u v hu=>?_,W7n wf⟩
 have e:(J5 m).getD u []=(B2.map (C6 (E8 m).2 u)).filter (Q1r (E8 m)):=by
  rw [J5,ar,ak,w2.rowEq hu];rfl
 rw [e,ba,ah]
 constructor
 ·rintro ⟨⟨c,hc,rfl⟩,h⟩;exact⟨⟨c,hc,rfl⟩,(Y5b w2 (Q3t w2 hu hc)).mp h⟩
 ·rintro ⟨⟨c,hc,rfl⟩,h⟩;exact⟨⟨c,hc,rfl⟩,(Y5b w2 (Q3t w2 hu hc)).mpr h⟩
noncomputable def Q2o (m:A8):Option Str:=Q2c m.1.length (C6 m.2) 0 fun s=>m.1.getD s false
noncomputable def sp_least_text:J9:=fun rs Pr=>∃m:A8,rs=[.st (mD m)]/\D5 m/\m.1.length<=20000/\Pr (.st (sD (Q2o m)))
theorem Y1d:Z2 sp_least_text:=by rintro rs P Q f ⟨m,e,h1,h2,h3⟩;exact⟨m,e,h1,h2,f _ h3⟩
theorem Y0k {m:A8} (wf:D5 m) {k c:Nat} (hk:k<m.1.length) (hc:c∈B2) {wb:WE} (hb:wb=(A3 B9 (A3 B9 (wV 2) (wV 0)) (wV 1))):Q0o wb [.dat (rsD m.2)] [.st (iD k),.st (iD c)] (.st (iD (C6 m.2 k c))):=by
 subst hb
 refine⟨[iD k,iD c],iD (C6 m.2 k c),rfl,rfl,?_⟩
 obtain⟨r,hr,_,kb⟩:=Wf.row wf hk
 simp only [C8,B0]
 refine⟨_,rfl,_,rfl,?_⟩
 refine S8 (i:=k) (d:=.tup (r.map iD)) (by rw [ak,hr];rfl) ?_
 refine⟨_,rfl,S8 (i:=c) (d:=iD (C6 m.2 k c)) (by rw [ak,(kb c (Z1w hc)).1];rfl) rfl⟩
theorem W7c {dy:P5}:∀rs Pr,rs.length=1->sp_least_text rs Pr->Z6j dy (Q5d dy) (P4 Pr) (G9 Z7m rs):=by
 rintro rs Pr _ ⟨m,rfl,wf,hl,h⟩
 unfold Z6j
 simp only [D7,Y2o,B0,Q2v,Q2t,M8,Q2u,R1]
 refine⟨_,rfl,_,rfl,_,rfl,rfl,_,_,rfl,_,_,rfl,rfl,?_⟩
 refine⟨rfl,[.dat (rsD m.2)],[.dat (.tup (m.1.map .bl))],⟨_,_,rfl,rfl,trivial,rfl⟩,⟨_,_,rfl,rfl,trivial,rfl⟩,fun f Φ g Ψ hF hG=>?_⟩
 refine⟨_,⟨Nat,inferInstance,iD,ik,C6 m.2,0,fun s=>m.1.getD s false,List.range m.1.length,f,g,Φ,Ψ,_,_,fun _=>rfl,Q4m,rfl,hF,hG,Q7i wf,by rw [b8];omega,fun k hk c hc=>⟨Q7c wf k hk c hc,Y0k wf (aM.mp hk) hc rfl⟩,fun k hk=>?_,rfl⟩,?_⟩
 ·refine⟨[iD k],_,rfl,rfl,?_⟩
  unfold Z6t
  simp only [C8,B0]
  exact⟨_,rfl,_,rfl,S8 (i:=k) (Q7w (aM.mp hk)) rfl⟩
 ·rw [b8];exact h
noncomputable abbrev onD (on:List (List Nat)):List D:=on.map fun gs=>.lst (gs.map iD)
noncomputable def sp_onward_goals:J9:=fun rs Pr=>∃m:A8,rs=[.st (mD m)]/\D5 m/\m.1.length<=20000/\Pr (.nw (onD (J5 m)))
theorem W2q:Z2 sp_onward_goals:=by rintro rs P Q f ⟨m,e,h1,h2,h3⟩;exact⟨m,e,h1,h2,f _ h3⟩
theorem Y8l {m:A8}{g:Nat} (hg:g<m.1.length):(Q6e m.1 m.2 true)[g]?=some (Q0a (T2 (K9 m.2) (N3 m.1 true)) g):=by
 unfold Q6e
 rw [ak,c6 hg];rfl
theorem W7h {dy:P5}:∀rs Pr,rs.length=1->sp_onward_goals rs Pr->Z6n dy (Q5e dy) Q3v (P4 Pr) (G9 Q7n rs):=by
 rintro rs Pr _ ⟨m,rfl,wf,hl,h⟩
 have W:=Z4h wf
 have w2:=Z4i wf
 have fh:=Y2g wf
 have el:(Y0 (List.range m.1.length).length (C6 m.2) 0).1.length=(E8 m).1.length:=by simp [E8,Q4f]
 unfold Z6n
 simp only [D7,Y2o,B0,Q2v,Q2t,M8,Q2u,R1,W7u,E4,F9,V0,C7,C2,V1,Q2w]
 refine⟨_,rfl,_,rfl,_,rfl,rfl,_,_,rfl,_,_,rfl,rfl,?_⟩
 refine⟨rfl,[.dat (rsD m.2)],⟨_,_,rfl,rfl,trivial,rfl⟩,fun f Φ hF=>?_⟩
 refine⟨_,⟨Nat,inferInstance,iD,ik,C6 m.2,0,List.range m.1.length,f,Φ,_,fun _=>rfl,Q4m,rfl,hF,Q7i wf,by rw [b8];omega,fun k hk c hc=>⟨Q7c wf k hk c hc,Y0k wf (aM.mp hk) hc rfl⟩,rfl⟩,?_⟩
 refine⟨_,rfl,_,rfl,rfl,_,_,rfl,_,_,rfl,rfl,?_⟩
 refine⟨_,rfl,_,rfl,sz (by rw [ag,el];omega),?_⟩
 refine Q1d (f:=fun d=>match d with | .int i=>.bl (m.1.getD i.toNat false) | d=>d) _ none _ (fun d hd Q' q=>?_) ?_
 ·obtain⟨x,hx,rfl⟩:=ah.mp hd
  simp only [E9,C8,B0]
  refine⟨_,rfl,_,rfl,S8 (i:=x) (Q7w (aM.mp (W.sub x hx))) ?_⟩
  exact q
 refine⟨_,rfl,rfl,.bw (((E8 m).1).map .bl),(E8 m).1,(E8 m).2,true,_,?_,.inl rfl,.inl rfl,w2,by omega,?_⟩
 ·have e:((Y0 (List.range m.1.length).length (C6 m.2) 0).1.map fun a=>iD a).map (fun d=>match d with | .int i=>D.bl (m.1.getD i.toNat false) | d=>d)=(E8 m).1.map .bl:=by
   unfold E8 Q4f
   rw [aL,aL]
   exact bb fun x _=>by simp
  rw [e];rfl
 show T3 (.nw _) _
 rw [L7]
 simp only [Q5a,B0]
 have bN:(E8 m).2.length=(E8 m).1.length:=w2.len
 refine⟨_,rfl,_,rfl,sz (by rw [ag];show(E8 m).2.length<=_;omega),?_⟩
 refine Q1d (f:=fun d=>match d with | .tup ds=>.lst (ds.filter fun d=>match d with | .int i=>Q1r (E8 m) i.toNat | _=>false) | d=>d) _ none _ (fun d hd Q' q=>?_) ?_
 ·obtain⟨r,hr,rfl⟩:=ah.mp hd
  have hr:r∈(E8 m).2:=hr
  simp only [E9,V1,Q5a,B0]
  refine⟨_,rfl,_,rfl,sz (by rw [ag];have:=w2.r4 r hr;omega),?_⟩
  refine Q2m (p:=fun d=>match d with | .int i=>Q1r (E8 m) i.toNat | _=>false) (f:=fun d=>d) _ none _ (fun d hd Q' q=>?_) (fun d hd Q' _ q=>?_) ?_
  ·obtain⟨x,hx,rfl⟩:=ah.mp hd
   have oF:=w2.lt r hr x hx
   simp only [C8,B0,E4]
   refine⟨_,rfl,_,rfl,?_⟩
   refine⟨oD (Q0a (T2 (K9 (E8 m).2) (N3 (E8 m).1 true)) x),Z6 (by rw [ak,Y8l oF];rfl),?_⟩
   refine⟨_,rfl,rfl,?_⟩
   have q:Q' (Q1r (E8 m) x):=by simpa using q
   unfold Q1r at q
   cases e:Q0a (T2 (K9 (E8 m).2) (N3 (E8 m).1 true)) x with
   | none=>rw [e]at q;exact q
   | some d=>rw [e]at q;exact q
  ·simp only [E9,B0]
   exact⟨_,rfl,q⟩
  ·rw [gm]
   exact q
 ·have e:((E8 m).2.map rD).map (fun d=>match d with | .tup ds=>D.lst (ds.filter fun d=>match d with | .int i=>Q1r (E8 m) i.toNat | _=>false) | d=>d)=onD (J5 m):=by
   unfold J5 onD
   rw [aL,aL]
   refine bb fun r _=>?_
   show D.lst ((r.map iD).filter _)=D.lst ((r.filter _).map iD)
   rw [cM]
   congr 2
  have h':Pr (.nw (((E8 m).2.map rD).map (fun d=>match d with | .tup ds=>D.lst (ds.filter fun d=>match d with | .int i=>Q1r (E8 m) i.toNat | _=>false) | d=>d))):=by rw [e];exact h
  exact h'
noncomputable def G5 (n:Nat) (f:Nat->Nat):List D:=(List.range n).map fun i=>iD (f i)
theorem Y9d (n:Nat) (f:Nat->Nat):(G5 n f).length=n:=by simp [G5]
theorem Z2d {n g:Nat} (h:g<n) (f:Nat->Nat):(G5 n f)[g]?=some (iD (f g)):=by
 unfold G5;rw [ak,c6 h];rfl
theorem Z2e {n g:Nat} (f:Nat->Nat) (x:Nat):(G5 n f).set g (iD x)=G5 n (fun i=>if i=g then x else f i):=by
 unfold G5
 apply List.ext_getElem?
 intro i
 rw [List.getElem?_set,ag,b8,ak,ak]
 by_cases e:g=i
 ·subst e
  rw [aC rfl]
  by_cases h:g<n
  ·rw [aC h,c6 h];simp
  ·rw [ax h,aw.mpr (by simpa using h)];rfl
 ·rw [ax e]
  by_cases h:i<n
  ·rw [c6 h];show some (iD (f i))=some (iD (if i=g then x else f i));rw [ax (fun z=>e z.symm)]
  ·rw [aw.mpr (by simpa using h)];rfl
theorem eqI {a b:Nat}{n:Nat}{Q:Bool->Prop} (q:Q (decide (a=b))):F8 n false (.st (iD a)) (.st (.int (b:Int))) Q:=by
 refine⟨_,_,rfl,rfl,bi _,?_⟩
 show Q (D.eq (.int (a:Int)) (.int (b:Int)))
 have:D.eq (.int (a:Int)) (.int (b:Int))=decide (a=b):=by
  simp only [D.eq]
  by_cases h:a=b
  ·simp [h]
  ·have:(a:Int)≠(b:Int):=by omega
   simp [h,this]
 rw [this];exact q
def wbA:WS:=(Q5p 2 (fun i j=>i+j) (wV 4) (wC (.int 1)))
theorem forA {n:Nat}{E:F6}{o0 o1 o3 o5 o6 o7:Option Sl}:∀(gs:List Nat) (a:Nat->Nat) (o4:Option Sl),(∀g∈gs,g<n)->(∀o4,E.nx [o0,o1,some (.own (G5 n fun v=>a v+gs.count v)),o3,o4,o5,o6,o7]) ->
  D6 (B1 4) wbA E (gs.map iD) [o0,o1,some (.own (G5 n a)),o3,o4,o5,o6,o7]
 | [],a,o4,_,h=>by have:=h o4;simp only [List.count_nil,Nat.add_zero]at this;exact this
 | g::gs,a,o4,hg,h=>by
  have pC:=hg g am
  rw [au,D6]
  simp only [wbA,M8,Y2q,B0,E4]
  refine⟨_,rfl,_,rfl,g,(a g:Int),rfl,Z2d pC a,_,rfl,?_⟩
  have e:(G5 n a).set g (.int ((a g:Int)+1))=G5 n (fun i=>if i=g then a g+1 else a i):=by
   rw [<- Z2e];congr 1
  show D6 _ _ _ _ [_,_,some (.own ((G5 n a).set g (.int ((a g:Int)+1)))),_,_,_,_,_]
  rw [e]
  refine forA gs _ _ (fun x hx=>hg x (ai _ hx)) fun o4=>?_
  have e2:(fun v=>(if v=g then a g+1 else a v)+gs.count v)=fun v=>a v+(g::gs).count v:=by
   funext v
   by_cases z:v=g
   ·subst z;rw [aC rfl,List.count_cons_self];omega
   ·rw [ax z,List.count_cons_of_ne (fun q=>z q.symm)]
  rw [e2];exact h o4
def wbB:WS:=(K3 (Z9 (B5 (wV 3))) (B1 4) wbA)
theorem Z9q {n:Nat}{E:F6}{o0 o1 o5 o6 o7:Option Sl}:∀(on:List (List Nat)) (a:Nat->Nat) (o3 o4:Option Sl),(∀gs∈on,∀g∈gs,g<n)->(∀o3 o4,E.nx [o0,o1,some (.own (G5 n fun v=>a v+(on.map fun gs=>gs.count v).sum)),o3,o4,o5,o6,o7]) ->
  D6 (B1 3) wbB E (onD on) [o0,o1,some (.own (G5 n a)),o3,o4,o5,o6,o7]
 | [],a,o3,o4,_,h=>by have:=h o3 o4;simp only [cX,List.sum_nil,Nat.add_zero]at this;exact this
 | gs::on,a,o3,o4,hg,h=>by
  rw [onD,au,D6]
  simp only [wbB,M8,S6,Q6r,E9,B0]
  refine⟨_,rfl,_,rfl,?_⟩
  refine forA gs a _ (hg gs am) fun o4=>?_
  refine Z9q on _ _ _ (fun g ki=>hg g (ai _ ki)) fun o3 o4=>?_
  have e2:(fun v=>a v+gs.count v+(on.map fun gs=>gs.count v).sum)=fun v=>a v+((gs::on).map fun gs=>gs.count v).sum:=by
   funext v;rw [au,cF];omega
  rw [e2];exact h o3 o4
theorem Y9t (on:List (List Nat)) (v:Nat):inc on [] v=(on.map fun gs=>gs.count v).sum:=by
 unfold inc
 rw [ky.mpr (fun _ _=>by simp)]
 congr 1
 apply List.ext_getElem?
 intro i
 rw [ak,ak]
 by_cases h:i<on.length
 ·rw [c6 h,ab h]
  simp [ar,ab h]
 ·rw [aw.mpr (by simpa using h),aw.mpr (by omega)];rfl
def wbI:WS:=(A7 (Z0h 5 (wV 4) (B5 (D3 Q6o (A1 (A3 B9 (wV 5) (wV 4)) (A1 (A3 G2 (A3 B9 (wV 5) (wV 7)) (wC (.int 1))) A5))))) (A7 (Q5p 2 (fun i j=>i-j) (wV 4) (wC (.int 1))) (L1 (A3 (F8 60 false) (A3 B9 (wV 2) (wV 4)) (wC (.int 0))) (P3 6 (B5 (wV 4))) L3)))
theorem Z2f {n g:Nat} (h:g<n) {f:Nat->Nat}{Q:R->Prop} (q:Q (.st (iD (f g)))):B9 (.bw (G5 n f)) (.st (.int (g:Int))) Q:=by
 rw [Q1l];exact⟨_,Z6 (Z2d h f),q⟩
theorem Z2h {on:List (List Nat)}{s:Nat}{P:List Nat}{E:F6}{o0 o1 o3:Option Sl} (hl:on.length<=20000) (hs:s<on.length):∀(rest:List Nat) (a Ln:Nat->Nat) (W:List Nat) (o4:Option Sl),Ki on s a Ln W P rest ->
  (∀a Ln W o4,Ki on s a Ln W P []->E.nx [o0,o1,some (.own (G5 on.length a)),o3,o4,some (.own (G5 on.length Ln)),some (.own (W.map iD)),some (.dat (iD s))]) ->
  D6 (B1 4) wbI E (rest.map iD) [o0,o1,some (.own (G5 on.length a)),o3,o4,some (.own (G5 on.length Ln)),some (.own (W.map iD)),some (.dat (iD s))]
 | [],a,Ln,W,o4,K,h=>h a Ln W o4 K
 | g::rest,a,Ln,W,o4,K,h=>by
  obtain⟨hg,jo,fi,K2⟩:=K.turn
  have hW:W.length<=20000:=by
   have:=(bh.mp K.nd).1.length_le_of_subset (l₂:=List.range on.length) fun x hx=>aM.mpr (K.lt x (aN.mpr (.inl hx)))
   rw [b8]at this;omega
  rw [au,D6]
  simp only [wbI,M8,D7,W8n,E9,L0,C7,C8,B0,E4,C2,Y2q,V9,Q1p,X6]
  refine⟨_,rfl,_,rfl,Z2f hg ?_⟩
  refine⟨_,rfl,_,rfl,Z2f hs ?_⟩
  rw [Q0c]
  rw [W8i]
  have em:(if (Ln s:Int)+1 > (Ln g:Int)then(Ln s:Int)+1 else(Ln g:Int))=((max (Ln g) (Ln s+1):Nat):Int):=by
   by_cases z:(Ln s:Int)+1 > (Ln g:Int)
   ·rw [aC z,Nat.max_eq_right (by omega)];omega
   ·rw [ax z,Nat.max_eq_left (by omega)]
  refine⟨_,rfl,_,rfl,_,rfl,_,g,rfl,ixn (by rw [Y9d];exact hg),?_⟩
  have e1:(G5 on.length Ln).set g (.int (if (Ln s:Int)+1 > (Ln g:Int)then(Ln s:Int)+1 else(Ln g:Int)))=G5 on.length (fun i=>if i=g then max (Ln i) (Ln s+1)else Ln i):=by
   rw [em,show D.int ((max (Ln g) (Ln s+1):Nat):Int)=iD (max (Ln g) (Ln s+1))from rfl,Z2e]
   congr 1;funext i;by_cases z:i=g
   ·subst z;rfl
   ·rw [ax z,ax z]
  refine⟨_,rfl,_,rfl,g,(a g:Int),rfl,Z2d hg a,_,rfl,?_⟩
  have e2:(G5 on.length a).set g (.int ((a g:Int)-1))=G5 on.length (fun i=>if i=g then a i-1 else a i):=by
   rw [show D.int ((a g:Int)-1)=iD (a g-1)by show D.int _=D.int _;congr 1;omega,Z2e]
   congr 1;funext i;by_cases z:i=g
   ·subst z;rfl
   ·rw [ax z,ax z]
  refine⟨_,rfl,_,rfl,?_⟩
  show B9 (.bw ((G5 on.length a).set g (.int ((a g:Int)-1)))) (.st (.int (g:Int))) _
  rw [e2,e1]
  refine Z2f hg (eqI (b:=0) ?_)
  rw [aC (show g=g from rfl)]
  by_cases h1:a g=1
  ·rw [aC (by simp [h1])]
   rw [aC h1]at K2
   refine⟨_,rfl,_,rfl,_,rfl,szl (by rw [ag];omega),?_⟩
   have:=Z2h hl hs rest _ _ _ (some (.dat (iD g))) K2 h
   rw [aY]at this
   exact this
  ·rw [ax (by simp;omega)]
   rw [ax h1]at K2
   exact Z2h hl hs rest _ _ _ (some (.dat (iD g))) K2 h
def Z0m:WT:=Q0v (wV 6)
def Z6v:WS:=(A7 (Z5s 6 (B1 7)) (K3 (Z9 (B5 (A3 B9 (wV 1) (wV 7)))) (B1 4) wbI))
theorem Y1p {m:A8}{on:List (List Nat)} (G:Gr m on) {s:Nat} (hs:s<on.length):∀v,v∈on.getD s []->v<on.length:=fun v hv=>by rw [G.len]at hs ⊢;exact G.lt hs hv
theorem V0y {m:A8}{on:List (List Nat)} (G:Gr m on) {E:F6}{o0 o3:Option Sl} (hl:on.length<=20000):∀(k:Nat) (a Ln:Nat->Nat) (W P:List Nat) (o4 o7:Option Sl),Kh on a Ln W P->on.length<=k+P.length ->
  (∀a Ln P o4 o7,Kh on a Ln [] P->E.nx [o0,some (.dat (.lst (onD on))),some (.own (G5 on.length a)),o3,o4,some (.own (G5 on.length Ln)),some (.own []),o7]) ->
  J8 Z0m Z6v (k+1) E [o0,some (.dat (.lst (onD on))),some (.own (G5 on.length a)),o3,o4,some (.own (G5 on.length Ln)),some (.own (W.map iD)),o7]:=by
 intro k
 induction k with
 | zero =>
  intro a Ln W P o4 o7 K hk h
  have hb:=K.nd.length_le_of_subset (l₂:=List.range on.length) fun x hx=>aM.mpr (K.lt x hx)
  rw [aq,b8]at hb
  have hW:W=[]:=cj.mp (by omega)
  subst hW
  rw [J8]
  simp only [Z0m,Q3u,B0]
  refine⟨_,rfl,?_⟩
  exact h a Ln P o4 o7 K
 | succ k ih =>
  intro a Ln W P o4 o7 K hk h
  rw [J8]
  simp only [Z0m,Q3u,B0]
  refine⟨_,rfl,?_⟩
  show(if (!(W.map iD).isEmpty)=true then(_:Prop)else(_:Prop))
  rcases List.eq_nil_or_concat W with rfl | ⟨V,s,rfl⟩
  ·rw [ax (by decide)]
   exact h a Ln P o4 o7 K
  ·rw [List.concat_eq_append]at K ⊢
   rw [aC (by simp)]
   have hs:s<on.length:=K.lt s (by simp)
   simp only [Z6v,D7,W8k,M8,S6,Q6r,E9,C8,B0]
   refine⟨V.map iD,iD s,by rw [aY];rfl,_,rfl,_,rfl,?_⟩
   show B9 (.st (.lst (onD on))) (.st (.int (s:Int))) _
   rw [Z3q]
   refine⟨.lst ((on.getD s []).map iD),Z6 (by rw [onD,ak,ab hs,ar,ab hs];rfl),_,rfl,?_⟩
   refine Z2h (P:=P) hl hs (on.getD s []) a Ln V _ (K.pop (Y1p G hs)) fun a Ln W o4 K=>?_
   exact ih a Ln W (s::P) o4 _ K.done (by rw [aB];omega) h
noncomputable def sp_last_length:J9:=fun rs Pr=>∃m:A8,rs=[.st (mD m)]/\D5 m/\m.1.length<=20000/\∀d,W4 m d->Pr (.st d)
theorem Q6p:Z2 sp_last_length:=by rintro rs P Q f ⟨m,e,h1,h2,h3⟩;exact⟨m,e,h1,h2,fun d hd=>f _ (h3 d hd)⟩
theorem Q5z {m:A8} (wf:D5 m) {w:List Nat}:L4 (E8 m) w ↔ L4 m w:=⟨fun h=>⟨h.1,by rw [<- Y2f wf h.1];exact h.2⟩,fun h=>⟨h.1,by rw [Y2f wf h.1];exact h.2⟩⟩
theorem Y0m {m:A8} (wf:D5 m) {d:D} (h:W4 (E8 m) d):W4 m d:=by
 rcases h with⟨e,h⟩ | ⟨L,e,⟨w,hw,hl⟩,h⟩ | ⟨e,h⟩
 ·exact .inl ⟨e,fun w hw=>h w ((Q5z wf).mpr hw)⟩
 ·exact .inr (.inl ⟨L,e,⟨w,(Q5z wf).mp hw,hl⟩,fun u hu=>h u ((Q5z wf).mpr hu)⟩)
 ·exact .inr (.inr ⟨e,fun N=>let ⟨w,hw,hl⟩:=h N;⟨w,(Q5z wf).mp hw,hl⟩⟩)
theorem Z2c {m:A8} (wf:D5 m):Q2o m=none ↔ ∀w,¬ L4 m w:=by
 have S:=Y8z (fin:=fun s=>m.1.getD s false) (Q7c wf) (Q7i wf)
 rw [b8]at S
 constructor
 ·intro h w hw
  have:=S.1 h w hw.1
  have h2:=hw.2
  unfold G4 E1 at h2
  rw [h2]at this;cases this
 ·intro h
  cases e:Q2o m with
  | none=>rfl
  | some t =>
   obtain⟨w,h1,_,h2⟩:=S.2 t e
   exact absurd ⟨h1,h2⟩ (h w)
theorem rep0:∀n:Nat,(List.replicate n [D.int 0]).flatten=G5 n fun _=>0
 | 0=>rfl
 | n+1=>by rw [List.replicate_succ',List.flatten_append,rep0 n];unfold G5;rw [gG,aY];rfl
theorem Y8b (a:Nat->Nat) (n:Nat) (o1 o2:Option Sl) {Q:List D->Prop} (q:Q (((List.range n).filter fun v=>decide (a v=0)).map iD)) :
  M2 (N4 2 (F4 (B1 0) (F4 (B1 1) O7))) (A3 (F8 60 false) (wV 1) (wC (.int 0))) (B5 (wV 0)) (K0 (G5 n a)) [o1,o2] Q:=by
 have key:∀(l:List Nat) (o1 o2:Option Sl) (Q:List D->Prop),Q ((l.filter fun v=>decide (a v=0)).map iD)->M2 (N4 2 (F4 (B1 0) (F4 (B1 1) O7))) (A3 (F8 60 false) (wV 1) (wC (.int 0))) (B5 (wV 0)) (l.map fun i=>.tup [iD i,iD (a i)]) [o1,o2] Q:=by
  intro l
  induction l with
  | nil=>intro o1 o2 Q q;exact q
  | cons i l ih =>
   intro o1 o2 Q q
   rw [au,M2]
   simp only [Q2v,Q2t,M8,Q2u,C8,B0,E4,E9]
   refine⟨_,rfl,rfl,_,_,rfl,_,_,rfl,rfl,_,rfl,eqI (b:=0) ?_⟩
   rw [c7]at q
   by_cases h:a i=0
   ·rw [aC (by simpa using h)]
    rw [aC (by simpa using h)]at q
    exact⟨_,rfl,_,rfl,ih _ _ _ q⟩
   ·rw [ax (by simpa using h)]
    rw [ax (by simpa using h)]at q
    exact ih _ _ _ q
 have e:K0 (G5 n a)=(List.range n).map fun i=>.tup [iD i,iD (a i)]:=by
  unfold K0 G5
  apply List.ext_getElem?
  intro i
  rw [ak,List.getElem?_zipIdx,ak,ak]
  by_cases h:i<n
  ·rw [c6 h];simp
  ·rw [aw.mpr (by simpa using h)];rfl
 rw [e]
 exact key _ o1 o2 Q q
theorem W6z:∀rs Pr,rs.length=1->sp_last_length rs Pr->Z6b sp_least_text sp_onward_goals (P4 Pr) (G9 Q7k rs):=by
 rintro rs Pr _ ⟨m,rfl,wf,hl,h⟩
 have G:=W3q wf
 have fh:=Y2g wf
 have gT:(J5 m).length<=20000:=by rw [G.len];omega
 unfold Z6b
 rw [D7,V9]
 simp only [C8,V0,C7,B0,C2,E4]
 refine⟨_,rfl,rfl,m,rfl,wf,hl,?_⟩
 refine⟨_,rfl,rfl,?_⟩
 cases e:Q2o m with
 | none =>
  show(if true=true then(_:Prop)else(_:Prop))
  rw [aC rfl,R1,Q2x,E4]
  exact h _ (.inl ⟨rfl,(Z2c wf).mp e⟩)
 | some t =>
  have ha:∃w,L4 m w:=eK fun no=>by
   have:=(Z2c wf).mpr fun w hw=>no ⟨w,hw⟩
   rw [e]at this;cases this
  show(if false=true then(_:Prop)else(_:Prop))
  rw [ax (by decide),X6]
  dsimp only
  rw [D7,F9,V0]
  simp only [C7,B0,C2]
  refine⟨_,rfl,rfl,m,rfl,wf,hl,?_⟩
  show T3 (.nw _) _
  rw [L7]
  show A7 (C1 2 _) _ (P4 Pr) [some (.dat (mD m)),some (.own (onD (J5 m))),none,none,none,none,none,none]
  rw [D7,F9,C8,s_lst]
  simp only [C7,E9,E4,C2,L0,B0]
  refine⟨_,rfl,sz (by decide),_,rfl,?_⟩
  show D9 [.bw _] _
  rw [V8,Y1l]
  have fS:(onD (J5 m)).length=(J5 m).length:=by simp [onD]
  have e0:(List.replicate (((onD (J5 m)).length:Int)).toNat [D.int 0]).flatten=G5 (J5 m).length fun _=>0:=by
   rw [fS,b9];exact rep0 _
  refine⟨by omega,by rw [fS];omega,by rw [fS,b9];exact sz (by simp;omega),?_⟩
  rw [e0,L7]
  show A7 (K3 (Q8k 1) (B1 3) wbB) _ (P4 Pr) [some (.dat (mD m)),some (.own (onD (J5 m))),some (.own (G5 (J5 m).length fun _=>0)),none,none,none,none,none]
  rw [D7,S6]
  refine⟨_,rfl,?_⟩
  refine Z9q (J5 m) (fun _=>0) none none (fun gs fi g hg=>?_) fun o3 o4=>?_
  ·obtain⟨u,hu,eu⟩:=kw fi
   exact Y1p G hu g (by rw [ar,ab hu,eu];exact hg)
  have ea:(fun v=>0+((J5 m).map fun gs=>gs.count v).sum)=inc (J5 m) []:=by funext v;rw [Y9t,dH]
  rw [ea]
  dsimp only
  rw [D7,F9,C8,s_lst]
  simp only [C7,E9,E4,C2,L0,B0]
  refine⟨_,rfl,sz (by decide),_,rfl,?_⟩
  show D9 [.st (.lst _)] _
  rw [W3j,Y1l]
  refine⟨by omega,by rw [fS];omega,by rw [fS,b9];exact sz (by simp;omega),?_⟩
  rw [e0,L7]
  show A7 (C1 6 _) _ (P4 Pr) [some (.dat (mD m)),some (.dat (.lst (onD (J5 m)))),some (.own (G5 (J5 m).length (inc (J5 m) []))),o3,o4,some (.own (G5 (J5 m).length fun _=>0)),none,none]
  rw [D7,F9,V1,Y2u]
  simp only [C7,B0,C2]
  refine⟨_,rfl,_,_,rfl,rfl,sz (by simp [G5,K0];omega),?_⟩
  refine Y8b (inc (J5 m) []) (J5 m).length none none ?_
  show T3 (.nw _) _
  rw [L7]
  show A7 (Q3i Z0m Z6v) _ (P4 Pr) [some (.dat (mD m)),some (.dat (.lst (onD (J5 m)))),some (.own (G5 (J5 m).length (inc (J5 m) []))),o3,o4,some (.own (G5 (J5 m).length fun _=>0)),some (.own (((List.range (J5 m).length).filter fun v=>decide (inc (J5 m) [] v=0)).map iD)),none]
  rw [D7]
  refine⟨(J5 m).length+1,V0y G gT _ _ _ _ [] _ _ (Kh.start (J5 m)) (by simp) fun a Ln P o4 o7 K=>?_⟩
  dsimp only
  rw [R1,Q6s]
  simp only [C8,L0,C7,B0,C2,E4]
  have pos:0<(J5 m).length:=by rw [G.len];exact G.wf.pos
  refine⟨_,rfl,?_⟩
  refine⟨(List.range (J5 m).length).map fun i=>(a i:Int),by rw [aL];rfl,fun z=>by have:=congrArg List.length z;rw [ag,b8,bc]at this;omega,fun x hx lq=>?_⟩
  obtain⟨i,hi,rfl⟩:=ah.mp hx
  refine eqI (b:=0) ?_
  by_cases hz:a i=0
  ·rw [aC (by simp [hz])]
   refine⟨_,rfl,?_⟩
   refine⟨(List.range (J5 m).length).map fun i=>(Ln i:Int),by rw [aL];rfl,fun z=>by have:=congrArg List.length z;rw [ag,b8,bc]at this;omega,fun y hy p6=>?_⟩
   obtain⟨j,hj,rfl⟩:=ah.mp hy
   refine h _ (Y0m wf (K.last G (fun v hv=>?_) ⟨j,aM.mp hj,rfl⟩ (fun v hv=>?_) (let ⟨w,hw⟩:=ha;⟨w,(Q5z wf).mpr hw⟩)))
   ·have:=lq (a v:Int) (ah.mpr ⟨v,aM.mpr hv,rfl⟩);omega
   ·have:=p6 (Ln v:Int) (ah.mpr ⟨v,aM.mpr hv,rfl⟩);omega
  ·rw [ax (by simpa using hz)]
   exact h _ (Y0m wf (.inr (.inr ⟨rfl,K.inf G ⟨i,aM.mp hi,hz⟩⟩)))
noncomputable def Q6f (d:D):Bool:=match d with | .non=>false | _=>true
noncomputable def Q3a:J9:=fun rs Pr=>∃m:A8,rs=[.st (mD m)]/\D5 m/\m.1.length<=20000/\∀d,W4 m d->Pr (.st (.bl (Q6f d)))
theorem W2o:Z2 Q3a:=by rintro rs P Q f ⟨m,e,h1,h2,h3⟩;exact⟨m,e,h1,h2,fun d hd=>f _ (h3 d hd)⟩
theorem W6y:∀rs Pr,rs.length=1->Q3a rs Pr->Z6a sp_last_length (P4 Pr) (G9 Z7h rs):=by
 rintro rs Pr _ ⟨m,rfl,wf,hl,h⟩
 unfold Z6a
 rw [R1]
 simp only [s_b,C8,V0,C7,B0,C2,E4]
 refine⟨_,rfl,rfl,m,rfl,wf,hl,fun d hd=>?_⟩
 refine⟨_,rfl,rfl,?_⟩
 have:=h d hd
 unfold Q6f at this
 cases d <;> exact this
noncomputable def Q3b:J9:=fun rs Pr=>∃m:A8,rs=[.st (mD m)]/\D5 m/\m.1.length<=20000/\∀d,W4 m d->Pr (.st (if d=.int (-1)then .non else d))
theorem W2p:Z2 Q3b:=by rintro rs P Q f ⟨m,e,h1,h2,h3⟩;exact⟨m,e,h1,h2,fun d hd=>f _ (h3 d hd)⟩
theorem W7d:∀rs Pr,rs.length=1->Q3b rs Pr->Z6k sp_last_length (P4 Pr) (G9 Z7n rs):=by
 rintro rs Pr _ ⟨m,rfl,wf,hl,h⟩
 unfold Z6k
 rw [D7,F9,V0]
 simp only [C7,B0,C2]
 refine⟨_,rfl,rfl,m,rfl,wf,hl,fun d hd=>?_⟩
 show T3 (.st d) _
 rw [Q6]
 rw [R1,Q6s]
 simp only [C8,B0,Q2x,E4]
 have q:=h d hd
 refine⟨_,rfl,?_⟩
 rw [Q0t,N7]
 rcases hd with⟨e,_⟩ | ⟨L,e,_⟩ | ⟨e,_⟩
 ·subst e
  refine⟨_,_,rfl,rfl,bi _,?_⟩
  rw [aC rfl]at q
  exact q
 ·subst e
  have cy:(D.int (L:Int))≠.int (-1):=fun z=>by injection z with z;omega
  rw [ax cy]at q
  refine⟨_,_,rfl,rfl,bi _,?_⟩
  have:D.eq (.int (L:Int)) (.int (-1))=false:=by
   simp only [D.eq]
   have:(L:Int)≠-1:=by omega
   simp [this]
  show(if (D.eq (.int (L:Int)) (.int (-1)))=true then(_:Prop)else(_:Prop))
  rw [this,ax (by decide)]
  exact⟨_,rfl,q⟩
 ·subst e
  rw [ax (fun z=>by cases z)]at q
  refine⟨_,_,rfl,rfl,bi _,?_⟩
  exact⟨_,rfl,q⟩
theorem Q8c {α:Type} (xs:List α) (k:Nat):Y3 xs none (some (k:Int))=xs.take k:=by
 unfold Y3
 rw [HT.sIx_none,HT.sIx_nat,List.drop_zero,Nat.sub_zero,List.take_eq_take_iff]
 omega
noncomputable def sp_no_signs:E6:=fun rs r=>∃m:A8,rs=[.st (mD m)]/\m.1.length<=20000/\r=.nw ((M0 m 0).map iD)
theorem W7f:∀rs r,rs.length=1->sp_no_signs rs r->Z6l (U6 r) (G9 Z0u rs):=by
 rintro rs r _ ⟨m,rfl,hl,rfl⟩
 unfold Z6l
 rw [R1,V1,Q5a]
 simp only [C8,B0,E4]
 refine⟨_,rfl,S8 (i:=0) rfl ⟨_,rfl,sz (by rw [ag];omega),?_⟩⟩
 refine Q1d (f:=fun d=>match d with | .bl true=>.int 1 | _=>.int 0) _ none _ (fun d hd Q' q=>?_) ?_
 ·obtain⟨b,_,rfl⟩:=ah.mp hd
  rw [E9,Q6s,Q3u,B0]
  refine⟨_,rfl,?_⟩
  cases b
  ·exact q
  ·exact q
 ·show R.nw _=R.nw _
  congr 1
  rw [M0,aL,aL]
  exact bb fun b _=>by cases b <;> rfl
def CtR (r:R) (cs:List Nat):Prop:=r=.bw (cs.map iD)\/r=.st (.lst (cs.map iD))
noncomputable def sp_one_more_sign:E6:=fun rs r=>∃(m:A8) (rc:R) (l:Nat),rs=[.st (mD m),rc]/\CtR rc (M0 m l)/\D5 m/\m.1.length<=20000/\r=.nw ((M0 m (l+1)).map iD)
theorem Q6d {m:A8} (wf:D5 m) {l:Nat}{rc:R} (h:CtR rc (M0 m l)) {g:Nat} (hg:g<m.1.length) {Q:R->Prop} (q:Q (.st (iD (J4 m l g)))):B9 rc (.st (.int (g:Int))) Q:=by
 have e:((M0 m l).map iD)[g]?=some (iD (J4 m l g)):=by
  have ki:g<(M0 m l).length:=by rw [Y7v wf];exact hg
  rw [ak,ab ki,J4,ar,ab ki];rfl
 rcases h with rfl | rfl
 ·rw [Q1l];exact⟨_,Z6 e,q⟩
 ·rw [Z3q];exact⟨_,Z6 e,q⟩
theorem sumI {f:Nat->Nat}:∀t:List Nat,(t.map fun g=>((f g:Nat):Int)).sum=(((t.map f).sum:Nat):Int)
 | []=>rfl
 | a::t=>by rw [au,cF,au,cF,sumI t];omega
theorem W7g:∀rs r,rs.length=2->sp_one_more_sign rs r->Z6m (U6 r) (G9 Q7m rs):=by
 rintro rs r _ ⟨m,rc,l,rfl,hc,wf,hl,rfl⟩
 have qt:=wf.len
 unfold Z6m
 rw [R1,V1,Q5a]
 simp only [C8,B0,E4]
 refine⟨_,rfl,S8 (i:=1) rfl ⟨_,rfl,sz (by rw [ag];omega),?_⟩⟩
 have eb:Q4 1 [1] (G9 Q7m [.st (mD m),rc])=[none,some (R4 rc)]:=by rcases hc with rfl | rfl <;> rfl
 rw [eb]
 refine Q1d (f:=fun d=>match d with | .tup ds=>iD ((ds.map fun d=>match d with | .int i=>J4 m l i.toNat | _=>0).sum) | d=>d) (rest:=[some (R4 rc)]) _ none _ (fun d hd Q' q=>?_) ?_
 ·obtain⟨row,hr,rfl⟩:=ah.mp hd
  rw [E9]
  simp only [L0,C7,C2,V1,Q5a,B0]
  refine⟨_,rfl,_,rfl,sz (by rw [ag,wf.r4 row hr];decide),?_⟩
  have qi:Q4 1 [1] [some (.dat (rD row)),some (R4 rc)]=[none,some (R4 rc)]:=by rcases hc with rfl | rfl <;> rfl
  rw [qi]
  refine Q1d (f:=fun d=>match d with | .int i=>iD (J4 m l i.toNat) | d=>d) (rest:=[some (R4 rc)]) _ none _ (fun d hd Q' q=>?_) ?_
  ·obtain⟨g,hg,rfl⟩:=ah.mp hd
   have lC:=wf.lt row hr g hg
   simp only [E9,C8,B0]
   refine⟨_,rfl,_,rfl,?_⟩
   have er:rdS (R4 rc)=rc:=by rcases hc with rfl | rfl <;> rfl
   rw [er]
   exact Q6d wf hc lC (by simpa using q)
  ·show Q3w [.nw _] _
   rw [W8p]
   refine⟨row.map fun g=>((J4 m l g:Nat):Int),?_,?_⟩
   ·show some _=some _
    congr 1
    rw [aL,aL]
    exact bb fun g _=>by simp
   ·have e:=sumI (f:=J4 m l) row
    rw [e]
    have q:Q' (.st (iD ((row.map fun g=>J4 m l g).sum))):=by
     simpa [rD,aL,Function.comp_def]using q
    exact q
 ·show R.nw _=R.nw _
  congr 1
  rw [M0,aL,aL]
  exact bb fun row _=>by
   show iD (((row.map iD).map _).sum)=iD _
   rw [aL]
   congr 1
noncomputable def Q2z:J9:=fun rs Pr=>∃(m:A8) (k:Nat),rs=[.st (mD m),.st (iD k)]/\D5 m/\m.1.length<=20000/\k<=1000/\Pr (.st (iD ((wl k).filter (G4 m)).length))
theorem W2n:Z2 Q2z:=by rintro rs P Q f ⟨m,k,e,h1,h2,h3,h4⟩;exact⟨m,k,e,h1,h2,h3,f _ h4⟩
def wbC:WS:=(C1 3 (L8 sp_one_more_sign (A1 (wV 0) (A1 (wV 3) A5))))
theorem forC {m:A8} (wf:D5 m) (hl:m.1.length<=20000) {E:F6}{o1 o2:Option Sl}:∀(l:List D) (k:Nat) (o4:Option Sl),(∀o4,E.nx [some (.dat (mD m)),o1,o2,some (.own ((M0 m (k+l.length)).map iD)),o4]) ->
  D6 (B1 4) wbC E l [some (.dat (mD m)),o1,o2,some (.own ((M0 m k).map iD)),o4]
 | [],k,o4,h=>h o4
 | d::l,k,o4,h=>by
  rw [D6]
  simp only [wbC,M8,F9,U5,C7,B0,C2]
  refine⟨_,rfl,_,rfl,rfl,_,⟨m,_,k,rfl,.inl rfl,wf,hl,rfl⟩,?_⟩
  rw [L7]
  refine forC wf hl l (k+1) _ fun o4=>?_
  have:=h o4
  rw [aB,show k+(l.length+1)=k+1+l.length by omega]at this
  exact this
theorem Z6w {m:A8}{k:Nat} (h:∀w,L4 m w->w.length≠k):(wl k).filter (G4 m)=[]:=by
 rw [bT]
 intro w hw ha
 obtain⟨h1,h2⟩:=S0.mp hw
 exact h w ⟨h1,ha⟩ h2
theorem W6x:∀rs Pr,rs.length=2->Q2z rs Pr->Z5z sp_last_length sp_no_signs sp_one_more_sign (P4 Pr) (G9 Z7g rs):=by
 rintro rs Pr _ ⟨m,k,rfl,wf,hl,hk,h⟩
 unfold Z5z
 rw [D7,F9,V0]
 simp only [C7,B0,C2]
 refine⟨_,rfl,rfl,m,rfl,wf,hl,fun d hd=>?_⟩
 show T3 (.st d) _
 rw [Q6,D7,V9,Z4l]
 have tail:A7 (C1 3 (L8 sp_no_signs (A1 (wV 0) A5))) (A7 (K3 (Y4 (A1 (wV 1) A5)) (B1 4) wbC) (I0 (A3 B9 (wV 3) (wC (.int 0))))) (P4 Pr) [some (.dat (mD m)),some (.dat (iD k)),some (.dat d),none,none]:=by
  rw [D7,F9]
  simp only [U5,C7,B0,C2]
  refine⟨_,rfl,rfl,_,⟨m,rfl,hl,rfl⟩,?_⟩
  rw [L7,D7,S6]
  refine⟨_,rfl,k,rfl,by omega,by omega,?_⟩
  rw [b9]
  refine forC wf hl _ 0 none fun o4=>?_
  have e:(N8 0 k).length=k:=by simp [N8]
  rw [e,dH]
  dsimp only
  rw [R1]
  simp only [C8,B0,E4]
  refine⟨_,rfl,?_⟩
  refine Q6d wf (.inl rfl) (g:=0) wf.pos ?_
  rw [Z1v wf]
  exact h
 simp only [C8,B0,E4]
 rcases hd with⟨e,hd⟩ | ⟨L,e,_,hd⟩ | ⟨e,hd⟩
 ·subst e
  refine⟨_,rfl,_,rfl,rfl,?_⟩
  show(if true=true then(_:Prop)else(_:Prop))
  rw [aC rfl]
  refine⟨_,rfl,_,rfl,?_⟩
  show J3 _ (.st (.int (k:Int))) (.st (.int (-1))) _
  rw [U4,aC (by simp;omega),R1,E4]
  rw [Z6w fun w hw=>absurd hw (hd w)]at h
  exact h
 ·subst e
  refine⟨_,rfl,_,rfl,rfl,?_⟩
  show(if true=true then(_:Prop)else(_:Prop))
  rw [aC rfl]
  refine⟨_,rfl,_,rfl,?_⟩
  show J3 _ (.st (.int (k:Int))) (.st (.int (L:Int))) _
  rw [U4]
  by_cases hkL:L<k
  ·rw [aC (by simpa using hkL),R1,E4]
   rw [Z6w fun w hw z=>by have:=hd w hw;omega]at h
   exact h
  ·rw [ax (by simpa using hkL)]
   exact tail
 ·subst e
  refine⟨_,rfl,_,rfl,rfl,?_⟩
  exact tail
noncomputable abbrev K1 (m:A8) (j:Nat):List D:=(List.range j).map fun l=>.lst ((M0 m l).map iD)
noncomputable abbrev pqD (m:A8) (p:List Nat):D:=.tup [tD p,iD (E1 m p)]
noncomputable def sp_texts_of_length:E6:=fun rs r=>∃(m:A8) (L size:Nat),rs=[.st (mD m),.bw (K1 m (L+1)),.st (iD size)]/\D5 m/\m.1.length<=20000/\L<=1000/\size<=10000/\r=.nw ((((wl L).filter (G4 m)).take size).map tD)
theorem Q9v (m:A8) (L:Nat):K7 (K1 m (L+1)) (-1)=some (.lst ((M0 m L).map iD)):=by
 unfold K7 ixN
 rw [ax (by decide)]
 have hl:(K1 m (L+1)).length=L+1:=by simp
 rw [hl,aC (by omega)]
 show(K1 m (L+1))[((-1:Int)+((L+1:Nat):Int)).toNat]?=_
 rw [show((-1:Int)+((L+1:Nat):Int)).toNat=L by omega,ak,c6 (cC L)];rfl
theorem Y8d {α:Type} (xs:List α):Y3 xs none (some (-1))=xs.dropLast:=by
 unfold Y3
 rw [HT.sIx_none,List.drop_zero,Nat.sub_zero,List.dropLast_eq_take]
 congr 1
 unfold HT.sIx
 simp
 omega
theorem V0c (m:A8) (L:Nat):(K1 m (L+1)).dropLast=K1 m L:=by
 unfold K1;rw [gG,aY,List.map_singleton,List.dropLast_concat]
def wbZ:WS:=(L1 (A3 (J3 fun i j=>decide (j<i)) (A3 B9 (wV 4) (wV 9)) (wC (.int 0))) (P3 5 (B5 (Q3x (A1 (B5 (A3 G2 (wV 6) (wV 8))) (A1 (B5 (wV 9)) A5))))) L3)
theorem Z2j {m:A8} (wf:D5 m) {l:Nat}{E:F6}{p:List Nat} (hp:B8 p) (hpl:p.length<=1000) {o0 o1 o2 o3 o7:Option Sl}:∀(cs:List Nat) (bU:List D) (o8 o9:Option Sl),(∀c∈cs,c∈B2)->bU.length+cs.length<=100000 ->
  (∀o8 o9,E.nx [o0,o1,o2,o3,some (.dat (.lst ((M0 m l).map iD))),some (.own (bU++(((cs.filter fun c=>decide (0<J4 m l (C6 m.2 (E1 m p) c))).map fun c=>p++[c]).map (pqD m)))),some (.dat (tD p)),o7,o8,o9]) ->
  D6 (N4 2 (F4 (B1 8) (F4 (B1 9) O7))) wbZ E (cs.map fun c=>.tup [.str (N9 c),iD (C6 m.2 (E1 m p) c)]) [o0,o1,o2,o3,some (.dat (.lst ((M0 m l).map iD))),some (.own bU),some (.dat (tD p)),o7,o8,o9]
 | [],bU,o8,o9,_,_,h=>by have:=h o8 o9;simp only [List.filter_nil,cX,aX]at this;exact this
 | c::cs,bU,o8,o9,hc,ha,h=>by
  have fD:=hc c am
  have hs:=Q0g wf p hp
  rw [aB]at ha
  rw [au,D6]
  simp only [wbZ,Q2v,Q2t,M8,Q2u,V9,C8,B0,E4]
  refine⟨_,rfl,rfl,_,_,rfl,_,_,rfl,rfl,_,rfl,_,rfl,?_⟩
  show B9 (.st (.lst ((M0 m l).map iD))) (.st (.int (C6 m.2 (E1 m p) c:Nat))) _
  refine Q6d wf (.inr rfl) (Q3t wf hs fD) ?_
  rw [U4]
  rw [c7]at h
  by_cases hz:0<J4 m l (C6 m.2 (E1 m p) c)
  ·rw [aC (by simpa using hz)]
   rw [aC (by simpa using hz)]at h
   simp only [Q1p,E9,s_tup,C7,C8,B0,C2]
   refine⟨_,rfl,_,rfl,_,rfl,?_⟩
   show G2 (.st (.str (G1 p))) (.st (.str (N9 c))) _
   rw [Z3o]
   have h1:(N9 c).length=1:=by
    simp only [B2,av,aO,bO]at fD
    rcases fD with rfl | rfl | rfl | rfl <;> rfl
   refine⟨sz (by rw [Q5i hp,h1];omega),_,rfl,_,rfl,sz (by simp),_,rfl,szl (by omega),?_⟩
   have e:D.tup [.str (G1 p++N9 c),iD (C6 m.2 (E1 m p) c)]=pqD m (p++[c]):=by
    show _=D.tup [.str (G1 (p++[c])),iD (E1 m (p++[c]))]
    rw [Q9w,Q2f]
   show D6 _ _ _ _ [o0,o1,o2,o3,_,some (.own (bU++[D.tup [.str (G1 p++N9 c),iD (C6 m.2 (E1 m p) c)]])),_,_,_,_]
   rw [e]
   refine Z2j wf hp hpl cs _ _ _ (fun d hd=>hc d (ai _ hd)) (by rw [aq];simp only [aB,bc];omega) fun o8 o9=>?_
   have:=h o8 o9
   rw [au,au]at this
   rw [bI]
   exact this
  ·rw [ax (by simpa using hz)]
   rw [ax (by simpa using hz)]at h
   exact Z2j wf hp hpl cs bU _ _ (fun d hd=>hc d (ai _ hd)) (by omega) h
def wbY:WS:=(K3 (Q8m (A1 (wC (.str "01ab")) (A1 (A3 B9 (A3 B9 (wV 0) (wC (.int 1))) (wV 7)) A5))) (N4 2 (F4 (B1 8) (F4 (B1 9) O7))) wbZ)
theorem forY {m:A8} (wf:D5 m) {l:Nat}{E:F6}{o1 o2 o3:Option Sl}:∀(ps:List (List Nat)) (bU:List D) (o6 o7 o8 o9:Option Sl),(∀p∈ps,B8 p/\p.length<=1000)->bU.length+4*ps.length<=90000 ->
  (∀o6 o7 o8 o9,E.nx [some (.dat (mD m)),o1,o2,o3,some (.dat (.lst ((M0 m l).map iD))),some (.own (bU++(ps.flatMap (ext m l)).map (pqD m))),o6,o7,o8,o9]) ->
  D6 (N4 2 (F4 (B1 6) (F4 (B1 7) O7))) wbY E (ps.map (pqD m)) [some (.dat (mD m)),o1,o2,o3,some (.dat (.lst ((M0 m l).map iD))),some (.own bU),o6,o7,o8,o9]
 | [],bU,o6,o7,o8,o9,_,_,h=>by have:=h o6 o7 o8 o9;simp only [List.flatMap_nil,cX,aX]at this;exact this
 | p::ps,bU,o6,o7,o8,o9,hp,ha,h=>by
  obtain⟨mI,hpl⟩:=hp p am
  have hs:=Q0g wf p mI
  rw [aB]at ha
  rw [au,D6]
  simp only [wbY,Q2v,Q2t,M8,Q2u,S6,W8a,C7,C8,B0,E4,C2]
  refine⟨_,rfl,rfl,_,_,rfl,_,_,rfl,rfl,_,rfl,S8 (i:=1) rfl ?_⟩
  refine⟨_,rfl,S8 (i:=E1 m p) (d:=rD (B2.map (C6 m.2 (E1 m p)))) (by rw [ak,Wf.rowEq wf hs];rfl) ?_⟩
  refine⟨_,_,rfl,?_⟩
  have ez:Q2h (F5 "01ab") ((B2.map (C6 m.2 (E1 m p))).map iD)=B2.map fun c=>.tup [.str (N9 c),iD (C6 m.2 (E1 m p) c)]:=rfl
  rw [ez]
  have pJ:(ext m l p).length<=4:=by unfold ext;rw [ag];exact cw _ _
  refine Z2j wf mI hpl B2 bU _ _ (fun c hc=>hc) (by simp only [B2,aB,bc];omega) fun o8 o9=>?_
  refine forY wf ps _ _ _ _ _ (fun q hq=>hp q (ai _ hq)) ?_ fun o6 o7 o8 o9=>?_
  ·rw [aq,ag]
   show bU.length+(ext m l p).length+_<=_
   omega
  ·have:=h o6 o7 o8 o9
   rw [bv,aY,<- bI]at this
   exact this
structure FkI (m:A8) (size l k:Nat) (F:List (List Nat)):Prop where
 sub:∀p∈F,p∈fk m l k
 take:F.take size=(fk m l k).take size
 len:F.length<=10001
theorem FkI.next {m:A8} (wf:D5 m) {size l k:Nat}{F:List (List Nat)} (h:FkI m size (l+1) k F) (hs:size<=10000):FkI m size l (k+1) ((F.flatMap (ext m l)).take size):=by
 refine⟨fun p hp=>?_,?_,?_⟩
 ·rw [<- Z9m wf]
  obtain⟨q,hq,hp⟩:=bE.mp (List.mem_of_mem_take hp)
  exact bE.mpr ⟨q,h.sub q hq,hp⟩
 ·rw [List.take_take,Nat.min_self,<- Z9m wf,<- Z9n (ext m l) F size fun x hx=>Z9l wf (h.sub x hx),h.take,Z9n (ext m l) _ size fun x hx=>Z9l wf hx]
 ·rw [bQ];omega
def wbX:WS:=(A7 (C1 5 (G6 A5)) (A7 (K3 (Q8k 3) (N4 2 (F4 (B1 6) (F4 (B1 7) O7))) wbY) (C1 3 (wSl (wV 5) Y7 (Y8 (wV 2))))))
theorem forX {m:A8} (wf:D5 m) {size:Nat} (hs:size<=10000) {E:F6}{o1:Option Sl}:∀(l k:Nat) (F:List (List Nat)) (o4 o5 o6 o7 o8 o9:Option Sl),k+l<=1000->FkI m size l k F ->
  (∀F o4 o5 o6 o7 o8 o9,FkI m size 0 (k+l) F->E.nx [some (.dat (mD m)),o1,some (.dat (iD size)),some (.own (F.map (pqD m))),o4,o5,o6,o7,o8,o9]) ->
  D6 (B1 4) wbX E (K1 m l).reverse [some (.dat (mD m)),o1,some (.dat (iD size)),some (.own (F.map (pqD m))),o4,o5,o6,o7,o8,o9]
 | 0,k,F,o4,o5,o6,o7,o8,o9,_,hF,h=>h F o4 o5 o6 o7 o8 o9 hF
 | l+1,k,F,o4,o5,o6,o7,o8,o9,hk,hF,h=>by
  have e:(K1 m (l+1)).reverse=.lst ((M0 m l).map iD)::(K1 m l).reverse:=by
   unfold K1;rw [gG,aY,List.map_singleton,List.reverse_append];rfl
  rw [e,D6]
  simp only [wbX,M8,D7,F9,s_lst,C2,S6]
  refine⟨_,rfl,sz (by decide),?_⟩
  rw [L7]
  refine⟨_,rfl,?_⟩
  have hw:∀p∈F,B8 p/\p.length<=1000:=fun p hp=>by
   obtain⟨a,b⟩:=S0.mp (ba.mp (hF.sub p hp)).1
   exact⟨a,by omega⟩
  refine forY wf F [] _ _ _ _ hw (by have:=hF.len;simp only [bc];omega) fun o6 o7 o8 o9=>?_
  rw [bL]
  simp only [Q6w,Q6t,Q6u,B0]
  refine⟨_,rfl,_,rfl,?_⟩
  simp only [N7,O9,Q0t,Q8z,Q8c,L7]
  rw [<- List.map_take]
  exact forX wf hs l (k+1) _ _ _ _ _ _ _ (by omega) (hF.next wf hs) fun F o4 o5 o6 o7 o8 o9 hF=>h F o4 o5 o6 o7 o8 o9 (by rw [show k+(l+1)=k+1+l by omega];exact hF)
theorem W7k:∀rs r,rs.length=3->sp_texts_of_length rs r->Z6o (U6 r) (G9 Z0v rs):=by
 rintro rs r _ ⟨m,L,size,rfl,wf,hl,hL,hs,rfl⟩
 have F0:FkI m size L 0 (fk m L 0):=⟨fun p hp=>hp,rfl,by
  have:(fk m L 0).length<=(wl 0).length:=cw _ _
  have e:(wl 0).length=1:=rfl
  omega⟩
 unfold Z6o
 rw [D7,F9,Q6s]
 simp only [C8,B0,Q2x,E4]
 refine⟨_,rfl,?_⟩
 rw [Q0t]
 show B9 (.bw (K1 m (L+1))) (.st (.int (-1))) _
 rw [Q1l]
 refine⟨_,Q9v m L,?_⟩
 refine Q6d wf (.inr rfl) (g:=0) wf.pos ?_
 rw [U4]
 have rest:∀F,FkI m size L 0 F->A7 (K3 (Q8l (A1 (B5 (wSl (wV 1) Y7 (Y8 (Z1 (wC (.int 1)))))) A5)) (B1 4) wbX) (I0 (M6 2 [] (V7 (wSl (wV 3) Y7 (Y8 (wV 2)))) (N4 2 (F4 (B1 0) (F4 (B1 1) O7))) W1 (B5 (wV 0)))) (U6 (.nw ((((wl L).filter (G4 m)).take size).map tD))) [some (.dat (mD m)),some (.bor (K1 m (L+1))),some (.dat (iD size)),some (.own (F.map (pqD m))),none,none,none,none,none,none]:=by
  intro F hF
  rw [D7,S6,W7x]
  simp only [C7,E9,Q6w,B0,Q6t,Q6u,Q2x,E4,C2]
  refine⟨_,rfl,?_⟩
  simp only [Q0t,W3l,Q8z,Y8d,V0c]
  refine⟨_,rfl,?_⟩
  refine forX wf hs L 0 F none none none none none none (by omega) hF fun F o4 o5 o6 o7 o8 o9 hF=>?_
  rw [dH]at hF
  dsimp only
  rw [R1,V1,Q2w,Q6w,B0]
  refine⟨_,rfl,?_⟩
  rw [Q6t,Q6u,B0]
  refine⟨_,rfl,?_⟩
  simp only [N7,O9,Q0t,Q8z,Q8c]
  rw [<- List.map_take]
  refine⟨_,rfl,sz (by rw [ag,bQ];omega),?_⟩
  have e:(F.take size).map (pqD m)=((F.take size).map fun p=>(tD p,iD (E1 m p))).map fun q=>D.tup [q.1,q.2]:=by rw [aL];rfl
  rw [e]
  refine Z8y (f:=fun a b=>a) (rest:=[]) _ none none _ (fun q hq Q' h=>?_) ?_
  ·rw [E9,B0];exact⟨_,rfl,h⟩
  ·show R.nw _=R.nw _
   congr 1
   rw [aL,hF.take,Y9c]
   rfl
 by_cases hz:0<J4 m L 0
 ·rw [aC (by simpa using hz),s_lst]
  simp only [C7,E9,s_tup,E4,C2]
  refine⟨_,rfl,sz (by simp),_,rfl,sz (by simp),?_⟩
  rw [L7]
  have e:fk m L 0=[[]]:=by
   unfold fk wl
   rw [c7,aC (show decide (0<J4 m L (E1 m []))=true from be hz)];rfl
  have:=rest _ F0
  rw [e]at this
  exact this
 ·rw [ax (by simpa using hz),s_lst]
  simp only [C2]
  refine⟨_,rfl,sz (by decide),?_⟩
  rw [L7]
  have e:fk m L 0=[]:=by
   unfold fk wl
   rw [c7,ax (show ¬ decide (0<J4 m L (E1 m []))=true from fun z=>hz (br z))];rfl
  have:=rest _ F0
  rw [e]at this
  exact this
noncomputable def C0 (m:A8) (j:Nat):List (List Nat):=(List.range j).flatMap fun l=>(wl l).filter (G4 m)
theorem Q5l (m:A8) (j:Nat):C0 m (j+1)=C0 m j++(wl j).filter (G4 m):=by unfold C0;rw [gG,List.flatMap_append,List.flatMap_singleton]
theorem Q9z (m:A8) (n:Nat):(Q1t n).filter (G4 m)=C0 m (n+1):=by rw [Z6x,C0,List.filter_flatMap]
theorem Q2g (m:A8) {i j:Nat} (h:i<=j):C0 m i <+: C0 m j:=by
 induction j with
 | zero=>rw [Nat.le_zero.mp h];exact bD _
 | succ j ih =>
  rcases aW j i with z | z
  ·rw [show i=j+1 by omega];exact bD _
  ·rw [Q5l];exact(ih z).trans (cN _ _)
theorem Q0q {m:A8}{j:Nat}{w:List Nat}:w∈C0 m j ↔ L4 m w/\w.length<j:=by
 unfold C0
 rw [bE]
 constructor
 ·rintro ⟨l,hl,h⟩
  obtain⟨h1,h2⟩:=ba.mp h
  obtain⟨a,b⟩:=S0.mp h1
  exact⟨⟨a,h2⟩,by have:=aM.mp hl;omega⟩
 ·rintro ⟨⟨a,b⟩,h⟩
  exact⟨w.length,aM.mpr h,ba.mpr ⟨S0.mpr ⟨a,rfl⟩,b⟩⟩
theorem Q5k {m:A8}{i j:Nat} (h:i<=j) (hn:∀w,L4 m w->w.length<i):C0 m j=C0 m i:=by
 induction j with
 | zero=>rw [Nat.le_zero.mp h]
 | succ j ih =>
  rcases aW j i with z | z
  ·rw [show i=j+1 by omega]
  ·rw [Q5l,ih z,Z6w fun w hw e=>by have:=hn w hw;omega,aX]
theorem Y5n:∀n,(wl n).length=4 ^ n
 | 0=>rfl
 | n+1=>by rw [wl,Z3d,Y5n n,Nat.pow_succ];omega
theorem Y4j (m:A8) (j:Nat):K1 m (j+1)++[.lst ((M0 m (j+1)).map iD)]=K1 m (j+1+1):=by unfold K1;rw [gG (n:=j+1),aY];rfl
noncomputable def Q3c:J9:=fun rs Pr=>∃(m:A8) (k:Nat),rs=[.st (mD m),.st (iD k)]/\D5 m/\m.1.length<=20000/\k<=6/\Pr (.nw ((C0 m (k+1)).map tD))
theorem W2r:Z2 Q3c:=by rintro rs P Q f ⟨m,k,e,h1,h2,h3,h4⟩;exact⟨m,k,e,h1,h2,h3,f _ h4⟩
def wbU:WS:=(A7 (Q5q 3 (L8 sp_texts_of_length (A1 (wV 0) (A1 (wV 4) (A1 (A3 B9 (A3 B9 (wV 4) (Z1 (wC (.int 1)))) (wC (.int 0))) A5))))) (P3 4 (B5 (L8 sp_one_more_sign (A1 (wV 0) (A1 (A3 B9 (wV 4) (Z1 (wC (.int 1)))) A5))))))
theorem Y6y {m:A8} (wf:D5 m) (hl:m.1.length<=20000) {E:F6}{o1 o2:Option Sl}{j:Nat} (hj:j<=6) (h:E.nx [some (.dat (mD m)),o1,o2,some (.own ((C0 m (j+1)).map tD)),some (.own (K1 m (j+1+1)))]) :
  wbU E [some (.dat (mD m)),o1,o2,some (.own ((C0 m j).map tD)),some (.own (K1 m (j+1)))]:=by
 have hc:((wl j).filter (G4 m)).length<=4096:=by
  have h1:((wl j).filter (G4 m)).length<=(wl j).length:=cw _ _
  have h2:4 ^ j<=4 ^ 6:=Nat.pow_le_pow_right (by decide) hj
  rw [Y5n]at h1
  have:(4:Nat) ^ 6=4096:=by decide
  omega
 have hu:(C0 m j).length<=100000:=by
  have:=(Q2g m hj).length_le
  have e:(C0 m 6).length<=(Q1t 5).length:=by rw [<- Q9z];exact cw _ _
  have e2:(Q1t 5).length=1365:=by decide +kernel
  omega
 unfold wbU
 rw [D7,Y2r]
 refine⟨_,rfl,?_⟩
 simp only [U5,C7,B0,C8,Q2x,E4,C2]
 refine⟨_,rfl,_,rfl,_,rfl,?_⟩
 rw [Q0t]
 show B9 (.bw (K1 m (j+1))) (.st (.int (-1))) _
 rw [Q1l]
 refine⟨_,Q9v m j,?_⟩
 refine Q6d wf (.inr rfl) (g:=0) wf.pos ?_
 refine⟨rfl,_,⟨m,j,J4 m j 0,rfl,wf,hl,by omega,by rw [Z1v wf];omega,rfl⟩,?_⟩
 rw [Z1v wf,List.take_length]
 refine⟨_,rfl,sz (by rw [ag,ag];omega),?_⟩
 rw [Q1p]
 refine⟨_,rfl,?_⟩
 simp only [E9,U5,C7,B0,C8,Q2x,E4,C2]
 refine⟨_,rfl,_,rfl,?_⟩
 rw [Q0t]
 show B9 (.bw (K1 m (j+1))) (.st (.int (-1))) _
 rw [Q1l]
 refine⟨_,Q9v m j,rfl,_,⟨m,_,j,rfl,.inr rfl,wf,hl,rfl⟩,?_⟩
 rw [Q4w]
 refine⟨_,rfl,szl (by simp;omega),?_⟩
 have e:(C0 m j).map tD++((wl j).filter (G4 m)).map tD=(C0 m (j+1)).map tD:=by rw [Q5l,aY]
 show E.nx [_,_,_,some (.own ((C0 m j).map tD++((wl j).filter (G4 m)).map tD)),some (.own (K1 m (j+1)++[.lst ((M0 m (j+1)).map iD)]))]
 rw [e,Y4j]
 exact h
noncomputable def W3 (k:Nat) (d:D):Int:=match d with | .int i=>if i<(k:Int)then i else k | _=>k
def wtU:WT:=(A3 (J3 fun i j=>decide (i<=j)) (D3 D9 (A1 (wV 4) A5)) (A3 G2 (wIf (A3 (Q0m false) (wV 2) (wC .non)) (wV 1) (D3 Q3s (A1 (wV 1) (A1 (wV 2) A5)))) (wC (.int 1))))
theorem Y4m {m:A8}{d:D} (hd:W4 m d) {k j:Nat}{o0 o3:Option Sl}{Q:Bool->Prop} (h:Q (decide ((j:Int)<=W3 k d))):wtU [o0,some (.dat (iD k)),some (.dat d),o3,some (.own (K1 m (j+1)))] Q:=by
 unfold wtU
 simp only [C8,L0,C7,B0,C2,Q6s,E4]
 refine⟨_,rfl,?_⟩
 rw [O9,V8]
 have hl:((K1 m (j+1)).length:Int)=(j:Int)+1:=by simp
 refine⟨_,rfl,_,rfl,rfl,?_⟩
 rcases hd with⟨e,_⟩ | ⟨L,e,_⟩ | ⟨e,_⟩
 ·subst e
  show(if false=true then(_:Prop)else(_:Prop))
  rw [ax (by decide)]
  refine⟨_,rfl,_,rfl,?_⟩
  show Q3s [.st (.int (k:Int)),.st (.int (-1))] _
  rw [Y2w,Q0c,U4,hl]
  have:W3 k (.int (-1))=if (-1:Int)<(k:Int)then -1 else(k:Int):=rfl
  rw [this]at h
  have e:decide ((j:Int)+1<=(if (-1:Int)<(k:Int)then -1 else(k:Int))+1)=decide ((j:Int)<=(if (-1:Int)<(k:Int)then -1 else(k:Int))):=by congr 1;apply propext;constructor <;> intro _ <;> omega
  rw [e];exact h
 ·subst e
  show(if false=true then(_:Prop)else(_:Prop))
  rw [ax (by decide)]
  refine⟨_,rfl,_,rfl,?_⟩
  show Q3s [.st (.int (k:Int)),.st (.int (L:Int))] _
  rw [Y2w,Q0c,U4,hl]
  have:W3 k (.int (L:Int))=if (L:Int)<(k:Int)then(L:Int)else(k:Int):=rfl
  rw [this]at h
  have e:decide ((j:Int)+1<=(if (L:Int)<(k:Int)then(L:Int)else(k:Int))+1)=decide ((j:Int)<=(if (L:Int)<(k:Int)then(L:Int)else(k:Int))):=by congr 1;apply propext;constructor <;> intro _ <;> omega
  rw [e];exact h
 ·subst e
  show(if true=true then(_:Prop)else(_:Prop))
  rw [aC rfl]
  refine⟨_,rfl,?_⟩
  show G2 (.st (.int (k:Int))) (.st (.int 1)) _
  rw [Q0c,U4,hl]
  have e:decide ((j:Int)+1<=(k:Int)+1)=decide ((j:Int)<=W3 k .non):=by congr 1;apply propext;show _ ↔ (j:Int)<=(k:Int);constructor <;> intro _ <;> omega
  rw [e];exact h
theorem V1a {m:A8} (wf:D5 m) (hl:m.1.length<=20000) {d:D} (hd:W4 m d) {k:Nat} (hk:k<=6) {E:F6} (h:∀j:Nat,(j:Int)=W3 k d+1->∀o4,E.nx [some (.dat (mD m)),some (.dat (iD k)),some (.dat d),some (.own ((C0 m j).map tD)),o4]):∀(n j:Nat),W3 k d+1-(j:Int)<=n->(j:Int)<=W3 k d+1 ->
  J8 wtU wbU (n+1) E [some (.dat (mD m)),some (.dat (iD k)),some (.dat d),some (.own ((C0 m j).map tD)),some (.own (K1 m (j+1)))]:=by
 have l9:W3 k d<=k:=by unfold W3;split <;> (try split) <;> omega
 intro n
 induction n with
 | zero =>
  intro j hj eG
  rw [J8]
  refine Y4m hd ?_
  rw [ax (by simp;omega)]
  exact h j (by omega) _
 | succ n ih =>
  intro j hj eG
  rw [J8]
  refine Y4m hd ?_
  by_cases fh:(j:Int)<=W3 k d
  ·rw [aC (by simpa using fh)]
   exact Y6y wf hl (by omega) (ih (j+1) (by omega) (by omega))
  ·rw [ax (by simpa using fh)]
   exact h j (by omega) _
theorem W7l:∀rs Pr,rs.length=2->Q3c rs Pr->Z6p sp_last_length sp_no_signs sp_texts_of_length sp_one_more_sign (P4 Pr) (G9 Z7o rs):=by
 rintro rs Pr _ ⟨m,k,rfl,wf,hl,hk,h⟩
 unfold Z6p
 rw [D7,F9,V0]
 simp only [C7,B0,C2]
 refine⟨_,rfl,rfl,m,rfl,wf,hl,fun d hd=>?_⟩
 show T3 (.st d) _
 rw [Q6,D7,F9,s_lst,C2]
 refine⟨_,rfl,sz (by decide),?_⟩
 rw [L7]
 dsimp only
 rw [D7,F9,s_lst]
 simp only [C7,E9,U5,B0,C2]
 refine⟨_,rfl,rfl,_,⟨m,rfl,hl,rfl⟩,?_⟩
 rw [Q4w]
 refine⟨_,rfl,sz (by simp),?_⟩
 rw [L7]
 dsimp only
 rw [D7]
 have l9:-1<=W3 k d/\W3 k d<=k:=by
  rcases hd with⟨e,_⟩ | ⟨L,e,_⟩ | ⟨e,_⟩
  ·subst e;show -1<=(if (-1:Int)<(k:Int)then -1 else(k:Int))/\(if (-1:Int)<(k:Int)then -1 else(k:Int))<=k;split <;> omega
  ·subst e;show -1<=(if (L:Int)<(k:Int)then(L:Int)else(k:Int))/\(if (L:Int)<(k:Int)then(L:Int)else(k:Int))<=k;split <;> omega
  ·subst e;show -1<=(k:Int)/\(k:Int)<=k;omega
 refine⟨(W3 k d+1).toNat+1,?_⟩
 refine V1a wf hl hd hk (fun j hj o4=>?_) _ 0 (by omega) (by omega)
 dsimp only
 rw [Q6v]
 refine⟨_,rfl,?_⟩
 have e:C0 m (k+1)=C0 m j:=by
  rcases hd with⟨e,hd⟩ | ⟨L,e,_,hd⟩ | ⟨e,hd⟩
  ·exact Q5k (by omega) fun w hw=>absurd hw (hd w)
  ·subst e
   have et:W3 k (.int (L:Int))=if (L:Int)<(k:Int)then(L:Int)else(k:Int):=rfl
   rw [et]at hj
   by_cases z:(L:Int)<(k:Int)
   ·rw [aC z]at hj
    exact Q5k (by omega) fun w hw=>by have:=hd w hw;omega
   ·rw [ax z]at hj
    rw [show j=k+1 by omega]
  ·subst e
   have et:W3 k .non=(k:Int):=rfl
   rw [et]at hj
   rw [show j=k+1 by omega]
 show Pr (.nw _)
 rw [<- e]
 exact h
noncomputable def Q0f:J9:=fun rs Pr=>∃(m:A8) (size:Nat),rs=[.st (mD m),.st (iD size)]/\D5 m/\m.1.length<=20/\size<=20/\Pr (.nw (((C0 m (size*m.1.length)).take size).map tD))
theorem Y1c:Z2 Q0f:=by rintro rs P Q f ⟨m,k,e,h1,h2,h3,h4⟩;exact⟨m,k,e,h1,h2,h3,f _ h4⟩
theorem Q9y {m:A8} (wf:D5 m) (h:Inf m):∀s:Nat,s<=(C0 m (s*m.1.length)).length
 | 0=>bi _
 | s+1=>by
  have ih:=Q9y wf h s
  obtain⟨w,hw,h1,h2⟩:=Y5l wf h (s*m.1.length)
  rw [Nat.succ_mul]
  obtain⟨t,ht⟩:=Q2g m (show s*m.1.length<=s*m.1.length+m.1.length by omega)
  rw [<- ht,aq]
  have:0<t.length:=by
   rcases dZ t.length with z | z
   ·have gR:w∈C0 m (s*m.1.length+m.1.length):=Q0q.mpr ⟨hw,h2⟩
    rw [<- ht,cj.mp z,aX]at gR
    have:=(Q0q.mp gR).2
    omega
   ·exact z
  omega
def Z0k:WT:=(Q5n (A3 (J3 fun i j=>decide (i<j)) (D3 D9 (A1 (wV 3) A5)) (wV 1)) (wOr (A3 (Q0m false) (wV 2) (wC .non)) (A3 (J3 fun i j=>decide (i<=j)) (D3 D9 (A1 (wV 4) A5)) (A3 G2 (wV 2) (wC (.int 1))))))
def Z0j:WS:=(A7 (Q5q 3 (L8 sp_texts_of_length (A1 (wV 0) (A1 (wV 4) (A1 (A3 (M5 NoC fun i j=>i-j) (wV 1) (D3 D9 (A1 (wV 3) A5))) A5))))) (P3 4 (B5 (L8 sp_one_more_sign (A1 (wV 0) (A1 (A3 B9 (wV 4) (Z1 (wC (.int 1)))) A5))))))
noncomputable def Q4u (d:D) (j:Nat):Bool:=match d with | .int i=>decide ((j:Int)<=i) | _=>true
theorem Y4l {m:A8}{d:D} (hd:W4 m d) {size j:Nat}{fK:List D}{o0:Option Sl}{Q:Bool->Prop} (h:Q (decide (fK.length<size)&&Q4u d j)):Z0k [o0,some (.dat (iD size)),some (.dat d),some (.own fK),some (.own (K1 m (j+1)))] Q:=by
 unfold Z0k
 rw [Z4l]
 simp only [C8,L0,C7,B0,C2]
 refine⟨_,rfl,?_⟩
 rw [O9,V8]
 refine⟨_,rfl,?_⟩
 rw [N7,U4]
 have hl:((K1 m (j+1)).length:Int)=(j:Int)+1:=by simp
 by_cases hz:fK.length<size
 ·rw [aC (by simpa using hz)]
  rw [be hz,Bool.true_and]at h
  rw [Z4r]
  simp only [C8,L0,C7,B0,C2,E4]
  refine⟨_,rfl,_,rfl,rfl,?_⟩
  have go:∀i:Int,d=.int i->(if false=true then Q true else ∃s,([o0,some (.dat (iD size)),some (.dat d),some (.own fK),some (.own (K1 m (j+1)))]:A9)[4]?=some (some s)/\D9 [rdS s] fun x=>∃s,([o0,some (.dat (iD size)),some (.dat d),some (.own fK),some (.own (K1 m (j+1)))]:A9)[2]?=some (some s)/\G2 (rdS s) (.st (.int 1)) fun y=>J3 (fun i j=>decide (i<=j)) x y Q):=by
   intro i e
   subst e
   rw [ax (by decide)]
   refine⟨_,rfl,?_⟩
   rw [O9,V8]
   refine⟨_,rfl,?_⟩
   rw [N7,Q0c,U4,hl]
   have e:decide ((j:Int)+1<=i+1)=Q4u (.int i) j:=by show _=decide ((j:Int)<=i);congr 1;apply propext;constructor <;> intro _ <;> omega
   rw [e];exact h
  rcases hd with⟨e,_⟩ | ⟨L,e,_⟩ | ⟨e,_⟩
  ·have:=go _ e;subst e;exact this
  ·have:=go _ e;subst e;exact this
  ·subst e;exact h
 ·rw [ax (by simpa using hz)]
  rw [bg hz,Bool.false_and]at h
  exact h
theorem Y6w {m:A8} (wf:D5 m) (hl:m.1.length<=20000) {E:F6}{o2:Option Sl}{j size:Nat} (hj:j<=1000) (hs:size<=20) (hu:(C0 m j).length<size) (h:E.nx [some (.dat (mD m)),some (.dat (iD size)),o2,some (.own (((C0 m (j+1)).take size).map tD)),some (.own (K1 m (j+1+1)))]) :
  Z0j E [some (.dat (mD m)),some (.dat (iD size)),o2,some (.own ((C0 m j).map tD)),some (.own (K1 m (j+1)))]:=by
 unfold Z0j
 rw [D7,Y2r]
 refine⟨_,rfl,?_⟩
 simp only [U5,C7,B0,C8,L0,C2]
 refine⟨_,rfl,_,rfl,_,rfl,_,rfl,?_⟩
 rw [O9,V8]
 show M5 NoC _ (.st (.int (size:Int))) (.st (.int (((C0 m j).map tD).length:Int))) _
 have es:(size:Int)-(((C0 m j).map tD).length:Int)=((size-(C0 m j).length:Nat):Int):=by rw [ag];omega
 refine⟨trivial,?_⟩
 dsimp only
 rw [es]
 refine⟨rfl,_,⟨m,j,size-(C0 m j).length,rfl,wf,hl,hj,by omega,rfl⟩,?_⟩
 refine⟨_,rfl,sz (by rw [ag,ag,bQ];omega),?_⟩
 rw [Q1p]
 refine⟨_,rfl,?_⟩
 simp only [E9,U5,C7,B0,C8,Q2x,E4,C2]
 refine⟨_,rfl,_,rfl,?_⟩
 rw [Q0t]
 show B9 (.bw (K1 m (j+1))) (.st (.int (-1))) _
 rw [Q1l]
 refine⟨_,Q9v m j,rfl,_,⟨m,_,j,rfl,.inr rfl,wf,hl,rfl⟩,?_⟩
 rw [Q4w]
 refine⟨_,rfl,szl (by simp;omega),?_⟩
 have e:(C0 m j).map tD++(((wl j).filter (G4 m)).take (size-(C0 m j).length)).map tD=((C0 m (j+1)).take size).map tD:=by
  rw [Q5l,List.take_append,gk (l:=C0 m j) (by omega),aY]
 show E.nx [_,_,_,some (.own ((C0 m j).map tD++(((wl j).filter (G4 m)).take (size-(C0 m j).length)).map tD)),some (.own (K1 m (j+1)++[.lst ((M0 m (j+1)).map iD)]))]
 rw [e,Y4j]
 exact h
theorem V0v {m:A8} (wf:D5 m) (hl:m.1.length<=20) {d:D} (hd:W4 m d) {size:Nat} (hs:size<=20) {E:F6} (h:∀j:Nat,j<=size*m.1.length->(size<=(C0 m j).length\/Q4u d j=false)->∀o4,E.nx [some (.dat (mD m)),some (.dat (iD size)),some (.dat d),some (.own (((C0 m j).take size).map tD)),o4]):∀(n j:Nat),size*m.1.length<=n+j->j<=size*m.1.length ->
  J8 Z0k Z0j (n+1) E [some (.dat (mD m)),some (.dat (iD size)),some (.dat d),some (.own (((C0 m j).take size).map tD)),some (.own (K1 m (j+1)))]:=by
 have hM:size*m.1.length<=400:=aV (Nat.mul_le_mul hs hl) (by decide)
 have bZ:∀j,(C0 m j).length<size->Q4u d j=true->j<size*m.1.length:=by
  intro j h1 h2
  rcases hd with⟨e,_⟩ | ⟨L,e,hL,hd⟩ | ⟨e,hd⟩
  ·subst e;have:decide ((j:Int)<=-1)=true:=h2;simp at this;omega
  ·subst e
   have:decide ((j:Int)<=(L:Int))=true:=h2
   simp at this
   have:=Y0l wf hd hL
   have:m.1.length<=size*m.1.length:=Nat.le_mul_of_pos_left _ (by omega)
   omega
  ·refine eK fun no=>?_
   have:=Q9y wf hd size
   have:=(Q2g m (show size*m.1.length<=j by omega)).length_le
   omega
 intro n
 induction n with
 | zero =>
  intro j hj eG
  rw [J8]
  refine Y4l hd ?_
  rw [ag,bQ]
  cases hb:(decide (min size (C0 m j).length<size)&&Q4u d j)with
  | false =>
   rw [ax (by decide)]
   refine h j eG ?_ _
   rcases Bool.and_eq_false_iff.mp hb with z | z
   ·left;have:=of_decide_eq_false z;omega
   ·exact .inr z
  | true =>
   obtain⟨z1,z2⟩:=Bool.and_eq_true_iff.mp hb
   have:=br z1
   have:=bZ j (by omega) z2
   omega
 | succ n ih =>
  intro j hj eG
  rw [J8]
  refine Y4l hd ?_
  rw [ag,bQ]
  cases hb:(decide (min size (C0 m j).length<size)&&Q4u d j)with
  | false =>
   rw [ax (by decide)]
   refine h j eG ?_ _
   rcases Bool.and_eq_false_iff.mp hb with z | z
   ·left;have:=of_decide_eq_false z;omega
   ·exact .inr z
  | true =>
   obtain⟨z1,z2⟩:=Bool.and_eq_true_iff.mp hb
   have z1:=br z1
   have z3:=bZ j (by omega) z2
   rw [aC rfl]
   have e:(C0 m j).take size=C0 m j:=gk (by omega)
   rw [e]
   exact Y6w wf (by omega) (by omega) hs (by omega) (ih (j+1) (by omega) (by omega))
theorem W6w:∀rs Pr,rs.length=2->Q0f rs Pr->Z5y sp_last_length sp_no_signs sp_texts_of_length sp_one_more_sign (P4 Pr) (G9 Z7f rs):=by
 rintro rs Pr _ ⟨m,size,rfl,wf,hl,hs,h⟩
 unfold Z5y
 rw [D7,F9,V0]
 simp only [C7,B0,C2]
 refine⟨_,rfl,rfl,m,rfl,wf,by omega,fun d hd=>?_⟩
 show T3 (.st d) _
 rw [Q6,D7,F9,s_lst,C2]
 refine⟨_,rfl,sz (by decide),?_⟩
 rw [L7]
 dsimp only
 rw [D7,F9,s_lst]
 simp only [C7,E9,U5,B0,C2]
 refine⟨_,rfl,rfl,_,⟨m,rfl,by omega,rfl⟩,?_⟩
 rw [Q4w]
 refine⟨_,rfl,sz (by simp),?_⟩
 rw [L7]
 dsimp only
 rw [D7]
 refine⟨size*m.1.length+1,?_⟩
 have e0:([]:List D)=((C0 m 0).take size).map tD:=by simp [C0]
 show J8 Z0k Z0j _ _ [some (.dat (mD m)),some (.dat (iD size)),some (.dat d),some (.own []),some (.own (K1 m (0+1)))]
 rw [e0]
 refine V0v wf hl hd hs (fun j hj hc o4=>?_) _ 0 (by omega) (bi _)
 dsimp only
 rw [Q6v]
 refine⟨_,rfl,?_⟩
 have e:(C0 m (size*m.1.length)).take size=(C0 m j).take size:=by
  rcases hc with z | z
  ·obtain⟨t,ht⟩:=Q2g m hj
   rw [<- ht,cn z]
  ·rcases hd with⟨e,hd⟩ | ⟨L,e,_,hd⟩ | ⟨e,hd⟩
   ·rw [Q5k hj fun w hw=>absurd hw (hd w)]
   ·subst e
    have:decide ((j:Int)<=(L:Int))=false:=z
    simp at this
    rw [Q5k hj fun w hw=>by have:=hd w hw;omega]
   ·subst e;cases z
 show Pr (.nw _)
 rw [<- e]
 exact h
end MC
end
section
namespace K14
open PySem PySem.Spec PyProof.Rows L2 TK MC
abbrev Z0s:List Str:=["_law_told","_law_found","_law_states","_law_long","_law_behind","_law_state_here"]
def Z6f   :WS:=(A7 (C1 1 (G6 A5)) (A7 (C1 2 (B5 (G6 (A1 (B5 (wC (.int 0))) A5)))) (A7 (K3 (Y4 (A1 (A3 T1 (wC (.int 2)) (D3 D9 (A1 (A3 B9 (wV 0) (wC (.int 0))) A5))) A5)) (B1 3) (A7 (L1 (A3 (F8 59 true) (M6 1 [0] (V7 (wV 2)) (B1 0) (Q0v (A3 B9 (A3 B9 (wV 1) (wC (.int 0))) (wV 0))) (B5 (wV 0))) (G6 A5)) (P3 1 (B5 (wV 3))) L3) (A7 (C1 4 (G6 A5)) (A7 (K3 (Z9 (B5 (wV 2))) (B1 5) (C1 4 (A3 Q0i (wV 4) (D3 Q4s (A1 (A3 B9 (A3 B9 (wV 0) (wC (.int 1))) (wV 5)) A5))))) (C1 2 (B5 (Q7h (wV 4)))))))) (Q5r 1))))
abbrev Q1w:List Str:=["_law_script","_law_told","_law_accepted","_law_long","_law_due","_law_lengths_here","_law_great","_law_most","_law_said","_law_size"]
def Z6c   (dr:E6) (dL:E6) (du:E6) (Q3c:J9) (Q2z:J9) (sp_law_lengths:E6) (Q3a:J9) (Q3b:J9) (sp_least_text:J9) (cb:E6) (Q0f:J9):WS:=(A7 (C1 1 (L8 dr (A1 (wV 0) (A1 (wC (.int 0)) (A1 (wC (.int 4)) A5))))) (A7 (C1 2 (M6 1 [1] (V7 (L8 dL (A1 (wC (.int 3)) A5))) (B1 0) (Q0v (L8 du (A1 (wV 1) (A1 (wV 0) A5)))) (B5 (wV 0)))) (A7 (K3 (Y4 (A1 (wC (.int 4)) A5)) (B1 3) (A7 (C1 4 (M6 1 [3] (V7 (wV 2)) (B1 0) (A3 (J3 fun i j=>decide (i<=j)) (D3 D9 (A1 (wV 0) A5)) (wV 1)) (B5 (wV 0)))) (A7 (L1 (A3 (F8 59 true) (M4 Q3c (A1 (wV 1) (A1 (wV 3) A5))) (wV 4)) (I0 (wC (.bl false))) L3) (L1 (A3 neD (M4 Q2z (A1 (wV 1) (A1 (wV 3) A5))) (D3 D9 (A1 (M6 1 [3] (V7 (wV 4)) (B1 0) (A3 (F8 60 false) (D3 D9 (A1 (wV 0) A5)) (wV 1)) (B5 (wV 0))) A5))) (I0 (wC (.bl false))) L3)))) (A7 (C1 5 (L8 sp_law_lengths (A1 (wV 1) A5))) (A7 (C1 6 (M6 1 [1] (V7 (wV 5)) (B1 0) (A3 (J3 fun i j=>decide (j<=i)) (wV 0) (D3 D9 (A1 (A3 B9 (wV 1) (wC (.int 0))) A5))) (B5 (wV 0)))) (A7 (C1 7 (wC .non)) (A7 (L1 (Q5n (A3 (F8 60 false) (wV 6) (G6 A5)) (A3 (F8 59 true) (wV 5) (G6 A5))) (C1 7 (A3 B9 (wV 5) (Z1 (wC (.int 1))))) L3) (A7 (C1 8 (M4 Q3a (A1 (wV 1) A5))) (A7 (L1 (wOr (A3 (F8 59 true) (M4 Q3b (A1 (wV 1) A5)) (wV 7)) (wOr (Z0g (Q0v (Z0e "bool" (wV 8)))) (A3 (F8 59 true) (wV 8) (wB (A3 (F8 60 false) (wV 6) (G6 A5)))))) (I0 (wC (.bl false))) L3) (A7 (L1 (A3 (F8 59 true) (M4 sp_least_text (A1 (wV 1) A5)) (A3 B9 (A3 Q0i (wV 2) (G6 (A1 (B5 (wC .non)) A5))) (wC (.int 0)))) (I0 (wC (.bl false))) L3) (A7 (C1 9 (L8 cb (A1 (wV 0) (A1 (wC (.int 60)) (A1 (wC (.int 6)) A5))))) (A7 (L1 (wOr (A3 (F8 60 false) (wV 6) (G6 A5)) (A3 (J3 fun i j=>decide (j<=i)) (D3 D9 (A1 (wV 2) A5)) (wV 9))) (I0 (wB (A3 (F8 60 false) (M4 Q0f (A1 (wV 1) (A1 (wV 9) A5))) (wSl (wV 2) Y7 (Y8 (wV 9)))))) L3) (I0 (wB (A3 (F8 60 false) (wSl (M4 Q0f (A1 (wV 1) (A1 (wV 9) A5))) Y7 (Y8 (D3 D9 (A1 (wV 2) A5)))) (wV 2))))))))))))))))
noncomputable def X1 (m:A8) (l:Nat):Bool:=(wl l).any (G4 m)
noncomputable def P6 (m:A8):List Nat:=(List.range (2*m.1.length)).filter (X1 m)
noncomputable def sp_law_lengths:E6:=fun rs r=>∃m:A8,rs=[.st (mD m)]/\D5 m/\m.1.length<=4/\r=.nw ((P6 m).map iD)
structure StS (m:A8) (l:Nat) (S:List Nat):Prop where
 ord:S.Pairwise (·<·)
 mem:∀x,x∈S ↔ ∃w∈wl l,E1 m w=x
theorem StS.lt {m:A8} (wf:D5 m) {l:Nat}{S:List Nat} (h:StS m l S) {x:Nat} (hx:x∈S):x<m.1.length:=by
 obtain⟨w,hw,rfl⟩:=(h.mem x).mp hx
 exact Q0g wf w (S0.mp hw).1
theorem StS.len {m:A8} (wf:D5 m) (h4:m.1.length<=4) {l:Nat}{S:List Nat} (h:StS m l S):S.length<=4:=by
 have nd:S.Nodup:=h.ord.imp fun h=>aD h
 have:=nd.length_le_of_subset (l₂:=List.range m.1.length) fun x hx=>aM.mpr (h.lt wf hx)
 rw [b8]at this;omega
noncomputable def Q4j (m:A8) (S:List Nat):List Nat:=S.flatMap fun s=>B2.map (C6 m.2 s)
theorem StS.next {m:A8}{l:Nat}{S T:List Nat} (h:StS m l S) (ho:T.Pairwise (·<·)) (hT:∀x,x∈T ↔ x∈Q4j m S):StS m (l+1) T:=by
 refine⟨ho,fun x=>?_⟩
 rw [hT,Q4j,bE]
 constructor
 ·rintro ⟨s,hs,hx⟩
  obtain⟨c,hc,rfl⟩:=ah.mp hx
  obtain⟨w,hw,rfl⟩:=(h.mem s).mp hs
  exact⟨w++[c],bE.mpr ⟨w,hw,ah.mpr ⟨c,hc,rfl⟩⟩,Q2f m w c⟩
 ·rintro ⟨w,hw,rfl⟩
  obtain⟨u,hu,hw⟩:=bE.mp hw
  obtain⟨c,hc,rfl⟩:=ah.mp hw
  exact⟨E1 m u,(h.mem _).mpr ⟨u,hu,rfl⟩,ah.mpr ⟨c,hc,(Q2f m u c).symm⟩⟩
theorem StS.has {m:A8}{l:Nat}{S:List Nat} (h:StS m l S):(S.filter fun s=>m.1.getD s false)=[] ↔ X1 m l=false:=by
 rw [bT]
 unfold X1
 rw [List.any_eq_false]
 constructor
 ·intro q w hw ha
  exact q (E1 m w) ((h.mem _).mpr ⟨w,hw,rfl⟩) ha
 ·intro q s hs ha
  obtain⟨w,hw,rfl⟩:=(h.mem s).mp hs
  exact q w hw ha
theorem W1y {xs:List Nat}{Q:Bool->Prop} (q:Q (!xs.isEmpty)):F8 59 true (.nw (xs.map iD)) (.nw []) Q:=by
 refine⟨_,_,rfl,rfl,?_,?_⟩
 ·have:∀l:List Nat,D.depths (l.map iD)<=0:=fun l=>by
   induction l with
   | nil=>exact ao _
   | cons a l ih=>simp only [au,D.depths,D.depth];omega
  show D.depths (xs.map iD)+1<=59
  have:=this xs;omega
 ·show Q (!D.eqs (xs.map iD) [])
  cases xs with
  | nil=>exact q
  | cons _ _=>exact q
def wbG:WS:=(C1 4 (A3 Q0i (wV 4) (D3 Q4s (A1 (A3 B9 (A3 B9 (wV 0) (wC (.int 1))) (wV 5)) A5))))
theorem forG {m:A8} (wf:D5 m) {E:F6}{o1 o2 o3:Option Sl}:∀(S bU:List Nat) (o5:Option Sl),(∀s∈S,s<m.1.length)->bU.length+4*S.length<=1000->(∀o5,E.nx [some (.dat (mD m)),o1,o2,o3,some (.own ((bU++Q4j m S).map iD)),o5]) ->
  D6 (B1 5) wbG E (S.map iD) [some (.dat (mD m)),o1,o2,o3,some (.own (bU.map iD)),o5]
 | [],bU,o5,_,_,h=>by have:=h o5;rw [Q4j,List.flatMap_nil,aX]at this;exact this
 | s::S,bU,o5,hs,ha,h=>by
  have oO:=hs s am
  rw [aB]at ha
  rw [au,D6]
  simp only [wbG,M8,F9,C8,B0,L0,C7,E4,C2]
  refine⟨_,rfl,_,rfl,S8 (i:=1) rfl ⟨_,rfl,?_⟩⟩
  refine S8 (i:=s) (d:=rD (B2.map (C6 m.2 s))) (by rw [ak,Wf.rowEq wf oO];rfl) ?_
  refine⟨_,rfl,?_⟩
  show Q0i (.bw (bU.map iD)) (.nw ((B2.map (C6 m.2 s)).map iD)) _
  rw [Z3p]
  refine⟨_,_,rfl,rfl,sz (by simp only [aq,ag,B2,aB,bc];omega),?_⟩
  rw [L7]
  have e:bU.map iD++(B2.map (C6 m.2 s)).map iD=(bU++B2.map (C6 m.2 s)).map iD:=by rw [aY]
  show D6 _ _ _ _ [_,_,_,_,some (.own (bU.map iD++(B2.map (C6 m.2 s)).map iD)),_]
  rw [e]
  refine forG wf S _ _ (fun x hx=>hs x (ai _ hx)) (by rw [aq];simp only [ag,aB,bc];omega) fun o5=>?_
  have:=h o5
  rw [Q4j,bv,<- bI]at this
  exact this
def wbH:WS:=(A7 (L1 (A3 (F8 59 true) (M6 1 [0] (V7 (wV 2)) (B1 0) (Q0v (A3 B9 (A3 B9 (wV 1) (wC (.int 0))) (wV 0))) (B5 (wV 0))) (G6 A5)) (P3 1 (B5 (wV 3))) L3) (A7 (C1 4 (G6 A5)) (A7 (K3 (Z9 (B5 (wV 2))) (B1 5) wbG) (C1 2 (B5 (Q7h (wV 4)))))))
theorem Y6x {m:A8} (wf:D5 m) (h4:m.1.length<=4) {E:F6}{l:Nat}{S found:List Nat} (hS:StS m l S) (hf:found.length<=100) {o4 o5:Option Sl} (h:∀T o4 o5,StS m (l+1) T->E.nx [some (.dat (mD m)),some (.own ((if X1 m l=true then found++[l]else found).map iD)),some (.dat (.lst (T.map iD))),some (.dat (iD l)),o4,o5]) :
  wbH E [some (.dat (mD m)),some (.own (found.map iD)),some (.dat (.lst (S.map iD))),some (.dat (iD l)),o4,o5]:=by
 have qH:=hS.len wf h4
 have tail:∀f2:List Nat,f2=(if X1 m l=true then found++[l]else found)->(A7 (C1 4 (G6 A5)) (A7 (K3 (Z9 (B5 (wV 2))) (B1 5) wbG) (C1 2 (B5 (Q7h (wV 4)))))) E [some (.dat (mD m)),some (.own (f2.map iD)),some (.dat (.lst (S.map iD))),some (.dat (iD l)),o4,o5]:=by
  rintro f2 rfl
  rw [D7,F9,s_lst,C2]
  refine⟨_,rfl,sz (by decide),?_⟩
  rw [L7]
  dsimp only
  rw [D7,S6,Q6r,E9,B0]
  refine⟨_,rfl,_,rfl,?_⟩
  refine forG wf S [] _ (fun s hs=>hS.lt wf hs) (by simp only [bc];omega) fun o5=>?_
  rw [bL]
  dsimp only
  rw [F9,E9,W8o,B0]
  refine⟨_,rfl,Q4j m S,by rw [O9];show some _=some _;rfl,fun x hx=>?_,fun T pX pW=>?_⟩
  ·obtain⟨s,hs,hx⟩:=bE.mp hx
   obtain⟨c,hc,rfl⟩:=ah.mp hx
   have:=Q3t wf (hS.lt wf hs) hc
   omega
  ·rw [Q4w,Q6]
   exact h T _ _ (hS.next pX pW)
 unfold wbH
 rw [D7,V9,C8,V1,Q2w,B0]
 refine⟨_,rfl,_,rfl,sz (by rw [ag];omega),?_⟩
 refine Q2m (p:=fun d=>match d with | .int i=>m.1.getD i.toNat false | _=>false) (f:=fun d=>d) _ none _ (fun d hd Q' q=>?_) (fun d hd Q' _ q=>?_) ?_
 ·obtain⟨x,hx,rfl⟩:=ah.mp hd
  rw [Q3u,C8,C8,B0]
  refine⟨_,rfl,?_⟩
  rw [E4,N7]
  refine S8 (i:=0) rfl ?_
  rw [B0]
  refine⟨_,rfl,S8 (i:=x) (Q7w (hS.lt wf hx)) ?_⟩
  have q:Q' (m.1.getD x false):=by simpa using q
  exact q
 ·rw [E9,B0];exact⟨_,rfl,q⟩
 rw [s_lst,C2]
 refine⟨_,rfl,sz (by decide),?_⟩
 have e:((S.map iD).filter (fun d=>match d with | .int i=>m.1.getD i.toNat false | _=>false)).map (fun d=>d)=(S.filter fun s=>m.1.getD s false).map iD:=by
  rw [gm,cM];rfl
 rw [e]
 refine W1y ?_
 cases hh:X1 m l with
 | false =>
  rw [hS.has.mpr hh]
  show(if false=true then(_:Prop)else(_:Prop))
  rw [ax (by decide),X6]
  dsimp only
  refine tail found (by rw [hh,ax (by decide)])
 | true =>
  have cy:(S.filter fun s=>m.1.getD s false)≠[]:=fun z=>by have:=hS.has.mp z;rw [hh]at this;cases this
  rw [show(S.filter fun s=>m.1.getD s false).isEmpty=false by cases q:S.filter (fun s=>m.1.getD s false)with | nil=>exact absurd q cy | cons _ _=>rfl]
  show(if true=true then(_:Prop)else(_:Prop))
  rw [aC rfl,Q1p]
  refine⟨_,rfl,?_⟩
  rw [E9,B0]
  refine⟨_,rfl,_,rfl,szl (by rw [ag];omega),?_⟩
  have:=tail (found++[l]) (by rw [hh,aC rfl])
  rw [aY]at this
  exact this
theorem forH {m:A8} (wf:D5 m) (h4:m.1.length<=4) {E:F6}:∀(n l:Nat) (S found:List Nat) (o3 o4 o5:Option Sl),n+l<=50->found.length<=l->StS m l S->(∀o2 o3 o4 o5,E.nx [some (.dat (mD m)),some (.own ((found++((List.range n).map fun i=>l+i).filter (X1 m)).map iD)),o2,o3,o4,o5]) ->
  D6 (B1 3) wbH E ((List.range n).map fun i=>iD (l+i)) [some (.dat (mD m)),some (.own (found.map iD)),some (.dat (.lst (S.map iD))),o3,o4,o5]
 | 0,l,S,found,o3,o4,o5,_,_,_,h=>by have:=h (some (.dat (.lst (S.map iD)))) o3 o4 o5;simp only [List.range_zero,cX,List.filter_nil,aX]at this;exact this
 | n+1,l,S,found,o3,o4,o5,hn,hf,hS,h=>by
  rw [cq,au,aL,D6,M8,Nat.add_zero]
  refine Y6x wf h4 hS (by omega) fun T o4 o5 hT=>?_
  have e1:(List.range n).map ((fun i=>iD (l+i)) ∘ Nat.succ)=(List.range n).map fun i=>iD (l+1+i):=bb fun i _=>by show iD (l+(i+1))=_;rw [show l+(i+1)=l+1+i by omega]
  rw [e1]
  refine forH wf h4 n (l+1) T _ _ _ _ (by omega) (by
   split
   ·rw [aq];simp only [aB,bc];omega
   ·omega) hT fun o2 o3 o4 o5=>?_
  have:=h o2 o3 o4 o5
  have e2:found++((List.range (n+1)).map fun i=>l+i).filter (X1 m)=(if X1 m l=true then found++[l]else found)++((List.range n).map fun i=>l+1+i).filter (X1 m):=by
   have e3:((List.range (n+1)).map fun i=>l+i)=l::(List.range n).map fun i=>l+1+i:=by
    rw [cq,au,aL,Nat.add_zero]
    congr 1
    exact bb fun i _=>by show l+(i+1)=_;omega
   rw [e3,c7]
   split
   ·rw [bI];rfl
   ·rfl
  rw [e2]at this
  exact this
theorem W7b:∀rs r,rs.length=1->sp_law_lengths rs r->Z6f (U6 r) (G9 Z0s rs):=by
 rintro rs r _ ⟨m,rfl,wf,h4,rfl⟩
 unfold Z6f
 rw [D7,F9,s_lst,C2]
 refine⟨_,rfl,sz (by decide),?_⟩
 rw [L7]
 dsimp only
 rw [D7,F9,E9,s_lst]
 simp only [C7,E9,E4,C2]
 refine⟨_,rfl,sz (by simp),?_⟩
 rw [Q4w,Q6,D7,S6]
 simp only [TK.Y4,C7,C8,E4,L0,B0,C2]
 refine⟨_,rfl,S8 (i:=0) rfl ?_⟩
 rw [Z3r,Z3t]
 have e:(2:Int)*(((m.1.map D.bl).length:Nat):Int)=((2*m.1.length:Nat):Int):=by rw [ag];omega
 rw [e]
 refine⟨.inl ⟨by decide,by omega⟩,_,rfl,by omega,by omega,?_⟩
 rw [b9]
 have e2:N8 0 (2*m.1.length)=(List.range (2*m.1.length)).map fun i=>iD (0+i):=by
  unfold N8;exact bb fun i _=>by show D.int _=D.int _;congr 1
 rw [e2]
 refine forH wf h4 (2*m.1.length) 0 [0] [] none none none (by omega) (ao _) ⟨by simp,fun x=>?_⟩ fun o2 o3 o4 o5=>?_
 ·rw [aI]
  constructor
  ·rintro rfl;exact⟨[],by simp [wl],rfl⟩
  ·rintro ⟨w,hw,rfl⟩;rw [wl,aI]at hw;subst hw;rfl
 ·dsimp only
  rw [Q6v]
  refine⟨_,rfl,?_⟩
  have e3:([]:List Nat)++((List.range (2*m.1.length)).map fun i=>0+i).filter (X1 m)=P6 m:=by
   unfold P6
   rw [bL]
   congr 1
   simp
  show R.nw _=R.nw _
  rw [e3]
theorem Y0a {m:A8}{l:Nat}:X1 m l=true ↔ ∃w,L4 m w/\w.length=l:=by
 unfold X1
 rw [List.any_eq_true]
 exact⟨fun⟨w,h,a⟩=>⟨w,⟨(S0.mp h).1,a⟩,(S0.mp h).2⟩,fun⟨w,a,e⟩=>⟨w,S0.mpr ⟨a.1,e⟩,a.2⟩⟩
theorem Q8w {m:A8}{l:Nat}:l∈P6 m ↔ l<2*m.1.length/\∃w,L4 m w/\w.length=l:=by
 unfold P6
 rw [ba,aM,Y0a]
noncomputable def O8 (m:A8):List Nat:=(P6 m).filter fun l=>decide (m.1.length<=l)
theorem Z9z {m:A8} (h:∀w,L4 m w->w.length<m.1.length):O8 m=[]:=by
 unfold O8
 rw [bT]
 intro l hl hd
 obtain⟨_,w,hw,rfl⟩:=Q8w.mp hl
 have:=h w hw
 have:=br hd
 omega
theorem Y9k {m:A8} (wf:D5 m) (h:Inf m):O8 m≠[]:=by
 obtain⟨w,hw,h1,h2⟩:=Y5l wf h m.1.length
 have:w.length∈O8 m:=ba.mpr ⟨Q8w.mpr ⟨by omega,w,hw,rfl⟩,be h1⟩
 intro e
 rw [e]at this
 cases this
theorem W1k (m:A8):(P6 m).Pairwise (·<·):=List.Pairwise.filter _ List.pairwise_lt_range
theorem W1d:∀{l:List Nat}{x:Nat},l.Pairwise (·<·)->x∈l->(∀y∈l,y<=x)->l.getLast?=some x:=by
 intro l x hp hx ha
 cases l with
 | nil=>cases hx
 | cons a t =>
  have hl:=List.getLast?_eq_some_getLast (l:=a::t) (by simp)
  rw [hl]
  congr 1
  have h1:(a::t).getLast (by simp)<=x:=ha _ (List.getLast_mem _)
  have h2:x<=(a::t).getLast (by simp):=by
   obtain⟨i,hi,e⟩:=kw hx
   rw [List.getLast_eq_getElem,<- e]
   rcases aW i ((a::t).length-1)with q | q
   ·exact cD (List.pairwise_iff_getElem.mp hp _ _ _ _ q)
   ·have:i=(a::t).length-1:=by omega
    subst this;exact ao _
  omega
theorem Y4k {m:A8} (wf:D5 m) {d:D} (h:W4 m d):((∀w,L4 m w->w.length<m.1.length)/\Q6f d=true/\O8 m=[]/\((P6 m=[]/\d=.int (-1))\/∃L:Nat,d=iD L/\(P6 m).getLast?=some L))\/(Inf m/\d=.non/\O8 m≠[]):=by
 rcases h with⟨e,h⟩ | ⟨L,e,h1,h2⟩ | ⟨e,h⟩
 ·have hs:∀w,L4 m w->w.length<m.1.length:=fun w hw=>absurd hw (h w)
  refine .inl ⟨hs,by rw [e];rfl,Z9z hs,.inl ⟨?_,e⟩⟩
  unfold P6
  rw [bT]
  intro l _ hh
  obtain⟨w,hw,_⟩:=Y0a.mp hh
  exact h w hw
 ·have hL:=Y0l wf h2 h1
  have hs:∀w,L4 m w->w.length<m.1.length:=fun w hw=>Nat.lt_of_le_of_lt (h2 w hw) hL
  refine .inl ⟨hs,by rw [e];rfl,Z9z hs,.inr ⟨L,e,W1d (W1k m) (Q8w.mpr ⟨by omega,h1⟩) fun y hy=>?_⟩⟩
  obtain⟨_,w,hw,rfl⟩:=Q8w.mp hy
  exact h2 w hw
 ·exact .inr ⟨h,e,Y9k wf h⟩
theorem Y4x (m:A8) (l:Nat):∀j,(C0 m (l+1+j)).filter (fun w=>decide (w.length<=l))=C0 m (l+1)
 | 0=>by
  rw [ky]
  intro w hw
  exact be (by have:=(Q0q.mp hw).2;omega)
 | j+1=>by
  rw [show l+1+(j+1)=l+1+j+1 by omega,Q5l,List.filter_append,Y4x m l j]
  rw [show((wl (l+1+j)).filter (G4 m)).filter (fun w=>decide (w.length<=l))=[]by
   rw [bT]
   intro w hw hd
   have:=(S0.mp (ba.mp hw).1).2
   have:=br hd
   omega,aX]
theorem V0p (m:A8) (l:Nat):(C0 m (l+1)).filter (fun w=>decide (w.length=l))=(wl l).filter (G4 m):=by
 rw [Q5l,List.filter_append]
 rw [show(C0 m l).filter (fun w=>decide (w.length=l))=[]by
  rw [bT]
  intro w hw hd
  have:=(Q0q.mp hw).2
  have:=br hd
  omega,bL,ky]
 intro w hw
 exact be (S0.mp (ba.mp hw).1).2
theorem Y4i {α:Type}{A B C:List α} (hA:A <+: C) (hB:B <+: C) {k:Nat} (h1:k<=A.length) (h2:k<=B.length):A.take k=B.take k:=by
 obtain⟨x,rfl⟩:=hA
 obtain⟨y,e⟩:=hB
 have:=congrArg (List.take k) e
 rw [cn h2,cn h1]at this
 exact this.symm
theorem Y9a {m:A8} (wf:D5 m) (h4:m.1.length<=4) {size:Nat} (h:(∀w,L4 m w->w.length<m.1.length)\/(Inf m/\size<=(C0 m 4).length)):(C0 m (size*m.1.length)).take size=(C0 m 4).take size:=by
 rcases h with h | ⟨h,hs⟩
 ·cases size with
  | zero=>rfl
  | succ s =>
   rw [Q5k (i:=m.1.length) (j:=(s+1)*m.1.length) (by rw [Nat.succ_mul];omega) h,Q5k (i:=m.1.length) (j:=4) h4 h]
 ·exact Y4i (Q2g m (Nat.le_max_left (size*m.1.length) 4)) (Q2g m (Nat.le_max_right _ _)) (Q9y wf h size) hs
theorem Y9b {m:A8} (wf:D5 m) {size:Nat} (h:Inf m) (hs:(C0 m 4).length<size):((C0 m (size*m.1.length)).take size).take (C0 m 4).length=C0 m 4:=by
 rw [List.take_take,Nat.min_eq_left (cD hs)]
 have:=Q9y wf h size
 rw [Y4i (Q2g m (Nat.le_max_left (size*m.1.length) 4)) (Q2g m (Nat.le_max_right _ 4)) (by omega) (ao _),List.take_length]
theorem Y9l {m:A8} (wf:D5 m) (h4:m.1.length<=4):((C0 m 4).map tD++[.non])[0]?=some (sD (Q2o m)):=by
 cases e:Q2o m with
 | none =>
  have hn:=(Z2c wf).mp e
  have:C0 m 4=[]:=by
   cases q:C0 m 4 with
   | nil=>rfl
   | cons w _=>exact absurd (Q0q.mp (by rw [q];exact am)).1 (hn w)
  rw [this];rfl
 | some t =>
  obtain⟨w,hw,rfl,ha,hl⟩:=Y8y e
  have ac:L4 m w:=⟨hw,ha⟩
  have bN:w.length<m.1.length:=by
   rcases aW w.length m.1.length with q | q
   ·exact q
   ·obtain⟨u,h1,h2,h3,_⟩:=cut wf hw ha q
    have:=hl u h1 h2
    have:=Y1j h1 hw h3
    omega
  have hm:w∈C0 m 4:=Q0q.mpr ⟨ac,by omega⟩
  have hs:(C0 m 4).Pairwise fun a b=>E2 a<E2 b:=by rw [<- Q9z m 3];exact List.Pairwise.filter _ (V1b 3)
  cases q:C0 m 4 with
  | nil=>rw [q]at hm;cases hm
  | cons v r =>
   rw [q]at hm hs
   rcases av.mp hm with rfl | jt
   ·rfl
   ·have h1:=List.rel_of_pairwise_cons hs jt
    have hv:=(Q0q.mp (show v∈C0 m 4 by rw [q];exact am)).1
    have:=hl v hv.1 hv.2
    omega
theorem Y4z {m:A8}{j:Nat}{w:List Nat} (h:w∈C0 m j):B8 w:=(Q0q.mp h).1.1
theorem Q7e (m:A8):(C0 m 4).length<=85:=by
 rw [<- Q9z m 3]
 exact aV (cw _ _) (by decide +kernel)
theorem same {r1 r2:R}{d:D}{n:Nat}{neg:Bool}{Q:Bool->Prop} (h1:r1.d=some d) (h2:r2.d=some d) (hd:d.depth<=n) (q:Q (!neg)):F8 n neg r1 r2 Q:=by
 refine⟨d,d,h1,h2,hd,?_⟩
 rw [D.eq_refl]
 cases neg <;> exact q
theorem flat {α:Type}{f:α->D} (h:∀x,(f x).depth=0):∀l:List α,D.depths (l.map f)=0
 | []=>rfl
 | a::l=>by rw [au,D.depths,h,flat h l];rfl
theorem Q8j {α:Type}{f:α->D} (h:∀x,(f x).depth=0) (l:List α) {n:Nat} (hn:1<=n):D.depth (.lst (l.map f))<=n:=by
 show D.depths (l.map f)+1<=n
 rw [flat h];exact hn
theorem Q8o {α:Type}{f:α->D} (h:∀x,(f x).depth=0) (l:List α) {n:Nat} (hn:1<=n) {neg:Bool}{Q:Bool->Prop} (q:Q (if neg=true then !l.isEmpty else l.isEmpty)):F8 n neg (.bw (l.map f)) (.nw []) Q:=by
 refine⟨_,_,rfl,rfl,Q8j h l hn,?_⟩
 cases l <;> exact q
theorem tD0 (w:List Nat):(tD w).depth=0:=rfl
theorem iD0 (i:Nat):(iD i).depth=0:=rfl
theorem Y7z {ws:List (List Nat)} (hw:∀w∈ws,B8 w/\w.length<=100) {f:Int->Int->Bool}{g:Nat->Nat->Bool} (hf:∀a b:Nat,f a b=g a b) {l:Nat}{o:Option Sl}{Q:List D->Prop} (q:Q ((ws.filter fun w=>g w.length l).map tD)) :
  M2 (B1 0) (A3 (J3 f) (D3 D9 (A1 (wV 0) A5)) (wV 1)) (B5 (wV 0)) (ws.map tD) [o,some (.dat (iD l))] Q:=by
 refine Q2m (p:=fun d=>match d with | .str x=>g x.length l | _=>false) (f:=fun d=>d) _ o _ (fun d hd Q' q=>?_) (fun d hd Q' _ q=>?_) ?_
 ·obtain⟨w,hm,rfl⟩:=ah.mp hd
  obtain⟨h1,h2⟩:=hw w hm
  simp only [C8,L0,C7,B0,C2]
  refine⟨_,rfl,?_⟩
  show D9 [.st (.str (G1 w))] _
  rw [Z3s]
  refine⟨sz (by rw [Q5i h1];omega),_,rfl,?_⟩
  show J3 f (.st (.int _)) (.st (.int (l:Int))) _
  rw [U4,hf]
  exact q
 ·rw [E9,B0];exact⟨_,rfl,q⟩
 ·rw [gm,cM]
  have e:ws.filter ((fun d:D=>match d with | .str x=>g x.length l | _=>false) ∘ tD)=ws.filter fun w=>g w.length l:=cx fun w hm=>by
   show g (G1 w).length l=_
   rw [Q5i (hw w hm).1]
  rw [e];exact q
theorem Y8a {ws:List (List Nat)} (hw:∀w∈ws,B8 w/\w.length<=100) {l:Nat}{o:Option Sl}{Q:List D->Prop} (q:Q ((ws.filter fun w=>decide (w.length=l)).map tD)) :
  M2 (B1 0) (A3 (F8 60 false) (D3 D9 (A1 (wV 0) A5)) (wV 1)) (B5 (wV 0)) (ws.map tD) [o,some (.dat (iD l))] Q:=by
 refine Q2m (p:=fun d=>match d with | .str x=>decide (x.length=l) | _=>false) (f:=fun d=>d) _ o _ (fun d hd Q' q=>?_) (fun d hd Q' _ q=>?_) ?_
 ·obtain⟨w,hm,rfl⟩:=ah.mp hd
  obtain⟨h1,h2⟩:=hw w hm
  simp only [C8,L0,C7,B0,C2]
  refine⟨_,rfl,?_⟩
  show D9 [.st (.str (G1 w))] _
  rw [Z3s]
  refine⟨sz (by rw [Q5i h1];omega),_,rfl,?_⟩
  exact eqI q
 ·rw [E9,B0];exact⟨_,rfl,q⟩
 ·rw [gm,cM]
  have e:ws.filter ((fun d:D=>match d with | .str x=>decide (x.length=l) | _=>false) ∘ tD)=ws.filter fun w=>decide (w.length=l):=cx fun w hm=>by
   show decide ((G1 w).length=l)=_
   rw [Q5i (hw w hm).1]
  rw [e];exact q
def wbL:WS:=(A7 (C1 4 (M6 1 [3] (V7 (wV 2)) (B1 0) (A3 (J3 fun i j=>decide (i<=j)) (D3 D9 (A1 (wV 0) A5)) (wV 1)) (B5 (wV 0)))) (A7 (L1 (A3 (F8 59 true) (M4 Q3c (A1 (wV 1) (A1 (wV 3) A5))) (wV 4)) (I0 (wC (.bl false))) L3) (L1 (A3 neD (M4 Q2z (A1 (wV 1) (A1 (wV 3) A5))) (D3 D9 (A1 (M6 1 [3] (V7 (wV 4)) (B1 0) (A3 (F8 60 false) (D3 D9 (A1 (wV 0) A5)) (wV 1)) (B5 (wV 0))) A5))) (I0 (wC (.bl false))) L3)))
theorem Y4y {m:A8}{j:Nat} (hj:j<=4):∀w∈C0 m j,B8 w/\w.length<=100:=fun w hw=>⟨Y4z hw,by have:=(Q0q.mp hw).2;omega⟩
theorem V0q (m:A8) {j:Nat} (hj:j<=4):(C0 m j).length<=85:=aV (Q2g m hj).length_le (Q7e m)
theorem forL {m:A8} (wf:D5 m) (h4:m.1.length<=4) {E:F6}{o0 o5 o6 o7 o8 o9:Option Sl}:∀(ls:List Nat) (o3 o4:Option Sl),(∀l∈ls,l<4)->(∀o3 o4,E.nx [o0,some (.dat (mD m)),some (.own ((C0 m 4).map tD)),o3,o4,o5,o6,o7,o8,o9]) ->
  D6 (B1 3) wbL E (ls.map iD) [o0,some (.dat (mD m)),some (.own ((C0 m 4).map tD)),o3,o4,o5,o6,o7,o8,o9]
 | [],o3,o4,_,h=>h o3 o4
 | l::ls,o3,o4,hl,h=>by
  have p9:=hl l am
  rw [au,D6]
  unfold wbL
  rw [M8,D7,F9,V1,Q2w,B0]
  refine⟨_,rfl,_,rfl,sz (by rw [ag];have:=Q7e m;omega),?_⟩
  refine Y7z (g:=fun a b=>decide (a<=b)) (Y4y (by decide)) (fun a b=>by simp) ?_
  rw [show 4=l+1+(3-l)by omega,Y4x,<- show 4=l+1+(3-l)by omega,L7]
  dsimp only
  rw [D7,V9]
  simp only [C8,V0,C7,B0,C2]
  refine⟨_,rfl,_,rfl,rfl,m,l,rfl,wf,by omega,by omega,_,rfl,?_⟩
  refine same rfl rfl (Q8j tD0 _ (by decide)) ?_
  show(if false=true then(_:Prop)else(_:Prop))
  rw [ax (by decide),X6]
  dsimp only
  rw [V9]
  simp only [C8,V0,C7,B0,C2,L0,V1,Q2w]
  refine⟨_,rfl,_,rfl,rfl,m,l,rfl,wf,by omega,by omega,_,rfl,_,rfl,sz (by rw [ag];have:=V0q m (j:=l+1) (by omega);omega),?_⟩
  refine Y8a (Y4y (by omega)) ?_
  rw [V0p,W3k,ag]
  refine⟨_,_,rfl,rfl,rfl,?_⟩
  rw [D.eq_refl]
  show(if false=true then(_:Prop)else(_:Prop))
  rw [ax (by decide),X6]
  exact forL wf h4 ls _ _ (fun x hx=>hl x (ai _ hx)) h
noncomputable def Q6z:J9:=fun rs Pr=>∃ns:List Int,rs=[.st (scr ns)]/\ns.length<=63/\Pr (.st (.bl true))
def Z5n:WS:=(A7 (L1 (wOr (A3 (F8 60 false) (wV 6) (G6 A5)) (A3 (J3 fun i j=>decide (j<=i)) (D3 D9 (A1 (wV 2) A5)) (wV 9))) (I0 (wB (A3 (F8 60 false) (M4 Q0f (A1 (wV 1) (A1 (wV 9) A5))) (wSl (wV 2) Y7 (Y8 (wV 9)))))) L3) (I0 (wB (A3 (F8 60 false) (wSl (M4 Q0f (A1 (wV 1) (A1 (wV 9) A5))) Y7 (Y8 (D3 D9 (A1 (wV 2) A5)))) (wV 2)))))
theorem W1e {m:A8} (wf:D5 m) (h4:m.1.length<=4) {d:D} (hd:W4 m d) {size:Nat} (hs:size<6) {Pr:R->Prop} (h:Pr (.st (.bl true))) {o0 o3 o4 o5 o7 o8:Option Sl} :
  Z5n (P4 Pr) [o0,some (.dat (mD m)),some (.own ((C0 m 4).map tD)),o3,o4,o5,some (.own ((O8 m).map iD)),o7,o8,some (.dat (iD size))]:=by
 have hu:=Q7e m
 have yes:((∀w,L4 m w->w.length<m.1.length)\/(Inf m/\size<=(C0 m 4).length))->(I0 (wB (A3 (F8 60 false) (M4 Q0f (A1 (wV 1) (A1 (wV 9) A5))) (wSl (wV 2) Y7 (Y8 (wV 9)))))) { P4 Pr with nx:=(I0 (wB (A3 (F8 60 false) (wSl (M4 Q0f (A1 (wV 1) (A1 (wV 9) A5))) Y7 (Y8 (D3 D9 (A1 (wV 2) A5)))) (wV 2)))) (P4 Pr) } [o0,some (.dat (mD m)),some (.own ((C0 m 4).map tD)),o3,o4,o5,some (.own ((O8 m).map iD)),o7,o8,some (.dat (iD size))]:=by
  intro q
  simp only [R1,s_b,C8,V0,C7,B0,C2,Q6w,Q6t,Q6u]
  refine⟨_,rfl,_,rfl,rfl,m,size,rfl,wf,by omega,by omega,_,rfl,_,rfl,?_⟩
  show Q1h (.st (.int (size:Int))) _
  rw [Q0t,O9,Q8z,Q8c,Y9a wf h4 q,<- List.map_take]
  exact same rfl rfl (Q8j tD0 _ (by decide)) h
 unfold Z5n
 rw [D7,V9]
 simp only [Z4r,C8,B0,s_lst,C2]
 refine⟨_,rfl,_,rfl,sz (by decide),?_⟩
 refine Q8o iD0 _ (by decide) ?_
 show(if (O8 m).isEmpty=true then(_:Prop)else(_:Prop))
 rcases Y4k wf hd with⟨h1,_,h2,_⟩ | ⟨h1,_,h2⟩
 ·rw [aC (show(O8 m).isEmpty=true by rw [h2];rfl),aC trivial]
  exact yes (.inl h1)
 ·rw [show(O8 m).isEmpty=false by cases q:O8 m with | nil=>exact absurd q h2 | cons _ _=>rfl]
  rw [ax (by decide)]
  simp only [L0,C7,B0,C2]
  refine⟨_,rfl,?_⟩
  rw [O9,V8,ag]
  refine⟨_,rfl,?_⟩
  show J3 _ (.st (.int _)) (.st (.int (size:Int))) _
  rw [U4]
  by_cases hz:size<=(C0 m 4).length
  ·rw [aC (be (by omega))]
   exact yes (.inr ⟨h1,hz⟩)
  ·rw [ax (by simpa using hz),X6]
   dsimp only
   simp only [R1,s_b,C8,V0,C7,B0,C2,Q6w,Q6t,Q6u,L0]
   refine⟨_,rfl,_,rfl,rfl,m,size,rfl,wf,by omega,by omega,_,rfl,?_⟩
   rw [O9,V8,ag,Q0t]
   show slD (.nw _) _ _ _
   rw [show ∀(ds:List D) (lo hi:Option Int) (Q:R->Prop),slD (.nw ds) lo hi Q=Q (.nw (Y3 ds lo hi))from fun _ _ _ _=>rfl,Q8c,<- List.map_take,Y9b wf h1 (by omega)]
   refine⟨_,rfl,?_⟩
   exact same rfl rfl (Q8j tD0 _ (by decide)) h
theorem W1c {xs:List Nat}{L:Nat} (h:xs.getLast?=some L):K7 (xs.map iD) (-1)=some (iD L):=by
 unfold K7 ixN
 rw [ax (by decide)]
 have hp:0<xs.length:=by cases xs with | nil=>cases h | cons _ _=>simp
 rw [ag,aC (by omega)]
 show(xs.map iD)[((-1:Int)+(xs.length:Int)).toNat]?=_
 rw [show((-1:Int)+(xs.length:Int)).toNat=xs.length-1 by omega,ak,<- List.getLast?_eq_getElem?,h];rfl
def wMid:WS:=(A7 (C1 8 (M4 Q3a (A1 (wV 1) A5))) (A7 (L1 (wOr (A3 (F8 59 true) (M4 Q3b (A1 (wV 1) A5)) (wV 7)) (wOr (Z0g (Q0v (Z0e "bool" (wV 8)))) (A3 (F8 59 true) (wV 8) (wB (A3 (F8 60 false) (wV 6) (G6 A5)))))) (I0 (wC (.bl false))) L3) (A7 (L1 (A3 (F8 59 true) (M4 sp_least_text (A1 (wV 1) A5)) (A3 B9 (A3 Q0i (wV 2) (G6 (A1 (B5 (wC .non)) A5))) (wC (.int 0)))) (I0 (wC (.bl false))) L3) (A7 (C1 9 (L8 Q2y (A1 (wV 0) (A1 (wC (.int 60)) (A1 (wC (.int 6)) A5))))) Z5n))))
noncomputable def Q0r (m:A8):D:=if O8 m=[]then(match (P6 m).getLast? with | some L=>iD L | none=>.non)else .non
theorem Y1e {m:A8} (wf:D5 m) {d:D} (h:W4 m d):(if d=.int (-1)then .non else d)=Q0r m/\Q6f d=(O8 m).isEmpty:=by
 unfold Q0r
 rcases Y4k wf h with⟨_,h1,h2,h3⟩ | ⟨_,e,h2⟩
 ·rw [aC h2,h1,h2]
  refine⟨?_,rfl⟩
  rcases h3 with⟨e1,e2⟩ | ⟨L,e1,e2⟩
  ·rw [e1,e2,aC rfl];rfl
  ·rw [e1,e2,ax (by intro z;have:=D.int.inj z;omega)]
 ·rw [ax h2,e,ax (by intro z;cases z)]
  refine⟨rfl,?_⟩
  cases q:O8 m with
  | nil=>exact absurd q h2
  | cons _ _=>rfl
theorem W2s (m:A8):(Q0r m).depth=0:=by
 unfold Q0r
 split
 ·split <;> rfl
 ·rfl
theorem Z2y {ns:List Int} (hn:ns.length<=63) {m:A8} (wf:D5 m) (h4:m.1.length<=4) {Pr:R->Prop} (h:Pr (.st (.bl true))) {o3 o4 o5 o8 o9:Option Sl} :
  wMid (P4 Pr) [some (.dat (scr ns)),some (.dat (mD m)),some (.own ((C0 m 4).map tD)),o3,o4,o5,some (.own ((O8 m).map iD)),some (.dat (Q0r m)),o8,o9]:=by
 have hu:=Q7e m
 unfold wMid
 rw [D7,F9]
 simp only [V0,C7,B0,C2]
 refine⟨_,rfl,rfl,m,rfl,wf,by omega,fun d hd=>?_⟩
 obtain⟨_,e2⟩:=Y1e wf hd
 show T3 (.st (.bl (Q6f d))) _
 rw [Q6,D7,V9,e2]
 simp only [Z4r,C8,V0,C7,B0,C2,W8j,Q3u,W8c,s_b,s_lst]
 refine⟨_,rfl,rfl,m,rfl,wf,by omega,fun d2 fC=>⟨_,rfl,?_⟩⟩
 obtain⟨e1,_⟩:=Y1e wf fC
 rw [e1]
 refine same rfl rfl (by rw [W2s];decide) ?_
 show(if false=true then(_:Prop)else(_:Prop))
 rw [ax (by decide)]
 refine⟨_,rfl,_,rfl,?_⟩
 rw [Z3u]
 show(if false=true then(_:Prop)else(_:Prop))
 rw [ax (by decide)]
 refine⟨_,rfl,_,rfl,_,rfl,sz (by decide),?_⟩
 refine Q8o iD0 _ (by decide) ?_
 show F8 59 true (.st (.bl (O8 m).isEmpty)) (.st (.bl (O8 m).isEmpty)) _
 refine same rfl rfl (bi _) ?_
 show(if false=true then(_:Prop)else(_:Prop))
 rw [ax (by decide),X6]
 dsimp only
 rw [D7,V9]
 simp only [C8,V0,C7,B0,C2,s_lst,E9,E4]
 refine⟨_,rfl,rfl,m,rfl,wf,by omega,_,rfl,_,rfl,sz (by simp),?_⟩
 show Q0i (.bw ((C0 m 4).map tD)) (.nw [.non]) _
 rw [Z3p]
 refine⟨_,_,rfl,rfl,sz (by simp;omega),?_⟩
 rw [W3h]
 refine⟨sD (Q2o m),?_,?_⟩
 ·have:=Y9l wf h4
  unfold K7 ixN
  rw [aC (by decide),aC (by rw [aq];simp only [aB,bc];omega)]
  exact this
 refine same rfl rfl (by cases Q2o m <;> exact bi _) ?_
 show(if false=true then(_:Prop)else(_:Prop))
 rw [ax (by decide),X6]
 dsimp only
 rw [D7,F9]
 simp only [U5,C7,B0,E4,C2]
 refine⟨_,rfl,rfl,_,⟨ns,60,6,rfl,hn,by decide,rfl⟩,?_⟩
 rw [show X0 ns 60 6=(drN ns 60 6:Int)from Q8e ns 60 (m:=6) (by decide),Q6]
 exact W1e wf h4 hd (Q8f ns 60 (m:=6) (by decide)) h
theorem W7a:∀rs Pr,rs.length=1->Q6z rs Pr->Z6c Q9j Q9l Q9i Q3c Q2z sp_law_lengths Q3a Q3b sp_least_text Q2y Q0f (P4 Pr) (G9 Q1w rs):=by
 rintro rs Pr _ ⟨ns,rfl,hn,h⟩
 have wf:D5 (Q0b ns 0 4):=W2b ns 0 (by decide)
 have h4:=W2a ns 0 (most:=4) (by decide)
 unfold Z6c
 rw [D7,F9]
 simp only [U5,C7,B0,E4,C2]
 refine⟨_,rfl,rfl,_,⟨ns,0,4,rfl,hn,by decide,by decide,rfl⟩,?_⟩
 rw [Q6]
 generalize Q0b ns 0 4=m at wf h4 ⊢
 have hu:=Q7e m
 rw [D7,F9,V1,Q2w]
 simp only [U5,C7,E4,C2]
 refine⟨rfl,_,⟨3,rfl,by decide,rfl⟩,_,rfl,sz (by decide +kernel),?_⟩
 refine Q2m (p:=fun d=>match d with | .str x=>decide (x∈(C0 m 4).map G1) | _=>false) (f:=fun d=>d) _ none _ (fun d hd Q' q=>?_) (fun d hd Q' _ q=>?_) ?_
 ·obtain⟨w,hm,rfl⟩:=ah.mp hd
  have hw:=Z3m.mp hm
  rw [Q3u,U5]
  simp only [C7,B0,C2]
  refine⟨_,rfl,_,rfl,rfl,_,⟨m,w,rfl,wf,hw.1,rfl⟩,?_⟩
  rw [Z3u]
  have e:decide (G1 w∈(C0 m 4).map G1)=G4 m w:=by
   cases ha:G4 m w with
   | true=>exact be (ah.mpr ⟨w,Q0q.mpr ⟨⟨hw.1,ha⟩,by omega⟩,rfl⟩)
   | false =>
    refine bg fun z=>?_
    obtain⟨u,hu,e⟩:=ah.mp z
    rw [Y4n (Y4z hu) hw.1 e]at hu
    have:=(Q0q.mp hu).1.2
    rw [ha]at this;cases this
  have q:Q' (decide (G1 w∈(C0 m 4).map G1)):=q
  rw [e]at q
  exact q
 ·rw [E9,B0];exact⟨_,rfl,q⟩
 have e:(((Q1t 3).map tD).filter (fun d=>match d with | .str x=>decide (x∈(C0 m 4).map G1) | _=>false)).map (fun d=>d)=(C0 m 4).map tD:=by
  rw [gm,cM,<- Q9z m 3]
  congr 1
  refine cx fun w hm=>?_
  have hw:=Z3m.mp hm
  show decide (G1 w∈((Q1t 3).filter (G4 m)).map G1)=_
  cases ha:G4 m w with
  | true=>exact be (ah.mpr ⟨w,ba.mpr ⟨hm,ha⟩,rfl⟩)
  | false =>
   refine bg fun z=>?_
   obtain⟨u,hu,e⟩:=ah.mp z
   obtain⟨hu1,mE⟩:=ba.mp hu
   rw [Y4n (Z3m.mp hu1).1 hw.1 e,ha]at mE
   cases mE
 rw [e,L7]
 rw [D7,S6]
 simp only [TK.Y4,C7,E4,C2]
 refine⟨_,rfl,by decide,by decide,?_⟩
 refine forL wf h4 [0,1,2,3] none none (by decide) fun o3 o4=>?_
 dsimp only
 rw [D7,F9]
 simp only [U5,C7,B0,C2]
 refine⟨_,rfl,rfl,_,⟨m,rfl,wf,h4,rfl⟩,?_⟩
 rw [L7]
 rw [D7,F9,V1,Q2w,B0]
 have p9:(P6 m).length<=8:=by
  have:=cw (X1 m) (List.range (2*m.1.length))
  rw [b8]at this
  unfold P6;omega
 refine⟨_,rfl,_,rfl,sz (by rw [ag];omega),?_⟩
 refine Q2m (p:=fun d=>match d with | .int i=>decide ((m.1.length:Int)<=i) | _=>false) (f:=fun d=>d) _ none _ (fun d hd Q' q=>?_) (fun d hd Q' _ q=>?_) ?_
 ·obtain⟨x,hx,rfl⟩:=ah.mp hd
  simp only [C8,L0,C7,B0,E4,C2]
  refine⟨_,rfl,_,rfl,S8 (i:=0) rfl ?_⟩
  rw [Z3r,ag]
  exact q
 ·rw [E9,B0];exact⟨_,rfl,q⟩
 have e:(((P6 m).map iD).filter (fun d=>match d with | .int i=>decide ((m.1.length:Int)<=i) | _=>false)).map (fun d=>d)=(O8 m).map iD:=by
  rw [gm,cM]
  congr 1
  refine cx fun l _=>?_
  show decide ((m.1.length:Int)<=(l:Int))=decide (m.1.length<=l)
  by_cases z:m.1.length<=l
  ·rw [be z,be (by omega)]
  ·rw [bg z,bg (by omega)]
 rw [e,L7]
 dsimp only
 rw [D7,F9,E4,Q6]
 dsimp only
 rw [D7,V9,Z4l]
 simp only [C8,B0,s_lst,C2]
 refine⟨_,rfl,_,rfl,sz (by decide),?_⟩
 refine Q8o iD0 _ (by decide) ?_
 show(if (O8 m).isEmpty=true then(_:Prop)else(_:Prop))
 by_cases hg:O8 m=[]
 ·rw [show(O8 m).isEmpty=true by rw [hg];rfl,aC rfl]
  refine⟨_,rfl,_,rfl,sz (by decide),?_⟩
  refine Q8o iD0 _ (by decide) ?_
  show(if (!(P6 m).isEmpty)=true then(_:Prop)else(_:Prop))
  cases hl:(P6 m).getLast? with
  | none =>
   have e0:=List.getLast?_eq_none_iff.mp hl
   rw [show(!(P6 m).isEmpty)=false by rw [e0];rfl,ax (by decide),X6]
   have em:Q0r m=.non:=by unfold Q0r;rw [aC hg,hl]
   have:=Z2y hn wf h4 h (o3:=o3) (o4:=o4) (o5:=some (.own ((P6 m).map iD))) (o8:=none) (o9:=none)
   rw [em]at this
   exact this
  | some L =>
   have e0:P6 m≠[]:=fun z=>by rw [z]at hl;cases hl
   rw [show(!(P6 m).isEmpty)=true by cases q:P6 m with | nil=>exact absurd q e0 | cons _ _=>rfl,aC rfl]
   have em:Q0r m=iD L:=by unfold Q0r;rw [aC hg,hl]
   rw [F9]
   simp only [C8,B0,Q2x,E4]
   refine⟨_,rfl,?_⟩
   rw [Q0t,O9,Q1l]
   refine⟨_,W1c hl,?_⟩
   rw [Q6]
   have:=Z2y hn wf h4 h (o3:=o3) (o4:=o4) (o5:=some (.own ((P6 m).map iD))) (o8:=none) (o9:=none)
   rw [em]at this
   exact this
 ·rw [show(O8 m).isEmpty=false by cases q:O8 m with | nil=>exact absurd q hg | cons _ _=>rfl,ax (by decide)]
  show(if false=true then(_:Prop)else(_:Prop))
  rw [ax (by decide),X6]
  have em:Q0r m=.non:=by unfold Q0r;rw [ax hg]
  have:=Z2y hn wf h4 h (o3:=o3) (o4:=o4) (o5:=some (.own ((P6 m).map iD))) (o8:=none) (o9:=none)
  rw [em]at this
  exact this
local macro_rules | `(tactic| trivial)=>`(tactic| first | exact Or.inl rfl | exact Or.inr rfl)
def top (i:Nat):Stmt:=PySem.Challenge.pw_textkinds_k14_texts.main.body.getD i (.Pass ⟨0,0,0,0⟩)
structure Txt (K:Fg9) (mg:Str->Option Value) (w:World):Prop where
 m_bool:mg "bool"=none
 m_enumerate:mg "enumerate"=none
 m_isinstance:mg "isinstance"=none
 m_len:mg "len"=none
 m_list:mg "list"=none
 m_max:mg "max"=none
 m_min:mg "min"=none
 m_range:mg "range"=none
 m_reversed:mg "reversed"=none
 m_set:mg "set"=none
 m_sorted:mg "sorted"=none
 m_sum:mg "sum"=none
 m_tuple:mg "tuple"=none
 m_zip:mg "zip"=none
 c_SIGNS:∃t,mg "SIGNS"=some (.str "01ab" t)
theorem Y7b:bootBuiltins "bool"=some (.type "bool"):=by decide +kernel
theorem Q4e:bootBuiltins "enumerate"=some (.type "enumerate"):=by decide +kernel
theorem Y7c:bootBuiltins "isinstance"=some (.builtin "isinstance"):=by decide +kernel
theorem Z8g:bootBuiltins "list"=some (.type "list"):=by decide +kernel
theorem Z1m:bootBuiltins "max"=some (.builtin "max"):=by decide +kernel
theorem Y7d:bootBuiltins "min"=some (.builtin "min"):=by decide +kernel
theorem Y7e:bootBuiltins "reversed"=some (.type "reversed"):=by decide +kernel
theorem Y7f:bootBuiltins "set"=some (.type "set"):=by decide +kernel
theorem Y7g:bootBuiltins "sorted"=some (.builtin "sorted"):=by decide +kernel
theorem Y7h:bootBuiltins "sum"=some (.builtin "sum"):=by decide +kernel
abbrev Z5d:Stmt:=top 2
abbrev Z4t:Stmt:=top 3
abbrev Q9n:Stmt:=top 4
abbrev Q5f:Stmt:=top 5
abbrev Q9q:Stmt:=top 11
abbrev Q5g:Stmt:=top 7
abbrev Q7a:Stmt:=top 8
abbrev Z4w:Stmt:=top 9
abbrev Z5b:Stmt:=top 10
abbrev Q9r:Stmt:=top 12
abbrev Q9s:Stmt:=top 13
abbrev Z4v:Stmt:=top 14
abbrev Q9t:Stmt:=top 15
abbrev Z5c:Stmt:=top 16
abbrev Z4u:Stmt:=top 17
abbrev Z4y:Stmt:=top 19
abbrev Z4z:Stmt:=top 20
abbrev Q9p:Stmt:=top 22
abbrev Q7b:Stmt:=top 23
abbrev Z5a:Stmt:=top 24
abbrev Z4x:Stmt:=top 25
abbrev Q9o:Stmt:=top 26
abbrev Q1q:Stmt:=top 27
structure Env (P:Program) (w:World) (K:Fg9) (mg:Str->Option Value) (base:Heap) (ts:List Addr) (ad:Nat->Addr) (fn:Nat->FuncData):Prop where
 T:Txt K mg w
 hBM:Q0w mg base
 D_walked:Df K mg "walked" Z5d ["start","step"] (ad 0) (fn 0)
 D_first_text:Df K mg "first_text" Z4t ["start","step","is_end"] (ad 1) (fn 1)
 D_all_reached:Df K mg "all_reached" Q9n ["some","onward"] (ad 2) (fn 2)
 D_distances:Df K mg "distances" Q5f ["ends","rows","wanted"] (ad 3) (fn 3)
 D_least_text:Df K mg "least_text" Q9q ["machine"] (ad 4) (fn 4)
 D_onward_goals:Df K mg "onward_goals" Q5g ["machine"] (ad 5) (fn 5)
 D_last_length:Df K mg "last_length" Q7a ["machine"] (ad 6) (fn 6)
 D_is_finite:Df K mg "is_finite" Z4w ["machine"] (ad 7) (fn 7)
 D_longest:Df K mg "longest" Z5b ["machine"] (ad 8) (fn 8)
 D_no_signs:Df K mg "no_signs" Q9r ["machine"] (ad 9) (fn 9)
 D_one_more_sign:Df K mg "one_more_sign" Q9s ["machine","counts"] (ad 10) (fn 10)
 D_how_many:Df K mg "how_many" Z4v ["machine","long"] (ad 11) (fn 11)
 D_texts_of_length:Df K mg "texts_of_length" Q9t ["machine","tables","size"] (ad 12) (fn 12)
 D_texts_up_to:Df K mg "texts_up_to" Z5c ["machine","long"] (ad 13) (fn 13)
 D_first_texts:Df K mg "first_texts" Z4u ["machine","size"] (ad 14) (fn 14)
 D_law_cell:Df K mg "_law_cell" Z4y ["_law_script","_law_k"] (ad 15) (fn 15)
 D_law_drawn:Df K mg "_law_drawn" Z4z ["_law_script","_law_k","_law_many"] (ad 16) (fn 16)
 D_law_texts:Df K mg "_law_texts" Q9p ["_law_long"] (ad 17) (fn 17)
 D_law_machine:Df K mg "_law_machine" Q7b ["_law_script","_law_at","_law_most"] (ad 18) (fn 18)
 D_law_state:Df K mg "_law_state" Z5a ["_law_machine_told","_law_state_here","_law_text_here"] (ad 19) (fn 19)
 D_law_accepts:Df K mg "_law_accepts" Z4x ["_law_machine_told","_law_text_here"] (ad 20) (fn 20)
 D_law_lengths:Df K mg "_law_lengths" Q9o ["_law_told"] (ad 21) (fn 21)
 D_law:Df K mg "law" Q1q ["_law_script"] (ad 22) (fn 22)
 C_least_text:∃c Pt,Q3l K "least_text" "least_text" Q9q (ad 4) (fn 4) c Pt/\Pt∈ts
 C_onward_goals:∃c Pt,Q3l K "onward_goals" "onward_goals" Q5g (ad 5) (fn 5) c Pt/\Pt∈ts
section
variable {P:Program}{w:World}{K:Fg9}{mg:Str->Option Value}{base:Heap}{ts:List Addr}{ad:Nat->Addr}{fn:Nat->FuncData} (Z:Env P w K mg base ts ad fn)
include Z
omit Z in
theorem Y3t:K5 MC.Y6l ["start","step"] (C5 Z5d):=P7 (by decide +kernel)
theorem Y6i:FnD P w K mg base 3 (ad 0) (fn 0) ["start","step"] (Q5e (FnC P w K mg base 2)):=by
 have nd:=Y3t.nd
 refine Z.D_walked.ok Y3t (ws:=MC.Z6q (FnC P w K mg base 2) ) (fun cdv A outer s H E hr=>?_) MC.W7m
 exact(A4.cons (DS.sv 2 (DE.lst (DA.one (DE.fz (DE.v 0)))) nd) (A4.cons (DS.knew1 (i:=3) (DE.v 0) DE.int nd rfl (by trivial)) (A4.cons (DS.sv 4 (DE.lst DA.nil) nd) (A4.cons (DS.fzO 2 (DS.whl aR (DT.cmp Q8b W9 (DE.len Z.T.m_len (DE.v 4)) (DE.len Z.T.m_len (DE.v 2)) (G3 _)) (A4.cons (DS.sv 5 (DE.ix (DE.v 2) (DE.len Z.T.m_len (DE.v 4)) (fun _ _=>rfl)) nd) (A4.cons (DS.sv 6 (DE.lst DA.nil) nd) (A4.cons (DS.for aR rfl (DI.rng1 rfl Z.T.m_range (DA.one (DE.len Z.T.m_len (DE.gstr rfl Z.T.c_SIGNS)))) (DG.nm (i:=7) nd rfl (by trivial)) (A4.cons (DS.sv 8 (DE.callC (k:=2) (hr.mono (by decide)) (pv 1) (DA.cons (DE.v 5) (DA.one (DE.v 7)))) nd) (A4.cons (DS.ife (DT.knotin (E7.hu1 hr) (DE.v 8) (pv 3)) (A4.cons (DS.kput (E7.hu1 hr) (pv 3) (DE.v 8) (DE.len Z.T.m_len (DE.v 2))) (A4.one (DS.append (pv 2) (DE.fz (DE.v 8))))) A4.nil) (A4.one (DS.append (pv 6) (DE.fz (DE.kget (E7.hu1 hr) (pv 3) (DE.v 8) (fun _ _=>rfl)))))))) (A4.one (DS.append (pv 4) (DE.fz (DE.tpl Z.T.m_tuple (DE.v 6)))))))))) (A4.one (DS.ret (DE.tup (DA.cons (DE.fz (DE.v 2)) (DA.one (DE.fz (DE.tpl Z.T.m_tuple (DE.v 4))))))))))))
omit Z in
theorem Y2z:K5 MC.Y6j ["start","step","is_end"] (C5 Z4t):=P7 (by decide +kernel)
theorem Y5x:FnD P w K mg base 3 (ad 1) (fn 1) ["start","step","is_end"] (Q5d (FnC P w K mg base 2)):=by
 have nd:=Y2z.nd
 refine Z.D_first_text.ok Y2z (ws:=MC.Z5x (FnC P w K mg base 2) ) (fun cdv A outer s H E hr=>?_) MC.W6v
 exact(A4.cons (DS.sv 3 (DE.lst (DA.one (DE.fz (DE.v 0)))) nd) (A4.cons (DS.knew1 (i:=4) (DE.v 0) DE.str nd rfl (by trivial)) (A4.cons (DS.sv 5 DE.int nd) (A4.cons (DS.whl aR (DT.cmp Q8b W9 (DE.v 5) (DE.len Z.T.m_len (DE.v 3)) (G3 _)) (A4.cons (DS.sv 6 (DE.ix (DE.v 3) (DE.v 5) (fun _ _=>rfl)) nd) (A4.cons (DS.ife (DT.tru (DE.callC (k:=2) (hr.mono (by decide)) (pv 2) (DA.one (DE.v 6))) (fun _=>rfl)) (A4.one (DS.ret (DE.kget (E7.hu1 hr) (pv 4) (DE.v 6) (fun _ _=>rfl)))) A4.nil) (A4.cons (DS.for aR rfl (DI.enumX rfl Z.T.m_enumerate Q4e (DA.one (DE.gstr rfl Z.T.c_SIGNS))) (DG.tp (n:=2) rfl (G7.cons (DG.nm (i:=7) nd rfl (by trivial)) (G7.cons (DG.nm (i:=8) nd rfl (by trivial)) G7.nil))) (A4.cons (DS.sv 9 (DE.callC (k:=2) (hr.mono (by decide)) (pv 1) (DA.cons (DE.v 6) (DA.one (DE.v 7)))) nd) (A4.one (DS.ife (DT.knotin (E7.hu1 hr) (DE.v 9) (pv 4)) (A4.cons (DS.kput (E7.hu1 hr) (pv 4) (DE.v 9) (DE.op S3 R5 (DE.kget (E7.hu1 hr) (pv 4) (DE.v 6) (fun _ _=>rfl)) (DE.v 8))) (A4.one (DS.append (pv 3) (DE.fz (DE.v 9))))) A4.nil)))) (A4.one (DS.aug (i:=5) Y1n Y5 DE.int nd rfl (by trivial))))))) (A4.one (DS.ret DE.non))))))
omit Z in
theorem Y2x:K5 MC.Z0r ["some","onward"] (C5 Q9n):=P7 (by decide +kernel)
theorem Y5v:FnT P w K mg base ts 1 (ad 2) (fn 2) ["some","onward"] (sp_all_reached K):=by
 have nd:=Y2x.nd
 refine Q3.okP Z.D_all_reached.F Y2x (ws:=MC.Z5v  K ) (fun cdv A outer s H E hT hr=>?_) MC.W6r
 exact(A4.cons (DS.setKC (i:=2) rfl (O6 (sc:=C5 Q9n) (N0:=MC.Z0r) (N:=["state"]) (nt:=1) (cap:=[]) rfl rfl (by decide +kernel)) (F3.lst (DE.v 0)) (fun _ _ _ _=>(DG.nm (i:=0) (show List.Nodup (["state"]:List Str)by decide +kernel) rfl (by trivial))) (fun _ _ _ _=>(DE.v 0)) (fun _ _ _ _=>(DE.fz DE.int)) nd rfl (by trivial)) (A4.cons (DS.sv 3 (DE.callTy (Y7l rfl) W1s rfl Z.T.m_list Z8g (DA.one (DE.v 2))) nd) (A4.cons (DS.sv 4 DE.int nd) (A4.cons (DS.whl aR (DT.cmp Q8b W9 (DE.v 4) (DE.len Z.T.m_len (DE.v 3)) (G3 _)) (A4.cons (DS.sv 5 (DE.ix (DE.v 3) (DE.v 4) (fun _ _=>rfl)) nd) (A4.cons (DS.for aR rfl (DI.lst (DE.fz (DE.ix (DE.v 1) (DE.v 5) (fun _ _=>rfl)))) (DG.nm (i:=6) nd rfl (by trivial)) (A4.one (DS.ife (DT.knotin (E7.hu1 hr) (DE.v 6) (pv 2)) (A4.cons (DS.kput (E7.hu1 hr) (pv 2) (DE.v 6) (DE.op S3 R5 (DE.kget (E7.hu1 hr) (pv 2) (DE.v 5) (fun _ _=>rfl)) DE.int)) (A4.one (DS.append (pv 3) (DE.fz (DE.v 6))))) A4.nil))) (A4.one (DS.aug (i:=4) Y1n Y5 DE.int nd rfl (by trivial)))))) (A4.one (DS.retK (pv 2)))))))
omit Z in
theorem Y2y:K5 MC.Q5w ["ends","rows","wanted"] (C5 Q5f):=P7 (by decide +kernel)
theorem Y5w:FnT P w K mg base ts 2 (ad 3) (fn 3) ["ends","rows","wanted"] Q3v:=by
 have nd:=Y2y.nd
 refine Q3.okP Z.D_distances.F Y2y (ws:=MC.Z5w  K (sp_all_reached K)) (fun cdv A outer s H E hT hr=>?_) MC.W6t
 exact(A4.cons (DS.setLC (i:=3) rfl (O6 (sc:=C5 Q5f) (N0:=MC.Q5w) (N:=["row"]) (nt:=1) (cap:=[]) rfl rfl (by decide +kernel)) (F3.or (F3.tup (DE.v 1)) (F3.lst (DE.v 1))) (fun _ _ _ _=>(DG.nm (i:=0) (show List.Nodup (["row"]:List Str)by decide +kernel) rfl (by trivial))) (fun _ _ _ _=>(DE.lst DA.nil)) nd rfl (by trivial)) (A4.cons (DS.fzL 3 (DS.for aR rfl (DI.or (DI.enumX rfl Z.T.m_enumerate Q4e (DA.one (DE.v 1))) (DI.enumF rfl Z.T.m_enumerate Q4e (DA.one (DE.v 1)))) (DG.tp (n:=2) rfl (G7.cons (DG.nm (i:=4) nd rfl (by trivial)) (G7.cons (DG.nm (i:=5) nd rfl (by trivial)) G7.nil))) (A4.one (DS.for aR rfl (DI.tup (DE.v 5)) (DG.nm (i:=6) nd rfl (by trivial)) (A4.one (DS.llapp (pv 3) (DE.v 6) (DE.fz (DE.v 4)) (fun _ _=>rfl) ⟨rfl,rfl,rfl,rfl⟩)))))) (A4.cons (DS.setF (i:=7) (DE.clP (W2l) (Y5v Z) hr hT Z.D_all_reached (DA.cons (DE.comp rfl (O6 (sc:=C5 Q5f) (N0:=MC.Q5w) (N:=["state","end","wanted"]) (nt:=2) (cap:=[2]) rfl rfl (by decide +kernel)) (F3.enumX rfl Z.T.m_enumerate Q4e (DA.one (DE.v 0))) (fun _ _ _ _=>(DG.tp (n:=2) rfl (G7.cons (DG.nm (i:=0) (show List.Nodup (["state","end","wanted"]:List Str)by decide +kernel) rfl (by trivial)) (G7.cons (DG.nm (i:=1) (show List.Nodup (["state","end","wanted"]:List Str)by decide +kernel) rfl (by trivial)) G7.nil)))) (fun _ _ _ _=>(L5.one (DT.cmp (W8 (n:=60) (X2 hr)) Q9 (DE.v 1) (DE.v 2) (G3 _)))) (fun _ _ _ _=>(DE.fz (DE.v 0)))) (DA.one (DE.v 3)))) nd rfl (by trivial)) (A4.one (DS.ret (DE.comp rfl (O6 (sc:=C5 Q5f) (N0:=MC.Q5w) (N:=["state","reached"]) (nt:=1) (cap:=[7]) rfl rfl (by decide +kernel)) (F3.rng1 rfl Z.T.m_range (DA.one (DE.len Z.T.m_len (DE.v 0)))) (fun _ _ _ _=>(DG.nm (i:=0) (show List.Nodup (["state","reached"]:List Str)by decide +kernel) rfl (by trivial))) (fun _ _ _ _=>L5.nil) (fun _ _ _ _=>(DE.fz (DE.fget1 (E7.hu1 hr) (pv 1) (DE.v 0) ⟨rfl,rfl,rfl,rfl⟩)))))))))
omit Z in
theorem Y3m:K5 MC.Z7m ["machine"] (C5 Q9q):=P7 (by decide +kernel)
theorem Z7d:FnT P w K mg base ts 4 (ad 4) (fn 4) ["machine"] sp_least_text:=by
 obtain⟨c,Pt,C,lW⟩:=Z.C_least_text
 have nd:=Y3m.nd
 refine Q3l.okP C Y3m (ws:=MC.Z6j (FnC P w K mg base 2) (Q5d (FnC P w K mg base 2))) (fun A outer s H E hT hr=>?_) MC.W7c
 exact(A4.cons (DS.asg (DE.v 0) (DG.tp (n:=2) rfl (G7.cons (DG.nm (i:=1) nd rfl (by trivial)) (G7.cons (DG.nm (i:=2) nd rfl (by trivial)) G7.nil)))) (A4.one (DS.ret (DE.callW2 (kl:=1) (ps:=["state","column"]) (qs:=["state"]) (cs:=[("rows",2)]) (es:=[("ends",1)]) (clos:=[("rows",s.heap.objs.size+2)]) (clo2:=[("ends",s.heap.objs.size+1)]) (wb:=MC.Y5m) (wc:=MC.Z6t) (Y5x Z) (hr.mono (by decide)) rfl Z.D_first_text.m Z.D_first_text.k Z.D_first_text.b DE.int (hT _ lW) Z.hBM rfl C.hd rfl rfl (cz.mpr ⟨rfl,fun _ h=>nomatch h⟩) (cz.mpr ⟨⟨rfl,rfl,rfl⟩,fun _ h=>nomatch h⟩) ⟨rfl,rfl,rfl,by decide +kernel,by decide +kernel,by decide +kernel,by decide +kernel,by decide +kernel⟩ rfl rfl (cz.mpr ⟨rfl,fun _ h=>nomatch h⟩) (cz.mpr ⟨⟨rfl,rfl,rfl⟩,fun _ h=>nomatch h⟩) ⟨rfl,rfl,rfl,by decide +kernel,by decide +kernel,by decide +kernel,by decide +kernel,by decide +kernel⟩ (by decide) (fun _ _ _ _ _ us hl=>match us,hl with | [_,_],_=>rfl) (fun _ _ _ _ _ us hl=>match us,hl with | [_],_=>rfl) (fun caps f c' A outer s H q hn hr=>(DE.ix (DE.ix (DE.v 2) (DE.v 0) (fun _ _=>rfl)) (DE.v 1) (fun _ _=>rfl))) (fun caps f c' A outer s H q hn hr=>(DE.ix (DE.v 1) (DE.v 0) (fun _ _=>rfl)))))))
omit Z in
theorem Y3q:K5 MC.Q7n ["machine"] (C5 Q5g):=P7 (by decide +kernel)
theorem Y6g:FnT P w K mg base ts 4 (ad 5) (fn 5) ["machine"] sp_onward_goals:=by
 obtain⟨c,Pt,C,lW⟩:=Z.C_onward_goals
 have nd:=Y3q.nd
 refine Q3l.okP C Y3q (ws:=MC.Z6n (FnC P w K mg base 2) (Q5e (FnC P w K mg base 2)) Q3v) (fun A outer s H E hT hr=>?_) MC.W7h
 exact(A4.cons (DS.asg (DE.v 0) (DG.tp (n:=2) rfl (G7.cons (DG.nm (i:=1) nd rfl (by trivial)) (G7.cons (DG.nm (i:=2) nd rfl (by trivial)) G7.nil)))) (A4.cons (DS.asg (DE.callW (kl:=1) (ps:=["state","column"]) (cs:=[("rows",2)]) (clos:=[("rows",s.heap.objs.size+3)]) (wb:=MC.Y5o) (Y6i Z) (hr.mono (by decide)) rfl Z.D_walked.m Z.D_walked.k Z.D_walked.b DE.int (hT _ lW) Z.hBM rfl C.hd rfl rfl (cz.mpr ⟨rfl,fun _ h=>nomatch h⟩) (cz.mpr ⟨⟨rfl,rfl,rfl⟩,fun _ h=>nomatch h⟩) ⟨rfl,rfl,rfl,by decide +kernel,by decide +kernel,by decide +kernel,by decide +kernel,by decide +kernel⟩ (fun _ _ _ _ _ us hl=>match us,hl with | [_,_],_=>rfl) (fun caps f c' A outer s H q hn hr=>(DE.ix (DE.ix (DE.v 2) (DE.v 0) (fun _ _=>rfl)) (DE.v 1) (fun _ _=>rfl)))) (DG.tp (n:=2) rfl (G7.cons (DG.nm (i:=3) nd rfl (by trivial)) (G7.cons (DG.nm (i:=4) nd rfl (by trivial)) G7.nil)))) (A4.cons (DS.sv 5 (DE.clP (W2m) (Y5w Z) hr hT Z.D_distances (DA.cons (DE.comp rfl (O6 (sc:=C5 Q5g) (N0:=MC.Q7n) (N:=["key","ends"]) (nt:=1) (cap:=[1]) rfl rfl (by decide +kernel)) (F3.lst (DE.v 3)) (fun _ _ _ _=>(DG.nm (i:=0) (show List.Nodup (["key","ends"]:List Str)by decide +kernel) rfl (by trivial))) (fun _ _ _ _=>L5.nil) (fun _ _ _ _=>(DE.fz (DE.ix (DE.v 1) (DE.v 0) (fun _ _=>rfl))))) (DA.cons (DE.v 4) (DA.one DE.bl)))) nd) (A4.one (DS.ret (DE.comp rfl (O6 (sc:=C5 Q5g) (N0:=MC.Q7n) (N:=["row","steps"]) (nt:=1) (cap:=[5]) rfl rfl (by decide +kernel)) (F3.tup (DE.v 4)) (fun _ _ _ _=>(DG.nm (i:=0) (show List.Nodup (["row","steps"]:List Str)by decide +kernel) rfl (by trivial))) (fun _ _ _ _=>L5.nil) (fun _ _ _ _=>(DE.fz (DE.comp rfl (O6 (N0:=["row","steps"]) (N:=["goal","steps"]) (nt:=1) (cap:=[1]) rfl rfl (by kernel_rfl)) (F3.tup (DE.v 0)) (fun _ _ _ _=>(DG.nm (i:=0) (show List.Nodup (["goal","steps"]:List Str)by decide +kernel) rfl (by trivial))) (fun _ _ _ _=>(L5.one (DT.cmp Z1s Q4n (DE.ix (DE.v 1) (DE.v 0) (fun _ _=>rfl)) DE.non (G3 _)))) (fun _ _ _ _=>(DE.fz (DE.v 0))))))))))))
omit Z in
theorem Y3d:K5 MC.Q7k ["machine"] (C5 Q7a):=P7 (by decide +kernel)
theorem Q5u:FnT P w K mg base ts 5 (ad 6) (fn 6) ["machine"] sp_last_length:=by
 have nd:=Y3d.nd
 refine Q3.okP Z.D_last_length.F Y3d (ws:=MC.Z6b  sp_least_text sp_onward_goals) (fun cdv A outer s H E hT hr=>?_) MC.W6z
 exact(A4.cons (DS.ife (DT.cmp Z1r Q4n (DE.clP (Y1d) (Z7d Z) hr hT Z.D_least_text (DA.one (DE.v 0))) DE.non (G3 _)) (A4.one (DS.ret (DE.neg DE.int))) A4.nil) (A4.cons (DS.sv 1 (DE.clP (W2q) (Y6g Z) hr hT Z.D_onward_goals (DA.one (DE.v 0))) nd) (A4.cons (DS.sv 2 (DE.op Q1m Q1j (DE.lst (DA.one (DE.fz DE.int))) (DE.len Z.T.m_len (DE.v 1))) nd) (A4.cons (DS.for aR rfl (DI.own (pv 1)) (DG.nm (i:=3) nd rfl (by trivial)) (A4.one (DS.for aR rfl (DI.lst (DE.fz (DE.v 3))) (DG.nm (i:=4) nd rfl (by trivial)) (A4.one (DS.augIx W0f (pv 2) (DE.v 4) DE.int))))) (A4.cons (DS.sv 5 (DE.op Q1m Q1j (DE.lst (DA.one (DE.fz DE.int))) (DE.len Z.T.m_len (DE.v 1))) nd) (A4.cons (by first | exact DS.set (i:=6) (DE.comp rfl (O6 (sc:=C5 Q7a) (N0:=MC.Q7k) (N:=["state","many"]) (nt:=2) (cap:=[]) rfl rfl (by decide +kernel)) (F3.enumX rfl Z.T.m_enumerate Q4e (DA.one (DE.v 2))) (fun _ _ _ _=>(DG.tp (n:=2) rfl (G7.cons (DG.nm (i:=0) (show List.Nodup (["state","many"]:List Str)by decide +kernel) rfl (by trivial)) (G7.cons (DG.nm (i:=1) (show List.Nodup (["state","many"]:List Str)by decide +kernel) rfl (by trivial)) G7.nil)))) (fun _ _ _ _=>(L5.one (DT.cmp (W8 (n:=60) (X2 hr)) Q9 (DE.v 1) DE.int (G3 _)))) (fun _ _ _ _=>(DE.fz (DE.v 0)))) nd rfl (by trivial) | exact DS.setC (i:=6) rfl (O6 (sc:=C5 Q7a) (N0:=MC.Q7k) (N:=["state","many"]) (nt:=2) (cap:=[]) rfl rfl (by decide +kernel)) (F3.enumX rfl Z.T.m_enumerate Q4e (DA.one (DE.v 2))) (fun _ _ _ _=>(DG.tp (n:=2) rfl (G7.cons (DG.nm (i:=0) (show List.Nodup (["state","many"]:List Str)by decide +kernel) rfl (by trivial)) (G7.cons (DG.nm (i:=1) (show List.Nodup (["state","many"]:List Str)by decide +kernel) rfl (by trivial)) G7.nil)))) (fun _ _ _ _=>(L5.one (DT.cmp (W8 (n:=60) (X2 hr)) Q9 (DE.v 1) DE.int (G3 _)))) (fun _ _ _ _=>(DE.fz (DE.v 0))) nd rfl (by trivial)) (A4.cons (DS.whl aR (DT.tru (DE.v 6) (fun _=>rfl)) (A4.cons (DS.pop (pv 6) (DG.nm (i:=7) nd rfl (by trivial))) (A4.one (DS.for aR rfl (DI.lst (DE.fz (DE.ix (DE.v 1) (DE.v 7) (fun _ _=>rfl)))) (DG.nm (i:=4) nd rfl (by trivial)) (A4.cons (DS.setIx (pv 5) (DE.v 4) (DE.fz (DE.callB (Y7o rfl) W2d rfl Z.T.m_max Z1m (DA.cons (DE.ix (DE.v 5) (DE.v 4) (fun _ _=>rfl)) (DA.one (DE.op S3 R5 (DE.ix (DE.v 5) (DE.v 7) (fun _ _=>rfl)) DE.int)))))) (A4.cons (DS.augIx W0g (pv 2) (DE.v 4) DE.int) (A4.one (DS.ife (DT.cmp (W8 (n:=60) (X2 hr)) Q9 (DE.ix (DE.v 2) (DE.v 4) (fun _ _=>rfl)) DE.int (G3 _)) (A4.one (DS.append (pv 6) (DE.fz (DE.v 4)))) A4.nil)))))))) (A4.one (DS.ret (DE.ife (DT.cmp (W8 (n:=60) (X2 hr)) Q9 (DE.callB (Z8i rfl) Y0s rfl Z.T.m_max Z1m (DA.one (DE.v 2))) DE.int (G3 _)) (DE.callB (Z8i rfl) Y0s rfl Z.T.m_max Z1m (DA.one (DE.v 5))) DE.non))))))))))
omit Z in
theorem Y3c:K5 MC.Z7h ["machine"] (C5 Z4w):=P7 (by decide +kernel)
theorem Y5z:FnT P w K mg base ts 6 (ad 7) (fn 7) ["machine"] Q3a:=by
 have nd:=Y3c.nd
 refine Q3.okP Z.D_is_finite.F Y3c (ws:=MC.Z6a  sp_last_length) (fun cdv A outer s H E hT hr=>?_) MC.W6y
 exact(A4.one (DS.ret (DE.cmp Z1s Q4n (DE.clP (Q6p) (Q5u Z) hr hT Z.D_last_length (DA.one (DE.v 0))) DE.non (G3 _))))
omit Z in
theorem Y3n:K5 MC.Z7n ["machine"] (C5 Z5b):=P7 (by decide +kernel)
theorem Y6f:FnT P w K mg base ts 6 (ad 8) (fn 8) ["machine"] Q3b:=by
 have nd:=Y3n.nd
 refine Q3.okP Z.D_longest.F Y3n (ws:=MC.Z6k  sp_last_length) (fun cdv A outer s H E hT hr=>?_) MC.W7d
 exact(A4.cons (DS.sv 1 (DE.clP (Q6p) (Q5u Z) hr hT Z.D_last_length (DA.one (DE.v 0))) nd) (A4.one (DS.ret (DE.ife (DT.cmp (W8 (n:=60) (X2 hr)) Q9 (DE.v 1) (DE.neg DE.int) (G3 _)) DE.non (DE.v 1)))))
omit Z in
theorem Y3o:K5 MC.Z0u ["machine"] (C5 Q9r):=P7 (by decide +kernel)
theorem Z0p:FnD P w K mg base 1 (ad 9) (fn 9) ["machine"] sp_no_signs:=by
 have nd:=Y3o.nd
 refine Z.D_no_signs.ok Y3o (ws:=MC.Z6l  ) (fun cdv A outer s H E hr=>?_) MC.W7f
 exact(A4.one (DS.ret (DE.comp rfl (O6 (sc:=C5 Q9r) (N0:=MC.Z0u) (N:=["end"]) (nt:=1) (cap:=[]) rfl rfl (by decide +kernel)) (F3.tup (DE.ix (DE.v 0) DE.int (fun _ _=>rfl))) (fun _ _ _ _=>(DG.nm (i:=0) (show List.Nodup (["end"]:List Str)by decide +kernel) rfl (by trivial))) (fun _ _ _ _=>L5.nil) (fun _ _ _ _=>(DE.fz (DE.ife (DT.tru (DE.v 0) (fun _=>rfl)) DE.int DE.int))))))
omit Z in
theorem Y3p:K5 MC.Q7m ["machine","counts"] (C5 Q9s):=P7 (by decide +kernel)
theorem Z0q:FnD P w K mg base 1 (ad 10) (fn 10) ["machine","counts"] sp_one_more_sign:=by
 have nd:=Y3p.nd
 refine Z.D_one_more_sign.ok Y3p (ws:=MC.Z6m  ) (fun cdv A outer s H E hr=>?_) MC.W7g
 exact(A4.one (DS.ret (DE.comp rfl (O6 (sc:=C5 Q9s) (N0:=MC.Q7m) (N:=["row","counts"]) (nt:=1) (cap:=[1]) rfl rfl (by decide +kernel)) (F3.tup (DE.ix (DE.v 0) DE.int (fun _ _=>rfl))) (fun _ _ _ _=>(DG.nm (i:=0) (show List.Nodup (["row","counts"]:List Str)by decide +kernel) rfl (by trivial))) (fun _ _ _ _=>L5.nil) (fun _ _ _ _=>(DE.fz (DE.callB (Y7q rfl) W9o rfl Z.T.m_sum Y7h (DA.one (DE.comp rfl (O6 (N0:=["row","counts"]) (N:=["goal","counts"]) (nt:=1) (cap:=[1]) rfl rfl (by kernel_rfl)) (F3.tup (DE.v 0)) (fun _ _ _ _=>(DG.nm (i:=0) (show List.Nodup (["goal","counts"]:List Str)by decide +kernel) rfl (by trivial))) (fun _ _ _ _=>L5.nil) (fun _ _ _ _=>(DE.fz (DE.ix (DE.v 1) (DE.v 0) (fun _ _=>rfl))))))))))))
omit Z in
theorem Y3b:K5 MC.Z7g ["machine","long"] (C5 Z4v):=P7 (by decide +kernel)
theorem Y5y:FnT P w K mg base ts 6 (ad 11) (fn 11) ["machine","long"] Q2z:=by
 have nd:=Y3b.nd
 refine Q3.okP Z.D_how_many.F Y3b (ws:=MC.Z5z  sp_last_length sp_no_signs sp_one_more_sign) (fun cdv A outer s H E hT hr=>?_) MC.W6x
 exact(A4.cons (DS.sv 2 (DE.clP (Q6p) (Q5u Z) hr hT Z.D_last_length (DA.one (DE.v 0))) nd) (A4.cons (DS.ife (DW.t (DW.and (DT.cmp Z1s Q4n (DE.v 2) DE.non (G3 _)) (DW.and1 (DT.cmp Z1q W9 (DE.v 1) (DE.v 2) (G3 _))))) (A4.one (DS.ret DE.int)) A4.nil) (A4.cons (DS.sv 3 (DE.cl (Z0p Z) hr Z.D_no_signs (DA.one (DE.v 0))) nd) (A4.cons (DS.for aR rfl (DI.rng1 rfl Z.T.m_range (DA.one (DE.v 1))) (DG.nm (i:=4) nd rfl (by trivial)) (A4.one (DS.sv 3 (DE.cl (Z0q Z) hr Z.D_one_more_sign (DA.cons (DE.v 0) (DA.one (DE.v 3)))) nd))) (A4.one (DS.ret (DE.ix (DE.v 3) DE.int (fun _ _=>rfl))))))))
omit Z in
theorem Y3r:K5 MC.Z0v ["machine","tables","size"] (C5 Q9t):=P7 (by decide +kernel)
theorem Z7e:FnD P w K mg base 1 (ad 12) (fn 12) ["machine","tables","size"] sp_texts_of_length:=by
 have nd:=Y3r.nd
 refine Z.D_texts_of_length.ok Y3r (ws:=MC.Z6o  ) (fun cdv A outer s H E hr=>?_) MC.W7k
 exact(A4.cons (DS.sv 3 (DE.ife (DT.cmp Z1q W9 (DE.ix (DE.ix (DE.v 1) (DE.neg DE.int) (fun _ _=>rfl)) DE.int (fun _ _=>rfl)) DE.int (G3 _)) (DE.lst (DA.one (DE.fz (DE.tup (DA.cons (DE.fz DE.str) (DA.one (DE.fz DE.int))))))) (DE.lst DA.nil)) nd) (A4.cons (DS.for aR rfl (DI.revF rfl Z.T.m_reversed Y7e (DA.one (DE.fz (DE.slice (DE.v 1) DO.none (DO.some (DE.neg DE.int)))))) (DG.nm (i:=4) nd rfl (by trivial)) (A4.cons (DS.sv 5 (DE.lst DA.nil) nd) (A4.cons (DS.for aR rfl (DI.own (pv 3)) (DG.tp (n:=2) rfl (G7.cons (DG.nm (i:=6) nd rfl (by trivial)) (G7.cons (DG.nm (i:=7) nd rfl (by trivial)) G7.nil))) (A4.one (DS.for aR rfl (DI.zipS rfl Z.T.m_zip (DA.cons (DE.gstr rfl Z.T.c_SIGNS) (DA.one (DE.ix (DE.ix (DE.v 0) DE.int (fun _ _=>rfl)) (DE.v 7) (fun _ _=>rfl))))) (DG.tp (n:=2) rfl (G7.cons (DG.nm (i:=8) nd rfl (by trivial)) (G7.cons (DG.nm (i:=9) nd rfl (by trivial)) G7.nil))) (A4.one (DS.ife (DT.cmp Z1q W9 (DE.ix (DE.v 4) (DE.v 9) (fun _ _=>rfl)) DE.int (G3 _)) (A4.one (DS.append (pv 5) (DE.fz (DE.tup (DA.cons (DE.fz (DE.op S3 R5 (DE.v 6) (DE.v 8))) (DA.one (DE.fz (DE.v 9)))))))) A4.nil))))) (A4.one (DS.sv 3 (DE.slice (DE.v 5) DO.none (DO.some (DE.v 2))) nd))))) (A4.one (DS.ret (DE.comp rfl (O6 (sc:=C5 Q9t) (N0:=MC.Z0v) (N:=["text","state"]) (nt:=2) (cap:=[]) rfl rfl (by decide +kernel)) (F3.lst (DE.slice (DE.v 3) DO.none (DO.some (DE.v 2)))) (fun _ _ _ _=>(DG.tp (n:=2) rfl (G7.cons (DG.nm (i:=0) (show List.Nodup (["text","state"]:List Str)by decide +kernel) rfl (by trivial)) (G7.cons (DG.nm (i:=1) (show List.Nodup (["text","state"]:List Str)by decide +kernel) rfl (by trivial)) G7.nil)))) (fun _ _ _ _=>L5.nil) (fun _ _ _ _=>(DE.fz (DE.v 0))))))))
omit Z in
theorem Y3s:K5 MC.Z7o ["machine","long"] (C5 Z5c):=P7 (by decide +kernel)
theorem Y6h:FnT P w K mg base ts 6 (ad 13) (fn 13) ["machine","long"] Q3c:=by
 have nd:=Y3s.nd
 refine Q3.okP Z.D_texts_up_to.F Y3s (ws:=MC.Z6p  sp_last_length sp_no_signs sp_texts_of_length sp_one_more_sign) (fun cdv A outer s H E hT hr=>?_) MC.W7l
 exact(A4.cons (DS.sv 2 (DE.clP (Q6p) (Q5u Z) hr hT Z.D_last_length (DA.one (DE.v 0))) nd) (A4.cons (DS.sv 3 (DE.lst DA.nil) nd) (A4.cons (DS.sv 4 (DE.lst (DA.one (DE.fz (DE.cl (Z0p Z) hr Z.D_no_signs (DA.one (DE.v 0)))))) nd) (A4.cons (DS.whl aR (DT.cmp Q8a W9 (DE.len Z.T.m_len (DE.v 4)) (DE.op S3 R5 (DE.ife (DT.cmp Z1r Q4n (DE.v 2) DE.non (G3 _)) (DE.v 1) (DE.callB (Y7p rfl) W2i rfl Z.T.m_min Y7d (DA.cons (DE.v 1) (DA.one (DE.v 2))))) DE.int) (G3 _)) (A4.cons (DS.extend (pv 3) (DE.cl (Z7e Z) hr Z.D_texts_of_length (DA.cons (DE.v 0) (DA.cons (DE.v 4) (DA.one (DE.ix (DE.ix (DE.v 4) (DE.neg DE.int) (fun _ _=>rfl)) DE.int (fun _ _=>rfl))))))) (A4.one (DS.append (pv 4) (DE.fz (DE.cl (Z0q Z) hr Z.D_one_more_sign (DA.cons (DE.v 0) (DA.one (DE.ix (DE.v 4) (DE.neg DE.int) (fun _ _=>rfl)))))))))) (A4.one (DS.retV (pv 3)))))))
omit Z in
theorem Y3a:K5 MC.Z7f ["machine","size"] (C5 Z4u):=P7 (by decide +kernel)
theorem Z7a:FnT P w K mg base ts 6 (ad 14) (fn 14) ["machine","size"] Q0f:=by
 have nd:=Y3a.nd
 refine Q3.okP Z.D_first_texts.F Y3a (ws:=MC.Z5y  sp_last_length sp_no_signs sp_texts_of_length sp_one_more_sign) (fun cdv A outer s H E hT hr=>?_) MC.W6w
 exact(A4.cons (DS.sv 2 (DE.clP (Q6p) (Q5u Z) hr hT Z.D_last_length (DA.one (DE.v 0))) nd) (A4.cons (DS.sv 3 (DE.lst DA.nil) nd) (A4.cons (DS.sv 4 (DE.lst (DA.one (DE.fz (DE.cl (Z0p Z) hr Z.D_no_signs (DA.one (DE.v 0)))))) nd) (A4.cons (DS.whl aR (DW.t (DW.and (DT.cmp Q8b W9 (DE.len Z.T.m_len (DE.v 3)) (DE.v 1) (G3 _)) (DW.and1 (DW.t (DW.or (DT.cmp Z1r Q4n (DE.v 2) DE.non (G3 _)) (DW.or1 (DT.cmp Q8a W9 (DE.len Z.T.m_len (DE.v 4)) (DE.op S3 R5 (DE.v 2) DE.int) (G3 _)))))))) (A4.cons (DS.extend (pv 3) (DE.cl (Z7e Z) hr Z.D_texts_of_length (DA.cons (DE.v 0) (DA.cons (DE.v 4) (DA.one (DE.op W3n Y5 (DE.v 1) (DE.len Z.T.m_len (DE.v 3)))))))) (A4.one (DS.append (pv 4) (DE.fz (DE.cl (Z0q Z) hr Z.D_one_more_sign (DA.cons (DE.v 0) (DA.one (DE.ix (DE.v 4) (DE.neg DE.int) (fun _ _=>rfl)))))))))) (A4.one (DS.retV (pv 3)))))))
omit Z in
theorem Y3g:K5 MC.Z7j ["_law_script","_law_k"] (C5 Z4y):=P7 (by decide +kernel)
theorem Y6b:FnD P w K mg base 1 (ad 15) (fn 15) ["_law_script","_law_k"] Q6y:=by
 have nd:=Y3g.nd
 refine Z.D_law_cell.ok Y3g (ws:=MC.Z0i  ) (fun cdv A outer s H E hr=>?_) MC.W6s
 exact(A4.cons (DS.ife (DT.cmp (W8 (n:=60) (X2 hr)) Q9 (DE.v 0) (DE.lst DA.nil) (G3 _)) (A4.one (DS.ret (DE.op Q1m Q1j DE.int (DE.v 1)))) A4.nil) (A4.one (DS.ret (DE.op S3 R5 (DE.ix (DE.v 0) (DE.op Q4x Y5 (DE.v 1) (DE.len Z.T.m_len (DE.v 0))) (fun _ _=>rfl)) (DE.op Q1m Q1j DE.int (DE.op Q9a Y5 (DE.v 1) (DE.len Z.T.m_len (DE.v 0))))))))
omit Z in
theorem Y3h:K5 MC.Z7k ["_law_script","_law_k","_law_many"] (C5 Z4z):=P7 (by decide +kernel)
theorem Q7j:FnD P w K mg base 2 (ad 16) (fn 16) ["_law_script","_law_k","_law_many"] Q2y:=by
 have nd:=Y3h.nd
 refine Z.D_law_drawn.ok Y3h (ws:=MC.Z6e  Q6y) (fun cdv A outer s H E hr=>?_) MC.W6u
 exact(A4.cons (DS.sv 3 (DE.op Q4x Y5 (DE.op S3 R5 (DE.op Q1m Q1j (DE.op Q4x Y5 (DE.cl (Y6b Z) hr Z.D_law_cell (DA.cons (DE.v 0) (DA.one (DE.v 1)))) DE.int) DE.int) (DE.op Q1m Q1j DE.int (DE.op S3 R5 (DE.v 1) DE.int))) DE.int) nd) (A4.cons (DS.sv 3 (DE.op Q4x Y5 (DE.op S3 R5 (DE.op Q1m Q1j (DE.v 3) (DE.v 3)) (DE.op Q9a Y5 (DE.v 3) DE.int)) DE.int) nd) (A4.one (DS.ret (DE.op Q4x Y5 (DE.op Q9a Y5 (DE.op Q4x Y5 (DE.op S3 R5 (DE.op Q1m Q1j (DE.v 3) (DE.v 3)) (DE.op Q9a Y5 (DE.v 3) DE.int)) DE.int) DE.int) (DE.v 2))))))
omit Z in
theorem Y3l:K5 MC.Z0t ["_law_long"] (C5 Q9p):=P7 (by decide +kernel)
theorem Z7c:FnD P w K mg base 1 (ad 17) (fn 17) ["_law_long"] Q9l:=by
 have nd:=Y3l.nd
 refine Z.D_law_texts.ok Y3l (ws:=MC.Z6i  ) (fun cdv A outer s H E hr=>?_) MC.W7j
 exact(A4.cons (DS.sv 1 (DE.lst (DA.one (DE.fz DE.str))) nd) (A4.cons (DS.sv 2 (DE.fz (DE.lst (DA.one (DE.fz DE.str)))) nd) (A4.cons (DS.for aR rfl (DI.rng1 rfl Z.T.m_range (DA.one (DE.v 0))) (DG.nm (i:=3) nd rfl (by trivial)) (A4.cons (DS.sv 4 (DE.lst DA.nil) nd) (A4.cons (DS.fzO 4 (DS.for aR rfl (DI.lst (DE.fz (DE.v 2))) (DG.nm (i:=5) nd rfl (by trivial)) (A4.one (DS.sv 4 (DE.op S3 R5 (DE.v 4) (DE.comp rfl (O6 (sc:=C5 Q9p) (N0:=MC.Z0t) (N:=["_law_sign","_law_text_here"]) (nt:=1) (cap:=[5]) rfl rfl (by decide +kernel)) (F3.str DE.str) (fun _ _ _ _=>(DG.nm (i:=0) (show List.Nodup (["_law_sign","_law_text_here"]:List Str)by decide +kernel) rfl (by trivial))) (fun _ _ _ _=>L5.nil) (fun _ _ _ _=>(DE.fz (DE.op S3 R5 (DE.v 1) (DE.v 0)))))) nd)))) (A4.cons (DS.sv 2 (DE.fz (DE.v 4)) nd) (A4.one (DS.sv 1 (DE.op Z3v Z1f (DE.v 1) (DE.v 2)) nd)))))) (A4.one (DS.retV (pv 1))))))
omit Z in
theorem Y3j:K5 MC.Q7l ["_law_script","_law_at","_law_most"] (C5 Q7b):=P7 (by decide +kernel)
theorem Y6d:FnD P w K mg base 3 (ad 18) (fn 18) ["_law_script","_law_at","_law_most"] Q9j:=by
 have nd:=Y3j.nd
 refine Z.D_law_machine.ok Y3j (ws:=MC.Z6g  Q2y) (fun cdv A outer s H E hr=>?_) MC.W7e
 exact(A4.cons (DS.sv 3 (DE.op S3 R5 DE.int (DE.cl (Q7j Z) hr Z.D_law_drawn (DA.cons (DE.v 0) (DA.cons (DE.v 1) (DA.one (DE.v 2)))))) nd) (A4.cons (DS.sv 4 (DE.tpl Z.T.m_tuple (DE.comp rfl (O6 (sc:=C5 Q7b) (N0:=MC.Q7l) (N:=["_law_k","_law_script","_law_at"]) (nt:=1) (cap:=[0,1]) rfl rfl (by decide +kernel)) (F3.rng1 rfl Z.T.m_range (DA.one (DE.v 3))) (fun _ _ _ _=>(DG.nm (i:=0) (show List.Nodup (["_law_k","_law_script","_law_at"]:List Str)by decide +kernel) rfl (by trivial))) (fun _ _ _ _=>L5.nil) (fun _ _ _ _=>(DE.fz (DE.cmp (W8 (n:=60) (X2 hr)) Q9 (DE.cl (Q7j Z) hr Z.D_law_drawn (DA.cons (DE.v 1) (DA.cons (DE.op S3 R5 (DE.op S3 R5 (DE.v 2) DE.int) (DE.v 0)) (DA.one DE.int)))) DE.int (G3 _)))))) nd) (A4.cons (DS.sv 5 (DE.lst DA.nil) nd) (A4.cons (DS.for aR rfl (DI.rng1 rfl Z.T.m_range (DA.one (DE.v 3))) (DG.nm (i:=6) nd rfl (by trivial)) (A4.one (DS.append (pv 5) (DE.fz (DE.tpl Z.T.m_tuple (DE.comp rfl (O6 (sc:=C5 Q7b) (N0:=MC.Q7l) (N:=["_law_j","_law_script","_law_size","_law_at","_law_k"]) (nt:=1) (cap:=[0,3,1,6]) rfl rfl (by decide +kernel)) (F3.rng1 rfl Z.T.m_range (DA.one DE.int)) (fun _ _ _ _=>(DG.nm (i:=0) (show List.Nodup (["_law_j","_law_script","_law_size","_law_at","_law_k"]:List Str)by decide +kernel) rfl (by trivial))) (fun _ _ _ _=>L5.nil) (fun _ _ _ _=>(DE.fz (DE.cl (Q7j Z) hr Z.D_law_drawn (DA.cons (DE.v 1) (DA.cons (DE.op S3 R5 (DE.op S3 R5 (DE.op S3 R5 (DE.v 3) DE.int) (DE.op Q1m Q1j DE.int (DE.v 4))) (DE.v 0)) (DA.one (DE.v 2))))))))))))) (A4.one (DS.ret (DE.tup (DA.cons (DE.fz (DE.v 4)) (DA.one (DE.fz (DE.tpl Z.T.m_tuple (DE.v 5))))))))))))
omit Z in
theorem Y3k:K5 MC.Z7l ["_law_machine_told","_law_state_here","_law_text_here"] (C5 Z5a):=P7 (by decide +kernel)
theorem Y6e:FnD P w K mg base 1 (ad 19) (fn 19) ["_law_machine_told","_law_state_here","_law_text_here"] Q9k:=by
 have nd:=Y3k.nd
 refine Z.D_law_state.ok Y3k (ws:=MC.Z6h  ) (fun cdv A outer s H E hr=>?_) MC.W7i
 exact(A4.cons (DS.for aR rfl (DI.str (DE.v 2)) (DG.nm (i:=3) nd rfl (by trivial)) (A4.one (DS.sv 1 (DE.ix (DE.ix (DE.ix (DE.v 0) DE.int (fun _ _=>rfl)) (DE.v 1) (fun _ _=>rfl)) (DE.index DE.str (DE.v 3)) (fun _ _=>rfl)) nd))) (A4.one (DS.retV (pv 1))))
omit Z in
theorem Y3f:K5 MC.Z7i ["_law_machine_told","_law_text_here"] (C5 Z4x):=P7 (by decide +kernel)
theorem Z7b:FnD P w K mg base 2 (ad 20) (fn 20) ["_law_machine_told","_law_text_here"] Q9i:=by
 have nd:=Y3f.nd
 refine Z.D_law_accepts.ok Y3f (ws:=MC.Z6d  Q9k) (fun cdv A outer s H E hr=>?_) MC.W6q
 exact(A4.one (DS.ret (DE.ix (DE.ix (DE.v 0) DE.int (fun _ _=>rfl)) (DE.cl (Y6e Z) hr Z.D_law_state (DA.cons (DE.v 0) (DA.cons DE.int (DA.one (DE.v 1))))) (fun _ _=>rfl))))
omit Z in
theorem Y3i:K5 Z0s ["_law_told"] (C5 Q9o):=P7 (by decide +kernel)
theorem Y6c:FnD P w K mg base 1 (ad 21) (fn 21) ["_law_told"] sp_law_lengths:=by
 have nd:=Y3i.nd
 refine Z.D_law_lengths.ok Y3i (ws:=Z6f  ) (fun cdv A outer s H E hr=>?_) W7b
 exact(A4.cons (DS.sv 1 (DE.lst DA.nil) nd) (A4.cons (DS.sv 2 (DE.fz (DE.lst (DA.one (DE.fz DE.int)))) nd) (A4.cons (DS.for aR rfl (DI.rng1 rfl Z.T.m_range (DA.one (DE.op Q1m Q1j DE.int (DE.len Z.T.m_len (DE.ix (DE.v 0) DE.int (fun _ _=>rfl)))))) (DG.nm (i:=3) nd rfl (by trivial)) (A4.cons (DS.ife (DT.cmp (Q4g (n:=59) (Q4k hr)) Q9 (DE.comp rfl (O6 (sc:=C5 Q9o) (N0:=Z0s) (N:=["_law_state_here","_law_told"]) (nt:=1) (cap:=[0]) rfl rfl (by decide +kernel)) (F3.lst (DE.v 2)) (fun _ _ _ _=>(DG.nm (i:=0) (show List.Nodup (["_law_state_here","_law_told"]:List Str)by decide +kernel) rfl (by trivial))) (fun _ _ _ _=>(L5.one (DT.tru (DE.ix (DE.ix (DE.v 1) DE.int (fun _ _=>rfl)) (DE.v 0) (fun _ _=>rfl)) (fun _=>rfl)))) (fun _ _ _ _=>(DE.fz (DE.v 0)))) (DE.lst DA.nil) (G3 _)) (A4.one (DS.append (pv 1) (DE.fz (DE.v 3)))) A4.nil) (A4.cons (DS.sv 4 (DE.lst DA.nil) nd) (A4.cons (DS.for aR rfl (DI.lst (DE.fz (DE.v 2))) (DG.nm (i:=5) nd rfl (by trivial)) (A4.one (DS.sv 4 (DE.op Z3v Z1f (DE.v 4) (DE.callTy Y7m W1r rfl Z.T.m_list Z8g (DA.one (DE.ix (DE.ix (DE.v 0) DE.int (fun _ _=>rfl)) (DE.v 5) (fun _ _=>rfl))))) nd))) (A4.one (DS.sv 2 (DE.fz (DE.sset rfl rfl Z.T.m_sorted rfl Z.T.m_set Y7g Y7f (DE.v 4))) nd)))))) (A4.one (DS.retV (pv 1))))))
omit Z in
theorem Y3e:K5 Q1w ["_law_script"] (C5 Q1q):=P7 (by decide +kernel)
theorem Y6a:FnT P w K mg base ts 7 (ad 22) (fn 22) ["_law_script"] Q6z:=by
 have nd:=Y3e.nd
 refine Q3.okP Z.D_law.F Y3e (ws:=Z6c  Q9j Q9l Q9i Q3c Q2z sp_law_lengths Q3a Q3b sp_least_text Q2y Q0f) (fun cdv A outer s H E hT hr=>?_) W7a
 exact(A4.cons (DS.sv 1 (DE.cl (Y6d Z) hr Z.D_law_machine (DA.cons (DE.v 0) (DA.cons DE.int (DA.one DE.int)))) nd) (A4.cons (by first | exact DS.set (i:=2) (DE.comp rfl (O6 (sc:=C5 Q1q) (N0:=Q1w) (N:=["_law_text_here","_law_told"]) (nt:=1) (cap:=[1]) rfl rfl (by decide +kernel)) (F3.lst (DE.cl (Z7c Z) hr Z.D_law_texts (DA.one DE.int))) (fun _ _ _ _=>(DG.nm (i:=0) (show List.Nodup (["_law_text_here","_law_told"]:List Str)by decide +kernel) rfl (by trivial))) (fun _ _ _ _=>(L5.one (DT.tru (DE.cl (Z7b Z) hr Z.D_law_accepts (DA.cons (DE.v 1) (DA.one (DE.v 0)))) (fun _=>rfl)))) (fun _ _ _ _=>(DE.fz (DE.v 0)))) nd rfl (by trivial) | exact DS.setC (i:=2) rfl (O6 (sc:=C5 Q1q) (N0:=Q1w) (N:=["_law_text_here","_law_told"]) (nt:=1) (cap:=[1]) rfl rfl (by decide +kernel)) (F3.lst (DE.cl (Z7c Z) hr Z.D_law_texts (DA.one DE.int))) (fun _ _ _ _=>(DG.nm (i:=0) (show List.Nodup (["_law_text_here","_law_told"]:List Str)by decide +kernel) rfl (by trivial))) (fun _ _ _ _=>(L5.one (DT.tru (DE.cl (Z7b Z) hr Z.D_law_accepts (DA.cons (DE.v 1) (DA.one (DE.v 0)))) (fun _=>rfl)))) (fun _ _ _ _=>(DE.fz (DE.v 0))) nd rfl (by trivial)) (A4.cons (DS.for aR rfl (DI.rng1 rfl Z.T.m_range (DA.one DE.int)) (DG.nm (i:=3) nd rfl (by trivial)) (A4.cons (by first | exact DS.set (i:=4) (DE.comp rfl (O6 (sc:=C5 Q1q) (N0:=Q1w) (N:=["_law_text_here","_law_long"]) (nt:=1) (cap:=[3]) rfl rfl (by decide +kernel)) (F3.lst (DE.v 2)) (fun _ _ _ _=>(DG.nm (i:=0) (show List.Nodup (["_law_text_here","_law_long"]:List Str)by decide +kernel) rfl (by trivial))) (fun _ _ _ _=>(L5.one (DT.cmp Q8a W9 (DE.len Z.T.m_len (DE.v 0)) (DE.v 1) (G3 _)))) (fun _ _ _ _=>(DE.fz (DE.v 0)))) nd rfl (by trivial) | exact DS.setC (i:=4) rfl (O6 (sc:=C5 Q1q) (N0:=Q1w) (N:=["_law_text_here","_law_long"]) (nt:=1) (cap:=[3]) rfl rfl (by decide +kernel)) (F3.lst (DE.v 2)) (fun _ _ _ _=>(DG.nm (i:=0) (show List.Nodup (["_law_text_here","_law_long"]:List Str)by decide +kernel) rfl (by trivial))) (fun _ _ _ _=>(L5.one (DT.cmp Q8a W9 (DE.len Z.T.m_len (DE.v 0)) (DE.v 1) (G3 _)))) (fun _ _ _ _=>(DE.fz (DE.v 0))) nd rfl (by trivial)) (A4.cons (DS.ife (DT.cmp (Q4g (n:=59) (Q4k hr)) Q9 (DE.clP (W2r) (Y6h Z) hr hT Z.D_texts_up_to (DA.cons (DE.v 1) (DA.one (DE.v 3)))) (DE.v 4) (G3 _)) (A4.one (DS.ret DE.bl)) A4.nil) (A4.one (DS.ife (DT.cmp Y7u W2y (DE.clP (W2n) (Y5y Z) hr hT Z.D_how_many (DA.cons (DE.v 1) (DA.one (DE.v 3)))) (DE.len Z.T.m_len (DE.comp rfl (O6 (sc:=C5 Q1q) (N0:=Q1w) (N:=["_law_text_here","_law_long"]) (nt:=1) (cap:=[3]) rfl rfl (by decide +kernel)) (F3.lst (DE.v 4)) (fun _ _ _ _=>(DG.nm (i:=0) (show List.Nodup (["_law_text_here","_law_long"]:List Str)by decide +kernel) rfl (by trivial))) (fun _ _ _ _=>(L5.one (DT.cmp (W8 (n:=60) (X2 hr)) Q9 (DE.len Z.T.m_len (DE.v 0)) (DE.v 1) (G3 _)))) (fun _ _ _ _=>(DE.fz (DE.v 0))))) (G3 _)) (A4.one (DS.ret DE.bl)) A4.nil))))) (A4.cons (DS.sv 5 (DE.cl (Y6c Z) hr Z.D_law_lengths (DA.one (DE.v 1))) nd) (A4.cons (by first | exact DS.set (i:=6) (DE.comp rfl (O6 (sc:=C5 Q1q) (N0:=Q1w) (N:=["_law_long","_law_told"]) (nt:=1) (cap:=[1]) rfl rfl (by decide +kernel)) (F3.lst (DE.v 5)) (fun _ _ _ _=>(DG.nm (i:=0) (show List.Nodup (["_law_long","_law_told"]:List Str)by decide +kernel) rfl (by trivial))) (fun _ _ _ _=>(L5.one (DT.cmp Z1p W9 (DE.v 0) (DE.len Z.T.m_len (DE.ix (DE.v 1) DE.int (fun _ _=>rfl))) (G3 _)))) (fun _ _ _ _=>(DE.fz (DE.v 0)))) nd rfl (by trivial) | exact DS.setC (i:=6) rfl (O6 (sc:=C5 Q1q) (N0:=Q1w) (N:=["_law_long","_law_told"]) (nt:=1) (cap:=[1]) rfl rfl (by decide +kernel)) (F3.lst (DE.v 5)) (fun _ _ _ _=>(DG.nm (i:=0) (show List.Nodup (["_law_long","_law_told"]:List Str)by decide +kernel) rfl (by trivial))) (fun _ _ _ _=>(L5.one (DT.cmp Z1p W9 (DE.v 0) (DE.len Z.T.m_len (DE.ix (DE.v 1) DE.int (fun _ _=>rfl))) (G3 _)))) (fun _ _ _ _=>(DE.fz (DE.v 0))) nd rfl (by trivial)) (A4.cons (DS.sv 7 DE.non nd) (A4.cons (DS.ife (DW.t (DW.and (DT.cmp (W8 (n:=60) (X2 hr)) Q9 (DE.v 6) (DE.lst DA.nil) (G3 _)) (DW.and1 (DT.cmp (Q4g (n:=59) (Q4k hr)) Q9 (DE.v 5) (DE.lst DA.nil) (G3 _))))) (A4.one (DS.sv 7 (DE.ix (DE.v 5) (DE.neg DE.int) (fun _ _=>rfl)) nd)) A4.nil) (A4.cons (DS.sv 8 (DE.clP (W2o) (Y5z Z) hr hT Z.D_is_finite (DA.one (DE.v 1))) nd) (A4.cons (DS.ife (DW.t (DW.or (DT.cmp (Q4g (n:=59) (Q4k hr)) Q9 (DE.clP (W2p) (Y6f Z) hr hT Z.D_longest (DA.one (DE.v 1))) (DE.v 7) (G3 _)) (DW.or (DT.nt (DT.tru (DE.isi (DE.v 8) rfl Z.T.m_isinstance Y7c rfl Z.T.m_bool Y7b (W1b _ (by decide))) (fun _=>rfl))) (DW.or1 (DT.cmp (Q4g (n:=59) (Q4k hr)) Q9 (DE.v 8) (DE.cmp (W8 (n:=60) (X2 hr)) Q9 (DE.v 6) (DE.lst DA.nil) (G3 _)) (G3 _)))))) (A4.one (DS.ret DE.bl)) A4.nil) (A4.cons (DS.ife (DT.cmp (Q4g (n:=59) (Q4k hr)) Q9 (DE.clP (Y1d) (Z7d Z) hr hT Z.D_least_text (DA.one (DE.v 1))) (DE.ix (DE.op Z3v Z1f (DE.v 2) (DE.lst (DA.one (DE.fz DE.non)))) DE.int (fun _ _=>rfl)) (G3 _)) (A4.one (DS.ret DE.bl)) A4.nil) (A4.cons (DS.sv 9 (DE.cl (Q7j Z) hr Z.D_law_drawn (DA.cons (DE.v 0) (DA.cons DE.int (DA.one DE.int)))) nd) (A4.cons (DS.ife (DW.t (DW.or (DT.cmp (W8 (n:=60) (X2 hr)) Q9 (DE.v 6) (DE.lst DA.nil) (G3 _)) (DW.or1 (DT.cmp Z1p W9 (DE.len Z.T.m_len (DE.v 2)) (DE.v 9) (G3 _))))) (A4.one (DS.ret (DE.cmp (W8 (n:=60) (X2 hr)) Q9 (DE.clP (Y1c) (Z7a Z) hr hT Z.D_first_texts (DA.cons (DE.v 1) (DA.one (DE.v 9)))) (DE.slice (DE.v 2) DO.none (DO.some (DE.v 9))) (G3 _)))) A4.nil) (A4.one (DS.ret (DE.cmp (W8 (n:=60) (X2 hr)) Q9 (DE.slice (DE.clP (Y1c) (Z7a Z) hr hT Z.D_first_texts (DA.cons (DE.v 1) (DA.one (DE.v 9)))) DO.none (DO.some (DE.len Z.T.m_len (DE.v 2)))) (DE.v 2) (G3 _))))))))))))))))
end
theorem Y6r {l:PySem.W.OpenLaw}{w:World}{K:Fg9}{h:Heap}{mg:Str->Option Value}{fa:Addr}{ts:List Addr} (X:K.In h) (G:h.Ns mainGlobals mg) (pH:mg "law"=some (.ref fa))
  {f0:Addr}{d0:FuncData} (H0:Hr K "walked" Z5d f0 d0)
  {f1:Addr}{d1:FuncData} (H1:Hr K "first_text" Z4t f1 d1)
  {f2:Addr}{d2:FuncData} (H2:Hr K "all_reached" Q9n f2 d2)
  {f3:Addr}{d3:FuncData} (H3:Hr K "distances" Q5f f3 d3)
  {f4 c4 p4:Addr}{d4:FuncData} (H4:HrC K "least_text" Q9q f4 d4 c4 p4 ts)
  {f5 c5 p5:Addr}{d5:FuncData} (H5:HrC K "onward_goals" Q5g f5 d5 c5 p5 ts)
  {f6:Addr}{d6:FuncData} (H6:Hr K "last_length" Q7a f6 d6)
  {f7:Addr}{d7:FuncData} (H7:Hr K "is_finite" Z4w f7 d7)
  {f8:Addr}{d8:FuncData} (H8:Hr K "longest" Z5b f8 d8)
  {f9:Addr}{d9:FuncData} (H9:Hr K "no_signs" Q9r f9 d9)
  {nk:Addr}{nF:FuncData} (H10:Hr K "one_more_sign" Q9s nk nF)
  {nj:Addr}{nE:FuncData} (H11:Hr K "how_many" Z4v nj nE)
  {ni:Addr}{nD:FuncData} (H12:Hr K "texts_of_length" Q9t ni nD)
  {nh:Addr}{nC:FuncData} (H13:Hr K "texts_up_to" Z5c nh nC)
  {ng:Addr}{nB:FuncData} (H14:Hr K "first_texts" Z4u ng nB)
  {na:Addr}{nA:FuncData} (H15:Hr K "_law_cell" Z4y na nA)
  {n9:Addr}{nz:FuncData} (H16:Hr K "_law_drawn" Z4z n9 nz)
  {n8:Addr}{ny:FuncData} (H17:Hr K "_law_texts" Q9p n8 ny)
  {mZ:Addr}{nv:FuncData} (H18:Hr K "_law_machine" Q7b mZ nv)
  {mY:Addr}{nu:FuncData} (H19:Hr K "_law_state" Z5a mY nu)
  {mX:Addr}{nr:FuncData} (H20:Hr K "_law_accepts" Z4x mX nr)
  {mW:Addr}{nq:FuncData} (H21:Hr K "_law_lengths" Q9o mW nq)
  {qg:Addr}{mh:FuncData} (H22:Hr K "law" Q1q qg mh)
  (z0:PySem.W.nsIn K mainGlobals "bool"=some none)    (z1:PySem.W.nsIn K mainGlobals "enumerate"=some none)    (z2:PySem.W.nsIn K mainGlobals "isinstance"=some none)    (z3:PySem.W.nsIn K mainGlobals "len"=some none)    (z4:PySem.W.nsIn K mainGlobals "list"=some none)    (z5:PySem.W.nsIn K mainGlobals "max"=some none)    (z6:PySem.W.nsIn K mainGlobals "min"=some none)    (z7:PySem.W.nsIn K mainGlobals "range"=some none)    (z8:PySem.W.nsIn K mainGlobals "reversed"=some none)    (z9:PySem.W.nsIn K mainGlobals "set"=some none)    (z10:PySem.W.nsIn K mainGlobals "sorted"=some none)    (z11:PySem.W.nsIn K mainGlobals "sum"=some none)    (z12:PySem.W.nsIn K mainGlobals "tuple"=some none)    (z13:PySem.W.nsIn K mainGlobals "zip"=some none) {t0:Tok} (s0:PySem.W.nsIn K mainGlobals "SIGNS"=some (some (.str "01ab" t0))) (hsub:∀Pt∈ts,Pt=p4\/Pt=p5) :
  (∀Pt∈ts,(∃c,PySem.W.codeHdIn K c Pt=true)/\K.lookup Pt=none)/\∃fd:FuncData,(∀(s:Shared) (v:Value),BindsTo s fd ⟨[v],[]⟩ [("_law_script",v)])/\∀base:Heap,K.In base->base.Ns mainGlobals mg->Q0w mg base->Q7 l.prog w K mg base N1 7 fa fd ["_law_script"] (Q4q K ts 1 Q6z):=by
 have e:=pH.symm.trans (PySem.W.mg_of X G H22.1)
 cases e
 refine⟨fun Pt hp=>by
  rcases hsub Pt hp with rfl | rfl
  ·exact H4.at
  ·exact H5.at
  ,?_⟩
 have T:Txt K mg w:={ m_bool:=bf X G z0,m_enumerate:=bf X G z1,m_isinstance:=bf X G z2,m_len:=bf X G z3,m_list:=bf X G z4,m_max:=bf X G z5,m_min:=bf X G z6,m_range:=bf X G z7,m_reversed:=bf X G z8,m_set:=bf X G z9,m_sorted:=bf X G z10,m_sum:=bf X G z11,m_tuple:=bf X G z12,m_zip:=bf X G z13,c_SIGNS:=⟨t0,PySem.W.mg_of X G s0⟩ }
 have Lw:=H22.df (ps:=["_law_script"]) X G fun _ _ _ _ _ _ us hl=>match us,hl with | [_],_=>rfl
 obtain⟨⟨oc,od,kV,dc,pm,an,cd,ct,sl,e,l1,l2⟩,kp⟩:=H22.2
 refine⟨mh,fun s v=>by subst e;exact .of_eq rfl,fun base hB _ hBM=>?_⟩
 exact Y6a (ad:=fun i=>([f0,f1,f2,f3,f4,f5,f6,f7,f8,f9,nk,nj,ni,nh,ng,na,n9,n8,mZ,mY,mX,mW,fa]:List Addr).getD i 0) (fn:=fun i=>([d0,d1,d2,d3,d4,d5,d6,d7,d8,d9,nF,nE,nD,nC,nB,nA,nz,ny,nv,nu,nr,nq,mh]:List FuncData).getD i d0) ⟨T,hBM,
  H0.df X G fun _ _ _ _ _ _ us hl=>match us,hl with | [_,_],_=>rfl,
  H1.df X G fun _ _ _ _ _ _ us hl=>match us,hl with | [_,_,_],_=>rfl,
  H2.df X G fun _ _ _ _ _ _ us hl=>match us,hl with | [_,_],_=>rfl,
  H3.df X G fun _ _ _ _ _ _ us hl=>match us,hl with | [_,_,_],_=>rfl,
  H4.hr.df X G fun _ _ _ _ _ _ us hl=>match us,hl with | [_],_=>rfl,
  H5.hr.df X G fun _ _ _ _ _ _ us hl=>match us,hl with | [_],_=>rfl,
  H6.df X G fun _ _ _ _ _ _ us hl=>match us,hl with | [_],_=>rfl,
  H7.df X G fun _ _ _ _ _ _ us hl=>match us,hl with | [_],_=>rfl,
  H8.df X G fun _ _ _ _ _ _ us hl=>match us,hl with | [_],_=>rfl,
  H9.df X G fun _ _ _ _ _ _ us hl=>match us,hl with | [_],_=>rfl,
  H10.df X G fun _ _ _ _ _ _ us hl=>match us,hl with | [_,_],_=>rfl,
  H11.df X G fun _ _ _ _ _ _ us hl=>match us,hl with | [_,_],_=>rfl,
  H12.df X G fun _ _ _ _ _ _ us hl=>match us,hl with | [_,_,_],_=>rfl,
  H13.df X G fun _ _ _ _ _ _ us hl=>match us,hl with | [_,_],_=>rfl,
  H14.df X G fun _ _ _ _ _ _ us hl=>match us,hl with | [_,_],_=>rfl,
  H15.df X G fun _ _ _ _ _ _ us hl=>match us,hl with | [_,_],_=>rfl,
  H16.df X G fun _ _ _ _ _ _ us hl=>match us,hl with | [_,_,_],_=>rfl,
  H17.df X G fun _ _ _ _ _ _ us hl=>match us,hl with | [_],_=>rfl,
  H18.df X G fun _ _ _ _ _ _ us hl=>match us,hl with | [_,_,_],_=>rfl,
  H19.df X G fun _ _ _ _ _ _ us hl=>match us,hl with | [_,_,_],_=>rfl,
  H20.df X G fun _ _ _ _ _ _ us hl=>match us,hl with | [_,_],_=>rfl,
  H21.df X G fun _ _ _ _ _ _ us hl=>match us,hl with | [_],_=>rfl,
  H22.df X G fun _ _ _ _ _ _ us hl=>match us,hl with | [_],_=>rfl,⟨_,_,H4.fc,H4.tb⟩,⟨_,_,H5.fc,H5.tb⟩⟩
theorem walk {l:PySem.W.OpenLaw}{q:Program}{dE:List Str}{XP:(Str->Option Value)->Heap->Prop}{YP:World->Heap->Prop}{d:DefRec}{K:Params->Fg9}{ts:List Addr} (hn:l.most=some 63) (jz:d.params.defaults=[])
  (hY:∀(w:World) (h:Heap),YP w h->(K w.params).In h) (lP:∀(w:World) (h:Heap),YP w h->∀Pt∈ts,h.get? Pt=some (PySem.W.tabObj #[]))
  (F:∀(w:World) (mg:Str->Option Value) (fa:Addr) (h:Heap),(K w.params).In h->h.Ns mainGlobals mg->mg d.name=some (.ref fa) ->
   (∀Pt∈ts,(∃c,PySem.W.codeHdIn (K w.params) c Pt=true)/\(K w.params).lookup Pt=none) /\
   ∃fd:FuncData,(∀(s:Shared) (u:Value),BindsTo s fd ⟨[u],[]⟩ [("_law_script",u)])/\∀base:Heap,(K w.params).In base->base.Ns mainGlobals mg->Q0w mg base->Q7 l.prog w (K w.params) mg base N1 7 fa fd ["_law_script"] (Q4q (K w.params) ts 1 Q6z)) :
  PySem.W.WalkO q dE XP YP l.row.toRowW d [] (fun f vs=>PySem.call f vs) :=
 L2.V0t (n:=63) (k:=7) (x:="_law_script") (sp:=fun w=>Q4q (K w.params) ts 1 Q6z) hn (by decide) jz ⟨rfl,by decide,by decide⟩ hY lP F
  (fun w H a ns hl hT hz=>⟨[.st (scr ns)],fun r=>r=.st (.bl true),rfl,⟨_,_,rfl,A2.s_lst hz AllS.ints,rfl⟩,rfl,hT,⟨ns,rfl,hl,rfl⟩,fun r v H' e sm ir=>⟨by subst e;exact ir,fun Pt hp=>sm _ _ (hT Pt hp)⟩⟩)
end K14
end
open PySem PySem.W PyProof.Rows TK
theorem PySem.Challenge.cw_textkinds_k14_texts_holds : PySem.Challenge.rw_textkinds_k14_texts.Holds := by
 w_on;o_law;k_head;(case hw=>w_witness2)
 k_fill
 refine K14.walk (l:=PySem.Challenge.rw_textkinds_k14_texts) rfl rfl (fun w h Y=>PySem.W.km_in_of Y) (fun w h Y=>PySem.W.km_tabs_of Y) ?F
 case F =>
  intro w mg fa h KX G js
  refine' K14.Y6r KX G js ?H0 ?H1 ?H2 ?H3 ?H4 ?H5 ?H6 ?H7 ?H8 ?H9 ?H10 ?H11 ?H12 ?H13 ?H14 ?H15 ?H16 ?H17 ?H18 ?H19 ?H20 ?H21 ?H22 ?z0 ?z1 ?z2 ?z3 ?z4 ?z5 ?z6 ?z7 ?z8 ?z9 ?z10 ?z11 ?z12 ?z13 ?s0 ?hsub
  (case H0=>(refine' Q5 ?_ ?_ ?_ ?_;any_goals k_is))
  (case H1=>(refine' Q5 ?_ ?_ ?_ ?_;any_goals k_is))
  (case H2=>(refine' Q5 ?_ ?_ ?_ ?_;any_goals k_is))
  (case H3=>(refine' Q5 ?_ ?_ ?_ ?_;any_goals k_is))
  (case H4=>(refine' Y0c ?xa ?xl ?xc ?xk ?xq ?xp ?xh ?xn ?xm;(case xa=>k_is);(case xl=>k_is);(case xc=>k_is);(case xk=>k_is);(case xq=>k_is);(case xp=>rfl);(case xh=>kernel_rfl);(case xn=>kernel_rfl);(case xm=>decide)))
  (case H5=>(refine' Y0c ?xa ?xl ?xc ?xk ?xq ?xp ?xh ?xn ?xm;(case xa=>k_is);(case xl=>k_is);(case xc=>k_is);(case xk=>k_is);(case xq=>k_is);(case xp=>rfl);(case xh=>kernel_rfl);(case xn=>kernel_rfl);(case xm=>decide)))
  (case H6=>(refine' Q5 ?_ ?_ ?_ ?_;any_goals k_is))
  (case H7=>(refine' Q5 ?_ ?_ ?_ ?_;any_goals k_is))
  (case H8=>(refine' Q5 ?_ ?_ ?_ ?_;any_goals k_is))
  (case H9=>(refine' Q5 ?_ ?_ ?_ ?_;any_goals k_is))
  (case H10=>(refine' Q5 ?_ ?_ ?_ ?_;any_goals k_is))
  (case H11=>(refine' Q5 ?_ ?_ ?_ ?_;any_goals k_is))
  (case H12=>(refine' Q5 ?_ ?_ ?_ ?_;any_goals k_is))
  (case H13=>(refine' Q5 ?_ ?_ ?_ ?_;any_goals k_is))
  (case H14=>(refine' Q5 ?_ ?_ ?_ ?_;any_goals k_is))
  (case H15=>(refine' Q5 ?_ ?_ ?_ ?_;any_goals k_is))
  (case H16=>(refine' Q5 ?_ ?_ ?_ ?_;any_goals k_is))
  (case H17=>(refine' Q5 ?_ ?_ ?_ ?_;any_goals k_is))
  (case H18=>(refine' Q5 ?_ ?_ ?_ ?_;any_goals k_is))
  (case H19=>(refine' Q5 ?_ ?_ ?_ ?_;any_goals k_is))
  (case H20=>(refine' Q5 ?_ ?_ ?_ ?_;any_goals k_is))
  (case H21=>(refine' Q5 ?_ ?_ ?_ ?_;any_goals k_is))
  (case H22=>(refine' Q5 ?_ ?_ ?_ ?_;any_goals k_is))
  (case z0=>k_is)
  (case z1=>k_is)
  (case z2=>k_is)
  (case z3=>k_is)
  (case z4=>k_is)
  (case z5=>k_is)
  (case z6=>k_is)
  (case z7=>k_is)
  (case z8=>k_is)
  (case z9=>k_is)
  (case z10=>k_is)
  (case z11=>k_is)
  (case z12=>k_is)
  (case z13=>k_is)
  (case s0=>k_is)
  (case hsub=>decide)
#print axioms PySem.Challenge.cw_textkinds_k14_texts_holds
