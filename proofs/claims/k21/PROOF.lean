import PyProof.Rows.All
import Wide.All
import OpenK.AllK
import Wide.FinOn
import Lean
import PyProof.EqAt
import PyProof.EqKinds
import PyProof.TupleCall
import PyProof.WalkInts
import PyProof.ListRange
import PySem.Challenge.RW_textkinds_k21_whole_sets
set_option Elab.async false
set_option linter.all false
set_option maxRecDepth 100000
set_option maxHeartbeats 0
theorem aa:type_of% @PySem.wpAny_bind:=@PySem.wpAny_bind
theorem ac:type_of% @List.getElem?_eq_getElem:=@List.getElem?_eq_getElem
theorem af:type_of% @PySem.Heap.get?_push_of_some:=@PySem.Heap.get?_push_of_some
theorem ag:type_of% @List.length_map:=@List.length_map
theorem ah:type_of% @List.getElem?_map:=@List.getElem?_map
theorem ai:type_of% @Nat.le_refl:=@Nat.le_refl
theorem aj:type_of% @List.mem_map:=@List.mem_map
theorem ak:type_of% @List.mem_append_right:=@List.mem_append_right
theorem am:type_of% @List.getD_eq_getElem?_getD:=@List.getD_eq_getElem?_getD
theorem ao:type_of% @List.mem_cons:=@List.mem_cons
theorem aq:type_of% @PySem.wpAny_pure:=@PySem.wpAny_pure
theorem ar:type_of% @List.map_cons:=@List.map_cons
theorem au:type_of% @PySem.Heap.lt_size:=@PySem.Heap.lt_size
theorem av:type_of% @Nat.ne_of_lt:=@Nat.ne_of_lt
theorem aw:type_of% @List.mem_of_getElem?:=@List.mem_of_getElem?
theorem ax:type_of% @List.mem_cons_of_mem:=@List.mem_cons_of_mem
theorem ay:type_of% @Option.some.inj:=@Option.some.inj
theorem az:type_of% @Nat.lt_of_lt_of_le:=@Nat.lt_of_lt_of_le
theorem aA:type_of% @List.mem_cons_self:=@List.mem_cons_self
theorem aB:type_of% @List.size_toArray:=@List.size_toArray
theorem aC:type_of% @List.getElem?_eq_none_iff:=@List.getElem?_eq_none_iff
theorem aD:type_of% @List.mem_singleton:=@List.mem_singleton
theorem aE:type_of% @List.length_append:=@List.length_append
theorem aF:type_of% @List.getElem?_eq_some_iff:=@List.getElem?_eq_some_iff
theorem aG:type_of% @List.getElem?_set_ne:=@List.getElem?_set_ne
theorem aH:type_of% @PySem.Heap.get?_push_size:=@PySem.Heap.get?_push_size
theorem aI:type_of% @if_neg:=@if_neg
theorem aJ:type_of% @List.getElem?_append_left:=@List.getElem?_append_left
theorem aK:type_of% @List.length_cons:=@List.length_cons
theorem aL:type_of% @PySem.wpAny_mono:=@PySem.wpAny_mono
theorem aM:type_of% @if_pos:=@if_pos
theorem aN:type_of% @List.mem_append:=@List.mem_append
theorem aO:type_of% @List.idxOf_lt_length_iff:=@List.idxOf_lt_length_iff
theorem aP:type_of% @decide_eq_false:=@decide_eq_false
theorem aQ:type_of% @List.map_map:=@List.map_map
theorem aR:type_of% @Nat.lt_irrefl:=@Nat.lt_irrefl
theorem aS:type_of% @List.getElem?_append_right:=@List.getElem?_append_right
theorem aT:type_of% @List.not_mem_nil:=@List.not_mem_nil
theorem aU:type_of% @List.forall_mem_cons:=@List.forall_mem_cons
theorem aW:type_of% @List.length_replicate:=@List.length_replicate
theorem aX:type_of% @Nat.le_trans:=@Nat.le_trans
theorem aY:type_of% @List.getElem?_set_self:=@List.getElem?_set_self
theorem aZ:type_of% @List.find?_cons:=@List.find?_cons
theorem b7:type_of% @List.append_nil:=@List.append_nil
theorem b9:type_of% @List.getElem_mem:=@List.getElem_mem
theorem ba:type_of% @List.nodup_append:=@List.nodup_append
theorem bb:type_of% @List.mem_append_left:=@List.mem_append_left
theorem bf:type_of% @PySem.PassesOwn.never:=@PySem.PassesOwn.never
theorem bg:type_of% @List.length_set:=@List.length_set
theorem bi:type_of% @Nat.lt_succ_of_lt:=@Nat.lt_succ_of_lt
theorem bj:type_of% @List.nodup_cons:=@List.nodup_cons
theorem bn:type_of% @Ne.symm:=@Ne.symm
theorem bo:type_of% @Nat.lt_or_ge:=@Nat.lt_or_ge
theorem bq:type_of% @PySem.wpAny_Call_Name_kw:=@PySem.wpAny_Call_Name_kw
theorem br:type_of% @PySem.Heap.size_push:=@PySem.Heap.size_push
theorem bt:type_of% @List.prefix_refl:=@List.prefix_refl
theorem bu:type_of% @List.mem_iff_getElem:=@List.mem_iff_getElem
theorem bv:type_of% @PyProof.Rows.callWith_type1:=@PyProof.Rows.callWith_type1
theorem bx:type_of% @PySem.Heap.SameBut.update:=@PySem.Heap.SameBut.update
theorem bz:type_of% @PySem.mem_of_lookup:=@PySem.mem_of_lookup
theorem bA:type_of% @List.replicate_succ:=@List.replicate_succ
theorem bB:type_of% @List.map_congr_left:=@List.map_congr_left
theorem bD:type_of% @Nat.zero_le:=@Nat.zero_le
theorem bF:type_of% @List.getElem?_zip_eq_some:=@List.getElem?_zip_eq_some
theorem bG:type_of% @List.length_singleton:=@List.length_singleton
theorem bJ:type_of% @PySem.wpAny_holding:=@PySem.wpAny_holding
theorem bK:type_of% @or_false:=@or_false
theorem bL:type_of% @List.mem_range:=@List.mem_range
theorem bN:type_of% @List.forIn_cons:=@List.forIn_cons
theorem bO:type_of% @beq_eq_false_iff_ne:=@beq_eq_false_iff_ne
theorem bP:type_of% @List.all_eq_true:=@List.all_eq_true
theorem bQ:type_of% @PySem.wpAny_field:=@PySem.wpAny_field
theorem bR:type_of% @PySem.W.mg_none_of:=@PySem.W.mg_none_of
theorem bU:type_of% @PySem.wpAny_newObj_type:=@PySem.wpAny_newObj_type
theorem bV:type_of% @List.length_range:=@List.length_range
theorem bW:type_of% @PySem.wpAny_setField_rec:=@PySem.wpAny_setField_rec
theorem bX:type_of% @PySem.wpAny_seqItems:=@PySem.wpAny_seqItems
theorem bY:type_of% @PySem.Calls.spliced_cons:=@PySem.Calls.spliced_cons
theorem cc:type_of% @List.map_nil:=@List.map_nil
theorem cf:type_of% @PySem.wpAny_pyIter_enum:=@PySem.wpAny_pyIter_enum
theorem ck:type_of% @List.flatten_cons:=@List.flatten_cons
theorem cm:type_of% @Nat.lt_succ_self:=@Nat.lt_succ_self
theorem cn:type_of% @List.zipIdx_cons:=@List.zipIdx_cons
theorem cw:type_of% @List.drop_eq_getElem_cons:=@List.drop_eq_getElem_cons
theorem cA:type_of% @PySem.Heap.get?_update_other:=@PySem.Heap.get?_update_other
theorem cF:type_of% @List.map_append:=@List.map_append
theorem cI:type_of% @PySem.Heap.get?_update_self:=@PySem.Heap.get?_update_self
theorem cJ:type_of% @Bool.false_ne_true:=@Bool.false_ne_true
theorem cK:type_of% @PySem.wpAny_truthy_bool:=@PySem.wpAny_truthy_bool
theorem cO:type_of% @Nat.le_of_lt:=@Nat.le_of_lt
theorem cP:type_of% @PySem.Calls.evalArgs_plain:=@PySem.Calls.evalArgs_plain
theorem cV:type_of% @PySem.wpAny_call_entry:=@PySem.wpAny_call_entry
theorem cW:type_of% @PySem.Around.in1_units:=@PySem.Around.in1_units
theorem de:type_of% @Bool.and_eq_true:=@Bool.and_eq_true
theorem dn:type_of% @PySem.wpAny_passesOwn:=@PySem.wpAny_passesOwn
theorem du:type_of% @PySem.F.slot_dict_setdefault:=@PySem.F.slot_dict_setdefault
theorem dv:type_of% @List.of_mem_zip:=@List.of_mem_zip
theorem dw:type_of% @List.nil_append:=@List.nil_append
theorem dy:type_of% @List.cons.injEq:=@List.cons.injEq
theorem dE:type_of% @PySem.wpAny_callSpecial?_slot:=@PySem.wpAny_callSpecial?_slot
theorem dO:type_of% @PySem.eqIsQuiet_byValue:=@PySem.eqIsQuiet_byValue
theorem dP:type_of% @decide_eq_true:=@decide_eq_true
theorem dQ:type_of% @List.prefix_append:=@List.prefix_append
theorem dR:type_of% @List.nodup_nil:=@List.nodup_nil
theorem dS:type_of% @Int.emod_lt_of_pos:=@Int.emod_lt_of_pos
theorem dU:type_of% @PySem.Calls.spliced_nil:=@PySem.Calls.spliced_nil
theorem dW:type_of% @PySem.Calls.callWith_builtin:=@PySem.Calls.callWith_builtin
theorem dX:type_of% @Bool.false_eq_true:=@Bool.false_eq_true
theorem eT:type_of% @of_decide_eq_true:=@of_decide_eq_true
theorem eU:type_of% @Nat.le_succ:=@Nat.le_succ
theorem eV:type_of% @List.append_assoc:=@List.append_assoc
theorem fe:type_of% @List.any_cons:=@List.any_cons
theorem fG:type_of% @PySem.wpAny_newFunctionEnv:=@PySem.wpAny_newFunctionEnv
theorem fH:type_of% @Nat.succ_ne_self:=@Nat.succ_ne_self
theorem fI:type_of% @List.length_eq_zero_iff:=@List.length_eq_zero_iff
theorem fJ:type_of% @List.drop_length:=@List.drop_length
theorem gA:type_of% @Nat.le_of_eq:=@Nat.le_of_eq
theorem hV:type_of% @List.length_nil:=@List.length_nil
theorem hZ:type_of% @Int.emod_nonneg:=@Int.emod_nonneg
theorem ip:type_of% @List.getElem?_eq_none:=@List.getElem?_eq_none
theorem jk:type_of% @PySem.F.slot_tuple_iterator_next:=@PySem.F.slot_tuple_iterator_next
theorem kG:type_of% @Array.length_toList:=@Array.length_toList
noncomputable abbrev Fg9 := PySem.W.Frag
noncomputable abbrev Pn9 := List (PySem.Addr×PySem.Obj)
noncomputable abbrev VS9 := PySem.Value->PySem.Shared->Prop
section
namespace L2
open PySem PySem.Spec PyProof.Rows
noncomputable abbrev B0:=Sum Int Str
noncomputable def Q4a:B0->Value->Bool
 | .inl k,v=>Value.isInt k v
 | .inr x,v=>Value.isStrOf x v
noncomputable def keyH (w:World):B0->Int
 | .inl k=>hashInt k
 | .inr x=>hashStr w x
theorem Q0q:∀{k:B0}{v:Value},Q4a k v=true->(∃i t,k=Sum.inl i/\v=Value.int i t)\/(∃x t,k=Sum.inr x/\v=Value.str x t)
 | .inl i,v,h=>by
  obtain⟨t,e⟩:=Value.isInt_shape (k:=i) (v:=v) h
  exact .inl ⟨i,t,rfl,e⟩
 | .inr x,v,h=>by
  obtain⟨t,e⟩:=Value.isStrOf_shape (x:=x) (v:=v) h
  exact .inr ⟨x,t,rfl,e⟩
theorem Y9b (i:Int) (t:Tok):Q4a (.inl i) (.int i t)=true:=by simp [Q4a,Value.isInt]
theorem Y9c (x:Str) (t:Tok):Q4a (.inr x) (.str x t)=true:=by simp [Q4a,Value.isStrOf]
theorem Y9e (a b:Int):decide ((Sum.inl a:B0)=Sum.inl b)=(a==b):=by
 by_cases e:a=b
 ·subst e;simp
 ·have h:¬ (Sum.inl a:B0)=Sum.inl b:=fun q=>e (Sum.inl.inj q)
  rw [aP h]
  exact(bO.mpr e).symm
theorem Y9h (a b:Str):decide ((Sum.inr a:B0)=Sum.inr b)=decide (a=b):=by
 by_cases e:a=b
 ·subst e;simp
 ·have h:¬ (Sum.inr a:B0)=Sum.inr b:=fun q=>e (Sum.inr.inj q)
  rw [aP h,aP e]
theorem Y9f (a:Int) (b:Str):decide ((Sum.inl a:B0)=Sum.inr b)=false:=aP (fun q=>nomatch q)
theorem Y9g (a:Str) (b:Int):decide ((Sum.inr a:B0)=Sum.inl b)=false:=aP (fun q=>nomatch q)
noncomputable def K4 (prog:Program) (w:World):PySem.KeyKind prog w B0 where
 is:=Q4a
 hash:=keyH w
 inj:=fun v a b ha hb=>by
  rcases Q0q ha with⟨i,t,rfl,rfl⟩ | ⟨x,t,rfl,rfl⟩
  ·rcases Q0q hb with⟨j,u,rfl,e⟩ | ⟨y,u,rfl,e⟩
   ·injection e with e1 _;rw [e1]
   ·exact nomatch e
  ·rcases Q0q hb with⟨j,u,rfl,e⟩ | ⟨y,u,rfl,e⟩
   ·exact nomatch e
   ·injection e with e1 _;rw [e1]
 byValue:=fun k v h=>by
  rcases Q0q h with⟨i,t,rfl,rfl⟩ | ⟨x,t,rfl,rfl⟩ <;> rfl
 pyHash:=fun hv h=>by
  rcases Q0q hv with⟨i,t,rfl,rfl⟩ | ⟨x,t,rfl,rfl⟩
  ·exact wpAny_pyHash_int h
  ·exact wpAny_pyHash_str h
 eqBool:=fun hu hv h=>by
  rcases Q0q hu with⟨i,t,rfl,rfl⟩ | ⟨x,t,rfl,rfl⟩
  ·rcases Q0q hv with⟨j,u,rfl,rfl⟩ | ⟨y,u,rfl,rfl⟩
   ·rw [Y9e]at h;exact wpAny_eqBool_int h
   ·rw [Y9f]at h;exact SeqAt.EqAt.int_str i t y u _ _ _ _ h
  ·rcases Q0q hv with⟨j,u,rfl,rfl⟩ | ⟨y,u,rfl,rfl⟩
   ·rw [Y9g]at h;exact SeqAt.EqAt.str_int x t j u _ _ _ _ h
   ·rw [Y9h]at h;exact wpAny_eqBool_str h
 «strs»:=fun k x t v h=>by
  rcases Q0q h with⟨i,u,rfl,e⟩ | ⟨y,u,rfl,e⟩
  ·exact nomatch e
  ·injection e with e1 _
   subst e1
   cases v <;> rfl
theorem W0g (prog:Program) (w:World) (i:Int) (t:Tok):(K4 prog w).is (.inl i) (.int i t)=true:=Y9b i t
theorem W0h (prog:Program) (w:World) (x:Str) (t:Tok):(K4 prog w).is (.inr x) (.str x t)=true:=Y9c x t
end L2
namespace L2
open PySem PySem.Spec PyProof.Rows
inductive V where
 | non | bl (b:Bool) | int (i:Int) | str (x:Str) | byt (b:Array UInt8) | flt (b:UInt64) | ref (a:Addr) | ty (n:String)
 deriving DecidableEq
noncomputable def B7:V->Value->Prop
 | .non,u=>u=Value.none
 | .bl b,u=>u=Value.bool b
 | .int i,u=>∃t,u=Value.int i t
 | .str x,u=>∃t,u=Value.str x t
 | .byt b,u=>∃t,u=Value.bytes b t
 | .flt b,u=>∃t,u=Value.float b t
 | .ref a,u=>u=Value.ref a
 | .ty n,u=>u=Value.type n
noncomputable abbrev B6:List V->List Value->Prop:=Paired B7
theorem B6.length {xs:List V}{us:List Value} (r:B6 xs us):xs.length=us.length:=Paired.length r
theorem B6.get:∀{xs:List V}{us:List Value}{i:Nat}{x:V},B6 xs us->xs[i]?=some x->∃u,us[i]?=some u/\B7 x u
 | _,_,_,_,.nil,e=>by simp at e
 | _,_,0,_,.cons r _,e=>by simp at e;subst e;exact⟨_,rfl,r⟩
 | _,_,i+1,x,.cons _ t,e=>by
  obtain⟨u,h1,h2⟩:=B6.get (i:=i) (x:=x) t (by simpa using e)
  exact⟨u,by simpa using h1,h2⟩
theorem B6.set {x:V}{u:Value} (r:B7 x u):∀{xs:List V}{us:List Value} (i:Nat),B6 xs us->B6 (xs.set i x) (us.set i u)
 | _,_,_,.nil=>.nil
 | _,_,0,.cons _ t=>.cons r t
 | _,_,i+1,.cons q t=>.cons q (B6.set r i t)
theorem B6.append:∀{xs ys:List V}{us ws:List Value},B6 xs us->B6 ys ws->B6 (xs++ys) (us++ws)
 | _,_,_,_,.nil,s=>s
 | _,_,_,_,.cons r t,s=>.cons r (B6.append t s)
noncomputable def Y8:Option V->Option Value->Prop
 | some v,some u=>B7 v u
 | none,none=>True
 | _,_=>False
noncomputable def KV {κ:Type}:List (κ×V)->List (κ×Value)->Prop:=Paired fun(p:κ×V) (q:κ×Value)=>p.1=q.1/\B7 p.2 q.2
noncomputable def kV:B0->V
 | .inl i=>.int i
 | .inr x=>.str x
inductive HO where
 | lst (xs:List V)
 | tup (xs:List V)
 | dK (kvs:List (B0×V)) | dT (kvs:List (List B0×V))
 | set (S:Int->Bool) (n:Nat)
 | ins (C dx:Addr) (fs:List (Str×V))
 | own (x:Addr)
 | xd (fs:List (Str×V))
 | met (f x:Addr)
 | rng (lo hi:Int)
 | frz (o:Obj) (u:HO)
 | tab
 | tbl (ps:Array Value)
 | ext (φ:Heap->Prop)
noncomputable abbrev Hp:=Addr->Option HO
noncomputable def upd (H:Hp) (a:Addr) (o:HO):Hp:=fun b=>if b=a then some o else H b
theorem upd_same {H:Hp}{a:Addr}{o:HO}:upd H a o a=some o:=by unfold upd;rw [aM rfl]
theorem A6 {H:Hp}{a b:Addr}{o:HO} (h:b≠a):upd H a o b=H b:=by unfold upd;rw [aI h]
theorem Y0 {H:Hp}{a b:Addr}{o u:HO} (h:H a=some o) (h':H b=some u) (d:o≠u):a≠b:=by
 intro e;subst e;rw [h]at h';exact d (ay h')
theorem V9 {H:Hp}{a b:Addr}{o:HO} (h:H a=some o) (h':H b=none):a≠b:=by
 intro e;subst e;rw [h]at h';cases h'
def Q5a (o:Obj):Prop:=∃vs q t,o.data=.fields vs/\vs[1]?=some (Value.str q t)
def Q7a (a:Addr) (u:HO):Prop:=u=.own a\/∃o,u=.frz o (.own a)
section
variable (P:Program) (w:World)
noncomputable def K1 (H:Hp) (h:Heap) (a:Addr):HO->Prop
 | .lst xs=>xs.length<=sizeLine/\∃(aV:List Value) (n:Nat),B6 xs aV/\h.get? a=some { cls:=.type "list",data:=.seq aV.toArray n }
 | .tup xs=>xs.length<=sizeLine/\∃aV:List Value,B6 xs aV/\IsTup h a aV.toArray
 | .dK kvs=>kvs.length<=sizeLine/\(a==sysModules)=false/\∃vs,KV kvs vs/\h.DictOf (K4 P w) a vs
 | .dT kvs=>kvs.length<=sizeLine/\(a==sysModules)=false/\∃xs:List (List B0×Addr×Value),
   Paired (fun(p:List B0×V) (q:List B0×Addr×Value)=>p.1=q.1/\H q.2.1=some (.tup (p.1.map kV))/\B7 p.2 q.2.2) kvs xs /\
   ∃o es ep,h.get? a=some o/\o.ExactDict/\o.data=.dict es ep/\es.toList=xs.map (entryOfKey (tupleKind (K4 P w)))/\(xs.map (·.1)).Nodup
 | .set S n=>h.SetOf (intKind P w) a S n
 | .ins C dx fs=>H dx=some (.own a)/\fs.length<=1000/\dx≠a/\h.get? a=some (PySem.W.instObj C dx) /\
   ∃mA,h.Ns1 dx mA/\(∀f,Y8 (fs.lookup f) (mA f))/\PySem.Within mA (fs.map (·.1))
 | .own _=>∃o,h.get? a=some o
 | .xd fs=>∃mA,h.Ns1 a mA/\∀f,Y8 (fs.lookup f) (mA f)
 | .rng lo hi=>∃t u v,h.get? a=some { cls:=.type "range",data:=.fields #[.int lo t,.int hi u,.int 1 v] }
 | .frz o u=>h.get? a=some o/\K1 H h a u
 | .tab=>∃ps,h.get? a=some (PySem.W.tabObj ps)/\TriplesOk ps.toList/\∀pos cv,codeAmong pos ps.toList=some cv->∃c' oc,cv=.ref c'/\H c'=some (.frz oc (.own a))/\Q5a oc
 | .tbl ps=>h.get? a=some { cls:=.none,data:=.fields ps }
 | .met f x=>h.get? a=some (PySem.W.methodObj (.ref f) (.ref x))
 | .ext φ=>φ h/\(∃o,h.get? a=some o)/\∀h1 h2:Heap,φ h1->(∀o,h1.get? a=some o->h2.get? a=some o)->φ h2
def F8 (H:Hp) (h:Heap):Prop:=∀a o,H a=some o->K1 P w H h a o
end
section
variable {P:Program}{w:World}{H H':Hp}{h h':Heap}{a:Addr}{o:HO}
theorem K1.lt (x:K1 P w H h a o):a<h.objs.size:=by
 cases o with
 | lst xs=>obtain⟨_,_,_,_,e⟩:=x;exact au e
 | tup xs=>obtain⟨_,_,_,p⟩:=x;exact p.lt
 | dK kvs=>obtain⟨_,_,_,_,o,_,_,e,_⟩:=x;exact au e
 | dT kvs=>obtain⟨_,_,_,_,o,_,_,e,_⟩:=x;exact au e
 | set S n=>obtain⟨o,_,_,_,e,_⟩:=x;exact au e
 | ins C dx fs=>obtain⟨_,_,_,e,_⟩:=x;exact au e
 | own y=>obtain⟨_,e⟩:=x;exact au e
 | xd fs=>obtain⟨_,⟨_,_,_,e,_⟩,_⟩:=x;exact au e
 | rng lo hi=>obtain⟨_,_,_,e⟩:=x;exact au e
 | frz ob u=>obtain⟨e,_⟩:=x;exact au e
 | tab=>obtain⟨_,e,_⟩:=x;exact au e
 | tbl ps=>exact au (show h.get? a=some _ from x)
 | met f y=>exact au (show h.get? a=some _ from x)
 | ext φ=>obtain⟨_,⟨_,e⟩,_⟩:=x;exact au e
theorem Paired.mapP {α β:Type}{F G:α->β->Prop}:∀{l₁:List α}{l₂:List β},Paired F l₁ l₂->(∀a b,F a b->G a b)->Paired G l₁ l₂
 | _,_,.nil,_=>.nil
 | _,_,.cons r t,f=>.cons (f _ _ r) (Paired.mapP t f)
theorem K1.stay (x:K1 P w H h a o) (k:∀b u,(b=a\/H b=some (.own a))->h.get? b=some u->h'.get? b=some u)
  (ho:∀b u,Q7a a u->H b=some u->H' b=some u) (ht:∀b xs,H b=some (.tup xs)->H' b=some (.tup xs)):K1 P w H' h' a o:=by
 induction o with
 | lst xs=>obtain⟨z,aV,n,r,e⟩:=x;exact⟨z,aV,n,r,k _ _ (.inl rfl) e⟩
 | tup xs=>obtain⟨z,aV,r,ob,e,c⟩:=x;exact⟨z,aV,r,ob,k _ _ (.inl rfl) e,c⟩
 | dK kvs=>obtain⟨z,y,vs,r,ob,es,ep,e,c⟩:=x;exact⟨z,y,vs,r,ob,es,ep,k _ _ (.inl rfl) e,c⟩
 | dT kvs =>
  obtain⟨z,y,xs,r,ob,es,ep,e,c⟩:=x
  exact⟨z,y,xs,Paired.mapP r fun p q z=>⟨z.1,ht _ _ z.2.1,z.2.2⟩,ob,es,ep,k _ _ (.inl rfl) e,c⟩
 | set S n=>obtain⟨ob,es,ep,t,e,c⟩:=x;exact⟨ob,es,ep,t,k _ _ (.inl rfl) e,c⟩
 | ins C dx fs =>
  obtain⟨d,z,ne,e,mA,⟨od,es,ep,e2,c⟩,r⟩:=x
  exact⟨ho _ _ (.inl rfl) d,z,ne,k _ _ (.inl rfl) e,mA,⟨od,es,ep,k _ _ (.inr d) e2,c⟩,r⟩
 | own y=>obtain⟨ob,e⟩:=x;exact⟨ob,k _ _ (.inl rfl) e⟩
 | xd fs=>obtain⟨mA,⟨od,es,ep,e,c⟩,r⟩:=x;exact⟨mA,⟨od,es,ep,k _ _ (.inl rfl) e,c⟩,r⟩
 | rng lo hi=>obtain⟨t,u,v,e⟩:=x;exact⟨t,u,v,k _ _ (.inl rfl) e⟩
 | frz ob u ih=>obtain⟨e,q⟩:=x;exact⟨k _ _ (.inl rfl) e,ih q⟩
 | tab =>
  obtain⟨ps,e,t,en⟩:=x
  exact⟨ps,k _ _ (.inl rfl) e,t,fun pos cv q=>let ⟨c',oc,e1,e2,e3⟩:=en pos cv q;⟨c',oc,e1,ho _ _ (.inr ⟨_,rfl⟩) e2,e3⟩⟩
 | tbl ps =>
  have e:h.get? a=some { cls:=.none,data:=.fields ps }:=x
  show h'.get? a=some { cls:=.none,data:=.fields ps }
  exact k a _ (.inl rfl) e
 | met f y =>
  have e:h.get? a=some (PySem.W.methodObj (.ref f) (.ref y)):=x
  show h'.get? a=some (PySem.W.methodObj (.ref f) (.ref y))
  exact k a _ (.inl rfl) e
 | ext φ=>obtain⟨p,⟨o,e⟩,st⟩:=x;exact⟨st _ _ p fun o q=>k _ _ (.inl rfl) q,⟨o,k _ _ (.inl rfl) e⟩,st⟩
theorem F8.lt (x:F8 P w H h) (e:H a=some o):a<h.objs.size:=(x a o e).lt
theorem F8.fresh (x:F8 P w H h) (e:h.objs.size<=a):H a=none:=by
 cases q:H a with
 | none=>rfl
 | some u=>exact absurd (az (x.lt q) e) (aR _)
theorem F8.kept (x:F8 P w H h) (k:∀b u,h.get? b=some u->h'.get? b=some u):F8 P w H h':=fun a o e =>
 (x a o e).stay (fun b u _ q=>k b u q) (fun _ _ _ q=>q) fun _ _ q=>q
theorem F8.laid (x:F8 P w H h) (k:∀b u,h.get? b=some u->h'.get? b=some u) (hp:h.objs.size<=a) (new:K1 P w (upd H a o) h' a o):F8 P w (upd H a o) h':=fun b u e=>by
 have hn:=x.fresh hp
 by_cases hb:b=a
 ·subst hb;rw [upd_same]at e;cases e;exact new
 ·rw [A6 hb]at e
  exact(x b u e).stay (fun c v _ q=>k c v q) (fun c u _ q=>by rw [A6 (V9 q hn)];exact q) fun c xs q=>by rw [A6 (V9 q hn)];exact q
end
def Rd (H:Hp) (a:Addr) (u:HO):Prop:=H a=some u\/∃o,H a=some (.frz o u)
theorem Rd.ok {P:Program}{w:World}{H:Hp}{h:Heap}{a:Addr}{u:HO} (r:Rd H a u) (x:F8 P w H h):K1 P w H h a u:=by
 rcases r with r | ⟨o,r⟩
 ·exact x a u r
 ·obtain⟨_,q⟩:=x a _ r
  exact q
noncomputable def Mut:Option HO->Prop
 | some (.lst _)=>True
 | some (.dK _)=>True
 | some (.dT _)=>True
 | some (.set _ _)=>True
 | some (.ins _ _ _)=>True
 | some (.ext _)=>True
 | some .tab=>True
 | _=>False
section
variable {P:Program}{w:World}{H:Hp}{h h':Heap}{x e:Addr}{o':HO}
theorem F8.write (ok:F8 P w H h) (mu:Mut (H x)) (he:e=x\/H e=some (.own x)) (k:∀b u,b≠e->h.get? b=some u->h'.get? b=some u) (jg:∃u,h'.get? e=some u)
  (new:K1 P w (upd H x o') h' x o'):F8 P w (upd H x o') h':=fun b u q=>by
 have kY:∀c y,H c=some (.own y)->c≠x:=fun c y r z=>by subst z;rw [r]at mu;exact mu
 have jp:∀c u y,Q7a y u->H c=some u->c≠x:=fun c u y ow r z=>by
  subst z
  rw [r]at mu
  rcases ow with rfl | ⟨o,rfl⟩
  ·exact mu
  ·exact mu
 have kX:∀c xs,H c=some (.tup xs)->c≠x:=fun c xs r z=>by subst z;rw [r]at mu;exact mu
 by_cases hb:b=x
 ·subst hb;rw [upd_same]at q;cases q;exact new
 ·rw [A6 hb]at q
  by_cases hbe:b=e
  ·have q':H b=some (.own x):=by
    rcases he with z | z
    ·exact absurd (hbe.trans z) hb
    ·rw [hbe];exact z
   rw [q]at q';cases q'
   obtain⟨v,hv⟩:=jg
   exact⟨v,by rw [hbe];exact hv⟩
  ·refine(ok b u q).stay (fun c v hc r=>k c v ?_ r) (fun c u ow r=>by rw [A6 (jp c u b ow r)];exact r) fun c xs r=>by rw [A6 (kX c xs r)];exact r
   rcases hc with rfl | hc
   ·exact hbe
   ·rintro rfl
    rcases he with z | z
    ·exact kY c b hc z
    ·rw [hc]at z;cases z;exact hb rfl
end
structure Un (fs ex:List Addr) (H H':Hp) (h h':Heap):Prop where
 keep:∀b o,h.get? b=some o->H b=none->b∉fs->b∉ex->h'.get? b=some o
 slot:∀b o,h.get? b=some o->H b=none->b∈fs->b∉ex->∃sl,h'.get? b=some { o with slots:=sl }
 free:∀b o,h.get? b=some o->H b=none->b∉ex->H' b=none
 there:∀b o,h.get? b=some o->b∉ex->∃o',h'.get? b=some o'
 tups:∀b xs,H b=some (.tup xs)->H' b=some (.tup xs)
 frzs:∀b o u,H b=some (.frz o u)->H' b=some (.frz o u)
 tbls:∀b ps,H b=some (.tbl ps)->∃more,H' b=some (.tbl (ps++more))
section
variable {fs r6 ex s9:List Addr}{H H1 H2:Hp}{h h1 h2 h':Heap}{a x e:Addr}{o:HO}
theorem Un.any (u:Un fs ex H H1 h h1) {b:Addr}{ob:Obj} (q:h.get? b=some ob) (n:H b=none) (hx:b∉ex):∃sl,h1.get? b=some { ob with slots:=sl }:=by
 by_cases hb:b∈fs
 ·exact u.slot b ob q n hb hx
 ·exact⟨ob.slots,u.keep b ob q n hb hx⟩
theorem Un.kept (k:∀b u,h.get? b=some u->h'.get? b=some u):Un fs ex H H h h' :=
 ⟨fun b ob q _ _ _=>k b ob q,fun b ob q _ _ _=>⟨ob.slots,k b ob q⟩,fun _ _ _ n _=>n,fun b ob q _=>⟨ob,k b ob q⟩,fun _ _ q=>q,fun _ _ _ q=>q,fun _ ps q=>⟨#[],by rw [q];simp⟩⟩
theorem Un.refl:Un fs ex H H h h:=Un.kept fun _ _ q=>q
theorem Un.laid (k:∀b u,h.get? b=some u->h'.get? b=some u) (hp:h.objs.size<=a) (hn:H a=none):Un fs ex H (upd H a o) h h' where
 keep:=fun b u q _ _ _=>k b u q
 slot:=fun b u q _ _ _=>⟨u.slots,k b u q⟩
 free:=fun b u q n _=>by rw [A6 (av (az (au q) hp))];exact n
 there:=fun b u q _=>⟨u,k b u q⟩
 tups:=fun b xs q=>by rw [A6 (V9 q hn)];exact q
 frzs:=fun b u xs q=>by rw [A6 (V9 q hn)];exact q
 tbls:=fun b ps q=>⟨#[],by rw [A6 (V9 q hn),q];simp⟩
theorem Un.write (mu:Mut (H x)) (he:e=x\/H e=some (.own x)) (k:∀b u,b≠e->h.get? b=some u->h'.get? b=some u) (jg:∃u,h'.get? e=some u):Un fs ex H (upd H x o) h h':=by
 have hx:∀b,H b=none->b≠x:=fun b n z=>by subst z;rw [n]at mu;exact mu
 have hb:∀b,H b=none->b≠e:=fun b n z=>by
  subst z
  rcases he with r | r
  ·exact hx b n r
  ·rw [n]at r;cases r
 have hm:∀b u,H b=some u->¬ Mut (some u)->b≠x:=fun b u q nm z=>by subst z;rw [q]at mu;exact nm mu
 refine⟨fun b u q n _ _=>k b u (hb b n) q,fun b u q n _ _=>⟨u.slots,k b u (hb b n) q⟩,fun b u q n _=>by rw [A6 (hx b n)];exact n,fun b u q _=>?_,
  fun b xs q=>by rw [A6 (hm b _ q fun z=>z)];exact q,fun b u xs q=>by rw [A6 (hm b _ q fun z=>z)];exact q,fun b ps q=>⟨#[],by rw [A6 (hm b _ q fun z=>z),q];simp⟩⟩
 by_cases hbe:b=e
 ·subst hbe;exact jg
 ·exact⟨u,k b u hbe q⟩
end
noncomputable def trk (h:Heap) (H:Hp):List Addr:=(List.range h.objs.size).filter fun a=>(H a).isSome
noncomputable def Q0p (h:Heap) (H:Hp):Heap:=PySem.W.hideAll h (trk h H)
theorem Y8d (h:Heap) (H:Hp):(Q0p h H).objs.size=h.objs.size:=PySem.W.hideAll_size _ _
theorem Y8c {h:Heap}{H:Hp}{b:Addr}{o:Obj} (e:h.get? b=some o) (n:H b=none):(Q0p h H).get? b=some o :=
 PySem.W.hideAll_get _ e fun hm=>by
  have q:(H b).isSome=true:=(List.mem_filter.mp hm).2
  rw [n]at q;simp at q
theorem W1l {h:Heap}{H:Hp}{b:Addr}{o:Obj} (e:(Q0p h H).get? b=some o):h.get? b=some o/\H b=none:=by
 have e':h.get? b=some o:=PySem.W.of_hideAll (trk h H) e
 refine⟨e',?_⟩
 cases q:H b with
 | none=>rfl
 | some x =>
  have hm:b∈trk h H:=List.mem_filter.mpr ⟨bL.mpr (au e'),by simp [q]⟩
  have z:(Q0p h H).get? b=none:=PySem.W.hideAll_none (trk h H) hm
  rw [z]at e;cases e
end L2
namespace L2
open PySem PySem.Spec PyProof.Rows
structure Mod (K:Fg9) (mg:Str->Option Value) (base:Heap):Prop where
 kin:K.In base
 glob:base.Ns mainGlobals mg
 blt:∃mb,base.Ns builtinsNs mb/\∀x:Str,x≠"__name__"->mb x=bootBuiltins x
 nolimit:base.NoLimit
structure Cx where
 prog:Program
 w:World
 K:Fg9
 mg:Str->Option Value
 base:Heap
 A:Around
 N:List Str
 s₀:Shared
 H₀:Hp
 env:Env
 outer:List Env
 stack:List Env
 ex:List Addr
 fn:Str->Bool
 calm:Bool
 pn:Pn9
 xe:VS9
noncomputable def frs (l:List Env):List Addr:=l.filterMap (·.frame)
noncomputable abbrev Cx.fs (X:Cx):List Addr:=frs X.outer
def Vis (sc:Scope) (x:Str):Prop:=sc.names.lookup x=some .local\/sc.names.lookup x=some .cell\/sc.names.lookup x=some .free
def Loc (sc:Scope) (x:Str):Prop:=sc.names.lookup x=some .local\/sc.names.lookup x=some .cell
def Look (env:Env) (h:Heap) (m:Str->Option Value) (x:Str) (u:Value):Prop :=
 (env.kindOf x=some .local/\m x=some u)\/((env.kindOf x=some .cell\/env.kindOf x=some .free)/\∃c,env.cells.lookup x=some c/\h.IsCell c (some u))
structure Cx.Ok (X:Cx):Prop where
 mod:Mod X.K X.mg X.base
 kind:X.env.scope.kind=.function
 glob:X.env.globals=mainGlobals
 blt:X.env.builtins=builtinsNs
 above:X.s₀.heap.objs.size<=X.env.locals
 inj:∀x y c,X.env.cells.lookup x=some c->X.env.cells.lookup y=some c->x=y
 has:∀x,(X.env.kindOf x=some .cell\/X.env.kindOf x=some .free)->∃c,X.env.cells.lookup x=some c
 cab:∀x c,X.fn x=true->X.env.cells.lookup x=some c->X.s₀.heap.objs.size<=c
 hd:X.calm=true->X.A.handled=none
 frames:X.A.frames=some X.stack
 stk:X.stack=X.outer\/(X.stack=X.env::X.outer/\X.env.frame=some X.env.locals)
 exf:∀b∈X.ex,b≠X.env.locals/\∀x c,X.env.cells.lookup x=some c->c≠b
 bs:∀b o,X.base.get? b=some o->X.s₀.heap.get? b=some o/\X.H₀ b=none
 bsz:X.base.objs.size<=X.s₀.heap.objs.size
 noex:∀b o,X.base.get? b=some o->b∉X.ex
 exfs:∀b∈X.ex,b∉X.fs
 funs:X.s₀.heap.FunFrames X.base X.outer
 frf:∀b∈X.fs,X.H₀ b=none
structure A1 (X:Cx) (ae:Pn9) (σ:List (Option V)) (H:Hp) (s:Shared):Prop where
 ok:X.Ok
 os:s.os=X.s₀.os
 bare:AllBare s.gens
 base:Un X.fs X.ex X.H₀ H X.s₀.heap s.heap
 loc:∃m,s.heap.Ns X.env.locals m/\∀(i:Nat) (x:Str) (v:V),X.N[i]?=some x->σ[i]?=some (some v)->Vis X.env.scope x->∃u,B7 v u/\Look X.env s.heap m x u
 cell:∀x c,X.env.cells.lookup x=some c->∃v,s.heap.IsCell c v
 free:H X.env.locals=none
 freeC:∀x c,X.env.cells.lookup x=some c->H c=none
 pin:∀p∈X.pn++ae,s.heap.get? p.1=some p.2/\H p.1=none/\p.1≠X.env.locals/\p.1∉X.fs/\∀v,p.2.data≠.cell v
 hok:F8 X.prog X.w H s.heap
 len:σ.length=X.N.length
section
variable {X:Cx}{ae:Pn9} {σ:List (Option V)}{H H':Hp}{s:Shared}{h':Heap}
theorem Cx.Ok.nofr (ok:X.Ok) {b:Addr}{o:Obj} (e:X.base.get? b=some o):b∉X.fs:=fun hb=>by
 have:=(ok.funs.mem hb).1
 rw [e]at this;cases this
theorem A1.bs (I:A1 X ae σ H s):∀b o,X.base.get? b=some o->s.heap.get? b=some o/\H b=none:=fun b o e =>
 ⟨I.base.keep b o (I.ok.bs b o e).1 (I.ok.bs b o e).2 (I.ok.nofr e) (I.ok.noex b o e),I.base.free b o (I.ok.bs b o e).1 (I.ok.bs b o e).2 (I.ok.noex b o e)⟩
theorem A1.bk (I:A1 X ae σ H s):∀b o,X.base.get? b=some o->s.heap.get? b=some o:=fun b o e=>(I.bs b o e).1
theorem A1.mod (I:A1 X ae σ H s):Mod X.K X.mg X.base:=I.ok.mod
theorem A1.kIn (I:A1 X ae σ H s):X.K.In s.heap:=I.ok.mod.kin.keeps I.bk
theorem A1.lt (I:A1 X ae σ H s):X.env.locals<s.heap.objs.size:=let ⟨_,hn,_⟩:=I.loc;hn.lt
theorem A1.sz (I:A1 X ae σ H s):X.s₀.heap.objs.size<=s.heap.objs.size:=aX I.ok.above (cO I.lt)
theorem A1.nofs (I:A1 X ae σ H s) {a:Addr} (h:s.heap.objs.size<=a):a∉X.fs:=fun hb=>by
 obtain⟨_,o,ho,_⟩:=I.ok.funs.mem hb
 exact absurd (az (au ho) (aX I.sz h)) (aR _)
theorem A1.cne (I:A1 X ae σ H s):∀x c,X.env.cells.lookup x=some c->c≠X.env.locals:=fun x c e z=>by
 obtain⟨v,o,ho,hd⟩:=I.cell x c e
 obtain⟨m,⟨o',es,ep,iU,qB,_⟩,_⟩:=I.loc
 rw [z,iU]at ho;cases ho;rw [qB]at hd;cases hd
theorem A1.funs (I:A1 X ae σ H s):s.heap.FunFrames X.base X.outer:=by
 have all:∀(l:List Env),(∀b∈frs l,b∈X.fs)->X.s₀.heap.FunFrames X.base l->s.heap.FunFrames X.base l:=by
  intro l
  induction l with
  | nil=>intro _ _;trivial
  | cons env r ih =>
   intro hs hl
   obtain⟨hk,⟨L,o,hf,hn,ho,hd⟩,hr⟩:=hl
   have hL:L∈X.fs:=hs L (by unfold frs;rw [List.filterMap_cons,hf];exact aA)
   obtain⟨sl,e⟩:=I.base.slot L o ho (I.ok.frf L hL) hL fun z=>I.ok.exfs L z hL
   exact⟨hk,⟨L,_,hf,hn,e,hd⟩,ih (fun b hb=>hs b (by unfold frs;rw [List.filterMap_cons,hf];exact ax _ hb)) hr⟩
 exact all X.outer (fun _ hb=>hb) I.ok.funs
theorem A1.stack (I:A1 X ae σ H s):s.heap.FunFrames X.base X.stack:=by
 rcases I.ok.stk with e | ⟨e,hf⟩
 ·rw [e];exact I.funs
 ·rw [e]
  obtain⟨m,hn,_⟩:=I.loc
  refine .cons (by rw [I.ok.kind];decide) hf hn ?_ I.funs
  exact Heap.get?_none_of_le (aX I.ok.bsz I.ok.above)
theorem A1.stkSub (I:A1 X ae σ H s):∀b∈frs X.stack,b∈X.env.locals::X.fs:=fun b hb=>by
 rcases I.ok.stk with e | ⟨e,hf⟩
 ·rw [e]at hb;exact ax _ hb
 ·rw [e]at hb
  unfold frs at hb
  rw [List.filterMap_cons,hf]at hb
  exact hb
theorem A1.stkFree (I:A1 X ae σ H s):∀b∈frs X.stack,H b=none:=fun b hb=>by
 rcases ao.mp (I.stkSub b hb)with e | hb
 ·rw [e];exact I.free
 ·obtain⟨_,o,ho,_⟩:=I.ok.funs.mem hb
  exact I.base.free b o ho (I.ok.frf b hb) fun z=>I.ok.exfs b z hb
theorem A1.step {g':Array GenState}{t':Nat}{d':Drawn}{ch:List Addr} (I:A1 X ae σ H s)
  (gv:∀b∈ch,(b∈X.ex\/X.s₀.heap.objs.size<=b)/\b≠X.env.locals/\(∀x c,X.env.cells.lookup x=some c->c≠b)/\∀p∈X.pn++ae,p.1≠b)
  (keep:∀b o,b≠X.env.locals->b∉X.fs->b∉ch->s.heap.get? b=some o->H b=none->h'.get? b=some o)
  (slot:∀b o,b≠X.env.locals->b∈X.fs->b∉ch->s.heap.get? b=some o->H b=none->∃sl,h'.get? b=some { o with slots:=sl }) (free:∀b o,b∉ch->s.heap.get? b=some o->H b=none->H' b=none)
  (there:∀b o,b∉ch->s.heap.get? b=some o->∃o',h'.get? b=some o')
  (tups:∀b xs,H b=some (.tup xs)->H' b=some (.tup xs)) (frzs:∀b o u,H b=some (.frz o u)->H' b=some (.frz o u)) (tbls:∀b ps,H b=some (.tbl ps)->∃more,H' b=some (.tbl (ps++more)))
  (ns:∀m,s.heap.Ns X.env.locals m->h'.Ns X.env.locals m) (hok:F8 X.prog X.w H' h') (hg:AllBare g') :
  A1 X ae σ H' { s with heap:=h',gens:=g',drawn:=d',toks:=t' }:=by
 have mQ:∀b o,X.s₀.heap.get? b=some o->b≠X.env.locals:=fun b o e=>av (az (au e) I.ok.above)
 have gk:∀b o,X.s₀.heap.get? b=some o->b∉X.ex->b∉ch:=fun b o e hx hb=>by
  rcases (gv b hb).1 with z | z
  ·exact hx z
  ·exact absurd (az (au e) z) (aR _)
 have im:∀x c,X.env.cells.lookup x=some c->∀v,s.heap.IsCell c v->h'.IsCell c v:=fun x c e v ⟨o,ho,hd⟩=>by
  have jr:c∉ch:=fun z=>(gv c z).2.2.1 x c e rfl
  by_cases hc:c∈X.fs
  ·obtain⟨sl,q⟩:=slot c o (I.cne x c e) hc jr ho (I.freeC x c e)
   exact⟨_,q,hd⟩
  ·exact⟨o,keep c o (I.cne x c e) hc jr ho (I.freeC x c e),hd⟩
 refine⟨I.ok,I.os,hg,⟨fun b o e n hb hx=>?_,fun b o e n hb hx=>?_,fun b o e n hx=>?_,fun b o e hx=>?_,fun b xs e=>tups b xs (I.base.tups b xs e),fun b o xs e=>frzs b o xs (I.base.frzs b o xs e),fun b ps e=>?_⟩,?_,fun x c e=>?_,?_,fun x c e=>?_,fun p hp=>?_,hok,I.len⟩
 ·exact keep b o (mQ b o e) hb (gk b o e hx) (I.base.keep b o e n hb hx) (I.base.free b o e n hx)
 ·obtain⟨sl,e1⟩:=I.base.slot b o e n hb hx
  obtain⟨oS,e2⟩:=slot b _ (mQ b o e) hb (gk b o e hx) e1 (I.base.free b o e n hx)
  exact⟨oS,e2⟩
 ·obtain⟨o',e1⟩:=I.base.there b o e hx
  exact free b o' (gk b o e hx) e1 (I.base.free b o e n hx)
 ·obtain⟨o',e1⟩:=I.base.there b o e hx
  exact there b o' (gk b o e hx) e1
 ·obtain⟨m1,e1⟩:=I.base.tbls b ps e
  obtain⟨m2,e2⟩:=tbls b _ e1
  exact⟨m1++m2,by rw [e2,Array.append_assoc]⟩
 ·obtain⟨m,hn,hl⟩:=I.loc
  refine⟨m,ns m hn,fun i x v e1 e2 e3=>?_⟩
  obtain⟨u,r,l⟩:=hl i x v e1 e2 e3
  refine⟨u,r,?_⟩
  rcases l with l | ⟨k,c,e,z⟩
  ·exact .inl l
  ·exact .inr ⟨k,c,e,im x c e _ z⟩
 ·obtain⟨v,z⟩:=I.cell x c e
  exact⟨v,im x c e v z⟩
 ·obtain⟨m,⟨o,_,_,ho,_⟩,_⟩:=I.loc
  exact free _ o (fun z=>(gv _ z).2.1 rfl) ho I.free
 ·obtain⟨v,o,ho,hd⟩:=I.cell x c e
  exact free c o (fun z=>(gv c z).2.2.1 x c e rfl) ho (I.freeC x c e)
 ·obtain⟨e,n,ne,nf,d⟩:=I.pin p hp
  have jr:p.1∉ch:=fun z=>(gv p.1 z).2.2.2 p hp rfl
  exact⟨keep p.1 p.2 ne nf jr e n,free p.1 p.2 jr e n,ne,nf,d⟩
theorem A1.un {t':Nat} (I:A1 X ae σ H s) (u:Un X.fs [] H H' s.heap h') (hok:F8 X.prog X.w H' h'):A1 X ae σ H' { s with heap:=h',toks:=t' }:=by
 obtain⟨m,⟨o,es,ep,ho,r⟩,_⟩:=id I.loc
 obtain⟨sl,hL⟩:=u.any ho I.free (by simp)
 exact I.step (g':=s.gens) (d':=s.drawn) (ch:=[]) (fun _ z=>nomatch z) (fun b o _ hb _ e n=>u.keep b o e n hb (by simp)) (fun b o _ hb _ e n=>u.slot b o e n hb (by simp)) (fun b o _ e n=>u.free b o e n (by simp)) (fun b o _ e=>u.there b o e (by simp)) u.tups u.frzs u.tbls (fun m' hm=>by
  obtain⟨o',eC,mh,iU,r'⟩:=hm
  rw [ho]at iU;cases iU
  exact⟨_,eC,mh,hL,r'⟩) hok I.bare
theorem A1.call {g':Array GenState}{t':Nat}{d':Drawn}{ch:List Addr} (I:A1 X ae σ H s) (u:Un (frs X.stack) ch H H' s.heap h') (hok:F8 X.prog X.w H' h') (hg:AllBare g')
  (gv:∀b∈ch,(b∈X.ex\/X.s₀.heap.objs.size<=b)/\b≠X.env.locals/\(∀x c,X.env.cells.lookup x=some c->c≠b)/\∀p∈X.pn++ae,p.1≠b) :
  A1 X ae σ H' { s with heap:=h',gens:=g',drawn:=d',toks:=t' }:=by
 obtain⟨m,⟨o,es,ep,ho,r⟩,_⟩:=id I.loc
 obtain⟨sl,hL⟩:=u.any ho I.free fun z=>(gv _ z).2.1 rfl
 exact I.step (ch:=ch) gv (fun b o hL hb hc e n=>u.keep b o e n (fun z=>(ao.mp (I.stkSub b z)).elim hL hb) hc) (fun b o _ _ hc e n=>u.any e n hc) (fun b o hc e n=>u.free b o e n hc) (fun b o hc e=>u.there b o e hc) u.tups u.frzs u.tbls (fun m' hm=>by
  obtain⟨o',eC,mh,iU,r'⟩:=hm
  rw [ho]at iU;cases iU
  exact⟨_,eC,mh,hL,r'⟩) hok hg
theorem A1.turned {t':Nat}{it:Addr} (I:A1 X ae σ H s) (k:∀b o,b≠it->s.heap.get? b=some o->h'.get? b=some o) (hn:H it=none) (hL:it≠X.env.locals)
  (h1:it∈X.ex\/X.s₀.heap.objs.size<=it) (h2:∀x c,X.env.cells.lookup x=some c->c≠it) (h3:∀p∈X.pn++ae,p.1≠it):A1 X ae σ H { s with heap:=h',toks:=t' }:=by
 have i6:∀b u,H b=some u->b≠it:=fun b u e z=>by rw [z,hn]at e;cases e
 refine I.step (g':=s.gens) (d':=s.drawn) (ch:=[it]) (fun b hb=>?_) (fun b o _ _ hc e _=>k b o (fun z=>hc (by simp [z])) e) (fun b o _ _ hc e _=>⟨o.slots,k b o (fun z=>hc (by simp [z])) e⟩) (fun _ _ _ _ n=>n)
  (fun b o hc e=>⟨o,k b o (fun z=>hc (by simp [z])) e⟩) (fun _ _ e=>e) (fun _ _ _ e=>e) (fun b ps e=>⟨#[],by rw [e];simp⟩) (fun m hm=>?_) (fun b u e=>?_) I.bare
 ·have e:b=it:=by simpa using hb
  subst e
  exact⟨h1,hL,h2,h3⟩
 ·obtain⟨o,es,ep,ho,r⟩:=hm
  exact⟨o,es,ep,k _ o (bn hL) ho,r⟩
 ·refine(I.hok b u e).stay (fun c v hc q=>k c v ?_ q) (fun _ _ _ q=>q) fun _ _ q=>q
  rcases hc with z | z
  ·rw [z];exact i6 b u e
  ·exact i6 c _ z
theorem A1.tok (I:A1 X ae σ H s) (t:Nat):A1 X ae σ H { s with toks:=t }:=I.un (h':=s.heap) (t':=t) Un.refl I.hok
theorem A1.kept {t':Nat} (I:A1 X ae σ H s) (k:∀b u,s.heap.get? b=some u->h'.get? b=some u):A1 X ae σ H { s with heap:=h',toks:=t' }:=I.un (Un.kept k) (I.hok.kept k)
theorem A1.laid {a:Addr}{o:HO}{t':Nat} (I:A1 X ae σ H s) (k:∀b u,s.heap.get? b=some u->h'.get? b=some u) (hp:s.heap.objs.size<=a) (new:K1 X.prog X.w (upd H a o) h' a o) :
  A1 X ae σ (upd H a o) { s with heap:=h',toks:=t' }:=I.un (Un.laid k hp (I.hok.fresh hp)) (I.hok.laid k hp new)
theorem A1.write {x e:Addr}{o:HO}{t':Nat} (I:A1 X ae σ H s) (mu:Mut (H x)) (he:e=x\/H e=some (.own x)) (k:∀b u,b≠e->s.heap.get? b=some u->h'.get? b=some u) (jg:∃u,h'.get? e=some u)
  (new:K1 X.prog X.w (upd H x o) h' x o):A1 X ae σ (upd H x o) { s with heap:=h',toks:=t' }:=I.un (Un.write mu he k jg) (I.hok.write mu he k jg new)
theorem A1.pins_of {i5:Pn9} (I:A1 X ae σ H s) (h:∀p∈i5,s.heap.get? p.1=some p.2/\H p.1=none/\p.1≠X.env.locals/\p.1∉X.fs/\∀v,p.2.data≠.cell v):A1 X i5 σ H s :=
 ⟨I.ok,I.os,I.bare,I.base,I.loc,I.cell,I.free,I.freeC,fun p hp=>(aN.mp hp).elim (fun z=>I.pin p (bb _ z)) (h p),I.hok,I.len⟩
theorem Y0w {N:List Str} (hN:N.Nodup) {i j:Nat}{x:Str} (a:N[i]?=some x) (b:N[j]?=some x):i=j:=by
 obtain⟨h1,e1⟩:=aF.mp a
 obtain⟨h2,e2⟩:=aF.mp b
 exact(List.getElem_inj hN).mp (e1.trans e2.symm)
theorem Z4j {M:Model}{A:Around}{E:VS9}{i:Nat}{x:Str}{v:V}{u:Value}{Q:Unit->Shared->Prop} (I:A1 X ae σ H s) (hN:X.N.Nodup) (hi:X.N[i]?=some x) (hx:Loc X.env.scope x) (r:B7 v u)
  (h:∀s',A1 X ae (σ.set i (some v)) H s'->(∃a,Heap.SameBut a s.heap s'.heap/\(a=X.env.locals\/X.env.cells.lookup x=some a))->Q () s') (hf:X.fn x=true\/X.env.scope.names.lookup x=some .local:=by first | exact .inl rfl | exact .inr rfl | assumption):wpAny M A (storeName X.env x u) Q E s:=by
 obtain⟨m,hn,hl⟩:=id I.loc
 have lV:(X.env.scope.kind==.class||(X.env.scope.kind==.module&&X.env.locals != X.env.globals))=false:=by rw [I.ok.kind];rfl
 have hiσ:i<σ.length:=by rw [I.len];exact(aF.mp hi).1
 have cne:=I.cne
 have tracked:∀{a:Addr}{h':Heap},(∃o,s.heap.get? a=some o/\H a=none)->Heap.SameBut a s.heap h'->F8 X.prog X.w H h':=fun {a h'} ha hs b ob e=>by
  obtain⟨_,_,ig⟩:=ha
  refine(I.hok b ob e).stay (fun c w' hc q=>(hs.2 c ?_).trans q) (fun _ _ _ q=>q) fun _ _ q=>q
  rintro rfl
  rcases hc with rfl | hc
  ·rw [ig]at e;cases e
  ·rw [ig]at hc;cases hc
 rcases hx with hk | hk
 ·refine wpAny_storeName_local hk hn (fun h' qd hs=>?_) lV
  obtain⟨oL,_,_,q8,_⟩:=id hn
  refine h _ ⟨I.ok,I.os,I.bare,⟨fun b o e n hb hx=>?_,fun b o e n hb hx=>?_,I.base.free,fun b o e hx=>?_,I.base.tups,I.base.frzs,I.base.tbls⟩,⟨_,qd,fun j y v' e1 e2 e3=>?_⟩,fun y c e=>?_,I.free,I.freeC,fun p hp=>?_,tracked ⟨oL,q8,I.free⟩ hs,by simpa using I.len⟩ ⟨_,hs,.inl rfl⟩
  ·exact(hs.2 b (av (az (au e) I.ok.above))).trans (I.base.keep b o e n hb hx)
  ·obtain⟨sl,e1⟩:=I.base.slot b o e n hb hx
   exact⟨sl,(hs.2 b (av (az (au e) I.ok.above))).trans e1⟩
  ·obtain⟨o',e1⟩:=I.base.there b o e hx
   exact⟨o',(hs.2 b (av (az (au e) I.ok.above))).trans e1⟩
  ·by_cases hj:j=i
   ·subst hj
    rw [hi]at e1;cases e1
    rw [aY hiσ]at e2
    cases e2
    exact⟨u,r,.inl ⟨hk,by simp⟩⟩
   ·rw [aG (bn hj)]at e2
    obtain⟨u',r',q⟩:=hl j y v' e1 e2 e3
    refine⟨u',r',?_⟩
    rcases q with⟨k,e⟩ | ⟨k,c,e,z⟩
    ·refine .inl ⟨k,?_⟩
     have:y≠x:=fun e=>hj (Y0w hN e1 (e ▸ hi))
     simp [this,e]
    ·exact .inr ⟨k,c,e,z.sameBut hs (cne y c e)⟩
  ·obtain⟨w',z⟩:=I.cell y c e
   exact⟨w',z.sameBut hs (cne y c e)⟩
  ·obtain⟨e,n,ne,nf,d⟩:=I.pin p hp
   exact⟨(hs.2 p.1 ne).trans e,n,ne,nf,d⟩
 ·have gr:X.fn x=true:=by
   rcases hf with z | z
   ·exact z
   ·rw [z]at hk;cases hk
  obtain⟨c,hc⟩:=I.ok.has x (.inl hk)
  obtain⟨w',z⟩:=I.cell x c hc
  refine wpAny_storeName_cell I.ok.kind hk hc z (fun h' cU hs=>?_)
  obtain⟨oc,dL,lG⟩:=id z
  refine h { s with heap:=h' } ⟨I.ok,I.os,I.bare,⟨fun b o e n hb hx=>?_,fun b o e n hb hx=>?_,I.base.free,fun b o e hx=>?_,I.base.tups,I.base.frzs,I.base.tbls⟩,⟨m,hn.sameBut hs (bn (cne x c hc)),fun j y v' e1 e2 e3=>?_⟩,fun y c' e=>?_,I.free,I.freeC,fun p hp=>?_,tracked ⟨oc,dL,I.freeC x c hc⟩ hs,by simpa using I.len⟩ ⟨c,hs,.inr hc⟩
  ·exact(hs.2 b (av (az (au e) (I.ok.cab x c gr hc)))).trans (I.base.keep b o e n hb hx)
  ·obtain⟨sl,e1⟩:=I.base.slot b o e n hb hx
   exact⟨sl,(hs.2 b (av (az (au e) (I.ok.cab x c gr hc)))).trans e1⟩
  ·obtain⟨o',e1⟩:=I.base.there b o e hx
   exact⟨o',(hs.2 b (av (az (au e) (I.ok.cab x c gr hc)))).trans e1⟩
  ·by_cases hj:j=i
   ·subst hj
    rw [hi]at e1;cases e1
    rw [aY hiσ]at e2
    cases e2
    exact⟨u,r,.inr ⟨.inl hk,c,hc,cU⟩⟩
   ·rw [aG (bn hj)]at e2
    obtain⟨u',r',q⟩:=hl j y v' e1 e2 e3
    refine⟨u',r',?_⟩
    rcases q with q | ⟨k,c',e,z'⟩
    ·exact .inl q
    ·refine .inr ⟨k,c',e,z'.sameBut hs ?_⟩
     rintro rfl
     exact hj (Y0w hN e1 (I.ok.inj _ _ _ e hc ▸ hi))
  ·by_cases fq:c'=c
   ·subst fq;exact⟨_,cU⟩
   ·obtain⟨w2,z2⟩:=I.cell y c' e
    exact⟨w2,z2.sameBut hs fq⟩
  ·obtain⟨e,n,ne,nf,d⟩:=I.pin p hp
   refine⟨(hs.2 p.1 ?_).trans e,n,ne,nf,d⟩
   intro q
   rw [q,dL]at e
   have q':oc=p.2:=ay e
   exact d w' (by rw [<- q'];exact lG)
theorem Z4i {M:Model}{A:Around}{E:VS9}{i:Nat}{x:Str}{v:V}{u:Value}{Q:Unit->Shared->Prop} (I:A1 X ae σ H s) (hN:X.N.Nodup) (hi:X.N[i]?=some x) (hx:Loc X.env.scope x) (r:B7 v u)
  (h:∀s',A1 X ae (σ.set i (some v)) H s'->Q () s') (hf:X.fn x=true\/X.env.scope.names.lookup x=some .local:=by first | exact .inl rfl | exact .inr rfl | assumption):wpAny M A (storeName X.env x u) Q E s :=
 Z4j I hN hi hx r (fun s' I' _=>h s' I') hf
theorem A1.call' {s':Shared}{ch:List Addr} (I:A1 X ae σ H s) (ho:s'.os=s.os) (u:Un (frs X.stack) ch H H' s.heap s'.heap) (hok:F8 X.prog X.w H' s'.heap) (hg:AllBare s'.gens)
  (gv:∀b∈ch,(b∈X.ex\/X.s₀.heap.objs.size<=b)/\b≠X.env.locals/\(∀x c,X.env.cells.lookup x=some c->c≠b)/\∀p∈X.pn++ae,p.1≠b):A1 X ae σ H' s':=by
 obtain⟨h',g',d',t',o'⟩:=s'
 have e:o'=s.os:=ho
 subst e
 exact I.call (g':=g') (t':=t') (d':=d') u hok hg gv
end
noncomputable abbrev XK:=Value->Option Addr->Hp->Prop
noncomputable abbrev St:=List (Option V)
noncomputable abbrev VK:=V->Hp->Prop
noncomputable abbrev TE:=St->Hp->VK->Prop
noncomputable abbrev TT:=St->Hp->(Bool->Hp->Prop)->Prop
noncomputable abbrev TA:=St->Hp->(List V->Hp->Prop)->Prop
structure L5 where
 nx:St->Hp->Prop
 rt:VK
 bk:St->Hp->Prop:=fun _ _=>False
 ct:St->Hp->Prop:=fun _ _=>False
noncomputable abbrev TS:=L5->St->Hp->Prop
def EP (X:Cx) (ae:Pn9) (σ:St) (Q:VK) (u:Value) (s':Shared):Prop:=∃v H',A1 X ae σ H' s'/\B7 v u/\Q v H'
def TP (X:Cx) (ae:Pn9) (σ:St) (Q:Bool->Hp->Prop) (b:Bool) (s':Shared):Prop:=∃H',A1 X ae σ H' s'/\Q b H'
def AP (X:Cx) (ae:Pn9) (σ:St) (Q:List V->Hp->Prop) (us:List Value) (s':Shared):Prop:=∃vs H',A1 X ae σ H' s'/\B6 vs us/\Q vs H'
def SP (X:Cx) (ae:Pn9) (D:L5) (f:Flow) (s':Shared):Prop :=
 match f with
 | .next=>∃ σ' H',A1 X ae σ' H' s'/\D.nx σ' H'
 | .brk=>∃ σ' H',A1 X ae σ' H' s'/\D.bk σ' H'
 | .cont=>∃ σ' H',A1 X ae σ' H' s'/\D.ct σ' H'
 | .ret u=>∃v σ' H',A1 X ae σ' H' s'/\B7 v u/\D.rt v H'
def PE (X:Cx) (e:Expr) (t:TE):Prop :=
 ∀(ae:Pn9) (s:Shared) (σ:St) (H:Hp) (Q:VK),A1 X ae σ H s->t σ H Q->wpAny (model X.prog X.w) X.A (eval e X.env) (EP X ae σ Q) X.xe s
def PT (X:Cx) (e:Expr) (t:TT):Prop :=
 ∀(ae:Pn9) (s:Shared) (σ:St) (H:Hp) (Q:Bool->Hp->Prop),A1 X ae σ H s->t σ H Q->wpAny (model X.prog X.w) X.A (isTrue e X.env (eval e X.env)) (TP X ae σ Q) X.xe s
def PW (X:Cx) (e:Expr) (t:TT):Prop :=
 ∀(whole:Sem Value) (ae:Pn9) (s:Shared) (σ:St) (H:Hp) (Q:Bool->Hp->Prop),A1 X ae σ H s->t σ H Q->wpAny (model X.prog X.w) X.A (isTrue e X.env whole) (TP X ae σ Q) X.xe s
theorem PW.pt {X:Cx}{e:Expr}{t:TT} (h:PW X e t):PT X e t:=h _
def PA (X:Cx) (es:List Expr) (t:TA):Prop :=
 ∀(pos:Pos) (ae:Pn9) (s:Shared) (σ:St) (H:Hp) (Q:List V->Hp->Prop),A1 X ae σ H s->t σ H Q->wpAny (model X.prog X.w) X.A (spliced (backTo pos (starEach es X.env))) (AP X ae σ Q) X.xe s
def PS (X:Cx) (st:Stmt) (t:TS):Prop :=
 ∀(ae:Pn9) (s:Shared) (σ:St) (H:Hp) (D:L5),A1 X ae σ H s->t D σ H->wpAny (model X.prog X.w) X.A (exec st X.env) (SP X ae D) X.xe s
def PSs (X:Cx) (st:List Stmt) (t:TS):Prop :=
 ∀(ae:Pn9) (s:Shared) (σ:St) (H:Hp) (D:L5),A1 X ae σ H s->t D σ H->wpAny (model X.prog X.w) X.A (execs st X.env) (SP X ae D) X.xe s
theorem B2 {α:Type}{t:Sem α}{Q Q':α->Shared->Prop}{M:Model}{A:Around}{E:VS9}{s:Shared} (h:wpAny M A t Q E s) (hQ:∀a s,Q a s->Q' a s):wpAny M A t Q' E s:=aL h hQ fun _ _ x=>x
end L2
namespace L2
open PySem PySem.Spec PyProof.Rows
section
variable {X:Cx}
def M0 (i:Nat):TE:=fun σ H Q=>∃v,σ[i]?=some (some v)/\Q v H
def tC (v:V):TE:=fun _ H Q=>Q v H
theorem W2w {i:Nat}{x:Str}{pos:Pos} (hN:X.N[i]?=some x) (hv:Vis X.env.scope x) (hd:(x==("__debug__":Str))=false:=by decide) (dD:(x==("__classdict__":Str))=false:=by decide):PE X (.Name x pos) (M0 i):=by
 intro ae s σ H Q I h
 obtain⟨v,e,h⟩:=h
 obtain⟨m,hn,hl⟩:=I.loc
 obtain⟨u,r,l⟩:=hl i x v hN e hv
 have fin:EP X ae σ Q u s:=⟨v,H,I,r,h⟩
 rcases l with⟨hk,hm⟩ | ⟨hk,c,hc,cL⟩
 ·exact wpAny_Name (wpAny_loadName_local I.ok.kind hk hn hm fin) hd
 ·rcases hk with hk | hk
  ·exact wpAny_Name (wpAny_loadName_cell I.ok.kind hk hc cL fin) hd
  ·exact wpAny_Name (wpAny_loadName_free I.ok.kind hk hc cL fin dD) hd
theorem W2m {i j pos}:PE X (.Constant (.int i) j pos) (tC (.int i)):=fun _ _ _ H _ I h=>wpAny_Constant_int ⟨.int i,H,I.tok _,⟨_,rfl⟩,h⟩
theorem W2b {b j pos}:PE X (.Constant (.bool b) j pos) (tC (.bl b)):=fun _ _ _ H _ I h=>Constant_bool ⟨.bl b,H,I,rfl,h⟩
theorem W2o {j pos}:PE X (.Constant .none j pos) (tC .non):=fun _ _ _ H _ I h=>Constant_none ⟨.non,H,I,rfl,h⟩
theorem W2u {x j pos}:PE X (.Constant (.str x) j pos) (tC (.str x)):=fun _ _ _ H _ I h=>Calls.Constant_str ⟨.str x,H,I.tok _,⟨_,rfl⟩,h⟩
def Gl (X:Cx) (x:Str):Prop:=X.env.kindOf x=some .globalImplicit
theorem Q7y {E:VS9}{ae:Pn9}{s:Shared} {σ:St}{H:Hp}{x:Str}{u:Value}{pos:Pos}{Q:VS9} (I:A1 X ae σ H s) (hg:Gl X x) (hm:X.mg x=some u) (h:Q u s)
  (hd:(x==("__debug__":Str))=false:=by decide):wpAny (model X.prog X.w) X.A (eval (.Name x pos) X.env) Q E s :=
 Calls.Name_function_global I.ok.kind hg (Calls.loadGlobal_global (by rw [I.ok.glob];exact I.mod.glob.keeps I.bk) hm h) hd
theorem Q2f {E:VS9}{ae:Pn9}{s:Shared} {σ:St}{H:Hp}{x:Str}{u:Value}{pos:Pos}{Q:VS9} (I:A1 X ae σ H s) (hg:Gl X x) (hm:X.mg x=none) (hv:bootBuiltins x=some u) (h:Q u s)
  (hn:x≠"__name__":=by decide) (hd:(x==("__debug__":Str))=false:=by decide):wpAny (model X.prog X.w) X.A (eval (.Name x pos) X.env) Q E s:=by
 obtain⟨mb,h1,h2⟩:=I.mod.blt
 exact Calls.Name_function_global I.ok.kind hg (Calls.loadGlobal_builtin (by rw [I.ok.glob];exact I.mod.glob.keeps I.bk) hm (by rw [I.ok.blt];exact h1.keeps I.bk) ((h2 x hn).trans hv) h) hd
theorem W2l {x:Str}{v:V}{u:Value}{pos:Pos} (hg:Gl X x) (hm:X.mg x=some u) (r:B7 v u) (hd:(x==("__debug__":Str))=false:=by decide):PE X (.Name x pos) (tC v) :=
 fun _ _ _ H _ I h=>Q7y I hg hm ⟨v,H,I,r,h⟩ hd
variable {a b:Expr}{ta tb:TE}{pos:Pos}
def PC (X:Cx) (op:CmpOp) (a b:Expr) (t:TE):Prop :=
 ∀(ae:Pn9) (s:Shared) (σ:St) (H:Hp) (Q:VK),A1 X ae σ H s->t σ H Q ->
  wpAny (model X.prog X.w) X.A (eval a X.env) (fun v s₁=>wpAny (model X.prog X.w) X.A (eval b X.env) (fun u s₂=>wpAny (model X.prog X.w) X.A (compareOp op v u) (EP X ae σ Q) X.xe s₂) X.xe s₁) X.xe s
def tB (t:TE):TT:=fun σ H Q=>t σ H fun x H1=>∃c,x=.bl c/\Q c H1
theorem Y1x {op:CmpOp}{t:TE} (h:PC X op a b t) (h1:behindInMarks op b=false:=by first | exact nobehind _ (by decide) (by decide) | rfl):PT X (.Compare a [op] [b] pos) (tB t):=by
 intro ae s σ H Q I hw
 refine wpAny_isTrue_Compare1 (B2 (h ae s σ H _ I hw) fun v s1 h1=>B2 h1 fun u s2 h2=>B2 h2 fun c s3 bp=>?_) h1
 obtain⟨x,H1,I1,r1,q1⟩:=bp
 obtain⟨d,rfl,q⟩:=q1
 cases r1
 exact cK ⟨H1,I1,q⟩
variable {tA mF:TT}{rest:List Expr}
def tOr (t u:TT):TT:=fun σ H Q=>t σ H fun c H1=>if c=true then Q true H1 else u σ H1 Q
theorem W3l (ha:PT X a tA):PW X (.BoolOp .Or [a] pos) tA:=by
 intro wh ae s σ H Q I h
 refine isTrue_or (B2 (ha ae s σ H Q I h) fun c s1 e=>?_)
 cases c with
 | false=>exact isTrue_or_nil e
 | true=>exact e
theorem W3k (ha:PT X a tA) (hb:PW X (.BoolOp .Or (b::rest) pos) mF):PW X (.BoolOp .Or (a::b::rest) pos) (tOr tA mF):=by
 intro wh ae s σ H Q I h
 refine isTrue_or (B2 (ha ae s σ H _ I h) fun c s1 bp=>?_)
 obtain⟨H1,I1,q1⟩:=bp
 cases c with
 | true=>exact⟨H1,I1,q1⟩
 | false=>exact hb wh ae s1 σ H1 Q I1 q1
def W6t (ta tb:TE):TE:=fun σ H Q=>ta σ H fun x H1=>∃c,x=.bl c/\if c=true then tb σ H1 Q else Q (.bl false) H1
def tOrV (ta tb:TE):TE:=fun σ H Q=>ta σ H fun x H1=>∃c,x=.bl c/\if c=true then Q (.bl true) H1 else tb σ H1 Q
def W7c (ta:TE):TE:=fun σ H Q=>ta σ H fun x H1=>∃c,x=.bl c/\Q (.bl (!c)) H1
theorem Y1p {op}{t:TE} (h:PE X a t):PE X (.BoolOp op [a] pos) t:=fun ae s σ H Q I hw=>BoolOp_one (h ae s σ H Q I hw)
theorem W2a (ha:PE X a ta) (hb:PE X (.BoolOp .And (b::rest) pos) tb):PE X (.BoolOp .And (a::b::rest) pos) (W6t ta tb):=by
 intro ae s σ H Q I h
 refine BoolOp_and (B2 (ha ae s σ H _ I h) fun v s1 bp=>?_)
 obtain⟨x,H1,I1,r1,q1⟩:=bp
 obtain⟨c,rfl,q1⟩:=q1
 cases r1
 refine cK ?_
 cases c with
 | true=>exact hb ae s1 σ H1 Q I1 q1
 | false=>exact⟨.bl false,H1,I1,rfl,q1⟩
theorem W2s (ha:PE X a ta) (hb:PE X (.BoolOp .Or (b::rest) pos) tb):PE X (.BoolOp .Or (a::b::rest) pos) (tOrV ta tb):=by
 intro ae s σ H Q I h
 refine BoolOp_or (B2 (ha ae s σ H _ I h) fun v s1 bp=>?_)
 obtain⟨x,H1,I1,r1,q1⟩:=bp
 obtain⟨c,rfl,q1⟩:=q1
 cases r1
 refine cK ?_
 cases c with
 | false=>exact hb ae s1 σ H1 Q I1 q1
 | true=>exact⟨.bl true,H1,I1,rfl,q1⟩
theorem W2p (ha:PE X a ta):PE X (.UnaryOp .Not a pos) (W7c ta):=by
 intro ae s σ H Q I h
 refine UnaryOp_ (B2 (ha ae s σ H _ I h) fun v s1 bp=>?_)
 obtain⟨x,H1,I1,r1,q1⟩:=bp
 obtain⟨c,rfl,q1⟩:=q1
 cases r1
 exact not_of (cK ⟨.bl (!c),H1,I1,rfl,q1⟩)
end
end L2
namespace L2
open PySem PySem.Spec PyProof.Rows
def E3 (K:Fg9) (H:Hp) (a:Addr) (xs:List V):Prop :=
 Rd H a (.lst xs) \/
  ∃(o:Obj) (aV:Array Value) (n:Nat),K.lookup a=some o/\o.cls=.type "list"/\o.dict=none/\o.data=.seq aV n/\aV.size<=sizeLine/\B6 xs aV.toList
def C6 (K:Fg9) (H:Hp) (a:Addr) (xs:List V):Prop :=
 Rd H a (.tup xs) \/
  ∃(o:Obj) (aV:Array Value) (n:Nat),K.lookup a=some o/\o.cls=.type "tuple"/\o.data=.seq aV n/\aV.size<=sizeLine/\B6 xs aV.toList
noncomputable def absV:Value->Option V
 | .none=>some .non
 | .bool b=>some (.bl b)
 | .int i _=>some (.int i)
 | .str x _=>some (.str x)
 | .bytes b _=>some (.byt b)
 | .float b _=>some (.flt b)
 | .ref a=>some (.ref a)
 | .type n=>some (.ty n)
 | _=>none
theorem B7.abs {x:V}{u:Value} (r:B7 x u):absV u=some x:=by
 cases x with
 | non=>cases r;rfl
 | bl _=>cases r;rfl
 | int _=>obtain⟨t,rfl⟩:=r;rfl
 | str _=>obtain⟨t,rfl⟩:=r;rfl
 | byt _=>obtain⟨t,rfl⟩:=r;rfl
 | flt _=>obtain⟨t,rfl⟩:=r;rfl
 | ref _=>cases r;rfl
 | ty _=>cases r;rfl
theorem B7.inj {x y:V}{u:Value} (r:B7 x u) (q:B7 y u):x=y:=ay (r.abs.symm.trans q.abs)
theorem B6.inj:∀{xs ys:List V}{us:List Value},B6 xs us->B6 ys us->xs=ys
 | _,_,_,.nil,.nil=>rfl
 | _,_,_,.cons r t,.cons r' t'=>by rw [r.inj r',B6.inj t t']
section
variable {X:Cx}{ae:Pn9} {σ:St}{H:Hp}{s:Shared}{a:Addr}{xs ys:List V}
theorem E3.of {K:Fg9} (h:H a=some (.lst xs)):E3 K H a xs:=.inl (.inl h)
theorem C6.of {K:Fg9} (h:H a=some (.tup xs)):C6 K H a xs:=.inl (.inl h)
theorem A1.list (I:A1 X ae σ H s) (h:E3 X.K H a xs):∃aV:List Value,B6 xs aV/\PlainL s.heap a aV.toArray/\xs.length<=sizeLine:=by
 rcases h with h | ⟨o,aV,n,hk,hc,hd,hs,hz,r⟩
 ·obtain⟨z,aV,n,r,e⟩:=h.ok I.hok
  exact⟨aV,r,⟨_,n,e,rfl,rfl,rfl⟩,z⟩
 ·refine⟨aV.toList,r,⟨o,n,I.kIn a o hk,hc,hd,by simpa using hs⟩,?_⟩
  have e:=r.length
  simp only [kG]at e
  omega
theorem A1.tuple (I:A1 X ae σ H s) (h:C6 X.K H a xs):∃aV:List Value,B6 xs aV/\IsTup s.heap a aV.toArray/\xs.length<=sizeLine:=by
 rcases h with h | ⟨o,aV,n,hk,hc,hs,hz,r⟩
 ·obtain⟨z,aV,r,p⟩:=h.ok I.hok
  exact⟨aV,r,p,z⟩
 ·refine⟨aV.toList,r,⟨o,I.kIn a o hk,hc,n,by simpa using hs⟩,?_⟩
  have e:=r.length
  simp only [kG]at e
  omega
theorem A1.list_inj (I:A1 X ae σ H s) (h:E3 X.K H a xs) (h':E3 X.K H a ys):xs=ys:=by
 obtain⟨aV,r,⟨o,n,e,_,_,d⟩,_⟩:=I.list h
 obtain⟨its',r',⟨o',n',e',_,_,d'⟩,_⟩:=I.list h'
 rw [e]at e';cases e'
 rw [d]at d'
 injection d' with d1 _
 have:aV=its':=by simpa using congrArg Array.toList d1
 subst this
 exact r.inj r'
theorem A1.tuple_inj (I:A1 X ae σ H s) (h:C6 X.K H a xs) (h':C6 X.K H a ys):xs=ys:=by
 obtain⟨aV,r,⟨o,e,_,n,d⟩,_⟩:=I.tuple h
 obtain⟨its',r',⟨o',e',_,n',d'⟩,_⟩:=I.tuple h'
 rw [e]at e';cases e'
 rw [d]at d'
 injection d' with d1 _
 have:aV=its':=by simpa using congrArg Array.toList d1
 subst this
 exact r.inj r'
end
noncomputable abbrev Cx.wish (X:Cx) (E:VS9):Cx:={ X with xe:=E }
noncomputable abbrev Cx.nox (X:Cx):Cx:=X.wish fun _ _=>False
theorem Cx.Ok.wish {X:Cx} (ok:X.Ok) (E:VS9):(X.wish E).Ok :=
 ⟨ok.mod,ok.kind,ok.glob,ok.blt,ok.above,ok.inj,ok.has,ok.cab,ok.hd,ok.frames,ok.stk,ok.exf,ok.bs,ok.bsz,ok.noex,ok.exfs,ok.funs,ok.frf⟩
theorem Cx.Ok.unwish {X:Cx}{E:VS9} (ok:(X.wish E).Ok):X.Ok :=
 ⟨ok.mod,ok.kind,ok.glob,ok.blt,ok.above,ok.inj,ok.has,ok.cab,ok.hd,ok.frames,ok.stk,ok.exf,ok.bs,ok.bsz,ok.noex,ok.exfs,ok.funs,ok.frf⟩
section
variable {X:Cx}{ae:Pn9} {σ:St}{H:Hp}{s:Shared}{E:VS9}
theorem A1.wish (I:A1 X ae σ H s) (E:VS9):A1 (X.wish E) ae σ H s:=⟨I.ok.wish E,I.os,I.bare,I.base,I.loc,I.cell,I.free,I.freeC,I.pin,I.hok,I.len⟩
theorem A1.unwish (I:A1 (X.wish E) ae σ H s):A1 X ae σ H s:=⟨I.ok.unwish,I.os,I.bare,I.base,I.loc,I.cell,I.free,I.freeC,I.pin,I.hok,I.len⟩
theorem SP.unwish {D:L5}{f:Flow}{s':Shared} (h:SP (X.wish E) ae D f s'):SP X ae D f s':=by
 cases f with
 | next=>obtain⟨σ',H',I,q⟩:=h;exact⟨σ',H',I.unwish,q⟩
 | brk=>obtain⟨σ',H',I,q⟩:=h;exact⟨σ',H',I.unwish,q⟩
 | cont=>obtain⟨σ',H',I,q⟩:=h;exact⟨σ',H',I.unwish,q⟩
 | ret u=>obtain⟨v,σ',H',I,r,q⟩:=h;exact⟨v,σ',H',I.unwish,r,q⟩
theorem PSs.nox {st:List Stmt}{t:TS} (h:PSs X.nox st t):PSs X st t:=fun ae s σ H D I hw =>
 aL (h ae s σ H D (I.wish _) hw) (fun _ _ q=>q.unwish) fun _ _ z=>False.elim z
end
section
variable {X:Cx}{st:Stmt}{rest:List Stmt}{t u:TS}{e:Expr}{te:TE}{pos:Pos}
def W7b:TS:=fun D σ H=>D.nx σ H
def tSeq (t u:TS):TS:=fun D σ H=>t { D with nx:=u D } σ H
theorem W3h:PSs X [] W7b:=fun _ _ σ H _ I h=>wpAny_execs_nil ⟨σ,H,I,h⟩
theorem Y1v (h1:PS X st t) (h2:PSs X rest u):PSs X (st::rest) (tSeq t u):=by
 intro ae s σ H D I h
 refine wpAny_execs_cons (B2 (h1 ae s σ H { D with nx:=u D } I h) fun f s1 q=>?_)
 cases f with
 | next =>
  obtain⟨σ',H',I',q⟩:=q
  exact h2 ae s1 σ' H' D I' q
 | ret v=>exact q
 | brk=>exact q
 | cont=>exact q
theorem Y1w (h1:PS X st t):PSs X [st] t:=by
 intro ae s σ H D I h
 refine wpAny_execs_cons (B2 (h1 ae s σ H D I h) fun f s1 q=>?_)
 cases f with
 | next=>exact wpAny_execs_nil q
 | ret v=>exact q
 | brk=>exact q
 | cont=>exact q
theorem A1.quiet {ae:Pn9} {σ:St}{H:Hp}{s:Shared} (I:A1 X ae σ H s):interactive X.env=false:=by simp [interactive,I.ok.kind]
def W6z (te:TE):TS:=fun D σ H=>te σ H fun _ H1=>D.nx σ H1
theorem Q8q (he:PE X e te) (hs:swapsWith e none pos.line X.env=pure false:=by rfl):PS X (.Expr e pos) (W6z te):=by
 intro ae s σ H D I h
 exact wpAny_Expr_any (B2 (he ae s σ H _ I h) fun v s1 ⟨x,H1,I1,r1,q1⟩=>⟨σ,H1,I1,q1⟩) I.quiet hs
def tRet (te:TE):TS:=fun D σ H=>te σ H D.rt
theorem Z3j (he:PE X e te):PS X (.Return (some e) pos) (tRet te):=by
 intro ae s σ H D I h
 exact wpAny_Return_some (B2 (he ae s σ H _ I h) fun v s1 ⟨x,H1,I1,r1,q1⟩=>⟨x,σ,H1,I1,r1,q1⟩)
def tIfS (c:TT) (t u:TS):TS:=fun D σ H=>c σ H fun b H1=>if b=true then t D σ H1 else u D σ H1
theorem W3f {c:Expr}{a b:List Stmt}{tc:TT} (hc:PT X c tc) (ha:PSs X a t) (hb:PSs X b u):PS X (.If c a b pos) (tIfS tc t u):=by
 intro ae s σ H D I h
 refine wpAny_If (B2 (hc ae s σ H _ I h) fun d s1 bp=>?_)
 obtain⟨H1,I1,q1⟩:=bp
 cases d with
 | true=>exact ha ae s1 σ H1 D I1 q1
 | false=>exact hb ae s1 σ H1 D I1 q1
def W7a:TS:=fun _ _ _=>False
theorem W8v {j7:List Stmt}:PSs X j7 W7a:=fun _ _ _ _ _ _ h=>h.elim
end
noncomputable abbrev TG:=V->St->Hp->(St->Hp->Prop)->Prop
noncomputable abbrev TGs:=List V->St->Hp->(St->Hp->Prop)->Prop
def PG (X:Cx) (target:Expr) (t:TG):Prop :=
 ∀(ae:Pn9) (s:Shared) (σ:St) (H:Hp) (v:V) (u:Value) (Q:St->Hp->Prop),A1 X ae σ H s->B7 v u->t v σ H Q ->
  wpAny (model X.prog X.w) X.A (assign target X.env u) (fun _ s'=>∃ σ' H',A1 X ae σ' H' s'/\Q σ' H') X.xe s
def PGs (X:Cx) (ts:List Expr) (t:TGs):Prop :=
 ∀(ae:Pn9) (s:Shared) (σ:St) (H:Hp) (vs:List V) (us:List Value) (Q:St->Hp->Prop),A1 X ae σ H s->B6 vs us->t vs σ H Q ->
  wpAny (model X.prog X.w) X.A (assignInOrder ((assignEach ts X.env).map (·.2)) us) (fun _ s'=>∃ σ' H',A1 X ae σ' H' s'/\Q σ' H') X.xe s
noncomputable abbrev Z0p:=V->V->V->Hp->(Hp->Prop)->Prop
def Z0o (X:Cx) (t:Z0p):Prop :=
 ∀(ae:Pn9) (s:Shared) (σ:St) (H:Hp) (o i v:V) (ov iv u:Value) (Q:Hp->Prop),A1 X ae σ H s->B7 o ov->B7 i iv->B7 v u->t o i v H Q ->
  wpAny (model X.prog X.w) X.A (setItem ov iv u) (fun _ s'=>∃H',A1 X ae σ H' s'/\Q H') X.xe s
noncomputable abbrev TIp:=V->V->Hp->VK->Prop
def PIp (X:Cx) (op:Operator) (t:TIp):Prop :=
 ∀(ae:Pn9) (s:Shared) (σ:St) (H:Hp) (x y:V) (v u:Value) (Q:VK),A1 X ae σ H s->B7 x v->B7 y u->t x y H Q ->
  wpAny (model X.prog X.w) X.A (inplaceOp op v u) (EP X ae σ Q) X.xe s
section
variable {X:Cx}{pos:Pos}
noncomputable def Q7p (i:Nat):TG:=fun v σ H Q=>Q (σ.set i (some v)) H
theorem Y1q {i:Nat}{x:Str} (hN:X.N.Nodup) (hi:X.N[i]?=some x) (hx:Loc X.env.scope x) (hf:X.fn x=true\/X.env.scope.names.lookup x=some .local:=by first | exact .inl rfl | exact .inr rfl | assumption):PG X (.Name x pos) (Q7p i):=by
 intro ae s σ H v u Q I r h
 exact wpAny_assign_Name (Z4i I hN hi hx r (fun s' I'=>⟨_,H,I',h⟩) hf)
noncomputable def gNil:TGs:=fun vs σ H Q=>vs=[]/\Q σ H
noncomputable def Y8a (t:TG) (u:TGs):TGs:=fun vs σ H Q=>∃v r,vs=v::r/\t v σ H fun σ' H'=>u r σ' H' Q
theorem W2z:PGs X [] gNil:=by
 intro ae s σ H vs us Q I r h
 obtain⟨e,h⟩:=h
 subst e
 cases r
 exact assignInOrder_nil ⟨σ,H,I,h⟩
theorem W2y {e:Expr}{es:List Expr}{t:TG}{u:TGs} (h1:PG X e t) (h2:PGs X es u)
  (hs:(assignEach (e::es) X.env).map (·.2)=assign e X.env::(assignEach es X.env).map (·.2):=by rfl):PGs X (e::es) (Y8a t u):=by
 intro ae s σ H vs us Q I r h
 obtain⟨v,vr,e1,h⟩:=h
 subst e1
 cases r with
 | cons r rr =>
  rw [hs]
  refine assignInOrder_cons (B2 (h1 ae s σ H _ _ _ I r h) fun _ s1 bp=>?_)
  obtain⟨σ1,H1,I1,q1⟩:=bp
  exact h2 ae s1 σ1 H1 _ _ Q I1 rr q1
noncomputable def gTup (K:Fg9) (n:Nat) (t:TGs):TG:=fun v σ H Q=>∃a xs,v=.ref a/\C6 K H a xs/\xs.length=n/\t xs σ H Q
theorem W2x {es:List Expr}{k:Nat}{t:TGs}{n:Nat} (hc:X.calm=true) (h:PGs X es t)
  (hn:(assignEach es X.env).length=n:=by rfl) (lr:(assignEach es X.env).findIdx? (·.1)=none:=by rfl):PG X (.Tuple es k pos) (gTup X.K n t):=by
 intro ae s σ H v u Q I r hw
 obtain⟨a,xs,e1,hq,hl,hw⟩:=hw
 subst e1
 cases r
 obtain⟨aV,rv,ht,hz⟩:=I.tuple hq
 refine assign_Tuple_tuple (I.ok.hd hc) ht (by simp [hn,<- hl,rv.length]) lr fun h' hx=>?_
 have I1:A1 X ae σ H { s with heap:=h' }:=I.kept (t':=s.toks) fun b o e=>hx b o (av (au e)) e
 exact h ae _ σ H xs _ Q I1 (by simpa using rv) hw
noncomputable def gSub (to ti:TE) (t:Z0p):TG:=fun v σ H Q=>to σ H fun o H1=>ti σ H1 fun i H2=>t o i v H2 fun H3=>Q σ H3
theorem Y1r {o i:Expr}{to ti:TE}{t:Z0p} (ho:PE X o to) (hi:PE X i ti) (hs:Z0o X t)
  (ha:∀v,assign (.Subscript o i pos) X.env v=(do
   let ov <- holding [v] (eval o X.env)
   let iv <- holding [v,ov] (eval i X.env)
   standAt pos
   holding [v,ov,iv] (setItem ov iv v)
   release [v,ov,iv] []):=by intro _;rfl):PG X (.Subscript o i pos) (gSub to ti t):=by
 intro ae s σ H v u Q I r h
 rw [ha]
 refine aa (bJ (B2 (ho ae s σ H _ I h) fun ov s1 bp=>?_))
 obtain⟨x,H1,I1,r1,q1⟩:=bp
 refine aa (bJ (B2 (hi ae s1 σ H1 _ I1 q1) fun iv s2 bp=>?_))
 obtain⟨y,H2,I2,r2,q2⟩:=bp
 refine aa (wpAny_standAt (aa (bJ (B2 (hs ae s2 σ H2 x y v ov iv u _ I2 r1 r2 r q2) fun _ s3 bp=>?_))))
 obtain⟨H3,I3,q3⟩:=bp
 exact wpAny_release ⟨σ,H3,I3,q3⟩
def tAsg (te:TE) (g:TG):TS:=fun D σ H=>te σ H fun x H1=>g x σ H1 D.nx
theorem Z3i {tg e:Expr}{te:TE}{g:TG} (he:PE X e te) (hg:PG X tg g) (hs:swapsWithSole [tg] e pos.line X.env=pure false:=by rfl) (hw:swappedStores [tg] e X.env=pure none:=by rfl)
  (h1:(assignEach [tg] X.env).map (·.2)=[assign tg X.env]:=by rfl):PS X (.Assign [tg] e pos) (tAsg te g):=by
 intro ae s σ H D I h
 refine wpAny_Assign_stores (B2 (he ae s σ H _ I h) fun v s1 bp=>?_) hs hw
 obtain⟨x,H1,I1,r1,q1⟩:=bp
 rw [h1]
 exact B2 (hg ae s1 σ H1 x v _ I1 r1 q1) fun _ s2 q=>q
theorem Q3h {i:Nat}{x:Str}{e:Expr}{te:TE}{be:Pos} (hN:X.N.Nodup) (hi:X.N[i]?=some x) (hx:Loc X.env.scope x) (he:PE X e te) (hs:swapsWith e (some (.Name x be)) pos.line X.env=pure false:=by rfl) (hf:X.fn x=true\/X.env.scope.names.lookup x=some .local:=by first | exact .inl rfl | exact .inr rfl | assumption) :
  PS X (.Assign [.Name x be] e pos) (tAsg te (Q7p i)):=by
 intro ae s σ H D I h
 refine wpAny_Assign_Name (B2 (he ae s σ H _ I h) fun v s1 bp=>?_) hs
 obtain⟨y,H1,I1,r1,q1⟩:=bp
 exact Z4i I1 hN hi hx r1 (fun s2 I2=>⟨_,H1,I2,q1⟩) hf
def tAug (i:Nat) (te:TE) (ti:TIp):TS:=fun D σ H=>∃x,σ[i]?=some (some x)/\te σ H fun y H1=>ti x y H1 fun z H2=>D.nx (σ.set i (some z)) H2
theorem W3d {i:Nat}{x:Str}{e:Expr}{te:TE}{op:Operator}{ti:TIp}{be:Pos} (hN:X.N.Nodup) (hi:X.N[i]?=some x) (hx:Loc X.env.scope x) (he:PE X e te) (ho:PIp X op ti) (hf:X.fn x=true\/X.env.scope.names.lookup x=some .local:=by first | exact .inl rfl | exact .inr rfl | assumption) :
  PS X (.AugAssign (.Name x be) op e pos) (tAug i te ti):=by
 intro ae s σ H D I h
 obtain⟨v,e1,h⟩:=h
 obtain⟨m,hn,hl⟩:=I.loc
 have oM:Vis X.env.scope x:=by rcases hx with k | k;exact .inl k;exact .inr (.inl k)
 obtain⟨u,r,l⟩:=hl i x v hi e1 oM
 refine wpAny_AugAssign_Name ?_
 have go:wpAny (model X.prog X.w) X.A (eval e X.env) (fun w s₂=>wpAny (model X.prog X.w) X.A (inplaceOp op u w) (fun r s₃=>wpAny (model X.prog X.w) X.A (storeName X.env x r) (fun _=>SP X ae D .next) X.xe s₃) X.xe s₂) X.xe s:=by
  refine B2 (he ae s σ H _ I h) fun w s1 bp=>?_
  obtain⟨y,H1,I1,r1,q1⟩:=bp
  refine B2 (ho ae s1 σ H1 v y u w _ I1 r r1 q1) fun z s2 bp=>?_
  obtain⟨zv,H2,I2,r2,q2⟩:=bp
  exact Z4i I2 hN hi hx r2 (fun s3 I3=>⟨_,H2,I3,q2⟩) hf
 rcases l with⟨hk,hm⟩ | ⟨hk,c,hc,cL⟩
 ·exact wpAny_loadName_local I.ok.kind hk hn hm go
 ·rcases hk with hk | hk
  ·exact wpAny_loadName_cell I.ok.kind hk hc cL go
  ·rcases hx with k | k
   ·have:X.env.scope.names.lookup x=some .free:=hk
    rw [k]at this;cases this
   ·have:X.env.scope.names.lookup x=some .free:=hk
    rw [k]at this;cases this
end
section
variable {X:Cx}{pos:Pos}
def W7f (c:TT) (tb:TS):TS:=fun D σ H=>∃W:Nat->St->Hp->Prop,(∃m,W m σ H)/\∀m σ H,W m σ H ->
 c σ H fun b H1=>if b=true then ∃N:St->Hp->Prop,(∀ σ' H',N σ' H'->∃m',m'<m/\W m' σ' H')/\tb { D with nx:=N,ct:=N,bk:=D.nx } σ H1 else D.nx σ H1
theorem W3g {c:Expr}{body:List Stmt}{tc:TT}{tb:TS} (hp:PassesOwn (model X.prog X.w) X.A X.env X.xe) (hc:PT X c tc) (hb:PSs X body tb):PS X (.While c body [] pos) (W7f tc tb):=by
 intro ae s σ H D I h
 obtain⟨W,⟨m0,w0⟩,eG⟩:=h
 refine wpAny_While (codeAny_whileLoop (fun n s'=>∃ σ' H',A1 X ae σ' H' s'/\W n σ' H') ?_ m0 ⟨σ,H,I,w0⟩)
 rintro n s1 ⟨σ1,H1,I1,w1⟩
 refine dn hp (B2 (hc ae s1 σ1 H1 _ I1 (eG n σ1 H1 w1)) fun b s2 bp=>?_)
 obtain⟨H2,I2,q2⟩:=bp
 cases b with
 | true =>
  obtain⟨N,hN,q2⟩:=q2
  rw [aM rfl]
  refine dn hp (B2 (hb ae s2 σ1 H2 _ I2 q2) fun f s3 q3=>?_)
  cases f with
  | next =>
   obtain⟨σ3,H3,I3,n3⟩:=q3
   obtain⟨m',hm,w3⟩:=hN σ3 H3 n3
   exact⟨m',hm,σ3,H3,I3,w3⟩
  | cont =>
   obtain⟨σ3,H3,I3,n3⟩:=q3
   obtain⟨m',hm,w3⟩:=hN σ3 H3 n3
   exact⟨m',hm,σ3,H3,I3,w3⟩
  | brk=>exact q3
  | ret v=>exact q3
 | false =>
  rw [aI cJ]
  exact wpAny_execs_nil ⟨σ1,H2,I2,q2⟩
end
structure It where
 go:Nat->Hp->Prop
 yld:Nat->Hp->V->Hp->Prop
 stop:Nat->Hp->Prop
def K9 (X:Cx) (ae:Pn9) (H:Hp) (b:Addr):Prop :=
 H b=none/\b≠X.env.locals/\b∉X.fs/\(b∈X.ex\/X.s₀.heap.objs.size<=b)/\(∀x c,X.env.cells.lookup x=some c->c≠b)/\∀p∈X.pn++ae,p.1≠b
theorem A1.fpOk {X:Cx}{ae:Pn9} {σ:St}{H H':Hp}{s:Shared}{b:Addr} (I:A1 X ae σ H s) (hb:s.heap.objs.size<=b) (hn:H' b=none):K9 X ae H' b:=by
 refine⟨hn,Nat.ne_of_gt (az I.lt hb),I.nofs hb,.inr (aX I.sz hb),fun x c e z=>?_,fun p hp z=>?_⟩
 ·obtain⟨v,q⟩:=I.cell x c e
  exact absurd (az q.lt (by rw [z];exact hb)) (aR _)
 ·exact absurd (az (au (I.pin p hp).1) (by rw [z];exact hb)) (aR _)
structure Q1c (P:Program) (w:World) (K:Fg9) (tg:Expr) (J:It) (fp:List Addr) (it:Addr) (tn:Nat->Heap->Prop):Prop where
 mem:it∈fp
 obj:∀i h,tn i h->∀b∈fp,∃o,h.get? b=some o/\∀v,o.data≠.cell v
 keep:∀i h h',tn i h->(∀b∈fp,∀o,h.get? b=some o->h'.get? b=some o)->tn i h'
 item:∀(X:Cx),X.prog=P->X.w=w->X.K=K->X.calm=true->∀(i:Nat) (ae:Pn9) (s:Shared) (σ:St) (H:Hp) (E:VS9),A1 X ae σ H s->(∀b∈fp,K9 X ae H b)->tn i s.heap->J.go i H ->
  wpAny (model P w) X.A (pyNext (.ref it)) (fun r s1=>∃u,r=some u /\
   wpAny (model P w) X.A (letOwnedTupleGo tg (.ref it) u) (fun _ s2=>∃x H',A1 X ae σ H' s2/\B7 x u/\J.yld i H x H'/\tn (i+1) s2.heap/\∀b∈fp,H' b=none) E s1) E s
 done:∀(X:Cx),X.prog=P->X.w=w->X.K=K->X.calm=true->∀(i:Nat) (ae:Pn9) (s:Shared) (σ:St) (H:Hp) (E:VS9),A1 X ae σ H s->(∀b∈fp,K9 X ae H b)->tn i s.heap->J.stop i H ->
  wpAny (model P w) X.A (pyNext (.ref it)) (fun r s1=>r=none/\A1 X ae σ H s1) E s
 self:∀(A:Around) (i:Nat) (s:Shared) (Q:VS9) (E:VS9),tn i s.heap->Q (.ref it) s->wpAny (model P w) A (pyIter (.ref it)) Q E s
noncomputable abbrev TI:=St->Hp->(It->Hp->Prop)->Prop
def PIE (X:Cx) (ae:Pn9) (σ:St) (tg:Expr) (R:It->Hp->Prop) (j9:Value) (s2:Shared):Prop :=
 ∃(it:Addr) (fp:List Addr) (tn:Nat->Heap->Prop) (J:It) (H':Hp),j9=.ref it/\A1 X ae σ H' s2/\Q1c X.prog X.w X.K tg J fp it tn/\tn 0 s2.heap/\(∀b∈fp,K9 X ae H' b)/\R J H'
def PI (X:Cx) (tg iter:Expr) (wi:TI):Prop :=
 ∀(ae:Pn9) (s:Shared) (σ:St) (H:Hp) (R:It->Hp->Prop),A1 X ae σ H s->wi σ H R ->
  wpAny (model X.prog X.w) X.A (eval iter X.env) (fun v s1=>wpAny (model X.prog X.w) X.A (pyIter v) (PIE X ae σ tg R) X.xe s1) X.xe s
theorem Q7q {M:Model}{A:Around}{E:VS9}{s:Shared}{tg:Expr}{it:Addr}{u:Value}{o:Obj}{n:String}{vs:Array Value}{Q:Unit->Shared->Prop} (ho:s.heap.get? it=some o) (hc:o.cls=.type n) (hd:o.data=.fields vs)
  (hn:["enumerate","zip","dict_itemiterator","dict_reverseitemiterator","odict_iterator","itertools.zip_longest","itertools.pairwise"].contains n=false) (hQ:Q () s):wpAny M A (letOwnedTupleGo tg (.ref it) u) Q E s:=by
 unfold letOwnedTupleGo
 cases tg <;> first
  | exact aq hQ
  | (cases u <;> first
    | exact aq hQ
    | (refine aa (wpAny_load ho ?_)
       rw [hc,hd]
       show wpAny M A (if (["enumerate","zip","dict_itemiterator","dict_reverseitemiterator","odict_iterator","itertools.zip_longest","itertools.pairwise"].contains n&&vs[0]?==some (rawInt _))=true then _ else _) Q E s
       rw [aI (by intro h;rw [hn,Bool.false_and]at h;cases h)]
       exact aq hQ))
noncomputable def Itl (K:Fg9) (a:Addr):It :=
 ⟨fun i H=>∃xs x,E3 K H a xs/\xs[i]?=some x,fun i H x H'=>H'=H/\∀xs,E3 K H a xs->xs[i]?=some x,fun i H=>∃xs,E3 K H a xs/\xs.length<=i⟩
noncomputable def Itt (K:Fg9) (a:Addr):It :=
 ⟨fun i H=>∃xs x,C6 K H a xs/\xs[i]?=some x,fun i H x H'=>H'=H/\∀xs,C6 K H a xs->xs[i]?=some x,fun i H=>∃xs,C6 K H a xs/\xs.length<=i⟩
noncomputable def Itr (lo:Int) (n:Nat):It:=⟨fun i _=>i<n,fun i H x H'=>H'=H/\x=.int (lo+i),fun i _=>n<=i⟩
theorem W7r {P:Program}{w:World}{K:Fg9}{tg:Expr} (a it:Addr):Q1c P w K tg (Itl K a) [it] it (fun i h=>h.IsListIter it a i) where
 mem:=by simp
 obj:=fun i h st b hb=>by
  have e:b=it:=by simpa using hb
  subst e
  obtain⟨o,e,c,d⟩:=st
  exact⟨o,e,fun v z=>by rw [d]at z;cases z⟩
 keep:=fun i h h' st k=>st.at fun o e=>k it (by simp) o e
 item:=by
  intro X hP hw hK hc i ae s σ H E I hf st hg
  subst hP hw hK
  obtain⟨xs,x,hq,hx⟩:=hg
  obtain⟨aV,rv,p,hz⟩:=I.list hq
  obtain⟨u,hu,ru⟩:=rv.get hx
  obtain⟨f0,f1,f2,f3,f4,f5⟩:=hf it (by simp)
  refine wpAny_pyNext_list_item st p.isList (x:=u) (by simpa using hu) fun h' fg sb=>?_
  have I1:A1 X ae σ H { s with heap:=h' }:=I.turned (t':=s.toks) (fun b o hb e=>(sb.2 b hb).trans e) f0 f1 f3 f4 f5
  obtain⟨o,e,c,d⟩:=id fg
  exact⟨u,rfl,Q7q (s:={ s with heap:=h' }) e c d (by decide) ⟨x,H,I1,ru,⟨rfl,fun ys hy=>by rw [I.list_inj hy hq];exact hx⟩,fg,fun b hb=>(hf b hb).1⟩⟩
 done:=by
  intro X hP hw hK hc i ae s σ H E I hf st hg
  subst hP hw hK
  obtain⟨xs,hq,hx⟩:=hg
  obtain⟨aV,rv,p,hz⟩:=I.list hq
  obtain⟨f0,f1,f2,f3,f4,f5⟩:=hf it (by simp)
  have hl:=rv.length
  exact wpAny_pyNext_list_end (I.ok.hd hc) st p.isList (by simp;omega) fun h' eb=>⟨rfl,I.turned (t':=s.toks) (fun b o hb e=>eb b o hb e) f0 f1 f3 f4 f5⟩
 self:=fun _ _ _ _ _ st h=>wpAny_pyIter_listiter st h
theorem W7u {P:Program}{w:World}{K:Fg9}{tg:Expr} (a it:Addr):Q1c P w K tg (Itt K a) [it] it (fun i h=>h.IsTupleIter it a i) where
 mem:=by simp
 obj:=fun i h st b hb=>by
  have e:b=it:=by simpa using hb
  subst e
  obtain⟨o,e,c,d⟩:=st
  exact⟨o,e,fun v z=>by rw [d]at z;cases z⟩
 keep:=fun i h h' st k=>st.at fun o e=>k it (by simp) o e
 item:=by
  intro X hP hw hK hc i ae s σ H E I hf st hg
  subst hP hw hK
  obtain⟨xs,x,hq,hx⟩:=hg
  obtain⟨aV,rv,p,hz⟩:=I.tuple hq
  obtain⟨u,hu,ru⟩:=rv.get hx
  obtain⟨f0,f1,f2,f3,f4,f5⟩:=hf it (by simp)
  refine wpAny_pyNext_tuple_item st (show s.heap.IsTuple a aV.toArray from p) (x:=u) (by simpa using hu) fun h' fg sb=>?_
  have I1:A1 X ae σ H { s with heap:=h' }:=I.turned (t':=s.toks) (fun b o hb e=>(sb.2 b hb).trans e) f0 f1 f3 f4 f5
  obtain⟨o,e,c,d⟩:=id fg
  exact⟨u,rfl,Q7q (s:={ s with heap:=h' }) e c d (by decide) ⟨x,H,I1,ru,⟨rfl,fun ys hy=>by rw [I.tuple_inj hy hq];exact hx⟩,fg,fun b hb=>(hf b hb).1⟩⟩
 done:=by
  intro X hP hw hK hc i ae s σ H E I hf st hg
  subst hP hw hK
  obtain⟨xs,hq,hx⟩:=hg
  obtain⟨aV,rv,p,hz⟩:=I.tuple hq
  obtain⟨f0,f1,f2,f3,f4,f5⟩:=hf it (by simp)
  have hl:=rv.length
  exact wpAny_pyNext_tuple_end (I.ok.hd hc) st (show s.heap.IsTuple a aV.toArray from p) (by simp;omega) fun h' eb=>⟨rfl,I.turned (t':=s.toks) (fun b o hb e=>eb b o hb e) f0 f1 f3 f4 f5⟩
 self:=fun _ _ _ _ _ st h=>wpAny_pyIter_tupleiter st h
theorem W7s {P:Program}{w:World}{K:Fg9}{tg:Expr} (it:Addr) (lo:Int) (n:Nat):Q1c P w K tg (Itr lo n) [it] it (fun i h=>IsRangeIter h it (lo+(i:Nat)*1) ((n:Int)-(i:Nat)) 1) where
 mem:=by simp
 obj:=fun i h st b hb=>by
  have e:b=it:=by simpa using hb
  subst e
  exact⟨_,st,fun v z=>by
   have z':Data.fields _=Data.cell v:=z
   cases z'⟩
 keep:=fun i h h' st k=>k it (by simp) _ st
 item:=by
  intro X hP hw hK hc i ae s σ H E I hf st hg
  subst hP hw hK
  obtain⟨f0,f1,f2,f3,f4,f5⟩:=hf it (by simp)
  have W:=Walks.range (prog:=X.prog) (w:=X.w) (I.ok.hd hc) it lo 1 n
  refine W.item i s _ _ hg st fun v h' tk hv fg kk=>?_
  obtain⟨t,rfl⟩:=hv
  have I1:A1 X ae σ H { s with heap:=h',toks:=tk }:=I.turned (fun b o hb e=>kk b o (by simpa using hb) e) f0 f1 f3 f4 f5
  refine⟨_,rfl,Q7q (s:={ s with heap:=h',toks:=tk }) (n:="range_iterator") fg rfl rfl (by decide) ⟨.int (lo+i),H,I1,⟨t,?_⟩,⟨rfl,rfl⟩,fg,fun b hb=>(hf b hb).1⟩⟩
  rw [Int.mul_one]
 done:=by
  intro X hP hw hK hc i ae s σ H E I hf st hg
  subst hP hw hK
  obtain⟨f0,f1,f2,f3,f4,f5⟩:=hf it (by simp)
  exact wpAny_pyNext_range_end (I.ok.hd hc) st (by have:n<=i:=hg;omega) fun h' eb=>⟨rfl,I.turned (t':=s.toks) (fun b o hb e=>eb b o hb e) f0 f1 f3 f4 f5⟩
 self:=fun _ _ _ _ _ st h=>wpAny_pyIter_rangeiter st h
end L2
namespace L2
open PySem PySem.Spec PyProof.Rows
section
variable {X:Cx}{tg:Expr}
noncomputable def Y8f (K:Fg9) (tl:TE):TI:=fun σ H R=>tl σ H fun x H1=>∃a,x=.ref a/\(∃xs,E3 K H1 a xs)/\R (Itl K a) H1
noncomputable def Q5p (K:Fg9) (tl:TE):TI:=fun σ H R=>tl σ H fun x H1=>∃a,x=.ref a/\(∃xs,C6 K H1 a xs)/\R (Itt K a) H1
theorem Z3h {l:Expr}{tl:TE} (hl:PE X l tl):PI X tg l (Y8f X.K tl):=by
 intro ae s σ H R I h
 refine B2 (hl ae s σ H _ I h) fun v s1 bp=>?_
 obtain⟨x,H1,I1,r1,q1⟩:=bp
 obtain⟨a,e,⟨xs,hq⟩,q⟩:=q1
 subst e
 cases r1
 obtain⟨aV,rv,p,hz⟩:=I1.list hq
 refine wpAny_pyIter_list p.isList ?_
 refine⟨s1.heap.objs.size,[s1.heap.objs.size],_,_,H1,rfl,I1.kept (t':=s1.toks) fun b o e=>af _ e,W7r a _,⟨_,aH _ rfl,rfl,rfl⟩,fun b hb=>?_,q⟩
 have e:b=s1.heap.objs.size:=by simpa using hb
 subst e
 exact I1.fpOk (ai _) (I1.hok.fresh (ai _))
theorem Y1t {l:Expr}{tl:TE} (hl:PE X l tl):PI X tg l (Q5p X.K tl):=by
 intro ae s σ H R I h
 refine B2 (hl ae s σ H _ I h) fun v s1 bp=>?_
 obtain⟨x,H1,I1,r1,q1⟩:=bp
 obtain⟨a,e,⟨xs,hq⟩,q⟩:=q1
 subst e
 cases r1
 obtain⟨aV,rv,p,hz⟩:=I1.tuple hq
 refine wpAny_pyIter_tuple (show s1.heap.IsTuple a aV.toArray from p) ?_
 refine⟨s1.heap.objs.size,[s1.heap.objs.size],_,_,H1,rfl,I1.kept (t':=s1.toks) fun b o e=>af _ e,W7u a _,⟨_,aH _ rfl,rfl,rfl⟩,fun b hb=>?_,q⟩
 have e:b=s1.heap.objs.size:=by simpa using hb
 subst e
 exact I1.fpOk (ai _) (I1.hok.fresh (ai _))
theorem W3q {ae:Pn9} {σ:St}{H:Hp}{s:Shared}{R:It->Hp->Prop}{E:VS9}{lo hi:Int}{t u v:Tok}{tk:Nat} (I:A1 X ae σ H s) (h1:-(2 ^ 62)<=lo) (h2:lo<2 ^ 62) (h3:-(2 ^ 62)<=hi) (h4:hi<2 ^ 62)
  (q:R (Itr lo (hi-lo).toNat) H):wpAny (model X.prog X.w) X.A (pyIter (.ref s.heap.objs.size)) (PIE X ae σ tg R) E { s with heap:=s.heap.push { cls:=.type "range",data:=.fields #[.int lo t,.int hi u,.int 1 v] },toks:=tk }:=by
 refine wpAny_pyIter_range (IsRange.new ..) (small_one h1 h2 h3 h4) ?_
 have I1:A1 X ae σ H { s with heap:=s.heap.push { cls:=.type "range",data:=.fields #[.int lo t,.int hi u,.int 1 v] },toks:=tk }:=I.kept fun b o e=>af _ e
 refine⟨(s.heap.push { cls:=.type "range",data:=.fields #[.int lo t,.int hi u,.int 1 v] }).objs.size,[(s.heap.push { cls:=.type "range",data:=.fields #[.int lo t,.int hi u,.int 1 v] }).objs.size],_,_,H,rfl,
  I1.kept (t':=tk) fun b o e=>af _ e,W7s _ lo (hi-lo).toNat,?_,fun b hb=>?_,q⟩
 ·have e1:lo+((0:Nat):Int)*1=lo:=by simp
  have e2:(((hi-lo).toNat:Nat):Int)-((0:Nat):Int)=Builtin.Range.rangeSize lo hi 1:=by rw [rangeSize_one];split <;> omega
  show IsRangeIter _ _ (lo+((0:Nat):Int)*1) ((((hi-lo).toNat:Nat):Int)-((0:Nat):Int)) 1
  rw [e1,e2]
  exact aH _ rfl
 ·have e:b=(s.heap.push { cls:=.type "range",data:=.fields #[.int lo t,.int hi u,.int 1 v] }).objs.size:=by simpa using hb
  subst e
  exact I1.fpOk (ai _) (I1.hok.fresh (ai _))
noncomputable def Q2b (ta:TA):TI:=fun σ H R=>ta σ H fun vs H1=>∃j:Int,vs=[.int j]/\-(2 ^ 62)<=j/\j<2 ^ 62/\R (Itr 0 j.toNat) H1
theorem Y1s {a:Expr}{ta:TA}{p pos:Pos} (hg:Gl X "range") (hm:X.mg "range"=none) (ha:PA X [a] ta) (hs:starEach [a] X.env=[(false,eval a X.env)]:=by rfl):PI X tg (.Call (.Name "range" p) [a] [] pos) (Q2b ta):=by
 intro ae s σ H R I h
 refine Call_ (Q2f I hg hm boot_range (bv (B2 (ha pos ae s σ H _ I h) fun us s1 bp=>?_) hs rfl))
 obtain⟨vs,H1,I1,r1,q1⟩:=bp
 obtain⟨j,e,q1,q2,q⟩:=q1
 subst e
 cases r1 with
 | cons r rr =>
  cases rr
  obtain⟨t,rfl⟩:=r
  exact call_range_1 (W3q I1 (by omega) (by omega) q1 q2 (by simpa using q))
def tFor (wi:TI) (g:TG) (tb:TS):TS:=fun D σ H=>wi σ H fun J H1=>∃W:Nat->Nat->St->Hp->Prop,(∃m,W 0 m σ H1)/\∀i m σ H,W i m σ H ->
 (J.stop i H/\D.nx σ H)\/(J.go i H/\∃N:St->Hp->Prop,(∀ σ' H',N σ' H'->∃m',m'<m/\W (i+1) m' σ' H')/\∀x H',J.yld i H x H'->g x σ H' fun σ2 H2=>tb { D with nx:=N,ct:=N,bk:=D.nx } σ2 H2)
noncomputable def U8 (fp:List Addr) (h:Heap):Pn9:=fp.filterMap fun b=>(h.get? b).map fun o=>(b,o)
theorem Q0u {fp:List Addr}{h:Heap}{b:Addr}{o:Obj} (hb:b∈fp) (e:h.get? b=some o):(b,o)∈U8 fp h:=List.mem_filterMap.mpr ⟨b,hb,by rw [e];rfl⟩
theorem Q6c {fp:List Addr}{h:Heap}{p:Addr×Obj} (hp:p∈U8 fp h):p.1∈fp/\h.get? p.1=some p.2:=by
 obtain⟨b,hb,e⟩:=List.mem_filterMap.mp hp
 cases q:h.get? b with
 | none=>rw [q]at e;cases e
 | some o =>
  rw [q]at e
  have e':(b,o)=p:=ay e
  subst e'
  exact⟨hb,q⟩
theorem A1.pinned {ae:Pn9} {σ:St}{H:Hp}{s:Shared}{fp:List Addr} (I:A1 X ae σ H s) (hf:∀b∈fp,K9 X ae H b) (ho:∀b∈fp,∃o,s.heap.get? b=some o/\∀v,o.data≠.cell v):A1 X (ae++U8 fp s.heap) σ H s :=
 I.pins_of fun p hp=>(aN.mp hp).elim (fun z=>I.pin p (ak _ z)) fun z=>by
  obtain⟨hb,e⟩:=Q6c z
  obtain⟨f0,f1,f2,_⟩:=hf p.1 hb
  obtain⟨o,e',d⟩:=ho p.1 hb
  rw [e]at e';cases e'
  exact⟨e,f0,f1,f2,d⟩
theorem A1.unpinned {ae pl:Pn9} {σ:St}{H:Hp}{s:Shared} (I:A1 X (ae++pl) σ H s):A1 X ae σ H s:=I.pins_of fun p hp=>I.pin p (ak _ (bb _ hp))
theorem W3e {iter:Expr}{body:List Stmt}{wi:TI}{g:TG}{tb:TS}{pos:Pos} (hp:PassesOwn (model X.prog X.w) X.A X.env X.xe) (hc:X.calm=true) (hi:PI X tg iter wi) (hg:PG X tg g) (hb:PSs X body tb)
  (hs:∀x,foldedSetIterable iter X.env x=pure x:=by intro _;rfl):PS X (.For tg iter body [] pos) (tFor wi g tb):=by
 intro ae s σ H D I h
 refine wpAny_For (B2 (hi ae s σ H _ I h) fun v s1 h1=>B2 h1 fun j9 s2 h2=>?_) hs
 obtain⟨it,fp,tn,J,H2,e,I2,T,cX,f2,W,⟨m0,w0⟩,eG⟩:=h2
 subst e
 have iq:∀{H':Hp},(∀b∈fp,H' b=none)->∀b∈fp,K9 X ae H' b:=fun hn b hb=>⟨hn b hb,(f2 b hb).2⟩
 refine codeAny_forLoop_any (fun n s'=>∃i σ' H',A1 X ae σ' H' s'/\tn i s'.heap/\(∀b∈fp,H' b=none)/\W i n σ' H') ?_ m0 ⟨0,σ,H2,I2,cX,fun b hb=>(f2 b hb).1,w0⟩
 rintro n s3 ⟨i,σ3,H3,I3,eD,fb,w3⟩
 rcases eG i n σ3 H3 w3 with⟨stop,qn⟩ | ⟨go,N,hN,step⟩
 ·refine dn hp (B2 (T.done X rfl rfl rfl hc i ae s3 σ3 H3 X.xe I3 (iq fb) eD stop) fun r s4 bp=>?_)
  obtain⟨hr,I4⟩:=bp
  subst hr
  exact wpAny_execs_nil ⟨σ3,H3,I4,qn⟩
 ·refine dn hp (B2 (T.item X rfl rfl rfl hc i ae s3 σ3 H3 X.xe I3 (iq fb) eD go) fun r s4 bp=>?_)
  obtain⟨u,hr,h4⟩:=bp
  subst hr
  refine dn hp (B2 h4 fun _ s5 bp=>?_)
  obtain⟨x,H5,I5,r5,y5,dq,gY⟩:=bp
  have hJ:=I5.pinned (iq gY) (T.obj _ _ dq)
  refine dn hp (B2 (hg _ s5 σ3 H5 x u _ hJ r5 (step x H5 y5)) fun _ s6 bp=>?_)
  obtain⟨σ6,H6,I6,q6⟩:=bp
  refine dn hp (B2 (hb _ s6 σ6 H6 _ I6 q6) fun f s7 q7=>?_)
  have again:∀{σ7:St}{H7:Hp},A1 X (ae++U8 fp s5.heap) σ7 H7 s7->N σ7 H7->∃m,m<n/\∃i σ' H',A1 X ae σ' H' s7/\tn i s7.heap/\(∀b∈fp,H' b=none)/\W i m σ' H':=fun {σ7 H7} I7 n7=>by
   obtain⟨m',hm,w7⟩:=hN σ7 H7 n7
   refine⟨m',hm,i+1,σ7,H7,I7.unpinned,T.keep _ _ _ dq fun b hb o e=>(I7.pin (b,o) (ak _ (ak _ (Q0u hb e)))).1,fun b hb=>?_,w7⟩
   obtain⟨o,e,d⟩:=T.obj _ _ dq b hb
   exact(I7.pin (b,o) (ak _ (ak _ (Q0u hb e)))).2.1
  cases f with
  | next=>obtain⟨σ7,H7,I7,n7⟩:=q7;exact again I7 n7
  | cont=>obtain⟨σ7,H7,I7,n7⟩:=q7;exact again I7 n7
  | brk=>obtain⟨σ7,H7,I7,q7⟩:=q7;exact⟨σ7,H7,I7.unpinned,q7⟩
  | ret v=>obtain⟨x7,σ7,H7,I7,r7,q7⟩:=q7;exact⟨x7,σ7,H7,I7.unpinned,r7,q7⟩
end
end L2
namespace L2
open PySem PySem.Spec PyProof.Rows
noncomputable abbrev R2:=V->V->Hp->VK->Prop
def N6 (X:Cx) (f:Value->Value->Sem Value) (r:R2):Prop :=
 ∀(ae:Pn9) (s:Shared) (σ:St) (H:Hp) (x y:V) (v u:Value) (Q:VK),A1 X ae σ H s->B7 x v->B7 y u->r x y H Q ->
  wpAny (model X.prog X.w) X.A (f v u) (EP X ae σ Q) X.xe s
def Q2r (X:Cx) (f:Value) (r:List V->Hp->VK->Prop):Prop :=
 ∀(ae:Pn9) (s:Shared) (σ:St) (H:Hp) (xs:List V) (us:List Value) (Q:VK),A1 X ae σ H s->B6 xs us->r xs H Q ->
  wpAny (model X.prog X.w) X.A (call f us) (EP X ae σ Q) X.xe s
def TruR (X:Cx) (r:V->Hp->(Bool->Hp->Prop)->Prop):Prop :=
 ∀(ae:Pn9) (s:Shared) (σ:St) (H:Hp) (x:V) (v:Value) (Q:Bool->Hp->Prop),A1 X ae σ H s->B7 x v->r x H Q ->
  wpAny (model X.prog X.w) X.A (truthy v) (TP X ae σ Q) X.xe s
def tOp (r:R2) (ta tb:TE):TE:=fun σ H Q=>ta σ H fun x H1=>tb σ H1 fun y H2=>r x y H2 Q
def rI (C:Int->Int->Prop) (g:Int->Int->V):R2:=fun x y H Q=>∃i j,x=.int i/\y=.int j/\C i j/\Q (g i j) H
def rI0 (g:Int->Int->V):R2:=fun x y H Q=>∃i j,x=.int i/\y=.int j/\Q (g i j) H
section
variable {X:Cx}{a b c:Expr}{ta tb tc:TE}{pos:Pos}
theorem Z0x (ha:PE X a ta) (hb:PE X b tb) {ae:Pn9}{s:Shared} {σ:St}{H:Hp}{R:V->V->Hp->Prop} (I:A1 X ae σ H s)
  (h:ta σ H fun x H1=>tb σ H1 fun y H2=>R x y H2) {Q:VS9}{f:Value->Value->Sem Value}
  (hf:∀v u s2 x y H2,A1 X ae σ H2 s2->B7 x v->B7 y u->R x y H2->wpAny (model X.prog X.w) X.A (f v u) Q X.xe s2) :
  wpAny (model X.prog X.w) X.A (eval a X.env) (fun v s₁=>wpAny (model X.prog X.w) X.A (eval b X.env) (fun u s₂=>wpAny (model X.prog X.w) X.A (f v u) Q X.xe s₂) X.xe s₁) X.xe s:=by
 refine B2 (ha ae s σ H _ I h) fun v s1 bp=>?_
 obtain⟨x,H1,I1,r1,q1⟩:=bp
 refine B2 (hb ae s1 σ H1 _ I1 q1) fun u s2 bp=>?_
 obtain⟨y,H2,I2,r2,q2⟩:=bp
 exact hf v u s2 x y H2 I2 r1 r2 q2
theorem W2r {op:Operator}{r:R2} (ho:N6 X (binaryOp op) r) (ha:PE X a ta) (hb:PE X b tb):PE X (.BinOp a op b pos) (tOp r ta tb):=by
 intro ae s σ H Q I h
 exact wpAny_BinOp (Z0x ha hb I h fun v u s2 x y H2 I2 rx ry q=>ho ae s2 σ H2 x y v u Q I2 rx ry q)
theorem opI {f:Value->Value->Sem Value}{C:Int->Int->Prop}{g:Int->Int->Int}
  (rule:∀(i j:Int) (t u:Tok) (s:Shared) (Q:VS9) (E:VS9),C i j->Q (.int (g i j) s.toks) { s with toks:=s.toks+1 }->wpAny (model X.prog X.w) X.A (f (.int i t) (.int j u)) Q E s) :
  N6 X f (rI C fun i j=>.int (g i j)):=by
 intro ae s σ H x y v u Q I rx ry h
 obtain⟨i,j,rfl,rfl,hc,q⟩:=h
 obtain⟨t,rfl⟩:=rx
 obtain⟨t',rfl⟩:=ry
 exact rule i j t t' s _ _ hc ⟨.int (g i j),H,I.tok _,⟨_,rfl⟩,q⟩
theorem Z3b {f:Value->Value->Sem Value}{g:Int->Int->Int}
  (rule:∀(i j:Int) (t u:Tok) (s:Shared) (Q:VS9) (E:VS9),Q (.int (g i j) s.toks) { s with toks:=s.toks+1 }->wpAny (model X.prog X.w) X.A (f (.int i t) (.int j u)) Q E s) :
  N6 X f (rI0 fun i j=>.int (g i j)):=by
 intro ae s σ H x y v u Q I rx ry h
 obtain⟨i,j,rfl,rfl,q⟩:=h
 obtain⟨t,rfl⟩:=rx
 obtain⟨t',rfl⟩:=ry
 exact rule i j t t' s _ _ ⟨.int (g i j),H,I.tok _,⟨_,rfl⟩,q⟩
theorem opB0 {f:Value->Value->Sem Value}{g:Int->Int->Bool}
  (rule:∀(i j:Int) (t u:Tok) (s:Shared) (Q:VS9) (E:VS9),Q (.bool (g i j)) s->wpAny (model X.prog X.w) X.A (f (.int i t) (.int j u)) Q E s) :
  N6 X f (rI0 fun i j=>.bl (g i j)):=by
 intro ae s σ H x y v u Q I rx ry h
 obtain⟨i,j,rfl,rfl,q⟩:=h
 obtain⟨t,rfl⟩:=rx
 obtain⟨t',rfl⟩:=ry
 exact rule i j t t' s _ _ ⟨.bl (g i j),H,I,rfl,q⟩
def Q0m (i j:Int):Prop:=0<j/\j<1073741824
def Q1q (i j:Int):Prop:=(-(2 ^ 64)<i/\i<2 ^ 64)\/(-(2 ^ 64)<j/\j<2 ^ 64)
theorem Q1q.ok {i j:Int} (h:Q1q i j):IntMulOk i j:=by
 rcases h with⟨h1,h2⟩ | ⟨h1,h2⟩
 ·exact .of_left (intBits_le_64 h1 h2)
 ·exact .of_right (intBits_le_64 h1 h2)
theorem W1m:N6 X (binaryOp .Add) (rI0 fun i j=>.int (i+j)):=Z3b fun _ _ _ _ _ _ _ q=>add_int q
theorem W1x:N6 X (binaryOp .Sub) (rI0 fun i j=>.int (i-j)):=Z3b fun _ _ _ _ _ _ _ q=>sub_int q
theorem W1v:N6 X (binaryOp .Mult) (rI Q1q fun i j=>.int (i*j)):=opI fun _ _ _ _ _ _ _ hc q=>mul_int q hc.ok
theorem W1q:N6 X (binaryOp .FloorDiv) (rI Q0m fun i j=>.int (i / j)):=opI fun i j _ _ _ _ _ hc q=>by
 have h1:(0:Int)<j:=hc.1
 have h2:j<1073741824:=hc.2
 exact floordiv_int (by omega) (by rw [Int.fdiv_eq_ediv_of_nonneg i (by omega)];exact q) (.inl (PyProof.noPylong_small (by omega)))
theorem W1u:N6 X (binaryOp .Mod) (rI (fun _ j=>0<j) fun i j=>.int (i % j)):=opI fun i j _ _ _ _ _ hc q=>by
 have h1:(0:Int)<j:=hc
 exact mod_int' (by omega) (by rw [Int.fmod_eq_emod_of_nonneg i (by omega)];exact q)
theorem Y8n:N6 X (inplaceOp .Add) (rI0 fun i j=>.int (i+j)):=Z3b fun _ _ _ _ _ _ _ q=>iadd_int q
end
section
variable {X:Cx}{a b c:Expr}{ta tb tc:TE}{pos:Pos}
theorem Y7v {ae:Pn9} {σ:St}{H:Hp}{s:Shared}{Q:VK}{k k':Bool} (I:A1 X ae σ H s) (q:Q (.bl k) H) (e:k=k'):EP X ae σ Q (.bool k') s:=by
 subst e
 exact⟨.bl k,H,I,rfl,q⟩
theorem W1t:N6 X (compareOp .Lt) (rI0 fun i j=>.bl (decide (i<j))):=opB0 fun _ _ _ _ _ _ _ q=>lt_int q
theorem W1r:N6 X (compareOp .GtE) (rI0 fun i j=>.bl (decide (j<=i))):=opB0 fun _ _ _ _ _ _ _ q=>ge_int q
theorem W1s:N6 X (compareOp .Is) (fun x y H Q=>y=.non/\Q (.bl (decide (x=.non))) H):=by
 intro ae s σ H x y v u Q I rx ry h
 obtain⟨rfl,q⟩:=h
 cases ry
 refine is_none_gen (Y7v I q ?_)
 cases x <;> first
  | (cases rx;rfl)
  | (obtain⟨t,rfl⟩:=rx;rfl)
theorem L9 (b:Expr) {op:CmpOp} (h:op≠.In:=by decide) (h2:op≠.NotIn:=by decide):behindInMarks op b=false:=by
 have e1:(op==CmpOp.In)=false:=by cases op <;> first | rfl | exact absurd rfl h
 have e2:(op==CmpOp.NotIn)=false:=by cases op <;> first | rfl | exact absurd rfl h2
 cases b <;> simp [behindInMarks,e1,e2]
theorem W2f {op:CmpOp}{r:R2} (ho:N6 X (compareOp op) r) (ha:PE X a ta) (hb:PE X b tb) (hm:behindInMarks op b=false):PE X (.Compare a [op] [b] pos) (tOp r ta tb):=by
 intro ae s σ H Q I h
 exact wpAny_Compare1 (Z0x ha hb I h fun v u s2 x y H2 I2 rx ry q=>ho ae s2 σ H2 x y v u Q I2 rx ry q) hm
def W7e (t:TE):TT:=fun σ H Q=>t σ H fun x H'=>∃k,x=.bl k/\Q k H'
theorem W3i {op:CmpOp}{r:R2} (ho:N6 X (compareOp op) r) (ha:PE X a ta) (hb:PE X b tb) (hm:behindInMarks op b=false):PT X (.Compare a [op] [b] pos) (W7e (tOp r ta tb)):=by
 intro ae s σ H Q I h
 refine wpAny_isTrue_Compare1 (B2 (ha ae s σ H _ I h) fun v s1 ⟨x,H1,I1,r1,q1⟩=>B2 (hb ae s1 σ H1 _ I1 q1) fun u s2 ⟨y,H2,I2,r2,q2⟩ =>
  B2 (ho ae s2 σ H2 x y v u _ I2 r1 r2 q2) fun c s3 ⟨z,H3,I3,r3,k,e,q3⟩=>?_) hm
 subst e
 cases r3
 exact cK ⟨H3,I3,q3⟩
def Z0q (K:Fg9) (x:V) (H:Hp) (k:Bool):Prop :=
 match x with
 | .non=>k=false
 | .bl b=>k=b
 | .int i=>k=(i != 0)
 | .str y=>y.length<=sizeLine/\k=((y.length:Int) != 0)
 | .byt y=>y.size<=sizeLine/\k=((y.size:Int) != 0)
 | .ref p=>(∃xs,E3 K H p xs/\k=!xs.isEmpty)\/(∃xs,C6 K H p xs/\k=!xs.isEmpty)\/∃kvs,H p=some (.dK kvs)/\k=!kvs.isEmpty
 | _=>False
theorem Y8o {κ:Type}{kvs:List (κ×V)}{vs:List (κ×Value)} (r:KV kvs vs):(!vs.isEmpty)=!kvs.isEmpty:=by
 cases r <;> rfl
theorem Z9m {xs:List V}{aV:List Value} (r:B6 xs aV):(!aV.toArray.isEmpty)=!xs.isEmpty:=by
 cases r <;> simp
theorem Q1k:(sizeLine:Nat)<2 ^ 63:=by rw [sizeLine_eq];decide
theorem W7l:TruR X (fun x H Q=>∃k,Z0q X.K x H k/\Q k H):=by
 intro ae s σ H x v Q I rx h
 obtain⟨k,e,q⟩:=h
 have hl:=Q1k
 have hs:sizeLine=16777216:=sizeLine_eq
 cases x with
 | non =>
  cases rx
  have e':k=false:=e
  subst e'
  exact truthy_none ⟨H,I,q⟩
 | bl b =>
  cases rx
  have e':k=b:=e
  subst e'
  exact cK ⟨H,I,q⟩
 | int i =>
  obtain⟨t,rfl⟩:=rx
  have e':k=(i != 0):=e
  subst e'
  exact PySem.P.truthy_int ⟨H,I,q⟩
 | str y =>
  obtain⟨t,rfl⟩:=rx
  obtain⟨hy,e'⟩:y.length<=sizeLine/\k=((y.length:Int) != 0):=e
  subst e'
  exact PySem.P.truthy_str (by omega) ⟨H,I.tok _,q⟩
 | byt y =>
  obtain⟨t,rfl⟩:=rx
  obtain⟨hy,e'⟩:y.size<=sizeLine/\k=((y.size:Int) != 0):=e
  subst e'
  exact PySem.W.truthy_bytes (by omega) ⟨H,I.tok _,q⟩
 | ref p =>
  cases rx
  have e':(∃xs,E3 X.K H p xs/\k=!xs.isEmpty)\/(∃xs,C6 X.K H p xs/\k=!xs.isEmpty)\/∃kvs,H p=some (.dK kvs)/\k=!kvs.isEmpty:=e
  rcases e' with⟨xs,hx,e'⟩ | ⟨xs,hx,e'⟩ | ⟨kvs,hx,e'⟩
  ·subst e'
   obtain⟨aV,r,pl,hz⟩:=I.list hx
   have bI:=r.length
   exact wpAny_truthy_list pl.isList (by simp only [aB];omega) ⟨H,I.tok _,by rw [Z9m r];exact q⟩
  ·subst e'
   obtain⟨aV,r,pl,hz⟩:=I.tuple hx
   have bI:=r.length
   exact truthy_tuple pl (by simp only [aB];omega) ⟨H,I.tok _,by rw [Z9m r];exact q⟩
  ·subst e'
   obtain⟨hz,hS,vs,r,m⟩:kvs.length<=sizeLine/\(p==sysModules)=false/\∃vs,KV kvs vs/\s.heap.DictOf (K4 X.prog X.w) p vs:=I.hok p _ hx
   have bI:kvs.length=vs.length:=Paired.length r
   exact wpAny_truthy_dict hS m (by omega) ⟨H,I.tok _,by rw [Y8o r];exact q⟩
 | _=>exact(show False from e).elim
theorem W3j (ha:PE X a ta) (he:∀whole,isTrue a X.env whole=(do let v <- whole;standAt a.pos;holding [v] (truthy v))) :
  PT X a (fun σ H Q=>ta σ H fun x H'=>∃k,Z0q X.K x H' k/\Q k H'):=by
 intro ae s σ H Q I h
 exact isTrue_plain (B2 (ha ae s σ H _ I h) fun v s1 ⟨x,H1,I1,r1,q1⟩=>W7l ae s1 σ H1 x v Q I1 r1 q1) (he _)
theorem W1n:N6 X (binaryOp .Add) (fun x y H Q=>∃i j,x=.str i/\y=.str j/\i.length+j.length<=sizeLine/\Q (.str (i++j)) H):=by
 intro ae s σ H x y v u Q I rx ry h
 obtain⟨i,j,rfl,rfl,hz,q⟩:=h
 obtain⟨t,rfl⟩:=rx
 obtain⟨t',rfl⟩:=ry
 exact add_str (fun t' tk=>⟨.str (i++j),H,I.tok _,⟨_,rfl⟩,q⟩) hz
theorem Z8 {x:V}{us:List Value} (r:B6 [x] us):∃u,us=[u]/\B7 x u:=by
 cases r with
 | cons r1 r2=>cases r2;exact⟨_,rfl,r1⟩
theorem W7y {x y:V}{us:List Value} (r:B6 [x,y] us):∃u w',us=[u,w']/\B7 x u/\B7 y w':=by
 cases r with
 | cons r1 r2 =>
  cases r2 with
  | cons r3 r4=>cases r4;exact⟨_,_,rfl,r1,r3⟩
def LenV (K:Fg9) (x:V) (H:Hp) (n:Nat):Prop :=
 match x with
 | .str y=>y.length<=sizeLine/\n=y.length
 | .byt y=>y.size<=sizeLine/\n=y.size
 | .ref p=>(∃xs,E3 K H p xs/\n=xs.length)\/∃xs,C6 K H p xs/\n=xs.length
 | _=>False
theorem Q5l:Q2r X (.builtin "len") (fun xs H Q=>∃x n,xs=[x]/\LenV X.K x H n/\Q (.int n) H):=by
 intro ae s σ H xs us Q I r h
 obtain⟨x,n,rfl,e,q⟩:=h
 obtain⟨u,rfl,rx⟩:=Z8 r
 have hl:=Q1k
 have hs:sizeLine=16777216:=sizeLine_eq
 cases x with
 | str y =>
  obtain⟨t,rfl⟩:=rx
  obtain⟨hy,e'⟩:y.length<=sizeLine/\n=y.length:=e
  subst e'
  exact len_str (by omega) ⟨.int _,H,I.tok _,⟨_,rfl⟩,q⟩
 | byt y =>
  obtain⟨t,rfl⟩:=rx
  obtain⟨hy,e'⟩:y.size<=sizeLine/\n=y.size:=e
  subst e'
  exact PySem.W.len_bytes (by omega) ⟨.int _,H,I.tok _,⟨_,rfl⟩,q⟩
 | ref p =>
  cases rx
  have e':(∃xs,E3 X.K H p xs/\n=xs.length)\/∃xs,C6 X.K H p xs/\n=xs.length:=e
  rcases e' with⟨xs,hx,e'⟩ | ⟨xs,hx,e'⟩
  ·subst e'
   obtain⟨aV,r',pl,hz⟩:=I.list hx
   have bI:=r'.length
   exact Calls.call_len_list pl.isList (by simp only [aB];omega) ⟨.int xs.length,H,I.tok _,⟨_,by simp only [aB];rw [bI]⟩,q⟩
  ·subst e'
   obtain⟨aV,r',pl,hz⟩:=I.tuple hx
   have bI:=r'.length
   exact len_tuple pl (by simp only [aB];omega) ⟨.int xs.length,H,I.tok _,⟨_,by simp only [aB];rw [bI]⟩,q⟩
 | _=>exact(show False from e).elim
end
end L2
namespace L2
open PySem PySem.Spec PyProof.Rows
section
variable {prog:Program}{w:World}{A:Around}{E:VS9}{s:Shared}{K:Fg9}{x dx C f:Addr}{mA:Str->Option Value}{name:Str}{v:Value}
end
theorem Y8.some_of {v:V}{o:Option Value} (r:Y8 (some v) o):∃u,o=some u/\B7 v u:=by
 cases o with
 | none=>exact(show False from r).elim
 | some u=>exact⟨u,rfl,r⟩
section
variable {P:Program}{w:World}{H H':Hp}{h h':Heap}{a C dx:Addr}{fs r6:List (Str×V)}
end
section
variable {X:Cx}{ae:Pn9} {σ:St}{H:Hp}{s:Shared}{a C dx:Addr}{fs:List (Str×V)}{f:Str}{v:V}{A:Around}{E:VS9}
end
section
variable {X:Cx}{o e value:Expr}{f:Str}{pos be kH:Pos}{ta tv:TE}
end
section
variable {X:Cx}{ae:Pn9} {σ:St}{H:Hp}{s:Shared}{A:Around}{E:VS9}{Q:VS9}{c:Value}{b:Bool}
end
end L2
namespace L2
open PySem PySem.Spec PyProof.Rows
structure C2 (k:Nat) (A:Around):Prop where
 hd:A.handled=none
 dp:A.depth+3*k+5<recursionLimit
 un:A.units+16*k+200<cLine
theorem C2.mono {j k:Nat}{A:Around} (r:C2 k A) (h:j<=k):C2 j A:=⟨r.hd,by have:=r.dp;omega,by have:=r.un;omega⟩
theorem C2.deeper {k:Nat}{A:Around} (r:C2 (k+1) A) (env:Env):C2 k (A.deeper env) :=
 ⟨r.hd,by have:=r.dp;show A.depth+1+3*k+5<_;omega,by have:=r.un;show A.units+3+16*k+200<_;omega⟩
theorem C2.depth {k:Nat}{A:Around} (r:C2 k A):A.depth<recursionLimit:=by have:=r.dp;omega
theorem C2.units {k:Nat}{A:Around} (r:C2 k A):A.units+64<cLine:=by have:=r.un;omega
theorem C2.units0 {k:Nat}{A:Around} (r:C2 k A):A.units<cLine:=by have:=r.un;omega
def Z4l:TA:=fun _ H Q=>Q [] H
def Z4k (ta:TE) (tr:TA):TA:=fun σ H Q=>ta σ H fun x H1=>tr σ H1 fun xs H2=>Q (x::xs) H2
section
variable {X:Cx}{e:Expr}{es:List Expr}{te:TE}{t:TA}{pos:Pos}
theorem Q3g:PA X [] Z4l:=fun _ _ _ _ H Q I h=>dU ⟨[],H,I,.nil,h⟩
theorem Q1n (ha:PE X e te) (hr:PA X es t) (hs:starEach (e::es) X.env=(false,eval e X.env)::starEach es X.env:=by rfl):PA X (e::es) (Z4k te t):=by
 intro pos ae s σ H Q I h
 rw [hs]
 show wpAny _ _ (spliced ((false,eval e X.env)::backTo pos (starEach es X.env))) _ _ s
 refine bY (B2 (ha ae s σ H _ I h) fun u s1 bp=>?_)
 obtain⟨x,H1,I1,r1,q1⟩:=bp
 exact B2 (hr pos ae s1 σ H1 _ I1 q1) fun us s2 ⟨xs,H2,I2,r2,q2⟩=>⟨x::xs,H2,I2,.cons r1 r2,q2⟩
def tTup (t:TA):TE:=fun σ H Q=>t σ H fun xs H1=>xs.length<=sizeLine/\∀p,H1 p=none->Q (.ref p) (upd H1 p (.tup xs))
def tLst (t:TA):TE:=fun σ H Q=>t σ H fun xs H1=>xs.length<=sizeLine/\∀p,H1 p=none->Q (.ref p) (upd H1 p (.lst xs))
theorem W2v {x1} (h:PA X es t):PE X (.Tuple es x1 pos) (tTup t):=by
 intro ae s σ H Q I hq
 refine wpAny_Tuple_spliced (B2 (h pos ae s σ H _ I hq) fun us s1 ⟨xs,H1,I1,r,z,q⟩=>⟨by rw [<- r.length];exact z,?_⟩)
 have hf:H1 s1.heap.objs.size=none:=I1.hok.fresh (ai _)
 refine⟨.ref s1.heap.objs.size,upd H1 s1.heap.objs.size (.tup xs),I1.laid (t':=s1.toks) (fun b u e=>af _ e) (ai _) ?_,rfl,q _ hf⟩
 exact⟨z,us,r,⟨_,aH _ rfl,rfl,_,rfl⟩⟩
theorem Y1o (h:PA X es t):PE X (.List es pos) (tLst t):=by
 intro ae s σ H Q I hq
 refine wpAny_List_spliced (B2 (h pos ae s σ H _ I hq) fun us s1 ⟨xs,H1,I1,r,z,q⟩=>⟨by rw [<- r.length];exact z,?_⟩)
 have hf:H1 s1.heap.objs.size=none:=I1.hok.fresh (ai _)
 refine⟨.ref s1.heap.objs.size,upd H1 s1.heap.objs.size (.lst xs),I1.laid (t':=s1.toks) (fun b u e=>af _ e) (ai _) ?_,rfl,q _ hf⟩
 exact⟨z,us,0,r,aH _ rfl⟩
end
noncomputable abbrev Sp:=List V->Hp->VK->XK->Prop
noncomputable abbrev CXT:=List Env->Hp->Shared->XK->Value->Shared->Prop
structure Q3m (P:Program) (w:World) (K:Fg9) (mg:Str->Option Value) (base:Heap) (A:Around) (outer:List Env) (s:Shared) (H:Hp):Prop where
 frames:A.frames=some outer
 mod:Mod K mg base
 bs:∀b o,base.get? b=some o->s.heap.get? b=some o/\H b=none
 bsz:base.objs.size<=s.heap.objs.size
 funs:s.heap.FunFrames base outer
 frf:∀b∈frs outer,H b=none
 hok:F8 P w H s.heap
 bare:AllBare s.gens
def CE (outer:List Env) (P:Program) (w:World) (H:Hp) (s:Shared) (Q:VK) (u:Value) (s':Shared):Prop :=
 ∃v H',s'.os=s.os/\AllBare s'.gens/\Un (frs outer) [] H H' s.heap s'.heap/\F8 P w H' s'.heap/\B7 v u/\Q v H'
def CR (CX:CXT) (outer:List Env) (P:Program) (w:World) (H:Hp) (s:Shared) (Q:VK) (E:XK) (r:Result) (s':Shared):Prop :=
 match r with
 | .ok (.ret u)=>CE outer P w H s Q u s'
 | .ok _=>False
 | .error e=>CX outer H s E e s'
structure P8 (P:Program) (w:World) (K:Fg9) (mg:Str->Option Value) (base:Heap) (CX:CXT) (k:Nat) (f:Addr) (fd:FuncData) (ps:List Str) (sp:Sp):Prop where
 len:∀vs H Q E,sp vs H Q E->vs.length=ps.length
 run:∀(A:Around) (outer:List Env) (s:Shared) (H:Hp) (args:Args) (us:List Value) (vs:List V) (Q:VK) (E:XK),C2 k A->Q3m P w K mg base A outer s H->BindsTo s fd args (ps.zip us)->B6 vs us->sp vs H Q E ->
  codeAny (model P w) A (.call (.ref f) args) (CR CX outer P w H s Q E) s
section
variable {X:Cx}{ae:Pn9} {σ:St}{H:Hp}{s s':Shared}
theorem A1.env0 (I:A1 X ae σ H s):Q3m X.prog X.w X.K X.mg X.base X.A X.stack s H :=
 ⟨I.ok.frames,I.ok.mod,I.bs,aX I.ok.bsz I.sz,I.stack,I.stkFree,I.hok,I.bare⟩
theorem A1.after {Q:VK}{u:Value} (I:A1 X ae σ H s) (h:CE X.stack X.prog X.w H s Q u s'):EP X ae σ Q u s':=by
 obtain⟨v,H',os,bare,un,hok,r,q⟩:=h
 obtain⟨hh,g,d,t,oW⟩:=s'
 obtain rfl:oW=s.os:=os
 exact⟨v,H',I.call (h':=hh) (g':=g) (d':=d) (t':=t) (ch:=[]) un hok bare (fun b z=>absurd z (by simp)),r,q⟩
end
def Y4g (sp:Sp) (g7:List V) (E:XK) (t:TA):TE:=fun σ H Q=>t σ H fun vs H1=>sp (vs++g7) H1 Q E
def V2 (K:Fg9) (fd:FuncData) (ps:List Str) (ds:List Value):Prop :=
 ∀(s:Shared) (us:List Value),K.In s.heap->(us++ds).length=ps.length->BindsTo s fd ⟨us,[]⟩ (ps.zip (us++ds))
theorem V2.all {K:Fg9}{fd:FuncData}{ps:List Str} (h:∀us:List Value,us.length=ps.length->bindArgs fd ⟨us,[]⟩=pure (ps.zip us)):V2 K fd ps []:=fun s us _ hl=>by
 rw [b7]at hl ⊢
 exact .of_eq (h us hl)
def Q7b (CX:CXT) (X:Cx) (E:XK):Prop:=∀(ae:Pn9) (σ:St) (H:Hp) (s:Shared) (e:Value) (s':Shared),A1 X ae σ H s->CX X.stack H s E e s'->X.xe e s'
section
variable {X:Cx}{CX:CXT}{k:Nat}{f C:Addr}{fd:FuncData}{ps:List Str}{sp:Sp}{g7:List V}{ds:List Value}{E:XK}{x m:Str}{p pos apos:Pos}{e o:Expr}{es:List Expr}{ta:TE}{t:TA}
theorem Z3q {ae:Pn9} {σ:St}{H:Hp}{s:Shared}{Q:VK}{us:List Value}{vs:List V} (F:P8 X.prog X.w X.K X.mg X.base CX k f fd ps sp) (hr:C2 k X.A) (hb:V2 X.K fd ps ds) (hd:B6 g7 ds) (hx:Q7b CX X E)
  (I:A1 X ae σ H s) (r:B6 vs us) (h:sp (vs++g7) H Q E):wpAny (model X.prog X.w) X.A (call (.ref f) us) (EP X ae σ Q) X.xe s:=by
 have r2:B6 (vs++g7) (us++ds):=r.append hd
 have hl:(us++ds).length=ps.length:=by rw [<- r2.length];exact F.len _ _ _ _ h
 refine wpAny_call (codeAny_mono (F.run X.A X.stack s H ⟨us,[]⟩ (us++ds) (vs++g7) Q E hr I.env0 (hb s us I.kIn hl) r2 h) fun r s' hq=>?_)
 cases r with
 | error e=>exact hx ae σ H s e s' I hq
 | ok fl =>
  cases fl with
  | ret u=>exact I.after hq
  | next=>exact False.elim hq
  | brk=>exact False.elim hq
  | cont=>exact False.elim hq
theorem Y1m (F:P8 X.prog X.w X.K X.mg X.base CX k f fd ps sp) (hr:C2 k X.A) (hg:Gl X x) (hm:X.mg x=some (.ref f)) (hk:PySem.W.keepIn X.K (.ref f)=true) (hb:V2 X.K fd ps ds) (hd:B6 g7 ds) (hx:Q7b CX X E)
  (ha:PA X (e::es) t) (dm:(x==("__debug__":Str))=false:=by decide) (he:starEach (e::es) X.env=(false,eval e X.env)::starEach es X.env:=by rfl) (hpl:(backTo pos (starEach es X.env)).any (·.1)=false:=by rfl) :
  PE X (.Call (.Name x p) (e::es) [] pos) (Y4g sp g7 E t):=by
 intro ae s σ H Q I h
 refine bq (Q7y I hg hm ?_ dm)
 refine PySem.W.callWith_K (h₀:=X.base) I.ok.mod.kin hk (B2 (ha pos ae s σ H _ I h) fun us s1 ⟨vs,H1,I1,r,q⟩=>⟨I1.kIn,?_⟩) he hpl
 exact Z3q F hr hb hd hx I1 r q
theorem W2c (F:P8 X.prog X.w X.K X.mg X.base CX k f fd ps sp) (hr:C2 k X.A) (hg:Gl X x) (hm:X.mg x=some (.ref f)) (hk:PySem.W.keepIn X.K (.ref f)=true) (hb:V2 X.K fd ps ds) (hd:B6 g7 ds) (hx:Q7b CX X E)
  (dm:(x==("__debug__":Str))=false:=by decide):PE X (.Call (.Name x p) [] [] pos) (Y4g sp g7 E Z4l):=by
 intro ae s σ H Q I h
 refine bq (Q7y I hg hm ?_ dm)
 exact PySem.W.callWith_K0 I.kIn hk (Z3q (us:=[]) F hr hb hd hx I .nil h)
end
section
variable {X:Cx}{CX:CXT}{k:Nat}{f C:Addr}{fd:FuncData}{ps ks:List Str}{sp:Sp}{E:XK}{x m:Str}{p pos apos pG:Pos}{e o:Expr}{es:List Expr}{rP:List Keyword}{te ta:TE}{t tk:TA}{nm:Option Str}
variable {g:List Value->List Value->List Value}{gV:List V->List V->List V}
end
structure G4 (N P:List Str) (sc:Scope):Prop where
 kind:sc.kind=.function
 co:sc.isCoroutine=false
 gen:sc.isGenerator=false
 nd:N.Nodup
 pre:N.take P.length=P
 par:∀x∈P,sc.names.lookup x=some .local\/sc.names.lookup x=some .cell
 nofree:∀y∈sc.names,y.2≠.free
theorem Z7s {kindOf:Str->Option NameKind}{x:Str}:∀{binds:List (Str×Value)}{m:Str->Option Value},(∀v,(x,v)∉binds)->bindL kindOf binds m x=m x
 | [],_,_=>rfl
 | (n,v)::r,m,h=>by
  unfold bindL
  rw [Z7s fun w hw=>h w (ax _ hw)]
  split
  ·have:x≠n:=by rintro rfl;exact h v aA
   simp [this]
  ·rfl
theorem Z7q {kindOf:Str->Option NameKind}{x:Str}:∀{binds:List (Str×Value)}{m:Str->Option Value},(∀v,(x,v)∉binds)->bindC kindOf binds m x=m x
 | [],_,_=>rfl
 | (n,v)::r,m,h=>by
  unfold bindC
  rw [Z7q fun w hw=>h w (ax _ hw)]
  split
  ·rfl
  ·have:x≠n:=by rintro rfl;exact h v aA
   simp [this]
theorem Z7r {kindOf:Str->Option NameKind}{x:Str}{v:Value}:∀{P:List Str}{vs:List Value}{i:Nat}{m:Str->Option Value},P.Nodup->P[i]?=some x->vs[i]?=some v->kindOf x=some .local ->
  bindL kindOf (P.zip vs) m x=some v
 | [],_,_,_,_,h,_,_=>by simp at h
 | _::_,[],_,_,_,_,h,_=>by simp at h
 | p::P,w::vs,0,m,nd,h1,h2,hk=>by
  simp at h1 h2;subst h1;subst h2
  show bindL kindOf ((p,w)::P.zip vs) m p=_
  unfold bindL
  rw [Z7s fun v hv=>(bj.mp nd).1 (dv hv).1,aM hk]
  simp
 | p::P,w::vs,i+1,m,nd,h1,h2,hk=>by
  show bindL kindOf ((p,w)::P.zip vs) m x=_
  unfold bindL
  exact Z7r (i:=i) (bj.mp nd).2 (by simpa using h1) (by simpa using h2) hk
theorem Z7p {kindOf:Str->Option NameKind}{x:Str}{v:Value}:∀{P:List Str}{vs:List Value}{i:Nat}{m:Str->Option Value},P.Nodup->P[i]?=some x->vs[i]?=some v->kindOf x≠some .local ->
  bindC kindOf (P.zip vs) m x=some v
 | [],_,_,_,_,h,_,_=>by simp at h
 | _::_,[],_,_,_,_,h,_=>by simp at h
 | p::P,w::vs,0,m,nd,h1,h2,hk=>by
  simp at h1 h2;subst h1;subst h2
  show bindC kindOf ((p,w)::P.zip vs) m p=_
  unfold bindC
  rw [Z7q fun v hv=>(bj.mp nd).1 (dv hv).1,aI hk]
  simp
 | p::P,w::vs,i+1,m,nd,h1,h2,hk=>by
  show bindC kindOf ((p,w)::P.zip vs) m x=_
  unfold bindC
  exact Z7p (i:=i) (bj.mp nd).2 (by simpa using h1) (by simpa using h2) hk
noncomputable def start (N:List Str) (vs:List V):St:=vs.map some++List.replicate (N.length-vs.length) none
noncomputable def W7 (CX:CXT) (P:Program) (w:World) (K:Fg9) (mg:Str->Option Value) (base:Heap) (N:List Str) (qual:Str) (scope:Scope) (f:Addr) (cd:Value) (A:Around) (outer:List Env) (s:Shared) (H:Hp) (E:XK):Cx where
 prog:=P
 w:=w
 K:=K
 mg:=mg
 base:=base
 A:=A.deeper (envOfC qual scope s.heap.objs.size f cd)
 N:=N
 s₀:=s
 H₀:=H
 env:=envOfC qual scope s.heap.objs.size f cd
 outer:=outer
 stack:=envOfC qual scope s.heap.objs.size f cd::outer
 ex:=[]
 calm:=true
 fn:=fun _=>true
 pn:=[]
 xe:=fun e s'=>wpAny (model P w) (A.deeper (envOfC qual scope s.heap.objs.size f cd)) (leaving (envOfC qual scope s.heap.objs.size f cd) e) (fun _ kP=>CX outer H s E e kP) (fun e' kP=>CX outer H s E e' kP) s'
theorem Z8b {sc:Scope}{n:Nat}{x:Str} (h:sc.names.lookup x=some .cell):∃c,(cellsFrom n sc.names []).lookup x=some c:=by
 have q:=PySem.W.cellsFrom_some sc.names n [] (.inl h)
 exact Option.isSome_iff_exists.mp q
theorem Z9k {CX:CXT}{P:Program}{w:World}{K:Fg9}{mg:Str->Option Value}{base:Heap}{N ps:List Str}{qual:Str}{scope:Scope}{f:Addr}{cd:Value}{A:Around}{outer:List Env}{s s1:Shared}{H:Hp}{E:XK}{us:List Value}{vs:List V}
  (S:G4 N ps scope) (hd:A.handled=none) (e0:Q3m P w K mg base A outer s H) (hl:vs.length=ps.length) (r:B6 vs us)
  (x:InCallC s s.heap.objs.size (bindL (envOfC qual scope s.heap.objs.size f cd).kindOf (ps.zip us) fun _=>none) (cellsFrom (s.heap.objs.size+1) scope.names []) (bindC (envOfC qual scope s.heap.objs.size f cd).kindOf (ps.zip us) fun _=>none) s1) :
  A1 (W7 CX P w K mg base N qual scope f cd A outer s H E) [] (start N vs) H s1:=by
 have hpl:ps.length<=N.length:=by have:=congrArg List.length S.pre;rw [List.length_take]at this;omega
 obtain⟨h1,tk,rfl,hk⟩:=x.done
 have gh:∀b:Addr,b∉(W7 CX P w K mg base N qual scope f cd A outer s H E).ex:=fun b z=>absurd (show b∈([]:List Addr)from z) (by simp)
 refine⟨⟨e0.mod,S.kind,rfl,rfl,ai _,fun y z c h1 h2=>?_,fun y hy=>?_,fun y c _ h=>?_,fun _=>hd,Around.frames_deeper e0.frames,.inr ⟨rfl,rfl⟩,fun b z=>absurd z (gh b),e0.bs,e0.bsz,fun b _ _=>gh b,fun b z=>absurd z (gh b),e0.funs,e0.frf⟩,
  rfl,e0.bare,Un.kept hk,⟨_,x.toInCall.ns,fun i y v h1 h2 h3=>?_⟩,fun y c h=>⟨_,x.cell y c h⟩,e0.hok.fresh (ai _),fun y c h=>?_,fun p hp=>absurd (show p∈([]:Pn9)from hp) (by simp),e0.hok.kept hk,?_⟩
 ·exact name_of_addr x.apart (bz h1) (bz h2)
 ·have hy:scope.names.lookup y=some .cell\/scope.names.lookup y=some .free:=hy
  rcases hy with hy | hy
  ·exact Z8b hy
  ·exact absurd rfl (S.nofree _ (bz hy))
 ·exact cO (x.above y c (bz h))
 ·have hi:i<vs.length:=by
   unfold start at h2
   by_cases hi:i<vs.length
   ·exact hi
   ·rw [aS (by simpa using hi)]at h2
    rw [List.getElem?_replicate]at h2
    split at h2 <;> cases h2
  have ha:vs[i]?=some v:=by
   unfold start at h2
   rw [aJ (by simpa using hi),ah]at h2
   cases e:vs[i]? with
   | none=>rw [e]at h2;cases h2
   | some a=>rw [e]at h2;cases h2;rfl
  obtain⟨u,hu,rv⟩:=r.get ha
  have hp:ps[i]?=some y:=by
   rw [<- S.pre,List.getElem?_take_of_lt (by omega)];exact h1
  have mR:ps.Nodup:=by rw [<- S.pre];exact S.nd.sublist (List.take_sublist _ _)
  refine⟨u,rv,?_⟩
  rcases S.par y (aw hp)with k | k
  ·exact .inl ⟨k,Z7r mR hp hu k⟩
  ·obtain⟨c,e⟩:=Z8b (n:=s.heap.objs.size+1) k
   refine .inr ⟨.inl k,c,e,?_⟩
   have q:=x.cell y c e
   rw [Z7p mR hp hu (by show scope.names.lookup y≠_;rw [k];decide)]at q
   exact q
 ·exact e0.hok.fresh (cO (x.above y c (bz h)))
 ·unfold start
  show _=N.length
  rw [aE,ag,aW]
  omega
theorem Z8v {CX:CXT}{P:Program}{w:World}{K:Fg9}{mg:Str->Option Value}{base:Heap}{k:Nat}{f:Addr}{name qual:Str}{params:Arguments}{body:List Stmt}{scope:Scope}{dV kV cG pm cdv ct oc:Value}{an od:Option Addr}
  {dF:Array (Option Value)}{N ps:List Str}{sp:Sp} (lk:K.lookup f=some ⟨oc,od,.func (PySem.W.fnOf name qual params body scope dV kV cG pm an cdv ct),dF⟩) (dD:PySem.W.codeIn K cdv qual=true) (S:G4 N ps scope)
  (len:∀vs H Q E,sp vs H Q E->vs.length=ps.length)
  (bS:∀(A:Around) (outer:List Env) (s:Shared) (H:Hp) (vs:List V) (Q:VK) (E:XK),C2 k (A.deeper (envOfC qual scope s.heap.objs.size f cdv))->sp vs H Q E ->
   ∃t,PSs (W7 CX P w K mg base N qual scope f cdv A outer s H E) body t/\t { nx:=fun _ H'=>Q .non H',rt:=Q } (start N vs) H) :
  P8 P w K mg base CX (k+1) f (PySem.W.fnOf name qual params body scope dV kV cG pm an cdv ct) ps sp:=by
 refine⟨len,fun A outer s H args us vs Q E hr e0 hb r fA=>?_⟩
 have hl:=len _ _ _ _ fA
 have KX:K.In s.heap:=e0.mod.kin.keeps fun b o e=>(e0.bs b o e).1
 have iM:s.heap.NoLimit:=e0.mod.nolimit.keeps fun b o e=>(e0.bs b o e).1
 have fV:∀y∈ps.zip us,scope.names.lookup y.1=some .local\/(scope.names.lookup y.1=some .cell/\((cellsFrom (s.heap.objs.size+1) scope.names []).lookup y.1).isSome=true):=fun⟨n,v⟩ hy=>by
  rcases S.par n (dv hy).1 with q | q
  ·exact .inl q
  ·exact .inr ⟨q,PySem.W.cellsFrom_some _ _ _ (.inl q)⟩
 refine codeAny_call_function hr.depth (KX _ _ lk) rfl S.co S.gen rfl (PySem.W.codeRec_of KX dD) (hb _ _ _ _ ?_)
 refine wpAny_newFunctionEnv_cells S.kind fV fun env he s1 x=>?_
 subst he
 refine⟨iM.keeps x.toInCall.keep,codeAny_func ?_⟩
 obtain⟨t,ht,hq⟩:=bS A outer s H vs Q E (hr.deeper _) fA
 have I:A1 (W7 CX P w K mg base N qual scope f cdv A outer s H E) [] (start N vs) H s1:=Z9k S hr.hd e0 hl r x
 refine aL (ht [] s1 (start N vs) H _ I hq) (fun fl s' hs=>?_) fun e s' hs=>hs
 have fin:∀{σ':St}{H':Hp}{v:V}{u:Value},A1 (W7 CX P w K mg base N qual scope f cdv A outer s H E) [] σ' H' s'->B7 v u->Q v H'->CE outer P w H s Q u s' :=
  fun {σ' H' v u} J rv q=>⟨v,H',J.os,J.bare,J.base,J.hok,rv,q⟩
 cases fl with
 | ret u =>
  obtain⟨v,σ',H',J,rv,q⟩:=hs
  exact fin J rv q
 | next =>
  obtain⟨σ',H',J,q⟩:=hs
  exact fin (v:=V.non) (u:=Value.none) J rfl q
 | brk =>
  obtain⟨_,_,_,q⟩:=hs
  exact False.elim q
 | cont =>
  obtain⟨_,_,_,q⟩:=hs
  exact False.elim q
end L2
namespace L2
open PySem PySem.Spec PyProof.Rows
section
variable {X:Cx}{x:Str}{p pos:Pos}{e:Expr}{es:List Expr}{t:TA}{id T:String}{r:List V->Hp->VK->Prop}
def tCB (r:List V->Hp->VK->Prop) (t:TA):TE:=fun σ H Q=>t σ H fun vs H1=>r vs H1 Q
theorem Z3d (hc:Q2r X (.builtin id) r) (hg:Gl X x) (hm:X.mg x=none) (hv:bootBuiltins x=some (.builtin id)) (ha:PA X (e::es) t) (hn:x≠"__name__":=by decide) (dm:(x==("__debug__":Str))=false:=by decide)
  (he:starEach (e::es) X.env=(false,eval e X.env)::starEach es X.env:=by rfl) (hpl:(backTo pos (starEach es X.env)).any (·.1)=false:=by rfl):PE X (.Call (.Name x p) (e::es) [] pos) (tCB r t):=by
 intro ae s σ H Q I h
 refine bq (Q2f I hg hm hv ?_ hn dm)
 exact PyProof.Rows.callWith_builtin1 (B2 (ha pos ae s σ H _ I h) fun us s1 ⟨vs,H1,I1,r1,q1⟩=>hc ae s1 σ H1 vs us Q I1 r1 q1) he hpl
theorem W2e (hc:Q2r X (.type T) r) (hg:Gl X x) (hm:X.mg x=none) (hv:bootBuiltins x=some (.type T)) (ha:PA X (e::es) t) (hn:x≠"__name__":=by decide) (dm:(x==("__debug__":Str))=false:=by decide)
  (he:starEach (e::es) X.env=(false,eval e X.env)::starEach es X.env:=by rfl) (hpl:(backTo pos (starEach es X.env)).any (·.1)=false:=by rfl):PE X (.Call (.Name x p) (e::es) [] pos) (tCB r t):=by
 intro ae s σ H Q I h
 refine bq (Q2f I hg hm hv ?_ hn dm)
 exact bv (B2 (ha pos ae s σ H _ I h) fun us s1 ⟨vs,H1,I1,r1,q1⟩=>hc ae s1 σ H1 vs us Q I1 r1 q1) he hpl
end
end L2
namespace HT
open PySem PyProof.Rows
section
open PySem.SeqAt
open PySem.AutoSeq1 (wpAny_loadPart')
open PySem.MeetsSeq PySem.MeetsSeq2 PySem.MeetsSeq3
end
section
variable {prog:Program}{w:World}{A:Around}{E:VS9}{s:Shared}
theorem cat_tup {t b:Addr}{vs ws:List Value}{Q:VS9} (ht:IsTup s.heap t vs.toArray) (hb:IsTup s.heap b ws.toArray) (hv:vs≠[])
  (h1:ws=[]->Q (.ref t) s) (h2:ws≠[]->Q (.ref s.heap.objs.size) { s with heap:=s.heap.push { cls:=.type "tuple",data:=.seq (vs++ws).toArray } })
  (hsz:vs.length+ws.length<=sizeLine):wpAny (model prog w) A (binaryOp .Add (.ref t) (.ref b)) Q E s:=by
 obtain⟨⟨cls,dd,data,sl⟩,ho,hc,n,hd⟩:=id ht
 obtain⟨⟨mw,kF,data2,ki⟩,gN,jM,n2,jI⟩:=id hb
 simp only at hc hd jM jI
 subst hc hd jM jI
 have e:vs.toArray++ws.toArray=(vs++ws).toArray:=by simp
 by_cases hw:ws=[]
 ·exact concat_meets ⟨_,ho,rfl⟩ ⟨_,gN,rfl⟩ noFill_tuple_add seq_tuple_add PySem.F.slot_tuple_add PySem.F.entry_tuple_add (PySem.F.args_tuple_add_2 _ _)
   (tuple_addW1 t b vs.toArray ws.toArray n n2 dd kF sl ki (by simpa using hv) (by simp [hw])) ⟨ho,gN,h1 hw⟩
 ·refine concat_meets ⟨_,ho,rfl⟩ ⟨_,gN,rfl⟩ noFill_tuple_add seq_tuple_add PySem.F.slot_tuple_add PySem.F.entry_tuple_add (PySem.F.args_tuple_add_2 _ _)
   (tuple_addW2 t b vs.toArray ws.toArray n n2 dd kF sl ki (by simpa using hv) (by simpa using hw) (by rw [aB,aB];exact hsz)) ⟨ho,gN,?_⟩
  rw [e]
  exact h2 hw
end
end HT
namespace L2
open PySem PySem.Spec PyProof.Rows
section
variable {X:Cx}{e:Expr}{te:TE}{lo hi:Option Expr}{tl th:TO}{pos p2:Pos}
def W3n (K:Fg9):R2:=fun x y H Q=>∃a b xs ys,x=.ref a/\y=.ref b/\C6 K H a xs/\C6 K H b ys/\xs≠[]/\xs.length+ys.length<=sizeLine /\
 (ys=[]->Q (.ref a) H)/\(ys≠[]->∀p,H p=none->Q (.ref p) (upd H p (.tup (xs++ys))))
theorem B6.nil_iff {xs:List V}{us:List Value} (r:B6 xs us):us=[] ↔ xs=[]:=by
 cases r with
 | nil=>simp
 | cons _ _=>simp
theorem W1p:N6 X (binaryOp .Add) (W3n X.K):=by
 intro ae s σ H x y v u Q I rx ry h
 obtain⟨a,b,xs,ys,rfl,rfl,ha,hb,hx,hz,q1,q2⟩:=h
 cases rx
 cases ry
 obtain⟨aV,r1,p1,_⟩:=I.tuple ha
 obtain⟨bZ,r2,p2,_⟩:=I.tuple hb
 refine HT.cat_tup p1 p2 (fun z=>hx (r1.nil_iff.mp z)) (fun z=>⟨.ref a,H,I,rfl,q1 (r2.nil_iff.mp z)⟩) (fun z=>?_) (by rw [<- r1.length,<- r2.length];exact hz)
 refine⟨.ref s.heap.objs.size,_,I.laid (t':=s.toks) (o:=.tup (xs++ys)) (fun b ob q=>af _ q) (ai _) ?_,rfl,q2 (fun w=>z (r2.nil_iff.mpr w)) _ (I.hok.fresh (ai _))⟩
 exact⟨by rw [aE];exact hz,_,r1.append r2,IsTup.new _ _⟩
end
end L2
namespace L2
open PySem PySem.Spec PyProof.Rows
noncomputable def ixN (n:Nat) (i:Int):Option Nat:=if 0<=i then(if i<n then some i.toNat else none)else if -(n:Int)<=i then some (i+n).toNat else none
noncomputable def K6 {α:Type} (xs:List α) (i:Int):Option α:=(ixN xs.length i).bind fun j=>xs[j]?
theorem Q5r {n:Nat}{i:Int}{j:Nat} (h:ixN n i=some j):seqIndex? i n=some j/\j<n/\-(n:Int)<=i/\i<n:=by
 unfold ixN at h
 by_cases h0:0<=i
 ·rw [aM h0]at h
  by_cases h1:i<n
  ·rw [aM h1]at h
   have e:i.toNat=j:=ay h
   exact⟨by rw [seqIndex_of h0 h1,e],by omega,by omega,h1⟩
  ·rw [aI h1]at h;cases h
 ·rw [aI h0]at h
  by_cases h1:-(n:Int)<=i
  ·rw [aM h1]at h
   have e:(i+n).toNat=j:=ay h
   exact⟨by rw [seqIndex_neg (by omega) h1,e],by omega,h1,by omega⟩
  ·rw [aI h1]at h;cases h
theorem Q7e {α:Type}{xs:List α}{i:Int}{v:α} (h:K6 xs i=some v):∃j,seqIndex? i xs.length=some j/\xs[j]?=some v/\j<xs.length/\-(xs.length:Int)<=i/\i<xs.length:=by
 unfold K6 at h
 cases e:ixN xs.length i with
 | none=>rw [e]at h;cases h
 | some j =>
  rw [e]at h
  obtain⟨h1,h2,h3,h4⟩:=Q5r e
  exact⟨j,h1,h,h2,h3,h4⟩
theorem X4 {α:Type}{xs:List α}{j:Nat}{v:α} (h:xs[j]?=some v):K6 xs (j:Int)=some v:=by
 have hj:j<xs.length:=(aF.mp h).1
 have e:ixN xs.length (j:Int)=some j:=by
  unfold ixN
  rw [aM (by omega),aM (by omega)];simp
 unfold K6;rw [e];exact h
def Q3r (b:Expr):Prop:=∀o i,subscripted b false o i=operate [o,i] (getItem o i)
def IxR (X:Cx) (r:R2):Prop :=
 ∀(value slice:Expr) (ae:Pn9) (s:Shared) (σ:St) (H:Hp) (x y:V) (v u:Value) (Q:VK),A1 X ae σ H s->B7 x v->B7 y u->r x y H Q ->
  subscripted slice false v u=operate [v,u] (getItem v u)->wpAny (model X.prog X.w) X.A (subscriptTail value slice v u) (EP X ae σ Q) X.xe s
def MtR (X:Cx) (id:String) (r:V->List V->Hp->VK->Prop):Prop :=
 ∀(ae:Pn9) (s:Shared) (σ:St) (H:Hp) (x:V) (xs:List V) (v:Value) (us:List Value) (Q:VK),A1 X ae σ H s->B7 x v->B6 xs us->r x xs H Q ->
  wpAny (model X.prog X.w) X.A (call (.builtin id) (v::us)) (EP X ae σ Q) X.xe s
section
variable {X:Cx}{a b:Expr}{ta tb:TE}{pos:Pos}
theorem IxR.or {r r':R2} (h:IxR X r) (h':IxR X r'):IxR X (fun x y H Q=>r x y H Q\/r' x y H Q):=by
 intro value slice ae s σ H x y v u Q I rx ry q hs
 rcases q with q | q
 ·exact h value slice ae s σ H x y v u Q I rx ry q hs
 ·exact h' value slice ae s σ H x y v u Q I rx ry q hs
theorem Q6e {r:R2} (hr:IxR X r) (ha:PE X a ta) (hb:PE X b tb) (hs:Q3r b):PE X (.Subscript a b pos) (tOp r ta tb):=by
 intro ae s σ H Q I h
 exact Subscript_ (Z0x ha hb I h fun v u s2 x y H2 I2 rx ry q=>hr a b ae s2 σ H2 x y v u Q I2 rx ry q (hs _ _))
def rIxL (K:Fg9):R2:=fun x y H Q=>∃p xs i v,x=.ref p/\y=.int i/\E3 K H p xs/\K6 xs i=some v/\Q v H
def rIxT (K:Fg9):R2:=fun x y H Q=>∃p xs i v,x=.ref p/\y=.int i/\C6 K H p xs/\K6 xs i=some v/\Q v H
def rIxS:R2:=fun x y H Q=>∃z i c,x=.str z/\y=.int i/\z.length<=sizeLine/\K6 z.cps.toList i=some c/\Q (.str ⟨#[c]⟩) H
theorem Y8u:IxR X (rIxL X.K):=by
 intro value slice ae s σ H x y v u Q I rx ry h hs
 obtain⟨p,xs,i,z,rfl,rfl,hq,he,q⟩:=h
 cases rx
 obtain⟨t,rfl⟩:=ry
 obtain⟨aV,r,pl,hz⟩:=I.list hq
 obtain⟨j,h1,h2,h3,h4,h5⟩:=Q7e he
 obtain⟨w,ew,fj⟩:=r.get h2
 have hl:=r.length
 have hn:=Q1k
 have fin:EP X ae σ Q w s:=⟨z,H,I,fj,q⟩
 by_cases h0:0<=i
 ·have hj:i.toNat=j:=by
   rw [seqIndex_of h0 h5]at h1
   exact ay h1
  exact item_listR pl.isList h0 (by omega) (by rw [hj];simpa using ew) fin hs
 ·have hj:(i+(aV.toArray.size:Int)).toNat=j:=by
   rw [seqIndex_neg (by omega) h4]at h1
   rw [aB,<- hl]
   exact ay h1
  exact subscriptTail_builtinR (x:=w) pl.isList.typeIs slot_list_getitem.lookup
   (wpAny_getItem_list_neg (Q:=fun r s'=>r=w/\EP X ae σ Q r s') pl.isList (by omega) (by rw [aB] <;> omega) (by omega) (by rw [hj];simpa using ew) ⟨rfl,fin⟩) hs
theorem Y8x:IxR X (rIxT X.K):=by
 intro value slice ae s σ H x y v u Q I rx ry h hs
 obtain⟨p,xs,i,z,rfl,rfl,hq,he,q⟩:=h
 cases rx
 obtain⟨t,rfl⟩:=ry
 obtain⟨aV,r,pl,hz⟩:=I.tuple hq
 obtain⟨j,h1,h2,h3,h4,h5⟩:=Q7e he
 obtain⟨w,ew,fj⟩:=r.get h2
 have hl:=r.length
 have hn:=Q1k
 have fin:EP X ae σ Q w s:=⟨z,H,I,fj,q⟩
 exact subscriptTail_builtinR (x:=w) pl.typeIs slot_tuple_getitem.lookup
  (getItem_tuple (j:=j) (Q:=fun r s'=>r=w/\EP X ae σ Q r s') pl (by omega) (by omega) (by rw [aB,<- hl];exact h1) (by simpa using ew) ⟨rfl,fin⟩) hs
theorem Y8w:IxR X rIxS:=by
 intro value slice ae s σ H x y v u Q I rx ry h hs
 obtain⟨z,i,c,rfl,rfl,hz,he,q⟩:=h
 obtain⟨t,rfl⟩:=rx
 obtain⟨t',rfl⟩:=ry
 obtain⟨j,h1,h2,h3,h4,h5⟩:=Q7e he
 have hl:z.cps.toList.length=z.length:=by simp [Str.length]
 rw [hl]at h1 h4 h5
 have hn:=Q1k
 exact tail_any (typeIs_str s z t) slot_str_getitem.lookup (getItem_str (c:=c) (by
  have e1:decide (i < -(2 ^ 63:Int))=false:=aP (by omega)
  have e2:decide (i ≥ 2 ^ 63)=false:=aP (by omega)
  rw [e1,e2,Bool.or_false]) (by rw [h1];simpa using h2) ⟨.str ⟨#[c]⟩,H,I.tok _,⟨_,rfl⟩,q⟩) hs
def rIx (K:Fg9):R2:=fun x y H Q=>rIxL K x y H Q\/rIxT K x y H Q\/rIxS x y H Q
theorem Y8v:IxR X (rIx X.K):=Y8u.or (Y8x.or Y8w)
theorem Y0d (aV:List Value) (n j:Nat) (u:Value):Obj.mapSeq (·.setIfInBounds j u) { cls:=.type "list",data:=.seq aV.toArray n }={ cls:=.type "list",data:=.seq (aV.set j u).toArray n }:=by
 simp [Obj.mapSeq]
theorem A1.lst {ae:Pn9} {σ:St}{H:Hp}{s:Shared}{p:Addr}{xs:List V} (I:A1 X ae σ H s) (h:H p=some (.lst xs)) :
  ∃(aV:List Value) (n:Nat),B6 xs aV/\s.heap.get? p=some { cls:=.type "list",data:=.seq aV.toArray n }/\xs.length<=sizeLine:=by
 obtain⟨z,aV,n,r,e⟩:=I.hok p _ h
 exact⟨aV,n,r,e,z⟩
theorem A1.lstUpd {ae:Pn9} {σ:St}{H:Hp}{s:Shared}{p:Addr}{xs ys:List V}{aV its':List Value}{n n':Nat}{f:Obj->Obj} (I:A1 X ae σ H s) (h:H p=some (.lst xs))
  (ho:s.heap.get? p=some { cls:=.type "list",data:=.seq aV.toArray n }) (hf:f { cls:=.type "list",data:=.seq aV.toArray n }={ cls:=.type "list",data:=.seq its'.toArray n' }) (r:B6 ys its') (hz:ys.length<=sizeLine) (t:Nat) :
  A1 X ae σ (upd H p (.lst ys)) { s with heap:=s.heap.update p f,toks:=t }:=by
 have e:(s.heap.update p f).get? p=some { cls:=.type "list",data:=.seq its'.toArray n' }:=by
  rw [cI f ho (by rw [hf] <;> rfl),hf]
 refine I.write (x:=p) (e:=p) (by rw [h];trivial) (.inl rfl) (fun b u hb q=>(cA _ _ (bn hb)).trans q) ⟨_,e⟩ ?_
 exact⟨hz,its',n',r,e⟩
noncomputable def W3p:V->V->V->Hp->(Hp->Prop)->Prop:=fun o i v H Q=>∃p xs k j,o=.ref p/\i=.int k/\H p=some (.lst xs)/\ixN xs.length k=some j/\Q (upd H p (.lst (xs.set j v)))
theorem W6k:Z0o X W3p:=by
 intro ae s σ H o i v ov iv u Q I ro ri rv h
 obtain⟨p,xs,k,j,rfl,rfl,hp,hj,q⟩:=h
 cases ro
 obtain⟨t,rfl⟩:=ri
 obtain⟨aV,n,r,ho,hz⟩:=I.lst hp
 obtain⟨h1,h2,h3,h4⟩:=Q5r hj
 have hl:=r.length
 have hn:=Q1k
 have I':A1 X ae σ (upd H p (.lst (xs.set j v))) { s with heap:=s.heap.update p (Obj.mapSeq (·.setIfInBounds j u)) } :=
  I.lstUpd hp ho (Y0d aV n j u) (r.set rv j) (by rw [bg];exact hz) s.toks
 by_cases h0:0<=k
 ·have hk:k.toNat=j:=by
   rw [seqIndex_of h0 h4]at h1
   exact ay h1
  exact PySem.W.ki_setAt ho h0 (by omega) (by rw [aB,<- hl];exact h4) (by rw [hk];exact⟨_,I',q⟩)
 ·have hk:(k+(aV.toArray.size:Int)).toNat=j:=by
   rw [seqIndex_neg (by omega) h3]at h1
   rw [aB,<- hl]
   exact ay h1
  exact PySem.W.ki_setBack ho (by omega) (by rw [aB,<- hl];exact h3) (by omega) (by rw [hk];exact⟨_,I',q⟩)
theorem Y6z:Q2r X (.type "tuple") (fun xs H Q=>∃p ys,xs=[.ref p]/\((E3 X.K H p ys/\∀l,H l=none->Q (.ref l) (upd H l (.tup ys)))\/(C6 X.K H p ys/\Q (.ref p) H))):=by
 intro ae s σ H xs us Q I r h
 obtain⟨p,ys,rfl,h⟩:=h
 obtain⟨u,rfl,rx⟩:=Z8 r
 cases rx
 rcases h with⟨hq,q⟩ | ⟨hq,q⟩
 ·obtain⟨aV,r',pl,hz⟩:=I.list hq
  have bI:=r'.length
  refine call_tuple_list pl.isList (fun h' kp=>?_) (by simp only [aB] <;> omega)
  have I1:A1 X ae σ H { s with heap:=h' }:=I.kept (t':=s.toks) kp
  have I2:A1 X ae σ (upd H h'.objs.size (.tup ys)) { s with heap:=h'.push { cls:=.type "tuple",data:=.seq aV.toArray } } :=
   I1.laid (t':=s.toks) (fun b o e=>af _ e) (ai _) (show K1 X.prog X.w _ _ _ (.tup ys)from⟨hz,aV,r',IsTup.new _ _⟩)
  exact⟨.ref h'.objs.size,_,I2,rfl,q _ (I1.hok.fresh (ai _))⟩
 ·obtain⟨aV,r',pl,hz⟩:=I.tuple hq
  exact call_tuple_same pl ⟨.ref p,H,I,rfl,q⟩
def tyV (K:Fg9) (T:String) (x:V) (H:Hp):Prop:=match x with
 | .str _=>T="str"
 | .int _=>T="int"
 | .ref p=>(T="list"/\∃xs,E3 K H p xs)\/(T="tuple"/\∃o,K.lookup p=some o/\o.cls=.type "tuple"/\o.dict=none) \/
   (T="dict"/\((∃kvs,H p=some (.dK kvs))\/∃kvs,H p=some (.dT kvs)))\/(T="set"/\∃S n,H p=some (.set S n))
 | _=>False
theorem W7w {ae:Pn9} {σ:St}{H:Hp}{s:Shared}{T:String}{x:V}{v:Value} (I:A1 X ae σ H s) (r:B7 x v) (ty:tyV X.K T x H) :
  s.TypeIs v T/\∀a,v=.ref a->∃ob,s.heap.get? a=some ob/\ob.dict=none:=by
 cases x with
 | str z =>
  obtain⟨t,rfl⟩:=r
  cases (show T="str" from ty)
  exact⟨typeIs_str s z t,fun _ e=>nomatch e⟩
 | int i =>
  obtain⟨t,rfl⟩:=r
  cases (show T="int" from ty)
  exact⟨typeIs_int s i t,fun _ e=>nomatch e⟩
 | ref p =>
  cases r
  rcases ty with⟨rfl,xs,hq⟩ | ⟨rfl,o,hk,hc,hd⟩ | ⟨rfl,hk⟩ | ⟨rfl,S,n,hk⟩
  ·obtain⟨aV,_,pl,_⟩:=I.list hq
   refine⟨pl.isList.typeIs,fun a e=>?_⟩
   cases e
   obtain⟨o,n,e,c,hd,_⟩:=pl
   exact⟨o,e,hd⟩
  ·refine⟨⟨o,I.kIn p o hk,hc⟩,fun a e=>?_⟩
   cases e
   exact⟨o,I.kIn _ o hk,hd⟩
  ·have z:∃o,s.heap.get? p=some o/\o.ExactDict:=by
    rcases hk with⟨kvs,hk⟩ | ⟨kvs,hk⟩
    ·obtain⟨_,_,_,_,o,_,_,e,ex,_⟩:=I.hok p _ hk
     exact⟨o,e,ex⟩
    ·obtain⟨_,_,_,_,o,_,_,e,ex,_⟩:=I.hok p _ hk
     exact⟨o,e,ex⟩
   obtain⟨o,e,ex⟩:=z
   refine⟨⟨o,e,ex.1⟩,fun a e2=>?_⟩
   cases e2
   exact⟨o,e,ex.2.1⟩
  ·obtain⟨o,_,_,_,e,ex,_⟩:=I.hok p _ hk
   refine⟨⟨o,e,ex.1⟩,fun a e2=>?_⟩
   cases e2
   exact⟨o,e,ex.2.1⟩
 | _=>exact False.elim ty
def tBM (K:Fg9) (T:String) (r:V->List V->Hp->VK->Prop) (to:TE) (t:TA):TE:=fun σ H Q=>to σ H fun x H1=>tyV K T x H1/\t σ H1 fun xs H2=>r x xs H2 Q
variable {o e:Expr}{es:List Expr}{to:TE}{t:TA}{name:Str}{apos bc:Pos}{T id:String}{r:V->List V->Hp->VK->Prop}
theorem Y1l (pa:PlainAttrs T) (slot:Slot T name id) (i9:typeOf (.builtin id)=pure (.type "method_descriptor")) (hm:MtR X id r) (ho:PE X o to) (ha:PA X (e::es) t)
  (eA:attributeBase o name X.env (eval o X.env)=eval o X.env:=by rfl)
  (fZ:((backTo bc (starEach (e::es) X.env)).all (fun x=>!x.1)&&(backToKw bc (keywordEach [] X.env)).all (fun x=>x.1.isSome)
  &&decide ((e::es).length+([]:List Keyword).length+(if ([]:List Keyword).isEmpty then 0 else 1)<30))=true:=by rfl)
  (dH:(apos.endLine==bc.line)=true:=by rfl) (hs:starEach (e::es) X.env=(false,eval e X.env)::starEach es X.env:=by rfl) (dl:(backTo bc (starEach es X.env)).any (·.1)=false:=by rfl) :
  PE X (.Call (.Attribute o name apos) (e::es) [] bc) (tBM X.K T r to t):=by
 intro ae s σ H Q I h
 refine wpAny_Call_method_late eA fZ dH rfl (B2 (ho ae s σ H _ I h) fun v s1 bp=>?_)
 obtain⟨x,H1,I1,r1,ty,q1⟩:=bp
 obtain⟨h1,h2⟩:=W7w I1 r1 ty
 refine⟨T,id,pa,slot,i9,h1,h2,?_⟩
 have hA:=ha bc ae s1 σ H1 _ I1 q1
 rw [hs]at hA ⊢
 refine dW (by show(false||(backTo bc (starEach es X.env)).any (·.1))=false;rw [dl] <;> rfl) (cP ?_)
 exact B2 hA fun us s2 ⟨vs,H2,I2,r2,q2⟩=>hm ae s2 σ H2 x vs v us Q I2 r1 r2 q2
end
end L2
namespace L2
open PySem PySem.Spec PyProof.Rows
def MtM (X:Cx) (id:String) (r:V->List V->Hp->VK->Prop):Prop :=
 ∀(ae:Pn9) (s:Shared) (σ:St) (H:Hp) (x:V) (xs:List V) (v:Value) (us:List Value) (Q:VK),A1 X ae σ H s->B7 x v->B6 xs us->r x xs H Q ->
  wpAny (model X.prog X.w) X.A (call (.builtin id) (v::us)) (EP X ae σ Q) X.xe s
theorem B6.one:∀{x:V}{us:List Value},B6 [x] us->∃u,us=[u]/\B7 x u
 | _,_,.cons r .nil=>⟨_,rfl,r⟩
theorem B6.two:∀{x y:V}{us:List Value},B6 [x,y] us->∃u v,us=[u,v]/\B7 x u/\B7 y v
 | _,_,_,.cons r (.cons q .nil)=>⟨_,_,rfl,r,q⟩
theorem B6.rep {xs:List V}{us:List Value} (h:B6 xs us):∀k:Nat,B6 (List.replicate k xs).flatten (List.replicate k us).flatten
 | 0=>.nil
 | k+1=>by
  rw [bA,bA,ck,ck]
  exact B6.append h (B6.rep h k)
theorem Z8x (aV:List Value):∀(k:Nat) (c7:List Value),
  List.foldl (fun x1 x2=>x1++x2) c7.toArray (List.replicate k aV.toArray)=(c7++(List.replicate k aV).flatten).toArray
 | 0,c7=>by simp
 | k+1,c7=>by
  have e:c7.toArray++aV.toArray=(c7++aV).toArray:=by simp
  have e2:(c7++aV)++(List.replicate k aV).flatten=c7++(List.replicate (k+1) aV).flatten:=by
   rw [bA,ck,eV]
  rw [<- e2,<- Z8x aV k (c7++aV),<- e,bA,List.foldl_cons]
section
variable {X:Cx}{ae:Pn9} {σ:St}{H:Hp}{s:Shared}{l b:Addr}{xs ys zs:List V}
theorem A1.lset {aV its':List Value}{n:Nat}{f:Array Value->Array Value}{t':Nat} (I:A1 X ae σ H s) (hH:H l=some (.lst xs))
  (e:s.heap.get? l=some { cls:=.type "list",data:=.seq aV.toArray n }) (hf:f aV.toArray=its'.toArray) (hv:B6 ys its') (hz:ys.length<=sizeLine) :
  A1 X ae σ (upd H l (.lst ys)) { s with heap:=s.heap.update l (Obj.mapSeq f),toks:=t' }:=by
 have q:=PySem.IsL.update e f
 rw [hf]at q
 refine I.write (x:=l) (e:=l) (by rw [hH];exact trivial) (.inl rfl) (fun b' u hb hu=>(cA s.heap (Obj.mapSeq f) (bn hb)).trans hu) ⟨_,q⟩ ?_
 exact⟨hz,its',_,hv,q⟩
theorem A1.lnew {aV:List Value}{t':Nat} (I:A1 X ae σ H s) (hv:B6 ys aV) (hz:ys.length<=sizeLine) :
  A1 X ae σ (upd H s.heap.objs.size (.lst ys)) { s with heap:=s.heap.push { cls:=.type "list",data:=.seq aV.toArray },toks:=t' } :=
 I.laid (fun _ _ q=>af _ q) (ai _) ⟨hz,aV,0,hv,aH _ rfl⟩
theorem A1.fresh (I:A1 X ae σ H s):H s.heap.objs.size=none:=I.hok.fresh (ai _)
theorem A1.lstM (I:A1 X ae σ H s) (hH:H l=some (.lst xs)):xs.length<=sizeLine/\∃(aV:List Value) (n:Nat),B6 xs aV/\xs.length=aV.length/\s.heap.get? l=some { cls:=.type "list",data:=.seq aV.toArray n }:=by
 obtain⟨z,aV,n,r,e⟩:=I.hok l _ hH
 exact⟨z,aV,n,r,r.length,e⟩
theorem W0z {n:Nat} (h:n<=sizeLine):Builtin.List.listTooLong n=false:=by
 unfold Builtin.List.listTooLong
 exact aP (by omega)
end
section
variable {X:Cx}
noncomputable def W3m:V->List V->Hp->VK->Prop:=fun x vs H Q=>∃l xs y,x=.ref l/\vs=[y]/\H l=some (.lst xs)/\xs.length<sizeLine/\Q .non (upd H l (.lst (xs++[y])))
theorem W0o:MtM X "list.append" W3m:=by
 intro ae s σ H x vs v us Q I rx rv h
 obtain⟨l,xs,y,rfl,rfl,hH,hz,q⟩:=h
 cases rx
 obtain⟨u,rfl,ru⟩:=rv.one
 obtain⟨z,aV,n,r,hl,e⟩:=I.lstM hH
 refine call_meets F.slot_list_append ⟨_,e,rfl⟩ F.entry_list_append (F.args_list_append_2 _ _) (PySem.list_append l aV.toArray n u (by rw [aB];omega)) ⟨e,?_⟩
 refine⟨.non,_,I.lset (its':=aV++[u]) hH e (by simp) (r.append (.cons ru .nil)) ?_,rfl,q⟩
 rw [aE,bG]
 omega
def rCat:R2:=fun x y H Q=>∃l b xs zs,x=.ref l/\y=.ref b/\H l=some (.lst xs)/\H b=some (.lst zs)/\xs.length+zs.length<=sizeLine/\∀p,H p=none->Q (.ref p) (upd H p (.lst (xs++zs)))
theorem W1o:N6 X (binaryOp .Add) rCat:=by
 intro ae s σ H x y v u Q I rx ry h
 obtain⟨l,b,xs,zs,rfl,rfl,hH,hB,hz,q⟩:=h
 cases rx
 cases ry
 obtain⟨z,aV,n,r,hl,e⟩:=I.lstM hH
 obtain⟨z2,bZ,n2,r2,eg,e2⟩:=I.lstM hB
 refine PySem.P.add_list e e2 ?_ (by rw [aB,aB];omega)
 have ea:aV.toArray++bZ.toArray=(aV++bZ).toArray:=by simp
 rw [ea]
 exact⟨.ref _,_,I.lnew (t':=s.toks) (r.append r2) (by rw [aE];omega),rfl,q _ I.fresh⟩
def rRep:R2:=fun x y H Q=>∃l k xs,x=.ref l/\y=.int k/\H l=some (.lst xs)/\-(2 ^ 63)<=k/\k<2 ^ 63/\xs.length*k.toNat<=sizeLine /\
 ∀p,H p=none->Q (.ref p) (upd H p (.lst (List.replicate k.toNat xs).flatten))
theorem Z2e {α:Type} (xs:List α) (k:Nat):(List.replicate k xs).flatten.length=k*xs.length:=by
 induction k with
 | zero=>simp
 | succ k ih=>rw [bA,ck,aE,ih,Nat.succ_mul,Nat.add_comm]
theorem W1w:N6 X (binaryOp .Mult) rRep:=by
 intro ae s σ H x y v u Q I rx ry h
 obtain⟨l,k,xs,rfl,rfl,hH,h1,h2,hz,q⟩:=h
 cases rx
 obtain⟨t,rfl⟩:=ry
 obtain⟨z,aV,n,r,hl,e⟩:=I.lstM hH
 have bI:aV.toArray.size*k.toNat<=sizeLine:=by rw [aB,<- hl];exact hz
 have lW:¬ aV.toArray.size*k.toNat > (2 ^ 63-1) / 8:=by
  have:(sizeLine:Nat)<=(2 ^ 63-1) / 8:=by decide
  omega
 have lP:¬ (!Builtin.List.listFitsIndex k)=true:=by
  rw [fitsIndex_both h1 h2]
  exact cJ
 have jE:¬ Builtin.List.listTooLong (aV.toArray.size*k.toNat)=true:=by
  rw [W0z bI]
  exact cJ
 have gO:List.foldl (fun x1 x2=>x1++x2) #[] (List.replicate (if aV.toArray.isEmpty=true then 0 else k.toNat) aV.toArray)=(List.replicate k.toNat aV).flatten.toArray:=by
  have f0:∀m:Nat,List.foldl (fun x1 x2=>x1++x2) #[] (List.replicate m aV.toArray)=(List.replicate m aV).flatten.toArray:=fun m=>by
   have:=Z8x aV m []
   rw [dw]at this
   exact this
  rw [f0]
  cases aV with
  | nil=>simp
  | cons a r'=>rw [aI (by simp)]
 refine wpAny_binaryOp_repeat_ref (T:="list") (U:="int") (by decide) ⟨_,e,rfl⟩ (fun s'=>typeIs_int s' k t) noFill_list_mul F.fills_int_mul F.slot_int_rmul repeat_list F.slot_int_index.lookup
  (call_meets F.slot_int_rmul (typeIs_int s k t) F.entry_int_rmul (F.args_int_rmul_2 _ _) (int___rmul___int_list k t l aV.toArray n)
   ⟨e,rfl,⟨_,e,rfl⟩,call_meets F.slot_list_mul ⟨_,e,rfl⟩ F.entry_list_mul (F.args_list_mul_2 _ _) (AutoListH.list___mul___list_int_3 l aV.toArray n k t lP lW jE) ⟨e,?_⟩⟩)
 rw [gO]
 exact⟨.ref _,_,I.lnew (t':=s.toks) (r.rep k.toNat) (by rw [Z2e,Nat.mul_comm];exact hz),rfl,q _ I.fresh⟩
end
section
variable {prog:Program}{w:World}{A:Around}{E:VS9}{s:Shared}
end
section
variable {X:Cx}
end
end L2
namespace L2
open PySem PySem.Spec PyProof.Rows
section
variable {κ:Type} [DecidableEq κ]
noncomputable def Q9 (kvs:List (κ×V)) (k:κ):Option V:=(kvs.find? fun kv=>decide (kv.1=k)).map (·.2)
noncomputable def O3 (kvs:List (κ×V)) (k:κ) (v:V):List (κ×V) :=
 if (kvs.any fun kv=>decide (kv.1=k))=true then kvs.map (fun kv=>if kv.1=k then(kv.1,v)else kv)else kvs++[(k,v)]
theorem Q9q {p:κ×V}{r:List (κ×V)}{k:κ} (e:p.1=k):Q9 (p::r) k=some p.2:=by simp [Q9,aZ,e]
theorem Q9p {p:κ×V}{r:List (κ×V)}{k:κ} (e:¬ p.1=k):Q9 (p::r) k=Q9 r k:=by simp [Q9,aZ,e]
theorem Y4s (k:κ):∀kvs:List (κ×V),(kvs.any fun kv=>decide (kv.1=k))=(Q9 kvs k).isSome
 | []=>rfl
 | p::r=>by
  rw [fe]
  by_cases e:p.1=k
  ·simp only [Q9q e,dP e,Bool.true_or,Option.isSome_some]
  ·rw [Q9p e,aP e,Bool.false_or];exact Y4s k r
theorem Q5s (kvs:List (κ×V)) (k:κ) (v:V):(O3 kvs k v).length<=kvs.length+1:=by
 unfold O3
 split
 ·rw [ag];omega
 ·rw [aE,aK,hV];omega
theorem Y8.isSome_eq {o:Option V}{u:Option Value} (r:Y8 o u):o.isSome=u.isSome:=by
 cases o with
 | none=>cases u with
  | none=>rfl
  | some _=>exact(show False from r).elim
 | some _=>cases u with
  | none=>exact(show False from r).elim
  | some _=>rfl
theorem Y8.getD {o:Option V}{u:Option Value}{d:V}{d':Value} (r:Y8 o u) (rd:B7 d d'):B7 (o.getD d) (u.getD d'):=by
 cases o with
 | none=>cases u with
  | none=>exact rd
  | some _=>exact(show False from r).elim
 | some _=>cases u with
  | none=>exact(show False from r).elim
  | some _=>exact r
theorem KV.val {kvs:List (κ×V)}{vs:List (κ×Value)} (r:KV kvs vs) (k:κ):Y8 (Q9 kvs k) (valueAt vs k):=by
 unfold KV at r
 induction r with
 | nil=>exact True.intro
 | @cons p q ps qs h t ih =>
  obtain⟨h1,h2⟩:=h
  by_cases e:p.1=k
  ·have e':q.1=k:=h1.symm.trans e
   have b:valueAt (q::qs) k=some q.2:=by simp [valueAt,aZ,e']
   rw [Q9q e,b];exact h2
  ·have e':¬ q.1=k:=fun z=>e (h1.trans z)
   have b:valueAt (q::qs) k=valueAt qs k:=by simp [valueAt,aZ,e']
   rw [Q9p e,b];exact ih
theorem KV.any {kvs:List (κ×V)}{vs:List (κ×Value)} (r:KV kvs vs) (k:κ):(kvs.any fun kv=>decide (kv.1=k))=vs.any fun kv=>decide (kv.1=k):=by
 unfold KV at r
 induction r with
 | nil=>rfl
 | cons h t ih=>rw [fe,fe,ih,h.1]
theorem KV.repl {kvs:List (κ×V)}{vs:List (κ×Value)} (r:KV kvs vs) (k:κ) {y:V}{u:Value} (ry:B7 y u) :
  KV (kvs.map fun kv=>if kv.1=k then(kv.1,y)else kv) (vs.map fun kv=>if kv.1=k then(kv.1,u)else kv):=by
 unfold KV at r ⊢
 induction r with
 | nil=>exact .nil
 | @cons p q ps qs h t ih =>
  rw [ar,ar]
  refine .cons ?_ ih
  obtain⟨h1,h2⟩:=h
  by_cases e:p.1=k
  ·rw [aM e,aM (h1.symm.trans e)];exact⟨h1,ry⟩
  ·rw [aI e,aI (fun z=>e (h1.trans z))];exact⟨h1,h2⟩
theorem KV.put {kvs:List (κ×V)}{vs:List (κ×Value)} (r:KV kvs vs) (k:κ) {y:V}{u:Value} (ry:B7 y u):KV (O3 kvs k y) (stored vs k u):=by
 unfold O3 stored
 rw [r.any k]
 by_cases e:(vs.any fun kv=>decide (kv.1=k))=true
 ·rw [aM e,aM e];exact r.repl k ry
 ·rw [aI e,aI e];exact Paired.snoc r ⟨rfl,ry⟩
theorem KV.length {kvs:List (κ×V)}{vs:List (κ×Value)} (r:KV kvs vs):kvs.length=vs.length:=Paired.length r
end
theorem Q2d {P:Program}{w:World}{k:B0}{u:Value} (r:B7 (kV k) u):(K4 P w).is k u=true:=by
 cases k with
 | inl i=>obtain⟨t,e⟩:=(show ∃t,u=Value.int i t from r);subst e;exact W0g P w i t
 | inr x=>obtain⟨t,e⟩:=(show ∃t,u=Value.str x t from r);subst e;exact W0h P w x t
theorem Z9q {P:Program}{w:World}:∀{ks:List B0}{us:List Value},B6 (ks.map kV) us->ItemsAre (K4 P w) ks us
 | [],_,r=>by rw [cc]at r;cases r;exact .nil
 | k::ks,_,r=>by
  rw [ar]at r
  cases r with
  | cons h t=>exact .cons (Q2d h) (Z9q t)
noncomputable abbrev KT (H:Hp):List (List B0×V)->List (List B0×Addr×Value)->Prop:=Paired fun p q=>p.1=q.1/\H q.2.1=some (.tup (p.1.map kV))/\B7 p.2 q.2.2
theorem KT.val {H:Hp}{kvs:List (List B0×V)}{xs:List (List B0×Addr×Value)} (r:KT H kvs xs) (k:List B0):Y8 (Q9 kvs k) ((atKey xs k).map (·.2)):=by
 induction r with
 | nil=>exact True.intro
 | @cons p q ps qs h t ih =>
  obtain⟨h1,_,h2⟩:=h
  by_cases e:p.1=k
  ·have e':q.1=k:=h1.symm.trans e
   have b:atKey (q::qs) k=some q.2:=by simp [atKey,aZ,e']
   rw [Q9q e,b];exact h2
  ·have e':¬ q.1=k:=fun z=>e (h1.trans z)
   have b:atKey (q::qs) k=atKey qs k:=by simp [atKey,aZ,e']
   rw [Q9p e,b];exact ih
theorem KT.repl {H:Hp}{kvs:List (List B0×V)}{xs:List (List B0×Addr×Value)} (r:KT H kvs xs) (k:List B0) {y:V}{u:Value} (ry:B7 y u) :
  KT H (kvs.map fun kv=>if kv.1=k then(kv.1,y)else kv) (xs.map (putAt k u)):=by
 induction r with
 | nil=>exact .nil
 | @cons p q ps qs h t ih =>
  rw [ar,ar]
  refine .cons ?_ ih
  obtain⟨h1,h2,h3⟩:=h
  unfold putAt
  by_cases e:p.1=k
  ·rw [aM e,aM (h1.symm.trans e)];exact⟨h1,h2,ry⟩
  ·rw [aI e,aI (fun z=>e (h1.trans z))];exact⟨h1,h2,h3⟩
theorem KT.put {H:Hp}{kvs:List (List B0×V)}{xs:List (List B0×Addr×Value)} (r:KT H kvs xs) (k:List B0) {b:Addr}{y:V}{u:Value} (hb:H b=some (.tup (k.map kV))) (ry:B7 y u) :
  KT H (O3 kvs k y) (storedH xs k b u):=by
 have e:(kvs.any fun kv=>decide (kv.1=k))=(atKey xs k).isSome:=by
  rw [Y4s,(r.val k).isSome_eq,Option.isSome_map]
 unfold O3 storedH
 rw [e]
 by_cases q:(atKey xs k).isSome=true
 ·rw [aM q,aM q];exact r.repl k ry
 ·rw [aI q,aI q];exact Paired.snoc r ⟨rfl,hb,ry⟩
theorem KT.keeps {H H':Hp}{kvs:List (List B0×V)}{xs:List (List B0×Addr×Value)} (r:KT H kvs xs) (ht:∀b ys,H b=some (.tup ys)->H' b=some (.tup ys)):KT H' kvs xs :=
 Paired.mapP r fun _ _ z=>⟨z.1,ht _ _ z.2.1,z.2.2⟩
section
variable {P:Program}{w:World}{H:Hp}{h:Heap}{a:Addr}
theorem Y2a {u:HO} (ok:F8 P w H h) (e:Rd H a u):K1 P w H h a u:=e.ok ok
theorem Q3u {kvs:List (B0×V)} (ok:F8 P w H h) (e:Rd H a (.dK kvs)):kvs.length<=sizeLine/\(a==sysModules)=false/\∃vs,KV kvs vs/\h.DictOf (K4 P w) a vs :=
 show K1 P w H h a (.dK kvs)from Y2a ok e
theorem Q7m {kvs:List (B0×V)} (ok:F8 P w H h) (e:H a=some (.dK kvs)):kvs.length<=sizeLine/\(a==sysModules)=false/\∃vs,KV kvs vs/\h.DictOf (K4 P w) a vs:=Q3u ok (.inl e)
theorem Q4b {ks:List B0} (ok:F8 P w H h) (e:H a=some (.tup (ks.map kV))):(tupleKind (K4 P w)).is h ks a:=by
 obtain⟨_,aV,r,o,h1,h2,n,h3⟩:=(show K1 P w H h a (.tup (ks.map kV))from ok a _ e)
 exact⟨o,aV.toArray,n,h1,h2,h3,by simpa using Z9q r⟩
theorem Q3v {kvs:List (List B0×V)} (ok:F8 P w H h) (e:Rd H a (.dT kvs)):kvs.length<=sizeLine/\(a==sysModules)=false /\
  ∃xs,KT H kvs xs/\h.DictOfH (tupleKind (K4 P w)) a xs:=by
 obtain⟨z,y,xs,r,o,es,ep,h1,h2,h3,h4,h5⟩:=(show K1 P w H h a (.dT kvs)from Y2a ok e)
 refine⟨z,y,xs,r,o,es,ep,h1,h2,h3,h4,fun x hx=>?_,h5⟩
 have all:∀{l:List (List B0×V)}{m:List (List B0×Addr×Value)},KT H l m->∀x∈m,(tupleKind (K4 P w)).is h x.1 x.2.1:=by
  intro l m q
  induction q with
  | nil=>intro x hx;exact nomatch hx
  | @cons p q ps qs hq t ih =>
   intro x hx
   rcases ao.mp hx with e | hx
   ·subst e
    exact Q4b ok (by rw [<- hq.1];exact hq.2.1)
   ·exact ih x hx
 exact all r x hx
theorem Z8p {kvs:List (List B0×V)} (ok:F8 P w H h) (e:H a=some (.dT kvs)):kvs.length<=sizeLine/\(a==sysModules)=false /\
  ∃xs,KT H kvs xs/\h.DictOfH (tupleKind (K4 P w)) a xs:=Q3v ok (.inl e)
end
def V3 (H:Hp) (a:Addr) (y:V) (r:Option V):Prop :=
 (∃kvs k,Rd H a (.dK kvs)/\y=kV k/\r=Q9 kvs k)\/∃kvs k b,Rd H a (.dT kvs)/\y=.ref b/\H b=some (.tup (k.map kV))/\r=Q9 kvs k
def Q1s (H:Hp) (a:Addr) (y v:V) (H':Hp):Prop :=
 (∃kvs k,H a=some (.dK kvs)/\y=kV k/\kvs.length<sizeLine/\H'=upd H a (.dK (O3 kvs k v))) \/
 ∃kvs k b,H a=some (.dT kvs)/\y=.ref b/\H b=some (.tup (k.map kV))/\kvs.length<sizeLine/\H'=upd H a (.dT (O3 kvs k v))
theorem V3.k {H:Hp}{a:Addr}{kvs:List (B0×V)}{k:B0} (e:H a=some (.dK kvs)):V3 H a (kV k) (Q9 kvs k):=.inl ⟨kvs,k,.inl e,rfl,rfl⟩
theorem V3.t {H:Hp}{a b:Addr}{kvs:List (List B0×V)}{k:List B0} (e:H a=some (.dT kvs)) (eb:H b=some (.tup (k.map kV))):V3 H a (.ref b) (Q9 kvs k):=.inr ⟨kvs,k,b,.inl e,rfl,eb,rfl⟩
theorem Q1s.k {H:Hp}{a:Addr}{kvs:List (B0×V)}{k:B0}{v:V} (e:H a=some (.dK kvs)) (hl:kvs.length<sizeLine):Q1s H a (kV k) v (upd H a (.dK (O3 kvs k v))):=.inl ⟨kvs,k,e,rfl,hl,rfl⟩
theorem Q1s.t {H:Hp}{a b:Addr}{kvs:List (List B0×V)}{k:List B0}{v:V} (e:H a=some (.dT kvs)) (eb:H b=some (.tup (k.map kV))) (hl:kvs.length<sizeLine) :
  Q1s H a (.ref b) v (upd H a (.dT (O3 kvs k v))):=.inr ⟨kvs,k,b,e,rfl,eb,hl,rfl⟩
section
variable {X:Cx}{ae:Pn9} {σ:St}{H:Hp}{s:Shared}{a:Addr}{y v:V}{u r:Value}{o:Option V}{A:Around}{E:VS9}
theorem A1.big (I:A1 X ae σ H s):sysModules<s.heap.objs.size:=by
 have h:mainGlobals<s.heap.objs.size:=(I.mod.glob.keeps I.bk).lt
 exact Nat.lt_trans (by decide) h
theorem Y7i {Q:VS9} (hu:A.units+1<cLine) (I:A1 X ae σ H s) (g:V3 H a y (some v)) (ry:B7 y u) (h:∀w' s',A1 X ae σ H s'->B7 v w'->Q w' s') :
  wpAny (model X.prog X.w) A (getItem (.ref a) u) Q E s:=by
 rcases g with⟨kvs,k,e,ey,l⟩ | ⟨kvs,k,b,e,ey,eb,l⟩
 ·subst ey
  obtain⟨z,hd,vs,rel,dd⟩:=Q3u I.hok e
  obtain⟨w',hw,fj⟩:=Y8.some_of (v:=v) (o:=valueAt vs k) (by rw [l];exact rel.val k)
  exact wpAny_getItem_of (Q2d ry) dd.mapOf hw (h w' _ (I.tok _) fj)
 ·subst ey
  cases (show u=Value.ref b from ry)
  obtain⟨z,hd,xs,rel,dd⟩:=Q3v I.hok e
  obtain⟨w',hw,fj⟩:=Y8.some_of (v:=v) (o:=(atKey xs k).map (·.2)) (by rw [l];exact rel.val k)
  obtain⟨p,hp,jc⟩:=Option.map_eq_some_iff.mp hw
  refine wpAny_getItem_heap (tupleKind_room_in1 hu) (Q4b I.hok eb) dd hp ?_
  rw [jc]
  exact h w' _ (I.tok _) fj
theorem Y7j {Q:VS9} (hu:A.units+1<cLine) (I:A1 X ae σ H s) (g:V3 H a y o) (ry:B7 y u) (h:∀s',A1 X ae σ H s'->Q (.bool (!o.isSome)) s') :
  wpAny (model X.prog X.w) A (compareOp .NotIn u (.ref a)) Q E s:=by
 rcases g with⟨kvs,k,e,ey,l⟩ | ⟨kvs,k,b,e,ey,eb,l⟩
 ·subst ey
  obtain⟨z,hd,vs,rel,dd⟩:=Q3u I.hok e
  refine wpAny_notIn_of (Q2d ry) hd dd.mapOf ?_
  rw [<- (rel.val k).isSome_eq,<- l]
  exact h _ (I.tok _)
 ·subst ey
  cases (show u=Value.ref b from ry)
  obtain⟨z,hd,xs,rel,dd⟩:=Q3v I.hok e
  refine wpAny_notIn_heap (tupleKind_room_in1 hu) (Q4b I.hok eb) hd dd ?_
  have q:=(rel.val k).isSome_eq
  rw [Option.isSome_map]at q
  rw [<- q,<- l]
  exact h _ (I.tok _)
theorem Q1x {h':Heap}{t':Nat}{ob:HO} (I:A1 X ae σ H s) (mu:Mut (H a)) (hs:Heap.SameBut a s.heap h') (he:∃q,h'.get? a=some q) (new:K1 X.prog X.w (upd H a ob) h' a ob) :
  A1 X ae σ (upd H a ob) { s with heap:=h',toks:=t' } :=
 I.write (x:=a) (e:=a) mu (.inl rfl) (fun b q hb z=>(hs.2 b hb).trans z) he new
theorem Z1g {P:Program}{w:World}{H':Hp}{h':Heap}{kvs:List (B0×V)}{vs:List (B0×Value)} (z:kvs.length<=sizeLine) (hd:(a==sysModules)=false) (rel:KV kvs vs) (dd:h'.DictOf (K4 P w) a vs) :
  K1 P w H' h' a (.dK kvs):=⟨z,hd,vs,rel,dd⟩
theorem Y7k {H':Hp}{Q:Unit->Shared->Prop} (hu:A.units+1<cLine) (I:A1 X ae σ H s) (g:Q1s H a y v H') (ry:B7 y u) (rv:B7 v r) (h:∀s',A1 X ae σ H' s'->Q () s') :
  wpAny (model X.prog X.w) A (setItem (.ref a) u r) Q E s:=by
 rcases g with⟨kvs,k,e,ey,l,eH⟩ | ⟨kvs,k,b,e,ey,eb,l,eH⟩
 ·subst ey eH
  obtain⟨z,hd,vs,rel,dd⟩:=Q7m I.hok e
  have hz:vs.length<=sizeLine:=by rw [<- rel.length];exact z
  have hl:(O3 kvs k v).length<=sizeLine:=by have:=Q5s kvs k v;omega
  refine wpAny_setItem_pairs (hsz:=hz) (Q2d ry) dd fun h' fE hs=>h _ ?_
  have he:∃q,h'.get? a=some q:=let ⟨q,_,_,hq,_⟩:=fE;⟨q,hq⟩
  exact Q1x I (by rw [e];exact True.intro) hs he (Z1g hl hd (rel.put k rv) fE)
 ·subst ey eH
  cases (show u=Value.ref b from ry)
  obtain⟨z,hd,xs,rel,dd⟩:=Z8p I.hok e
  have hz:xs.length<=sizeLine:=by rw [<- Paired.length rel];exact z
  have hl:(O3 kvs k v).length<=sizeLine:=by have:=Q5s kvs k v;omega
  refine wpAny_setItem_heap (hsz:=hz) (tupleKind_room_in1 hu) (Q4b I.hok eb) dd fun h' fE hs=>h _ ?_
  obtain⟨q,es,ep,hq,h2,h3,h4,_,h5⟩:=fE
  refine Q1x I (by rw [e];exact True.intro) hs ⟨q,hq⟩ ⟨hl,hd,_,(rel.put k eb rv).keeps fun c ys ec=>?_,q,es,ep,hq,h2,h3,h4,h5⟩
  rw [A6 (Y0 ec e (fun z=>nomatch z))]
  exact ec
end
section
variable {X:Cx}{ae:Pn9} {σ:St}{H:Hp}{s:Shared}{a:Addr}{kvs:List (B0×V)}{k:B0}{u:Value}{A:Around}{E:VS9}
end
def Q5c (i:Expr):Prop:=∀ov iv,subscripted i false ov iv=operate [ov,iv] (getItem ov iv)
theorem W6s {prog:Program}{w:World}{A:Around}{E:VS9}{s:Shared}{env:Env}{value slice:Expr}{pos:Pos}{T id:String}{Q:VS9}
  (hl:typeLookup (.type T) "__getitem__"=pure (some (.builtin id))) (hs:Q5c slice)
  (h:wpAny (model prog w) A (eval value env) (fun o s₁=>wpAny (model prog w) A (eval slice env) (fun i s₂=>s₂.TypeIs o T/\wpAny (model prog w) A (getItem o i) Q E s₂) E s₁) E s) :
  wpAny (model prog w) A (eval (.Subscript value slice pos) env) Q E s:=by
 refine Subscript_ (aL h (fun o s₁ h₁=>aL h₁ (fun i s₂ h₂=>?_) fun _ _ x=>x) fun _ _ x=>x)
 obtain⟨hT,h₂⟩:=h₂
 unfold subscriptTail
 refine aa ?_
 rw [getitemInPython_of_ne hT.not_modules]
 refine aa (wpAny_specialOf hT hl ?_)
 have fin:wpAny (model prog w) A (subscripted slice false o i) (fun r s₃=>wpAny (model prog w) A (letTemporaryGo value o r>>=fun _=>pure r) Q E s₃) E s₂:=by
  rw [hs o i]
  exact wpAny_operating (aL h₂ (fun r s₃ h₃=>aa (wpAny_letTemporaryGo (aq h₃))) fun _ _ x=>x)
 first
  | exact aq (aa fin)
  | exact aa (aq (aa fin))
  | exact aa fin
theorem Y7n {X:Cx}{ae:Pn9} {σ:St}{H:Hp}{s:Shared}{a:Addr}{y:V}{o:Option V} (I:A1 X ae σ H s) (g:V3 H a y o):s.TypeIs (.ref a) "dict":=by
 rcases g with⟨kvs,k,e,_,_⟩ | ⟨kvs,k,b,e,_,_,_⟩
 ·obtain⟨_,_,vs,_,dd⟩:=Q3u I.hok e
  exact dd.typeIs
 ·obtain⟨_,_,xs,_,dd⟩:=Q3v I.hok e
  exact dd.typeIs
def W6u (td ty:TE):TE:=fun σ H Q=>td σ H fun x H1=>ty σ H1 fun y H2=>∃a v,x=.ref a/\V3 H2 a y (some v)/\Q v H2
def W6x (ty td:TE):TE:=fun σ H Q=>ty σ H fun y H1=>td σ H1 fun x H2=>∃a o,x=.ref a/\V3 H2 a y o/\Q (.bl (!o.isSome)) H2
def W5c (td ty tv:TE):TS:=fun D σ H=>tv σ H fun v H1=>td σ H1 fun x H2=>ty σ H2 fun y H3=>∃a H4,x=.ref a/\Q1s H3 a y v H4/\D.nx σ H4
section
variable {X:Cx}{o i e value:Expr}{pos be kH:Pos}{td ty tv:TE}
theorem Z3e (hu:X.A.units+1<cLine) (ho:PE X o td) (hi:PE X i ty) (hs:Q5c i):PE X (.Subscript o i pos) (W6u td ty):=by
 intro ae s σ H Q I h
 refine W6s PySem.F.slot_dict_getitem.lookup hs (B2 (ho ae s σ H _ I h) fun u s1 ⟨x,H1,I1,rx,q1⟩=>B2 (hi ae s1 σ H1 _ I1 q1) fun iv s2 bp=>?_)
 obtain⟨y,H2,I2,ry,a,v,ex,g,q2⟩:=bp
 subst ex
 obtain rfl:u=Value.ref a:=rx
 exact⟨Y7n I2 g,Y7i hu I2 g ry fun w' s3 I3 fj=>⟨v,H2,I3,fj,q2⟩⟩
theorem Y1k (hu:X.A.units+1<cLine) (hi:PE X i ty) (ho:PE X o td):PC X .NotIn i o (W6x ty td):=by
 intro ae s σ H Q I h
 refine B2 (hi ae s σ H _ I h) fun iv s1 ⟨y,H1,I1,ry,q1⟩=>B2 (ho ae s1 σ H1 _ I1 q1) fun u s2 bp=>?_
 obtain⟨x,H2,I2,rx,a,ov,ex,g,q2⟩:=bp
 subst ex
 obtain rfl:u=Value.ref a:=rx
 exact Y7j hu I2 g ry fun s3 I3=>⟨.bl (!ov.isSome),H2,I3,rfl,q2⟩
theorem Y1u (hu:X.A.units+1<cLine) (ho:PE X o td) (hi:PE X i ty) (hv:PE X value tv) (hs:swapsWith value (some (.Subscript o i be)) pos.line X.env=pure false) :
  PS X (.Assign [.Subscript o i be] value pos) (W5c td ty tv):=by
 intro ae s σ H D I h
 refine wpAny_Assign_Subscript (B2 (hv ae s σ H _ I h) fun r s1 ⟨v,H1,I1,rv,q1⟩=>B2 (ho ae s1 σ H1 _ I1 q1) fun u s2 ⟨x,H2,I2,rx,q2⟩=>B2 (hi ae s2 σ H2 _ I2 q2) fun iv s3 bp=>?_) hs
 obtain⟨y,H3,I3,ry,a,H4,ex,g,q3⟩:=bp
 subst ex
 obtain rfl:u=Value.ref a:=rx
 exact Y7k hu I3 g ry rv fun s4 I4=>⟨σ,H4,I4,q3⟩
end
theorem Z8o {P:Program}{w:World}{H:Hp} (h:Heap) (hb:sysModules<h.objs.size):K1 P w H (h.push { cls:=.type "dict",data:=.dict #[] }) h.objs.size (.dK []) :=
 ⟨bD _,bO.mpr (bn (av hb)),[],.nil,Heap.DictOf.new h⟩
theorem Y7r {P:Program}{w:World}{H:Hp} (h:Heap) (hb:sysModules<h.objs.size):K1 P w H (h.push { cls:=.type "dict",data:=.dict #[] }) h.objs.size (.dT []) :=
 ⟨bD _,bO.mpr (bn (av hb)),[],.nil,_,#[],0,aH _ rfl,⟨rfl,rfl,rfl⟩,rfl,rfl,dR⟩
def W6w:TE:=fun _ H Q=>∀p,H p=none->Q (.ref p) (upd H p (.dK []))
section
variable {X:Cx}{pos:Pos}
theorem W2k:PE X (.Dict [] [] pos) W6w:=fun ae s σ H Q I h =>
 wpAny_Dict_empty ⟨.ref s.heap.objs.size,_,I.laid (a:=s.heap.objs.size) (o:=.dK []) (t':=s.toks) (fun _ _ q=>af _ q) (ai _) (Z8o s.heap I.big),rfl,h _ (I.hok.fresh (ai _))⟩
end
noncomputable def Z4m:List (TE×TE)->St->Hp->(List (V×V)->Hp->Prop)->Prop
 | [],_,H,Q=>Q [] H
 | (tk,tv)::r,σ,H,Q=>tk σ H fun x H1=>tv σ H1 fun y H2=>Z4m r σ H2 fun ps H3=>Q ((x,y)::ps) H3
noncomputable abbrev VV:List (V×V)->List (Value×Value)->Prop:=Paired fun p q=>B7 p.1 q.1/\B7 p.2 q.2
def PPs (X:Cx) (pos:Pos) (keys:List (Option Expr)) (values:List Expr) (gC:List (TE×TE)):Prop :=
 ∀(ae:Pn9) (s:Shared) (σ:St) (H:Hp) (Q:List (V×V)->Hp->Prop),A1 X ae σ H s->Z4m gC σ H Q ->
  wpAny (model X.prog X.w) X.A (evalPairs (pairTrees keys values X.env pos)) (fun vs s'=>∃ps H',A1 X ae σ H' s'/\VV ps vs/\Q ps H') X.xe s
theorem W3c {X:Cx}{pos:Pos}:PPs X pos [] [] []:=fun ae s σ H Q I h=>pairTrees_nil_walk ⟨[],H,I,.nil,h⟩
theorem W3b {X:Cx}{pos:Pos}{k v:Expr}{ks:List (Option Expr)}{vs:List Expr}{tk tv:TE}{gC:List (TE×TE)} (hk:PE X k tk) (hv:PE X v tv) (hr:PPs X pos ks vs gC) :
  PPs X pos (some k::ks) (v::vs) ((tk,tv)::gC):=fun ae s σ H Q I h =>
 pairTrees_cons_walk (B2 (hk ae s σ H _ I h) fun u s1 ⟨x,H1,I1,rx,q1⟩=>B2 (hv ae s1 σ H1 _ I1 q1) fun w2 s2 ⟨y,H2,I2,ry,q2⟩ =>
  B2 (hr ae s2 σ H2 _ I2 q2) fun ws s3 ⟨ps,H3,I3,rel,q3⟩=>⟨(x,y)::ps,H3,I3,.cons ⟨rx,ry⟩ rel,q3⟩)
noncomputable def Q4g (kvs more:List (B0×V)):List (B0×V):=more.foldl (fun c7 kv=>O3 c7 kv.1 kv.2) kvs
theorem KV.merge:∀{more:List (B0×V)}{rs:List (B0×Value)}{kvs:List (B0×V)}{vs:List (B0×Value)},KV more rs->KV kvs vs->KV (Q4g kvs more) (merged vs rs):=by
 intro more rs kvs vs r
 unfold KV at r
 induction r generalizing kvs vs with
 | nil=>intro q;exact q
 | @cons p q ps qs h t ih =>
  intro r0
  have e:KV (O3 kvs p.1 p.2) (stored vs q.1 q.2):=by
   have:=r0.put p.1 h.2
   rw [<- h.1];exact this
  exact ih e
theorem Z9v:∀(more kvs:List (B0×V)),(Q4g kvs more).length<=kvs.length+more.length
 | [],kvs=>by show kvs.length<=kvs.length+0;omega
 | p::r,kvs=>by
  have h1:=Z9v r (O3 kvs p.1 p.2)
  have h2:=Q5s kvs p.1 p.2
  show(Q4g (O3 kvs p.1 p.2) r).length<=_
  rw [aK];omega
theorem Z8a {P:Program}{w:World}:∀{kvs:List (B0×V)}{ws:List (Value×Value)},VV (kvs.map fun kv=>(kV kv.1,kv.2)) ws->∃rs,Carries (K4 P w) ws rs/\KV kvs rs
 | [],_,r=>by rw [cc]at r;cases r;exact⟨[],True.intro,.nil⟩
 | p::kvs,_,r=>by
  rw [ar]at r
  cases r with
  | @cons a b as bs h t =>
   obtain⟨rs,c,q⟩:=Z8a (P:=P) (w:=w) t
   obtain⟨b1,b2⟩:=b
   exact⟨(p.1,b2)::rs,⟨Q2d h.1,rfl,c⟩,.cons ⟨rfl,h.2⟩ q⟩
def W6y (gC:List (TE×TE)):TE:=fun σ H Q=>∀p,H p=none->Z4m gC σ (upd H p (.dK [])) fun ps H2=>H2 p=some (.dK [])/\∃kvs:List (B0×V),ps=kvs.map (fun kv=>(kV kv.1,kv.2))/\kvs.length<=15/\Q (.ref p) (upd H2 p (.dK (Q4g [] kvs)))
theorem W2h {X:Cx}{pos:Pos}{keys:List (Option Expr)}{values:List Expr}{gC:List (TE×TE)} (h:PPs X pos keys values gC) (j3:keys.all (·.isSome)=true) (hl:keys.length=values.length) (h0:keys≠[])
  (qY:keys.length<=15):PE X (.Dict keys values pos) (W6y gC):=by
 intro ae s σ H Q I q
 have hn:=I.hok.fresh (ai s.heap.objs.size)
 have I1:=I.laid (a:=s.heap.objs.size) (o:=.dK []) (h':=s.heap.push { cls:=.type "dict",data:=.dict #[] }) (t':=s.toks) (fun _ _ q=>af _ q) (ai _) (Z8o s.heap I.big)
 refine wpAny_Dict_walk (knd:=K4 X.prog X.w) j3 hl h0 qY (B2 (h ae _ σ _ _ I1 (q _ hn)) fun ws s2 bp=>?_)
 obtain⟨ps,H2,I2,rel,e,kvs,ep,lk,q2⟩:=bp
 subst ep
 obtain⟨rs,c,rk⟩:=Z8a (P:=X.prog) (w:=X.w) rel
 obtain⟨z,hd,rO,r0,dd⟩:=Q7m I2.hok e
 cases r0
 refine⟨rs,c,dd,fun h' fE hs=>⟨.ref s.heap.objs.size,_,?_,rfl,q2⟩⟩
 have hz:(Q4g [] kvs).length<=sizeLine:=by
  have h1:=Z9v kvs []
  rw [hV]at h1
  rw [sizeLine_eq];omega
 have he:∃q,h'.get? s.heap.objs.size=some q:=let ⟨q,_,_,hq,_⟩:=fE;⟨q,hq⟩
 exact Q1x I2 (by rw [e];exact True.intro) hs he (Z1g hz hd (rk.merge .nil) fE)
structure M1 (X:Cx) (o:Expr) (m:Str) (apos:Pos) (e:Expr) (bc:Pos):Prop where
 base:attributeBase o m X.env (eval o X.env)=eval o X.env
 few:((backTo bc (starEach [e] X.env)).all (fun x=>!x.1)&&(backToKw bc (keywordEach [] X.env)).all (fun x=>x.1.isSome)
 &&decide (([e]:List Expr).length+([]:List Keyword).length+(if ([]:List Keyword).isEmpty then 0 else 1)<30))=true
 line:(apos.endLine==bc.line)=true
 trees:backTo bc (starEach [e] X.env)=[(false,eval e X.env)]
structure M2 (X:Cx) (o:Expr) (m:Str) (apos:Pos) (e f:Expr) (bc:Pos):Prop where
 base:attributeBase o m X.env (eval o X.env)=eval o X.env
 few:((backTo bc (starEach [e,f] X.env)).all (fun x=>!x.1)&&(backToKw bc (keywordEach [] X.env)).all (fun x=>x.1.isSome)
 &&decide (([e,f]:List Expr).length+([]:List Keyword).length+(if ([]:List Keyword).isEmpty then 0 else 1)<30))=true
 line:(apos.endLine==bc.line)=true
 trees:backTo bc (starEach [e,f] X.env)=[(false,eval e X.env),(false,eval f X.env)]
def IsD (H:Hp) (a:Addr):Prop:=(∃kvs,Rd H a (.dK kvs))\/∃kvs,Rd H a (.dT kvs)
theorem Z9l {X:Cx}{ae:Pn9} {σ:St}{H:Hp}{s:Shared}{a:Addr} (I:A1 X ae σ H s) (d:IsD H a) :
  s.TypeIs (.ref a) "dict"/\(∀b,Value.ref a=.ref b->∃ob,s.heap.get? b=some ob/\ob.dict=none)/\(a==sysModules)=false:=by
 rcases d with⟨kvs,e⟩ | ⟨kvs,e⟩
 ·obtain⟨_,hd,vs,_,dd⟩:=Q3u I.hok e
  refine⟨dd.typeIs,fun b q=>?_,hd⟩
  cases q
  obtain⟨ob,_,_,h1,h2,_⟩:=dd
  exact⟨ob,h1,h2.2.1⟩
 ·obtain⟨_,hd,xs,_,dd⟩:=Q3v I.hok e
  refine⟨dd.typeIs,fun b q=>?_,hd⟩
  cases q
  obtain⟨ob,_,_,h1,h2,_⟩:=dd
  exact⟨ob,h1,h2.2.1⟩
section
variable {X:Cx}{ae:Pn9} {σ:St}{H:Hp}{s:Shared}{a:Addr}{y d:V}{u r:Value}{o:Option V}{A:Around}{E:VS9}
theorem Y7h {Q:VS9} (hu:A.units+1<cLine) (I:A1 X ae σ H s) (g:V3 H a y o) (ry:B7 y u) (h:∀w' s',A1 X ae σ H s'->B7 (o.getD .non) w'->Q w' s') :
  wpAny (model X.prog X.w) A (call (.builtin "dict.get") [.ref a,u]) Q E s:=by
 rcases g with⟨kvs,k,e,ey,l⟩ | ⟨kvs,k,b,e,ey,eb,l⟩
 ·subst ey
  obtain⟨z,hd,vs,rel,dd⟩:=Q3u I.hok e
  refine call_meetsIn PySem.F.slot_dict_get dd.typeIs PySem.F.entry_dict_get (PySem.F.args_dict_get_2 _ _) (meets_dict_get (K4 X.prog X.w) a (Q2d ry) hd) ⟨_,dd.mapOf,h _ _ (I.tok _) ?_⟩
  rw [l]
  exact(rel.val k).getD rfl
 ·subst ey
  cases (show u=Value.ref b from ry)
  obtain⟨z,hd,xs,rel,dd⟩:=Q3v I.hok e
  refine call_meetsIn PySem.F.slot_dict_get dd.typeIs PySem.F.entry_dict_get (PySem.F.args_dict_get_2 _ _) (meetsH_dict_get (tupleKind (K4 X.prog X.w)) a b hd) ⟨tupleKind_room_in1 hu,k,xs,Q4b I.hok eb,dd,h _ _ (I.tok _) ?_⟩
  rw [l]
  exact(rel.val k).getD rfl
end
def W6v (td ty:TE):TE:=fun σ H Q=>td σ H fun x H1=>∃a,x=.ref a/\IsD H1 a/\ty σ H1 fun y H2=>∃o,V3 H2 a y o/\Q (o.getD .non) H2
section
variable {X:Cx}{o e f:Expr}{apos bc:Pos}{td ty tx:TE}
theorem W2g (hu:X.A.units+1<cLine) (ho:PE X o td) (he:PE X e ty) (m:M1 X o "get" apos e bc):PE X (.Call (.Attribute o "get" apos) [e] [] bc) (W6v td ty):=by
 intro ae s σ H Q I h
 refine wpAny_Call_method m.base m.few m.line PySem.F.plainAttrs_dict PySem.F.slot_dict_get PySem.F.type_dict_get (B2 (ho ae s σ H _ I h) fun u s1 bp=>?_)
 obtain⟨x,H1,I1,rx,a,ex,d,q1⟩:=bp
 subst ex
 obtain rfl:u=Value.ref a:=rx
 obtain⟨t1,t2,_⟩:=Z9l I1 d
 refine⟨t1,t2,?_⟩
 rw [m.trees]
 refine dW rfl (cP (bY (B2 (he ae s1 σ H1 _ I1 q1) fun iv s2 ⟨y,H2,I2,ry,ov,g,q2⟩=>dU ?_)))
 exact Y7h hu I2 g ry fun w' s3 I3 fj=>⟨_,H2,I3,fj,q2⟩
end
section
variable {X:Cx}{ae:Pn9} {σ:St}{H:Hp}{s:Shared}{a:Addr}{kvs:List (B0×V)}{A:Around}{E:VS9}
end
section
variable {X:Cx}{ae:Pn9} {σ:St}{H:Hp}{s:Shared}{a:Addr}{y:V}{u:Value}{A:Around}{E:VS9}
end
end L2
namespace Att
open PySem PySem.W PySem.Calls PyProof.Rows
theorem Y8k {P:Params}{h:Heap}:∀(ns:List Int) (vs:List Value),WellAll P h vs (ns.map WData.int)->IntsAre vs ns:=by
 intro ns
 induction ns with
 | nil =>
  intro vs w
  rw [cc]at w
  cases w
  exact .nil
 | cons n ns ih =>
  intro vs w
  rw [ar]at w
  cases w with
  | cons a b =>
   cases a
   exact .cons _ _ (ih _ b)
theorem W6f {l:OpenLaw}{n:Nat} (hn:l.most=some n) {P:Params}{h:Heap}{args:List WData}{ff:List Value}
  (gL:l.row.toRowW.claim.pre args=true) (ln:WellAll P h ff args) :
  ∃a vs ns,ff=[Value.ref a]/\args=[WData.list (ns.map WData.int)]/\h.get? a=some { cls:=.type "list",data:=.seq vs.toArray }/\IntsAre vs ns/\ns.length<=n:=by
 have pU:WShape.hasAll [] args [.list .int]=true:=(pre_splitW gL).1
 have hc:l.pre.holds [] { args:=args }=true:=(pre_splitW gL).2
 obtain⟨d,r,rfl,h1,h2⟩:=hasAllW_cons pU
 obtain rfl:=hasAllW_nil h2
 obtain⟨xs,rfl,h3⟩:=hasW_list h1
 obtain⟨ns,rfl⟩:=items_int h3
 have bI:ns.length<=n:=by
  unfold OpenLaw.pre at hc
  have h4:(WTm.not (.lt (.lit (.int (n:Int))) (.len (.arg 0)))).holds [] { args:=[.list (ns.map .int)] }=true:=by
   have h4:=(holds_andW hc).1
   rw [hn]at h4
   exact h4
  have h5:=condW_of h4 (w_not (w_lt w_lit (w_len_list (w_arg rfl))))
  rw [ag]at h5
  refine Nat.le_of_not_lt fun q=>?_
  have q':(n:Int)<((ns.length:Nat):Int):=by omega
  first
   | (rw [dP q']at h5;exact absurd h5 (by decide))
   | (simp at h5;omega)
 cases ln with
 | cons w1 w2 =>
  cases w2
  cases w1 with
  | list ho j3=>exact⟨_,_,ns,rfl,rfl,ho,Y8k ns _ j3,bI⟩
theorem W3a (l:OpenLaw) (args:List WData):l.row.toRowW.claim.post args (.bool true) args=true :=
 postW_of (r:=l.row.toRowW) (X:=(true==true))
  (show WShape.has [] (.bool true) .bool=true by first | rfl | decide | simp [WShape.has,WShape.arms,WShape.armsAll])
  (show(WTm.eq .res (.lit (.bool true))).value [] { args:=args,res:=some (.bool true),after:=args }=some (.bool (true==true))from w_eq_bool (w_res rfl) w_lit) rfl
theorem attach_call {l:OpenLaw}{n:Nat}{q:Program}{dG:List Str}{XP:(Str->Option Value)->Heap->Prop}{YP:World->Heap->Prop}{d:DefRec}
  (hn:l.most=some n) (gR:d.params.defaults=[])
  (call:∀(w:World) (s₀ s₁:Shared) (mg mb:Str->Option Value) (fa:Addr) (o:Obj) (pm cd cG:Value) (a:Addr) (vs:List Value) (ns:List Int),
   Ground q dG [] XP w s₀ mg mb s₁.heap->YP w s₁.heap ->
   s₁.heap.get? fa=some o->o.data=.func (docDef d.name d.params d.body d.scope pm cd cG)->s₁.heap.CodeRec cd d.name->mg d.name=some (.ref fa) ->
   s₁.heap.get? a=some { cls:=.type "list",data:=.seq vs.toArray }->IntsAre vs ns->ns.length<=n->s₁.gens=#[] ->
   codeAny (model l.prog w) callerA (.call (.ref fa) ⟨[.ref a],[]⟩) (fun r s'=>r=.ok (.ret (.bool true))/\OldK s₁.heap s'.heap/\s'.os=s₁.os/\AllBare s'.gens) s₁) :
  WalkO q dG XP YP l.row.toRowW d [] (fun f vs=>PySem.call f vs):=by
 intro w s₀ s₁ mg mb G Y fa o pm cd cG dV kV ho hd dD hD jB hg args ff as gL qg rR ln rU
 obtain rfl:dV=.none:=Dflts.none hD gR
 obtain rfl:kV=.none:=Dflts.noKw hD
 obtain⟨a,vs,ns,rfl,rfl,iT,fX,bI⟩:=W6f hn gL ln
 refine enter_call (codeAny_mono (call w s₀ s₁ mg mb fa o pm cd cG a vs ns G Y ho (fd_plain hd) dD jB iT fX bI hg) fun r s' hq=>?_)
 obtain⟨rfl,h2,h3,h4⟩:=hq
 exact⟨.inl ⟨.bool true,.bool true,[],rfl,fun _=>rfl,.bool true,W3a l _,fun _=>⟨List.Pairwise.nil,fun _ hm=>(nomatch hm)⟩⟩,h2,h3,h4⟩
section
variable {prog:Program}{w:World}{A:Around}{E:VS9}{s:Shared}{K:Frag}
end
end Att
namespace L2
open PySem PySem.Spec PyProof.Rows
theorem Y4u:∀{vs:List Value}{ns:List Int},IntsAre vs ns->B6 (ns.map V.int) vs
 | _,_,.nil=>.nil
 | _,_,.cons n t h=>.cons ⟨t,rfl⟩ (Y4u h)
end L2
namespace L2
open PySem PySem.Spec PyProof.Rows
end L2
namespace L2
open PySem PySem.Spec PyProof.Rows
noncomputable def Q0b (s:Stmt):Arguments:=match s with
 | .FunctionDef _ a _ _ _ _ _ _ _ _=>a
 | _=>{ posonlyargs:=[],args:=[],vararg:=none,kwonlyargs:=[],kw_defaults:=[],kwarg:=none,defaults:=[] }
noncomputable def R9 (s:Stmt):List Stmt:=match s with
 | .FunctionDef _ _ b _ _ _ _ _ _ _=>b
 | _=>[]
noncomputable def B8 (s:Stmt):Scope:=match s with
 | .FunctionDef _ _ _ _ _ _ sc _ _ _=>sc
 | _=>{ kind:=.function,names:=[],isGenerator:=false,isCoroutine:=false }
abbrev K8:CXT:=fun _ _ _ _ _ _=>False
abbrev E0:XK:=fun _ _ _=>False
theorem Q8p {X:Cx}:Q7b K8 X E0:=fun _ _ _ _ _ _ _ h=>h.elim
structure O8 (K:Fg9) (x qual:Str) (st:Stmt) (f:Addr) (fd:FuncData):Prop where
 ex:∃(oc:Value) (od:Option Addr) (kV cG pm:Value) (an:Option Addr) (cdv ct:Value) (dF:Array (Option Value)),
  fd=PySem.W.fnOf x qual (Q0b st) (R9 st) (B8 st) .none kV cG pm an cdv ct/\K.lookup f=some ⟨oc,od,.func fd,dF⟩/\PySem.W.codeIn K cdv qual=true
 kp:PySem.W.keepIn K (.ref f)=true
section
variable {P:Program}{w:World}{K:Fg9}{mg:Str->Option Value}{base:Heap}
theorem O8.ok {x qual:Str}{st:Stmt}{f:Addr}{fd:FuncData}{N ps:List Str}{k:Nat}{sp:Sp} (F:O8 K x qual st f fd) (S:G4 N ps (B8 st)) (len:∀vs H Q E,sp vs H Q E->vs.length=ps.length)
  (bS:∀(cdv:Value) (A:Around) (outer:List Env) (s:Shared) (H:Hp) (vs:List V) (Q:VK) (E:XK),C2 k (A.deeper (envOfC qual (B8 st) s.heap.objs.size f cdv))->sp vs H Q E ->
   ∃t,PSs (W7 K8 P w K mg base N qual (B8 st) f cdv A outer s H E).nox (R9 st) t/\t { nx:=fun _ H'=>Q .non H',rt:=Q } (start N vs) H):P8 P w K mg base K8 (k+1) f fd ps sp:=by
 obtain⟨oc,od,kV,cG,pm,an,cdv,ct,dF,rfl,lk,dD⟩:=F.ex
 refine Z8v lk dD S len fun A outer s H vs Q E hr fA=>?_
 obtain⟨t,h,q⟩:=bS cdv A outer s H vs Q E hr fA
 exact⟨t,h.nox,q⟩
theorem O8.binds {x qual:Str}{st:Stmt}{f:Addr}{fd:FuncData}{ps:List Str} (F:O8 K x qual st f fd)
  (h:∀(kV cG pm:Value) (an:Option Addr) (cdv ct:Value) (us:List Value),us.length=ps.length->bindArgs (PySem.W.fnOf x qual (Q0b st) (R9 st) (B8 st) .none kV cG pm an cdv ct) ⟨us,[]⟩=pure (ps.zip us)):V2 K fd ps []:=by
 obtain⟨oc,od,kV,cG,pm,an,cdv,ct,dF,rfl,lk,dD⟩:=F.ex
 exact .all (h kV cG pm an cdv ct)
theorem Y7z {x qual:Str}{st:Stmt}{f:Addr}{oc:Value}{od an:Option Addr}{dF:Array (Option Value)}{kV cG pm cdv ct:Value} (l:K.lookup f=some ⟨oc,od,.func (PySem.W.fnOf x qual (Q0b st) (R9 st) (B8 st) .none kV cG pm an cdv ct),dF⟩)
  (c:PySem.W.codeIn K cdv qual=true) (k:PySem.W.keepIn K (.ref f)=true):O8 K x qual st f (PySem.W.fnOf x qual (Q0b st) (R9 st) (B8 st) .none kV cG pm an cdv ct):=⟨⟨oc,od,kV,cG,pm,an,cdv,ct,dF,rfl,l,c⟩,k⟩
end
section
variable {X:Cx}
theorem pv (i:Nat) {x:Str}{pos:Pos} (hN:X.N[i]?=some x:=by rfl) (hv:Vis X.env.scope x:=by first | exact Or.inl rfl | exact Or.inr (Or.inl rfl) | exact Or.inr (Or.inr rfl)) (hd:(x==("__debug__":Str))=false:=by decide)
  (dD:(x==("__classdict__":Str))=false:=by decide):PE X (.Name x pos) (M0 i):=W2w hN hv hd dD
end
def A5 (H H':Hp):Prop:=∀b o,H b=some o->H' b=some o
theorem A5.refl (H:Hp):A5 H H:=fun _ _ h=>h
theorem A5.trans {H H1 H2:Hp} (a:A5 H H1) (b:A5 H1 H2):A5 H H2:=fun c o h=>b c o (a c o h)
theorem A5.free {H H':Hp} (e:A5 H H') {l:Addr} (h:H' l=Option.none):H l=Option.none:=by
 cases q:H l with
 | none=>rfl
 | some o =>
  rw [e l o q]at h
  cases h
theorem A5.seq {K:Fg9}{H H':Hp}{a:Addr}{xs:List V} (e:A5 H H') (h:E3 K H a xs):E3 K H' a xs:=by
 rcases h with(h | ⟨o,h⟩) | h
 ·exact .inl (.inl (e _ _ h))
 ·exact .inl (.inr ⟨o,e _ _ h⟩)
 ·exact .inr h
section
variable {κ:Type} [DecidableEq κ]
end
end L2
end
section
namespace TK
open PySem PySem.Spec PyProof.Rows L2
noncomputable abbrev St:=L2.St
inductive D where
 | non | bl (b:Bool) | int (i:Int) | str (x:Str) | tup (xs:List D) | lst (xs:List D)
def FzL (K:Fg9) (H:Hp) (a:Addr) (xs:List V):Prop :=
 (∃o,H a=some (.frz o (.lst xs))) \/
  ∃(o:Obj) (aV:Array Value) (n:Nat),K.lookup a=some o/\o.cls=.type "list"/\o.dict=none/\o.data=.seq aV n/\aV.size<=sizeLine/\B6 xs aV.toList
theorem FzL.sq {K:Fg9}{H:Hp}{a:Addr}{xs:List V} (h:FzL K H a xs):E3 K H a xs:=by
 rcases h with⟨o,h⟩ | h
 ·exact .inl (.inr ⟨o,h⟩)
 ·exact .inr h
structure Kp (H H':Hp):Prop where
 tup:∀a xs,H a=some (.tup xs)->H' a=some (.tup xs)
 frz:∀a o u,H a=some (.frz o u)->H' a=some (.frz o u)
theorem Kp.refl (H:Hp):Kp H H:=⟨fun _ _ h=>h,fun _ _ _ h=>h⟩
theorem Kp.trans {H H1 H2:Hp} (a:Kp H H1) (b:Kp H1 H2):Kp H H2:=⟨fun c xs h=>b.tup c xs (a.tup c xs h),fun c o u h=>b.frz c o u (a.frz c o u h)⟩
theorem Kp.of {H H':Hp} (s:A5 H H'):Kp H H':=⟨fun a xs h=>s a _ h,fun a o u h=>s a _ h⟩
theorem Kp.upd {H:Hp}{a:Addr}{xs:List V} (h:H a=some (.lst xs)) (o:HO):Kp H (upd H a o) :=
 ⟨fun c ys q=>by rw [A6 (Y0 q h (by intro z;cases z))];exact q,fun c ob u q=>by rw [A6 (Y0 q h (by intro z;cases z))];exact q⟩
theorem Kp.sqT {K:Fg9}{H H':Hp} (k:Kp H H') {a:Addr}{xs:List V} (h:C6 K H a xs):C6 K H' a xs:=by
 rcases h with(h | ⟨o,h⟩) | h
 ·exact .inl (.inl (k.tup _ _ h))
 ·exact .inl (.inr ⟨o,k.frz _ _ _ h⟩)
 ·exact .inr h
theorem Kp.fzL {K:Fg9}{H H':Hp} (k:Kp H H') {a:Addr}{xs:List V} (h:FzL K H a xs):FzL K H' a xs:=by
 rcases h with⟨o,h⟩ | h
 ·exact .inl ⟨o,k.frz _ _ _ h⟩
 ·exact .inr h
theorem G0 {H:Hp}{p:Addr} (h:H p=none) (o:HO):A5 H (upd H p o):=fun b u q=>by rw [A6 (V9 q h)];exact q
mutual
noncomputable def A3 (K:Fg9) (H:Hp):D->V->Prop
 | .non,v=>v=.non
 | .bl b,v=>v=.bl b
 | .int i,v=>v=.int i
 | .str x,v=>v=.str x
 | .tup ds,v=>∃a xs,v=.ref a/\H a=some (.tup xs)/\AllS K H ds xs
 | .lst ds,v=>∃a xs,v=.ref a/\FzL K H a xs/\AllS K H ds xs
noncomputable def AllS (K:Fg9) (H:Hp):List D->List V->Prop
 | [],vs=>vs=[]
 | d::ds,vs=>∃v r,vs=v::r/\A3 K H d v/\AllS K H ds r
end
section
variable {K:Fg9}{H H' H0:Hp}
mutual
theorem A3.mono (k:Kp H H'):∀(d:D) (v:V),A3 K H d v->A3 K H' d v
 | .non,v,h=>h
 | .bl _,v,h=>h
 | .int _,v,h=>h
 | .str _,v,h=>h
 | .tup ds,v,h=>by
  unfold A3 at h ⊢
  obtain⟨a,xs,e,q,r⟩:=h
  exact⟨a,xs,e,k.tup _ _ q,AllS.mono k ds xs r⟩
 | .lst ds,v,h=>by
  unfold A3 at h ⊢
  obtain⟨a,xs,e,q,r⟩:=h
  exact⟨a,xs,e,k.fzL q,AllS.mono k ds xs r⟩
theorem AllS.mono (k:Kp H H'):∀(ds:List D) (vs:List V),AllS K H ds vs->AllS K H' ds vs
 | [],vs,h=>h
 | d::ds,vs,h=>by
  unfold AllS at h ⊢
  obtain⟨v,r,e,q,t⟩:=h
  exact⟨v,r,e,A3.mono k d v q,AllS.mono k ds r t⟩
end
theorem AllS.length:∀{ds:List D}{vs:List V},AllS K H ds vs->ds.length=vs.length
 | [],vs,h=>by unfold AllS at h;subst h;rfl
 | d::ds,vs,h=>by
  unfold AllS at h
  obtain⟨v,r,e,q,t⟩:=h
  subst e
  rw [aK,aK,AllS.length t]
theorem AllS.nil:AllS K H [] []:=by unfold AllS;rfl
theorem AllS.cons {d:D}{ds:List D}{v:V}{vs:List V} (h:A3 K H d v) (t:AllS K H ds vs):AllS K H (d::ds) (v::vs):=by
 unfold AllS;exact⟨v,vs,rfl,h,t⟩
theorem AllS.get:∀{ds:List D}{vs:List V}{i:Nat}{d:D},AllS K H ds vs->ds[i]?=some d->∃v,vs[i]?=some v/\A3 K H d v
 | [],_,_,_,_,e=>by simp at e
 | d::ds,vs,0,x,h,e=>by
  unfold AllS at h
  obtain⟨v,r,rfl,q,t⟩:=h
  simp at e;subst e
  exact⟨v,rfl,q⟩
 | d::ds,vs,i+1,x,h,e=>by
  unfold AllS at h
  obtain⟨v,r,rfl,q,t⟩:=h
  obtain⟨u,h1,h2⟩:=AllS.get (i:=i) t (by simpa using e)
  exact⟨u,by simpa using h1,h2⟩
theorem AllS.append:∀{ds es:List D}{vs us:List V},AllS K H ds vs->AllS K H es us->AllS K H (ds++es) (vs++us)
 | [],_,vs,_,h,t=>by unfold AllS at h;subst h;exact t
 | d::ds,es,vs,us,h,t=>by
  unfold AllS at h
  obtain⟨v,r,rfl,q,s⟩:=h
  exact AllS.cons q (AllS.append s t)
theorem AllS.set {ds:List D}{vs:List V}{d:D}{v:V} (q:A3 K H d v):∀(i:Nat),AllS K H ds vs->AllS K H (ds.set i d) (vs.set i v):=by
 intro i h
 induction ds generalizing vs i with
 | nil=>unfold AllS at h;subst h;exact AllS.nil
 | cons d ds ih =>
  unfold AllS at h
  obtain⟨v,r,rfl,q',s⟩:=h
  cases i with
  | zero=>exact AllS.cons q s
  | succ i=>exact AllS.cons q' (ih i s)
theorem AllS.ints {ns:List Int}:AllS K H (ns.map D.int) (ns.map V.int):=by
 induction ns with
 | nil=>exact AllS.nil
 | cons n r ih=>exact AllS.cons (by unfold A3;rfl) ih
theorem A3.s_int {i:Int}:A3 K H (.int i) (.int i):=by unfold A3;rfl
theorem A3.s_bl {i:Bool}:A3 K H (.bl i) (.bl i):=by unfold A3;rfl
theorem A3.s_str {i:Str}:A3 K H (.str i) (.str i):=by unfold A3;rfl
theorem A3.s_non:A3 K H .non .non:=by unfold A3;rfl
theorem A3.s_tup {ds:List D}{a:Addr}{xs:List V} (q:H a=some (.tup xs)) (r:AllS K H ds xs):A3 K H (.tup ds) (.ref a):=by unfold A3;exact⟨a,xs,rfl,q,r⟩
theorem A3.s_lst {ds:List D}{a:Addr}{xs:List V} (q:FzL K H a xs) (r:AllS K H ds xs):A3 K H (.lst ds) (.ref a):=by unfold A3;exact⟨a,xs,rfl,q,r⟩
end
def Q3p (Φ:Hp->Prop):Prop:=∀H H':Hp,Kp H H'->Φ H->Φ H'
inductive R where
 | st (d:D) | nw (ds:List D) | bw (ds:List D) | dk (kvs:List (B0×D)) | dt (kvs:List (List B0×D)) | ob (a:Addr) | cl (a:Addr) (Φ:Hp->Prop) | ms (a C:Addr) (d:D) (fs:List (Str×D))
noncomputable def B5 {κ:Type} (K:Fg9) (H:Hp):List (κ×D)->List (κ×V)->Prop
 | [],vs=>vs=[]
 | p::ps,vs=>∃v r,vs=(p.1,v)::r/\A3 K H p.2 v/\B5 K H ps r
theorem B5.mono {κ:Type}{K:Fg9}{H H':Hp} (k:Kp H H'):∀(ps:List (κ×D)) (vs:List (κ×V)),B5 K H ps vs->B5 K H' ps vs
 | [],_,h=>h
 | p::ps,vs,h=>by
  obtain⟨v,r,e,q,t⟩:=h
  exact⟨v,r,e,q.mono k _ _,B5.mono k ps r t⟩
noncomputable def E4 (K:Fg9) (H0 H:Hp):R->V->Prop
 | .st d,v=>A3 K H d v
 | .nw ds,v=>∃a xs,v=.ref a/\H0 a=none/\H a=some (.lst xs)/\AllS K H ds xs
 | .bw ds,v=>∃a xs,v=.ref a/\H a=some (.lst xs)/\AllS K H ds xs
 | .dk kvs,v=>∃a ps,v=.ref a/\H a=some (.dK ps)/\B5 K H kvs ps
 | .dt kvs,v=>∃a ps,v=.ref a/\H a=some (.dT ps)/\B5 K H kvs ps
 | .ob a,v=>v=.ref a
 | .cl a Φ,v=>v=.ref a/\Φ H/\Q3p Φ
 | .ms a C d fs,v=>A3 K H d v/\∃dx vs,H a=some (.ins C dx vs)/\B5 K H fs vs
theorem E4.mono {K:Fg9}{H0 H H':Hp} (s:A5 H H'):∀{r:R}{v:V},E4 K H0 H r v->E4 K H0 H' r v
 | .st d,v,h=>A3.mono (Kp.of s) d v h
 | .nw ds,v,h=>by obtain⟨a,xs,e,n,q,t⟩:=h;exact⟨a,xs,e,n,s _ _ q,t.mono (Kp.of s) _ _⟩
 | .bw ds,v,h=>by obtain⟨a,xs,e,q,t⟩:=h;exact⟨a,xs,e,s _ _ q,t.mono (Kp.of s) _ _⟩
 | .dk ds,v,h=>by obtain⟨a,xs,e,q,t⟩:=h;exact⟨a,xs,e,s _ _ q,t.mono (Kp.of s) _ _⟩
 | .dt ds,v,h=>by obtain⟨a,xs,e,q,t⟩:=h;exact⟨a,xs,e,s _ _ q,t.mono (Kp.of s) _ _⟩
 | .ob a,v,h=>h
 | .cl a Φ,v,h=>⟨h.1,h.2.2 _ _ (Kp.of s) h.2.1,h.2.2⟩
 | .ms a C d fs,v,h=>by obtain⟨h1,dx,vs,q,t⟩:=h;exact⟨h1.mono (Kp.of s) _ _,dx,vs,s _ _ q,t.mono (Kp.of s) _ _⟩
theorem E4.older {K:Fg9}{H0 H1 H:Hp} (s:A5 H0 H1):∀{r:R}{v:V},E4 K H1 H r v->E4 K H0 H r v
 | .st d,v,h=>h
 | .nw ds,v,h=>by obtain⟨a,xs,e,n,q,t⟩:=h;exact⟨a,xs,e,s.free n,q,t⟩
 | .bw ds,v,h=>h
 | .dk ds,v,h=>h
 | .dt ds,v,h=>h
 | .ob a,v,h=>h
 | .cl _ _,v,h=>h
 | .ms _ _ _ _,v,h=>h
noncomputable def LO (b:Addr) (xs:List V):Heap->Prop:=fun h=>xs.length<=sizeLine/\∃(aV:List Value) (n:Nat),B6 xs aV/\h.get? b=some { cls:=.type "list",data:=.seq aV.toArray n }
noncomputable def G6 (K:Fg9) (H:Hp):List Addr->List (List D)->Prop
 | [],dss=>dss=[]
 | b::bs,dss=>∃ds r,dss=ds::r/\(∃xs,H b=some (.ext (LO b xs))/\AllS K H ds xs)/\G6 K H bs r
def Q3n (K:Fg9) (H0 H:Hp) (a:Addr) (dss:List (List D)):Prop:=∃bs,(H a=some (.ext (LO a (bs.map V.ref)))/\H0 a=none/\a∉bs)/\bs.Nodup/\(∀b∈bs,H0 b=none)/\G6 K H bs dss
theorem G6.keep {K:Fg9}{H H':Hp} (k:Kp H H') (x:∀b φ,H b=some (.ext φ)->H' b=some (.ext φ)):∀{bs:List Addr}{dss:List (List D)},G6 K H bs dss->G6 K H' bs dss
 | [],_,h=>h
 | b::bs,_,h=>by obtain⟨ds,r,e,⟨xs,q,al⟩,t⟩:=h;exact⟨ds,r,e,⟨xs,x _ _ q,al.mono k _ _⟩,G6.keep k x t⟩
theorem Q3n.keep {K:Fg9}{H0 H H':Hp}{a:Addr}{dss:List (List D)} (h:Q3n K H0 H a dss) (k:Kp H H') (x:∀b φ,H b=some (.ext φ)->H' b=some (.ext φ)):Q3n K H0 H' a dss:=by
 obtain⟨bs,⟨q,q2⟩,n,f,t⟩:=h
 exact⟨bs,⟨x _ _ q,q2⟩,n,f,t.keep k x⟩
inductive Sl where
 | dat (d:D) | own (ds:List D) | bor (ds:List D) | dk (kvs:List (B0×D)) | dt (kvs:List (List B0×D)) | bd (kvs:List (List B0×D)) | ob (a:Addr) | cl (a:Addr) (Φ:Hp->Prop) | ll (a:Addr) (dss:List (List D)) | ins (a C:Addr) (fs:List (Str×D))
noncomputable abbrev A8:=List (Option Sl)
noncomputable def Sl.mut:Sl->Bool
 | .own _=>true
 | .dk _=>true
 | .dt _=>true
 | .ins _ _ _=>true
 | _=>false
noncomputable def SlR (K:Fg9) (H0 H:Hp):Sl->V->Prop
 | .dat d,v=>A3 K H d v
 | .own ds,v=>∃a xs,v=.ref a/\H0 a=none/\H a=some (.lst xs)/\AllS K H ds xs
 | .bor ds,v=>∃a xs,v=.ref a/\H0 a=some (.lst xs)/\AllS K H ds xs
 | .dk kvs,v=>∃a ps,v=.ref a/\H0 a=none/\H a=some (.dK ps)/\B5 K H kvs ps
 | .dt kvs,v=>∃a ps,v=.ref a/\H0 a=none/\H a=some (.dT ps)/\B5 K H kvs ps
 | .bd kvs,v=>∃a ps,v=.ref a/\H0 a=some (.dT ps)/\B5 K H kvs ps
 | .ob a,v=>v=.ref a
 | .cl a Φ,v=>v=.ref a/\Φ H/\Q3p Φ
 | .ll a dss,v=>v=.ref a/\Q3n K H0 H a dss
 | .ins a C fs,v=>v=.ref a/\H0 a=none/\∃dx vs,H a=some (.ins C dx vs)/\B5 K H fs vs
theorem SlR.mono {K:Fg9}{H0 H H':Hp} (s:A5 H H'):∀{r:Sl}{v:V},SlR K H0 H r v->SlR K H0 H' r v
 | .dat d,v,h=>A3.mono (Kp.of s) d v h
 | .own ds,v,h=>by obtain⟨a,xs,e,n,q,t⟩:=h;exact⟨a,xs,e,n,s _ _ q,t.mono (Kp.of s) _ _⟩
 | .bor ds,v,h=>by obtain⟨a,xs,e,q,t⟩:=h;exact⟨a,xs,e,q,t.mono (Kp.of s) _ _⟩
 | .bd ds,v,h=>by obtain⟨a,xs,e,q,t⟩:=h;exact⟨a,xs,e,q,t.mono (Kp.of s) _ _⟩
 | .dk ds,v,h=>by obtain⟨a,xs,e,n,q,t⟩:=h;exact⟨a,xs,e,n,s _ _ q,t.mono (Kp.of s) _ _⟩
 | .dt ds,v,h=>by obtain⟨a,xs,e,n,q,t⟩:=h;exact⟨a,xs,e,n,s _ _ q,t.mono (Kp.of s) _ _⟩
 | .ob a,v,h=>h
 | .cl a Φ,v,h=>⟨h.1,h.2.2 _ _ (Kp.of s) h.2.1,h.2.2⟩
 | .ll a dss,v,h=>⟨h.1,h.2.keep (Kp.of s) fun b φ q=>s _ _ q⟩
 | .ins a C fs,v,h=>by obtain⟨e,n,dx,vs,q,t⟩:=h;exact⟨e,n,dx,vs,s _ _ q,t.mono (Kp.of s) _ _⟩
structure B4 (K:Fg9) (H0:Hp) (τ:A8) (σ:St) (H:Hp):Prop where
 len:τ.length=σ.length
 same:A5 H0 H
 here:∀(i:Nat) (s:Sl),τ[i]?=some (some s)->∃v,σ[i]?=some (some v)/\SlR K H0 H s v
 apart:∀(i j:Nat) (s t:Sl) (v:V),i≠j->τ[i]?=some (some s)->τ[j]?=some (some t)->s.mut=true->t.mut=true->σ[i]?=some (some v)->σ[j]?=some (some v)->False
theorem B4.mono {K:Fg9}{H0 H H':Hp} {τ:A8} {σ:St} (h:B4 K H0 τ σ H) (s:A5 H H'):B4 K H0 τ σ H' :=
 ⟨h.len,h.same.trans s,fun i sl e=>let ⟨v,q,r⟩:=h.here i sl e;⟨v,q,r.mono s⟩,h.apart⟩
noncomputable abbrev WE:=A8->(R->Prop)->Prop
def Z2g (K:Fg9) (H0:Hp) (w:WE):TE:=fun σ H Q=>∃ τ,B4 K H0 τ σ H/\w τ fun r=>∀v H',A5 H H'->E4 K H H' r v->Q v H'
structure DE (X:Cx) (H0:Hp) (e:Expr) (w:WE):Prop where
 mono:∀(τ:A8) (P Q:R->Prop),(∀r,P r->Q r)->w τ P->w τ Q
 pe:PE X e (Z2g X.K H0 w)
noncomputable abbrev WT:=A8->(Bool->Prop)->Prop
def Z2h (K:Fg9) (H0:Hp) (w:WT):TT:=fun σ H Q=>∃ τ,B4 K H0 τ σ H/\w τ fun b=>∀H',A5 H H'->Q b H'
structure DT (X:Cx) (H0:Hp) (e:Expr) (w:WT):Prop where
 mono:∀(τ:A8) (P Q:Bool->Prop),(∀r,P r->Q r)->w τ P->w τ Q
 pt:PT X e (Z2h X.K H0 w)
structure DW (X:Cx) (H0:Hp) (e:Expr) (w:WT):Prop where
 mono:∀(τ:A8) (P Q:Bool->Prop),(∀r,P r->Q r)->w τ P->w τ Q
 pw:PW X e (Z2h X.K H0 w)
noncomputable abbrev WA:=A8->(List R->Prop)->Prop
noncomputable def N1 (K:Fg9) (H0 H:Hp):List R->List V->Prop
 | [],vs=>vs=[]
 | r::rs,vs=>∃v t,vs=v::t/\E4 K H0 H r v/\N1 K H0 H rs t
def Y9p (K:Fg9) (H0:Hp) (w:WA):TA:=fun σ H Q=>∃ τ,B4 K H0 τ σ H/\w τ fun rs=>∀vs H',A5 H H'->N1 K H H' rs vs->Q vs H'
structure DA (X:Cx) (H0:Hp) (es:List Expr) (w:WA):Prop where
 len:∀(τ:A8) (Q:List R->Prop),w τ Q->w τ fun rs=>rs.length=es.length/\Q rs
 mono:∀(τ:A8) (P Q:List R->Prop),(∀r,P r->Q r)->w τ P->w τ Q
 pa:PA X es (Y9p X.K H0 w)
structure G8 where
 nx:A8->Prop
 rt:R->Prop
 bk:A8->Prop
 ct:A8->Prop
noncomputable abbrev WS:=G8->A8->Prop
structure G8.Le (E F:G8):Prop where
 nx:∀ τ,E.nx τ->F.nx τ
 rt:∀r,E.rt r->F.rt r
 bk:∀ τ,E.bk τ->F.bk τ
 ct:∀ τ,E.ct τ->F.ct τ
noncomputable def M6 (K:Fg9) (H0 Hs:Hp) (D:L5):G8 where
 nx:=fun τ=>∀ σ H,Kp Hs H->B4 K H0 τ σ H->D.nx σ H
 rt:=fun r=>∀v H,A5 H0 H->E4 K H0 H r v->D.rt v H
 bk:=fun τ=>∀ σ H,Kp Hs H->B4 K H0 τ σ H->D.bk σ H
 ct:=fun τ=>∀ σ H,Kp Hs H->B4 K H0 τ σ H->D.ct σ H
theorem Z2f {K:Fg9}{H0 H H1:Hp}{D:L5} (k:Kp H H1):(M6 K H0 H D).Le (M6 K H0 H1 D) :=
 ⟨fun τ h σ H2 k2 hR=>h σ H2 (k.trans k2) hR,fun _ h=>h,fun τ h σ H2 k2 hR=>h σ H2 (k.trans k2) hR,fun τ h σ H2 k2 hR=>h σ H2 (k.trans k2) hR⟩
def Z9w (K:Fg9) (H0:Hp) (w:WS):TS:=fun D σ H=>∃ τ,B4 K H0 τ σ H/\w (M6 K H0 H D) τ
structure DS (X:Cx) (H0:Hp) (st:Stmt) (w:WS):Prop where
 mono:∀(τ:A8) (E F:G8),E.Le F->w E τ->w F τ
 ps:PS X st (Z9w X.K H0 w)
structure A4 (X:Cx) (H0:Hp) (j7:List Stmt) (w:WS):Prop where
 mono:∀(τ:A8) (E F:G8),E.Le F->w E τ->w F τ
 ps:PSs X j7 (Z9w X.K H0 w)
theorem O1 {X:Cx}{e:Expr}{t t':TE} (h:PE X e t) (f:∀ σ H Q,t' σ H Q->t σ H Q):PE X e t':=fun ae s σ H Q I q=>h ae s σ H Q I (f σ H Q q)
theorem ptW {X:Cx}{e:Expr}{t t':TT} (h:PT X e t) (f:∀ σ H Q,t' σ H Q->t σ H Q):PT X e t':=fun ae s σ H Q I q=>h ae s σ H Q I (f σ H Q q)
theorem pwW {X:Cx}{e:Expr}{t t':TT} (h:PW X e t) (f:∀ σ H Q,t' σ H Q->t σ H Q):PW X e t':=fun whole ae s σ H Q I q=>h whole ae s σ H Q I (f σ H Q q)
theorem paW {X:Cx}{e:List Expr}{t t':TA} (h:PA X e t) (f:∀ σ H Q,t' σ H Q->t σ H Q):PA X e t':=fun pos ae s σ H Q I q=>h pos ae s σ H Q I (f σ H Q q)
theorem O2 {X:Cx}{e:Stmt}{t t':TS} (h:PS X e t) (f:∀D σ H,t' D σ H->t D σ H):PS X e t':=fun ae s σ H D I q=>h ae s σ H D I (f D σ H q)
theorem Q8r {X:Cx}{e:List Stmt}{t t':TS} (h:PSs X e t) (f:∀D σ H,t' D σ H->t D σ H):PSs X e t':=fun ae s σ H D I q=>h ae s σ H D I (f D σ H q)
noncomputable abbrev IsV (K:Fg9) (H:Hp):R->V->Prop:=E4 K (fun _=>none) H
theorem E4.v {K:Fg9}{H0 H:Hp}:∀{r:R}{v:V},E4 K H0 H r v->IsV K H r v
 | .st d,v,h=>h
 | .nw ds,v,h=>by obtain⟨a,xs,e,n,q,t⟩:=h;exact⟨a,xs,e,rfl,q,t⟩
 | .bw ds,v,h=>h
 | .dk ds,v,h=>h
 | .dt ds,v,h=>h
 | .ob a,v,h=>h
 | .cl _ _,v,h=>h
 | .ms _ _ _ _,v,h=>h
theorem Q7u {K:Fg9}{H0 H:Hp}{k:Bool}:E4 K H0 H (.st (.bl k)) (.bl k):=A3.s_bl (K:=K) (H:=H)
theorem X8 {K:Fg9}{H0 H:Hp}{k:Int}:E4 K H0 H (.st (.int k)) (.int k):=A3.s_int (K:=K) (H:=H)
theorem Z9o {K:Fg9}{H0 H:Hp}{k:Str}:E4 K H0 H (.st (.str k)) (.str k):=A3.s_str (K:=K) (H:=H)
section
variable {X:Cx}{H0:Hp}{a b c e:Expr}{pos:Pos}{wa wb wc we:WE}
noncomputable def rdS:Sl->R
 | .dat d=>.st d
 | .own ds=>.bw ds
 | .bor ds=>.bw ds
 | .dk k=>.dk k
 | .dt k=>.dt k
 | .bd k=>.dt k
 | .ob a=>.ob a
 | .cl a Φ=>.cl a Φ
 | .ll a _=>.ob a
 | .ins a _ _=>.ob a
theorem SlR.rd {K:Fg9}{H0 H Hs:Hp} (s:A5 H0 H):∀{r:Sl}{v:V},SlR K H0 H r v->E4 K Hs H (rdS r) v
 | .dat d,v,h=>h
 | .own ds,v,h=>by obtain⟨a,xs,e,n,q,t⟩:=h;exact⟨a,xs,e,q,t⟩
 | .bor ds,v,h=>by obtain⟨a,xs,e,q,t⟩:=h;exact⟨a,xs,e,s _ _ q,t⟩
 | .bd ds,v,h=>by obtain⟨a,xs,e,q,t⟩:=h;exact⟨a,xs,e,s _ _ q,t⟩
 | .dk ds,v,h=>by obtain⟨a,xs,e,n,q,t⟩:=h;exact⟨a,xs,e,q,t⟩
 | .dt ds,v,h=>by obtain⟨a,xs,e,n,q,t⟩:=h;exact⟨a,xs,e,q,t⟩
 | .ob a,v,h=>h
 | .cl _ _,v,h=>h
 | .ll a _,v,h=>h.1
 | .ins a C fs,v,h=>h.1
def wV (i:Nat):WE:=fun τ Q=>∃s,τ[i]?=some (some s)/\Q (rdS s)
theorem DE.var {i:Nat} (h:PE X e (M0 i)):DE X H0 e (wV i) where
 mono:=fun τ P Q f ⟨s,h1,h2⟩=>⟨s,h1,f _ h2⟩
 pe:=O1 h fun σ H Q ⟨τ,hR,s,h1,h2⟩=>by
  obtain⟨v,hv,q⟩:=hR.here i s h1
  exact⟨v,hv,h2 v H (A5.refl H) (q.rd hR.same)⟩
def wC (d:D):WE:=fun _ Q=>Q (.st d)
theorem DE.con {v:V}{d:D} (h:PE X e (tC v)) (hd:∀K H,A3 K H d v):DE X H0 e (wC d) where
 mono:=fun τ P Q f h=>f _ h
 pe:=O1 h fun σ H Q ⟨τ,hR,h⟩=>h v H (A5.refl H) (hd _ _)
theorem DE.int {i:Int}{j:Nat}:DE X H0 (.Constant (.int i) j pos) (wC (.int i)):=DE.con W2m fun _ _=>A3.s_int
theorem DE.bl {i:Bool}{j:Nat}:DE X H0 (.Constant (.bool i) j pos) (wC (.bl i)):=DE.con W2b fun _ _=>A3.s_bl
theorem DE.str {i:Str}{j:Nat}:DE X H0 (.Constant (.str i) j pos) (wC (.str i)):=DE.con W2u fun _ _=>A3.s_str
theorem DE.non {j:Nat}:DE X H0 (.Constant .none j pos) (wC .non):=DE.con W2o fun _ _=>A3.s_non
noncomputable def fzR:R->(D->Prop)->Prop
 | .st d,Q=>Q d
 | .nw ds,Q=>Q (.lst ds)
 | _,_=>False
theorem A1.freeze {ae:Pn9} {σ:St}{H:Hp}{s:Shared}{x:Addr}{xs:List V} (I:A1 X ae σ H s) (h:H x=some (.lst xs)):∃o,A1 X ae σ (upd H x (.frz o (.lst xs))) s:=by
 obtain⟨z,aV,n,r,q⟩:=I.hok x _ h
 refine⟨_,I.write (t':=s.toks) (h':=s.heap) (e:=x) (o:=.frz { cls:=.type "list",data:=.seq aV.toArray n } (.lst xs)) (by rw [h];trivial) (.inl rfl) (fun b u _ k=>k) ⟨_,q⟩ ?_⟩
 exact⟨q,z,aV,n,r,q⟩
theorem DE.fz (h:DE X H0 e we):DE X H0 e (fun τ Q=>we τ fun r=>fzR r fun d=>Q (.st d)) where
 mono:=fun τ P Q f h'=>h.mono τ _ _ (fun r q=>by
  cases r <;> first | exact f _ q | exact q) h'
 pe:=by
  intro ae s σ H Q I ⟨τ,hR,hw⟩
  refine B2 (h.pe ae s σ H (fun v H'=>A5 H H'/\∃r,E4 X.K H H' r v/\fzR r fun d=>∀v H',A5 H H'->A3 X.K H' d v->Q v H') I ⟨τ,hR,h.mono τ _ _ (fun r q v H' sm ir=>⟨sm,r,ir,q⟩) hw⟩) ?_
  rintro u s1 ⟨v,H1,I1,rv,sm,r,ir,q⟩
  cases r with
  | st d=>exact⟨v,H1,I1,rv,q v H1 sm ir⟩
  | nw ds =>
   obtain⟨p,xs,rfl,hn,hp,al⟩:=ir
   obtain⟨o,I2⟩:=A1.freeze I1 hp
   refine⟨.ref p,_,I2,rv,q _ _ (fun b ob hb=>?_) (A3.s_lst (.inl ⟨o,upd_same⟩) (al.mono (Kp.upd hp _) _ _))⟩
   rw [A6 (V9 hb hn)]
   exact sm b ob hb
  | bw _=>exact q.elim
  | dk _=>exact q.elim
  | dt _=>exact q.elim
  | ob _=>exact q.elim
  | cl _ _=>exact q.elim
  | ms _ _ _ _=>exact q.elim
theorem two (ha:DE X H0 a wa) (hb:DE X H0 b wb) {τ:A8} {σ:St}{H:Hp} (hR:B4 X.K H0 τ σ H) {F:R->R->Prop} (h:wa τ fun x=>wb τ fun y=>F x y) {G:V->V->Hp->Prop}
  (hG:∀x y v u H',A5 H H'->E4 X.K H H' x v->E4 X.K H H' y u->F x y->G v u H'):Z2g X.K H0 wa σ H fun v H1=>Z2g X.K H0 wb σ H1 fun u H2=>G v u H2 :=
 ⟨τ,hR,ha.mono τ _ _ (fun x hx v H1 s1 r1=>⟨τ,hR.mono s1,hb.mono τ _ _ (fun y hy u H2 s2 r2=>hG x y v u H2 (s1.trans s2) (r1.mono s2) (r2.older s1) hy) hx⟩) h⟩
def OpD (X:Cx) (f:Value->Value->Sem Value) (g:R->R->(R->Prop)->Prop):Prop :=
 N6 X f (fun x y H Q=>∃r1 r2,IsV X.K H r1 x/\IsV X.K H r2 y/\g r1 r2 fun r=>∀v H',A5 H H'->E4 X.K H H' r v->Q v H')
def Y7 {α:Type} (g:R->R->(α->Prop)->Prop):Prop:=∀x y (P Q:α->Prop),(∀r,P r->Q r)->g x y P->g x y Q
noncomputable def A7 {α:Type} (g:R->R->(α->Prop)->Prop) (wa wb:WE):A8->(α->Prop)->Prop:=fun τ Q=>wa τ fun x=>wb τ fun y=>g x y Q
theorem DE.op {op:Operator}{g:R->R->(R->Prop)->Prop} (ho:OpD X (binaryOp op) g) (mg:Y7 g) (ha:DE X H0 a wa) (hb:DE X H0 b wb):DE X H0 (.BinOp a op b pos) (A7 g wa wb) where
 mono:=fun τ P Q f h=>ha.mono τ _ _ (fun x h=>hb.mono τ _ _ (fun y h=>mg x y P Q f h) h) h
 pe:=O1 (W2r ho ha.pe hb.pe) fun σ H Q ⟨τ,hR,h⟩=>two ha hb hR h fun x y v u H' sm rx ry q =>
  ⟨x,y,rx.v,ry.v,mg x y _ _ (fun r q v cT s2 ir=>q v cT (sm.trans s2) (ir.older sm)) q⟩
def Z9 (X:Cx) (op:CmpOp) (g:R->R->(Bool->Prop)->Prop):Prop :=
 N6 X (compareOp op) (fun x y H Q=>∃r1 r2,IsV X.K H r1 x/\IsV X.K H r2 y/\g r1 r2 fun k=>Q (.bl k) H)
theorem DE.cmp {op:CmpOp}{g:R->R->(Bool->Prop)->Prop} (ho:Z9 X op g) (mg:Y7 g) (ha:DE X H0 a wa) (hb:DE X H0 b wb) (hm:behindInMarks op b=false) :
  DE X H0 (.Compare a [op] [b] pos) (fun τ Q=>A7 g wa wb τ fun k=>Q (.st (.bl k))) where
 mono:=fun τ P Q f h=>ha.mono τ _ _ (fun x h=>hb.mono τ _ _ (fun y h=>mg x y _ _ (fun k q=>f _ q) h) h) h
 pe:=O1 (W2f ho ha.pe hb.pe hm) fun σ H Q ⟨τ,hR,h⟩=>two ha hb hR h fun x y v u H' sm rx ry q =>
  ⟨x,y,rx.v,ry.v,mg x y _ _ (fun r q=>q _ _ sm Q7u) q⟩
theorem DT.cmp {op:CmpOp}{g:R->R->(Bool->Prop)->Prop} (ho:Z9 X op g) (mg:Y7 g) (ha:DE X H0 a wa) (hb:DE X H0 b wb) (hm:behindInMarks op b=false) :
  DT X H0 (.Compare a [op] [b] pos) (A7 g wa wb) where
 mono:=fun τ P Q f h=>ha.mono τ _ _ (fun x h=>hb.mono τ _ _ (fun y h=>mg x y _ _ (fun k q=>f _ q) h) h) h
 pt:=ptW (W3i ho ha.pe hb.pe hm) fun σ H Q ⟨τ,hR,h⟩=>two ha hb hR h fun x y v u H' sm rx ry q =>
  ⟨x,y,rx.v,ry.v,mg x y _ _ (fun r q=>⟨r,rfl,q _ sm⟩) q⟩
noncomputable def Q2m:R->(Bool->Prop)->Prop
 | .st .non,Q=>Q false
 | .st (.bl b),Q=>Q b
 | .st (.int i),Q=>Q (i != 0)
 | .st (.str x),Q=>x.length<=sizeLine/\Q ((x.length:Int) != 0)
 | .st (.tup ds),Q=>Q (!ds.isEmpty)
 | .st (.lst ds),Q=>Q (!ds.isEmpty)
 | .nw ds,Q=>Q (!ds.isEmpty)
 | .bw ds,Q=>Q (!ds.isEmpty)
 | .dk kvs,Q=>Q (!kvs.isEmpty)
 | .dt _,_=>False
 | .ob _,_=>False
 | .cl _ _,_=>False
 | .ms _ _ _ _,_=>False
theorem AllS.empty {K:Fg9}{H:Hp}{ds:List D}{xs:List V} (h:AllS K H ds xs):ds.isEmpty=xs.isEmpty:=by
 have:=h.length
 cases ds <;> cases xs <;> simp_all
theorem W7h (r:R) (P Q:Bool->Prop) (f:∀r,P r->Q r) (h:Q2m r P):Q2m r Q:=by
 unfold Q2m at h ⊢
 split at h <;> first | exact f _ h | exact⟨h.1,f _ h.2⟩ | exact h
theorem W7k {K:Fg9}{H:Hp}{r:R}{v:V} (ir:IsV K H r v) {Q:Bool->Prop} (h:Q2m r Q):∃k,Z0q K v H k/\Q k:=by
 cases r with
 | st d =>
  cases d with
  | non=>cases (show v=.non from ir);exact⟨_,rfl,h⟩
  | bl b=>cases (show v=.bl b from ir);exact⟨_,rfl,h⟩
  | int b=>cases (show v=.int b from ir);exact⟨_,rfl,h⟩
  | str b=>cases (show v=.str b from ir);exact⟨_,⟨h.1,rfl⟩,h.2⟩
  | tup ds =>
   have ir:A3 K H (.tup ds) v:=ir
   unfold A3 at ir
   obtain⟨p,xs,rfl,q,al⟩:=ir
   exact⟨_,.inr (.inl ⟨xs,C6.of q,rfl⟩),by rw [<- al.empty];exact h⟩
  | lst ds =>
   have ir:A3 K H (.lst ds) v:=ir
   unfold A3 at ir
   obtain⟨p,xs,rfl,q,al⟩:=ir
   exact⟨_,.inl ⟨xs,q.sq,rfl⟩,by rw [<- al.empty];exact h⟩
 | nw ds=>obtain⟨p,xs,rfl,_,q,al⟩:=ir;exact⟨_,.inl ⟨xs,E3.of q,rfl⟩,by rw [<- al.empty];exact h⟩
 | bw ds=>obtain⟨p,xs,rfl,q,al⟩:=ir;exact⟨_,.inl ⟨xs,E3.of q,rfl⟩,by rw [<- al.empty];exact h⟩
 | dk ds =>
  obtain⟨p,xs,rfl,q,al⟩:=ir
  refine⟨_,.inr (.inr ⟨xs,q,rfl⟩),?_⟩
  cases ds with
  | nil=>cases (show xs=[]from al);exact h
  | cons d ds=>obtain⟨v,r,rfl,_⟩:=al;exact h
 | dt _=>exact h.elim
 | ob _=>exact h.elim
 | cl _ _=>exact h.elim
 | ms _ _ _ _=>exact h.elim
theorem DT.tru (ha:DE X H0 a wa) (he:∀whole,isTrue a X.env whole=(do let v <- whole;standAt a.pos;holding [v] (truthy v))):DT X H0 a (fun τ Q=>wa τ fun r=>Q2m r Q) where
 mono:=fun τ P Q f h=>ha.mono τ _ _ (fun x h=>W7h x P Q f h) h
 pt:=ptW (W3j ha.pe he) fun σ H Q ⟨τ,hR,h⟩=>⟨τ,hR,ha.mono τ _ _ (fun r q v H' sm ir=>by
  obtain⟨k,h1,h2⟩:=W7k ir.v q
  exact⟨k,h1,h2 H' sm⟩) h⟩
variable {ta tb tc:WT}{rest:List Expr}
def wOr (t u:WT):WT:=fun τ Q=>t τ fun k=>if k=true then Q true else u τ Q
theorem Q0d {c A B A' B':Prop} [Decidable c] (f:A->A') (g:B->B') (h:if c then A else B):if c then A' else B':=by
 split at h
 ·rename_i hc;rw [aM hc];exact f h
 ·rename_i hc;rw [aI hc];exact g h
theorem DW.or1 (ha:DT X H0 a ta):DW X H0 (.BoolOp .Or [a] pos) ta:=⟨ha.mono,W3l ha.pt⟩
theorem DW.or (ha:DT X H0 a ta) (hb:DW X H0 (.BoolOp .Or (b::rest) pos) tb):DW X H0 (.BoolOp .Or (a::b::rest) pos) (wOr ta tb) where
 mono:=fun τ P Q f h=>ha.mono τ _ _ (fun k h=>Q0d (f _) (hb.mono τ _ _ f) h) h
 pw:=pwW (W3k ha.pt hb.pw) fun σ H Q ⟨τ,hR,h⟩=>⟨τ,hR,ha.mono τ _ _ (fun k q H1 s1 =>
  Q0d (fun h=>h H1 s1) (fun h=>⟨τ,hR.mono s1,hb.mono τ _ _ (fun k q H2 s2=>q H2 (s1.trans s2)) h⟩) q) h⟩
theorem DW.t (h:DW X H0 a ta):DT X H0 a ta:=⟨h.mono,h.pw.pt⟩
noncomputable def blR:R->(Bool->Prop)->Prop
 | .st (.bl b),Q=>Q b
 | _,_=>False
theorem Q3s {r:R}{P:Bool->Prop} (h:blR r P):∃k,r=.st (.bl k)/\P k:=by
 unfold blR at h
 split at h
 ·exact⟨_,rfl,h⟩
 ·exact h.elim
def Q3k (wa wb:WE):WE:=fun τ Q=>wa τ fun r=>blR r fun k=>if k=true then wb τ Q else Q (.st (.bl false))
def Z5i (wa wb:WE):WE:=fun τ Q=>wa τ fun r=>blR r fun k=>if k=true then Q (.st (.bl true))else wb τ Q
def Q6s (wa:WE):WE:=fun τ Q=>wa τ fun r=>blR r fun k=>Q (.st (.bl (!k)))
theorem DE.and1 (ha:DE X H0 a wa):DE X H0 (.BoolOp .And [a] pos) wa:=⟨ha.mono,Y1p ha.pe⟩
theorem DE.or1 (ha:DE X H0 a wa):DE X H0 (.BoolOp .Or [a] pos) wa:=⟨ha.mono,Y1p ha.pe⟩
theorem DE.and (ha:DE X H0 a wa) (hb:DE X H0 (.BoolOp .And (b::rest) pos) wb):DE X H0 (.BoolOp .And (a::b::rest) pos) (Q3k wa wb) where
 mono:=fun τ P Q f h=>ha.mono τ _ _ (fun r h=>by
  obtain⟨k,rfl,h⟩:=Q3s h
  exact Q0d (hb.mono τ _ _ f) (f _) h) h
 pe:=O1 (W2a ha.pe hb.pe) fun σ H Q ⟨τ,hR,h⟩=>⟨τ,hR,ha.mono τ _ _ (fun r h v H1 s1 ir=>by
  obtain⟨k,rfl,h⟩:=Q3s h
  refine⟨k,ir,Q0d (fun h=>⟨τ,hR.mono s1,hb.mono τ _ _ (fun r q u H2 s2 iu=>q u H2 (s1.trans s2) (iu.older s1)) h⟩) (fun h=>h _ _ s1 Q7u) h⟩) h⟩
theorem DE.or (ha:DE X H0 a wa) (hb:DE X H0 (.BoolOp .Or (b::rest) pos) wb):DE X H0 (.BoolOp .Or (a::b::rest) pos) (Z5i wa wb) where
 mono:=fun τ P Q f h=>ha.mono τ _ _ (fun r h=>by
  obtain⟨k,rfl,h⟩:=Q3s h
  exact Q0d (f _) (hb.mono τ _ _ f) h) h
 pe:=O1 (W2s ha.pe hb.pe) fun σ H Q ⟨τ,hR,h⟩=>⟨τ,hR,ha.mono τ _ _ (fun r h v H1 s1 ir=>by
  obtain⟨k,rfl,h⟩:=Q3s h
  refine⟨k,ir,Q0d (fun h=>h _ _ s1 Q7u) (fun h=>⟨τ,hR.mono s1,hb.mono τ _ _ (fun r q u H2 s2 iu=>q u H2 (s1.trans s2) (iu.older s1)) h⟩) h⟩) h⟩
theorem DE.nt (ha:DE X H0 a wa):DE X H0 (.UnaryOp .Not a pos) (Q6s wa) where
 mono:=fun τ P Q f h=>ha.mono τ _ _ (fun r h=>by
  obtain⟨k,rfl,h⟩:=Q3s h
  exact f _ h) h
 pe:=O1 (W2p ha.pe) fun σ H Q ⟨τ,hR,h⟩=>⟨τ,hR,ha.mono τ _ _ (fun r h v H1 s1 ir=>by
  obtain⟨k,rfl,h⟩:=Q3s h
  exact⟨k,ir,h _ _ s1 Q7u⟩) h⟩
variable {es:List Expr}{wr:WA}
def A2:WA:=fun _ Q=>Q []
def A0 (we:WE) (wr:WA):WA:=fun τ Q=>we τ fun r=>wr τ fun rs=>Q (r::rs)
theorem N1.older {K:Fg9}{H0 H1 H:Hp} (s:A5 H0 H1):∀{rs:List R}{vs:List V},N1 K H1 H rs vs->N1 K H0 H rs vs
 | [],_,h=>h
 | r::rs,_,h=>by obtain⟨v,t,e,q,z⟩:=h;exact⟨v,t,e,q.older s,N1.older s z⟩
theorem DA.nil:DA X H0 [] A2:=⟨fun τ Q h=>⟨rfl,h⟩,fun τ P Q f h=>f _ h,paW Q3g fun σ H Q ⟨τ,hR,h⟩=>h [] H (A5.refl H) rfl⟩
theorem DA.cons (ha:DE X H0 e we) (hr:DA X H0 es wr) (hs:starEach (e::es) X.env=(false,eval e X.env)::starEach es X.env:=by rfl):DA X H0 (e::es) (A0 we wr) where
 len:=fun τ Q h=>ha.mono τ _ _ (fun r h=>hr.mono τ _ _ (fun rs h=>⟨by rw [aK,aK,h.1],h.2⟩) (hr.len τ _ h)) h
 mono:=fun τ P Q f h=>ha.mono τ _ _ (fun r h=>hr.mono τ _ _ (fun rs h=>f _ h) h) h
 pa:=paW (Q1n ha.pe hr.pa hs) fun σ H Q ⟨τ,hR,h⟩=>⟨τ,hR,ha.mono τ _ _ (fun r h v H1 s1 ir=>⟨τ,hR.mono s1,hr.mono τ _ _ (fun rs h vs H2 s2 cx =>
  h (v::vs) H2 (s1.trans s2) ⟨v,vs,rfl,ir.mono s2,cx.older s1⟩) h⟩) h⟩
noncomputable def Q0l:List R->Option (List D)
 | []=>some []
 | .st d::rs=>(Q0l rs).map (d::·)
 | _::_=>none
theorem Z3w {K:Fg9}{H0 H:Hp}:∀{rs:List R}{ds:List D}{vs:List V},Q0l rs=some ds->N1 K H0 H rs vs->AllS K H ds vs
 | [],ds,vs,h,q=>by cases h;cases q;exact AllS.nil
 | .st d::rs,ds,vs,h,q=>by
  obtain⟨v,t,rfl,iv,z⟩:=q
  unfold Q0l at h
  cases e:Q0l rs with
  | none=>rw [e]at h;cases h
  | some es=>rw [e]at h;cases h;exact AllS.cons iv (Z3w e z)
 | .nw _::_,_,_,h,_=>by cases h
 | .bw _::_,_,_,h,_=>by cases h
 | .dk _::_,_,_,h,_=>by cases h
 | .dt _::_,_,_,h,_=>by cases h
 | .ob _::_,_,_,h,_=>by cases h
 | .cl _ _::_,_,_,h,_=>by cases h
 | .ms _ _ _ _::_,_,_,h,_=>by cases h
def W4 (wr:WA):WE:=fun τ Q=>wr τ fun rs=>∃ds,Q0l rs=some ds/\ds.length<=sizeLine/\Q (.st (.tup ds))
def R0 (wr:WA):WE:=fun τ Q=>wr τ fun rs=>∃ds,Q0l rs=some ds/\ds.length<=sizeLine/\Q (.nw ds)
theorem DE.tup {k:Nat} (h:DA X H0 es wr):DE X H0 (.Tuple es k pos) (W4 wr) where
 mono:=fun τ P Q f h'=>h.mono τ _ _ (fun rs ⟨ds,e,l,q⟩=>⟨ds,e,l,f _ q⟩) h'
 pe:=O1 (W2v h.pa) fun σ H Q ⟨τ,hR,h'⟩=>⟨τ,hR,h.mono τ _ _ (fun rs ⟨ds,e,l,q⟩ vs H1 s1 cx=>by
  have al:=Z3w e cx
  refine⟨by rw [<- al.length];exact l,fun p hp=>q _ _ (s1.trans (G0 hp _)) (A3.s_tup upd_same (al.mono (Kp.of (G0 hp _)) _ _))⟩) h'⟩
theorem DE.lst (h:DA X H0 es wr):DE X H0 (.List es pos) (R0 wr) where
 mono:=fun τ P Q f h'=>h.mono τ _ _ (fun rs ⟨ds,e,l,q⟩=>⟨ds,e,l,f _ q⟩) h'
 pe:=O1 (Y1o h.pa) fun σ H Q ⟨τ,hR,h'⟩=>⟨τ,hR,h.mono τ _ _ (fun rs ⟨ds,e,l,q⟩ vs H1 s1 cx=>by
  have al:=Z3w e cx
  refine⟨by rw [<- al.length];exact l,fun p hp=>q _ _ (s1.trans (G0 hp _)) ⟨p,vs,rfl,s1.free hp,upd_same,al.mono (Kp.of (G0 hp _)) _ _⟩⟩) h'⟩
end
theorem Q0c {α:Type}{l:List (Option α)}{i:Nat}{x:Option α} (h:i<l.length):(l.set i x)[i]?=some x:=by simp [h]
theorem B4.set {K:Fg9}{H0 H:Hp} {τ:A8} {σ:St}{i:Nat}{s:Sl}{v:V} (h:B4 K H0 τ σ H) (q:SlR K H0 H s v)
  (ap:s.mut=true->∀(j:Nat) (t:Sl),j≠i->τ[j]?=some (some t)->t.mut=true->σ[j]?≠some (some v)):B4 K H0 (τ.set i (some s)) (σ.set i (some v)) H where
 len:=by rw [bg,bg];exact h.len
 same:=h.same
 here:=fun j t e=>by
  by_cases hj:j=i
  ·subst hj
   by_cases hl:j<τ.length
   ·rw [Q0c hl]at e
    cases e
    exact⟨v,Q0c (by rw [<- h.len];exact hl),q⟩
   ·rw [aC.mpr (by rw [bg];omega)]at e;cases e
  ·rw [aG (fun z=>hj z.symm)]at e ⊢
   exact h.here j t e
 apart:=fun j k s1 s2 u cj e1 e2 m1 m2 q1 q2=>by
  by_cases hj:j=i
  ·subst hj
   have hk:k≠j:=fun z=>cj z.symm
   by_cases hl:j<τ.length
   ·rw [Q0c hl]at e1
    cases e1
    rw [Q0c (by rw [<- h.len];exact hl)]at q1
    cases q1
    rw [aG (fun z=>hk z.symm)]at e2 q2
    exact ap m1 k s2 hk e2 m2 q2
   ·rw [aC.mpr (by rw [bg];omega)]at e1;cases e1
  ·by_cases hk:k=i
   ·subst hk
    by_cases hl:k<τ.length
    ·rw [Q0c hl]at e2
     cases e2
     rw [Q0c (by rw [<- h.len];exact hl)]at q2
     cases q2
     rw [aG (fun z=>hj z.symm)]at e1 q1
     exact ap m2 j s1 hj e1 m1 q1
    ·rw [aC.mpr (by rw [bg];omega)]at e2;cases e2
   ·rw [aG (fun z=>hj z.symm)]at e1 q1
    rw [aG (fun z=>hk z.symm)]at e2 q2
    exact h.apart j k s1 s2 u cj e1 e2 m1 m2 q1 q2
theorem B4.tracked {K:Fg9}{H0 H:Hp} {τ:A8} {σ:St}{j:Nat}{t:Sl}{p:Addr} (h:B4 K H0 τ σ H) (e:τ[j]?=some (some t)) (m:t.mut=true) (q:σ[j]?=some (some (.ref p))):∃o,H p=some o:=by
 obtain⟨v,hv,r⟩:=h.here j t e
 rw [q]at hv;cases hv
 cases t with
 | dat _=>cases m
 | bor _=>cases m
 | bd _=>cases m
 | own ds=>obtain⟨a,xs,e,_,q,_⟩:=r;cases e;exact⟨_,q⟩
 | dk ds=>obtain⟨a,xs,e,_,q,_⟩:=r;cases e;exact⟨_,q⟩
 | dt ds=>obtain⟨a,xs,e,_,q,_⟩:=r;cases e;exact⟨_,q⟩
 | ob _=>cases m
 | cl _ _=>cases m
 | ll _ _=>cases m
 | ins _ _ _=>obtain⟨e,_,dx,xs,q,_⟩:=r;cases e;exact⟨_,q⟩
noncomputable def Q1a:R->(Sl->Prop)->Prop
 | .st d,Q=>Q (.dat d)
 | .nw ds,Q=>Q (.own ds)
 | _,_=>False
theorem W6r {r:R}{P:Sl->Prop} (h:Q1a r P):∃s,P s/\((∃d,r=.st d/\s=.dat d)\/∃ds,r=.nw ds/\s=.own ds):=by
 cases r with
 | st d=>exact⟨_,h,.inl ⟨d,rfl,rfl⟩⟩
 | nw ds=>exact⟨_,h,.inr ⟨ds,rfl,rfl⟩⟩
 | bw _=>exact h.elim
 | dk _=>exact h.elim
 | dt _=>exact h.elim
 | ob _=>exact h.elim
 | cl _ _=>exact h.elim
 | ms _ _ _ _=>exact h.elim
theorem Y4f {r:R}{P Q:Sl->Prop} (f:∀s,P s->Q s) (h:Q1a r P):Q1a r Q:=by
 cases r <;> first | exact f _ h | exact h
theorem B4.store {K:Fg9}{H0 H H1:Hp} {τ:A8} {σ:St}{i:Nat}{r:R}{v:V} (h:B4 K H0 τ σ H) (sm:A5 H H1) (ir:E4 K H H1 r v) {P:Sl->Prop} (st:Q1a r P):∃s,P s/\B4 K H0 (τ.set i (some s)) (σ.set i (some v)) H1:=by
 obtain⟨s,p,⟨d,rfl,rfl⟩ | ⟨ds,rfl,rfl⟩⟩:=W6r st
 ·exact⟨_,p,(h.mono sm).set ir fun m=>by cases m⟩
 ·obtain⟨a,xs,rfl,hn,ha,al⟩:=ir
  refine⟨_,p,(h.mono sm).set ⟨a,xs,rfl,h.same.free hn,ha,al⟩ fun _ j t hj e m q=>?_⟩
  obtain⟨o,ho⟩:=h.tracked e m q
  rw [hn]at ho;cases ho
section
variable {X:Cx}{H0:Hp}{a b c e:Expr}{pos be:Pos}{wa wb we:WE}{tc:WT}{st:Stmt}{j7:List Stmt}{ws wt:WS}
def O7:WS:=fun E τ=>E.nx τ
def B1 (t u:WS):WS:=fun E τ=>t { E with nx:=u E } τ
theorem A4.nil:A4 X H0 [] O7:=⟨fun τ E F le h=>le.nx τ h,Q8r W3h fun D σ H ⟨τ,hR,h⟩=>h σ H (Kp.refl H) hR⟩
theorem A4.cons (h1:DS X H0 st ws) (h2:A4 X H0 j7 wt):A4 X H0 (st::j7) (B1 ws wt) where
 mono:=fun τ E F le h=>h1.mono τ { E with nx:=wt E } { F with nx:=wt F } ⟨fun τ' h=>h2.mono τ' E F le h,le.rt,le.bk,le.ct⟩ h
 ps:=Q8r (Y1v h1.ps h2.ps) fun D σ H ⟨τ,hR,h⟩=>⟨τ,hR,h1.mono τ { M6 X.K H0 H D with nx:=wt (M6 X.K H0 H D) } _ ⟨fun τ' h σ' H' k cM=>⟨τ',cM,h2.mono τ' _ _ (Z2f k) h⟩,fun _ h=>h,fun _ h=>h,fun _ h=>h⟩ h⟩
theorem A4.one (h1:DS X H0 st ws):A4 X H0 [st] ws:=⟨h1.mono,Q8r (Y1w h1.ps) fun D σ H h=>h⟩
def O6 (t:WT) (ws wt:WS):WS:=fun E τ=>t τ fun k=>if k=true then ws E τ else wt E τ
theorem DS.ife {sa sb:List Stmt} (hc:DT X H0 c tc) (ha:A4 X H0 sa ws) (hb:A4 X H0 sb wt):DS X H0 (.If c sa sb pos) (O6 tc ws wt) where
 mono:=fun τ E F le h=>hc.mono τ _ _ (fun k h=>Q0d (ha.mono τ E F le) (hb.mono τ E F le) h) h
 ps:=O2 (W3f hc.pt ha.ps hb.ps) fun D σ H ⟨τ,hR,h⟩=>⟨τ,hR,hc.mono τ _ _ (fun k h H1 s1 =>
  Q0d (fun h=>⟨τ,hR.mono s1,ha.mono τ _ _ (Z2f (Kp.of s1)) h⟩) (fun h=>⟨τ,hR.mono s1,hb.mono τ _ _ (Z2f (Kp.of s1)) h⟩) h) h⟩
noncomputable def Q4k:R->(R->Prop)->Prop
 | .st d,Q=>Q (.st d)
 | .nw ds,Q=>Q (.nw ds)
 | _,_=>False
theorem W4w {r:R}{P:R->Prop} (h:Q4k r P):P r:=by
 cases r <;> first | exact h | exact h.elim
theorem W4v {r:R}{P Q:R->Prop} (f:∀s,P s->Q s) (h:Q4k r P):Q4k r Q:=by
 cases r <;> first | exact f _ h | exact h
def G1 (we:WE):WS:=fun E τ=>we τ fun r=>Q4k r E.rt
theorem DS.ret (he:DE X H0 e we):DS X H0 (.Return (some e) pos) (G1 we) where
 mono:=fun τ E F le h=>he.mono τ _ _ (fun r h=>W4v le.rt h) h
 ps:=O2 (Z3j he.pe) fun D σ H ⟨τ,hR,h⟩=>⟨τ,hR,he.mono τ _ _ (fun r h v H1 s1 ir=>W4w (P:=(M6 X.K H0 H D).rt) h v H1 (hR.same.trans s1) (ir.older hR.same)) h⟩
noncomputable def Q3f:Sl->(R->Prop)->Prop
 | .dat d,Q=>Q (.st d)
 | .own ds,Q=>Q (.nw ds)
 | _,_=>False
theorem DS.retV {i:Nat} (he:PE X e (M0 i)):DS X H0 (.Return (some e) pos) (fun E τ=>∃s,τ[i]?=some (some s)/\Q3f s E.rt) where
 mono:=fun τ E F le ⟨s,h1,h2⟩=>⟨s,h1,by cases s <;> first | exact le.rt _ h2 | exact h2⟩
 ps:=O2 (Z3j he) fun D σ H ⟨τ,hR,s,h1,h2⟩=>by
  obtain⟨v,hv,q⟩:=hR.here i s h1
  refine⟨v,hv,?_⟩
  cases s with
  | dat d=>exact h2 v H hR.same q
  | own ds=>exact h2 v H hR.same q
  | bor _=>exact h2.elim
  | bd _=>exact h2.elim
  | dk _=>exact h2.elim
  | dt _=>exact h2.elim
  | ob _=>exact h2.elim
  | cl _ _=>exact h2.elim
  | ll _ _=>exact h2.elim
  | ins _ _ _=>exact h2.elim
def C8 (i:Nat) (we:WE):WS:=fun E τ=>we τ fun r=>Q1a r fun s=>E.nx (τ.set i (some s))
theorem DS.set {i:Nat}{x:Str} (he:DE X H0 e we) (hN:X.N.Nodup) (hi:X.N[i]?=some x) (hx:Loc X.env.scope x) (hs:swapsWith e (some (.Name x be)) pos.line X.env=pure false:=by rfl)
  (hf:X.fn x=true\/X.env.scope.names.lookup x=some .local:=by first | exact .inl rfl | exact .inr rfl | assumption):DS X H0 (.Assign [.Name x be] e pos) (C8 i we) where
 mono:=fun τ E F le h=>he.mono τ _ _ (fun r h=>Y4f (fun s h=>le.nx _ h) h) h
 ps:=O2 (Q3h hN hi hx he.pe hs hf) fun D σ H ⟨τ,hR,h⟩=>⟨τ,hR,he.mono τ _ _ (fun r h v H1 s1 ir=>by
  obtain⟨s,p,cM⟩:=hR.store (i:=i) s1 ir h
  exact p _ _ (Kp.of s1) cM) h⟩
noncomputable def J6 (t:WT) (wb:WS):Nat->WS
 | 0=>fun _ _=>False
 | n+1=>fun E τ=>t τ fun k=>if k=true then wb { E with nx:=J6 t wb n E,ct:=J6 t wb n E,bk:=E.nx } τ else E.nx τ
def Q4z (t:WT) (wb:WS):WS:=fun E τ=>∃n,J6 t wb n E τ
theorem Z6g (ht:∀(τ:A8) (P Q:Bool->Prop),(∀r,P r->Q r)->tc τ P->tc τ Q) (hb:∀(τ:A8) (E F:G8),E.Le F->ws E τ->ws F τ) :
  ∀(n:Nat) (τ:A8) (E F:G8),E.Le F->J6 tc ws n E τ->J6 tc ws n F τ
 | 0,_,_,_,_,h=>h
 | n+1,τ,E,F,le,h=>ht τ _ _ (fun k h=>Q0d (hb τ { E with nx:=J6 tc ws n E,ct:=J6 tc ws n E,bk:=E.nx } { F with nx:=J6 tc ws n F,ct:=J6 tc ws n F,bk:=F.nx } ⟨fun τ h=>Z6g ht hb n τ E F le h,le.rt,le.nx,fun τ h=>Z6g ht hb n τ E F le h⟩) (le.nx τ) h) h
theorem DS.whl {body:List Stmt} (hp:PassesOwn (model X.prog X.w) X.A X.env X.xe) (hc:DT X H0 c tc) (hb:A4 X H0 body ws):DS X H0 (.While c body [] pos) (Q4z tc ws) where
 mono:=fun τ E F le ⟨n,h⟩=>⟨n,Z6g hc.mono hb.mono n τ E F le h⟩
 ps:=O2 (W3g hp hc.pt hb.ps) fun D σ H0' ⟨τ,hR,n,h⟩=>by
  refine⟨fun m σ H=>∃ τ,B4 X.K H0 τ σ H/\Kp H0' H/\J6 tc ws m (M6 X.K H0 H0' D) τ,⟨n,τ,hR,Kp.refl _,h⟩,?_⟩
  rintro m σ H ⟨τ,hR,kp,h⟩
  cases m with
  | zero=>exact h.elim
  | succ m =>
   refine⟨τ,hR,hc.mono τ _ _ (fun k h H1 s1=>Q0d (fun h=>?_) (fun h=>h σ H1 (kp.trans (Kp.of s1)) (hR.mono s1)) h) h⟩
   refine⟨fun σ' H'=>∃ τ,B4 X.K H0 τ σ' H'/\Kp H0' H'/\J6 tc ws m (M6 X.K H0 H0' D) τ,fun σ' H' h'=>⟨m,cm m,h'⟩,τ,hR.mono s1,?_⟩
   have k1:=kp.trans (Kp.of s1)
   exact hb.mono τ { M6 X.K H0 H0' D with nx:=J6 tc ws m (M6 X.K H0 H0' D),ct:=J6 tc ws m (M6 X.K H0 H0' D),bk:=(M6 X.K H0 H0' D).nx } _
    ⟨fun τ' h' σ' H' k cM=>⟨τ',cM,k1.trans k,h'⟩,fun _ h=>h,fun τ' h' σ' H' k cM=>h' σ' H' (k1.trans k) cM,fun τ' h' σ' H' k cM=>⟨τ',cM,k1.trans k,h'⟩⟩ h
end
noncomputable abbrev D6:=List R->R->Prop
noncomputable def N7:R->Bool
 | .st _=>true
 | .nw _=>true
 | .bw _=>true
 | .ob _=>true
 | .cl _ _=>true
 | _=>false
noncomputable def nrm:R->R
 | .nw ds=>.bw ds
 | r=>r
noncomputable def Q4f (K:Fg9) (n:Nat) (sp:D6):Sp:=fun vs H Q _=>∃(rs:List R) (r:R),rs.length=n/\N1 K (fun _=>none) H rs vs/\rs.all N7=true/\sp (rs.map nrm) r/\∀v H',A5 H H'->E4 K H H' r v->Q v H'
noncomputable def O5:R->Sl
 | .st d=>.dat d
 | .nw ds=>.bor ds
 | .bw ds=>.bor ds
 | .dk k=>.dk k
 | .dt k=>.dt k
 | .ob a=>.ob a
 | .cl a Φ=>.cl a Φ
 | .ms a C _ fs=>.ins a C fs
noncomputable def E7 (N:List Str) (rs:List R):A8:=rs.map (fun r=>some (O5 r))++List.replicate (N.length-rs.length) none
theorem N1.length {K:Fg9}{H0 H:Hp}:∀{rs:List R}{vs:List V},N1 K H0 H rs vs->rs.length=vs.length
 | [],_,h=>by cases h;rfl
 | r::rs,_,h=>by obtain⟨v,t,rfl,_,z⟩:=h;rw [aK,aK,N1.length z]
theorem N1.get {K:Fg9}{H0 H:Hp}:∀{rs:List R}{vs:List V}{i:Nat}{r:R},N1 K H0 H rs vs->rs[i]?=some r->∃v,vs[i]?=some v/\E4 K H0 H r v
 | [],_,_,_,_,e=>by simp at e
 | r::rs,_,0,r',h,e=>by obtain⟨v,t,rfl,q,z⟩:=h;simp at e;subst e;exact⟨v,rfl,q⟩
 | r::rs,_,i+1,r',h,e=>by
  obtain⟨v,t,rfl,q,z⟩:=h
  obtain⟨u,h1,h2⟩:=N1.get (i:=i) z (by simpa using e)
  exact⟨u,by simpa using h1,h2⟩
theorem N1.v {K:Fg9}{H0 H:Hp}:∀{rs:List R}{vs:List V},N1 K H0 H rs vs->N1 K (fun _=>none) H rs vs
 | [],_,h=>h
 | r::rs,_,h=>by obtain⟨v,t,e,q,z⟩:=h;exact⟨v,t,e,q.v,N1.v z⟩
theorem W6p (r:R):O5 (nrm r)=O5 r:=by cases r <;> rfl
theorem Z4h (N:List Str) (rs:List R):E7 N (rs.map nrm)=E7 N rs:=by
 unfold E7
 rw [aQ,ag]
 congr 1
 exact bB fun r _=>congrArg some (W6p r)
theorem SlR.arg {K:Fg9}{H:Hp}:∀{r:R}{v:V},N7 r=true->IsV K H r v->SlR K H H (O5 r) v
 | .st d,v,_,h=>h
 | .nw ds,v,_,h=>by obtain⟨a,xs,e,_,q,t⟩:=h;exact⟨a,xs,e,q,t⟩
 | .bw ds,v,_,h=>h
 | .dk _,_,h,_=>by cases h
 | .dt _,_,h,_=>by cases h
 | .ob a,v,_,h=>h
 | .cl _ _,v,_,h=>h
 | .ms _ _ _ _,_,h,_=>by cases h
theorem W6o:∀{r:R},N7 r=true->(O5 r).mut=false
 | .st d,_=>rfl
 | .nw ds,_=>rfl
 | .bw ds,_=>rfl
 | .dk _,h=>by cases h
 | .dt _,h=>by cases h
 | .ob _,_=>rfl
 | .cl _ _,_=>rfl
 | .ms _ _ _ _,h=>by cases h
theorem Z3n {K:Fg9}{H:Hp}{N:List Str}{rs:List R}{vs:List V} (al:N1 K (fun _=>none) H rs vs) (ok:rs.all N7=true):B4 K H (E7 N rs) (L2.start N vs) H:=by
 have hl:=al.length
 have at_:∀(i:Nat) (s:Sl),(E7 N rs)[i]?=some (some s)->∃r,rs[i]?=some r/\s=O5 r:=fun i s e=>by
  unfold E7 at e
  by_cases hi:i<rs.length
  ·rw [aJ (by rw [ag];exact hi),ah,ac hi]at e
   exact⟨rs[i],ac hi,(ay (ay e)).symm⟩
  ·rw [aS (by rw [ag];omega)]at e
   have:=aw e
   rw [List.mem_replicate]at this
   cases this.2
 have mP:∀(i:Nat) (r:R),rs[i]?=some r->N7 r=true:=fun i r e=>bP.mp ok r (aw e)
 refine⟨?_,A5.refl H,fun i s e=>?_,fun i j s t v _ e1 _ m _ _ _=>?_⟩
 ·unfold E7 L2.start
  rw [aE,aE,ag,ag,aW,aW,hl]
 ·obtain⟨r,hr,rfl⟩:=at_ i s e
  obtain⟨v,hv,q⟩:=al.get hr
  refine⟨v,?_,SlR.arg (mP i r hr) q⟩
  unfold L2.start
  have hi:i<vs.length:=by
   rcases bo i vs.length with h | h
   ·exact h
   ·rw [aC.mpr h]at hv;cases hv
  rw [aJ (by rw [ag];exact hi),ah,hv]
  rfl
 ·obtain⟨r,hr,rfl⟩:=at_ i s e1
  rw [W6o (mP i r hr)]at m;cases m
section
variable {P:Program}{w:World}{K:Fg9}{mg:Str->Option Value}{base:Heap}
theorem O8.okD {x qual:Str}{st:Stmt}{f:Addr}{fd:FuncData}{N ps:List Str}{k:Nat}{sp:D6} (F:O8 K x qual st f fd) (S:G4 N ps (B8 st))
  (bS:∀(cdv:Value) (A:Around) (outer:List Env) (s:Shared) (H:Hp) (E:XK),C2 k (A.deeper (envOfC qual (B8 st) s.heap.objs.size f cdv)) ->
   ∃ws,A4 (W7 K8 P w K mg base N qual (B8 st) f cdv A outer s H E).nox H (R9 st) ws /\
    ∀rs r,rs.length=ps.length->sp rs r->ws { nx:=fun _=>r=.st .non,rt:=fun r'=>r'=r,bk:=fun _=>False,ct:=fun _=>False } (E7 N rs)) :
  P8 P w K mg base K8 (k+1) f fd ps (Q4f K ps.length sp):=by
 refine F.ok S (fun vs H Q E h=>?_) (fun cdv A outer s H vs Q E hr h=>?_)
 ·obtain⟨rs,r,hl,al,_⟩:=h
  rw [<- al.length];exact hl
 obtain⟨rs,r,hl,al,ok,h1,h2⟩:=h
 obtain⟨ws,hd,hw⟩:=bS cdv A outer s H E hr
 refine⟨_,hd.ps,E7 N rs,Z3n al ok,?_⟩
 have hw:=hw (rs.map nrm) r (by rw [ag];exact hl) h1
 rw [Z4h]at hw
 refine hd.mono _ _ _ ⟨fun τ h σ H' _ hR=>?_,fun r' h v H' sm ir=>?_,fun _ h=>False.elim h,fun _ h=>False.elim h⟩ hw
 ·have h:r=.st .non:=h
  subst h
  exact h2 .non H' hR.same (A3.s_non (K:=K) (H:=H'))
 ·have h:r'=r:=h
  subst h
  exact h2 v H' sm ir
end
section
variable {X:Cx}{H0:Hp}{e:Expr}{es:List Expr}{wr:WA}{k:Nat}{f:Addr}{fd:FuncData}{ps:List Str}{sp:D6}{x:Str}{p pos:Pos}
def U4 (sp:D6) (wr:WA):WE:=fun τ Q=>wr τ fun rs=>rs.all N7=true/\∃r,sp (rs.map nrm) r/\Q r
theorem DE.call (F:P8 X.prog X.w X.K X.mg X.base K8 k f fd ps (Q4f X.K (e::es).length sp)) (hr:C2 k X.A) (hg:Gl X x) (hm:X.mg x=some (.ref f)) (hk:PySem.W.keepIn X.K (.ref f)=true) (hb:V2 X.K fd ps [])
  (ha:DA X H0 (e::es) wr) (dm:(x==("__debug__":Str))=false:=by decide) (he:starEach (e::es) X.env=(false,eval e X.env)::starEach es X.env:=by rfl) (hpl:(backTo pos (starEach es X.env)).any (·.1)=false:=by rfl) :
  DE X H0 (.Call (.Name x p) (e::es) [] pos) (U4 sp wr) where
 mono:=fun τ P Q f h=>ha.mono τ _ _ (fun rs ⟨ok,r,h1,h2⟩=>⟨ok,r,h1,f r h2⟩) h
 pe:=O1 (Y1m F hr hg hm hk hb .nil Q8p ha.pa dm he hpl) fun σ H Q ⟨τ,hR,h⟩=>⟨τ,hR,ha.mono τ _ _ (fun rs ⟨jF,ok,r,h1,h2⟩ vs H1 s1 cx=>by
  refine⟨rs,r,jF,?_,ok,h1,fun v H' s2 ir=>h2 v H' (s1.trans s2) (ir.older s1)⟩
  rw [b7]
  exact cx.v) (ha.len τ _ h)⟩
end
mutual
noncomputable def D.eq:D->D->Bool
 | .non,.non=>true
 | .bl a,.bl b=>a==b
 | .bl a,.int b=>(if a then(1:Int)else 0)==b
 | .int a,.bl b=>a==(if b then(1:Int)else 0)
 | .int a,.int b=>a==b
 | .str a,.str b=>a==b
 | .tup a,.tup b=>D.eqs a b
 | .lst a,.lst b=>D.eqs a b
 | _,_=>false
noncomputable def D.eqs:List D->List D->Bool
 | [],[]=>true
 | x::xs,y::ys=>D.eq x y&&D.eqs xs ys
 | _,_=>false
end
mutual
noncomputable def D.depth:D->Nat
 | .tup a=>D.depths a+1
 | .lst a=>D.depths a+1
 | _=>0
noncomputable def D.depths:List D->Nat
 | []=>0
 | x::xs=>max (D.depth x) (D.depths xs)
end
theorem D.depths_get:∀{ds:List D}{i:Nat}{d:D},ds[i]?=some d->d.depth<=D.depths ds
 | [],_,_,h=>by simp at h
 | x::xs,0,d,h=>by simp at h;subst h;unfold D.depths;omega
 | x::xs,i+1,d,h=>by
  have:=D.depths_get (ds:=xs) (i:=i) (d:=d) (by simpa using h)
  unfold D.depths;omega
mutual
theorem D.eq_refl:∀d:D,D.eq d d=true
 | .non=>by unfold D.eq;rfl
 | .bl a=>by unfold D.eq;simp
 | .int a=>by unfold D.eq;simp
 | .str a=>by unfold D.eq;simp
 | .tup a=>by unfold D.eq;exact D.eqs_refl a
 | .lst a=>by unfold D.eq;exact D.eqs_refl a
theorem D.eqs_refl:∀ds:List D,D.eqs ds ds=true
 | []=>by unfold D.eqs;rfl
 | x::xs=>by unfold D.eqs;rw [D.eq_refl x,D.eqs_refl xs];rfl
end
theorem D.eqs_range:∀(a b:List D),D.eqs a b=((List.range (min a.length b.length)).all (fun i=>match a[i]?,b[i]? with | some x,some y=>D.eq x y | _,_=>true)&&a.length==b.length)
 | [],[]=>by unfold D.eqs;simp
 | [],y::ys=>by unfold D.eqs;simp
 | x::xs,[]=>by unfold D.eqs;simp
 | x::xs,y::ys=>by
  unfold D.eqs
  rw [D.eqs_range xs ys]
  have e:min (x::xs).length (y::ys).length=min xs.length ys.length+1:=by simp [Nat.succ_min_succ]
  rw [e,List.range_succ_eq_map,List.all_cons,List.all_map]
  simp only [aK,List.getElem?_cons_zero,Function.comp_def,List.getElem?_cons_succ]
  rw [Bool.and_assoc]
  congr 2
  simp
def IsW (K:Fg9) (H:Hp) (d:D) (v:V):Prop:=match d with
 | .lst ds=>∃a xs,v=.ref a/\E3 K H a xs/\AllS K H ds xs
 | d=>A3 K H d v
theorem A3.w {K:Fg9}{H:Hp}:∀{d:D}{v:V},A3 K H d v->IsW K H d v
 | .non,_,h=>h
 | .bl _,_,h=>h
 | .int _,_,h=>h
 | .str _,_,h=>h
 | .tup _,_,h=>h
 | .lst _,_,h=>by unfold A3 at h;obtain⟨a,xs,e,q,t⟩:=h;exact⟨a,xs,e,q.sq,t⟩
noncomputable def R.d:R->Option D
 | .st d=>some d
 | .nw ds=>some (.lst ds)
 | .bw ds=>some (.lst ds)
 | _=>none
theorem E4.w {K:Fg9}{H0 H:Hp}:∀{r:R}{v:V}{d:D},r.d=some d->E4 K H0 H r v->IsW K H d v
 | .st d,v,_,e,h=>by cases e;exact A3.w h
 | .nw ds,v,_,e,h=>by cases e;obtain⟨a,xs,e,n,q,t⟩:=h;exact⟨a,xs,e,E3.of q,t⟩
 | .bw ds,v,_,e,h=>by cases e;obtain⟨a,xs,e,q,t⟩:=h;exact⟨a,xs,e,E3.of q,t⟩
 | .dk _,_,_,e,_=>by cases e
 | .dt _,_,_,e,_=>by cases e
 | .ob _,_,_,e,_=>by cases e
 | .cl _ _,_,_,e,_=>by cases e
 | .ms _ _ _ _,_,_,e,_=>by cases e
theorem Y4k {X:Cx}{ae:Pn9} {σ:St}{H:Hp}{s:Shared} (I:A1 X ae σ H s) {a:Addr}{xs ys:List V} (h1:C6 X.K H a xs) (h2:E3 X.K H a ys):False:=by
 obtain⟨_,_,⟨o,e,c,_⟩,_⟩:=I.tuple h1
 obtain⟨_,_,⟨o',n,e',c',_⟩,_⟩:=I.list h2
 rw [e]at e';cases e'
 rw [c]at c';exact absurd c' (by simp)
section
variable {X:Cx}{ae:Pn9} {σ:St}{H:Hp}{s:Shared}
mutual
theorem A3.inj (I:A1 X ae σ H s):∀(d e:D) (v:V),A3 X.K H d v->A3 X.K H e v->d=e
 | .non,e,v,h1,h2=>by
  cases e <;> unfold A3 at h1 h2 <;> first | rfl | (obtain⟨_,_,z,_⟩:=h2;rw [h1]at z;cases z;done) | (rw [h1]at h2;cases h2;done) | (rw [h1]at h2;cases h2;rfl)
 | .bl p,e,v,h1,h2=>by
  cases e <;> unfold A3 at h1 h2 <;> first | rfl | (obtain⟨_,_,z,_⟩:=h2;rw [h1]at z;cases z;done) | (rw [h1]at h2;cases h2;done) | (rw [h1]at h2;cases h2;rfl)
 | .int p,e,v,h1,h2=>by
  cases e <;> unfold A3 at h1 h2 <;> first | rfl | (obtain⟨_,_,z,_⟩:=h2;rw [h1]at z;cases z;done) | (rw [h1]at h2;cases h2;done) | (rw [h1]at h2;cases h2;rfl)
 | .str p,e,v,h1,h2=>by
  cases e <;> unfold A3 at h1 h2 <;> first | rfl | (obtain⟨_,_,z,_⟩:=h2;rw [h1]at z;cases z;done) | (rw [h1]at h2;cases h2;done) | (rw [h1]at h2;cases h2;rfl)
 | .tup p,.non,v,h1,h2=>by unfold A3 at h1 h2;obtain⟨_,_,e,_⟩:=h1;rw [h2]at e;cases e
 | .tup p,.bl q,v,h1,h2=>by unfold A3 at h1 h2;obtain⟨_,_,e,_⟩:=h1;rw [h2]at e;cases e
 | .tup p,.int q,v,h1,h2=>by unfold A3 at h1 h2;obtain⟨_,_,e,_⟩:=h1;rw [h2]at e;cases e
 | .tup p,.str q,v,h1,h2=>by unfold A3 at h1 h2;obtain⟨_,_,e,_⟩:=h1;rw [h2]at e;cases e
 | .lst p,.non,v,h1,h2=>by unfold A3 at h1 h2;obtain⟨_,_,e,_⟩:=h1;rw [h2]at e;cases e
 | .lst p,.bl q,v,h1,h2=>by unfold A3 at h1 h2;obtain⟨_,_,e,_⟩:=h1;rw [h2]at e;cases e
 | .lst p,.int q,v,h1,h2=>by unfold A3 at h1 h2;obtain⟨_,_,e,_⟩:=h1;rw [h2]at e;cases e
 | .lst p,.str q,v,h1,h2=>by unfold A3 at h1 h2;obtain⟨_,_,e,_⟩:=h1;rw [h2]at e;cases e
 | .tup p,.tup q,v,h1,h2=>by unfold A3 at h1 h2;obtain⟨x,xs,e1,q1,r1⟩:=h1;obtain⟨y,ys,e2,q2,r2⟩:=h2;rw [e1]at e2;cases e2;have e:=I.tuple_inj (C6.of q1) (C6.of q2);subst e;rw [AllS.inj I p q xs r1 r2]
 | .tup p,.lst q,v,h1,h2=>by unfold A3 at h1 h2;obtain⟨x,xs,e1,q1,r1⟩:=h1;obtain⟨y,ys,e2,q2,r2⟩:=h2;rw [e1]at e2;cases e2;exact absurd (Y4k I (C6.of q1) q2.sq) id
 | .lst p,.tup q,v,h1,h2=>by unfold A3 at h1 h2;obtain⟨x,xs,e1,q1,r1⟩:=h2;obtain⟨y,ys,e2,q2,r2⟩:=h1;rw [e1]at e2;cases e2;exact absurd (Y4k I (C6.of q1) q2.sq) id
 | .lst p,.lst q,v,h1,h2=>by unfold A3 at h1 h2;obtain⟨x,xs,e1,q1,r1⟩:=h1;obtain⟨y,ys,e2,q2,r2⟩:=h2;rw [e1]at e2;cases e2;have e:=I.list_inj q1.sq q2.sq;subst e;rw [AllS.inj I p q xs r1 r2]
theorem AllS.inj (I:A1 X ae σ H s):∀(ds es:List D) (vs:List V),AllS X.K H ds vs->AllS X.K H es vs->ds=es
 | [],[],_,_,_=>rfl
 | [],y::ys,vs,h1,h2=>by unfold AllS at h1 h2;obtain⟨_,_,e,_⟩:=h2;rw [h1]at e;cases e
 | x::xs,[],vs,h1,h2=>by unfold AllS at h1 h2;obtain⟨_,_,e,_⟩:=h1;rw [h2]at e;cases e
 | x::xs,y::ys,vs,h1,h2=>by
  unfold AllS at h1 h2
  obtain⟨v,r,e1,q1,t1⟩:=h1
  obtain⟨v',r',e2,q2,t2⟩:=h2
  rw [e1]at e2;cases e2
  rw [A3.inj I x y v q1 q2,AllS.inj I xs ys r t1 t2]
end
end
section
variable {X:Cx}{ae:Pn9} {σ:St}{H:Hp}{s:Shared}
open PySem.SeqAt
theorem Q1u {ds:List D}{xs:List V}{aV:List Value} (al:AllS X.K H ds xs) (rv:B6 xs aV) {j:Nat} (h:j<aV.toArray.size):∃d v,ds[j]?=some d/\A3 X.K H d v/\B7 v aV.toArray[j]:=by
 have hl:=al.length
 have hr:=rv.length
 have hj:j<aV.length:=by simpa using h
 have gq:j<ds.length:=by omega
 obtain⟨v,hv,q⟩:=al.get (ac gq)
 obtain⟨u,hu,r⟩:=rv.get hv
 have e:u=aV.toArray[j]:=by
  rw [ac hj]at hu
  simpa using (ay hu).symm
 exact⟨ds[j],v,ac gq,q,e ▸ r⟩
theorem Q7o (I:A1 X ae σ H s) {d1 d2:D}{v1 v2:V}{u1 u2:Value}{n:Nat} (h:∀A:Around,A.units+n<cLine->RcAt A s u1 u2 (D.eq d1 d2)) (i1:A3 X.K H d1 v1) (i2:A3 X.K H d2 v2) (r1:B7 v1 u1) (r2:B7 v2 u2) {A:Around} (hu:A.units+n<cLine):EqAt A s u1 u2 (D.eq d1 d2):=by
 have hA:=h A hu
 by_cases e:u1=u2
 ·subst e
  have ev:=r1.inj r2
  subst ev
  rw [A3.inj I d1 d2 v1 i1 i2,D.eq_refl]
  exact EqAt.same _
 ·intro prog w E Q hq
  unfold eqBool
  refine bJ ?_
  refine wpAny_ite_split (fun qJ=>absurd (eq_of_beq qJ) e) (fun _=>?_)
  have fin:wpAny (model prog w) A (richCompare .Eq u1 u2>>=truthOfDropped) Q E s:=aa (hA prog w E _ (cK hq))
  cases v1 with
  | non=>cases r1;exact fin
  | bl _=>cases r1;exact fin
  | int _=>obtain⟨t,rfl⟩:=r1;exact fin
  | str _=>obtain⟨t,rfl⟩:=r1;exact fin
  | byt _=>obtain⟨t,rfl⟩:=r1;exact fin
  | ref _=>cases r1;exact fin
  | ty _=>cases r1;exact fin
  | flt b=>cases d1 <;> first | (cases (show V.flt b=_ from i1)) | (unfold A3 at i1;obtain⟨_,_,z,_⟩:=i1;cases z)
inductive Vw (X:Cx) (H:Hp) (s:Shared):D->Value->Prop
 | non:Vw X H s .non .none
 | bl (b:Bool):Vw X H s (.bl b) (.bool b)
 | int (i:Int) (t:Tok):Vw X H s (.int i) (.int i t)
 | str (x:Str) (t:Tok):Vw X H s (.str x) (.str x t)
 | tup {ds:List D}{a:Addr}{xs:List V}{aV:List Value} (al:AllS X.K H ds xs) (rv:B6 xs aV) (pl:s.heap.IsTuple a aV.toArray):Vw X H s (.tup ds) (.ref a)
 | lst {ds:List D}{a:Addr}{xs:List V}{aV:List Value} (al:AllS X.K H ds xs) (rv:B6 xs aV) (pl:s.heap.IsList a aV.toArray):Vw X H s (.lst ds) (.ref a)
theorem Q4r (I:A1 X ae σ H s) {d:D}{v:V}{u:Value} (h:IsW X.K H d v) (r:B7 v u):Vw X H s d u:=by
 cases d with
 | non=>cases (show v=.non from h);cases r;exact .non
 | bl b=>cases (show v=.bl b from h);cases r;exact .bl b
 | int i=>cases (show v=.int i from h);obtain⟨t,rfl⟩:=r;exact .int i t
 | str x=>cases (show v=.str x from h);obtain⟨t,rfl⟩:=r;exact .str x t
 | tup ds=>have h:A3 X.K H (.tup ds) v:=h;unfold A3 at h;obtain⟨a,xs,rfl,sq,al⟩:=h;cases r;obtain⟨aV,rv,pl,_⟩:=I.tuple (C6.of sq);exact .tup al rv pl
 | lst ds=>obtain⟨a,xs,rfl,sq,al⟩:=h;cases r;obtain⟨aV,rv,pl,_⟩:=I.list sq;exact .lst al rv pl.isList
def Q2v (d e:D):Prop:=(∃p q,d=.tup p/\e=.tup q)\/∃p q,d=.lst p/\e=.lst q
theorem Y1z {d1 d2:D}{u1 u2:Value}{A:Around} (h1:Vw X H s d1 u1) (h2:Vw X H s d2 u2) (hu:A.units<cLine) (hb:¬ Q2v d1 d2):RcAt A s u1 u2 (D.eq d1 d2):=by
 cases h1 <;> cases h2 <;> first | exact absurd (.inl ⟨_,_,rfl,rfl⟩) hb | exact absurd (.inr ⟨_,_,rfl,rfl⟩) hb | (unfold D.eq;(try simp only [Bool.not_true,Bool.not_false]);(with_reducible first | exact RcAt.none_none | exact RcAt.none_bool _ | exact RcAt.none_int _ _ | exact RcAt.none_str _ _ | exact RcAt.none_tuple (by assumption) hu | exact RcAt.none_list (by assumption) hu | exact RcAt.bool_none _ | exact RcAt.bool_bool _ _ | exact RcAt.bool_int _ _ _ | exact RcAt.bool_str _ _ _ | exact RcAt.bool_tuple _ (by assumption) hu | exact RcAt.bool_list _ (by assumption) hu | exact RcAt.int_none _ _ | exact RcAt.int_bool _ _ _ | exact RcAt.int_int _ _ _ _ | exact RcAt.int_str _ _ _ _ | exact RcAt.int_tuple _ _ (by assumption) hu | exact RcAt.int_list _ _ (by assumption) hu | exact RcAt.str_none _ _ | exact RcAt.str_bool _ _ _ | exact RcAt.str_int _ _ _ _ | exact RcAt.str_str _ _ _ _ | exact RcAt.str_tuple _ _ (by assumption) hu | exact RcAt.str_list _ _ (by assumption) hu | exact RcAt.tuple_none (by assumption) hu | exact RcAt.tuple_bool _ (by assumption) hu | exact RcAt.tuple_int _ _ (by assumption) hu | exact RcAt.tuple_str _ _ (by assumption) hu | exact RcAt.tuple_list (by assumption) (by assumption) hu | exact RcAt.list_none (by assumption) hu | exact RcAt.list_bool _ (by assumption) hu | exact RcAt.list_int _ _ (by assumption) hu | exact RcAt.list_str _ _ (by assumption) hu | exact RcAt.list_tuple (by assumption) (by assumption) hu))
theorem Z3k (I:A1 X ae σ H s):∀(n:Nat) (d1 d2:D) (v1 v2:V) (u1 u2:Value) (A:Around),d1.depth<=n->IsW X.K H d1 v1->IsW X.K H d2 v2->B7 v1 u1->B7 v2 u2->A.units+n<cLine->RcAt A s u1 u2 (D.eq d1 d2):=by
 intro n
 induction n with
 | zero =>
  intro d1 d2 v1 v2 u1 u2 A hd h1 h2 r1 r2 hu
  refine Y1z (Q4r I h1 r1) (Q4r I h2 r2) (by omega) ?_
  rintro (⟨p,q,rfl,rfl⟩ | ⟨p,q,rfl,rfl⟩) <;> unfold D.depth at hd <;> omega
 | succ n ih =>
  intro d1 d2 v1 v2 u1 u2 A hd h1 h2 r1 r2 hu
  have w1:=Q4r I h1 r1
  have w2:=Q4r I h2 r2
  by_cases hb:Q2v d1 d2
  ·obtain⟨p,q,rfl,rfl⟩ | ⟨p,q,rfl,rfl⟩:=hb
   ·cases w1;cases w2
    rename_i a1 fK eL fO gH eS a2 ga bZ dZ eE cH
    have hd:D.depths p+1<=n+1:=by unfold D.depth at hd;exact hd
    have l1:eL.toArray.size=p.length:=by have:=eS.length;have:=fO.length;simp;omega
    have l2:bZ.toArray.size=q.length:=by have:=cH.length;have:=dZ.length;simp;omega
    have k:=RcAt.tuples (A:=A) (s:=s) (e:=fun i=>match p[i]?,q[i]? with | some x,some y=>D.eq x y | _,_=>true) gH eE (by omega) (fun j iX gq=>by
     obtain⟨d1,v1,e1,i1,w1⟩:=Q1u eS fO iX
     obtain⟨d2,v2,e2,i2,w2⟩:=Q1u cH dZ gq
     simp only [e1,e2]
     exact Q7o I (fun A=>ih d1 d2 v1 v2 _ _ A (by have:=D.depths_get e1;omega) i1.w i2.w w1 w2) i1 i2 w1 w2 (by simp only [cW];omega))
    rw [l1,l2]at k
    unfold D.eq;rw [D.eqs_range];exact k
   ·cases w1;cases w2
    rename_i a1 fK eL fO gH eS a2 ga bZ dZ eE cH
    have hd:D.depths p+1<=n+1:=by unfold D.depth at hd;exact hd
    have l1:eL.toArray.size=p.length:=by have:=eS.length;have:=fO.length;simp;omega
    have l2:bZ.toArray.size=q.length:=by have:=cH.length;have:=dZ.length;simp;omega
    have kk:RcAt A s (.ref a1) (.ref a2) (D.eqs p q):=by
     rw [D.eqs_range]
     by_cases bI:p.length=q.length
     ·have k:=RcAt.lists (A:=A) (s:=s) (e:=fun i=>match p[i]?,q[i]? with | some x,some y=>D.eq x y | _,_=>true) gH eE (by omega) (by omega) (fun j iX gq=>by
       obtain⟨d1,v1,e1,i1,w1⟩:=Q1u eS fO iX
       obtain⟨d2,v2,e2,i2,w2⟩:=Q1u cH dZ gq
       simp only [e1,e2]
       exact Q7o I (fun A=>ih d1 d2 v1 v2 _ _ A (by have:=D.depths_get e1;omega) i1.w i2.w w1 w2) i1 i2 w1 w2 (by simp only [cW];omega))
      rw [l1]at k
      rw [<- bI,Nat.min_self,beq_self_eq_true,Bool.and_true]
      exact k
     ·rw [bO.mpr bI,Bool.and_false]
      exact RcAt.lists_lengths gH eE (by rw [l1,l2];simpa using bI) (by omega)
    unfold D.eq;exact kk
  ·exact Y1z w1 w2 (by omega) hb
end
end TK
end
section
namespace HT
open PySem PyProof.Rows
section
variable {prog:Program}{w:World}{A:Around}{E:VS9}{s:Shared}
theorem cat_tup0 {t b:Addr}{vs ws:List Value}{Q:VS9} (ht:IsTup s.heap t vs.toArray) (hb:IsTup s.heap b ws.toArray) (hv:vs=[]) (h1:Q (.ref b) s):wpAny (model prog w) A (binaryOp .Add (.ref t) (.ref b)) Q E s:=by
 obtain⟨⟨cls,dd,data,sl⟩,ho,hc,n,hd⟩:=id ht
 obtain⟨⟨mw,kF,data2,ki⟩,gN,jM,n2,jI⟩:=id hb
 simp only at hc hd jM jI
 subst hc hd jM jI
 exact concat_meets ⟨_,ho,rfl⟩ ⟨_,gN,rfl⟩ noFill_tuple_add seq_tuple_add PySem.F.slot_tuple_add PySem.F.entry_tuple_add (PySem.F.args_tuple_add_2 _ _)
  (tuple_addW0 t b vs.toArray ws.toArray n n2 dd kF sl ki (by simp [hv])) ⟨ho,gN,h1⟩
end
end HT
namespace TK
open PySem PySem.Spec PyProof.Rows L2
section
variable {X:Cx}
noncomputable def N3 (C:Int->Int->Prop) (f:Int->Int->Int):R->R->(R->Prop)->Prop
 | .st (.int i),.st (.int j),Q=>C i j/\Q (.st (.int (f i j)))
 | _,_,_=>False
theorem Z1v {C:Int->Int->Prop}{f:Int->Int->Int}{x y:R}{Q:R->Prop} (h:N3 C f x y Q):∃i j,x=.st (.int i)/\y=.st (.int j)/\C i j/\Q (.st (.int (f i j))):=by
 unfold N3 at h
 split at h
 ·exact⟨_,_,rfl,rfl,h.1,h.2⟩
 ·exact h.elim
theorem X7 {C:Int->Int->Prop}{f:Int->Int->Int}:Y7 (N3 C f):=fun x y P Q g h=>by
 obtain⟨i,j,rfl,rfl,c,q⟩:=Z1v h
 exact⟨c,g _ q⟩
theorem OpD.ints {F:Value->Value->Sem Value}{C:Int->Int->Prop}{f:Int->Int->Int} (h:N6 X F (rI C fun i j=>.int (f i j))):OpD X F (N3 C f):=by
 intro ae s σ H x y v u Q I rx ry ⟨r1,r2,h1,h2,hg⟩
 obtain⟨i,j,rfl,rfl,c,q⟩:=Z1v hg
 exact h ae s σ H x y v u Q I rx ry ⟨i,j,h1,h2,c,q _ _ (A5.refl H) X8⟩
theorem OpD.ints0 {F:Value->Value->Sem Value}{f:Int->Int->Int} (h:N6 X F (rI0 fun i j=>.int (f i j))):OpD X F (N3 (fun _ _=>True) f):=by
 intro ae s σ H x y v u Q I rx ry ⟨r1,r2,h1,h2,hg⟩
 obtain⟨i,j,rfl,rfl,c,q⟩:=Z1v hg
 exact h ae s σ H x y v u Q I rx ry ⟨i,j,h1,h2,q _ _ (A5.refl H) X8⟩
noncomputable abbrev NoC:Int->Int->Prop:=fun _ _=>True
theorem W1k:OpD X (binaryOp .Sub) (N3 NoC fun i j=>i-j):=OpD.ints0 W1x
theorem Q8o:OpD X (binaryOp .FloorDiv) (N3 Q0m fun i j=>i / j):=OpD.ints W1q
theorem Q4j:OpD X (binaryOp .Mod) (N3 (fun _ j=>0<j) fun i j=>i % j):=OpD.ints W1u
noncomputable def lsM:R->Option (List D)
 | .nw ds=>some ds
 | .bw ds=>some ds
 | _=>none
noncomputable def Q0r:R->Option (List D)
 | .nw ds=>some ds
 | .bw ds=>some ds
 | .st (.lst ds)=>some ds
 | _=>none
theorem Z9z {K:Fg9}{H0 H:Hp}:∀{r:R}{ds:List D}{v:V},lsM r=some ds->E4 K H0 H r v->∃a xs,v=.ref a/\H a=some (.lst xs)/\AllS K H ds xs
 | .nw ds,_,v,e,h=>by cases e;obtain⟨a,xs,e,n,q,t⟩:=h;exact⟨a,xs,e,q,t⟩
 | .bw ds,_,v,e,h=>by cases e;obtain⟨a,xs,e,q,t⟩:=h;exact⟨a,xs,e,q,t⟩
 | .st _,_,_,e,_=>by cases e
 | .dk _,_,_,e,_=>by cases e
 | .dt _,_,_,e,_=>by cases e
 | .ob _,_,_,e,_=>by cases e
 | .cl _ _,_,_,e,_=>by cases e
 | .ms _ _ _ _,_,_,e,_=>by cases e
theorem Q8c {K:Fg9}{H0 H:Hp}:∀{r:R}{ds:List D}{v:V},Q0r r=some ds->E4 K H0 H r v->∃a xs,v=.ref a/\E3 K H a xs/\AllS K H ds xs
 | .nw ds,_,v,e,h=>by cases e;obtain⟨a,xs,e,n,q,t⟩:=h;exact⟨a,xs,e,E3.of q,t⟩
 | .bw ds,_,v,e,h=>by cases e;obtain⟨a,xs,e,q,t⟩:=h;exact⟨a,xs,e,E3.of q,t⟩
 | .st (.lst ds),_,v,e,h=>by cases e;have h:A3 K H (.lst ds) v:=h;unfold A3 at h;obtain⟨a,xs,e,q,t⟩:=h;exact⟨a,xs,e,q.sq,t⟩
 | .st .non,_,_,e,_=>by cases e
 | .st (.bl _),_,_,e,_=>by cases e
 | .st (.int _),_,_,e,_=>by cases e
 | .st (.str _),_,_,e,_=>by cases e
 | .st (.tup _),_,_,e,_=>by cases e
 | .dk _,_,_,e,_=>by cases e
 | .dt _,_,_,e,_=>by cases e
 | .ob _,_,_,e,_=>by cases e
 | .cl _ _,_,_,e,_=>by cases e
 | .ms _ _ _ _,_,_,e,_=>by cases e
def K5 (x y:R) (Q:R->Prop):Prop :=
 match x,y with
 | .st (.int i),.st (.int j)=>Q (.st (.int (i+j)))
 | .st (.str i),.st (.str j)=>i.length+j.length<=sizeLine/\Q (.st (.str (i++j)))
 | .st (.tup i),.st (.tup j)=>i.length+j.length<=sizeLine/\Q (.st (.tup (i++j)))
 | .nw i,.nw j=>i.length+j.length<=sizeLine/\Q (.nw (i++j))
 | .nw i,.bw j=>i.length+j.length<=sizeLine/\Q (.nw (i++j))
 | .bw i,.nw j=>i.length+j.length<=sizeLine/\Q (.nw (i++j))
 | .bw i,.bw j=>i.length+j.length<=sizeLine/\Q (.nw (i++j))
 | _,_=>False
theorem V5:Y7 K5:=fun x y P Q g h=>by
 unfold K5 at h ⊢
 split at h <;> first | exact g _ h | exact⟨h.1,g _ h.2⟩ | exact⟨h.1,h.2.1,g _ h.2.2⟩ | exact h
theorem Q7i {ae:Pn9}{s:Shared} {σ:St}{H:Hp}{x y:V}{v u:Value}{Q:VK} (I:A1 X ae σ H s) (rx:B7 x v) (ry:B7 y u) {r1 r2:R}{i j:List D} (e1:lsM r1=some i) (e2:lsM r2=some j)
  (h1:IsV X.K H r1 x) (h2:IsV X.K H r2 y) (hz:i.length+j.length<=sizeLine) (q:∀v H',A5 H H'->E4 X.K H H' (.nw (i++j)) v->Q v H'):wpAny (model X.prog X.w) X.A (binaryOp .Add v u) (EP X ae σ Q) X.xe s:=by
 obtain⟨a,xs,rfl,qa,fF⟩:=Z9z e1 h1
 obtain⟨b,ys,rfl,qb,ji⟩:=Z9z e2 h2
 refine W1o ae s σ H _ _ v u Q I rx ry ⟨a,b,xs,ys,rfl,rfl,qa,qb,by rw [<- fF.length,<- ji.length];exact hz,fun p hp=>?_⟩
 have k:=Kp.of (G0 hp (.lst (xs++ys)))
 exact q _ _ (G0 hp _) ⟨p,xs++ys,rfl,hp,upd_same,(fF.append ji).mono k _ _⟩
theorem W1:OpD X (binaryOp .Add) K5:=by
 intro ae s σ H x y v u Q I rx ry ⟨r1,r2,h1,h2,hg⟩
 unfold K5 at hg
 split at hg
 ·exact W1m ae s σ H x y v u Q I rx ry ⟨_,_,h1,h2,hg _ _ (A5.refl H) X8⟩
 ·exact W1n ae s σ H x y v u Q I rx ry ⟨_,_,h1,h2,hg.1,hg.2 _ _ (A5.refl H) Z9o⟩
 ·rename_i i j
  have h1:A3 X.K H (.tup i) x:=h1
  have h2:A3 X.K H (.tup j) y:=h2
  unfold A3 at h1 h2
  obtain⟨a,xs,rfl,qa,fF⟩:=h1
  obtain⟨b,ys,rfl,qb,ji⟩:=h2
  have la:=fF.length
  have lb:=ji.length
  by_cases hx:xs=[]
  ·have zi:i=[]:=fI.mp (by rw [la,hx];rfl)
   subst zi
   cases rx
   cases ry
   obtain⟨aV,r1,p1,_⟩:=I.tuple (C6.of (K:=X.K) qa)
   obtain⟨bZ,r2,p2,_⟩:=I.tuple (C6.of (K:=X.K) qb)
   exact HT.cat_tup0 p1 p2 (r1.nil_iff.mpr hx) ⟨.ref b,H,I,rfl,hg.2 _ _ (A5.refl H) (A3.s_tup (K:=X.K) (H:=H) qb ji)⟩
  refine W1p ae s σ H _ _ v u Q I rx ry ⟨a,b,xs,ys,rfl,rfl,C6.of qa,C6.of qb,hx,by omega,fun z=>?_,fun z p hp=>?_⟩
  ·have zj:j=[]:=fI.mp (by rw [lb,z];rfl)
   subst zj
   rw [b7]at hg
   exact hg.2 _ _ (A5.refl H) (A3.s_tup (K:=X.K) (H:=H) qa fF)
  ·exact hg.2 _ _ (G0 hp _) (A3.s_tup (K:=X.K) upd_same ((fF.append ji).mono (Kp.of (G0 hp _)) _ _))
 ·exact Q7i I rx ry rfl rfl h1 h2 hg.1 hg.2
 ·exact Q7i I rx ry rfl rfl h1 h2 hg.1 hg.2
 ·exact Q7i I rx ry rfl rfl h1 h2 hg.1 hg.2
 ·exact Q7i I rx ry rfl rfl h1 h2 hg.1 hg.2
 ·exact hg.elim
def X0 (x y:R) (Q:R->Prop):Prop :=
 match x,y with
 | .st (.int i),.st (.int j)=>Q1q i j/\Q (.st (.int (i*j)))
 | .nw ds,.st (.int k)=>-(2 ^ 63)<=k/\k<2 ^ 63/\ds.length*k.toNat<=sizeLine/\Q (.nw (List.replicate k.toNat ds).flatten)
 | _,_=>False
theorem Q3c:Y7 X0:=fun x y P Q g h=>by
 unfold X0 at h ⊢
 split at h <;> first | exact⟨h.1,g _ h.2⟩ | exact⟨h.1,h.2.1,h.2.2.1,g _ h.2.2.2⟩ | exact h
theorem AllS.rep {K:Fg9}{H:Hp}{ds:List D}{vs:List V} (h:AllS K H ds vs):∀k:Nat,AllS K H (List.replicate k ds).flatten (List.replicate k vs).flatten
 | 0=>AllS.nil
 | k+1=>by rw [bA,bA,ck,ck];exact h.append (AllS.rep h k)
theorem Q3d:OpD X (binaryOp .Mult) X0:=by
 intro ae s σ H x y v u Q I rx ry ⟨r1,r2,h1,h2,hg⟩
 unfold X0 at hg
 split at hg
 ·exact W1v ae s σ H x y v u Q I rx ry ⟨_,_,h1,h2,hg.1,hg.2 _ _ (A5.refl H) X8⟩
 ·obtain⟨a,xs,rfl,_,qa,fF⟩:=h1
  refine W1w ae s σ H _ y v u Q I rx ry ⟨a,_,xs,rfl,h2,qa,hg.1,hg.2.1,by rw [<- fF.length];exact hg.2.2.1,fun p hp=>?_⟩
  exact hg.2.2.2 _ _ (G0 hp _) ⟨p,_,rfl,hp,upd_same,(fF.rep _).mono (Kp.of (G0 hp _)) _ _⟩
 ·exact hg.elim
noncomputable def T8 (f:Int->Int->Bool):R->R->(Bool->Prop)->Prop
 | .st (.int i),.st (.int j),Q=>Q (f i j)
 | _,_,_=>False
theorem Z8e {f:Int->Int->Bool}{x y:R}{Q:Bool->Prop} (h:T8 f x y Q):∃i j,x=.st (.int i)/\y=.st (.int j)/\Q (f i j):=by
 unfold T8 at h
 split at h
 ·exact⟨_,_,rfl,rfl,h⟩
 ·exact h.elim
theorem Q5m {f:Int->Int->Bool}:Y7 (T8 f):=fun x y P Q g h=>by
 obtain⟨i,j,rfl,rfl,q⟩:=Z8e h
 exact g _ q
theorem Z9.ints {op:CmpOp}{f:Int->Int->Bool} (h:N6 X (compareOp op) (rI0 fun i j=>.bl (f i j))):Z9 X op (T8 f):=by
 intro ae s σ H x y v u Q I rx ry ⟨r1,r2,h1,h2,hg⟩
 obtain⟨i,j,rfl,rfl,q⟩:=Z8e hg
 exact h ae s σ H x y v u Q I rx ry ⟨i,j,h1,h2,q⟩
theorem Q7k:Z9 X .Lt (T8 fun i j=>decide (i<j)):=Z9.ints W1t
theorem Y7b:Z9 X .GtE (T8 fun i j=>decide (j<=i)):=Z9.ints W1r
def E9 (n:Nat) (neg:Bool) (x y:R) (Q:Bool->Prop):Prop:=∃d e,x.d=some d/\y.d=some e/\d.depth<=n/\Q (if neg then !D.eq d e else D.eq d e)
theorem Q0 {n:Nat}{neg:Bool}:Y7 (E9 n neg):=fun x y P Q g ⟨d,e,h1,h2,h3,q⟩=>⟨d,e,h1,h2,h3,g _ q⟩
theorem Q7j {n:Nat} (hu:X.A.units+n<cLine):Z9 X .Eq (E9 n false):=by
 intro ae s σ H x y v u Q I rx ry ⟨r1,r2,h1,h2,d,e,e1,e2,hd,q⟩
 exact Z3k I n d e x y v u X.A hd (h1.w e1) (h2.w e2) rx ry hu _ _ _ _ ⟨.bl _,H,I,rfl,q⟩
end
end TK
end
section
namespace TK
open PySem PySem.Spec PyProof.Rows L2
section
variable {X:Cx}
def Q5q (neg:Bool) (x y:R) (Q:Bool->Prop):Prop:=∃d,x.d=some d/\y=.st .non/\Q (match d with | .non=>!neg | _=>neg)
theorem Y8p {neg:Bool}:Y7 (Q5q neg):=fun x y P Q g ⟨d,h1,h2,q⟩=>⟨d,h1,h2,g _ q⟩
theorem Y8s {K:Fg9}{H:Hp}:∀{d:D}{v:V},IsW K H d v->decide (v=.non)=(match d with | .non=>true | _=>false)
 | .non,v,h=>by cases (show v=.non from h);rfl
 | .bl b,v,h=>by cases (show v=.bl b from h);rfl
 | .int b,v,h=>by cases (show v=.int b from h);rfl
 | .str b,v,h=>by cases (show v=.str b from h);rfl
 | .tup ds,v,h=>by have h:A3 K H (.tup ds) v:=h;unfold A3 at h;obtain⟨a,_,rfl,_⟩:=h;rfl
 | .lst ds,v,h=>by obtain⟨a,_,rfl,_⟩:=h;rfl
theorem Y7c:Z9 X .Is (Q5q false):=by
 intro ae s σ H x y v u Q I rx ry ⟨r1,r2,h1,h2,d,e1,e2,q⟩
 subst e2
 refine W1s ae s σ H x y v u Q I rx ry ⟨h2,?_⟩
 rw [Y8s (h1.w e1)]
 cases d <;> exact q
theorem Q5h {K:Fg9}{H:Hp}{ds:List D}{xs:List V} (al:AllS K H ds xs) {i:Int}{d:D} (h:K6 ds i=some d):∃v,K6 xs i=some v/\A3 K H d v:=by
 unfold K6 at h ⊢
 rw [<- al.length]
 cases e:ixN ds.length i with
 | none=>rw [e]at h;cases h
 | some j =>
  rw [e]at h
  obtain⟨v,hv,q⟩:=al.get (i:=j) h
  exact⟨v,hv,q⟩
def F1 (x y:R) (Q:R->Prop):Prop:=match x,y with
 | .st (.lst ds),.st (.int i)=>∃d,K6 ds i=some d/\Q (.st d)
 | .nw ds,.st (.int i)=>∃d,K6 ds i=some d/\Q (.st d)
 | .bw ds,.st (.int i)=>∃d,K6 ds i=some d/\Q (.st d)
 | .st (.tup ds),.st (.int i)=>∃d,K6 ds i=some d/\Q (.st d)
 | .st (.str z),.st (.int i)=>z.length<=sizeLine/\∃c,K6 z.cps.toList i=some c/\Q (.st (.str ⟨#[c]⟩))
 | _,_=>False
theorem Y8t:Y7 F1:=fun x y P Q g h=>by
 unfold F1 at h ⊢
 split at h
 case h_6=>exact h
 case h_5=>obtain⟨z,c,h1,h2⟩:=h;exact⟨z,c,h1,g _ h2⟩
 all_goals (obtain⟨d,h1,h2⟩:=h;exact⟨d,h1,g _ h2⟩)
variable {H0:Hp}{a b c e:Expr}{pos:Pos}{wa wb wc we:WE}
theorem DE.ix (ha:DE X H0 a wa) (hb:DE X H0 b wb) (hs:Q3r b):DE X H0 (.Subscript a b pos) (A7 F1 wa wb) where
 mono:=fun τ P Q f h=>ha.mono τ _ _ (fun x h=>hb.mono τ _ _ (fun y h=>Y8t x y P Q f h) h) h
 pe:=O1 (Q6e Y8v ha.pe hb.pe hs) fun σ H Q ⟨τ,hR,h⟩=>two ha hb hR h fun x y v u H' sm rx ry q=>by
  unfold F1 at q
  split at q
  ·have rx:A3 X.K H' _ v:=rx
   unfold A3 at rx
   obtain⟨p,xs,rfl,sq,al⟩:=rx
   obtain⟨d,hd,q⟩:=q
   obtain⟨z,hz,iz⟩:=Q5h al hd
   exact .inl ⟨p,xs,_,z,rfl,ry,sq.sq,hz,q z H' sm iz⟩
  ·obtain⟨p,xs,rfl,_,sq,al⟩:=rx
   obtain⟨d,hd,q⟩:=q
   obtain⟨z,hz,iz⟩:=Q5h al hd
   exact .inl ⟨p,xs,_,z,rfl,ry,E3.of sq,hz,q z H' sm iz⟩
  ·obtain⟨p,xs,rfl,sq,al⟩:=rx
   obtain⟨d,hd,q⟩:=q
   obtain⟨z,hz,iz⟩:=Q5h al hd
   exact .inl ⟨p,xs,_,z,rfl,ry,E3.of sq,hz,q z H' sm iz⟩
  ·have rx:A3 X.K H' _ v:=rx
   unfold A3 at rx
   obtain⟨p,xs,rfl,sq,al⟩:=rx
   obtain⟨d,hd,q⟩:=q
   obtain⟨z,hz,iz⟩:=Q5h al hd
   exact .inr (.inl ⟨p,xs,_,z,rfl,ry,C6.of sq,hz,q z H' sm iz⟩)
  ·obtain⟨z,c,h1,q⟩:=q
   exact .inr (.inr ⟨_,_,c,rx,ry,z,h1,q _ H' sm Z9o⟩)
  ·exact q.elim
def Q2q (X:Cx) (f:Value) (g:List R->(R->Prop)->Prop):Prop :=
 Q2r X f (fun xs H Q=>∃rs,N1 X.K (fun _=>none) H rs xs/\g rs fun r=>∀v H',A5 H H'->E4 X.K H H' r v->Q v H')
def Q2u (g:List R->(R->Prop)->Prop):Prop:=∀x (P Q:R->Prop),(∀r,P r->Q r)->g x P->g x Q
variable {es:List Expr}{wr:WA}{x:Str}{p:Pos}{id T:String}{g:List R->(R->Prop)->Prop}
def C3 (g:List R->(R->Prop)->Prop) (wr:WA):WE:=fun τ Q=>wr τ fun rs=>g rs Q
theorem DE.callB (hc:Q2q X (.builtin id) g) (mg:Q2u g) (hg:Gl X x) (hm:X.mg x=none) (hv:bootBuiltins x=some (.builtin id)) (ha:DA X H0 (e::es) wr) (hn:x≠"__name__":=by decide) (dm:(x==("__debug__":Str))=false:=by decide)
  (he:starEach (e::es) X.env=(false,eval e X.env)::starEach es X.env:=by rfl) (hpl:(backTo pos (starEach es X.env)).any (·.1)=false:=by rfl):DE X H0 (.Call (.Name x p) (e::es) [] pos) (C3 g wr) where
 mono:=fun τ P Q f h=>ha.mono τ _ _ (fun rs h=>mg rs P Q f h) h
 pe:=O1 (Z3d hc hg hm hv ha.pa hn dm he hpl) fun σ H Q ⟨τ,hR,h⟩=>⟨τ,hR,ha.mono τ _ _ (fun rs h vs H1 s1 cx=>⟨rs,cx.v,mg rs _ _ (fun r h v H' s2 ir=>h v H' (s1.trans s2) (ir.older s1)) h⟩) h⟩
theorem DE.callTy (hc:Q2q X (.type T) g) (mg:Q2u g) (hg:Gl X x) (hm:X.mg x=none) (hv:bootBuiltins x=some (.type T)) (ha:DA X H0 (e::es) wr) (hn:x≠"__name__":=by decide) (dm:(x==("__debug__":Str))=false:=by decide)
  (he:starEach (e::es) X.env=(false,eval e X.env)::starEach es X.env:=by rfl) (hpl:(backTo pos (starEach es X.env)).any (·.1)=false:=by rfl):DE X H0 (.Call (.Name x p) (e::es) [] pos) (C3 g wr) where
 mono:=fun τ P Q f h=>ha.mono τ _ _ (fun rs h=>mg rs P Q f h) h
 pe:=O1 (W2e hc hg hm hv ha.pa hn dm he hpl) fun σ H Q ⟨τ,hR,h⟩=>⟨τ,hR,ha.mono τ _ _ (fun rs h vs H1 s1 cx=>⟨rs,cx.v,mg rs _ _ (fun r h v H' s2 ir=>h v H' (s1.trans s2) (ir.older s1)) h⟩) h⟩
theorem Q0a {K:Fg9}{H0 H:Hp}{r:R}{vs:List V} (h:N1 K H0 H [r] vs):∃v,vs=[v]/\E4 K H0 H r v:=by
 obtain⟨v,t,rfl,q,z⟩:=h
 cases (show t=[]from z)
 exact⟨v,rfl,q⟩
noncomputable def Z2d:R->(Nat->Prop)->Prop
 | .st (.str z),Q=>z.length<=sizeLine/\Q z.length
 | .st (.tup ds),Q=>Q ds.length
 | .st (.lst ds),Q=>Q ds.length
 | .nw ds,Q=>Q ds.length
 | .bw ds,Q=>Q ds.length
 | _,_=>False
noncomputable def F2:List R->(R->Prop)->Prop
 | [r],Q=>Z2d r fun n=>Q (.st (.int n))
 | _,_=>False
theorem Y9o:Q2u F2:=fun x P Q g h=>by
 unfold F2 at h ⊢
 split at h
 ·unfold Z2d at h ⊢
  split at h <;> first | exact g _ h | exact⟨h.1,g _ h.2⟩ | exact h
 ·exact h
theorem Y6t:Q2q X (.builtin "len") F2:=by
 intro ae s σ H xs us Q I rv ⟨rs,cx,h⟩
 unfold F2 at h
 split at h
 ·obtain⟨v,rfl,ir⟩:=Q0a cx
  unfold Z2d at h
  split at h
  ·cases (show v=.str _ from ir)
   exact Q5l ae s σ H _ us Q I rv ⟨_,_,rfl,⟨h.1,rfl⟩,h.2 _ _ (A5.refl H) X8⟩
  ·have ir:A3 X.K H _ v:=ir
   unfold A3 at ir
   obtain⟨p,xs,rfl,sq,al⟩:=ir
   exact Q5l ae s σ H _ us Q I rv ⟨_,_,rfl,.inr ⟨xs,C6.of sq,rfl⟩,by rw [<- al.length];exact h _ _ (A5.refl H) X8⟩
  ·have ir:A3 X.K H _ v:=ir
   unfold A3 at ir
   obtain⟨p,xs,rfl,sq,al⟩:=ir
   exact Q5l ae s σ H _ us Q I rv ⟨_,_,rfl,.inl ⟨xs,sq.sq,rfl⟩,by rw [<- al.length];exact h _ _ (A5.refl H) X8⟩
  ·obtain⟨p,xs,rfl,_,sq,al⟩:=ir
   exact Q5l ae s σ H _ us Q I rv ⟨_,_,rfl,.inl ⟨xs,E3.of sq,rfl⟩,by rw [<- al.length];exact h _ _ (A5.refl H) X8⟩
  ·obtain⟨p,xs,rfl,sq,al⟩:=ir
   exact Q5l ae s σ H _ us Q I rv ⟨_,_,rfl,.inl ⟨xs,E3.of sq,rfl⟩,by rw [<- al.length];exact h _ _ (A5.refl H) X8⟩
  ·exact h.elim
 ·exact h.elim
noncomputable def Q6i:R->Option (List D)
 | .st (.tup ds)=>some ds
 | .st (.lst ds)=>some ds
 | .nw ds=>some ds
 | .bw ds=>some ds
 | _=>none
theorem W6i {K:Fg9}{H0 H:Hp}:∀{r:R}{ds:List D}{v:V},Q6i r=some ds->E4 K H0 H r v->∃a xs,v=.ref a/\(E3 K H a xs\/H a=some (.tup xs))/\AllS K H ds xs
 | .st (.tup ds),_,v,e,h=>by cases e;have h:A3 K H (.tup ds) v:=h;unfold A3 at h;obtain⟨a,xs,e,q,t⟩:=h;exact⟨a,xs,e,.inr q,t⟩
 | .st (.lst ds),_,v,e,h=>by cases e;have h:A3 K H (.lst ds) v:=h;unfold A3 at h;obtain⟨a,xs,e,q,t⟩:=h;exact⟨a,xs,e,.inl q.sq,t⟩
 | .nw ds,_,v,e,h=>by cases e;obtain⟨a,xs,e,n,q,t⟩:=h;exact⟨a,xs,e,.inl (E3.of q),t⟩
 | .bw ds,_,v,e,h=>by cases e;obtain⟨a,xs,e,q,t⟩:=h;exact⟨a,xs,e,.inl (E3.of q),t⟩
 | .st .non,_,_,e,_=>by cases e
 | .st (.bl _),_,_,e,_=>by cases e
 | .st (.int _),_,_,e,_=>by cases e
 | .st (.str _),_,_,e,_=>by cases e
 | .dk _,_,_,e,_=>by cases e
 | .dt _,_,_,e,_=>by cases e
 | .ob _,_,_,e,_=>by cases e
 | .cl _ _,_,_,e,_=>by cases e
 | .ms _ _ _ _,_,_,e,_=>by cases e
noncomputable def P7:List R->(R->Prop)->Prop
 | [r],Q=>∃ds,Q6i r=some ds/\Q (.st (.tup ds))
 | _,_=>False
theorem W7o:Q2u P7:=fun x P Q g h=>by
 unfold P7 at h ⊢
 split at h
 ·obtain⟨ds,e,q⟩:=h;exact⟨ds,e,g _ q⟩
 ·exact h
theorem Y6y:Q2q X (.type "tuple") P7:=by
 intro ae s σ H xs us Q I rv ⟨rs,cx,h⟩
 unfold P7 at h
 split at h
 ·obtain⟨v,rfl,ir⟩:=Q0a cx
  obtain⟨ds,e,q⟩:=h
  obtain⟨a,xs,rfl,sq,al⟩:=W6i e ir
  refine Y6z ae s σ H _ us Q I rv ⟨a,xs,rfl,?_⟩
  rcases sq with sq | sq
  ·exact .inl ⟨sq,fun l hl=>q _ _ (G0 hl _) (A3.s_tup (K:=X.K) upd_same (al.mono (Kp.of (G0 hl _)) _ _))⟩
  ·exact .inr ⟨C6.of sq,q _ _ (A5.refl H) (A3.s_tup (K:=X.K) (H:=H) sq al)⟩
 ·exact h.elim
end
noncomputable abbrev WG:=D->A8->(A8->Prop)->Prop
noncomputable def Y9q (K:Fg9) (H0:Hp) (g:WG):TG:=fun v σ H Q=>∃ τ d,B4 K H0 τ σ H/\A3 K H d v/\g d τ fun τ'=>∀ σ' H',A5 H H'->B4 K H0 τ' σ' H'->Q σ' H'
structure DG (X:Cx) (H0:Hp) (tg:Expr) (g:WG):Prop where
 mono:∀d τ (P Q:A8->Prop),(∀ τ,P τ->Q τ)->g d τ P->g d τ Q
 pg:PG X tg (Y9q X.K H0 g)
noncomputable abbrev WGs:=List D->A8->(A8->Prop)->Prop
noncomputable def Y9r (K:Fg9) (H0:Hp) (g:WGs):TGs:=fun vs σ H Q=>∃ τ ds,B4 K H0 τ σ H/\AllS K H ds vs/\g ds τ fun τ'=>∀ σ' H',A5 H H'->B4 K H0 τ' σ' H'->Q σ' H'
structure J3 (X:Cx) (H0:Hp) (tg:List Expr) (g:WGs):Prop where
 mono:∀d τ (P Q:A8->Prop),(∀ τ,P τ->Q τ)->g d τ P->g d τ Q
 pg:PGs X tg (Y9r X.K H0 g)
theorem pgW {X:Cx}{e:Expr}{t t':TG} (h:PG X e t) (f:∀v σ H Q,t' v σ H Q->t v σ H Q):PG X e t':=fun ae s σ H v u Q I r q=>h ae s σ H v u Q I r (f v σ H Q q)
theorem pgsW {X:Cx}{e:List Expr}{t t':TGs} (h:PGs X e t) (f:∀v σ H Q,t' v σ H Q->t v σ H Q):PGs X e t':=fun ae s σ H v u Q I r q=>h ae s σ H v u Q I r (f v σ H Q q)
section
variable {X:Cx}{H0:Hp}{a b c e iter tg:Expr}{pos:Pos}{wa wb we:WE}{es:List Expr}
def C0 (i:Nat):WG:=fun d τ Q=>Q (τ.set i (some (.dat d)))
theorem DG.nm {i:Nat}{x:Str} (hN:X.N.Nodup) (hi:X.N[i]?=some x) (hx:Loc X.env.scope x) (hf:X.fn x=true\/X.env.scope.names.lookup x=some .local:=by first | exact .inl rfl | exact .inr rfl | assumption):DG X H0 (.Name x pos) (C0 i) where
 mono:=fun d τ P Q f h=>f _ h
 pg:=pgW (Y1q hN hi hx hf) fun v σ H Q ⟨τ,d,hR,iv,h⟩=>h _ _ (A5.refl H) (hR.set iv fun m=>by cases m)
def gNl:WGs:=fun ds τ Q=>ds=[]/\Q τ
def G7 (g:WG) (gs:WGs):WGs:=fun ds τ Q=>∃d r,ds=d::r/\g d τ fun τ'=>gs r τ' Q
theorem J3.nil:J3 X H0 [] gNl where
 mono:=fun d τ P Q f h=>⟨h.1,f _ h.2⟩
 pg:=pgsW W2z fun vs σ H Q ⟨τ,ds,hR,al,h1,h2⟩=>by
  subst h1
  unfold AllS at al
  exact⟨al,h2 σ H (A5.refl H) hR⟩
theorem J3.cons {g:WG}{gs:WGs} (h1:DG X H0 e g) (h2:J3 X H0 es gs) (hs:(assignEach (e::es) X.env).map (·.2)=assign e X.env::(assignEach es X.env).map (·.2):=by rfl):J3 X H0 (e::es) (G7 g gs) where
 mono:=fun d τ P Q f ⟨x,r,e1,h⟩=>⟨x,r,e1,h1.mono x τ _ _ (fun τ' h=>h2.mono r τ' P Q f h) h⟩
 pg:=pgsW (W2y h1.pg h2.pg hs) fun vs σ H Q ⟨τ,ds,hR,al,d,r,e1,h⟩=>by
  subst e1
  unfold AllS at al
  obtain⟨v,t,rfl,iv,al⟩:=al
  exact⟨v,t,rfl,τ,d,hR,iv,h1.mono d τ _ _ (fun τ' h σ' H' sm cM=>⟨τ',r,cM,al.mono (Kp.of sm) _ _,h2.mono r τ' _ _ (fun τ2 h σ2 H2 s2 cC=>h σ2 H2 (sm.trans s2) cC) h⟩) h⟩
def gTp (n:Nat) (gs:WGs):WG:=fun d τ Q=>∃ds,d=.tup ds/\ds.length=n/\gs ds τ Q
theorem DG.tp {k n:Nat}{gs:WGs} (hc:X.calm=true) (h:J3 X H0 es gs) (hn:(assignEach es X.env).length=n:=by rfl) (lr:(assignEach es X.env).findIdx? (·.1)=none:=by rfl):DG X H0 (.Tuple es k pos) (gTp n gs) where
 mono:=fun d τ P Q f ⟨ds,e1,e2,q⟩=>⟨ds,e1,e2,h.mono ds τ P Q f q⟩
 pg:=pgW (W2x hc h.pg hn lr) fun v σ H Q ⟨τ,d,hR,iv,ds,e1,e2,q⟩=>by
  subst e1
  unfold A3 at iv
  obtain⟨p,xs,rfl,sq,al⟩:=iv
  exact⟨p,xs,rfl,C6.of sq,by rw [<- al.length];exact e2,τ,ds,hR,al,q⟩
theorem DS.asg {g:WG} (he:DE X H0 e we) (hg:DG X H0 tg g) (hs:swapsWithSole [tg] e pos.line X.env=pure false:=by rfl) (hw:swappedStores [tg] e X.env=pure none:=by rfl)
  (h1:(assignEach [tg] X.env).map (·.2)=[assign tg X.env]:=by rfl):DS X H0 (.Assign [tg] e pos) (fun E τ=>we τ fun r=>∃d,r=.st d/\g d τ E.nx) where
 mono:=fun τ E F le h=>he.mono τ _ _ (fun r ⟨d,e1,h⟩=>⟨d,e1,hg.mono d τ _ _ le.nx h⟩) h
 ps:=O2 (Z3i he.pe hg.pg hs hw h1) fun D σ H ⟨τ,hR,h⟩=>⟨τ,hR,he.mono τ _ _ (fun r ⟨d,e1,h⟩ v H1 s1 ir=>by
  subst e1
  exact⟨τ,d,hR.mono s1,ir,hg.mono d τ _ _ (fun τ' h σ' H' s2 cM=>h σ' H' (Kp.of (s1.trans s2)) cM) h⟩) h⟩
structure Yl (K:Fg9) (H0:Hp) (J:It) (ds:List D) (H:Hp):Prop where
 go:∀H',Kp H H'->A5 H0 H'->∀i,i<ds.length->J.go i H'
 yld:∀H',Kp H H'->A5 H0 H'->∀i x cT d,ds[i]?=some d->J.yld i H' x cT->A5 H' cT/\A3 K cT d x
 stop:∀H',Kp H H'->A5 H0 H'->J.stop ds.length H'
noncomputable abbrev WI:=A8->(List D->A8->Prop)->Prop
noncomputable def Y9s (K:Fg9) (H0:Hp) (wi:WI):TI:=fun σ H R=>∃ τ,B4 K H0 τ σ H/\wi τ fun ds τ'=>∀J H',Kp H H'->B4 K H0 τ' σ H'->Yl K H0 J ds H'->R J H'
structure DI (X:Cx) (H0:Hp) (tg iter:Expr) (wi:WI):Prop where
 mono:∀ τ (P Q:List D->A8->Prop),(∀ds τ,P ds τ->Q ds τ)->wi τ P->wi τ Q
 pi:PI X tg iter (Y9s X.K H0 wi)
theorem piW {X:Cx}{tg e:Expr}{t t':TI} (h:PI X tg e t) (f:∀ σ H Q,t' σ H Q->t σ H Q):PI X tg e t':=fun ae s σ H R I q=>h ae s σ H R I (f σ H R q)
theorem Y5f {K:Fg9}{H0 H:Hp}{a:Addr}{xs:List V}{ds:List D} (hq:∀H',Kp H H'->A5 H0 H'->E3 K H' a xs) (al:AllS K H ds xs):Yl K H0 (Itl K a) ds H where
 go:=fun H' k s i hi=>⟨xs,xs[i]'(by rw [<- al.length];exact hi),hq H' k s,ac _⟩
 yld:=fun H' k s i x cT d hd ⟨e,y⟩=>by
  subst e
  have hx:=y xs (hq _ k s)
  obtain⟨v,hv,q⟩:=(al.mono k _ _).get hd
  rw [hx]at hv;cases hv
  exact⟨A5.refl _,q⟩
 stop:=fun H' k s=>⟨xs,hq H' k s,by rw [al.length];exact ai _⟩
theorem DI.lst (he:DE X H0 e we):DI X H0 tg e (fun τ Q=>we τ fun r=>∃ds,r=.st (.lst ds)/\Q ds τ) where
 mono:=fun τ P Q f h=>he.mono τ _ _ (fun r ⟨ds,e1,q⟩=>⟨ds,e1,f _ _ q⟩) h
 pi:=piW (Z3h he.pe) fun σ H R ⟨τ,hR,h⟩=>⟨τ,hR,he.mono τ _ _ (fun r ⟨ds,e1,q⟩ v H1 s1 ir=>by
  subst e1
  have ir:A3 X.K H1 (.lst ds) v:=ir
  unfold A3 at ir
  obtain⟨a,xs,rfl,sq,al⟩:=ir
  exact⟨a,rfl,⟨xs,sq.sq⟩,q _ _ (Kp.of s1) (hR.mono s1) (Y5f (fun H' k _=>(k.fzL sq).sq) al)⟩) h⟩
theorem DI.bor {i:Nat} (he:PE X e (M0 i)):DI X H0 tg e (fun τ Q=>∃ds,τ[i]?=some (some (.bor ds))/\Q ds τ) where
 mono:=fun τ P Q f ⟨ds,e1,q⟩=>⟨ds,e1,f _ _ q⟩
 pi:=piW (Z3h he) fun σ H R ⟨τ,hR,ds,e1,q⟩=>by
  obtain⟨v,hv,a,xs,rfl,sq,al⟩:=hR.here i _ e1
  exact⟨_,hv,a,rfl,⟨xs,E3.of (hR.same _ _ sq)⟩,q _ _ (Kp.refl H) hR (Y5f (fun H' _ s=>E3.of (s _ _ sq)) al)⟩
theorem B4.freeze {K:Fg9}{H:Hp} {τ:A8} {σ:St}{i:Nat}{ds:List D}{a:Addr}{o:Obj}{xs:List V} (hR:B4 K H0 τ σ H) (e1:τ[i]?=some (some (.own ds))) (hv:σ[i]?=some (some (.ref a))) (h0:H0 a=none) (sq:H a=some (.lst xs)) (al:AllS K H ds xs) :
  B4 K H0 (τ.set i (some (.dat (.lst ds)))) σ (upd H a (.frz o (.lst xs))):=by
 have kp:Kp H (upd H a (.frz o (.lst xs))):=Kp.upd sq _
 have hl:i<τ.length:=by
  rcases bo i τ.length with h | h
  ·exact h
  ·rw [aC.mpr h]at e1;cases e1
 refine⟨by rw [bg];exact hR.len,fun b ob hb=>?_,fun j s e=>?_,fun j k s t v cj e2 e3 m1 m2 q1 q2=>?_⟩
 ·rw [A6 (V9 hb h0)];exact hR.same b ob hb
 ·by_cases hj:j=i
  ·subst hj
   rw [Q0c hl]at e;cases e
   exact⟨_,hv,A3.s_lst (K:=K) (.inl ⟨o,upd_same⟩) (al.mono kp _ _)⟩
  ·rw [aG (fun z=>hj z.symm)]at e
   obtain⟨v,q,r⟩:=hR.here j s e
   refine⟨v,q,?_⟩
   have ap:s.mut=true->v≠.ref a:=fun m z=>by
    subst z
    exact hR.apart i j _ s (.ref a) (fun z=>hj z.symm) e1 e rfl m hv q
   cases s with
   | dat d=>exact A3.mono kp _ _ r
   | own es=>obtain⟨b,ys,e,n,q,t⟩:=r;exact⟨b,ys,e,n,by rw [A6 (fun z=>ap rfl (by rw [e,z]))];exact q,t.mono kp _ _⟩
   | bor es=>obtain⟨b,ys,e,q,t⟩:=r;exact⟨b,ys,e,q,t.mono kp _ _⟩
   | bd es=>obtain⟨b,ys,e,q,t⟩:=r;exact⟨b,ys,e,q,t.mono kp _ _⟩
   | dk es=>obtain⟨b,ys,e,n,q,t⟩:=r;exact⟨b,ys,e,n,by rw [A6 (fun z=>ap rfl (by rw [e,z]))];exact q,t.mono kp _ _⟩
   | dt es=>obtain⟨b,ys,e,n,q,t⟩:=r;exact⟨b,ys,e,n,by rw [A6 (fun z=>ap rfl (by rw [e,z]))];exact q,t.mono kp _ _⟩
   | ob _=>exact r
   | cl _ _=>exact⟨r.1,r.2.2 _ _ kp r.2.1,r.2.2⟩
   | ll _ _=>exact⟨r.1,r.2.keep kp fun b φ q=>by rw [A6 (Y0 q sq (by intro z;cases z))];exact q⟩
   | ins _ _ _=>obtain⟨e,n,dx,ys,q,t⟩:=r;exact⟨e,n,dx,ys,by rw [A6 (fun z=>ap rfl (by rw [e,z]))];exact q,t.mono kp _ _⟩
 ·by_cases hj:j=i
  ·subst hj;rw [Q0c hl]at e2;cases e2;cases m1
  ·by_cases hk:k=i
   ·subst hk;rw [Q0c hl]at e3;cases e3;cases m2
   ·rw [aG (fun z=>hj z.symm)]at e2
    rw [aG (fun z=>hk z.symm)]at e3
    exact hR.apart j k s t v cj e2 e3 m1 m2 q1 q2
theorem DI.tup (he:DE X H0 e we):DI X H0 tg e (fun τ Q=>we τ fun r=>∃ds,r=.st (.tup ds)/\Q ds τ) where
 mono:=fun τ P Q f h=>he.mono τ _ _ (fun r ⟨ds,e1,q⟩=>⟨ds,e1,f _ _ q⟩) h
 pi:=piW (Y1t he.pe) fun σ H R ⟨τ,hR,h⟩=>⟨τ,hR,he.mono τ _ _ (fun r ⟨ds,e1,q⟩ v H1 s1 ir=>by
  subst e1
  have ir:A3 X.K H1 (.tup ds) v:=ir
  unfold A3 at ir
  obtain⟨a,xs,rfl,sq,al⟩:=ir
  refine⟨a,rfl,⟨xs,C6.of sq⟩,q _ _ (Kp.of s1) (hR.mono s1) ⟨fun H' k _ i hi=>⟨xs,xs[i]'(by rw [<- al.length];exact hi),C6.of (k.tup _ _ sq),ac _⟩,fun H' k _ i x cT d hd ⟨e,y⟩=>?_,fun H' k _=>⟨xs,C6.of (k.tup _ _ sq),by rw [al.length];exact ai _⟩⟩⟩
  subst e
  have hx:=y xs (C6.of (k.tup _ _ sq))
  obtain⟨v,hv,q⟩:=(al.mono k _ _).get hd
  rw [hx]at hv;cases hv
  exact⟨A5.refl _,q⟩) h⟩
noncomputable def Q3 (lo:Int) (n:Nat):List D:=(List.range n).map fun(i:Nat)=>.int (lo+(i:Int))
theorem Z0b {K:Fg9}{H0 H:Hp}{lo:Int}{n:Nat}:Yl K H0 (Itr lo n) (Q3 lo n) H where
 go:=fun H' _ _ i hi=>by
  have:i<n:=by simpa [Q3]using hi
  exact this
 yld:=fun H' _ _ i x cT d hd ⟨e,y⟩=>by
  subst e
  refine⟨A5.refl _,?_⟩
  unfold Q3 at hd
  rw [ah]at hd
  rcases bo i n with hi | hi
  ·rw [List.getElem?_range hi]at hd
   have e:D.int (lo+i)=d:=ay hd
   subst e y
   exact A3.s_int
  ·rw [aC.mpr (by simpa using hi)]at hd;cases hd
 stop:=fun H' _ _=>by
  show n<=(Q3 lo n).length
  simp [Q3]
variable {wr:WA}
theorem DI.rng1 {p:Pos} (hg:Gl X "range") (hm:X.mg "range"=none) (ha:DA X H0 [a] wr) (hs:starEach [a] X.env=[(false,eval a X.env)]:=by rfl) :
  DI X H0 tg (.Call (.Name "range" p) [a] [] pos) (fun τ Q=>wr τ fun rs=>∃j:Int,rs=[.st (.int j)]/\-(2 ^ 62)<=j/\j<2 ^ 62/\Q (Q3 0 j.toNat) τ) where
 mono:=fun τ P Q f h=>ha.mono τ _ _ (fun r ⟨j,e1,h1,h2,q⟩=>⟨j,e1,h1,h2,f _ _ q⟩) h
 pi:=piW (Y1s hg hm ha.pa hs) fun σ H R ⟨τ,hR,h⟩=>⟨τ,hR,ha.mono τ _ _ (fun r ⟨j,e1,h1,h2,q⟩ vs H1 s1 cx=>by
  subst e1
  obtain⟨v,rfl,ir⟩:=Q0a cx
  cases (show v=.int j from ir)
  exact⟨j,rfl,h1,h2,q _ _ (Kp.of s1) (hR.mono s1) Z0b⟩) h⟩
theorem Y6f {K:Fg9}{H0 H:Hp}{r r':R}{vs:List V} (h:N1 K H0 H [r,r'] vs):∃v u,vs=[v,u]/\E4 K H0 H r v/\E4 K H0 H r' u:=by
 obtain⟨v,t,rfl,q,z⟩:=h
 obtain⟨u,rfl,q'⟩:=Q0a z
 exact⟨v,u,rfl,q,q'⟩
noncomputable def F6 (g:WG) (wb:WS) (E:G8):List D->A8->Prop
 | [],τ=>E.nx τ
 | d::ds,τ=>g d τ fun τ'=>wb { E with nx:=F6 g wb E ds,ct:=F6 g wb E ds,bk:=E.nx } τ'
theorem Z1m {g:WG}{wb:WS} (hg:∀d τ (P Q:A8->Prop),(∀ τ,P τ->Q τ)->g d τ P->g d τ Q) (hb:∀(τ:A8) (E F:G8),E.Le F->wb E τ->wb F τ) {E F:G8} (le:E.Le F):∀(ds:List D) (τ:A8),F6 g wb E ds τ->F6 g wb F ds τ
 | [],τ,h=>le.nx τ h
 | d::ds,τ,h=>hg d τ _ _ (fun τ' h=>hb τ' { E with nx:=F6 g wb E ds,ct:=F6 g wb E ds,bk:=E.nx } { F with nx:=F6 g wb F ds,ct:=F6 g wb F ds,bk:=F.nx } ⟨fun τ h=>Z1m hg hb le ds τ h,le.rt,le.nx,fun τ h=>Z1m hg hb le ds τ h⟩ h) h
theorem DS.for {body:List Stmt}{wi:WI}{g:WG}{wb:WS} (hp:PassesOwn (model X.prog X.w) X.A X.env X.xe) (hc:X.calm=true) (hi:DI X H0 tg iter wi) (hg:DG X H0 tg g) (hb:A4 X H0 body wb)
  (hs:∀x,foldedSetIterable iter X.env x=pure x:=by intro _;rfl):DS X H0 (.For tg iter body [] pos) (fun E τ=>wi τ fun ds τ'=>F6 g wb E ds τ') where
 mono:=fun τ E F le h=>hi.mono τ _ _ (fun ds τ' h=>Z1m hg.mono hb.mono le ds τ' h) h
 ps:=O2 (W3e hp hc hi.pi hg.pg hb.ps hs) fun D σ H ⟨τ,hR,h⟩=>⟨τ,hR,hi.mono τ _ _ (fun ds τ' h J H1 k1 cD yl=>by
  refine⟨fun i m σ H2=>∃ τ,B4 X.K H0 τ σ H2/\Kp H1 H2/\i<=ds.length/\m=ds.length-i/\F6 g wb (M6 X.K H0 H D) (ds.drop i) τ,⟨ds.length,τ',cD,Kp.refl _,bD _,rfl,h⟩,?_⟩
  rintro i m σ2 H2 ⟨τ2,cC,k2,iZ,rfl,h2⟩
  by_cases bE:i<ds.length
  ·refine .inr ⟨yl.go H2 k2 cC.same i bE,fun σ' H'=>∃ τ,B4 X.K H0 τ σ' H'/\Kp H1 H'/\i+1<=ds.length/\F6 g wb (M6 X.K H0 H D) (ds.drop (i+1)) τ,fun σ' H' ⟨τ3,a3,b3,c3,d3⟩=>⟨ds.length-(i+1),by omega,τ3,a3,b3,c3,rfl,d3⟩,fun x H3 y=>?_⟩
   obtain⟨s3,ix⟩:=yl.yld H2 k2 cC.same i x H3 _ (ac bE) y
   rw [cw bE]at h2
   have k3:=k2.trans (Kp.of s3)
   refine⟨τ2,ds[i],cC.mono s3,ix,hg.mono _ _ _ _ (fun τ4 h4 σ4 H4 s4 gw=>⟨τ4,gw,?_⟩) h2⟩
   have k4:=k3.trans (Kp.of s4)
   have k5:=k1.trans k4
   exact hb.mono τ4 { M6 X.K H0 H D with nx:=F6 g wb (M6 X.K H0 H D) (ds.drop (i+1)),ct:=F6 g wb (M6 X.K H0 H D) (ds.drop (i+1)),bk:=(M6 X.K H0 H D).nx } _
    ⟨fun τ5 h5 σ5 H5 kk il=>⟨τ5,il,k4.trans kk,bE,h5⟩,fun _ h=>h,fun τ5 h5 σ5 H5 kk il=>h5 σ5 H5 (k5.trans kk) il,fun τ5 h5 σ5 H5 kk il=>⟨τ5,il,k4.trans kk,bE,h5⟩⟩ h4
  ·have e:i=ds.length:=by omega
   subst e
   rw [fJ]at h2
   exact .inl ⟨yl.stop H2 k2 cC.same,h2 σ2 H2 (k1.trans k2) cC⟩) h⟩
end
noncomputable def R8 (env:Env):List (Str×NameKind)->List (Str×Addr)->List (Str×Addr)
 | [],c7=>c7
 | (n,k)::r,c7=>R8 env r (if (k==NameKind.free)=true then(n,(env.cells.lookup n).getD 0)::c7 else c7)
theorem Q7l {scope:Scope}{env:Env} (h:∀y∈scope.names,y.2=.free->∃c,env.cells.lookup y.1=some c):closureFor scope env=pure (R8 env scope.names []):=by
 have key:∀(l:List (Str×NameKind)) (c7:List (Str×Addr)),(∀y∈l,y.2=.free->∃c,env.cells.lookup y.1=some c) ->
   (forIn l c7 fun x r=>(if (x.2==NameKind.free)=true then cellOf env x.1>>=fun c=>pure (ForInStep.yield ((x.1,c)::r))else pure (ForInStep.yield r):Sem (ForInStep (List (Str×Addr)))))=pure (R8 env l c7):=by
  intro l
  induction l with
  | nil=>intro c7 _;rfl
  | cons x r ih =>
   intro c7 hl
   obtain⟨n,k⟩:=x
   have hr:∀y∈r,y.2=.free->∃c,env.cells.lookup y.1=some c:=fun y hy=>hl y (ax _ hy)
   rw [bN]
   by_cases hk:(k==NameKind.free)=true
   ·obtain⟨c,hc⟩:=hl (n,k) aA (eq_of_beq hk)
    have hc:env.cells.lookup n=some c:=hc
    have e:cellOf env n=pure c:=by unfold cellOf;rw [hc]
    show((if (k==NameKind.free)=true then cellOf env n>>=fun c=>pure (ForInStep.yield ((n,c)::c7))else pure (ForInStep.yield c7))>>=_)=_
    rw [aM hk,e]
    show _=pure (R8 env r (if (k==NameKind.free)=true then(n,(env.cells.lookup n).getD 0)::c7 else c7))
    rw [aM hk,hc]
    exact ih _ hr
   ·show((if (k==NameKind.free)=true then cellOf env n>>=fun c=>pure (ForInStep.yield ((n,c)::c7))else pure (ForInStep.yield c7))>>=_)=_
    rw [aI hk]
    show _=pure (R8 env r (if (k==NameKind.free)=true then(n,(env.cells.lookup n).getD 0)::c7 else c7))
    rw [aI hk]
    exact ih _ hr
 simp only [closureFor]
 rw [key scope.names [] h]
 rfl
theorem Z8d {env:Env}:∀(l:List (Str×NameKind)) (c7:List (Str×Addr)) (p:Str×Addr),p∈R8 env l c7->p∈c7\/((p.1,NameKind.free)∈l/\p.2=(env.cells.lookup p.1).getD 0)
 | [],c7,p,h=>.inl h
 | (n,k)::r,c7,p,h=>by
  rcases Z8d r _ p h with q | ⟨q1,q2⟩
  ·by_cases hk:(k==NameKind.free)=true
   ·rw [aM hk]at q
    rcases ao.mp q with q | q
    ·refine .inr ⟨?_,by rw [q]⟩
     have:k=NameKind.free:=eq_of_beq hk
     rw [q,this];exact aA
    ·exact .inl q
   ·rw [aI hk]at q;exact .inl q
  ·exact .inr ⟨ax _ q1,q2⟩
theorem Z8c {env:Env}:∀(l:List (Str×NameKind)) (c7:List (Str×Addr)) (n:Str),((n,NameKind.free)∈l\/∃c,(n,c)∈c7)->∃c,(n,c)∈R8 env l c7
 | [],c7,n,h=>by
  rcases h with h | h
  ·cases h
  ·exact h
 | (m,k)::r,c7,n,h=>by
  refine Z8c r _ n ?_
  rcases h with h | ⟨c,h⟩
  ·rcases ao.mp h with e | h
   ·cases e
    refine .inr ⟨(env.cells.lookup m).getD 0,?_⟩
    rw [aM (by rfl)]
    exact aA
   ·exact .inl h
  ·refine .inr ⟨c,?_⟩
   split
   ·exact ax _ h
   ·exact h
theorem Q8b {α:Type}:∀{l:List (Str×α)}{x:Str}{c:α},l.lookup x=some c->(x,c)∈l
 | [],_,_,h=>by simp at h
 | (n,d)::r,x,c,h=>by
  rw [List.lookup_cons]at h
  cases e:x==n with
  | true=>rw [e]at h;cases h;rw [eq_of_beq e];exact aA
  | false=>rw [e]at h;exact ax _ (Q8b h)
theorem Y0m {α:Type}:∀{l:List (Str×α)}{x:Str}{c:α},(x,c)∈l->∃d,l.lookup x=some d
 | [],_,_,h=>by cases h
 | (n,d)::r,x,c,h=>by
  rw [List.lookup_cons]
  cases e:x==n with
  | true=>exact⟨d,rfl⟩
  | false =>
   rcases ao.mp h with q | q
   ·cases q;simp at e
   ·exact Y0m q
noncomputable def blk (X:Cx) (scope:Scope) (C:Addr) (s:Shared) (H:Hp) (fp:List Addr) (N:List Str):Cx :=
 { X with N:=N,s₀:=s,H₀:=H,env:=compEnvC scope (R8 X.env scope.names []) C X.env,outer:=X.stack,ex:=fp,fn:=fun _=>false,pn:=[],xe:=fun _ _=>False }
structure J7 (X:Cx) (scope:Scope) (N:List Str) (nt:Nat) (cap:List Nat):Prop where
 kind:scope.kind=.function
 cell:∀y∈scope.names,y.2≠.cell
 names:∀y∈scope.names,y.2=.local->scope.names.lookup y.1=some .local
 only:∀y∈scope.names,y.2=.free->scope.names.lookup y.1=some .free
 free:∀y∈scope.names,y.2=.free->X.env.kindOf y.1=some .cell\/X.env.kindOf y.1=some .free
 len:N.length=nt+cap.length
 caps:∀(j i:Nat) (x:Str),cap[j]?=some i->N[nt+j]?=some x->X.N[i]?=some x/\(x,NameKind.free)∈scope.names
section
variable {X:Cx}{scope:Scope}{N:List Str}{nt:Nat}{cap:List Nat}{ae:Pn9} {σ:St}{H:Hp}{s:Shared}
theorem V7 (I:A1 X ae σ H s) (B:J7 X scope N nt cap) {x:Str}{c:Addr} (h:(R8 X.env scope.names []).lookup x=some c):X.env.cells.lookup x=some c:=by
 rcases Z8d _ _ _ (Q8b h)with q | ⟨q1,q2⟩
 ·cases q
 ·obtain⟨d,hd⟩:=I.ok.has x (B.free _ q1 rfl)
  have q2:c=(X.env.cells.lookup x).getD 0:=q2
  rw [hd]at q2 ⊢
  rw [q2];rfl
theorem Z1c (I:A1 X ae σ H s) (B:J7 X scope N nt cap) {x:Str} (h:(x,NameKind.free)∈scope.names):∃c,(R8 X.env scope.names []).lookup x=some c:=by
 obtain⟨c,hc⟩:=Z8c (env:=X.env) scope.names [] x (.inl h)
 exact Y0m hc
theorem Y2c {env:Env}{x:Str}{k:NameKind} (h:(relabel scope env).names.lookup x=some k) (hk:k=.cell\/k=.free) (nc:∀y∈scope.names,y.2≠.cell):(x,NameKind.free)∈scope.names:=by
 have m:=Q8b h
 unfold relabel at m
 obtain⟨⟨n,k'⟩,hm,e⟩:=aj.mp m
 dsimp only at e
 split at e
 ·rename_i hc
  cases e
  simp only [de]at hc
  have:k'=NameKind.free:=eq_of_beq hc.1.1
  rw [<- this];exact hm
 ·cases e
  rcases hk with rfl | rfl
  ·exact absurd rfl (nc _ hm)
  ·exact hm
theorem Y6j (I:A1 X ae σ H s) (B:J7 X scope N nt cap) {C:Addr}{fp:List Addr} (hC:s.heap.objs.size<=C) (hf:∀b∈fp,K9 X ae H b) (eN:∀b∈fp,b<s.heap.objs.size):(blk X scope C s H fp N).Ok where
 mod:=I.ok.mod
 kind:=B.kind
 glob:=I.ok.glob
 blt:=I.ok.blt
 above:=hC
 inj:=fun x y c h1 h2=>I.ok.inj x y c (V7 I B h1) (V7 I B h2)
 has:=fun x h=>by
  rcases h with h | h
  ·exact Z1c I B (Y2c h (.inl rfl) B.cell)
  ·exact Z1c I B (Y2c h (.inr rfl) B.cell)
 cab:=fun x c h=>by cases h
 hd:=I.ok.hd
 frames:=I.ok.frames
 stk:=.inl rfl
 exf:=fun b hb=>⟨av (az (eN b hb) hC),fun x c h=>(hf b hb).2.2.2.2.1 x c (V7 I B h)⟩
 bs:=I.bs
 bsz:=aX I.ok.bsz I.sz
 noex:=fun b o e hb=>by
  rcases (hf b hb).2.2.2.1 with z | z
  ·exact I.ok.noex b o e z
  ·exact absurd (az (au e) (aX I.ok.bsz z)) (aR _)
 exfs:=fun b hb z=>by
  rcases ao.mp (I.stkSub b z)with e | e
  ·exact(hf b hb).2.1 e
  ·exact(hf b hb).2.2.1 e
 funs:=I.stack
 frf:=I.stkFree
theorem Q7h (I:A1 X ae σ H s) (B:J7 X scope N nt cap) {C:Addr}{fp:List Addr} (hf:∀b∈fp,K9 X ae H b) (eN:∀b∈fp,b<s.heap.objs.size) {h':Heap}{t':Nat}{m:Str->Option Value}
  (hC:s.heap.objs.size<=C) (ic:h'.Ns C m) (k:∀b o,s.heap.get? b=some o->h'.get? b=some o) :
  A1 (blk X scope C s H fp N) [] (List.replicate nt none++cap.map fun i=>(σ[i]?).join) H { s with heap:=h',toks:=t' }:=by
 refine⟨Y6j I B hC hf eN,rfl,I.bare,Un.kept k,⟨m,ic,fun i x v h1 h2 h3=>?_⟩,fun x c h=>?_,I.hok.fresh hC,fun x c h=>I.freeC x c (V7 I B h),(fun p hp=>by cases hp),I.hok.kept k,?_⟩
 ·have h1:N[i]?=some x:=h1
  by_cases hi:i<nt
  ·rw [aJ (by rw [aW];exact hi)]at h2
   have:=aw h2
   rw [List.mem_replicate]at this
   cases this.2
  ·rw [aS (by rw [aW];omega),aW,ah]at h2
   cases e:cap[i-nt]? with
   | none=>rw [e]at h2;cases h2
   | some j =>
    rw [e]at h2
    have h2:(σ[j]?).join=some v:=ay h2
    have hσ:σ[j]?=some (some v):=by
     cases q:σ[j]? with
     | none=>rw [q]at h2;cases h2
     | some o=>rw [q]at h2;exact congrArg some h2
    obtain⟨hN,hx⟩:=B.caps (i-nt) j x e (by rw [show nt+(i-nt)=i by omega];exact h1)
    obtain⟨m0,rT,hl⟩:=I.loc
    have kd:=B.free _ hx rfl
    obtain⟨u,r,l⟩:=hl j x v hN hσ (.inr kd)
    refine⟨u,r,?_⟩
    obtain⟨c,hc⟩:=Z1c I B hx
    have cL:∃c',X.env.cells.lookup x=some c'/\s.heap.IsCell c' (some u):=by
     rcases l with⟨l1,_⟩ | ⟨_,l2⟩
     ·rcases kd with kd | kd
      ·rw [kd]at l1;cases l1
      ·rw [kd]at l1;cases l1
     ·exact l2
    obtain⟨c',cU,o,ho,hd⟩:=cL
    rw [V7 I B hc]at cU;cases cU
    have h3:Vis (relabel scope X.env) x:=h3
    refine .inr ⟨?_,c,hc,o,k _ _ ho,hd⟩
    rcases h3 with h3 | h3 | h3
    ·exfalso
     have m1:=Q8b h3
     unfold relabel at m1
     obtain⟨⟨n,k'⟩,hm,e'⟩:=aj.mp m1
     dsimp only at e'
     split at e'
     ·cases e'
     ·cases e'
      have a1:=B.names _ hm rfl
      have a1:scope.names.lookup x=some .local:=a1
      rw [B.only _ hx rfl]at a1;cases a1
    ·exact .inl h3
    ·exact .inr h3
 ·obtain⟨v,o,ho,hd⟩:=I.cell x c (V7 I B h)
  exact⟨v,o,k _ _ ho,hd⟩
 ·rw [aE,aW,ag];exact B.len.symm
end
section
variable {prog:Program}{w:World}{A:Around}{RR:Result->Shared->Prop}{s:Shared}
theorem Z1d {dN target iter:Expr}{eX:List Expr}{scope:Scope}{pos:Pos}{it c7:Value}{env:Env} (I:Nat->Shared->Prop)
  (eG:∀n s,I n s->wpAny (model prog w) A (pyNext it) (fun r s₁=>match r with
   | none=>RR (.ok .next) s₁
   | some v=>wpAny (model prog w) A (letOwnedTupleGo target it v) (fun _ sa=>wpAny (model prog w) A (assign target env v) (fun _ s₂ =>
     wpAny (model prog w) A (forIn eX true fun c r=>if r=true then do let ok <- isTrue c env (eval c env);pure (ForInStep.yield ok)else pure (ForInStep.yield r)) (fun ok s₃ =>
      if ok=true then wpAny (model prog w) A (eval dN env) (fun x s₄ =>
       wpAny (model prog w) A (call (.builtin "list.append") [c7,x]) (fun _ s₅=>∃m,m<n/\I m s₅) (fun _ _=>False) s₄) (fun _ _=>False) s₃
      else ∃m,m<n/\I m s₃) (fun _ _=>False) s₂) (fun _ _=>False) sa) (fun _ _=>False) s₁) (fun _ _=>False) s)
  (n:Nat) (h:I n s):codeAny (model prog w) A (.compLoop (.ListComp dN [⟨target,iter,eX,0⟩] scope pos) 0 it c7 env) RR s:=by
 refine codeAny_loop rfl I (fun n s hI=>?_) n h
 show wpAny _ _ ((compTurn (.ListComp dN [⟨target,iter,eX,0⟩] scope pos) 0 it c7 env).onRaise (fun x=>do noteFrame x env;theTreesLotGoes x)) _ _ s
 refine wpAny_noted ?_
 rw [compTurn_list]
 refine aa (wpAny_standAt (aa (aL (eG n s hI) (fun r s₁ h₁=>?_) fun _ _ h'=>h'.elim)))
 cases r with
 | none=>exact aq h₁
 | some v =>
  refine aa (aL h₁ (fun _ sa ha=>?_) fun _ _ h'=>h'.elim)
  refine aa (aL ha (fun _ s₂ h₂=>aa (aL h₂ (fun ok s₃ h₃=>?_) fun _ _ h'=>h'.elim)) fun _ _ h'=>h'.elim)
  cases ok with
  | false=>exact aq ⟨rfl,h₃⟩
  | true =>
   exact aa (aa (aL h₃ (fun x s₄ h₄=>aa (aL h₄ (fun _ s₅ h₅=>aq (aq ⟨rfl,h₅⟩)) fun _ _ h'=>h'.elim)) fun _ _ h'=>h'.elim))
end
structure YlS (K:Fg9) (J:It) (ds:List D) (H:Hp):Prop where
 go:∀H',A5 H H'->∀i,i<ds.length->J.go i H'
 yld:∀H',A5 H H'->∀i x cT d,ds[i]?=some d->J.yld i H' x cT->A5 H' cT/\A3 K cT d x
 stop:∀H',A5 H H'->J.stop ds.length H'
noncomputable abbrev P5:=A8->(List D->Prop)->Prop
noncomputable def Y9t (K:Fg9) (H0:Hp) (wi:P5):TI:=fun σ H R=>∃ τ,B4 K H0 τ σ H/\wi τ fun ds=>∀J H',A5 H H'->YlS K J ds H'->R J H'
structure F7 (X:Cx) (H0:Hp) (tg iter:Expr) (wi:P5):Prop where
 mono:∀ τ (P Q:List D->Prop),(∀ds,P ds->Q ds)->wi τ P->wi τ Q
 pi:PI X tg iter (Y9t X.K H0 wi)
def IfsR (X:Cx) (eX:List Expr) (t:TT):Prop :=
 ∀(ae:Pn9) (s:Shared) (σ:St) (H:Hp) (Q:Bool->Hp->Prop),A1 X ae σ H s->t σ H Q ->
  wpAny (model X.prog X.w) X.A (forIn eX true fun c r=>if r=true then do let ok <- isTrue c X.env (eval c X.env);pure (ForInStep.yield ok)else pure (ForInStep.yield r)) (TP X ae σ Q) X.xe s
structure DIf (X:Cx) (H0:Hp) (eX:List Expr) (t:WT):Prop where
 mono:∀(τ:A8) (P Q:Bool->Prop),(∀r,P r->Q r)->t τ P->t τ Q
 pt:IfsR X eX (Z2h X.K H0 t)
theorem DIf.nil {X:Cx}{H0:Hp}:DIf X H0 [] (fun _ Q=>Q true) where
 mono:=fun τ P Q f h=>f _ h
 pt:=fun ae s σ H Q I ⟨τ,hR,h⟩=>wpAny_tests_nil ⟨H,I,h H (A5.refl H)⟩
theorem DIf.one {X:Cx}{H0:Hp}{c:Expr}{t:WT} (hc:DT X H0 c t):DIf X H0 [c] t where
 mono:=hc.mono
 pt:=fun ae s σ H Q I h=>wpAny_tests_one (hc.pt ae s σ H Q I h)
noncomputable def N8 (g:WG) (t:WT) (we:WE):List D->A8->(List D->Prop)->Prop
 | [],_,Q=>Q []
 | d::ds,τ,Q=>g d τ fun τ'=>t τ' fun k=>if k=true then we τ' fun r=>∃e,r=.st e/\N8 g t we ds τ' fun es=>Q (e::es)else N8 g t we ds τ' Q
theorem Z1e {g:WG}{t:WT}{we:WE} (hg:∀d τ (P Q:A8->Prop),(∀ τ,P τ->Q τ)->g d τ P->g d τ Q) (ht:∀(τ:A8) (P Q:Bool->Prop),(∀r,P r->Q r)->t τ P->t τ Q) (he:∀(τ:A8) (P Q:R->Prop),(∀r,P r->Q r)->we τ P->we τ Q) :
  ∀(ds:List D) (τ:A8) (P Q:List D->Prop),(∀es,P es->Q es)->N8 g t we ds τ P->N8 g t we ds τ Q
 | [],_,_,_,f,h=>f _ h
 | d::ds,τ,P,Q,f,h=>hg d τ _ _ (fun τ' h=>ht τ' _ _ (fun k h=>Q0d (fun h=>he τ' _ _ (fun r ⟨e,e1,h⟩=>⟨e,e1,Z1e hg ht he ds τ' _ _ (fun es h=>f _ h) h⟩) h) (fun h=>Z1e hg ht he ds τ' _ _ f h) h) h) h
noncomputable def Q5i:Sl->Option Sl
 | .dat d=>some (.dat d)
 | .own ds=>some (.bor ds)
 | .bor ds=>some (.bor ds)
 | .dt k=>some (.bd k)
 | .bd k=>some (.bd k)
 | .cl a Φ=>some (.cl a Φ)
 | _=>none
noncomputable def R5 (nt:Nat) (cap:List Nat) (τ:A8):A8:=List.replicate nt none++cap.map fun i=>((τ[i]?).join).bind Q5i
theorem Z3m {K:Fg9}{H0 H:Hp} {τ:A8} {σ:St} (hR:B4 K H0 τ σ H) (nt:Nat) (cap:List Nat):B4 K H (R5 nt cap τ) (List.replicate nt none++cap.map fun i=>(σ[i]?).join) H:=by
 have at_:∀(i:Nat) (s:Sl),(R5 nt cap τ)[i]?=some (some s)->nt<=i/\∃j t,cap[i-nt]?=some j/\τ[j]?=some (some t)/\Q5i t=some s:=fun i s e=>by
  unfold R5 at e
  by_cases hi:i<nt
  ·rw [aJ (by rw [aW];exact hi)]at e
   have:=aw e
   rw [List.mem_replicate]at this
   cases this.2
  ·rw [aS (by rw [aW];omega),aW,ah]at e
   cases q:cap[i-nt]? with
   | none=>rw [q]at e;cases e
   | some j =>
    rw [q]at e
    have e:((τ[j]?).join).bind Q5i=some s:=ay e
    cases q2:τ[j]? with
    | none=>rw [q2]at e;cases e
    | some o =>
     rw [q2]at e
     cases o with
     | none=>cases e
     | some t=>exact⟨by omega,j,t,rfl,q2,e⟩
 refine⟨?_,A5.refl H,fun i s e=>?_,fun i j s t v _ e1 _ m _ _ _=>?_⟩
 ·unfold R5
  rw [aE,aE,ag,ag,aW,aW]
 ·obtain⟨hi,j,t,hc,ht,hb⟩:=at_ i s e
  obtain⟨v,hv,q⟩:=hR.here j t ht
  refine⟨v,?_,?_⟩
  ·rw [aS (by rw [aW];omega),aW,ah,hc]
   show some ((σ[j]?).join)=_
   rw [hv];rfl
  ·cases t with
   | dat d=>cases hb;exact q
   | own ds=>cases hb;obtain⟨a,xs,e,_,q,al⟩:=q;exact⟨a,xs,e,q,al⟩
   | bor ds=>cases hb;obtain⟨a,xs,e,q,al⟩:=q;exact⟨a,xs,e,hR.same _ _ q,al⟩
   | bd ds=>cases hb;obtain⟨a,xs,e,q,al⟩:=q;exact⟨a,xs,e,hR.same _ _ q,al⟩
   | dk _=>cases hb
   | dt ds=>cases hb;obtain⟨a,xs,e,_,q,al⟩:=q;exact⟨a,xs,e,q,al⟩
   | ob _=>cases hb
   | cl _ _=>cases hb;exact q
   | ll _ _=>cases hb
   | ins _ _ _=>cases hb
 ·obtain⟨hi,j',t',hc,ht,hb⟩:=at_ i s e1
  cases t' with
  | dat d=>cases hb;cases m
  | own ds=>cases hb;cases m
  | bor ds=>cases hb;cases m
  | dk _=>cases hb
  | dt _=>cases hb;cases m
  | bd _=>cases hb;cases m
  | ob _=>cases hb
  | cl _ _=>cases hb;cases m
  | ll _ _=>cases hb
  | ins _ _ _=>cases hb
theorem Z9e {C:Addr}{h h':Heap} (sb:Heap.SameBut C h h'):∀b o,b≠C->h.get? b=some o->h'.get? b=some o:=fun b o hb e=>(sb.2 b hb).trans e
theorem Z7u {X:Cx}{ae:Pn9} {σ:St}{H2 H':Hp}{s2 s1:Shared}{scope:Scope}{C D0:Addr}{fp:List Addr}{N:List Str}{pb:Pn9} {σ':St}{vs:List V}{ys:Array Value}{h':Heap}
  (I2:A1 X ae σ H2 s2) (Ib:A1 (blk X scope C s2 H2 fp N) pb σ' H' s1) (f2:∀b∈fp,K9 X ae H2 b) (hC:s2.heap.objs.size<=C) (hD:s2.heap.objs.size<=D0) (cE:D0≠C) (m8:H' D0=none)
  (hl:s1.heap.PlainList D0 ys) (rv:B6 vs ys.toList) (hz:vs.length<=sizeLine) (sb:Heap.SameBut C s1.heap h'):A1 X ae σ (upd H' D0 (.lst vs)) { s1 with heap:=h' }:=by
 have iL:∀b o,s2.heap.get? b=some o->b≠C:=fun b o e=>av (az (au e) hC)
 have l7:∀b o,s2.heap.get? b=some o->b≠D0:=fun b o e=>av (az (au e) hD)
 have keep:=Z9e sb
 have base:Un (frs X.stack) fp H2 H' s2.heap s1.heap:=Ib.base
 have md:H' C=none:=Ib.free
 have gk:∀b u,H' b=some u->b≠C:=fun b u e z=>by rw [z,md]at e;cases e
 have fQ:∀b u,H' b=some u->b≠D0:=fun b u e z=>by rw [z,m8]at e;cases e
 refine I2.call' (s':={ s1 with heap:=h' }) (ch:=fp) Ib.os ⟨fun b o e n hb hx=>keep b o (iL b o e) (base.keep b o e n hb hx),fun b o e n hb hx=>?_,fun b o e n hx=>?_,fun b o e hx=>?_,fun b xs e=>?_,fun b o u e=>?_,fun b ps e=>?_⟩ (fun b u e=>?_) Ib.bare (fun b hb=>?_)
 ·obtain⟨sl,q⟩:=base.slot b o e n hb hx
  exact⟨sl,keep b _ (iL b o e) q⟩
 ·rw [A6 (l7 b o e)];exact base.free b o e n hx
 ·obtain⟨o',q⟩:=base.there b o e hx
  exact⟨o',keep b o' (iL b o e) q⟩
 ·have q:=base.tups b xs e
  rw [A6 (fQ b _ q)];exact q
 ·have q:=base.frzs b o u e
  rw [A6 (fQ b _ q)];exact q
 ·obtain⟨more,q⟩:=base.tbls b ps e
  exact⟨more,by rw [A6 (fQ b _ q)];exact q⟩
 ·by_cases hb:b=D0
  ·subst hb
   rw [upd_same]at e;cases e
   obtain⟨n,ho⟩:=hl
   exact⟨hz,ys.toList,n,rv,keep b _ cE (by rw [ho])⟩
  ·rw [A6 hb]at e
   refine(Ib.hok b u e).stay (fun c v hc q=>keep c v ?_ q) (fun c u _ q=>by rw [A6 (fQ c _ q)];exact q) fun c xs q=>by rw [A6 (fQ c _ q)];exact q
   rcases hc with z | z
   ·rw [z];exact gk b u e
   ·exact gk c _ z
 ·obtain⟨_,a2,a3,a4,a5,a6⟩:=f2 b hb
  exact⟨a4,a2,a5,a6⟩
section
variable {X:Cx}{H0:Hp}{tg iter dN:Expr}{eX:List Expr}{scope:Scope}{pos:Pos}{N:List Str}{nt:Nat}{cap:List Nat}{wi:P5}{g:WG}{t:WT}{we:WE}
def V0 (nt:Nat) (cap:List Nat) (wi:P5) (g:WG) (t:WT) (we:WE):WE:=fun τ Q=>wi τ fun ds=>ds.length<=sizeLine/\N8 g t we ds (R5 nt cap τ) fun es=>Q (.nw es)
theorem Y7g {use:Option (Value->Sem Unit)}{QQ:VS9}{P:List D->Prop}{fP:Pos}{ae:Pn9}{s:Shared} {σ:St}{H:Hp} {τ:A8} (hc:X.calm=true) (B:J7 X scope N nt cap) (hi:F7 X H0 tg iter wi)
  (hg:∀C s H fp,DG (blk X scope C s H fp N) H tg g) (ht:∀C s H fp,DIf (blk X scope C s H fp N) H eX t) (he:∀C s H fp,DE (blk X scope C s H fp N) H dN we) (hs:∀x,foldedSetIterable iter X.env x=pure x)
  (I:A1 X ae σ H s) (hR:B4 X.K H0 τ σ H) (hw:wi τ fun ds=>ds.length<=sizeLine/\N8 g t we ds (R5 nt cap τ) P)
  (fin:∀(C D0:Addr) (s2 s4:Shared) (H2 H4:Hp) (fp:List Addr) (pb:Pn9) (σ4:St) (vs:List V) (ys:Array Value) (es:List D) (f:Flow),A1 X ae σ H2 s2->A5 H H2->A1 (blk X scope C s2 H2 fp N) pb σ4 H4 s4->(∀b∈fp,K9 X ae H2 b) ->
   s2.heap.objs.size<=C->s2.heap.objs.size<=D0->D0≠C->H4 D0=none->s4.heap.PlainList D0 ys->B6 vs ys.toList->vs.length<=sizeLine->A5 H2 H4->AllS X.K H4 es vs->P es->compPost (model X.prog X.w) X.A X.xe use QQ (.ref D0) C (.ok f) s4) :
  wpAny (model X.prog X.w) X.A (comprehension (.ListComp dN [⟨tg,iter,eX,0⟩] scope pos) scope X.env fP (newList []) false (eval iter X.env) use) QQ X.xe s:=by
 refine wpAny_comprehension_free rfl hs (Q7l fun y hy e=>I.ok.has y.1 (B.free y hy e)) B.kind B.names ?_
 refine B2 (hi.pi ae s σ H (fun J H2=>A5 H H2/\∃ds,YlS X.K J ds H2/\ds.length<=sizeLine/\N8 g t we ds (R5 nt cap τ) P) I
  ⟨τ,hR,hi.mono τ _ _ (fun ds h J H' sm yl=>⟨sm,ds,yl,h.1,h.2⟩) hw⟩) fun v s1 h1=>B2 h1 fun j9 s2 h2=>?_
 obtain⟨it,fp,tn,J,H2,e,I2,T,cX,f2,cN,ds,yl,hz,iO⟩:=h2
 subst e
 have eN:∀b∈fp,b<s2.heap.objs.size:=fun b hb=>by
  obtain⟨o,ho,_⟩:=T.obj _ _ cX b hb
  exact au ho
 have cC:=hR.mono cN
 refine bU (fG B.cell (by intro y hy;simp at hy) (fun h₁ cu ci=>?_) B.kind)
 dsimp only at cu ci ⊢
 generalize hH2:s2.heap.push { cls:=.type "list",dict:=none,data:=.seq ([]:List Value).toArray }=Hq at cu ci ⊢
 have hC:Hq.objs.size=s2.heap.objs.size+1:=by rw [<- hH2,br]
 have cE:s2.heap.objs.size≠Hq.objs.size:=by rw [hC];exact av (cm _)
 have ce:s2.heap.objs.size<=Hq.objs.size:=by rw [hC];exact eU _
 have old:∀b o,s2.heap.get? b=some o->h₁.get? b=some o:=fun b o e=>ci.extBut b o (by rw [hC];exact av (bi (au e))) (af _ (hH2 ▸ af _ e))
 have cZ:h₁.PlainList s2.heap.objs.size #[]:=⟨_,ci.extBut _ _ cE (af _ (hH2 ▸ aH _ rfl))⟩
 generalize hCe:Hq.objs.size=C at cu ci hC cE ce ⊢
 generalize hDe:s2.heap.objs.size=D0 at hC cE ce cZ ⊢
 have cB:∀b∈fp,b<D0:=fun b hb=>hDe ▸ eN b hb
 have dj:tn 0 h₁:=T.keep _ _ _ cX fun b _ o e=>old b o e
 have j6:=Q7h (C:=C) (h':=h₁) (t':=s2.toks+([]:List (Str×Value)).length) I2 B f2 eN (by rw [hDe];exact ce) cu old
 have fD:H2 D0=none:=I2.hok.fresh (by rw [hDe];exact ai _)
 have iJ:D0∉frs X.stack:=fun z=>by
  rcases ao.mp (I2.stkSub _ z)with e | e
  ·have:=I2.lt;rw [<- e,hDe]at this;exact aR _ this
  ·exact I2.nofs (by rw [hDe];exact ai _) e
 have iK:∀x c,(R8 X.env scope.names []).lookup x=some c->c≠D0:=fun x c h z=>by
  obtain⟨v,q⟩:=I2.cell x c (V7 I2 B h)
  have:=q.lt
  rw [z,hDe]at this
  exact aR _ this
 have di:∀{pb:Pn9} {σ':St}{H':Hp}{s':Shared}{ys:Array Value}{n:Nat},A1 (blk X scope C s2 H2 fp N) pb σ' H' s'->H' D0=none->s'.heap.get? D0=some { cls:=.type "list",data:=.seq ys n } ->
   A1 (blk X scope C s2 H2 fp N) [(D0,{ cls:=.type "list",data:=.seq ys n })] σ' H' s':=by
  intro pb σ' H' s' ys n I' n' e
  refine I'.pins_of fun p hp=>?_
  have e':p=(D0,{ cls:=.type "list",data:=.seq ys n }):=by simpa using hp
  subst e'
  exact⟨e,n',cE,iJ,fun v z=>by cases z⟩
 have eR:∀{H':Hp}{ob:Obj},(∀b∈fp,H' b=none)->∀b∈fp,K9 (blk X scope C s2 H2 fp N) [(D0,ob)] H' b:=by
  intro H' ob hn b hb
  refine⟨hn b hb,(av (az (cB b hb) ce)),fun z=>?_,.inl hb,fun x c h=>(f2 b hb).2.2.2.2.1 x c (V7 I2 B h),fun p hp=>?_⟩
  ·rcases ao.mp (I2.stkSub b z)with e | e
   ·exact(f2 b hb).2.1 e
   ·exact(f2 b hb).2.2.1 e
  ·have e':p=(D0,ob):=by simpa [blk]using hp
   subst e'
   exact(av (cB b hb)).symm
 let io:Nat->Shared->Prop:=fun k s'=>∃(i:Nat) (σ':St) (H':Hp) (τ':A8) (ys:Array Value) (nn:Nat) (vs:List V) (es:List D),A1 (blk X scope C s2 H2 fp N) [(D0,{ cls:=.type "list",data:=.seq ys nn })] σ' H' s'/\B4 X.K H2 τ' σ' H'/\tn i s'.heap /\
  (∀b∈fp,H' b=none)/\H' D0=none/\B6 vs ys.toList/\AllS X.K H' es vs/\i<=ds.length/\k=ds.length-i/\es.length<=i/\N8 g t we (ds.drop i) τ' fun eC=>P (es++eC)
 have loop:∀s₃:Shared,s₃={ s2 with heap:=h₁,toks:=s2.toks+([]:List (Str×Value)).length } ->
   codeAny (model X.prog X.w) X.A (.compLoop (.ListComp dN [⟨tg,iter,eX,0⟩] scope pos) 0 (.ref it) (.ref D0) (compEnvC scope (R8 X.env scope.names []) C X.env))
    (compPost (model X.prog X.w) X.A X.xe use QQ (.ref D0) C) s₃:=by
  rintro s₃ rfl
  obtain⟨nn,ho⟩:=id cZ
  refine Z1d io ?_ ds.length ⟨0,_,H2,R5 nt cap τ,#[],nn,[],[],di j6 fD ho,Z3m cC nt cap,dj,fun b hb=>(f2 b hb).1,fD,.nil,AllS.nil,bD _,rfl,ai _,by simpa using iO⟩
  rintro k s3 ⟨i,σ3,H3,τ3,ys,nn,vs,es,I3,R3,eD,fb,d3,i4,j5,nr,rfl,ii,w3⟩
  have bT:A5 H2 H3:=R3.same
  by_cases bE:i<ds.length
  ·refine aL (T.item (blk X scope C s2 H2 fp N) rfl rfl rfl hc i _ s3 σ3 H3 (fun _ _=>False) I3 (eR fb) eD (yl.go H3 bT i bE)) (fun r s4 bp=>?_) fun _ _ z=>z
   obtain⟨u,hr,h4⟩:=bp
   subst hr
   refine aL h4 (fun _ s5 bp=>?_) fun _ _ z=>z
   obtain⟨x,H5,I5,r5,y5,dq,gY⟩:=bp
   obtain⟨fy,ix⟩:=yl.yld H3 bT i x H5 _ (ac bE) y5
   rw [cw bE]at w3
   have hJ:=I5.pinned (eR gY) (T.obj _ _ dq)
   have again:∀{σ7:St}{H7:Hp}{s7:Shared} {τ7:A8}{kf:Array Value}{kZ:Nat}{vs7:List V}{es7:List D},A1 (blk X scope C s2 H2 fp N) (U8 fp s5.heap) σ7 H7 s7->B4 X.K H2 τ7 σ7 H7->H7 D0=none->s7.heap.get? D0=some { cls:=.type "list",data:=.seq kf kZ } ->
     B6 vs7 kf.toList->AllS X.K H7 es7 vs7->es7.length<=i+1->N8 g t we (ds.drop (i+1)) τ7 (fun eC=>P (es7++eC))->∃m,m<ds.length-i/\io m s7:=by
    intro σ7 H7 s7 τ7 kf kZ vs7 es7 I7 R7 d7 o7 kQ rK lS w7
    have oQ:tn (i+1) s7.heap:=T.keep _ _ _ dq fun b hb o e=>(I7.pin (b,o) (ak _ (Q0u hb e))).1
    refine⟨ds.length-(i+1),by omega,i+1,σ7,H7,τ7,kf,kZ,vs7,es7,di I7 d7 o7,R7,oQ,fun b hb=>?_,d7,kQ,rK,bE,rfl,lS,w7⟩
    obtain⟨o,e,_⟩:=T.obj _ _ dq b hb
    exact(I7.pin (b,o) (ak _ (Q0u hb e))).2.1
   refine aL ((hg C s2 H2 fp).pg _ s5 σ3 H5 x u (fun σ6 H6=>∃ τ6,B4 X.K H2 τ6 σ6 H6/\A5 H5 H6/\t τ6 fun k=>if k=true then we τ6 fun r=>∃e,r=.st e/\N8 g t we (ds.drop (i+1)) τ6 fun eC=>P (es++(e::eC))
     else N8 g t we (ds.drop (i+1)) τ6 fun eC=>P (es++eC)) hJ r5 ⟨τ3,ds[i],R3.mono fy,ix,(hg C s2 H2 fp).mono _ _ _ _ (fun τ6 h6 σ6 H6 fN R6=>⟨τ6,R6,fN,h6⟩) w3⟩) (fun _ s6 ⟨σ6,H6,I6,τ6,R6,fN,w6⟩=>?_) fun _ _ z=>z
   refine aL ((ht C s2 H2 fp).pt _ s6 σ6 H6 (fun k H7=>A5 H6 H7/\if k=true then we τ6 fun r=>∃e,r=.st e/\N8 g t we (ds.drop (i+1)) τ6 fun eC=>P (es++(e::eC))
     else N8 g t we (ds.drop (i+1)) τ6 fun eC=>P (es++eC)) I6 ⟨τ6,R6,(ht C s2 H2 fp).mono τ6 _ _ (fun k h H7 fx=>⟨fx,h⟩) w6⟩) (fun ok s7 ⟨H7,I7,fx,w7⟩=>?_) fun _ _ z=>z
   have pd:∀{σ':St}{H':Hp}{s':Shared},A1 (blk X scope C s2 H2 fp N) ([(D0,{ cls:=.type "list",data:=.seq ys nn })]++U8 fp s5.heap) σ' H' s'->s'.heap.get? D0=some { cls:=.type "list",data:=.seq ys nn }/\H' D0=none:=fun I' =>
    ⟨(I'.pin (D0,_) (ak _ (bb _ aA))).1,(I'.pin (D0,_) (ak _ (bb _ aA))).2.1⟩
   have pf:∀{σ':St}{H':Hp}{s':Shared},A1 (blk X scope C s2 H2 fp N) ([(D0,{ cls:=.type "list",data:=.seq ys nn })]++U8 fp s5.heap) σ' H' s'->A1 (blk X scope C s2 H2 fp N) (U8 fp s5.heap) σ' H' s':=fun I' =>
    I'.pins_of fun p hp=>I'.pin p (ak _ (ak _ hp))
   have mJ:A5 H3 H7:=fy.trans (fN.trans fx)
   cases ok with
   | false =>
    rw [aI cJ]at w7 ⊢
    exact again (pf I7) (R6.mono fx) (pd I7).2 (pd I7).1 i4 (j5.mono (Kp.of mJ) _ _) (by omega) w7
   | true =>
    rw [aM rfl]at w7 ⊢
    refine aL ((he C s2 H2 fp).pe _ s7 σ6 H7 (fun v H8=>A5 H7 H8/\∃e,A3 X.K H8 e v/\N8 g t we (ds.drop (i+1)) τ6 fun eC=>P (es++(e::eC))) I7
     ⟨τ6,R6.mono fx,(he C s2 H2 fp).mono τ6 _ _ (fun r ⟨e,e1,h⟩ v H8 fM ir=>⟨fM,e,by subst e1;exact ir,h⟩) w7⟩) (fun y s8 ⟨v8,H8,I8,iG,fM,e8,lh,w8⟩=>?_) fun _ _ z=>z
    obtain⟨o8,d8⟩:=pd I8
    have ju:ys.size<=sizeLine:=by
     have e1:=i4.length
     have e2:=j5.length
     have e4:ys.toList.length=ys.size:=by simp
     omega
    refine wpAny_list_append_plain (hsz:=ju) ⟨nn,o8⟩ fun h₅ jC iP=>?_
    have I9:A1 (blk X scope C s2 H2 fp N) (U8 fp s5.heap) σ6 H8 { s8 with heap:=h₅ }:=by
     refine(pf I8).turned (t':=s8.toks) (it:=D0) (fun b o hb e=>(iP.2 b hb).trans e) d8 cE (.inr (by rw [<- hDe];exact ai _)) iK (fun p hp z=>?_)
     obtain⟨q1,_⟩:=Q6c (by simpa [blk]using hp)
     exact av (cB _ q1) z
    obtain⟨jq,o9⟩:=jC
    refine again I9 (R6.mono (fx.trans fM)) d8 o9 (vs7:=vs++[v8]) (es7:=es++[e8]) ?_ ((j5.mono (Kp.of (mJ.trans fM)) _ _).append (AllS.cons lh AllS.nil)) (by rw [aE];simpa using ii) ?_
    ·have:(ys.push y).toList=ys.toList++[y]:=by simp
     rw [this]
     exact i4.append (.cons iG .nil)
    ·simpa using w8
  ·have e:i=ds.length:=by omega
   subst e
   refine aL (T.done (blk X scope C s2 H2 fp N) rfl rfl rfl hc ds.length _ s3 σ3 H3 (fun _ _=>False) I3 (eR fb) eD (yl.stop H3 bT)) (fun r s4 bp=>?_) fun _ _ z=>z
   obtain⟨hr,I4⟩:=bp
   subst hr
   have o4:=(I4.pin (D0,_) (ak _ aA)).1
   rw [fJ]at w3
   have w3:P (es++[]):=w3
   rw [b7]at w3
   have lp:vs.length<=sizeLine:=by rw [<- j5.length];omega
   exact fin C D0 s2 s4 H2 H3 fp _ σ3 vs ys es _ I2 cN I4 f2 (by rw [hDe];exact ce) (by rw [hDe];exact ai _) cE d3 ⟨nn,o4⟩ i4 lp bT j5 w3
 exact codeAny_compStart_list (loop _ rfl) (T.self _ 0 _ _ _ dj (loop _ rfl))
theorem DE.comp (hc:X.calm=true) (B:J7 X scope N nt cap) (hi:F7 X H0 tg iter wi) (hg:∀C s H fp,DG (blk X scope C s H fp N) H tg g) (ht:∀C s H fp,DIf (blk X scope C s H fp N) H eX t)
  (he:∀C s H fp,DE (blk X scope C s H fp N) H dN we) (hs:∀x,foldedSetIterable iter X.env x=pure x:=by intro _;rfl) :
  DE X H0 (.ListComp dN [⟨tg,iter,eX,0⟩] scope pos) (V0 nt cap wi g t we) where
 mono:=fun τ P Q f h=>hi.mono τ _ _ (fun ds h=>⟨h.1,Z1e (hg 0 X.s₀ X.H₀ []).mono (ht 0 X.s₀ X.H₀ []).mono (he 0 X.s₀ X.H₀ []).mono ds _ _ _ (fun es h=>f _ h) h.2⟩) h
 pe:=by
  intro ae s σ H Q I ⟨τ,hR,hw⟩
  rw [eval_ListComp]
  refine Y7g hc B hi hg ht he hs I hR hw fun C D0 s2 s4 H2 H4 fp pb σ4 vs ys es f I2 cN I4 f2 hC hD cE hn hl rv hz gE al w3=>?_
  obtain⟨m4,iV,_⟩:=id I4.loc
  refine⟨m4,iV,fun h' sb=>?_⟩
  exact⟨.ref D0,_,Z7u I2 I4 f2 hC hD cE hn hl rv hz sb,rfl,w3 _ _ (cN.trans (gE.trans (G0 hn _))) ⟨D0,vs,rfl,cN.free (I2.hok.fresh hD),upd_same,al.mono (Kp.of (G0 hn _)) _ _⟩⟩
end
section
variable {X:Cx}{H0:Hp}{tg iter dN:Expr}{eX:List Expr}{scope:Scope}{pos be fh:Pos}{N:List Str}{nt:Nat}{cap:List Nat}{wi:P5}{g:WG}{t:WT}{we:WE}
end
section
variable {X:Cx}{H0:Hp}{a b c e tg:Expr}{pos:Pos}{wa wb we:WE}{wr:WA}
theorem F7.lst (he:DE X H0 e we):F7 X H0 tg e (fun τ Q=>we τ fun r=>∃ds,Q0r r=some ds/\Q ds) where
 mono:=fun τ P Q f h=>he.mono τ _ _ (fun r ⟨ds,e1,q⟩=>⟨ds,e1,f _ q⟩) h
 pi:=piW (Z3h he.pe) fun σ H R ⟨τ,hR,h⟩=>⟨τ,hR,he.mono τ _ _ (fun r ⟨ds,e1,q⟩ v H1 s1 ir=>by
  obtain⟨a,xs,rfl,sq,al⟩:=Q8c e1 ir
  refine⟨a,rfl,⟨xs,sq⟩,q _ _ s1 ⟨fun H' s i hi=>⟨xs,xs[i]'(by rw [<- al.length];exact hi),s.seq sq,ac _⟩,fun H' s i x cT d hd ⟨e,y⟩=>?_,fun H' s=>⟨xs,s.seq sq,by rw [al.length];exact ai _⟩⟩⟩
  subst e
  have hx:=y xs (s.seq sq)
  obtain⟨v,hv,q⟩:=(al.mono (Kp.of s) _ _).get hd
  rw [hx]at hv;cases hv
  exact⟨A5.refl _,q⟩) h⟩
theorem F7.tup (he:DE X H0 e we):F7 X H0 tg e (fun τ Q=>we τ fun r=>∃ds,r=.st (.tup ds)/\Q ds) where
 mono:=fun τ P Q f h=>he.mono τ _ _ (fun r ⟨ds,e1,q⟩=>⟨ds,e1,f _ q⟩) h
 pi:=piW (Y1t he.pe) fun σ H R ⟨τ,hR,h⟩=>⟨τ,hR,he.mono τ _ _ (fun r ⟨ds,e1,q⟩ v H1 s1 ir=>by
  subst e1
  have ir:A3 X.K H1 (.tup ds) v:=ir
  unfold A3 at ir
  obtain⟨a,xs,rfl,sq,al⟩:=ir
  refine⟨a,rfl,⟨xs,C6.of sq⟩,q _ _ s1 ⟨fun H' s i hi=>⟨xs,xs[i]'(by rw [<- al.length];exact hi),C6.of (s _ _ sq),ac _⟩,fun H' s i x cT d hd ⟨e,y⟩=>?_,fun H' s=>⟨xs,C6.of (s _ _ sq),by rw [al.length];exact ai _⟩⟩⟩
  subst e
  have hx:=y xs (C6.of (s _ _ sq))
  obtain⟨v,hv,q⟩:=(al.mono (Kp.of s) _ _).get hd
  rw [hx]at hv;cases hv
  exact⟨A5.refl _,q⟩) h⟩
theorem W8l {K:Fg9}{H:Hp}{lo:Int}{n:Nat}:YlS K (Itr lo n) (Q3 lo n) H :=
 ⟨fun H' s=>(Z0b (K:=K) (H0:=H) (H:=H)).go H' (Kp.of s) s,fun H' s=>(Z0b (K:=K) (H0:=H) (H:=H)).yld H' (Kp.of s) s,fun H' s=>(Z0b (K:=K) (H0:=H) (H:=H)).stop H' (Kp.of s) s⟩
theorem F7.rng1 {p:Pos} (hg:Gl X "range") (hm:X.mg "range"=none) (ha:DA X H0 [a] wr) (hs:starEach [a] X.env=[(false,eval a X.env)]:=by rfl) :
  F7 X H0 tg (.Call (.Name "range" p) [a] [] pos) (fun τ Q=>wr τ fun rs=>∃j:Int,rs=[.st (.int j)]/\-(2 ^ 62)<=j/\j<2 ^ 62/\Q (Q3 0 j.toNat)) where
 mono:=fun τ P Q f h=>ha.mono τ _ _ (fun r ⟨j,e1,h1,h2,q⟩=>⟨j,e1,h1,h2,f _ q⟩) h
 pi:=piW (Y1s hg hm ha.pa hs) fun σ H R ⟨τ,hR,h⟩=>⟨τ,hR,ha.mono τ _ _ (fun r ⟨j,e1,h1,h2,q⟩ vs H1 s1 cx=>by
  subst e1
  obtain⟨v,rfl,ir⟩:=Q0a cx
  cases (show v=.int j from ir)
  exact⟨j,rfl,h1,h2,q _ _ s1 W8l⟩) h⟩
theorem Q4q {ae:Pn9} {σ:St}{H:Hp}{s:Shared}{h':Heap}{t':Nat}{wr:List Addr} (I:A1 X ae σ H s) (k:∀b o,b∉wr->s.heap.get? b=some o->h'.get? b=some o) (hf:∀b∈wr,K9 X ae H b) :
  A1 X ae σ H { s with heap:=h',toks:=t' }:=by
 have i6:∀b u,H b=some u->b∉wr:=fun b u e z=>by have:=(hf b z).1;rw [e]at this;cases this
 refine I.step (g':=s.gens) (d':=s.drawn) (ch:=wr) (fun b hb=>?_) (fun b o _ _ hc e _=>k b o hc e) (fun b o _ _ hc e _=>⟨o.slots,k b o hc e⟩) (fun _ _ _ _ n=>n)
  (fun b o hc e=>⟨o,k b o hc e⟩) (fun _ _ e=>e) (fun _ _ _ e=>e) (fun b ps e=>⟨#[],by rw [e];simp⟩) (fun m hm=>?_) (fun b u e=>?_) I.bare
 ·obtain⟨_,f1,_,f3,f4,f5⟩:=hf b hb
  exact⟨f3,f1,f4,f5⟩
 ·obtain⟨o,es,ep,ho,r⟩:=hm
  exact⟨o,es,ep,k _ o (fun z=>(hf _ z).2.1 rfl) ho,r⟩
 ·refine(I.hok b u e).stay (fun c v hc q=>k c v ?_ q) (fun _ _ _ q=>q) fun _ _ q=>q
  rcases hc with z | z
  ·rw [z];exact i6 b u e
  ·exact i6 c _ z
noncomputable def Its (x:Str):It:=⟨fun i _=>i<x.cps.size,fun i H v H'=>H'=H/\∃c,x.cps[i]?=some c/\v=.str ⟨#[c]⟩,fun i _=>i=x.cps.size⟩
theorem W7t {P:Program}{w:World}{K:Fg9}{tg:Expr}{it:Addr}{ty:String}{x:Str}{t:Tok} (i9:ty="str_ascii_iterator"\/ty="str_iterator"):Q1c P w K tg (Its x) [it] it (fun i h=>h.IsStrIter it ty x t i) where
 mem:=by simp
 obj:=fun i h st b hb=>by
  have e:b=it:=by simpa using hb
  subst e
  obtain⟨o,e,c,d⟩:=st
  exact⟨o,e,fun v z=>by rw [d]at z;cases z⟩
 keep:=fun i h h' ⟨o,e,r⟩ k=>⟨o,k it (by simp) o e,r⟩
 item:=by
  intro X hP hw hK hc i ae s σ H E I hf st hg
  subst hP hw hK
  have W:Walks X.prog X.w X.A it [it] [it] x.cps.size (SignAt x) (fun i h=>h.IsStrIter it ty x t i):=by
   rcases i9 with rfl | rfl
   ·exact Walks.strAscii (I.ok.hd hc) it x t
   ·exact Walks.strWide (I.ok.hd hc) it x t
  refine W.item i s _ _ hg st fun v h' tk hv fg k=>?_
  obtain⟨c,u,cU,rfl⟩:=hv
  have I1:A1 X ae σ H { s with heap:=h',toks:=tk }:=Q4q I k hf
  obtain⟨o,e,cl,d⟩:=id fg
  refine⟨_,rfl,Q7q (s:={ s with heap:=h',toks:=tk }) e cl d (by rcases i9 with rfl | rfl <;> decide) ⟨.str ⟨#[c]⟩,H,I1,⟨u,rfl⟩,⟨rfl,c,cU,rfl⟩,fg,fun b hb=>(hf b hb).1⟩⟩
 done:=by
  intro X hP hw hK hc i ae s σ H E I hf st hg
  subst hP hw hK
  have hg:i=x.cps.size:=hg
  subst hg
  have W:Walks X.prog X.w X.A it [it] [it] x.cps.size (SignAt x) (fun i h=>h.IsStrIter it ty x t i):=by
   rcases i9 with rfl | rfl
   ·exact Walks.strAscii (I.ok.hd hc) it x t
   ·exact Walks.strWide (I.ok.hd hc) it x t
  exact W.done s _ _ st fun h' tk k=>⟨rfl,Q4q I k hf⟩
 self:=fun A i s Q E st h=>by
  rcases i9 with rfl | rfl
  ·exact wpAny_pyIter_striter_ascii st h
  ·exact wpAny_pyIter_striter_wide st h
noncomputable def T0 (x:Str):List D:=x.cps.toList.map fun c=>.str ⟨#[c]⟩
end
section
variable {X:Cx}{H0:Hp}{a b c e tg:Expr}{pos:Pos}{wa wb we:WE}{wr:WA}
theorem Q9n {ae:Pn9} {σ:St}{H:Hp}{s:Shared}{h':Heap}{t':Nat}{wr:List Addr}{T:Addr}{xs:List V}{aV:List Value} (I:A1 X ae σ H s) (k:∀b o,b∉wr->s.heap.get? b=some o->h'.get? b=some o) (hf:∀b∈wr,K9 X ae H b)
  (hT:s.heap.objs.size<=T) (ht:IsTup h' T aV.toArray) (rv:B6 xs aV) (hz:xs.length<=sizeLine):A1 X ae σ (upd H T (.tup xs)) { s with heap:=h',toks:=t' }:=by
 have i6:∀b u,H b=some u->b∉wr:=fun b u e z=>by have:=(hf b z).1;rw [e]at this;cases this
 have qL:H T=none:=I.hok.fresh hT
 have neT:∀b u,H b=some u->b≠T:=fun b u e z=>by rw [z,qL]at e;cases e
 refine I.step (g':=s.gens) (d':=s.drawn) (ch:=wr) (fun b hb=>?_) (fun b o _ _ hc e _=>k b o hc e) (fun b o _ _ hc e _=>⟨o.slots,k b o hc e⟩) (fun b o _ e n=>by rw [A6 (av (az (au e) hT))];exact n)
  (fun b o hc e=>⟨o,k b o hc e⟩) (fun b _ e=>by rw [A6 (neT b _ e)];exact e) (fun b _ _ e=>by rw [A6 (neT b _ e)];exact e) (fun b ps e=>⟨#[],by rw [A6 (neT b _ e),e];simp⟩) (fun m hm=>?_) (fun b u e=>?_) I.bare
 ·obtain⟨_,f1,_,f3,f4,f5⟩:=hf b hb
  exact⟨f3,f1,f4,f5⟩
 ·obtain⟨o,es,ep,ho,r⟩:=hm
  exact⟨o,es,ep,k _ o (fun z=>(hf _ z).2.1 rfl) ho,r⟩
 ·by_cases hb:b=T
  ·subst hb
   rw [upd_same]at e;cases e
   exact⟨hz,aV,rv,ht⟩
  ·rw [A6 hb]at e
   refine(I.hok b u e).stay (fun c v hc q=>k c v ?_ q) (fun c u _ q=>by rw [A6 (neT c _ q)];exact q) fun c xs q=>by rw [A6 (neT c _ q)];exact q
   rcases hc with z | z
   ·rw [z];exact i6 b u e
   ·exact i6 c _ z
noncomputable def J4 (ds:List D):List D:=ds.zipIdx.map fun(p:D×Nat)=>.tup [.int (p.2:Int),p.1]
theorem Q7n {ds:List D}{i:Nat}{d:D} (h:(J4 ds)[i]?=some d):∃x,ds[i]?=some x/\d=.tup [.int (i:Int),x]:=by
 unfold J4 at h
 rw [ah,List.getElem?_zipIdx]at h
 cases e:ds[i]? with
 | none=>rw [e]at h;cases h
 | some x =>
  rw [e]at h
  have h:D.tup [.int ((0+i:Nat):Int),x]=d:=ay h
  exact⟨x,rfl,by rw [<- h,Nat.zero_add]⟩
theorem Q1z (ds:List D):(J4 ds).length=ds.length:=by simp [J4]
noncomputable def Ies (x:Str):It:=⟨fun i _=>i<x.cps.size,fun i H v H'=>∃T c,x.cps[i]?=some c/\H T=none/\v=.ref T/\H'=upd H T (.tup [.int (i:Int),.str ⟨#[c]⟩]),fun i _=>i=x.cps.size⟩
theorem W7q {P:Program}{w:World}{K:Fg9}{cS:List Expr}{kk:Nat}{pt:Pos}{en it:Addr}{x:Str}{t:Tok} (cj:en≠it) :
  Q1c P w K (.Tuple cS kk pt) (Ies x) [en,it] en (fun i h=>(∃old,IsEnum h en it i old)/\h.IsStrIter it (strIterType x) x t i) where
 mem:=by simp
 obj:=fun i h st b hb=>by
  obtain⟨⟨old,he⟩,o,ho,_,d⟩:=st
  rcases ao.mp hb with rfl | hb
  ·exact⟨_,he,fun v z=>by cases z⟩
  ·have e:b=it:=by simpa using hb
   subst e
   exact⟨o,ho,fun v z=>by rw [d]at z;cases z⟩
 keep:=fun i h h' ⟨⟨old,he⟩,o,ho,r⟩ k=>⟨⟨old,k en (by simp) _ he⟩,o,k it (by simp) o ho,r⟩
 item:=by
  intro X hP hw hK hc i ae s σ H E I hf st hg
  subst hP hw hK
  have Dr:Draws X.prog X.w X.A.in1 it [it] x.cps.size (fun i v=>∃c u,x.cps[i]?=some c/\v=.str ⟨#[c]⟩ u) (fun i h=>h.IsStrIter it (strIterType x) x t i):=by
   unfold strIterType
   split
   ·exact Draws.strAscii (A:=X.A.in1) (show X.A.in1.handled=none from I.ok.hd hc) it x t
   ·exact Draws.strWide (A:=X.A.in1) (show X.A.in1.handled=none from I.ok.hd hc) it x t
  have W:=WalksT.enumerateD Dr en cj (by simpa using cj) (by simp)
  have qv:∀b∈[en,it],K9 X ae H b:=hf
  refine W.item i s _ _ hg st fun T ff h' tk hv hT jV i7 k=>?_
  obtain⟨t1,y,⟨c,u,cU,rfl⟩,rfl⟩:=hv
  refine⟨_,rfl,W.go cS kk pt i T { s with heap:=h',toks:=tk } _ _ i7 fun h2 cX k2=>?_⟩
  have iN:∀b o,b∉[en,it]->s.heap.get? b=some o->h2.get? b=some o:=fun b o hb e=>k2 b o hb (k b o hb e)
  have ij:=W.apart i T h' i7
  have eQ:IsTup h2 T ([Value.int (i:Int) t1,Value.str ⟨#[c]⟩ u]).toArray:=by
   obtain⟨o,ho,r⟩:=jV
   exact⟨o,k2 T o ij ho,r⟩
  have I2:=Q9n (t':=tk) (xs:=[.int (i:Int),.str ⟨#[c]⟩]) I iN qv hT eQ (.cons ⟨t1,rfl⟩ (.cons ⟨u,rfl⟩ .nil)) (by show 2<=sizeLine;decide)
  refine⟨.ref T,_,I2,rfl,⟨T,c,cU,I.hok.fresh hT,rfl,rfl⟩,cX,fun b hb=>?_⟩
  rw [A6 (show b≠T from fun z=>ij (by rw [<- z];exact hb))]
  exact(hf b hb).1
 done:=by
  intro X hP hw hK hc i ae s σ H E I hf st hg
  subst hP hw hK
  have hg:i=x.cps.size:=hg
  subst hg
  have Dr:Draws X.prog X.w X.A.in1 it [it] x.cps.size (fun i v=>∃c u,x.cps[i]?=some c/\v=.str ⟨#[c]⟩ u) (fun i h=>h.IsStrIter it (strIterType x) x t i):=by
   unfold strIterType
   split
   ·exact Draws.strAscii (A:=X.A.in1) (show X.A.in1.handled=none from I.ok.hd hc) it x t
   ·exact Draws.strWide (A:=X.A.in1) (show X.A.in1.handled=none from I.ok.hd hc) it x t
  have W:=WalksT.enumerateD Dr en cj (by simpa using cj) (by simp)
  exact W.done s _ _ st fun h' tk k=>⟨rfl,Q4q I k hf⟩
 self:=fun A i s Q E ⟨⟨old,he⟩,_⟩ h=>cf he h
theorem Z6h {K:Fg9}{H:Hp}{x:Str}:YlS K (Ies x) (J4 (T0 x)) H where
 go:=fun H' _ i hi=>by
  have:i<x.cps.size:=by rw [Q1z]at hi;simpa [T0]using hi
  exact this
 yld:=fun H' _ i v cT d hd ⟨T,c,hc,hT,hv,hH⟩=>by
  subst hH hv
  refine⟨G0 hT _,?_⟩
  obtain⟨y,hy,rfl⟩:=Q7n hd
  unfold T0 at hy
  rw [ah]at hy
  have:x.cps.toList[i]?=some c:=by simpa using hc
  rw [this]at hy
  have e:D.str ⟨#[c]⟩=y:=ay hy
  subst e
  exact A3.s_tup upd_same (AllS.cons A3.s_int (AllS.cons A3.s_str AllS.nil))
 stop:=fun H' _=>by
  show(J4 (T0 x)).length=x.cps.size
  rw [Q1z];simp [T0]
noncomputable def Iel (K:Fg9) (l:Addr):It:=⟨fun i H=>∃xs x,E3 K H l xs/\xs[i]?=some x,fun i H v H'=>∃T x,(∀xs,E3 K H l xs->xs[i]?=some x)/\H T=none/\v=.ref T/\H'=upd H T (.tup [.int (i:Int),x]),fun i H=>∃xs,E3 K H l xs/\xs.length=i⟩
theorem Y4l {P:Program}{w:World}{K:Fg9}{cS:List Expr}{kk:Nat}{pt:Pos}{en it l:Addr} (cj:en≠it) (fB:l≠en) (jG:l≠it) :
  Q1c P w K (.Tuple cS kk pt) (Iel K l) [en,it] en (fun i h=>(∃old,IsEnum h en it i old)/\h.IsListIter it l i) where
 mem:=by simp
 obj:=fun i h st b hb=>by
  obtain⟨⟨old,he⟩,o,ho,_,d⟩:=st
  rcases ao.mp hb with rfl | hb
  ·exact⟨_,he,fun v z=>by cases z⟩
  ·have e:b=it:=by simpa using hb
   subst e
   exact⟨o,ho,fun v z=>by rw [d]at z;cases z⟩
 keep:=fun i h h' ⟨⟨old,he⟩,hi⟩ k=>⟨⟨old,k en (by simp) _ he⟩,hi.at fun o e=>k it (by simp) o e⟩
 item:=by
  intro X hP hw hK hc i ae s σ H E I hf st hg
  subst hP hw hK
  obtain⟨xs,x,hq,hx⟩:=hg
  obtain⟨aV,rv,p,hz⟩:=I.list hq
  have W:=WalksT.enumerate (prog:=X.prog) (w:=X.w) (A:=X.A) (I.ok.hd hc) en it l cj fB jG aV.toArray
  obtain⟨u,hu,ru⟩:=rv.get hx
  have bE:i<aV.toArray.size:=by
   rcases bo i aV.length with h | h
   ·simpa using h
   ·rw [aC.mpr h]at hu;cases hu
  refine W.item i s _ _ bE ⟨st.1,st.2,p.isList⟩ fun T ff h' tk hv hT jV i7 k=>?_
  obtain⟨t1,y,hy,rfl⟩:=hv
  have ey:y=u:=by
   have:aV[i]?=some y:=by simpa using hy
   rw [hu]at this;exact(ay this).symm
  subst ey
  refine⟨_,rfl,W.go cS kk pt i T { s with heap:=h',toks:=tk } _ _ i7 fun h2 cX k2=>?_⟩
  have iN:∀b o,b∉[en,it]->s.heap.get? b=some o->h2.get? b=some o:=fun b o hb e=>k2 b o hb (k b o hb e)
  have ij:=W.apart i T h' i7
  have eQ:IsTup h2 T ([Value.int (i:Int) t1,y]).toArray:=by
   obtain⟨o,ho,r⟩:=jV
   exact⟨o,k2 T o ij ho,r⟩
  have I2:=Q9n (t':=tk) (xs:=[.int (i:Int),x]) I iN hf hT eQ (.cons ⟨t1,rfl⟩ (.cons ru .nil)) (by show 2<=sizeLine;decide)
  refine⟨.ref T,_,I2,rfl,⟨T,x,fun ys hy=>by rw [I.list_inj hy hq];exact hx,I.hok.fresh hT,rfl,rfl⟩,⟨cX.1,cX.2.1⟩,fun b hb=>?_⟩
  rw [A6 (show b≠T from fun z=>ij (by rw [<- z];exact hb))]
  exact(hf b hb).1
 done:=by
  intro X hP hw hK hc i ae s σ H E I hf st hg
  subst hP hw hK
  obtain⟨xs,hq,hx⟩:=hg
  obtain⟨aV,rv,p,hz⟩:=I.list hq
  have W:=WalksT.enumerate (prog:=X.prog) (w:=X.w) (A:=X.A) (I.ok.hd hc) en it l cj fB jG aV.toArray
  have hl:=rv.length
  have e:i=aV.toArray.size:=by simp;omega
  subst e
  exact W.done s _ _ ⟨st.1,st.2,p.isList⟩ fun h' tk k=>⟨rfl,Q4q I k hf⟩
 self:=fun A i s Q E ⟨⟨old,he⟩,_⟩ h=>cf he h
theorem W8j {K:Fg9}{H:Hp}{l:Addr}{xs:List V}{ds:List D} (sq:E3 K H l xs) (al:AllS K H ds xs):YlS K (Iel K l) (J4 ds) H where
 go:=fun H' s i hi=>by
  rw [Q1z]at hi
  exact⟨xs,xs[i]'(by rw [<- al.length];exact hi),s.seq sq,ac _⟩
 yld:=fun H' s i v cT d hd ⟨T,x,hx,hT,hv,hH⟩=>by
  subst hH hv
  refine⟨G0 hT _,?_⟩
  obtain⟨y,hy,rfl⟩:=Q7n hd
  obtain⟨v,hv,q⟩:=al.get hy
  rw [hx xs (s.seq sq)]at hv;cases hv
  exact A3.s_tup upd_same (AllS.cons A3.s_int (AllS.cons (q.mono (Kp.of (s.trans (G0 hT _))) _ _) AllS.nil))
 stop:=fun H' s=>⟨xs,s.seq sq,by rw [Q1z];exact al.length.symm⟩
end
section
variable {X:Cx}{H0:Hp}{a b c e o tg:Expr}{pos apos bc:Pos}{wa wb we:WE}{wr:WA}
theorem B4.mutate {K:Fg9}{H:Hp} {τ:A8} {σ:St}{i:Nat}{ds kE:List D}{a:Addr}{xs jl:List V} (hR:B4 K H0 τ σ H) (e1:τ[i]?=some (some (.own ds))) (hv:σ[i]?=some (some (.ref a))) (h0:H0 a=none) (sq:H a=some (.lst xs)) (al:AllS K H kE jl) :
  B4 K H0 (τ.set i (some (.own kE))) σ (upd H a (.lst jl)):=by
 have kp:Kp H (upd H a (.lst jl)):=Kp.upd sq _
 have hl:i<τ.length:=by
  rcases bo i τ.length with h | h
  ·exact h
  ·rw [aC.mpr h]at e1;cases e1
 have old:∀(j:Nat) (s:Sl),(τ.set i (some (.own kE)))[j]?=some (some s)->j≠i->τ[j]?=some (some s):=fun j s e hj=>by rw [aG (fun z=>hj z.symm)]at e;exact e
 have ef:∀(j:Nat) (s:Sl),(τ.set i (some (.own kE)))[j]?=some (some s)->s.mut=true->∃t,τ[j]?=some (some t)/\t.mut=true:=fun j s e m=>by
  by_cases hj:j=i
  ·subst hj;exact⟨_,e1,rfl⟩
  ·exact⟨s,old j s e hj,m⟩
 refine⟨by rw [bg];exact hR.len,fun b ob hb=>?_,fun j s e=>?_,fun j k s t v cj e2 e3 m1 m2 q1 q2=>?_⟩
 ·rw [A6 (V9 hb h0)];exact hR.same b ob hb
 ·by_cases hj:j=i
  ·subst hj
   rw [Q0c hl]at e;cases e
   exact⟨_,hv,a,jl,rfl,h0,upd_same,al.mono kp _ _⟩
  ·have e:=old j s e hj
   obtain⟨v,q,r⟩:=hR.here j s e
   refine⟨v,q,?_⟩
   have ap:s.mut=true->v≠.ref a:=fun m z=>by
    subst z
    exact hR.apart i j _ s (.ref a) (fun z=>hj z.symm) e1 e rfl m hv q
   cases s with
   | dat d=>exact A3.mono kp _ _ r
   | own es=>obtain⟨b,ys,e,n,q,t⟩:=r;exact⟨b,ys,e,n,by rw [A6 (fun z=>ap rfl (by rw [e,z]))];exact q,t.mono kp _ _⟩
   | bor es=>obtain⟨b,ys,e,q,t⟩:=r;exact⟨b,ys,e,q,t.mono kp _ _⟩
   | bd es=>obtain⟨b,ys,e,q,t⟩:=r;exact⟨b,ys,e,q,t.mono kp _ _⟩
   | dk es=>obtain⟨b,ys,e,n,q,t⟩:=r;exact⟨b,ys,e,n,by rw [A6 (fun z=>ap rfl (by rw [e,z]))];exact q,t.mono kp _ _⟩
   | dt es=>obtain⟨b,ys,e,n,q,t⟩:=r;exact⟨b,ys,e,n,by rw [A6 (fun z=>ap rfl (by rw [e,z]))];exact q,t.mono kp _ _⟩
   | ob _=>exact r
   | cl _ _=>exact⟨r.1,r.2.2 _ _ kp r.2.1,r.2.2⟩
   | ll _ _=>exact⟨r.1,r.2.keep kp fun b φ q=>by rw [A6 (Y0 q sq (by intro z;cases z))];exact q⟩
   | ins _ _ _=>obtain⟨e,n,dx,ys,q,t⟩:=r;exact⟨e,n,dx,ys,by rw [A6 (fun z=>ap rfl (by rw [e,z]))];exact q,t.mono kp _ _⟩
 ·obtain⟨s',mn,l6⟩:=ef j s e2 m1
  obtain⟨t',ml,l5⟩:=ef k t e3 m2
  exact hR.apart j k s' t' v cj mn ml l6 l5 q1 q2
theorem B4.ownAt {K:Fg9}{H:Hp} {τ:A8} {σ:St}{i:Nat}{ds:List D} (hR:B4 K H0 τ σ H) (e1:τ[i]?=some (some (.own ds))):∃a xs,σ[i]?=some (some (.ref a))/\H0 a=none/\H a=some (.lst xs)/\AllS K H ds xs:=by
 obtain⟨v,hv,a,xs,rfl,h0,sq,al⟩:=hR.here i _ e1
 exact⟨a,xs,hv,h0,sq,al⟩
def Q4 (i:Nat) (we:WE):WS:=fun E τ=>∃ds,τ[i]?=some (some (.own ds))/\we τ fun r=>∃d,r=.st d/\ds.length<sizeLine/\E.nx (τ.set i (some (.own (ds++[d]))))
theorem DS.append {i:Nat} (ho:PE X o (M0 i)) (he:DE X H0 e we) (eA:attributeBase o "append" X.env (eval o X.env)=eval o X.env:=by rfl)
  (fZ:((backTo bc (starEach [e] X.env)).all (fun x=>!x.1)&&(backToKw bc (keywordEach [] X.env)).all (fun x=>x.1.isSome)&&decide ([e].length+([]:List Keyword).length+(if ([]:List Keyword).isEmpty then 0 else 1)<30))=true:=by rfl)
  (dH:(apos.endLine==bc.line)=true:=by rfl) (hs:starEach [e] X.env=(false,eval e X.env)::starEach [] X.env:=by rfl) (dl:(backTo bc (starEach [] X.env)).any (·.1)=false:=by rfl)
  (fT:swapsWith (.Call (.Attribute o "append" apos) [e] [] bc) none pos.line X.env=pure false:=by rfl):DS X H0 (.Expr (.Call (.Attribute o "append" apos) [e] [] bc) pos) (Q4 i we) where
 mono:=fun τ E F le ⟨ds,e1,h⟩=>⟨ds,e1,he.mono τ _ _ (fun r ⟨d,e2,h1,h2⟩=>⟨d,e2,h1,le.nx _ h2⟩) h⟩
 ps:=O2 (Q8q (Y1l PySem.F.plainAttrs_list PySem.F.slot_list_append PySem.F.type_list_append W0o ho (Q1n he.pe Q3g hs) eA fZ dH hs dl) fT) fun D σ H ⟨τ,hR,ds,e1,h⟩=>by
  obtain⟨a,xs,hv,h0,sq,al⟩:=hR.ownAt e1
  refine⟨_,hv,.inl ⟨rfl,_,E3.of sq⟩,τ,hR,he.mono τ _ _ (fun r ⟨d,e2,h1,h2⟩ v H1 s1 ir=>?_) h⟩
  subst e2
  have cD:=hR.mono s1
  refine⟨a,xs,v,rfl,rfl,s1 _ _ sq,by rw [<- al.length];exact h1,h2 σ _ ((Kp.of s1).trans (Kp.upd (s1 _ _ sq) _)) ?_⟩
  exact cD.mutate e1 hv h0 (s1 _ _ sq) ((al.mono (Kp.of s1) _ _).append (AllS.cons ir AllS.nil))
end
end TK
end
section
namespace HT
open PySem PyProof.Rows
section
variable {prog:Program}{w:World}{A:Around}{E:VS9}{s:Shared}
end
end HT
namespace TK
open PySem PySem.Spec PyProof.Rows L2
section
variable {X:Cx}{H0:Hp}{a b c e o tg:Expr}{pos p2:Pos}{wa wb we:WE}{lo hi:Option Expr}
variable {wl wh:WO}
end
end TK
end
section
namespace TK
open PySem PySem.Spec PyProof.Rows L2
section
variable {X:Cx}{H0:Hp}{a b c e o tg:Expr}{pos be p p2:Pos}{wa wb we:WE}{x:Str}{d:Addr}{kvs:List (Str×Int)}
theorem DE.gstr {z:Str} (hg:Gl X x) (hm:∃t,X.mg x=some (.str z t)) (hd:(x==("__debug__":Str))=false:=by decide):DE X H0 (.Name x pos) (wC (.str z)):=by
 obtain⟨t,hm⟩:=hm
 exact DE.con (W2l (v:=.str z) hg hm ⟨t,rfl⟩ hd) fun _ _=>A3.s_str
def Q4s (i:Nat) (g:R->R->(R->Prop)->Prop) (we:WE):WS:=fun E τ=>∃s,τ[i]?=some (some s)/\we τ fun y=>g (rdS s) y fun r=>Q1a r fun s'=>E.nx (τ.set i (some s'))
theorem DS.aug {i:Nat}{op:Operator}{g:R->R->(R->Prop)->Prop} (ho:OpD X (inplaceOp op) g) (mg:Y7 g) (he:DE X H0 e we) (hN:X.N.Nodup) (hi:X.N[i]?=some x) (hx:Loc X.env.scope x)
  (hf:X.fn x=true\/X.env.scope.names.lookup x=some .local:=by first | exact .inl rfl | exact .inr rfl | assumption):DS X H0 (.AugAssign (.Name x be) op e pos) (Q4s i g we) where
 mono:=fun τ E F le ⟨s,e1,h⟩=>⟨s,e1,he.mono τ _ _ (fun y h=>mg _ _ _ _ (fun r h=>Y4f (fun s h=>le.nx _ h) h) h) h⟩
 ps:=O2 (W3d hN hi hx he.pe ho hf) fun D σ H ⟨τ,hR,s,e1,h⟩=>by
  obtain⟨v,hv,q⟩:=hR.here i s e1
  refine⟨v,hv,τ,hR,he.mono τ _ _ (fun y h u H1 s1 iu=>?_) h⟩
  have iv:IsV X.K H1 (rdS s) v:=(SlR.rd (Hs:=fun _=>none) hR.same q).mono s1
  refine⟨rdS s,y,iv,iu.v,mg _ _ _ _ (fun r h z H2 s2 iz=>?_) h⟩
  obtain⟨s',p,cM⟩:=(hR.mono s1).store (i:=i) s2 iz h
  exact p _ _ (Kp.of (s1.trans s2)) cM
theorem Y1g:OpD X (inplaceOp .Add) (N3 NoC fun i j=>i+j):=OpD.ints0 Y8n
noncomputable def blkB (sc:Scope) (N0:List Str) (scope:Scope) (N:List Str) (nt:Nat) (cap:List Nat):Bool :=
 decide (scope.kind=.function)&&scope.names.all (fun y=>y.2 != .cell)&&scope.names.all (fun y=>y.2 != .local||scope.names.lookup y.1==some .local) &&
 scope.names.all (fun y=>y.2 != .free||scope.names.lookup y.1==some .free)&&scope.names.all (fun y=>y.2 != .free||sc.names.lookup y.1==some .cell||sc.names.lookup y.1==some .free) &&
 decide (N.length=nt+cap.length)&&(List.range cap.length).all (fun j=>match cap[j]?,N[nt+j]? with | some i,some x=>N0[i]?==some x&&scope.names.contains (x,NameKind.free) | _,_=>false)
theorem W6 {sc:Scope}{N0:List Str}{scope:Scope}{N:List Str}{nt:Nat}{cap:List Nat} (h1:X.env.scope=sc) (h2:X.N=N0) (h:blkB sc N0 scope N nt cap=true):J7 X scope N nt cap:=by
 subst h1 h2
 unfold blkB at h
 simp only [de]at h
 obtain⟨⟨⟨⟨⟨⟨a1,a2⟩,a3⟩,a4⟩,a5⟩,a6⟩,a7⟩:=h
 refine⟨eT a1,fun y hy=>?_,fun y hy e=>?_,fun y hy e=>?_,fun y hy e=>?_,eT a6,fun j i x hj hx=>?_⟩
 ·simpa using bP.mp a2 y hy
 ·have:=bP.mp a3 y hy
  rw [e]at this
  simpa using this
 ·have:=bP.mp a4 y hy
  rw [e]at this
  simpa using this
 ·have:=bP.mp a5 y hy
  rw [e]at this
  have this:X.env.scope.names.lookup y.1=some .cell\/X.env.scope.names.lookup y.1=some .free:=by simpa using this
  exact this
 ·have bE:j<cap.length:=by
   rcases bo j cap.length with h | h
   ·exact h
   ·rw [aC.mpr h]at hj;cases hj
  have:=bP.mp a7 j (bL.mpr bE)
  rw [hj,hx]at this
  simpa using this
theorem Q7r {A:Around}{k:Nat} (hr:C2 k A):A.units+60<cLine:=by have:=hr.units;omega
theorem C2.hu1 {A:Around}{k:Nat} (hr:C2 k A):A.units+1<cLine:=by have:=hr.units;omega
end
end TK
end
section
namespace HT
open PySem PySem.Spec PyProof.Rows
open AutoSeq1 (wpAny_loadPart')
theorem W0v:fillsNumberSlot (.type "tuple") "mul"=pure false :=
 PySem.fillsNumberSlot_seq (id:="tuple.__mul__") (r:=some (.builtin "tuple.__rmul__")) F.slot_tuple_mul.lookup (by decide +kernel) F.slot_tuple_rmul.lookup (by decide +kernel)
theorem W4u:seqRepeat? (.type "tuple")=pure (some (.builtin "tuple.__mul__")):=by
 unfold seqRepeat?
 rw [PySem.seqSlot_of (T:="tuple") (name:="__mul__") (id:="tuple.__mul__") F.slot_tuple_mul.lookup (by decide +kernel),PySem.seqSlot_of (T:="tuple") (name:="__rmul__") (id:="tuple.__rmul__") F.slot_tuple_rmul.lookup (by decide +kernel)]
 rfl
theorem W4y (a:Int) (t:Tok) (l:Addr) (items:Array Value) (n:Nat) (dd:Option Addr) (sl:Array (Option Value)) :
  Meets (Builtin.«int.__rmul__» ⟨[.int a t,.ref l],[]⟩) (fun _ R s=>s.heap.get? l=some { cls:=.type "tuple",dict:=dd,data:=.seq items n,slots:=sl }/\R (.ok (.ret Value.notImplemented)) s) :=
 .of_wp fun prog w A R s h=>by obtain⟨hp,g,d,tk,os⟩:=s;obtain⟨hl,h⟩:=h;wp_walk;exact⟨_,rfl,h⟩
section
variable {prog:Program}{w:World}{A:Around}{E:VS9}{s:Shared}
end
end HT
namespace TK
open PySem PySem.Spec PyProof.Rows L2
section
variable {X:Cx}{H0:Hp}{a b c e o tg:Expr}{pos be p p2 p3 p4:Pos}{wa wb we:WE}
end
end TK
end
section
namespace TK
open PySem PySem.Spec PyProof.Rows L2
def B3 (we:WE):WE:=fun τ Q=>we τ fun r=>fzR r fun d=>Q (.st d)
def wB (t:WT):WE:=fun τ Q=>t τ fun k=>Q (.st (.bl k))
def Z5l (we:WE):WT:=fun τ Q=>we τ fun r=>Q2m r Q
def T2:WT:=fun _ Q=>Q true
def Z1s (we:WE):WI:=fun τ Q=>we τ fun r=>∃ds,r=.st (.lst ds)/\Q ds τ
def iBor (i:Nat):WI:=fun τ Q=>∃ds,τ[i]?=some (some (.bor ds))/\Q ds τ
def Q5p (we:WE):WI:=fun τ Q=>we τ fun r=>∃ds,r=.st (.tup ds)/\Q ds τ
def Q2b (wr:WA):WI:=fun τ Q=>wr τ fun rs=>∃j:Int,rs=[.st (.int j)]/\-(2 ^ 62)<=j/\j<2 ^ 62/\Q (Q3 0 j.toNat) τ
noncomputable def Q2c (we:WE):P5:=fun τ Q=>we τ fun r=>∃ds,Q0r r=some ds/\Q ds
noncomputable def Q3z (we:WE):P5:=fun τ Q=>we τ fun r=>∃ds,r=.st (.tup ds)/\Q ds
noncomputable def Q3y (wr:WA):P5:=fun τ Q=>wr τ fun rs=>∃j:Int,rs=[.st (.int j)]/\-(2 ^ 62)<=j/\j<2 ^ 62/\Q (Q3 0 j.toNat)
def V1 (wi:WI) (g:WG) (wb:WS):WS:=fun E τ=>wi τ fun ds τ'=>F6 g wb E ds τ'
def Q6q (we:WE) (g:WG):WS:=fun E τ=>we τ fun r=>∃d,r=.st d/\g d τ E.nx
def Y4y (i:Nat):WS:=fun E τ=>∃s,τ[i]?=some (some s)/\Q3f s E.rt
structure Df (K:Fg9) (mg:Str->Option Value) (name:Str) (st:Stmt) (ps:List Str) (f:Addr) (fd:FuncData):Prop where
 F:O8 K name name st f fd
 b:V2 K fd ps []
 k:PySem.W.keepIn K (.ref f)=true
 m:mg name=some (.ref f)
abbrev FnD (P:Program) (w:World) (K:Fg9) (mg:Str->Option Value) (base:Heap) (k:Nat) (f:Addr) (fd:FuncData) (ps:List Str) (sp:D6):Prop:=P8 P w K mg base K8 k f fd ps (Q4f K ps.length sp)
noncomputable def Y6 (r:R):G8:={ nx:=fun _=>r=.st .non,rt:=fun r'=>r'=r,bk:=fun _=>False,ct:=fun _=>False }
section
variable {P:Program}{w:World}{K:Fg9}{mg:Str->Option Value}{base:Heap}
theorem Df.ok {x:Str}{st:Stmt}{f:Addr}{fd:FuncData}{N ps:List Str}{k:Nat}{sp:D6}{ws:WS} (F:Df K mg x st ps f fd) (S:G4 N ps (B8 st))
  (bS:∀(cdv:Value) (A:Around) (outer:List Env) (s:Shared) (H:Hp) (E:XK),C2 k (A.deeper (envOfC x (B8 st) s.heap.objs.size f cdv))->A4 (W7 K8 P w K mg base N x (B8 st) f cdv A outer s H E).nox H (R9 st) ws)
  (hr:∀rs r,rs.length=ps.length->sp rs r->ws (Y6 r) (E7 N rs)):FnD P w K mg base (k+1) f fd ps sp :=
 O8.okD F.F S fun cdv A outer s H E lA=>⟨ws,bS cdv A outer s H E lA,hr⟩
end
section
variable {τ:A8}{E:G8}{Q:R->Prop}{QB:Bool->Prop}{wa wb we:WE}{wr:WA}{t u:WT}{ws wt:WS}{i j:Int}{n:Nat}{x y:Str}{ds es:List D}{d e:D}
@[simp] theorem G3:B1 ws wt E τ=ws { E with nx:=wt E } τ:=rfl
@[simp] theorem Q6h:O7 E τ=E.nx τ:=rfl
@[simp] theorem Q4n:O6 t ws wt E τ=t τ fun k=>if k=true then ws E τ else wt E τ:=rfl
@[simp] theorem S7:G1 we E τ=we τ fun r=>Q4k r E.rt:=rfl
@[simp] theorem W6b:Y4y n E τ=∃s,τ[n]?=some (some s)/\Q3f s E.rt:=rfl
@[simp] theorem O4:C8 n we E τ=we τ fun r=>Q1a r fun s=>E.nx (τ.set n (some s)):=rfl
@[simp] theorem Y2h {g:R->R->(R->Prop)->Prop}:Q4s n g we E τ=∃s,τ[n]?=some (some s)/\we τ fun y=>g (rdS s) y fun r=>Q1a r fun s'=>E.nx (τ.set n (some s')):=rfl
@[simp] theorem Q8u {g:WG}:Q6q we g E τ=we τ fun r=>∃d,r=.st d/\g d τ E.nx:=rfl
@[simp] theorem Q3i:Q4 n we E τ=∃ds,τ[n]?=some (some (.own ds))/\we τ fun r=>∃d,r=.st d/\ds.length<sizeLine/\E.nx (τ.set n (some (.own (ds++[d])))):=rfl
@[simp] theorem Q1o {wi:WI}{g:WG}:V1 wi g ws E τ=wi τ fun ds τ'=>F6 g ws E ds τ':=rfl
@[simp] theorem C1:wV n τ Q=∃s,τ[n]?=some (some s)/\Q (rdS s):=rfl
@[simp] theorem J9:wC d τ Q=Q (.st d):=rfl
@[simp] theorem J5 {α:Type}{g:R->R->(α->Prop)->Prop}{Q:α->Prop}:A7 g wa wb τ Q=wa τ fun x=>wb τ fun y=>g x y Q:=rfl
@[simp] theorem s_b:wB t τ Q=t τ fun k=>Q (.st (.bl k)):=rfl
@[simp] theorem W6d:Z5l we τ QB=we τ fun r=>Q2m r QB:=rfl
@[simp] theorem s_or:wOr t u τ QB=t τ fun k=>if k=true then QB true else u τ QB:=rfl
@[simp] theorem W5d:Q3k wa wb τ Q=wa τ fun r=>blR r fun k=>if k=true then wb τ Q else Q (.st (.bl false)):=rfl
@[simp] theorem s_orV:Z5i wa wb τ Q=wa τ fun r=>blR r fun k=>if k=true then Q (.st (.bl true))else wb τ Q:=rfl
@[simp] theorem W5y:Q6s wa τ Q=wa τ fun r=>blR r fun k=>Q (.st (.bl (!k))):=rfl
@[simp] theorem C7 {Q:List R->Prop}:A2 τ Q=Q []:=rfl
@[simp] theorem D4 {Q:List R->Prop}:A0 we wr τ Q=we τ fun r=>wr τ fun rs=>Q (r::rs):=rfl
@[simp] theorem s_tup:W4 wr τ Q=wr τ fun rs=>∃ds,Q0l rs=some ds/\ds.length<=sizeLine/\Q (.st (.tup ds)):=rfl
@[simp] theorem s_lst:R0 wr τ Q=wr τ fun rs=>∃ds,Q0l rs=some ds/\ds.length<=sizeLine/\Q (.nw ds):=rfl
@[simp] theorem G2:B3 we τ Q=we τ fun r=>fzR r fun d=>Q (.st d):=rfl
@[simp] theorem L0 {g:List R->(R->Prop)->Prop}:C3 g wr τ Q=wr τ fun rs=>g rs Q:=rfl
@[simp] theorem Q0i {sp:D6}:U4 sp wr τ Q=wr τ fun rs=>rs.all N7=true/\∃r,sp (rs.map nrm) r/\Q r:=rfl
@[simp] theorem W6e:T2 τ QB=QB true:=rfl
@[simp] theorem Q0y {cap:List Nat}{wi:P5}{g:WG}:V0 n cap wi g t we τ Q=wi τ fun ds=>ds.length<=sizeLine/\N8 g t we ds (R5 n cap τ) fun es=>Q (.nw es):=rfl
@[simp] theorem U9 {Q:A8->Prop}:C0 n d τ Q=Q (τ.set n (some (.dat d))):=rfl
@[simp] theorem Q2k {Q:A8->Prop}:gNl ds τ Q=(ds=[]/\Q τ):=rfl
@[simp] theorem Q2j {g:WG}{gs:WGs}{Q:A8->Prop}:G7 g gs ds τ Q=∃d r,ds=d::r/\g d τ fun τ'=>gs r τ' Q:=rfl
@[simp] theorem Q2l {gs:WGs}{Q:A8->Prop}:gTp n gs d τ Q=∃ds,d=.tup ds/\ds.length=n/\gs ds τ Q:=rfl
@[simp] theorem W5j {Q:List D->A8->Prop}:Z1s we τ Q=we τ fun r=>∃ds,r=.st (.lst ds)/\Q ds τ:=rfl
@[simp] theorem W5k {Q:List D->A8->Prop}:Q5p we τ Q=we τ fun r=>∃ds,r=.st (.tup ds)/\Q ds τ:=rfl
@[simp] theorem Z3s {Q:List D->A8->Prop}:Q2b wr τ Q=wr τ fun rs=>∃j:Int,rs=[.st (.int j)]/\-(2 ^ 62)<=j/\j<2 ^ 62/\Q (Q3 0 j.toNat) τ:=rfl
@[simp] theorem Q6g {Q:List D->Prop}:Q2c we τ Q=we τ fun r=>∃ds,Q0r r=some ds/\Q ds:=rfl
@[simp] theorem Q8v {Q:List D->Prop}:Q3y wr τ Q=wr τ fun rs=>∃j:Int,rs=[.st (.int j)]/\-(2 ^ 62)<=j/\j<2 ^ 62/\Q (Q3 0 j.toNat):=rfl
@[simp] theorem Q8:rdS (.dat d)=.st d:=rfl
@[simp] theorem W0:rdS (.own ds)=.bw ds:=rfl
@[simp] theorem o_sl1:O5 (.st d)=.dat d:=rfl
@[simp] theorem o_sl2:O5 (.bw ds)=.bor ds:=rfl
@[simp] theorem W1h:Q4k (.st d) Q=Q (.st d):=rfl
@[simp] theorem Q2 {P:Sl->Prop}:Q1a (.st d) P=P (.dat d):=rfl
@[simp] theorem Q4i {P:Sl->Prop}:Q1a (.nw ds) P=P (.own ds):=rfl
@[simp] theorem Q8m {P:D->Prop}:fzR (.st d) P=P d:=rfl
@[simp] theorem o_bl {b:Bool}:blR (.st (.bl b)) QB=QB b:=rfl
@[simp] theorem o_d1:R.d (.st d)=some d:=rfl
@[simp] theorem o_d2:R.d (.nw ds)=some (.lst ds):=rfl
@[simp] theorem o_d3:R.d (.bw ds)=some (.lst ds):=rfl
@[simp] theorem o_nrm1:nrm (.st d)=.st d:=rfl
@[simp] theorem o_nrm2:nrm (.nw ds)=.bw ds:=rfl
@[simp] theorem o_nrm3:nrm (.bw ds)=.bw ds:=rfl
@[simp] theorem o_arg1:N7 (.st d)=true:=rfl
@[simp] theorem o_arg2:N7 (.nw ds)=true:=rfl
@[simp] theorem o_arg3:N7 (.bw ds)=true:=rfl
@[simp] theorem W1f:Q0r (.st (.lst ds))=some ds:=rfl
@[simp] theorem o_sa0:Q0l []=some []:=rfl
@[simp] theorem o_sa1 {rs:List R}:Q0l (.st d::rs)=(Q0l rs).map (d::·):=rfl
@[simp] theorem Q1l:K5 (.st (.int i)) (.st (.int j)) Q=Q (.st (.int (i+j))):=rfl
@[simp] theorem W1c:K5 (.st (.str x)) (.st (.str y)) Q=(x.length+y.length<=sizeLine/\Q (.st (.str (x++y)))):=rfl
@[simp] theorem Y1f:X0 (.st (.int i)) (.st (.int j)) Q=(Q1q i j/\Q (.st (.int (i*j)))):=rfl
@[simp] theorem Y1e {C:Int->Int->Prop}{f:Int->Int->Int}:TK.N3 C f (.st (.int i)) (.st (.int j)) Q=(C i j/\Q (.st (.int (f i j)))):=rfl
@[simp] theorem Q0v {f:Int->Int->Bool}:T8 f (.st (.int i)) (.st (.int j)) QB=QB (f i j):=rfl
@[simp] theorem Z2w:F1 (.st (.lst ds)) (.st (.int i)) Q=∃d,K6 ds i=some d/\Q (.st d):=rfl
@[simp] theorem Q6b:F1 (.bw ds) (.st (.int i)) Q=∃d,K6 ds i=some d/\Q (.st d):=rfl
@[simp] theorem Z2x:F1 (.st (.tup ds)) (.st (.int i)) Q=∃d,K6 ds i=some d/\Q (.st d):=rfl
@[simp] theorem o_len1:F2 [.st (.lst ds)] Q=Q (.st (.int ds.length)):=rfl
@[simp] theorem Z2y:F2 [.st (.tup ds)] Q=Q (.st (.int ds.length)):=rfl
@[simp] theorem o_len3:F2 [.nw ds] Q=Q (.st (.int ds.length)):=rfl
@[simp] theorem Q0h:F2 [.bw ds] Q=Q (.st (.int ds.length)):=rfl
@[simp] theorem Z2z:F2 [.st (.str x)] Q=(x.length<=sizeLine/\Q (.st (.int x.length))):=rfl
@[simp] theorem Z2v {r1 r2:R}{b:Bool}:E9 n b r1 r2 QB=∃d e,r1.d=some d/\r2.d=some e/\d.depth<=n/\QB (if b then !D.eq d e else D.eq d e):=rfl
@[simp] theorem W1i {b:Bool}:Q2m (.st (.bl b)) QB=QB b:=rfl
@[simp] theorem o_e1:D.eq (.int i) (.int j)=(i==j):=by simp [D.eq]
@[simp] theorem o_e2:D.eq (.str x) (.str y)=(x==y):=by simp [D.eq]
@[simp] theorem o_e3 {b c:Bool}:D.eq (.bl b) (.bl c)=(b==c):=by simp [D.eq]
@[simp] theorem o_e4:D.eq (.lst ds) (.lst es)=D.eqs ds es:=by simp [D.eq]
@[simp] theorem o_e5:D.eq (.tup ds) (.tup es)=D.eqs ds es:=by simp [D.eq]
@[simp] theorem o_eN:D.eqs ds []=ds.isEmpty:=by cases ds <;> simp [D.eqs]
@[simp] theorem W1d {r r':R}:(Y6 r).rt r'=(r'=r):=rfl
@[simp] theorem o_endn {r:R}:(Y6 r).nx τ=(r=.st .non):=rfl
@[simp] theorem o_dep0:D.depth (.int i)=0:=by simp [D.depth]
@[simp] theorem o_dep1:D.depth (.str x)=0:=by simp [D.depth]
@[simp] theorem o_zl:(0:Nat)<=sizeLine:=bD _
@[simp] theorem W8u {N:List Str}{rs:List R}:E7 N rs=rs.map (fun r=>some (O5 r))++List.replicate (N.length-rs.length) none:=rfl
end
section
variable {X:Cx}{ae:Pn9} {σ:St}{H:Hp}{s:Shared}
open PySem.SeqAt
theorem W3s {d1 d2:D}{u1 u2:Value}{A:Around} (h1:Vw X H s d1 u1) (h2:Vw X H s d2 u2) (hu:A.units<cLine) (hb:¬ Q2v d1 d2):RcNeAt A s u1 u2 (!D.eq d1 d2):=by
 cases h1 <;> cases h2 <;> first | exact absurd (.inl ⟨_,_,rfl,rfl⟩) hb | exact absurd (.inr ⟨_,_,rfl,rfl⟩) hb | (unfold D.eq;(try simp only [Bool.not_true,Bool.not_false]);(with_reducible first | exact RcNeAt.none_none | exact RcNeAt.none_bool _ | exact RcNeAt.none_int _ _ | exact RcNeAt.none_str _ _ | exact RcNeAt.none_tuple (by assumption) hu | exact RcNeAt.none_list (by assumption) hu | exact RcNeAt.bool_none _ | exact RcNeAt.bool_bool _ _ | exact RcNeAt.bool_int _ _ _ | exact RcNeAt.bool_str _ _ _ | exact RcNeAt.bool_tuple _ (by assumption) hu | exact RcNeAt.bool_list _ (by assumption) hu | exact RcNeAt.int_none _ _ | exact RcNeAt.int_bool _ _ _ | exact RcNeAt.int_int _ _ _ _ | exact RcNeAt.int_str _ _ _ _ | exact RcNeAt.int_tuple _ _ (by assumption) hu | exact RcNeAt.int_list _ _ (by assumption) hu | exact RcNeAt.str_none _ _ | exact RcNeAt.str_bool _ _ _ | exact RcNeAt.str_int _ _ _ _ | exact RcNeAt.str_str _ _ _ _ | exact RcNeAt.str_tuple _ _ (by assumption) hu | exact RcNeAt.str_list _ _ (by assumption) hu | exact RcNeAt.tuple_none (by assumption) hu | exact RcNeAt.tuple_bool _ (by assumption) hu | exact RcNeAt.tuple_int _ _ (by assumption) hu | exact RcNeAt.tuple_str _ _ (by assumption) hu | exact RcNeAt.tuple_list (by assumption) (by assumption) hu | exact RcNeAt.list_none (by assumption) hu | exact RcNeAt.list_bool _ (by assumption) hu | exact RcNeAt.list_int _ _ (by assumption) hu | exact RcNeAt.list_str _ _ (by assumption) hu | exact RcNeAt.list_tuple (by assumption) (by assumption) hu))
theorem W3r (I:A1 X ae σ H s) (n:Nat) (d1 d2:D) (v1 v2:V) (u1 u2:Value) (A:Around) (hd:d1.depth<=n) (h1:IsW X.K H d1 v1) (h2:IsW X.K H d2 v2) (r1:B7 v1 u1) (r2:B7 v2 u2) (hu:A.units+n+1<cLine):RcNeAt A s u1 u2 (!D.eq d1 d2):=by
 have w1:=Q4r I h1 r1
 have w2:=Q4r I h2 r2
 by_cases hb:Q2v d1 d2
 ·obtain⟨p,q,rfl,rfl⟩ | ⟨p,q,rfl,rfl⟩:=hb
  ·cases w1;cases w2
   rename_i a1 fK eL fO gH eS a2 ga bZ dZ eE cH
   have hd:D.depths p+1<=n:=by unfold D.depth at hd;exact hd
   have l1:eL.toArray.size=p.length:=by have:=eS.length;have:=fO.length;simp;omega
   have l2:bZ.toArray.size=q.length:=by have:=cH.length;have:=dZ.length;simp;omega
   have k:=RcNeAt.tuples (A:=A) (s:=s) (e:=fun i=>match p[i]?,q[i]? with | some x,some y=>D.eq x y | _,_=>true) gH eE (by omega) (fun j iX gq=>by
    obtain⟨d1,v1,e1,i1,w1⟩:=Q1u eS fO iX
    obtain⟨d2,v2,e2,i2,w2⟩:=Q1u cH dZ gq
    simp only [e1,e2]
    exact Q7o I (fun A=>Z3k I n d1 d2 v1 v2 _ _ A (by have:=D.depths_get e1;omega) i1.w i2.w w1 w2) i1 i2 w1 w2 (by simp only [cW];omega))
   rw [l1,l2]at k
   unfold D.eq;rw [D.eqs_range];exact k
  ·cases w1;cases w2
   rename_i a1 fK eL fO gH eS a2 ga bZ dZ eE cH
   have hd:D.depths p+1<=n:=by unfold D.depth at hd;exact hd
   have l1:eL.toArray.size=p.length:=by have:=eS.length;have:=fO.length;simp;omega
   have l2:bZ.toArray.size=q.length:=by have:=cH.length;have:=dZ.length;simp;omega
   have kk:RcNeAt A s (.ref a1) (.ref a2) (!D.eqs p q):=by
    rw [D.eqs_range]
    by_cases bI:p.length=q.length
    ·have k:=RcNeAt.lists (A:=A) (s:=s) (e:=fun i=>match p[i]?,q[i]? with | some x,some y=>D.eq x y | _,_=>true) gH eE (by omega) (by omega) (fun j iX gq=>by
      obtain⟨d1,v1,e1,i1,w1⟩:=Q1u eS fO iX
      obtain⟨d2,v2,e2,i2,w2⟩:=Q1u cH dZ gq
      simp only [e1,e2]
      exact Q7o I (fun A=>Z3k I n d1 d2 v1 v2 _ _ A (by have:=D.depths_get e1;omega) i1.w i2.w w1 w2) i1 i2 w1 w2 (by simp only [cW];omega))
     rw [l1]at k
     rw [<- bI,Nat.min_self,beq_self_eq_true,Bool.and_true]
     exact k
    ·rw [bO.mpr bI,Bool.and_false]
     exact RcNeAt.lists_lengths gH eE (by rw [l1,l2];simpa using bI) (by omega)
   unfold D.eq;exact kk
 ·exact W3s w1 w2 (by omega) hb
theorem T7 {n:Nat} (hu:X.A.units+n+1<cLine):Z9 X .NotEq (E9 n true):=by
 intro ae s σ H x y v u Q I rx ry ⟨r1,r2,h1,h2,d,e,e1,e2,hd,q⟩
 exact W3r I n d e x y v u X.A hd (h1.w e1) (h2.w e2) rx ry hu _ _ _ _ ⟨.bl _,H,I,rfl,q⟩
theorem U0 {A:Around}{k:Nat} (hr:C2 k A):A.units+59+1<cLine:=by have:=hr.units;omega
end
section
variable {X:Cx}{H0:Hp}{a b c e o tg:Expr}{pos apos bc:Pos}{wa wb wc we:WE}{wr:WA}
noncomputable def Q7s (x y:Str):Option Nat:=(Builtin.Str.occurrences x y 0 x.length 1).head?
def Z4z (wo we:WE):WE:=fun τ Q=>wo τ fun r1=>∃x,r1=.st (.str x)/\we τ fun r=>∃y i,r=.st (.str y)/\Q7s x y=some i/\Q (.st (.int (i:Int)))
theorem W0p:MtR X "str.index" (fun x vs H Q=>∃z y i,x=.str z/\vs=[.str y]/\Q7s z y=some i/\Q (.int (i:Int)) H):=by
 intro ae s σ H x vs v us Q I rx rv ⟨z,y,i,e1,e2,hi,q⟩
 subst e1 e2
 obtain⟨t,rfl⟩:=rx
 obtain⟨u,rfl,t',rfl⟩:=Z8 rv
 unfold Q7s at hi
 cases ho:Builtin.Str.occurrences z y 0 z.length 1 with
 | nil=>rw [ho]at hi;cases hi
 | cons j rest =>
  rw [ho]at hi
  have hi:some j=some i:=hi
  cases hi
  exact PySem.SC.index ho ⟨.int _,H,I.tok _,⟨_,rfl⟩,q⟩
theorem DE.index {wo:WE} (ho:DE X H0 o wo) (he:DE X H0 e we) (eA:attributeBase o "index" X.env (eval o X.env)=eval o X.env:=by rfl)
  (fZ:((backTo bc (starEach [e] X.env)).all (fun x=>!x.1)&&(backToKw bc (keywordEach [] X.env)).all (fun x=>x.1.isSome)&&decide ([e].length+([]:List Keyword).length+(if ([]:List Keyword).isEmpty then 0 else 1)<30))=true:=by rfl)
  (dH:(apos.endLine==bc.line)=true:=by rfl) (hs:starEach [e] X.env=(false,eval e X.env)::starEach [] X.env:=by rfl) (dl:(backTo bc (starEach [] X.env)).any (·.1)=false:=by rfl) :
  DE X H0 (.Call (.Attribute o "index" apos) [e] [] bc) (Z4z wo we) where
 mono:=fun τ P Q f h=>ho.mono τ _ _ (fun r ⟨x,e1,h⟩=>⟨x,e1,he.mono τ _ _ (fun r ⟨y,i,a1,a2,a3⟩=>⟨y,i,a1,a2,f _ a3⟩) h⟩) h
 pe:=O1 (Y1l PySem.F.plainAttrs_str PySem.F.slot_str_index PySem.F.type_str_index W0p ho.pe (Q1n he.pe Q3g hs) eA fZ dH hs dl) fun σ H Q ⟨τ,hR,h⟩=>⟨τ,hR,ho.mono τ _ _ (fun r ⟨x,e1,h⟩ v H1 s1 ir=>by
  subst e1
  cases (show v=.str x from ir)
  refine⟨rfl,τ,hR.mono s1,he.mono τ _ _ (fun r ⟨y,i,a1,a2,a3⟩ u H2 s2 iu=>?_) h⟩
  subst a1
  cases (show u=.str y from iu)
  exact⟨x,y,i,rfl,rfl,a2,a3 _ _ (s1.trans s2) X8⟩) h⟩
def Z1t (we:WE):WI:=fun τ Q=>we τ fun r=>∃x,r=.st (.str x)/\Q (T0 x) τ
theorem W8i {K:Fg9}{H0 H:Hp}{x:Str}:Yl K H0 (Its x) (T0 x) H where
 go:=fun H' _ _ i hi=>by
  have:i<x.cps.size:=by simpa [T0]using hi
  exact this
 yld:=fun H' _ _ i v cT d hd ⟨e,c,hc,hv⟩=>by
  subst e hv
  refine⟨A5.refl _,?_⟩
  unfold T0 at hd
  rw [ah]at hd
  have:x.cps.toList[i]?=some c:=by simpa using hc
  rw [this]at hd
  have e:D.str ⟨#[c]⟩=d:=ay hd
  subst e
  exact A3.s_str
 stop:=fun H' _ _=>by
  show(T0 x).length=x.cps.size
  simp [T0]
theorem DI.str (he:DE X H0 e we):DI X H0 tg e (Z1t we) where
 mono:=fun τ P Q f h=>he.mono τ _ _ (fun r ⟨ds,e1,q⟩=>⟨ds,e1,f _ _ q⟩) h
 pi:=by
  intro ae s σ H R I ⟨τ,hR,h⟩
  refine B2 (he.pe ae s σ H (fun v H1=>A5 H H1/\∃x,v=.str x/\∀J H',Kp H H'->B4 X.K H0 τ σ H'->Yl X.K H0 J (T0 x) H'->R J H') I ⟨τ,hR,he.mono τ _ _ (fun r ⟨x,e1,q⟩ v H1 s1 ir=>⟨s1,x,by subst e1;exact ir,q⟩) h⟩) fun u s1 ⟨v,H1,I1,rv,sm,x,e1,q⟩=>?_
  subst e1
  obtain⟨t,rfl⟩:=rv
  have fin:∀(ty:String),(ty="str_ascii_iterator"\/ty="str_iterator")->PIE X ae σ tg R (.ref s1.heap.objs.size) { s1 with heap:=s1.heap.push { cls:=.type ty,data:=.fields #[.str x t,.int 0 0] } }:=fun ty i9=>by
   refine⟨s1.heap.objs.size,[s1.heap.objs.size],_,_,H1,rfl,I1.kept (t':=s1.toks) fun b o e=>af _ e,W7t (ty:=ty) (x:=x) (t:=t) i9,⟨_,aH _ rfl,rfl,rfl⟩,fun b hb=>?_,q _ _ (Kp.of sm) (hR.mono sm) W8i⟩
   have e:b=s1.heap.objs.size:=by simpa using hb
   subst e
   exact I1.fpOk (ai _) (I1.hok.fresh (ai _))
  cases ha:x.cps.all (·<128)
  ·exact wpAny_pyIter_wide ha (fin _ (.inr rfl))
  ·exact wpAny_pyIter_ascii ha (fin _ (.inl rfl))
end
def Z8l (ds:List D) (P:D->List D->Prop):Prop:=match ds with
 | []=>False
 | d::r=>P d r
def tupR (d:D) (P:List D->Prop):Prop:=match d with
 | .tup ds=>P ds
 | _=>False
section
variable {τ:A8}{Q:R->Prop}{QB:Bool->Prop}{wa wb wc we:WE}{wr:WA}{n:Nat}{d e:D}{ds es:List D}{i j:Int}{x y:Str}
@[simp] theorem s_iStr {Q:List D->A8->Prop}:Z1t we τ Q=we τ fun r=>∃x,r=.st (.str x)/\Q (T0 x) τ:=rfl
@[simp] theorem s_idx:Z4z wa we τ Q=wa τ fun r1=>∃x,r1=.st (.str x)/\we τ fun r=>∃y i,r=.st (.str y)/\Q7s x y=some i/\Q (.st (.int (i:Int))):=rfl
@[simp] theorem Z3t {Q:List D->Prop}:Q3z we τ Q=we τ fun r=>∃ds,r=.st (.tup ds)/\Q ds:=rfl
@[simp] theorem Q1m {r:R}:P7 [r] Q=∃ds,Q6i r=some ds/\Q (.st (.tup ds)):=rfl
@[simp] theorem o_sq2:Q6i (.nw ds)=some ds:=rfl
@[simp] theorem Q8n:Q6i (.bw ds)=some ds:=rfl
@[simp high] theorem s_gCn2 {g:WG}{gs:WGs}{Q:A8->Prop}:G7 g gs ds τ Q ↔ Z8l ds fun d r=>g d τ fun τ'=>gs r τ' Q:=by
 constructor
 ·rintro ⟨a,b,h,q⟩
  cases h;exact q
 ·intro h
  cases ds with
  | nil=>exact h.elim
  | cons d r=>exact⟨d,r,rfl,h⟩
@[simp high] theorem s_gTp2 {gs:WGs}{Q:A8->Prop}:gTp n gs d τ Q ↔ tupR d fun ds=>ds.length=n/\gs ds τ Q:=by
 constructor
 ·rintro ⟨a,h,q⟩
  cases h;exact q
 ·intro h
  cases d with
  | tup ds=>exact⟨ds,rfl,h⟩
  | _=>exact h.elim
@[simp] theorem W8t {P:D->List D->Prop}:Z8l (d::ds) P=P d ds:=rfl
@[simp] theorem o_tupR {P:List D->Prop}:tupR (.tup ds) P=P ds:=rfl
end
theorem Q1h {we:WE}{f:D->D}{rest:A8}:∀(ds:List D) (o:Option Sl) (Q:List D->Prop),(∀d∈ds,∀Q':R->Prop,Q' (.st (f d))->we (some (.dat d)::rest) Q')->Q (ds.map f)->N8 (C0 0) T2 we ds (o::rest) Q
 | [],o,Q,h,q=>q
 | d::ds,o,Q,h,q=>by
  simp only [N8]
  simp
  refine h d aA _ ⟨_,rfl,?_⟩
  exact Q1h ds _ _ (fun d hd=>h d (ax _ hd)) q
end TK
end
section
namespace HT
open PySem PySem.Spec PyProof.Rows
open AutoSeq1 (wpAny_loadPart')
theorem Z8u {α:Type} (items:Array α):∀(n:Nat) (c7:Array α),(List.replicate n items).foldl (·++·) c7=c7++(List.replicate n items.toList).flatten.toArray
 | 0,c7=>by simp
 | n+1,c7=>by
  rw [bA,List.foldl_cons,Z8u items n,bA,ck]
  apply Array.ext'
  simp
theorem W7p (l:Addr) (items:Array Value) (n:Nat) (dd:Option Addr) (sl:Array (Option Value)) (u:Tok) (k:Int) (h2:2<=k) (h3:k<=1000) (cj:¬ items.isEmpty=true) (hsz:(items.size:Int)*k<=(sizeLine:Int)) :
  Meets (Builtin.«tuple.__mul__» ⟨[.ref l,.int k u],[]⟩) (fun _ R s=>s.heap.get? l=some { cls:=.type "tuple",dict:=dd,data:=.seq items n,slots:=sl } /\
   R (.ok (.ret (Value.ref s.heap.objs.size))) { s with heap:=s.heap.push { cls:=Value.type "tuple",data:=Data.seq (List.replicate k.toNat items.toList).flatten.toArray } }) :=
 .of_wp fun prog w A R s h=>by
  obtain⟨hp,g,d,tk,os⟩:=s;obtain⟨hl,h⟩:=h
  have f1:=AutoSeq1.idx_int
  have f2:=AutoSeq1.sub_tuple_tuple
  have e1:(List.replicate k.toNat items).foldl (·++·) #[]=(List.replicate k.toNat items.toList).flatten.toArray:=by rw [Z8u];simp
  have c1:(decide (k < -(2 ^ 63))||decide (k ≥ 2 ^ 63))=false:=by
   simp only [Bool.or_eq_false_iff,decide_eq_false_iff_not]
   omega
  have c2:(k==1)=false:=by simp;omega
  have c3:¬ k<=0:=by omega
  wp_walk using wpAny_loadPart' hl
  rw [aI (by rw [c1];decide)]
  wp_walk using wpAny_loadPart' hl
  have qz:items.isEmpty=false:=by simpa using cj
  have dH:(sizeLine:Int)<=(2 ^ 63-1) / 8:=by decide
  rw [aI (by omega)]
  have hm:¬ Builtin.Tuple.tupleTooMany ((items.size:Int)*k)=true:=by
   unfold Builtin.Tuple.tupleTooMany
   simp only [decide_eq_true_eq]
   omega
  rw [aI hm,e1]
  have fS:sizeOk (.seq (List.replicate k.toNat items.toList).flatten.toArray):=by
   show(List.replicate k.toNat items.toList).flatten.toArray.size<=sizeLine
   rw [aB,L2.Z2e,kG]
   have e:((k.toNat:Nat):Int)=k:=by omega
   have:((k.toNat*items.size:Nat):Int)<=(sizeLine:Int):=by rw [Int.natCast_mul,e,Int.mul_comm];exact hsz
   exact_mod_cast this
  first
   | exact aa (m:=Builtin.Tuple.tupleExact _) (bU (aq ⟨_,rfl,h⟩) fS)
   | exact aa (m:=Builtin.Tuple.tupleExact _) (bU (aa (aq (aq ⟨_,rfl,h⟩))) fS)
   | exact aa (aa (m:=Builtin.Tuple.tupleExact _) (bU (aq (aq ⟨_,rfl,h⟩)) fS))
section
variable {prog:Program}{w:World}{A:Around}{E:VS9}{s:Shared}
theorem mul_tupk {l:Addr}{items:Array Value}{u:Tok}{k:Int}{Q:VS9} (ht:IsTup s.heap l items) (h2:2<=k) (h3:k<=1000) (cj:¬ items.isEmpty=true) (hsz:(items.size:Int)*k<=(sizeLine:Int))
  (h:Q (.ref s.heap.objs.size) { s with heap:=s.heap.push { cls:=.type "tuple",data:=.seq (List.replicate k.toNat items.toList).flatten.toArray } }):wpAny (model prog w) A (binaryOp .Mult (.ref l) (.int k u)) Q E s:=by
 obtain⟨⟨cls,dd,data,sl⟩,ho,hc,n,hd⟩:=id ht
 simp only at hc hd
 subst hc hd
 exact wpAny_binaryOp_repeat_ref (T:="tuple") (U:="int") (by decide) ⟨_,ho,rfl⟩ (fun s'=>typeIs_int s' k u) W0v F.fills_int_mul F.slot_int_rmul W4u F.slot_int_index.lookup
  (call_meets F.slot_int_rmul (typeIs_int s k u) F.entry_int_rmul (F.args_int_rmul_2 _ _) (W4y k u l items n dd sl)
   ⟨ho,rfl,⟨_,ho,rfl⟩,call_meets F.slot_tuple_mul ⟨_,ho,rfl⟩ F.entry_tuple_mul (F.args_tuple_mul_2 _ _) (W7p l items n dd sl u k h2 h3 cj hsz) ⟨ho,h⟩⟩)
end
end HT
namespace TK
open PySem PySem.Spec PyProof.Rows L2
section
variable {X:Cx}
def Q8g (x y:R) (Q:R->Prop):Prop:=∃ds k,x=.st (.tup ds)/\y=.st (.int k)/\2<=k/\k<=1000/\ds≠[]/\(ds.length:Int)*k<=(sizeLine:Int)/\Q (.st (.tup (List.replicate k.toNat ds).flatten))
theorem W0q:Y7 Q8g:=fun x y P Q f ⟨ds,k,h1,h2,h3,h4,h5,h6,h7⟩=>⟨ds,k,h1,h2,h3,h4,h5,h6,f _ h7⟩
theorem W1j:OpD X (binaryOp .Mult) Q8g:=by
 intro ae s σ H x y v u Q I rx ry ⟨r1,r2,h1,h2,ds,k,e1,e2,k2,k3,cj,hz,q⟩
 subst e1 e2
 have h1:A3 X.K H (.tup ds) x:=h1
 unfold A3 at h1
 obtain⟨a,xs,rfl,qa,fF⟩:=h1
 cases (show y=.int k from h2)
 cases rx
 obtain⟨t,rfl⟩:=ry
 obtain⟨aV,r1,p1,_⟩:=I.tuple (C6.of (K:=X.K) qa)
 have la:=fF.length
 have lb:=r1.length
 have hn:aV≠[]:=fun z=>cj (fI.mp (by rw [la,lb,z];rfl))
 refine HT.mul_tupk p1 k2 k3 (by simpa using hn) (by rw [aB,<- lb,<- la];exact hz) ?_
 have hf:=I.hok.fresh (ai s.heap.objs.size)
 refine⟨.ref s.heap.objs.size,_,I.laid (t':=s.toks) (o:=.tup (List.replicate k.toNat xs).flatten) (fun b ob q=>af _ q) (ai _) ?_,rfl,q _ _ (G0 hf _) (A3.s_tup (K:=X.K) upd_same ((fF.rep _).mono (Kp.of (G0 hf _)) _ _))⟩
 refine⟨?_,_,B6.rep r1 k.toNat,IsTup.new _ _⟩
 rw [Z2e]
 have e:((k.toNat:Nat):Int)=k:=by omega
 have:((k.toNat*xs.length:Nat):Int)<=(sizeLine:Int):=by rw [Int.natCast_mul,e,Int.mul_comm,<- la];exact hz
 exact_mod_cast this
@[simp] theorem W1g {ds:List D}{k:Int}{Q:R->Prop}:Q8g (.st (.tup ds)) (.st (.int k)) Q ↔ (2<=k/\k<=1000/\ds≠[]/\(ds.length:Int)*k<=(sizeLine:Int)/\Q (.st (.tup (List.replicate k.toNat ds).flatten))):=by
 constructor
 ·rintro ⟨a,b,h1,h2,h3⟩
  cases h1;cases h2
  exact h3
 ·intro h
  exact⟨ds,k,rfl,rfl,h⟩
end
end TK
end
section
namespace HT
open PySem PySem.Spec PyProof.Rows
section
variable {prog:Program}{w:World}{A:Around}{E:VS9}{s:Shared}
end
end HT
namespace TK
open PySem PySem.Spec PyProof.Rows L2
section
variable {X:Cx}{H0:Hp}{a b c e tg:Expr}{pos p p2 eJ:Pos}{wa wb we:WE}{wr:WA}
noncomputable def T3 (ds es:List D):List D:=(ds.zip es).map fun p=>.tup [p.1,p.2]
theorem Y5i {ds es:List D}{i:Nat}{d:D} (h:(T3 ds es)[i]?=some d):∃x y,ds[i]?=some x/\es[i]?=some y/\d=.tup [x,y]:=by
 unfold T3 at h
 rw [ah]at h
 cases e:(ds.zip es)[i]? with
 | none=>rw [e]at h;cases h
 | some q =>
  rw [e]at h
  have h:D.tup [q.1,q.2]=d:=ay h
  rw [bF]at e
  exact⟨q.1,q.2,e.1,e.2,h.symm⟩
theorem Z6i (ds es:List D):(T3 ds es).length=min ds.length es.length:=by simp [T3]
end
end TK
end
section
namespace HT
open PySem PySem.Spec PyProof.Rows L2
section
variable {prog:Program}{w:World}{A:Around}{E:VS9}{s:Shared}
end
end HT
end
section
namespace TK
open PySem PySem.Spec PyProof.Rows L2
theorem Kp.updM {H:Hp}{a:Addr}{old:HO} (h:H a=some old) (nt:∀xs,old≠.tup xs) (nf:∀o u,old≠.frz o u) (o:HO):Kp H (L2.upd H a o) :=
 ⟨fun c ys q=>by rw [A6 (Y0 q h (fun z=>nt _ z.symm))];exact q,fun c ob u q=>by rw [A6 (Y0 q h (fun z=>nf _ _ z.symm))];exact q⟩
theorem B4.mutG {K:Fg9}{H0 H:Hp} {τ:A8} {σ:St}{i:Nat}{s s':Sl}{a:Addr}{old new:HO} (hR:B4 K H0 τ σ H) (e1:τ[i]?=some (some s)) (m:s.mut=true) (hv:σ[i]?=some (some (.ref a))) (h0:H0 a=none)
  (sq:H a=some old) (nt:∀xs,old≠.tup xs) (nf:∀o u,old≠.frz o u) (jb:SlR K H0 (upd H a new) s' (.ref a)) (ne:∀ φ,old≠.ext φ:=by intro φ z;cases z):B4 K H0 (τ.set i (some s')) σ (upd H a new):=by
 have kp:Kp H (upd H a new):=Kp.updM sq nt nf _
 have hl:i<τ.length:=by
  rcases bo i τ.length with h | h
  ·exact h
  ·rw [aC.mpr h]at e1;cases e1
 have jo:∀(j:Nat) (t:Sl),(τ.set i (some s'))[j]?=some (some t)->j≠i->τ[j]?=some (some t):=fun j t e hj=>by rw [aG (fun z=>hj z.symm)]at e;exact e
 have ef:∀(j:Nat) (t:Sl),(τ.set i (some s'))[j]?=some (some t)->t.mut=true->∃t',τ[j]?=some (some t')/\t'.mut=true:=fun j t e mm=>by
  by_cases hj:j=i
  ·subst hj;exact⟨_,e1,m⟩
  ·exact⟨t,jo j t e hj,mm⟩
 refine⟨by rw [bg];exact hR.len,fun b ob hb=>?_,fun j t e=>?_,fun j k t u v cj e2 e3 m1 m2 q1 q2=>?_⟩
 ·rw [A6 (V9 hb h0)];exact hR.same b ob hb
 ·by_cases hj:j=i
  ·subst hj
   rw [Q0c hl]at e;cases e
   exact⟨_,hv,jb⟩
  ·have e:=jo j t e hj
   obtain⟨v,q,r⟩:=hR.here j t e
   refine⟨v,q,?_⟩
   have ap:t.mut=true->v≠.ref a:=fun mm z=>by
    subst z
    exact hR.apart i j _ t (.ref a) (fun z=>hj z.symm) e1 e m mm hv q
   cases t with
   | dat d=>exact A3.mono kp _ _ r
   | own es=>obtain⟨b,ys,e,n,q,t⟩:=r;exact⟨b,ys,e,n,by rw [A6 (fun z=>ap rfl (by rw [e,z]))];exact q,t.mono kp _ _⟩
   | bor es=>obtain⟨b,ys,e,q,t⟩:=r;exact⟨b,ys,e,q,t.mono kp _ _⟩
   | bd es=>obtain⟨b,ys,e,q,t⟩:=r;exact⟨b,ys,e,q,t.mono kp _ _⟩
   | dk es=>obtain⟨b,ys,e,n,q,t⟩:=r;exact⟨b,ys,e,n,by rw [A6 (fun z=>ap rfl (by rw [e,z]))];exact q,t.mono kp _ _⟩
   | dt es=>obtain⟨b,ys,e,n,q,t⟩:=r;exact⟨b,ys,e,n,by rw [A6 (fun z=>ap rfl (by rw [e,z]))];exact q,t.mono kp _ _⟩
   | ob _=>exact r
   | cl _ _=>exact⟨r.1,r.2.2 _ _ kp r.2.1,r.2.2⟩
   | ll _ _=>exact⟨r.1,r.2.keep kp fun b φ q=>by rw [A6 (Y0 q sq (fun z=>ne _ z.symm))];exact q⟩
   | ins _ _ _=>obtain⟨e,n,dx,ys,q,t⟩:=r;exact⟨e,n,dx,ys,by rw [A6 (fun z=>ap rfl (by rw [e,z]))];exact q,t.mono kp _ _⟩
 ·obtain⟨s1,mn,l6⟩:=ef j t e2 m1
  obtain⟨t1,ml,l5⟩:=ef k u e3 m2
  exact hR.apart j k s1 t1 v cj mn ml l6 l5 q1 q2
noncomputable def P6:D->Option B0
 | .int i=>some (.inl i)
 | .str x=>some (.inr x)
 | _=>none
noncomputable def Q6:List D->Option (List B0)
 | []=>some []
 | d::r=>(P6 d).bind fun k=>(Q6 r).map (k::·)
theorem Q4c {K:Fg9}{H:Hp}:∀{ds:List D}{ks:List B0}{xs:List V},Q6 ds=some ks->AllS K H ds xs->xs=ks.map kV
 | [],ks,xs,h,al=>by cases h;unfold AllS at al;exact al
 | d::r,ks,xs,h,al=>by
  unfold Q6 at h
  unfold AllS at al
  obtain⟨v,t,rfl,iv,al⟩:=al
  cases d with
  | int i =>
   cases e:Q6 r with
   | none=>rw [e]at h;cases h
   | some k2 =>
    rw [e]at h
    have h:some (Sum.inl i::k2)=some ks:=h
    cases h
    rw [Q4c e al]
    unfold A3 at iv
    rw [iv];rfl
  | str i =>
   cases e:Q6 r with
   | none=>rw [e]at h;cases h
   | some k2 =>
    rw [e]at h
    have h:some (Sum.inr i::k2)=some ks:=h
    cases h
    rw [Q4c e al]
    unfold A3 at iv
    rw [iv];rfl
  | non=>cases h
  | bl _=>cases h
  | tup _=>cases h
  | lst _=>cases h
section
variable {κ:Type} [DecidableEq κ]
noncomputable def D8 (kvs:List (κ×D)) (k:κ):Option D:=(kvs.find? fun kv=>decide (kv.1=k)).map (·.2)
noncomputable def N4 (kvs:List (κ×D)) (k:κ) (v:D):List (κ×D):=if (kvs.any fun kv=>decide (kv.1=k))=true then kvs.map (fun kv=>if kv.1=k then(kv.1,v)else kv)else kvs++[(k,v)]
theorem B5.val {K:Fg9}{H:Hp}{k:κ}:∀{kvs:List (κ×D)}{ps:List (κ×V)},B5 K H kvs ps->(D8 kvs k=none/\Q9 ps k=none)\/∃d v,D8 kvs k=some d/\Q9 ps k=some v/\A3 K H d v
 | [],ps,h=>by unfold B5 at h;subst h;exact .inl ⟨rfl,rfl⟩
 | p::kvs,ps,h=>by
  unfold B5 at h
  obtain⟨v,r,rfl,iv,h⟩:=h
  by_cases e:p.1=k
  ·exact .inr ⟨p.2,v,by simp [D8,aZ,e],Q9q e,iv⟩
  ·rw [Q9p (p:=(p.1,v)) e]
   have:D8 (p::kvs) k=D8 kvs k:=by simp [D8,aZ,e]
   rw [this]
   exact B5.val h
theorem B5.any {K:Fg9}{H:Hp}{k:κ}:∀{kvs:List (κ×D)}{ps:List (κ×V)},B5 K H kvs ps->(kvs.any fun kv=>decide (kv.1=k))=(ps.any fun kv=>decide (kv.1=k))
 | [],ps,h=>by unfold B5 at h;subst h;rfl
 | p::kvs,ps,h=>by
  unfold B5 at h
  obtain⟨v,r,rfl,iv,h⟩:=h
  rw [fe,fe,B5.any h]
theorem B5.length {K:Fg9}{H:Hp}:∀{kvs:List (κ×D)}{ps:List (κ×V)},B5 K H kvs ps->kvs.length=ps.length
 | [],ps,h=>by unfold B5 at h;subst h;rfl
 | p::kvs,ps,h=>by
  unfold B5 at h
  obtain⟨v,r,rfl,iv,h⟩:=h
  rw [aK,aK,B5.length h]
theorem B5.app {K:Fg9}{H:Hp}{k:κ}{d:D}{v:V} (q:A3 K H d v):∀{kvs:List (κ×D)}{ps:List (κ×V)},B5 K H kvs ps->B5 K H (kvs++[(k,d)]) (ps++[(k,v)])
 | [],ps,h=>by unfold B5 at h;subst h;exact⟨v,[],rfl,q,rfl⟩
 | p::kvs,ps,h=>by
  unfold B5 at h
  obtain⟨v',r,rfl,iv,h⟩:=h
  exact⟨v',_,rfl,iv,B5.app q h⟩
theorem B5.repl {K:Fg9}{H:Hp}{k:κ}{d:D}{v:V} (q:A3 K H d v):∀{kvs:List (κ×D)}{ps:List (κ×V)},B5 K H kvs ps->B5 K H (kvs.map fun kv=>if kv.1=k then(kv.1,d)else kv) (ps.map fun kv=>if kv.1=k then(kv.1,v)else kv)
 | [],ps,h=>by unfold B5 at h;subst h;rfl
 | p::kvs,ps,h=>by
  unfold B5 at h
  obtain⟨v',r,rfl,iv,h⟩:=h
  have ih:=B5.repl (k:=k) q h
  by_cases e:p.1=k
  ·simp only [ar,e,if_true]
   exact⟨v,_,rfl,q,ih⟩
  ·simp only [ar,e,if_false]
   exact⟨v',_,rfl,iv,ih⟩
theorem B5.put {K:Fg9}{H:Hp}{k:κ}{d:D}{v:V} (q:A3 K H d v) {kvs:List (κ×D)}{ps:List (κ×V)} (h:B5 K H kvs ps):B5 K H (N4 kvs k d) (O3 ps k v):=by
 unfold N4 O3
 rw [B5.any h]
 split
 ·exact B5.repl (k:=k) q h
 ·exact B5.app q h
end
section
variable {X:Cx}{H0:Hp}{a b c e o tg:Expr}{pos be p2 apos bc:Pos}{wa wb wi we:WE}{x:Str}
theorem B4.dtAt {K:Fg9}{H:Hp} {τ:A8} {σ:St}{i:Nat}{kvs:List (List B0×D)} (hR:B4 K H0 τ σ H) (e1:τ[i]?=some (some (.dt kvs))):∃a ps,σ[i]?=some (some (.ref a))/\H0 a=none/\H a=some (.dT ps)/\B5 K H kvs ps:=by
 obtain⟨v,hv,a,xs,rfl,h0,sq,al⟩:=hR.here i _ e1
 exact⟨a,xs,hv,h0,sq,al⟩
def Q2n (i:Nat) (we:WE):WE:=fun τ Q=>∃kvs,τ[i]?=some (some (.dt kvs))/\we τ fun r=>∃ds ks d,r=.st (.tup ds)/\Q6 ds=some ks/\D8 kvs ks=some d/\Q (.st d)
theorem DE.dgetT {i:Nat} (hu:X.A.units+1<cLine) (ho:PE X o (M0 i)) (he:DE X H0 e we) (hs:Q5c e):DE X H0 (.Subscript o e pos) (Q2n i we) where
 mono:=fun τ P Q f ⟨kvs,e1,h⟩=>⟨kvs,e1,he.mono τ _ _ (fun r ⟨ds,ks,d,a1,a2,a3,a4⟩=>⟨ds,ks,d,a1,a2,a3,f _ a4⟩) h⟩
 pe:=O1 (Z3e hu ho he.pe hs) fun σ H Q ⟨τ,hR,kvs,e1,h⟩=>by
  obtain⟨a,ps,hv,h0,sq,kv⟩:=hR.dtAt e1
  refine⟨_,hv,τ,hR,he.mono τ _ _ (fun r ⟨ds,ks,d,a1,a2,a3,a4⟩ v H1 s1 ir=>?_) h⟩
  subst a1
  have ir:A3 X.K H1 (.tup ds) v:=ir
  unfold A3 at ir
  obtain⟨b,xs,rfl,sb,al⟩:=ir
  rw [Q4c a2 al]at sb
  rcases B5.val (k:=ks) (kv.mono (Kp.of s1) _ _)with⟨n1,_⟩ | ⟨d',v',n1,n2,n3⟩
  ·rw [a3]at n1;cases n1
  ·rw [a3]at n1;cases n1
   refine⟨a,v',rfl,?_,a4 _ _ s1 n3⟩
   have g:=V3.t (s1 _ _ sq) sb
   rw [n2]at g
   exact g
def Q4t (i:Nat) (we:WE):WT:=fun τ Q=>∃kvs,τ[i]?=some (some (.dt kvs))/\we τ fun r=>∃ds ks,r=.st (.tup ds)/\Q6 ds=some ks/\Q (!(D8 kvs ks).isSome)
theorem DT.dnotin {i:Nat} (hu:X.A.units+1<cLine) (he:DE X H0 e we) (ho:PE X o (M0 i)) (h1:behindInMarks .NotIn o=false:=by rfl):DT X H0 (.Compare e [.NotIn] [o] pos) (Q4t i we) where
 mono:=fun τ P Q f ⟨kvs,e1,h⟩=>⟨kvs,e1,he.mono τ _ _ (fun r ⟨ds,ks,a1,a2,a4⟩=>⟨ds,ks,a1,a2,f _ a4⟩) h⟩
 pt:=ptW (Y1x (Y1k hu he.pe ho) h1) fun σ H Q ⟨τ,hR,kvs,e1,h⟩=>by
  refine⟨τ,hR,he.mono τ _ _ (fun r ⟨ds,ks,a1,a2,a4⟩ v H1 s1 ir=>?_) h⟩
  obtain⟨a,ps,hv,h0,sq,kv⟩:=(hR.mono s1).dtAt e1
  subst a1
  have ir:A3 X.K H1 (.tup ds) v:=ir
  unfold A3 at ir
  obtain⟨b,xs,rfl,sb,al⟩:=ir
  rw [Q4c a2 al]at sb
  refine⟨_,hv,a,_,rfl,V3.t sq sb,?_⟩
  have e:(Q9 ps ks).isSome=(D8 kvs ks).isSome:=by
   rcases B5.val (k:=ks) kv with⟨n1,n2⟩ | ⟨d',v',n1,n2,n3⟩ <;> rw [n1,n2] <;> rfl
  rw [e]
  exact⟨_,rfl,a4 _ s1⟩
def Q4u (i:Nat) (we wv:WE):WS:=fun E τ=>wv τ fun r=>∃d,r=.st d/\∃kvs,τ[i]?=some (some (.dt kvs))/\we τ fun rk=>∃ds ks,rk=.st (.tup ds)/\Q6 ds=some ks/\kvs.length<sizeLine/\E.nx (τ.set i (some (.dt (N4 kvs ks d))))
theorem DS.dput {i:Nat}{v:Expr}{wv:WE} (hu:X.A.units+1<cLine) (ho:PE X o (M0 i)) (he:DE X H0 e we) (hv:DE X H0 v wv) (hs:swapsWith v (some (.Subscript o e be)) pos.line X.env=pure false:=by rfl) :
  DS X H0 (.Assign [.Subscript o e be] v pos) (Q4u i we wv) where
 mono:=fun τ E F le h=>hv.mono τ _ _ (fun r ⟨d,e1,kvs,e2,h⟩=>⟨d,e1,kvs,e2,he.mono τ _ _ (fun r ⟨ds,ks,a1,a2,a3,a4⟩=>⟨ds,ks,a1,a2,a3,le.nx _ a4⟩) h⟩) h
 ps:=O2 (Y1u hu ho he.pe hv.pe hs) fun D σ H ⟨τ,hR,h⟩=>by
  refine⟨τ,hR,hv.mono τ _ _ (fun r ⟨d,e1,kvs,e2,h⟩ u H1 s1 ir=>?_) h⟩
  subst e1
  have cD:=hR.mono s1
  obtain⟨a,ps,dg,h0,sq,kv⟩:=cD.dtAt e2
  refine⟨_,dg,τ,cD,he.mono τ _ _ (fun rk ⟨ds,ks,a1,a2,a3,a4⟩ y H2 s2 ik=>?_) h⟩
  subst a1
  have ik:A3 X.K H2 (.tup ds) y:=ik
  unfold A3 at ik
  obtain⟨b,xs,rfl,sb,al⟩:=ik
  rw [Q4c a2 al]at sb
  have cY:=s2 _ _ sq
  have gm:=kv.mono (Kp.of s2) _ _
  refine⟨a,_,rfl,Q1s.t cY sb (by rw [<- B5.length gm];exact a3),?_⟩
  have kp:Kp H2 (upd H2 a (.dT (O3 ps ks u))):=Kp.updM cY (by intro xs z;cases z) (by intro o u z;cases z) _
  have iv:A3 X.K H2 d u:=A3.mono (Kp.of s2) _ _ ir
  refine a4 σ _ ((Kp.of (s1.trans s2)).trans kp) ((cD.mono s2).mutG e2 rfl dg h0 cY (by intro xs z;cases z) (by intro o u z;cases z) ⟨a,_,rfl,h0,upd_same,?_⟩)
  exact B5.mono kp _ _ (B5.put iv gm)
def Y4z (i:Nat) (wi wv:WE):WS:=fun E τ=>wv τ fun r=>∃d,r=.st d/\∃ds,τ[i]?=some (some (.own ds))/\wi τ fun rk=>∃k j,rk=.st (.int k)/\ixN ds.length k=some j/\E.nx (τ.set i (some (.own (ds.set j d))))
theorem DS.setIx {i:Nat}{v:Expr}{wv:WE} (ho:PE X o (M0 i)) (he:DE X H0 e we) (hv:DE X H0 v wv)
  (hs:swapsWithSole [.Subscript o e be] v pos.line X.env=pure false:=by rfl) (hw:swappedStores [.Subscript o e be] v X.env=pure none:=by rfl)
  (h1:(assignEach [.Subscript o e be] X.env).map (·.2)=[assign (.Subscript o e be) X.env]:=by rfl)
  (ha:∀v,assign (.Subscript o e be) X.env v=(do
   let ov <- holding [v] (eval o X.env)
   let iv <- holding [v,ov] (eval e X.env)
   standAt be
   holding [v,ov,iv] (setItem ov iv v)
   release [v,ov,iv] []):=by intro _;rfl):DS X H0 (.Assign [.Subscript o e be] v pos) (Y4z i we wv) where
 mono:=fun τ E F le h=>hv.mono τ _ _ (fun r ⟨d,e1,ds,e2,h⟩=>⟨d,e1,ds,e2,he.mono τ _ _ (fun r ⟨k,j,a1,a2,a3⟩=>⟨k,j,a1,a2,le.nx _ a3⟩) h⟩) h
 ps:=O2 (Z3i hv.pe (Y1r ho he.pe W6k ha) hs hw h1) fun D σ H ⟨τ,hR,h⟩=>by
  refine⟨τ,hR,hv.mono τ _ _ (fun r ⟨d,e1,ds,e2,h⟩ u H1 s1 ir=>?_) h⟩
  subst e1
  have cD:=hR.mono s1
  obtain⟨a,xs,dg,h0,sq,al⟩:=cD.ownAt e2
  refine⟨_,dg,τ,cD,he.mono τ _ _ (fun rk ⟨k,j,a1,a2,a3⟩ y H2 s2 ik=>?_) h⟩
  subst a1
  cases (show y=.int k from ik)
  have cY:=s2 _ _ sq
  refine⟨a,xs,k,j,rfl,rfl,cY,by rw [<- al.length];exact a2,?_⟩
  have cH:AllS X.K H2 (ds.set j d) (xs.set j u):=AllS.set (A3.mono (Kp.of s2) _ _ ir) j (al.mono (Kp.of s2) _ _)
  exact a3 σ _ ((Kp.of (s1.trans s2)).trans (Kp.upd cY _)) ((cD.mono s2).mutate e2 dg h0 cY cH)
end
section
variable {τ:A8}{E:G8}{Q:R->Prop}{QB:Bool->Prop}{wa wb wc we:WE}{wr:WA}{n:Nat}{d e:D}{ds es:List D}{i j:Int}{x y:Str}
@[simp] theorem Z3r:Q2n n we τ Q=∃kvs,τ[n]?=some (some (.dt kvs))/\we τ fun r=>∃ds ks d,r=.st (.tup ds)/\Q6 ds=some ks/\D8 kvs ks=some d/\Q (.st d):=rfl
@[simp] theorem Y2j:Q4t n we τ QB=∃kvs,τ[n]?=some (some (.dt kvs))/\we τ fun r=>∃ds ks,r=.st (.tup ds)/\Q6 ds=some ks/\QB (!(D8 kvs ks).isSome):=rfl
@[simp] theorem Y2k:Q4u n wa wb E τ=wb τ fun r=>∃d,r=.st d/\∃kvs,τ[n]?=some (some (.dt kvs))/\wa τ fun rk=>∃ds ks,rk=.st (.tup ds)/\Q6 ds=some ks/\kvs.length<sizeLine/\E.nx (τ.set n (some (.dt (N4 kvs ks d)))):=rfl
end
theorem Z8j {we:WE}{f:D->D->D}{rest:A8}:∀(ps:List (D×D)) (o1 o2:Option Sl) (Q:List D->Prop),(∀p∈ps,∀Q':R->Prop,Q' (.st (f p.1 p.2))->we (some (.dat p.1)::some (.dat p.2)::rest) Q') ->
  Q (ps.map fun p=>f p.1 p.2)->N8 (gTp 2 (G7 (C0 0) (G7 (C0 1) gNl))) T2 we (ps.map fun p=>.tup [p.1,p.2]) (o1::o2::rest) Q
 | [],o1,o2,Q,h,q=>q
 | p::ps,o1,o2,Q,h,q=>by
  simp only [ar,N8]
  simp
  refine h p aA _ ⟨_,rfl,?_⟩
  exact Z8j ps _ _ _ (fun p hp=>h p (ax _ hp)) q
theorem W8g {K:Fg9}{H0 H:Hp}{l:Addr}{xs:List V}{ds:List D} (hq:∀H',Kp H H'->A5 H0 H'->E3 K H' l xs) (al:AllS K H ds xs):Yl K H0 (Iel K l) (J4 ds) H where
 go:=fun H' k s i hi=>by
  rw [Q1z]at hi
  exact⟨xs,xs[i]'(by rw [<- al.length];exact hi),hq H' k s,ac _⟩
 yld:=fun H' k s i v cT d hd ⟨T,x,hx,hT,hv,hH⟩=>by
  subst hH hv
  refine⟨G0 hT _,?_⟩
  obtain⟨y,hy,rfl⟩:=Q7n hd
  obtain⟨v,hv,q⟩:=al.get hy
  rw [hx xs (hq H' k s)]at hv;cases hv
  exact A3.s_tup upd_same (AllS.cons A3.s_int (AllS.cons (q.mono (k.trans (Kp.of (G0 hT _))) _ _) AllS.nil))
 stop:=fun H' k s=>⟨xs,hq H' k s,by rw [Q1z];exact al.length.symm⟩
section
variable {X:Cx}{H0:Hp}{a:Expr}{p pos:Pos}{wr:WA}
def Q5o (wr:WA):WI:=fun τ Q=>wr τ fun rs=>∃ds,rs=[.st (.lst ds)]/\Q (J4 ds) τ
theorem DI.enumF {cS:List Expr}{kk:Nat}{pt:Pos} (hg:Gl X "enumerate") (hm:X.mg "enumerate"=none) (hv:bootBuiltins "enumerate"=some (.type "enumerate")) (ha:DA X H0 [a] wr) (he:starEach [a] X.env=(false,eval a X.env)::starEach [] X.env:=by rfl) (hpl:(backTo pos (starEach [] X.env)).any (·.1)=false:=by rfl) :
  DI X H0 (.Tuple cS kk pt) (.Call (.Name "enumerate" p) [a] [] pos) (Q5o wr) where
 mono:=fun τ P Q f h=>ha.mono τ _ _ (fun r ⟨ds,e1,q⟩=>⟨ds,e1,f _ _ q⟩) h
 pi:=by
  intro ae s σ H R I ⟨τ,hR,h⟩
  refine bq (Q2f I hg hm hv ?_ (by decide) (by decide))
  refine bv (B2 (ha.pa pos ae s σ H (fun vs H1=>A5 H H1/\∃l xs ds,vs=[.ref l]/\FzL X.K H1 l xs/\AllS X.K H1 ds xs/\∀J H',Kp H H'->B4 X.K H0 τ σ H'->Yl X.K H0 J (J4 ds) H'->R J H') I
   ⟨τ,hR,ha.mono τ _ _ (fun rs ⟨ds,e1,q⟩ vs H1 s1 cx=>⟨s1,by
    subst e1
    obtain⟨v,rfl,ir⟩:=Q0a cx
    have ir:A3 X.K H1 (.lst ds) v:=ir
    unfold A3 at ir
    obtain⟨l,xs,rfl,sq,al⟩:=ir
    exact⟨l,xs,ds,rfl,sq,al,q⟩⟩) h⟩) fun us s1 bp=>?_) he hpl
  obtain⟨vs,H1,I1,rv,sm,l,xs,ds,e1,sq,al,q⟩:=bp
  subst e1
  have big:∀b∈[s1.heap.objs.size+1,s1.heap.objs.size],K9 X ae H1 b:=fun b hb=>by
   have hb:s1.heap.objs.size<=b:=by
    rcases ao.mp hb with rfl | hb
    ·exact eU _
    ·have e:b=s1.heap.objs.size:=by simpa using hb
     rw [e];exact ai _
   exact I1.fpOk hb (I1.hok.fresh hb)
  obtain⟨u,rfl,ru⟩:=Z8 rv
  cases (show u=Value.ref l from ru)
  obtain⟨aV,gg,pl,i8⟩:=I1.list sq.sq
  obtain⟨o,n,ho,_⟩:=id pl
  have hl:l<s1.heap.objs.size:=au ho
  refine call_enumerate_list pl.isList fun h' he hi hz k=>?_
  refine cf he ⟨s1.heap.objs.size+1,[s1.heap.objs.size+1,s1.heap.objs.size],_,_,H1,rfl,I1.kept (t':=s1.toks) k,Y4l (l:=l) (fH _) (av (bi hl)) (av hl),⟨⟨_,he⟩,hi⟩,big,q _ _ (Kp.of sm) (hR.mono sm) (W8g (xs:=xs) (fun H' k _=>(k.fzL sq).sq) al)⟩
end
section
variable {τ:A8}{wr:WA}{QB:Bool->Prop}
@[simp] theorem W5i {Q:List D->A8->Prop}:Q5o wr τ Q=wr τ fun rs=>∃ds,rs=[.st (.lst ds)]/\Q (J4 ds) τ:=rfl
@[simp] theorem W1e {n:Bool}{r r':R}:Q5q n r r' QB=∃d,r.d=some d/\r'=.st .non/\QB (match d with | .non=>!n | _=>n):=rfl
end
end TK
end
section
namespace L2
open PySem PySem.Spec PyProof.Rows
variable {X:Cx}{CX:CXT}{k i:Nat}{f:Addr}{fd:FuncData}{ps:List Str}{sp:Sp}{ds:List Value}{g7:List V}{E:XK}{x:Str}{e:Expr}{es:List Expr}{t:TA}{p pos:Pos}
end L2
namespace TK
open PySem PySem.Spec PyProof.Rows L2
section
variable {X:Cx}{H0:Hp}{e:Expr}{es:List Expr}{wr:WA}{k i:Nat}{f:Addr}{fd:FuncData}{ps:List Str}{sp:D6}{x:Str}{p pos:Pos}
end
end TK
end
section
namespace L2
open PySem PySem.Spec PyProof.Rows
theorem Y6h {pos:Pos}{a b:Int}{c cv:Value} (l:List Value) (t:TriplesOk l) (h:codeAmong pos (l++[rawInt a,rawInt b,c])=some cv):codeAmong pos l=some cv\/cv=c:=by
 fun_induction TriplesOk l with
 | case1 =>
  right
  have h:(if (a==(pos.line:Int)&&b==(pos.col:Int))=true then some c else codeAmong pos [])=some cv:=h
  split at h
  ·exact(ay h).symm
  ·cases h
 | case2 i ti j tj x rest ih =>
  have h:(if (i==(pos.line:Int)&&j==(pos.col:Int))=true then some x else codeAmong pos (rest++[rawInt a,rawInt b,c]))=some cv:=h
  show(if (i==(pos.line:Int)&&j==(pos.col:Int))=true then some x else codeAmong pos rest)=some cv\/_
  split at h
  ·rename_i hc;rw [aM hc];exact .inl h
  ·rename_i hc;rw [aI hc];exact ih t h
 | case3=>exact t.elim
noncomputable def V6:HO:=.ext fun _=>True
theorem Q7d {P:Program}{w:World}{H:Hp}{h:Heap}{a:Addr}{o:Obj} (e:h.get? a=some o):K1 P w H h a (.frz o V6):=⟨e,trivial,⟨o,e⟩,fun _ _ _ _=>trivial⟩
def Y5 (mg:Str->Option Value) (base:Heap):Prop:=∃bm ob,mg "__builtins__"=some (.ref bm)/\bm≠builtinsNs/\base.get? bm=some ob/\ob.cls=.type "module"/\ob.dict=some builtinsNs/\ob.data=.plain
noncomputable abbrev W8 (X:Cx) (params:Arguments) (body:Expr) (sc:Scope) (clos:List (Str×Addr)) (c':Addr) (ctv:Value):Obj :=
 PySem.W.kla_obj "<lambda>" (X.env.qual++"<lambda>") params body sc clos ((X.mg "__name__").getD .none) c' ctv
def tLam (P:Addr) (ob:Addr->Value->Obj):TE:=fun _ H Q=>∀f c' oc ctv H',A5 H H'->Q5a oc->H f=none->H' c'=some (.frz oc (.own P))->H' f=some (.frz (ob c' ctv) V6)->(∀b,H' b≠none->H b=none->b=f\/b=c')->Q (.ref f) H'
section
variable {X:Cx}{params:Arguments}{body:Expr}{sc:Scope}{pos:Pos}{c P:Addr}{clos:List (Str×Addr)}
theorem Z3f (hB:Y5 X.mg X.base) (db:X.env.code=.ref c) (hC:PySem.W.codeHdIn X.K c P=true) (gu:closureFor sc X.env=pure clos) (hd:defaultsOf params X.env=([],[]):=by rfl) :
  PE X (.Lambda params body sc pos) (fun σ H Q=>H P=some .tab/\tLam P (fun c' ctv=>W8 X params body sc clos c' ctv) σ H Q):=by
 intro ae s σ H Q I ⟨hP,h⟩
 refine PySem.W.kla_eval hd ?_
 have j0:s.heap.Ns mainGlobals X.mg:=I.mod.glob.keeps I.bk
 have C:=PySem.W.codeHd_of_K I.kIn hC
 obtain⟨ps,eP,ht,en⟩:=(show K1 X.prog X.w H s.heap P .tab from I.hok P _ hP)
 obtain⟨bm,ob,b1,b2,b3,b4,b5,b6⟩:=hB
 have bH:∀b o,X.base.get? b=some o->b≠P:=fun b o e z=>by
  have:=(I.bs b o e).2
  rw [z,hP]at this;cases this
 have qu:mainGlobals≠P:=by
  obtain⟨o,es,ep,e,hd,_⟩:=I.mod.glob
  exact bH _ _ e
 have gJ:bm≠mainGlobals:=fun same=>by
  obtain⟨go,_,_,ge,gd,_⟩:=I.mod.glob
  rw [same,ge]at b3
  cases b3
  rw [gd]at b6
  cases b6
 have nC:s.heap.BuiltinsAt X.mg P:=⟨bm,ob,b1,b2,gJ,bH _ _ b3,I.bk _ _ b3,b4,b5,b6⟩
 cases hf:codeAmong pos ps.toList with
 | some cv =>
  obtain⟨c',oc,rfl,cU,dL⟩:=en pos cv hf
  refine PySem.W.kla_makeFunctionHit (mg:=X.mg) gu I.ok.glob j0 db C eP ht hf nC fun ctv h' tk hk hsz=>?_
  have nu:H h'.objs.size=none:=I.hok.fresh hsz
  have ne:∀b u,H b=some u->b≠h'.objs.size:=fun b u e z=>by rw [z,nu]at e;cases e
  have kp:∀b o,s.heap.get? b=some o->(h'.push (W8 X params body sc clos c' ctv)).get? b=some o:=fun b o e=>af _ (hk b o e)
  have lt:∀b o,s.heap.get? b=some o->b≠h'.objs.size:=fun b o e=>av (az (au e) hsz)
  refine⟨.ref h'.objs.size,upd H h'.objs.size (.frz (W8 X params body sc clos c' ctv) V6),I.un (t':=tk) ⟨fun b o e _ _ _=>kp b o e,fun b o e _ _ _=>⟨o.slots,kp b o e⟩,fun b o e n _=>by rw [A6 (lt b o e)];exact n,fun b o e _=>⟨o,kp b o e⟩,
   fun b xs e=>by rw [A6 (ne b _ e)];exact e,fun b o u e=>by rw [A6 (ne b _ e)];exact e,fun b ps e=>⟨#[],by rw [A6 (ne b _ e),e];simp⟩⟩ ?_,rfl,?_⟩
  ·refine F8.laid (h:=s.heap) I.hok kp hsz (Q7d (aH _ rfl))
  ·exact h _ c' oc ctv _ (fun b u e=>by rw [A6 (ne b _ e)];exact e) dL nu (by rw [A6 (ne _ _ cU)];exact cU) upd_same fun b n1 n2=>by
    by_cases hb:b=h'.objs.size
    ·exact .inl hb
    ·rw [A6 hb]at n1;exact absurd n2 n1
 | none =>
  refine PySem.W.kla_makeFunction (mg:=X.mg) gu I.ok.glob j0 db C eP ht hf qu nC fun c' ctv h' tk hx eF bE lw ng=>?_
  obtain⟨c₂,oc,vs,tq,e2,dL,ny,hv⟩:=lw
  cases e2
  have fC:H c'=none:=I.hok.fresh eF
  have gr:H h'.objs.size=none:=I.hok.fresh (aX eF (cO bE))
  have qC:c'≠h'.objs.size:=av bE
  have rY:P≠c':=fun z=>by rw [<- z,hP]at fC;cases fC
  have rX:P≠h'.objs.size:=fun z=>by rw [<- z,hP]at gr;cases gr
  have pz:∀b o,s.heap.get? b=some o->b≠c':=fun b o e=>av (az (au e) eF)
  have pu:∀b o,s.heap.get? b=some o->b≠h'.objs.size:=fun b o e=>av (az (au e) (aX eF (cO bE)))
  have pj:∀b u,H b=some u->b≠c':=fun b u e z=>by rw [z,fC]at e;cases e
  have ph:∀b u,H b=some u->b≠h'.objs.size:=fun b u e z=>by rw [z,gr]at e;cases e
  have hH:∀b,b≠c'->b≠h'.objs.size->upd (upd H c' (.frz oc (.own P))) h'.objs.size (.frz (W8 X params body sc clos c' ctv) V6) b=H b:=fun b n1 n2=>by rw [A6 n2,A6 n1]
  have m6:upd (upd H c' (.frz oc (.own P))) h'.objs.size (.frz (W8 X params body sc clos c' ctv) V6) c'=some (.frz oc (.own P)):=by rw [A6 qC,upd_same]
  have kp:∀b o,b≠P->s.heap.get? b=some o->(h'.push (W8 X params body sc clos c' ctv)).get? b=some o:=fun b o n e=>af _ (hx b o n e)
  have nP:∀b,H b=none->b≠P:=fun b n z=>by rw [z,hP]at n;cases n
  have sm:A5 H (upd (upd H c' (.frz oc (.own P))) h'.objs.size (.frz (W8 X params body sc clos c' ctv) V6)):=fun b u e=>by rw [hH b (pj b u e) (ph b u e)];exact e
  refine⟨.ref h'.objs.size,upd (upd H c' (.frz oc (.own P))) h'.objs.size (.frz (W8 X params body sc clos c' ctv) V6),I.un (t':=tk) ⟨fun b o e n _ _=>kp b o (nP b n) e,fun b o e n _ _=>⟨o.slots,kp b o (nP b n) e⟩,fun b o e n _=>by rw [hH b (pz b o e) (pu b o e)];exact n,fun b o e _=>?_,
   fun b xs e=>sm _ _ e,fun b o u e=>sm _ _ e,fun b ps e=>⟨#[],by rw [sm _ _ e];simp⟩⟩ ?_,rfl,?_⟩
  ·by_cases hb:b=P
   ·exact⟨_,af _ (hb ▸ ng)⟩
   ·exact⟨o,kp b o hb e⟩
  ·intro b u e
   by_cases nD:b=h'.objs.size
   ·subst nD;rw [upd_same]at e;cases e
    exact Q7d (aH _ rfl)
   by_cases hbc:b=c'
   ·subst hbc;rw [m6]at e;cases e
    exact⟨af _ dL,⟨_,af _ dL⟩⟩
   rw [hH b hbc nD]at e
   by_cases hbP:b=P
   ·subst hbP;rw [hP]at e;cases e
    refine⟨_,af _ ng,?_,fun be cv q=>?_⟩
    ·have:=TriplesOk_snoc (pos.line:Int) (pos.col:Int) (.ref c') ps.toList ht
     simpa using this
    ·have q:codeAmong be (ps.toList++[rawInt (pos.line:Int),rawInt (pos.col:Int),.ref c'])=some cv:=by simpa using q
     rcases Y6h _ ht q with q | q
     ·obtain⟨c2,o2,e1,e2,e3⟩:=en be cv q
      exact⟨c2,o2,e1,sm _ _ e2,e3⟩
     ·exact⟨c',oc,q,m6,⟨vs,_,tq,ny,hv⟩⟩
   ·refine(I.hok b u e).stay (fun d v hc q=>kp d v ?_ q) (fun d v _ q=>sm _ _ q) fun d xs q=>sm _ _ q
    rcases hc with z | z
    ·rw [z];exact hbP
    ·intro z2
     rw [z2,hP]at z;cases z
  ·exact h _ c' oc ctv _ sm ⟨vs,_,tq,ny,hv⟩ gr m6 upd_same fun b n1 n2=>by
    by_cases hb:b=h'.objs.size
    ·exact .inl hb
    by_cases hb2:b=c'
    ·exact .inr hb2
    ·rw [hH b hb2 hb]at n1;exact absurd n2 n1
end
end L2
end
section
namespace L2
open PySem PySem.Spec PyProof.Rows
structure M4 where
 name:Str
 addr:Addr
 obj:Obj
 val:V
 slot:TK.Sl
noncomputable def K2 (S:List Addr) (H:Hp):Hp:=fun b=>if b∈S then none else H b
theorem Q5n {S:List Addr}{H:Hp}{b:Addr} (h:b∈S):K2 S H b=none:=aM h
theorem Z4 {S:List Addr}{H:Hp}{b:Addr} (h:b∉S):K2 S H b=H b:=aI h
theorem Y8b {S:List Addr}{H:Hp}{b:Addr}{u:HO} (h:K2 S H b=some u):b∉S/\H b=some u:=by
 by_cases hb:b∈S
 ·rw [Q5n hb]at h;cases h
 ·exact⟨hb,by rw [Z4 hb]at h;exact h⟩
noncomputable def showS (S:List Addr) (H H':Hp):Hp:=fun b=>if b∈S then H b else H' b
theorem Y3z {S:List Addr}{H H':Hp}{b:Addr} (h:b∈S):showS S H H' b=H b:=aM h
theorem Q8x {S:List Addr}{H H':Hp}{b:Addr} (h:b∉S):showS S H H' b=H' b:=aI h
def S9 (S:List Addr) (H:Hp):Prop:=∀c∈S,∃o u,H c=some (.frz o V6)/\o.data=.cell u
section
variable {P:Program}{w:World}{S:List Addr}{H H':Hp}{h h':Heap}
theorem S9.out (hS:S9 S H) {b:Addr}{u:HO} (e:H b=some u) (n:∀o,u≠.frz o V6):b∉S:=fun hb=>by
 obtain⟨o,_,q,_⟩:=hS b hb
 rw [e]at q;exact n o (ay q)
theorem S9.tup (hS:S9 S H) {b:Addr}{xs:List V} (e:H b=some (.tup xs)):K2 S H b=some (.tup xs):=by
 rw [Z4 (hS.out e (by intro o z;cases z))];exact e
theorem S9.own (hS:S9 S H) {a b:Addr}{u:HO} (ow:Q7a a u) (e:H b=some u):K2 S H b=some u:=by
 rw [Z4 (hS.out e (by
  intro o z
  rcases ow with rfl | ⟨o',rfl⟩
  ·cases z
  ·injection z with _ z;cases z))]
 exact e
theorem F8.hid (x:F8 P w H h) (hS:S9 S H) (k:∀b u,h.get? b=some u->h'.get? b=some u):F8 P w (K2 S H) h':=fun b u e=>by
 obtain⟨hb,e⟩:=Y8b e
 exact(x b u e).stay (fun c v _ q=>k c v q) (fun c v ow q=>hS.own ow q) fun c xs q=>hS.tup q
end
end L2
namespace TK
open PySem PySem.Spec PyProof.Rows L2
def Q1b (Φ:Hp->Prop):Prop:=∀(S:List Addr) (H:Hp),S9 S H->Φ H->Φ (K2 S H)
mutual
theorem A3.hid {K:Fg9}{S:List Addr}{H:Hp} (hS:S9 S H):∀(d:D) (v:V),A3 K H d v->A3 K (K2 S H) d v
 | .non,v,h=>by unfold A3 at h ⊢;exact h
 | .bl _,v,h=>by unfold A3 at h ⊢;exact h
 | .int _,v,h=>by unfold A3 at h ⊢;exact h
 | .str _,v,h=>by unfold A3 at h ⊢;exact h
 | .tup ds,v,h=>by
  unfold A3 at h ⊢
  obtain⟨a,xs,e,q,t⟩:=h
  exact⟨a,xs,e,hS.tup q,AllS.hid hS ds xs t⟩
 | .lst ds,v,h=>by
  unfold A3 at h ⊢
  obtain⟨a,xs,e,q,t⟩:=h
  refine⟨a,xs,e,?_,AllS.hid hS ds xs t⟩
  rcases q with⟨o,q⟩ | q
  ·exact .inl ⟨o,by rw [Z4 (hS.out q (by intro o z;injection z with _ z;cases z))];exact q⟩
  ·exact .inr q
theorem AllS.hid {K:Fg9}{S:List Addr}{H:Hp} (hS:S9 S H):∀(ds:List D) (xs:List V),AllS K H ds xs->AllS K (K2 S H) ds xs
 | [],xs,h=>by unfold AllS at h ⊢;exact h
 | d::ds,xs,h=>by
  unfold AllS at h ⊢
  obtain⟨v,r,e,q,t⟩:=h
  exact⟨v,r,e,A3.hid hS d v q,AllS.hid hS ds r t⟩
end
noncomputable def Q2s (K:Fg9) (H:Hp):Sl->V->Prop
 | .dat d,v=>A3 K H d v
 | .cl a Φ,v=>v=.ref a/\Φ H/\Q3p Φ/\Q1b Φ
 | _,_=>False
theorem Q2s.mono {K:Fg9}{H H':Hp} (k:Kp H H'):∀{s:Sl}{v:V},Q2s K H s v->Q2s K H' s v
 | .dat d,v,h=>A3.mono k d v h
 | .cl a Φ,v,h=>⟨h.1,h.2.2.1 _ _ k h.2.1,h.2.2⟩
 | .own _,_,h=>h.elim
 | .bor _,_,h=>h.elim
 | .bd _,_,h=>h.elim
 | .dk _,_,h=>h.elim
 | .dt _,_,h=>h.elim
 | .ob _,_,h=>h.elim
 | .ins _ _ _,_,h=>h.elim
 | .ll _ _,_,h=>h.elim
theorem Q2s.slot {K:Fg9}{S:List Addr}{H:Hp} (hS:S9 S H):∀{s:Sl}{v:V},Q2s K H s v->SlR K (K2 S H) (K2 S H) s v/\s.mut=false
 | .dat d,v,h=>⟨A3.hid hS d v h,rfl⟩
 | .cl a Φ,v,h=>⟨⟨h.1,h.2.2.2 _ _ hS h.2.1,h.2.2.1⟩,rfl⟩
 | .own _,_,h=>h.elim
 | .bor _,_,h=>h.elim
 | .bd _,_,h=>h.elim
 | .dk _,_,h=>h.elim
 | .dt _,_,h=>h.elim
 | .ob _,_,h=>h.elim
 | .ins _ _ _,_,h=>h.elim
 | .ll _ _,_,h=>h.elim
structure Z6k (K:Fg9) (H:Hp) (p:M4):Prop where
 at_:H p.addr=some (.frz p.obj V6)
 cell:∃u,p.obj.data=.cell (some u)/\B7 p.val u
 rel:Q2s K H p.slot p.val
def X3 (K:Fg9) (caps:List M4) (f c':Addr) (fo:Obj) (H:Hp):Prop :=
 H f=some (.frz fo V6)/\(∃oc Pt,H c'=some (.frz oc (.own Pt))/\Q5a oc)/\∀p∈caps,Z6k K H p
theorem X3.mono {K:Fg9}{caps:List M4}{f c':Addr}{fo:Obj}:Q3p (X3 K caps f c' fo):=fun H H' k ⟨h1,⟨oc,Pt,h2,h3⟩,h4⟩ =>
 ⟨k.frz _ _ _ h1,⟨oc,Pt,k.frz _ _ _ h2,h3⟩,fun p hp=>⟨k.frz _ _ _ (h4 p hp).at_,(h4 p hp).cell,(h4 p hp).rel.mono k⟩⟩
theorem X3.hid0 {K:Fg9}{f c':Addr}{fo:Obj} (hf:∀u,fo.data≠.cell u):Q1b (X3 K [] f c' fo):=fun S H hS ⟨h1,⟨oc,Pt,h2,h3⟩,_⟩=>by
 refine⟨?_,⟨oc,Pt,?_,h3⟩,fun p hp=>absurd hp (by simp)⟩
 ·rw [Z4]
  ·exact h1
  ·intro hb
   obtain⟨o,u,q,d⟩:=hS _ hb
   rw [h1]at q
   injection q with q
   injection q with q
   exact hf u (q ▸ d)
 ·rw [Z4 (hS.out h2 (by intro o z;injection z with _ z;cases z))];exact h2
noncomputable def Q5t (K:Fg9) (n:Nat) (Φ:Hp->Prop) (sp:D6):Sp:=fun vs H Q _=>∃(rs:List R) (r:R),rs.length=n/\N1 K (fun _=>none) H rs vs/\rs.all N7=true/\Φ H/\sp (rs.map nrm) r/\∀v H',A5 H H'->E4 K H H' r v->Q v H'
end TK
namespace L2
open PySem PySem.Spec PyProof.Rows TK
noncomputable abbrev Q5 (caps:List M4):List (Str×Addr):=caps.map fun p=>(p.name,p.addr)
structure Q3o (ps fr:List Str) (sc:Scope):Prop where
 kind:sc.kind=.function
 co:sc.isCoroutine=false
 gen:sc.isGenerator=false
 nd:(ps++fr).Nodup
 par:∀x∈ps,sc.names.lookup x=some .local
 fre:∀x∈fr,sc.names.lookup x=some .free
 nocell:∀y∈sc.names,y.2≠.cell
 all:∀y∈sc.names,y.2=.free->y.1∈fr
noncomputable def cxL (P:Program) (w:World) (K:Fg9) (mg:Str->Option Value) (base:Heap) (N:List Str) (q:Str) (sc:Scope) (f c':Addr) (caps:List M4) (A:Around) (outer:List Env) (s:Shared) (H:Hp):Cx where
 prog:=P
 w:=w
 K:=K
 mg:=mg
 base:=base
 A:=A.deeper (PySem.W.envX q sc s.heap.objs.size f (.ref c') (Q5 caps))
 N:=N
 s₀:=s
 H₀:=H
 env:=PySem.W.envX q sc s.heap.objs.size f (.ref c') (Q5 caps)
 outer:=outer
 stack:=PySem.W.envX q sc s.heap.objs.size f (.ref c') (Q5 caps)::outer
 ex:=[]
 calm:=true
 fn:=fun _=>false
 pn:=[]
 xe:=fun _ _=>False
theorem Q8a {caps:List M4}{x:Str}{c:Addr} (h:(Q5 caps).lookup x=some c):∃p∈caps,p.name=x/\p.addr=c:=by
 have:=bz h
 obtain⟨p,hp,e⟩:=aj.mp this
 cases e
 exact⟨p,hp,rfl,rfl⟩
theorem Z0z:∀{caps:List M4}{p:M4},(caps.map (·.name)).Nodup->p∈caps->(Q5 caps).lookup p.name=some p.addr
 | [],_,_,mem=>absurd mem (by simp)
 | q::r,p,nd,mem=>by
  rw [ar,bj]at nd
  show List.lookup p.name ((q.name,q.addr)::Q5 r)=_
  rcases ao.mp mem with rfl | mem
  ·simp [List.lookup]
  ·have cj:p.name≠q.name:=fun z=>nd.1 (z ▸ List.mem_map_of_mem mem)
   rw [List.lookup_cons]
   have:(p.name==q.name)=false:=by simpa using cj
   rw [this]
   exact Z0z nd.2 mem
theorem Z0t:∀{caps:List M4}{p q:M4},(caps.map (·.addr)).Nodup->p∈caps->q∈caps->p.addr=q.addr->p=q
 | [],_,_,_,h,_,_=>absurd h (by simp)
 | r::l,p,q,nd,h1,h2,e=>by
  rw [ar,bj]at nd
  rcases ao.mp h1 with a1 | a1
  ·rcases ao.mp h2 with a2 | a2
   ·rw [a1,a2]
   ·exact absurd (aj.mpr ⟨q,a2,by rw [<- e,a1]⟩) nd.1
  ·rcases ao.mp h2 with a2 | a2
   ·exact absurd (aj.mpr ⟨p,a1,by rw [e,a2]⟩) nd.1
   ·exact Z0t nd.2 a1 a2 e
end L2
end
section
namespace L2
open PySem PySem.Spec PyProof.Rows TK
section
variable {Pg:Program}{Wd:World}{Ar:Around}{Rs:Result->Shared->Prop}{s:Shared}
theorem Y6p {a:Addr}{args:Args}{o:Obj}{fd:FuncData}{body:Expr}{q:Str} (deep:Ar.depth<recursionLimit) (at_:s.heap.get? a=some o) (is:o.data=.func fd) (c0:fd.scope.isCoroutine=false) (g0:fd.scope.isGenerator=false) (bd:fd.body=.expr body) (cd:s.heap.CodeRec fd.code q)
  (go:wpAny (model Pg Wd) Ar.in1 (bindArgs fd args)
   (fun bs s1=>wpAny (model Pg Wd) Ar.in1 (newFunctionEnv fd.scope fd.globals fd.closure bs (q++".<locals>.") (some a) fd.code none fd.builtins) (fun ev s2=>s2.heap.NoLimit/\codeAny (model Pg Wd) Ar (.expr body ev) Rs s2) (fun x s1=>Rs (.error x) s1) s1)
   (fun x s1=>Rs (.error x) s1) s):codeAny (model Pg Wd) Ar (.call (.ref a) args) Rs s:=by
 obtain⟨c,oc,fs,tk,hc,dL,qw,hn⟩:=cd
 have run:wpAny (model Pg Wd) Ar.in1 (callAny (.ref a) args) (fun fin s1=>match fin with | .done fl=>Rs (.ok fl) s1 | .again c'=>c'.quiet=true/\codeAny (model Pg Wd) Ar c' Rs s1) (fun x s1=>Rs (.error x) s1) s:=by
  unfold callAny
  refine aa (wpAny_load at_ ?_)
  rw [is]
  dsimp only
  rw [hc]at go
  unfold callFunction
  simp only [c0,g0,bd,hc]
  refine aa (m:=field (.ref c) 1) (bQ dL qw hn (aa (aq (aa (B2 go fun bs s1 h1=>?_)))))
  exact aa (B2 h1 fun ev s2 ⟨iM,h2⟩=>aa (wpAny_enterFrame iM deep (aq ⟨rfl,h2⟩)))
 exact codeAny_of_tree run
end
theorem W8n {x:Str}{u:Value}:∀{ps:List Str}{us:List Value}{i:Nat},ps.Nodup->ps[i]?=some x->us[i]?=some u->(ps.zip us).reverse.lookup x=some u:=by
 intro ps us i nd h1 h2
 have hm:(x,u)∈(ps.zip us).reverse:=by
  rw [List.mem_reverse]
  refine aw (i:=i) ?_
  rw [bF]
  exact⟨h1,h2⟩
 have un:∀v,(x,v)∈(ps.zip us).reverse->v=u:=fun v hv=>by
  rw [List.mem_reverse]at hv
  obtain⟨j,hj⟩:=List.getElem?_of_mem hv
  rw [bF]at hj
  have hi:i<ps.length:=(aF.mp h1).1
  have lO:i=j:=(List.getElem?_inj hi nd).mp (h1.trans hj.1.symm)
  subst lO
  rw [h2]at hj;exact(ay hj.2).symm
 cases hl:(ps.zip us).reverse.lookup x with
 | none =>
  have:=List.lookup_eq_none_iff.mp hl _ hm
  simp at this
 | some v=>rw [un v (bz hl)]
section
variable {P:Program}{w:World}{K:Fg9}{mg:Str->Option Value}{base:Heap}{ps:List Str}{q:Str}{sc:Scope}{f c':Addr}{caps:List M4}{A:Around}{outer:List Env}{s s1:Shared}{H:Hp}{us:List Value}{vs:List V}
theorem Y8l (S:Q3o ps (caps.map (·.name)) sc) (fU:(caps.map (·.addr)).Nodup) (hd:A.handled=none) (e0:Q3m P w K mg base A outer s H) (hl:vs.length=ps.length) (r:B6 vs us) (hc:∀p∈caps,Z6k K H p)
  {h1:Heap}{tk:Nat} (ic:h1.Ns s.heap.objs.size fun x=>(ps.zip us).reverse.lookup x) (hk:∀b o,s.heap.get? b=some o->h1.get? b=some o) :
  A1 (cxL P w K mg base (ps++caps.map (·.name)) q sc f c' caps A outer s (K2 (caps.map (·.addr)) H)) [] ((vs++caps.map (·.val)).map some) (K2 (caps.map (·.addr)) H) { s with heap:=h1,toks:=tk }:=by
 have hS:S9 (caps.map (·.addr)) H:=fun c cU=>by
  obtain⟨p,hp,rfl⟩:=aj.mp cU
  obtain⟨u,hu,_⟩:=(hc p hp).cell
  exact⟨_,_,(hc p hp).at_,hu⟩
 have iY:∀b,H b=none->K2 (caps.map (·.addr)) H b=none:=fun b n=>by
  unfold K2;split
  ·rfl
  ·exact n
 have j8:(caps.map (·.name)).Nodup:=(ba.mp S.nd).2.1
 have kc:∀p∈caps,∃u,h1.IsCell p.addr (some u)/\B7 p.val u:=fun p hp=>by
  obtain⟨u,hu,ru⟩:=(hc p hp).cell
  exact⟨u,⟨p.obj,hk _ _ (e0.hok _ _ (hc p hp).at_).1,hu⟩,ru⟩
 have gh:∀b:Addr,b∉(cxL P w K mg base (ps++caps.map (·.name)) q sc f c' caps A outer s (K2 (caps.map (·.addr)) H)).ex:=fun b z=>absurd (show b∈([]:List Addr)from z) (by simp)
 refine⟨⟨e0.mod,S.kind,rfl,rfl,ai _,fun y z c h1 h2=>?_,fun y hy=>?_,fun y c hf _=>absurd (show false=true from hf) (by decide),fun _=>hd,Around.frames_deeper e0.frames,.inr ⟨rfl,rfl⟩,fun b z=>absurd z (gh b),fun b o e=>⟨(e0.bs b o e).1,iY _ (e0.bs b o e).2⟩,e0.bsz,fun b _ _=>gh b,fun b z=>absurd z (gh b),e0.funs,fun b hb=>iY _ (e0.frf b hb)⟩,
  rfl,e0.bare,Un.kept hk,⟨_,ic,fun i y v h1 h2 h3=>?_⟩,fun y c h=>?_,iY _ (e0.hok.fresh (ai _)),fun y c h=>?_,fun p hp=>absurd (show p∈([]:Pn9)from hp) (by simp),e0.hok.hid hS hk,?_⟩
 ·obtain⟨p,hp,rfl,e1⟩:=Q8a h1
  obtain⟨p',q0,rfl,e2⟩:=Q8a h2
  rw [Z0t fU hp q0 (e1.trans e2.symm)]
 ·have hy:sc.names.lookup y=some .cell\/sc.names.lookup y=some .free:=hy
  rcases hy with hy | hy
  ·exact absurd rfl (S.nocell _ (bz hy))
  ·have:=S.all _ (bz hy) rfl
   obtain⟨p,hp,e⟩:=aj.mp this
   have e:p.name=y:=e
   exact⟨p.addr,by rw [<- e];exact Z0z j8 hp⟩
 ·by_cases hi:i<ps.length
  ·have hp:ps[i]?=some y:=by rw [show(cxL P w K mg base (ps++caps.map (·.name)) q sc f c' caps A outer s (K2 (caps.map (·.addr)) H)).N=ps++caps.map (·.name)from rfl,aJ hi]at h1;exact h1
   have hv:vs[i]?=some v:=by
    rw [ah,aJ (by omega)]at h2
    cases e:vs[i]? with
    | none=>rw [e]at h2;cases h2
    | some a=>rw [e]at h2;cases h2;rfl
   obtain⟨u,hu,rv⟩:=r.get hv
   exact⟨u,rv,.inl ⟨S.par y (aw hp),W8n (ba.mp S.nd).1 hp hu⟩⟩
  ·have hp:(caps.map (·.name))[i-ps.length]?=some y:=by rw [show(cxL P w K mg base (ps++caps.map (·.name)) q sc f c' caps A outer s (K2 (caps.map (·.addr)) H)).N=ps++caps.map (·.name)from rfl,aS (by omega)]at h1;exact h1
   have hv:(caps.map (·.val))[i-ps.length]?=some v:=by
    rw [ah,aS (by omega),hl]at h2
    cases e:(caps.map (·.val))[i-ps.length]? with
    | none=>rw [e]at h2;cases h2
    | some a=>rw [e]at h2;cases h2;rfl
   rw [ah]at hp hv
   cases e:caps[i-ps.length]? with
   | none=>rw [e]at hp;cases hp
   | some p =>
    rw [e]at hp hv
    cases hp;cases hv
    have lC:=aw e
    obtain⟨u,cL,ru⟩:=kc p lC
    exact⟨u,ru,.inr ⟨.inr (S.fre _ (List.mem_map_of_mem lC)),p.addr,Z0z j8 lC,cL⟩⟩
 ·obtain⟨p,hp,rfl,rfl⟩:=Q8a h
  obtain⟨u,cL,_⟩:=kc p hp
  exact⟨_,cL⟩
 ·obtain⟨p,hp,rfl,rfl⟩:=Q8a h
  exact Q5n (List.mem_map_of_mem hp)
 ·rw [ag,aE,ag,hl]
  show _=(ps++caps.map (·.name)).length
  rw [aE,ag]
end
theorem A5.showS {S:List Addr}{H H':Hp} (hS:S9 S H) (sm:A5 (K2 S H) H'):A5 H (L2.showS S H H'):=fun b u e=>by
 by_cases hb:b∈S
 ·rw [Y3z hb];exact e
 ·rw [Q8x hb];exact sm b u (by rw [Z4 hb];exact e)
theorem Z1k {P:Program}{w:World}{K:Fg9}{mg:Str->Option Value}{base:Heap}{k:Nat}{f c':Addr}{name qual:Str}{params:Arguments}{body:Expr}{sc:Scope}{pm ctv:Value}{ps:List Str}{caps:List M4}{sp:D6}{wb:WE}
  (S:Q3o ps (caps.map (·.name)) sc) (fU:(caps.map (·.addr)).Nodup)
  (bS:∀(A:Around) (outer:List Env) (s:Shared) (H:Hp) (q:Str),C2 k (A.deeper (PySem.W.envX q sc s.heap.objs.size f (.ref c') (Q5 caps)))->DE (cxL P w K mg base (ps++caps.map (·.name)) q sc f c' caps A outer s H) H body wb)
  (hw:∀rs r,rs.length=ps.length->sp rs r->∃(ds:List D) (d:D),rs=ds.map R.st/\r=.st d/\wb (ds.map (fun d=>some (Sl.dat d))++caps.map fun p=>some p.slot) fun r'=>r'=.st d) :
  P8 P w K mg base K8 (k+1) f (PySem.W.kla_fn name qual params body sc (Q5 caps) pm (.ref c') ctv) ps (Q5t K ps.length (X3 K caps f c' (PySem.W.kla_obj name qual params body sc (Q5 caps) pm c' ctv)) sp):=by
 refine⟨fun vs H Q E h=>?_,fun A outer s H args us vs Q E hr e0 hb r fA=>?_⟩
 ·obtain⟨rs,r,hl,al,_⟩:=h
  rw [<- al.length];exact hl
 obtain⟨rs,r0,hl,al,ok,⟨hf,⟨oc,Pt,hc,qc⟩,eY⟩,h1,h2⟩:=fA
 have qf:vs.length=ps.length:=by rw [<- al.length];exact hl
 have iM:s.heap.NoLimit:=e0.mod.nolimit.keeps fun b o e=>(e0.bs b o e).1
 have gf:s.heap.get? f=some _:=(e0.hok _ _ hf).1
 have gc:s.heap.get? c'=some oc:=(e0.hok _ _ hc).1
 obtain⟨rA,q,tq,dD,hq⟩:=qc
 obtain⟨ds,d,nA,rfl,pR⟩:=hw (rs.map nrm) r0 (by rw [ag];exact hl) h1
 have hS:S9 (caps.map (·.addr)) H:=fun c cU=>by
  obtain⟨p,hp,rfl⟩:=aj.mp cU
  obtain⟨u,hu,_⟩:=(eY p hp).cell
  exact⟨_,_,(eY p hp).at_,hu⟩
 refine Y6p (fd:=PySem.W.kla_fn name qual params body sc (Q5 caps) pm (.ref c') ctv) hr.depth gf rfl S.co S.gen rfl ⟨c',oc,rA,tq,rfl,gc,dD,hq⟩ (hb _ _ _ _ ?_)
 refine fG S.nocell (fun y hy=>S.par _ (dv hy).1) (fun h1 ic nh=>⟨(iM).fresh _ nh,?_⟩) S.kind
 have hk:∀b o,s.heap.get? b=some o->h1.get? b=some o:=fun b o e=>(nh.2 b (av (au e))).trans (af _ e)
 show codeAny _ _ (.expr body (PySem.W.envX q sc s.heap.objs.size f (.ref c') (Q5 caps))) _ _
 have I:=Y8l (q:=q) (f:=f) (c':=c') (tk:=s.toks+(ps.zip us).length) S fU hr.hd e0 qf r eY ic hk
 have hD:=bS A outer s (K2 (caps.map (·.addr)) H) q (hr.deeper _)
 have rep:B4 K (K2 (caps.map (·.addr)) H) (ds.map (fun d=>some (Sl.dat d))++caps.map fun p=>some p.slot) ((vs++caps.map (·.val)).map some) (K2 (caps.map (·.addr)) H):=by
  have bI:ds.length=vs.length:=by
   have:=congrArg List.length nA
   rw [ag,ag]at this
   rw [<- this,al.length]
  have args:∀(i:Nat) (d:D),ds[i]?=some d->∃v,vs[i]?=some v/\A3 K H d v:=fun i d e=>by
   have:(rs.map nrm)[i]?=some (.st d):=by rw [nA,ah,e];rfl
   rw [ah]at this
   cases e2:rs[i]? with
   | none=>rw [e2]at this;cases this
   | some x =>
    rw [e2]at this
    have hx:nrm x=.st d:=ay this
    obtain⟨v,hv,q⟩:=al.get e2
    refine⟨v,hv,?_⟩
    cases x with
    | st y=>cases hx;exact q
    | nw _=>cases hx
    | bw _=>cases hx
    | dk _=>cases hx
    | dt _=>cases hx
    | ob _=>cases hx
    | cl _ _=>cases hx
    | ms _ _ _ _=>cases hx
  have Q2v:∀(i:Nat) (sl:Sl),(ds.map (fun d=>some (Sl.dat d))++caps.map fun p=>some p.slot)[i]?=some (some sl)->∃v,((vs++caps.map (·.val)).map some)[i]?=some (some v)/\TK.SlR K (K2 (caps.map (·.addr)) H) (K2 (caps.map (·.addr)) H) sl v/\sl.mut=false:=fun i sl e=>by
   by_cases hi:i<ds.length
   ·rw [aJ (by rw [ag];exact hi),ah]at e
    cases e1:ds[i]? with
    | none=>rw [e1]at e;cases e
    | some y =>
     rw [e1]at e
     cases e
     obtain⟨v,hv,q⟩:=args i y e1
     refine⟨v,?_,A3.hid hS _ _ q,rfl⟩
     rw [ah,aJ (by omega),hv];rfl
   ·rw [aS (by rw [ag];omega),ag,ah]at e
    cases e1:caps[i-ds.length]? with
    | none=>rw [e1]at e;cases e
    | some p =>
     rw [e1]at e
     cases e
     obtain⟨q1,q2⟩:=(eY p (aw e1)).rel.slot hS
     refine⟨p.val,?_,q1,q2⟩
     rw [ah,aS (by omega),ah,<- bI,e1];rfl
  refine⟨by simp [bI],A5.refl _,fun i sl e=>let ⟨v,a,b,_⟩:=Q2v i sl e;⟨v,a,b⟩,fun i j s t v _ e1 _ m _ _ _=>?_⟩
  obtain⟨_,_,_,z⟩:=Q2v i s e1
  rw [z]at m;cases m
 refine PySem.W.kla_codeExpr (aL (hD.pe [] _ _ _ (fun v H'=>A5 (K2 (caps.map (·.addr)) H) H'/\A3 K H' d v) I ⟨_,rep,hD.mono _ _ _ (fun r' lA v H' sm ir=>by subst lA;exact⟨sm,ir⟩) pR⟩) (fun u s' hs=>?_) fun e s' hs=>(show False from hs).elim)
 obtain⟨v,H',J,rv,sm,q⟩:=hs
 have out:∀b u,H' b=some u->b∉caps.map (·.addr):=fun b u e eB=>by
  obtain⟨o,u',jP,_⟩:=hS b eB
  have:=J.base.free b o (e0.hok _ _ jP).1 (Q5n eB) (by show b∉([]:List Addr);simp)
  rw [this]at e;cases e
 have cN:A5 H' (L2.showS (caps.map (·.addr)) H H'):=fun b u e=>by rw [Q8x (out b u e)];exact e
 have kh:=A5.showS hS sm
 show CE outer P w H s Q u s'
 refine⟨v,L2.showS (caps.map (·.addr)) H H',J.os,J.bare,?_,?_,rv,h2 v (L2.showS (caps.map (·.addr)) H H') kh (show E4 K H (L2.showS (caps.map (·.addr)) H H') (.st d) v from A3.mono (Kp.of cN) d v q)⟩
 ·have hn:∀b,H b=none->b∉caps.map (·.addr):=fun b n hb=>by obtain⟨o,u,q,_⟩:=hS b hb;rw [n]at q;cases q
  have hid0:∀b,H b=none->K2 (caps.map (·.addr)) H b=none:=fun b n=>by rw [Z4 (hn b n)];exact n
  refine⟨fun b o e n hb hx=>J.base.keep b o e (hid0 b n) hb hx,fun b o e n hb hx=>J.base.slot b o e (hid0 b n) hb hx,fun b o e n hx=>?_,fun b o e hx=>J.base.there b o e hx,fun b xs e=>kh _ _ e,fun b o u e=>kh _ _ e,fun b ps e=>⟨#[],by rw [kh _ _ e];simp⟩⟩
  rw [Q8x (hn b n)]
  exact J.base.free b o e (hid0 b n) hx
 ·intro b u e
  by_cases eB:b∈caps.map (·.addr)
  ·rw [Y3z eB]at e
   obtain⟨o,u',jP,_⟩:=hS b eB
   rw [jP]at e;cases e
   have g:=(e0.hok _ _ jP).1
   have:b∉frs outer:=fun z=>by have:=e0.frf b z;rw [jP]at this;cases this
   exact Q7d (J.base.keep b o g (Q5n eB) this (by show b∉([]:List Addr);simp))
  ·rw [Q8x eB]at e
   exact(J.hok b u e).stay (fun c v _ q=>q) (fun c v _ q=>cN _ _ q) fun c xs q=>cN _ _ q
end L2
end
section
namespace L2
open PySem PySem.Spec PyProof.Rows TK
structure F4 (P:Program) (w:World) (K:Fg9) (mg:Str->Option Value) (base:Heap) (k n:Nat) (f:Addr) (Φ:Hp->Prop) (sp:D6):Prop where
 ex:∃(fd:FuncData) (ps:List Str),P8 P w K mg base K8 k f fd ps (Q5t K n Φ sp)/\ps.length=n/\V2 K fd ps []/\∀(h:Heap) (H:Hp),F8 P w H h->K.In h->Φ H->∃o,h.get? f=some o/\o.data=.func fd
section
variable {X:Cx}{k n i:Nat}{x:Str}{e:Expr}{es:List Expr}{t:TA}{p pos:Pos}
theorem W2d (hr:C2 k X.A) (hv:PE X (.Name x p) (M0 i)) (ha:PA X (e::es) t) (he:starEach (e::es) X.env=(false,eval e X.env)::starEach es X.env:=by rfl) (hpl:(backTo pos (starEach es X.env)).any (·.1)=false:=by rfl) :
  PE X (.Call (.Name x p) (e::es) [] pos) (fun σ H Q=>∃f Φ sp,σ[i]?=some (some (.ref f))/\F4 X.prog X.w X.K X.mg X.base k n f Φ sp/\t σ H fun vs H1=>Q5t X.K n Φ sp vs H1 Q E0):=by
 intro ae s σ H Q I ⟨f,Φ,sp,h0,F,h⟩
 obtain⟨fd,ps,F,hn,hb,here⟩:=F.ex
 refine bq (B2 (hv ae s σ H (fun v H'=>v=.ref f/\t σ H' fun vs H1=>Q5t X.K n Φ sp vs H1 Q E0) I ⟨.ref f,h0,rfl,h⟩) fun u s1 bp=>?_)
 obtain⟨v,H1,I1,r,ev,q⟩:=bp
 subst ev
 obtain rfl:u=Value.ref f:=r
 refine PySem.W.callWith_of (P:=fun h=>∃o,h.get? f=some o/\o.data=.func fd) (by rw [he];show((false||(backTo pos (starEach es X.env)).any (·.1))||false)=false;rw [hpl];rfl) (fun h ⟨o,e1,e2⟩=>⟨.frame,.inl rfl,?_⟩) ?_
 ·obtain⟨oc,od,dt,sl⟩:=o
  have e2:dt=.func fd:=e2
  subst e2
  exact(PySem.W.Looks.ld (part:=none) e1).andThen .now
 rw [he]
 refine cP ?_
 have h2:=ha pos ae s1 σ H1 _ I1 q
 rw [he]at h2
 refine B2 h2 fun us s2 ⟨vs,H2,I2,r,q⟩=>⟨?_,?_⟩
 ·obtain⟨rs,r0,_,_,_,hΦ,_⟩:=q
  exact here _ _ I2.hok I2.kIn hΦ
 ·have:=Z3q F hr hb .nil Q8p I2 r (show Q5t X.K n Φ sp (vs++[]) H2 Q E0 by rw [b7];exact q)
  exact this
end
end L2
namespace TK
open PySem PySem.Spec PyProof.Rows L2
noncomputable abbrev C4:=Nat->Addr->(Hp->Prop)->D6->Prop
section
variable {X:Cx}{H0:Hp}{e:Expr}{es:List Expr}{wr:WA}{k i n:Nat}{x:Str}{p pos:Pos}
def Y3 (FC:C4) (n i:Nat) (wr:WA):WE:=fun τ Q=>∃f Φ sp,τ[i]?=some (some (.cl f Φ))/\FC n f Φ sp/\wr τ fun rs=>rs.all N7=true/\∃r,sp (rs.map nrm) r/\Q r
theorem DE.callC (hr:C2 k X.A) (hv:PE X (.Name x p) (M0 i)) (ha:DA X H0 (e::es) wr) (he:starEach (e::es) X.env=(false,eval e X.env)::starEach es X.env:=by rfl) (hpl:(backTo pos (starEach es X.env)).any (·.1)=false:=by rfl) :
  DE X H0 (.Call (.Name x p) (e::es) [] pos) (Y3 (F4 X.prog X.w X.K X.mg X.base k) (e::es).length i wr) where
 mono:=fun τ P Q f ⟨g,Φ,sp,h0,F,h⟩=>⟨g,Φ,sp,h0,F,ha.mono τ _ _ (fun rs ⟨ok,r,h1,h2⟩=>⟨ok,r,h1,f r h2⟩) h⟩
 pe:=O1 (W2d (n:=(e::es).length) hr hv ha.pa he hpl) fun σ H Q ⟨τ,hR,f,Φ,sp,h0,F,h⟩=>by
  obtain⟨v,hv,rv⟩:=hR.here i _ h0
  obtain⟨rfl,hΦ,hM⟩:v=.ref f/\Φ H/\Q3p Φ:=rv
  exact⟨f,Φ,sp,hv,F,τ,hR,ha.mono τ _ _ (fun rs ⟨jF,ok,r,h1,h2⟩ vs H1 s1 cx=>⟨rs,r,jF,cx.v,ok,hM _ _ (Kp.of s1) hΦ,h1,fun v H' s2 ir=>h2 v H' (s1.trans s2) (ir.older s1)⟩) (ha.len τ _ h)⟩
@[simp] theorem Q4m {FC:C4} {τ:A8}{Q:R->Prop}:Y3 FC n i wr τ Q=∃f Φ sp,τ[i]?=some (some (.cl f Φ))/\FC n f Φ sp/\wr τ fun rs=>rs.all N7=true/\∃r,sp (rs.map nrm) r/\Q r:=rfl
end
section
variable {X:Cx}{H0:Hp}{params:Arguments}{body:Expr}{sc:Scope}{pos:Pos}{c Pt:Addr}{k:Nat}{ps:List Str}{sp:D6}{wb:WE}
def Q2o (FC:C4) (n:Nat) (sp:D6):WE:=fun _ Q=>∀f Φ,FC n f Φ sp->Q1b Φ->Q (.cl f Φ)
theorem DE.lam0 (hT:H0 Pt=some .tab) (hB:Y5 X.mg X.base) (db:X.env.code=.ref c) (hC:PySem.W.codeHdIn X.K c Pt=true) (gu:closureFor sc X.env=pure []) (S:Q3o ps [] sc)
  (cR:∀(qual:Str) (pm cd ct:Value) (us:List Value),us.length=ps.length->bindArgs (PySem.W.kla_fn "<lambda>" qual params body sc [] pm cd ct) ⟨us,[]⟩=pure (ps.zip us))
  (bS:∀(f c':Addr) (A:Around) (outer:List Env) (s:Shared) (H:Hp) (q:Str),C2 k (A.deeper (PySem.W.envX q sc s.heap.objs.size f (.ref c') []))->DE (cxL X.prog X.w X.K X.mg X.base ps q sc f c' [] A outer s H) H body wb)
  (hw:∀rs r,rs.length=ps.length->sp rs r->∃(ds:List D) (d:D),rs=ds.map R.st/\r=.st d/\wb (ds.map (fun d=>some (Sl.dat d))) fun r'=>r'=.st d) (hd:defaultsOf params X.env=([],[]):=by rfl) :
  DE X H0 (.Lambda params body sc pos) (Q2o (F4 X.prog X.w X.K X.mg X.base (k+1)) ps.length sp) where
 mono:=fun τ P Q g h f Φ F hH=>g _ (h f Φ F hH)
 pe:=O1 (Z3f hB db hC gu hd) fun σ H Q ⟨τ,hR,h⟩=>by
  refine⟨hR.same _ _ hT,fun f c' oc ctv H' sm dL hf cU gQ _=>?_⟩
  have LP:X3 X.K [] f c' (W8 X params body sc [] c' ctv) H':=⟨gQ,⟨oc,Pt,cU,dL⟩,fun p hp=>absurd hp (by simp)⟩
  have F0:=Z1k (P:=X.prog) (w:=X.w) (K:=X.K) (mg:=X.mg) (base:=X.base) (k:=k) (f:=f) (c':=c') (name:="<lambda>") (qual:=X.env.qual++"<lambda>") (params:=params) (body:=body) (sc:=sc) (pm:=(X.mg "__name__").getD .none) (ctv:=ctv) (ps:=ps) (caps:=[]) (sp:=sp) (wb:=wb) S dR
   (fun A outer s H q hr=>by rw [cc,b7];exact bS f c' A outer s H q hr) (fun rs r hl hs=>by obtain⟨ds,d,e1,e2,e3⟩:=hw rs r hl hs;exact⟨ds,d,e1,e2,by rw [cc,b7];exact e3⟩)
  refine h f (X3 X.K [] f c' (W8 X params body sc [] c' ctv)) ⟨_,ps,F0,rfl,V2.all (cR _ _ _ _),fun hh Hh hok _ hΦ=>⟨_,(hok _ _ hΦ.1).1,rfl⟩⟩ (X3.hid0 (fun u z=>by cases z)) (.ref f) H' sm ⟨rfl,LP,X3.mono⟩
@[simp] theorem Y2s {FC:C4}{n:Nat} {τ:A8}{Q:R->Prop}:Q2o FC n sp τ Q=∀f Φ,FC n f Φ sp->Q1b Φ->Q (.cl f Φ):=rfl
end
end TK
end
section
namespace L2
open PySem PySem.Spec PyProof.Rows TK
noncomputable def U5 (caps:List M4) (H:Hp):Hp:=fun b=>match caps.find? (fun p=>p.addr==b)with
 | some p=>some (.frz p.obj V6)
 | none=>H b
theorem Q5e {caps:List M4}{H:Hp}{p:M4} (nd:(caps.map (·.addr)).Nodup) (hp:p∈caps):U5 caps H p.addr=some (.frz p.obj V6):=by
 unfold U5
 cases e:caps.find? (fun q=>q.addr==p.addr)with
 | none =>
  have:=List.find?_eq_none.mp e p hp
  simp at this
 | some q =>
  have h1:(q.addr==p.addr)=true:=List.find?_some (p:=fun q:M4=>q.addr==p.addr) e
  have h2:=List.mem_of_find?_eq_some e
  rw [Z0t nd h2 hp (by simpa using h1)]
theorem Q5f {caps:List M4}{H:Hp}{b:Addr} (h:b∉caps.map (·.addr)):U5 caps H b=H b:=by
 unfold U5
 cases e:caps.find? (fun q=>q.addr==b)with
 | none=>rfl
 | some q =>
  have h1:(q.addr==b)=true:=List.find?_some (p:=fun q:M4=>q.addr==b) e
  have h2:=List.mem_of_find?_eq_some e
  exact absurd (aj.mpr ⟨q,h2,by simpa using h1⟩) h
structure Q1r (X:Cx) (s:Shared) (p:M4):Prop where
 look:X.env.cells.lookup p.name=some p.addr
 own:X.fn p.name=true
 get:s.heap.get? p.addr=some p.obj
 cell:∃u,p.obj.data=.cell (some u)/\B7 p.val u
section
variable {X:Cx}{ae:Pn9} {σ:St}{H:Hp}{s:Shared}{caps:List M4}
theorem Z1a (I:A1 X ae σ H s):∀{caps:List M4},(caps.map (·.name)).Nodup->(∀p∈caps,Q1r X s p)->(caps.map (·.addr)).Nodup
 | [],_,_=>dR
 | p::r,nd,h=>by
  rw [ar,bj]at nd ⊢
  refine⟨fun hm=>?_,Z1a I nd.2 fun q hq=>h q (ax _ hq)⟩
  obtain⟨q,hq,e⟩:=aj.mp hm
  have e:q.addr=p.addr:=e
  have h1:=(h p aA).look
  have h2:=(h q (ax _ hq)).look
  rw [e]at h2
  exact nd.1 (aj.mpr ⟨q,hq,I.ok.inj _ _ _ h2 h1⟩)
theorem Q5g (I:A1 X ae σ H s) (hc:∀p∈caps,Q1r X s p):A5 H (U5 caps H):=fun b u e=>by
 rw [Q5f]
 ·exact e
 ·intro hb
  obtain⟨p,hp,rfl⟩:=aj.mp hb
  rw [I.freeC _ _ (hc p hp).look]at e;cases e
theorem Z7i (nd:(caps.map (·.addr)).Nodup) (hc:∀p∈caps,Q1r X s p):S9 (caps.map (·.addr)) (U5 caps H):=fun c jK=>by
 obtain⟨p,hp,rfl⟩:=aj.mp jK
 obtain⟨u,hu,_⟩:=(hc p hp).cell
 exact⟨p.obj,some u,Q5e nd hp,hu⟩
theorem Z8s (I:A1 X ae σ H s) (nd:(caps.map (·.addr)).Nodup) (hc:∀p∈caps,Q1r X s p):Q3m X.prog X.w X.K X.mg X.base X.A X.stack s (U5 caps H):=by
 have e0:=I.env0
 have ge:∀p∈caps,X.s₀.heap.objs.size<=p.addr:=fun p hp=>I.ok.cab _ _ (hc p hp).own (hc p hp).look
 have keep:∀b,b∉caps.map (·.addr)->H b=none->U5 caps H b=none:=fun b hb n=>by rw [Q5f hb];exact n
 refine⟨e0.frames,e0.mod,fun b o e=>⟨(e0.bs b o e).1,keep b (fun hb=>?_) (e0.bs b o e).2⟩,e0.bsz,e0.funs,fun b hb=>keep b (fun ft=>?_) (e0.frf b hb),fun b u e=>?_,e0.bare⟩
 ·obtain⟨p,hp,rfl⟩:=aj.mp hb
  exact absurd (az (au e) I.ok.bsz) (Nat.not_lt.mpr (ge p hp))
 ·obtain⟨p,hp,rfl⟩:=aj.mp ft
  rcases ao.mp (I.stkSub _ hb)with z | z
  ·exact I.cne _ _ (hc p hp).look z
  ·obtain⟨_,o,ho,_⟩:=I.ok.funs.mem z
   exact absurd (au ho) (Nat.not_lt.mpr (ge p hp))
 ·by_cases hb:b∈caps.map (·.addr)
  ·obtain⟨p,hp,rfl⟩:=aj.mp hb
   rw [Q5e nd hp]at e;cases e
   exact Q7d (hc p hp).get
  ·rw [Q5f hb]at e
   exact(I.hok b u e).stay (fun c v _ q=>q) (fun c v _ q=>Q5g I hc _ _ q) fun c xs q=>Q5g I hc _ _ q
theorem W5b {CX:CXT}{k:Nat}{f:Addr}{fd:FuncData}{ps:List Str}{sp:Sp}{Q:VK}{E:XK}{us:List Value}{vs:List V} (F:P8 X.prog X.w X.K X.mg X.base K8 k f fd ps sp) (hr:C2 k X.A) (hb:V2 X.K fd ps [])
  (I:A1 X ae σ H s) (nd:(caps.map (·.addr)).Nodup) (hc:∀p∈caps,Q1r X s p) (r:B6 vs us) (h:sp vs (U5 caps H) (fun v H'=>A5 (U5 caps H) H'/\Q v (K2 (caps.map (·.addr)) H')) E):wpAny (model X.prog X.w) X.A (call (.ref f) us) (EP X ae σ Q) X.xe s:=by
 have hl:us.length=ps.length:=by rw [<- r.length];exact F.len _ _ _ _ h
 have ft:BindsTo s fd ⟨us,[]⟩ (ps.zip us):=by have:=hb s us I.kIn (by rw [b7];exact hl);rw [b7]at this;exact this
 refine wpAny_call (codeAny_mono (F.run X.A X.stack s (U5 caps H) ⟨us,[]⟩ us vs _ E hr (Z8s I nd hc) ft r h) fun r s' hq=>?_)
 cases r with
 | error e=>exact(show False from hq).elim
 | ok fl =>
  cases fl with
  | next=>exact False.elim hq
  | brk=>exact False.elim hq
  | cont=>exact False.elim hq
  | ret u =>
   obtain⟨v,H',os,bare,un,hok,rv,sm,q⟩:=hq
   have hS:S9 (caps.map (·.addr)) H':=fun c jK=>by
    obtain⟨o,u,e1,e2⟩:=Z7i (H:=H) nd hc c jK
    exact⟨o,u,un.frzs _ _ _ e1,e2⟩
   have iI:∀b,H b=none->b∉caps.map (·.addr)->U5 caps H b=none:=fun b n hb=>by rw [Q5f hb];exact n
   have kept:∀p∈caps,s'.heap.get? p.addr=some p.obj:=fun p hp=>(hok _ _ (un.frzs _ _ _ (Q5e nd hp))).1
   have Q3f:∀b u,H b=some u->b∉caps.map (·.addr):=fun b u e hb=>by
    obtain⟨p,hp,rfl⟩:=aj.mp hb
    rw [I.freeC _ _ (hc p hp).look]at e;cases e
   have g9:∀b u,H b=some u->K2 (caps.map (·.addr)) H' b=some u:=fun b u e=>by
    rw [Z4 (Q3f b u e)]
    exact sm _ _ (Q5g I hc _ _ e)
   refine I.after ⟨v,K2 (caps.map (·.addr)) H',os,bare,⟨fun b o e n hb hx=>?_,fun b o e n hb hx=>?_,fun b o e n hx=>?_,fun b o e hx=>un.there b o e hx,fun b xs e=>g9 _ _ e,fun b o u e=>g9 _ _ e,fun b ps e=>⟨#[],by rw [g9 _ _ e];simp⟩⟩,F8.hid hok hS fun _ _ q=>q,rv,q⟩
   ·by_cases eB:b∈caps.map (·.addr)
    ·obtain⟨p,hp,rfl⟩:=aj.mp eB
     rw [(hc p hp).get]at e;cases e
     exact kept p hp
    ·exact un.keep b o e (iI b n eB) hb hx
   ·by_cases eB:b∈caps.map (·.addr)
    ·obtain⟨p,hp,rfl⟩:=aj.mp eB
     rw [(hc p hp).get]at e;cases e
     exact⟨_,kept p hp⟩
    ·exact un.slot b o e (iI b n eB) hb hx
   ·by_cases eB:b∈caps.map (·.addr)
    ·exact Q5n eB
    ·rw [Z4 eB]
     exact un.free b o e (iI b n eB) hx
end
end L2
end
section
namespace TK
open PySem PySem.Spec PyProof.Rows L2
noncomputable def L8 (wb:WE) (cr:List Sl):D6:=fun rs r=>∃(ds:List D) (d:D),rs=ds.map R.st/\r=.st d/\wb (ds.map (fun d=>some (Sl.dat d))++cr.map some) fun r'=>r'=.st d
noncomputable def capS:Sl->Prop
 | .dat _=>True
 | .cl _ Φ=>Q1b Φ
 | _=>False
noncomputable def Q1v (τ:A8):List (Str×Nat)->List Sl->Prop
 | [],cr=>cr=[]
 | c::cs,cr=>∃s r,cr=s::r/\τ[c.2]?=some (some s)/\capS s/\Q1v τ cs r
section
variable {X:Cx}{H0:Hp}{ae:Pn9} {σ:St}{H:Hp}{s:Shared} {τ:A8}
theorem Z1b (I:A1 X ae σ H s) (hR:B4 X.K H0 τ σ H):∀{cs:List (Str×Nat)}{cr:List Sl},(∀c∈cs,X.N[c.2]?=some c.1/\X.env.kindOf c.1=some .cell/\X.fn c.1=true)->Q1v τ cs cr ->
  ∃caps:List M4,caps.map (·.name)=cs.map (·.1)/\caps.map (·.slot)=cr/\∀p∈caps,Q1r X s p/\Q2s X.K H p.slot p.val
 | [],cr,_,h=>by
  have h:cr=[]:=h
  subst h
  exact⟨[],rfl,rfl,fun p hp=>absurd hp (by simp)⟩
 | c::cs,cr,hk,h=>by
  obtain⟨sl,r,rfl,e,hc,h⟩:=h
  obtain⟨caps,h1,h2,h3⟩:=Z1b I hR (fun c hc=>hk c (ax _ hc)) h
  obtain⟨k1,k2,k3⟩:=hk c aA
  obtain⟨v,hv,rv⟩:=hR.here c.2 sl e
  obtain⟨m,hn,hl⟩:=I.loc
  obtain⟨u,ru,lk⟩:=hl c.2 c.1 v k1 hv (.inr (.inl k2))
  rcases lk with⟨z,_⟩ | ⟨_,ca,eh,o,ho,hd⟩
  ·rw [k2]at z;cases z
  refine⟨⟨c.1,ca,o,v,sl⟩::caps,by rw [ar,ar,h1],by rw [ar,h2],fun p hp=>?_⟩
  rcases ao.mp hp with rfl | hp
  ·refine⟨⟨eh,k3,ho,⟨u,hd,ru⟩⟩,?_⟩
   cases sl with
   | dat d=>exact rv
   | cl a Φ=>exact⟨rv.1,rv.2.1,rv.2.2,hc⟩
   | own _=>exact hc.elim
   | bor _=>exact hc.elim
   | bd _=>exact hc.elim
   | dk _=>exact hc.elim
   | dt _=>exact hc.elim
   | ob _=>exact hc.elim
   | ins _ _ _=>exact hc.elim
   | ll _ _=>exact hc.elim
  ·exact h3 p hp
theorem Z0y {cs:List (Str×Addr)}:∀{caps:List M4}{cs:List (Str×Addr)},caps.map (·.name)=cs.map (·.1)->(∀p∈caps,X.env.cells.lookup p.name=some p.addr)->(∀y∈cs,X.env.cells.lookup y.1=some y.2)->Q5 caps=cs
 | [],[],_,_,_=>rfl
 | [],_::_,h,_,_=>by cases h
 | _::_,[],h,_,_=>by cases h
 | p::r,y::cs,h,h1,h2=>by
  rw [ar,ar,dy]at h
  have e1:=h1 p aA
  have e2:=h2 y aA
  rw [h.1,e2]at e1
  show(p.name,p.addr)::Q5 r=y::cs
  rw [Z0y (cs:=cs) h.2 (fun q hq=>h1 q (ax _ hq)) fun z hz=>h2 z (ax _ hz),h.1,<- ay e1]
end
def Z4w (FC:C4) (n:Nat) (cs:List (Str×Nat)) (wb:WE) (sp:D6) (we:WE):WE:=fun τ Q=>we τ fun r1=>N7 r1=true/\∃cr,Q1v τ cs cr/\∀f Φ,FC n f Φ (L8 wb cr)->∃d,sp [nrm r1,.cl f Φ] (.st d)/\Q (.st d)
section
variable {X:Cx}{H0:Hp}{e:Expr}{we wb:WE}{k kl:Nat}{f:Addr}{fd:FuncData}{mK ps:List Str}{sp:D6}{x:Str}{p pos cQ:Pos}{params:Arguments}{body:Expr}{sc:Scope}{c Pt:Addr}{cs:List (Str×Nat)}{clos:List (Str×Addr)}
theorem DE.callW (F:P8 X.prog X.w X.K X.mg X.base K8 k f fd mK (Q4f X.K 2 sp)) (hr:C2 k X.A) (hg:Gl X x) (hm:X.mg x=some (.ref f)) (hk:PySem.W.keepIn X.K (.ref f)=true) (hb:V2 X.K fd mK []) (ha:DE X H0 e we)
  (hT:H0 Pt=some .tab) (hB:Y5 X.mg X.base) (db:X.env.code=.ref c) (hC:PySem.W.codeHdIn X.K c Pt=true) (gu:closureFor sc X.env=pure clos) (fC:cs.map (·.1)=clos.map (·.1)) (fq:∀y∈clos,X.env.cells.lookup y.1=some y.2)
  (jh:∀c∈cs,X.N[c.2]?=some c.1/\X.env.kindOf c.1=some .cell/\X.fn c.1=true) (S:Q3o ps (cs.map (·.1)) sc)
  (cR:∀(qual:Str) (cl:List (Str×Addr)) (pm cd ct:Value) (us:List Value),us.length=ps.length->bindArgs (PySem.W.kla_fn "<lambda>" qual params body sc cl pm cd ct) ⟨us,[]⟩=pure (ps.zip us))
  (bS:∀(caps:List M4) (f c':Addr) (A:Around) (outer:List Env) (s:Shared) (H:Hp) (q:Str),caps.map (·.name)=cs.map (·.1)->C2 kl (A.deeper (PySem.W.envX q sc s.heap.objs.size f (.ref c') (Q5 caps)))->DE (cxL X.prog X.w X.K X.mg X.base (ps++cs.map (·.1)) q sc f c' caps A outer s H) H body wb)
  (dm:(x==("__debug__":Str))=false:=by decide) (he:starEach [e,.Lambda params body sc cQ] X.env=(false,eval e X.env)::starEach [.Lambda params body sc cQ] X.env:=by rfl) (qA:starEach [.Lambda params body sc cQ] X.env=(false,eval (.Lambda params body sc cQ) X.env)::starEach [] X.env:=by rfl)
  (hpl:(backTo pos (starEach [.Lambda params body sc cQ] X.env)).any (·.1)=false:=by rfl) (hd:defaultsOf params X.env=([],[]):=by rfl) :
  DE X H0 (.Call (.Name x p) [e,.Lambda params body sc cQ] [] pos) (Z4w (F4 X.prog X.w X.K X.mg X.base (kl+1)) ps.length cs wb sp we) where
 mono:=fun τ P Q g h=>ha.mono τ _ _ (fun r1 ⟨ok,cr,h1,h2⟩=>⟨ok,cr,h1,fun f Φ F=>let ⟨d,a,b⟩:=h2 f Φ F;⟨d,a,g _ b⟩⟩) h
 pe:=by
  intro ae s σ H Q I ⟨τ,hR,h⟩
  refine bq (Q7y I hg hm ?_ dm)
  have qQ:PA X [e,.Lambda params body sc cQ] (Z4k _ (Z4k _ Z4l)):=Q1n (es:=[.Lambda params body sc cQ]) ha.pe (Q1n (es:=[]) (Z3f (pos:=cQ) hB db hC gu hd) Q3g qA) he
  refine PySem.W.callWith_K (h₀:=X.base) I.ok.mod.kin hk (B2 (qQ pos ae s σ H (fun vs H1=>A5 H H1/\∃v1 fa c' oc ctv r1,vs=[v1,.ref fa]/\E4 X.K H H1 r1 v1/\N7 r1=true/\Q5a oc/\H1 c'=some (.frz oc (.own Pt))/\H1 fa=some (.frz (W8 X params body sc clos c' ctv) V6) /\
   ∃cr,Q1v τ cs cr/\∀f Φ,F4 X.prog X.w X.K X.mg X.base (kl+1) ps.length f Φ (L8 wb cr)->∃d,sp [nrm r1,.cl f Φ] (.st d)/\∀v H',A5 H H'->E4 X.K H H' (.st d) v->Q v H') I ?_) fun us s1 ⟨vs,H1,I1,r,kN,q⟩=>⟨I1.kIn,?_⟩) he hpl
  ·refine⟨τ,hR,ha.mono τ _ _ (fun r1 ⟨ok,cr,h1,h2⟩ v1 H1 s1 ir=>?_) h⟩
   refine⟨s1 _ _ (hR.same _ _ hT),fun fa c' oc ctv H' sm dL hf cU gQ _=>?_⟩
   exact⟨s1.trans sm,v1,fa,c',oc,ctv,r1,rfl,ir.mono sm,ok,dL,cU,gQ,cr,h1,h2⟩
  ·obtain⟨v1,fa,c',oc,ctv,r1,rfl,ir,ok,dL,cU,gQ,cr,h1,h2⟩:=q
   obtain⟨caps,n1,n2,jJ⟩:=Z1b I1 (hR.mono kN) jh h1
   have eh:∀p∈caps,Q1r X s1 p:=fun p hp=>(jJ p hp).1
   have j8:(caps.map (·.name)).Nodup:=by rw [n1];exact(ba.mp S.nd).2.1
   have nd:=Z1a I1 j8 eh
   have hL:Q5 caps=clos:=Z0y (cs:=clos) (n1.trans fC) (fun p hp=>(eh p hp).look) fq
   have gb:=Q5g I1 eh
   subst hL
   have LP:X3 X.K caps fa c' (W8 X params body sc (Q5 caps) c' ctv) (U5 caps H1):=⟨gb _ _ gQ,⟨oc,Pt,gb _ _ cU,dL⟩,fun p hp=>⟨Q5e nd hp,(eh p hp).cell,(jJ p hp).2.mono (Kp.of gb)⟩⟩
   have F0:=Z1k (P:=X.prog) (w:=X.w) (K:=X.K) (mg:=X.mg) (base:=X.base) (k:=kl) (f:=fa) (c':=c') (name:="<lambda>") (qual:=X.env.qual++"<lambda>") (params:=params) (body:=body) (sc:=sc) (pm:=(X.mg "__name__").getD .none) (ctv:=ctv) (ps:=ps) (caps:=caps) (sp:=L8 wb cr) (wb:=wb) (by rw [n1];exact S) nd
    (fun A outer s H q hr=>by rw [n1];exact bS caps fa c' A outer s H q n1 hr) (fun rs r _ hs=>by
     obtain⟨ds,d,e1,e2,e3⟩:=hs
     refine⟨ds,d,e1,e2,?_⟩
     have:cr.map some=caps.map fun p=>some p.slot:=by rw [<- n2,aQ];rfl
     rw [<- this];exact e3)
   obtain⟨d,g1,g2⟩:=h2 fa _ ⟨_,ps,F0,rfl,V2.all (cR _ _ _ _ _),fun hh Hh hok _ hΦ=>⟨_,(hok _ _ hΦ.1).1,rfl⟩⟩
   refine W5b (CX:=K8) (E:=E0) F hr hb I1 nd eh r ⟨[r1,.cl fa _],.st d,rfl,⟨v1,_,rfl,(ir.mono gb).v,_,_,rfl,⟨rfl,LP,X3.mono⟩,rfl⟩,by rw [List.all_cons,ok];rfl,g1,fun v H' cN iv=>⟨cN,?_⟩⟩
   have hS:S9 (caps.map (·.addr)) H':=fun c jK=>by
    obtain⟨o,u,e1,e2⟩:=Z7i (H:=H1) nd eh c jK
    exact⟨o,u,cN _ _ e1,e2⟩
   have Q3f:∀b u,H1 b=some u->b∉caps.map (·.addr):=fun b u e hb=>by
    obtain⟨p,hp,rfl⟩:=aj.mp hb
    rw [I1.freeC _ _ (eh p hp).look]at e;cases e
   exact g2 v _ (fun b u e=>by rw [Z4 (Q3f b u (kN _ _ e))];exact cN _ _ (gb _ _ (kN _ _ e))) (show A3 X.K _ d v from A3.hid hS d v iv)
@[simp] theorem W5f {FC:C4}{n:Nat} {τ:A8}{Q:R->Prop}:Z4w FC n cs wb sp we τ Q=we τ fun r1=>N7 r1=true/\∃cr,Q1v τ cs cr/\∀f Φ,FC n f Φ (L8 wb cr)->∃d,sp [nrm r1,.cl f Φ] (.st d)/\Q (.st d):=rfl
end
end TK
end
section
namespace L2
open PySem PySem.Spec PyProof.Rows TK
theorem Y9l {P:Program}{w:World}{K:Fg9}{mg mb:Str->Option Value}{k:Nat}{fa a:Addr}{fd:FuncData}{x:Str}{sp:Sp}{s₁:Shared}{vs:List Value}{ns:List Int}{ts:List Addr}
  (KX:K.In s₁.heap) (ic:s₁.heap.Ns mainGlobals mg) (hb:s₁.heap.Ns builtinsNs mb) (qG:∀x:Str,x≠"__name__"->mb x=bootBuiltins x) (lJ:s₁.heap.NoLimit) (qD:Y5 mg s₁.heap) (hg:s₁.gens=#[])
  (ib:∀Pt∈ts,s₁.heap.get? Pt=some (PySem.W.tabObj #[])) (dD:∀Pt∈ts,∃c,PySem.W.codeHdIn K c Pt=true) (qT:∀Pt∈ts,K.lookup Pt=none)
  (ha:s₁.heap.get? a=some { cls:=.type "list",data:=.seq vs.toArray }) (hi:IntsAre vs ns) (hl:ns.length<=sizeLine) (hr:C2 k callerA)
  (F:∀base:Heap,K.In base->base.Ns mainGlobals mg->Y5 mg base->P8 P w K mg base K8 k fa fd [x] sp) (cR:∀(s:Shared) (u:Value),BindsTo s fd ⟨[u],[]⟩ [(x,u)])
  (fA:∀H:Hp,(∀Pt∈ts,H Pt=some .tab)->FzL K H a (ns.map V.int)->sp [.ref a] H (fun v H'=>v=.bl true/\∀Pt∈ts,H' Pt=some .tab) fun _ _ _=>False) :
  codeAny (model P w) callerA (.call (.ref fa) ⟨[.ref a],[]⟩) (fun r s'=>r=.ok (.ret (.bool true))/\OldK s₁.heap s'.heap/\s'.os=s₁.os/\AllBare s'.gens) s₁:=by
 have rv:=Y4u hi
 have l9:=hi.length
 have core:∀H:Hp,(∀b u,H b=some u->(b∈ts/\u=.tab)\/(b=a/\K.lookup a=none/\u=.frz { cls:=.type "list",data:=.seq vs.toArray } (.lst (ns.map V.int))))->(∀Pt∈ts,H Pt=some .tab)->FzL K H a (ns.map V.int) ->
   codeAny (model P w) callerA (.call (.ref fa) ⟨[.ref a],[]⟩) (fun r s'=>r=.ok (.ret (.bool true))/\OldK s₁.heap s'.heap/\s'.os=s₁.os/\AllBare s'.gens) s₁:=by
  intro H hO hT hS
  have hok:F8 P w H s₁.heap:=fun b u e=>by
   rcases hO b u e with⟨hb,rfl⟩ | ⟨rfl,_,rfl⟩
   ·exact⟨#[],ib b hb,trivial,fun pos cv q=>by cases q⟩
   ·exact⟨ha,by rw [ag];exact hl,vs,_,rv,ha⟩
  have dM:∀{b:Addr}{o:Obj},s₁.heap.get? b=some o->H b=none->(Q0p s₁.heap H).get? b=some o:=fun e n=>Y8c e n
  have gh:∀{b:Addr}{o:Obj},s₁.heap.get? b=some o->(∀xs,o.data≠.fields xs)->(∀xs n,o.data≠.seq xs n)->H b=none:=fun {b o} e d1 d2=>by
   cases q:H b with
   | none=>rfl
   | some u =>
    rcases hO b u q with⟨hb,rfl⟩ | ⟨rfl,_,rfl⟩
    ·rw [ib b hb]at e;cases e;exact absurd rfl (d1 _)
    ·rw [ha]at e;cases e;exact absurd rfl (d2 _ _)
  have km:∀{b:Addr}{m:Str->Option Value},s₁.heap.Ns b m->(Q0p s₁.heap H).Ns b m:=fun {b m} ⟨o,es,ep,e,d,r⟩=>⟨o,es,ep,dM e (gh e (fun xs z=>by rw [d]at z;cases z) (fun xs n z=>by rw [d]at z;cases z)),d,r⟩
  have nI:K.In (Q0p s₁.heap H):=fun b o e=>dM (KX b o e) (by
   cases q:H b with
   | none=>rfl
   | some u =>
    rcases hO b u q with⟨hb,rfl⟩ | ⟨rfl,hk,rfl⟩
    ·rw [qT b hb]at e;cases e
    ·rw [hk]at e;cases e)
  have hM:Mod K mg (Q0p s₁.heap H):=⟨nI,km ic,⟨mb,km hb,qG⟩,let ⟨mc,h1,h2⟩:=lJ;⟨mc,km h1,h2⟩⟩
  have hBM:Y5 mg (Q0p s₁.heap H):=by
   obtain⟨bm,ob,b1,b2,b3,b4,b5,b6⟩:=qD
   exact⟨bm,ob,b1,b2,dM b3 (gh b3 (fun xs z=>by rw [b6]at z;cases z) (fun xs n z=>by rw [b6]at z;cases z)),b4,b5,b6⟩
  have e0:Q3m P w K mg (Q0p s₁.heap H) callerA [] s₁ H:=⟨rfl,hM,fun b o e=>W1l e,gA (Y8d _ _),trivial,fun b hb=>absurd (show b∈([]:List Addr)from hb) (by simp),hok,.of_eq hg⟩
  refine codeAny_mono ((F _ nI (km ic) hBM).run callerA [] s₁ H ⟨[.ref a],[]⟩ [.ref a] [.ref a] _ _ hr e0 (cR s₁ (.ref a)) (.cons rfl .nil) (fA H hT hS)) fun r s' h=>?_
  cases r with
  | error e=>exact(show False from h).elim
  | ok fl =>
   cases fl with
   | next=>exact False.elim h
   | brk=>exact False.elim h
   | cont=>exact False.elim h
   | ret u =>
    obtain⟨v,H',os,bare,un,jz,r',q,qM⟩:=h
    have q':v=.bl true:=q
    subst q'
    obtain rfl:u=Value.bool true:=r'
    refine⟨rfl,⟨fun b o e=>?_,fun b o e=>un.there b o e (by simp)⟩,os,bare⟩
    cases q:H b with
    | none=>exact .inl (un.keep b o e q (by intro z;exact absurd (show b∈([]:List Addr)from z) (by simp)) (by simp))
    | some u =>
     rcases hO b u q with⟨hb,rfl⟩ | ⟨rfl,hk,rfl⟩
     ·obtain⟨ps,g1,_⟩:=(show K1 P w H' s'.heap b .tab from jz b _ (qM b hb))
      obtain⟨c,hc⟩:=dD b hb
      have e1:=ib b hb
      rw [e]at e1;cases e1
      refine .inr (.inl ⟨((PySem.W.codeHd_of_K KX hc).tab (ib b hb)).isCodeTable,rfl,#[],ps,rfl,?_⟩)
      rw [g1];simp
     ·have z2:=un.frzs b _ _ q
      obtain⟨e2,_⟩:=jz b _ z2
      rw [ha]at e;cases e
      exact .inl e2
 have p0:a∉ts:=fun hb=>by
  have:=ib a hb
  rw [ha]at this;cases this
 cases hk:K.lookup a with
 | some o =>
  have e:=KX a o hk
  rw [ha]at e
  cases e
  refine core (fun b=>if b∈ts then some .tab else none) (fun b u e=>?_) (fun Pt h=>aM h) (.inr ⟨_,vs.toArray,_,hk,rfl,rfl,rfl,by rw [aB,l9];exact hl,by simpa using rv⟩)
  by_cases hb:b∈ts
  ·have e:=(aM hb).symm.trans e;cases e;exact .inl ⟨hb,rfl⟩
  ·have e:=(aI hb).symm.trans e;cases e
 | none =>
  refine core (fun b=>if b∈ts then some .tab else if b=a then some (.frz { cls:=.type "list",data:=.seq vs.toArray } (.lst (ns.map V.int)))else none) (fun b u e=>?_) (fun Pt h=>aM h) (.inl ⟨_,(aI p0).trans (aM rfl)⟩)
  by_cases hb:b∈ts
  ·have e:=(aM hb).symm.trans e;cases e;exact .inl ⟨hb,rfl⟩
  ·have e:=(aI hb).symm.trans e
   by_cases ha:b=a
   ·have e:=(aM ha).symm.trans e;cases e;exact .inr ⟨ha,hk,rfl⟩
   ·have e:=(aI ha).symm.trans e;cases e
theorem W7z {l:PySem.W.OpenLaw}{n k:Nat}{q:Program}{dG:List Str}{XP:(Str->Option Value)->Heap->Prop}{YP:World->Heap->Prop}{d:DefRec}{K:Params->Fg9}{sp:World->Sp}{x:Str}{ts:List Addr}
  (hn:l.most=some n) (q9:n<=sizeLine) (gR:d.params.defaults=[]) (hr:C2 k callerA)
  (hY:∀(w:World) (h:Heap),YP w h->(K w.params).In h) (lZ:∀(w:World) (h:Heap),YP w h->∀Pt∈ts,h.get? Pt=some (PySem.W.tabObj #[]))
  (F:∀(w:World) (mg:Str->Option Value) (fa:Addr) (h:Heap),(K w.params).In h->h.Ns mainGlobals mg->mg d.name=some (.ref fa) ->
   (∀Pt∈ts,(∃c,PySem.W.codeHdIn (K w.params) c Pt=true)/\(K w.params).lookup Pt=none) /\
   ∃fd:FuncData,(∀(s:Shared) (u:Value),BindsTo s fd ⟨[u],[]⟩ [(x,u)]) /\
    ∀base:Heap,(K w.params).In base->base.Ns mainGlobals mg->Y5 mg base->P8 l.prog w (K w.params) mg base K8 k fa fd [x] (sp w))
  (fA:∀(w:World) (H:Hp) (a:Addr) (ns:List Int),ns.length<=n->(∀Pt∈ts,H Pt=some .tab)->FzL (K w.params) H a (ns.map V.int)->sp w [.ref a] H (fun v H'=>v=.bl true/\∀Pt∈ts,H' Pt=some .tab) fun _ _ _=>False) :
  PySem.W.WalkO q dG XP YP l.row.toRowW d [] (fun f vs=>PySem.call f vs):=by
 refine Att.attach_call hn gR fun w s₀ s₁ mg mb fa o pm cd cG a vs ns G Y ho hd dD jB iT fX bI hg=>?_
 have KX:=hY w _ Y
 obtain⟨ib,fd,hb,hF⟩:=F w mg fa _ KX G.T.g jB
 exact Y9l KX G.T.g G.T.b G.T.builtins G.T.nolimit G.T.bmain hg (lZ w _ Y) (fun Pt h=>(ib Pt h).1) (fun Pt h=>(ib Pt h).2) iT fX (aX bI q9) hr hF hb fun H hT hS=>fA w H a ns bI hT hS
end L2
namespace TK
open PySem PySem.Spec PyProof.Rows L2
def Q5d (ts:List Addr) (H:Hp):Prop:=∀Pt∈ts,H Pt=some .tab
noncomputable abbrev E2:=List R->(R->Prop)->Prop
noncomputable def Q4e (K:Fg9) (ts:List Addr) (n:Nat) (sp:E2):Sp:=fun vs H Q _=>∃(rs:List R) (P:R->Prop),rs.length=n/\N1 K (fun _=>none) H rs vs/\rs.all N7=true/\Q5d ts H/\sp (rs.map nrm) P/\∀r v H',P r->A5 H H'->E4 K H H' r v->Q v H'
abbrev P9 (P:Program) (w:World) (K:Fg9) (mg:Str->Option Value) (base:Heap) (ts:List Addr) (k:Nat) (f:Addr) (fd:FuncData) (ps:List Str) (sp:E2):Prop:=P8 P w K mg base K8 k f fd ps (Q4e K ts ps.length sp)
end TK
end
section
namespace TK
open PySem PySem.Spec PyProof.Rows L2
structure R1 (K:Fg9) (x qual:Str) (st:Stmt) (f:Addr) (fd:FuncData) (c Pt:Addr):Prop where
 ex:∃(oc:Value) (od:Option Addr) (kV cG pm:Value) (an:Option Addr) (ct:Value) (dF:Array (Option Value)),
  fd=PySem.W.fnOf x qual (Q0b st) (R9 st) (B8 st) .none kV cG pm an (.ref c) ct/\K.lookup f=some ⟨oc,od,.func fd,dF⟩/\PySem.W.codeIn K (.ref c) qual=true
 hd:PySem.W.codeHdIn K c Pt=true
noncomputable abbrev P3 (P:R->Prop):G8:={ nx:=fun _=>P (.st .non),rt:=P,bk:=fun _=>False,ct:=fun _=>False }
section
variable {P:Program}{w:World}{K:Fg9}{mg:Str->Option Value}{base:Heap}{ts:List Addr}{x qual:Str}{st:Stmt}{f:Addr}{fd:FuncData}{N ps:List Str}{k:Nat}{sp:E2}
theorem Y1h {cdv:Value}{A:Around}{outer:List Env}{s:Shared}{H:Hp}{E:XK}{ws:WS}{rs:List R}{vs:List V}{Q:VK}{Pr:R->Prop}{X:Cx} (hX:X.K=K) (hd:A4 X H (R9 st) ws) (hl:rs.length=ps.length) (al:N1 K (fun _=>none) H rs vs) (ok:rs.all N7=true)
  (h1:sp (rs.map nrm) Pr) (h2:∀r v H',Pr r->A5 H H'->E4 K H H' r v->Q v H') (hw:∀rs Pr,rs.length=ps.length->sp rs Pr->ws (P3 Pr) (E7 N rs)) :
  ∃t,PSs X (R9 st) t/\t { nx:=fun _ H'=>Q .non H',rt:=Q } (start N vs) H:=by
 subst hX
 refine⟨_,hd.ps,E7 N rs,Z3n al ok,?_⟩
 have hw:=hw (rs.map nrm) Pr (by rw [ag];exact hl) h1
 rw [Z4h]at hw
 refine hd.mono _ _ _ ⟨fun τ h σ H' _ hR=>?_,fun r' h v H' sm ir=>?_,fun _ h=>False.elim h,fun _ h=>False.elim h⟩ hw
 ·exact h2 (.st .non) .non H' h hR.same (A3.s_non (K:=X.K) (H:=H'))
 ·exact h2 r' v H' h sm ir
theorem O8.okP {ws:WS} (F:O8 K x qual st f fd) (S:G4 N ps (B8 st))
  (bS:∀(cdv:Value) (A:Around) (outer:List Env) (s:Shared) (H:Hp) (E:XK),Q5d ts H->C2 k (A.deeper (envOfC qual (B8 st) s.heap.objs.size f cdv))->A4 (W7 K8 P w K mg base N qual (B8 st) f cdv A outer s H E).nox H (R9 st) ws)
  (hw:∀rs Pr,rs.length=ps.length->sp rs Pr->ws (P3 Pr) (E7 N rs)):P9 P w K mg base ts (k+1) f fd ps sp:=by
 refine F.ok S (fun vs H Q E h=>?_) (fun cdv A outer s H vs Q E hr h=>?_)
 ·obtain⟨rs,r,hl,al,_⟩:=h
  rw [<- al.length];exact hl
 obtain⟨rs,Pr,hl,al,ok,hT,h1,h2⟩:=h
 exact Y1h (st:=st) (cdv:=cdv) (A:=A) (outer:=outer) (s:=s) (E:=E) rfl (bS cdv A outer s H E hT hr) hl al ok h1 h2 hw
theorem R1.okP {c Pt:Addr}{ws:WS} (F:R1 K x qual st f fd c Pt) (S:G4 N ps (B8 st))
  (bS:∀(A:Around) (outer:List Env) (s:Shared) (H:Hp) (E:XK),Q5d ts H->C2 k (A.deeper (envOfC qual (B8 st) s.heap.objs.size f (.ref c)))->A4 (W7 K8 P w K mg base N qual (B8 st) f (.ref c) A outer s H E).nox H (R9 st) ws)
  (hw:∀rs Pr,rs.length=ps.length->sp rs Pr->ws (P3 Pr) (E7 N rs)):P9 P w K mg base ts (k+1) f fd ps sp:=by
 obtain⟨oc,od,kV,cG,pm,an,ct,dF,rfl,lk,dD⟩:=F.ex
 refine Z8v lk dD S (fun vs H Q E h=>?_) fun A outer s H vs Q E hr h=>?_
 ·obtain⟨rs,r,hl,al,_⟩:=h
  rw [<- al.length];exact hl
 obtain⟨rs,Pr,hl,al,ok,hT,h1,h2⟩:=h
 obtain⟨t,ht,q⟩:=Y1h (st:=st) (cdv:=.ref c) (A:=A) (outer:=outer) (s:=s) (E:=E) rfl (bS A outer s H E hT hr) hl al ok h1 h2 hw
 exact⟨t,ht.nox,q⟩
end
section
variable {X:Cx}{H0:Hp}{e:Expr}{es:List Expr}{wr:WA}{k:Nat}{f:Addr}{fd:FuncData}{ps:List Str}{sp:E2}{x:Str}{p pos:Pos}{ts:List Addr}
def T6 (sp:E2):Prop:=∀rs P Q,(∀r,P r->Q r)->sp rs P->sp rs Q
def A9 (sp:E2) (wr:WA):WE:=fun τ Q=>wr τ fun rs=>rs.all N7=true/\sp (rs.map nrm) Q
theorem DE.callP (lH:T6 sp) (F:P8 X.prog X.w X.K X.mg X.base K8 k f fd ps (Q4e X.K ts (e::es).length sp)) (hr:C2 k X.A) (hT:Q5d ts H0) (hg:Gl X x) (hm:X.mg x=some (.ref f)) (hk:PySem.W.keepIn X.K (.ref f)=true) (hb:V2 X.K fd ps [])
  (ha:DA X H0 (e::es) wr) (dm:(x==("__debug__":Str))=false:=by decide) (he:starEach (e::es) X.env=(false,eval e X.env)::starEach es X.env:=by rfl) (hpl:(backTo pos (starEach es X.env)).any (·.1)=false:=by rfl) :
  DE X H0 (.Call (.Name x p) (e::es) [] pos) (A9 sp wr) where
 mono:=fun τ P Q g h=>ha.mono τ _ _ (fun rs ⟨ok,h1⟩=>⟨ok,lH _ _ _ g h1⟩) h
 pe:=O1 (Y1m F hr hg hm hk hb .nil Q8p ha.pa dm he hpl) fun σ H Q ⟨τ,hR,h⟩=>⟨τ,hR,ha.mono τ _ _ (fun rs ⟨jF,ok,h1⟩ vs H1 s1 cx=>by
  refine⟨rs,_,jF,?_,ok,fun Pt hp=>s1 _ _ (hR.same _ _ (hT Pt hp)),h1,fun r v H' q s2 ir=>q v H' (s1.trans s2) (ir.older s1)⟩
  rw [b7]
  exact cx.v) (ha.len τ _ h)⟩
@[simp] theorem S6 {τ:A8}{Q:R->Prop}:A9 sp wr τ Q=wr τ fun rs=>rs.all N7=true/\sp (rs.map nrm) Q:=rfl
end
section
variable {P:Program}{w:World}{K:Fg9}{mg:Str->Option Value}{base:Heap}{ts:List Addr}{x qual:Str}{st:Stmt}{f:Addr}{fd:FuncData}{N ps:List Str}{k kl:Nat}{sp:E2}{c Pt:Addr}
 {iA cX:Stmt}{params:Arguments}{body:Expr}{sc:Scope}{cQ iH:Pos}{cs:List (Str×Nat)}{lps:List Str}{w1 w2:WS}{wb:WE}
def Q4y (FC:C4) (n:Nat) (cs:List (Str×Nat)) (wb:WE) (w1 w2:WS) (Pr:R->Prop) (τ:A8):Prop :=
 w1 { nx:=w2 { nx:=fun τ'=>∃cr,Q1v τ' cs cr/\∀g Φ,FC n g Φ (L8 wb cr)->Pr (.cl g Φ),rt:=fun _=>False,bk:=fun _=>False,ct:=fun _=>False },rt:=fun _=>False,bk:=fun _=>False,ct:=fun _=>False } τ
theorem W4x {X:Cx} {σ0:St} {τ0:A8}{s1:Shared}{iA cX:Stmt}{params:Arguments}{body:Expr}{sc:Scope}{cQ iH:Pos}{cs:List (Str×Nat)}{lps:List Str}{w1 w2:WS}{wb:WE}{kl:Nat}{c Pt:Addr}{clos:List (Str×Addr)}{Pr:R->Prop}{Q:VK}
  (I0:A1 X.nox [] σ0 X.H₀ s1) (qO:B4 X.K X.H₀ τ0 σ0 X.H₀) (hex:X.ex=[]) (d1:DS X.nox X.H₀ iA w1) (d2:DS X.nox X.H₀ cX w2)
  (hT:X.H₀ Pt=some .tab) (hB:Y5 X.mg X.base) (db:X.env.code=.ref c) (hC:PySem.W.codeHdIn X.K c Pt=true) (gu:closureFor sc X.env=pure clos) (fC:cs.map (·.1)=clos.map (·.1)) (fq:∀y∈clos,X.env.cells.lookup y.1=some y.2)
  (jh:∀y∈cs,X.N[y.2]?=some y.1/\X.env.kindOf y.1=some .cell/\X.fn y.1=true) (S:Q3o lps (cs.map (·.1)) sc)
  (cR:∀(qual:Str) (cl:List (Str×Addr)) (pm cd ct:Value) (us:List Value),us.length=lps.length->bindArgs (PySem.W.kla_fn "<lambda>" qual params body sc cl pm cd ct) ⟨us,[]⟩=pure (lps.zip us))
  (bS:∀(caps:List M4) (g c':Addr) (A:Around) (outer:List Env) (s:Shared) (H:Hp) (q:Str),caps.map (·.name)=cs.map (·.1)->C2 kl (A.deeper (PySem.W.envX q sc s.heap.objs.size g (.ref c') (Q5 caps)))->DE (cxL X.prog X.w X.K X.mg X.base (lps++cs.map (·.1)) q sc g c' caps A outer s H) H body wb)
  (gR:defaultsOf params X.env=([],[])) (hw:Q4y (F4 X.prog X.w X.K X.mg X.base (kl+1)) lps.length cs wb w1 w2 Pr τ0) (hQ:∀r v H',Pr r->A5 X.H₀ H'->E4 X.K X.H₀ H' r v->Q v H') :
  wpAny (model X.prog X.w) X.A (execs [iA,cX,.Return (some (.Lambda params body sc cQ)) iH] X.env) (fun fl s'=>∃u,fl=.ret u/\CE X.outer X.prog X.w X.H₀ X.s₀ Q u s') (fun _ _=>False) s1:=by
 refine wpAny_execs_cons (B2 (d1.ps [] s1 σ0 X.H₀ { nx:=fun σ' H'=>∃ τ',B4 X.K X.H₀ τ' σ' H'/\w2 { nx:=fun τ'=>∃cr,Q1v τ' cs cr/\∀g Φ,F4 X.prog X.w X.K X.mg X.base (kl+1) lps.length g Φ (L8 wb cr)->Pr (.cl g Φ),rt:=fun _=>False,bk:=fun _=>False,ct:=fun _=>False } τ',rt:=fun _ _=>False,bk:=fun _ _=>False,ct:=fun _ _=>False } I0
  ⟨τ0,qO,d1.mono _ _ _ (by exact⟨fun τ h σ H' _ hR=>⟨τ,hR,h⟩,fun _ h=>False.elim h,fun _ h=>False.elim h,fun _ h=>False.elim h⟩) hw⟩) fun fl s2 q=>?_)
 cases fl with
 | ret v=>obtain⟨_,_,_,_,_,q⟩:=q;exact False.elim q
 | brk=>obtain⟨_,_,_,q⟩:=q;exact False.elim q
 | cont=>obtain⟨_,_,_,q⟩:=q;exact False.elim q
 | next =>
 obtain⟨σ2,H2,I2,τ2,cC,iO⟩:=q
 refine wpAny_execs_cons (B2 (d2.ps [] s2 σ2 H2 { nx:=fun σ' H'=>∃ τ',B4 X.K X.H₀ τ' σ' H'/\∃cr,Q1v τ' cs cr/\∀g Φ,F4 X.prog X.w X.K X.mg X.base (kl+1) lps.length g Φ (L8 wb cr)->Pr (.cl g Φ),rt:=fun _ _=>False,bk:=fun _ _=>False,ct:=fun _ _=>False } I2
  ⟨τ2,cC,d2.mono _ _ _ (by exact⟨fun τ h σ H' _ hR=>⟨τ,hR,h⟩,fun _ h=>False.elim h,fun _ h=>False.elim h,fun _ h=>False.elim h⟩) iO⟩) fun fl s3 q=>?_)
 cases fl with
 | ret v=>obtain⟨_,_,_,_,_,q⟩:=q;exact False.elim q
 | brk=>obtain⟨_,_,_,q⟩:=q;exact False.elim q
 | cont=>obtain⟨_,_,_,q⟩:=q;exact False.elim q
 | next =>
 obtain⟨σ3,H3,I3,τ3,fw,cr,h1,h2⟩:=q
 refine wpAny_execs_cons (wpAny_Return_some (B2 (Z3f (X:=X.nox) (pos:=cQ) (P:=Pt) (c:=c) hB db hC gu gR [] s3 σ3 H3 (fun v H4=>A5 H3 H4/\∃g c' oc ctv,v=.ref g/\Q5a oc/\H4 c'=some (.frz oc (.own Pt))/\H4 g=some (.frz (W8 X.nox params body sc clos c' ctv) V6)) I3 ⟨fw.same _ _ hT,fun g c' oc ctv H' sm dL _ cU gQ _=>⟨sm,g,c',oc,ctv,rfl,dL,cU,gQ⟩⟩) fun u s4 bp=>?_))
 obtain⟨v,H4,I4,rv,sm,g,c',oc,ctv,ev,dL,cU,gQ⟩:=bp
 subst ev
 obtain rfl:u=Value.ref g:=rv
 have gw:=fw.mono sm
 obtain⟨caps,n1,n2,jJ⟩:=Z1b (X:=X.nox) I4 gw jh h1
 have eh:∀p∈caps,Q1r X.nox s4 p:=fun p hp=>(jJ p hp).1
 have j8:(caps.map (·.name)).Nodup:=by rw [n1];exact(ba.mp S.nd).2.1
 have nd:=Z1a I4 j8 eh
 have hL:Q5 caps=clos:=Z0y (X:=X) (cs:=clos) (n1.trans fC) (fun p hp=>(eh p hp).look) fq
 have gb:=Q5g I4 eh
 subst hL
 have LP:X3 X.K caps g c' (W8 X.nox params body sc (Q5 caps) c' ctv) (U5 caps H4):=⟨gb _ _ gQ,⟨oc,Pt,gb _ _ cU,dL⟩,fun p hp=>⟨Q5e nd hp,(eh p hp).cell,(jJ p hp).2.mono (Kp.of gb)⟩⟩
 have F0:=Z1k (P:=X.prog) (w:=X.w) (K:=X.K) (mg:=X.mg) (base:=X.base) (k:=kl) (f:=g) (c':=c') (name:="<lambda>") (qual:=X.env.qual++"<lambda>") (params:=params) (body:=body) (sc:=sc) (pm:=(X.mg "__name__").getD .none) (ctv:=ctv) (ps:=lps) (caps:=caps) (sp:=L8 wb cr) (wb:=wb) (by rw [n1];exact S) nd
  (fun A outer s H q hr=>by rw [n1];exact bS caps g c' A outer s H q n1 hr) (fun rs r _ hs=>by
   obtain⟨ds,d,e1,e2,e3⟩:=hs
   refine⟨ds,d,e1,e2,?_⟩
   have:cr.map some=caps.map fun p=>some p.slot:=by rw [<- n2,aQ];rfl
   rw [<- this];exact e3)
 have qP:=h2 g _ ⟨_,lps,F0,rfl,V2.all (cR _ _ _ _ _),fun hh Hh hok _ hΦ=>⟨_,(hok _ _ hΦ.1).1,rfl⟩⟩
 have fi:A5 X.H₀ (U5 caps H4):=(gw.same).trans gb
 have ge:∀p∈caps,X.s₀.heap.objs.size<=p.addr:=fun p hp=>I4.ok.cab _ _ (eh p hp).own (eh p hp).look
 have kn:∀b:Addr,b∉X.nox.ex:=fun b=>by show b∉X.ex;rw [hex];simp
 have B:=I4.base
 refine⟨_,rfl,.ref g,U5 caps H4,I4.os,I4.bare,⟨fun b o e n hb _=>B.keep b o e n hb (kn b),fun b o e n hb _=>B.slot b o e n hb (kn b),fun b o e n _=>?_,fun b o e _=>B.there b o e (kn b),fun b xs e=>fi _ _ e,fun b o u e=>fi _ _ e,fun b ps e=>⟨#[],by rw [fi _ _ e];simp⟩⟩,(Z8s I4 nd eh).hok,rfl,hQ _ _ _ qP fi ⟨rfl,LP,X3.mono⟩⟩
 rw [Q5f]
 ·exact B.free b o e n (kn b)
 ·intro hb
  obtain⟨p,hp,rfl⟩:=aj.mp hb
  exact absurd (au e) (Nat.not_lt.mpr (ge p hp))
theorem R1.okL (F:R1 K x qual st f fd c Pt) (S:G4 N ps (B8 st)) (qF:R9 st=[iA,cX,.Return (some (.Lambda params body sc cQ)) iH]) (hBM:Y5 mg base) (eO:Pt∈ts)
  (h1:∀(A:Around) (outer:List Env) (s:Shared) (H:Hp) (E:XK),C2 k (A.deeper (envOfC qual (B8 st) s.heap.objs.size f (.ref c)))->DS (W7 K8 P w K mg base N qual (B8 st) f (.ref c) A outer s H E).nox H iA w1)
  (h2:∀(A:Around) (outer:List Env) (s:Shared) (H:Hp) (E:XK),C2 k (A.deeper (envOfC qual (B8 st) s.heap.objs.size f (.ref c)))->DS (W7 K8 P w K mg base N qual (B8 st) f (.ref c) A outer s H E).nox H cX w2)
  (clos:Nat->List (Str×Addr)) (gu:∀n:Nat,closureFor sc (envOfC qual (B8 st) n f (.ref c))=pure (clos n)) (fC:∀n,cs.map (·.1)=(clos n).map (·.1)) (fq:∀n,∀y∈clos n,(envOfC qual (B8 st) n f (.ref c)).cells.lookup y.1=some y.2)
  (jh:∀y∈cs,N[y.2]?=some y.1/\(B8 st).names.lookup y.1=some .cell) (SL:Q3o lps (cs.map (·.1)) sc)
  (cR:∀(qual:Str) (cl:List (Str×Addr)) (pm cd ct:Value) (us:List Value),us.length=lps.length->bindArgs (PySem.W.kla_fn "<lambda>" qual params body sc cl pm cd ct) ⟨us,[]⟩=pure (lps.zip us))
  (bS:∀(caps:List M4) (g c':Addr) (A:Around) (outer:List Env) (s:Shared) (H:Hp) (q:Str),caps.map (·.name)=cs.map (·.1)->C2 kl (A.deeper (PySem.W.envX q sc s.heap.objs.size g (.ref c') (Q5 caps)))->DE (cxL P w K mg base (lps++cs.map (·.1)) q sc g c' caps A outer s H) H body wb)
  (gR:∀n:Nat,defaultsOf params (envOfC qual (B8 st) n f (.ref c))=([],[]))
  (hw:∀rs Pr,rs.length=ps.length->sp rs Pr->Q4y (F4 P w K mg base (kl+1)) lps.length cs wb w1 w2 Pr (E7 N rs)):P9 P w K mg base ts (k+1) f fd ps sp:=by
 obtain⟨oc,od,kV,cG,pm,an,ct,dF,rfl,lk,dD⟩:=F.ex
 refine⟨fun vs H Q E h=>?_,fun A outer s H args us vs Q E hr e0 hb r fA=>?_⟩
 ·obtain⟨rs,Pr,hl,al,_⟩:=h
  rw [<- al.length];exact hl
 obtain⟨rs,Pr,nj,al,ok,hT,jv,iQ⟩:=fA
 have hl:vs.length=ps.length:=by rw [<- al.length];exact nj
 have KX:K.In s.heap:=e0.mod.kin.keeps fun b o e=>(e0.bs b o e).1
 have iM:s.heap.NoLimit:=e0.mod.nolimit.keeps fun b o e=>(e0.bs b o e).1
 have fV:∀y∈ps.zip us,(B8 st).names.lookup y.1=some .local\/((B8 st).names.lookup y.1=some .cell/\((cellsFrom (s.heap.objs.size+1) (B8 st).names []).lookup y.1).isSome=true):=fun⟨n,v⟩ hy=>by
  rcases S.par n (dv hy).1 with q | q
  ·exact .inl q
  ·exact .inr ⟨q,PySem.W.cellsFrom_some _ _ _ (.inl q)⟩
 refine codeAny_call_function hr.depth (KX _ _ lk) rfl S.co S.gen rfl (PySem.W.codeRec_of KX dD) (hb _ _ _ _ ?_)
 refine wpAny_newFunctionEnv_cells S.kind fV fun env he s1 x1=>?_
 subst he
 refine⟨iM.keeps x1.toInCall.keep,codeAny_func ?_⟩
 have I0:A1 (W7 K8 P w K mg base N qual (B8 st) f (.ref c) A outer s H E) [] (start N vs) H s1:=Z9k S hr.hd e0 hl r x1
 have na:=hw (rs.map nrm) Pr (by rw [ag];exact nj) jv
 rw [Z4h]at na
 rw [qF]
 refine aL (W4x (X:=W7 K8 P w K mg base N qual (B8 st) f (.ref c) A outer s H E) (kl:=kl) (c:=c) (Pt:=Pt) (clos:=clos s.heap.objs.size) (I0.wish _) (Z3n al ok) rfl (h1 A outer s H E (hr.deeper _)) (h2 A outer s H E (hr.deeper _)) (hT Pt eO) hBM rfl F.hd (gu _) (fC _) (fq _)
  (fun y hy=>⟨(jh y hy).1,(jh y hy).2,rfl⟩) SL cR bS (gR _) na iQ) (fun fl s' ⟨u,e,q⟩=>by subst e;exact q) fun _ _ h=>False.elim h
end
end TK
end
section
namespace L2
open PySem PySem.Spec PyProof.Rows
section
variable {X:Cx}{k v:Expr}{tk tv:TE}{pos:Pos}
theorem W2i (hu:X.A.units<cLine) (hk:PE X k tk) (hv:PE X v tv):PE X (.Dict [some k] [v] pos) (fun σ H Q=>∀p,H p=none->tk σ (upd H p (.dT [])) fun x H1=>tv σ H1 fun y H2 =>
  H2 p=some (.dT [])/\∃b ks,x=.ref b/\H2 b=some (.tup (ks.map kV))/\Q (.ref p) (upd H2 p (.dT [(ks,y)]))):=by
 intro ae s σ H Q I q
 have hn:=I.hok.fresh (ai s.heap.objs.size)
 have I1:=I.laid (a:=s.heap.objs.size) (o:=.dT []) (h':=s.heap.push { cls:=.type "dict",data:=.dict #[] }) (t':=s.toks) (fun _ _ q=>af _ q) (ai _) (Y7r s.heap I.big)
 refine wpAny_Dict_any rfl rfl (by simp) (by simp) (pairTrees_cons_walk (B2 (hk ae _ σ _ _ I1 (q _ hn)) fun u s1 ⟨x,H1,I2,rx,q1⟩=>B2 (hv ae s1 σ H1 _ I2 q1) fun w2 s2 ⟨y,H2,I3,ry,e,b,ks,ex,eb,q2⟩=>?_))
 refine pairTrees_nil_walk ?_
 subst ex
 obtain rfl:u=Value.ref b:=rx
 obtain⟨z,hd,xs,rel,dd⟩:=Z8p I3.hok e
 cases rel
 unfold storeAll
 rw [bN]
 refine aa (aa (wpAny_dictSet_heap (hsz:=by simp) (knd:=tupleKind (K4 X.prog X.w)) hu (Q4b I3.hok eb) dd fun h' fE hs=>?_))
 refine aq ?_
 show wpAny _ _ (forIn [] PUnit.unit _) _ _ _
 rw [List.forIn_nil]
 refine aq ⟨.ref s.heap.objs.size,_,?_,rfl,q2⟩
 obtain⟨q,es,ep,hq,h2,h3,h4,_,h5⟩:=fE
 refine Q1x I3 (by rw [e];exact True.intro) hs ⟨q,hq⟩ ⟨by simp [sizeLine_eq],hd,[(ks,b,w2)],.cons ⟨rfl,?_,ry⟩ .nil,q,es,ep,hq,h2,h3,h4,h5⟩
 rw [A6 (Y0 eb e (fun z=>nomatch z))]
 exact eb
end
end L2
namespace TK
open PySem PySem.Spec PyProof.Rows L2
theorem Q2e {K:Fg9}{H:Hp}:∀{d:D}{k:B0}{v:V},P6 d=some k->A3 K H d v->v=kV k
 | .int i,k,v,h,q=>by cases h;unfold A3 at q;rw [q];rfl
 | .str x,k,v,h,q=>by cases h;unfold A3 at q;rw [q];rfl
 | .non,_,_,h,_=>by cases h
 | .bl _,_,_,h,_=>by cases h
 | .tup _,_,_,h,_=>by cases h
 | .lst _,_,_,h,_=>by cases h
section
variable {X:Cx}{H0:Hp}{a b c e o tg:Expr}{pos be p2 apos bc:Pos}{wa wb wi we:WE}{x:Str}
def Q9r (i:Nat) (we wv:WE):WS:=fun E τ=>we τ fun rk=>∃ds ks,rk=.st (.tup ds)/\Q6 ds=some ks/\wv τ fun r=>∃d,r=.st d/\E.nx (τ.set i (some (.dt [(ks,d)])))
theorem DS.dnew1 {i:Nat}{v:Expr}{wv:WE} (hu:X.A.units<cLine) (he:DE X H0 e we) (hv:DE X H0 v wv) (hN:X.N.Nodup) (hi:X.N[i]?=some x) (hx:Loc X.env.scope x) (hs:swapsWith (.Dict [some e] [v] p2) (some (.Name x be)) pos.line X.env=pure false:=by rfl)
  (hf:X.fn x=true\/X.env.scope.names.lookup x=some .local:=by first | exact .inl rfl | exact .inr rfl | assumption):DS X H0 (.Assign [.Name x be] (.Dict [some e] [v] p2) pos) (Q9r i we wv) where
 mono:=fun τ E F le h=>he.mono τ _ _ (fun r ⟨ds,ks,a1,a2,h⟩=>⟨ds,ks,a1,a2,hv.mono τ _ _ (fun r ⟨d,b1,b2⟩=>⟨d,b1,le.nx _ b2⟩) h⟩) h
 ps:=O2 (Q3h hN hi hx (W2i hu he.pe hv.pe) hs hf) fun D σ H ⟨τ,hR,h⟩ p hp=>by
  have sm:A5 H (upd H p (.dT [])):=G0 hp _
  have cD:=hR.mono sm
  refine⟨τ,cD,he.mono τ _ _ (fun rk ⟨ds,ks,a1,a2,h⟩ y H1 s1 ik=>?_) h⟩
  subst a1
  have cC:=cD.mono s1
  refine⟨τ,cC,hv.mono τ _ _ (fun r ⟨d,b1,b2⟩ u H2 s2 iv=>?_) h⟩
  subst b1
  have ik:A3 X.K H1 (.tup ds) y:=ik
  unfold A3 at ik
  obtain⟨b,xs,rfl,sb,al⟩:=ik
  rw [Q4c a2 al]at sb
  have ep:=s2 _ _ (s1 _ _ (upd_same (H:=H) (a:=p) (o:=.dT [])))
  refine⟨ep,b,ks,rfl,s2 _ _ sb,?_⟩
  have kp:Kp H2 (upd H2 p (.dT [(ks,u)])):=Kp.updM ep (by intro xs z;cases z) (by intro o u z;cases z) _
  have fw:=cC.mono s2
  have h0:H0 p=none:=hR.same.free hp
  have je:∀(j:Nat) (t:Sl),τ[j]?=some (some t)->t.mut=true->σ[j]?≠some (some (.ref p)):=fun j t e m q=>by
   obtain⟨o,ho⟩:=hR.tracked e m q
   rw [hp]at ho;cases ho
  have gw:B4 X.K H0 τ σ (upd H2 p (.dT [(ks,u)])):=by
   refine⟨fw.len,fun b o q=>?_,fun j t e=>?_,fw.apart⟩
   ·rw [A6 (fun z=>by rw [z,h0]at q;cases q)];exact fw.same _ _ q
   ·obtain⟨v,q,r⟩:=fw.here j t e
    refine⟨v,q,?_⟩
    have ap:t.mut=true->v≠.ref p:=fun mm z=>je j t e mm (by rw [q,z])
    cases t with
    | dat d=>exact A3.mono kp _ _ r
    | own es=>obtain⟨b,ys,e,n,q,t⟩:=r;exact⟨b,ys,e,n,by rw [A6 (fun z=>ap rfl (by rw [e,z]))];exact q,t.mono kp _ _⟩
    | bor es=>obtain⟨b,ys,e,q,t⟩:=r;exact⟨b,ys,e,q,t.mono kp _ _⟩
    | bd es=>obtain⟨b,ys,e,q,t⟩:=r;exact⟨b,ys,e,q,t.mono kp _ _⟩
    | dk es=>obtain⟨b,ys,e,n,q,t⟩:=r;exact⟨b,ys,e,n,by rw [A6 (fun z=>ap rfl (by rw [e,z]))];exact q,t.mono kp _ _⟩
    | dt es=>obtain⟨b,ys,e,n,q,t⟩:=r;exact⟨b,ys,e,n,by rw [A6 (fun z=>ap rfl (by rw [e,z]))];exact q,t.mono kp _ _⟩
    | ob _=>exact r
    | cl _ _=>exact⟨r.1,r.2.2 _ _ kp r.2.1,r.2.2⟩
    | ll _ _=>exact⟨r.1,r.2.keep kp fun b φ q=>by rw [A6 (Y0 q ep (by intro z;cases z))];exact q⟩
    | ins _ _ _=>obtain⟨e,n,dx,ys,q,t⟩:=r;exact⟨e,n,dx,ys,by rw [A6 (fun z=>ap rfl (by rw [e,z]))];exact q,t.mono kp _ _⟩
  have lf:Kp H (upd H2 p (.dT [(ks,u)])):=(Kp.of ((sm.trans s1).trans s2)).trans kp
  refine b2 _ _ lf (gw.set (s:=.dt [(ks,d)]) ⟨p,[(ks,u)],rfl,h0,upd_same,⟨u,[],rfl,A3.mono kp _ _ iv,rfl⟩⟩ fun _ j t hj e m q=>je j t e m q)
@[simp] theorem Y2i {i:Nat}{wv:WE}{E:G8} {τ:A8}:Q9r i we wv E τ=we τ fun rk=>∃ds ks,rk=.st (.tup ds)/\Q6 ds=some ks/\wv τ fun r=>∃d,r=.st d/\E.nx (τ.set i (some (.dt [(ks,d)]))):=rfl
theorem B4.dkAt {K:Fg9}{H:Hp} {τ:A8} {σ:St}{i:Nat}{kvs:List (B0×D)} (hR:B4 K H0 τ σ H) (e1:τ[i]?=some (some (.dk kvs))):∃a ps,σ[i]?=some (some (.ref a))/\H0 a=none/\H a=some (.dK ps)/\B5 K H kvs ps:=by
 obtain⟨v,hv,a,xs,rfl,h0,sq,al⟩:=hR.here i _ e1
 exact⟨a,xs,hv,h0,sq,al⟩
def Q4v (i:Nat) (we:WE):WE:=fun τ Q=>∃kvs,τ[i]?=some (some (.dk kvs))/\we τ fun r=>∃kd k d,r=.st kd/\P6 kd=some k/\D8 kvs k=some d/\Q (.st d)
theorem DE.kget {i:Nat} (hu:X.A.units+1<cLine) (ho:PE X o (M0 i)) (he:DE X H0 e we) (hs:Q5c e):DE X H0 (.Subscript o e pos) (Q4v i we) where
 mono:=fun τ P Q f ⟨kvs,e1,h⟩=>⟨kvs,e1,he.mono τ _ _ (fun r ⟨ds,ks,d,a1,a2,a3,a4⟩=>⟨ds,ks,d,a1,a2,a3,f _ a4⟩) h⟩
 pe:=O1 (Z3e hu ho he.pe hs) fun σ H Q ⟨τ,hR,kvs,e1,h⟩=>by
  obtain⟨a,ps,hv,h0,sq,kv⟩:=hR.dkAt e1
  refine⟨_,hv,τ,hR,he.mono τ _ _ (fun r ⟨kd,k,d,a1,a2,a3,a4⟩ v H1 s1 ir=>?_) h⟩
  subst a1
  cases Q2e a2 (show A3 X.K H1 kd v from ir)
  rcases B5.val (k:=k) (kv.mono (Kp.of s1) _ _)with⟨n1,_⟩ | ⟨d',v',n1,n2,n3⟩
  ·rw [a3]at n1;cases n1
  ·rw [a3]at n1;cases n1
   refine⟨a,v',rfl,?_,a4 _ _ s1 n3⟩
   have g:=V3.k (k:=k) (s1 _ _ sq)
   rw [n2]at g
   exact g
def Q4w (i:Nat) (we:WE):WT:=fun τ Q=>∃kvs,τ[i]?=some (some (.dk kvs))/\we τ fun r=>∃kd k,r=.st kd/\P6 kd=some k/\Q (!(D8 kvs k).isSome)
theorem DT.knotin {i:Nat} (hu:X.A.units+1<cLine) (he:DE X H0 e we) (ho:PE X o (M0 i)) (h1:behindInMarks .NotIn o=false:=by rfl):DT X H0 (.Compare e [.NotIn] [o] pos) (Q4w i we) where
 mono:=fun τ P Q f ⟨kvs,e1,h⟩=>⟨kvs,e1,he.mono τ _ _ (fun r ⟨ds,ks,a1,a2,a4⟩=>⟨ds,ks,a1,a2,f _ a4⟩) h⟩
 pt:=ptW (Y1x (Y1k hu he.pe ho) h1) fun σ H Q ⟨τ,hR,kvs,e1,h⟩=>by
  refine⟨τ,hR,he.mono τ _ _ (fun r ⟨kd,k,a1,a2,a4⟩ v H1 s1 ir=>?_) h⟩
  obtain⟨a,ps,hv,h0,sq,kv⟩:=(hR.mono s1).dkAt e1
  subst a1
  cases Q2e a2 (show A3 X.K H1 kd v from ir)
  refine⟨_,hv,a,_,rfl,V3.k (k:=k) sq,?_⟩
  have e:(Q9 ps k).isSome=(D8 kvs k).isSome:=by
   rcases B5.val (k:=k) kv with⟨n1,n2⟩ | ⟨d',v',n1,n2,n3⟩ <;> rw [n1,n2] <;> rfl
  rw [e]
  exact⟨_,rfl,a4 _ s1⟩
def Q4x (i:Nat) (we wv:WE):WS:=fun E τ=>wv τ fun r=>∃d,r=.st d/\∃kvs,τ[i]?=some (some (.dk kvs))/\we τ fun rk=>∃kd k,rk=.st kd/\P6 kd=some k/\kvs.length<sizeLine/\E.nx (τ.set i (some (.dk (N4 kvs k d))))
theorem DS.kput {i:Nat}{v:Expr}{wv:WE} (hu:X.A.units+1<cLine) (ho:PE X o (M0 i)) (he:DE X H0 e we) (hv:DE X H0 v wv) (hs:swapsWith v (some (.Subscript o e be)) pos.line X.env=pure false:=by rfl) :
  DS X H0 (.Assign [.Subscript o e be] v pos) (Q4x i we wv) where
 mono:=fun τ E F le h=>hv.mono τ _ _ (fun r ⟨d,e1,kvs,e2,h⟩=>⟨d,e1,kvs,e2,he.mono τ _ _ (fun r ⟨ds,ks,a1,a2,a3,a4⟩=>⟨ds,ks,a1,a2,a3,le.nx _ a4⟩) h⟩) h
 ps:=O2 (Y1u hu ho he.pe hv.pe hs) fun D σ H ⟨τ,hR,h⟩=>by
  refine⟨τ,hR,hv.mono τ _ _ (fun r ⟨d,e1,kvs,e2,h⟩ u H1 s1 ir=>?_) h⟩
  subst e1
  have cD:=hR.mono s1
  obtain⟨a,ps,dg,h0,sq,kv⟩:=cD.dkAt e2
  refine⟨_,dg,τ,cD,he.mono τ _ _ (fun rk ⟨kd,k,a1,a2,a3,a4⟩ y H2 s2 ik=>?_) h⟩
  subst a1
  cases Q2e a2 (show A3 X.K H2 kd y from ik)
  have cY:=s2 _ _ sq
  have gm:=kv.mono (Kp.of s2) _ _
  refine⟨a,_,rfl,Q1s.k cY (by rw [<- B5.length gm];exact a3),?_⟩
  have kp:Kp H2 (upd H2 a (.dK (O3 ps k u))):=Kp.updM cY (by intro xs z;cases z) (by intro o u z;cases z) _
  have iv:A3 X.K H2 d u:=A3.mono (Kp.of s2) _ _ ir
  refine a4 σ _ ((Kp.of (s1.trans s2)).trans kp) ((cD.mono s2).mutG e2 rfl dg h0 cY (by intro xs z;cases z) (by intro o u z;cases z) ⟨a,_,rfl,h0,upd_same,?_⟩)
  exact B5.mono kp _ _ (B5.put iv gm)
@[simp] theorem Y2p {i:Nat} {τ:A8}{Q:R->Prop}:Q4v i we τ Q=∃kvs,τ[i]?=some (some (.dk kvs))/\we τ fun r=>∃kd k d,r=.st kd/\P6 kd=some k/\D8 kvs k=some d/\Q (.st d):=rfl
@[simp] theorem Y2q {i:Nat} {τ:A8}{Q:Bool->Prop}:Q4w i we τ Q=∃kvs,τ[i]?=some (some (.dk kvs))/\we τ fun r=>∃kd k,r=.st kd/\P6 kd=some k/\Q (!(D8 kvs k).isSome):=rfl
@[simp] theorem Y2r {i:Nat}{wv:WE}{E:G8} {τ:A8}:Q4x i we wv E τ=wv τ fun r=>∃d,r=.st d/\∃kvs,τ[i]?=some (some (.dk kvs))/\we τ fun rk=>∃kd k,rk=.st kd/\P6 kd=some k/\kvs.length<sizeLine/\E.nx (τ.set i (some (.dk (N4 kvs k d)))):=rfl
end
end TK
end
section
namespace TK
open PySem PySem.Spec PyProof.Rows L2
noncomputable instance decD:DecidableEq D:=fun a b=>Classical.propDecidable (a=b)
noncomputable def R4 {α β:Type} (p:α->β->Prop):List α->List β->Prop
 | [],vs=>vs=[]
 | k::ks,vs=>∃v r,vs=v::r/\p k v/\R4 p ks r
theorem R4.len {α β:Type}{p:α->β->Prop}:∀{ks:List α}{vs:List β},R4 p ks vs->ks.length=vs.length
 | [],vs,h=>by rw [show vs=[]from h];rfl
 | k::ks,vs,h=>by obtain⟨v,r,rfl,_,t⟩:=h;rw [aK,aK,t.len]
theorem R4.imp {α β:Type}{p q:α->β->Prop} (f:∀a b,p a b->q a b):∀{ks:List α}{vs:List β},R4 p ks vs->R4 q ks vs
 | [],vs,h=>h
 | k::ks,vs,h=>by obtain⟨v,r,rfl,i,t⟩:=h;exact⟨v,r,rfl,f _ _ i,t.imp f⟩
theorem R4.at {α β:Type}{p:α->β->Prop}:∀{ks:List α}{vs:List β}{j:Nat}{k:α}{v:β},R4 p ks vs->ks[j]?=some k->vs[j]?=some v->p k v
 | [],vs,j,k,v,h,e,_=>by simp at e
 | k::ks,vs,0,k',v',h,e,e'=>by
  obtain⟨v,r,rfl,i,t⟩:=h
  simp at e e';subst e e';exact i
 | k::ks,vs,j+1,k',v',h,e,e'=>by
  obtain⟨v,r,rfl,i,t⟩:=h
  exact t.at (by simpa using e) (by simpa using e')
noncomputable def G5 (h:Heap):Nat->D->Value->Prop
 | _,.non,v=>v=.none
 | _,.int i,v=>∃t,v=.int i t
 | _,.str x,v=>∃t,v=.str x t
 | n+1,.tup ks,v=>∃a items,v=.ref a/\h.IsTuple a items/\R4 (G5 h n) ks items.toList
 | _,_,_=>False
noncomputable def X9 (w:World):Nat->D->Int
 | _,.non=>reduceHash 0xFCA86420
 | _,.int i=>hashInt i
 | _,.str x=>hashStr w x
 | n+1,.tup ks=>reduceHash (Builtin.Tuple.tupleHashOf (ks.map (X9 w n)))
 | _,_=>0
noncomputable def U7:Nat->D->Nat
 | n+1,.tup ks=>(ks.map (U7 n)).sum+1
 | _,_=>1
theorem Y8r {h:Heap}{a:Addr}{i j:Array Value} (x:h.IsTuple a i) (y:h.IsTuple a j):i=j:=by
 obtain⟨o,e,_,n,d⟩:=x
 obtain⟨o',e',_,n',d'⟩:=y
 rw [e]at e';cases e'
 rw [d]at d';cases d';rfl
theorem Y5h {α β:Type}{p q:α->β->Prop} (f:∀x y v,p x v->q y v->x=y):∀{xs ys:List α}{vs:List β},R4 p xs vs->R4 q ys vs->xs=ys
 | [],[],_,_,_=>rfl
 | [],y::ys,vs,h1,h2=>by obtain⟨_,_,e,_⟩:=h2;rw [show vs=[]from h1]at e;cases e
 | x::xs,[],vs,h1,h2=>by obtain⟨_,_,e,_⟩:=h1;rw [show vs=[]from h2]at e;cases e
 | x::xs,y::ys,vs,h1,h2=>by
  obtain⟨v,r,rfl,i1,t1⟩:=h1
  obtain⟨v',r',e,i2,t2⟩:=h2
  cases e
  rw [f _ _ _ i1 i2,Y5h f t1 t2]
theorem G5.shape {h:Heap}:∀{n:Nat}{x:D}{v:Value},G5 h n x v->(x=.non/\v=.none)\/(∃i t,x=.int i/\v=.int i t)\/(∃i t,x=.str i/\v=.str i t)\/∃m ks a items,n=m+1/\x=.tup ks/\v=.ref a/\h.IsTuple a items/\R4 (G5 h m) ks items.toList
 | n,.non,v,q=>.inl ⟨rfl,by cases n <;> exact q⟩
 | n,.int i,v,q=>by
  obtain⟨t,e⟩:∃t,v=.int i t:=by cases n <;> exact q
  exact .inr (.inl ⟨i,t,rfl,e⟩)
 | n,.str i,v,q=>by
  obtain⟨t,e⟩:∃t,v=.str i t:=by cases n <;> exact q
  exact .inr (.inr (.inl ⟨i,t,rfl,e⟩))
 | 0,.tup ks,v,q=>q.elim
 | m+1,.tup ks,v,q=>by
  obtain⟨a,items,e,t,z⟩:=q
  exact .inr (.inr (.inr ⟨m,ks,a,items,rfl,rfl,e,t,z⟩))
 | n,.bl b,v,q=>by cases n <;> exact q.elim
 | n,.lst b,v,q=>by cases n <;> exact q.elim
theorem G5.one {h:Heap}:∀(n m:Nat) (x y:D) (v:Value),G5 h n x v->G5 h m y v->x=y:=by
 intro n
 induction n with
 | zero =>
  intro m x y v h1 h2
  rcases h1.shape with⟨rfl,rfl⟩ | ⟨i,t,rfl,rfl⟩ | ⟨i,t,rfl,rfl⟩ | ⟨m1,ks,a,items,e0,rfl,rfl,t,z⟩ <;>
   rcases h2.shape with⟨rfl,e⟩ | ⟨j,u,rfl,e⟩ | ⟨j,u,rfl,e⟩ | ⟨m2,lc,a2,eM,_,rfl,e,t2,z2⟩ <;> first | rfl | (cases e;rfl) | (cases e;done) | omega
 | succ n ih =>
  intro m x y v h1 h2
  rcases h1.shape with⟨rfl,rfl⟩ | ⟨i,t,rfl,rfl⟩ | ⟨i,t,rfl,rfl⟩ | ⟨m1,ks,a,items,e0,rfl,rfl,t,z⟩ <;>
   rcases h2.shape with⟨rfl,e⟩ | ⟨j,u,rfl,e⟩ | ⟨j,u,rfl,e⟩ | ⟨m2,lc,a2,eM,_,rfl,e,t2,z2⟩ <;> first | rfl | (cases e;rfl) | (cases e;done) | skip
  cases e;cases e0;cases Y8r t t2
  rw [Y5h (fun x y v=>ih m2 x y v) z z2]
theorem G5.stays {h h':Heap} (k:∀a items,h.IsTuple a items->h'.IsTuple a items):∀(n:Nat) (x:D) (v:Value),G5 h n x v->G5 h' n x v:=by
 intro n
 induction n with
 | zero=>intro x v q;cases x <;> exact q
 | succ n ih =>
  intro x v q
  cases x with
  | tup ks =>
   unfold G5 at q ⊢
   obtain⟨a,it,e,t,z⟩:=q
   exact⟨a,it,e,k _ _ t,z.imp ih⟩
  | _=>exact q
section
variable {E:VS9}{prog:Program}{w:World}
theorem Z9s {n:Nat} (ih:∀(k:D) (v:Value) (A:Around) (s:Shared) (Q:Int->Shared->Prop),A.units+n<cLine->G5 s.heap n k v->Q (X9 w n k) { s with toks:=s.toks+U7 n k }->wpAny (model prog w) A (pyHash v) Q E s) :
  ∀(ks:List D) (vs:List Value) (A:Around) (s:Shared) (b:Array Int) (Q:Array Int->Shared->Prop),A.units+n<cLine->R4 (G5 s.heap n) ks vs ->
   Q (b++(ks.map (X9 w n)).toArray) { s with toks:=s.toks+(ks.map (U7 n)).sum }->wpAny (model prog w) A (forIn vs b fun x r=>do let h <- pyHash x;pure PUnit.unit;pure (ForInStep.yield (r.push h))) Q E s
 | [],vs,A,s,b,Q,_,z,q=>by
  rw [show vs=[]from z]
  exact aq (by simpa using q)
 | k::ks,vs,A,s,b,Q,hu,z,q=>by
  obtain⟨v,r,rfl,i,t⟩:=z
  rw [bN]
  refine aa (aa (ih k v A s _ hu i ?_))
  refine aa (aq (aq ?z))
  refine Z9s ih ks r A { s with toks:=s.toks+U7 n k } _ Q hu t ?_
  have e:(b.push (X9 w n k))++(ks.map (X9 w n)).toArray=b++((k::ks).map (X9 w n)).toArray:=by simp
  have e2:s.toks+U7 n k+(ks.map (U7 n)).sum=s.toks+((k::ks).map (U7 n)).sum:=by simp [Nat.add_assoc]
  rw [e]
  show Q _ { s with toks:=s.toks+U7 n k+(ks.map (U7 n)).sum }
  rw [e2];exact q
theorem Y8y:∀(n:Nat) (k:D) (v:Value) (A:Around) (s:Shared) (Q:Int->Shared->Prop),A.units+n<cLine->G5 s.heap n k v->Q (X9 w n k) { s with toks:=s.toks+U7 n k }->wpAny (model prog w) A (pyHash v) Q E s:=by
 have flat:∀(n:Nat) (k:D) (v:Value) (A:Around) (s:Shared) (Q:Int->Shared->Prop),(∀ks,k≠.tup ks)->G5 s.heap n k v->Q (X9 w n k) { s with toks:=s.toks+U7 n k }->wpAny (model prog w) A (pyHash v) Q E s:=by
  intro n k v A s Q nt i q
  cases k with
  | tup ks=>exact absurd rfl (nt ks)
  | bl b=>cases n <;> exact i.elim
  | lst b=>cases n <;> exact i.elim
  | non =>
   have e:v=.none:=by cases n <;> exact i
   subst e
   have e1:X9 w n .non=reduceHash 0xFCA86420:=by cases n <;> rfl
   have e2:U7 n .non=1:=by cases n <;> rfl
   rw [e1,e2]at q
   exact PySem.W.pyHash_slot (T:="NoneType") rfl F.slot_NoneType_hash F.entry_NoneType_hash (F.args_NoneType_hash_1 _) (beq_builtin_none _) (.inl rfl) (aa (aq (aa (wpAny_mkInt (aq ⟨_,_,rfl,q⟩)))))
  | int j =>
   obtain⟨t,rfl⟩:∃t,v=.int j t:=by cases n <;> exact i
   have e1:X9 w n (.int j)=hashInt j:=by cases n <;> rfl
   have e2:U7 n (.int j)=1:=by cases n <;> rfl
   rw [e1,e2]at q
   exact wpAny_pyHash_int q
  | str j =>
   obtain⟨t,rfl⟩:∃t,v=.str j t:=by cases n <;> exact i
   have e1:X9 w n (.str j)=hashStr w j:=by cases n <;> rfl
   have e2:U7 n (.str j)=1:=by cases n <;> rfl
   rw [e1,e2]at q
   exact wpAny_pyHash_str q
 intro n
 induction n with
 | zero =>
  intro k v A s Q hu i q
  cases k with
  | tup ks=>exact i.elim
  | _=>exact flat 0 _ v A s Q (by intro ks e;cases e) i q
 | succ n ih =>
  intro k v A s Q hu i q
  cases k with
  | tup ks =>
   obtain⟨a,items,rfl,t,z⟩:=i
   obtain⟨o,e,c,m,d⟩:=id t
   refine PySem.W.pyHash_slot (T:="tuple") ⟨o,e,c⟩ F.slot_tuple_hash F.entry_tuple_hash (F.args_tuple_hash_1 _) (beq_builtin_none _) (.inr (by omega)) ?_
   change wpAny (model prog w) A.in1 (Builtin.Tuple.tupleItemsOf (Value.ref a)>>=_) _ _ s
   refine aa (wpAny_tupleItemsOf e d (aa ?_))
   rw [<- Array.forIn_toList]
   refine Z9s ih ks items.toList A.in1 s #[] _ (by simp only [cW];omega) z ?_
   refine aa (wpAny_mkInt (aq ⟨_,_,rfl,?_⟩))
   have q2:Q (reduceHash (Builtin.Tuple.tupleHashOf (ks.map (X9 w n)))) { s with toks:=s.toks+(ks.map (U7 n)).sum+1 }:=q
   simpa using q2
  | _=>exact flat (n+1) _ v A s Q (by intro ks e;cases e) i q
theorem Y7t {A:Around}{s:Shared}{a b:Addr}{x y:Array Value}{xs ys:List D}{n m:Nat} (hu:A.units<cLine) (ta:s.heap.IsTuple a x) (tb:s.heap.IsTuple b y) (za:R4 (G5 s.heap n) xs x.toList) (zb:R4 (G5 s.heap m) ys y.toList)
  (he:∀(k l:D) (u v:Value),G5 s.heap n k u->G5 s.heap m l v->SeqAt.EqAt A.in1 s u v (decide (k=l))):SeqAt.RcAt A s (.ref a) (.ref b) (decide (D.tup xs=D.tup ys)):=by
 have lx:xs.length=x.size:=by rw [za.len];simp
 have ly:ys.length=y.size:=by rw [zb.len];simp
 have r:=SeqAt.RcAt.tuples (e:=fun j=>decide (xs[j]?=ys[j]?)) ta tb hu fun j h1 h2=>by
  have e1:xs[j]?=some xs[j]:=ac (by omega)
  have e2:ys[j]?=some ys[j]:=ac (by omega)
  have q:=he xs[j] ys[j] x[j] y[j] (za.at e1 (by simp [h1])) (zb.at e2 (by simp [h2]))
  have:decide (xs[j]?=ys[j]?)=decide (xs[j]=ys[j]):=by rw [e1,e2];by_cases z:xs[j]=ys[j] <;> simp [z]
  show SeqAt.EqAt A.in1 s x[j] y[j] (decide (xs[j]?=ys[j]?))
  rw [this];exact q
 have e:((List.range (min x.size y.size)).all (fun j=>decide (xs[j]?=ys[j]?))&&x.size==y.size)=decide (D.tup xs=D.tup ys):=by
  rw [Bool.eq_iff_iff]
  simp only [de,bP,bL,decide_eq_true_eq,beq_iff_eq,D.tup.injEq]
  constructor
  ·rintro ⟨h1,h2⟩
   refine List.ext_getElem? fun j=>?_
   by_cases hj:j<x.size
   ·exact h1 j (by omega)
   ·rw [ip (by omega),ip (by omega)]
  ·rintro rfl
   exact⟨fun _ _=>rfl,by omega⟩
 rw [e]at r;exact r
theorem k_eq {s:Shared}:∀(n m:Nat) (x y:D) (u v:Value) (A:Around),A.units+n<cLine->G5 s.heap n x u->G5 s.heap m y v->SeqAt.EqAt A s u v (decide (x=y)):=by
 have flat:∀(n m:Nat) (x y:D) (u v:Value) (A:Around),A.units+n<cLine->G5 s.heap n x u->G5 s.heap m y v ->
   (∀n' xs ys a b i j m',n=n'+1->s.heap.IsTuple a i->s.heap.IsTuple b j->R4 (G5 s.heap n') xs i.toList->R4 (G5 s.heap m') ys j.toList->a≠b->SeqAt.EqAt A s (.ref a) (.ref b) (decide (D.tup xs=D.tup ys)))->SeqAt.EqAt A s u v (decide (x=y)):=by
  intro n m x y u v A hu h1 h2 tt
  have ja:A.units<cLine:=by omega
  rcases h1.shape with⟨rfl,rfl⟩ | ⟨i,t,rfl,rfl⟩ | ⟨i,t,rfl,rfl⟩ | ⟨m1,ks,a,items,e0,rfl,rfl,t,z⟩ <;>
   rcases h2.shape with⟨rfl,rfl⟩ | ⟨j,u,rfl,rfl⟩ | ⟨j,u,rfl,rfl⟩ | ⟨m2,lc,a2,eM,_,rfl,rfl,t2,z2⟩
  ·rw [dP rfl];exact SeqAt.EqAt.same _
  ·rw [aP (by intro e;cases e)];exact SeqAt.EqAt.none_int _ _
  ·rw [aP (by intro e;cases e)];exact SeqAt.EqAt.none_str _ _
  ·rw [aP (by intro e;cases e)];exact SeqAt.EqAt.none_tuple t2 ja
  ·rw [aP (by intro e;cases e)];exact SeqAt.EqAt.int_none _ _
  ·have e:decide (D.int i=D.int j)=(i==j):=by by_cases z:i=j <;> simp [z]
   rw [e];exact SeqAt.EqAt.int_int _ _ _ _
  ·rw [aP (by intro e;cases e)];exact SeqAt.EqAt.int_str _ _ _ _
  ·rw [aP (by intro e;cases e)];exact SeqAt.EqAt.int_tuple _ _ t2 ja
  ·rw [aP (by intro e;cases e)];exact SeqAt.EqAt.str_none _ _
  ·rw [aP (by intro e;cases e)];exact SeqAt.EqAt.str_int _ _ _ _
  ·have e:decide (D.str i=D.str j)=(i==j):=by by_cases z:i=j <;> simp [z]
   rw [e];exact SeqAt.EqAt.str_str _ _ _ _
  ·rw [aP (by intro e;cases e)];exact SeqAt.EqAt.str_tuple _ _ t2 ja
  ·rw [aP (by intro e;cases e)];exact SeqAt.EqAt.tuple_none t ja
  ·rw [aP (by intro e;cases e)];exact SeqAt.EqAt.tuple_int _ _ t ja
  ·rw [aP (by intro e;cases e)];exact SeqAt.EqAt.tuple_str _ _ t ja
  ·by_cases ab:a=a2
   ·subst ab
    have e:=G5.one _ _ _ _ _ h1 h2
    rw [dP e];exact SeqAt.EqAt.same _
   ·exact tt m1 ks lc a a2 items eM m2 e0 t t2 z z2 ab
 intro n
 induction n with
 | zero=>exact fun m x y u v A hu h1 h2=>flat 0 m x y u v A hu h1 h2 fun n' _ _ _ _ _ _ _ e=>by omega
 | succ n ih =>
  exact fun m x y u v A hu h1 h2=>flat (n+1) m x y u v A hu h1 h2 fun n' xs ys a b i j m' e ta tb za zb ab=>by
   cases e
   exact SeqAt.EqAt.of_refs ab (Y7t (by omega) ta tb za zb fun k l u v h1 h2=>ih m' k l u v A.in1 (by simp only [cW];omega) h1 h2)
theorem Y8z {A:Around}{s:Shared}:∀(n f:Nat) (x:D) (v:Value) (Q:Bool->Shared->Prop),n<=f->G5 s.heap n x v->Q true s->wpAny (model prog w) A (eqIsQuiet f v) Q E s:=by
 intro n
 induction n with
 | zero =>
  intro f x v Q hf h q
  rcases h.shape with⟨rfl,rfl⟩ | ⟨i,t,rfl,rfl⟩ | ⟨i,t,rfl,rfl⟩ | ⟨m1,ks,a,items,e0,rfl,rfl,t,z⟩
  ·rw [dO f rfl];exact aq q
  ·rw [dO f rfl];exact aq q
  ·rw [dO f rfl];exact aq q
  ·omega
 | succ n ih =>
  intro f x v Q hf h q
  rcases h.shape with⟨rfl,rfl⟩ | ⟨i,t,rfl,rfl⟩ | ⟨i,t,rfl,rfl⟩ | ⟨m1,ks,a,items,e0,rfl,rfl,t,z⟩
  ·rw [dO f rfl];exact aq q
  ·rw [dO f rfl];exact aq q
  ·rw [dO f rfl];exact aq q
  ·cases e0
   obtain⟨o,e,c,m,d⟩:=id t
   have hT:s.TypeIs (.ref a) "tuple":=⟨o,e,c⟩
   cases f with
   | zero=>omega
   | succ f =>
    unfold eqIsQuiet
    refine aa (wpAny_specialOf hT F.slot_tuple_eq.lookup (?_:wpAny (model prog w) A (isInstance (Value.ref a) (.type "tuple")>>=_) _ _ s))
    refine aa (wpAny_isInstance hT isSubtype_tuple_tuple (s:=s) ?_)
    rw [aI (by decide)]
    refine aa (bX e d (aa ?_))
    change wpAny (model prog w) A (forIn items _ _) _ _ s
    rw [<- Array.forIn_toList]
    have loop:∀(ks:List D) (vs:List Value),R4 (G5 s.heap n) ks vs->wpAny (model prog w) A (forIn vs (none,PUnit.unit) fun y (se:Option Bool×PUnit)=>(do
      if (!(<- eqIsQuiet f y))=true then pure (ForInStep.done (some false,PUnit.unit))else pure (ForInStep.yield (none,PUnit.unit)))) (fun r s'=>s'=s/\r=(none,PUnit.unit)) E s:=by
     intro ks
     induction ks with
     | nil=>intro vs z;rw [show vs=[]from z];exact aq ⟨rfl,rfl⟩
     | cons k ks ihk =>
      intro vs z
      obtain⟨v,r,rfl,i,z⟩:=z
      rw [bN]
      refine aa (aa (ih f k v _ (by omega) i ?_))
      rw [aI (by decide)]
      exact aq (ihk r z)
    refine aL (loop ks items.toList z) (fun r s' bp=>?_) fun _ _ z=>z
    obtain⟨e1,e2⟩:=bp
    subst e1 e2
    exact aq q
end
noncomputable def Z1n (prog:Program) (w:World):HeapKind prog w D where
 is:=fun h k a=>G5 h 8 k (.ref a)
 hash:=X9 w 8
 draws:=U7 8
 room:=fun A=>A.units+8<cLine
 inj:=fun h1 h2=>G5.one _ _ _ _ _ h1 h2
 keeps:=fun h1 ho hd hs=>G5.stays (fun b it t=>by
  obtain⟨o',e,c,m,d⟩:=t
  refine⟨o',(hs.2 b fun z=>?_).trans e,c,m,d⟩
  subst z
  rw [ho]at e;cases e
  rw [hd]at d;cases d) _ _ _ h1
 pyHash:=fun hu hk h=>Y8y 8 _ _ _ _ _ hu hk h
 eqBool:=fun hu hx hy h=>k_eq 8 8 _ _ _ _ _ hu hx hy _ _ _ _ h
 quiet:=fun hk h=>Y8z 8 8 _ _ _ (ai _) hk h
section
variable {κ:Type} [DecidableEq κ] {P:Program}{w:World}{knd:HeapKind P w κ}{A:Around}{E:VS9}{s:Shared}{d a:Addr}{xs:List (κ×Addr×Value)}{k:κ}
theorem W6g {y:Value}{Q:VS9} (hu:knd.room A) (hk:knd.is s.heap k a) (D:s.heap.DictOfH knd d xs) (z:xs.length<=sizeLine)
  (h1:∀(j:Nat) (p:Addr×Value),xs[j]?=some (k,p)->Q p.2 { s with toks:=s.toks+knd.draws k })
  (h2:k∉xs.map (·.1)->∀h',h'.DictOfH knd d (xs++[(k,a,y)])->Heap.SameBut d s.heap h'->Q y { s with heap:=h',toks:=s.toks+knd.draws k }):wpAny (model P w) A (dictSetDefault d (.ref a) y) Q E s:=by
 obtain⟨o,es,ep,ho,hc,hd,he,lN,hn⟩:=D
 have hz:es.size<=sizeLine:=by rw [size_of_entries he];exact z
 unfold dictSetDefault
 refine bJ (aa (knd.pyHash hu hk (aa (wpAny_dictFind_heap (s:={ s with toks:=s.toks+knd.draws k }) hu hk ho hd he lN hn (fun no=>?_) fun j p hj=>?_))))
 ·have nk:=not_mem_keys_of_get no
  refine aa (wpAny_rule (aa (wpAny_updateDictKeys (s:={ s with toks:=s.toks+knd.draws k }) ho hd (aq (h2 nk _ ?_ (bx ..))) (hz:=hz))))
  refine⟨_,_,ep+1,cI _ ho (Obj.isFreed_of_dict (Obj.data_mapDictKeys hd _)),hc.mapDictKeys _,Obj.data_mapDictKeys hd _,by simp [he,entryOfKey],fun x hx=>?_,?_⟩
  ·rcases aN.mp hx with q | q
   ·exact knd.keeps (lN x q) ho hd (bx ..)
   ·rw [aD.mp q];exact knd.keeps hk ho hd (bx ..)
  ·rw [cF,ba (l₁:=xs.map (·.1))]
   refine⟨hn,by simp,fun b hb c fq e=>?_⟩
   rw [show c=k by simpa using fq]at e
   exact nk (e ▸ hb)
 ·refine aa (wpAny_dictEntries (s:={ s with toks:=s.toks+knd.draws k }) ho hd ?_)
  rw [entry_at he j,hj]
  exact aa (wpAny_rule (aq (h1 j p hj)))
theorem Y6x {y:Value}{Q:VS9} (hu:knd.room A.in1) (hs:(d==sysModules)=false) (hk:knd.is s.heap k a) (D:s.heap.DictOfH knd d xs) (z:xs.length<=sizeLine)
  (h1:∀(j:Nat) (p:Addr×Value),xs[j]?=some (k,p)->Q p.2 { s with toks:=s.toks+knd.draws k })
  (h2:k∉xs.map (·.1)->∀h',h'.DictOfH knd d (xs++[(k,a,y)])->Heap.SameBut d s.heap h'->Q y { s with heap:=h',toks:=s.toks+knd.draws k }):wpAny (model P w) A (call (.builtin "dict.setdefault") [.ref d,.ref a,y]) Q E s:=by
 refine cV du D.typeIs PySem.F.entry_dict_setdefault ?_ (PySem.F.args_dict_setdefault_3 _ _ _)
 unfold Builtin.«dict.setdefault» Builtin.Dict.keyAndDefault
 refine aa (aa (wpAny_notOrdered_dict D.typeIs ?_))
 change wpAny (model P w) A.in1 (pure (d,Value.ref a,some y)) _ _ s
 refine aq (?_:wpAny (model P w) A.in1 (if (d==sysModules)=true then _ else(dictSetDefault d (.ref a) y>>=fun r=>ret r)) _ _ s)
 rw [aI (by rw [hs];decide)]
 exact aa (W6g hu hk D z (fun j p hj=>aq ⟨_,rfl,h1 j p hj⟩) fun n h' D' sb=>aq ⟨_,rfl,h2 n h' D' sb⟩)
theorem Y6s {Q:VS9} (hs:(d==sysModules)=false) (D:s.heap.DictOfH knd d xs) (z:xs.length<=sizeLine) (h:∀t t',Q (.int xs.length t) { s with toks:=t' }):wpAny (model P w) A (call (.builtin "len") [.ref d]) Q E s:=by
 have rZ:((xs.length:Nat):Int)<2 ^ 63:=by rw [sizeLine_eq]at z;omega
 refine Calls.call_function_entry kind_len plain_len entry_len (args_len1 (Value.ref d)) ?_
 unfold Builtin.«len»
 refine aa (m:=oneArg "len" _) (aq (aa (m:=callSpecial? (.ref d) (Str.ofString "__len__")) ?_))
 have hT:=D.typeIs
 obtain⟨o,es,ep,ho,hc,hd,he,lN,hn⟩:=D
 have re:es.size=xs.length:=size_of_entries he
 refine dE (name:=Str.ofString "__len__") hT PySem.F.slot_dict_len (cV PySem.F.slot_dict_len hT PySem.F.entry_dict_len ?_ (PySem.F.args_dict_len_1 _))
 change wpAny (model P w) _ (dictSize d>>=_) _ _ s
 unfold dictSize
 refine aa (aa (wpAny_dictEntries ho hd (aq (aa (wpAny_pendingCount_other hs (aa (wpAny_mkInt (aq ⟨_,rfl,?_⟩))))))))
 refine aa (bJ (aq (aa (wpAny_letGo ?_))))
 rw [Nat.add_zero,re]
 rw [aI (by omega),aI (by omega)]
 exact aa (wpAny_mkInt (aq ⟨_,rfl,h _ _⟩))
end
noncomputable def Q1:Nat->D->Bool
 | _,.non=>true
 | _,.int _=>true
 | _,.str _=>true
 | n+1,.tup ks=>ks.all (Q1 n)
 | _,_=>false
def GDh (P:Program) (w:World) (p:Addr) (ks:List (D×Addr)) (h:Heap):Prop :=
 (p==sysModules)=false/\ks.length<=sizeLine/\∃xs:List (D×Addr×Value),xs.map (fun x=>(x.1,x.2.1))=ks/\(∀(i:Nat) x,xs[i]?=some x->∃t,x.2.2=.int i t) /\
  ∃o es ep,h.get? p=some o/\o.ExactDict/\o.data=.dict es ep/\es.toList=xs.map (entryOfKey (Z1n P w))/\(xs.map (·.1)).Nodup
noncomputable def gD (X:Cx) (p:Addr) (ks:List (D×Addr)):HO:=.ext (GDh X.prog X.w p ks)
section
variable {P:Program}{w:World}{H:Hp}{h h':Heap}{p:Addr}{ks:List (D×Addr)}{K:Fg9}
theorem GDh.ok (g:GDh P w p ks h):K1 P w H h p (.ext (GDh P w p ks)):=by
 obtain⟨o,e⟩:∃o,h.get? p=some o:=by obtain⟨_,_,_,_,_,o,_,_,e,_⟩:=g;exact⟨o,e⟩
 refine⟨g,⟨o,e⟩,fun h1 h2 ⟨a,b,xs,c,d,o,es,ep,e,r⟩ k=>⟨a,b,xs,c,d,o,es,ep,k _ e,r⟩⟩
theorem Y5g (ok:F8 P w H h) {n:Nat} (ih:∀(d:D) (v:V) (u:Value),Q1 n d=true->A3 K H d v->B7 v u->G5 h n d u) :
  ∀(ds:List D) (vs:List V) (us:List Value),ds.all (Q1 n)=true->AllS K H ds vs->B6 vs us->R4 (G5 h n) ds us
 | [],vs,us,_,al,r=>by
  unfold AllS at al;subst al
  cases r;exact rfl
 | d::ds,vs,us,hk,al,r=>by
  unfold AllS at al
  obtain⟨v,t,rfl,i,al⟩:=al
  cases r with
  | cons r1 r2 =>
   rw [List.all_cons,de]at hk
   exact⟨_,_,rfl,ih d v _ hk.1 i r1,Y5g ok ih ds t _ hk.2 al r2⟩
theorem Z9t (ok:F8 P w H h):∀(n:Nat) (d:D) (v:V) (u:Value),Q1 n d=true->A3 K H d v->B7 v u->G5 h n d u:=by
 have flat:∀(n:Nat) (d:D) (v:V) (u:Value),(∀ks,d≠.tup ks)->Q1 n d=true->A3 K H d v->B7 v u->G5 h n d u:=by
  intro n d v u nt hk i r
  cases d with
  | tup ks=>exact absurd rfl (nt ks)
  | non=>unfold A3 at i;subst i;cases (show u=.none from r);cases n <;> exact rfl
  | bl b=>cases n <;> cases hk
  | lst b=>cases n <;> cases hk
  | int j=>unfold A3 at i;subst i;obtain⟨t,rfl⟩:=(show ∃t,u=Value.int j t from r);cases n <;> exact⟨t,rfl⟩
  | str j=>unfold A3 at i;subst i;obtain⟨t,rfl⟩:=(show ∃t,u=Value.str j t from r);cases n <;> exact⟨t,rfl⟩
 intro n
 induction n with
 | zero =>
  intro d v u hk i r
  cases d with
  | tup ks=>cases hk
  | _=>exact flat 0 _ v u (by intro ks e;cases e) hk i r
 | succ n ih =>
  intro d v u hk i r
  cases d with
  | tup ks =>
   unfold A3 at i
   obtain⟨a,xs,rfl,e,al⟩:=i
   cases (show u=Value.ref a from r)
   obtain⟨_,aV,rv,t⟩:=(show K1 P w H h a (.tup xs)from ok a _ e)
   exact⟨a,aV.toArray,rfl,t,by simpa using Y5g ok ih ks xs aV hk al rv⟩
  | _=>exact flat (n+1) _ v u (by intro ks e;cases e) hk i r
theorem GDh.dict (ok:F8 P w H h) (g:GDh P w p ks h) (hk:∀x∈ks,Q1 8 x.1=true/\A3 K H x.1 (.ref x.2)) :
  ∃xs:List (D×Addr×Value),xs.map (fun x=>(x.1,x.2.1))=ks/\(∀(i:Nat) x,xs[i]?=some x->∃t,x.2.2=.int i t)/\h.DictOfH (Z1n P w) p xs:=by
 obtain⟨_,_,xs,e,iv,o,es,ep,h1,h2,h3,h4,h5⟩:=g
 refine⟨xs,e,iv,o,es,ep,h1,h2,h3,h4,fun x hx=>?_,h5⟩
 obtain⟨k1,k2⟩:=hk (x.1,x.2.1) (by rw [<- e];exact aj.mpr ⟨x,hx,rfl⟩)
 exact Z9t ok 8 _ _ _ k1 k2 rfl
end
section
variable {X:Cx}{ae:Pn9} {σ:St}{H:Hp}{s:Shared}{p:Addr}
theorem Y6r:Q2r X (.builtin "len") (fun xs H Q=>∃p ks,xs=[V.ref p]/\H p=some (gD X p ks)/\(∀x∈ks,Q1 8 x.1=true/\A3 X.K H x.1 (.ref x.2))/\Q (.int ks.length) H):=by
 intro ae s σ H xs us Q I r ⟨p,ks,e,hp,hk,q⟩
 subst e
 obtain⟨u,rfl,ru⟩:=Z8 r
 cases ru
 have g:GDh X.prog X.w p ks s.heap:=(I.hok p _ hp).1
 obtain⟨xs,e,iv,D⟩:=g.dict I.hok hk
 have el:xs.length=ks.length:=by rw [<- e,ag]
 refine Y6s g.1 D (by rw [el];exact g.2.1) fun t t'=>⟨.int ks.length,H,I.tok _,⟨t,by rw [el]⟩,q⟩
theorem Y8m {u:HO}{o:Obj}{H':Hp} (I:A1 X ae σ (upd H p u) s) (hn:H p=none) (nt:∀xs,u≠.tup xs) (nf:∀o v,u≠.frz o v) (no:∀y,¬ Q7a y u) (nb:∀ps,u≠.tbl ps) (e:s.heap.get? p=some o) (d:∀v,o.data≠.cell v) :
  A1 X ((p,o)::ae) σ H s:=by
 have at_:upd H p u p=some u:=upd_same
 have g9:∀b v,H b=some v->upd H p u b=some v:=fun b v q=>by rw [A6 (V9 q hn)];exact q
 have ee:∀b,upd H p u b=none->H b=none/\b≠p:=fun b q=>by
  by_cases z:b=p
  ·subst z;rw [upd_same]at q;cases q
  ·rw [A6 z]at q;exact⟨q,z⟩
 have pL:p≠X.env.locals:=fun z=>by have:=I.free;rw [<- z,upd_same]at this;cases this
 have pF:p∉X.fs:=fun z=>by
  obtain⟨_,o,ho,_⟩:=I.ok.funs.mem z
  have:=I.base.free p o ho (I.ok.frf p z) fun w=>I.ok.exfs p w z
  rw [upd_same]at this;cases this
 refine⟨I.ok,I.os,I.bare,⟨I.base.keep,I.base.slot,fun b o q n x=>(ee b (I.base.free b o q n x)).1,I.base.there,fun b xs q=>?_,fun b o v q=>?_,fun b ps q=>?_⟩,I.loc,I.cell,(ee _ I.free).1,fun x c q=>(ee _ (I.freeC x c q)).1,fun a ha=>?_,fun b v q=>?_,I.len⟩
 ·have r:=I.base.tups b xs q
  by_cases z:b=p
  ·subst z;rw [upd_same]at r;cases r;exact absurd rfl (nt _)
  ·rw [A6 z]at r;exact r
 ·have r:=I.base.frzs b o v q
  by_cases z:b=p
  ·subst z;rw [upd_same]at r;cases r;exact absurd rfl (nf _ _)
  ·rw [A6 z]at r;exact r
 ·obtain⟨more,r⟩:=I.base.tbls b ps q
  by_cases z:b=p
  ·subst z;rw [upd_same]at r;cases r;exact absurd rfl (nb _)
  ·rw [A6 z]at r;exact⟨more,r⟩
 ·rcases aN.mp ha with z | z
  ·obtain⟨a1,a2,a3⟩:=I.pin a (bb _ z)
   exact⟨a1,(ee _ a2).1,a3⟩
  ·rcases ao.mp z with z | z
   ·subst z;exact⟨e,hn,pL,pF,d⟩
   ·obtain⟨a1,a2,a3⟩:=I.pin a (ak _ z)
    exact⟨a1,(ee _ a2).1,a3⟩
 ·refine(I.hok b v (g9 b v q)).stay (fun c v _ r=>r) (fun c v ow r=>?_) fun c xs r=>?_
  ·by_cases z:c=p
   ·subst z;rw [upd_same]at r;cases r;exact absurd ow (no _)
   ·rw [A6 z]at r;exact r
  ·by_cases z:c=p
   ·subst z;rw [upd_same]at r;cases r;exact absurd rfl (nt _)
   ·rw [A6 z]at r;exact r
theorem Z1x {u:HO} (I:A1 X ae σ H s) (hn:H p=none) (hx:p∈X.ex\/X.s₀.heap.objs.size<=p) (hL:p≠X.env.locals) (hc:∀x c,X.env.cells.lookup x=some c->c≠p) (hp:∀a∈X.pn++ae,a.1≠p) (new:K1 X.prog X.w (upd H p u) s.heap p u) :
  A1 X ae σ (upd H p u) s:=by
 have keep:∀b v,H b=some v->upd H p u b=some v:=fun b v q=>by rw [A6 (V9 q hn)];exact q
 refine⟨I.ok,I.os,I.bare,⟨I.base.keep,I.base.slot,fun b o q n x=>?_,I.base.there,fun b xs q=>keep _ _ (I.base.tups b xs q),fun b o v q=>keep _ _ (I.base.frzs b o v q),fun b ps q=>let ⟨more,r⟩:=I.base.tbls b ps q;⟨more,keep _ _ r⟩⟩,
  I.loc,I.cell,by rw [A6 (bn hL)];exact I.free,fun x c q=>by rw [A6 (hc x c q)];exact I.freeC x c q,fun a ha=>?_,fun b v q=>?_,I.len⟩
 ·refine(A6 (fun z=>?_)).trans (I.base.free b o q n x)
  rcases hx with hx | hx
  ·exact x (by rw [z];exact hx)
  ·rw [z]at q;exact absurd (au q) (Nat.not_lt.mpr hx)
 ·obtain⟨a1,a2,a3⟩:=I.pin a ha
  exact⟨a1,by rw [A6 (hp a ha)];exact a2,a3⟩
 ·by_cases z:b=p
  ·subst z;rw [upd_same]at q;cases q;exact new
  ·rw [A6 z]at q
   exact(I.hok b v q).stay (fun _ _ _ r=>r) (fun c v _ r=>keep _ _ r) fun c xs r=>keep _ _ r
end
noncomputable def S8 (ks:List D) (d:D):List D:=if d∈ks then ks else ks++[d]
noncomputable def Q0g:List D->List D->List Int
 | _,[]=>[]
 | ks,d::r=>((ks.idxOf d:Nat):Int)::Q0g (S8 ks d) r
theorem Y8g {ks:List D} (hn:ks.Nodup) {j:Nat}{d:D} (e:ks[j]?=some d):ks.idxOf d=j:=by
 obtain⟨hj,e⟩:=aF.mp e
 subst e
 exact hn.idxOf_getElem j hj
section
variable {X:Cx}{o e x':Expr}{apos bc q3 q5:Pos}{i j:Nat}
def Z4n (X:Cx) (i j:Nat):TE:=fun σ H Q=>∃p ks d a,σ[i]?=some (some (V.ref p))/\H p=some (gD X p ks)/\σ[j]?=some (some (V.ref a))/\A3 X.K H d (.ref a)/\Q1 8 d=true/\(∀x∈ks,Q1 8 x.1=true/\A3 X.K H x.1 (.ref x.2))/\ks.length<sizeLine /\
 (d∈ks.map (·.1)->Q (.int ((ks.map (·.1)).idxOf d:Nat)) H)/\(d∉ks.map (·.1)->Q (.int ks.length) (upd H p (gD X p (ks++[(d,a)]))))
theorem W2t (hu:X.A.units+9<cLine) (ho:PE X o (M0 i)) (he:PE X e (M0 j)) (hg:Gl X "len") (hm:X.mg "len"=none) (hx:PE X x' (M0 i)) (m:M2 X o "setdefault" apos e (.Call (.Name "len" q3) [x'] [] q5) bc)
  (hs:starEach [x'] X.env=(false,eval x' X.env)::starEach [] X.env:=by rfl) :
  PE X (.Call (.Attribute o "setdefault" apos) [e,.Call (.Name "len" q3) [x'] [] q5] [] bc) (Z4n X i j):=by
 intro ae s σ H Q I ⟨p,ks,d,a,hp,Hp,ha,ia,kd,hk,hz,q1,q2⟩
 refine wpAny_Call_method m.base m.few m.line PySem.F.plainAttrs_dict du PySem.F.type_dict_setdefault (B2 (ho ae s σ H (fun v H1=>v=.ref p/\H1=H) I ⟨_,hp,rfl,rfl⟩) fun u s1 bp=>?_)
 obtain⟨v,H1,I1,rv,ev,eH⟩:=bp
 subst ev eH
 obtain rfl:u=Value.ref p:=rv
 have g1:GDh X.prog X.w p ks s1.heap:=(I1.hok p _ Hp).1
 obtain⟨_,_,_,D1⟩:=g1.dict I1.hok hk
 refine⟨D1.typeIs,fun b eb=>?_,?_⟩
 ·cases eb
  obtain⟨ob,_,_,h1,h2,_⟩:=D1
  exact⟨ob,h1,h2.2.1⟩
 rw [m.trees]
 have bI:PE X (.Call (.Name "len" q3) [x'] [] q5) _:=Z3d Y6r hg hm rfl (Q1n hx Q3g hs) (he:=hs)
 refine dW rfl (cP (bY (B2 (he ae s1 σ H1 (fun v H2=>v=.ref a/\H2=H1) I1 ⟨_,ha,rfl,rfl⟩) fun iv s2 ⟨y,H2,I2,ry,ey,eH⟩ =>
  bY (B2 (bI ae s2 σ H2 (fun v H3=>v=.int ks.length/\H3=H2) I2 ⟨_,hp,p,ks,rfl,by rw [eH];exact Hp,by rw [eH];exact hk,rfl,rfl⟩) fun fv s3 ⟨z,H3,I3,rz,ez,rm⟩=>dU ?_))))
 subst ey eH ez rm
 obtain rfl:iv=Value.ref a:=ry
 obtain⟨tz,rfl⟩:∃t,fv=Value.int ks.length t:=rz
 have g3:GDh X.prog X.w p ks s3.heap:=(I3.hok p _ Hp).1
 obtain⟨xs,ex,iv,D3⟩:=g3.dict I3.hok hk
 have mf:xs.map (·.1)=ks.map (·.1):=by rw [<- ex,aQ];rfl
 have el:xs.length=ks.length:=by rw [<- ex,ag]
 have nd:(ks.map (·.1)).Nodup:=by obtain⟨_,_,_,_,_,_,_,_,n⟩:=id D3;rw [<- mf];exact n
 refine Y6x (knd:=Z1n X.prog X.w) (show X.A.in1.units+8<cLine by simp only [cW];omega) g3.1 (Z9t I3.hok 8 _ _ _ kd ia rfl) D3 (by rw [el];exact g3.2.1) (fun jj pp hj=>?_) fun jA h' D' sb=>?_
 ·obtain⟨t,et⟩:=iv jj _ hj
  have ek:(ks.map (·.1))[jj]?=some d:=by rw [<- mf,ah,hj];rfl
  have ei:(ks.map (·.1)).idxOf d=jj:=Y8g nd ek
  refine⟨.int ((ks.map (·.1)).idxOf d:Nat),H3,I3.tok _,⟨t,by rw [ei];exact et⟩,q1 (aw ek)⟩
 ·rw [mf]at jA
  refine⟨.int ks.length,_,?_,⟨tz,rfl⟩,q2 jA⟩
  obtain⟨o',es,ep,h1,h2,h3,h4,h5,h6⟩:=D'
  refine Q1x I3 (by rw [Hp];exact True.intro) sb ⟨o',h1⟩ (GDh.ok ⟨g3.1,by rw [aE];show ks.length+1<=_;omega,xs++[(d,a,Value.int ks.length tz)],by rw [cF,ex];rfl,fun n x hx=>?_,o',es,ep,h1,h2,h3,h4,h6⟩)
  by_cases hn:n<xs.length
  ·rw [aJ hn]at hx
   exact iv n x hx
  ·rw [aS (by omega)]at hx
   have e0:n-xs.length=0:=by
    rcases Nat.eq_zero_or_pos (n-xs.length)with z | z
    ·exact z
    ·rw [ip (show [(d,a,Value.int ks.length tz)].length<=n-xs.length from z)]at hx;cases hx
   rw [e0]at hx
   cases hx
   have:n=ks.length:=by omega
   subst this
   exact⟨tz,rfl⟩
theorem W2j {pos:Pos}:PE X (.Dict [] [] pos) (fun σ H Q=>∀p,H p=none->X.s₀.heap.objs.size<=p->Q (.ref p) (upd H p (gD X p []))):=by
 intro ae s σ H Q I h
 refine wpAny_Dict_empty ⟨.ref s.heap.objs.size,_,I.laid (a:=s.heap.objs.size) (o:=gD X s.heap.objs.size []) (t':=s.toks) (fun _ _ q=>af _ q) (ai _) (GDh.ok ?_),rfl,h _ (I.hok.fresh (ai _)) I.sz⟩
 exact⟨bO.mpr (bn (av I.big)),bD _,[],rfl,by intro i x e;simp at e,_,#[],0,aH _ rfl,⟨rfl,rfl,rfl⟩,rfl,rfl,dR⟩
end
section
variable {X:Cx}{H0:Hp}{mk x:Str}{iter:Expr}{scope:Scope}{pos p1 o1 o2 o3 apos bc q3 q5:Pos}{i:Nat}{wi:P5}
noncomputable abbrev Q6a (mk x:Str) (o1 o2 o3 apos bc q3 q5:Pos):Expr:=.Call (.Attribute (.Name x o1) "setdefault" apos) [.Name mk o2,.Call (.Name "len" q3) [.Name x o3] [] q5] [] bc
def W7d (X:Cx) (H0:Hp) (i:Nat) (wi:P5):TE:=fun σ H Q=>∃p H1 τ,σ[i]?=some (some (V.ref p))/\H=upd H1 p (gD X p [])/\H1 p=none/\X.s₀.heap.objs.size<=p/\B4 X.K H0 τ σ H1 /\
 wi τ fun ds=>ds.length<=sizeLine/\(∀d∈ds,Q1 8 d=true/\∃l,d=.tup l)/\∀v H',A5 H1 H'->E4 X.K H1 H' (.nw ((Q0g [] ds).map .int)) v->Q v H'
theorem W2q (hc:X.calm=true) (hu:X.A.units+9<cLine) (B:J7 X scope [mk,x] 1 [i]) (hi:F7 X H0 (.Name mk p1) iter wi)
  (hg:∀C s H fp,PG (blk X scope C s H fp [mk,x]) (.Name mk p1) (Q7p 0)) (he:∀C s H fp,PE (blk X scope C s H fp [mk,x]) (Q6a mk x o1 o2 o3 apos bc q3 q5) (Z4n X 1 0)) (hs:∀x,foldedSetIterable iter X.env x=pure x:=by intro _;rfl) :
  PE X (.ListComp (Q6a mk x o1 o2 o3 apos bc q3 q5) [⟨.Name mk p1,iter,[],0⟩] scope pos) (W7d X H0 i wi):=by
 intro ae s σ H Q I0 ⟨p,H1,τ,hσ,eH,hn1,jx,hR,hw⟩
 subst eH
 rw [eval_ListComp]
 have g0:GDh X.prog X.w p [] s.heap:=(I0.hok p _ upd_same).1
 obtain⟨op,ni,lT⟩:∃o,s.heap.get? p=some o/\∀v,o.data≠.cell v:=by
  obtain⟨_,_,_,_,_,o,es,ep,e,_,d,_⟩:=id g0
  exact⟨o,e,fun v z=>by rw [d]at z;cases z⟩
 have I:=Y8m I0 hn1 (by intro xs z;cases z) (by intro o v z;cases z) (by intro y z;rcases z with z | ⟨_,z⟩ <;> cases z) (by intro ps z;cases z) ni lT (H':=H1)
 have pc:∀x c,X.env.cells.lookup x=some c->c≠p:=fun x c q z=>by have:=I0.freeC x c q;rw [z,upd_same]at this;cases this
 have pp:∀a∈X.pn++ae,a.1≠p:=fun a ha z=>by have:=(I0.pin a ha).2.1;rw [z,upd_same]at this;cases this
 refine wpAny_comprehension_free rfl hs (Q7l fun y hy e=>I.ok.has y.1 (B.free y hy e)) B.kind B.names ?_
 refine B2 (hi.pi ((p,op)::ae) s σ H1 (fun J H2=>A5 H1 H2/\∃ds,YlS X.K J ds H2/\ds.length<=sizeLine/\(∀d∈ds,Q1 8 d=true/\∃l,d=.tup l)/\∀v H',A5 H1 H'->E4 X.K H1 H' (.nw ((Q0g [] ds).map .int)) v->Q v H') I
  ⟨τ,hR,hi.mono τ _ _ (fun ds h J H' sm yl=>⟨sm,ds,yl,h⟩) hw⟩) fun v s1 h1=>B2 h1 fun j9 s2 h2=>?_
 obtain⟨it,gZ,tn,J,H2,e,mC,T,cX,nQ,cN,ds,yl,hz,ql,hq⟩:=h2
 subst e
 obtain⟨jc,gM,pV,pW,_⟩:=mC.pin (p,op) (ak _ aA)
 have I2:A1 X ae σ H2 s2:=mC.pins_of fun a ha=>mC.pin a (ak _ (ax _ ha))
 have k9:∀b∈gZ,K9 X ae H2 b:=fun b hb=>by
  obtain⟨a1,a2,a3,a4,a5,a6⟩:=nQ b hb
  exact⟨a1,a2,a3,a4,a5,fun a ha=>a6 a (by rcases aN.mp ha with z | z;exact bb _ z;exact ak _ (ax _ z))⟩
 have p5:∀b∈gZ,b≠p:=fun b hb z=>(nQ b hb).2.2.2.2.2 (p,op) (ak _ aA) z.symm
 have r8:K9 X ae H2 p:=⟨gM,pV,pW,.inr jx,pc,pp⟩
 generalize hfpe:p::gZ=fp
 have eK:p∈fp:=by rw [<- hfpe];exact aA
 have fL:∀b∈gZ,b∈fp:=fun b hb=>by rw [<- hfpe];exact ax _ hb
 have f2:∀b∈fp,K9 X ae H2 b:=fun b hb=>by
  rw [<- hfpe]at hb
  rcases ao.mp hb with z | z
  ·rw [z];exact r8
  ·exact k9 b z
 have eN:∀b∈fp,b<s2.heap.objs.size:=fun b hb=>by
  rw [<- hfpe]at hb
  rcases ao.mp hb with z | z
  ·rw [z];exact au jc
  ·obtain⟨o,ho,_⟩:=T.obj _ _ cX b z
   exact au ho
 refine bU (fG B.cell (by intro y hy;simp at hy) (fun h₁ cu ci=>?_) B.kind)
 dsimp only at cu ci ⊢
 generalize hH2:s2.heap.push { cls:=.type "list",dict:=none,data:=.seq ([]:List Value).toArray }=Hq at cu ci ⊢
 have hC:Hq.objs.size=s2.heap.objs.size+1:=by rw [<- hH2,br]
 have cE:s2.heap.objs.size≠Hq.objs.size:=by rw [hC];exact av (cm _)
 have ce:s2.heap.objs.size<=Hq.objs.size:=by rw [hC];exact eU _
 have old:∀b o,s2.heap.get? b=some o->h₁.get? b=some o:=fun b o e=>ci.extBut b o (by rw [hC];exact av (bi (au e))) (af _ (hH2 ▸ af _ e))
 have cZ:h₁.PlainList s2.heap.objs.size #[]:=⟨_,ci.extBut _ _ cE (af _ (hH2 ▸ aH _ rfl))⟩
 generalize hCe:Hq.objs.size=C at cu ci hC cE ce ⊢
 generalize hDe:s2.heap.objs.size=D0 at hC cE ce cZ ⊢
 have cB:∀b∈fp,b<D0:=fun b hb=>hDe ▸ eN b hb
 have dj:tn 0 h₁:=T.keep _ _ _ cX fun b _ o e=>old b o e
 have j6:=Q7h (C:=C) (h':=h₁) (t':=s2.toks+([]:List (Str×Value)).length) I2 B f2 eN (by rw [hDe];exact ce) cu old
 have pX:p≠C:=av (az (cB p eK) ce)
 have fD:H2 D0=none:=I2.hok.fresh (by rw [hDe];exact ai _)
 have nJ:D0≠p:=fun z=>by have:=cB p eK;rw [z]at this;exact aR _ this
 have pk:∀x c,(R8 X.env scope.names []).lookup x=some c->c≠p:=fun x c h=>pc x c (V7 I2 B h)
 have rM:=Z1x j6 (p:=p) (u:=gD X p []) gM (.inl eK) pX pk (by intro a ha;simp [blk]at ha) (by
  obtain⟨a,b,xs,c,d,o,es,ep,e,r⟩:=id g0
  have eo:o=op:=by rw [ni]at e;exact(ay e).symm
  subst eo
  exact GDh.ok ⟨a,b,xs,c,d,o,es,ep,old _ _ jc,r⟩)
 have iJ:D0∉frs X.stack:=fun z=>by
  rcases ao.mp (I2.stkSub _ z)with e | e
  ·have:=I2.lt;rw [<- e,hDe]at this;exact aR _ this
  ·exact I2.nofs (by rw [hDe];exact ai _) e
 have iK:∀x c,(R8 X.env scope.names []).lookup x=some c->c≠D0:=fun x c h z=>by
  obtain⟨v,q⟩:=I2.cell x c (V7 I2 B h)
  have:=q.lt
  rw [z,hDe]at this
  exact aR _ this
 have di:∀{pb:Pn9} {σ':St}{H':Hp}{s':Shared}{ys:Array Value}{n:Nat},A1 (blk X scope C s2 H2 fp [mk,x]) pb σ' H' s'->H' D0=none->s'.heap.get? D0=some { cls:=.type "list",data:=.seq ys n } ->
   A1 (blk X scope C s2 H2 fp [mk,x]) [(D0,{ cls:=.type "list",data:=.seq ys n })] σ' H' s':=by
  intro pb σ' H' s' ys n I' n' e
  refine I'.pins_of fun a hp=>?_
  have e':a=(D0,{ cls:=.type "list",data:=.seq ys n }):=by simpa using hp
  subst e'
  exact⟨e,n',cE,iJ,fun v z=>by cases z⟩
 have eR:∀{H':Hp}{ob:Obj},(∀b∈gZ,H' b=none)->∀b∈gZ,K9 (blk X scope C s2 H2 fp [mk,x]) [(D0,ob)] H' b:=by
  intro H' ob hn b hb
  have ft:=fL b hb
  refine⟨hn b hb,(av (az (cB b ft) ce)),fun z=>?_,.inl ft,fun x c h=>(f2 b ft).2.2.2.2.1 x c (V7 I2 B h),fun a hp=>?_⟩
  ·rcases ao.mp (I2.stkSub b z)with e | e
   ·exact(f2 b ft).2.1 e
   ·exact(f2 b ft).2.2.1 e
  ·have e':a=(D0,ob):=by simpa [blk]using hp
   subst e'
   exact(av (cB b ft)).symm
 let io:Nat->Shared->Prop:=fun k s'=>∃(n:Nat) (σ':St) (H':Hp) (ks:List (D×Addr)) (ys:Array Value) (nn:Nat) (vs:List V) (es:List Int),A1 (blk X scope C s2 H2 fp [mk,x]) [(D0,{ cls:=.type "list",data:=.seq ys nn })] σ' H' s'/\σ'[1]?=some (some (V.ref p))/\A5 H2 H'/\tn n s'.heap /\
  (∀b∈gZ,H' b=none)/\H' D0=none/\H' p=some (gD X p ks)/\(∀y∈ks,Q1 8 y.1=true/\A3 X.K H' y.1 (.ref y.2))/\ks.length<=n/\B6 vs ys.toList/\vs=es.map V.int/\n<=ds.length/\k=ds.length-n/\es.length=n/\es++Q0g (ks.map (·.1)) (ds.drop n)=Q0g [] ds
 have loop:∀s₃:Shared,s₃={ s2 with heap:=h₁,toks:=s2.toks+([]:List (Str×Value)).length } ->
   codeAny (model X.prog X.w) X.A (.compLoop (.ListComp (Q6a mk x o1 o2 o3 apos bc q3 q5) [⟨.Name mk p1,iter,[],0⟩] scope pos) 0 (.ref it) (.ref D0) (compEnvC scope (R8 X.env scope.names []) C X.env))
    (compPost (model X.prog X.w) X.A X.xe none (EP X ae σ Q) (.ref D0) C) s₃:=by
  rintro s₃ rfl
  obtain⟨nn,ho⟩:=id cZ
  refine Z1d io ?_ ds.length ⟨0,_,upd H2 p (gD X p []),[],#[],nn,[],[],di rM (by rw [A6 nJ];exact fD) ho,(by show([none]++[(σ[i]?).join]:St)[1]?=_;rw [hσ];rfl),G0 gM _,dj,fun b hb=>by rw [A6 (p5 b hb)];exact(k9 b hb).1,by rw [A6 nJ];exact fD,upd_same,(by intro y hy;cases hy),ai _,.nil,rfl,bD _,rfl,rfl,by simp⟩
  rintro k s3 ⟨n,σ3,H3,ks,ys,nn,vs,es,I3,n9,iC,eD,fb,d3,pZ,nq,rW,i4,kC,rS,rfl,ii,w3⟩
  by_cases bE:n<ds.length
  ·refine aL (T.item (blk X scope C s2 H2 fp [mk,x]) rfl rfl rfl hc n _ s3 σ3 H3 (fun _ _=>False) I3 (eR fb) eD (yl.go H3 iC n bE)) (fun r s4 bp=>?_) fun _ _ z=>z
   obtain⟨u,hr,h4⟩:=bp
   subst hr
   refine aL h4 (fun _ s5 bp=>?_) fun _ _ z=>z
   obtain⟨v5,H5,I5,r5,y5,dq,gY⟩:=bp
   obtain⟨fy,ix⟩:=yl.yld H3 iC n v5 H5 _ (ac bE) y5
   rw [cw bE]at w3
   have hJ:=I5.pinned (eR gY) (T.obj _ _ dq)
   obtain⟨kd,l,ed⟩:=ql ds[n] (b9 bE)
   obtain⟨a5,e5⟩:∃a,v5=.ref a:=by
    have mW:A3 X.K H5 (.tup l) v5:=ed ▸ ix
    unfold A3 at mW
    obtain⟨a,_,e,_⟩:=mW
    exact⟨a,e⟩
   subst e5
   refine aL (hg C s2 H2 fp _ s5 σ3 H5 (.ref a5) u (fun σ6 H6=>σ6=σ3.set 0 (some (.ref a5))/\H6=H5) hJ r5 ⟨rfl,rfl⟩) (fun _ s6 bp=>?_) fun _ _ z=>z
   obtain⟨σ6,H6,I6,e6,rl⟩:=bp
   subst e6 rl
   refine wpAny_tests_nil ?_
   rw [aM rfl]
   have rV:σ3.length=2:=I3.len
   have lD:H6 p=some (gD X p ks):=fy _ _ pZ
   have kz:∀y∈ks,Q1 8 y.1=true/\A3 X.K H6 y.1 (.ref y.2):=fun y hy=>⟨(nq y hy).1,(nq y hy).2.mono (Kp.of fy) _ _⟩
   let R7:V->Hp->Prop:=fun v H7=>∃gn,H7 p=some (gD X p gn)/\(∀y∈gn,Q1 8 y.1=true/\A3 X.K H7 y.1 (.ref y.2))/\gn.length<=n+1/\(∀b u,b≠p->H6 b=some u->H7 b=some u)/\Kp H6 H7/\v=.int (((ks.map (·.1)).idxOf ds[n]:Nat):Int)/\gn.map (·.1)=S8 (ks.map (·.1)) ds[n]
   refine aL (he C s2 H2 fp _ s6 _ H6 R7 I6 ⟨p,ks,ds[n],a5,by rw [aG (by decide)];exact n9,lD,by rw [aY (by omega)],ix,kd,kz,by omega,fun je=>?_,fun jA=>?_⟩) (fun y s8 ⟨v8,H8,I8,iG,gn,pY,qm,qh,oR,rQ,rc,rf⟩=>?_) fun _ _ z=>z
   ·exact⟨ks,lD,kz,by omega,fun _ _ _ q=>q,Kp.refl _,rfl,by unfold S8;rw [aM je]⟩
   ·have kp:Kp H6 (upd H6 p (gD X p (ks++[(ds[n],a5)]))):=Kp.updM lD (by intro xs z;cases z) (by intro o u z;cases z) _
    refine⟨ks++[(ds[n],a5)],upd_same,fun y hy=>?_,by rw [aE];show ks.length+1<=_;omega,fun b u hb q=>by rw [A6 hb];exact q,kp,?_,?_⟩
    ·rcases aN.mp hy with z | z
     ·exact⟨(kz y z).1,(kz y z).2.mono kp _ _⟩
     ·rw [aD.mp z];exact⟨kd,ix.mono kp _ _⟩
    ·rw [List.idxOf_eq_length jA,ag]
    ·unfold S8;rw [aI jA,cF];rfl
   ·have pd:=I8.pin (D0,_) (ak _ (bb _ aA))
    obtain⟨o8,d8,_⟩:=pd
    have ju:ys.size<=sizeLine:=by
     have e1:=i4.length
     have e4:ys.toList.length=ys.size:=by simp
     have e5:vs.length=n:=by rw [kC,ag,ii]
     omega
    refine wpAny_list_append_plain (hsz:=ju) ⟨nn,o8⟩ fun h₅ jC iP=>?_
    have ke:A1 (blk X scope C s2 H2 fp [mk,x]) (U8 gZ s5.heap) (σ3.set 0 (some (.ref a5))) H8 s8:=I8.pins_of fun a ha=>I8.pin a (ak _ (ak _ ha))
    have I9:A1 (blk X scope C s2 H2 fp [mk,x]) (U8 gZ s5.heap) (σ3.set 0 (some (.ref a5))) H8 { s8 with heap:=h₅ }:=by
     refine ke.turned (t':=s8.toks) (it:=D0) (fun b o hb e=>(iP.2 b hb).trans e) d8 cE (.inr (by rw [<- hDe];exact ai _)) iK (fun a hp z=>?_)
     obtain⟨q1,_⟩:=Q6c (by simpa [blk]using hp)
     exact av (cB _ (fL _ q1)) z
    obtain⟨jq,o9⟩:=jC
    have jm:tn (n+1) h₅:=T.keep _ _ _ dq fun b hb o e=>(I9.pin (b,o) (ak _ (Q0u hb e))).1
    refine⟨ds.length-(n+1),by omega,n+1,_,H8,gn,_,jq,vs++[v8],es++[(((ks.map (·.1)).idxOf ds[n]:Nat):Int)],di I9 d8 o9,by rw [aG (by decide)];exact n9,fun b u q=>?_,jm,fun b hb=>?_,d8,pY,qm,qh,?_,?_,bE,rfl,by rw [aE,ii];rfl,?_⟩
    ·have nb:b≠p:=fun z=>by rw [z,gM]at q;cases q
     exact oR b u nb (fy _ _ (iC _ _ q))
    ·obtain⟨o,e,_⟩:=T.obj _ _ dq b hb
     exact(I9.pin (b,o) (ak _ (Q0u hb e))).2.1
    ·have:(ys.push y).toList=ys.toList++[y]:=by simp
     rw [this]
     exact i4.append (.cons iG .nil)
    ·rw [kC,rc,cF];rfl
    ·rw [<- w3,Q0g,rf,eV];rfl
  ·have e:n=ds.length:=by omega
   subst e
   refine aL (T.done (blk X scope C s2 H2 fp [mk,x]) rfl rfl rfl hc ds.length _ s3 σ3 H3 (fun _ _=>False) I3 (eR fb) eD (yl.stop H3 iC)) (fun r s4 bp=>?_) fun _ _ z=>z
   obtain⟨hr,I4⟩:=bp
   subst hr
   have o4:=(I4.pin (D0,_) (ak _ aA)).1
   rw [fJ]at w3
   have w3:es++[]=Q0g [] ds:=w3
   rw [b7]at w3
   obtain⟨m4,iV,_⟩:=id I4.loc
   refine⟨m4,iV,fun h' sb=>?_⟩
   have lp:vs.length<=sizeLine:=by rw [kC,ag,ii];exact hz
   refine⟨.ref D0,_,Z7u I2 I4 f2 (by rw [hDe];exact ce) (by rw [hDe];exact ai _) cE d3 ⟨nn,o4⟩ i4 lp sb,rfl,hq _ _ (cN.trans (iC.trans (G0 d3 _))) ⟨D0,vs,rfl,cN.free fD,upd_same,?_⟩⟩
   rw [kC,<- w3]
   exact AllS.ints
 exact codeAny_compStart_list (loop _ rfl) (T.self _ 0 _ _ _ dj (loop _ rfl))
variable {sp iB dp rp:Pos}
theorem B4.unset {K:Fg9}{H:Hp} {τ:A8} {σ:St} (hR:B4 K H0 τ σ H) (i:Nat) (v:V):B4 K H0 (τ.set i none) (σ.set i (some v)) H:=by
 have at_:∀(j:Nat) (t:Sl),(τ.set i none)[j]?=some (some t)->j≠i/\τ[j]?=some (some t):=fun j t e=>by
  by_cases z:j=i
  ·subst z
   rw [List.getElem?_set_self' ]at e
   cases q:τ[j]? with
   | none=>rw [q]at e;cases e
   | some w=>rw [q]at e;cases e
  ·rw [aG (bn z)]at e;exact⟨z,e⟩
 refine⟨by rw [bg,bg];exact hR.len,hR.same,fun j t e=>?_,fun j k t u w cj e2 e3 m1 m2 q1 q2=>?_⟩
 ·obtain⟨z,e⟩:=at_ j t e
  obtain⟨w,q,r⟩:=hR.here j t e
  exact⟨w,by rw [aG (bn z)];exact q,r⟩
 ·obtain⟨z1,e2⟩:=at_ j t e2
  obtain⟨z2,e3⟩:=at_ k u e3
  rw [aG (bn z1)]at q1
  rw [aG (bn z2)]at q2
  exact hR.apart j k t u w cj e2 e3 m1 m2 q1 q2
noncomputable def Z5h (i:Nat) (wi:P5):WS:=fun E τ=>i<τ.length/\wi (τ.set i none) fun ds=>ds.length<=sizeLine/\(∀d∈ds,Q1 8 d=true/\∃l,d=.tup l)/\E.rt (.nw ((Q0g [] ds).map .int))
theorem A4.numb (hc:X.calm=true) (hu:X.A.units+9<cLine) (B:J7 X scope [mk,x] 1 [i]) (hi:F7 X H0 (.Name mk p1) iter wi)
  (hg:∀C s H fp,PG (blk X scope C s H fp [mk,x]) (.Name mk p1) (Q7p 0)) (he:∀C s H fp,PE (blk X scope C s H fp [mk,x]) (Q6a mk x o1 o2 o3 apos bc q3 q5) (Z4n X 1 0))
  (hN:X.N.Nodup) (jH:X.N[i]?=some x) (hx:Loc X.env.scope x) (hf:X.fn x=true\/X.env.scope.names.lookup x=some .local:=by first | exact .inl rfl | exact .inr rfl | assumption)
  (hs:∀x,foldedSetIterable iter X.env x=pure x:=by intro _;rfl) (fT:swapsWith (.Dict [] [] dp) (some (.Name x iB)) sp.line X.env=pure false:=by rfl) :
  A4 X H0 [.Assign [.Name x iB] (.Dict [] [] dp) sp,.Return (some (.ListComp (Q6a mk x o1 o2 o3 apos bc q3 q5) [⟨.Name mk p1,iter,[],0⟩] scope pos)) rp] (Z5h i wi) where
 mono:=fun τ E F le h=>⟨h.1,hi.mono _ _ _ (fun ds ⟨a,b,c⟩=>⟨a,b,le.rt _ c⟩) h.2⟩
 ps:=Q8r (Y1v (Q3h hN jH hx W2j fT hf) (Y1w (Z3j (W2q hc hu B hi hg he hs)))) fun D σ H ⟨τ,hR,h⟩ p hp jx=>by
  have hl:i<σ.length:=by rw [<- hR.len];exact h.1
  refine⟨p,H,τ.set i none,by rw [aY hl],rfl,hp,jx,hR.unset i _,hi.mono _ _ _ (fun ds ⟨a,b,c⟩=>⟨a,b,fun v H' sm ir=>?_⟩) h.2⟩
  exact c v H' (hR.same.trans sm) (ir.older hR.same)
@[simp] theorem W5z {E:G8} {τ:A8}:Z5h i wi E τ=(i<τ.length/\wi (τ.set i none) fun ds=>ds.length<=sizeLine/\(∀d∈ds,Q1 8 d=true/\∃l,d=.tup l)/\E.rt (.nw ((Q0g [] ds).map .int))):=rfl
end
noncomputable def N5 (K:Fg9) (a:Addr) (kvs:List (B0×D)):Hp->Prop:=fun H=>∃o ps,H a=some (.frz o (.dK ps))/\B5 K H kvs ps
theorem N5.mono {K:Fg9}{a:Addr}{kvs:List (B0×D)}:Q3p (N5 K a kvs):=fun H H' k ⟨o,ps,h,q⟩=>⟨o,ps,k.frz _ _ _ h,q.mono k _ _⟩
section
variable {X:Cx}{ae:Pn9} {σ:St}{H H0:Hp}{s:Shared}{a:Addr}
theorem Z9h {ps:List (B0×V)} (I:A1 X ae σ H s) (h:H a=some (.dK ps)):∃o,A1 X ae σ (upd H a (.frz o (.dK ps))) s:=by
 have ok:=I.hok a _ h
 obtain⟨_,_,_,_,o,_,_,q,_⟩:=id (show K1 X.prog X.w H s.heap a (.dK ps)from ok)
 refine⟨o,I.write (t':=s.toks) (h':=s.heap) (e:=a) (o:=.frz o (.dK ps)) (by rw [h];trivial) (.inl rfl) (fun b u _ k=>k) ⟨_,q⟩ ⟨q,?_⟩⟩
 exact ok
theorem B4.freezeK {K:Fg9} {τ:A8}{i:Nat}{kvs:List (B0×D)}{o:Obj}{ps:List (B0×V)} (hR:B4 K H0 τ σ H) (e1:τ[i]?=some (some (.dk kvs))) (hv:σ[i]?=some (some (.ref a))) (h0:H0 a=none) (sq:H a=some (.dK ps)) (kv:B5 K H kvs ps) :
  B4 K H0 (τ.set i (some (.cl a (N5 K a kvs)))) σ (upd H a (.frz o (.dK ps))):=by
 have kp:Kp H (upd H a (.frz o (.dK ps))):=Kp.updM sq (by intro xs z;cases z) (by intro o u z;cases z) _
 exact hR.mutG e1 rfl hv h0 sq (by intro xs z;cases z) (by intro o u z;cases z) ⟨rfl,⟨o,ps,upd_same,kv.mono kp _ _⟩,N5.mono⟩
end
section
variable {X:Cx}{H0:Hp}{st:Stmt}{w:WS}
theorem Q6f {t:TS} (h:PS X st t):PS X st (fun D σ H=>t { D with nx:=fun σ' H'=>∀ae s,A1 X ae σ' H' s->∃cT,A1 X ae σ' cT s/\D.nx σ' cT } σ H):=by
 intro ae s σ H D I q
 refine B2 (h ae s σ H _ I q) fun f s1 q1=>?_
 cases f with
 | next =>
  obtain⟨σ',H',I',q2⟩:=q1
  obtain⟨cT,rN,q3⟩:=q2 ae s1 I'
  exact⟨σ',cT,rN,q3⟩
 | brk=>exact q1
 | cont=>exact q1
 | ret v=>exact q1
def Z4y (K:Fg9) (i:Nat) (w:WS):WS:=fun E τ=>w { E with nx:=fun τ'=>∃kvs,τ'[i]?=some (some (.dk kvs))/\∀a,E.nx (τ'.set i (some (.cl a (N5 K a kvs)))) } τ
theorem DS.fzK (i:Nat) (h:DS X H0 st w):DS X H0 st (Z4y X.K i w) where
 mono:=fun τ E F le q=>h.mono τ { E with nx:=fun τ'=>∃kvs,τ'[i]?=some (some (.dk kvs))/\∀a,E.nx (τ'.set i (some (.cl a (N5 X.K a kvs)))) } { F with nx:=fun τ'=>∃kvs,τ'[i]?=some (some (.dk kvs))/\∀a,F.nx (τ'.set i (some (.cl a (N5 X.K a kvs)))) } ⟨fun τ' ⟨kvs,e,q⟩=>⟨kvs,e,fun a=>le.nx _ (q a)⟩,le.rt,le.bk,le.ct⟩ q
 ps:=O2 (Q6f h.ps) fun D σ H ⟨τ,hR,q⟩=>⟨τ,hR,h.mono τ { M6 X.K H0 H D with nx:=fun τ'=>∃kvs,τ'[i]?=some (some (.dk kvs))/\∀a,(M6 X.K H0 H D).nx (τ'.set i (some (.cl a (N5 X.K a kvs)))) } _ ⟨fun τ' ⟨kvs,e,q⟩ σ' H' kp cM ae s I=>by
  obtain⟨a,ps,hv,h0,sq,kv⟩:=cM.dkAt e
  obtain⟨o,I2⟩:=Z9h I sq
  exact⟨_,I2,q a σ' _ (kp.trans (Kp.updM sq (by intro xs z;cases z) (by intro o u z;cases z) _)) (cM.freezeK e hv h0 sq kv)⟩,fun _ h=>h,fun _ h=>h,fun _ h=>h⟩ q⟩
end
section
variable {X:Cx}{H0:Hp}{a b c e o tg:Expr}{pos be p2 apos bc:Pos}{wa wb wi we wv:WE}{x:Str}{i:Nat}
def Z5j (K:Fg9) (i:Nat):WS:=fun E τ=>∃kvs,τ[i]?=some (some (.dk kvs))/\∀a,E.rt (.cl a (N5 K a kvs))
theorem DS.retK (he:PE X e (M0 i)):DS X H0 (.Return (some e) pos) (Z5j X.K i) where
 mono:=fun τ E F le ⟨kvs,e1,q⟩=>⟨kvs,e1,fun a=>le.rt _ (q a)⟩
 ps:=by
  intro ae s σ H D I ⟨τ,hR,kvs,e1,q⟩
  obtain⟨a,ps,hv,h0,sq,kv⟩:=hR.dkAt e1
  refine wpAny_Return_some (B2 (he ae s σ H (fun v H1=>v=.ref a/\H1=H) I ⟨_,hv,rfl,rfl⟩) fun u s1 bp=>?_)
  obtain⟨v,H1,I1,rv,ev,eH⟩:=bp
  subst ev eH
  obtain⟨ob,I2⟩:=Z9h I1 sq
  have kp:Kp H1 (upd H1 a (.frz ob (.dK ps))):=Kp.updM sq (by intro xs z;cases z) (by intro o u z;cases z) _
  refine⟨.ref a,σ,_,I2,rv,q a _ _ (fun b ob hb=>?_) ⟨rfl,⟨ob,ps,upd_same,kv.mono kp _ _⟩,N5.mono⟩⟩
  rw [A6 (V9 hb h0)];exact hR.same _ _ hb
def Z5k (i:Nat) (we:WE):WS:=fun E τ=>we τ fun r=>∃a Φ,r=.cl a Φ/\E.nx (τ.set i (some (.cl a Φ)))
theorem DS.setF (he:DE X H0 e we) (hN:X.N.Nodup) (hi:X.N[i]?=some x) (hx:Loc X.env.scope x) (hs:swapsWith e (some (.Name x be)) pos.line X.env=pure false:=by rfl)
  (hf:X.fn x=true\/X.env.scope.names.lookup x=some .local:=by first | exact .inl rfl | exact .inr rfl | assumption):DS X H0 (.Assign [.Name x be] e pos) (Z5k i we) where
 mono:=fun τ E F le h=>he.mono τ _ _ (fun r ⟨a,Φ,e1,q⟩=>⟨a,Φ,e1,le.nx _ q⟩) h
 ps:=O2 (Q3h hN hi hx he.pe hs hf) fun D σ H ⟨τ,hR,h⟩=>⟨τ,hR,he.mono τ _ _ (fun r ⟨a,Φ,e1,q⟩ v H1 s1 ir=>by
  subst e1
  exact q _ _ (Kp.of s1) ((hR.mono s1).set (s:=.cl a Φ) ir fun m=>by cases m)) h⟩
theorem B4.fkAt {K:Fg9}{H:Hp} {τ:A8} {σ:St}{a:Addr}{kvs:List (B0×D)} (hR:B4 K H0 τ σ H) (e1:τ[i]?=some (some (.cl a (N5 K a kvs)))):σ[i]?=some (some (.ref a))/\∃o ps,H a=some (.frz o (.dK ps))/\B5 K H kvs ps:=by
 obtain⟨v,hv,rfl,q,_⟩:=hR.here i _ e1
 exact⟨hv,q⟩
def Q9s (K:Fg9) (i:Nat) (we:WE):WE:=fun τ Q=>∃a kvs,τ[i]?=some (some (.cl a (N5 K a kvs)))/\we τ fun r=>∃kd k d,r=.st kd/\P6 kd=some k/\D8 kvs k=some d/\Q (.st d)
theorem DE.fget (hu:X.A.units+1<cLine) (ho:PE X o (M0 i)) (he:DE X H0 e we) (hs:Q5c e):DE X H0 (.Subscript o e pos) (Q9s X.K i we) where
 mono:=fun τ P Q f ⟨a,kvs,e1,h⟩=>⟨a,kvs,e1,he.mono τ _ _ (fun r ⟨ds,ks,d,a1,a2,a3,a4⟩=>⟨ds,ks,d,a1,a2,a3,f _ a4⟩) h⟩
 pe:=O1 (Z3e hu ho he.pe hs) fun σ H Q ⟨τ,hR,a,kvs,e1,h⟩=>by
  obtain⟨hv,ob,ps,sq,kv⟩:=hR.fkAt e1
  refine⟨_,hv,τ,hR,he.mono τ _ _ (fun r ⟨kd,k,d,a1,a2,a3,a4⟩ v H1 s1 ir=>?_) h⟩
  subst a1
  cases Q2e a2 (show A3 X.K H1 kd v from ir)
  rcases B5.val (k:=k) (kv.mono (Kp.of s1) _ _)with⟨n1,_⟩ | ⟨d',v',n1,n2,n3⟩
  ·rw [a3]at n1;cases n1
  ·rw [a3]at n1;cases n1
   exact⟨a,v',rfl,.inl ⟨ps,k,.inr ⟨ob,s1 _ _ sq⟩,rfl,n2.symm⟩,a4 _ _ s1 n3⟩
def Z4x (K:Fg9) (i:Nat) (we:WE):WE:=fun τ Q=>∃a kvs,τ[i]?=some (some (.cl a (N5 K a kvs)))/\we τ fun r=>∃kd k,r=.st kd/\P6 kd=some k/\Q (.st ((D8 kvs k).getD .non))
theorem DE.fget1 (hu:X.A.units+1<cLine) (ho:PE X o (M0 i)) (he:DE X H0 e we) (m:M1 X o "get" apos e bc):DE X H0 (.Call (.Attribute o "get" apos) [e] [] bc) (Z4x X.K i we) where
 mono:=fun τ P Q f ⟨a,kvs,e1,h⟩=>⟨a,kvs,e1,he.mono τ _ _ (fun r ⟨ds,ks,a1,a2,a4⟩=>⟨ds,ks,a1,a2,f _ a4⟩) h⟩
 pe:=O1 (W2g hu ho he.pe m) fun σ H Q ⟨τ,hR,a,kvs,e1,h⟩=>by
  obtain⟨hv,ob,ps,sq,kv⟩:=hR.fkAt e1
  refine⟨_,hv,a,rfl,.inl ⟨ps,.inr ⟨ob,sq⟩⟩,τ,hR,he.mono τ _ _ (fun r ⟨kd,k,a1,a2,a4⟩ v H1 s1 ir=>?_) h⟩
  subst a1
  cases Q2e a2 (show A3 X.K H1 kd v from ir)
  refine⟨_,.inl ⟨ps,k,.inr ⟨ob,s1 _ _ sq⟩,rfl,rfl⟩,a4 _ _ s1 ?_⟩
  rcases B5.val (k:=k) (kv.mono (Kp.of s1) _ _)with⟨n1,n2⟩ | ⟨d',v',n1,n2,n3⟩
  ·rw [n1,n2];exact A3.s_non (K:=X.K) (H:=H1)
  ·rw [n1,n2];exact n3
def Z5b (i:Nat):WS:=fun E τ=>E.nx (τ.set i (some (.dk [])))
theorem DS.knew (hN:X.N.Nodup) (hi:X.N[i]?=some x) (hx:Loc X.env.scope x) (hs:swapsWith (.Dict [] [] p2) (some (.Name x be)) pos.line X.env=pure false:=by rfl)
  (hf:X.fn x=true\/X.env.scope.names.lookup x=some .local:=by first | exact .inl rfl | exact .inr rfl | assumption):DS X H0 (.Assign [.Name x be] (.Dict [] [] p2) pos) (Z5b i) where
 mono:=fun τ E F le h=>le.nx _ h
 ps:=O2 (Q3h hN hi hx W2k hs hf) fun D σ H ⟨τ,hR,h⟩ p hp=>by
  have sm:A5 H (upd H p (.dK [])):=G0 hp _
  refine h _ _ (Kp.of sm) ((hR.mono sm).set (s:=.dk []) ⟨p,[],rfl,hR.same.free hp,upd_same,rfl⟩ fun _ j t hj e m q=>?_)
  obtain⟨o,ho⟩:=hR.tracked e m q
  rw [hp]at ho;cases ho
def Z5c (i:Nat) (we wv:WE):WS:=fun E τ=>i<τ.length/\we τ fun rk=>∃kd k,rk=.st kd/\P6 kd=some k/\wv τ fun r=>∃d,r=.st d/\E.nx (τ.set i (some (.dk [(k,d)])))
theorem DS.knew1 {v:Expr} (he:DE X H0 e we) (hv:DE X H0 v wv) (hN:X.N.Nodup) (hi:X.N[i]?=some x) (hx:Loc X.env.scope x) (hs:swapsWith (.Dict [some e] [v] p2) (some (.Name x be)) pos.line X.env=pure false:=by rfl)
  (hf:X.fn x=true\/X.env.scope.names.lookup x=some .local:=by first | exact .inl rfl | exact .inr rfl | assumption):DS X H0 (.Assign [.Name x be] (.Dict [some e] [v] p2) pos) (Z5c i we wv) where
 mono:=fun τ E F le h=>⟨h.1,he.mono τ _ _ (fun r ⟨ds,ks,a1,a2,h⟩=>⟨ds,ks,a1,a2,hv.mono τ _ _ (fun r ⟨d,b1,b2⟩=>⟨d,b1,le.nx _ b2⟩) h⟩) h.2⟩
 ps:=O2 (Q3h hN hi hx (W2h (W3b he.pe hv.pe W3c) rfl rfl (by simp) (by simp)) hs hf) fun D σ H ⟨τ,hR,hl,h⟩ p hp=>by
  have sm:A5 H (upd H p (.dK [])):=G0 hp _
  have cD:=hR.mono sm
  refine⟨τ,cD,he.mono τ _ _ (fun rk ⟨kd,k,a1,a2,h⟩ y H1 s1 ik=>?_) h⟩
  subst a1
  have cC:=cD.mono s1
  refine⟨τ,cC,hv.mono τ _ _ (fun r ⟨d,b1,b2⟩ u H2 s2 iv=>?_) h⟩
  subst b1
  cases Q2e a2 (show A3 X.K H1 kd y from ik)
  have ep:=s2 _ _ (s1 _ _ (upd_same (H:=H) (a:=p) (o:=.dK [])))
  refine⟨ep,[(k,u)],rfl,by simp,?_⟩
  have e1:Q4g [] [(k,u)]=[(k,u)]:=rfl
  rw [e1]
  have kp:Kp H2 (upd H2 p (.dK [(k,u)])):=Kp.updM ep (by intro xs z;cases z) (by intro o u z;cases z) _
  have fw:=cC.mono s2
  have h0:H0 p=none:=hR.same.free hp
  have lf:Kp H (upd H2 p (.dK [(k,u)])):=(Kp.of ((sm.trans s1).trans s2)).trans kp
  have je:∀(j:Nat) (t:Sl),τ[j]?=some (some t)->t.mut=true->σ[j]?≠some (some (.ref p)):=fun j t e m q=>by
   obtain⟨o,ho⟩:=hR.tracked e m q
   rw [hp]at ho;cases ho
  have gw:B4 X.K H0 (τ.set i (some (.dk []))) (σ.set i (some (.ref p))) H2:=fw.set (s:=.dk []) ⟨p,[],rfl,h0,ep,rfl⟩ fun _ j t hj e m q=>je j t e m q
  have g1:(τ.set i (some (.dk [])))[i]?=some (some (.dk [])):=aY hl
  have g2:(σ.set i (some (V.ref p)))[i]?=some (some (.ref p)):=aY (by rw [<- hR.len];exact hl)
  have il:=gw.mutG (s':=.dk [(k,d)]) (new:=.dK [(k,u)]) g1 rfl g2 h0 ep (by intro xs z;cases z) (by intro o u z;cases z) ⟨p,[(k,u)],rfl,h0,upd_same,⟨u,[],rfl,A3.mono kp _ _ iv,rfl⟩⟩
  rw [List.set_set]at il
  exact b2 _ _ lf il
def Q9v (i:Nat) (we wv:WE):WS:=fun E τ=>∃kvs,τ[i]?=some (some (.dk kvs))/\we τ fun rk=>∃kd k,rk=.st kd/\P6 kd=some k/\wv τ fun r=>∃d,r=.st d/\kvs.length<sizeLine /\
 E.nx (if (D8 kvs k).isSome=true then τ else τ.set i (some (.dk (kvs++[(k,d)]))))
theorem W2n {f:Expr}{td ty tx:TE} (ho:PE X o td) (he:PE X e ty) (hf:PE X f tx) (m:M2 X o "setdefault" apos e f bc):PE X (.Call (.Attribute o "setdefault" apos) [e,f] [] bc)
  (fun σ H Q=>td σ H fun x H1=>∃a kW,x=.ref a/\H1 a=some (.dK kW)/\ty σ H1 fun y H2=>tx σ H2 fun z H3=>∃ps k,H3 a=some (.dK ps)/\y=kV k/\ps.length<sizeLine/\(∀v,Q9 ps k=some v->Q v H3)/\(Q9 ps k=none->Q z (upd H3 a (.dK (O3 ps k z))))):=by
 intro ae s σ H Q I h
 refine wpAny_Call_method m.base m.few m.line PySem.F.plainAttrs_dict du PySem.F.type_dict_setdefault (B2 (ho ae s σ H _ I h) fun u s1 bp=>?_)
 obtain⟨x,H1,I1,rx,a,kW,ex,ea,q1⟩:=bp
 subst ex
 obtain rfl:u=Value.ref a:=rx
 obtain⟨t1,t2,_⟩:=Z9l I1 (.inl ⟨kW,.inl ea⟩)
 refine⟨t1,t2,?_⟩
 rw [m.trees]
 refine dW rfl (cP (bY (B2 (he ae s1 σ H1 _ I1 q1) fun iv s2 ⟨y,H2,I2,ry,q2⟩ =>
  bY (B2 (hf ae s2 σ H2 _ I2 q2) fun fv s3 ⟨z,H3,I3,rz,ps,k,e3,ey,hz,g1,g2⟩=>dU ?_))))
 subst ey
 obtain⟨z0,hd,vs,rel,dd⟩:=Q7m I3.hok e3
 have el:vs.length=ps.length:=by rw [<- rel.length]
 have rv:=rel.val k
 refine call_meetsIn du dd.typeIs PySem.F.entry_dict_setdefault (PySem.F.args_dict_setdefault_3 _ _ _) (kt_meets_setdefault (K4 X.prog X.w) a (Q2d ry) hd fv) ⟨vs,dd,by omega,fun v hv=>?_,fun hn h' fE hs=>?_⟩
 ·rw [hv]at rv
  cases ev:Q9 ps k with
  | none=>rw [ev]at rv;exact rv.elim
  | some w=>rw [ev]at rv;exact⟨w,H3,I3.tok _,rv,g1 w ev⟩
 ·rw [hn]at rv
  cases ev:Q9 ps k with
  | some w=>rw [ev]at rv;exact rv.elim
  | none =>
   have he:∃q,h'.get? a=some q:=let ⟨q,_,_,hq,_⟩:=fE;⟨q,hq⟩
   have hl:(O3 ps k z).length<=sizeLine:=by have:=Q5s ps k z;omega
   exact⟨z,_,Q1x I3 (by rw [e3];exact True.intro) hs he (Z1g hl hd (rel.put k rz) fE),rz,g2 ev⟩
theorem Y4p {κ:Type} [DecidableEq κ]:∀{kvs:List (κ×D)}{k:κ},D8 kvs k=none->(kvs.any fun kv=>decide (kv.1=k))=false
 | [],_,_=>rfl
 | p::r,k,h=>by
  by_cases e:p.1=k
  ·simp [D8,aZ,e]at h
  ·have:D8 r k=none:=by simpa [D8,aZ,e]using h
   rw [fe,Y4p this];simp [e]
theorem DS.ksetd {v:Expr} (ho:PE X o (M0 i)) (he:DE X H0 e we) (hv:DE X H0 v wv) (m:M2 X o "setdefault" apos e v bc):DS X H0 (.Expr (.Call (.Attribute o "setdefault" apos) [e,v] [] bc) pos) (Q9v i we wv) where
 mono:=fun τ E F le ⟨kvs,e1,h⟩=>⟨kvs,e1,he.mono τ _ _ (fun r ⟨kd,k,a1,a2,h⟩=>⟨kd,k,a1,a2,hv.mono τ _ _ (fun r ⟨d,b1,b2,b3⟩=>⟨d,b1,b2,le.nx _ b3⟩) h⟩) h⟩
 ps:=O2 (Q8q (W2n ho he.pe hv.pe m)) fun D σ H ⟨τ,hR,kvs,e1,h⟩=>by
  obtain⟨a,ps,dg,h0,sq,kv⟩:=hR.dkAt e1
  refine⟨_,dg,a,ps,rfl,sq,τ,hR,he.mono τ _ _ (fun rk ⟨kd,k,a1,a2,h⟩ y H1 s1 ik=>?_) h⟩
  subst a1
  have cD:=hR.mono s1
  refine⟨τ,cD,hv.mono τ _ _ (fun r ⟨d,b1,b2,b3⟩ u H2 s2 iv=>?_) h⟩
  subst b1
  have cC:=cD.mono s2
  have cY:=s2 _ _ (s1 _ _ sq)
  have gm:=(kv.mono (Kp.of s1) _ _).mono (Kp.of s2) _ _
  refine⟨ps,k,cY,Q2e a2 (show A3 X.K H1 kd y from ik),by rw [<- B5.length gm];exact b2,fun v hv=>?_,fun hn=>?_⟩
  ·rcases B5.val (k:=k) gm with⟨n1,n2⟩ | ⟨d',v',n1,n2,n3⟩
   ·rw [hv]at n2;cases n2
   ·rw [n1]at b3
    have b3:(M6 X.K H0 H D).nx τ:=b3
    exact b3 _ _ (Kp.of (s1.trans s2)) cC
  ·rcases B5.val (k:=k) gm with⟨n1,n2⟩ | ⟨d',v',n1,n2,n3⟩
   ·rw [n1]at b3
    have b3:(M6 X.K H0 H D).nx (τ.set i (some (.dk (kvs++[(k,d)])))):=b3
    have kp:Kp H2 (upd H2 a (.dK (O3 ps k u))):=Kp.updM cY (by intro xs z;cases z) (by intro o u z;cases z) _
    have ek:N4 kvs k d=kvs++[(k,d)]:=by unfold N4;rw [aI (by rw [Y4p n1];simp)]
    refine b3 _ _ ((Kp.of (s1.trans s2)).trans kp) (cC.mutG e1 rfl dg h0 cY (by intro xs z;cases z) (by intro o u z;cases z) ⟨a,_,rfl,h0,upd_same,?_⟩)
    rw [<- ek]
    exact B5.mono kp _ _ (B5.put iv gm)
   ·rw [hn]at n2;cases n2
end
theorem Z7v {X:Cx}{ae:Pn9} {σ:St}{H2 H':Hp}{s2 s1:Shared}{scope:Scope}{C D0:Addr}{fp:List Addr}{N:List Str}{pb:Pn9} {σ':St}{h':Heap}{u0:HO}
  (I2:A1 X ae σ H2 s2) (Ib:A1 (blk X scope C s2 H2 fp N) pb σ' H' s1) (f2:∀b∈fp,K9 X ae H2 b) (hC:s2.heap.objs.size<=C) (hD:s2.heap.objs.size<=D0) (m8:H' D0=none)
  (sb:Heap.SameBut C s1.heap h') (new:K1 X.prog X.w (upd H' D0 u0) h' D0 u0):A1 X ae σ (upd H' D0 u0) { s1 with heap:=h' }:=by
 have iL:∀b o,s2.heap.get? b=some o->b≠C:=fun b o e=>av (az (au e) hC)
 have l7:∀b o,s2.heap.get? b=some o->b≠D0:=fun b o e=>av (az (au e) hD)
 have keep:=Z9e sb
 have base:Un (frs X.stack) fp H2 H' s2.heap s1.heap:=Ib.base
 have md:H' C=none:=Ib.free
 have gk:∀b u,H' b=some u->b≠C:=fun b u e z=>by rw [z,md]at e;cases e
 have fQ:∀b u,H' b=some u->b≠D0:=fun b u e z=>by rw [z,m8]at e;cases e
 refine I2.call' (s':={ s1 with heap:=h' }) (ch:=fp) Ib.os ⟨fun b o e n hb hx=>keep b o (iL b o e) (base.keep b o e n hb hx),fun b o e n hb hx=>?_,fun b o e n hx=>?_,fun b o e hx=>?_,fun b xs e=>?_,fun b o u e=>?_,fun b ps e=>?_⟩ (fun b u e=>?_) Ib.bare (fun b hb=>?_)
 ·obtain⟨sl,q⟩:=base.slot b o e n hb hx
  exact⟨sl,keep b _ (iL b o e) q⟩
 ·rw [A6 (l7 b o e)];exact base.free b o e n hx
 ·obtain⟨o',q⟩:=base.there b o e hx
  exact⟨o',keep b o' (iL b o e) q⟩
 ·have q:=base.tups b xs e
  rw [A6 (fQ b _ q)];exact q
 ·have q:=base.frzs b o u e
  rw [A6 (fQ b _ q)];exact q
 ·obtain⟨more,q⟩:=base.tbls b ps e
  exact⟨more,by rw [A6 (fQ b _ q)];exact q⟩
 ·by_cases hb:b=D0
  ·subst hb
   rw [upd_same]at e;cases e
   exact new
  ·rw [A6 hb]at e
   refine(Ib.hok b u e).stay (fun c v hc q=>keep c v ?_ q) (fun c u _ q=>by rw [A6 (fQ c _ q)];exact q) fun c xs q=>by rw [A6 (fQ c _ q)];exact q
   rcases hc with z | z
   ·rw [z];exact gk b u e
   ·exact gk c _ z
 ·obtain⟨_,a2,a3,a4,a5,a6⟩:=f2 b hb
  exact⟨a4,a2,a5,a6⟩
section
variable {prog:Program}{w:World}{A:Around}{RR:Result->Shared->Prop}{s:Shared}
theorem Y7f {kx vx target iter:Expr}{scope:Scope}{pos:Pos}{it:Value}{D0:Addr}{env:Env} (I:Nat->Shared->Prop)
  (eG:∀n s,I n s->wpAny (model prog w) A (pyNext it) (fun r s₁=>match r with
   | none=>RR (.ok .next) s₁
   | some v=>wpAny (model prog w) A (letOwnedTupleGo target it v) (fun _ sa=>wpAny (model prog w) A (assign target env v) (fun _ s₃ =>
     wpAny (model prog w) A (eval kx env) (fun x s₄=>wpAny (model prog w) A (eval vx env) (fun y s₅ =>
       wpAny (model prog w) A (dictSet D0 x y) (fun _ s₆=>∃m,m<n/\I m s₆) (fun _ _=>False) s₅) (fun _ _=>False) s₄) (fun _ _=>False) s₃) (fun _ _=>False) sa) (fun _ _=>False) s₁) (fun _ _=>False) s)
  (n:Nat) (h:I n s):codeAny (model prog w) A (.compLoop (.DictComp kx vx [⟨target,iter,[],0⟩] scope pos) 0 it (.ref D0) env) RR s:=by
 refine codeAny_loop rfl I (fun n s hI=>?_) n h
 change wpAny (model prog w) A ((compTurn (.DictComp kx vx [⟨target,iter,[],0⟩] scope pos) 0 it (Value.ref D0) env).onRaise (fun x=>do noteFrame x env;theTreesLotGoes x)) _ _ s
 refine wpAny_noted ?_
 rw [compTurn_dict]
 refine aa (wpAny_standAt (aa (aL (eG n s hI) (fun r s₁ h₁=>?_) fun _ _ h'=>h'.elim)))
 cases r with
 | none=>exact aq h₁
 | some v =>
  refine aa (aL h₁ (fun _ sa ha=>aa (aL ha (fun _ s₃ h₃=>aa (wpAny_tests_nil ?_)) fun _ _ h'=>h'.elim)) fun _ _ h'=>h'.elim)
  exact aa (aa (aL h₃ (fun x s₄ h₄=>aa (bJ (aL h₄ (fun y s₅ h₅=>aa (wpAny_standAt (bJ (aL h₅ (fun _ s₆ h₆=>aq ⟨rfl,h₆⟩) fun _ _ h'=>h'.elim)))) fun _ _ h'=>h'.elim))) fun _ _ h'=>h'.elim))
end
noncomputable def V8 (g:WG) (wk wv:WE):List D->A8->List (B0×D)->(List (B0×D)->Prop)->Prop
 | [],_,kvs,Q=>Q kvs
 | d::ds,τ,kvs,Q=>g d τ fun τ'=>wk τ' fun r=>∃kd k,r=.st kd/\P6 kd=some k/\wv τ' fun r2=>∃e,r2=.st e/\V8 g wk wv ds τ' (N4 kvs k e) Q
theorem Z8f {g:WG}{wk wv:WE} (hg:∀d τ (P Q:A8->Prop),(∀ τ,P τ->Q τ)->g d τ P->g d τ Q) (hk:∀(τ:A8) (P Q:R->Prop),(∀r,P r->Q r)->wk τ P->wk τ Q) (hv:∀(τ:A8) (P Q:R->Prop),(∀r,P r->Q r)->wv τ P->wv τ Q) :
  ∀(ds:List D) (τ:A8) (kvs:List (B0×D)) (P Q:List (B0×D)->Prop),(∀es,P es->Q es)->V8 g wk wv ds τ kvs P->V8 g wk wv ds τ kvs Q
 | [],_,_,_,_,f,h=>f _ h
 | d::ds,τ,kvs,P,Q,f,h=>hg d τ _ _ (fun τ' h=>hk τ' _ _ (fun r ⟨kd,k,e1,e2,h⟩=>⟨kd,k,e1,e2,hv τ' _ _ (fun r ⟨e,e1,h⟩=>⟨e,e1,Z8f hg hk hv ds τ' _ _ _ f h⟩) h⟩) h) h
section
variable {X:Cx}{H0:Hp}{tg iter kx vx:Expr}{scope:Scope}{pos be fh:Pos}{N:List Str}{nt:Nat}{cap:List Nat}{wi:P5}{g:WG}{wk wv:WE}
theorem Y9a {use:Option (Value->Sem Unit)}{QQ:VS9}{P:List (B0×D)->Prop}{fP:Pos}{ae:Pn9}{s:Shared} {σ:St}{H:Hp} {τ:A8} (hc:X.calm=true) (B:J7 X scope N nt cap) (hi:F7 X H0 tg iter wi)
  (hg:∀C s H fp,DG (blk X scope C s H fp N) H tg g) (hk:∀C s H fp,DE (blk X scope C s H fp N) H kx wk) (hv:∀C s H fp,DE (blk X scope C s H fp N) H vx wv) (hs:∀x,foldedSetIterable iter X.env x=pure x)
  (I:A1 X ae σ H s) (hR:B4 X.K H0 τ σ H) (hw:wi τ fun ds=>ds.length<sizeLine/\V8 g wk wv ds (R5 nt cap τ) [] P)
  (fin:∀(C D0:Addr) (s2 s4:Shared) (H2 H4:Hp) (fp:List Addr) (pb:Pn9) (σ4:St) (ps:List (B0×V)) (vs:List (B0×Value)) (kvs:List (B0×D)) (f:Flow),A1 X ae σ H2 s2->A5 H H2->A1 (blk X scope C s2 H2 fp N) pb σ4 H4 s4->(∀b∈fp,K9 X ae H2 b) ->
   s2.heap.objs.size<=C->s2.heap.objs.size<=D0->D0≠C->H4 D0=none->(D0==sysModules)=false->s4.heap.DictOf (K4 X.prog X.w) D0 vs->KV ps vs->ps.length<=sizeLine->A5 H2 H4->B5 X.K H4 kvs ps->P kvs->compPost (model X.prog X.w) X.A X.xe use QQ (.ref D0) C (.ok f) s4) :
  wpAny (model X.prog X.w) X.A (comprehension (.DictComp kx vx [⟨tg,iter,[],0⟩] scope pos) scope X.env fP newDict false (eval iter X.env) use) QQ X.xe s:=by
 refine wpAny_comprehension_free rfl hs (Q7l fun y hy e=>I.ok.has y.1 (B.free y hy e)) B.kind B.names ?_
 refine B2 (hi.pi ae s σ H (fun J H2=>A5 H H2/\∃ds,YlS X.K J ds H2/\ds.length<sizeLine/\V8 g wk wv ds (R5 nt cap τ) [] P) I
  ⟨τ,hR,hi.mono τ _ _ (fun ds h J H' sm yl=>⟨sm,ds,yl,h.1,h.2⟩) hw⟩) fun v s1 h1=>B2 h1 fun j9 s2 h2=>?_
 obtain⟨it,fp,tn,J,H2,e,I2,T,cX,f2,cN,ds,yl,hz,iO⟩:=h2
 subst e
 have eN:∀b∈fp,b<s2.heap.objs.size:=fun b hb=>by
  obtain⟨o,ho,_⟩:=T.obj _ _ cX b hb
  exact au ho
 have cC:=hR.mono cN
 have gK:(s2.heap.objs.size==sysModules)=false:=bO.mpr (bn (av I2.big))
 refine bU (fG B.cell (by intro y hy;simp at hy) (fun h₁ cu ci=>?_) B.kind)
 dsimp only at cu ci ⊢
 have gO:(s2.heap.push { cls:=.type "dict",dict:=none,data:=.dict #[] }).DictOf (K4 X.prog X.w) s2.heap.objs.size []:=Heap.DictOf.new s2.heap
 generalize hH2:s2.heap.push { cls:=.type "dict",dict:=none,data:=.dict #[] }=Hq at cu ci gO ⊢
 have hC:Hq.objs.size=s2.heap.objs.size+1:=by rw [<- hH2,br]
 have cE:s2.heap.objs.size≠Hq.objs.size:=by rw [hC];exact av (cm _)
 have ce:s2.heap.objs.size<=Hq.objs.size:=by rw [hC];exact eU _
 have old:∀b o,s2.heap.get? b=some o->h₁.get? b=some o:=fun b o e=>ci.extBut b o (by rw [hC];exact av (bi (au e))) (af _ (hH2 ▸ af _ e))
 have cZ:h₁.DictOf (K4 X.prog X.w) s2.heap.objs.size []:=gO.at fun o e=>ci.extBut _ _ cE (af _ e)
 generalize hCe:Hq.objs.size=C at cu ci hC cE ce ⊢
 generalize hDe:s2.heap.objs.size=D0 at hC cE ce cZ gK ⊢
 have cB:∀b∈fp,b<D0:=fun b hb=>hDe ▸ eN b hb
 have dj:tn 0 h₁:=T.keep _ _ _ cX fun b _ o e=>old b o e
 have j6:=Q7h (C:=C) (h':=h₁) (t':=s2.toks+([]:List (Str×Value)).length) I2 B f2 eN (by rw [hDe];exact ce) cu old
 have fD:H2 D0=none:=I2.hok.fresh (by rw [hDe];exact ai _)
 have iJ:D0∉frs X.stack:=fun z=>by
  rcases ao.mp (I2.stkSub _ z)with e | e
  ·have:=I2.lt;rw [<- e,hDe]at this;exact aR _ this
  ·exact I2.nofs (by rw [hDe];exact ai _) e
 have iK:∀x c,(R8 X.env scope.names []).lookup x=some c->c≠D0:=fun x c h z=>by
  obtain⟨v,q⟩:=I2.cell x c (V7 I2 B h)
  have:=q.lt
  rw [z,hDe]at this
  exact aR _ this
 have kb:∀{h:Heap}{vs:List (B0×Value)}{o:Obj},h.DictOf (K4 X.prog X.w) D0 vs->h.get? D0=some o->∀v,o.data≠.cell v:=by
  intro h vs o dd e v z
  obtain⟨o',es,ep,e',_,d,_⟩:=dd
  rw [e]at e';cases e'
  rw [d]at z;cases z
 have di:∀{pb:Pn9} {σ':St}{H':Hp}{s':Shared}{vs:List (B0×Value)}{o:Obj},A1 (blk X scope C s2 H2 fp N) pb σ' H' s'->H' D0=none->s'.heap.DictOf (K4 X.prog X.w) D0 vs->s'.heap.get? D0=some o ->
   A1 (blk X scope C s2 H2 fp N) [(D0,o)] σ' H' s':=by
  intro pb σ' H' s' vs o I' n' dd e
  refine I'.pins_of fun p hp=>?_
  have e':p=(D0,o):=by simpa using hp
  subst e'
  exact⟨e,n',cE,iJ,kb dd e⟩
 have eR:∀{H':Hp}{ob:Obj},(∀b∈fp,H' b=none)->∀b∈fp,K9 (blk X scope C s2 H2 fp N) [(D0,ob)] H' b:=by
  intro H' ob hn b hb
  refine⟨hn b hb,(av (az (cB b hb) ce)),fun z=>?_,.inl hb,fun x c h=>(f2 b hb).2.2.2.2.1 x c (V7 I2 B h),fun p hp=>?_⟩
  ·rcases ao.mp (I2.stkSub b z)with e | e
   ·exact(f2 b hb).2.1 e
   ·exact(f2 b hb).2.2.1 e
  ·have e':p=(D0,ob):=by simpa [blk]using hp
   subst e'
   exact(av (cB b hb)).symm
 let io:Nat->Shared->Prop:=fun k s'=>∃(i:Nat) (σ':St) (H':Hp) (τ':A8) (ob:Obj) (vs:List (B0×Value)) (ps:List (B0×V)) (kvs:List (B0×D)),A1 (blk X scope C s2 H2 fp N) [(D0,ob)] σ' H' s'/\B4 X.K H2 τ' σ' H'/\tn i s'.heap /\
  (∀b∈fp,H' b=none)/\H' D0=none/\s'.heap.get? D0=some ob/\s'.heap.DictOf (K4 X.prog X.w) D0 vs/\KV ps vs/\B5 X.K H' kvs ps/\i<=ds.length/\k=ds.length-i/\ps.length<=i/\V8 g wk wv (ds.drop i) τ' kvs P
 have loop:∀s₃:Shared,s₃={ s2 with heap:=h₁,toks:=s2.toks+([]:List (Str×Value)).length } ->
   codeAny (model X.prog X.w) X.A (.compLoop (.DictComp kx vx [⟨tg,iter,[],0⟩] scope pos) 0 (.ref it) (.ref D0) (compEnvC scope (R8 X.env scope.names []) C X.env))
    (compPost (model X.prog X.w) X.A X.xe use QQ (.ref D0) C) s₃:=by
  rintro s₃ rfl
  obtain⟨oY,ho⟩:∃o,h₁.get? D0=some o:=by obtain⟨o,_,_,e,_⟩:=id cZ;exact⟨o,e⟩
  refine Y7f io ?_ ds.length ⟨0,_,H2,R5 nt cap τ,oY,[],[],[],di j6 fD cZ ho,Z3m cC nt cap,dj,fun b hb=>(f2 b hb).1,fD,ho,cZ,.nil,rfl,bD _,rfl,ai _,by simpa using iO⟩
  rintro k s3 ⟨i,σ3,H3,τ3,ob,vs,ps,kvs,I3,R3,eD,fb,d3,o3,oi,kT,mU,nr,rfl,ii,w3⟩
  have bT:A5 H2 H3:=R3.same
  by_cases bE:i<ds.length
  ·refine aL (T.item (blk X scope C s2 H2 fp N) rfl rfl rfl hc i _ s3 σ3 H3 (fun _ _=>False) I3 (eR fb) eD (yl.go H3 bT i bE)) (fun r s4 bp=>?_) fun _ _ z=>z
   obtain⟨u,hr,h4⟩:=bp
   subst hr
   refine aL h4 (fun _ s5 bp=>?_) fun _ _ z=>z
   obtain⟨x,H5,I5,r5,y5,dq,gY⟩:=bp
   obtain⟨fy,ix⟩:=yl.yld H3 bT i x H5 _ (ac bE) y5
   rw [cw bE]at w3
   have hJ:=I5.pinned (eR gY) (T.obj _ _ dq)
   refine aL ((hg C s2 H2 fp).pg _ s5 σ3 H5 x u (fun σ6 H6=>∃ τ6,B4 X.K H2 τ6 σ6 H6/\A5 H5 H6/\wk τ6 fun r=>∃kd k,r=.st kd/\P6 kd=some k/\wv τ6 fun r2=>∃e,r2=.st e/\V8 g wk wv (ds.drop (i+1)) τ6 (N4 kvs k e) P)
    hJ r5 ⟨τ3,ds[i],R3.mono fy,ix,(hg C s2 H2 fp).mono _ _ _ _ (fun τ6 h6 σ6 H6 fN R6=>⟨τ6,R6,fN,h6⟩) w3⟩) (fun _ s6 ⟨σ6,H6,I6,τ6,R6,fN,w6⟩=>?_) fun _ _ z=>z
   refine aL ((hk C s2 H2 fp).pe _ s6 σ6 H6 (fun v H7=>A5 H6 H7/\∃kd k,A3 X.K H7 kd v/\P6 kd=some k/\wv τ6 fun r2=>∃e,r2=.st e/\V8 g wk wv (ds.drop (i+1)) τ6 (N4 kvs k e) P) I6
    ⟨τ6,R6,(hk C s2 H2 fp).mono τ6 _ _ (fun r ⟨kd,k,e1,e2,h⟩ v H7 fx ir=>⟨fx,kd,k,by subst e1;exact ir,e2,h⟩) w6⟩) (fun yk s7 ⟨v7,H7,I7,kQ,fx,kd,k,pM,rg,w7⟩=>?_) fun _ _ z=>z
   refine aL ((hv C s2 H2 fp).pe _ s7 σ6 H7 (fun v H8=>A5 H7 H8/\∃e,A3 X.K H8 e v/\V8 g wk wv (ds.drop (i+1)) τ6 (N4 kvs k e) P) I7
    ⟨τ6,R6.mono fx,(hv C s2 H2 fp).mono τ6 _ _ (fun r ⟨e,e1,h⟩ v H8 fM ir=>⟨fM,e,by subst e1;exact ir,h⟩) w7⟩) (fun yv s8 ⟨v8,H8,I8,iG,fM,e8,lh,w8⟩=>?_) fun _ _ z=>z
   have pd:=I8.pin (D0,ob) (ak _ (bb _ aA))
   obtain⟨o8,d8,_⟩:=pd
   have ke:A1 (blk X scope C s2 H2 fp N) (U8 fp s5.heap) σ6 H8 s8:=I8.pins_of fun p hp=>I8.pin p (ak _ (ak _ hp))
   have rn:s8.heap.DictOf (K4 X.prog X.w) D0 vs:=oi.at fun o e=>by rw [o3]at e;cases e;exact o8
   have el:vs.length=ps.length:=by rw [<- kT.length]
   cases Q2e rg pM
   refine wpAny_dictSet_pairs (hsz:=by omega) (Q2d kQ) rn fun h₅ mq iP=>?_
   have I9:A1 (blk X scope C s2 H2 fp N) (U8 fp s5.heap) σ6 H8 { s8 with heap:=h₅,toks:=s8.toks+1 }:=by
    refine ke.turned (t':=s8.toks+1) (it:=D0) (fun b o hb e=>(iP.2 b hb).trans e) d8 cE (.inr (by rw [<- hDe];exact ai _)) iK (fun p hp z=>?_)
    obtain⟨q1,_⟩:=Q6c (by simpa [blk]using hp)
    exact av (cB _ q1) z
   obtain⟨oX,o9⟩:∃o,h₅.get? D0=some o:=by obtain⟨o,_,_,e,_⟩:=id mq;exact⟨o,e⟩
   have oU:A5 H3 H8:=fy.trans (fN.trans (fx.trans fM))
   have jm:tn (i+1) h₅:=T.keep _ _ _ dq fun b hb o e=>(I9.pin (b,o) (ak _ (Q0u hb e))).1
   refine⟨ds.length-(i+1),by omega,i+1,σ6,H8,τ6,oX,stored vs k yv,O3 ps k v8,N4 kvs k e8,di I9 d8 mq o9,R6.mono (fx.trans fM),jm,fun b hb=>?_,d8,o9,mq,kT.put k iG,B5.put lh (mU.mono (Kp.of oU) _ _),bE,rfl,?_,w8⟩
   ·obtain⟨o,e,_⟩:=T.obj _ _ dq b hb
    exact(I9.pin (b,o) (ak _ (Q0u hb e))).2.1
   ·have:=Q5s ps k v8;omega
  ·have e:i=ds.length:=by omega
   subst e
   refine aL (T.done (blk X scope C s2 H2 fp N) rfl rfl rfl hc ds.length _ s3 σ3 H3 (fun _ _=>False) I3 (eR fb) eD (yl.stop H3 bT)) (fun r s4 bp=>?_) fun _ _ z=>z
   obtain⟨hr,I4⟩:=bp
   subst hr
   have o4:=(I4.pin (D0,_) (ak _ aA)).1
   rw [fJ]at w3
   have rq:s4.heap.DictOf (K4 X.prog X.w) D0 vs:=oi.at fun o e=>by rw [o3]at e;cases e;exact o4
   exact fin C D0 s2 s4 H2 H3 fp _ σ3 ps vs kvs _ I2 cN I4 f2 (by rw [hDe];exact ce) (by rw [hDe];exact ai _) cE d3 gK rq kT (by omega) bT mU w3
 exact codeAny_compStart_dict (loop _ rfl) (T.self _ 0 _ _ _ dj (loop _ rfl))
def Z5a (i nt:Nat) (cap:List Nat) (wi:P5) (g:WG) (wk wv:WE):WS:=fun E τ=>wi τ fun ds=>ds.length<sizeLine/\V8 g wk wv ds (R5 nt cap τ) [] fun kvs=>E.nx (τ.set i (some (.dk kvs)))
theorem DS.setKC {i:Nat}{x:Str} (hc:X.calm=true) (B:J7 X scope N nt cap) (hi:F7 X H0 tg iter wi) (hg:∀C s H fp,DG (blk X scope C s H fp N) H tg g) (hk:∀C s H fp,DE (blk X scope C s H fp N) H kx wk)
  (hv:∀C s H fp,DE (blk X scope C s H fp N) H vx wv) (hN:X.N.Nodup) (jH:X.N[i]?=some x) (hx:Loc X.env.scope x)
  (fT:swapsWith (.DictComp kx vx [⟨tg,iter,[],0⟩] scope pos) (some (.Name x be)) fh.line X.env=pure true:=by rfl) (hs:∀x,foldedSetIterable iter X.env x=pure x:=by intro _;rfl)
  (hf:X.fn x=true\/X.env.scope.names.lookup x=some .local:=by first | exact .inl rfl | exact .inr rfl | assumption) :
  DS X H0 (.Assign [.Name x be] (.DictComp kx vx [⟨tg,iter,[],0⟩] scope pos) fh) (Z5a i nt cap wi g wk wv) where
 mono:=fun τ E F le h=>hi.mono τ _ _ (fun ds h=>⟨h.1,Z8f (hg 0 X.s₀ X.H₀ []).mono (hk 0 X.s₀ X.H₀ []).mono (hv 0 X.s₀ X.H₀ []).mono ds _ _ _ _ (fun es h=>le.nx _ h) h.2⟩) h
 ps:=by
  intro ae s σ H D I ⟨τ,hR,hw⟩
  rw [exec_Assign_Name_used _ _ _ _ fT]
  refine aa (wpAny_standAt (aa ?_))
  change wpAny (model X.prog X.w) X.A (do let _ <- comprehension (.DictComp kx vx [⟨tg,iter,[],0⟩] scope pos) scope X.env _ newDict false (eval iter X.env) (some (assign (.Name x be) X.env))) _ _ s
  refine aa (aL (Y9a (use:=some (assign (.Name x be) X.env)) (QQ:=fun _ s'=>SP X ae D .next s') hc B hi hg hk hv hs I hR hw fun C D0 s2 s4 H2 H4 fp pb σ4 ps vs kvs f I2 cN I4 f2 hC hD cE hn gK dd rk hz gE kv w3=>?_)
   (fun _ s' hq=>aq (aq hq)) fun _ _ e=>e)
  have Ib:A1 X ae σ (upd H4 D0 (.dK ps)) { s4 with heap:=s4.heap }:=Z7v I2 I4 f2 hC hD hn ⟨rfl,fun _ _=>rfl⟩ ⟨hz,gK,vs,rk,dd⟩
  have jY:C≠X.env.locals:=fun z=>aR _ (az I2.lt (z ▸ hC))
  have jX:∀x c,X.env.cells.lookup x=some c->c≠C:=fun x c h z=>by
   obtain⟨v,q⟩:=I2.cell x c h
   exact aR _ (az q.lt (z ▸ hC))
  change wpAny (model X.prog X.w) X.A (assign (.Name x be) X.env (Value.ref D0)) _ _ s4
  refine wpAny_assign_Name (Z4j (v:=.ref D0) Ib hN jH hx rfl (fun s5 I5 bp=>?_) hf)
  obtain⟨a,kO,ha⟩:=bp
  obtain⟨m4,iV,_⟩:=id I4.loc
  have m9:C≠a:=by
   rcases ha with ha | ha
   ·rw [ha];exact jY
   ·exact fun z=>jX _ _ ha z.symm
  refine⟨m4,iV.sameBut kO m9,fun h' sb=>?_⟩
  have ma:H4 C=none:=I4.free
  have I6:A1 X ae (σ.set i (some (.ref D0))) (upd H4 D0 (.dK ps)) { s5 with heap:=h' }:=by
   refine I5.turned (t':=s5.toks) (it:=C) (fun b o hb e=>(sb.2 b hb).trans e) (by rw [A6 (bn cE)];exact ma) jY (.inr (aX I2.sz hC)) jX fun p hp z=>?_
   have:=(I2.pin p hp).1
   exact aR _ (az (au this) (z ▸ hC))
  have fi:A5 H (upd H4 D0 (.dK ps)):=cN.trans (gE.trans (G0 hn _))
  have cM:=(hR.mono fi).set (i:=i) (s:=.dk kvs) (v:=.ref D0) ⟨D0,ps,rfl,hR.same.free (cN.free (I2.hok.fresh hD)),upd_same,kv.mono (Kp.of (G0 hn _)) _ _⟩ fun _ j t hj e m q=>by
   obtain⟨o,ho⟩:=hR.tracked e m q
   rw [cN.free (I2.hok.fresh hD)]at ho;cases ho
  exact⟨_,_,I6,w3 _ _ (Kp.of fi) cM⟩
end
noncomputable def kyD:B0->D
 | .inl i=>.int i
 | .inr x=>.str x
noncomputable def Q3a:List R->(R->Prop)->Prop
 | [.dk kvs],Q=>Q (.nw (kvs.map fun p=>kyD p.1))
 | _,_=>False
theorem Z9x {rs:List R}{Q:R->Prop} (h:Q3a rs Q):∃kvs,rs=[.dk kvs]/\Q (.nw (kvs.map fun p=>kyD p.1)):=by
 unfold Q3a at h
 split at h
 ·exact⟨_,rfl,h⟩
 ·exact h.elim
theorem Y9u:Q2u Q3a:=fun x P Q g h=>by
 obtain⟨kvs,rfl,h⟩:=Z9x h
 exact g _ h
theorem Z0w {K:Fg9}{H:Hp}:∀(ps:List (B0×V)),AllS K H (ps.map fun p=>kyD p.1) (ps.map fun p=>kV p.1)
 | []=>AllS.nil
 | (.inl i,v)::r=>AllS.cons A3.s_int (Z0w r)
 | (.inr x,v)::r=>AllS.cons A3.s_str (Z0w r)
theorem B5.keysEq {K:Fg9}{H:Hp}:∀{kvs:List (B0×D)}{ps:List (B0×V)},B5 K H kvs ps->(kvs.map fun p=>kyD p.1)=ps.map fun p=>kyD p.1
 | [],ps,h=>by unfold B5 at h;subst h;rfl
 | p::kvs,ps,h=>by
  unfold B5 at h
  obtain⟨v,r,rfl,iv,h⟩:=h
  rw [ar,ar,B5.keysEq h]
section
variable {X:Cx}
theorem Y6u (hc:X.calm=true):Q2q X (.type "list") Q3a:=by
 intro ae s σ H xs us Q I rv ⟨rs,cx,h⟩
 obtain⟨kvs,rfl,h⟩:=Z9x h
 obtain⟨v,rfl,ir⟩:=Q0a cx
 obtain⟨a,ps,rfl,e,kv⟩:=ir
 obtain⟨u,rfl,ru⟩:=Z8 rv
 cases ru
 obtain⟨z,hd,vs,rel,dd⟩:=Q7m I.hok e
 obtain⟨ep,da⟩:=dd.dictAt
 have el:vs.length=ps.length:=by rw [<- rel.length]
 refine PySem.W.kdl_call (PySem.W.kdl_dict (knd:=K4 X.prog X.w) (kvs:=vs) (ep:=ep) hd) (I.ok.hd hc) da (by omega) fun h' tk c7 c' k e2 it=>?_
 have hn:H s.heap.objs.size=none:=I.hok.fresh (ai _)
 have vl:B6 (ps.map fun p=>kV p.1) c7.toList:=by
  have key:∀(ps:List (B0×V)) (vs:List (B0×Value)) (us:List Value),KV ps vs->us.length=vs.length->(∀(j:Nat) (v:Value),us[j]?=some v->∃k x,vs[j]?=some (k,x)/\(K4 X.prog X.w).is k v=true)->B6 (ps.map fun p=>kV p.1) us:=by
   intro ps
   induction ps with
   | nil=>intro vs us r l _;cases r;cases us with
    | nil=>exact .nil
    | cons _ _=>cases l
   | cons p ps ih =>
    intro vs us r l f
    cases r with
    | @cons _ q _ qs h1 t =>
     cases us with
     | nil=>cases l
     | cons u us =>
      obtain⟨k,x,e1,e2⟩:=f 0 u rfl
      cases e1
      refine .cons ?_ (ih qs us t (by simpa using l) fun j v e=>f (j+1) v (by simpa using e))
      have h1:p.1=k:=h1.1
      show B7 (kV p.1) u
      rw [h1]
      rcases Q0q e2 with⟨i,t,rfl,rfl⟩ | ⟨i,t,rfl,rfl⟩
      ·exact⟨t,rfl⟩
      ·exact⟨t,rfl⟩
  refine key ps vs c7.toList rel (by rw [kG];exact it.1) fun j v e=>it.2 j v (by rw [<- Array.getElem?_toList];exact e)
 refine⟨.ref s.heap.objs.size,_,I.laid (t':=tk) (o:=.lst (ps.map fun p=>kV p.1)) k (ai _) ⟨by rw [ag];exact z,c7.toList,c',vl,by simpa using e2⟩,rfl,h _ _ (G0 hn _) ⟨_,_,rfl,hn,upd_same,?_⟩⟩
 rw [B5.keysEq kv]
 exact Z0w ps
noncomputable def Q0t:List R->(R->Prop)->Prop
 | [r],Q=>∃ns:List Int,Q0r r=some (ns.map .int)/\ns≠[]/\∀m,m∈ns->(∀n∈ns,n<=m)->Q (.st (.int m))
 | _,_=>False
theorem Y0h:Q2u Q0t:=fun x P Q g h=>by
 unfold Q0t at h ⊢
 split at h
 ·obtain⟨ns,a,b,c⟩:=h
  exact⟨ns,a,b,fun m h1 h2=>g _ (c m h1 h2)⟩
 ·exact h
theorem Z7l (f:Nat->Int):∀k,argBest (fun i j=>decide (f i > f j)) k<=k/\∀j,j<=k->f j<=f (argBest (fun i j=>decide (f i > f j)) k)
 | 0=>⟨ai _,fun j hj=>by rw [Nat.le_zero.mp hj];exact Int.le_refl _⟩
 | k+1=>by
  obtain⟨h1,h2⟩:=Z7l f k
  unfold argBest
  by_cases e:f (k+1) > f (argBest (fun i j=>decide (f i > f j)) k)
  ·rw [aM (by simpa using e)]
   refine⟨ai (k+1),fun j hj=>?_⟩
   by_cases z:j<=k
   ·exact Int.le_trans (h2 j z) (Int.le_of_lt e)
   ·rw [show j=k+1 by omega];exact Int.le_refl _
  ·rw [aI (by simpa using e)]
   refine⟨Nat.le_succ_of_le h1,fun j hj=>?_⟩
   by_cases z:j<=k
   ·exact h2 j z
   ·rw [show j=k+1 by omega];omega
theorem Z9f:∀{ns:List Int}{aV:List Value},B6 (ns.map V.int) aV->∃xs:List (Int×Tok),aV=xs.map (fun p=>Value.int p.1 p.2)/\xs.map (·.1)=ns
 | [],aV,r=>by cases r;exact⟨[],rfl,rfl⟩
 | n::ns,aV,r=>by
  cases r with
  | cons h t =>
   obtain⟨tk,e⟩:=h
   obtain⟨xs,e1,e2⟩:=Z9f (ns:=ns) t
   exact⟨(n,tk)::xs,by rw [e,e1];rfl,by rw [ar,e2]⟩
theorem Z7k {K:Fg9}{H:Hp}:∀{ns:List Int}{xs:List V},AllS K H (ns.map .int) xs->xs=ns.map V.int
 | [],xs,h=>by unfold List.map AllS at h;exact h
 | n::ns,xs,h=>by
  rw [ar]at h
  unfold AllS at h
  obtain⟨v,r,rfl,i,t⟩:=h
  unfold A3 at i
  rw [i,Z7k t];rfl
theorem Z7z (hc:X.calm=true):Q2q X (.builtin "max") Q0t:=by
 intro ae s σ H xs us Q I rv ⟨rs,cx,h⟩
 unfold Q0t at h
 split at h
 ·rename_i r
  obtain⟨ns,e1,cj,h⟩:=h
  obtain⟨v,rfl,ir⟩:=Q0a cx
  obtain⟨l,ys,rfl,sq,al⟩:=Q8c e1 ir
  obtain⟨u,rfl,ru⟩:=Z8 rv
  cases ru
  have ey:=Z7k al
  subst ey
  obtain⟨aV,gg,pl,hz⟩:=I.list sq
  obtain⟨ps,ei,en⟩:=Z9f gg
  subst ei
  have hit:s.heap.IsList l (intItems ps.toArray):=by
   have:=pl.isList
   have e:intItems ps.toArray=(ps.map fun p=>Value.int p.1 p.2).toArray:=by simp [intItems]
   rw [e];exact this
  have jx:0<ps.toArray.size:=by
   cases ps with
   | nil=>exact absurd en.symm cj
   | cons _ _=>simp
  refine max_intList (I.ok.hd hc) hit jx fun v h' tk e k=>?_
  obtain⟨b1,b2⟩:=Z7l (numAt ps.toArray) (ps.toArray.size-1)
  obtain⟨t,et⟩:=intItems_at e
  subst et
  generalize argBest (fun i j=>decide (numAt ps.toArray i > numAt ps.toArray j)) (ps.toArray.size-1)=k0 at b1 b2 e
  have at_:∀j,j<ps.length->ns[j]?=some (numAt ps.toArray j):=fun j hj=>by
   rw [<- en,ah,ac hj]
   simp [numAt,hj]
  have qp:k0<ps.length:=by
   have:ps.toArray.size=ps.length:=by simp
   omega
  refine⟨.int (numAt ps.toArray k0),H,I.kept k,⟨t,rfl⟩,h _ (aw (at_ k0 qp)) (fun n hn=>?_) _ _ (A5.refl _) X8⟩
  obtain⟨j,hj,e⟩:=List.getElem_of_mem hn
  have hl:ns.length=ps.length:=by rw [<- en,ag]
  have:=at_ j (by omega)
  rw [ac hj,e]at this
  rw [ay this]
  exact b2 j (by
   have:ps.toArray.size=ps.length:=by simp
   omega)
 ·exact h.elim
end
theorem LO.ok {P:Program}{w:World}{H:Hp}{h:Heap}{b:Addr}{xs:List V} (g:LO b xs h):K1 P w H h b (.ext (LO b xs)):=by
 obtain⟨z,aV,n,r,e⟩:=id g
 exact⟨g,⟨_,e⟩,fun h1 h2 ⟨z,aV,n,r,e⟩ k=>⟨z,aV,n,r,k _ e⟩⟩
noncomputable def J8:Option Sl->Bool
 | some (.ll _ _)=>false
 | _=>true
noncomputable def W3:Nat->A8->Bool
 | _,[]=>true
 | 0,_::r=>r.all J8
 | i+1,s::r=>J8 s&&W3 i r
theorem Z3a:∀{i:Nat} {τ:A8}{j:Nat}{a:Addr}{dss:List (List D)},W3 i τ=true->j≠i->τ[j]?≠some (some (.ll a dss))
 | _,[],j,a,dss,_,_=>by simp
 | 0,s::r,0,a,dss,_,h=>absurd rfl h
 | 0,s::r,j+1,a,dss,h,_=>fun e=>by
  have e:r[j]?=some (some (.ll a dss)):=by simpa using e
  have:=bP.mp h _ (aw e)
  cases this
 | i+1,s::r,0,a,dss,h,_=>fun e=>by
  have e:s=some (.ll a dss):=by simpa using e
  subst e
  simp [W3,J8]at h
 | i+1,s::r,j+1,a,dss,h,n=>fun e=>by
  rw [W3,de]at h
  exact Z3a (i:=i) (j:=j) h.2 (fun z=>n (by rw [z])) (by simpa using e)
theorem G6.length {K:Fg9}{H:Hp}:∀{bs:List Addr}{dss:List (List D)},G6 K H bs dss->bs.length=dss.length
 | [],_,h=>by rw [show _=[]from h];rfl
 | b::bs,_,h=>by obtain⟨ds,r,rfl,_,t⟩:=h;rw [aK,aK,t.length]
theorem G6.get {K:Fg9}{H:Hp}:∀{bs:List Addr}{dss:List (List D)}{j:Nat},G6 K H bs dss->j<dss.length->∃b xs,bs[j]?=some b/\H b=some (.ext (LO b xs))/\AllS K H (dss.getD j []) xs
 | [],_,j,h,l=>by rw [show _=[]from h]at l;simp at l
 | b::bs,_,0,h,l=>by obtain⟨ds,r,rfl,⟨xs,q,al⟩,t⟩:=h;exact⟨b,xs,rfl,q,al⟩
 | b::bs,_,j+1,h,l=>by
  obtain⟨ds,r,rfl,_,t⟩:=h
  obtain⟨b',xs,e,q,al⟩:=G6.get (j:=j) t (by simpa using l)
  exact⟨b',xs,by simpa using e,q,by simpa using al⟩
theorem G6.mem {K:Fg9}{H:Hp}:∀{bs:List Addr}{dss:List (List D)}{b:Addr},G6 K H bs dss->b∈bs->∃xs,H b=some (.ext (LO b xs))
 | [],_,b,h,l=>by cases l
 | c::bs,_,b,h,l=>by
  obtain⟨ds,r,rfl,⟨xs,q,al⟩,t⟩:=h
  rcases ao.mp l with rfl | l
  ·exact⟨xs,q⟩
  ·exact t.mem l
theorem G6.set {K:Fg9}{H H':Hp} (k:Kp H H') {b0:Addr}{kD:List D}{gB:List V} (h0:H' b0=some (.ext (LO b0 gB))) (oJ:AllS K H' kD gB) (fk:∀b φ,b≠b0->H b=some (.ext φ)->H' b=some (.ext φ)) :
  ∀{bs:List Addr}{dss:List (List D)}{j:Nat},bs.Nodup->G6 K H bs dss->bs[j]?=some b0->G6 K H' bs (dss.set j kD)
 | [],_,j,_,h,e=>by simp at e
 | b::bs,_,0,n,h,e=>by
  obtain⟨ds,r,rfl,⟨xs,q,al⟩,t⟩:=h
  have e:b=b0:=by simpa using e
  subst e
  rw [bj]at n
  refine⟨kD,r,rfl,⟨gB,h0,oJ⟩,?_⟩
  have same:∀{cs:List Addr}{ess:List (List D)},b∉cs->G6 K H cs ess->G6 K H' cs ess:=by
   intro cs
   induction cs with
   | nil=>intro ess _ h;exact h
   | cons c cs ih =>
    intro ess nb h
    obtain⟨ds,r,rfl,⟨xs,q,al⟩,t⟩:=h
    exact⟨ds,r,rfl,⟨xs,fk c _ (fun z=>nb (by rw [z];exact aA)) q,al.mono k _ _⟩,ih (fun z=>nb (ax _ z)) t⟩
  exact same n.1 t
 | b::bs,_,j+1,n,h,e=>by
  obtain⟨ds,r,rfl,⟨xs,q,al⟩,t⟩:=h
  rw [bj]at n
  have e:bs[j]?=some b0:=by simpa using e
  exact⟨ds,r.set j kD,rfl,⟨xs,fk b _ (fun z=>n.1 (by rw [z];exact aw e)) q,al.mono k _ _⟩,G6.set k h0 oJ fk n.2 t e⟩
section
variable {X:Cx}{H0:Hp}{o e f v:Expr}{pos apos bc sp:Pos}{we wv:WE}{i:Nat}
theorem Y1n {td ty:TE} (ho:PE X o td) (he:PE X e ty) (m:M1 X o "append" apos e bc):PE X (.Call (.Attribute o "append" apos) [e] [] bc)
  (fun σ H Q=>td σ H fun x H1=>∃b gB,x=.ref b/\H1 b=some (.ext (LO b gB))/\ty σ H1 fun y H2=>∃xs,H2 b=some (.ext (LO b xs))/\xs.length<sizeLine/\Q .non (upd H2 b (.ext (LO b (xs++[y]))))):=by
 intro ae s σ H Q I h
 refine wpAny_Call_method m.base m.few m.line PySem.F.plainAttrs_list PySem.F.slot_list_append PySem.F.type_list_append (B2 (ho ae s σ H _ I h) fun u s1 bp=>?_)
 obtain⟨x,H1,I1,rx,b,gB,ex,eb,q1⟩:=bp
 subst ex
 obtain rfl:u=Value.ref b:=rx
 obtain⟨_,pI,n0,_,e0⟩:=(show LO b gB s1.heap from(I1.hok b _ eb).1)
 refine⟨⟨_,e0,rfl⟩,fun c ec=>?_,?_⟩
 ·cases ec;exact⟨_,e0,rfl⟩
 rw [m.trees]
 refine dW rfl (cP (bY (B2 (he ae s1 σ H1 _ I1 q1) fun yv s2 ⟨y,H2,I2,ry,xs,e2,hz,q2⟩=>dU ?_)))
 obtain⟨z2,aV,n,rv,e3⟩:=(show LO b xs s2.heap from(I2.hok b _ e2).1)
 have el:=rv.length
 refine wpAny_list_append_plain (hsz:=by rw [aB];omega) ⟨n,e3⟩ fun h' hl hs=>⟨.non,_,?_,rfl,q2⟩
 obtain⟨n',e4⟩:=hl
 refine Q1x (t':=s2.toks) I2 (by rw [e2];exact True.intro) hs ⟨_,e4⟩ (LO.ok ⟨by rw [aE];show xs.length+1<=_;omega,aV++[yv],n',rv.append (.cons ry .nil),by simpa using e4⟩)
theorem B4.llAt {K:Fg9}{H:Hp} {τ:A8} {σ:St}{a:Addr}{dss:List (List D)} (hR:B4 K H0 τ σ H) (e1:τ[i]?=some (some (.ll a dss))):σ[i]?=some (some (.ref a))/\Q3n K H0 H a dss:=by
 obtain⟨v,hv,rfl,q⟩:=hR.here i _ e1
 exact⟨hv,q⟩
def rIxE:R2:=fun x y H Q=>∃p xs i v,x=.ref p/\y=.int i/\H p=some (.ext (LO p xs))/\K6 xs i=some v/\Q v H
theorem Z1w {ae:Pn9} {σ:St}{H:Hp}{s:Shared}{p:Addr}{xs:List V} (I:A1 X ae σ H s) (h:H p=some (.ext (LO p xs))):xs.length<=sizeLine/\∃aV n,B6 xs aV/\s.heap.get? p=some { cls:=.type "list",data:=.seq aV.toArray n }:=(I.hok p _ h).1
theorem Q7v:IxR X rIxE:=by
 intro value slice ae s σ H x y v u Q I rx ry h hs
 obtain⟨p,xs,i,z,rfl,rfl,hq,he,q⟩:=h
 cases rx
 obtain⟨t,rfl⟩:=ry
 obtain⟨hz,aV,n,r,e⟩:=Z1w I hq
 have pl:s.heap.IsList p aV.toArray:=⟨_,e,rfl,n,rfl⟩
 obtain⟨j,h1,h2,h3,h4,h5⟩:=Q7e he
 obtain⟨w,ew,fj⟩:=r.get h2
 have hl:=r.length
 have hn:=Q1k
 have fin:EP X ae σ Q w s:=⟨z,H,I,fj,q⟩
 by_cases h0:0<=i
 ·have hj:i.toNat=j:=by
   rw [seqIndex_of h0 h5]at h1
   exact ay h1
  exact item_listR pl h0 (by omega) (by rw [hj];simpa using ew) fin hs
 ·have hj:(i+(aV.toArray.size:Int)).toNat=j:=by
   rw [seqIndex_neg (by omega) h4]at h1
   rw [aB,<- hl]
   exact ay h1
  exact subscriptTail_builtinR (x:=w) pl.typeIs slot_list_getitem.lookup
   (wpAny_getItem_list_neg (Q:=fun r s'=>r=w/\EP X ae σ Q r s') pl (by omega) (by rw [aB] <;> omega) (by omega) (by rw [hj];simpa using ew) ⟨rfl,fin⟩) hs
theorem B4.llre {K:Fg9}{H H':Hp} {τ:A8} {σ:St}{a:Addr}{dss ka:List (List D)} (hR:B4 K H0 τ σ H) (e1:τ[i]?=some (some (.ll a dss))) (hv:σ[i]?=some (some (.ref a))) (only:W3 i τ=true)
  (kp:Kp H H') (ne:∀c u,H c=some u->(∀ φ,u≠.ext φ)->H' c=some u) (sm:A5 H0 H') (ll:Q3n K H0 H' a ka):B4 K H0 (τ.set i (some (.ll a ka))) σ H':=by
 have hl:i<τ.length:=(aF.mp e1).1
 refine⟨by rw [bg];exact hR.len,sm,fun k t e=>?_,fun k l t u w cj e2 e3 m1 m2 q1 q2=>?_⟩
 ·by_cases hk:k=i
  ·subst hk
   rw [aY hl]at e;cases e
   exact⟨_,hv,rfl,ll⟩
  ·rw [aG (fun z=>hk z.symm)]at e
   obtain⟨w,q,r⟩:=hR.here k t e
   refine⟨w,q,?_⟩
   cases t with
   | dat d=>exact A3.mono kp _ _ r
   | own es=>obtain⟨c,ys,e,n,q,t⟩:=r;exact⟨c,ys,e,n,ne _ _ q (by intro φ z;cases z),t.mono kp _ _⟩
   | bor es=>obtain⟨c,ys,e,q,t⟩:=r;exact⟨c,ys,e,q,t.mono kp _ _⟩
   | bd es=>obtain⟨c,ys,e,q,t⟩:=r;exact⟨c,ys,e,q,t.mono kp _ _⟩
   | dk es=>obtain⟨c,ys,e,n,q,t⟩:=r;exact⟨c,ys,e,n,ne _ _ q (by intro φ z;cases z),t.mono kp _ _⟩
   | dt es=>obtain⟨c,ys,e,n,q,t⟩:=r;exact⟨c,ys,e,n,ne _ _ q (by intro φ z;cases z),t.mono kp _ _⟩
   | ob _=>exact r
   | cl _ _=>exact⟨r.1,r.2.2 _ _ kp r.2.1,r.2.2⟩
   | ll a' d'=>exact absurd e (Z3a only hk)
   | ins _ _ _=>obtain⟨e,n,dx,ys,q,t⟩:=r;exact⟨e,n,dx,ys,ne _ _ q (by intro φ z;cases z),t.mono kp _ _⟩
 ·by_cases hk:k=i
  ·subst hk;rw [aY hl]at e2;cases e2;cases m1
  ·by_cases hl':l=i
   ·subst hl';rw [aY hl]at e3;cases e3;cases m2
   ·rw [aG (fun z=>hk z.symm)]at e2
    rw [aG (fun z=>hl' z.symm)]at e3
    exact hR.apart k l t u w cj e2 e3 m1 m2 q1 q2
theorem B4.llset {K:Fg9}{H:Hp} {τ:A8} {σ:St}{a b:Addr}{dss:List (List D)}{j:Nat}{ds:List D}{bs:List Addr}{gB xs:List V} (hR:B4 K H0 τ σ H) (e1:τ[i]?=some (some (.ll a dss))) (hv:σ[i]?=some (some (.ref a))) (only:W3 i τ=true)
  (ha:H a=some (.ext (LO a (bs.map V.ref)))/\H0 a=none/\a∉bs) (nd:bs.Nodup) (h0:∀b∈bs,H0 b=none) (ll:G6 K H bs dss) (ej:bs[j]?=some b) (eb:H b=some (.ext (LO b gB))) (al:AllS K H ds xs) :
  Kp H (upd H b (.ext (LO b xs)))/\B4 K H0 (τ.set i (some (.ll a (dss.set j ds)))) σ (upd H b (.ext (LO b xs))):=by
 have kp:Kp H (upd H b (.ext (LO b xs))):=Kp.updM eb (by intro xs z;cases z) (by intro o u z;cases z) _
 have qI:H0 b=none:=h0 b (aw ej)
 refine⟨kp,hR.llre e1 hv only kp (fun c u q n=>by rw [A6 (Y0 q eb (n _))];exact q) (fun c u q=>by rw [A6 (fun z=>by rw [z,qI]at q;cases q)];exact hR.same c u q)
  ⟨bs,⟨by rw [A6 (show a≠b from fun z=>ha.2.2 (by rw [z];exact aw ej))];exact ha.1,ha.2⟩,nd,h0,G6.set kp upd_same (al.mono kp _ _) (fun c φ hc q=>by rw [A6 hc];exact q) nd ll ej⟩⟩
def Q6r (i:Nat) (we wv:WE):WS:=fun E τ=>∃a dss,τ[i]?=some (some (.ll a dss))/\W3 i τ=true/\we τ fun r=>∃k j,r=.st (.int k)/\ixN dss.length k=some j/\wv τ fun r2=>∃d,r2=.st d/\(dss.getD j []).length<sizeLine /\
 E.nx (τ.set i (some (.ll a (dss.set j (dss.getD j []++[d])))))
theorem DS.llapp {b:Expr} (ho:PE X b (M0 i)) (he:DE X H0 e we) (hv:DE X H0 v wv) (hpl:Q3r e) (m:M1 X (.Subscript b e pos) "append" apos v bc) (fT:swapsWith (.Call (.Attribute (.Subscript b e pos) "append" apos) [v] [] bc) none sp.line X.env=pure false:=by rfl) :
  DS X H0 (.Expr (.Call (.Attribute (.Subscript b e pos) "append" apos) [v] [] bc) sp) (Q6r i we wv) where
 mono:=fun τ E F le ⟨a,dss,e1,o,h⟩=>⟨a,dss,e1,o,he.mono τ _ _ (fun r ⟨k,j,a1,a2,h⟩=>⟨k,j,a1,a2,hv.mono τ _ _ (fun r ⟨d,b1,b2,b3⟩=>⟨d,b1,b2,le.nx _ b3⟩) h⟩) h⟩
 ps:=O2 (Q8q (Y1n (Q6e Q7v ho he.pe hpl) hv.pe m) fT) fun D σ H ⟨τ,hR,a,dss,e1,only,h⟩=>by
  obtain⟨dg,_⟩:=hR.llAt e1
  refine⟨_,dg,τ,hR,he.mono τ _ _ (fun r ⟨k,j,a1,a2,h⟩ y H1 s1 ik=>?_) h⟩
  subst a1
  cases (show y=.int k from ik)
  have cD:=hR.mono s1
  obtain⟨_,bs,ha,nd,h0,ll⟩:=cD.llAt e1
  have el:=ll.length
  obtain⟨_,hj,_,_⟩:=Q5r a2
  obtain⟨b0,xs,ej,eb,al⟩:=ll.get hj
  have jQ:K6 (bs.map V.ref) k=some (V.ref b0):=by unfold K6;rw [ag,el,a2];show(bs.map V.ref)[j]?=_;rw [ah,ej];rfl
  refine⟨a,bs.map V.ref,k,V.ref b0,rfl,rfl,ha.1,jQ,b0,xs,rfl,eb,τ,cD,hv.mono τ _ _ (fun r ⟨d,b1,b2,b3⟩ u H2 s2 iv=>?_) h⟩
  subst b1
  have cC:=cD.mono s2
  have cH:=al.mono (Kp.of s2) _ _
  refine⟨xs,s2 _ _ eb,by rw [<- al.length];exact b2,?_⟩
  obtain⟨kp,fw⟩:=cC.llset (xs:=xs++[u]) (ds:=dss.getD j []++[d]) e1 dg only ⟨s2 _ _ ha.1,ha.2⟩ nd h0 (ll.keep (Kp.of s2) fun b φ q=>s2 _ _ q) ej (s2 _ _ eb) (cH.append (AllS.cons iv AllS.nil))
  exact b3 _ _ ((Kp.of (s1.trans s2)).trans kp) fw
theorem Z9i {ae:Pn9} {σ:St}{H:Hp}{s:Shared}{b:Addr}{xs:List V} (I:A1 X ae σ H s) (h:H b=some (.ext (LO b xs))):∃o,A1 X ae σ (upd H b (.frz o (.lst xs))) s:=by
 obtain⟨z,aV,n,r,q⟩:=(show LO b xs s.heap from(I.hok b _ h).1)
 refine⟨_,I.write (t':=s.toks) (h':=s.heap) (e:=b) (o:=.frz { cls:=.type "list",data:=.seq aV.toArray n } (.lst xs)) (by rw [h];trivial) (.inl rfl) (fun b u _ k=>k) ⟨_,q⟩ ?_⟩
 exact⟨q,z,aV,n,r,q⟩
theorem Z9g {ae:Pn9} {σ:St}{s:Shared}:∀{bs:List Addr}{dss:List (List D)}{H:Hp},A1 X ae σ H s->bs.Nodup->G6 X.K H bs dss ->
  ∃H',A1 X ae σ H' s/\Kp H H'/\(∀c,c∉bs->H' c=H c)/\(∀c u,H c=some u->(∀ φ,u≠.ext φ)->H' c=some u)/\AllS X.K H' (dss.map .lst) (bs.map V.ref)
 | [],dss,H,I,_,h=>by
  rw [show dss=[]from h]
  exact⟨H,I,Kp.refl H,fun _ _=>rfl,fun _ _ q _=>q,AllS.nil⟩
 | b::bs,dss,H,I,n,h=>by
  obtain⟨ds,r,rfl,⟨xs,q,al⟩,t⟩:=h
  rw [bj]at n
  obtain⟨o,I1⟩:=Z9i I q
  have kp:Kp H (upd H b (.frz o (.lst xs))):=Kp.updM q (by intro xs z;cases z) (by intro o u z;cases z) _
  have t1:G6 X.K (upd H b (.frz o (.lst xs))) bs r:=by
   have same:∀{cs:List Addr}{ess:List (List D)},b∉cs->G6 X.K H cs ess->G6 X.K (upd H b (.frz o (.lst xs))) cs ess:=by
    intro cs
    induction cs with
    | nil=>intro ess _ h;exact h
    | cons c cs ih =>
     intro ess nb h
     obtain⟨ds,r,rfl,⟨xs,q,al⟩,t⟩:=h
     exact⟨ds,r,rfl,⟨xs,by rw [A6 (fun z=>nb (by rw [z];exact aA))];exact q,al.mono kp _ _⟩,ih (fun z=>nb (ax _ z)) t⟩
   exact same n.1 t
  obtain⟨H',I2,k2,o2,e2,cH⟩:=Z9g I1 n.2 t1
  refine⟨H',I2,kp.trans k2,fun c hc=>?_,fun c u hq hu=>?_,AllS.cons (A3.s_lst (.inl ⟨o,k2.frz _ _ _ upd_same⟩) ((al.mono kp _ _).mono k2 _ _)) cH⟩
  ·rw [o2 c (fun z=>hc (ax _ z)),A6 (fun z=>hc (by rw [z];exact aA))]
  ·exact e2 c u (by rw [A6 (Y0 hq q (hu _))];exact hq) hu
def Q9t (i:Nat) (w:WS):WS:=fun E τ=>w { E with nx:=fun τ'=>∃a dss,τ'[i]?=some (some (.ll a dss))/\W3 i τ'=true/\E.nx (τ'.set i (some (.dat (.lst (dss.map .lst))))) } τ
theorem DS.fzL {st:Stmt}{w:WS} (i:Nat) (h:DS X H0 st w):DS X H0 st (Q9t i w) where
 mono:=fun τ E F le q=>h.mono τ { E with nx:=fun τ'=>∃a dss,τ'[i]?=some (some (.ll a dss))/\W3 i τ'=true/\E.nx (τ'.set i (some (.dat (.lst (dss.map .lst))))) } { F with nx:=fun τ'=>∃a dss,τ'[i]?=some (some (.ll a dss))/\W3 i τ'=true/\F.nx (τ'.set i (some (.dat (.lst (dss.map .lst))))) }
  ⟨fun τ' ⟨a,dss,e,o,q⟩=>⟨a,dss,e,o,le.nx _ q⟩,le.rt,le.bk,le.ct⟩ q
 ps:=O2 (Q6f h.ps) fun D σ H ⟨τ,hR,q⟩=>⟨τ,hR,h.mono τ { M6 X.K H0 H D with nx:=fun τ'=>∃a dss,τ'[i]?=some (some (.ll a dss))/\W3 i τ'=true/\(M6 X.K H0 H D).nx (τ'.set i (some (.dat (.lst (dss.map .lst))))) } _
  ⟨fun τ' ⟨a,dss,e,only,q⟩ σ' H' kp cM ae s I=>by
   obtain⟨hv,bs,ha,nd,h0,ll⟩:=cM.llAt e
   obtain⟨H1,I1,k1,o1,e1,eS⟩:=Z9g I nd ll
   have lY:H1 a=some (.ext (LO a (bs.map V.ref))):=by rw [o1 a ha.2.2];exact ha.1
   obtain⟨ob,I2⟩:=Z9i I1 lY
   have k3:Kp H1 (upd H1 a (.frz ob (.lst (bs.map V.ref)))):=Kp.updM lY (by intro xs z;cases z) (by intro o u z;cases z) _
   have k2:=k1.trans k3
   have e2:∀c u,H' c=some u->(∀ φ,u≠.ext φ)->upd H1 a (.frz ob (.lst (bs.map V.ref))) c=some u:=fun c u q n=>by rw [A6 (Y0 (e1 c u q n) lY (n _))];exact e1 c u q n
   have cH:=eS.mono k3 _ _
   have hl:i<τ'.length:=(aF.mp e).1
   refine⟨_,I2,q σ' _ (kp.trans k2) ⟨by rw [bg];exact cM.len,fun c u hq=>?_,fun k t et=>?_,fun k l t u w cj et eu m1 m2 q1 q2=>?_⟩⟩
   ·rw [A6 (fun z=>by rw [z,ha.2.1]at hq;cases hq),o1 c (fun z=>by rw [h0 c z]at hq;cases hq)];exact cM.same c u hq
   ·by_cases hk:k=i
    ·subst hk
     rw [aY hl]at et;cases et
     exact⟨_,hv,A3.s_lst (K:=X.K) (.inl ⟨ob,upd_same⟩) cH⟩
    ·rw [aG (fun z=>hk z.symm)]at et
     obtain⟨w,q,r⟩:=cM.here k t et
     refine⟨w,q,?_⟩
     cases t with
     | dat d=>exact A3.mono k2 _ _ r
     | own es=>obtain⟨c,ys,e,n,q,t⟩:=r;exact⟨c,ys,e,n,e2 _ _ q (by intro φ z;cases z),t.mono k2 _ _⟩
     | bor es=>obtain⟨c,ys,e,q,t⟩:=r;exact⟨c,ys,e,q,t.mono k2 _ _⟩
     | bd es=>obtain⟨c,ys,e,q,t⟩:=r;exact⟨c,ys,e,q,t.mono k2 _ _⟩
     | dk es=>obtain⟨c,ys,e,n,q,t⟩:=r;exact⟨c,ys,e,n,e2 _ _ q (by intro φ z;cases z),t.mono k2 _ _⟩
     | dt es=>obtain⟨c,ys,e,n,q,t⟩:=r;exact⟨c,ys,e,n,e2 _ _ q (by intro φ z;cases z),t.mono k2 _ _⟩
     | ob _=>exact r
     | cl _ _=>exact⟨r.1,r.2.2 _ _ k2 r.2.1,r.2.2⟩
     | ll a' d'=>exact absurd et (Z3a only hk)
     | ins _ _ _=>obtain⟨e,n,dx,ys,q,t⟩:=r;exact⟨e,n,dx,ys,e2 _ _ q (by intro φ z;cases z),t.mono k2 _ _⟩
   ·by_cases hk:k=i
    ·subst hk;rw [aY hl]at et;cases et;cases m1
    ·by_cases hl':l=i
     ·subst hl';rw [aY hl]at eu;cases eu;cases m2
     ·rw [aG (fun z=>hk z.symm)]at et
      rw [aG (fun z=>hl' z.symm)]at eu
      exact cM.apart k l t u w cj et eu m1 m2 q1 q2,fun _ h=>h,fun _ h=>h,fun _ h=>h⟩ q⟩
end
noncomputable def Z3 (g:WG) (we:WE):List D->A8->(List (List D)->Prop)->Prop
 | [],_,Q=>Q []
 | d::ds,τ,Q=>g d τ fun τ'=>we τ' fun r=>∃es,r=.nw es/\Z3 g we ds τ' fun ess=>Q (es::ess)
theorem Z8g {g:WG}{we:WE} (hg:∀d τ (P Q:A8->Prop),(∀ τ,P τ->Q τ)->g d τ P->g d τ Q) (he:∀(τ:A8) (P Q:R->Prop),(∀r,P r->Q r)->we τ P->we τ Q) :
  ∀(ds:List D) (τ:A8) (P Q:List (List D)->Prop),(∀es,P es->Q es)->Z3 g we ds τ P->Z3 g we ds τ Q
 | [],_,_,_,f,h=>f _ h
 | d::ds,τ,P,Q,f,h=>hg d τ _ _ (fun τ' h=>he τ' _ _ (fun r ⟨e,e1,h⟩=>⟨e,e1,Z8g hg he ds τ' _ _ (fun es h=>f _ h) h⟩) h) h
theorem G6.append {K:Fg9}{H:Hp}{b:Addr}{ds:List D}{xs:List V} (q:H b=some (.ext (LO b xs))) (al:AllS K H ds xs):∀{bs:List Addr}{dss:List (List D)},G6 K H bs dss->G6 K H (bs++[b]) (dss++[ds])
 | [],dss,h=>by rw [show dss=[]from h];exact⟨ds,[],rfl,⟨xs,q,al⟩,rfl⟩
 | c::bs,dss,h=>by obtain⟨es,r,rfl,x,t⟩:=h;exact⟨es,r++[ds],rfl,x,t.append q al⟩
theorem Z4r:∀(bs:List Addr),B6 (bs.map V.ref) (bs.map Value.ref)
 | []=>.nil
 | b::bs=>.cons rfl (Z4r bs)
section
variable {X:Cx}{H0:Hp}{tg iter dN:Expr}{scope:Scope}{pos be fh:Pos}{N:List Str}{nt:Nat}{cap:List Nat}{wi:P5}{g:WG}{we:WE}
theorem Y9m {use:Option (Value->Sem Unit)}{QQ:VS9}{P:List (List D)->Prop}{fP:Pos}{ae:Pn9}{s:Shared} {σ:St}{H:Hp} {τ:A8} (hc:X.calm=true) (B:J7 X scope N nt cap) (hi:F7 X H0 tg iter wi)
  (hg:∀C s H fp,DG (blk X scope C s H fp N) H tg g) (he:∀C s H fp,DE (blk X scope C s H fp N) H dN we) (hs:∀x,foldedSetIterable iter X.env x=pure x)
  (I:A1 X ae σ H s) (hR:B4 X.K H0 τ σ H) (hw:wi τ fun ds=>ds.length<=sizeLine/\Z3 g we ds (R5 nt cap τ) P)
  (fin:∀(C D0:Addr) (s2 s4:Shared) (H2 H4:Hp) (fp:List Addr) (pb:Pn9) (σ4:St) (bs:List Addr) (nn:Nat) (dss:List (List D)) (f:Flow),A1 X ae σ H2 s2->A5 H H2->A1 (blk X scope C s2 H2 fp N) pb σ4 H4 s4->(∀b∈fp,K9 X ae H2 b) ->
   s2.heap.objs.size<=C->s2.heap.objs.size<=D0->D0≠C->H4 D0=none->s4.heap.get? D0=some { cls:=.type "list",data:=.seq (bs.map Value.ref).toArray nn }->bs.length<=sizeLine->A5 H2 H4->bs.Nodup->(∀b∈bs,H2 b=none)->G6 X.K H4 bs dss->P dss->compPost (model X.prog X.w) X.A X.xe use QQ (.ref D0) C (.ok f) s4) :
  wpAny (model X.prog X.w) X.A (comprehension (.ListComp dN [⟨tg,iter,[],0⟩] scope pos) scope X.env fP (newList []) false (eval iter X.env) use) QQ X.xe s:=by
 refine wpAny_comprehension_free rfl hs (Q7l fun y hy e=>I.ok.has y.1 (B.free y hy e)) B.kind B.names ?_
 refine B2 (hi.pi ae s σ H (fun J H2=>A5 H H2/\∃ds,YlS X.K J ds H2/\ds.length<=sizeLine/\Z3 g we ds (R5 nt cap τ) P) I
  ⟨τ,hR,hi.mono τ _ _ (fun ds h J H' sm yl=>⟨sm,ds,yl,h.1,h.2⟩) hw⟩) fun v s1 h1=>B2 h1 fun j9 s2 h2=>?_
 obtain⟨it,fp,tn,J,H2,e,I2,T,cX,f2,cN,ds,yl,hz,iO⟩:=h2
 subst e
 have eN:∀b∈fp,b<s2.heap.objs.size:=fun b hb=>by
  obtain⟨o,ho,_⟩:=T.obj _ _ cX b hb
  exact au ho
 have cC:=hR.mono cN
 refine bU (fG B.cell (by intro y hy;simp at hy) (fun h₁ cu ci=>?_) B.kind)
 dsimp only at cu ci ⊢
 generalize hH2:s2.heap.push { cls:=.type "list",dict:=none,data:=.seq ([]:List Value).toArray }=Hq at cu ci ⊢
 have hC:Hq.objs.size=s2.heap.objs.size+1:=by rw [<- hH2,br]
 have cE:s2.heap.objs.size≠Hq.objs.size:=by rw [hC];exact av (cm _)
 have ce:s2.heap.objs.size<=Hq.objs.size:=by rw [hC];exact eU _
 have old:∀b o,s2.heap.get? b=some o->h₁.get? b=some o:=fun b o e=>ci.extBut b o (by rw [hC];exact av (bi (au e))) (af _ (hH2 ▸ af _ e))
 have cZ:h₁.PlainList s2.heap.objs.size #[]:=⟨_,ci.extBut _ _ cE (af _ (hH2 ▸ aH _ rfl))⟩
 generalize hCe:Hq.objs.size=C at cu ci hC cE ce ⊢
 generalize hDe:s2.heap.objs.size=D0 at hC cE ce cZ ⊢
 have cB:∀b∈fp,b<D0:=fun b hb=>hDe ▸ eN b hb
 have dj:tn 0 h₁:=T.keep _ _ _ cX fun b _ o e=>old b o e
 have j6:=Q7h (C:=C) (h':=h₁) (t':=s2.toks+([]:List (Str×Value)).length) I2 B f2 eN (by rw [hDe];exact ce) cu old
 have fD:H2 D0=none:=I2.hok.fresh (by rw [hDe];exact ai _)
 have iJ:D0∉frs X.stack:=fun z=>by
  rcases ao.mp (I2.stkSub _ z)with e | e
  ·have:=I2.lt;rw [<- e,hDe]at this;exact aR _ this
  ·exact I2.nofs (by rw [hDe];exact ai _) e
 have iK:∀x c,(R8 X.env scope.names []).lookup x=some c->c≠D0:=fun x c h z=>by
  obtain⟨v,q⟩:=I2.cell x c (V7 I2 B h)
  have:=q.lt
  rw [z,hDe]at this
  exact aR _ this
 have di:∀{pb:Pn9} {σ':St}{H':Hp}{s':Shared}{ys:Array Value}{n:Nat},A1 (blk X scope C s2 H2 fp N) pb σ' H' s'->H' D0=none->s'.heap.get? D0=some { cls:=.type "list",data:=.seq ys n } ->
   A1 (blk X scope C s2 H2 fp N) [(D0,{ cls:=.type "list",data:=.seq ys n })] σ' H' s':=by
  intro pb σ' H' s' ys n I' n' e
  refine I'.pins_of fun p hp=>?_
  have e':p=(D0,{ cls:=.type "list",data:=.seq ys n }):=by simpa using hp
  subst e'
  exact⟨e,n',cE,iJ,fun v z=>by cases z⟩
 have eR:∀{H':Hp}{ob:Obj},(∀b∈fp,H' b=none)->∀b∈fp,K9 (blk X scope C s2 H2 fp N) [(D0,ob)] H' b:=by
  intro H' ob hn b hb
  refine⟨hn b hb,(av (az (cB b hb) ce)),fun z=>?_,.inl hb,fun x c h=>(f2 b hb).2.2.2.2.1 x c (V7 I2 B h),fun p hp=>?_⟩
  ·rcases ao.mp (I2.stkSub b z)with e | e
   ·exact(f2 b hb).2.1 e
   ·exact(f2 b hb).2.2.1 e
  ·have e':p=(D0,ob):=by simpa [blk]using hp
   subst e'
   exact(av (cB b hb)).symm
 let io:Nat->Shared->Prop:=fun k s'=>∃(i:Nat) (σ':St) (H':Hp) (τ':A8) (nn:Nat) (bs:List Addr) (dss:List (List D)),A1 (blk X scope C s2 H2 fp N) [(D0,{ cls:=.type "list",data:=.seq (bs.map Value.ref).toArray nn })] σ' H' s'/\B4 X.K H2 τ' σ' H'/\tn i s'.heap /\
  (∀b∈fp,H' b=none)/\H' D0=none/\bs.Nodup/\(∀b∈bs,H2 b=none)/\G6 X.K H' bs dss/\i<=ds.length/\k=ds.length-i/\bs.length=i/\Z3 g we (ds.drop i) τ' fun ess=>P (dss++ess)
 have loop:∀s₃:Shared,s₃={ s2 with heap:=h₁,toks:=s2.toks+([]:List (Str×Value)).length } ->
   codeAny (model X.prog X.w) X.A (.compLoop (.ListComp dN [⟨tg,iter,[],0⟩] scope pos) 0 (.ref it) (.ref D0) (compEnvC scope (R8 X.env scope.names []) C X.env))
    (compPost (model X.prog X.w) X.A X.xe use QQ (.ref D0) C) s₃:=by
  rintro s₃ rfl
  obtain⟨nn,ho⟩:=id cZ
  refine Z1d io ?_ ds.length ⟨0,_,H2,R5 nt cap τ,nn,[],[],di j6 fD ho,Z3m cC nt cap,dj,fun b hb=>(f2 b hb).1,fD,dR,(by intro b hb;cases hb),rfl,bD _,rfl,rfl,by simpa using iO⟩
  rintro k s3 ⟨i,σ3,H3,τ3,nn,bs,dss,I3,R3,eD,fb,d3,mS,f3,l8,nr,rfl,ii,w3⟩
  have bT:A5 H2 H3:=R3.same
  by_cases bE:i<ds.length
  ·refine aL (T.item (blk X scope C s2 H2 fp N) rfl rfl rfl hc i _ s3 σ3 H3 (fun _ _=>False) I3 (eR fb) eD (yl.go H3 bT i bE)) (fun r s4 bp=>?_) fun _ _ z=>z
   obtain⟨u,hr,h4⟩:=bp
   subst hr
   refine aL h4 (fun _ s5 bp=>?_) fun _ _ z=>z
   obtain⟨x,H5,I5,r5,y5,dq,gY⟩:=bp
   obtain⟨fy,ix⟩:=yl.yld H3 bT i x H5 _ (ac bE) y5
   rw [cw bE]at w3
   have hJ:=I5.pinned (eR gY) (T.obj _ _ dq)
   refine aL ((hg C s2 H2 fp).pg _ s5 σ3 H5 x u (fun σ6 H6=>∃ τ6,B4 X.K H2 τ6 σ6 H6/\A5 H5 H6/\we τ6 fun r=>∃es,r=.nw es/\Z3 g we (ds.drop (i+1)) τ6 fun ess=>P (dss++(es::ess)))
    hJ r5 ⟨τ3,ds[i],R3.mono fy,ix,(hg C s2 H2 fp).mono _ _ _ _ (fun τ6 h6 σ6 H6 fN R6=>⟨τ6,R6,fN,h6⟩) w3⟩) (fun _ s6 ⟨σ6,H6,I6,τ6,R6,fN,w6⟩=>?_) fun _ _ z=>z
   refine wpAny_tests_nil ?_
   rw [aM rfl]
   refine aL ((he C s2 H2 fp).pe _ s6 σ6 H6 (fun v H8=>A5 H6 H8/\∃es,E4 X.K H6 H8 (.nw es) v/\Z3 g we (ds.drop (i+1)) τ6 fun ess=>P (dss++(es::ess))) I6
    ⟨τ6,R6,(he C s2 H2 fp).mono τ6 _ _ (fun r ⟨e,e1,h⟩ v H8 fM ir=>⟨fM,e,by subst e1;exact ir,h⟩) w6⟩) (fun y s8 ⟨v8,H8,I8,iG,oT,es,⟨b,xs,eb,nb,jO,rJ⟩,w8⟩=>?_) fun _ _ z=>z
   subst eb
   obtain rfl:y=Value.ref b:=iG
   have pd:=I8.pin (D0,_) (ak _ (bb _ aA))
   obtain⟨o8,d8,_⟩:=pd
   have qH:b≠D0:=fun z=>by rw [z,d8]at jO;cases jO
   obtain⟨zb,lg,po,rb,ob⟩:=I8.hok b _ jO
   have oK:A1 (blk X scope C s2 H2 fp N) ([(D0,{ cls:=.type "list",data:=.seq (bs.map Value.ref).toArray nn })]++U8 fp s5.heap) σ6 (upd H8 b (.ext (LO b xs))) s8 :=
    I8.write (t':=s8.toks) (h':=s8.heap) (e:=b) (by rw [jO];trivial) (.inl rfl) (fun c u _ k=>k) ⟨_,ob⟩ (LO.ok ⟨zb,lg,po,rb,ob⟩)
   have kp:Kp H8 (upd H8 b (.ext (LO b xs))):=Kp.upd jO _
   have iF:A5 H6 (upd H8 b (.ext (LO b xs))):=fun c u q=>by rw [A6 (V9 q nb)];exact oT c u q
   have ju:(bs.map Value.ref).toArray.size<=sizeLine:=by simp;omega
   refine wpAny_list_append_plain (hsz:=ju) ⟨nn,o8⟩ fun h₅ jC iP=>?_
   have ke:A1 (blk X scope C s2 H2 fp N) (U8 fp s5.heap) σ6 (upd H8 b (.ext (LO b xs))) s8:=oK.pins_of fun p hp=>oK.pin p (ak _ (ak _ hp))
   have mr:upd H8 b (.ext (LO b xs)) D0=none:=by rw [A6 (bn qH)];exact d8
   have I9:A1 (blk X scope C s2 H2 fp N) (U8 fp s5.heap) σ6 (upd H8 b (.ext (LO b xs))) { s8 with heap:=h₅ }:=by
    refine ke.turned (t':=s8.toks) (it:=D0) (fun c o hb e=>(iP.2 c hb).trans e) mr cE (.inr (by rw [<- hDe];exact ai _)) iK (fun p hp z=>?_)
    obtain⟨q1,_⟩:=Q6c (by simpa [blk]using hp)
    exact av (cB _ q1) z
   obtain⟨jq,o9⟩:=jC
   have oZ:h₅.get? D0=some { cls:=.type "list",data:=.seq ((bs++[b]).map Value.ref).toArray jq }:=by rw [o9];simp
   have kj:A5 H3 H6:=fy.trans fN
   have jm:tn (i+1) h₅:=T.keep _ _ _ dq fun b hb o e=>(I9.pin (b,o) (ak _ (Q0u hb e))).1
   have pA:G6 X.K (upd H8 b (.ext (LO b xs))) bs dss:=l8.keep (Kp.of (kj.trans iF)) fun c φ q=>(kj.trans iF) _ _ q
   refine⟨ds.length-(i+1),by omega,i+1,σ6,_,τ6,jq,bs++[b],dss++[es],di I9 mr oZ,R6.mono iF,jm,fun c hb=>?_,mr,?_,fun c hc=>?_,pA.append upd_same (rJ.mono kp _ _),bE,rfl,by rw [aE,ii];rfl,by simpa using w8⟩
   ·obtain⟨o,e,_⟩:=T.obj _ _ dq c hb
    exact(I9.pin (c,o) (ak _ (Q0u hb e))).2.1
   ·rw [ba]
    refine⟨mS,by simp,fun c hc c' cU z=>?_⟩
    rw [show c'=b by simpa using cU]at z
    obtain⟨jl,q⟩:=l8.mem hc
    have q6:=kj _ _ q
    rw [z,nb]at q6;cases q6
   ·rcases aN.mp hc with z | z
    ·exact f3 c z
    ·rw [aD.mp z]
     exact(bT.trans kj).free nb
  ·have e:i=ds.length:=by omega
   subst e
   refine aL (T.done (blk X scope C s2 H2 fp N) rfl rfl rfl hc ds.length _ s3 σ3 H3 (fun _ _=>False) I3 (eR fb) eD (yl.stop H3 bT)) (fun r s4 bp=>?_) fun _ _ z=>z
   obtain⟨hr,I4⟩:=bp
   subst hr
   have o4:=(I4.pin (D0,_) (ak _ aA)).1
   rw [fJ]at w3
   have w3:P (dss++[]):=w3
   rw [b7]at w3
   exact fin C D0 s2 s4 H2 H3 fp _ σ3 bs nn dss _ I2 cN I4 f2 (by rw [hDe];exact ce) (by rw [hDe];exact ai _) cE d3 o4 (by omega) bT mS f3 l8 w3
 exact codeAny_compStart_list (loop _ rfl) (T.self _ 0 _ _ _ dj (loop _ rfl))
def Z5d (i nt:Nat) (cap:List Nat) (wi:P5) (g:WG) (we:WE):WS:=fun E τ=>wi τ fun ds=>ds.length<=sizeLine/\Z3 g we ds (R5 nt cap τ) fun dss=>∀a,E.nx (τ.set i (some (.ll a dss)))
theorem DS.setLC {i:Nat}{x:Str} (hc:X.calm=true) (B:J7 X scope N nt cap) (hi:F7 X H0 tg iter wi) (hg:∀C s H fp,DG (blk X scope C s H fp N) H tg g) (he:∀C s H fp,DE (blk X scope C s H fp N) H dN we) (hN:X.N.Nodup) (jH:X.N[i]?=some x) (hx:Loc X.env.scope x)
  (fT:swapsWith (.ListComp dN [⟨tg,iter,[],0⟩] scope pos) (some (.Name x be)) fh.line X.env=pure true:=by rfl) (hs:∀x,foldedSetIterable iter X.env x=pure x:=by intro _;rfl)
  (hf:X.fn x=true\/X.env.scope.names.lookup x=some .local:=by first | exact .inl rfl | exact .inr rfl | assumption) :
  DS X H0 (.Assign [.Name x be] (.ListComp dN [⟨tg,iter,[],0⟩] scope pos) fh) (Z5d i nt cap wi g we) where
 mono:=fun τ E F le h=>hi.mono τ _ _ (fun ds h=>⟨h.1,Z8g (hg 0 X.s₀ X.H₀ []).mono (he 0 X.s₀ X.H₀ []).mono ds _ _ _ (fun es h a=>le.nx _ (h a)) h.2⟩) h
 ps:=by
  intro ae s σ H D I ⟨τ,hR,hw⟩
  rw [exec_Assign_Name_used _ _ _ _ fT]
  refine aa (wpAny_standAt (aa ?_))
  change wpAny (model X.prog X.w) X.A (do let _ <- comprehension (.ListComp dN [⟨tg,iter,[],0⟩] scope pos) scope X.env _ (newList []) false (eval iter X.env) (some (assign (.Name x be) X.env))) _ _ s
  refine aa (aL (Y9m (use:=some (assign (.Name x be) X.env)) (QQ:=fun _ s'=>SP X ae D .next s') hc B hi hg he hs I hR hw fun C D0 s2 s4 H2 H4 fp pb σ4 bs nn dss f I2 cN I4 f2 hC hD cE hn ho hz gE nd fr ll w3=>?_)
   (fun _ s' hq=>aq (aq hq)) fun _ _ e=>e)
  have Ib:A1 X ae σ (upd H4 D0 (.ext (LO D0 (bs.map V.ref)))) { s4 with heap:=s4.heap } :=
   Z7v I2 I4 f2 hC hD hn ⟨rfl,fun _ _=>rfl⟩ (LO.ok ⟨by rw [ag];exact hz,bs.map Value.ref,nn,Z4r bs,ho⟩)
  have jY:C≠X.env.locals:=fun z=>aR _ (az I2.lt (z ▸ hC))
  have jX:∀x c,X.env.cells.lookup x=some c->c≠C:=fun x c h z=>by
   obtain⟨v,q⟩:=I2.cell x c h
   exact aR _ (az q.lt (z ▸ hC))
  change wpAny (model X.prog X.w) X.A (assign (.Name x be) X.env (Value.ref D0)) _ _ s4
  refine wpAny_assign_Name (Z4j (v:=.ref D0) Ib hN jH hx rfl (fun s5 I5 bp=>?_) hf)
  obtain⟨a,kO,ha⟩:=bp
  obtain⟨m4,iV,_⟩:=id I4.loc
  have m9:C≠a:=by
   rcases ha with ha | ha
   ·rw [ha];exact jY
   ·exact fun z=>jX _ _ ha z.symm
  refine⟨m4,iV.sameBut kO m9,fun h' sb=>?_⟩
  have ma:H4 C=none:=I4.free
  have I6:A1 X ae (σ.set i (some (.ref D0))) (upd H4 D0 (.ext (LO D0 (bs.map V.ref)))) { s5 with heap:=h' }:=by
   refine I5.turned (t':=s5.toks) (it:=C) (fun b o hb e=>(sb.2 b hb).trans e) (by rw [A6 (bn cE)];exact ma) jY (.inr (aX I2.sz hC)) jX fun p hp z=>?_
   have:=(I2.pin p hp).1
   exact aR _ (az (au this) (z ▸ hC))
  have fi:A5 H (upd H4 D0 (.ext (LO D0 (bs.map V.ref)))):=cN.trans (gE.trans (G0 hn _))
  have cM:=(hR.mono fi).set (i:=i) (s:=.ll D0 dss) (v:=.ref D0) ⟨rfl,bs,⟨upd_same,((hR.same.trans cN).trans gE).free hn,fun z=>by obtain⟨xs,q⟩:=ll.mem z;rw [hn]at q;cases q⟩,nd,fun b hb=>(hR.same.trans cN).free (fr b hb),ll.keep (Kp.of (G0 hn _)) fun c φ q=>by rw [A6 (V9 q hn)];exact q⟩ fun m=>by cases m
  exact⟨_,_,I6,w3 D0 _ _ (Kp.of fi) cM⟩
end
theorem B5.hid {κ:Type}{K:Fg9}{S:List Addr}{H:Hp} (hS:S9 S H):∀{kvs:List (κ×D)}{ps:List (κ×V)},B5 K H kvs ps->B5 K (K2 S H) kvs ps
 | [],ps,h=>h
 | p::kvs,ps,h=>by obtain⟨v,r,e,q,t⟩:=h;exact⟨v,r,e,A3.hid hS _ _ q,B5.hid hS t⟩
theorem N5.hid {K:Fg9}{a:Addr}{kvs:List (B0×D)}:Q1b (N5 K a kvs):=fun S H hS ⟨o,ps,h,q⟩=>by
 refine⟨o,ps,?_,q.hid hS⟩
 rw [Z4]
 ·exact h
 ·intro ha
  obtain⟨o',u,e,_⟩:=hS a ha
  rw [h]at e
  cases e
section
variable {X:Cx}{H0:Hp}{st:Stmt}{w:WS}{a b c e o:Expr}{wa wb wi we wv wk:WE}{wr:WA}{i j nt:Nat}{cap:List Nat}{kg:P5}{g:WG} {τ:A8}{E:G8}{K:Fg9}{Q:R->Prop}
def Q9u (i:Nat) (w:WS):WS:=fun E τ=>w { E with nx:=fun τ'=>∃ds,τ'[i]?=some (some (.own ds))/\E.nx (τ'.set i (some (.dat (.lst ds)))) } τ
theorem DS.fzO (i:Nat) (h:DS X H0 st w):DS X H0 st (Q9u i w) where
 mono:=fun τ E F le q=>h.mono τ { E with nx:=fun τ'=>∃ds,τ'[i]?=some (some (.own ds))/\E.nx (τ'.set i (some (.dat (.lst ds)))) } { F with nx:=fun τ'=>∃ds,τ'[i]?=some (some (.own ds))/\F.nx (τ'.set i (some (.dat (.lst ds)))) } ⟨fun τ' ⟨ds,e,q⟩=>⟨ds,e,le.nx _ q⟩,le.rt,le.bk,le.ct⟩ q
 ps:=O2 (Q6f h.ps) fun D σ H ⟨τ,hR,q⟩=>⟨τ,hR,h.mono τ { M6 X.K H0 H D with nx:=fun τ'=>∃ds,τ'[i]?=some (some (.own ds))/\(M6 X.K H0 H D).nx (τ'.set i (some (.dat (.lst ds)))) } _ ⟨fun τ' ⟨ds,e,q⟩ σ' H' kp cM ae s I=>by
  obtain⟨a,xs,hv,h0,sq,al⟩:=cM.ownAt e
  obtain⟨o,I2⟩:=A1.freeze I sq
  exact⟨_,I2,q σ' _ (kp.trans (Kp.upd sq _)) (cM.freeze e hv h0 sq al)⟩,fun _ h=>h,fun _ h=>h,fun _ h=>h⟩ q⟩
@[simp] theorem Y2n:Q9u i w E τ=w { E with nx:=fun τ'=>∃ds,τ'[i]?=some (some (.own ds))/\E.nx (τ'.set i (some (.dat (.lst ds)))) } τ:=rfl
@[simp] theorem W5h:Z4y K i w E τ=w { E with nx:=fun τ'=>∃kvs,τ'[i]?=some (some (.dk kvs))/\∀a,E.nx (τ'.set i (some (.cl a (N5 K a kvs)))) } τ:=rfl
@[simp] theorem Y2m:Q9t i w E τ=w { E with nx:=fun τ'=>∃a dss,τ'[i]?=some (some (.ll a dss))/\W3 i τ'=true/\E.nx (τ'.set i (some (.dat (.lst (dss.map .lst))))) } τ:=rfl
@[simp] theorem W6a:Z5j K i E τ=∃kvs,τ[i]?=some (some (.dk kvs))/\∀a,E.rt (.cl a (N5 K a kvs)):=rfl
@[simp] theorem W6c:Z5k i we E τ=we τ fun r=>∃a Φ,r=.cl a Φ/\E.nx (τ.set i (some (.cl a Φ))):=rfl
@[simp] theorem Y2l:Q9s K i we τ Q=∃a kvs,τ[i]?=some (some (.cl a (N5 K a kvs)))/\we τ fun r=>∃kd k d,r=.st kd/\P6 kd=some k/\D8 kvs k=some d/\Q (.st d):=rfl
@[simp] theorem W5g:Z4x K i we τ Q=∃a kvs,τ[i]?=some (some (.cl a (N5 K a kvs)))/\we τ fun r=>∃kd k,r=.st kd/\P6 kd=some k/\Q (.st ((D8 kvs k).getD .non)):=rfl
@[simp] theorem W5o:Z5b i E τ=E.nx (τ.set i (some (.dk []))):=rfl
@[simp] theorem W5p:Z5c i we wv E τ=(i<τ.length/\we τ fun rk=>∃kd k,rk=.st kd/\P6 kd=some k/\wv τ fun r=>∃d,r=.st d/\E.nx (τ.set i (some (.dk [(k,d)])))):=rfl
@[simp] theorem W5q:Q9v i we wv E τ=∃kvs,τ[i]?=some (some (.dk kvs))/\we τ fun rk=>∃kd k,rk=.st kd/\P6 kd=some k/\wv τ fun r=>∃d,r=.st d/\kvs.length<sizeLine/\E.nx (if (D8 kvs k).isSome=true then τ else τ.set i (some (.dk (kvs++[(k,d)])))):=rfl
@[simp] theorem W5n:Z5a i nt cap kg g wk wv E τ=kg τ fun ds=>ds.length<sizeLine/\V8 g wk wv ds (R5 nt cap τ) [] fun kvs=>E.nx (τ.set i (some (.dk kvs))):=rfl
@[simp] theorem W5s:Z5d i nt cap kg g we E τ=kg τ fun ds=>ds.length<=sizeLine/\Z3 g we ds (R5 nt cap τ) fun dss=>∀a,E.nx (τ.set i (some (.ll a dss))):=rfl
@[simp] theorem W5r:Q6r i we wv E τ=∃a dss,τ[i]?=some (some (.ll a dss))/\W3 i τ=true/\we τ fun r=>∃k j,r=.st (.int k)/\ixN dss.length k=some j/\wv τ fun r2=>∃d,r2=.st d/\(dss.getD j []).length<sizeLine/\E.nx (τ.set i (some (.ll a (dss.set j (dss.getD j []++[d]))))):=rfl
@[simp] theorem W5t {kvs:List (B0×D)}:Q3a [.dk kvs] Q=Q (.nw (kvs.map fun p=>kyD p.1)):=rfl
@[simp] theorem W5w {r:R}:Q0t [r] Q=∃ns:List Int,Q0r r=some (ns.map .int)/\ns≠[]/\∀m,m∈ns->(∀n∈ns,n<=m)->Q (.st (.int m)):=rfl
end
section
variable {P:Program}{w:World}{A:Around}{E:VS9}{s:Shared}{it t:Addr}{i:Nat}{items:Array Value}
theorem W0t {x:Value}{Q:VS9} (hit:s.heap.IsTupleIter it t i) (ht:s.heap.IsTuple t items) (hx:items[i]?=some x) (hQ:∀h',h'.IsTupleIter it t (i+1)->Heap.SameBut it s.heap h'->Q x { s with heap:=h' }) :
  wpAny (model P w) A (Builtin.SmallTypes.nextOf (.ref it)) Q E s:=by
 obtain⟨o,ho,hc,hd⟩:=id hit
 obtain⟨ol,lF,_,nl,lU⟩:=ht
 unfold Builtin.SmallTypes.nextOf;refine aa (dE (name:=Str.ofString "__next__") hit.typeIs jk (cV jk hit.typeIs F.entry_tuple_iterator_next ?_ (F.args_tuple_iterator_next_1 _)))
 change wpAny (model P w) A.in1 (field (Value.ref it) 0>>=_) _ _ s
 refine aa (bQ ho hd (x:=.ref t) rfl (?_:wpAny (model P w) A.in1 (if (Value.ref t==Value.none)=true then _ else _) _ _ s))
 rw [aI (show ¬ (Value.ref t==Value.none)=true from cJ)]
 change wpAny (model P w) A.in1 (field (Value.ref it) 1>>=_) _ _ s
 refine aa (bQ ho hd (x:=.int i 0) rfl (?_:wpAny (model P w) A.in1 (seqItems? (Value.ref t)>>=_) _ _ s))
 refine aa (bX lF lU ?_);simp only [Int.toNat_natCast,hx]
 refine aa (wpAny_setField ho hd (by simp) (aq ⟨x,rfl,aq (hQ _ ⟨_,cI _ ho (Obj.isFreed_of_fields (Obj.data_mapFields hd _)),(Obj.cls_mapFields ..).trans hc,by rw [Obj.data_mapFields hd];simp [rawInt]⟩ (bx ..))⟩))
theorem W0u {Q:VS9} (hh:A.handled=none) (hit:s.heap.IsTupleIter it t i) (ht:s.heap.IsTuple t items) (hx:items[i]?=none)
  (hE:∀h' e,Heap.ExtBut it s.heap h'->(∃o,h'.get? e=some o/\o.cls=.type "StopIteration")->E (.ref e) { s with heap:=h' }):wpAny (model P w) A (Builtin.SmallTypes.nextOf (.ref it)) Q E s:=by
 obtain⟨o,ho,hc,hd⟩:=id hit
 obtain⟨ol,lF,_,nl,lU⟩:=ht
 unfold Builtin.SmallTypes.nextOf;refine aa (dE (name:=Str.ofString "__next__") hit.typeIs jk (cV jk hit.typeIs F.entry_tuple_iterator_next ?_ (F.args_tuple_iterator_next_1 _)))
 change wpAny (model P w) A.in1 (field (Value.ref it) 0>>=_) _ _ s
 refine aa (bQ ho hd (x:=.ref t) rfl (?_:wpAny (model P w) A.in1 (if (Value.ref t==Value.none)=true then _ else _) _ _ s))
 rw [aI (show ¬ (Value.ref t==Value.none)=true from cJ)]
 change wpAny (model P w) A.in1 (field (Value.ref it) 1>>=_) _ _ s
 refine aa (bQ ho hd (x:=.int i 0) rfl (?_:wpAny (model P w) A.in1 (seqItems? (Value.ref t)>>=_) _ _ s))
 refine aa (bX lF lU ?_);simp only [Int.toNat_natCast,hx]
 refine aa (wpAny_rule (aa (wpAny_setField ho hd (by simp) (?_:wpAny (model P w) A.in1 (newExc (.type "StopIteration") []>>=_) _ _ _))))
 refine aa ?_;simp only [newExc,newTuple]
 refine aa (bU (?_) (by size_fits))
 refine aa (m:=firstArgMember _ _) (wpAny_of_eq (a:=Value.none) (by rfl) (bU ?_ (by size_fits)))
 simp only [raiseNew];refine aa (wpAny_handled ?_)
 rw [show A.in1.handled=none from hh]
 exact aa (aq (wpAny_throw (hE _ _ (((bx ..).extBut.push _).push _) ⟨_,aH _ rfl,rfl⟩)))
end
theorem Z1j {P:Program}{w:World}{A:Around} (hh:A.handled=none) (it t:Addr) (cj:t≠it) (items:Array Value) :
  Draws P w A it [it,t] items.size (fun i v=>items[i]?=some v) (fun i h=>h.IsTupleIter it t i/\h.IsTuple t items) where
 live:=fun _ _ st=>let ⟨o,ho,_⟩:=st.1;⟨o,ho⟩
 frame:=fun _ _ _ ⟨⟨o,ho,r⟩,o2,gN,r2⟩ hk=>⟨⟨o,hk it (by simp) o ho,r⟩,o2,hk t (by simp) o2 gN,r2⟩
 item:=fun i s Q E hi st hQ=>W0t st.1 st.2 (x:=items[i]) (by simp [hi]) fun h' lM jb=>hQ _ h' s.toks (by simp [hi]) ⟨lM,st.2.extBut jb.extBut cj⟩ jb
 done:=fun s Q E st hE=>W0u hh st.1 st.2 (by simp) hE
open AutoSeq1 (wpAny_loadPart') in
theorem Y7s (t:Addr) (items:Array Value) :
  Meets (Builtin.«enumerate.__new__» ⟨[.type "enumerate",.ref t],[]⟩) (fun _ R s=>s.heap.IsTuple t items /\
   R (.ok (.ret (.ref (s.heap.push { cls:=.type "tuple_iterator",data:=.fields #[.ref t,.int 0 0] }).objs.size)))
    { s with heap:=(s.heap.push { cls:=.type "tuple_iterator",data:=.fields #[.ref t,.int 0 0] }).push { cls:=.type "enumerate",data:=.fields #[.none,.bool false,.ref s.heap.objs.size,rawInt 0,.none,.none] } }) :=
 .of_wp fun prog w A R s h=>by
  obtain⟨hp,g,d,tk,os⟩:=s;obtain⟨hL,h⟩:=h
  obtain⟨⟨c,sd,dt,sl⟩,hl,hc,n,hd⟩:=id hL
  replace hc:c=.type "tuple":=hc
  replace hd:dt=.seq items n:=hd
  subst hc hd
  have hL:Heap.IsTuple (Shared.heap ⟨hp,g,d,tk,os⟩) t items:=hL
  have hsub:=sub_enumerate
  wp_walk using wpAny_loadPart' hl
  refine wpAny_stack_any fun st=>aq ?_
  split
  ·rename_i c _ _ _ _ _
   cases (c==Value.type "enumerate") <;> (wp_walk using wpAny_loadPart' hl,wpAny_pyIter_tuple hL) <;> exact⟨_,rfl,h⟩
  ·wp_walk using wpAny_loadPart' hl,wpAny_pyIter_tuple hL
   exact⟨_,rfl,h⟩
section
variable {P:Program}{w:World}{A:Around}{E:VS9}{s:Shared}
theorem Z7y {t:Addr}{items:Array Value}{Q:VS9} (ht:s.heap.IsTuple t items)
  (h:∀h',IsEnum h' (s.heap.objs.size+1) s.heap.objs.size 0 .none->h'.IsTupleIter s.heap.objs.size t 0->h'.objs.size=s.heap.objs.size+2->(∀b o,s.heap.get? b=some o->h'.get? b=some o)->Q (.ref (s.heap.objs.size+1)) { s with heap:=h' }) :
  wpAny (model P w) A (call (.type "enumerate") [.ref t]) Q E s:=by
 refine callType_new F.called_enumerate (by decide) (F.typeCall_enumerate_1 _) (F.newCall_enumerate_1 _) (fun obj=>F.args_object_init_2 obj _) F.entry_enumerate_new (Y7s t items) ⟨ht,?_⟩
 have hz:(s.heap.push { cls:=.type "tuple_iterator",data:=.fields #[.ref t,.int 0 0] }).objs.size=s.heap.objs.size+1:=br ..
 have he:IsEnum ((s.heap.push { cls:=.type "tuple_iterator",data:=.fields #[.ref t,.int 0 0] }).push { cls:=.type "enumerate",data:=.fields #[.none,.bool false,.ref s.heap.objs.size,rawInt 0,.none,.none] }) (s.heap.objs.size+1) s.heap.objs.size 0 .none:=by
  have e:=aH (s.heap.push { cls:=.type "tuple_iterator",data:=.fields #[.ref t,.int 0 0] }) (o:={ cls:=.type "enumerate",data:=.fields #[.none,.bool false,.ref s.heap.objs.size,rawInt 0,.none,.none] }) rfl
  rw [hz]at e;exact e
 rw [hz]
 exact⟨⟨_,he,rfl⟩,h _ he ⟨_,af _ (aH _ rfl),rfl,rfl⟩ (by rw [br,hz]) fun b o x=>af _ (af _ x)⟩
end
noncomputable def Iet (K:Fg9) (l:Addr):It:=⟨fun i H=>∃xs x,C6 K H l xs/\xs[i]?=some x,fun i H v H'=>∃T x,(∀xs,C6 K H l xs->xs[i]?=some x)/\H T=none/\v=.ref T/\H'=upd H T (.tup [.int (i:Int),x]),fun i H=>∃xs,C6 K H l xs/\xs.length=i⟩
theorem Y4m {P:Program}{w:World}{K:Fg9}{cS:List Expr}{kk:Nat}{pt:Pos}{en it l:Addr} (cj:en≠it) (fB:l≠en) (jG:l≠it) :
  Q1c P w K (.Tuple cS kk pt) (Iet K l) [en,it] en (fun i h=>(∃old,IsEnum h en it i old)/\h.IsTupleIter it l i) where
 mem:=by simp
 obj:=fun i h st b hb=>by
  obtain⟨⟨old,he⟩,o,ho,_,d⟩:=st
  rcases ao.mp hb with rfl | hb
  ·exact⟨_,he,fun v z=>by cases z⟩
  ·have e:b=it:=by simpa using hb
   subst e
   exact⟨o,ho,fun v z=>by rw [d]at z;cases z⟩
 keep:=fun i h h' ⟨⟨old,he⟩,o,ho,r⟩ k=>⟨⟨old,k en (by simp) _ he⟩,o,k it (by simp) o ho,r⟩
 item:=by
  intro X hP hw hK hc i ae s σ H E I hf st hg
  subst hP hw hK
  obtain⟨xs,x,hq,hx⟩:=hg
  obtain⟨aV,rv,p,hz⟩:=I.tuple hq
  have W:=WalksT.enumerateD (Z1j (P:=X.prog) (w:=X.w) (A:=X.A.in1) (show X.A.in1.handled=none from I.ok.hd hc) it l jG aV.toArray) en cj (by simp;exact⟨cj,fun z=>fB z.symm⟩) (by simp)
  obtain⟨u,hu,ru⟩:=rv.get hx
  have bE:i<aV.toArray.size:=by
   rcases bo i aV.length with h | h
   ·simpa using h
   ·rw [aC.mpr h]at hu;cases hu
  refine W.item i s _ _ bE ⟨st.1,st.2,p⟩ fun T ff h' tk hv hT jV i7 k=>?_
  obtain⟨t1,y,hy,rfl⟩:=hv
  have ey:y=u:=by
   have:aV[i]?=some y:=by simpa using hy
   rw [hu]at this;exact(ay this).symm
  subst ey
  refine⟨_,rfl,W.go cS kk pt i T { s with heap:=h',toks:=tk } _ _ i7 fun h2 cX k2=>?_⟩
  have iN:∀b o,b∉[en,it]->s.heap.get? b=some o->h2.get? b=some o:=fun b o hb e=>k2 b o hb (k b o hb e)
  have ij:=W.apart i T h' i7
  have eQ:IsTup h2 T ([Value.int (i:Int) t1,y]).toArray:=by
   obtain⟨o,ho,r⟩:=jV
   exact⟨o,k2 T o ij ho,r⟩
  have I2:=Q9n (t':=tk) (xs:=[.int (i:Int),x]) I iN hf hT eQ (.cons ⟨t1,rfl⟩ (.cons ru .nil)) (by show 2<=sizeLine;decide)
  refine⟨.ref T,_,I2,rfl,⟨T,x,fun ys hy=>by rw [I.tuple_inj hy hq];exact hx,I.hok.fresh hT,rfl,rfl⟩,⟨cX.1,cX.2.1⟩,fun b hb=>?_⟩
  rw [A6 (show b≠T from fun z=>ij (by rw [<- z];exact hb))]
  exact(hf b hb).1
 done:=by
  intro X hP hw hK hc i ae s σ H E I hf st hg
  subst hP hw hK
  obtain⟨xs,hq,hx⟩:=hg
  obtain⟨aV,rv,p,hz⟩:=I.tuple hq
  have W:=WalksT.enumerateD (Z1j (P:=X.prog) (w:=X.w) (A:=X.A.in1) (show X.A.in1.handled=none from I.ok.hd hc) it l jG aV.toArray) en cj (by simp;exact⟨cj,fun z=>fB z.symm⟩) (by simp)
  have hl:=rv.length
  have e:i=aV.toArray.size:=by simp;omega
  subst e
  exact W.done s _ _ ⟨st.1,st.2,p⟩ fun h' tk k=>⟨rfl,Q4q I k hf⟩
 self:=fun A i s Q E ⟨⟨old,he⟩,_⟩ h=>cf he h
theorem Z0a {K:Fg9}{H0 H:Hp}{l:Addr}{xs:List V}{ds:List D} (hq:H l=some (.tup xs)) (al:AllS K H ds xs):Yl K H0 (Iet K l) (J4 ds) H where
 go:=fun H' k s i hi=>by
  rw [Q1z]at hi
  exact⟨xs,xs[i]'(by rw [<- al.length];exact hi),C6.of (k.tup _ _ hq),ac _⟩
 yld:=fun H' k s i v cT d hd ⟨T,x,hx,hT,hv,hH⟩=>by
  subst hH hv
  refine⟨G0 hT _,?_⟩
  obtain⟨y,hy,rfl⟩:=Q7n hd
  obtain⟨v,hv,q⟩:=al.get hy
  rw [hx xs (C6.of (k.tup _ _ hq))]at hv;cases hv
  exact A3.s_tup upd_same (AllS.cons A3.s_int (AllS.cons (q.mono (k.trans (Kp.of (G0 hT _))) _ _) AllS.nil))
 stop:=fun H' k s=>⟨xs,C6.of (k.tup _ _ hq),by rw [Q1z];exact al.length.symm⟩
theorem W8h {K:Fg9}{H0 H:Hp}{x:Str}:Yl K H0 (Ies x) (J4 (T0 x)) H where
 go:=fun H' _ _ i hi=>(Z6h (K:=K) (H:=H')).go H' (A5.refl _) i hi
 yld:=fun H' _ _ i v cT d hd h=>(Z6h (K:=K) (H:=H')).yld H' (A5.refl _) i v cT d hd h
 stop:=fun H' _ _=>(Z6h (K:=K) (H:=H')).stop H' (A5.refl _)
section
variable {X:Cx}{H0:Hp}{a:Expr}{p pos:Pos}{wr:WA}
def Q3x (wr:WA):WI:=fun τ Q=>wr τ fun rs=>(∃x,rs=[.st (.str x)]/\Q (J4 (T0 x)) τ)\/∃ds,rs=[.st (.tup ds)]/\Q (J4 ds) τ
theorem DI.enumX {cS:List Expr}{kk:Nat}{pt:Pos} (hg:Gl X "enumerate") (hm:X.mg "enumerate"=none) (hv:bootBuiltins "enumerate"=some (.type "enumerate")) (ha:DA X H0 [a] wr) (he:starEach [a] X.env=(false,eval a X.env)::starEach [] X.env:=by rfl) (hpl:(backTo pos (starEach [] X.env)).any (·.1)=false:=by rfl) :
  DI X H0 (.Tuple cS kk pt) (.Call (.Name "enumerate" p) [a] [] pos) (Q3x wr) where
 mono:=fun τ P Q f h=>ha.mono τ _ _ (fun r h=>h.imp (fun⟨x,e1,q⟩=>⟨x,e1,f _ _ q⟩) fun⟨ds,e1,q⟩=>⟨ds,e1,f _ _ q⟩) h
 pi:=by
  intro ae s σ H R I ⟨τ,hR,h⟩
  refine bq (Q2f I hg hm hv ?_ (by decide) (by decide))
  refine bv (B2 (ha.pa pos ae s σ H (fun vs H1=>A5 H H1/\((∃x,vs=[.str x]/\∀J H',Kp H H'->B4 X.K H0 τ σ H'->Yl X.K H0 J (J4 (T0 x)) H'->R J H') \/
    ∃l xs ds,vs=[.ref l]/\H1 l=some (.tup xs)/\AllS X.K H1 ds xs/\∀J H',Kp H H'->B4 X.K H0 τ σ H'->Yl X.K H0 J (J4 ds) H'->R J H')) I
   ⟨τ,hR,ha.mono τ _ _ (fun rs h vs H1 s1 cx=>⟨s1,?_⟩) h⟩) fun us s1 ⟨vs,H1,I1,rv,sm,hh⟩=>?_) he hpl
  ·rcases h with⟨x,e1,q⟩ | ⟨ds,e1,q⟩
   ·subst e1
    obtain⟨v,rfl,ir⟩:=Q0a cx
    cases (show v=.str x from ir)
    exact .inl ⟨x,rfl,q⟩
   ·subst e1
    obtain⟨v,rfl,ir⟩:=Q0a cx
    have ir:A3 X.K H1 (.tup ds) v:=ir
    unfold A3 at ir
    obtain⟨l,xs,rfl,sq,al⟩:=ir
    exact .inr ⟨l,xs,ds,rfl,sq,al,q⟩
  ·have big:∀b∈[s1.heap.objs.size+1,s1.heap.objs.size],K9 X ae H1 b:=fun b hb=>by
    have hb:s1.heap.objs.size<=b:=by
     rcases ao.mp hb with rfl | hb
     ·exact eU _
     ·have e:b=s1.heap.objs.size:=by simpa using hb
      rw [e];exact ai _
    exact I1.fpOk hb (I1.hok.fresh hb)
   rcases hh with⟨x,rfl,q⟩ | ⟨l,xs,ds,rfl,sq,al,q⟩
   ·obtain⟨u,rfl,ru⟩:=Z8 rv
    obtain⟨t,rfl⟩:=ru
    refine call_enumerate_str fun h' he hi hz k=>?_
    exact cf he ⟨s1.heap.objs.size+1,[s1.heap.objs.size+1,s1.heap.objs.size],_,_,H1,rfl,I1.kept (t':=s1.toks) k,W7q (x:=x) (t:=t) (fH _),⟨⟨_,he⟩,hi⟩,big,q _ _ (Kp.of sm) (hR.mono sm) W8h⟩
   ·obtain⟨u,rfl,ru⟩:=Z8 rv
    cases (show u=Value.ref l from ru)
    obtain⟨aV,gg,pl,i8⟩:=I1.tuple (C6.of sq)
    have hl:l<s1.heap.objs.size:=by obtain⟨o,ho,_⟩:=pl;exact au ho
    refine Z7y pl fun h' he hi hz k=>?_
    exact cf he ⟨s1.heap.objs.size+1,[s1.heap.objs.size+1,s1.heap.objs.size],_,_,H1,rfl,I1.kept (t':=s1.toks) k,Y4m (l:=l) (fH _) (av (bi hl)) (av hl),⟨⟨_,he⟩,hi⟩,big,q _ _ (Kp.of sm) (hR.mono sm) (Z0a sq al)⟩
@[simp] theorem Y2o {τ:A8}{Q:List D->A8->Prop}:Q3x wr τ Q=wr τ fun rs=>(∃x,rs=[.st (.str x)]/\Q (J4 (T0 x)) τ)\/∃ds,rs=[.st (.tup ds)]/\Q (J4 ds) τ:=rfl
end
theorem W8k {K:Fg9}{H:Hp}{l:Addr}{xs:List V}{ds:List D} (hq:H l=some (.tup xs)) (al:AllS K H ds xs):YlS K (Iet K l) (J4 ds) H where
 go:=fun H' s i hi=>(Z0a (H0:=H) hq al).go H' (Kp.of s) s i hi
 yld:=fun H' s i v cT d hd h=>(Z0a (H0:=H) hq al).yld H' (Kp.of s) s i v cT d hd h
 stop:=fun H' s=>(Z0a (H0:=H) hq al).stop H' (Kp.of s) s
section
variable {X:Cx}{H0:Hp}{a:Expr}{p pos:Pos}{wr:WA}
noncomputable def T1:R->Option (List D)
 | .st (.tup ds)=>some ds
 | r=>Q0r r
noncomputable def Z1y (wr:WA):P5:=fun τ Q=>wr τ fun rs=>∃r ds,rs=[r]/\T1 r=some ds/\Q (J4 ds)
theorem F7.enumX {cS:List Expr}{kk:Nat}{pt p:Pos} (hg:Gl X "enumerate") (hm:X.mg "enumerate"=none) (hv:bootBuiltins "enumerate"=some (.type "enumerate")) (ha:DA X H0 [a] wr) (he:starEach [a] X.env=(false,eval a X.env)::starEach [] X.env:=by rfl) (hpl:(backTo pos (starEach [] X.env)).any (·.1)=false:=by rfl) :
  F7 X H0 (.Tuple cS kk pt) (.Call (.Name "enumerate" p) [a] [] pos) (Z1y wr) where
 mono:=fun τ P Q f h=>ha.mono τ _ _ (fun r ⟨r',ds,e1,e2,q⟩=>⟨r',ds,e1,e2,f _ q⟩) h
 pi:=by
  intro ae s σ H R I ⟨τ,hR,h⟩
  refine bq (Q2f I hg hm hv ?_ (by decide) (by decide))
  refine bv (B2 (ha.pa pos ae s σ H (fun vs H1=>A5 H H1/\((∃l xs ds,vs=[.ref l]/\H1 l=some (.tup xs)/\AllS X.K H1 ds xs/\∀J H',A5 H H'->YlS X.K J (J4 ds) H'->R J H')\/∃l xs ds,vs=[.ref l]/\E3 X.K H1 l xs/\AllS X.K H1 ds xs/\∀J H',A5 H H'->YlS X.K J (J4 ds) H'->R J H')) I
   ⟨τ,hR,ha.mono τ _ _ (fun rs h vs H1 s1 cx=>⟨s1,?_⟩) h⟩) fun us s1 ⟨vs,H1,I1,rv,sm,hh⟩=>?_) he hpl
  ·obtain⟨r,ds,e1,e2,q⟩:=h
   subst e1
   obtain⟨v,rfl,ir⟩:=Q0a cx
   by_cases ht:∃es,r=.st (.tup es)
   ·obtain⟨es,rfl⟩:=ht
    cases e2
    have ir:A3 X.K H1 (.tup ds) v:=ir
    unfold A3 at ir
    obtain⟨l,xs,rfl,sq,al⟩:=ir
    exact .inl ⟨l,xs,ds,rfl,sq,al,q⟩
   ·have e2:Q0r r=some ds:=by
     unfold T1 at e2
     split at e2
     ·exact absurd ⟨_,rfl⟩ ht
     ·exact e2
    obtain⟨l,xs,rfl,sq,al⟩:=Q8c e2 ir
    exact .inr ⟨l,xs,ds,rfl,sq,al,q⟩
  ·have big:∀b∈[s1.heap.objs.size+1,s1.heap.objs.size],K9 X ae H1 b:=fun b hb=>by
    have hb:s1.heap.objs.size<=b:=by
     rcases ao.mp hb with rfl | hb
     ·exact eU _
     ·have e:b=s1.heap.objs.size:=by simpa using hb
      rw [e];exact ai _
    exact I1.fpOk hb (I1.hok.fresh hb)
   rcases hh with⟨l,xs,ds,rfl,sq,al,q⟩ | ⟨l,xs,ds,rfl,sq,al,q⟩
   ·obtain⟨u,rfl,ru⟩:=Z8 rv
    cases (show u=Value.ref l from ru)
    obtain⟨aV,gg,pl,i8⟩:=I1.tuple (C6.of sq)
    have hl:l<s1.heap.objs.size:=by obtain⟨o,ho,_⟩:=pl;exact au ho
    refine Z7y pl fun h' he hi hz k=>?_
    exact cf he ⟨s1.heap.objs.size+1,[s1.heap.objs.size+1,s1.heap.objs.size],_,_,H1,rfl,I1.kept (t':=s1.toks) k,Y4m (l:=l) (fH _) (av (bi hl)) (av hl),⟨⟨_,he⟩,hi⟩,big,q _ _ sm (W8k sq al)⟩
   ·obtain⟨u,rfl,ru⟩:=Z8 rv
    cases (show u=Value.ref l from ru)
    obtain⟨aV,gg,pl,i8⟩:=I1.list sq
    obtain⟨o,n,ho,_⟩:=id pl
    have hl:l<s1.heap.objs.size:=au ho
    refine call_enumerate_list pl.isList fun h' he hi hz k=>?_
    refine cf he ⟨s1.heap.objs.size+1,[s1.heap.objs.size+1,s1.heap.objs.size],_,_,H1,rfl,I1.kept (t':=s1.toks) k,Y4l (l:=l) (fH _) (av (bi hl)) (av hl),⟨⟨_,he⟩,hi⟩,big,q _ _ sm (W8j sq al)⟩
@[simp] theorem W5l {τ:A8}{Q:List D->Prop}:Z1y wr τ Q=wr τ fun rs=>∃r ds,rs=[r]/\T1 r=some ds/\Q (J4 ds):=rfl
end
section
variable {X:Cx}{ae:Pn9} {σ:St}{H:Hp}{s:Shared}
end
section
variable {X:Cx}
theorem W6q {K:Fg9}{H0 H:Hp}{r:R}{ds:List D}{v:V} (e:T1 r=some ds) (h:E4 K H0 H r v):∃a xs,v=.ref a/\(E3 K H a xs\/C6 K H a xs)/\AllS K H ds xs:=by
 by_cases ht:∃es,r=.st (.tup es)
 ·obtain⟨es,rfl⟩:=ht
  cases e
  have h:A3 K H (.tup ds) v:=h
  unfold A3 at h
  obtain⟨l,xs,rfl,sq,al⟩:=h
  exact⟨l,xs,rfl,.inr (C6.of sq),al⟩
 ·have e2:Q0r r=some ds:=by
   unfold T1 at e
   split at e
   ·exact absurd ⟨_,rfl⟩ ht
   ·exact e
  obtain⟨l,xs,rfl,sq,al⟩:=Q8c e2 h
  exact⟨l,xs,rfl,.inl sq,al⟩
end
structure Q1t (z TI TO i1 i2:Addr) (gy gx:List Addr):Prop where
 tiz:TI≠z
 toz:TO≠z
 i1z:i1≠z
 i2z:i2≠z
 tito:TI≠TO
 ti1:TI≠i1
 ti2:TI≠i2
 to1:TO≠i1
 to2:TO≠i2
 i12:i1≠i2
 f1:∀b∈gy,b≠z/\b≠TO/\b≠i2
 f2:∀b∈gx,b≠z/\b≠TO/\b≠i1
abbrev IsZ (h:Heap) (z TI TO:Addr) (f0:Value) (f:Bool):Prop :=
 h.get? z=some { cls:=.type "zip",dict:=none,data:=.fields #[f0,.bool f,.bool false,.ref TI,.ref TO],slots:=#[] }
def Y9 (h:Heap) (z TI TO:Addr):Prop:=∃f0 f,IsZ h z TI TO f0 f/\(f0=.none\/∃T:Addr,f0=rawInt T)
section
variable {P:Program}{w:World}{A:Around}{E:VS9}{s:Shared}{z TI TO i1 i2:Addr}{gy gx:List Addr}{n1 n2 k:Nat}{P1 P2:Nat->Value->Prop}{S1 S2:Nat->Heap->Prop}{a b:Value}
theorem S0 {it:Addr}{fp:List Addr}{n i:Nat}{Q:Nat->Value->Prop}{S:Nat->Heap->Prop} (D:Draws P w A it fp n Q S) {h h':Heap}{c:Addr} (st:S i h) (sb:Heap.ExtBut c h h') (hc:∀b∈fp,b≠c):S i h':=D.frame _ _ _ st fun b hb o e=>sb b o (hc b hb) e
theorem Y5k {Q:Bool->Shared->Prop} (hz:Y9 s.heap z TI TO) (h1:∀f0 f,IsZ s.heap z TI TO f0 f->Q true s) (h2:∀h' (T:Addr),IsZ h' z TI TO (rawInt T) true->Heap.SameBut z s.heap h'->Q false { s with heap:=h' }) :
  wpAny (model P w) A (Builtin.SmallTypes.ownedTupleIsFree (.ref z)) Q E s:=by
 obtain⟨f0,f,hz,rfl | ⟨T,rfl⟩⟩:=hz
 ·unfold Builtin.SmallTypes.ownedTupleIsFree;exact aa (bQ hz rfl (x:=.none) rfl (aq (h1 _ _ hz)))
 ·unfold Builtin.SmallTypes.ownedTupleIsFree;refine aa (bQ hz rfl (x:=rawInt T) rfl ?_)
  change wpAny (model P w) A (loadIfAlive ((T:Int).toNat)>>=_) _ _ _
  rw [Int.toNat_natCast]
  refine aa ?_
  cases e:s.heap.get? T with
  | none =>
   have mo:∀{Q:Option Obj->Shared->Prop},Q none s->wpAny (model P w) A (loadIfAlive T) Q E s:=fun {Q} h=>by
    have h':Q (s.heap.get? T) s:=by rw [e];exact h
    exact fun _ _ _=>h'
   refine mo ?_
   rw [aM (show(none:Option Obj).isNone=true from rfl)]
   exact aq (h1 _ _ hz)
  | some o =>
   refine PySem.W.kdx_alive e ?_
   rw [aI (by simp)]
   refine aa (bQ hz rfl (x:=.bool f) rfl ?_)
   cases f with
   | true =>
    rw [aI (by decide)]
    exact aq (h2 s.heap T hz (Heap.SameBut.refl _ _))
   | false =>
    rw [aM (by decide)]
    exact aa (bW hz (by simp) fun h₃ qy pS=>aq (h2 h₃ T qy pS))
theorem W8r {Q:VS9} (Z:Q1t z TI TO i1 i2 gy gx) (D1:Draws P w A i1 gy n1 P1 S1) (D2:Draws P w A i2 gx n2 P2 S2) (js:Y9 s.heap z TI TO) (fu:IsPair s.heap TI (.ref i1) (.ref i2)) (eZ:IsPair s.heap TO a b) (h1:S1 k s.heap) (h2:S2 k s.heap) (l1:k<n1) (l2:k<n2)
  (hQ:∀h' tk x y,P1 k x->P2 k y->Y9 h' z TI TO->(∃a b,IsPair h' TO a b)->S1 (k+1) h'->S2 (k+1) h'->IsPair h' s.heap.objs.size x y->h'.objs.size=s.heap.objs.size+1->(∀c o,c≠z->c≠TO->c≠i1->c≠i2->s.heap.get? c=some o->h'.get? c=some o)->Q (.ref s.heap.objs.size) { s with heap:=h',toks:=tk }) :
  wpAny (model P w) A (Builtin.«zip.__next__» ⟨[.ref z],[]⟩) (fun fin s'=>∃v,fin=.done (.ret v)/\Q v s') E s:=by
 obtain⟨f0,f,hz,hf⟩:=id js
 change wpAny (model P w) A (field (.ref z) 2>>=_) _ _ s
 refine aa (bQ hz rfl (x:=Value.bool false) rfl ?_)
 change wpAny (model P w) A (field (.ref z) 3>>=_) _ _ s
 refine aa (bQ hz rfl (x:=.ref TI) rfl (aa (bX fu rfl ?_)))
 change wpAny (model P w) A (Builtin.SmallTypes.ownedTupleIsFree (.ref z)>>=_) _ _ s
 refine aa (Y5k js (fun f0 f hz=>?_) fun g₁ T fR dz=>?_)
 ·rw [aM rfl]
  refine aa (wpAny_rule (aa (bQ hz rfl (x:=.ref TO) rfl (aa (bW hz (by simp) fun g₁ fR dz=>?_)))))
  have fR:IsZ g₁ z TI TO .ellipsis f:=fR
  refine aa ?_
  simp only [cn,List.zipIdx_nil,bN,List.forIn_nil];refine aa (aa (wpAny_onRaise ?_))
  change wpAny (model P w) A (Builtin.SmallTypes.nextOf (.ref i1)>>=_) _ _ _
  refine aa (D1.item k _ _ _ l1 (S0 D1 h1 dz.extBut fun b hb=>(Z.f1 b hb).1) fun x g₂ kI px k6 dh=>aq ?_)
  have g6:IsPair g₂ TO a b:=dh.extBut _ _ Z.to1 (dz.extBut _ _ Z.toz eZ)
  refine aa (bX g6 rfl (aa (wpAny_updateSeq_pair g6 fun g₃ gW dJ=>aa (wpAny_letGo (aq ?_)))))
  have gW:IsPair g₃ TO x b:=gW
  refine aa (aa (wpAny_onRaise ?q))
  change wpAny (model P w) A (Builtin.SmallTypes.nextOf (.ref i2)>>=_) _ _ _
  have jZ:S2 k g₃:=S0 D2 (S0 D2 (S0 D2 h2 dz.extBut fun b hb=>(Z.f2 b hb).1) dh.extBut fun b hb=>(Z.f2 b hb).2.2) dJ.extBut fun b hb=>(Z.f2 b hb).2.1
  refine aa (D2.item k _ _ _ l2 jZ fun y g₄ oN py qV i3=>aq ?_)
  have jU:IsPair g₄ TO x b:=i3.extBut _ _ Z.to2 gW
  refine aa (bX jU rfl (aa (wpAny_updateSeq_pair jU fun g₅ gU i0=>aa (wpAny_letGo (aq (aq ?_))))))
  have gU:IsPair g₅ TO x y:=gU
  refine aa (bX gU rfl (aa (wpAny_newTuple ?_)))
  have hsz:g₅.objs.size=s.heap.objs.size:=by rw [i0.1,i3.1,dJ.1,dh.1,dz.1]
  have mX:IsZ g₅ z TI TO .ellipsis f:=i0.extBut _ _ Z.toz.symm (i3.extBut _ _ Z.i2z.symm (dJ.extBut _ _ Z.toz.symm (dh.extBut _ _ Z.i1z.symm fR)))
  have qi:∀c o,c≠z->c≠TO->c≠i1->c≠i2->s.heap.get? c=some o->g₅.get? c=some o:=fun c o c1 c2 c3 c4 e=>i0.extBut _ _ c2 (i3.extBut _ _ c4 (dJ.extBut _ _ c2 (dh.extBut _ _ c3 (dz.extBut _ _ c1 e))))
  have qW:S1 (k+1) g₅:=S0 D1 (S0 D1 (S0 D1 k6 dJ.extBut fun b hb=>(Z.f1 b hb).2.1) i3.extBut fun b hb=>(Z.f1 b hb).2.2) i0.extBut fun b hb=>(Z.f1 b hb).2.1
  have qU:S2 (k+1) g₅:=S0 D2 qV i0.extBut fun b hb=>(Z.f2 b hb).2.1
  have jt:z<g₅.objs.size:=au mX
  change wpAny (model P w) A (Builtin.SmallTypes.ownedTupleHandOut (.ref z) (Value.ref g₅.objs.size)>>=_) _ _ _
  refine aa ?_
  unfold Builtin.SmallTypes.ownedTupleHandOut;refine aa (bW (af _ mX:IsZ (g₅.push { cls:=.type "tuple",data:=.seq #[x,y] }) z TI TO .ellipsis f) (by simp) fun g₇ lm kL=>?_)
  have lm:IsZ g₇ z TI TO (rawInt g₅.objs.size) f:=lm
  refine bW lm (by simp) fun g₈ ko kK=>aq ⟨_,rfl,?_⟩
  have ko:IsZ g₈ z TI TO (rawInt g₅.objs.size) false:=ko
  have up:∀c o,c≠z->g₅.get? c=some o->g₈.get? c=some o:=fun c o c1 e=>kK.extBut _ _ c1 (kL.extBut _ _ c1 (af _ e))
  have nE:IsPair g₈ g₅.objs.size x y:=kK.extBut _ _ (Nat.ne_of_gt jt) (kL.extBut _ _ (Nat.ne_of_gt jt) (aH _ rfl))
  rw [hsz]at ko nE
  have goal:=hQ g₈ oN x y px py ⟨_,_,ko,.inr ⟨_,rfl⟩⟩ ⟨_,_,up _ _ Z.toz gU⟩ (D1.frame _ _ _ qW fun b hb o e=>up b o (Z.f1 b hb).1 e) (D2.frame _ _ _ qU fun b hb o e=>up b o (Z.f2 b hb).1 e) nE (by rw [kK.1,kL.1,br,hsz]) fun c o c1 c2 c3 c4 e=>up c o c1 (qi c o c1 c2 c3 c4 e)
  rw [<- hsz]at goal
  exact goal
 ·rw [aI (by decide)]
  refine aa ?_
  rw [<- Array.forIn_toList]
  rw [bN]
  refine aa (aa (bJ ?_))
  change wpAny (model P w) A (Builtin.SmallTypes.nextOf (.ref i1)>>=fun x=>pure (some x)) _ _ _
  refine aa (D1.item k _ _ _ l1 (S0 D1 h1 dz.extBut fun b hb=>(Z.f1 b hb).1) fun x g₂ kI px k6 dh=>aq (aq ?_))
  dsimp only
  rw [bN]
  refine aa (aa (bJ ?_))
  change wpAny (model P w) A (Builtin.SmallTypes.nextOf (.ref i2)>>=fun x=>pure (some x)) _ _ _
  have me:S2 k g₂:=S0 D2 (S0 D2 h2 dz.extBut fun b hb=>(Z.f2 b hb).1) dh.extBut fun b hb=>(Z.f2 b hb).2.2
  refine aa (D2.item k _ _ _ l2 me fun y g₃ oO py jZ dJ=>aq (aq ?_))
  dsimp only
  rw [List.forIn_nil]
  refine aq (aa (wpAny_newTuple (aq ⟨_,rfl,?_⟩) (hsz:=by show 2<=sizeLine;decide)))
  have sz:g₃.objs.size=s.heap.objs.size:=by rw [dJ.1,dh.1,dz.1]
  have up:∀c o,c≠z->c≠i1->c≠i2->s.heap.get? c=some o->g₃.get? c=some o:=fun c o c1 c2 c3 e=>dJ.extBut _ _ c3 (dh.extBut _ _ c2 (dz.extBut _ _ c1 e))
  have pN:IsZ g₃ z TI TO (rawInt T) true:=dJ.extBut _ _ Z.i2z.symm (dh.extBut _ _ Z.i1z.symm fR)
  have qX:S1 (k+1) g₃:=S0 D1 k6 dJ.extBut fun b hb=>(Z.f1 b hb).2.2
  have goal:=hQ (g₃.push { cls:=.type "tuple",data:=.seq #[x,y] }) oO x y px py ⟨_,_,af _ pN,.inr ⟨_,rfl⟩⟩ ⟨_,_,af _ (up _ _ Z.toz Z.to1 Z.to2 eZ)⟩ (D1.frame _ _ _ qX fun b hb o e=>af _ e) (D2.frame _ _ _ jZ fun b hb o e=>af _ e)
   (by
    have e:(g₃.push { cls:=.type "tuple",data:=.seq #[x,y] }).get? g₃.objs.size=some { cls:=.type "tuple",data:=.seq #[x,y] }:=aH _ rfl
    rw [sz]at e;exact e) (by rw [br,sz]) fun c o c1 _ c3 c4 e=>af _ (up c o c1 c3 c4 e)
  rw [<- sz]at goal
  exact goal
theorem W8q {Q:Fin->Shared->Prop} (Z:Q1t z TI TO i1 i2 gy gx) (D1:Draws P w A i1 gy n1 P1 S1) (D2:Draws P w A i2 gx n2 P2 S2) (js:Y9 s.heap z TI TO) (fu:IsPair s.heap TI (.ref i1) (.ref i2)) (eZ:IsPair s.heap TO a b) (h1:S1 k s.heap) (h2:S2 k s.heap) (hk:k=n1\/(k<n1/\k=n2))
  (hE:∀h' tk e,(∀c o,c≠z->c≠TO->c≠i1->c≠i2->s.heap.get? c=some o->h'.get? c=some o)->(∃o,h'.get? e=some o/\o.cls=.type "StopIteration")->E (.ref e) { s with heap:=h',toks:=tk }) :
  wpAny (model P w) A (Builtin.«zip.__next__» ⟨[.ref z],[]⟩) Q E s:=by
 obtain⟨f0,f,hz,hf⟩:=id js
 change wpAny (model P w) A (field (.ref z) 2>>=_) _ _ s
 refine aa (bQ hz rfl (x:=Value.bool false) rfl ?_)
 change wpAny (model P w) A (field (.ref z) 3>>=_) _ _ s
 refine aa (bQ hz rfl (x:=.ref TI) rfl (aa (bX fu rfl ?_)))
 change wpAny (model P w) A (Builtin.SmallTypes.ownedTupleIsFree (.ref z)>>=_) _ _ s
 refine aa (Y5k js (fun f0 f hz=>?_) fun g₁ T fR dz=>?_)
 ·rw [aM rfl]
  refine aa (wpAny_rule (aa (bQ hz rfl (x:=.ref TO) rfl (aa (bW hz (by simp) fun g₁ fR dz=>?_)))))
  have fR:IsZ g₁ z TI TO .ellipsis f:=fR
  refine aa ?_
  simp only [cn,List.zipIdx_nil,bN,List.forIn_nil];refine aa (aa (wpAny_onRaise ?_))
  change wpAny (model P w) A (Builtin.SmallTypes.nextOf (.ref i1)>>=_) _ _ _
  have k7:S1 k g₁:=S0 D1 h1 dz.extBut fun b hb=>(Z.f1 b hb).1
  rcases hk with hk | ⟨bE,hk⟩
  ·subst hk
   refine aa (D1.done _ _ _ k7 fun g₂ e dh he=>?_)
   obtain⟨oe,iS,jL⟩:=he
   have mZ:IsZ g₂ z TI TO .ellipsis f:=dh _ _ Z.i1z.symm fR
   have lR:e≠z:=fun q=>by subst q;rw [mZ]at iS;cases iS;simp at jL
   exact bW mZ (by simp) fun g₃ _ dJ=>hE g₃ _ e (fun c o c1 _ c3 _ x=>dJ.extBut _ _ c1 (dh _ _ c3 (dz.extBut _ _ c1 x))) ⟨oe,dJ.extBut _ _ lR iS,jL⟩
  ·refine aa (D1.item k _ _ _ bE k7 fun x g₂ kI px k6 dh=>aq ?_)
   have g6:IsPair g₂ TO a b:=dh.extBut _ _ Z.to1 (dz.extBut _ _ Z.toz eZ)
   refine aa (bX g6 rfl (aa (wpAny_updateSeq_pair g6 fun g₃ gW dJ=>aa (wpAny_letGo (aq ?_)))))
   refine aa (aa (wpAny_onRaise ?q))
   change wpAny (model P w) A (Builtin.SmallTypes.nextOf (.ref i2)>>=_) _ _ _
   have jZ:S2 k g₃:=S0 D2 (S0 D2 (S0 D2 h2 dz.extBut fun b hb=>(Z.f2 b hb).1) dh.extBut fun b hb=>(Z.f2 b hb).2.2) dJ.extBut fun b hb=>(Z.f2 b hb).2.1
   subst hk
   refine aa (D2.done _ _ _ jZ fun g₄ e i3 he=>?_)
   obtain⟨oe,iS,jL⟩:=he
   have mY:IsZ g₄ z TI TO .ellipsis f:=i3 _ _ Z.i2z.symm (dJ.extBut _ _ Z.toz.symm (dh.extBut _ _ Z.i1z.symm fR))
   have lR:e≠z:=fun q=>by subst q;rw [mY]at iS;cases iS;simp at jL
   exact bW mY (by simp) fun g₅ _ i0=>hE g₅ _ e (fun c o c1 c2 c3 c4 x=>i0.extBut _ _ c1 (i3 _ _ c4 (dJ.extBut _ _ c2 (dh.extBut _ _ c3 (dz.extBut _ _ c1 x))))) ⟨oe,i0.extBut _ _ lR iS,jL⟩
 ·rw [aI (by decide)]
  refine aa ?_
  rw [<- Array.forIn_toList]
  rw [bN]
  refine aa (aa (bJ ?_))
  change wpAny (model P w) A (Builtin.SmallTypes.nextOf (.ref i1)>>=fun x=>pure (some x)) _ _ _
  have k7:S1 k g₁:=S0 D1 h1 dz.extBut fun b hb=>(Z.f1 b hb).1
  rcases hk with hk | ⟨bE,hk⟩
  ·subst hk
   exact aa (D1.done _ _ _ k7 fun g₂ e dh he=>hE g₂ _ e (fun c o c1 _ c3 _ x=>dh _ _ c3 (dz.extBut _ _ c1 x)) he)
  ·refine aa (D1.item k _ _ _ bE k7 fun x g₂ kI px k6 dh=>aq (aq ?_))
   dsimp only
   rw [bN]
   refine aa (aa (bJ ?_))
   change wpAny (model P w) A (Builtin.SmallTypes.nextOf (.ref i2)>>=fun x=>pure (some x)) _ _ _
   have me:S2 k g₂:=S0 D2 (S0 D2 h2 dz.extBut fun b hb=>(Z.f2 b hb).1) dh.extBut fun b hb=>(Z.f2 b hb).2.2
   subst hk
   exact aa (D2.done _ _ _ me fun g₃ e dJ he=>hE g₃ _ e (fun c o c1 _ c3 c4 x=>dJ _ _ c4 (dh.extBut _ _ c3 (dz.extBut _ _ c1 x))) he)
theorem Y5l {Q:Option Value->Shared->Prop} (Z:Q1t z TI TO i1 i2 gy gx) (D1:Draws P w A.in1 i1 gy n1 P1 S1) (D2:Draws P w A.in1 i2 gx n2 P2 S2) (hz:Y9 s.heap z TI TO) (fu:IsPair s.heap TI (.ref i1) (.ref i2)) (eZ:IsPair s.heap TO a b) (h1:S1 k s.heap) (h2:S2 k s.heap) (l1:k<n1) (l2:k<n2)
  (hQ:∀h' tk x y,P1 k x->P2 k y->Y9 h' z TI TO->(∃a b,IsPair h' TO a b)->S1 (k+1) h'->S2 (k+1) h'->IsPair h' s.heap.objs.size x y->h'.objs.size=s.heap.objs.size+1->(∀c o,c≠z->c≠TO->c≠i1->c≠i2->s.heap.get? c=some o->h'.get? c=some o)->Q (some (.ref s.heap.objs.size)) { s with heap:=h',toks:=tk }) :
  wpAny (model P w) A (pyNext (.ref z)) Q E s:=by
 have hT:s.TypeIs (.ref z) "zip":=let ⟨_,_,q,_⟩:=hz;⟨_,q,rfl⟩
 unfold pyNext
 exact aa (wpAny_attempt (dE (name:=Str.ofString "__next__") hT F.slot_zip_next (cV F.slot_zip_next hT F.entry_zip_next
  (W8r Z D1 D2 hz fu eZ h1 h2 l1 l2 fun h' tk x y a1 a2 a3 a4 a5 a6 a7 a8 a9=>aq (hQ h' tk x y a1 a2 a3 a4 a5 a6 a7 a8 a9)) (F.args_zip_next_1 _))))
theorem Y5m {Q:Option Value->Shared->Prop} (Z:Q1t z TI TO i1 i2 gy gx) (D1:Draws P w A.in1 i1 gy n1 P1 S1) (D2:Draws P w A.in1 i2 gx n2 P2 S2) (hz:Y9 s.heap z TI TO) (fu:IsPair s.heap TI (.ref i1) (.ref i2)) (eZ:IsPair s.heap TO a b) (h1:S1 k s.heap) (h2:S2 k s.heap) (hk:k=n1\/(k<n1/\k=n2))
  (hQ:∀h' tk,(∀c o,c≠z->c≠TO->c≠i1->c≠i2->s.heap.get? c=some o->h'.get? c=some o)->Q none { s with heap:=h',toks:=tk }):wpAny (model P w) A (pyNext (.ref z)) Q E s:=by
 have hT:s.TypeIs (.ref z) "zip":=let ⟨_,_,q,_⟩:=hz;⟨_,q,rfl⟩
 unfold pyNext
 refine aa (wpAny_attempt (dE (name:=Str.ofString "__next__") hT F.slot_zip_next (cV F.slot_zip_next hT F.entry_zip_next (W8q Z D1 D2 hz fu eZ h1 h2 hk fun h' tk e kp he=>?_) (F.args_zip_next_1 _))))
 obtain⟨o,ho,hc⟩:=he
 exact aa (wpAny_isInstance (T:="StopIteration") (b:=true) ⟨o,ho,hc⟩ isSubtype_stop (aq (hQ _ _ kp)))
end
def SqB (b:Bool) (K:Fg9) (H:Hp) (l:Addr) (xs:List V):Prop:=match b with | true=>C6 K H l xs | false=>E3 K H l xs
def ItB (b:Bool) (h:Heap) (i l:Addr) (k:Nat):Prop:=match b with | true=>h.IsTupleIter i l k | false=>h.IsListIter i l k
def P4 (b:Bool) (h:Heap) (l:Addr) (a:Array Value):Prop:=match b with | true=>h.IsTuple l a | false=>h.IsList l a
noncomputable def itO (b:Bool) (l:Addr):Obj:={ cls:=.type (match b with | true=>"tuple_iterator" | false=>"list_iterator"),data:=.fields #[.ref l,.int 0 0] }
section
variable {P:Program}{w:World}{A:Around}{E:VS9}{s:Shared}{b b1 b2:Bool}{h h' H1:Heap}{i l k:Addr}{n:Nat}{xs ys:List V}{as:Array Value}{K:Fg9}{H H':Hp}{X:Cx}{ae:Pn9} {σ:St}
theorem SqB.same (s:A5 H H') (h:SqB b K H l xs):SqB b K H' l xs:=by
 cases b
 ·exact s.seq h
 ·exact(Kp.of s).sqT h
theorem Q4o (I:A1 X ae σ H s) (h:SqB b X.K H l xs):∃aV,B6 xs aV/\P4 b s.heap l aV.toArray/\xs.length<=sizeLine:=by
 cases b
 ·obtain⟨aV,rv,p,z⟩:=I.list h;exact⟨aV,rv,p.isList,z⟩
 ·obtain⟨aV,rv,p,z⟩:=I.tuple h;exact⟨aV,rv,p,z⟩
theorem Y4b (I:A1 X ae σ H s) (h1:SqB b X.K H l xs) (h2:SqB b X.K H l ys):xs=ys:=by
 cases b
 ·exact I.list_inj h1 h2
 ·exact I.tuple_inj h1 h2
theorem Q1y (b:Bool) (hh:A.handled=none) (i l:Addr) (cj:l≠i) (as:Array Value):Draws P w A i [i,l] as.size (fun k v=>as[k]?=some v) (fun k h=>ItB b h i l k/\P4 b h l as):=by
 cases b
 ·exact Draws.list hh i l cj as
 ·exact Z1j hh i l cj as
theorem ItB.keep (t:ItB b h i l n) (k:∀o,h.get? i=some o->h'.get? i=some o):ItB b h' i l n:=by
 cases b <;> (obtain⟨o,e,r⟩:=t;exact⟨o,k o e,r⟩)
theorem ItB.obj (t:ItB b h i l n):∃o,h.get? i=some o/\∀v,o.data≠.cell v:=by
 cases b <;> (obtain⟨o,e,_,d⟩:=t;exact⟨o,e,fun v z=>by rw [d]at z;cases z⟩)
theorem P4.keep (t:P4 b h l as) (k:∀o,h.get? l=some o->h'.get? l=some o):P4 b h' l as:=by
 cases b <;> (obtain⟨o,e,r⟩:=t;exact⟨o,k o e,r⟩)
theorem P4.lt (t:P4 b h l as):@LT.lt Nat _ l h.objs.size:=by
 cases b <;> (obtain⟨o,e,r⟩:=t;exact au e)
theorem Z9r {Q:VS9} (t:P4 b s.heap l as) (hQ:Q (.ref s.heap.objs.size) { s with heap:=s.heap.push (itO b l) }):wpAny (model P w) A (pyIter (.ref l)) Q E s:=by
 cases b
 ·exact wpAny_pyIter_list t hQ
 ·exact wpAny_pyIter_tuple t hQ
theorem Z9p (e:h.get? i=some (itO b l)):ItB b h i l 0:=by cases b <;> exact⟨_,e,rfl,rfl⟩
end
noncomputable abbrev zt1 (b1:Bool) (h:Heap) (l:Addr):Heap:=h.push (itO b1 l)
noncomputable abbrev zt2 (b1 b2:Bool) (h:Heap) (l t:Addr):Heap:=(zt1 b1 h l).push (itO b2 t)
noncomputable abbrev zt3 (b1 b2:Bool) (h:Heap) (l t:Addr):Heap:=(zt2 b1 b2 h l t).push { cls:=.type "tuple",data:=.seq #[.ref h.objs.size,.ref (zt1 b1 h l).objs.size] }
noncomputable abbrev zt4 (b1 b2:Bool) (h:Heap) (l t:Addr):Heap:=(zt3 b1 b2 h l t).push { cls:=.type "tuple",data:=.seq #[.none,.none] }
noncomputable abbrev zt5 (b1 b2:Bool) (h:Heap) (l t:Addr):Heap:=(zt4 b1 b2 h l t).push { cls:=.type "zip",data:=.fields #[.none,.bool false,.bool false,.ref (zt2 b1 b2 h l t).objs.size,.ref (zt3 b1 b2 h l t).objs.size] }
theorem W8o (b1 b2:Bool) (l t:Addr) (xs ys:Array Value) :
  Meets (Builtin.«zip.__new__» ⟨[.type "zip",.ref l,.ref t],[]⟩) (fun _ R s=>P4 b1 s.heap l xs/\P4 b2 s.heap t ys/\R (.ok (.ret (.ref (zt4 b1 b2 s.heap l t).objs.size))) { s with heap:=zt5 b1 b2 s.heap l t }) :=
 Meets.of_wp fun prog w A R s h=>by
  obtain⟨hp,g,d,tk,os⟩:=s;obtain⟨gp,eg,h⟩:=h
  have hsub:=sub_zip
  have qS:P4 b1 (Shared.heap ⟨hp,g,d,tk,os⟩) l xs:=gp
  have qR:P4 b2 (Shared.heap ⟨hp.push (itO b1 l),g,d,tk,os⟩) t ys:=eg.keep fun o e=>af _ e
  wp_walk using Z9r qS,Z9r qR
  exact⟨_,rfl,h⟩
theorem Y7a {P:Program}{w:World}{A:Around}{E:VS9}{s:Shared}{b1 b2:Bool}{l t:Addr}{xs ys:Array Value}{Q:VS9} (hl:P4 b1 s.heap l xs) (ht:P4 b2 s.heap t ys)
  (h:∀h',Y9 h' (s.heap.objs.size+4) (s.heap.objs.size+2) (s.heap.objs.size+3)->IsPair h' (s.heap.objs.size+2) (.ref s.heap.objs.size) (.ref (s.heap.objs.size+1))->IsPair h' (s.heap.objs.size+3) .none .none ->
   ItB b1 h' s.heap.objs.size l 0->ItB b2 h' (s.heap.objs.size+1) t 0->h'.objs.size=s.heap.objs.size+5->(∀c o,s.heap.get? c=some o->h'.get? c=some o)->Q (.ref (s.heap.objs.size+4)) { s with heap:=h' }) :
  wpAny (model P w) A (call (.type "zip") [.ref l,.ref t]) Q E s:=by
 refine callType_new F.called_zip (by decide) (F.typeCall_zip_2 _ _) (F.newCall_zip_2 _ _) (fun obj=>F.args_object_init_3 obj _ _) F.entry_zip_new (W8o b1 b2 l t xs ys) ⟨hl,ht,?_⟩
 have e1:(zt1 b1 s.heap l).objs.size=s.heap.objs.size+1:=br ..
 have e2:(zt2 b1 b2 s.heap l t).objs.size=s.heap.objs.size+2:=by rw [br,e1]
 have e3:(zt3 b1 b2 s.heap l t).objs.size=s.heap.objs.size+3:=by rw [br,e2]
 have e4:(zt4 b1 b2 s.heap l t).objs.size=s.heap.objs.size+4:=by rw [br,e3]
 have e5:(zt5 b1 b2 s.heap l t).objs.size=s.heap.objs.size+5:=by rw [br,e4]
 have g5:(zt5 b1 b2 s.heap l t).get? (zt4 b1 b2 s.heap l t).objs.size=some _:=aH _ rfl
 have g4:(zt5 b1 b2 s.heap l t).get? (zt3 b1 b2 s.heap l t).objs.size=some _:=af _ (aH _ rfl)
 have g3:(zt5 b1 b2 s.heap l t).get? (zt2 b1 b2 s.heap l t).objs.size=some _:=af _ (af _ (aH _ rfl))
 have g2:(zt5 b1 b2 s.heap l t).get? (zt1 b1 s.heap l).objs.size=some (itO b2 t):=af _ (af _ (af _ (aH _ rfl)))
 have g1:(zt5 b1 b2 s.heap l t).get? s.heap.objs.size=some (itO b1 l):=af _ (af _ (af _ (af _ (aH _ rfl))))
 rw [e2,e3,e4]at g5
 rw [e1,e2]at g3
 rw [e3]at g4
 rw [e1]at g2
 rw [e4]
 exact⟨⟨_,g5,rfl⟩,h _ ⟨_,_,g5,.inl rfl⟩ g3 g4 (Z9p g1) (Z9p g2) e5 fun c o x=>af _ (af _ (af _ (af _ (af _ x))))⟩
theorem Z6j {P:Program}{w:World}{A:Around}{E:VS9}{s:Shared}{z TI TO:Addr}{Q:VS9} (hz:Y9 s.heap z TI TO) (hQ:Q (.ref z) s):wpAny (model P w) A (pyIter (.ref z)) Q E s:=by
 obtain⟨_,_,hz,_⟩:=hz
 have q:s.TypeIs (.ref z) "zip":=⟨_,hz,rfl⟩
 exact wpAny_pyIter_slot q F.slot_zip_iter (cV F.slot_zip_iter q F.entry_zip_iter (show wpAny _ _ (ret (.ref z)) _ _ s from aq ⟨_,rfl,"zip",_,q,F.slot_zip_next.lookup,hQ⟩) (F.args_zip_iter_1 _))
theorem W8s {P:Program}{w:World}{A:Around}{E:VS9}{s:Shared}{z TI TO T:Addr}{tg:Expr}{Q:Unit->Shared->Prop} (hz:Y9 s.heap z TI TO) (hQ:∀h',Y9 h' z TI TO->Heap.SameBut z s.heap h'->Q () { s with heap:=h' }) :
  wpAny (model P w) A (letOwnedTupleGo tg (.ref z) (.ref T)) Q E s:=by
 have no:Q () s:=hQ s.heap hz (Heap.SameBut.refl _ _)
 have yes:wpAny (model P w) A (load z>>=fun o=>match o.cls,o.data with
  | .type n,.fields vs=>if (["enumerate","zip","dict_itemiterator","dict_reverseitemiterator","odict_iterator","itertools.zip_longest","itertools.pairwise"].contains n&&vs[0]?==some (rawInt T))=true then(do rule "for.unpacks-the-owned-tuple";updateField z 0 .none)else pure ()
  | _,_=>pure ()) Q E s:=by
  obtain⟨f0,f,hz,_⟩:=id hz
  refine aa (wpAny_load hz ?_)
  dsimp only
  split
  ·refine aa (wpAny_rule ?_)
   show wpAny _ _ (setField (.ref z) 0 .none) Q E s
   exact bW hz (by simp) fun h' i8 jb=>hQ h' ⟨_,_,i8,.inl rfl⟩ jb
  ·exact aq no
 unfold letOwnedTupleGo
 cases tg <;> first | exact yes | exact aq no
noncomputable def Izb (b1 b2:Bool) (K:Fg9) (l1 l2:Addr) (n:Nat):It:=⟨fun i H=>i<n/\∃xs ys,SqB b1 K H l1 xs/\SqB b2 K H l2 ys/\min xs.length ys.length=n,
 fun i H v H'=>∃T x y,(∀xs,SqB b1 K H l1 xs->xs[i]?=some x)/\(∀ys,SqB b2 K H l2 ys->ys[i]?=some y)/\H T=none/\v=.ref T/\H'=upd H T (.tup [x,y]),fun i H=>i=n/\∃xs ys,SqB b1 K H l1 xs/\SqB b2 K H l2 ys/\min xs.length ys.length=n⟩
def ZTn (b1 b2:Bool) (z TI TO i1 i2 l1 l2:Addr) (i:Nat) (h:Heap):Prop:=Y9 h z TI TO/\IsPair h TI (.ref i1) (.ref i2)/\(∃a b,IsPair h TO a b)/\ItB b1 h i1 l1 i/\ItB b2 h i2 l2 i
theorem ZTn.obj {b1 b2:Bool}{z TI TO i1 i2 l1 l2:Addr}{i:Nat}{h:Heap} (t:ZTn b1 b2 z TI TO i1 i2 l1 l2 i h):∀c∈[z,TO,i1,i2,TI],∃o,h.get? c=some o/\∀v,o.data≠.cell v:=by
 obtain⟨⟨_,_,hz,_⟩,fu,⟨a,b,eZ⟩,h1,h2⟩:=t
 intro c hc
 simp only [ao,aT,bK]at hc
 rcases hc with rfl | rfl | rfl | rfl | rfl
 ·exact⟨_,hz,fun v z=>by cases z⟩
 ·exact⟨_,eZ,fun v z=>by cases z⟩
 ·exact h1.obj
 ·exact h2.obj
 ·exact⟨_,fu,fun v z=>by cases z⟩
theorem ZTn.keep {b1 b2:Bool}{z TI TO i1 i2 l1 l2:Addr}{i:Nat}{h h':Heap} (t:ZTn b1 b2 z TI TO i1 i2 l1 l2 i h) (k:∀b∈[z,TO,i1,i2,TI],∀o,h.get? b=some o->h'.get? b=some o):ZTn b1 b2 z TI TO i1 i2 l1 l2 i h':=by
 obtain⟨⟨f0,f,hz,r⟩,fu,⟨a,b,eZ⟩,h1,h2⟩:=t
 exact⟨⟨f0,f,k z (by simp) _ hz,r⟩,k TI (by simp) _ fu,⟨a,b,k TO (by simp) _ eZ⟩,h1.keep (k i1 (by simp)),h2.keep (k i2 (by simp))⟩
theorem W7v {P:Program}{w:World}{K:Fg9}{tg:Expr}{b1 b2:Bool}{z TI TO i1 i2 l1 l2:Addr}{n:Nat} (Z:Q1t z TI TO i1 i2 [i1,l1] [i2,l2]) (gp:l1≠i1) (eg:l2≠i2) :
  Q1c P w K tg (Izb b1 b2 K l1 l2 n) [z,TO,i1,i2,TI] z (ZTn b1 b2 z TI TO i1 i2 l1 l2) where
 mem:=by simp
 obj:=fun i h t=>t.obj
 keep:=fun i h h' t k=>t.keep k
 item:=by
  intro X hP hw hK hc i ae s σ H E I hf st hg
  subst hP hw hK
  obtain⟨bE,xs,ys,ku,kt,hn⟩:=hg
  obtain⟨aV,rv,p1,pQ⟩:=Q4o I ku
  obtain⟨bZ,dZ,p2,pP⟩:=Q4o I kt
  have pE:=rv.length
  have pC:=dZ.length
  have hd:X.A.in1.handled=none:=I.ok.hd hc
  have so:=st.obj
  obtain⟨sz,gF,⟨a0,b0,iE⟩,s1,s2⟩:=st
  have hx:xs[i]?=some (xs[i]'(by omega)):=ac _
  have hy:ys[i]?=some (ys[i]'(by omega)):=ac _
  obtain⟨u,hu,ru⟩:=rv.get hx
  obtain⟨u',lq,kS⟩:=dZ.get hy
  refine Y5l Z (Q1y b1 hd i1 l1 gp aV.toArray) (Q1y b2 hd i2 l2 eg bZ.toArray) sz gF iE ⟨s1,p1⟩ ⟨s2,p2⟩ (by simp;omega) (by simp;omega) fun h' tk x y px py z1 t1 a1 a2 pr _ kp=>⟨_,rfl,?_⟩
  have ex:x=u:=by
   have:aV[i]?=some x:=by simpa using px
   rw [hu]at this;exact(ay this).symm
  have ey:y=u':=by
   have:bZ[i]?=some y:=by simpa using py
   rw [lq]at this;exact(ay this).symm
  subst ex ey
  have hT:∀b∈[z,TO,i1,i2,TI],b≠s.heap.objs.size:=fun b hb zz=>by
   obtain⟨o,ho,_⟩:=so b hb
   exact aR _ (zz ▸ au ho)
  refine W8s z1 fun h2 z2 sb=>?_
  have iN:∀c o,c∉[z,TO,i1,i2]->s.heap.get? c=some o->h2.get? c=some o:=fun c o hc e=>by
   simp only [ao,aT,bK,not_or]at hc
   exact(sb.2 c hc.1).trans (kp c o hc.1 hc.2.1 hc.2.2.1 hc.2.2.2 e)
  have eQ:IsTup h2 s.heap.objs.size ([x,y]).toArray:=⟨_,(sb.2 _ (hT z (by simp)).symm).trans pr,rfl,_,rfl⟩
  have lQ:∀b∈[z,TO,i1,i2],K9 X ae H b:=fun b hb=>hf b (by
   simp only [ao,aT,bK]at hb ⊢
   rcases hb with h | h | h | h <;> simp [h])
  have I2:=Q9n (t':=tk) (xs:=[xs[i]'(by omega),ys[i]'(by omega)]) I iN lQ (ai s.heap.objs.size) eQ (.cons ru (.cons kS .nil)) (by show 2<=sizeLine;decide)
  obtain⟨ta,tb,t1⟩:=t1
  refine⟨.ref s.heap.objs.size,_,I2,rfl,⟨s.heap.objs.size,_,_,fun zs hz=>by rw [Y4b I hz ku];exact hx,fun zs hz=>by rw [Y4b I hz kt];exact hy,I.hok.fresh (ai _),rfl,rfl⟩,
   ⟨z2,(sb.2 _ Z.tiz).trans (kp _ _ Z.tiz Z.tito Z.ti1 Z.ti2 gF),⟨_,_,(sb.2 _ Z.toz).trans t1⟩,a1.1.keep fun o e=>(sb.2 _ Z.i1z).trans e,a2.1.keep fun o e=>(sb.2 _ Z.i2z).trans e⟩,fun b hb=>?_⟩
  rw [A6 (hT b hb)]
  exact(hf b hb).1
 done:=by
  intro X hP hw hK hc i ae s σ H E I hf st hg
  subst hP hw hK
  obtain⟨hi,xs,ys,ku,kt,hn⟩:=hg
  obtain⟨aV,rv,p1,pQ⟩:=Q4o I ku
  obtain⟨bZ,dZ,p2,pP⟩:=Q4o I kt
  have pE:=rv.length
  have pC:=dZ.length
  have hd:X.A.in1.handled=none:=I.ok.hd hc
  obtain⟨sz,gF,⟨a0,b0,iE⟩,s1,s2⟩:=st
  have lQ:∀b∈[z,TO,i1,i2],K9 X ae H b:=fun b hb=>hf b (by
   simp only [ao,aT,bK]at hb ⊢
   rcases hb with h | h | h | h <;> simp [h])
  refine Y5m Z (Q1y b1 hd i1 l1 gp aV.toArray) (Q1y b2 hd i2 l2 eg bZ.toArray) sz gF iE ⟨s1,p1⟩ ⟨s2,p2⟩ (by simp only [aB];omega) fun h' tk kp=>⟨rfl,Q4q I (fun c o hc e=>?_) lQ⟩
  simp only [ao,aT,bK,not_or]at hc
  exact kp c o hc.1 hc.2.1 hc.2.2.1 hc.2.2.2 e
 self:=fun A i s Q E st h=>Z6j st.1 h
theorem W8m {K:Fg9}{H:Hp}{b1 b2:Bool}{l1 l2:Addr}{xs ys:List V}{ds es:List D} (kM:SqB b1 K H l1 xs) (al:AllS K H ds xs) (cY:SqB b2 K H l2 ys) (cH:AllS K H es ys):YlS K (Izb b1 b2 K l1 l2 (min ds.length es.length)) (T3 ds es) H where
 go:=fun H' s i hi=>by
  rw [Z6i]at hi
  exact⟨hi,xs,ys,kM.same s,cY.same s,by rw [al.length,cH.length]⟩
 yld:=fun H' s i v cT d hd ⟨T,x,y,hx,hy,hT,hv,hH⟩=>by
  subst hH hv
  refine⟨G0 hT _,?_⟩
  obtain⟨d1,d2,e1,e2,rfl⟩:=Y5i hd
  obtain⟨v1,kr,q1⟩:=al.get e1
  obtain⟨v2,kq,q2⟩:=cH.get e2
  rw [hx xs (kM.same s)]at kr;cases kr
  rw [hy ys (cY.same s)]at kq;cases kq
  have kp:=Kp.of (s.trans (G0 hT (.tup [x,y])))
  exact A3.s_tup upd_same (AllS.cons (q1.mono kp _ _) (AllS.cons (q2.mono kp _ _) AllS.nil))
 stop:=fun H' s=>⟨Z6i _ _,xs,ys,kM.same s,cY.same s,by rw [al.length,cH.length]⟩
section
variable {P:Program}{w:World}{A:Around}{E:VS9}{s:Shared}{b1 b2:Bool}{z TI TO i1 i2 l1 l2:Addr}{xs ys:Array Value}
theorem W8p {R:Result->Shared->Prop}{S:Addr}{res:Value}{h0:Heap} (hh:A.handled=none) (D:Q1t z TI TO i1 i2 [i1,l1] [i2,l2]) (jf:l1≠i1) (iZ:l2≠i2) (hS:S≠z/\S≠TI/\S≠TO/\S≠i1/\S≠i2/\S≠l1/\S≠l2) (hn:min xs.size ys.size<=sizeLine) (gP:∀b∈[z,TI,TO,i1,i2,l1,l2,S],b<h0.objs.size)
  (hR:∀(h':Heap) (tk:Nat) (as:List Addr) (c:Nat),as.length=min xs.size ys.size->as.Nodup->(∀a∈as,h0.objs.size<=a)->(∀(j:Nat) a,as[j]?=some a->∃x y,xs[j]?=some x/\ys[j]?=some y/\IsPair h' a x y)->(∀c o,c∉[z,TO,i1,i2,S]->h0.get? c=some o->h'.get? c=some o) ->
   h'.get? S=some { cls:=.type "list",data:=.seq (as.map Value.ref).toArray c }->R (.ok (.ret res)) { s with heap:=h',toks:=tk }) :
  ∀(m k:Nat) (h:Heap) (tk c:Nat) (as:List Addr),m=min xs.size ys.size-k->k<=min xs.size ys.size->ZTn b1 b2 z TI TO i1 i2 l1 l2 k h->P4 b1 h l1 xs->P4 b2 h l2 ys->as.length=k->as.Nodup->(∀a∈as,h0.objs.size<=a)->h0.objs.size<=h.objs.size->(∀a∈as,a<h.objs.size) ->
   (∀(j:Nat) a,as[j]?=some a->∃x y,xs[j]?=some x/\ys[j]?=some y/\IsPair h a x y)->(∀c o,c∉[z,TO,i1,i2,S]->h0.get? c=some o->h.get? c=some o) ->
   h.get? S=some { cls:=.type "list",data:=.seq (as.map Value.ref).toArray c }->codeAny (model P w) A (.builtin "list.extend.loop" ⟨[.ref S,.ref z,res],[]⟩) R { s with heap:=h,toks:=tk }:=by
 intro m
 induction m with
 | zero =>
  intro k h tk c as hm hk st gp eg gT fU eF hsz bE iR fW j4
  have e:k=min xs.size ys.size:=by omega
  refine codeAny_builtin F.entry_extend_loop ?_;rw [Around.under_plainId F.plain_extend_loop _]
  change wpAny (model P w) A.in1 (pyNext (.ref z)>>=_) _ _ _
  obtain⟨sz,gF,⟨a0,b0,iE⟩,q1,q2⟩:=st
  refine aa (Y5m (s:={ s with heap:=h,toks:=tk }) (A:=A.in1) D (Q1y (P:=P) (w:=w) (A:=A.in1.in1) b1 hh i1 l1 jf xs) (Q1y (P:=P) (w:=w) (A:=A.in1.in1) b2 hh i2 l2 iZ ys) sz gF iE ⟨q1,gp⟩ ⟨q2,eg⟩ (by omega) fun h' mE kp=>aq ?_)
  obtain⟨s1,s2,s3,s4,s5,s6,s7⟩:=hS
  have ap:∀a∈as,a≠z/\a≠TO/\a≠i1/\a≠i2:=fun a ha=>by
   have g:=eF a ha
   refine⟨fun e=>?_,fun e=>?_,fun e=>?_,fun e=>?_⟩ <;> (have:=gP a (by rw [e];simp);exact absurd this (Nat.not_lt.mpr g))
  refine hR h' _ as c (by omega) fU eF (fun j a ej=>?_) (fun c o hc e=>?_) (kp S _ s1 s3 s4 s5 j4)
  ·obtain⟨x,y,ex,ey,p⟩:=iR j a ej
   obtain⟨a1,a2,a3,a4⟩:=ap a (aw ej)
   exact⟨x,y,ex,ey,kp a _ a1 a2 a3 a4 p⟩
  ·have:=fW c o hc e
   simp only [ao,aT,bK,not_or]at hc
   exact kp c o hc.1 hc.2.1 hc.2.2.1 hc.2.2.2.1 this
 | succ m ih =>
  intro k h tk c as hm hk st gp eg gT fU eF hsz bE iR fW j4
  have qk:k<xs.size:=by omega
  have qj:k<ys.size:=by omega
  refine codeAny_builtin F.entry_extend_loop ?_;rw [Around.under_plainId F.plain_extend_loop _]
  change wpAny (model P w) A.in1 (pyNext (.ref z)>>=_) _ _ _
  have mz:∀a,h0.objs.size<=a->a≠z/\a≠TI/\a≠TO/\a≠i1/\a≠i2/\a≠S:=fun a g=>by
   refine⟨fun e=>?_,fun e=>?_,fun e=>?_,fun e=>?_,fun e=>?_,fun e=>?_⟩ <;> (have:=gP a (by rw [e];simp);exact absurd this (Nat.not_lt.mpr g))
  have ap:∀a∈as,a≠z/\a≠TI/\a≠TO/\a≠i1/\a≠i2:=fun a ha=>by obtain⟨a1,a2,a3,a4,a5,_⟩:=mz a (eF a ha);exact⟨a1,a2,a3,a4,a5⟩
  obtain⟨s1,s2,s3,s4,s5,s6,s7⟩:=hS
  obtain⟨sz,gF,⟨a0,b0,iE⟩,q1,q2⟩:=st
  refine aa (Y5l (s:={ s with heap:=h,toks:=tk }) (A:=A.in1) D (Q1y (P:=P) (w:=w) (A:=A.in1.in1) b1 hh i1 l1 jf xs) (Q1y (P:=P) (w:=w) (A:=A.in1.in1) b2 hh i2 l2 iZ ys) sz gF iE ⟨q1,gp⟩ ⟨q2,eg⟩ qk qj fun h' mE x y px py iA eD mI dq oV oP kp=>?_)
  have fg:ZTn b1 b2 z TI TO i1 i2 l1 l2 (k+1) h':=⟨iA,kp _ _ D.tiz D.tito D.ti1 D.ti2 gF,eD,mI.1,dq.1⟩
  have nH:=kp S _ s1 s3 s4 s5 j4
  change wpAny (model P w) A.in1 (updateSeq S (·.push (Value.ref h.objs.size))>>=_) _ _ _
  have jR:(as.map Value.ref).toArray.size=k:=by simp [gT]
  refine aa (wpAny_updateSeq nH rfl (aq ⟨plainId_quiet F.plain_extend_loop _,?_⟩) (hz:=by rw [jR];omega) (_hz':=by show((as.map Value.ref).toArray.push _).size<=_;rw [Array.size_push,jR];omega))
  have fk:∀b o,b≠S->h'.get? b=some o->(h'.update S (Obj.mapSeq (·.push (Value.ref h.objs.size)))).get? b=some o:=fun b o hb e=>(cA _ _ (bn hb)).trans e
  have mG:(h'.update S (Obj.mapSeq (·.push (Value.ref h.objs.size)))).objs.size=h.objs.size+1:=by rw [(bx (h:=h') (a:=S) ..).1];exact oP
  have jD:h0.objs.size<=h.objs.size:=hsz
  have l0:=mz h.objs.size jD
  obtain⟨c',qN⟩:∃c',(h'.update S (Obj.mapSeq (·.push (Value.ref h.objs.size)))).get? S=some { cls:=.type "list",data:=.seq ((as++[h.objs.size]).map Value.ref).toArray c' }:=by
   have e:=cI (Obj.mapSeq (·.push (Value.ref h.objs.size))) nH rfl
   have e2:((as++[h.objs.size]).map Value.ref).toArray=(as.map Value.ref).toArray.push (Value.ref h.objs.size):=by simp
   rw [e2]
   exact⟨_,e⟩
  refine ih (k+1) _ mE c' (as++[h.objs.size]) (by omega) (by omega) (fg.keep fun b hb o e=>fk b o (fun z=>?_) e) (mI.2.keep fun o e=>fk _ o (bn s6) e) (dq.2.keep fun o e=>fk _ o (bn s7) e) (by rw [aE,gT];rfl) ?_ ?_ (by rw [mG];omega) ?_ ?_ ?_ ?_
  ·rw [z]at hb
   simp only [ao,aT,bK]at hb
   rcases hb with h | h | h | h | h
   ·exact s1 h
   ·exact s3 h
   ·exact s4 h
   ·exact s5 h
   ·exact s2 h
  ·rw [ba]
   refine⟨fU,by simp,fun a ha b hb e=>?_⟩
   rw [show b=h.objs.size by simpa using hb]at e
   have:=bE a ha
   rw [e]at this;exact aR _ this
  ·intro a ha
   rcases aN.mp ha with q | q
   ·exact eF a q
   ·rw [aD.mp q];exact jD
  ·intro a ha
   rw [mG]
   rcases aN.mp ha with q | q
   ·exact bi (bE a q)
   ·rw [aD.mp q];exact cm _
  ·intro j a ej
   by_cases hj:j<as.length
   ·rw [aJ hj]at ej
    obtain⟨x,y,ex,ey,p⟩:=iR j a ej
    obtain⟨a1,a2,a3,a4,a5⟩:=ap a (aw ej)
    exact⟨x,y,ex,ey,fk _ _ (mz a (eF a (aw ej))).2.2.2.2.2 (kp a _ a1 a3 a4 a5 p)⟩
   ·rw [aS (by omega)]at ej
    have e0:j-as.length=0:=by
     rcases Nat.eq_zero_or_pos (j-as.length)with z | z
     ·exact z
     ·rw [ip (show [h.objs.size].length<=j-as.length from z)]at ej;cases ej
    rw [e0]at ej
    cases ej
    have ej:j=k:=by omega
    subst ej
    exact⟨_,_,px,py,fk _ _ l0.2.2.2.2.2 oV⟩
  ·intro c o hc e
   have:=fW c o hc e
   simp only [ao,aT,bK,not_or]at hc
   exact fk c o hc.2.2.2.2 (kp c o hc.1 hc.2.1 hc.2.2.1 hc.2.2.2.1 this)
  ·exact qN
theorem Y8e {Q:Bool->Shared->Prop} (hT:s.TypeIs (.ref z) "zip") (h:Q true s):wpAny (model P w) A (Builtin.List.listLengthHint (.ref z)) Q E s:=by
 unfold Builtin.List.listLengthHint;refine aa (wpAny_specialOf hT (show typeLookup (.type "zip") "__len__"=pure none by rw [typeLookup_type,builtinLookup_eq_fast];kernel_rfl) ?_)
 refine aa (wpAny_specialOf hT (show typeLookup (.type "zip") "__length_hint__"=pure none by rw [typeLookup_type,builtinLookup_eq_fast];kernel_rfl) ?_)
 exact aq h
theorem Z2l {h:Heap}{S:Addr}{xs:Array Value}{c:Nat} (e:h.get? S=some { cls:=.type "list",data:=.seq xs c }) (f:Array Value->Array Value):∃c',(h.update S (Obj.mapSeq f)).get? S=some { cls:=.type "list",data:=.seq (f xs) c' } :=
 ⟨_,cI (Obj.mapSeq f) e rfl⟩
theorem Y6v {Q:VS9} (hh:A.handled=none) (D:Q1t z TI TO i1 i2 [i1,l1] [i2,l2]) (jf:l1≠i1) (iZ:l2≠i2) (st:ZTn b1 b2 z TI TO i1 i2 l1 l2 0 s.heap) (gp:P4 b1 s.heap l1 xs) (eg:P4 b2 s.heap l2 ys) (hn:min xs.size ys.size<=sizeLine) (gP:∀b∈[z,TI,TO,i1,i2,l1,l2],b<s.heap.objs.size)
  (hQ:∀(h':Heap) (tk:Nat) (as:List Addr) (c:Nat),as.length=min xs.size ys.size->as.Nodup->(∀a∈as,s.heap.objs.size<a)->(∀(j:Nat) a,as[j]?=some a->∃x y,xs[j]?=some x/\ys[j]?=some y/\IsPair h' a x y)->(∀c o,c∉[z,TO,i1,i2]->s.heap.get? c=some o->h'.get? c=some o) ->
   h'.get? s.heap.objs.size=some { cls:=.type "list",data:=.seq (as.map Value.ref).toArray c }->Q (.ref s.heap.objs.size) { s with heap:=h',toks:=tk }) :
  wpAny (model P w) A (call (.type "list") [.ref z]) Q E s:=by
 refine callType_codes (Q₁:=fun obj s₁=>obj=.ref s.heap.objs.size/\s₁={ s with heap:=s.heap.push { cls:=.type "list",data:=.seq #[] } }) PySem.F.called_list (PySem.F.typeCall_list_1 _) PySem.F.entry_list_init (code_list_new _ ⟨rfl,rfl⟩) ?_
 rintro obj s₁ ⟨rfl,rfl⟩
 generalize hSe:s.heap.objs.size=S
 have ie:∀b∈[z,TI,TO,i1,i2,l1,l2],b<S:=fun b hb=>by rw [<- hSe];exact gP b hb
 have kB:(s.heap.push { cls:=.type "list",data:=.seq #[] }).get? S=some { cls:=.type "list",data:=.seq #[] }:=by rw [<- hSe];exact aH _ rfl
 have ne:∀b,b∈[z,TI,TO,i1,i2,l1,l2]->b≠S:=fun b hb=>av (ie b hb)
 refine⟨⟨_,kB,rfl⟩,PySem.F.args_list_init_2 _ _,?_⟩
 change wpAny (model P w) A.in1.in1 (Builtin.List.listItems (.ref S)>>=fun old=>Builtin.List.listUpdate (.ref S) (fun _=>#[])>>=fun _=>letGo old.toList.reverse>>=fun _=>Builtin.List.listExtendWith (.ref S) (.ref z) .none) _ _ _
 unfold Builtin.List.listItems
 refine aa (aa (bX kB rfl (aq ?_)))
 change wpAny (model P w) A.in1.in1 (updateSeq S (fun _=>#[])>>=_) _ _ _
 refine aa (wpAny_updateSeq kB rfl (aa (wpAny_letGo ?_)))
 obtain⟨c1,m5⟩:=Z2l kB (fun _=>#[])
 have gI:∀b o,b≠S->s.heap.get? b=some o->((s.heap.push { cls:=.type "list",data:=.seq #[] }).update S (Obj.mapSeq (fun _=>#[]))).get? b=some o:=fun b o hb e=>(cA _ _ (bn hb)).trans (af _ e)
 have mH:((s.heap.push { cls:=.type "list",data:=.seq #[] }).update S (Obj.mapSeq (fun _=>#[]))).objs.size=S+1:=by rw [(bx (h:=s.heap.push { cls:=.type "list",data:=.seq #[] }) (a:=S) ..).1,br,hSe]
 generalize hH1:(s.heap.push { cls:=.type "list",data:=.seq #[] }).update S (Obj.mapSeq (fun _=>#[]))=H1 at m5 gI mH ⊢
 have iw:∀h:Heap,(∀b o,b≠S->s.heap.get? b=some o->h.get? b=some o)->ZTn b1 b2 z TI TO i1 i2 l1 l2 0 h:=fun h k=>st.keep fun b hb o e=>k b o (ne b (by
  simp only [ao,aT,bK]at hb ⊢
  rcases hb with h | h | h | h | h <;> simp [h])) e
 obtain⟨⟨_,_,ez,_⟩,_⟩:=id (iw H1 gI)
 have cz:∃o,H1.get? z=some o/\o.cls=.type "zip":=⟨_,ez,rfl⟩
 obtain⟨oz,ez,cz⟩:=cz
 unfold Builtin.List.listExtendWith;refine aa (wpAny_typeOf (T:="zip") ⟨oz,ez,cz⟩ ?_)
 have h1:Builtin.List.listSameRef (.ref S) (.ref z)=false:=by simp [Builtin.List.listSameRef,(ne z (by simp)).symm]
 have h2:(Builtin.List.listSameRef (.ref S) (.ref z)||(Value.type "zip"==Value.type "list")||(Value.type "zip"==Value.type "tuple"))=false:=by rw [h1];decide
 rw [aI (by rw [h2];decide)]
 refine aa (Z6j (iw H1 gI).1 (aa (bJ (Y8e ⟨oz,ez,cz⟩ ?_))))
 rw [Bool.true_or,aM rfl]
 refine aa (wpAny_rule (aa ?_))
 change wpAny (model P w) A.in1.in1 (updateSeq S (·.push .none)>>=fun _=>updateSeq S (·.pop)) _ _ _
 refine aa (wpAny_updateSeq m5 rfl ?_)
 obtain⟨c2,nG⟩:=Z2l m5 (·.push Value.none)
 refine wpAny_updateSeq (hz:=by seq_fits) nG rfl ?_
 obtain⟨c3,nF⟩:=Z2l nG (·.pop)
 have e3:((#[]:Array Value).push Value.none).pop=(([]:List Addr).map Value.ref).toArray:=rfl
 have e9:∀b o,b≠S->s.heap.get? b=some o->((H1.update S (Obj.mapSeq (·.push Value.none))).update S (Obj.mapSeq (·.pop))).get? b=some o:=fun b o hb e=>(cA _ _ (bn hb)).trans ((cA _ _ (bn hb)).trans (gI b o hb e))
 have kJ:((H1.update S (Obj.mapSeq (·.push Value.none))).update S (Obj.mapSeq (·.pop))).objs.size=S+1:=by rw [(bx (h:=H1.update S (Obj.mapSeq (·.push Value.none))) (a:=S) ..).1,(bx (h:=H1) (a:=S) ..).1,mH]
 generalize hH3:(H1.update S (Obj.mapSeq (·.push Value.none))).update S (Obj.mapSeq (·.pop))=H3 at nF e9 kJ ⊢
 refine aq ⟨plainId_quiet PySem.F.plain_extend_loop _,?_⟩
 have pD:P4 b1 H3 l1 xs:=gp.keep fun o e=>e9 _ _ (ne l1 (by simp)) e
 have pB:P4 b2 H3 l2 ys:=eg.keep fun o e=>e9 _ _ (ne l2 (by simp)) e
 refine W8p (s:=s) (A:=A.in1) (h0:=H3) (S:=S) hh D jf iZ ⟨(ne z (by simp)).symm,(ne TI (by simp)).symm,(ne TO (by simp)).symm,(ne i1 (by simp)).symm,(ne i2 (by simp)).symm,(ne l1 (by simp)).symm,(ne l2 (by simp)).symm⟩ hn (fun b hb=>?_) (fun h' tk as c gT fU eF iR lL j4=>?_)
  _ 0 H3 _ c3 [] rfl (bD _) (iw H3 e9) pD pB rfl dR (by intro a ha;cases ha) (ai _) (by intro a ha;cases ha) (by intro j a e;simp at e) (fun c o _ e=>e) (by rw [<- e3];exact nF)
 ·rw [kJ]
  rcases aN.mp (show b∈[z,TI,TO,i1,i2,l1,l2]++[S]from hb)with q | q
  ·exact bi (ie b q)
  ·rw [aD.mp q];exact cm _
 ·refine⟨rfl,hSe ▸ hQ h' tk as c gT fU (fun a ha=>?_) iR (fun c o hc e=>?_) (hSe.symm ▸ j4)⟩
  ·have:=eF a ha;rw [kJ]at this;rw [hSe];exact this
  ·refine lL c o (fun q=>?_) (e9 c o (fun z=>?_) e)
   ·rcases aN.mp (show c∈[z,TO,i1,i2]++[S]from q)with q | q
    ·exact hc q
    ·rw [aD.mp q,<- hSe]at e;exact absurd (au e) (aR _)
   ·rw [z,<- hSe]at e;exact absurd (au e) (aR _)
end
section
variable {X:Cx}{H0:Hp}{a b:Expr}{p p2 pos eJ:Pos}{wr:WA}
theorem Z9j {ae:Pn9} {σ:St}{s:Shared}{n0:Nat} (h0:X.s₀.heap.objs.size<=n0):∀(as:List Addr) (xs:List (V×V)) {H:Hp},A1 X ae σ H s->as.length=xs.length->as.Nodup->(∀a∈as,n0<=a/\H a=none/\a≠X.env.locals/\(∀x c,X.env.cells.lookup x=some c->c≠a)/\∀q∈X.pn++ae,q.1≠a) ->
  (∀(j:Nat) a v,as[j]?=some a->xs[j]?=some v->∃x y,B7 v.1 x/\B7 v.2 y/\IsPair s.heap a x y)->∃H',A1 X ae σ H' s/\A5 H H'/\(∀c,c∉as->H' c=H c)/\∀(j:Nat) a v,as[j]?=some a->xs[j]?=some v->H' a=some (.tup [v.1,v.2])
 | [],xs,H,I,_,_,_,_=>⟨H,I,A5.refl H,fun _ _=>rfl,by intro j a v e;simp at e⟩
 | c::as,[],H,I,l,_,_,_=>by cases l
 | c::as,u::xs,H,I,l,n,f,g=>by
  rw [bj]at n
  obtain⟨c1,c2,c3,c4,c5⟩:=f c aA
  obtain⟨x,y,rx,ry,pr⟩:=g 0 c u rfl rfl
  have I1:A1 X ae σ (upd H c (.tup [u.1,u.2])) s:=Z1x I c2 (.inr (aX h0 c1)) c3 c4 c5 ⟨by show 2<=sizeLine;decide,[x,y],.cons rx (.cons ry .nil),_,pr,rfl,_,rfl⟩
  obtain⟨H',I2,sm,fk,at_⟩:=Z9j h0 as xs I1 (by simpa using l) n.2 (fun a ha=>by
   obtain⟨a1,a2,a3⟩:=f a (ax _ ha)
   exact⟨a1,by rw [A6 (fun z=>n.1 (by rw [<- z];exact ha))];exact a2,a3⟩) fun j a v e1 e2=>g (j+1) a v (by simpa using e1) (by simpa using e2)
  refine⟨H',I2,(G0 c2 _).trans sm,fun d hd=>?_,fun j a v e1 e2=>?_⟩
  ·rw [fk d (fun z=>hd (ax _ z)),A6 (fun z=>hd (by rw [z];exact aA))]
  ·cases j with
   | zero=>cases e1;cases e2;rw [fk c n.1];exact upd_same
   | succ j=>exact at_ j a v (by simpa using e1) (by simpa using e2)
theorem Y4c {K:Fg9}{H0 H:Hp}{r:R}{ds:List D}{v:V} (e:T1 r=some ds) (h:E4 K H0 H r v):∃(b:Bool) (a:Addr) (xs:List V),v=.ref a/\SqB b K H a xs/\AllS K H ds xs:=by
 obtain⟨a,xs,rfl,h | h,al⟩:=W6q e h
 ·exact⟨false,a,xs,rfl,h,al⟩
 ·exact⟨true,a,xs,rfl,h,al⟩
theorem Y5j {ae:Pn9}{s:Shared} {σ:St}{H:Hp}{G:List D->List D->Hp->Prop}{Q:VS9} (I:A1 X ae σ H s) (hg:Gl X "zip") (hm:X.mg "zip"=none) (ha:DA X H0 [a,b] wr) {τ:A8} (hR:B4 X.K H0 τ σ H)
  (h:wr τ fun rs=>∃r r' ds es,rs=[r,r']/\T1 r=some ds/\T1 r'=some es/\∀H',A5 H H'->G ds es H')
  (hQ:∀(b1 b2:Bool) (l1 l2:Addr) (xs ys:List V) (aV bZ:List Value) (ds es:List D) (H1:Hp) (s1:Shared) (h':Heap),A1 X ae σ H1 s1->A5 H H1->SqB b1 X.K H1 l1 xs->SqB b2 X.K H1 l2 ys->AllS X.K H1 ds xs->AllS X.K H1 es ys->B6 xs aV->B6 ys bZ->P4 b1 s1.heap l1 aV.toArray->P4 b2 s1.heap l2 bZ.toArray->xs.length<=sizeLine ->
   ZTn b1 b2 (s1.heap.objs.size+4) (s1.heap.objs.size+2) (s1.heap.objs.size+3) s1.heap.objs.size (s1.heap.objs.size+1) l1 l2 0 h'->Q1t (s1.heap.objs.size+4) (s1.heap.objs.size+2) (s1.heap.objs.size+3) s1.heap.objs.size (s1.heap.objs.size+1) [s1.heap.objs.size,l1] [s1.heap.objs.size+1,l2] ->
   @LT.lt Nat _ l1 s1.heap.objs.size->@LT.lt Nat _ l2 s1.heap.objs.size->h'.objs.size=s1.heap.objs.size+5->(∀c o,s1.heap.get? c=some o->h'.get? c=some o)->(∀H',A5 H H'->G ds es H')->Q (.ref (s1.heap.objs.size+4)) { s1 with heap:=h' })
  (he:starEach [a,b] X.env=(false,eval a X.env)::starEach [b] X.env) (hpl:(backTo pos (starEach [b] X.env)).any (·.1)=false) :
  wpAny (model X.prog X.w) X.A (eval (.Call (.Name "zip" p) [a,b] [] pos) X.env) Q X.xe s:=by
 refine bq (Q2f I hg hm (u:=.type "zip") rfl ?_ (by decide) (by decide))
 refine bv (B2 (ha.pa pos ae s σ H (fun vs H1=>A5 H H1/\∃b1 b2 l1 l2 xs ys ds es,vs=[.ref l1,.ref l2]/\SqB b1 X.K H1 l1 xs/\AllS X.K H1 ds xs/\SqB b2 X.K H1 l2 ys/\AllS X.K H1 es ys/\∀H',A5 H H'->G ds es H') I
  ⟨τ,hR,ha.mono τ _ _ (fun rs ⟨r,r',ds,es,e1,e2,e3,q⟩ vs H1 s1 cx=>⟨s1,by
   subst e1
   obtain⟨v,u,rfl,ir,pJ⟩:=Y6f cx
   obtain⟨b1,l,xs,rfl,sq,al⟩:=Y4c e2 ir
   obtain⟨b2,l2,ys,rfl,cY,cH⟩:=Y4c e3 pJ
   exact⟨b1,b2,l,l2,xs,ys,ds,es,rfl,sq,al,cY,cH,q⟩⟩) h⟩) fun us s1 bp=>?_) he hpl
 obtain⟨vs,H1,I1,rv,sm,b1,b2,l1,l2,xs,ys,ds,es,e1,sq,al,cY,cH,q⟩:=bp
 subst e1
 obtain⟨u1,u2,rfl,r1,r2⟩:=rv.two
 cases (show u1=Value.ref l1 from r1)
 cases (show u2=Value.ref l2 from r2)
 obtain⟨aV,gg,pl,i8⟩:=Q4o I1 sq
 obtain⟨bZ,gG,eE,pO⟩:=Q4o I1 cY
 have hl:=pl.lt
 have eg:=eE.lt
 refine Y7a pl eE fun h' hz fu eZ jf iZ hsz k=>hQ b1 b2 l1 l2 xs ys aV bZ ds es H1 s1 h' I1 sm sq cY al cH gg gG pl eE i8 ⟨hz,fu,⟨_,_,eZ⟩,jf,iZ⟩ ?_ hl eg hsz k q
 refine⟨?_,?_,?_,?_,?_,?_,?_,?_,?_,?_,fun b hb=>?_,fun b hb=>?_⟩
 all_goals first | (show ¬ ((_:Nat)=(_:Nat));omega) | skip
 all_goals simp only [ao,aT,bK]at hb
 all_goals rcases hb with rfl | rfl <;> refine⟨?_,?_,?_⟩ <;> (show ¬ ((_:Nat)=(_:Nat));omega)
noncomputable def Q7w (wr:WA):P5:=fun τ Q=>wr τ fun rs=>∃r r' ds es,rs=[r,r']/\T1 r=some ds/\T1 r'=some es/\Q (T3 ds es)
theorem F7.zipA {tg:Expr} (hg:Gl X "zip") (hm:X.mg "zip"=none) (ha:DA X H0 [a,b] wr) (he:starEach [a,b] X.env=(false,eval a X.env)::starEach [b] X.env:=by rfl) (hpl:(backTo pos (starEach [b] X.env)).any (·.1)=false:=by rfl) :
  F7 X H0 tg (.Call (.Name "zip" p) [a,b] [] pos) (Q7w wr) where
 mono:=fun τ P Q f h=>ha.mono τ _ _ (fun r ⟨r1,r2,ds,es,e1,e2,e3,q⟩=>⟨r1,r2,ds,es,e1,e2,e3,f _ q⟩) h
 pi:=by
  intro ae s σ H R I ⟨τ,hR,h⟩
  refine Y5j (G:=fun ds es H'=>∀J,YlS X.K J (T3 ds es) H'->R J H') I hg hm ha hR (ha.mono τ _ _ (fun rs ⟨r,r',ds,es,e1,e2,e3,q⟩=>⟨r,r',ds,es,e1,e2,e3,fun H' sm J y=>q J H' sm y⟩) h) (fun b1 b2 l1 l2 xs ys aV bZ ds es H1 s1 h' I1 sm sq cY al cH rv dZ pl eE hz st Z hl eg hsz k q=>?_) he hpl
  refine Z6j (s:={ s1 with heap:=h' }) st.1 ⟨s1.heap.objs.size+4,[s1.heap.objs.size+4,s1.heap.objs.size+3,s1.heap.objs.size,s1.heap.objs.size+1,s1.heap.objs.size+2],_,_,H1,rfl,I1.kept (t':=s1.toks) k,W7v (n:=Min.min ds.length es.length) Z (av hl) (av (bi eg)),st,fun b hb=>?_,q _ sm _ (W8m sq al cY cH)⟩
  have hb:s1.heap.objs.size<=b:=by
   simp only [ao,aT,bK]at hb
   rcases hb with rfl | rfl | rfl | rfl | rfl <;> first | exact ai _ | exact Nat.le_add_right _ _
  exact I1.fpOk hb (I1.hok.fresh hb)
@[simp] theorem W5m {τ:A8}{Q:List D->Prop}:Q7w wr τ Q=wr τ fun rs=>∃r r' ds es,rs=[r,r']/\T1 r=some ds/\T1 r'=some es/\Q (T3 ds es):=rfl
def Z5g (wr:WA):WE:=fun τ Q=>wr τ fun rs=>∃r r' ds es,rs=[r,r']/\T1 r=some ds/\T1 r'=some es/\Q (.nw (T3 ds es))
theorem DE.listZip (hc:X.calm=true) (hg:Gl X "list") (hm:X.mg "list"=none) (qr:Gl X "zip") (qe:X.mg "zip"=none) (ha:DA X H0 [a,b] wr)
  (hs:starEach [.Call (.Name "zip" p2) [a,b] [] eJ] X.env=(false,eval (.Call (.Name "zip" p2) [a,b] [] eJ) X.env)::starEach [] X.env:=by rfl)
  (he:starEach [a,b] X.env=(false,eval a X.env)::starEach [b] X.env:=by rfl) (hpl:(backTo eJ (starEach [b] X.env)).any (·.1)=false:=by rfl) :
  DE X H0 (.Call (.Name "list" p) [.Call (.Name "zip" p2) [a,b] [] eJ] [] pos) (Z5g wr) where
 mono:=fun τ P Q f h=>ha.mono τ _ _ (fun r ⟨r1,r2,ds,es,e1,e2,e3,q⟩=>⟨r1,r2,ds,es,e1,e2,e3,f _ q⟩) h
 pe:=by
  intro ae s σ H Q I ⟨τ,hR,h⟩
  refine bq (Q2f I hg hm (u:=.type "list") rfl ?_ (by decide) (by decide))
  refine bv ?_ hs
  rw [hs]
  change wpAny (model X.prog X.w) X.A (spliced ((false,eval (.Call (.Name "zip" p2) [a,b] [] eJ) X.env)::backTo pos (starEach [] X.env))) _ _ s
  refine bY ?_
  refine Y5j (G:=fun ds es H'=>∀v,E4 X.K H H' (.nw (T3 ds es)) v->Q v H') I qr qe ha hR (ha.mono τ _ _ (fun rs ⟨r,r',ds,es,e1,e2,e3,q⟩=>⟨r,r',ds,es,e1,e2,e3,fun H' sm v i=>q v H' sm i⟩) h) (fun b1 b2 l1 l2 xs ys aV bZ ds es H1 s1 h' I1 sm sq cY al cH gg gG pl eE i8 st Z hl eg hsz k q=>dU ?_) he hpl
  have n1:=gg.length
  have n2:=gG.length
  refine Y6v (s:={ s1 with heap:=h' }) (I.ok.hd hc) Z (av hl) (av (bi eg)) st (pl.keep fun o e=>k _ o e) (eE.keep fun o e=>k _ o e) (by simp only [aB];omega) (fun b hb=>?_) fun h2 tk as c gT fU eF iR lL j4=>?_
  ·show b<h'.objs.size
   rw [hsz]
   simp only [ao,aT,bK]at hb;rcases hb with rfl | rfl | rfl | rfl | rfl | rfl | rfl <;> (show(_:Nat)<(_:Nat);omega)
  ·have lK:∀c o,s1.heap.get? c=some o->h2.get? c=some o:=fun c o e=>lL c o (fun z=>by
    have:@LT.lt Nat _ c s1.heap.objs.size:=au e
    simp only [ao,aT,bK]at z
    rcases z with rfl | rfl | rfl | rfl <;> omega) (k c o e)
   have I2:A1 X ae σ H1 { s1 with heap:=h2,toks:=tk }:=I1.kept (t':=tk) lK
   have hS:@LE.le Nat _ s1.heap.objs.size h'.objs.size:=by rw [hsz];omega
   have big:∀c,s1.heap.objs.size<=c->H1 c=none/\c≠X.env.locals/\(∀x d,X.env.cells.lookup x=some d->d≠c)/\∀q∈X.pn++ae,q.1≠c:=fun c fq=>by
    obtain⟨f0,f1,_,_,f4,f5⟩:=I1.fpOk fq (I1.hok.fresh fq)
    exact⟨f0,f1,f4,f5⟩
   have jS:∀a∈as,s1.heap.objs.size<=a:=fun a kA=>aX hS (cO (eF a kA))
   have pq:(xs.zip ys).length=Min.min aV.toArray.size bZ.toArray.size:=by simp;omega
   obtain⟨H3,I3,iC,e9,rH⟩:=Z9j (X:=X) (s:={ s1 with heap:=h2,toks:=tk }) (n0:=s1.heap.objs.size) I1.sz as (xs.zip ys) I2 (by rw [gT,pq]) fU (fun a kA=>⟨jS a kA,big a (jS a kA)⟩) fun j a v e1 e2=>by
    obtain⟨x,y,ex,ey,pr⟩:=iR j a e1
    rw [bF]at e2
    obtain⟨u,hu,ru⟩:=gg.get e2.1
    obtain⟨u',lq,kS⟩:=gG.get e2.2
    have ex:aV[j]?=some x:=by simpa using ex
    have ey:bZ[j]?=some y:=by simpa using ey
    rw [hu]at ex;cases ex
    rw [lq]at ey;cases ey
    exact⟨_,_,ru,kS,pr⟩
   have m3:h'.objs.size∉as:=fun z=>aR _ (eF _ z)
   obtain⟨b1,b2,b3,b4⟩:=big h'.objs.size hS
   have hz:(as.map V.ref).length<=sizeLine:=by rw [ag,gT];simp only [aB];omega
   have I4:=Z1x I3 (p:=h'.objs.size) (u:=.lst (as.map V.ref)) (by rw [e9 _ m3];exact b1) (.inr (aX I1.sz hS)) b2 b3 b4 ⟨hz,as.map Value.ref,c,Z4r as,j4⟩
   have gE:=iC.trans (G0 (p:=h'.objs.size) (by rw [e9 _ m3];exact b1) (.lst (as.map V.ref)))
   refine⟨.ref h'.objs.size,_,I4,rfl,q _ (sm.trans gE) _ ⟨h'.objs.size,as.map V.ref,rfl,sm.free b1,upd_same,?_⟩⟩
   have kp:=Kp.of gE
   have rL:=al.mono kp _ _
   have mB:=cH.mono kp _ _
   have rG:∀(j:Nat) a v,as[j]?=some a->(xs.zip ys)[j]?=some v->upd H3 h'.objs.size (.lst (as.map V.ref)) a=some (.tup [v.1,v.2]):=fun j a v e1 e2=>by
    rw [A6 (fun z=>m3 (by rw [<- z];exact aw e1))];exact rH j a v e1 e2
   have lz:as.length=(T3 ds es).length:=by rw [gT,Z6i,al.length,cH.length];simp only [aB];omega
   have key:∀(as:List Addr) (zs:List D) (H:Hp),as.length=zs.length->(∀(j:Nat) a z,as[j]?=some a->zs[j]?=some z->A3 X.K H z (.ref a))->AllS X.K H zs (as.map V.ref):=by
    intro as
    induction as with
    | nil=>intro zs H l _;cases zs with
     | nil=>exact AllS.nil
     | cons _ _=>cases l
    | cons a as ih =>
     intro zs H l f
     cases zs with
     | nil=>cases l
     | cons z zs=>exact AllS.cons (f 0 a z rfl rfl) (ih zs H (by simpa using l) fun j a z e1 e2=>f (j+1) a z (by simpa using e1) (by simpa using e2))
   refine key as (T3 ds es) _ lz fun j a z e1 e2=>?_
   obtain⟨x,y,ex,ey,rfl⟩:=Y5i e2
   obtain⟨v1,kr,q1⟩:=rL.get ex
   obtain⟨v2,kq,q2⟩:=mB.get ey
   exact A3.s_tup (rG j a (v1,v2) e1 (by rw [bF];exact⟨kr,kq⟩)) (AllS.cons q1 (AllS.cons q2 AllS.nil))
@[simp] theorem W5v {τ:A8}{Q:R->Prop}:Z5g wr τ Q=wr τ fun rs=>∃r r' ds es,rs=[r,r']/\T1 r=some ds/\T1 r'=some es/\Q (.nw (T3 ds es)):=rfl
end
section
variable {X:Cx}{H0:Hp}{tg e:Expr}
noncomputable def jOr (a b:P5):P5:=fun τ Q=>a τ Q\/b τ Q
def iOr (a b:WI):WI:=fun τ Q=>a τ Q\/b τ Q
theorem F7.or {a b:P5} (h1:F7 X H0 tg e a) (h2:F7 X H0 tg e b):F7 X H0 tg e (jOr a b) where
 mono:=fun τ P Q f h=>h.elim (fun h=>.inl (h1.mono τ P Q f h)) fun h=>.inr (h2.mono τ P Q f h)
 pi:=fun ae s σ H R I h=>by
  obtain⟨τ,hR,h | h⟩:=h
  ·exact h1.pi ae s σ H R I ⟨τ,hR,h⟩
  ·exact h2.pi ae s σ H R I ⟨τ,hR,h⟩
theorem DI.or {a b:WI} (h1:DI X H0 tg e a) (h2:DI X H0 tg e b):DI X H0 tg e (iOr a b) where
 mono:=fun τ P Q f h=>h.elim (fun h=>.inl (h1.mono τ P Q f h)) fun h=>.inr (h2.mono τ P Q f h)
 pi:=fun ae s σ H R I h=>by
  obtain⟨τ,hR,h | h⟩:=h
  ·exact h1.pi ae s σ H R I ⟨τ,hR,h⟩
  ·exact h2.pi ae s σ H R I ⟨τ,hR,h⟩
end
section
variable {X:Cx}{H0:Hp}{o e f v b:Expr}{pos be apos bc sp p1 p2:Pos}{we wf wv w1 w2:WE}{i:Nat}
noncomputable def W3o:V->V->V->Hp->(Hp->Prop)->Prop:=fun o i v H Q=>∃p xs k j,o=.ref p/\i=.int k/\H p=some (.ext (LO p xs))/\ixN xs.length k=some j/\Q (upd H p (.ext (LO p (xs.set j v))))
theorem W6j:Z0o X W3o:=by
 intro ae s σ H o i v ov iv u Q I ro ri rv h
 obtain⟨p,xs,k,j,rfl,rfl,hp,hj,q⟩:=h
 cases ro
 obtain⟨t,rfl⟩:=ri
 obtain⟨hz,aV,n,r,ho⟩:=Z1w I hp
 obtain⟨h1,h2,h3,h4⟩:=Q5r hj
 have hl:=r.length
 have hn:=Q1k
 have e4:(s.heap.update p (Obj.mapSeq (·.setIfInBounds j u))).get? p=some _:=cI (Obj.mapSeq (·.setIfInBounds j u)) ho rfl
 have I':A1 X ae σ (upd H p (.ext (LO p (xs.set j v)))) { s with heap:=s.heap.update p (Obj.mapSeq (·.setIfInBounds j u)) } :=
  Q1x (t':=s.toks) I (by rw [hp];exact True.intro) (bx ..) ⟨_,e4⟩ (LO.ok ⟨by rw [bg];exact hz,aV.set j u,_,r.set rv j,by rw [e4,<- Y0d aV n j u]⟩)
 by_cases h0:0<=k
 ·have hk:k.toNat=j:=by
   rw [seqIndex_of h0 h4]at h1
   exact ay h1
  exact PySem.W.ki_setAt ho h0 (by omega) (by rw [aB,<- hl];exact h4) (by rw [hk];exact⟨_,I',q⟩)
 ·have hk:(k+(aV.toArray.size:Int)).toNat=j:=by
   rw [seqIndex_neg (by omega) h3]at h1
   rw [aB,<- hl]
   exact ay h1
  exact PySem.W.ki_setBack ho (by omega) (by rw [aB,<- hl];exact h3) (by omega) (by rw [hk];exact⟨_,I',q⟩)
theorem Y6q:Q2r X (.builtin "len") (fun xs H Q=>∃p ys,xs=[.ref p]/\H p=some (.ext (LO p ys))/\Q (.int ys.length) H):=by
 intro ae s σ H xs us Q I r h
 obtain⟨p,ys,rfl,e,q⟩:=h
 obtain⟨u,rfl,rx⟩:=Z8 r
 cases (show u=Value.ref p from rx)
 obtain⟨hz,aV,n,r',ho⟩:=Z1w I e
 have hl:=Q1k
 have hs:sizeLine=16777216:=sizeLine_eq
 have bI:=r'.length
 exact Calls.call_len_list ⟨_,ho,rfl,n,rfl⟩ (by simp only [aB];omega) ⟨.int ys.length,H,I.tok _,⟨_,by simp only [aB];rw [bI]⟩,q⟩
theorem Q7t {ae:Pn9} {σ:St}{H:Hp}{s:Shared}{c:Addr}{xs:List V} (I:A1 X ae σ H s) (h:H c=some (.lst xs)):A1 X ae σ (upd H c (.ext (LO c xs))) s:=by
 obtain⟨z,aV,n,r,_,q⟩:=I.lstM h
 exact I.write (t':=s.toks) (h':=s.heap) (e:=c) (o:=.ext (LO c xs)) (by rw [h];trivial) (.inl rfl) (fun b u _ k=>k) ⟨_,q⟩ (LO.ok ⟨z,aV,n,r,q⟩)
theorem B4.llin {K:Fg9}{H:Hp} {τ:A8} {σ:St}{a:Addr}{dss:List (List D)}{k:Int}{j:Nat} (hR:B4 K H0 τ σ H) (e1:τ[i]?=some (some (.ll a dss))) (a2:ixN dss.length k=some j) :
  ∃bs b0 xs,(H a=some (.ext (LO a (bs.map V.ref)))/\H0 a=none/\a∉bs)/\bs.Nodup/\(∀b∈bs,H0 b=none)/\G6 K H bs dss/\bs[j]?=some b0/\H b0=some (.ext (LO b0 xs))/\AllS K H (dss.getD j []) xs/\K6 (bs.map V.ref) k=some (V.ref b0):=by
 obtain⟨_,bs,ha,nd,h0,ll⟩:=hR.llAt e1
 have el:=ll.length
 obtain⟨_,hj,_,_⟩:=Q5r a2
 obtain⟨b0,xs,ej,eb,al⟩:=ll.get hj
 exact⟨bs,b0,xs,ha,nd,h0,ll,ej,eb,al,by unfold K6;rw [ag,el,a2];show(bs.map V.ref)[j]?=_;rw [ah,ej];rfl⟩
def Z5e (i:Nat) (w1 w2:WE):WE:=fun τ Q=>∃a dss,τ[i]?=some (some (.ll a dss))/\w1 τ fun r=>∃k j,r=.st (.int k)/\ixN dss.length k=some j/\w2 τ fun r2=>∃k2 d,r2=.st (.int k2)/\K6 (dss.getD j []) k2=some d/\Q (.st d)
theorem DE.llget (ho:PE X b (M0 i)) (he:DE X H0 e we) (hf:DE X H0 f wf) (lE:Q3r e) (jc:Q3r f):DE X H0 (.Subscript (.Subscript b e p1) f p2) (Z5e i we wf) where
 mono:=fun τ P Q g ⟨a,dss,e1,h⟩=>⟨a,dss,e1,he.mono τ _ _ (fun r ⟨k,j,a1,a2,h⟩=>⟨k,j,a1,a2,hf.mono τ _ _ (fun r ⟨k2,d,b1,b2,b3⟩=>⟨k2,d,b1,b2,g _ b3⟩) h⟩) h⟩
 pe:=O1 (Q6e Q7v (Q6e Q7v ho he.pe lE) hf.pe jc) fun σ H Q ⟨τ,hR,a,dss,e1,h⟩=>by
  obtain⟨dg,_⟩:=hR.llAt e1
  refine⟨_,dg,τ,hR,he.mono τ _ _ (fun r ⟨k,j,a1,a2,h⟩ y H1 s1 ik=>?_) h⟩
  subst a1
  cases (show y=.int k from ik)
  have cD:=hR.mono s1
  obtain⟨bs,b0,xs,ha,nd,h0,ll,ej,eb,al,jQ⟩:=cD.llin e1 a2
  refine⟨a,bs.map V.ref,k,V.ref b0,rfl,rfl,ha.1,jQ,τ,cD,hf.mono τ _ _ (fun r ⟨k2,d,b1,b2,b3⟩ u H2 s2 iu=>?_) h⟩
  subst b1
  cases (show u=.int k2 from iu)
  obtain⟨v,hv,iv⟩:=Q5h al b2
  exact⟨b0,xs,k2,v,rfl,rfl,s2 _ _ eb,hv,b3 _ _ (s1.trans s2) (A3.mono (Kp.of s2) _ _ iv)⟩
def Y4v (i:Nat):WE:=fun τ Q=>∃a dss,τ[i]?=some (some (.ll a dss))/\Q (.st (.int dss.length))
theorem DE.lllen {p:Pos} (ho:PE X b (M0 i)) (hg:Gl X "len") (hm:X.mg "len"=none) (hs:starEach [b] X.env=(false,eval b X.env)::starEach [] X.env:=by rfl) (hpl:(backTo pos (starEach [] X.env)).any (·.1)=false:=by rfl):DE X H0 (.Call (.Name "len" p) [b] [] pos) (Y4v i) where
 mono:=fun τ P Q g ⟨a,dss,e1,h⟩=>⟨a,dss,e1,g _ h⟩
 pe:=O1 (Z3d Y6q hg hm rfl (Q1n ho Q3g hs) (he:=hs) (hpl:=hpl)) fun σ H Q ⟨τ,hR,a,dss,e1,h⟩=>by
  obtain⟨dg,bs,ha,nd,h0,ll⟩:=hR.llAt e1
  refine⟨_,dg,a,bs.map V.ref,rfl,ha.1,?_⟩
  rw [ag,ll.length]
  exact h _ _ (A5.refl _) X8
def Y4x (i:Nat) (w1 w2 wv:WE):WS:=fun E τ=>wv τ fun r=>∃d,r=.st d/\∃a dss,τ[i]?=some (some (.ll a dss))/\W3 i τ=true/\w1 τ fun r1=>∃k j,r1=.st (.int k)/\ixN dss.length k=some j /\
 w2 τ fun r2=>∃k2 j2,r2=.st (.int k2)/\ixN (dss.getD j []).length k2=some j2/\E.nx (τ.set i (some (.ll a (dss.set j ((dss.getD j []).set j2 d)))))
theorem DS.llput (ho:PE X b (M0 i)) (he:DE X H0 e we) (hf:DE X H0 f wf) (hv:DE X H0 v wv) (lE:Q3r e)
  (hs:swapsWithSole [.Subscript (.Subscript b e p1) f be] v pos.line X.env=pure false:=by rfl) (hw:swappedStores [.Subscript (.Subscript b e p1) f be] v X.env=pure none:=by rfl)
  (h1:(assignEach [.Subscript (.Subscript b e p1) f be] X.env).map (·.2)=[assign (.Subscript (.Subscript b e p1) f be) X.env]:=by rfl)
  (ha:∀v,assign (.Subscript (.Subscript b e p1) f be) X.env v=(do
   let ov <- holding [v] (eval (.Subscript b e p1) X.env)
   let iv <- holding [v,ov] (eval f X.env)
   standAt be
   holding [v,ov,iv] (setItem ov iv v)
   release [v,ov,iv] []):=by intro _;rfl):DS X H0 (.Assign [.Subscript (.Subscript b e p1) f be] v pos) (Y4x i we wf wv) where
 mono:=fun τ E F le h=>hv.mono τ _ _ (fun r ⟨d,e1,a,dss,e2,on,h⟩=>⟨d,e1,a,dss,e2,on,he.mono τ _ _ (fun r ⟨k,j,a1,a2,h⟩=>⟨k,j,a1,a2,hf.mono τ _ _ (fun r ⟨k2,j2,b1,b2,b3⟩=>⟨k2,j2,b1,b2,le.nx _ b3⟩) h⟩) h⟩) h
 ps:=O2 (Z3i hv.pe (Y1r (Q6e Q7v ho he.pe lE) hf.pe W6j ha) hs hw h1) fun D σ H ⟨τ,hR,h⟩=>by
  refine⟨τ,hR,hv.mono τ _ _ (fun r ⟨d,e1,a,dss,e2,on,h⟩ u H1 s1 ir=>?_) h⟩
  subst e1
  have cD:=hR.mono s1
  obtain⟨dg,_⟩:=cD.llAt e2
  refine⟨_,dg,τ,cD,he.mono τ _ _ (fun rk ⟨k,j,a1,a2,h⟩ y H2 s2 ik=>?_) h⟩
  subst a1
  cases (show y=.int k from ik)
  have cC:=cD.mono s2
  obtain⟨bs,b0,xs,hb,nd,h0,ll,ej,eb,al,jQ⟩:=cC.llin e2 a2
  refine⟨a,bs.map V.ref,k,V.ref b0,rfl,rfl,hb.1,jQ,τ,cC,hf.mono τ _ _ (fun r ⟨k2,j2,b1,b2,b3⟩ y2 H3 s3 ik2=>?_) h⟩
  subst b1
  cases (show y2=.int k2 from ik2)
  have mV:=Kp.of s3
  have fw:=cC.mono s3
  refine⟨b0,xs,k2,j2,rfl,rfl,s3 _ _ eb,by rw [<- al.length];exact b2,?_⟩
  have j5:=AllS.set (A3.mono (Kp.of (s2.trans s3)) _ _ ir) j2 (al.mono mV _ _)
  obtain⟨kp,gw⟩:=fw.llset (xs:=xs.set j2 u) (ds:=(dss.getD j []).set j2 d) e2 dg on ⟨s3 _ _ hb.1,hb.2⟩ nd h0 (ll.keep mV fun b φ q=>s3 _ _ q) ej (s3 _ _ eb) j5
  exact b3 _ _ ((Kp.of ((s1.trans s2).trans s3)).trans kp) gw
def Y4w (i:Nat) (we:WE):WS:=fun E τ=>∃a dss,τ[i]?=some (some (.ll a dss))/\W3 i τ=true/\dss.length<sizeLine/\we τ fun r=>∃ds,r=.nw ds/\E.nx (τ.set i (some (.ll a (dss++[ds]))))
theorem DS.llpush (ho:PE X o (M0 i)) (he:DE X H0 e we) (m:M1 X o "append" apos e bc) (fT:swapsWith (.Call (.Attribute o "append" apos) [e] [] bc) none sp.line X.env=pure false:=by rfl) :
  DS X H0 (.Expr (.Call (.Attribute o "append" apos) [e] [] bc) sp) (Y4w i we) where
 mono:=fun τ E F le ⟨a,dss,e1,on,hz,h⟩=>⟨a,dss,e1,on,hz,he.mono τ _ _ (fun r ⟨ds,a1,a2⟩=>⟨ds,a1,le.nx _ a2⟩) h⟩
 ps:=O2 (Q6f (Q8q (Y1n ho he.pe m) fT)) fun D σ H ⟨τ,hR,a,dss,e1,on,hz,h⟩=>by
  obtain⟨dg,bs,ha,nd,h0,ll⟩:=hR.llAt e1
  refine⟨_,dg,a,bs.map V.ref,rfl,ha.1,τ,hR,he.mono τ _ _ (fun r ⟨ds,a1,a2⟩ y H2 s2 iy=>?_) h⟩
  subst a1
  obtain⟨c,ys,rfl,jN,hc,al⟩:=iy
  refine⟨bs.map V.ref,s2 _ _ ha.1,by rw [ag,ll.length];exact hz,fun ae s I=>?_⟩
  have qK:=s2 _ _ ha.1
  have mv:c≠a:=fun z=>by rw [z,ha.1]at jN;cases jN
  have fC:c∉bs:=fun z=>by obtain⟨xs,q⟩:=ll.mem z;rw [jN]at q;cases q
  have nB:upd H2 a (.ext (LO a (bs.map V.ref++[.ref c]))) c=some (.lst ys):=by rw [A6 mv];exact hc
  have k1:Kp H2 (upd H2 a (.ext (LO a (bs.map V.ref++[.ref c])))):=Kp.updM qK (by intro xs z;cases z) (by intro o u z;cases z) _
  have k2:Kp (upd H2 a (.ext (LO a (bs.map V.ref++[.ref c])))) (upd (upd H2 a (.ext (LO a (bs.map V.ref++[.ref c])))) c (.ext (LO c ys))):=Kp.upd nB _
  have kk:=k1.trans k2
  have cC:=hR.mono s2
  have k8:∀b u,b≠a->b≠c->H2 b=some u->upd (upd H2 a (.ext (LO a (bs.map V.ref++[.ref c])))) c (.ext (LO c ys)) b=some u:=fun b u h1 h2 q=>by rw [A6 h2,A6 h1];exact q
  have oI:H0 c=none:=hR.same.free jN
  refine⟨_,Q7t I nB,a2 σ _ ((Kp.of s2).trans kk) (hR.llre e1 dg on ((Kp.of s2).trans kk) (fun b u q n=>k8 b u (fun z=>by rw [z,ha.1]at q;cases q;exact n _ rfl) (fun z=>by rw [z,jN]at q;cases q) (s2 _ _ q)) (fun b u q=>k8 b u (fun z=>by rw [z,ha.2.1]at q;cases q) (fun z=>by rw [z,oI]at q;cases q) (cC.same b u q)) ⟨bs++[c],⟨?_,ha.2.1,?_⟩,?_,?_,?_⟩)⟩
  ·rw [A6 (bn mv),upd_same,cF];rfl
  ·intro z
   rcases aN.mp z with z | z
   ·exact ha.2.2 z
   ·exact mv (aD.mp z).symm
  ·rw [ba]
   exact⟨nd,by simp,fun x hx y hy e=>fC (by rw [<- aD.mp hy,<- e];exact hx)⟩
  ·intro b hb
   rcases aN.mp hb with z | z
   ·exact h0 b z
   ·rw [aD.mp z];exact oI
  ·refine G6.append upd_same (al.mono kk _ _) ?_
   have same:∀{cs:List Addr}{ess:List (List TK.D)},a∉cs->c∉cs->G6 X.K H2 cs ess->G6 X.K (upd (upd H2 a (.ext (LO a (bs.map V.ref++[.ref c])))) c (.ext (LO c ys))) cs ess:=by
    intro cs
    induction cs with
    | nil=>intro ess _ _ h;exact h
    | cons d cs ih =>
     intro ess n1 n2 h
     obtain⟨ds,r,rfl,⟨xs,q,al⟩,t⟩:=h
     exact⟨ds,r,rfl,⟨xs,k8 d _ (fun z=>n1 (by rw [z];exact aA)) (fun z=>n2 (by rw [z];exact aA)) q,al.mono kk _ _⟩,ih (fun z=>n1 (ax _ z)) (fun z=>n2 (ax _ z)) t⟩
   exact same ha.2.2 fC (ll.keep (Kp.of s2) fun b φ q=>s2 _ _ q)
def Z5f (i:Nat) (w1 w2:WE):WS:=fun E τ=>w1 τ fun r1=>∃gz,r1=.nw gz/\w2 τ fun r2=>∃g8,r2=.nw g8/\∀a,E.nx (τ.set i (some (.ll a [gz,g8])))
theorem DS.llnew {x:Str} (he:DE X H0 e we) (hf:DE X H0 f wf) (hN:X.N.Nodup) (hi:X.N[i]?=some x) (hx:Loc X.env.scope x) (hs:swapsWith (.List [e,f] p1) (some (.Name x be)) pos.line X.env=pure false:=by rfl)
  (h1:starEach [e,f] X.env=(false,eval e X.env)::starEach [f] X.env:=by rfl) (h2:starEach [f] X.env=(false,eval f X.env)::starEach [] X.env:=by rfl)
  (gr:X.fn x=true\/X.env.scope.names.lookup x=some .local:=by first | exact .inl rfl | exact .inr rfl | assumption):DS X H0 (.Assign [.Name x be] (.List [e,f] p1) pos) (Z5f i we wf) where
 mono:=fun τ E F le h=>he.mono τ _ _ (fun r ⟨gz,a1,h⟩=>⟨gz,a1,hf.mono τ _ _ (fun r ⟨g8,b1,b2⟩=>⟨g8,b1,fun a=>le.nx _ (b2 a)⟩) h⟩) h
 ps:=O2 (Q6f (Q3h hN hi hx (Y1o (Q1n he.pe (Q1n hf.pe Q3g h2) h1)) hs gr)) fun D σ H ⟨τ,hR,h⟩=>by
  refine⟨τ,hR,he.mono τ _ _ (fun r ⟨gz,a1,h⟩ y1 H1 s1 i1=>?_) h⟩
  subst a1
  obtain⟨b1,fK,rfl,n1,q1,eS⟩:=i1
  refine⟨τ,hR.mono s1,hf.mono τ _ _ (fun r ⟨g8,c1,c2⟩ y2 H2 s2 i2=>?_) h⟩
  subst c1
  obtain⟨b2,ga,rfl,n2,q2,cH⟩:=i2
  refine⟨by show 2<=sizeLine;decide,fun p hp ae s I=>?_⟩
  have kU:=s2 _ _ q1
  have my:b1≠b2:=fun z=>by rw [z,n2]at q1;cases q1
  have p1:b1≠p:=fun z=>by rw [z,hp]at kU;cases kU
  have p2:b2≠p:=fun z=>by rw [z,hp]at q2;cases q2
  have mT:H b2=none:=s1.free n2
  have np:H p=none:=(s1.trans s2).free hp
  have e1:upd H2 p (.lst [.ref b1,.ref b2]) b1=some (.lst fK):=by rw [A6 p1];exact kU
  have I1:=Q7t I e1
  have e2:upd (upd H2 p (.lst [.ref b1,.ref b2])) b1 (.ext (LO b1 fK)) b2=some (.lst ga):=by rw [A6 (bn my),A6 p2];exact q2
  have I2:=Q7t I1 e2
  have e3:upd (upd (upd H2 p (.lst [.ref b1,.ref b2])) b1 (.ext (LO b1 fK))) b2 (.ext (LO b2 ga)) p=some (.lst [.ref b1,.ref b2]):=by rw [A6 (bn p2),A6 (bn p1)];exact upd_same
  have I3:=Q7t I2 e3
  have k8:∀c u,H2 c=some u->c≠b1->c≠b2->upd (upd (upd (upd H2 p (.lst [.ref b1,.ref b2])) b1 (.ext (LO b1 fK))) b2 (.ext (LO b2 ga))) p (.ext (LO p [.ref b1,.ref b2])) c=some u:=fun c u q h1 h2=>by
   have h3:c≠p:=fun z=>by rw [z,hp]at q;cases q
   rw [A6 h3,A6 h2,A6 h1,A6 h3];exact q
  have fi:A5 H (upd (upd (upd (upd H2 p (.lst [.ref b1,.ref b2])) b1 (.ext (LO b1 fK))) b2 (.ext (LO b2 ga))) p (.ext (LO p [.ref b1,.ref b2]))):=fun c u q =>
   k8 c u ((s1.trans s2) _ _ q) (fun z=>by rw [z,n1]at q;cases q) (fun z=>by rw [z,mT]at q;cases q)
  have kp:Kp H2 (upd (upd (upd (upd H2 p (.lst [.ref b1,.ref b2])) b1 (.ext (LO b1 fK))) b2 (.ext (LO b2 ga))) p (.ext (LO p [.ref b1,.ref b2]))) :=
   (((Kp.of (G0 hp _)).trans (Kp.upd e1 _)).trans (Kp.upd e2 _)).trans (Kp.upd e3 _)
  refine⟨_,I3,c2 p _ _ (Kp.of fi) ((hR.mono fi).set (i:=i) (s:=.ll p [gz,g8]) (v:=.ref p) ⟨rfl,[b1,b2],⟨upd_same,hR.same.free np,by simp [bn p1,bn p2]⟩,by simp [my],fun b hb=>?_,gz,[g8],rfl,⟨fK,?_,(eS.mono (Kp.of s2) _ _).mono kp _ _⟩,g8,[],rfl,⟨ga,?_,cH.mono kp _ _⟩,rfl⟩ fun m=>by cases m)⟩
  ·simp only [ao,aT,bK]at hb
   rcases hb with rfl | rfl
   ·exact hR.same.free n1
   ·exact hR.same.free mT
  ·rw [A6 p1,A6 my];exact upd_same
  ·rw [A6 p2];exact upd_same
@[simp] theorem W5u {τ:A8}{E:G8}:Z5f i w1 w2 E τ=w1 τ fun r1=>∃gz,r1=.nw gz/\w2 τ fun r2=>∃g8,r2=.nw g8/\∀a,E.nx (τ.set i (some (.ll a [gz,g8]))):=rfl
end
section
variable {X:Cx}{H0:Hp}
def Q5y (rs:List R) (Q:R->Prop):Prop:=∃i j:Int,rs=[.st (.int i),.st (.int j)]/\Q (.st (.int (if j<i then j else i)))
theorem W0f:Q2u Q5y:=fun rs P Q f ⟨i,j,e,h⟩=>⟨i,j,e,f _ h⟩
theorem Y6w (hc:X.calm=true):Q2q X (.builtin "min") Q5y:=by
 intro ae s σ H xs us Q I rv ⟨rs,cx,i,j,e,h⟩
 subst e
 obtain⟨v,t,rfl,iv,v',t',rfl,pH,et⟩:=cx
 cases (show t'=[]from et)
 cases (show v=.int i from iv)
 cases (show v'=.int j from pH)
 obtain⟨u,u',rfl,⟨t1,rfl⟩,⟨t2,rfl⟩⟩:=W7y rv
 refine min_two_ints (I.ok.hd hc) fun h' tk k=>⟨_,H,I.kept (t':=tk) k,?_,h _ _ (A5.refl H) X8⟩
 by_cases bE:j<i
 ·rw [aM bE,aM bE];exact⟨_,rfl⟩
 ·rw [aI bE,aI bE];exact⟨_,rfl⟩
@[simp] theorem W5x {a b:Int}{Q:R->Prop}:Q5y [.st (.int a),.st (.int b)] Q ↔ Q (.st (.int (if b<a then b else a))):=by
 constructor
 ·rintro ⟨i,j,e,h⟩;cases e;exact h
 ·intro h;exact⟨a,b,rfl,h⟩
def Z4v (sp:D6):WE:=fun τ Q=>∃r,sp [] r/\Q r
theorem DE.call0 {sp:D6}{k l:Nat}{f:Addr}{fd:FuncData}{x:Str}{p pos:Pos}{st:Stmt} (F:P8 X.prog X.w X.K X.mg X.base K8 l f fd [] (Q4f X.K 0 sp)) (hr:C2 k X.A) (D:Df X.K X.mg x st [] f fd) (hl:l<=k:=by decide) (hg:Gl X x:=by rfl)
  (dm:(x==("__debug__":Str))=false:=by decide):DE X H0 (.Call (.Name x p) [] [] pos) (Z4v sp) where
 mono:=fun τ P Q f ⟨r,h1,h2⟩=>⟨r,h1,f r h2⟩
 pe:=O1 (W2c F (hr.mono hl) hg D.m D.k D.b .nil Q8p dm) fun σ H Q ⟨τ,hR,r,h1,h2⟩=>⟨[],r,rfl,rfl,rfl,h1,fun v H' s2 ir=>h2 v H' s2 ir⟩
@[simp] theorem W5e {sp:D6} {τ:A8}{Q:R->Prop}:Z4v sp τ Q=∃r,sp [] r/\Q r:=rfl
end
section
variable {X:Cx}{H0:Hp}{e a:Expr}{es:List Expr}{wr:WA}{wa:WE}{k l:Nat}{f:Addr}{fd:FuncData}{ps:List Str}{x:Str}{p pos:Pos}{ts:List Addr}{st:Stmt}
theorem DE.cl {sp:D6} (F:P8 X.prog X.w X.K X.mg X.base K8 l f fd ps (Q4f X.K (e::es).length sp)) (hr:C2 k X.A) (D:Df X.K X.mg x st ps f fd) (ha:DA X H0 (e::es) wr) (hl:l<=k:=by decide) (hg:Gl X x:=by rfl)
  (dm:(x==("__debug__":Str))=false:=by decide) (he:starEach (e::es) X.env=(false,eval e X.env)::starEach es X.env:=by rfl) (hpl:(backTo pos (starEach es X.env)).any (·.1)=false:=by rfl) :
  DE X H0 (.Call (.Name x p) (e::es) [] pos) (U4 sp wr):=DE.call F (hr.mono hl) hg D.m D.k D.b ha dm he hpl
theorem DE.clP {sp:E2} (lH:T6 sp) (F:P8 X.prog X.w X.K X.mg X.base K8 l f fd ps (Q4e X.K ts (e::es).length sp)) (hr:C2 k X.A) (hT:Q5d ts H0) (D:Df X.K X.mg x st ps f fd) (ha:DA X H0 (e::es) wr) (hl:l<=k:=by decide) (hg:Gl X x:=by rfl)
  (dm:(x==("__debug__":Str))=false:=by decide) (he:starEach (e::es) X.env=(false,eval e X.env)::starEach es X.env:=by rfl) (hpl:(backTo pos (starEach es X.env)).any (·.1)=false:=by rfl) :
  DE X H0 (.Call (.Name x p) (e::es) [] pos) (A9 sp wr):=DE.callP lH F (hr.mono hl) hT hg D.m D.k D.b ha dm he hpl
theorem DE.v (i:Nat) (hN:X.N[i]?=some x:=by rfl) (hv:Vis X.env.scope x:=by first | exact Or.inl rfl | exact Or.inr (Or.inl rfl) | exact Or.inr (Or.inr rfl)) (hd:(x==("__debug__":Str))=false:=by decide)
  (dD:(x==("__classdict__":Str))=false:=by decide):DE X H0 (.Name x pos) (wV i):=DE.var (pv i hN hv hd dD)
theorem DA.one (ha:DE X H0 a wa) (hs:starEach [a] X.env=(false,eval a X.env)::starEach [] X.env:=by rfl):DA X H0 [a] (A0 wa A2):=DA.cons ha DA.nil hs
theorem DS.sv (i:Nat) (he:DE X H0 e wa) (hN:X.N.Nodup) (hi:X.N[i]?=some x:=by rfl) (hx:Loc X.env.scope x:=by first | exact Or.inl rfl | exact Or.inr rfl) (hs:swapsWith e (some (.Name x p)) pos.line X.env=pure false:=by rfl)
  (hf:X.fn x=true\/X.env.scope.names.lookup x=some .local:=by first | exact .inl rfl | exact .inr rfl | assumption):DS X H0 (.Assign [.Name x p] e pos) (C8 i wa):=DS.set he hN hi hx hs hf
noncomputable def scB (N P:List Str) (sc:Scope):Bool:=decide (sc.kind=.function)&&!sc.isCoroutine&&!sc.isGenerator&&decide N.Nodup&&decide (N.take P.length=P)&&P.all (fun x=>decide (sc.names.lookup x=some .local)||decide (sc.names.lookup x=some .cell))&&sc.names.all (fun y=>decide (y.2≠.free))
theorem M8 {N P:List Str}{sc:Scope} (h:scB N P sc=true):G4 N P sc:=by
 unfold scB at h
 simp only [de,decide_eq_true_eq,bP,Bool.or_eq_true,Bool.not_eq_true']at h
 obtain⟨⟨⟨⟨⟨⟨h1,h2⟩,h3⟩,h4⟩,h5⟩,h6⟩,h7⟩:=h
 exact⟨h1,h2,h3,h4,h5,h6,h7⟩
theorem Y6k:bootBuiltins "len"=some (.builtin "len"):=by decide +kernel
theorem Y6l:bootBuiltins "tuple"=some (.type "tuple"):=by decide +kernel
theorem DE.len (hm:X.mg "len"=none) (ha:DE X H0 a wa) (hg:Gl X "len":=by rfl) (hs:starEach [a] X.env=(false,eval a X.env)::starEach [] X.env:=by rfl) (hpl:(backTo pos (starEach [] X.env)).any (·.1)=false:=by rfl):DE X H0 (.Call (.Name "len" p) [a] [] pos) (C3 F2 (A0 wa A2)) :=
 DE.callB Y6t Y9o hg hm Y6k (DA.cons ha DA.nil hs) (he:=hs) (hpl:=hpl)
theorem DE.tpl (hm:X.mg "tuple"=none) (ha:DE X H0 a wa) (hg:Gl X "tuple":=by rfl) (hs:starEach [a] X.env=(false,eval a X.env)::starEach [] X.env:=by rfl) (hpl:(backTo pos (starEach [] X.env)).any (·.1)=false:=by rfl):DE X H0 (.Call (.Name "tuple" p) [a] [] pos) (C3 P7 (A0 wa A2)) :=
 DE.callTy Y6y W7o hg hm Y6l (DA.cons ha DA.nil hs) (he:=hs) (hpl:=hpl)
end
def Hr (K:Fg9) (n:Str) (st:Stmt) (f:Addr) (fd:FuncData):Prop:=PySem.W.nsIn K mainGlobals n=some (some (.ref f))/\O8 K n n st f fd
def HrC (K:Fg9) (n:Str) (st:Stmt) (f:Addr) (fd:FuncData) (c Pt:Addr) (ts:List Addr):Prop:=PySem.W.nsIn K mainGlobals n=some (some (.ref f))/\PySem.W.keepIn K (.ref f)=true /\
 (∃(oc:Value) (od:Option Addr) (kV cG pm:Value) (an:Option Addr) (ct:Value) (dF:Array (Option Value)),fd=PySem.W.fnOf n n (Q0b st) (R9 st) (B8 st) .none kV cG pm an (.ref c) ct/\K.lookup f=some ⟨oc,od,.func fd,dF⟩/\PySem.W.codeIn K (.ref c) n=true) /\
 (∃(vo:Value) (vd:Option Addr) (vv:Array Value) (vs:Array (Option Value)),K.lookup c=some ⟨vo,vd,.fields vv,vs⟩/\vv[11]?=some (.ref Pt))/\PySem.W.codeHdIn K c Pt=true/\K.lookup Pt=none/\Pt∈ts
section
variable {K:Fg9}{h:Heap}{mg:Str->Option Value}{n:Str}{st:Stmt}{f c Pt:Addr}{fd:FuncData}{ts:List Addr}{ps:List Str}
theorem S3 {oc:Value}{od an:Option Addr}{dF:Array (Option Value)}{kV cG pm cdv ct:Value} (a:PySem.W.nsIn K mainGlobals n=some (some (.ref f))) (l:K.lookup f=some ⟨oc,od,.func (PySem.W.fnOf n n (Q0b st) (R9 st) (B8 st) .none kV cG pm an cdv ct),dF⟩) (q:PySem.W.codeIn K cdv n=true) (k:PySem.W.keepIn K (.ref f)=true) :
  Hr K n st f (PySem.W.fnOf n n (Q0b st) (R9 st) (B8 st) .none kV cG pm an cdv ct):=⟨a,Y7z l q k⟩
theorem Q2x {oc vo:Value}{od an vd:Option Addr}{dF vs:Array (Option Value)}{kV cG pm ct:Value}{vv:Array Value} (a:PySem.W.nsIn K mainGlobals n=some (some (.ref f))) (l:K.lookup f=some ⟨oc,od,.func (PySem.W.fnOf n n (Q0b st) (R9 st) (B8 st) .none kV cG pm an (.ref c) ct),dF⟩) (q:PySem.W.codeIn K (.ref c) n=true) (k:PySem.W.keepIn K (.ref f)=true)
  (v:K.lookup c=some ⟨vo,vd,.fields vv,vs⟩) (p:vv[11]?=some (.ref Pt)) (e:PySem.W.codeHdIn K c Pt=true) (o:K.lookup Pt=none) (m:Pt∈ts):HrC K n st f (PySem.W.fnOf n n (Q0b st) (R9 st) (B8 st) .none kV cG pm an (.ref c) ct) c Pt ts :=
 ⟨a,k,⟨_,_,_,_,_,_,_,_,rfl,l,q⟩,⟨_,_,_,_,v,p⟩,e,o,m⟩
theorem Hr.df (H:Hr K n st f fd) (X:K.In h) (G:h.Ns mainGlobals mg) (hb:∀(kV cG pm:Value) (an:Option Addr) (cdv ct:Value) (us:List Value),us.length=ps.length->bindArgs (PySem.W.fnOf n n (Q0b st) (R9 st) (B8 st) .none kV cG pm an cdv ct) ⟨us,[]⟩=pure (ps.zip us)):Df K mg n st ps f fd :=
 ⟨H.2,H.2.binds hb,H.2.kp,PySem.W.mg_of X G H.1⟩
theorem HrC.hr (H:HrC K n st f fd c Pt ts):Hr K n st f fd:=let ⟨a,k,⟨oc,od,kV,cG,pm,an,ct,dF,e,l,q⟩,_⟩:=H;⟨a,⟨oc,od,kV,cG,pm,an,_,ct,dF,e,l,q⟩,k⟩
theorem HrC.fc (H:HrC K n st f fd c Pt ts):R1 K n n st f fd c Pt:=let ⟨_,_,e,_,q,_⟩:=H;⟨e,q⟩
theorem HrC.tb (H:HrC K n st f fd c Pt ts):Pt∈ts:=let ⟨_,_,_,_,_,_,m⟩:=H;m
theorem HrC.at (H:HrC K n st f fd c Pt ts):(∃c,PySem.W.codeHdIn K c Pt=true)/\K.lookup Pt=none:=let ⟨_,_,_,_,q,n,_⟩:=H;⟨⟨_,q⟩,n⟩
end
end TK
end
section
namespace MC
open PySem PySem.Spec PyProof.Rows L2 TK
section
variable {α:Type} [DecidableEq α]
noncomputable def L7 (ks:List α) (g:α):List α:=if g∈ks then ks else ks++[g]
theorem Z0u {ks:List α}{g:α} (h:g∈ks):L7 ks g=ks:=aM h
theorem Z0v {ks:List α}{g:α} (h:g∉ks):L7 ks g=ks++[g]:=aI h
theorem Y6e (ks:List α) (g:α):ks <+: L7 ks g:=by
 unfold L7;split
 ·exact bt _
 ·exact dQ _ _
theorem Z2p {ks:List α}{g x:α}:x∈L7 ks g ↔ x∈ks\/x=g:=by
 unfold L7;split
 ·constructor
  ·exact .inl
  ·rintro (h | rfl) <;> assumption
 ·rw [aN,aD]
theorem W0r {ks:List α}{g:α} (h:ks.Nodup):(L7 ks g).Nodup:=by
 unfold L7;split
 ·exact h
 ·rename_i n
  exact ba.mpr ⟨h,by simp,fun a ha b hb=>by
   rw [aD]at hb;rintro rfl;exact n (hb ▸ ha)⟩
theorem Z1u {ks ls:List α}{g:α} (p:ks <+: ls) (h:g∈ks):ls.idxOf g=ks.idxOf g:=by
 obtain⟨t,rfl⟩:=p
 rw [List.idxOf_append,aM h]
noncomputable def F3 (st:Nat->α):List Nat->List α->List Nat->List α×List Nat
 | [],ks,r=>(ks,r)
 | c::cs,ks,r=>F3 st cs (L7 ks (st c)) (r++[(L7 ks (st c)).idxOf (st c)])
theorem Q4l (st:Nat->α):∀(cs:List Nat) (ks:List α) (r:List Nat),ks <+: (F3 st cs ks r).1
 | [],ks,r=>bt _
 | c::cs,ks,r=>(Y6e ks (st c)).trans (Q4l st cs _ _)
theorem Y2f (st:Nat->α):∀(cs:List Nat) (ks:List α) (r:List Nat),ks.Nodup->(F3 st cs ks r).1.Nodup
 | [],ks,r,h=>h
 | c::cs,ks,r,h=>Y2f st cs _ _ (W0r h)
theorem Z2s (st:Nat->α) {x:α}:∀(cs:List Nat) (ks:List α) (r:List Nat),x∈(F3 st cs ks r).1 ↔ x∈ks\/∃c∈cs,x=st c
 | [],ks,r=>by simp [F3]
 | c::cs,ks,r=>by
  rw [F3,Z2s st cs,Z2p]
  simp [or_assoc]
theorem Q8s (st:Nat->α):∀(cs:List Nat) (ks:List α) (r:List Nat),(F3 st cs ks r).2=r++cs.map fun c=>(F3 st cs ks r).1.idxOf (st c)
 | [],ks,r=>by simp [F3]
 | c::cs,ks,r=>by
  have h:=Q8s st cs (L7 ks (st c)) (r++[(L7 ks (st c)).idxOf (st c)])
  have e:=Z1u (Q4l st cs (L7 ks (st c)) (r++[(L7 ks (st c)).idxOf (st c)])) (Z2p.mpr (.inr rfl):st c∈L7 ks (st c))
  rw [F3,h,ar,e,eV]
  rfl
noncomputable abbrev B9:List Nat:=[0,1,2,3]
noncomputable def M3 (step:α->Nat->α):Nat->List α->List (List Nat)->List α×List (List Nat)
 | 0,ks,rs=>(ks,rs)
 | n+1,ks,rs=>match ks[rs.length]? with
  | none=>(ks,rs)
  | some k=>M3 step n (F3 (step k) B9 ks []).1 (rs++[(F3 (step k) B9 ks []).2])
structure W5 (step:α->Nat->α) (start:α) (U:List α) (ks:List α) (rs:List (List Nat)):Prop where
 nd:ks.Nodup
 zero:ks[0]?=some start
 sub:∀k∈ks,k∈U
 len:rs.length<=ks.length
 row:∀(i:Nat) (r:List Nat),rs[i]?=some r->∃k,ks[i]?=some k/\(∀c∈B9,step k c∈ks)/\r=B9.map fun c=>ks.idxOf (step k c)
theorem W5.start {step:α->Nat->α}{start:α}{U:List α} (h:start∈U):W5 step start U [start] [] :=
 ⟨by simp,rfl,fun k hk=>by rw [aD]at hk;exact hk ▸ h,by simp,fun i r e=>by simp at e⟩
theorem W5.next {step:α->Nat->α}{start k:α}{U:List α}{ks:List α}{rs:List (List Nat)} (hU:∀k∈U,∀c∈B9,step k c∈U) (W:W5 step start U ks rs) (hk:ks[rs.length]?=some k) :
  W5 step start U (F3 (step k) B9 ks []).1 (rs++[(F3 (step k) B9 ks []).2]):=by
 have p:=Q4l (step k) B9 ks []
 have kin:k∈ks:=aw hk
 have get:∀{i:Nat}{x:α},ks[i]?=some x->(F3 (step k) B9 ks []).1[i]?=some x:=fun {i x} e=>by
  obtain⟨t,ht⟩:=p
  rw [<- ht,aJ]
  ·exact e
  ·obtain⟨h,_⟩:=aF.mp e;exact h
 have lt:rs.length<ks.length:=by obtain⟨h,_⟩:=aF.mp hk;exact h
 refine⟨Y2f _ _ _ _ W.nd,get W.zero,fun x hx=>?_,?_,fun i r e=>?_⟩
 ·rcases (Z2s _ _ _ _).mp hx with h | ⟨c,hc,rfl⟩
  ·exact W.sub x h
  ·exact hU k (W.sub k kin) c hc
 ·rw [aE,bG]
  exact aX lt p.length_le
 ·rcases bo i rs.length with h | h
  ·rw [aJ h]at e
   obtain⟨k',e1,e2,e3⟩:=W.row i r e
   refine⟨k',get e1,fun c hc=>p.subset (e2 c hc),?_⟩
   rw [e3]
   exact bB fun c hc=>(Z1u p (e2 c hc)).symm
  ·rw [aS h]at e
   have:i-rs.length=0:=by
    rcases Nat.eq_zero_or_pos (i-rs.length)with z | z
    ·exact z
    ·rw [aC.mpr (by simp;omega)]at e;cases e
   rw [this]at e
   have e:(F3 (step k) B9 ks []).2=r:=ay e
   refine⟨k,get (by rw [show i=rs.length by omega];exact hk),fun c hc=>(Z2s _ _ _ _).mpr (.inr ⟨c,hc,rfl⟩),?_⟩
   rw [<- e,Q8s,dw]
theorem W5.bound {step:α->Nat->α}{start:α}{U:List α}{ks:List α}{rs:List (List Nat)} (W:W5 step start U ks rs):ks.length<=U.length:=W.nd.length_le_of_subset fun x hx=>W.sub x hx
theorem Y5e {step:α->Nat->α}{start:α}{U:List α} (hU:∀k∈U,∀c∈B9,step k c∈U):∀(n:Nat) (ks:List α) (rs:List (List Nat)),W5 step start U ks rs->U.length<=n+rs.length ->
  W5 step start U (M3 step n ks rs).1 (M3 step n ks rs).2/\(M3 step n ks rs).2.length=(M3 step n ks rs).1.length
 | 0,ks,rs,W,h=>⟨W,by have:=W.bound;have:=W.len;simp [M3];omega⟩
 | n+1,ks,rs,W,h=>by
  unfold M3
  split
  ·rename_i e
   have:=aC.mp e
   exact⟨W,by have:=W.len;simp;omega⟩
  ·rename_i k e
   exact Y5e hU n _ _ (W.next hU e) (by simp;omega)
structure Q1d (step:α->Nat->α) (start:α) (U ks:List α) (rs:List (List Nat)):Prop where
 nd:ks.Nodup
 zero:ks[0]?=some start
 sub:∀k∈ks,k∈U
 len:rs.length=ks.length
 mem:∀k∈ks,∀c∈B9,step k c∈ks
 row:∀(i:Nat) (k:α),ks[i]?=some k->rs[i]?=some (B9.map fun c=>ks.idxOf (step k c))
noncomputable def Y4 (N:Nat) (step:α->Nat->α) (start:α):List α×List (List Nat):=M3 step N [start] []
theorem Q3l {step:α->Nat->α}{start:α}{U:List α}{N:Nat} (hU:∀k∈U,∀c∈B9,step k c∈U) (hs:start∈U) (hN:U.length<=N):Q1d step start U (Y4 N step start).1 (Y4 N step start).2:=by
 unfold Y4
 obtain⟨W,e⟩:=Y5e hU N [start] [] (W5.start hs) (by simpa using hN)
 refine⟨W.nd,W.zero,W.sub,e,fun k hk c hc=>?_,fun i k hk=>?_⟩
 ·obtain⟨i,hi,rfl⟩:=bu.mp hk
  have fm:i<(M3 step N [start] []).2.length:=by rw [e];exact hi
  obtain⟨k',e1,e2,_⟩:=W.row i _ (ac fm)
  rw [ac hi]at e1
  cases e1
  exact e2 c hc
 ·obtain⟨hi,rfl⟩:=aF.mp hk
  have fm:i<(M3 step N [start] []).2.length:=by rw [e];exact hi
  obtain⟨k',e1,_,e3⟩:=W.row i _ (ac fm)
  have dI:(M3 step N [start] []).1[i]?=some k':=e1
  rw [ac hi]at dI
  cases dI
  rw [ac fm,e3]
section
variable {κ:Type} [DecidableEq κ] {key:α->κ}
noncomputable def K3 (key:α->κ) (L:List (α×D)):List (κ×D):=L.map fun p=>(key p.1,p.2)
theorem Q1j (inj:∀a b,key a=key b->a=b) (L:List (α×D)) (g:α):D8 (K3 key L) (key g)=D8 L g:=by
 induction L with
 | nil=>rfl
 | cons p L ih =>
  unfold D8 K3 at ih ⊢
  rw [ar,aZ,aZ]
  by_cases h:p.1=g
  ·have:key p.1=key g:=by rw [h]
   simp [h]
  ·have:¬ key p.1=key g:=fun z=>h (inj _ _ z)
   simp only [h,this,decide_false]
   exact ih
theorem Y4r {L:List (α×D)}{g:α}:D8 L g=none ↔ g∉L.map (·.1):=by
 unfold D8
 rw [Option.map_eq_none_iff,List.find?_eq_none]
 simp only [aj,not_exists,decide_eq_true_eq]
 constructor
 ·rintro h x ⟨hx,rfl⟩;exact h x hx rfl
 ·rintro h x hx rfl;exact h x ⟨hx,rfl⟩
theorem Q9o {L:List (α×D)}{g:α}:(D8 L g).isSome=decide (g∈L.map (·.1)):=by
 by_cases h:g∈L.map (·.1)
 ·rw [dP h]
  cases e:D8 L g with
  | none=>exact absurd h (Y4r.mp e)
  | some d=>rfl
 ·rw [aP h,Y4r.mpr h];rfl
theorem Q7x (inj:∀a b,key a=key b->a=b) {L:List (α×D)}{g:α} (h:g∉L.map (·.1)) (d:D):N4 (K3 key L) (key g) d=K3 key (L++[(g,d)]):=by
 unfold N4
 rw [aI]
 ·simp [K3]
 ·intro z
  rw [List.any_eq_true]at z
  obtain⟨x,hx,e⟩:=z
  obtain⟨p,hp,rfl⟩:=aj.mp hx
  exact h (aj.mpr ⟨p,hp,inj _ _ (eT e)⟩)
theorem Y4q {L:List (α×D)} (nd:(L.map (·.1)).Nodup) {g:α}{d:D} (h:(g,d)∈L):D8 L g=some d:=by
 induction L with
 | nil=>cases h
 | cons p L ih =>
  rw [ar,bj]at nd
  unfold D8 at ih ⊢
  rw [aZ]
  rcases ao.mp h with rfl | h
  ·simp
  ·have:¬ p.1=g:=fun z=>nd.1 (z ▸ aj.mpr ⟨_,h,rfl⟩)
   simp only [this,decide_false]
   exact ih nd.2 h
noncomputable def M7 (ks:List α):List (α×D):=ks.zipIdx.map fun p=>(p.1,D.int (p.2:Int))
theorem Q8k (ks:List α):(M7 ks).map (·.1)=ks:=by
 unfold M7
 rw [aQ]
 exact List.zipIdx_map_fst 0 ks
theorem Y0x (ks:List α) (g:α):M7 (ks++[g])=M7 ks++[(g,D.int (ks.length:Int))]:=by
 unfold M7
 rw [List.zipIdx_append]
 simp
theorem Q8l {ks:List α}{g:α} (h:g∈ks):D8 (M7 ks) g=some (.int (ks.idxOf g:Nat)):=by
 have key:∀(ks:List α) (n:Nat),g∈ks->D8 (ks.zipIdx n |>.map fun p=>(p.1,D.int (p.2:Int))) g=some (.int ((n+ks.idxOf g:Nat):Int)):=by
  intro ks
  induction ks with
  | nil=>intro n h;cases h
  | cons k ks ih =>
   intro n h
   unfold D8 at ih ⊢
   rw [cn,ar,aZ]
   by_cases e:k=g
   ·subst e;simp
   ·have hg:g∈ks:=by
     rcases ao.mp h with z | z
     ·exact absurd z.symm e
     ·exact z
    simp only [e,decide_false]
    rw [ih (n+1) hg,List.idxOf_cons]
    have e':(k==g)=false:=by simp [e]
    rw [e']
    simp
    omega
 have:=key ks 0 h
 rw [Nat.zero_add]at this
 exact this
end
end
abbrev Z7d:List Str:=["start","step","keys","numbers","rows","key","row","column","goal"]
def Z6d (cy:C4)  :WS:=(B1 (C8 2 (R0 (A0 (B3 (wV 0)) A2))) (B1 (Q9r 3 (wV 0) (wC (.int 0))) (B1 (C8 4 (R0 A2)) (B1 (Q9u 2 (Q4z (A7 (T8 fun i j=>decide (i<j)) (C3 F2 (A0 (wV 4) A2)) (C3 F2 (A0 (wV 2) A2))) (B1 (C8 5 (A7 F1 (wV 2) (C3 F2 (A0 (wV 4) A2)))) (B1 (C8 6 (R0 A2)) (B1 (V1 (Q2b (A0 (C3 F2 (A0 (wC (.str "01ab")) A2)) A2)) (C0 7) (B1 (C8 8 (Y3 cy 2 1 (A0 (wV 5) (A0 (wV 7) A2)))) (B1 (O6 (Q4t 3 (wV 8)) (B1 (Q4u 3 (wV 8) (C3 F2 (A0 (wV 2) A2))) (Q4 2 (B3 (wV 8)))) O7) (Q4 6 (B3 (Q2n 3 (wV 8))))))) (Q4 4 (B3 (C3 P7 (A0 (wV 6) A2))))))))) (G1 (W4 (A0 (B3 (wV 2)) (A0 (B3 (C3 P7 (A0 (wV 4) A2))) A2))))))))
abbrev Y6a:List Str:=["start","step","keys","numbers","rows","key","row","column","goal"]
def Z6e (cy:C4)  :WS:=(B1 (C8 2 (R0 (A0 (B3 (wV 0)) A2))) (B1 (Z5c 3 (wV 0) (wC (.int 0))) (B1 (C8 4 (R0 A2)) (B1 (Q9u 2 (Q4z (A7 (T8 fun i j=>decide (i<j)) (C3 F2 (A0 (wV 4) A2)) (C3 F2 (A0 (wV 2) A2))) (B1 (C8 5 (A7 F1 (wV 2) (C3 F2 (A0 (wV 4) A2)))) (B1 (C8 6 (R0 A2)) (B1 (V1 (Q2b (A0 (C3 F2 (A0 (wC (.str "01ab")) A2)) A2)) (C0 7) (B1 (C8 8 (Y3 cy 2 1 (A0 (wV 5) (A0 (wV 7) A2)))) (B1 (O6 (Q4w 3 (wV 8)) (B1 (Q4x 3 (wV 8) (C3 F2 (A0 (wV 2) A2))) (Q4 2 (B3 (wV 8)))) O7) (Q4 6 (B3 (Q4v 3 (wV 8))))))) (Q4 4 (B3 (C3 P7 (A0 (wV 6) A2))))))))) (G1 (W4 (A0 (B3 (wV 2)) (A0 (B3 (C3 P7 (A0 (wV 4) A2))) A2))))))))
abbrev Z6u:List Str:=["start","step","is_end","keys","texts","place","key","column","sign","goal"]
def Z5r (cy:C4)  :WS:=(B1 (C8 3 (R0 (A0 (B3 (wV 0)) A2))) (B1 (Q9r 4 (wV 0) (wC (.str ""))) (B1 (C8 5 (wC (.int 0))) (B1 (Q4z (A7 (T8 fun i j=>decide (i<j)) (wV 5) (C3 F2 (A0 (wV 3) A2))) (B1 (C8 6 (A7 F1 (wV 3) (wV 5))) (B1 (O6 (Z5l (Y3 cy 1 2 (A0 (wV 6) A2))) (G1 (Q2n 4 (wV 6))) O7) (B1 (V1 (Q3x (A0 (wC (.str "01ab")) A2)) (gTp 2 (G7 (C0 7) (G7 (C0 8) gNl))) (B1 (C8 9 (Y3 cy 2 1 (A0 (wV 6) (A0 (wV 7) A2)))) (O6 (Q4t 4 (wV 9)) (B1 (Q4u 4 (wV 9) (A7 K5 (Q2n 4 (wV 6)) (wV 8))) (Q4 3 (B3 (wV 9)))) O7))) (Q4s 5 (N3 NoC fun i j=>i+j) (wC (.int 1))))))) (G1 (wC .non))))))
abbrev Z0g:List Str:=["some","onward","reached","states","place","state","goal"]
def Z5m   (K:Fg9) :WS:=(B1 (Z5a 2 1 [] (Q2c (wV 0)) (C0 0) (wV 0) (B3 (wC (.int 0)))) (B1 (C8 3 (C3 Q3a (A0 (wV 2) A2))) (B1 (C8 4 (wC (.int 0))) (B1 (Q4z (A7 (T8 fun i j=>decide (i<j)) (wV 4) (C3 F2 (A0 (wV 3) A2))) (B1 (C8 5 (A7 F1 (wV 3) (wV 4))) (B1 (V1 (Z1s (B3 (A7 F1 (wV 1) (wV 5)))) (C0 6) (O6 (Q4w 2 (wV 6)) (B1 (Q4x 2 (wV 6) (A7 K5 (Q4v 2 (wV 5)) (wC (.int 1)))) (Q4 3 (B3 (wV 6)))) O7)) (Q4s 4 (N3 NoC fun i j=>i+j) (wC (.int 1)))))) (Z5j K 2)))))
abbrev Q5b:List Str:=["ends","rows","wanted","backward","state","row","goal","reached"]
def Z5o   (K:Fg9) (sp_all_reached:E2):WS:=(B1 (Z5d 3 1 [] (jOr (Q3z (wV 1)) (Q2c (wV 1))) (C0 0) (R0 A2)) (B1 (Q9t 3 (V1 (iOr (Q3x (A0 (wV 1) A2)) (Q5o (A0 (wV 1) A2))) (gTp 2 (G7 (C0 4) (G7 (C0 5) gNl))) (V1 (Q5p (wV 5)) (C0 6) (Q6r 3 (wV 6) (B3 (wV 4)))))) (B1 (Z5k 7 (A9 sp_all_reached (A0 (V0 2 [2] (Z1y (A0 (wV 0) A2)) (gTp 2 (G7 (C0 0) (G7 (C0 1) gNl))) (A7 (E9 60 false) (wV 1) (wV 2)) (B3 (wV 0))) (A0 (wV 3) A2)))) (G1 (V0 1 [7] (Q3y (A0 (C3 F2 (A0 (wV 0) A2)) A2)) (C0 0) T2 (B3 (Z4x K 1 (wV 0))))))))
abbrev Z0l:List Str:=["marks","numbers"]
noncomputable def Z5z  :WS:=(Z5h 1 (Q2c (wV 0)))
abbrev Z0n:List Str:=["ends","rows","blocks","many"]
def Z6c   (sp_numbered:D6) (sp_distances:E2):WS:=(B1 (C8 2 (B3 (U4 sp_numbered (A0 (Z5g (A0 (A9 sp_distances (A0 (wV 0) (A0 (wV 1) (A0 (wC (.bl true)) A2)))) (A0 (A9 sp_distances (A0 (wV 0) (A0 (wV 1) (A0 (wC (.bl false)) A2)))) A2))) A2)))) (B1 (C8 3 (wC (.int 0))) (B1 (Q4z (A7 (T8 fun i j=>decide (j<=i)) (C3 Q0t (A0 (wV 2) A2)) (wV 3)) (B1 (C8 3 (A7 K5 (C3 Q0t (A0 (wV 2) A2)) (wC (.int 1)))) (C8 2 (B3 (U4 sp_numbered (A0 (V0 2 [2] (Q7w (A0 (wV 2) (A0 (wV 1) A2))) (gTp 2 (G7 (C0 0) (G7 (C0 1) gNl))) T2 (B3 (W4 (A0 (B3 (wV 0)) (A0 (B3 (C3 P7 (A0 (V0 1 [2] (Q3z (wV 1)) (C0 0) T2 (B3 (A7 F1 (wV 1) (wV 0)))) A2))) A2))))) A2)))))) (Y4y 2))))
abbrev Z0j:List Str:=["ends","rows","blocks","samples","state","block","keys","fewer_rows"]
def Q9x (K:Fg9):WE:=(A7 F1 (wV 4) (A7 F1 (A7 F1 (wV 3) (Q9s K 2 (wV 0))) (wV 1)))
def Z5w (cy:C4)  (K:Fg9) (sp_told_apart:E2) (sp_walkedK:D6):WS:=(B1 (C8 2 (B3 (A9 sp_told_apart (A0 (wV 0) (A0 (wV 1) A2))))) (B1 (Z5b 3) (B1 (Z4y K 3 (V1 (Q5o (A0 (wV 2) A2)) (gTp 2 (G7 (C0 4) (G7 (C0 5) gNl))) (Q9v 3 (wV 5) (wV 4)))) (B1 (Q6q (Z4w cy 2 [("samples",3),("rows",1),("blocks",2)] (Q9x K) sp_walkedK (A7 F1 (wV 2) (wC (.int 0)))) (gTp 2 (G7 (C0 6) (G7 (C0 7) gNl)))) (G1 (W4 (A0 (B3 (C3 P7 (A0 (V0 1 [0,3] (Q2c (wV 6)) (C0 0) T2 (B3 (A7 F1 (wV 1) (Q9s K 2 (wV 0))))) A2))) (A0 (B3 (wV 7)) A2))))))))
abbrev Z0h:List Str:=["start","step","is_end","keys","rows"]
def Z5n (cy:C4)  (sp_walked:D6) (sp_least:E2):WS:=(B1 (Q6q (U4 sp_walked (A0 (wV 0) (A0 (wV 1) A2))) (gTp 2 (G7 (C0 3) (G7 (C0 4) gNl)))) (G1 (A9 sp_least (A0 (V0 1 [2] (Q2c (wV 3)) (C0 0) T2 (B3 (Y3 cy 1 1 (A0 (wV 0) A2)))) (A0 (wV 4) A2)))))
abbrev Z7a:List Str:=["one","other","rows","other_rows"]
def Q9z :WE:=(W4 (A0 (B3 (A7 F1 (A7 F1 (wV 2) (A7 F1 (wV 0) (wC (.int 0)))) (wV 1))) (A0 (B3 (A7 F1 (A7 F1 (wV 3) (A7 F1 (wV 0) (wC (.int 1)))) (wV 1))) A2)))
def Z4t:WS:=(C8 2 (A7 F1 (wV 0) (wC (.int 1))))
def Z4u:WS:=(C8 3 (A7 F1 (wV 1) (wC (.int 1))))
abbrev Z6z:List Str:=["one","other","is_end","ends","other_ends"]
def Q9y (cb:C4):WE:=(Y3 cb 2 2 (A0 (A7 F1 (wV 3) (A7 F1 (wV 0) (wC (.int 0)))) (A0 (A7 F1 (wV 1) (A7 F1 (wV 0) (wC (.int 1)))) A2)))
def Z4s:WS:=(C8 3 (A7 F1 (wV 0) (wC (.int 0))))
def w2_pair_end:WS:=(C8 4 (A7 F1 (wV 1) (wC (.int 0))))
abbrev Z7c:List Str:=["one","other","is_end"]
def Z6b   (sp_built:E2) (sp_pair_step:E2) (sp_pair_end:E2):WS:=(G1 (A9 sp_built (A0 (W4 (A0 (B3 (wC (.int 0))) (A0 (B3 (wC (.int 0))) A2))) (A0 (A9 sp_pair_step (A0 (wV 0) (A0 (wV 1) A2))) (A0 (A9 sp_pair_end (A0 (wV 0) (A0 (wV 1) (A0 (wV 2) A2)))) A2)))))
abbrev Z6t:List Str:=["one","other","is_wanted"]
def Z5q   (sp_first_text:D6) (sp_pair_step:E2) (sp_pair_end:E2):WS:=(G1 (U4 sp_first_text (A0 (W4 (A0 (B3 (wC (.int 0))) (A0 (B3 (wC (.int 0))) A2))) (A0 (A9 sp_pair_step (A0 (wV 0) (A0 (wV 1) A2))) (A0 (A9 sp_pair_end (A0 (wV 0) (A0 (wV 1) (A0 (wV 2) A2)))) A2)))))
abbrev Z7b:List Str:=["one","other"]
def Q6v:WE:=(Q3k (wV 0) (Q6s (wV 1)))
def Y5c (cb:C4)  (sp_first_of_both:E2):WS:=(G1 (A9 sp_first_of_both (A0 (wV 0) (A0 (wV 1) (A0 (Q2o cb 2 (L8 Q6v [])) A2)))))
abbrev Z7e:List Str:=["one","other"]
def Z6f   (eI:E2):WS:=(G1 (wB (A7 (Q5q false) (A9 eI (A0 (wV 0) (A0 (wV 1) A2))) (wC .non))))
abbrev Z6r:List Str:=["one","other"]
def Q6u:WE:=(Z5i (wV 0) (wV 1))
def Y5b (cb:C4)  (bM:E2):WS:=(G1 (A9 bM (A0 (wV 0) (A0 (wV 1) (A0 (Q2o cb 2 (L8 Q6u [])) A2)))))
abbrev Z6q:List Str:=["one","other"]
def Q6t:WE:=(Q3k (wV 0) (wV 1))
def Y5a (cb:C4)  (bM:E2):WS:=(G1 (A9 bM (A0 (wV 0) (A0 (wV 1) (A0 (Q2o cb 2 (L8 Q6t [])) A2)))))
abbrev Z6w:List Str:=["_law_script","_law_k"]
def Q9w  :WS:=(B1 (O6 (A7 (E9 60 false) (wV 0) (R0 A2)) (G1 (A7 X0 (wC (.int 7)) (wV 1))) O7) (G1 (A7 K5 (A7 F1 (wV 0) (A7 (N3 (fun _ j=>0<j) fun i j=>i % j) (wV 1) (C3 F2 (A0 (wV 0) A2)))) (A7 X0 (wC (.int 6553)) (A7 (N3 Q0m fun i j=>i / j) (wV 1) (C3 F2 (A0 (wV 0) A2)))))))
abbrev Z6x:List Str:=["_law_script","_law_k","_law_many","_law_cell_here"]
def Z5u  (dY:D6):WS:=(B1 (C8 3 (A7 (N3 (fun _ j=>0<j) fun i j=>i % j) (A7 K5 (A7 X0 (A7 (N3 (fun _ j=>0<j) fun i j=>i % j) (U4 dY (A0 (wV 0) (A0 (wV 1) A2))) (wC (.int 2147483563))) (wC (.int 69069))) (A7 X0 (wC (.int 104723)) (A7 K5 (wV 1) (wC (.int 1))))) (wC (.int 2147483563)))) (B1 (C8 3 (A7 (N3 (fun _ j=>0<j) fun i j=>i % j) (A7 K5 (A7 X0 (wV 3) (wV 3)) (A7 (N3 Q0m fun i j=>i / j) (wV 3) (wC (.int 3)))) (wC (.int 2147483399)))) (G1 (A7 (N3 (fun _ j=>0<j) fun i j=>i % j) (A7 (N3 Q0m fun i j=>i / j) (A7 (N3 (fun _ j=>0<j) fun i j=>i % j) (A7 K5 (A7 X0 (wV 3) (wV 3)) (A7 (N3 Q0m fun i j=>i / j) (wV 3) (wC (.int 7)))) (wC (.int 2147483647))) (wC (.int 11))) (wV 2)))))
abbrev Q6z:List Str:=["_law_script","_law_at","_law_most","_law_size","_law_ends","_law_rows","_law_k"]
def Z5v  (cq:D6):WS:=(B1 (C8 3 (A7 K5 (wC (.int 1)) (U4 cq (A0 (wV 0) (A0 (wV 1) (A0 (wV 2) A2)))))) (B1 (C8 4 (C3 P7 (A0 (V0 1 [0,1] (Q3y (A0 (wV 3) A2)) (C0 0) T2 (B3 (wB (A7 (E9 60 false) (U4 cq (A0 (wV 1) (A0 (A7 K5 (A7 K5 (wV 2) (wC (.int 1))) (wV 0)) (A0 (wC (.int 2)) A2)))) (wC (.int 0)))))) A2))) (B1 (C8 5 (R0 A2)) (B1 (V1 (Q2b (A0 (wV 3) A2)) (C0 6) (Q4 5 (B3 (C3 P7 (A0 (V0 1 [0,3,1,6] (Q3y (A0 (wC (.int 4)) A2)) (C0 0) T2 (B3 (U4 cq (A0 (wV 1) (A0 (A7 K5 (A7 K5 (A7 K5 (wV 3) (wC (.int 7))) (A7 X0 (wC (.int 4)) (wV 4))) (wV 0)) (A0 (wV 2) A2)))))) A2))))) (G1 (W4 (A0 (B3 (wV 4)) (A0 (B3 (C3 P7 (A0 (wV 5) A2))) A2))))))))
noncomputable abbrev iD (n:Nat):D:=.int (n:Int)
noncomputable abbrev rD (r:List Nat):D:=.tup (r.map iD)
noncomputable abbrev rsD (rs:List (List Nat)):D:=.tup (rs.map rD)
theorem sz {n:Nat} (h:n<=1000000):n<=sizeLine:=aX h (by decide)
theorem szl {n:Nat} (h:n<=1000000):n<sizeLine:=Nat.lt_of_le_of_lt h (by decide)
theorem ixn {n j:Nat} (h:j<n):ixN n (j:Int)=some j:=by
 have:K6 (List.range n) (j:Int)=some j:=X4 (by rw [ac (by simpa using h)];simp)
 unfold K6 at this
 rw [bV]at this
 cases e:ixN n (j:Int)with
 | none=>rw [e]at this;cases this
 | some k =>
  rw [e]at this
  have this:(List.range n)[k]?=some j:=this
  obtain⟨hk,e2⟩:=aF.mp this
  rw [<- e2,List.getElem_range]
section
variable {α:Type} [DecidableEq α] {FC:C4}{f:Addr} {Φ:Hp->Prop}{sp:D6}{step:α->Nat->α}
section T
variable {ts:α->List D}{key:α->List B0}
def wbT (cy:C4):WS:=(B1 (C8 8 (Y3 cy 2 1 (A0 (wV 5) (A0 (wV 7) A2)))) (B1 (O6 (Q4t 3 (wV 8)) (B1 (Q4u 3 (wV 8) (C3 F2 (A0 (wV 2) A2))) (Q4 2 (B3 (wV 8)))) O7) (Q4 6 (B3 (Q2n 3 (wV 8))))))
theorem forT (hk:∀a,Q6 (ts a)=some (key a)) (inj:∀a b,key a=key b->a=b) (hF:FC 2 f Φ sp) {k:α}{E:G8}{o0 o4:Option Sl}:∀(cs:List Nat) (ks:List α) (r:List Nat) (o7 o8:Option Sl),
  (∀c∈cs,sp [.st (.tup (ts k)),.st (iD c)] (.st (.tup (ts (step k c)))))->ks.length+cs.length<=1000000->r.length+cs.length<=1000000 ->
  (∀o7 o8,E.nx [o0,some (.cl f Φ),some (.own ((F3 (step k) cs ks r).1.map fun a=>.tup (ts a))),some (.dt (K3 key (M7 (F3 (step k) cs ks r).1))),o4,some (.dat (.tup (ts k))),some (.own ((F3 (step k) cs ks r).2.map iD)),o7,o8]) ->
  F6 (C0 7) (wbT FC) E (cs.map iD) [o0,some (.cl f Φ),some (.own (ks.map fun a=>.tup (ts a))),some (.dt (K3 key (M7 ks))),o4,some (.dat (.tup (ts k))),some (.own (r.map iD)),o7,o8]
 | [],ks,r,o7,o8,_,_,_,h=>h o7 o8
 | c::cs,ks,r,o7,o8,hs,h1,h2,h=>by
  rw [aK]at h1 h2
  have jw:=hs c aA
  have ih:=fun gn r'=>forT hk inj hF (k:=k) (E:=E) (o0:=o0) (o4:=o4) cs gn r'
  simp only [ar,F6]
  have hv:=Q1j inj (M7 ks) (step k c)
  have hi:(D8 (K3 key (M7 ks)) (key (step k c))).isSome=decide (step k c∈ks):=by rw [hv,Q9o,Q8k]
  simp only [wbT,G3,U9,O4,Q4m,D4,C1,C7,Q4n,Y2j,Y2k,Q3i,G2,Q6h,Z3r,L0]
  refine⟨f,Φ,sp,rfl,hF,.dat (.tup (ts k)),rfl,.dat (iD c),rfl,rfl,_,jw,?_⟩
  simp only [Q2]
  refine⟨_,rfl,_,rfl,ts (step k c),key (step k c),rfl,hk _,?_⟩
  rw [hi]
  by_cases hm:step k c∈ks
  ·have ea:L7 ks (step k c)=ks:=Z0u hm
   rw [aI (by simp [hm])]
   refine⟨_,rfl,_,rfl,_,rfl,ts (step k c),key (step k c),_,rfl,hk _,by rw [hv];exact Q8l hm,_,rfl,szl (by simp;omega),?_⟩
   have e:(r.map iD++[D.int ((ks.idxOf (step k c):Nat):Int)])=(r++[ks.idxOf (step k c)]).map iD:=by simp
   show F6 _ _ _ _ [_,_,_,_,_,_,some (.own (r.map iD++[_])),_,_]
   rw [e]
   refine ih ks _ _ _ (fun c hc=>hs c (ax _ hc)) (by omega) (by simp;omega) ?_
   simpa only [F3,ea]using h
  ·have ea:L7 ks (step k c)=ks++[step k c]:=Z0v hm
   rw [aM (by simp [hm])]
   refine⟨_,rfl,_,rfl,_,rfl,_,rfl,ts (step k c),key (step k c),rfl,hk _,szl (by simp [K3,M7];omega),?_⟩
   have ep:N4 (K3 key (M7 ks)) (key (step k c)) (.int (ks.length:Int))=K3 key (M7 (ks++[step k c])):=by
    rw [Q7x inj (by rw [Q8k];exact hm),Y0x]
   refine⟨_,rfl,_,rfl,_,rfl,szl (by simp;omega),?_⟩
   refine⟨_,rfl,_,rfl,_,rfl,ts (step k c),key (step k c),.int (((ks++[step k c]).idxOf (step k c):Nat):Int),rfl,hk _,?_,_,rfl,szl (by simp;omega),?_⟩
   ·rw [ag,ep,Q1j inj];exact Q8l (by simp)
   ·have e:(r.map iD++[D.int (((ks++[step k c]).idxOf (step k c):Nat):Int)])=(r++[(ks++[step k c]).idxOf (step k c)]).map iD:=by simp
    have e2:(ks.map fun a=>D.tup (ts a))++[D.tup (ts (step k c))]=(ks++[step k c]).map fun a=>D.tup (ts a):=by simp
    show F6 _ _ _ _ [_,_,some (.own ((ks.map fun a=>D.tup (ts a))++[D.tup (ts (step k c))])),some (.dt (N4 (K3 key (M7 ks)) (key (step k c)) (.int ((ks.map fun a=>D.tup (ts a)).length:Int)))),_,_,some (.own (r.map iD++[_])),_,_]
    rw [e,e2,ag,ep]
    refine ih _ _ _ _ (fun c hc=>hs c (ax _ hc)) (by simp;omega) (by simp;omega) ?_
    simpa only [F3,ea]using h
def wtT:WT:=(A7 (T8 fun i j=>decide (i<j)) (C3 F2 (A0 (wV 4) A2)) (C3 F2 (A0 (wV 2) A2)))
def wlT (cy:C4):WS:=(B1 (C8 5 (A7 F1 (wV 2) (C3 F2 (A0 (wV 4) A2)))) (B1 (C8 6 (R0 A2)) (B1 (V1 (Q2b (A0 (C3 F2 (A0 (wC (.str "01ab")) A2)) A2)) (C0 7) (wbT cy)) (Q4 4 (B3 (C3 P7 (A0 (wV 6) A2)))))))
theorem r4:Q3 0 (Int.toNat ((Str.ofString "01ab").length:Int))=B9.map iD:=rfl
theorem W8f (hk:∀a,Q6 (ts a)=some (key a)) (inj:∀a b,key a=key b->a=b) (hF:FC 2 f Φ sp) {start:α}{U:List α}{E:G8}{o0:Option Sl} (hU:∀k∈U,∀c∈B9,step k c∈U) (hl:U.length<=100000)
  (hs:∀k∈U,∀c∈B9,sp [.st (.tup (ts k)),.st (iD c)] (.st (.tup (ts (step k c))))):∀(n:Nat) (ks:List α) (rs:List (List Nat)) (o5 o6 o7 o8:Option Sl),W5 step start U ks rs->U.length<=n+rs.length ->
  (∀o5 o6 o7 o8,E.nx [o0,some (.cl f Φ),some (.own ((M3 step n ks rs).1.map fun a=>.tup (ts a))),some (.dt (K3 key (M7 (M3 step n ks rs).1))),some (.own ((M3 step n ks rs).2.map rD)),o5,o6,o7,o8]) ->
  J6 wtT (wlT FC) (n+1) E [o0,some (.cl f Φ),some (.own (ks.map fun a=>.tup (ts a))),some (.dt (K3 key (M7 ks))),some (.own (rs.map rD)),o5,o6,o7,o8]:=by
 intro n
 induction n with
 | zero =>
  intro ks rs o5 o6 o7 o8 W hn h
  have b:=W.bound
  simp only [J6,wtT,J5,L0,D4,C1,C7]
  refine⟨_,rfl,_,rfl,?_⟩
  simp only [W0,Q0h,Q0v,ag]
  rw [aI (by simp;omega)]
  exact h _ _ _ _
 | succ n ih =>
  intro ks rs o5 o6 o7 o8 W hn h
  have b:=W.bound
  have fB:=W.len
  rw [J6]
  simp only [wtT,J5,L0,D4,C1,C7]
  refine⟨_,rfl,_,rfl,?_⟩
  simp only [W0,Q0h,Q0v,ag]
  by_cases bE:rs.length<ks.length
  ·rw [aM (by simpa using bE)]
   have dI:ks[rs.length]?=some ks[rs.length]:=ac bE
   have kin:=b9 bE
   generalize ks[rs.length]=k at dI kin
   have W2:=W.next hU dI
   have b2:=W2.bound
   simp only [wlT,G3,O4,J5,L0,D4,C1,C7,s_lst,Q1o,Z3s,J9,Q3i,G2]
   refine⟨_,rfl,_,rfl,?_⟩
   simp only [W0,Q0h,Q6b]
   refine⟨.tup (ts k),by rw [ag];exact X4 (by rw [ah,dI];rfl),?_⟩
   refine⟨_,rfl,sz (by simp),?_⟩
   rw [Q4i,Z2z]
   refine⟨sz (by decide),_,rfl,by decide,by decide,?_⟩
   rw [r4]
   have hW:=h
   rw [M3,dI]at hW
   refine forT hk inj hF (o0:=o0) (o4:=some (.own (rs.map rD))) B9 ks [] _ _ (hs k (W.sub k kin)) (by simp;omega) (by simp) fun o7 o8=>?_
   simp only [Q2,Q4i,Q8m,Q1m,Q8n]
   refine⟨_,rfl,_,rfl,_,rfl,_,rfl,szl (by simp;omega),?_⟩
   have e:rs.map rD++[D.tup ((F3 (step k) B9 ks []).2.map iD)]=(rs++[(F3 (step k) B9 ks []).2]).map rD:=by simp
   show J6 wtT (wlT FC) (n+1) E [_,_,_,_,some (.own (rs.map rD++[D.tup ((F3 (step k) B9 ks []).2.map iD)])),_,_,_,_]
   rw [e]
   exact ih _ _ _ _ _ _ W2 (by simp;omega) hW
  ·rw [aI (by simpa using bE)]
   have e:ks[rs.length]?=none:=aC.mpr (by omega)
   rw [M3,e]at h
   exact h _ _ _ _
noncomputable def sp_walked (FC:C4):D6:=fun rs r=>∃(α:Type) (_:DecidableEq α) (ts:α->List D) (key:α->List B0) (step:α->Nat->α) (start:α) (U:List α) (f:Addr) (Φ:Hp->Prop) (sp:D6),
 (∀a,Q6 (ts a)=some (key a))/\(∀a b,key a=key b->a=b)/\rs=[.st (.tup (ts start)),.cl f Φ]/\FC 2 f Φ sp/\start∈U/\U.length<=100000/\(∀k∈U,∀c∈B9,step k c∈U/\sp [.st (.tup (ts k)),.st (iD c)] (.st (.tup (ts (step k c))))) /\
 r=.st (.tup [.lst ((Y4 U.length step start).1.map fun a=>.tup (ts a)),rsD (Y4 U.length step start).2])
theorem W4q {FC:C4}:∀rs r,rs.length=2->sp_walked FC rs r->Z6d FC (Y6 r) (E7 Z7d rs):=by
 rintro rs r _ ⟨α,_,ts,key,step,start,U,f,Φ,sp,hk,inj,rfl,hF,hs,hl,hU,rfl⟩
 have l2:(2:Nat)<=sizeLine:=by decide
 unfold Z6d
 simp only [G3,O4,s_lst,D4,G2,C1,C7,Y2i,J9,Y2n,S7,s_tup,L0]
 refine⟨_,rfl,_,rfl,sz (by simp),?_⟩
 refine⟨_,rfl,ts start,key start,rfl,hk _,_,rfl,_,rfl,sz (by simp),?_⟩
 refine⟨U.length+1,?_⟩
 refine W8f hk inj hF (step:=step) (start:=start) (U:=U) (fun k h c hc=>(hU k h c hc).1) hl (fun k h c hc=>(hU k h c hc).2) U.length [start] [] _ _ _ _ (W5.start hs) (by simp) fun o5 o6 o7 o8=>?_
 refine⟨_,rfl,_,rfl,_,rfl,?_⟩
 simp only [Q8,W0,Q8m,Q1m,Q8n]
 refine⟨_,rfl,_,rfl,l2,rfl⟩
end T
end
section
variable {α:Type} [DecidableEq α] {FC:C4}{f:Addr} {Φ:Hp->Prop}{sp:D6}{step:α->Nat->α}
section T
variable {en:α->D}{key:α->B0}
def wbK (cy:C4):WS:=(B1 (C8 8 (Y3 cy 2 1 (A0 (wV 5) (A0 (wV 7) A2)))) (B1 (O6 (Q4w 3 (wV 8)) (B1 (Q4x 3 (wV 8) (C3 F2 (A0 (wV 2) A2))) (Q4 2 (B3 (wV 8)))) O7) (Q4 6 (B3 (Q4v 3 (wV 8))))))
theorem forK (hk:∀a,P6 (en a)=some (key a)) (inj:∀a b,key a=key b->a=b) (hF:FC 2 f Φ sp) {k:α}{E:G8}{o0 o4:Option Sl}:∀(cs:List Nat) (ks:List α) (r:List Nat) (o7 o8:Option Sl),
  (∀c∈cs,sp [.st ((en k)),.st (iD c)] (.st ((en (step k c)))))->ks.length+cs.length<=1000000->r.length+cs.length<=1000000 ->
  (∀o7 o8,E.nx [o0,some (.cl f Φ),some (.own ((F3 (step k) cs ks r).1.map fun a=>(en a))),some (.dk (K3 key (M7 (F3 (step k) cs ks r).1))),o4,some (.dat ((en k))),some (.own ((F3 (step k) cs ks r).2.map iD)),o7,o8]) ->
  F6 (C0 7) (wbK FC) E (cs.map iD) [o0,some (.cl f Φ),some (.own (ks.map fun a=>(en a))),some (.dk (K3 key (M7 ks))),o4,some (.dat ((en k))),some (.own (r.map iD)),o7,o8]
 | [],ks,r,o7,o8,_,_,_,h=>h o7 o8
 | c::cs,ks,r,o7,o8,hs,h1,h2,h=>by
  rw [aK]at h1 h2
  have jw:=hs c aA
  have ih:=fun gn r'=>forK hk inj hF (k:=k) (E:=E) (o0:=o0) (o4:=o4) cs gn r'
  simp only [ar,F6]
  have hv:=Q1j inj (M7 ks) (step k c)
  have hi:(D8 (K3 key (M7 ks)) (key (step k c))).isSome=decide (step k c∈ks):=by rw [hv,Q9o,Q8k]
  simp only [wbK,G3,U9,O4,Q4m,D4,C1,C7,Q4n,Y2q,Y2r,Q3i,G2,Q6h,Y2p,L0]
  refine⟨f,Φ,sp,rfl,hF,.dat ((en k)),rfl,.dat (iD c),rfl,rfl,_,jw,?_⟩
  simp only [Q2]
  refine⟨_,rfl,_,rfl,en (step k c),key (step k c),rfl,hk _,?_⟩
  rw [hi]
  by_cases hm:step k c∈ks
  ·have ea:L7 ks (step k c)=ks:=Z0u hm
   rw [aI (by simp [hm])]
   refine⟨_,rfl,_,rfl,_,rfl,en (step k c),key (step k c),_,rfl,hk _,by rw [hv];exact Q8l hm,_,rfl,szl (by simp;omega),?_⟩
   have e:(r.map iD++[D.int ((ks.idxOf (step k c):Nat):Int)])=(r++[ks.idxOf (step k c)]).map iD:=by simp
   show F6 _ _ _ _ [_,_,_,_,_,_,some (.own (r.map iD++[_])),_,_]
   rw [e]
   refine ih ks _ _ _ (fun c hc=>hs c (ax _ hc)) (by omega) (by simp;omega) ?_
   simpa only [F3,ea]using h
  ·have ea:L7 ks (step k c)=ks++[step k c]:=Z0v hm
   rw [aM (by simp [hm])]
   refine⟨_,rfl,_,rfl,_,rfl,_,rfl,en (step k c),key (step k c),rfl,hk _,szl (by simp [K3,M7];omega),?_⟩
   have ep:N4 (K3 key (M7 ks)) (key (step k c)) (.int (ks.length:Int))=K3 key (M7 (ks++[step k c])):=by
    rw [Q7x inj (by rw [Q8k];exact hm),Y0x]
   refine⟨_,rfl,_,rfl,_,rfl,szl (by simp;omega),?_⟩
   refine⟨_,rfl,_,rfl,_,rfl,en (step k c),key (step k c),.int (((ks++[step k c]).idxOf (step k c):Nat):Int),rfl,hk _,?_,_,rfl,szl (by simp;omega),?_⟩
   ·rw [ag,ep,Q1j inj];exact Q8l (by simp)
   ·have e:(r.map iD++[D.int (((ks++[step k c]).idxOf (step k c):Nat):Int)])=(r++[(ks++[step k c]).idxOf (step k c)]).map iD:=by simp
    have e2:(ks.map fun a=>en a)++[en (step k c)]=(ks++[step k c]).map fun a=>en a:=by simp
    show F6 _ _ _ _ [_,_,some (.own ((ks.map fun a=>en a)++[en (step k c)])),some (.dk (N4 (K3 key (M7 ks)) (key (step k c)) (.int ((ks.map fun a=>en a).length:Int)))),_,_,some (.own (r.map iD++[_])),_,_]
    rw [e,e2,ag,ep]
    refine ih _ _ _ _ (fun c hc=>hs c (ax _ hc)) (by simp;omega) (by simp;omega) ?_
    simpa only [F3,ea]using h
def wtK:WT:=(A7 (T8 fun i j=>decide (i<j)) (C3 F2 (A0 (wV 4) A2)) (C3 F2 (A0 (wV 2) A2)))
def wlK (cy:C4):WS:=(B1 (C8 5 (A7 F1 (wV 2) (C3 F2 (A0 (wV 4) A2)))) (B1 (C8 6 (R0 A2)) (B1 (V1 (Q2b (A0 (C3 F2 (A0 (wC (.str "01ab")) A2)) A2)) (C0 7) (wbK cy)) (Q4 4 (B3 (C3 P7 (A0 (wV 6) A2)))))))
theorem W8d (hk:∀a,P6 (en a)=some (key a)) (inj:∀a b,key a=key b->a=b) (hF:FC 2 f Φ sp) {start:α}{U:List α}{E:G8}{o0:Option Sl} (hU:∀k∈U,∀c∈B9,step k c∈U) (hl:U.length<=100000)
  (hs:∀k∈U,∀c∈B9,sp [.st ((en k)),.st (iD c)] (.st ((en (step k c))))):∀(n:Nat) (ks:List α) (rs:List (List Nat)) (o5 o6 o7 o8:Option Sl),W5 step start U ks rs->U.length<=n+rs.length ->
  (∀o5 o6 o7 o8,E.nx [o0,some (.cl f Φ),some (.own ((M3 step n ks rs).1.map fun a=>(en a))),some (.dk (K3 key (M7 (M3 step n ks rs).1))),some (.own ((M3 step n ks rs).2.map rD)),o5,o6,o7,o8]) ->
  J6 wtK (wlK FC) (n+1) E [o0,some (.cl f Φ),some (.own (ks.map fun a=>(en a))),some (.dk (K3 key (M7 ks))),some (.own (rs.map rD)),o5,o6,o7,o8]:=by
 intro n
 induction n with
 | zero =>
  intro ks rs o5 o6 o7 o8 W hn h
  have b:=W.bound
  simp only [J6,wtK,J5,L0,D4,C1,C7]
  refine⟨_,rfl,_,rfl,?_⟩
  simp only [W0,Q0h,Q0v,ag]
  rw [aI (by simp;omega)]
  exact h _ _ _ _
 | succ n ih =>
  intro ks rs o5 o6 o7 o8 W hn h
  have b:=W.bound
  have fB:=W.len
  rw [J6]
  simp only [wtK,J5,L0,D4,C1,C7]
  refine⟨_,rfl,_,rfl,?_⟩
  simp only [W0,Q0h,Q0v,ag]
  by_cases bE:rs.length<ks.length
  ·rw [aM (by simpa using bE)]
   have dI:ks[rs.length]?=some ks[rs.length]:=ac bE
   have kin:=b9 bE
   generalize ks[rs.length]=k at dI kin
   have W2:=W.next hU dI
   have b2:=W2.bound
   simp only [wlK,G3,O4,J5,L0,D4,C1,C7,s_lst,Q1o,Z3s,J9,Q3i,G2]
   refine⟨_,rfl,_,rfl,?_⟩
   simp only [W0,Q0h,Q6b]
   refine⟨(en k),by rw [ag];exact X4 (by rw [ah,dI];rfl),?_⟩
   refine⟨_,rfl,sz (by simp),?_⟩
   rw [Q4i,Z2z]
   refine⟨sz (by decide),_,rfl,by decide,by decide,?_⟩
   rw [r4]
   have hW:=h
   rw [M3,dI]at hW
   refine forK hk inj hF (o0:=o0) (o4:=some (.own (rs.map rD))) B9 ks [] _ _ (hs k (W.sub k kin)) (by simp;omega) (by simp) fun o7 o8=>?_
   simp only [Q2,Q4i,Q8m,Q1m,Q8n]
   refine⟨_,rfl,_,rfl,_,rfl,_,rfl,szl (by simp;omega),?_⟩
   have e:rs.map rD++[D.tup ((F3 (step k) B9 ks []).2.map iD)]=(rs++[(F3 (step k) B9 ks []).2]).map rD:=by simp
   show J6 wtK (wlK FC) (n+1) E [_,_,_,_,some (.own (rs.map rD++[D.tup ((F3 (step k) B9 ks []).2.map iD)])),_,_,_,_]
   rw [e]
   exact ih _ _ _ _ _ _ W2 (by simp;omega) hW
  ·rw [aI (by simpa using bE)]
   have e:ks[rs.length]?=none:=aC.mpr (by omega)
   rw [M3,e]at h
   exact h _ _ _ _
noncomputable def sp_walkedK (FC:C4):D6:=fun rs r=>∃(α:Type) (_:DecidableEq α) (en:α->D) (key:α->B0) (step:α->Nat->α) (start:α) (U:List α) (f:Addr) (Φ:Hp->Prop) (sp:D6),
 (∀a,P6 (en a)=some (key a))/\(∀a b,key a=key b->a=b)/\rs=[.st ((en start)),.cl f Φ]/\FC 2 f Φ sp/\start∈U/\U.length<=100000/\(∀k∈U,∀c∈B9,step k c∈U/\sp [.st ((en k)),.st (iD c)] (.st ((en (step k c))))) /\
 r=.st (.tup [.lst ((Y4 U.length step start).1.map fun a=>(en a)),rsD (Y4 U.length step start).2])
theorem W4r {FC:C4}:∀rs r,rs.length=2->sp_walkedK FC rs r->Z6e FC (Y6 r) (E7 Y6a rs):=by
 rintro rs r _ ⟨α,_,en,key,step,start,U,f,Φ,sp,hk,inj,rfl,hF,hs,hl,hU,rfl⟩
 have l2:(2:Nat)<=sizeLine:=by decide
 unfold Z6e
 simp only [G3,O4,s_lst,D4,G2,C1,C7,W5p,J9,Y2n,S7,s_tup,L0]
 refine⟨_,rfl,_,rfl,sz (by simp),?_⟩
 refine⟨(by decide:3<9),_,rfl,en start,key start,rfl,hk _,_,rfl,_,rfl,sz (by simp),?_⟩
 refine⟨U.length+1,?_⟩
 refine W8d hk inj hF (step:=step) (start:=start) (U:=U) (fun k h c hc=>(hU k h c hc).1) hl (fun k h c hc=>(hU k h c hc).2) U.length [start] [] _ _ _ _ (W5.start hs) (by simp) fun o5 o6 o7 o8=>?_
 refine⟨_,rfl,_,rfl,_,rfl,?_⟩
 simp only [Q8,W0,Q8m,Q1m,Q8n]
 refine⟨_,rfl,_,rfl,l2,rfl⟩
end T
end
noncomputable abbrev ik (n:Nat):B0:=.inl (n:Int)
theorem Q2y (a b:Nat) (h:ik a=ik b):a=b:=by
 have:(a:Int)=(b:Int):=Sum.inl.inj h
 omega
noncomputable abbrev kR (R:List (Nat×Nat)):List (B0×D):=K3 ik (R.map fun q=>(q.1,iD q.2))
noncomputable def L6 (R:List (Nat×Nat)) (g d:Nat):List (Nat×Nat):=if g∈R.map (·.1)then R else R++[(g,d)]
noncomputable def goR (d:Nat):List Nat->List (Nat×Nat)->List (Nat×Nat)
 | [],R=>R
 | g::gs,R=>goR d gs (L6 R g d)
noncomputable def Q0x (on:List (List Nat)):Nat->List (Nat×Nat)->Nat->List (Nat×Nat)
 | 0,R,_=>R
 | n+1,R,p=>match R[p]? with
  | none=>R
  | some q=>Q0x on n (goR (q.2+1) (on[q.1]?.getD []) R) (p+1)
noncomputable def J1 (on:List (List Nat)) (xs:List Nat):List (Nat×Nat):=Q0x on on.length (xs.map fun x=>(x,0)) 0
theorem Z1z (R:List (Nat×Nat)):(R.map fun q=>(q.1,iD q.2)).map (·.1)=R.map (·.1):=by simp
theorem Z7j (R:List (Nat×Nat)) (g d:Nat):R <+: L6 R g d:=by
 unfold L6;split
 ·exact bt _
 ·exact dQ _ _
theorem Z1p (d:Nat):∀(gs:List Nat) (R:List (Nat×Nat)),R <+: goR d gs R
 | [],R=>bt _
 | g::gs,R=>(Z7j R g d).trans (Z1p d gs _)
theorem Y6d {R:List (Nat×Nat)}{g d:Nat} (h:(R.map (·.1)).Nodup):((L6 R g d).map (·.1)).Nodup:=by
 unfold L6;split
 ·exact h
 ·rename_i n
  rw [cF,ba]
  exact⟨h,by simp,fun a ha b hb=>by
   simp at hb;rintro rfl;exact n (hb ▸ ha)⟩
theorem Z9b {d:Nat}:∀(gs:List Nat) (R:List (Nat×Nat)),(R.map (·.1)).Nodup->((goR d gs R).map (·.1)).Nodup
 | [],R,h=>h
 | g::gs,R,h=>Z9b gs _ (Y6d h)
theorem Z2n {R:List (Nat×Nat)}{g d:Nat}{q:Nat×Nat} (h:q∈L6 R g d):q∈R\/q=(g,d):=by
 unfold L6 at h;split at h
 ·exact .inl h
 ·simpa using h
theorem Q8e {d:Nat}{q:Nat×Nat}:∀(gs:List Nat) (R:List (Nat×Nat)),q∈goR d gs R->q∈R\/∃g∈gs,q=(g,d)
 | [],R,h=>.inl h
 | g::gs,R,h=>by
  rcases Q8e gs _ h with h | ⟨g',h1,h2⟩
  ·rcases Z2n h with h | h
   ·exact .inl h
   ·exact .inr ⟨g,by simp,h⟩
  ·exact .inr ⟨g',by simp [h1],h2⟩
structure Q0n (n:Nat) (R:List (Nat×Nat)):Prop where
 nd:(R.map (·.1)).Nodup
 lt:∀q∈R,q.1<n
theorem Q0n.bound {n:Nat}{R:List (Nat×Nat)} (h:Q0n n R):R.length<=n:=by
 have:=h.nd.length_le_of_subset (l₂:=List.range n) fun x hx=>by
  obtain⟨q,hq,rfl⟩:=aj.mp hx
  exact bL.mpr (h.lt q hq)
 simpa using this
theorem Q0n.go {n d:Nat}{R:List (Nat×Nat)}{gs:List Nat} (h:Q0n n R) (hg:∀g∈gs,g<n):Q0n n (goR d gs R) :=
 ⟨Z9b gs R h.nd,fun q hq=>by
  rcases Q8e gs R hq with h' | ⟨g,h1,rfl⟩
  ·exact h.lt q h'
  ·exact hg g h1⟩
theorem W7x {R:List (Nat×Nat)} (nd:(R.map (·.1)).Nodup) {s d:Nat} (h:(s,d)∈R):D8 (kR R) (ik s)=some (iD d):=by
 rw [Q1j Q2y]
 exact Y4q (by rw [Z1z];exact nd) (aj.mpr ⟨_,h,rfl⟩)
theorem Z9n (R:List (Nat×Nat)) (g:Nat):(D8 (kR R) (ik g)).isSome=decide (g∈R.map (·.1)):=by
 rw [Q1j Q2y,Q9o,Z1z]
theorem Y1y {R:List (Nat×Nat)}{g d:Nat} (h:g∉R.map (·.1)):N4 (kR R) (ik g) (iD d)=kR (R++[(g,d)]):=by
 rw [Q7x Q2y (by rw [Z1z];exact h)];simp [kR]
theorem Z8i {Q:List (B0×D)->Prop}:∀(xs:List Nat) (R:List (Nat×Nat)) (o:Option Sl),(R.map (·.1)++xs).Nodup->Q (kR (R++xs.map fun x=>(x,0))) ->
  V8 (C0 0) (wV 0) (B3 (wC (.int 0))) (xs.map iD) [o] (kR R) Q
 | [],R,o,_,h=>by simpa [V8]using h
 | x::xs,R,o,nd,h=>by
  have nx:x∉R.map (·.1):=fun z=>by
   have:=(ba.mp nd).2.2 x z x (by simp)
   exact this rfl
  rw [ar,V8]
  simp only [U9,C1,G2,J9]
  refine⟨_,rfl,iD x,ik x,rfl,rfl,_,rfl,?_⟩
  have e:=Y1y (d:=0) nx
  show V8 _ _ _ _ _ (N4 (kR R) (ik x) (iD 0)) _
  rw [e]
  refine Z8i xs _ _ (by simpa using nd) ?_
  simpa using h
noncomputable abbrev llD (on:List (List Nat)):D:=.lst (on.map fun l=>.lst (l.map iD))
def wbR:WS:=(O6 (Q4w 2 (wV 6)) (B1 (Q4x 2 (wV 6) (A7 K5 (Q4v 2 (wV 5)) (wC (.int 1)))) (Q4 3 (B3 (wV 6)))) O7)
theorem forR {s d n:Nat}{E:G8}{o0 o1 o4:Option Sl} (hn:n<=100000):∀(gs:List Nat) (R:List (Nat×Nat)) (o6:Option Sl),Q0n n R->(s,d)∈R->(∀g∈gs,g<n) ->
  (∀o6,E.nx [o0,o1,some (.dk (kR (goR (d+1) gs R))),some (.own ((goR (d+1) gs R).map fun q=>iD q.1)),o4,some (.dat (iD s)),o6]) ->
  F6 (C0 6) wbR E (gs.map iD) [o0,o1,some (.dk (kR R)),some (.own (R.map fun q=>iD q.1)),o4,some (.dat (iD s)),o6]
 | [],R,o6,_,_,_,h=>h o6
 | g::gs,R,o6,hI,hs,hg,h=>by
  have b:=hI.bound
  have ih:=forR (s:=s) (d:=d) (E:=E) (o0:=o0) (o1:=o1) (o4:=o4) hn gs
  have jW:Q0n n (L6 R g (d+1)):=hI.go (d:=d+1) (gs:=[g]) (by simpa using hg g (by simp))
  have iQ:(s,d)∈L6 R g (d+1):=(Z7j R g (d+1)).subset hs
  have b2:=jW.bound
  rw [ar,F6]
  simp only [wbR,U9,Q4n,Y2q,C1,G3,Y2r,J5,Y2p,J9,Q3i,G2,Q6h]
  refine⟨_,rfl,_,rfl,iD g,ik g,rfl,rfl,?_⟩
  rw [Z9n]
  by_cases hm:g∈R.map (·.1)
  ·have ea:L6 R g (d+1)=R:=aM hm
   rw [aI (by simpa using hm)]
   refine ih R _ hI hs (fun g' h'=>hg g' (by simp [h'])) ?_
   simpa only [goR,ea]using h
  ·have ea:L6 R g (d+1)=R++[(g,d+1)]:=aI hm
   rw [aM (by simpa using hm)]
   refine⟨_,rfl,_,rfl,iD s,ik s,iD d,rfl,rfl,W7x hI.nd hs,?_⟩
   rw [Q1l]
   refine⟨_,rfl,_,rfl,_,rfl,iD g,ik g,rfl,rfl,szl (by simp [K3];omega),_,rfl,_,rfl,_,rfl,szl (by simp;omega),?_⟩
   have e1:N4 (kR R) (ik g) (.int ((d:Int)+1))=kR (L6 R g (d+1)):=by
    rw [ea,<- Y1y hm];rfl
   have e2:(R.map fun q=>iD q.1)++[iD g]=(L6 R g (d+1)).map fun q=>iD q.1:=by rw [ea];simp
   show F6 _ _ _ _ [_,_,some (.dk (N4 (kR R) (ik g) (.int ((d:Int)+1)))),some (.own ((R.map fun q=>iD q.1)++[iD g])),_,_,_]
   rw [e1,e2]
   exact ih _ _ jW iQ (fun g' h'=>hg g' (by simp [h'])) h
def wtR:WT:=(A7 (T8 fun i j=>decide (i<j)) (wV 4) (C3 F2 (A0 (wV 3) A2)))
def wlR:WS:=(B1 (C8 5 (A7 F1 (wV 3) (wV 4))) (B1 (V1 (Z1s (B3 (A7 F1 (wV 1) (wV 5)))) (C0 6) wbR) (Q4s 4 (N3 NoC fun i j=>i+j) (wC (.int 1)))))
theorem W8e {on:List (List Nat)}{E:G8}{o0:Option Sl} (jd:∀l∈on,∀g∈l,g<on.length) (hl:on.length<=100000):∀(n:Nat) (R:List (Nat×Nat)) (p:Nat) (o5 o6:Option Sl),Q0n on.length R->on.length<=n+p ->
  (∀o4 o5 o6,E.nx [o0,some (.dat (llD on)),some (.dk (kR (Q0x on n R p))),some (.own ((Q0x on n R p).map fun q=>iD q.1)),o4,o5,o6]) ->
  J6 wtR wlR (n+1) E [o0,some (.dat (llD on)),some (.dk (kR R)),some (.own (R.map fun q=>iD q.1)),some (.dat (iD p)),o5,o6]:=by
 intro n
 induction n with
 | zero =>
  intro R p o5 o6 hI hp h
  have b:=hI.bound
  simp only [J6,wtR,J5,L0,D4,C1,C7]
  refine⟨_,rfl,_,rfl,?_⟩
  simp only [Q8,W0,Q0h,Q0v,ag]
  rw [aI (by simp;omega)]
  exact h _ _ _
 | succ n ih =>
  intro R p o5 o6 hI hp h
  have b:=hI.bound
  rw [J6]
  simp only [wtR,J5,L0,D4,C1,C7]
  refine⟨_,rfl,_,rfl,?_⟩
  simp only [Q8,W0,Q0h,Q0v,ag]
  by_cases bE:p<R.length
  ·rw [aM (by simpa using bE)]
   have dI:R[p]?=some R[p]:=ac bE
   have kin:=b9 bE
   generalize R[p]=q at dI kin
   obtain⟨s,d⟩:=q
   have hs:s<on.length:=hI.lt _ kin
   have j0:on[s]?=some on[s]:=ac hs
   have j1:=jd _ (b9 hs)
   simp only [wlR,G3,O4,J5,C1,Q1o,W5j,G2,Y2h,J9]
   refine⟨_,rfl,_,rfl,?_⟩
   rw [W0,Q8,Q6b]
   refine⟨iD s,X4 (by rw [ah,dI];rfl),_,rfl,_,rfl,?_⟩
   rw [Q8]
   simp only [Q8,Z2w]
   refine⟨.lst (on[s].map iD),X4 (by rw [ah,j0];rfl),_,rfl,?_⟩
   rw [Q0x,dI]at h
   simp only [j0]at h
   refine forR (n:=on.length) (d:=d) hl on[s] R _ hI kin j1 fun o6=>?_
   refine⟨_,rfl,trivial,?_⟩
   have e:((p:Int)+1)=((p+1:Nat):Int):=by omega
   show J6 wtR wlR (n+1) E [_,_,_,_,some (.dat (.int ((p:Int)+1))),_,_]
   rw [e]
   exact ih _ _ _ _ (hI.go j1) (by omega) h
  ·rw [aI (by simpa using bE)]
   have e:R[p]?=none:=aC.mpr (by omega)
   rw [Q0x,e]at h
   exact h _ _ _
noncomputable def sp_all_reached (K:Fg9):E2:=fun rs Pr=>∃(xs:List Nat) (on:List (List Nat)),rs=[.bw (xs.map iD),.st (llD on)]/\xs.Nodup/\(∀x∈xs,x<on.length)/\(∀l∈on,∀g∈l,g<on.length)/\on.length<=100000/\∀a,Pr (.cl a (N5 K a (kR (J1 on xs))))
theorem W0j {K:Fg9}:T6 (sp_all_reached K):=by rintro rs P Q f ⟨xs,on,e,h1,h2,h3,h4,h5⟩;exact⟨xs,on,e,h1,h2,h3,h4,fun a=>f _ (h5 a)⟩
theorem W3t {K:Fg9}:∀rs Pr,rs.length=2->sp_all_reached K rs Pr->Z5m K (P3 Pr) (E7 Z0g rs):=by
 rintro rs Pr _ ⟨xs,on,rfl,nd,hx,jd,hl,h⟩
 have hI:Q0n on.length (xs.map fun x=>(x,0)):=⟨by simpa [Function.comp_def]using nd,fun q hq=>by
  obtain⟨x,h1,rfl⟩:=aj.mp hq
  exact hx x h1⟩
 have b:=hI.bound
 rw [ag]at b
 unfold Z5m
 simp only [G3,W5n,Q6g,C1,O4,L0,D4,C7,J9,W6a]
 refine⟨_,rfl,_,rfl,szl (by simp;omega),?_⟩
 refine Z8i xs [] _ (by simpa using nd) ?_
 refine⟨_,rfl,?_⟩
 have el:(kR ([]++xs.map fun x=>(x,0))).map (fun p=>kyD p.1)=((xs.map fun x=>(x,0)).map fun q=>iD q.1):=by simp [K3,kyD]
 show Q3a [.dk _] _
 rw [W5t,el,dw]
 simp only [Q2,Q4i]
 refine⟨on.length+1,?_⟩
 refine W8e jd hl on.length (xs.map fun x=>(x,0)) 0 _ _ hI (by omega) fun o4 o5 o6=>?_
 exact⟨_,rfl,h⟩
structure Wf (es:List Bool) (rows:List (List Nat)):Prop where
 len:rows.length=es.length
 pos:0<es.length
 r4:∀r∈rows,r.length=4
 lt:∀r∈rows,∀x∈r,x<es.length
noncomputable def Z0 (B:List (List Nat)) (g s:Nat):List (List Nat):=B.set g (B.getD g []++[s])
noncomputable def Q1f (s:Nat):List Nat->List (List Nat)->List (List Nat)
 | [],B=>B
 | g::gs,B=>Q1f s gs (Z0 B g s)
noncomputable def Q1e:Nat->List (List Nat)->List (List Nat)->List (List Nat)
 | _,[],B=>B
 | s,r::rs,B=>Q1e (s+1) rs (Q1f s r B)
noncomputable def E5 (rows:List (List Nat)):List (List Nat):=Q1e 0 rows (rows.map fun _=>[])
noncomputable abbrev lls (B:List (List Nat)):List (List D):=B.map fun l=>l.map iD
theorem Z0r (B:List (List Nat)) (g s:Nat):(Z0 B g s).length=B.length:=by simp [Z0]
theorem Q7g {s:Nat}:∀(gs:List Nat) (B:List (List Nat)),(Q1f s gs B).length=B.length
 | [],B=>rfl
 | g::gs,B=>by rw [Q1f,Q7g gs,Z0r]
theorem Z7n:∀(rs:List (List Nat)) (s:Nat) (B:List (List Nat)),(Q1e s rs B).length=B.length
 | [],s,B=>rfl
 | r::rs,s,B=>by rw [Q1e,Z7n rs,Q7g]
theorem Z9y (B:List (List Nat)) (g:Nat):(lls B).getD g []=(B.getD g []).map iD:=by
 rw [am,am,ah]
 cases B[g]? <;> rfl
theorem Y9v (B:List (List Nat)) (g s:Nat):(lls B).set g ((lls B).getD g []++[iD s])=lls (Z0 B g s):=by
 rw [Z9y]
 unfold Z0 lls
 rw [List.map_set]
 simp
theorem Z8z {B:List (List Nat)}{m g:Nat} (h:∀l∈B,l.length<=m):(B.getD g []).length<=m:=by
 rw [am]
 cases e:B[g]? with
 | none=>simp
 | some l=>exact h l (aw e)
theorem Z7h {B:List (List Nat)}{m g s:Nat} (h:∀l∈B,l.length<=m):∀l∈Z0 B g s,l.length<=m+1:=by
 intro l hl
 rcases List.mem_or_eq_of_mem_set hl with h' | rfl
 ·exact Nat.le_succ_of_le (h l h')
 ·have:=Z8z (g:=g) h
  rw [aE,bG];omega
theorem Z7o {s:Nat}:∀(gs:List Nat) (B:List (List Nat)) (m:Nat),(∀l∈B,l.length<=m)->∀l∈Q1f s gs B,l.length<=m+gs.length
 | [],B,m,h=>h
 | g::gs,B,m,h=>fun l hl=>by
  have:=Z7o gs _ (m+1) (Z7h h) l hl
  simp;omega
theorem W0a {B:List (List Nat)}{g s i x:Nat} (hx:x∈(Z0 B g s).getD i []):x∈B.getD i []\/(i=g/\x=s):=by
 unfold Z0 at hx
 rw [am,List.getElem?_set]at hx
 by_cases h:g=i
 ·subst h
  by_cases hl:g<B.length
  ·rw [aM rfl,aM hl]at hx
   rcases aN.mp (show x∈B.getD g []++[s]from hx)with h | h
   ·exact .inl h
   ·exact .inr ⟨rfl,by simpa using h⟩
  ·rw [aM rfl,aI hl]at hx
   cases hx
 ·rw [aI h]at hx
  exact .inl (by rw [am];exact hx)
theorem W0c {B:List (List Nat)}{g s i x:Nat} (hx:x∈B.getD i []):x∈(Z0 B g s).getD i []:=by
 unfold Z0
 rw [am]at hx ⊢
 rw [List.getElem?_set]
 by_cases h:g=i
 ·subst h
  by_cases hl:g<B.length
  ·rw [aM rfl,aM hl]
   exact bb _ (by rw [am];exact hx)
  ·rw [aC.mpr (by omega)]at hx;cases hx
 ·rw [aI h];exact hx
theorem W0b {B:List (List Nat)}{g s:Nat} (hl:g<B.length):s∈(Z0 B g s).getD g []:=by
 unfold Z0
 rw [am,List.getElem?_set,aM rfl,aM hl]
 exact ak _ (by simp)
theorem Y0j {s i x:Nat}:∀(gs:List Nat) (B:List (List Nat)),(∀g∈gs,g<B.length)->(x∈(Q1f s gs B).getD i [] ↔ x∈B.getD i []\/(i∈gs/\x=s))
 | [],B,_=>by simp [Q1f]
 | g::gs,B,h=>by
  rw [Q1f,Y0j gs _ (fun g' h'=>by rw [Z0r];exact h g' (by simp [h']))]
  constructor
  ·rintro (h' | ⟨h1,h2⟩)
   ·rcases W0a h' with h' | ⟨h1,h2⟩
    ·exact .inl h'
    ·exact .inr ⟨by simp [h1],h2⟩
   ·exact .inr ⟨by simp [h1],h2⟩
  ·rintro (h' | ⟨h1,rfl⟩)
   ·exact .inl (W0c h')
   ·rcases ao.mp h1 with rfl | h1
    ·exact .inl (W0b (h _ (by simp)))
    ·exact .inr ⟨h1,rfl⟩
theorem Y0i {i x:Nat}:∀(rs:List (List Nat)) (s:Nat) (B:List (List Nat)),(∀r∈rs,∀g∈r,g<B.length)->(x∈(Q1e s rs B).getD i [] ↔ x∈B.getD i []\/∃j r,rs[j]?=some r/\i∈r/\x=s+j)
 | [],s,B,_=>by simp [Q1e]
 | r::rs,s,B,h=>by
  rw [Q1e,Y0i rs _ _ (fun r' h' g hg=>by rw [Q7g];exact h r' (by simp [h']) g hg),Y0j _ _ (h r (by simp))]
  constructor
  ·rintro ((h' | ⟨h1,rfl⟩) | ⟨j,r',e,h1,rfl⟩)
   ·exact .inl h'
   ·exact .inr ⟨0,r,rfl,h1,rfl⟩
   ·exact .inr ⟨j+1,r',by simpa using e,h1,by omega⟩
  ·rintro (h' | ⟨j,r',e,h1,rfl⟩)
   ·exact .inl (.inl h')
   ·cases j with
    | zero=>cases e;exact .inl (.inr ⟨h1,rfl⟩)
    | succ j=>exact .inr ⟨j,r',by simpa using e,h1,by omega⟩
theorem Z2q {rows:List (List Nat)} (h:∀r∈rows,∀g∈r,g<rows.length) {i x:Nat}:x∈(E5 rows).getD i [] ↔ ∃r,rows[x]?=some r/\i∈r:=by
 unfold E5
 rw [Y0i rows 0 _ (fun r hr g hg=>by rw [ag];exact h r hr g hg)]
 have e0:x∉(rows.map fun _=>([]:List Nat)).getD i []:=by
  rw [am,ah]
  cases rows[i]? <;> simp
 constructor
 ·rintro (h' | ⟨j,r,e,h1,rfl⟩)
  ·exact absurd h' e0
  ·exact⟨r,by rw [Nat.zero_add];exact e,h1⟩
 ·rintro ⟨r,e,h1⟩
  exact .inr ⟨x,r,e,h1,by omega⟩
theorem Q7f (rows:List (List Nat)):(E5 rows).length=rows.length:=by simp [E5,Z7n]
theorem Z7m {rows:List (List Nat)} (h:∀r∈rows,∀g∈r,g<rows.length):∀l∈E5 rows,∀x∈l,x<(E5 rows).length:=by
 intro l hl x hx
 obtain⟨i,hi,rfl⟩:=bu.mp hl
 have:x∈(E5 rows).getD i []:=by rw [am,ac hi];exact hx
 obtain⟨r,e,_⟩:=(Z2q h).mp this
 obtain⟨h',_⟩:=aF.mp e
 rw [Q7f];exact h'
noncomputable def F5 (es:List Bool) (b:Bool):List Nat:=((es.zipIdx).filter fun p=>p.1==b).map (·.2)
theorem Z2r {es:List Bool}{b:Bool}{i:Nat}:i∈F5 es b ↔ es[i]?=some b:=by
 unfold F5
 rw [aj]
 constructor
 ·rintro ⟨⟨c,j⟩,h,rfl⟩
  rw [List.mem_filter]at h
  have h1:=List.mem_zipIdx_iff_getElem?.mp h.1
  have h2:c=b:=by simpa using h.2
  subst h2;exact h1
 ·intro h
  exact⟨(b,i),List.mem_filter.mpr ⟨List.mem_zipIdx_iff_getElem?.mpr h,by simp⟩,rfl⟩
theorem Z8q {es:List Bool}{b:Bool}:∀x∈F5 es b,x<es.length:=fun x hx=>by
 obtain⟨h,_⟩:=aF.mp (Z2r.mp hx);exact h
theorem Z8r {es:List Bool}{b:Bool}:(F5 es b).Nodup:=by
 have:(es.zipIdx.map (·.2)).Nodup:=by rw [List.zipIdx_map_snd];exact List.nodup_range'
 exact this.sublist (List.filter_sublist.map _)
noncomputable def G9 (R:List (Nat×Nat)) (s:Nat):Option Nat:=(R.find? fun q=>decide (q.1=s)).map (·.2)
noncomputable abbrev oD:Option Nat->D
 | none=>.non
 | some d=>iD d
theorem Y4t (R:List (Nat×Nat)) (s:Nat):(D8 (kR R) (ik s)).getD .non=oD (G9 R s):=by
 rw [Q1j Q2y]
 unfold D8 G9
 induction R with
 | nil=>rfl
 | cons q R ih =>
  rw [ar,aZ,aZ]
  by_cases h:q.1=s
  ·simp [h]
  ·simp only [h,decide_false];exact ih
noncomputable def X5 (es:List Bool) (rows:List (List Nat)) (b:Bool):List (Option Nat):=(List.range es.length).map (G9 (J1 (E5 rows) (F5 es b)))
theorem Z8k {Q:List (List D)->Prop}:∀(ds:List D) (o:Option Sl),Q (ds.map fun _=>[])->Z3 (C0 0) (R0 A2) ds [o] Q
 | [],o,h=>h
 | d::ds,o,h=>by
  rw [Z3]
  simp only [U9,s_lst,C7]
  exact⟨_,rfl,sz (by simp),_,rfl,Z8k ds _ h⟩
@[simp] theorem nll1 {d:D}:J8 (some (.dat d))=true:=rfl
@[simp] theorem nll2:J8 none=true:=rfl
theorem forB {s:Nat}{E:G8}{a:Addr}{o0 o1 o2 o5 o7:Option Sl} (n0:J8 o0=true) (n1:J8 o1=true) (n2:J8 o2=true) (n5:J8 o5=true) (n7:J8 o7=true):∀(gs:List Nat) (B:List (List Nat)) (m:Nat) (o6:Option Sl),J8 o6=true ->
  (∀g∈gs,g<B.length)->(∀l∈B,l.length<=m)->m+gs.length<=1000000 ->
  (∀o6,J8 o6=true->E.nx [o0,o1,o2,some (.ll a (lls (Q1f s gs B))),some (.dat (iD s)),o5,o6,o7]) ->
  F6 (C0 6) (Q6r 3 (wV 6) (B3 (wV 4))) E (gs.map iD) [o0,o1,o2,some (.ll a (lls B)),some (.dat (iD s)),o5,o6,o7]
 | [],B,m,o6,n6,_,_,_,h=>h o6 n6
 | g::gs,B,m,o6,n6,hg,hm,hz,h=>by
  rw [aK]at hz
  have gl:=hg g (by simp)
  have bd:=Z8z (g:=g) hm
  rw [ar,F6]
  simp only [U9,W5r,C1,G2]
  refine⟨a,lls B,rfl,?_,_,rfl,_,g,rfl,?_,_,rfl,_,rfl,?_,?_⟩
  ·show(J8 o0&&(J8 o1&&(J8 o2&&([some (.dat (iD s)),o5,some (.dat (iD g)),o7]:A8).all J8)))=true
   simp [n0,n1,n2,n5,n7,nll1]
  ·rw [ag];exact ixn gl
  ·rw [Z9y,ag];exact szl (by omega)
  ·show F6 _ _ _ _ [_,_,_,some (.ll a ((lls B).set g ((lls B).getD g []++[iD s]))),_,_,_,_]
   rw [Y9v]
   exact forB n0 n1 n2 n5 n7 gs _ (m+1) _ rfl (fun g' h'=>by rw [Z0r];exact hg g' (by simp [h'])) (Z7h hm) (by omega) h
theorem Z8y {E:G8}{a:Addr}{o0 o1 o2 o7:Option Sl} (n0:J8 o0=true) (n1:J8 o1=true) (n2:J8 o2=true) (n7:J8 o7=true):∀(rs:List (List Nat)) (s:Nat) (B:List (List Nat)) (m:Nat) (o4 o5 o6:Option Sl),J8 o4=true->J8 o5=true->J8 o6=true ->
  (∀r∈rs,r.length=4/\∀g∈r,g<B.length)->(∀l∈B,l.length<=m)->m+4*rs.length<=1000000 ->
  (∀o4 o5 o6,J8 o4=true->J8 o5=true->J8 o6=true->E.nx [o0,o1,o2,some (.ll a (lls (Q1e s rs B))),o4,o5,o6,o7]) ->
  F6 (gTp 2 (G7 (C0 4) (G7 (C0 5) gNl))) (V1 (Q5p (wV 5)) (C0 6) (Q6r 3 (wV 6) (B3 (wV 4)))) E ((rs.zipIdx s).map fun p=>.tup [.int (p.2:Int),rD p.1]) [o0,o1,o2,some (.ll a (lls B)),o4,o5,o6,o7]
 | [],s,B,m,o4,o5,o6,n4,n5,n6,_,_,_,h=>h o4 o5 o6 n4 n5 n6
 | r::rs,s,B,m,o4,o5,o6,n4,n5,n6,hg,hm,hz,h=>by
  rw [aK]at hz
  obtain⟨l4,gl⟩:=hg r (by simp)
  rw [cn,ar,F6]
  simp only [Q2l,Q2j,U9,Q2k,Q1o,W5k,C1]
  refine⟨_,rfl,rfl,_,_,rfl,_,_,rfl,rfl,_,rfl,_,rfl,?_⟩
  refine forB n0 n1 n2 (o5:=some (.dat (rD r))) rfl n7 r B m o6 n6 gl hm (by omega) fun o6 n6=>?_
  exact Z8y n0 n1 n2 n7 rs (s+1) _ (m+4) _ _ _ rfl rfl n6 (fun r' h'=>⟨(hg r' (by simp [h'])).1,fun g h2=>by rw [Q7g];exact(hg r' (by simp [h'])).2 g h2⟩)
   (by have:=Z7o (s:=s) r B m hm;rw [l4]at this;exact this) (by omega) h
theorem Z1f {b:Bool}{Q:List D->Prop}:∀(es:List Bool) (n:Nat) (o0 o1:Option Sl),Q (((es.zipIdx n).filter fun p=>p.1==b).map fun p=>iD p.2) ->
  N8 (gTp 2 (G7 (C0 0) (G7 (C0 1) gNl))) (A7 (E9 60 false) (wV 1) (wV 2)) (B3 (wV 0)) ((es.zipIdx n).map fun p=>.tup [.int (p.2:Int),.bl p.1]) [o0,o1,some (.dat (.bl b))] Q
 | [],n,o0,o1,h=>h
 | e::es,n,o0,o1,h=>by
  rw [cn,ar,N8]
  simp only [Q2l,Q2j,U9,Q2k,J5,C1,G2]
  refine⟨_,rfl,rfl,_,_,rfl,_,_,rfl,rfl,_,rfl,_,rfl,?_⟩
  simp only [Q8,Z2v,o_d1]
  refine⟨_,_,rfl,rfl,by simp [D.depth],?_⟩
  rw [cn,List.filter_cons]at h
  by_cases hb:e=b
  ·subst hb
   simp only [BEq.rfl,if_true]at h
   simp only [o_e3,BEq.rfl,if_true,if_false,dX]
   exact⟨_,rfl,_,rfl,Z1f es (n+1) _ _ h⟩
  ·have ft:(e==b)=false:=by simpa using hb
   simp only [ft,dX,if_false]at h
   simp only [o_e3,ft,if_false,dX]
   exact Z1f es (n+1) _ _ h
def L5 (ra:R) (es:List Bool):Prop:=ra=.bw (es.map .bl)\/ra=.st (.tup (es.map .bl))
theorem L5.rd {ra:R}{es:List Bool} (h:L5 ra es):rdS (O5 ra)=ra:=by rcases h with rfl | rfl <;> rfl
theorem L5.nll {ra:R}{es:List Bool} (h:L5 ra es):J8 (some (O5 ra))=true:=by rcases h with rfl | rfl <;> rfl
theorem L5.sq {ra:R}{es:List Bool} (h:L5 ra es):T1 ra=some (es.map .bl):=by rcases h with rfl | rfl <;> rfl
theorem L5.len {ra:R}{es:List Bool} (h:L5 ra es) {Q:R->Prop}:F2 [ra] Q=Q (.st (.int (es.length:Int))):=by
 rcases h with rfl | rfl
 ·rw [Q0h,ag]
 ·rw [Z2y,ag]
theorem L5.arg {ra:R}{es:List Bool} (h:L5 ra es):N7 ra=true:=by rcases h with rfl | rfl <;> rfl
theorem L5.nrm {ra:R}{es:List Bool} (h:L5 ra es):nrm ra=ra:=by rcases h with rfl | rfl <;> rfl
def RwD (d:D) (rows:List (List Nat)):Prop:=d=rsD rows\/d=.lst (rows.map rD)
theorem RwD.sq {d:D}{rows:List (List Nat)} (h:RwD d rows):T1 (.st d)=some (rows.map rD):=by rcases h with rfl | rfl <;> rfl
theorem RwD.ix {d:D}{rows:List (List Nat)} (h:RwD d rows) {r:List Nat}{i:Nat} (e:rows[i]?=some r) {Q:R->Prop} (q:Q (.st (rD r))):F1 (.st d) (.st (.int (i:Int))) Q:=by
 rcases h with rfl | rfl <;> exact⟨rD r,X4 (by rw [ah,e];rfl),q⟩
theorem RwD.j {d:D}{rows:List (List Nat)} (h:RwD d rows) {τ:A8}{i:Nat} (e:τ[i]?=some (some (.dat d))) {Q:List D->Prop} (q:Q (rows.map rD)):jOr (Q3z (wV i)) (Q2c (wV i)) τ Q:=by
 rcases h with rfl | rfl
 ·exact .inl ⟨_,e,_,rfl,q⟩
 ·exact .inr ⟨_,e,_,rfl,q⟩
theorem RwD.i {d:D}{rows:List (List Nat)} (h:RwD d rows) {τ:A8}{i:Nat} (e:τ[i]?=some (some (.dat d))) {Q:List D->A8->Prop} (q:Q (J4 (rows.map rD)) τ):iOr (Q3x (A0 (wV i) A2)) (Q5o (A0 (wV i) A2)) τ Q:=by
 rcases h with rfl | rfl
 ·exact .inl ⟨_,e,.inr ⟨_,rfl,q⟩⟩
 ·exact .inr ⟨_,e,_,rfl,q⟩
noncomputable def sp_distances:E2:=fun rs Pr=>∃ra es rows b d,rs=[ra,.st d,.st (.bl b)]/\RwD d rows/\L5 ra es/\Wf es rows/\es.length<=20000/\Pr (.nw ((X5 es rows b).map oD))
theorem Y0r:T6 sp_distances:=by rintro rs P Q f ⟨ra,es,rows,b,d,e,h0,h1,h2,h3,h4⟩;exact⟨ra,es,rows,b,d,e,h0,h1,h2,h3,f _ h4⟩
theorem W3x {K:Fg9}:∀rs Pr,rs.length=3->sp_distances rs Pr->Z5o K (sp_all_reached K) (P3 Pr) (E7 Q5b rs):=by
 rintro rs Pr _ ⟨ra,es,rows,b,d,rfl,hd,ha,wf,hl,h⟩
 have wl:=wf.len
 have bE:∀r∈rows,∀g∈r,g<rows.length:=fun r hr g hg=>by rw [wl];exact wf.lt r hr g hg
 unfold Z5o
 simp only [G3,W5s,Z3t,C1,Y2m,Q1o,Y2o,D4,C7,W6c,S6,Q0y,W5l,S7,Q8v,L0]
 refine hd.j rfl ⟨sz (by simp;omega),?_⟩
 refine Z8k _ _ fun a=>?_
 refine hd.i rfl ?_
 have e1:J4 (rows.map rD)=(rows.zipIdx 0).map fun p=>.tup [.int (p.2:Int),rD p.1]:=by
  unfold J4;rw [List.zipIdx_map,aQ];rfl
 have e2:((rows.map rD).map fun _=>([]:List D))=lls (rows.map fun _=>[]):=by simp [lls]
 rw [e1,e2]
 refine Z8y (o0:=some (O5 ra)) (o1:=some (.dat d)) (o2:=some (.dat (.bl b))) (o7:=none) ha.nll rfl rfl rfl rows 0 _ 0 none none none rfl rfl rfl (fun r hr=>⟨wf.r4 r hr,fun g hg=>by rw [ag];exact bE r hr g hg⟩) (fun l hl=>by simp at hl;simp [hl.2]) (by omega) fun o4 o5 o6 n4 n5 n6=>?_
 refine⟨a,_,rfl,?_,?_⟩
 ·show(J8 _&&(J8 _&&(J8 _&&([o4,o5,o6,none]:A8).all J8)))=true
  have:=ha.nll
  simp [this,n4,n5,n6,nll1,nll2]
 refine⟨_,rfl,?_⟩
 show ∃r ds,[rdS (O5 ra)]=[r]/\_
 refine⟨_,_,rfl,by rw [ha.rd];exact ha.sq,sz (by simp [J4];omega),?_⟩
 have e3:J4 (es.map .bl)=(es.zipIdx 0).map fun p=>.tup [.int (p.2:Int),.bl p.1]:=by
  unfold J4;rw [List.zipIdx_map,aQ];rfl
 rw [e3]
 refine Z1f es 0 _ _ ?_
 refine⟨_,rfl,rfl,F5 es b,E5 rows,?_,Z8r,fun x hx=>by rw [Q7f,wl];exact Z8q x hx,Z7m bE,by rw [Q7f,wl];omega,fun a'=>?_⟩
 ·have q1:((es.zipIdx 0).filter fun p=>p.1==b).map (fun p=>iD p.2)=(F5 es b).map iD:=by unfold F5;rw [aQ];rfl
  have q2:D.lst ((lls (Q1e 0 rows (rows.map fun _=>[]))).map D.lst)=llD (E5 rows):=by unfold lls llD E5;rw [aQ];rfl
  show [R.bw _,R.st (.lst _)]=_
  rw [q1,q2]
 refine⟨a',_,rfl,?_⟩
 refine⟨_,rfl,?_⟩
 show F2 [rdS (O5 ra)] _
 rw [ha.rd,ha.len]
 refine⟨_,rfl,by omega,by omega,sz (by simp [Q3];omega),?_⟩
 have hf:∀i:Nat,(D8 (kR (J1 (E5 rows) (F5 es b))) (ik i)).getD .non=oD (G9 (J1 (E5 rows) (F5 es b)) i):=Y4t _
 have er:Q3 0 (es.length:Int).toNat=(List.range es.length).map iD:=by simp [Q3]
 rw [er]
 refine Q1h (f:=fun d=>match d with | .int i=>(D8 (kR (J1 (E5 rows) (F5 es b))) (.inl i)).getD .non | d=>d) _ _ _ (fun d hd Q' q=>?_) ?_
 ·obtain⟨i,_,rfl⟩:=aj.mp hd
  simp only [G2,W5g,C1]
  exact⟨a',_,rfl,_,rfl,_,ik i,rfl,rfl,q⟩
 ·rw [aQ]
  have:(List.range es.length).map ((fun d=>match d with | .int i=>(D8 (kR (J1 (E5 rows) (F5 es b))) (.inl i)).getD .non | d=>d) ∘ iD)=(X5 es rows b).map oD:=by
   unfold X5
   rw [aQ]
   exact bB fun i _=>hf i
  rw [this]
  exact h
noncomputable def O0:List D->List D->List Nat
 | _,[]=>[]
 | ks,d::r=>ks.idxOf d::O0 (S8 ks d) r
theorem Y1c:∀(ds ks:List D),(Q0g ks ds).map D.int=(O0 ks ds).map iD
 | [],ks=>rfl
 | d::r,ks=>by rw [Q0g,O0,ar,ar,Y1c r]
noncomputable def U3:List D->List D->List D
 | ks,[]=>ks
 | ks,d::r=>U3 (S8 ks d) r
theorem Y3x (ks:List D) (d:D):ks <+: S8 ks d:=by
 unfold S8;split
 ·exact bt _
 ·exact dQ _ _
theorem Y3v:∀(ds ks:List D),ks <+: U3 ks ds
 | [],ks=>bt _
 | d::r,ks=>(Y3x ks d).trans (Y3v r _)
theorem Y0n (ks:List D) (d:D):d∈S8 ks d:=by
 unfold S8;split
 ·assumption
 ·simp
theorem Y8h {ks ls:List D}{g:D} (p:ks <+: ls) (h:g∈ks):ls.idxOf g=ks.idxOf g:=by
 obtain⟨t,rfl⟩:=p
 rw [List.idxOf_append,aM h]
theorem Y8i (ks:List D) (d:D):(S8 ks d).idxOf d=ks.idxOf d:=by
 unfold S8;split
 ·rfl
 ·rename_i h
  rw [List.idxOf_append,aI h,List.idxOf_eq_length h]
  simp
theorem Q4h:∀(ds ks:List D),O0 ks ds=ds.map fun d=>(U3 ks ds).idxOf d
 | [],ks=>rfl
 | d::r,ks=>by
  have p:=Y3v r (S8 ks d)
  rw [O0,Q4h r,ar,U3,Y8h p (Y0n ks d),Y8i]
theorem Y1a (ds ks:List D):(O0 ks ds).length=ds.length:=by rw [Q4h,ag]
theorem Q5w:∀(ds ks:List D) {d:D},d∈ks\/d∈ds->d∈U3 ks ds
 | [],ks,d,h=>by simpa [U3]using h
 | e::r,ks,d,h=>by
  rw [U3]
  refine Q5w r _ ?_
  rcases h with h | h
  ·exact .inl ((Y3x ks e).subset h)
  ·rcases ao.mp h with rfl | h
   ·exact .inl (Y0n _ _)
   ·exact .inr h
theorem Y3u:∀(ds ks:List D),(U3 ks ds).length<=ks.length+ds.length
 | [],ks=>by simp [U3]
 | d::r,ks=>by
  have:=Y3u r (S8 ks d)
  have:(S8 ks d).length<=ks.length+1:=by unfold S8;split <;> simp
  rw [U3,aK];omega
theorem Y1b {ds:List D}:∀x∈O0 [] ds,x<ds.length:=fun x hx=>by
 rw [Q4h,aj]at hx
 obtain⟨d,hd,rfl⟩:=hx
 have h1:=aO.mpr (Q5w ds [] (.inr hd))
 have h2:=Y3u ds []
 simp at h2
 omega
theorem Y0z {ds:List D}{i j:Nat}{a b:D} (hi:ds[i]?=some a) (hj:ds[j]?=some b):(O0 [] ds)[i]?=(O0 [] ds)[j]? ↔ a=b:=by
 rw [Q4h,ah,ah,hi,hj]
 constructor
 ·intro h
  have h:(U3 [] ds).idxOf a=(U3 [] ds).idxOf b:=ay h
  have ha:=aO.mpr (Q5w ds [] (.inr (aw hi)))
  have hb:=aO.mpr (Q5w ds [] (.inr (aw hj)))
  have e1:=List.getElem_idxOf ha
  have e2:=List.getElem_idxOf hb
  rw [<- e1,<- e2]
  simp only [h]
 ·rintro rfl;rfl
noncomputable def sp_numbered:D6:=fun rs r=>∃ds,rs=[.bw ds]/\ds.length<=1000000/\(∀d∈ds,Q1 8 d=true/\∃l,d=.tup l)/\r=.nw ((O0 [] ds).map iD)
theorem W4j:∀rs r,rs.length=1->sp_numbered rs r->Z5z (Y6 r) (E7 Z0l rs):=by
 rintro rs r _ ⟨ds,rfl,hl,hk,rfl⟩
 unfold Z5z
 rw [W5z]
 refine⟨(by decide:1<2),?_⟩
 simp only [Q6g,C1]
 exact⟨_,rfl,_,rfl,sz hl,hk,by rw [Y1c];rfl⟩
noncomputable def Q7 (b:List Nat):Nat:=b.foldl max 0
theorem Z1l:∀(b:List Nat) (a:Nat),a<=b.foldl max a/\∀x∈b,x<=b.foldl max a
 | [],a=>⟨ai _,fun x h=>by cases h⟩
 | y::b,a=>by
  obtain⟨h1,h2⟩:=Z1l b (max a y)
  refine⟨aX (Nat.le_max_left _ _) h1,fun x hx=>?_⟩
  rcases ao.mp hx with rfl | hx
  ·exact aX (Nat.le_max_right _ _) h1
  ·exact h2 x hx
theorem Z8w:∀(b:List Nat) (a:Nat),b.foldl max a=a\/b.foldl max a∈b
 | [],a=>.inl rfl
 | y::b,a=>by
  rcases Z8w b (max a y)with h | h
  ·rw [List.foldl_cons,h]
   rcases Nat.le_total a y with z | z
   ·rw [Nat.max_eq_right z];exact .inr (by simp)
   ·rw [Nat.max_eq_left z];exact .inl rfl
  ·exact .inr (ax _ h)
theorem Q8d {b:List Nat}{x:Nat} (h:x∈b):x<=Q7 b:=(Z1l b 0).2 x h
theorem Q5u {b:List Nat} (h:b≠[]):Q7 b∈b:=by
 unfold Q7
 rcases Z8w b 0 with e | e
 ·cases b with
  | nil=>exact absurd rfl h
  | cons y b =>
   have:=(Z1l (y::b) 0).2 y (by simp)
   rw [e]at this
   have:y=0:=by omega
   rw [e,this];simp
 ·exact e
theorem Y9z {b:List Nat}{m:Int} (h:m∈b.map fun(x:Nat)=>(x:Int)) (g:∀n∈b.map fun(x:Nat)=>(x:Int),n<=m):m=(Q7 b:Int):=by
 obtain⟨k,hk,rfl⟩:=aj.mp h
 have h1:=Q8d hk
 have h2:=g _ (aj.mpr ⟨_,Q5u (fun z=>by rw [z]at hk;cases hk),rfl⟩)
 omega
noncomputable def W9 (es:List Bool) (rows:List (List Nat)):List D:=((X5 es rows true).zip (X5 es rows false)).map fun p=>.tup [oD p.1,oD p.2]
noncomputable def Q0s (b:List Nat) (p:Nat×List Nat):D:=.tup [iD p.1,rD (p.2.map fun g=>b.getD g 0)]
noncomputable def Q0f (rows:List (List Nat)) (b:List Nat):List D:=(b.zip rows).map (Q0s b)
noncomputable def K0 (rows:List (List Nat)) (b:List Nat):List Nat:=O0 [] (Q0f rows b)
noncomputable def Q1p (rows:List (List Nat)):Nat->Nat->List Nat->List Nat
 | 0,_,b=>b
 | n+1,many,b=>if many<=Q7 b then Q1p rows n (Q7 b+1) (K0 rows b)else b
noncomputable def E8 (es:List Bool) (rows:List (List Nat)):List Nat:=Q1p rows (es.length+1) 0 (O0 [] (W9 es rows))
structure J7 (n:Nat) (b:List Nat):Prop where
 len:b.length=n
 lt:∀x∈b,x<n
theorem J7.step {n:Nat}{rows:List (List Nat)}{b:List Nat} (h:J7 n b) (hr:rows.length=n):J7 n (K0 rows b):=by
 have e:(Q0f rows b).length=n:=by simp [Q0f,h.len,hr]
 exact⟨by unfold K0;rw [Y1a,e],fun x hx=>by have:=Y1b x hx;rw [e]at this;exact this⟩
theorem J7.zero {es:List Bool}{rows:List (List Nat)}:J7 es.length (O0 [] (W9 es rows)):=by
 have e:(W9 es rows).length=es.length:=by simp [W9,X5]
 exact⟨by rw [Y1a,e],fun x hx=>by have:=Y1b x hx;rw [e]at this;exact this⟩
theorem Y4i {n:Nat}{rows:List (List Nat)} (hr:rows.length=n):∀(k many:Nat) (b:List Nat),J7 n b->J7 n (Q1p rows k many b)
 | 0,many,b,h=>h
 | k+1,many,b,h=>by
  unfold Q1p;split
  ·exact Y4i hr k _ _ (h.step hr)
  ·exact h
theorem Z4p {es:List Bool}{rows:List (List Nat)} (w:Wf es rows):J7 es.length (E8 es rows):=Y4i w.len _ _ _ J7.zero
def wtA:WT:=(A7 (T8 fun i j=>decide (j<=i)) (C3 Q0t (A0 (wV 2) A2)) (wV 3))
def weA:WE:=(B3 (W4 (A0 (B3 (wV 0)) (A0 (B3 (C3 P7 (A0 (V0 1 [2] (Q3z (wV 1)) (C0 0) T2 (B3 (A7 F1 (wV 1) (wV 0)))) A2))) A2))))
def wlA (sp_numbered:D6):WS:=(B1 (C8 3 (A7 K5 (C3 Q0t (A0 (wV 2) A2)) (wC (.int 1)))) (C8 2 (B3 (U4 sp_numbered (A0 (V0 2 [2] (Q7w (A0 (wV 2) (A0 (wV 1) A2))) (gTp 2 (G7 (C0 0) (G7 (C0 1) gNl))) T2 weA) A2)))))
theorem W8a {n:Nat}{b:List Nat} (hb:J7 n b) (hn:n<=20000) {p:Nat×List Nat} (hp:p.2.length=4) (hg:∀g∈p.2,g<n) (Q:R->Prop) (h:Q (.st (Q0s b p))):weA (some (.dat (iD p.1))::some (.dat (rD p.2))::[some (.dat (.lst (b.map iD)))]) Q:=by
 unfold weA
 simp only [G2,s_tup,D4,C1,L0,Q0y,Z3t,C7]
 refine⟨_,rfl,_,rfl,_,rfl,sz (by simp [hp]),?_⟩
 refine Q1h (f:=fun d=>match d with | .int i=>iD (b.getD i.toNat 0) | d=>d) _ _ _ (fun d hd Q' q=>?_) ?_
 ·obtain⟨g,fY,rfl⟩:=aj.mp hd
  have hl:g<b.length:=by rw [hb.len];exact hg g fY
  simp only [G2,J5,C1]
  refine⟨_,rfl,_,rfl,?_⟩
  show F1 (.st (.lst (b.map iD))) (.st (.int (g:Int))) _
  rw [Z2w]
  refine⟨iD (b.getD g 0),X4 (by rw [ah,am,ac hl];rfl),q⟩
 ·refine⟨_,rfl,_,rfl,sz (by simp),?_⟩
  have e:(p.2.map iD).map (fun d=>match d with | .int i=>iD (b.getD i.toNat 0) | d=>d)=(p.2.map fun g=>b.getD g 0).map iD:=by
   rw [aQ,aQ]
   exact bB fun g _=>by simp
  show Q (.st (.tup [iD p.1,.tup _]))
  rw [e]
  exact h
theorem Z2m {b:List Nat} (hb:b≠[]) {Q:R->Prop} (h:Q (.st (iD (Q7 b)))):Q0t [.st (.lst (b.map iD))] Q:=by
 rw [W5w]
 refine⟨b.map fun(x:Nat)=>(x:Int),by rw [W1f,aQ];rfl,by simpa using hb,fun m h1 h2=>?_⟩
 rw [Y9z h1 h2]
 exact h
theorem Y9d (n:Nat) (o:Option Nat):Q1 n (oD o)=true:=by cases o <;> cases n <;> rfl
theorem Y9y (b:List Nat) (p:Nat×List Nat):Q1 8 (Q0s b p)=true:=by
 simp [Q0s,Q1]
theorem W8b {es:List Bool}{rows:List (List Nat)} (w:Wf es rows) (hl:es.length<=20000) {dr:D} (gt:RwD dr rows) {E:G8}{o0:Option Sl}:∀(n many:Nat) (b:List Nat),J7 es.length b->es.length+1<=n+many ->
  (∀o3,E.nx [o0,some (.dat dr),some (.dat (.lst ((Q1p rows n many b).map iD))),o3]) ->
  J6 wtA (wlA sp_numbered) (n+1) E [o0,some (.dat dr),some (.dat (.lst (b.map iD))),some (.dat (iD many))]:=by
 intro n
 induction n with
 | zero =>
  intro many b hb hn h
  have ne:b≠[]:=fun z=>by have h1:=hb.len;rw [z,hV]at h1;have:=w.pos;omega
  have:=hb.lt _ (Q5u ne)
  simp only [J6,wtA,J5,L0,D4,C1,C7]
  refine⟨_,rfl,?_⟩
  refine Z2m ne ⟨_,rfl,?_⟩
  rw [Q8,Q0v,aI (by simp;omega)]
  exact h _
 | succ n ih =>
  intro many b hb hn h
  have ne:b≠[]:=fun z=>by have h1:=hb.len;rw [z,hV]at h1;have:=w.pos;omega
  have mx:=hb.lt _ (Q5u ne)
  rw [J6]
  simp only [wtA,J5,L0,D4,C1,C7]
  refine⟨_,rfl,?_⟩
  refine Z2m ne ⟨_,rfl,?_⟩
  rw [Q8,Q0v]
  rw [Q1p]at h
  by_cases hm:many<=Q7 b
  ·rw [aM (by simpa using hm)]
   rw [aM hm]at h
   simp only [wlA,G3,O4,J5,L0,D4,C1,C7,J9,G2,Q0i,Q0y,W5m]
   refine⟨_,rfl,?_⟩
   refine Z2m ne ?_
   rw [Q1l,Q2]
   refine⟨_,rfl,_,rfl,_,_,_,_,rfl,rfl,gt.sq,sz (by simp [T3,hb.len];omega),?_⟩
   have ez:T3 (b.map iD) (rows.map rD)=((b.zip rows).map fun p=>(iD p.1,rD p.2)).map fun p=>.tup [p.1,p.2]:=by
    unfold T3
    rw [List.zip_map]
    rfl
   rw [ez]
   refine Z8j (f:=fun d e=>match d,e with | .int i,.tup r=>Q0s b (i.toNat,r.map fun d=>match d with | .int j=>j.toNat | _=>0) | _,_=>.non) _ _ _ _ (fun q hq Q' hQ=>?_) ?_
   ·obtain⟨p,hp,rfl⟩:=aj.mp hq
    have hr:=(dv hp).2
    refine W8a hb hl (w.r4 _ hr) (w.lt _ hr) Q' ?_
    have:(p.2.map iD).map (fun d=>match d with | .int j=>j.toNat | _=>0)=p.2:=by
     rw [aQ]
     conv=>rhs;rw [<- List.map_id p.2]
     exact bB fun g _=>by simp
    simp only [this]at hQ
    simpa using hQ
   ·have em:(((b.zip rows).map fun p=>(iD p.1,rD p.2)).map fun p=>(fun d e=>match d,e with | .int i,.tup r=>Q0s b (i.toNat,r.map fun d=>match d with | .int j=>j.toNat | _=>0) | _,_=>D.non) p.1 p.2)=Q0f rows b:=by
     unfold Q0f
     rw [aQ]
     refine bB fun p _=>?_
     have:(p.2.map iD).map (fun d=>match d with | .int j=>j.toNat | _=>0)=p.2:=by
      rw [aQ]
      conv=>rhs;rw [<- List.map_id p.2]
      exact bB fun g _=>by simp
     simp only [Function.comp,this]
     simp
    rw [em]
    refine⟨rfl,_,⟨Q0f rows b,rfl,?_,fun d hd=>?_,rfl⟩,?_⟩
    ·simp [Q0f,hb.len];omega
    ·obtain⟨p,_,rfl⟩:=aj.mp hd
     exact⟨Y9y b p,_,rfl⟩
    ·have e:((Q7 b:Int)+1)=((Q7 b+1:Nat):Int):=by omega
     show J6 wtA (wlA sp_numbered) (n+1) E [_,_,some (.dat (.lst ((K0 rows b).map iD))),some (.dat (.int ((Q7 b:Int)+1)))]
     rw [e]
     exact ih _ _ (hb.step w.len) (by omega) h
  ·rw [aI (by simpa using hm)]
   rw [aI hm]at h
   exact h _
noncomputable def sp_told_apart:E2:=fun rs Pr=>∃ra es rows d,rs=[ra,.st d]/\RwD d rows/\L5 ra es/\Wf es rows/\es.length<=20000/\Pr (.st (.lst ((E8 es rows).map iD)))
theorem W0n:T6 sp_told_apart:=by rintro rs P Q f ⟨ra,es,rows,d,e,h0,h1,h2,h3,h4⟩;exact⟨ra,es,rows,d,e,h0,h1,h2,h3,f _ h4⟩
theorem W4p:∀rs Pr,rs.length=2->sp_told_apart rs Pr->Z6c sp_numbered sp_distances (P3 Pr) (E7 Z0n rs):=by
 rintro rs Pr _ ⟨ra,es,rows,dr,rfl,gt,ha,wf,hl,h⟩
 unfold Z6c
 simp only [G3,O4,G2,Q0i,D4,W5v,S6,C1,J9,C7,W6b]
 refine⟨_,rfl,_,rfl,?_,ra,es,rows,true,dr,?_,gt,ha,wf,hl,?_⟩
 ·show(N7 (rdS (O5 ra))&&true)=true
  rw [ha.rd,ha.arg];rfl
 ·show [nrm (rdS (O5 ra)),_,_]=_
  rw [ha.rd,ha.nrm];rfl
 refine⟨_,rfl,_,rfl,?_,ra,es,rows,false,dr,?_,gt,ha,wf,hl,?_⟩
 ·show(N7 (rdS (O5 ra))&&true)=true
  rw [ha.rd,ha.arg];rfl
 ·show [nrm (rdS (O5 ra)),_,_]=_
  rw [ha.rd,ha.nrm];rfl
 refine⟨_,_,_,_,rfl,rfl,rfl,rfl,_,⟨W9 es rows,?_,?_,fun d hd=>?_,rfl⟩,?_⟩
 ·have:T3 ((X5 es rows true).map oD) ((X5 es rows false).map oD)=W9 es rows:=by
   unfold T3 W9
   rw [List.zip_map,aQ];rfl
  rw [this];rfl
 ·simp [W9,X5];omega
 ·obtain⟨p,_,rfl⟩:=aj.mp hd
  exact⟨by simp [Q1,Y9d],_,rfl⟩
 ·refine⟨es.length+1+1,?_⟩
  refine W8b wf hl gt (es.length+1) 0 _ J7.zero (by omega) fun o3=>?_
  exact⟨_,rfl,h⟩
noncomputable abbrev C5:=List Bool×List (List Nat)
noncomputable abbrev mD (m:C5):D:=.tup [.tup (m.1.map .bl),rsD m.2]
abbrev D9 (m:C5):Prop:=Wf m.1 m.2
noncomputable def D7 (rows:List (List Nat)) (s c:Nat):Nat:=(rows.getD s []).getD c 0
noncomputable def Q0j:Nat->List Nat->List (Nat×Nat)->List (Nat×Nat)
 | _,[],S=>S
 | n,x::b,S=>Q0j (n+1) b (L6 S x n)
noncomputable def Q0e (rows:List (List Nat)) (b:List Nat) (x c:Nat):Nat:=b.getD (D7 rows (b.idxOf x) c) 0
noncomputable def K7 (es:List Bool) (rows:List (List Nat)):List Nat×List (List Nat):=Y4 es.length (Q0e rows (E8 es rows)) ((E8 es rows).getD 0 0)
noncomputable def E6 (es:List Bool) (rows:List (List Nat)):C5:=((K7 es rows).1.map fun x=>es.getD ((E8 es rows).idxOf x) false,(K7 es rows).2)
theorem W4z {rows:List (List Nat)}{s c:Nat}{r:List Nat} (h:rows[s]?=some r) (hc:c<r.length):r[c]?=some (D7 rows s c):=by
 unfold D7
 rw [am,am,h,Option.getD_some,ac hc,Option.getD_some]
theorem Wf.row {es:List Bool}{rows:List (List Nat)} (w:Wf es rows) {s:Nat} (h:s<es.length):∃r,rows[s]?=some r/\r.length=4/\∀c<4,r[c]?=some (D7 rows s c)/\D7 rows s c<es.length:=by
 have h':s<rows.length:=by rw [w.len];exact h
 have e:rows[s]?=some rows[s]:=ac h'
 have m:=b9 h'
 refine⟨_,e,w.r4 _ m,fun c hc=>?_⟩
 have g:=W4z e (c:=c) (by rw [w.r4 _ m];exact hc)
 exact⟨g,w.lt _ m _ (aw g)⟩
theorem Z2 {c:Nat} (h:c∈B9):c<4:=by
 simp [B9]at h;omega
theorem Y0c {c:Nat} (h:c<4):c∈B9:=by
 simp [B9];omega
theorem Q1i {b:List Nat}{i:Nat} (h:i<b.length):b.getD i 0∈b:=by
 rw [am,ac h];exact b9 h
theorem Y0b {es:List Bool}{rows:List (List Nat)} (w:Wf es rows) {b:List Nat} (hb:b.length=es.length) {x c:Nat} (hx:x∈b) (hc:c∈B9):Q0e rows b x c∈b:=by
 have hi:=aO.mpr hx
 obtain⟨r,_,_,h⟩:=w.row (s:=b.idxOf x) (by rw [<- hb];exact hi)
 exact Q1i (by rw [hb];exact(h c (Z2 hc)).2)
theorem Q4d {es:List Bool}{rows:List (List Nat)} (w:Wf es rows):Q1d (Q0e rows (E8 es rows)) ((E8 es rows).getD 0 0) (E8 es rows) (K7 es rows).1 (K7 es rows).2:=by
 have B:=Z4p w
 exact Q3l (fun k hk c hc=>Y0b w B.len hk hc) (Q1i (by rw [B.len];exact w.pos)) (gA B.len)
theorem Z2a {es:List Bool}{rows:List (List Nat)} (w:Wf es rows):D9 (E6 es rows):=by
 have W:=Q4d w
 have e7:∀r∈(K7 es rows).2,∃k∈(K7 es rows).1,r=B9.map fun c=>(K7 es rows).1.idxOf (Q0e rows (E8 es rows) k c):=fun r hr=>by
  obtain⟨i,hi,rfl⟩:=bu.mp hr
  have fm:i<(K7 es rows).1.length:=by rw [<- W.len];exact hi
  have:=W.row i _ (ac fm)
  rw [ac hi]at this
  exact⟨_,b9 fm,ay this⟩
 refine⟨?_,?_,fun r hr=>?_,fun r hr x hx=>?_⟩
 ·show(K7 es rows).2.length=((K7 es rows).1.map _).length
  rw [ag];exact W.len
 ·show 0<((K7 es rows).1.map _).length
  rw [ag]
  obtain⟨h,_⟩:=aF.mp W.zero;exact h
 ·obtain⟨k,_,rfl⟩:=e7 r hr;rfl
 ·show x<((K7 es rows).1.map _).length
  rw [ag]
  obtain⟨k,hk,rfl⟩:=e7 r hr
  obtain⟨c,hc,rfl⟩:=aj.mp hx
  exact aO.mpr (W.mem k hk c hc)
theorem Q2g {es:List Bool}{rows:List (List Nat)} (w:Wf es rows):(E6 es rows).1.length<=es.length:=by
 have W:=Q4d w
 have h:=W.nd.length_le_of_subset fun x hx=>W.sub x hx
 rw [(Z4p w).len]at h
 show((K7 es rows).1.map _).length<=_
 rw [ag];exact h
theorem Y9w {S:List (Nat×Nat)}{x n y:Nat}:G9 (L6 S x n) y=if y∈S.map (·.1)then G9 S y else if y=x then some n else none:=by
 have hn:∀{S:List (Nat×Nat)}{y:Nat},y∉S.map (·.1)->S.find? (fun q=>decide (q.1=y))=none:=fun {S y} h=>by
  rw [List.find?_eq_none]
  intro q hq z
  exact h (aj.mpr ⟨q,hq,eT z⟩)
 have hs:∀{S:List (Nat×Nat)}{y:Nat},y∈S.map (·.1)->(S.find? (fun q=>decide (q.1=y))).isSome=true:=fun {S y} h=>by
  rw [List.find?_isSome]
  obtain⟨q,hq,rfl⟩:=aj.mp h
  exact⟨q,hq,by simp⟩
 unfold L6 G9
 by_cases hx:x∈S.map (·.1)
 ·rw [aM hx]
  by_cases hy:y∈S.map (·.1)
  ·rw [aM hy]
  ·rw [aI hy,hn hy,aI (fun z:y=x=>hy (z ▸ hx))];rfl
 ·rw [aI hx,List.find?_append]
  by_cases hy:y∈S.map (·.1)
  ·rw [aM hy]
   have:=hs hy
   cases e:S.find? (fun q=>decide (q.1=y))with
   | none=>rw [e]at this;cases this
   | some q=>rfl
  ·rw [aI hy,hn hy]
   by_cases e:y=x
   ·subst e;simp
   ·rw [aI e]
    have:¬ x=y:=fun z=>e z.symm
    simp [this]
theorem Z2o {S:List (Nat×Nat)}{x n y:Nat}:y∈(L6 S x n).map (·.1) ↔ y∈S.map (·.1)\/y=x:=by
 unfold L6;split
 ·rename_i h
  constructor
  ·exact .inl
  ·rintro (h' | rfl) <;> assumption
 ·simp
theorem Y2t:∀(b:List Nat) (n:Nat) (S:List (Nat×Nat)) (x:Nat),G9 (Q0j n b S) x=if x∈S.map (·.1)then G9 S x else if x∈b then some (n+b.idxOf x)else none
 | [],n,S,x=>by
  rw [Q0j]
  by_cases h:x∈S.map (·.1)
  ·rw [aM h]
  ·rw [aI h,aI (by simp)]
   unfold G9
   rw [List.find?_eq_none.mpr]
   ·rfl
   ·intro q hq z
    exact h (aj.mpr ⟨q,hq,eT z⟩)
 | y::b,n,S,x=>by
  rw [Q0j,Y2t b,Y9w]
  by_cases h:x∈S.map (·.1)
  ·rw [aM h,aM (Z2o.mpr (.inl h)),aM h]
  ·by_cases e:x=y
   ·subst e
    rw [aM (Z2o.mpr (.inr rfl))]
    simp [h]
   ·have n1:¬ x∈(L6 S y n).map (·.1):=fun z=>by
     rcases Z2o.mp z with z | z
     ·exact h z
     ·exact e z
    have e':(y==x)=false:=by simpa using fun z=>e z.symm
    rw [aI n1,aI h]
    by_cases hb:x∈b
    ·rw [aM hb,aM (by simp [hb]),List.idxOf_cons,e']
     simp;omega
    ·rw [aI hb,aI (by simp [hb,e])]
theorem Y2u {b:List Nat}{x:Nat} (h:x∈b):D8 (kR (Q0j 0 b [])) (ik x)=some (iD (b.idxOf x)):=by
 have:=Y4t (Q0j 0 b []) x
 rw [Y2t,aI (by simp),aM h,Nat.zero_add]at this
 cases e:D8 (kR (Q0j 0 b [])) (ik x)with
 | none=>rw [e]at this;cases this
 | some d=>rw [e]at this;exact congrArg some this
theorem Y6c (S:List (Nat×Nat)) (x n:Nat):(L6 S x n).length<=S.length+1:=by unfold L6;split <;> simp
theorem forS {E:G8}{o0 o1 o2 o6 o7:Option Sl}:∀(b:List Nat) (n:Nat) (S:List (Nat×Nat)) (o4 o5:Option Sl),S.length+b.length<=1000000 ->
  (∀o4 o5,E.nx [o0,o1,o2,some (.dk (kR (Q0j n b S))),o4,o5,o6,o7]) ->
  F6 (gTp 2 (G7 (C0 4) (G7 (C0 5) gNl))) (Q9v 3 (wV 5) (wV 4)) E ((b.zipIdx n).map fun p=>.tup [.int (p.2:Int),iD p.1]) [o0,o1,o2,some (.dk (kR S)),o4,o5,o6,o7]
 | [],n,S,o4,o5,_,h=>h o4 o5
 | x::b,n,S,o4,o5,hz,h=>by
  rw [aK]at hz
  have hl:=Y6c S x n
  have ih:=forS (E:=E) (o0:=o0) (o1:=o1) (o2:=o2) (o6:=o6) (o7:=o7) b (n+1) (L6 S x n) (some (.dat (iD n))) (some (.dat (iD x))) (by omega) h
  rw [cn,ar,F6]
  simp only [Q2l,Q2j,U9,Q2k,W5q,C1]
  refine⟨_,rfl,rfl,_,_,rfl,_,_,rfl,rfl,_,rfl,_,rfl,iD x,ik x,rfl,rfl,_,rfl,_,rfl,szl (by simp [K3];omega),?_⟩
  rw [Z9n]
  unfold L6 at ih
  by_cases hx:x∈S.map (·.1)
  ·rw [aM hx]at ih
   rw [aM (by simpa using hx)]
   exact ih
  ·rw [aI hx]at ih
   rw [aI (by simpa using hx)]
   have e:kR S++[(ik x,iD n)]=kR (S++[(x,n)]):=by simp [K3]
   show F6 _ _ _ _ [_,_,_,some (.dk (kR S++[(ik x,iD n)])),_,_,_,_]
   rw [e]
   exact ih
theorem L5.ix {ra:R}{es:List Bool} (h:L5 ra es) {i:Nat} (hi:i<es.length) {Q:R->Prop} (q:Q (.st (.bl (es.getD i false)))):F1 ra (.st (.int (i:Int))) Q:=by
 have e:K6 (es.map D.bl) (i:Int)=some (.bl (es.getD i false)):=X4 (by rw [ah,am,ac hi];rfl)
 rcases h with rfl | rfl
 ·rw [Q6b];exact⟨_,e,q⟩
 ·rw [Z2x];exact⟨_,e,q⟩
theorem L5.bor {ra:R}{es:List Bool} (h:L5 ra es):Q5i (O5 ra)=some (O5 ra):=by rcases h with rfl | rfl <;> rfl
theorem Y0a {b:List Nat}{i:Nat} (h:i<b.length) {Q:R->Prop} (q:Q (.st (iD (b.getD i 0)))):F1 (.st (.lst (b.map iD))) (.st (.int (i:Int))) Q:=by
 rw [Z2w]
 exact⟨_,X4 (by rw [ah,am,ac h];rfl),q⟩
noncomputable def sp_least:E2:=fun rs Pr=>∃ra es rows d,rs=[ra,.st d]/\RwD d rows/\L5 ra es/\Wf es rows/\es.length<=20000/\Pr (.st (mD (E6 es rows)))
theorem Z2t:T6 sp_least:=by rintro rs P Q f ⟨ra,es,rows,d,e,h0,h1,h2,h3,h4⟩;exact⟨ra,es,rows,d,e,h0,h1,h2,h3,f _ h4⟩
theorem Y9i {K:Fg9}{a:Addr}{es:List Bool}{rows:List (List Nat)} (w:Wf es rows) {dr:D} (gt:RwD dr rows) {b:List Nat} (hb:b.length=es.length) {x c:Nat} (hx:x∈b) (hc:c∈B9) :
  L8 (Q9x K) [.cl a (N5 K a (kR (Q0j 0 b []))),.dat dr,.dat (.lst (b.map iD))] [.st (iD x),.st (iD c)] (.st (iD (Q0e rows b x c))):=by
 have hi:b.idxOf x<es.length:=by rw [<- hb];exact aO.mpr hx
 obtain⟨r,_,_,h3⟩:=w.row hi
 refine⟨[iD x,iD c],iD (Q0e rows b x c),rfl,rfl,?_⟩
 unfold Q9x
 simp only [J5,C1,Y2l]
 refine⟨_,rfl,_,rfl,a,_,rfl,_,rfl,iD x,ik x,_,rfl,rfl,Y2u hx,?_⟩
 obtain⟨r,h1,h2,h3⟩:=w.row hi
 rw [Q8]
 refine gt.ix h1 ⟨_,rfl,?_⟩
 rw [Q8,Z2x]
 refine⟨iD (D7 rows (b.idxOf x) c),X4 (by rw [ah,(h3 c (Z2 hc)).1];rfl),?_⟩
 exact Y0a (by rw [hb];exact(h3 c (Z2 hc)).2) rfl
theorem W4f {FC:C4}{K:Fg9}:∀rs Pr,rs.length=2->sp_least rs Pr->Z5w FC K sp_told_apart (sp_walkedK FC) (P3 Pr) (E7 Z0j rs):=by
 rintro rs Pr _ ⟨ra,es,rows,dr,rfl,gt,ha,wf,hl,h⟩
 have B:=Z4p wf
 have W:=Q4d wf
 have jy:0<(E8 es rows).length:=by rw [B.len];exact wf.pos
 unfold Z5w
 simp only [G3,O4,G2,S6,D4,C1,C7,W5o,W5h,Q1o,W5i,Q8u,W5f,J5,J9,S7,s_tup,L0,Q0y,Q6g,Q2l,Q2j,U9,Q2k]
 refine⟨_,rfl,_,rfl,?_,ra,es,rows,dr,?_,gt,ha,wf,hl,?_⟩
 ·show(N7 (rdS (O5 ra))&&true)=true
  rw [ha.rd,ha.arg];rfl
 ·show [nrm (rdS (O5 ra)),_]=_
  rw [ha.rd,ha.nrm];rfl
 refine⟨_,rfl,_,rfl,?_⟩
 have e3:J4 ((E8 es rows).map iD)=((E8 es rows).zipIdx 0).map fun p=>.tup [.int (p.2:Int),iD p.1]:=by
  unfold J4;rw [List.zipIdx_map,aQ];rfl
 rw [e3]
 refine forS (E8 es rows) 0 [] none none (by simp [B.len];omega) fun o4 o5=>?_
 refine⟨_,rfl,fun a=>?_⟩
 refine⟨_,rfl,?_⟩
 rw [Q8]
 refine Y0a (i:=0) jy ?_
 refine⟨rfl,_,⟨_,_,rfl,rfl,N5.hid,_,_,rfl,rfl,trivial,_,_,rfl,rfl,trivial,rfl⟩,fun f Φ hF=>?_⟩
 refine⟨_,⟨Nat,inferInstance,iD,ik,Q0e rows (E8 es rows),(E8 es rows).getD 0 0,E8 es rows,f,Φ,_,fun _=>rfl,Q2y,rfl,hF,Q1i jy,by rw [B.len];omega,fun k hk c hc=>⟨Y0b wf B.len hk hc,Y9i wf gt B.len hk hc⟩,rfl⟩,?_⟩
 have eW:Y4 (E8 es rows).length (Q0e rows (E8 es rows)) ((E8 es rows).getD 0 0)=K7 es rows:=by unfold K7;rw [B.len]
 rw [eW]
 refine⟨_,rfl,_,rfl,rfl,_,_,rfl,_,_,rfl,rfl,_,rfl,_,rfl,?_,?_⟩
 ·have fB:=Q2g wf
  have:(E6 es rows).1.length=(K7 es rows).1.length:=by simp [E6]
  exact sz (by rw [ag];omega)
 show N8 (C0 0) T2 _ _ [none,Q5i (O5 ra),some (.cl a (N5 K a (kR (Q0j 0 (E8 es rows) []))))] _
 rw [ha.bor]
 refine Q1h (f:=fun d=>match d with | .int i=>.bl (es.getD ((E8 es rows).idxOf i.toNat) false) | d=>d) (rest:=[some (O5 ra),some (.cl a (N5 K a (kR (Q0j 0 (E8 es rows) []))))]) _ _ _ (fun d hd Q' q=>?_) ?_
 ·obtain⟨x,hx,rfl⟩:=aj.mp hd
  have n8:=W.sub x hx
  simp only [G2,J5,C1,Y2l]
  refine⟨_,rfl,a,_,rfl,_,rfl,iD x,ik x,_,rfl,rfl,Y2u n8,?_⟩
  rw [ha.rd]
  exact ha.ix (by rw [<- B.len];exact aO.mpr n8) (by simpa using q)
 ·rw [Q1m]
  refine⟨_,rfl,_,rfl,_,rfl,sz (by simp),?_⟩
  have e:((K7 es rows).1.map fun a=>iD a).map (fun d=>match d with | .int i=>D.bl (es.getD ((E8 es rows).idxOf i.toNat) false) | d=>d)=(E6 es rows).1.map .bl:=by
   unfold E6
   rw [aQ,aQ]
   exact bB fun x _=>by simp
  show Pr (.st (.tup [.tup _,_]))
  rw [e]
  exact h
section
variable {α:Type} [DecidableEq α]
noncomputable def Q5k (U:List α) (step:α->Nat->α) (start:α) (fin:α->Bool):C5:=((Y4 U.length step start).1.map fin,(Y4 U.length step start).2)
noncomputable def Z7x (U:List α) (step:α->Nat->α) (start:α) (fin:α->Bool):C5:=E6 (Q5k U step start fin).1 (Q5k U step start fin).2
theorem Q1d.wf {step:α->Nat->α}{start:α}{U ks:List α}{rs:List (List Nat)} (W:Q1d step start U ks rs) (fin:α->Bool):Wf (ks.map fin) rs:=by
 have e7:∀r∈rs,∃k∈ks,r=B9.map fun c=>ks.idxOf (step k c):=fun r hr=>by
  obtain⟨i,hi,rfl⟩:=bu.mp hr
  have fm:i<ks.length:=by rw [<- W.len];exact hi
  have:=W.row i _ (ac fm)
  rw [ac hi]at this
  exact⟨_,b9 fm,ay this⟩
 refine⟨by rw [ag];exact W.len,?_,fun r hr=>?_,fun r hr x hx=>?_⟩
 ·rw [ag]
  obtain⟨h,_⟩:=aF.mp W.zero;exact h
 ·obtain⟨k,_,rfl⟩:=e7 r hr;rfl
 ·rw [ag]
  obtain⟨k,hk,rfl⟩:=e7 r hr
  obtain⟨c,hc,rfl⟩:=aj.mp hx
  exact aO.mpr (W.mem k hk c hc)
theorem Q1d.le {step:α->Nat->α}{start:α}{U ks:List α}{rs:List (List Nat)} (W:Q1d step start U ks rs):ks.length<=U.length:=W.nd.length_le_of_subset fun x hx=>W.sub x hx
end
noncomputable def sp_built (FC:C4):E2:=fun rs Pr=>∃(α:Type) (_:DecidableEq α) (ts:α->List D) (key:α->List B0) (step:α->Nat->α) (start:α) (fin:α->Bool) (U:List α) (f f2:Addr) (Φ Φ2:Hp->Prop) (sp dC:D6),
 (∀a,Q6 (ts a)=some (key a))/\(∀a b,key a=key b->a=b)/\rs=[.st (.tup (ts start)),.cl f Φ,.cl f2 Φ2]/\FC 2 f Φ sp/\FC 1 f2 Φ2 dC/\start∈U/\U.length<=20000/\(∀k∈U,∀c∈B9,step k c∈U/\sp [.st (.tup (ts k)),.st (iD c)] (.st (.tup (ts (step k c))))) /\
 (∀k∈U,dC [.st (.tup (ts k))] (.st (.bl (fin k))))/\Pr (.st (mD (Z7x U step start fin)))
theorem W0k {FC:C4}:T6 (sp_built FC):=by rintro rs P Q g ⟨α,i,ts,key,step,jn,fin,U,f,f2,Φ,Φ2,sp,dC,h1,h2,h3,h4,h5,h6,h7,h8,h9,qZ⟩;exact⟨α,i,ts,key,step,jn,fin,U,f,f2,Φ,Φ2,sp,dC,h1,h2,h3,h4,h5,h6,h7,h8,h9,g _ qZ⟩
theorem Z8h {α:Type}{FC:C4}{f2:Addr} {Φ2:Hp->Prop}{dC:D6}{ts:α->List D}{fin:α->Bool} (hF:FC 1 f2 Φ2 dC) {Q:List D->Prop}:∀(ks:List α) (o:Option Sl),(∀k∈ks,dC [.st (.tup (ts k))] (.st (.bl (fin k))))->Q ((ks.map fin).map .bl) ->
  N8 (C0 0) T2 (B3 (Y3 FC 1 1 (A0 (wV 0) A2))) (ks.map fun a=>.tup (ts a)) [o,some (.cl f2 Φ2)] Q
 | [],o,_,h=>h
 | k::ks,o,hs,h=>by
  rw [ar,N8]
  simp only [U9,W6e,G2,Q4m,D4,C1,C7,if_true]
  refine⟨f2,Φ2,dC,rfl,hF,_,rfl,rfl,_,hs k (by simp),_,rfl,?_⟩
  exact Z8h hF ks _ (fun k h=>hs k (by simp [h])) h
theorem W3v {FC:C4}:∀rs Pr,rs.length=3->sp_built FC rs Pr->Z5n FC (sp_walked FC) sp_least (P3 Pr) (E7 Z0h rs):=by
 rintro rs Pr _ ⟨α,_,ts,key,step,start,fin,U,f,f2,Φ,Φ2,sp,dC,hk,inj,rfl,hF,gX,hs,hl,hU,jT,h⟩
 have W:=Q3l (step:=step) (N:=U.length) (fun k h c hc=>(hU k h c hc).1) hs (ai _)
 have fB:=W.le
 unfold Z5n
 simp only [G3,Q8u,Q0i,D4,C1,C7,S7,S6,Q0y,Q6g,Q2l,Q2j,U9,Q2k]
 refine⟨_,rfl,_,rfl,rfl,_,⟨α,inferInstance,ts,key,step,start,U,f,Φ,sp,hk,inj,rfl,hF,hs,by omega,hU,rfl⟩,?_⟩
 refine⟨_,rfl,_,rfl,rfl,_,_,rfl,_,_,rfl,rfl,_,rfl,_,rfl,sz (by rw [ag];omega),?_⟩
 refine Z8h (fin:=fin) gX _ none (fun k hk=>jT k (W.sub k hk)) ?_
 refine⟨_,rfl,rfl,_,_,_,_,rfl,.inl rfl,.inl rfl,W.wf fin,by rw [ag];omega,h⟩
noncomputable abbrev pT (p:Nat×Nat):List D:=[iD p.1,iD p.2]
noncomputable abbrev pK (p:Nat×Nat):List B0:=[ik p.1,ik p.2]
theorem Y1j (a b:Nat×Nat) (h:pK a=pK b):a=b:=by
 have h1:=(List.cons.inj h).1
 have h2:=(List.cons.inj (List.cons.inj h).2).1
 exact Prod.ext (Q2y _ _ h1) (Q2y _ _ h2)
noncomputable def X1 (m1 m2:C5) (p:Nat×Nat) (c:Nat):Nat×Nat:=(D7 m1.2 p.1 c,D7 m2.2 p.2 c)
noncomputable def Q0w (g:Bool->Bool->Bool) (m1 m2:C5) (p:Nat×Nat):Bool:=g (m1.1.getD p.1 false) (m2.1.getD p.2 false)
noncomputable def Q6d (n1 n2:Nat):List (Nat×Nat):=(List.range n1).flatMap fun i=>(List.range n2).map fun j=>(i,j)
theorem Q5v {n1 n2:Nat}{p:Nat×Nat}:p∈Q6d n1 n2 ↔ p.1<n1/\p.2<n2:=by
 unfold Q6d
 simp only [List.mem_flatMap,bL,aj]
 constructor
 ·rintro ⟨i,hi,j,hj,rfl⟩;exact⟨hi,hj⟩
 ·rintro ⟨h1,h2⟩;exact⟨p.1,h1,p.2,h2,rfl⟩
theorem Z3c (n1 n2:Nat):(Q6d n1 n2).length=n1*n2:=by
 have:∀(l:List Nat),(l.map fun _=>n2).sum=l.length*n2:=by
  intro l;induction l with
  | nil=>simp
  | cons a l ih=>rw [ar,List.sum_cons,ih,aK,Nat.succ_mul];omega
 simp [Q6d,List.length_flatMap,this]
noncomputable def PU (m1 m2:C5):List (Nat×Nat):=Q6d m1.1.length m2.1.length
theorem Q2i {m1 m2:C5} (w1:D9 m1) (w2:D9 m2) {p:Nat×Nat} (h:p∈PU m1 m2) {c:Nat} (hc:c∈B9):X1 m1 m2 p c∈PU m1 m2:=by
 obtain⟨h1,h2⟩:=Q5v.mp h
 obtain⟨_,_,_,g1⟩:=w1.row h1
 obtain⟨_,_,_,g2⟩:=w2.row h2
 exact Q5v.mpr ⟨(g1 c (Z2 hc)).2,(g2 c (Z2 hc)).2⟩
def Z7g (m1 m2:C5) (sp:D6):Prop:=∀p∈PU m1 m2,∀c∈B9,sp [.st (.tup (pT p)),.st (iD c)] (.st (.tup (pT (X1 m1 m2 p c))))
def EndP (g:Bool->Bool->Bool) (m1 m2:C5) (sp:D6):Prop:=∀p∈PU m1 m2,sp [.st (.tup (pT p))] (.st (.bl (Q0w g m1 m2 p)))
def Q0o (g:Bool->Bool->Bool) (sp:D6):Prop:=∀x y:Bool,sp [.st (.bl x),.st (.bl y)] (.st (.bl (g x y)))
noncomputable def sp_pair_step (FC:C4):E2:=fun rs Pr=>∃m1 m2,rs=[.st (mD m1),.st (mD m2)]/\D9 m1/\D9 m2/\∀f Φ sp,FC 2 f Φ sp->Z7g m1 m2 sp->Pr (.cl f Φ)
theorem Y0t {FC:C4}:T6 (sp_pair_step FC):=by rintro rs P Q g ⟨m1,m2,e,h1,h2,h3⟩;exact⟨m1,m2,e,h1,h2,fun f Φ sp a b=>g _ (h3 f Φ sp a b)⟩
noncomputable def sp_pair_end (cb cy:C4):E2:=fun rs Pr=>∃m1 m2 f Φ sp g,rs=[.st (mD m1),.st (mD m2),.cl f Φ]/\D9 m1/\D9 m2/\cb 2 f Φ sp/\Q1b Φ/\Q0o g sp/\∀f' Φ' iB,cy 1 f' Φ' iB->EndP g m1 m2 iB->Pr (.cl f' Φ')
theorem Y0s {cb cy:C4}:T6 (sp_pair_end cb cy):=by rintro rs P Q q ⟨m1,m2,f,Φ,sp,g,e,h1,h2,h3,h4,h5,h6⟩;exact⟨m1,m2,f,Φ,sp,g,e,h1,h2,h3,h4,h5,fun f' Φ' iB a b=>q _ (h6 f' Φ' iB a b)⟩
theorem X2 {b:List D}{i:Nat}{d:D} (h:b[i]?=some d) {Q:R->Prop} (q:Q (.st d)):F1 (.st (.tup b)) (.st (.int (i:Int))) Q:=by
 rw [Z2x];exact⟨_,X4 h,q⟩
theorem Y9k {m1 m2:C5} (w1:D9 m1) (w2:D9 m2):Z7g m1 m2 (L8 Q9z [.dat (rsD m1.2),.dat (rsD m2.2)]):=by
 rintro ⟨i,j⟩ hp c hc
 obtain⟨h1,h2⟩:=Q5v.mp hp
 refine⟨[.tup (pT (i,j)),iD c],_,rfl,rfl,?_⟩
 unfold Q9z
 simp only [s_tup,D4,G2,J5,C1,J9,C7]
 refine⟨_,rfl,_,rfl,X2 (i:=0) rfl ?_⟩
 obtain⟨r,g1,_,g2⟩:=w1.row h1
 refine X2 (i:=i) (d:=rD r) (by rw [ah,g1];rfl) ⟨_,rfl,?_⟩
 refine X2 (i:=c) (d:=iD (D7 m1.2 i c)) (by rw [ah,(g2 c (Z2 hc)).1];rfl) ?_
 refine⟨_,rfl,_,rfl,X2 (i:=1) rfl ?_⟩
 obtain⟨r,g1,_,g2⟩:=w2.row h2
 refine X2 (i:=j) (d:=rD r) (by rw [ah,g1];rfl) ⟨_,rfl,?_⟩
 refine X2 (i:=c) (d:=iD (D7 m2.2 j c)) (by rw [ah,(g2 c (Z2 hc)).1];rfl) ?_
 exact⟨_,rfl,sz (by simp),rfl⟩
theorem W4m {FC:C4}:∀rs Pr,rs.length=2->sp_pair_step FC rs Pr->Q4y FC 2 [("rows",2),("other_rows",3)] Q9z Z4t Z4u Pr (E7 Z7a rs):=by
 rintro rs Pr _ ⟨m1,m2,rfl,w1,w2,h⟩
 unfold Q4y Z4t Z4u
 simp only [O4,J5,C1,J9]
 refine⟨_,rfl,X2 (i:=1) rfl ?_⟩
 rw [Q2]
 refine⟨_,rfl,X2 (i:=1) rfl ?_⟩
 rw [Q2]
 exact⟨_,⟨_,_,rfl,rfl,trivial,_,_,rfl,rfl,trivial,rfl⟩,fun f Φ hF=>h f Φ _ hF (Y9k w1 w2)⟩
theorem Z7t {es:List Bool}{i:Nat} (h:i<es.length):(es.map D.bl)[i]?=some (.bl (es.getD i false)):=by
 rw [ah,am,ac h];rfl
theorem Y9j {cb:C4}{m1 m2:C5}{f:Addr} {Φ:Hp->Prop}{sp:D6}{g:Bool->Bool->Bool} (hF:cb 2 f Φ sp) (ht:Q0o g sp):EndP g m1 m2 (L8 (Q9y cb) [.dat (.tup (m2.1.map .bl)),.cl f Φ,.dat (.tup (m1.1.map .bl))]):=by
 rintro ⟨i,j⟩ hp
 obtain⟨h1,h2⟩:=Q5v.mp hp
 refine⟨[.tup (pT (i,j))],_,rfl,rfl,?_⟩
 unfold Q9y
 simp only [Q4m,D4,J5,C1,J9,C7]
 refine⟨f,Φ,sp,rfl,hF,_,rfl,_,rfl,X2 (i:=0) rfl ?_⟩
 refine X2 (i:=i) (Z7t h1) ?_
 refine⟨_,rfl,_,rfl,X2 (i:=1) rfl ?_⟩
 refine X2 (i:=j) (Z7t h2) ?_
 exact⟨rfl,_,ht _ _,rfl⟩
theorem W4l {cb cy:C4}:∀rs Pr,rs.length=3->sp_pair_end cb cy rs Pr->Q4y cy 1 [("other_ends",4),("is_end",2),("ends",3)] (Q9y cb) Z4s w2_pair_end Pr (E7 Z6z rs):=by
 rintro rs Pr _ ⟨m1,m2,f,Φ,sp,g,rfl,w1,w2,hF,hH,ht,h⟩
 unfold Q4y Z4s w2_pair_end
 simp only [O4,J5,C1,J9]
 refine⟨_,rfl,X2 (i:=0) rfl ?_⟩
 rw [Q2]
 refine⟨_,rfl,X2 (i:=0) rfl ?_⟩
 rw [Q2]
 exact⟨_,⟨_,_,rfl,rfl,trivial,_,_,rfl,rfl,hH,_,_,rfl,rfl,trivial,rfl⟩,fun f' Φ' hF'=>h f' Φ' _ hF' (Y9j hF ht)⟩
noncomputable def Z7 (g:Bool->Bool->Bool) (m1 m2:C5):C5:=Z7x (PU m1 m2) (X1 m1 m2) (0,0) (Q0w g m1 m2)
noncomputable def Q0z (cb:C4):E2:=fun rs Pr=>∃m1 m2 f Φ sp g,rs=[.st (mD m1),.st (mD m2),.cl f Φ]/\D9 m1/\D9 m2/\m1.1.length*m2.1.length<=20000/\cb 2 f Φ sp/\Q1b Φ/\Q0o g sp/\Pr (.st (mD (Z7 g m1 m2)))
theorem Z2u {cb:C4}:T6 (Q0z cb):=by rintro rs P Q q ⟨m1,m2,f,Φ,sp,g,e,h1,h2,h3,h4,h5,h6,h7⟩;exact⟨m1,m2,f,Φ,sp,g,e,h1,h2,h3,h4,h5,h6,q _ h7⟩
theorem Q2p {m1 m2:C5} (w1:D9 m1) (w2:D9 m2):(0,0)∈PU m1 m2:=Q5v.mpr ⟨w1.pos,w2.pos⟩
theorem W6m {g:Bool->Bool->Bool}{m1 m2:C5} (w1:D9 m1) (w2:D9 m2):D9 (Z7 g m1 m2) :=
 Z2a ((Q3l (step:=X1 m1 m2) (N:=(PU m1 m2).length) (fun k h c hc=>Q2i w1 w2 h hc) (Q2p w1 w2) (ai _)).wf _)
theorem W6l {g:Bool->Bool->Bool}{m1 m2:C5} (w1:D9 m1) (w2:D9 m2):(Z7 g m1 m2).1.length<=m1.1.length*m2.1.length:=by
 have W:=Q3l (step:=X1 m1 m2) (N:=(PU m1 m2).length) (fun k h c hc=>Q2i w1 w2 h hc) (Q2p w1 w2) (ai _)
 have h1:=Q2g (W.wf (Q0w g m1 m2))
 have h2:=W.le
 rw [ag]at h1
 have h3:(PU m1 m2).length=m1.1.length*m2.1.length:=Z3c _ _
 exact aX h1 (h3 ▸ h2)
theorem W4o {cb cy:C4}:∀rs Pr,rs.length=3->Q0z cb rs Pr->Z6b (sp_built cy) (sp_pair_step cy) (sp_pair_end cb cy) (P3 Pr) (E7 Z7c rs):=by
 rintro rs Pr _ ⟨m1,m2,f,Φ,sp,g,rfl,w1,w2,hl,hF,hH,ht,h⟩
 unfold Z6b
 simp only [S7,S6,D4,s_tup,G2,J9,C7,C1]
 refine⟨_,rfl,sz (by simp),_,rfl,_,rfl,rfl,m1,m2,rfl,w1,w2,fun f1 Φ1 sp1 m7 jv=>?_⟩
 refine⟨_,rfl,_,rfl,_,rfl,rfl,m1,m2,f,Φ,sp,g,rfl,w1,w2,hF,hH,ht,fun f2 Φ2 dC gX iQ=>?_⟩
 refine⟨rfl,Nat×Nat,inferInstance,pT,pK,X1 m1 m2,(0,0),Q0w g m1 m2,PU m1 m2,f1,f2,Φ1,Φ2,sp1,dC,fun _=>rfl,Y1j,rfl,m7,gX,Q2p w1 w2,by unfold PU;rw [Z3c];exact hl,fun k hk c hc=>⟨Q2i w1 w2 hk hc,jv k hk c hc⟩,iQ,h⟩
noncomputable abbrev sD:Option Str->D
 | none=>.non
 | some t=>.str t
noncomputable abbrev U6:List (Nat×Str):=[(0,"0"),(1,"1"),(2,"a"),(3,"b")]
theorem enm4:J4 (T0 "01ab")=U6.map fun p=>.tup [.int (p.1:Int),.str p.2]:=rfl
section
variable {α:Type} [DecidableEq α]
noncomputable def Z1 (T:List (α×Str)) (g:α) (t:Str):List (α×Str):=if g∈T.map (·.1)then T else T++[(g,t)]
noncomputable def goT (st:Nat->α) (t:Str):List (Nat×Str)->List (α×Str)->List (α×Str)
 | [],T=>T
 | c::cs,T=>goT st t cs (Z1 T (st c.1) (t++c.2))
noncomputable def ftN (step:α->Nat->α) (fin:α->Bool):Nat->List (α×Str)->Nat->Option Str
 | 0,_,_=>none
 | n+1,T,p=>match T[p]? with
  | none=>none
  | some q=>if fin q.1 then some q.2 else ftN step fin n (goT (step q.1) q.2 U6 T) (p+1)
noncomputable def Q2a (n:Nat) (step:α->Nat->α) (start:α) (fin:α->Bool):Option Str:=ftN step fin n [(start,"")] 0
structure V4 (U:List α) (T:List (α×Str)):Prop where
 nd:(T.map (·.1)).Nodup
 sub:∀q∈T,q.1∈U
 len:∀q∈T,q.2.length<T.length
theorem V4.bound {U:List α}{T:List (α×Str)} (h:V4 U T):T.length<=U.length:=by
 have:=h.nd.length_le_of_subset fun x hx=>by
  obtain⟨q,hq,rfl⟩:=aj.mp hx
  exact h.sub q hq
 simpa using this
theorem Z0s (T:List (α×Str)) (g:α) (t:Str):T <+: Z1 T g t:=by
 unfold Z1;split
 ·exact bt _
 ·exact dQ _ _
theorem V4.add {U:List α}{T:List (α×Str)} (h:V4 U T) {g k:α}{t s:Str} (hg:g∈U) (hk:(k,t)∈T) (hs:s.length=1):V4 U (Z1 T g (t++s)):=by
 unfold Z1;split
 ·exact h
 ·rename_i n
  have hl:=h.len _ hk
  refine⟨?_,fun q hq=>?_,fun q hq=>?_⟩
  ·rw [cF,ba]
   exact⟨h.nd,by simp,fun a ha b hb=>by
    simp at hb;rintro rfl;exact n (hb ▸ ha)⟩
  ·rcases aN.mp hq with hq | hq
   ·exact h.sub q hq
   ·rw [aD.mp hq];exact hg
  ·rw [aE,bG]
   rcases aN.mp hq with hq | hq
   ·have:=h.len q hq;omega
   ·rw [aD.mp hq]
    show(t++s).length<_
    rw [PySem.Str.length_append,hs]
    have hl:t.length<T.length:=hl
    omega
theorem V4.go {U:List α}{st:Nat->α}{k:α}{t:Str}:∀(cs:List (Nat×Str)) (T:List (α×Str)),V4 U T->(k,t)∈T->(∀c∈cs,st c.1∈U/\c.2.length=1)->V4 U (goT st t cs T)
 | [],T,h,_,_=>h
 | c::cs,T,h,hk,hc=>V4.go cs _ (h.add (hc c (by simp)).1 hk (hc c (by simp)).2) ((Z0s _ _ _).subset hk) fun c' h'=>hc c' (by simp [h'])
theorem Q1w {c:Nat×Str} (h:c∈U6):c.1∈B9/\c.2.length=1:=by
 simp only [U6,ao,aT,bK]at h
 rcases h with rfl | rfl | rfl | rfl <;> exact⟨by decide,rfl⟩
section T
variable {FC:C4}{f f2:Addr} {Φ Φ2:Hp->Prop}{sp dC:D6}{step:α->Nat->α}{fin:α->Bool}{ts:α->List D}{key:α->List B0}
noncomputable abbrev tT (key:α->List B0) (T:List (α×Str)):List (List B0×D):=K3 key (T.map fun q=>(q.1,.str q.2))
theorem Z4o (T:List (α×Str)):(T.map fun q=>(q.1,D.str q.2)).map (·.1)=T.map (·.1):=by simp
theorem Y4h (inj:∀a b,key a=key b->a=b) {T:List (α×Str)} (nd:(T.map (·.1)).Nodup) {k:α}{t:Str} (h:(k,t)∈T):D8 (tT key T) (key k)=some (.str t):=by
 rw [Q1j inj]
 exact Y4q (by rw [Z4o];exact nd) (aj.mpr ⟨_,h,rfl⟩)
def wbF (cy:C4):WS:=(B1 (C8 9 (Y3 cy 2 1 (A0 (wV 6) (A0 (wV 7) A2)))) (O6 (Q4t 4 (wV 9)) (B1 (Q4u 4 (wV 9) (A7 K5 (Q2n 4 (wV 6)) (wV 8))) (Q4 3 (B3 (wV 9)))) O7))
theorem forF (hk:∀a,Q6 (ts a)=some (key a)) (inj:∀a b,key a=key b->a=b) (hF:FC 2 f Φ sp) {U:List α} (hl:U.length<=100000) {k:α}{t:Str}{E:G8}{o0 o2 o5:Option Sl}:∀(cs:List (Nat×Str)) (T:List (α×Str)) (o7 o8 o9:Option Sl),
  V4 U T->(k,t)∈T->(∀c∈cs,(step k c.1∈U/\c.2.length=1)/\sp [.st (.tup (ts k)),.st (iD c.1)] (.st (.tup (ts (step k c.1))))) ->
  (∀o7 o8 o9,E.nx [o0,some (.cl f Φ),o2,some (.own ((goT (step k) t cs T).map fun q=>.tup (ts q.1))),some (.dt (tT key (goT (step k) t cs T))),o5,some (.dat (.tup (ts k))),o7,o8,o9]) ->
  F6 (gTp 2 (G7 (C0 7) (G7 (C0 8) gNl))) (wbF FC) E (cs.map fun p=>.tup [.int (p.1:Int),.str p.2]) [o0,some (.cl f Φ),o2,some (.own (T.map fun q=>.tup (ts q.1))),some (.dt (tT key T)),o5,some (.dat (.tup (ts k))),o7,o8,o9]
 | [],T,o7,o8,o9,_,_,_,h=>h o7 o8 o9
 | c::cs,T,o7,o8,o9,hI,hkt,hs,h=>by
  obtain⟨⟨hU,h1⟩,jw⟩:=hs c aA
  have b:=hI.bound
  have jW:=hI.add hU hkt h1
  have qo:=(Z0s T (step k c.1) (t++c.2)).subset hkt
  have b2:=jW.bound
  have ih:=forF hk inj hF hl (k:=k) (t:=t) (E:=E) (o0:=o0) (o2:=o2) (o5:=o5) cs
  have bI:=hI.len _ hkt
  have bI:t.length<T.length:=bI
  have hv:=Q1j inj (T.map fun q=>(q.1,D.str q.2)) (step k c.1)
  have hi:(D8 (tT key T) (key (step k c.1))).isSome=decide (step k c.1∈T.map (·.1)):=by rw [hv,Q9o,Z4o]
  rw [ar,F6]
  simp only [wbF,Q2l,Q2j,U9,Q2k,G3,O4,Q4m,D4,C1,C7,Q4n,Y2j,Y2k,Q3i,G2,Q6h,Z3r,J5]
  refine⟨_,rfl,rfl,_,_,rfl,_,_,rfl,rfl,f,Φ,sp,rfl,hF,_,rfl,_,rfl,rfl,_,jw,?_⟩
  rw [Q2]
  refine⟨_,rfl,_,rfl,ts (step k c.1),key (step k c.1),rfl,hk _,?_⟩
  rw [hi]
  by_cases hm:step k c.1∈T.map (·.1)
  ·have ea:Z1 T (step k c.1) (t++c.2)=T:=aM hm
   rw [aI (by simpa using hm)]
   refine ih T _ _ _ hI hkt (fun c' h'=>hs c' (ax _ h')) ?_
   simpa only [goT,ea]using h
  ·have ea:Z1 T (step k c.1) (t++c.2)=T++[(step k c.1,t++c.2)]:=aI hm
   rw [aM (by simpa using hm)]
   refine⟨_,rfl,_,rfl,ts k,key k,_,rfl,hk _,Y4h inj hI.nd hkt,_,rfl,?_⟩
   rw [Q8,W1c]
   refine⟨sz (by rw [h1];omega),_,rfl,_,rfl,_,rfl,ts (step k c.1),key (step k c.1),rfl,hk _,szl (by simp [K3];omega),_,rfl,_,rfl,_,rfl,szl (by simp;omega),?_⟩
   have e1:N4 (tT key T) (key (step k c.1)) (.str (t++c.2))=tT key (Z1 T (step k c.1) (t++c.2)):=by
    rw [Q7x inj (by rw [Z4o];exact hm),ea];simp [tT]
   have e2:(T.map fun q=>D.tup (ts q.1))++[D.tup (ts (step k c.1))]=(Z1 T (step k c.1) (t++c.2)).map fun q=>D.tup (ts q.1):=by rw [ea];simp
   show F6 _ _ _ _ [_,_,_,some (.own ((T.map fun q=>D.tup (ts q.1))++[D.tup (ts (step k c.1))])),some (.dt (N4 (tT key T) (key (step k c.1)) (.str (t++c.2)))),_,_,_,_,_]
   rw [e1,e2]
   exact ih _ _ _ _ jW qo (fun c' h'=>hs c' (ax _ h')) h
def wtF:WT:=(A7 (T8 fun i j=>decide (i<j)) (wV 5) (C3 F2 (A0 (wV 3) A2)))
def wlF (cy:C4):WS:=(B1 (C8 6 (A7 F1 (wV 3) (wV 5))) (B1 (O6 (Z5l (Y3 cy 1 2 (A0 (wV 6) A2))) (G1 (Q2n 4 (wV 6))) O7) (B1 (V1 (Q3x (A0 (wC (.str "01ab")) A2)) (gTp 2 (G7 (C0 7) (G7 (C0 8) gNl))) (wbF cy)) (Q4s 5 (N3 NoC fun i j=>i+j) (wC (.int 1))))))
theorem W8c (hk:∀a,Q6 (ts a)=some (key a)) (inj:∀a b,key a=key b->a=b) (hF:FC 2 f Φ sp) (gX:FC 1 f2 Φ2 dC) {U:List α} (hl:U.length<=100000) {E:G8}{o0:Option Sl}
  (hU:∀k∈U,∀c∈B9,step k c∈U/\sp [.st (.tup (ts k)),.st (iD c)] (.st (.tup (ts (step k c))))) (jT:∀k∈U,dC [.st (.tup (ts k))] (.st (.bl (fin k)))):∀(n:Nat) (T:List (α×Str)) (p:Nat) (o6 o7 o8 o9:Option Sl),V4 U T->U.length<=n+p ->
  (ftN step fin n T p=none->∀ τ,E.nx τ)->(∀t,ftN step fin n T p=some t->E.rt (.st (.str t))) ->
  J6 wtF (wlF FC) (n+1) E [o0,some (.cl f Φ),some (.cl f2 Φ2),some (.own (T.map fun q=>.tup (ts q.1))),some (.dt (tT key T)),some (.dat (iD p)),o6,o7,o8,o9]:=by
 intro n
 induction n with
 | zero =>
  intro T p o6 o7 o8 o9 hI hp h h2
  have b:=hI.bound
  simp only [J6,wtF,J5,L0,D4,C1,C7]
  refine⟨_,rfl,_,rfl,?_⟩
  simp only [Q8,W0,Q0h,Q0v,ag]
  rw [aI (by simp;omega)]
  exact h rfl _
 | succ n ih =>
  intro T p o6 o7 o8 o9 hI hp h h2
  have b:=hI.bound
  rw [J6]
  simp only [wtF,J5,L0,D4,C1,C7]
  refine⟨_,rfl,_,rfl,?_⟩
  simp only [Q8,W0,Q0h,Q0v,ag]
  by_cases bE:p<T.length
  ·rw [aM (by simpa using bE)]
   have dI:T[p]?=some T[p]:=ac bE
   have kin:=b9 bE
   generalize T[p]=q at dI kin
   obtain⟨k,t⟩:=q
   have ky:k∈U:=hI.sub _ kin
   rw [ftN,dI]at h h2
   simp only [wlF,G3,O4,J5,C1,Q4n,W6d,Q4m,D4,C7,S7,Z3r,Q6h,Q1o,Y2o,J9,Y2h]
   refine⟨_,rfl,_,rfl,?_⟩
   rw [W0,Q8,Q6b]
   refine⟨.tup (ts k),X4 (by rw [ah,dI];rfl),f2,Φ2,dC,rfl,gX,_,rfl,rfl,_,jT k ky,?_⟩
   rw [W1i]
   by_cases hf:fin k=true
   ·rw [aM hf]
    have h2:=h2 t (by show(if fin k=true then some t else _)=_;rw [aM hf])
    refine⟨_,rfl,_,rfl,ts k,key k,_,rfl,hk _,Y4h inj hI.nd kin,h2⟩
   ·rw [aI hf]
    simp only [hf]at h h2
    refine .inl ⟨_,rfl,?_⟩
    rw [enm4]
    refine forF hk inj hF hl U6 T _ _ _ hI kin (fun c hc=>⟨⟨(hU k ky c.1 (Q1w hc).1).1,(Q1w hc).2⟩,(hU k ky c.1 (Q1w hc).1).2⟩) fun o7 o8 o9=>?_
    refine⟨_,rfl,trivial,?_⟩
    have e:((p:Int)+1)=((p+1:Nat):Int):=by omega
    show J6 wtF (wlF FC) (n+1) E [_,_,_,_,_,some (.dat (.int ((p:Int)+1))),_,_,_,_]
    rw [e]
    exact ih _ _ _ _ _ _ (V4.go U6 T hI kin fun c hc=>⟨(hU k ky c.1 (Q1w hc).1).1,(Q1w hc).2⟩) (by omega) h h2
  ·rw [aI (by simpa using bE)]
   have e:T[p]?=none:=aC.mpr (by omega)
   exact h (by rw [ftN,e]) _
end T
end
noncomputable def sp_first_text (FC:C4):D6:=fun rs r=>∃(α:Type) (_:DecidableEq α) (ts:α->List D) (key:α->List B0) (step:α->Nat->α) (start:α) (fin:α->Bool) (U:List α) (f f2:Addr) (Φ Φ2:Hp->Prop) (sp dC:D6),
 (∀a,Q6 (ts a)=some (key a))/\(∀a b,key a=key b->a=b)/\rs=[.st (.tup (ts start)),.cl f Φ,.cl f2 Φ2]/\FC 2 f Φ sp/\FC 1 f2 Φ2 dC/\start∈U/\U.length<=100000/\(∀k∈U,∀c∈B9,step k c∈U/\sp [.st (.tup (ts k)),.st (iD c)] (.st (.tup (ts (step k c))))) /\
 (∀k∈U,dC [.st (.tup (ts k))] (.st (.bl (fin k))))/\r=.st (sD (Q2a U.length step start fin))
theorem Y4o {α:Type}{U:List α}{st:α} (h:st∈U):V4 U [(st,("":Str))]:=⟨by simp,fun q hq=>by rw [aD.mp hq];exact h,fun q hq=>by rw [aD.mp hq];show(Str.ofString "").length<1;decide⟩
theorem W4c {FC:C4}:∀rs r,rs.length=3->sp_first_text FC rs r->Z5r FC (Y6 r) (E7 Z6u rs):=by
 rintro rs r _ ⟨α,_,ts,key,step,jn,fin,U,f,f2,Φ,Φ2,sp,dC,hk,inj,rfl,hF,gX,hs,hl,hU,jT,rfl⟩
 unfold Z5r
 simp only [G3,O4,s_lst,D4,G2,C1,C7,Y2i,J9,S7]
 refine⟨_,rfl,_,rfl,sz (by simp),?_⟩
 refine⟨_,rfl,ts jn,key jn,rfl,hk _,_,rfl,?_⟩
 rw [Q2]
 refine⟨U.length+1,?_⟩
 refine W8c hk inj hF gX hl hU jT U.length [(jn,"")] 0 _ _ _ _ (Y4o hs) (by omega) (fun e τ=>?_) (fun t e=>?_)
 ·show R.st .non=.st (sD (Q2a _ _ _ _))
  unfold Q2a;rw [e]
 ·show R.st (.str t)=.st (sD (Q2a _ _ _ _))
  unfold Q2a;rw [e]
noncomputable abbrev T9 (x y:Bool):Bool:=x&&!y
noncomputable abbrev O9 (x y:Bool):Bool:=x&&y
noncomputable abbrev P0 (x y:Bool):Bool:=x||y
noncomputable def Q3w (g:Bool->Bool->Bool) (m1 m2:C5):Option Str:=Q2a (PU m1 m2).length (X1 m1 m2) (0,0) (Q0w g m1 m2)
structure Two (m1 m2:C5):Prop where
 w1:D9 m1
 w2:D9 m2
 le:m1.1.length*m2.1.length<=20000
noncomputable def sp_first_of_both (cb:C4):E2:=fun rs Pr=>∃m1 m2 f Φ sp g,rs=[.st (mD m1),.st (mD m2),.cl f Φ]/\Two m1 m2/\cb 2 f Φ sp/\Q1b Φ/\Q0o g sp/\Pr (.st (sD (Q3w g m1 m2)))
theorem W0l {cb:C4}:T6 (sp_first_of_both cb):=by rintro rs P Q q ⟨m1,m2,f,Φ,sp,g,e,h1,h2,h3,h4,h5⟩;exact⟨m1,m2,f,Φ,sp,g,e,h1,h2,h3,h4,q _ h5⟩
theorem W4b {cb cy:C4}:∀rs Pr,rs.length=3->sp_first_of_both cb rs Pr->Z5q (sp_first_text cy) (sp_pair_step cy) (sp_pair_end cb cy) (P3 Pr) (E7 Z6t rs):=by
 rintro rs Pr _ ⟨m1,m2,f,Φ,sp,g,rfl,⟨w1,w2,hl⟩,hF,hH,ht,h⟩
 unfold Z5q
 simp only [S7,Q0i,S6,D4,s_tup,G2,J9,C7,C1]
 refine⟨_,rfl,sz (by simp),_,rfl,_,rfl,rfl,m1,m2,rfl,w1,w2,fun f1 Φ1 sp1 m7 jv=>?_⟩
 refine⟨_,rfl,_,rfl,_,rfl,rfl,m1,m2,f,Φ,sp,g,rfl,w1,w2,hF,hH,ht,fun f2 Φ2 dC gX iQ=>?_⟩
 refine⟨rfl,_,⟨Nat×Nat,inferInstance,pT,pK,X1 m1 m2,(0,0),Q0w g m1 m2,PU m1 m2,f1,f2,Φ1,Φ2,sp1,dC,fun _=>rfl,Y1j,rfl,m7,gX,Q2p w1 w2,by unfold PU;rw [Z3c];omega,fun k hk c hc=>⟨Q2i w1 w2 hk hc,jv k hk c hc⟩,iQ,rfl⟩,h⟩
noncomputable def spB (g:Bool->Bool->Bool):E2:=fun rs Pr=>∃m1 m2,rs=[.st (mD m1),.st (mD m2)]/\Two m1 m2/\Pr (.st (sD (Q3w g m1 m2)))
theorem W0i {g:Bool->Bool->Bool}:T6 (spB g):=fun rs P Q q ⟨m1,m2,e,h1,h2⟩=>⟨m1,m2,e,h1,q _ h2⟩
theorem W7m:Q0o T9 (L8 Q6v []):=by
 intro x y
 refine⟨[.bl x,.bl y],_,rfl,rfl,?_⟩
 cases x <;> cases y <;> simp [Q6v]
theorem W7j:Q0o P0 (L8 Q6u []):=by
 intro x y
 refine⟨[.bl x,.bl y],_,rfl,rfl,?_⟩
 cases x <;> cases y <;> simp [Q6u]
theorem W7i:Q0o O9 (L8 Q6t []):=by
 intro x y
 refine⟨[.bl x,.bl y],_,rfl,rfl,?_⟩
 cases x <;> cases y <;> simp [Q6t]
theorem rdB {cb:C4}{g:Bool->Bool->Bool}{wl:WE} (ht:Q0o g (L8 wl [])):∀rs Pr,rs.length=2->spB g rs Pr->(G1 (A9 (sp_first_of_both cb) (A0 (wV 0) (A0 (wV 1) (A0 (Q2o cb 2 (L8 wl [])) A2))))) (P3 Pr) (E7 ["one","other"] rs):=by
 rintro rs Pr _ ⟨m1,m2,rfl,h2,h⟩
 simp only [S7,S6,D4,C7,C1,Y2s]
 refine⟨_,rfl,_,rfl,fun f Φ hF hH=>?_⟩
 exact⟨rfl,m1,m2,f,Φ,_,g,rfl,h2,hF,hH,ht,h⟩
theorem W4n {cb:C4}:∀rs Pr,rs.length=2->spB T9 rs Pr->Y5c cb (sp_first_of_both cb) (P3 Pr) (E7 Z7b rs):=rdB W7m
noncomputable def Q0k:E2:=fun rs Pr=>∃m1 m2,rs=[.st (mD m1),.st (mD m2)]/\Two m1 m2/\Pr (.st (.bl (Q3w T9 m1 m2).isNone))
theorem Y0u:T6 Q0k:=by rintro rs P Q q ⟨m1,m2,e,h1,h2⟩;exact⟨m1,m2,e,h1,q _ h2⟩
theorem Y8q {o:Option Str}{Q:Bool->Prop} (h:Q o.isNone):Q5q false (.st (sD o)) (.st .non) Q:=by
 rw [W1e]
 cases o with
 | none=>exact⟨_,rfl,rfl,h⟩
 | some t=>exact⟨_,rfl,rfl,h⟩
theorem W4s:∀rs Pr,rs.length=2->Q0k rs Pr->Z6f (spB T9) (P3 Pr) (E7 Z7e rs):=by
 rintro rs Pr _ ⟨m1,m2,rfl,h2,h⟩
 unfold Z6f
 simp only [S7,s_b,J5,S6,D4,C7,C1,J9]
 exact⟨_,rfl,_,rfl,rfl,m1,m2,rfl,h2,Y8q h⟩
noncomputable def D5 (g:Bool->Bool->Bool):E2:=fun rs Pr=>∃m1 m2,rs=[.st (mD m1),.st (mD m2)]/\Two m1 m2/\Pr (.st (mD (Z7 g m1 m2)))
theorem F9 {g:Bool->Bool->Bool}:T6 (D5 g):=fun rs P Q q ⟨m1,m2,e,h1,h2⟩=>⟨m1,m2,e,h1,q _ h2⟩
theorem Z3l {cb:C4}{g:Bool->Bool->Bool}{wl:WE} (ht:Q0o g (L8 wl [])):∀rs Pr,rs.length=2->D5 g rs Pr->(G1 (A9 (Q0z cb) (A0 (wV 0) (A0 (wV 1) (A0 (Q2o cb 2 (L8 wl [])) A2))))) (P3 Pr) (E7 ["one","other"] rs):=by
 rintro rs Pr _ ⟨m1,m2,rfl,h2,h⟩
 simp only [S7,S6,D4,C7,C1,Y2s]
 refine⟨_,rfl,_,rfl,fun f Φ hF hH=>?_⟩
 exact⟨rfl,m1,m2,f,Φ,_,g,rfl,h2.w1,h2.w2,h2.le,hF,hH,ht,h⟩
theorem W3z {cb:C4}:∀rs Pr,rs.length=2->D5 P0 rs Pr->Y5b cb (Q0z cb) (P3 Pr) (E7 Z6r rs):=Z3l W7j
theorem W3u {cb:C4}:∀rs Pr,rs.length=2->D5 O9 rs Pr->Y5a cb (Q0z cb) (P3 Pr) (E7 Z6q rs):=Z3l W7i
noncomputable abbrev scr (ns:List Int):D:=.lst (ns.map D.int)
noncomputable def Q1g (ns:List Int) (k:Int):Int:=if ns=[]then 7*k else(ns[(k % (ns.length:Int)).toNat]?.getD 0)+6553*(k / (ns.length:Int))
noncomputable def Q6j:D6:=fun rs r=>∃ns k,rs=[.st (scr ns),.st (.int k)]/\ns.length<=63/\r=.st (.int (Q1g ns k))
theorem Y7m (ns:List Int):D.depth (scr ns)<=60:=by
 have:D.depths (ns.map D.int)=0:=by
  induction ns with
  | nil=>simp [D.depths]
  | cons n r ih=>simp [D.depths,D.depth,ih]
 simp [D.depth,this]
theorem Y6i {ns:List Int}{k:Int} (h:ns≠[]):K6 (ns.map D.int) (k % (ns.length:Int))=some (.int (ns[(k % (ns.length:Int)).toNat]?.getD 0)):=by
 have hp:0<(ns.length:Int):=by have:=List.length_pos_iff.mpr h;omega
 have h0:=hZ k (by omega:(ns.length:Int)≠0)
 have h1:=dS k hp
 have bE:(k % (ns.length:Int)).toNat<ns.length:=by omega
 have e:k % (ns.length:Int)=(((k % (ns.length:Int)).toNat:Nat):Int):=by omega
 have q:K6 (ns.map D.int) (((k % (ns.length:Int)).toNat:Nat):Int)=some (.int (ns[(k % (ns.length:Int)).toNat]?.getD 0)):=X4 (by rw [ah,ac bE];rfl)
 rw [<- e]at q
 exact q
theorem W3w:∀rs r,rs.length=2->Q6j rs r->Q9w (Y6 r) (E7 Z6w rs):=by
 rintro rs r _ ⟨ns,k,rfl,hn,rfl⟩
 have hd:=Y7m ns
 by_cases h:ns=[]
 ·subst h
  simp [Q9w,Q1q,Q1g,hd,D.depth,D.depths]
 ·have hp:0<(ns.length:Int):=by have:=List.length_pos_iff.mpr h;omega
  simp [Q9w,Q1q,Q0m,Q1g,hd,h,Y6i h]
  omega
noncomputable def X6 (ns:List Int) (k m:Int):Int :=
 let c:=((Q1g ns k) % 2147483563*69069+104723*(k+1)) % 2147483563
 let c:=(c*c+c / 3) % 2147483399
 (c*c+c / 7) % 2147483647 / 11 % m
noncomputable def Q6k:D6:=fun rs r=>∃ns k m,rs=[.st (scr ns),.st (.int k),.st (.int m)]/\ns.length<=63/\0<m/\r=.st (.int (X6 ns k m))
theorem W3y:∀rs r,rs.length=3->Q6k rs r->Z5u Q6j (Y6 r) (E7 Z6x rs):=by
 rintro rs r _ ⟨ns,k,m,rfl,hn,hm,rfl⟩
 have key:∀c:Int,0<=c->c<2147483648->Q1q c c:=fun c h1 h2=>.inl ⟨by omega,by omega⟩
 simp [Z5u,Q6j,hm,hn]
 refine⟨_,⟨ns,k,⟨rfl,rfl⟩,hn,rfl⟩,?_⟩
 have e1:=hZ (Q1g ns k) (by decide:(2147483563:Int)≠0)
 have e2:=dS (Q1g ns k) (by decide:(0:Int)<2147483563)
 have b1:=hZ (Q1g ns k % 2147483563*69069+104723*(k+1)) (by decide:(2147483563:Int)≠0)
 have b2:=dS (Q1g ns k % 2147483563*69069+104723*(k+1)) (by decide:(0:Int)<2147483563)
 simp only [Y1e,Y1f,Q1l,Q2,Q8,W1h,W1d,X6]
 generalize (Q1g ns k % 2147483563*69069+104723*(k+1)) % 2147483563=c at b1 b2 ⊢
 have b3:=hZ (c*c+c / 3) (by decide:(2147483399:Int)≠0)
 have b4:=dS (c*c+c / 3) (by decide:(0:Int)<2147483399)
 generalize (c*c+c / 3) % 2147483399=c2 at b3 b4 ⊢
 have cd:∀c:Int,Q0m c 3/\Q0m c 7/\Q0m c 11:=fun c=>⟨⟨by decide,by decide⟩,⟨by decide,by decide⟩,⟨by decide,by decide⟩⟩
 exact⟨by decide,.inl ⟨by omega,by omega⟩,.inl ⟨by decide,by decide⟩,by decide,key _ b1 (by omega),(cd c).1,by decide,key _ b3 (by omega),(cd c2).2.1,by decide,(cd _).2.2,hm,trivial⟩
theorem Y7q (ns:List Int) (k:Int) {m:Int} (h:0<m):0<=X6 ns k m:=hZ _ (by omega)
theorem Y7p (ns:List Int) (k:Int) {m:Int} (h:0<m):X6 ns k m<m:=dS _ h
noncomputable def drN (ns:List Int) (k:Int) (m:Nat):Nat:=(X6 ns k (m:Int)).toNat
theorem Z1h (ns:List Int) (k:Int) {m:Nat} (h:0<m):X6 ns k (m:Int)=(drN ns k m:Int):=by
 have:=Y7q ns k (m:=(m:Int)) (by omega)
 unfold drN;omega
theorem Z1i (ns:List Int) (k:Int) {m:Nat} (h:0<m):drN ns k m<m:=by
 have:=Y7p ns k (m:=(m:Int)) (by omega)
 have:=Z1h ns k h
 omega
noncomputable def S5 (ns:List Int) (at_:Int) (most:Nat):Nat:=1+drN ns at_ most
noncomputable def S4 (ns:List Int) (at_:Int) (most:Nat):C5 :=
 ((List.range (S5 ns at_ most)).map fun(k:Nat)=>decide (X6 ns (at_+1+(k:Int)) 2=0),(List.range (S5 ns at_ most)).map fun(k:Nat)=>B9.map fun(j:Nat)=>drN ns (at_+7+4*(k:Int)+(j:Int)) (S5 ns at_ most))
theorem Z2j (ns:List Int) (at_:Int) (most:Nat):(S4 ns at_ most).1.length=S5 ns at_ most:=by simp [S4]
theorem Z2i (ns:List Int) (at_:Int) {most:Nat} (h:0<most):(S4 ns at_ most).1.length<=most:=by
 rw [Z2j];unfold S5;have:=Z1i ns at_ h;omega
theorem Z2k (ns:List Int) (at_:Int) {most:Nat} (h:0<most):D9 (S4 ns at_ most):=by
 have hp:0<S5 ns at_ most:=by unfold S5;omega
 refine⟨by simp [S4],by rw [Z2j];exact hp,fun r hr=>?_,fun r hr x hx=>?_⟩
 ·obtain⟨k,_,rfl⟩:=aj.mp hr;rfl
 ·obtain⟨k,_,rfl⟩:=aj.mp hr
  obtain⟨j,_,rfl⟩:=aj.mp hx
  rw [Z2j];exact Z1i ns _ hp
theorem Y2g (ns:List Int) (hn:ns.length<=63) (at_:Int) {n:Nat} (h0:0<n) {E:G8}{o2 o4:Option Sl}:∀(l:List Nat) (ds:List D) (o6:Option Sl),ds.length+l.length<=1000 ->
  (∀o6,E.nx [some (.dat (scr ns)),some (.dat (.int at_)),o2,some (.dat (iD n)),o4,some (.own (ds++l.map fun(k:Nat)=>rD (B9.map fun(j:Nat)=>drN ns (at_+7+4*(k:Int)+(j:Int)) n))),o6]) ->
  F6 (C0 6) (Q4 5 (B3 (C3 P7 (A0 (V0 1 [0,3,1,6] (Q3y (A0 (wC (.int 4)) A2)) (C0 0) T2 (B3 (U4 Q6k (A0 (wV 1) (A0 (A7 K5 (A7 K5 (A7 K5 (wV 3) (wC (.int 7))) (A7 X0 (wC (.int 4)) (wV 4))) (wV 0)) (A0 (wV 2) A2)))))) A2))))
   E (l.map iD) [some (.dat (scr ns)),some (.dat (.int at_)),o2,some (.dat (iD n)),o4,some (.own ds),o6]
 | [],ds,o6,_,h=>by simpa [F6]using h o6
 | k::l,ds,o6,hz,h=>by
  rw [aK]at hz
  have e4:Q3 0 (Int.toNat 4)=B9.map iD:=rfl
  rw [ar,F6]
  simp only [U9,Q3i,G2,L0,D4,Q0y,Q8v,J9,C7]
  refine⟨_,rfl,_,rfl,by decide,by decide,by rw [e4];exact sz (by simp),?_⟩
  rw [e4]
  refine Q1h (f:=fun d=>match d with | .int j=>iD (drN ns (at_+7+4*(k:Int)+j) n) | d=>d) _ _ _ (fun d hd Q' q=>?_) ?_
  ·obtain⟨j,_,rfl⟩:=aj.mp hd
   simp only [G2,Q0i,D4,C1,J5,J9,C7]
   refine⟨_,rfl,_,rfl,_,rfl,?_⟩
   show X0 (R.st (.int 4)) (R.st (.int (k:Int))) _
   rw [Y1f]
   refine⟨.inl ⟨by decide,by decide⟩,?_⟩
   rw [Q1l]
   refine⟨_,rfl,?_⟩
   rw [Q8,Q1l]
   refine⟨_,rfl,rfl,_,⟨ns,at_+7+4*(k:Int)+(j:Int),(n:Int),rfl,hn,by omega,rfl⟩,?_⟩
   rw [Z1h ns _ h0]
   exact q
  ·rw [Q1m]
   refine⟨_,rfl,_,rfl,szl (by omega),?_⟩
   have e:(B9.map iD).map (fun d=>match d with | .int j=>iD (drN ns (at_+7+4*(k:Int)+j) n) | d=>d)=(B9.map fun(j:Nat)=>drN ns (at_+7+4*(k:Int)+(j:Int)) n).map iD:=by rfl
   rw [e]
   refine Y2g ns hn at_ h0 l (ds++[rD (B9.map fun(j:Nat)=>drN ns (at_+7+4*(k:Int)+(j:Int)) n)]) _ (by simp;omega) fun o6=>?_
   simpa using h o6
noncomputable def Q8z:D6:=fun rs r=>∃ns at_ most,rs=[.st (scr ns),.st (.int at_),.st (iD most)]/\ns.length<=63/\0<most/\most<=50/\r=.st (mD (S4 ns at_ most))
theorem W4h:∀rs r,rs.length=3->Q8z rs r->Z5v Q6k (Y6 r) (E7 Q6z rs):=by
 rintro rs r _ ⟨ns,at_,most,rfl,hn,h0,h1,rfl⟩
 have hN:1+X6 ns at_ (most:Int)=(S5 ns at_ most:Int):=by rw [Z1h ns at_ h0];unfold S5;omega
 have hp:0<S5 ns at_ most:=by unfold S5;omega
 have fB:S5 ns at_ most<=50:=by unfold S5;have:=Z1i ns at_ h0;omega
 have er:Q3 0 (S5 ns at_ most:Int).toNat=(List.range (S5 ns at_ most)).map iD:=by simp [Q3]
 unfold Z5v
 simp only [G3,O4,J5,J9,Q0i,D4,C1,C7,L0,Q0y,Q8v,s_lst,Q1o,Z3s,S7,s_tup,G2]
 refine⟨_,rfl,_,rfl,_,rfl,rfl,_,⟨ns,at_,(most:Int),rfl,hn,by omega,rfl⟩,?_⟩
 rw [Q1l,hN,Q2]
 refine⟨_,rfl,_,rfl,by omega,by omega,?_⟩
 rw [er]
 refine⟨sz (by simp;omega),?_⟩
 refine Q1h (f:=fun d=>match d with | .int k=>.bl (decide (X6 ns (at_+1+k) 2=0)) | d=>d) _ _ _ (fun d hd Q' q=>?_) ?_
 ·obtain⟨k,_,rfl⟩:=aj.mp hd
  simp only [G2,s_b,J5,Q0i,D4,C1,J9,C7]
  refine⟨_,rfl,_,rfl,?_⟩
  show K5 (R.st _) (R.st _) _
  rw [Q1l]
  refine⟨_,rfl,?_⟩
  rw [Q8,Q1l]
  refine⟨rfl,_,⟨ns,at_+1+(k:Int),2,rfl,hn,by decide,rfl⟩,?_⟩
  rw [Z2v]
  refine⟨_,_,rfl,rfl,by simp [D.depth],?_⟩
  simp only [o_e1,dX,if_false]
  have e:(X6 ns (at_+1+(k:Int)) 2==0)=decide (X6 ns (at_+1+(k:Int)) 2=0):=by
   by_cases h:X6 ns (at_+1+(k:Int)) 2=0
   ·rw [dP h,h];rfl
   ·rw [aP h];exact bO.mpr h
  rw [e]
  exact q
 ·rw [Q1m]
  refine⟨_,rfl,?_⟩
  rw [Q2]
  refine⟨_,rfl,sz (by simp),_,rfl,_,rfl,by omega,by omega,?_⟩
  rw [er]
  refine Y2g ns hn at_ hp (List.range (S5 ns at_ most)) [] _ (by simp;omega) fun o6=>?_
  refine⟨_,rfl,_,rfl,?_⟩
  simp only [C7,W0,Q1m]
  refine⟨_,rfl,_,rfl,sz (by simp),?_⟩
  show R.st _=R.st _
  have e1:((List.range (S5 ns at_ most)).map iD).map (fun d=>match d with | .int k=>D.bl (decide (X6 ns (at_+1+k) 2=0)) | d=>d)=(S4 ns at_ most).1.map .bl:=by
   unfold S4;rw [aQ,aQ];rfl
  have e2:(List.range (S5 ns at_ most)).map (fun(k:Nat)=>rD (B9.map fun(j:Nat)=>drN ns (at_+7+4*(k:Int)+(j:Int)) (S5 ns at_ most)))=(S4 ns at_ most).2.map rD:=by
   unfold S4;rw [aQ];rfl
  rw [dw,e1,e2]
theorem Z1q {α:Type} [DecidableEq α] {st:Nat->α}{t:Str}:∀(cs:List (Nat×Str)) (T:List (α×Str)),T <+: goT st t cs T
 | [],T=>bt _
 | c::cs,T=>(Z0s _ _ _).trans (Z1q cs _)
section
variable {m1 m2:C5}
end
section
variable {α:Type}
theorem Y4a {P:List Nat->Prop} (h0:P []) (hs:∀w c,P w->P (w++[c])) (w:List Nat):P w:=by
 have:∀w:List Nat,P w.reverse:=by
  intro w
  induction w with
  | nil=>exact h0
  | cons c w ih=>rw [List.reverse_cons];exact hs _ _ ih
 have:=this w.reverse
 rwa [List.reverse_reverse]at this
noncomputable def run (step:α->Nat->α) (k:α) (w:List Nat):α:=w.foldl step k
theorem Z3p (step:α->Nat->α) (k:α) (u w:List Nat):run step k (u++w)=run step (run step k u) w:=List.foldl_append
def C9 (w:List Nat):Prop:=∀c∈w,c∈B9
theorem C9.nil:C9 []:=fun c h=>by cases h
theorem C9.app {u w:List Nat} (h1:C9 u) (h2:C9 w):C9 (u++w):=fun c h=>(aN.mp h).elim (h1 c) (h2 c)
theorem C9.snoc {u:List Nat}{c:Nat} (h1:C9 u) (h2:c∈B9):C9 (u++[c]):=h1.app fun d hd=>by rw [aD.mp hd];exact h2
noncomputable def Z3v (c:Nat):Str:=match c with
 | 0=>"0"
 | 1=>"1"
 | 2=>"a"
 | _=>"b"
noncomputable def Q3j (w:List Nat):Str:=w.foldl (fun t c=>t++Z3v c) ""
theorem W7g (w:List Nat) (c:Nat):Q3j (w++[c])=Q3j w++Z3v c:=by unfold Q3j;rw [List.foldl_append];rfl
theorem Y7d {c:Nat×Str} (h:c∈U6):c.2=Z3v c.1:=by
 simp only [U6,ao,aT,bK]at h
 rcases h with rfl | rfl | rfl | rfl <;> rfl
end
section
variable {α:Type} [DecidableEq α]
structure FtI (step:α->Nat->α) (start:α) (fin:α->Bool) (U:List α) (T:List (α×Str)) (p:Nat):Prop where
 ti:V4 U T
 zero:start∈T.map (·.1)
 word:∀q∈T,∃w,C9 w/\q.1=run step start w/\q.2=Q3j w
 past:∀i,i<p->∀q,T[i]?=some q->fin q.1=false/\∀c∈B9,step q.1 c∈T.map (·.1)
theorem Y0l {st:Nat->α}{t:Str}{q:α×Str}:∀(cs:List (Nat×Str)) (T:List (α×Str)),q∈goT st t cs T->q∈T\/∃c∈cs,q=(st c.1,t++c.2)
 | [],T,h=>.inl h
 | c::cs,T,h=>by
  rcases Y0l cs _ h with h | ⟨c',h1,h2⟩
  ·unfold Z1 at h
   split at h
   ·exact .inl h
   ·rcases aN.mp h with h | h
    ·exact .inl h
    ·exact .inr ⟨c,by simp,aD.mp h⟩
  ·exact .inr ⟨c',by simp [h1],h2⟩
theorem Z9d {st:Nat->α}{t:Str}:∀(cs:List (Nat×Str)) (T:List (α×Str)),∀c∈cs,st c.1∈(goT st t cs T).map (·.1)
 | [],T,c,h=>by cases h
 | d::cs,T,c,h=>by
  rw [goT]
  rcases ao.mp h with rfl | h
  ·have:st c.1∈(Z1 T (st c.1) (t++c.2)).map (·.1):=by
    unfold Z1
    split
    ·assumption
    ·simp
   obtain⟨q,hq,e⟩:=aj.mp this
   exact aj.mpr ⟨q,(Z1q cs _).subset hq,e⟩
  ·exact Z9d cs _ c h
theorem Y7e {c:Nat} (h:c∈B9):∃s,(c,s)∈U6:=by
 simp only [B9,ao,aT,bK]at h
 rcases h with rfl | rfl | rfl | rfl <;> exact⟨_,by simp [U6];rfl⟩
theorem FtI.next {step:α->Nat->α}{start:α}{fin:α->Bool}{U:List α}{T:List (α×Str)}{p:Nat}{k:α}{t:Str} (hU:∀k∈U,∀c∈B9,step k c∈U) (F:FtI step start fin U T p) (hp:T[p]?=some (k,t)) (hf:fin k=false) :
  FtI step start fin U (goT (step k) t U6 T) (p+1):=by
 have kin:=aw hp
 have pre:=Z1q (st:=step k) (t:=t) U6 T
 have mono:∀x,x∈T.map (·.1)->x∈(goT (step k) t U6 T).map (·.1):=fun x hx=>by
  obtain⟨q,hq,e⟩:=aj.mp hx
  exact aj.mpr ⟨q,pre.subset hq,e⟩
 refine⟨V4.go U6 T F.ti kin fun c hc=>⟨hU k (F.ti.sub _ kin) _ (Q1w hc).1,(Q1w hc).2⟩,mono _ F.zero,fun q hq=>?_,fun i hi q hq=>?_⟩
 ·rcases Y0l U6 T hq with h | ⟨c,hc,rfl⟩
  ·exact F.word q h
  ·obtain⟨w,h1,h2,h3⟩:=F.word _ kin
   refine⟨w++[c.1],h1.snoc (Q1w hc).1,?_,?_⟩
   ·rw [Z3p,<- h2];rfl
   ·rw [W7g,<- Y7d hc]
    have h3:t=Q3j w:=h3
    rw [<- h3]
 ·obtain⟨add,lX⟩:=pre
  have hpl:p<T.length:=by obtain⟨h,_⟩:=aF.mp hp;exact h
  rw [<- lX,aJ (by omega)]at hq
  rcases bo i p with h | h
  ·obtain⟨h1,h2⟩:=F.past i h q hq
   exact⟨h1,fun c hc=>mono _ (h2 c hc)⟩
  ·have:i=p:=by omega
   subst this
   rw [hp]at hq;cases hq
   refine⟨hf,fun c hc=>?_⟩
   obtain⟨s,hs⟩:=Y7e hc
   exact Z9d U6 T _ hs
theorem Y7y {step:α->Nat->α}{start:α}{fin:α->Bool}{U:List α} (hU:∀k∈U,∀c∈B9,step k c∈U):∀(n:Nat) (T:List (α×Str)) (p:Nat),FtI step start fin U T p->U.length<=n+p ->
  (ftN step fin n T p=none->∀w,C9 w->fin (run step start w)=false)/\(∀t,ftN step fin n T p=some t->∃w,C9 w/\t=Q3j w/\fin (run step start w)=true):=by
 have done:∀(T:List (α×Str)) (p:Nat),FtI step start fin U T p->T.length<=p->∀w,C9 w->fin (run step start w)=false:=by
  intro T p F hl w hw
  have all:∀w,C9 w->run step start w∈T.map (·.1):=by
   refine Y4a ?_ ?_
   ·exact fun _=>F.zero
   ·intro w c ih hw
    obtain⟨q,hq,e⟩:=aj.mp (ih fun d hd=>hw d (by simp [hd]))
    obtain⟨i,hi,e2⟩:=bu.mp hq
    have:=(F.past i (by omega) q (by rw [ac hi,e2])).2 c (hw c (by simp))
    rw [Z3p,<- e]
    exact this
  obtain⟨q,hq,e⟩:=aj.mp (all w hw)
  obtain⟨i,hi,e2⟩:=bu.mp hq
  have:=(F.past i (by omega) q (by rw [ac hi,e2])).1
  rw [<- e];exact this
 intro n
 induction n with
 | zero =>
  intro T p F h
  have b:=F.ti.bound
  exact⟨fun _=>done T p F (by omega),fun t e=>by cases e⟩
 | succ n ih =>
  intro T p F h
  rw [ftN]
  split
  ·rename_i e
   have:=aC.mp e
   exact⟨fun _=>done T p F this,fun t e=>by cases e⟩
  ·rename_i q e
   obtain⟨k,t⟩:=q
   by_cases hf:fin k=true
   ·simp only [hf,if_true]
    refine⟨fun z=>by(cases z),fun t' e'=>?_⟩
    cases e'
    obtain⟨w,h1,h2,h3⟩:=F.word _ (aw e)
    exact⟨w,h1,h3,by rw [<- h2];exact hf⟩
   ·have nv:fin k=false:=by simpa using hf
    simp only [nv,if_false,dX]
    exact ih _ _ (F.next hU e nv) (by omega)
theorem Y7x {step:α->Nat->α}{start:α}{fin:α->Bool}{U:List α} (hU:∀k∈U,∀c∈B9,step k c∈U) (hs:start∈U) :
  (Q2a U.length step start fin=none->∀w,C9 w->fin (run step start w)=false)/\(∀t,Q2a U.length step start fin=some t->∃w,C9 w/\t=Q3j w/\fin (run step start w)=true) :=
 Y7y hU U.length _ 0 ⟨Y4o hs,by simp,fun q hq=>⟨[],C9.nil,by rw [aD.mp hq];rfl,by rw [aD.mp hq];rfl⟩,fun i hi=>by omega⟩ (by omega)
end
noncomputable def stW (m:C5) (w:List Nat):Nat:=run (D7 m.2) 0 w
noncomputable def E1 (m:C5) (w:List Nat):Bool:=m.1.getD (stW m w) false
theorem Y4d {m:C5} (wf:D9 m):∀w,C9 w->stW m w<m.1.length:=by
 refine Y4a ?_ ?_
 ·exact fun _=>wf.pos
 ·intro w c ih hw
  have h:=ih fun d hd=>hw d (by simp [hd])
  obtain⟨_,_,_,g⟩:=wf.row h
  unfold stW at h ⊢
  rw [Z3p]
  exact(g c (Z2 (hw c (by simp)))).2
theorem prun (m1 m2:C5):∀(w:List Nat) (p:Nat×Nat),run (X1 m1 m2) p w=(run (D7 m1.2) p.1 w,run (D7 m2.2) p.2 w)
 | [],p=>rfl
 | c::w,p=>prun m1 m2 w (X1 m1 m2 p c)
theorem Z3g (g:Bool->Bool->Bool) (m1 m2:C5) (w:List Nat):Q0w g m1 m2 (run (X1 m1 m2) (0,0) w)=g (E1 m1 w) (E1 m2 w):=by rw [prun];rfl
theorem Y7w {g:Bool->Bool->Bool}{m1 m2:C5} (w1:D9 m1) (w2:D9 m2):Q3w g m1 m2=none ↔ ∀w,C9 w->g (E1 m1 w) (E1 m2 w)=false:=by
 have S:=Y7x (fin:=Q0w g m1 m2) (fun k hk c hc=>Q2i w1 w2 hk hc) (Q2p w1 w2)
 constructor
 ·intro h w hw
  rw [<- Z3g g]
  exact S.1 h w hw
 ·intro h
  cases e:Q3w g m1 m2 with
  | none=>rfl
  | some t =>
   obtain⟨w,h1,_,h2⟩:=S.2 t e
   rw [Z3g,h w h1]at h2
   cases h2
theorem W0s {ks:List D}{d:D} (h:ks.Nodup):(S8 ks d).Nodup:=by
 unfold S8;split
 ·exact h
 ·rename_i n
  exact ba.mpr ⟨h,by simp,fun a ha b hb=>by
   rw [aD]at hb;rintro rfl;exact n (hb ▸ ha)⟩
theorem Y0v:∀(ds ks:List D),ks.Nodup->(U3 ks ds).Nodup
 | [],ks,h=>h
 | d::r,ks,h=>Y0v r _ (W0s h)
theorem Y3w:∀(ds ks:List D) (x:D),x∈U3 ks ds->x∈ks\/x∈ds
 | [],ks,x,h=>.inl h
 | d::r,ks,x,h=>by
  rcases Y3w r _ x h with h | h
  ·unfold S8 at h
   split at h
   ·exact .inl h
   ·rcases aN.mp h with h | h
    ·exact .inl h
    ·exact .inr (by rw [aD.mp h];simp)
  ·exact .inr (by simp [h])
theorem W1a {ds:List D}{j:Nat} (h:j<(U3 [] ds).length):j∈O0 [] ds:=by
 rw [Q4h,aj]
 have hm:=b9 h
 refine⟨(U3 [] ds)[j],?_,(Y0v ds [] (by simp)).idxOf_getElem j h⟩
 rcases Y3w ds [] _ hm with z | z
 ·cases z
 ·exact z
theorem W1b {ds:List D}{x:Nat} (h:x∈O0 [] ds):x<(U3 [] ds).length:=by
 rw [Q4h,aj]at h
 obtain⟨d,hd,rfl⟩:=h
 exact aO.mpr (Q5w ds [] (.inr hd))
theorem Y0y {ds:List D}{x:Nat} (cj:O0 [] ds≠[]) (h:x<=Q7 (O0 [] ds)):x∈O0 [] ds :=
 W1a (Nat.lt_of_le_of_lt h (W1b (Q5u cj)))
theorem Y8j {φ:Nat->Nat}{k k':Nat} (hk:k'<=k) (on:∀y,y<k->∃x,x<k'/\φ x=y) {a b:Nat} (ha:a<k') (hb:b<k') (e:φ a=φ b):a=b:=by
 rcases Nat.decEq a b with ne | eq
 ·exfalso
  have sub:List.range k ⊆ ((List.range k').erase b).map φ:=fun y hy=>by
   obtain⟨x,hx,rfl⟩:=on y (bL.mp hy)
   by_cases z:x=b
   ·subst z
    exact aj.mpr ⟨a,(List.mem_erase_of_ne ne).mpr (bL.mpr ha),e⟩
   ·exact aj.mpr ⟨x,(List.mem_erase_of_ne z).mpr (bL.mpr hx),rfl⟩
  have:=List.nodup_range.length_le_of_subset sub
  rw [ag,List.length_erase_of_mem (bL.mpr hb),bV,bV]at this
  omega
 ·exact eq
noncomputable abbrev blk (b:List Nat) (i:Nat):Nat:=b.getD i 0
theorem Q2w {b:List Nat}{i:Nat} (h:i<b.length):b[i]?=some (blk b i):=by
 rw [ac h]
 show _=some (b.getD i 0)
 rw [am,ac h];rfl
theorem W5a {es:List Bool}{rows:List (List Nat)} (w:Wf es rows) {f:Nat->Nat}{i j:Nat}{ri rj:List Nat} (hi:rows[i]?=some ri) (hj:rows[j]?=some rj) (li:i<es.length) (lj:j<es.length) :
  ri.map f=rj.map f ↔ ∀c,c<4->f (D7 rows i c)=f (D7 rows j c):=by
 obtain⟨r,e1,l1,g1⟩:=w.row li
 obtain⟨r',e2,l2,g2⟩:=w.row lj
 rw [hi]at e1;cases e1
 rw [hj]at e2;cases e2
 constructor
 ·intro h c hc
  have:=congrArg (fun l=>l[c]?) h
  simp only [ah,(g1 c hc).1,(g2 c hc).1]at this
  exact ay this
 ·intro h
  refine List.ext_getElem? fun c=>?_
  rw [ah,ah]
  rcases bo c 4 with hc | hc
  ·rw [(g1 c hc).1,(g2 c hc).1]
   exact congrArg some (h c hc)
  ·rw [aC.mpr (by omega),aC.mpr (by omega)]
theorem Y0g {rows:List (List Nat)}{b:List Nat}{i:Nat}{r:List Nat} (hb:i<b.length) (hr:rows[i]?=some r):(Q0f rows b)[i]?=some (Q0s b (blk b i,r)):=by
 unfold Q0f
 have e:(b.zip rows)[i]?=some (blk b i,r):=bF.mpr ⟨Q2w hb,hr⟩
 rw [ah,e]
 rfl
theorem Z1r {a b:Nat} (h:iD a=iD b):a=b:=by
 have:(a:Int)=(b:Int):=D.int.inj h
 omega
theorem Y0e:∀{l m:List Nat},l.map iD=m.map iD->l=m
 | [],[],_=>rfl
 | [],_::_,h=>by cases h
 | _::_,[],h=>by cases h
 | a::l,b::m,h=>by
  rw [ar,ar,dy]at h
  rw [Z1r h.1,Y0e h.2]
theorem Y9x {b:List Nat}{p q:Nat×List Nat}:Q0s b p=Q0s b q ↔ p.1=q.1/\p.2.map (blk b)=q.2.map (blk b):=by
 constructor
 ·intro h
  have h:=D.tup.inj h
  rw [dy,dy]at h
  exact⟨Z1r h.1,Y0e (D.tup.inj h.2.1)⟩
 ·rintro ⟨h1,h2⟩
  unfold Q0s
  rw [h1]
  show D.tup [_,rD (p.2.map (blk b))]=D.tup [_,rD (q.2.map (blk b))]
  rw [h2]
theorem Q6p {es:List Bool}{rows:List (List Nat)} (w:Wf es rows) {b:List Nat} (hb:J7 es.length b) {i j:Nat} (hi:i<es.length) (hj:j<es.length) :
  blk (K0 rows b) i=blk (K0 rows b) j ↔ blk b i=blk b j/\∀c,c<4->blk b (D7 rows i c)=blk b (D7 rows j c):=by
 obtain⟨r,e1,_,_⟩:=w.row hi
 obtain⟨r',e2,_,_⟩:=w.row hj
 have m1:=Y0g (b:=b) (by rw [hb.len];exact hi) e1
 have m2:=Y0g (b:=b) (by rw [hb.len];exact hj) e2
 have hB:=hb.step w.len
 have q:=Y0z m1 m2
 have g1:(O0 [] (Q0f rows b))[i]?=some (blk (K0 rows b) i):=Q2w (by show i<(K0 rows b).length;rw [hB.len];exact hi)
 have g2:(O0 [] (Q0f rows b))[j]?=some (blk (K0 rows b) j):=Q2w (by show j<(K0 rows b).length;rw [hB.len];exact hj)
 rw [g1,g2,Option.some_inj,Y9x,W5a w e1 e2 hi hj]at q
 exact q
theorem Y4e {es:List Bool}{rows:List (List Nat)} (w:Wf es rows) {b:List Nat} (hb:J7 es.length b) (full:∀x,x<=Q7 b->x∈b) (hm:¬ Q7 b+1<=Q7 (K0 rows b)) {i j:Nat} (hi:i<es.length) (hj:j<es.length) (e:blk b i=blk b j) :
  blk (K0 rows b) i=blk (K0 rows b) j:=by
 have hB:=hb.step w.len
 have lb:∀{i:Nat},i<es.length->i<b.length:=fun h=>by rw [hb.len];exact h
 have lB:∀{i:Nat},i<es.length->i<(K0 rows b).length:=fun h=>by rw [hB.len];exact h
 have fφ:∀{i:Nat},i<es.length->blk b ((K0 rows b).idxOf (blk (K0 rows b) i))=blk b i:=fun {i} h=>by
  have iW:blk (K0 rows b) i∈K0 rows b:=Q1i (lB h)
  have bE:=aO.mpr iW
  have qq:(K0 rows b).idxOf (blk (K0 rows b) i)<es.length:=by rw [<- hB.len];exact bE
  have e0:blk (K0 rows b) ((K0 rows b).idxOf (blk (K0 rows b) i))=blk (K0 rows b) i:=by
   have:=Q2w bE
   rw [ac bE,List.getElem_idxOf bE]at this
   exact(ay this).symm
  exact((Q6p w hb qq h).mp e0).1
 refine Y8j (φ:=fun x=>blk b ((K0 rows b).idxOf x)) (k:=Q7 b+1) (k':=Q7 (K0 rows b)+1) (by omega) (fun y hy=>?_) (Nat.lt_succ_of_le (Q8d (Q1i (lB hi)))) (Nat.lt_succ_of_le (Q8d (Q1i (lB hj)))) ?_
 ·obtain⟨i,hi,rfl⟩:=bu.mp (full y (by omega))
  have fm:i<es.length:=by rw [<- hb.len];exact hi
  refine⟨blk (K0 rows b) i,Nat.lt_succ_of_le (Q8d (Q1i (lB fm))),?_⟩
  show blk b _=_
  rw [fφ fm]
  have:=Q2w hi
  rw [ac hi]at this
  exact(ay this).symm
 ·show blk b _=blk b _
  rw [fφ hi,fφ hj,e]
noncomputable def M5 (es:List Bool) (rows:List (List Nat)) (i:Nat) (w:List Nat):Bool:=es.getD (run (D7 rows) i w) false
theorem Q8t {es:List Bool}{rows:List (List Nat)} (wf:Wf es rows):∀(w:List Nat) (i:Nat),C9 w->i<es.length->run (D7 rows) i w<es.length
 | [],i,_,h=>h
 | c::w,i,hw,h=>by
  obtain⟨_,_,_,g⟩:=wf.row h
  exact Q8t wf w _ (fun d hd=>hw d (by simp [hd])) (g c (Z2 (hw c (by simp)))).2
structure Q3q (es:List Bool) (rows:List (List Nat)) (b:List Nat):Prop where
 blk:J7 es.length b
 full:∀x,x<=Q7 b->x∈b
 fin:∀i j,i<es.length->j<es.length->MC.blk b i=MC.blk b j->es.getD i false=es.getD j false
 apart:∀i j,i<es.length->j<es.length->MC.blk b i≠MC.blk b j->∃w,C9 w/\M5 es rows i w≠M5 es rows j w
theorem Q3q.step {es:List Bool}{rows:List (List Nat)}{b:List Nat} (w:Wf es rows) (P:Q3q es rows b):Q3q es rows (K0 rows b) where
 blk:=P.blk.step w.len
 full:=fun x hx=>Y0y (fun z=>by have h:=(P.blk.step w.len).len;unfold K0 at h;rw [z]at h;have:=w.pos;simp at h;omega) hx
 fin:=fun i j hi hj e=>P.fin i j hi hj ((Q6p w P.blk hi hj).mp e).1
 apart:=fun i j hi hj ne=>by
  by_cases h:MC.blk b i=MC.blk b j
  ·have:¬ ∀c,c<4->MC.blk b (D7 rows i c)=MC.blk b (D7 rows j c):=fun z=>ne ((Q6p w P.blk hi hj).mpr ⟨h,z⟩)
   obtain⟨c,hc⟩:=Classical.not_forall.mp this
   obtain⟨gS,cj⟩:=Classical.not_imp.mp hc
   obtain⟨_,_,_,g1⟩:=w.row hi
   obtain⟨_,_,_,g2⟩:=w.row hj
   obtain⟨u,hu,q⟩:=P.apart _ _ (g1 c gS).2 (g2 c gS).2 cj
   exact⟨c::u,fun d hd=>by rcases ao.mp hd with rfl | hd;exact Y0c gS;exact hu d hd,q⟩
  ·exact P.apart i j hi hj h
structure Told (es:List Bool) (rows:List (List Nat)) (b:List Nat):Prop extends Q3q es rows b where
 cong:∀i j,i<es.length->j<es.length->MC.blk b i=MC.blk b j->∀c,c<4->MC.blk b (D7 rows i c)=MC.blk b (D7 rows j c)
theorem Y4j {es:List Bool}{rows:List (List Nat)} (w:Wf es rows):∀(n:Nat) (b:List Nat),Q3q es rows b->es.length<=n+Q7 b+1->Told es rows (Q1p rows n (Q7 b+1) (K0 rows b))
 | 0,b,P,h=>by
  have hB:=P.step w
  have ne:K0 rows b≠[]:=fun z=>by have h:=hB.blk.len;rw [z]at h;have:=w.pos;simp at h;omega
  have:=hB.blk.lt _ (Q5u ne)
  refine⟨hB,fun i j hi hj e c hc=>?_⟩
  obtain⟨_,_,_,g1⟩:=w.row hi
  obtain⟨_,_,_,g2⟩:=w.row hj
  exact Y4e w P.blk P.full (by omega) (g1 c hc).2 (g2 c hc).2 (((Q6p w P.blk hi hj).mp e).2 c hc)
 | n+1,b,P,h=>by
  have hB:=P.step w
  unfold Q1p
  split
  ·rename_i hm
   exact Y4j w n _ hB (by omega)
  ·rename_i hm
   refine⟨hB,fun i j hi hj e c hc=>?_⟩
   obtain⟨_,_,_,g1⟩:=w.row hi
   obtain⟨_,_,_,g2⟩:=w.row hj
   exact Y4e w P.blk P.full hm (g1 c hc).2 (g2 c hc).2 (((Q6p w P.blk hi hj).mp e).2 c hc)
theorem Y6b {R:List (Nat×Nat)}{g d:Nat}:∃d',(g,d')∈L6 R g d:=by
 unfold L6;split
 ·rename_i h
  obtain⟨q,hq,rfl⟩:=aj.mp h
  exact⟨q.2,hq⟩
 ·exact⟨d,by simp⟩
structure Q7c (on:List (List Nat)) (good:Nat->Nat->Prop) (R:List (Nat×Nat)) (p:Nat):Prop where
 ri:Q0n on.length R
 good:∀q∈R,good q.1 q.2
 sorted:∀(i j:Nat) (q q':Nat×Nat),i<=j->R[i]?=some q->R[j]?=some q'->q.2<=q'.2
 near:∀q∈R,∀q',R[p]?=some q'->q.2<=q'.2+1
 past:∀(i:Nat) (q:Nat×Nat),i<p->R[i]?=some q->∀g∈on.getD q.1 [],∃d,(g,d)∈R/\d<=q.2+1
theorem Y0k {d:Nat}:∀(gs:List Nat) (R:List (Nat×Nat)) (B:Nat),(∀q∈R,q.2<=B)->d<=B->∀g∈gs,∃d',(g,d')∈goR d gs R/\d'<=B
 | [],R,B,_,_,g,h=>by cases h
 | x::gs,R,B,hR,hd,g,h=>by
  have cC:∀q∈L6 R x d,q.2<=B:=fun q hq=>by
   rcases Z2n hq with z | z
   ·exact hR q z
   ·rw [z];exact hd
  rw [goR]
  rcases ao.mp h with rfl | h
  ·obtain⟨d',h'⟩:=Y6b (R:=R) (g:=g) (d:=d)
   exact⟨d',(Z1p d gs _).subset h',cC _ h'⟩
  ·exact Y0k gs _ B cC hd g h
theorem Z9c {d:Nat}:∀(gs:List Nat) (R:List (Nat×Nat)),(∀(i j:Nat) (q q':Nat×Nat),i<=j->R[i]?=some q->R[j]?=some q'->q.2<=q'.2)->(∀q∈R,q.2<=d) ->
  (∀(i j:Nat) (q q':Nat×Nat),i<=j->(goR d gs R)[i]?=some q->(goR d gs R)[j]?=some q'->q.2<=q'.2)
 | [],R,h,_=>h
 | x::gs,R,h,hd=>by
  refine Z9c gs _ ?_ ?_
  ·unfold L6
   split
   ·exact h
   ·intro i j q q' lO hi hj
    rcases bo j R.length with hjl | hjl
    ·rw [aJ hjl]at hj
     rw [aJ (by omega)]at hi
     exact h i j q q' lO hi hj
    ·have kw:q'=(x,d):=by
      rw [aS hjl]at hj
      exact(aD.mp (aw hj))
     rcases aN.mp (aw hi)with z | z
     ·rw [kw];exact hd q z
     ·rw [aD.mp z,kw];exact ai _
  ·intro q hq
   rcases Z2n hq with z | z
   ·exact hd q z
   ·rw [z];exact ai _
theorem Y2b {on:List (List Nat)}{good:Nat->Nat->Prop} (jd:∀l∈on,∀g∈l,g<on.length) (hg:∀s d,s<on.length->good s d->∀g∈on.getD s [],good g (d+1)) :
  ∀(n:Nat) (R:List (Nat×Nat)) (p:Nat),Q7c on good R p->on.length<=n+p->p<=R.length->R <+: Q0x on n R p/\Q7c on good (Q0x on n R p) (Q0x on n R p).length
 | 0,R,p,J,h,hp=>by
  have b:=J.ri.bound
  have:p=R.length:=by omega
  subst this
  exact⟨bt _,J⟩
 | n+1,R,p,J,h,hp=>by
  unfold Q0x
  split
  ·rename_i e
   have:=aC.mp e
   have:p=R.length:=by omega
   subst this
   exact⟨bt _,J⟩
  ·rename_i q e
   obtain⟨s,d⟩:=q
   have kin:=aw e
   have hs:s<on.length:=J.ri.lt _ kin
   have hpl:p<R.length:=by obtain⟨z,_⟩:=aF.mp e;exact z
   have eo:on[s]?.getD []=on.getD s []:=(am ..).symm
   have j0:∀g∈on.getD s [],g<on.length:=fun g fY=>by
    rw [am,ac hs]at fY
    exact jd _ (b9 hs) g fY
   have pre:=Z1p (d+1) (on.getD s []) R
   have near:∀q∈R,q.2<=d+1:=fun q hq=>J.near q hq _ e
   have all:∀q∈goR (d+1) (on.getD s []) R,q.2<=d+1:=fun q hq=>by
    rcases Q8e _ _ hq with z | ⟨g,_,rfl⟩
    ·exact near q z
    ·exact ai _
   have at_:∀{i:Nat}{q:Nat×Nat},i<R.length->(goR (d+1) (on.getD s []) R)[i]?=some q->R[i]?=some q:=fun {i q} hi hq=>by
    obtain⟨t,ht⟩:=pre
    rw [<- ht,aJ hi]at hq
    exact hq
   have J2:Q7c on good (goR (d+1) (on.getD s []) R) (p+1):=by
    have so:=Z9c (d:=d+1) (on.getD s []) R J.sorted near
    refine⟨J.ri.go j0,fun q hq=>?_,so,fun q hq q' kw=>?_,fun i q hi hq g fY=>?_⟩
    ·rcases Q8e _ _ hq with z | ⟨g,fY,rfl⟩
     ·exact J.good q z
     ·exact hg s d hs (J.good _ kin) g fY
    ·have h1:=all q hq
     have h2:(goR (d+1) (on.getD s []) R)[p]?=some (s,d):=by
      obtain⟨t,ht⟩:=pre
      rw [<- ht,aJ hpl];exact e
     have h3:d<=q'.2:=so p (p+1) _ _ (by omega) h2 kw
     omega
    ·have hq:=at_ (by omega) hq
     rcases bo i p with z | z
     ·obtain⟨d',h1,h2⟩:=J.past i q z hq g fY
      exact⟨d',pre.subset h1,h2⟩
     ·have:i=p:=by omega
      subst this
      rw [e]at hq;cases hq
      exact Y0k _ R (d+1) near (ai _) g fY
   have bI:=pre.length_le
   obtain⟨a1,a2⟩:=Y2b jd hg n _ (p+1) J2 (by omega) (by omega)
   rw [eo]
   exact⟨pre.trans a1,a2⟩
theorem Q7z {R:List (Nat×Nat)} (nd:(R.map (·.1)).Nodup) {s d:Nat}:G9 R s=some d ↔ (s,d)∈R:=by
 unfold G9
 constructor
 ·intro h
  cases e:R.find? (fun q=>decide (q.1=s))with
  | none=>rw [e]at h;cases h
  | some q =>
   rw [e]at h
   have h:q.2=d:=ay h
   have h1:=List.mem_of_find?_eq_some e
   have h2:=List.find?_some e
   have h2:q.1=s:=by simpa using h2
   obtain⟨a,b⟩:=q
   simp only at h h2
   subst h h2;exact h1
 ·intro h
  induction R with
  | nil=>cases h
  | cons q R ih =>
   rw [ar,bj]at nd
   rw [aZ]
   rcases ao.mp h with rfl | h
   ·simp
   ·have:¬ q.1=s:=fun z=>nd.1 (z ▸ aj.mpr ⟨_,h,rfl⟩)
    simp only [this,decide_false]
    exact ih nd.2 h
theorem Y7o {es:List Bool}{rows:List (List Nat)} (wf:Wf es rows) (b:Bool) {good:Nat->Nat->Prop} (g0:∀i,es[i]?=some b->good i 0) (gs:∀s d g c,g<es.length->c<4->D7 rows g c=s->good s d->good g (d+1)) :
  (∀q∈J1 (E5 rows) (F5 es b),good q.1 q.2)/\((J1 (E5 rows) (F5 es b)).map (·.1)).Nodup/\(∀i,es[i]?=some b->(i,0)∈J1 (E5 rows) (F5 es b)) /\
  ∀s d,(s,d)∈J1 (E5 rows) (F5 es b)->∀g c,g<es.length->c<4->D7 rows g c=s->∃d',(g,d')∈J1 (E5 rows) (F5 es b)/\d'<=d+1:=by
 have bE:∀r∈rows,∀g∈r,g<rows.length:=fun r hr g hg=>by rw [wf.len];exact wf.lt r hr g hg
 have qE:(E5 rows).length=es.length:=by rw [Q7f,wf.len]
 have J0:Q7c (E5 rows) good ((F5 es b).map fun x=>(x,0)) 0:=by
  refine⟨⟨by simpa [Function.comp_def]using Z8r,fun q hq=>?_⟩,fun q hq=>?_,fun i j q q' _ hi hj=>?_,fun q hq q' _=>?_,fun i q hi=>absurd hi (Nat.not_lt_zero _)⟩
  ·obtain⟨x,hx,rfl⟩:=aj.mp hq
   rw [qE];exact Z8q x hx
  ·obtain⟨x,hx,rfl⟩:=aj.mp hq
   exact g0 x (Z2r.mp hx)
  ·obtain⟨x,_,rfl⟩:=aj.mp (aw hi);exact bD _
  ·obtain⟨x,_,rfl⟩:=aj.mp hq;exact bD _
 obtain⟨pre,J⟩:=Y2b (Z7m bE) (fun s d hs qt g fY=>by
  obtain⟨r,e,hm⟩:=(Z2q bE).mp fY
  obtain⟨c,hc,e2⟩:=bu.mp hm
  have j1:g<es.length:=by rw [<- wf.len];obtain⟨z,_⟩:=aF.mp e;exact z
  obtain⟨r',e',l4,g4⟩:=wf.row j1
  rw [e]at e';cases e'
  have gS:c<4:=by rw [<- l4];exact hc
  have:=(g4 c gS).1
  rw [ac hc,e2]at this
  exact gs s d g c j1 gS (ay this).symm qt) (E5 rows).length _ 0 J0 (by omega) (bD _)
 refine⟨J.good,J.ri.nd,fun i hi=>pre.subset (aj.mpr ⟨i,Z2r.mpr hi,rfl⟩),fun s d hm g c j1 hc e=>?_⟩
 obtain⟨i,hi,e2⟩:=bu.mp hm
 obtain⟨r,e3,l4,g4⟩:=wf.row j1
 refine J.past i (s,d) hi (by show(J1 (E5 rows) (F5 es b))[i]?=_;rw [ac hi,e2]) g ((Z2q bE).mpr ⟨r,e3,?_⟩)
 rw [<- e]
 exact aw (g4 c hc).1
theorem Z8n {es:List Bool}{rows:List (List Nat)} (wf:Wf es rows) (b:Bool):(∀i d,i<es.length->G9 (J1 (E5 rows) (F5 es b)) i=some d->∃w,C9 w/\w.length=d/\M5 es rows i w=b) /\
  ∀(w:List Nat) (i:Nat),C9 w->i<es.length->M5 es rows i w=b->∃d,G9 (J1 (E5 rows) (F5 es b)) i=some d/\d<=w.length:=by
 obtain⟨h1,nd,h2,h3⟩:=Y7o wf b (good:=fun i d=>∃w,C9 w/\w.length=d/\M5 es rows i w=b)
  (fun i hi=>⟨[],C9.nil,rfl,by unfold M5 run;rw [List.foldl_nil,am,hi];rfl⟩)
  (fun s d g c hg hc e ⟨w,q1,q2,q3⟩=>⟨c::w,fun x hx=>by rcases ao.mp hx with rfl | hx;exact Y0c hc;exact q1 x hx,by rw [aK,q2],by unfold M5 run at q3 ⊢;rw [List.foldl_cons,e];exact q3⟩)
 refine⟨fun i d _ h=>h1 (i,d) ((Q7z nd).mp h),fun w=>?_⟩
 induction w with
 | nil =>
  intro i _ hi h
  refine⟨0,(Q7z nd).mpr (h2 i ?_),ai _⟩
  unfold M5 run at h
  rw [List.foldl_nil,am,ac hi]at h
  rw [ac hi]
  exact congrArg some h
 | cons c w ih =>
  intro i hw hi h
  have gS:=Z2 (hw c (by simp))
  obtain⟨_,_,_,g4⟩:=wf.row hi
  obtain⟨d,q1,q2⟩:=ih (D7 rows i c) (fun x hx=>hw x (by simp [hx])) (g4 c gS).2 h
  obtain⟨d',q3,q4⟩:=h3 _ _ ((Q7z nd).mp q1) i c hi gS rfl
  exact⟨d',(Q7z nd).mpr q3,by rw [aK];omega⟩
theorem Z8m {es:List Bool}{rows:List (List Nat)} (wf:Wf es rows) (b:Bool) {i j:Nat} (hi:i<es.length) (hj:j<es.length) (h:G9 (J1 (E5 rows) (F5 es b)) i≠G9 (J1 (E5 rows) (F5 es b)) j):∃w,C9 w/\M5 es rows i w≠M5 es rows j w:=by
 obtain⟨s1,s2⟩:=Z8n wf b
 have key:∀{i j d:Nat},i<es.length->j<es.length->G9 (J1 (E5 rows) (F5 es b)) i=some d->(∀d',G9 (J1 (E5 rows) (F5 es b)) j=some d'->d<d')->∃w,C9 w/\M5 es rows i w≠M5 es rows j w:=fun {i j d} hi hj e bE=>by
  obtain⟨w,q1,q2,q3⟩:=s1 i d hi e
  refine⟨w,q1,fun z=>?_⟩
  rw [q3]at z
  obtain⟨d',q4,q5⟩:=s2 w j q1 hj z.symm
  have:=bE d' q4
  omega
 cases e1:G9 (J1 (E5 rows) (F5 es b)) i with
 | none =>
  cases e2:G9 (J1 (E5 rows) (F5 es b)) j with
  | none=>rw [e1,e2]at h;exact absurd rfl h
  | some d =>
   obtain⟨w,q1,q2⟩:=key hj hi e2 (fun d' z=>by rw [e1]at z;cases z)
   exact⟨w,q1,fun z=>q2 z.symm⟩
 | some d =>
  cases e2:G9 (J1 (E5 rows) (F5 es b)) j with
  | none=>exact key hi hj e1 (fun d' z=>by rw [e2]at z;cases z)
  | some d' =>
   rcases bo d d' with z | z
   ·exact key hi hj e1 (fun x q=>by rw [e2]at q;cases q;exact z)
   ·have:d'<d:=by
     rcases bo d' d with y | y
     ·exact y
     ·rw [e1,e2,show d=d' by omega]at h;exact absurd rfl h
    obtain⟨w,q1,q2⟩:=key hj hi e2 (fun x q=>by rw [e1]at q;cases q;exact this)
    exact⟨w,q1,fun z=>q2 z.symm⟩
theorem Y1d {a b:Option Nat} (h:oD a=oD b):a=b:=by
 cases a <;> cases b
 ·rfl
 ·cases h
 ·cases h
 ·exact congrArg some (Z1r h)
theorem Y0f {es:List Bool}{rows:List (List Nat)}{i:Nat} (hi:i<es.length):(W9 es rows)[i]?=some (.tup [oD (G9 (J1 (E5 rows) (F5 es true)) i),oD (G9 (J1 (E5 rows) (F5 es false)) i)]):=by
 unfold W9
 rw [ah]
 have g:∀b,(X5 es rows b)[i]?=some (G9 (J1 (E5 rows) (F5 es b)) i):=fun b=>by
  unfold X5
  rw [ah,ac (by simpa using hi)]
  simp
 have e:((X5 es rows true).zip (X5 es rows false))[i]?=some (G9 (J1 (E5 rows) (F5 es true)) i,G9 (J1 (E5 rows) (F5 es false)) i):=bF.mpr ⟨g true,g false⟩
 rw [e]
 rfl
theorem W1z {es:List Bool}{rows:List (List Nat)} (wf:Wf es rows):Q3q es rows (O0 [] (W9 es rows)):=by
 have hB:J7 es.length (O0 [] (W9 es rows)):=J7.zero
 have og:∀{i j:Nat},i<es.length->j<es.length->(MC.blk (O0 [] (W9 es rows)) i=MC.blk (O0 [] (W9 es rows)) j ↔ G9 (J1 (E5 rows) (F5 es true)) i=G9 (J1 (E5 rows) (F5 es true)) j/\G9 (J1 (E5 rows) (F5 es false)) i=G9 (J1 (E5 rows) (F5 es false)) j):=fun {i j} hi hj=>by
  have q:=Y0z (Y0f (rows:=rows) hi) (Y0f (rows:=rows) hj)
  rw [Q2w (by rw [hB.len];exact hi),Q2w (by rw [hB.len];exact hj),Option.some_inj]at q
  rw [q]
  constructor
  ·intro h
   have h:=D.tup.inj h
   rw [dy,dy]at h
   exact⟨Y1d h.1,Y1d h.2.1⟩
  ·rintro ⟨h1,h2⟩;rw [h1,h2]
 refine⟨hB,fun x hx=>Y0y (fun z=>by have h:=hB.len;rw [z]at h;have:=wf.pos;simp at h;omega) hx,fun i j hi hj e=>?_,fun i j hi hj ne=>?_⟩
 ·obtain⟨e1,_⟩:=(og hi hj).mp e
  obtain⟨s1,s2⟩:=Z8n wf true
  have key:∀{i j:Nat},i<es.length->j<es.length->G9 (J1 (E5 rows) (F5 es true)) i=G9 (J1 (E5 rows) (F5 es true)) j->es.getD i false=true->es.getD j false=true:=fun {i j} hi hj e h=>by
   obtain⟨d,q1,q2⟩:=s2 [] i C9.nil hi h
   have:d=0:=by simpa using q2
   subst this
   rw [e]at q1
   obtain⟨w,_,q4,q5⟩:=s1 j 0 hj q1
   rw [fI.mp q4]at q5
   exact q5
  cases h1:es.getD i false <;> cases h2:es.getD j false
  ·rfl
  ·have:=key hj hi e1.symm h2;rw [h1]at this;cases this
  ·have:=key hi hj e1 h1;rw [h2]at this;cases this
  ·rfl
 ·by_cases h:G9 (J1 (E5 rows) (F5 es true)) i=G9 (J1 (E5 rows) (F5 es true)) j
  ·exact Z8m wf false hi hj fun z=>ne ((og hi hj).mpr ⟨h,z⟩)
  ·exact Z8m wf true hi hj h
theorem Z4q {es:List Bool}{rows:List (List Nat)} (wf:Wf es rows):Told es rows (E8 es rows):=by
 unfold E8 Q1p
 rw [aM (bD _)]
 exact Y4j wf es.length _ (W1z wf) (by omega)
section
variable {α:Type} [DecidableEq α]
theorem Y2d {rs:List (List Nat)}{i c:Nat}{f:Nat->Nat} (h:rs[i]?=some (B9.map f)) (hc:c∈B9):D7 rs i c=f c:=by
 unfold D7
 rw [am,am,h,Option.getD_some,ah]
 have:B9[c]?=some c:=by
  simp only [B9,ao,aT,bK]at hc
  rcases hc with rfl | rfl | rfl | rfl <;> rfl
 rw [this];rfl
theorem Z1o {ks:List α}{x:α} (h:x∈ks):ks[ks.idxOf x]?=some x:=by
 have hl:=aO.mpr h
 rw [ac hl,List.getElem_idxOf hl]
theorem Q1d.run {step:α->Nat->α}{start:α}{U ks:List α}{rs:List (List Nat)} (W:Q1d step start U ks rs):∀(w:List Nat) (i:Nat) (k:α),C9 w->ks[i]?=some k->ks[MC.run (D7 rs) i w]?=some (MC.run step k w)
 | [],i,k,_,h=>h
 | c::w,i,k,hw,h=>by
  have hc:=hw c (by simp)
  have e:=Y2d (W.row i k h) hc
  refine Q1d.run W w _ _ (fun d hd=>hw d (by simp [hd])) ?_
  rw [e]
  exact Z1o (W.mem k (aw h) c hc)
theorem Y6o {step:α->Nat->α}{start:α}{U:List α}{fin:α->Bool} (hU:∀k∈U,∀c∈B9,step k c∈U) (hs:start∈U) {w:List Nat} (hw:C9 w):E1 (Q5k U step start fin) w=fin (run step start w):=by
 have W:=Q3l (step:=step) (N:=U.length) hU hs (ai _)
 have h:=W.run w 0 start hw W.zero
 unfold E1 stW Q5k
 show(List.map fin _).getD (run (D7 _) 0 w) false=_
 rw [am,ah,h]
 rfl
end
section
variable {es:List Bool}{rows:List (List Nat)}
theorem Q3t {b:List Nat}{x:Nat} (h:x∈b):blk b (b.idxOf x)=x:=by
 show b.getD _ 0=x
 rw [am,Z1o h];rfl
theorem Z9u (wf:Wf es rows):∀(w:List Nat) (t s:Nat),C9 w->s<es.length->(K7 es rows).1[t]?=some (blk (E8 es rows) s)->(K7 es rows).1[run (D7 (K7 es rows).2) t w]?=some (blk (E8 es rows) (run (D7 rows) s w))
 | [],t,s,_,_,h=>h
 | c::w,t,s,hw,hs,h=>by
  have W:=Q4d wf
  have T:=Z4q wf
  have hc:=hw c (by simp)
  obtain⟨_,_,_,g⟩:=wf.row hs
  have hm:blk (E8 es rows) s∈E8 es rows:=Q1i (by rw [T.blk.len];exact hs)
  have h0:(E8 es rows).idxOf (blk (E8 es rows) s)<es.length:=by rw [<- T.blk.len];exact aO.mpr hm
  have e1:=Y2d (W.row t _ h) hc
  have e2:Q0e rows (E8 es rows) (blk (E8 es rows) s) c=blk (E8 es rows) (D7 rows s c):=T.cong _ _ h0 hs (Q3t hm) c (Z2 hc)
  refine Z9u wf w _ (D7 rows s c) (fun d hd=>hw d (by simp [hd])) (g c (Z2 hc)).2 ?_
  rw [e1,<- e2]
  exact Z1o (W.mem _ (aw h) c hc)
theorem Z2c (wf:Wf es rows) {w:List Nat} (hw:C9 w) {t s:Nat} (hs:s<es.length) (h:(K7 es rows).1[t]?=some (blk (E8 es rows) s)):M5 (E6 es rows).1 (E6 es rows).2 t w=M5 es rows s w:=by
 have T:=Z4q wf
 have r:=Z9u wf w t s hw hs h
 have hl:=Q8t wf w s hw hs
 have hm:blk (E8 es rows) (run (D7 rows) s w)∈E8 es rows:=Q1i (by rw [T.blk.len];exact hl)
 have h0:(E8 es rows).idxOf (blk (E8 es rows) (run (D7 rows) s w))<es.length:=by rw [<- T.blk.len];exact aO.mpr hm
 unfold M5 E6
 show(List.map _ (K7 es rows).1).getD (run (D7 (K7 es rows).2) t w) false=_
 rw [am,ah,r]
 exact T.fin _ _ h0 hl (Q3t hm)
theorem Z2b (wf:Wf es rows) {w:List Nat} (hw:C9 w):E1 (E6 es rows) w=E1 (es,rows) w:=Z2c wf hw wf.pos (Q4d wf).zero
theorem Y9n (wf:Wf es rows) {i j:Nat} (hi:i<(E6 es rows).1.length) (hj:j<(E6 es rows).1.length) (ne:i≠j):∃w,C9 w/\M5 (E6 es rows).1 (E6 es rows).2 i w≠M5 (E6 es rows).1 (E6 es rows).2 j w:=by
 have W:=Q4d wf
 have T:=Z4q wf
 have el:(E6 es rows).1.length=(K7 es rows).1.length:=by simp [E6]
 rw [el]at hi hj
 have gi:=ac hi
 have gj:=ac hj
 have nk:(K7 es rows).1[i]≠(K7 es rows).1[j]:=fun z=>ne ((List.getElem_inj W.nd).mp z)
 have mi:=W.sub _ (b9 hi)
 have mj:=W.sub _ (b9 hj)
 have li:(E8 es rows).idxOf (K7 es rows).1[i]<es.length:=by rw [<- T.blk.len];exact aO.mpr mi
 have lj:(E8 es rows).idxOf (K7 es rows).1[j]<es.length:=by rw [<- T.blk.len];exact aO.mpr mj
 obtain⟨w,hw,q⟩:=T.apart _ _ li lj (by rw [Q3t mi,Q3t mj];exact nk)
 refine⟨w,hw,?_⟩
 rw [Z2c wf hw li (by rw [Q3t mi];exact gi),Z2c wf hw lj (by rw [Q3t mj];exact gj)]
 exact q
theorem Z3u {g:Bool->Bool->Bool}{m1 m2:C5} (w1:D9 m1) (w2:D9 m2) {w:List Nat} (hw:C9 w):E1 (Z7 g m1 m2) w=g (E1 m1 w) (E1 m2 w):=by
 have W:=Q3l (step:=X1 m1 m2) (N:=(PU m1 m2).length) (fun k h c hc=>Q2i w1 w2 h hc) (Q2p w1 w2) (ai _)
 have h:E1 (Z7 g m1 m2) w=E1 (Q5k (PU m1 m2) (X1 m1 m2) (0,0) (Q0w g m1 m2)) w:=Z2b (W.wf (Q0w g m1 m2)) hw
 rw [h,Y6o (fun k h c hc=>Q2i w1 w2 h hc) (Q2p w1 w2) hw,Z3g]
end
noncomputable def Z6 (met:List Nat):List Nat->List Nat->List Nat
 | _,[]=>[]
 | pre,x::r=>if x∈met++pre then Z6 met (pre++[x]) r else x::Z6 met (pre++[x]) r
noncomputable def N9:List Nat->List (List Nat)->List Nat
 | met,[]=>met
 | met,r::rs=>N9 (met++Z6 met [] r) rs
theorem Q5x (r:List Nat):∀(rs:List (List Nat)) (met:List Nat),N9 met (rs++[r])=N9 met rs++Z6 (N9 met rs) [] r
 | [],met=>rfl
 | x::rs,met=>Q5x r rs _
section
variable {α:Type} [DecidableEq α]
theorem Q8i (st:Nat->α) (n:Nat):∀(cs:List Nat) (ks:List α) (pre full:List Nat),full=pre++cs.map (fun c=>(F3 st cs ks pre).1.idxOf (st c))->n<=ks.length->(∀x,x<ks.length->x<n\/x∈pre)->(∀x∈pre,x<ks.length) ->
  Z6 (List.range n) pre (cs.map fun c=>(F3 st cs ks pre).1.idxOf (st c))=(List.range ((F3 st cs ks pre).1.length-ks.length)).map fun i=>ks.length+i
 | [],ks,pre,full,_,_,_,_=>by simp [F3,Z6]
 | c::cs,ks,pre,full,_,hn,h1,h2=>by
  have pp:=Q4l st cs (L7 ks (st c)) (pre++[(L7 ks (st c)).idxOf (st c)])
  have iW:st c∈L7 ks (st c):=Z2p.mpr (.inr rfl)
  have ei:(F3 st (c::cs) ks pre).1.idxOf (st c)=(L7 ks (st c)).idxOf (st c):=by rw [F3];exact Z1u pp iW
  have lu:F3 st (c::cs) ks pre=F3 st cs (L7 ks (st c)) (pre++[(L7 ks (st c)).idxOf (st c)]):=rfl
  have bI:=pp.length_le
  rw [ar,Z6,ei]
  simp only [lu]
  by_cases hm:st c∈ks
  ·have ea:L7 ks (st c)=ks:=Z0u hm
   have hl:=aO.mpr hm
   simp only [ea]at bI ⊢
   rw [aM (by
    rcases h1 _ hl with z | z
    ·exact bb _ (bL.mpr z)
    ·exact ak _ z)]
   exact Q8i st n cs ks _ _ rfl hn (fun x hx=>(h1 x hx).imp id fun z=>by simp [z]) fun x hx=>by
    rcases aN.mp hx with z | z
    ·exact h2 x z
    ·rw [aD.mp z];exact hl
  ·have ea:L7 ks (st c)=ks++[st c]:=Z0v hm
   have ex:(ks++[st c]).idxOf (st c)=ks.length:=by
    rw [List.idxOf_append,aI hm];simp
   simp only [ea,ex]at bI ⊢
   rw [aE,bG]at bI
   rw [aI (fun z=>by
    rcases aN.mp z with z | z
    ·have:=bL.mp z;omega
    ·have:=h2 _ z;omega)]
   have ih:=Q8i st n cs (ks++[st c]) (pre++[ks.length]) _ rfl (by simp;omega) (fun x hx=>by
    rw [aE,bG]at hx
    rcases bo x ks.length with z | z
    ·exact(h1 x z).imp id fun z=>by simp [z]
    ·exact .inr (by simp;omega)) fun x hx=>by
    rw [aE,bG]
    rcases aN.mp hx with z | z
    ·have:=h2 x z;omega
    ·rw [aD.mp z];omega
   rw [ih]
   rw [aE,bG]
   obtain⟨m,lI⟩:∃m,(F3 st cs (ks++[st c]) (pre++[ks.length])).1.length=ks.length+1+m:=⟨_,(Nat.add_sub_cancel' bI).symm⟩
   rw [lI,show ks.length+1+m-(ks.length+1)=m by omega,show ks.length+1+m-ks.length=m+1 by omega,List.range_succ_eq_map,ar,aQ]
   congr 1
   exact bB fun i _=>by simp;omega
theorem range_add (n m:Nat):List.range n++(List.range m).map (fun i=>n+i)=List.range (n+m):=(List.range_add).symm
theorem Y0q {step:α->Nat->α}:∀(n:Nat) (ks:List α) (rs:List (List Nat)),N9 [0] rs=List.range ks.length->N9 [0] (M3 step n ks rs).2=List.range (M3 step n ks rs).1.length
 | 0,ks,rs,h=>h
 | n+1,ks,rs,h=>by
  unfold M3
  split
  ·exact h
  ·rename_i k e
   refine Y0q n _ _ ?_
   have hp:=(Q4l (step k) B9 ks []).length_le
   rw [Q5x,h,Q8s,dw,Q8i (step k) ks.length B9 ks [] _ rfl (ai _) (fun x hx=>.inl hx) (fun x hx=>by cases hx),range_add]
   congr 1
   omega
theorem W0e {step:α->Nat->α}{start:α}{N:Nat}:N9 [0] (Y4 N step start).2=List.range (Y4 N step start).1.length:=Y0q N _ _ rfl
end
theorem W0d (es:List Bool) (rows:List (List Nat)):N9 [0] (E6 es rows).2=List.range (E6 es rows).1.length:=by
 have:=W0e (step:=Q0e rows (E8 es rows)) (start:=(E8 es rows).getD 0 0) (N:=es.length)
 have el:(E6 es rows).1.length=(K7 es rows).1.length:=by simp [E6]
 rw [el]
 exact this
end MC
end
section
namespace PySem
section
variable {prog:Program}{w:World}{A:Around}{E:VS9}{s:Shared}{d it:Addr}{es:Array DictEntry}{ep i:Nat}
end
end PySem
namespace TK
open PySem PySem.Spec PyProof.Rows L2
section
variable {X:Cx}
end
end TK
end
section
namespace TK
open PySem PySem.Spec PyProof.Rows L2
section
variable {X:Cx}{ae:Pn9} {σ:St}{H H0:Hp}{s:Shared}{a:Addr}
end
section
variable {X:Cx}{H0:Hp}{st:Stmt}{w:WS}
end
section
variable {X:Cx}{H0:Hp}{a b c e o tg:Expr}{pos be p2 apos bc:Pos}{wa wb wi we wv:WE}{x:Str}{i:Nat}
end
section
variable {X:Cx}{H0:Hp}{e tg:Expr}{i:Nat}
end
section
variable {X:Cx}{H0:Hp}{a:Expr}{p p2 pos eJ:Pos}{wr:WA}
end
end TK
end
section
namespace MC
open PySem PySem.Spec PyProof.Rows L2 TK
abbrev Z7f:List Str:=["one","other"]
def Q6w:WE:=(Q3k (wV 0) (Q6s (wV 1)))
def Y5d (cb:C4)  (bM:E2):WS:=(G1 (A9 bM (A0 (wV 0) (A0 (wV 1) (A0 (Q2o cb 2 (L8 Q6w [])) A2)))))
abbrev Z6y:List Str:=["machine","ends","rows"]
def Z5x   (sp_least:E2):WS:=(B1 (Q6q (wV 0) (gTp 2 (G7 (C0 1) (G7 (C0 2) gNl)))) (G1 (A9 sp_least (A0 (wV 1) (A0 (wV 2) A2)))))
abbrev Z0m:List Str:=["one","ends","rows"]
def Z6a   (sp_least_of:E2):WS:=(B1 (Q6q (A9 sp_least_of (A0 (wV 0) A2)) (gTp 2 (G7 (C0 1) (G7 (C0 2) gNl)))) (G1 (W4 (A0 (B3 (C3 P7 (A0 (V0 1 [] (Q3z (wV 1)) (C0 0) T2 (B3 (Q6s (wV 0)))) A2))) (A0 (B3 (wV 2)) A2)))))
abbrev Z0k:List Str:=["some","rows","ends","text","state","sign","column"]
def Z5y   (sp_least:E2):WS:=(B1 (Z5f 1 (R0 (A0 (B3 (wC (.int 1))) (A0 (B3 (wC (.int 1))) (A0 (B3 (wC (.int 1))) (A0 (B3 (wC (.int 1))) A2))))) (R0 (A0 (B3 (wC (.int 1))) (A0 (B3 (wC (.int 1))) (A0 (B3 (wC (.int 1))) (A0 (B3 (wC (.int 1))) A2)))))) (B1 (C8 2 (R0 (A0 (B3 (wC (.bl false))) (A0 (B3 (wC (.bl false))) A2)))) (B1 (Q9t 1 (V1 (iBor 0) (C0 3) (B1 (C8 4 (wC (.int 0))) (B1 (V1 (Z1t (wV 3)) (C0 5) (B1 (C8 6 (Z4z (wC (.str "01ab")) (wV 5))) (B1 (O6 (A7 (E9 60 false) (Z5e 1 (wV 4) (wV 6)) (wC (.int 1))) (B1 (Y4x 1 (wV 4) (wV 6) (Y4v 1)) (B1 (Y4w 1 (R0 (A0 (B3 (wC (.int 1))) (A0 (B3 (wC (.int 1))) (A0 (B3 (wC (.int 1))) (A0 (B3 (wC (.int 1))) A2)))))) (Q4 2 (B3 (wC (.bl false)))))) O7) (C8 4 (Z5e 1 (wV 4) (wV 6)))))) (Y4z 2 (wV 4) (B3 (wC (.bl true)))))))) (G1 (A9 sp_least (A0 (wV 2) (A0 (B3 (V0 1 [] (Q2c (wV 1)) (C0 0) T2 (B3 (C3 P7 (A0 (wV 0) A2))))) A2)))))))
abbrev Z0i:List Str:=["ends","last"]
def Z5s   :WS:=(B1 (C8 1 (A7 (N3 NoC fun i j=>i-j) (C3 F2 (A0 (wV 0) A2)) (wC (.int 1)))) (G1 (W4 (A0 (B3 (wV 0)) (A0 (B3 (C3 P7 (A0 (V0 1 [1] (Q3y (A0 (C3 F2 (A0 (wV 0) A2)) A2)) (C0 0) T2 (B3 (A7 Q8g (W4 (A0 (B3 (C3 Q5y (A0 (A7 K5 (wV 0) (wC (.int 1))) (A0 (wV 1) A2)))) A2)) (C3 F2 (A0 (wC (.str "01ab")) A2))))) A2))) A2)))))
abbrev Z6s:List Str:=[]
def Z5p   (sp_in_line:D6):WS:=(G1 (U4 sp_in_line (A0 (W4 (A0 (B3 (wC (.bl true))) A2)) A2)))
theorem W7n:Q0o T9 (L8 Q6w []):=by
 intro x y
 refine⟨[.bl x,.bl y],_,rfl,rfl,?_⟩
 cases x <;> cases y <;> simp [Q6w]
theorem W4t {cb:C4}:∀rs Pr,rs.length=2->D5 T9 rs Pr->Y5d cb (Q0z cb) (P3 Pr) (E7 Z7f rs):=Z3l W7n
noncomputable def sp_least_of:E2:=fun rs Pr=>∃m:C5,rs=[.st (mD m)]/\D9 m/\m.1.length<=20000/\Pr (.st (mD (E6 m.1 m.2)))
theorem Q8f:T6 sp_least_of:=by rintro rs P Q f ⟨m,e,h1,h2,h3⟩;exact⟨m,e,h1,h2,f _ h3⟩
theorem W4g:∀rs Pr,rs.length=1->sp_least_of rs Pr->Z5x sp_least (P3 Pr) (E7 Z6y rs):=by
 rintro rs Pr _ ⟨m,rfl,hw,hl,h⟩
 unfold Z5x
 simp only [G3,S7,S6,D4,C7,C1,Q8u,Q2l,Q2j,U9,Q2k]
 exact⟨_,rfl,_,rfl,_,rfl,rfl,_,_,rfl,_,_,rfl,rfl,_,rfl,_,rfl,rfl,_,m.1,m.2,_,rfl,.inl rfl,.inr rfl,hw,hl,h⟩
noncomputable def Y1 (m:C5):C5:=((E6 m.1 m.2).1.map not,(E6 m.1 m.2).2)
noncomputable def Y2:E2:=fun rs Pr=>∃m:C5,rs=[.st (mD m)]/\D9 m/\m.1.length<=20000/\Pr (.st (mD (Y1 m)))
theorem Q3b:T6 Y2:=by rintro rs P Q f ⟨m,e,h1,h2,h3⟩;exact⟨m,e,h1,h2,f _ h3⟩
theorem W4k:∀rs Pr,rs.length=1->Y2 rs Pr->Z6a sp_least_of (P3 Pr) (E7 Z0m rs):=by
 rintro rs Pr _ ⟨m,rfl,hw,hl,h⟩
 unfold Z6a
 simp only [G3,S7,S6,D4,C7,C1,Q8u,Q2l,Q2j,U9,Q2k,s_tup,G2,L0,Q0y,Z3t]
 refine⟨_,rfl,rfl,m,rfl,hw,hl,_,rfl,_,rfl,rfl,_,_,rfl,_,_,rfl,rfl,_,rfl,_,rfl,?_⟩
 refine⟨?_,?_⟩
 ·have fB:=Q2g hw
  rw [ag];exact sz (by omega)
 refine Q1h (f:=fun d=>match d with | .bl b=>.bl (!b) | d=>d) _ none _ (fun d hd Q' q=>?_) ?_
 ·obtain⟨b,_,rfl⟩:=aj.mp hd
  simp only [G2,W5y,C1]
  exact⟨_,rfl,q⟩
 rw [aQ]
 refine⟨_,rfl,?_⟩
 refine⟨_,rfl,_,rfl,sz (by simp),?_⟩
 unfold Y1 at h
 rw [show(E6 m.1 m.2).1.map ((fun d=>match d with | D.bl b=>D.bl (!b) | d=>d) ∘ D.bl)=((E6 m.1 m.2).1.map not).map D.bl by rw [aQ];rfl]
 exact h
section
variable {es:List Bool}{rows:List (List Nat)}
theorem Y2e (wf:Wf es rows) {i c:Nat} (hi:i<es.length) (hc:c∈B9):D7 rows i c<es.length:=by
 obtain⟨_,_,_,h⟩:=wf.row hi
 exact(h c (by simp only [B9,ao,aT,bK]at hc;omega)).2
end
section
variable {es:List Bool}{rows:List (List Nat)}
structure N2 (m:C5):Prop where
 wf:D9 m
 met:N9 [0] m.2=List.range m.1.length
 seen:∀s,s<m.1.length->s<(N9 [0] (m.2.take s)).length
 apart:∀i j,i<m.1.length->j<m.1.length->i≠j->∃w,C9 w/\M5 m.1 m.2 i w≠M5 m.1 m.2 j w
end
section
variable {α:Type} [DecidableEq α]
theorem Y3y {step:α->Nat->α}:∀(n:Nat) (ks:List α) (rs:List (List Nat)),N9 [0] rs=List.range ks.length->(∀s,s<rs.length->s<(N9 [0] (rs.take s)).length)->∀s,s<(M3 step n ks rs).2.length->s<(N9 [0] ((M3 step n ks rs).2.take s)).length
 | 0,ks,rs,_,h=>h
 | n+1,ks,rs,hm,h=>by
  unfold M3
  split
  ·exact h
  ·rename_i k e
   have hp:=(Q4l (step k) B9 ks []).length_le
   have lI:N9 [0] (rs++[(F3 (step k) B9 ks []).2])=List.range (F3 (step k) B9 ks []).1.length:=by
    rw [Q5x,hm,Q8s,dw,Q8i (step k) ks.length B9 ks [] _ rfl (ai _) (fun x hx=>.inl hx) (fun x hx=>by cases hx),range_add]
    congr 1
    omega
   refine Y3y n _ _ lI fun s hs=>?_
   rw [aE,aK,hV]at hs
   by_cases lt:s<rs.length
   ·rw [List.take_append_of_le_length (cO lt)];exact h s lt
   ·have:s=rs.length:=by omega
    subst this
    rw [List.take_append_of_le_length (ai _),List.take_length,hm,bV]
    exact(aF.mp e).1
end
theorem W6h {es:List Bool}{rows:List (List Nat)} (w:Wf es rows):∀s,s<(E6 es rows).1.length->s<(N9 [0] ((E6 es rows).2.take s)).length:=by
 have h:=Y3y (step:=Q0e rows (E8 es rows)) es.length [(E8 es rows).getD 0 0] [] rfl (fun s hs=>absurd hs (Nat.not_lt_zero _))
 intro s hs
 refine h s ?_
 have:=(Z2a w).len
 show s<(E6 es rows).2.length
 rw [this];exact hs
theorem Q2z {es:List Bool}{rows:List (List Nat)} (w:Wf es rows):N2 (E6 es rows):=⟨Z2a w,W0d es rows,W6h w,fun i j hi hj ne=>Y9n w hi hj ne⟩
theorem Z9a {es:List Bool}{k:Nat} (h:k<es.length):(es.map not).getD k false=!(es.getD k false):=by
 rw [am,am,ah,ac h];rfl
theorem Y1i {m:C5} (w:D9 m):N2 (Y1 m):=by
 have L:=Q2z w
 have el:(Y1 m).1.length=(E6 m.1 m.2).1.length:=by unfold Y1;simp
 refine⟨?_,?_,?_,?_⟩
 ·exact⟨by rw [el];exact L.wf.len,by rw [el];exact L.wf.pos,L.wf.r4,fun r hr x hx=>by rw [el];exact L.wf.lt r hr x hx⟩
 ·rw [el];exact L.met
 ·rw [el];exact L.seen
 ·rw [el]
  intro i j hi hj ne
  obtain⟨u,hu,h⟩:=L.apart i j hi hj ne
  refine⟨u,hu,fun e=>h ?_⟩
  have go:∀k,k<(E6 m.1 m.2).1.length->M5 (Y1 m).1 (Y1 m).2 k u=!M5 (E6 m.1 m.2).1 (E6 m.1 m.2).2 k u:=fun k hk=>by
   have lt:=Q8t L.wf u k hu hk
   exact Z9a lt
  rw [go i hi,go j hj]at e
  cases h1:M5 (E6 m.1 m.2).1 (E6 m.1 m.2).2 i u <;> cases h2:M5 (E6 m.1 m.2).1 (E6 m.1 m.2).2 j u <;> rw [h1,h2]at e <;> first | rfl | cases e
theorem Q3e {m:C5} (wf:D9 m) {w:List Nat} (hw:C9 w):E1 (Y1 m) w=!E1 m w:=by
 have L:=Q2z wf
 have e:=Z2b wf hw
 have lt:=Q8t L.wf w 0 hw L.wf.pos
 rw [<- e]
 exact Z9a lt
theorem W6n {g:Bool->Bool->Bool}{m1 m2:C5} (w1:D9 m1) (w2:D9 m2):N2 (Z7 g m1 m2) :=
 Q2z ((Q3l (step:=X1 m1 m2) (N:=(PU m1 m2).length) (fun k h c hc=>Q2i w1 w2 h hc) (Q2p w1 w2) (ai _)).wf _)
theorem Z3o {R:Nat->Nat->Prop} (i1:∀{x x' y},R x y->R x' y->x=x') (i2:∀{x y y'},R x y->R x y'->y=y') {f1 f2:Nat->Nat}{met:List Nat} :
  ∀(cs pre:List Nat) (k a b:Nat),(∀c∈cs,R (f1 c) (f2 c))->(∀x,x∈met++pre ↔ x<k)->(∀x,x<k->R x x) ->
   Z6 met pre (cs.map f1)=List.range' k a->Z6 met pre (cs.map f2)=List.range' k b->cs.map f1=cs.map f2/\∀x,x<k+a->R x x
 | [],pre,k,a,b,_,_,h2,h3,_=>⟨rfl,by
   cases a with
   | zero=>exact h2
   | succ a=>exact nomatch h3⟩
 | c::cs,pre,k,a,b,h0,h1,h2,h3,h4=>by
  have hc:=h0 c aA
  have nK:∀c∈cs,R (f1 c) (f2 c):=fun d hd=>h0 d (ax _ hd)
  rw [ar,Z6]at h3 h4
  by_cases lt:f1 c<k
  ·have e:f1 c=f2 c:=i2 (h2 _ lt) hc
   rw [aM ((h1 _).mpr lt)]at h3
   rw [<- e,aM ((h1 _).mpr lt)]at h4
   obtain⟨q1,q2⟩:=Z3o (R:=R) (f1:=f1) (f2:=f2) (fun a b=>i1 a b) (fun a b=>i2 a b) cs (pre++[f1 c]) k a b nK (fun x=>by
    rw [<- eV,aN,aD,h1]
    exact⟨fun h=>h.elim id (fun e=>e ▸ lt),Or.inl⟩) h2 h3 h4
   exact⟨by rw [ar,ar,q1,<- e],q2⟩
  ·have p7:¬ f2 c<k:=fun h=>lt (i1 (h2 _ h) hc ▸ h)
   rw [aI (fun h=>lt ((h1 _).mp h))]at h3
   rw [aI (fun h=>p7 ((h1 _).mp h))]at h4
   cases a with
   | zero=>exact nomatch h3
   | succ a =>
   cases b with
   | zero=>exact nomatch h4
   | succ b =>
   rw [List.range'_succ]at h3 h4
   injection h3 with e1 h3
   injection h4 with e2 h4
   rw [e1,e2]at hc
   rw [e1]at h3
   rw [e2]at h4
   obtain⟨q1,q2⟩:=Z3o (R:=R) (f1:=f1) (f2:=f2) (fun a b=>i1 a b) (fun a b=>i2 a b) cs (pre++[k]) (k+1) a b nK (fun x=>by
    rw [<- eV,aN,aD,h1]
    omega) (fun x hx=>by
    by_cases e:x=k
    ·rw [e];exact hc
    ·exact h2 x (by omega)) h3 h4
   exact⟨by rw [ar,ar,q1,e1,e2],fun x hx=>q2 x (by omega)⟩
theorem Y0p:∀(rs:List (List Nat)) (met:List Nat),met <+: N9 met rs
 | [],_=>bt _
 | r::rs,met=>(dQ _ _).trans (Y0p rs _)
theorem Y0o:∀(rs qs:List (List Nat)) (met:List Nat),N9 met (rs++qs)=N9 (N9 met rs) qs
 | [],_,_=>rfl
 | r::rs,qs,met=>Y0o rs qs _
theorem N2.metTake {m:C5} (L:N2 m) (s:Nat):∃k,N9 [0] (m.2.take s)=List.range k:=by
 have h:N9 [0] (m.2.take s) <+: List.range m.1.length:=by
  rw [<- L.met]
  conv=>rhs;rw [<- List.take_append_drop s m.2,Y0o]
  exact Y0p _ _
 rw [List.prefix_iff_eq_take,List.take_range]at h
 exact⟨_,h⟩
theorem Wf.rowEq {es:List Bool}{rows:List (List Nat)} (w:Wf es rows) {s:Nat} (h:s<es.length):rows[s]?=some (B9.map (D7 rows s)):=by
 obtain⟨r,e,l,g⟩:=w.row h
 rw [e]
 have g0:=(g 0 (by decide)).1
 have g1:=(g 1 (by decide)).1
 have g2:=(g 2 (by decide)).1
 have g3:=(g 3 (by decide)).1
 match r,l with
 | [a,b,c,d],_ =>
  injection g0 with g0;injection g1 with g1;injection g2 with g2;injection g3 with g3
  show some [a,b,c,d]=some [D7 rows s 0,D7 rows s 1,D7 rows s 2,D7 rows s 3]
  rw [<- g0,<- g1,<- g2,<- g3]
structure A5 (m1 m2:C5) (i j:Nat):Prop where
 l1:i<m1.1.length
 l2:j<m2.1.length
 w:∀w,C9 w->M5 m1.1 m1.2 i w=M5 m2.1 m2.2 j w
theorem A5.step {m1 m2:C5}{i j:Nat} (h:A5 m1 m2 i j) (w1:D9 m1) (w2:D9 m2) {c:Nat} (hc:c∈B9):A5 m1 m2 (D7 m1.2 i c) (D7 m2.2 j c) :=
 ⟨Y2e w1 h.l1 hc,Y2e w2 h.l2 hc,fun w hw=>h.w (c::w) fun d hd=>(ao.mp hd).elim (fun e=>e ▸ hc) (hw d)⟩
theorem N2.inj1 {m1 m2:C5} (L:N2 m1) {i i' j:Nat} (a:A5 m1 m2 i j) (b:A5 m1 m2 i' j):i=i':=by
 by_cases e:i=i'
 ·exact e
 ·obtain⟨w,hw,ne⟩:=L.apart i i' a.l1 b.l1 e
  exact absurd ((a.w w hw).trans (b.w w hw).symm) ne
theorem N2.inj2 {m1 m2:C5} (L:N2 m2) {i j j':Nat} (a:A5 m1 m2 i j) (b:A5 m1 m2 i j'):j=j':=by
 by_cases e:j=j'
 ·exact e
 ·obtain⟨w,hw,ne⟩:=L.apart j j' a.l2 b.l2 e
  exact absurd ((a.w w hw).symm.trans (b.w w hw)) ne
theorem N2.takes {m1 m2:C5} (L1:N2 m1) (L2:N2 m2) (h:∀w,C9 w->E1 m1 w=E1 m2 w):∀s,s<=m1.1.length->s<=m2.1.length ->
  m1.2.take s=m2.2.take s/\∀x,x<(N9 [0] (m1.2.take s)).length->A5 m1 m2 x x
 | 0,_,_=>⟨rfl,fun x hx=>by
  have e:x=0:=by simpa [N9]using hx
  rw [e];exact⟨L1.wf.pos,L2.wf.pos,h⟩⟩
 | s+1,h1,h2=>by
  obtain⟨e,sm⟩:=N2.takes L1 L2 h s (by omega) (by omega)
  have r1:=L1.wf.rowEq (s:=s) h1
  have r2:=L2.wf.rowEq (s:=s) h2
  have t1:m1.2.take (s+1)=m1.2.take s++[B9.map (D7 m1.2 s)]:=by rw [List.take_add_one,r1];rfl
  have t2:m2.2.take (s+1)=m1.2.take s++[B9.map (D7 m2.2 s)]:=by rw [List.take_add_one,r2,e];rfl
  obtain⟨k,ek⟩:=L1.metTake s
  obtain⟨k1,oh⟩:=L1.metTake (s+1)
  obtain⟨k2,rh⟩:=L2.metTake (s+1)
  have ks:s<(N9 [0] (m1.2.take s)).length:=L1.seen s h1
  rw [ek,bV]at ks sm
  have cut:∀{k':Nat}{l:List Nat},List.range k++l=List.range k'->l=List.range' k (k'-k):=fun {k' l} q=>by
   have fB:k<=k':=by have:=congrArg List.length q;simp at this;omega
   have q2:List.range k'=List.range k++List.range' k (k'-k):=by
    have e:k'=k+(k'-k):=by omega
    conv=>lhs;rw [e,List.range_eq_range',<- List.range'_append_1]
    rw [List.range_eq_range',Nat.zero_add]
   rw [q2]at q
   exact List.append_cancel_left q
  have n1:=cut (l:=Z6 (List.range k) [] (B9.map (D7 m1.2 s))) (by rw [<- oh,t1,Q5x,ek])
  have n2:=cut (l:=Z6 (List.range k) [] (B9.map (D7 m2.2 s))) (by rw [<- rh,t2,Q5x,ek])
  obtain⟨q1,q2⟩:=Z3o (R:=A5 m1 m2) (fun a b=>L1.inj1 a b) (fun a b=>L2.inj2 a b) B9 [] k _ _ (fun c hc=>(sm s ks).step L1.wf L2.wf hc) (fun x=>by simp) sm n1 n2
  refine⟨by rw [t1,t2,q1],fun x hx=>q2 x ?_⟩
  rw [oh,bV]at hx
  omega
theorem N2.lenLe {m1 m2:C5} (L1:N2 m1) (L2:N2 m2) (h:∀w,C9 w->E1 m1 w=E1 m2 w):m2.1.length<=m1.1.length:=by
 by_cases lt:m1.1.length<m2.1.length
 ·have t:=(L1.takes L2 h m1.1.length (ai _) (cO lt)).1
  have:=L2.seen _ lt
  rw [<- t,List.take_of_length_le (gA L1.wf.len),L1.met,bV]at this
  omega
 ·omega
theorem N2.eq {m1 m2:C5} (L1:N2 m1) (L2:N2 m2) (h:∀w,C9 w->E1 m1 w=E1 m2 w):m1=m2:=by
 have el:m1.1.length=m2.1.length:=Nat.le_antisymm (L2.lenLe L1 fun w hw=>(h w hw).symm) (L1.lenLe L2 h)
 obtain⟨t,sm⟩:=L1.takes L2 h m1.1.length (ai _) (gA el)
 have t1:m1.2.take m1.1.length=m1.2:=List.take_of_length_le (gA L1.wf.len)
 rw [t1,L1.met,bV]at sm
 rw [t1,el,List.take_of_length_le (gA L2.wf.len)]at t
 refine Prod.ext (List.ext_getElem el fun i a b=>?_) t
 have:=(sm i a).w [] C9.nil
 unfold M5 at this
 rw [show run (D7 m1.2) i []=i from rfl,show run (D7 m2.2) i []=i from rfl]at this
 simpa [am,a,b]using this
structure MV (w:WE) (τ:A8) (m:C5) (n:Nat):Prop where
 L:N2 m
 le:m.1.length<=n
 q:∀Q:R->Prop,Q (.st (mD m))->w τ Q
section
variable {τ:A8}{w1 w2 w:WE}{m m1 m2:C5}{n n1 n2:Nat}{g:Bool->Bool->Bool}
theorem MV.var {i:Nat} (L:N2 m) (le:m.1.length<=n) (h:τ[i]?=some (some (.dat (mD m)))):MV (wV i) τ m n:=⟨L,le,fun Q q=>by rw [C1];exact⟨_,h,q⟩⟩
theorem Y4n (L1:N2 m1) (L2:N2 m2) (l1:m1.1.length<=n1) (l2:m2.1.length<=n2) (h:n1*n2<=20000):Two m1 m2:=⟨L1.wf,L2.wf,aX (Nat.mul_le_mul l1 l2) h⟩
theorem MV.side (h1:MV w1 τ m1 n1) (h2:MV w2 τ m2 n2) (h:n1*n2<=20000:=by decide):MV (A9 (D5 g) (A0 w1 (A0 w2 A2))) τ (Z7 g m1 m2) (n1*n2) :=
 ⟨W6n h1.L.wf h2.L.wf,aX (W6l h1.L.wf h2.L.wf) (Nat.mul_le_mul h1.le h2.le),fun Q q=>by
  simp only [S6,D4,C7]
  exact h1.q _ (h2.q _ ⟨rfl,m1,m2,rfl,Y4n h1.L h2.L h1.le h2.le h,q⟩)⟩
theorem W1y (w:D9 m):(Y1 m).1.length<=m.1.length:=by
 have:=Q2g w
 have e:(Y1 m).1.length=(E6 m.1 m.2).1.length:=by unfold Y1;simp
 omega
theorem MV.other (h1:MV w1 τ m n) (h:n<=20000:=by decide):MV (A9 Y2 (A0 w1 A2)) τ (Y1 m) n :=
 ⟨Y1i h1.L.wf,aX (W1y h1.L.wf) h1.le,fun Q q=>by
  simp only [S6,D4,C7]
  exact h1.q _ ⟨rfl,m,rfl,h1.L.wf,aX h1.le h,q⟩⟩
theorem Y7l (m:C5):D.depth (mD m)<=59:=by
 have h0:∀l:List Bool,D.depths (l.map D.bl)<=0:=fun l=>by
  induction l with
  | nil=>exact ai _
  | cons a l ih=>simp only [ar,D.depths,D.depth];omega
 have h1:∀l:List Nat,D.depths (l.map iD)<=0:=fun l=>by
  induction l with
  | nil=>exact ai _
  | cons a l ih=>simp only [ar,D.depths,D.depth];omega
 have h2:∀l:List (List Nat),D.depths (l.map rD)<=1:=fun l=>by
  induction l with
  | nil=>exact bD _
  | cons a l ih=>simp only [ar,D.depths,D.depth];have:=h1 a;omega
 have a:=h0 m.1
 have b:=h2 m.2
 simp only [mD,rsD,D.depth,D.depths]
 omega
def No (t:WT) (τ:A8):Prop:=∀Q:Bool->Prop,Q false->t τ Q
theorem MV.ne (h1:MV w1 τ m1 n1) (h2:MV w2 τ m2 n2) (e:∀u,C9 u->E1 m1 u=E1 m2 u):No (A7 (E9 59 true) w1 w2) τ:=fun Q q=>by
 rw [J5]
 refine h1.q _ (h2.q _ ?_)
 rw [Z2v,h1.L.eq h2.L e]
 exact⟨_,_,rfl,rfl,Y7l m2,by rw [D.eq_refl];exact q⟩
theorem No.or {t u:WT} (h1:No t τ) (h2:No u τ):No (wOr t u) τ:=fun Q q=>by
 rw [s_or]
 exact h1 _ (by rw [aI (by decide)];exact h2 _ q)
theorem No.skip {t:WT}{ws:WS}{E:G8} (h:No t τ) (q:E.nx τ):O6 t ws O7 E τ:=by
 rw [Q4n]
 exact h _ (by rw [aI (by decide)];exact q)
theorem MV.within (h1:MV w1 τ m1 n1) (h2:MV w2 τ m2 n2) (e:∀u,C9 u->E1 m1 u=true->E1 m2 u=true) {Q:R->Prop} (q:Q (.st (.bl true))) (h:n1*n2<=20000:=by decide):A9 Q0k (A0 w1 (A0 w2 A2)) τ Q:=by
 simp only [S6,D4,C7]
 refine h1.q _ (h2.q _ ⟨rfl,m1,m2,rfl,Y4n h1.L h2.L h1.le h2.le h,?_⟩)
 have:Q3w T9 m1 m2=none:=(Y7w h1.L.wf h2.L.wf).mpr fun u hu=>by
  cases a:E1 m1 u with
  | false=>rfl
  | true=>rw [e u hu a];rfl
 rw [this];exact q
theorem U2 (w1:D9 m1) (w2:D9 m2) {u:List Nat} (h:C9 u):E1 (Z7 P0 m1 m2) u=(E1 m1 u||E1 m2 u):=Z3u w1 w2 h
theorem U1 (w1:D9 m1) (w2:D9 m2) {u:List Nat} (h:C9 u):E1 (Z7 O9 m1 m2) u=(E1 m1 u&&E1 m2 u):=Z3u w1 w2 h
theorem Q8h (w1:D9 m1) (w2:D9 m2) {u:List Nat} (h:C9 u):E1 (Z7 T9 m1 m2) u=(E1 m1 u&&!E1 m2 u):=Z3u w1 w2 h
end
noncomputable def Z5 (es:List Bool):C5:=(es,(List.range es.length).map fun s=>List.replicate 4 (if es.length-1<s+1 then es.length-1 else s+1))
noncomputable def sp_in_line:D6:=fun rs r=>∃es:List Bool,rs=[.st (.tup (es.map .bl))]/\0<es.length/\es.length<=1000/\r=.st (mD (Z5 es))
theorem W4d:∀rs r,rs.length=1->sp_in_line rs r->Z5s (Y6 r) (E7 Z0i rs):=by
 rintro rs r _ ⟨es,rfl,h0,h1,rfl⟩
 have en:(es.length:Int)-1=((es.length-1:Nat):Int):=by omega
 have er:Q3 0 (es.length:Int).toNat=(List.range es.length).map iD:=by simp [Q3]
 unfold Z5s
 simp only [G3,O4,J5,L0,D4,C1,J9,C7,S7,s_tup,G2,Q0y,Q8v]
 refine⟨_,rfl,?_⟩
 show F2 [R.st (.tup (es.map .bl))] _
 rw [Z2y,ag,Y1e,en]
 refine⟨trivial,?_⟩
 rw [Q2]
 refine⟨_,rfl,_,rfl,?_⟩
 show F2 [R.st (.tup (es.map .bl))] _
 rw [Z2y,ag]
 refine⟨_,rfl,by omega,by omega,?_⟩
 rw [er]
 refine⟨sz (by simp;omega),?_⟩
 refine Q1h (f:=fun d=>match d with | .int k=>rD (List.replicate 4 (if es.length-1<k.toNat+1 then es.length-1 else k.toNat+1)) | d=>d) _ _ _ (fun d hd Q' q=>?_) ?_
 ·obtain⟨k,hk,rfl⟩:=aj.mp hd
  simp only [G2,J5,s_tup,D4,L0,C1,J9,C7]
  refine⟨_,rfl,?_⟩
  show K5 (R.st (.int _)) (R.st (.int _)) _
  rw [Q1l]
  refine⟨_,rfl,?_⟩
  show Q5y [R.st (.int ((k:Int)+1)),R.st (.int ((es.length-1:Nat):Int))] _
  rw [W5x]
  refine⟨_,rfl,sz (by simp),?_⟩
  rw [Z2z]
  refine⟨by decide,?_⟩
  rw [W1g]
  refine⟨by decide,by decide,by simp,show((1:Nat):Int)*((Str.length "01ab":Nat):Int)<=(sizeLine:Int)by decide,?_⟩
  have e:(if ((es.length-1:Nat):Int)<(k:Int)+1 then((es.length-1:Nat):Int)else(k:Int)+1)=((if es.length-1<k+1 then es.length-1 else k+1:Nat):Int):=by
   by_cases h:es.length-1<k+1
   ·rw [aM h,aM (by omega)]
   ·rw [aI h,aI (by omega)];rfl
  rw [e]
  exact q
 ·rw [Q1m]
  refine⟨_,rfl,_,rfl,sz (by simp),?_⟩
  show R.st _=R.st _
  have e2:((List.range es.length).map iD).map (fun d=>match d with | .int k=>rD (List.replicate 4 (if es.length-1<k.toNat+1 then es.length-1 else k.toNat+1)) | d=>d)=(Z5 es).2.map rD:=by
   unfold Z5;rw [aQ,aQ];rfl
  rw [e2]
  rfl
noncomputable def Q8y:D6:=fun rs r=>rs=[]/\r=.st (mD (Z5 [true]))
theorem W4a:∀rs r,rs.length=0->Q8y rs r->Z5p sp_in_line (Y6 r) (E7 Z6s rs):=by
 rintro rs r _ ⟨rfl,rfl⟩
 unfold Z5p
 simp only [S7,Q0i,D4,s_tup,G2,J9,C7]
 exact⟨_,rfl,sz (by simp),rfl,_,⟨[true],rfl,by decide,by decide,rfl⟩,rfl⟩
theorem Z8t:N2 (Z5 [true]) where
 wf:=⟨rfl,by decide,by decide,by decide⟩
 met:=by decide
 seen:=by decide
 apart:=fun i j hi hj ne=>absurd (show i=j by have:(Z5 [true]).1.length=1:=rfl;omega) ne
theorem Y7u {u:List Nat} (h:C9 u):E1 (Z5 [true]) u=true:=by
 have:=Y4d Z8t.wf u h
 unfold E1
 have e:stW (Z5 [true]) u=0:=by have:(Z5 [true]).1.length=1:=rfl;omega
 rw [e];rfl
end MC
end
section
namespace K21
open PySem PySem.Spec PyProof.Rows L2 TK MC
abbrev Z6v:List Str:=["_law_script","_law_one","_law_two","_law_three","_law_none","_law_every"]
def Z5t   (sp_least_of:E2) (cg:D6) (dA:E2) (dB:D6) (bh:E2) (b8:E2) (bC:E2) (cp:E2) (Q0k:E2):WS:=(B1 (C8 1 (A9 sp_least_of (A0 (U4 cg (A0 (wV 0) (A0 (wC (.int 0)) (A0 (wC (.int 3)) A2)))) A2))) (B1 (C8 2 (A9 sp_least_of (A0 (U4 cg (A0 (wV 0) (A0 (wC (.int 60)) (A0 (wC (.int 3)) A2)))) A2))) (B1 (C8 3 (A9 sp_least_of (A0 (U4 cg (A0 (wV 0) (A0 (wC (.int 120)) (A0 (wC (.int 3)) A2)))) A2))) (B1 (C8 4 (A9 dA (A0 (R0 A2) A2))) (B1 (C8 5 (Z4v dB)) (B1 (O6 (wOr (A7 (E9 59 true) (A9 bh (A0 (wV 1) (A0 (wV 2) A2))) (A9 bh (A0 (wV 2) (A0 (wV 1) A2)))) (A7 (E9 59 true) (A9 b8 (A0 (wV 1) (A0 (wV 2) A2))) (A9 b8 (A0 (wV 2) (A0 (wV 1) A2))))) (G1 (wC (.bl false))) O7) (B1 (O6 (A7 (E9 59 true) (A9 bh (A0 (wV 1) (A0 (A9 bh (A0 (wV 2) (A0 (wV 3) A2))) A2))) (A9 bh (A0 (A9 bh (A0 (wV 1) (A0 (wV 2) A2))) (A0 (wV 3) A2)))) (G1 (wC (.bl false))) O7) (B1 (O6 (A7 (E9 59 true) (A9 b8 (A0 (wV 1) (A0 (A9 b8 (A0 (wV 2) (A0 (wV 3) A2))) A2))) (A9 b8 (A0 (A9 b8 (A0 (wV 1) (A0 (wV 2) A2))) (A0 (wV 3) A2)))) (G1 (wC (.bl false))) O7) (B1 (O6 (A7 (E9 59 true) (A9 b8 (A0 (wV 1) (A0 (A9 bh (A0 (wV 2) (A0 (wV 3) A2))) A2))) (A9 bh (A0 (A9 b8 (A0 (wV 1) (A0 (wV 2) A2))) (A0 (A9 b8 (A0 (wV 1) (A0 (wV 3) A2))) A2)))) (G1 (wC (.bl false))) O7) (B1 (O6 (A7 (E9 59 true) (A9 bh (A0 (wV 1) (A0 (A9 b8 (A0 (wV 2) (A0 (wV 3) A2))) A2))) (A9 b8 (A0 (A9 bh (A0 (wV 1) (A0 (wV 2) A2))) (A0 (A9 bh (A0 (wV 1) (A0 (wV 3) A2))) A2)))) (G1 (wC (.bl false))) O7) (B1 (O6 (wOr (A7 (E9 59 true) (A9 bC (A0 (A9 bC (A0 (wV 1) A2)) A2)) (wV 1)) (A7 (E9 59 true) (A9 bC (A0 (A9 bh (A0 (wV 1) (A0 (wV 2) A2))) A2)) (A9 b8 (A0 (A9 bC (A0 (wV 1) A2)) (A0 (A9 bC (A0 (wV 2) A2)) A2))))) (G1 (wC (.bl false))) O7) (B1 (O6 (wOr (A7 (E9 59 true) (A9 cp (A0 (wV 1) (A0 (wV 2) A2))) (A9 b8 (A0 (wV 1) (A0 (A9 bC (A0 (wV 2) A2)) A2)))) (A7 (E9 59 true) (A9 bh (A0 (A9 cp (A0 (wV 1) (A0 (wV 2) A2))) (A0 (A9 b8 (A0 (wV 1) (A0 (wV 2) A2))) A2))) (wV 1))) (G1 (wC (.bl false))) O7) (B1 (O6 (wOr (A7 (E9 59 true) (A9 bh (A0 (wV 1) (A0 (wV 4) A2))) (wV 1)) (wOr (A7 (E9 59 true) (A9 bh (A0 (wV 1) (A0 (wV 5) A2))) (wV 5)) (A7 (E9 59 true) (A9 b8 (A0 (wV 1) (A0 (wV 5) A2))) (wV 1)))) (G1 (wC (.bl false))) O7) (B1 (O6 (wOr (A7 (E9 59 true) (A9 b8 (A0 (wV 1) (A0 (wV 4) A2))) (wV 4)) (wOr (A7 (E9 59 true) (A9 bC (A0 (wV 4) A2)) (wV 5)) (wOr (A7 (E9 59 true) (A9 cp (A0 (wV 1) (A0 (wV 1) A2))) (wV 4)) (A7 (E9 59 true) (A9 bh (A0 (wV 1) (A0 (wV 1) A2))) (wV 1))))) (G1 (wC (.bl false))) O7) (G1 (Q3k (A9 Q0k (A0 (A9 cp (A0 (A9 bh (A0 (wV 1) (A0 (wV 2) A2))) (A0 (wV 1) A2))) (A0 (wV 2) A2))) (A9 Q0k (A0 (A9 b8 (A0 (wV 1) (A0 (wV 2) A2))) (A0 (wV 1) A2)))))))))))))))))))
noncomputable abbrev Q8j:C5:=([false,false],[[1,1,1,1],[1,1,1,1]])
noncomputable def Q2h:C5:=E6 [false,false] [[1,1,1,1],[1,1,1,1]]
theorem Q5z:Wf [false,false] [[1,1,1,1],[1,1,1,1]]:=⟨rfl,by decide,by decide,by decide⟩
theorem W0x {u:List Nat} (h:C9 u):E1 Q2h u=false:=by
 unfold Q2h
 rw [Z2b Q5z h]
 unfold E1
 have:=Y4d (m:=Q8j) Q5z u h
 have hl:Q8j.1.length=2:=rfl
 rcases (show stW Q8j u=0\/stW Q8j u=1 by omega)with e | e <;> (rw [e];rfl)
noncomputable def Q6m:E2:=fun rs Pr=>rs=[.bw []]/\Pr (.st (mD Q2h))
theorem W0m:T6 Q6m:=by rintro rs P Q f ⟨e,h⟩;exact⟨e,f _ h⟩
theorem W4i:∀rs Pr,rs.length=1->Q6m rs Pr->Z5y sp_least (P3 Pr) (E7 Z0k rs):=by
 rintro rs Pr _ ⟨rfl,h⟩
 unfold Z5y
 simp only [G3,W5u,s_lst,D4,G2,J9,C7,O4,Y2m,Q1o,S7,S6,Q0y,Q6g,C1]
 refine⟨_,rfl,sz (by simp),_,rfl,_,rfl,sz (by simp),_,rfl,fun a=>?_⟩
 refine⟨_,rfl,sz (by simp),?_⟩
 rw [Q4i]
 refine⟨_,rfl,?_⟩
 refine⟨a,_,rfl,rfl,?_⟩
 refine⟨_,rfl,_,rfl,_,rfl,sz (by simp),?_⟩
 refine Q1h (f:=fun d=>match d with | .lst ds=>.tup ds | d=>d) _ none _ (fun d hd Q' q=>?_) ?_
 ·simp only [ar,cc,ao,aT,bK]at hd
  rcases hd with rfl | rfl
  ·simp only [G2,L0,D4,C1,C7]
   exact⟨_,rfl,_,rfl,q⟩
  ·simp only [G2,L0,D4,C1,C7]
   exact⟨_,rfl,_,rfl,q⟩
 exact⟨rfl,_,[false,false],[[1,1,1,1],[1,1,1,1]],_,rfl,.inr rfl,.inl rfl,Q5z,by decide,h⟩
noncomputable def Q6l:E2:=fun rs Pr=>∃ns:List Int,rs=[.st (scr ns)]/\ns.length<=63/\Pr (.st (.bl true))
theorem W0w:N2 Q2h:=Q2z Q5z
theorem W0y:Q2h.1.length<=2:=Q2g Q5z
structure Five (τ:A8) (a b c n v:C5):Prop where
 A:MV (wV 1) τ a 3
 B:MV (wV 2) τ b 3
 C:MV (wV 3) τ c 3
 N:MV (wV 4) τ n 2
 V:MV (wV 5) τ v 1
 n0:∀{u},C9 u->E1 n u=false
 v0:∀{u},C9 u->E1 v u=true
section
variable {τ:A8}{a b c n v:C5} (F:Five τ a b c n v)
theorem sw {g:Bool->Bool->Bool}{m1 m2:C5} (h1:D9 m1) (h2:D9 m2):D9 (Z7 g m1 m2):=W6m h1 h2
theorem ow {m:C5} (h:D9 m):D9 (Y1 m):=(Y1i h).wf
include F
theorem t0:No (wOr (A7 (E9 59 true) (A9 (D5 P0) (A0 (wV 1) (A0 (wV 2) A2))) (A9 (D5 P0) (A0 (wV 2) (A0 (wV 1) A2)))) (A7 (E9 59 true) (A9 (D5 O9) (A0 (wV 1) (A0 (wV 2) A2))) (A9 (D5 O9) (A0 (wV 2) (A0 (wV 1) A2))))) τ:=by
 obtain⟨A,B,Cc,N,V,n0,v0⟩:=F
 have wa:=A.L.wf
 have wb:=B.L.wf
 have wc:=Cc.L.wf
 refine .or (MV.ne (A.side B) (B.side A) fun u hu=>?_) (MV.ne (A.side B) (B.side A) fun u hu=>?_)
 ·rw [U2 wa wb hu,U2 wb wa hu,Bool.or_comm]
 ·rw [U1 wa wb hu,U1 wb wa hu,Bool.and_comm]
theorem t1:No (A7 (E9 59 true) (A9 (D5 P0) (A0 (wV 1) (A0 (A9 (D5 P0) (A0 (wV 2) (A0 (wV 3) A2))) A2))) (A9 (D5 P0) (A0 (A9 (D5 P0) (A0 (wV 1) (A0 (wV 2) A2))) (A0 (wV 3) A2)))) τ:=by
 obtain⟨A,B,Cc,N,V,n0,v0⟩:=F
 have wa:=A.L.wf
 have wb:=B.L.wf
 have wc:=Cc.L.wf
 refine MV.ne (A.side (B.side Cc)) ((A.side B).side Cc) fun u hu=>?_
 ·rw [U2 wa (sw wb wc) hu,U2 wb wc hu,U2 (sw wa wb) wc hu,U2 wa wb hu,Bool.or_assoc]
theorem t2:No (A7 (E9 59 true) (A9 (D5 O9) (A0 (wV 1) (A0 (A9 (D5 O9) (A0 (wV 2) (A0 (wV 3) A2))) A2))) (A9 (D5 O9) (A0 (A9 (D5 O9) (A0 (wV 1) (A0 (wV 2) A2))) (A0 (wV 3) A2)))) τ:=by
 obtain⟨A,B,Cc,N,V,n0,v0⟩:=F
 have wa:=A.L.wf
 have wb:=B.L.wf
 have wc:=Cc.L.wf
 refine MV.ne (A.side (B.side Cc)) ((A.side B).side Cc) fun u hu=>?_
 ·rw [U1 wa (sw wb wc) hu,U1 wb wc hu,U1 (sw wa wb) wc hu,U1 wa wb hu,Bool.and_assoc]
theorem t3:No (A7 (E9 59 true) (A9 (D5 O9) (A0 (wV 1) (A0 (A9 (D5 P0) (A0 (wV 2) (A0 (wV 3) A2))) A2))) (A9 (D5 P0) (A0 (A9 (D5 O9) (A0 (wV 1) (A0 (wV 2) A2))) (A0 (A9 (D5 O9) (A0 (wV 1) (A0 (wV 3) A2))) A2)))) τ:=by
 obtain⟨A,B,Cc,N,V,n0,v0⟩:=F
 have wa:=A.L.wf
 have wb:=B.L.wf
 have wc:=Cc.L.wf
 refine MV.ne (A.side (B.side Cc)) ((A.side B).side (A.side Cc)) fun u hu=>?_
 ·rw [U1 wa (sw wb wc) hu,U2 wb wc hu,U2 (sw wa wb) (sw wa wc) hu,U1 wa wb hu,U1 wa wc hu,Bool.and_or_distrib_left]
theorem t4:No (A7 (E9 59 true) (A9 (D5 P0) (A0 (wV 1) (A0 (A9 (D5 O9) (A0 (wV 2) (A0 (wV 3) A2))) A2))) (A9 (D5 O9) (A0 (A9 (D5 P0) (A0 (wV 1) (A0 (wV 2) A2))) (A0 (A9 (D5 P0) (A0 (wV 1) (A0 (wV 3) A2))) A2)))) τ:=by
 obtain⟨A,B,Cc,N,V,n0,v0⟩:=F
 have wa:=A.L.wf
 have wb:=B.L.wf
 have wc:=Cc.L.wf
 refine MV.ne (A.side (B.side Cc)) ((A.side B).side (A.side Cc)) fun u hu=>?_
 ·rw [U2 wa (sw wb wc) hu,U1 wb wc hu,U1 (sw wa wb) (sw wa wc) hu,U2 wa wb hu,U2 wa wc hu,Bool.or_and_distrib_left]
theorem t5:No (wOr (A7 (E9 59 true) (A9 Y2 (A0 (A9 Y2 (A0 (wV 1) A2)) A2)) (wV 1)) (A7 (E9 59 true) (A9 Y2 (A0 (A9 (D5 P0) (A0 (wV 1) (A0 (wV 2) A2))) A2)) (A9 (D5 O9) (A0 (A9 Y2 (A0 (wV 1) A2)) (A0 (A9 Y2 (A0 (wV 2) A2)) A2))))) τ:=by
 obtain⟨A,B,Cc,N,V,n0,v0⟩:=F
 have wa:=A.L.wf
 have wb:=B.L.wf
 have wc:=Cc.L.wf
 refine .or (MV.ne A.other.other A fun u hu=>?_) (MV.ne (A.side B).other (A.other.side B.other) fun u hu=>?_)
 ·rw [Q3e (ow wa) hu,Q3e wa hu,Bool.not_not]
 ·rw [Q3e (sw wa wb) hu,U2 wa wb hu,U1 (ow wa) (ow wb) hu,Q3e wa hu,Q3e wb hu,Bool.not_or]
theorem t6:No (wOr (A7 (E9 59 true) (A9 (D5 T9) (A0 (wV 1) (A0 (wV 2) A2))) (A9 (D5 O9) (A0 (wV 1) (A0 (A9 Y2 (A0 (wV 2) A2)) A2)))) (A7 (E9 59 true) (A9 (D5 P0) (A0 (A9 (D5 T9) (A0 (wV 1) (A0 (wV 2) A2))) (A0 (A9 (D5 O9) (A0 (wV 1) (A0 (wV 2) A2))) A2))) (wV 1))) τ:=by
 obtain⟨A,B,Cc,N,V,n0,v0⟩:=F
 have wa:=A.L.wf
 have wb:=B.L.wf
 have wc:=Cc.L.wf
 refine .or (MV.ne (A.side B) (A.side B.other) fun u hu=>?_) (MV.ne ((A.side B).side (A.side B)) A fun u hu=>?_)
 ·rw [Q8h wa wb hu,U1 wa (ow wb) hu,Q3e wb hu]
 ·rw [U2 (sw wa wb) (sw wa wb) hu,Q8h wa wb hu,U1 wa wb hu]
  cases E1 a u <;> cases E1 b u <;> rfl
theorem t7:No (wOr (A7 (E9 59 true) (A9 (D5 P0) (A0 (wV 1) (A0 (wV 4) A2))) (wV 1)) (wOr (A7 (E9 59 true) (A9 (D5 P0) (A0 (wV 1) (A0 (wV 5) A2))) (wV 5)) (A7 (E9 59 true) (A9 (D5 O9) (A0 (wV 1) (A0 (wV 5) A2))) (wV 1)))) τ:=by
 obtain⟨A,B,Cc,N,V,n0,v0⟩:=F
 have wa:=A.L.wf
 have wb:=B.L.wf
 have wc:=Cc.L.wf
 refine .or (MV.ne (A.side N) A fun u hu=>?_) (.or (MV.ne (A.side V) V fun u hu=>?_) (MV.ne (A.side V) A fun u hu=>?_))
 ·rw [U2 wa N.L.wf hu,n0 hu,Bool.or_false]
 ·rw [U2 wa V.L.wf hu,v0 hu,Bool.or_true]
 ·rw [U1 wa V.L.wf hu,v0 hu,Bool.and_true]
theorem t8:No (wOr (A7 (E9 59 true) (A9 (D5 O9) (A0 (wV 1) (A0 (wV 4) A2))) (wV 4)) (wOr (A7 (E9 59 true) (A9 Y2 (A0 (wV 4) A2)) (wV 5)) (wOr (A7 (E9 59 true) (A9 (D5 T9) (A0 (wV 1) (A0 (wV 1) A2))) (wV 4)) (A7 (E9 59 true) (A9 (D5 P0) (A0 (wV 1) (A0 (wV 1) A2))) (wV 1))))) τ:=by
 obtain⟨A,B,Cc,N,V,n0,v0⟩:=F
 have wa:=A.L.wf
 have wb:=B.L.wf
 have wc:=Cc.L.wf
 refine .or (MV.ne (A.side N) N fun u hu=>?_) (.or (MV.ne N.other V fun u hu=>?_) (.or (MV.ne (A.side A) N fun u hu=>?_) (MV.ne (A.side A) A fun u hu=>?_)))
 ·rw [U1 wa N.L.wf hu,n0 hu,Bool.and_false]
 ·rw [Q3e N.L.wf hu,n0 hu,v0 hu];rfl
 ·rw [Q8h wa wa hu,n0 hu];cases E1 a u <;> rfl
 ·rw [U2 wa wa hu,Bool.or_self]
theorem tR {Q:R->Prop} (h:Q (.st (.bl true))):(Q3k (A9 Q0k (A0 (A9 (D5 T9) (A0 (A9 (D5 P0) (A0 (wV 1) (A0 (wV 2) A2))) (A0 (wV 1) A2))) (A0 (wV 2) A2))) (A9 Q0k (A0 (A9 (D5 O9) (A0 (wV 1) (A0 (wV 2) A2))) (A0 (wV 1) A2)))) τ Q:=by
 obtain⟨A,B,Cc,N,V,n0,v0⟩:=F
 have wa:=A.L.wf
 have wb:=B.L.wf
 rw [W5d]
 refine MV.within ((A.side B).side A) B (fun u hu=>?_) ?_
 ·rw [Q8h (sw wa wb) wa hu,U2 wa wb hu];cases E1 a u <;> cases E1 b u <;> simp
 refine MV.within (A.side B) A (fun u hu=>?_) ?_
 ·rw [U1 wa wb hu];cases E1 a u <;> simp
 exact h
end
theorem W4e:∀rs Pr,rs.length=1->Q6l rs Pr->Z5t sp_least_of Q8z Q6m Q8y (D5 P0) (D5 O9) Y2 (D5 T9) Q0k (P3 Pr) (E7 Z6v rs):=by
 rintro rs Pr _ ⟨ns,rfl,hn,h⟩
 have w1:D9 (S4 ns 0 3):=Z2k ns 0 (by decide)
 have w2:D9 (S4 ns 60 3):=Z2k ns 60 (by decide)
 have w3:D9 (S4 ns 120 3):=Z2k ns 120 (by decide)
 have l1:=Z2i ns 0 (most:=3) (by decide)
 have l2:=Z2i ns 60 (most:=3) (by decide)
 have l3:=Z2i ns 120 (most:=3) (by decide)
 have k1:=Q2g w1
 have k2:=Q2g w2
 have k3:=Q2g w3
 have k4:Q2h.1.length<=2:=W0y
 have L1:=Q2z w1
 have L2:=Q2z w2
 have L3:=Q2z w3
 have L4:=W0w
 unfold Z5t
 rw [G3,O4]
 simp only [S6,Q0i,D4,C1,J9,C7]
 refine⟨_,rfl,rfl,_,⟨ns,0,3,rfl,hn,by decide,by decide,rfl⟩,rfl,_,rfl,w1,by omega,?_⟩
 dsimp only
 rw [Q2,G3,O4]
 simp only [S6,Q0i,D4,C1,J9,C7]
 refine⟨_,rfl,rfl,_,⟨ns,60,3,rfl,hn,by decide,by decide,rfl⟩,rfl,_,rfl,w2,by omega,?_⟩
 dsimp only
 rw [Q2,G3,O4]
 simp only [S6,Q0i,D4,C1,J9,C7]
 refine⟨_,rfl,rfl,_,⟨ns,120,3,rfl,hn,by decide,by decide,rfl⟩,rfl,_,rfl,w3,by omega,?_⟩
 dsimp only
 rw [Q2,G3,O4]
 simp only [S6,D4,s_lst,C7]
 refine⟨_,rfl,sz (by simp),rfl,rfl,?_⟩
 dsimp only
 rw [Q2,G3,O4]
 simp only [W5e]
 refine⟨_,⟨rfl,rfl⟩,?_⟩
 rw [Q2]
 generalize E6 (S4 ns 0 3).1 (S4 ns 0 3).2=a at *
 generalize E6 (S4 ns 60 3).1 (S4 ns 60 3).2=b at *
 generalize E6 (S4 ns 120 3).1 (S4 ns 120 3).2=c at *
 have nz:∀{u},C9 u->E1 Q2h u=false:=W0x
 have vz:∀{u},C9 u->E1 (Z5 [true]) u=true:=Y7u
 have Lv:=Z8t
 have lv:(Z5 [true]).1.length<=1:=ai _
 generalize Q2h=n at *
 generalize Z5 [true]=v at *
 show(B1 _ _) (P3 Pr) [some (.dat (scr ns)),some (.dat (mD a)),some (.dat (mD b)),some (.dat (mD c)),some (.dat (mD n)),some (.dat (mD v))]
 have F:Five [some (.dat (scr ns)),some (.dat (mD a)),some (.dat (mD b)),some (.dat (mD c)),some (.dat (mD n)),some (.dat (mD v))] a b c n v :=
  ⟨.var L1 (by omega) rfl,.var L2 (by omega) rfl,.var L3 (by omega) rfl,.var L4 k4 rfl,.var Lv lv rfl,nz,vz⟩
 rw [G3]
 refine No.skip (t0 F) ?_
 dsimp only
 rw [G3]
 refine No.skip (t1 F) ?_
 dsimp only
 rw [G3]
 refine No.skip (t2 F) ?_
 dsimp only
 rw [G3]
 refine No.skip (t3 F) ?_
 dsimp only
 rw [G3]
 refine No.skip (t4 F) ?_
 dsimp only
 rw [G3]
 refine No.skip (t5 F) ?_
 dsimp only
 rw [G3]
 refine No.skip (t6 F) ?_
 dsimp only
 rw [G3]
 refine No.skip (t7 F) ?_
 dsimp only
 rw [G3]
 refine No.skip (t8 F) ?_
 dsimp only
 rw [S7]
 exact tR F h
local macro_rules | `(tactic| trivial)=>`(tactic| first | exact Or.inl rfl | exact Or.inr rfl)
def M9 (i:Nat):Stmt:=PySem.Challenge.pw_textkinds_k21_whole_sets.main.body.getD i (.Pass ⟨0,0,0,0⟩)
structure Txt (K:Fg9) (mg:Str->Option Value) (w:World):Prop where
 m_enumerate:mg "enumerate"=none
 m_len:mg "len"=none
 m_list:mg "list"=none
 m_max:mg "max"=none
 m_min:mg "min"=none
 m_range:mg "range"=none
 m_tuple:mg "tuple"=none
 m_zip:mg "zip"=none
 c_SIGNS:∃t,mg "SIGNS"=some (.str "01ab" t)
theorem Q5j:bootBuiltins "enumerate"=some (.type "enumerate"):=by decide +kernel
theorem Y6m:bootBuiltins "list"=some (.type "list"):=by decide +kernel
theorem Z7w:bootBuiltins "max"=some (.builtin "max"):=by decide +kernel
theorem Y6n:bootBuiltins "min"=some (.builtin "min"):=by decide +kernel
abbrev Z4f:Stmt:=M9 2
abbrev Z3z:Stmt:=M9 3
abbrev Q9a:Stmt:=M9 4
abbrev Q4p:Stmt:=M9 5
abbrev Q9g:Stmt:=M9 6
abbrev Q9l:Stmt:=M9 7
abbrev Q6o:Stmt:=M9 8
abbrev Q9c:Stmt:=M9 9
abbrev Q9j:Stmt:=M9 10
abbrev Q9i:Stmt:=M9 11
abbrev Z4e:Stmt:=M9 12
abbrev Z4d:Stmt:=M9 14
abbrev Q9d:Stmt:=M9 16
abbrev Q9b:Stmt:=M9 17
abbrev Q9m:Stmt:=M9 18
abbrev Q9h:Stmt:=M9 19
abbrev Z3y:Stmt:=M9 21
abbrev Q9k:Stmt:=M9 22
abbrev Z4g:Stmt:=M9 23
abbrev Q9f:Stmt:=M9 25
abbrev Q9e:Stmt:=M9 26
abbrev Z3x:Stmt:=M9 27
abbrev Z4b:Stmt:=M9 29
abbrev Z4c:Stmt:=M9 30
abbrev Q6n:Stmt:=M9 31
abbrev Z4a:Stmt:=M9 34
structure Env (P:Program) (w:World) (K:Fg9) (mg:Str->Option Value) (base:Heap) (ts:List Addr) (ad:Nat->Addr) (fn:Nat->FuncData):Prop where
 T:Txt K mg w
 hBM:Y5 mg base
 D_walked:Df K mg "walked" Z4f ["start","step"] (ad 0) (fn 0)
 D_first_text:Df K mg "first_text" Z3z ["start","step","is_end"] (ad 1) (fn 1)
 D_all_reached:Df K mg "all_reached" Q9a ["some","onward"] (ad 2) (fn 2)
 D_distances:Df K mg "distances" Q4p ["ends","rows","wanted"] (ad 3) (fn 3)
 D_numbered:Df K mg "numbered" Q9g ["marks"] (ad 4) (fn 4)
 D_told_apart:Df K mg "told_apart" Q9l ["ends","rows"] (ad 5) (fn 5)
 D_least:Df K mg "least" Q6o ["ends","rows"] (ad 6) (fn 6)
 D_built:Df K mg "built" Q9c ["start","step","is_end"] (ad 7) (fn 7)
 D_pair_step:Df K mg "pair_step" Q9j ["one","other"] (ad 8) (fn 8)
 D_pair_end:Df K mg "pair_end" Q9i ["one","other","is_end"] (ad 9) (fn 9)
 D_side_by_side:Df K mg "side_by_side" Z4e ["one","other","is_end"] (ad 10) (fn 10)
 D_least_of:Df K mg "least_of" Z4d ["machine"] (ad 11) (fn 11)
 D_either:Df K mg "either" Q9d ["one","other"] (ad 12) (fn 12)
 D_both_of:Df K mg "both_of" Q9b ["one","other"] (ad 13) (fn 13)
 D_without:Df K mg "without" Q9m ["one","other"] (ad 14) (fn 14)
 D_other_than:Df K mg "other_than" Q9h ["one"] (ad 15) (fn 15)
 D_first_of_both:Df K mg "first_of_both" Z3y ["one","other","is_wanted"] (ad 16) (fn 16)
 D_parting:Df K mg "parting" Q9k ["one","other"] (ad 17) (fn 17)
 D_within:Df K mg "within" Z4g ["one","other"] (ad 18) (fn 18)
 D_machine_of:Df K mg "machine_of" Q9f ["some"] (ad 19) (fn 19)
 D_in_line:Df K mg "in_line" Q9e ["ends"] (ad 20) (fn 20)
 D_everything:Df K mg "everything" Z3x [] (ad 21) (fn 21)
 D_law_cell:Df K mg "_law_cell" Z4b ["_law_script","_law_k"] (ad 22) (fn 22)
 D_law_drawn:Df K mg "_law_drawn" Z4c ["_law_script","_law_k","_law_many"] (ad 23) (fn 23)
 D_law_machine:Df K mg "_law_machine" Q6n ["_law_script","_law_at","_law_most"] (ad 24) (fn 24)
 D_law:Df K mg "law" Z4a ["_law_script"] (ad 25) (fn 25)
 C_least:∃c Pt,R1 K "least" "least" Q6o (ad 6) (fn 6) c Pt/\Pt∈ts
 C_pair_step:∃c Pt,R1 K "pair_step" "pair_step" Q9j (ad 8) (fn 8) c Pt/\Pt∈ts
 C_pair_end:∃c Pt,R1 K "pair_end" "pair_end" Q9i (ad 9) (fn 9) c Pt/\Pt∈ts
 C_either:∃c Pt,R1 K "either" "either" Q9d (ad 12) (fn 12) c Pt/\Pt∈ts
 C_both_of:∃c Pt,R1 K "both_of" "both_of" Q9b (ad 13) (fn 13) c Pt/\Pt∈ts
 C_without:∃c Pt,R1 K "without" "without" Q9m (ad 14) (fn 14) c Pt/\Pt∈ts
 C_parting:∃c Pt,R1 K "parting" "parting" Q9k (ad 17) (fn 17) c Pt/\Pt∈ts
section
variable {P:Program}{w:World}{K:Fg9}{mg:Str->Option Value}{base:Heap}{ts:List Addr}{ad:Nat->Addr}{fn:Nat->FuncData} (Z:Env P w K mg base ts ad fn)
include Z
omit Z in
theorem Q8w:G4 MC.Z7d ["start","step"] (B8 Z4f):=M8 (by decide +kernel)
theorem Y5y:FnD P w K mg base 3 (ad 0) (fn 0) ["start","step"] (sp_walked (F4 P w K mg base 2)):=by
 have nd:=Q8w.nd
 refine Z.D_walked.ok Q8w (ws:=MC.Z6d (F4 P w K mg base 2) ) (fun cdv A outer s H E hr=>?_) MC.W4q
 exact(A4.cons (DS.sv 2 (DE.lst (DA.one (DE.fz (DE.v 0)))) nd) (A4.cons (DS.dnew1 (i:=3) hr.units0 (DE.v 0) DE.int nd rfl (by trivial)) (A4.cons (DS.sv 4 (DE.lst DA.nil) nd) (A4.cons (DS.fzO 2 (DS.whl bf (DT.cmp Q7k Q5m (DE.len Z.T.m_len (DE.v 4)) (DE.len Z.T.m_len (DE.v 2)) (L9 _)) (A4.cons (DS.sv 5 (DE.ix (DE.v 2) (DE.len Z.T.m_len (DE.v 4)) (fun _ _=>rfl)) nd) (A4.cons (DS.sv 6 (DE.lst DA.nil) nd) (A4.cons (DS.for bf rfl (DI.rng1 rfl Z.T.m_range (DA.one (DE.len Z.T.m_len (DE.gstr rfl Z.T.c_SIGNS)))) (DG.nm (i:=7) nd rfl (by trivial)) (A4.cons (DS.sv 8 (DE.callC (k:=2) (hr.mono (by decide)) (pv 1) (DA.cons (DE.v 5) (DA.one (DE.v 7)))) nd) (A4.cons (DS.ife (DT.dnotin (C2.hu1 hr) (DE.v 8) (pv 3)) (A4.cons (DS.dput (C2.hu1 hr) (pv 3) (DE.v 8) (DE.len Z.T.m_len (DE.v 2))) (A4.one (DS.append (pv 2) (DE.fz (DE.v 8))))) A4.nil) (A4.one (DS.append (pv 6) (DE.fz (DE.dgetT (C2.hu1 hr) (pv 3) (DE.v 8) (fun _ _=>rfl)))))))) (A4.one (DS.append (pv 4) (DE.fz (DE.tpl Z.T.m_tuple (DE.v 6)))))))))) (A4.one (DS.ret (DE.tup (DA.cons (DE.fz (DE.v 2)) (DA.one (DE.fz (DE.tpl Z.T.m_tuple (DE.v 4))))))))))))
theorem Y5z:FnD P w K mg base 3 (ad 0) (fn 0) ["start","step"] (sp_walkedK (F4 P w K mg base 2)):=by
 have nd:=Q8w.nd
 refine Z.D_walked.ok Q8w (ws:=MC.Z6e (F4 P w K mg base 2) ) (fun cdv A outer s H E hr=>?_) MC.W4r
 exact(A4.cons (DS.sv 2 (DE.lst (DA.one (DE.fz (DE.v 0)))) nd) (A4.cons (DS.knew1 (i:=3) (DE.v 0) DE.int nd rfl (by trivial)) (A4.cons (DS.sv 4 (DE.lst DA.nil) nd) (A4.cons (DS.fzO 2 (DS.whl bf (DT.cmp Q7k Q5m (DE.len Z.T.m_len (DE.v 4)) (DE.len Z.T.m_len (DE.v 2)) (L9 _)) (A4.cons (DS.sv 5 (DE.ix (DE.v 2) (DE.len Z.T.m_len (DE.v 4)) (fun _ _=>rfl)) nd) (A4.cons (DS.sv 6 (DE.lst DA.nil) nd) (A4.cons (DS.for bf rfl (DI.rng1 rfl Z.T.m_range (DA.one (DE.len Z.T.m_len (DE.gstr rfl Z.T.c_SIGNS)))) (DG.nm (i:=7) nd rfl (by trivial)) (A4.cons (DS.sv 8 (DE.callC (k:=2) (hr.mono (by decide)) (pv 1) (DA.cons (DE.v 5) (DA.one (DE.v 7)))) nd) (A4.cons (DS.ife (DT.knotin (C2.hu1 hr) (DE.v 8) (pv 3)) (A4.cons (DS.kput (C2.hu1 hr) (pv 3) (DE.v 8) (DE.len Z.T.m_len (DE.v 2))) (A4.one (DS.append (pv 2) (DE.fz (DE.v 8))))) A4.nil) (A4.one (DS.append (pv 6) (DE.fz (DE.kget (C2.hu1 hr) (pv 3) (DE.v 8) (fun _ _=>rfl)))))))) (A4.one (DS.append (pv 4) (DE.fz (DE.tpl Z.T.m_tuple (DE.v 6)))))))))) (A4.one (DS.ret (DE.tup (DA.cons (DE.fz (DE.v 2)) (DA.one (DE.fz (DE.tpl Z.T.m_tuple (DE.v 4))))))))))))
omit Z in
theorem Y3c:G4 MC.Z6u ["start","step","is_end"] (B8 Z3z):=M8 (by decide +kernel)
theorem Y5r:FnD P w K mg base 3 (ad 1) (fn 1) ["start","step","is_end"] (sp_first_text (F4 P w K mg base 2)):=by
 have nd:=Y3c.nd
 refine Z.D_first_text.ok Y3c (ws:=MC.Z5r (F4 P w K mg base 2) ) (fun cdv A outer s H E hr=>?_) MC.W4c
 exact(A4.cons (DS.sv 3 (DE.lst (DA.one (DE.fz (DE.v 0)))) nd) (A4.cons (DS.dnew1 (i:=4) hr.units0 (DE.v 0) DE.str nd rfl (by trivial)) (A4.cons (DS.sv 5 DE.int nd) (A4.cons (DS.whl bf (DT.cmp Q7k Q5m (DE.v 5) (DE.len Z.T.m_len (DE.v 3)) (L9 _)) (A4.cons (DS.sv 6 (DE.ix (DE.v 3) (DE.v 5) (fun _ _=>rfl)) nd) (A4.cons (DS.ife (DT.tru (DE.callC (k:=2) (hr.mono (by decide)) (pv 2) (DA.one (DE.v 6))) (fun _=>rfl)) (A4.one (DS.ret (DE.dgetT (C2.hu1 hr) (pv 4) (DE.v 6) (fun _ _=>rfl)))) A4.nil) (A4.cons (DS.for bf rfl (DI.enumX rfl Z.T.m_enumerate Q5j (DA.one (DE.gstr rfl Z.T.c_SIGNS))) (DG.tp (n:=2) rfl (J3.cons (DG.nm (i:=7) nd rfl (by trivial)) (J3.cons (DG.nm (i:=8) nd rfl (by trivial)) J3.nil))) (A4.cons (DS.sv 9 (DE.callC (k:=2) (hr.mono (by decide)) (pv 1) (DA.cons (DE.v 6) (DA.one (DE.v 7)))) nd) (A4.one (DS.ife (DT.dnotin (C2.hu1 hr) (DE.v 9) (pv 4)) (A4.cons (DS.dput (C2.hu1 hr) (pv 4) (DE.v 9) (DE.op W1 V5 (DE.dgetT (C2.hu1 hr) (pv 4) (DE.v 6) (fun _ _=>rfl)) (DE.v 8))) (A4.one (DS.append (pv 3) (DE.fz (DE.v 9))))) A4.nil)))) (A4.one (DS.aug (i:=5) Y1g X7 DE.int nd rfl (by trivial))))))) (A4.one (DS.ret DE.non))))))
omit Z in
theorem Y2v:G4 MC.Z0g ["some","onward"] (B8 Q9a):=M8 (by decide +kernel)
theorem Y5n:P9 P w K mg base ts 1 (ad 2) (fn 2) ["some","onward"] (sp_all_reached K):=by
 have nd:=Y2v.nd
 refine O8.okP Z.D_all_reached.F Y2v (ws:=MC.Z5m  K ) (fun cdv A outer s H E hT hr=>?_) MC.W3t
 exact(A4.cons (DS.setKC (i:=2) rfl (W6 (sc:=B8 Q9a) (N0:=MC.Z0g) (N:=["state"]) (nt:=1) (cap:=[]) rfl rfl (by decide +kernel)) (F7.lst (DE.v 0)) (fun _ _ _ _=>(DG.nm (i:=0) (show List.Nodup (["state"]:List Str)by decide +kernel) rfl (by trivial))) (fun _ _ _ _=>(DE.v 0)) (fun _ _ _ _=>(DE.fz DE.int)) nd rfl (by trivial)) (A4.cons (DS.sv 3 (DE.callTy (Y6u rfl) Y9u rfl Z.T.m_list Y6m (DA.one (DE.v 2))) nd) (A4.cons (DS.sv 4 DE.int nd) (A4.cons (DS.whl bf (DT.cmp Q7k Q5m (DE.v 4) (DE.len Z.T.m_len (DE.v 3)) (L9 _)) (A4.cons (DS.sv 5 (DE.ix (DE.v 3) (DE.v 4) (fun _ _=>rfl)) nd) (A4.cons (DS.for bf rfl (DI.lst (DE.fz (DE.ix (DE.v 1) (DE.v 5) (fun _ _=>rfl)))) (DG.nm (i:=6) nd rfl (by trivial)) (A4.one (DS.ife (DT.knotin (C2.hu1 hr) (DE.v 6) (pv 2)) (A4.cons (DS.kput (C2.hu1 hr) (pv 2) (DE.v 6) (DE.op W1 V5 (DE.kget (C2.hu1 hr) (pv 2) (DE.v 5) (fun _ _=>rfl)) DE.int)) (A4.one (DS.append (pv 3) (DE.fz (DE.v 6))))) A4.nil))) (A4.one (DS.aug (i:=4) Y1g X7 DE.int nd rfl (by trivial)))))) (A4.one (DS.retK (pv 2)))))))
omit Z in
theorem Y2y:G4 MC.Q5b ["ends","rows","wanted"] (B8 Q4p):=M8 (by decide +kernel)
theorem Z6l:P9 P w K mg base ts 2 (ad 3) (fn 3) ["ends","rows","wanted"] sp_distances:=by
 have nd:=Y2y.nd
 refine O8.okP Z.D_distances.F Y2y (ws:=MC.Z5o  K (sp_all_reached K)) (fun cdv A outer s H E hT hr=>?_) MC.W3x
 exact(A4.cons (DS.setLC (i:=3) rfl (W6 (sc:=B8 Q4p) (N0:=MC.Q5b) (N:=["row"]) (nt:=1) (cap:=[]) rfl rfl (by decide +kernel)) (F7.or (F7.tup (DE.v 1)) (F7.lst (DE.v 1))) (fun _ _ _ _=>(DG.nm (i:=0) (show List.Nodup (["row"]:List Str)by decide +kernel) rfl (by trivial))) (fun _ _ _ _=>(DE.lst DA.nil)) nd rfl (by trivial)) (A4.cons (DS.fzL 3 (DS.for bf rfl (DI.or (DI.enumX rfl Z.T.m_enumerate Q5j (DA.one (DE.v 1))) (DI.enumF rfl Z.T.m_enumerate Q5j (DA.one (DE.v 1)))) (DG.tp (n:=2) rfl (J3.cons (DG.nm (i:=4) nd rfl (by trivial)) (J3.cons (DG.nm (i:=5) nd rfl (by trivial)) J3.nil))) (A4.one (DS.for bf rfl (DI.tup (DE.v 5)) (DG.nm (i:=6) nd rfl (by trivial)) (A4.one (DS.llapp (pv 3) (DE.v 6) (DE.fz (DE.v 4)) (fun _ _=>rfl) ⟨rfl,rfl,rfl,rfl⟩)))))) (A4.cons (DS.setF (i:=7) (DE.clP (W0j) (Y5n Z) hr hT Z.D_all_reached (DA.cons (DE.comp rfl (W6 (sc:=B8 Q4p) (N0:=MC.Q5b) (N:=["state","end","wanted"]) (nt:=2) (cap:=[2]) rfl rfl (by decide +kernel)) (F7.enumX rfl Z.T.m_enumerate Q5j (DA.one (DE.v 0))) (fun _ _ _ _=>(DG.tp (n:=2) rfl (J3.cons (DG.nm (i:=0) (show List.Nodup (["state","end","wanted"]:List Str)by decide +kernel) rfl (by trivial)) (J3.cons (DG.nm (i:=1) (show List.Nodup (["state","end","wanted"]:List Str)by decide +kernel) rfl (by trivial)) J3.nil)))) (fun _ _ _ _=>(DIf.one (DT.cmp (Q7j (n:=60) (Q7r hr)) Q0 (DE.v 1) (DE.v 2) (L9 _)))) (fun _ _ _ _=>(DE.fz (DE.v 0)))) (DA.one (DE.v 3)))) nd rfl (by trivial)) (A4.one (DS.ret (DE.comp rfl (W6 (sc:=B8 Q4p) (N0:=MC.Q5b) (N:=["state","reached"]) (nt:=1) (cap:=[7]) rfl rfl (by decide +kernel)) (F7.rng1 rfl Z.T.m_range (DA.one (DE.len Z.T.m_len (DE.v 0)))) (fun _ _ _ _=>(DG.nm (i:=0) (show List.Nodup (["state","reached"]:List Str)by decide +kernel) rfl (by trivial))) (fun _ _ _ _=>DIf.nil) (fun _ _ _ _=>(DE.fz (DE.fget1 (C2.hu1 hr) (pv 1) (DE.v 0) ⟨rfl,rfl,rfl,rfl⟩)))))))))
omit Z in
theorem Y3l:G4 MC.Z0l ["marks"] (B8 Q9g):=M8 (by decide +kernel)
theorem Z6m:FnD P w K mg base 1 (ad 4) (fn 4) ["marks"] sp_numbered:=by
 have nd:=Y3l.nd
 refine Z.D_numbered.ok Y3l (ws:=MC.Z5z  ) (fun cdv A outer s H E hr=>?_) MC.W4j
 exact(A4.numb rfl (by have:=hr.units;show _+9<cLine;exact Nat.lt_of_le_of_lt (Nat.add_le_add_left (by decide) _) this) (W6 (sc:=B8 Q9g) (N0:=MC.Z0l) (N:=["mark","numbers"]) (nt:=1) (cap:=[1]) rfl rfl (by decide +kernel)) (F7.lst (DE.v 0)) (fun _ _ _ _=>Y1q (show List.Nodup (["mark","numbers"]:List Str)by decide +kernel) rfl (by trivial)) (fun _ _ _ _=>W2t (by have:=hr.units;show _+9<cLine;exact Nat.lt_of_le_of_lt (Nat.add_le_add_left (by decide) _) this) (pv 1) (pv 0) rfl Z.T.m_len (pv 1) ⟨rfl,rfl,rfl,rfl⟩) nd rfl (by trivial))
omit Z in
theorem Y3r:G4 MC.Z0n ["ends","rows"] (B8 Q9l):=M8 (by decide +kernel)
theorem Y5x:P9 P w K mg base ts 3 (ad 5) (fn 5) ["ends","rows"] sp_told_apart:=by
 have nd:=Y3r.nd
 refine O8.okP Z.D_told_apart.F Y3r (ws:=MC.Z6c  sp_numbered sp_distances) (fun cdv A outer s H E hT hr=>?_) MC.W4p
 exact(A4.cons (DS.sv 2 (DE.fz (DE.cl (Z6m Z) hr Z.D_numbered (DA.one (DE.listZip rfl rfl Z.T.m_list rfl Z.T.m_zip (DA.cons (DE.clP (Y0r) (Z6l Z) hr hT Z.D_distances (DA.cons (DE.v 0) (DA.cons (DE.v 1) (DA.one DE.bl)))) (DA.one (DE.clP (Y0r) (Z6l Z) hr hT Z.D_distances (DA.cons (DE.v 0) (DA.cons (DE.v 1) (DA.one DE.bl)))))))))) nd) (A4.cons (DS.sv 3 DE.int nd) (A4.cons (DS.whl bf (DT.cmp Y7b Q5m (DE.callB (Z7z rfl) Y0h rfl Z.T.m_max Z7w (DA.one (DE.v 2))) (DE.v 3) (L9 _)) (A4.cons (DS.sv 3 (DE.op W1 V5 (DE.callB (Z7z rfl) Y0h rfl Z.T.m_max Z7w (DA.one (DE.v 2))) DE.int) nd) (A4.one (DS.sv 2 (DE.fz (DE.cl (Z6m Z) hr Z.D_numbered (DA.one (DE.comp rfl (W6 (sc:=B8 Q9l) (N0:=MC.Z0n) (N:=["block","row","blocks"]) (nt:=2) (cap:=[2]) rfl rfl (by decide +kernel)) (F7.zipA rfl Z.T.m_zip (DA.cons (DE.v 2) (DA.one (DE.v 1)))) (fun _ _ _ _=>(DG.tp (n:=2) rfl (J3.cons (DG.nm (i:=0) (show List.Nodup (["block","row","blocks"]:List Str)by decide +kernel) rfl (by trivial)) (J3.cons (DG.nm (i:=1) (show List.Nodup (["block","row","blocks"]:List Str)by decide +kernel) rfl (by trivial)) J3.nil)))) (fun _ _ _ _=>DIf.nil) (fun _ _ _ _=>(DE.fz (DE.tup (DA.cons (DE.fz (DE.v 0)) (DA.one (DE.fz (DE.tpl Z.T.m_tuple (DE.comp rfl (W6 (N0:=["block","row","blocks"]) (N:=["goal","blocks"]) (nt:=1) (cap:=[2]) rfl rfl (by kernel_rfl)) (F7.tup (DE.v 1)) (fun _ _ _ _=>(DG.nm (i:=0) (show List.Nodup (["goal","blocks"]:List Str)by decide +kernel) rfl (by trivial))) (fun _ _ _ _=>DIf.nil) (fun _ _ _ _=>(DE.fz (DE.ix (DE.v 1) (DE.v 0) (fun _ _=>rfl)))))))))))))))) nd)))) (A4.one (DS.retV (pv 2))))))
omit Z in
theorem Y3i:G4 MC.Z0j ["ends","rows"] (B8 Q6o):=M8 (by decide +kernel)
theorem Z0e:P9 P w K mg base ts 4 (ad 6) (fn 6) ["ends","rows"] sp_least:=by
 obtain⟨c,Pt,C,eO⟩:=Z.C_least
 have nd:=Y3i.nd
 refine R1.okP C Y3i (ws:=MC.Z5w (F4 P w K mg base 2) K sp_told_apart (sp_walkedK (F4 P w K mg base 2))) (fun A outer s H E hT hr=>?_) MC.W4f
 exact(A4.cons (DS.sv 2 (DE.fz (DE.clP (W0n) (Y5x Z) hr hT Z.D_told_apart (DA.cons (DE.v 0) (DA.one (DE.v 1))))) nd) (A4.cons (DS.knew (i:=3) nd rfl (by trivial)) (A4.cons (DS.fzK 3 (DS.for bf rfl (DI.enumF rfl Z.T.m_enumerate Q5j (DA.one (DE.v 2))) (DG.tp (n:=2) rfl (J3.cons (DG.nm (i:=4) nd rfl (by trivial)) (J3.cons (DG.nm (i:=5) nd rfl (by trivial)) J3.nil))) (A4.one (DS.ksetd (pv 3) (DE.v 5) (DE.v 4) ⟨rfl,rfl,rfl,rfl⟩)))) (A4.cons (DS.asg (DE.callW (kl:=1) (ps:=["block","column"]) (cs:=[("samples",3),("rows",1),("blocks",2)]) (clos:=[("samples",s.heap.objs.size+4),("rows",s.heap.objs.size+2),("blocks",s.heap.objs.size+3)]) (wb:=(MC.Q9x K)) (Y5z Z) (hr.mono (by decide)) rfl Z.D_walked.m Z.D_walked.k Z.D_walked.b (DE.ix (DE.v 2) DE.int (fun _ _=>rfl)) (hT _ eO) Z.hBM rfl C.hd rfl rfl (aU.mpr ⟨rfl,aU.mpr ⟨rfl,aU.mpr ⟨rfl,fun _ h=>nomatch h⟩⟩⟩) (aU.mpr ⟨⟨rfl,rfl,rfl⟩,aU.mpr ⟨⟨rfl,rfl,rfl⟩,aU.mpr ⟨⟨rfl,rfl,rfl⟩,fun _ h=>nomatch h⟩⟩⟩) ⟨rfl,rfl,rfl,by decide +kernel,by decide +kernel,by decide +kernel,by decide +kernel,by decide +kernel⟩ (fun _ _ _ _ _ us hl=>match us,hl with | [_,_],_=>rfl) (fun caps f c' A outer s H q hn hr=>(DE.ix (DE.v 4) (DE.ix (DE.ix (DE.v 3) (DE.fget (C2.hu1 hr) (pv 2) (DE.v 0) (fun _ _=>rfl)) (fun _ _=>rfl)) (DE.v 1) (fun _ _=>rfl)) (fun _ _=>rfl)))) (DG.tp (n:=2) rfl (J3.cons (DG.nm (i:=6) nd rfl (by trivial)) (J3.cons (DG.nm (i:=7) nd rfl (by trivial)) J3.nil)))) (A4.one (DS.ret (DE.tup (DA.cons (DE.fz (DE.tpl Z.T.m_tuple (DE.comp rfl (W6 (sc:=B8 Q6o) (N0:=MC.Z0j) (N:=["block","ends","samples"]) (nt:=1) (cap:=[0,3]) rfl rfl (by decide +kernel)) (F7.lst (DE.v 6)) (fun _ _ _ _=>(DG.nm (i:=0) (show List.Nodup (["block","ends","samples"]:List Str)by decide +kernel) rfl (by trivial))) (fun _ _ _ _=>DIf.nil) (fun _ _ _ _=>(DE.fz (DE.ix (DE.v 1) (DE.fget (C2.hu1 hr) (pv 2) (DE.v 0) (fun _ _=>rfl)) (fun _ _=>rfl))))))) (DA.one (DE.fz (DE.v 7)))))))))))
omit Z in
theorem Y2x:G4 MC.Z0h ["start","step","is_end"] (B8 Q9c):=M8 (by decide +kernel)
theorem Y5o:P9 P w K mg base ts 5 (ad 7) (fn 7) ["start","step","is_end"] (sp_built (F4 P w K mg base 2)):=by
 have nd:=Y2x.nd
 refine O8.okP Z.D_built.F Y2x (ws:=MC.Z5n (F4 P w K mg base 2) (sp_walked (F4 P w K mg base 2)) sp_least) (fun cdv A outer s H E hT hr=>?_) MC.W3v
 exact(A4.cons (DS.asg (DE.cl (Y5y Z) hr Z.D_walked (DA.cons (DE.v 0) (DA.one (DE.v 1)))) (DG.tp (n:=2) rfl (J3.cons (DG.nm (i:=3) nd rfl (by trivial)) (J3.cons (DG.nm (i:=4) nd rfl (by trivial)) J3.nil)))) (A4.one (DS.ret (DE.clP (Z2t) (Z0e Z) hr hT Z.D_least (DA.cons (DE.comp rfl (W6 (sc:=B8 Q9c) (N0:=MC.Z0h) (N:=["key","is_end"]) (nt:=1) (cap:=[2]) rfl rfl (by decide +kernel)) (F7.lst (DE.v 3)) (fun _ _ _ _=>(DG.nm (i:=0) (show List.Nodup (["key","is_end"]:List Str)by decide +kernel) rfl (by trivial))) (fun _ _ _ _=>DIf.nil) (fun _ _ _ _=>(DE.fz (DE.callC (k:=2) (hr.mono (by decide)) (pv 1) (DA.one (DE.v 0)))))) (DA.one (DE.v 4)))))))
omit Z in
theorem Y3o:G4 MC.Z7a ["one","other"] (B8 Q9j):=M8 (by decide +kernel)
theorem Z6o:P9 P w K mg base ts 3 (ad 8) (fn 8) ["one","other"] (sp_pair_step (F4 P w K mg base 2)):=by
 obtain⟨c,Pt,C,eO⟩:=Z.C_pair_step
 have nd:=Y3o.nd
 refine R1.okL (lps:=["pair","column"]) (w1:=MC.Z4t) (w2:=MC.Z4u) (wb:=MC.Q9z ) (cs:=[("rows",2),("other_rows",3)]) (kl:=1) C Y3o rfl Z.hBM eO (fun A outer s H E hr=>?_) (fun A outer s H E hr=>?_) (fun n=>[("rows",n+2),("other_rows",n+1)]) (fun n=>rfl) (fun n=>rfl) (fun n=>?_) ?_ ?_ (fun _ _ _ _ _ us hl=>match us,hl with | [_,_],_=>rfl) (fun caps g c' A outer s H q hn hr=>?_) (fun n=>rfl) MC.W4m
 ·exact(DS.sv 2 (DE.ix (DE.v 0) DE.int (fun _ _=>rfl)) nd)
 ·exact(DS.sv 3 (DE.ix (DE.v 1) DE.int (fun _ _=>rfl)) nd)
 ·exact aU.mpr ⟨rfl,aU.mpr ⟨rfl,fun _ h=>nomatch h⟩⟩
 ·exact aU.mpr ⟨⟨rfl,rfl⟩,aU.mpr ⟨⟨rfl,rfl⟩,fun _ h=>nomatch h⟩⟩
 ·exact⟨rfl,rfl,rfl,by decide +kernel,by decide +kernel,by decide +kernel,by decide +kernel,by decide +kernel⟩
 ·exact(DE.tup (DA.cons (DE.fz (DE.ix (DE.ix (DE.v 2) (DE.ix (DE.v 0) DE.int (fun _ _=>rfl)) (fun _ _=>rfl)) (DE.v 1) (fun _ _=>rfl))) (DA.one (DE.fz (DE.ix (DE.ix (DE.v 3) (DE.ix (DE.v 0) DE.int (fun _ _=>rfl)) (fun _ _=>rfl)) (DE.v 1) (fun _ _=>rfl))))))
omit Z in
theorem Y3n:G4 MC.Z6z ["one","other","is_end"] (B8 Q9i):=M8 (by decide +kernel)
theorem Z6n:P9 P w K mg base ts 3 (ad 9) (fn 9) ["one","other","is_end"] (sp_pair_end (F4 P w K mg base 1) (F4 P w K mg base 2)):=by
 obtain⟨c,Pt,C,eO⟩:=Z.C_pair_end
 have nd:=Y3n.nd
 refine R1.okL (lps:=["pair"]) (w1:=MC.Z4s) (w2:=MC.w2_pair_end) (wb:=MC.Q9y (F4 P w K mg base 1)) (cs:=[("other_ends",4),("is_end",2),("ends",3)]) (kl:=1) C Y3n rfl Z.hBM eO (fun A outer s H E hr=>?_) (fun A outer s H E hr=>?_) (fun n=>[("other_ends",n+3),("is_end",n+1),("ends",n+2)]) (fun n=>rfl) (fun n=>rfl) (fun n=>?_) ?_ ?_ (fun _ _ _ _ _ us hl=>match us,hl with | [_],_=>rfl) (fun caps g c' A outer s H q hn hr=>?_) (fun n=>rfl) MC.W4l
 ·exact(DS.sv 3 (DE.ix (DE.v 0) DE.int (fun _ _=>rfl)) nd)
 ·exact(DS.sv 4 (DE.ix (DE.v 1) DE.int (fun _ _=>rfl)) nd)
 ·exact aU.mpr ⟨rfl,aU.mpr ⟨rfl,aU.mpr ⟨rfl,fun _ h=>nomatch h⟩⟩⟩
 ·exact aU.mpr ⟨⟨rfl,rfl⟩,aU.mpr ⟨⟨rfl,rfl⟩,aU.mpr ⟨⟨rfl,rfl⟩,fun _ h=>nomatch h⟩⟩⟩
 ·exact⟨rfl,rfl,rfl,by decide +kernel,by decide +kernel,by decide +kernel,by decide +kernel,by decide +kernel⟩
 ·exact(DE.callC (k:=1) (hr.mono (ai 1)) (pv 2) (DA.cons (DE.ix (DE.v 3) (DE.ix (DE.v 0) DE.int (fun _ _=>rfl)) (fun _ _=>rfl)) (DA.one (DE.ix (DE.v 1) (DE.ix (DE.v 0) DE.int (fun _ _=>rfl)) (fun _ _=>rfl)))))
omit Z in
theorem Y3q:G4 MC.Z7c ["one","other","is_end"] (B8 Z4e):=M8 (by decide +kernel)
theorem Z0f:P9 P w K mg base ts 6 (ad 10) (fn 10) ["one","other","is_end"] (Q0z (F4 P w K mg base 1)):=by
 have nd:=Y3q.nd
 refine O8.okP Z.D_side_by_side.F Y3q (ws:=MC.Z6b  (sp_built (F4 P w K mg base 2)) (sp_pair_step (F4 P w K mg base 2)) (sp_pair_end (F4 P w K mg base 1) (F4 P w K mg base 2))) (fun cdv A outer s H E hT hr=>?_) MC.W4o
 exact(A4.one (DS.ret (DE.clP (W0k) (Y5o Z) hr hT Z.D_built (DA.cons (DE.tup (DA.cons (DE.fz DE.int) (DA.one (DE.fz DE.int)))) (DA.cons (DE.clP (Y0t) (Z6o Z) hr hT Z.D_pair_step (DA.cons (DE.v 0) (DA.one (DE.v 1)))) (DA.one (DE.clP (Y0s) (Z6n Z) hr hT Z.D_pair_end (DA.cons (DE.v 0) (DA.cons (DE.v 1) (DA.one (DE.v 2)))))))))))
omit Z in
theorem Y3j:G4 MC.Z6y ["machine"] (B8 Z4d):=M8 (by decide +kernel)
theorem Q6x:P9 P w K mg base ts 5 (ad 11) (fn 11) ["machine"] sp_least_of:=by
 have nd:=Y3j.nd
 refine O8.okP Z.D_least_of.F Y3j (ws:=MC.Z5x  sp_least) (fun cdv A outer s H E hT hr=>?_) MC.W4g
 exact(A4.cons (DS.asg (DE.v 0) (DG.tp (n:=2) rfl (J3.cons (DG.nm (i:=1) nd rfl (by trivial)) (J3.cons (DG.nm (i:=2) nd rfl (by trivial)) J3.nil)))) (A4.one (DS.ret (DE.clP (Z2t) (Z0e Z) hr hT Z.D_least (DA.cons (DE.v 1) (DA.one (DE.v 2)))))))
omit Z in
theorem Y2z:G4 MC.Z6r ["one","other"] (B8 Q9d):=M8 (by decide +kernel)
theorem T5:P9 P w K mg base ts 7 (ad 12) (fn 12) ["one","other"] (D5 P0):=by
 obtain⟨c,Pt,C,eO⟩:=Z.C_either
 have nd:=Y2z.nd
 refine R1.okP C Y2z (ws:=MC.Y5b (F4 P w K mg base 1) (Q0z (F4 P w K mg base 1))) (fun A outer s H E hT hr=>?_) MC.W3z
 exact(A4.one (DS.ret (DE.clP (Z2u) (Z0f Z) hr hT Z.D_side_by_side (DA.cons (DE.v 0) (DA.cons (DE.v 1) (DA.one (DE.lam0 (k:=0) (ps:=["end","other_end"]) (wb:=MC.Q6u) (sp:=L8 MC.Q6u []) (hT _ eO) Z.hBM rfl C.hd rfl ⟨rfl,rfl,rfl,by decide +kernel,by decide +kernel,by decide +kernel,by decide +kernel,by decide +kernel⟩ (fun _ _ _ _ us hl=>match us,hl with | [_,_],_=>rfl) (fun f c' A outer s H q hr=>(DE.or (DE.v 0) (DE.or1 (DE.v 1)))) (fun rs r _ ⟨ds,d,e1,e2,e3⟩=>⟨ds,d,e1,e2,by rw [cc,b7]at e3;exact e3⟩))))))))
omit Z in
theorem Y2w:G4 MC.Z6q ["one","other"] (B8 Q9b):=M8 (by decide +kernel)
theorem T4:P9 P w K mg base ts 7 (ad 13) (fn 13) ["one","other"] (D5 O9):=by
 obtain⟨c,Pt,C,eO⟩:=Z.C_both_of
 have nd:=Y2w.nd
 refine R1.okP C Y2w (ws:=MC.Y5a (F4 P w K mg base 1) (Q0z (F4 P w K mg base 1))) (fun A outer s H E hT hr=>?_) MC.W3u
 exact(A4.one (DS.ret (DE.clP (Z2u) (Z0f Z) hr hT Z.D_side_by_side (DA.cons (DE.v 0) (DA.cons (DE.v 1) (DA.one (DE.lam0 (k:=0) (ps:=["end","other_end"]) (wb:=MC.Q6t) (sp:=L8 MC.Q6t []) (hT _ eO) Z.hBM rfl C.hd rfl ⟨rfl,rfl,rfl,by decide +kernel,by decide +kernel,by decide +kernel,by decide +kernel,by decide +kernel⟩ (fun _ _ _ _ us hl=>match us,hl with | [_,_],_=>rfl) (fun f c' A outer s H q hr=>(DE.and (DE.v 0) (DE.and1 (DE.v 1)))) (fun rs r _ ⟨ds,d,e1,e2,e3⟩=>⟨ds,d,e1,e2,by rw [cc,b7]at e3;exact e3⟩))))))))
omit Z in
theorem Y3t:G4 MC.Z7f ["one","other"] (B8 Q9m):=M8 (by decide +kernel)
theorem Q6y:P9 P w K mg base ts 7 (ad 14) (fn 14) ["one","other"] (D5 T9):=by
 obtain⟨c,Pt,C,eO⟩:=Z.C_without
 have nd:=Y3t.nd
 refine R1.okP C Y3t (ws:=MC.Y5d (F4 P w K mg base 1) (Q0z (F4 P w K mg base 1))) (fun A outer s H E hT hr=>?_) MC.W4t
 exact(A4.one (DS.ret (DE.clP (Z2u) (Z0f Z) hr hT Z.D_side_by_side (DA.cons (DE.v 0) (DA.cons (DE.v 1) (DA.one (DE.lam0 (k:=0) (ps:=["end","other_end"]) (wb:=MC.Q6w) (sp:=L8 MC.Q6w []) (hT _ eO) Z.hBM rfl C.hd rfl ⟨rfl,rfl,rfl,by decide +kernel,by decide +kernel,by decide +kernel,by decide +kernel,by decide +kernel⟩ (fun _ _ _ _ us hl=>match us,hl with | [_,_],_=>rfl) (fun f c' A outer s H q hr=>(DE.and (DE.v 0) (DE.and1 (DE.nt (DE.v 1))))) (fun rs r _ ⟨ds,d,e1,e2,e3⟩=>⟨ds,d,e1,e2,by rw [cc,b7]at e3;exact e3⟩))))))))
omit Z in
theorem Y3m:G4 MC.Z0m ["one"] (B8 Q9h):=M8 (by decide +kernel)
theorem Q2t:P9 P w K mg base ts 6 (ad 15) (fn 15) ["one"] Y2:=by
 have nd:=Y3m.nd
 refine O8.okP Z.D_other_than.F Y3m (ws:=MC.Z6a  sp_least_of) (fun cdv A outer s H E hT hr=>?_) MC.W4k
 exact(A4.cons (DS.asg (DE.clP (Q8f) (Q6x Z) hr hT Z.D_least_of (DA.one (DE.v 0))) (DG.tp (n:=2) rfl (J3.cons (DG.nm (i:=1) nd rfl (by trivial)) (J3.cons (DG.nm (i:=2) nd rfl (by trivial)) J3.nil)))) (A4.one (DS.ret (DE.tup (DA.cons (DE.fz (DE.tpl Z.T.m_tuple (DE.comp rfl (W6 (sc:=B8 Q9h) (N0:=MC.Z0m) (N:=["end"]) (nt:=1) (cap:=[]) rfl rfl (by decide +kernel)) (F7.tup (DE.v 1)) (fun _ _ _ _=>(DG.nm (i:=0) (show List.Nodup (["end"]:List Str)by decide +kernel) rfl (by trivial))) (fun _ _ _ _=>DIf.nil) (fun _ _ _ _=>(DE.fz (DE.nt (DE.v 0))))))) (DA.one (DE.fz (DE.v 2))))))))
omit Z in
theorem Y3b:G4 MC.Z6t ["one","other","is_wanted"] (B8 Z3y):=M8 (by decide +kernel)
theorem Y5q:P9 P w K mg base ts 4 (ad 16) (fn 16) ["one","other","is_wanted"] (sp_first_of_both (F4 P w K mg base 1)):=by
 have nd:=Y3b.nd
 refine O8.okP Z.D_first_of_both.F Y3b (ws:=MC.Z5q  (sp_first_text (F4 P w K mg base 2)) (sp_pair_step (F4 P w K mg base 2)) (sp_pair_end (F4 P w K mg base 1) (F4 P w K mg base 2))) (fun cdv A outer s H E hT hr=>?_) MC.W4b
 exact(A4.one (DS.ret (DE.cl (Y5r Z) hr Z.D_first_text (DA.cons (DE.tup (DA.cons (DE.fz DE.int) (DA.one (DE.fz DE.int)))) (DA.cons (DE.clP (Y0t) (Z6o Z) hr hT Z.D_pair_step (DA.cons (DE.v 0) (DA.one (DE.v 1)))) (DA.one (DE.clP (Y0s) (Z6n Z) hr hT Z.D_pair_end (DA.cons (DE.v 0) (DA.cons (DE.v 1) (DA.one (DE.v 2)))))))))))
omit Z in
theorem Y3p:G4 MC.Z7b ["one","other"] (B8 Q9k):=M8 (by decide +kernel)
theorem Y5w:P9 P w K mg base ts 5 (ad 17) (fn 17) ["one","other"] (spB T9):=by
 obtain⟨c,Pt,C,eO⟩:=Z.C_parting
 have nd:=Y3p.nd
 refine R1.okP C Y3p (ws:=MC.Y5c (F4 P w K mg base 1) (sp_first_of_both (F4 P w K mg base 1))) (fun A outer s H E hT hr=>?_) MC.W4n
 exact(A4.one (DS.ret (DE.clP (W0l) (Y5q Z) hr hT Z.D_first_of_both (DA.cons (DE.v 0) (DA.cons (DE.v 1) (DA.one (DE.lam0 (k:=0) (ps:=["end","other_end"]) (wb:=MC.Q6v) (sp:=L8 MC.Q6v []) (hT _ eO) Z.hBM rfl C.hd rfl ⟨rfl,rfl,rfl,by decide +kernel,by decide +kernel,by decide +kernel,by decide +kernel,by decide +kernel⟩ (fun _ _ _ _ us hl=>match us,hl with | [_,_],_=>rfl) (fun f c' A outer s H q hr=>(DE.and (DE.v 0) (DE.and1 (DE.nt (DE.v 1))))) (fun rs r _ ⟨ds,d,e1,e2,e3⟩=>⟨ds,d,e1,e2,by rw [cc,b7]at e3;exact e3⟩))))))))
omit Z in
theorem Y3s:G4 MC.Z7e ["one","other"] (B8 Z4g):=M8 (by decide +kernel)
theorem Z6p:P9 P w K mg base ts 6 (ad 18) (fn 18) ["one","other"] Q0k:=by
 have nd:=Y3s.nd
 refine O8.okP Z.D_within.F Y3s (ws:=MC.Z6f  (spB T9)) (fun cdv A outer s H E hT hr=>?_) MC.W4s
 exact(A4.one (DS.ret (DE.cmp Y7c Y8p (DE.clP (W0i) (Y5w Z) hr hT Z.D_parting (DA.cons (DE.v 0) (DA.one (DE.v 1)))) DE.non (L9 _))))
omit Z in
theorem Y3k:G4 MC.Z0k ["some"] (B8 Q9f):=M8 (by decide +kernel)
theorem Y5v:P9 P w K mg base ts 5 (ad 19) (fn 19) ["some"] Q6m:=by
 have nd:=Y3k.nd
 refine O8.okP Z.D_machine_of.F Y3k (ws:=MC.Z5y  sp_least) (fun cdv A outer s H E hT hr=>?_) W4i
 exact(A4.cons (DS.llnew (i:=1) (DE.lst (DA.cons (DE.fz DE.int) (DA.cons (DE.fz DE.int) (DA.cons (DE.fz DE.int) (DA.one (DE.fz DE.int)))))) (DE.lst (DA.cons (DE.fz DE.int) (DA.cons (DE.fz DE.int) (DA.cons (DE.fz DE.int) (DA.one (DE.fz DE.int)))))) nd rfl (by trivial)) (A4.cons (DS.sv 2 (DE.lst (DA.cons (DE.fz DE.bl) (DA.one (DE.fz DE.bl)))) nd) (A4.cons (DS.fzL 1 (DS.for bf rfl (DI.bor (pv 0)) (DG.nm (i:=3) nd rfl (by trivial)) (A4.cons (DS.sv 4 DE.int nd) (A4.cons (DS.for bf rfl (DI.str (DE.v 3)) (DG.nm (i:=5) nd rfl (by trivial)) (A4.cons (DS.sv 6 (DE.index (DE.gstr rfl Z.T.c_SIGNS) (DE.v 5)) nd) (A4.cons (DS.ife (DT.cmp (Q7j (n:=60) (Q7r hr)) Q0 (DE.llget (pv 1) (DE.v 4) (DE.v 6) (fun _ _=>rfl) (fun _ _=>rfl)) DE.int (L9 _)) (A4.cons (DS.llput (pv 1) (DE.v 4) (DE.v 6) (DE.lllen (pv 1) rfl Z.T.m_len) (fun _ _=>rfl)) (A4.cons (DS.llpush (pv 1) (DE.lst (DA.cons (DE.fz DE.int) (DA.cons (DE.fz DE.int) (DA.cons (DE.fz DE.int) (DA.one (DE.fz DE.int)))))) ⟨rfl,rfl,rfl,rfl⟩) (A4.one (DS.append (pv 2) (DE.fz DE.bl))))) A4.nil) (A4.one (DS.sv 4 (DE.llget (pv 1) (DE.v 4) (DE.v 6) (fun _ _=>rfl) (fun _ _=>rfl)) nd))))) (A4.one (DS.setIx (pv 2) (DE.v 4) (DE.fz DE.bl))))))) (A4.one (DS.ret (DE.clP (Z2t) (Z0e Z) hr hT Z.D_least (DA.cons (DE.v 2) (DA.one (DE.fz (DE.comp rfl (W6 (sc:=B8 Q9f) (N0:=MC.Z0k) (N:=["row"]) (nt:=1) (cap:=[]) rfl rfl (by decide +kernel)) (F7.lst (DE.v 1)) (fun _ _ _ _=>(DG.nm (i:=0) (show List.Nodup (["row"]:List Str)by decide +kernel) rfl (by trivial))) (fun _ _ _ _=>DIf.nil) (fun _ _ _ _=>(DE.fz (DE.tpl Z.T.m_tuple (DE.v 0))))))))))))))
omit Z in
theorem Y3d:G4 MC.Z0i ["ends"] (B8 Q9e):=M8 (by decide +kernel)
theorem Y5s:FnD P w K mg base 1 (ad 20) (fn 20) ["ends"] sp_in_line:=by
 have nd:=Y3d.nd
 refine Z.D_in_line.ok Y3d (ws:=MC.Z5s  ) (fun cdv A outer s H E hr=>?_) MC.W4d
 exact(A4.cons (DS.sv 1 (DE.op W1k X7 (DE.len Z.T.m_len (DE.v 0)) DE.int) nd) (A4.one (DS.ret (DE.tup (DA.cons (DE.fz (DE.v 0)) (DA.one (DE.fz (DE.tpl Z.T.m_tuple (DE.comp rfl (W6 (sc:=B8 Q9e) (N0:=MC.Z0i) (N:=["state","last"]) (nt:=1) (cap:=[1]) rfl rfl (by decide +kernel)) (F7.rng1 rfl Z.T.m_range (DA.one (DE.len Z.T.m_len (DE.v 0)))) (fun _ _ _ _=>(DG.nm (i:=0) (show List.Nodup (["state","last"]:List Str)by decide +kernel) rfl (by trivial))) (fun _ _ _ _=>DIf.nil) (fun _ _ _ _=>(DE.fz (DE.op W1j W0q (DE.tup (DA.one (DE.fz (DE.callB (Y6w rfl) W0f rfl Z.T.m_min Y6n (DA.cons (DE.op W1 V5 (DE.v 0) DE.int) (DA.one (DE.v 1))))))) (DE.len Z.T.m_len (DE.gstr rfl Z.T.c_SIGNS))))))))))))))
omit Z in
theorem Y3a:G4 MC.Z6s [] (B8 Z3x):=M8 (by decide +kernel)
theorem Y5p:FnD P w K mg base 2 (ad 21) (fn 21) [] Q8y:=by
 have nd:=Y3a.nd
 refine Z.D_everything.ok Y3a (ws:=MC.Z5p  sp_in_line) (fun cdv A outer s H E hr=>?_) MC.W4a
 exact(A4.one (DS.ret (DE.cl (Y5s Z) hr Z.D_in_line (DA.one (DE.tup (DA.one (DE.fz DE.bl)))))))
omit Z in
theorem Y3f:G4 MC.Z6w ["_law_script","_law_k"] (B8 Z4b):=M8 (by decide +kernel)
theorem Y5u:FnD P w K mg base 1 (ad 22) (fn 22) ["_law_script","_law_k"] Q6j:=by
 have nd:=Y3f.nd
 refine Z.D_law_cell.ok Y3f (ws:=MC.Q9w  ) (fun cdv A outer s H E hr=>?_) MC.W3w
 exact(A4.cons (DS.ife (DT.cmp (Q7j (n:=60) (Q7r hr)) Q0 (DE.v 0) (DE.lst DA.nil) (L9 _)) (A4.one (DS.ret (DE.op Q3d Q3c DE.int (DE.v 1)))) A4.nil) (A4.one (DS.ret (DE.op W1 V5 (DE.ix (DE.v 0) (DE.op Q4j X7 (DE.v 1) (DE.len Z.T.m_len (DE.v 0))) (fun _ _=>rfl)) (DE.op Q3d Q3c DE.int (DE.op Q8o X7 (DE.v 1) (DE.len Z.T.m_len (DE.v 0))))))))
omit Z in
theorem Y3g:G4 MC.Z6x ["_law_script","_law_k","_law_many"] (B8 Z4c):=M8 (by decide +kernel)
theorem Z0c:FnD P w K mg base 2 (ad 23) (fn 23) ["_law_script","_law_k","_law_many"] Q6k:=by
 have nd:=Y3g.nd
 refine Z.D_law_drawn.ok Y3g (ws:=MC.Z5u  Q6j) (fun cdv A outer s H E hr=>?_) MC.W3y
 exact(A4.cons (DS.sv 3 (DE.op Q4j X7 (DE.op W1 V5 (DE.op Q3d Q3c (DE.op Q4j X7 (DE.cl (Y5u Z) hr Z.D_law_cell (DA.cons (DE.v 0) (DA.one (DE.v 1)))) DE.int) DE.int) (DE.op Q3d Q3c DE.int (DE.op W1 V5 (DE.v 1) DE.int))) DE.int) nd) (A4.cons (DS.sv 3 (DE.op Q4j X7 (DE.op W1 V5 (DE.op Q3d Q3c (DE.v 3) (DE.v 3)) (DE.op Q8o X7 (DE.v 3) DE.int)) DE.int) nd) (A4.one (DS.ret (DE.op Q4j X7 (DE.op Q8o X7 (DE.op Q4j X7 (DE.op W1 V5 (DE.op Q3d Q3c (DE.v 3) (DE.v 3)) (DE.op Q8o X7 (DE.v 3) DE.int)) DE.int) DE.int) (DE.v 2))))))
omit Z in
theorem Y3h:G4 MC.Q6z ["_law_script","_law_at","_law_most"] (B8 Q6n):=M8 (by decide +kernel)
theorem Z0d:FnD P w K mg base 3 (ad 24) (fn 24) ["_law_script","_law_at","_law_most"] Q8z:=by
 have nd:=Y3h.nd
 refine Z.D_law_machine.ok Y3h (ws:=MC.Z5v  Q6k) (fun cdv A outer s H E hr=>?_) MC.W4h
 exact(A4.cons (DS.sv 3 (DE.op W1 V5 DE.int (DE.cl (Z0c Z) hr Z.D_law_drawn (DA.cons (DE.v 0) (DA.cons (DE.v 1) (DA.one (DE.v 2)))))) nd) (A4.cons (DS.sv 4 (DE.tpl Z.T.m_tuple (DE.comp rfl (W6 (sc:=B8 Q6n) (N0:=MC.Q6z) (N:=["_law_k","_law_script","_law_at"]) (nt:=1) (cap:=[0,1]) rfl rfl (by decide +kernel)) (F7.rng1 rfl Z.T.m_range (DA.one (DE.v 3))) (fun _ _ _ _=>(DG.nm (i:=0) (show List.Nodup (["_law_k","_law_script","_law_at"]:List Str)by decide +kernel) rfl (by trivial))) (fun _ _ _ _=>DIf.nil) (fun _ _ _ _=>(DE.fz (DE.cmp (Q7j (n:=60) (Q7r hr)) Q0 (DE.cl (Z0c Z) hr Z.D_law_drawn (DA.cons (DE.v 1) (DA.cons (DE.op W1 V5 (DE.op W1 V5 (DE.v 2) DE.int) (DE.v 0)) (DA.one DE.int)))) DE.int (L9 _)))))) nd) (A4.cons (DS.sv 5 (DE.lst DA.nil) nd) (A4.cons (DS.for bf rfl (DI.rng1 rfl Z.T.m_range (DA.one (DE.v 3))) (DG.nm (i:=6) nd rfl (by trivial)) (A4.one (DS.append (pv 5) (DE.fz (DE.tpl Z.T.m_tuple (DE.comp rfl (W6 (sc:=B8 Q6n) (N0:=MC.Q6z) (N:=["_law_j","_law_script","_law_size","_law_at","_law_k"]) (nt:=1) (cap:=[0,3,1,6]) rfl rfl (by decide +kernel)) (F7.rng1 rfl Z.T.m_range (DA.one DE.int)) (fun _ _ _ _=>(DG.nm (i:=0) (show List.Nodup (["_law_j","_law_script","_law_size","_law_at","_law_k"]:List Str)by decide +kernel) rfl (by trivial))) (fun _ _ _ _=>DIf.nil) (fun _ _ _ _=>(DE.fz (DE.cl (Z0c Z) hr Z.D_law_drawn (DA.cons (DE.v 1) (DA.cons (DE.op W1 V5 (DE.op W1 V5 (DE.op W1 V5 (DE.v 3) DE.int) (DE.op Q3d Q3c DE.int (DE.v 4))) (DE.v 0)) (DA.one (DE.v 2))))))))))))) (A4.one (DS.ret (DE.tup (DA.cons (DE.fz (DE.v 4)) (DA.one (DE.fz (DE.tpl Z.T.m_tuple (DE.v 5))))))))))))
omit Z in
theorem Y3e:G4 Z6v ["_law_script"] (B8 Z4a):=M8 (by decide +kernel)
theorem Y5t:P9 P w K mg base ts 8 (ad 25) (fn 25) ["_law_script"] Q6l:=by
 have nd:=Y3e.nd
 refine O8.okP Z.D_law.F Y3e (ws:=Z5t  sp_least_of Q8z Q6m Q8y (D5 P0) (D5 O9) Y2 (D5 T9) Q0k) (fun cdv A outer s H E hT hr=>?_) W4e
 exact(A4.cons (DS.sv 1 (DE.clP (Q8f) (Q6x Z) hr hT Z.D_least_of (DA.one (DE.cl (Z0d Z) hr Z.D_law_machine (DA.cons (DE.v 0) (DA.cons DE.int (DA.one DE.int)))))) nd) (A4.cons (DS.sv 2 (DE.clP (Q8f) (Q6x Z) hr hT Z.D_least_of (DA.one (DE.cl (Z0d Z) hr Z.D_law_machine (DA.cons (DE.v 0) (DA.cons DE.int (DA.one DE.int)))))) nd) (A4.cons (DS.sv 3 (DE.clP (Q8f) (Q6x Z) hr hT Z.D_least_of (DA.one (DE.cl (Z0d Z) hr Z.D_law_machine (DA.cons (DE.v 0) (DA.cons DE.int (DA.one DE.int)))))) nd) (A4.cons (DS.sv 4 (DE.clP (W0m) (Y5v Z) hr hT Z.D_machine_of (DA.one (DE.lst DA.nil))) nd) (A4.cons (DS.sv 5 (DE.call0 (Y5p Z) hr Z.D_everything) nd) (A4.cons (DS.ife (DW.t (DW.or (DT.cmp (T7 (n:=59) (U0 hr)) Q0 (DE.clP (MC.F9) (T5 Z) hr hT Z.D_either (DA.cons (DE.v 1) (DA.one (DE.v 2)))) (DE.clP (MC.F9) (T5 Z) hr hT Z.D_either (DA.cons (DE.v 2) (DA.one (DE.v 1)))) (L9 _)) (DW.or1 (DT.cmp (T7 (n:=59) (U0 hr)) Q0 (DE.clP (MC.F9) (T4 Z) hr hT Z.D_both_of (DA.cons (DE.v 1) (DA.one (DE.v 2)))) (DE.clP (MC.F9) (T4 Z) hr hT Z.D_both_of (DA.cons (DE.v 2) (DA.one (DE.v 1)))) (L9 _))))) (A4.one (DS.ret DE.bl)) A4.nil) (A4.cons (DS.ife (DT.cmp (T7 (n:=59) (U0 hr)) Q0 (DE.clP (MC.F9) (T5 Z) hr hT Z.D_either (DA.cons (DE.v 1) (DA.one (DE.clP (MC.F9) (T5 Z) hr hT Z.D_either (DA.cons (DE.v 2) (DA.one (DE.v 3))))))) (DE.clP (MC.F9) (T5 Z) hr hT Z.D_either (DA.cons (DE.clP (MC.F9) (T5 Z) hr hT Z.D_either (DA.cons (DE.v 1) (DA.one (DE.v 2)))) (DA.one (DE.v 3)))) (L9 _)) (A4.one (DS.ret DE.bl)) A4.nil) (A4.cons (DS.ife (DT.cmp (T7 (n:=59) (U0 hr)) Q0 (DE.clP (MC.F9) (T4 Z) hr hT Z.D_both_of (DA.cons (DE.v 1) (DA.one (DE.clP (MC.F9) (T4 Z) hr hT Z.D_both_of (DA.cons (DE.v 2) (DA.one (DE.v 3))))))) (DE.clP (MC.F9) (T4 Z) hr hT Z.D_both_of (DA.cons (DE.clP (MC.F9) (T4 Z) hr hT Z.D_both_of (DA.cons (DE.v 1) (DA.one (DE.v 2)))) (DA.one (DE.v 3)))) (L9 _)) (A4.one (DS.ret DE.bl)) A4.nil) (A4.cons (DS.ife (DT.cmp (T7 (n:=59) (U0 hr)) Q0 (DE.clP (MC.F9) (T4 Z) hr hT Z.D_both_of (DA.cons (DE.v 1) (DA.one (DE.clP (MC.F9) (T5 Z) hr hT Z.D_either (DA.cons (DE.v 2) (DA.one (DE.v 3))))))) (DE.clP (MC.F9) (T5 Z) hr hT Z.D_either (DA.cons (DE.clP (MC.F9) (T4 Z) hr hT Z.D_both_of (DA.cons (DE.v 1) (DA.one (DE.v 2)))) (DA.one (DE.clP (MC.F9) (T4 Z) hr hT Z.D_both_of (DA.cons (DE.v 1) (DA.one (DE.v 3))))))) (L9 _)) (A4.one (DS.ret DE.bl)) A4.nil) (A4.cons (DS.ife (DT.cmp (T7 (n:=59) (U0 hr)) Q0 (DE.clP (MC.F9) (T5 Z) hr hT Z.D_either (DA.cons (DE.v 1) (DA.one (DE.clP (MC.F9) (T4 Z) hr hT Z.D_both_of (DA.cons (DE.v 2) (DA.one (DE.v 3))))))) (DE.clP (MC.F9) (T4 Z) hr hT Z.D_both_of (DA.cons (DE.clP (MC.F9) (T5 Z) hr hT Z.D_either (DA.cons (DE.v 1) (DA.one (DE.v 2)))) (DA.one (DE.clP (MC.F9) (T5 Z) hr hT Z.D_either (DA.cons (DE.v 1) (DA.one (DE.v 3))))))) (L9 _)) (A4.one (DS.ret DE.bl)) A4.nil) (A4.cons (DS.ife (DW.t (DW.or (DT.cmp (T7 (n:=59) (U0 hr)) Q0 (DE.clP (Q3b) (Q2t Z) hr hT Z.D_other_than (DA.one (DE.clP (Q3b) (Q2t Z) hr hT Z.D_other_than (DA.one (DE.v 1))))) (DE.v 1) (L9 _)) (DW.or1 (DT.cmp (T7 (n:=59) (U0 hr)) Q0 (DE.clP (Q3b) (Q2t Z) hr hT Z.D_other_than (DA.one (DE.clP (MC.F9) (T5 Z) hr hT Z.D_either (DA.cons (DE.v 1) (DA.one (DE.v 2)))))) (DE.clP (MC.F9) (T4 Z) hr hT Z.D_both_of (DA.cons (DE.clP (Q3b) (Q2t Z) hr hT Z.D_other_than (DA.one (DE.v 1))) (DA.one (DE.clP (Q3b) (Q2t Z) hr hT Z.D_other_than (DA.one (DE.v 2)))))) (L9 _))))) (A4.one (DS.ret DE.bl)) A4.nil) (A4.cons (DS.ife (DW.t (DW.or (DT.cmp (T7 (n:=59) (U0 hr)) Q0 (DE.clP (MC.F9) (Q6y Z) hr hT Z.D_without (DA.cons (DE.v 1) (DA.one (DE.v 2)))) (DE.clP (MC.F9) (T4 Z) hr hT Z.D_both_of (DA.cons (DE.v 1) (DA.one (DE.clP (Q3b) (Q2t Z) hr hT Z.D_other_than (DA.one (DE.v 2)))))) (L9 _)) (DW.or1 (DT.cmp (T7 (n:=59) (U0 hr)) Q0 (DE.clP (MC.F9) (T5 Z) hr hT Z.D_either (DA.cons (DE.clP (MC.F9) (Q6y Z) hr hT Z.D_without (DA.cons (DE.v 1) (DA.one (DE.v 2)))) (DA.one (DE.clP (MC.F9) (T4 Z) hr hT Z.D_both_of (DA.cons (DE.v 1) (DA.one (DE.v 2))))))) (DE.v 1) (L9 _))))) (A4.one (DS.ret DE.bl)) A4.nil) (A4.cons (DS.ife (DW.t (DW.or (DT.cmp (T7 (n:=59) (U0 hr)) Q0 (DE.clP (MC.F9) (T5 Z) hr hT Z.D_either (DA.cons (DE.v 1) (DA.one (DE.v 4)))) (DE.v 1) (L9 _)) (DW.or (DT.cmp (T7 (n:=59) (U0 hr)) Q0 (DE.clP (MC.F9) (T5 Z) hr hT Z.D_either (DA.cons (DE.v 1) (DA.one (DE.v 5)))) (DE.v 5) (L9 _)) (DW.or1 (DT.cmp (T7 (n:=59) (U0 hr)) Q0 (DE.clP (MC.F9) (T4 Z) hr hT Z.D_both_of (DA.cons (DE.v 1) (DA.one (DE.v 5)))) (DE.v 1) (L9 _)))))) (A4.one (DS.ret DE.bl)) A4.nil) (A4.cons (DS.ife (DW.t (DW.or (DT.cmp (T7 (n:=59) (U0 hr)) Q0 (DE.clP (MC.F9) (T4 Z) hr hT Z.D_both_of (DA.cons (DE.v 1) (DA.one (DE.v 4)))) (DE.v 4) (L9 _)) (DW.or (DT.cmp (T7 (n:=59) (U0 hr)) Q0 (DE.clP (Q3b) (Q2t Z) hr hT Z.D_other_than (DA.one (DE.v 4))) (DE.v 5) (L9 _)) (DW.or (DT.cmp (T7 (n:=59) (U0 hr)) Q0 (DE.clP (MC.F9) (Q6y Z) hr hT Z.D_without (DA.cons (DE.v 1) (DA.one (DE.v 1)))) (DE.v 4) (L9 _)) (DW.or1 (DT.cmp (T7 (n:=59) (U0 hr)) Q0 (DE.clP (MC.F9) (T5 Z) hr hT Z.D_either (DA.cons (DE.v 1) (DA.one (DE.v 1)))) (DE.v 1) (L9 _))))))) (A4.one (DS.ret DE.bl)) A4.nil) (A4.one (DS.ret (DE.and (DE.clP (Y0u) (Z6p Z) hr hT Z.D_within (DA.cons (DE.clP (MC.F9) (Q6y Z) hr hT Z.D_without (DA.cons (DE.clP (MC.F9) (T5 Z) hr hT Z.D_either (DA.cons (DE.v 1) (DA.one (DE.v 2)))) (DA.one (DE.v 1)))) (DA.one (DE.v 2)))) (DE.and1 (DE.clP (Y0u) (Z6p Z) hr hT Z.D_within (DA.cons (DE.clP (MC.F9) (T4 Z) hr hT Z.D_both_of (DA.cons (DE.v 1) (DA.one (DE.v 2)))) (DA.one (DE.v 1))))))))))))))))))))))
end
theorem Y6g {l:PySem.W.OpenLaw}{w:World}{K:Fg9}{h:Heap}{mg:Str->Option Value}{fa:Addr}{ts:List Addr} (X:K.In h) (G:h.Ns mainGlobals mg) (qx:mg "law"=some (.ref fa))
  {f0:Addr}{d0:FuncData} (H0:Hr K "walked" Z4f f0 d0)
  {f1:Addr}{d1:FuncData} (H1:Hr K "first_text" Z3z f1 d1)
  {f2:Addr}{d2:FuncData} (H2:Hr K "all_reached" Q9a f2 d2)
  {f3:Addr}{d3:FuncData} (H3:Hr K "distances" Q4p f3 d3)
  {f4:Addr}{d4:FuncData} (H4:Hr K "numbered" Q9g f4 d4)
  {f5:Addr}{d5:FuncData} (H5:Hr K "told_apart" Q9l f5 d5)
  {f6 c6 p6:Addr}{d6:FuncData} (H6:HrC K "least" Q6o f6 d6 c6 p6 ts)
  {f7:Addr}{d7:FuncData} (H7:Hr K "built" Q9c f7 d7)
  {f8 c8 p8:Addr}{d8:FuncData} (H8:HrC K "pair_step" Q9j f8 d8 c8 p8 ts)
  {f9 c9 p9:Addr}{d9:FuncData} (H9:HrC K "pair_end" Q9i f9 d9 c9 p9 ts)
  {oa:Addr}{oH:FuncData} (H10:Hr K "side_by_side" Z4e oa oH)
  {nZ:Addr}{oG:FuncData} (H11:Hr K "least_of" Z4d nZ oG)
  {nY rF mO:Addr}{oF:FuncData} (H12:HrC K "either" Q9d nY oF rF mO ts)
  {nX rE mN:Addr}{oE:FuncData} (H13:HrC K "both_of" Q9b nX oE rE mN ts)
  {nW rC mM:Addr}{oC:FuncData} (H14:HrC K "without" Q9m nW oC rC mM ts)
  {nV:Addr}{oB:FuncData} (H15:Hr K "other_than" Q9h nV oB)
  {nU:Addr}{oA:FuncData} (H16:Hr K "first_of_both" Z3y nU oA)
  {nT rB mL:Addr}{oy:FuncData} (H17:HrC K "parting" Q9k nT oy rB mL ts)
  {nS:Addr}{ox:FuncData} (H18:Hr K "within" Z4g nS ox)
  {nR:Addr}{ou:FuncData} (H19:Hr K "machine_of" Q9f nR ou)
  {k9:Addr}{ot:FuncData} (H20:Hr K "in_line" Q9e k9 ot)
  {nO:Addr}{oq:FuncData} (H21:Hr K "everything" Z3x nO oq)
  {nN:Addr}{oo:FuncData} (H22:Hr K "_law_cell" Z4b nN oo)
  {nM:Addr}{om:FuncData} (H23:Hr K "_law_drawn" Z4c nM om)
  {nL:Addr}{oj:FuncData} (H24:Hr K "_law_machine" Q6n nL oj)
  {r9:Addr}{mt:FuncData} (H25:Hr K "law" Z4a r9 mt)
  (z0:PySem.W.nsIn K mainGlobals "enumerate"=some none)    (z1:PySem.W.nsIn K mainGlobals "len"=some none)    (z2:PySem.W.nsIn K mainGlobals "list"=some none)    (z3:PySem.W.nsIn K mainGlobals "max"=some none)    (z4:PySem.W.nsIn K mainGlobals "min"=some none)    (z5:PySem.W.nsIn K mainGlobals "range"=some none)    (z6:PySem.W.nsIn K mainGlobals "tuple"=some none)    (z7:PySem.W.nsIn K mainGlobals "zip"=some none) {t0:Tok} (s0:PySem.W.nsIn K mainGlobals "SIGNS"=some (some (.str "01ab" t0))) (hsub:∀Pt∈ts,Pt=p6\/Pt=p8\/Pt=p9\/Pt=mO\/Pt=mN\/Pt=mM\/Pt=mL) :
  (∀Pt∈ts,(∃c,PySem.W.codeHdIn K c Pt=true)/\K.lookup Pt=none)/\∃fd:FuncData,(∀(s:Shared) (v:Value),BindsTo s fd ⟨[v],[]⟩ [("_law_script",v)])/\∀base:Heap,K.In base->base.Ns mainGlobals mg->Y5 mg base->P8 l.prog w K mg base K8 8 fa fd ["_law_script"] (Q4e K ts 1 Q6l):=by
 have e:=qx.symm.trans (PySem.W.mg_of X G H25.1)
 cases e
 refine⟨fun Pt hp=>by
  rcases hsub Pt hp with rfl | rfl | rfl | rfl | rfl | rfl | rfl
  ·exact H6.at
  ·exact H8.at
  ·exact H9.at
  ·exact H12.at
  ·exact H13.at
  ·exact H14.at
  ·exact H17.at
  ,?_⟩
 have T:Txt K mg w:={ m_enumerate:=bR X G z0,m_len:=bR X G z1,m_list:=bR X G z2,m_max:=bR X G z3,m_min:=bR X G z4,m_range:=bR X G z5,m_tuple:=bR X G z6,m_zip:=bR X G z7,c_SIGNS:=⟨t0,PySem.W.mg_of X G s0⟩ }
 have Lw:=H25.df (ps:=["_law_script"]) X G fun _ _ _ _ _ _ us hl=>match us,hl with | [_],_=>rfl
 obtain⟨⟨oc,od,kV,dc,pm,an,cd,ct,sl,e,l1,l2⟩,kp⟩:=H25.2
 refine⟨mt,fun s v=>by subst e;exact .of_eq rfl,fun base hB _ hBM=>?_⟩
 exact Y5t (ad:=fun i=>([f0,f1,f2,f3,f4,f5,f6,f7,f8,f9,oa,nZ,nY,nX,nW,nV,nU,nT,nS,nR,k9,nO,nN,nM,nL,fa]:List Addr).getD i 0) (fn:=fun i=>([d0,d1,d2,d3,d4,d5,d6,d7,d8,d9,oH,oG,oF,oE,oC,oB,oA,oy,ox,ou,ot,oq,oo,om,oj,mt]:List FuncData).getD i d0) ⟨T,hBM,
  H0.df X G fun _ _ _ _ _ _ us hl=>match us,hl with | [_,_],_=>rfl,
  H1.df X G fun _ _ _ _ _ _ us hl=>match us,hl with | [_,_,_],_=>rfl,
  H2.df X G fun _ _ _ _ _ _ us hl=>match us,hl with | [_,_],_=>rfl,
  H3.df X G fun _ _ _ _ _ _ us hl=>match us,hl with | [_,_,_],_=>rfl,
  H4.df X G fun _ _ _ _ _ _ us hl=>match us,hl with | [_],_=>rfl,
  H5.df X G fun _ _ _ _ _ _ us hl=>match us,hl with | [_,_],_=>rfl,
  H6.hr.df X G fun _ _ _ _ _ _ us hl=>match us,hl with | [_,_],_=>rfl,
  H7.df X G fun _ _ _ _ _ _ us hl=>match us,hl with | [_,_,_],_=>rfl,
  H8.hr.df X G fun _ _ _ _ _ _ us hl=>match us,hl with | [_,_],_=>rfl,
  H9.hr.df X G fun _ _ _ _ _ _ us hl=>match us,hl with | [_,_,_],_=>rfl,
  H10.df X G fun _ _ _ _ _ _ us hl=>match us,hl with | [_,_,_],_=>rfl,
  H11.df X G fun _ _ _ _ _ _ us hl=>match us,hl with | [_],_=>rfl,
  H12.hr.df X G fun _ _ _ _ _ _ us hl=>match us,hl with | [_,_],_=>rfl,
  H13.hr.df X G fun _ _ _ _ _ _ us hl=>match us,hl with | [_,_],_=>rfl,
  H14.hr.df X G fun _ _ _ _ _ _ us hl=>match us,hl with | [_,_],_=>rfl,
  H15.df X G fun _ _ _ _ _ _ us hl=>match us,hl with | [_],_=>rfl,
  H16.df X G fun _ _ _ _ _ _ us hl=>match us,hl with | [_,_,_],_=>rfl,
  H17.hr.df X G fun _ _ _ _ _ _ us hl=>match us,hl with | [_,_],_=>rfl,
  H18.df X G fun _ _ _ _ _ _ us hl=>match us,hl with | [_,_],_=>rfl,
  H19.df X G fun _ _ _ _ _ _ us hl=>match us,hl with | [_],_=>rfl,
  H20.df X G fun _ _ _ _ _ _ us hl=>match us,hl with | [_],_=>rfl,
  H21.df X G fun _ _ _ _ _ _ us hl=>match us,hl with | [],_=>rfl,
  H22.df X G fun _ _ _ _ _ _ us hl=>match us,hl with | [_,_],_=>rfl,
  H23.df X G fun _ _ _ _ _ _ us hl=>match us,hl with | [_,_,_],_=>rfl,
  H24.df X G fun _ _ _ _ _ _ us hl=>match us,hl with | [_,_,_],_=>rfl,
  H25.df X G fun _ _ _ _ _ _ us hl=>match us,hl with | [_],_=>rfl,⟨_,_,H6.fc,H6.tb⟩,⟨_,_,H8.fc,H8.tb⟩,⟨_,_,H9.fc,H9.tb⟩,⟨_,_,H12.fc,H12.tb⟩,⟨_,_,H13.fc,H13.tb⟩,⟨_,_,H14.fc,H14.tb⟩,⟨_,_,H17.fc,H17.tb⟩⟩
theorem walk {l:PySem.W.OpenLaw}{q:Program}{dG:List Str}{XP:(Str->Option Value)->Heap->Prop}{YP:World->Heap->Prop}{d:DefRec}{K:Params->Fg9}{ts:List Addr} (hn:l.most=some 63) (gR:d.params.defaults=[])
  (hY:∀(w:World) (h:Heap),YP w h->(K w.params).In h) (lZ:∀(w:World) (h:Heap),YP w h->∀Pt∈ts,h.get? Pt=some (PySem.W.tabObj #[]))
  (F:∀(w:World) (mg:Str->Option Value) (fa:Addr) (h:Heap),(K w.params).In h->h.Ns mainGlobals mg->mg d.name=some (.ref fa) ->
   (∀Pt∈ts,(∃c,PySem.W.codeHdIn (K w.params) c Pt=true)/\(K w.params).lookup Pt=none) /\
   ∃fd:FuncData,(∀(s:Shared) (u:Value),BindsTo s fd ⟨[u],[]⟩ [("_law_script",u)])/\∀base:Heap,(K w.params).In base->base.Ns mainGlobals mg->Y5 mg base->P8 l.prog w (K w.params) mg base K8 8 fa fd ["_law_script"] (Q4e (K w.params) ts 1 Q6l)) :
  PySem.W.WalkO q dG XP YP l.row.toRowW d [] (fun f vs=>PySem.call f vs) :=
 L2.W7z (n:=63) (k:=8) (x:="_law_script") (sp:=fun w=>Q4e (K w.params) ts 1 Q6l) hn (by decide) gR ⟨rfl,by decide,by decide⟩ hY lZ F
  (fun w H a ns hl hT hz=>⟨[.st (scr ns)],fun r=>r=.st (.bl true),rfl,⟨_,_,rfl,A3.s_lst hz AllS.ints,rfl⟩,rfl,hT,⟨ns,rfl,hl,rfl⟩,fun r v H' e sm ir=>⟨by subst e;exact ir,fun Pt hp=>sm _ _ (hT Pt hp)⟩⟩)
end K21
end
open PySem PySem.W PyProof.Rows TK
theorem PySem.Challenge.cw_textkinds_k21_whole_sets_holds : PySem.Challenge.rw_textkinds_k21_whole_sets.Holds := by
 w_on;o_law;k_head;(case hw=>w_witness2)
 k_fill
 refine K21.walk (l:=PySem.Challenge.rw_textkinds_k21_whole_sets) rfl rfl (fun w h Y=>PySem.W.km_in_of Y) (fun w h Y=>PySem.W.km_tabs_of Y) ?F
 case F =>
  intro w mg fa h KX G jB
  refine' K21.Y6g KX G jB ?H0 ?H1 ?H2 ?H3 ?H4 ?H5 ?H6 ?H7 ?H8 ?H9 ?H10 ?H11 ?H12 ?H13 ?H14 ?H15 ?H16 ?H17 ?H18 ?H19 ?H20 ?H21 ?H22 ?H23 ?H24 ?H25 ?z0 ?z1 ?z2 ?z3 ?z4 ?z5 ?z6 ?z7 ?s0 ?hsub
  (case H0=>(refine' S3 ?_ ?_ ?_ ?_;any_goals k_is))
  (case H1=>(refine' S3 ?_ ?_ ?_ ?_;any_goals k_is))
  (case H2=>(refine' S3 ?_ ?_ ?_ ?_;any_goals k_is))
  (case H3=>(refine' S3 ?_ ?_ ?_ ?_;any_goals k_is))
  (case H4=>(refine' S3 ?_ ?_ ?_ ?_;any_goals k_is))
  (case H5=>(refine' S3 ?_ ?_ ?_ ?_;any_goals k_is))
  (case H6=>(refine' Q2x ?xa ?xl ?xc ?xk ?xq ?xp ?xh ?xn ?xm;(case xa=>k_is);(case xl=>k_is);(case xc=>k_is);(case xk=>k_is);(case xq=>k_is);(case xp=>rfl);(case xh=>kernel_rfl);(case xn=>kernel_rfl);(case xm=>decide)))
  (case H7=>(refine' S3 ?_ ?_ ?_ ?_;any_goals k_is))
  (case H8=>(refine' Q2x ?xa ?xl ?xc ?xk ?xq ?xp ?xh ?xn ?xm;(case xa=>k_is);(case xl=>k_is);(case xc=>k_is);(case xk=>k_is);(case xq=>k_is);(case xp=>rfl);(case xh=>kernel_rfl);(case xn=>kernel_rfl);(case xm=>decide)))
  (case H9=>(refine' Q2x ?xa ?xl ?xc ?xk ?xq ?xp ?xh ?xn ?xm;(case xa=>k_is);(case xl=>k_is);(case xc=>k_is);(case xk=>k_is);(case xq=>k_is);(case xp=>rfl);(case xh=>kernel_rfl);(case xn=>kernel_rfl);(case xm=>decide)))
  (case H10=>(refine' S3 ?_ ?_ ?_ ?_;any_goals k_is))
  (case H11=>(refine' S3 ?_ ?_ ?_ ?_;any_goals k_is))
  (case H12=>(refine' Q2x ?xa ?xl ?xc ?xk ?xq ?xp ?xh ?xn ?xm;(case xa=>k_is);(case xl=>k_is);(case xc=>k_is);(case xk=>k_is);(case xq=>k_is);(case xp=>rfl);(case xh=>kernel_rfl);(case xn=>kernel_rfl);(case xm=>decide)))
  (case H13=>(refine' Q2x ?xa ?xl ?xc ?xk ?xq ?xp ?xh ?xn ?xm;(case xa=>k_is);(case xl=>k_is);(case xc=>k_is);(case xk=>k_is);(case xq=>k_is);(case xp=>rfl);(case xh=>kernel_rfl);(case xn=>kernel_rfl);(case xm=>decide)))
  (case H14=>(refine' Q2x ?xa ?xl ?xc ?xk ?xq ?xp ?xh ?xn ?xm;(case xa=>k_is);(case xl=>k_is);(case xc=>k_is);(case xk=>k_is);(case xq=>k_is);(case xp=>rfl);(case xh=>kernel_rfl);(case xn=>kernel_rfl);(case xm=>decide)))
  (case H15=>(refine' S3 ?_ ?_ ?_ ?_;any_goals k_is))
  (case H16=>(refine' S3 ?_ ?_ ?_ ?_;any_goals k_is))
  (case H17=>(refine' Q2x ?xa ?xl ?xc ?xk ?xq ?xp ?xh ?xn ?xm;(case xa=>k_is);(case xl=>k_is);(case xc=>k_is);(case xk=>k_is);(case xq=>k_is);(case xp=>rfl);(case xh=>kernel_rfl);(case xn=>kernel_rfl);(case xm=>decide)))
  (case H18=>(refine' S3 ?_ ?_ ?_ ?_;any_goals k_is))
  (case H19=>(refine' S3 ?_ ?_ ?_ ?_;any_goals k_is))
  (case H20=>(refine' S3 ?_ ?_ ?_ ?_;any_goals k_is))
  (case H21=>(refine' S3 ?_ ?_ ?_ ?_;any_goals k_is))
  (case H22=>(refine' S3 ?_ ?_ ?_ ?_;any_goals k_is))
  (case H23=>(refine' S3 ?_ ?_ ?_ ?_;any_goals k_is))
  (case H24=>(refine' S3 ?_ ?_ ?_ ?_;any_goals k_is))
  (case H25=>(refine' S3 ?_ ?_ ?_ ?_;any_goals k_is))
  (case z0=>k_is)
  (case z1=>k_is)
  (case z2=>k_is)
  (case z3=>k_is)
  (case z4=>k_is)
  (case z5=>k_is)
  (case z6=>k_is)
  (case z7=>k_is)
  (case s0=>k_is)
  (case hsub=>decide)
#print axioms PySem.Challenge.cw_textkinds_k21_whole_sets_holds
