import PyProof.Rows.All
import Wide.All
import OpenK.AllK
import Wide.FinOn
import Lean
import PyProof.EqAt
import PyProof.EqKinds
import PyProof.TupleCall
import PyProof.WalkInts
import KE.KDictSum
import PyProof.Rows.SetFrom
import PyProof.SetRoads
import PyProof.Rows.SumAny
import PyProof.Rows.SeqMore2
import PyProof.ListRange
import PySem.Challenge.RW_textkinds_k15_whole_texts
set_option Elab.async false
set_option linter.all false
set_option maxRecDepth 100000
set_option maxHeartbeats 0
abbrev M:=List
abbrev Ac:=Option
abbrev Ad:=PySem.Value
abbrev Ae:=PySem.Shared
abbrev Af:=PySem.Addr
abbrev Ag:=PySem.Expr
abbrev Ah:=PySem.Around
abbrev Ai:=PySem.FuncData
abbrev Aj:=PySem.Program
abbrev Ak:=PySem.World
abbrev Al:=PySem.Stmt
theorem aa:type_of% @List.getElem?_eq_getElem:=@List.getElem?_eq_getElem
def ae:=@PySem.Heap.get?_push_of_some
def af:=@PySem.wpAny_bind
theorem ag:type_of% @List.length_map:=@List.length_map
theorem ai:type_of% @List.getElem?_map:=@List.getElem?_map
theorem aj:type_of% @List.mem_cons_of_mem:=@List.mem_cons_of_mem
theorem ak:type_of% @List.mem_cons_self:=@List.mem_cons_self
def am:=@Nat.le_refl
def ao:=@PySem.wpAny_pure
theorem aq:type_of% @List.length_append:=@List.length_append
theorem ar:type_of% @List.mem_map:=@List.mem_map
theorem au:type_of% @List.mem_cons:=@List.mem_cons
theorem av:type_of% @List.getD_eq_getElem?_getD:=@List.getD_eq_getElem?_getD
theorem aw:type_of% @List.mem_append_right:=@List.mem_append_right
theorem ax:type_of% @List.map_cons:=@List.map_cons
def ay:=@List.getElem?_eq_none_iff
theorem az:type_of% @Option.some.inj:=@Option.some.inj
def aA:=@PySem.Heap.lt_size
def aB:=@Nat.lt_of_lt_of_le
def aC:=@Nat.ne_of_lt
theorem aD:type_of% @List.mem_of_getElem?:=@List.mem_of_getElem?
def aE:=@PySem.Heap.get?_push_size
def aF:=@List.size_toArray
theorem aG:type_of% @List.mem_singleton:=@List.mem_singleton
theorem aH:type_of% @List.length_cons:=@List.length_cons
def aI:=@List.getElem?_append_left
theorem aJ:type_of% @List.map_map:=@List.map_map
def aK:=@if_neg
theorem aL:type_of% @List.not_mem_nil:=@List.not_mem_nil
def aM:=@List.getElem?_eq_some_iff
def aN:=@List.getElem?_set_ne
theorem aO:type_of% @List.mem_append:=@List.mem_append
def aP:=@if_pos
theorem aQ:type_of% @List.mem_range:=@List.mem_range
def aR:=@List.forall_mem_cons
def aS:=@PySem.wpAny_mono
def aT:=@List.getElem?_append_right
def aU:=@Nat.lt_irrefl
def aV:=@Nat.le_trans
theorem aW:type_of% @List.map_append:=@List.map_append
theorem aX:type_of% @Nat.lt_or_ge:=@Nat.lt_or_ge
def aY:=@decide_eq_false
theorem aZ:type_of% @List.append_nil:=@List.append_nil
theorem b8:type_of% @List.map_congr_left:=@List.map_congr_left
def b9:=@List.length_replicate
def ba:=@PySem.Heap.size_push
def bb:=@PySem.PassesOwn.never
theorem bc:type_of% @List.length_range:=@List.length_range
def be:=@Nat.zero_le
def bf:=@PyProof.Rows.callWith_type1
theorem bg:type_of% @List.nodup_append:=@List.nodup_append
def bh:=@List.idxOf_lt_length_iff
def bi:=@List.getElem?_set_self
def bj:=@PySem.wpAny_Call_Name_kw
def bn:=@List.mem_iff_getElem
def bo:=@Nat.lt_succ_of_lt
theorem bp:type_of% @List.mem_append_left:=@List.mem_append_left
theorem bq:type_of% @List.nodup_cons:=@List.nodup_cons
def br:=@Bool.false_ne_true
def bt:=@List.length_singleton
def bu:=@or_false
def bv:=@List.getElem_mem
def bx:=@List.mem_filter
theorem bz:type_of% @List.length_nil:=@List.length_nil
theorem bA:type_of% @List.find?_cons:=@List.find?_cons
def bB:=@PySem.wpAny_holding
theorem bC:type_of% @List.prefix_refl:=@List.prefix_refl
def bD:=@List.length_take
def bE:=@PySem.W.mg_none_of
def bG:=@List.length_set
theorem bI:type_of% @List.flatMap_cons:=@List.flatMap_cons
def bJ:=@PyProof.Rows.slot_tuple_getitem
def bL:=@PySem.mem_of_lookup
def bM:=@PySem.wpAny_field
theorem bN:type_of% @List.append_assoc:=@List.append_assoc
theorem bO:type_of% @Int.toNat_natCast:=@Int.toNat_natCast
def bP:=@decide_eq_true
def bQ:=@PySem.Heap.SameBut.update
def bR:=@PySem.wpAny_newObj_type
def bS:=@PySem.Calls.spliced_cons
def bT:=@PySem.wpAny_callSpecial?_slot
def bU:=@beq_eq_false_iff_ne
def bV:=@List.getElem?_range
def bX:=@List.forIn_cons
def bY:=@Ne.symm
def c6:=@PySem.F.called_set
def c8:=@Nat.lt_succ_self
theorem cb:type_of% @List.mem_flatMap:=@List.mem_flatMap
theorem ce:type_of% @List.filter_cons:=@List.filter_cons
def cf:=@List.all_eq_true
def ci:=@List.take_append_of_le_length
def cj:=@PySem.wpAny_setField_rec
def ck:=@PySem.wpAny_call_entry
def cm:=@List.length_eq_zero_iff
def cp:=@of_decide_eq_true
def cq:=@List.nil_append
def cu:=@PySem.wpAny_seqItems
def cw:=@List.map_nil
def cx:=@PySem.wpAny_pyIter_enum
def cy:=@Bool.and_eq_true
theorem cA:type_of% @Nat.eq_zero_or_pos:=@Nat.eq_zero_or_pos
theorem cB:type_of% @List.prefix_append:=@List.prefix_append
def cC:=@PySem.Heap.get?_update_other
def cD:=@PySem.Calls.callWith_builtin
theorem cE:type_of% @List.getElem?_zip_eq_some:=@List.getElem?_zip_eq_some
def cF:=@List.drop_eq_getElem_cons
theorem cH:type_of% @List.sum_cons:=@List.sum_cons
theorem cI:type_of% @List.replicate_succ:=@List.replicate_succ
def cJ:=@PySem.Calls.evalArgs_plain
def cK:=@PySem.wpAny_truthy_bool
def cL:=@List.zipIdx_cons
def cM:=@PySem.Calls.spliced_nil
def cO:=@Bool.false_eq_true
def cQ:=@PySem.F.slot_dict_setdefault
def cR:=@PySem.Around.in1_units
def cS:=@List.length_filter_le
theorem cT:type_of% @List.flatten_cons:=@List.flatten_cons
def cV:=@PySem.wpAny_passesOwn
def cW:=@Nat.le_succ
def cX:=@PySem.Heap.get?_update_self
def cY:=@Classical.byContradiction
def cZ:=@Nat.zero_add
def db:=@PySem.eqIsQuiet_byValue
def de:=@PyProof.Rows.F.plain_set_update_loop
def dh:=@Array.length_toList
def dm:=@PySem.F.slot_tuple_iterator_next
def dn:=@PySem.wpAny_newFunctionEnv
def du:=@List.of_mem_zip
def dv:=@List.cons.injEq
def dz:=@Int.emod_lt_of_pos
def dB:=@PySem.F.plainAttrs_list
def dG:=@PySem.wpAny_comprehension_free
theorem dH:type_of% @List.take_of_length_le:=@List.take_of_length_le
theorem dI:type_of% @List.range_succ_eq_map:=@List.range_succ_eq_map
def dJ:=@List.ext_getElem?
def dL:=@List.nodup_nil
def dM:=@PySem.wpAny_standAt
def dO:=@Nat.le_of_lt
def dP:=@PySem.wpAny_list_append_plain
def dQ:=@PySem.wpAny_getItem_str_slice
def dR:=@List.getElem?_eq_none
def dU:=@PySem.wpAny_rule
def dX:=@Nat.succ_ne_self
def dY:=@List.drop_length
theorem eB:type_of% @List.range_succ:=@List.range_succ
def eC:=@Int.emod_nonneg
def eD:=@Bool.eq_iff_iff
def eE:=@List.length_pos_iff
def eN:=@PySem.wpAny_execs_cons
def eQ:=@Nat.lt_of_le_of_lt
theorem eR:type_of% @List.getElem_idxOf:=@List.getElem_idxOf
def eS:=@Array.forIn_toList
def eT:=@PySem.Around.under_plainId
def eY:=@if_false
theorem eZ:type_of% @List.mem_of_find?_eq_some:=@List.mem_of_find?_eq_some
def fi:=@PySem.codeAny_builtin
def fj:=@PySem.F.slot_zip_next
def fq:=@Nat.le_succ_of_le
theorem ft:type_of% @List.idxOf_append:=@List.idxOf_append
theorem fu:type_of% @List.getElem?_set:=@List.getElem?_set
def fw:=@List.filter_congr
def fx:=@Function.comp_def
def fy:=@PySem.F.args_tuple_add_2
def fz:=@PySem.codeAny_mono
def fA:=@if_true
def fB:=@PySem.F.plainAttrs_dict
def fC:=@PySem.F.entry_tuple_add
def fG:=@PySem.wpAny_pyIter_tuple
def fH:=@PySem.tupleKind_room_in1
def fI:=@List.length_drop
def fJ:=@PySem.W.cellsFrom_some
def fK:=@PySem.F.slot_tuple_add
def fL:=@List.filter_eq_nil_iff
def fR:=@Nat.not_lt
def fU:=@PySem.wpAny_assign_Name
def fV:=@PySem.wpAny_Call_method
def fW:=@PySem.WalksT.enumerateD
theorem fX:type_of% @List.foldl_cons:=@List.foldl_cons
def fY:=@PySem.sizeLine_eq
def fZ:=@PySem.F.slot_dict_get
def gj:=@List.pairwise_append
def gk:=@List.mem_of_mem_take
def gu:=@List.forIn_nil
def gw:=@PyProof.Rows.F.entry_set_update_loop
def gx:=@PySem.codeAny_compStart_list
def gy:=@List.mem_map_of_mem
def gz:=@List.getElem_of_mem
def gA:=@List.filter_sublist
def gB:=@List.filter_eq_self
def gC:=@List.filterMap_cons
def gS:=@PySem.wpAny_updateSeq
def gT:=@PySem.wpAny_tests_nil
def gU:=@PySem.wpAny_specialOf
def gV:=@PySem.wpAny_execs_nil
def gW:=@PySem.post_val_or_str
def gX:=@PySem.W.mg_of
theorem gY:type_of% @List.any_cons:=@List.any_cons
def gZ:=@List.all_cons
def hV:=@PySem.exec_Assign_Name_used
def hZ:=@PySem.W.callWith_K
def i0:=@List.pairwise_cons
def i3:=@List.mem_replicate
def iy:=@List.pairwise_iff_forall_sublist
def iA:=@PySem.wpAny_updateSeq_pair
def iB:=@Nat.lt_succ_of_le
def iC:=@List.foldl_append
def iT:=@Nat.succ_mul
def iU:=@Nat.ne_of_gt
def iV:=@PySem.wpAny_letGo
def j3:=@PySem.F.args_dict_setdefault_3
def j4:=@PyProof.Rows.callWith_builtin1
theorem j5:type_of% @Nat.max_eq_right:=@Nat.max_eq_right
def j6:=@Nat.le_max_right
def j7:=@List.take_append
def j8:=@List.nodup_range
theorem j9:type_of% @List.lookup_cons:=@List.lookup_cons
def ja:=@PySem.F.plain_extend_loop
def jr:=@PySem.F.entry_dict_setdefault
def js:=@PyProof.Rows.subscriptTail_builtinR
def jG:=@PySem.wpAny_onRaise
def jH:=@PySem.Paired.length
def jI:=@not_or
def jJ:=@PySem.F.type_dict_setdefault
def jK:=@List.mem_zipIdx_iff_getElem?
theorem jL:type_of% @Nat.max_eq_left:=@Nat.max_eq_left
def jM:=@List.zipIdx_map
theorem jN:type_of% @List.find?_some:=@List.find?_some
def jO:=@List.filter_map
def ki:=@PySem.call_meets
def kA:=@PySem.wpAny_pyIter_list
def kB:=@PySem.wpAny_Return_some
def kC:=@PySem.slot_list_getitem
def kD:=@Bool.and_false
def lc:=@PySem.wpAny_typeOf
def lf:=@PySem.concat_meets
def lg:=@PySem.Txt.slice_le
def lh:=@List.pairwise_iff_getElem
def lW:=@PySem.F.type_list_append
def lX:=@PySem.F.slot_list_append
def lY:=@Option.isSome_iff_exists
def lZ:=@PySem.noFill_tuple_add
def m3:=@List.map_take
def mV:=@PySem.F.args_dict_get_2
def nv:=@PySem.wpAny_mkInt
def ny:=@PySem.seqIndex_of
def nz:=@PySem.F.entry_dict_get
def nA:=@List.pairwise_lt_range
def nB:=@PySem.F.args_tuple_iterator_next_1
def nC:=@Nat.succ.inj
def nD:=@Nat.mul_comm
def nE:=@Nat.min_self
def nF:=@Nat.add_zero
def oW:=@PySem.F.slot_dict_len
theorem oX:type_of% @List.take_append_drop:=@List.take_append_drop
def oY:=@List.eq_nil_or_concat
def oZ:=@List.dropLast_eq_take
def p4:=@List.count_cons_of_ne
def p5:=@List.concat_eq_append
def p6:=@PySem.F.entry_tuple_iterator_next
def p8:=@Bool.and_eq_false_iff
def ph:=@Array.getElem?_toList
def qg:=@PySem.wpAny_newFunctionEnv_cells
def qh:=@List.mem_erase_of_ne
def qi:=@List.length_dropLast
theorem qj:type_of% @List.idxOf_eq_length:=@List.idxOf_eq_length
def qk:=@List.getElem?_zipIdx
def ql:=@List.count_cons_self
def qm:=@List.Pairwise.filter
def qo:=@PySem.Calls.Name_function_global
def qp:=@Bool.and_eq_true_iff
def qq:=@PySem.Draws.strAscii
def sH:=@PySem.W.pyHash_slot
def sI:=@PySem.W.codeHd_of_K
def sJ:=@Nat.add_le_add_left
def sK:=@List.map_eq_nil_iff
def uS:=@of_decide_eq_false
def uT:=@PySem.W.codeRec_of
def uU:=@List.mem_filterMap
def uV:=@List.map_singleton
def uW:=@PySem.seq_tuple_add
def uX:=@PySem.plainId_quiet
def uY:=@PySem.Draws.strWide
def ym:=@decide_eq_true_eq
def yn:=@Option.isSome_map
def yo:=@List.pairwise_map
def yp:=@List.getElem_take
def yL:=@PySem.wpAny_getItem_list_neg
def yM:=@beq_self_eq_true
theorem yN:type_of% @Option.getD_some:=@Option.getD_some
def yO:=@Option.getD_none
def yP:=@Nat.le_add_right
def yQ:=@List.take_length
def yR:=@List.mem_reverse
def yS:=@List.getLast_mem
theorem yT:type_of% @List.getElem_inj:=@List.getElem_inj
def yU:=@List.flatMap_nil
theorem yV:type_of% @List.flatMap_map:=@List.flatMap_map
def yW:=@PySem.call_meetsIn
def yX:=@PySem.callType_new
abbrev Fg9:= PySem.W.Frag
abbrev Pn9:= M (PySem.Addr×PySem.Obj)
abbrev VS9:= PySem.Value->PySem.Shared->Prop
namespace L2
open PySem PySem.Spec PyProof.Rows
set_option hygiene false
local macro_rules|`(?A)=>`(by omega)|`(?B)=>`((by z_go))|`(?C)=>`(A1 X ah σ H s)|`(?D)=>`((model X.prog X.w))|`(?E)=>`(by decide +kernel)|`(?G)=>`(by decide)|`(?H)=>`((by simp))|`(?I)=>`(starEach (e::es) X.env=(false,eval e X.env)::starEach es X.env)|`(?J)=>`(m.1.length)|`(?K)=>`(X.fn x=true\/X.env.scope.names.lookup x=some .local)|`(?L)=>`((blk X scope C s2 H2 fp N))|`(?M)=>`(caps.map (·.addr))|`(?N)=>`((by simp;omega))|`(?O)=>`(M (M Nat))|`(?P)=>`(M Nat)|`(?Q)=>`((fun _ _ _ _=>?B))|`(?R)=>`(some o)|`(?S)=>`((backTo pos (starEach es X.env)).any (·.1)=false)|`(?T)=>`((model P w))|`(?U)=>`((by assumption))
local macro_rules|`(tactic|accm_mu)=>`(tactic|(obtain⟨b,ys,e,n,q,t⟩:=r;exact⟨b,ys,e,n,by rw[B2 (fun z=>ap rfl (by rw[e,z]))];exact q,t.mono kp _ _⟩))
local macro_rules|`(tactic|back_in)=>`(tactic|(intro X hP hw hK hc i ah s σ H E I hf st hg;subst hP hw hK))
local macro_rules|`(tactic|sleep 1)=>`(tactic|(first |exact .inl rfl |exact .inr rfl |assumption))|`(tactic|sleep 2)=>`(tactic|(refine⟨_,rfl,_,rfl,?_⟩))
local macro_rules|`(tactic|k_ne)=>`(tactic|refine⟨_,rfl,?_⟩)
variable {us b7 its':M Ad}{u dW pm cdv ct oc vl vu u1 u2:Ad}{κ α β:Type}{a it f sl l D0 en c' Pt z i1 i2 l1 l2:Af}{P prog q:Aj}{h h' base:Heap}{ah lw pl pb:Pn9}{s s' s1 s2:Ae}{g':Array GenState}{t' n kk c L size:Nat}{ch fp S ts:M Af}{N ps iX:M Str}{x qual:Str}{Aa:Model}{A:Ah}{E Q QQ:Ad->Ae->Prop}{e o tg iter gt:Ag}{pos cg p apos bK mi:Pos}{st:Al}{body:M Al}{C:Int->Int->Prop}{fd:Ai}{kindOf:Str->Ac NameKind}{sc scope:Scope}{mg mb:Str->Ac Ad}{params:Arguments}{an od:Ac Af}{fS dS:Array (Ac Ad)}{T:String}{hi:Ac Int}{items:Array Ad}{ks keys:M (Ac Ag)}{XP:(Str->Ac Ad)->Heap->Prop}{YP:Ak->Heap->Prop}{ns:M Int}{cap b W:?P}{gP gN:M Ag}{use:Ac (Ad->Sem Unit)}{QB:Bool->Prop}{clos:M (Str×Af)}{cs:M (Str×Nat)}{b1 b2:Bool}{rs on B rows ws:?O}{es:M Bool}{g:Bool->Bool->Bool}{good:Nat->Nat->Prop}{Ln:Nat->Nat}
abbrev B8:=Sum Int Str
def Q6p:B8->Ad->Bool
 |.inl k,v=>Value.isInt k v
 |.inr x,v=>Value.isStrOf x v
def keyH (w:Ak):B8->Int
 |.inl k=>hashInt k
 |.inr x=>hashStr w x
theorem Q2h:∀{k:B8}{v:Ad},Q6p k v=true->(∃i t,k=Sum.inl i/\v=Value.int i t)\/(∃x t,k=Sum.inr x/\v=Value.str x t)
 |.inl i,v,h=>by
  obtain⟨t,e⟩:=Value.isInt_shape (k:=i) (v:=v) h;exact .inl ⟨i,t,rfl,e⟩
 |.inr x,v,h=>by
  obtain⟨t,e⟩:=Value.isStrOf_shape (x:=x) (v:=v) h;exact .inr ⟨x,t,rfl,e⟩
def W8z (i:Int)(t:Tok):Q6p (.inl i) (.int i t)=true:=by simp[Q6p,Value.isInt]
def W9a (x:Str)(t:Tok):Q6p (.inr x) (.str x t)=true:=by simp[Q6p,Value.isStrOf]
def W9c (a b:Int):decide ((Sum.inl a:B8)=Sum.inl b)=(a==b):=by
 by_cases e:a=b
 ·subst e;simp
 ·have h:¬ (Sum.inl a:B8)=Sum.inl b:=fun q=>e (Sum.inl.inj q);rw[aY h];exact(bU.mpr e).symm
def W9f (a b:Str):decide ((Sum.inr a:B8)=Sum.inr b)=decide (a=b):=by simp[B8]<;>omega
def W9d (a:Int)(b:Str):decide ((Sum.inl a:B8)=Sum.inr b)=false:=aY (fun q=>nomatch q)
def W9e (a:Str)(b:Int):decide ((Sum.inr a:B8)=Sum.inl b)=false:=aY (fun q=>nomatch q)
def N6 (prog:Aj)(w:Ak):PySem.KeyKind prog w B8 where
 is:=Q6p
 hash:=keyH w
 inj:=fun v a b ha hb=>by
  rcases Q2h ha with⟨i,t,rfl,rfl⟩ |⟨x,t,rfl,rfl⟩
  ·rcases Q2h hb with⟨j,u,rfl,e⟩ |⟨y,u,rfl,e⟩
   ·injection e with e1 _;rw[e1]
   ·exact nomatch e
  ·rcases Q2h hb with⟨j,u,rfl,e⟩ |⟨y,u,rfl,e⟩
   ·exact nomatch e
   ·injection e with e1 _;rw[e1]
 byValue:=fun k v h=>by
  rcases Q2h h with⟨i,t,rfl,rfl⟩ |⟨x,t,rfl,rfl⟩<;>rfl
 pyHash:=fun hv h=>by
  rcases Q2h hv with⟨i,t,rfl,rfl⟩ |⟨x,t,rfl,rfl⟩
  ·exact wpAny_pyHash_int h
  ·exact wpAny_pyHash_str h
 eqBool:=fun hu hv h=>by
  rcases Q2h hu with⟨i,t,rfl,rfl⟩ |⟨x,t,rfl,rfl⟩
  ·rcases Q2h hv with⟨j,u,rfl,rfl⟩ |⟨y,u,rfl,rfl⟩
   ·rw[W9c]at h;exact wpAny_eqBool_int h
   ·rw[W9d]at h;exact SeqAt.EqAt.int_str i t y u _ _ _ _ h
  ·rcases Q2h hv with⟨j,u,rfl,rfl⟩ |⟨y,u,rfl,rfl⟩
   ·rw[W9e]at h;exact SeqAt.EqAt.str_int x t j u _ _ _ _ h
   ·rw[W9f]at h;exact wpAny_eqBool_str h
 «strs»:=fun k x t v h=>by
  rcases Q2h h with⟨i,u,rfl,e⟩ |⟨y,u,rfl,e⟩
  ·exact nomatch e
  ·injection e with e1 _
   subst e1;cases v<;>rfl
def V0n (prog:Aj)(w:Ak)(i:Int)(t:Tok):(N6 prog w).is (.inl i) (.int i t)=true:=W8z i t
def V0o (prog:Aj)(w:Ak)(x:Str)(t:Tok):(N6 prog w).is (.inr x) (.str x t)=true:=W9a x t
inductive V where
 |non |bl (b:Bool) |int (i:Int) |str (x:Str) |byt (b:Array UInt8) |flt (b:UInt64) |ref (a:Addr) |ty (n:String)
 deriving DecidableEq
variable {xs ys vs lm:M V}{y:V}{kvs:M (M B8×V)}
def C9:V->Ad->Prop
 |.non,u=>u=Value.none
 |.bl b,u=>u=Value.bool b
 |.int i,u=>∃t,u=Value.int i t
 |.str x,u=>∃t,u=Value.str x t
 |.byt b,u=>∃t,u=Value.bytes b t
 |.flt b,u=>∃t,u=Value.float b t
 |.ref a,u=>u=Value.ref a
 |.ty n,u=>u=Value.type n
abbrev C3:M V->M Ad->Prop:=Paired C9
def C3.length (r:C3 xs us):xs.length=us.length:=jH r
theorem C3.get:∀{xs:M V}{us:M Ad}{i:Nat}{x:V},C3 xs us->xs[i]?=some x->∃u,us[i]?=some u/\C9 x u
 |_,_,_,_,.nil,e=>by simp at e
 |_,_,0,_,.cons r _,e=>by simp at e;subst e;exact⟨_,rfl,r⟩
 |_,_,i+1,x,.cons _ t,e=>by
  obtain⟨u,h1,h2⟩:=C3.get (i:=i) (x:=x) t (by simpa using e);exact⟨u,by simpa using h1,h2⟩
theorem C3.set {x:V}  (r:C9 x u):∀{xs:M V}{us:M Ad} (i:Nat),C3 xs us->C3 (xs.set i x) (us.set i u)
 |_,_,_,.nil=>.nil
 |_,_,0,.cons _ t=>.cons r t
 |_,_,i+1,.cons q t=>.cons q (C3.set r i t)
theorem C3.append:∀{xs ys:M V}{us ws:M Ad},C3 xs us->C3 ys ws->C3 (xs++ys) (us++ws):=by
 intro xs
 induction xs with
 |nil=>intro ys us ws a s;cases a;exact s
 |cons x xs ih=>
  intro ys us ws a s;cases a with
  |cons r t=>exact .cons r (ih t s)
theorem C3.take:∀{xs:M V}{us:M Ad} (n:Nat),C3 xs us->C3 (xs.take n) (us.take n)
 |_,_,0,_=>.nil
 |_,_,_+1,.nil=>.nil
 |_,_,n+1,.cons r t=>.cons r (C3.take n t)
theorem C3.drop:∀{xs:M V}{us:M Ad} (n:Nat),C3 xs us->C3 (xs.drop n) (us.drop n)
 |_,_,0,r=>r
 |_,_,_+1,.nil=>.nil
 |_,_,n+1,.cons _ t=>C3.drop n t
def Q2z:Ac V->Ac Ad->Prop
 |some v,some u=>C9 v u
 |none,none=>True
 |_,_=>False
def KV:M (κ×V)->M (κ×Ad)->Prop:=Paired fun(p:κ×V) (q:κ×Ad)=>p.1=q.1/\C9 p.2 q.2
def kV:B8->V
 |.inl i=>.int i
 |.inr x=>.str x
inductive HO where
 |lst (xs:List V)
 |tup (xs:List V)
 |dK (kvs:List (B8×V)) |dT (kvs:List (List B8×V))
 |set (S:Int->Bool) (n:Nat)
 |ins (C dx:Addr) (fs:List (Str×V))
 |own (x:Addr)
 |xd (fs:List (Str×V))
 |met (f x:Addr)
 |rng (lo hi:Int)
 |frz (o:Obj) (u:HO)
 |tab
 |tbl (ps:Array Value)
 |ext (φ:Heap->Prop)
abbrev Hp:=Af->Ac HO
variable {H H' H1 H2 H0:Hp}{Φ:Hp->Prop}
def B0 (H:Hp)(a:Af)(o:HO):Hp:=fun b=>if b=a then ?R else H b
def upd_same {o:HO}:B0 H a o a=?R:=by unfold B0;rw[aP rfl]
def B2 {b:Af}{o:HO}(h:b≠a):B0 H a o b=H b:=by unfold B0;rw[aK h]
def Q0x {b:Af}{o u:HO}(h:H a=?R)(h':H b=some u)(d:o≠u):a≠b:=by
 intro e;subst e;rw[h]at h';exact d (az h')
def Z4 {b:Af}{o:HO}(h:H a=?R)(h':H b=none):a≠b:=by
 intro e;subst e;rw[h]at h';cases h'
def Q5c (o:Obj):Prop:=∃vs q t,o.data=.fields vs/\vs[1]?=some (Value.str q t)
def Z0a (a:Af)(u:HO):Prop:=u=.own a\/∃o,u=.frz o (.own a)
section
variable (P:Aj)(w:Ak)
def N1 (H:Hp)(h:Heap)(a:Af):HO->Prop
 |.lst xs=>xs.length<=sizeLine/\∃(b7:M Ad) (n:Nat),C3 xs b7/\h.get? a=some {cls:=.type "list",data:=.seq b7.toArray n}
 |.tup xs=>xs.length<=sizeLine/\∃b7:M Ad,C3 xs b7/\IsTup h a b7.toArray
 |.dK kvs=>kvs.length<=sizeLine/\(a==sysModules)=false/\∃vs,KV kvs vs/\h.DictOf (N6 P w) a vs
 | .dT kvs=>kvs.length<=sizeLine/\(a==sysModules)=false/\∃xs:M (M B8×Af×Ad),
   Paired (fun(p:M B8×V) (q:M B8×Af×Ad)=>p.1=q.1/\H q.2.1=some (.tup (p.1.map kV))/\C9 p.2 q.2.2) kvs xs /\
   ∃o es ep,h.get? a=?R/\o.ExactDict/\o.data=.dict es ep/\es.toList=xs.map (entryOfKey (tupleKind (N6 P w)))/\(xs.map (·.1)).Nodup
 |.set S n=>h.SetOf (intKind P w) a S n
 | .ins C dx fs=>H dx=some (.own a)/\fs.length<=1000/\dx≠a/\h.get? a=some (PySem.W.instObj C dx) /\
   ∃mA,h.Ns1 dx mA/\(∀f,Q2z (fs.lookup f) (mA f))/\PySem.Within mA (fs.map (·.1))
 |.own _=>∃o,h.get? a=?R
 |.xd fs=>∃mA,h.Ns1 a mA/\∀f,Q2z (fs.lookup f) (mA f)
 |.rng lo hi=>∃t u v,h.get? a=some {cls:=.type "range",data:=.fields #[.int lo t,.int hi u,.int 1 v]}
 |.frz o u=>h.get? a=?R/\N1 H h a u
 |.tab=>∃ps,h.get? a=some (PySem.W.tabObj ps)/\TriplesOk ps.toList/\∀pos cv,codeAmong pos ps.toList=some cv->∃c' oc,cv=.ref c'/\H c'=some (.frz oc (.own a))/\Q5c oc
 |.tbl ps=>h.get? a=some {cls:=.none,data:=.fields ps}
 |.met f x=>h.get? a=some (PySem.W.methodObj (.ref f) (.ref x))
 |.ext φ=>φ h/\(∃o,h.get? a=?R)/\∀h1 h2:Heap,φ h1->(∀o,h1.get? a=?R->h2.get? a=?R)->φ h2
def J8 (H:Hp)(h:Heap):Prop:=∀a o,H a=?R->N1 P w H h a o
end
section
variable {w:Ak}{o:HO}
theorem N1.lt (x:N1 P w H h a o):a<h.objs.size:=by
 cases o with
 |lst xs=>obtain⟨_,_,_,_,e⟩:=x;exact aA e
 |tup xs=>obtain⟨_,_,_,p⟩:=x;exact p.lt
 |dK kvs=>obtain⟨_,_,_,_,o,_,_,e,_⟩:=x;exact aA e
 |dT kvs=>obtain⟨_,_,_,_,o,_,_,e,_⟩:=x;exact aA e
 |set S n=>obtain⟨o,_,_,_,e,_⟩:=x;exact aA e
 |ins C dx fs=>obtain⟨_,_,_,e,_⟩:=x;exact aA e
 |own y=>obtain⟨_,e⟩:=x;exact aA e
 |xd fs=>obtain⟨_,⟨_,_,_,e,_⟩,_⟩:=x;exact aA e
 |rng lo hi=>obtain⟨_,_,_,e⟩:=x;exact aA e
 |frz ob u=>obtain⟨e,_⟩:=x;exact aA e
 |tab=>obtain⟨_,e,_⟩:=x;exact aA e
 |tbl ps=>exact aA (show h.get? a=some _ from x)
 |met f y=>exact aA (show h.get? a=some _ from x)
 |ext φ=>obtain⟨_,⟨_,e⟩,_⟩:=x;exact aA e
theorem Y1z {F G:α->β->Prop}:∀{l₁:M α}{l₂:M β},Paired F l₁ l₂->(∀a b,F a b->G a b)->Paired G l₁ l₂:=by
 intro l₁
 induction l₁ with
 |nil=>intro l₂ a f;cases a;exact .nil
 |cons x l ih=>
  intro l₂ a f;cases a with
  |cons r t=>exact .cons (f _ _ r) (ih t f)
theorem N1.stay (x:N1 P w H h a o)(k:∀b u,(b=a\/H b=some (.own a))->h.get? b=some u->h'.get? b=some u)
  (ho:∀b u,Z0a a u->H b=some u->H' b=some u) (ht:∀b xs,H b=some (.tup xs)->H' b=some (.tup xs)):N1 P w H' h' a o:=by
 induction o with
 |lst xs=>obtain⟨z,b7,n,r,e⟩:=x;exact⟨z,b7,n,r,k _ _ (.inl rfl) e⟩
 |tup xs=>obtain⟨z,b7,r,ob,e,c⟩:=x;exact⟨z,b7,r,ob,k _ _ (.inl rfl) e,c⟩
 |dK kvs=>obtain⟨z,y,vs,r,ob,es,ep,e,c⟩:=x;exact⟨z,y,vs,r,ob,es,ep,k _ _ (.inl rfl) e,c⟩
 |dT kvs=>
  obtain⟨z,y,xs,r,ob,es,ep,e,c⟩:=x;exact⟨z,y,xs,Y1z r fun p q z=>⟨z.1,ht _ _ z.2.1,z.2.2⟩,ob,es,ep,k _ _ (.inl rfl) e,c⟩
 |set S n=>obtain⟨ob,es,ep,t,e,c⟩:=x;exact⟨ob,es,ep,t,k _ _ (.inl rfl) e,c⟩
 |ins C dx fs=>
  obtain⟨d,z,ne,e,mA,⟨od,es,ep,e2,c⟩,r⟩:=x;exact⟨ho _ _ (.inl rfl) d,z,ne,k _ _ (.inl rfl) e,mA,⟨od,es,ep,k _ _ (.inr d) e2,c⟩,r⟩
 |own y=>obtain⟨ob,e⟩:=x;exact⟨ob,k _ _ (.inl rfl) e⟩
 |xd fs=>obtain⟨mA,⟨od,es,ep,e,c⟩,r⟩:=x;exact⟨mA,⟨od,es,ep,k _ _ (.inl rfl) e,c⟩,r⟩
 |rng lo hi=>obtain⟨t,u,v,e⟩:=x;exact⟨t,u,v,k _ _ (.inl rfl) e⟩
 |frz ob u ih=>obtain⟨e,q⟩:=x;exact⟨k _ _ (.inl rfl) e,ih q⟩
 |tab=>
  obtain⟨ps,e,t,en⟩:=x;exact⟨ps,k _ _ (.inl rfl) e,t,fun pos cv q=>let ⟨c',oc,e1,e2,e3⟩:=en pos cv q;⟨c',oc,e1,ho _ _ (.inr ⟨_,rfl⟩) e2,e3⟩⟩
 |tbl ps=>
  have e:h.get? a=some {cls:=.none,data:=.fields ps}:=x;show h'.get? a=some {cls:=.none,data:=.fields ps};exact k a _ (.inl rfl) e
 |met f y=>
  have e:h.get? a=some (PySem.W.methodObj (.ref f) (.ref y)):=x;show h'.get? a=some (PySem.W.methodObj (.ref f) (.ref y));exact k a _ (.inl rfl) e
 |ext φ=>obtain⟨p,⟨o,e⟩,st⟩:=x;exact⟨st _ _ p fun o q=>k _ _ (.inl rfl) q,⟨o,k _ _ (.inl rfl) e⟩,st⟩
def J8.lt (x:J8 P w H h)(e:H a=?R):a<h.objs.size:=(x a o e).lt
theorem J8.fresh (x:J8 P w H h)(e:h.objs.size<=a):H a=none:=by
 cases q:H a with
 |none=>rfl
 |some u=>exact absurd (aB (x.lt q) e) (aU _)
def J8.kept (x:J8 P w H h)(k:∀b u,h.get? b=some u->h'.get? b=some u):J8 P w H h':=fun a o e=>
 (x a o e).stay (fun b u _ q=>k b u q) (fun _ _ _ q=>q) fun _ _ q=>q
def J8.laid (x:J8 P w H h)(k:∀b u,h.get? b=some u->h'.get? b=some u)(hp:h.objs.size<=a)(new:N1 P w (B0 H a o) h' a o):J8 P w (B0 H a o) h':=fun b u e=>by
 have hn:=x.fresh hp
 by_cases hb:b=a
 ·subst hb;rw[upd_same]at e;cases e;exact new
 ·rw[B2 hb]at e;exact(x b u e).stay (fun c v _ q=>k c v q) (fun c u _ q=>by rw[B2 (Z4 q hn)];exact q) fun c xs q=>by rw[B2 (Z4 q hn)];exact q
end
def Rd (H:Hp)(a:Af)(u:HO):Prop:=H a=some u\/∃o,H a=some (.frz o u)
def Rd.ok {w:Ak}    {u:HO}(r:Rd H a u)(x:J8 P w H h):N1 P w H h a u:=by
 rcases r with r |⟨o,r⟩
 ·exact x a u r
 ·obtain⟨_,q⟩:=x a _ r;exact q
def Mut:Ac HO->Prop
 |some (.lst _)=>True
 |some (.dK _)=>True
 |some (.dT _)=>True
 |some (.set _ _)=>True
 |some (.ins _ _ _)=>True
 |some (.ext _)=>True
 |some .tab=>True
 |_=>False
section
variable {w:Ak}{x e:Af}{o':HO}
def J8.write (ok:J8 P w H h)(mu:Mut (H x))(he:e=x\/H e=some (.own x))(k:∀b u,b≠e->h.get? b=some u->h'.get? b=some u)(np:∃u,h'.get? e=some u)
  (new:N1 P w (B0 H x o') h' x o'):J8 P w (B0 H x o') h':=fun b u q=>by
 have qF:∀c y,H c=some (.own y)->c≠x:=fun c y r z=>by subst z;rw[r]at mu;exact mu
 have nR:∀c u y,Z0a y u->H c=some u->c≠x:=fun c u y ow r z=>by
  subst z;rw[r]at mu;rcases ow with rfl |⟨o,rfl⟩
  ·exact mu
  ·exact mu
 have qE:∀c xs,H c=some (.tup xs)->c≠x:=fun c xs r z=>by subst z;rw[r]at mu;exact mu
 by_cases hb:b=x
 ·subst hb;rw[upd_same]at q;cases q;exact new
 ·rw[B2 hb]at q
  by_cases hbe:b=e
  ·have q':H b=some (.own x):=by
    rcases he with z |z
    ·exact absurd (hbe.trans z) hb
    ·rw[hbe];exact z
   rw[q]at q';cases q';obtain⟨v,hv⟩:=np;exact⟨v,by rw[hbe];exact hv⟩
  ·refine(ok b u q).stay (fun c v hc r=>k c v ?_ r) (fun c u ow r=>by rw[B2 (nR c u b ow r)];exact r) fun c xs r=>by rw[B2 (qE c xs r)];exact r
   rcases hc with rfl |hc
   ·exact hbe
   ·rintro rfl;rcases he with z |z
    ·exact qF c b hc z
    ·rw[hc]at z;cases z;exact hb rfl
end
structure Un (fs ex:M Af)(H H':Hp)(h h':Heap):Prop where
 keep:∀b o,h.get? b=?R->H b=none->b∉fs->b∉ex->h'.get? b=?R
 slot:∀b o,h.get? b=?R->H b=none->b∈fs->b∉ex->∃sl,h'.get? b=some {o with slots:=sl}
 free:∀b o,h.get? b=?R->H b=none->b∉ex->H' b=none
 there:∀b o,h.get? b=?R->b∉ex->∃o',h'.get? b=some o'
 tups:∀b xs,H b=some (.tup xs)->H' b=some (.tup xs)
 frzs:∀b o u,H b=some (.frz o u)->H' b=some (.frz o u)
 tbls:∀b ps,H b=some (.tbl ps)->∃more,H' b=some (.tbl (ps++more))
section
variable {fs ex:M Af}{h1:Heap}{x e:Af}{o:HO}
def Un.any (u:Un fs ex H H1 h h1){b:Af}{ob:Obj}(q:h.get? b=some ob)(n:H b=none)(hx:b∉ex):∃sl,h1.get? b=some {ob with slots:=sl}:=by
 by_cases hb:b∈fs
 ·exact u.slot b ob q n hb hx
 ·exact⟨ob.slots,u.keep b ob q n hb hx⟩
def Un.kept (k:∀b u,h.get? b=some u->h'.get? b=some u):Un fs ex H H h h':=
 ⟨fun b ob q _ _ _=>k b ob q,fun b ob q _ _ _=>⟨ob.slots,k b ob q⟩,fun _ _ _ n _=>n,fun b ob q _=>⟨ob,k b ob q⟩,fun _ _ q=>q,fun _ _ _ q=>q,fun _ ps q=>⟨#[],by rw[q];simp⟩⟩
def Un.refl:Un fs ex H H h h:=Un.kept fun _ _ q=>q
def Un.laid (k:∀b u,h.get? b=some u->h'.get? b=some u)(hp:h.objs.size<=a)(hn:H a=none):Un fs ex H (B0 H a o) h h' where
 keep:=fun b u q _ _ _=>k b u q
 slot:=fun b u q _ _ _=>⟨u.slots,k b u q⟩
 free:=fun b u q n _=>by rw[B2 (aC (aB (aA q) hp))];exact n
 there:=fun b u q _=>⟨u,k b u q⟩
 tups:=fun b xs q=>by rw[B2 (Z4 q hn)];exact q
 frzs:=fun b u xs q=>by rw[B2 (Z4 q hn)];exact q
 tbls:=fun b ps q=>⟨#[],by rw[B2 (Z4 q hn),q];simp⟩
def Un.write (mu:Mut (H x))(he:e=x\/H e=some (.own x))(k:∀b u,b≠e->h.get? b=some u->h'.get? b=some u)(np:∃u,h'.get? e=some u):Un fs ex H (B0 H x o) h h':=by
 have hx:∀b,H b=none->b≠x:=fun b n z=>by subst z;rw[n]at mu;exact mu
 have hb:∀b,H b=none->b≠e:=fun b n z=>by
  subst z;rcases he with r |r
  ·exact hx b n r
  ·rw[n]at r;cases r
 have hm:∀b u,H b=some u->¬ Mut (some u)->b≠x:=fun b u q nm z=>by subst z;rw[q]at mu;exact nm mu
 refine⟨fun b u q n _ _=>k b u (hb b n) q,fun b u q n _ _=>⟨u.slots,k b u (hb b n) q⟩,fun b u q n _=>by rw[B2 (hx b n)];exact n,fun b u q _=>?_,
  fun b xs q=>by rw[B2 (hm b _ q fun z=>z)];exact q,fun b u xs q=>by rw[B2 (hm b _ q fun z=>z)];exact q,fun b ps q=>⟨#[],by rw[B2 (hm b _ q fun z=>z),q];simp⟩⟩
 by_cases hbe:b=e
 ·subst hbe;exact np
 ·exact⟨u,k b u hbe q⟩
end
def trk (h:Heap)(H:Hp):M Af:=(List.range h.objs.size).filter fun a=>(H a).isSome
def Q2g (h:Heap)(H:Hp):Heap:=PySem.W.hideAll h (trk h H)
def W7t (h:Heap)(H:Hp):(Q2g h H).objs.size=h.objs.size:=PySem.W.hideAll_size _ _
def W7s {b:Af}{o:Obj}(e:h.get? b=?R)(n:H b=none):(Q2g h H).get? b=?R:=
 PySem.W.hideAll_get _ e fun hm=>by
  have q:(H b).isSome=true:=(bx.mp hm).2;rw[n]at q;simp at q
theorem V1w {b:Af}{o:Obj}(e:(Q2g h H).get? b=?R):h.get? b=?R/\H b=none:=by
 have e':h.get? b=?R:=PySem.W.of_hideAll (trk h H) e;refine⟨e',?_⟩;cases q:H b with
 |none=>rfl
 |some x=>
  have hm:b∈trk h H:=bx.mpr ⟨aQ.mpr (aA e'),by simp[q]⟩;have z:(Q2g h H).get? b=none:=PySem.W.hideAll_none (trk h H) hm;rw[z]at e;cases e
structure Mod (K:Fg9)(mg:Str->Ac Ad)(base:Heap):Prop where
 kin:K.In base
 glob:base.Ns mainGlobals mg
 blt:∃mb,base.Ns builtinsNs mb/\∀x:Str,x≠"__name__"->mb x=bootBuiltins x
 nolimit:base.NoLimit
structure Cx where
 prog:Aj
 w:Ak
 K:Fg9
 mg:Str->Ac Ad
 base:Heap
 A:Ah
 N:M Str
 s₀:Ae
 H₀:Hp
 env:Env
 outer:M Env
 stack:M Env
 ex:M Af
 fn:Str->Bool
 calm:Bool
 pn:Pn9
 xe:VS9
variable {X:Cx}
def frs (l:M Env):M Af:=l.filterMap (·.frame)
abbrev Cx.fs (X:Cx):M Af:=frs X.outer
def Vis (sc:Scope)(x:Str):Prop:=sc.names.lookup x=some .local\/sc.names.lookup x=some .cell\/sc.names.lookup x=some .free
def Loc (sc:Scope)(x:Str):Prop:=sc.names.lookup x=some .local\/sc.names.lookup x=some .cell
def Look (env:Env)(h:Heap)(m:Str->Ac Ad)(x:Str)(u:Ad):Prop:=
 (env.kindOf x=some .local/\m x=some u)\/((env.kindOf x=some .cell\/env.kindOf x=some .free)/\∃c,env.cells.lookup x=some c/\h.IsCell c (some u))
structure Cx.Ok (X:Cx):Prop where
 mod:Mod X.K X.mg X.base
 kind:X.env.scope.kind=.function
 glob:X.env.globals=mainGlobals
 blt:X.env.builtins=builtinsNs
 above:X.s₀.heap.objs.size<=X.env.locals
 inj:∀x y c,X.env.cells.lookup x=some c->X.env.cells.lookup y=some c->x=y
 has:∀x,(X.env.kindOf x=some .cell\/X.env.kindOf x=some .free)->∃c,X.env.cells.lookup x=some c
 cab:∀x c,X.fn x=true->X.env.cells.lookup x=some c->X.s₀.heap.objs.size<=c
 hd:X.calm=true->X.A.handled=none
 frames:X.A.frames=some X.stack
 stk:X.stack=X.outer\/(X.stack=X.env::X.outer/\X.env.frame=some X.env.locals)
 exf:∀b∈X.ex,b≠X.env.locals/\∀x c,X.env.cells.lookup x=some c->c≠b
 bs:∀b o,X.base.get? b=?R->X.s₀.heap.get? b=?R/\X.H₀ b=none
 bsz:X.base.objs.size<=X.s₀.heap.objs.size
 noex:∀b o,X.base.get? b=?R->b∉X.ex
 exfs:∀b∈X.ex,b∉X.fs
 funs:X.s₀.heap.FunFrames X.base X.outer
 frf:∀b∈X.fs,X.H₀ b=none
structure A1 (X:Cx)(ah:Pn9)(σ:M (Ac V))(H:Hp)(s:Ae):Prop where
 ok:X.Ok
 os:s.os=X.s₀.os
 bare:AllBare s.gens
 base:Un X.fs X.ex X.H₀ H X.s₀.heap s.heap
 loc:∃m,s.heap.Ns X.env.locals m/\∀(i:Nat) (x:Str) (v:V),X.N[i]?=some x->σ[i]?=some (some v)->Vis X.env.scope x->∃u,C9 v u/\Look X.env s.heap m x u
 cell:∀x c,X.env.cells.lookup x=some c->∃v,s.heap.IsCell c v
 free:H X.env.locals=none
 freeC:∀x c,X.env.cells.lookup x=some c->H c=none
 pin:∀p∈X.pn++ah,s.heap.get? p.1=some p.2/\H p.1=none/\p.1≠X.env.locals/\p.1∉X.fs/\∀v,p.2.data≠.cell v
 hok:J8 X.prog X.w H s.heap
 len:σ.length=X.N.length
section
variable {σ:M (Ac V)}
def Cx.Ok.nofr (ok:X.Ok){b:Af}{o:Obj}(e:X.base.get? b=?R):b∉X.fs:=fun hb=>by
 have:=(ok.funs.mem hb).1;rw[e]at this;cases this
def A1.bs (I:?C):∀b o,X.base.get? b=?R->s.heap.get? b=?R/\H b=none:=fun b o e=>
 ⟨I.base.keep b o (I.ok.bs b o e).1 (I.ok.bs b o e).2 (I.ok.nofr e) (I.ok.noex b o e),I.base.free b o (I.ok.bs b o e).1 (I.ok.bs b o e).2 (I.ok.noex b o e)⟩
def A1.bk (I:?C):∀b o,X.base.get? b=?R->s.heap.get? b=?R:=fun b o e=>(I.bs b o e).1
def A1.mod (I:?C):Mod X.K X.mg X.base:=I.ok.mod
def A1.kIn (I:?C):X.K.In s.heap:=I.ok.mod.kin.keeps I.bk
def A1.lt (I:?C):X.env.locals<s.heap.objs.size:=let ⟨_,hn,_⟩:=I.loc;hn.lt
def A1.sz (I:?C):X.s₀.heap.objs.size<=s.heap.objs.size:=aV I.ok.above (dO I.lt)
def A1.nofs (I:?C)  (h:s.heap.objs.size<=a):a∉X.fs:=fun hb=>by
 obtain⟨_,o,ho,_⟩:=I.ok.funs.mem hb;exact absurd (aB (aA ho) (aV I.sz h)) (aU _)
def A1.cne (I:?C):∀x c,X.env.cells.lookup x=some c->c≠X.env.locals:=fun x c e z=>by
 obtain⟨v,o,ho,hd⟩:=I.cell x c e;obtain⟨m,⟨o',es,ep,mG,wW,_⟩,_⟩:=I.loc;rw[z,mG]at ho;cases ho;rw[wW]at hd;cases hd
def A1.funs (I:?C):s.heap.FunFrames X.base X.outer:=by
 have all:∀(l:M Env),(∀b∈frs l,b∈X.fs)->X.s₀.heap.FunFrames X.base l->s.heap.FunFrames X.base l:=by
  intro l
  induction l with
  |nil=>intro _ _;trivial
  |cons env r ih=>
   intro hs hl;obtain⟨hk,⟨L,o,hf,hn,ho,hd⟩,hr⟩:=hl;have hL:L∈X.fs:=hs L (by unfold frs;rw[gC,hf];exact ak);obtain⟨sl,e⟩:=I.base.slot L o ho (I.ok.frf L hL) hL fun z=>I.ok.exfs L z hL;exact⟨hk,⟨L,_,hf,hn,e,hd⟩,ih (fun b hb=>hs b (by unfold frs;rw[gC,hf];exact aj _ hb)) hr⟩
 exact all X.outer (fun _ hb=>hb) I.ok.funs
def A1.stack (I:?C):s.heap.FunFrames X.base X.stack:=by
 rcases I.ok.stk with e |⟨e,hf⟩
 ·rw[e];exact I.funs
 ·rw[e];obtain⟨m,hn,_⟩:=I.loc;refine .cons (by rw[I.ok.kind];decide) hf hn ?_ I.funs;exact Heap.get?_none_of_le (aV I.ok.bsz I.ok.above)
def A1.stkSub (I:?C):∀b∈frs X.stack,b∈X.env.locals::X.fs:=fun b hb=>by
 rcases I.ok.stk with e |⟨e,hf⟩
 ·rw[e]at hb;exact aj _ hb
 ·rw[e]at hb;unfold frs at hb;rw[gC,hf]at hb;exact hb
def A1.stkFree (I:?C):∀b∈frs X.stack,H b=none:=fun b hb=>by
 rcases au.mp (I.stkSub b hb)with e |hb
 ·rw[e];exact I.free
 ·obtain⟨_,o,ho,_⟩:=I.ok.funs.mem hb;exact I.base.free b o ho (I.ok.frf b hb) fun z=>I.ok.exfs b z hb
def A1.step {d':Drawn}  (I:?C)
  (kw:∀b∈ch,(b∈X.ex\/X.s₀.heap.objs.size<=b)/\b≠X.env.locals/\(∀x c,X.env.cells.lookup x=some c->c≠b)/\∀p∈X.pn++ah,p.1≠b)
  (keep:∀b o,b≠X.env.locals->b∉X.fs->b∉ch->s.heap.get? b=?R->H b=none->h'.get? b=?R)
  (slot:∀b o,b≠X.env.locals->b∈X.fs->b∉ch->s.heap.get? b=?R->H b=none->∃sl,h'.get? b=some {o with slots:=sl}) (free:∀b o,b∉ch->s.heap.get? b=?R->H b=none->H' b=none)
  (there:∀b o,b∉ch->s.heap.get? b=?R->∃o',h'.get? b=some o')
  (tups:∀b xs,H b=some (.tup xs)->H' b=some (.tup xs)) (frzs:∀b o u,H b=some (.frz o u)->H' b=some (.frz o u)) (tbls:∀b ps,H b=some (.tbl ps)->∃more,H' b=some (.tbl (ps++more)))
  (ns:∀m,s.heap.Ns X.env.locals m->h'.Ns X.env.locals m) (hok:J8 X.prog X.w H' h') (hg:AllBare g'):
  A1 X ah σ H' {s with heap:=h',gens:=g',drawn:=d',toks:=t'}:=by
 have sY:∀b o,X.s₀.heap.get? b=?R->b≠X.env.locals:=fun b o e=>aC (aB (aA e) I.ok.above);have kn:∀b o,X.s₀.heap.get? b=?R->b∉X.ex->b∉ch:=fun b o e hx hb=>by
  rcases (kw b hb).1 with z |z
  ·exact hx z
  ·exact absurd (aB (aA e) z) (aU _)
 have lU:∀x c,X.env.cells.lookup x=some c->∀v,s.heap.IsCell c v->h'.IsCell c v:=fun x c e v ⟨o,ho,hd⟩=>by
  have nT:c∉ch:=fun z=>(kw c z).2.2.1 x c e rfl
  by_cases hc:c∈X.fs
  ·obtain⟨sl,q⟩:=slot c o (I.cne x c e) hc nT ho (I.freeC x c e);exact⟨_,q,hd⟩
  ·exact⟨o,keep c o (I.cne x c e) hc nT ho (I.freeC x c e),hd⟩
 refine⟨I.ok,I.os,hg,⟨fun b o e n hb hx=>?_,fun b o e n hb hx=>?_,fun b o e n hx=>?_,fun b o e hx=>?_,fun b xs e=>tups b xs (I.base.tups b xs e),fun b o xs e=>frzs b o xs (I.base.frzs b o xs e),fun b ps e=>?_⟩,?_,fun x c e=>?_,?_,fun x c e=>?_,fun p hp=>?_,hok,I.len⟩
 ·exact keep b o (sY b o e) hb (kn b o e hx) (I.base.keep b o e n hb hx) (I.base.free b o e n hx)
 ·obtain⟨sl,e1⟩:=I.base.slot b o e n hb hx;obtain⟨vf,e2⟩:=slot b _ (sY b o e) hb (kn b o e hx) e1 (I.base.free b o e n hx);exact⟨vf,e2⟩
 ·obtain⟨o',e1⟩:=I.base.there b o e hx;exact free b o' (kn b o e hx) e1 (I.base.free b o e n hx)
 ·obtain⟨o',e1⟩:=I.base.there b o e hx;exact there b o' (kn b o e hx) e1
 ·obtain⟨m1,e1⟩:=I.base.tbls b ps e;obtain⟨m2,e2⟩:=tbls b _ e1;exact⟨m1++m2,by rw[e2,Array.append_assoc]⟩
 ·obtain⟨m,hn,hl⟩:=I.loc;refine⟨m,ns m hn,fun i x v e1 e2 e3=>?_⟩;obtain⟨u,r,l⟩:=hl i x v e1 e2 e3;refine⟨u,r,?_⟩;rcases l with l |⟨k,c,e,z⟩
  ·exact .inl l
  ·exact .inr ⟨k,c,e,lU x c e _ z⟩
 ·obtain⟨v,z⟩:=I.cell x c e;exact⟨v,lU x c e v z⟩
 ·obtain⟨m,⟨o,_,_,ho,_⟩,_⟩:=I.loc;exact free _ o (fun z=>(kw _ z).2.1 rfl) ho I.free
 ·obtain⟨v,o,ho,hd⟩:=I.cell x c e;exact free c o (fun z=>(kw c z).2.2.1 x c e rfl) ho (I.freeC x c e)
 ·obtain⟨e,n,ne,nf,d⟩:=I.pin p hp;have nT:p.1∉ch:=fun z=>(kw p.1 z).2.2.2 p hp rfl;exact⟨keep p.1 p.2 ne nf nT e n,free p.1 p.2 nT e n,ne,nf,d⟩
def A1.un (I:?C)(u:Un X.fs [] H H' s.heap h')(hok:J8 X.prog X.w H' h'):A1 X ah σ H' {s with heap:=h',toks:=t'}:=by
 obtain⟨m,⟨o,es,ep,ho,r⟩,_⟩:=id I.loc;obtain⟨sl,hL⟩:=u.any ho I.free ?H;exact I.step (g':=s.gens) (d':=s.drawn) (ch:=[]) (fun _ z=>nomatch z) (fun b o _ hb _ e n=>u.keep b o e n hb ?H) (fun b o _ hb _ e n=>u.slot b o e n hb ?H) (fun b o _ e n=>u.free b o e n ?H) (fun b o _ e=>u.there b o e ?H) u.tups u.frzs u.tbls (fun m' hm=>by
  obtain⟨o',il,ss,mG,r'⟩:=hm;rw[ho]at mG;cases mG;exact⟨_,il,ss,hL,r'⟩) hok I.bare
def A1.call {d':Drawn}  (I:?C)(u:Un (frs X.stack) ch H H' s.heap h')(hok:J8 X.prog X.w H' h')(hg:AllBare g')
  (kw:∀b∈ch,(b∈X.ex\/X.s₀.heap.objs.size<=b)/\b≠X.env.locals/\(∀x c,X.env.cells.lookup x=some c->c≠b)/\∀p∈X.pn++ah,p.1≠b):
  A1 X ah σ H' {s with heap:=h',gens:=g',drawn:=d',toks:=t'}:=by
 obtain⟨m,⟨o,es,ep,ho,r⟩,_⟩:=id I.loc;obtain⟨sl,hL⟩:=u.any ho I.free fun z=>(kw _ z).2.1 rfl;exact I.step (ch:=ch) kw (fun b o hL hb hc e n=>u.keep b o e n (fun z=>(au.mp (I.stkSub b z)).elim hL hb) hc) (fun b o _ _ hc e n=>u.any e n hc) (fun b o hc e n=>u.free b o e n hc) (fun b o hc e=>u.there b o e hc) u.tups u.frzs u.tbls (fun m' hm=>by
  obtain⟨o',il,ss,mG,r'⟩:=hm;rw[ho]at mG;cases mG;exact⟨_,il,ss,hL,r'⟩) hok hg
def A1.turned (I:?C)(k:∀b o,b≠it->s.heap.get? b=?R->h'.get? b=?R)(hn:H it=none)(hL:it≠X.env.locals)
  (h1:it∈X.ex\/X.s₀.heap.objs.size<=it) (h2:∀x c,X.env.cells.lookup x=some c->c≠it) (h3:∀p∈X.pn++ah,p.1≠it):A1 X ah σ H {s with heap:=h',toks:=t'}:=by
 have lA:∀b u,H b=some u->b≠it:=fun b u e z=>by rw[z,hn]at e;cases e
 refine I.step (g':=s.gens) (d':=s.drawn) (ch:=[it]) (fun b hb=>?_) (fun b o _ _ hc e _=>k b o (fun z=>hc (by simp[z])) e) (fun b o _ _ hc e _=>⟨o.slots,k b o (fun z=>hc (by simp[z])) e⟩) (fun _ _ _ _ n=>n)
  (fun b o hc e=>⟨o,k b o (fun z=>hc (by simp[z])) e⟩) (fun _ _ e=>e) (fun _ _ _ e=>e) (fun b ps e=>⟨#[],by rw[e];simp⟩) (fun m hm=>?_) (fun b u e=>?_) I.bare
 ·have e:b=it:=by simpa using hb
  subst e;exact⟨h1,hL,h2,h3⟩
 ·obtain⟨o,es,ep,ho,r⟩:=hm;exact⟨o,es,ep,k _ o (bY hL) ho,r⟩
 ·refine(I.hok b u e).stay (fun c v hc q=>k c v ?_ q) (fun _ _ _ q=>q) fun _ _ q=>q;rcases hc with z |z
  ·rw[z];exact lA b u e
  ·exact lA c _ z
def A1.tok (I:?C)(t:Nat):A1 X ah σ H {s with toks:=t}:=I.un (h':=s.heap) (t':=t) Un.refl I.hok
def A1.kept (I:?C)(k:∀b u,s.heap.get? b=some u->h'.get? b=some u):A1 X ah σ H {s with heap:=h',toks:=t'}:=I.un (Un.kept k) (I.hok.kept k)
def A1.laid {o:HO}  (I:?C)(k:∀b u,s.heap.get? b=some u->h'.get? b=some u)(hp:s.heap.objs.size<=a)(new:N1 X.prog X.w (B0 H a o) h' a o):
  A1 X ah σ (B0 H a o) {s with heap:=h',toks:=t'}:=I.un (Un.laid k hp (I.hok.fresh hp)) (I.hok.laid k hp new)
def A1.write {x e:Af}{o:HO}  (I:?C)(mu:Mut (H x))(he:e=x\/H e=some (.own x))(k:∀b u,b≠e->s.heap.get? b=some u->h'.get? b=some u)(np:∃u,h'.get? e=some u)
  (new:N1 X.prog X.w (B0 H x o) h' x o):A1 X ah σ (B0 H x o) {s with heap:=h',toks:=t'}:=I.un (Un.write mu he k np) (I.hok.write mu he k np new)
def A1.pins_of (I:?C)(h:∀p∈lw,s.heap.get? p.1=some p.2/\H p.1=none/\p.1≠X.env.locals/\p.1∉X.fs/\∀v,p.2.data≠.cell v):A1 X lw σ H s:=
 ⟨I.ok,I.os,I.bare,I.base,I.loc,I.cell,I.free,I.freeC,fun p hp=>(aO.mp hp).elim (fun z=>I.pin p (bp _ z)) (h p),I.hok,I.len⟩
theorem Y6r (hN:N.Nodup){i j:Nat}  (a:N[i]?=some x)(b:N[j]?=some x):i=j:=by grind [yT]
def Z2q {i:Nat}  {v:V}  {Q:Unit->Ae->Prop}(I:?C)(hN:X.N.Nodup)(hi:X.N[i]?=some x)(hx:Loc X.env.scope x)(r:C9 v u)
  (h:∀s',A1 X ah (σ.set i (some v)) H s'->(∃a,Heap.SameBut a s.heap s'.heap/\(a=X.env.locals\/X.env.cells.lookup x=some a))->Q () s') (hf:?K:=by sleep 1):wpAny Aa A (storeName X.env x u) Q E s:=by
 obtain⟨m,hn,hl⟩:=id I.loc;have rV:(X.env.scope.kind==.class||(X.env.scope.kind==.module&&X.env.locals != X.env.globals))=false:=by rw[I.ok.kind];rfl
 have hiσ:i<σ.length:=by rw[I.len];exact(aM.mp hi).1
 have cne:=I.cne;have tracked:∀{a:Af}{h':Heap},(∃o,s.heap.get? a=?R/\H a=none)->Heap.SameBut a s.heap h'->J8 X.prog X.w H h':=fun {a h'} ha hs b ob e=>by
  obtain⟨_,_,lM⟩:=ha;refine(I.hok b ob e).stay (fun c w' hc q=>(hs.2 c ?_).trans q) (fun _ _ _ q=>q) fun _ _ q=>q;rintro rfl;rcases hc with rfl |hc
  ·rw[lM]at e;cases e
  ·rw[lM]at hc;cases hc
 rcases hx with hk |hk
 ·refine wpAny_storeName_local hk hn (fun h' wp hs=>?_) rV;obtain⟨oL,_,_,wm,_⟩:=id hn;refine h _ ⟨I.ok,I.os,I.bare,⟨fun b o e n hb hx=>?_,fun b o e n hb hx=>?_,I.base.free,fun b o e hx=>?_,I.base.tups,I.base.frzs,I.base.tbls⟩,⟨_,wp,fun j y v' e1 e2 e3=>?_⟩,fun y c e=>?_,I.free,I.freeC,fun p hp=>?_,tracked ⟨oL,wm,I.free⟩ hs,by simpa using I.len⟩ ⟨_,hs,.inl rfl⟩
  ·exact(hs.2 b (aC (aB (aA e) I.ok.above))).trans (I.base.keep b o e n hb hx)
  ·obtain⟨sl,e1⟩:=I.base.slot b o e n hb hx;exact⟨sl,(hs.2 b (aC (aB (aA e) I.ok.above))).trans e1⟩
  ·obtain⟨o',e1⟩:=I.base.there b o e hx;exact⟨o',(hs.2 b (aC (aB (aA e) I.ok.above))).trans e1⟩
  ·by_cases hj:j=i
   ·subst hj;rw[hi]at e1;cases e1;rw[bi hiσ]at e2;cases e2;exact⟨u,r,.inl ⟨hk,by simp⟩⟩
   ·rw[aN (bY hj)]at e2;obtain⟨u',r',q⟩:=hl j y v' e1 e2 e3;refine⟨u',r',?_⟩;rcases q with⟨k,e⟩ |⟨k,c,e,z⟩
    ·refine .inl ⟨k,?_⟩;have:y≠x:=fun e=>hj (Y6r hN e1 (e▸hi));simp[this,e]
    ·exact .inr ⟨k,c,e,z.sameBut hs (cne y c e)⟩
  ·obtain⟨w',z⟩:=I.cell y c e;exact⟨w',z.sameBut hs (cne y c e)⟩
  ·obtain⟨e,n,ne,nf,d⟩:=I.pin p hp;exact⟨(hs.2 p.1 ne).trans e,n,ne,nf,d⟩
 ·have lN:X.fn x=true:=by
   rcases hf with z |z
   ·exact z
   ·rw[z]at hk;cases hk
  obtain⟨c,hc⟩:=I.ok.has x (.inl hk);obtain⟨w',z⟩:=I.cell x c hc;refine wpAny_storeName_cell I.ok.kind hk hc z (fun h' eV hs=>?_);obtain⟨oc,fQ,rn⟩:=id z;refine h {s with heap:=h'} ⟨I.ok,I.os,I.bare,⟨fun b o e n hb hx=>?_,fun b o e n hb hx=>?_,I.base.free,fun b o e hx=>?_,I.base.tups,I.base.frzs,I.base.tbls⟩,⟨m,hn.sameBut hs (bY (cne x c hc)),fun j y v' e1 e2 e3=>?_⟩,fun y c' e=>?_,I.free,I.freeC,fun p hp=>?_,tracked ⟨oc,fQ,I.freeC x c hc⟩ hs,by simpa using I.len⟩ ⟨c,hs,.inr hc⟩
  ·exact(hs.2 b (aC (aB (aA e) (I.ok.cab x c lN hc)))).trans (I.base.keep b o e n hb hx)
  ·obtain⟨sl,e1⟩:=I.base.slot b o e n hb hx;exact⟨sl,(hs.2 b (aC (aB (aA e) (I.ok.cab x c lN hc)))).trans e1⟩
  ·obtain⟨o',e1⟩:=I.base.there b o e hx;exact⟨o',(hs.2 b (aC (aB (aA e) (I.ok.cab x c lN hc)))).trans e1⟩
  ·by_cases hj:j=i
   ·subst hj;rw[hi]at e1;cases e1;rw[bi hiσ]at e2;cases e2;exact⟨u,r,.inr ⟨.inl hk,c,hc,eV⟩⟩
   ·rw[aN (bY hj)]at e2;obtain⟨u',r',q⟩:=hl j y v' e1 e2 e3;refine⟨u',r',?_⟩;rcases q with q |⟨k,c',e,z'⟩
    ·exact .inl q
    ·refine .inr ⟨k,c',e,z'.sameBut hs ?_⟩;rintro rfl;exact hj (Y6r hN e1 (I.ok.inj _ _ _ e hc▸hi))
  ·by_cases gr:c'=c
   ·subst gr;exact⟨_,eV⟩
   ·obtain⟨w2,z2⟩:=I.cell y c' e;exact⟨w2,z2.sameBut hs gr⟩
  ·obtain⟨e,n,ne,nf,d⟩:=I.pin p hp;refine⟨(hs.2 p.1 ?_).trans e,n,ne,nf,d⟩;intro q;rw[q,fQ]at e;have q':oc=p.2:=az e;exact d w' (by rw[<-q'];exact rn)
def Z8s {i:Nat}  {v:V}  {Q:Unit->Ae->Prop}(I:?C)(hN:X.N.Nodup)(hi:X.N[i]?=some x)(hx:Loc X.env.scope x)(r:C9 v u)
  (h:∀s',A1 X ah (σ.set i (some v)) H s'->Q () s') (hf:?K:=by sleep 1):wpAny Aa A (storeName X.env x u) Q E s:=
 Z2q I hN hi hx r (fun s' I' _=>h s' I') hf
def A1.call' (I:?C)(ho:s'.os=s.os)(u:Un (frs X.stack) ch H H' s.heap s'.heap)(hok:J8 X.prog X.w H' s'.heap)(hg:AllBare s'.gens)
  (kw:∀b∈ch,(b∈X.ex\/X.s₀.heap.objs.size<=b)/\b≠X.env.locals/\(∀x c,X.env.cells.lookup x=some c->c≠b)/\∀p∈X.pn++ah,p.1≠b):A1 X ah σ H' s':=by
 obtain⟨h',g',d',t',o'⟩:=s';have e:o'=s.os:=ho;subst e;exact I.call (g':=g') (t':=t') (d':=d') u hok hg kw
end
abbrev XK:=Ad->Ac Af->Hp->Prop
abbrev St:=M (Ac V)
abbrev VK:=V->Hp->Prop
variable {kF:V->V->Hp->VK->Prop}{r r':V->Ac Int->Ac Int->Hp->VK->Prop}
abbrev TE:=St->Hp->VK->Prop
variable {ta te td ty:TE}{ln:M (TE×TE)}
abbrev TT:=St->Hp->(Bool->Hp->Prop)->Prop
abbrev TA:=St->Hp->(M V->Hp->Prop)->Prop
structure Q5a where
 nx:St->Hp->Prop
 rt:VK
 bk:St->Hp->Prop:=fun _ _=>False
 ct:St->Hp->Prop:=fun _ _=>False
abbrev TS:=Q5a->St->Hp->Prop
def EP (X:Cx)(ah:Pn9)(σ:St)(Q:VK)(u:Ad)(s':Ae):Prop:=∃v H',A1 X ah σ H' s'/\C9 v u/\Q v H'
def TP (X:Cx)(ah:Pn9)(σ:St)(Q:Bool->Hp->Prop)(b:Bool)(s':Ae):Prop:=∃H',A1 X ah σ H' s'/\Q b H'
def AP (X:Cx)(ah:Pn9)(σ:St)(Q:M V->Hp->Prop)(us:M Ad)(s':Ae):Prop:=∃vs H',A1 X ah σ H' s'/\C3 vs us/\Q vs H'
def SP (X:Cx)(ah:Pn9)(D:Q5a)(f:Flow)(s':Ae):Prop:=
 match f with
 |.next=>∃ σ' H',A1 X ah σ' H' s'/\D.nx σ' H'
 |.brk=>∃ σ' H',A1 X ah σ' H' s'/\D.bk σ' H'
 |.cont=>∃ σ' H',A1 X ah σ' H' s'/\D.ct σ' H'
 |.ret u=>∃v σ' H',A1 X ah σ' H' s'/\C9 v u/\D.rt v H'
def PE (X:Cx)(e:Ag)(t:TE):Prop:=
 ∀(ah:Pn9) (s:Ae) (σ:St) (H:Hp) (Q:VK),?C->t σ H Q->wpAny ?D X.A (eval e X.env) (EP X ah σ Q) X.xe s
def PT (X:Cx)(e:Ag)(t:TT):Prop:=
 ∀(ah:Pn9) (s:Ae) (σ:St) (H:Hp) (Q:Bool->Hp->Prop),?C->t σ H Q->wpAny ?D X.A (isTrue e X.env (eval e X.env)) (TP X ah σ Q) X.xe s
def PW (X:Cx)(e:Ag)(t:TT):Prop:=
 ∀(whole:Sem Ad) (ah:Pn9) (s:Ae) (σ:St) (H:Hp) (Q:Bool->Hp->Prop),?C->t σ H Q->wpAny ?D X.A (isTrue e X.env whole) (TP X ah σ Q) X.xe s
def PW.pt {t:TT}(h:PW X e t):PT X e t:=h _
def PA (X:Cx)(es:M Ag)(t:TA):Prop:=
 ∀(pos:Pos) (ah:Pn9) (s:Ae) (σ:St) (H:Hp) (Q:M V->Hp->Prop),?C->t σ H Q->wpAny ?D X.A (spliced (backTo pos (starEach es X.env))) (AP X ah σ Q) X.xe s
def PS (X:Cx)(st:Al)(t:TS):Prop:=
 ∀(ah:Pn9) (s:Ae) (σ:St) (H:Hp) (D:Q5a),?C->t D σ H->wpAny ?D X.A (exec st X.env) (SP X ah D) X.xe s
def PSs (X:Cx)(st:M Al)(t:TS):Prop:=
 ∀(ah:Pn9) (s:Ae) (σ:St) (H:Hp) (D:Q5a),?C->t D σ H->wpAny ?D X.A (execs st X.env) (SP X ah D) X.xe s
def B3 {t:Sem α}{Q Q':α->Ae->Prop}     (h:wpAny Aa A t Q E s)(hQ:∀a s,Q a s->Q' a s):wpAny Aa A t Q' E s:=aS h hQ fun _ _ x=>x
section
def Q5 (i:Nat):TE:=fun σ H Q=>∃v,σ[i]?=some (some v)/\Q v H
def tC (v:V):TE:=fun _ H Q=>Q v H
def V3w {i:Nat}   (hN:X.N[i]?=some x)(hv:Vis X.env.scope x)(hd:(x==("__debug__":Str))=false:=by decide)(gb:(x==("__classdict__":Str))=false:=by decide):PE X (.Name x pos) (Q5 i):=by
 intro ah s σ H Q I h;obtain⟨v,e,h⟩:=h;obtain⟨m,hn,hl⟩:=I.loc;obtain⟨u,r,l⟩:=hl i x v hN e hv;have fin:EP X ah σ Q u s:=⟨v,H,I,r,h⟩
 rcases l with⟨hk,hm⟩ |⟨hk,c,hc,eU⟩
 ·exact wpAny_Name (wpAny_loadName_local I.ok.kind hk hn hm fin) hd
 ·rcases hk with hk |hk
  ·exact wpAny_Name (wpAny_loadName_cell I.ok.kind hk hc eU fin) hd
  ·exact wpAny_Name (wpAny_loadName_free I.ok.kind hk hc eU fin gb) hd
def V3i {i j pos}:PE X (.Constant (.int i) j pos) (tC (.int i)):=fun _ _ _ H _ I h=>wpAny_Constant_int ⟨.int i,H,I.tok _,⟨_,rfl⟩,h⟩
def V2w {b j pos}:PE X (.Constant (.bool b) j pos) (tC (.bl b)):=fun _ _ _ H _ I h=>Constant_bool ⟨.bl b,H,I,rfl,h⟩
def V3m {j pos}:PE X (.Constant .none j pos) (tC .non):=fun _ _ _ H _ I h=>Constant_none ⟨.non,H,I,rfl,h⟩
def V3t {x j pos}:PE X (.Constant (.str x) j pos) (tC (.str x)):=fun _ _ _ H _ I h=>Calls.Constant_str ⟨.str x,H,I.tok _,⟨_,rfl⟩,h⟩
def Gl (X:Cx)(x:Str):Prop:=X.env.kindOf x=some .globalImplicit
def Z1c {σ:St}      (I:?C)(hg:Gl X x)(hm:X.mg x=some u)(h:Q u s)
  (hd:(x==("__debug__":Str))=false:=by decide):wpAny ?D X.A (eval (.Name x pos) X.env) Q E s:=
 qo I.ok.kind hg (Calls.loadGlobal_global (by rw[I.ok.glob];exact I.mod.glob.keeps I.bk) hm h) hd
def Q1h {σ:St}      (I:?C)(hg:Gl X x)(hm:X.mg x=none)(hv:bootBuiltins x=some u)(h:Q u s)
  (hn:x≠"__name__":=by decide) (hd:(x==("__debug__":Str))=false:=by decide):wpAny ?D X.A (eval (.Name x pos) X.env) Q E s:=by
 obtain⟨mb,h1,h2⟩:=I.mod.blt;exact qo I.ok.kind hg (Calls.loadGlobal_builtin (by rw[I.ok.glob];exact I.mod.glob.keeps I.bk) hm (by rw[I.ok.blt];exact h1.keeps I.bk) ((h2 x hn).trans hv) h) hd
def V3g {v:V}   (hg:Gl X x)(hm:X.mg x=some u)(r:C9 v u)(hd:(x==("__debug__":Str))=false:=by decide):PE X (.Name x pos) (tC v):=
 fun _ _ _ H _ I h=>Z1c I hg hm ⟨v,H,I,r,h⟩ hd
variable {a b:Ag}{tb:TE}
def PC (X:Cx)(op:CmpOp)(a b:Ag)(t:TE):Prop:=
 ∀(ah:Pn9) (s:Ae) (σ:St) (H:Hp) (Q:VK),?C->t σ H Q ->
  wpAny ?D X.A (eval a X.env) (fun v s₁=>wpAny ?D X.A (eval b X.env) (fun u s₂=>wpAny ?D X.A (compareOp op v u) (EP X ah σ Q) X.xe s₂) X.xe s₁) X.xe s
def tB (t:TE):TT:=fun σ H Q=>t σ H fun x H1=>∃c,x=.bl c/\Q c H1
def Y7t {op:CmpOp}{t:TE}(h:PC X op a b t)(h1:behindInMarks op b=false:=by first |exact nobehind _ (?G) (?G) |rfl):PT X (.Compare a [op] [b] pos) (tB t):=by
 intro ah s σ H Q I hw;refine wpAny_isTrue_Compare1 (B3 (h ah s σ H _ I hw) fun v s1 h1=>B3 h1 fun u s2 h2=>B3 h2 fun c s3 bF=>?_) h1;obtain⟨x,H1,I1,r1,q1⟩:=bF;obtain⟨d,rfl,q⟩:=q1;cases r1;exact cK ⟨H1,I1,q⟩
variable {tA pA:TT}{rest:M Ag}
def tAnd (t u:TT):TT:=fun σ H Q=>t σ H fun c H1=>if c=true then u σ H1 Q else Q false H1
def tOr (t u:TT):TT:=fun σ H Q=>t σ H fun c H1=>if c=true then Q true H1 else u σ H1 Q
theorem V4s (ha:PT X a tA):PW X (.BoolOp .And [a] pos) tA:=by
 intro wh ah s σ H Q I h;refine isTrue_and (B3 (ha ah s σ H Q I h) fun c s1 e=>?_);cases c with
 |true=>exact isTrue_and_nil e
 |false=>exact e
theorem V4u (ha:PT X a tA):PW X (.BoolOp .Or [a] pos) tA:=by
 intro wh ah s σ H Q I h;refine isTrue_or (B3 (ha ah s σ H Q I h) fun c s1 e=>?_);cases c with
 |false=>exact isTrue_or_nil e
 |true=>exact e
theorem V4r (ha:PT X a tA)(hb:PW X (.BoolOp .And (b::rest) pos) pA):PW X (.BoolOp .And (a::b::rest) pos) (tAnd tA pA):=by
 intro wh ah s σ H Q I h;refine isTrue_and (B3 (ha ah s σ H _ I h) fun c s1 bF=>?_);obtain⟨H1,I1,q1⟩:=bF;cases c with
 |true=>exact hb wh ah s1 σ H1 Q I1 q1
 |false=>exact⟨H1,I1,q1⟩
theorem V4t (ha:PT X a tA)(hb:PW X (.BoolOp .Or (b::rest) pos) pA):PW X (.BoolOp .Or (a::b::rest) pos) (tOr tA pA):=by
 intro wh ah s σ H Q I h;refine isTrue_or (B3 (ha ah s σ H _ I h) fun c s1 bF=>?_);obtain⟨H1,I1,q1⟩:=bF;cases c with
 |true=>exact⟨H1,I1,q1⟩
 |false=>exact hb wh ah s1 σ H1 Q I1 q1
def V8z (ta tb:TE):TE:=fun σ H Q=>ta σ H fun x H1=>∃c,x=.bl c/\if c=true then tb σ H1 Q else Q (.bl false) H1
def tOrV (ta tb:TE):TE:=fun σ H Q=>ta σ H fun x H1=>∃c,x=.bl c/\if c=true then Q (.bl true) H1 else tb σ H1 Q
def V9l (ta:TE):TE:=fun σ H Q=>ta σ H fun x H1=>∃c,x=.bl c/\Q (.bl (!c)) H1
def Y7m {op}{t:TE}(h:PE X a t):PE X (.BoolOp op [a] pos) t:=fun ah s σ H Q I hw=>BoolOp_one (h ah s σ H Q I hw)
theorem V2v (ha:PE X a ta)(hb:PE X (.BoolOp .And (b::rest) pos) tb):PE X (.BoolOp .And (a::b::rest) pos) (V8z ta tb):=by
 intro ah s σ H Q I h;refine BoolOp_and (B3 (ha ah s σ H _ I h) fun v s1 bF=>?_);obtain⟨x,H1,I1,r1,q1⟩:=bF;obtain⟨c,rfl,q1⟩:=q1;cases r1;refine cK ?_;cases c with
 |true=>exact hb ah s1 σ H1 Q I1 q1
 |false=>exact⟨.bl false,H1,I1,rfl,q1⟩
theorem V3q (ha:PE X a ta)(hb:PE X (.BoolOp .Or (b::rest) pos) tb):PE X (.BoolOp .Or (a::b::rest) pos) (tOrV ta tb):=by
 intro ah s σ H Q I h;refine BoolOp_or (B3 (ha ah s σ H _ I h) fun v s1 bF=>?_);obtain⟨x,H1,I1,r1,q1⟩:=bF;obtain⟨c,rfl,q1⟩:=q1;cases r1;refine cK ?_;cases c with
 |false=>exact hb ah s1 σ H1 Q I1 q1
 |true=>exact⟨.bl true,H1,I1,rfl,q1⟩
def V3n (ha:PE X a ta):PE X (.UnaryOp .Not a pos) (V9l ta):=by
 intro ah s σ H Q I h;refine UnaryOp_ (B3 (ha ah s σ H _ I h) fun v s1 bF=>?_);obtain⟨x,H1,I1,r1,q1⟩:=bF;obtain⟨c,rfl,q1⟩:=q1;cases r1;exact not_of (cK ⟨.bl (!c),H1,I1,rfl,q1⟩)
def tIf (t:TT)(ta tb:TE):TE:=fun σ H Q=>t σ H fun c H1=>if c=true then ta σ H1 Q else tb σ H1 Q
theorem V3h {c:Ag}(hc:PT X c tA)(ha:PE X a ta)(hb:PE X b tb):PE X (.IfExp c a b pos) (tIf tA ta tb):=by
 intro ah s σ H Q I h;refine wpAny_IfExp (B3 (hc ah s σ H _ I h) fun d s1 bF=>?_);obtain⟨H1,I1,q1⟩:=bF;cases d with
 |true=>exact ha ah s1 σ H1 Q I1 q1
 |false=>exact hb ah s1 σ H1 Q I1 q1
end
def F2 (K:Fg9)(H:Hp)(a:Af)(xs:M V):Prop:=
 Rd H a (.lst xs) \/
  ∃(o:Obj) (b7:Array Ad) (n:Nat),K.lookup a=?R/\o.cls=.type "list"/\o.dict=none/\o.data=.seq b7 n/\b7.size<=sizeLine/\C3 xs b7.toList
def E2 (K:Fg9)(H:Hp)(a:Af)(xs:M V):Prop:=
 Rd H a (.tup xs) \/
  ∃(o:Obj) (b7:Array Ad) (n:Nat),K.lookup a=?R/\o.cls=.type "tuple"/\o.data=.seq b7 n/\b7.size<=sizeLine/\C3 xs b7.toList
def absV:Ad->Ac V
 |.none=>some .non
 |.bool b=>some (.bl b)
 |.int i _=>some (.int i)
 |.str x _=>some (.str x)
 |.bytes b _=>some (.byt b)
 |.float b _=>some (.flt b)
 |.ref a=>some (.ref a)
 |.type n=>some (.ty n)
 |_=>none
theorem C9.abs {x:V}  (r:C9 x u):absV u=some x:=by
 cases x with
 |non=>cases r;rfl
 |bl _=>cases r;rfl
 |int _=>obtain⟨t,rfl⟩:=r;rfl
 |str _=>obtain⟨t,rfl⟩:=r;rfl
 |byt _=>obtain⟨t,rfl⟩:=r;rfl
 |flt _=>obtain⟨t,rfl⟩:=r;rfl
 |ref _=>cases r;rfl
 |ty _=>cases r;rfl
def C9.inj {x:V}  (r:C9 x u)(q:C9 y u):x=y:=az (r.abs.symm.trans q.abs)
theorem C3.inj:∀{xs ys:M V}{us:M Ad},C3 xs us->C3 ys us->xs=ys:=by
 intro xs
 induction xs with
 |nil=>intro ys us a b;cases a;cases b;rfl
 |cons x xs ih=>
  intro ys us a b;cases a with
  |cons r t=>
   cases b with
   |cons r' t'=>rw[r.inj r',ih t t']
section
variable {σ:St}
def F2.of {K:Fg9}(h:H a=some (.lst xs)):F2 K H a xs:=.inl (.inl h)
def E2.of {K:Fg9}(h:H a=some (.tup xs)):E2 K H a xs:=.inl (.inl h)
def A1.list (I:?C)(h:F2 X.K H a xs):∃b7:M Ad,C3 xs b7/\PlainL s.heap a b7.toArray/\xs.length<=sizeLine:=by
 rcases h with h |⟨o,b7,n,hk,hc,hd,hs,hz,r⟩
 ·obtain⟨z,b7,n,r,e⟩:=h.ok I.hok;exact⟨b7,r,⟨_,n,e,rfl,rfl,rfl⟩,z⟩
 ·refine⟨b7.toList,r,⟨o,n,I.kIn a o hk,hc,hd,by simpa using hs⟩,?_⟩;have e:=r.length;simp only[dh]at e;omega
def A1.tuple (I:?C)(h:E2 X.K H a xs):∃b7:M Ad,C3 xs b7/\IsTup s.heap a b7.toArray/\xs.length<=sizeLine:=by
 rcases h with h |⟨o,b7,n,hk,hc,hs,hz,r⟩
 ·obtain⟨z,b7,r,p⟩:=h.ok I.hok;exact⟨b7,r,p,z⟩
 ·refine⟨b7.toList,r,⟨o,I.kIn a o hk,hc,n,by simpa using hs⟩,?_⟩;have e:=r.length;simp only[dh]at e;omega
def A1.list_inj (I:?C)(h:F2 X.K H a xs)(h':F2 X.K H a ys):xs=ys:=by
 obtain⟨b7,r,⟨o,n,e,_,_,d⟩,_⟩:=I.list h;obtain⟨its',r',⟨o',n',e',_,_,d'⟩,_⟩:=I.list h';rw[e]at e';cases e';rw[d]at d';injection d' with d1 _
 have:b7=its':=by simpa using congrArg Array.toList d1
 subst this;exact r.inj r'
def A1.tuple_inj (I:?C)(h:E2 X.K H a xs)(h':E2 X.K H a ys):xs=ys:=by
 obtain⟨b7,r,⟨o,e,_,n,d⟩,_⟩:=I.tuple h;obtain⟨its',r',⟨o',e',_,n',d'⟩,_⟩:=I.tuple h';rw[e]at e';cases e';rw[d]at d';injection d' with d1 _
 have:b7=its':=by simpa using congrArg Array.toList d1
 subst this;exact r.inj r'
end
abbrev Cx.wish (X:Cx)(E:VS9):Cx:={X with xe:=E}
abbrev Cx.nox (X:Cx):Cx:=X.wish fun _ _=>False
def Cx.Ok.wish (ok:X.Ok)(E:VS9):(X.wish E).Ok:=
 ⟨ok.mod,ok.kind,ok.glob,ok.blt,ok.above,ok.inj,ok.has,ok.cab,ok.hd,ok.frames,ok.stk,ok.exf,ok.bs,ok.bsz,ok.noex,ok.exfs,ok.funs,ok.frf⟩
def Cx.Ok.unwish (ok:(X.wish E).Ok):X.Ok:=
 ⟨ok.mod,ok.kind,ok.glob,ok.blt,ok.above,ok.inj,ok.has,ok.cab,ok.hd,ok.frames,ok.stk,ok.exf,ok.bs,ok.bsz,ok.noex,ok.exfs,ok.funs,ok.frf⟩
section
variable {σ:St}
def A1.wish (I:?C)(E:VS9):A1 (X.wish E) ah σ H s:=⟨I.ok.wish E,I.os,I.bare,I.base,I.loc,I.cell,I.free,I.freeC,I.pin,I.hok,I.len⟩
def A1.unwish (I:A1 (X.wish E) ah σ H s):?C:=⟨I.ok.unwish,I.os,I.bare,I.base,I.loc,I.cell,I.free,I.freeC,I.pin,I.hok,I.len⟩
theorem SP.unwish {D:Q5a}{f:Flow}  (h:SP (X.wish E) ah D f s'):SP X ah D f s':=by
 cases f with
 |next=>obtain⟨σ',H',I,q⟩:=h;exact⟨σ',H',I.unwish,q⟩
 |brk=>obtain⟨σ',H',I,q⟩:=h;exact⟨σ',H',I.unwish,q⟩
 |cont=>obtain⟨σ',H',I,q⟩:=h;exact⟨σ',H',I.unwish,q⟩
 |ret u=>obtain⟨v,σ',H',I,r,q⟩:=h;exact⟨v,σ',H',I.unwish,r,q⟩
def PSs.nox {st:M Al}{t:TS}(h:PSs X.nox st t):PSs X st t:=fun ah s σ H D I hw=>
 aS (h ah s σ H D (I.wish _) hw) (fun _ _ q=>q.unwish) fun _ _ z=>False.elim z
end
section
variable {rest:M Al}{t u:TS}
def V9j:TS:=fun D σ H=>D.nx σ H
def tSeq (t u:TS):TS:=fun D σ H=>t {D with nx:=u D} σ H
def V4o:PSs X [] V9j:=fun _ _ σ H _ I h=>gV ⟨σ,H,I,h⟩
theorem Y7r (h1:PS X st t)(h2:PSs X rest u):PSs X (st::rest) (tSeq t u):=by
 intro ah s σ H D I h;refine eN (B3 (h1 ah s σ H {D with nx:=u D} I h) fun f s1 q=>?_);cases f with
 |next=>
  obtain⟨σ',H',I',q⟩:=q;exact h2 ah s1 σ' H' D I' q
 |ret v=>exact q
 |brk=>exact q
 |cont=>exact q
theorem Y7s (h1:PS X st t):PSs X [st] t:=by
 intro ah s σ H D I h;refine eN (B3 (h1 ah s σ H D I h) fun f s1 q=>?_);cases f with
 |next=>exact gV q
 |ret v=>exact q
 |brk=>exact q
 |cont=>exact q
def A1.quiet {σ:St}   (I:?C):interactive X.env=false:=by simp[interactive,I.ok.kind]
def V9h (te:TE):TS:=fun D σ H=>te σ H fun _ H1=>D.nx σ H1
def Z1v (he:PE X e te)(hs:swapsWith e none pos.line X.env=pure false:=by rfl):PS X (.Expr e pos) (V9h te):=by
 intro ah s σ H D I h;exact wpAny_Expr_any (B3 (he ah s σ H _ I h) fun v s1 ⟨x,H1,I1,r1,q1⟩=>⟨σ,H1,I1,q1⟩) I.quiet hs
def tRet (te:TE):TS:=fun D σ H=>te σ H D.rt
def Z7m (he:PE X e te):PS X (.Return (some e) pos) (tRet te):=by
 intro ah s σ H D I h;exact kB (B3 (he ah s σ H _ I h) fun v s1 ⟨x,H1,I1,r1,q1⟩=>⟨x,σ,H1,I1,r1,q1⟩)
def tIfS (c:TT)(t u:TS):TS:=fun D σ H=>c σ H fun b H1=>if b=true then t D σ H1 else u D σ H1
theorem V4m {c:Ag}{a b:M Al}{tc:TT}(hc:PT X c tc)(ha:PSs X a t)(hb:PSs X b u):PS X (.If c a b pos) (tIfS tc t u):=by
 intro ah s σ H D I h;refine wpAny_If (B3 (hc ah s σ H _ I h) fun d s1 bF=>?_);obtain⟨H1,I1,q1⟩:=bF;cases d with
 |true=>exact ha ah s1 σ H1 D I1 q1
 |false=>exact hb ah s1 σ H1 D I1 q1
def V9i:TS:=fun _ _ _=>False
def J1v {mW:M Al}:PSs X mW V9i:=fun _ _ _ _ _ _ h=>h.elim
end
abbrev TG:=V->St->Hp->(St->Hp->Prop)->Prop
abbrev TGs:=M V->St->Hp->(St->Hp->Prop)->Prop
def PG (X:Cx)(target:Ag)(t:TG):Prop:=
 ∀(ah:Pn9) (s:Ae) (σ:St) (H:Hp) (v:V) (u:Ad) (Q:St->Hp->Prop),?C->C9 v u->t v σ H Q ->
  wpAny ?D X.A (assign target X.env u) (fun _ s'=>∃ σ' H',A1 X ah σ' H' s'/\Q σ' H') X.xe s
def PGs (X:Cx)(ts:M Ag)(t:TGs):Prop:=
 ∀(ah:Pn9) (s:Ae) (σ:St) (H:Hp) (vs:M V) (us:M Ad) (Q:St->Hp->Prop),?C->C3 vs us->t vs σ H Q ->
  wpAny ?D X.A (assignInOrder ((assignEach ts X.env).map (·.2)) us) (fun _ s'=>∃ σ' H',A1 X ah σ' H' s'/\Q σ' H') X.xe s
abbrev Q7u:=V->V->V->Hp->(Hp->Prop)->Prop
def Z4c (X:Cx)(t:Q7u):Prop:=
 ∀(ah:Pn9) (s:Ae) (σ:St) (H:Hp) (o i v:V) (ov iv u:Ad) (Q:Hp->Prop),?C->C9 o ov->C9 i iv->C9 v u->t o i v H Q ->
  wpAny ?D X.A (setItem ov iv u) (fun _ s'=>∃H',A1 X ah σ H' s'/\Q H') X.xe s
abbrev TIp:=V->V->Hp->VK->Prop
def PIp (X:Cx)(op:Operator)(t:TIp):Prop:=
 ∀(ah:Pn9) (s:Ae) (σ:St) (H:Hp) (x y:V) (v u:Ad) (Q:VK),?C->C9 x v->C9 y u->t x y H Q ->
  wpAny ?D X.A (inplaceOp op v u) (EP X ah σ Q) X.xe s
def Z0s (i:Nat):TG:=fun v σ H Q=>Q (σ.set i (some v)) H
def Y7n {i:Nat}  (hN:X.N.Nodup)(hi:X.N[i]?=some x)(hx:Loc X.env.scope x)(hf:?K:=by sleep 1):PG X (.Name x pos) (Z0s i):=by
 intro ah s σ H v u Q I r h;exact fU (Z8s I hN hi hx r (fun s' I'=>⟨_,H,I',h⟩) hf)
def gNil:TGs:=fun vs σ H Q=>vs=[]/\Q σ H
def W7m (t:TG)(u:TGs):TGs:=fun vs σ H Q=>∃v r,vs=v::r/\t v σ H fun σ' H'=>u r σ' H' Q
def V4b:PGs X [] gNil:=by
 intro ah s σ H vs us Q I r h;obtain⟨e,h⟩:=h;subst e;cases r;exact assignInOrder_nil ⟨σ,H,I,h⟩
theorem V4a {es:M Ag}{t:TG}{u:TGs}(h1:PG X e t)(h2:PGs X es u)
  (hs:(assignEach (e::es) X.env).map (·.2)=assign e X.env::(assignEach es X.env).map (·.2):=by rfl):PGs X (e::es) (W7m t u):=by
 intro ah s σ H vs us Q I r h;obtain⟨v,vr,e1,h⟩:=h;subst e1;cases r with
 |cons r rr=>
  rw[hs];refine assignInOrder_cons (B3 (h1 ah s σ H _ _ _ I r h) fun _ s1 bF=>?_);obtain⟨σ1,H1,I1,q1⟩:=bF;exact h2 ah s1 σ1 H1 _ _ Q I1 rr q1
def gTup (K:Fg9)(n:Nat)(t:TGs):TG:=fun v σ H Q=>∃a xs,v=.ref a/\E2 K H a xs/\xs.length=n/\t xs σ H Q
def V3z {es:M Ag}{k:Nat}{t:TGs}  (hc:X.calm=true)(h:PGs X es t)
  (hn:(assignEach es X.env).length=n:=by rfl) (mv:(assignEach es X.env).findIdx? (·.1)=none:=by rfl):PG X (.Tuple es k pos) (gTup X.K n t):=by
 intro ah s σ H v u Q I r hw;obtain⟨a,xs,e1,hq,hl,hw⟩:=hw;subst e1;cases r;obtain⟨b7,rv,ht,hz⟩:=I.tuple hq;refine assign_Tuple_tuple (I.ok.hd hc) ht (by simp[hn,<-hl,rv.length]) mv fun h' hx=>?_;have I1:A1 X ah σ H {s with heap:=h'}:=I.kept (t':=s.toks) fun b o e=>hx b o (aC (aA e)) e;exact h ah _ σ H xs _ Q I1 (by simpa using rv) hw
def gSub (to ti:TE)(t:Q7u):TG:=fun v σ H Q=>to σ H fun o H1=>ti σ H1 fun i H2=>t o i v H2 fun H3=>Q σ H3
def V3y {i:Ag}{to ti:TE}{t:Q7u}(ho:PE X o to)(hi:PE X i ti)(hs:Z4c X t)
  (ha:∀v,assign (.Subscript o i pos) X.env v=(do
   let ov <- holding [v] (eval o X.env);let iv <- holding [v,ov] (eval i X.env)
   standAt pos
   holding [v,ov,iv] (setItem ov iv v)
   release [v,ov,iv] []):=by intro _;rfl):PG X (.Subscript o i pos) (gSub to ti t):=by
 intro ah s σ H v u Q I r h;rw[ha];refine af (bB (B3 (ho ah s σ H _ I h) fun ov s1 bF=>?_));obtain⟨x,H1,I1,r1,q1⟩:=bF;refine af (bB (B3 (hi ah s1 σ H1 _ I1 q1) fun iv s2 bF=>?_));obtain⟨y,H2,I2,r2,q2⟩:=bF;refine af (dM (af (bB (B3 (hs ah s2 σ H2 x y v ov iv u _ I2 r1 r2 r q2) fun _ s3 bF=>?_))));obtain⟨H3,I3,q3⟩:=bF;exact wpAny_release ⟨σ,H3,I3,q3⟩
def tAsg (te:TE)(g:TG):TS:=fun D σ H=>te σ H fun x H1=>g x σ H1 D.nx
def Z7k {g:TG}(he:PE X e te)(hg:PG X tg g)(hs:swapsWithSole [tg] e pos.line X.env=pure false:=by rfl)(hw:swappedStores [tg] e X.env=pure none:=by rfl)
  (h1:(assignEach [tg] X.env).map (·.2)=[assign tg X.env]:=by rfl):PS X (.Assign [tg] e pos) (tAsg te g):=by
 intro ah s σ H D I h;refine wpAny_Assign_stores (B3 (he ah s σ H _ I h) fun v s1 bF=>?_) hs hw;obtain⟨x,H1,I1,r1,q1⟩:=bF;rw[h1];exact B3 (hg ah s1 σ H1 x v _ I1 r1 q1) fun _ s2 q=>q
def Q6w {i:Nat}     (hN:X.N.Nodup)(hi:X.N[i]?=some x)(hx:Loc X.env.scope x)(he:PE X e te)(hs:swapsWith e (some (.Name x cg)) pos.line X.env=pure false:=by rfl)(hf:?K:=by sleep 1):
  PS X (.Assign [.Name x cg] e pos) (tAsg te (Z0s i)):=by
 intro ah s σ H D I h;refine wpAny_Assign_Name (B3 (he ah s σ H _ I h) fun v s1 bF=>?_) hs;obtain⟨y,H1,I1,r1,q1⟩:=bF;exact Z8s I1 hN hi hx r1 (fun s2 I2=>⟨_,H1,I2,q1⟩) hf
def tAug (i:Nat)(te:TE)(ti:TIp):TS:=fun D σ H=>∃x,σ[i]?=some (some x)/\te σ H fun y H1=>ti x y H1 fun z H2=>D.nx (σ.set i (some z)) H2
def V4j {i:Nat}    {op:Operator}{ti:TIp}  (hN:X.N.Nodup)(hi:X.N[i]?=some x)(hx:Loc X.env.scope x)(he:PE X e te)(ho:PIp X op ti)(hf:?K:=by sleep 1):
  PS X (.AugAssign (.Name x cg) op e pos) (tAug i te ti):=by
 intro ah s σ H D I h;obtain⟨v,e1,h⟩:=h;obtain⟨m,hn,hl⟩:=I.loc;have v6:Vis X.env.scope x:=by rcases hx with k |k;exact .inl k;exact .inr (.inl k)
 obtain⟨u,r,l⟩:=hl i x v hi e1 v6;refine wpAny_AugAssign_Name ?_;have go:wpAny ?D X.A (eval e X.env) (fun w s₂=>wpAny ?D X.A (inplaceOp op u w) (fun r s₃=>wpAny ?D X.A (storeName X.env x r) (fun _=>SP X ah D .next) X.xe s₃) X.xe s₂) X.xe s:=by
  refine B3 (he ah s σ H _ I h) fun w s1 bF=>?_;obtain⟨y,H1,I1,r1,q1⟩:=bF;refine B3 (ho ah s1 σ H1 v y u w _ I1 r r1 q1) fun z s2 bF=>?_;obtain⟨zv,H2,I2,r2,q2⟩:=bF;exact Z8s I2 hN hi hx r2 (fun s3 I3=>⟨_,H2,I3,q2⟩) hf
 rcases l with⟨hk,hm⟩ |⟨hk,c,hc,eU⟩
 ·exact wpAny_loadName_local I.ok.kind hk hn hm go
 ·rcases hk with hk |hk
  ·exact wpAny_loadName_cell I.ok.kind hk hc eU go
  ·rcases hx with k |k
   ·have:X.env.scope.names.lookup x=some .free:=hk;rw[k]at this;cases this
   ·have:X.env.scope.names.lookup x=some .free:=hk;rw[k]at this;cases this
def V9a (to ti te:TE)(kF:V->V->Hp->VK->Prop)(pz:TIp)(kE:Q7u):TS:=fun D σ H=>to σ H fun o H1=>ti σ H1 fun i H2=>kF o i H2 fun x H3=>te σ H3 fun y H4=>pz x y H4 fun z H5=>kE o i z H5 fun H6=>D.nx σ H6
def PGet (X:Cx)(t:V->V->Hp->VK->Prop):Prop:=
 ∀(ah:Pn9) (s:Ae) (σ:St) (H:Hp) (o i:V) (ov iv:Ad) (Q:VK),?C->C9 o ov->C9 i iv->t o i H Q ->
  wpAny ?D X.A (getItem ov iv) (EP X ah σ Q) X.xe s
def V4k {i:Ag}{to ti:TE}  {pz:TIp}{kE:Q7u}{op:Operator}{qu:Pos}(ho:PE X o to)(hi:PE X i ti)(hg:PGet X kF)(he:PE X e te)(hp:PIp X op pz)(hs:Z4c X kE)
  (ha:∀ov iv new,augStore i ov iv new=(do holding [new,ov,iv] (setItem ov iv new);release [new,ov,iv] [];pure .next):=by intros;rfl):PS X (.AugAssign (.Subscript o i qu) op e pos) (V9a to ti te kF pz kE):=by
 intro ah s σ H D I h;refine wpAny_AugAssign_SubscriptAny (B3 (ho ah s σ H _ I h) fun ov s1 bF=>?_) ha;obtain⟨x1,H1,I1,r1,q1⟩:=bF;refine B3 (hi ah s1 σ H1 _ I1 q1) fun iv s2 bF=>?_;obtain⟨x2,H2,I2,r2,q2⟩:=bF;refine B3 (hg ah s2 σ H2 x1 x2 ov iv _ I2 r1 r2 q2) fun old s3 bF=>?_;obtain⟨x3,H3,I3,r3,q3⟩:=bF;refine B3 (he ah s3 σ H3 _ I3 q3) fun v s4 bF=>?_;obtain⟨x4,H4,I4,r4,q4⟩:=bF;refine B3 (hp ah s4 σ H4 x3 x4 old v _ I4 r3 r4 q4) fun new s5 bF=>?_;obtain⟨x5,H5,I5,r5,q5⟩:=bF;exact B3 (hs ah s5 σ H5 x1 x2 x5 ov iv new _ I5 r1 r2 r5 q5) fun _ s6 ⟨H6,I6,q6⟩=>⟨σ,H6,I6,q6⟩
def ipI (f:Int->Int->Int):TIp:=fun x y H Q=>∃i j,x=.int i/\y=.int j/\Q (.int (f i j)) H
def W8m:PIp X .Add (ipI fun i j=>i+j):=by
 intro ah s σ H x y v u Q I r1 r2 h;obtain⟨i,j,e1,e2,q⟩:=h;subst e1;subst e2;obtain⟨t,rfl⟩:=r1;obtain⟨t',rfl⟩:=r2;exact iadd_int ⟨.int _,H,I.tok _,⟨_,rfl⟩,q⟩
def W8n:PIp X .Sub (ipI fun i j=>i-j):=by
 intro ah s σ H x y v u Q I r1 r2 h;obtain⟨i,j,e1,e2,q⟩:=h;subst e1;subst e2;obtain⟨t,rfl⟩:=r1;obtain⟨t',rfl⟩:=r2;exact isub_int ⟨.int _,H,I.tok _,⟨_,rfl⟩,q⟩
def V9p (c:TT)(tb:TS):TS:=fun D σ H=>∃W:Nat->St->Hp->Prop,(∃m,W m σ H)/\∀m σ H,W m σ H ->
 c σ H fun b H1=>if b=true then ∃N:St->Hp->Prop,(∀ σ' H',N σ' H'->∃m',m'<m/\W m' σ' H')/\tb {D with nx:=N,ct:=N,bk:=D.nx} σ H1 else D.nx σ H1
theorem V4n {c:Ag}  {tc:TT}{tb:TS}(hp:PassesOwn ?D X.A X.env X.xe)(hc:PT X c tc)(hb:PSs X body tb):PS X (.While c body [] pos) (V9p tc tb):=by
 intro ah s σ H D I h;obtain⟨W,⟨m0,w0⟩,turn⟩:=h;refine wpAny_While (codeAny_whileLoop (fun n s'=>∃ σ' H',A1 X ah σ' H' s'/\W n σ' H') ?_ m0 ⟨σ,H,I,w0⟩);rintro n s1 ⟨σ1,H1,I1,w1⟩;refine cV hp (B3 (hc ah s1 σ1 H1 _ I1 (turn n σ1 H1 w1)) fun b s2 bF=>?_);obtain⟨H2,I2,q2⟩:=bF;cases b with
 |true=>
  obtain⟨N,hN,q2⟩:=q2;rw[aP rfl];refine cV hp (B3 (hb ah s2 σ1 H2 _ I2 q2) fun f s3 q3=>?_);cases f with
  |next=>
   obtain⟨σ3,H3,I3,n3⟩:=q3;obtain⟨m',hm,w3⟩:=hN σ3 H3 n3;exact⟨m',hm,σ3,H3,I3,w3⟩
  |cont=>
   obtain⟨σ3,H3,I3,n3⟩:=q3;obtain⟨m',hm,w3⟩:=hN σ3 H3 n3;exact⟨m',hm,σ3,H3,I3,w3⟩
  |brk=>exact q3
  |ret v=>exact q3
 |false=>
  rw[aK br];exact gV ⟨σ1,H2,I2,q2⟩
structure It where
 go:Nat->Hp->Prop
 yld:Nat->Hp->V->Hp->Prop
 stop:Nat->Hp->Prop
def M9 (X:Cx)(ah:Pn9)(H:Hp)(b:Af):Prop:=
 H b=none/\b≠X.env.locals/\b∉X.fs/\(b∈X.ex\/X.s₀.heap.objs.size<=b)/\(∀x c,X.env.cells.lookup x=some c->c≠b)/\∀p∈X.pn++ah,p.1≠b
def A1.fpOk {σ:St}   {b:Af}(I:?C)(hb:s.heap.objs.size<=b)(hn:H' b=none):M9 X ah H' b:=by
 refine⟨hn,iU (aB I.lt hb),I.nofs hb,.inr (aV I.sz hb),fun x c e z=>?_,fun p hp z=>?_⟩
 ·obtain⟨v,q⟩:=I.cell x c e;exact absurd (aB q.lt (by rw[z];exact hb)) (aU _)
 ·exact absurd (aB (aA (I.pin p hp).1) (by rw[z];exact hb)) (aU _)
structure Q1o (P:Aj)(w:Ak)(K:Fg9)(tg:Ag)(J:It)(fp:M Af)(it:Af)(tn:Nat->Heap->Prop):Prop where
 mem:it∈fp
 obj:∀i h,tn i h->∀b∈fp,∃o,h.get? b=?R/\∀v,o.data≠.cell v
 keep:∀i h h',tn i h->(∀b∈fp,∀o,h.get? b=?R->h'.get? b=?R)->tn i h'
 item:∀(X:Cx),X.prog=P->X.w=w->X.K=K->X.calm=true->∀(i:Nat) (ah:Pn9) (s:Ae) (σ:St) (H:Hp) (E:VS9),?C->(∀b∈fp,M9 X ah H b)->tn i s.heap->J.go i H ->
  wpAny ?T X.A (pyNext (.ref it)) (fun r s1=>∃u,r=some u /\
   wpAny ?T X.A (letOwnedTupleGo tg (.ref it) u) (fun _ s2=>∃x H',A1 X ah σ H' s2/\C9 x u/\J.yld i H x H'/\tn (i+1) s2.heap/\∀b∈fp,H' b=none) E s1) E s
 done:∀(X:Cx),X.prog=P->X.w=w->X.K=K->X.calm=true->∀(i:Nat) (ah:Pn9) (s:Ae) (σ:St) (H:Hp) (E:VS9),?C->(∀b∈fp,M9 X ah H b)->tn i s.heap->J.stop i H ->
  wpAny ?T X.A (pyNext (.ref it)) (fun r s1=>r=none/\A1 X ah σ H s1) E s
 self:∀(A:Ah) (i:Nat) (s:Ae) (Q:VS9) (E:VS9),tn i s.heap->Q (.ref it) s->wpAny ?T A (pyIter (.ref it)) Q E s
abbrev TI:=St->Hp->(It->Hp->Prop)->Prop
def PIE (X:Cx)(ah:Pn9)(σ:St)(tg:Ag)(R:It->Hp->Prop)(mq:Ad)(s2:Ae):Prop:=
 ∃(it:Af) (fp:M Af) (tn:Nat->Heap->Prop) (J:It) (H':Hp),mq=.ref it/\A1 X ah σ H' s2/\Q1o X.prog X.w X.K tg J fp it tn/\tn 0 s2.heap/\(∀b∈fp,M9 X ah H' b)/\R J H'
def PI (X:Cx)(tg iter:Ag)(wi:TI):Prop:=
 ∀(ah:Pn9) (s:Ae) (σ:St) (H:Hp) (R:It->Hp->Prop),?C->wi σ H R ->
  wpAny ?D X.A (eval iter X.env) (fun v s1=>wpAny ?D X.A (pyIter v) (PIE X ah σ tg R) X.xe s1) X.xe s
def Q8i {o:Obj}{n:String}{vs:Array Ad}{Q:Unit->Ae->Prop}(ho:s.heap.get? it=?R)(hc:o.cls=.type n)(hd:o.data=.fields vs)
  (hn:["enumerate","zip","dict_itemiterator","dict_reverseitemiterator","odict_iterator","itertools.zip_longest","itertools.pairwise"].contains n=false) (hQ:Q () s):wpAny Aa A (letOwnedTupleGo tg (.ref it) u) Q E s:=by
 unfold letOwnedTupleGo;cases tg<;>first
  |exact ao hQ
  | (cases u<;>first
    |exact ao hQ
    | (refine af (wpAny_load ho ?_)
       rw[hc,hd];show wpAny Aa A (if (["enumerate","zip","dict_itemiterator","dict_reverseitemiterator","odict_iterator","itertools.zip_longest","itertools.pairwise"].contains n&&vs[0]?==some (rawInt _))=true then _ else _) Q E s;rw[aK (by intro h;rw[hn,Bool.false_and]at h;cases h)];exact ao hQ))
def Itl (K:Fg9)(a:Af):It:=
 ⟨fun i H=>∃xs x,F2 K H a xs/\xs[i]?=some x,fun i H x H'=>H'=H/\∀xs,F2 K H a xs->xs[i]?=some x,fun i H=>∃xs,F2 K H a xs/\xs.length<=i⟩
def Itt (K:Fg9)(a:Af):It:=
 ⟨fun i H=>∃xs x,E2 K H a xs/\xs[i]?=some x,fun i H x H'=>H'=H/\∀xs,E2 K H a xs->xs[i]?=some x,fun i H=>∃xs,E2 K H a xs/\xs.length<=i⟩
def Itr (lo:Int)(n:Nat):It:=⟨fun i _=>i<n,fun i H x H'=>H'=H/\x=.int (lo+i),fun i _=>n<=i⟩
def J0g {w:Ak}{K:Fg9}  (a it:Af):Q1o P w K tg (Itl K a) [it] it (fun i h=>h.IsListIter it a i) where
 mem:=by simp
 obj:=fun i h st b hb=>by
  have e:b=it:=by simpa using hb
  subst e;obtain⟨o,e,c,d⟩:=st;exact⟨o,e,fun v z=>by rw[d]at z;cases z⟩
 keep:=fun i h h' st k=>st.at fun o e=>k it ?H o e
 item:=by
  back_in;obtain⟨xs,x,hq,hx⟩:=hg;obtain⟨b7,rv,p,hz⟩:=I.list hq;obtain⟨u,hu,ru⟩:=rv.get hx;obtain⟨f0,f1,f2,f3,f4,f5⟩:=hf it ?H;refine wpAny_pyNext_list_item st p.isList (x:=u) (by simpa using hu) fun h' jc sb=>?_;have I1:A1 X ah σ H {s with heap:=h'}:=I.turned (t':=s.toks) (fun b o hb e=>(sb.2 b hb).trans e) f0 f1 f3 f4 f5;obtain⟨o,e,c,d⟩:=id jc;exact⟨u,rfl,Q8i (s:={s with heap:=h'}) e c d (?G) ⟨x,H,I1,ru,⟨rfl,fun ys hy=>by rw[I.list_inj hy hq];exact hx⟩,jc,fun b hb=>(hf b hb).1⟩⟩
 done:=by
  back_in;obtain⟨xs,hq,hx⟩:=hg;obtain⟨b7,rv,p,hz⟩:=I.list hq;obtain⟨f0,f1,f2,f3,f4,f5⟩:=hf it ?H;have hl:=rv.length;exact wpAny_pyNext_list_end (I.ok.hd hc) st p.isList ?N fun h' eb=>⟨rfl,I.turned (t':=s.toks) (fun b o hb e=>eb b o hb e) f0 f1 f3 f4 f5⟩
 self:=fun _ _ _ _ _ st h=>wpAny_pyIter_listiter st h
def J0j {w:Ak}{K:Fg9}  (a it:Af):Q1o P w K tg (Itt K a) [it] it (fun i h=>h.IsTupleIter it a i) where
 mem:=by simp
 obj:=fun i h st b hb=>by
  have e:b=it:=by simpa using hb
  subst e;obtain⟨o,e,c,d⟩:=st;exact⟨o,e,fun v z=>by rw[d]at z;cases z⟩
 keep:=fun i h h' st k=>st.at fun o e=>k it ?H o e
 item:=by
  back_in;obtain⟨xs,x,hq,hx⟩:=hg;obtain⟨b7,rv,p,hz⟩:=I.tuple hq;obtain⟨u,hu,ru⟩:=rv.get hx;obtain⟨f0,f1,f2,f3,f4,f5⟩:=hf it ?H;refine wpAny_pyNext_tuple_item st (show s.heap.IsTuple a b7.toArray from p) (x:=u) (by simpa using hu) fun h' jc sb=>?_;have I1:A1 X ah σ H {s with heap:=h'}:=I.turned (t':=s.toks) (fun b o hb e=>(sb.2 b hb).trans e) f0 f1 f3 f4 f5;obtain⟨o,e,c,d⟩:=id jc;exact⟨u,rfl,Q8i (s:={s with heap:=h'}) e c d (?G) ⟨x,H,I1,ru,⟨rfl,fun ys hy=>by rw[I.tuple_inj hy hq];exact hx⟩,jc,fun b hb=>(hf b hb).1⟩⟩
 done:=by
  back_in;obtain⟨xs,hq,hx⟩:=hg;obtain⟨b7,rv,p,hz⟩:=I.tuple hq;obtain⟨f0,f1,f2,f3,f4,f5⟩:=hf it ?H;have hl:=rv.length;exact wpAny_pyNext_tuple_end (I.ok.hd hc) st (show s.heap.IsTuple a b7.toArray from p) ?N fun h' eb=>⟨rfl,I.turned (t':=s.toks) (fun b o hb e=>eb b o hb e) f0 f1 f3 f4 f5⟩
 self:=fun _ _ _ _ _ st h=>wpAny_pyIter_tupleiter st h
def J0h {w:Ak}{K:Fg9}  (it:Af)(lo:Int)(n:Nat):Q1o P w K tg (Itr lo n) [it] it (fun i h=>IsRangeIter h it (lo+(i:Nat)*1) ((n:Int)-(i:Nat)) 1) where
 mem:=by simp
 obj:=fun i h st b hb=>by
  have e:b=it:=by simpa using hb
  subst e;exact⟨_,st,fun v z=>by
   have z':Data.fields _=Data.cell v:=z;cases z'⟩
 keep:=fun i h h' st k=>k it ?H _ st
 item:=by
  back_in;obtain⟨f0,f1,f2,f3,f4,f5⟩:=hf it ?H;have W:=Walks.range (prog:=X.prog) (w:=X.w) (I.ok.hd hc) it lo 1 n;refine W.item i s _ _ hg st fun v h' tk hv jc kk=>?_;obtain⟨t,rfl⟩:=hv;have I1:A1 X ah σ H {s with heap:=h',toks:=tk}:=I.turned (fun b o hb e=>kk b o (by simpa using hb) e) f0 f1 f3 f4 f5;refine⟨_,rfl,Q8i (s:={s with heap:=h',toks:=tk}) (n:="range_iterator") jc rfl rfl (?G) ⟨.int (lo+i),H,I1,⟨t,?_⟩,⟨rfl,rfl⟩,jc,fun b hb=>(hf b hb).1⟩⟩;rw[Int.mul_one]
 done:=by
  back_in;obtain⟨f0,f1,f2,f3,f4,f5⟩:=hf it ?H;exact wpAny_pyNext_range_end (I.ok.hd hc) st (by have:n<=i:=hg;omega) fun h' eb=>⟨rfl,I.turned (t':=s.toks) (fun b o hb e=>eb b o hb e) f0 f1 f3 f4 f5⟩
 self:=fun _ _ _ _ _ st h=>wpAny_pyIter_rangeiter st h
def W7y (K:Fg9)(tl:TE):TI:=fun σ H R=>tl σ H fun x H1=>∃a,x=.ref a/\(∃xs,F2 K H1 a xs)/\R (Itl K a) H1
def iTup (K:Fg9)(tl:TE):TI:=fun σ H R=>tl σ H fun x H1=>∃a,x=.ref a/\(∃xs,E2 K H1 a xs)/\R (Itt K a) H1
def Z7j {l:Ag}{tl:TE}(hl:PE X l tl):PI X tg l (W7y X.K tl):=by
 intro ah s σ H R I h;refine B3 (hl ah s σ H _ I h) fun v s1 bF=>?_;obtain⟨x,H1,I1,r1,q1⟩:=bF;obtain⟨a,e,⟨xs,hq⟩,q⟩:=q1;subst e;cases r1;obtain⟨b7,rv,p,hz⟩:=I1.list hq;refine kA p.isList ?_;refine⟨s1.heap.objs.size,[s1.heap.objs.size],_,_,H1,rfl,I1.kept (t':=s1.toks) fun b o e=>ae _ e,J0g a _,⟨_,aE _ rfl,rfl,rfl⟩,fun b hb=>?_,q⟩;have e:b=s1.heap.objs.size:=by simpa using hb
 subst e;exact I1.fpOk (am _) (I1.hok.fresh (am _))
def Y7p {l:Ag}{tl:TE}(hl:PE X l tl):PI X tg l (iTup X.K tl):=by
 intro ah s σ H R I h;refine B3 (hl ah s σ H _ I h) fun v s1 bF=>?_;obtain⟨x,H1,I1,r1,q1⟩:=bF;obtain⟨a,e,⟨xs,hq⟩,q⟩:=q1;subst e;cases r1;obtain⟨b7,rv,p,hz⟩:=I1.tuple hq;refine fG (show s1.heap.IsTuple a b7.toArray from p) ?_;refine⟨s1.heap.objs.size,[s1.heap.objs.size],_,_,H1,rfl,I1.kept (t':=s1.toks) fun b o e=>ae _ e,J0j a _,⟨_,aE _ rfl,rfl,rfl⟩,fun b hb=>?_,q⟩;have e:b=s1.heap.objs.size:=by simpa using hb
 subst e;exact I1.fpOk (am _) (I1.hok.fresh (am _))
def V5a {σ:St}   {R:It->Hp->Prop}  {lo hi:Int}{t u v:Tok}{tk:Nat}(I:?C)(h1:-(2^62)<=lo)(h2:lo<2^62)(h3:-(2^62)<=hi)(h4:hi<2^62)
  (q:R (Itr lo (hi-lo).toNat) H):wpAny ?D X.A (pyIter (.ref s.heap.objs.size)) (PIE X ah σ tg R) E {s with heap:=s.heap.push {cls:=.type "range",data:=.fields #[.int lo t,.int hi u,.int 1 v]},toks:=tk}:=by
 refine wpAny_pyIter_range (IsRange.new ..) (small_one h1 h2 h3 h4) ?_;have I1:A1 X ah σ H {s with heap:=s.heap.push {cls:=.type "range",data:=.fields #[.int lo t,.int hi u,.int 1 v]},toks:=tk}:=I.kept fun b o e=>ae _ e;refine⟨(s.heap.push {cls:=.type "range",data:=.fields #[.int lo t,.int hi u,.int 1 v]}).objs.size,[(s.heap.push {cls:=.type "range",data:=.fields #[.int lo t,.int hi u,.int 1 v]}).objs.size],_,_,H,rfl,
  I1.kept (t':=tk) fun b o e=>ae _ e,J0h _ lo (hi-lo).toNat,?_,fun b hb=>?_,q⟩
 ·have e1:lo+((0:Nat):Int)*1=lo:=by simp
  have e2:(((hi-lo).toNat:Nat):Int)-((0:Nat):Int)=Builtin.Range.rangeSize lo hi 1:=by rw[rangeSize_one];split<;>omega
  show IsRangeIter _ _ (lo+((0:Nat):Int)*1) ((((hi-lo).toNat:Nat):Int)-((0:Nat):Int)) 1;rw[e1,e2];exact aE _ rfl
 ·have e:b=(s.heap.push {cls:=.type "range",data:=.fields #[.int lo t,.int hi u,.int 1 v]}).objs.size:=by simpa using hb
  subst e;exact I1.fpOk (am _) (I1.hok.fresh (am _))
def W7z (ta:TA):TI:=fun σ H R=>ta σ H fun vs H1=>∃j:Int,vs=[.int j]/\-(2^62)<=j/\j<2^62/\R (Itr 0 j.toNat) H1
theorem Y7o {a:Ag}{ta:TA}  (hg:Gl X "range")(hm:X.mg "range"=none)(ha:PA X [a] ta)(hs:starEach [a] X.env=[(false,eval a X.env)]:=by rfl):PI X tg (.Call (.Name "range" p) [a] [] pos) (W7z ta):=by
 intro ah s σ H R I h;refine Call_ (Q1h I hg hm boot_range (bf (B3 (ha pos ah s σ H _ I h) fun us s1 bF=>?_) hs rfl));obtain⟨vs,H1,I1,r1,q1⟩:=bF;obtain⟨j,e,q1,q2,q⟩:=q1;subst e;cases r1 with
 |cons r rr=>
  cases rr;obtain⟨t,rfl⟩:=r;exact call_range_1 (V5a I1 (?A) (?A) q1 q2 (by simpa using q))
def tFor (wi:TI)(g:TG)(tb:TS):TS:=fun D σ H=>wi σ H fun J H1=>∃W:Nat->Nat->St->Hp->Prop,(∃m,W 0 m σ H1)/\∀i m σ H,W i m σ H ->
 (J.stop i H/\D.nx σ H)\/(J.go i H/\∃N:St->Hp->Prop,(∀ σ' H',N σ' H'->∃m',m'<m/\W (i+1) m' σ' H')/\∀x H',J.yld i H x H'->g x σ H' fun σ2 H2=>tb {D with nx:=N,ct:=N,bk:=D.nx} σ2 H2)
def Y4 (fp:M Af)(h:Heap):Pn9:=fp.filterMap fun b=>(h.get? b).map fun o=>(b,o)
def Q2j {b:Af}{o:Obj}(hb:b∈fp)(e:h.get? b=?R):(b,o)∈Y4 fp h:=uU.mpr ⟨b,hb,by rw[e];rfl⟩
theorem Q8x {p:Af×Obj}(hp:p∈Y4 fp h):p.1∈fp/\h.get? p.1=some p.2:=by
 obtain⟨b,hb,e⟩:=uU.mp hp;cases q:h.get? b with
 |none=>rw[q]at e;cases e
 |some o=>
  rw[q]at e;have e':(b,o)=p:=az e;subst e';exact⟨hb,q⟩
def A1.pinned {σ:St}    (I:?C)(hf:∀b∈fp,M9 X ah H b)(ho:∀b∈fp,∃o,s.heap.get? b=?R/\∀v,o.data≠.cell v):A1 X (ah++Y4 fp s.heap) σ H s:=
 I.pins_of fun p hp=>(aO.mp hp).elim (fun z=>I.pin p (aw _ z)) fun z=>by
  obtain⟨hb,e⟩:=Q8x z;obtain⟨f0,f1,f2,_⟩:=hf p.1 hb;obtain⟨o,e',d⟩:=ho p.1 hb;rw[e]at e';cases e';exact⟨e,f0,f1,f2,d⟩
def A1.unpinned {σ:St}   (I:A1 X (ah++pl) σ H s):?C:=I.pins_of fun p hp=>I.pin p (aw _ (bp _ hp))
def V4l {wi:TI}{g:TG}{tb:TS}  (hp:PassesOwn ?D X.A X.env X.xe)(hc:X.calm=true)(hi:PI X tg iter wi)(hg:PG X tg g)(hb:PSs X body tb)
  (hs:∀x,foldedSetIterable iter X.env x=pure x:=by intro _;rfl):PS X (.For tg iter body [] pos) (tFor wi g tb):=by
 intro ah s σ H D I h;refine wpAny_For (B3 (hi ah s σ H _ I h) fun v s1 h1=>B3 h1 fun mq s2 h2=>?_) hs;obtain⟨it,fp,tn,J,H2,e,I2,T,fD,f2,W,⟨m0,w0⟩,turn⟩:=h2;subst e;have m5:∀{H':Hp},(∀b∈fp,H' b=none)->∀b∈fp,M9 X ah H' b:=fun hn b hb=>⟨hn b hb,(f2 b hb).2⟩
 refine codeAny_forLoop_any (fun n s'=>∃i σ' H',A1 X ah σ' H' s'/\tn i s'.heap/\(∀b∈fp,H' b=none)/\W i n σ' H') ?_ m0 ⟨0,σ,H2,I2,fD,fun b hb=>(f2 b hb).1,w0⟩;rintro n s3 ⟨i,σ3,H3,I3,im,j2,w3⟩;rcases turn i n σ3 H3 w3 with⟨stop,qn⟩ |⟨go,N,hN,step⟩
 ·refine cV hp (B3 (T.done X rfl rfl rfl hc i ah s3 σ3 H3 X.xe I3 (m5 j2) im stop) fun r s4 bF=>?_);obtain⟨hr,I4⟩:=bF;subst hr;exact gV ⟨σ3,H3,I4,qn⟩
 ·refine cV hp (B3 (T.item X rfl rfl rfl hc i ah s3 σ3 H3 X.xe I3 (m5 j2) im go) fun r s4 bF=>?_);obtain⟨u,hr,h4⟩:=bF;subst hr;refine cV hp (B3 h4 fun _ s5 bF=>?_);obtain⟨x,H5,I5,r5,y5,gh,l5⟩:=bF;have l8:=I5.pinned (m5 l5) (T.obj _ _ gh);refine cV hp (B3 (hg _ s5 σ3 H5 x u _ l8 r5 (step x H5 y5)) fun _ s6 bF=>?_);obtain⟨σ6,H6,I6,q6⟩:=bF;refine cV hp (B3 (hb _ s6 σ6 H6 _ I6 q6) fun f s7 q7=>?_);have again:∀{σ7:St}{H7:Hp},A1 X (ah++Y4 fp s5.heap) σ7 H7 s7->N σ7 H7->∃m,m<n/\∃i σ' H',A1 X ah σ' H' s7/\tn i s7.heap/\(∀b∈fp,H' b=none)/\W i m σ' H':=fun {σ7 H7} I7 n7=>by
   obtain⟨m',hm,w7⟩:=hN σ7 H7 n7;refine⟨m',hm,i+1,σ7,H7,I7.unpinned,T.keep _ _ _ gh fun b hb o e=>(I7.pin (b,o) (aw _ (aw _ (Q2j hb e)))).1,fun b hb=>?_,w7⟩;obtain⟨o,e,d⟩:=T.obj _ _ gh b hb;exact(I7.pin (b,o) (aw _ (aw _ (Q2j hb e)))).2.1
  cases f with
  |next=>obtain⟨σ7,H7,I7,n7⟩:=q7;exact again I7 n7
  |cont=>obtain⟨σ7,H7,I7,n7⟩:=q7;exact again I7 n7
  |brk=>obtain⟨σ7,H7,I7,q7⟩:=q7;exact⟨σ7,H7,I7.unpinned,q7⟩
  |ret v=>obtain⟨x7,σ7,H7,I7,r7,q7⟩:=q7;exact⟨x7,σ7,H7,I7.unpinned,r7,q7⟩
abbrev R2:=V->V->Hp->VK->Prop
def O9 (X:Cx)(f:Ad->Ad->Sem Ad)(r:R2):Prop:=
 ∀(ah:Pn9) (s:Ae) (σ:St) (H:Hp) (x y:V) (v u:Ad) (Q:VK),?C->C9 x v->C9 y u->r x y H Q ->
  wpAny ?D X.A (f v u) (EP X ah σ Q) X.xe s
def UnR (X:Cx)(f:Ad->Sem Ad)(r:V->Hp->VK->Prop):Prop:=
 ∀(ah:Pn9) (s:Ae) (σ:St) (H:Hp) (x:V) (v:Ad) (Q:VK),?C->C9 x v->r x H Q ->
  wpAny ?D X.A (f v) (EP X ah σ Q) X.xe s
def Q5x (X:Cx)(f:Ad)(r:M V->Hp->VK->Prop):Prop:=
 ∀(ah:Pn9) (s:Ae) (σ:St) (H:Hp) (xs:M V) (us:M Ad) (Q:VK),?C->C3 xs us->r xs H Q ->
  wpAny ?D X.A (call f us) (EP X ah σ Q) X.xe s
def TruR (X:Cx)(r:V->Hp->(Bool->Hp->Prop)->Prop):Prop:=
 ∀(ah:Pn9) (s:Ae) (σ:St) (H:Hp) (x:V) (v:Ad) (Q:Bool->Hp->Prop),?C->C9 x v->r x H Q ->
  wpAny ?D X.A (truthy v) (TP X ah σ Q) X.xe s
def tOp (r:R2)(ta tb:TE):TE:=fun σ H Q=>ta σ H fun x H1=>tb σ H1 fun y H2=>r x y H2 Q
def tUn (r:V->Hp->VK->Prop)(ta:TE):TE:=fun σ H Q=>ta σ H fun x H1=>r x H1 Q
def rI (C:Int->Int->Prop)(g:Int->Int->V):R2:=fun x y H Q=>∃i j,x=.int i/\y=.int j/\C i j/\Q (g i j) H
def rI0 (g:Int->Int->V):R2:=fun x y H Q=>∃i j,x=.int i/\y=.int j/\Q (g i j) H
def rU (g:Int->V):V->Hp->VK->Prop:=fun x H Q=>∃i,x=.int i/\Q (g i) H
section
variable {a b:Ag}{tb:TE}
def Z4o (ha:PE X a ta)(hb:PE X b tb)   {σ:St}  {R:V->V->Hp->Prop}(I:?C)
  (h:ta σ H fun x H1=>tb σ H1 fun y H2=>R x y H2)  {f:Ad->Ad->Sem Ad}
  (hf:∀v u s2 x y H2,A1 X ah σ H2 s2->C9 x v->C9 y u->R x y H2->wpAny ?D X.A (f v u) Q X.xe s2):
  wpAny ?D X.A (eval a X.env) (fun v s₁=>wpAny ?D X.A (eval b X.env) (fun u s₂=>wpAny ?D X.A (f v u) Q X.xe s₂) X.xe s₁) X.xe s:=by
 refine B3 (ha ah s σ H _ I h) fun v s1 bF=>?_;obtain⟨x,H1,I1,r1,q1⟩:=bF;refine B3 (hb ah s1 σ H1 _ I1 q1) fun u s2 bF=>?_;obtain⟨y,H2,I2,r2,q2⟩:=bF;exact hf v u s2 x y H2 I2 r1 r2 q2
def V3p {op:Operator}{r:R2}(ho:O9 X (binaryOp op) r)(ha:PE X a ta)(hb:PE X b tb):PE X (.BinOp a op b pos) (tOp r ta tb):=by
 intro ah s σ H Q I h;exact wpAny_BinOp (Z4o ha hb I h fun v u s2 x y H2 I2 rx ry q=>ho ah s2 σ H2 x y v u Q I2 rx ry q)
def V3v {op:UnaryOp}{r:V->Hp->VK->Prop}(ho:UnR X (unaryOp op) r)(ha:PE X a ta):PE X (.UnaryOp op a pos) (tUn r ta):=by
 intro ah s σ H Q I h;exact UnaryOp_ (B3 (ha ah s σ H _ I h) fun v s1 ⟨x,H1,I1,r1,q1⟩=>ho ah s1 σ H1 x v Q I1 r1 q1)
def opI {f:Ad->Ad->Sem Ad}  {g:Int->Int->Int}
  (rule:∀(i j:Int) (t u:Tok) (s:Ae) (Q:VS9) (E:VS9),C i j->Q (.int (g i j) s.toks) {s with toks:=s.toks+1}->wpAny ?D X.A (f (.int i t) (.int j u)) Q E s):
  O9 X f (rI C fun i j=>.int (g i j)):=by
 intro ah s σ H x y v u Q I rx ry h;obtain⟨i,j,rfl,rfl,hc,q⟩:=h;obtain⟨t,rfl⟩:=rx;obtain⟨t',rfl⟩:=ry;exact rule i j t t' s _ _ hc ⟨.int (g i j),H,I.tok _,⟨_,rfl⟩,q⟩
def Z7f {f:Ad->Ad->Sem Ad}{g:Int->Int->Int}
  (rule:∀(i j:Int) (t u:Tok) (s:Ae) (Q:VS9) (E:VS9),Q (.int (g i j) s.toks) {s with toks:=s.toks+1}->wpAny ?D X.A (f (.int i t) (.int j u)) Q E s):
  O9 X f (rI0 fun i j=>.int (g i j)):=by
 intro ah s σ H x y v u Q I rx ry h;obtain⟨i,j,rfl,rfl,q⟩:=h;obtain⟨t,rfl⟩:=rx;obtain⟨t',rfl⟩:=ry;exact rule i j t t' s _ _ ⟨.int (g i j),H,I.tok _,⟨_,rfl⟩,q⟩
def Z1t {f:Ad->Ad->Sem Ad}{g:Int->Int->Bool}
  (rule:∀(i j:Int) (t u:Tok) (s:Ae) (Q:VS9) (E:VS9),Q (.bool (g i j)) s->wpAny ?D X.A (f (.int i t) (.int j u)) Q E s):
  O9 X f (rI0 fun i j=>.bl (g i j)):=by
 intro ah s σ H x y v u Q I rx ry h;obtain⟨i,j,rfl,rfl,q⟩:=h;obtain⟨t,rfl⟩:=rx;obtain⟨t',rfl⟩:=ry;exact rule i j t t' s _ _ ⟨.bl (g i j),H,I,rfl,q⟩
def Q2b (i j:Int):Prop:=0<j/\j<1073741824
def Q3z (i j:Int):Prop:=(-(2^64)<i/\i<2^64)\/(-(2^64)<j/\j<2^64)
def Q3z.ok {i j:Int}(h:Q3z i j):IntMulOk i j:=by
 rcases h with⟨h1,h2⟩ |⟨h1,h2⟩
 ·exact .of_left (intBits_le_64 h1 h2)
 ·exact .of_right (intBits_le_64 h1 h2)
def V2a:O9 X (binaryOp .Add) (rI0 fun i j=>.int (i+j)):=Z7f fun _ _ _ _ _ _ _ q=>add_int q
def V2p:O9 X (binaryOp .Sub) (rI0 fun i j=>.int (i-j)):=Z7f fun _ _ _ _ _ _ _ q=>sub_int q
def V2l:O9 X (binaryOp .Mult) (rI Q3z fun i j=>.int (i*j)):=opI fun _ _ _ _ _ _ _ hc q=>mul_int q hc.ok
def V2e:O9 X (binaryOp .FloorDiv) (rI Q2b fun i j=>.int (i / j)):=opI fun i j _ _ _ _ _ hc q=>by
 have h1:(0:Int)<j:=hc.1;have h2:j<1073741824:=hc.2;exact floordiv_int (?A) (by rw[Int.fdiv_eq_ediv_of_nonneg i (?A)];exact q) (.inl (PyProof.noPylong_small (?A)))
def V2k:O9 X (binaryOp .Mod) (rI (fun _ j=>0<j) fun i j=>.int (i % j)):=opI fun i j _ _ _ _ _ hc q=>by
 have h1:(0:Int)<j:=hc;exact mod_int' (?A) (by rw[Int.fmod_eq_emod_of_nonneg i (?A)];exact q)
def W8l:O9 X (inplaceOp .Add) (rI0 fun i j=>.int (i+j)):=Z7f fun _ _ _ _ _ _ _ q=>iadd_int q
def unI {f:Ad->Sem Ad}{g:Int->Int}
  (rule:∀(i:Int) (t:Tok) (s:Ae) (Q:VS9) (E:VS9),Q (.int (g i) s.toks) {s with toks:=s.toks+1}->wpAny ?D X.A (f (.int i t)) Q E s):
  UnR X f (rU fun i=>.int (g i)):=by
 intro ah s σ H x v Q I rx h;obtain⟨i,rfl,q⟩:=h;obtain⟨t,rfl⟩:=rx;exact rule i t s _ _ ⟨.int (g i),H,I.tok _,⟨_,rfl⟩,q⟩
def J0m:UnR X (unaryOp .USub) (rU fun i=>.int (-i)):=unI fun _ _ _ _ _ q=>neg_int q
end
def scal:V->V->Bool
 |.non,.non=>true |.non,.int _=>true |.int _,.non=>true |.non,.bl _=>true |.bl _,.non=>true |.non,.str _=>true |.str _,.non=>true
 |.int _,.int _=>true |.bl _,.bl _=>true |.str _,.str _=>true |.byt _,.byt _=>true
 |.int _,.str _=>true |.str _,.int _=>true |.bl _,.str _=>true |.str _,.bl _=>true
 |_,_=>false
def rNe:R2:=fun x y H Q=>scal x y=true/\Q (.bl (!decide (x=y))) H
def Y3w {i j:Int}:decide (V.int i=V.int j)=(i==j):=by
 rw[eD];simp
def Y3v {i j:Bool}:decide (V.bl i=V.bl j)=(i==j):=by
 rw[eD];simp
def Y3x {i j:Str}:decide (V.str i=V.str j)=(i==j):=by
 rw[eD];simp
def W6q {i j:Array UInt8}:decide (V.byt i=V.byt j)=(i.toList==j.toList):=by
 rw[eD];cases i;cases j;simp
section
variable {a b c:Ag}{tb:TE}
def X4 {σ:St}   {Q:VK}{k k':Bool}(I:?C)(q:Q (.bl k) H)(e:k=k'):EP X ah σ Q (.bool k') s:=by
 subst e;exact⟨.bl k,H,I,rfl,q⟩
theorem V2m:O9 X (compareOp .NotEq) rNe:=by
 intro ah s σ H x y v u Q I rx ry h;obtain⟨hs,q⟩:=h;cases x with
 |non=>
  cases rx;cases y with
  |non=>cases ry;exact PySem.EqNone.ne_none_none (X4 I q ?H)
  |bl j=>cases ry;exact PySem.EqNone.ne_none_bool (X4 I q ?H)
  |int j=>obtain⟨t',rfl⟩:=ry;exact PySem.EqNone.ne_none_int (X4 I q ?H)
  |str j=>obtain⟨t',rfl⟩:=ry;exact PySem.EqNone.ne_none_str (X4 I q ?H)
  |_=>exact absurd (show false=true from hs) br
 |bl i=>
  cases rx;cases y with
  |non=>cases ry;exact PySem.EqNone.ne_bool_none (X4 I q ?H)
  |bl j=>cases ry;exact ne_bool (X4 I q (congrArg not Y3v))
  |str j=>obtain⟨t',rfl⟩:=ry;exact PySem.EqMixed.ne_bool_str (X4 I q ?H)
  |_=>exact absurd (show false=true from hs) br
 |int i=>
  obtain⟨t,rfl⟩:=rx;cases y with
  |non=>cases ry;exact PySem.EqNone.ne_int_none (X4 I q ?H)
  |int j=>obtain⟨t',rfl⟩:=ry;exact ne_int (X4 I q (congrArg not Y3w))
  |str j=>obtain⟨t',rfl⟩:=ry;exact PySem.EqMixed.ne_int_str (X4 I q ?H)
  |_=>exact absurd (show false=true from hs) br
 |str i=>
  obtain⟨t,rfl⟩:=rx;cases y with
  |non=>cases ry;exact PySem.EqNone.ne_str_none (X4 I q ?H)
  |bl j=>cases ry;exact PySem.EqMixed.ne_str_bool (X4 I q ?H)
  |int j=>obtain⟨t',rfl⟩:=ry;exact PySem.EqMixed.ne_str_int (X4 I q ?H)
  |str j=>obtain⟨t',rfl⟩:=ry;exact ne_str (X4 I q (congrArg not Y3x))
  |_=>exact absurd (show false=true from hs) br
 |byt i=>
  obtain⟨t,rfl⟩:=rx;cases y with
  |byt j=>obtain⟨t',rfl⟩:=ry;exact PySem.W.ne_bytes (X4 I q (congrArg not W6q))
  |_=>exact absurd (show false=true from hs) br
 |_=>cases y<;>exact absurd (show false=true from hs) br
def V2j:O9 X (compareOp .Lt) (rI0 fun i j=>.bl (decide (i<j))):=Z1t fun _ _ _ _ _ _ _ q=>lt_int q
def V2i:O9 X (compareOp .LtE) (rI0 fun i j=>.bl (decide (i<=j))):=Z1t fun _ _ _ _ _ _ _ q=>le_int q
def V2g:O9 X (compareOp .Gt) (rI0 fun i j=>.bl (decide (j<i))):=Z1t fun _ _ _ _ _ _ _ q=>gt_int q
def V2f:O9 X (compareOp .GtE) (rI0 fun i j=>.bl (decide (j<=i))):=Z1t fun _ _ _ _ _ _ _ q=>ge_int q
def V2h:O9 X (compareOp .Is) (fun x y H Q=>y=.non/\Q (.bl (decide (x=.non))) H):=by
 intro ah s σ H x y v u Q I rx ry h;obtain⟨rfl,q⟩:=h;cases ry;refine is_none_gen (X4 I q ?_);cases x<;>first
  |(cases rx;rfl)
  |(obtain⟨t,rfl⟩:=rx;rfl)
def V2n:O9 X (compareOp .IsNot) (fun x y H Q=>y=.non/\Q (.bl (!decide (x=.non))) H):=by
 intro ah s σ H x y v u Q I rx ry h;obtain⟨rfl,q⟩:=h;cases ry;refine isnot_none_gen (X4 I q ?_);cases x<;>first
  |(cases rx;rfl)
  |(obtain⟨t,rfl⟩:=rx;rfl)
def M5 (b:Ag){op:CmpOp}(h:op≠.In:=by decide)(h2:op≠.NotIn:=by decide):behindInMarks op b=false:=by
 have e1:(op==CmpOp.In)=false:=by cases op<;>first |rfl |exact absurd rfl h
 have e2:(op==CmpOp.NotIn)=false:=by cases op<;>first |rfl |exact absurd rfl h2
 cases b<;>simp[behindInMarks,e1,e2]
def V3a {op:CmpOp}{r:R2}(ho:O9 X (compareOp op) r)(ha:PE X a ta)(hb:PE X b tb)(hm:behindInMarks op b=false):PE X (.Compare a [op] [b] pos) (tOp r ta tb):=by
 intro ah s σ H Q I h;exact wpAny_Compare1 (Z4o ha hb I h fun v u s2 x y H2 I2 rx ry q=>ho ah s2 σ H2 x y v u Q I2 rx ry q) hm
def V9o (t:TE):TT:=fun σ H Q=>t σ H fun x H'=>∃k,x=.bl k/\Q k H'
def V4p {op:CmpOp}{r:R2}(ho:O9 X (compareOp op) r)(ha:PE X a ta)(hb:PE X b tb)(hm:behindInMarks op b=false):PT X (.Compare a [op] [b] pos) (V9o (tOp r ta tb)):=by
 intro ah s σ H Q I h;refine wpAny_isTrue_Compare1 (B3 (ha ah s σ H _ I h) fun v s1 ⟨x,H1,I1,r1,q1⟩=>B3 (hb ah s1 σ H1 _ I1 q1) fun u s2 ⟨y,H2,I2,r2,q2⟩=>
  B3 (ho ah s2 σ H2 x y v u _ I2 r1 r2 q2) fun c s3 ⟨z,H3,I3,r3,k,e,q3⟩=>?_) hm
 subst e;cases r3;exact cK ⟨H3,I3,q3⟩
def Z4f (K:Fg9)(x:V)(H:Hp)(k:Bool):Prop:=
 match x with
 |.non=>k=false
 |.bl b=>k=b
 |.int i=>k=(i != 0)
 |.str y=>y.length<=sizeLine/\k=((y.length:Int) != 0)
 |.byt y=>y.size<=sizeLine/\k=((y.size:Int) != 0)
 |.ref p=>(∃xs,F2 K H p xs/\k=!xs.isEmpty)\/(∃xs,E2 K H p xs/\k=!xs.isEmpty)\/∃kvs,H p=some (.dK kvs)/\k=!kvs.isEmpty
 |_=>False
def W8o {kvs:M (κ×V)}{vs:M (κ×Ad)}(r:KV kvs vs):(!vs.isEmpty)=!kvs.isEmpty:=by
 cases r<;>rfl
def Y4z (r:C3 xs b7):(!b7.toArray.isEmpty)=!xs.isEmpty:=by
 cases r<;>simp
def Q4n:(sizeLine:Nat)<2^63:=by rw[fY];decide
theorem J0d:TruR X (fun x H Q=>∃k,Z4f X.K x H k/\Q k H):=by
 intro ah s σ H x v Q I rx h;obtain⟨k,e,q⟩:=h;have hl:=Q4n;have hs:sizeLine=16777216:=fY;cases x with
 |non=>
  cases rx;have e':k=false:=e;subst e';exact truthy_none ⟨H,I,q⟩
 |bl b=>
  cases rx;have e':k=b:=e;subst e';exact cK ⟨H,I,q⟩
 |int i=>
  obtain⟨t,rfl⟩:=rx;have e':k=(i != 0):=e;subst e';exact PySem.P.truthy_int ⟨H,I,q⟩
 |str y=>
  obtain⟨t,rfl⟩:=rx;obtain⟨hy,e'⟩:y.length<=sizeLine/\k=((y.length:Int) != 0):=e;subst e';exact PySem.P.truthy_str (?A) ⟨H,I.tok _,q⟩
 |byt y=>
  obtain⟨t,rfl⟩:=rx;obtain⟨hy,e'⟩:y.size<=sizeLine/\k=((y.size:Int) != 0):=e;subst e';exact PySem.W.truthy_bytes (?A) ⟨H,I.tok _,q⟩
 |ref p=>
  cases rx;have e':(∃xs,F2 X.K H p xs/\k=!xs.isEmpty)\/(∃xs,E2 X.K H p xs/\k=!xs.isEmpty)\/∃kvs,H p=some (.dK kvs)/\k=!kvs.isEmpty:=e;rcases e' with⟨xs,hx,e'⟩ |⟨xs,hx,e'⟩ |⟨kvs,hx,e'⟩
  ·subst e';obtain⟨b7,r,pl,hz⟩:=I.list hx;have bZ:=r.length;exact wpAny_truthy_list pl.isList (by simp only[aF];omega) ⟨H,I.tok _,by rw[Y4z r];exact q⟩
  ·subst e';obtain⟨b7,r,pl,hz⟩:=I.tuple hx;have bZ:=r.length;exact truthy_tuple pl (by simp only[aF];omega) ⟨H,I.tok _,by rw[Y4z r];exact q⟩
  ·subst e';obtain⟨hz,hS,vs,r,m⟩:kvs.length<=sizeLine/\(p==sysModules)=false/\∃vs,KV kvs vs/\s.heap.DictOf (N6 X.prog X.w) p vs:=I.hok p _ hx;have bZ:kvs.length=vs.length:=jH r;exact wpAny_truthy_dict hS m (?A) ⟨H,I.tok _,by rw[W8o r];exact q⟩
 |_=>exact(show False from e).elim
def V4q (ha:PE X a ta)(he:∀whole,isTrue a X.env whole=(do let v <- whole;standAt a.pos;holding [v] (truthy v))):
  PT X a (fun σ H Q=>ta σ H fun x H'=>∃k,Z4f X.K x H' k/\Q k H'):=by
 intro ah s σ H Q I h;exact isTrue_plain (B3 (ha ah s σ H _ I h) fun v s1 ⟨x,H1,I1,r1,q1⟩=>J0d ah s1 σ H1 x v Q I1 r1 q1) (he _)
def V2b:O9 X (binaryOp .Add) (fun x y H Q=>∃i j,x=.str i/\y=.str j/\i.length+j.length<=sizeLine/\Q (.str (i++j)) H):=by
 intro ah s σ H x y v u Q I rx ry h;obtain⟨i,j,rfl,rfl,hz,q⟩:=h;obtain⟨t,rfl⟩:=rx;obtain⟨t',rfl⟩:=ry;exact add_str (fun t' tk=>⟨.str (i++j),H,I.tok _,⟨_,rfl⟩,q⟩) hz
theorem Q0k {x:V}  (r:C3 [x] us):∃u,us=[u]/\C9 x u:=by
 cases r with
 |cons r1 r2=>cases r2;exact⟨_,rfl,r1⟩
theorem W0v {x:V}  (r:C3 [x,y] us):∃u w',us=[u,w']/\C9 x u/\C9 y w':=by
 cases r with
 |cons r1 r2=>
  cases r2 with
  |cons r3 r4=>cases r4;exact⟨_,_,rfl,r1,r3⟩
def LenV (K:Fg9)(x:V)(H:Hp)(n:Nat):Prop:=
 match x with
 |.str y=>y.length<=sizeLine/\n=y.length
 |.byt y=>y.size<=sizeLine/\n=y.size
 |.ref p=>(∃xs,F2 K H p xs/\n=xs.length)\/∃xs,E2 K H p xs/\n=xs.length
 |_=>False
theorem Q8b:Q5x X (.builtin "len") (fun xs H Q=>∃x n,xs=[x]/\LenV X.K x H n/\Q (.int n) H):=by
 intro ah s σ H xs us Q I r h;obtain⟨x,n,rfl,e,q⟩:=h;obtain⟨u,rfl,rx⟩:=Q0k r;have hl:=Q4n;have hs:sizeLine=16777216:=fY;cases x with
 |str y=>
  obtain⟨t,rfl⟩:=rx;obtain⟨hy,e'⟩:y.length<=sizeLine/\n=y.length:=e;subst e';exact len_str (?A) ⟨.int _,H,I.tok _,⟨_,rfl⟩,q⟩
 |byt y=>
  obtain⟨t,rfl⟩:=rx;obtain⟨hy,e'⟩:y.size<=sizeLine/\n=y.size:=e;subst e';exact PySem.W.len_bytes (?A) ⟨.int _,H,I.tok _,⟨_,rfl⟩,q⟩
 |ref p=>
  cases rx;have e':(∃xs,F2 X.K H p xs/\n=xs.length)\/∃xs,E2 X.K H p xs/\n=xs.length:=e;rcases e' with⟨xs,hx,e'⟩ |⟨xs,hx,e'⟩
  ·subst e';obtain⟨b7,r',pl,hz⟩:=I.list hx;have bZ:=r'.length;exact Calls.call_len_list pl.isList (by simp only[aF];omega) ⟨.int xs.length,H,I.tok _,⟨_,by simp only[aF];rw[bZ]⟩,q⟩
  ·subst e';obtain⟨b7,r',pl,hz⟩:=I.tuple hx;have bZ:=r'.length;exact len_tuple pl (by simp only[aF];omega) ⟨.int xs.length,H,I.tok _,⟨_,by simp only[aF];rw[bZ]⟩,q⟩
 |_=>exact(show False from e).elim
end
theorem Y2a {v:V}{o:Ac Ad}(r:Q2z (some v) o):∃u,o=some u/\C9 v u:=by
 cases o with
 |none=>exact(show False from r).elim
 |some u=>exact⟨u,rfl,r⟩
structure F8 (k:Nat)(A:Ah):Prop where
 hd:A.handled=none
 dp:A.depth+3*k+5<recursionLimit
 un:A.units+16*k+200<cLine
def F8.mono {j k:Nat}  (r:F8 k A)(h:j<=k):F8 j A:=⟨r.hd,by have:=r.dp;omega,by have:=r.un;omega⟩
def F8.deeper {k:Nat}  (r:F8 (k+1) A)(env:Env):F8 k (A.deeper env):=
 ⟨r.hd,by have:=r.dp;show A.depth+1+3*k+5<_;omega,by have:=r.un;show A.units+3+16*k+200<_;omega⟩
def F8.depth {k:Nat}  (r:F8 k A):A.depth<recursionLimit:=by have:=r.dp;omega
def F8.units {k:Nat}  (r:F8 k A):A.units+64<cLine:=by have:=r.un;omega
def F8.units0 {k:Nat}  (r:F8 k A):A.units<cLine:=by have:=r.un;omega
def Z8t:TA:=fun _ H Q=>Q [] H
def Q7f (ta:TE)(tr:TA):TA:=fun σ H Q=>ta σ H fun x H1=>tr σ H1 fun xs H2=>Q (x::xs) H2
section
variable {es:M Ag}{t:TA}
def Q4q:PA X [] Z8t:=fun _ _ _ _ H Q I h=>cM ⟨[],H,I,.nil,h⟩
def Q1w (ha:PE X e te)(hr:PA X es t)(hs:?I:=by rfl):PA X (e::es) (Q7f te t):=by
 intro pos ah s σ H Q I h;rw[hs];show wpAny _ _ (spliced ((false,eval e X.env)::backTo pos (starEach es X.env))) _ _ s;refine bS (B3 (ha ah s σ H _ I h) fun u s1 bF=>?_);obtain⟨x,H1,I1,r1,q1⟩:=bF;exact B3 (hr pos ah s1 σ H1 _ I1 q1) fun us s2 ⟨xs,H2,I2,r2,q2⟩=>⟨x::xs,H2,I2,.cons r1 r2,q2⟩
def tTup (t:TA):TE:=fun σ H Q=>t σ H fun xs H1=>xs.length<=sizeLine/\∀p,H1 p=none->Q (.ref p) (B0 H1 p (.tup xs))
def tLst (t:TA):TE:=fun σ H Q=>t σ H fun xs H1=>xs.length<=sizeLine/\∀p,H1 p=none->Q (.ref p) (B0 H1 p (.lst xs))
def V3u {x1}(h:PA X es t):PE X (.Tuple es x1 pos) (tTup t):=by
 intro ah s σ H Q I hq;refine wpAny_Tuple_spliced (B3 (h pos ah s σ H _ I hq) fun us s1 ⟨xs,H1,I1,r,z,q⟩=>⟨by rw[<-r.length];exact z,?_⟩);have hf:H1 s1.heap.objs.size=none:=I1.hok.fresh (am _);refine⟨.ref s1.heap.objs.size,B0 H1 s1.heap.objs.size (.tup xs),I1.laid (t':=s1.toks) (fun b u e=>ae _ e) (am _) ?_,rfl,q _ hf⟩;exact⟨z,us,r,⟨_,aE _ rfl,rfl,_,rfl⟩⟩
def V3l (h:PA X es t):PE X (.List es pos) (tLst t):=by
 intro ah s σ H Q I hq;refine wpAny_List_spliced (B3 (h pos ah s σ H _ I hq) fun us s1 ⟨xs,H1,I1,r,z,q⟩=>⟨by rw[<-r.length];exact z,?_⟩);have hf:H1 s1.heap.objs.size=none:=I1.hok.fresh (am _);refine⟨.ref s1.heap.objs.size,B0 H1 s1.heap.objs.size (.lst xs),I1.laid (t':=s1.toks) (fun b u e=>ae _ e) (am _) ?_,rfl,q _ hf⟩;exact⟨z,us,0,r,aE _ rfl⟩
end
abbrev Sp:=M V->Hp->VK->XK->Prop
abbrev CXT:=M Env->Hp->Ae->XK->Ad->Ae->Prop
variable {CX:CXT}
structure Q5z (P:Aj)(w:Ak)(K:Fg9)(mg:Str->Ac Ad)(base:Heap)(A:Ah)(outer:M Env)(s:Ae)(H:Hp):Prop where
 frames:A.frames=some outer
 mod:Mod K mg base
 bs:∀b o,base.get? b=?R->s.heap.get? b=?R/\H b=none
 bsz:base.objs.size<=s.heap.objs.size
 funs:s.heap.FunFrames base outer
 frf:∀b∈frs outer,H b=none
 hok:J8 P w H s.heap
 bare:AllBare s.gens
def CE (outer:M Env)(P:Aj)(w:Ak)(H:Hp)(s:Ae)(Q:VK)(u:Ad)(s':Ae):Prop:=
 ∃v H',s'.os=s.os/\AllBare s'.gens/\Un (frs outer) [] H H' s.heap s'.heap/\J8 P w H' s'.heap/\C9 v u/\Q v H'
def CR (CX:CXT)(outer:M Env)(P:Aj)(w:Ak)(H:Hp)(s:Ae)(Q:VK)(E:XK)(r:Result)(s':Ae):Prop:=
 match r with
 |.ok (.ret u)=>CE outer P w H s Q u s'
 |.ok _=>False
 |.error e=>CX outer H s E e s'
structure S7 (P:Aj)(w:Ak)(K:Fg9)(mg:Str->Ac Ad)(base:Heap)(CX:CXT)(k:Nat)(f:Af)(fd:Ai)(ps:M Str)(sp:Sp):Prop where
 len:∀vs H Q E,sp vs H Q E->vs.length=ps.length
 run:∀(A:Ah) (outer:M Env) (s:Ae) (H:Hp) (args:Args) (us:M Ad) (vs:M V) (Q:VK) (E:XK),F8 k A->Q5z P w K mg base A outer s H->BindsTo s fd args (ps.zip us)->C3 vs us->sp vs H Q E ->
  codeAny ?T A (.call (.ref f) args) (CR CX outer P w H s Q E) s
section
variable {σ:St}
def A1.env0 (I:?C):Q5z X.prog X.w X.K X.mg X.base X.A X.stack s H:=
 ⟨I.ok.frames,I.ok.mod,I.bs,aV I.ok.bsz I.sz,I.stack,I.stkFree,I.hok,I.bare⟩
def A1.after {Q:VK}  (I:?C)(h:CE X.stack X.prog X.w H s Q u s'):EP X ah σ Q u s':=by
 obtain⟨v,H',os,bare,un,hok,r,q⟩:=h;obtain⟨hh,g,d,t,qD⟩:=s';obtain rfl:qD=s.os:=os;exact⟨v,H',I.call (h':=hh) (g':=g) (d':=d) (t':=t) (ch:=[]) un hok bare (fun b z=>absurd z ?H),r,q⟩
end
def V9b (sp:Sp)(dvs:M V)(E:XK)(t:TA):TE:=fun σ H Q=>t σ H fun vs H1=>sp (vs++dvs) H1 Q E
def U3 (K:Fg9)(fd:Ai)(ps:M Str)(ds:M Ad):Prop:=
 ∀(s:Ae) (us:M Ad),K.In s.heap->(us++ds).length=ps.length->BindsTo s fd ⟨us,[]⟩ (ps.zip (us++ds))
def U3.all {K:Fg9}   (h:∀us:M Ad,us.length=ps.length->bindArgs fd ⟨us,[]⟩=pure (ps.zip us)):U3 K fd ps []:=fun s us _ hl=>by
 rw[aZ]at hl ⊢;exact .of_eq (h us hl)
def Z4d (CX:CXT)(X:Cx)(E:XK):Prop:=∀(ah:Pn9) (σ:St) (H:Hp) (s:Ae) (e:Ad) (s':Ae),?C->CX X.stack H s E e s'->X.xe e s'
section
variable {k:Nat}{sp:Sp}{dvs:M V}{ds:M Ad}{E:XK}{es:M Ag}{t:TA}
theorem Y8e {σ:St}   {Q:VK}   (F:S7 X.prog X.w X.K X.mg X.base CX k f fd ps sp)(hr:F8 k X.A)(hb:U3 X.K fd ps ds)(hd:C3 dvs ds)(hx:Z4d CX X E)
  (I:?C) (r:C3 vs us) (h:sp (vs++dvs) H Q E):wpAny ?D X.A (call (.ref f) us) (EP X ah σ Q) X.xe s:=by
 have r2:C3 (vs++dvs) (us++ds):=r.append hd;have hl:(us++ds).length=ps.length:=by rw[<-r2.length];exact F.len _ _ _ _ h
 refine wpAny_call (fz (F.run X.A X.stack s H ⟨us,[]⟩ (us++ds) (vs++dvs) Q E hr I.env0 (hb s us I.kIn hl) r2 h) fun r s' hq=>?_);cases r with
 |error e=>exact hx ah σ H s e s' I hq
 |ok fl=>
  cases fl with
  |ret u=>exact I.after hq
  |next=>exact False.elim hq
  |brk=>exact False.elim hq
  |cont=>exact False.elim hq
def Z7h (F:S7 X.prog X.w X.K X.mg X.base CX k f fd ps sp)(hr:F8 k X.A)(hg:Gl X x)(hm:X.mg x=some (.ref f))(hk:PySem.W.keepIn X.K (.ref f)=true)(hb:U3 X.K fd ps ds)(hd:C3 dvs ds)(hx:Z4d CX X E)
  (ha:PA X (e::es) t) (ga:(x==("__debug__":Str))=false:=by decide) (he:?I:=by rfl) (hpl:?S:=by rfl):
  PE X (.Call (.Name x p) (e::es) [] pos) (V9b sp dvs E t):=by
 intro ah s σ H Q I h;refine bj (Z1c I hg hm ?_ ga);refine hZ (h₀:=X.base) I.ok.mod.kin hk (B3 (ha pos ah s σ H _ I h) fun us s1 ⟨vs,H1,I1,r,q⟩=>⟨I1.kIn,?_⟩) he hpl;exact Y8e F hr hb hd hx I1 r q
end
structure Y7 (N P:M Str)(sc:Scope):Prop where
 kind:sc.kind=.function
 co:sc.isCoroutine=false
 gen:sc.isGenerator=false
 nd:N.Nodup
 pre:N.take P.length=P
 par:∀x∈P,sc.names.lookup x=some .local\/sc.names.lookup x=some .cell
 nofree:∀y∈sc.names,y.2≠.free
theorem Y2q:∀{binds:M (Str×Ad)}{m:Str->Ac Ad},(∀v,(x,v)∉binds)->bindL kindOf binds m x=m x
 |[],_,_=>rfl
 |(n,v)::r,m,h=>by
  unfold bindL;rw[Y2q fun w hw=>h w (aj _ hw)];split
  ·have:x≠n:=by rintro rfl;exact h v ak
   simp[this]
  ·rfl
theorem Y2o:∀{binds:M (Str×Ad)}{m:Str->Ac Ad},(∀v,(x,v)∉binds)->bindC kindOf binds m x=m x
 |[],_,_=>rfl
 |(n,v)::r,m,h=>by
  unfold bindC;rw[Y2o fun w hw=>h w (aj _ hw)];split
  ·rfl
  ·have:x≠n:=by rintro rfl;exact h v ak
   simp[this]
theorem Y2p {v:Ad}:∀{P:M Str}{vs:M Ad}{i:Nat}{m:Str->Ac Ad},P.Nodup->P[i]?=some x->vs[i]?=some v->kindOf x=some .local ->
  bindL kindOf (P.zip vs) m x=some v
 |[],_,_,_,_,h,_,_=>by simp at h
 |_::_,[],_,_,_,_,h,_=>by simp at h
 |p::P,w::vs,0,m,nd,h1,h2,hk=>by
  simp at h1 h2;subst h1;subst h2;show bindL kindOf ((p,w)::P.zip vs) m p=_;unfold bindL;rw[Y2q fun v hv=>(bq.mp nd).1 (du hv).1,aP hk];simp
 |p::P,w::vs,i+1,m,nd,h1,h2,hk=>by
  show bindL kindOf ((p,w)::P.zip vs) m x=_;unfold bindL;exact Y2p (i:=i) (bq.mp nd).2 (by simpa using h1) (by simpa using h2) hk
theorem Y2n {v:Ad}:∀{P:M Str}{vs:M Ad}{i:Nat}{m:Str->Ac Ad},P.Nodup->P[i]?=some x->vs[i]?=some v->kindOf x≠some .local ->
  bindC kindOf (P.zip vs) m x=some v
 |[],_,_,_,_,h,_,_=>by simp at h
 |_::_,[],_,_,_,_,h,_=>by simp at h
 |p::P,w::vs,0,m,nd,h1,h2,hk=>by
  simp at h1 h2;subst h1;subst h2;show bindC kindOf ((p,w)::P.zip vs) m p=_;unfold bindC;rw[Y2o fun v hv=>(bq.mp nd).1 (du hv).1,aK hk];simp
 |p::P,w::vs,i+1,m,nd,h1,h2,hk=>by
  show bindC kindOf ((p,w)::P.zip vs) m x=_;unfold bindC;exact Y2n (i:=i) (bq.mp nd).2 (by simpa using h1) (by simpa using h2) hk
def start (N:M Str)(vs:M V):St:=vs.map some++List.replicate (N.length-vs.length) none
def U5 (CX:CXT)(P:Aj)(w:Ak)(K:Fg9)(mg:Str->Ac Ad)(base:Heap)(N:M Str)(qual:Str)(scope:Scope)(f:Af)(cd:Ad)(A:Ah)(outer:M Env)(s:Ae)(H:Hp)(E:XK):Cx where
 prog:=P
 w:=w
 K:=K
 mg:=mg
 base:=base
 A:=A.deeper (envOfC qual scope s.heap.objs.size f cd)
 N:=N
 s₀:=s
 H₀:=H
 env:=envOfC qual scope s.heap.objs.size f cd
 outer:=outer
 stack:=envOfC qual scope s.heap.objs.size f cd::outer
 ex:=[]
 calm:=true
 fn:=fun _=>true
 pn:=[]
 xe:=fun e s'=>wpAny ?T (A.deeper (envOfC qual scope s.heap.objs.size f cd)) (leaving (envOfC qual scope s.heap.objs.size f cd) e) (fun _ nL=>CX outer H s E e nL) (fun e' nL=>CX outer H s E e' nL) s'
def Y3e (h:sc.names.lookup x=some .cell):∃c,(cellsFrom n sc.names []).lookup x=some c:=by
 have q:=fJ sc.names n [] (.inl h);exact lY.mp q
def Y4w {w:Ak}{K:Fg9}       {cd:Ad}  {outer:M Env}   {E:XK}  
  (S:Y7 N ps scope) (hd:A.handled=none) (e0:Q5z P w K mg base A outer s H) (hl:vs.length=ps.length) (r:C3 vs us)
  (x:InCallC s s.heap.objs.size (bindL (envOfC qual scope s.heap.objs.size f cd).kindOf (ps.zip us) fun _=>none) (cellsFrom (s.heap.objs.size+1) scope.names []) (bindC (envOfC qual scope s.heap.objs.size f cd).kindOf (ps.zip us) fun _=>none) s1):
  A1 (U5 CX P w K mg base N qual scope f cd A outer s H E) [] (start N vs) H s1:=by
 have hpl:ps.length<=N.length:=by have:=congrArg List.length S.pre;rw[bD]at this;omega
 obtain⟨h1,tk,rfl,hk⟩:=x.done;have km:∀b:Af,b∉(U5 CX P w K mg base N qual scope f cd A outer s H E).ex:=fun b z=>absurd (show b∈([]:M Af)from z) ?H;refine⟨⟨e0.mod,S.kind,rfl,rfl,am _,fun y z c h1 h2=>?_,fun y hy=>?_,fun y c _ h=>?_,fun _=>hd,Around.frames_deeper e0.frames,.inr ⟨rfl,rfl⟩,fun b z=>absurd z (km b),e0.bs,e0.bsz,fun b _ _=>km b,fun b z=>absurd z (km b),e0.funs,e0.frf⟩,
  rfl,e0.bare,Un.kept hk,⟨_,x.toInCall.ns,fun i y v h1 h2 h3=>?_⟩,fun y c h=>⟨_,x.cell y c h⟩,e0.hok.fresh (am _),fun y c h=>?_,fun p hp=>absurd (show p∈([]:Pn9)from hp) ?H,e0.hok.kept hk,?_⟩
 ·exact name_of_addr x.apart (bL h1) (bL h2)
 ·have hy:scope.names.lookup y=some .cell\/scope.names.lookup y=some .free:=hy;rcases hy with hy |hy
  ·exact Y3e hy
  ·exact absurd rfl (S.nofree _ (bL hy))
 ·exact dO (x.above y c (bL h))
 ·have hi:i<vs.length:=by
   unfold start at h2
   by_cases hi:i<vs.length
   ·exact hi
   ·rw[aT (by simpa using hi)]at h2;rw[List.getElem?_replicate]at h2;split at h2<;>cases h2
  have ha:vs[i]?=some v:=by
   unfold start at h2;rw[aI (by simpa using hi),ai]at h2;cases e:vs[i]? with
   |none=>rw[e]at h2;cases h2
   |some a=>rw[e]at h2;cases h2;rfl
  obtain⟨u,hu,rv⟩:=r.get ha;have hp:ps[i]?=some y:=by
   rw[<-S.pre,List.getElem?_take_of_lt (?A)];exact h1
  have sZ:ps.Nodup:=by rw[<-S.pre];exact S.nd.sublist (List.take_sublist _ _)
  refine⟨u,rv,?_⟩;rcases S.par y (aD hp)with k |k
  ·exact .inl ⟨k,Y2p sZ hp hu k⟩
  ·obtain⟨c,e⟩:=Y3e (n:=s.heap.objs.size+1) k;refine .inr ⟨.inl k,c,e,?_⟩;have q:=x.cell y c e;rw[Y2n sZ hp hu (by show scope.names.lookup y≠_;rw[k];decide)]at q;exact q
 ·exact e0.hok.fresh (dO (x.above y c (bL h)))
 ·unfold start;show _=N.length;rw[aq,ag,b9];omega
theorem Z5k {w:Ak}{K:Fg9}   {k:Nat}  {name:Str}    {dV kV:Ad} 
    {sp:Sp} (lk:K.lookup f=some ⟨oc,od,.func (PySem.W.fnOf name qual params body scope dV kV dW pm an cdv ct),fS⟩) (gb:PySem.W.codeIn K cdv qual=true) (S:Y7 N ps scope)
  (len:∀vs H Q E,sp vs H Q E->vs.length=ps.length)
  (cn:∀(A:Ah) (outer:M Env) (s:Ae) (H:Hp) (vs:M V) (Q:VK) (E:XK),F8 k (A.deeper (envOfC qual scope s.heap.objs.size f cdv))->sp vs H Q E ->
   ∃t,PSs (U5 CX P w K mg base N qual scope f cdv A outer s H E) body t/\t {nx:=fun _ H'=>Q .non H',rt:=Q} (start N vs) H):
  S7 P w K mg base CX (k+1) f (PySem.W.fnOf name qual params body scope dV kV dW pm an cdv ct) ps sp:=by
 refine⟨len,fun A outer s H args us vs Q E hr e0 hb r iZ=>?_⟩;have hl:=len _ _ _ _ iZ;have KX:K.In s.heap:=e0.mod.kin.keeps fun b o e=>(e0.bs b o e).1;have mo:s.heap.NoLimit:=e0.mod.nolimit.keeps fun b o e=>(e0.bs b o e).1;have k7:∀y∈ps.zip us,scope.names.lookup y.1=some .local\/(scope.names.lookup y.1=some .cell/\((cellsFrom (s.heap.objs.size+1) scope.names []).lookup y.1).isSome=true):=fun⟨n,v⟩ hy=>by
  rcases S.par n (du hy).1 with q |q
  ·exact .inl q
  ·exact .inr ⟨q,fJ _ _ _ (.inl q)⟩
 refine codeAny_call_function hr.depth (KX _ _ lk) rfl S.co S.gen rfl (uT KX gb) (hb _ _ _ _ ?_);refine qg S.kind k7 fun env he s1 x=>?_;subst he;refine⟨mo.keeps x.toInCall.keep,codeAny_func ?_⟩;obtain⟨t,ht,hq⟩:=cn A outer s H vs Q E (hr.deeper _) iZ;have I:A1 (U5 CX P w K mg base N qual scope f cdv A outer s H E) [] (start N vs) H s1:=Y4w S hr.hd e0 hl r x;refine aS (ht [] s1 (start N vs) H _ I hq) (fun fl s' hs=>?_) fun e s' hs=>hs;have fin:∀{σ':St}{H':Hp}{v:V}{u:Ad},A1 (U5 CX P w K mg base N qual scope f cdv A outer s H E) [] σ' H' s'->C9 v u->Q v H'->CE outer P w H s Q u s':=
  fun {σ' H' v u} J rv q=>⟨v,H',J.os,J.bare,J.base,J.hok,rv,q⟩
 cases fl with
 |ret u=>
  obtain⟨v,σ',H',J,rv,q⟩:=hs;exact fin J rv q
 |next=>
  obtain⟨σ',H',J,q⟩:=hs;exact fin (v:=V.non) (u:=Value.none) J rfl q
 |brk=>
  obtain⟨_,_,_,q⟩:=hs;exact False.elim q
 |cont=>
  obtain⟨_,_,_,q⟩:=hs;exact False.elim q
section
variable {es:M Ag}{t:TA}{id:String}{r:M V->Hp->VK->Prop}
def tCB (r:M V->Hp->VK->Prop)(t:TA):TE:=fun σ H Q=>t σ H fun vs H1=>r vs H1 Q
def Y7k (hc:Q5x X (.builtin id) r)(hg:Gl X x)(hm:X.mg x=none)(hv:bootBuiltins x=some (.builtin id))(ha:PA X (e::es) t)(hn:x≠"__name__":=by decide)(ga:(x==("__debug__":Str))=false:=by decide)
  (he:?I:=by rfl) (hpl:?S:=by rfl):PE X (.Call (.Name x p) (e::es) [] pos) (tCB r t):=by
 intro ah s σ H Q I h;refine bj (Q1h I hg hm hv ?_ hn ga);exact j4 (B3 (ha pos ah s σ H _ I h) fun us s1 ⟨vs,H1,I1,r1,q1⟩=>hc ah s1 σ H1 vs us Q I1 r1 q1) he hpl
def V2z (hc:Q5x X (.type T) r)(hg:Gl X x)(hm:X.mg x=none)(hv:bootBuiltins x=some (.type T))(ha:PA X (e::es) t)(hn:x≠"__name__":=by decide)(ga:(x==("__debug__":Str))=false:=by decide)
  (he:?I:=by rfl) (hpl:?S:=by rfl):PE X (.Call (.Name x p) (e::es) [] pos) (tCB r t):=by
 intro ah s σ H Q I h;refine bj (Q1h I hg hm hv ?_ hn ga);exact bf (B3 (ha pos ah s σ H _ I h) fun us s1 ⟨vs,H1,I1,r1,q1⟩=>hc ah s1 σ H1 vs us Q I1 r1 q1) he hpl
end
namespace HT
open PySem PyProof.Rows
section
variable {w:Ak}
def cat_tup {t b:Af}{vs ws:M Ad}  (ht:IsTup s.heap t vs.toArray)(hb:IsTup s.heap b ws.toArray)(hv:vs≠[])
  (h1:ws=[]->Q (.ref t) s) (h2:ws≠[]->Q (.ref s.heap.objs.size) {s with heap:=s.heap.push {cls:=.type "tuple",data:=.seq (vs++ws).toArray}})
  (hsz:vs.length+ws.length<=sizeLine):wpAny (model prog w) A (binaryOp .Add (.ref t) (.ref b)) Q E s:=by
 obtain⟨⟨cls,dd,data,sl⟩,ho,hc,n,hd⟩:=id ht;obtain⟨⟨oS,nr,data2,mY⟩,jz,jB,n2,j0⟩:=id hb;simp only at hc hd jB j0;subst hc hd jB j0;have e:vs.toArray++ws.toArray=(vs++ws).toArray:=by simp
 by_cases hw:ws=[]
 ·exact lf ⟨_,ho,rfl⟩ ⟨_,jz,rfl⟩ lZ uW fK fC (fy _ _)
   (tuple_addW1 t b vs.toArray ws.toArray n n2 dd nr sl mY (by simpa using hv) (by simp[hw])) ⟨ho,jz,h1 hw⟩
 ·refine lf ⟨_,ho,rfl⟩ ⟨_,jz,rfl⟩ lZ uW fK fC (fy _ _)
   (tuple_addW2 t b vs.toArray ws.toArray n n2 dd nr sl mY (by simpa using hv) (by simpa using hw) (by rw[aF,aF];exact hsz)) ⟨ho,jz,?_⟩
  rw[e];exact h2 hw
def sIx (n d:Nat):Ac Int->Nat
 |none=>d
 |some v=>if v<0 then(v+(n:Int)).toNat else min v.toNat n
theorem sIx_none (n d:Nat):sIx n d none=d:=rfl
def sIx_nat (n d k:Nat):sIx n d (some (k:Int))=min k n:=by
 show(if (k:Int)<0 then((k:Int)+(n:Int)).toNat else min (k:Int).toNat n)=min k n;rw[aK (?A),bO]
theorem V6s (n d:Nat)(hd:d<=n)(o:Ac Int):sIx n d o<=n:=by
 cases o with
 |none=>exact hd
 |some v=>
  show(if v<0 then(v+(n:Int)).toNat else min v.toNat n)<=n
  by_cases hv:v<0
  ·rw[aP hv];omega
  ·rw[aK hv];exact Nat.min_le_right _ _
def Y3h (v:Int)(n d:Nat):(if v<0 then max (v+(n:Int)) 0 else min v (n:Int))=((sIx n d (some v):Nat):Int):=by
 show(if v<0 then max (v+(n:Int)) 0 else min v (n:Int))=(((if v<0 then(v+(n:Int)).toNat else min v.toNat n):Nat):Int)
 by_cases hv:v<0
 ·simp only[aP hv];omega
 ·simp only[aK hv];omega
def W5b (lo hi:Ac Int)(n:Nat):Builtin.Slice.sliceAdjust lo hi 1 (n:Int)=(((sIx n 0 lo:Nat):Int),((sIx n n hi:Nat):Int)):=by
 have h1:¬ ((1:Int)<0):=?A
 unfold Builtin.Slice.sliceAdjust;simp only[h1,eY];refine Prod.ext ?_ ?_
 ·cases lo with
  |none=>rfl
  |some v=>exact Y3h v n 0
 ·cases hi with
  |none=>rfl
  |some v=>exact Y3h v n n
def V4d (i j:Nat):Builtin.Slice.slicePlaces (i:Int) (j:Int) 1=j-i:=by
 unfold Builtin.Slice.slicePlaces;have h1:(1:Int) > 0:=?A
 simp only[h1,fA,Int.ediv_one];split<;>omega
theorem Y9f {v:Ad}{o:Ac Int}{Q:Ac Int->Ae->Prop}(p:IsPart v o)(h:Q o s):wpAny (model prog w) A (Builtin.Slice.slicePartIndex v) Q E s:=by
 cases p with
 |none=>exact slicePart_none h
 |int i t=>exact slicePart_int h
def Y9e {lo:Ac Int}  {Q:Int×Int×Nat->Ae->Prop}(hs:s.heap.IsSliceOf sl vl vu .none)(pl:IsPart vl lo)(pu:IsPart vu hi)
  (h:Q (((sIx n 0 lo:Nat):Int),1,sIx n n hi-sIx n 0 lo) s):wpAny (model prog w) A (Builtin.Slice.sliceApplied (.ref sl) (pure (n:Int))) Q E s:=by
 obtain⟨os,jy,gR,jq⟩:=id hs;unfold Builtin.Slice.sliceApplied Builtin.Slice.sliceFields;refine af (af (bM jy jq (x:=vl) rfl (af (bM jy jq (x:=vu) rfl (af (bM jy jq (x:=.none) rfl (ao ?_)))))));refine af (slicePart_none ?_);show wpAny _ _ (if ((1:Int)==0)=true then _ else _) _ _ s;rw[aK (?G)];refine af (Y9f pl (af (Y9f pu (af (ao ?_)))));show wpAny _ _ (match Builtin.Slice.sliceAdjust lo hi 1 (n:Int)with |(lo,hi)=>pure (lo,(1:Int),Builtin.Slice.slicePlaces lo hi 1)) _ _ s;rw[W5b lo hi n];show wpAny _ _ (pure (((sIx n 0 lo:Nat):Int),(1:Int),Builtin.Slice.slicePlaces ((sIx n 0 lo:Nat):Int) ((sIx n n hi:Nat):Int) 1)) _ _ s;rw[V4d];exact ao h
def V4c (xs:Array Ad)(i k:Nat):((List.range k).filterMap fun(m:Nat)=>xs[((i:Int)+(m:Int)*1).toNat]?).toArray=((xs.toList.drop i).take k).toArray:=by
 have e:(fun(m:Nat)=>xs[((i:Int)+(m:Int)*1).toNat]?)=fun m=>xs[i+m]?:=by
  funext m
  have:((i:Int)+(m:Int)*1).toNat=i+m:=?A
  rw[this]
 rw[e];have:=pick_run xs i k;rw[List.filterMap_map]at this;have e2:((fun x=>xs[x]?) ∘ fun x=>i+x)=fun m=>xs[i+m]?:=rfl;rw[e2]at this;rw[this]
def getItem_tuple_cut {t:Af}   {lo:Ac Int}  (ht:IsTup s.heap t items)(hs:s.heap.IsSliceOf sl vl vu .none)(pl:IsPart vl lo)(pu:IsPart vu hi)
  (hw:¬ (sIx items.size 0 lo=0/\sIx items.size items.size hi=items.size))
  (h:Q (.ref s.heap.objs.size) {s with heap:=s.heap.push {cls:=.type "tuple",data:=.seq ((items.toList.drop (sIx items.size 0 lo)).take (sIx items.size items.size hi-sIx items.size 0 lo)).toArray}})
  (hsz:items.size<=sizeLine):wpAny (model prog w) A (getItem (.ref t) (.ref sl)) Q E s:=by
 have iY:sizeOk (.seq ((items.toList.drop (sIx items.size 0 lo)).take (sIx items.size items.size hi-sIx items.size 0 lo)).toArray):=by
  show((items.toList.drop (sIx items.size 0 lo)).take (sIx items.size items.size hi-sIx items.size 0 lo)).toArray.size<=sizeLine;rw[aF,bD,fI,dh];omega
 have hj:sIx items.size items.size hi<=items.size:=V6s _ _ (am _) hi;obtain⟨os,jy,gR,jq⟩:=id hs;have sd:s.TypeIs (.ref sl) "slice":=⟨os,jy,gR⟩
 unfold getItem
 try with_reducible refine bB ?_
 first |refine af (ao ?_) |skip
 refine af (wpAny_sequenceKey ht.typeIs (?G) ?_);refine af (bT (name:=Str.ofString "__getitem__") ht.typeIs bJ
  (ck bJ ht.typeIs entry_tuple_getitem ?_ (args_tuple_getitem _ _)))
 show wpAny _ _ (Builtin.Tuple.tupleItemsOf (.ref t)>>=_) _ _ s;refine af (tupleItemsOf_ ht ?_);refine af (lc sd ?_);rw[aP (?G)];refine af (Y9e hs pl pu ?_);have kS:¬ ((((sIx items.size 0 lo:Nat):Int)==0&&(1:Int)==1&&(sIx items.size items.size hi-sIx items.size 0 lo)==items.size)=true):=by
  intro q;rw[cy,cy]at q;have q1:((sIx items.size 0 lo:Nat):Int)=0:=eq_of_beq q.1.1;have q2:sIx items.size items.size hi-sIx items.size 0 lo=items.size:=eq_of_beq q.2;exact hw ⟨?A,?A⟩
 show wpAny _ _ (if (((sIx items.size 0 lo:Nat):Int)==0&&(1:Int)==1&&(sIx items.size items.size hi-sIx items.size 0 lo)==items.size)=true then _ else _) _ _ s;rw[aK kS,V4c]
 first
  |exact af (m:=Builtin.Tuple.tupleExact _) (bR (ao ⟨_,rfl,ao h⟩) iY)
  |exact af (m:=Builtin.Tuple.tupleExact _) (bR (af (ao (ao ⟨_,rfl,ao h⟩))) iY)
  |exact af (af (m:=Builtin.Tuple.tupleExact _) (bR (ao (ao ⟨_,rfl,ao h⟩)) iY))
  |exact af (af (m:=Builtin.Tuple.tupleExact _) (bR (ao ⟨_,rfl,ao h⟩) iY))
end
end HT
abbrev TO:=St->Hp->(Ac Int->Hp->Prop)->Prop
def PO (X:Cx)(e:Ac Ag)(t:TO):Prop:=
 ∀(ah:Pn9) (s:Ae) (σ:St) (H:Hp) (Q:Ac Int->Hp->Prop),?C->t σ H Q ->
  wpAny ?D X.A (evalPart e X.env) (fun u s'=>∃o H',A1 X ah σ H' s'/\IsPart u o/\Q o H') X.xe s
def V9k:TO:=fun _ H Q=>Q none H
def V9n (t:TE):TO:=fun σ H Q=>t σ H fun x H1=>∃i,x=.int i/\Q (some i) H1
section
variable {lo hi:Ac Ag}{tl th:TO}{p2:Pos}
def V4e:PO X none V9k:=by
 intro ah s σ H Q I h;rw[evalPart_none];exact ao ⟨none,H,I,.none,h⟩
def V4f (h:PE X e te):PO X (some e) (V9n te):=by
 intro ah s σ H Q I hw;rw[evalPart_some];refine B3 (h ah s σ H _ I hw) fun u s1 bF=>?_;obtain⟨x,H1,I1,r1,q1⟩:=bF;obtain⟨i,rfl,q⟩:=q1;obtain⟨t,rfl⟩:=r1;exact⟨some i,H1,I1,.int i t,q⟩
def SlR (X:Cx)(r:V->Ac Int->Ac Int->Hp->VK->Prop):Prop:=
 ∀(ah:Pn9) (s:Ae) (σ:St) (H:Hp) (x:V) (v vl vu:Ad) (lo hi:Ac Int) (sl:Af) (Q:VK),?C->C9 x v->s.heap.IsSliceOf sl vl vu .none->IsPart vl lo->IsPart vu hi->r x lo hi H Q ->
  ∃T id,typeLookup (.type T) "__getitem__"=pure (some (.builtin id))/\s.TypeIs v T/\wpAny ?D X.A (getItem v (.ref sl)) (EP X ah σ Q) X.xe s
def SlR.or (h:SlR X r)(h':SlR X r'):SlR X (fun x lo hi H Q=>r x lo hi H Q\/r' x lo hi H Q):=by
 intro ah s σ H x v vl vu lo hi sl Q I rx hs pl pu q;rcases q with q |q
 ·exact h ah s σ H x v vl vu lo hi sl Q I rx hs pl pu q
 ·exact h' ah s σ H x v vl vu lo hi sl Q I rx hs pl pu q
def tSl (r:V->Ac Int->Ac Int->Hp->VK->Prop)(te:TE)(tl th:TO):TE:=fun σ H Q=>te σ H fun x H1=>tl σ H1 fun l H2=>th σ H2 fun u H3=>r x l u H3 Q
def V3s (hr:SlR X r)(he:PE X e te)(hl:PO X lo tl)(hu:PO X hi th):PE X (.Subscript e (.Slice lo hi none p2) pos) (tSl r te tl th):=by
 intro ah s σ H Q I h;refine Subscript_ (B3 (he ah s σ H _ I h) fun v s1 bF=>?_);obtain⟨x,H1,I1,r1,q1⟩:=bF;refine wpAny_Slice (B3 (hl ah s1 σ H1 _ I1 q1) fun vl s2 ⟨l,H2,I2,pl,q2⟩=>B3 (hu ah s2 σ H2 _ I2 q2) fun vu s3 bF=>?_);obtain⟨u,H3,I3,pu,q3⟩:=bF;rw[evalPart_none];refine ao ?_;have I4:A1 X ah σ H3 {s3 with heap:=s3.heap.push {cls:=.type "slice",data:=.fields #[vl,vu,.none]}}:=I3.kept (t':=s3.toks) fun b ob q=>ae _ q;obtain⟨T,id,hT,ht,hg⟩:=hr ah {s3 with heap:=s3.heap.push {cls:=.type "slice",data:=.fields #[vl,vu,.none]}} σ H3 x v vl vu l u s3.heap.objs.size Q I4 r1 (Heap.IsSliceOf.new ..) pl pu q3;show wpAny ?D X.A (subscriptTail e (.Slice lo hi none p2) v (.ref s3.heap.objs.size)) (EP X ah σ Q) X.xe {s3 with heap:=s3.heap.push {cls:=.type "slice",data:=.fields #[vl,vu,.none]}};exact tail_any (ops:=[.ref s3.heap.objs.size,v]) ht hT hg (by with_unfolding_all rfl)
def Q1p (xs:M V)(lo hi:Ac Int):M V:=(xs.drop (HT.sIx xs.length 0 lo)).take (HT.sIx xs.length xs.length hi-HT.sIx xs.length 0 lo)
def Y3u (xs:M V)(lo hi:Ac Int):(Q1p xs lo hi).length<=xs.length:=by
 unfold Q1p;rw[bD,fI];omega
def rSlT (K:Fg9):V->Ac Int->Ac Int->Hp->VK->Prop:=fun x lo hi H Q=>∃a xs,x=.ref a/\E2 K H a xs /\
 ¬ (HT.sIx xs.length 0 lo=0/\HT.sIx xs.length xs.length hi=xs.length)/\∀p,H p=none->Q (.ref p) (B0 H p (.tup (Q1p xs lo hi)))
def V8q:SlR X (rSlT X.K):=by
 intro ah s σ H x v vl vu lo hi sl Q I rx hs pl pu h;obtain⟨a,xs,rfl,hx,hw,q⟩:=h;cases rx;obtain⟨b7,r,ht,hz⟩:=I.tuple hx;have bZ:b7.toArray.size=xs.length:=by rw[aF];exact r.length.symm
 refine⟨"tuple",_,bJ.lookup,ht.typeIs,?_⟩;refine HT.getItem_tuple_cut ht hs pl pu (by rw[bZ];exact hw) ?_ (by rw[bZ];exact hz);rw[bZ];refine⟨.ref s.heap.objs.size,_,I.laid (t':=s.toks) (o:=.tup (Q1p xs lo hi)) (fun b ob q=>ae _ q) (am _) ?_,rfl,q _ (I.hok.fresh (am _))⟩;exact⟨aV (Y3u xs lo hi) hz,_,(r.drop (HT.sIx xs.length 0 lo)).take (HT.sIx xs.length xs.length hi-HT.sIx xs.length 0 lo),IsTup.new _ _⟩
def V4w (K:Fg9):R2:=fun x y H Q=>∃a b xs ys,x=.ref a/\y=.ref b/\E2 K H a xs/\E2 K H b ys/\xs≠[]/\xs.length+ys.length<=sizeLine /\
 (ys=[]->Q (.ref a) H)/\(ys≠[]->∀p,H p=none->Q (.ref p) (B0 H p (.tup (xs++ys))))
theorem C3.nil_iff (r:C3 xs us):us=[] ↔ xs=[]:=by
 cases r with
 |nil=>simp
 |cons _ _=>simp
def V2d:O9 X (binaryOp .Add) (V4w X.K):=by
 intro ah s σ H x y v u Q I rx ry h;obtain⟨a,b,xs,ys,rfl,rfl,ha,hb,hx,hz,q1,q2⟩:=h;cases rx;cases ry;obtain⟨b7,r1,p1,_⟩:=I.tuple ha;obtain⟨cr,r2,p2,_⟩:=I.tuple hb;refine HT.cat_tup p1 p2 (fun z=>hx (r1.nil_iff.mp z)) (fun z=>⟨.ref a,H,I,rfl,q1 (r2.nil_iff.mp z)⟩) (fun z=>?_) (by rw[<-r1.length,<-r2.length];exact hz);refine⟨.ref s.heap.objs.size,_,I.laid (t':=s.toks) (o:=.tup (xs++ys)) (fun b ob q=>ae _ q) (am _) ?_,rfl,q2 (fun w=>z (r2.nil_iff.mpr w)) _ (I.hok.fresh (am _))⟩;exact⟨by rw[aq];exact hz,_,r1.append r2,IsTup.new _ _⟩
end
def ixN (n:Nat)(i:Int):Ac Nat:=if 0<=i then(if i<n then some i.toNat else none)else if -(n:Int)<=i then some (i+n).toNat else none
def M4 (xs:M α)(i:Int):Ac α:=(ixN xs.length i).bind fun j=>xs[j]?
theorem Z6e {i:Int}{j:Nat}(h:ixN n i=some j):seqIndex? i n=some j/\j<n/\-(n:Int)<=i/\i<n:=by
 unfold ixN at h
 by_cases h0:0<=i
 ·rw[aP h0]at h
  by_cases h1:i<n
  ·rw[aP h1]at h;have e:i.toNat=j:=az h;exact⟨by rw[ny h0 h1,e],?A,?A,h1⟩
  ·rw[aK h1]at h;cases h
 ·rw[aK h0]at h
  by_cases h1:-(n:Int)<=i
  ·rw[aP h1]at h;have e:(i+n).toNat=j:=az h;exact⟨by rw[seqIndex_neg (?A) h1,e],?A,h1,?A⟩
  ·rw[aK h1]at h;cases h
theorem Z0e {xs:M α}{i:Int}{v:α}(h:M4 xs i=some v):∃j,seqIndex? i xs.length=some j/\xs[j]?=some v/\j<xs.length/\-(xs.length:Int)<=i/\i<xs.length:=by grind [M4,ixN,Z6e]
theorem V4 {xs:M α}{j:Nat}{v:α}(h:xs[j]?=some v):M4 xs (j:Int)=some v:=by grind [ixN,M4]
def Z4e (b:Ag):Prop:=∀o i,subscripted b false o i=operate [o,i] (getItem o i)
def IxR (X:Cx)(r:R2):Prop:=
 ∀(value slice:Ag) (ah:Pn9) (s:Ae) (σ:St) (H:Hp) (x y:V) (v u:Ad) (Q:VK),?C->C9 x v->C9 y u->r x y H Q ->
  subscripted slice false v u=operate [v,u] (getItem v u)->wpAny ?D X.A (subscriptTail value slice v u) (EP X ah σ Q) X.xe s
def MtR (X:Cx)(id:String)(r:V->M V->Hp->VK->Prop):Prop:=
 ∀(ah:Pn9) (s:Ae) (σ:St) (H:Hp) (x:V) (xs:M V) (v:Ad) (us:M Ad) (Q:VK),?C->C9 x v->C3 xs us->r x xs H Q ->
  wpAny ?D X.A (call (.builtin id) (v::us)) (EP X ah σ Q) X.xe s
section
variable {a b:Ag}{tb:TE}
def IxR.or {r r':R2}(h:IxR X r)(h':IxR X r'):IxR X (fun x y H Q=>r x y H Q\/r' x y H Q):=by
 intro value slice ah s σ H x y v u Q I rx ry q hs;rcases q with q |q
 ·exact h value slice ah s σ H x y v u Q I rx ry q hs
 ·exact h' value slice ah s σ H x y v u Q I rx ry q hs
def Y7l {r:R2}(hr:IxR X r)(ha:PE X a ta)(hb:PE X b tb)(hs:Z4e b):PE X (.Subscript a b pos) (tOp r ta tb):=by
 intro ah s σ H Q I h;exact Subscript_ (Z4o ha hb I h fun v u s2 x y H2 I2 rx ry q=>hr a b ah s2 σ H2 x y v u Q I2 rx ry q (hs _ _))
def rIxL (K:Fg9):R2:=fun x y H Q=>∃p xs i v,x=.ref p/\y=.int i/\F2 K H p xs/\M4 xs i=some v/\Q v H
def rIxT (K:Fg9):R2:=fun x y H Q=>∃p xs i v,x=.ref p/\y=.int i/\E2 K H p xs/\M4 xs i=some v/\Q v H
def rIxS:R2:=fun x y H Q=>∃z i c,x=.str z/\y=.int i/\z.length<=sizeLine/\M4 z.cps.toList i=some c/\Q (.str ⟨#[c]⟩) H
def W8s:IxR X (rIxL X.K):=by
 intro value slice ah s σ H x y v u Q I rx ry h hs;obtain⟨p,xs,i,z,rfl,rfl,hq,he,q⟩:=h;cases rx;obtain⟨t,rfl⟩:=ry;obtain⟨b7,r,pl,hz⟩:=I.list hq;obtain⟨j,h1,h2,h3,h4,h5⟩:=Z0e he;obtain⟨w,ew,iG⟩:=r.get h2;have hl:=r.length;have hn:=Q4n;have fin:EP X ah σ Q w s:=⟨z,H,I,iG,q⟩
 by_cases h0:0<=i
 ·have hj:i.toNat=j:=by
   rw[ny h0 h5]at h1;exact az h1
  exact item_listR pl.isList h0 (?A) (by rw[hj];simpa using ew) fin hs
 ·have hj:(i+(b7.toArray.size:Int)).toNat=j:=by
   rw[seqIndex_neg (?A) h4]at h1;rw[aF,<-hl];exact az h1
  exact js (x:=w) pl.isList.typeIs kC.lookup
   (yL (Q:=fun r s'=>r=w/\EP X ah σ Q r s') pl.isList (?A) (by rw[aF]<;>omega) (?A) (by rw[hj];simpa using ew) ⟨rfl,fin⟩) hs
def W8v:IxR X (rIxT X.K):=by
 intro value slice ah s σ H x y v u Q I rx ry h hs;obtain⟨p,xs,i,z,rfl,rfl,hq,he,q⟩:=h;cases rx;obtain⟨t,rfl⟩:=ry;obtain⟨b7,r,pl,hz⟩:=I.tuple hq;obtain⟨j,h1,h2,h3,h4,h5⟩:=Z0e he;obtain⟨w,ew,iG⟩:=r.get h2;have hl:=r.length;have hn:=Q4n;have fin:EP X ah σ Q w s:=⟨z,H,I,iG,q⟩
 exact js (x:=w) pl.typeIs slot_tuple_getitem.lookup
  (getItem_tuple (j:=j) (Q:=fun r s'=>r=w/\EP X ah σ Q r s') pl (?A) (?A) (by rw[aF,<-hl];exact h1) (by simpa using ew) ⟨rfl,fin⟩) hs
def W8u:IxR X rIxS:=by
 intro value slice ah s σ H x y v u Q I rx ry h hs;obtain⟨z,i,c,rfl,rfl,hz,he,q⟩:=h;obtain⟨t,rfl⟩:=rx;obtain⟨t',rfl⟩:=ry;obtain⟨j,h1,h2,h3,h4,h5⟩:=Z0e he;have hl:z.cps.toList.length=z.length:=by simp[Str.length]
 rw[hl]at h1 h4 h5;have hn:=Q4n;exact tail_any (typeIs_str s z t) slot_str_getitem.lookup (getItem_str (c:=c) (by
  have e1:decide (i < -(2^63:Int))=false:=aY (?A);have e2:decide (i ≥ 2^63)=false:=aY (?A);rw[e1,e2,Bool.or_false]) (by rw[h1];simpa using h2) ⟨.str ⟨#[c]⟩,H,I.tok _,⟨_,rfl⟩,q⟩) hs
def rIx (K:Fg9):R2:=fun x y H Q=>rIxL K x y H Q\/rIxT K x y H Q\/rIxS x y H Q
def W8t:IxR X (rIx X.K):=W8s.or (W8v.or W8u)
def V0d (b7:M Ad)(n j:Nat)(u:Ad):Obj.mapSeq (·.setIfInBounds j u) {cls:=.type "list",data:=.seq b7.toArray n}={cls:=.type "list",data:=.seq (b7.set j u).toArray n}:=by
 simp[Obj.mapSeq]
def A1.lst {σ:St}   {p:Af}  (I:?C)(h:H p=some (.lst xs)):
  ∃(b7:M Ad) (n:Nat),C3 xs b7/\s.heap.get? p=some {cls:=.type "list",data:=.seq b7.toArray n}/\xs.length<=sizeLine:=by
 obtain⟨z,b7,n,r,e⟩:=I.hok p _ h;exact⟨b7,n,r,e,z⟩
def A1.lstUpd {σ:St}   {p:Af}   {n':Nat}{f:Obj->Obj}(I:?C)(h:H p=some (.lst xs))
  (ho:s.heap.get? p=some {cls:=.type "list",data:=.seq b7.toArray n}) (hf:f {cls:=.type "list",data:=.seq b7.toArray n}={cls:=.type "list",data:=.seq its'.toArray n'}) (r:C3 ys its') (hz:ys.length<=sizeLine) (t:Nat):
  A1 X ah σ (B0 H p (.lst ys)) {s with heap:=s.heap.update p f,toks:=t}:=by
 have e:(s.heap.update p f).get? p=some {cls:=.type "list",data:=.seq its'.toArray n'}:=by
  rw[cX f ho (by rw[hf]<;>rfl),hf]
 refine I.write (x:=p) (e:=p) (by rw[h];trivial) (.inl rfl) (fun b u hb q=>(cC _ _ (bY hb)).trans q) ⟨_,e⟩ ?_;exact⟨hz,its',n',r,e⟩
def V4z:V->V->V->Hp->(Hp->Prop)->Prop:=fun o i v H Q=>∃p xs k j,o=.ref p/\i=.int k/\H p=some (.lst xs)/\ixN xs.length k=some j/\Q (B0 H p (.lst (xs.set j v)))
def Y8y:Z4c X V4z:=by
 intro ah s σ H o i v ov iv u Q I ro ri rv h;obtain⟨p,xs,k,j,rfl,rfl,hp,hj,q⟩:=h;cases ro;obtain⟨t,rfl⟩:=ri;obtain⟨b7,n,r,ho,hz⟩:=I.lst hp;obtain⟨h1,h2,h3,h4⟩:=Z6e hj;have hl:=r.length;have hn:=Q4n;have I':A1 X ah σ (B0 H p (.lst (xs.set j v))) {s with heap:=s.heap.update p (Obj.mapSeq (·.setIfInBounds j u))}:=
  I.lstUpd hp ho (V0d b7 n j u) (r.set rv j) (by rw[bG];exact hz) s.toks
 by_cases h0:0<=k
 ·have hk:k.toNat=j:=by
   rw[ny h0 h4]at h1;exact az h1
  exact PySem.W.ki_setAt ho h0 (?A) (by rw[aF,<-hl];exact h4) (by rw[hk];exact⟨_,I',q⟩)
 ·have hk:(k+(b7.toArray.size:Int)).toNat=j:=by
   rw[seqIndex_neg (?A) h3]at h1;rw[aF,<-hl];exact az h1
  exact PySem.W.ki_setBack ho (?A) (by rw[aF,<-hl];exact h3) (?A) (by rw[hk];exact⟨_,I',q⟩)
def V8t (lo hi:Ac Int)(n:Nat):(sliceBounds lo hi none n).1=((HT.sIx n 0 lo:Nat):Int)/\(sliceBounds lo hi none n).2.1=((HT.sIx n n hi:Nat):Int)/\(sliceBounds lo hi none n).2.2=1:=by
 refine⟨?_,?_,rfl⟩
 ·cases lo with
  |none=>simp[sliceBounds,HT.sIx]
  |some i=>
   simp only[sliceBounds,HT.sIx,yO,show(1:Int) > 0 by decide,fA]
   by_cases h:i<0
   ·simp only[h,fA]<;>omega
   ·simp only[h,eY]<;>omega
 ·cases hi with
  |none=>simp[sliceBounds,HT.sIx]
  |some i=>
   simp only[sliceBounds,HT.sIx,yO,show(1:Int) > 0 by decide,fA]
   by_cases h:i<0
   ·simp only[h,fA]<;>omega
   ·simp only[h,eY]<;>omega
def V8s (b7:M Ad)(lo hi:Ac Int):slicePick b7.toArray lo hi none=((b7.drop (HT.sIx b7.length 0 lo)).take (HT.sIx b7.length b7.length hi-HT.sIx b7.length 0 lo)).toArray:=by
 obtain⟨h1,h2,h3⟩:=V8t lo hi b7.toArray.size;unfold slicePick;rw[h1,h2,h3];simp only[sliceRange_one,pick_run,aF]<;>rfl
def rSlL (K:Fg9):V->Ac Int->Ac Int->Hp->VK->Prop:=fun x lo hi H Q=>∃a xs,x=.ref a/\F2 K H a xs/\∀p,H p=none->Q (.ref p) (B0 H p (.lst (Q1p xs lo hi)))
def V8o:SlR X (rSlL X.K):=by
 intro ah s σ H x v vl vu lo hi sl Q I rx hs pl pu h;obtain⟨a,xs,rfl,hx,q⟩:=h;cases rx;obtain⟨b7,r,ht,hz⟩:=I.list hx;have bZ:=r.length;refine⟨"list",_,kC.lookup,ht.isList.typeIs,?_⟩;refine wpAny_getItem_list_slice ht.isList hs pl pu .none ?H ?_ (by rw[aF]<;>omega);rw[V8s,<-bZ];refine⟨.ref s.heap.objs.size,_,I.laid (t':=s.toks) (o:=.lst (Q1p xs lo hi)) (fun b ob q=>ae _ q) (am _) ?_,rfl,q _ (I.hok.fresh (am _))⟩;exact⟨aV (Y3u xs lo hi) hz,_,0,(r.drop (HT.sIx xs.length 0 lo)).take (HT.sIx xs.length xs.length hi-HT.sIx xs.length 0 lo),aE _ rfl⟩
def W5y:Q5x X (.type "tuple") (fun xs H Q=>∃p ys,xs=[.ref p]/\((F2 X.K H p ys/\∀l,H l=none->Q (.ref l) (B0 H l (.tup ys)))\/(E2 X.K H p ys/\Q (.ref p) H))):=by
 intro ah s σ H xs us Q I r h;obtain⟨p,ys,rfl,h⟩:=h;obtain⟨u,rfl,rx⟩:=Q0k r;cases rx;rcases h with⟨hq,q⟩ |⟨hq,q⟩
 ·obtain⟨b7,r',pl,hz⟩:=I.list hq;have bZ:=r'.length;refine call_tuple_list pl.isList (fun h' kp=>?_) (by simp only[aF]<;>omega);have I1:A1 X ah σ H {s with heap:=h'}:=I.kept (t':=s.toks) kp;have I2:A1 X ah σ (B0 H h'.objs.size (.tup ys)) {s with heap:=h'.push {cls:=.type "tuple",data:=.seq b7.toArray}}:=
   I1.laid (t':=s.toks) (fun b o e=>ae _ e) (am _) (show N1 X.prog X.w _ _ _ (.tup ys)from⟨hz,b7,r',IsTup.new _ _⟩)
  exact⟨.ref h'.objs.size,_,I2,rfl,q _ (I1.hok.fresh (am _))⟩
 ·obtain⟨b7,r',pl,hz⟩:=I.tuple hq;exact call_tuple_same pl ⟨.ref p,H,I,rfl,q⟩
def tyV (K:Fg9)(T:String)(x:V)(H:Hp):Prop:=match x with
 |.str _=>T="str"
 |.int _=>T="int"
 | .ref p=>(T="list"/\∃xs,F2 K H p xs)\/(T="tuple"/\∃o,K.lookup p=?R/\o.cls=.type "tuple"/\o.dict=none) \/
   (T="dict"/\((∃kvs,H p=some (.dK kvs))\/∃kvs,H p=some (.dT kvs)))\/(T="set"/\∃S n,H p=some (.set S n))
 |_=>False
theorem W0p {σ:St}    {x:V}{v:Ad}(I:?C)(r:C9 x v)(ty:tyV X.K T x H):
  s.TypeIs v T/\∀a,v=.ref a->∃ob,s.heap.get? a=some ob/\ob.dict=none:=by
 cases x with
 |str z=>
  obtain⟨t,rfl⟩:=r;cases (show T="str" from ty);exact⟨typeIs_str s z t,fun _ e=>nomatch e⟩
 |int i=>
  obtain⟨t,rfl⟩:=r;cases (show T="int" from ty);exact⟨typeIs_int s i t,fun _ e=>nomatch e⟩
 |ref p=>
  cases r;rcases ty with⟨rfl,xs,hq⟩ |⟨rfl,o,hk,hc,hd⟩ |⟨rfl,hk⟩ |⟨rfl,S,n,hk⟩
  ·obtain⟨b7,_,pl,_⟩:=I.list hq;refine⟨pl.isList.typeIs,fun a e=>?_⟩;cases e;obtain⟨o,n,e,c,hd,_⟩:=pl;exact⟨o,e,hd⟩
  ·refine⟨⟨o,I.kIn p o hk,hc⟩,fun a e=>?_⟩;cases e;exact⟨o,I.kIn _ o hk,hd⟩
  ·have z:∃o,s.heap.get? p=?R/\o.ExactDict:=by
    rcases hk with⟨kvs,hk⟩ |⟨kvs,hk⟩
    ·obtain⟨_,_,_,_,o,_,_,e,ex,_⟩:=I.hok p _ hk;exact⟨o,e,ex⟩
    ·obtain⟨_,_,_,_,o,_,_,e,ex,_⟩:=I.hok p _ hk;exact⟨o,e,ex⟩
   obtain⟨o,e,ex⟩:=z;refine⟨⟨o,e,ex.1⟩,fun a e2=>?_⟩;cases e2;exact⟨o,e,ex.2.1⟩
  ·obtain⟨o,_,_,_,e,ex,_⟩:=I.hok p _ hk;refine⟨⟨o,e,ex.1⟩,fun a e2=>?_⟩;cases e2;exact⟨o,e,ex.2.1⟩
 |_=>exact False.elim ty
def tBM0 (K:Fg9)(T:String)(r:V->M V->Hp->VK->Prop)(to:TE):TE:=fun σ H Q=>to σ H fun x H1=>tyV K T x H1/\r x [] H1 Q
def tBM (K:Fg9)(T:String)(r:V->M V->Hp->VK->Prop)(to:TE)(t:TA):TE:=fun σ H Q=>to σ H fun x H1=>tyV K T x H1/\t σ H1 fun xs H2=>r x xs H2 Q
variable {es:M Ag}{to:TE}{t:TA}{name:Str}{id:String}{r:V->M V->Hp->VK->Prop}
def V2x (pa:PlainAttrs T)(slot:Slot T name id)(jx:typeOf (.builtin id)=pure (.type "method_descriptor"))(hm:MtR X id r)(ho:PE X o to)
  (eL:attributeBase o name X.env (eval o X.env)=eval o X.env:=by rfl) (eG:(apos.endLine==bK.line)=true:=by rfl):PE X (.Call (.Attribute o name apos) [] [] bK) (tBM0 X.K T r to):=by
 intro ah s σ H Q I h;refine wpAny_Call_method0_late eL eG (B3 (ho ah s σ H _ I h) fun v s1 bF=>?_);obtain⟨x,H1,I1,r1,ty,q1⟩:=bF;obtain⟨h1,h2⟩:=W0p I1 r1 ty;exact⟨T,id,pa,slot,jx,h1,h2,cD rfl (PySem.evalArgs_none (hm ah s1 σ H1 x [] v [] Q I1 r1 .nil q1))⟩
def Z7g (pa:PlainAttrs T)(slot:Slot T name id)(jx:typeOf (.builtin id)=pure (.type "method_descriptor"))(hm:MtR X id r)(ho:PE X o to)(ha:PA X (e::es) t)
  (eL:attributeBase o name X.env (eval o X.env)=eval o X.env:=by rfl)
  (iN:((backTo bK (starEach (e::es) X.env)).all (fun x=>!x.1)&&(backToKw bK (keywordEach [] X.env)).all (fun x=>x.1.isSome)
  &&decide ((e::es).length+([]:M Keyword).length+(if ([]:M Keyword).isEmpty then 0 else 1)<30))=true:=by rfl)
  (eG:(apos.endLine==bK.line)=true:=by rfl) (hs:?I:=by rfl) (fg:(backTo bK (starEach es X.env)).any (·.1)=false:=by rfl):
  PE X (.Call (.Attribute o name apos) (e::es) [] bK) (tBM X.K T r to t):=by
 intro ah s σ H Q I h;refine wpAny_Call_method_late eL iN eG rfl (B3 (ho ah s σ H _ I h) fun v s1 bF=>?_);obtain⟨x,H1,I1,r1,ty,q1⟩:=bF;obtain⟨h1,h2⟩:=W0p I1 r1 ty;refine⟨T,id,pa,slot,jx,h1,h2,?_⟩;have hA:=ha bK ah s1 σ H1 _ I1 q1;rw[hs]at hA ⊢;refine cD (by show(false||(backTo bK (starEach es X.env)).any (·.1))=false;rw[fg]<;>rfl) (cJ ?_);exact B3 hA fun us s2 ⟨vs,H2,I2,r2,q2⟩=>hm ah s2 σ H2 x vs v us Q I2 r1 r2 q2
end
def MtM (X:Cx)(id:String)(r:V->M V->Hp->VK->Prop):Prop:=
 ∀(ah:Pn9) (s:Ae) (σ:St) (H:Hp) (x:V) (xs:M V) (v:Ad) (us:M Ad) (Q:VK),?C->C9 x v->C3 xs us->r x xs H Q ->
  wpAny ?D X.A (call (.builtin id) (v::us)) (EP X ah σ Q) X.xe s
theorem C3.one:∀{x:V}{us:M Ad},C3 [x] us->∃u,us=[u]/\C9 x u:=by
 intro x us r;cases r with
 |cons r t=>cases t;exact⟨_,rfl,r⟩
theorem C3.two:∀{x y:V}{us:M Ad},C3 [x,y] us->∃u v,us=[u,v]/\C9 x u/\C9 y v:=by
 intro x y us r;cases r with
 |cons r t=>
  cases t with
  |cons q t=>cases t;exact⟨_,_,rfl,r,q⟩
theorem C3.zero:∀{us:M Ad},C3 [] us->us=[]
 |_,.nil=>rfl
theorem C3.dropLast (h:C3 xs us):C3 xs.dropLast us.dropLast:=by
 induction h with
 |nil=>exact .nil
 |cons r t ih=>
  cases t with
  |nil=>exact .nil
  |cons q t'=>exact .cons r ih
theorem C3.rep (h:C3 xs us):∀k:Nat,C3 (List.replicate k xs).flatten (List.replicate k us).flatten
 |0=>.nil
 |k+1=>by
  rw[cI,cI,cT,cT];exact C3.append h (C3.rep h k)
theorem W7b (l:M α):l.eraseIdx (l.length-1)=l.dropLast:=by grind [List.eraseIdx_cons_succ]
theorem W7i (b7:M Ad):∀(k:Nat) (cN:M Ad),
  List.foldl (fun x1 x2=>x1++x2) cN.toArray (List.replicate k b7.toArray)=(cN++(List.replicate k b7).flatten).toArray:=by intro k;induction k<;>grind [List.replicate,cI,cT,bN,fX]
section
variable {σ:St}
def A1.lset {f:Array Ad->Array Ad}  (I:?C)(hH:H l=some (.lst xs))
  (e:s.heap.get? l=some {cls:=.type "list",data:=.seq b7.toArray n}) (hf:f b7.toArray=its'.toArray) (hv:C3 ys its') (hz:ys.length<=sizeLine):
  A1 X ah σ (B0 H l (.lst ys)) {s with heap:=s.heap.update l (Obj.mapSeq f),toks:=t'}:=by
 have q:=PySem.IsL.update e f;rw[hf]at q;refine I.write (x:=l) (e:=l) (by rw[hH];exact trivial) (.inl rfl) (fun b' u hb hu=>(cC s.heap (Obj.mapSeq f) (bY hb)).trans hu) ⟨_,q⟩ ?_;exact⟨hz,its',_,hv,q⟩
def A1.lnew (I:?C)(hv:C3 ys b7)(hz:ys.length<=sizeLine):
  A1 X ah σ (B0 H s.heap.objs.size (.lst ys)) {s with heap:=s.heap.push {cls:=.type "list",data:=.seq b7.toArray},toks:=t'}:=
 I.laid (fun _ _ q=>ae _ q) (am _) ⟨hz,b7,0,hv,aE _ rfl⟩
def A1.fresh (I:?C):H s.heap.objs.size=none:=I.hok.fresh (am _)
def A1.lstM (I:?C)(hH:H l=some (.lst xs)):xs.length<=sizeLine/\∃(b7:M Ad) (n:Nat),C3 xs b7/\xs.length=b7.length/\s.heap.get? l=some {cls:=.type "list",data:=.seq b7.toArray n}:=by
 obtain⟨z,b7,n,r,e⟩:=I.hok l _ hH;exact⟨z,b7,n,r,r.length,e⟩
def Y6s (h:n<=sizeLine):Builtin.List.listTooLong n=false:=by
 unfold Builtin.List.listTooLong;exact aY (?A)
end
def V4v:V->M V->Hp->VK->Prop:=fun x vs H Q=>∃l xs y,x=.ref l/\vs=[y]/\H l=some (.lst xs)/\xs.length<sizeLine/\Q .non (B0 H l (.lst (xs++[y])))
def V0y:MtM X "list.append" V4v:=by
 intro ah s σ H x vs v us Q I rx rv h;obtain⟨l,xs,y,rfl,rfl,hH,hz,q⟩:=h;cases rx;obtain⟨u,rfl,ru⟩:=rv.one;obtain⟨z,b7,n,r,hl,e⟩:=I.lstM hH;refine ki F.slot_list_append ⟨_,e,rfl⟩ F.entry_list_append (F.args_list_append_2 _ _) (PySem.list_append l b7.toArray n u (by rw[aF];omega)) ⟨e,?_⟩;refine⟨.non,_,I.lset (its':=b7++[u]) hH e ?H (r.append (.cons ru .nil)) ?_,rfl,q⟩;rw[aq,bt];omega
def V4x:V->M V->Hp->VK->Prop:=fun x vs H Q=>∃l b xs zs,x=.ref l/\vs=[.ref b]/\H l=some (.lst xs)/\H b=some (.lst zs)/\xs.length+zs.length<=sizeLine/\Q .non (B0 H l (.lst (xs++zs)))
def V0z:MtM X "list.extend" V4x:=by
 intro ah s σ H x vs v us Q I rx rv h;obtain⟨l,b,xs,zs,rfl,rfl,hH,hB,hz,q⟩:=h;cases rx;obtain⟨u,rfl,ru⟩:=rv.one;cases ru;obtain⟨z,b7,n,r,hl,e⟩:=I.lstM hH;obtain⟨z2,cr,n2,r2,gq,e2⟩:=I.lstM hB;have hsz:b7.toArray.size+cr.toArray.size<=sizeLine:=by rw[aF,aF];omega
 have k6:¬ (!b7.toArray.isEmpty&&Builtin.List.listTooLong (b7.toArray.size+cr.toArray.size))=true:=by
  rw[Y6s hsz,kD];exact br
 refine ki F.slot_list_extend ⟨_,e,rfl⟩ F.entry_list_extend (F.args_list_extend_2 _ _)
  (AutoSeq1.list_extend_list_list_0 l b7.toArray n b cr.toArray n2 k6 (by rw[aF];omega) (?A)) ⟨e,e2,?_⟩
 refine⟨.non,_,I.lset (its':=b7++cr) hH e ?H (r.append r2) ?_,rfl,q⟩;rw[aq];omega
def rPop:V->M V->Hp->VK->Prop:=fun x vs H Q=>∃l xs y,x=.ref l/\vs=[]/\H l=some (.lst xs)/\xs[xs.length-1]?=some y/\Q y (B0 H l (.lst xs.dropLast))
def V1b:MtM X "list.pop" rPop:=by
 intro ah s σ H x vs v us Q I rx rv h;obtain⟨l,xs,y,rfl,rfl,hH,hy,q⟩:=h;cases rx;have vT:=rv.zero;subst vT;obtain⟨z,b7,n,r,hl,e⟩:=I.lstM hH;obtain⟨u,hu,ru⟩:=r.get hy;have vO:b7.toArray[b7.toArray.size-1]?=some u:=by
  show b7.toArray[b7.length-1]?=some u;rw[<-ph,<-hl];exact hu
 refine ki F.slot_list_pop ⟨_,e,rfl⟩ F.entry_list_pop (F.args_list_pop_1 _) (MeetsSeq.list_pop_last l b7.toArray n u vO (by rw[aF];omega)) ⟨e,?_⟩;refine⟨y,_,I.lset (its':=b7.dropLast) hH e ?_ r.dropLast ?_,ru,q⟩
 ·show b7.toArray.eraseIdxIfInBounds (b7.toArray.size-1)=b7.dropLast.toArray;rw[aF,List.eraseIdxIfInBounds_toArray,W7b]
 ·rw[qi];omega
def rCat:R2:=fun x y H Q=>∃l b xs zs,x=.ref l/\y=.ref b/\H l=some (.lst xs)/\H b=some (.lst zs)/\xs.length+zs.length<=sizeLine/\∀p,H p=none->Q (.ref p) (B0 H p (.lst (xs++zs)))
def V2c:O9 X (binaryOp .Add) rCat:=by
 intro ah s σ H x y v u Q I rx ry h;obtain⟨l,b,xs,zs,rfl,rfl,hH,hB,hz,q⟩:=h;cases rx;cases ry;obtain⟨z,b7,n,r,hl,e⟩:=I.lstM hH;obtain⟨z2,cr,n2,r2,gq,e2⟩:=I.lstM hB;refine PySem.P.add_list e e2 ?_ (by rw[aF,aF];omega);have ea:b7.toArray++cr.toArray=(b7++cr).toArray:=by simp
 rw[ea];exact⟨.ref _,_,I.lnew (t':=s.toks) (r.append r2) (by rw[aq];omega),rfl,q _ I.fresh⟩
def rRep:R2:=fun x y H Q=>∃l k xs,x=.ref l/\y=.int k/\H l=some (.lst xs)/\-(2^63)<=k/\k<2^63/\xs.length*k.toNat<=sizeLine /\
 ∀p,H p=none->Q (.ref p) (B0 H p (.lst (List.replicate k.toNat xs).flatten))
def W9p (xs:M α)(k:Nat):(List.replicate k xs).flatten.length=k*xs.length:=by simp[cI,cT,aq,iT,Nat.add_comm]<;>omega
def V2o:O9 X (binaryOp .Mult) rRep:=by
 intro ah s σ H x y v u Q I rx ry h;obtain⟨l,k,xs,rfl,rfl,hH,h1,h2,hz,q⟩:=h;cases rx;obtain⟨t,rfl⟩:=ry;obtain⟨z,b7,n,r,hl,e⟩:=I.lstM hH;have bZ:b7.toArray.size*k.toNat<=sizeLine:=by rw[aF,<-hl];exact hz
 have rY:¬ b7.toArray.size*k.toNat > (2^63-1) / 8:=by
  have:(sizeLine:Nat)<=(2^63-1) / 8:=?G
  omega
 have rN:¬ (!Builtin.List.listFitsIndex k)=true:=by
  rw[fitsIndex_both h1 h2];exact br
 have k6:¬ Builtin.List.listTooLong (b7.toArray.size*k.toNat)=true:=by
  rw[Y6s bZ];exact br
 have kT:List.foldl (fun x1 x2=>x1++x2) #[] (List.replicate (if b7.toArray.isEmpty=true then 0 else k.toNat) b7.toArray)=(List.replicate k.toNat b7).flatten.toArray:=by
  have f0:∀m:Nat,List.foldl (fun x1 x2=>x1++x2) #[] (List.replicate m b7.toArray)=(List.replicate m b7).flatten.toArray:=fun m=>by
   have:=W7i b7 m [];rw[cq]at this;exact this
  rw[f0];cases b7 with
  |nil=>simp
  |cons a r'=>rw[aK ?H]
 refine wpAny_binaryOp_repeat_ref (T:="list") (U:="int") (?G) ⟨_,e,rfl⟩ (fun s'=>typeIs_int s' k t) noFill_list_mul F.fills_int_mul F.slot_int_rmul repeat_list F.slot_int_index.lookup
  (ki F.slot_int_rmul (typeIs_int s k t) F.entry_int_rmul (F.args_int_rmul_2 _ _) (int___rmul___int_list k t l b7.toArray n)
   ⟨e,rfl,⟨_,e,rfl⟩,ki F.slot_list_mul ⟨_,e,rfl⟩ F.entry_list_mul (F.args_list_mul_2 _ _) (AutoListH.list___mul___list_int_3 l b7.toArray n k t rN rY k6) ⟨e,?_⟩⟩)
 rw[kT];exact⟨.ref _,_,I.lnew (t':=s.toks) (r.rep k.toNat) (by rw[W9p,nD];exact hz),rfl,q _ I.fresh⟩
section
variable [DecidableEq κ]
def U9 (kvs:M (κ×V))(k:κ):Ac V:=(kvs.find? fun kv=>decide (kv.1=k)).map (·.2)
def T0 (kvs:M (κ×V))(k:κ)(v:V):M (κ×V):=
 if (kvs.any fun kv=>decide (kv.1=k))=true then kvs.map (fun kv=>if kv.1=k then(kv.1,v)else kv)else kvs++[(k,v)]
def Z2w {p:κ×V}{r:M (κ×V)}{k:κ}(e:p.1=k):U9 (p::r) k=some p.2:=by simp[U9,bA,e]
def Z2v {p:κ×V}{r:M (κ×V)}{k:κ}(e:¬ p.1=k):U9 (p::r) k=U9 r k:=by simp[U9,bA,e]
theorem W0t (k:κ):∀kvs:M (κ×V),(kvs.any fun kv=>decide (kv.1=k))=(U9 kvs k).isSome
 |[]=>rfl
 |p::r=>by
  rw[gY]
  by_cases e:p.1=k
  ·simp only[Z2w e,bP e,Bool.true_or,Option.isSome_some]
  ·rw[Z2v e,aY e,Bool.false_or];exact W0t k r
theorem Q8n (kvs:M (κ×V))(k:κ)(v:V):(T0 kvs k v).length<=kvs.length+1:=by grind [T0,ag,aq,aH,bz]
theorem Q2z.isSome_eq {o:Ac V}{u:Ac Ad}(r:Q2z o u):o.isSome=u.isSome:=by
 cases o with
 |none=>cases u with
  |none=>rfl
  |some _=>exact(show False from r).elim
 |some _=>cases u with
  |none=>exact(show False from r).elim
  |some _=>rfl
theorem Q2z.getD {o:Ac V}{u:Ac Ad}{d:V}{d':Ad}(r:Q2z o u)(rd:C9 d d'):C9 (o.getD d) (u.getD d'):=by
 cases o with
 |none=>cases u with
  |none=>exact rd
  |some _=>exact(show False from r).elim
 |some _=>cases u with
  |none=>exact(show False from r).elim
  |some _=>exact r
theorem KV.val {kvs:M (κ×V)}{vs:M (κ×Ad)}(r:KV kvs vs)(k:κ):Q2z (U9 kvs k) (valueAt vs k):=by
 unfold KV at r
 induction r with
 |nil=>exact True.intro
 |@cons p q ps qs h t ih=>
  obtain⟨h1,h2⟩:=h
  by_cases e:p.1=k
  ·have e':q.1=k:=h1.symm.trans e;have b:valueAt (q::qs) k=some q.2:=by simp[valueAt,bA,e']
   rw[Z2w e,b];exact h2
  ·have e':¬ q.1=k:=fun z=>e (h1.trans z);have b:valueAt (q::qs) k=valueAt qs k:=by simp[valueAt,bA,e']
   rw[Z2v e,b];exact ih
theorem KV.any {kvs:M (κ×V)}{vs:M (κ×Ad)}(r:KV kvs vs)(k:κ):(kvs.any fun kv=>decide (kv.1=k))=vs.any fun kv=>decide (kv.1=k):=by induction r<;>grind [KV,gY]
theorem KV.repl {kvs:M (κ×V)}{vs:M (κ×Ad)}(r:KV kvs vs)(k:κ)   (ry:C9 y u):
  KV (kvs.map fun kv=>if kv.1=k then(kv.1,y)else kv) (vs.map fun kv=>if kv.1=k then(kv.1,u)else kv):=by
 unfold KV at r ⊢
 induction r with
 |nil=>exact .nil
 |@cons p q ps qs h t ih=>
  rw[ax,ax];refine .cons ?_ ih;obtain⟨h1,h2⟩:=h
  by_cases e:p.1=k
  ·rw[aP e,aP (h1.symm.trans e)];exact⟨h1,ry⟩
  ·rw[aK e,aK (fun z=>e (h1.trans z))];exact⟨h1,h2⟩
def KV.put {kvs:M (κ×V)}{vs:M (κ×Ad)}(r:KV kvs vs)(k:κ)   (ry:C9 y u):KV (T0 kvs k y) (stored vs k u):=by
 unfold T0 stored;rw[r.any k]
 by_cases e:(vs.any fun kv=>decide (kv.1=k))=true
 ·rw[aP e,aP e];exact r.repl k ry
 ·rw[aK e,aK e];exact Paired.snoc r ⟨rfl,ry⟩
def KV.length {kvs:M (κ×V)}{vs:M (κ×Ad)}(r:KV kvs vs):kvs.length=vs.length:=jH r
end
theorem Q4k {w:Ak}{k:B8}  (r:C9 (kV k) u):(N6 P w).is k u=true:=by
 cases k with
 |inl i=>obtain⟨t,e⟩:=(show ∃t,u=Value.int i t from r);subst e;exact V0n P w i t
 |inr x=>obtain⟨t,e⟩:=(show ∃t,u=Value.str x t from r);subst e;exact V0o P w x t
theorem Y5c {w:Ak}:∀{ks:M B8}{us:M Ad},C3 (ks.map kV) us->ItemsAre (N6 P w) ks us
 |[],_,r=>by rw[cw]at r;cases r;exact .nil
 |k::ks,_,r=>by
  rw[ax]at r;cases r with
  |cons h t=>exact .cons (Q4k h) (Y5c t)
abbrev KT (H:Hp):M (M B8×V)->M (M B8×Af×Ad)->Prop:=Paired fun p q=>p.1=q.1/\H q.2.1=some (.tup (p.1.map kV))/\C9 p.2 q.2.2
theorem KT.val {xs:M (M B8×Af×Ad)}(r:KT H kvs xs)(k:M B8):Q2z (U9 kvs k) ((atKey xs k).map (·.2)):=by
 induction r with
 |nil=>exact True.intro
 |@cons p q ps qs h t ih=>
  obtain⟨h1,_,h2⟩:=h
  by_cases e:p.1=k
  ·have e':q.1=k:=h1.symm.trans e;have b:atKey (q::qs) k=some q.2:=by simp[atKey,bA,e']
   rw[Z2w e,b];exact h2
  ·have e':¬ q.1=k:=fun z=>e (h1.trans z);have b:atKey (q::qs) k=atKey qs k:=by simp[atKey,bA,e']
   rw[Z2v e,b];exact ih
theorem KT.repl {xs:M (M B8×Af×Ad)}(r:KT H kvs xs)(k:M B8)   (ry:C9 y u):
  KT H (kvs.map fun kv=>if kv.1=k then(kv.1,y)else kv) (xs.map (putAt k u)):=by
 induction r with
 |nil=>exact .nil
 |@cons p q ps qs h t ih=>
  rw[ax,ax];refine .cons ?_ ih;obtain⟨h1,h2,h3⟩:=h;unfold putAt
  by_cases e:p.1=k
  ·rw[aP e,aP (h1.symm.trans e)];exact⟨h1,h2,ry⟩
  ·rw[aK e,aK (fun z=>e (h1.trans z))];exact⟨h1,h2,h3⟩
def KT.put {xs:M (M B8×Af×Ad)}(r:KT H kvs xs)(k:M B8){b:Af}   (hb:H b=some (.tup (k.map kV)))(ry:C9 y u):
  KT H (T0 kvs k y) (storedH xs k b u):=by
 have e:(kvs.any fun kv=>decide (kv.1=k))=(atKey xs k).isSome:=by
  rw[W0t,(r.val k).isSome_eq,yn]
 unfold T0 storedH;rw[e]
 by_cases q:(atKey xs k).isSome=true
 ·rw[aP q,aP q];exact r.repl k ry
 ·rw[aK q,aK q];exact Paired.snoc r ⟨rfl,hb,ry⟩
def KT.keeps {xs:M (M B8×Af×Ad)}(r:KT H kvs xs)(ht:∀b ys,H b=some (.tup ys)->H' b=some (.tup ys)):KT H' kvs xs:=
 Y1z r fun _ _ z=>⟨z.1,ht _ _ z.2.1,z.2.2⟩
section
variable {w:Ak}
def Y7w {u:HO}(ok:J8 P w H h)(e:Rd H a u):N1 P w H h a u:=e.ok ok
def Q6k {kvs:M (B8×V)}(ok:J8 P w H h)(e:Rd H a (.dK kvs)):kvs.length<=sizeLine/\(a==sysModules)=false/\∃vs,KV kvs vs/\h.DictOf (N6 P w) a vs:=
 show N1 P w H h a (.dK kvs)from Y7w ok e
def Z0o {kvs:M (B8×V)}(ok:J8 P w H h)(e:H a=some (.dK kvs)):kvs.length<=sizeLine/\(a==sysModules)=false/\∃vs,KV kvs vs/\h.DictOf (N6 P w) a vs:=Q6k ok (.inl e)
def Q6q {ks:M B8}(ok:J8 P w H h)(e:H a=some (.tup (ks.map kV))):(tupleKind (N6 P w)).is h ks a:=by
 obtain⟨_,b7,r,o,h1,h2,n,h3⟩:=(show N1 P w H h a (.tup (ks.map kV))from ok a _ e)
 exact⟨o,b7.toArray,n,h1,h2,h3,by simpa using Y5c r⟩
def Q6l (ok:J8 P w H h)(e:Rd H a (.dT kvs)):kvs.length<=sizeLine/\(a==sysModules)=false /\
  ∃xs,KT H kvs xs/\h.DictOfH (tupleKind (N6 P w)) a xs:=by
 obtain⟨z,y,xs,r,o,es,ep,h1,h2,h3,h4,h5⟩:=(show N1 P w H h a (.dT kvs)from Y7w ok e)
 refine⟨z,y,xs,r,o,es,ep,h1,h2,h3,h4,fun x hx=>?_,h5⟩;have all:∀{l:M (M B8×V)}{m:M (M B8×Af×Ad)},KT H l m->∀x∈m,(tupleKind (N6 P w)).is h x.1 x.2.1:=by
  intro l m q
  induction q with
  |nil=>intro x hx;exact nomatch hx
  |@cons p q ps qs hq t ih=>
   intro x hx;rcases au.mp hx with e |hx
   ·subst e;exact Q6q ok (by rw[<-hq.1];exact hq.2.1)
   ·exact ih x hx
 exact all r x hx
def Y4b (ok:J8 P w H h)(e:H a=some (.dT kvs)):kvs.length<=sizeLine/\(a==sysModules)=false /\
  ∃xs,KT H kvs xs/\h.DictOfH (tupleKind (N6 P w)) a xs:=Q6l ok (.inl e)
end
def Y5 (H:Hp)(a:Af)(y:V)(r:Ac V):Prop:=
 (∃kvs k,Rd H a (.dK kvs)/\y=kV k/\r=U9 kvs k)\/∃kvs k b,Rd H a (.dT kvs)/\y=.ref b/\H b=some (.tup (k.map kV))/\r=U9 kvs k
def Q4a (H:Hp)(a:Af)(y v:V)(H':Hp):Prop:=
 (∃kvs k,H a=some (.dK kvs)/\y=kV k/\kvs.length<sizeLine/\H'=B0 H a (.dK (T0 kvs k v))) \/
 ∃kvs k b,H a=some (.dT kvs)/\y=.ref b/\H b=some (.tup (k.map kV))/\kvs.length<sizeLine/\H'=B0 H a (.dT (T0 kvs k v))
def Y5.k {kvs:M (B8×V)}{k:B8}(e:H a=some (.dK kvs)):Y5 H a (kV k) (U9 kvs k):=.inl ⟨kvs,k,.inl e,rfl,rfl⟩
def Y5.t {b:Af}  {k:M B8}(e:H a=some (.dT kvs))(eb:H b=some (.tup (k.map kV))):Y5 H a (.ref b) (U9 kvs k):=.inr ⟨kvs,k,b,.inl e,rfl,eb,rfl⟩
def Q4a.k {kvs:M (B8×V)}{k:B8}{v:V}(e:H a=some (.dK kvs))(hl:kvs.length<sizeLine):Q4a H a (kV k) v (B0 H a (.dK (T0 kvs k v))):=.inl ⟨kvs,k,e,rfl,hl,rfl⟩
def Q4a.t {b:Af}  {k:M B8}{v:V}(e:H a=some (.dT kvs))(eb:H b=some (.tup (k.map kV)))(hl:kvs.length<sizeLine):
  Q4a H a (.ref b) v (B0 H a (.dT (T0 kvs k v))):=.inr ⟨kvs,k,b,e,rfl,eb,hl,rfl⟩
section
variable {σ:St}{v:V}{r:Ad}{o:Ac V}
def A1.big (I:?C):sysModules<s.heap.objs.size:=by
 have h:mainGlobals<s.heap.objs.size:=(I.mod.glob.keeps I.bk).lt;exact Nat.lt_trans (?G) h
def W6n (hu:A.units+1<cLine)(I:?C)(g:Y5 H a y (some v))(ry:C9 y u)(h:∀w' s',A1 X ah σ H s'->C9 v w'->Q w' s'):
  wpAny ?D A (getItem (.ref a) u) Q E s:=by
 rcases g with⟨kvs,k,e,ey,l⟩ |⟨kvs,k,b,e,ey,eb,l⟩
 ·subst ey;obtain⟨z,hd,vs,rel,dd⟩:=Q6k I.hok e;obtain⟨w',hw,iG⟩:=Y2a (v:=v) (o:=valueAt vs k) (by rw[l];exact rel.val k);exact wpAny_getItem_of (Q4k ry) dd.mapOf hw (h w' _ (I.tok _) iG)
 ·subst ey;cases (show u=Value.ref b from ry);obtain⟨z,hd,xs,rel,dd⟩:=Q6l I.hok e;obtain⟨w',hw,iG⟩:=Y2a (v:=v) (o:=(atKey xs k).map (·.2)) (by rw[l];exact rel.val k);obtain⟨p,hp,pM⟩:=Option.map_eq_some_iff.mp hw;refine wpAny_getItem_heap (fH hu) (Q6q I.hok eb) dd hp ?_;rw[pM];exact h w' _ (I.tok _) iG
def W6o (hu:A.units+1<cLine)(I:?C)(g:Y5 H a y o)(ry:C9 y u)(h:∀s',A1 X ah σ H s'->Q (.bool (!o.isSome)) s'):
  wpAny ?D A (compareOp .NotIn u (.ref a)) Q E s:=by
 rcases g with⟨kvs,k,e,ey,l⟩ |⟨kvs,k,b,e,ey,eb,l⟩
 ·subst ey;obtain⟨z,hd,vs,rel,dd⟩:=Q6k I.hok e;refine wpAny_notIn_of (Q4k ry) hd dd.mapOf ?_;rw[<-(rel.val k).isSome_eq,<-l];exact h _ (I.tok _)
 ·subst ey;cases (show u=Value.ref b from ry);obtain⟨z,hd,xs,rel,dd⟩:=Q6l I.hok e;refine wpAny_notIn_heap (fH hu) (Q6q I.hok eb) hd dd ?_;have q:=(rel.val k).isSome_eq;rw[yn]at q;rw[<-q,<-l];exact h _ (I.tok _)
def Q5g {ob:HO}(I:?C)(mu:Mut (H a))(hs:Heap.SameBut a s.heap h')(he:∃q,h'.get? a=some q)(new:N1 X.prog X.w (B0 H a ob) h' a ob):
  A1 X ah σ (B0 H a ob) {s with heap:=h',toks:=t'}:=
 I.write (x:=a) (e:=a) mu (.inl rfl) (fun b q hb z=>(hs.2 b hb).trans z) he new
def Z5c {w:Ak}   {kvs:M (B8×V)}{vs:M (B8×Ad)}(z:kvs.length<=sizeLine)(hd:(a==sysModules)=false)(rel:KV kvs vs)(dd:h'.DictOf (N6 P w) a vs):
  N1 P w H' h' a (.dK kvs):=⟨z,hd,vs,rel,dd⟩
def W6p {Q:Unit->Ae->Prop}(hu:A.units+1<cLine)(I:?C)(g:Q4a H a y v H')(ry:C9 y u)(rv:C9 v r)(h:∀s',A1 X ah σ H' s'->Q () s'):
  wpAny ?D A (setItem (.ref a) u r) Q E s:=by
 rcases g with⟨kvs,k,e,ey,l,eH⟩ |⟨kvs,k,b,e,ey,eb,l,eH⟩
 ·subst ey eH;obtain⟨z,hd,vs,rel,dd⟩:=Z0o I.hok e;have hz:vs.length<=sizeLine:=by rw[<-rel.length];exact z
  have hl:(T0 kvs k v).length<=sizeLine:=by have:=Q8n kvs k v;omega
  refine wpAny_setItem_pairs (hsz:=hz) (Q4k ry) dd fun h' jD hs=>h _ ?_;have he:∃q,h'.get? a=some q:=let ⟨q,_,_,hq,_⟩:=jD;⟨q,hq⟩;exact Q5g I (by rw[e];exact True.intro) hs he (Z5c hl hd (rel.put k rv) jD)
 ·subst ey eH;cases (show u=Value.ref b from ry);obtain⟨z,hd,xs,rel,dd⟩:=Y4b I.hok e;have hz:xs.length<=sizeLine:=by rw[<-jH rel];exact z
  have hl:(T0 kvs k v).length<=sizeLine:=by have:=Q8n kvs k v;omega
  refine wpAny_setItem_heap (hsz:=hz) (fH hu) (Q6q I.hok eb) dd fun h' jD hs=>h _ ?_;obtain⟨q,es,ep,hq,h2,h3,h4,_,h5⟩:=jD;refine Q5g I (by rw[e];exact True.intro) hs ⟨q,hq⟩ ⟨hl,hd,_,(rel.put k eb rv).keeps fun c ys ec=>?_,q,es,ep,hq,h2,h3,h4,h5⟩;rw[B2 (Q0x ec e (fun z=>nomatch z))];exact ec
end
def Q7t (i:Ag):Prop:=∀ov iv,subscripted i false ov iv=operate [ov,iv] (getItem ov iv)
def V8y {w:Ak}    {env:Env}{value slice:Ag}  {id:String} 
  (hl:typeLookup (.type T) "__getitem__"=pure (some (.builtin id))) (hs:Q7t slice)
  (h:wpAny (model prog w) A (eval value env) (fun o s₁=>wpAny (model prog w) A (eval slice env) (fun i s₂=>s₂.TypeIs o T/\wpAny (model prog w) A (getItem o i) Q E s₂) E s₁) E s):
  wpAny (model prog w) A (eval (.Subscript value slice pos) env) Q E s:=by
 refine Subscript_ (aS h (fun o s₁ h₁=>aS h₁ (fun i s₂ h₂=>?_) fun _ _ x=>x) fun _ _ x=>x);obtain⟨hT,h₂⟩:=h₂;unfold subscriptTail;refine af ?_;rw[getitemInPython_of_ne hT.not_modules];refine af (gU hT hl ?_);have fin:wpAny (model prog w) A (subscripted slice false o i) (fun r s₃=>wpAny (model prog w) A (letTemporaryGo value o r>>=fun _=>pure r) Q E s₃) E s₂:=by
  rw[hs o i];exact wpAny_operating (aS h₂ (fun r s₃ h₃=>af (wpAny_letTemporaryGo (ao h₃))) fun _ _ x=>x)
 first
  |exact ao (af fin)
  |exact af (ao (af fin))
  |exact af fin
def W6s {σ:St}     {o:Ac V}(I:?C)(g:Y5 H a y o):s.TypeIs (.ref a) "dict":=by
 rcases g with⟨kvs,k,e,_,_⟩ |⟨kvs,k,b,e,_,_,_⟩
 ·obtain⟨_,_,vs,_,dd⟩:=Q6k I.hok e;exact dd.typeIs
 ·obtain⟨_,_,xs,_,dd⟩:=Q6l I.hok e;exact dd.typeIs
def V9c (td ty:TE):TE:=fun σ H Q=>td σ H fun x H1=>ty σ H1 fun y H2=>∃a v,x=.ref a/\Y5 H2 a y (some v)/\Q v H2
def V9f (ty td:TE):TE:=fun σ H Q=>ty σ H fun y H1=>td σ H1 fun x H2=>∃a o,x=.ref a/\Y5 H2 a y o/\Q (.bl (!o.isSome)) H2
def V6r (td ty tv:TE):TS:=fun D σ H=>tv σ H fun v H1=>td σ H1 fun x H2=>ty σ H2 fun y H3=>∃a H4,x=.ref a/\Q4a H3 a y v H4/\D.nx σ H4
section
variable {i value:Ag}{tv:TE}
def Z7i (hu:X.A.units+1<cLine)(ho:PE X o td)(hi:PE X i ty)(hs:Q7t i):PE X (.Subscript o i pos) (V9c td ty):=by
 intro ah s σ H Q I h;refine V8y PySem.F.slot_dict_getitem.lookup hs (B3 (ho ah s σ H _ I h) fun u s1 ⟨x,H1,I1,rx,q1⟩=>B3 (hi ah s1 σ H1 _ I1 q1) fun iv s2 bF=>?_);obtain⟨y,H2,I2,ry,a,v,ex,g,q2⟩:=bF;subst ex;obtain rfl:u=Value.ref a:=rx;exact⟨W6s I2 g,W6n hu I2 g ry fun w' s3 I3 iG=>⟨v,H2,I3,iG,q2⟩⟩
def Y7j (hu:X.A.units+1<cLine)(hi:PE X i ty)(ho:PE X o td):PC X .NotIn i o (V9f ty td):=by
 intro ah s σ H Q I h;refine B3 (hi ah s σ H _ I h) fun iv s1 ⟨y,H1,I1,ry,q1⟩=>B3 (ho ah s1 σ H1 _ I1 q1) fun u s2 bF=>?_;obtain⟨x,H2,I2,rx,a,ov,ex,g,q2⟩:=bF;subst ex;obtain rfl:u=Value.ref a:=rx;exact W6o hu I2 g ry fun s3 I3=>⟨.bl (!ov.isSome),H2,I3,rfl,q2⟩
def Y7q (hu:X.A.units+1<cLine)(ho:PE X o td)(hi:PE X i ty)(hv:PE X value tv)(hs:swapsWith value (some (.Subscript o i cg)) pos.line X.env=pure false):
  PS X (.Assign [.Subscript o i cg] value pos) (V6r td ty tv):=by
 intro ah s σ H D I h;refine wpAny_Assign_Subscript (B3 (hv ah s σ H _ I h) fun r s1 ⟨v,H1,I1,rv,q1⟩=>B3 (ho ah s1 σ H1 _ I1 q1) fun u s2 ⟨x,H2,I2,rx,q2⟩=>B3 (hi ah s2 σ H2 _ I2 q2) fun iv s3 bF=>?_) hs;obtain⟨y,H3,I3,ry,a,H4,ex,g,q3⟩:=bF;subst ex;obtain rfl:u=Value.ref a:=rx;exact W6p hu I3 g ry rv fun s4 I4=>⟨σ,H4,I4,q3⟩
end
def Y3z {w:Ak}  (h:Heap)(hb:sysModules<h.objs.size):N1 P w H (h.push {cls:=.type "dict",data:=.dict #[]}) h.objs.size (.dK []):=
 ⟨be _,bU.mpr (bY (aC hb)),[],.nil,Heap.DictOf.new h⟩
def W6x {w:Ak}  (h:Heap)(hb:sysModules<h.objs.size):N1 P w H (h.push {cls:=.type "dict",data:=.dict #[]}) h.objs.size (.dT []):=
 ⟨be _,bU.mpr (bY (aC hb)),[],.nil,_,#[],0,aE _ rfl,⟨rfl,rfl,rfl⟩,rfl,rfl,dL⟩
def V9e:TE:=fun _ H Q=>∀p,H p=none->Q (.ref p) (B0 H p (.dK []))
def V3f:PE X (.Dict [] [] pos) V9e:=fun ah s σ H Q I h=>
 wpAny_Dict_empty ⟨.ref s.heap.objs.size,_,I.laid (a:=s.heap.objs.size) (o:=.dK []) (t':=s.toks) (fun _ _ q=>ae _ q) (am _) (Y3z s.heap I.big),rfl,h _ (I.hok.fresh (am _))⟩
def Z8u:M (TE×TE)->St->Hp->(M (V×V)->Hp->Prop)->Prop
 |[],_,H,Q=>Q [] H
 |(tk,tv)::r,σ,H,Q=>tk σ H fun x H1=>tv σ H1 fun y H2=>Z8u r σ H2 fun ps H3=>Q ((x,y)::ps) H3
abbrev VV:M (V×V)->M (Ad×Ad)->Prop:=Paired fun p q=>C9 p.1 q.1/\C9 p.2 q.2
def PPs (X:Cx)(pos:Pos)(keys:M (Ac Ag))(values:M Ag)(ln:M (TE×TE)):Prop:=
 ∀(ah:Pn9) (s:Ae) (σ:St) (H:Hp) (Q:M (V×V)->Hp->Prop),?C->Z8u ln σ H Q ->
  wpAny ?D X.A (evalPairs (pairTrees keys values X.env pos)) (fun vs s'=>∃ps H',A1 X ah σ H' s'/\VV ps vs/\Q ps H') X.xe s
def V4i:PPs X pos [] [] []:=fun ah s σ H Q I h=>pairTrees_nil_walk ⟨[],H,I,.nil,h⟩
def V4h {k v:Ag}  {vs:M Ag}{tk tv:TE}  (hk:PE X k tk)(hv:PE X v tv)(hr:PPs X pos ks vs ln):
  PPs X pos (some k::ks) (v::vs) ((tk,tv)::ln):=fun ah s σ H Q I h=>
 pairTrees_cons_walk (B3 (hk ah s σ H _ I h) fun u s1 ⟨x,H1,I1,rx,q1⟩=>B3 (hv ah s1 σ H1 _ I1 q1) fun w2 s2 ⟨y,H2,I2,ry,q2⟩=>
  B3 (hr ah s2 σ H2 _ I2 q2) fun ws s3 ⟨ps,H3,I3,rel,q3⟩=>⟨(x,y)::ps,H3,I3,.cons ⟨rx,ry⟩ rel,q3⟩)
def Q6u (kvs more:M (B8×V)):M (B8×V):=more.foldl (fun cN kv=>T0 cN kv.1 kv.2) kvs
theorem KV.merge:∀{more:M (B8×V)}{rs:M (B8×Ad)}{kvs:M (B8×V)}{vs:M (B8×Ad)},KV more rs->KV kvs vs->KV (Q6u kvs more) (merged vs rs):=by
 intro more rs kvs vs r;unfold KV at r
 induction r generalizing kvs vs with
 |nil=>intro q;exact q
 |@cons p q ps qs h t ih=>
  intro r0;have e:KV (T0 kvs p.1 p.2) (stored vs q.1 q.2):=by
   have:=r0.put p.1 h.2;rw[<-h.1];exact this
  exact ih e
theorem W9q:∀(more kvs:M (B8×V)),(Q6u kvs more).length<=kvs.length+more.length:=by intro more;induction more<;>grind [T0,Q8n,Q6u,aH]
theorem Y3b {P:Aj}{w:Ak}:∀{kvs:M (B8×V)}{ws:M (Ad×Ad)},VV (kvs.map fun kv=>(kV kv.1,kv.2)) ws->∃rs,Carries (N6 P w) ws rs/\KV kvs rs
 |[],_,r=>by rw[cw]at r;cases r;exact⟨[],True.intro,.nil⟩
 |p::kvs,_,r=>by
  rw[ax]at r;cases r with
  |@cons a b as bs h t=>
   obtain⟨rs,c,q⟩:=Y3b (P:=P) (w:=w) t;obtain⟨b1,b2⟩:=b;exact⟨(p.1,b2)::rs,⟨Q4k h.1,rfl,c⟩,.cons ⟨rfl,h.2⟩ q⟩
def V9g (ln:M (TE×TE)):TE:=fun σ H Q=>∀p,H p=none->Z8u ln σ (B0 H p (.dK [])) fun ps H2=>H2 p=some (.dK [])/\∃kvs:M (B8×V),ps=kvs.map (fun kv=>(kV kv.1,kv.2))/\kvs.length<=15/\Q (.ref p) (B0 H2 p (.dK (Q6u [] kvs)))
def V3c {values:M Ag}  (h:PPs X pos keys values ln)(mR:keys.all (·.isSome)=true)(hl:keys.length=values.length)(h0:keys≠[])
  (xC:keys.length<=15):PE X (.Dict keys values pos) (V9g ln):=by
 intro ah s σ H Q I q;have hn:=I.hok.fresh (am s.heap.objs.size);have I1:=I.laid (a:=s.heap.objs.size) (o:=.dK []) (h':=s.heap.push {cls:=.type "dict",data:=.dict #[]}) (t':=s.toks) (fun _ _ q=>ae _ q) (am _) (Y3z s.heap I.big);refine wpAny_Dict_walk (knd:=N6 X.prog X.w) mR hl h0 xC (B3 (h ah _ σ _ _ I1 (q _ hn)) fun ws s2 bF=>?_);obtain⟨ps,H2,I2,rel,e,kvs,ep,lk,q2⟩:=bF;subst ep;obtain⟨rs,c,rk⟩:=Y3b (P:=X.prog) (w:=X.w) rel;obtain⟨z,hd,yr,r0,dd⟩:=Z0o I2.hok e;cases r0;refine⟨rs,c,dd,fun h' jD hs=>⟨.ref s.heap.objs.size,_,?_,rfl,q2⟩⟩;have hz:(Q6u [] kvs).length<=sizeLine:=by
  have h1:=W9q kvs [];rw[bz]at h1;rw[fY];omega
 have he:∃q,h'.get? s.heap.objs.size=some q:=let ⟨q,_,_,hq,_⟩:=jD;⟨q,hq⟩;exact Q5g I2 (by rw[e];exact True.intro) hs he (Z5c hz hd (rk.merge .nil) jD)
structure M1 (X:Cx)(o:Ag)(m:Str)(apos:Pos)(e:Ag)(bK:Pos):Prop where
 base:attributeBase o m X.env (eval o X.env)=eval o X.env
 few:((backTo bK (starEach [e] X.env)).all (fun x=>!x.1)&&(backToKw bK (keywordEach [] X.env)).all (fun x=>x.1.isSome)
 &&decide (([e]:M Ag).length+([]:M Keyword).length+(if ([]:M Keyword).isEmpty then 0 else 1)<30))=true
 line:(apos.endLine==bK.line)=true
 trees:backTo bK (starEach [e] X.env)=[(false,eval e X.env)]
structure M2 (X:Cx)(o:Ag)(m:Str)(apos:Pos)(e f:Ag)(bK:Pos):Prop where
 base:attributeBase o m X.env (eval o X.env)=eval o X.env
 few:((backTo bK (starEach [e,f] X.env)).all (fun x=>!x.1)&&(backToKw bK (keywordEach [] X.env)).all (fun x=>x.1.isSome)
 &&decide (([e,f]:M Ag).length+([]:M Keyword).length+(if ([]:M Keyword).isEmpty then 0 else 1)<30))=true
 line:(apos.endLine==bK.line)=true
 trees:backTo bK (starEach [e,f] X.env)=[(false,eval e X.env),(false,eval f X.env)]
def IsD (H:Hp)(a:Af):Prop:=(∃kvs,Rd H a (.dK kvs))\/∃kvs,Rd H a (.dT kvs)
def Y4y {σ:St}    (I:?C)(d:IsD H a):
  s.TypeIs (.ref a) "dict"/\(∀b,Value.ref a=.ref b->∃ob,s.heap.get? b=some ob/\ob.dict=none)/\(a==sysModules)=false:=by
 rcases d with⟨kvs,e⟩ |⟨kvs,e⟩
 ·obtain⟨_,hd,vs,_,dd⟩:=Q6k I.hok e;refine⟨dd.typeIs,fun b q=>?_,hd⟩;cases q;obtain⟨ob,_,_,h1,h2,_⟩:=dd;exact⟨ob,h1,h2.2.1⟩
 ·obtain⟨_,hd,xs,_,dd⟩:=Q6l I.hok e;refine⟨dd.typeIs,fun b q=>?_,hd⟩;cases q;obtain⟨ob,_,_,h1,h2,_⟩:=dd;exact⟨ob,h1,h2.2.1⟩
section
variable {σ:St}{o:Ac V}
def W6m (hu:A.units+1<cLine)(I:?C)(g:Y5 H a y o)(ry:C9 y u)(h:∀w' s',A1 X ah σ H s'->C9 (o.getD .non) w'->Q w' s'):
  wpAny ?D A (call (.builtin "dict.get") [.ref a,u]) Q E s:=by
 rcases g with⟨kvs,k,e,ey,l⟩ |⟨kvs,k,b,e,ey,eb,l⟩
 ·subst ey;obtain⟨z,hd,vs,rel,dd⟩:=Q6k I.hok e;refine yW fZ dd.typeIs nz (mV _ _) (meets_dict_get (N6 X.prog X.w) a (Q4k ry) hd) ⟨_,dd.mapOf,h _ _ (I.tok _) ?_⟩;rw[l];exact(rel.val k).getD rfl
 ·subst ey;cases (show u=Value.ref b from ry);obtain⟨z,hd,xs,rel,dd⟩:=Q6l I.hok e;refine yW fZ dd.typeIs nz (mV _ _) (meetsH_dict_get (tupleKind (N6 X.prog X.w)) a b hd) ⟨fH hu,k,xs,Q6q I.hok eb,dd,h _ _ (I.tok _) ?_⟩;rw[l];exact(rel.val k).getD rfl
end
def V9d (td ty:TE):TE:=fun σ H Q=>td σ H fun x H1=>∃a,x=.ref a/\IsD H1 a/\ty σ H1 fun y H2=>∃o,Y5 H2 a y o/\Q (o.getD .non) H2
def V3b (hu:X.A.units+1<cLine)(ho:PE X o td)(he:PE X e ty)(m:M1 X o "get" apos e bK):PE X (.Call (.Attribute o "get" apos) [e] [] bK) (V9d td ty):=by
 intro ah s σ H Q I h;refine fV m.base m.few m.line fB fZ PySem.F.type_dict_get (B3 (ho ah s σ H _ I h) fun u s1 bF=>?_);obtain⟨x,H1,I1,rx,a,ex,d,q1⟩:=bF;subst ex;obtain rfl:u=Value.ref a:=rx;obtain⟨t1,t2,_⟩:=Y4y I1 d;refine⟨t1,t2,?_⟩;rw[m.trees];refine cD rfl (cJ (bS (B3 (he ah s1 σ H1 _ I1 q1) fun iv s2 ⟨y,H2,I2,ry,ov,g,q2⟩=>cM ?_)));exact W6m hu I2 g ry fun w' s3 I3 iG=>⟨_,H2,I3,iG,q2⟩
namespace Att
open PySem PySem.W PySem.Calls PyProof.Rows
theorem W8h {P:Params}:∀(ns:M Int) (vs:M Ad),WellAll P h vs (ns.map WData.int)->IntsAre vs ns:=by
 intro ns
 induction ns with
 |nil=>
  intro vs w;rw[cw]at w;cases w;exact .nil
 |cons n ns ih=>
  intro vs w;rw[ax]at w;cases w with
  |cons a b=>
   cases a;exact .cons _ _ (ih _ b)
theorem V8d {l:OpenLaw}  (hn:l.most=some n){P:Params}  {args:M WData}{jb:M Ad}
  (kP:l.row.toRowW.claim.pre args=true) (n9:WellAll P h jb args):
  ∃a vs ns,jb=[Value.ref a]/\args=[WData.list (ns.map WData.int)]/\h.get? a=some {cls:=.type "list",data:=.seq vs.toArray}/\IntsAre vs ns/\ns.length<=n:=by
 have vY:WShape.hasAll [] args [.list .int]=true:=(pre_splitW kP).1;have hc:l.pre.holds [] {args:=args}=true:=(pre_splitW kP).2;obtain⟨d,r,rfl,h1,h2⟩:=hasAllW_cons vY;obtain rfl:=hasAllW_nil h2;obtain⟨xs,rfl,h3⟩:=hasW_list h1;obtain⟨ns,rfl⟩:=items_int h3;have bZ:ns.length<=n:=by
  unfold OpenLaw.pre at hc;have h4:(WTm.not (.lt (.lit (.int (n:Int))) (.len (.arg 0)))).holds [] {args:=[.list (ns.map .int)]}=true:=by
   have h4:=(holds_andW hc).1;rw[hn]at h4;exact h4
  have h5:=condW_of h4 (w_not (w_lt w_lit (w_len_list (w_arg rfl))));rw[ag]at h5;refine Nat.le_of_not_lt fun q=>?_;have q':(n:Int)<((ns.length:Nat):Int):=?A
  first
   |(rw[bP q']at h5;exact absurd h5 (?G))
   |(simp at h5;omega)
 cases n9 with
 |cons w1 w2=>
  cases w2;cases w1 with
  |list ho mR=>exact⟨_,_,ns,rfl,rfl,ho,W8h ns _ mR,bZ⟩
def V4g (l:OpenLaw)(args:M WData):l.row.toRowW.claim.post args (.bool true) args=true:=
 postW_of (r:=l.row.toRowW) (X:=(true==true))
  (show WShape.has [] (.bool true) .bool=true by first |rfl |decide |simp[WShape.has,WShape.arms,WShape.armsAll])
  (show(WTm.eq .res (.lit (.bool true))).value [] {args:=args,res:=some (.bool true),after:=args}=some (.bool (true==true))from w_eq_bool (w_res rfl) w_lit) rfl
def attach_call {l:OpenLaw}      {d:DefRec}
  (hn:l.most=some n) (kX:d.params.defaults=[])
  (call:∀(w:Ak) (s₀ s₁:Ae) (mg mb:Str->Ac Ad) (fa:Af) (o:Obj) (pm cd dW:Ad) (a:Af) (vs:M Ad) (ns:M Int),
   Ground q iX [] XP w s₀ mg mb s₁.heap->YP w s₁.heap ->
   s₁.heap.get? fa=?R->o.data=.func (docDef d.name d.params d.body d.scope pm cd dW)->s₁.heap.CodeRec cd d.name->mg d.name=some (.ref fa) ->
   s₁.heap.get? a=some {cls:=.type "list",data:=.seq vs.toArray}->IntsAre vs ns->ns.length<=n->s₁.gens=#[] ->
   codeAny (model l.prog w) callerA (.call (.ref fa) ⟨[.ref a],[]⟩) (fun r s'=>r=.ok (.ret (.bool true))/\OldK s₁.heap s'.heap/\s'.os=s₁.os/\AllBare s'.gens) s₁):
  WalkO q iX XP YP l.row.toRowW d [] (fun f vs=>PySem.call f vs):=by
 intro w s₀ s₁ mg mb G Ab fa o pm cd dW dV kV ho hd gb hD og hg args jb as kP wy yw n9 yz;obtain rfl:dV=.none:=Dflts.none hD kX;obtain rfl:kV=.none:=Dflts.noKw hD;obtain⟨a,vs,ns,rfl,rfl,mF,ka,bZ⟩:=V8d hn kP n9;refine enter_call (fz (call w s₀ s₁ mg mb fa o pm cd dW a vs ns G Ab ho (fd_plain hd) gb og mF ka bZ hg) fun r s' hq=>?_);obtain⟨rfl,h2,h3,h4⟩:=hq;exact⟨.inl ⟨.bool true,.bool true,[],rfl,fun _=>rfl,.bool true,V4g l _,fun _=>⟨List.Pairwise.nil,fun _ hm=>(nomatch hm)⟩⟩,h2,h3,h4⟩
end Att
theorem W0w:∀{vs:M Ad}{ns:M Int},IntsAre vs ns->C3 (ns.map V.int) vs
 |_,_,.nil=>.nil
 |_,_,.cons n t h=>.cons ⟨t,rfl⟩ (W0w h)
def Y1 (s:Al):Arguments:=match s with
 |.FunctionDef _ a _ _ _ _ _ _ _ _=>a
 |_=>{posonlyargs:=[],args:=[],vararg:=none,kwonlyargs:=[],kw_defaults:=[],kwarg:=none,defaults:=[]}
def N3 (s:Al):M Al:=match s with
 |.FunctionDef _ _ b _ _ _ _ _ _ _=>b
 |_=>[]
def C6 (s:Al):Scope:=match s with
 |.FunctionDef _ _ _ _ _ _ sc _ _ _=>sc
 |_=>{kind:=.function,names:=[],isGenerator:=false,isCoroutine:=false}
abbrev J7:CXT:=fun _ _ _ _ _ _=>False
abbrev E0:XK:=fun _ _ _=>False
def Z1u:Z4d J7 X E0:=fun _ _ _ _ _ _ _ h=>h.elim
structure Fun (K:Fg9)(x qual:Str)(st:Al)(f:Af)(fd:Ai):Prop where
 ex:∃(oc:Ad) (od:Ac Af) (kV dW pm:Ad) (an:Ac Af) (cdv ct:Ad) (fS:Array (Ac Ad)),
  fd=PySem.W.fnOf x qual (Y1 st) (N3 st) (C6 st) .none kV dW pm an cdv ct/\K.lookup f=some ⟨oc,od,.func fd,fS⟩/\PySem.W.codeIn K cdv qual=true
 kp:PySem.W.keepIn K (.ref f)=true
section
variable {w:Ak}{K:Fg9}
def Fun.ok {k:Nat}{sp:Sp}(F:Fun K x qual st f fd)(S:Y7 N ps (C6 st))(len:∀vs H Q E,sp vs H Q E->vs.length=ps.length)
  (cn:∀(cdv:Ad) (A:Ah) (outer:M Env) (s:Ae) (H:Hp) (vs:M V) (Q:VK) (E:XK),F8 k (A.deeper (envOfC qual (C6 st) s.heap.objs.size f cdv))->sp vs H Q E ->
   ∃t,PSs (U5 J7 P w K mg base N qual (C6 st) f cdv A outer s H E).nox (N3 st) t/\t {nx:=fun _ H'=>Q .non H',rt:=Q} (start N vs) H):S7 P w K mg base J7 (k+1) f fd ps sp:=by
 obtain⟨oc,od,kV,dW,pm,an,cdv,ct,fS,rfl,lk,gb⟩:=F.ex;refine Z5k lk gb S len fun A outer s H vs Q E hr iZ=>?_;obtain⟨t,h,q⟩:=cn cdv A outer s H vs Q E hr iZ;exact⟨t,h.nox,q⟩
def Fun.binds (F:Fun K x qual st f fd)
  (h:∀(kV dW pm:Ad) (an:Ac Af) (cdv ct:Ad) (us:M Ad),us.length=ps.length->bindArgs (PySem.W.fnOf x qual (Y1 st) (N3 st) (C6 st) .none kV dW pm an cdv ct) ⟨us,[]⟩=pure (ps.zip us)):U3 K fd ps []:=by
 obtain⟨oc,od,kV,dW,pm,an,cdv,ct,fS,rfl,lk,gb⟩:=F.ex;exact .all (h kV dW pm an cdv ct)
def W7l {kV:Ad}(l:K.lookup f=some ⟨oc,od,.func (PySem.W.fnOf x qual (Y1 st) (N3 st) (C6 st) .none kV dW pm an cdv ct),fS⟩)
  (c:PySem.W.codeIn K cdv qual=true) (k:PySem.W.keepIn K (.ref f)=true):Fun K x qual st f (PySem.W.fnOf x qual (Y1 st) (N3 st) (C6 st) .none kV dW pm an cdv ct):=⟨⟨oc,od,kV,dW,pm,an,cdv,ct,fS,rfl,l,c⟩,k⟩
end
def pv (i:Nat)   (hN:X.N[i]?=some x:=by rfl)(hv:Vis X.env.scope x:=by first |exact Or.inl rfl |exact Or.inr (Or.inl rfl) |exact Or.inr (Or.inr rfl))(hd:(x==("__debug__":Str))=false:=by decide)
  (gb:(x==("__classdict__":Str))=false:=by decide):PE X (.Name x pos) (Q5 i):=V3w hN hv hd gb
def A5 (H H':Hp):Prop:=∀b o,H b=?R->H' b=?R
def A5.refl (H:Hp):A5 H H:=fun _ _ h=>h
def A5.trans (a:A5 H H1)(b:A5 H1 H2):A5 H H2:=fun c o h=>b c o (a c o h)
theorem A5.free (e:A5 H H')  (h:H' l=Option.none):H l=Option.none:=by
 cases q:H l with
 |none=>rfl
 |some o=>
  rw[e l o q]at h;cases h
def A5.seq {K:Fg9}    (e:A5 H H')(h:F2 K H a xs):F2 K H' a xs:=by
 rcases h with(h |⟨o,h⟩) |h
 ·exact .inl (.inl (e _ _ h))
 ·exact .inl (.inr ⟨o,e _ _ h⟩)
 ·exact .inr h
abbrev R9:=St
variable {σ:R9}
inductive D where
 |non |bl (b:Bool) |int (i:Int) |str (x:Str) |tup (xs:List D) |lst (xs:List D)
def FzL (K:Fg9)(H:Hp)(a:Af)(xs:M V):Prop:=
 (∃o,H a=some (.frz o (.lst xs))) \/
  ∃(o:Obj) (b7:Array Ad) (n:Nat),K.lookup a=?R/\o.cls=.type "list"/\o.dict=none/\o.data=.seq b7 n/\b7.size<=sizeLine/\C3 xs b7.toList
def FzL.sq {K:Fg9}    (h:FzL K H a xs):F2 K H a xs:=by
 rcases h with⟨o,h⟩ |h
 ·exact .inl (.inr ⟨o,h⟩)
 ·exact .inr h
structure Kp (H H':Hp):Prop where
 tup:∀a xs,H a=some (.tup xs)->H' a=some (.tup xs)
 frz:∀a o u,H a=some (.frz o u)->H' a=some (.frz o u)
def Kp.refl (H:Hp):Kp H H:=⟨fun _ _ h=>h,fun _ _ _ h=>h⟩
def Kp.trans (a:Kp H H1)(b:Kp H1 H2):Kp H H2:=⟨fun c xs h=>b.tup c xs (a.tup c xs h),fun c o u h=>b.frz c o u (a.frz c o u h)⟩
def Kp.of (s:A5 H H'):Kp H H':=⟨fun a xs h=>s a _ h,fun a o u h=>s a _ h⟩
def Q1n (h:H a=some (.lst xs))(o:HO):Kp H (B0 H a o):=
 ⟨fun c ys q=>by rw[B2 (Q0x q h (by intro z;cases z))];exact q,fun c ob u q=>by rw[B2 (Q0x q h (by intro z;cases z))];exact q⟩
def Kp.sqT {K:Fg9}  (k:Kp H H')   (h:E2 K H a xs):E2 K H' a xs:=by
 rcases h with(h |⟨o,h⟩) |h
 ·exact .inl (.inl (k.tup _ _ h))
 ·exact .inl (.inr ⟨o,k.frz _ _ _ h⟩)
 ·exact .inr h
def Kp.fzL {K:Fg9}  (k:Kp H H')   (h:FzL K H a xs):FzL K H' a xs:=by
 rcases h with⟨o,h⟩ |h
 ·exact .inl ⟨o,k.frz _ _ _ h⟩
 ·exact .inr h
def G3 {p:Af}(h:H p=none)(o:HO):A5 H (B0 H p o):=fun b u q=>by rw[B2 (Z4 q h)];exact q
mutual
def A4 (K:Fg9)(H:Hp):D->V->Prop
 |.non,v=>v=.non
 |.bl b,v=>v=.bl b
 |.int i,v=>v=.int i
 |.str x,v=>v=.str x
 |.tup ds,v=>∃a xs,v=.ref a/\H a=some (.tup xs)/\AllS K H ds xs
 |.lst ds,v=>∃a xs,v=.ref a/\FzL K H a xs/\AllS K H ds xs
def AllS (K:Fg9)(H:Hp):M D->M V->Prop
 |[],vs=>vs=[]
 |d::ds,vs=>∃v r,vs=v::r/\A4 K H d v/\AllS K H ds r
end
section
variable {K:Fg9}
mutual
theorem A4.mono (k:Kp H H'):∀(d:D) (v:V),A4 K H d v->A4 K H' d v
 |.non,v,h=>h
 |.bl _,v,h=>h
 |.int _,v,h=>h
 |.str _,v,h=>h
 |.tup ds,v,h=>by
  unfold A4 at h ⊢;obtain⟨a,xs,e,q,r⟩:=h;exact⟨a,xs,e,k.tup _ _ q,AllS.mono k ds xs r⟩
 |.lst ds,v,h=>by
  unfold A4 at h ⊢;obtain⟨a,xs,e,q,r⟩:=h;exact⟨a,xs,e,k.fzL q,AllS.mono k ds xs r⟩
theorem AllS.mono (k:Kp H H'):∀(ds:M D) (vs:M V),AllS K H ds vs->AllS K H' ds vs
 |[],vs,h=>h
 |d::ds,vs,h=>by
  unfold AllS at h ⊢;obtain⟨v,r,e,q,t⟩:=h;exact⟨v,r,e,A4.mono k d v q,AllS.mono k ds r t⟩
end
theorem AllS.length:∀{ds:M D}{vs:M V},AllS K H ds vs->ds.length=vs.length:=by intro ds;induction ds<;>grind [AllS,aH]
theorem AllS.nil:AllS K H [] []:=by unfold AllS;rfl
theorem AllS.cons {d:D}{ds:M D}{v:V}  (h:A4 K H d v)(t:AllS K H ds vs):AllS K H (d::ds) (v::vs):=by
 unfold AllS;exact⟨v,vs,rfl,h,t⟩
theorem AllS.get:∀{ds:M D}{vs:M V}{i:Nat}{d:D},AllS K H ds vs->ds[i]?=some d->∃v,vs[i]?=some v/\A4 K H d v:=by intro ds;induction ds<;>grind [AllS]
theorem AllS.append:∀{ds es:M D}{vs us:M V},AllS K H ds vs->AllS K H es us->AllS K H (ds++es) (vs++us):=by intro ds;induction ds<;>grind [AllS,AllS.cons]
theorem AllS.take:∀{ds:M D}{vs:M V} (n:Nat),AllS K H ds vs->AllS K H (ds.take n) (vs.take n)
 |_,_,0,_=>by simp;exact AllS.nil
 |[],vs,n+1,h=>by unfold AllS at h;subst h;simp;exact AllS.nil
 |d::ds,vs,n+1,h=>by
  unfold AllS at h;obtain⟨v,r,rfl,q,s⟩:=h;exact AllS.cons q (AllS.take n s)
theorem AllS.drop:∀{ds:M D}{vs:M V} (n:Nat),AllS K H ds vs->AllS K H (ds.drop n) (vs.drop n)
 |_,_,0,h=>h
 |[],vs,n+1,h=>by unfold AllS at h;subst h;simp;exact AllS.nil
 |d::ds,vs,n+1,h=>by
  unfold AllS at h;obtain⟨v,r,rfl,q,s⟩:=h;exact AllS.drop n s
theorem AllS.set {ds:M D}  {d:D}{v:V}(q:A4 K H d v):∀(i:Nat),AllS K H ds vs->AllS K H (ds.set i d) (vs.set i v):=by
 intro i h
 induction ds generalizing vs i with
 |nil=>unfold AllS at h;subst h;exact AllS.nil
 |cons d ds ih=>
  unfold AllS at h;obtain⟨v,r,rfl,q',s⟩:=h;cases i with
  |zero=>exact AllS.cons q s
  |succ i=>exact AllS.cons q' (ih i s)
theorem AllS.ints:AllS K H (ns.map D.int) (ns.map V.int):=by induction ns<;>grind [AllS.nil,AllS.cons,A4]
def Q1m {i:Int}:A4 K H (.int i) (.int i):=by unfold A4;rfl
def Y1l {i:Bool}:A4 K H (.bl i) (.bl i):=by unfold A4;rfl
def Q4c {i:Str}:A4 K H (.str i) (.str i):=by unfold A4;rfl
def Q7s:A4 K H .non .non:=by unfold A4;rfl
def A4.s_tup {ds:M D}   (q:H a=some (.tup xs))(r:AllS K H ds xs):A4 K H (.tup ds) (.ref a):=by unfold A4;exact⟨a,xs,rfl,q,r⟩
def A4.s_lst {ds:M D}   (q:FzL K H a xs)(r:AllS K H ds xs):A4 K H (.lst ds) (.ref a):=by unfold A4;exact⟨a,xs,rfl,q,r⟩
end
def Q6c (Φ:Hp->Prop):Prop:=∀H H':Hp,Kp H H'->Φ H->Φ H'
inductive R where
 |st (d:D) |nw (ds:List D) |bw (ds:List D) |dk (kvs:List (B8×D)) |dt (kvs:List (List B8×D)) |ob (a:Addr) |cl (a:Addr) (Φ:Hp->Prop) |ms (a C:Addr) (d:D) (fs:List (Str×D))
def D7 (K:Fg9)(H:Hp):M (κ×D)->M (κ×V)->Prop
 |[],vs=>vs=[]
 |p::ps,vs=>∃v r,vs=(p.1,v)::r/\A4 K H p.2 v/\D7 K H ps r
theorem D7.mono {K:Fg9}  (k:Kp H H'):∀(ps:M (κ×D)) (vs:M (κ×V)),D7 K H ps vs->D7 K H' ps vs
 |[],_,h=>h
 |p::ps,vs,h=>by
  obtain⟨v,r,e,q,t⟩:=h;exact⟨v,r,e,q.mono k _ _,D7.mono k ps r t⟩
def F7 (K:Fg9)(H0 H:Hp):R->V->Prop
 |.st d,v=>A4 K H d v
 |.nw ds,v=>∃a xs,v=.ref a/\H0 a=none/\H a=some (.lst xs)/\AllS K H ds xs
 |.bw ds,v=>∃a xs,v=.ref a/\H a=some (.lst xs)/\AllS K H ds xs
 |.dk kvs,v=>∃a ps,v=.ref a/\H a=some (.dK ps)/\D7 K H kvs ps
 |.dt kvs,v=>∃a ps,v=.ref a/\H a=some (.dT ps)/\D7 K H kvs ps
 |.ob a,v=>v=.ref a
 |.cl a Φ,v=>v=.ref a/\Φ H/\Q6c Φ
 |.ms a C d fs,v=>A4 K H d v/\∃dx vs,H a=some (.ins C dx vs)/\D7 K H fs vs
theorem F7.mono {K:Fg9}  (s:A5 H H'):∀{r:R}{v:V},F7 K H0 H r v->F7 K H0 H' r v
 |.st d,v,h=>A4.mono (Kp.of s) d v h
 |.nw ds,v,h=>by obtain⟨a,xs,e,n,q,t⟩:=h;exact⟨a,xs,e,n,s _ _ q,t.mono (Kp.of s) _ _⟩
 |.bw ds,v,h=>by obtain⟨a,xs,e,q,t⟩:=h;exact⟨a,xs,e,s _ _ q,t.mono (Kp.of s) _ _⟩
 |.dk ds,v,h=>by obtain⟨a,xs,e,q,t⟩:=h;exact⟨a,xs,e,s _ _ q,t.mono (Kp.of s) _ _⟩
 |.dt ds,v,h=>by obtain⟨a,xs,e,q,t⟩:=h;exact⟨a,xs,e,s _ _ q,t.mono (Kp.of s) _ _⟩
 |.ob a,v,h=>h
 |.cl a Φ,v,h=>⟨h.1,h.2.2 _ _ (Kp.of s) h.2.1,h.2.2⟩
 |.ms a C d fs,v,h=>by obtain⟨h1,dx,vs,q,t⟩:=h;exact⟨h1.mono (Kp.of s) _ _,dx,vs,s _ _ q,t.mono (Kp.of s) _ _⟩
theorem F7.older {K:Fg9}  (s:A5 H0 H1):∀{r:R}{v:V},F7 K H1 H r v->F7 K H0 H r v
 |.st d,v,h=>h
 |.nw ds,v,h=>by obtain⟨a,xs,e,n,q,t⟩:=h;exact⟨a,xs,e,s.free n,q,t⟩
 |.bw ds,v,h=>h
 |.dk ds,v,h=>h
 |.dt ds,v,h=>h
 |.ob a,v,h=>h
 |.cl _ _,v,h=>h
 |.ms _ _ _ _,v,h=>h
def LO (b:Af)(xs:M V):Heap->Prop:=fun h=>xs.length<=sizeLine/\∃(b7:M Ad) (n:Nat),C3 xs b7/\h.get? b=some {cls:=.type "list",data:=.seq b7.toArray n}
def M3 (K:Fg9)(H:Hp):M Af->M (M D)->Prop
 |[],dss=>dss=[]
 |b::bs,dss=>∃ds r,dss=ds::r/\(∃xs,H b=some (.ext (LO b xs))/\AllS K H ds xs)/\M3 K H bs r
def Q6b (K:Fg9)(H0 H:Hp)(a:Af)(dss:M (M D)):Prop:=∃bs,(H a=some (.ext (LO a (bs.map V.ref)))/\H0 a=none/\a∉bs)/\bs.Nodup/\(∀b∈bs,H0 b=none)/\M3 K H bs dss
theorem M3.keep {K:Fg9}  (k:Kp H H')(x:∀b φ,H b=some (.ext φ)->H' b=some (.ext φ)):∀{bs:M Af}{dss:M (M D)},M3 K H bs dss->M3 K H' bs dss
 |[],_,h=>h
 |b::bs,_,h=>by obtain⟨ds,r,e,⟨xs,q,al⟩,t⟩:=h;exact⟨ds,r,e,⟨xs,x _ _ q,al.mono k _ _⟩,M3.keep k x t⟩
def Q6b.keep {K:Fg9}   {dss:M (M D)}(h:Q6b K H0 H a dss)(k:Kp H H')(x:∀b φ,H b=some (.ext φ)->H' b=some (.ext φ)):Q6b K H0 H' a dss:=by
 obtain⟨bs,⟨q,q2⟩,n,f,t⟩:=h;exact⟨bs,⟨x _ _ q,q2⟩,n,f,t.keep k x⟩
inductive Sl where
 |dat (d:D) |own (ds:List D) |bor (ds:List D) |dk (kvs:List (B8×D)) |dt (kvs:List (List B8×D)) |bd (kvs:List (List B8×D)) |ob (a:Addr) |cl (a:Addr) (Φ:Hp->Prop) |ll (a:Addr) (dss:List (List D)) |ins (a C:Addr) (fs:List (Str×D))
variable {o0 o1 o2 o5 o7 o4 o3 o6:Ac Sl}
abbrev C8:=M (Ac Sl)
variable {τ rest:C8}
def Sl.mut:Sl->Bool
 |.own _=>true
 |.dk _=>true
 |.dt _=>true
 |.ins _ _ _=>true
 |_=>false
def Z8 (K:Fg9)(H0 H:Hp):Sl->V->Prop
 |.dat d,v=>A4 K H d v
 |.own ds,v=>∃a xs,v=.ref a/\H0 a=none/\H a=some (.lst xs)/\AllS K H ds xs
 |.bor ds,v=>∃a xs,v=.ref a/\H0 a=some (.lst xs)/\AllS K H ds xs
 |.dk kvs,v=>∃a ps,v=.ref a/\H0 a=none/\H a=some (.dK ps)/\D7 K H kvs ps
 |.dt kvs,v=>∃a ps,v=.ref a/\H0 a=none/\H a=some (.dT ps)/\D7 K H kvs ps
 |.bd kvs,v=>∃a ps,v=.ref a/\H0 a=some (.dT ps)/\D7 K H kvs ps
 |.ob a,v=>v=.ref a
 |.cl a Φ,v=>v=.ref a/\Φ H/\Q6c Φ
 |.ll a dss,v=>v=.ref a/\Q6b K H0 H a dss
 |.ins a C fs,v=>v=.ref a/\H0 a=none/\∃dx vs,H a=some (.ins C dx vs)/\D7 K H fs vs
theorem Z8.mono {K:Fg9}  (s:A5 H H'):∀{r:Sl}{v:V},Z8 K H0 H r v->Z8 K H0 H' r v
 |.dat d,v,h=>A4.mono (Kp.of s) d v h
 |.own ds,v,h=>by obtain⟨a,xs,e,n,q,t⟩:=h;exact⟨a,xs,e,n,s _ _ q,t.mono (Kp.of s) _ _⟩
 |.bor ds,v,h=>by obtain⟨a,xs,e,q,t⟩:=h;exact⟨a,xs,e,q,t.mono (Kp.of s) _ _⟩
 |.bd ds,v,h=>by obtain⟨a,xs,e,q,t⟩:=h;exact⟨a,xs,e,q,t.mono (Kp.of s) _ _⟩
 |.dk ds,v,h=>by obtain⟨a,xs,e,n,q,t⟩:=h;exact⟨a,xs,e,n,s _ _ q,t.mono (Kp.of s) _ _⟩
 |.dt ds,v,h=>by obtain⟨a,xs,e,n,q,t⟩:=h;exact⟨a,xs,e,n,s _ _ q,t.mono (Kp.of s) _ _⟩
 |.ob a,v,h=>h
 |.cl a Φ,v,h=>⟨h.1,h.2.2 _ _ (Kp.of s) h.2.1,h.2.2⟩
 |.ll a dss,v,h=>⟨h.1,h.2.keep (Kp.of s) fun b φ q=>s _ _ q⟩
 |.ins a C fs,v,h=>by obtain⟨e,n,dx,vs,q,t⟩:=h;exact⟨e,n,dx,vs,s _ _ q,t.mono (Kp.of s) _ _⟩
structure C2 (K:Fg9)(H0:Hp)(τ:C8)(σ:R9)(H:Hp):Prop where
 len:τ.length=σ.length
 same:A5 H0 H
 here:∀(i:Nat) (s:Sl),τ[i]?=some (some s)->∃v,σ[i]?=some (some v)/\Z8 K H0 H s v
 apart:∀(i j:Nat) (s t:Sl) (v:V),i≠j->τ[i]?=some (some s)->τ[j]?=some (some t)->s.mut=true->t.mut=true->σ[i]?=some (some v)->σ[j]?=some (some v)->False
def C2.mono {K:Fg9}    (h:C2 K H0 τ σ H)(s:A5 H H'):C2 K H0 τ σ H':=
 ⟨h.len,h.same.trans s,fun i sl e=>let ⟨v,q,r⟩:=h.here i sl e;⟨v,q,r.mono s⟩,h.apart⟩
abbrev WE:=C8->(R->Prop)->Prop
variable {wa wb we wv:WE}
def Z6k (K:Fg9)(H0:Hp)(w:WE):TE:=fun σ H Q=>∃ τ,C2 K H0 τ σ H/\w τ fun r=>∀v H',A5 H H'->F7 K H H' r v->Q v H'
structure DE (X:Cx)(H0:Hp)(e:Ag)(w:WE):Prop where
 mono:∀(τ:C8) (P Q:R->Prop),(∀r,P r->Q r)->w τ P->w τ Q
 pe:PE X e (Z6k X.K H0 w)
abbrev WT:=C8->(Bool->Prop)->Prop
def Z6l (K:Fg9)(H0:Hp)(w:WT):TT:=fun σ H Q=>∃ τ,C2 K H0 τ σ H/\w τ fun b=>∀H',A5 H H'->Q b H'
structure DT (X:Cx)(H0:Hp)(e:Ag)(w:WT):Prop where
 mono:∀(τ:C8) (P Q:Bool->Prop),(∀r,P r->Q r)->w τ P->w τ Q
 pt:PT X e (Z6l X.K H0 w)
structure DW (X:Cx)(H0:Hp)(e:Ag)(w:WT):Prop where
 mono:∀(τ:C8) (P Q:Bool->Prop),(∀r,P r->Q r)->w τ P->w τ Q
 pw:PW X e (Z6l X.K H0 w)
abbrev WA:=C8->(M R->Prop)->Prop
variable {wr:WA}
def O5 (K:Fg9)(H0 H:Hp):M R->M V->Prop
 |[],vs=>vs=[]
 |r::rs,vs=>∃v t,vs=v::t/\F7 K H0 H r v/\O5 K H0 H rs t
def W9r (K:Fg9)(H0:Hp)(w:WA):TA:=fun σ H Q=>∃ τ,C2 K H0 τ σ H/\w τ fun rs=>∀vs H',A5 H H'->O5 K H H' rs vs->Q vs H'
structure DA (X:Cx)(H0:Hp)(es:M Ag)(w:WA):Prop where
 len:∀(τ:C8) (Q:M R->Prop),w τ Q->w τ fun rs=>rs.length=es.length/\Q rs
 mono:∀(τ:C8) (P Q:M R->Prop),(∀r,P r->Q r)->w τ P->w τ Q
 pa:PA X es (W9r X.K H0 w)
structure F6 where
 nx:C8->Prop
 rt:R->Prop
 bk:C8->Prop
 ct:C8->Prop
abbrev WS:=F6->C8->Prop
structure F6.Le (E F:F6):Prop where
 nx:∀ τ,E.nx τ->F.nx τ
 rt:∀r,E.rt r->F.rt r
 bk:∀ τ,E.bk τ->F.bk τ
 ct:∀ τ,E.ct τ->F.ct τ
def Q3 (K:Fg9)(H0 Hs:Hp)(D:Q5a):F6 where
 nx:=fun τ=>∀ σ H,Kp Hs H->C2 K H0 τ σ H->D.nx σ H
 rt:=fun r=>∀v H,A5 H0 H->F7 K H0 H r v->D.rt v H
 bk:=fun τ=>∀ σ H,Kp Hs H->C2 K H0 τ σ H->D.bk σ H
 ct:=fun τ=>∀ σ H,Kp Hs H->C2 K H0 τ σ H->D.ct σ H
def Z6j {K:Fg9}  {D:Q5a}(k:Kp H H1):(Q3 K H0 H D).Le (Q3 K H0 H1 D):=
 ⟨fun τ h σ H2 k2 hR=>h σ H2 (k.trans k2) hR,fun _ h=>h,fun τ h σ H2 k2 hR=>h σ H2 (k.trans k2) hR,fun τ h σ H2 k2 hR=>h σ H2 (k.trans k2) hR⟩
def Y5l (K:Fg9)(H0:Hp)(w:WS):TS:=fun D σ H=>∃ τ,C2 K H0 τ σ H/\w (Q3 K H0 H D) τ
structure DS (X:Cx)(H0:Hp)(st:Al)(w:WS):Prop where
 mono:∀(τ:C8) (E F:F6),E.Le F->w E τ->w F τ
 ps:PS X st (Y5l X.K H0 w)
structure A7 (X:Cx)(H0:Hp)(mW:M Al)(w:WS):Prop where
 mono:∀(τ:C8) (E F:F6),E.Le F->w E τ->w F τ
 ps:PSs X mW (Y5l X.K H0 w)
def R0 {t t':TE}(h:PE X e t)(f:∀ σ H Q,t' σ H Q->t σ H Q):PE X e t':=fun ah s σ H Q I q=>h ah s σ H Q I (f σ H Q q)
def ptW {t t':TT}(h:PT X e t)(f:∀ σ H Q,t' σ H Q->t σ H Q):PT X e t':=fun ah s σ H Q I q=>h ah s σ H Q I (f σ H Q q)
def pwW {t t':TT}(h:PW X e t)(f:∀ σ H Q,t' σ H Q->t σ H Q):PW X e t':=fun whole ah s σ H Q I q=>h whole ah s σ H Q I (f σ H Q q)
def paW {e:M Ag}{t t':TA}(h:PA X e t)(f:∀ σ H Q,t' σ H Q->t σ H Q):PA X e t':=fun pos ah s σ H Q I q=>h pos ah s σ H Q I (f σ H Q q)
def S6 {e:Al}{t t':TS}(h:PS X e t)(f:∀D σ H,t' D σ H->t D σ H):PS X e t':=fun ah s σ H D I q=>h ah s σ H D I (f D σ H q)
def Z1w {e:M Al}{t t':TS}(h:PSs X e t)(f:∀D σ H,t' D σ H->t D σ H):PSs X e t':=fun ah s σ H D I q=>h ah s σ H D I (f D σ H q)
abbrev IsV (K:Fg9)(H:Hp):R->V->Prop:=F7 K (fun _=>none) H
theorem F7.v {K:Fg9}:∀{r:R}{v:V},F7 K H0 H r v->IsV K H r v
 |.st d,v,h=>h
 |.nw ds,v,h=>by obtain⟨a,xs,e,n,q,t⟩:=h;exact⟨a,xs,e,rfl,q,t⟩
 |.bw ds,v,h=>h
 |.dk ds,v,h=>h
 |.dt ds,v,h=>h
 |.ob a,v,h=>h
 |.cl _ _,v,h=>h
 |.ms _ _ _ _,v,h=>h
def Z0y {K:Fg9}  {k:Bool}:F7 K H0 H (.st (.bl k)) (.bl k):=Y1l (K:=K) (H:=H)
def Z2 {K:Fg9}  {k:Int}:F7 K H0 H (.st (.int k)) (.int k):=Q1m (K:=K) (H:=H)
def Z6b {K:Fg9}  {k:Str}:F7 K H0 H (.st (.str k)) (.str k):=Q4c (K:=K) (H:=H)
section
variable {a b c:Ag}
def T5:Sl->R
 |.dat d=>.st d
 |.own ds=>.bw ds
 |.bor ds=>.bw ds
 |.dk k=>.dk k
 |.dt k=>.dt k
 |.bd k=>.dt k
 |.ob a=>.ob a
 |.cl a Φ=>.cl a Φ
 |.ll a _=>.ob a
 |.ins a _ _=>.ob a
theorem Z8.rd {K:Fg9}{Hs:Hp}(s:A5 H0 H):∀{r:Sl}{v:V},Z8 K H0 H r v->F7 K Hs H (T5 r) v
 |.dat d,v,h=>h
 |.own ds,v,h=>by obtain⟨a,xs,e,n,q,t⟩:=h;exact⟨a,xs,e,q,t⟩
 |.bor ds,v,h=>by obtain⟨a,xs,e,q,t⟩:=h;exact⟨a,xs,e,s _ _ q,t⟩
 |.bd ds,v,h=>by obtain⟨a,xs,e,q,t⟩:=h;exact⟨a,xs,e,s _ _ q,t⟩
 |.dk ds,v,h=>by obtain⟨a,xs,e,n,q,t⟩:=h;exact⟨a,xs,e,q,t⟩
 |.dt ds,v,h=>by obtain⟨a,xs,e,n,q,t⟩:=h;exact⟨a,xs,e,q,t⟩
 |.ob a,v,h=>h
 |.cl _ _,v,h=>h
 |.ll a _,v,h=>h.1
 |.ins a C fs,v,h=>h.1
def wV (i:Nat):WE:=fun τ Q=>∃s,τ[i]?=some (some s)/\Q (T5 s)
def W2o {i:Nat}(h:PE X e (Q5 i)):DE X H0 e (wV i) where
 mono:=fun τ P Q f⟨s,h1,h2⟩=>⟨s,h1,f _ h2⟩
 pe:=R0 h fun σ H Q iK=>by
  obtain⟨τ,hR,s,h1,h2⟩:=iK;obtain⟨v,hv,q⟩:=hR.here i s h1;exact⟨v,hv,h2 v H (A5.refl H) (q.rd hR.same)⟩
def wC (d:D):WE:=fun _ Q=>Q (.st d)
def Q7n {v:V}{d:D}(h:PE X e (tC v))(hd:∀K H,A4 K H d v):DE X H0 e (wC d) where
 mono:=fun τ P Q f h=>f _ h
 pe:=R0 h fun σ H Q⟨τ,hR,h⟩=>h v H (A5.refl H) (hd _ _)
def DE.int {i:Int}{j:Nat}:DE X H0 (.Constant (.int i) j pos) (wC (.int i)):=Q7n V3i fun _ _=>Q1m
def DE.bl {i:Bool}{j:Nat}:DE X H0 (.Constant (.bool i) j pos) (wC (.bl i)):=Q7n V2w fun _ _=>Y1l
def DE.str {i:Str}{j:Nat}:DE X H0 (.Constant (.str i) j pos) (wC (.str i)):=Q7n V3t fun _ _=>Q4c
def DE.non {j:Nat}:DE X H0 (.Constant .none j pos) (wC .non):=Q7n V3m fun _ _=>Q7s
def fzR:R->(D->Prop)->Prop
 |.st d,Q=>Q d
 |.nw ds,Q=>Q (.lst ds)
 |_,_=>False
def A1.freeze {x:Af}  (I:?C)(h:H x=some (.lst xs)):∃o,A1 X ah σ (B0 H x (.frz o (.lst xs))) s:=by
 obtain⟨z,b7,n,r,q⟩:=I.hok x _ h;refine⟨_,I.write (t':=s.toks) (h':=s.heap) (e:=x) (o:=.frz {cls:=.type "list",data:=.seq b7.toArray n} (.lst xs)) (by rw[h];trivial) (.inl rfl) (fun b u _ k=>k) ⟨_,q⟩ ?_⟩;exact⟨q,z,b7,n,r,q⟩
def T6 (h:DE X H0 e we):DE X H0 e (fun τ Q=>we τ fun r=>fzR r fun d=>Q (.st d)) where
 mono:=fun τ P Q f h'=>h.mono τ _ _ (fun r q=>by
  cases r<;>first |exact f _ q |exact q) h'
 pe:=by
  intro ah s σ H Q I ⟨τ,hR,hw⟩;refine B3 (h.pe ah s σ H (fun v H'=>A5 H H'/\∃r,F7 X.K H H' r v/\fzR r fun d=>∀v H',A5 H H'->A4 X.K H' d v->Q v H') I ⟨τ,hR,h.mono τ _ _ (fun r q v H' sm ir=>⟨sm,r,ir,q⟩) hw⟩) ?_;rintro u s1 ⟨v,H1,I1,rv,sm,r,ir,q⟩;cases r with
  |st d=>exact⟨v,H1,I1,rv,q v H1 sm ir⟩
  |nw ds=>
   obtain⟨p,xs,rfl,hn,hp,al⟩:=ir;obtain⟨o,I2⟩:=A1.freeze I1 hp;refine⟨.ref p,_,I2,rv,q _ _ (fun b ob hb=>?_) (A4.s_lst (.inl ⟨o,upd_same⟩) (al.mono (Q1n hp _) _ _))⟩;rw[B2 (Z4 hb hn)];exact sm b ob hb
  |bw _=>exact q.elim
  |dk _=>exact q.elim
  |dt _=>exact q.elim
  |ob _=>exact q.elim
  |cl _ _=>exact q.elim
  |ms _ _ _ _=>exact q.elim
def two (ha:DE X H0 a wa)(hb:DE X H0 b wb)    (hR:C2 X.K H0 τ σ H){F:R->R->Prop}(h:wa τ fun x=>wb τ fun y=>F x y){G:V->V->Hp->Prop}
  (hG:∀x y v u H',A5 H H'->F7 X.K H H' x v->F7 X.K H H' y u->F x y->G v u H'):Z6k X.K H0 wa σ H fun v H1=>Z6k X.K H0 wb σ H1 fun u H2=>G v u H2:=
 ⟨τ,hR,ha.mono τ _ _ (fun x hx v H1 s1 r1=>⟨τ,hR.mono s1,hb.mono τ _ _ (fun y hy u H2 s2 r2=>hG x y v u H2 (s1.trans s2) (r1.mono s2) (r2.older s1) hy) hx⟩) h⟩
def OpD (X:Cx)(f:Ad->Ad->Sem Ad)(g:R->R->(R->Prop)->Prop):Prop:=
 O9 X f (fun x y H Q=>∃r1 r2,IsV X.K H r1 x/\IsV X.K H r2 y/\g r1 r2 fun r=>∀v H',A5 H H'->F7 X.K H H' r v->Q v H')
def Q0p (g:R->R->(α->Prop)->Prop):Prop:=∀x y (P Q:α->Prop),(∀r,P r->Q r)->g x y P->g x y Q
def A3 (g:R->R->(α->Prop)->Prop)(wa wb:WE):C8->(α->Prop)->Prop:=fun τ Q=>wa τ fun x=>wb τ fun y=>g x y Q
def DE.op {op:Operator}{g:R->R->(R->Prop)->Prop}(ho:OpD X (binaryOp op) g)(mg:Q0p g)(ha:DE X H0 a wa)(hb:DE X H0 b wb):DE X H0 (.BinOp a op b pos) (A3 g wa wb) where
 mono:=fun τ P Q f h=>ha.mono τ _ _ (fun x h=>hb.mono τ _ _ (fun y h=>mg x y P Q f h) h) h
 pe:=R0 (V3p ho ha.pe hb.pe) fun σ H Q ⟨τ,hR,h⟩=>two ha hb hR h fun x y v u H' sm rx ry q=>
  ⟨x,y,rx.v,ry.v,mg x y _ _ (fun r q v eX s2 ir=>q v eX (sm.trans s2) (ir.older sm)) q⟩
def X0 (X:Cx)(op:CmpOp)(g:R->R->(Bool->Prop)->Prop):Prop:=
 O9 X (compareOp op) (fun x y H Q=>∃r1 r2,IsV X.K H r1 x/\IsV X.K H r2 y/\g r1 r2 fun k=>Q (.bl k) H)
def DE.cmp {op:CmpOp}{g:R->R->(Bool->Prop)->Prop}(ho:X0 X op g)(mg:Q0p g)(ha:DE X H0 a wa)(hb:DE X H0 b wb)(hm:behindInMarks op b=false):
  DE X H0 (.Compare a [op] [b] pos) (fun τ Q=>A3 g wa wb τ fun k=>Q (.st (.bl k))) where
 mono:=fun τ P Q f h=>ha.mono τ _ _ (fun x h=>hb.mono τ _ _ (fun y h=>mg x y _ _ (fun k q=>f _ q) h) h) h
 pe:=R0 (V3a ho ha.pe hb.pe hm) fun σ H Q ⟨τ,hR,h⟩=>two ha hb hR h fun x y v u H' sm rx ry q=>
  ⟨x,y,rx.v,ry.v,mg x y _ _ (fun r q=>q _ _ sm Z0y) q⟩
def DT.cmp {op:CmpOp}{g:R->R->(Bool->Prop)->Prop}(ho:X0 X op g)(mg:Q0p g)(ha:DE X H0 a wa)(hb:DE X H0 b wb)(hm:behindInMarks op b=false):
  DT X H0 (.Compare a [op] [b] pos) (A3 g wa wb) where
 mono:=fun τ P Q f h=>ha.mono τ _ _ (fun x h=>hb.mono τ _ _ (fun y h=>mg x y _ _ (fun k q=>f _ q) h) h) h
 pt:=ptW (V4p ho ha.pe hb.pe hm) fun σ H Q ⟨τ,hR,h⟩=>two ha hb hR h fun x y v u H' sm rx ry q=>
  ⟨x,y,rx.v,ry.v,mg x y _ _ (fun r q=>⟨r,rfl,q _ sm⟩) q⟩
def Q4v:R->(Bool->Prop)->Prop
 |.st .non,Q=>Q false
 |.st (.bl b),Q=>Q b
 |.st (.int i),Q=>Q (i != 0)
 |.st (.str x),Q=>x.length<=sizeLine/\Q ((x.length:Int) != 0)
 |.st (.tup ds),Q=>Q (!ds.isEmpty)
 |.st (.lst ds),Q=>Q (!ds.isEmpty)
 |.nw ds,Q=>Q (!ds.isEmpty)
 |.bw ds,Q=>Q (!ds.isEmpty)
 |.dk kvs,Q=>Q (!kvs.isEmpty)
 |.dt _,_=>False
 |.ob _,_=>False
 |.cl _ _,_=>False
 |.ms _ _ _ _,_=>False
theorem AllS.empty {K:Fg9}  {ds:M D}  (h:AllS K H ds xs):ds.isEmpty=xs.isEmpty:=by
 have:=h.length;cases ds<;>cases xs<;>simp_all
def V9z (r:R)(P Q:Bool->Prop)(f:∀r,P r->Q r)(h:Q4v r P):Q4v r Q:=by
 unfold Q4v at h ⊢;split at h<;>first |exact f _ h |exact⟨h.1,f _ h.2⟩ |exact h
theorem J0c {K:Fg9}  {r:R}{v:V}(ir:IsV K H r v){Q:Bool->Prop}(h:Q4v r Q):∃k,Z4f K v H k/\Q k:=by
 cases r with
 |st d=>
  cases d with
  |non=>cases (show v=.non from ir);exact⟨_,rfl,h⟩
  |bl b=>cases (show v=.bl b from ir);exact⟨_,rfl,h⟩
  |int b=>cases (show v=.int b from ir);exact⟨_,rfl,h⟩
  |str b=>cases (show v=.str b from ir);exact⟨_,⟨h.1,rfl⟩,h.2⟩
  |tup ds=>
   have ir:A4 K H (.tup ds) v:=ir;unfold A4 at ir;obtain⟨p,xs,rfl,q,al⟩:=ir;exact⟨_,.inr (.inl ⟨xs,E2.of q,rfl⟩),by rw[<-al.empty];exact h⟩
  |lst ds=>
   have ir:A4 K H (.lst ds) v:=ir;unfold A4 at ir;obtain⟨p,xs,rfl,q,al⟩:=ir;exact⟨_,.inl ⟨xs,q.sq,rfl⟩,by rw[<-al.empty];exact h⟩
 |nw ds=>obtain⟨p,xs,rfl,_,q,al⟩:=ir;exact⟨_,.inl ⟨xs,F2.of q,rfl⟩,by rw[<-al.empty];exact h⟩
 |bw ds=>obtain⟨p,xs,rfl,q,al⟩:=ir;exact⟨_,.inl ⟨xs,F2.of q,rfl⟩,by rw[<-al.empty];exact h⟩
 |dk ds=>
  obtain⟨p,xs,rfl,q,al⟩:=ir;refine⟨_,.inr (.inr ⟨xs,q,rfl⟩),?_⟩;cases ds with
  |nil=>cases (show xs=[]from al);exact h
  |cons d ds=>obtain⟨v,r,rfl,_⟩:=al;exact h
 |dt _=>exact h.elim
 |ob _=>exact h.elim
 |cl _ _=>exact h.elim
 |ms _ _ _ _=>exact h.elim
def Z3r (ha:DE X H0 a wa)(he:∀whole,isTrue a X.env whole=(do let v <- whole;standAt a.pos;holding [v] (truthy v))):DT X H0 a (fun τ Q=>wa τ fun r=>Q4v r Q) where
 mono:=fun τ P Q f h=>ha.mono τ _ _ (fun x h=>V9z x P Q f h) h
 pt:=ptW (V4q ha.pe he) fun σ H Q ⟨τ,hR,h⟩=>⟨τ,hR,ha.mono τ _ _ (fun r q v H' sm ir=>by
  obtain⟨k,h1,h2⟩:=J0c ir.v q;exact⟨k,h1,h2 H' sm⟩) h⟩
variable {ta tb tc:WT}{rest:M Ag}
def Q3w (t u:WT):WT:=fun τ Q=>t τ fun k=>if k=true then u τ Q else Q false
def wOr (t u:WT):WT:=fun τ Q=>t τ fun k=>if k=true then Q true else u τ Q
theorem Z3 {c A B A' B':Prop}[Decidable c](f:A->A')(g:B->B')(h:if c then A else B):if c then A' else B':=by grind
def DW.and1 (ha:DT X H0 a ta):DW X H0 (.BoolOp .And [a] pos) ta:=⟨ha.mono,V4s ha.pt⟩
def DW.or1 (ha:DT X H0 a ta):DW X H0 (.BoolOp .Or [a] pos) ta:=⟨ha.mono,V4u ha.pt⟩
def DW.and (ha:DT X H0 a ta)(hb:DW X H0 (.BoolOp .And (b::rest) pos) tb):DW X H0 (.BoolOp .And (a::b::rest) pos) (Q3w ta tb) where
 mono:=fun τ P Q f h=>ha.mono τ _ _ (fun k h=>Z3 (hb.mono τ _ _ f) (f _) h) h
 pw:=pwW (V4r ha.pt hb.pw) fun σ H Q ⟨τ,hR,h⟩=>⟨τ,hR,ha.mono τ _ _ (fun k q H1 s1=>
  Z3 (fun h=>⟨τ,hR.mono s1,hb.mono τ _ _ (fun k q H2 s2=>q H2 (s1.trans s2)) h⟩) (fun h=>h H1 s1) q) h⟩
def DW.or (ha:DT X H0 a ta)(hb:DW X H0 (.BoolOp .Or (b::rest) pos) tb):DW X H0 (.BoolOp .Or (a::b::rest) pos) (wOr ta tb) where
 mono:=fun τ P Q f h=>ha.mono τ _ _ (fun k h=>Z3 (f _) (hb.mono τ _ _ f) h) h
 pw:=pwW (V4t ha.pt hb.pw) fun σ H Q ⟨τ,hR,h⟩=>⟨τ,hR,ha.mono τ _ _ (fun k q H1 s1=>
  Z3 (fun h=>h H1 s1) (fun h=>⟨τ,hR.mono s1,hb.mono τ _ _ (fun k q H2 s2=>q H2 (s1.trans s2)) h⟩) q) h⟩
def DW.t (h:DW X H0 a ta):DT X H0 a ta:=⟨h.mono,h.pw.pt⟩
def blR:R->(Bool->Prop)->Prop
 |.st (.bl b),Q=>Q b
 |_,_=>False
def Q6h {r:R}{P:Bool->Prop}(h:blR r P):∃k,r=.st (.bl k)/\P k:=by
 unfold blR at h;split at h
 ·exact⟨_,rfl,h⟩
 ·exact h.elim
def Q9n (wa wb:WE):WE:=fun τ Q=>wa τ fun r=>blR r fun k=>if k=true then wb τ Q else Q (.st (.bl false))
def Z9q (wa wb:WE):WE:=fun τ Q=>wa τ fun r=>blR r fun k=>if k=true then Q (.st (.bl true))else wb τ Q
def Z9o (wa:WE):WE:=fun τ Q=>wa τ fun r=>blR r fun k=>Q (.st (.bl (!k)))
def DE.and1 (ha:DE X H0 a wa):DE X H0 (.BoolOp .And [a] pos) wa:=⟨ha.mono,Y7m ha.pe⟩
def DE.or1 (ha:DE X H0 a wa):DE X H0 (.BoolOp .Or [a] pos) wa:=⟨ha.mono,Y7m ha.pe⟩
def DE.and (ha:DE X H0 a wa)(hb:DE X H0 (.BoolOp .And (b::rest) pos) wb):DE X H0 (.BoolOp .And (a::b::rest) pos) (Q9n wa wb) where
 mono:=fun τ P Q f h=>ha.mono τ _ _ (fun r h=>by
  obtain⟨k,rfl,h⟩:=Q6h h;exact Z3 (hb.mono τ _ _ f) (f _) h) h
 pe:=R0 (V2v ha.pe hb.pe) fun σ H Q ⟨τ,hR,h⟩=>⟨τ,hR,ha.mono τ _ _ (fun r h v H1 s1 ir=>by
  obtain⟨k,rfl,h⟩:=Q6h h;refine⟨k,ir,Z3 (fun h=>⟨τ,hR.mono s1,hb.mono τ _ _ (fun r q u H2 s2 iu=>q u H2 (s1.trans s2) (iu.older s1)) h⟩) (fun h=>h _ _ s1 Z0y) h⟩) h⟩
def DE.or (ha:DE X H0 a wa)(hb:DE X H0 (.BoolOp .Or (b::rest) pos) wb):DE X H0 (.BoolOp .Or (a::b::rest) pos) (Z9q wa wb) where
 mono:=fun τ P Q f h=>ha.mono τ _ _ (fun r h=>by
  obtain⟨k,rfl,h⟩:=Q6h h;exact Z3 (f _) (hb.mono τ _ _ f) h) h
 pe:=R0 (V3q ha.pe hb.pe) fun σ H Q ⟨τ,hR,h⟩=>⟨τ,hR,ha.mono τ _ _ (fun r h v H1 s1 ir=>by
  obtain⟨k,rfl,h⟩:=Q6h h;refine⟨k,ir,Z3 (fun h=>h _ _ s1 Z0y) (fun h=>⟨τ,hR.mono s1,hb.mono τ _ _ (fun r q u H2 s2 iu=>q u H2 (s1.trans s2) (iu.older s1)) h⟩) h⟩) h⟩
def DE.nt (ha:DE X H0 a wa):DE X H0 (.UnaryOp .Not a pos) (Z9o wa) where
 mono:=fun τ P Q f h=>ha.mono τ _ _ (fun r h=>by
  obtain⟨k,rfl,h⟩:=Q6h h;exact f _ h) h
 pe:=R0 (V3n ha.pe) fun σ H Q ⟨τ,hR,h⟩=>⟨τ,hR,ha.mono τ _ _ (fun r h v H1 s1 ir=>by
  obtain⟨k,rfl,h⟩:=Q6h h;exact⟨k,ir,h _ _ s1 Z0y⟩) h⟩
def wIf (t:WT)(wa wb:WE):WE:=fun τ Q=>t τ fun k=>if k=true then wa τ Q else wb τ Q
def DE.ife (hc:DT X H0 c tc)(ha:DE X H0 a wa)(hb:DE X H0 b wb):DE X H0 (.IfExp c a b pos) (wIf tc wa wb) where
 mono:=fun τ P Q f h=>hc.mono τ _ _ (fun k h=>Z3 (ha.mono τ _ _ f) (hb.mono τ _ _ f) h) h
 pe:=R0 (V3h hc.pt ha.pe hb.pe) fun σ H Q ⟨τ,hR,h⟩=>⟨τ,hR,hc.mono τ _ _ (fun k h H1 s1=>
  Z3 (fun h=>⟨τ,hR.mono s1,ha.mono τ _ _ (fun r q u H2 s2 iu=>q u H2 (s1.trans s2) (iu.older s1)) h⟩) (fun h=>⟨τ,hR.mono s1,hb.mono τ _ _ (fun r q u H2 s2 iu=>q u H2 (s1.trans s2) (iu.older s1)) h⟩) h) h⟩
variable {es:M Ag}
def A2:WA:=fun _ Q=>Q []
def A0 (we:WE)(wr:WA):WA:=fun τ Q=>we τ fun r=>wr τ fun rs=>Q (r::rs)
theorem O5.older {K:Fg9}  (s:A5 H0 H1):∀{rs:M R}{vs:M V},O5 K H1 H rs vs->O5 K H0 H rs vs
 |[],_,h=>h
 |r::rs,_,h=>by obtain⟨v,t,e,q,z⟩:=h;exact⟨v,t,e,q.older s,O5.older s z⟩
def DA.nil:DA X H0 [] A2:=⟨fun τ Q h=>⟨rfl,h⟩,fun τ P Q f h=>f _ h,paW Q4q fun σ H Q⟨τ,hR,h⟩=>h [] H (A5.refl H) rfl⟩
def DA.cons (ha:DE X H0 e we)(hr:DA X H0 es wr)(hs:?I:=by rfl):DA X H0 (e::es) (A0 we wr) where
 len:=fun τ Q h=>ha.mono τ _ _ (fun r h=>hr.mono τ _ _ (fun rs h=>⟨by rw[aH,aH,h.1],h.2⟩) (hr.len τ _ h)) h
 mono:=fun τ P Q f h=>ha.mono τ _ _ (fun r h=>hr.mono τ _ _ (fun rs h=>f _ h) h) h
 pa:=paW (Q1w ha.pe hr.pa hs) fun σ H Q ⟨τ,hR,h⟩=>⟨τ,hR,ha.mono τ _ _ (fun r h v H1 s1 ir=>⟨τ,hR.mono s1,hr.mono τ _ _ (fun rs h vs H2 s2 dA=>
  h (v::vs) H2 (s1.trans s2) ⟨v,vs,rfl,ir.mono s2,dA.older s1⟩) h⟩) h⟩
def Q1z:M R->Ac (M D)
 |[]=>some []
 |.st d::rs=>(Q1z rs).map (d::·)
 |_::_=>none
theorem Z8d {K:Fg9}:∀{rs:M R}{ds:M D}{vs:M V},Q1z rs=some ds->O5 K H0 H rs vs->AllS K H ds vs
 |[],ds,vs,h,q=>by cases h;cases q;exact AllS.nil
 |.st d::rs,ds,vs,h,q=>by
  obtain⟨v,t,rfl,iv,z⟩:=q;unfold Q1z at h;cases e:Q1z rs with
  |none=>rw[e]at h;cases h
  |some es=>rw[e]at h;cases h;exact AllS.cons iv (Z8d e z)
 |.nw _::_,_,_,h,_=>by cases h
 |.bw _::_,_,_,h,_=>by cases h
 |.dk _::_,_,_,h,_=>by cases h
 |.dt _::_,_,_,h,_=>by cases h
 |.ob _::_,_,_,h,_=>by cases h
 |.cl _ _::_,_,_,h,_=>by cases h
 |.ms _ _ _ _::_,_,_,h,_=>by cases h
def Q0l (wr:WA):WE:=fun τ Q=>wr τ fun rs=>∃ds,Q1z rs=some ds/\ds.length<=sizeLine/\Q (.st (.tup ds))
def K0 (wr:WA):WE:=fun τ Q=>wr τ fun rs=>∃ds,Q1z rs=some ds/\ds.length<=sizeLine/\Q (.nw ds)
def DE.tup {k:Nat}(h:DA X H0 es wr):DE X H0 (.Tuple es k pos) (Q0l wr) where
 mono:=fun τ P Q f h'=>h.mono τ _ _ (fun rs⟨ds,e,l,q⟩=>⟨ds,e,l,f _ q⟩) h'
 pe:=R0 (V3u h.pa) fun σ H Q ⟨τ,hR,h'⟩=>⟨τ,hR,h.mono τ _ _ (fun rs my vs H1 s1 dA=>by
  obtain⟨ds,e,l,q⟩:=my;have al:=Z8d e dA;refine⟨by rw[<-al.length];exact l,fun p hp=>q _ _ (s1.trans (G3 hp _)) (A4.s_tup upd_same (al.mono (Kp.of (G3 hp _)) _ _))⟩) h'⟩
def DE.lst (h:DA X H0 es wr):DE X H0 (.List es pos) (K0 wr) where
 mono:=fun τ P Q f h'=>h.mono τ _ _ (fun rs⟨ds,e,l,q⟩=>⟨ds,e,l,f _ q⟩) h'
 pe:=R0 (V3l h.pa) fun σ H Q ⟨τ,hR,h'⟩=>⟨τ,hR,h.mono τ _ _ (fun rs rg vs H1 s1 dA=>by
  obtain⟨ds,e,l,q⟩:=rg;have al:=Z8d e dA;refine⟨by rw[<-al.length];exact l,fun p hp=>q _ _ (s1.trans (G3 hp _)) ⟨p,vs,rfl,s1.free hp,upd_same,al.mono (Kp.of (G3 hp _)) _ _⟩⟩) h'⟩
end
def Q1q {l:M (Ac α)}{i:Nat}{x:Ac α}(h:i<l.length):(l.set i x)[i]?=some x:=by simp[h]
def C2.set {K:Fg9}    {i:Nat}{s:Sl}{v:V}(h:C2 K H0 τ σ H)(q:Z8 K H0 H s v)
  (ap:s.mut=true->∀(j:Nat) (t:Sl),j≠i->τ[j]?=some (some t)->t.mut=true->σ[j]?≠some (some v)):C2 K H0 (τ.set i (some s)) (σ.set i (some v)) H where
 len:=by rw[bG,bG];exact h.len
 same:=h.same
 here:=fun j t e=>by
  by_cases hj:j=i
  ·subst hj
   by_cases hl:j<τ.length
   ·rw[Q1q hl]at e;cases e;exact⟨v,Q1q (by rw[<-h.len];exact hl),q⟩
   ·rw[ay.mpr (by rw[bG];omega)]at e;cases e
  ·rw[aN (fun z=>hj z.symm)]at e ⊢;exact h.here j t e
 apart:=fun j k s1 s2 u dg e1 e2 m1 m2 q1 q2=>by
  by_cases hj:j=i
  ·subst hj;have hk:k≠j:=fun z=>dg z.symm
   by_cases hl:j<τ.length
   ·rw[Q1q hl]at e1;cases e1;rw[Q1q (by rw[<-h.len];exact hl)]at q1;cases q1;rw[aN (fun z=>hk z.symm)]at e2 q2;exact ap m1 k s2 hk e2 m2 q2
   ·rw[ay.mpr (by rw[bG];omega)]at e1;cases e1
  ·by_cases hk:k=i
   ·subst hk
    by_cases hl:k<τ.length
    ·rw[Q1q hl]at e2;cases e2;rw[Q1q (by rw[<-h.len];exact hl)]at q2;cases q2;rw[aN (fun z=>hj z.symm)]at e1 q1;exact ap m2 j s1 hj e1 m1 q1
    ·rw[ay.mpr (by rw[bG];omega)]at e2;cases e2
   ·rw[aN (fun z=>hj z.symm)]at e1 q1;rw[aN (fun z=>hk z.symm)]at e2 q2;exact h.apart j k s1 s2 u dg e1 e2 m1 m2 q1 q2
theorem C2.tracked {K:Fg9}    {j:Nat}{t:Sl}{p:Af}(h:C2 K H0 τ σ H)(e:τ[j]?=some (some t))(m:t.mut=true)(q:σ[j]?=some (some (.ref p))):∃o,H p=?R:=by
 obtain⟨v,hv,r⟩:=h.here j t e;rw[q]at hv;cases hv;cases t with
 |dat _=>cases m
 |bor _=>cases m
 |bd _=>cases m
 |own ds=>obtain⟨a,xs,e,_,q,_⟩:=r;cases e;exact⟨_,q⟩
 |dk ds=>obtain⟨a,xs,e,_,q,_⟩:=r;cases e;exact⟨_,q⟩
 |dt ds=>obtain⟨a,xs,e,_,q,_⟩:=r;cases e;exact⟨_,q⟩
 |ob _=>cases m
 |cl _ _=>cases m
 |ll _ _=>cases m
 |ins _ _ _=>obtain⟨e,_,dx,xs,q,_⟩:=r;cases e;exact⟨_,q⟩
def U7:R->(Sl->Prop)->Prop
 |.st d,Q=>Q (.dat d)
 |.nw ds,Q=>Q (.own ds)
 |_,_=>False
theorem V8x {r:R}{P:Sl->Prop}(h:U7 r P):∃s,P s/\((∃d,r=.st d/\s=.dat d)\/∃ds,r=.nw ds/\s=.own ds):=by
 cases r with
 |st d=>exact⟨_,h,.inl ⟨d,rfl,rfl⟩⟩
 |nw ds=>exact⟨_,h,.inr ⟨ds,rfl,rfl⟩⟩
 |bw _=>exact h.elim
 |dk _=>exact h.elim
 |dt _=>exact h.elim
 |ob _=>exact h.elim
 |cl _ _=>exact h.elim
 |ms _ _ _ _=>exact h.elim
def Z8r {r:R}{P Q:Sl->Prop}(f:∀s,P s->Q s)(h:U7 r P):U7 r Q:=by
 cases r<;>first |exact f _ h |exact h
def C2.store {K:Fg9}    {i:Nat}{r:R}{v:V}(h:C2 K H0 τ σ H)(sm:A5 H H1)(ir:F7 K H H1 r v){P:Sl->Prop}(st:U7 r P):∃s,P s/\C2 K H0 (τ.set i (some s)) (σ.set i (some v)) H1:=by
 obtain⟨s,p,⟨d,rfl,rfl⟩ |⟨ds,rfl,rfl⟩⟩:=V8x st
 ·exact⟨_,p,(h.mono sm).set ir fun m=>by cases m⟩
 ·obtain⟨a,xs,rfl,hn,ha,al⟩:=ir;refine⟨_,p,(h.mono sm).set ⟨a,xs,rfl,h.same.free hn,ha,al⟩ fun _ j t hj e m q=>?_⟩;obtain⟨o,ho⟩:=h.tracked e m q;rw[hn]at ho;cases ho
section
variable {c:Ag}{tc:WT}{mW:M Al}{ws wt:WS}
def L9:WS:=fun E τ=>E.nx τ
def A6 (t u:WS):WS:=fun E τ=>t {E with nx:=u E} τ
def A7.nil:A7 X H0 [] L9:=⟨fun τ E F le h=>le.nx τ h,Z1w V4o fun D σ H⟨τ,hR,h⟩=>h σ H (Kp.refl H) hR⟩
def A7.cons (h1:DS X H0 st ws)(h2:A7 X H0 mW wt):A7 X H0 (st::mW) (A6 ws wt) where
 mono:=fun τ E F le h=>h1.mono τ {E with nx:=wt E} {F with nx:=wt F} ⟨fun τ' h=>h2.mono τ' E F le h,le.rt,le.bk,le.ct⟩ h
 ps:=Z1w (Y7r h1.ps h2.ps) fun D σ H⟨τ,hR,h⟩=>⟨τ,hR,h1.mono τ {Q3 X.K H0 H D with nx:=wt (Q3 X.K H0 H D)} _ ⟨fun τ' h σ' H' k eM=>⟨τ',eM,h2.mono τ' _ _ (Z6j k) h⟩,fun _ h=>h,fun _ h=>h,fun _ h=>h⟩ h⟩
def A7.one (h1:DS X H0 st ws):A7 X H0 [st] ws:=⟨h1.mono,Z1w (Y7s h1.ps) fun D σ H h=>h⟩
def L8 (t:WT)(ws wt:WS):WS:=fun E τ=>t τ fun k=>if k=true then ws E τ else wt E τ
def DS.ife {sa sb:M Al}(hc:DT X H0 c tc)(ha:A7 X H0 sa ws)(hb:A7 X H0 sb wt):DS X H0 (.If c sa sb pos) (L8 tc ws wt) where
 mono:=fun τ E F le h=>hc.mono τ _ _ (fun k h=>Z3 (ha.mono τ E F le) (hb.mono τ E F le) h) h
 ps:=S6 (V4m hc.pt ha.ps hb.ps) fun D σ H ⟨τ,hR,h⟩=>⟨τ,hR,hc.mono τ _ _ (fun k h H1 s1=>
  Z3 (fun h=>⟨τ,hR.mono s1,ha.mono τ _ _ (Z6j (Kp.of s1)) h⟩) (fun h=>⟨τ,hR.mono s1,hb.mono τ _ _ (Z6j (Kp.of s1)) h⟩) h) h⟩
def Q6x:R->(R->Prop)->Prop
 |.st d,Q=>Q (.st d)
 |.nw ds,Q=>Q (.nw ds)
 |_,_=>False
def V6n {r:R}{P:R->Prop}(h:Q6x r P):P r:=by
 cases r<;>first |exact h |exact h.elim
def V6m {r:R}{P Q:R->Prop}(f:∀s,P s->Q s)(h:Q6x r P):Q6x r Q:=by
 cases r<;>first |exact f _ h |exact h
def G2 (we:WE):WS:=fun E τ=>we τ fun r=>Q6x r E.rt
def DS.ret (he:DE X H0 e we):DS X H0 (.Return (some e) pos) (G2 we) where
 mono:=fun τ E F le h=>he.mono τ _ _ (fun r h=>V6m le.rt h) h
 ps:=S6 (Z7m he.pe) fun D σ H⟨τ,hR,h⟩=>⟨τ,hR,he.mono τ _ _ (fun r h v H1 s1 ir=>V6n (P:=(Q3 X.K H0 H D).rt) h v H1 (hR.same.trans s1) (ir.older hR.same)) h⟩
def Q3p:Sl->(R->Prop)->Prop
 |.dat d,Q=>Q (.st d)
 |.own ds,Q=>Q (.nw ds)
 |_,_=>False
def W3c {i:Nat}(he:PE X e (Q5 i)):DS X H0 (.Return (some e) pos) (fun E τ=>∃s,τ[i]?=some (some s)/\Q3p s E.rt) where
 mono:=fun τ E F le jg=>(by obtain⟨s,h1,h2⟩:=jg;exact⟨s,h1,by cases s<;>first |exact le.rt _ h2 |exact h2⟩)
 ps:=S6 (Z7m he) fun D σ H cG=>by
  obtain⟨τ,hR,s,h1,h2⟩:=cG;obtain⟨v,hv,q⟩:=hR.here i s h1;refine⟨v,hv,?_⟩;cases s with
  |dat d=>exact h2 v H hR.same q
  |own ds=>exact h2 v H hR.same q
  |bor _=>exact h2.elim
  |bd _=>exact h2.elim
  |dk _=>exact h2.elim
  |dt _=>exact h2.elim
  |ob _=>exact h2.elim
  |cl _ _=>exact h2.elim
  |ll _ _=>exact h2.elim
  |ins _ _ _=>exact h2.elim
def C4 (i:Nat)(we:WE):WS:=fun E τ=>we τ fun r=>U7 r fun s=>E.nx (τ.set i (some s))
def DS.set {i:Nat}  (he:DE X H0 e we)(hN:X.N.Nodup)(hi:X.N[i]?=some x)(hx:Loc X.env.scope x)(hs:swapsWith e (some (.Name x cg)) pos.line X.env=pure false:=by rfl)
  (hf:?K:=by sleep 1):DS X H0 (.Assign [.Name x cg] e pos) (C4 i we) where
 mono:=fun τ E F le h=>he.mono τ _ _ (fun r h=>Z8r (fun s h=>le.nx _ h) h) h
 ps:=S6 (Q6w hN hi hx he.pe hs hf) fun D σ H ⟨τ,hR,h⟩=>⟨τ,hR,he.mono τ _ _ (fun r h v H1 s1 ir=>by
  obtain⟨s,p,eM⟩:=hR.store (i:=i) s1 ir h;exact p _ _ (Kp.of s1) eM) h⟩
def G8 (t:WT)(wb:WS):Nat->WS
 |0=>fun _ _=>False
 |n+1=>fun E τ=>t τ fun k=>if k=true then wb {E with nx:=G8 t wb n E,ct:=G8 t wb n E,bk:=E.nx} τ else E.nx τ
def Q2v (t:WT)(wb:WS):WS:=fun E τ=>∃n,G8 t wb n E τ
theorem Y0f (ht:∀(τ:C8) (P Q:Bool->Prop),(∀r,P r->Q r)->tc τ P->tc τ Q)(hb:∀(τ:C8) (E F:F6),E.Le F->ws E τ->ws F τ):
  ∀(n:Nat) (τ:C8) (E F:F6),E.Le F->G8 tc ws n E τ->G8 tc ws n F τ
 |0,_,_,_,_,h=>h
 |n+1,τ,E,F,le,h=>ht τ _ _ (fun k h=>Z3 (hb τ {E with nx:=G8 tc ws n E,ct:=G8 tc ws n E,bk:=E.nx} {F with nx:=G8 tc ws n F,ct:=G8 tc ws n F,bk:=F.nx} ⟨fun τ h=>Y0f ht hb n τ E F le h,le.rt,le.nx,fun τ h=>Y0f ht hb n τ E F le h⟩) (le.nx τ) h) h
def Q7p (hp:PassesOwn ?D X.A X.env X.xe)(hc:DT X H0 c tc)(hb:A7 X H0 body ws):DS X H0 (.While c body [] pos) (Q2v tc ws) where
 mono:=fun τ E F le⟨n,h⟩=>⟨n,Y0f hc.mono hb.mono n τ E F le h⟩
 ps:=S6 (V4n hp hc.pt hb.ps) fun D σ H0' cU=>by
  obtain⟨τ,hR,n,h⟩:=cU;refine⟨fun m σ H=>∃ τ,C2 X.K H0 τ σ H/\Kp H0' H/\G8 tc ws m (Q3 X.K H0 H0' D) τ,⟨n,τ,hR,Kp.refl _,h⟩,?_⟩;rintro m σ H ⟨τ,hR,kp,h⟩;cases m with
  |zero=>exact h.elim
  |succ m=>
   refine⟨τ,hR,hc.mono τ _ _ (fun k h H1 s1=>Z3 (fun h=>?_) (fun h=>h σ H1 (kp.trans (Kp.of s1)) (hR.mono s1)) h) h⟩;refine⟨fun σ' H'=>∃ τ,C2 X.K H0 τ σ' H'/\Kp H0' H'/\G8 tc ws m (Q3 X.K H0 H0' D) τ,fun σ' H' h'=>⟨m,c8 m,h'⟩,τ,hR.mono s1,?_⟩;have k1:=kp.trans (Kp.of s1);exact hb.mono τ {Q3 X.K H0 H0' D with nx:=G8 tc ws m (Q3 X.K H0 H0' D),ct:=G8 tc ws m (Q3 X.K H0 H0' D),bk:=(Q3 X.K H0 H0' D).nx} _
    ⟨fun τ' h' σ' H' k eM=>⟨τ',eM,k1.trans k,h'⟩,fun _ h=>h,fun τ' h' σ' H' k eM=>h' σ' H' (k1.trans k) eM,fun τ' h' σ' H' k eM=>⟨τ',eM,k1.trans k,h'⟩⟩ h
end
abbrev F4:=M R->R->Prop
variable {sp:F4}
def P0:R->Bool
 |.st _=>true
 |.nw _=>true
 |.bw _=>true
 |.ob _=>true
 |.cl _ _=>true
 |_=>false
def nrm:R->R
 |.nw ds=>.bw ds
 |r=>r
def Q4m (K:Fg9)(n:Nat)(sp:F4):Sp:=fun vs H Q _=>∃(rs:M R) (r:R),rs.length=n/\O5 K (fun _=>none) H rs vs/\rs.all P0=true/\sp (rs.map nrm) r/\∀v H',A5 H H'->F7 K H H' r v->Q v H'
def N9:R->Sl
 |.st d=>.dat d
 |.nw ds=>.bor ds
 |.bw ds=>.bor ds
 |.dk k=>.dk k
 |.dt k=>.dt k
 |.ob a=>.ob a
 |.cl a Φ=>.cl a Φ
 |.ms a C _ fs=>.ins a C fs
def E8 (N:M Str)(rs:M R):C8:=rs.map (fun r=>some (N9 r))++List.replicate (N.length-rs.length) none
theorem O5.length {K:Fg9}:∀{rs:M R}{vs:M V},O5 K H0 H rs vs->rs.length=vs.length
 |[],_,h=>by cases h;rfl
 |r::rs,_,h=>by obtain⟨v,t,rfl,_,z⟩:=h;rw[aH,aH,O5.length z]
theorem O5.get {K:Fg9}:∀{rs:M R}{vs:M V}{i:Nat}{r:R},O5 K H0 H rs vs->rs[i]?=some r->∃v,vs[i]?=some v/\F7 K H0 H r v
 |[],_,_,_,_,e=>by simp at e
 |r::rs,_,0,r',h,e=>by obtain⟨v,t,rfl,q,z⟩:=h;simp at e;subst e;exact⟨v,rfl,q⟩
 |r::rs,_,i+1,r',h,e=>by
  obtain⟨v,t,rfl,q,z⟩:=h;obtain⟨u,h1,h2⟩:=O5.get (i:=i) z (by simpa using e);exact⟨u,by simpa using h1,h2⟩
theorem O5.v {K:Fg9}:∀{rs:M R}{vs:M V},O5 K H0 H rs vs->O5 K (fun _=>none) H rs vs
 |[],_,h=>h
 |r::rs,_,h=>by obtain⟨v,t,e,q,z⟩:=h;exact⟨v,t,e,q.v,O5.v z⟩
theorem V8v (r:R):N9 (nrm r)=N9 r:=by cases r<;>rfl
theorem Z2p (N:M Str)(rs:M R):E8 N (rs.map nrm)=E8 N rs:=by grind [E8,aJ,ag,b8,V8v]
theorem Z8.arg {K:Fg9}:∀{r:R}{v:V},P0 r=true->IsV K H r v->Z8 K H H (N9 r) v
 |.st d,v,_,h=>h
 |.nw ds,v,_,h=>by obtain⟨a,xs,e,_,q,t⟩:=h;exact⟨a,xs,e,q,t⟩
 |.bw ds,v,_,h=>h
 |.dk _,_,h,_=>by cases h
 |.dt _,_,h,_=>by cases h
 |.ob a,v,_,h=>h
 |.cl _ _,v,_,h=>h
 |.ms _ _ _ _,_,h,_=>by cases h
theorem V8u:∀{r:R},P0 r=true->(N9 r).mut=false
 |.st d,_=>rfl
 |.nw ds,_=>rfl
 |.bw ds,_=>rfl
 |.dk _,h=>by cases h
 |.dt _,h=>by cases h
 |.ob _,_=>rfl
 |.cl _ _,_=>rfl
 |.ms _ _ _ _,h=>by cases h
def Z1x {K:Fg9}   {rs:M R}  (al:O5 K (fun _=>none) H rs vs)(ok:rs.all P0=true):C2 K H (E8 N rs) (start N vs) H:=by
 have hl:=al.length;have at_:∀(i:Nat) (s:Sl),(E8 N rs)[i]?=some (some s)->∃r,rs[i]?=some r/\s=N9 r:=fun i s e=>by
  unfold E8 at e
  by_cases hi:i<rs.length
  ·rw[aI (by rw[ag];exact hi),ai,aa hi]at e;exact⟨rs[i],aa hi,(az (az e)).symm⟩
  ·rw[aT (by rw[ag];omega)]at e;have:=aD e;rw[i3]at this;cases this.2
 have sW:∀(i:Nat) (r:R),rs[i]?=some r->P0 r=true:=fun i r e=>cf.mp ok r (aD e);refine⟨?_,A5.refl H,fun i s e=>?_,fun i j s t v _ e1 _ m _ _ _=>?_⟩
 ·unfold E8 start;rw[aq,aq,ag,ag,b9,b9,hl]
 ·obtain⟨r,hr,rfl⟩:=at_ i s e;obtain⟨v,hv,q⟩:=al.get hr;refine⟨v,?_,Z8.arg (sW i r hr) q⟩;unfold start;have hi:i<vs.length:=by
   rcases aX i vs.length with h |h
   ·exact h
   ·rw[ay.mpr h]at hv;cases hv
  rw[aI (by rw[ag];exact hi),ai,hv]
  rfl
 ·obtain⟨r,hr,rfl⟩:=at_ i s e1;rw[V8u (sW i r hr)]at m;cases m
section
variable {w:Ak}{K:Fg9}
def Fun.okD {k:Nat}  (F:Fun K x qual st f fd)(S:Y7 N ps (C6 st))
  (cn:∀(cdv:Ad) (A:Ah) (outer:M Env) (s:Ae) (H:Hp) (E:XK),F8 k (A.deeper (envOfC qual (C6 st) s.heap.objs.size f cdv)) ->
   ∃ws,A7 (U5 J7 P w K mg base N qual (C6 st) f cdv A outer s H E).nox H (N3 st) ws /\
    ∀rs r,rs.length=ps.length->sp rs r->ws {nx:=fun _=>r=.st .non,rt:=fun r'=>r'=r,bk:=fun _=>False,ct:=fun _=>False} (E8 N rs)):
  S7 P w K mg base J7 (k+1) f fd ps (Q4m K ps.length sp):=by
 refine F.ok S (fun vs H Q E h=>?_) (fun cdv A outer s H vs Q E hr h=>?_)
 ·obtain⟨rs,r,hl,al,_⟩:=h;rw[<-al.length];exact hl
 obtain⟨rs,r,hl,al,ok,h1,h2⟩:=h;obtain⟨ws,hd,hw⟩:=cn cdv A outer s H E hr;refine⟨_,hd.ps,E8 N rs,Z1x al ok,?_⟩;have hw:=hw (rs.map nrm) r (by rw[ag];exact hl) h1;rw[Z2p]at hw;refine hd.mono _ _ _ ⟨fun τ h σ H' _ hR=>?_,fun r' h v H' sm ir=>?_,fun _ h=>False.elim h,fun _ h=>False.elim h⟩ hw
 ·have h:r=.st .non:=h;subst h;exact h2 .non H' hR.same (Q7s (K:=K) (H:=H'))
 ·have h:r'=r:=h;subst h;exact h2 v H' sm ir
end
section
variable {es:M Ag}{k:Nat}
def L7 (sp:F4)(wr:WA):WE:=fun τ Q=>wr τ fun rs=>rs.all P0=true/\∃r,sp (rs.map nrm) r/\Q r
def DE.call (F:S7 X.prog X.w X.K X.mg X.base J7 k f fd ps (Q4m X.K (e::es).length sp))(hr:F8 k X.A)(hg:Gl X x)(hm:X.mg x=some (.ref f))(hk:PySem.W.keepIn X.K (.ref f)=true)(hb:U3 X.K fd ps [])
  (ha:DA X H0 (e::es) wr) (ga:(x==("__debug__":Str))=false:=by decide) (he:?I:=by rfl) (hpl:?S:=by rfl):
  DE X H0 (.Call (.Name x p) (e::es) [] pos) (L7 sp wr) where
 mono:=fun τ P Q f h=>ha.mono τ _ _ (fun rs⟨ok,r,h1,h2⟩=>⟨ok,r,h1,f r h2⟩) h
 pe:=R0 (Z7h F hr hg hm hk hb .nil Z1u ha.pa ga he hpl) fun σ H Q ⟨τ,hR,h⟩=>⟨τ,hR,ha.mono τ _ _ (fun rs ff vs H1 s1 dA=>by
  obtain⟨mH,ok,r,h1,h2⟩:=ff;refine⟨rs,r,mH,?_,ok,h1,fun v H' s2 ir=>h2 v H' (s1.trans s2) (ir.older s1)⟩;rw[aZ];exact dA.v) (ha.len τ _ h)⟩
end
mutual
def D.eq:D->D->Bool
 |.non,.non=>true
 |.bl a,.bl b=>a==b
 |.bl a,.int b=>(if a then(1:Int)else 0)==b
 |.int a,.bl b=>a==(if b then(1:Int)else 0)
 |.int a,.int b=>a==b
 |.str a,.str b=>a==b
 |.tup a,.tup b=>Dqeqs a b
 |.lst a,.lst b=>Dqeqs a b
 |_,_=>false
def Dqeqs:M D->M D->Bool
 |[],[]=>true
 |x::xs,y::ys=>D.eq x y&&Dqeqs xs ys
 |_,_=>false
end
mutual
def D.depth:D->Nat
 |.tup a=>Dqdepths a+1
 |.lst a=>Dqdepths a+1
 |_=>0
def Dqdepths:M D->Nat
 |[]=>0
 |x::xs=>max (D.depth x) (Dqdepths xs)
end
theorem Q9x:∀{ds:M D}{i:Nat}{d:D},ds[i]?=some d->d.depth<=Dqdepths ds:=by intro ds;induction ds<;>grind [Dqdepths]
mutual
theorem Q9y:∀d:D,D.eq d d=true
 |.non=>by unfold D.eq;rfl
 |.bl a=>by unfold D.eq;simp
 |.int a=>by unfold D.eq;simp
 |.str a=>by unfold D.eq;simp
 |.tup a=>by unfold D.eq;exact Dqeqs_refl a
 |.lst a=>by unfold D.eq;exact Dqeqs_refl a
theorem Dqeqs_refl:∀ds:M D,Dqeqs ds ds=true
 |[]=>by unfold Dqeqs;rfl
 |x::xs=>by unfold Dqeqs;rw[Q9y x,Dqeqs_refl xs];rfl
end
theorem Q7q:∀(a b:M D),Dqeqs a b=((List.range (min a.length b.length)).all (fun i=>match a[i]?,b[i]? with |some x,some y=>D.eq x y |_,_=>true)&&a.length==b.length)
 |[],[]=>by unfold Dqeqs;simp
 |[],y::ys=>by unfold Dqeqs;simp
 |x::xs,[]=>by unfold Dqeqs;simp
 |x::xs,y::ys=>by
  unfold Dqeqs;rw[Q7q xs ys];have e:min (x::xs).length (y::ys).length=min xs.length ys.length+1:=by simp[Nat.succ_min_succ]
  rw[e,dI,gZ,List.all_map];simp only[aH,List.getElem?_cons_zero,fx,List.getElem?_cons_succ];rw[Bool.and_assoc];congr 2;simp
def IsW (K:Fg9)(H:Hp)(d:D)(v:V):Prop:=match d with
 |.lst ds=>∃a xs,v=.ref a/\F2 K H a xs/\AllS K H ds xs
 |d=>A4 K H d v
theorem A4.w {K:Fg9}:∀{d:D}{v:V},A4 K H d v->IsW K H d v
 |.non,_,h=>h
 |.bl _,_,h=>h
 |.int _,_,h=>h
 |.str _,_,h=>h
 |.tup _,_,h=>h
 |.lst _,_,h=>by unfold A4 at h;obtain⟨a,xs,e,q,t⟩:=h;exact⟨a,xs,e,q.sq,t⟩
def R.d:R->Ac D
 |.st d=>some d
 |.nw ds=>some (.lst ds)
 |.bw ds=>some (.lst ds)
 |_=>none
theorem F7.w {K:Fg9}:∀{r:R}{v:V}{d:D},r.d=some d->F7 K H0 H r v->IsW K H d v
 |.st d,v,_,e,h=>by cases e;exact A4.w h
 |.nw ds,v,_,e,h=>by cases e;obtain⟨a,xs,e,n,q,t⟩:=h;exact⟨a,xs,e,F2.of q,t⟩
 |.bw ds,v,_,e,h=>by cases e;obtain⟨a,xs,e,q,t⟩:=h;exact⟨a,xs,e,F2.of q,t⟩
 |.dk _,_,_,e,_=>by cases e
 |.dt _,_,_,e,_=>by cases e
 |.ob _,_,_,e,_=>by cases e
 |.cl _ _,_,_,e,_=>by cases e
 |.ms _ _ _ _,_,_,e,_=>by cases e
def W0j (I:?C)   (h1:E2 X.K H a xs)(h2:F2 X.K H a ys):False:=by
 obtain⟨_,_,⟨o,e,c,_⟩,_⟩:=I.tuple h1;obtain⟨_,_,⟨o',n,e',c',_⟩,_⟩:=I.list h2;rw[e]at e';cases e';rw[c]at c';exact absurd c' ?H
mutual
theorem A4.inj (I:?C):∀(d e:D) (v:V),A4 X.K H d v->A4 X.K H e v->d=e
 |.non,e,v,h1,h2=>by
  cases e<;>unfold A4 at h1 h2<;>first |rfl |(obtain⟨_,_,z,_⟩:=h2;rw[h1]at z;cases z;done) |(rw[h1]at h2;cases h2;done) |(rw[h1]at h2;cases h2;rfl)
 |.bl p,e,v,h1,h2=>by
  cases e<;>unfold A4 at h1 h2<;>first |rfl |(obtain⟨_,_,z,_⟩:=h2;rw[h1]at z;cases z;done) |(rw[h1]at h2;cases h2;done) |(rw[h1]at h2;cases h2;rfl)
 |.int p,e,v,h1,h2=>by
  cases e<;>unfold A4 at h1 h2<;>first |rfl |(obtain⟨_,_,z,_⟩:=h2;rw[h1]at z;cases z;done) |(rw[h1]at h2;cases h2;done) |(rw[h1]at h2;cases h2;rfl)
 |.str p,e,v,h1,h2=>by
  cases e<;>unfold A4 at h1 h2<;>first |rfl |(obtain⟨_,_,z,_⟩:=h2;rw[h1]at z;cases z;done) |(rw[h1]at h2;cases h2;done) |(rw[h1]at h2;cases h2;rfl)
 |.tup p,.non,v,h1,h2=>by unfold A4 at h1 h2;obtain⟨_,_,e,_⟩:=h1;rw[h2]at e;cases e
 |.tup p,.bl q,v,h1,h2=>by unfold A4 at h1 h2;obtain⟨_,_,e,_⟩:=h1;rw[h2]at e;cases e
 |.tup p,.int q,v,h1,h2=>by unfold A4 at h1 h2;obtain⟨_,_,e,_⟩:=h1;rw[h2]at e;cases e
 |.tup p,.str q,v,h1,h2=>by unfold A4 at h1 h2;obtain⟨_,_,e,_⟩:=h1;rw[h2]at e;cases e
 |.lst p,.non,v,h1,h2=>by unfold A4 at h1 h2;obtain⟨_,_,e,_⟩:=h1;rw[h2]at e;cases e
 |.lst p,.bl q,v,h1,h2=>by unfold A4 at h1 h2;obtain⟨_,_,e,_⟩:=h1;rw[h2]at e;cases e
 |.lst p,.int q,v,h1,h2=>by unfold A4 at h1 h2;obtain⟨_,_,e,_⟩:=h1;rw[h2]at e;cases e
 |.lst p,.str q,v,h1,h2=>by unfold A4 at h1 h2;obtain⟨_,_,e,_⟩:=h1;rw[h2]at e;cases e
 |.tup p,.tup q,v,h1,h2=>by unfold A4 at h1 h2;obtain⟨x,xs,e1,q1,r1⟩:=h1;obtain⟨y,ys,e2,q2,r2⟩:=h2;rw[e1]at e2;cases e2;have e:=I.tuple_inj (E2.of q1) (E2.of q2);subst e;rw[AllS.inj I p q xs r1 r2]
 |.tup p,.lst q,v,h1,h2=>by unfold A4 at h1 h2;obtain⟨x,xs,e1,q1,r1⟩:=h1;obtain⟨y,ys,e2,q2,r2⟩:=h2;rw[e1]at e2;cases e2;exact absurd (W0j I (E2.of q1) q2.sq) id
 |.lst p,.tup q,v,h1,h2=>by unfold A4 at h1 h2;obtain⟨x,xs,e1,q1,r1⟩:=h2;obtain⟨y,ys,e2,q2,r2⟩:=h1;rw[e1]at e2;cases e2;exact absurd (W0j I (E2.of q1) q2.sq) id
 |.lst p,.lst q,v,h1,h2=>by unfold A4 at h1 h2;obtain⟨x,xs,e1,q1,r1⟩:=h1;obtain⟨y,ys,e2,q2,r2⟩:=h2;rw[e1]at e2;cases e2;have e:=I.list_inj q1.sq q2.sq;subst e;rw[AllS.inj I p q xs r1 r2]
theorem AllS.inj (I:?C):∀(ds es:M D) (vs:M V),AllS X.K H ds vs->AllS X.K H es vs->ds=es
 |[],[],_,_,_=>rfl
 |[],y::ys,vs,h1,h2=>by unfold AllS at h1 h2;obtain⟨_,_,e,_⟩:=h2;rw[h1]at e;cases e
 |x::xs,[],vs,h1,h2=>by unfold AllS at h1 h2;obtain⟨_,_,e,_⟩:=h1;rw[h2]at e;cases e
 |x::xs,y::ys,vs,h1,h2=>by
  unfold AllS at h1 h2;obtain⟨v,r,e1,q1,t1⟩:=h1;obtain⟨v',r',e2,q2,t2⟩:=h2;rw[e1]at e2;cases e2;rw[A4.inj I x y v q1 q2,AllS.inj I xs ys r t1 t2]
end
section
open PySem.SeqAt
def Q4e {ds:M D}   (al:AllS X.K H ds xs)(rv:C3 xs b7){j:Nat}(h:j<b7.toArray.size):∃d v,ds[j]?=some d/\A4 X.K H d v/\C9 v b7.toArray[j]:=by
 have hl:=al.length;have hr:=rv.length;have hj:j<b7.length:=by simpa using h
 have ip:j<ds.length:=?A
 obtain⟨v,hv,q⟩:=al.get (aa ip);obtain⟨u,hu,r⟩:=rv.get hv;have e:u=b7.toArray[j]:=by
  rw[aa hj]at hu;simpa using (az hu).symm
 exact⟨ds[j],v,aa ip,q,e▸r⟩
def Z0q (I:?C){d1 d2:D}{v1 v2:V}   (h:∀A:Ah,A.units+n<cLine->RcAt A s u1 u2 (D.eq d1 d2))(i1:A4 X.K H d1 v1)(i2:A4 X.K H d2 v2)(r1:C9 v1 u1)(r2:C9 v2 u2)  (hu:A.units+n<cLine):EqAt A s u1 u2 (D.eq d1 d2):=by
 have hA:=h A hu
 by_cases e:u1=u2
 ·subst e;have ev:=r1.inj r2;subst ev;rw[A4.inj I d1 d2 v1 i1 i2,Q9y];exact EqAt.same _
 ·intro prog w E Q hq;unfold eqBool;refine bB ?_;refine wpAny_ite_split (fun xg=>absurd (eq_of_beq xg) e) (fun _=>?_);have fin:wpAny (model prog w) A (richCompare .Eq u1 u2>>=truthOfDropped) Q E s:=af (hA prog w E _ (cK hq));cases v1 with
  |non=>cases r1;exact fin
  |bl _=>cases r1;exact fin
  |int _=>obtain⟨t,rfl⟩:=r1;exact fin
  |str _=>obtain⟨t,rfl⟩:=r1;exact fin
  |byt _=>obtain⟨t,rfl⟩:=r1;exact fin
  |ref _=>cases r1;exact fin
  |ty _=>cases r1;exact fin
  |flt b=>cases d1<;>first |(cases (show V.flt b=_ from i1)) |(unfold A4 at i1;obtain⟨_,_,z,_⟩:=i1;cases z)
inductive Vw (X:Cx)(H:Hp)(s:Shared):D->Value->Prop
 |non:Vw X H s .non .none
 |bl (b:Bool):Vw X H s (.bl b) (.bool b)
 |int (i:Int) (t:Tok):Vw X H s (.int i) (.int i t)
 |str (x:Str) (t:Tok):Vw X H s (.str x) (.str x t)
 |tup {ds:List D}{a:Addr}{xs:List V}{b7:List Value} (al:AllS X.K H ds xs) (rv:C3 xs b7) (pl:s.heap.IsTuple a b7.toArray):Vw X H s (.tup ds) (.ref a)
 |lst {ds:List D}{a:Addr}{xs:List V}{b7:List Value} (al:AllS X.K H ds xs) (rv:C3 xs b7) (pl:s.heap.IsList a b7.toArray):Vw X H s (.lst ds) (.ref a)
theorem Q7g (I:?C){d:D}{v:V}  (h:IsW X.K H d v)(r:C9 v u):Vw X H s d u:=by
 cases d with
 |non=>cases (show v=.non from h);cases r;exact .non
 |bl b=>cases (show v=.bl b from h);cases r;exact .bl b
 |int i=>cases (show v=.int i from h);obtain⟨t,rfl⟩:=r;exact .int i t
 |str x=>cases (show v=.str x from h);obtain⟨t,rfl⟩:=r;exact .str x t
 |tup ds=>have h:A4 X.K H (.tup ds) v:=h;unfold A4 at h;obtain⟨a,xs,rfl,sq,al⟩:=h;cases r;obtain⟨b7,rv,pl,_⟩:=I.tuple (E2.of sq);exact .tup al rv pl
 |lst ds=>obtain⟨a,xs,rfl,sq,al⟩:=h;cases r;obtain⟨b7,rv,pl,_⟩:=I.list sq;exact .lst al rv pl.isList
def Q5e (d e:D):Prop:=(∃p q,d=.tup p/\e=.tup q)\/∃p q,d=.lst p/\e=.lst q
def Y7v {d1 d2:D}   (h1:Vw X H s d1 u1)(h2:Vw X H s d2 u2)(hu:A.units<cLine)(hb:¬ Q5e d1 d2):RcAt A s u1 u2 (D.eq d1 d2):=by
 cases h1<;>cases h2<;>first |exact absurd (.inl ⟨_,_,rfl,rfl⟩) hb |exact absurd (.inr ⟨_,_,rfl,rfl⟩) hb |(unfold D.eq;(try simp only[Bool.not_true,Bool.not_false]);(with_reducible first |exact RcAt.none_none |exact RcAt.none_bool _ |exact RcAt.none_int _ _ |exact RcAt.none_str _ _ |exact RcAt.none_tuple ?U hu |exact RcAt.none_list ?U hu |exact RcAt.bool_none _ |exact RcAt.bool_bool _ _ |exact RcAt.bool_int _ _ _ |exact RcAt.bool_str _ _ _ |exact RcAt.bool_tuple _ ?U hu |exact RcAt.bool_list _ ?U hu |exact RcAt.int_none _ _ |exact RcAt.int_bool _ _ _ |exact RcAt.int_int _ _ _ _ |exact RcAt.int_str _ _ _ _ |exact RcAt.int_tuple _ _ ?U hu |exact RcAt.int_list _ _ ?U hu |exact RcAt.str_none _ _ |exact RcAt.str_bool _ _ _ |exact RcAt.str_int _ _ _ _ |exact RcAt.str_str _ _ _ _ |exact RcAt.str_tuple _ _ ?U hu |exact RcAt.str_list _ _ ?U hu |exact RcAt.tuple_none ?U hu |exact RcAt.tuple_bool _ ?U hu |exact RcAt.tuple_int _ _ ?U hu |exact RcAt.tuple_str _ _ ?U hu |exact RcAt.tuple_list ?U ?U hu |exact RcAt.list_none ?U hu |exact RcAt.list_bool _ ?U hu |exact RcAt.list_int _ _ ?U hu |exact RcAt.list_str _ _ ?U hu |exact RcAt.list_tuple ?U ?U hu))
theorem Z7o (I:?C):∀(n:Nat) (d1 d2:D) (v1 v2:V) (u1 u2:Ad) (A:Ah),d1.depth<=n->IsW X.K H d1 v1->IsW X.K H d2 v2->C9 v1 u1->C9 v2 u2->A.units+n<cLine->RcAt A s u1 u2 (D.eq d1 d2):=by
 intro n
 induction n with
 |zero=>
  intro d1 d2 v1 v2 u1 u2 A hd h1 h2 r1 r2 hu;refine Y7v (Q7g I h1 r1) (Q7g I h2 r2) (?A) ?_;rintro (⟨p,q,rfl,rfl⟩ |⟨p,q,rfl,rfl⟩)<;>unfold D.depth at hd<;>omega
 |succ n ih=>
  intro d1 d2 v1 v2 u1 u2 A hd h1 h2 r1 r2 hu;have w1:=Q7g I h1 r1;have w2:=Q7g I h2 r2
  by_cases hb:Q5e d1 d2
  ·obtain⟨p,q,rfl,rfl⟩ |⟨p,q,rfl,rfl⟩:=hb
   ·cases w1;cases w2;rename_i a1 qt iI jV kG iw a2 qr cr fN gp eA;have hd:Dqdepths p+1<=n+1:=by unfold D.depth at hd;exact hd
    have l1:iI.toArray.size=p.length:=by have:=iw.length;have:=jV.length;simp;omega
    have l2:cr.toArray.size=q.length:=by have:=eA.length;have:=fN.length;simp;omega
    have k:=RcAt.tuples (A:=A) (s:=s) (e:=fun i=>match p[i]?,q[i]? with |some x,some y=>D.eq x y |_,_=>true) kG gp (?A) (fun j mI ip=>by
     obtain⟨d1,v1,e1,i1,w1⟩:=Q4e iw jV mI;obtain⟨d2,v2,e2,i2,w2⟩:=Q4e eA fN ip;simp only[e1,e2];exact Z0q I (fun A=>ih d1 d2 v1 v2 _ _ A (by have:=Q9x e1;omega) i1.w i2.w w1 w2) i1 i2 w1 w2 (by simp only[cR];omega))
    rw[l1,l2]at k;unfold D.eq;rw[Q7q];exact k
   ·cases w1;cases w2;rename_i a1 qt iI jV kG iw a2 qr cr fN gp eA;have hd:Dqdepths p+1<=n+1:=by unfold D.depth at hd;exact hd
    have l1:iI.toArray.size=p.length:=by have:=iw.length;have:=jV.length;simp;omega
    have l2:cr.toArray.size=q.length:=by have:=eA.length;have:=fN.length;simp;omega
    have kk:RcAt A s (.ref a1) (.ref a2) (Dqeqs p q):=by
     rw[Q7q]
     by_cases bZ:p.length=q.length
     ·have k:=RcAt.lists (A:=A) (s:=s) (e:=fun i=>match p[i]?,q[i]? with |some x,some y=>D.eq x y |_,_=>true) kG gp (?A) (?A) (fun j mI ip=>by
       obtain⟨d1,v1,e1,i1,w1⟩:=Q4e iw jV mI;obtain⟨d2,v2,e2,i2,w2⟩:=Q4e eA fN ip;simp only[e1,e2];exact Z0q I (fun A=>ih d1 d2 v1 v2 _ _ A (by have:=Q9x e1;omega) i1.w i2.w w1 w2) i1 i2 w1 w2 (by simp only[cR];omega))
      rw[l1]at k;rw[<-bZ,nE,yM,Bool.and_true];exact k
     ·rw[bU.mpr bZ,kD];exact RcAt.lists_lengths kG gp (by rw[l1,l2];simpa using bZ) (?A)
    unfold D.eq;exact kk
  ·exact Y7v w1 w2 (?A) hb
end
namespace HT
open PySem PyProof.Rows
section
variable {w:Ak}
def cat_tup0 {t b:Af}{vs ws:M Ad}  (ht:IsTup s.heap t vs.toArray)(hb:IsTup s.heap b ws.toArray)(hv:vs=[])(h1:Q (.ref b) s):wpAny (model prog w) A (binaryOp .Add (.ref t) (.ref b)) Q E s:=by
 obtain⟨⟨cls,dd,data,sl⟩,ho,hc,n,hd⟩:=id ht;obtain⟨⟨oS,nr,data2,mY⟩,jz,jB,n2,j0⟩:=id hb;simp only at hc hd jB j0;subst hc hd jB j0;exact lf ⟨_,ho,rfl⟩ ⟨_,jz,rfl⟩ lZ uW fK fC (fy _ _)
  (tuple_addW0 t b vs.toArray ws.toArray n n2 dd nr sl mY (by simp[hv])) ⟨ho,jz,h1⟩
end
end HT
def P6 (C:Int->Int->Prop)(f:Int->Int->Int):R->R->(R->Prop)->Prop
 |.st (.int i),.st (.int j),Q=>C i j/\Q (.st (.int (f i j)))
 |_,_,_=>False
def Z5x {f:Int->Int->Int}{x y:R}{Q:R->Prop}(h:P6 C f x y Q):∃i j,x=.st (.int i)/\y=.st (.int j)/\C i j/\Q (.st (.int (f i j))):=by
 unfold P6 at h;split at h
 ·exact⟨_,_,rfl,rfl,h.1,h.2⟩
 ·exact h.elim
def Q1f {f:Int->Int->Int}:Q0p (P6 C f):=fun x y P Q g h=>by
 obtain⟨i,j,rfl,rfl,c,q⟩:=Z5x h;exact⟨c,g _ q⟩
def OpD.ints {F:Ad->Ad->Sem Ad}  {f:Int->Int->Int}(h:O9 X F (rI C fun i j=>.int (f i j))):OpD X F (P6 C f):=by
 intro ah s σ H x y v u Q I rx ry ⟨r1,r2,h1,h2,hg⟩;obtain⟨i,j,rfl,rfl,c,q⟩:=Z5x hg;exact h ah s σ H x y v u Q I rx ry ⟨i,j,h1,h2,c,q _ _ (A5.refl H) Z2⟩
def Y1y {F:Ad->Ad->Sem Ad}{f:Int->Int->Int}(h:O9 X F (rI0 fun i j=>.int (f i j))):OpD X F (P6 (fun _ _=>True) f):=by
 intro ah s σ H x y v u Q I rx ry ⟨r1,r2,h1,h2,hg⟩;obtain⟨i,j,rfl,rfl,c,q⟩:=Z5x hg;exact h ah s σ H x y v u Q I rx ry ⟨i,j,h1,h2,q _ _ (A5.refl H) Z2⟩
abbrev NoC:Int->Int->Prop:=fun _ _=>True
def V1v:OpD X (binaryOp .Sub) (P6 NoC fun i j=>i-j):=Y1y V2p
def Z1r:OpD X (binaryOp .FloorDiv) (P6 Q2b fun i j=>i / j):=OpD.ints V2e
def Q6v:OpD X (binaryOp .Mod) (P6 (fun _ j=>0<j) fun i j=>i % j):=OpD.ints V2k
def lsM:R->Ac (M D)
 |.nw ds=>some ds
 |.bw ds=>some ds
 |_=>none
def U1:R->Ac (M D)
 |.nw ds=>some ds
 |.bw ds=>some ds
 |.st (.lst ds)=>some ds
 |_=>none
theorem Z6o {K:Fg9}:∀{r:R}{ds:M D}{v:V},lsM r=some ds->F7 K H0 H r v->∃a xs,v=.ref a/\H a=some (.lst xs)/\AllS K H ds xs
 |.nw ds,_,v,e,h=>by cases e;obtain⟨a,xs,e,n,q,t⟩:=h;exact⟨a,xs,e,q,t⟩
 |.bw ds,_,v,e,h=>by cases e;obtain⟨a,xs,e,q,t⟩:=h;exact⟨a,xs,e,q,t⟩
 |.st _,_,_,e,_=>by cases e
 |.dk _,_,_,e,_=>by cases e
 |.dt _,_,_,e,_=>by cases e
 |.ob _,_,_,e,_=>by cases e
 |.cl _ _,_,_,e,_=>by cases e
 |.ms _ _ _ _,_,_,e,_=>by cases e
theorem Q4o {K:Fg9}:∀{r:R}{ds:M D}{v:V},U1 r=some ds->F7 K H0 H r v->∃a xs,v=.ref a/\F2 K H a xs/\AllS K H ds xs
 |.nw ds,_,v,e,h=>by cases e;obtain⟨a,xs,e,n,q,t⟩:=h;exact⟨a,xs,e,F2.of q,t⟩
 |.bw ds,_,v,e,h=>by cases e;obtain⟨a,xs,e,q,t⟩:=h;exact⟨a,xs,e,F2.of q,t⟩
 |.st (.lst ds),_,v,e,h=>by cases e;have h:A4 K H (.lst ds) v:=h;unfold A4 at h;obtain⟨a,xs,e,q,t⟩:=h;exact⟨a,xs,e,q.sq,t⟩
 |.st .non,_,_,e,_=>by cases e
 |.st (.bl _),_,_,e,_=>by cases e
 |.st (.int _),_,_,e,_=>by cases e
 |.st (.str _),_,_,e,_=>by cases e
 |.st (.tup _),_,_,e,_=>by cases e
 |.dk _,_,_,e,_=>by cases e
 |.dt _,_,_,e,_=>by cases e
 |.ob _,_,_,e,_=>by cases e
 |.cl _ _,_,_,e,_=>by cases e
 |.ms _ _ _ _,_,_,e,_=>by cases e
def F9 (x y:R)(Q:R->Prop):Prop:=
 match x,y with
 |.st (.int i),.st (.int j)=>Q (.st (.int (i+j)))
 |.st (.str i),.st (.str j)=>i.length+j.length<=sizeLine/\Q (.st (.str (i++j)))
 |.st (.tup i),.st (.tup j)=>i.length+j.length<=sizeLine/\Q (.st (.tup (i++j)))
 |.nw i,.nw j=>i.length+j.length<=sizeLine/\Q (.nw (i++j))
 |.nw i,.bw j=>i.length+j.length<=sizeLine/\Q (.nw (i++j))
 |.bw i,.nw j=>i.length+j.length<=sizeLine/\Q (.nw (i++j))
 |.bw i,.bw j=>i.length+j.length<=sizeLine/\Q (.nw (i++j))
 |_,_=>False
def Q1b:Q0p F9:=fun x y P Q g h=>by
 unfold F9 at h ⊢;split at h<;>first |exact g _ h |exact⟨h.1,g _ h.2⟩ |exact⟨h.1,h.2.1,g _ h.2.2⟩ |exact h
def Z0k {x:V}{v:Ad}{Q:VK}(I:?C)(rx:C9 x v)(ry:C9 y u){r1 r2:R}{i j:M D}(e1:lsM r1=some i)(e2:lsM r2=some j)
  (h1:IsV X.K H r1 x) (h2:IsV X.K H r2 y) (hz:i.length+j.length<=sizeLine) (q:∀v H',A5 H H'->F7 X.K H H' (.nw (i++j)) v->Q v H'):wpAny ?D X.A (binaryOp .Add v u) (EP X ah σ Q) X.xe s:=by
 obtain⟨a,xs,rfl,qa,l7⟩:=Z6o e1 h1;obtain⟨b,ys,rfl,qb,jF⟩:=Z6o e2 h2;refine V2c ah s σ H _ _ v u Q I rx ry ⟨a,b,xs,ys,rfl,rfl,qa,qb,by rw[<-l7.length,<-jF.length];exact hz,fun p hp=>?_⟩;have k:=Kp.of (G3 hp (.lst (xs++ys)));exact q _ _ (G3 hp _) ⟨p,xs++ys,rfl,hp,upd_same,(l7.append jF).mono k _ _⟩
def Q1k:OpD X (binaryOp .Add) F9:=by
 intro ah s σ H x y v u Q I rx ry ⟨r1,r2,h1,h2,hg⟩;unfold F9 at hg;split at hg
 ·exact V2a ah s σ H x y v u Q I rx ry ⟨_,_,h1,h2,hg _ _ (A5.refl H) Z2⟩
 ·exact V2b ah s σ H x y v u Q I rx ry ⟨_,_,h1,h2,hg.1,hg.2 _ _ (A5.refl H) Z6b⟩
 ·rename_i i j;have h1:A4 X.K H (.tup i) x:=h1;have h2:A4 X.K H (.tup j) y:=h2;unfold A4 at h1 h2;obtain⟨a,xs,rfl,qa,l7⟩:=h1;obtain⟨b,ys,rfl,qb,jF⟩:=h2;have la:=l7.length;have lb:=jF.length
  by_cases hx:xs=[]
  ·have zi:i=[]:=cm.mp (by rw[la,hx];rfl);subst zi;cases rx;cases ry;obtain⟨b7,r1,p1,_⟩:=I.tuple (E2.of (K:=X.K) qa);obtain⟨cr,r2,p2,_⟩:=I.tuple (E2.of (K:=X.K) qb);exact HT.cat_tup0 p1 p2 (r1.nil_iff.mpr hx) ⟨.ref b,H,I,rfl,hg.2 _ _ (A5.refl H) (A4.s_tup (K:=X.K) (H:=H) qb jF)⟩
  refine V2d ah s σ H _ _ v u Q I rx ry ⟨a,b,xs,ys,rfl,rfl,E2.of qa,E2.of qb,hx,?A,fun z=>?_,fun z p hp=>?_⟩
  ·have zj:j=[]:=cm.mp (by rw[lb,z];rfl);subst zj;rw[aZ]at hg;exact hg.2 _ _ (A5.refl H) (A4.s_tup (K:=X.K) (H:=H) qa l7)
  ·exact hg.2 _ _ (G3 hp _) (A4.s_tup (K:=X.K) upd_same ((l7.append jF).mono (Kp.of (G3 hp _)) _ _))
 ·exact Z0k I rx ry rfl rfl h1 h2 hg.1 hg.2
 ·exact Z0k I rx ry rfl rfl h1 h2 hg.1 hg.2
 ·exact Z0k I rx ry rfl rfl h1 h2 hg.1 hg.2
 ·exact Z0k I rx ry rfl rfl h1 h2 hg.1 hg.2
 ·exact hg.elim
def X7 (x y:R)(Q:R->Prop):Prop:=
 match x,y with
 |.st (.int i),.st (.int j)=>Q3z i j/\Q (.st (.int (i*j)))
 |.nw ds,.st (.int k)=>-(2^63)<=k/\k<2^63/\ds.length*k.toNat<=sizeLine/\Q (.nw (List.replicate k.toNat ds).flatten)
 |_,_=>False
def Z6z:Q0p X7:=fun x y P Q g h=>by
 unfold X7 at h ⊢;split at h<;>first |exact⟨h.1,g _ h.2⟩ |exact⟨h.1,h.2.1,h.2.2.1,g _ h.2.2.2⟩ |exact h
theorem AllS.rep {K:Fg9}  {ds:M D}  (h:AllS K H ds vs):∀k:Nat,AllS K H (List.replicate k ds).flatten (List.replicate k vs).flatten
 |0=>AllS.nil
 |k+1=>by rw[cI,cI,cT,cT];exact h.append (AllS.rep h k)
def Z7d:OpD X (binaryOp .Mult) X7:=by
 intro ah s σ H x y v u Q I rx ry ⟨r1,r2,h1,h2,hg⟩;unfold X7 at hg;split at hg
 ·exact V2l ah s σ H x y v u Q I rx ry ⟨_,_,h1,h2,hg.1,hg.2 _ _ (A5.refl H) Z2⟩
 ·obtain⟨a,xs,rfl,_,qa,l7⟩:=h1;refine V2o ah s σ H _ y v u Q I rx ry ⟨a,_,xs,rfl,h2,qa,hg.1,hg.2.1,by rw[<-l7.length];exact hg.2.2.1,fun p hp=>?_⟩;exact hg.2.2.2 _ _ (G3 hp _) ⟨p,_,rfl,hp,upd_same,(l7.rep _).mono (Kp.of (G3 hp _)) _ _⟩
 ·exact hg.elim
def L5 (f:Int->Int->Bool):R->R->(Bool->Prop)->Prop
 |.st (.int i),.st (.int j),Q=>Q (f i j)
 |_,_,_=>False
def Y3i {f:Int->Int->Bool}{x y:R}{Q:Bool->Prop}(h:L5 f x y Q):∃i j,x=.st (.int i)/\y=.st (.int j)/\Q (f i j):=by
 unfold L5 at h;split at h
 ·exact⟨_,_,rfl,rfl,h⟩
 ·exact h.elim
def Q6j {f:Int->Int->Bool}:Q0p (L5 f):=fun x y P Q g h=>by
 obtain⟨i,j,rfl,rfl,q⟩:=Y3i h;exact g _ q
def X0.ints {op:CmpOp}{f:Int->Int->Bool}(h:O9 X (compareOp op) (rI0 fun i j=>.bl (f i j))):X0 X op (L5 f):=by
 intro ah s σ H x y v u Q I rx ry ⟨r1,r2,h1,h2,hg⟩;obtain⟨i,j,rfl,rfl,q⟩:=Y3i hg;exact h ah s σ H x y v u Q I rx ry ⟨i,j,h1,h2,q⟩
def W6c:X0 X .Lt (L5 fun i j=>decide (i<j)):=X0.ints V2j
def Y3d:X0 X .LtE (L5 fun i j=>decide (i<=j)):=X0.ints V2i
def W6b:X0 X .Gt (L5 fun i j=>decide (j<i)):=X0.ints V2g
def Y3c:X0 X .GtE (L5 fun i j=>decide (j<=i)):=X0.ints V2f
def J5 (n:Nat)(neg:Bool)(x y:R)(Q:Bool->Prop):Prop:=∃d e,x.d=some d/\y.d=some e/\d.depth<=n/\Q (if neg then !D.eq d e else D.eq d e)
def Q0u {neg:Bool}:Q0p (J5 n neg):=fun x y P Q g⟨d,e,h1,h2,h3,q⟩=>⟨d,e,h1,h2,h3,g _ q⟩
def Q6i (hu:X.A.units+n<cLine):X0 X .Eq (J5 n false):=by
 intro ah s σ H x y v u Q I rx ry ⟨r1,r2,h1,h2,d,e,e1,e2,hd,q⟩;exact Z7o I n d e x y v u X.A hd (h1.w e1) (h2.w e2) rx ry hu _ _ _ _ ⟨.bl _,H,I,rfl,q⟩
section
def scD:D->D->Bool
 |.non,.non=>true |.non,.int _=>true |.int _,.non=>true |.non,.bl _=>true |.bl _,.non=>true |.non,.str _=>true |.str _,.non=>true
 |.int _,.int _=>true |.bl _,.bl _=>true |.str _,.str _=>true
 |.int _,.str _=>true |.str _,.int _=>true |.bl _,.str _=>true |.str _,.bl _=>true
 |_,_=>false
def S3 (x y:R)(Q:Bool->Prop):Prop:=∃d e,x=.st d/\y=.st e/\scD d e=true/\Q (!D.eq d e)
def Q8t:Q0p S3:=fun x y P Q g⟨d,e,h1,h2,h3,q⟩=>⟨d,e,h1,h2,h3,g _ q⟩
def Q8e:X0 X .NotEq S3:=by
 intro ah s σ H x y v u Q I rx ry ⟨r1,r2,h1,h2,d,e,e1,e2,hs,q⟩;subst e1 e2;have key:scal x y=true/\(D.eq d e)=decide (x=y):=by
  cases d<;>cases e<;>first
   |(cases hs;done)
   |(replace h1:A4 X.K H _ x:=h1;replace h2:A4 X.K H _ y:=h2;unfold A4 at h1 h2;subst h1;subst h2;refine⟨rfl,?_⟩;unfold D.eq;first |(exact(Y3w).symm) |(exact(Y3v).symm) |(exact(Y3x).symm) |rfl |(simp;done))
 refine V2m ah s σ H x y v u Q I rx ry ⟨key.1,?_⟩;rw[<-key.2];exact q
def Z1 (neg:Bool)(x y:R)(Q:Bool->Prop):Prop:=∃d,x.d=some d/\y=.st .non/\Q (match d with |.non=>!neg |_=>neg)
def Q5k {neg:Bool}:Q0p (Z1 neg):=fun x y P Q g⟨d,h1,h2,q⟩=>⟨d,h1,h2,g _ q⟩
theorem Y5b {K:Fg9}:∀{d:D}{v:V},IsW K H d v->decide (v=.non)=(match d with |.non=>true |_=>false)
 |.non,v,h=>by cases (show v=.non from h);rfl
 |.bl b,v,h=>by cases (show v=.bl b from h);rfl
 |.int b,v,h=>by cases (show v=.int b from h);rfl
 |.str b,v,h=>by cases (show v=.str b from h);rfl
 |.tup ds,v,h=>by have h:A4 K H (.tup ds) v:=h;unfold A4 at h;obtain⟨a,_,rfl,_⟩:=h;rfl
 |.lst ds,v,h=>by obtain⟨a,_,rfl,_⟩:=h;rfl
def Z0l:X0 X .Is (Z1 false):=by
 intro ah s σ H x y v u Q I rx ry ⟨r1,r2,h1,h2,d,e1,e2,q⟩;subst e2;refine V2h ah s σ H x y v u Q I rx ry ⟨h2,?_⟩;rw[Y5b (h1.w e1)];cases d<;>exact q
def Z4r:X0 X .IsNot (Z1 true):=by
 intro ah s σ H x y v u Q I rx ry ⟨r1,r2,h1,h2,d,e1,e2,q⟩;subst e2;refine V2n ah s σ H x y v u Q I rx ry ⟨h2,?_⟩;rw[Y5b (h1.w e1)];cases d<;>exact q
theorem Z0d {K:Fg9}  {ds:M D}  (al:AllS K H ds xs){i:Int}{d:D}(h:M4 ds i=some d):∃v,M4 xs i=some v/\A4 K H d v:=by
 unfold M4 at h ⊢;rw[<-al.length];cases e:ixN ds.length i with
 |none=>rw[e]at h;cases h
 |some j=>
  rw[e]at h;obtain⟨v,hv,q⟩:=al.get (i:=j) h;exact⟨v,hv,q⟩
def B5 (x y:R)(Q:R->Prop):Prop:=match x,y with
 |.st (.lst ds),.st (.int i)=>∃d,M4 ds i=some d/\Q (.st d)
 |.nw ds,.st (.int i)=>∃d,M4 ds i=some d/\Q (.st d)
 |.bw ds,.st (.int i)=>∃d,M4 ds i=some d/\Q (.st d)
 |.st (.tup ds),.st (.int i)=>∃d,M4 ds i=some d/\Q (.st d)
 |.st (.str z),.st (.int i)=>z.length<=sizeLine/\∃c,M4 z.cps.toList i=some c/\Q (.st (.str ⟨#[c]⟩))
 |_,_=>False
def W8q:Q0p B5:=fun x y P Q g h=>by
 unfold B5 at h ⊢;split at h
 case h_6=>exact h
 case h_5=>obtain⟨z,c,h1,h2⟩:=h;exact⟨z,c,h1,g _ h2⟩
 all_goals (obtain⟨d,h1,h2⟩:=h;exact⟨d,h1,g _ h2⟩)
variable {a b c:Ag}
def DE.ix (ha:DE X H0 a wa)(hb:DE X H0 b wb)(hs:Z4e b):DE X H0 (.Subscript a b pos) (A3 B5 wa wb) where
 mono:=fun τ P Q f h=>ha.mono τ _ _ (fun x h=>hb.mono τ _ _ (fun y h=>W8q x y P Q f h) h) h
 pe:=R0 (Y7l W8t ha.pe hb.pe hs) fun σ H Q ⟨τ,hR,h⟩=>two ha hb hR h fun x y v u H' sm rx ry q=>by
  unfold B5 at q;split at q
  ·have rx:A4 X.K H' _ v:=rx;unfold A4 at rx;obtain⟨p,xs,rfl,sq,al⟩:=rx;obtain⟨d,hd,q⟩:=q;obtain⟨z,hz,iz⟩:=Z0d al hd;exact .inl ⟨p,xs,_,z,rfl,ry,sq.sq,hz,q z H' sm iz⟩
  ·obtain⟨p,xs,rfl,_,sq,al⟩:=rx;obtain⟨d,hd,q⟩:=q;obtain⟨z,hz,iz⟩:=Z0d al hd;exact .inl ⟨p,xs,_,z,rfl,ry,F2.of sq,hz,q z H' sm iz⟩
  ·obtain⟨p,xs,rfl,sq,al⟩:=rx;obtain⟨d,hd,q⟩:=q;obtain⟨z,hz,iz⟩:=Z0d al hd;exact .inl ⟨p,xs,_,z,rfl,ry,F2.of sq,hz,q z H' sm iz⟩
  ·have rx:A4 X.K H' _ v:=rx;unfold A4 at rx;obtain⟨p,xs,rfl,sq,al⟩:=rx;obtain⟨d,hd,q⟩:=q;obtain⟨z,hz,iz⟩:=Z0d al hd;exact .inr (.inl ⟨p,xs,_,z,rfl,ry,E2.of sq,hz,q z H' sm iz⟩)
  ·obtain⟨z,c,h1,q⟩:=q;exact .inr (.inr ⟨_,_,c,rx,ry,z,h1,q _ H' sm Z6b⟩)
  ·exact q.elim
def Q2w (X:Cx)(f:Ad)(g:M R->(R->Prop)->Prop):Prop:=
 Q5x X f (fun xs H Q=>∃rs,O5 X.K (fun _=>none) H rs xs/\g rs fun r=>∀v H',A5 H H'->F7 X.K H H' r v->Q v H')
def Q2y (g:M R->(R->Prop)->Prop):Prop:=∀x (P Q:R->Prop),(∀r,P r->Q r)->g x P->g x Q
variable {es:M Ag}{id:String}{g:M R->(R->Prop)->Prop}
def D4 (g:M R->(R->Prop)->Prop)(wr:WA):WE:=fun τ Q=>wr τ fun rs=>g rs Q
def Q2c (hc:Q2w X (.builtin id) g)(mg:Q2y g)(hg:Gl X x)(hm:X.mg x=none)(hv:bootBuiltins x=some (.builtin id))(ha:DA X H0 (e::es) wr)(hn:x≠"__name__":=by decide)(ga:(x==("__debug__":Str))=false:=by decide)
  (he:?I:=by rfl) (hpl:?S:=by rfl):DE X H0 (.Call (.Name x p) (e::es) [] pos) (D4 g wr) where
 mono:=fun τ P Q f h=>ha.mono τ _ _ (fun rs h=>mg rs P Q f h) h
 pe:=R0 (Y7k hc hg hm hv ha.pa hn ga he hpl) fun σ H Q⟨τ,hR,h⟩=>⟨τ,hR,ha.mono τ _ _ (fun rs h vs H1 s1 dA=>⟨rs,dA.v,mg rs _ _ (fun r h v H' s2 ir=>h v H' (s1.trans s2) (ir.older s1)) h⟩) h⟩
def Y0s (hc:Q2w X (.type T) g)(mg:Q2y g)(hg:Gl X x)(hm:X.mg x=none)(hv:bootBuiltins x=some (.type T))(ha:DA X H0 (e::es) wr)(hn:x≠"__name__":=by decide)(ga:(x==("__debug__":Str))=false:=by decide)
  (he:?I:=by rfl) (hpl:?S:=by rfl):DE X H0 (.Call (.Name x p) (e::es) [] pos) (D4 g wr) where
 mono:=fun τ P Q f h=>ha.mono τ _ _ (fun rs h=>mg rs P Q f h) h
 pe:=R0 (V2z hc hg hm hv ha.pa hn ga he hpl) fun σ H Q⟨τ,hR,h⟩=>⟨τ,hR,ha.mono τ _ _ (fun rs h vs H1 s1 dA=>⟨rs,dA.v,mg rs _ _ (fun r h v H' s2 ir=>h v H' (s1.trans s2) (ir.older s1)) h⟩) h⟩
def Q0q {K:Fg9}  {r:R}  (h:O5 K H0 H [r] vs):∃v,vs=[v]/\F7 K H0 H r v:=by
 obtain⟨v,t,rfl,q,z⟩:=h;cases (show t=[]from z);exact⟨v,rfl,q⟩
def Z6i:R->(Nat->Prop)->Prop
 |.st (.str z),Q=>z.length<=sizeLine/\Q z.length
 |.st (.tup ds),Q=>Q ds.length
 |.st (.lst ds),Q=>Q ds.length
 |.nw ds,Q=>Q ds.length
 |.bw ds,Q=>Q ds.length
 |_,_=>False
def E3:M R->(R->Prop)->Prop
 |[r],Q=>Z6i r fun n=>Q (.st (.int n))
 |_,_=>False
def W9o:Q2y E3:=fun x P Q g h=>by
 unfold E3 at h ⊢;split at h
 ·unfold Z6i at h ⊢;split at h<;>first |exact g _ h |exact⟨h.1,g _ h.2⟩ |exact h
 ·exact h
def W5s:Q2w X (.builtin "len") E3:=by
 intro ah s σ H xs us Q I rv ⟨rs,dA,h⟩;unfold E3 at h;split at h
 ·obtain⟨v,rfl,ir⟩:=Q0q dA;unfold Z6i at h;split at h
  ·cases (show v=.str _ from ir);exact Q8b ah s σ H _ us Q I rv ⟨_,_,rfl,⟨h.1,rfl⟩,h.2 _ _ (A5.refl H) Z2⟩
  ·have ir:A4 X.K H _ v:=ir;unfold A4 at ir;obtain⟨p,xs,rfl,sq,al⟩:=ir;exact Q8b ah s σ H _ us Q I rv ⟨_,_,rfl,.inr ⟨xs,E2.of sq,rfl⟩,by rw[<-al.length];exact h _ _ (A5.refl H) Z2⟩
  ·have ir:A4 X.K H _ v:=ir;unfold A4 at ir;obtain⟨p,xs,rfl,sq,al⟩:=ir;exact Q8b ah s σ H _ us Q I rv ⟨_,_,rfl,.inl ⟨xs,sq.sq,rfl⟩,by rw[<-al.length];exact h _ _ (A5.refl H) Z2⟩
  ·obtain⟨p,xs,rfl,_,sq,al⟩:=ir;exact Q8b ah s σ H _ us Q I rv ⟨_,_,rfl,.inl ⟨xs,F2.of sq,rfl⟩,by rw[<-al.length];exact h _ _ (A5.refl H) Z2⟩
  ·obtain⟨p,xs,rfl,sq,al⟩:=ir;exact Q8b ah s σ H _ us Q I rv ⟨_,_,rfl,.inl ⟨xs,F2.of sq,rfl⟩,by rw[<-al.length];exact h _ _ (A5.refl H) Z2⟩
  ·exact h.elim
 ·exact h.elim
def Q9e:R->Ac (M D)
 |.st (.tup ds)=>some ds
 |.st (.lst ds)=>some ds
 |.nw ds=>some ds
 |.bw ds=>some ds
 |_=>none
theorem V8g {K:Fg9}:∀{r:R}{ds:M D}{v:V},Q9e r=some ds->F7 K H0 H r v->∃a xs,v=.ref a/\(F2 K H a xs\/H a=some (.tup xs))/\AllS K H ds xs
 |.st (.tup ds),_,v,e,h=>by cases e;have h:A4 K H (.tup ds) v:=h;unfold A4 at h;obtain⟨a,xs,e,q,t⟩:=h;exact⟨a,xs,e,.inr q,t⟩
 |.st (.lst ds),_,v,e,h=>by cases e;have h:A4 K H (.lst ds) v:=h;unfold A4 at h;obtain⟨a,xs,e,q,t⟩:=h;exact⟨a,xs,e,.inl q.sq,t⟩
 |.nw ds,_,v,e,h=>by cases e;obtain⟨a,xs,e,n,q,t⟩:=h;exact⟨a,xs,e,.inl (F2.of q),t⟩
 |.bw ds,_,v,e,h=>by cases e;obtain⟨a,xs,e,q,t⟩:=h;exact⟨a,xs,e,.inl (F2.of q),t⟩
 |.st .non,_,_,e,_=>by cases e
 |.st (.bl _),_,_,e,_=>by cases e
 |.st (.int _),_,_,e,_=>by cases e
 |.st (.str _),_,_,e,_=>by cases e
 |.dk _,_,_,e,_=>by cases e
 |.dt _,_,_,e,_=>by cases e
 |.ob _,_,_,e,_=>by cases e
 |.cl _ _,_,_,e,_=>by cases e
 |.ms _ _ _ _,_,_,e,_=>by cases e
def U8:M R->(R->Prop)->Prop
 |[r],Q=>∃ds,Q9e r=some ds/\Q (.st (.tup ds))
 |_,_=>False
def J0e:Q2y U8:=fun x P Q g h=>by
 unfold U8 at h ⊢;split at h
 ·obtain⟨ds,e,q⟩:=h;exact⟨ds,e,g _ q⟩
 ·exact h
def W5x:Q2w X (.type "tuple") U8:=by
 intro ah s σ H xs us Q I rv ⟨rs,dA,h⟩;unfold U8 at h;split at h
 ·obtain⟨v,rfl,ir⟩:=Q0q dA;obtain⟨ds,e,q⟩:=h;obtain⟨a,xs,rfl,sq,al⟩:=V8g e ir;refine W5y ah s σ H _ us Q I rv ⟨a,xs,rfl,?_⟩;rcases sq with sq |sq
  ·exact .inl ⟨sq,fun l hl=>q _ _ (G3 hl _) (A4.s_tup (K:=X.K) upd_same (al.mono (Kp.of (G3 hl _)) _ _))⟩
  ·exact .inr ⟨E2.of sq,q _ _ (A5.refl H) (A4.s_tup (K:=X.K) (H:=H) sq al)⟩
 ·exact h.elim
end
abbrev WG:=D->C8->(C8->Prop)->Prop
def W9s (K:Fg9)(H0:Hp)(g:WG):TG:=fun v σ H Q=>∃ τ d,C2 K H0 τ σ H/\A4 K H d v/\g d τ fun τ'=>∀ σ' H',A5 H H'->C2 K H0 τ' σ' H'->Q σ' H'
structure DG (X:Cx)(H0:Hp)(tg:Ag)(g:WG):Prop where
 mono:∀d τ (P Q:C8->Prop),(∀ τ,P τ->Q τ)->g d τ P->g d τ Q
 pg:PG X tg (W9s X.K H0 g)
abbrev WGs:=M D->C8->(C8->Prop)->Prop
variable {gs:WGs}
def W9t (K:Fg9)(H0:Hp)(g:WGs):TGs:=fun vs σ H Q=>∃ τ ds,C2 K H0 τ σ H/\AllS K H ds vs/\g ds τ fun τ'=>∀ σ' H',A5 H H'->C2 K H0 τ' σ' H'->Q σ' H'
structure DGs (X:Cx)(H0:Hp)(tg:M Ag)(g:WGs):Prop where
 mono:∀d τ (P Q:C8->Prop),(∀ τ,P τ->Q τ)->g d τ P->g d τ Q
 pg:PGs X tg (W9t X.K H0 g)
def pgW {t t':TG}(h:PG X e t)(f:∀v σ H Q,t' v σ H Q->t v σ H Q):PG X e t':=fun ah s σ H v u Q I r q=>h ah s σ H v u Q I r (f v σ H Q q)
def pgsW {e:M Ag}{t t':TGs}(h:PGs X e t)(f:∀v σ H Q,t' v σ H Q->t v σ H Q):PGs X e t':=fun ah s σ H v u Q I r q=>h ah s σ H v u Q I r (f v σ H Q q)
section
variable {a b:Ag}{es:M Ag}
def A9 (i:Nat):WG:=fun d τ Q=>Q (τ.set i (some (.dat d)))
def DG.nm {i:Nat}  (hN:X.N.Nodup)(hi:X.N[i]?=some x)(hx:Loc X.env.scope x)(hf:?K:=by sleep 1):DG X H0 (.Name x pos) (A9 i) where
 mono:=fun d τ P Q f h=>f _ h
 pg:=pgW (Y7n hN hi hx hf) fun v σ H Q cG=>(by obtain⟨τ,d,hR,iv,h⟩:=cG;exact h _ _ (A5.refl H) (hR.set iv fun m=>by cases m))
def L0:WGs:=fun ds τ Q=>ds=[]/\Q τ
def E1 (g:WG)(gs:WGs):WGs:=fun ds τ Q=>∃d r,ds=d::r/\g d τ fun τ'=>gs r τ' Q
def DGs.nil:DGs X H0 [] L0 where
 mono:=fun d τ P Q f h=>⟨h.1,f _ h.2⟩
 pg:=pgsW V4b fun vs σ H Q cG=>by
  obtain⟨τ,ds,hR,al,h1,h2⟩:=cG;subst h1;unfold AllS at al;exact⟨al,h2 σ H (A5.refl H) hR⟩
def DGs.cons {g:WG}  (h1:DG X H0 e g)(h2:DGs X H0 es gs)(hs:(assignEach (e::es) X.env).map (·.2)=assign e X.env::(assignEach es X.env).map (·.2):=by rfl):DGs X H0 (e::es) (E1 g gs) where
 mono:=fun d τ P Q f⟨x,r,e1,h⟩=>⟨x,r,e1,h1.mono x τ _ _ (fun τ' h=>h2.mono r τ' P Q f h) h⟩
 pg:=pgsW (V4a h1.pg h2.pg hs) fun vs σ H Q cU=>by
  obtain⟨τ,ds,hR,al,d,r,e1,h⟩:=cU;subst e1;unfold AllS at al;obtain⟨v,t,rfl,iv,al⟩:=al;exact⟨v,t,rfl,τ,d,hR,iv,h1.mono d τ _ _ (fun τ' h σ' H' sm eM=>⟨τ',r,eM,al.mono (Kp.of sm) _ _,h2.mono r τ' _ _ (fun τ2 h σ2 H2 s2 fh=>h σ2 H2 (sm.trans s2) fh) h⟩) h⟩
def K8 (n:Nat)(gs:WGs):WG:=fun d τ Q=>∃ds,d=.tup ds/\ds.length=n/\gs ds τ Q
def W2p {k:Nat}  (hc:X.calm=true)(h:DGs X H0 es gs)(hn:(assignEach es X.env).length=n:=by rfl)(mv:(assignEach es X.env).findIdx? (·.1)=none:=by rfl):DG X H0 (.Tuple es k pos) (K8 n gs) where
 mono:=fun d τ P Q f⟨ds,e1,e2,q⟩=>⟨ds,e1,e2,h.mono ds τ P Q f q⟩
 pg:=pgW (V3z hc h.pg hn mv) fun v σ H Q dF=>by
  obtain⟨τ,d,hR,iv,ds,e1,e2,q⟩:=dF;subst e1;unfold A4 at iv;obtain⟨p,xs,rfl,sq,al⟩:=iv;exact⟨p,xs,rfl,E2.of sq,by rw[<-al.length];exact e2,τ,ds,hR,al,q⟩
def Q7o {g:WG}(he:DE X H0 e we)(hg:DG X H0 tg g)(hs:swapsWithSole [tg] e pos.line X.env=pure false:=by rfl)(hw:swappedStores [tg] e X.env=pure none:=by rfl)
  (h1:(assignEach [tg] X.env).map (·.2)=[assign tg X.env]:=by rfl):DS X H0 (.Assign [tg] e pos) (fun E τ=>we τ fun r=>∃d,r=.st d/\g d τ E.nx) where
 mono:=fun τ E F le h=>he.mono τ _ _ (fun r⟨d,e1,h⟩=>⟨d,e1,hg.mono d τ _ _ le.nx h⟩) h
 ps:=S6 (Z7k he.pe hg.pg hs hw h1) fun D σ H ⟨τ,hR,h⟩=>⟨τ,hR,he.mono τ _ _ (fun r fE v H1 s1 ir=>by
  obtain⟨d,e1,h⟩:=fE;subst e1;exact⟨τ,d,hR.mono s1,ir,hg.mono d τ _ _ (fun τ' h σ' H' s2 eM=>h σ' H' (Kp.of (s1.trans s2)) eM) h⟩) h⟩
structure Yl (K:Fg9)(H0:Hp)(J:It)(ds:M D)(H:Hp):Prop where
 go:∀H',Kp H H'->A5 H0 H'->∀i,i<ds.length->J.go i H'
 yld:∀H',Kp H H'->A5 H0 H'->∀i x eX d,ds[i]?=some d->J.yld i H' x eX->A5 H' eX/\A4 K eX d x
 stop:∀H',Kp H H'->A5 H0 H'->J.stop ds.length H'
abbrev WI:=C8->(M D->C8->Prop)->Prop
def W9u (K:Fg9)(H0:Hp)(wi:WI):TI:=fun σ H R=>∃ τ,C2 K H0 τ σ H/\wi τ fun ds τ'=>∀J H',Kp H H'->C2 K H0 τ' σ H'->Yl K H0 J ds H'->R J H'
structure DI (X:Cx)(H0:Hp)(tg iter:Ag)(wi:WI):Prop where
 mono:∀ τ (P Q:M D->C8->Prop),(∀ds τ,P ds τ->Q ds τ)->wi τ P->wi τ Q
 pi:PI X tg iter (W9u X.K H0 wi)
def piW {t t':TI}(h:PI X tg e t)(f:∀ σ H Q,t' σ H Q->t σ H Q):PI X tg e t':=fun ah s σ H R I q=>h ah s σ H R I (f σ H R q)
def W2a {K:Fg9}  {a:Af}  {ds:M D}(hq:∀H',Kp H H'->A5 H0 H'->F2 K H' a xs)(al:AllS K H ds xs):Yl K H0 (Itl K a) ds H where
 go:=fun H' k s i hi=>⟨xs,xs[i]'(by rw[<-al.length];exact hi),hq H' k s,aa _⟩
 yld:=fun H' k s i x eX d hd g9=>by
  obtain⟨e,y⟩:=g9;subst e;have hx:=y xs (hq _ k s);obtain⟨v,hv,q⟩:=(al.mono k _ _).get hd;rw[hx]at hv;cases hv;exact⟨A5.refl _,q⟩
 stop:=fun H' k s=>⟨xs,hq H' k s,by rw[al.length];exact am _⟩
def DI.lst (he:DE X H0 e we):DI X H0 tg e (fun τ Q=>we τ fun r=>∃ds,r=.st (.lst ds)/\Q ds τ) where
 mono:=fun τ P Q f h=>he.mono τ _ _ (fun r⟨ds,e1,q⟩=>⟨ds,e1,f _ _ q⟩) h
 pi:=piW (Z7j he.pe) fun σ H R ⟨τ,hR,h⟩=>⟨τ,hR,he.mono τ _ _ (fun r jh v H1 s1 ir=>by
  obtain⟨ds,e1,q⟩:=jh;subst e1;have ir:A4 X.K H1 (.lst ds) v:=ir;unfold A4 at ir;obtain⟨a,xs,rfl,sq,al⟩:=ir;exact⟨a,rfl,⟨xs,sq.sq⟩,q _ _ (Kp.of s1) (hR.mono s1) (W2a (fun H' k _=>(k.fzL sq).sq) al)⟩) h⟩
def C2.freeze {K:Fg9}    {i:Nat}{ds:M D}{a:Af}{o:Obj}  (hR:C2 K H0 τ σ H)(e1:τ[i]?=some (some (.own ds)))(hv:σ[i]?=some (some (.ref a)))(h0:H0 a=none)(sq:H a=some (.lst xs))(al:AllS K H ds xs):
  C2 K H0 (τ.set i (some (.dat (.lst ds)))) σ (B0 H a (.frz o (.lst xs))):=by
 have kp:Kp H (B0 H a (.frz o (.lst xs))):=Q1n sq _;have hl:i<τ.length:=by
  rcases aX i τ.length with h |h
  ·exact h
  ·rw[ay.mpr h]at e1;cases e1
 refine⟨by rw[bG];exact hR.len,fun b ob hb=>?_,fun j s e=>?_,fun j k s t v dg e2 e3 m1 m2 q1 q2=>?_⟩
 ·rw[B2 (Z4 hb h0)];exact hR.same b ob hb
 ·by_cases hj:j=i
  ·subst hj;rw[Q1q hl]at e;cases e;exact⟨_,hv,A4.s_lst (K:=K) (.inl ⟨o,upd_same⟩) (al.mono kp _ _)⟩
  ·rw[aN (fun z=>hj z.symm)]at e;obtain⟨v,q,r⟩:=hR.here j s e;refine⟨v,q,?_⟩;have ap:s.mut=true->v≠.ref a:=fun m z=>by
    subst z;exact hR.apart i j _ s (.ref a) (fun z=>hj z.symm) e1 e rfl m hv q
   cases s with
   |dat d=>exact A4.mono kp _ _ r
   |own es=>accm_mu
   |bor es=>obtain⟨b,ys,e,q,t⟩:=r;exact⟨b,ys,e,q,t.mono kp _ _⟩
   |bd es=>obtain⟨b,ys,e,q,t⟩:=r;exact⟨b,ys,e,q,t.mono kp _ _⟩
   |dk es=>accm_mu
   |dt es=>accm_mu
   |ob _=>exact r
   |cl _ _=>exact⟨r.1,r.2.2 _ _ kp r.2.1,r.2.2⟩
   |ll _ _=>exact⟨r.1,r.2.keep kp fun b φ q=>by rw[B2 (Q0x q sq (by intro z;cases z))];exact q⟩
   |ins _ _ _=>obtain⟨e,n,dx,ys,q,t⟩:=r;exact⟨e,n,dx,ys,by rw[B2 (fun z=>ap rfl (by rw[e,z]))];exact q,t.mono kp _ _⟩
 ·by_cases hj:j=i
  ·subst hj;rw[Q1q hl]at e2;cases e2;cases m1
  ·by_cases hk:k=i
   ·subst hk;rw[Q1q hl]at e3;cases e3;cases m2
   ·rw[aN (fun z=>hj z.symm)]at e2;rw[aN (fun z=>hk z.symm)]at e3;exact hR.apart j k s t v dg e2 e3 m1 m2 q1 q2
def DI.own {i:Nat}(he:PE X e (Q5 i)):DI X H0 tg e (fun τ Q=>∃ds,τ[i]?=some (some (.own ds))/\Q ds (τ.set i (some (.dat (.lst ds))))) where
 mono:=fun τ P Q f⟨ds,e1,q⟩=>⟨ds,e1,f _ _ q⟩
 pi:=by
  intro ah s σ H R I ⟨τ,hR,ds,e1,q⟩;obtain⟨v,hv,a,xs,rfl,h0,sq,al⟩:=hR.here i _ e1;refine B3 (Z7j (tg:=tg) he ah s σ H (fun J H'=>J=Itl X.K a/\H'=H) I ⟨_,hv,a,rfl,⟨xs,F2.of sq⟩,rfl,rfl⟩) fun u s1 h1=>B3 h1 fun mq s2 bF=>?_;obtain⟨it,fp,tn,J,H',e,I2,T,st,fo,hJ,hH⟩:=bF;subst hJ hH;obtain⟨o,I3⟩:=A1.freeze I2 sq;have kp:Kp H' (B0 H' a (.frz o (.lst xs))):=Q1n sq _;refine⟨it,fp,tn,_,_,e,I3,T,st,fun b hb=>?_,q _ _ kp (hR.freeze e1 hv h0 sq al) (W2a (xs:=xs) (fun H2 k _=>.inl (.inr ⟨o,k.frz _ _ _ upd_same⟩)) (al.mono kp _ _))⟩;obtain⟨f0,fr⟩:=fo b hb;exact⟨by rw[B2 (fun z=>by rw[z,sq]at f0;cases f0)];exact f0,fr⟩
def DI.tup (he:DE X H0 e we):DI X H0 tg e (fun τ Q=>we τ fun r=>∃ds,r=.st (.tup ds)/\Q ds τ) where
 mono:=fun τ P Q f h=>he.mono τ _ _ (fun r⟨ds,e1,q⟩=>⟨ds,e1,f _ _ q⟩) h
 pi:=piW (Y7p he.pe) fun σ H R ⟨τ,hR,h⟩=>⟨τ,hR,he.mono τ _ _ (fun r gK v H1 s1 ir=>by
  obtain⟨ds,e1,q⟩:=gK;subst e1;have ir:A4 X.K H1 (.tup ds) v:=ir;unfold A4 at ir;obtain⟨a,xs,rfl,sq,al⟩:=ir;refine⟨a,rfl,⟨xs,E2.of sq⟩,q _ _ (Kp.of s1) (hR.mono s1) ⟨fun H' k _ i hi=>⟨xs,xs[i]'(by rw[<-al.length];exact hi),E2.of (k.tup _ _ sq),aa _⟩,fun H' k _ i x eX d hd ⟨e,y⟩=>?_,fun H' k _=>⟨xs,E2.of (k.tup _ _ sq),by rw[al.length];exact am _⟩⟩⟩;subst e;have hx:=y xs (E2.of (k.tup _ _ sq));obtain⟨v,hv,q⟩:=(al.mono k _ _).get hd;rw[hx]at hv;cases hv;exact⟨A5.refl _,q⟩) h⟩
def T1 (lo:Int)(n:Nat):M D:=(List.range n).map fun(i:Nat)=>.int (lo+(i:Int))
def Z3p {K:Fg9}  {lo:Int}:Yl K H0 (Itr lo n) (T1 lo n) H where
 go:=fun H' _ _ i hi=>by
  have:i<n:=by simpa [T1]using hi
  exact this
 yld:=fun H' _ _ i x eX d hd iL=>by
  obtain⟨e,y⟩:=iL;subst e;refine⟨A5.refl _,?_⟩;unfold T1 at hd;rw[ai]at hd;rcases aX i n with hi |hi
  ·rw[bV hi]at hd;have e:D.int (lo+i)=d:=az hd;subst e y;exact Q1m
  ·rw[ay.mpr (by simpa using hi)]at hd;cases hd
 stop:=fun H' _ _=>by
  show n<=(T1 lo n).length;simp[T1]
def DI.rng1 (hg:Gl X "range")(hm:X.mg "range"=none)(ha:DA X H0 [a] wr)(hs:starEach [a] X.env=[(false,eval a X.env)]:=by rfl):
  DI X H0 tg (.Call (.Name "range" p) [a] [] pos) (fun τ Q=>wr τ fun rs=>∃j:Int,rs=[.st (.int j)]/\-(2^62)<=j/\j<2^62/\Q (T1 0 j.toNat) τ) where
 mono:=fun τ P Q f h=>ha.mono τ _ _ (fun r⟨j,e1,h1,h2,q⟩=>⟨j,e1,h1,h2,f _ _ q⟩) h
 pi:=piW (Y7o hg hm ha.pa hs) fun σ H R ⟨τ,hR,h⟩=>⟨τ,hR,ha.mono τ _ _ (fun r iK vs H1 s1 dA=>by
  obtain⟨j,e1,h1,h2,q⟩:=iK;subst e1;obtain⟨v,rfl,ir⟩:=Q0q dA;cases (show v=.int j from ir);exact⟨j,rfl,h1,h2,q _ _ (Kp.of s1) (hR.mono s1) Z3p⟩) h⟩
def Z4m {K:Fg9}  {r r':R}  (h:O5 K H0 H [r,r'] vs):∃v u,vs=[v,u]/\F7 K H0 H r v/\F7 K H0 H r' u:=by
 obtain⟨v,t,rfl,q,z⟩:=h;obtain⟨u,rfl,q'⟩:=Q0q z;exact⟨v,u,rfl,q,q'⟩
def D9 (g:WG)(wb:WS)(E:F6):M D->C8->Prop
 |[],τ=>E.nx τ
 |d::ds,τ=>g d τ fun τ'=>wb {E with nx:=D9 g wb E ds,ct:=D9 g wb E ds,bk:=E.nx} τ'
theorem Z5n {g:WG}{wb:WS}(hg:∀d τ (P Q:C8->Prop),(∀ τ,P τ->Q τ)->g d τ P->g d τ Q)(hb:∀(τ:C8) (E F:F6),E.Le F->wb E τ->wb F τ){E F:F6}(le:E.Le F):∀(ds:M D) (τ:C8),D9 g wb E ds τ->D9 g wb F ds τ
 |[],τ,h=>le.nx τ h
 |d::ds,τ,h=>hg d τ _ _ (fun τ' h=>hb τ' {E with nx:=D9 g wb E ds,ct:=D9 g wb E ds,bk:=E.nx} {F with nx:=D9 g wb F ds,ct:=D9 g wb F ds,bk:=F.nx} ⟨fun τ h=>Z5n hg hb le ds τ h,le.rt,le.nx,fun τ h=>Z5n hg hb le ds τ h⟩ h) h
def Y6 {wi:WI}{g:WG}{wb:WS}(hp:PassesOwn ?D X.A X.env X.xe)(hc:X.calm=true)(hi:DI X H0 tg iter wi)(hg:DG X H0 tg g)(hb:A7 X H0 body wb)
  (hs:∀x,foldedSetIterable iter X.env x=pure x:=by intro _;rfl):DS X H0 (.For tg iter body [] pos) (fun E τ=>wi τ fun ds τ'=>D9 g wb E ds τ') where
 mono:=fun τ E F le h=>hi.mono τ _ _ (fun ds τ' h=>Z5n hg.mono hb.mono le ds τ' h) h
 ps:=S6 (V4l hp hc hi.pi hg.pg hb.ps hs) fun D σ H ⟨τ,hR,h⟩=>⟨τ,hR,hi.mono τ _ _ (fun ds τ' h J H1 k1 fm yl=>by
  refine⟨fun i m σ H2=>∃ τ,C2 X.K H0 τ σ H2/\Kp H1 H2/\i<=ds.length/\m=ds.length-i/\D9 g wb (Q3 X.K H0 H D) (ds.drop i) τ,⟨ds.length,τ',fm,Kp.refl _,be _,rfl,h⟩,?_⟩;rintro i m σ2 H2 ⟨τ2,fh,k2,kb,rfl,h2⟩
  by_cases bW:i<ds.length
  ·refine .inr ⟨yl.go H2 k2 fh.same i bW,fun σ' H'=>∃ τ,C2 X.K H0 τ σ' H'/\Kp H1 H'/\i+1<=ds.length/\D9 g wb (Q3 X.K H0 H D) (ds.drop (i+1)) τ,fun σ' H' g9=>(by obtain⟨τ3,a3,b3,c3,d3⟩:=g9;exact⟨ds.length-(i+1),?A,τ3,a3,b3,c3,rfl,d3⟩),fun x H3 y=>?_⟩;obtain⟨s3,ix⟩:=yl.yld H2 k2 fh.same i x H3 _ (aa bW) y;rw[cF bW]at h2;have k3:=k2.trans (Kp.of s3);refine⟨τ2,ds[i],fh.mono s3,ix,hg.mono _ _ _ _ (fun τ4 h4 σ4 H4 s4 lR=>⟨τ4,lR,?_⟩) h2⟩;have k4:=k3.trans (Kp.of s4);have k5:=k1.trans k4;exact hb.mono τ4 {Q3 X.K H0 H D with nx:=D9 g wb (Q3 X.K H0 H D) (ds.drop (i+1)),ct:=D9 g wb (Q3 X.K H0 H D) (ds.drop (i+1)),bk:=(Q3 X.K H0 H D).nx} _
    ⟨fun τ5 h5 σ5 H5 kk lQ=>⟨τ5,lQ,k4.trans kk,bW,h5⟩,fun _ h=>h,fun τ5 h5 σ5 H5 kk lQ=>h5 σ5 H5 (k5.trans kk) lQ,fun τ5 h5 σ5 H5 kk lQ=>⟨τ5,lQ,k4.trans kk,bW,h5⟩⟩ h4
  ·have e:i=ds.length:=?A
   subst e;rw[dY]at h2;exact .inl ⟨yl.stop H2 k2 fh.same,h2 σ2 H2 (k1.trans k2) fh⟩) h⟩
end
def V5 (env:Env):M (Str×NameKind)->M (Str×Af)->M (Str×Af)
 |[],cN=>cN
 |(n,k)::r,cN=>V5 env r (if (k==NameKind.free)=true then(n,(env.cells.lookup n).getD 0)::cN else cN)
def Z0m {env:Env}(h:∀y∈scope.names,y.2=.free->∃c,env.cells.lookup y.1=some c):closureFor scope env=pure (V5 env scope.names []):=by
 have key:∀(l:M (Str×NameKind)) (cN:M (Str×Af)),(∀y∈l,y.2=.free->∃c,env.cells.lookup y.1=some c) ->
   (forIn l cN fun x r=>(if (x.2==NameKind.free)=true then cellOf env x.1>>=fun c=>pure (ForInStep.yield ((x.1,c)::r))else pure (ForInStep.yield r):Sem (ForInStep (M (Str×Af)))))=pure (V5 env l cN):=by
  intro l
  induction l with
  |nil=>intro cN _;rfl
  |cons x r ih=>
   intro cN hl;obtain⟨n,k⟩:=x;have hr:∀y∈r,y.2=.free->∃c,env.cells.lookup y.1=some c:=fun y hy=>hl y (aj _ hy);rw[bX]
   by_cases hk:(k==NameKind.free)=true
   ·obtain⟨c,hc⟩:=hl (n,k) ak (eq_of_beq hk);have hc:env.cells.lookup n=some c:=hc;have e:cellOf env n=pure c:=by unfold cellOf;rw[hc]
    show((if (k==NameKind.free)=true then cellOf env n>>=fun c=>pure (ForInStep.yield ((n,c)::cN))else pure (ForInStep.yield cN))>>=_)=_;rw[aP hk,e];show _=pure (V5 env r (if (k==NameKind.free)=true then(n,(env.cells.lookup n).getD 0)::cN else cN));rw[aP hk,hc];exact ih _ hr
   ·show((if (k==NameKind.free)=true then cellOf env n>>=fun c=>pure (ForInStep.yield ((n,c)::cN))else pure (ForInStep.yield cN))>>=_)=_;rw[aK hk];show _=pure (V5 env r (if (k==NameKind.free)=true then(n,(env.cells.lookup n).getD 0)::cN else cN));rw[aK hk];exact ih _ hr
 simp only[closureFor];rw[key scope.names [] h]
 rfl
theorem Y3g {env:Env}:∀(l:M (Str×NameKind)) (cN:M (Str×Af)) (p:Str×Af),p∈V5 env l cN->p∈cN\/((p.1,NameKind.free)∈l/\p.2=(env.cells.lookup p.1).getD 0)
 |[],cN,p,h=>.inl h
 |(n,k)::r,cN,p,h=>by
  rcases Y3g r _ p h with q |⟨q1,q2⟩
  ·by_cases hk:(k==NameKind.free)=true
   ·rw[aP hk]at q;rcases au.mp q with q |q
    ·refine .inr ⟨?_,by rw[q]⟩;have:k=NameKind.free:=eq_of_beq hk;rw[q,this];exact ak
    ·exact .inl q
   ·rw[aK hk]at q;exact .inl q
  ·exact .inr ⟨aj _ q1,q2⟩
theorem Y3f {env:Env}:∀(l:M (Str×NameKind)) (cN:M (Str×Af)) (n:Str),((n,NameKind.free)∈l\/∃c,(n,c)∈cN)->∃c,(n,c)∈V5 env l cN
 |[],cN,n,h=>by
  rcases h with h |h
  ·cases h
  ·exact h
 |(m,k)::r,cN,n,h=>by
  refine Y3f r _ n ?_;rcases h with h |⟨c,h⟩
  ·rcases au.mp h with e |h
   ·cases e;refine .inr ⟨(env.cells.lookup m).getD 0,?_⟩;rw[aP (by rfl)];exact ak
   ·exact .inl h
  ·refine .inr ⟨c,?_⟩;split
   ·exact aj _ h
   ·exact h
theorem Z6n:∀{l:M (Str×α)}{x:Str}{c:α},l.lookup x=some c->(x,c)∈l:=by intro l;induction l<;>grind [j9,ak,aj]
theorem Y6b:∀{l:M (Str×α)}{x:Str}{c:α},(x,c)∈l->∃d,l.lookup x=some d
 |[],_,_,h=>by cases h
 |(n,d)::r,x,c,h=>by
  rw[j9];cases e:x==n with
  |true=>exact⟨d,rfl⟩
  |false=>
   rcases au.mp h with q |q
   ·cases q;simp at e
   ·exact Y6b q
def blk (X:Cx)(scope:Scope)(C:Af)(s:Ae)(H:Hp)(fp:M Af)(N:M Str):Cx:=
 {X with N:=N,s₀:=s,H₀:=H,env:=compEnvC scope (V5 X.env scope.names []) C X.env,outer:=X.stack,ex:=fp,fn:=fun _=>false,pn:=[],xe:=fun _ _=>False}
structure Blk (X:Cx)(scope:Scope)(N:M Str)(nt:Nat)(cap:?P):Prop where
 kind:scope.kind=.function
 cell:∀y∈scope.names,y.2≠.cell
 names:∀y∈scope.names,y.2=.local->scope.names.lookup y.1=some .local
 only:∀y∈scope.names,y.2=.free->scope.names.lookup y.1=some .free
 free:∀y∈scope.names,y.2=.free->X.env.kindOf y.1=some .cell\/X.env.kindOf y.1=some .free
 len:N.length=nt+cap.length
 caps:∀(j i:Nat) (x:Str),cap[j]?=some i->N[nt+j]?=some x->X.N[i]?=some x/\(x,NameKind.free)∈scope.names
section
variable {nt:Nat}
def Y9 (I:?C)(B:Blk X scope N nt cap)  {c:Af}(h:(V5 X.env scope.names []).lookup x=some c):X.env.cells.lookup x=some c:=by
 rcases Y3g _ _ _ (Z6n h)with q |⟨q1,q2⟩
 ·cases q
 ·obtain⟨d,hd⟩:=I.ok.has x (B.free _ q1 rfl);have q2:c=(X.env.cells.lookup x).getD 0:=q2;rw[hd]at q2 ⊢;rw[q2];rfl
def Z4s (I:?C)(B:Blk X scope N nt cap)  (h:(x,NameKind.free)∈scope.names):∃c,(V5 X.env scope.names []).lookup x=some c:=by
 obtain⟨c,hc⟩:=Y3f (env:=X.env) scope.names [] x (.inl h);exact Y6b hc
def Y8a {env:Env}  {k:NameKind}(h:(relabel scope env).names.lookup x=some k)(hk:k=.cell\/k=.free)(nc:∀y∈scope.names,y.2≠.cell):(x,NameKind.free)∈scope.names:=by
 have m:=Z6n h;unfold relabel at m;obtain⟨⟨n,k'⟩,hm,e⟩:=ar.mp m;dsimp only at e;split at e
 ·rename_i hc;cases e;simp only[cy]at hc;have:k'=NameKind.free:=eq_of_beq hc.1.1;rw[<-this];exact hm
 ·cases e;rcases hk with rfl |rfl
  ·exact absurd rfl (nc _ hm)
  ·exact hm
def W5i (I:?C)(B:Blk X scope N nt cap){C:Af}  (hC:s.heap.objs.size<=C)(hf:∀b∈fp,M9 X ah H b)(iM:∀b∈fp,b<s.heap.objs.size):(blk X scope C s H fp N).Ok where
 mod:=I.ok.mod
 kind:=B.kind
 glob:=I.ok.glob
 blt:=I.ok.blt
 above:=hC
 inj:=fun x y c h1 h2=>I.ok.inj x y c (Y9 I B h1) (Y9 I B h2)
 has:=fun x h=>by
  rcases h with h |h
  ·exact Z4s I B (Y8a h (.inl rfl) B.cell)
  ·exact Z4s I B (Y8a h (.inr rfl) B.cell)
 cab:=fun x c h=>by cases h
 hd:=I.ok.hd
 frames:=I.ok.frames
 stk:=.inl rfl
 exf:=fun b hb=>⟨aC (aB (iM b hb) hC),fun x c h=>(hf b hb).2.2.2.2.1 x c (Y9 I B h)⟩
 bs:=I.bs
 bsz:=aV I.ok.bsz I.sz
 noex:=fun b o e hb=>by
  rcases (hf b hb).2.2.2.1 with z |z
  ·exact I.ok.noex b o e z
  ·exact absurd (aB (aA e) (aV I.ok.bsz z)) (aU _)
 exfs:=fun b hb z=>by
  rcases au.mp (I.stkSub b z)with e |e
  ·exact(hf b hb).2.1 e
  ·exact(hf b hb).2.2.1 e
 funs:=I.stack
 frf:=I.stkFree
def Z0h (I:?C)(B:Blk X scope N nt cap){C:Af}  (hf:∀b∈fp,M9 X ah H b)(iM:∀b∈fp,b<s.heap.objs.size)   {m:Str->Ac Ad}
  (hC:s.heap.objs.size<=C) (lJ:h'.Ns C m) (k:∀b o,s.heap.get? b=?R->h'.get? b=?R):
  A1 (blk X scope C s H fp N) [] (List.replicate nt none++cap.map fun i=>(σ[i]?).join) H {s with heap:=h',toks:=t'}:=by
 refine⟨W5i I B hC hf iM,rfl,I.bare,Un.kept k,⟨m,lJ,fun i x v h1 h2 h3=>?_⟩,fun x c h=>?_,I.hok.fresh hC,fun x c h=>I.freeC x c (Y9 I B h),(fun p hp=>by cases hp),I.hok.kept k,?_⟩
 ·have h1:N[i]?=some x:=h1
  by_cases hi:i<nt
  ·rw[aI (by rw[b9];exact hi)]at h2;have:=aD h2;rw[i3]at this;cases this.2
  ·rw[aT (by rw[b9];omega),b9,ai]at h2;cases e:cap[i-nt]? with
   |none=>rw[e]at h2;cases h2
   |some j=>
    rw[e]at h2;have h2:(σ[j]?).join=some v:=az h2;have hσ:σ[j]?=some (some v):=by
     cases q:σ[j]? with
     |none=>rw[q]at h2;cases h2
     |some o=>rw[q]at h2;exact congrArg some h2
    obtain⟨hN,hx⟩:=B.caps (i-nt) j x e (by rw[show nt+(i-nt)=i by omega];exact h1);obtain⟨m0,yy,hl⟩:=I.loc;have kd:=B.free _ hx rfl;obtain⟨u,r,l⟩:=hl j x v hN hσ (.inr kd);refine⟨u,r,?_⟩;obtain⟨c,hc⟩:=Z4s I B hx;have eU:∃c',X.env.cells.lookup x=some c'/\s.heap.IsCell c' (some u):=by
     rcases l with⟨l1,_⟩ |⟨_,l2⟩
     ·rcases kd with kd |kd
      ·rw[kd]at l1;cases l1
      ·rw[kd]at l1;cases l1
     ·exact l2
    obtain⟨c',eV,o,ho,hd⟩:=eU;rw[Y9 I B hc]at eV;cases eV;have h3:Vis (relabel scope X.env) x:=h3;refine .inr ⟨?_,c,hc,o,k _ _ ho,hd⟩;rcases h3 with h3 |h3 |h3
    ·exfalso;have m1:=Z6n h3;unfold relabel at m1;obtain⟨⟨n,k'⟩,hm,e'⟩:=ar.mp m1;dsimp only at e';split at e'
     ·cases e'
     ·cases e';have a1:=B.names _ hm rfl;have a1:scope.names.lookup x=some .local:=a1;rw[B.only _ hx rfl]at a1;cases a1
    ·exact .inl h3
    ·exact .inr h3
 ·obtain⟨v,o,ho,hd⟩:=I.cell x c (Y9 I B h);exact⟨v,o,k _ _ ho,hd⟩
 ·rw[aq,b9,ag];exact B.len.symm
end
section
variable {w:Ak}{RR:Result->Ae->Prop}
theorem Z4v {target:Ag}    {it cN:Ad}{env:Env}(I:Nat->Ae->Prop)
  (turn:∀n s,I n s->wpAny (model prog w) A (pyNext it) (fun r s₁=>match r with
   |none=>RR (.ok .next) s₁
   | some v=>wpAny (model prog w) A (letOwnedTupleGo target it v) (fun _ sa=>wpAny (model prog w) A (assign target env v) (fun _ s₂=>
     wpAny (model prog w) A (forIn gP true fun c r=>if r=true then do let ok <- isTrue c env (eval c env);pure (ForInStep.yield ok)else pure (ForInStep.yield r)) (fun ok s₃=>
      if ok=true then wpAny (model prog w) A (eval gt env) (fun x s₄=>
       wpAny (model prog w) A (call (.builtin "list.append") [cN,x]) (fun _ s₅=>∃m,m<n/\I m s₅) (fun _ _=>False) s₄) (fun _ _=>False) s₃
      else ∃m,m<n/\I m s₃) (fun _ _=>False) s₂) (fun _ _=>False) sa) (fun _ _=>False) s₁) (fun _ _=>False) s)
  (n:Nat) (h:I n s):codeAny (model prog w) A (.compLoop (.ListComp gt [⟨target,iter,gP,0⟩] scope pos) 0 it cN env) RR s:=by
 refine codeAny_loop rfl I (fun n s hI=>?_) n h;show wpAny _ _ ((compTurn (.ListComp gt [⟨target,iter,gP,0⟩] scope pos) 0 it cN env).onRaise (fun x=>do noteFrame x env;theTreesLotGoes x)) _ _ s;refine wpAny_noted ?_;rw[compTurn_list];refine af (dM (af (aS (turn n s hI) (fun r s₁ h₁=>?_) fun _ _ h'=>h'.elim)));cases r with
 |none=>exact ao h₁
 |some v=>
  refine af (aS h₁ (fun _ sa ha=>?_) fun _ _ h'=>h'.elim);refine af (aS ha (fun _ s₂ h₂=>af (aS h₂ (fun ok s₃ h₃=>?_) fun _ _ h'=>h'.elim)) fun _ _ h'=>h'.elim);cases ok with
  |false=>exact ao ⟨rfl,h₃⟩
  |true=>
   exact af (af (aS h₃ (fun x s₄ h₄=>af (aS h₄ (fun _ s₅ h₅=>ao (ao ⟨rfl,h₅⟩)) fun _ _ h'=>h'.elim)) fun _ _ h'=>h'.elim))
end
structure YlS (K:Fg9)(J:It)(ds:M D)(H:Hp):Prop where
 go:∀H',A5 H H'->∀i,i<ds.length->J.go i H'
 yld:∀H',A5 H H'->∀i x eX d,ds[i]?=some d->J.yld i H' x eX->A5 H' eX/\A4 K eX d x
 stop:∀H',A5 H H'->J.stop ds.length H'
abbrev WIE:=C8->(M D->Prop)->Prop
variable {wi:WIE}
def W9v (K:Fg9)(H0:Hp)(wi:WIE):TI:=fun σ H R=>∃ τ,C2 K H0 τ σ H/\wi τ fun ds=>∀J H',A5 H H'->YlS K J ds H'->R J H'
structure L4 (X:Cx)(H0:Hp)(tg iter:Ag)(wi:WIE):Prop where
 mono:∀ τ (P Q:M D->Prop),(∀ds,P ds->Q ds)->wi τ P->wi τ Q
 pi:PI X tg iter (W9v X.K H0 wi)
def IfsR (X:Cx)(gP:M Ag)(t:TT):Prop:=
 ∀(ah:Pn9) (s:Ae) (σ:R9) (H:Hp) (Q:Bool->Hp->Prop),?C->t σ H Q ->
  wpAny ?D X.A (forIn gP true fun c r=>if r=true then do let ok <- isTrue c X.env (eval c X.env);pure (ForInStep.yield ok)else pure (ForInStep.yield r)) (TP X ah σ Q) X.xe s
structure P5 (X:Cx)(H0:Hp)(gP:M Ag)(t:WT):Prop where
 mono:∀(τ:C8) (P Q:Bool->Prop),(∀r,P r->Q r)->t τ P->t τ Q
 pt:IfsR X gP (Z6l X.K H0 t)
def P5.nil:P5 X H0 [] (fun _ Q=>Q true) where
 mono:=fun τ P Q f h=>f _ h
 pt:=fun ah s σ H Q I⟨τ,hR,h⟩=>gT ⟨H,I,h H (A5.refl H)⟩
def P5.one {c:Ag}{t:WT}(hc:DT X H0 c t):P5 X H0 [c] t where
 mono:=hc.mono
 pt:=fun ah s σ H Q I h=>wpAny_tests_one (hc.pt ah s σ H Q I h)
def N2 (g:WG)(t:WT)(we:WE):M D->C8->(M D->Prop)->Prop
 |[],_,Q=>Q []
 |d::ds,τ,Q=>g d τ fun τ'=>t τ' fun k=>if k=true then we τ' fun r=>∃e,r=.st e/\N2 g t we ds τ' fun es=>Q (e::es)else N2 g t we ds τ' Q
theorem Z4w {g:WG}{t:WT}  (hg:∀d τ (P Q:C8->Prop),(∀ τ,P τ->Q τ)->g d τ P->g d τ Q)(ht:∀(τ:C8) (P Q:Bool->Prop),(∀r,P r->Q r)->t τ P->t τ Q)(he:∀(τ:C8) (P Q:R->Prop),(∀r,P r->Q r)->we τ P->we τ Q):
  ∀(ds:M D) (τ:C8) (P Q:M D->Prop),(∀es,P es->Q es)->N2 g t we ds τ P->N2 g t we ds τ Q
 |[],_,_,_,f,h=>f _ h
 |d::ds,τ,P,Q,f,h=>hg d τ _ _ (fun τ' h=>ht τ' _ _ (fun k h=>Z3 (fun h=>he τ' _ _ (fun r⟨e,e1,h⟩=>⟨e,e1,Z4w hg ht he ds τ' _ _ (fun es h=>f _ h) h⟩) h) (fun h=>Z4w hg ht he ds τ' _ _ f h) h) h) h
def Q7z:Sl->Ac Sl
 |.dat d=>some (.dat d)
 |.own ds=>some (.bor ds)
 |.bor ds=>some (.bor ds)
 |.dt k=>some (.bd k)
 |.bd k=>some (.bd k)
 |.cl a Φ=>some (.cl a Φ)
 |_=>none
def T8 (nt:Nat)(cap:?P)(τ:C8):C8:=List.replicate nt none++cap.map fun i=>((τ[i]?).join).bind Q7z
def Z7r {K:Fg9}    (hR:C2 K H0 τ σ H)(nt:Nat)(cap:?P):C2 K H (T8 nt cap τ) (List.replicate nt none++cap.map fun i=>(σ[i]?).join) H:=by
 have at_:∀(i:Nat) (s:Sl),(T8 nt cap τ)[i]?=some (some s)->nt<=i/\∃j t,cap[i-nt]?=some j/\τ[j]?=some (some t)/\Q7z t=some s:=fun i s e=>by
  unfold T8 at e
  by_cases hi:i<nt
  ·rw[aI (by rw[b9];exact hi)]at e;have:=aD e;rw[i3]at this;cases this.2
  ·rw[aT (by rw[b9];omega),b9,ai]at e;cases q:cap[i-nt]? with
   |none=>rw[q]at e;cases e
   |some j=>
    rw[q]at e;have e:((τ[j]?).join).bind Q7z=some s:=az e;cases q2:τ[j]? with
    |none=>rw[q2]at e;cases e
    |some o=>
     rw[q2]at e;cases o with
     |none=>cases e
     |some t=>exact⟨?A,j,t,rfl,q2,e⟩
 refine⟨?_,A5.refl H,fun i s e=>?_,fun i j s t v _ e1 _ m _ _ _=>?_⟩
 ·unfold T8;rw[aq,aq,ag,ag,b9,b9]
 ·obtain⟨hi,j,t,hc,ht,hb⟩:=at_ i s e;obtain⟨v,hv,q⟩:=hR.here j t ht;refine⟨v,?_,?_⟩
  ·rw[aT (by rw[b9];omega),b9,ai,hc];show some ((σ[j]?).join)=_;rw[hv];rfl
  ·cases t with
   |dat d=>cases hb;exact q
   |own ds=>cases hb;obtain⟨a,xs,e,_,q,al⟩:=q;exact⟨a,xs,e,q,al⟩
   |bor ds=>cases hb;obtain⟨a,xs,e,q,al⟩:=q;exact⟨a,xs,e,hR.same _ _ q,al⟩
   |bd ds=>cases hb;obtain⟨a,xs,e,q,al⟩:=q;exact⟨a,xs,e,hR.same _ _ q,al⟩
   |dk _=>cases hb
   |dt ds=>cases hb;obtain⟨a,xs,e,_,q,al⟩:=q;exact⟨a,xs,e,q,al⟩
   |ob _=>cases hb
   |cl _ _=>cases hb;exact q
   |ll _ _=>cases hb
   |ins _ _ _=>cases hb
 ·obtain⟨hi,j',t',hc,ht,hb⟩:=at_ i s e1;cases t' with
  |dat d=>cases hb;cases m
  |own ds=>cases hb;cases m
  |bor ds=>cases hb;cases m
  |dk _=>cases hb
  |dt _=>cases hb;cases m
  |bd _=>cases hb;cases m
  |ob _=>cases hb
  |cl _ _=>cases hb;cases m
  |ll _ _=>cases hb
  |ins _ _ _=>cases hb
def Y4q {C:Af}  (sb:Heap.SameBut C h h'):∀b o,b≠C->h.get? b=?R->h'.get? b=?R:=fun b o hb e=>(sb.2 b hb).trans e
def Z4p {C:Af}    {σ':R9}  {ys:Array Ad} 
  (I2:A1 X ah σ H2 s2) (Ib:A1 ?L pb σ' H' s1) (f2:∀b∈fp,M9 X ah H2 b) (hC:s2.heap.objs.size<=C) (hD:s2.heap.objs.size<=D0) (eh:D0≠C) (sj:H' D0=none)
  (hl:s1.heap.PlainList D0 ys) (rv:C3 vs ys.toList) (hz:vs.length<=sizeLine) (sb:Heap.SameBut C s1.heap h'):A1 X ah σ (B0 H' D0 (.lst vs)) {s1 with heap:=h'}:=by
 have mn:∀b o,s2.heap.get? b=?R->b≠C:=fun b o e=>aC (aB (aA e) hC);have qL:∀b o,s2.heap.get? b=?R->b≠D0:=fun b o e=>aC (aB (aA e) hD);have keep:=Y4q sb;have base:Un (frs X.stack) fp H2 H' s2.heap s1.heap:=Ib.base;have sk:H' C=none:=Ib.free;have kn:∀b u,H' b=some u->b≠C:=fun b u e z=>by rw[z,sk]at e;cases e
 have S3:∀b u,H' b=some u->b≠D0:=fun b u e z=>by rw[z,sj]at e;cases e
 refine I2.call' (s':={s1 with heap:=h'}) (ch:=fp) Ib.os ⟨fun b o e n hb hx=>keep b o (mn b o e) (base.keep b o e n hb hx),fun b o e n hb hx=>?_,fun b o e n hx=>?_,fun b o e hx=>?_,fun b xs e=>?_,fun b o u e=>?_,fun b ps e=>?_⟩ (fun b u e=>?_) Ib.bare (fun b hb=>?_)
 ·obtain⟨sl,q⟩:=base.slot b o e n hb hx;exact⟨sl,keep b _ (mn b o e) q⟩
 ·rw[B2 (qL b o e)];exact base.free b o e n hx
 ·obtain⟨o',q⟩:=base.there b o e hx;exact⟨o',keep b o' (mn b o e) q⟩
 ·have q:=base.tups b xs e;rw[B2 (S3 b _ q)];exact q
 ·have q:=base.frzs b o u e;rw[B2 (S3 b _ q)];exact q
 ·obtain⟨more,q⟩:=base.tbls b ps e;exact⟨more,by rw[B2 (S3 b _ q)];exact q⟩
 ·by_cases hb:b=D0
  ·subst hb;rw[upd_same]at e;cases e;obtain⟨n,ho⟩:=hl;exact⟨hz,ys.toList,n,rv,keep b _ eh (by rw[ho])⟩
  ·rw[B2 hb]at e;refine(Ib.hok b u e).stay (fun c v hc q=>keep c v ?_ q) (fun c u _ q=>by rw[B2 (S3 c _ q)];exact q) fun c xs q=>by rw[B2 (S3 c _ q)];exact q
   rcases hc with z |z
   ·rw[z];exact kn b u e
   ·exact kn c _ z
 ·obtain⟨_,a2,a3,a4,a5,a6⟩:=f2 b hb;exact⟨a4,a2,a5,a6⟩
section
variable {nt:Nat}{g:WG}{t:WT}
def M8 (nt:Nat)(cap:?P)(wi:WIE)(g:WG)(t:WT)(we:WE):WE:=fun τ Q=>wi τ fun ds=>ds.length<=sizeLine/\N2 g t we ds (T8 nt cap τ) fun es=>Q (.nw es)
def Y3q {P:M D->Prop}       (hc:X.calm=true)(B:Blk X scope N nt cap)(hi:L4 X H0 tg iter wi)
  (hg:∀C s H fp,DG (blk X scope C s H fp N) H tg g) (ht:∀C s H fp,P5 (blk X scope C s H fp N) H gP t) (he:∀C s H fp,A5 H0 H->DE (blk X scope C s H fp N) H gt we) (hs:∀x,foldedSetIterable iter X.env x=pure x)
  (I:?C) (hR:C2 X.K H0 τ σ H) (hw:wi τ fun ds=>ds.length<=sizeLine/\N2 g t we ds (T8 nt cap τ) P)
  (fin:∀(C D0:Af) (s2 s4:Ae) (H2 H4:Hp) (fp:M Af) (pb:Pn9) (σ4:R9) (vs:M V) (ys:Array Ad) (es:M D) (f:Flow),A1 X ah σ H2 s2->A5 H H2->A1 ?L pb σ4 H4 s4->(∀b∈fp,M9 X ah H2 b) ->
   s2.heap.objs.size<=C->s2.heap.objs.size<=D0->D0≠C->H4 D0=none->s4.heap.PlainList D0 ys->C3 vs ys.toList->vs.length<=sizeLine->A5 H2 H4->AllS X.K H4 es vs->P es->compPost ?D X.A X.xe use QQ (.ref D0) C (.ok f) s4):
  wpAny ?D X.A (comprehension (.ListComp gt [⟨tg,iter,gP,0⟩] scope pos) scope X.env mi (newList []) false (eval iter X.env) use) QQ X.xe s:=by
 refine dG rfl hs (Z0m fun y hy e=>I.ok.has y.1 (B.free y hy e)) B.kind B.names ?_;refine B3 (hi.pi ah s σ H (fun J H2=>A5 H H2/\∃ds,YlS X.K J ds H2/\ds.length<=sizeLine/\N2 g t we ds (T8 nt cap τ) P) I
  ⟨τ,hR,hi.mono τ _ _ (fun ds h J H' sm yl=>⟨sm,ds,yl,h.1,h.2⟩) hw⟩) fun v s1 h1=>B3 h1 fun mq s2 h2=>?_
 obtain⟨it,fp,tn,J,H2,e,I2,T,fD,f2,ef,ds,yl,hz,kr⟩:=h2;subst e;have iM:∀b∈fp,b<s2.heap.objs.size:=fun b hb=>by
  obtain⟨o,ho,_⟩:=T.obj _ _ fD b hb;exact aA ho
 have fh:=hR.mono ef;refine bR (dn B.cell (by intro y hy;simp at hy) (fun h₁ ee dE=>?_) B.kind);dsimp only at ee dE ⊢;generalize hH2:s2.heap.push {cls:=.type "list",dict:=none,data:=.seq ([]:M Ad).toArray}=Hq at ee dE ⊢;have hC:Hq.objs.size=s2.heap.objs.size+1:=by rw[<-hH2,ba]
 have eh:s2.heap.objs.size≠Hq.objs.size:=by rw[hC];exact aC (c8 _)
 have dy:s2.heap.objs.size<=Hq.objs.size:=by rw[hC];exact cW _
 have old:∀b o,s2.heap.get? b=?R->h₁.get? b=?R:=fun b o e=>dE.extBut b o (by rw[hC];exact aC (bo (aA e))) (ae _ (hH2▸ae _ e));have fF:h₁.PlainList s2.heap.objs.size #[]:=⟨_,dE.extBut _ _ eh (ae _ (hH2▸aE _ rfl))⟩
 generalize hCe:Hq.objs.size=C at ee dE hC eh dy ⊢;generalize hDe:s2.heap.objs.size=D0 at hC eh dy fF ⊢;have eI:∀b∈fp,b<D0:=fun b hb=>hDe▸iM b hb;have g8:tn 0 h₁:=T.keep _ _ _ fD fun b _ o e=>old b o e;have mU:=Z0h (C:=C) (h':=h₁) (t':=s2.toks+([]:M (Str×Ad)).length) I2 B f2 iM (by rw[hDe];exact dy) ee old;have jC:H2 D0=none:=I2.hok.fresh (by rw[hDe];exact am _);have mj:D0∉frs X.stack:=fun z=>by
  rcases au.mp (I2.stkSub _ z)with e |e
  ·have:=I2.lt;rw[<-e,hDe]at this;exact aU _ this
  ·exact I2.nofs (by rw[hDe];exact am _) e
 have ml:∀x c,(V5 X.env scope.names []).lookup x=some c->c≠D0:=fun x c h z=>by
  obtain⟨v,q⟩:=I2.cell x c (Y9 I2 B h);have:=q.lt;rw[z,hDe]at this;exact aU _ this
 have g7:∀{pb:Pn9} {σ':R9}{H':Hp}{s':Ae}{ys:Array Ad}{n:Nat},A1 ?L pb σ' H' s'->H' D0=none->s'.heap.get? D0=some {cls:=.type "list",data:=.seq ys n} ->
   A1 ?L [(D0,{cls:=.type "list",data:=.seq ys n})] σ' H' s':=by
  intro pb σ' H' s' ys n I' n' e;refine I'.pins_of fun p hp=>?_;have e':p=(D0,{cls:=.type "list",data:=.seq ys n}):=by simpa using hp
  subst e';exact⟨e,n',eh,mj,fun v z=>by cases z⟩
 have iR:∀{H':Hp}{ob:Obj},(∀b∈fp,H' b=none)->∀b∈fp,M9 ?L [(D0,ob)] H' b:=by
  intro H' ob hn b hb;refine⟨hn b hb,(aC (aB (eI b hb) dy)),fun z=>?_,.inl hb,fun x c h=>(f2 b hb).2.2.2.2.1 x c (Y9 I2 B h),fun p hp=>?_⟩
  ·rcases au.mp (I2.stkSub b z)with e |e
   ·exact(f2 b hb).2.1 e
   ·exact(f2 b hb).2.2.1 e
  ·have e':p=(D0,ob):=by simpa [blk]using hp
   subst e';exact(aC (eI b hb)).symm
 let lV:Nat->Ae->Prop:=fun k s'=>∃(i:Nat) (σ':R9) (H':Hp) (τ':C8) (ys:Array Ad) (nn:Nat) (vs:M V) (es:M D),A1 ?L [(D0,{cls:=.type "list",data:=.seq ys nn})] σ' H' s'/\C2 X.K H2 τ' σ' H'/\tn i s'.heap /\
  (∀b∈fp,H' b=none)/\H' D0=none/\C3 vs ys.toList/\AllS X.K H' es vs/\i<=ds.length/\k=ds.length-i/\es.length<=i/\N2 g t we (ds.drop i) τ' fun il=>P (es++il)
 have loop:∀s₃:Ae,s₃={s2 with heap:=h₁,toks:=s2.toks+([]:M (Str×Ad)).length} ->
   codeAny ?D X.A (.compLoop (.ListComp gt [⟨tg,iter,gP,0⟩] scope pos) 0 (.ref it) (.ref D0) (compEnvC scope (V5 X.env scope.names []) C X.env))
    (compPost ?D X.A X.xe use QQ (.ref D0) C) s₃:=by
  rintro s₃ rfl;obtain⟨nn,ho⟩:=id fF;refine Z4v lV ?_ ds.length ⟨0,_,H2,T8 nt cap τ,#[],nn,[],[],g7 mU jC ho,Z7r fh nt cap,g8,fun b hb=>(f2 b hb).1,jC,.nil,AllS.nil,be _,rfl,am _,by simpa using kr⟩;rintro k s3 ⟨i,σ3,H3,τ3,ys,nn,vs,es,I3,R3,im,j2,d3,lv,oU,tM,rfl,lO,w3⟩;have cP:A5 H2 H3:=R3.same
  by_cases bW:i<ds.length
  ·refine aS (T.item ?L rfl rfl rfl hc i _ s3 σ3 H3 (fun _ _=>False) I3 (iR j2) im (yl.go H3 cP i bW)) (fun r s4 bF=>?_) fun _ _ z=>z;obtain⟨u,hr,h4⟩:=bF;subst hr;refine aS h4 (fun _ s5 bF=>?_) fun _ _ z=>z;obtain⟨x,H5,I5,r5,y5,gh,l5⟩:=bF;obtain⟨jw,ix⟩:=yl.yld H3 cP i x H5 _ (aa bW) y5;rw[cF bW]at w3;have l8:=I5.pinned (iR l5) (T.obj _ _ gh);have again:∀{σ7:R9}{H7:Hp}{s7:Ae} {τ7:C8}{pj:Array Ad}{qG:Nat}{vs7:M V}{es7:M D},A1 ?L (Y4 fp s5.heap) σ7 H7 s7->C2 X.K H2 τ7 σ7 H7->H7 D0=none->s7.heap.get? D0=some {cls:=.type "list",data:=.seq pj qG} ->
     C3 vs7 pj.toList->AllS X.K H7 es7 vs7->es7.length<=i+1->N2 g t we (ds.drop (i+1)) τ7 (fun il=>P (es7++il))->∃m,m<ds.length-i/\lV m s7:=by
    intro σ7 H7 s7 τ7 pj qG vs7 es7 I7 R7 d7 o7 qA xY rP w7;have vc:tn (i+1) s7.heap:=T.keep _ _ _ gh fun b hb o e=>(I7.pin (b,o) (aw _ (Q2j hb e))).1;refine⟨ds.length-(i+1),?A,i+1,σ7,H7,τ7,pj,qG,vs7,es7,g7 I7 d7 o7,R7,vc,fun b hb=>?_,d7,qA,xY,bW,rfl,rP,w7⟩;obtain⟨o,e,_⟩:=T.obj _ _ gh b hb;exact(I7.pin (b,o) (aw _ (Q2j hb e))).2.1
   refine aS ((hg C s2 H2 fp).pg _ s5 σ3 H5 x u (fun σ6 H6=>∃ τ6,C2 X.K H2 τ6 σ6 H6/\A5 H5 H6/\t τ6 fun k=>if k=true then we τ6 fun r=>∃e,r=.st e/\N2 g t we (ds.drop (i+1)) τ6 fun il=>P (es++(e::il))
     else N2 g t we (ds.drop (i+1)) τ6 fun il=>P (es++il)) l8 r5 ⟨τ3,ds[i],R3.mono jw,ix,(hg C s2 H2 fp).mono _ _ _ _ (fun τ6 h6 σ6 H6 jT R6=>⟨τ6,R6,jT,h6⟩) w3⟩) (fun _ s6 ⟨σ6,H6,I6,τ6,R6,jT,w6⟩=>?_) fun _ _ z=>z
   refine aS ((ht C s2 H2 fp).pt _ s6 σ6 H6 (fun k H7=>A5 H6 H7/\if k=true then we τ6 fun r=>∃e,r=.st e/\N2 g t we (ds.drop (i+1)) τ6 fun il=>P (es++(e::il))
     else N2 g t we (ds.drop (i+1)) τ6 fun il=>P (es++il)) I6 ⟨τ6,R6,(ht C s2 H2 fp).mono τ6 _ _ (fun k h H7 jv=>⟨jv,h⟩) w6⟩) (fun ok s7 ⟨H7,I7,jv,w7⟩=>?_) fun _ _ z=>z
   have pd:∀{σ':R9}{H':Hp}{s':Ae},A1 ?L ([(D0,{cls:=.type "list",data:=.seq ys nn})]++Y4 fp s5.heap) σ' H' s'->s'.heap.get? D0=some {cls:=.type "list",data:=.seq ys nn}/\H' D0=none:=fun I'=>
    ⟨(I'.pin (D0,_) (aw _ (bp _ ak))).1,(I'.pin (D0,_) (aw _ (bp _ ak))).2.1⟩
   have pf:∀{σ':R9}{H':Hp}{s':Ae},A1 ?L ([(D0,{cls:=.type "list",data:=.seq ys nn})]++Y4 fp s5.heap) σ' H' s'->A1 ?L (Y4 fp s5.heap) σ' H' s':=fun I'=>
    I'.pins_of fun p hp=>I'.pin p (aw _ (aw _ hp))
   have sQ:A5 H3 H7:=jw.trans (jT.trans jv);cases ok with
   |false=>
    rw[aK br]at w7 ⊢;exact again (pf I7) (R6.mono jv) (pd I7).2 (pd I7).1 lv (oU.mono (Kp.of sQ) _ _) (?A) w7
   |true=>
    rw[aP rfl]at w7 ⊢;refine aS ((he C s2 H2 fp fh.same).pe _ s7 σ6 H7 (fun v H8=>A5 H7 H8/\∃e,A4 X.K H8 e v/\N2 g t we (ds.drop (i+1)) τ6 fun il=>P (es++(e::il))) I7
     ⟨τ6,R6.mono jv,(he C s2 H2 fp fh.same).mono τ6 _ _ (fun r cG v H8 jS ir=>(by obtain⟨e,e1,h⟩:=cG;exact⟨jS,e,by subst e1;exact ir,h⟩)) w7⟩) (fun y s8 ⟨v8,H8,I8,md,jS,e8,qT,w8⟩=>?_) fun _ _ z=>z
    obtain⟨o8,d8⟩:=pd I8;have lE:ys.size<=sizeLine:=by
     have e1:=lv.length;have e2:=oU.length;have e4:ys.toList.length=ys.size:=by simp
     omega
    refine dP (hsz:=lE) ⟨nn,o8⟩ fun h₅ oh mt=>?_;have I9:A1 ?L (Y4 fp s5.heap) σ6 H8 {s8 with heap:=h₅}:=by
     refine(pf I8).turned (t':=s8.toks) (it:=D0) (fun b o hb e=>(mt.2 b hb).trans e) d8 eh (.inr (by rw[<-hDe];exact am _)) ml (fun p hp z=>?_);obtain⟨q1,_⟩:=Q8x (by simpa [blk]using hp);exact aC (eI _ q1) z
    obtain⟨nS,o9⟩:=oh;refine again I9 (R6.mono (jv.trans jS)) d8 o9 (vs7:=vs++[v8]) (es7:=es++[e8]) ?_ ((oU.mono (Kp.of (sQ.trans jS)) _ _).append (AllS.cons qT AllS.nil)) (by rw[aq];simpa using lO) ?_
    ·have:(ys.push y).toList=ys.toList++[y]:=by simp
     rw[this];exact lv.append (.cons md .nil)
    ·simpa using w8
  ·have e:i=ds.length:=?A
   subst e;refine aS (T.done ?L rfl rfl rfl hc ds.length _ s3 σ3 H3 (fun _ _=>False) I3 (iR j2) im (yl.stop H3 cP)) (fun r s4 bF=>?_) fun _ _ z=>z;obtain⟨hr,I4⟩:=bF;subst hr;have o4:=(I4.pin (D0,_) (aw _ ak)).1;rw[dY]at w3;have w3:P (es++[]):=w3;rw[aZ]at w3;have qY:vs.length<=sizeLine:=by rw[<-oU.length];omega
   exact fin C D0 s2 s4 H2 H3 fp _ σ3 vs ys es _ I2 ef I4 f2 (by rw[hDe];exact dy) (by rw[hDe];exact am _) eh d3 ⟨nn,o4⟩ lv qY cP oU w3
 exact gx (loop _ rfl) (T.self _ 0 _ _ _ g8 (loop _ rfl))
def Y0u (hc:X.calm=true)(B:Blk X scope N nt cap)(hi:L4 X H0 tg iter wi)(hg:∀C s H fp,DG (blk X scope C s H fp N) H tg g)(ht:∀C s H fp,P5 (blk X scope C s H fp N) H gP t)
  (he:∀C s H fp,A5 H0 H->DE (blk X scope C s H fp N) H gt we) (hs:∀x,foldedSetIterable iter X.env x=pure x:=by intro _;rfl):
  DE X H0 (.ListComp gt [⟨tg,iter,gP,0⟩] scope pos) (M8 nt cap wi g t we) where
 mono:=fun τ P Q f h=>hi.mono τ _ _ (fun ds h=>⟨h.1,Z4w (hg 0 X.s₀ X.H₀ []).mono (ht 0 X.s₀ X.H₀ []).mono (he 0 X.s₀ H0 [] (A5.refl _)).mono ds _ _ _ (fun es h=>f _ h) h.2⟩) h
 pe:=by
  intro ah s σ H Q I ⟨τ,hR,hw⟩;rw[eval_ListComp];refine Y3q hc B hi hg ht he hs I hR hw fun C D0 s2 s4 H2 H4 fp pb σ4 vs ys es f I2 ef I4 f2 hC hD eh hn hl rv hz ju al w3=>?_;obtain⟨m4,kU,_⟩:=id I4.loc;refine⟨m4,kU,fun h' sb=>?_⟩;exact⟨.ref D0,_,Z4p I2 I4 f2 hC hD eh hn hl rv hz sb,rfl,w3 _ _ (ef.trans (ju.trans (G3 hn _))) ⟨D0,vs,rfl,ef.free (I2.hok.fresh hD),upd_same,al.mono (Kp.of (G3 hn _)) _ _⟩⟩
def DE.comp (hc:X.calm=true)(B:Blk X scope N nt cap)(hi:L4 X H0 tg iter wi)(hg:∀C s H fp,DG (blk X scope C s H fp N) H tg g)(ht:∀C s H fp,P5 (blk X scope C s H fp N) H gP t)
  (he:∀C s H fp,DE (blk X scope C s H fp N) H gt we) (hs:∀x,foldedSetIterable iter X.env x=pure x:=by intro _;rfl):
  DE X H0 (.ListComp gt [⟨tg,iter,gP,0⟩] scope pos) (M8 nt cap wi g t we):=Y0u hc B hi hg ht (fun C s H fp _=>he C s H fp) hs
end
section
variable {i4:Pos}{nt:Nat}{g:WG}{t:WT}
def W3d {i:Nat}  (hc:X.calm=true)(B:Blk X scope N nt cap)(hi:L4 X H0 tg iter wi)(hg:∀C s H fp,DG (blk X scope C s H fp N) H tg g)(ht:∀C s H fp,P5 (blk X scope C s H fp N) H gP t)
  (he:∀C s H fp,DE (blk X scope C s H fp N) H gt we) (hN:X.N.Nodup) (mJ:X.N[i]?=some x) (hx:Loc X.env.scope x)
  (jf:swapsWith (.ListComp gt [⟨tg,iter,gP,0⟩] scope pos) (some (.Name x cg)) i4.line X.env=pure true:=by rfl) (hs:∀x,foldedSetIterable iter X.env x=pure x:=by intro _;rfl)
  (hf:?K:=by sleep 1):
  DS X H0 (.Assign [.Name x cg] (.ListComp gt [⟨tg,iter,gP,0⟩] scope pos) i4) (C4 i (M8 nt cap wi g t we)) where
 mono:=fun τ E F le h=>(DE.comp (pos:=pos) hc B hi hg ht he hs).mono τ _ _ (fun r h=>Z8r (fun s h=>le.nx _ h) h) h
 ps:=by
  intro ah s σ H D I ⟨τ,hR,hw⟩;rw[hV _ _ _ _ jf];refine af (dM (af ?_));show wpAny _ X.A (do let _ <- comprehension (.ListComp gt [⟨tg,iter,gP,0⟩] scope pos) scope X.env _ (newList []) false (eval iter X.env) (some (assign (.Name x cg) X.env))) _ _ s;refine af (aS (Y3q (use:=some (assign (.Name x cg) X.env)) (QQ:=fun _ s'=>SP X ah D .next s') hc B hi hg ht (fun C s H fp _=>he C s H fp) hs I hR hw fun C D0 s2 s4 H2 H4 fp pb σ4 vs ys es f I2 ef I4 f2 hC hD eh hn hl rv hz ju al w3=>?_)
   (fun _ s' hq=>ao (ao hq)) fun _ _ e=>e)
  have Ib:A1 X ah σ (B0 H4 D0 (.lst vs)) {s4 with heap:=s4.heap}:=Z4p I2 I4 f2 hC hD eh hn hl rv hz ⟨rfl,fun _ _=>rfl⟩;have lT:C≠X.env.locals:=fun z=>aU _ (aB I2.lt (z▸hC));have lS:∀x c,X.env.cells.lookup x=some c->c≠C:=fun x c h z=>by
   obtain⟨v,q⟩:=I2.cell x c h;exact aU _ (aB q.lt (z▸hC))
  show wpAny _ X.A (assign (.Name x cg) X.env (.ref D0)) _ _ s4;refine fU (Z2q (v:=.ref D0) Ib hN mJ hx rfl (fun s5 I5 bF=>?_) hf);obtain⟨a,nJ,ha⟩:=bF;obtain⟨m4,kU,_⟩:=id I4.loc;have oI:C≠a:=by
   rcases ha with ha |ha
   ·rw[ha];exact lT
   ·exact fun z=>lS _ _ ha z.symm
  refine⟨m4,kU.sameBut nJ oI,fun h' sb=>?_⟩;have oJ:H4 C=none:=I4.free;have I6:A1 X ah (σ.set i (some (.ref D0))) (B0 H4 D0 (.lst vs)) {s5 with heap:=h'}:=by
   refine I5.turned (t':=s5.toks) (it:=C) (fun b o hb e=>(sb.2 b hb).trans e) (by rw[B2 (bY eh)];exact oJ) lT (.inr (aV I2.sz hC)) lS fun p hp z=>?_;have:=(I2.pin p hp).1;exact aU _ (aB (aA this) (z▸hC))
  obtain⟨sl,p,eM⟩:=hR.store (i:=i) (r:=.nw es) (v:=.ref D0) (H1:=B0 H4 D0 (.lst vs)) (ef.trans (ju.trans (G3 hn _))) ⟨D0,vs,rfl,ef.free (I2.hok.fresh hD),upd_same,al.mono (Kp.of (G3 hn _)) _ _⟩ w3;exact⟨_,_,I6,p _ _ (Kp.of (ef.trans (ju.trans (G3 hn _)))) eM⟩
end
section
variable {a b c:Ag}
def L4.lst (he:DE X H0 e we):L4 X H0 tg e (fun τ Q=>we τ fun r=>∃ds,U1 r=some ds/\Q ds) where
 mono:=fun τ P Q f h=>he.mono τ _ _ (fun r⟨ds,e1,q⟩=>⟨ds,e1,f _ q⟩) h
 pi:=piW (Z7j he.pe) fun σ H R ⟨τ,hR,h⟩=>⟨τ,hR,he.mono τ _ _ (fun r cU v H1 s1 ir=>by
  obtain⟨ds,e1,q⟩:=cU;obtain⟨a,xs,rfl,sq,al⟩:=Q4o e1 ir;refine⟨a,rfl,⟨xs,sq⟩,q _ _ s1 ⟨fun H' s i hi=>⟨xs,xs[i]'(by rw[<-al.length];exact hi),s.seq sq,aa _⟩,fun H' s i x eX d hd ⟨e,y⟩=>?_,fun H' s=>⟨xs,s.seq sq,by rw[al.length];exact am _⟩⟩⟩;subst e;have hx:=y xs (s.seq sq);obtain⟨v,hv,q⟩:=(al.mono (Kp.of s) _ _).get hd;rw[hx]at hv;cases hv;exact⟨A5.refl _,q⟩) h⟩
def L4.tup (he:DE X H0 e we):L4 X H0 tg e (fun τ Q=>we τ fun r=>∃ds,r=.st (.tup ds)/\Q ds) where
 mono:=fun τ P Q f h=>he.mono τ _ _ (fun r⟨ds,e1,q⟩=>⟨ds,e1,f _ q⟩) h
 pi:=piW (Y7p he.pe) fun σ H R ⟨τ,hR,h⟩=>⟨τ,hR,he.mono τ _ _ (fun r ff v H1 s1 ir=>by
  obtain⟨ds,e1,q⟩:=ff;subst e1;have ir:A4 X.K H1 (.tup ds) v:=ir;unfold A4 at ir;obtain⟨a,xs,rfl,sq,al⟩:=ir;refine⟨a,rfl,⟨xs,E2.of sq⟩,q _ _ s1 ⟨fun H' s i hi=>⟨xs,xs[i]'(by rw[<-al.length];exact hi),E2.of (s _ _ sq),aa _⟩,fun H' s i x eX d hd ⟨e,y⟩=>?_,fun H' s=>⟨xs,E2.of (s _ _ sq),by rw[al.length];exact am _⟩⟩⟩;subst e;have hx:=y xs (E2.of (s _ _ sq));obtain⟨v,hv,q⟩:=(al.mono (Kp.of s) _ _).get hd;rw[hx]at hv;cases hv;exact⟨A5.refl _,q⟩) h⟩
def J1k {K:Fg9}  {lo:Int}:YlS K (Itr lo n) (T1 lo n) H:=
 ⟨fun H' s=>(Z3p (K:=K) (H0:=H) (H:=H)).go H' (Kp.of s) s,fun H' s=>(Z3p (K:=K) (H0:=H) (H:=H)).yld H' (Kp.of s) s,fun H' s=>(Z3p (K:=K) (H0:=H) (H:=H)).stop H' (Kp.of s) s⟩
def L4.rng1 (hg:Gl X "range")(hm:X.mg "range"=none)(ha:DA X H0 [a] wr)(hs:starEach [a] X.env=[(false,eval a X.env)]:=by rfl):
  L4 X H0 tg (.Call (.Name "range" p) [a] [] pos) (fun τ Q=>wr τ fun rs=>∃j:Int,rs=[.st (.int j)]/\-(2^62)<=j/\j<2^62/\Q (T1 0 j.toNat)) where
 mono:=fun τ P Q f h=>ha.mono τ _ _ (fun r⟨j,e1,h1,h2,q⟩=>⟨j,e1,h1,h2,f _ q⟩) h
 pi:=piW (Y7o hg hm ha.pa hs) fun σ H R ⟨τ,hR,h⟩=>⟨τ,hR,ha.mono τ _ _ (fun r g9 vs H1 s1 dA=>by
  obtain⟨j,e1,h1,h2,q⟩:=g9;subst e1;obtain⟨v,rfl,ir⟩:=Q0q dA;cases (show v=.int j from ir);exact⟨j,rfl,h1,h2,q _ _ s1 J1k⟩) h⟩
def Q5u {wr:M Af}(I:?C)(k:∀b o,b∉wr->s.heap.get? b=?R->h'.get? b=?R)(hf:∀b∈wr,M9 X ah H b):
  A1 X ah σ H {s with heap:=h',toks:=t'}:=by
 have lA:∀b u,H b=some u->b∉wr:=fun b u e z=>by have:=(hf b z).1;rw[e]at this;cases this
 refine I.step (g':=s.gens) (d':=s.drawn) (ch:=wr) (fun b hb=>?_) (fun b o _ _ hc e _=>k b o hc e) (fun b o _ _ hc e _=>⟨o.slots,k b o hc e⟩) (fun _ _ _ _ n=>n)
  (fun b o hc e=>⟨o,k b o hc e⟩) (fun _ _ e=>e) (fun _ _ _ e=>e) (fun b ps e=>⟨#[],by rw[e];simp⟩) (fun m hm=>?_) (fun b u e=>?_) I.bare
 ·obtain⟨_,f1,_,f3,f4,f5⟩:=hf b hb;exact⟨f3,f1,f4,f5⟩
 ·obtain⟨o,es,ep,ho,r⟩:=hm;exact⟨o,es,ep,k _ o (fun z=>(hf _ z).2.1 rfl) ho,r⟩
 ·refine(I.hok b u e).stay (fun c v hc q=>k c v ?_ q) (fun _ _ _ q=>q) fun _ _ q=>q;rcases hc with z |z
  ·rw[z];exact lA b u e
  ·exact lA c _ z
def Its (x:Str):It:=⟨fun i _=>i<x.cps.size,fun i H v H'=>H'=H/\∃c,x.cps[i]?=some c/\v=.str ⟨#[c]⟩,fun i _=>i=x.cps.size⟩
def W0m {w:Ak}{K:Fg9}   {ty:String}  {t:Tok}(jx:ty="str_ascii_iterator"\/ty="str_iterator"):Q1o P w K tg (Its x) [it] it (fun i h=>h.IsStrIter it ty x t i) where
 mem:=by simp
 obj:=fun i h st b hb=>by
  have e:b=it:=by simpa using hb
  subst e;obtain⟨o,e,c,d⟩:=st;exact⟨o,e,fun v z=>by rw[d]at z;cases z⟩
 keep:=fun i h h' kO k=>(by obtain⟨o,e,r⟩:=kO;exact⟨o,k it ?H o e,r⟩)
 item:=by
  back_in;have W:Walks X.prog X.w X.A it [it] [it] x.cps.size (SignAt x) (fun i h=>h.IsStrIter it ty x t i):=by
   rcases jx with rfl |rfl
   ·exact Walks.strAscii (I.ok.hd hc) it x t
   ·exact Walks.strWide (I.ok.hd hc) it x t
  refine W.item i s _ _ hg st fun v h' tk hv jc k=>?_;obtain⟨c,u,eV,rfl⟩:=hv;have I1:A1 X ah σ H {s with heap:=h',toks:=tk}:=Q5u I k hf;obtain⟨o,e,cl,d⟩:=id jc;refine⟨_,rfl,Q8i (s:={s with heap:=h',toks:=tk}) e cl d (by rcases jx with rfl |rfl<;>decide) ⟨.str ⟨#[c]⟩,H,I1,⟨u,rfl⟩,⟨rfl,c,eV,rfl⟩,jc,fun b hb=>(hf b hb).1⟩⟩
 done:=by
  back_in;have hg:i=x.cps.size:=hg;subst hg;have W:Walks X.prog X.w X.A it [it] [it] x.cps.size (SignAt x) (fun i h=>h.IsStrIter it ty x t i):=by
   rcases jx with rfl |rfl
   ·exact Walks.strAscii (I.ok.hd hc) it x t
   ·exact Walks.strWide (I.ok.hd hc) it x t
  exact W.done s _ _ st fun h' tk k=>⟨rfl,Q5u I k hf⟩
 self:=fun A i s Q E st h=>by
  rcases jx with rfl |rfl
  ·exact wpAny_pyIter_striter_ascii st h
  ·exact wpAny_pyIter_striter_wide st h
def G4 (x:Str):M D:=x.cps.toList.map fun c=>.str ⟨#[c]⟩
def J1l {K:Fg9}  :YlS K (Its x) (G4 x) H where
 go:=fun H' _ i hi=>by
  have:i<x.cps.size:=by simpa [G4]using hi
  exact this
 yld:=fun H' _ i v eX d hd jg=>by
  obtain⟨e,c,hc,hv⟩:=jg;subst e hv;refine⟨A5.refl _,?_⟩;unfold G4 at hd;rw[ai]at hd;have:x.cps.toList[i]?=some c:=by simpa using hc
  rw[this]at hd;have e:D.str ⟨#[c]⟩=d:=az hd;subst e;exact Q4c
 stop:=fun H' _=>by
  show(G4 x).length=x.cps.size;simp[G4]
def L4.str (he:DE X H0 e we):L4 X H0 tg e (fun τ Q=>we τ fun r=>∃x,r=.st (.str x)/\Q (G4 x)) where
 mono:=fun τ P Q f h=>he.mono τ _ _ (fun r⟨ds,e1,q⟩=>⟨ds,e1,f _ q⟩) h
 pi:=by
  intro ah s σ H R I ⟨τ,hR,h⟩;refine B3 (he.pe ah s σ H (fun v H1=>A5 H H1/\∃x,v=.str x/\∀J H',A5 H H'->YlS X.K J (G4 x) H'->R J H') I ⟨τ,hR,he.mono τ _ _ (fun r iL v H1 s1 ir=>(by obtain⟨x,e1,q⟩:=iL;exact⟨s1,x,by subst e1;exact ir,q⟩)) h⟩) fun u s1 ⟨v,H1,I1,rv,sm,x,e1,q⟩=>?_;subst e1;obtain⟨t,rfl⟩:=rv;have fin:∀(ty:String),(ty="str_ascii_iterator"\/ty="str_iterator")->PIE X ah σ tg R (.ref s1.heap.objs.size) {s1 with heap:=s1.heap.push {cls:=.type ty,data:=.fields #[.str x t,.int 0 0]}}:=fun ty jx=>by
   refine⟨s1.heap.objs.size,[s1.heap.objs.size],_,_,H1,rfl,I1.kept (t':=s1.toks) fun b o e=>ae _ e,W0m (ty:=ty) (x:=x) (t:=t) jx,⟨_,aE _ rfl,rfl,rfl⟩,fun b hb=>?_,q _ _ sm J1l⟩;have e:b=s1.heap.objs.size:=by simpa using hb
   subst e;exact I1.fpOk (am _) (I1.hok.fresh (am _))
  cases ha:x.cps.all (·<128)
  ·exact wpAny_pyIter_wide ha (fin _ (.inr rfl))
  ·exact wpAny_pyIter_ascii ha (fin _ (.inl rfl))
end
section
variable {b c:Ag}
def Q9l {wr:M Af}{T:Af}   (I:?C)(k:∀b o,b∉wr->s.heap.get? b=?R->h'.get? b=?R)(hf:∀b∈wr,M9 X ah H b)
  (hT:s.heap.objs.size<=T) (ht:IsTup h' T b7.toArray) (rv:C3 xs b7) (hz:xs.length<=sizeLine):A1 X ah σ (B0 H T (.tup xs)) {s with heap:=h',toks:=t'}:=by
 have lA:∀b u,H b=some u->b∉wr:=fun b u e z=>by have:=(hf b z).1;rw[e]at this;cases this
 have xi:H T=none:=I.hok.fresh hT;have neT:∀b u,H b=some u->b≠T:=fun b u e z=>by rw[z,xi]at e;cases e
 refine I.step (g':=s.gens) (d':=s.drawn) (ch:=wr) (fun b hb=>?_) (fun b o _ _ hc e _=>k b o hc e) (fun b o _ _ hc e _=>⟨o.slots,k b o hc e⟩) (fun b o _ e n=>by rw[B2 (aC (aB (aA e) hT))];exact n)
  (fun b o hc e=>⟨o,k b o hc e⟩) (fun b _ e=>by rw[B2 (neT b _ e)];exact e) (fun b _ _ e=>by rw[B2 (neT b _ e)];exact e) (fun b ps e=>⟨#[],by rw[B2 (neT b _ e),e];simp⟩) (fun m hm=>?_) (fun b u e=>?_) I.bare
 ·obtain⟨_,f1,_,f3,f4,f5⟩:=hf b hb;exact⟨f3,f1,f4,f5⟩
 ·obtain⟨o,es,ep,ho,r⟩:=hm;exact⟨o,es,ep,k _ o (fun z=>(hf _ z).2.1 rfl) ho,r⟩
 ·by_cases hb:b=T
  ·subst hb;rw[upd_same]at e;cases e;exact⟨hz,b7,rv,ht⟩
  ·rw[B2 hb]at e;refine(I.hok b u e).stay (fun c v hc q=>k c v ?_ q) (fun c u _ q=>by rw[B2 (neT c _ q)];exact q) fun c xs q=>by rw[B2 (neT c _ q)];exact q
   rcases hc with z |z
   ·rw[z];exact lA b u e
   ·exact lA c _ z
def K1 (ds:M D):M D:=ds.zipIdx.map fun(p:D×Nat)=>.tup [.int (p.2:Int),p.1]
theorem Z0p {ds:M D}{i:Nat}{d:D}(h:(K1 ds)[i]?=some d):∃x,ds[i]?=some x/\d=.tup [.int (i:Int),x]:=by
 unfold K1 at h;rw[ai,qk]at h;cases e:ds[i]? with
 |none=>rw[e]at h;cases h
 |some x=>
  rw[e]at h;have h:D.tup [.int ((0+i:Nat):Int),x]=d:=az h;exact⟨x,rfl,by rw[<-h,cZ]⟩
def Q4i (ds:M D):(K1 ds).length=ds.length:=by simp[K1]
def Ies (x:Str):It:=⟨fun i _=>i<x.cps.size,fun i H v H'=>∃T c,x.cps[i]?=some c/\H T=none/\v=.ref T/\H'=B0 H T (.tup [.int (i:Int),.str ⟨#[c]⟩]),fun i _=>i=x.cps.size⟩
def J0f {w:Ak}{K:Fg9}   {pt:Pos}   {t:Tok}(dg:en≠it):
  Q1o P w K (.Tuple gN kk pt) (Ies x) [en,it] en (fun i h=>(∃old,IsEnum h en it i old)/\h.IsStrIter it (strIterType x) x t i) where
 mem:=by simp
 obj:=fun i h st b hb=>by
  obtain⟨⟨old,he⟩,o,ho,_,d⟩:=st;rcases au.mp hb with rfl |hb
  ·exact⟨_,he,fun v z=>by cases z⟩
  ·have e:b=it:=by simpa using hb
   subst e;exact⟨o,ho,fun v z=>by rw[d]at z;cases z⟩
 keep:=fun i h h' cG k=>(by obtain⟨⟨old,he⟩,o,ho,r⟩:=cG;exact⟨⟨old,k en ?H _ he⟩,o,k it ?H o ho,r⟩)
 item:=by
  back_in;have Dr:Draws X.prog X.w X.A.in1 it [it] x.cps.size (fun i v=>∃c u,x.cps[i]?=some c/\v=.str ⟨#[c]⟩ u) (fun i h=>h.IsStrIter it (strIterType x) x t i):=by
   unfold strIterType;split
   ·exact qq (A:=X.A.in1) (show X.A.in1.handled=none from I.ok.hd hc) it x t
   ·exact uY (A:=X.A.in1) (show X.A.in1.handled=none from I.ok.hd hc) it x t
  have W:=fW Dr en dg (by simpa using dg) ?H;have wO:∀b∈[en,it],M9 X ah H b:=hf;refine W.item i s _ _ hg st fun T jb h' tk hv hT oG lD k=>?_;obtain⟨t1,y,⟨c,u,eV,rfl⟩,rfl⟩:=hv;refine⟨_,rfl,W.go gN kk pt i T {s with heap:=h',toks:=tk} _ _ lD fun h2 fD k2=>?_⟩;have kJ:∀b o,b∉[en,it]->s.heap.get? b=?R->h2.get? b=?R:=fun b o hb e=>k2 b o hb (k b o hb e);have lP:=W.apart i T h' lD;have gM:IsTup h2 T ([Value.int (i:Int) t1,Value.str ⟨#[c]⟩ u]).toArray:=by
   obtain⟨o,ho,r⟩:=oG;exact⟨o,k2 T o lP ho,r⟩
  have I2:=Q9l (t':=tk) (xs:=[.int (i:Int),.str ⟨#[c]⟩]) I kJ wO hT gM (.cons ⟨t1,rfl⟩ (.cons ⟨u,rfl⟩ .nil)) (by show 2<=sizeLine;decide);refine⟨.ref T,_,I2,rfl,⟨T,c,eV,I.hok.fresh hT,rfl,rfl⟩,fD,fun b hb=>?_⟩;rw[B2 (show b≠T from fun z=>lP (by rw[<-z];exact hb))];exact(hf b hb).1
 done:=by
  back_in;have hg:i=x.cps.size:=hg;subst hg;have Dr:Draws X.prog X.w X.A.in1 it [it] x.cps.size (fun i v=>∃c u,x.cps[i]?=some c/\v=.str ⟨#[c]⟩ u) (fun i h=>h.IsStrIter it (strIterType x) x t i):=by
   unfold strIterType;split
   ·exact qq (A:=X.A.in1) (show X.A.in1.handled=none from I.ok.hd hc) it x t
   ·exact uY (A:=X.A.in1) (show X.A.in1.handled=none from I.ok.hd hc) it x t
  have W:=fW Dr en dg (by simpa using dg) ?H;exact W.done s _ _ st fun h' tk k=>⟨rfl,Q5u I k hf⟩
 self:=fun A i s Q E cU h=>(by obtain⟨⟨old,he⟩,_⟩:=cU;exact cx he h)
def Y0m {K:Fg9}  :YlS K (Ies x) (K1 (G4 x)) H where
 go:=fun H' _ i hi=>by
  have:i<x.cps.size:=by rw[Q4i]at hi;simpa [G4]using hi
  exact this
 yld:=fun H' _ i v eX d hd dF=>by
  obtain⟨T,c,hc,hT,hv,hH⟩:=dF;subst hH hv;refine⟨G3 hT _,?_⟩;obtain⟨y,hy,rfl⟩:=Z0p hd;unfold G4 at hy;rw[ai]at hy;have:x.cps.toList[i]?=some c:=by simpa using hc
  rw[this]at hy;have e:D.str ⟨#[c]⟩=y:=az hy;subst e;exact A4.s_tup upd_same (AllS.cons Q1m (AllS.cons Q4c AllS.nil))
 stop:=fun H' _=>by
  show(K1 (G4 x)).length=x.cps.size;rw[Q4i];simp[G4]
def Iel (K:Fg9)(l:Af):It:=⟨fun i H=>∃xs x,F2 K H l xs/\xs[i]?=some x,fun i H v H'=>∃T x,(∀xs,F2 K H l xs->xs[i]?=some x)/\H T=none/\v=.ref T/\H'=B0 H T (.tup [.int (i:Int),x]),fun i H=>∃xs,F2 K H l xs/\xs.length=i⟩
def W0k {w:Ak}{K:Fg9}   {pt:Pos}  (dg:en≠it)(ig:l≠en)(ni:l≠it):
  Q1o P w K (.Tuple gN kk pt) (Iel K l) [en,it] en (fun i h=>(∃old,IsEnum h en it i old)/\h.IsListIter it l i) where
 mem:=by simp
 obj:=fun i h st b hb=>by
  obtain⟨⟨old,he⟩,o,ho,_,d⟩:=st;rcases au.mp hb with rfl |hb
  ·exact⟨_,he,fun v z=>by cases z⟩
  ·have e:b=it:=by simpa using hb
   subst e;exact⟨o,ho,fun v z=>by rw[d]at z;cases z⟩
 keep:=fun i h h' ff k=>(by obtain⟨⟨old,he⟩,hi⟩:=ff;exact⟨⟨old,k en ?H _ he⟩,hi.at fun o e=>k it ?H o e⟩)
 item:=by
  back_in;obtain⟨xs,x,hq,hx⟩:=hg;obtain⟨b7,rv,p,hz⟩:=I.list hq;have W:=WalksT.enumerate (prog:=X.prog) (w:=X.w) (A:=X.A) (I.ok.hd hc) en it l dg ig ni b7.toArray;obtain⟨u,hu,ru⟩:=rv.get hx;have bW:i<b7.toArray.size:=by
   rcases aX i b7.length with h |h
   ·simpa using h
   ·rw[ay.mpr h]at hu;cases hu
  refine W.item i s _ _ bW ⟨st.1,st.2,p.isList⟩ fun T jb h' tk hv hT oG lD k=>?_;obtain⟨t1,y,hy,rfl⟩:=hv;have ey:y=u:=by
   have:b7[i]?=some y:=by simpa using hy
   rw[hu]at this;exact(az this).symm
  subst ey;refine⟨_,rfl,W.go gN kk pt i T {s with heap:=h',toks:=tk} _ _ lD fun h2 fD k2=>?_⟩;have kJ:∀b o,b∉[en,it]->s.heap.get? b=?R->h2.get? b=?R:=fun b o hb e=>k2 b o hb (k b o hb e);have lP:=W.apart i T h' lD;have gM:IsTup h2 T ([Value.int (i:Int) t1,y]).toArray:=by
   obtain⟨o,ho,r⟩:=oG;exact⟨o,k2 T o lP ho,r⟩
  have I2:=Q9l (t':=tk) (xs:=[.int (i:Int),x]) I kJ hf hT gM (.cons ⟨t1,rfl⟩ (.cons ru .nil)) (by show 2<=sizeLine;decide);refine⟨.ref T,_,I2,rfl,⟨T,x,fun ys hy=>by rw[I.list_inj hy hq];exact hx,I.hok.fresh hT,rfl,rfl⟩,⟨fD.1,fD.2.1⟩,fun b hb=>?_⟩;rw[B2 (show b≠T from fun z=>lP (by rw[<-z];exact hb))];exact(hf b hb).1
 done:=by
  back_in;obtain⟨xs,hq,hx⟩:=hg;obtain⟨b7,rv,p,hz⟩:=I.list hq;have W:=WalksT.enumerate (prog:=X.prog) (w:=X.w) (A:=X.A) (I.ok.hd hc) en it l dg ig ni b7.toArray;have hl:=rv.length;have e:i=b7.toArray.size:=by simp;omega
  subst e;exact W.done s _ _ ⟨st.1,st.2,p.isList⟩ fun h' tk k=>⟨rfl,Q5u I k hf⟩
 self:=fun A i s Q E fE h=>(by obtain⟨⟨old,he⟩,_⟩:=fE;exact cx he h)
def J1i {K:Fg9}    {ds:M D}(sq:F2 K H l xs)(al:AllS K H ds xs):YlS K (Iel K l) (K1 ds) H where
 go:=fun H' s i hi=>by
  rw[Q4i]at hi;exact⟨xs,xs[i]'(by rw[<-al.length];exact hi),s.seq sq,aa _⟩
 yld:=fun H' s i v eX d hd g9=>by
  obtain⟨T,x,hx,hT,hv,hH⟩:=g9;subst hH hv;refine⟨G3 hT _,?_⟩;obtain⟨y,hy,rfl⟩:=Z0p hd;obtain⟨v,hv,q⟩:=al.get hy;rw[hx xs (s.seq sq)]at hv;cases hv;exact A4.s_tup upd_same (AllS.cons Q1m (AllS.cons (q.mono (Kp.of (s.trans (G3 hT _))) _ _) AllS.nil))
 stop:=fun H' s=>⟨xs,s.seq sq,by rw[Q4i];exact al.length.symm⟩
end
section
variable {a b:Ag}
def C2.mutate {K:Fg9}    {i:Nat}{ds pZ:M D}{a:Af}{nG:M V}(hR:C2 K H0 τ σ H)(e1:τ[i]?=some (some (.own ds)))(hv:σ[i]?=some (some (.ref a)))(h0:H0 a=none)(sq:H a=some (.lst xs))(al:AllS K H pZ nG):
  C2 K H0 (τ.set i (some (.own pZ))) σ (B0 H a (.lst nG)):=by
 have kp:Kp H (B0 H a (.lst nG)):=Q1n sq _;have hl:i<τ.length:=by
  rcases aX i τ.length with h |h
  ·exact h
  ·rw[ay.mpr h]at e1;cases e1
 have old:∀(j:Nat) (s:Sl),(τ.set i (some (.own pZ)))[j]?=some (some s)->j≠i->τ[j]?=some (some s):=fun j s e hj=>by rw[aN (fun z=>hj z.symm)]at e;exact e
 have ib:∀(j:Nat) (s:Sl),(τ.set i (some (.own pZ)))[j]?=some (some s)->s.mut=true->∃t,τ[j]?=some (some t)/\t.mut=true:=fun j s e m=>by
  by_cases hj:j=i
  ·subst hj;exact⟨_,e1,rfl⟩
  ·exact⟨s,old j s e hj,m⟩
 refine⟨by rw[bG];exact hR.len,fun b ob hb=>?_,fun j s e=>?_,fun j k s t v dg e2 e3 m1 m2 q1 q2=>?_⟩
 ·rw[B2 (Z4 hb h0)];exact hR.same b ob hb
 ·by_cases hj:j=i
  ·subst hj;rw[Q1q hl]at e;cases e;exact⟨_,hv,a,nG,rfl,h0,upd_same,al.mono kp _ _⟩
  ·have e:=old j s e hj;obtain⟨v,q,r⟩:=hR.here j s e;refine⟨v,q,?_⟩;have ap:s.mut=true->v≠.ref a:=fun m z=>by
    subst z;exact hR.apart i j _ s (.ref a) (fun z=>hj z.symm) e1 e rfl m hv q
   cases s with
   |dat d=>exact A4.mono kp _ _ r
   |own es=>accm_mu
   |bor es=>obtain⟨b,ys,e,q,t⟩:=r;exact⟨b,ys,e,q,t.mono kp _ _⟩
   |bd es=>obtain⟨b,ys,e,q,t⟩:=r;exact⟨b,ys,e,q,t.mono kp _ _⟩
   |dk es=>accm_mu
   |dt es=>accm_mu
   |ob _=>exact r
   |cl _ _=>exact⟨r.1,r.2.2 _ _ kp r.2.1,r.2.2⟩
   |ll _ _=>exact⟨r.1,r.2.keep kp fun b φ q=>by rw[B2 (Q0x q sq (by intro z;cases z))];exact q⟩
   |ins _ _ _=>obtain⟨e,n,dx,ys,q,t⟩:=r;exact⟨e,n,dx,ys,by rw[B2 (fun z=>ap rfl (by rw[e,z]))];exact q,t.mono kp _ _⟩
 ·obtain⟨s',sv,qK⟩:=ib j s e2 m1;obtain⟨t',su,qJ⟩:=ib k t e3 m2;exact hR.apart j k s' t' v dg sv su qK qJ q1 q2
def C2.ownAt {K:Fg9}    {i:Nat}{ds:M D}(hR:C2 K H0 τ σ H)(e1:τ[i]?=some (some (.own ds))):∃a xs,σ[i]?=some (some (.ref a))/\H0 a=none/\H a=some (.lst xs)/\AllS K H ds xs:=by
 obtain⟨v,hv,a,xs,rfl,h0,sq,al⟩:=hR.here i _ e1;exact⟨a,xs,hv,h0,sq,al⟩
def O4 (i:Nat)(we:WE):WS:=fun E τ=>∃ds,τ[i]?=some (some (.own ds))/\we τ fun r=>∃d,r=.st d/\ds.length<sizeLine/\E.nx (τ.set i (some (.own (ds++[d]))))
def DS.append {i:Nat}(ho:PE X o (Q5 i))(he:DE X H0 e we)(eL:attributeBase o "append" X.env (eval o X.env)=eval o X.env:=by rfl)
  (iN:((backTo bK (starEach [e] X.env)).all (fun x=>!x.1)&&(backToKw bK (keywordEach [] X.env)).all (fun x=>x.1.isSome)&&decide ([e].length+([]:M Keyword).length+(if ([]:M Keyword).isEmpty then 0 else 1)<30))=true:=by rfl)
  (eG:(apos.endLine==bK.line)=true:=by rfl) (hs:starEach [e] X.env=(false,eval e X.env)::starEach [] X.env:=by rfl) (fg:(backTo bK (starEach [] X.env)).any (·.1)=false:=by rfl)
  (jf:swapsWith (.Call (.Attribute o "append" apos) [e] [] bK) none pos.line X.env=pure false:=by rfl):DS X H0 (.Expr (.Call (.Attribute o "append" apos) [e] [] bK) pos) (O4 i we) where
 mono:=fun τ E F le cG=>(by obtain⟨ds,e1,h⟩:=cG;exact⟨ds,e1,he.mono τ _ _ (fun r⟨d,e2,h1,h2⟩=>⟨d,e2,h1,le.nx _ h2⟩) h⟩)
 ps:=S6 (Z1v (Z7g dB lX lW V0y ho (Q1w he.pe Q4q hs) eL iN eG hs fg) jf) fun D σ H cU=>by
  obtain⟨τ,hR,ds,e1,h⟩:=cU;obtain⟨a,xs,hv,h0,sq,al⟩:=hR.ownAt e1;refine⟨_,hv,.inl ⟨rfl,_,F2.of sq⟩,τ,hR,he.mono τ _ _ (fun r ⟨d,e2,h1,h2⟩ v H1 s1 ir=>?_) h⟩;subst e2;have fm:=hR.mono s1;refine⟨a,xs,v,rfl,rfl,s1 _ _ sq,by rw[<-al.length];exact h1,h2 σ _ ((Kp.of s1).trans (Q1n (s1 _ _ sq) _)) ?_⟩;exact fm.mutate e1 hv h0 (s1 _ _ sq) ((al.mono (Kp.of s1) _ _).append (AllS.cons ir AllS.nil))
def Q7j (i:Nat)(we:WE):WS:=fun E τ=>∃ds,τ[i]?=some (some (.own ds))/\we τ fun r=>∃es,lsM r=some es/\ds.length+es.length<=sizeLine/\E.nx (τ.set i (some (.own (ds++es))))
def Z3q {i:Nat}(ho:PE X o (Q5 i))(he:DE X H0 e we)(eL:attributeBase o "extend" X.env (eval o X.env)=eval o X.env:=by rfl)
  (iN:((backTo bK (starEach [e] X.env)).all (fun x=>!x.1)&&(backToKw bK (keywordEach [] X.env)).all (fun x=>x.1.isSome)&&decide ([e].length+([]:M Keyword).length+(if ([]:M Keyword).isEmpty then 0 else 1)<30))=true:=by rfl)
  (eG:(apos.endLine==bK.line)=true:=by rfl) (hs:starEach [e] X.env=(false,eval e X.env)::starEach [] X.env:=by rfl) (fg:(backTo bK (starEach [] X.env)).any (·.1)=false:=by rfl)
  (jf:swapsWith (.Call (.Attribute o "extend" apos) [e] [] bK) none pos.line X.env=pure false:=by rfl):DS X H0 (.Expr (.Call (.Attribute o "extend" apos) [e] [] bK) pos) (Q7j i we) where
 mono:=fun τ E F le cU=>(by obtain⟨ds,e1,h⟩:=cU;exact⟨ds,e1,he.mono τ _ _ (fun r⟨d,e2,h1,h2⟩=>⟨d,e2,h1,le.nx _ h2⟩) h⟩)
 ps:=S6 (Z1v (Z7g dB PySem.F.slot_list_extend PySem.F.type_list_extend V0z ho (Q1w he.pe Q4q hs) eL iN eG hs fg) jf) fun D σ H ff=>by
  obtain⟨τ,hR,ds,e1,h⟩:=ff;obtain⟨a,xs,hv,h0,sq,al⟩:=hR.ownAt e1;refine⟨_,hv,.inl ⟨rfl,_,F2.of sq⟩,τ,hR,he.mono τ _ _ (fun r ⟨es,e2,h1,h2⟩ v H1 s1 ir=>?_) h⟩;obtain⟨b,ys,rfl,qz,jF⟩:=Z6o e2 ir;have fm:=hR.mono s1;refine⟨a,b,xs,ys,rfl,rfl,s1 _ _ sq,qz,by rw[<-al.length,<-jF.length];exact h1,h2 σ _ ((Kp.of s1).trans (Q1n (s1 _ _ sq) _)) ?_⟩;exact fm.mutate e1 hv h0 (s1 _ _ sq) ((al.mono (Kp.of s1) _ _).append jF)
def DS.pop {i:Nat}{g:WG}(ho:PE X o (Q5 i))(hg:DG X H0 tg g)(eL:attributeBase o "pop" X.env (eval o X.env)=eval o X.env:=by rfl)(eG:(apos.endLine==bK.line)=true:=by rfl)
  (hs:swapsWithSole [tg] (.Call (.Attribute o "pop" apos) [] [] bK) pos.line X.env=pure false:=by rfl) (hw:swappedStores [tg] (.Call (.Attribute o "pop" apos) [] [] bK) X.env=pure none:=by rfl)
  (h1:(assignEach [tg] X.env).map (·.2)=[assign tg X.env]:=by rfl):
  DS X H0 (.Assign [tg] (.Call (.Attribute o "pop" apos) [] [] bK) pos) (fun E τ=>∃ds d,τ[i]?=some (some (.own (ds++[d])))/\g d (τ.set i (some (.own ds))) E.nx) where
 mono:=fun τ E F le⟨ds,d,e1,h⟩=>⟨ds,d,e1,hg.mono _ _ _ _ le.nx h⟩
 ps:=S6 (Z7k (V2x dB PySem.F.slot_list_pop PySem.F.type_list_pop V1b ho eL eG) hg.pg hs hw h1) fun D σ H fE=>by
  obtain⟨τ,hR,ds,d,e1,h⟩:=fE;obtain⟨a,xs,hv,h0,sq,al⟩:=hR.ownAt e1;have hl:=al.length;rw[aq,bt]at hl;obtain⟨v,hx,iv⟩:=al.get (i:=ds.length) (d:=d) ?H;refine⟨_,hv,.inl ⟨rfl,_,F2.of sq⟩,a,xs,v,rfl,rfl,sq,by rw[show xs.length-1=ds.length by omega];exact hx,?_⟩;have kp:Kp H (B0 H a (.lst xs.dropLast)):=Q1n sq _;have sF:AllS X.K H ds xs.dropLast:=by
   have:=al.take ds.length;rw[List.take_left]at this;rw[oZ,show xs.length-1=ds.length by omega];exact this
  exact⟨_,d,hR.mutate e1 hv h0 sq sF,A4.mono kp _ _ iv,hg.mono _ _ _ _ (fun τ' h σ' H' s' eM=>h σ' H' (kp.trans (Kp.of s')) eM) h⟩
end
namespace HT
open PySem PyProof.Rows
section
variable {w:Ak}
def getItem_tuple_whole {t:Af}   {lo:Ac Int}  (ht:IsTup s.heap t items)(hs:s.heap.IsSliceOf sl vl vu .none)(pl:IsPart vl lo)(pu:IsPart vu hi)
  (hw:sIx items.size 0 lo=0/\sIx items.size items.size hi=items.size) (h:Q (.ref t) s):wpAny (model prog w) A (getItem (.ref t) (.ref sl)) Q E s:=by
 obtain⟨os,jy,gR,jq⟩:=id hs;have sd:s.TypeIs (.ref sl) "slice":=⟨os,jy,gR⟩
 unfold getItem
 try with_reducible refine bB ?_
 first |refine af (ao ?_) |skip
 refine af (wpAny_sequenceKey ht.typeIs (?G) ?_);refine af (bT (name:=Str.ofString "__getitem__") ht.typeIs bJ
  (ck bJ ht.typeIs entry_tuple_getitem ?_ (args_tuple_getitem _ _)))
 show wpAny _ _ (Builtin.Tuple.tupleItemsOf (.ref t)>>=_) _ _ s;refine af (tupleItemsOf_ ht ?_);refine af (lc sd ?_);rw[aP (?G)];refine af (Y9e hs pl pu ?_);have qX:((((sIx items.size 0 lo:Nat):Int)==0&&(1:Int)==1&&(sIx items.size items.size hi-sIx items.size 0 lo)==items.size)=true):=by
  rw[hw.1,hw.2];simp
 show wpAny _ _ (if (((sIx items.size 0 lo:Nat):Int)==0&&(1:Int)==1&&(sIx items.size items.size hi-sIx items.size 0 lo)==items.size)=true then _ else _) _ _ s;rw[aP qX];show wpAny _ _ ((typeOf (.ref t)>>=fun y=>pure (y==Value.type "tuple"))>>=_) _ _ s;refine af (af (lc ht.typeIs (ao ?_)));rw[aP (?G)]
 first
  |exact af (dU (ao ⟨_,rfl,ao h⟩))
  |exact af (dU (af (ao (ao ⟨_,rfl,ao h⟩))))
end
end HT
def Q0s (xs:M α)(lo hi:Ac Int):M α:=(xs.drop (HT.sIx xs.length 0 lo)).take (HT.sIx xs.length xs.length hi-HT.sIx xs.length 0 lo)
def Z4z {K:Fg9}  {ds:M D}  (al:AllS K H ds xs)(lo hi:Ac Int):AllS K H (Q0s ds lo hi) (Q1p xs lo hi):=by
 unfold Q0s Q1p;rw[<-al.length];exact(al.drop _).take _
section
variable {a:Ag}{p2:Pos}{lo hi:Ac Ag}
def V8r:SlR X (fun x lo hi H Q=>∃a xs,x=.ref a/\H a=some (.tup xs)/\((¬ (HT.sIx xs.length 0 lo=0/\HT.sIx xs.length xs.length hi=xs.length))->∀p,H p=none->Q (.ref p) (B0 H p (.tup (Q1p xs lo hi))))/\((HT.sIx xs.length 0 lo=0/\HT.sIx xs.length xs.length hi=xs.length)->Q (.ref a) H)):=by
 intro ah s σ H x v vl vu lo hi sl Q I rx hs pl pu h;obtain⟨a,xs,rfl,hx,q1,q2⟩:=h
 by_cases hw:HT.sIx xs.length 0 lo=0/\HT.sIx xs.length xs.length hi=xs.length
 ·cases rx;obtain⟨b7,r,ht,hz⟩:=I.tuple (E2.of hx);have bZ:b7.toArray.size=xs.length:=by rw[aF];exact r.length.symm
  exact⟨"tuple",_,bJ.lookup,ht.typeIs,HT.getItem_tuple_whole ht hs pl pu (by rw[bZ];exact hw) ⟨.ref a,H,I,rfl,q2 hw⟩⟩
 ·exact V8q ah s σ H _ v vl vu lo hi sl Q I rx hs pl pu ⟨a,xs,rfl,E2.of hx,hw,q1 hw⟩
def W6k {lo hi:Ac Int}(h:HT.sIx xs.length 0 lo=0/\HT.sIx xs.length xs.length hi=xs.length):Q1p xs lo hi=xs:=by
 unfold Q1p;rw[h.1,h.2];simp
abbrev WO:=C8->(Ac Int->Prop)->Prop
def W9w (K:Fg9)(H0:Hp)(w:WO):TO:=fun σ H Q=>∃ τ,C2 K H0 τ σ H/\w τ fun o=>∀H',A5 H H'->Q o H'
structure DO (X:Cx)(H0:Hp)(e:Ac Ag)(w:WO):Prop where
 mono:∀(τ:C8) (P Q:Ac Int->Prop),(∀r,P r->Q r)->w τ P->w τ Q
 po:PO X e (W9w X.K H0 w)
def DO.none:DO X H0 none (fun _ Q=>Q none):=⟨fun _ _ _ f h=>f _ h,fun ah s σ H Q I⟨τ,hR,h⟩=>V4e ah s σ H Q I (h H (A5.refl H))⟩
def Q3i:R->(Int->Prop)->Prop
 |.st (.int i),Q=>Q i
 |_,_=>False
def Z0w {r:R}{P:Int->Prop}(h:Q3i r P):∃i,r=.st (.int i)/\P i:=by
 unfold Q3i at h;split at h
 ·exact⟨_,rfl,h⟩
 ·exact h.elim
def DO.some (he:DE X H0 e we):DO X H0 (some e) (fun τ Q=>we τ fun r=>Q3i r fun i=>Q (some i)) where
 mono:=fun τ P Q f h=>he.mono τ _ _ (fun r h=>by obtain⟨i,rfl,q⟩:=Z0w h;exact f _ q) h
 po:=fun ah s σ H Q I ⟨τ,hR,h⟩=>V4f he.pe ah s σ H Q I ⟨τ,hR,he.mono τ _ _ (fun r h v H1 s1 ir=>by
  obtain⟨i,rfl,q⟩:=Z0w h;exact⟨i,ir,q H1 s1⟩) h⟩
def slD (x:R)(lo hi:Ac Int)(Q:R->Prop):Prop:=match x with
 |.st (.tup ds)=>Q (.st (.tup (Q0s ds lo hi)))
 |.st (.lst ds)=>Q (.nw (Q0s ds lo hi))
 |.nw ds=>Q (.nw (Q0s ds lo hi))
 |.bw ds=>Q (.nw (Q0s ds lo hi))
 |.st (.str z)=>z.length<=sizeLine/\Q (.st (.str (Txt.slice z lo hi)))
 |_=>False
def V8n {x:R}{lo hi:Ac Int}{P Q:R->Prop}(f:∀r,P r->Q r)(h:slD x lo hi P):slD x lo hi Q:=by
 unfold slD at h ⊢;split at h<;>first |exact f _ h |exact⟨h.1,f _ h.2⟩ |exact h
theorem V8p:SlR X (fun x lo hi H Q=>∃z,x=.str z/\z.length<=sizeLine/\Q (.str (Txt.slice z lo hi)) H):=by
 intro ah s σ H x v vl vu lo hi sl Q I rx hs pl pu h;obtain⟨z,rfl,hz,q⟩:=h;obtain⟨t,rfl⟩:=rx;refine⟨"str",_,PySem.F.slot_str_getitem.lookup,typeIs_str _ _ _,?_⟩;obtain⟨os,jy,gR,jq⟩:=id hs;have fin:∀(t':Tok) (k:Nat),EP X ah σ Q (.str (Txt.slice z lo hi) t') {s with toks:=k}:=fun t' k=>⟨.str _,H,I.tok k,⟨t',rfl⟩,q⟩
 cases pl with
 |none=>
  cases pu with
  |none=>exact dQ (l:=none) (u:=none) (st:=none) ⟨_,jy,gR,jq⟩ rfl (gW ⟨aV (lg z _ _) hz,fin⟩)
  |int j uj=>exact dQ (l:=none) (u:=some (j,uj)) (st:=none) ⟨_,jy,gR,jq⟩ rfl (gW ⟨aV (lg z _ _) hz,fin⟩)
 |int i ui=>
  cases pu with
  |none=>exact dQ (l:=some (i,ui)) (u:=none) (st:=none) ⟨_,jy,gR,jq⟩ rfl (gW ⟨aV (lg z _ _) hz,fin⟩)
  |int j uj=>exact dQ (l:=some (i,ui)) (u:=some (j,uj)) (st:=none) ⟨_,jy,gR,jq⟩ rfl (gW ⟨aV (lg z _ _) hz,fin⟩)
variable {wl wh:WO}
def DE.slice (he:DE X H0 e we)(hl:DO X H0 lo wl)(hh:DO X H0 hi wh):DE X H0 (.Subscript e (.Slice lo hi none p2) pos) (fun τ Q=>we τ fun x=>wl τ fun l=>wh τ fun u=>slD x l u Q) where
 mono:=fun τ P Q f h=>he.mono τ _ _ (fun x h=>hl.mono τ _ _ (fun l h=>hh.mono τ _ _ (fun u h=>V8n f h) h) h) h
 pe:=by
  refine R0 (V3s (V8r.or (V8o.or V8p)) he.pe hl.po hh.po) fun σ H Q ⟨τ,hR,h⟩=>⟨τ,hR,he.mono τ _ _ (fun x h v H1 s1 ir=>⟨τ,hR.mono s1,hl.mono τ _ _ (fun l h H2 s2=>⟨τ,hR.mono (s1.trans s2),hh.mono τ _ _ (fun u h H3 s3=>?_) h⟩) h⟩) h⟩
  have ir:=ir.mono (s2.trans s3);have nK:=s1.trans (s2.trans s3);have lists:∀ds,U1 x=some ds->(∀r,r=R.nw (Q0s ds l u)->∀v H',A5 H H'->F7 X.K H H' r v->Q v H')->rSlL X.K v l u H3 Q:=fun ds e1 q=>by
   obtain⟨p,xs,rfl,sq,al⟩:=Q4o e1 ir;exact⟨p,xs,rfl,sq,fun p' hp=>q _ rfl _ _ (nK.trans (G3 hp _)) ⟨p',_,rfl,nK.free hp,upd_same,(Z4z al l u).mono (Kp.of (G3 hp _)) _ _⟩⟩
  unfold slD at h;split at h
  ·have ir:A4 X.K H3 (.tup _) v:=ir;unfold A4 at ir;obtain⟨p,xs,rfl,sq,al⟩:=ir;refine .inl ⟨p,xs,rfl,sq,fun _ p' hp=>h _ _ (nK.trans (G3 hp _)) (A4.s_tup (K:=X.K) upd_same ((Z4z al l u).mono (Kp.of (G3 hp _)) _ _)),fun hw=>h _ _ nK (A4.s_tup (K:=X.K) (H:=H3) sq ?_)⟩;have:=Z4z al l u;rw[W6k hw]at this;exact this
  ·exact .inr (.inl (lists _ rfl fun r e1=>by subst e1;exact h))
  ·exact .inr (.inl (lists _ rfl fun r e1=>by subst e1;exact h))
  ·exact .inr (.inl (lists _ rfl fun r e1=>by subst e1;exact h))
  ·cases (show v=.str _ from ir);exact .inr (.inr ⟨_,rfl,h.1,h.2 _ _ nK Z6b⟩)
  ·exact h.elim
def DE.neg (he:DE X H0 e we):DE X H0 (.UnaryOp .USub e pos) (fun τ Q=>we τ fun r=>Q3i r fun i=>Q (.st (.int (-i)))) where
 mono:=fun τ P Q f h=>he.mono τ _ _ (fun r h=>by obtain⟨i,rfl,q⟩:=Z0w h;exact f _ q) h
 pe:=R0 (V3v J0m he.pe) fun σ H Q ⟨τ,hR,h⟩=>⟨τ,hR,he.mono τ _ _ (fun r h v H1 s1 ir=>by
  obtain⟨i,rfl,q⟩:=Z0w h;exact⟨i,ir,q _ _ s1 Z2⟩) h⟩
end
def W2l {z:Str}(hg:Gl X x)(hm:∃t,X.mg x=some (.str z t))(hd:(x==("__debug__":Str))=false:=by decide):DE X H0 (.Name x pos) (wC (.str z)):=by
 obtain⟨t,hm⟩:=hm;exact Q7n (V3g (v:=.str z) hg hm ⟨t,rfl⟩ hd) fun _ _=>Q4c
def Q7h (i:Nat)(g:R->R->(R->Prop)->Prop)(we:WE):WS:=fun E τ=>∃s,τ[i]?=some (some s)/\we τ fun y=>g (T5 s) y fun r=>U7 r fun s'=>E.nx (τ.set i (some s'))
def W2t {i:Nat}{op:Operator}{g:R->R->(R->Prop)->Prop}(ho:OpD X (inplaceOp op) g)(mg:Q0p g)(he:DE X H0 e we)(hN:X.N.Nodup)(hi:X.N[i]?=some x)(hx:Loc X.env.scope x)
  (hf:?K:=by sleep 1):DS X H0 (.AugAssign (.Name x cg) op e pos) (Q7h i g we) where
 mono:=fun τ E F le⟨s,e1,h⟩=>⟨s,e1,he.mono τ _ _ (fun y h=>mg _ _ _ _ (fun r h=>Z8r (fun s h=>le.nx _ h) h) h) h⟩
 ps:=S6 (V4j hN hi hx he.pe ho hf) fun D σ H dF=>by
  obtain⟨τ,hR,s,e1,h⟩:=dF;obtain⟨v,hv,q⟩:=hR.here i s e1;refine⟨v,hv,τ,hR,he.mono τ _ _ (fun y h u H1 s1 iu=>?_) h⟩;have iv:IsV X.K H1 (T5 s) v:=(Z8.rd (Hs:=fun _=>none) hR.same q).mono s1;refine⟨T5 s,y,iv,iu.v,mg _ _ _ _ (fun r h z H2 s2 iz=>?_) h⟩;obtain⟨s',p,eM⟩:=(hR.mono s1).store (i:=i) s2 iz h;exact p _ _ (Kp.of (s1.trans s2)) eM
def V1x:OpD X (inplaceOp .Add) (P6 NoC fun i j=>i+j):=Y1y W8l
def blkB (sc:Scope)(N0:M Str)(scope:Scope)(N:M Str)(nt:Nat)(cap:?P):Bool:=
 decide (scope.kind=.function)&&scope.names.all (fun y=>y.2 != .cell)&&scope.names.all (fun y=>y.2 != .local||scope.names.lookup y.1==some .local) &&
 scope.names.all (fun y=>y.2 != .free||scope.names.lookup y.1==some .free)&&scope.names.all (fun y=>y.2 != .free||sc.names.lookup y.1==some .cell||sc.names.lookup y.1==some .free) &&
 decide (N.length=nt+cap.length)&&(List.range cap.length).all (fun j=>match cap[j]?,N[nt+j]? with |some i,some x=>N0[i]?==some x&&scope.names.contains (x,NameKind.free) |_,_=>false)
def S0 {N0:M Str}   {nt:Nat}  (h1:X.env.scope=sc)(h2:X.N=N0)(h:blkB sc N0 scope N nt cap=true):Blk X scope N nt cap:=by
 subst h1 h2;unfold blkB at h;simp only[cy]at h;obtain⟨⟨⟨⟨⟨⟨a1,a2⟩,a3⟩,a4⟩,a5⟩,a6⟩,a7⟩:=h;refine⟨cp a1,fun y hy=>?_,fun y hy e=>?_,fun y hy e=>?_,fun y hy e=>?_,cp a6,fun j i x hj hx=>?_⟩
 ·simpa using cf.mp a2 y hy
 ·have:=cf.mp a3 y hy;rw[e]at this;simpa using this
 ·have:=cf.mp a4 y hy;rw[e]at this;simpa using this
 ·have:=cf.mp a5 y hy;rw[e]at this;have this:X.env.scope.names.lookup y.1=some .cell\/X.env.scope.names.lookup y.1=some .free:=by simpa using this
  exact this
 ·have bW:j<cap.length:=by
   rcases aX j cap.length with h |h
   ·exact h
   ·rw[ay.mpr h]at hj;cases hj
  have:=cf.mp a7 j (aQ.mpr bW);rw[hj,hx]at this;simpa using this
def Q6n {k:Nat}(hr:F8 k A):A.units+60<cLine:=by have:=hr.units;omega
def Q3a {k:Nat}(hr:F8 k A):A.units+1<cLine:=by have:=hr.units;omega
def B1 (we:WE):WE:=fun τ Q=>we τ fun r=>fzR r fun d=>Q (.st d)
def wB (t:WT):WE:=fun τ Q=>t τ fun k=>Q (.st (.bl k))
def Q2u (we:WE):WT:=fun τ Q=>we τ fun r=>Q4v r Q
def Q3n:WO:=fun _ Q=>Q none
def Q3o (we:WE):WO:=fun τ Q=>we τ fun r=>Q3i r fun i=>Q (some i)
def wSl (we:WE)(wl wh:WO):WE:=fun τ Q=>we τ fun x=>wl τ fun l=>wh τ fun u=>slD x l u Q
def X9 (we:WE):WE:=fun τ Q=>we τ fun r=>Q3i r fun i=>Q (.st (.int (-i)))
def P9:WT:=fun _ Q=>Q true
def Q3h (we:WE):WI:=fun τ Q=>we τ fun r=>∃ds,r=.st (.lst ds)/\Q ds τ
def Z0t (i:Nat):WI:=fun τ Q=>∃ds,τ[i]?=some (some (.own ds))/\Q ds (τ.set i (some (.dat (.lst ds))))
def Z5v (we:WE):WI:=fun τ Q=>we τ fun r=>∃ds,r=.st (.tup ds)/\Q ds τ
def Q1r (wr:WA):WI:=fun τ Q=>wr τ fun rs=>∃j:Int,rs=[.st (.int j)]/\-(2^62)<=j/\j<2^62/\Q (T1 0 j.toNat) τ
def Q1g (we:WE):WIE:=fun τ Q=>we τ fun r=>∃ds,U1 r=some ds/\Q ds
def Q1s (we:WE):WIE:=fun τ Q=>we τ fun r=>∃ds,r=.st (.tup ds)/\Q ds
def Q5l (wr:WA):WIE:=fun τ Q=>wr τ fun rs=>∃j:Int,rs=[.st (.int j)]/\-(2^62)<=j/\j<2^62/\Q (T1 0 j.toNat)
def Z6f (we:WE):WIE:=fun τ Q=>we τ fun r=>∃x,r=.st (.str x)/\Q (G4 x)
def L3 (wi:WI)(g:WG)(wb:WS):WS:=fun E τ=>wi τ fun ds τ'=>D9 g wb E ds τ'
def Q3x (we:WE)(g:WG):WS:=fun E τ=>we τ fun r=>∃d,r=.st d/\g d τ E.nx
def Z9r (i:Nat)(g:WG):WS:=fun E τ=>∃ds d,τ[i]?=some (some (.own (ds++[d])))/\g d (τ.set i (some (.own ds))) E.nx
def Q7m (i:Nat):WS:=fun E τ=>∃s,τ[i]?=some (some s)/\Q3p s E.rt
structure Df (K:Fg9)(mg:Str->Ac Ad)(name:Str)(st:Al)(ps:M Str)(f:Af)(fd:Ai):Prop where
 F:Fun K name name st f fd
 b:U3 K fd ps []
 k:PySem.W.keepIn K (.ref f)=true
 m:mg name=some (.ref f)
abbrev FnD (P:Aj)(w:Ak)(K:Fg9)(mg:Str->Ac Ad)(base:Heap)(k:Nat)(f:Af)(fd:Ai)(ps:M Str)(sp:F4):Prop:=S7 P w K mg base J7 k f fd ps (Q4m K ps.length sp)
def V1 (r:R):F6:={nx:=fun _=>r=.st .non,rt:=fun r'=>r'=r,bk:=fun _=>False,ct:=fun _=>False}
section
variable {w:Ak}{K:Fg9}
def Df.ok {k:Nat}  {ws:WS}(F:Df K mg x st ps f fd)(S:Y7 N ps (C6 st))
  (cn:∀(cdv:Ad) (A:Ah) (outer:M Env) (s:Ae) (H:Hp) (E:XK),F8 k (A.deeper (envOfC x (C6 st) s.heap.objs.size f cdv))->A7 (U5 J7 P w K mg base N x (C6 st) f cdv A outer s H E).nox H (N3 st) ws)
  (hr:∀rs r,rs.length=ps.length->sp rs r->ws (V1 r) (E8 N rs)):FnD P w K mg base (k+1) f fd ps sp:=
 Fun.okD F.F S fun cdv A outer s H E nY=>⟨ws,cn cdv A outer s H E nY,hr⟩
end
section
variable {E:F6}{Q:R->Prop}{t u:WT}{ws wt:WS}{i j:Int}{y:Str}{ds es:M D}{d e:D}
@[simp] theorem D8:A6 ws wt E τ=ws {E with nx:=wt E} τ:=rfl
@[simp] theorem Q3r:L9 E τ=E.nx τ:=rfl
@[simp] theorem Q1y:L8 t ws wt E τ=t τ fun k=>if k=true then ws E τ else wt E τ:=rfl
@[simp] theorem P8:G2 we E τ=we τ fun r=>Q6x r E.rt:=rfl
@[simp] theorem Q9d:Q7m n E τ=∃s,τ[n]?=some (some s)/\Q3p s E.rt:=rfl
@[simp] theorem G6:C4 n we E τ=we τ fun r=>U7 r fun s=>E.nx (τ.set n (some s)):=rfl
@[simp] theorem Y8g {g:R->R->(R->Prop)->Prop}:Q7h n g we E τ=∃s,τ[n]?=some (some s)/\we τ fun y=>g (T5 s) y fun r=>U7 r fun s'=>E.nx (τ.set n (some s')):=rfl
@[simp] theorem Q5q {g:WG}:Q3x we g E τ=we τ fun r=>∃d,r=.st d/\g d τ E.nx:=rfl
@[simp] theorem V7x {g:WG}:Z9r n g E τ=∃ds d,τ[n]?=some (some (.own (ds++[d])))/\g d (τ.set n (some (.own ds))) E.nx:=rfl
@[simp] theorem Q1l:O4 n we E τ=∃ds,τ[n]?=some (some (.own ds))/\we τ fun r=>∃d,r=.st d/\ds.length<sizeLine/\E.nx (τ.set n (some (.own (ds++[d])))):=rfl
@[simp] theorem Y8j:Q7j n we E τ=∃ds,τ[n]?=some (some (.own ds))/\we τ fun r=>∃es,lsM r=some es/\ds.length+es.length<=sizeLine/\E.nx (τ.set n (some (.own (ds++es)))):=rfl
@[simp] theorem W0 {wi:WI}{g:WG}:L3 wi g ws E τ=wi τ fun ds τ'=>D9 g ws E ds τ':=rfl
@[simp] theorem A8:wV n τ Q=∃s,τ[n]?=some (some s)/\Q (T5 s):=rfl
@[simp] theorem D6:wC d τ Q=Q (.st d):=rfl
@[simp] theorem C7 {g:R->R->(α->Prop)->Prop}{Q:α->Prop}:A3 g wa wb τ Q=wa τ fun x=>wb τ fun y=>g x y Q:=rfl
@[simp] theorem s_b:wB t τ Q=t τ fun k=>Q (.st (.bl k)):=rfl
@[simp] theorem Q7b:Q2u we τ QB=we τ fun r=>Q4v r QB:=rfl
@[simp] theorem Q9b:Q3w t u τ QB=t τ fun k=>if k=true then u τ QB else QB false:=rfl
@[simp] theorem Z7x:wOr t u τ QB=t τ fun k=>if k=true then QB true else u τ QB:=rfl
@[simp] theorem V6t:Q9n wa wb τ Q=wa τ fun r=>blR r fun k=>if k=true then wb τ Q else Q (.st (.bl false)):=rfl
@[simp] theorem s_orV:Z9q wa wb τ Q=wa τ fun r=>blR r fun k=>if k=true then Q (.st (.bl true))else wb τ Q:=rfl
@[simp] theorem V7v:Z9o wa τ Q=wa τ fun r=>blR r fun k=>Q (.st (.bl (!k))):=rfl
@[simp] theorem Q9c:wIf t wa wb τ Q=t τ fun k=>if k=true then wa τ Q else wb τ Q:=rfl
@[simp] theorem B7 {Q:M R->Prop}:A2 τ Q=Q []:=rfl
@[simp] theorem C1 {Q:M R->Prop}:A0 we wr τ Q=we τ fun r=>wr τ fun rs=>Q (r::rs):=rfl
@[simp] theorem s_tup:Q0l wr τ Q=wr τ fun rs=>∃ds,Q1z rs=some ds/\ds.length<=sizeLine/\Q (.st (.tup ds)):=rfl
@[simp] theorem s_lst:K0 wr τ Q=wr τ fun rs=>∃ds,Q1z rs=some ds/\ds.length<=sizeLine/\Q (.nw ds):=rfl
@[simp] theorem E9:B1 we τ Q=we τ fun r=>fzR r fun d=>Q (.st d):=rfl
@[simp] theorem J9 {g:M R->(R->Prop)->Prop}:D4 g wr τ Q=wr τ fun rs=>g rs Q:=rfl
@[simp] theorem W5:L7 sp wr τ Q=wr τ fun rs=>rs.all P0=true/\∃r,sp (rs.map nrm) r/\Q r:=rfl
@[simp] theorem Z2f {wl wh:WO}:wSl we wl wh τ Q=we τ fun x=>wl τ fun l=>wh τ fun u=>slD x l u Q:=rfl
@[simp] theorem Z2d {Q:Ac Int->Prop}:Q3n τ Q=Q none:=rfl
@[simp] theorem Z2e {Q:Ac Int->Prop}:Q3o we τ Q=we τ fun r=>Q3i r fun i=>Q (some i):=rfl
@[simp] theorem Q2o:X9 we τ Q=we τ fun r=>Q3i r fun i=>Q (.st (.int (-i))):=rfl
@[simp] theorem V8b:P9 τ QB=QB true:=rfl
@[simp] theorem W6 {g:WG}:M8 n cap wi g t we τ Q=wi τ fun ds=>ds.length<=sizeLine/\N2 g t we ds (T8 n cap τ) fun es=>Q (.nw es):=rfl
@[simp] theorem L6 {Q:C8->Prop}:A9 n d τ Q=Q (τ.set n (some (.dat d))):=rfl
@[simp] theorem Q0i {Q:C8->Prop}:L0 ds τ Q=(ds=[]/\Q τ):=rfl
@[simp] theorem Q0h {g:WG}  {Q:C8->Prop}:E1 g gs ds τ Q=∃d r,ds=d::r/\g d τ fun τ'=>gs r τ' Q:=rfl
@[simp] theorem Q0j {Q:C8->Prop}:K8 n gs d τ Q=∃ds,d=.tup ds/\ds.length=n/\gs ds τ Q:=rfl
@[simp] theorem Z1z {Q:M D->C8->Prop}:Q3h we τ Q=we τ fun r=>∃ds,r=.st (.lst ds)/\Q ds τ:=rfl
@[simp] theorem V7f {Q:M D->C8->Prop}:Z5v we τ Q=we τ fun r=>∃ds,r=.st (.tup ds)/\Q ds τ:=rfl
@[simp] theorem Z2a {Q:M D->C8->Prop}:Q1r wr τ Q=wr τ fun rs=>∃j:Int,rs=[.st (.int j)]/\-(2^62)<=j/\j<2^62/\Q (T1 0 j.toNat) τ:=rfl
@[simp] theorem Q5r {Q:M D->Prop}:Q1g we τ Q=we τ fun r=>∃ds,U1 r=some ds/\Q ds:=rfl
@[simp] theorem V7i {Q:M D->Prop}:Z6f we τ Q=we τ fun r=>∃x,r=.st (.str x)/\Q (G4 x):=rfl
@[simp] theorem Z2b {Q:M D->Prop}:Q5l wr τ Q=wr τ fun rs=>∃j:Int,rs=[.st (.int j)]/\-(2^62)<=j/\j<2^62/\Q (T1 0 j.toNat):=rfl
@[simp] theorem N7:T5 (.dat d)=.st d:=rfl
@[simp] theorem N8:T5 (.own ds)=.bw ds:=rfl
@[simp] theorem V1s:T5 (.bor ds)=.bw ds:=rfl
@[simp] theorem o_sl1:N9 (.st d)=.dat d:=rfl
@[simp] theorem o_sl2:N9 (.bw ds)=.bor ds:=rfl
@[simp] theorem V1t:Q6x (.st d) Q=Q (.st d):=rfl
@[simp] theorem S5 {P:Sl->Prop}:U7 (.st d) P=P (.dat d):=rfl
@[simp] theorem P7 {P:Sl->Prop}:U7 (.nw ds) P=P (.own ds):=rfl
@[simp] theorem Q5o {P:D->Prop}:fzR (.st d) P=P d:=rfl
@[simp] theorem Z1o {P:D->Prop}:fzR (.nw ds) P=P (.lst ds):=rfl
@[simp] theorem o_bl {b:Bool}:blR (.st (.bl b)) QB=QB b:=rfl
@[simp] theorem Q1j {P:Int->Prop}:Q3i (.st (.int i)) P=P i:=rfl
@[simp] theorem o_d1:R.d (.st d)=some d:=rfl
@[simp] theorem o_d2:R.d (.nw ds)=some (.lst ds):=rfl
@[simp] theorem o_d3:R.d (.bw ds)=some (.lst ds):=rfl
@[simp] theorem o_nrm1:nrm (.st d)=.st d:=rfl
@[simp] theorem o_nrm2:nrm (.nw ds)=.bw ds:=rfl
@[simp] theorem o_nrm3:nrm (.bw ds)=.bw ds:=rfl
@[simp] theorem o_arg1:P0 (.st d)=true:=rfl
@[simp] theorem o_arg2:P0 (.nw ds)=true:=rfl
@[simp] theorem o_arg3:P0 (.bw ds)=true:=rfl
@[simp] theorem V1q:U1 (.st (.lst ds))=some ds:=rfl
@[simp] theorem V1r:U1 (.bw ds)=some ds:=rfl
@[simp] theorem o_sa0:Q1z []=some []:=rfl
@[simp] theorem o_sa1 {rs:M R}:Q1z (.st d::rs)=(Q1z rs).map (d::·):=rfl
@[simp] theorem Q0f:F9 (.st (.int i)) (.st (.int j)) Q=Q (.st (.int (i+j))):=rfl
@[simp] theorem Z7a:F9 (.st (.str x)) (.st (.str y)) Q=(x.length+y.length<=sizeLine/\Q (.st (.str (x++y)))):=rfl
@[simp] theorem V1j:F9 (.bw ds) (.nw es) Q=(ds.length+es.length<=sizeLine/\Q (.nw (ds++es))):=rfl
@[simp] theorem Y7c:X7 (.st (.int i)) (.st (.int j)) Q=(Q3z i j/\Q (.st (.int (i*j)))):=rfl
@[simp] theorem V1m {f:Int->Int->Int}:P6 C f (.st (.int i)) (.st (.int j)) Q=(C i j/\Q (.st (.int (f i j)))):=rfl
@[simp] theorem V8 {f:Int->Int->Bool}:L5 f (.st (.int i)) (.st (.int j)) QB=QB (f i j):=rfl
@[simp] theorem Q8w:B5 (.st (.lst ds)) (.st (.int i)) Q=∃d,M4 ds i=some d/\Q (.st d):=rfl
@[simp] theorem Y7b:B5 (.nw ds) (.st (.int i)) Q=∃d,M4 ds i=some d/\Q (.st d):=rfl
@[simp] theorem Q0g:B5 (.bw ds) (.st (.int i)) Q=∃d,M4 ds i=some d/\Q (.st d):=rfl
@[simp] theorem Z7b:B5 (.st (.tup ds)) (.st (.int i)) Q=∃d,M4 ds i=some d/\Q (.st d):=rfl
@[simp] theorem V1n:E3 [.st (.lst ds)] Q=Q (.st (.int ds.length)):=rfl
@[simp] theorem V1o:E3 [.st (.tup ds)] Q=Q (.st (.int ds.length)):=rfl
@[simp] theorem V1p:E3 [.nw ds] Q=Q (.st (.int ds.length)):=rfl
@[simp] theorem V9:E3 [.bw ds] Q=Q (.st (.int ds.length)):=rfl
@[simp] theorem Z7c:E3 [.st (.str x)] Q=(x.length<=sizeLine/\Q (.st (.int x.length))):=rfl
@[simp] theorem o_eq {r1 r2:R}{b:Bool}:J5 n b r1 r2 QB=∃d e,r1.d=some d/\r2.d=some e/\d.depth<=n/\QB (if b then !D.eq d e else D.eq d e):=rfl
@[simp] theorem Y7e {b:Bool}:Q4v (.st (.bl b)) QB=QB b:=rfl
@[simp] theorem o_e1:D.eq (.int i) (.int j)=(i==j):=by simp[D.eq]
@[simp] theorem o_e2:D.eq (.str x) (.str y)=(x==y):=by simp[D.eq]
@[simp] theorem o_e3 {b c:Bool}:D.eq (.bl b) (.bl c)=(b==c):=by simp[D.eq]
@[simp] theorem o_e4:D.eq (.lst ds) (.lst es)=Dqeqs ds es:=by simp[D.eq]
@[simp] theorem o_e5:D.eq (.tup ds) (.tup es)=Dqeqs ds es:=by simp[D.eq]
@[simp] theorem o_eN:Dqeqs ds []=ds.isEmpty:=by cases ds<;>simp[Dqeqs]
@[simp] theorem V1l {r r':R}:(V1 r).rt r'=(r'=r):=rfl
@[simp] theorem o_endn {r:R}:(V1 r).nx τ=(r=.st .non):=rfl
@[simp] theorem o_dep0:D.depth (.int i)=0:=by simp[D.depth]
@[simp] theorem o_dep1:D.depth (.str x)=0:=by simp[D.depth]
@[simp] theorem o_zl:(0:Nat)<=sizeLine:=be _
@[simp] theorem J1u {rs:M R}:E8 N rs=rs.map (fun r=>some (N9 r))++List.replicate (N.length-rs.length) none:=rfl
end
section
open PySem.SeqAt
def V5c {d1 d2:D}   (h1:Vw X H s d1 u1)(h2:Vw X H s d2 u2)(hu:A.units<cLine)(hb:¬ Q5e d1 d2):RcNeAt A s u1 u2 (!D.eq d1 d2):=by
 cases h1<;>cases h2<;>first |exact absurd (.inl ⟨_,_,rfl,rfl⟩) hb |exact absurd (.inr ⟨_,_,rfl,rfl⟩) hb |(unfold D.eq;(try simp only[Bool.not_true,Bool.not_false]);(with_reducible first |exact RcNeAt.none_none |exact RcNeAt.none_bool _ |exact RcNeAt.none_int _ _ |exact RcNeAt.none_str _ _ |exact RcNeAt.none_tuple ?U hu |exact RcNeAt.none_list ?U hu |exact RcNeAt.bool_none _ |exact RcNeAt.bool_bool _ _ |exact RcNeAt.bool_int _ _ _ |exact RcNeAt.bool_str _ _ _ |exact RcNeAt.bool_tuple _ ?U hu |exact RcNeAt.bool_list _ ?U hu |exact RcNeAt.int_none _ _ |exact RcNeAt.int_bool _ _ _ |exact RcNeAt.int_int _ _ _ _ |exact RcNeAt.int_str _ _ _ _ |exact RcNeAt.int_tuple _ _ ?U hu |exact RcNeAt.int_list _ _ ?U hu |exact RcNeAt.str_none _ _ |exact RcNeAt.str_bool _ _ _ |exact RcNeAt.str_int _ _ _ _ |exact RcNeAt.str_str _ _ _ _ |exact RcNeAt.str_tuple _ _ ?U hu |exact RcNeAt.str_list _ _ ?U hu |exact RcNeAt.tuple_none ?U hu |exact RcNeAt.tuple_bool _ ?U hu |exact RcNeAt.tuple_int _ _ ?U hu |exact RcNeAt.tuple_str _ _ ?U hu |exact RcNeAt.tuple_list ?U ?U hu |exact RcNeAt.list_none ?U hu |exact RcNeAt.list_bool _ ?U hu |exact RcNeAt.list_int _ _ ?U hu |exact RcNeAt.list_str _ _ ?U hu |exact RcNeAt.list_tuple ?U ?U hu))
def V5b (I:?C)(n:Nat)(d1 d2:D)(v1 v2:V)(u1 u2:Ad)(A:Ah)(hd:d1.depth<=n)(h1:IsW X.K H d1 v1)(h2:IsW X.K H d2 v2)(r1:C9 v1 u1)(r2:C9 v2 u2)(hu:A.units+n+1<cLine):RcNeAt A s u1 u2 (!D.eq d1 d2):=by
 have w1:=Q7g I h1 r1;have w2:=Q7g I h2 r2
 by_cases hb:Q5e d1 d2
 ·obtain⟨p,q,rfl,rfl⟩ |⟨p,q,rfl,rfl⟩:=hb
  ·cases w1;cases w2;rename_i a1 qt iI jV kG iw a2 qr cr fN gp eA;have hd:Dqdepths p+1<=n:=by unfold D.depth at hd;exact hd
   have l1:iI.toArray.size=p.length:=by have:=iw.length;have:=jV.length;simp;omega
   have l2:cr.toArray.size=q.length:=by have:=eA.length;have:=fN.length;simp;omega
   have k:=RcNeAt.tuples (A:=A) (s:=s) (e:=fun i=>match p[i]?,q[i]? with |some x,some y=>D.eq x y |_,_=>true) kG gp (?A) (fun j mI ip=>by
    obtain⟨d1,v1,e1,i1,w1⟩:=Q4e iw jV mI;obtain⟨d2,v2,e2,i2,w2⟩:=Q4e eA fN ip;simp only[e1,e2];exact Z0q I (fun A=>Z7o I n d1 d2 v1 v2 _ _ A (by have:=Q9x e1;omega) i1.w i2.w w1 w2) i1 i2 w1 w2 (by simp only[cR];omega))
   rw[l1,l2]at k;unfold D.eq;rw[Q7q];exact k
  ·cases w1;cases w2;rename_i a1 qt iI jV kG iw a2 qr cr fN gp eA;have hd:Dqdepths p+1<=n:=by unfold D.depth at hd;exact hd
   have l1:iI.toArray.size=p.length:=by have:=iw.length;have:=jV.length;simp;omega
   have l2:cr.toArray.size=q.length:=by have:=eA.length;have:=fN.length;simp;omega
   have kk:RcNeAt A s (.ref a1) (.ref a2) (!Dqeqs p q):=by
    rw[Q7q]
    by_cases bZ:p.length=q.length
    ·have k:=RcNeAt.lists (A:=A) (s:=s) (e:=fun i=>match p[i]?,q[i]? with |some x,some y=>D.eq x y |_,_=>true) kG gp (?A) (?A) (fun j mI ip=>by
      obtain⟨d1,v1,e1,i1,w1⟩:=Q4e iw jV mI;obtain⟨d2,v2,e2,i2,w2⟩:=Q4e eA fN ip;simp only[e1,e2];exact Z0q I (fun A=>Z7o I n d1 d2 v1 v2 _ _ A (by have:=Q9x e1;omega) i1.w i2.w w1 w2) i1 i2 w1 w2 (by simp only[cR];omega))
     rw[l1]at k;rw[<-bZ,nE,yM,Bool.and_true];exact k
    ·rw[bU.mpr bZ,kD];exact RcNeAt.lists_lengths kG gp (by rw[l1,l2];simpa using bZ) (?A)
   unfold D.eq;exact kk
 ·exact V5c w1 w2 (?A) hb
def Q5f (hu:X.A.units+n+1<cLine):X0 X .NotEq (J5 n true):=by
 intro ah s σ H x y v u Q I rx ry ⟨r1,r2,h1,h2,d,e,e1,e2,hd,q⟩;exact V5b I n d e x y v u X.A hd (h1.w e1) (h2.w e2) rx ry hu _ _ _ _ ⟨.bl _,H,I,rfl,q⟩
def Q5j {k:Nat}(hr:F8 k A):A.units+59+1<cLine:=by have:=hr.units;omega
end
section
variable {a b c:Ag}
def Q7x (x y:R)(Q:R->Prop):Prop:=∃i j,U1 x=some i/\U1 y=some j/\i.length+j.length<=sizeLine/\Q (.nw (i++j))
def W4w:Q0p Q7x:=fun x y P Q g⟨i,j,a,b,c,q⟩=>⟨i,j,a,b,c,g _ q⟩
def Y5o {K:Fg9}:∀{r:R}{ds:M D}{v:V},U1 r=some ds->IsV K H r v->∃a xs,v=.ref a/\F2 K H a xs/\AllS K H ds xs:=fun {r ds v} e h=>Q4o (H0:=fun _=>none) e h
def V1u:OpD X (binaryOp .Add) Q7x:=by
 intro ah s σ H x y v u Q I rx ry ⟨r1,r2,h1,h2,i,j,e1,e2,hz,q⟩;obtain⟨l,xs,rfl,sq,al⟩:=Y5o e1 h1;obtain⟨b,ys,rfl,qz,jF⟩:=Y5o e2 h2;cases rx;cases ry;obtain⟨b7,rv,pl,_⟩:=I.list sq;obtain⟨cr,fN,gp,_⟩:=I.list qz;have la:=al.length;have lb:=jF.length;have lr:=rv.length;have yt:=fN.length;obtain⟨⟨cls,dd,data,sl⟩,ho,hc,n,hd⟩:=id pl.isList;obtain⟨⟨oS,nr,data2,mY⟩,jz,jB,n2,j0⟩:=id gp.isList;simp only at hc hd jB j0;subst hc hd jB j0;have e:b7.toArray++cr.toArray=(b7++cr).toArray:=by simp
 refine lf ⟨_,ho,rfl⟩ ⟨_,jz,rfl⟩ noFill_list_add seq_list_add PySem.F.slot_list_add PySem.F.entry_list_add (PySem.F.args_list_add_2 _ _) (list_addW l b b7.toArray cr.toArray n n2 dd nr sl mY ?N) ⟨ho,jz,?_⟩;rw[e];have fr:=I.fresh;exact⟨.ref _,_,I.lnew (t':=s.toks) (rv.append fN) (by rw[aq];omega),rfl,q _ _ (G3 fr _) ⟨_,xs++ys,rfl,fr,upd_same,(al.mono (Kp.of (G3 fr _)) _ _).append (jF.mono (Kp.of (G3 fr _)) _ _)⟩⟩
def Q8l (x y:Str):Ac Nat:=(Builtin.Str.occurrences x y 0 x.length 1).head?
def Z3c (wo we:WE):WE:=fun τ Q=>wo τ fun r1=>∃x,r1=.st (.str x)/\we τ fun r=>∃y i,r=.st (.str y)/\Q8l x y=some i/\Q (.st (.int (i:Int)))
theorem V1a:MtR X "str.index" (fun x vs H Q=>∃z y i,x=.str z/\vs=[.str y]/\Q8l z y=some i/\Q (.int (i:Int)) H):=by
 intro ah s σ H x vs v us Q I rx rv ⟨z,y,i,e1,e2,hi,q⟩;subst e1 e2;obtain⟨t,rfl⟩:=rx;obtain⟨u,rfl,t',rfl⟩:=Q0k rv;unfold Q8l at hi;cases ho:Builtin.Str.occurrences z y 0 z.length 1 with
 |nil=>rw[ho]at hi;cases hi
 |cons j rest=>
  rw[ho]at hi;have hi:some j=some i:=hi;cases hi;exact PySem.SC.index ho ⟨.int _,H,I.tok _,⟨_,rfl⟩,q⟩
def DE.index {wo:WE}(ho:DE X H0 o wo)(he:DE X H0 e we)(eL:attributeBase o "index" X.env (eval o X.env)=eval o X.env:=by rfl)
  (iN:((backTo bK (starEach [e] X.env)).all (fun x=>!x.1)&&(backToKw bK (keywordEach [] X.env)).all (fun x=>x.1.isSome)&&decide ([e].length+([]:M Keyword).length+(if ([]:M Keyword).isEmpty then 0 else 1)<30))=true:=by rfl)
  (eG:(apos.endLine==bK.line)=true:=by rfl) (hs:starEach [e] X.env=(false,eval e X.env)::starEach [] X.env:=by rfl) (fg:(backTo bK (starEach [] X.env)).any (·.1)=false:=by rfl):
  DE X H0 (.Call (.Attribute o "index" apos) [e] [] bK) (Z3c wo we) where
 mono:=fun τ P Q f h=>ho.mono τ _ _ (fun r fE=>(by obtain⟨x,e1,h⟩:=fE;exact⟨x,e1,he.mono τ _ _ (fun r⟨y,i,a1,a2,a3⟩=>⟨y,i,a1,a2,f _ a3⟩) h⟩)) h
 pe:=R0 (Z7g PySem.F.plainAttrs_str PySem.F.slot_str_index PySem.F.type_str_index V1a ho.pe (Q1w he.pe Q4q hs) eL iN eG hs fg) fun σ H Q ⟨τ,hR,h⟩=>⟨τ,hR,ho.mono τ _ _ (fun r ji v H1 s1 ir=>by
  obtain⟨x,e1,h⟩:=ji;subst e1;cases (show v=.str x from ir);refine⟨rfl,τ,hR.mono s1,he.mono τ _ _ (fun r ⟨y,i,a1,a2,a3⟩ u H2 s2 iu=>?_) h⟩;subst a1;cases (show u=.str y from iu);exact⟨x,y,i,rfl,rfl,a2,a3 _ _ (s1.trans s2) Z2⟩) h⟩
def Z5u (we:WE):WI:=fun τ Q=>we τ fun r=>∃x,r=.st (.str x)/\Q (G4 x) τ
def J1g {K:Fg9}  :Yl K H0 (Its x) (G4 x) H where
 go:=fun H' _ _ i hi=>by
  have:i<x.cps.size:=by simpa [G4]using hi
  exact this
 yld:=fun H' _ _ i v eX d hd jh=>by
  obtain⟨e,c,hc,hv⟩:=jh;subst e hv;refine⟨A5.refl _,?_⟩;unfold G4 at hd;rw[ai]at hd;have:x.cps.toList[i]?=some c:=by simpa using hc
  rw[this]at hd;have e:D.str ⟨#[c]⟩=d:=az hd;subst e;exact Q4c
 stop:=fun H' _ _=>by
  show(G4 x).length=x.cps.size;simp[G4]
def DI.str (he:DE X H0 e we):DI X H0 tg e (Z5u we) where
 mono:=fun τ P Q f h=>he.mono τ _ _ (fun r⟨ds,e1,q⟩=>⟨ds,e1,f _ _ q⟩) h
 pi:=by
  intro ah s σ H R I ⟨τ,hR,h⟩;refine B3 (he.pe ah s σ H (fun v H1=>A5 H H1/\∃x,v=.str x/\∀J H',Kp H H'->C2 X.K H0 τ σ H'->Yl X.K H0 J (G4 x) H'->R J H') I ⟨τ,hR,he.mono τ _ _ (fun r jg v H1 s1 ir=>(by obtain⟨x,e1,q⟩:=jg;exact⟨s1,x,by subst e1;exact ir,q⟩)) h⟩) fun u s1 ⟨v,H1,I1,rv,sm,x,e1,q⟩=>?_;subst e1;obtain⟨t,rfl⟩:=rv;have fin:∀(ty:String),(ty="str_ascii_iterator"\/ty="str_iterator")->PIE X ah σ tg R (.ref s1.heap.objs.size) {s1 with heap:=s1.heap.push {cls:=.type ty,data:=.fields #[.str x t,.int 0 0]}}:=fun ty jx=>by
   refine⟨s1.heap.objs.size,[s1.heap.objs.size],_,_,H1,rfl,I1.kept (t':=s1.toks) fun b o e=>ae _ e,W0m (ty:=ty) (x:=x) (t:=t) jx,⟨_,aE _ rfl,rfl,rfl⟩,fun b hb=>?_,q _ _ (Kp.of sm) (hR.mono sm) J1g⟩;have e:b=s1.heap.objs.size:=by simpa using hb
   subst e;exact I1.fpOk (am _) (I1.hok.fresh (am _))
  cases ha:x.cps.all (·<128)
  ·exact wpAny_pyIter_wide ha (fin _ (.inr rfl))
  ·exact wpAny_pyIter_ascii ha (fin _ (.inl rfl))
end
def Y3t (ds:M D)(P:D->M D->Prop):Prop:=match ds with
 |[]=>False
 |d::r=>P d r
def tupR (d:D)(P:M D->Prop):Prop:=match d with
 |.tup ds=>P ds
 |_=>False
section
variable {Q:R->Prop}{d e:D}{ds:M D}{i j:Int}{y:Str}
@[simp] theorem V7e {Q:M D->C8->Prop}:Z5u we τ Q=we τ fun r=>∃x,r=.st (.str x)/\Q (G4 x) τ:=rfl
@[simp] theorem V7h:Z3c wa we τ Q=wa τ fun r1=>∃x,r1=.st (.str x)/\we τ fun r=>∃y i,r=.st (.str y)/\Q8l x y=some i/\Q (.st (.int (i:Int))):=rfl
@[simp] theorem Q4r {Q:M D->Prop}:Q1s we τ Q=we τ fun r=>∃ds,r=.st (.tup ds)/\Q ds:=rfl
@[simp] theorem V1k {r r':R}:Q7x r r' Q=∃i j,U1 r=some i/\U1 r'=some j/\i.length+j.length<=sizeLine/\Q (.nw (i++j)):=rfl
@[simp] theorem Q4p {r:R}:U8 [r] Q=∃ds,Q9e r=some ds/\Q (.st (.tup ds)):=rfl
@[simp] theorem o_sq2:Q9e (.nw ds)=some ds:=rfl
@[simp] theorem Z1q:Q9e (.bw ds)=some ds:=rfl
@[simp] theorem o_ne {d e:D}:S3 (.st d) (.st e) QB ↔ (scD d e=true/\QB (!D.eq d e)):=by
 constructor
 ·rintro ⟨a,b,h1,h2,h3,h4⟩;cases h1;cases h2;exact⟨h3,h4⟩
 ·rintro ⟨h3,h4⟩;exact⟨d,e,rfl,rfl,h3,h4⟩
@[simp high] theorem s_gCn2 {g:WG}  {Q:C8->Prop}:E1 g gs ds τ Q ↔ Y3t ds fun d r=>g d τ fun τ'=>gs r τ' Q:=by
 constructor
 ·rintro ⟨a,b,h,q⟩;cases h;exact q
 ·intro h;cases ds with
  |nil=>exact h.elim
  |cons d r=>exact⟨d,r,rfl,h⟩
@[simp high] theorem s_gTp2 {Q:C8->Prop}:K8 n gs d τ Q ↔ tupR d fun ds=>ds.length=n/\gs ds τ Q:=by
 constructor
 ·rintro ⟨a,h,q⟩;cases h;exact q
 ·intro h;cases d with
  |tup ds=>exact⟨ds,rfl,h⟩
  |_=>exact h.elim
@[simp] theorem J1t {P:D->M D->Prop}:Y3t (d::ds) P=P d ds:=rfl
@[simp] theorem o_tupR {P:M D->Prop}:tupR (.tup ds) P=P ds:=rfl
@[simp] theorem o_sc1:scD (.int i) (.int j)=true:=rfl
@[simp] theorem o_sc2 {k l:Bool}:scD (.bl k) (.bl l)=true:=rfl
@[simp] theorem o_sc3:scD (.str x) (.str y)=true:=rfl
end
theorem Q0c {f:D->D}:∀(ds:M D) (o:Ac Sl) (Q:M D->Prop),(∀d∈ds,∀Q':R->Prop,Q' (.st (f d))->we (some (.dat d)::rest) Q')->Q (ds.map f)->N2 (A9 0) P9 we ds (o::rest) Q
 |[],o,Q,h,q=>q
 |d::ds,o,Q,h,q=>by
  simp only[N2];simp;refine h d ak _ ⟨_,rfl,?_⟩;exact Q0c ds _ _ (fun d hd=>h d (aj _ hd)) q
theorem Z0n {t:WT}  {p:D->Bool}{f:D->D}:∀(ds:M D) (o:Ac Sl) (Q:M D->Prop),(∀d∈ds,∀Q':Bool->Prop,Q' (p d)->t (some (.dat d)::rest) Q') ->
  (∀d∈ds,∀Q':R->Prop,p d=true->Q' (.st (f d))->we (some (.dat d)::rest) Q')->Q ((ds.filter p).map f)->N2 (A9 0) t we ds (o::rest) Q
 |[],o,Q,h,h2,q=>q
 |d::ds,o,Q,h,h2,q=>by
  simp only[N2];simp;refine h d ak _ ?_;cases hp:p d with
  |false=>
   rw[List.filter_cons_of_neg (by simp[hp])]at q;simp;exact Z0n ds _ _ (fun d hd=>h d (aj _ hd)) (fun d hd=>h2 d (aj _ hd)) q
  |true=>
   rw[List.filter_cons_of_pos hp]at q;simp;refine h2 d ak _ hp ⟨_,rfl,?_⟩;exact Z0n ds _ _ (fun d hd=>h d (aj _ hd)) (fun d hd=>h2 d (aj _ hd)) q
section
variable {b:Ag}
def Irl (K:Fg9)(l:Af)(n:Nat):It:=⟨fun i H=>i<n/\∃xs,F2 K H l xs/\xs.length=n,fun i H v H'=>H'=H/\∀xs,F2 K H l xs->xs[n-1-i]?=some v,fun i _=>i=n⟩
def J0i {w:Ak}{K:Fg9}   :Q1o P w K tg (Irl K l n) [it] it (fun i h=>i<=n/\h.IsRevIter it l ((n:Int)-1-(i:Int))) where
 mem:=by simp
 obj:=fun i h st b hb=>by
  have e:b=it:=by simpa using hb
  subst e;obtain⟨_,o,ho,hc,hd⟩:=st;exact⟨o,ho,fun v z=>by rw[hd]at z;cases z⟩
 keep:=fun i h h' st k=>⟨st.1,st.2.at fun o e=>k it ?H o e⟩
 item:=by
  back_in;obtain⟨f0,f1,f2,f3,f4,f5⟩:=hf it ?H;obtain⟨bW,xs,hq,hn⟩:=hg;obtain⟨b7,rv,pl,hz⟩:=I.list hq;have hl:=rv.length;have hx:xs[n-1-i]?=some (xs[n-1-i]'(?A)):=aa _;obtain⟨u,hu,ru⟩:=rv.get hx;have hit:=st.2;have e:(n:Int)-1-(i:Int)=((n-1-i:Nat):Int):=?A
  rw[e]at hit;refine wpAny_pyNext_rev_item hit pl.isList (by simpa using hu) fun h' k9 lH=>?_;have I1:A1 X ah σ H {s with heap:=h'}:=I.turned (t':=s.toks) (fun b o hb e=>lH.extBut b o hb e) f0 f1 f3 f4 f5;have e2:((n-1-i:Nat):Int)-1=(n:Int)-1-((i+1:Nat):Int):=?A
  rw[e2]at k9;obtain⟨o,ho,fQ,hd⟩:=id k9;exact⟨u,rfl,Q8i (s:={s with heap:=h'}) ho fQ hd (?G) ⟨_,H,I1,ru,⟨rfl,fun ys hy=>by rw[I.list_inj hy hq];exact hx⟩,⟨?A,k9⟩,fun b hb=>(hf b hb).1⟩⟩
 done:=by
  back_in;obtain⟨f0,f1,f2,f3,f4,f5⟩:=hf it ?H;have hg:i=n:=hg;subst hg;have hit:=st.2;have e:(i:Int)-1-(i:Int)=-1:=?A
  rw[e]at hit;exact wpAny_pyNext_rev_end (I.ok.hd hc) hit fun h' eb=>⟨rfl,I.turned (t':=s.toks) (fun b o hb e=>eb b o hb e) f0 f1 f3 f4 f5⟩
 self:=fun _ _ _ _ _ st h=>wpAny_pyIter_revIter st.2 h
def T3 (ds es:M D):M D:=(ds.zip es).map fun p=>.tup [p.1,p.2]
theorem Y0n {ds es:M D}{i:Nat}{d:D}(h:(T3 ds es)[i]?=some d):∃x y,ds[i]?=some x/\es[i]?=some y/\d=.tup [x,y]:=by grind [T3,ai,az,cE]
def Q9v (ds es:M D):(T3 ds es).length=min ds.length es.length:=by simp[T3]
end
def Q0o {old:HO}(h:H a=some old)(nt:∀xs,old≠.tup xs)(nf:∀o u,old≠.frz o u)(o:HO):Kp H (B0 H a o):=
 ⟨fun c ys q=>by rw[B2 (Q0x q h (fun z=>nt _ z.symm))];exact q,fun c ob u q=>by rw[B2 (Q0x q h (fun z=>nf _ _ z.symm))];exact q⟩
def C2.mutG {K:Fg9}    {i:Nat}{s s':Sl}  {old new:HO}(hR:C2 K H0 τ σ H)(e1:τ[i]?=some (some s))(m:s.mut=true)(hv:σ[i]?=some (some (.ref a)))(h0:H0 a=none)
  (sq:H a=some old) (nt:∀xs,old≠.tup xs) (nf:∀o u,old≠.frz o u) (lH:Z8 K H0 (B0 H a new) s' (.ref a)) (ne:∀ φ,old≠.ext φ:=by intro φ z;cases z):C2 K H0 (τ.set i (some s')) σ (B0 H a new):=by
 have kp:Kp H (B0 H a new):=Q0o sq nt nf _;have hl:i<τ.length:=by
  rcases aX i τ.length with h |h
  ·exact h
  ·rw[ay.mpr h]at e1;cases e1
 have nO:∀(j:Nat) (t:Sl),(τ.set i (some s'))[j]?=some (some t)->j≠i->τ[j]?=some (some t):=fun j t e hj=>by rw[aN (fun z=>hj z.symm)]at e;exact e
 have ib:∀(j:Nat) (t:Sl),(τ.set i (some s'))[j]?=some (some t)->t.mut=true->∃t',τ[j]?=some (some t')/\t'.mut=true:=fun j t e mm=>by
  by_cases hj:j=i
  ·subst hj;exact⟨_,e1,m⟩
  ·exact⟨t,nO j t e hj,mm⟩
 refine⟨by rw[bG];exact hR.len,fun b ob hb=>?_,fun j t e=>?_,fun j k t u v dg e2 e3 m1 m2 q1 q2=>?_⟩
 ·rw[B2 (Z4 hb h0)];exact hR.same b ob hb
 ·by_cases hj:j=i
  ·subst hj;rw[Q1q hl]at e;cases e;exact⟨_,hv,lH⟩
  ·have e:=nO j t e hj;obtain⟨v,q,r⟩:=hR.here j t e;refine⟨v,q,?_⟩;have ap:t.mut=true->v≠.ref a:=fun mm z=>by
    subst z;exact hR.apart i j _ t (.ref a) (fun z=>hj z.symm) e1 e m mm hv q
   cases t with
   |dat d=>exact A4.mono kp _ _ r
   |own es=>accm_mu
   |bor es=>obtain⟨b,ys,e,q,t⟩:=r;exact⟨b,ys,e,q,t.mono kp _ _⟩
   |bd es=>obtain⟨b,ys,e,q,t⟩:=r;exact⟨b,ys,e,q,t.mono kp _ _⟩
   |dk es=>accm_mu
   |dt es=>accm_mu
   |ob _=>exact r
   |cl _ _=>exact⟨r.1,r.2.2 _ _ kp r.2.1,r.2.2⟩
   |ll _ _=>exact⟨r.1,r.2.keep kp fun b φ q=>by rw[B2 (Q0x q sq (fun z=>ne _ z.symm))];exact q⟩
   |ins _ _ _=>obtain⟨e,n,dx,ys,q,t⟩:=r;exact⟨e,n,dx,ys,by rw[B2 (fun z=>ap rfl (by rw[e,z]))];exact q,t.mono kp _ _⟩
 ·obtain⟨s1,sv,qK⟩:=ib j t e2 m1;obtain⟨t1,su,qJ⟩:=ib k u e3 m2;exact hR.apart j k s1 t1 v dg sv su qK qJ q1 q2
def Q8:D->Ac B8
 |.int i=>some (.inl i)
 |.str x=>some (.inr x)
 |_=>none
def X5:M D->Ac (M B8)
 |[]=>some []
 |d::r=>(Q8 d).bind fun k=>(X5 r).map (k::·)
theorem Q6r {K:Fg9}:∀{ds:M D}{ks:M B8}{xs:M V},X5 ds=some ks->AllS K H ds xs->xs=ks.map kV
 |[],ks,xs,h,al=>by cases h;unfold AllS at al;exact al
 |d::r,ks,xs,h,al=>by
  unfold X5 at h;unfold AllS at al;obtain⟨v,t,rfl,iv,al⟩:=al;cases d with
  |int i=>
   cases e:X5 r with
   |none=>rw[e]at h;cases h
   |some k2=>
    rw[e]at h;have h:some (Sum.inl i::k2)=some ks:=h;cases h;rw[Q6r e al];unfold A4 at iv;rw[iv];rfl
  |str i=>
   cases e:X5 r with
   |none=>rw[e]at h;cases h
   |some k2=>
    rw[e]at h;have h:some (Sum.inr i::k2)=some ks:=h;cases h;rw[Q6r e al];unfold A4 at iv;rw[iv];rfl
  |non=>cases h
  |bl _=>cases h
  |tup _=>cases h
  |lst _=>cases h
section
variable [DecidableEq κ]
def G5 (kvs:M (κ×D))(k:κ):Ac D:=(kvs.find? fun kv=>decide (kv.1=k)).map (·.2)
def R1 (kvs:M (κ×D))(k:κ)(v:D):M (κ×D):=if (kvs.any fun kv=>decide (kv.1=k))=true then kvs.map (fun kv=>if kv.1=k then(kv.1,v)else kv)else kvs++[(k,v)]
theorem D7.val {K:Fg9}  {k:κ}:∀{kvs:M (κ×D)}{ps:M (κ×V)},D7 K H kvs ps->(G5 kvs k=none/\U9 ps k=none)\/∃d v,G5 kvs k=some d/\U9 ps k=some v/\A4 K H d v
 |[],ps,h=>by unfold D7 at h;subst h;exact .inl ⟨rfl,rfl⟩
 |p::kvs,ps,h=>by
  unfold D7 at h;obtain⟨v,r,rfl,iv,h⟩:=h
  by_cases e:p.1=k
  ·exact .inr ⟨p.2,v,by simp[G5,bA,e],Z2w e,iv⟩
  ·rw[Z2v (p:=(p.1,v)) e];have:G5 (p::kvs) k=G5 kvs k:=by simp[G5,bA,e]
   rw[this];exact D7.val h
theorem D7.any {K:Fg9}  {k:κ}:∀{kvs:M (κ×D)}{ps:M (κ×V)},D7 K H kvs ps->(kvs.any fun kv=>decide (kv.1=k))=(ps.any fun kv=>decide (kv.1=k)):=by intro kvs;induction kvs<;>grind [D7,gY]
theorem D7.length {K:Fg9}:∀{kvs:M (κ×D)}{ps:M (κ×V)},D7 K H kvs ps->kvs.length=ps.length:=by intro kvs;induction kvs<;>grind [D7,aH]
theorem D7.app {K:Fg9}  {k:κ}{d:D}{v:V}(q:A4 K H d v):∀{kvs:M (κ×D)}{ps:M (κ×V)},D7 K H kvs ps->D7 K H (kvs++[(k,d)]) (ps++[(k,v)]):=by intro kvs;induction kvs<;>grind [D7]
theorem D7.repl {K:Fg9}  {k:κ}{d:D}{v:V}(q:A4 K H d v):∀{kvs:M (κ×D)}{ps:M (κ×V)},D7 K H kvs ps->D7 K H (kvs.map fun kv=>if kv.1=k then(kv.1,d)else kv) (ps.map fun kv=>if kv.1=k then(kv.1,v)else kv):=by intro kvs;induction kvs<;>grind [D7,ax]
def D7.put {K:Fg9}  {k:κ}{d:D}{v:V}(q:A4 K H d v){kvs:M (κ×D)}{ps:M (κ×V)}(h:D7 K H kvs ps):D7 K H (R1 kvs k d) (T0 ps k v):=by
 unfold R1 T0;rw[D7.any h];split
 ·exact D7.repl (k:=k) q h
 ·exact D7.app q h
end
section
variable {a b:Ag}{wi:WE}
def C2.dtAt {K:Fg9}    {i:Nat}{kvs:M (M B8×D)}(hR:C2 K H0 τ σ H)(e1:τ[i]?=some (some (.dt kvs))):∃a ps,σ[i]?=some (some (.ref a))/\H0 a=none/\H a=some (.dT ps)/\D7 K H kvs ps:=by
 obtain⟨v,hv,a,xs,rfl,h0,sq,al⟩:=hR.here i _ e1;exact⟨a,xs,hv,h0,sq,al⟩
def Z2y (i:Nat)(we:WE):WE:=fun τ Q=>∃kvs,τ[i]?=some (some (.dt kvs))/\we τ fun r=>∃ds ks d,r=.st (.tup ds)/\X5 ds=some ks/\G5 kvs ks=some d/\Q (.st d)
def W2j {i:Nat}(hu:X.A.units+1<cLine)(ho:PE X o (Q5 i))(he:DE X H0 e we)(hs:Q7t e):DE X H0 (.Subscript o e pos) (Z2y i we) where
 mono:=fun τ P Q f cG=>(by obtain⟨kvs,e1,h⟩:=cG;exact⟨kvs,e1,he.mono τ _ _ (fun r cU=>by obtain⟨ds,ks,d,a1,a2,a3,a4⟩:=cU;exact⟨ds,ks,d,a1,a2,a3,f _ a4⟩) h⟩)
 pe:=R0 (Z7i hu ho he.pe hs) fun σ H Q dF=>by
  obtain⟨τ,hR,kvs,e1,h⟩:=dF;obtain⟨a,ps,hv,h0,sq,kv⟩:=hR.dtAt e1;refine⟨_,hv,τ,hR,he.mono τ _ _ (fun r ⟨ds,ks,d,a1,a2,a3,a4⟩ v H1 s1 ir=>?_) h⟩;subst a1;have ir:A4 X.K H1 (.tup ds) v:=ir;unfold A4 at ir;obtain⟨b,xs,rfl,sb,al⟩:=ir;rw[Q6r a2 al]at sb;rcases D7.val (k:=ks) (kv.mono (Kp.of s1) _ _)with⟨n1,_⟩ |⟨d',v',n1,n2,n3⟩
  ·rw[a3]at n1;cases n1
  ·rw[a3]at n1;cases n1;refine⟨a,v',rfl,?_,a4 _ _ s1 n3⟩;have g:=Y5.t (s1 _ _ sq) sb;rw[n2]at g;exact g
def Z2z (i:Nat)(we:WE):WT:=fun τ Q=>∃kvs,τ[i]?=some (some (.dt kvs))/\we τ fun r=>∃ds ks,r=.st (.tup ds)/\X5 ds=some ks/\Q (!(G5 kvs ks).isSome)
def W3j {i:Nat}(hu:X.A.units+1<cLine)(he:DE X H0 e we)(ho:PE X o (Q5 i))(h1:behindInMarks .NotIn o=false:=by rfl):DT X H0 (.Compare e [.NotIn] [o] pos) (Z2z i we) where
 mono:=fun τ P Q f cU=>(by obtain⟨kvs,e1,h⟩:=cU;exact⟨kvs,e1,he.mono τ _ _ (fun r⟨ds,ks,a1,a2,a4⟩=>⟨ds,ks,a1,a2,f _ a4⟩) h⟩)
 pt:=ptW (Y7t (Y7j hu he.pe ho) h1) fun σ H Q fE=>by
  obtain⟨τ,hR,kvs,e1,h⟩:=fE;refine⟨τ,hR,he.mono τ _ _ (fun r ⟨ds,ks,a1,a2,a4⟩ v H1 s1 ir=>?_) h⟩;obtain⟨a,ps,hv,h0,sq,kv⟩:=(hR.mono s1).dtAt e1;subst a1;have ir:A4 X.K H1 (.tup ds) v:=ir;unfold A4 at ir;obtain⟨b,xs,rfl,sb,al⟩:=ir;rw[Q6r a2 al]at sb;refine⟨_,hv,a,_,rfl,Y5.t sq sb,?_⟩;have e:(U9 ps ks).isSome=(G5 kvs ks).isSome:=by
   rcases D7.val (k:=ks) kv with⟨n1,n2⟩ |⟨d',v',n1,n2,n3⟩<;>rw[n1,n2]<;>rfl
  rw[e];exact⟨_,rfl,a4 _ s1⟩
def Z3a (i:Nat)(we wv:WE):WS:=fun E τ=>wv τ fun r=>∃d,r=.st d/\∃kvs,τ[i]?=some (some (.dt kvs))/\we τ fun rk=>∃ds ks,rk=.st (.tup ds)/\X5 ds=some ks/\kvs.length<sizeLine/\E.nx (τ.set i (some (.dt (R1 kvs ks d))))
def W2v {i:Nat}{v:Ag}  (hu:X.A.units+1<cLine)(ho:PE X o (Q5 i))(he:DE X H0 e we)(hv:DE X H0 v wv)(hs:swapsWith v (some (.Subscript o e cg)) pos.line X.env=pure false:=by rfl):
  DS X H0 (.Assign [.Subscript o e cg] v pos) (Z3a i we wv) where
 mono:=fun τ E F le h=>hv.mono τ _ _ (fun r g9=>by obtain⟨d,e1,kvs,e2,h⟩:=g9;exact⟨d,e1,kvs,e2,he.mono τ _ _ (fun r⟨ds,ks,a1,a2,a3,a4⟩=>⟨ds,ks,a1,a2,a3,le.nx _ a4⟩) h⟩) h
 ps:=S6 (Y7q hu ho he.pe hv.pe hs) fun D σ H jh=>by
  obtain⟨τ,hR,h⟩:=jh;refine⟨τ,hR,hv.mono τ _ _ (fun r ⟨d,e1,kvs,e2,h⟩ u H1 s1 ir=>?_) h⟩;subst e1;have fm:=hR.mono s1;obtain⟨a,ps,ic,h0,sq,kv⟩:=fm.dtAt e2;refine⟨_,ic,τ,fm,he.mono τ _ _ (fun rk ⟨ds,ks,a1,a2,a3,a4⟩ y H2 s2 ik=>?_) h⟩;subst a1;have ik:A4 X.K H2 (.tup ds) y:=ik;unfold A4 at ik;obtain⟨b,xs,rfl,sb,al⟩:=ik;rw[Q6r a2 al]at sb;have fe:=s2 _ _ sq;have ko:=kv.mono (Kp.of s2) _ _;refine⟨a,_,rfl,Q4a.t fe sb (by rw[<-D7.length ko];exact a3),?_⟩;have kp:Kp H2 (B0 H2 a (.dT (T0 ps ks u))):=Q0o fe (by intro xs z;cases z) (by intro o u z;cases z) _;have iv:A4 X.K H2 d u:=A4.mono (Kp.of s2) _ _ ir;refine a4 σ _ ((Kp.of (s1.trans s2)).trans kp) ((fm.mono s2).mutG e2 rfl ic h0 fe (by intro xs z;cases z) (by intro o u z;cases z) ⟨a,_,rfl,h0,upd_same,?_⟩);exact D7.mono kp _ _ (D7.put iv ko)
def Z3g (i:Nat)(wi wv:WE):WS:=fun E τ=>wv τ fun r=>∃d,r=.st d/\∃ds,τ[i]?=some (some (.own ds))/\wi τ fun rk=>∃k j,rk=.st (.int k)/\ixN ds.length k=some j/\E.nx (τ.set i (some (.own (ds.set j d))))
def W3f {i:Nat}{v:Ag}  (ho:PE X o (Q5 i))(he:DE X H0 e we)(hv:DE X H0 v wv)
  (hs:swapsWithSole [.Subscript o e cg] v pos.line X.env=pure false:=by rfl) (hw:swappedStores [.Subscript o e cg] v X.env=pure none:=by rfl)
  (h1:(assignEach [.Subscript o e cg] X.env).map (·.2)=[assign (.Subscript o e cg) X.env]:=by rfl)
  (ha:∀v,assign (.Subscript o e cg) X.env v=(do
   let ov <- holding [v] (eval o X.env);let iv <- holding [v,ov] (eval e X.env)
   standAt cg
   holding [v,ov,iv] (setItem ov iv v)
   release [v,ov,iv] []):=by intro _;rfl):DS X H0 (.Assign [.Subscript o e cg] v pos) (Z3g i we wv) where
 mono:=fun τ E F le h=>hv.mono τ _ _ (fun r kO=>by obtain⟨d,e1,ds,e2,h⟩:=kO;exact⟨d,e1,ds,e2,he.mono τ _ _ (fun r⟨k,j,a1,a2,a3⟩=>⟨k,j,a1,a2,le.nx _ a3⟩) h⟩) h
 ps:=S6 (Z7k hv.pe (V3y ho he.pe Y8y ha) hs hw h1) fun D σ H gK=>by
  obtain⟨τ,hR,h⟩:=gK;refine⟨τ,hR,hv.mono τ _ _ (fun r ⟨d,e1,ds,e2,h⟩ u H1 s1 ir=>?_) h⟩;subst e1;have fm:=hR.mono s1;obtain⟨a,xs,ic,h0,sq,al⟩:=fm.ownAt e2;refine⟨_,ic,τ,fm,he.mono τ _ _ (fun rk ⟨k,j,a1,a2,a3⟩ y H2 s2 ik=>?_) h⟩;subst a1;cases (show y=.int k from ik);have fe:=s2 _ _ sq;refine⟨a,xs,k,j,rfl,rfl,fe,by rw[<-al.length];exact a2,?_⟩;have eA:AllS X.K H2 (ds.set j d) (xs.set j u):=AllS.set (A4.mono (Kp.of s2) _ _ ir) j (al.mono (Kp.of s2) _ _);exact a3 σ _ ((Kp.of (s1.trans s2)).trans (Q1n fe _)) ((fm.mono s2).mutate e2 ic h0 fe eA)
end
section
variable {E:F6}{Q:R->Prop}{d:D}{ds:M D}{j:Int}
@[simp] theorem V6v:Z2y n we τ Q=∃kvs,τ[n]?=some (some (.dt kvs))/\we τ fun r=>∃ds ks d,r=.st (.tup ds)/\X5 ds=some ks/\G5 kvs ks=some d/\Q (.st d):=rfl
@[simp] theorem V6x:Z2z n we τ QB=∃kvs,τ[n]?=some (some (.dt kvs))/\we τ fun r=>∃ds ks,r=.st (.tup ds)/\X5 ds=some ks/\QB (!(G5 kvs ks).isSome):=rfl
@[simp] theorem V6y:Z3a n wa wb E τ=wb τ fun r=>∃d,r=.st d/\∃kvs,τ[n]?=some (some (.dt kvs))/\wa τ fun rk=>∃ds ks,rk=.st (.tup ds)/\X5 ds=some ks/\kvs.length<sizeLine/\E.nx (τ.set n (some (.dt (R1 kvs ks d)))):=rfl
@[simp] theorem V8a:Z3g n wa wb E τ=wb τ fun r=>∃d,r=.st d/\∃ds,τ[n]?=some (some (.own ds))/\wa τ fun rk=>∃k j,rk=.st (.int k)/\ixN ds.length k=some j/\E.nx (τ.set n (some (.own (ds.set j d)))):=rfl
@[simp] theorem Y7d {k:Int}:X7 (.nw ds) (.st (.int k)) Q=(-(2^63)<=k/\k<2^63/\ds.length*k.toNat<=sizeLine/\Q (.nw (List.replicate k.toNat ds).flatten)):=rfl
@[simp] theorem Z1p {lo:Ac Int}:slD (.bw ds) lo hi Q=Q (.nw (Q0s ds lo hi)):=rfl
end
theorem Z4y {f:D->D->D}:∀(ps:M (D×D)) (o1 o2:Ac Sl) (Q:M D->Prop),(∀p∈ps,∀Q':R->Prop,Q' (.st (f p.1 p.2))->we (some (.dat p.1)::some (.dat p.2)::rest) Q') ->
  Q (ps.map fun p=>f p.1 p.2)->N2 (K8 2 (E1 (A9 0) (E1 (A9 1) L0))) P9 we (ps.map fun p=>.tup [p.1,p.2]) (o1::o2::rest) Q
 |[],o1,o2,Q,h,q=>q
 |p::ps,o1,o2,Q,h,q=>by
  simp only[ax,N2];simp;refine h p ak _ ⟨_,rfl,?_⟩;exact Z4y ps _ _ _ (fun p hp=>h p (aj _ hp)) q
def J1d {K:Fg9}    {ds:M D}(hq:∀H',Kp H H'->A5 H0 H'->F2 K H' l xs)(al:AllS K H ds xs):Yl K H0 (Iel K l) (K1 ds) H where
 go:=fun H' k s i hi=>by
  rw[Q4i]at hi;exact⟨xs,xs[i]'(by rw[<-al.length];exact hi),hq H' k s,aa _⟩
 yld:=fun H' k s i v eX d hd cG=>by
  obtain⟨T,x,hx,hT,hv,hH⟩:=cG;subst hH hv;refine⟨G3 hT _,?_⟩;obtain⟨y,hy,rfl⟩:=Z0p hd;obtain⟨v,hv,q⟩:=al.get hy;rw[hx xs (hq H' k s)]at hv;cases hv;exact A4.s_tup upd_same (AllS.cons Q1m (AllS.cons (q.mono (k.trans (Kp.of (G3 hT _))) _ _) AllS.nil))
 stop:=fun H' k s=>⟨xs,hq H' k s,by rw[Q4i];exact al.length.symm⟩
section
variable {a:Ag}
def Q8k (wr:WA):WI:=fun τ Q=>wr τ fun rs=>∃ds,rs=[.st (.lst ds)]/\Q (K1 ds) τ
def Y0x {pt:Pos}(hg:Gl X "enumerate")(hm:X.mg "enumerate"=none)(hv:bootBuiltins "enumerate"=some (.type "enumerate"))(ha:DA X H0 [a] wr)(he:starEach [a] X.env=(false,eval a X.env)::starEach [] X.env:=by rfl)(hpl:(backTo pos (starEach [] X.env)).any (·.1)=false:=by rfl):
  DI X H0 (.Tuple gN kk pt) (.Call (.Name "enumerate" p) [a] [] pos) (Q8k wr) where
 mono:=fun τ P Q f h=>ha.mono τ _ _ (fun r⟨ds,e1,q⟩=>⟨ds,e1,f _ _ q⟩) h
 pi:=by
  intro ah s σ H R I ⟨τ,hR,h⟩;refine bj (Q1h I hg hm hv ?_ (?G) (?G));refine bf (B3 (ha.pa pos ah s σ H (fun vs H1=>A5 H H1/\∃l xs ds,vs=[.ref l]/\FzL X.K H1 l xs/\AllS X.K H1 ds xs/\∀J H',Kp H H'->C2 X.K H0 τ σ H'->Yl X.K H0 J (K1 ds) H'->R J H') I
   ⟨τ,hR,ha.mono τ _ _ (fun rs ⟨ds,e1,q⟩ vs H1 s1 dA=>⟨s1,by
    subst e1;obtain⟨v,rfl,ir⟩:=Q0q dA;have ir:A4 X.K H1 (.lst ds) v:=ir;unfold A4 at ir;obtain⟨l,xs,rfl,sq,al⟩:=ir;exact⟨l,xs,ds,rfl,sq,al,q⟩⟩) h⟩) fun us s1 bF=>?_) he hpl
  obtain⟨vs,H1,I1,rv,sm,l,xs,ds,e1,sq,al,q⟩:=bF;subst e1;have big:∀b∈[s1.heap.objs.size+1,s1.heap.objs.size],M9 X ah H1 b:=fun b hb=>by
   have hb:s1.heap.objs.size<=b:=by
    rcases au.mp hb with rfl |hb
    ·exact cW _
    ·have e:b=s1.heap.objs.size:=by simpa using hb
     rw[e];exact am _
   exact I1.fpOk hb (I1.hok.fresh hb)
  obtain⟨u,rfl,ru⟩:=Q0k rv;cases (show u=Value.ref l from ru);obtain⟨b7,i6,pl,kK⟩:=I1.list sq.sq;obtain⟨o,n,ho,_⟩:=id pl;have hl:l<s1.heap.objs.size:=aA ho;refine call_enumerate_list pl.isList fun h' he hi hz k=>?_;refine cx he ⟨s1.heap.objs.size+1,[s1.heap.objs.size+1,s1.heap.objs.size],_,_,H1,rfl,I1.kept (t':=s1.toks) k,W0k (l:=l) (dX _) (aC (bo hl)) (aC hl),⟨⟨_,he⟩,hi⟩,big,q _ _ (Kp.of sm) (hR.mono sm) (J1d (xs:=xs) (fun H' k _=>(k.fzL sq).sq) al)⟩
end
@[simp] theorem V7c {Q:M D->C8->Prop}:Q8k wr τ Q=wr τ fun rs=>∃ds,rs=[.st (.lst ds)]/\Q (K1 ds) τ:=rfl
theorem W5f {a b:Int}{c cv:Ad}(l:M Ad)(t:TriplesOk l)(h:codeAmong pos (l++[rawInt a,rawInt b,c])=some cv):codeAmong pos l=some cv\/cv=c:=by
 fun_induction TriplesOk l with
 |case1=>
  right
  have h:(if (a==(pos.line:Int)&&b==(pos.col:Int))=true then some c else codeAmong pos [])=some cv:=h;split at h
  ·exact(az h).symm
  ·cases h
 |case2 i ti j tj x rest ih=>
  have h:(if (i==(pos.line:Int)&&j==(pos.col:Int))=true then some x else codeAmong pos (rest++[rawInt a,rawInt b,c]))=some cv:=h;show(if (i==(pos.line:Int)&&j==(pos.col:Int))=true then some x else codeAmong pos rest)=some cv\/_;split at h
  ·rename_i hc;rw[aP hc];exact .inl h
  ·rename_i hc;rw[aK hc];exact ih t h
 |case3=>exact t.elim
def X2:HO:=.ext fun _=>True
def Z0c {w:Ak}    {o:Obj}(e:h.get? a=?R):N1 P w H h a (.frz o X2):=⟨e,trivial,⟨o,e⟩,fun _ _ _ _=>trivial⟩
def Q0m (mg:Str->Ac Ad)(base:Heap):Prop:=∃bm ob,mg "__builtins__"=some (.ref bm)/\bm≠builtinsNs/\base.get? bm=some ob/\ob.cls=.type "module"/\ob.dict=some builtinsNs/\ob.data=.plain
abbrev W4 (X:Cx)(params:Arguments)(body:Ag)(sc:Scope)(clos:M (Str×Af))(c':Af)(ctv:Ad):Obj:=
 PySem.W.kla_obj "<lambda>" (X.env.qual++"<lambda>") params body sc clos ((X.mg "__name__").getD .none) c' ctv
def tLam (P:Af)(ob:Af->Ad->Obj):TE:=fun _ H Q=>∀f c' oc ctv H',A5 H H'->Q5c oc->H f=none->H' c'=some (.frz oc (.own P))->H' f=some (.frz (ob c' ctv) X2)->(∀b,H' b≠none->H b=none->b=f\/b=c')->Q (.ref f) H'
section
variable {body:Ag}{c P:Af}
theorem Q8z (hB:Q0m X.mg X.base)(eJ:X.env.code=.ref c)(hC:PySem.W.codeHdIn X.K c P=true)(iO:closureFor sc X.env=pure clos)(hd:defaultsOf params X.env=([],[]):=by rfl):
  PE X (.Lambda params body sc pos) (fun σ H Q=>H P=some .tab/\tLam P (fun c' ctv=>W4 X params body sc clos c' ctv) σ H Q):=by
 intro ah s σ H Q I ⟨hP,h⟩;refine PySem.W.kla_eval hd ?_;have jo:s.heap.Ns mainGlobals X.mg:=I.mod.glob.keeps I.bk;have C:=sI I.kIn hC;obtain⟨ps,eP,ht,en⟩:=(show N1 X.prog X.w H s.heap P .tab from I.hok P _ hP)
 obtain⟨bm,ob,b1,b2,b3,b4,b5,b6⟩:=hB;have bH:∀b o,X.base.get? b=?R->b≠P:=fun b o e z=>by
  have:=(I.bs b o e).2;rw[z,hP]at this;cases this
 have rM:mainGlobals≠P:=by
  obtain⟨o,es,ep,e,hd,_⟩:=I.mod.glob;exact bH _ _ e
 have kI:bm≠mainGlobals:=fun same=>by
  obtain⟨go,_,_,ge,gd,_⟩:=I.mod.glob;rw[same,ge]at b3;cases b3;rw[gd]at b6;cases b6
 have tP:s.heap.BuiltinsAt X.mg P:=⟨bm,ob,b1,b2,kI,bH _ _ b3,I.bk _ _ b3,b4,b5,b6⟩
 cases hf:codeAmong pos ps.toList with
 |some cv=>
  obtain⟨c',oc,rfl,eV,fQ⟩:=en pos cv hf;refine PySem.W.kla_makeFunctionHit (mg:=X.mg) iO I.ok.glob jo eJ C eP ht hf tP fun ctv h' tk hk hsz=>?_;have tN:H h'.objs.size=none:=I.hok.fresh hsz;have ne:∀b u,H b=some u->b≠h'.objs.size:=fun b u e z=>by rw[z,tN]at e;cases e
  have kp:∀b o,s.heap.get? b=?R->(h'.push (W4 X params body sc clos c' ctv)).get? b=?R:=fun b o e=>ae _ (hk b o e);have lt:∀b o,s.heap.get? b=?R->b≠h'.objs.size:=fun b o e=>aC (aB (aA e) hsz);refine⟨.ref h'.objs.size,B0 H h'.objs.size (.frz (W4 X params body sc clos c' ctv) X2),I.un (t':=tk) ⟨fun b o e _ _ _=>kp b o e,fun b o e _ _ _=>⟨o.slots,kp b o e⟩,fun b o e n _=>by rw[B2 (lt b o e)];exact n,fun b o e _=>⟨o,kp b o e⟩,
   fun b xs e=>by rw[B2 (ne b _ e)];exact e,fun b o u e=>by rw[B2 (ne b _ e)];exact e,fun b ps e=>⟨#[],by rw[B2 (ne b _ e),e];simp⟩⟩ ?_,rfl,?_⟩
  ·refine J8.laid (h:=s.heap) I.hok kp hsz (Z0c (aE _ rfl))
  ·exact h _ c' oc ctv _ (fun b u e=>by rw[B2 (ne b _ e)];exact e) fQ tN (by rw[B2 (ne _ _ eV)];exact eV) upd_same fun b n1 n2=>by
    by_cases hb:b=h'.objs.size
    ·exact .inl hb
    ·rw[B2 hb]at n1;exact absurd n2 n1
 |none=>
  refine PySem.W.kla_makeFunction (mg:=X.mg) iO I.ok.glob jo eJ C eP ht hf rM tP fun c' ctv h' tk hx iq bW rf tw=>?_;obtain⟨c₂,oc,vs,tq,e2,fQ,tO,hv⟩:=rf;cases e2;have ke:H c'=none:=I.hok.fresh iq;have lN:H h'.objs.size=none:=I.hok.fresh (aV iq (dO bW));have wY:c'≠h'.objs.size:=aC bW;have yH:P≠c':=fun z=>by rw[<-z,hP]at ke;cases ke
  have yG:P≠h'.objs.size:=fun z=>by rw[<-z,hP]at lN;cases lN
  have vF:∀b o,s.heap.get? b=?R->b≠c':=fun b o e=>aC (aB (aA e) iq);have vD:∀b o,s.heap.get? b=?R->b≠h'.objs.size:=fun b o e=>aC (aB (aA e) (aV iq (dO bW)));have vw:∀b u,H b=some u->b≠c':=fun b u e z=>by rw[z,ke]at e;cases e
  have vt:∀b u,H b=some u->b≠h'.objs.size:=fun b u e z=>by rw[z,lN]at e;cases e
  have hH:∀b,b≠c'->b≠h'.objs.size->B0 (B0 H c' (.frz oc (.own P))) h'.objs.size (.frz (W4 X params body sc clos c' ctv) X2) b=H b:=fun b n1 n2=>by rw[B2 n2,B2 n1]
  have si:B0 (B0 H c' (.frz oc (.own P))) h'.objs.size (.frz (W4 X params body sc clos c' ctv) X2) c'=some (.frz oc (.own P)):=by rw[B2 wY,upd_same]
  have kp:∀b o,b≠P->s.heap.get? b=?R->(h'.push (W4 X params body sc clos c' ctv)).get? b=?R:=fun b o n e=>ae _ (hx b o n e);have nP:∀b,H b=none->b≠P:=fun b n z=>by rw[z,hP]at n;cases n
  have sm:A5 H (B0 (B0 H c' (.frz oc (.own P))) h'.objs.size (.frz (W4 X params body sc clos c' ctv) X2)):=fun b u e=>by rw[hH b (vw b u e) (vt b u e)];exact e
  refine⟨.ref h'.objs.size,B0 (B0 H c' (.frz oc (.own P))) h'.objs.size (.frz (W4 X params body sc clos c' ctv) X2),I.un (t':=tk) ⟨fun b o e n _ _=>kp b o (nP b n) e,fun b o e n _ _=>⟨o.slots,kp b o (nP b n) e⟩,fun b o e n _=>by rw[hH b (vF b o e) (vD b o e)];exact n,fun b o e _=>?_,
   fun b xs e=>sm _ _ e,fun b o u e=>sm _ _ e,fun b ps e=>⟨#[],by rw[sm _ _ e];simp⟩⟩ ?_,rfl,?_⟩
  ·by_cases hb:b=P
   ·exact⟨_,ae _ (hb▸tw)⟩
   ·exact⟨o,kp b o hb e⟩
  ·intro b u e
   by_cases tQ:b=h'.objs.size
   ·subst tQ;rw[upd_same]at e;cases e;exact Z0c (aE _ rfl)
   by_cases hbc:b=c'
   ·subst hbc;rw[si]at e;cases e;exact⟨ae _ fQ,⟨_,ae _ fQ⟩⟩
   rw[hH b hbc tQ]at e
   by_cases hbP:b=P
   ·subst hbP;rw[hP]at e;cases e;refine⟨_,ae _ tw,?_,fun cg cv q=>?_⟩
    ·have:=TriplesOk_snoc (pos.line:Int) (pos.col:Int) (.ref c') ps.toList ht;simpa using this
    ·have q:codeAmong cg (ps.toList++[rawInt (pos.line:Int),rawInt (pos.col:Int),.ref c'])=some cv:=by simpa using q
     rcases W5f _ ht q with q |q
     ·obtain⟨c2,o2,e1,e2,e3⟩:=en cg cv q;exact⟨c2,o2,e1,sm _ _ e2,e3⟩
     ·exact⟨c',oc,q,si,⟨vs,_,tq,tO,hv⟩⟩
   ·refine(I.hok b u e).stay (fun d v hc q=>kp d v ?_ q) (fun d v _ q=>sm _ _ q) fun d xs q=>sm _ _ q;rcases hc with z |z
    ·rw[z];exact hbP
    ·intro z2;rw[z2,hP]at z;cases z
  ·exact h _ c' oc ctv _ sm ⟨vs,_,tq,tO,hv⟩ lN si upd_same fun b n1 n2=>by
    by_cases hb:b=h'.objs.size
    ·exact .inl hb
    by_cases pR:b=c'
    ·exact .inr pR
    ·rw[hH b pR hb]at n1;exact absurd n2 n1
end
structure U4 where
 name:Str
 addr:Af
 obj:Obj
 val:V
 slot:Sl
variable {caps:M U4}
def N4 (S:M Af)(H:Hp):Hp:=fun b=>if b∈S then none else H b
theorem Q8j {b:Af}(h:b∈S):N4 S H b=none:=aP h
theorem Q0v {b:Af}(h:b∉S):N4 S H b=H b:=aK h
theorem W7r {b:Af}{u:HO}(h:N4 S H b=some u):b∉S/\H b=some u:=by grind [Q8j,Q0v]
def showS (S:M Af)(H H':Hp):Hp:=fun b=>if b∈S then H b else H' b
def Y9a {b:Af}(h:b∈S):showS S H H' b=H b:=aP h
def Z2h {b:Af}(h:b∉S):showS S H H' b=H' b:=aK h
def V0 (S:M Af)(H:Hp):Prop:=∀c∈S,∃o u,H c=some (.frz o X2)/\o.data=.cell u
section
variable {w:Ak}
def V0.out (hS:V0 S H){b:Af}{u:HO}(e:H b=some u)(n:∀o,u≠.frz o X2):b∉S:=fun hb=>by
 obtain⟨o,_,q,_⟩:=hS b hb;rw[e]at q;exact n o (az q)
def V0.tup (hS:V0 S H){b:Af}  (e:H b=some (.tup xs)):N4 S H b=some (.tup xs):=by
 rw[Q0v (hS.out e (by intro o z;cases z))];exact e
def V0.own (hS:V0 S H){b:Af}{u:HO}(ow:Z0a a u)(e:H b=some u):N4 S H b=some u:=by
 rw[Q0v (hS.out e (by
  intro o z;rcases ow with rfl |⟨o',rfl⟩
  ·cases z
  ·injection z with _ z;cases z))]
 exact e
def J8.hid (x:J8 P w H h)(hS:V0 S H)(k:∀b u,h.get? b=some u->h'.get? b=some u):J8 P w (N4 S H) h':=fun b u e=>by
 obtain⟨hb,e⟩:=W7r e;exact(x b u e).stay (fun c v _ q=>k c v q) (fun c v ow q=>hS.own ow q) fun c xs q=>hS.tup q
end
def Q4b (Φ:Hp->Prop):Prop:=∀(S:M Af) (H:Hp),V0 S H->Φ H->Φ (N4 S H)
mutual
theorem A4.hid {K:Fg9}{S:M Af}{H:Hp}(hS:V0 S H):∀(d:D) (v:V),A4 K H d v->A4 K (N4 S H) d v
 |.non,v,h=>by unfold A4 at h ⊢;exact h
 |.bl _,v,h=>by unfold A4 at h ⊢;exact h
 |.int _,v,h=>by unfold A4 at h ⊢;exact h
 |.str _,v,h=>by unfold A4 at h ⊢;exact h
 |.tup ds,v,h=>by
  unfold A4 at h ⊢;obtain⟨a,xs,e,q,t⟩:=h;exact⟨a,xs,e,hS.tup q,AllS.hid hS ds xs t⟩
 |.lst ds,v,h=>by
  unfold A4 at h ⊢;obtain⟨a,xs,e,q,t⟩:=h;refine⟨a,xs,e,?_,AllS.hid hS ds xs t⟩;rcases q with⟨o,q⟩ |q
  ·exact .inl ⟨o,by rw[Q0v (hS.out q (by intro o z;injection z with _ z;cases z))];exact q⟩
  ·exact .inr q
theorem AllS.hid {K:Fg9}{S:M Af}{H:Hp}(hS:V0 S H):∀(ds:M D) (xs:M V),AllS K H ds xs->AllS K (N4 S H) ds xs
 |[],xs,h=>by unfold AllS at h ⊢;exact h
 |d::ds,xs,h=>by
  unfold AllS at h ⊢;obtain⟨v,r,e,q,t⟩:=h;exact⟨v,r,e,A4.hid hS d v q,AllS.hid hS ds r t⟩
end
def Q4z (K:Fg9)(H:Hp):Sl->V->Prop
 |.dat d,v=>A4 K H d v
 |.cl a Φ,v=>v=.ref a/\Φ H/\Q6c Φ/\Q4b Φ
 |_,_=>False
theorem Q4z.mono {K:Fg9}  (k:Kp H H'):∀{s:Sl}{v:V},Q4z K H s v->Q4z K H' s v
 |.dat d,v,h=>A4.mono k d v h
 |.cl a Φ,v,h=>⟨h.1,h.2.2.1 _ _ k h.2.1,h.2.2⟩
 |.own _,_,h=>h.elim
 |.bor _,_,h=>h.elim
 |.bd _,_,h=>h.elim
 |.dk _,_,h=>h.elim
 |.dt _,_,h=>h.elim
 |.ob _,_,h=>h.elim
 |.ins _ _ _,_,h=>h.elim
 |.ll _ _,_,h=>h.elim
theorem Q4z.slot {K:Fg9}   (hS:V0 S H):∀{s:Sl}{v:V},Q4z K H s v->Z8 K (N4 S H) (N4 S H) s v/\s.mut=false
 |.dat d,v,h=>⟨A4.hid hS d v h,rfl⟩
 |.cl a Φ,v,h=>⟨⟨h.1,h.2.2.2 _ _ hS h.2.1,h.2.2.1⟩,rfl⟩
 |.own _,_,h=>h.elim
 |.bor _,_,h=>h.elim
 |.bd _,_,h=>h.elim
 |.dk _,_,h=>h.elim
 |.dt _,_,h=>h.elim
 |.ob _,_,h=>h.elim
 |.ins _ _ _,_,h=>h.elim
 |.ll _ _,_,h=>h.elim
structure Y0q (K:Fg9)(H:Hp)(p:U4):Prop where
 at_:H p.addr=some (.frz p.obj X2)
 cell:∃u,p.obj.data=.cell (some u)/\C9 p.val u
 rel:Q4z K H p.slot p.val
def X1 (K:Fg9)(caps:M U4)(f c':Af)(fo:Obj)(H:Hp):Prop:=
 H f=some (.frz fo X2)/\(∃oc Pt,H c'=some (.frz oc (.own Pt))/\Q5c oc)/\∀p∈caps,Y0q K H p
def X1.mono {K:Fg9}   {fo:Obj}:Q6c (X1 K caps f c' fo):=fun H H' k ⟨h1,⟨oc,Pt,h2,h3⟩,h4⟩=>
 ⟨k.frz _ _ _ h1,⟨oc,Pt,k.frz _ _ _ h2,h3⟩,fun p hp=>⟨k.frz _ _ _ (h4 p hp).at_,(h4 p hp).cell,(h4 p hp).rel.mono k⟩⟩
def X1.hid0 {K:Fg9}  {fo:Obj}(hf:∀u,fo.data≠.cell u):Q4b (X1 K [] f c' fo):=fun S H hS cG=>by
 obtain⟨h1,⟨oc,Pt,h2,h3⟩,_⟩:=cG;refine⟨?_,⟨oc,Pt,?_,h3⟩,fun p hp=>absurd hp ?H⟩
 ·rw[Q0v]
  ·exact h1
  ·intro hb;obtain⟨o,u,q,d⟩:=hS _ hb;rw[h1]at q;injection q with q
   injection q with q
   exact hf u (q▸d)
 ·rw[Q0v (hS.out h2 (by intro o z;injection z with _ z;cases z))];exact h2
def Q8o (K:Fg9)(n:Nat)(Φ:Hp->Prop)(sp:F4):Sp:=fun vs H Q _=>∃(rs:M R) (r:R),rs.length=n/\O5 K (fun _=>none) H rs vs/\rs.all P0=true/\Φ H/\sp (rs.map nrm) r/\∀v H',A5 H H'->F7 K H H' r v->Q v H'
abbrev Q1 (caps:M U4):M (Str×Af):=caps.map fun p=>(p.name,p.addr)
structure Q4d (ps fr:M Str)(sc:Scope):Prop where
 kind:sc.kind=.function
 co:sc.isCoroutine=false
 gen:sc.isGenerator=false
 nd:(ps++fr).Nodup
 par:∀x∈ps,sc.names.lookup x=some .local
 fre:∀x∈fr,sc.names.lookup x=some .free
 nocell:∀y∈sc.names,y.2≠.cell
 all:∀y∈sc.names,y.2=.free->y.1∈fr
def cxL (P:Aj)(w:Ak)(K:Fg9)(mg:Str->Ac Ad)(base:Heap)(N:M Str)(q:Str)(sc:Scope)(f c':Af)(caps:M U4)(A:Ah)(outer:M Env)(s:Ae)(H:Hp):Cx where
 prog:=P
 w:=w
 K:=K
 mg:=mg
 base:=base
 A:=A.deeper (PySem.W.envX q sc s.heap.objs.size f (.ref c') (Q1 caps))
 N:=N
 s₀:=s
 H₀:=H
 env:=PySem.W.envX q sc s.heap.objs.size f (.ref c') (Q1 caps)
 outer:=outer
 stack:=PySem.W.envX q sc s.heap.objs.size f (.ref c') (Q1 caps)::outer
 ex:=[]
 calm:=true
 fn:=fun _=>false
 pn:=[]
 xe:=fun _ _=>False
def Z1f {c:Af}(h:(Q1 caps).lookup x=some c):∃p∈caps,p.name=x/\p.addr=c:=by
 have:=bL h;obtain⟨p,hp,e⟩:=ar.mp this;cases e;exact⟨p,hp,rfl,rfl⟩
theorem Z4q:∀{caps:M U4}{p:U4},(caps.map (·.name)).Nodup->p∈caps->(Q1 caps).lookup p.name=some p.addr
 |[],_,_,mem=>absurd mem ?H
 |q::r,p,nd,mem=>by
  rw[ax,bq]at nd;show List.lookup p.name ((q.name,q.addr)::Q1 r)=_;rcases au.mp mem with rfl |mem
  ·simp[List.lookup]
  ·have dg:p.name≠q.name:=fun z=>nd.1 (z▸gy mem);rw[j9];have:(p.name==q.name)=false:=by simpa using dg
   rw[this];exact Z4q nd.2 mem
theorem Y2f:∀{caps:M U4}{p q:U4},(?M).Nodup->p∈caps->q∈caps->p.addr=q.addr->p=q:=by intro caps;induction caps<;>grind [ax,bq]
section
variable {Pg:Aj}{Wd:Ak}{Ar:Ah}{Rs:Result->Ae->Prop}
def W5p {args:Args}{o:Obj}  {body:Ag}{q:Str}(deep:Ar.depth<recursionLimit)(at_:s.heap.get? a=?R)(is:o.data=.func fd)(c0:fd.scope.isCoroutine=false)(g0:fd.scope.isGenerator=false)(bd:fd.body=.expr body)(cd:s.heap.CodeRec fd.code q)
  (go:wpAny (model Pg Wd) Ar.in1 (bindArgs fd args)
   (fun bs s1=>wpAny (model Pg Wd) Ar.in1 (newFunctionEnv fd.scope fd.globals fd.closure bs (q++".<locals>.") (some a) fd.code none fd.builtins) (fun ev s2=>s2.heap.NoLimit/\codeAny (model Pg Wd) Ar (.expr body ev) Rs s2) (fun x s1=>Rs (.error x) s1) s1)
   (fun x s1=>Rs (.error x) s1) s):codeAny (model Pg Wd) Ar (.call (.ref a) args) Rs s:=by
 obtain⟨c,oc,fs,tk,hc,fQ,wQ,hn⟩:=cd;have run:wpAny (model Pg Wd) Ar.in1 (callAny (.ref a) args) (fun fin s1=>match fin with |.done fl=>Rs (.ok fl) s1 |.again c'=>c'.quiet=true/\codeAny (model Pg Wd) Ar c' Rs s1) (fun x s1=>Rs (.error x) s1) s:=by
  unfold callAny;refine af (wpAny_load at_ ?_);rw[is];dsimp only;rw[hc]at go;unfold callFunction;simp only[c0,g0,bd,hc];refine af (m:=field (.ref c) 1) (bM fQ wQ hn (af (ao (af (B3 go fun bs s1 h1=>?_)))));exact af (B3 h1 fun ev s2⟨mo,h2⟩=>af (wpAny_enterFrame mo deep (ao ⟨rfl,h2⟩)))
 exact codeAny_of_tree run
end
theorem J1n:∀{ps:M Str}{us:M Ad}{i:Nat},ps.Nodup->ps[i]?=some x->us[i]?=some u->(ps.zip us).reverse.lookup x=some u:=by
 intro ps us i nd h1 h2;have hm:(x,u)∈(ps.zip us).reverse:=by
  rw[yR];refine aD (i:=i) ?_;rw[cE];exact⟨h1,h2⟩
 have un:∀v,(x,v)∈(ps.zip us).reverse->v=u:=fun v hv=>by
  rw[yR]at hv;obtain⟨j,hj⟩:=List.getElem?_of_mem hv;rw[cE]at hj;have hi:i<ps.length:=(aM.mp h1).1;have rK:i=j:=(List.getElem?_inj hi nd).mp (h1.trans hj.1.symm);subst rK;rw[h2]at hj;exact(az hj.2).symm
 cases hl:(ps.zip us).reverse.lookup x with
 |none=>
  have:=List.lookup_eq_none_iff.mp hl _ hm;simp at this
 |some v=>rw[un v (bL hl)]
section
variable {w:Ak}{K:Fg9}{q:Str}{outer:M Env}
def W8j (S:Q4d ps (caps.map (·.name)) sc)(jl:(?M).Nodup)(hd:A.handled=none)(e0:Q5z P w K mg base A outer s H)(hl:vs.length=ps.length)(r:C3 vs us)(hc:∀p∈caps,Y0q K H p)
  {h1:Heap}{tk:Nat} (lJ:h1.Ns s.heap.objs.size fun x=>(ps.zip us).reverse.lookup x) (hk:∀b o,s.heap.get? b=?R->h1.get? b=?R):
  A1 (cxL P w K mg base (ps++caps.map (·.name)) q sc f c' caps A outer s (N4 (?M) H)) [] ((vs++caps.map (·.val)).map some) (N4 (?M) H) {s with heap:=h1,toks:=tk}:=by
 have hS:V0 (?M) H:=fun c eV=>by
  obtain⟨p,hp,rfl⟩:=ar.mp eV;obtain⟨u,hu,_⟩:=(hc p hp).cell;exact⟨_,_,(hc p hp).at_,hu⟩
 have mK:∀b,H b=none->N4 (?M) H b=none:=fun b n=>by
  unfold N4;split
  ·rfl
  ·exact n
 have lC:(caps.map (·.name)).Nodup:=(bg.mp S.nd).2.1;have oT:∀p∈caps,∃u,h1.IsCell p.addr (some u)/\C9 p.val u:=fun p hp=>by
  obtain⟨u,hu,ru⟩:=(hc p hp).cell;exact⟨u,⟨p.obj,hk _ _ (e0.hok _ _ (hc p hp).at_).1,hu⟩,ru⟩
 have km:∀b:Af,b∉(cxL P w K mg base (ps++caps.map (·.name)) q sc f c' caps A outer s (N4 (?M) H)).ex:=fun b z=>absurd (show b∈([]:M Af)from z) ?H;refine⟨⟨e0.mod,S.kind,rfl,rfl,am _,fun y z c h1 h2=>?_,fun y hy=>?_,fun y c hf _=>absurd (show false=true from hf) (?G),fun _=>hd,Around.frames_deeper e0.frames,.inr ⟨rfl,rfl⟩,fun b z=>absurd z (km b),fun b o e=>⟨(e0.bs b o e).1,mK _ (e0.bs b o e).2⟩,e0.bsz,fun b _ _=>km b,fun b z=>absurd z (km b),e0.funs,fun b hb=>mK _ (e0.frf b hb)⟩,
  rfl,e0.bare,Un.kept hk,⟨_,lJ,fun i y v h1 h2 h3=>?_⟩,fun y c h=>?_,mK _ (e0.hok.fresh (am _)),fun y c h=>?_,fun p hp=>absurd (show p∈([]:Pn9)from hp) ?H,e0.hok.hid hS hk,?_⟩
 ·obtain⟨p,hp,rfl,e1⟩:=Z1f h1;obtain⟨p',wj,rfl,e2⟩:=Z1f h2;rw[Y2f jl hp wj (e1.trans e2.symm)]
 ·have hy:sc.names.lookup y=some .cell\/sc.names.lookup y=some .free:=hy;rcases hy with hy |hy
  ·exact absurd rfl (S.nocell _ (bL hy))
  ·have:=S.all _ (bL hy) rfl;obtain⟨p,hp,e⟩:=ar.mp this;have e:p.name=y:=e;exact⟨p.addr,by rw[<-e];exact Z4q lC hp⟩
 ·by_cases hi:i<ps.length
  ·have hp:ps[i]?=some y:=by rw[show(cxL P w K mg base (ps++caps.map (·.name)) q sc f c' caps A outer s (N4 (?M) H)).N=ps++caps.map (·.name)from rfl,aI hi]at h1;exact h1
   have hv:vs[i]?=some v:=by
    rw[ai,aI (?A)]at h2;cases e:vs[i]? with
    |none=>rw[e]at h2;cases h2
    |some a=>rw[e]at h2;cases h2;rfl
   obtain⟨u,hu,rv⟩:=r.get hv;exact⟨u,rv,.inl ⟨S.par y (aD hp),J1n (bg.mp S.nd).1 hp hu⟩⟩
  ·have hp:(caps.map (·.name))[i-ps.length]?=some y:=by rw[show(cxL P w K mg base (ps++caps.map (·.name)) q sc f c' caps A outer s (N4 (?M) H)).N=ps++caps.map (·.name)from rfl,aT (?A)]at h1;exact h1
   have hv:(caps.map (·.val))[i-ps.length]?=some v:=by
    rw[ai,aT (?A),hl]at h2;cases e:(caps.map (·.val))[i-ps.length]? with
    |none=>rw[e]at h2;cases h2
    |some a=>rw[e]at h2;cases h2;rfl
   rw[ai]at hp hv;cases e:caps[i-ps.length]? with
   |none=>rw[e]at hp;cases hp
   |some p=>
    rw[e]at hp hv;cases hp;cases hv;have rh:=aD e;obtain⟨u,eU,ru⟩:=oT p rh;exact⟨u,ru,.inr ⟨.inr (S.fre _ (gy rh)),p.addr,Z4q lC rh,eU⟩⟩
 ·obtain⟨p,hp,rfl,rfl⟩:=Z1f h;obtain⟨u,eU,_⟩:=oT p hp;exact⟨_,eU⟩
 ·obtain⟨p,hp,rfl,rfl⟩:=Z1f h;exact Q8j (gy hp)
 ·rw[ag,aq,ag,hl];show _=(ps++caps.map (·.name)).length;rw[aq,ag]
end
def A5.showS (hS:V0 S H)(sm:A5 (N4 S H) H'):A5 H (showS S H H'):=fun b u e=>by
 by_cases hb:b∈S
 ·rw[Y9a hb];exact e
 ·rw[Z2h hb];exact sm b u (by rw[Q0v hb];exact e)
def Q8h {w:Ak}{K:Fg9}   {k:Nat}  {name:Str}  {body:Ag}  {ctv:Ad}    
  (S:Q4d ps (caps.map (·.name)) sc) (jl:(?M).Nodup)
  (cn:∀(A:Ah) (outer:M Env) (s:Ae) (H:Hp) (q:Str),F8 k (A.deeper (PySem.W.envX q sc s.heap.objs.size f (.ref c') (Q1 caps)))->DE (cxL P w K mg base (ps++caps.map (·.name)) q sc f c' caps A outer s H) H body wb)
  (hw:∀rs r,rs.length=ps.length->sp rs r->∃(ds:M D) (d:D),rs=ds.map R.st/\r=.st d/\wb (ds.map (fun d=>some (Sl.dat d))++caps.map fun p=>some p.slot) fun r'=>r'=.st d):
  S7 P w K mg base J7 (k+1) f (PySem.W.kla_fn name qual params body sc (Q1 caps) pm (.ref c') ctv) ps (Q8o K ps.length (X1 K caps f c' (PySem.W.kla_obj name qual params body sc (Q1 caps) pm c' ctv)) sp):=by
 refine⟨fun vs H Q E h=>?_,fun A outer s H args us vs Q E hr e0 hb r iZ=>?_⟩
 ·obtain⟨rs,r,hl,al,_⟩:=h;rw[<-al.length];exact hl
 obtain⟨rs,r0,hl,al,ok,⟨hf,⟨oc,Pt,hc,qc⟩,j1⟩,h1,h2⟩:=iZ;have wx:vs.length=ps.length:=by rw[<-al.length];exact hl
 have mo:s.heap.NoLimit:=e0.mod.nolimit.keeps fun b o e=>(e0.bs b o e).1;have gf:s.heap.get? f=some _:=(e0.hok _ _ hf).1;have gc:s.heap.get? c'=some oc:=(e0.hok _ _ hc).1;obtain⟨xP,q,tq,gb,hq⟩:=qc;obtain⟨ds,d,jq,rfl,vS⟩:=hw (rs.map nrm) r0 (by rw[ag];exact hl) h1;have hS:V0 (?M) H:=fun c eV=>by
  obtain⟨p,hp,rfl⟩:=ar.mp eV;obtain⟨u,hu,_⟩:=(j1 p hp).cell;exact⟨_,_,(j1 p hp).at_,hu⟩
 refine W5p (fd:=PySem.W.kla_fn name qual params body sc (Q1 caps) pm (.ref c') ctv) hr.depth gf rfl S.co S.gen rfl ⟨c',oc,xP,tq,rfl,gc,gb,hq⟩ (hb _ _ _ _ ?_);refine dn S.nocell (fun y hy=>S.par _ (du hy).1) (fun h1 lJ nW=>⟨(mo).fresh _ nW,?_⟩) S.kind;have hk:∀b o,s.heap.get? b=?R->h1.get? b=?R:=fun b o e=>(nW.2 b (aC (aA e))).trans (ae _ e);show codeAny _ _ (.expr body (PySem.W.envX q sc s.heap.objs.size f (.ref c') (Q1 caps))) _ _;have I:=W8j (q:=q) (f:=f) (c':=c') (tk:=s.toks+(ps.zip us).length) S jl hr.hd e0 wx r j1 lJ hk;have hD:=cn A outer s (N4 (?M) H) q (hr.deeper _);have rep:C2 K (N4 (?M) H) (ds.map (fun d=>some (Sl.dat d))++caps.map fun p=>some p.slot) ((vs++caps.map (·.val)).map some) (N4 (?M) H):=by
  have bZ:ds.length=vs.length:=by
   have:=congrArg List.length jq;rw[ag,ag]at this;rw[<-this,al.length]
  have args:∀(i:Nat) (d:D),ds[i]?=some d->∃v,vs[i]?=some v/\A4 K H d v:=fun i d e=>by
   have:(rs.map nrm)[i]?=some (.st d):=by rw[jq,ai,e];rfl
   rw[ai]at this;cases e2:rs[i]? with
   |none=>rw[e2]at this;cases this
   |some x=>
    rw[e2]at this;have hx:nrm x=.st d:=az this;obtain⟨v,hv,q⟩:=al.get e2;refine⟨v,hv,?_⟩;cases x with
    |st y=>cases hx;exact q
    |nw _=>cases hx
    |bw _=>cases hx
    |dk _=>cases hx
    |dt _=>cases hx
    |ob _=>cases hx
    |cl _ _=>cases hx
    |ms _ _ _ _=>cases hx
  have Q5e:∀(i:Nat) (sl:Sl),(ds.map (fun d=>some (Sl.dat d))++caps.map fun p=>some p.slot)[i]?=some (some sl)->∃v,((vs++caps.map (·.val)).map some)[i]?=some (some v)/\Z8 K (N4 (?M) H) (N4 (?M) H) sl v/\sl.mut=false:=fun i sl e=>by
   by_cases hi:i<ds.length
   ·rw[aI (by rw[ag];exact hi),ai]at e;cases e1:ds[i]? with
    |none=>rw[e1]at e;cases e
    |some y=>
     rw[e1]at e;cases e;obtain⟨v,hv,q⟩:=args i y e1;refine⟨v,?_,A4.hid hS _ _ q,rfl⟩;rw[ai,aI (?A),hv];rfl
   ·rw[aT (by rw[ag];omega),ag,ai]at e;cases e1:caps[i-ds.length]? with
    |none=>rw[e1]at e;cases e
    |some p=>
     rw[e1]at e;cases e;obtain⟨q1,q2⟩:=(j1 p (aD e1)).rel.slot hS;refine⟨p.val,?_,q1,q2⟩;rw[ai,aT (?A),ai,<-bZ,e1];rfl
  refine⟨by simp[bZ],A5.refl _,fun i sl e=>let ⟨v,a,b,_⟩:=Q5e i sl e;⟨v,a,b⟩,fun i j s t v _ e1 _ m _ _ _=>?_⟩;obtain⟨_,_,_,z⟩:=Q5e i s e1;rw[z]at m;cases m
 refine PySem.W.kla_codeExpr (aS (hD.pe [] _ _ _ (fun v H'=>A5 (N4 (?M) H) H'/\A4 K H' d v) I ⟨_,rep,hD.mono _ _ _ (fun r' nY v H' sm ir=>by subst nY;exact⟨sm,ir⟩) vS⟩) (fun u s' hs=>?_) fun e s' hs=>(show False from hs).elim);obtain⟨v,H',J,rv,sm,q⟩:=hs;have out:∀b u,H' b=some u->b∉?M:=fun b u e ij=>by
  obtain⟨o,u',ou,_⟩:=hS b ij;have:=J.base.free b o (e0.hok _ _ ou).1 (Q8j ij) (by show b∉([]:M Af);simp);rw[this]at e;cases e
 have ef:A5 H' (showS (?M) H H'):=fun b u e=>by rw[Z2h (out b u e)];exact e
 have pB:=A5.showS hS sm;show CE outer P w H s Q u s';refine⟨v,showS (?M) H H',J.os,J.bare,?_,?_,rv,h2 v (showS (?M) H H') pB (show F7 K H (showS (?M) H H') (.st d) v from A4.mono (Kp.of ef) d v q)⟩
 ·have hn:∀b,H b=none->b∉?M:=fun b n hb=>by obtain⟨o,u,q,_⟩:=hS b hb;rw[n]at q;cases q
  have hid0:∀b,H b=none->N4 (?M) H b=none:=fun b n=>by rw[Q0v (hn b n)];exact n
  refine⟨fun b o e n hb hx=>J.base.keep b o e (hid0 b n) hb hx,fun b o e n hb hx=>J.base.slot b o e (hid0 b n) hb hx,fun b o e n hx=>?_,fun b o e hx=>J.base.there b o e hx,fun b xs e=>pB _ _ e,fun b o u e=>pB _ _ e,fun b ps e=>⟨#[],by rw[pB _ _ e];simp⟩⟩;rw[Z2h (hn b n)];exact J.base.free b o e (hid0 b n) hx
 ·intro b u e
  by_cases ij:b∈?M
  ·rw[Y9a ij]at e;obtain⟨o,u',ou,_⟩:=hS b ij;rw[ou]at e;cases e;have g:=(e0.hok _ _ ou).1;have:b∉frs outer:=fun z=>by have:=e0.frf b z;rw[ou]at this;cases this
   exact Z0c (J.base.keep b o g (Q8j ij) this (by show b∉([]:M Af);simp))
  ·rw[Z2h ij]at e;exact(J.hok b u e).stay (fun c v _ q=>q) (fun c v _ q=>ef _ _ q) fun c xs q=>ef _ _ q
structure J1 (P:Aj)(w:Ak)(K:Fg9)(mg:Str->Ac Ad)(base:Heap)(k n:Nat)(f:Af)(Φ:Hp->Prop)(sp:F4):Prop where
 ex:∃(fd:Ai) (ps:M Str),S7 P w K mg base J7 k f fd ps (Q8o K n Φ sp)/\ps.length=n/\U3 K fd ps []/\∀(h:Heap) (H:Hp),J8 P w H h->K.In h->Φ H->∃o,h.get? f=?R/\o.data=.func fd
section
variable {k i:Nat}{es:M Ag}{t:TA}
def V2y (hr:F8 k X.A)(hv:PE X (.Name x p) (Q5 i))(ha:PA X (e::es) t)(he:?I:=by rfl)(hpl:?S:=by rfl):
  PE X (.Call (.Name x p) (e::es) [] pos) (fun σ H Q=>∃f Φ sp,σ[i]?=some (some (.ref f))/\J1 X.prog X.w X.K X.mg X.base k n f Φ sp/\t σ H fun vs H1=>Q8o X.K n Φ sp vs H1 Q E0):=by
 intro ah s σ H Q I ⟨f,Φ,sp,h0,F,h⟩;obtain⟨fd,ps,F,hn,hb,here⟩:=F.ex;refine bj (B3 (hv ah s σ H (fun v H'=>v=.ref f/\t σ H' fun vs H1=>Q8o X.K n Φ sp vs H1 Q E0) I ⟨.ref f,h0,rfl,h⟩) fun u s1 bF=>?_);obtain⟨v,H1,I1,r,ev,q⟩:=bF;subst ev;obtain rfl:u=Value.ref f:=r;refine PySem.W.callWith_of (P:=fun h=>∃o,h.get? f=?R/\o.data=.func fd) (by rw[he];show((false||(backTo pos (starEach es X.env)).any (·.1))||false)=false;rw[hpl];rfl) (fun h ⟨o,e1,e2⟩=>⟨.frame,.inl rfl,?_⟩) ?_
 ·obtain⟨oc,od,dt,sl⟩:=o;have e2:dt=.func fd:=e2;subst e2;exact(PySem.W.Looks.ld (part:=none) e1).andThen .now
 rw[he];refine cJ ?_;have h2:=ha pos ah s1 σ H1 _ I1 q;rw[he]at h2;refine B3 h2 fun us s2 ⟨vs,H2,I2,r,q⟩=>⟨?_,?_⟩
 ·obtain⟨rs,r0,_,_,_,hΦ,_⟩:=q;exact here _ _ I2.hok I2.kIn hΦ
 ·have:=Y8e F hr hb .nil Z1u I2 r (show Q8o X.K n Φ sp (vs++[]) H2 Q E0 by rw[aZ];exact q);exact this
end
abbrev O6:=Nat->Af->(Hp->Prop)->F4->Prop
variable {FC fT dZ:O6}
section
variable {es:M Ag}{k i:Nat}
def Q0z (FC:O6)(n i:Nat)(wr:WA):WE:=fun τ Q=>∃f Φ sp,τ[i]?=some (some (.cl f Φ))/\FC n f Φ sp/\wr τ fun rs=>rs.all P0=true/\∃r,sp (rs.map nrm) r/\Q r
def Y0r (hr:F8 k X.A)(hv:PE X (.Name x p) (Q5 i))(ha:DA X H0 (e::es) wr)(he:?I:=by rfl)(hpl:?S:=by rfl):
  DE X H0 (.Call (.Name x p) (e::es) [] pos) (Q0z (J1 X.prog X.w X.K X.mg X.base k) (e::es).length i wr) where
 mono:=fun τ P Q f cG=>(by obtain⟨g,Φ,sp,h0,F,h⟩:=cG;exact⟨g,Φ,sp,h0,F,ha.mono τ _ _ (fun rs⟨ok,r,h1,h2⟩=>⟨ok,r,h1,f r h2⟩) h⟩)
 pe:=R0 (V2y (n:=(e::es).length) hr hv ha.pa he hpl) fun σ H Q dF=>by
  obtain⟨τ,hR,f,Φ,sp,h0,F,h⟩:=dF;obtain⟨v,hv,rv⟩:=hR.here i _ h0;obtain⟨rfl,hΦ,hM⟩:v=.ref f/\Φ H/\Q6c Φ:=rv;exact⟨f,Φ,sp,hv,F,τ,hR,ha.mono τ _ _ (fun rs ff vs H1 s1 dA=>(by obtain⟨mH,ok,r,h1,h2⟩:=ff;exact⟨rs,r,mH,dA.v,ok,hM _ _ (Kp.of s1) hΦ,h1,fun v H' s2 ir=>h2 v H' (s1.trans s2) (ir.older s1)⟩)) (ha.len τ _ h)⟩
@[simp] theorem Q7a {Q:R->Prop}:Q0z FC n i wr τ Q=∃f Φ sp,τ[i]?=some (some (.cl f Φ))/\FC n f Φ sp/\wr τ fun rs=>rs.all P0=true/\∃r,sp (rs.map nrm) r/\Q r:=rfl
end
section
variable {body:Ag}{c:Af}{k:Nat}
def Q9p (FC:O6)(n:Nat)(sp:F4):WE:=fun _ Q=>∀f Φ,FC n f Φ sp->Q4b Φ->Q (.cl f Φ)
def Y0w (hT:H0 Pt=some .tab)(hB:Q0m X.mg X.base)(eJ:X.env.code=.ref c)(hC:PySem.W.codeHdIn X.K c Pt=true)(iO:closureFor sc X.env=pure [])(S:Q4d ps [] sc)
  (eK:∀(qual:Str) (pm cd ct:Ad) (us:M Ad),us.length=ps.length->bindArgs (PySem.W.kla_fn "<lambda>" qual params body sc [] pm cd ct) ⟨us,[]⟩=pure (ps.zip us))
  (cn:∀(f c':Af) (A:Ah) (outer:M Env) (s:Ae) (H:Hp) (q:Str),F8 k (A.deeper (PySem.W.envX q sc s.heap.objs.size f (.ref c') []))->DE (cxL X.prog X.w X.K X.mg X.base ps q sc f c' [] A outer s H) H body wb)
  (hw:∀rs r,rs.length=ps.length->sp rs r->∃(ds:M D) (d:D),rs=ds.map R.st/\r=.st d/\wb (ds.map (fun d=>some (Sl.dat d))) fun r'=>r'=.st d) (hd:defaultsOf params X.env=([],[]):=by rfl):
  DE X H0 (.Lambda params body sc pos) (Q9p (J1 X.prog X.w X.K X.mg X.base (k+1)) ps.length sp) where
 mono:=fun τ P Q g h f Φ F hH=>g _ (h f Φ F hH)
 pe:=R0 (Q8z hB eJ hC iO hd) fun σ H Q fE=>by
  obtain⟨τ,hR,h⟩:=fE;refine⟨hR.same _ _ hT,fun f c' oc ctv H' sm fQ hf eV jp _=>?_⟩;have LP:X1 X.K [] f c' (W4 X params body sc [] c' ctv) H':=⟨jp,⟨oc,Pt,eV,fQ⟩,fun p hp=>absurd hp ?H⟩
  have F0:=Q8h (P:=X.prog) (w:=X.w) (K:=X.K) (mg:=X.mg) (base:=X.base) (k:=k) (f:=f) (c':=c') (name:="<lambda>") (qual:=X.env.qual++"<lambda>") (params:=params) (body:=body) (sc:=sc) (pm:=(X.mg "__name__").getD .none) (ctv:=ctv) (ps:=ps) (caps:=[]) (sp:=sp) (wb:=wb) S dL
   (fun A outer s H q hr=>by rw[cw,aZ];exact cn f c' A outer s H q hr) (fun rs r hl hs=>by obtain⟨ds,d,e1,e2,e3⟩:=hw rs r hl hs;exact⟨ds,d,e1,e2,by rw[cw,aZ];exact e3⟩)
  refine h f (X1 X.K [] f c' (W4 X params body sc [] c' ctv)) ⟨_,ps,F0,rfl,U3.all (eK _ _ _ _),fun hh Hh hok _ hΦ=>⟨_,(hok _ _ hΦ.1).1,rfl⟩⟩ (X1.hid0 (fun u z=>by cases z)) (.ref f) H' sm ⟨rfl,LP,X1.mono⟩
@[simp] theorem V7n {Q:R->Prop}:Q9p FC n sp τ Q=∀f Φ,FC n f Φ sp->Q4b Φ->Q (.cl f Φ):=rfl
end
def W3 (caps:M U4)(H:Hp):Hp:=fun b=>match caps.find? (fun p=>p.addr==b)with
 |some p=>some (.frz p.obj X2)
 |none=>H b
theorem Q5d {p:U4}(nd:(?M).Nodup)(hp:p∈caps):W3 caps H p.addr=some (.frz p.obj X2):=by grind [W3,jN,eZ,Y2f]
theorem Q7w {b:Af}(h:b∉?M):W3 caps H b=H b:=by grind [W3,jN,eZ]
structure Q2x (X:Cx)(s:Ae)(p:U4):Prop where
 look:X.env.cells.lookup p.name=some p.addr
 own:X.fn p.name=true
 get:s.heap.get? p.addr=some p.obj
 cell:∃u,p.obj.data=.cell (some u)/\C9 p.val u
section
variable {σ:St}
theorem Z0j (I:?C):∀{caps:M U4},(caps.map (·.name)).Nodup->(∀p∈caps,Q2x X s p)->(?M).Nodup
 |[],_,_=>dL
 |p::r,nd,h=>by
  rw[ax,bq]at nd ⊢;refine⟨fun hm=>?_,Z0j I nd.2 fun q hq=>h q (aj _ hq)⟩;obtain⟨q,hq,e⟩:=ar.mp hm;have e:q.addr=p.addr:=e;have h1:=(h p ak).look;have h2:=(h q (aj _ hq)).look;rw[e]at h2;exact nd.1 (ar.mpr ⟨q,hq,I.ok.inj _ _ _ h2 h1⟩)
def Q6f (I:?C)(hc:∀p∈caps,Q2x X s p):A5 H (W3 caps H):=fun b u e=>by
 rw[Q7w]
 ·exact e
 ·intro hb;obtain⟨p,hp,rfl⟩:=ar.mp hb;rw[I.freeC _ _ (hc p hp).look]at e;cases e
def Z4h (nd:(?M).Nodup)(hc:∀p∈caps,Q2x X s p):V0 (?M) (W3 caps H):=fun c mO=>by
 obtain⟨p,hp,rfl⟩:=ar.mp mO;obtain⟨u,hu,_⟩:=(hc p hp).cell;exact⟨p.obj,some u,Q5d nd hp,hu⟩
def Y4e (I:?C)(nd:(?M).Nodup)(hc:∀p∈caps,Q2x X s p):Q5z X.prog X.w X.K X.mg X.base X.A X.stack s (W3 caps H):=by
 have e0:=I.env0;have ge:∀p∈caps,X.s₀.heap.objs.size<=p.addr:=fun p hp=>I.ok.cab _ _ (hc p hp).own (hc p hp).look;have keep:∀b,b∉?M->H b=none->W3 caps H b=none:=fun b hb n=>by rw[Q7w hb];exact n
 refine⟨e0.frames,e0.mod,fun b o e=>⟨(e0.bs b o e).1,keep b (fun hb=>?_) (e0.bs b o e).2⟩,e0.bsz,e0.funs,fun b hb=>keep b (fun iP=>?_) (e0.frf b hb),fun b u e=>?_,e0.bare⟩
 ·obtain⟨p,hp,rfl⟩:=ar.mp hb;exact absurd (aB (aA e) I.ok.bsz) (fR.mpr (ge p hp))
 ·obtain⟨p,hp,rfl⟩:=ar.mp iP;rcases au.mp (I.stkSub _ hb)with z |z
  ·exact I.cne _ _ (hc p hp).look z
  ·obtain⟨_,o,ho,_⟩:=I.ok.funs.mem z;exact absurd (aA ho) (fR.mpr (ge p hp))
 ·by_cases hb:b∈?M
  ·obtain⟨p,hp,rfl⟩:=ar.mp hb;rw[Q5d nd hp]at e;cases e;exact Z0c (hc p hp).get
  ·rw[Q7w hb]at e;exact(I.hok b u e).stay (fun c v _ q=>q) (fun c v _ q=>Q6f I hc _ _ q) fun c xs q=>Q6f I hc _ _ q
theorem Y8f {CX:CXT}{k:Nat}    {sp:Sp}{Q:VK}{E:XK}   (F:S7 X.prog X.w X.K X.mg X.base J7 k f fd ps sp)(hr:F8 k X.A)(hb:U3 X.K fd ps [])
  (I:?C) (nd:(?M).Nodup) (hc:∀p∈caps,Q2x X s p) (r:C3 vs us) (h:sp vs (W3 caps H) (fun v H'=>A5 (W3 caps H) H'/\Q v (N4 (?M) H')) E):wpAny ?D X.A (call (.ref f) us) (EP X ah σ Q) X.xe s:=by
 have hl:us.length=ps.length:=by rw[<-r.length];exact F.len _ _ _ _ h
 have iP:BindsTo s fd ⟨us,[]⟩ (ps.zip us):=by have:=hb s us I.kIn (by rw[aZ];exact hl);rw[aZ]at this;exact this
 refine wpAny_call (fz (F.run X.A X.stack s (W3 caps H) ⟨us,[]⟩ us vs _ E hr (Y4e I nd hc) iP r h) fun r s' hq=>?_);cases r with
 |error e=>exact(show False from hq).elim
 |ok fl=>
  cases fl with
  |next=>exact False.elim hq
  |brk=>exact False.elim hq
  |cont=>exact False.elim hq
  |ret u=>
   obtain⟨v,H',os,bare,un,hok,rv,sm,q⟩:=hq;have hS:V0 (?M) H':=fun c mO=>by
    obtain⟨o,u,e1,e2⟩:=Z4h (H:=H) nd hc c mO;exact⟨o,u,un.frzs _ _ _ e1,e2⟩
   have mf:∀b,H b=none->b∉?M->W3 caps H b=none:=fun b n hb=>by rw[Q7w hb];exact n
   have kept:∀p∈caps,s'.heap.get? p.addr=some p.obj:=fun p hp=>(hok _ _ (un.frzs _ _ _ (Q5d nd hp))).1;have Q3p:∀b u,H b=some u->b∉?M:=fun b u e hb=>by
    obtain⟨p,hp,rfl⟩:=ar.mp hb;rw[I.freeC _ _ (hc p hp).look]at e;cases e
   have iS:∀b u,H b=some u->N4 (?M) H' b=some u:=fun b u e=>by
    rw[Q0v (Q3p b u e)];exact sm _ _ (Q6f I hc _ _ e)
   refine I.after ⟨v,N4 (?M) H',os,bare,⟨fun b o e n hb hx=>?_,fun b o e n hb hx=>?_,fun b o e n hx=>?_,fun b o e hx=>un.there b o e hx,fun b xs e=>iS _ _ e,fun b o u e=>iS _ _ e,fun b ps e=>⟨#[],by rw[iS _ _ e];simp⟩⟩,J8.hid hok hS fun _ _ q=>q,rv,q⟩
   ·by_cases ij:b∈?M
    ·obtain⟨p,hp,rfl⟩:=ar.mp ij;rw[(hc p hp).get]at e;cases e;exact kept p hp
    ·exact un.keep b o e (mf b n ij) hb hx
   ·by_cases ij:b∈?M
    ·obtain⟨p,hp,rfl⟩:=ar.mp ij;rw[(hc p hp).get]at e;cases e;exact⟨_,kept p hp⟩
    ·exact un.slot b o e (mf b n ij) hb hx
   ·by_cases ij:b∈?M
    ·exact Q8j ij
    ·rw[Q0v ij];exact un.free b o e (mf b n ij) hx
end
def Q2 (wb:WE)(di:M Sl):F4:=fun rs r=>∃(ds:M D) (d:D),rs=ds.map R.st/\r=.st d/\wb (ds.map (fun d=>some (Sl.dat d))++di.map some) fun r'=>r'=.st d
def capS:Sl->Prop
 |.dat _=>True
 |.cl _ Φ=>Q4b Φ
 |_=>False
def Q1c (τ:C8):M (Str×Nat)->M Sl->Prop
 |[],di=>di=[]
 |c::cs,di=>∃s r,di=s::r/\τ[c.2]?=some (some s)/\capS s/\Q1c τ cs r
theorem Q8d (I:?C)(hR:C2 X.K H0 τ σ H):∀{cs:M (Str×Nat)}{di:M Sl},(∀c∈cs,X.N[c.2]?=some c.1/\X.env.kindOf c.1=some .cell/\X.fn c.1=true)->Q1c τ cs di ->
  ∃caps:M U4,caps.map (·.name)=cs.map (·.1)/\caps.map (·.slot)=di/\∀p∈caps,Q2x X s p/\Q4z X.K H p.slot p.val
 |[],di,_,h=>by
  have h:di=[]:=h;subst h;exact⟨[],rfl,rfl,fun p hp=>absurd hp ?H⟩
 |c::cs,di,hk,h=>by
  obtain⟨sl,r,rfl,e,hc,h⟩:=h;obtain⟨caps,h1,h2,h3⟩:=Q8d I hR (fun c hc=>hk c (aj _ hc)) h;obtain⟨k1,k2,k3⟩:=hk c ak;obtain⟨v,hv,rv⟩:=hR.here c.2 sl e;obtain⟨m,hn,hl⟩:=I.loc;obtain⟨u,ru,lk⟩:=hl c.2 c.1 v k1 hv (.inr (.inl k2));rcases lk with⟨z,_⟩ |⟨_,ca,gg,o,ho,hd⟩
  ·rw[k2]at z;cases z
  refine⟨⟨c.1,ca,o,v,sl⟩::caps,by rw[ax,ax,h1],by rw[ax,h2],fun p hp=>?_⟩;rcases au.mp hp with rfl |hp
  ·refine⟨⟨gg,k3,ho,⟨u,hd,ru⟩⟩,?_⟩;cases sl with
   |dat d=>exact rv
   |cl a Φ=>exact⟨rv.1,rv.2.1,rv.2.2,hc⟩
   |own _=>exact hc.elim
   |bor _=>exact hc.elim
   |bd _=>exact hc.elim
   |dk _=>exact hc.elim
   |dt _=>exact hc.elim
   |ob _=>exact hc.elim
   |ins _ _ _=>exact hc.elim
   |ll _ _=>exact hc.elim
  ·exact h3 p hp
theorem Q8c {cs:M (Str×Af)}:∀{caps:M U4}{cs:M (Str×Af)},caps.map (·.name)=cs.map (·.1)->(∀p∈caps,X.env.cells.lookup p.name=some p.addr)->(∀y∈cs,X.env.cells.lookup y.1=some y.2)->Q1 caps=cs
 |[],[],_,_,_=>rfl
 |[],_::_,h,_,_=>by cases h
 |_::_,[],h,_,_=>by cases h
 |p::r,y::cs,h,h1,h2=>by
  rw[ax,ax,dv]at h;have e1:=h1 p ak;have e2:=h2 y ak;rw[h.1,e2]at e1;show(p.name,p.addr)::Q1 r=y::cs;rw[Q8c (cs:=cs) h.2 (fun q hq=>h1 q (aj _ hq)) fun z hz=>h2 z (aj _ hz),h.1,<-az e1]
def Z2x (FC:O6)(n:Nat)(cs:M (Str×Nat))(wb:WE)(sp:F4)(we:WE):WE:=fun τ Q=>we τ fun r1=>P0 r1=true/\∃di,Q1c τ cs di/\∀f Φ,FC n f Φ (Q2 wb di)->∃d,sp [nrm r1,.cl f Φ] (.st d)/\Q (.st d)
section
variable {k kl:Nat}{nN:M Str}{dw:Pos}{body:Ag}{c:Af}
def Y0t (F:S7 X.prog X.w X.K X.mg X.base J7 k f fd nN (Q4m X.K 2 sp))(hr:F8 k X.A)(hg:Gl X x)(hm:X.mg x=some (.ref f))(hk:PySem.W.keepIn X.K (.ref f)=true)(hb:U3 X.K fd nN [])(ha:DE X H0 e we)
  (hT:H0 Pt=some .tab) (hB:Q0m X.mg X.base) (eJ:X.env.code=.ref c) (hC:PySem.W.codeHdIn X.K c Pt=true) (iO:closureFor sc X.env=pure clos) (ke:cs.map (·.1)=clos.map (·.1)) (gr:∀y∈clos,X.env.cells.lookup y.1=some y.2)
  (gR:∀c∈cs,X.N[c.2]?=some c.1/\X.env.kindOf c.1=some .cell/\X.fn c.1=true) (S:Q4d ps (cs.map (·.1)) sc)
  (eK:∀(qual:Str) (cl:M (Str×Af)) (pm cd ct:Ad) (us:M Ad),us.length=ps.length->bindArgs (PySem.W.kla_fn "<lambda>" qual params body sc cl pm cd ct) ⟨us,[]⟩=pure (ps.zip us))
  (cn:∀(caps:M U4) (f c':Af) (A:Ah) (outer:M Env) (s:Ae) (H:Hp) (q:Str),caps.map (·.name)=cs.map (·.1)->F8 kl (A.deeper (PySem.W.envX q sc s.heap.objs.size f (.ref c') (Q1 caps)))->DE (cxL X.prog X.w X.K X.mg X.base (ps++cs.map (·.1)) q sc f c' caps A outer s H) H body wb)
  (ga:(x==("__debug__":Str))=false:=by decide) (he:starEach [e,.Lambda params body sc dw] X.env=(false,eval e X.env)::starEach [.Lambda params body sc dw] X.env:=by rfl) (rQ:starEach [.Lambda params body sc dw] X.env=(false,eval (.Lambda params body sc dw) X.env)::starEach [] X.env:=by rfl)
  (hpl:(backTo pos (starEach [.Lambda params body sc dw] X.env)).any (·.1)=false:=by rfl) (hd:defaultsOf params X.env=([],[]):=by rfl):
  DE X H0 (.Call (.Name x p) [e,.Lambda params body sc dw] [] pos) (Z2x (J1 X.prog X.w X.K X.mg X.base (kl+1)) ps.length cs wb sp we) where
 mono:=fun τ P Q g h=>ha.mono τ _ _ (fun r1⟨ok,di,h1,h2⟩=>⟨ok,di,h1,fun f Φ F=>let ⟨d,a,b⟩:=h2 f Φ F;⟨d,a,g _ b⟩⟩) h
 pe:=by
  intro ah s σ H Q I ⟨τ,hR,h⟩;refine bj (Z1c I hg hm ?_ ga);have sh:PA X [e,.Lambda params body sc dw] (Q7f _ (Q7f _ Z8t)):=Q1w (es:=[.Lambda params body sc dw]) ha.pe (Q1w (es:=[]) (Q8z (pos:=dw) hB eJ hC iO hd) Q4q rQ) he;refine hZ (h₀:=X.base) I.ok.mod.kin hk (B3 (sh pos ah s σ H (fun vs H1=>A5 H H1/\∃v1 fa c' oc ctv r1,vs=[v1,.ref fa]/\F7 X.K H H1 r1 v1/\P0 r1=true/\Q5c oc/\H1 c'=some (.frz oc (.own Pt))/\H1 fa=some (.frz (W4 X params body sc clos c' ctv) X2) /\
   ∃di,Q1c τ cs di/\∀f Φ,J1 X.prog X.w X.K X.mg X.base (kl+1) ps.length f Φ (Q2 wb di)->∃d,sp [nrm r1,.cl f Φ] (.st d)/\∀v H',A5 H H'->F7 X.K H H' (.st d) v->Q v H') I ?_) fun us s1 ⟨vs,H1,I1,r,lu,q⟩=>⟨I1.kIn,?_⟩) he hpl
  ·refine⟨τ,hR,ha.mono τ _ _ (fun r1 ⟨ok,di,h1,h2⟩ v1 H1 s1 ir=>?_) h⟩;refine⟨s1 _ _ (hR.same _ _ hT),fun fa c' oc ctv H' sm fQ hf eV jp _=>?_⟩;exact⟨s1.trans sm,v1,fa,c',oc,ctv,r1,rfl,ir.mono sm,ok,fQ,eV,jp,di,h1,h2⟩
  ·obtain⟨v1,fa,c',oc,ctv,r1,rfl,ir,ok,fQ,eV,jp,di,h1,h2⟩:=q;obtain⟨caps,n1,n2,ku⟩:=Q8d I1 (hR.mono lu) gR h1;have gg:∀p∈caps,Q2x X s1 p:=fun p hp=>(ku p hp).1;have lC:(caps.map (·.name)).Nodup:=by rw[n1];exact(bg.mp S.nd).2.1
   have nd:=Z0j I1 lC gg;have hL:Q1 caps=clos:=Q8c (cs:=clos) (n1.trans ke) (fun p hp=>(gg p hp).look) gr;have gH:=Q6f I1 gg;subst hL;have LP:X1 X.K caps fa c' (W4 X params body sc (Q1 caps) c' ctv) (W3 caps H1):=⟨gH _ _ jp,⟨oc,Pt,gH _ _ eV,fQ⟩,fun p hp=>⟨Q5d nd hp,(gg p hp).cell,(ku p hp).2.mono (Kp.of gH)⟩⟩
   have F0:=Q8h (P:=X.prog) (w:=X.w) (K:=X.K) (mg:=X.mg) (base:=X.base) (k:=kl) (f:=fa) (c':=c') (name:="<lambda>") (qual:=X.env.qual++"<lambda>") (params:=params) (body:=body) (sc:=sc) (pm:=(X.mg "__name__").getD .none) (ctv:=ctv) (ps:=ps) (caps:=caps) (sp:=Q2 wb di) (wb:=wb) (by rw[n1];exact S) nd
    (fun A outer s H q hr=>by rw[n1];exact cn caps fa c' A outer s H q n1 hr) (fun rs r _ hs=>by
     obtain⟨ds,d,e1,e2,e3⟩:=hs;refine⟨ds,d,e1,e2,?_⟩;have:di.map some=caps.map fun p=>some p.slot:=by rw[<-n2,aJ];rfl
     rw[<-this];exact e3)
   obtain⟨d,g1,g2⟩:=h2 fa _ ⟨_,ps,F0,rfl,U3.all (eK _ _ _ _ _),fun hh Hh hok _ hΦ=>⟨_,(hok _ _ hΦ.1).1,rfl⟩⟩;refine Y8f (CX:=J7) (E:=E0) F hr hb I1 nd gg r ⟨[r1,.cl fa _],.st d,rfl,⟨v1,_,rfl,(ir.mono gH).v,_,_,rfl,⟨rfl,LP,X1.mono⟩,rfl⟩,by rw[gZ,ok];rfl,g1,fun v H' ef iv=>⟨ef,?_⟩⟩;have hS:V0 (?M) H':=fun c mO=>by
    obtain⟨o,u,e1,e2⟩:=Z4h (H:=H1) nd gg c mO;exact⟨o,u,ef _ _ e1,e2⟩
   have Q3p:∀b u,H1 b=some u->b∉?M:=fun b u e hb=>by
    obtain⟨p,hp,rfl⟩:=ar.mp hb;rw[I1.freeC _ _ (gg p hp).look]at e;cases e
   exact g2 v _ (fun b u e=>by rw[Q0v (Q3p b u (lu _ _ e))];exact ef _ _ (gH _ _ (lu _ _ e))) (show A4 X.K _ d v from A4.hid hS d v iv)
@[simp] theorem Y8i {Q:R->Prop}:Z2x FC n cs wb sp we τ Q=we τ fun r1=>P0 r1=true/\∃di,Q1c τ cs di/\∀f Φ,FC n f Φ (Q2 wb di)->∃d,sp [nrm r1,.cl f Φ] (.st d)/\Q (.st d):=rfl
end
theorem W9l {w:Ak}{K:Fg9}  {k:Nat}{fa:Af}   {sp:Sp}{s₁:Ae}{vs:M Ad}  
  (KX:K.In s₁.heap) (lJ:s₁.heap.Ns mainGlobals mg) (hb:s₁.heap.Ns builtinsNs mb) (x8:∀x:Str,x≠"__name__"->mb x=bootBuiltins x) (rG:s₁.heap.NoLimit) (wZ:Q0m mg s₁.heap) (hg:s₁.gens=#[])
  (lF:∀Pt∈ts,s₁.heap.get? Pt=some (PySem.W.tabObj #[])) (gb:∀Pt∈ts,∃c,PySem.W.codeHdIn K c Pt=true) (xw:∀Pt∈ts,K.lookup Pt=none)
  (ha:s₁.heap.get? a=some {cls:=.type "list",data:=.seq vs.toArray}) (hi:IntsAre vs ns) (hl:ns.length<=sizeLine) (hr:F8 k callerA)
  (F:∀base:Heap,K.In base->base.Ns mainGlobals mg->Q0m mg base->S7 P w K mg base J7 k fa fd [x] sp) (eK:∀(s:Ae) (u:Ad),BindsTo s fd ⟨[u],[]⟩ [(x,u)])
  (iZ:∀H:Hp,(∀Pt∈ts,H Pt=some .tab)->FzL K H a (ns.map V.int)->sp [.ref a] H (fun v H'=>v=.bl true/\∀Pt∈ts,H' Pt=some .tab) fun _ _ _=>False):
  codeAny ?T callerA (.call (.ref fa) ⟨[.ref a],[]⟩) (fun r s'=>r=.ok (.ret (.bool true))/\OldK s₁.heap s'.heap/\s'.os=s₁.os/\AllBare s'.gens) s₁:=by
 have rv:=W0w hi;have qN:=hi.length;have core:∀H:Hp,(∀b u,H b=some u->(b∈ts/\u=.tab)\/(b=a/\K.lookup a=none/\u=.frz {cls:=.type "list",data:=.seq vs.toArray} (.lst (ns.map V.int))))->(∀Pt∈ts,H Pt=some .tab)->FzL K H a (ns.map V.int) ->
   codeAny ?T callerA (.call (.ref fa) ⟨[.ref a],[]⟩) (fun r s'=>r=.ok (.ret (.bool true))/\OldK s₁.heap s'.heap/\s'.os=s₁.os/\AllBare s'.gens) s₁:=by
  intro H hO hT hS;have hok:J8 P w H s₁.heap:=fun b u e=>by
   rcases hO b u e with⟨hb,rfl⟩ |⟨rfl,_,rfl⟩
   ·exact⟨#[],lF b hb,trivial,fun pos cv q=>by cases q⟩
   ·exact⟨ha,by rw[ag];exact hl,vs,_,rv,ha⟩
  have gO:∀{b:Af}{o:Obj},s₁.heap.get? b=?R->H b=none->(Q2g s₁.heap H).get? b=?R:=fun e n=>W7s e n;have km:∀{b:Af}{o:Obj},s₁.heap.get? b=?R->(∀xs,o.data≠.fields xs)->(∀xs n,o.data≠.seq xs n)->H b=none:=fun {b o} e d1 d2=>by
   cases q:H b with
   |none=>rfl
   |some u=>
    rcases hO b u q with⟨hb,rfl⟩ |⟨rfl,_,rfl⟩
    ·rw[lF b hb]at e;cases e;exact absurd rfl (d1 _)
    ·rw[ha]at e;cases e;exact absurd rfl (d2 _ _)
  have pE:∀{b:Af}{m:Str->Ac Ad},s₁.heap.Ns b m->(Q2g s₁.heap H).Ns b m:=fun {b m} cG=>(by obtain⟨o,es,ep,e,d,r⟩:=cG;exact⟨o,es,ep,gO e (km e (fun xs z=>by rw[d]at z;cases z) (fun xs n z=>by rw[d]at z;cases z)),d,r⟩)
  have tU:K.In (Q2g s₁.heap H):=fun b o e=>gO (KX b o e) (by
   cases q:H b with
   |none=>rfl
   |some u=>
    rcases hO b u q with⟨hb,rfl⟩ |⟨rfl,hk,rfl⟩
    ·rw[xw b hb]at e;cases e
    ·rw[hk]at e;cases e)
  have hM:Mod K mg (Q2g s₁.heap H):=⟨tU,pE lJ,⟨mb,pE hb,x8⟩,let ⟨mc,h1,h2⟩:=rG;⟨mc,pE h1,h2⟩⟩
  have hBM:Q0m mg (Q2g s₁.heap H):=by
   obtain⟨bm,ob,b1,b2,b3,b4,b5,b6⟩:=wZ;exact⟨bm,ob,b1,b2,gO b3 (km b3 (fun xs z=>by rw[b6]at z;cases z) (fun xs n z=>by rw[b6]at z;cases z)),b4,b5,b6⟩
  have e0:Q5z P w K mg (Q2g s₁.heap H) callerA [] s₁ H:=⟨rfl,hM,fun b o e=>V1w e,Nat.le_of_eq (W7t _ _),trivial,fun b hb=>absurd (show b∈([]:M Af)from hb) ?H,hok,.of_eq hg⟩
  refine fz ((F _ tU (pE lJ) hBM).run callerA [] s₁ H ⟨[.ref a],[]⟩ [.ref a] [.ref a] _ _ hr e0 (eK s₁ (.ref a)) (.cons rfl .nil) (iZ H hT hS)) fun r s' h=>?_;cases r with
  |error e=>exact(show False from h).elim
  |ok fl=>
   cases fl with
   |next=>exact False.elim h
   |brk=>exact False.elim h
   |cont=>exact False.elim h
   |ret u=>
    obtain⟨v,H',os,bare,un,oa,r',q,xj⟩:=h;have q':v=.bl true:=q;subst q';obtain rfl:u=Value.bool true:=r';refine⟨rfl,⟨fun b o e=>?_,fun b o e=>un.there b o e ?H⟩,os,bare⟩;cases q:H b with
    |none=>exact .inl (un.keep b o e q (by intro z;exact absurd (show b∈([]:M Af)from z) ?H) ?H)
    |some u=>
     rcases hO b u q with⟨hb,rfl⟩ |⟨rfl,hk,rfl⟩
     ·obtain⟨ps,g1,_⟩:=(show N1 P w H' s'.heap b .tab from oa b _ (xj b hb))
      obtain⟨c,hc⟩:=gb b hb;have e1:=lF b hb;rw[e]at e1;cases e1;refine .inr (.inl ⟨((sI KX hc).tab (lF b hb)).isCodeTable,rfl,#[],ps,rfl,?_⟩);rw[g1];simp
     ·have z2:=un.frzs b _ _ q;obtain⟨e2,_⟩:=oa b _ z2;rw[ha]at e;cases e;exact .inl e2
 have vp:a∉ts:=fun hb=>by
  have:=lF a hb;rw[ha]at this;cases this
 cases hk:K.lookup a with
 |some o=>
  have e:=KX a o hk;rw[ha]at e;cases e;refine core (fun b=>if b∈ts then some .tab else none) (fun b u e=>?_) (fun Pt h=>aP h) (.inr ⟨_,vs.toArray,_,hk,rfl,rfl,rfl,by rw[aF,qN];exact hl,by simpa using rv⟩)
  by_cases hb:b∈ts
  ·have e:=(aP hb).symm.trans e;cases e;exact .inl ⟨hb,rfl⟩
  ·have e:=(aK hb).symm.trans e;cases e
 |none=>
  refine core (fun b=>if b∈ts then some .tab else if b=a then some (.frz {cls:=.type "list",data:=.seq vs.toArray} (.lst (ns.map V.int)))else none) (fun b u e=>?_) (fun Pt h=>aP h) (.inl ⟨_,(aK vp).trans (aP rfl)⟩)
  by_cases hb:b∈ts
  ·have e:=(aP hb).symm.trans e;cases e;exact .inl ⟨hb,rfl⟩
  ·have e:=(aK hb).symm.trans e
   by_cases ha:b=a
   ·have e:=(aP ha).symm.trans e;cases e;exact .inr ⟨ha,hk,rfl⟩
   ·have e:=(aK ha).symm.trans e;cases e
def J0r {l:PySem.W.OpenLaw}{k:Nat}     {d:DefRec}{K:Params->Fg9}{sp:Ak->Sp}  
  (hn:l.most=some n) (wn:n<=sizeLine) (kX:d.params.defaults=[]) (hr:F8 k callerA)
  (hY:∀(w:Ak) (h:Heap),YP w h->(K w.params).In h) (s9:∀(w:Ak) (h:Heap),YP w h->∀Pt∈ts,h.get? Pt=some (PySem.W.tabObj #[]))
  (F:∀(w:Ak) (mg:Str->Ac Ad) (fa:Af) (h:Heap),(K w.params).In h->h.Ns mainGlobals mg->mg d.name=some (.ref fa) ->
   (∀Pt∈ts,(∃c,PySem.W.codeHdIn (K w.params) c Pt=true)/\(K w.params).lookup Pt=none) /\
   ∃fd:Ai,(∀(s:Ae) (u:Ad),BindsTo s fd ⟨[u],[]⟩ [(x,u)]) /\
    ∀base:Heap,(K w.params).In base->base.Ns mainGlobals mg->Q0m mg base->S7 l.prog w (K w.params) mg base J7 k fa fd [x] (sp w))
  (iZ:∀(w:Ak) (H:Hp) (a:Af) (ns:M Int),ns.length<=n->(∀Pt∈ts,H Pt=some .tab)->FzL (K w.params) H a (ns.map V.int)->sp w [.ref a] H (fun v H'=>v=.bl true/\∀Pt∈ts,H' Pt=some .tab) fun _ _ _=>False):
  PySem.W.WalkO q iX XP YP l.row.toRowW d [] (fun f vs=>PySem.call f vs):=by
 refine Att.attach_call hn kX fun w s₀ s₁ mg mb fa o pm cd dW a vs ns G Ab ho hd gb og mF ka bZ hg=>?_;have KX:=hY w _ Ab;obtain⟨lF,fd,hb,hF⟩:=F w mg fa _ KX G.T.g og;exact W9l KX G.T.g G.T.b G.T.builtins G.T.nolimit G.T.bmain hg (s9 w _ Ab) (fun Pt h=>(lF Pt h).1) (fun Pt h=>(lF Pt h).2) mF ka (aV bZ wn) hr hF hb fun H hT hS=>iZ w H a ns bZ hT hS
def Q3b (ts:M Af)(H:Hp):Prop:=∀Pt∈ts,H Pt=some .tab
abbrev E6:=M R->(R->Prop)->Prop
def Q6s (K:Fg9)(ts:M Af)(n:Nat)(sp:E6):Sp:=fun vs H Q _=>∃(rs:M R) (P:R->Prop),rs.length=n/\O5 K (fun _=>none) H rs vs/\rs.all P0=true/\Q3b ts H/\sp (rs.map nrm) P/\∀r v H',P r->A5 H H'->F7 K H H' r v->Q v H'
abbrev FnT (P:Aj)(w:Ak)(K:Fg9)(mg:Str->Ac Ad)(base:Heap)(ts:M Af)(k:Nat)(f:Af)(fd:Ai)(ps:M Str)(sp:E6):Prop:=S7 P w K mg base J7 k f fd ps (Q6s K ts ps.length sp)
structure Q0n (K:Fg9)(x qual:Str)(st:Al)(f:Af)(fd:Ai)(c Pt:Af):Prop where
 ex:∃(oc:Ad) (od:Ac Af) (kV dW pm:Ad) (an:Ac Af) (ct:Ad) (fS:Array (Ac Ad)),
  fd=PySem.W.fnOf x qual (Y1 st) (N3 st) (C6 st) .none kV dW pm an (.ref c) ct/\K.lookup f=some ⟨oc,od,.func fd,fS⟩/\PySem.W.codeIn K (.ref c) qual=true
 hd:PySem.W.codeHdIn K c Pt=true
abbrev M0 (P:R->Prop):F6:={nx:=fun _=>P (.st .non),rt:=P,bk:=fun _=>False,ct:=fun _=>False}
section
variable {w:Ak}{K:Fg9}{k:Nat}{sp:E6}
def Y7f {cdv:Ad}{A:Ah}{outer:M Env}{s:Ae}  {E:XK}{ws:WS}{rs:M R}  {Q:VK}{Pr:R->Prop}  (hX:X.K=K)(hd:A7 X H (N3 st) ws)(hl:rs.length=ps.length)(al:O5 K (fun _=>none) H rs vs)(ok:rs.all P0=true)
  (h1:sp (rs.map nrm) Pr) (h2:∀r v H',Pr r->A5 H H'->F7 K H H' r v->Q v H') (hw:∀rs Pr,rs.length=ps.length->sp rs Pr->ws (M0 Pr) (E8 N rs)):
  ∃t,PSs X (N3 st) t/\t {nx:=fun _ H'=>Q .non H',rt:=Q} (start N vs) H:=by
 subst hX;refine⟨_,hd.ps,E8 N rs,Z1x al ok,?_⟩;have hw:=hw (rs.map nrm) Pr (by rw[ag];exact hl) h1;rw[Z2p]at hw;refine hd.mono _ _ _ ⟨fun τ h σ H' _ hR=>?_,fun r' h v H' sm ir=>?_,fun _ h=>False.elim h,fun _ h=>False.elim h⟩ hw
 ·exact h2 (.st .non) .non H' h hR.same (Q7s (K:=X.K) (H:=H'))
 ·exact h2 r' v H' h sm ir
def Fun.okP {ws:WS}(F:Fun K x qual st f fd)(S:Y7 N ps (C6 st))
  (cn:∀(cdv:Ad) (A:Ah) (outer:M Env) (s:Ae) (H:Hp) (E:XK),Q3b ts H->F8 k (A.deeper (envOfC qual (C6 st) s.heap.objs.size f cdv))->A7 (U5 J7 P w K mg base N qual (C6 st) f cdv A outer s H E).nox H (N3 st) ws)
  (hw:∀rs Pr,rs.length=ps.length->sp rs Pr->ws (M0 Pr) (E8 N rs)):FnT P w K mg base ts (k+1) f fd ps sp:=by
 refine F.ok S (fun vs H Q E h=>?_) (fun cdv A outer s H vs Q E hr h=>?_)
 ·obtain⟨rs,r,hl,al,_⟩:=h;rw[<-al.length];exact hl
 obtain⟨rs,Pr,hl,al,ok,hT,h1,h2⟩:=h;exact Y7f (st:=st) (cdv:=cdv) (A:=A) (outer:=outer) (s:=s) (E:=E) rfl (cn cdv A outer s H E hT hr) hl al ok h1 h2 hw
def Q0n.okP {c:Af}{ws:WS}(F:Q0n K x qual st f fd c Pt)(S:Y7 N ps (C6 st))
  (cn:∀(A:Ah) (outer:M Env) (s:Ae) (H:Hp) (E:XK),Q3b ts H->F8 k (A.deeper (envOfC qual (C6 st) s.heap.objs.size f (.ref c)))->A7 (U5 J7 P w K mg base N qual (C6 st) f (.ref c) A outer s H E).nox H (N3 st) ws)
  (hw:∀rs Pr,rs.length=ps.length->sp rs Pr->ws (M0 Pr) (E8 N rs)):FnT P w K mg base ts (k+1) f fd ps sp:=by
 obtain⟨oc,od,kV,dW,pm,an,ct,fS,rfl,lk,gb⟩:=F.ex;refine Z5k lk gb S (fun vs H Q E h=>?_) fun A outer s H vs Q E hr h=>?_
 ·obtain⟨rs,r,hl,al,_⟩:=h;rw[<-al.length];exact hl
 obtain⟨rs,Pr,hl,al,ok,hT,h1,h2⟩:=h;obtain⟨t,ht,q⟩:=Y7f (st:=st) (cdv:=.ref c) (A:=A) (outer:=outer) (s:=s) (E:=E) rfl (cn A outer s H E hT hr) hl al ok h1 h2 hw;exact⟨t,ht.nox,q⟩
end
section
variable {es:M Ag}{k:Nat}{sp:E6}
def T7 (sp:E6):Prop:=∀rs P Q,(∀r,P r->Q r)->sp rs P->sp rs Q
def E4 (sp:E6)(wr:WA):WE:=fun τ Q=>wr τ fun rs=>rs.all P0=true/\sp (rs.map nrm) Q
def W2h (rC:T7 sp)(F:S7 X.prog X.w X.K X.mg X.base J7 k f fd ps (Q6s X.K ts (e::es).length sp))(hr:F8 k X.A)(hT:Q3b ts H0)(hg:Gl X x)(hm:X.mg x=some (.ref f))(hk:PySem.W.keepIn X.K (.ref f)=true)(hb:U3 X.K fd ps [])
  (ha:DA X H0 (e::es) wr) (ga:(x==("__debug__":Str))=false:=by decide) (he:?I:=by rfl) (hpl:?S:=by rfl):
  DE X H0 (.Call (.Name x p) (e::es) [] pos) (E4 sp wr) where
 mono:=fun τ P Q g h=>ha.mono τ _ _ (fun rs⟨ok,h1⟩=>⟨ok,rC _ _ _ g h1⟩) h
 pe:=R0 (Z7h F hr hg hm hk hb .nil Z1u ha.pa ga he hpl) fun σ H Q ⟨τ,hR,h⟩=>⟨τ,hR,ha.mono τ _ _ (fun rs cU vs H1 s1 dA=>by
  obtain⟨mH,ok,h1⟩:=cU;refine⟨rs,_,mH,?_,ok,fun Pt hp=>s1 _ _ (hR.same _ _ (hT Pt hp)),h1,fun r v H' q s2 ir=>q v H' (s1.trans s2) (ir.older s1)⟩;rw[aZ];exact dA.v) (ha.len τ _ h)⟩
@[simp] theorem P4 {Q:R->Prop}:E4 sp wr τ Q=wr τ fun rs=>rs.all P0=true/\sp (rs.map nrm) Q:=rfl
end
section
variable {w:Ak}{K:Fg9}{k kl:Nat}{sp:E6}{c:Af}{m7 fD:Al}{body:Ag}{dw me:Pos}{lps:M Str}{w1 w2:WS}
def Q7l (FC:O6)(n:Nat)(cs:M (Str×Nat))(wb:WE)(w1 w2:WS)(Pr:R->Prop)(τ:C8):Prop:=
 w1 {nx:=w2 {nx:=fun τ'=>∃di,Q1c τ' cs di/\∀g Φ,FC n g Φ (Q2 wb di)->Pr (.cl g Φ),rt:=fun _=>False,bk:=fun _=>False,ct:=fun _=>False},rt:=fun _=>False,bk:=fun _=>False,ct:=fun _=>False} τ
theorem V6o {σ0:R9}{τ0:C8}  {m7 fD:Al}  {body:Ag}  {dw me:Pos}  {lps:M Str}{w1 w2:WS}  {kl:Nat}{c:Af}  {Pr:R->Prop}{Q:VK}
  (I0:A1 X.nox [] σ0 X.H₀ s1) (xt:C2 X.K X.H₀ τ0 σ0 X.H₀) (hex:X.ex=[]) (d1:DS X.nox X.H₀ m7 w1) (d2:DS X.nox X.H₀ fD w2)
  (hT:X.H₀ Pt=some .tab) (hB:Q0m X.mg X.base) (eJ:X.env.code=.ref c) (hC:PySem.W.codeHdIn X.K c Pt=true) (iO:closureFor sc X.env=pure clos) (ke:cs.map (·.1)=clos.map (·.1)) (gr:∀y∈clos,X.env.cells.lookup y.1=some y.2)
  (gR:∀y∈cs,X.N[y.2]?=some y.1/\X.env.kindOf y.1=some .cell/\X.fn y.1=true) (S:Q4d lps (cs.map (·.1)) sc)
  (eK:∀(qual:Str) (cl:M (Str×Af)) (pm cd ct:Ad) (us:M Ad),us.length=lps.length->bindArgs (PySem.W.kla_fn "<lambda>" qual params body sc cl pm cd ct) ⟨us,[]⟩=pure (lps.zip us))
  (cn:∀(caps:M U4) (g c':Af) (A:Ah) (outer:M Env) (s:Ae) (H:Hp) (q:Str),caps.map (·.name)=cs.map (·.1)->F8 kl (A.deeper (PySem.W.envX q sc s.heap.objs.size g (.ref c') (Q1 caps)))->DE (cxL X.prog X.w X.K X.mg X.base (lps++cs.map (·.1)) q sc g c' caps A outer s H) H body wb)
  (kX:defaultsOf params X.env=([],[])) (hw:Q7l (J1 X.prog X.w X.K X.mg X.base (kl+1)) lps.length cs wb w1 w2 Pr τ0) (hQ:∀r v H',Pr r->A5 X.H₀ H'->F7 X.K X.H₀ H' r v->Q v H'):
  wpAny ?D X.A (execs [m7,fD,.Return (some (.Lambda params body sc dw)) me] X.env) (fun fl s'=>∃u,fl=.ret u/\CE X.outer X.prog X.w X.H₀ X.s₀ Q u s') (fun _ _=>False) s1:=by
 refine eN (B3 (d1.ps [] s1 σ0 X.H₀ {nx:=fun σ' H'=>∃ τ',C2 X.K X.H₀ τ' σ' H'/\w2 {nx:=fun τ'=>∃di,Q1c τ' cs di/\∀g Φ,J1 X.prog X.w X.K X.mg X.base (kl+1) lps.length g Φ (Q2 wb di)->Pr (.cl g Φ),rt:=fun _=>False,bk:=fun _=>False,ct:=fun _=>False} τ',rt:=fun _ _=>False,bk:=fun _ _=>False,ct:=fun _ _=>False} I0
  ⟨τ0,xt,d1.mono _ _ _ (by exact⟨fun τ h σ H' _ hR=>⟨τ,hR,h⟩,fun _ h=>False.elim h,fun _ h=>False.elim h,fun _ h=>False.elim h⟩) hw⟩) fun fl s2 q=>?_)
 cases fl with
 |ret v=>obtain⟨_,_,_,_,_,q⟩:=q;exact False.elim q
 |brk=>obtain⟨_,_,_,q⟩:=q;exact False.elim q
 |cont=>obtain⟨_,_,_,q⟩:=q;exact False.elim q
 |next=>
 obtain⟨σ2,H2,I2,τ2,fh,kr⟩:=q;refine eN (B3 (d2.ps [] s2 σ2 H2 {nx:=fun σ' H'=>∃ τ',C2 X.K X.H₀ τ' σ' H'/\∃di,Q1c τ' cs di/\∀g Φ,J1 X.prog X.w X.K X.mg X.base (kl+1) lps.length g Φ (Q2 wb di)->Pr (.cl g Φ),rt:=fun _ _=>False,bk:=fun _ _=>False,ct:=fun _ _=>False} I2
  ⟨τ2,fh,d2.mono _ _ _ (by exact⟨fun τ h σ H' _ hR=>⟨τ,hR,h⟩,fun _ h=>False.elim h,fun _ h=>False.elim h,fun _ h=>False.elim h⟩) kr⟩) fun fl s3 q=>?_)
 cases fl with
 |ret v=>obtain⟨_,_,_,_,_,q⟩:=q;exact False.elim q
 |brk=>obtain⟨_,_,_,q⟩:=q;exact False.elim q
 |cont=>obtain⟨_,_,_,q⟩:=q;exact False.elim q
 |next=>
 obtain⟨σ3,H3,I3,τ3,kh,di,h1,h2⟩:=q;refine eN (kB (B3 (Q8z (X:=X.nox) (pos:=dw) (P:=Pt) (c:=c) hB eJ hC iO kX [] s3 σ3 H3 (fun v H4=>A5 H3 H4/\∃g c' oc ctv,v=.ref g/\Q5c oc/\H4 c'=some (.frz oc (.own Pt))/\H4 g=some (.frz (W4 X.nox params body sc clos c' ctv) X2)) I3 ⟨kh.same _ _ hT,fun g c' oc ctv H' sm fQ _ eV jp _=>⟨sm,g,c',oc,ctv,rfl,fQ,eV,jp⟩⟩) fun u s4 bF=>?_));obtain⟨v,H4,I4,rv,sm,g,c',oc,ctv,ev,fQ,eV,jp⟩:=bF;subst ev;obtain rfl:u=Value.ref g:=rv;have lR:=kh.mono sm;obtain⟨caps,n1,n2,ku⟩:=Q8d (X:=X.nox) I4 lR gR h1;have gg:∀p∈caps,Q2x X.nox s4 p:=fun p hp=>(ku p hp).1;have lC:(caps.map (·.name)).Nodup:=by rw[n1];exact(bg.mp S.nd).2.1
 have nd:=Z0j I4 lC gg;have hL:Q1 caps=clos:=Q8c (X:=X) (cs:=clos) (n1.trans ke) (fun p hp=>(gg p hp).look) gr;have gH:=Q6f I4 gg;subst hL;have LP:X1 X.K caps g c' (W4 X.nox params body sc (Q1 caps) c' ctv) (W3 caps H4):=⟨gH _ _ jp,⟨oc,Pt,gH _ _ eV,fQ⟩,fun p hp=>⟨Q5d nd hp,(gg p hp).cell,(ku p hp).2.mono (Kp.of gH)⟩⟩
 have F0:=Q8h (P:=X.prog) (w:=X.w) (K:=X.K) (mg:=X.mg) (base:=X.base) (k:=kl) (f:=g) (c':=c') (name:="<lambda>") (qual:=X.env.qual++"<lambda>") (params:=params) (body:=body) (sc:=sc) (pm:=(X.mg "__name__").getD .none) (ctv:=ctv) (ps:=lps) (caps:=caps) (sp:=Q2 wb di) (wb:=wb) (by rw[n1];exact S) nd
  (fun A outer s H q hr=>by rw[n1];exact cn caps g c' A outer s H q n1 hr) (fun rs r _ hs=>by
   obtain⟨ds,d,e1,e2,e3⟩:=hs;refine⟨ds,d,e1,e2,?_⟩;have:di.map some=caps.map fun p=>some p.slot:=by rw[<-n2,aJ];rfl
   rw[<-this];exact e3)
 have xu:=h2 g _ ⟨_,lps,F0,rfl,U3.all (eK _ _ _ _ _),fun hh Hh hok _ hΦ=>⟨_,(hok _ _ hΦ.1).1,rfl⟩⟩;have kj:A5 X.H₀ (W3 caps H4):=(lR.same).trans gH;have ge:∀p∈caps,X.s₀.heap.objs.size<=p.addr:=fun p hp=>I4.ok.cab _ _ (gg p hp).own (gg p hp).look;have pG:∀b:Af,b∉X.nox.ex:=fun b=>by show b∉X.ex;rw[hex];simp
 have B:=I4.base;refine⟨_,rfl,.ref g,W3 caps H4,I4.os,I4.bare,⟨fun b o e n hb _=>B.keep b o e n hb (pG b),fun b o e n hb _=>B.slot b o e n hb (pG b),fun b o e n _=>?_,fun b o e _=>B.there b o e (pG b),fun b xs e=>kj _ _ e,fun b o u e=>kj _ _ e,fun b ps e=>⟨#[],by rw[kj _ _ e];simp⟩⟩,(Y4e I4 nd gg).hok,rfl,hQ _ _ _ xu kj ⟨rfl,LP,X1.mono⟩⟩;rw[Q7w]
 ·exact B.free b o e n (pG b)
 ·intro hb;obtain⟨p,hp,rfl⟩:=ar.mp hb;exact absurd (aA e) (fR.mpr (ge p hp))
def Y1b (F:Q0n K x qual st f fd c Pt)(S:Y7 N ps (C6 st))(x6:N3 st=[m7,fD,.Return (some (.Lambda params body sc dw)) me])(hBM:Q0m mg base)(iQ:Pt∈ts)
  (h1:∀(A:Ah) (outer:M Env) (s:Ae) (H:Hp) (E:XK),F8 k (A.deeper (envOfC qual (C6 st) s.heap.objs.size f (.ref c)))->DS (U5 J7 P w K mg base N qual (C6 st) f (.ref c) A outer s H E).nox H m7 w1)
  (h2:∀(A:Ah) (outer:M Env) (s:Ae) (H:Hp) (E:XK),F8 k (A.deeper (envOfC qual (C6 st) s.heap.objs.size f (.ref c)))->DS (U5 J7 P w K mg base N qual (C6 st) f (.ref c) A outer s H E).nox H fD w2)
  (clos:Nat->M (Str×Af)) (iO:∀n:Nat,closureFor sc (envOfC qual (C6 st) n f (.ref c))=pure (clos n)) (ke:∀n,cs.map (·.1)=(clos n).map (·.1)) (gr:∀n,∀y∈clos n,(envOfC qual (C6 st) n f (.ref c)).cells.lookup y.1=some y.2)
  (gR:∀y∈cs,N[y.2]?=some y.1/\(C6 st).names.lookup y.1=some .cell) (SL:Q4d lps (cs.map (·.1)) sc)
  (eK:∀(qual:Str) (cl:M (Str×Af)) (pm cd ct:Ad) (us:M Ad),us.length=lps.length->bindArgs (PySem.W.kla_fn "<lambda>" qual params body sc cl pm cd ct) ⟨us,[]⟩=pure (lps.zip us))
  (cn:∀(caps:M U4) (g c':Af) (A:Ah) (outer:M Env) (s:Ae) (H:Hp) (q:Str),caps.map (·.name)=cs.map (·.1)->F8 kl (A.deeper (PySem.W.envX q sc s.heap.objs.size g (.ref c') (Q1 caps)))->DE (cxL P w K mg base (lps++cs.map (·.1)) q sc g c' caps A outer s H) H body wb)
  (kX:∀n:Nat,defaultsOf params (envOfC qual (C6 st) n f (.ref c))=([],[]))
  (hw:∀rs Pr,rs.length=ps.length->sp rs Pr->Q7l (J1 P w K mg base (kl+1)) lps.length cs wb w1 w2 Pr (E8 N rs)):FnT P w K mg base ts (k+1) f fd ps sp:=by
 obtain⟨oc,od,kV,dW,pm,an,ct,fS,rfl,lk,gb⟩:=F.ex;refine⟨fun vs H Q E h=>?_,fun A outer s H args us vs Q E hr e0 hb r iZ=>?_⟩
 ·obtain⟨rs,Pr,hl,al,_⟩:=h;rw[<-al.length];exact hl
 obtain⟨rs,Pr,tI,al,ok,hT,r9,lG⟩:=iZ;have hl:vs.length=ps.length:=by rw[<-al.length];exact tI
 have KX:K.In s.heap:=e0.mod.kin.keeps fun b o e=>(e0.bs b o e).1;have mo:s.heap.NoLimit:=e0.mod.nolimit.keeps fun b o e=>(e0.bs b o e).1;have k7:∀y∈ps.zip us,(C6 st).names.lookup y.1=some .local\/((C6 st).names.lookup y.1=some .cell/\((cellsFrom (s.heap.objs.size+1) (C6 st).names []).lookup y.1).isSome=true):=fun dF hy=>by
  obtain⟨n,v⟩:=dF;rcases S.par n (du hy).1 with q |q
  ·exact .inl q
  ·exact .inr ⟨q,fJ _ _ _ (.inl q)⟩
 refine codeAny_call_function hr.depth (KX _ _ lk) rfl S.co S.gen rfl (uT KX gb) (hb _ _ _ _ ?_);refine qg S.kind k7 fun env he s1 x1=>?_;subst he;refine⟨mo.keeps x1.toInCall.keep,codeAny_func ?_⟩;have I0:A1 (U5 J7 P w K mg base N qual (C6 st) f (.ref c) A outer s H E) [] (start N vs) H s1:=Y4w S hr.hd e0 hl r x1;have tm:=hw (rs.map nrm) Pr (by rw[ag];exact tI) r9;rw[Z2p]at tm;rw[x6];refine aS (V6o (X:=U5 J7 P w K mg base N qual (C6 st) f (.ref c) A outer s H E) (kl:=kl) (c:=c) (Pt:=Pt) (clos:=clos s.heap.objs.size) (I0.wish _) (Z1x al ok) rfl (h1 A outer s H E (hr.deeper _)) (h2 A outer s H E (hr.deeper _)) (hT Pt iQ) hBM rfl F.hd (iO _) (ke _) (gr _)
  (fun y hy=>⟨(gR y hy).1,(gR y hy).2,rfl⟩) SL eK cn (kX _) tm lG) (fun fl s' ff=>(by obtain⟨u,e,q⟩:=ff;subst e;exact q)) fun _ _ h=>False.elim h
end
def W0y (FC:O6)(n m:Nat)(cs es:M (Str×Nat))(wb wc:WE)(sp:F4)(we:WE):WE:=fun τ Q=>we τ fun r1=>P0 r1=true/\∃di jt,Q1c τ cs di/\Q1c τ es jt/\∀f Φ h Ψ,FC n f Φ (Q2 wb di)->FC m h Ψ (Q2 wc jt)->∃d,sp [nrm r1,.cl f Φ,.cl h Ψ] (.st d)/\Q (.st d)
section
variable {wc:WE}{k kl:Nat}{nN qs:M Str}{dw fP:Pos}{dq:Arguments}{body eO:Ag}{gI:Scope}{c:Af}{es:M (Str×Nat)}{clo2:M (Str×Af)}
def W2i (F:S7 X.prog X.w X.K X.mg X.base J7 k f fd nN (Q4m X.K 3 sp))(hr:F8 k X.A)(hg:Gl X x)(hm:X.mg x=some (.ref f))(hk:PySem.W.keepIn X.K (.ref f)=true)(hb:U3 X.K fd nN [])(ha:DE X H0 e we)
  (hT:H0 Pt=some .tab) (hB:Q0m X.mg X.base) (eJ:X.env.code=.ref c) (hC:PySem.W.codeHdIn X.K c Pt=true)
  (iO:closureFor sc X.env=pure clos) (ke:cs.map (·.1)=clos.map (·.1)) (gr:∀y∈clos,X.env.cells.lookup y.1=some y.2) (gR:∀c∈cs,X.N[c.2]?=some c.1/\X.env.kindOf c.1=some .cell/\X.fn c.1=true) (S:Q4d ps (cs.map (·.1)) sc)
  (rW:closureFor gI X.env=pure clo2) (rT:es.map (·.1)=clo2.map (·.1)) (rX:∀y∈clo2,X.env.cells.lookup y.1=some y.2) (rS:∀c∈es,X.N[c.2]?=some c.1/\X.env.kindOf c.1=some .cell/\X.fn c.1=true) (S2:Q4d qs (es.map (·.1)) gI)
  (jl:(cs.map (·.1)++es.map (·.1)).Nodup)
  (eK:∀(qual:Str) (cl:M (Str×Af)) (pm cd ct:Ad) (us:M Ad),us.length=ps.length->bindArgs (PySem.W.kla_fn "<lambda>" qual params body sc cl pm cd ct) ⟨us,[]⟩=pure (ps.zip us))
  (mQ:∀(qual:Str) (cl:M (Str×Af)) (pm cd ct:Ad) (us:M Ad),us.length=qs.length->bindArgs (PySem.W.kla_fn "<lambda>" qual dq eO gI cl pm cd ct) ⟨us,[]⟩=pure (qs.zip us))
  (cn:∀(caps:M U4) (f c':Af) (A:Ah) (outer:M Env) (s:Ae) (H:Hp) (q:Str),caps.map (·.name)=cs.map (·.1)->F8 kl (A.deeper (PySem.W.envX q sc s.heap.objs.size f (.ref c') (Q1 caps)))->DE (cxL X.prog X.w X.K X.mg X.base (ps++cs.map (·.1)) q sc f c' caps A outer s H) H body wb)
  (mP:∀(caps:M U4) (f c':Af) (A:Ah) (outer:M Env) (s:Ae) (H:Hp) (q:Str),caps.map (·.name)=es.map (·.1)->F8 kl (A.deeper (PySem.W.envX q gI s.heap.objs.size f (.ref c') (Q1 caps)))->DE (cxL X.prog X.w X.K X.mg X.base (qs++es.map (·.1)) q gI f c' caps A outer s H) H eO wc)
  (ga:(x==("__debug__":Str))=false:=by decide) (he:starEach [e,.Lambda params body sc dw,.Lambda dq eO gI fP] X.env=(false,eval e X.env)::starEach [.Lambda params body sc dw,.Lambda dq eO gI fP] X.env:=by rfl)
  (rQ:starEach [.Lambda params body sc dw,.Lambda dq eO gI fP] X.env=(false,eval (.Lambda params body sc dw) X.env)::starEach [.Lambda dq eO gI fP] X.env:=by rfl) (wU:starEach [.Lambda dq eO gI fP] X.env=(false,eval (.Lambda dq eO gI fP) X.env)::starEach [] X.env:=by rfl)
  (hpl:(backTo pos (starEach [.Lambda params body sc dw,.Lambda dq eO gI fP] X.env)).any (·.1)=false:=by rfl) (hd:defaultsOf params X.env=([],[]):=by rfl) (j0:defaultsOf dq X.env=([],[]):=by rfl):
  DE X H0 (.Call (.Name x p) [e,.Lambda params body sc dw,.Lambda dq eO gI fP] [] pos) (W0y (J1 X.prog X.w X.K X.mg X.base (kl+1)) ps.length qs.length cs es wb wc sp we) where
 mono:=fun τ P Q g h=>ha.mono τ _ _ (fun r1⟨ok,di,jt,h1,oO,h2⟩=>⟨ok,di,jt,h1,oO,fun f Φ h Ψ F G=>let ⟨d,a,b⟩:=h2 f Φ h Ψ F G;⟨d,a,g _ b⟩⟩) h
 pe:=by
  intro ah s σ H Q I ⟨τ,hR,h⟩;refine bj (Z1c I hg hm ?_ ga);have sh:PA X [e,.Lambda params body sc dw,.Lambda dq eO gI fP] (Q7f _ (Q7f _ (Q7f _ Z8t))):=Q1w (es:=[.Lambda params body sc dw,.Lambda dq eO gI fP]) ha.pe (Q1w (es:=[.Lambda dq eO gI fP]) (Q8z (pos:=dw) hB eJ hC iO hd) (Q1w (es:=[]) (Q8z (pos:=fP) hB eJ hC rW j0) Q4q wU) rQ) he;refine hZ (h₀:=X.base) I.ok.mod.kin hk (B3 (sh pos ah s σ H (fun vs H1=>A5 H H1/\∃v1 fa c' oc ctv fb c2 mZ nu r1,vs=[v1,.ref fa,.ref fb]/\F7 X.K H H1 r1 v1/\P0 r1=true/\(Q5c oc/\H1 c'=some (.frz oc (.own Pt))/\H1 fa=some (.frz (W4 X params body sc clos c' ctv) X2)) /\
   (Q5c mZ/\H1 c2=some (.frz mZ (.own Pt))/\H1 fb=some (.frz (W4 X dq eO gI clo2 c2 nu) X2)) /\
   ∃di jt,Q1c τ cs di/\Q1c τ es jt/\∀f Φ h Ψ,J1 X.prog X.w X.K X.mg X.base (kl+1) ps.length f Φ (Q2 wb di)->J1 X.prog X.w X.K X.mg X.base (kl+1) qs.length h Ψ (Q2 wc jt)->∃d,sp [nrm r1,.cl f Φ,.cl h Ψ] (.st d)/\∀v H',A5 H H'->F7 X.K H H' (.st d) v->Q v H') I ?_) fun us s1 ⟨vs,H1,I1,r,lu,q⟩=>⟨I1.kIn,?_⟩) he hpl
  ·refine⟨τ,hR,ha.mono τ _ _ (fun r1 ⟨ok,di,jt,h1,oO,h2⟩ v1 H1 s1 ir=>?_) h⟩;refine⟨s1 _ _ (hR.same _ _ hT),fun fa c' oc ctv H' sm fQ hf eV jp _=>?_⟩;refine⟨sm _ _ (s1 _ _ (hR.same _ _ hT)),fun fb c2 mZ nu H2 pC mE yD jB mM _=>?_⟩;exact⟨s1.trans (sm.trans pC),v1,fa,c',oc,ctv,fb,c2,mZ,nu,r1,rfl,ir.mono (sm.trans pC),ok,⟨fQ,pC _ _ eV,pC _ _ jp⟩,⟨mE,jB,mM⟩,di,jt,h1,oO,h2⟩
  ·obtain⟨v1,fa,c',oc,ctv,fb,c2,mZ,nu,r1,rfl,ir,ok,⟨fQ,eV,jp⟩,⟨mE,jB,mM⟩,di,jt,h1,oO,h2⟩:=q;obtain⟨caps,n1,n2,ku⟩:=Q8d I1 (hR.mono lu) gR h1;obtain⟨jE,m1,m2,pQ⟩:=Q8d I1 (hR.mono lu) rS oO;have gg:∀p∈caps++jE,Q2x X s1 p:=fun p hp=>(aO.mp hp).elim (fun h=>(ku p h).1) fun h=>(pQ p h).1;have lC:((caps++jE).map (·.name)).Nodup:=by rw[aW,n1,m1];exact jl
   have nd:=Z0j I1 lC gg;have qI:=nd;rw[aW]at qI;have vz:=(bg.mp qI).1;have vy:=(bg.mp qI).2.1;have hL:Q1 caps=clos:=Q8c (cs:=clos) (n1.trans ke) (fun p hp=>(ku p hp).1.look) gr;have oF:Q1 jE=clo2:=Q8c (cs:=clo2) (m1.trans rT) (fun p hp=>(pQ p hp).1.look) rX;have gH:=Q6f I1 gg;subst hL oF;have LP:X1 X.K caps fa c' (W4 X params body sc (Q1 caps) c' ctv) (W3 (caps++jE) H1):=⟨gH _ _ jp,⟨oc,Pt,gH _ _ eV,fQ⟩,fun p hp=>⟨Q5d nd (bp _ hp),(ku p hp).1.cell,(ku p hp).2.mono (Kp.of gH)⟩⟩
   have xZ:X1 X.K jE fb c2 (W4 X dq eO gI (Q1 jE) c2 nu) (W3 (caps++jE) H1):=⟨gH _ _ mM,⟨mZ,Pt,gH _ _ jB,mE⟩,fun p hp=>⟨Q5d nd (aw _ hp),(pQ p hp).1.cell,(pQ p hp).2.mono (Kp.of gH)⟩⟩
   have F0:=Q8h (P:=X.prog) (w:=X.w) (K:=X.K) (mg:=X.mg) (base:=X.base) (k:=kl) (f:=fa) (c':=c') (name:="<lambda>") (qual:=X.env.qual++"<lambda>") (params:=params) (body:=body) (sc:=sc) (pm:=(X.mg "__name__").getD .none) (ctv:=ctv) (ps:=ps) (caps:=caps) (sp:=Q2 wb di) (wb:=wb) (by rw[n1];exact S) vz
    (fun A outer s H q hr=>by rw[n1];exact cn caps fa c' A outer s H q n1 hr) (fun rs r _ hs=>by
     obtain⟨ds,d,e1,e2,e3⟩:=hs;refine⟨ds,d,e1,e2,?_⟩;have:di.map some=caps.map fun p=>some p.slot:=by rw[<-n2,aJ];rfl
     rw[<-this];exact e3)
   have F1:=Q8h (P:=X.prog) (w:=X.w) (K:=X.K) (mg:=X.mg) (base:=X.base) (k:=kl) (f:=fb) (c':=c2) (name:="<lambda>") (qual:=X.env.qual++"<lambda>") (params:=dq) (body:=eO) (sc:=gI) (pm:=(X.mg "__name__").getD .none) (ctv:=nu) (ps:=qs) (caps:=jE) (sp:=Q2 wc jt) (wb:=wc) (by rw[m1];exact S2) vy
    (fun A outer s H q hr=>by rw[m1];exact mP jE fb c2 A outer s H q m1 hr) (fun rs r _ hs=>by
     obtain⟨ds,d,e1,e2,e3⟩:=hs;refine⟨ds,d,e1,e2,?_⟩;have:jt.map some=jE.map fun p=>some p.slot:=by rw[<-m2,aJ];rfl
     rw[<-this];exact e3)
   obtain⟨d,g1,g2⟩:=h2 fa _ fb _ ⟨_,ps,F0,rfl,U3.all (eK _ _ _ _ _),fun hh Hh hok _ hΦ=>⟨_,(hok _ _ hΦ.1).1,rfl⟩⟩ ⟨_,qs,F1,rfl,U3.all (mQ _ _ _ _ _),fun hh Hh hok _ hΦ=>⟨_,(hok _ _ hΦ.1).1,rfl⟩⟩;refine Y8f (CX:=J7) (E:=E0) F hr hb I1 nd gg r ⟨[r1,.cl fa _,.cl fb _],.st d,rfl,⟨v1,_,rfl,(ir.mono gH).v,_,_,rfl,⟨rfl,LP,X1.mono⟩,_,_,rfl,⟨rfl,xZ,X1.mono⟩,rfl⟩,by rw[gZ,ok];rfl,g1,fun v H' ef iv=>⟨ef,?_⟩⟩;have hS:V0 ((caps++jE).map (·.addr)) H':=fun c mO=>by
    obtain⟨o,u,e1,e2⟩:=Z4h (H:=H1) nd gg c mO;exact⟨o,u,ef _ _ e1,e2⟩
   have Q3p:∀b u,H1 b=some u->b∉(caps++jE).map (·.addr):=fun b u e hb=>by
    obtain⟨p,hp,rfl⟩:=ar.mp hb;rw[I1.freeC _ _ (gg p hp).look]at e;cases e
   exact g2 v _ (fun b u e=>by rw[Q0v (Q3p b u (lu _ _ e))];exact ef _ _ (gH _ _ (lu _ _ e))) (show A4 X.K _ d v from A4.hid hS d v iv)
end
section
variable {k v:Ag}{tk tv:TE}
def V3d (hu:X.A.units<cLine)(hk:PE X k tk)(hv:PE X v tv):PE X (.Dict [some k] [v] pos) (fun σ H Q=>∀p,H p=none->tk σ (B0 H p (.dT [])) fun x H1=>tv σ H1 fun y H2=>
  H2 p=some (.dT [])/\∃b ks,x=.ref b/\H2 b=some (.tup (ks.map kV))/\Q (.ref p) (B0 H2 p (.dT [(ks,y)]))):=by
 intro ah s σ H Q I q;have hn:=I.hok.fresh (am s.heap.objs.size);have I1:=I.laid (a:=s.heap.objs.size) (o:=.dT []) (h':=s.heap.push {cls:=.type "dict",data:=.dict #[]}) (t':=s.toks) (fun _ _ q=>ae _ q) (am _) (W6x s.heap I.big);refine wpAny_Dict_any rfl rfl ?H ?H (pairTrees_cons_walk (B3 (hk ah _ σ _ _ I1 (q _ hn)) fun u s1 ⟨x,H1,I2,rx,q1⟩=>B3 (hv ah s1 σ H1 _ I2 q1) fun w2 s2 ⟨y,H2,I3,ry,e,b,ks,ex,eb,q2⟩=>?_));refine pairTrees_nil_walk ?_;subst ex;obtain rfl:u=Value.ref b:=rx;obtain⟨z,hd,xs,rel,dd⟩:=Y4b I3.hok e;cases rel;unfold storeAll;rw[bX];refine af (af (wpAny_dictSet_heap (hsz:=by simp) (knd:=tupleKind (N6 X.prog X.w)) hu (Q6q I3.hok eb) dd fun h' jD hs=>?_));refine ao ?_;show wpAny _ _ (forIn [] PUnit.unit _) _ _ _;rw[gu];refine ao ⟨.ref s.heap.objs.size,_,?_,rfl,q2⟩;obtain⟨q,es,ep,hq,h2,h3,h4,_,h5⟩:=jD;refine Q5g I3 (by rw[e];exact True.intro) hs ⟨q,hq⟩ ⟨by simp[fY],hd,[(ks,b,w2)],.cons ⟨rfl,?_,ry⟩ .nil,q,es,ep,hq,h2,h3,h4,h5⟩;rw[B2 (Q0x eb e (fun z=>nomatch z))];exact eb
end
theorem Q4l {K:Fg9}:∀{d:D}{k:B8}{v:V},Q8 d=some k->A4 K H d v->v=kV k
 |.int i,k,v,h,q=>by cases h;unfold A4 at q;rw[q];rfl
 |.str x,k,v,h,q=>by cases h;unfold A4 at q;rw[q];rfl
 |.non,_,_,h,_=>by cases h
 |.bl _,_,_,h,_=>by cases h
 |.tup _,_,_,h,_=>by cases h
 |.lst _,_,_,h,_=>by cases h
section
variable {a b:Ag}{p2:Pos}
def Z9g (i:Nat)(we wv:WE):WS:=fun E τ=>we τ fun rk=>∃ds ks,rk=.st (.tup ds)/\X5 ds=some ks/\wv τ fun r=>∃d,r=.st d/\E.nx (τ.set i (some (.dt [(ks,d)])))
def W2u {i:Nat}{v:Ag}  (hu:X.A.units<cLine)(he:DE X H0 e we)(hv:DE X H0 v wv)(hN:X.N.Nodup)(hi:X.N[i]?=some x)(hx:Loc X.env.scope x)(hs:swapsWith (.Dict [some e] [v] p2) (some (.Name x cg)) pos.line X.env=pure false:=by rfl)
  (hf:?K:=by sleep 1):DS X H0 (.Assign [.Name x cg] (.Dict [some e] [v] p2) pos) (Z9g i we wv) where
 mono:=fun τ E F le h=>he.mono τ _ _ (fun r cG=>(by obtain⟨ds,ks,a1,a2,h⟩:=cG;exact⟨ds,ks,a1,a2,hv.mono τ _ _ (fun r⟨d,b1,b2⟩=>⟨d,b1,le.nx _ b2⟩) h⟩)) h
 ps:=S6 (Q6w hN hi hx (V3d hu he.pe hv.pe) hs hf) fun D σ H dF p hp=>by
  obtain⟨τ,hR,h⟩:=dF;have sm:A5 H (B0 H p (.dT [])):=G3 hp _;have fm:=hR.mono sm;refine⟨τ,fm,he.mono τ _ _ (fun rk ⟨ds,ks,a1,a2,h⟩ y H1 s1 ik=>?_) h⟩;subst a1;have fh:=fm.mono s1;refine⟨τ,fh,hv.mono τ _ _ (fun r ⟨d,b1,b2⟩ u H2 s2 iv=>?_) h⟩;subst b1;have ik:A4 X.K H1 (.tup ds) y:=ik;unfold A4 at ik;obtain⟨b,xs,rfl,sb,al⟩:=ik;rw[Q6r a2 al]at sb;have ep:=s2 _ _ (s1 _ _ (upd_same (H:=H) (a:=p) (o:=.dT [])));refine⟨ep,b,ks,rfl,s2 _ _ sb,?_⟩;have kp:Kp H2 (B0 H2 p (.dT [(ks,u)])):=Q0o ep (by intro xs z;cases z) (by intro o u z;cases z) _;have kh:=fh.mono s2;have h0:H0 p=none:=hR.same.free hp;have gQ:∀(j:Nat) (t:Sl),τ[j]?=some (some t)->t.mut=true->σ[j]?≠some (some (.ref p)):=fun j t e m q=>by
   obtain⟨o,ho⟩:=hR.tracked e m q;rw[hp]at ho;cases ho
  have lR:C2 X.K H0 τ σ (B0 H2 p (.dT [(ks,u)])):=by
   refine⟨kh.len,fun b o q=>?_,fun j t e=>?_,kh.apart⟩
   ·rw[B2 (fun z=>by rw[z,h0]at q;cases q)];exact kh.same _ _ q
   ·obtain⟨v,q,r⟩:=kh.here j t e;refine⟨v,q,?_⟩;have ap:t.mut=true->v≠.ref p:=fun mm z=>gQ j t e mm (by rw[q,z]);cases t with
    |dat d=>exact A4.mono kp _ _ r
    |own es=>accm_mu
    |bor es=>obtain⟨b,ys,e,q,t⟩:=r;exact⟨b,ys,e,q,t.mono kp _ _⟩
    |bd es=>obtain⟨b,ys,e,q,t⟩:=r;exact⟨b,ys,e,q,t.mono kp _ _⟩
    |dk es=>accm_mu
    |dt es=>accm_mu
    |ob _=>exact r
    |cl _ _=>exact⟨r.1,r.2.2 _ _ kp r.2.1,r.2.2⟩
    |ll _ _=>exact⟨r.1,r.2.keep kp fun b φ q=>by rw[B2 (Q0x q ep (by intro z;cases z))];exact q⟩
    |ins _ _ _=>obtain⟨e,n,dx,ys,q,t⟩:=r;exact⟨e,n,dx,ys,by rw[B2 (fun z=>ap rfl (by rw[e,z]))];exact q,t.mono kp _ _⟩
  have qQ:Kp H (B0 H2 p (.dT [(ks,u)])):=(Kp.of ((sm.trans s1).trans s2)).trans kp;refine b2 _ _ qQ (lR.set (s:=.dt [(ks,d)]) ⟨p,[(ks,u)],rfl,h0,upd_same,⟨u,[],rfl,A4.mono kp _ _ iv,rfl⟩⟩ fun _ j t hj e m q=>gQ j t e m q)
@[simp] theorem V6w {i:Nat}  {E:F6}:Z9g i we wv E τ=we τ fun rk=>∃ds ks,rk=.st (.tup ds)/\X5 ds=some ks/\wv τ fun r=>∃d,r=.st d/\E.nx (τ.set i (some (.dt [(ks,d)]))):=rfl
def C2.dkAt {K:Fg9}    {i:Nat}{kvs:M (B8×D)}(hR:C2 K H0 τ σ H)(e1:τ[i]?=some (some (.dk kvs))):∃a ps,σ[i]?=some (some (.ref a))/\H0 a=none/\H a=some (.dK ps)/\D7 K H kvs ps:=by
 obtain⟨v,hv,a,xs,rfl,h0,sq,al⟩:=hR.here i _ e1;exact⟨a,xs,hv,h0,sq,al⟩
def Q2t (i:Nat)(we:WE):WE:=fun τ Q=>∃kvs,τ[i]?=some (some (.dk kvs))/\we τ fun r=>∃kd k d,r=.st kd/\Q8 kd=some k/\G5 kvs k=some d/\Q (.st d)
def W2m {i:Nat}(hu:X.A.units+1<cLine)(ho:PE X o (Q5 i))(he:DE X H0 e we)(hs:Q7t e):DE X H0 (.Subscript o e pos) (Q2t i we) where
 mono:=fun τ P Q f ff=>(by obtain⟨kvs,e1,h⟩:=ff;exact⟨kvs,e1,he.mono τ _ _ (fun r fE=>(by obtain⟨ds,ks,d,a1,a2,a3,a4⟩:=fE;exact⟨ds,ks,d,a1,a2,a3,f _ a4⟩)) h⟩)
 pe:=R0 (Z7i hu ho he.pe hs) fun σ H Q g9=>by
  obtain⟨τ,hR,kvs,e1,h⟩:=g9;obtain⟨a,ps,hv,h0,sq,kv⟩:=hR.dkAt e1;refine⟨_,hv,τ,hR,he.mono τ _ _ (fun r ⟨kd,k,d,a1,a2,a3,a4⟩ v H1 s1 ir=>?_) h⟩;subst a1;cases Q4l a2 (show A4 X.K H1 kd v from ir);rcases D7.val (k:=k) (kv.mono (Kp.of s1) _ _)with⟨n1,_⟩ |⟨d',v',n1,n2,n3⟩
  ·rw[a3]at n1;cases n1
  ·rw[a3]at n1;cases n1;refine⟨a,v',rfl,?_,a4 _ _ s1 n3⟩;have g:=Y5.k (k:=k) (s1 _ _ sq);rw[n2]at g;exact g
def Q4x (i:Nat)(we:WE):WT:=fun τ Q=>∃kvs,τ[i]?=some (some (.dk kvs))/\we τ fun r=>∃kd k,r=.st kd/\Q8 kd=some k/\Q (!(G5 kvs k).isSome)
def W3k {i:Nat}(hu:X.A.units+1<cLine)(he:DE X H0 e we)(ho:PE X o (Q5 i))(h1:behindInMarks .NotIn o=false:=by rfl):DT X H0 (.Compare e [.NotIn] [o] pos) (Q4x i we) where
 mono:=fun τ P Q f jg=>(by obtain⟨kvs,e1,h⟩:=jg;exact⟨kvs,e1,he.mono τ _ _ (fun r⟨ds,ks,a1,a2,a4⟩=>⟨ds,ks,a1,a2,f _ a4⟩) h⟩)
 pt:=ptW (Y7t (Y7j hu he.pe ho) h1) fun σ H Q iL=>by
  obtain⟨τ,hR,kvs,e1,h⟩:=iL;refine⟨τ,hR,he.mono τ _ _ (fun r ⟨kd,k,a1,a2,a4⟩ v H1 s1 ir=>?_) h⟩;obtain⟨a,ps,hv,h0,sq,kv⟩:=(hR.mono s1).dkAt e1;subst a1;cases Q4l a2 (show A4 X.K H1 kd v from ir);refine⟨_,hv,a,_,rfl,Y5.k (k:=k) sq,?_⟩;have e:(U9 ps k).isSome=(G5 kvs k).isSome:=by
   rcases D7.val (k:=k) kv with⟨n1,n2⟩ |⟨d',v',n1,n2,n3⟩<;>rw[n1,n2]<;>rfl
  rw[e];exact⟨_,rfl,a4 _ s1⟩
def Q4y (i:Nat)(we wv:WE):WS:=fun E τ=>wv τ fun r=>∃d,r=.st d/\∃kvs,τ[i]?=some (some (.dk kvs))/\we τ fun rk=>∃kd k,rk=.st kd/\Q8 kd=some k/\kvs.length<sizeLine/\E.nx (τ.set i (some (.dk (R1 kvs k d))))
def W2y {i:Nat}{v:Ag}  (hu:X.A.units+1<cLine)(ho:PE X o (Q5 i))(he:DE X H0 e we)(hv:DE X H0 v wv)(hs:swapsWith v (some (.Subscript o e cg)) pos.line X.env=pure false:=by rfl):
  DS X H0 (.Assign [.Subscript o e cg] v pos) (Q4y i we wv) where
 mono:=fun τ E F le h=>hv.mono τ _ _ (fun r gJ=>(by obtain⟨d,e1,kvs,e2,h⟩:=gJ;exact⟨d,e1,kvs,e2,he.mono τ _ _ (fun r⟨ds,ks,a1,a2,a3,a4⟩=>⟨ds,ks,a1,a2,a3,le.nx _ a4⟩) h⟩)) h
 ps:=S6 (Y7q hu ho he.pe hv.pe hs) fun D σ H jY=>by
  obtain⟨τ,hR,h⟩:=jY;refine⟨τ,hR,hv.mono τ _ _ (fun r ⟨d,e1,kvs,e2,h⟩ u H1 s1 ir=>?_) h⟩;subst e1;have fm:=hR.mono s1;obtain⟨a,ps,ic,h0,sq,kv⟩:=fm.dkAt e2;refine⟨_,ic,τ,fm,he.mono τ _ _ (fun rk ⟨kd,k,a1,a2,a3,a4⟩ y H2 s2 ik=>?_) h⟩;subst a1;cases Q4l a2 (show A4 X.K H2 kd y from ik);have fe:=s2 _ _ sq;have ko:=kv.mono (Kp.of s2) _ _;refine⟨a,_,rfl,Q4a.k fe (by rw[<-D7.length ko];exact a3),?_⟩;have kp:Kp H2 (B0 H2 a (.dK (T0 ps k u))):=Q0o fe (by intro xs z;cases z) (by intro o u z;cases z) _;have iv:A4 X.K H2 d u:=A4.mono (Kp.of s2) _ _ ir;refine a4 σ _ ((Kp.of (s1.trans s2)).trans kp) ((fm.mono s2).mutG e2 rfl ic h0 fe (by intro xs z;cases z) (by intro o u z;cases z) ⟨a,_,rfl,h0,upd_same,?_⟩);exact D7.mono kp _ _ (D7.put iv ko)
@[simp] theorem Z2c {i:Nat}  {Q:R->Prop}:Q2t i we τ Q=∃kvs,τ[i]?=some (some (.dk kvs))/\we τ fun r=>∃kd k d,r=.st kd/\Q8 kd=some k/\G5 kvs k=some d/\Q (.st d):=rfl
@[simp] theorem Z7v {i:Nat}  {Q:Bool->Prop}:Q4x i we τ Q=∃kvs,τ[i]?=some (some (.dk kvs))/\we τ fun r=>∃kd k,r=.st kd/\Q8 kd=some k/\Q (!(G5 kvs k).isSome):=rfl
@[simp] theorem Z7w {i:Nat}  {E:F6}:Q4y i we wv E τ=wv τ fun r=>∃d,r=.st d/\∃kvs,τ[i]?=some (some (.dk kvs))/\we τ fun rk=>∃kd k,rk=.st kd/\Q8 kd=some k/\kvs.length<sizeLine/\E.nx (τ.set i (some (.dk (R1 kvs k d)))):=rfl
end
noncomputable instance decD:DecidableEq D:=fun a b=>Classical.propDecidable (a=b)
def V3 (p:α->β->Prop):M α->M β->Prop
 |[],vs=>vs=[]
 |k::ks,vs=>∃v r,vs=v::r/\p k v/\V3 p ks r
theorem V3.len {p:α->β->Prop}:∀{ks:M α}{vs:M β},V3 p ks vs->ks.length=vs.length
 |[],vs,h=>by rw[show vs=[]from h];rfl
 |k::ks,vs,h=>by obtain⟨v,r,rfl,_,t⟩:=h;rw[aH,aH,t.len]
theorem V3.imp {p q:α->β->Prop}(f:∀a b,p a b->q a b):∀{ks:M α}{vs:M β},V3 p ks vs->V3 q ks vs
 |[],vs,h=>h
 |k::ks,vs,h=>by obtain⟨v,r,rfl,i,t⟩:=h;exact⟨v,r,rfl,f _ _ i,t.imp f⟩
theorem V3.at {p:α->β->Prop}:∀{ks:M α}{vs:M β}{j:Nat}{k:α}{v:β},V3 p ks vs->ks[j]?=some k->vs[j]?=some v->p k v
 |[],vs,j,k,v,h,e,_=>by simp at e
 |k::ks,vs,0,k',v',h,e,e'=>by
  obtain⟨v,r,rfl,i,t⟩:=h;simp at e e';subst e e';exact i
 |k::ks,vs,j+1,k',v',h,e,e'=>by
  obtain⟨v,r,rfl,i,t⟩:=h;exact t.at (by simpa using e) (by simpa using e')
def K9 (h:Heap):Nat->D->Ad->Prop
 |_,.non,v=>v=.none
 |_,.int i,v=>∃t,v=.int i t
 |_,.str x,v=>∃t,v=.str x t
 |n+1,.tup ks,v=>∃a items,v=.ref a/\h.IsTuple a items/\V3 (K9 h n) ks items.toList
 |_,_,_=>False
def Q0w (w:Ak):Nat->D->Int
 |_,.non=>reduceHash 0xFCA86420
 |_,.int i=>hashInt i
 |_,.str x=>hashStr w x
 |n+1,.tup ks=>reduceHash (Builtin.Tuple.tupleHashOf (ks.map (Q0w w n)))
 |_,_=>0
def Y2:Nat->D->Nat
 |n+1,.tup ks=>(ks.map (Y2 n)).sum+1
 |_,_=>1
def W8p {i j:Array Ad}(x:h.IsTuple a i)(y:h.IsTuple a j):i=j:=by
 obtain⟨o,e,_,n,d⟩:=x;obtain⟨o',e',_,n',d'⟩:=y;rw[e]at e';cases e';rw[d]at d';cases d';rfl
theorem W2c {p q:α->β->Prop}(f:∀x y v,p x v->q y v->x=y):∀{xs ys:M α}{vs:M β},V3 p xs vs->V3 q ys vs->xs=ys
 |[],[],_,_,_=>rfl
 |[],y::ys,vs,h1,h2=>by obtain⟨_,_,e,_⟩:=h2;rw[show vs=[]from h1]at e;cases e
 |x::xs,[],vs,h1,h2=>by obtain⟨_,_,e,_⟩:=h1;rw[show vs=[]from h2]at e;cases e
 |x::xs,y::ys,vs,h1,h2=>by
  obtain⟨v,r,rfl,i1,t1⟩:=h1;obtain⟨v',r',e,i2,t2⟩:=h2;cases e;rw[f _ _ _ i1 i2,W2c f t1 t2]
theorem K9.shape:∀{n:Nat}{x:D}{v:Ad},K9 h n x v->(x=.non/\v=.none)\/(∃i t,x=.int i/\v=.int i t)\/(∃i t,x=.str i/\v=.str i t)\/∃m ks a items,n=m+1/\x=.tup ks/\v=.ref a/\h.IsTuple a items/\V3 (K9 h m) ks items.toList
 |n,.non,v,q=>.inl ⟨rfl,by cases n<;>exact q⟩
 |n,.int i,v,q=>by
  obtain⟨t,e⟩:∃t,v=.int i t:=by cases n<;>exact q
  exact .inr (.inl ⟨i,t,rfl,e⟩)
 |n,.str i,v,q=>by
  obtain⟨t,e⟩:∃t,v=.str i t:=by cases n<;>exact q
  exact .inr (.inr (.inl ⟨i,t,rfl,e⟩))
 |0,.tup ks,v,q=>q.elim
 |m+1,.tup ks,v,q=>by
  obtain⟨a,items,e,t,z⟩:=q;exact .inr (.inr (.inr ⟨m,ks,a,items,rfl,rfl,e,t,z⟩))
 |n,.bl b,v,q=>by cases n<;>exact q.elim
 |n,.lst b,v,q=>by cases n<;>exact q.elim
theorem K9.one:∀(n m:Nat) (x y:D) (v:Ad),K9 h n x v->K9 h m y v->x=y:=by
 intro n
 induction n with
 |zero=>
  intro m x y v h1 h2;rcases h1.shape with⟨rfl,rfl⟩ |⟨i,t,rfl,rfl⟩ |⟨i,t,rfl,rfl⟩ |⟨m1,ks,a,items,e0,rfl,rfl,t,z⟩<;>
   rcases h2.shape with⟨rfl,e⟩ |⟨j,u,rfl,e⟩ |⟨j,u,rfl,e⟩ |⟨m2,qP,a2,iJ,_,rfl,e,t2,z2⟩<;>first |rfl |(cases e;rfl) |(cases e;done) |omega
 |succ n ih=>
  intro m x y v h1 h2;rcases h1.shape with⟨rfl,rfl⟩ |⟨i,t,rfl,rfl⟩ |⟨i,t,rfl,rfl⟩ |⟨m1,ks,a,items,e0,rfl,rfl,t,z⟩<;>
   rcases h2.shape with⟨rfl,e⟩ |⟨j,u,rfl,e⟩ |⟨j,u,rfl,e⟩ |⟨m2,qP,a2,iJ,_,rfl,e,t2,z2⟩<;>first |rfl |(cases e;rfl) |(cases e;done) |skip
  cases e;cases e0;cases W8p t t2;rw[W2c (fun x y v=>ih m2 x y v) z z2]
theorem W4d (k:∀a items,h.IsTuple a items->h'.IsTuple a items):∀(n:Nat) (x:D) (v:Ad),K9 h n x v->K9 h' n x v:=by
 intro n
 induction n with
 |zero=>intro x v q;cases x<;>exact q
 |succ n ih=>
  intro x v q;cases x with
  |tup ks=>
   unfold K9 at q ⊢;obtain⟨a,it,e,t,z⟩:=q;exact⟨a,it,e,k _ _ t,z.imp ih⟩
  |_=>exact q
section
variable {w:Ak}
theorem Y5d (ih:∀(k:D) (v:Ad) (A:Ah) (s:Ae) (Q:Int->Ae->Prop),A.units+n<cLine->K9 s.heap n k v->Q (Q0w w n k) {s with toks:=s.toks+Y2 n k}->wpAny (model prog w) A (pyHash v) Q E s):
  ∀(ks:M D) (vs:M Ad) (A:Ah) (s:Ae) (b:Array Int) (Q:Array Int->Ae->Prop),A.units+n<cLine->V3 (K9 s.heap n) ks vs ->
   Q (b++(ks.map (Q0w w n)).toArray) {s with toks:=s.toks+(ks.map (Y2 n)).sum}->wpAny (model prog w) A (forIn vs b fun x r=>do let h <- pyHash x;pure PUnit.unit;pure (ForInStep.yield (r.push h))) Q E s
 |[],vs,A,s,b,Q,_,z,q=>by
  rw[show vs=[]from z];exact ao (by simpa using q)
 |k::ks,vs,A,s,b,Q,hu,z,q=>by
  obtain⟨v,r,rfl,i,t⟩:=z;rw[bX];refine af (af (ih k v A s _ hu i ?_));refine af (ao (ao ?z));refine Y5d ih ks r A {s with toks:=s.toks+Y2 n k} _ Q hu t ?_;have e:(b.push (Q0w w n k))++(ks.map (Q0w w n)).toArray=b++((k::ks).map (Q0w w n)).toArray:=by simp
  have e2:s.toks+Y2 n k+(ks.map (Y2 n)).sum=s.toks+((k::ks).map (Y2 n)).sum:=by simp[Nat.add_assoc]
  rw[e];show Q _ {s with toks:=s.toks+Y2 n k+(ks.map (Y2 n)).sum};rw[e2];exact q
theorem W8w:∀(n:Nat) (k:D) (v:Ad) (A:Ah) (s:Ae) (Q:Int->Ae->Prop),A.units+n<cLine->K9 s.heap n k v->Q (Q0w w n k) {s with toks:=s.toks+Y2 n k}->wpAny (model prog w) A (pyHash v) Q E s:=by
 have flat:∀(n:Nat) (k:D) (v:Ad) (A:Ah) (s:Ae) (Q:Int->Ae->Prop),(∀ks,k≠.tup ks)->K9 s.heap n k v->Q (Q0w w n k) {s with toks:=s.toks+Y2 n k}->wpAny (model prog w) A (pyHash v) Q E s:=by
  intro n k v A s Q nt i q;cases k with
  |tup ks=>exact absurd rfl (nt ks)
  |bl b=>cases n<;>exact i.elim
  |lst b=>cases n<;>exact i.elim
  |non=>
   have e:v=.none:=by cases n<;>exact i
   subst e;have e1:Q0w w n .non=reduceHash 0xFCA86420:=by cases n<;>rfl
   have e2:Y2 n .non=1:=by cases n<;>rfl
   rw[e1,e2]at q;exact sH (T:="NoneType") rfl F.slot_NoneType_hash F.entry_NoneType_hash (F.args_NoneType_hash_1 _) (beq_builtin_none _) (.inl rfl) (af (ao (af (nv (ao ⟨_,_,rfl,q⟩)))))
  |int j=>
   obtain⟨t,rfl⟩:∃t,v=.int j t:=by cases n<;>exact i
   have e1:Q0w w n (.int j)=hashInt j:=by cases n<;>rfl
   have e2:Y2 n (.int j)=1:=by cases n<;>rfl
   rw[e1,e2]at q;exact wpAny_pyHash_int q
  |str j=>
   obtain⟨t,rfl⟩:∃t,v=.str j t:=by cases n<;>exact i
   have e1:Q0w w n (.str j)=hashStr w j:=by cases n<;>rfl
   have e2:Y2 n (.str j)=1:=by cases n<;>rfl
   rw[e1,e2]at q;exact wpAny_pyHash_str q
 intro n
 induction n with
 |zero=>
  intro k v A s Q hu i q;cases k with
  |tup ks=>exact i.elim
  |_=>exact flat 0 _ v A s Q (by intro ks e;cases e) i q
 |succ n ih=>
  intro k v A s Q hu i q;cases k with
  |tup ks=>
   obtain⟨a,items,rfl,t,z⟩:=i;obtain⟨o,e,c,m,d⟩:=id t;refine sH (T:="tuple") ⟨o,e,c⟩ F.slot_tuple_hash F.entry_tuple_hash (F.args_tuple_hash_1 _) (beq_builtin_none _) (.inr (?A)) ?_
   change wpAny (model prog w) A.in1 (Builtin.Tuple.tupleItemsOf (Value.ref a)>>=_) _ _ s
   refine af (wpAny_tupleItemsOf e d (af ?_));rw[<-eS];refine Y5d ih ks items.toList A.in1 s #[] _ (by simp only[cR];omega) z ?_;refine af (nv (ao ⟨_,_,rfl,?_⟩));have q2:Q (reduceHash (Builtin.Tuple.tupleHashOf (ks.map (Q0w w n)))) {s with toks:=s.toks+(ks.map (Y2 n)).sum+1}:=q;simpa using q2
  |_=>exact flat (n+1) _ v A s Q (by intro ks e;cases e) i q
def W7a {b:Af}{x y:Array Ad}{xs ys:M D}{m:Nat}(hu:A.units<cLine)(ta:s.heap.IsTuple a x)(tb:s.heap.IsTuple b y)(za:V3 (K9 s.heap n) xs x.toList)(zb:V3 (K9 s.heap m) ys y.toList)
  (he:∀(k l:D) (u v:Ad),K9 s.heap n k u->K9 s.heap m l v->SeqAt.EqAt A.in1 s u v (decide (k=l))):SeqAt.RcAt A s (.ref a) (.ref b) (decide (D.tup xs=D.tup ys)):=by
 have lx:xs.length=x.size:=by rw[za.len];simp
 have ly:ys.length=y.size:=by rw[zb.len];simp
 have r:=SeqAt.RcAt.tuples (e:=fun j=>decide (xs[j]?=ys[j]?)) ta tb hu fun j h1 h2=>by
  have e1:xs[j]?=some xs[j]:=aa (?A);have e2:ys[j]?=some ys[j]:=aa (?A);have q:=he xs[j] ys[j] x[j] y[j] (za.at e1 (by simp[h1])) (zb.at e2 (by simp[h2]));have:decide (xs[j]?=ys[j]?)=decide (xs[j]=ys[j]):=by rw[e1,e2];by_cases z:xs[j]=ys[j]<;>simp[z]
  show SeqAt.EqAt A.in1 s x[j] y[j] (decide (xs[j]?=ys[j]?));rw[this];exact q
 have e:((List.range (min x.size y.size)).all (fun j=>decide (xs[j]?=ys[j]?))&&x.size==y.size)=decide (D.tup xs=D.tup ys):=by
  rw[eD];simp only[cy,cf,aQ,ym,beq_iff_eq,D.tup.injEq];constructor
  ·rintro ⟨h1,h2⟩;refine dJ fun j=>?_
   by_cases hj:j<x.size
   ·exact h1 j (?A)
   ·rw[dR (?A),dR (?A)]
  ·rintro rfl;exact⟨fun _ _=>rfl,?A⟩
 rw[e]at r;exact r
theorem k_eq:∀(n m:Nat) (x y:D) (u v:Ad) (A:Ah),A.units+n<cLine->K9 s.heap n x u->K9 s.heap m y v->SeqAt.EqAt A s u v (decide (x=y)):=by
 have flat:∀(n m:Nat) (x y:D) (u v:Ad) (A:Ah),A.units+n<cLine->K9 s.heap n x u->K9 s.heap m y v ->
   (∀n' xs ys a b i j m',n=n'+1->s.heap.IsTuple a i->s.heap.IsTuple b j->V3 (K9 s.heap n') xs i.toList->V3 (K9 s.heap m') ys j.toList->a≠b->SeqAt.EqAt A s (.ref a) (.ref b) (decide (D.tup xs=D.tup ys)))->SeqAt.EqAt A s u v (decide (x=y)):=by
  intro n m x y u v A hu h1 h2 tt;have ng:A.units<cLine:=?A
  rcases h1.shape with⟨rfl,rfl⟩ |⟨i,t,rfl,rfl⟩ |⟨i,t,rfl,rfl⟩ |⟨m1,ks,a,items,e0,rfl,rfl,t,z⟩<;>
   rcases h2.shape with⟨rfl,rfl⟩ |⟨j,u,rfl,rfl⟩ |⟨j,u,rfl,rfl⟩ |⟨m2,qP,a2,iJ,_,rfl,rfl,t2,z2⟩
  ·rw[bP rfl];exact SeqAt.EqAt.same _
  ·rw[aY (by intro e;cases e)];exact SeqAt.EqAt.none_int _ _
  ·rw[aY (by intro e;cases e)];exact SeqAt.EqAt.none_str _ _
  ·rw[aY (by intro e;cases e)];exact SeqAt.EqAt.none_tuple t2 ng
  ·rw[aY (by intro e;cases e)];exact SeqAt.EqAt.int_none _ _
  ·have e:decide (D.int i=D.int j)=(i==j):=by by_cases z:i=j<;>simp[z]
   rw[e];exact SeqAt.EqAt.int_int _ _ _ _
  ·rw[aY (by intro e;cases e)];exact SeqAt.EqAt.int_str _ _ _ _
  ·rw[aY (by intro e;cases e)];exact SeqAt.EqAt.int_tuple _ _ t2 ng
  ·rw[aY (by intro e;cases e)];exact SeqAt.EqAt.str_none _ _
  ·rw[aY (by intro e;cases e)];exact SeqAt.EqAt.str_int _ _ _ _
  ·have e:decide (D.str i=D.str j)=(i==j):=by by_cases z:i=j<;>simp[z]
   rw[e];exact SeqAt.EqAt.str_str _ _ _ _
  ·rw[aY (by intro e;cases e)];exact SeqAt.EqAt.str_tuple _ _ t2 ng
  ·rw[aY (by intro e;cases e)];exact SeqAt.EqAt.tuple_none t ng
  ·rw[aY (by intro e;cases e)];exact SeqAt.EqAt.tuple_int _ _ t ng
  ·rw[aY (by intro e;cases e)];exact SeqAt.EqAt.tuple_str _ _ t ng
  ·by_cases ab:a=a2
   ·subst ab;have e:=K9.one _ _ _ _ _ h1 h2;rw[bP e];exact SeqAt.EqAt.same _
   ·exact tt m1 ks qP a a2 items iJ m2 e0 t t2 z z2 ab
 intro n
 induction n with
 |zero=>exact fun m x y u v A hu h1 h2=>flat 0 m x y u v A hu h1 h2 fun n' _ _ _ _ _ _ _ e=>?A
 |succ n ih=>
  exact fun m x y u v A hu h1 h2=>flat (n+1) m x y u v A hu h1 h2 fun n' xs ys a b i j m' e ta tb za zb ab=>by
   cases e;exact SeqAt.EqAt.of_refs ab (W7a (?A) ta tb za zb fun k l u v h1 h2=>ih m' k l u v A.in1 (by simp only[cR];omega) h1 h2)
theorem W8x:∀(n f:Nat) (x:D) (v:Ad) (Q:Bool->Ae->Prop),n<=f->K9 s.heap n x v->Q true s->wpAny (model prog w) A (eqIsQuiet f v) Q E s:=by
 intro n
 induction n with
 |zero=>
  intro f x v Q hf h q;rcases h.shape with⟨rfl,rfl⟩ |⟨i,t,rfl,rfl⟩ |⟨i,t,rfl,rfl⟩ |⟨m1,ks,a,items,e0,rfl,rfl,t,z⟩
  ·rw[db f rfl];exact ao q
  ·rw[db f rfl];exact ao q
  ·rw[db f rfl];exact ao q
  ·omega
 |succ n ih=>
  intro f x v Q hf h q;rcases h.shape with⟨rfl,rfl⟩ |⟨i,t,rfl,rfl⟩ |⟨i,t,rfl,rfl⟩ |⟨m1,ks,a,items,e0,rfl,rfl,t,z⟩
  ·rw[db f rfl];exact ao q
  ·rw[db f rfl];exact ao q
  ·rw[db f rfl];exact ao q
  ·cases e0;obtain⟨o,e,c,m,d⟩:=id t;have hT:s.TypeIs (.ref a) "tuple":=⟨o,e,c⟩
   cases f with
   |zero=>omega
   |succ f=>
    unfold eqIsQuiet;refine af (gU hT F.slot_tuple_eq.lookup (?_:wpAny (model prog w) A (isInstance (Value.ref a) (.type "tuple")>>=_) _ _ s));refine af (wpAny_isInstance hT isSubtype_tuple_tuple (s:=s) ?_);rw[aK (?G)];refine af (cu e d (af ?_))
    change wpAny (model prog w) A (forIn items _ _) _ _ s
    rw[<-eS];have loop:∀(ks:M D) (vs:M Ad),V3 (K9 s.heap n) ks vs->wpAny (model prog w) A (forIn vs (none,PUnit.unit) fun y (yK:Ac Bool×PUnit)=>(do
      if (!(<- eqIsQuiet f y))=true then pure (ForInStep.done (some false,PUnit.unit))else pure (ForInStep.yield (none,PUnit.unit)))) (fun r s'=>s'=s/\r=(none,PUnit.unit)) E s:=by
     intro ks
     induction ks with
     |nil=>intro vs z;rw[show vs=[]from z];exact ao ⟨rfl,rfl⟩
     |cons k ks ihk=>
      intro vs z;obtain⟨v,r,rfl,i,z⟩:=z;rw[bX];refine af (af (ih f k v _ (?A) i ?_));rw[aK (?G)];exact ao (ihk r z)
    refine aS (loop ks items.toList z) (fun r s' bF=>?_) fun _ _ z=>z;obtain⟨e1,e2⟩:=bF;subst e1 e2;exact ao q
end
noncomputable def Z5p (prog:Aj)(w:Ak):HeapKind prog w D where
 is:=fun h k a=>K9 h 8 k (.ref a)
 hash:=Q0w w 8
 draws:=Y2 8
 room:=fun A=>A.units+8<cLine
 inj:=fun h1 h2=>K9.one _ _ _ _ _ h1 h2
 keeps:=fun h1 ho hd hs=>W4d (fun b it t=>by
  obtain⟨o',e,c,m,d⟩:=t;refine⟨o',(hs.2 b fun z=>?_).trans e,c,m,d⟩;subst z;rw[ho]at e;cases e;rw[hd]at d;cases d) _ _ _ h1
 pyHash:=fun hu hk h=>W8w 8 _ _ _ _ _ hu hk h
 eqBool:=fun hu hx hy h=>k_eq 8 8 _ _ _ _ _ hu hx hy _ _ _ _ h
 quiet:=fun hk h=>W8x 8 8 _ _ _ (am _) hk h
section
variable [DecidableEq κ]{w:Ak}{knd:HeapKind P w κ}{d:Af}{xs:M (κ×Af×Ad)}{k:κ}
def V8e {y:Ad}  (hu:knd.room A)(hk:knd.is s.heap k a)(D:s.heap.DictOfH knd d xs)(z:xs.length<=sizeLine)
  (h1:∀(j:Nat) (p:Af×Ad),xs[j]?=some (k,p)->Q p.2 {s with toks:=s.toks+knd.draws k})
  (h2:k∉xs.map (·.1)->∀h',h'.DictOfH knd d (xs++[(k,a,y)])->Heap.SameBut d s.heap h'->Q y {s with heap:=h',toks:=s.toks+knd.draws k}):wpAny ?T A (dictSetDefault d (.ref a) y) Q E s:=by
 obtain⟨o,es,ep,ho,hc,hd,he,oj,hn⟩:=D;have hz:es.size<=sizeLine:=by rw[size_of_entries he];exact z
 unfold dictSetDefault;refine bB (af (knd.pyHash hu hk (af (wpAny_dictFind_heap (s:={s with toks:=s.toks+knd.draws k}) hu hk ho hd he oj hn (fun no=>?_) fun j p hj=>?_))))
 ·have nk:=not_mem_keys_of_get no;refine af (dU (af (wpAny_updateDictKeys (s:={s with toks:=s.toks+knd.draws k}) ho hd (ao (h2 nk _ ?_ (bQ ..))) (hz:=hz))));refine⟨_,_,ep+1,cX _ ho (Obj.isFreed_of_dict (Obj.data_mapDictKeys hd _)),hc.mapDictKeys _,Obj.data_mapDictKeys hd _,by simp[he,entryOfKey],fun x hx=>?_,?_⟩
  ·rcases aO.mp hx with q |q
   ·exact knd.keeps (oj x q) ho hd (bQ ..)
   ·rw[aG.mp q];exact knd.keeps hk ho hd (bQ ..)
  ·rw[aW,bg (l₁:=xs.map (·.1))];refine⟨hn,by simp,fun b hb c gr e=>?_⟩;rw[show c=k by simpa using gr]at e;exact nk (e▸hb)
 ·refine af (wpAny_dictEntries (s:={s with toks:=s.toks+knd.draws k}) ho hd ?_);rw[entry_at he j,hj];exact af (dU (ao (h1 j p hj)))
def W5w {y:Ad}  (hu:knd.room A.in1)(hs:(d==sysModules)=false)(hk:knd.is s.heap k a)(D:s.heap.DictOfH knd d xs)(z:xs.length<=sizeLine)
  (h1:∀(j:Nat) (p:Af×Ad),xs[j]?=some (k,p)->Q p.2 {s with toks:=s.toks+knd.draws k})
  (h2:k∉xs.map (·.1)->∀h',h'.DictOfH knd d (xs++[(k,a,y)])->Heap.SameBut d s.heap h'->Q y {s with heap:=h',toks:=s.toks+knd.draws k}):wpAny ?T A (call (.builtin "dict.setdefault") [.ref d,.ref a,y]) Q E s:=by
 refine ck cQ D.typeIs jr ?_ (j3 _ _ _);unfold Builtin.«dict.setdefault» Builtin.Dict.keyAndDefault;refine af (af (wpAny_notOrdered_dict D.typeIs ?_))
 change wpAny ?T A.in1 (pure (d,Value.ref a,some y)) _ _ s
 refine ao (?_:wpAny ?T A.in1 (if (d==sysModules)=true then _ else(dictSetDefault d (.ref a) y>>=fun r=>ret r)) _ _ s);rw[aK (by rw[hs];decide)];exact af (V8e hu hk D z (fun j p hj=>ao ⟨_,rfl,h1 j p hj⟩) fun n h' D' sb=>ao ⟨_,rfl,h2 n h' D' sb⟩)
def W5r (hs:(d==sysModules)=false)(D:s.heap.DictOfH knd d xs)(z:xs.length<=sizeLine)(h:∀t t',Q (.int xs.length t) {s with toks:=t'}):wpAny ?T A (call (.builtin "len") [.ref d]) Q E s:=by
 have yI:((xs.length:Nat):Int)<2^63:=by rw[fY]at z;omega
 refine Calls.call_function_entry kind_len plain_len entry_len (args_len1 (Value.ref d)) ?_;unfold Builtin.«len»;refine af (m:=oneArg "len" _) (ao (af (m:=callSpecial? (.ref d) (Str.ofString "__len__")) ?_));have hT:=D.typeIs;obtain⟨o,es,ep,ho,hc,hd,he,oj,hn⟩:=D;have xH:es.size=xs.length:=size_of_entries he;refine bT (name:=Str.ofString "__len__") hT oW (ck oW hT PySem.F.entry_dict_len ?_ (PySem.F.args_dict_len_1 _))
 change wpAny ?T _ (dictSize d>>=_) _ _ s
 unfold dictSize;refine af (af (wpAny_dictEntries ho hd (ao (af (wpAny_pendingCount_other hs (af (nv (ao ⟨_,rfl,?_⟩))))))));refine af (bB (ao (af (iV ?_))));rw[nF,xH];rw[aK (?A),aK (?A)];exact af (nv (ao ⟨_,rfl,h _ _⟩))
end
def T9:Nat->D->Bool
 |_,.non=>true
 |_,.int _=>true
 |_,.str _=>true
 |n+1,.tup ks=>ks.all (T9 n)
 |_,_=>false
def GDh (P:Aj)(w:Ak)(p:Af)(ks:M (D×Af))(h:Heap):Prop:=
 (p==sysModules)=false/\ks.length<=sizeLine/\∃xs:M (D×Af×Ad),xs.map (fun x=>(x.1,x.2.1))=ks/\(∀(i:Nat) x,xs[i]?=some x->∃t,x.2.2=.int i t) /\
  ∃o es ep,h.get? p=?R/\o.ExactDict/\o.data=.dict es ep/\es.toList=xs.map (entryOfKey (Z5p P w))/\(xs.map (·.1)).Nodup
def gD (X:Cx)(p:Af)(ks:M (D×Af)):HO:=.ext (GDh X.prog X.w p ks)
section
variable {w:Ak}{p:Af}{ks:M (D×Af)}{K:Fg9}
def GDh.ok (g:GDh P w p ks h):N1 P w H h p (.ext (GDh P w p ks)):=by
 obtain⟨o,e⟩:∃o,h.get? p=?R:=by obtain⟨_,_,_,_,_,o,_,_,e,_⟩:=g;exact⟨o,e⟩
 refine⟨g,⟨o,e⟩,fun h1 h2 cG k=>(by obtain⟨a,b,xs,c,d,o,es,ep,e,r⟩:=cG;exact⟨a,b,xs,c,d,o,es,ep,k _ e,r⟩)⟩
theorem W2b (ok:J8 P w H h)  (ih:∀(d:D) (v:V) (u:Ad),T9 n d=true->A4 K H d v->C9 v u->K9 h n d u):
  ∀(ds:M D) (vs:M V) (us:M Ad),ds.all (T9 n)=true->AllS K H ds vs->C3 vs us->V3 (K9 h n) ds us
 |[],vs,us,_,al,r=>by
  unfold AllS at al;subst al;cases r;exact rfl
 |d::ds,vs,us,hk,al,r=>by
  unfold AllS at al;obtain⟨v,t,rfl,i,al⟩:=al;cases r with
  |cons r1 r2=>
   rw[gZ,cy]at hk;exact⟨_,_,rfl,ih d v _ hk.1 i r1,W2b ok ih ds t _ hk.2 al r2⟩
theorem Y5e (ok:J8 P w H h):∀(n:Nat) (d:D) (v:V) (u:Ad),T9 n d=true->A4 K H d v->C9 v u->K9 h n d u:=by
 have flat:∀(n:Nat) (d:D) (v:V) (u:Ad),(∀ks,d≠.tup ks)->T9 n d=true->A4 K H d v->C9 v u->K9 h n d u:=by
  intro n d v u nt hk i r;cases d with
  |tup ks=>exact absurd rfl (nt ks)
  |non=>unfold A4 at i;subst i;cases (show u=.none from r);cases n<;>exact rfl
  |bl b=>cases n<;>cases hk
  |lst b=>cases n<;>cases hk
  |int j=>unfold A4 at i;subst i;obtain⟨t,rfl⟩:=(show ∃t,u=Value.int j t from r);cases n<;>exact⟨t,rfl⟩
  |str j=>unfold A4 at i;subst i;obtain⟨t,rfl⟩:=(show ∃t,u=Value.str j t from r);cases n<;>exact⟨t,rfl⟩
 intro n
 induction n with
 |zero=>
  intro d v u hk i r;cases d with
  |tup ks=>cases hk
  |_=>exact flat 0 _ v u (by intro ks e;cases e) hk i r
 |succ n ih=>
  intro d v u hk i r;cases d with
  |tup ks=>
   unfold A4 at i;obtain⟨a,xs,rfl,e,al⟩:=i;cases (show u=Value.ref a from r);obtain⟨_,b7,rv,t⟩:=(show N1 P w H h a (.tup xs)from ok a _ e)
   exact⟨a,b7.toArray,rfl,t,by simpa using W2b ok ih ks xs b7 hk al rv⟩
  |_=>exact flat (n+1) _ v u (by intro ks e;cases e) hk i r
def GDh.dict (ok:J8 P w H h)(g:GDh P w p ks h)(hk:∀x∈ks,T9 8 x.1=true/\A4 K H x.1 (.ref x.2)):
  ∃xs:M (D×Af×Ad),xs.map (fun x=>(x.1,x.2.1))=ks/\(∀(i:Nat) x,xs[i]?=some x->∃t,x.2.2=.int i t)/\h.DictOfH (Z5p P w) p xs:=by
 obtain⟨_,_,xs,e,iv,o,es,ep,h1,h2,h3,h4,h5⟩:=g;refine⟨xs,e,iv,o,es,ep,h1,h2,h3,h4,fun x hx=>?_,h5⟩;obtain⟨k1,k2⟩:=hk (x.1,x.2.1) (by rw[<-e];exact ar.mpr ⟨x,hx,rfl⟩);exact Y5e ok 8 _ _ _ k1 k2 rfl
end
section
variable {p:Af}
def W5q:Q5x X (.builtin "len") (fun xs H Q=>∃p ks,xs=[V.ref p]/\H p=some (gD X p ks)/\(∀x∈ks,T9 8 x.1=true/\A4 X.K H x.1 (.ref x.2))/\Q (.int ks.length) H):=by
 intro ah s σ H xs us Q I r ⟨p,ks,e,hp,hk,q⟩;subst e;obtain⟨u,rfl,ru⟩:=Q0k r;cases ru;have g:GDh X.prog X.w p ks s.heap:=(I.hok p _ hp).1;obtain⟨xs,e,iv,D⟩:=g.dict I.hok hk;have el:xs.length=ks.length:=by rw[<-e,ag]
 refine W5r g.1 D (by rw[el];exact g.2.1) fun t t'=>⟨.int ks.length,H,I.tok _,⟨t,by rw[el]⟩,q⟩
def W8k {u:HO}{o:Obj}{H':Hp}(I:A1 X ah σ (B0 H p u) s)(hn:H p=none)(nt:∀xs,u≠.tup xs)(nf:∀o v,u≠.frz o v)(no:∀y,¬ Z0a y u)(nb:∀ps,u≠.tbl ps)(e:s.heap.get? p=?R)(d:∀v,o.data≠.cell v):
  A1 X ((p,o)::ah) σ H s:=by
 have at_:B0 H p u p=some u:=upd_same;have iS:∀b v,H b=some v->B0 H p u b=some v:=fun b v q=>by rw[B2 (Z4 q hn)];exact q
 have i9:∀b,B0 H p u b=none->H b=none/\b≠p:=fun b q=>by
  by_cases z:b=p
  ·subst z;rw[upd_same]at q;cases q
  ·rw[B2 z]at q;exact⟨q,z⟩
 have pL:p≠X.env.locals:=fun z=>by have:=I.free;rw[<-z,upd_same]at this;cases this
 have pF:p∉X.fs:=fun z=>by
  obtain⟨_,o,ho,_⟩:=I.ok.funs.mem z;have:=I.base.free p o ho (I.ok.frf p z) fun w=>I.ok.exfs p w z;rw[upd_same]at this;cases this
 refine⟨I.ok,I.os,I.bare,⟨I.base.keep,I.base.slot,fun b o q n x=>(i9 b (I.base.free b o q n x)).1,I.base.there,fun b xs q=>?_,fun b o v q=>?_,fun b ps q=>?_⟩,I.loc,I.cell,(i9 _ I.free).1,fun x c q=>(i9 _ (I.freeC x c q)).1,fun a ha=>?_,fun b v q=>?_,I.len⟩
 ·have r:=I.base.tups b xs q
  by_cases z:b=p
  ·subst z;rw[upd_same]at r;cases r;exact absurd rfl (nt _)
  ·rw[B2 z]at r;exact r
 ·have r:=I.base.frzs b o v q
  by_cases z:b=p
  ·subst z;rw[upd_same]at r;cases r;exact absurd rfl (nf _ _)
  ·rw[B2 z]at r;exact r
 ·obtain⟨more,r⟩:=I.base.tbls b ps q
  by_cases z:b=p
  ·subst z;rw[upd_same]at r;cases r;exact absurd rfl (nb _)
  ·rw[B2 z]at r;exact⟨more,r⟩
 ·rcases aO.mp ha with z |z
  ·obtain⟨a1,a2,a3⟩:=I.pin a (bp _ z);exact⟨a1,(i9 _ a2).1,a3⟩
  ·rcases au.mp z with z |z
   ·subst z;exact⟨e,hn,pL,pF,d⟩
   ·obtain⟨a1,a2,a3⟩:=I.pin a (aw _ z);exact⟨a1,(i9 _ a2).1,a3⟩
 ·refine(I.hok b v (iS b v q)).stay (fun c v _ r=>r) (fun c v ow r=>?_) fun c xs r=>?_
  ·by_cases z:c=p
   ·subst z;rw[upd_same]at r;cases r;exact absurd ow (no _)
   ·rw[B2 z]at r;exact r
  ·by_cases z:c=p
   ·subst z;rw[upd_same]at r;cases r;exact absurd rfl (nt _)
   ·rw[B2 z]at r;exact r
def Z5z {u:HO}(I:?C)(hn:H p=none)(hx:p∈X.ex\/X.s₀.heap.objs.size<=p)(hL:p≠X.env.locals)(hc:∀x c,X.env.cells.lookup x=some c->c≠p)(hp:∀a∈X.pn++ah,a.1≠p)(new:N1 X.prog X.w (B0 H p u) s.heap p u):
  A1 X ah σ (B0 H p u) s:=by
 have keep:∀b v,H b=some v->B0 H p u b=some v:=fun b v q=>by rw[B2 (Z4 q hn)];exact q
 refine⟨I.ok,I.os,I.bare,⟨I.base.keep,I.base.slot,fun b o q n x=>?_,I.base.there,fun b xs q=>keep _ _ (I.base.tups b xs q),fun b o v q=>keep _ _ (I.base.frzs b o v q),fun b ps q=>let ⟨more,r⟩:=I.base.tbls b ps q;⟨more,keep _ _ r⟩⟩,
  I.loc,I.cell,by rw[B2 (bY hL)];exact I.free,fun x c q=>by rw[B2 (hc x c q)];exact I.freeC x c q,fun a ha=>?_,fun b v q=>?_,I.len⟩
 ·refine(B2 (fun z=>?_)).trans (I.base.free b o q n x);rcases hx with hx |hx
  ·exact x (by rw[z];exact hx)
  ·rw[z]at q;exact absurd (aA q) (fR.mpr hx)
 ·obtain⟨a1,a2,a3⟩:=I.pin a ha;exact⟨a1,by rw[B2 (hp a ha)];exact a2,a3⟩
 ·by_cases z:b=p
  ·subst z;rw[upd_same]at q;cases q;exact new
  ·rw[B2 z]at q;exact(I.hok b v q).stay (fun _ _ _ r=>r) (fun c v _ r=>keep _ _ r) fun c xs r=>keep _ _ r
end
noncomputable def X8 (ks:M D)(d:D):M D:=if d∈ks then ks else ks++[d]
noncomputable def Q1u:M D->M D->M Int
 |_,[]=>[]
 |ks,d::r=>((ks.idxOf d:Nat):Int)::Q1u (X8 ks d) r
theorem W8a {ks:M D}(hn:ks.Nodup){j:Nat}{d:D}(e:ks[j]?=some d):ks.idxOf d=j:=by grind
section
variable {x':Ag}{q3 q5:Pos}{i j:Nat}
def Z8v (X:Cx)(i j:Nat):TE:=fun σ H Q=>∃p ks d a,σ[i]?=some (some (V.ref p))/\H p=some (gD X p ks)/\σ[j]?=some (some (V.ref a))/\A4 X.K H d (.ref a)/\T9 8 d=true/\(∀x∈ks,T9 8 x.1=true/\A4 X.K H x.1 (.ref x.2))/\ks.length<sizeLine /\
 (d∈ks.map (·.1)->Q (.int ((ks.map (·.1)).idxOf d:Nat)) H)/\(d∉ks.map (·.1)->Q (.int ks.length) (B0 H p (gD X p (ks++[(d,a)]))))
def V3r (hu:X.A.units+9<cLine)(ho:PE X o (Q5 i))(he:PE X e (Q5 j))(hg:Gl X "len")(hm:X.mg "len"=none)(hx:PE X x' (Q5 i))(m:M2 X o "setdefault" apos e (.Call (.Name "len" q3) [x'] [] q5) bK)
  (hs:starEach [x'] X.env=(false,eval x' X.env)::starEach [] X.env:=by rfl):
  PE X (.Call (.Attribute o "setdefault" apos) [e,.Call (.Name "len" q3) [x'] [] q5] [] bK) (Z8v X i j):=by
 intro ah s σ H Q I ⟨p,ks,d,a,hp,Hp,ha,ia,kd,hk,hz,q1,q2⟩;refine fV m.base m.few m.line fB cQ jJ (B3 (ho ah s σ H (fun v H1=>v=.ref p/\H1=H) I ⟨_,hp,rfl,rfl⟩) fun u s1 bF=>?_);obtain⟨v,H1,I1,rv,ev,eH⟩:=bF;subst ev eH;obtain rfl:u=Value.ref p:=rv;have g1:GDh X.prog X.w p ks s1.heap:=(I1.hok p _ Hp).1;obtain⟨_,_,_,D1⟩:=g1.dict I1.hok hk;refine⟨D1.typeIs,fun b eb=>?_,?_⟩
 ·cases eb;obtain⟨ob,_,_,h1,h2,_⟩:=D1;exact⟨ob,h1,h2.2.1⟩
 rw[m.trees];have bZ:PE X (.Call (.Name "len" q3) [x'] [] q5) _:=Y7k W5q hg hm rfl (Q1w hx Q4q hs) (he:=hs);refine cD rfl (cJ (bS (B3 (he ah s1 σ H1 (fun v H2=>v=.ref a/\H2=H1) I1 ⟨_,ha,rfl,rfl⟩) fun iv s2 ⟨y,H2,I2,ry,ey,eH⟩=>
  bS (B3 (bZ ah s2 σ H2 (fun v H3=>v=.int ks.length/\H3=H2) I2 ⟨_,hp,p,ks,rfl,by rw[eH];exact Hp,by rw[eH];exact hk,rfl,rfl⟩) fun fv s3 ⟨z,H3,I3,rz,ez,xM⟩=>cM ?_))))
 subst ey eH ez xM;obtain rfl:iv=Value.ref a:=ry;obtain⟨tz,rfl⟩:∃t,fv=Value.int ks.length t:=rz;have g3:GDh X.prog X.w p ks s3.heap:=(I3.hok p _ Hp).1;obtain⟨xs,ex,iv,D3⟩:=g3.dict I3.hok hk;have sr:xs.map (·.1)=ks.map (·.1):=by rw[<-ex,aJ];rfl
 have el:xs.length=ks.length:=by rw[<-ex,ag]
 have nd:(ks.map (·.1)).Nodup:=by obtain⟨_,_,_,_,_,_,_,_,n⟩:=id D3;rw[<-sr];exact n
 refine W5w (knd:=Z5p X.prog X.w) (show X.A.in1.units+8<cLine by simp only[cR];omega) g3.1 (Y5e I3.hok 8 _ _ _ kd ia rfl) D3 (by rw[el];exact g3.2.1) (fun jj pp hj=>?_) fun kS h' D' sb=>?_
 ·obtain⟨t,et⟩:=iv jj _ hj;have ek:(ks.map (·.1))[jj]?=some d:=by rw[<-sr,ai,hj];rfl
  have ei:(ks.map (·.1)).idxOf d=jj:=W8a nd ek;refine⟨.int ((ks.map (·.1)).idxOf d:Nat),H3,I3.tok _,⟨t,by rw[ei];exact et⟩,q1 (aD ek)⟩
 ·rw[sr]at kS;refine⟨.int ks.length,_,?_,⟨tz,rfl⟩,q2 kS⟩;obtain⟨o',es,ep,h1,h2,h3,h4,h5,h6⟩:=D';refine Q5g I3 (by rw[Hp];exact True.intro) sb ⟨o',h1⟩ (GDh.ok ⟨g3.1,by rw[aq];show ks.length+1<=_;omega,xs++[(d,a,Value.int ks.length tz)],by rw[aW,ex];rfl,fun n x hx=>?_,o',es,ep,h1,h2,h3,h4,h6⟩)
  by_cases hn:n<xs.length
  ·rw[aI hn]at hx;exact iv n x hx
  ·rw[aT (?A)]at hx;have e0:n-xs.length=0:=by
    rcases cA (n-xs.length)with z |z
    ·exact z
    ·rw[dR (show [(d,a,Value.int ks.length tz)].length<=n-xs.length from z)]at hx;cases hx
   rw[e0]at hx;cases hx;have:n=ks.length:=?A
   subst this;exact⟨tz,rfl⟩
def V3e:PE X (.Dict [] [] pos) (fun σ H Q=>∀p,H p=none->X.s₀.heap.objs.size<=p->Q (.ref p) (B0 H p (gD X p []))):=by
 intro ah s σ H Q I h;refine wpAny_Dict_empty ⟨.ref s.heap.objs.size,_,I.laid (a:=s.heap.objs.size) (o:=gD X s.heap.objs.size []) (t':=s.toks) (fun _ _ q=>ae _ q) (am _) (GDh.ok ?_),rfl,h _ (I.hok.fresh (am _)) I.sz⟩;exact⟨bU.mpr (bY (aC I.big)),be _,[],rfl,by intro i x e;simp at e,_,#[],0,aE _ rfl,⟨rfl,rfl,rfl⟩,rfl,rfl,dL⟩
end
section
variable {mk:Str}{p1 o1 o2 o3 q3 q5:Pos}{i:Nat}
abbrev Q8v (mk x:Str)(o1 o2 o3 apos bK q3 q5:Pos):Ag:=.Call (.Attribute (.Name x o1) "setdefault" apos) [.Name mk o2,.Call (.Name "len" q3) [.Name x o3] [] q5] [] bK
def V9m (X:Cx)(H0:Hp)(i:Nat)(wi:WIE):TE:=fun σ H Q=>∃p H1 τ,σ[i]?=some (some (V.ref p))/\H=B0 H1 p (gD X p [])/\H1 p=none/\X.s₀.heap.objs.size<=p/\C2 X.K H0 τ σ H1 /\
 wi τ fun ds=>ds.length<=sizeLine/\(∀d∈ds,T9 8 d=true/\∃l,d=.tup l)/\∀v H',A5 H1 H'->F7 X.K H1 H' (.nw ((Q1u [] ds).map .int)) v->Q v H'
def V3o (hc:X.calm=true)(hu:X.A.units+9<cLine)(B:Blk X scope [mk,x] 1 [i])(hi:L4 X H0 (.Name mk p1) iter wi)
  (hg:∀C s H fp,PG (blk X scope C s H fp [mk,x]) (.Name mk p1) (Z0s 0)) (he:∀C s H fp,PE (blk X scope C s H fp [mk,x]) (Q8v mk x o1 o2 o3 apos bK q3 q5) (Z8v X 1 0)) (hs:∀x,foldedSetIterable iter X.env x=pure x:=by intro _;rfl):
  PE X (.ListComp (Q8v mk x o1 o2 o3 apos bK q3 q5) [⟨.Name mk p1,iter,[],0⟩] scope pos) (V9m X H0 i wi):=by
 intro ah s σ H Q I0 ⟨p,H1,τ,hσ,eH,hn1,nZ,hR,hw⟩;subst eH;rw[eval_ListComp];have g0:GDh X.prog X.w p [] s.heap:=(I0.hok p _ upd_same).1;obtain⟨op,tF,rR⟩:∃o,s.heap.get? p=?R/\∀v,o.data≠.cell v:=by
  obtain⟨_,_,_,_,_,o,es,ep,e,_,d,_⟩:=id g0;exact⟨o,e,fun v z=>by rw[d]at z;cases z⟩
 have I:=W8k I0 hn1 (by intro xs z;cases z) (by intro o v z;cases z) (by intro y z;rcases z with z |⟨_,z⟩<;>cases z) (by intro ps z;cases z) tF rR (H':=H1);have pc:∀x c,X.env.cells.lookup x=some c->c≠p:=fun x c q z=>by have:=I0.freeC x c q;rw[z,upd_same]at this;cases this
 have pp:∀a∈X.pn++ah,a.1≠p:=fun a ha z=>by have:=(I0.pin a ha).2.1;rw[z,upd_same]at this;cases this
 refine dG rfl hs (Z0m fun y hy e=>I.ok.has y.1 (B.free y hy e)) B.kind B.names ?_;refine B3 (hi.pi ((p,op)::ah) s σ H1 (fun J H2=>A5 H1 H2/\∃ds,YlS X.K J ds H2/\ds.length<=sizeLine/\(∀d∈ds,T9 8 d=true/\∃l,d=.tup l)/\∀v H',A5 H1 H'->F7 X.K H1 H' (.nw ((Q1u [] ds).map .int)) v->Q v H') I
  ⟨τ,hR,hi.mono τ _ _ (fun ds h J H' sm yl=>⟨sm,ds,yl,h⟩) hw⟩) fun v s1 h1=>B3 h1 fun mq s2 h2=>?_
 obtain⟨it,l6,tn,J,H2,e,sG,T,fD,uc,ef,ds,yl,hz,wF,hq⟩:=h2;subst e;obtain⟨pM,kQ,w4,w5,_⟩:=sG.pin (p,op) (aw _ ak);have I2:A1 X ah σ H2 s2:=sG.pins_of fun a ha=>sG.pin a (aw _ (aj _ ha));have oP:∀b∈l6,M9 X ah H2 b:=fun b hb=>by
  obtain⟨a1,a2,a3,a4,a5,a6⟩:=uc b hb;exact⟨a1,a2,a3,a4,a5,fun a ha=>a6 a (by rcases aO.mp ha with z |z;exact bp _ z;exact aw _ (aj _ z))⟩
 have vq:∀b∈l6,b≠p:=fun b hb z=>(uc b hb).2.2.2.2.2 (p,op) (aw _ ak) z.symm;have xE:M9 X ah H2 p:=⟨kQ,w4,w5,.inr nZ,pc,pp⟩
 generalize hfpe:p::l6=fp;have iH:p∈fp:=by rw[<-hfpe];exact ak
 have jQ:∀b∈l6,b∈fp:=fun b hb=>by rw[<-hfpe];exact aj _ hb
 have f2:∀b∈fp,M9 X ah H2 b:=fun b hb=>by
  rw[<-hfpe]at hb;rcases au.mp hb with z |z
  ·rw[z];exact xE
  ·exact oP b z
 have iM:∀b∈fp,b<s2.heap.objs.size:=fun b hb=>by
  rw[<-hfpe]at hb;rcases au.mp hb with z |z
  ·rw[z];exact aA pM
  ·obtain⟨o,ho,_⟩:=T.obj _ _ fD b z;exact aA ho
 refine bR (dn B.cell (by intro y hy;simp at hy) (fun h₁ ee dE=>?_) B.kind);dsimp only at ee dE ⊢;generalize hH2:s2.heap.push {cls:=.type "list",dict:=none,data:=.seq ([]:M Ad).toArray}=Hq at ee dE ⊢;have hC:Hq.objs.size=s2.heap.objs.size+1:=by rw[<-hH2,ba]
 have eh:s2.heap.objs.size≠Hq.objs.size:=by rw[hC];exact aC (c8 _)
 have dy:s2.heap.objs.size<=Hq.objs.size:=by rw[hC];exact cW _
 have old:∀b o,s2.heap.get? b=?R->h₁.get? b=?R:=fun b o e=>dE.extBut b o (by rw[hC];exact aC (bo (aA e))) (ae _ (hH2▸ae _ e));have fF:h₁.PlainList s2.heap.objs.size #[]:=⟨_,dE.extBut _ _ eh (ae _ (hH2▸aE _ rfl))⟩
 generalize hCe:Hq.objs.size=C at ee dE hC eh dy ⊢;generalize hDe:s2.heap.objs.size=D0 at hC eh dy fF ⊢;have eI:∀b∈fp,b<D0:=fun b hb=>hDe▸iM b hb;have g8:tn 0 h₁:=T.keep _ _ _ fD fun b _ o e=>old b o e;have mU:=Z0h (C:=C) (h':=h₁) (t':=s2.toks+([]:M (Str×Ad)).length) I2 B f2 iM (by rw[hDe];exact dy) ee old;have w9:p≠C:=aC (aB (eI p iH) dy);have jC:H2 D0=none:=I2.hok.fresh (by rw[hDe];exact am _);have tV:D0≠p:=fun z=>by have:=eI p iH;rw[z]at this;exact aU _ this
 have vA:∀x c,(V5 X.env scope.names []).lookup x=some c->c≠p:=fun x c h=>pc x c (Y9 I2 B h);have y0:=Z5z mU (p:=p) (u:=gD X p []) kQ (.inl iH) w9 vA (by intro a ha;simp[blk]at ha) (by
  obtain⟨a,b,xs,c,d,o,es,ep,e,r⟩:=id g0;have eo:o=op:=by rw[tF]at e;exact(az e).symm
  subst eo;exact GDh.ok ⟨a,b,xs,c,d,o,es,ep,old _ _ pM,r⟩)
 have mj:D0∉frs X.stack:=fun z=>by
  rcases au.mp (I2.stkSub _ z)with e |e
  ·have:=I2.lt;rw[<-e,hDe]at this;exact aU _ this
  ·exact I2.nofs (by rw[hDe];exact am _) e
 have ml:∀x c,(V5 X.env scope.names []).lookup x=some c->c≠D0:=fun x c h z=>by
  obtain⟨v,q⟩:=I2.cell x c (Y9 I2 B h);have:=q.lt;rw[z,hDe]at this;exact aU _ this
 have g7:∀{pb:Pn9} {σ':R9}{H':Hp}{s':Ae}{ys:Array Ad}{n:Nat},A1 (blk X scope C s2 H2 fp [mk,x]) pb σ' H' s'->H' D0=none->s'.heap.get? D0=some {cls:=.type "list",data:=.seq ys n} ->
   A1 (blk X scope C s2 H2 fp [mk,x]) [(D0,{cls:=.type "list",data:=.seq ys n})] σ' H' s':=by
  intro pb σ' H' s' ys n I' n' e;refine I'.pins_of fun a hp=>?_;have e':a=(D0,{cls:=.type "list",data:=.seq ys n}):=by simpa using hp
  subst e';exact⟨e,n',eh,mj,fun v z=>by cases z⟩
 have iR:∀{H':Hp}{ob:Obj},(∀b∈l6,H' b=none)->∀b∈l6,M9 (blk X scope C s2 H2 fp [mk,x]) [(D0,ob)] H' b:=by
  intro H' ob hn b hb;have iP:=jQ b hb;refine⟨hn b hb,(aC (aB (eI b iP) dy)),fun z=>?_,.inl iP,fun x c h=>(f2 b iP).2.2.2.2.1 x c (Y9 I2 B h),fun a hp=>?_⟩
  ·rcases au.mp (I2.stkSub b z)with e |e
   ·exact(f2 b iP).2.1 e
   ·exact(f2 b iP).2.2.1 e
  ·have e':a=(D0,ob):=by simpa [blk]using hp
   subst e';exact(aC (eI b iP)).symm
 let lV:Nat->Ae->Prop:=fun k s'=>∃(n:Nat) (σ':R9) (H':Hp) (ks:M (D×Af)) (ys:Array Ad) (nn:Nat) (vs:M V) (es:M Int),A1 (blk X scope C s2 H2 fp [mk,x]) [(D0,{cls:=.type "list",data:=.seq ys nn})] σ' H' s'/\σ'[1]?=some (some (V.ref p))/\A5 H2 H'/\tn n s'.heap /\
  (∀b∈l6,H' b=none)/\H' D0=none/\H' p=some (gD X p ks)/\(∀y∈ks,T9 8 y.1=true/\A4 X.K H' y.1 (.ref y.2))/\ks.length<=n/\C3 vs ys.toList/\vs=es.map V.int/\n<=ds.length/\k=ds.length-n/\es.length=n/\es++Q1u (ks.map (·.1)) (ds.drop n)=Q1u [] ds
 have loop:∀s₃:Ae,s₃={s2 with heap:=h₁,toks:=s2.toks+([]:M (Str×Ad)).length} ->
   codeAny ?D X.A (.compLoop (.ListComp (Q8v mk x o1 o2 o3 apos bK q3 q5) [⟨.Name mk p1,iter,[],0⟩] scope pos) 0 (.ref it) (.ref D0) (compEnvC scope (V5 X.env scope.names []) C X.env))
    (compPost ?D X.A X.xe none (EP X ah σ Q) (.ref D0) C) s₃:=by
  rintro s₃ rfl;obtain⟨nn,ho⟩:=id fF;refine Z4v lV ?_ ds.length ⟨0,_,B0 H2 p (gD X p []),[],#[],nn,[],[],g7 y0 (by rw[B2 tV];exact jC) ho,(by show([none]++[(σ[i]?).join]:R9)[1]?=_;rw[hσ];rfl),G3 kQ _,g8,fun b hb=>by rw[B2 (vq b hb)];exact(oP b hb).1,by rw[B2 tV];exact jC,upd_same,(by intro y hy;cases hy),am _,.nil,rfl,be _,rfl,rfl,by simp⟩;rintro k s3 ⟨n,σ3,H3,ks,ys,nn,vs,es,I3,tf,m9,im,j2,d3,wg,tJ,yB,lv,pX,yx,rfl,lO,w3⟩
  by_cases bW:n<ds.length
  ·refine aS (T.item (blk X scope C s2 H2 fp [mk,x]) rfl rfl rfl hc n _ s3 σ3 H3 (fun _ _=>False) I3 (iR j2) im (yl.go H3 m9 n bW)) (fun r s4 bF=>?_) fun _ _ z=>z;obtain⟨u,hr,h4⟩:=bF;subst hr;refine aS h4 (fun _ s5 bF=>?_) fun _ _ z=>z;obtain⟨v5,H5,I5,r5,y5,gh,l5⟩:=bF;obtain⟨jw,ix⟩:=yl.yld H3 m9 n v5 H5 _ (aa bW) y5;rw[cF bW]at w3;have l8:=I5.pinned (iR l5) (T.obj _ _ gh);obtain⟨kd,l,ed⟩:=wF ds[n] (bv bW);obtain⟨a5,e5⟩:∃a,v5=.ref a:=by
    have t5:A4 X.K H5 (.tup l) v5:=ed▸ix;unfold A4 at t5;obtain⟨a,_,e,_⟩:=t5;exact⟨a,e⟩
   subst e5;refine aS (hg C s2 H2 fp _ s5 σ3 H5 (.ref a5) u (fun σ6 H6=>σ6=σ3.set 0 (some (.ref a5))/\H6=H5) l8 r5 ⟨rfl,rfl⟩) (fun _ s6 bF=>?_) fun _ _ z=>z;obtain⟨σ6,H6,I6,e6,xL⟩:=bF;subst e6 xL;refine gT ?_;rw[aP rfl];have yA:σ3.length=2:=I3.len;have rl:H6 p=some (gD X p ks):=jw _ _ wg;have pO:∀y∈ks,T9 8 y.1=true/\A4 X.K H6 y.1 (.ref y.2):=fun y hy=>⟨(tJ y hy).1,(tJ y hy).2.mono (Kp.of jw) _ _⟩
   let R7:V->Hp->Prop:=fun v H7=>∃kq,H7 p=some (gD X p kq)/\(∀y∈kq,T9 8 y.1=true/\A4 X.K H7 y.1 (.ref y.2))/\kq.length<=n+1/\(∀b u,b≠p->H6 b=some u->H7 b=some u)/\Kp H6 H7/\v=.int (((ks.map (·.1)).idxOf ds[n]:Nat):Int)/\kq.map (·.1)=X8 (ks.map (·.1)) ds[n];refine aS (he C s2 H2 fp _ s6 _ H6 R7 I6 ⟨p,ks,ds[n],a5,by rw[aN (?G)];exact tf,rl,by rw[bi (?A)],ix,kd,pO,?A,fun gQ=>?_,fun kS=>?_⟩) (fun y s8 ⟨v8,H8,I8,md,kq,wd,wG,wz,ve,yu,xG,xI⟩=>?_) fun _ _ z=>z
   ·exact⟨ks,rl,pO,?A,fun _ _ _ q=>q,Kp.refl _,rfl,by unfold X8;rw[aP gQ]⟩
   ·have kp:Kp H6 (B0 H6 p (gD X p (ks++[(ds[n],a5)]))):=Q0o rl (by intro xs z;cases z) (by intro o u z;cases z) _;refine⟨ks++[(ds[n],a5)],upd_same,fun y hy=>?_,by rw[aq];show ks.length+1<=_;omega,fun b u hb q=>by rw[B2 hb];exact q,kp,?_,?_⟩
    ·rcases aO.mp hy with z |z
     ·exact⟨(pO y z).1,(pO y z).2.mono kp _ _⟩
     ·rw[aG.mp z];exact⟨kd,ix.mono kp _ _⟩
    ·rw[qj kS,ag]
    ·unfold X8;rw[aK kS,aW];rfl
   ·have pd:=I8.pin (D0,_) (aw _ (bp _ ak));obtain⟨o8,d8,_⟩:=pd;have lE:ys.size<=sizeLine:=by
     have e1:=lv.length;have e4:ys.toList.length=ys.size:=by simp
     have e5:vs.length=n:=by rw[pX,ag,lO]
     omega
    refine dP (hsz:=lE) ⟨nn,o8⟩ fun h₅ oh mt=>?_;have oV:A1 (blk X scope C s2 H2 fp [mk,x]) (Y4 l6 s5.heap) (σ3.set 0 (some (.ref a5))) H8 s8:=I8.pins_of fun a ha=>I8.pin a (aw _ (aw _ ha));have I9:A1 (blk X scope C s2 H2 fp [mk,x]) (Y4 l6 s5.heap) (σ3.set 0 (some (.ref a5))) H8 {s8 with heap:=h₅}:=by
     refine oV.turned (t':=s8.toks) (it:=D0) (fun b o hb e=>(mt.2 b hb).trans e) d8 eh (.inr (by rw[<-hDe];exact am _)) ml (fun a hp z=>?_);obtain⟨q1,_⟩:=Q8x (by simpa [blk]using hp);exact aC (eI _ (jQ _ q1)) z
    obtain⟨nS,o9⟩:=oh;have nH:tn (n+1) h₅:=T.keep _ _ _ gh fun b hb o e=>(I9.pin (b,o) (aw _ (Q2j hb e))).1;refine⟨ds.length-(n+1),?A,n+1,_,H8,kq,_,nS,vs++[v8],es++[(((ks.map (·.1)).idxOf ds[n]:Nat):Int)],g7 I9 d8 o9,by rw[aN (?G)];exact tf,fun b u q=>?_,nH,fun b hb=>?_,d8,wd,wG,wz,?_,?_,bW,rfl,by rw[aq,lO];rfl,?_⟩
    ·have nb:b≠p:=fun z=>by rw[z,kQ]at q;cases q
     exact ve b u nb (jw _ _ (m9 _ _ q))
    ·obtain⟨o,e,_⟩:=T.obj _ _ gh b hb;exact(I9.pin (b,o) (aw _ (Q2j hb e))).2.1
    ·have:(ys.push y).toList=ys.toList++[y]:=by simp
     rw[this];exact lv.append (.cons md .nil)
    ·rw[pX,xG,aW];rfl
    ·rw[<-w3,Q1u,xI,bN];rfl
  ·have e:n=ds.length:=?A
   subst e;refine aS (T.done (blk X scope C s2 H2 fp [mk,x]) rfl rfl rfl hc ds.length _ s3 σ3 H3 (fun _ _=>False) I3 (iR j2) im (yl.stop H3 m9)) (fun r s4 bF=>?_) fun _ _ z=>z;obtain⟨hr,I4⟩:=bF;subst hr;have o4:=(I4.pin (D0,_) (aw _ ak)).1;rw[dY]at w3;have w3:es++[]=Q1u [] ds:=w3;rw[aZ]at w3;obtain⟨m4,kU,_⟩:=id I4.loc;refine⟨m4,kU,fun h' sb=>?_⟩;have qY:vs.length<=sizeLine:=by rw[pX,ag,lO];exact hz
   refine⟨.ref D0,_,Z4p I2 I4 f2 (by rw[hDe];exact dy) (by rw[hDe];exact am _) eh d3 ⟨nn,o4⟩ lv qY sb,rfl,hq _ _ (ef.trans (m9.trans (G3 d3 _))) ⟨D0,vs,rfl,ef.free jC,upd_same,?_⟩⟩;rw[pX,<-w3];exact AllS.ints
 exact gx (loop _ rfl) (T.self _ 0 _ _ _ g8 (loop _ rfl))
variable {sp m8 dp rp:Pos}
def C2.unset {K:Fg9}    (hR:C2 K H0 τ σ H)(i:Nat)(v:V):C2 K H0 (τ.set i none) (σ.set i (some v)) H:=by
 have at_:∀(j:Nat) (t:Sl),(τ.set i none)[j]?=some (some t)->j≠i/\τ[j]?=some (some t):=fun j t e=>by
  by_cases z:j=i
  ·subst z;rw[List.getElem?_set_self' ]at e;cases q:τ[j]? with
   |none=>rw[q]at e;cases e
   |some w=>rw[q]at e;cases e
  ·rw[aN (bY z)]at e;exact⟨z,e⟩
 refine⟨by rw[bG,bG];exact hR.len,hR.same,fun j t e=>?_,fun j k t u w dg e2 e3 m1 m2 q1 q2=>?_⟩
 ·obtain⟨z,e⟩:=at_ j t e;obtain⟨w,q,r⟩:=hR.here j t e;exact⟨w,by rw[aN (bY z)];exact q,r⟩
 ·obtain⟨z1,e2⟩:=at_ j t e2;obtain⟨z2,e3⟩:=at_ k u e3;rw[aN (bY z1)]at q1;rw[aN (bY z2)]at q2;exact hR.apart j k t u w dg e2 e3 m1 m2 q1 q2
noncomputable def Z9p (i:Nat)(wi:WIE):WS:=fun E τ=>i<τ.length/\wi (τ.set i none) fun ds=>ds.length<=sizeLine/\(∀d∈ds,T9 8 d=true/\∃l,d=.tup l)/\E.rt (.nw ((Q1u [] ds).map .int))
def W3i (hc:X.calm=true)(hu:X.A.units+9<cLine)(B:Blk X scope [mk,x] 1 [i])(hi:L4 X H0 (.Name mk p1) iter wi)
  (hg:∀C s H fp,PG (blk X scope C s H fp [mk,x]) (.Name mk p1) (Z0s 0)) (he:∀C s H fp,PE (blk X scope C s H fp [mk,x]) (Q8v mk x o1 o2 o3 apos bK q3 q5) (Z8v X 1 0))
  (hN:X.N.Nodup) (mJ:X.N[i]?=some x) (hx:Loc X.env.scope x) (hf:?K:=by sleep 1)
  (hs:∀x,foldedSetIterable iter X.env x=pure x:=by intro _;rfl) (jf:swapsWith (.Dict [] [] dp) (some (.Name x m8)) sp.line X.env=pure false:=by rfl):
  A7 X H0 [.Assign [.Name x m8] (.Dict [] [] dp) sp,.Return (some (.ListComp (Q8v mk x o1 o2 o3 apos bK q3 q5) [⟨.Name mk p1,iter,[],0⟩] scope pos)) rp] (Z9p i wi) where
 mono:=fun τ E F le h=>⟨h.1,hi.mono _ _ _ (fun ds⟨a,b,c⟩=>⟨a,b,le.rt _ c⟩) h.2⟩
 ps:=Z1w (Y7r (Q6w hN mJ hx V3e jf hf) (Y7s (Z7m (V3o hc hu B hi hg he hs)))) fun D σ H cU p hp nZ=>by
  obtain⟨τ,hR,h⟩:=cU;have hl:i<σ.length:=by rw[<-hR.len];exact h.1
  refine⟨p,H,τ.set i none,by rw[bi hl],rfl,hp,nZ,hR.unset i _,hi.mono _ _ _ (fun ds ⟨a,b,c⟩=>⟨a,b,fun v H' sm ir=>?_⟩) h.2⟩;exact c v H' (hR.same.trans sm) (ir.older hR.same)
@[simp] theorem V7w {E:F6}:Z9p i wi E τ=(i<τ.length/\wi (τ.set i none) fun ds=>ds.length<=sizeLine/\(∀d∈ds,T9 8 d=true/\∃l,d=.tup l)/\E.rt (.nw ((Q1u [] ds).map .int))):=rfl
end
def R8 (K:Fg9)(a:Af)(kvs:M (B8×D)):Hp->Prop:=fun H=>∃o ps,H a=some (.frz o (.dK ps))/\D7 K H kvs ps
def R8.mono {K:Fg9}  {kvs:M (B8×D)}:Q6c (R8 K a kvs):=fun H H' k⟨o,ps,h,q⟩=>⟨o,ps,k.frz _ _ _ h,q.mono k _ _⟩
def Y4t {ps:M (B8×V)}(I:?C)(h:H a=some (.dK ps)):∃o,A1 X ah σ (B0 H a (.frz o (.dK ps))) s:=by
 have ok:=I.hok a _ h;obtain⟨_,_,_,_,o,_,_,q,_⟩:=id (show N1 X.prog X.w H s.heap a (.dK ps)from ok);refine⟨o,I.write (t':=s.toks) (h':=s.heap) (e:=a) (o:=.frz o (.dK ps)) (by rw[h];trivial) (.inl rfl) (fun b u _ k=>k) ⟨_,q⟩ ⟨q,?_⟩⟩;exact ok
def C2.freezeK {K:Fg9}  {i:Nat}{kvs:M (B8×D)}{o:Obj}{ps:M (B8×V)}(hR:C2 K H0 τ σ H)(e1:τ[i]?=some (some (.dk kvs)))(hv:σ[i]?=some (some (.ref a)))(h0:H0 a=none)(sq:H a=some (.dK ps))(kv:D7 K H kvs ps):
  C2 K H0 (τ.set i (some (.cl a (R8 K a kvs)))) σ (B0 H a (.frz o (.dK ps))):=by
 have kp:Kp H (B0 H a (.frz o (.dK ps))):=Q0o sq (by intro xs z;cases z) (by intro o u z;cases z) _;exact hR.mutG e1 rfl hv h0 sq (by intro xs z;cases z) (by intro o u z;cases z) ⟨rfl,⟨o,ps,upd_same,kv.mono kp _ _⟩,R8.mono⟩
section
variable {w:WS}
theorem Z7l {t:TS}(h:PS X st t):PS X st (fun D σ H=>t {D with nx:=fun σ' H'=>∀ah s,A1 X ah σ' H' s->∃eX,A1 X ah σ' eX s/\D.nx σ' eX} σ H):=by
 intro ah s σ H D I q;refine B3 (h ah s σ H _ I q) fun f s1 q1=>?_;cases f with
 |next=>
  obtain⟨σ',H',I',q2⟩:=q1;obtain⟨eX,y1,q3⟩:=q2 ah s1 I';exact⟨σ',eX,y1,q3⟩
 |brk=>exact q1
 |cont=>exact q1
 |ret v=>exact q1
def Z9i (K:Fg9)(i:Nat)(w:WS):WS:=fun E τ=>w {E with nx:=fun τ'=>∃kvs,τ'[i]?=some (some (.dk kvs))/\∀a,E.nx (τ'.set i (some (.cl a (R8 K a kvs))))} τ
def W2w (i:Nat)(h:DS X H0 st w):DS X H0 st (Z9i X.K i w) where
 mono:=fun τ E F le q=>h.mono τ {E with nx:=fun τ'=>∃kvs,τ'[i]?=some (some (.dk kvs))/\∀a,E.nx (τ'.set i (some (.cl a (R8 X.K a kvs))))} {F with nx:=fun τ'=>∃kvs,τ'[i]?=some (some (.dk kvs))/\∀a,F.nx (τ'.set i (some (.cl a (R8 X.K a kvs))))} ⟨fun τ'⟨kvs,e,q⟩=>⟨kvs,e,fun a=>le.nx _ (q a)⟩,le.rt,le.bk,le.ct⟩ q
 ps:=S6 (Z7l h.ps) fun D σ H ⟨τ,hR,q⟩=>⟨τ,hR,h.mono τ {Q3 X.K H0 H D with nx:=fun τ'=>∃kvs,τ'[i]?=some (some (.dk kvs))/\∀a,(Q3 X.K H0 H D).nx (τ'.set i (some (.cl a (R8 X.K a kvs))))} _ ⟨fun τ' dF σ' H' kp eM ah s I=>by
  obtain⟨kvs,e,q⟩:=dF;obtain⟨a,ps,hv,h0,sq,kv⟩:=eM.dkAt e;obtain⟨o,I2⟩:=Y4t I sq;exact⟨_,I2,q a σ' _ (kp.trans (Q0o sq (by intro xs z;cases z) (by intro o u z;cases z) _)) (eM.freezeK e hv h0 sq kv)⟩,fun _ h=>h,fun _ h=>h,fun _ h=>h⟩ q⟩
end
section
variable {a b:Ag}{p2:Pos}{i:Nat}
def Z9s (K:Fg9)(i:Nat):WS:=fun E τ=>∃kvs,τ[i]?=some (some (.dk kvs))/\∀a,E.rt (.cl a (R8 K a kvs))
def W3b (he:PE X e (Q5 i)):DS X H0 (.Return (some e) pos) (Z9s X.K i) where
 mono:=fun τ E F le⟨kvs,e1,q⟩=>⟨kvs,e1,fun a=>le.rt _ (q a)⟩
 ps:=by
  intro ah s σ H D I ⟨τ,hR,kvs,e1,q⟩;obtain⟨a,ps,hv,h0,sq,kv⟩:=hR.dkAt e1;refine kB (B3 (he ah s σ H (fun v H1=>v=.ref a/\H1=H) I ⟨_,hv,rfl,rfl⟩) fun u s1 bF=>?_);obtain⟨v,H1,I1,rv,ev,eH⟩:=bF;subst ev eH;obtain⟨ob,I2⟩:=Y4t I1 sq;have kp:Kp H1 (B0 H1 a (.frz ob (.dK ps))):=Q0o sq (by intro xs z;cases z) (by intro o u z;cases z) _;refine⟨.ref a,σ,_,I2,rv,q a _ _ (fun b ob hb=>?_) ⟨rfl,⟨ob,ps,upd_same,kv.mono kp _ _⟩,R8.mono⟩⟩;rw[B2 (Z4 hb h0)];exact hR.same _ _ hb
def Z9t (i:Nat)(we:WE):WS:=fun E τ=>we τ fun r=>∃a Φ,r=.cl a Φ/\E.nx (τ.set i (some (.cl a Φ)))
def W3e (he:DE X H0 e we)(hN:X.N.Nodup)(hi:X.N[i]?=some x)(hx:Loc X.env.scope x)(hs:swapsWith e (some (.Name x cg)) pos.line X.env=pure false:=by rfl)
  (hf:?K:=by sleep 1):DS X H0 (.Assign [.Name x cg] e pos) (Z9t i we) where
 mono:=fun τ E F le h=>he.mono τ _ _ (fun r⟨a,Φ,e1,q⟩=>⟨a,Φ,e1,le.nx _ q⟩) h
 ps:=S6 (Q6w hN hi hx he.pe hs hf) fun D σ H ⟨τ,hR,h⟩=>⟨τ,hR,he.mono τ _ _ (fun r g9 v H1 s1 ir=>by
  obtain⟨a,Φ,e1,q⟩:=g9;subst e1;exact q _ _ (Kp.of s1) ((hR.mono s1).set (s:=.cl a Φ) ir fun m=>by cases m)) h⟩
def C2.fkAt {K:Fg9}    {a:Af}{kvs:M (B8×D)}(hR:C2 K H0 τ σ H)(e1:τ[i]?=some (some (.cl a (R8 K a kvs)))):σ[i]?=some (some (.ref a))/\∃o ps,H a=some (.frz o (.dK ps))/\D7 K H kvs ps:=by
 obtain⟨v,hv,rfl,q,_⟩:=hR.here i _ e1;exact⟨hv,q⟩
def Z3b (K:Fg9)(i:Nat)(we:WE):WE:=fun τ Q=>∃a kvs,τ[i]?=some (some (.cl a (R8 K a kvs)))/\we τ fun r=>∃kd k d,r=.st kd/\Q8 kd=some k/\G5 kvs k=some d/\Q (.st d)
def Y0v (hu:X.A.units+1<cLine)(ho:PE X o (Q5 i))(he:DE X H0 e we)(hs:Q7t e):DE X H0 (.Subscript o e pos) (Z3b X.K i we) where
 mono:=fun τ P Q f ji=>(by obtain⟨a,kvs,e1,h⟩:=ji;exact⟨a,kvs,e1,he.mono τ _ _ (fun r jh=>(by obtain⟨ds,ks,d,a1,a2,a3,a4⟩:=jh;exact⟨ds,ks,d,a1,a2,a3,f _ a4⟩)) h⟩)
 pe:=R0 (Z7i hu ho he.pe hs) fun σ H Q kO=>by
  obtain⟨τ,hR,a,kvs,e1,h⟩:=kO;obtain⟨hv,ob,ps,sq,kv⟩:=hR.fkAt e1;refine⟨_,hv,τ,hR,he.mono τ _ _ (fun r ⟨kd,k,d,a1,a2,a3,a4⟩ v H1 s1 ir=>?_) h⟩;subst a1;cases Q4l a2 (show A4 X.K H1 kd v from ir);rcases D7.val (k:=k) (kv.mono (Kp.of s1) _ _)with⟨n1,_⟩ |⟨d',v',n1,n2,n3⟩
  ·rw[a3]at n1;cases n1
  ·rw[a3]at n1;cases n1;exact⟨a,v',rfl,.inl ⟨ps,k,.inr ⟨ob,s1 _ _ sq⟩,rfl,n2.symm⟩,a4 _ _ s1 n3⟩
def Z9h (K:Fg9)(i:Nat)(we:WE):WE:=fun τ Q=>∃a kvs,τ[i]?=some (some (.cl a (R8 K a kvs)))/\we τ fun r=>∃kd k,r=.st kd/\Q8 kd=some k/\Q (.st ((G5 kvs k).getD .non))
def W2k (hu:X.A.units+1<cLine)(ho:PE X o (Q5 i))(he:DE X H0 e we)(m:M1 X o "get" apos e bK):DE X H0 (.Call (.Attribute o "get" apos) [e] [] bK) (Z9h X.K i we) where
 mono:=fun τ P Q f jg=>(by obtain⟨a,kvs,e1,h⟩:=jg;exact⟨a,kvs,e1,he.mono τ _ _ (fun r⟨ds,ks,a1,a2,a4⟩=>⟨ds,ks,a1,a2,f _ a4⟩) h⟩)
 pe:=R0 (V3b hu ho he.pe m) fun σ H Q iL=>by
  obtain⟨τ,hR,a,kvs,e1,h⟩:=iL;obtain⟨hv,ob,ps,sq,kv⟩:=hR.fkAt e1;refine⟨_,hv,a,rfl,.inl ⟨ps,.inr ⟨ob,sq⟩⟩,τ,hR,he.mono τ _ _ (fun r ⟨kd,k,a1,a2,a4⟩ v H1 s1 ir=>?_) h⟩;subst a1;cases Q4l a2 (show A4 X.K H1 kd v from ir);refine⟨_,.inl ⟨ps,k,.inr ⟨ob,s1 _ _ sq⟩,rfl,rfl⟩,a4 _ _ s1 ?_⟩;rcases D7.val (k:=k) (kv.mono (Kp.of s1) _ _)with⟨n1,n2⟩ |⟨d',v',n1,n2,n3⟩
  ·rw[n1,n2];exact Q7s (K:=X.K) (H:=H1)
  ·rw[n1,n2];exact n3
def Z9l (i:Nat):WS:=fun E τ=>E.nx (τ.set i (some (.dk [])))
def W2x (hN:X.N.Nodup)(hi:X.N[i]?=some x)(hx:Loc X.env.scope x)(hs:swapsWith (.Dict [] [] p2) (some (.Name x cg)) pos.line X.env=pure false:=by rfl)
  (hf:?K:=by sleep 1):DS X H0 (.Assign [.Name x cg] (.Dict [] [] p2) pos) (Z9l i) where
 mono:=fun τ E F le h=>le.nx _ h
 ps:=S6 (Q6w hN hi hx V3f hs hf) fun D σ H gJ p hp=>by
  obtain⟨τ,hR,h⟩:=gJ;have sm:A5 H (B0 H p (.dK [])):=G3 hp _;refine h _ _ (Kp.of sm) ((hR.mono sm).set (s:=.dk []) ⟨p,[],rfl,hR.same.free hp,upd_same,rfl⟩ fun _ j t hj e m q=>?_);obtain⟨o,ho⟩:=hR.tracked e m q;rw[hp]at ho;cases ho
def Z3d (i:Nat)(we wv:WE):WS:=fun E τ=>i<τ.length/\we τ fun rk=>∃kd k,rk=.st kd/\Q8 kd=some k/\wv τ fun r=>∃d,r=.st d/\E.nx (τ.set i (some (.dk [(k,d)])))
def Y1a {v:Ag}(he:DE X H0 e we)(hv:DE X H0 v wv)(hN:X.N.Nodup)(hi:X.N[i]?=some x)(hx:Loc X.env.scope x)(hs:swapsWith (.Dict [some e] [v] p2) (some (.Name x cg)) pos.line X.env=pure false:=by rfl)
  (hf:?K:=by sleep 1):DS X H0 (.Assign [.Name x cg] (.Dict [some e] [v] p2) pos) (Z3d i we wv) where
 mono:=fun τ E F le h=>⟨h.1,he.mono τ _ _ (fun r iK=>(by obtain⟨ds,ks,a1,a2,h⟩:=iK;exact⟨ds,ks,a1,a2,hv.mono τ _ _ (fun r⟨d,b1,b2⟩=>⟨d,b1,le.nx _ b2⟩) h⟩)) h.2⟩
 ps:=S6 (Q6w hN hi hx (V3c (V4h he.pe hv.pe V4i) rfl rfl ?H ?H) hs hf) fun D σ H hq15 p hp=>by
  obtain⟨τ,hR,hl,h⟩:=hq15;have sm:A5 H (B0 H p (.dK [])):=G3 hp _;have fm:=hR.mono sm;refine⟨τ,fm,he.mono τ _ _ (fun rk ⟨kd,k,a1,a2,h⟩ y H1 s1 ik=>?_) h⟩;subst a1;have fh:=fm.mono s1;refine⟨τ,fh,hv.mono τ _ _ (fun r ⟨d,b1,b2⟩ u H2 s2 iv=>?_) h⟩;subst b1;cases Q4l a2 (show A4 X.K H1 kd y from ik);have ep:=s2 _ _ (s1 _ _ (upd_same (H:=H) (a:=p) (o:=.dK [])));refine⟨ep,[(k,u)],rfl,by simp,?_⟩;have e1:Q6u [] [(k,u)]=[(k,u)]:=rfl;rw[e1];have kp:Kp H2 (B0 H2 p (.dK [(k,u)])):=Q0o ep (by intro xs z;cases z) (by intro o u z;cases z) _;have kh:=fh.mono s2;have h0:H0 p=none:=hR.same.free hp;have qQ:Kp H (B0 H2 p (.dK [(k,u)])):=(Kp.of ((sm.trans s1).trans s2)).trans kp;have gQ:∀(j:Nat) (t:Sl),τ[j]?=some (some t)->t.mut=true->σ[j]?≠some (some (.ref p)):=fun j t e m q=>by
   obtain⟨o,ho⟩:=hR.tracked e m q;rw[hp]at ho;cases ho
  have lR:C2 X.K H0 (τ.set i (some (.dk []))) (σ.set i (some (.ref p))) H2:=kh.set (s:=.dk []) ⟨p,[],rfl,h0,ep,rfl⟩ fun _ j t hj e m q=>gQ j t e m q;have g1:(τ.set i (some (.dk [])))[i]?=some (some (.dk [])):=bi hl;have g2:(σ.set i (some (V.ref p)))[i]?=some (some (.ref p)):=bi (by rw[<-hR.len];exact hl);have lQ:=lR.mutG (s':=.dk [(k,d)]) (new:=.dK [(k,u)]) g1 rfl g2 h0 ep (by intro xs z;cases z) (by intro o u z;cases z) ⟨p,[(k,u)],rfl,h0,upd_same,⟨u,[],rfl,A4.mono kp _ _ iv,rfl⟩⟩;rw[List.set_set]at lQ;exact b2 _ _ qQ lQ
def Z3e (i:Nat)(we wv:WE):WS:=fun E τ=>∃kvs,τ[i]?=some (some (.dk kvs))/\we τ fun rk=>∃kd k,rk=.st kd/\Q8 kd=some k/\wv τ fun r=>∃d,r=.st d/\kvs.length<sizeLine /\
 E.nx (if (G5 kvs k).isSome=true then τ else τ.set i (some (.dk (kvs++[(k,d)]))))
def V3j {f:Ag}{tx:TE}(ho:PE X o td)(he:PE X e ty)(hf:PE X f tx)(m:M2 X o "setdefault" apos e f bK):PE X (.Call (.Attribute o "setdefault" apos) [e,f] [] bK)
  (fun σ H Q=>td σ H fun x H1=>∃a qC,x=.ref a/\H1 a=some (.dK qC)/\ty σ H1 fun y H2=>tx σ H2 fun z H3=>∃ps k,H3 a=some (.dK ps)/\y=kV k/\ps.length<sizeLine/\(∀v,U9 ps k=some v->Q v H3)/\(U9 ps k=none->Q z (B0 H3 a (.dK (T0 ps k z))))):=by
 intro ah s σ H Q I h;refine fV m.base m.few m.line fB cQ jJ (B3 (ho ah s σ H _ I h) fun u s1 bF=>?_);obtain⟨x,H1,I1,rx,a,qC,ex,ea,q1⟩:=bF;subst ex;obtain rfl:u=Value.ref a:=rx;obtain⟨t1,t2,_⟩:=Y4y I1 (.inl ⟨qC,.inl ea⟩);refine⟨t1,t2,?_⟩;rw[m.trees];refine cD rfl (cJ (bS (B3 (he ah s1 σ H1 _ I1 q1) fun iv s2 ⟨y,H2,I2,ry,q2⟩=>
  bS (B3 (hf ah s2 σ H2 _ I2 q2) fun fv s3 ⟨z,H3,I3,rz,ps,k,e3,ey,hz,g1,g2⟩=>cM ?_))))
 subst ey;obtain⟨z0,hd,vs,rel,dd⟩:=Z0o I3.hok e3;have el:vs.length=ps.length:=by rw[<-rel.length]
 have rv:=rel.val k;refine yW cQ dd.typeIs jr (j3 _ _ _) (kt_meets_setdefault (N6 X.prog X.w) a (Q4k ry) hd fv) ⟨vs,dd,?A,fun v hv=>?_,fun hn h' jD hs=>?_⟩
 ·rw[hv]at rv;cases ev:U9 ps k with
  |none=>rw[ev]at rv;exact rv.elim
  |some w=>rw[ev]at rv;exact⟨w,H3,I3.tok _,rv,g1 w ev⟩
 ·rw[hn]at rv;cases ev:U9 ps k with
  |some w=>rw[ev]at rv;exact rv.elim
  |none=>
   have he:∃q,h'.get? a=some q:=let ⟨q,_,_,hq,_⟩:=jD;⟨q,hq⟩;have hl:(T0 ps k z).length<=sizeLine:=by have:=Q8n ps k z;omega
   exact⟨z,_,Q5g I3 (by rw[e3];exact True.intro) hs he (Z5c hl hd (rel.put k rz) jD),rz,g2 ev⟩
def J0p [DecidableEq κ]:∀{kvs:M (κ×D)}{k:κ},G5 kvs k=none->(kvs.any fun kv=>decide (kv.1=k))=false:=by simp[G5,bA,gY]<;>omega
def W2z {v:Ag}(ho:PE X o (Q5 i))(he:DE X H0 e we)(hv:DE X H0 v wv)(m:M2 X o "setdefault" apos e v bK):DS X H0 (.Expr (.Call (.Attribute o "setdefault" apos) [e,v] [] bK) pos) (Z3e i we wv) where
 mono:=fun τ E F le hq16=>(by obtain⟨kvs,e1,h⟩:=hq16;exact⟨kvs,e1,he.mono τ _ _ (fun r mz=>(by obtain⟨kd,k,a1,a2,h⟩:=mz;exact⟨kd,k,a1,a2,hv.mono τ _ _ (fun r⟨d,b1,b2,b3⟩=>⟨d,b1,b2,le.nx _ b3⟩) h⟩)) h⟩)
 ps:=S6 (Z1v (V3j ho he.pe hv.pe m)) fun D σ H mw=>by
  obtain⟨τ,hR,kvs,e1,h⟩:=mw;obtain⟨a,ps,ic,h0,sq,kv⟩:=hR.dkAt e1;refine⟨_,ic,a,ps,rfl,sq,τ,hR,he.mono τ _ _ (fun rk ⟨kd,k,a1,a2,h⟩ y H1 s1 ik=>?_) h⟩;subst a1;have fm:=hR.mono s1;refine⟨τ,fm,hv.mono τ _ _ (fun r ⟨d,b1,b2,b3⟩ u H2 s2 iv=>?_) h⟩;subst b1;have fh:=fm.mono s2;have fe:=s2 _ _ (s1 _ _ sq);have ko:=(kv.mono (Kp.of s1) _ _).mono (Kp.of s2) _ _;refine⟨ps,k,fe,Q4l a2 (show A4 X.K H1 kd y from ik),by rw[<-D7.length ko];exact b2,fun v hv=>?_,fun hn=>?_⟩
  ·rcases D7.val (k:=k) ko with⟨n1,n2⟩ |⟨d',v',n1,n2,n3⟩
   ·rw[hv]at n2;cases n2
   ·rw[n1]at b3;have b3:(Q3 X.K H0 H D).nx τ:=b3;exact b3 _ _ (Kp.of (s1.trans s2)) fh
  ·rcases D7.val (k:=k) ko with⟨n1,n2⟩ |⟨d',v',n1,n2,n3⟩
   ·rw[n1]at b3;have b3:(Q3 X.K H0 H D).nx (τ.set i (some (.dk (kvs++[(k,d)])))):=b3;have kp:Kp H2 (B0 H2 a (.dK (T0 ps k u))):=Q0o fe (by intro xs z;cases z) (by intro o u z;cases z) _;have ek:R1 kvs k d=kvs++[(k,d)]:=by unfold R1;rw[aK (by rw[J0p n1];simp)]
    refine b3 _ _ ((Kp.of (s1.trans s2)).trans kp) (fh.mutG e1 rfl ic h0 fe (by intro xs z;cases z) (by intro o u z;cases z) ⟨a,_,rfl,h0,upd_same,?_⟩);rw[<-ek];exact D7.mono kp _ _ (D7.put iv ko)
   ·rw[hn]at n2;cases n2
end
def Y2r {C:Af}    {σ':R9}  {u0:HO}
  (I2:A1 X ah σ H2 s2) (Ib:A1 ?L pb σ' H' s1) (f2:∀b∈fp,M9 X ah H2 b) (hC:s2.heap.objs.size<=C) (hD:s2.heap.objs.size<=D0) (sj:H' D0=none)
  (sb:Heap.SameBut C s1.heap h') (new:N1 X.prog X.w (B0 H' D0 u0) h' D0 u0):A1 X ah σ (B0 H' D0 u0) {s1 with heap:=h'}:=by
 have mn:∀b o,s2.heap.get? b=?R->b≠C:=fun b o e=>aC (aB (aA e) hC);have qL:∀b o,s2.heap.get? b=?R->b≠D0:=fun b o e=>aC (aB (aA e) hD);have keep:=Y4q sb;have base:Un (frs X.stack) fp H2 H' s2.heap s1.heap:=Ib.base;have sk:H' C=none:=Ib.free;have kn:∀b u,H' b=some u->b≠C:=fun b u e z=>by rw[z,sk]at e;cases e
 have S3:∀b u,H' b=some u->b≠D0:=fun b u e z=>by rw[z,sj]at e;cases e
 refine I2.call' (s':={s1 with heap:=h'}) (ch:=fp) Ib.os ⟨fun b o e n hb hx=>keep b o (mn b o e) (base.keep b o e n hb hx),fun b o e n hb hx=>?_,fun b o e n hx=>?_,fun b o e hx=>?_,fun b xs e=>?_,fun b o u e=>?_,fun b ps e=>?_⟩ (fun b u e=>?_) Ib.bare (fun b hb=>?_)
 ·obtain⟨sl,q⟩:=base.slot b o e n hb hx;exact⟨sl,keep b _ (mn b o e) q⟩
 ·rw[B2 (qL b o e)];exact base.free b o e n hx
 ·obtain⟨o',q⟩:=base.there b o e hx;exact⟨o',keep b o' (mn b o e) q⟩
 ·have q:=base.tups b xs e;rw[B2 (S3 b _ q)];exact q
 ·have q:=base.frzs b o u e;rw[B2 (S3 b _ q)];exact q
 ·obtain⟨more,q⟩:=base.tbls b ps e;exact⟨more,by rw[B2 (S3 b _ q)];exact q⟩
 ·by_cases hb:b=D0
  ·subst hb;rw[upd_same]at e;cases e;exact new
  ·rw[B2 hb]at e;refine(Ib.hok b u e).stay (fun c v hc q=>keep c v ?_ q) (fun c u _ q=>by rw[B2 (S3 c _ q)];exact q) fun c xs q=>by rw[B2 (S3 c _ q)];exact q
   rcases hc with z |z
   ·rw[z];exact kn b u e
   ·exact kn c _ z
 ·obtain⟨_,a2,a3,a4,a5,a6⟩:=f2 b hb;exact⟨a4,a2,a5,a6⟩
section
variable {w:Ak}{RR:Result->Ae->Prop}
theorem W6i {kx vx target:Ag}   {it:Ad}  {env:Env}(I:Nat->Ae->Prop)
  (turn:∀n s,I n s->wpAny (model prog w) A (pyNext it) (fun r s₁=>match r with
   |none=>RR (.ok .next) s₁
   | some v=>wpAny (model prog w) A (letOwnedTupleGo target it v) (fun _ sa=>wpAny (model prog w) A (assign target env v) (fun _ s₃=>
     wpAny (model prog w) A (eval kx env) (fun x s₄=>wpAny (model prog w) A (eval vx env) (fun y s₅=>
       wpAny (model prog w) A (dictSet D0 x y) (fun _ s₆=>∃m,m<n/\I m s₆) (fun _ _=>False) s₅) (fun _ _=>False) s₄) (fun _ _=>False) s₃) (fun _ _=>False) sa) (fun _ _=>False) s₁) (fun _ _=>False) s)
  (n:Nat) (h:I n s):codeAny (model prog w) A (.compLoop (.DictComp kx vx [⟨target,iter,[],0⟩] scope pos) 0 it (.ref D0) env) RR s:=by
 refine codeAny_loop rfl I (fun n s hI=>?_) n h
 change wpAny (model prog w) A ((compTurn (.DictComp kx vx [⟨target,iter,[],0⟩] scope pos) 0 it (Value.ref D0) env).onRaise (fun x=>do noteFrame x env;theTreesLotGoes x)) _ _ s
 refine wpAny_noted ?_;rw[compTurn_dict];refine af (dM (af (aS (turn n s hI) (fun r s₁ h₁=>?_) fun _ _ h'=>h'.elim)));cases r with
 |none=>exact ao h₁
 |some v=>
  refine af (aS h₁ (fun _ sa ha=>af (aS ha (fun _ s₃ h₃=>af (gT ?_)) fun _ _ h'=>h'.elim)) fun _ _ h'=>h'.elim);exact af (af (aS h₃ (fun x s₄ h₄=>af (bB (aS h₄ (fun y s₅ h₅=>af (dM (bB (aS h₅ (fun _ s₆ h₆=>ao ⟨rfl,h₆⟩) fun _ _ h'=>h'.elim)))) fun _ _ h'=>h'.elim))) fun _ _ h'=>h'.elim))
end
def Z0 (g:WG)(wk wv:WE):M D->C8->M (B8×D)->(M (B8×D)->Prop)->Prop
 |[],_,kvs,Q=>Q kvs
 |d::ds,τ,kvs,Q=>g d τ fun τ'=>wk τ' fun r=>∃kd k,r=.st kd/\Q8 kd=some k/\wv τ' fun r2=>∃e,r2=.st e/\Z0 g wk wv ds τ' (R1 kvs k e) Q
theorem Y3n {g:WG}{wk:WE}(hg:∀d τ (P Q:C8->Prop),(∀ τ,P τ->Q τ)->g d τ P->g d τ Q)(hk:∀(τ:C8) (P Q:R->Prop),(∀r,P r->Q r)->wk τ P->wk τ Q)(hv:∀(τ:C8) (P Q:R->Prop),(∀r,P r->Q r)->wv τ P->wv τ Q):
  ∀(ds:M D) (τ:C8) (kvs:M (B8×D)) (P Q:M (B8×D)->Prop),(∀es,P es->Q es)->Z0 g wk wv ds τ kvs P->Z0 g wk wv ds τ kvs Q
 |[],_,_,_,_,f,h=>f _ h
 |d::ds,τ,kvs,P,Q,f,h=>hg d τ _ _ (fun τ' h=>hk τ' _ _ (fun r cG=>(by obtain⟨kd,k,e1,e2,h⟩:=cG;exact⟨kd,k,e1,e2,hv τ' _ _ (fun r⟨e,e1,h⟩=>⟨e,e1,Y3n hg hk hv ds τ' _ _ _ f h⟩) h⟩)) h) h
section
variable {kx vx:Ag}{i4:Pos}{nt:Nat}{g:WG}{wk:WE}
def W8y {P:M (B8×D)->Prop}       (hc:X.calm=true)(B:Blk X scope N nt cap)(hi:L4 X H0 tg iter wi)
  (hg:∀C s H fp,DG (blk X scope C s H fp N) H tg g) (hk:∀C s H fp,DE (blk X scope C s H fp N) H kx wk) (hv:∀C s H fp,DE (blk X scope C s H fp N) H vx wv) (hs:∀x,foldedSetIterable iter X.env x=pure x)
  (I:?C) (hR:C2 X.K H0 τ σ H) (hw:wi τ fun ds=>ds.length<sizeLine/\Z0 g wk wv ds (T8 nt cap τ) [] P)
  (fin:∀(C D0:Af) (s2 s4:Ae) (H2 H4:Hp) (fp:M Af) (pb:Pn9) (σ4:R9) (ps:M (B8×V)) (vs:M (B8×Ad)) (kvs:M (B8×D)) (f:Flow),A1 X ah σ H2 s2->A5 H H2->A1 ?L pb σ4 H4 s4->(∀b∈fp,M9 X ah H2 b) ->
   s2.heap.objs.size<=C->s2.heap.objs.size<=D0->D0≠C->H4 D0=none->(D0==sysModules)=false->s4.heap.DictOf (N6 X.prog X.w) D0 vs->KV ps vs->ps.length<=sizeLine->A5 H2 H4->D7 X.K H4 kvs ps->P kvs->compPost ?D X.A X.xe use QQ (.ref D0) C (.ok f) s4):
  wpAny ?D X.A (comprehension (.DictComp kx vx [⟨tg,iter,[],0⟩] scope pos) scope X.env mi newDict false (eval iter X.env) use) QQ X.xe s:=by
 refine dG rfl hs (Z0m fun y hy e=>I.ok.has y.1 (B.free y hy e)) B.kind B.names ?_;refine B3 (hi.pi ah s σ H (fun J H2=>A5 H H2/\∃ds,YlS X.K J ds H2/\ds.length<sizeLine/\Z0 g wk wv ds (T8 nt cap τ) [] P) I
  ⟨τ,hR,hi.mono τ _ _ (fun ds h J H' sm yl=>⟨sm,ds,yl,h.1,h.2⟩) hw⟩) fun v s1 h1=>B3 h1 fun mq s2 h2=>?_
 obtain⟨it,fp,tn,J,H2,e,I2,T,fD,f2,ef,ds,yl,hz,kr⟩:=h2;subst e;have iM:∀b∈fp,b<s2.heap.objs.size:=fun b hb=>by
  obtain⟨o,ho,_⟩:=T.obj _ _ fD b hb;exact aA ho
 have fh:=hR.mono ef;have kM:(s2.heap.objs.size==sysModules)=false:=bU.mpr (bY (aC I2.big));refine bR (dn B.cell (by intro y hy;simp at hy) (fun h₁ ee dE=>?_) B.kind);dsimp only at ee dE ⊢;have kT:(s2.heap.push {cls:=.type "dict",dict:=none,data:=.dict #[]}).DictOf (N6 X.prog X.w) s2.heap.objs.size []:=Heap.DictOf.new s2.heap;generalize hH2:s2.heap.push {cls:=.type "dict",dict:=none,data:=.dict #[]}=Hq at ee dE kT ⊢;have hC:Hq.objs.size=s2.heap.objs.size+1:=by rw[<-hH2,ba]
 have eh:s2.heap.objs.size≠Hq.objs.size:=by rw[hC];exact aC (c8 _)
 have dy:s2.heap.objs.size<=Hq.objs.size:=by rw[hC];exact cW _
 have old:∀b o,s2.heap.get? b=?R->h₁.get? b=?R:=fun b o e=>dE.extBut b o (by rw[hC];exact aC (bo (aA e))) (ae _ (hH2▸ae _ e));have fF:h₁.DictOf (N6 X.prog X.w) s2.heap.objs.size []:=kT.at fun o e=>dE.extBut _ _ eh (ae _ e);generalize hCe:Hq.objs.size=C at ee dE hC eh dy ⊢;generalize hDe:s2.heap.objs.size=D0 at hC eh dy fF kM ⊢;have eI:∀b∈fp,b<D0:=fun b hb=>hDe▸iM b hb;have g8:tn 0 h₁:=T.keep _ _ _ fD fun b _ o e=>old b o e;have mU:=Z0h (C:=C) (h':=h₁) (t':=s2.toks+([]:M (Str×Ad)).length) I2 B f2 iM (by rw[hDe];exact dy) ee old;have jC:H2 D0=none:=I2.hok.fresh (by rw[hDe];exact am _);have mj:D0∉frs X.stack:=fun z=>by
  rcases au.mp (I2.stkSub _ z)with e |e
  ·have:=I2.lt;rw[<-e,hDe]at this;exact aU _ this
  ·exact I2.nofs (by rw[hDe];exact am _) e
 have ml:∀x c,(V5 X.env scope.names []).lookup x=some c->c≠D0:=fun x c h z=>by
  obtain⟨v,q⟩:=I2.cell x c (Y9 I2 B h);have:=q.lt;rw[z,hDe]at this;exact aU _ this
 have oR:∀{h:Heap}{vs:M (B8×Ad)}{o:Obj},h.DictOf (N6 X.prog X.w) D0 vs->h.get? D0=?R->∀v,o.data≠.cell v:=by
  intro h vs o dd e v z;obtain⟨o',es,ep,e',_,d,_⟩:=dd;rw[e]at e';cases e';rw[d]at z;cases z
 have g7:∀{pb:Pn9} {σ':R9}{H':Hp}{s':Ae}{vs:M (B8×Ad)}{o:Obj},A1 ?L pb σ' H' s'->H' D0=none->s'.heap.DictOf (N6 X.prog X.w) D0 vs->s'.heap.get? D0=?R ->
   A1 ?L [(D0,o)] σ' H' s':=by
  intro pb σ' H' s' vs o I' n' dd e;refine I'.pins_of fun p hp=>?_;have e':p=(D0,o):=by simpa using hp
  subst e';exact⟨e,n',eh,mj,oR dd e⟩
 have iR:∀{H':Hp}{ob:Obj},(∀b∈fp,H' b=none)->∀b∈fp,M9 ?L [(D0,ob)] H' b:=by
  intro H' ob hn b hb;refine⟨hn b hb,(aC (aB (eI b hb) dy)),fun z=>?_,.inl hb,fun x c h=>(f2 b hb).2.2.2.2.1 x c (Y9 I2 B h),fun p hp=>?_⟩
  ·rcases au.mp (I2.stkSub b z)with e |e
   ·exact(f2 b hb).2.1 e
   ·exact(f2 b hb).2.2.1 e
  ·have e':p=(D0,ob):=by simpa [blk]using hp
   subst e';exact(aC (eI b hb)).symm
 let lV:Nat->Ae->Prop:=fun k s'=>∃(i:Nat) (σ':R9) (H':Hp) (τ':C8) (ob:Obj) (vs:M (B8×Ad)) (ps:M (B8×V)) (kvs:M (B8×D)),A1 ?L [(D0,ob)] σ' H' s'/\C2 X.K H2 τ' σ' H'/\tn i s'.heap /\
  (∀b∈fp,H' b=none)/\H' D0=none/\s'.heap.get? D0=some ob/\s'.heap.DictOf (N6 X.prog X.w) D0 vs/\KV ps vs/\D7 X.K H' kvs ps/\i<=ds.length/\k=ds.length-i/\ps.length<=i/\Z0 g wk wv (ds.drop i) τ' kvs P
 have loop:∀s₃:Ae,s₃={s2 with heap:=h₁,toks:=s2.toks+([]:M (Str×Ad)).length} ->
   codeAny ?D X.A (.compLoop (.DictComp kx vx [⟨tg,iter,[],0⟩] scope pos) 0 (.ref it) (.ref D0) (compEnvC scope (V5 X.env scope.names []) C X.env))
    (compPost ?D X.A X.xe use QQ (.ref D0) C) s₃:=by
  rintro s₃ rfl;obtain⟨vm,ho⟩:∃o,h₁.get? D0=?R:=by obtain⟨o,_,_,e,_⟩:=id fF;exact⟨o,e⟩
  refine W6i lV ?_ ds.length ⟨0,_,H2,T8 nt cap τ,vm,[],[],[],g7 mU jC fF ho,Z7r fh nt cap,g8,fun b hb=>(f2 b hb).1,jC,ho,fF,.nil,rfl,be _,rfl,am _,by simpa using kr⟩;rintro k s3 ⟨i,σ3,H3,τ3,ob,vs,ps,kvs,I3,R3,im,j2,d3,o3,ut,qB,t4,tM,rfl,lO,w3⟩;have cP:A5 H2 H3:=R3.same
  by_cases bW:i<ds.length
  ·refine aS (T.item ?L rfl rfl rfl hc i _ s3 σ3 H3 (fun _ _=>False) I3 (iR j2) im (yl.go H3 cP i bW)) (fun r s4 bF=>?_) fun _ _ z=>z;obtain⟨u,hr,h4⟩:=bF;subst hr;refine aS h4 (fun _ s5 bF=>?_) fun _ _ z=>z;obtain⟨x,H5,I5,r5,y5,gh,l5⟩:=bF;obtain⟨jw,ix⟩:=yl.yld H3 cP i x H5 _ (aa bW) y5;rw[cF bW]at w3;have l8:=I5.pinned (iR l5) (T.obj _ _ gh);refine aS ((hg C s2 H2 fp).pg _ s5 σ3 H5 x u (fun σ6 H6=>∃ τ6,C2 X.K H2 τ6 σ6 H6/\A5 H5 H6/\wk τ6 fun r=>∃kd k,r=.st kd/\Q8 kd=some k/\wv τ6 fun r2=>∃e,r2=.st e/\Z0 g wk wv (ds.drop (i+1)) τ6 (R1 kvs k e) P)
    l8 r5 ⟨τ3,ds[i],R3.mono jw,ix,(hg C s2 H2 fp).mono _ _ _ _ (fun τ6 h6 σ6 H6 jT R6=>⟨τ6,R6,jT,h6⟩) w3⟩) (fun _ s6 ⟨σ6,H6,I6,τ6,R6,jT,w6⟩=>?_) fun _ _ z=>z
   refine aS ((hk C s2 H2 fp).pe _ s6 σ6 H6 (fun v H7=>A5 H6 H7/\∃kd k,A4 X.K H7 kd v/\Q8 kd=some k/\wv τ6 fun r2=>∃e,r2=.st e/\Z0 g wk wv (ds.drop (i+1)) τ6 (R1 kvs k e) P) I6
    ⟨τ6,R6,(hk C s2 H2 fp).mono τ6 _ _ (fun r dF v H7 jv ir=>(by obtain⟨kd,k,e1,e2,h⟩:=dF;exact⟨jv,kd,k,by subst e1;exact ir,e2,h⟩)) w6⟩) (fun yk s7 ⟨v7,H7,I7,qA,jv,kd,k,vL,xJ,w7⟩=>?_) fun _ _ z=>z
   refine aS ((hv C s2 H2 fp).pe _ s7 σ6 H7 (fun v H8=>A5 H7 H8/\∃e,A4 X.K H8 e v/\Z0 g wk wv (ds.drop (i+1)) τ6 (R1 kvs k e) P) I7
    ⟨τ6,R6.mono jv,(hv C s2 H2 fp).mono τ6 _ _ (fun r ff v H8 jS ir=>(by obtain⟨e,e1,h⟩:=ff;exact⟨jS,e,by subst e1;exact ir,h⟩)) w7⟩) (fun yv s8 ⟨v8,H8,I8,md,jS,e8,qT,w8⟩=>?_) fun _ _ z=>z
   have pd:=I8.pin (D0,ob) (aw _ (bp _ ak));obtain⟨o8,d8,_⟩:=pd;have oV:A1 ?L (Y4 fp s5.heap) σ6 H8 s8:=I8.pins_of fun p hp=>I8.pin p (aw _ (aw _ hp));have xN:s8.heap.DictOf (N6 X.prog X.w) D0 vs:=ut.at fun o e=>by rw[o3]at e;cases e;exact o8
   have el:vs.length=ps.length:=by rw[<-qB.length]
   cases Q4l xJ vL;refine wpAny_dictSet_pairs (hsz:=?A) (Q4k qA) xN fun h₅ sx mt=>?_;have I9:A1 ?L (Y4 fp s5.heap) σ6 H8 {s8 with heap:=h₅,toks:=s8.toks+1}:=by
    refine oV.turned (t':=s8.toks+1) (it:=D0) (fun b o hb e=>(mt.2 b hb).trans e) d8 eh (.inr (by rw[<-hDe];exact am _)) ml (fun p hp z=>?_);obtain⟨q1,_⟩:=Q8x (by simpa [blk]using hp);exact aC (eI _ q1) z
   obtain⟨vk,o9⟩:∃o,h₅.get? D0=?R:=by obtain⟨o,_,_,e,_⟩:=id sx;exact⟨o,e⟩
   have vh:A5 H3 H8:=jw.trans (jT.trans (jv.trans jS));have nH:tn (i+1) h₅:=T.keep _ _ _ gh fun b hb o e=>(I9.pin (b,o) (aw _ (Q2j hb e))).1;refine⟨ds.length-(i+1),?A,i+1,σ6,H8,τ6,vk,stored vs k yv,T0 ps k v8,R1 kvs k e8,g7 I9 d8 sx o9,R6.mono (jv.trans jS),nH,fun b hb=>?_,d8,o9,sx,qB.put k md,D7.put qT (t4.mono (Kp.of vh) _ _),bW,rfl,?_,w8⟩
   ·obtain⟨o,e,_⟩:=T.obj _ _ gh b hb;exact(I9.pin (b,o) (aw _ (Q2j hb e))).2.1
   ·have:=Q8n ps k v8;omega
  ·have e:i=ds.length:=?A
   subst e;refine aS (T.done ?L rfl rfl rfl hc ds.length _ s3 σ3 H3 (fun _ _=>False) I3 (iR j2) im (yl.stop H3 cP)) (fun r s4 bF=>?_) fun _ _ z=>z;obtain⟨hr,I4⟩:=bF;subst hr;have o4:=(I4.pin (D0,_) (aw _ ak)).1;rw[dY]at w3;have xO:s4.heap.DictOf (N6 X.prog X.w) D0 vs:=ut.at fun o e=>by rw[o3]at e;cases e;exact o4
   exact fin C D0 s2 s4 H2 H3 fp _ σ3 ps vs kvs _ I2 ef I4 f2 (by rw[hDe];exact dy) (by rw[hDe];exact am _) eh d3 kM xO qB (?A) cP t4 w3
 exact codeAny_compStart_dict (loop _ rfl) (T.self _ 0 _ _ _ g8 (loop _ rfl))
def Z9k (i nt:Nat)(cap:?P)(wi:WIE)(g:WG)(wk wv:WE):WS:=fun E τ=>wi τ fun ds=>ds.length<sizeLine/\Z0 g wk wv ds (T8 nt cap τ) [] fun kvs=>E.nx (τ.set i (some (.dk kvs)))
def W3g {i:Nat}  (hc:X.calm=true)(B:Blk X scope N nt cap)(hi:L4 X H0 tg iter wi)(hg:∀C s H fp,DG (blk X scope C s H fp N) H tg g)(hk:∀C s H fp,DE (blk X scope C s H fp N) H kx wk)
  (hv:∀C s H fp,DE (blk X scope C s H fp N) H vx wv) (hN:X.N.Nodup) (mJ:X.N[i]?=some x) (hx:Loc X.env.scope x)
  (jf:swapsWith (.DictComp kx vx [⟨tg,iter,[],0⟩] scope pos) (some (.Name x cg)) i4.line X.env=pure true:=by rfl) (hs:∀x,foldedSetIterable iter X.env x=pure x:=by intro _;rfl)
  (hf:?K:=by sleep 1):
  DS X H0 (.Assign [.Name x cg] (.DictComp kx vx [⟨tg,iter,[],0⟩] scope pos) i4) (Z9k i nt cap wi g wk wv) where
 mono:=fun τ E F le h=>hi.mono τ _ _ (fun ds h=>⟨h.1,Y3n (hg 0 X.s₀ X.H₀ []).mono (hk 0 X.s₀ X.H₀ []).mono (hv 0 X.s₀ X.H₀ []).mono ds _ _ _ _ (fun es h=>le.nx _ h) h.2⟩) h
 ps:=by
  intro ah s σ H D I ⟨τ,hR,hw⟩;rw[hV _ _ _ _ jf];refine af (dM (af ?_))
  change wpAny ?D X.A (do let _ <- comprehension (.DictComp kx vx [⟨tg,iter,[],0⟩] scope pos) scope X.env _ newDict false (eval iter X.env) (some (assign (.Name x cg) X.env))) _ _ s
  refine af (aS (W8y (use:=some (assign (.Name x cg) X.env)) (QQ:=fun _ s'=>SP X ah D .next s') hc B hi hg hk hv hs I hR hw fun C D0 s2 s4 H2 H4 fp pb σ4 ps vs kvs f I2 ef I4 f2 hC hD eh hn kM dd rk hz ju kv w3=>?_)
   (fun _ s' hq=>ao (ao hq)) fun _ _ e=>e)
  have Ib:A1 X ah σ (B0 H4 D0 (.dK ps)) {s4 with heap:=s4.heap}:=Y2r I2 I4 f2 hC hD hn ⟨rfl,fun _ _=>rfl⟩ ⟨hz,kM,vs,rk,dd⟩;have lT:C≠X.env.locals:=fun z=>aU _ (aB I2.lt (z▸hC));have lS:∀x c,X.env.cells.lookup x=some c->c≠C:=fun x c h z=>by
   obtain⟨v,q⟩:=I2.cell x c h;exact aU _ (aB q.lt (z▸hC))
  change wpAny ?D X.A (assign (.Name x cg) X.env (Value.ref D0)) _ _ s4
  refine fU (Z2q (v:=.ref D0) Ib hN mJ hx rfl (fun s5 I5 bF=>?_) hf);obtain⟨a,nJ,ha⟩:=bF;obtain⟨m4,kU,_⟩:=id I4.loc;have oI:C≠a:=by
   rcases ha with ha |ha
   ·rw[ha];exact lT
   ·exact fun z=>lS _ _ ha z.symm
  refine⟨m4,kU.sameBut nJ oI,fun h' sb=>?_⟩;have oJ:H4 C=none:=I4.free;have I6:A1 X ah (σ.set i (some (.ref D0))) (B0 H4 D0 (.dK ps)) {s5 with heap:=h'}:=by
   refine I5.turned (t':=s5.toks) (it:=C) (fun b o hb e=>(sb.2 b hb).trans e) (by rw[B2 (bY eh)];exact oJ) lT (.inr (aV I2.sz hC)) lS fun p hp z=>?_;have:=(I2.pin p hp).1;exact aU _ (aB (aA this) (z▸hC))
  have kj:A5 H (B0 H4 D0 (.dK ps)):=ef.trans (ju.trans (G3 hn _));have eM:=(hR.mono kj).set (i:=i) (s:=.dk kvs) (v:=.ref D0) ⟨D0,ps,rfl,hR.same.free (ef.free (I2.hok.fresh hD)),upd_same,kv.mono (Kp.of (G3 hn _)) _ _⟩ fun _ j t hj e m q=>by
   obtain⟨o,ho⟩:=hR.tracked e m q;rw[ef.free (I2.hok.fresh hD)]at ho;cases ho
  exact⟨_,_,I6,w3 _ _ (Kp.of kj) eM⟩
end
def kyD:B8->D
 |.inl i=>.int i
 |.inr x=>.str x
def Q5m:M R->(R->Prop)->Prop
 |[.dk kvs],Q=>Q (.nw (kvs.map fun p=>kyD p.1))
 |_,_=>False
def Y5m {rs:M R}{Q:R->Prop}(h:Q5m rs Q):∃kvs,rs=[.dk kvs]/\Q (.nw (kvs.map fun p=>kyD p.1)):=by
 unfold Q5m at h;split at h
 ·exact⟨_,rfl,h⟩
 ·exact h.elim
def W9x:Q2y Q5m:=fun x P Q g h=>by
 obtain⟨kvs,rfl,h⟩:=Y5m h;exact g _ h
theorem Z4n {K:Fg9}:∀(ps:M (B8×V)),AllS K H (ps.map fun p=>kyD p.1) (ps.map fun p=>kV p.1)
 |[]=>AllS.nil
 |(.inl i,v)::r=>AllS.cons Q1m (Z4n r)
 |(.inr x,v)::r=>AllS.cons Q4c (Z4n r)
theorem W4e {K:Fg9}:∀{kvs:M (B8×D)}{ps:M (B8×V)},D7 K H kvs ps->(kvs.map fun p=>kyD p.1)=ps.map fun p=>kyD p.1:=by intro kvs;induction kvs<;>grind [D7,ax]
def W5t (hc:X.calm=true):Q2w X (.type "list") Q5m:=by
 intro ah s σ H xs us Q I rv ⟨rs,dA,h⟩;obtain⟨kvs,rfl,h⟩:=Y5m h;obtain⟨v,rfl,ir⟩:=Q0q dA;obtain⟨a,ps,rfl,e,kv⟩:=ir;obtain⟨u,rfl,ru⟩:=Q0k rv;cases ru;obtain⟨z,hd,vs,rel,dd⟩:=Z0o I.hok e;obtain⟨ep,da⟩:=dd.dictAt;have el:vs.length=ps.length:=by rw[<-rel.length]
 refine PySem.W.kdl_call (PySem.W.kdl_dict (knd:=N6 X.prog X.w) (kvs:=vs) (ep:=ep) hd) (I.ok.hd hc) da (?A) fun h' tk cN c' k e2 it=>?_;have hn:H s.heap.objs.size=none:=I.hok.fresh (am _);have vl:C3 (ps.map fun p=>kV p.1) cN.toList:=by
  have key:∀(ps:M (B8×V)) (vs:M (B8×Ad)) (us:M Ad),KV ps vs->us.length=vs.length->(∀(j:Nat) (v:Ad),us[j]?=some v->∃k x,vs[j]?=some (k,x)/\(N6 X.prog X.w).is k v=true)->C3 (ps.map fun p=>kV p.1) us:=by
   intro ps
   induction ps with
   |nil=>intro vs us r l _;cases r;cases us with
    |nil=>exact .nil
    |cons _ _=>cases l
   |cons p ps ih=>
    intro vs us r l f;cases r with
    |@cons _ q _ qs h1 t=>
     cases us with
     |nil=>cases l
     |cons u us=>
      obtain⟨k,x,e1,e2⟩:=f 0 u rfl;cases e1;refine .cons ?_ (ih qs us t (by simpa using l) fun j v e=>f (j+1) v (by simpa using e));have h1:p.1=k:=h1.1;show C9 (kV p.1) u;rw[h1];rcases Q2h e2 with⟨i,t,rfl,rfl⟩ |⟨i,t,rfl,rfl⟩
      ·exact⟨t,rfl⟩
      ·exact⟨t,rfl⟩
  refine key ps vs cN.toList rel (by rw[dh];exact it.1) fun j v e=>it.2 j v (by rw[<-ph];exact e)
 refine⟨.ref s.heap.objs.size,_,I.laid (t':=tk) (o:=.lst (ps.map fun p=>kV p.1)) k (am _) ⟨by rw[ag];exact z,cN.toList,c',vl,by simpa using e2⟩,rfl,h _ _ (G3 hn _) ⟨_,_,rfl,hn,upd_same,?_⟩⟩;rw[W4e kv];exact Z4n ps
def Q1i:M R->(R->Prop)->Prop
 |[r],Q=>∃ns:M Int,U1 r=some (ns.map .int)/\ns≠[]/\∀m,m∈ns->(∀n∈ns,n<=m)->Q (.st (.int m))
 |_,_=>False
def Z1g:Q2y Q1i:=fun x P Q g h=>by
 unfold Q1i at h ⊢;split at h
 ·obtain⟨ns,a,b,c⟩:=h;exact⟨ns,a,b,fun m h1 h2=>g _ (c m h1 h2)⟩
 ·exact h
theorem Y2j (f:Nat->Int):∀k,argBest (fun i j=>decide (f i > f j)) k<=k/\∀j,j<=k->f j<=f (argBest (fun i j=>decide (f i > f j)) k)
 |0=>⟨am _,fun j hj=>by rw[Nat.le_zero.mp hj];exact Int.le_refl _⟩
 |k+1=>by
  obtain⟨h1,h2⟩:=Y2j f k;unfold argBest
  by_cases e:f (k+1) > f (argBest (fun i j=>decide (f i > f j)) k)
  ·rw[aP (by simpa using e)];refine⟨am (k+1),fun j hj=>?_⟩
   by_cases z:j<=k
   ·exact Int.le_trans (h2 j z) (Int.le_of_lt e)
   ·rw[show j=k+1 by omega];exact Int.le_refl _
  ·rw[aK (by simpa using e)];refine⟨fq h1,fun j hj=>?_⟩
   by_cases z:j<=k
   ·exact h2 j z
   ·rw[show j=k+1 by omega];omega
theorem Z5y:∀{ns:M Int}{b7:M Ad},C3 (ns.map V.int) b7->∃xs:M (Int×Tok),b7=xs.map (fun p=>Value.int p.1 p.2)/\xs.map (·.1)=ns
 |[],b7,r=>by cases r;exact⟨[],rfl,rfl⟩
 |n::ns,b7,r=>by
  cases r with
  |cons h t=>
   obtain⟨tk,e⟩:=h;obtain⟨xs,e1,e2⟩:=Z5y (ns:=ns) t;exact⟨(n,tk)::xs,by rw[e,e1];rfl,by rw[ax,e2]⟩
theorem Y2g {K:Fg9}:∀{ns:M Int}{xs:M V},AllS K H (ns.map .int) xs->xs=ns.map V.int:=by intro ns;induction ns<;>grind [List.map,AllS,ax,A4]
def Z0i (hc:X.calm=true):Q2w X (.builtin "max") Q1i:=by
 intro ah s σ H xs us Q I rv ⟨rs,dA,h⟩;unfold Q1i at h;split at h
 ·rename_i r;obtain⟨ns,e1,dg,h⟩:=h;obtain⟨v,rfl,ir⟩:=Q0q dA;obtain⟨l,ys,rfl,sq,al⟩:=Q4o e1 ir;obtain⟨u,rfl,ru⟩:=Q0k rv;cases ru;have ey:=Y2g al;subst ey;obtain⟨b7,i6,pl,hz⟩:=I.list sq;obtain⟨ps,ei,en⟩:=Z5y i6;subst ei;have hit:s.heap.IsList l (intItems ps.toArray):=by
   have:=pl.isList;have e:intItems ps.toArray=(ps.map fun p=>Value.int p.1 p.2).toArray:=by simp[intItems]
   rw[e];exact this
  have nZ:0<ps.toArray.size:=by
   cases ps with
   |nil=>exact absurd en.symm dg
   |cons _ _=>simp
  refine max_intList (I.ok.hd hc) hit nZ fun v h' tk e k=>?_;obtain⟨b1,b2⟩:=Y2j (numAt ps.toArray) (ps.toArray.size-1);obtain⟨t,et⟩:=intItems_at e;subst et;generalize argBest (fun i j=>decide (numAt ps.toArray i > numAt ps.toArray j)) (ps.toArray.size-1)=k0 at b1 b2 e;have at_:∀j,j<ps.length->ns[j]?=some (numAt ps.toArray j):=fun j hj=>by
   rw[<-en,ai,aa hj];simp[numAt,hj]
  have wI:k0<ps.length:=by
   have:ps.toArray.size=ps.length:=by simp
   omega
  refine⟨.int (numAt ps.toArray k0),H,I.kept k,⟨t,rfl⟩,h _ (aD (at_ k0 wI)) (fun n hn=>?_) _ _ (A5.refl _) Z2⟩;obtain⟨j,hj,e⟩:=gz hn;have hl:ns.length=ps.length:=by rw[<-en,ag]
  have:=at_ j (?A);rw[aa hj,e]at this;rw[az this];exact b2 j (by
   have:ps.toArray.size=ps.length:=by simp
   omega)
 ·exact h.elim
def LO.ok {w:Ak}   {b:Af}  (g:LO b xs h):N1 P w H h b (.ext (LO b xs)):=by
 obtain⟨z,b7,n,r,e⟩:=id g;exact⟨g,⟨_,e⟩,fun h1 h2 cG k=>(by obtain⟨z,b7,n,r,e⟩:=cG;exact⟨z,b7,n,r,k _ e⟩)⟩
def M6:Ac Sl->Bool
 |some (.ll _ _)=>false
 |_=>true
def Q0y:Nat->C8->Bool
 |_,[]=>true
 |0,_::r=>r.all M6
 |i+1,s::r=>M6 s&&Q0y i r
theorem Z7e:∀{i:Nat} {τ:C8}{j:Nat}{a:Af}{dss:M (M D)},Q0y i τ=true->j≠i->τ[j]?≠some (some (.ll a dss))
 |_,[],j,a,dss,_,_=>by simp
 |0,s::r,0,a,dss,_,h=>absurd rfl h
 |0,s::r,j+1,a,dss,h,_=>fun e=>by
  have e:r[j]?=some (some (.ll a dss)):=by simpa using e
  have:=cf.mp h _ (aD e);cases this
 |i+1,s::r,0,a,dss,h,_=>fun e=>by
  have e:s=some (.ll a dss):=by simpa using e
  subst e;simp[Q0y,M6]at h
 |i+1,s::r,j+1,a,dss,h,n=>fun e=>by
  rw[Q0y,cy]at h;exact Z7e (i:=i) (j:=j) h.2 (fun z=>n (by rw[z])) (by simpa using e)
theorem M3.length {K:Fg9}:∀{bs:M Af}{dss:M (M D)},M3 K H bs dss->bs.length=dss.length
 |[],_,h=>by rw[show _=[]from h];rfl
 |b::bs,_,h=>by obtain⟨ds,r,rfl,_,t⟩:=h;rw[aH,aH,t.length]
theorem M3.get {K:Fg9}:∀{bs:M Af}{dss:M (M D)}{j:Nat},M3 K H bs dss->j<dss.length->∃b xs,bs[j]?=some b/\H b=some (.ext (LO b xs))/\AllS K H (dss.getD j []) xs
 |[],_,j,h,l=>by rw[show _=[]from h]at l;simp at l
 |b::bs,_,0,h,l=>by obtain⟨ds,r,rfl,⟨xs,q,al⟩,t⟩:=h;exact⟨b,xs,rfl,q,al⟩
 |b::bs,_,j+1,h,l=>by
  obtain⟨ds,r,rfl,_,t⟩:=h;obtain⟨b',xs,e,q,al⟩:=M3.get (j:=j) t (by simpa using l);exact⟨b',xs,by simpa using e,q,by simpa using al⟩
theorem M3.mem {K:Fg9}:∀{bs:M Af}{dss:M (M D)}{b:Af},M3 K H bs dss->b∈bs->∃xs,H b=some (.ext (LO b xs))
 |[],_,b,h,l=>by cases l
 |c::bs,_,b,h,l=>by
  obtain⟨ds,r,rfl,⟨xs,q,al⟩,t⟩:=h;rcases au.mp l with rfl |l
  ·exact⟨xs,q⟩
  ·exact t.mem l
theorem M3.set {K:Fg9}  (k:Kp H H'){b0:Af}{pY:M D}  (h0:H' b0=some (.ext (LO b0 lm)))(uQ:AllS K H' pY lm)(je:∀b φ,b≠b0->H b=some (.ext φ)->H' b=some (.ext φ)):
  ∀{bs:M Af}{dss:M (M D)}{j:Nat},bs.Nodup->M3 K H bs dss->bs[j]?=some b0->M3 K H' bs (dss.set j pY)
 |[],_,j,_,h,e=>by simp at e
 |b::bs,_,0,n,h,e=>by
  obtain⟨ds,r,rfl,⟨xs,q,al⟩,t⟩:=h;have e:b=b0:=by simpa using e
  subst e;rw[bq]at n;refine⟨pY,r,rfl,⟨lm,h0,uQ⟩,?_⟩;have same:∀{cs:M Af}{ess:M (M D)},b∉cs->M3 K H cs ess->M3 K H' cs ess:=by
   intro cs
   induction cs with
   |nil=>intro ess _ h;exact h
   |cons c cs ih=>
    intro ess nb h;obtain⟨ds,r,rfl,⟨xs,q,al⟩,t⟩:=h;exact⟨ds,r,rfl,⟨xs,je c _ (fun z=>nb (by rw[z];exact ak)) q,al.mono k _ _⟩,ih (fun z=>nb (aj _ z)) t⟩
  exact same n.1 t
 |b::bs,_,j+1,n,h,e=>by
  obtain⟨ds,r,rfl,⟨xs,q,al⟩,t⟩:=h;rw[bq]at n;have e:bs[j]?=some b0:=by simpa using e
  exact⟨ds,r.set j pY,rfl,⟨xs,je b _ (fun z=>n.1 (by rw[z];exact aD e)) q,al.mono k _ _⟩,M3.set k h0 uQ je n.2 t e⟩
section
variable {v:Ag}{sp:Pos}{i:Nat}
def V3k (ho:PE X o td)(he:PE X e ty)(m:M1 X o "append" apos e bK):PE X (.Call (.Attribute o "append" apos) [e] [] bK)
  (fun σ H Q=>td σ H fun x H1=>∃b lm,x=.ref b/\H1 b=some (.ext (LO b lm))/\ty σ H1 fun y H2=>∃xs,H2 b=some (.ext (LO b xs))/\xs.length<sizeLine/\Q .non (B0 H2 b (.ext (LO b (xs++[y]))))):=by
 intro ah s σ H Q I h;refine fV m.base m.few m.line dB lX lW (B3 (ho ah s σ H _ I h) fun u s1 bF=>?_);obtain⟨x,H1,I1,rx,b,lm,ex,eb,q1⟩:=bF;subst ex;obtain rfl:u=Value.ref b:=rx;obtain⟨_,vK,n0,_,e0⟩:=(show LO b lm s1.heap from(I1.hok b _ eb).1)
 refine⟨⟨_,e0,rfl⟩,fun c ec=>?_,?_⟩
 ·cases ec;exact⟨_,e0,rfl⟩
 rw[m.trees];refine cD rfl (cJ (bS (B3 (he ah s1 σ H1 _ I1 q1) fun yv s2 ⟨y,H2,I2,ry,xs,e2,hz,q2⟩=>cM ?_)));obtain⟨z2,b7,n,rv,e3⟩:=(show LO b xs s2.heap from(I2.hok b _ e2).1)
 have el:=rv.length;refine dP (hsz:=by rw[aF];omega) ⟨n,e3⟩ fun h' hl hs=>⟨.non,_,?_,rfl,q2⟩
 obtain⟨n',e4⟩:=hl;refine Q5g (t':=s2.toks) I2 (by rw[e2];exact True.intro) hs ⟨_,e4⟩ (LO.ok ⟨by rw[aq];show xs.length+1<=_;omega,b7++[yv],n',rv.append (.cons ry .nil),by simpa using e4⟩)
def C2.llAt {K:Fg9}     {dss:M (M D)}(hR:C2 K H0 τ σ H)(e1:τ[i]?=some (some (.ll a dss))):σ[i]?=some (some (.ref a))/\Q6b K H0 H a dss:=by
 obtain⟨v,hv,rfl,q⟩:=hR.here i _ e1;exact⟨hv,q⟩
def rIxE:R2:=fun x y H Q=>∃p xs i v,x=.ref p/\y=.int i/\H p=some (.ext (LO p xs))/\M4 xs i=some v/\Q v H
def W8i {p:Af}  (I:?C)(h:H p=some (.ext (LO p xs))):xs.length<=sizeLine/\∃b7 n,C3 xs b7/\s.heap.get? p=some {cls:=.type "list",data:=.seq b7.toArray n}:=(I.hok p _ h).1
def W8r:IxR X rIxE:=by
 intro value slice ah s σ H x y v u Q I rx ry h hs;obtain⟨p,xs,i,z,rfl,rfl,hq,he,q⟩:=h;cases rx;obtain⟨t,rfl⟩:=ry;obtain⟨hz,b7,n,r,e⟩:=W8i I hq;have pl:s.heap.IsList p b7.toArray:=⟨_,e,rfl,n,rfl⟩
 obtain⟨j,h1,h2,h3,h4,h5⟩:=Z0e he;obtain⟨w,ew,iG⟩:=r.get h2;have hl:=r.length;have hn:=Q4n;have fin:EP X ah σ Q w s:=⟨z,H,I,iG,q⟩
 by_cases h0:0<=i
 ·have hj:i.toNat=j:=by
   rw[ny h0 h5]at h1;exact az h1
  exact item_listR pl h0 (?A) (by rw[hj];simpa using ew) fin hs
 ·have hj:(i+(b7.toArray.size:Int)).toNat=j:=by
   rw[seqIndex_neg (?A) h4]at h1;rw[aF,<-hl];exact az h1
  exact js (x:=w) pl.typeIs kC.lookup
   (yL (Q:=fun r s'=>r=w/\EP X ah σ Q r s') pl (?A) (by rw[aF]<;>omega) (?A) (by rw[hj];simpa using ew) ⟨rfl,fin⟩) hs
def C2.llre {K:Fg9}     {dss oQ:M (M D)}(hR:C2 K H0 τ σ H)(e1:τ[i]?=some (some (.ll a dss)))(hv:σ[i]?=some (some (.ref a)))(only:Q0y i τ=true)
  (kp:Kp H H') (ne:∀c u,H c=some u->(∀ φ,u≠.ext φ)->H' c=some u) (sm:A5 H0 H') (ll:Q6b K H0 H' a oQ):C2 K H0 (τ.set i (some (.ll a oQ))) σ H':=by
 have hl:i<τ.length:=(aM.mp e1).1;refine⟨by rw[bG];exact hR.len,sm,fun k t e=>?_,fun k l t u w dg e2 e3 m1 m2 q1 q2=>?_⟩
 ·by_cases hk:k=i
  ·subst hk;rw[bi hl]at e;cases e;exact⟨_,hv,rfl,ll⟩
  ·rw[aN (fun z=>hk z.symm)]at e;obtain⟨w,q,r⟩:=hR.here k t e;refine⟨w,q,?_⟩;cases t with
   |dat d=>exact A4.mono kp _ _ r
   |own es=>obtain⟨c,ys,e,n,q,t⟩:=r;exact⟨c,ys,e,n,ne _ _ q (by intro φ z;cases z),t.mono kp _ _⟩
   |bor es=>obtain⟨c,ys,e,q,t⟩:=r;exact⟨c,ys,e,q,t.mono kp _ _⟩
   |bd es=>obtain⟨c,ys,e,q,t⟩:=r;exact⟨c,ys,e,q,t.mono kp _ _⟩
   |dk es=>obtain⟨c,ys,e,n,q,t⟩:=r;exact⟨c,ys,e,n,ne _ _ q (by intro φ z;cases z),t.mono kp _ _⟩
   |dt es=>obtain⟨c,ys,e,n,q,t⟩:=r;exact⟨c,ys,e,n,ne _ _ q (by intro φ z;cases z),t.mono kp _ _⟩
   |ob _=>exact r
   |cl _ _=>exact⟨r.1,r.2.2 _ _ kp r.2.1,r.2.2⟩
   |ll a' d'=>exact absurd e (Z7e only hk)
   |ins _ _ _=>obtain⟨e,n,dx,ys,q,t⟩:=r;exact⟨e,n,dx,ys,ne _ _ q (by intro φ z;cases z),t.mono kp _ _⟩
 ·by_cases hk:k=i
  ·subst hk;rw[bi hl]at e2;cases e2;cases m1
  ·by_cases nj:l=i
   ·subst nj;rw[bi hl]at e3;cases e3;cases m2
   ·rw[aN (fun z=>hk z.symm)]at e2;rw[aN (fun z=>nj z.symm)]at e3;exact hR.apart k l t u w dg e2 e3 m1 m2 q1 q2
def C2.llset {K:Fg9}    {b:Af}{dss:M (M D)}{j:Nat}{ds:M D}{bs:M Af}  (hR:C2 K H0 τ σ H)(e1:τ[i]?=some (some (.ll a dss)))(hv:σ[i]?=some (some (.ref a)))(only:Q0y i τ=true)
  (ha:H a=some (.ext (LO a (bs.map V.ref)))/\H0 a=none/\a∉bs) (nd:bs.Nodup) (h0:∀b∈bs,H0 b=none) (ll:M3 K H bs dss) (ej:bs[j]?=some b) (eb:H b=some (.ext (LO b lm))) (al:AllS K H ds xs):
  Kp H (B0 H b (.ext (LO b xs)))/\C2 K H0 (τ.set i (some (.ll a (dss.set j ds)))) σ (B0 H b (.ext (LO b xs))):=by
 have kp:Kp H (B0 H b (.ext (LO b xs))):=Q0o eb (by intro xs z;cases z) (by intro o u z;cases z) _;have xb:H0 b=none:=h0 b (aD ej);refine⟨kp,hR.llre e1 hv only kp (fun c u q n=>by rw[B2 (Q0x q eb (n _))];exact q) (fun c u q=>by rw[B2 (fun z=>by rw[z,xb]at q;cases q)];exact hR.same c u q)
  ⟨bs,⟨by rw[B2 (show a≠b from fun z=>ha.2.2 (by rw[z];exact aD ej))];exact ha.1,ha.2⟩,nd,h0,M3.set kp upd_same (al.mono kp _ _) (fun c φ hc q=>by rw[B2 hc];exact q) nd ll ej⟩⟩
def Q9o (i:Nat)(we wv:WE):WS:=fun E τ=>∃a dss,τ[i]?=some (some (.ll a dss))/\Q0y i τ=true/\we τ fun r=>∃k j,r=.st (.int k)/\ixN dss.length k=some j/\wv τ fun r2=>∃d,r2=.st d/\(dss.getD j []).length<sizeLine /\
 E.nx (τ.set i (some (.ll a (dss.set j (dss.getD j []++[d])))))
def W3a {b:Ag}(ho:PE X b (Q5 i))(he:DE X H0 e we)(hv:DE X H0 v wv)(hpl:Z4e e)(m:M1 X (.Subscript b e pos) "append" apos v bK)(jf:swapsWith (.Call (.Attribute (.Subscript b e pos) "append" apos) [v] [] bK) none sp.line X.env=pure false:=by rfl):
  DS X H0 (.Expr (.Call (.Attribute (.Subscript b e pos) "append" apos) [v] [] bK) sp) (Q9o i we wv) where
 mono:=fun τ E F le cU=>(by obtain⟨a,dss,e1,o,h⟩:=cU;exact⟨a,dss,e1,o,he.mono τ _ _ (fun r dF=>(by obtain⟨k,j,a1,a2,h⟩:=dF;exact⟨k,j,a1,a2,hv.mono τ _ _ (fun r⟨d,b1,b2,b3⟩=>⟨d,b1,b2,le.nx _ b3⟩) h⟩)) h⟩)
 ps:=S6 (Z1v (V3k (Y7l W8r ho he.pe hpl) hv.pe m) jf) fun D σ H fE=>by
  obtain⟨τ,hR,a,dss,e1,only,h⟩:=fE;obtain⟨ic,_⟩:=hR.llAt e1;refine⟨_,ic,τ,hR,he.mono τ _ _ (fun r ⟨k,j,a1,a2,h⟩ y H1 s1 ik=>?_) h⟩;subst a1;cases (show y=.int k from ik);have fm:=hR.mono s1;obtain⟨_,bs,ha,nd,h0,ll⟩:=fm.llAt e1;have el:=ll.length;obtain⟨_,hj,_,_⟩:=Z6e a2;obtain⟨b0,xs,ej,eb,al⟩:=ll.get hj;have xf:M4 (bs.map V.ref) k=some (V.ref b0):=by unfold M4;rw[ag,el,a2];show(bs.map V.ref)[j]?=_;rw[ai,ej];rfl
  refine⟨a,bs.map V.ref,k,V.ref b0,rfl,rfl,ha.1,xf,b0,xs,rfl,eb,τ,fm,hv.mono τ _ _ (fun r ⟨d,b1,b2,b3⟩ u H2 s2 iv=>?_) h⟩;subst b1;have fh:=fm.mono s2;have eA:=al.mono (Kp.of s2) _ _;refine⟨xs,s2 _ _ eb,by rw[<-al.length];exact b2,?_⟩;obtain⟨kp,kh⟩:=fh.llset (xs:=xs++[u]) (ds:=dss.getD j []++[d]) e1 ic only ⟨s2 _ _ ha.1,ha.2⟩ nd h0 (ll.keep (Kp.of s2) fun b φ q=>s2 _ _ q) ej (s2 _ _ eb) (eA.append (AllS.cons iv AllS.nil));exact b3 _ _ ((Kp.of (s1.trans s2)).trans kp) kh
def Y4u {b:Af}  (I:?C)(h:H b=some (.ext (LO b xs))):∃o,A1 X ah σ (B0 H b (.frz o (.lst xs))) s:=by
 obtain⟨z,b7,n,r,q⟩:=(show LO b xs s.heap from(I.hok b _ h).1)
 refine⟨_,I.write (t':=s.toks) (h':=s.heap) (e:=b) (o:=.frz {cls:=.type "list",data:=.seq b7.toArray n} (.lst xs)) (by rw[h];trivial) (.inl rfl) (fun b u _ k=>k) ⟨_,q⟩ ?_⟩;exact⟨q,z,b7,n,r,q⟩
theorem Y4s:∀{bs:M Af}{dss:M (M D)}{H:Hp},?C->bs.Nodup->M3 X.K H bs dss ->
  ∃H',A1 X ah σ H' s/\Kp H H'/\(∀c,c∉bs->H' c=H c)/\(∀c u,H c=some u->(∀ φ,u≠.ext φ)->H' c=some u)/\AllS X.K H' (dss.map .lst) (bs.map V.ref)
 |[],dss,H,I,_,h=>by
  rw[show dss=[]from h];exact⟨H,I,Kp.refl H,fun _ _=>rfl,fun _ _ q _=>q,AllS.nil⟩
 |b::bs,dss,H,I,n,h=>by
  obtain⟨ds,r,rfl,⟨xs,q,al⟩,t⟩:=h;rw[bq]at n;obtain⟨o,I1⟩:=Y4u I q;have kp:Kp H (B0 H b (.frz o (.lst xs))):=Q0o q (by intro xs z;cases z) (by intro o u z;cases z) _;have t1:M3 X.K (B0 H b (.frz o (.lst xs))) bs r:=by
   have same:∀{cs:M Af}{ess:M (M D)},b∉cs->M3 X.K H cs ess->M3 X.K (B0 H b (.frz o (.lst xs))) cs ess:=by
    intro cs
    induction cs with
    |nil=>intro ess _ h;exact h
    |cons c cs ih=>
     intro ess nb h;obtain⟨ds,r,rfl,⟨xs,q,al⟩,t⟩:=h;exact⟨ds,r,rfl,⟨xs,by rw[B2 (fun z=>nb (by rw[z];exact ak))];exact q,al.mono kp _ _⟩,ih (fun z=>nb (aj _ z)) t⟩
   exact same n.1 t
  obtain⟨H',I2,k2,o2,e2,eA⟩:=Y4s I1 n.2 t1;refine⟨H',I2,kp.trans k2,fun c hc=>?_,fun c u hq hu=>?_,AllS.cons (A4.s_lst (.inl ⟨o,k2.frz _ _ _ upd_same⟩) ((al.mono kp _ _).mono k2 _ _)) eA⟩
  ·rw[o2 c (fun z=>hc (aj _ z)),B2 (fun z=>hc (by rw[z];exact ak))]
  ·exact e2 c u (by rw[B2 (Q0x hq q (hu _))];exact hq) hu
def Z9j (i:Nat)(w:WS):WS:=fun E τ=>w {E with nx:=fun τ'=>∃a dss,τ'[i]?=some (some (.ll a dss))/\Q0y i τ'=true/\E.nx (τ'.set i (some (.dat (.lst (dss.map .lst)))))} τ
def DS.fzL {w:WS}(i:Nat)(h:DS X H0 st w):DS X H0 st (Z9j i w) where
 mono:=fun τ E F le q=>h.mono τ {E with nx:=fun τ'=>∃a dss,τ'[i]?=some (some (.ll a dss))/\Q0y i τ'=true/\E.nx (τ'.set i (some (.dat (.lst (dss.map .lst)))))} {F with nx:=fun τ'=>∃a dss,τ'[i]?=some (some (.ll a dss))/\Q0y i τ'=true/\F.nx (τ'.set i (some (.dat (.lst (dss.map .lst)))))}
  ⟨fun τ'⟨a,dss,e,o,q⟩=>⟨a,dss,e,o,le.nx _ q⟩,le.rt,le.bk,le.ct⟩ q
 ps:=S6 (Z7l h.ps) fun D σ H ⟨τ,hR,q⟩=>⟨τ,hR,h.mono τ {Q3 X.K H0 H D with nx:=fun τ'=>∃a dss,τ'[i]?=some (some (.ll a dss))/\Q0y i τ'=true/\(Q3 X.K H0 H D).nx (τ'.set i (some (.dat (.lst (dss.map .lst)))))} _
  ⟨fun τ' ji σ' H' kp eM ah s I=>by
   obtain⟨a,dss,e,only,q⟩:=ji;obtain⟨hv,bs,ha,nd,h0,ll⟩:=eM.llAt e;obtain⟨H1,I1,k1,o1,e1,iw⟩:=Y4s I nd ll;have rZ:H1 a=some (.ext (LO a (bs.map V.ref))):=by rw[o1 a ha.2.2];exact ha.1
   obtain⟨ob,I2⟩:=Y4u I1 rZ;have k3:Kp H1 (B0 H1 a (.frz ob (.lst (bs.map V.ref)))):=Q0o rZ (by intro xs z;cases z) (by intro o u z;cases z) _;have k2:=k1.trans k3;have e2:∀c u,H' c=some u->(∀ φ,u≠.ext φ)->B0 H1 a (.frz ob (.lst (bs.map V.ref))) c=some u:=fun c u q n=>by rw[B2 (Q0x (e1 c u q n) rZ (n _))];exact e1 c u q n
   have eA:=iw.mono k3 _ _;have hl:i<τ'.length:=(aM.mp e).1;refine⟨_,I2,q σ' _ (kp.trans k2) ⟨by rw[bG];exact eM.len,fun c u hq=>?_,fun k t et=>?_,fun k l t u w dg et eu m1 m2 q1 q2=>?_⟩⟩
   ·rw[B2 (fun z=>by rw[z,ha.2.1]at hq;cases hq),o1 c (fun z=>by rw[h0 c z]at hq;cases hq)];exact eM.same c u hq
   ·by_cases hk:k=i
    ·subst hk;rw[bi hl]at et;cases et;exact⟨_,hv,A4.s_lst (K:=X.K) (.inl ⟨ob,upd_same⟩) eA⟩
    ·rw[aN (fun z=>hk z.symm)]at et;obtain⟨w,q,r⟩:=eM.here k t et;refine⟨w,q,?_⟩;cases t with
     |dat d=>exact A4.mono k2 _ _ r
     |own es=>obtain⟨c,ys,e,n,q,t⟩:=r;exact⟨c,ys,e,n,e2 _ _ q (by intro φ z;cases z),t.mono k2 _ _⟩
     |bor es=>obtain⟨c,ys,e,q,t⟩:=r;exact⟨c,ys,e,q,t.mono k2 _ _⟩
     |bd es=>obtain⟨c,ys,e,q,t⟩:=r;exact⟨c,ys,e,q,t.mono k2 _ _⟩
     |dk es=>obtain⟨c,ys,e,n,q,t⟩:=r;exact⟨c,ys,e,n,e2 _ _ q (by intro φ z;cases z),t.mono k2 _ _⟩
     |dt es=>obtain⟨c,ys,e,n,q,t⟩:=r;exact⟨c,ys,e,n,e2 _ _ q (by intro φ z;cases z),t.mono k2 _ _⟩
     |ob _=>exact r
     |cl _ _=>exact⟨r.1,r.2.2 _ _ k2 r.2.1,r.2.2⟩
     |ll a' d'=>exact absurd et (Z7e only hk)
     |ins _ _ _=>obtain⟨e,n,dx,ys,q,t⟩:=r;exact⟨e,n,dx,ys,e2 _ _ q (by intro φ z;cases z),t.mono k2 _ _⟩
   ·by_cases hk:k=i
    ·subst hk;rw[bi hl]at et;cases et;cases m1
    ·by_cases nj:l=i
     ·subst nj;rw[bi hl]at eu;cases eu;cases m2
     ·rw[aN (fun z=>hk z.symm)]at et;rw[aN (fun z=>nj z.symm)]at eu;exact eM.apart k l t u w dg et eu m1 m2 q1 q2,fun _ h=>h,fun _ h=>h,fun _ h=>h⟩ q⟩
end
def Q1d (g:WG)(we:WE):M D->C8->(M (M D)->Prop)->Prop
 |[],_,Q=>Q []
 |d::ds,τ,Q=>g d τ fun τ'=>we τ' fun r=>∃es,r=.nw es/\Q1d g we ds τ' fun ess=>Q (es::ess)
theorem Y3o {g:WG}  (hg:∀d τ (P Q:C8->Prop),(∀ τ,P τ->Q τ)->g d τ P->g d τ Q)(he:∀(τ:C8) (P Q:R->Prop),(∀r,P r->Q r)->we τ P->we τ Q):
  ∀(ds:M D) (τ:C8) (P Q:M (M D)->Prop),(∀es,P es->Q es)->Q1d g we ds τ P->Q1d g we ds τ Q
 |[],_,_,_,f,h=>f _ h
 |d::ds,τ,P,Q,f,h=>hg d τ _ _ (fun τ' h=>he τ' _ _ (fun r⟨e,e1,h⟩=>⟨e,e1,Y3o hg he ds τ' _ _ (fun es h=>f _ h) h⟩) h) h
theorem M3.append {K:Fg9}  {b:Af}{ds:M D}  (q:H b=some (.ext (LO b xs)))(al:AllS K H ds xs):∀{bs:M Af}{dss:M (M D)},M3 K H bs dss->M3 K H (bs++[b]) (dss++[ds])
 |[],dss,h=>by rw[show dss=[]from h];exact⟨ds,[],rfl,⟨xs,q,al⟩,rfl⟩
 |c::bs,dss,h=>by obtain⟨es,r,rfl,x,t⟩:=h;exact⟨es,r++[ds],rfl,x,t.append q al⟩
theorem Z9b:∀(bs:M Af),C3 (bs.map V.ref) (bs.map Value.ref)
 |[]=>.nil
 |b::bs=>.cons rfl (Z9b bs)
section
variable {i4:Pos}{nt:Nat}{g:WG}
def W9m {P:M (M D)->Prop}       (hc:X.calm=true)(B:Blk X scope N nt cap)(hi:L4 X H0 tg iter wi)
  (hg:∀C s H fp,DG (blk X scope C s H fp N) H tg g) (he:∀C s H fp,DE (blk X scope C s H fp N) H gt we) (hs:∀x,foldedSetIterable iter X.env x=pure x)
  (I:?C) (hR:C2 X.K H0 τ σ H) (hw:wi τ fun ds=>ds.length<=sizeLine/\Q1d g we ds (T8 nt cap τ) P)
  (fin:∀(C D0:Af) (s2 s4:Ae) (H2 H4:Hp) (fp:M Af) (pb:Pn9) (σ4:R9) (bs:M Af) (nn:Nat) (dss:M (M D)) (f:Flow),A1 X ah σ H2 s2->A5 H H2->A1 ?L pb σ4 H4 s4->(∀b∈fp,M9 X ah H2 b) ->
   s2.heap.objs.size<=C->s2.heap.objs.size<=D0->D0≠C->H4 D0=none->s4.heap.get? D0=some {cls:=.type "list",data:=.seq (bs.map Value.ref).toArray nn}->bs.length<=sizeLine->A5 H2 H4->bs.Nodup->(∀b∈bs,H2 b=none)->M3 X.K H4 bs dss->P dss->compPost ?D X.A X.xe use QQ (.ref D0) C (.ok f) s4):
  wpAny ?D X.A (comprehension (.ListComp gt [⟨tg,iter,[],0⟩] scope pos) scope X.env mi (newList []) false (eval iter X.env) use) QQ X.xe s:=by
 refine dG rfl hs (Z0m fun y hy e=>I.ok.has y.1 (B.free y hy e)) B.kind B.names ?_;refine B3 (hi.pi ah s σ H (fun J H2=>A5 H H2/\∃ds,YlS X.K J ds H2/\ds.length<=sizeLine/\Q1d g we ds (T8 nt cap τ) P) I
  ⟨τ,hR,hi.mono τ _ _ (fun ds h J H' sm yl=>⟨sm,ds,yl,h.1,h.2⟩) hw⟩) fun v s1 h1=>B3 h1 fun mq s2 h2=>?_
 obtain⟨it,fp,tn,J,H2,e,I2,T,fD,f2,ef,ds,yl,hz,kr⟩:=h2;subst e;have iM:∀b∈fp,b<s2.heap.objs.size:=fun b hb=>by
  obtain⟨o,ho,_⟩:=T.obj _ _ fD b hb;exact aA ho
 have fh:=hR.mono ef;refine bR (dn B.cell (by intro y hy;simp at hy) (fun h₁ ee dE=>?_) B.kind);dsimp only at ee dE ⊢;generalize hH2:s2.heap.push {cls:=.type "list",dict:=none,data:=.seq ([]:M Ad).toArray}=Hq at ee dE ⊢;have hC:Hq.objs.size=s2.heap.objs.size+1:=by rw[<-hH2,ba]
 have eh:s2.heap.objs.size≠Hq.objs.size:=by rw[hC];exact aC (c8 _)
 have dy:s2.heap.objs.size<=Hq.objs.size:=by rw[hC];exact cW _
 have old:∀b o,s2.heap.get? b=?R->h₁.get? b=?R:=fun b o e=>dE.extBut b o (by rw[hC];exact aC (bo (aA e))) (ae _ (hH2▸ae _ e));have fF:h₁.PlainList s2.heap.objs.size #[]:=⟨_,dE.extBut _ _ eh (ae _ (hH2▸aE _ rfl))⟩
 generalize hCe:Hq.objs.size=C at ee dE hC eh dy ⊢;generalize hDe:s2.heap.objs.size=D0 at hC eh dy fF ⊢;have eI:∀b∈fp,b<D0:=fun b hb=>hDe▸iM b hb;have g8:tn 0 h₁:=T.keep _ _ _ fD fun b _ o e=>old b o e;have mU:=Z0h (C:=C) (h':=h₁) (t':=s2.toks+([]:M (Str×Ad)).length) I2 B f2 iM (by rw[hDe];exact dy) ee old;have jC:H2 D0=none:=I2.hok.fresh (by rw[hDe];exact am _);have mj:D0∉frs X.stack:=fun z=>by
  rcases au.mp (I2.stkSub _ z)with e |e
  ·have:=I2.lt;rw[<-e,hDe]at this;exact aU _ this
  ·exact I2.nofs (by rw[hDe];exact am _) e
 have ml:∀x c,(V5 X.env scope.names []).lookup x=some c->c≠D0:=fun x c h z=>by
  obtain⟨v,q⟩:=I2.cell x c (Y9 I2 B h);have:=q.lt;rw[z,hDe]at this;exact aU _ this
 have g7:∀{pb:Pn9} {σ':R9}{H':Hp}{s':Ae}{ys:Array Ad}{n:Nat},A1 ?L pb σ' H' s'->H' D0=none->s'.heap.get? D0=some {cls:=.type "list",data:=.seq ys n} ->
   A1 ?L [(D0,{cls:=.type "list",data:=.seq ys n})] σ' H' s':=by
  intro pb σ' H' s' ys n I' n' e;refine I'.pins_of fun p hp=>?_;have e':p=(D0,{cls:=.type "list",data:=.seq ys n}):=by simpa using hp
  subst e';exact⟨e,n',eh,mj,fun v z=>by cases z⟩
 have iR:∀{H':Hp}{ob:Obj},(∀b∈fp,H' b=none)->∀b∈fp,M9 ?L [(D0,ob)] H' b:=by
  intro H' ob hn b hb;refine⟨hn b hb,(aC (aB (eI b hb) dy)),fun z=>?_,.inl hb,fun x c h=>(f2 b hb).2.2.2.2.1 x c (Y9 I2 B h),fun p hp=>?_⟩
  ·rcases au.mp (I2.stkSub b z)with e |e
   ·exact(f2 b hb).2.1 e
   ·exact(f2 b hb).2.2.1 e
  ·have e':p=(D0,ob):=by simpa [blk]using hp
   subst e';exact(aC (eI b hb)).symm
 let lV:Nat->Ae->Prop:=fun k s'=>∃(i:Nat) (σ':R9) (H':Hp) (τ':C8) (nn:Nat) (bs:M Af) (dss:M (M D)),A1 ?L [(D0,{cls:=.type "list",data:=.seq (bs.map Value.ref).toArray nn})] σ' H' s'/\C2 X.K H2 τ' σ' H'/\tn i s'.heap /\
  (∀b∈fp,H' b=none)/\H' D0=none/\bs.Nodup/\(∀b∈bs,H2 b=none)/\M3 X.K H' bs dss/\i<=ds.length/\k=ds.length-i/\bs.length=i/\Q1d g we (ds.drop i) τ' fun ess=>P (dss++ess)
 have loop:∀s₃:Ae,s₃={s2 with heap:=h₁,toks:=s2.toks+([]:M (Str×Ad)).length} ->
   codeAny ?D X.A (.compLoop (.ListComp gt [⟨tg,iter,[],0⟩] scope pos) 0 (.ref it) (.ref D0) (compEnvC scope (V5 X.env scope.names []) C X.env))
    (compPost ?D X.A X.xe use QQ (.ref D0) C) s₃:=by
  rintro s₃ rfl;obtain⟨nn,ho⟩:=id fF;refine Z4v lV ?_ ds.length ⟨0,_,H2,T8 nt cap τ,nn,[],[],g7 mU jC ho,Z7r fh nt cap,g8,fun b hb=>(f2 b hb).1,jC,dL,(by intro b hb;cases hb),rfl,be _,rfl,rfl,by simpa using kr⟩;rintro k s3 ⟨i,σ3,H3,τ3,nn,bs,dss,I3,R3,im,j2,d3,t3,f3,qM,tM,rfl,lO,w3⟩;have cP:A5 H2 H3:=R3.same
  by_cases bW:i<ds.length
  ·refine aS (T.item ?L rfl rfl rfl hc i _ s3 σ3 H3 (fun _ _=>False) I3 (iR j2) im (yl.go H3 cP i bW)) (fun r s4 bF=>?_) fun _ _ z=>z;obtain⟨u,hr,h4⟩:=bF;subst hr;refine aS h4 (fun _ s5 bF=>?_) fun _ _ z=>z;obtain⟨x,H5,I5,r5,y5,gh,l5⟩:=bF;obtain⟨jw,ix⟩:=yl.yld H3 cP i x H5 _ (aa bW) y5;rw[cF bW]at w3;have l8:=I5.pinned (iR l5) (T.obj _ _ gh);refine aS ((hg C s2 H2 fp).pg _ s5 σ3 H5 x u (fun σ6 H6=>∃ τ6,C2 X.K H2 τ6 σ6 H6/\A5 H5 H6/\we τ6 fun r=>∃es,r=.nw es/\Q1d g we (ds.drop (i+1)) τ6 fun ess=>P (dss++(es::ess)))
    l8 r5 ⟨τ3,ds[i],R3.mono jw,ix,(hg C s2 H2 fp).mono _ _ _ _ (fun τ6 h6 σ6 H6 jT R6=>⟨τ6,R6,jT,h6⟩) w3⟩) (fun _ s6 ⟨σ6,H6,I6,τ6,R6,jT,w6⟩=>?_) fun _ _ z=>z
   refine gT ?_;rw[aP rfl];refine aS ((he C s2 H2 fp).pe _ s6 σ6 H6 (fun v H8=>A5 H6 H8/\∃es,F7 X.K H6 H8 (.nw es) v/\Q1d g we (ds.drop (i+1)) τ6 fun ess=>P (dss++(es::ess))) I6
    ⟨τ6,R6,(he C s2 H2 fp).mono τ6 _ _ (fun r cU v H8 jS ir=>(by obtain⟨e,e1,h⟩:=cU;exact⟨jS,e,by subst e1;exact ir,h⟩)) w6⟩) (fun y s8 ⟨v8,H8,I8,md,vg,es,⟨b,xs,eb,nb,ot,xX⟩,w8⟩=>?_) fun _ _ z=>z
   subst eb;obtain rfl:y=Value.ref b:=md;have pd:=I8.pin (D0,_) (aw _ (bp _ ak));obtain⟨o8,d8,_⟩:=pd;have x9:b≠D0:=fun z=>by rw[z,d8]at ot;cases ot
   obtain⟨zb,qS,vB,rb,ob⟩:=I8.hok b _ ot;have uR:A1 ?L ([(D0,{cls:=.type "list",data:=.seq (bs.map Value.ref).toArray nn})]++Y4 fp s5.heap) σ6 (B0 H8 b (.ext (LO b xs))) s8:=
    I8.write (t':=s8.toks) (h':=s8.heap) (e:=b) (by rw[ot];trivial) (.inl rfl) (fun c u _ k=>k) ⟨_,ob⟩ (LO.ok ⟨zb,qS,vB,rb,ob⟩)
   have kp:Kp H8 (B0 H8 b (.ext (LO b xs))):=Q1n ot _;have ma:A5 H6 (B0 H8 b (.ext (LO b xs))):=fun c u q=>by rw[B2 (Z4 q nb)];exact vg c u q
   have lE:(bs.map Value.ref).toArray.size<=sizeLine:=by simp;omega
   refine dP (hsz:=lE) ⟨nn,o8⟩ fun h₅ oh mt=>?_;have oV:A1 ?L (Y4 fp s5.heap) σ6 (B0 H8 b (.ext (LO b xs))) s8:=uR.pins_of fun p hp=>uR.pin p (aw _ (aw _ hp));have sy:B0 H8 b (.ext (LO b xs)) D0=none:=by rw[B2 (bY x9)];exact d8
   have I9:A1 ?L (Y4 fp s5.heap) σ6 (B0 H8 b (.ext (LO b xs))) {s8 with heap:=h₅}:=by
    refine oV.turned (t':=s8.toks) (it:=D0) (fun c o hb e=>(mt.2 c hb).trans e) sy eh (.inr (by rw[<-hDe];exact am _)) ml (fun p hp z=>?_);obtain⟨q1,_⟩:=Q8x (by simpa [blk]using hp);exact aC (eI _ q1) z
   obtain⟨nS,o9⟩:=oh;have vn:h₅.get? D0=some {cls:=.type "list",data:=.seq ((bs++[b]).map Value.ref).toArray nS}:=by rw[o9];simp
   have pD:A5 H3 H6:=jw.trans jT;have nH:tn (i+1) h₅:=T.keep _ _ _ gh fun b hb o e=>(I9.pin (b,o) (aw _ (Q2j hb e))).1;have vG:M3 X.K (B0 H8 b (.ext (LO b xs))) bs dss:=qM.keep (Kp.of (pD.trans ma)) fun c φ q=>(pD.trans ma) _ _ q;refine⟨ds.length-(i+1),?A,i+1,σ6,_,τ6,nS,bs++[b],dss++[es],g7 I9 sy vn,R6.mono ma,nH,fun c hb=>?_,sy,?_,fun c hc=>?_,vG.append upd_same (xX.mono kp _ _),bW,rfl,by rw[aq,lO];rfl,by simpa using w8⟩
   ·obtain⟨o,e,_⟩:=T.obj _ _ gh c hb;exact(I9.pin (c,o) (aw _ (Q2j hb e))).2.1
   ·rw[bg];refine⟨t3,by simp,fun c hc c' eV z=>?_⟩;rw[show c'=b by simpa using eV]at z;obtain⟨nG,q⟩:=qM.mem hc;have q6:=pD _ _ q;rw[z,nb]at q6;cases q6
   ·rcases aO.mp hc with z |z
    ·exact f3 c z
    ·rw[aG.mp z];exact(cP.trans pD).free nb
  ·have e:i=ds.length:=?A
   subst e;refine aS (T.done ?L rfl rfl rfl hc ds.length _ s3 σ3 H3 (fun _ _=>False) I3 (iR j2) im (yl.stop H3 cP)) (fun r s4 bF=>?_) fun _ _ z=>z;obtain⟨hr,I4⟩:=bF;subst hr;have o4:=(I4.pin (D0,_) (aw _ ak)).1;rw[dY]at w3;have w3:P (dss++[]):=w3;rw[aZ]at w3;exact fin C D0 s2 s4 H2 H3 fp _ σ3 bs nn dss _ I2 ef I4 f2 (by rw[hDe];exact dy) (by rw[hDe];exact am _) eh d3 o4 (?A) cP t3 f3 qM w3
 exact gx (loop _ rfl) (T.self _ 0 _ _ _ g8 (loop _ rfl))
def Z9m (i nt:Nat)(cap:?P)(wi:WIE)(g:WG)(we:WE):WS:=fun E τ=>wi τ fun ds=>ds.length<=sizeLine/\Q1d g we ds (T8 nt cap τ) fun dss=>∀a,E.nx (τ.set i (some (.ll a dss)))
def W3h {i:Nat}  (hc:X.calm=true)(B:Blk X scope N nt cap)(hi:L4 X H0 tg iter wi)(hg:∀C s H fp,DG (blk X scope C s H fp N) H tg g)(he:∀C s H fp,DE (blk X scope C s H fp N) H gt we)(hN:X.N.Nodup)(mJ:X.N[i]?=some x)(hx:Loc X.env.scope x)
  (jf:swapsWith (.ListComp gt [⟨tg,iter,[],0⟩] scope pos) (some (.Name x cg)) i4.line X.env=pure true:=by rfl) (hs:∀x,foldedSetIterable iter X.env x=pure x:=by intro _;rfl)
  (hf:?K:=by sleep 1):
  DS X H0 (.Assign [.Name x cg] (.ListComp gt [⟨tg,iter,[],0⟩] scope pos) i4) (Z9m i nt cap wi g we) where
 mono:=fun τ E F le h=>hi.mono τ _ _ (fun ds h=>⟨h.1,Y3o (hg 0 X.s₀ X.H₀ []).mono (he 0 X.s₀ X.H₀ []).mono ds _ _ _ (fun es h a=>le.nx _ (h a)) h.2⟩) h
 ps:=by
  intro ah s σ H D I ⟨τ,hR,hw⟩;rw[hV _ _ _ _ jf];refine af (dM (af ?_))
  change wpAny ?D X.A (do let _ <- comprehension (.ListComp gt [⟨tg,iter,[],0⟩] scope pos) scope X.env _ (newList []) false (eval iter X.env) (some (assign (.Name x cg) X.env))) _ _ s
  refine af (aS (W9m (use:=some (assign (.Name x cg) X.env)) (QQ:=fun _ s'=>SP X ah D .next s') hc B hi hg he hs I hR hw fun C D0 s2 s4 H2 H4 fp pb σ4 bs nn dss f I2 ef I4 f2 hC hD eh hn ho hz ju nd fr ll w3=>?_)
   (fun _ s' hq=>ao (ao hq)) fun _ _ e=>e)
  have Ib:A1 X ah σ (B0 H4 D0 (.ext (LO D0 (bs.map V.ref)))) {s4 with heap:=s4.heap}:=
   Y2r I2 I4 f2 hC hD hn ⟨rfl,fun _ _=>rfl⟩ (LO.ok ⟨by rw[ag];exact hz,bs.map Value.ref,nn,Z9b bs,ho⟩)
  have lT:C≠X.env.locals:=fun z=>aU _ (aB I2.lt (z▸hC));have lS:∀x c,X.env.cells.lookup x=some c->c≠C:=fun x c h z=>by
   obtain⟨v,q⟩:=I2.cell x c h;exact aU _ (aB q.lt (z▸hC))
  change wpAny ?D X.A (assign (.Name x cg) X.env (Value.ref D0)) _ _ s4
  refine fU (Z2q (v:=.ref D0) Ib hN mJ hx rfl (fun s5 I5 bF=>?_) hf);obtain⟨a,nJ,ha⟩:=bF;obtain⟨m4,kU,_⟩:=id I4.loc;have oI:C≠a:=by
   rcases ha with ha |ha
   ·rw[ha];exact lT
   ·exact fun z=>lS _ _ ha z.symm
  refine⟨m4,kU.sameBut nJ oI,fun h' sb=>?_⟩;have oJ:H4 C=none:=I4.free;have I6:A1 X ah (σ.set i (some (.ref D0))) (B0 H4 D0 (.ext (LO D0 (bs.map V.ref)))) {s5 with heap:=h'}:=by
   refine I5.turned (t':=s5.toks) (it:=C) (fun b o hb e=>(sb.2 b hb).trans e) (by rw[B2 (bY eh)];exact oJ) lT (.inr (aV I2.sz hC)) lS fun p hp z=>?_;have:=(I2.pin p hp).1;exact aU _ (aB (aA this) (z▸hC))
  have kj:A5 H (B0 H4 D0 (.ext (LO D0 (bs.map V.ref)))):=ef.trans (ju.trans (G3 hn _));have eM:=(hR.mono kj).set (i:=i) (s:=.ll D0 dss) (v:=.ref D0) ⟨rfl,bs,⟨upd_same,((hR.same.trans ef).trans ju).free hn,fun z=>by obtain⟨xs,q⟩:=ll.mem z;rw[hn]at q;cases q⟩,nd,fun b hb=>(hR.same.trans ef).free (fr b hb),ll.keep (Kp.of (G3 hn _)) fun c φ q=>by rw[B2 (Z4 q hn)];exact q⟩ fun m=>by cases m
  exact⟨_,_,I6,w3 D0 _ _ (Kp.of kj) eM⟩
end
theorem D7.hid {K:Fg9}   (hS:V0 S H):∀{kvs:M (κ×D)}{ps:M (κ×V)},D7 K H kvs ps->D7 K (N4 S H) kvs ps
 |[],ps,h=>h
 |p::kvs,ps,h=>by obtain⟨v,r,e,q,t⟩:=h;exact⟨v,r,e,A4.hid hS _ _ q,D7.hid hS t⟩
def R8.hid {K:Fg9}  {kvs:M (B8×D)}:Q4b (R8 K a kvs):=fun S H hS cG=>by
 obtain⟨o,ps,h,q⟩:=cG;refine⟨o,ps,?_,q.hid hS⟩;rw[Q0v]
 ·exact h
 ·intro ha;obtain⟨o',u,e,_⟩:=hS a ha;rw[h]at e;cases e
section
variable {w:WS}{a:Ag}{wk:WE}{i j nt:Nat}{pk:WIE}{g:WG}{E:F6}{K:Fg9}{Q:R->Prop}
def Q7k (i:Nat)(w:WS):WS:=fun E τ=>w {E with nx:=fun τ'=>∃ds,τ'[i]?=some (some (.own ds))/\E.nx (τ'.set i (some (.dat (.lst ds))))} τ
def Y0z (i:Nat)(h:DS X H0 st w):DS X H0 st (Q7k i w) where
 mono:=fun τ E F le q=>h.mono τ {E with nx:=fun τ'=>∃ds,τ'[i]?=some (some (.own ds))/\E.nx (τ'.set i (some (.dat (.lst ds))))} {F with nx:=fun τ'=>∃ds,τ'[i]?=some (some (.own ds))/\F.nx (τ'.set i (some (.dat (.lst ds))))} ⟨fun τ'⟨ds,e,q⟩=>⟨ds,e,le.nx _ q⟩,le.rt,le.bk,le.ct⟩ q
 ps:=S6 (Z7l h.ps) fun D σ H ⟨τ,hR,q⟩=>⟨τ,hR,h.mono τ {Q3 X.K H0 H D with nx:=fun τ'=>∃ds,τ'[i]?=some (some (.own ds))/\(Q3 X.K H0 H D).nx (τ'.set i (some (.dat (.lst ds))))} _ ⟨fun τ' dF σ' H' kp eM ah s I=>by
  obtain⟨ds,e,q⟩:=dF;obtain⟨a,xs,hv,h0,sq,al⟩:=eM.ownAt e;obtain⟨o,I2⟩:=A1.freeze I sq;exact⟨_,I2,q σ' _ (kp.trans (Q1n sq _)) (eM.freeze e hv h0 sq al)⟩,fun _ h=>h,fun _ h=>h,fun _ h=>h⟩ q⟩
@[simp] theorem Z7u:Q7k i w E τ=w {E with nx:=fun τ'=>∃ds,τ'[i]?=some (some (.own ds))/\E.nx (τ'.set i (some (.dat (.lst ds))))} τ:=rfl
@[simp] theorem V7a:Z9i K i w E τ=w {E with nx:=fun τ'=>∃kvs,τ'[i]?=some (some (.dk kvs))/\∀a,E.nx (τ'.set i (some (.cl a (R8 K a kvs))))} τ:=rfl
@[simp] theorem V7b:Z9j i w E τ=w {E with nx:=fun τ'=>∃a dss,τ'[i]?=some (some (.ll a dss))/\Q0y i τ'=true/\E.nx (τ'.set i (some (.dat (.lst (dss.map .lst)))))} τ:=rfl
@[simp] theorem V7y:Z9s K i E τ=∃kvs,τ[i]?=some (some (.dk kvs))/\∀a,E.rt (.cl a (R8 K a kvs)):=rfl
@[simp] theorem V7z:Z9t i we E τ=we τ fun r=>∃a Φ,r=.cl a Φ/\E.nx (τ.set i (some (.cl a Φ))):=rfl
@[simp] theorem Y8k:Z3b K i we τ Q=∃a kvs,τ[i]?=some (some (.cl a (R8 K a kvs)))/\we τ fun r=>∃kd k d,r=.st kd/\Q8 kd=some k/\G5 kvs k=some d/\Q (.st d):=rfl
@[simp] theorem V6z:Z9h K i we τ Q=∃a kvs,τ[i]?=some (some (.cl a (R8 K a kvs)))/\we τ fun r=>∃kd k,r=.st kd/\Q8 kd=some k/\Q (.st ((G5 kvs k).getD .non)):=rfl
@[simp] theorem V7l:Z9l i E τ=E.nx (τ.set i (some (.dk []))):=rfl
@[simp] theorem Y8n:Z3d i we wv E τ=(i<τ.length/\we τ fun rk=>∃kd k,rk=.st kd/\Q8 kd=some k/\wv τ fun r=>∃d,r=.st d/\E.nx (τ.set i (some (.dk [(k,d)])))):=rfl
@[simp] theorem V7m:Z3e i we wv E τ=∃kvs,τ[i]?=some (some (.dk kvs))/\we τ fun rk=>∃kd k,rk=.st kd/\Q8 kd=some k/\wv τ fun r=>∃d,r=.st d/\kvs.length<sizeLine/\E.nx (if (G5 kvs k).isSome=true then τ else τ.set i (some (.dk (kvs++[(k,d)])))):=rfl
@[simp] theorem V7k:Z9k i nt cap pk g wk wv E τ=pk τ fun ds=>ds.length<sizeLine/\Z0 g wk wv ds (T8 nt cap τ) [] fun kvs=>E.nx (τ.set i (some (.dk kvs))):=rfl
@[simp] theorem V7p:Z9m i nt cap pk g we E τ=pk τ fun ds=>ds.length<=sizeLine/\Q1d g we ds (T8 nt cap τ) fun dss=>∀a,E.nx (τ.set i (some (.ll a dss))):=rfl
@[simp] theorem V7o:Q9o i we wv E τ=∃a dss,τ[i]?=some (some (.ll a dss))/\Q0y i τ=true/\we τ fun r=>∃k j,r=.st (.int k)/\ixN dss.length k=some j/\wv τ fun r2=>∃d,r2=.st d/\(dss.getD j []).length<sizeLine/\E.nx (τ.set i (some (.ll a (dss.set j (dss.getD j []++[d]))))):=rfl
@[simp] theorem V7q {kvs:M (B8×D)}:Q5m [.dk kvs] Q=Q (.nw (kvs.map fun p=>kyD p.1)):=rfl
@[simp] theorem V7u {r:R}:Q1i [r] Q=∃ns:M Int,U1 r=some (ns.map .int)/\ns≠[]/\∀m,m∈ns->(∀n∈ns,n<=m)->Q (.st (.int m)):=rfl
end
section
variable {w:Ak}{t:Af}{i:Nat}
def V1e {x:Ad}  (hit:s.heap.IsTupleIter it t i)(ht:s.heap.IsTuple t items)(hx:items[i]?=some x)(hQ:∀h',h'.IsTupleIter it t (i+1)->Heap.SameBut it s.heap h'->Q x {s with heap:=h'}):
  wpAny ?T A (Builtin.SmallTypes.nextOf (.ref it)) Q E s:=by
 obtain⟨o,ho,hc,hd⟩:=id hit;obtain⟨ol,nh,_,nl,nq⟩:=ht;unfold Builtin.SmallTypes.nextOf;refine af (bT (name:=Str.ofString "__next__") hit.typeIs dm (ck dm hit.typeIs p6 ?_ (nB _)))
 change wpAny ?T A.in1 (field (Value.ref it) 0>>=_) _ _ s
 refine af (bM ho hd (x:=.ref t) rfl (?_:wpAny ?T A.in1 (if (Value.ref t==Value.none)=true then _ else _) _ _ s));rw[aK (show ¬ (Value.ref t==Value.none)=true from br)]
 change wpAny ?T A.in1 (field (Value.ref it) 1>>=_) _ _ s
 refine af (bM ho hd (x:=.int i 0) rfl (?_:wpAny ?T A.in1 (seqItems? (Value.ref t)>>=_) _ _ s));refine af (cu nh nq ?_);simp only[bO,hx];refine af (wpAny_setField ho hd ?H (ao ⟨x,rfl,ao (hQ _ ⟨_,cX _ ho (Obj.isFreed_of_fields (Obj.data_mapFields hd _)),(Obj.cls_mapFields ..).trans hc,by rw[Obj.data_mapFields hd];simp[rawInt]⟩ (bQ ..))⟩))
def V1f (hh:A.handled=none)(hit:s.heap.IsTupleIter it t i)(ht:s.heap.IsTuple t items)(hx:items[i]?=none)
  (hE:∀h' e,Heap.ExtBut it s.heap h'->(∃o,h'.get? e=?R/\o.cls=.type "StopIteration")->E (.ref e) {s with heap:=h'}):wpAny ?T A (Builtin.SmallTypes.nextOf (.ref it)) Q E s:=by
 obtain⟨o,ho,hc,hd⟩:=id hit;obtain⟨ol,nh,_,nl,nq⟩:=ht;unfold Builtin.SmallTypes.nextOf;refine af (bT (name:=Str.ofString "__next__") hit.typeIs dm (ck dm hit.typeIs p6 ?_ (nB _)))
 change wpAny ?T A.in1 (field (Value.ref it) 0>>=_) _ _ s
 refine af (bM ho hd (x:=.ref t) rfl (?_:wpAny ?T A.in1 (if (Value.ref t==Value.none)=true then _ else _) _ _ s));rw[aK (show ¬ (Value.ref t==Value.none)=true from br)]
 change wpAny ?T A.in1 (field (Value.ref it) 1>>=_) _ _ s
 refine af (bM ho hd (x:=.int i 0) rfl (?_:wpAny ?T A.in1 (seqItems? (Value.ref t)>>=_) _ _ s));refine af (cu nh nq ?_);simp only[bO,hx];refine af (dU (af (wpAny_setField ho hd ?H (?_:wpAny ?T A.in1 (newExc (.type "StopIteration") []>>=_) _ _ _))));refine af ?_;simp only[newExc,newTuple];refine af (bR (?_) (by size_fits));refine af (m:=firstArgMember _ _) (wpAny_of_eq (a:=Value.none) (by rfl) (bR ?_ (by size_fits)));simp only[raiseNew];refine af (wpAny_handled ?_);rw[show A.in1.handled=none from hh];exact af (ao (wpAny_throw (hE _ _ (((bQ ..).extBut.push _).push _) ⟨_,aE _ rfl,rfl⟩)))
end
def Q8g {w:Ak}  (hh:A.handled=none)(it t:Af)(dg:t≠it)(items:Array Ad):
  Draws P w A it [it,t] items.size (fun i v=>items[i]?=some v) (fun i h=>h.IsTupleIter it t i/\h.IsTuple t items) where
 live:=fun _ _ st=>let ⟨o,ho,_⟩:=st.1;⟨o,ho⟩
 frame:=fun _ _ _ cG hk=>(by obtain⟨⟨o,ho,r⟩,o2,jz,r2⟩:=cG;exact⟨⟨o,hk it ?H o ho,r⟩,o2,hk t ?H o2 jz,r2⟩)
 item:=fun i s Q E hi st hQ=>V1e st.1 st.2 (x:=items[i]) (by simp[hi]) fun h' k9 lH=>hQ _ h' s.toks (by simp[hi]) ⟨k9,st.2.extBut lH.extBut dg⟩ lH
 done:=fun s Q E st hE=>V1f hh st.1 st.2 ?H hE
open AutoSeq1 (wpAny_loadPart') in
def W6y (t:Af)(items:Array Ad):
  Meets (Builtin.«enumerate.__new__» ⟨[.type "enumerate",.ref t],[]⟩) (fun _ R s=>s.heap.IsTuple t items /\
   R (.ok (.ret (.ref (s.heap.push {cls:=.type "tuple_iterator",data:=.fields #[.ref t,.int 0 0]}).objs.size)))
    {s with heap:=(s.heap.push {cls:=.type "tuple_iterator",data:=.fields #[.ref t,.int 0 0]}).push {cls:=.type "enumerate",data:=.fields #[.none,.bool false,.ref s.heap.objs.size,rawInt 0,.none,.none]}}):=
 .of_wp fun prog w A R s h=>by
  obtain⟨hp,g,d,tk,os⟩:=s;obtain⟨hL,h⟩:=h;obtain⟨⟨c,yJ,dt,sl⟩,hl,hc,n,hd⟩:=id hL
  replace hc:c=.type "tuple":=hc
  replace hd:dt=.seq items n:=hd
  subst hc hd;have hL:Heap.IsTuple (Shared.heap ⟨hp,g,d,tk,os⟩) t items:=hL;have ie:=sub_enumerate
  wp_walk using wpAny_loadPart' hl
  refine wpAny_stack_any fun st=>ao ?_;split
  ·rename_i c _ _ _ _ _;cases (c==Value.type "enumerate")<;>(wp_walk using wpAny_loadPart' hl,fG hL)<;>exact⟨_,rfl,h⟩
  ·wp_walk using wpAny_loadPart' hl,fG hL
   exact⟨_,rfl,h⟩
section
variable {w:Ak}
def Y2y {t:Af}   (ht:s.heap.IsTuple t items)
  (h:∀h',IsEnum h' (s.heap.objs.size+1) s.heap.objs.size 0 .none->h'.IsTupleIter s.heap.objs.size t 0->h'.objs.size=s.heap.objs.size+2->(∀b o,s.heap.get? b=?R->h'.get? b=?R)->Q (.ref (s.heap.objs.size+1)) {s with heap:=h'}):
  wpAny ?T A (call (.type "enumerate") [.ref t]) Q E s:=by
 refine yX F.called_enumerate (?G) (F.typeCall_enumerate_1 _) (F.newCall_enumerate_1 _) (fun obj=>F.args_object_init_2 obj _) F.entry_enumerate_new (W6y t items) ⟨ht,?_⟩;have hz:(s.heap.push {cls:=.type "tuple_iterator",data:=.fields #[.ref t,.int 0 0]}).objs.size=s.heap.objs.size+1:=ba ..;have he:IsEnum ((s.heap.push {cls:=.type "tuple_iterator",data:=.fields #[.ref t,.int 0 0]}).push {cls:=.type "enumerate",data:=.fields #[.none,.bool false,.ref s.heap.objs.size,rawInt 0,.none,.none]}) (s.heap.objs.size+1) s.heap.objs.size 0 .none:=by
  have e:=aE (s.heap.push {cls:=.type "tuple_iterator",data:=.fields #[.ref t,.int 0 0]}) (o:={cls:=.type "enumerate",data:=.fields #[.none,.bool false,.ref s.heap.objs.size,rawInt 0,.none,.none]}) rfl;rw[hz]at e;exact e
 rw[hz];exact⟨⟨_,he,rfl⟩,h _ he ⟨_,ae _ (aE _ rfl),rfl,rfl⟩ (by rw[ba,hz]) fun b o x=>ae _ (ae _ x)⟩
end
def Iet (K:Fg9)(l:Af):It:=⟨fun i H=>∃xs x,E2 K H l xs/\xs[i]?=some x,fun i H v H'=>∃T x,(∀xs,E2 K H l xs->xs[i]?=some x)/\H T=none/\v=.ref T/\H'=B0 H T (.tup [.int (i:Int),x]),fun i H=>∃xs,E2 K H l xs/\xs.length=i⟩
def W0l {w:Ak}{K:Fg9}   {pt:Pos}  (dg:en≠it)(ig:l≠en)(ni:l≠it):
  Q1o P w K (.Tuple gN kk pt) (Iet K l) [en,it] en (fun i h=>(∃old,IsEnum h en it i old)/\h.IsTupleIter it l i) where
 mem:=by simp
 obj:=fun i h st b hb=>by
  obtain⟨⟨old,he⟩,o,ho,_,d⟩:=st;rcases au.mp hb with rfl |hb
  ·exact⟨_,he,fun v z=>by cases z⟩
  ·have e:b=it:=by simpa using hb
   subst e;exact⟨o,ho,fun v z=>by rw[d]at z;cases z⟩
 keep:=fun i h h' cU k=>(by obtain⟨⟨old,he⟩,o,ho,r⟩:=cU;exact⟨⟨old,k en ?H _ he⟩,o,k it ?H o ho,r⟩)
 item:=by
  back_in;obtain⟨xs,x,hq,hx⟩:=hg;obtain⟨b7,rv,p,hz⟩:=I.tuple hq;have W:=fW (Q8g (P:=X.prog) (w:=X.w) (A:=X.A.in1) (show X.A.in1.handled=none from I.ok.hd hc) it l ni b7.toArray) en dg (by simp;exact⟨dg,fun z=>ig z.symm⟩) ?H;obtain⟨u,hu,ru⟩:=rv.get hx;have bW:i<b7.toArray.size:=by
   rcases aX i b7.length with h |h
   ·simpa using h
   ·rw[ay.mpr h]at hu;cases hu
  refine W.item i s _ _ bW ⟨st.1,st.2,p⟩ fun T jb h' tk hv hT oG lD k=>?_;obtain⟨t1,y,hy,rfl⟩:=hv;have ey:y=u:=by
   have:b7[i]?=some y:=by simpa using hy
   rw[hu]at this;exact(az this).symm
  subst ey;refine⟨_,rfl,W.go gN kk pt i T {s with heap:=h',toks:=tk} _ _ lD fun h2 fD k2=>?_⟩;have kJ:∀b o,b∉[en,it]->s.heap.get? b=?R->h2.get? b=?R:=fun b o hb e=>k2 b o hb (k b o hb e);have lP:=W.apart i T h' lD;have gM:IsTup h2 T ([Value.int (i:Int) t1,y]).toArray:=by
   obtain⟨o,ho,r⟩:=oG;exact⟨o,k2 T o lP ho,r⟩
  have I2:=Q9l (t':=tk) (xs:=[.int (i:Int),x]) I kJ hf hT gM (.cons ⟨t1,rfl⟩ (.cons ru .nil)) (by show 2<=sizeLine;decide);refine⟨.ref T,_,I2,rfl,⟨T,x,fun ys hy=>by rw[I.tuple_inj hy hq];exact hx,I.hok.fresh hT,rfl,rfl⟩,⟨fD.1,fD.2.1⟩,fun b hb=>?_⟩;rw[B2 (show b≠T from fun z=>lP (by rw[<-z];exact hb))];exact(hf b hb).1
 done:=by
  back_in;obtain⟨xs,hq,hx⟩:=hg;obtain⟨b7,rv,p,hz⟩:=I.tuple hq;have W:=fW (Q8g (P:=X.prog) (w:=X.w) (A:=X.A.in1) (show X.A.in1.handled=none from I.ok.hd hc) it l ni b7.toArray) en dg (by simp;exact⟨dg,fun z=>ig z.symm⟩) ?H;have hl:=rv.length;have e:i=b7.toArray.size:=by simp;omega
  subst e;exact W.done s _ _ ⟨st.1,st.2,p⟩ fun h' tk k=>⟨rfl,Q5u I k hf⟩
 self:=fun A i s Q E dF h=>(by obtain⟨⟨old,he⟩,_⟩:=dF;exact cx he h)
def Z3o {K:Fg9}    {ds:M D}(hq:H l=some (.tup xs))(al:AllS K H ds xs):Yl K H0 (Iet K l) (K1 ds) H where
 go:=fun H' k s i hi=>by
  rw[Q4i]at hi;exact⟨xs,xs[i]'(by rw[<-al.length];exact hi),E2.of (k.tup _ _ hq),aa _⟩
 yld:=fun H' k s i v eX d hd ff=>by
  obtain⟨T,x,hx,hT,hv,hH⟩:=ff;subst hH hv;refine⟨G3 hT _,?_⟩;obtain⟨y,hy,rfl⟩:=Z0p hd;obtain⟨v,hv,q⟩:=al.get hy;rw[hx xs (E2.of (k.tup _ _ hq))]at hv;cases hv;exact A4.s_tup upd_same (AllS.cons Q1m (AllS.cons (q.mono (k.trans (Kp.of (G3 hT _))) _ _) AllS.nil))
 stop:=fun H' k s=>⟨xs,E2.of (k.tup _ _ hq),by rw[Q4i];exact al.length.symm⟩
def J1e {K:Fg9}  :Yl K H0 (Ies x) (K1 (G4 x)) H where
 go:=fun H' _ _ i hi=>(Y0m (K:=K) (H:=H')).go H' (A5.refl _) i hi
 yld:=fun H' _ _ i v eX d hd h=>(Y0m (K:=K) (H:=H')).yld H' (A5.refl _) i v eX d hd h
 stop:=fun H' _ _=>(Y0m (K:=K) (H:=H')).stop H' (A5.refl _)
section
variable {a:Ag}
def Q6o (wr:WA):WI:=fun τ Q=>wr τ fun rs=>(∃x,rs=[.st (.str x)]/\Q (K1 (G4 x)) τ)\/∃ds,rs=[.st (.tup ds)]/\Q (K1 ds) τ
def DI.enumX {pt:Pos}(hg:Gl X "enumerate")(hm:X.mg "enumerate"=none)(hv:bootBuiltins "enumerate"=some (.type "enumerate"))(ha:DA X H0 [a] wr)(he:starEach [a] X.env=(false,eval a X.env)::starEach [] X.env:=by rfl)(hpl:(backTo pos (starEach [] X.env)).any (·.1)=false:=by rfl):
  DI X H0 (.Tuple gN kk pt) (.Call (.Name "enumerate" p) [a] [] pos) (Q6o wr) where
 mono:=fun τ P Q f h=>ha.mono τ _ _ (fun r h=>h.imp (fun⟨x,e1,q⟩=>⟨x,e1,f _ _ q⟩) fun⟨ds,e1,q⟩=>⟨ds,e1,f _ _ q⟩) h
 pi:=by
  intro ah s σ H R I ⟨τ,hR,h⟩;refine bj (Q1h I hg hm hv ?_ (?G) (?G));refine bf (B3 (ha.pa pos ah s σ H (fun vs H1=>A5 H H1/\((∃x,vs=[.str x]/\∀J H',Kp H H'->C2 X.K H0 τ σ H'->Yl X.K H0 J (K1 (G4 x)) H'->R J H') \/
    ∃l xs ds,vs=[.ref l]/\H1 l=some (.tup xs)/\AllS X.K H1 ds xs/\∀J H',Kp H H'->C2 X.K H0 τ σ H'->Yl X.K H0 J (K1 ds) H'->R J H')) I
   ⟨τ,hR,ha.mono τ _ _ (fun rs h vs H1 s1 dA=>⟨s1,?_⟩) h⟩) fun us s1 ⟨vs,H1,I1,rv,sm,hh⟩=>?_) he hpl
  ·rcases h with⟨x,e1,q⟩ |⟨ds,e1,q⟩
   ·subst e1;obtain⟨v,rfl,ir⟩:=Q0q dA;cases (show v=.str x from ir);exact .inl ⟨x,rfl,q⟩
   ·subst e1;obtain⟨v,rfl,ir⟩:=Q0q dA;have ir:A4 X.K H1 (.tup ds) v:=ir;unfold A4 at ir;obtain⟨l,xs,rfl,sq,al⟩:=ir;exact .inr ⟨l,xs,ds,rfl,sq,al,q⟩
  ·have big:∀b∈[s1.heap.objs.size+1,s1.heap.objs.size],M9 X ah H1 b:=fun b hb=>by
    have hb:s1.heap.objs.size<=b:=by
     rcases au.mp hb with rfl |hb
     ·exact cW _
     ·have e:b=s1.heap.objs.size:=by simpa using hb
      rw[e];exact am _
    exact I1.fpOk hb (I1.hok.fresh hb)
   rcases hh with⟨x,rfl,q⟩ |⟨l,xs,ds,rfl,sq,al,q⟩
   ·obtain⟨u,rfl,ru⟩:=Q0k rv;obtain⟨t,rfl⟩:=ru;refine call_enumerate_str fun h' he hi hz k=>?_;exact cx he ⟨s1.heap.objs.size+1,[s1.heap.objs.size+1,s1.heap.objs.size],_,_,H1,rfl,I1.kept (t':=s1.toks) k,J0f (x:=x) (t:=t) (dX _),⟨⟨_,he⟩,hi⟩,big,q _ _ (Kp.of sm) (hR.mono sm) J1e⟩
   ·obtain⟨u,rfl,ru⟩:=Q0k rv;cases (show u=Value.ref l from ru);obtain⟨b7,i6,pl,kK⟩:=I1.tuple (E2.of sq);have hl:l<s1.heap.objs.size:=by obtain⟨o,ho,_⟩:=pl;exact aA ho
    refine Y2y pl fun h' he hi hz k=>?_;exact cx he ⟨s1.heap.objs.size+1,[s1.heap.objs.size+1,s1.heap.objs.size],_,_,H1,rfl,I1.kept (t':=s1.toks) k,W0l (l:=l) (dX _) (aC (bo hl)) (aC hl),⟨⟨_,he⟩,hi⟩,big,q _ _ (Kp.of sm) (hR.mono sm) (Z3o sq al)⟩
@[simp] theorem Y8l {Q:M D->C8->Prop}:Q6o wr τ Q=wr τ fun rs=>(∃x,rs=[.st (.str x)]/\Q (K1 (G4 x)) τ)\/∃ds,rs=[.st (.tup ds)]/\Q (K1 ds) τ:=rfl
end
def J1j {K:Fg9}    {ds:M D}(hq:H l=some (.tup xs))(al:AllS K H ds xs):YlS K (Iet K l) (K1 ds) H where
 go:=fun H' s i hi=>(Z3o (H0:=H) hq al).go H' (Kp.of s) s i hi
 yld:=fun H' s i v eX d hd h=>(Z3o (H0:=H) hq al).yld H' (Kp.of s) s i v eX d hd h
 stop:=fun H' s=>(Z3o (H0:=H) hq al).stop H' (Kp.of s) s
section
variable {a:Ag}
def W7:R->Ac (M D)
 |.st (.tup ds)=>some ds
 |r=>U1 r
def Z0z (wr:WA):WIE:=fun τ Q=>wr τ fun rs=>∃r ds,rs=[r]/\W7 r=some ds/\Q (K1 ds)
def L4.enumX {pt:Pos}(hg:Gl X "enumerate")(hm:X.mg "enumerate"=none)(hv:bootBuiltins "enumerate"=some (.type "enumerate"))(ha:DA X H0 [a] wr)(he:starEach [a] X.env=(false,eval a X.env)::starEach [] X.env:=by rfl)(hpl:(backTo pos (starEach [] X.env)).any (·.1)=false:=by rfl):
  L4 X H0 (.Tuple gN kk pt) (.Call (.Name "enumerate" p) [a] [] pos) (Z0z wr) where
 mono:=fun τ P Q f h=>ha.mono τ _ _ (fun r⟨r',ds,e1,e2,q⟩=>⟨r',ds,e1,e2,f _ q⟩) h
 pi:=by
  intro ah s σ H R I ⟨τ,hR,h⟩;refine bj (Q1h I hg hm hv ?_ (?G) (?G));refine bf (B3 (ha.pa pos ah s σ H (fun vs H1=>A5 H H1/\((∃l xs ds,vs=[.ref l]/\H1 l=some (.tup xs)/\AllS X.K H1 ds xs/\∀J H',A5 H H'->YlS X.K J (K1 ds) H'->R J H')\/∃l xs ds,vs=[.ref l]/\F2 X.K H1 l xs/\AllS X.K H1 ds xs/\∀J H',A5 H H'->YlS X.K J (K1 ds) H'->R J H')) I
   ⟨τ,hR,ha.mono τ _ _ (fun rs h vs H1 s1 dA=>⟨s1,?_⟩) h⟩) fun us s1 ⟨vs,H1,I1,rv,sm,hh⟩=>?_) he hpl
  ·obtain⟨r,ds,e1,e2,q⟩:=h;subst e1;obtain⟨v,rfl,ir⟩:=Q0q dA
   by_cases ht:∃es,r=.st (.tup es)
   ·obtain⟨es,rfl⟩:=ht;cases e2;have ir:A4 X.K H1 (.tup ds) v:=ir;unfold A4 at ir;obtain⟨l,xs,rfl,sq,al⟩:=ir;exact .inl ⟨l,xs,ds,rfl,sq,al,q⟩
   ·have e2:U1 r=some ds:=by
     unfold W7 at e2;split at e2
     ·exact absurd ⟨_,rfl⟩ ht
     ·exact e2
    obtain⟨l,xs,rfl,sq,al⟩:=Q4o e2 ir;exact .inr ⟨l,xs,ds,rfl,sq,al,q⟩
  ·have big:∀b∈[s1.heap.objs.size+1,s1.heap.objs.size],M9 X ah H1 b:=fun b hb=>by
    have hb:s1.heap.objs.size<=b:=by
     rcases au.mp hb with rfl |hb
     ·exact cW _
     ·have e:b=s1.heap.objs.size:=by simpa using hb
      rw[e];exact am _
    exact I1.fpOk hb (I1.hok.fresh hb)
   rcases hh with⟨l,xs,ds,rfl,sq,al,q⟩ |⟨l,xs,ds,rfl,sq,al,q⟩
   ·obtain⟨u,rfl,ru⟩:=Q0k rv;cases (show u=Value.ref l from ru);obtain⟨b7,i6,pl,kK⟩:=I1.tuple (E2.of sq);have hl:l<s1.heap.objs.size:=by obtain⟨o,ho,_⟩:=pl;exact aA ho
    refine Y2y pl fun h' he hi hz k=>?_;exact cx he ⟨s1.heap.objs.size+1,[s1.heap.objs.size+1,s1.heap.objs.size],_,_,H1,rfl,I1.kept (t':=s1.toks) k,W0l (l:=l) (dX _) (aC (bo hl)) (aC hl),⟨⟨_,he⟩,hi⟩,big,q _ _ sm (J1j sq al)⟩
   ·obtain⟨u,rfl,ru⟩:=Q0k rv;cases (show u=Value.ref l from ru);obtain⟨b7,i6,pl,kK⟩:=I1.list sq;obtain⟨o,n,ho,_⟩:=id pl;have hl:l<s1.heap.objs.size:=aA ho;refine call_enumerate_list pl.isList fun h' he hi hz k=>?_;refine cx he ⟨s1.heap.objs.size+1,[s1.heap.objs.size+1,s1.heap.objs.size],_,_,H1,rfl,I1.kept (t':=s1.toks) k,W0k (l:=l) (dX _) (aC (bo hl)) (aC hl),⟨⟨_,he⟩,hi⟩,big,q _ _ sm (J1i sq al)⟩
@[simp] theorem Y8m {Q:M D->Prop}:Z0z wr τ Q=wr τ fun rs=>∃r ds,rs=[r]/\W7 r=some ds/\Q (K1 ds):=rfl
end
def V8w {K:Fg9}  {r:R}{ds:M D}{v:V}(e:W7 r=some ds)(h:F7 K H0 H r v):∃a xs,v=.ref a/\(F2 K H a xs\/E2 K H a xs)/\AllS K H ds xs:=by
 by_cases ht:∃es,r=.st (.tup es)
 ·obtain⟨es,rfl⟩:=ht;cases e;have h:A4 K H (.tup ds) v:=h;unfold A4 at h;obtain⟨l,xs,rfl,sq,al⟩:=h;exact⟨l,xs,rfl,.inr (E2.of sq),al⟩
 ·have e2:U1 r=some ds:=by
   unfold W7 at e;split at e
   ·exact absurd ⟨_,rfl⟩ ht
   ·exact e
  obtain⟨l,xs,rfl,sq,al⟩:=Q4o e2 h;exact⟨l,xs,rfl,.inl sq,al⟩
structure Q2f (z TI TO i1 i2:Af)(kz ky:M Af):Prop where
 tiz:TI≠z
 toz:TO≠z
 i1z:i1≠z
 i2z:i2≠z
 tito:TI≠TO
 ti1:TI≠i1
 ti2:TI≠i2
 to1:TO≠i1
 to2:TO≠i2
 i12:i1≠i2
 f1:∀b∈kz,b≠z/\b≠TO/\b≠i2
 f2:∀b∈ky,b≠z/\b≠TO/\b≠i1
abbrev IsZ (h:Heap)(z TI TO:Af)(f0:Ad)(f:Bool):Prop:=
 h.get? z=some {cls:=.type "zip",dict:=none,data:=.fields #[f0,.bool f,.bool false,.ref TI,.ref TO],slots:=#[]}
def Q0a (h:Heap)(z TI TO:Af):Prop:=∃f0 f,IsZ h z TI TO f0 f/\(f0=.none\/∃T:Af,f0=rawInt T)
section
variable {w:Ak}{TI TO:Af}{kz ky:M Af}{n1 n2 k:Nat}{P1 P2:Nat->Ad->Prop}{S1 S2:Nat->Heap->Prop}{a b:Ad}
def V6 {i:Nat}{Q:Nat->Ad->Prop}{S:Nat->Heap->Prop}(D:Draws P w A it fp n Q S)  {c:Af}(st:S i h)(sb:Heap.ExtBut c h h')(hc:∀b∈fp,b≠c):S i h':=D.frame _ _ _ st fun b hb o e=>sb b o (hc b hb) e
def W2e {Q:Bool->Ae->Prop}(hz:Q0a s.heap z TI TO)(h1:∀f0 f,IsZ s.heap z TI TO f0 f->Q true s)(h2:∀h' (T:Af),IsZ h' z TI TO (rawInt T) true->Heap.SameBut z s.heap h'->Q false {s with heap:=h'}):
  wpAny ?T A (Builtin.SmallTypes.ownedTupleIsFree (.ref z)) Q E s:=by
 obtain⟨f0,f,hz,rfl |⟨T,rfl⟩⟩:=hz
 ·unfold Builtin.SmallTypes.ownedTupleIsFree;exact af (bM hz rfl (x:=.none) rfl (ao (h1 _ _ hz)))
 ·unfold Builtin.SmallTypes.ownedTupleIsFree;refine af (bM hz rfl (x:=rawInt T) rfl ?_)
  change wpAny ?T A (loadIfAlive ((T:Int).toNat)>>=_) _ _ _
  rw[bO];refine af ?_;cases e:s.heap.get? T with
  |none=>
   have sw:∀{Q:Ac Obj->Ae->Prop},Q none s->wpAny ?T A (loadIfAlive T) Q E s:=fun {Q} h=>by
    have h':Q (s.heap.get? T) s:=by rw[e];exact h
    exact fun _ _ _=>h'
   refine sw ?_;rw[aP (show(none:Ac Obj).isNone=true from rfl)];exact ao (h1 _ _ hz)
  |some o=>
   refine PySem.W.kdx_alive e ?_;rw[aK ?H];refine af (bM hz rfl (x:=.bool f) rfl ?_);cases f with
   |true=>
    rw[aK (?G)];exact ao (h2 s.heap T hz (Heap.SameBut.refl _ _))
   |false=>
    rw[aP (?G)];exact af (cj hz ?H fun h₃ wS vV=>ao (h2 h₃ T wS vV))
def J1s (Z:Q2f z TI TO i1 i2 kz ky)(D1:Draws P w A i1 kz n1 P1 S1)(D2:Draws P w A i2 ky n2 P2 S2)(nU:Q0a s.heap z TI TO)(gL:IsPair s.heap TI (.ref i1) (.ref i2))(gv:IsPair s.heap TO a b)(h1:S1 k s.heap)(h2:S2 k s.heap)(l1:k<n1)(l2:k<n2)
  (hQ:∀h' tk x y,P1 k x->P2 k y->Q0a h' z TI TO->(∃a b,IsPair h' TO a b)->S1 (k+1) h'->S2 (k+1) h'->IsPair h' s.heap.objs.size x y->h'.objs.size=s.heap.objs.size+1->(∀c o,c≠z->c≠TO->c≠i1->c≠i2->s.heap.get? c=?R->h'.get? c=?R)->Q (.ref s.heap.objs.size) {s with heap:=h',toks:=tk}):
  wpAny ?T A (Builtin.«zip.__next__» ⟨[.ref z],[]⟩) (fun fin s'=>∃v,fin=.done (.ret v)/\Q v s') E s:=by
 obtain⟨f0,f,hz,hf⟩:=id nU
 change wpAny ?T A (field (.ref z) 2>>=_) _ _ s
 refine af (bM hz rfl (x:=Value.bool false) rfl ?_)
 change wpAny ?T A (field (.ref z) 3>>=_) _ _ s
 refine af (bM hz rfl (x:=.ref TI) rfl (af (cu gL rfl ?_)))
 change wpAny ?T A (Builtin.SmallTypes.ownedTupleIsFree (.ref z)>>=_) _ _ s
 refine af (W2e nU (fun f0 f hz=>?_) fun g₁ T jX gm=>?_)
 ·rw[aP rfl];refine af (dU (af (bM hz rfl (x:=.ref TO) rfl (af (cj hz ?H fun g₁ jX gm=>?_)))));have jX:IsZ g₁ z TI TO .ellipsis f:=jX;refine af ?_;simp only[cL,List.zipIdx_nil,bX,gu];refine af (af (jG ?_))
  change wpAny ?T A (Builtin.SmallTypes.nextOf (.ref i1)>>=_) _ _ _
  refine af (D1.item k _ _ _ l1 (V6 D1 h1 gm.extBut fun b hb=>(Z.f1 b hb).1) fun x g₂ qv px oM g6=>ao ?_);have kg:IsPair g₂ TO a b:=g6.extBut _ _ Z.to1 (gm.extBut _ _ Z.toz gv);refine af (cu kg rfl (af (iA kg fun g₃ l0 gE=>af (iV (ao ?_)))));have l0:IsPair g₃ TO x b:=l0;refine af (af (jG ?q))
  change wpAny ?T A (Builtin.SmallTypes.nextOf (.ref i2)>>=_) _ _ _
  have oK:S2 k g₃:=V6 D2 (V6 D2 (V6 D2 h2 gm.extBut fun b hb=>(Z.f2 b hb).1) g6.extBut fun b hb=>(Z.f2 b hb).2.2) gE.extBut fun b hb=>(Z.f2 b hb).2.1;refine af (D2.item k _ _ _ l2 oK fun y g₄ v9 py xz lq=>ao ?_);have oB:IsPair g₄ TO x b:=lq.extBut _ _ Z.to2 l0;refine af (cu oB rfl (af (iA oB fun g₅ kZ lp=>af (iV (ao (ao ?_))))));have kZ:IsPair g₅ TO x y:=kZ;refine af (cu kZ rfl (af (wpAny_newTuple ?_)));have hsz:g₅.objs.size=s.heap.objs.size:=by rw[lp.1,lq.1,gE.1,g6.1,gm.1]
  have t6:IsZ g₅ z TI TO .ellipsis f:=lp.extBut _ _ Z.toz.symm (lq.extBut _ _ Z.i2z.symm (gE.extBut _ _ Z.toz.symm (g6.extBut _ _ Z.i1z.symm jX)));have wA:∀c o,c≠z->c≠TO->c≠i1->c≠i2->s.heap.get? c=?R->g₅.get? c=?R:=fun c o c1 c2 c3 c4 e=>lp.extBut _ _ c2 (lq.extBut _ _ c4 (gE.extBut _ _ c2 (g6.extBut _ _ c3 (gm.extBut _ _ c1 e))));have xA:S1 (k+1) g₅:=V6 D1 (V6 D1 (V6 D1 oM gE.extBut fun b hb=>(Z.f1 b hb).2.1) lq.extBut fun b hb=>(Z.f1 b hb).2.2) lp.extBut fun b hb=>(Z.f1 b hb).2.1;have xy:S2 (k+1) g₅:=V6 D2 xz lp.extBut fun b hb=>(Z.f2 b hb).2.1;have nV:z<g₅.objs.size:=aA t6
  change wpAny ?T A (Builtin.SmallTypes.ownedTupleHandOut (.ref z) (Value.ref g₅.objs.size)>>=_) _ _ _
  refine af ?_;unfold Builtin.SmallTypes.ownedTupleHandOut;refine af (cj (ae _ t6:IsZ (g₅.push {cls:=.type "tuple",data:=.seq #[x,y]}) z TI TO .ellipsis f) ?H fun g₇ qU qy=>?_);have qU:IsZ g₇ z TI TO (rawInt g₅.objs.size) f:=qU;refine cj qU ?H fun g₈ pH qx=>ao ⟨_,rfl,?_⟩;have pH:IsZ g₈ z TI TO (rawInt g₅.objs.size) false:=pH;have up:∀c o,c≠z->g₅.get? c=?R->g₈.get? c=?R:=fun c o c1 e=>qx.extBut _ _ c1 (qy.extBut _ _ c1 (ae _ e));have tR:IsPair g₈ g₅.objs.size x y:=qx.extBut _ _ (iU nV) (qy.extBut _ _ (iU nV) (aE _ rfl));rw[hsz]at pH tR;have goal:=hQ g₈ v9 x y px py ⟨_,_,pH,.inr ⟨_,rfl⟩⟩ ⟨_,_,up _ _ Z.toz kZ⟩ (D1.frame _ _ _ xA fun b hb o e=>up b o (Z.f1 b hb).1 e) (D2.frame _ _ _ xy fun b hb o e=>up b o (Z.f2 b hb).1 e) tR (by rw[qx.1,qy.1,ba,hsz]) fun c o c1 c2 c3 c4 e=>up c o c1 (wA c o c1 c2 c3 c4 e);rw[<-hsz]at goal;exact goal
 ·rw[aK (?G)];refine af ?_;rw[<-eS];rw[bX];refine af (af (bB ?_))
  change wpAny ?T A (Builtin.SmallTypes.nextOf (.ref i1)>>=fun x=>pure (some x)) _ _ _
  refine af (D1.item k _ _ _ l1 (V6 D1 h1 gm.extBut fun b hb=>(Z.f1 b hb).1) fun x g₂ qv px oM g6=>ao (ao ?_));dsimp only;rw[bX];refine af (af (bB ?_))
  change wpAny ?T A (Builtin.SmallTypes.nextOf (.ref i2)>>=fun x=>pure (some x)) _ _ _
  have sn:S2 k g₂:=V6 D2 (V6 D2 h2 gm.extBut fun b hb=>(Z.f2 b hb).1) g6.extBut fun b hb=>(Z.f2 b hb).2.2;refine af (D2.item k _ _ _ l2 sn fun y g₃ va py oK gE=>ao (ao ?_));dsimp only;rw[gu];refine ao (af (wpAny_newTuple (ao ⟨_,rfl,?_⟩) (hsz:=by show 2<=sizeLine;decide)));have sz:g₃.objs.size=s.heap.objs.size:=by rw[gE.1,g6.1,gm.1]
  have up:∀c o,c≠z->c≠i1->c≠i2->s.heap.get? c=?R->g₃.get? c=?R:=fun c o c1 c2 c3 e=>gE.extBut _ _ c3 (g6.extBut _ _ c2 (gm.extBut _ _ c1 e));have vM:IsZ g₃ z TI TO (rawInt T) true:=gE.extBut _ _ Z.i2z.symm (g6.extBut _ _ Z.i1z.symm jX);have xB:S1 (k+1) g₃:=V6 D1 oM gE.extBut fun b hb=>(Z.f1 b hb).2.2;have goal:=hQ (g₃.push {cls:=.type "tuple",data:=.seq #[x,y]}) va x y px py ⟨_,_,ae _ vM,.inr ⟨_,rfl⟩⟩ ⟨_,_,ae _ (up _ _ Z.toz Z.to1 Z.to2 gv)⟩ (D1.frame _ _ _ xB fun b hb o e=>ae _ e) (D2.frame _ _ _ oK fun b hb o e=>ae _ e)
   (by
    have e:(g₃.push {cls:=.type "tuple",data:=.seq #[x,y]}).get? g₃.objs.size=some {cls:=.type "tuple",data:=.seq #[x,y]}:=aE _ rfl;rw[sz]at e;exact e) (by rw[ba,sz]) fun c o c1 _ c3 c4 e=>ae _ (up c o c1 c3 c4 e)
  rw[<-sz]at goal;exact goal
def J1r {Q:Fin->Ae->Prop}(Z:Q2f z TI TO i1 i2 kz ky)(D1:Draws P w A i1 kz n1 P1 S1)(D2:Draws P w A i2 ky n2 P2 S2)(nU:Q0a s.heap z TI TO)(gL:IsPair s.heap TI (.ref i1) (.ref i2))(gv:IsPair s.heap TO a b)(h1:S1 k s.heap)(h2:S2 k s.heap)(hk:k=n1\/(k<n1/\k=n2))
  (hE:∀h' tk e,(∀c o,c≠z->c≠TO->c≠i1->c≠i2->s.heap.get? c=?R->h'.get? c=?R)->(∃o,h'.get? e=?R/\o.cls=.type "StopIteration")->E (.ref e) {s with heap:=h',toks:=tk}):
  wpAny ?T A (Builtin.«zip.__next__» ⟨[.ref z],[]⟩) Q E s:=by
 obtain⟨f0,f,hz,hf⟩:=id nU
 change wpAny ?T A (field (.ref z) 2>>=_) _ _ s
 refine af (bM hz rfl (x:=Value.bool false) rfl ?_)
 change wpAny ?T A (field (.ref z) 3>>=_) _ _ s
 refine af (bM hz rfl (x:=.ref TI) rfl (af (cu gL rfl ?_)))
 change wpAny ?T A (Builtin.SmallTypes.ownedTupleIsFree (.ref z)>>=_) _ _ s
 refine af (W2e nU (fun f0 f hz=>?_) fun g₁ T jX gm=>?_)
 ·rw[aP rfl];refine af (dU (af (bM hz rfl (x:=.ref TO) rfl (af (cj hz ?H fun g₁ jX gm=>?_)))));have jX:IsZ g₁ z TI TO .ellipsis f:=jX;refine af ?_;simp only[cL,List.zipIdx_nil,bX,gu];refine af (af (jG ?_))
  change wpAny ?T A (Builtin.SmallTypes.nextOf (.ref i1)>>=_) _ _ _
  have oN:S1 k g₁:=V6 D1 h1 gm.extBut fun b hb=>(Z.f1 b hb).1;rcases hk with hk |⟨bW,hk⟩
  ·subst hk;refine af (D1.done _ _ _ oN fun g₂ e g6 he=>?_);obtain⟨oe,mC,oq⟩:=he;have t8:IsZ g₂ z TI TO .ellipsis f:=g6 _ _ Z.i1z.symm jX;have rO:e≠z:=fun q=>by subst q;rw[t8]at mC;cases mC;simp at oq
   exact cj t8 ?H fun g₃ _ gE=>hE g₃ _ e (fun c o c1 _ c3 _ x=>gE.extBut _ _ c1 (g6 _ _ c3 (gm.extBut _ _ c1 x))) ⟨oe,gE.extBut _ _ rO mC,oq⟩
  ·refine af (D1.item k _ _ _ bW oN fun x g₂ qv px oM g6=>ao ?_);have kg:IsPair g₂ TO a b:=g6.extBut _ _ Z.to1 (gm.extBut _ _ Z.toz gv);refine af (cu kg rfl (af (iA kg fun g₃ l0 gE=>af (iV (ao ?_)))));refine af (af (jG ?q))
   change wpAny ?T A (Builtin.SmallTypes.nextOf (.ref i2)>>=_) _ _ _
   have oK:S2 k g₃:=V6 D2 (V6 D2 (V6 D2 h2 gm.extBut fun b hb=>(Z.f2 b hb).1) g6.extBut fun b hb=>(Z.f2 b hb).2.2) gE.extBut fun b hb=>(Z.f2 b hb).2.1;subst hk;refine af (D2.done _ _ _ oK fun g₄ e lq he=>?_);obtain⟨oe,mC,oq⟩:=he;have t7:IsZ g₄ z TI TO .ellipsis f:=lq _ _ Z.i2z.symm (gE.extBut _ _ Z.toz.symm (g6.extBut _ _ Z.i1z.symm jX));have rO:e≠z:=fun q=>by subst q;rw[t7]at mC;cases mC;simp at oq
   exact cj t7 ?H fun g₅ _ lp=>hE g₅ _ e (fun c o c1 c2 c3 c4 x=>lp.extBut _ _ c1 (lq _ _ c4 (gE.extBut _ _ c2 (g6.extBut _ _ c3 (gm.extBut _ _ c1 x))))) ⟨oe,lp.extBut _ _ rO mC,oq⟩
 ·rw[aK (?G)];refine af ?_;rw[<-eS];rw[bX];refine af (af (bB ?_))
  change wpAny ?T A (Builtin.SmallTypes.nextOf (.ref i1)>>=fun x=>pure (some x)) _ _ _
  have oN:S1 k g₁:=V6 D1 h1 gm.extBut fun b hb=>(Z.f1 b hb).1;rcases hk with hk |⟨bW,hk⟩
  ·subst hk;exact af (D1.done _ _ _ oN fun g₂ e g6 he=>hE g₂ _ e (fun c o c1 _ c3 _ x=>g6 _ _ c3 (gm.extBut _ _ c1 x)) he)
  ·refine af (D1.item k _ _ _ bW oN fun x g₂ qv px oM g6=>ao (ao ?_));dsimp only;rw[bX];refine af (af (bB ?_))
   change wpAny ?T A (Builtin.SmallTypes.nextOf (.ref i2)>>=fun x=>pure (some x)) _ _ _
   have sn:S2 k g₂:=V6 D2 (V6 D2 h2 gm.extBut fun b hb=>(Z.f2 b hb).1) g6.extBut fun b hb=>(Z.f2 b hb).2.2;subst hk;exact af (D2.done _ _ _ sn fun g₃ e gE he=>hE g₃ _ e (fun c o c1 _ c3 c4 x=>gE _ _ c4 (g6.extBut _ _ c3 (gm.extBut _ _ c1 x))) he)
def Y0o {Q:Ac Ad->Ae->Prop}(Z:Q2f z TI TO i1 i2 kz ky)(D1:Draws P w A.in1 i1 kz n1 P1 S1)(D2:Draws P w A.in1 i2 ky n2 P2 S2)(hz:Q0a s.heap z TI TO)(gL:IsPair s.heap TI (.ref i1) (.ref i2))(gv:IsPair s.heap TO a b)(h1:S1 k s.heap)(h2:S2 k s.heap)(l1:k<n1)(l2:k<n2)
  (hQ:∀h' tk x y,P1 k x->P2 k y->Q0a h' z TI TO->(∃a b,IsPair h' TO a b)->S1 (k+1) h'->S2 (k+1) h'->IsPair h' s.heap.objs.size x y->h'.objs.size=s.heap.objs.size+1->(∀c o,c≠z->c≠TO->c≠i1->c≠i2->s.heap.get? c=?R->h'.get? c=?R)->Q (some (.ref s.heap.objs.size)) {s with heap:=h',toks:=tk}):
  wpAny ?T A (pyNext (.ref z)) Q E s:=by
 have hT:s.TypeIs (.ref z) "zip":=let ⟨_,_,q,_⟩:=hz;⟨_,q,rfl⟩;unfold pyNext;exact af (wpAny_attempt (bT (name:=Str.ofString "__next__") hT fj (ck fj hT F.entry_zip_next
  (J1s Z D1 D2 hz gL gv h1 h2 l1 l2 fun h' tk x y a1 a2 a3 a4 a5 a6 a7 a8 a9=>ao (hQ h' tk x y a1 a2 a3 a4 a5 a6 a7 a8 a9)) (F.args_zip_next_1 _))))
def Y0p {Q:Ac Ad->Ae->Prop}(Z:Q2f z TI TO i1 i2 kz ky)(D1:Draws P w A.in1 i1 kz n1 P1 S1)(D2:Draws P w A.in1 i2 ky n2 P2 S2)(hz:Q0a s.heap z TI TO)(gL:IsPair s.heap TI (.ref i1) (.ref i2))(gv:IsPair s.heap TO a b)(h1:S1 k s.heap)(h2:S2 k s.heap)(hk:k=n1\/(k<n1/\k=n2))
  (hQ:∀h' tk,(∀c o,c≠z->c≠TO->c≠i1->c≠i2->s.heap.get? c=?R->h'.get? c=?R)->Q none {s with heap:=h',toks:=tk}):wpAny ?T A (pyNext (.ref z)) Q E s:=by
 have hT:s.TypeIs (.ref z) "zip":=let ⟨_,_,q,_⟩:=hz;⟨_,q,rfl⟩;unfold pyNext;refine af (wpAny_attempt (bT (name:=Str.ofString "__next__") hT fj (ck fj hT F.entry_zip_next (J1r Z D1 D2 hz gL gv h1 h2 hk fun h' tk e kp he=>?_) (F.args_zip_next_1 _))));obtain⟨o,ho,hc⟩:=he;exact af (wpAny_isInstance (T:="StopIteration") (b:=true) ⟨o,ho,hc⟩ isSubtype_stop (ao (hQ _ _ kp)))
end
def SqB (b:Bool)(K:Fg9)(H:Hp)(l:Af)(xs:M V):Prop:=match b with |true=>E2 K H l xs |false=>F2 K H l xs
def ItB (b:Bool)(h:Heap)(i l:Af)(k:Nat):Prop:=match b with |true=>h.IsTupleIter i l k |false=>h.IsListIter i l k
def Q6 (b:Bool)(h:Heap)(l:Af)(a:Array Ad):Prop:=match b with |true=>h.IsTuple l a |false=>h.IsList l a
def itO (b:Bool)(l:Af):Obj:={cls:=.type (match b with |true=>"tuple_iterator" |false=>"list_iterator"),data:=.fields #[.ref l,.int 0 0]}
section
variable {w:Ak}{b:Bool}{i k:Af}{as:Array Ad}{K:Fg9}
def SqB.same (s:A5 H H')(h:SqB b K H l xs):SqB b K H' l xs:=by
 cases b
 ·exact s.seq h
 ·exact(Kp.of s).sqT h
def Q7e (I:?C)(h:SqB b X.K H l xs):∃b7,C3 xs b7/\Q6 b s.heap l b7.toArray/\xs.length<=sizeLine:=by
 cases b
 ·obtain⟨b7,rv,p,z⟩:=I.list h;exact⟨b7,rv,p.isList,z⟩
 ·obtain⟨b7,rv,p,z⟩:=I.tuple h;exact⟨b7,rv,p,z⟩
def Y9h (I:?C)(h1:SqB b X.K H l xs)(h2:SqB b X.K H l ys):xs=ys:=by
 cases b
 ·exact I.list_inj h1 h2
 ·exact I.tuple_inj h1 h2
def Q4h (b:Bool)(hh:A.handled=none)(i l:Af)(dg:l≠i)(as:Array Ad):Draws P w A i [i,l] as.size (fun k v=>as[k]?=some v) (fun k h=>ItB b h i l k/\Q6 b h l as):=by
 cases b
 ·exact Draws.list hh i l dg as
 ·exact Q8g hh i l dg as
def ItB.keep (t:ItB b h i l n)(k:∀o,h.get? i=?R->h'.get? i=?R):ItB b h' i l n:=by
 cases b<;>(obtain⟨o,e,r⟩:=t;exact⟨o,k o e,r⟩)
def ItB.obj (t:ItB b h i l n):∃o,h.get? i=?R/\∀v,o.data≠.cell v:=by
 cases b<;>(obtain⟨o,e,_,d⟩:=t;exact⟨o,e,fun v z=>by rw[d]at z;cases z⟩)
def Q6.keep (t:Q6 b h l as)(k:∀o,h.get? l=?R->h'.get? l=?R):Q6 b h' l as:=by
 cases b<;>(obtain⟨o,e,r⟩:=t;exact⟨o,k o e,r⟩)
def Q6.lt (t:Q6 b h l as):@LT.lt Nat _ l h.objs.size:=by
 cases b<;>(obtain⟨o,e,r⟩:=t;exact aA e)
def Z6d (t:Q6 b s.heap l as)(hQ:Q (.ref s.heap.objs.size) {s with heap:=s.heap.push (itO b l)}):wpAny ?T A (pyIter (.ref l)) Q E s:=by
 cases b
 ·exact kA t hQ
 ·exact fG t hQ
def Z6c (e:h.get? i=some (itO b l)):ItB b h i l 0:=by cases b<;>exact⟨_,e,rfl,rfl⟩
end
abbrev zt1 (b1:Bool)(h:Heap)(l:Af):Heap:=h.push (itO b1 l)
abbrev zt2 (b1 b2:Bool)(h:Heap)(l t:Af):Heap:=(zt1 b1 h l).push (itO b2 t)
abbrev zt3 (b1 b2:Bool)(h:Heap)(l t:Af):Heap:=(zt2 b1 b2 h l t).push {cls:=.type "tuple",data:=.seq #[.ref h.objs.size,.ref (zt1 b1 h l).objs.size]}
abbrev zt4 (b1 b2:Bool)(h:Heap)(l t:Af):Heap:=(zt3 b1 b2 h l t).push {cls:=.type "tuple",data:=.seq #[.none,.none]}
abbrev zt5 (b1 b2:Bool)(h:Heap)(l t:Af):Heap:=(zt4 b1 b2 h l t).push {cls:=.type "zip",data:=.fields #[.none,.bool false,.bool false,.ref (zt2 b1 b2 h l t).objs.size,.ref (zt3 b1 b2 h l t).objs.size]}
def J1o (b1 b2:Bool)(l t:Af)(xs ys:Array Ad):
  Meets (Builtin.«zip.__new__» ⟨[.type "zip",.ref l,.ref t],[]⟩) (fun _ R s=>Q6 b1 s.heap l xs/\Q6 b2 s.heap t ys/\R (.ok (.ret (.ref (zt4 b1 b2 s.heap l t).objs.size))) {s with heap:=zt5 b1 b2 s.heap l t}):=
 Meets.of_wp fun prog w A R s h=>by
  obtain⟨hp,g,d,tk,os⟩:=s;obtain⟨jn,gq,h⟩:=h;have ie:=sub_zip;have xv:Q6 b1 (Shared.heap ⟨hp,g,d,tk,os⟩) l xs:=jn;have oF:Q6 b2 (Shared.heap ⟨hp.push (itO b1 l),g,d,tk,os⟩) t ys:=gq.keep fun o e=>ae _ e
  wp_walk using Z6d xv,Z6d oF
  exact⟨_,rfl,h⟩
def W5z {w:Ak}     {t:Af}{xs ys:Array Ad}  (hl:Q6 b1 s.heap l xs)(ht:Q6 b2 s.heap t ys)
  (h:∀h',Q0a h' (s.heap.objs.size+4) (s.heap.objs.size+2) (s.heap.objs.size+3)->IsPair h' (s.heap.objs.size+2) (.ref s.heap.objs.size) (.ref (s.heap.objs.size+1))->IsPair h' (s.heap.objs.size+3) .none .none ->
   ItB b1 h' s.heap.objs.size l 0->ItB b2 h' (s.heap.objs.size+1) t 0->h'.objs.size=s.heap.objs.size+5->(∀c o,s.heap.get? c=?R->h'.get? c=?R)->Q (.ref (s.heap.objs.size+4)) {s with heap:=h'}):
  wpAny ?T A (call (.type "zip") [.ref l,.ref t]) Q E s:=by
 refine yX F.called_zip (?G) (F.typeCall_zip_2 _ _) (F.newCall_zip_2 _ _) (fun obj=>F.args_object_init_3 obj _ _) F.entry_zip_new (J1o b1 b2 l t xs ys) ⟨hl,ht,?_⟩;have e1:(zt1 b1 s.heap l).objs.size=s.heap.objs.size+1:=ba ..;have e2:(zt2 b1 b2 s.heap l t).objs.size=s.heap.objs.size+2:=by rw[ba,e1]
 have e3:(zt3 b1 b2 s.heap l t).objs.size=s.heap.objs.size+3:=by rw[ba,e2]
 have e4:(zt4 b1 b2 s.heap l t).objs.size=s.heap.objs.size+4:=by rw[ba,e3]
 have e5:(zt5 b1 b2 s.heap l t).objs.size=s.heap.objs.size+5:=by rw[ba,e4]
 have g5:(zt5 b1 b2 s.heap l t).get? (zt4 b1 b2 s.heap l t).objs.size=some _:=aE _ rfl;have g4:(zt5 b1 b2 s.heap l t).get? (zt3 b1 b2 s.heap l t).objs.size=some _:=ae _ (aE _ rfl);have g3:(zt5 b1 b2 s.heap l t).get? (zt2 b1 b2 s.heap l t).objs.size=some _:=ae _ (ae _ (aE _ rfl));have g2:(zt5 b1 b2 s.heap l t).get? (zt1 b1 s.heap l).objs.size=some (itO b2 t):=ae _ (ae _ (ae _ (aE _ rfl)));have g1:(zt5 b1 b2 s.heap l t).get? s.heap.objs.size=some (itO b1 l):=ae _ (ae _ (ae _ (ae _ (aE _ rfl))));rw[e2,e3,e4]at g5;rw[e1,e2]at g3;rw[e3]at g4;rw[e1]at g2;rw[e4];exact⟨⟨_,g5,rfl⟩,h _ ⟨_,_,g5,.inl rfl⟩ g3 g4 (Z6c g1) (Z6c g2) e5 fun c o x=>ae _ (ae _ (ae _ (ae _ (ae _ x))))⟩
def Q9w {w:Ak}    {TI TO:Af}  (hz:Q0a s.heap z TI TO)(hQ:Q (.ref z) s):wpAny ?T A (pyIter (.ref z)) Q E s:=by
 obtain⟨_,_,hz,_⟩:=hz;have q:s.TypeIs (.ref z) "zip":=⟨_,hz,rfl⟩
 exact wpAny_pyIter_slot q F.slot_zip_iter (ck F.slot_zip_iter q F.entry_zip_iter (show wpAny _ _ (ret (.ref z)) _ _ s from ao ⟨_,rfl,"zip",_,q,fj.lookup,hQ⟩) (F.args_zip_iter_1 _))
def W2f {w:Ak}    {TI TO T:Af}  {Q:Unit->Ae->Prop}(hz:Q0a s.heap z TI TO)(hQ:∀h',Q0a h' z TI TO->Heap.SameBut z s.heap h'->Q () {s with heap:=h'}):
  wpAny ?T A (letOwnedTupleGo tg (.ref z) (.ref T)) Q E s:=by
 have no:Q () s:=hQ s.heap hz (Heap.SameBut.refl _ _);have yes:wpAny ?T A (load z>>=fun o=>match o.cls,o.data with
  |.type n,.fields vs=>if (["enumerate","zip","dict_itemiterator","dict_reverseitemiterator","odict_iterator","itertools.zip_longest","itertools.pairwise"].contains n&&vs[0]?==some (rawInt T))=true then(do rule "for.unpacks-the-owned-tuple";updateField z 0 .none)else pure ()
  |_,_=>pure ()) Q E s:=by
  obtain⟨f0,f,hz,_⟩:=id hz;refine af (wpAny_load hz ?_);dsimp only;split
  ·refine af (dU ?_);show wpAny _ _ (setField (.ref z) 0 .none) Q E s;exact cj hz ?H fun h' kK lH=>hQ h' ⟨_,_,kK,.inl rfl⟩ lH
  ·exact ao no
 unfold letOwnedTupleGo;cases tg<;>first |exact yes |exact ao no
def Izb (b1 b2:Bool)(K:Fg9)(l1 l2:Af)(n:Nat):It:=⟨fun i H=>i<n/\∃xs ys,SqB b1 K H l1 xs/\SqB b2 K H l2 ys/\min xs.length ys.length=n,
 fun i H v H'=>∃T x y,(∀xs,SqB b1 K H l1 xs->xs[i]?=some x)/\(∀ys,SqB b2 K H l2 ys->ys[i]?=some y)/\H T=none/\v=.ref T/\H'=B0 H T (.tup [x,y]),fun i H=>i=n/\∃xs ys,SqB b1 K H l1 xs/\SqB b2 K H l2 ys/\min xs.length ys.length=n⟩
def ZTn (b1 b2:Bool)(z TI TO i1 i2 l1 l2:Af)(i:Nat)(h:Heap):Prop:=Q0a h z TI TO/\IsPair h TI (.ref i1) (.ref i2)/\(∃a b,IsPair h TO a b)/\ItB b1 h i1 l1 i/\ItB b2 h i2 l2 i
def ZTn.obj {TI TO:Af}{i:Nat}  (t:ZTn b1 b2 z TI TO i1 i2 l1 l2 i h):∀c∈[z,TO,i1,i2,TI],∃o,h.get? c=?R/\∀v,o.data≠.cell v:=by
 obtain⟨⟨_,_,hz,_⟩,gL,⟨a,b,gv⟩,h1,h2⟩:=t;intro c hc;simp only[au,aL,bu]at hc;rcases hc with rfl |rfl |rfl |rfl |rfl
 ·exact⟨_,hz,fun v z=>by cases z⟩
 ·exact⟨_,gv,fun v z=>by cases z⟩
 ·exact h1.obj
 ·exact h2.obj
 ·exact⟨_,gL,fun v z=>by cases z⟩
def ZTn.keep {TI TO:Af}{i:Nat}  (t:ZTn b1 b2 z TI TO i1 i2 l1 l2 i h)(k:∀b∈[z,TO,i1,i2,TI],∀o,h.get? b=?R->h'.get? b=?R):ZTn b1 b2 z TI TO i1 i2 l1 l2 i h':=by
 obtain⟨⟨f0,f,hz,r⟩,gL,⟨a,b,gv⟩,h1,h2⟩:=t;exact⟨⟨f0,f,k z ?H _ hz,r⟩,k TI ?H _ gL,⟨a,b,k TO ?H _ gv⟩,h1.keep (k i1 ?H),h2.keep (k i2 ?H)⟩
def J0k {w:Ak}{K:Fg9}   {TI TO:Af}  (Z:Q2f z TI TO i1 i2 [i1,l1] [i2,l2])(jn:l1≠i1)(gq:l2≠i2):
  Q1o P w K tg (Izb b1 b2 K l1 l2 n) [z,TO,i1,i2,TI] z (ZTn b1 b2 z TI TO i1 i2 l1 l2) where
 mem:=by simp
 obj:=fun i h t=>t.obj
 keep:=fun i h h' t k=>t.keep k
 item:=by
  back_in;obtain⟨bW,xs,ys,cU,dF,hn⟩:=hg;obtain⟨b7,rv,p1,vN⟩:=Q7e I cU;obtain⟨cr,fN,p2,qW⟩:=Q7e I dF;have vJ:=rv.length;have qO:=fN.length;have hd:X.A.in1.handled=none:=I.ok.hd hc;have so:=st.obj;obtain⟨sz,iW,⟨a0,b0,jR⟩,s1,s2⟩:=st;have hx:xs[i]?=some (xs[i]'(?A)):=aa _;have hy:ys[i]?=some (ys[i]'(?A)):=aa _;obtain⟨u,hu,ru⟩:=rv.get hx;obtain⟨u',mr,nM⟩:=fN.get hy;refine Y0o Z (Q4h b1 hd i1 l1 jn b7.toArray) (Q4h b2 hd i2 l2 gq cr.toArray) sz iW jR ⟨s1,p1⟩ ⟨s2,p2⟩ ?N ?N fun h' tk x y px py z1 t1 a1 a2 pr _ kp=>⟨_,rfl,?_⟩
  have ex:x=u:=by
   have:b7[i]?=some x:=by simpa using px
   rw[hu]at this;exact(az this).symm
  have ey:y=u':=by
   have:cr[i]?=some y:=by simpa using py
   rw[mr]at this;exact(az this).symm
  subst ex ey;have hT:∀b∈[z,TO,i1,i2,TI],b≠s.heap.objs.size:=fun b hb zz=>by
   obtain⟨o,ho,_⟩:=so b hb;exact aU _ (zz▸aA ho)
  refine W2f z1 fun h2 z2 sb=>?_;have kJ:∀c o,c∉[z,TO,i1,i2]->s.heap.get? c=?R->h2.get? c=?R:=fun c o hc e=>by
   simp only[au,aL,bu,jI]at hc;exact(sb.2 c hc.1).trans (kp c o hc.1 hc.2.1 hc.2.2.1 hc.2.2.2 e)
  have gM:IsTup h2 s.heap.objs.size ([x,y]).toArray:=⟨_,(sb.2 _ (hT z ?H).symm).trans pr,rfl,_,rfl⟩
  have mN:∀b∈[z,TO,i1,i2],M9 X ah H b:=fun b hb=>hf b (by
   simp only[au,aL,bu]at hb ⊢;rcases hb with h |h |h |h<;>simp[h])
  have I2:=Q9l (t':=tk) (xs:=[xs[i]'(?A),ys[i]'(?A)]) I kJ mN (am s.heap.objs.size) gM (.cons ru (.cons nM .nil)) (by show 2<=sizeLine;decide);obtain⟨ta,tb,t1⟩:=t1;refine⟨.ref s.heap.objs.size,_,I2,rfl,⟨s.heap.objs.size,_,_,fun zs hz=>by rw[Y9h I hz cU];exact hx,fun zs hz=>by rw[Y9h I hz dF];exact hy,I.hok.fresh (am _),rfl,rfl⟩,
   ⟨z2,(sb.2 _ Z.tiz).trans (kp _ _ Z.tiz Z.tito Z.ti1 Z.ti2 iW),⟨_,_,(sb.2 _ Z.toz).trans t1⟩,a1.1.keep fun o e=>(sb.2 _ Z.i1z).trans e,a2.1.keep fun o e=>(sb.2 _ Z.i2z).trans e⟩,fun b hb=>?_⟩
  rw[B2 (hT b hb)];exact(hf b hb).1
 done:=by
  back_in;obtain⟨hi,xs,ys,cU,dF,hn⟩:=hg;obtain⟨b7,rv,p1,vN⟩:=Q7e I cU;obtain⟨cr,fN,p2,qW⟩:=Q7e I dF;have vJ:=rv.length;have qO:=fN.length;have hd:X.A.in1.handled=none:=I.ok.hd hc;obtain⟨sz,iW,⟨a0,b0,jR⟩,s1,s2⟩:=st;have mN:∀b∈[z,TO,i1,i2],M9 X ah H b:=fun b hb=>hf b (by
   simp only[au,aL,bu]at hb ⊢;rcases hb with h |h |h |h<;>simp[h])
  refine Y0p Z (Q4h b1 hd i1 l1 jn b7.toArray) (Q4h b2 hd i2 l2 gq cr.toArray) sz iW jR ⟨s1,p1⟩ ⟨s2,p2⟩ (by simp only[aF];omega) fun h' tk kp=>⟨rfl,Q5u I (fun c o hc e=>?_) mN⟩
  simp only[au,aL,bu,jI]at hc;exact kp c o hc.1 hc.2.1 hc.2.2.1 hc.2.2.2 e
 self:=fun A i s Q E st h=>Q9w st.1 h
def J1m {K:Fg9}     {ds es:M D}(mX:SqB b1 K H l1 xs)(al:AllS K H ds xs)(fe:SqB b2 K H l2 ys)(eA:AllS K H es ys):YlS K (Izb b1 b2 K l1 l2 (min ds.length es.length)) (T3 ds es) H where
 go:=fun H' s i hi=>by
  rw[Q9v]at hi;exact⟨hi,xs,ys,mX.same s,fe.same s,by rw[al.length,eA.length]⟩
 yld:=fun H' s i v eX d hd cG=>by
  obtain⟨T,x,y,hx,hy,hT,hv,hH⟩:=cG;subst hH hv;refine⟨G3 hT _,?_⟩;obtain⟨d1,d2,e1,e2,rfl⟩:=Y0n hd;obtain⟨v1,na,q1⟩:=al.get e1;obtain⟨v2,kL,q2⟩:=eA.get e2;rw[hx xs (mX.same s)]at na;cases na;rw[hy ys (fe.same s)]at kL;cases kL;have kp:=Kp.of (s.trans (G3 hT (.tup [x,y])));exact A4.s_tup upd_same (AllS.cons (q1.mono kp _ _) (AllS.cons (q2.mono kp _ _) AllS.nil))
 stop:=fun H' s=>⟨Q9v _ _,xs,ys,mX.same s,fe.same s,by rw[al.length,eA.length]⟩
section
variable {w:Ak}{TI TO:Af}{xs ys:Array Ad}
theorem J1q {R:Result->Ae->Prop}{S:Af}{res:Ad}{h0:Heap}(hh:A.handled=none)(D:Q2f z TI TO i1 i2 [i1,l1] [i2,l2])(lL:l1≠i1)(kb:l2≠i2)(hS:S≠z/\S≠TI/\S≠TO/\S≠i1/\S≠i2/\S≠l1/\S≠l2)(hn:min xs.size ys.size<=sizeLine)(kW:∀b∈[z,TI,TO,i1,i2,l1,l2,S],b<h0.objs.size)
  (hR:∀(h':Heap) (tk:Nat) (as:M Af) (c:Nat),as.length=min xs.size ys.size->as.Nodup->(∀a∈as,h0.objs.size<=a)->(∀(j:Nat) a,as[j]?=some a->∃x y,xs[j]?=some x/\ys[j]?=some y/\IsPair h' a x y)->(∀c o,c∉[z,TO,i1,i2,S]->h0.get? c=?R->h'.get? c=?R) ->
   h'.get? S=some {cls:=.type "list",data:=.seq (as.map Value.ref).toArray c}->R (.ok (.ret res)) {s with heap:=h',toks:=tk}):
  ∀(m k:Nat) (h:Heap) (tk c:Nat) (as:M Af),m=min xs.size ys.size-k->k<=min xs.size ys.size->ZTn b1 b2 z TI TO i1 i2 l1 l2 k h->Q6 b1 h l1 xs->Q6 b2 h l2 ys->as.length=k->as.Nodup->(∀a∈as,h0.objs.size<=a)->h0.objs.size<=h.objs.size->(∀a∈as,a<h.objs.size) ->
   (∀(j:Nat) a,as[j]?=some a->∃x y,xs[j]?=some x/\ys[j]?=some y/\IsPair h a x y)->(∀c o,c∉[z,TO,i1,i2,S]->h0.get? c=?R->h.get? c=?R) ->
   h.get? S=some {cls:=.type "list",data:=.seq (as.map Value.ref).toArray c}->codeAny ?T A (.builtin "list.extend.loop" ⟨[.ref S,.ref z,res],[]⟩) R {s with heap:=h,toks:=tk}:=by
 intro m
 induction m with
 |zero=>
  intro k h tk c as hm hk st jn gq kY jl iq hsz bW mB k8 mS;have e:k=min xs.size ys.size:=?A
  refine fi F.entry_extend_loop ?_;rw[eT ja _]
  change wpAny ?T A.in1 (pyNext (.ref z)>>=_) _ _ _
  obtain⟨sz,iW,⟨a0,b0,jR⟩,q1,q2⟩:=st;refine af (Y0p (s:={s with heap:=h,toks:=tk}) (A:=A.in1) D (Q4h (P:=P) (w:=w) (A:=A.in1.in1) b1 hh i1 l1 lL xs) (Q4h (P:=P) (w:=w) (A:=A.in1.in1) b2 hh i2 l2 kb ys) sz iW jR ⟨q1,jn⟩ ⟨q2,gq⟩ (?A) fun h' pq kp=>ao ?_);obtain⟨s1,s2,s3,s4,s5,s6,s7⟩:=hS;have ap:∀a∈as,a≠z/\a≠TO/\a≠i1/\a≠i2:=fun a ha=>by
   have g:=iq a ha;refine⟨fun e=>?_,fun e=>?_,fun e=>?_,fun e=>?_⟩<;>(have:=kW a (by rw[e];simp);exact absurd this (fR.mpr g))
  refine hR h' _ as c (?A) jl iq (fun j a ej=>?_) (fun c o hc e=>?_) (kp S _ s1 s3 s4 s5 mS)
  ·obtain⟨x,y,ex,ey,p⟩:=mB j a ej;obtain⟨a1,a2,a3,a4⟩:=ap a (aD ej);exact⟨x,y,ex,ey,kp a _ a1 a2 a3 a4 p⟩
  ·have:=k8 c o hc e;simp only[au,aL,bu,jI]at hc;exact kp c o hc.1 hc.2.1 hc.2.2.1 hc.2.2.2.1 this
 |succ m ih=>
  intro k h tk c as hm hk st jn gq kY jl iq hsz bW mB k8 mS;have wE:k<xs.size:=?A
  have wD:k<ys.size:=?A
  refine fi F.entry_extend_loop ?_;rw[eT ja _]
  change wpAny ?T A.in1 (pyNext (.ref z)>>=_) _ _ _
  have sB:∀a,h0.objs.size<=a->a≠z/\a≠TI/\a≠TO/\a≠i1/\a≠i2/\a≠S:=fun a g=>by
   refine⟨fun e=>?_,fun e=>?_,fun e=>?_,fun e=>?_,fun e=>?_,fun e=>?_⟩<;>(have:=kW a (by rw[e];simp);exact absurd this (fR.mpr g))
  have ap:∀a∈as,a≠z/\a≠TI/\a≠TO/\a≠i1/\a≠i2:=fun a ha=>by obtain⟨a1,a2,a3,a4,a5,_⟩:=sB a (iq a ha);exact⟨a1,a2,a3,a4,a5⟩
  obtain⟨s1,s2,s3,s4,s5,s6,s7⟩:=hS;obtain⟨sz,iW,⟨a0,b0,jR⟩,q1,q2⟩:=st;refine af (Y0o (s:={s with heap:=h,toks:=tk}) (A:=A.in1) D (Q4h (P:=P) (w:=w) (A:=A.in1.in1) b1 hh i1 l1 lL xs) (Q4h (P:=P) (w:=w) (A:=A.in1.in1) b2 hh i2 l2 kb ys) sz iW jR ⟨q1,jn⟩ ⟨q2,gq⟩ wE wD fun h' pq x y px py m7 im sP gh vi vb kp=>?_);have jc:ZTn b1 b2 z TI TO i1 i2 l1 l2 (k+1) h':=⟨m7,kp _ _ D.tiz D.tito D.ti1 D.ti2 iW,im,sP.1,gh.1⟩
  have l3:=kp S _ s1 s3 s4 s5 mS
  change wpAny ?T A.in1 (updateSeq S (·.push (Value.ref h.objs.size))>>=_) _ _ _
  have ox:(as.map Value.ref).toArray.size=k:=by simp[kY]
  refine af (gS l3 rfl (ao ⟨uX ja _,?_⟩) (hz:=by rw[ox];omega) (_hz':=by show((as.map Value.ref).toArray.push _).size<=_;rw[Array.size_push,ox];omega));have je:∀b o,b≠S->h'.get? b=?R->(h'.update S (Obj.mapSeq (·.push (Value.ref h.objs.size)))).get? b=?R:=fun b o hb e=>(cC _ _ (bY hb)).trans e;have sM:(h'.update S (Obj.mapSeq (·.push (Value.ref h.objs.size)))).objs.size=h.objs.size+1:=by rw[(bQ (h:=h') (a:=S) ..).1];exact vb
  have oi:h0.objs.size<=h.objs.size:=hsz;have qH:=sB h.objs.size oi;obtain⟨c',xr⟩:∃c',(h'.update S (Obj.mapSeq (·.push (Value.ref h.objs.size)))).get? S=some {cls:=.type "list",data:=.seq ((as++[h.objs.size]).map Value.ref).toArray c'}:=by
   have e:=cX (Obj.mapSeq (·.push (Value.ref h.objs.size))) l3 rfl;have e2:((as++[h.objs.size]).map Value.ref).toArray=(as.map Value.ref).toArray.push (Value.ref h.objs.size):=by simp
   rw[e2];exact⟨_,e⟩
  refine ih (k+1) _ pq c' (as++[h.objs.size]) (?A) (?A) (jc.keep fun b hb o e=>je b o (fun z=>?_) e) (sP.2.keep fun o e=>je _ o (bY s6) e) (gh.2.keep fun o e=>je _ o (bY s7) e) (by rw[aq,kY];rfl) ?_ ?_ (by rw[sM];omega) ?_ ?_ ?_ ?_
  ·rw[z]at hb;simp only[au,aL,bu]at hb;rcases hb with h |h |h |h |h
   ·exact s1 h
   ·exact s3 h
   ·exact s4 h
   ·exact s5 h
   ·exact s2 h
  ·rw[bg];refine⟨jl,by simp,fun a ha b hb e=>?_⟩;rw[show b=h.objs.size by simpa using hb]at e;have:=bW a ha;rw[e]at this;exact aU _ this
  ·intro a ha;rcases aO.mp ha with q |q
   ·exact iq a q
   ·rw[aG.mp q];exact oi
  ·intro a ha;rw[sM];rcases aO.mp ha with q |q
   ·exact bo (bW a q)
   ·rw[aG.mp q];exact c8 _
  ·intro j a ej
   by_cases hj:j<as.length
   ·rw[aI hj]at ej;obtain⟨x,y,ex,ey,p⟩:=mB j a ej;obtain⟨a1,a2,a3,a4,a5⟩:=ap a (aD ej);exact⟨x,y,ex,ey,je _ _ (sB a (iq a (aD ej))).2.2.2.2.2 (kp a _ a1 a3 a4 a5 p)⟩
   ·rw[aT (?A)]at ej;have e0:j-as.length=0:=by
     rcases cA (j-as.length)with z |z
     ·exact z
     ·rw[dR (show [h.objs.size].length<=j-as.length from z)]at ej;cases ej
    rw[e0]at ej;cases ej;have ej:j=k:=?A
    subst ej;exact⟨_,_,px,py,je _ _ qH.2.2.2.2.2 vi⟩
  ·intro c o hc e;have:=k8 c o hc e;simp only[au,aL,bu,jI]at hc;exact je c o hc.2.2.2.2 (kp c o hc.1 hc.2.1 hc.2.2.1 hc.2.2.2.1 this)
  ·exact xr
def W7u {Q:Bool->Ae->Prop}(hT:s.TypeIs (.ref z) "zip")(h:Q true s):wpAny ?T A (Builtin.List.listLengthHint (.ref z)) Q E s:=by
 unfold Builtin.List.listLengthHint;refine af (gU hT (show typeLookup (.type "zip") "__len__"=pure none by rw[typeLookup_type,builtinLookup_eq_fast];kernel_rfl) ?_);refine af (gU hT (show typeLookup (.type "zip") "__length_hint__"=pure none by rw[typeLookup_type,builtinLookup_eq_fast];kernel_rfl) ?_);exact ao h
def Z6q {S:Af}{xs:Array Ad}  (e:h.get? S=some {cls:=.type "list",data:=.seq xs c})(f:Array Ad->Array Ad):∃c',(h.update S (Obj.mapSeq f)).get? S=some {cls:=.type "list",data:=.seq (f xs) c'}:=
 ⟨_,cX (Obj.mapSeq f) e rfl⟩
def W5u (hh:A.handled=none)(D:Q2f z TI TO i1 i2 [i1,l1] [i2,l2])(lL:l1≠i1)(kb:l2≠i2)(st:ZTn b1 b2 z TI TO i1 i2 l1 l2 0 s.heap)(jn:Q6 b1 s.heap l1 xs)(gq:Q6 b2 s.heap l2 ys)(hn:min xs.size ys.size<=sizeLine)(kW:∀b∈[z,TI,TO,i1,i2,l1,l2],b<s.heap.objs.size)
  (hQ:∀(h':Heap) (tk:Nat) (as:M Af) (c:Nat),as.length=min xs.size ys.size->as.Nodup->(∀a∈as,s.heap.objs.size<a)->(∀(j:Nat) a,as[j]?=some a->∃x y,xs[j]?=some x/\ys[j]?=some y/\IsPair h' a x y)->(∀c o,c∉[z,TO,i1,i2]->s.heap.get? c=?R->h'.get? c=?R) ->
   h'.get? s.heap.objs.size=some {cls:=.type "list",data:=.seq (as.map Value.ref).toArray c}->Q (.ref s.heap.objs.size) {s with heap:=h',toks:=tk}):
  wpAny ?T A (call (.type "list") [.ref z]) Q E s:=by
 refine callType_codes (Q₁:=fun obj s₁=>obj=.ref s.heap.objs.size/\s₁={s with heap:=s.heap.push {cls:=.type "list",data:=.seq #[]}}) PySem.F.called_list (PySem.F.typeCall_list_1 _) PySem.F.entry_list_init (code_list_new _ ⟨rfl,rfl⟩) ?_;rintro obj s₁ ⟨rfl,rfl⟩;generalize hSe:s.heap.objs.size=S;have lK:∀b∈[z,TI,TO,i1,i2,l1,l2],b<S:=fun b hb=>by rw[<-hSe];exact kW b hb
 have pW:(s.heap.push {cls:=.type "list",data:=.seq #[]}).get? S=some {cls:=.type "list",data:=.seq #[]}:=by rw[<-hSe];exact aE _ rfl
 have ne:∀b,b∈[z,TI,TO,i1,i2,l1,l2]->b≠S:=fun b hb=>aC (lK b hb);refine⟨⟨_,pW,rfl⟩,PySem.F.args_list_init_2 _ _,?_⟩
 change wpAny ?T A.in1.in1 (Builtin.List.listItems (.ref S)>>=fun old=>Builtin.List.listUpdate (.ref S) (fun _=>#[])>>=fun _=>letGo old.toList.reverse>>=fun _=>Builtin.List.listExtendWith (.ref S) (.ref z) .none) _ _ _
 unfold Builtin.List.listItems;refine af (af (cu pW rfl (ao ?_)))
 change wpAny ?T A.in1.in1 (updateSeq S (fun _=>#[])>>=_) _ _ _
 refine af (gS pW rfl (af (iV ?_)));obtain⟨c1,sf⟩:=Z6q pW (fun _=>#[]);have kH:∀b o,b≠S->s.heap.get? b=?R->((s.heap.push {cls:=.type "list",data:=.seq #[]}).update S (Obj.mapSeq (fun _=>#[]))).get? b=?R:=fun b o hb e=>(cC _ _ (bY hb)).trans (ae _ e);have sN:((s.heap.push {cls:=.type "list",data:=.seq #[]}).update S (Obj.mapSeq (fun _=>#[]))).objs.size=S+1:=by rw[(bQ (h:=s.heap.push {cls:=.type "list",data:=.seq #[]}) (a:=S) ..).1,ba,hSe]
 generalize hH1:(s.heap.push {cls:=.type "list",data:=.seq #[]}).update S (Obj.mapSeq (fun _=>#[]))=H1 at sf kH sN ⊢;have m6:∀h:Heap,(∀b o,b≠S->s.heap.get? b=?R->h.get? b=?R)->ZTn b1 b2 z TI TO i1 i2 l1 l2 0 h:=fun h k=>st.keep fun b hb o e=>k b o (ne b (by
  simp only[au,aL,bu]at hb ⊢;rcases hb with h |h |h |h |h<;>simp[h])) e
 obtain⟨⟨_,_,ez,_⟩,_⟩:=id (m6 H1 kH);have cz:∃o,H1.get? z=?R/\o.cls=.type "zip":=⟨_,ez,rfl⟩
 obtain⟨oz,ez,cz⟩:=cz;unfold Builtin.List.listExtendWith;refine af (lc (T:="zip") ⟨oz,ez,cz⟩ ?_);have h1:Builtin.List.listSameRef (.ref S) (.ref z)=false:=by simp[Builtin.List.listSameRef,(ne z ?H).symm]
 have h2:(Builtin.List.listSameRef (.ref S) (.ref z)||(Value.type "zip"==Value.type "list")||(Value.type "zip"==Value.type "tuple"))=false:=by rw[h1];decide
 rw[aK (by rw[h2];decide)];refine af (Q9w (m6 H1 kH).1 (af (bB (W7u ⟨oz,ez,cz⟩ ?_))));rw[Bool.true_or,aP rfl];refine af (dU (af ?_))
 change wpAny ?T A.in1.in1 (updateSeq S (·.push .none)>>=fun _=>updateSeq S (·.pop)) _ _ _
 refine af (gS sf rfl ?_);obtain⟨c2,oC⟩:=Z6q sf (·.push Value.none);refine gS (hz:=by seq_fits) oC rfl ?_;obtain⟨c3,tT⟩:=Z6q oC (·.pop);have e3:((#[]:Array Ad).push Value.none).pop=(([]:M Af).map Value.ref).toArray:=rfl;have i8:∀b o,b≠S->s.heap.get? b=?R->((H1.update S (Obj.mapSeq (·.push Value.none))).update S (Obj.mapSeq (·.pop))).get? b=?R:=fun b o hb e=>(cC _ _ (bY hb)).trans ((cC _ _ (bY hb)).trans (kH b o hb e));have qw:((H1.update S (Obj.mapSeq (·.push Value.none))).update S (Obj.mapSeq (·.pop))).objs.size=S+1:=by rw[(bQ (h:=H1.update S (Obj.mapSeq (·.push Value.none))) (a:=S) ..).1,(bQ (h:=H1) (a:=S) ..).1,sN]
 generalize hH3:(H1.update S (Obj.mapSeq (·.push Value.none))).update S (Obj.mapSeq (·.pop))=H3 at tT i8 qw ⊢;refine ao ⟨uX PySem.F.plain_extend_loop _,?_⟩;have vI:Q6 b1 H3 l1 xs:=jn.keep fun o e=>i8 _ _ (ne l1 ?H) e;have vH:Q6 b2 H3 l2 ys:=gq.keep fun o e=>i8 _ _ (ne l2 ?H) e;refine J1q (s:=s) (A:=A.in1) (h0:=H3) (S:=S) hh D lL kb ⟨(ne z ?H).symm,(ne TI ?H).symm,(ne TO ?H).symm,(ne i1 ?H).symm,(ne i2 ?H).symm,(ne l1 ?H).symm,(ne l2 ?H).symm⟩ hn (fun b hb=>?_) (fun h' tk as c kY jl iq mB rJ mS=>?_)
  _ 0 H3 _ c3 [] rfl (be _) (m6 H3 i8) vI vH rfl dL (by intro a ha;cases ha) (am _) (by intro a ha;cases ha) (by intro j a e;simp at e) (fun c o _ e=>e) (by rw[<-e3];exact tT)
 ·rw[qw];rcases aO.mp (show b∈[z,TI,TO,i1,i2,l1,l2]++[S]from hb)with q |q
  ·exact bo (lK b q)
  ·rw[aG.mp q];exact c8 _
 ·refine⟨rfl,hSe▸hQ h' tk as c kY jl (fun a ha=>?_) mB (fun c o hc e=>?_) (hSe.symm▸mS)⟩
  ·have:=iq a ha;rw[qw]at this;rw[hSe];exact this
  ·refine rJ c o (fun q=>?_) (i8 c o (fun z=>?_) e)
   ·rcases aO.mp (show c∈[z,TO,i1,i2]++[S]from q)with q |q
    ·exact hc q
    ·rw[aG.mp q,<-hSe]at e;exact absurd (aA e) (aU _)
   ·rw[z,<-hSe]at e;exact absurd (aA e) (aU _)
end
section
variable {a b:Ag}{p2 fO:Pos}
theorem Y4v {n0:Nat}(h0:X.s₀.heap.objs.size<=n0):∀(as:M Af) (xs:M (V×V)) {H:Hp},?C->as.length=xs.length->as.Nodup->(∀a∈as,n0<=a/\H a=none/\a≠X.env.locals/\(∀x c,X.env.cells.lookup x=some c->c≠a)/\∀q∈X.pn++ah,q.1≠a) ->
  (∀(j:Nat) a v,as[j]?=some a->xs[j]?=some v->∃x y,C9 v.1 x/\C9 v.2 y/\IsPair s.heap a x y)->∃H',A1 X ah σ H' s/\A5 H H'/\(∀c,c∉as->H' c=H c)/\∀(j:Nat) a v,as[j]?=some a->xs[j]?=some v->H' a=some (.tup [v.1,v.2])
 |[],xs,H,I,_,_,_,_=>⟨H,I,A5.refl H,fun _ _=>rfl,by intro j a v e;simp at e⟩
 |c::as,[],H,I,l,_,_,_=>by cases l
 |c::as,u::xs,H,I,l,n,f,g=>by
  rw[bq]at n;obtain⟨c1,c2,c3,c4,c5⟩:=f c ak;obtain⟨x,y,rx,ry,pr⟩:=g 0 c u rfl rfl;have I1:A1 X ah σ (B0 H c (.tup [u.1,u.2])) s:=Z5z I c2 (.inr (aV h0 c1)) c3 c4 c5 ⟨by show 2<=sizeLine;decide,[x,y],.cons rx (.cons ry .nil),_,pr,rfl,_,rfl⟩;obtain⟨H',I2,sm,je,at_⟩:=Y4v h0 as xs I1 (by simpa using l) n.2 (fun a ha=>by
   obtain⟨a1,a2,a3⟩:=f a (aj _ ha);exact⟨a1,by rw[B2 (fun z=>n.1 (by rw[<-z];exact ha))];exact a2,a3⟩) fun j a v e1 e2=>g (j+1) a v (by simpa using e1) (by simpa using e2)
  refine⟨H',I2,(G3 c2 _).trans sm,fun d hd=>?_,fun j a v e1 e2=>?_⟩
  ·rw[je d (fun z=>hd (aj _ z)),B2 (fun z=>hd (by rw[z];exact ak))]
  ·cases j with
   |zero=>cases e1;cases e2;rw[je c n.1];exact upd_same
   |succ j=>exact at_ j a v (by simpa using e1) (by simpa using e2)
def Y9i {K:Fg9}  {r:R}{ds:M D}{v:V}(e:W7 r=some ds)(h:F7 K H0 H r v):∃(b:Bool) (a:Af) (xs:M V),v=.ref a/\SqB b K H a xs/\AllS K H ds xs:=by
 obtain⟨a,xs,rfl,h |h,al⟩:=V8w e h
 ·exact⟨false,a,xs,rfl,h,al⟩
 ·exact⟨true,a,xs,rfl,h,al⟩
def W2d {G:M D->M D->Hp->Prop}  (I:?C)(hg:Gl X "zip")(hm:X.mg "zip"=none)(ha:DA X H0 [a,b] wr)  (hR:C2 X.K H0 τ σ H)
  (h:wr τ fun rs=>∃r r' ds es,rs=[r,r']/\W7 r=some ds/\W7 r'=some es/\∀H',A5 H H'->G ds es H')
  (hQ:∀(b1 b2:Bool) (l1 l2:Af) (xs ys:M V) (b7 cr:M Ad) (ds es:M D) (H1:Hp) (s1:Ae) (h':Heap),A1 X ah σ H1 s1->A5 H H1->SqB b1 X.K H1 l1 xs->SqB b2 X.K H1 l2 ys->AllS X.K H1 ds xs->AllS X.K H1 es ys->C3 xs b7->C3 ys cr->Q6 b1 s1.heap l1 b7.toArray->Q6 b2 s1.heap l2 cr.toArray->xs.length<=sizeLine ->
   ZTn b1 b2 (s1.heap.objs.size+4) (s1.heap.objs.size+2) (s1.heap.objs.size+3) s1.heap.objs.size (s1.heap.objs.size+1) l1 l2 0 h'->Q2f (s1.heap.objs.size+4) (s1.heap.objs.size+2) (s1.heap.objs.size+3) s1.heap.objs.size (s1.heap.objs.size+1) [s1.heap.objs.size,l1] [s1.heap.objs.size+1,l2] ->
   @LT.lt Nat _ l1 s1.heap.objs.size->@LT.lt Nat _ l2 s1.heap.objs.size->h'.objs.size=s1.heap.objs.size+5->(∀c o,s1.heap.get? c=?R->h'.get? c=?R)->(∀H',A5 H H'->G ds es H')->Q (.ref (s1.heap.objs.size+4)) {s1 with heap:=h'})
  (he:starEach [a,b] X.env=(false,eval a X.env)::starEach [b] X.env) (hpl:(backTo pos (starEach [b] X.env)).any (·.1)=false):
  wpAny ?D X.A (eval (.Call (.Name "zip" p) [a,b] [] pos) X.env) Q X.xe s:=by
 refine bj (Q1h I hg hm (u:=.type "zip") rfl ?_ (?G) (?G));refine bf (B3 (ha.pa pos ah s σ H (fun vs H1=>A5 H H1/\∃b1 b2 l1 l2 xs ys ds es,vs=[.ref l1,.ref l2]/\SqB b1 X.K H1 l1 xs/\AllS X.K H1 ds xs/\SqB b2 X.K H1 l2 ys/\AllS X.K H1 es ys/\∀H',A5 H H'->G ds es H') I
  ⟨τ,hR,ha.mono τ _ _ (fun rs ⟨r,r',ds,es,e1,e2,e3,q⟩ vs H1 s1 dA=>⟨s1,by
   subst e1;obtain⟨v,u,rfl,ir,n8⟩:=Z4m dA;obtain⟨b1,l,xs,rfl,sq,al⟩:=Y9i e2 ir;obtain⟨b2,l2,ys,rfl,fe,eA⟩:=Y9i e3 n8;exact⟨b1,b2,l,l2,xs,ys,ds,es,rfl,sq,al,fe,eA,q⟩⟩) h⟩) fun us s1 bF=>?_) he hpl
 obtain⟨vs,H1,I1,rv,sm,b1,b2,l1,l2,xs,ys,ds,es,e1,sq,al,fe,eA,q⟩:=bF;subst e1;obtain⟨u1,u2,rfl,r1,r2⟩:=rv.two;cases (show u1=Value.ref l1 from r1);cases (show u2=Value.ref l2 from r2);obtain⟨b7,i6,pl,kK⟩:=Q7e I1 sq;obtain⟨cr,jU,gp,qV⟩:=Q7e I1 fe;have hl:=pl.lt;have gq:=gp.lt;refine W5z pl gp fun h' hz gL gv lL kb hsz k=>hQ b1 b2 l1 l2 xs ys b7 cr ds es H1 s1 h' I1 sm sq fe al eA i6 jU pl gp kK ⟨hz,gL,⟨_,_,gv⟩,lL,kb⟩ ?_ hl gq hsz k q;refine⟨?_,?_,?_,?_,?_,?_,?_,?_,?_,?_,fun b hb=>?_,fun b hb=>?_⟩
 all_goals first |(show ¬ ((_:Nat)=(_:Nat));omega) |skip
 all_goals simp only[au,aL,bu]at hb
 all_goals rcases hb with rfl |rfl<;>refine⟨?_,?_,?_⟩<;>(show ¬ ((_:Nat)=(_:Nat));omega)
def Z1a (wr:WA):WIE:=fun τ Q=>wr τ fun rs=>∃r r' ds es,rs=[r,r']/\W7 r=some ds/\W7 r'=some es/\Q (T3 ds es)
def W2q (hg:Gl X "zip")(hm:X.mg "zip"=none)(ha:DA X H0 [a,b] wr)(he:starEach [a,b] X.env=(false,eval a X.env)::starEach [b] X.env:=by rfl)(hpl:(backTo pos (starEach [b] X.env)).any (·.1)=false:=by rfl):
  L4 X H0 tg (.Call (.Name "zip" p) [a,b] [] pos) (Z1a wr) where
 mono:=fun τ P Q f h=>ha.mono τ _ _ (fun r cU=>(by obtain⟨r1,r2,ds,es,e1,e2,e3,q⟩:=cU;exact⟨r1,r2,ds,es,e1,e2,e3,f _ q⟩)) h
 pi:=by
  intro ah s σ H R I ⟨τ,hR,h⟩;refine W2d (G:=fun ds es H'=>∀J,YlS X.K J (T3 ds es) H'->R J H') I hg hm ha hR (ha.mono τ _ _ (fun rs dF=>(by obtain⟨r,r',ds,es,e1,e2,e3,q⟩:=dF;exact⟨r,r',ds,es,e1,e2,e3,fun H' sm J y=>q J H' sm y⟩)) h) (fun b1 b2 l1 l2 xs ys b7 cr ds es H1 s1 h' I1 sm sq fe al eA rv fN pl gp hz st Z hl gq hsz k q=>?_) he hpl;refine Q9w (s:={s1 with heap:=h'}) st.1 ⟨s1.heap.objs.size+4,[s1.heap.objs.size+4,s1.heap.objs.size+3,s1.heap.objs.size,s1.heap.objs.size+1,s1.heap.objs.size+2],_,_,H1,rfl,I1.kept (t':=s1.toks) k,J0k (n:=Min.min ds.length es.length) Z (aC hl) (aC (bo gq)),st,fun b hb=>?_,q _ sm _ (J1m sq al fe eA)⟩;have hb:s1.heap.objs.size<=b:=by
   simp only[au,aL,bu]at hb;rcases hb with rfl |rfl |rfl |rfl |rfl<;>first |exact am _ |exact yP _ _
  exact I1.fpOk hb (I1.hok.fresh hb)
@[simp] theorem V7j {Q:M D->Prop}:Z1a wr τ Q=wr τ fun rs=>∃r r' ds es,rs=[r,r']/\W7 r=some ds/\W7 r'=some es/\Q (T3 ds es):=rfl
def Z9n (wr:WA):WE:=fun τ Q=>wr τ fun rs=>∃r r' ds es,rs=[r,r']/\W7 r=some ds/\W7 r'=some es/\Q (.nw (T3 ds es))
def W2n (hc:X.calm=true)(hg:Gl X "list")(hm:X.mg "list"=none)(rL:Gl X "zip")(rA:X.mg "zip"=none)(ha:DA X H0 [a,b] wr)
  (hs:starEach [.Call (.Name "zip" p2) [a,b] [] fO] X.env=(false,eval (.Call (.Name "zip" p2) [a,b] [] fO) X.env)::starEach [] X.env:=by rfl)
  (he:starEach [a,b] X.env=(false,eval a X.env)::starEach [b] X.env:=by rfl) (hpl:(backTo fO (starEach [b] X.env)).any (·.1)=false:=by rfl):
  DE X H0 (.Call (.Name "list" p) [.Call (.Name "zip" p2) [a,b] [] fO] [] pos) (Z9n wr) where
 mono:=fun τ P Q f h=>ha.mono τ _ _ (fun r ff=>(by obtain⟨r1,r2,ds,es,e1,e2,e3,q⟩:=ff;exact⟨r1,r2,ds,es,e1,e2,e3,f _ q⟩)) h
 pe:=by
  intro ah s σ H Q I ⟨τ,hR,h⟩;refine bj (Q1h I hg hm (u:=.type "list") rfl ?_ (?G) (?G));refine bf ?_ hs;rw[hs]
  change wpAny ?D X.A (spliced ((false,eval (.Call (.Name "zip" p2) [a,b] [] fO) X.env)::backTo pos (starEach [] X.env))) _ _ s
  refine bS ?_;refine W2d (G:=fun ds es H'=>∀v,F7 X.K H H' (.nw (T3 ds es)) v->Q v H') I rL rA ha hR (ha.mono τ _ _ (fun rs fE=>(by obtain⟨r,r',ds,es,e1,e2,e3,q⟩:=fE;exact⟨r,r',ds,es,e1,e2,e3,fun H' sm v i=>q v H' sm i⟩)) h) (fun b1 b2 l1 l2 xs ys b7 cr ds es H1 s1 h' I1 sm sq fe al eA i6 jU pl gp kK st Z hl gq hsz k q=>cM ?_) he hpl;have n1:=i6.length;have n2:=jU.length;refine W5u (s:={s1 with heap:=h'}) (I.ok.hd hc) Z (aC hl) (aC (bo gq)) st (pl.keep fun o e=>k _ o e) (gp.keep fun o e=>k _ o e) (by simp only[aF];omega) (fun b hb=>?_) fun h2 tk as c kY jl iq mB rJ mS=>?_
  ·show b<h'.objs.size;rw[hsz];simp only[au,aL,bu]at hb;rcases hb with rfl |rfl |rfl |rfl |rfl |rfl |rfl<;>(show(_:Nat)<(_:Nat);omega)
  ·have rH:∀c o,s1.heap.get? c=?R->h2.get? c=?R:=fun c o e=>rJ c o (fun z=>by
    have:@LT.lt Nat _ c s1.heap.objs.size:=aA e;simp only[au,aL,bu]at z;rcases z with rfl |rfl |rfl |rfl<;>omega) (k c o e)
   have I2:A1 X ah σ H1 {s1 with heap:=h2,toks:=tk}:=I1.kept (t':=tk) rH;have hS:@LE.le Nat _ s1.heap.objs.size h'.objs.size:=by rw[hsz];omega
   have big:∀c,s1.heap.objs.size<=c->H1 c=none/\c≠X.env.locals/\(∀x d,X.env.cells.lookup x=some d->d≠c)/\∀q∈X.pn++ah,q.1≠c:=fun c gr=>by
    obtain⟨f0,f1,_,_,f4,f5⟩:=I1.fpOk gr (I1.hok.fresh gr);exact⟨f0,f1,f4,f5⟩
   have oy:∀a∈as,s1.heap.objs.size<=a:=fun a pU=>aV hS (dO (iq a pU));have vC:(xs.zip ys).length=Min.min b7.toArray.size cr.toArray.size:=by simp;omega
   obtain⟨H3,I3,m9,i8,xW⟩:=Y4v (X:=X) (s:={s1 with heap:=h2,toks:=tk}) (n0:=s1.heap.objs.size) I1.sz as (xs.zip ys) I2 (by rw[kY,vC]) jl (fun a pU=>⟨oy a pU,big a (oy a pU)⟩) fun j a v e1 e2=>by
    obtain⟨x,y,ex,ey,pr⟩:=mB j a e1;rw[cE]at e2;obtain⟨u,hu,ru⟩:=i6.get e2.1;obtain⟨u',mr,nM⟩:=jU.get e2.2;have ex:b7[j]?=some x:=by simpa using ex
    have ey:cr[j]?=some y:=by simpa using ey
    rw[hu]at ex;cases ex;rw[mr]at ey;cases ey;exact⟨_,_,ru,nM,pr⟩
   have se:h'.objs.size∉as:=fun z=>aU _ (iq _ z);obtain⟨b1,b2,b3,b4⟩:=big h'.objs.size hS;have hz:(as.map V.ref).length<=sizeLine:=by rw[ag,kY];simp only[aF];omega
   have I4:=Z5z I3 (p:=h'.objs.size) (u:=.lst (as.map V.ref)) (by rw[i8 _ se];exact b1) (.inr (aV I1.sz hS)) b2 b3 b4 ⟨hz,as.map Value.ref,c,Z9b as,mS⟩;have ju:=m9.trans (G3 (p:=h'.objs.size) (by rw[i8 _ se];exact b1) (.lst (as.map V.ref)));refine⟨.ref h'.objs.size,_,I4,rfl,q _ (sm.trans ju) _ ⟨h'.objs.size,as.map V.ref,rfl,sm.free b1,upd_same,?_⟩⟩;have kp:=Kp.of ju;have sF:=al.mono kp _ _;have sC:=eA.mono kp _ _;have xV:∀(j:Nat) a v,as[j]?=some a->(xs.zip ys)[j]?=some v->B0 H3 h'.objs.size (.lst (as.map V.ref)) a=some (.tup [v.1,v.2]):=fun j a v e1 e2=>by
    rw[B2 (fun z=>se (by rw[<-z];exact aD e1))];exact xW j a v e1 e2
   have lz:as.length=(T3 ds es).length:=by rw[kY,Q9v,al.length,eA.length];simp only[aF];omega
   have key:∀(as:M Af) (zs:M D) (H:Hp),as.length=zs.length->(∀(j:Nat) a z,as[j]?=some a->zs[j]?=some z->A4 X.K H z (.ref a))->AllS X.K H zs (as.map V.ref):=by
    intro as
    induction as with
    |nil=>intro zs H l _;cases zs with
     |nil=>exact AllS.nil
     |cons _ _=>cases l
    |cons a as ih=>
     intro zs H l f;cases zs with
     |nil=>cases l
     |cons z zs=>exact AllS.cons (f 0 a z rfl rfl) (ih zs H (by simpa using l) fun j a z e1 e2=>f (j+1) a z (by simpa using e1) (by simpa using e2))
   refine key as (T3 ds es) _ lz fun j a z e1 e2=>?_;obtain⟨x,y,ex,ey,rfl⟩:=Y0n e2;obtain⟨v1,na,q1⟩:=sF.get ex;obtain⟨v2,kL,q2⟩:=sC.get ey;exact A4.s_tup (xV j a (v1,v2) e1 (by rw[cE];exact⟨na,kL⟩)) (AllS.cons q1 (AllS.cons q2 AllS.nil))
@[simp] theorem V7s {Q:R->Prop}:Z9n wr τ Q=wr τ fun rs=>∃r r' ds es,rs=[r,r']/\W7 r=some ds/\W7 r'=some es/\Q (.nw (T3 ds es)):=rfl
end
def jOr (a b:WIE):WIE:=fun τ Q=>a τ Q\/b τ Q
def iOr (a b:WI):WI:=fun τ Q=>a τ Q\/b τ Q
def L4.or {a b:WIE}(h1:L4 X H0 tg e a)(h2:L4 X H0 tg e b):L4 X H0 tg e (jOr a b) where
 mono:=fun τ P Q f h=>h.elim (fun h=>.inl (h1.mono τ P Q f h)) fun h=>.inr (h2.mono τ P Q f h)
 pi:=fun ah s σ H R I h=>by
  obtain⟨τ,hR,h |h⟩:=h
  ·exact h1.pi ah s σ H R I ⟨τ,hR,h⟩
  ·exact h2.pi ah s σ H R I ⟨τ,hR,h⟩
def DI.or {a b:WI}(h1:DI X H0 tg e a)(h2:DI X H0 tg e b):DI X H0 tg e (iOr a b) where
 mono:=fun τ P Q f h=>h.elim (fun h=>.inl (h1.mono τ P Q f h)) fun h=>.inr (h2.mono τ P Q f h)
 pi:=fun ah s σ H R I h=>by
  obtain⟨τ,hR,h |h⟩:=h
  ·exact h1.pi ah s σ H R I ⟨τ,hR,h⟩
  ·exact h2.pi ah s σ H R I ⟨τ,hR,h⟩
def Q3l (rs:M R)(Q:R->Prop):Prop:=∃i j:Int,rs=[.st (.int i),.st (.int j)]/\Q (.st (.int (if j<i then j else i)))
def Y6j:Q2y Q3l:=fun rs P Q f⟨i,j,e,h⟩=>⟨i,j,e,f _ h⟩
def Y2z (hc:X.calm=true):Q2w X (.builtin "min") Q3l:=by
 intro ah s σ H xs us Q I rv ⟨rs,dA,i,j,e,h⟩;subst e;obtain⟨v,t,rfl,iv,v',t',rfl,qR,et⟩:=dA;cases (show t'=[]from et);cases (show v=.int i from iv);cases (show v'=.int j from qR);obtain⟨u,u',rfl,⟨t1,rfl⟩,⟨t2,rfl⟩⟩:=W0v rv;refine min_two_ints (I.ok.hd hc) fun h' tk k=>⟨_,H,I.kept (t':=tk) k,?_,h _ _ (A5.refl H) Z2⟩
 by_cases bW:j<i
 ·rw[aP bW,aP bW];exact⟨_,rfl⟩
 ·rw[aK bW,aK bW];exact⟨_,rfl⟩
@[simp] theorem Y8o {a b:Int}{Q:R->Prop}:Q3l [.st (.int a),.st (.int b)] Q ↔ Q (.st (.int (if b<a then b else a))):=by
 constructor
 ·rintro ⟨i,j,e,h⟩;cases e;exact h
 ·intro h;exact⟨a,b,rfl,h⟩
abbrev Q2m (io:Bool):Obj:={cls:=.type "set",dict:=none,data:=.set #[] 0 (.fresh 0 0 io)}
section
variable {w:Ak}{R:Result->Ae->Prop}{I:Af}{wr:M Af}{G:Array GenState->Array GenState->Prop}{P:Nat->Ad->Prop}{R9:Nat->Ae->Prop}{ts:M Str}
def HdS (prog:Aj)(w:Ak)(ts:M Str)(h:Heap)(a:Af)(i:Nat):Prop:=h.SetOf (strKind prog w) a (fun k=>decide (k∈ts.take i)) i
def HdS.keep {i:Nat}(x:HdS prog w ts h a i)(k:∀o,h.get? a=?R->h'.get? a=?R):HdS prog w ts h' a i:=by
 obtain⟨o,es,ep,t,ho,rest⟩:=x;exact⟨o,es,ep,t,k _ ho,rest⟩
theorem V8i (W:WalksS prog w A.in1 I fp wr G n P R9)(Sa:Af)(pV:Sa∉fp)(hn:n=ts.length)(nd:ts.Nodup)(hb:n+1<scanBound)(qZ:∀i v,P i v->i<n->∃t,v=.str (ts.getD i "") t):
  ∀(k i:Nat) (s:Ae),n-i=k->i<=n->R9 i s->HdS prog w ts s.heap Sa i->(∀s',Moved (Sa::wr) G s s'->HdS prog w ts s'.heap Sa n->R (.ok (.ret .none)) s') ->
   codeAny (model prog w) A (.builtin "set.update.loop" ⟨[.ref Sa,.ref I],[]⟩) R s:=by
 have tS:Sa∉wr:=fun h=>pV (W.sub _ h);have ie:∀b∈wr,b∈Sa::wr:=fun b hb=>aj _ hb;intro k
 induction k with
 |zero=>
  intro i s hk hi mv hS hR;have gQ:i=n:=?A
  subst gQ;refine fi gw ?_;rw[eT de _]
  change wpAny _ A.in1 (pyNext (.ref I)>>=_) _ _ s
  refine af (W.done s _ _ mv fun s' hm=>?_)
  change wpAny _ A.in1 (ret Value.none) _ _ s'
  exact ao (hR s' (hm.mono ie) (hS.keep fun o e=>hm.heap Sa _ tS e))
 |succ k ih=>
  intro i s hk hi mv hS hR;have bW:i<n:=?A
  refine fi gw ?_;rw[eT de _]
  change wpAny _ A.in1 (pyNext (.ref I)>>=_) _ _ s
  refine af (W.item i s _ _ bW mv fun v s' hP r8 hm=>?_);obtain⟨t,rfl⟩:=qZ i v hP bW;have l3:HdS prog w ts s'.heap Sa i:=hS.keep fun o e=>hm.heap Sa _ tS e;generalize hx:ts.getD i ""=x;have om:i<ts.length:=?A
  have ex:ts[i]=x:=by rw[<-hx,av,aa om];rfl
  have kS:x∉ts.take i:=by
   rw[<-ex];intro z;obtain⟨j,hj,e⟩:=gz z;rw[bD]at hj;rw[yp]at e;have:=(yT nd).mp e;omega
  change wpAny _ A.in1 (holding [Value.str x t] (setAdd Sa (.str x t))>>=_) _ _ s'
  refine af (bB ?_);unfold setAdd;refine bB (af ((strKind prog w).pyHash (k:=x) (strKind_is _ _ _ _) ?_));refine wpAny_setAddHashed_of (knd:=strKind prog w) (s:={s' with toks:=s'.toks+1}) (strKind_is _ _ _ _) rfl l3 (?A) fun h' nW oC=>?_;have xo:HdS prog w ts h' Sa (i+1):=by
   rw[aK (by simpa using kS)]at oC;refine SetOf_congr oC (fun k'=>?_) rfl;rw[List.take_succ_eq_append_getElem om,ex]
   by_cases h1:k'∈ts.take i<;>by_cases h2:k'=x<;>simp[h1,h2]
  refine ao ⟨uX de _,ih (i+1) _ (?A) bW (W.frame _ s' _ _ r8 (cW _) fun b hb o e=>?_) xo fun nL rE sg=>?_⟩
  ·rw[nW.2 b (fun h:b=Sa=>pV (by rw[<-h];exact hb))];exact e
  ·refine hR nL (Moved.trans W.gtrans ((hm.mono ie).then_heap (cW _) fun b o hb e=>?_) rE) sg;rw[nW.2 b (fun h:b=Sa=>hb (by rw[h];exact ak))];exact e
end
section
variable {w:Ak}{ts:M Str}
def HdS.zero {io:Bool}   (e:h.get? a=some (Q2m io)):HdS prog w ts h a 0:=
 ⟨_,#[],0,_,e,⟨rfl,rfl,rfl⟩,rfl,fun _ h=>(by cases h),fun k=>⟨fun h=>(by simp at h),fun h=>(by obtain⟨_,h,_⟩:=h;cases h)⟩,?G,rfl,rfl⟩
theorem V8h (hh:A.handled=none)(hl:s.heap.IsList l items)(hi:∀(i:Nat) (v:Ad),items[i]?=some v->∃t:Tok,v=Value.str (ts.getD i "") t)(hn:items.size=ts.length)(nd:ts.Nodup)(hb:items.size+1<scanBound)
  (h:∀(h':Heap) (tk:Nat),HdS prog w ts h' s.heap.objs.size ts.length->(∀b o,b<s.heap.objs.size->s.heap.get? b=?R->h'.get? b=?R)->Q (.ref s.heap.objs.size) {s with heap:=h',toks:=tk}):
  wpAny (model prog w) A (call (.type "set") [.ref l]) Q E s:=by
 obtain⟨c,tl,wu⟩:=c6.mro;have tG:=c6.made;have ie:=c6.sub;refine wpAny_call (codeAny_of_tree ?_)
 change wpAny _ _ (callAny (.type "set") _) _ _ _
 refine ao ⟨Code.quiet_builtin _ (?E),fi PySem.F.entry_type_call ?_⟩;rw[Around.under_plain (weight_type_call_type "set" [.ref l] []) rfl];have h1:=c6.notType;have h2:=c6.canCreate;have yE:=PySem.F.typeCall_set_1 (.ref l)
 repeat (any_goals (first |assumption |wp_step))
 refine fz (code_set_new_1 (.ref l) (E:=E) (Q₁:=fun obj s₁=>∃io,obj=.ref s.heap.objs.size/\s₁={s with heap:=s.heap.push (Q2m io)}) fun io=>⟨io,rfl,rfl⟩) fun r s₁ hr=>?_;cases r with
 |error e=>exact hr
 |ok fl=>
  cases fl with
  |ret obj=>
   obtain⟨io,rfl,rfl⟩:=hr;have hS:(s.heap.push (Q2m io)).get? s.heap.objs.size=some (Q2m io):=aE _ rfl;have hT:Shared.TypeIs {s with heap:=s.heap.push (Q2m io)} (.ref s.heap.objs.size) "set":=⟨_,hS,rfl⟩
   have ni:=c6.init.lookup;have yF:=c6.init.bind (.ref s.heap.objs.size)
   repeat (any_goals (first |assumption |wp_step))
   refine fz (codeAny_call_builtin (R:=wants (fun r s₂=>r=.none/\∃h' tk,s₂={s with heap:=h',toks:=tk}/\HdS prog w ts h' s.heap.objs.size ts.length /\
     (∀b o,b<s.heap.objs.size->s.heap.get? b=?R->h'.get? b=?R)) E) c6.init.plain PySem.F.entry_set_init (check_set_init_1 hT ?_)) fun r₂ s₂ re=>?_
   ·obtain⟨ol,nh,iO,nl,nq⟩:=hl;obtain⟨vj,nQ,sX,mh⟩:=ol;simp only at iO nq;subst iO;subst nq;have rm:(s.heap.push (Q2m io)).get? l=some {cls:=.type "list",dict:=nQ,data:=.seq items nl,slots:=mh}:=ae _ nh;have vW:=PySem.F.sub_list_set;have vX:=PySem.F.sub_list_frozenset;have dg:(Value.type "list"==Value.type "dict")=false:=?G
    have jn:(s.heap.push (Q2m io)).IsList l items:=⟨_,rm,rfl,nl,rfl⟩
    unfold Builtin.«set.__init__» noKeywords Builtin.Frozenset.updateFrom;generalize hPI:pyIter=PI
    wp_walk
    subst hPI;refine kA jn ?_;refine af (wpAny_runValue ?_);have tH:l<s.heap.objs.size:=aA nh;have wK:A.in1.in1.in1.handled=none:=by simp[hh]
    have rq:l≠(s.heap.push (Q2m io)).objs.size:=by
     rw[ba];exact aC (bo tH)
    have pV:s.heap.objs.size∉[(s.heap.push (Q2m io)).objs.size,l]:=by
     rw[ba];simp only[au,aG,aL,bu,jI];exact⟨aC (c8 _),iU tH⟩
    refine V8i ((Walks.list wK _ l rq items).toS) s.heap.objs.size pV hn nd hb (fun i v hv _=>hi i v hv) (items.size-0) 0 _ (?A) (be _)
     ⟨⟨_,aE _ rfl,rfl,rfl⟩,(jn.push _)⟩ (HdS.zero (ae _ hS)) fun s' hm l3=>?_
    obtain⟨h',g',d',pq,qD⟩:=s';have eg:g'=s.gens:=hm.gens;have ed:d'=s.drawn:=hm.drawn;have eo:qD=s.os:=hm.os;subst eg;subst ed;subst eo;show wpAny _ _ _ _ _ _;refine ao ?_
    change wpAny _ _ (ret Value.none) _ _ _
    rw[hn]at l3;refine ao ⟨rfl,h',pq,rfl,l3,fun b o hb e=>?_⟩;have pR:b≠(s.heap.push (Q2m io)).objs.size:=by
     rw[ba];exact aC (bo hb)
    exact hm.heap b o (by simp only[au,aG,aL,bu,jI];exact⟨aC hb,pR⟩) (ae _ (ae _ e))
   ·cases r₂ with
    |error e=>exact re
    |ok fl₂=>
     cases fl₂ with
     |ret r=>
      obtain⟨rfl,h',tk,rfl,l3,gi⟩:=re
      repeat (any_goals (first |assumption |wp_step))
      exact h _ _ l3 gi
     |_=>exact re.elim
  |_=>exact hr.elim
end
theorem W5d {K:Fg9}:∀{ts:M Str}{xs:M V},AllS K H (ts.map .str) xs->xs=ts.map V.str:=by intro ts;induction ts<;>grind [List.map,AllS,ax,A4]
theorem W0x:∀{ts:M Str}{b7:M Ad},C3 (ts.map V.str) b7->∀(i:Nat) (v:Ad),b7[i]?=some v->∃t:Tok,v=Value.str (ts.getD i "") t
 |[],b7,r,i,v,e=>by cases r;cases e
 |n::ns,b7,r,i,v,e=>by
  cases r with
  |cons h t=>
   cases i with
   |zero=>obtain⟨tk,q⟩:=h;cases e;exact⟨tk,q⟩
   |succ i=>exact W0x t i v (by simpa using e)
def Z3f (we:WE):WE:=fun τ Q=>we τ fun r=>∃ts:M Str,U1 r=some (ts.map .str)/\ts.Nodup/\ts.length<=4000/\Q (.st (.int (ts.length:Nat)))
section
variable {p2 fO:Pos}
def DE.lset (hc:X.calm=true)(hg:Gl X "len")(hm:X.mg "len"=none)(rL:Gl X "set")(rA:X.mg "set"=none)(na:bootBuiltins "len"=some (.builtin "len"))(kL:bootBuiltins "set"=some (.type "set"))(he:DE X H0 e we)
  (hs:starEach [.Call (.Name "set" p2) [e] [] fO] X.env=(false,eval (.Call (.Name "set" p2) [e] [] fO) X.env)::starEach [] X.env:=by rfl)
  (lG:starEach [e] X.env=(false,eval e X.env)::starEach [] X.env:=by rfl) (hpl:(backTo fO (starEach [] X.env)).any (·.1)=false:=by rfl):
  DE X H0 (.Call (.Name "len" p) [.Call (.Name "set" p2) [e] [] fO] [] pos) (Z3f we) where
 mono:=fun τ P Q f h=>he.mono τ _ _ (fun r⟨ns,e1,e2,e3,q⟩=>⟨ns,e1,e2,e3,f _ q⟩) h
 pe:=by
  intro ah s σ H Q I ⟨τ,hR,h⟩;refine bj (Q1h I hg hm na ?_ (?G) (?G));refine j4 ?_ hs;rw[hs]
  change wpAny ?D X.A (spliced ((false,eval (.Call (.Name "set" p2) [e] [] fO) X.env)::backTo pos (starEach [] X.env))) _ _ s
  refine bS ?_;refine bj (Q1h I rL rA kL ?_ (?G) (?G));refine bf (B3 ((Q1w he.pe Q4q lG) fO ah s σ H (fun vs H1=>A5 H H1/\∃(l:Af) (ts:M Str),vs=[.ref l]/\F2 X.K H1 l (ts.map V.str)/\ts.Nodup/\ts.length<=4000 /\
   ∀v H',A5 H H'->F7 X.K H H' (.st (.int (ts.length:Nat))) v->Q v H') I ?_) fun us s1 bF=>?_) lG hpl
  ·refine⟨τ,hR,he.mono τ _ _ (fun r ⟨ts,e1,e2,e3,q⟩ v H1 s1 ir=>?_) h⟩;obtain⟨l,ys,rfl,sq,al⟩:=Q4o e1 ir;have ey:=W5d al;subst ey;exact⟨s1,l,ts,rfl,sq,e2,e3,q⟩
  obtain⟨vs,H1,I1,rv,sm,l,ts,e1,sq,nd,h4,q⟩:=bF;subst e1;obtain⟨u,rfl,ru⟩:=Q0k rv;cases ru;obtain⟨b7,i6,pl,hz⟩:=I1.list sq;have hn:b7.length=ts.length:=by have:=i6.length;rw[ag]at this;exact this.symm
  refine V8h (I.ok.hd hc) pl.isList (fun i v e=>W0x i6 i v (by simpa using e)) (by simpa using hn) nd (by unfold scanBound;simp;omega) fun h' tk hH k=>cM ?_;obtain⟨o,es,ep,t,ho,hex,hd,_,_,_,hf,hsz⟩:=hH;refine call_len_set (s:={s1 with heap:=h',toks:=tk}) ho hex hd hf (by rw[hsz];omega) ?_;rw[hsz];exact⟨.int (ts.length:Nat),H1,I1.kept (t':=tk+1+1) fun b o e=>k b o (aA e) e,⟨_,rfl⟩,q _ _ sm (show A4 X.K H1 (.int (ts.length:Nat)) (.int (ts.length:Nat))from Q1m)⟩
@[simp] theorem V7r {Q:R->Prop}:Z3f we τ Q=we τ fun r=>∃ts:M Str,U1 r=some (ts.map .str)/\ts.Nodup/\ts.length<=4000/\Q (.st (.int (ts.length:Nat))):=rfl
end
theorem ixNn {j:Nat}(h:j<n):ixN n (j:Int)=some j:=by grind [ixN,bO]
section
variable {a b v:Ag}{op:Operator}{f:Int->Int->Int}
def V4y (K:Fg9):V->V->Hp->VK->Prop:=fun x y H Q=>∃(p:Af) (xs:M V) (i:Nat) (v:V),x=.ref p/\y=.int (i:Int)/\F2 K H p xs/\xs[i]?=some v/\Q v H
def W7o:PGet X (V4y X.K):=by
 intro ah s σ H x y v u Q I rx ry h;obtain⟨p,xs,i,z,rfl,rfl,hq,he,q⟩:=h;cases rx;obtain⟨t,rfl⟩:=ry;obtain⟨b7,r,pl,hz⟩:=I.list hq;obtain⟨w,ew,iG⟩:=r.get he;have hl:=r.length;have hi:i<b7.length:=by
  rcases aX i b7.length with h |h
  ·exact h
  ·rw[ay.mpr h]at ew;cases ew
 have hn:=Q4n;exact wpAny_getItem_list pl.isList (?A) (?A) (by rw[bO];simpa using ew) ⟨z,H,I,iG,q⟩
def Q7i (i:Nat)(f:Int->Int->Int)(we wv:WE):WS:=fun E τ=>∃ds,τ[i]?=some (some (.own ds))/\we τ fun rk=>∃(j:Nat) (x:Int),rk=.st (.int (j:Int))/\ds[j]?=some (.int x)/\wv τ fun r=>∃y,r=.st (.int y)/\E.nx (τ.set i (some (.own (ds.set j (.int (f x y))))))
def Y0y {i:Nat}(hp:PIp X op (ipI f))(ho:PE X o (Q5 i))(he:DE X H0 e we)(hv:DE X H0 v wv)
  (ha:∀ov iv new,augStore e ov iv new=(do holding [new,ov,iv] (setItem ov iv new);release [new,ov,iv] [];pure .next):=by intros;rfl):DS X H0 (.AugAssign (.Subscript o e cg) op v pos) (Q7i i f we wv) where
 mono:=fun τ E F le cG=>(by obtain⟨ds,e1,h⟩:=cG;exact⟨ds,e1,he.mono τ _ _ (fun r cU=>(by obtain⟨j,x,a1,a3,h⟩:=cU;exact⟨j,x,a1,a3,hv.mono τ _ _ (fun r⟨y,b1,b2⟩=>⟨y,b1,le.nx _ b2⟩) h⟩)) h⟩)
 ps:=S6 (V4k ho he.pe W7o hv.pe hp Y8y ha) fun D σ H ff=>by
  obtain⟨τ,hR,ds,e1,h⟩:=ff;obtain⟨q,xs,ic,h0,sq,al⟩:=hR.ownAt e1;refine⟨_,ic,τ,hR,he.mono τ _ _ (fun rk ⟨j,x,a1,a3,h⟩ y H1 s1 ik=>?_) h⟩;subst a1;cases (show y=.int (j:Int)from ik);have mX:=s1 _ _ sq;have iw:=al.mono (Kp.of s1) _ _;obtain⟨z,hz,iz⟩:=iw.get a3;cases (show z=.int x by unfold A4 at iz;exact iz);refine⟨q,xs,j,_,rfl,rfl,F2.of mX,hz,τ,hR.mono s1,hv.mono τ _ _ (fun r ⟨y,b1,b2⟩ u H2 s2 iu=>?_) h⟩;subst b1;cases (show u=.int y from iu);have fe:=s2 _ _ mX;have hj:j<xs.length:=by
   rw[<-al.length];rcases aX j ds.length with h |h
   ·exact h
   ·rw[ay.mpr h]at a3;cases a3
  refine⟨x,y,rfl,rfl,q,xs,(j:Int),j,rfl,rfl,fe,ixNn hj,?_⟩;have eA:AllS X.K H2 (ds.set j (.int (f x y))) (xs.set j (.int (f x y))):=AllS.set Q1m j (iw.mono (Kp.of s2) _ _);exact b2 σ _ ((Kp.of (s1.trans s2)).trans (Q1n fe _)) (((hR.mono s1).mono s2).mutate e1 ic h0 fe eA)
@[simp] theorem Y8h {i:Nat}{E:F6}:Q7i i f we wv E τ=∃ds,τ[i]?=some (some (.own ds))/\we τ fun rk=>∃(j:Nat) (x:Int),rk=.st (.int (j:Int))/\ds[j]?=some (.int x)/\wv τ fun r=>∃y,r=.st (.int y)/\E.nx (τ.set i (some (.own (ds.set j (.int (f x y)))))):=rfl
def Q2r:M R->(R->Prop)->Prop
 |[r],Q=>∃ns:M Int,U1 r=some (ns.map .int)/\Q (.st (.int ns.sum))
 |_,_=>False
def Y9w:Q2y Q2r:=fun x P Q g h=>by
 unfold Q2r at h ⊢;split at h
 ·obtain⟨ns,a,b⟩:=h;exact⟨ns,a,g _ b⟩
 ·exact h
def Y3a (hc:X.calm=true):Q2w X (.builtin "sum") Q2r:=by
 intro ah s σ H xs us Q I rv ⟨rs,dA,h⟩;unfold Q2r at h;split at h
 ·rename_i r;obtain⟨ns,e1,h⟩:=h;obtain⟨v,rfl,ir⟩:=Q0q dA;obtain⟨l,ys,rfl,sq,al⟩:=Q4o e1 ir;obtain⟨u,rfl,ru⟩:=Q0k rv;cases ru;have ey:=Y2g al;subst ey;obtain⟨b7,i6,pl,hz⟩:=I.list sq;obtain⟨ps,ei,en⟩:=Z5y i6;subst ei;have hit:s.heap.IsList l (intItems ps.toArray):=by
   have:=pl.isList;have e:intItems ps.toArray=(ps.map fun p=>Value.int p.1 p.2).toArray:=by simp[intItems]
   rw[e];exact this
  refine sum_intListG (I.ok.hd hc) hit fun h' tk t' k=>⟨.int ns.sum,H,I.kept k,⟨t',?_⟩,h _ _ (A5.refl _) Z2⟩
  have:preSum (numAt ps.toArray) ps.toArray.size=ns.sum:=by
   rw[preSum_eq,dH ?H,<-en]
  rw[this]
 ·exact h.elim
@[simp] theorem Y8p {r:R}{Q:R->Prop}:Q2r [r] Q=∃ns:M Int,U1 r=some (ns.map .int)/\Q (.st (.int ns.sum)):=rfl
def J1f {K:Fg9}    {ds:M D}(sq:FzL K H l xs)(al:AllS K H ds xs):Yl K H0 (Irl K l ds.length) ds.reverse H where
 go:=fun H' k s i hi=>⟨by simpa using hi,xs,(k.fzL sq).sq,al.length.symm⟩
 yld:=fun H' k s i v eX d hd fE=>by
  obtain⟨e,hx⟩:=fE;subst e;refine⟨A5.refl _,?_⟩;have hl:=al.length;have hi:i<ds.length:=by
   rcases aX i ds.length with h |h
   ·exact h
   ·rw[ay.mpr (by simpa using h)]at hd;cases hd
  rw[List.getElem?_reverse hi]at hd;obtain⟨v',tp,q⟩:=(al.mono k _ _).get hd;have:=hx xs (k.fzL sq).sq;rw[this]at tp;cases tp;exact q
 stop:=fun H' k s=>by
  show ds.reverse.length=ds.length;simp
def Z0u (wr:WA):WI:=fun τ Q=>wr τ fun rs=>∃ds,rs=[.st (.lst ds)]/\Q ds.reverse τ
def W2r (hg:Gl X "reversed")(hm:X.mg "reversed"=none)(hv:bootBuiltins "reversed"=some (.type "reversed"))(ha:DA X H0 [a] wr)(he:starEach [a] X.env=(false,eval a X.env)::starEach [] X.env:=by rfl)(hpl:(backTo pos (starEach [] X.env)).any (·.1)=false:=by rfl):
  DI X H0 tg (.Call (.Name "reversed" p) [a] [] pos) (Z0u wr) where
 mono:=fun τ P Q f h=>ha.mono τ _ _ (fun r⟨ds,e1,q⟩=>⟨ds,e1,f _ _ q⟩) h
 pi:=by
  intro ah s σ H R I ⟨τ,hR,h⟩;refine bj (Q1h I hg hm hv ?_ (?G) (?G));refine bf (B3 (ha.pa pos ah s σ H (fun vs H1=>A5 H H1/\∃l xs ds,vs=[.ref l]/\FzL X.K H1 l xs/\AllS X.K H1 ds xs/\∀J H',Kp H H'->C2 X.K H0 τ σ H'->Yl X.K H0 J ds.reverse H'->R J H') I
   ⟨τ,hR,ha.mono τ _ _ (fun rs ⟨ds,e1,q⟩ vs H1 s1 dA=>⟨s1,by
    subst e1;obtain⟨v,rfl,ir⟩:=Q0q dA;have ir:A4 X.K H1 (.lst ds) v:=ir;unfold A4 at ir;obtain⟨l,xs,rfl,sq,al⟩:=ir;exact⟨l,xs,ds,rfl,sq,al,q⟩⟩) h⟩) fun us s1 bF=>?_) he hpl
  obtain⟨vs,H1,I1,rv,sm,l,xs,ds,e1,sq,al,q⟩:=bF;subst e1;obtain⟨u,rfl,ru⟩:=Q0k rv;cases (show u=Value.ref l from ru);obtain⟨b7,i6,pl,kK⟩:=I1.list sq.sq;have hl:=i6.length;have gq:=al.length;refine call_reversed_list pl.isList ?_;have hit:(s1.heap.push (revObj l ((b7.toArray.size:Int)-1))).IsRevIter s1.heap.objs.size l ((b7.toArray.size:Int)-1):=⟨_,aE _ rfl,rfl,rfl⟩
  refine wpAny_pyIter_revIter hit ⟨s1.heap.objs.size,[s1.heap.objs.size],_,_,H1,rfl,I1.kept (t':=s1.toks) fun b o e=>ae _ e,J0i (l:=l) (n:=ds.length),⟨be _,?_⟩,fun b hb=>?_,q _ _ (Kp.of sm) (hR.mono sm) (J1f sq al)⟩
  ·have e:((ds.length:Nat):Int)-1-((0:Nat):Int)=(b7.toArray.size:Int)-1:=by simp;omega
   rw[e];exact hit
  ·rw[aG.mp hb];exact I1.fpOk (am _) (I1.hok.fresh (am _))
@[simp] theorem V7d {Q:M D->C8->Prop}:Z0u wr τ Q=wr τ fun rs=>∃ds,rs=[.st (.lst ds)]/\Q ds.reverse τ:=rfl
end
section
variable {w:Ak}{t:Tok}
abbrev sO (x:Str)(t:Tok):Obj:={cls:=.type (strIterType x),data:=.fields #[.str x t,.int 0 0]}
abbrev zs1 (x:Str)(t:Tok)(h:Heap):Heap:=h.push (sO x t)
abbrev zs2 (x:Str)(t:Tok)(h:Heap)(l:Af):Heap:=(zs1 x t h).push (itO true l)
abbrev zs3 (x:Str)(t:Tok)(h:Heap)(l:Af):Heap:=(zs2 x t h l).push {cls:=.type "tuple",data:=.seq #[.ref h.objs.size,.ref (zs1 x t h).objs.size]}
abbrev zs4 (x:Str)(t:Tok)(h:Heap)(l:Af):Heap:=(zs3 x t h l).push {cls:=.type "tuple",data:=.seq #[.none,.none]}
abbrev zs5 (x:Str)(t:Tok)(h:Heap)(l:Af):Heap:=(zs4 x t h l).push {cls:=.type "zip",data:=.fields #[.none,.bool false,.bool false,.ref (zs2 x t h l).objs.size,.ref (zs3 x t h l).objs.size]}
def J1p (x:Str)(t:Tok)(l:Af)(ys:Array Ad):
  Meets (Builtin.«zip.__new__» ⟨[.type "zip",.str x t,.ref l],[]⟩) (fun _ R s=>Q6 true s.heap l ys/\R (.ok (.ret (.ref (zs4 x t s.heap l).objs.size))) {s with heap:=zs5 x t s.heap l}):=
 Meets.of_wp fun prog w A R s h=>by
  obtain⟨hp,g,d,tk,os⟩:=s;obtain⟨gq,h⟩:=h;have ie:=sub_zip;have oF:Q6 true (Shared.heap ⟨hp.push (sO x t),g,d,tk,os⟩) l ys:=gq.keep fun o e=>ae _ e
  wp_walk using wpAny_pyIter_strU,Z6d oF
  exact⟨_,rfl,h⟩
def W6a {ys:Array Ad}  (ht:Q6 true s.heap l ys)
  (h:∀h',Q0a h' (s.heap.objs.size+4) (s.heap.objs.size+2) (s.heap.objs.size+3)->IsPair h' (s.heap.objs.size+2) (.ref s.heap.objs.size) (.ref (s.heap.objs.size+1))->IsPair h' (s.heap.objs.size+3) .none .none ->
   h'.IsStrIter s.heap.objs.size (strIterType x) x t 0->ItB true h' (s.heap.objs.size+1) l 0->h'.objs.size=s.heap.objs.size+5->(∀c o,s.heap.get? c=?R->h'.get? c=?R)->Q (.ref (s.heap.objs.size+4)) {s with heap:=h'}):
  wpAny ?T A (call (.type "zip") [.str x t,.ref l]) Q E s:=by
 refine yX F.called_zip (?G) (F.typeCall_zip_2 _ _) (F.newCall_zip_2 _ _) (fun obj=>F.args_object_init_3 obj _ _) F.entry_zip_new (J1p x t l ys) ⟨ht,?_⟩;have e1:(zs1 x t s.heap).objs.size=s.heap.objs.size+1:=ba ..;have e2:(zs2 x t s.heap l).objs.size=s.heap.objs.size+2:=by rw[ba,e1]
 have e3:(zs3 x t s.heap l).objs.size=s.heap.objs.size+3:=by rw[ba,e2]
 have e4:(zs4 x t s.heap l).objs.size=s.heap.objs.size+4:=by rw[ba,e3]
 have e5:(zs5 x t s.heap l).objs.size=s.heap.objs.size+5:=by rw[ba,e4]
 have g5:(zs5 x t s.heap l).get? (zs4 x t s.heap l).objs.size=some _:=aE _ rfl;have g4:(zs5 x t s.heap l).get? (zs3 x t s.heap l).objs.size=some _:=ae _ (aE _ rfl);have g3:(zs5 x t s.heap l).get? (zs2 x t s.heap l).objs.size=some _:=ae _ (ae _ (aE _ rfl));have g2:(zs5 x t s.heap l).get? (zs1 x t s.heap).objs.size=some (itO true l):=ae _ (ae _ (ae _ (aE _ rfl)));have g1:(zs5 x t s.heap l).get? s.heap.objs.size=some (sO x t):=ae _ (ae _ (ae _ (ae _ (aE _ rfl))));rw[e2,e3,e4]at g5;rw[e1,e2]at g3;rw[e3]at g4;rw[e1]at g2;rw[e4];exact⟨⟨_,g5,rfl⟩,h _ ⟨_,_,g5,.inl rfl⟩ g3 g4 ⟨_,g1,rfl,rfl⟩ (Z6c g2) e5 fun c o x=>ae _ (ae _ (ae _ (ae _ (ae _ x))))⟩
end
def Izs (x:Str)(K:Fg9)(l:Af)(n:Nat):It:=⟨fun i H=>i<n/\n<=x.cps.size/\∃ys,E2 K H l ys/\min x.cps.size ys.length=n,
 fun i H v H'=>∃T c y,x.cps[i]?=some c/\(∀ys,E2 K H l ys->ys[i]?=some y)/\H T=none/\v=.ref T/\H'=B0 H T (.tup [.str ⟨#[c]⟩,y]),fun i H=>i=n/\∃ys,E2 K H l ys/\min x.cps.size ys.length=n⟩
def ZTs (x:Str)(t:Tok)(z TI TO i1 i2 l:Af)(i:Nat)(h:Heap):Prop:=Q0a h z TI TO/\IsPair h TI (.ref i1) (.ref i2)/\(∃a b,IsPair h TO a b)/\h.IsStrIter i1 (strIterType x) x t i/\ItB true h i2 l i
def ZTs.obj {t:Tok}{TI TO:Af}{i:Nat}  (st:ZTs x t z TI TO i1 i2 l i h):∀c∈[z,TO,i1,i2,TI],∃o,h.get? c=?R/\∀v,o.data≠.cell v:=by
 obtain⟨⟨_,_,hz,_⟩,gL,⟨a,b,gv⟩,⟨o1,g1,_,d1⟩,h2⟩:=st;intro c hc;simp only[au,aL,bu]at hc;rcases hc with rfl |rfl |rfl |rfl |rfl
 ·exact⟨_,hz,fun v z=>by cases z⟩
 ·exact⟨_,gv,fun v z=>by cases z⟩
 ·exact⟨_,g1,fun v z=>by rw[d1]at z;cases z⟩
 ·exact h2.obj
 ·exact⟨_,gL,fun v z=>by cases z⟩
def ZTs.keep {t:Tok}{TI TO:Af}{i:Nat}  (st:ZTs x t z TI TO i1 i2 l i h)(k:∀b∈[z,TO,i1,i2,TI],∀o,h.get? b=?R->h'.get? b=?R):ZTs x t z TI TO i1 i2 l i h':=by
 obtain⟨⟨f0,f,hz,r⟩,gL,⟨a,b,gv⟩,⟨o1,g1,r1⟩,h2⟩:=st;exact⟨⟨f0,f,k z ?H _ hz,r⟩,k TI ?H _ gL,⟨a,b,k TO ?H _ gv⟩,⟨o1,k i1 ?H _ g1,r1⟩,h2.keep (k i2 ?H)⟩
def Y4a {w:Ak}  (hh:A.handled=none)(it:Af)(x:Str)(t:Tok):Draws P w A it [it] x.cps.size (fun i v=>∃c u,x.cps[i]?=some c/\v=.str ⟨#[c]⟩ u) (fun i h=>h.IsStrIter it (strIterType x) x t i):=by
 unfold strIterType;split
 ·exact qq hh it x t
 ·exact uY hh it x t
def J0l {w:Ak}{K:Fg9}   {t:Tok}{TI TO:Af}  (Z:Q2f z TI TO i1 i2 [i1] [i2,l])(hl:l≠i2):
  Q1o P w K tg (Izs x K l n) [z,TO,i1,i2,TI] z (ZTs x t z TI TO i1 i2 l) where
 mem:=by simp
 obj:=fun i h t=>t.obj
 keep:=fun i h h' t k=>t.keep k
 item:=by
  back_in;obtain⟨bW,ig,ys,dF,hn⟩:=hg;obtain⟨cr,fN,p2,qW⟩:=I.tuple dF;have qO:=fN.length;have hd:X.A.in1.handled=none:=I.ok.hd hc;have so:=st.obj;obtain⟨sz,iW,⟨a0,b0,jR⟩,s1,s2⟩:=st;have hy:ys[i]?=some (ys[i]'(?A)):=aa _;obtain⟨u',mr,nM⟩:=fN.get hy;refine Y0o Z (Y4a hd i1 x t) (Q8g hd i2 l hl cr.toArray) sz iW jR s1 ⟨s2,p2⟩ (?A) ?N fun h' tk c y px py z1 t1 a1 a2 pr _ kp=>⟨_,rfl,?_⟩
  obtain⟨cc,tu,gr,rfl⟩:=px;have ey:y=u':=by
   have:cr[i]?=some y:=by simpa using py
   rw[mr]at this;exact(az this).symm
  subst ey;have hT:∀b∈[z,TO,i1,i2,TI],b≠s.heap.objs.size:=fun b hb zz=>by
   obtain⟨o,ho,_⟩:=so b hb;exact aU _ (zz▸aA ho)
  refine W2f z1 fun h2 z2 sb=>?_;have kJ:∀c o,c∉[z,TO,i1,i2]->s.heap.get? c=?R->h2.get? c=?R:=fun c o hc e=>by
   simp only[au,aL,bu,jI]at hc;exact(sb.2 c hc.1).trans (kp c o hc.1 hc.2.1 hc.2.2.1 hc.2.2.2 e)
  have gM:IsTup h2 s.heap.objs.size ([Value.str ⟨#[cc]⟩ tu,y]).toArray:=⟨_,(sb.2 _ (hT z ?H).symm).trans pr,rfl,_,rfl⟩
  have mN:∀b∈[z,TO,i1,i2],M9 X ah H b:=fun b hb=>hf b (by
   simp only[au,aL,bu]at hb ⊢;rcases hb with h |h |h |h<;>simp[h])
  have I2:=Q9l (t':=tk) (xs:=[.str ⟨#[cc]⟩,ys[i]'(?A)]) I kJ mN (am s.heap.objs.size) gM (.cons ⟨tu,rfl⟩ (.cons nM .nil)) (by show 2<=sizeLine;decide);obtain⟨ta,tb,t1⟩:=t1;obtain⟨o1,g1,r1⟩:=a1;refine⟨.ref s.heap.objs.size,_,I2,rfl,⟨s.heap.objs.size,cc,_,gr,fun zs hz=>by rw[I.tuple_inj hz dF];exact hy,I.hok.fresh (am _),rfl,rfl⟩,
   ⟨z2,(sb.2 _ Z.tiz).trans (kp _ _ Z.tiz Z.tito Z.ti1 Z.ti2 iW),⟨_,_,(sb.2 _ Z.toz).trans t1⟩,⟨o1,(sb.2 _ Z.i1z).trans g1,r1⟩,(show ItB true h' i2 l (i+1)from a2.1).keep fun o e=>(sb.2 _ Z.i2z).trans e⟩,fun b hb=>?_⟩
  rw[B2 (hT b hb)];exact(hf b hb).1
 done:=by
  back_in;obtain⟨hi,ys,dF,hn⟩:=hg;obtain⟨cr,fN,p2,qW⟩:=I.tuple dF;have qO:=fN.length;have hd:X.A.in1.handled=none:=I.ok.hd hc;obtain⟨sz,iW,⟨a0,b0,jR⟩,s1,s2⟩:=st;have mN:∀b∈[z,TO,i1,i2],M9 X ah H b:=fun b hb=>hf b (by
   simp only[au,aL,bu]at hb ⊢;rcases hb with h |h |h |h<;>simp[h])
  refine Y0p Z (Y4a hd i1 x t) (Q8g hd i2 l hl cr.toArray) sz iW jR s1 ⟨s2,p2⟩ (by simp only[aF];omega) fun h' tk kp=>⟨rfl,Q5u I (fun c o hc e=>?_) mN⟩
  simp only[au,aL,bu,jI]at hc;exact kp c o hc.1 hc.2.1 hc.2.2.1 hc.2.2.2 e
 self:=fun A i s Q E st h=>Q9w st.1 h
def V8k {i:Nat}  (h:x.cps[i]?=some c):(G4 x)[i]?=some (.str ⟨#[c]⟩):=by
 unfold G4;simp[h]
def Y8z (x:Str):(G4 x).length=x.cps.size:=by simp[G4]
def J1h {K:Fg9}     {es:M D}(sq:H l=some (.tup ys))(eA:AllS K H es ys):Yl K H0 (Izs x K l (min x.cps.size es.length)) (T3 (G4 x) es) H where
 go:=fun H' k s i hi=>by
  rw[Q9v,Y8z]at hi;exact⟨hi,Nat.min_le_left _ _,ys,E2.of (k.tup _ _ sq),by rw[eA.length]⟩
 yld:=fun H' k s i v eX d hd ji=>by
  obtain⟨T,c,y,hx,hy,hT,hv,hH⟩:=ji;subst hH hv;refine⟨G3 hT _,?_⟩;obtain⟨d1,d2,e1,e2,rfl⟩:=Y0n hd;obtain⟨v2,kL,q2⟩:=eA.get e2;rw[hy ys (E2.of (k.tup _ _ sq))]at kL;cases kL;rw[V8k hx]at e1;cases e1;have kp:=k.trans (Kp.of (G3 hT (.tup [.str ⟨#[c]⟩,y])));exact A4.s_tup upd_same (AllS.cons Q4c (AllS.cons (q2.mono kp _ _) AllS.nil))
 stop:=fun H' k s=>⟨by rw[Q9v,Y8z],ys,E2.of (k.tup _ _ sq),by rw[eA.length]⟩
section
variable {a b:Ag}
def Z0v (wr:WA):WI:=fun τ Q=>wr τ fun rs=>∃x es,rs=[.st (.str x),.st (.tup es)]/\Q (T3 (G4 x) es) τ
def W2s (hg:Gl X "zip")(hm:X.mg "zip"=none)(ha:DA X H0 [a,b] wr)(he:starEach [a,b] X.env=(false,eval a X.env)::starEach [b] X.env:=by rfl)(hpl:(backTo pos (starEach [b] X.env)).any (·.1)=false:=by rfl):
  DI X H0 tg (.Call (.Name "zip" p) [a,b] [] pos) (Z0v wr) where
 mono:=fun τ P Q f h=>ha.mono τ _ _ (fun r⟨x,es,e1,q⟩=>⟨x,es,e1,f _ _ q⟩) h
 pi:=by
  intro ah s σ H R I ⟨τ,hR,h⟩;refine bj (Q1h I hg hm (u:=.type "zip") rfl ?_ (?G) (?G));refine bf (B3 (ha.pa pos ah s σ H (fun vs H1=>A5 H H1/\∃x l ys es,vs=[.str x,.ref l]/\H1 l=some (.tup ys)/\AllS X.K H1 es ys/\∀J H',Kp H H'->C2 X.K H0 τ σ H'->Yl X.K H0 J (T3 (G4 x) es) H'->R J H') I
   ⟨τ,hR,ha.mono τ _ _ (fun rs ⟨x,es,e1,q⟩ vs H1 s1 dA=>⟨s1,by
    subst e1;obtain⟨v,u,rfl,ir,n8⟩:=Z4m dA;cases (show v=.str x from ir);have n8:A4 X.K H1 (.tup es) u:=n8;unfold A4 at n8;obtain⟨l,ys,rfl,sq,al⟩:=n8;exact⟨x,l,ys,es,rfl,sq,al,q⟩⟩) h⟩) fun us s1 bF=>?_) he hpl
  obtain⟨vs,H1,I1,rv,sm,x,l,ys,es,e1,sq,al,q⟩:=bF;subst e1;obtain⟨u1,u2,rfl,r1,r2⟩:=rv.two;obtain⟨t,rfl⟩:=r1;cases (show u2=Value.ref l from r2);obtain⟨cr,jU,gp,qV⟩:=I1.tuple (E2.of (K:=X.K) sq);have hl:@LT.lt Nat _ l s1.heap.objs.size:=by obtain⟨o,ho,_⟩:=gp;exact aA ho
  refine W6a (ys:=cr.toArray) gp fun h' hz gL gv lL kb hsz k=>?_;have Z:Q2f (s1.heap.objs.size+4) (s1.heap.objs.size+2) (s1.heap.objs.size+3) s1.heap.objs.size (s1.heap.objs.size+1) [s1.heap.objs.size] [s1.heap.objs.size+1,l]:=by
   refine⟨?_,?_,?_,?_,?_,?_,?_,?_,?_,?_,fun b hb=>?_,fun b hb=>?_⟩
   all_goals first |(show ¬ ((_:Nat)=(_:Nat));omega) |skip
   ·rw[aG.mp hb];refine⟨?_,?_,?_⟩<;>(show ¬ ((_:Nat)=(_:Nat));omega)
   ·simp only[au,aL,bu]at hb;rcases hb with rfl |rfl<;>refine⟨?_,?_,?_⟩<;>(show ¬ ((_:Nat)=(_:Nat));omega)
  refine Q9w (s:={s1 with heap:=h'}) hz ⟨s1.heap.objs.size+4,[s1.heap.objs.size+4,s1.heap.objs.size+3,s1.heap.objs.size,s1.heap.objs.size+1,s1.heap.objs.size+2],_,_,H1,rfl,I1.kept (t':=s1.toks) k,J0l (n:=Min.min x.cps.size es.length) Z (aC (bo hl)),⟨hz,gL,⟨_,_,gv⟩,lL,kb⟩,fun b hb=>?_,q _ _ (Kp.of sm) (hR.mono sm) (J1h sq al)⟩;have hb:s1.heap.objs.size<=b:=by
   simp only[au,aL,bu]at hb;rcases hb with rfl |rfl |rfl |rfl |rfl<;>first |exact am _ |exact yP _ _
  exact I1.fpOk hb (I1.hok.fresh hb)
@[simp] theorem V7g {Q:M D->C8->Prop}:Z0v wr τ Q=wr τ fun rs=>∃x es,rs=[.st (.str x),.st (.tup es)]/\Q (T3 (G4 x) es) τ:=rfl
end
def Q8p (rs:M R)(Q:R->Prop):Prop:=∃i j:Int,rs=[.st (.int i),.st (.int j)]/\Q (.st (.int (if j > i then j else i)))
def V0g:Q2y Q8p:=fun rs P Q f⟨i,j,e,h⟩=>⟨i,j,e,f _ h⟩
def W5v (hc:X.calm=true):Q2w X (.builtin "max") Q8p:=by
 intro ah s σ H xs us Q I rv ⟨rs,dA,i,j,e,h⟩;subst e;obtain⟨v,v',rfl,iv,qR⟩:=Z4m dA;cases (show v=.int i from iv);cases (show v'=.int j from qR);obtain⟨u,u',rfl,⟨t1,rfl⟩,⟨t2,rfl⟩⟩:=W0v rv;refine max_two_ints (I.ok.hd hc) fun h' tk k=>⟨_,H,I.kept (t':=tk) k,?_,h _ _ (A5.refl H) Z2⟩
 by_cases bW:j > i
 ·rw[aP bW,aP bW];exact⟨_,rfl⟩
 ·rw[aK bW,aK bW];exact⟨_,rfl⟩
@[simp] theorem V7t {a b:Int}{Q:R->Prop}:Q8p [.st (.int a),.st (.int b)] Q ↔ Q (.st (.int (if b > a then b else a))):=by
 constructor
 ·rintro ⟨i,j,e,h⟩;cases e;exact h
 ·intro h;exact⟨a,b,rfl,h⟩
structure Q6a (K:Fg9)(x qual:Str)(st:Al)(f:Af)(fd:Ai):Prop where
 ex:∃(oc:Ad) (od:Ac Af) (dV kV dW pm:Ad) (an:Ac Af) (cdv ct:Ad) (fS:Array (Ac Ad)),
  fd=PySem.W.fnOf x qual (Y1 st) (N3 st) (C6 st) dV kV dW pm an cdv ct/\K.lookup f=some ⟨oc,od,.func fd,fS⟩/\PySem.W.codeIn K cdv qual=true
section
variable {w:Ak}{K:Fg9}
def Q6a.ok {k:Nat}{sp:Sp}(F:Q6a K x qual st f fd)(S:Y7 N ps (C6 st))(len:∀vs H Q E,sp vs H Q E->vs.length=ps.length)
  (cn:∀(cdv:Ad) (A:Ah) (outer:M Env) (s:Ae) (H:Hp) (vs:M V) (Q:VK) (E:XK),F8 k (A.deeper (envOfC qual (C6 st) s.heap.objs.size f cdv))->sp vs H Q E ->
   ∃t,PSs (U5 J7 P w K mg base N qual (C6 st) f cdv A outer s H E).nox (N3 st) t/\t {nx:=fun _ H'=>Q .non H',rt:=Q} (start N vs) H):S7 P w K mg base J7 (k+1) f fd ps sp:=by
 obtain⟨oc,od,dV,kV,dW,pm,an,cdv,ct,fS,rfl,lk,gb⟩:=F.ex;refine Z5k lk gb S len fun A outer s H vs Q E hr iZ=>?_;obtain⟨t,h,q⟩:=cn cdv A outer s H vs Q E hr iZ;exact⟨t,h.nox,q⟩
def Q6a.okD {k:Nat}  (F:Q6a K x qual st f fd)(S:Y7 N ps (C6 st))
  (cn:∀(cdv:Ad) (A:Ah) (outer:M Env) (s:Ae) (H:Hp) (E:XK),F8 k (A.deeper (envOfC qual (C6 st) s.heap.objs.size f cdv)) ->
   ∃ws,A7 (U5 J7 P w K mg base N qual (C6 st) f cdv A outer s H E).nox H (N3 st) ws /\
    ∀rs r,rs.length=ps.length->sp rs r->ws {nx:=fun _=>r=.st .non,rt:=fun r'=>r'=r,bk:=fun _=>False,ct:=fun _=>False} (E8 N rs)):
  S7 P w K mg base J7 (k+1) f fd ps (Q4m K ps.length sp):=by
 refine F.ok S (fun vs H Q E h=>?_) (fun cdv A outer s H vs Q E hr h=>?_)
 ·obtain⟨rs,r,hl,al,_⟩:=h;rw[<-al.length];exact hl
 obtain⟨rs,r,hl,al,ok,h1,h2⟩:=h;obtain⟨ws,hd,hw⟩:=cn cdv A outer s H E hr;refine⟨_,hd.ps,E8 N rs,Z1x al ok,?_⟩;have hw:=hw (rs.map nrm) r (by rw[ag];exact hl) h1;rw[Z2p]at hw;refine hd.mono _ _ _ ⟨fun τ h σ H' _ hR=>?_,fun r' h v H' sm ir=>?_,fun _ h=>False.elim h,fun _ h=>False.elim h⟩ hw
 ·have h:r=.st .non:=h;subst h;exact h2 .non H' hR.same (Q7s (K:=K) (H:=H'))
 ·have h:r'=r:=h;subst h;exact h2 v H' sm ir
end
structure DfO (K:Fg9)(mg:Str->Ac Ad)(name:Str)(st:Al)(ps:M Str)(z:Int)(f:Af)(fd:Ai):Prop where
 F:Q6a K name name st f fd
 b:∃t,U3 K fd ps [.int z t]
 k:PySem.W.keepIn K (.ref f)=true
 m:mg name=some (.ref f)
section
variable {w:Ak}{K:Fg9}
def DfO.ok {z:Int}{k:Nat}  {ws:WS}(F:DfO K mg x st ps z f fd)(S:Y7 N ps (C6 st))
  (cn:∀(cdv:Ad) (A:Ah) (outer:M Env) (s:Ae) (H:Hp) (E:XK),F8 k (A.deeper (envOfC x (C6 st) s.heap.objs.size f cdv))->A7 (U5 J7 P w K mg base N x (C6 st) f cdv A outer s H E).nox H (N3 st) ws)
  (hr:∀rs r,rs.length=ps.length->sp rs r->ws (V1 r) (E8 N rs)):FnD P w K mg base (k+1) f fd ps sp:=
 Q6a.okD F.F S fun cdv A outer s H E nY=>⟨ws,cn cdv A outer s H E nY,hr⟩
end
section
variable {es:M Ag}{k:Nat}{z:Int}
theorem O5.snoc {K:Fg9}  {r:R}{v:V}(h:F7 K H0 H r v):∀{rs:M R}{vs:M V},O5 K H0 H rs vs->O5 K H0 H (rs++[r]) (vs++[v])
 |[],vs,q=>by
  have q:vs=[]:=q;subst q;exact⟨v,[],rfl,h,rfl⟩
 |a::rs,vs,q=>by
  obtain⟨v',v4,rfl,h1,h2⟩:=q;exact⟨v',v4++[v],rfl,h1,O5.snoc h h2⟩
def Z9f (z:Int)(sp:F4)(wr:WA):WE:=fun τ Q=>wr τ fun rs=>rs.all P0=true/\∃r,sp (rs.map nrm++[.st (.int z)]) r/\Q r
def W2g (F:S7 X.prog X.w X.K X.mg X.base J7 k f fd ps (Q4m X.K ((e::es).length+1) sp))(hr:F8 k X.A)(hg:Gl X x)(hm:X.mg x=some (.ref f))(hk:PySem.W.keepIn X.K (.ref f)=true)(hb:∃t,U3 X.K fd ps [.int z t])
  (ha:DA X H0 (e::es) wr) (ga:(x==("__debug__":Str))=false:=by decide) (he:?I:=by rfl) (hpl:?S:=by rfl):
  DE X H0 (.Call (.Name x p) (e::es) [] pos) (Z9f z sp wr) where
 mono:=fun τ P Q f h=>ha.mono τ _ _ (fun rs⟨ok,r,h1,h2⟩=>⟨ok,r,h1,f r h2⟩) h
 pe:=by
  obtain⟨t,hb⟩:=hb;refine R0 (Z7h F hr hg hm hk hb (dvs:=[V.int z]) (.cons ⟨t,rfl⟩ .nil) Z1u ha.pa ga he hpl) fun σ H Q ⟨τ,hR,h⟩=>⟨τ,hR,ha.mono τ _ _ (fun rs ⟨mH,ok,r,h1,h2⟩ vs H1 s1 dA=>?_) (ha.len τ _ h)⟩
  refine⟨rs++[.st (.int z)],r,by rw[aq,mH];rfl,dA.v.snoc ?_,by rw[List.all_append,ok];rfl,by rw[aW];exact h1,fun v H' s2 ir=>h2 v H' (s1.trans s2) (ir.older s1)⟩;exact Q1m (K:=X.K) (H:=H1)
@[simp] theorem V6u {Q:R->Prop}:Z9f z sp wr τ Q=wr τ fun rs=>rs.all P0=true/\∃r,sp (rs.map nrm++[.st (.int z)]) r/\Q r:=rfl
end
section
variable {a:Ag}{es:M Ag}{k l:Nat}
def DE.cl (F:S7 X.prog X.w X.K X.mg X.base J7 l f fd ps (Q4m X.K (e::es).length sp))(hr:F8 k X.A)(D:Df X.K X.mg x st ps f fd)(ha:DA X H0 (e::es) wr)(hl:l<=k:=by decide)(hg:Gl X x:=by rfl)
  (ga:(x==("__debug__":Str))=false:=by decide) (he:?I:=by rfl) (hpl:?S:=by rfl):
  DE X H0 (.Call (.Name x p) (e::es) [] pos) (L7 sp wr):=DE.call F (hr.mono hl) hg D.m D.k D.b ha ga he hpl
def J4 {sp:E6}(rC:T7 sp)(F:S7 X.prog X.w X.K X.mg X.base J7 l f fd ps (Q6s X.K ts (e::es).length sp))(hr:F8 k X.A)(hT:Q3b ts H0)(D:Df X.K X.mg x st ps f fd)(ha:DA X H0 (e::es) wr)(hl:l<=k:=by decide)(hg:Gl X x:=by rfl)
  (ga:(x==("__debug__":Str))=false:=by decide) (he:?I:=by rfl) (hpl:?S:=by rfl):
  DE X H0 (.Call (.Name x p) (e::es) [] pos) (E4 sp wr):=W2h rC F (hr.mono hl) hT hg D.m D.k D.b ha ga he hpl
def DE.v (i:Nat)(hN:X.N[i]?=some x:=by rfl)(hv:Vis X.env.scope x:=by first |exact Or.inl rfl |exact Or.inr (Or.inl rfl) |exact Or.inr (Or.inr rfl))(hd:(x==("__debug__":Str))=false:=by decide)
  (gb:(x==("__classdict__":Str))=false:=by decide):DE X H0 (.Name x pos) (wV i):=W2o (pv i hN hv hd gb)
def DA.one (ha:DE X H0 a wa)(hs:starEach [a] X.env=(false,eval a X.env)::starEach [] X.env:=by rfl):DA X H0 [a] (A0 wa A2):=DA.cons ha DA.nil hs
def O8 (i:Nat)(he:DE X H0 e wa)(hN:X.N.Nodup)(hi:X.N[i]?=some x:=by rfl)(hx:Loc X.env.scope x:=by first |exact Or.inl rfl |exact Or.inr rfl)(hs:swapsWith e (some (.Name x p)) pos.line X.env=pure false:=by rfl)
  (hf:?K:=by sleep 1):DS X H0 (.Assign [.Name x p] e pos) (C4 i wa):=DS.set he hN hi hx hs hf
def scB (N P:M Str)(sc:Scope):Bool:=decide (sc.kind=.function)&&!sc.isCoroutine&&!sc.isGenerator&&decide N.Nodup&&decide (N.take P.length=P)&&P.all (fun x=>decide (sc.names.lookup x=some .local)||decide (sc.names.lookup x=some .cell))&&sc.names.all (fun y=>decide (y.2≠.free))
def Q3s {P:M Str}  (h:scB N P sc=true):Y7 N P sc:=by
 unfold scB at h;simp only[cy,ym,cf,Bool.or_eq_true,Bool.not_eq_true']at h;obtain⟨⟨⟨⟨⟨⟨h1,h2⟩,h3⟩,h4⟩,h5⟩,h6⟩,h7⟩:=h;exact⟨h1,h2,h3,h4,h5,h6,h7⟩
def Y2t:bootBuiltins "len"=some (.builtin "len"):=?E
def W5l:bootBuiltins "tuple"=some (.type "tuple"):=?E
def DE.len (hm:X.mg "len"=none)(ha:DE X H0 a wa)(hg:Gl X "len":=by rfl)(hs:starEach [a] X.env=(false,eval a X.env)::starEach [] X.env:=by rfl)(hpl:(backTo pos (starEach [] X.env)).any (·.1)=false:=by rfl):DE X H0 (.Call (.Name "len" p) [a] [] pos) (D4 E3 (A0 wa A2)):=
 Q2c W5s W9o hg hm Y2t (DA.cons ha DA.nil hs) (he:=hs) (hpl:=hpl)
def Q5y (hm:X.mg "tuple"=none)(ha:DE X H0 a wa)(hg:Gl X "tuple":=by rfl)(hs:starEach [a] X.env=(false,eval a X.env)::starEach [] X.env:=by rfl)(hpl:(backTo pos (starEach [] X.env)).any (·.1)=false:=by rfl):DE X H0 (.Call (.Name "tuple" p) [a] [] pos) (D4 U8 (A0 wa A2)):=
 Y0s W5x J0e hg hm W5l (DA.cons ha DA.nil hs) (he:=hs) (hpl:=hpl)
end
def Hr (K:Fg9)(n:Str)(st:Al)(f:Af)(fd:Ai):Prop:=PySem.W.nsIn K mainGlobals n=some (some (.ref f))/\Fun K n n st f fd
def HrC (K:Fg9)(n:Str)(st:Al)(f:Af)(fd:Ai)(c Pt:Af)(ts:M Af):Prop:=PySem.W.nsIn K mainGlobals n=some (some (.ref f))/\PySem.W.keepIn K (.ref f)=true /\
 (∃(oc:Ad) (od:Ac Af) (kV dW pm:Ad) (an:Ac Af) (ct:Ad) (fS:Array (Ac Ad)),fd=PySem.W.fnOf n n (Y1 st) (N3 st) (C6 st) .none kV dW pm an (.ref c) ct/\K.lookup f=some ⟨oc,od,.func fd,fS⟩/\PySem.W.codeIn K (.ref c) n=true) /\
 (∃(vo:Ad) (vd:Ac Af) (vv:Array Ad) (vs:Array (Ac Ad)),K.lookup c=some ⟨vo,vd,.fields vv,vs⟩/\vv[11]?=some (.ref Pt))/\PySem.W.codeHdIn K c Pt=true/\K.lookup Pt=none/\Pt∈ts
section
variable {K:Fg9}{n:Str}{c:Af}
def W7v {kV:Ad}(a:PySem.W.nsIn K mainGlobals n=some (some (.ref f)))(l:K.lookup f=some ⟨oc,od,.func (PySem.W.fnOf n n (Y1 st) (N3 st) (C6 st) .none kV dW pm an cdv ct),fS⟩)(q:PySem.W.codeIn K cdv n=true)(k:PySem.W.keepIn K (.ref f)=true):
  Hr K n st f (PySem.W.fnOf n n (Y1 st) (N3 st) (C6 st) .none kV dW pm an cdv ct):=⟨a,W7l l q k⟩
def W7w {vo:Ad}{vd:Ac Af}{vs:Array (Ac Ad)}{kV:Ad}{vv:Array Ad}(a:PySem.W.nsIn K mainGlobals n=some (some (.ref f)))(l:K.lookup f=some ⟨oc,od,.func (PySem.W.fnOf n n (Y1 st) (N3 st) (C6 st) .none kV dW pm an (.ref c) ct),fS⟩)(q:PySem.W.codeIn K (.ref c) n=true)(k:PySem.W.keepIn K (.ref f)=true)
  (v:K.lookup c=some ⟨vo,vd,.fields vv,vs⟩) (p:vv[11]?=some (.ref Pt)) (e:PySem.W.codeHdIn K c Pt=true) (o:K.lookup Pt=none) (m:Pt∈ts):HrC K n st f (PySem.W.fnOf n n (Y1 st) (N3 st) (C6 st) .none kV dW pm an (.ref c) ct) c Pt ts:=
 ⟨a,k,⟨_,_,_,_,_,_,_,_,rfl,l,q⟩,⟨_,_,_,_,v,p⟩,e,o,m⟩
def Hr.df (H:Hr K n st f fd)(X:K.In h)(G:h.Ns mainGlobals mg)(hb:∀(kV dW pm:Ad) (an:Ac Af) (cdv ct:Ad) (us:M Ad),us.length=ps.length->bindArgs (PySem.W.fnOf n n (Y1 st) (N3 st) (C6 st) .none kV dW pm an cdv ct) ⟨us,[]⟩=pure (ps.zip us)):Df K mg n st ps f fd:=
 ⟨H.2,H.2.binds hb,H.2.kp,gX X G H.1⟩
def HrC.hr (H:HrC K n st f fd c Pt ts):Hr K n st f fd:=let ⟨a,k,⟨oc,od,kV,dW,pm,an,ct,fS,e,l,q⟩,_⟩:=H;⟨a,⟨oc,od,kV,dW,pm,an,_,ct,fS,e,l,q⟩,k⟩
def HrC.fc (H:HrC K n st f fd c Pt ts):Q0n K n n st f fd c Pt:=let ⟨_,_,e,_,q,_⟩:=H;⟨e,q⟩
def HrC.tb (H:HrC K n st f fd c Pt ts):Pt∈ts:=let ⟨_,_,_,_,_,_,m⟩:=H;m
def HrC.at (H:HrC K n st f fd c Pt ts):(∃c,PySem.W.codeHdIn K c Pt=true)/\K.lookup Pt=none:=let ⟨_,_,_,_,q,n,_⟩:=H;⟨⟨_,q⟩,n⟩
end
@[elab_as_elim] theorem lst1 {P:M α->Prop}(us:M α)(hl:us.length=1)(h:∀a,P [a]):P us:=by
 obtain⟨a,rfl⟩:=List.length_eq_one_iff.mp hl;exact h a
@[elab_as_elim] theorem lst2 {P:M α->Prop}(us:M α)(hl:us.length=2)(h:∀a b,P [a,b]):P us:=by
 cases us with
 |nil=>cases hl
 |cons a us=>exact @lst1 α (fun l=>P (a::l)) us (nC hl) (h a)
@[elab_as_elim] theorem lst3 {P:M α->Prop}(us:M α)(hl:us.length=3)(h:∀a b c,P [a,b,c]):P us:=by
 cases us with
 |nil=>cases hl
 |cons a us=>exact @lst2 α (fun l=>P (a::l)) us (nC hl) (h a)
@[elab_as_elim] theorem lst4 {P:M α->Prop}(us:M α)(hl:us.length=4)(h:∀a b c d,P [a,b,c,d]):P us:=by
 cases us with
 |nil=>cases hl
 |cons a us=>exact @lst3 α (fun l=>P (a::l)) us (nC hl) (h a)
def HrO (K:Fg9)(n:Str)(st:Al)(z:Int)(f:Af)(fd:Ai):Prop:=PySem.W.nsIn K mainGlobals n=some (some (.ref f))/\PySem.W.keepIn K (.ref f)=true /\
 ∃(oc:Ad) (od:Ac Af) (kV dW pm:Ad) (an:Ac Af) (cdv ct:Ad) (fS:Array (Ac Ad)) (dT:Af) (dC:Ad) (dD:Ac Af) (dN:Nat) (dS:Array (Ac Ad)) (t:Tok),
  fd=PySem.W.fnOf n n (Y1 st) (N3 st) (C6 st) (.ref dT) kV dW pm an cdv ct/\K.lookup f=some ⟨oc,od,.func fd,fS⟩/\PySem.W.codeIn K cdv n=true/\K.lookup dT=some ⟨dC,dD,.seq #[.int z t] dN,dS⟩
section
variable {K:Fg9}{n:Str}{z:Int}
def W7x {kV:Ad}{dT:Af}{dC:Ad}{dD:Ac Af}{dN:Nat}  {t:Tok}(a:PySem.W.nsIn K mainGlobals n=some (some (.ref f)))
  (l:K.lookup f=some ⟨oc,od,.func (PySem.W.fnOf n n (Y1 st) (N3 st) (C6 st) (.ref dT) kV dW pm an cdv ct),fS⟩) (q:PySem.W.codeIn K cdv n=true) (k:PySem.W.keepIn K (.ref f)=true) (d:K.lookup dT=some ⟨dC,dD,.seq #[.int z t] dN,dS⟩):
  HrO K n st z f (PySem.W.fnOf n n (Y1 st) (N3 st) (C6 st) (.ref dT) kV dW pm an cdv ct):=⟨a,k,_,_,_,_,_,_,_,_,_,_,_,_,_,_,_,rfl,l,q,d⟩
def HrO.df (H:HrO K n st z f fd)(X:K.In h)(G:h.Ns mainGlobals mg)
  (hb:∀(kV dW pm:Ad) (an:Ac Af) (cdv ct:Ad) (dT:Af) (dC:Ad) (dD:Ac Af) (dN:Nat) (dS:Array (Ac Ad)) (t:Tok),K.lookup dT=some ⟨dC,dD,.seq #[.int z t] dN,dS⟩->U3 K (PySem.W.fnOf n n (Y1 st) (N3 st) (C6 st) (.ref dT) kV dW pm an cdv ct) ps [.int z t]):DfO K mg n st ps z f fd:=by
 obtain⟨a,k,oc,od,kV,dW,pm,an,cdv,ct,fS,dT,dC,dD,dN,dS,t,rfl,l,q,d⟩:=H;exact⟨⟨⟨_,_,_,_,_,_,_,_,_,_,rfl,l,q⟩⟩,⟨t,hb _ _ _ _ _ _ _ _ _ _ _ _ d⟩,k,gX X G a⟩
end
def V9q (h:Q3b ts H)(s:A5 H H1):Q3b ts H1:=fun Pt hp=>s _ _ (h Pt hp)
section
variable [DecidableEq α]
def S8 (ks:M α)(g:α):M α:=if g∈ks then ks else ks++[g]
def Z4k {ks:M α}{g:α}(h:g∈ks):S8 ks g=ks:=aP h
def Z4l {ks:M α}{g:α}(h:g∉ks):S8 ks g=ks++[g]:=aK h
theorem W5a (ks:M α)(g:α):ks <+: S8 ks g:=by grind [S8,bC,cB]
theorem Y5x {ks:M α}{g x:α}:x∈S8 ks g ↔ x∈ks\/x=g:=by grind [S8,aO,aG]
theorem V1c {ks:M α}{g:α}(h:ks.Nodup):(S8 ks g).Nodup:=by grind [S8,aG]
theorem Z5w {ks ls:M α}{g:α}(p:ks <+: ls)(h:g∈ks):ls.idxOf g=ks.idxOf g:=by
 obtain⟨t,rfl⟩:=p;rw[ft,aP h]
def G9 (st:Nat->α):?P->M α->?P->M α×?P
 |[],ks,r=>(ks,r)
 |c::cs,ks,r=>G9 st cs (S8 ks (st c)) (r++[(S8 ks (st c)).idxOf (st c)])
theorem Q6z (st:Nat->α):∀(cs:?P) (ks:M α) (r:?P),ks <+: (G9 st cs ks r).1
 |[],ks,r=>bC _
 |c::cs,ks,r=>(W5a ks (st c)).trans (Q6z st cs _ _)
theorem Y8c (st:Nat->α):∀(cs:?P) (ks:M α) (r:?P),ks.Nodup->(G9 st cs ks r).1.Nodup
 |[],ks,r,h=>h
 |c::cs,ks,r,h=>Y8c st cs _ _ (V1c h)
theorem Y6d (st:Nat->α){x:α}:∀(cs:?P) (ks:M α) (r:?P),x∈(G9 st cs ks r).1 ↔ x∈ks\/∃c∈cs,x=st c:=by intro cs;induction cs<;>grind [G9,Y5x]
theorem Z7s (st:Nat->α):∀(cs:?P) (ks:M α) (r:?P),(G9 st cs ks r).2=r++cs.map fun c=>(G9 st cs ks r).1.idxOf (st c):=by intro cs;induction cs<;>grind [G9,S8,Z5w,Q6z,ax,bN]
abbrev B4:?P:=[0,1,2,3]
def Q0 (step:α->Nat->α):Nat->M α->?O->M α×?O
 |0,ks,rs=>(ks,rs)
 |n+1,ks,rs=>match ks[rs.length]? with
  |none=>(ks,rs)
  |some k=>Q0 step n (G9 (step k) B4 ks []).1 (rs++[(G9 (step k) B4 ks []).2])
structure Z9 (step:α->Nat->α)(start:α)(U:M α)(ks:M α)(rs:?O):Prop where
 nd:ks.Nodup
 zero:ks[0]?=some start
 sub:∀k∈ks,k∈U
 len:rs.length<=ks.length
 row:∀(i:Nat) (r:?P),rs[i]?=some r->∃k,ks[i]?=some k/\(∀c∈B4,step k c∈ks)/\r=B4.map fun c=>ks.idxOf (step k c)
def Z9.start {step:α->Nat->α}{start:α}{U:M α}(h:start∈U):Z9 step start U [start] []:=
 ⟨by simp,rfl,fun k hk=>by rw[aG]at hk;exact hk▸h,by simp,fun i r e=>by simp at e⟩
def Z9.next {step:α->Nat->α}{start k:α}{U:M α}{ks:M α}  (hU:∀k∈U,∀c∈B4,step k c∈U)(W:Z9 step start U ks rs)(hk:ks[rs.length]?=some k):
  Z9 step start U (G9 (step k) B4 ks []).1 (rs++[(G9 (step k) B4 ks []).2]):=by
 have p:=Q6z (step k) B4 ks [];have kin:k∈ks:=aD hk;have get:∀{i:Nat}{x:α},ks[i]?=some x->(G9 (step k) B4 ks []).1[i]?=some x:=fun {i x} e=>by
  obtain⟨t,ht⟩:=p;rw[<-ht,aI]
  ·exact e
  ·obtain⟨h,_⟩:=aM.mp e;exact h
 have lt:rs.length<ks.length:=by obtain⟨h,_⟩:=aM.mp hk;exact h
 refine⟨Y8c _ _ _ _ W.nd,get W.zero,fun x hx=>?_,?_,fun i r e=>?_⟩
 ·rcases (Y6d _ _ _ _).mp hx with h |⟨c,hc,rfl⟩
  ·exact W.sub x h
  ·exact hU k (W.sub k kin) c hc
 ·rw[aq,bt];exact aV lt p.length_le
 ·rcases aX i rs.length with h |h
  ·rw[aI h]at e;obtain⟨k',e1,e2,e3⟩:=W.row i r e;refine⟨k',get e1,fun c hc=>p.subset (e2 c hc),?_⟩;rw[e3];exact b8 fun c hc=>(Z5w p (e2 c hc)).symm
  ·rw[aT h]at e;have:i-rs.length=0:=by
    rcases cA (i-rs.length)with z |z
    ·exact z
    ·rw[ay.mpr ?N]at e;cases e
   rw[this]at e;have e:(G9 (step k) B4 ks []).2=r:=az e;refine⟨k,get (by rw[show i=rs.length by omega];exact hk),fun c hc=>(Y6d _ _ _ _).mpr (.inr ⟨c,hc,rfl⟩),?_⟩;rw[<-e,Z7s,cq]
def Z9.bound {step:α->Nat->α}{start:α}{U:M α}{ks:M α}  (W:Z9 step start U ks rs):ks.length<=U.length:=W.nd.length_le_of_subset fun x hx=>W.sub x hx
theorem W1v {step:α->Nat->α}{start:α}{U:M α}(hU:∀k∈U,∀c∈B4,step k c∈U):∀(n:Nat) (ks:M α) (rs:?O),Z9 step start U ks rs->U.length<=n+rs.length ->
  Z9 step start U (Q0 step n ks rs).1 (Q0 step n ks rs).2/\(Q0 step n ks rs).2.length=(Q0 step n ks rs).1.length
 |0,ks,rs,W,h=>⟨W,by have:=W.bound;have:=W.len;simp[Q0];omega⟩
 |n+1,ks,rs,W,h=>by
  unfold Q0;split
  ·rename_i e;have:=ay.mp e;exact⟨W,by have:=W.len;simp;omega⟩
  ·rename_i k e;exact W1v hU n _ _ (W.next hU e) ?N
structure Q2e (step:α->Nat->α)(start:α)(U ks:M α)(rs:?O):Prop where
 nd:ks.Nodup
 zero:ks[0]?=some start
 sub:∀k∈ks,k∈U
 len:rs.length=ks.length
 mem:∀k∈ks,∀c∈B4,step k c∈ks
 row:∀(i:Nat) (k:α),ks[i]?=some k->rs[i]?=some (B4.map fun c=>ks.idxOf (step k c))
def W8 (N:Nat)(step:α->Nat->α)(start:α):M α×?O:=Q0 step N [start] []
def Q5w {step:α->Nat->α}{start:α}{U:M α}{N:Nat}(hU:∀k∈U,∀c∈B4,step k c∈U)(hs:start∈U)(hN:U.length<=N):Q2e step start U (W8 N step start).1 (W8 N step start).2:=by
 unfold W8;obtain⟨W,e⟩:=W1v hU N [start] [] (Z9.start hs) (by simpa using hN);refine⟨W.nd,W.zero,W.sub,e,fun k hk c hc=>?_,fun i k hk=>?_⟩
 ·obtain⟨i,hi,rfl⟩:=bn.mp hk;have ii:i<(Q0 step N [start] []).2.length:=by rw[e];exact hi
  obtain⟨k',e1,e2,_⟩:=W.row i _ (aa ii);rw[aa hi]at e1;cases e1;exact e2 c hc
 ·obtain⟨hi,rfl⟩:=aM.mp hk;have ii:i<(Q0 step N [start] []).2.length:=by rw[e];exact hi
  obtain⟨k',e1,_,e3⟩:=W.row i _ (aa ii);have gi:(Q0 step N [start] []).1[i]?=some k':=e1;rw[aa hi]at gi;cases gi;rw[aa ii,e3]
section
variable [DecidableEq κ]{key:α->κ}
def N5 (key:α->κ)(L:M (α×D)):M (κ×D):=L.map fun p=>(key p.1,p.2)
theorem Q3j (inj:∀a b,key a=key b->a=b)(L:M (α×D))(g:α):G5 (N5 key L) (key g)=G5 L g:=by induction L<;>grind [G5,N5,ax,bA]
theorem Z2u {L:M (α×D)}{g:α}:(G5 L g).isSome=decide (g∈L.map (·.1)):=by grind [G5]
theorem Z1b (inj:∀a b,key a=key b->a=b){L:M (α×D)}{g:α}(h:g∉L.map (·.1))(d:D):R1 (N5 key L) (key g) d=N5 key (L++[(g,d)]):=by grind [R1,N5,List.any_eq_true]
theorem W0s {L:M (α×D)}(nd:(L.map (·.1)).Nodup){g:α}{d:D}(h:(g,d)∈L):G5 L g=some d:=by induction L<;>grind [ax,bq,G5,bA]
def Q4 (ks:M α):M (α×D):=ks.zipIdx.map fun p=>(p.1,D.int (p.2:Int))
def Z1m (ks:M α):(Q4 ks).map (·.1)=ks:=by
 unfold Q4;rw[aJ];exact List.zipIdx_map_fst 0 ks
def Y6t (ks:M α)(g:α):Q4 (ks++[g])=Q4 ks++[(g,D.int (ks.length:Int))]:=by
 unfold Q4;rw[List.zipIdx_append];simp
def Z1n {ks:M α}{g:α}(h:g∈ks):G5 (Q4 ks) g=some (.int (ks.idxOf g:Nat)):=by
 have key:∀(ks:M α) (n:Nat),g∈ks->G5 (ks.zipIdx n |>.map fun p=>(p.1,D.int (p.2:Int))) g=some (.int ((n+ks.idxOf g:Nat):Int)):=by
  intro ks
  induction ks with
  |nil=>intro n h;cases h
  |cons k ks ih=>
   intro n h;unfold G5 at ih ⊢;rw[cL,ax,bA]
   by_cases e:k=g
   ·subst e;simp
   ·have hg:g∈ks:=by
     rcases au.mp h with z |z
     ·exact absurd z.symm e
     ·exact z
    simp only[e,decide_false];rw[ih (n+1) hg,List.idxOf_cons];have e':(k==g)=false:=by simp[e]
    rw[e'];simp;omega
 have:=key ks 0 h;rw[cZ]at this;exact this
end
end
abbrev W4t:M Str:=["start","step","keys","numbers","rows","key","row","column","goal"]
def Y0c (dZ:O6)  :WS:=(A6 (C4 2 (K0 (A0 (B1 (wV 0)) A2))) (A6 (Z9g 3 (wV 0) (wC (.int 0))) (A6 (C4 4 (K0 A2)) (A6 (Q7k 2 (Q2v (A3 (L5 fun i j=>decide (i<j)) (D4 E3 (A0 (wV 4) A2)) (D4 E3 (A0 (wV 2) A2))) (A6 (C4 5 (A3 B5 (wV 2) (D4 E3 (A0 (wV 4) A2)))) (A6 (C4 6 (K0 A2)) (A6 (L3 (Q1r (A0 (D4 E3 (A0 (wC (.str "01ab")) A2)) A2)) (A9 7) (A6 (C4 8 (Q0z dZ 2 1 (A0 (wV 5) (A0 (wV 7) A2)))) (A6 (L8 (Z2z 3 (wV 8)) (A6 (Z3a 3 (wV 8) (D4 E3 (A0 (wV 2) A2))) (O4 2 (B1 (wV 8)))) L9) (O4 6 (B1 (Z2y 3 (wV 8))))))) (O4 4 (B1 (D4 U8 (A0 (wV 6) A2))))))))) (G2 (Q0l (A0 (B1 (wV 2)) (A0 (B1 (D4 U8 (A0 (wV 4) A2))) A2))))))))
abbrev W4u:M Str:=["start","step","keys","numbers","rows","key","row","column","goal"]
def Y0d (dZ:O6)  :WS:=(A6 (C4 2 (K0 (A0 (B1 (wV 0)) A2))) (A6 (Z3d 3 (wV 0) (wC (.int 0))) (A6 (C4 4 (K0 A2)) (A6 (Q7k 2 (Q2v (A3 (L5 fun i j=>decide (i<j)) (D4 E3 (A0 (wV 4) A2)) (D4 E3 (A0 (wV 2) A2))) (A6 (C4 5 (A3 B5 (wV 2) (D4 E3 (A0 (wV 4) A2)))) (A6 (C4 6 (K0 A2)) (A6 (L3 (Q1r (A0 (D4 E3 (A0 (wC (.str "01ab")) A2)) A2)) (A9 7) (A6 (C4 8 (Q0z dZ 2 1 (A0 (wV 5) (A0 (wV 7) A2)))) (A6 (L8 (Q4x 3 (wV 8)) (A6 (Q4y 3 (wV 8) (D4 E3 (A0 (wV 2) A2))) (O4 2 (B1 (wV 8)))) L9) (O4 6 (B1 (Q2t 3 (wV 8))))))) (O4 4 (B1 (D4 U8 (A0 (wV 6) A2))))))))) (G2 (Q0l (A0 (B1 (wV 2)) (A0 (B1 (D4 U8 (A0 (wV 4) A2))) A2))))))))
abbrev Y1m:M Str:=["some","onward","reached","states","place","state","goal"]
def W1a (K:Fg9):WS:=(A6 (Z9k 2 1 [] (Q1g (wV 0)) (A9 0) (wV 0) (B1 (wC (.int 0)))) (A6 (C4 3 (D4 Q5m (A0 (wV 2) A2))) (A6 (C4 4 (wC (.int 0))) (A6 (Q2v (A3 (L5 fun i j=>decide (i<j)) (wV 4) (D4 E3 (A0 (wV 3) A2))) (A6 (C4 5 (A3 B5 (wV 3) (wV 4))) (A6 (L3 (Q3h (B1 (A3 B5 (wV 1) (wV 5)))) (A9 6) (L8 (Q4x 2 (wV 6)) (A6 (Q4y 2 (wV 6) (A3 F9 (Q2t 2 (wV 5)) (wC (.int 1)))) (O4 3 (B1 (wV 6)))) L9)) (Q7h 4 (P6 NoC fun i j=>i+j) (wC (.int 1)))))) (Z9s K 2)))))
abbrev Q9z:M Str:=["ends","rows","wanted","backward","state","row","goal","reached"]
def W1c (K:Fg9)(sp_all_reached:E6):WS:=(A6 (Z9m 3 1 [] (jOr (Q1s (wV 1)) (Q1g (wV 1))) (A9 0) (K0 A2)) (A6 (Z9j 3 (L3 (iOr (Q6o (A0 (wV 1) A2)) (Q8k (A0 (wV 1) A2))) (K8 2 (E1 (A9 4) (E1 (A9 5) L0))) (L3 (Z5v (wV 5)) (A9 6) (Q9o 3 (wV 6) (B1 (wV 4)))))) (A6 (Z9t 7 (E4 sp_all_reached (A0 (M8 2 [2] (Z0z (A0 (wV 0) A2)) (K8 2 (E1 (A9 0) (E1 (A9 1) L0))) (A3 (J5 60 false) (wV 1) (wV 2)) (B1 (wV 0))) (A0 (wV 3) A2)))) (G2 (M8 1 [7] (Q5l (A0 (D4 E3 (A0 (wV 0) A2)) A2)) (A9 0) P9 (B1 (Z9h K 1 (wV 0))))))))
abbrev Y1r:M Str:=["marks","numbers"]
noncomputable def W1p:WS:=(Z9p 1 (Q1g (wV 0)))
abbrev Y1x:M Str:=["ends","rows","blocks","many"]
def W1u (sp_numbered:F4)(sp_distances:E6):WS:=(A6 (C4 2 (B1 (L7 sp_numbered (A0 (Z9n (A0 (E4 sp_distances (A0 (wV 0) (A0 (wV 1) (A0 (wC (.bl true)) A2)))) (A0 (E4 sp_distances (A0 (wV 0) (A0 (wV 1) (A0 (wC (.bl false)) A2)))) A2))) A2)))) (A6 (C4 3 (wC (.int 0))) (A6 (Q2v (A3 (L5 fun i j=>decide (j<=i)) (D4 Q1i (A0 (wV 2) A2)) (wV 3)) (A6 (C4 3 (A3 F9 (D4 Q1i (A0 (wV 2) A2)) (wC (.int 1)))) (C4 2 (B1 (L7 sp_numbered (A0 (M8 2 [2] (Z1a (A0 (wV 2) (A0 (wV 1) A2))) (K8 2 (E1 (A9 0) (E1 (A9 1) L0))) P9 (B1 (Q0l (A0 (B1 (wV 0)) (A0 (B1 (D4 U8 (A0 (M8 1 [2] (Q1s (wV 1)) (A9 0) P9 (B1 (A3 B5 (wV 1) (wV 0)))) A2))) A2))))) A2)))))) (Q7m 2))))
abbrev Y1p:M Str:=["ends","rows","blocks","samples","state","block","keys","fewer_rows"]
def Z3i (K:Fg9):WE:=(A3 B5 (wV 4) (A3 B5 (A3 B5 (wV 3) (Z3b K 2 (wV 0))) (wV 1)))
def Z9x (dZ:O6)  (K:Fg9)(sp_told_apart:E6)(sp_walkedK:F4):WS:=(A6 (C4 2 (B1 (E4 sp_told_apart (A0 (wV 0) (A0 (wV 1) A2))))) (A6 (Z9l 3) (A6 (Z9i K 3 (L3 (Q8k (A0 (wV 2) A2)) (K8 2 (E1 (A9 4) (E1 (A9 5) L0))) (Z3e 3 (wV 5) (wV 4)))) (A6 (Q3x (Z2x dZ 2 [("samples",3),("rows",1),("blocks",2)] (Z3i K) sp_walkedK (A3 B5 (wV 2) (wC (.int 0)))) (K8 2 (E1 (A9 6) (E1 (A9 7) L0)))) (G2 (Q0l (A0 (B1 (D4 U8 (A0 (M8 1 [0,3] (Q1g (wV 6)) (A9 0) P9 (B1 (A3 B5 (wV 1) (Z3b K 2 (wV 0))))) A2))) (A0 (B1 (wV 7)) A2))))))))
abbrev Y1n:M Str:=["start","step","is_end","keys","rows"]
def Z9u (dZ:O6)  (sp_walked:F4)(sp_least:E6):WS:=(A6 (Q3x (L7 sp_walked (A0 (wV 0) (A0 (wV 1) A2))) (K8 2 (E1 (A9 3) (E1 (A9 4) L0)))) (G2 (E4 sp_least (A0 (M8 1 [2] (Q1g (wV 3)) (A9 0) P9 (B1 (Q0z dZ 1 1 (A0 (wV 0) A2)))) (A0 (wV 4) A2)))))
abbrev Y1u:M Str:=["one","other","rows","other_rows"]
def Z3k:WE:=(Q0l (A0 (B1 (A3 B5 (A3 B5 (wV 2) (A3 B5 (wV 0) (wC (.int 0)))) (wV 1))) (A0 (B1 (A3 B5 (A3 B5 (wV 3) (A3 B5 (wV 0) (wC (.int 1)))) (wV 1))) A2)))
def Z9d:WS:=(C4 2 (A3 B5 (wV 0) (wC (.int 1))))
def Z9e:WS:=(C4 3 (A3 B5 (wV 1) (wC (.int 1))))
abbrev Y1t:M Str:=["one","other","is_end","ends","other_ends"]
def Z3j (fT:O6):WE:=(Q0z fT 2 2 (A0 (A3 B5 (wV 3) (A3 B5 (wV 0) (wC (.int 0)))) (A0 (A3 B5 (wV 1) (A3 B5 (wV 0) (wC (.int 1)))) A2)))
def Z9c:WS:=(C4 3 (A3 B5 (wV 0) (wC (.int 0))))
def w2_pair_end:WS:=(C4 4 (A3 B5 (wV 1) (wC (.int 0))))
abbrev W4r:M Str:=["one","other","is_end"]
def Y0a (sp_built:E6)(sp_pair_step:E6)(sp_pair_end:E6):WS:=(G2 (E4 sp_built (A0 (Q0l (A0 (B1 (wC (.int 0))) (A0 (B1 (wC (.int 0))) A2))) (A0 (E4 sp_pair_step (A0 (wV 0) (A0 (wV 1) A2))) (A0 (E4 sp_pair_end (A0 (wV 0) (A0 (wV 1) (A0 (wV 2) A2)))) A2)))))
abbrev W4h:M Str:=["one","other"]
def Q9r:WE:=(Z9q (wV 0) (wV 1))
def W1d (fT:O6)  (dj:E6):WS:=(G2 (E4 dj (A0 (wV 0) (A0 (wV 1) (A0 (Q9p fT 2 (Q2 Q9r [])) A2)))))
abbrev W4g:M Str:=["one","other"]
def Q9q:WE:=(Q9n (wV 0) (wV 1))
def W1b (fT:O6)  (dj:E6):WS:=(G2 (E4 dj (A0 (wV 0) (A0 (wV 1) (A0 (Q9p fT 2 (Q2 Q9q [])) A2)))))
abbrev W4m:M Str:=["_law_script","_law_k"]
def Z9w:WS:=(A6 (L8 (A3 (J5 60 false) (wV 0) (K0 A2)) (G2 (A3 X7 (wC (.int 7)) (wV 1))) L9) (G2 (A3 F9 (A3 B5 (wV 0) (A3 (P6 (fun _ j=>0<j) fun i j=>i % j) (wV 1) (D4 E3 (A0 (wV 0) A2)))) (A3 X7 (wC (.int 6553)) (A3 (P6 Q2b fun i j=>i / j) (wV 1) (D4 E3 (A0 (wV 0) A2)))))))
abbrev W4n:M Str:=["_law_script","_law_k","_law_many","_law_cell_here"]
def W1j (i5:F4):WS:=(A6 (C4 3 (A3 (P6 (fun _ j=>0<j) fun i j=>i % j) (A3 F9 (A3 X7 (A3 (P6 (fun _ j=>0<j) fun i j=>i % j) (L7 i5 (A0 (wV 0) (A0 (wV 1) A2))) (wC (.int 2147483563))) (wC (.int 69069))) (A3 X7 (wC (.int 104723)) (A3 F9 (wV 1) (wC (.int 1))))) (wC (.int 2147483563)))) (A6 (C4 3 (A3 (P6 (fun _ j=>0<j) fun i j=>i % j) (A3 F9 (A3 X7 (wV 3) (wV 3)) (A3 (P6 Q2b fun i j=>i / j) (wV 3) (wC (.int 3)))) (wC (.int 2147483399)))) (G2 (A3 (P6 (fun _ j=>0<j) fun i j=>i % j) (A3 (P6 Q2b fun i j=>i / j) (A3 (P6 (fun _ j=>0<j) fun i j=>i % j) (A3 F9 (A3 X7 (wV 3) (wV 3)) (A3 (P6 Q2b fun i j=>i / j) (wV 3) (wC (.int 7)))) (wC (.int 2147483647))) (wC (.int 11))) (wV 2)))))
abbrev Z3z:M Str:=["_law_script","_law_at","_law_most","_law_size","_law_ends","_law_rows","_law_k"]
def W1k (e7:F4):WS:=(A6 (C4 3 (A3 F9 (wC (.int 1)) (L7 e7 (A0 (wV 0) (A0 (wV 1) (A0 (wV 2) A2)))))) (A6 (C4 4 (D4 U8 (A0 (M8 1 [0,1] (Q5l (A0 (wV 3) A2)) (A9 0) P9 (B1 (wB (A3 (J5 60 false) (L7 e7 (A0 (wV 1) (A0 (A3 F9 (A3 F9 (wV 2) (wC (.int 1))) (wV 0)) (A0 (wC (.int 2)) A2)))) (wC (.int 0)))))) A2))) (A6 (C4 5 (K0 A2)) (A6 (L3 (Q1r (A0 (wV 3) A2)) (A9 6) (O4 5 (B1 (D4 U8 (A0 (M8 1 [0,3,1,6] (Q5l (A0 (wC (.int 4)) A2)) (A9 0) P9 (B1 (L7 e7 (A0 (wV 1) (A0 (A3 F9 (A3 F9 (A3 F9 (wV 3) (wC (.int 7))) (A3 X7 (wC (.int 4)) (wV 4))) (wV 0)) (A0 (wV 2) A2)))))) A2))))) (G2 (Q0l (A0 (B1 (wV 4)) (A0 (B1 (D4 U8 (A0 (wV 5) A2))) A2))))))))
abbrev iD (n:Nat):D:=.int (n:Int)
abbrev rD (r:?P):D:=.tup (r.map iD)
abbrev rsD (rs:?O):D:=.tup (rs.map rD)
def sz (h:n<=1000000):n<=sizeLine:=aV h (?G)
def T2 (h:n<=1000000):n<sizeLine:=eQ h (?G)
theorem ixn {j:Nat}(h:j<n):ixN n (j:Int)=some j:=by grind [M4,List.range,V4,aa,bc,ixN,List.getElem_range]
section
variable [DecidableEq α]{step:α->Nat->α}
section T
variable {ts:α->M D}{key:α->M B8}
def wbT (dZ:O6):WS:=(A6 (C4 8 (Q0z dZ 2 1 (A0 (wV 5) (A0 (wV 7) A2)))) (A6 (L8 (Z2z 3 (wV 8)) (A6 (Z3a 3 (wV 8) (D4 E3 (A0 (wV 2) A2))) (O4 2 (B1 (wV 8)))) L9) (O4 6 (B1 (Z2y 3 (wV 8))))))
theorem forT (hk:∀a,X5 (ts a)=some (key a))(inj:∀a b,key a=key b->a=b)(hF:FC 2 f Φ sp){k:α}{E:F6}{o0 o4:Ac Sl}:∀(cs:?P) (ks:M α) (r:?P) (o7 o8:Ac Sl),
  (∀c∈cs,sp [.st (.tup (ts k)),.st (iD c)] (.st (.tup (ts (step k c)))))->ks.length+cs.length<=1000000->r.length+cs.length<=1000000 ->
  (∀o7 o8,E.nx [o0,some (.cl f Φ),some (.own ((G9 (step k) cs ks r).1.map fun a=>.tup (ts a))),some (.dt (N5 key (Q4 (G9 (step k) cs ks r).1))),o4,some (.dat (.tup (ts k))),some (.own ((G9 (step k) cs ks r).2.map iD)),o7,o8]) ->
  D9 (A9 7) (wbT FC) E (cs.map iD) [o0,some (.cl f Φ),some (.own (ks.map fun a=>.tup (ts a))),some (.dt (N5 key (Q4 ks))),o4,some (.dat (.tup (ts k))),some (.own (r.map iD)),o7,o8]
 |[],ks,r,o7,o8,_,_,_,h=>h o7 o8
 |c::cs,ks,r,o7,o8,hs,h1,h2,h=>by
  rw[aH]at h1 h2;have nX:=hs c ak;have ih:=fun kq r'=>forT hk inj hF (k:=k) (E:=E) (o0:=o0) (o4:=o4) cs kq r';simp only[ax,D9];have hv:=Q3j inj (Q4 ks) (step k c);have hi:(G5 (N5 key (Q4 ks)) (key (step k c))).isSome=decide (step k c∈ks):=by rw[hv,Z2u,Z1m]
  simp only[wbT,D8,L6,G6,Q7a,C1,A8,B7,Q1y,V6x,V6y,Q1l,E9,Q3r,V6v,J9];refine⟨f,Φ,sp,rfl,hF,.dat (.tup (ts k)),rfl,.dat (iD c),rfl,rfl,_,nX,?_⟩;simp only[S5];refine⟨_,rfl,_,rfl,ts (step k c),key (step k c),rfl,hk _,?_⟩;rw[hi]
  by_cases hm:step k c∈ks
  ·have ea:S8 ks (step k c)=ks:=Z4k hm;rw[aK (by simp[hm])];refine⟨_,rfl,_,rfl,_,rfl,ts (step k c),key (step k c),_,rfl,hk _,by rw[hv];exact Z1n hm,_,rfl,T2 ?N,?_⟩;have e:(r.map iD++[D.int ((ks.idxOf (step k c):Nat):Int)])=(r++[ks.idxOf (step k c)]).map iD:=by simp
   show D9 _ _ _ _ [_,_,_,_,_,_,some (.own (r.map iD++[_])),_,_];rw[e];refine ih ks _ _ _ (fun c hc=>hs c (aj _ hc)) (?A) ?N ?_;simpa only[G9,ea]using h
  ·have ea:S8 ks (step k c)=ks++[step k c]:=Z4l hm;rw[aP (by simp[hm])];refine⟨_,rfl,_,rfl,_,rfl,_,rfl,ts (step k c),key (step k c),rfl,hk _,T2 (by simp[N5,Q4];omega),?_⟩;have ep:R1 (N5 key (Q4 ks)) (key (step k c)) (.int (ks.length:Int))=N5 key (Q4 (ks++[step k c])):=by
    rw[Z1b inj (by rw[Z1m];exact hm),Y6t]
   refine⟨_,rfl,_,rfl,_,rfl,T2 ?N,?_⟩;refine⟨_,rfl,_,rfl,_,rfl,ts (step k c),key (step k c),.int (((ks++[step k c]).idxOf (step k c):Nat):Int),rfl,hk _,?_,_,rfl,T2 ?N,?_⟩
   ·rw[ag,ep,Q3j inj];exact Z1n ?H
   ·have e:(r.map iD++[D.int (((ks++[step k c]).idxOf (step k c):Nat):Int)])=(r++[(ks++[step k c]).idxOf (step k c)]).map iD:=by simp
    have e2:(ks.map fun a=>D.tup (ts a))++[D.tup (ts (step k c))]=(ks++[step k c]).map fun a=>D.tup (ts a):=by simp
    show D9 _ _ _ _ [_,_,some (.own ((ks.map fun a=>D.tup (ts a))++[D.tup (ts (step k c))])),some (.dt (R1 (N5 key (Q4 ks)) (key (step k c)) (.int ((ks.map fun a=>D.tup (ts a)).length:Int)))),_,_,some (.own (r.map iD++[_])),_,_];rw[e,e2,ag,ep];refine ih _ _ _ _ (fun c hc=>hs c (aj _ hc)) ?N ?N ?_;simpa only[G9,ea]using h
def wtT:WT:=(A3 (L5 fun i j=>decide (i<j)) (D4 E3 (A0 (wV 4) A2)) (D4 E3 (A0 (wV 2) A2)))
def wlT (dZ:O6):WS:=(A6 (C4 5 (A3 B5 (wV 2) (D4 E3 (A0 (wV 4) A2)))) (A6 (C4 6 (K0 A2)) (A6 (L3 (Q1r (A0 (D4 E3 (A0 (wC (.str "01ab")) A2)) A2)) (A9 7) (wbT dZ)) (O4 4 (B1 (D4 U8 (A0 (wV 6) A2)))))))
theorem r4:T1 0 (Int.toNat ((Str.ofString "01ab").length:Int))=B4.map iD:=rfl
theorem J0z (hk:∀a,X5 (ts a)=some (key a))(inj:∀a b,key a=key b->a=b)(hF:FC 2 f Φ sp){start:α}{U:M α}{E:F6}  (hU:∀k∈U,∀c∈B4,step k c∈U)(hl:U.length<=100000)
  (hs:∀k∈U,∀c∈B4,sp [.st (.tup (ts k)),.st (iD c)] (.st (.tup (ts (step k c))))):∀(n:Nat) (ks:M α) (rs:?O) (o5 o6 o7 o8:Ac Sl),Z9 step start U ks rs->U.length<=n+rs.length ->
  (∀o5 o6 o7 o8,E.nx [o0,some (.cl f Φ),some (.own ((Q0 step n ks rs).1.map fun a=>.tup (ts a))),some (.dt (N5 key (Q4 (Q0 step n ks rs).1))),some (.own ((Q0 step n ks rs).2.map rD)),o5,o6,o7,o8]) ->
  G8 wtT (wlT FC) (n+1) E [o0,some (.cl f Φ),some (.own (ks.map fun a=>.tup (ts a))),some (.dt (N5 key (Q4 ks))),some (.own (rs.map rD)),o5,o6,o7,o8]:=by
 intro n
 induction n with
 |zero=>
  intro ks rs o5 o6 o7 o8 W hn h;have b:=W.bound;simp only[G8,wtT,C7,J9,C1,A8,B7];sleep 2;simp only[N8,V9,V8,ag];rw[aK ?N];exact h _ _ _ _
 |succ n ih=>
  intro ks rs o5 o6 o7 o8 W hn h;have b:=W.bound;have ig:=W.len;rw[G8];simp only[wtT,C7,J9,C1,A8,B7];sleep 2;simp only[N8,V9,V8,ag]
  by_cases bW:rs.length<ks.length
  ·rw[aP (by simpa using bW)];have gi:ks[rs.length]?=some ks[rs.length]:=aa bW;have kin:=bv bW;generalize ks[rs.length]=k at gi kin;have W2:=W.next hU gi;have b2:=W2.bound;simp only[wlT,D8,G6,C7,J9,C1,A8,B7,s_lst,W0,Z2a,D6,Q1l,E9];sleep 2;simp only[N8,V9,Q0g];refine⟨.tup (ts k),by rw[ag];exact V4 (by rw[ai,gi];rfl),?_⟩;refine⟨_,rfl,sz ?H,?_⟩;rw[P7,Z7c];refine⟨sz (?G),_,rfl,?G,?G,?_⟩;rw[r4];have hW:=h;rw[Q0,gi]at hW;refine forT hk inj hF (o0:=o0) (o4:=some (.own (rs.map rD))) B4 ks [] _ _ (hs k (W.sub k kin)) ?N ?H fun o7 o8=>?_;simp only[S5,P7,Q5o,Q4p,Z1q];refine⟨_,rfl,_,rfl,_,rfl,_,rfl,T2 ?N,?_⟩;have e:rs.map rD++[D.tup ((G9 (step k) B4 ks []).2.map iD)]=(rs++[(G9 (step k) B4 ks []).2]).map rD:=by simp
   show G8 wtT (wlT FC) (n+1) E [_,_,_,_,some (.own (rs.map rD++[D.tup ((G9 (step k) B4 ks []).2.map iD)])),_,_,_,_];rw[e];exact ih _ _ _ _ _ _ W2 ?N hW
  ·rw[aK (by simpa using bW)];have e:ks[rs.length]?=none:=ay.mpr (?A);rw[Q0,e]at h;exact h _ _ _ _
def sp_walked (FC:O6):F4:=fun rs r=>∃(α:Type) (_:DecidableEq α) (ts:α->M D) (key:α->M B8) (step:α->Nat->α) (start:α) (U:M α) (f:Af) (Φ:Hp->Prop) (sp:F4),
 (∀a,X5 (ts a)=some (key a))/\(∀a b,key a=key b->a=b)/\rs=[.st (.tup (ts start)),.cl f Φ]/\FC 2 f Φ sp/\start∈U/\U.length<=100000/\(∀k∈U,∀c∈B4,step k c∈U/\sp [.st (.tup (ts k)),.st (iD c)] (.st (.tup (ts (step k c))))) /\
 r=.st (.tup [.lst ((W8 U.length step start).1.map fun a=>.tup (ts a)),rsD (W8 U.length step start).2])
def V6j:∀rs r,rs.length=2->sp_walked FC rs r->Y0c FC (V1 r) (E8 W4t rs):=by
 rintro rs r _ ⟨α,_,ts,key,step,start,U,f,Φ,sp,hk,inj,rfl,hF,hs,hl,hU,rfl⟩;have l2:(2:Nat)<=sizeLine:=?G
 unfold Y0c;simp only[D8,G6,s_lst,C1,E9,A8,B7,V6w,D6,Z7u,P8,s_tup,J9];refine⟨_,rfl,_,rfl,sz ?H,?_⟩;refine⟨_,rfl,ts start,key start,rfl,hk _,_,rfl,_,rfl,sz ?H,?_⟩;refine⟨U.length+1,?_⟩;refine J0z hk inj hF (step:=step) (start:=start) (U:=U) (fun k h c hc=>(hU k h c hc).1) hl (fun k h c hc=>(hU k h c hc).2) U.length [start] [] _ _ _ _ (Z9.start hs) ?H fun o5 o6 o7 o8=>?_;refine⟨_,rfl,_,rfl,_,rfl,?_⟩;simp only[N7,N8,Q5o,Q4p,Z1q];refine⟨_,rfl,_,rfl,l2,rfl⟩
end T
end
section
variable [DecidableEq α]{step:α->Nat->α}
section T
variable {en:α->D}{key:α->B8}
def wbK (dZ:O6):WS:=(A6 (C4 8 (Q0z dZ 2 1 (A0 (wV 5) (A0 (wV 7) A2)))) (A6 (L8 (Q4x 3 (wV 8)) (A6 (Q4y 3 (wV 8) (D4 E3 (A0 (wV 2) A2))) (O4 2 (B1 (wV 8)))) L9) (O4 6 (B1 (Q2t 3 (wV 8))))))
theorem forK (hk:∀a,Q8 (en a)=some (key a))(inj:∀a b,key a=key b->a=b)(hF:FC 2 f Φ sp){k:α}{E:F6}{o0 o4:Ac Sl}:∀(cs:?P) (ks:M α) (r:?P) (o7 o8:Ac Sl),
  (∀c∈cs,sp [.st ((en k)),.st (iD c)] (.st ((en (step k c)))))->ks.length+cs.length<=1000000->r.length+cs.length<=1000000 ->
  (∀o7 o8,E.nx [o0,some (.cl f Φ),some (.own ((G9 (step k) cs ks r).1.map fun a=>(en a))),some (.dk (N5 key (Q4 (G9 (step k) cs ks r).1))),o4,some (.dat ((en k))),some (.own ((G9 (step k) cs ks r).2.map iD)),o7,o8]) ->
  D9 (A9 7) (wbK FC) E (cs.map iD) [o0,some (.cl f Φ),some (.own (ks.map fun a=>(en a))),some (.dk (N5 key (Q4 ks))),o4,some (.dat ((en k))),some (.own (r.map iD)),o7,o8]
 |[],ks,r,o7,o8,_,_,_,h=>h o7 o8
 |c::cs,ks,r,o7,o8,hs,h1,h2,h=>by
  rw[aH]at h1 h2;have nX:=hs c ak;have ih:=fun kq r'=>forK hk inj hF (k:=k) (E:=E) (o0:=o0) (o4:=o4) cs kq r';simp only[ax,D9];have hv:=Q3j inj (Q4 ks) (step k c);have hi:(G5 (N5 key (Q4 ks)) (key (step k c))).isSome=decide (step k c∈ks):=by rw[hv,Z2u,Z1m]
  simp only[wbK,D8,L6,G6,Q7a,C1,A8,B7,Q1y,Z7v,Z7w,Q1l,E9,Q3r,Z2c,J9];refine⟨f,Φ,sp,rfl,hF,.dat ((en k)),rfl,.dat (iD c),rfl,rfl,_,nX,?_⟩;simp only[S5];refine⟨_,rfl,_,rfl,en (step k c),key (step k c),rfl,hk _,?_⟩;rw[hi]
  by_cases hm:step k c∈ks
  ·have ea:S8 ks (step k c)=ks:=Z4k hm;rw[aK (by simp[hm])];refine⟨_,rfl,_,rfl,_,rfl,en (step k c),key (step k c),_,rfl,hk _,by rw[hv];exact Z1n hm,_,rfl,T2 ?N,?_⟩;have e:(r.map iD++[D.int ((ks.idxOf (step k c):Nat):Int)])=(r++[ks.idxOf (step k c)]).map iD:=by simp
   show D9 _ _ _ _ [_,_,_,_,_,_,some (.own (r.map iD++[_])),_,_];rw[e];refine ih ks _ _ _ (fun c hc=>hs c (aj _ hc)) (?A) ?N ?_;simpa only[G9,ea]using h
  ·have ea:S8 ks (step k c)=ks++[step k c]:=Z4l hm;rw[aP (by simp[hm])];refine⟨_,rfl,_,rfl,_,rfl,_,rfl,en (step k c),key (step k c),rfl,hk _,T2 (by simp[N5,Q4];omega),?_⟩;have ep:R1 (N5 key (Q4 ks)) (key (step k c)) (.int (ks.length:Int))=N5 key (Q4 (ks++[step k c])):=by
    rw[Z1b inj (by rw[Z1m];exact hm),Y6t]
   refine⟨_,rfl,_,rfl,_,rfl,T2 ?N,?_⟩;refine⟨_,rfl,_,rfl,_,rfl,en (step k c),key (step k c),.int (((ks++[step k c]).idxOf (step k c):Nat):Int),rfl,hk _,?_,_,rfl,T2 ?N,?_⟩
   ·rw[ag,ep,Q3j inj];exact Z1n ?H
   ·have e:(r.map iD++[D.int (((ks++[step k c]).idxOf (step k c):Nat):Int)])=(r++[(ks++[step k c]).idxOf (step k c)]).map iD:=by simp
    have e2:(ks.map fun a=>en a)++[en (step k c)]=(ks++[step k c]).map fun a=>en a:=by simp
    show D9 _ _ _ _ [_,_,some (.own ((ks.map fun a=>en a)++[en (step k c)])),some (.dk (R1 (N5 key (Q4 ks)) (key (step k c)) (.int ((ks.map fun a=>en a).length:Int)))),_,_,some (.own (r.map iD++[_])),_,_];rw[e,e2,ag,ep];refine ih _ _ _ _ (fun c hc=>hs c (aj _ hc)) ?N ?N ?_;simpa only[G9,ea]using h
def wtK:WT:=(A3 (L5 fun i j=>decide (i<j)) (D4 E3 (A0 (wV 4) A2)) (D4 E3 (A0 (wV 2) A2)))
def wlK (dZ:O6):WS:=(A6 (C4 5 (A3 B5 (wV 2) (D4 E3 (A0 (wV 4) A2)))) (A6 (C4 6 (K0 A2)) (A6 (L3 (Q1r (A0 (D4 E3 (A0 (wC (.str "01ab")) A2)) A2)) (A9 7) (wbK dZ)) (O4 4 (B1 (D4 U8 (A0 (wV 6) A2)))))))
theorem J0w (hk:∀a,Q8 (en a)=some (key a))(inj:∀a b,key a=key b->a=b)(hF:FC 2 f Φ sp){start:α}{U:M α}{E:F6}  (hU:∀k∈U,∀c∈B4,step k c∈U)(hl:U.length<=100000)
  (hs:∀k∈U,∀c∈B4,sp [.st ((en k)),.st (iD c)] (.st ((en (step k c))))):∀(n:Nat) (ks:M α) (rs:?O) (o5 o6 o7 o8:Ac Sl),Z9 step start U ks rs->U.length<=n+rs.length ->
  (∀o5 o6 o7 o8,E.nx [o0,some (.cl f Φ),some (.own ((Q0 step n ks rs).1.map fun a=>(en a))),some (.dk (N5 key (Q4 (Q0 step n ks rs).1))),some (.own ((Q0 step n ks rs).2.map rD)),o5,o6,o7,o8]) ->
  G8 wtK (wlK FC) (n+1) E [o0,some (.cl f Φ),some (.own (ks.map fun a=>(en a))),some (.dk (N5 key (Q4 ks))),some (.own (rs.map rD)),o5,o6,o7,o8]:=by
 intro n
 induction n with
 |zero=>
  intro ks rs o5 o6 o7 o8 W hn h;have b:=W.bound;simp only[G8,wtK,C7,J9,C1,A8,B7];sleep 2;simp only[N8,V9,V8,ag];rw[aK ?N];exact h _ _ _ _
 |succ n ih=>
  intro ks rs o5 o6 o7 o8 W hn h;have b:=W.bound;have ig:=W.len;rw[G8];simp only[wtK,C7,J9,C1,A8,B7];sleep 2;simp only[N8,V9,V8,ag]
  by_cases bW:rs.length<ks.length
  ·rw[aP (by simpa using bW)];have gi:ks[rs.length]?=some ks[rs.length]:=aa bW;have kin:=bv bW;generalize ks[rs.length]=k at gi kin;have W2:=W.next hU gi;have b2:=W2.bound;simp only[wlK,D8,G6,C7,J9,C1,A8,B7,s_lst,W0,Z2a,D6,Q1l,E9];sleep 2;simp only[N8,V9,Q0g];refine⟨(en k),by rw[ag];exact V4 (by rw[ai,gi];rfl),?_⟩;refine⟨_,rfl,sz ?H,?_⟩;rw[P7,Z7c];refine⟨sz (?G),_,rfl,?G,?G,?_⟩;rw[r4];have hW:=h;rw[Q0,gi]at hW;refine forK hk inj hF (o0:=o0) (o4:=some (.own (rs.map rD))) B4 ks [] _ _ (hs k (W.sub k kin)) ?N ?H fun o7 o8=>?_;simp only[S5,P7,Q5o,Q4p,Z1q];refine⟨_,rfl,_,rfl,_,rfl,_,rfl,T2 ?N,?_⟩;have e:rs.map rD++[D.tup ((G9 (step k) B4 ks []).2.map iD)]=(rs++[(G9 (step k) B4 ks []).2]).map rD:=by simp
   show G8 wtK (wlK FC) (n+1) E [_,_,_,_,some (.own (rs.map rD++[D.tup ((G9 (step k) B4 ks []).2.map iD)])),_,_,_,_];rw[e];exact ih _ _ _ _ _ _ W2 ?N hW
  ·rw[aK (by simpa using bW)];have e:ks[rs.length]?=none:=ay.mpr (?A);rw[Q0,e]at h;exact h _ _ _ _
def sp_walkedK (FC:O6):F4:=fun rs r=>∃(α:Type) (_:DecidableEq α) (en:α->D) (key:α->B8) (step:α->Nat->α) (start:α) (U:M α) (f:Af) (Φ:Hp->Prop) (sp:F4),
 (∀a,Q8 (en a)=some (key a))/\(∀a b,key a=key b->a=b)/\rs=[.st ((en start)),.cl f Φ]/\FC 2 f Φ sp/\start∈U/\U.length<=100000/\(∀k∈U,∀c∈B4,step k c∈U/\sp [.st ((en k)),.st (iD c)] (.st ((en (step k c))))) /\
 r=.st (.tup [.lst ((W8 U.length step start).1.map fun a=>(en a)),rsD (W8 U.length step start).2])
def V6k:∀rs r,rs.length=2->sp_walkedK FC rs r->Y0d FC (V1 r) (E8 W4u rs):=by
 rintro rs r _ ⟨α,_,en,key,step,start,U,f,Φ,sp,hk,inj,rfl,hF,hs,hl,hU,rfl⟩;have l2:(2:Nat)<=sizeLine:=?G
 unfold Y0d;simp only[D8,G6,s_lst,C1,E9,A8,B7,Y8n,D6,Z7u,P8,s_tup,J9];refine⟨_,rfl,_,rfl,sz ?H,?_⟩;refine⟨(?G:3<9),_,rfl,en start,key start,rfl,hk _,_,rfl,_,rfl,sz ?H,?_⟩;refine⟨U.length+1,?_⟩;refine J0w hk inj hF (step:=step) (start:=start) (U:=U) (fun k h c hc=>(hU k h c hc).1) hl (fun k h c hc=>(hU k h c hc).2) U.length [start] [] _ _ _ _ (Z9.start hs) ?H fun o5 o6 o7 o8=>?_;refine⟨_,rfl,_,rfl,_,rfl,?_⟩;simp only[N7,N8,Q5o,Q4p,Z1q];refine⟨_,rfl,_,rfl,l2,rfl⟩
end T
end
abbrev ik (n:Nat):B8:=.inl (n:Int)
theorem Q4j (a b:Nat)(h:ik a=ik b):a=b:=by
 have:(a:Int)=(b:Int):=Sum.inl.inj h;omega
abbrev kR (R:M (Nat×Nat)):M (B8×D):=N5 ik (R.map fun q=>(q.1,iD q.2))
def Q7 (R:M (Nat×Nat))(g d:Nat):M (Nat×Nat):=if g∈R.map (·.1)then R else R++[(g,d)]
def goR (d:Nat):?P->M (Nat×Nat)->M (Nat×Nat)
 |[],R=>R
 |g::gs,R=>goR d gs (Q7 R g d)
def Q2n (on:?O):Nat->M (Nat×Nat)->Nat->M (Nat×Nat)
 |0,R,_=>R
 |n+1,R,p=>match R[p]? with
  |none=>R
  |some q=>Q2n on n (goR (q.2+1) (on[q.1]?.getD []) R) (p+1)
def K4 (on:?O)(xs:?P):M (Nat×Nat):=Q2n on on.length (xs.map fun x=>(x,0)) 0
def Z6g (R:M (Nat×Nat)):(R.map fun q=>(q.1,iD q.2)).map (·.1)=R.map (·.1):=by simp
theorem Y2e (R:M (Nat×Nat))(g d:Nat):R <+: Q7 R g d:=by grind [Q7,bC,cB]
theorem Z5r (d:Nat):∀(gs:?P) (R:M (Nat×Nat)),R <+: goR d gs R
 |[],R=>bC _
 |g::gs,R=>(Y2e R g d).trans (Z5r d gs _)
theorem W4z {R:M (Nat×Nat)}{g d:Nat}(h:(R.map (·.1)).Nodup):((Q7 R g d).map (·.1)).Nodup:=by grind [Q7,aW,bg]
theorem Y4n {d:Nat}:∀(gs:?P) (R:M (Nat×Nat)),(R.map (·.1)).Nodup->((goR d gs R).map (·.1)).Nodup
 |[],R,h=>h
 |g::gs,R,h=>Y4n gs _ (W4z h)
theorem Z6s {R:M (Nat×Nat)}{g d:Nat}{q:Nat×Nat}(h:q∈Q7 R g d):q∈R\/q=(g,d):=by grind [Q7]
theorem Z1i {d:Nat}{q:Nat×Nat}:∀(gs:?P) (R:M (Nat×Nat)),q∈goR d gs R->q∈R\/∃g∈gs,q=(g,d)
 |[],R,h=>.inl h
 |g::gs,R,h=>by
  rcases Z1i gs _ h with h |⟨g',h1,h2⟩
  ·rcases Z6s h with h |h
   ·exact .inl h
   ·exact .inr ⟨g,by simp,h⟩
  ·exact .inr ⟨g',by simp[h1],h2⟩
structure Q2d (n:Nat)(R:M (Nat×Nat)):Prop where
 nd:(R.map (·.1)).Nodup
 lt:∀q∈R,q.1<n
def Q2d.bound {R:M (Nat×Nat)}(h:Q2d n R):R.length<=n:=by
 have:=h.nd.length_le_of_subset (l₂:=List.range n) fun x hx=>by
  obtain⟨q,hq,rfl⟩:=ar.mp hx;exact aQ.mpr (h.lt q hq)
 simpa using this
def Q2d.go {d:Nat}{R:M (Nat×Nat)}{gs:?P}(h:Q2d n R)(hg:∀g∈gs,g<n):Q2d n (goR d gs R):=
 ⟨Y4n gs R h.nd,fun q hq=>by
  rcases Z1i gs R hq with h' |⟨g,h1,rfl⟩
  ·exact h.lt q h'
  ·exact hg g h1⟩
def J0q {R:M (Nat×Nat)}(nd:(R.map (·.1)).Nodup){s d:Nat}(h:(s,d)∈R):G5 (kR R) (ik s)=some (iD d):=by
 rw[Q3j Q4j];exact W0s (by rw[Z6g];exact nd) (ar.mpr ⟨_,h,rfl⟩)
def Y5a (R:M (Nat×Nat))(g:Nat):(G5 (kR R) (ik g)).isSome=decide (g∈R.map (·.1)):=by
 rw[Q3j Q4j,Z2u,Z6g]
def Y7u {R:M (Nat×Nat)}{g d:Nat}(h:g∉R.map (·.1)):R1 (kR R) (ik g) (iD d)=kR (R++[(g,d)]):=by
 rw[Z1b Q4j (by rw[Z6g];exact h)];simp[kR]
theorem Y3r {Q:M (B8×D)->Prop}:∀(xs:?P) (R:M (Nat×Nat)) (o:Ac Sl),(R.map (·.1)++xs).Nodup->Q (kR (R++xs.map fun x=>(x,0))) ->
  Z0 (A9 0) (wV 0) (B1 (wC (.int 0))) (xs.map iD) [o] (kR R) Q
 |[],R,o,_,h=>by simpa [Z0]using h
 |x::xs,R,o,nd,h=>by
  have nx:x∉R.map (·.1):=fun z=>by
   have:=(bg.mp nd).2.2 x z x ?H;exact this rfl
  rw[ax,Z0];simp only[L6,A8,E9,D6];refine⟨_,rfl,iD x,ik x,rfl,rfl,_,rfl,?_⟩;have e:=Y7u (d:=0) nx;show Z0 _ _ _ _ _ (R1 (kR R) (ik x) (iD 0)) _;rw[e];refine Y3r xs _ _ (by simpa using nd) ?_;simpa using h
abbrev llD (on:?O):D:=.lst (on.map fun l=>.lst (l.map iD))
def wbR:WS:=(L8 (Q4x 2 (wV 6)) (A6 (Q4y 2 (wV 6) (A3 F9 (Q2t 2 (wV 5)) (wC (.int 1)))) (O4 3 (B1 (wV 6)))) L9)
theorem forR {s d:Nat}{E:F6}{o0 o1 o4:Ac Sl}(hn:n<=100000):∀(gs:?P) (R:M (Nat×Nat)) (o6:Ac Sl),Q2d n R->(s,d)∈R->(∀g∈gs,g<n) ->
  (∀o6,E.nx [o0,o1,some (.dk (kR (goR (d+1) gs R))),some (.own ((goR (d+1) gs R).map fun q=>iD q.1)),o4,some (.dat (iD s)),o6]) ->
  D9 (A9 6) wbR E (gs.map iD) [o0,o1,some (.dk (kR R)),some (.own (R.map fun q=>iD q.1)),o4,some (.dat (iD s)),o6]
 |[],R,o6,_,_,_,h=>h o6
 |g::gs,R,o6,hI,hs,hg,h=>by
  have b:=hI.bound;have ih:=forR (s:=s) (d:=d) (E:=E) (o0:=o0) (o1:=o1) (o4:=o4) hn gs;have oH:Q2d n (Q7 R g (d+1)):=hI.go (d:=d+1) (gs:=[g]) (by simpa using hg g ?H);have lG:(s,d)∈Q7 R g (d+1):=(Y2e R g (d+1)).subset hs;have b2:=oH.bound;rw[ax,D9];simp only[wbR,L6,Q1y,Z7v,A8,D8,Z7w,C7,Z2c,D6,Q1l,E9,Q3r];refine⟨_,rfl,_,rfl,iD g,ik g,rfl,rfl,?_⟩;rw[Y5a]
  by_cases hm:g∈R.map (·.1)
  ·have ea:Q7 R g (d+1)=R:=aP hm;rw[aK (by simpa using hm)];refine ih R _ hI hs (fun g' h'=>hg g' (by simp[h'])) ?_;simpa only[goR,ea]using h
  ·have ea:Q7 R g (d+1)=R++[(g,d+1)]:=aK hm;rw[aP (by simpa using hm)];refine⟨_,rfl,_,rfl,iD s,ik s,iD d,rfl,rfl,J0q hI.nd hs,?_⟩;rw[Q0f];refine⟨_,rfl,_,rfl,_,rfl,iD g,ik g,rfl,rfl,T2 (by simp[N5];omega),_,rfl,_,rfl,_,rfl,T2 ?N,?_⟩;have e1:R1 (kR R) (ik g) (.int ((d:Int)+1))=kR (Q7 R g (d+1)):=by
    rw[ea,<-Y7u hm];rfl
   have e2:(R.map fun q=>iD q.1)++[iD g]=(Q7 R g (d+1)).map fun q=>iD q.1:=by rw[ea];simp
   show D9 _ _ _ _ [_,_,some (.dk (R1 (kR R) (ik g) (.int ((d:Int)+1)))),some (.own ((R.map fun q=>iD q.1)++[iD g])),_,_,_];rw[e1,e2];exact ih _ _ oH lG (fun g' h'=>hg g' (by simp[h'])) h
def wtR:WT:=(A3 (L5 fun i j=>decide (i<j)) (wV 4) (D4 E3 (A0 (wV 3) A2)))
def wlR:WS:=(A6 (C4 5 (A3 B5 (wV 3) (wV 4))) (A6 (L3 (Q3h (B1 (A3 B5 (wV 1) (wV 5)))) (A9 6) wbR) (Q7h 4 (P6 NoC fun i j=>i+j) (wC (.int 1)))))
theorem J0y {E:F6}  (lI:∀l∈on,∀g∈l,g<on.length)(hl:on.length<=100000):∀(n:Nat) (R:M (Nat×Nat)) (p:Nat) (o5 o6:Ac Sl),Q2d on.length R->on.length<=n+p ->
  (∀o4 o5 o6,E.nx [o0,some (.dat (llD on)),some (.dk (kR (Q2n on n R p))),some (.own ((Q2n on n R p).map fun q=>iD q.1)),o4,o5,o6]) ->
  G8 wtR wlR (n+1) E [o0,some (.dat (llD on)),some (.dk (kR R)),some (.own (R.map fun q=>iD q.1)),some (.dat (iD p)),o5,o6]:=by
 intro n
 induction n with
 |zero=>
  intro R p o5 o6 hI hp h;have b:=hI.bound;simp only[G8,wtR,C7,J9,C1,A8,B7];sleep 2;simp only[N7,N8,V9,V8,ag];rw[aK ?N];exact h _ _ _
 |succ n ih=>
  intro R p o5 o6 hI hp h;have b:=hI.bound;rw[G8];simp only[wtR,C7,J9,C1,A8,B7];sleep 2;simp only[N7,N8,V9,V8,ag]
  by_cases bW:p<R.length
  ·rw[aP (by simpa using bW)];have gi:R[p]?=some R[p]:=aa bW;have kin:=bv bW;generalize R[p]=q at gi kin;obtain⟨s,d⟩:=q;have hs:s<on.length:=hI.lt _ kin;have jo:on[s]?=some on[s]:=aa hs;have mL:=lI _ (bv hs);simp only[wlR,D8,G6,C7,A8,W0,Z1z,E9,Y8g,D6];sleep 2;rw[N8,N7,Q0g];refine⟨iD s,V4 (by rw[ai,gi];rfl),_,rfl,_,rfl,?_⟩;rw[N7];simp only[N7,Q8w];refine⟨.lst (on[s].map iD),V4 (by rw[ai,jo];rfl),_,rfl,?_⟩;rw[Q2n,gi]at h;simp only[jo]at h;refine forR (n:=on.length) (d:=d) hl on[s] R _ hI kin mL fun o6=>?_;refine⟨_,rfl,trivial,?_⟩;have e:((p:Int)+1)=((p+1:Nat):Int):=?A
   show G8 wtR wlR (n+1) E [_,_,_,_,some (.dat (.int ((p:Int)+1))),_,_];rw[e];exact ih _ _ _ _ (hI.go mL) (?A) h
  ·rw[aK (by simpa using bW)];have e:R[p]?=none:=ay.mpr (?A);rw[Q2n,e]at h;exact h _ _ _
def sp_all_reached (K:Fg9):E6:=fun rs Pr=>∃(xs:?P) (on:?O),rs=[.bw (xs.map iD),.st (llD on)]/\xs.Nodup/\(∀x∈xs,x<on.length)/\(∀l∈on,∀g∈l,g<on.length)/\on.length<=100000/\∀a,Pr (.cl a (R8 K a (kR (K4 on xs))))
def V0p {K:Fg9}:T7 (sp_all_reached K):=by rintro rs P Q f ⟨xs,on,e,h1,h2,h3,h4,h5⟩;exact⟨xs,on,e,h1,h2,h3,h4,fun a=>f _ (h5 a)⟩
def V5e {K:Fg9}:∀rs Pr,rs.length=2->sp_all_reached K rs Pr->W1a K (M0 Pr) (E8 Y1m rs):=by
 rintro rs Pr _ ⟨xs,on,rfl,nd,hx,lI,hl,h⟩;have hI:Q2d on.length (xs.map fun x=>(x,0)):=⟨by simpa [fx]using nd,fun q hq=>by
  obtain⟨x,h1,rfl⟩:=ar.mp hq;exact hx x h1⟩
 have b:=hI.bound;rw[ag]at b;unfold W1a;simp only[D8,V7k,Q5r,A8,G6,J9,C1,B7,D6,V7y];refine⟨_,rfl,_,rfl,T2 ?N,?_⟩;refine Y3r xs [] _ (by simpa using nd) ?_;k_ne;have el:(kR ([]++xs.map fun x=>(x,0))).map (fun p=>kyD p.1)=((xs.map fun x=>(x,0)).map fun q=>iD q.1):=by simp[N5,kyD]
 show Q5m [.dk _] _;rw[V7q,el,cq];simp only[S5,P7];refine⟨on.length+1,?_⟩;refine J0y lI hl on.length (xs.map fun x=>(x,0)) 0 _ _ hI (?A) fun o4 o5 o6=>?_;exact⟨_,rfl,h⟩
structure Wf (es:M Bool)(rows:?O):Prop where
 len:rows.length=es.length
 pos:0<es.length
 r4:∀r∈rows,r.length=4
 lt:∀r∈rows,∀x∈r,x<es.length
def Q1a (B:?O)(g s:Nat):?O:=B.set g (B.getD g []++[s])
def Q4f (s:Nat):?P->?O->?O
 |[],B=>B
 |g::gs,B=>Q4f s gs (Q1a B g s)
def Q3c:Nat->?O->?O->?O
 |_,[],B=>B
 |s,r::rs,B=>Q3c (s+1) rs (Q4f s r B)
def G1 (rows:?O):?O:=Q3c 0 rows (rows.map fun _=>[])
abbrev lls (B:?O):M (M D):=B.map fun l=>l.map iD
theorem Z4g (B:?O)(g s:Nat):(Q1a B g s).length=B.length:=by simp[Q1a]
theorem Z0g {s:Nat}:∀(gs:?P) (B:?O),(Q4f s gs B).length=B.length
 |[],B=>rfl
 |g::gs,B=>by rw[Q4f,Z0g gs,Z4g]
theorem W5h:∀(rs:?O) (s:Nat) (B:?O),(Q3c s rs B).length=B.length:=by intro rs;induction rs<;>grind [Q3c,Z0g]
theorem Y5n (B:?O)(g:Nat):(lls B).getD g []=(B.getD g []).map iD:=by grind [av,ai]
def W9y (B:?O)(g s:Nat):(lls B).set g ((lls B).getD g []++[iD s])=lls (Q1a B g s):=by
 rw[Y5n];unfold Q1a lls;rw[List.map_set];simp
theorem Y4m {m g:Nat}(h:∀l∈B,l.length<=m):(B.getD g []).length<=m:=by grind [av,aD]
def Y2d {m g s:Nat}(h:∀l∈B,l.length<=m):∀l∈Q1a B g s,l.length<=m+1:=by
 intro l hl;rcases List.mem_or_eq_of_mem_set hl with h' |rfl
 ·exact fq (h l h')
 ·have:=Y4m (g:=g) h;rw[aq,bt];omega
theorem Y2m {s:Nat}:∀(gs:?P) (B:?O) (m:Nat),(∀l∈B,l.length<=m)->∀l∈Q4f s gs B,l.length<=m+gs.length
 |[],B,m,h=>h
 |g::gs,B,m,h=>fun l hl=>by
  have:=Y2m gs _ (m+1) (Y2d h) l hl;simp;omega
theorem V0i {g s i x:Nat}(hx:x∈(Q1a B g s).getD i []):x∈B.getD i []\/(i=g/\x=s):=by grind [Q1a,av,fu]
theorem V0k {g s i x:Nat}(hx:x∈B.getD i []):x∈(Q1a B g s).getD i []:=by grind [Q1a,av,fu,bp]
theorem V0j {g s:Nat}(hl:g<B.length):s∈(Q1a B g s).getD g []:=by grind [Q1a,av,fu,aw]
theorem V0l {s i x:Nat}:∀(gs:?P) (B:?O),(∀g∈gs,g<B.length)->(x∈(Q4f s gs B).getD i [] ↔ x∈B.getD i []\/(i∈gs/\x=s)):=by intro gs;induction gs<;>grind [Q4f,Z4g,V0i,V0k,V0j]
theorem Y5y {i x:Nat}:∀(rs:?O) (s:Nat) (B:?O),(∀r∈rs,∀g∈r,g<B.length)->(x∈(Q3c s rs B).getD i [] ↔ x∈B.getD i []\/∃j r,rs[j]?=some r/\i∈r/\x=s+j)
 |[],s,B,_=>by simp[Q3c]
 |r::rs,s,B,h=>by
  rw[Q3c,Y5y rs _ _ (fun r' h' g hg=>by rw[Z0g];exact h r' (by simp[h']) g hg),V0l _ _ (h r ?H)];constructor
  ·rintro ((h' |⟨h1,rfl⟩) |⟨j,r',e,h1,rfl⟩)
   ·exact .inl h'
   ·exact .inr ⟨0,r,rfl,h1,rfl⟩
   ·exact .inr ⟨j+1,r',by simpa using e,h1,?A⟩
  ·rintro (h' |⟨j,r',e,h1,rfl⟩)
   ·exact .inl (.inl h')
   ·cases j with
    |zero=>cases e;exact .inl (.inr ⟨h1,rfl⟩)
    |succ j=>exact .inr ⟨j,r',by simpa using e,h1,?A⟩
def Z6t (h:∀r∈rows,∀g∈r,g<rows.length){i x:Nat}:x∈(G1 rows).getD i [] ↔ ∃r,rows[x]?=some r/\i∈r:=by
 unfold G1;rw[Y5y rows 0 _ (fun r hr g hg=>by rw[ag];exact h r hr g hg)];have e0:x∉(rows.map fun _=>([]:?P)).getD i []:=by
  rw[av,ai];cases rows[i]?<;>simp
 constructor
 ·rintro (h' |⟨j,r,e,h1,rfl⟩)
  ·exact absurd h' e0
  ·exact⟨r,by rw[cZ];exact e,h1⟩
 ·rintro ⟨r,e,h1⟩;exact .inr ⟨x,r,e,h1,?A⟩
def Z0f (rows:?O):(G1 rows).length=rows.length:=by simp[G1,W5h]
def Y2l (h:∀r∈rows,∀g∈r,g<rows.length):∀l∈G1 rows,∀x∈l,x<(G1 rows).length:=by
 intro l hl x hx;obtain⟨i,hi,rfl⟩:=bn.mp hl;have:x∈(G1 rows).getD i []:=by rw[av,aa hi];exact hx
 obtain⟨r,e,_⟩:=(Z6t h).mp this;obtain⟨h',_⟩:=aM.mp e;rw[Z0f];exact h'
def G7 (es:M Bool)(b:Bool):?P:=((es.zipIdx).filter fun p=>p.1==b).map (·.2)
def Z6u {b:Bool}{i:Nat}:i∈G7 es b ↔ es[i]?=some b:=by
 unfold G7;rw[ar];constructor
 ·rintro ⟨⟨c,j⟩,h,rfl⟩;rw[bx]at h;have h1:=jK.mp h.1;have h2:c=b:=by simpa using h.2
  subst h2;exact h1
 ·intro h;exact⟨(b,i),bx.mpr ⟨jK.mpr h,by simp⟩,rfl⟩
def Y4c {b:Bool}:∀x∈G7 es b,x<es.length:=fun x hx=>by
 obtain⟨h,_⟩:=aM.mp (Z6u.mp hx);exact h
def Y4d {b:Bool}:(G7 es b).Nodup:=by
 have:(es.zipIdx.map (·.2)).Nodup:=by rw[List.zipIdx_map_snd];exact List.nodup_range'
 exact this.sublist (gA.map _)
def K3 (R:M (Nat×Nat))(s:Nat):Ac Nat:=(R.find? fun q=>decide (q.1=s)).map (·.2)
abbrev oD:Ac Nat->D
 |none=>.non
 |some d=>iD d
theorem W0u (R:M (Nat×Nat))(s:Nat):(G5 (kR R) (ik s)).getD .non=oD (K3 R s):=by
 rw[Q3j Q4j];unfold G5 K3
 induction R with
 |nil=>rfl
 |cons q R ih=>
  rw[ax,bA,bA]
  by_cases h:q.1=s
  ·simp[h]
  ·simp only[h,decide_false];exact ih
def Q1e (es:M Bool)(rows:?O)(b:Bool):M (Ac Nat):=(List.range es.length).map (K3 (K4 (G1 rows) (G7 es b)))
theorem Y3s {Q:M (M D)->Prop}:∀(ds:M D) (o:Ac Sl),Q (ds.map fun _=>[])->Q1d (A9 0) (K0 A2) ds [o] Q
 |[],o,h=>h
 |d::ds,o,h=>by
  rw[Q1d];simp only[L6,s_lst,B7];exact⟨_,rfl,sz ?H,_,rfl,Y3s ds _ h⟩
@[simp] theorem nll1 {d:D}:M6 (some (.dat d))=true:=rfl
@[simp] theorem nll2:M6 none=true:=rfl
theorem forB {s:Nat}{E:F6}   (n0:M6 o0=true)(n1:M6 o1=true)(n2:M6 o2=true)(n5:M6 o5=true)(n7:M6 o7=true):∀(gs:?P) (B:?O) (m:Nat) (o6:Ac Sl),M6 o6=true ->
  (∀g∈gs,g<B.length)->(∀l∈B,l.length<=m)->m+gs.length<=1000000 ->
  (∀o6,M6 o6=true->E.nx [o0,o1,o2,some (.ll a (lls (Q4f s gs B))),some (.dat (iD s)),o5,o6,o7]) ->
  D9 (A9 6) (Q9o 3 (wV 6) (B1 (wV 4))) E (gs.map iD) [o0,o1,o2,some (.ll a (lls B)),some (.dat (iD s)),o5,o6,o7]
 |[],B,m,o6,n6,_,_,_,h=>h o6 n6
 |g::gs,B,m,o6,n6,hg,hm,hz,h=>by
  rw[aH]at hz;have gl:=hg g ?H;have bd:=Y4m (g:=g) hm;rw[ax,D9];simp only[L6,V7o,A8,E9];refine⟨a,lls B,rfl,?_,_,rfl,_,g,rfl,?_,_,rfl,_,rfl,?_,?_⟩
  ·show(M6 o0&&(M6 o1&&(M6 o2&&([some (.dat (iD s)),o5,some (.dat (iD g)),o7]:C8).all M6)))=true;simp[n0,n1,n2,n5,n7,nll1]
  ·rw[ag];exact ixn gl
  ·rw[Y5n,ag];exact T2 (?A)
  ·show D9 _ _ _ _ [_,_,_,some (.ll a ((lls B).set g ((lls B).getD g []++[iD s]))),_,_,_,_];rw[W9y];exact forB n0 n1 n2 n5 n7 gs _ (m+1) _ rfl (fun g' h'=>by rw[Z4g];exact hg g' (by simp[h'])) (Y2d hm) (?A) h
theorem Y4j {E:F6}   (n0:M6 o0=true)(n1:M6 o1=true)(n2:M6 o2=true)(n7:M6 o7=true):∀(rs:?O) (s:Nat) (B:?O) (m:Nat) (o4 o5 o6:Ac Sl),M6 o4=true->M6 o5=true->M6 o6=true ->
  (∀r∈rs,r.length=4/\∀g∈r,g<B.length)->(∀l∈B,l.length<=m)->m+4*rs.length<=1000000 ->
  (∀o4 o5 o6,M6 o4=true->M6 o5=true->M6 o6=true->E.nx [o0,o1,o2,some (.ll a (lls (Q3c s rs B))),o4,o5,o6,o7]) ->
  D9 (K8 2 (E1 (A9 4) (E1 (A9 5) L0))) (L3 (Z5v (wV 5)) (A9 6) (Q9o 3 (wV 6) (B1 (wV 4)))) E ((rs.zipIdx s).map fun p=>.tup [.int (p.2:Int),rD p.1]) [o0,o1,o2,some (.ll a (lls B)),o4,o5,o6,o7]
 |[],s,B,m,o4,o5,o6,n4,n5,n6,_,_,_,h=>h o4 o5 o6 n4 n5 n6
 |r::rs,s,B,m,o4,o5,o6,n4,n5,n6,hg,hm,hz,h=>by
  rw[aH]at hz;obtain⟨l4,gl⟩:=hg r ?H;rw[cL,ax,D9];simp only[Q0j,Q0h,L6,Q0i,W0,V7f,A8];refine⟨_,rfl,rfl,_,_,rfl,_,_,rfl,rfl,_,rfl,_,rfl,?_⟩;refine forB n0 n1 n2 (o5:=some (.dat (rD r))) rfl n7 r B m o6 n6 gl hm (?A) fun o6 n6=>?_;exact Y4j n0 n1 n2 n7 rs (s+1) _ (m+4) _ _ _ rfl rfl n6 (fun r' h'=>⟨(hg r' (by simp[h'])).1,fun g h2=>by rw[Z0g];exact(hg r' (by simp[h'])).2 g h2⟩)
   (by have:=Y2m (s:=s) r B m hm;rw[l4]at this;exact this) (?A) h
theorem Z4x {b:Bool}{Q:M D->Prop}:∀(es:M Bool) (n:Nat) (o0 o1:Ac Sl),Q (((es.zipIdx n).filter fun p=>p.1==b).map fun p=>iD p.2) ->
  N2 (K8 2 (E1 (A9 0) (E1 (A9 1) L0))) (A3 (J5 60 false) (wV 1) (wV 2)) (B1 (wV 0)) ((es.zipIdx n).map fun p=>.tup [.int (p.2:Int),.bl p.1]) [o0,o1,some (.dat (.bl b))] Q
 |[],n,o0,o1,h=>h
 |e::es,n,o0,o1,h=>by
  rw[cL,ax,N2];simp only[Q0j,Q0h,L6,Q0i,C7,A8,E9];refine⟨_,rfl,rfl,_,_,rfl,_,_,rfl,rfl,_,rfl,_,rfl,?_⟩;simp only[N7,o_eq,o_d1];refine⟨_,_,rfl,rfl,by simp[D.depth],?_⟩;rw[cL,ce]at h
  by_cases hb:e=b
  ·subst hb;simp only[BEq.rfl,fA]at h;simp only[o_e3,BEq.rfl,fA,eY,cO];exact⟨_,rfl,_,rfl,Z4x es (n+1) _ _ h⟩
  ·have iP:(e==b)=false:=by simpa using hb
   simp only[iP,cO,eY]at h;simp only[o_e3,iP,eY,cO];exact Z4x es (n+1) _ _ h
def V2 (ra:R)(es:M Bool):Prop:=ra=.bw (es.map .bl)\/ra=.st (.tup (es.map .bl))
def V2.rd {ra:R}  (h:V2 ra es):T5 (N9 ra)=ra:=by rcases h with rfl |rfl<;>rfl
def V2.nll {ra:R}  (h:V2 ra es):M6 (some (N9 ra))=true:=by rcases h with rfl |rfl<;>rfl
def V2.sq {ra:R}  (h:V2 ra es):W7 ra=some (es.map .bl):=by rcases h with rfl |rfl<;>rfl
def V2.len {ra:R}  (h:V2 ra es){Q:R->Prop}:E3 [ra] Q=Q (.st (.int (es.length:Int))):=by
 rcases h with rfl |rfl
 ·rw[V9,ag]
 ·rw[V1o,ag]
def V2.arg {ra:R}  (h:V2 ra es):P0 ra=true:=by rcases h with rfl |rfl<;>rfl
def V2.nrm {ra:R}  (h:V2 ra es):nrm ra=ra:=by rcases h with rfl |rfl<;>rfl
def RwD (d:D)(rows:?O):Prop:=d=rsD rows\/d=.lst (rows.map rD)
def RwD.sq {d:D}  (h:RwD d rows):W7 (.st d)=some (rows.map rD):=by rcases h with rfl |rfl<;>rfl
def RwD.ix {d:D}  (h:RwD d rows){r:?P}{i:Nat}(e:rows[i]?=some r){Q:R->Prop}(q:Q (.st (rD r))):B5 (.st d) (.st (.int (i:Int))) Q:=by
 rcases h with rfl |rfl<;>exact⟨rD r,V4 (by rw[ai,e];rfl),q⟩
def RwD.j {d:D}  (h:RwD d rows)  {i:Nat}(e:τ[i]?=some (some (.dat d))){Q:M D->Prop}(q:Q (rows.map rD)):jOr (Q1s (wV i)) (Q1g (wV i)) τ Q:=by
 rcases h with rfl |rfl
 ·exact .inl ⟨_,e,_,rfl,q⟩
 ·exact .inr ⟨_,e,_,rfl,q⟩
def RwD.i {d:D}  (h:RwD d rows)  {i:Nat}(e:τ[i]?=some (some (.dat d))){Q:M D->C8->Prop}(q:Q (K1 (rows.map rD)) τ):iOr (Q6o (A0 (wV i) A2)) (Q8k (A0 (wV i) A2)) τ Q:=by
 rcases h with rfl |rfl
 ·exact .inl ⟨_,e,.inr ⟨_,rfl,q⟩⟩
 ·exact .inr ⟨_,e,_,rfl,q⟩
def sp_distances:E6:=fun rs Pr=>∃ra es rows b d,rs=[ra,.st d,.st (.bl b)]/\RwD d rows/\V2 ra es/\Wf es rows/\es.length<=20000/\Pr (.nw ((Q1e es rows b).map oD))
def Z6x:T7 sp_distances:=by rintro rs P Q f ⟨ra,es,rows,b,d,e,h0,h1,h2,h3,h4⟩;exact⟨ra,es,rows,b,d,e,h0,h1,h2,h3,f _ h4⟩
def V5j {K:Fg9}:∀rs Pr,rs.length=3->sp_distances rs Pr->W1c K (sp_all_reached K) (M0 Pr) (E8 Q9z rs):=by
 rintro rs Pr _ ⟨ra,es,rows,b,d,rfl,hd,ha,wf,hl,h⟩;have wl:=wf.len;have bW:∀r∈rows,∀g∈r,g<rows.length:=fun r hr g hg=>by rw[wl];exact wf.lt r hr g hg
 unfold W1c;simp only[D8,V7p,Q4r,A8,V7b,W0,Y8l,C1,B7,V7z,P4,W6,Y8m,P8,Z2b,J9];refine hd.j rfl ⟨sz ?N,?_⟩;refine Y3s _ _ fun a=>?_;refine hd.i rfl ?_;have e1:K1 (rows.map rD)=(rows.zipIdx 0).map fun p=>.tup [.int (p.2:Int),rD p.1]:=by
  unfold K1;rw[jM,aJ];rfl
 have e2:((rows.map rD).map fun _=>([]:M D))=lls (rows.map fun _=>[]):=by simp[lls]
 rw[e1,e2];refine Y4j (o0:=some (N9 ra)) (o1:=some (.dat d)) (o2:=some (.dat (.bl b))) (o7:=none) ha.nll rfl rfl rfl rows 0 _ 0 none none none rfl rfl rfl (fun r hr=>⟨wf.r4 r hr,fun g hg=>by rw[ag];exact bW r hr g hg⟩) (fun l hl=>by simp at hl;simp[hl.2]) (?A) fun o4 o5 o6 n4 n5 n6=>?_;refine⟨a,_,rfl,?_,?_⟩
 ·show(M6 _&&(M6 _&&(M6 _&&([o4,o5,o6,none]:C8).all M6)))=true;have:=ha.nll;simp[this,n4,n5,n6,nll1,nll2]
 k_ne;show ∃r ds,[T5 (N9 ra)]=[r]/\_;refine⟨_,_,rfl,by rw[ha.rd];exact ha.sq,sz (by simp[K1];omega),?_⟩;have e3:K1 (es.map .bl)=(es.zipIdx 0).map fun p=>.tup [.int (p.2:Int),.bl p.1]:=by
  unfold K1;rw[jM,aJ];rfl
 rw[e3];refine Z4x es 0 _ _ ?_;refine⟨_,rfl,rfl,G7 es b,G1 rows,?_,Y4d,fun x hx=>by rw[Z0f,wl];exact Y4c x hx,Y2l bW,by rw[Z0f,wl];omega,fun a'=>?_⟩
 ·have q1:((es.zipIdx 0).filter fun p=>p.1==b).map (fun p=>iD p.2)=(G7 es b).map iD:=by unfold G7;rw[aJ];rfl
  have q2:D.lst ((lls (Q3c 0 rows (rows.map fun _=>[]))).map D.lst)=llD (G1 rows):=by unfold lls llD G1;rw[aJ];rfl
  show [R.bw _,R.st (.lst _)]=_;rw[q1,q2]
 refine⟨a',_,rfl,?_⟩;k_ne;show E3 [T5 (N9 ra)] _;rw[ha.rd,ha.len];refine⟨_,rfl,?A,?A,sz (by simp[T1];omega),?_⟩;have hf:∀i:Nat,(G5 (kR (K4 (G1 rows) (G7 es b))) (ik i)).getD .non=oD (K3 (K4 (G1 rows) (G7 es b)) i):=W0u _;have er:T1 0 (es.length:Int).toNat=(List.range es.length).map iD:=by simp[T1]
 rw[er];refine Q0c (f:=fun d=>match d with |.int i=>(G5 (kR (K4 (G1 rows) (G7 es b))) (.inl i)).getD .non |d=>d) _ _ _ (fun d hd Q' q=>?_) ?_
 ·obtain⟨i,_,rfl⟩:=ar.mp hd;simp only[E9,V6z,A8];exact⟨a',_,rfl,_,rfl,_,ik i,rfl,rfl,q⟩
 ·rw[aJ];have:(List.range es.length).map ((fun d=>match d with |.int i=>(G5 (kR (K4 (G1 rows) (G7 es b))) (.inl i)).getD .non |d=>d) ∘ iD)=(Q1e es rows b).map oD:=by
   unfold Q1e;rw[aJ];exact b8 fun i _=>hf i
  rw[this];exact h
noncomputable def S4:M D->M D->?P
 |_,[]=>[]
 |ks,d::r=>ks.idxOf d::S4 (X8 ks d) r
theorem V1i:∀(ds ks:M D),(Q1u ks ds).map D.int=(S4 ks ds).map iD:=by intro ds;induction ds<;>grind [Q1u,S4,ax]
noncomputable def Z5:M D->M D->M D
 |ks,[]=>ks
 |ks,d::r=>Z5 (X8 ks d) r
theorem Y8w (ks:M D)(d:D):ks <+: X8 ks d:=by grind [X8,bC,cB]
theorem Y8u:∀(ds ks:M D),ks <+: Z5 ks ds
 |[],ks=>bC _
 |d::r,ks=>(Y8w ks d).trans (Y8u r _)
theorem Y6e (ks:M D)(d:D):d∈X8 ks d:=by
 unfold X8;split
 ·assumption
 ·simp
theorem W8b {ks ls:M D}{g:D}(p:ks <+: ls)(h:g∈ks):ls.idxOf g=ks.idxOf g:=by
 obtain⟨t,rfl⟩:=p;rw[ft,aP h]
theorem W8c (ks:M D)(d:D):(X8 ks d).idxOf d=ks.idxOf d:=by grind [X8,ft,qj]
theorem Q8u:∀(ds ks:M D),S4 ks ds=ds.map fun d=>(Z5 ks ds).idxOf d:=by intro ds;induction ds<;>grind [Y8u,X8,S4,ax,Z5,W8b,Y6e,W8c]
def Y6w (ds ks:M D):(S4 ks ds).length=ds.length:=by rw[Q8u,ag]
theorem Z1j:∀(ds ks:M D) {d:D},d∈ks\/d∈ds->d∈Z5 ks ds:=by intro ds;induction ds<;>grind [Z5,Y8w,Y6e]
theorem V8f:∀(ds ks:M D),(Z5 ks ds).length<=ks.length+ds.length:=by intro ds;induction ds<;>grind [Z5,X8,aH]
theorem Y6x {ds:M D}:∀x∈S4 [] ds,x<ds.length:=by grind [Q8u,ar,Z1j,V8f]
def Y6v {ds:M D}{i j:Nat}{a b:D}(hi:ds[i]?=some a)(hj:ds[j]?=some b):(S4 [] ds)[i]?=(S4 [] ds)[j]? ↔ a=b:=by
 rw[Q8u,ai,ai,hi,hj];constructor
 ·intro h;have h:(Z5 [] ds).idxOf a=(Z5 [] ds).idxOf b:=az h;have ha:=bh.mpr (Z1j ds [] (.inr (aD hi)));have hb:=bh.mpr (Z1j ds [] (.inr (aD hj)));have e1:=eR ha;have e2:=eR hb;rw[<-e1,<-e2];simp only[h]
 ·rintro rfl;rfl
def sp_numbered:F4:=fun rs r=>∃ds,rs=[.bw ds]/\ds.length<=1000000/\(∀d∈ds,T9 8 d=true/\∃l,d=.tup l)/\r=.nw ((S4 [] ds).map iD)
def V5y:∀rs r,rs.length=1->sp_numbered rs r->W1p (V1 r) (E8 Y1r rs):=by
 rintro rs r _ ⟨ds,rfl,hl,hk,rfl⟩;unfold W1p;rw[V7w];refine⟨(?G:1<2),?_⟩;simp only[Q5r,A8];exact⟨_,rfl,_,rfl,sz hl,hk,by rw[V1i];rfl⟩
def U6 (b:?P):Nat:=b.foldl max 0
theorem Z5l:∀(b:?P) (a:Nat),a<=b.foldl max a/\∀x∈b,x<=b.foldl max a
 |[],a=>⟨am _,fun x h=>by cases h⟩
 |y::b,a=>by
  obtain⟨h1,h2⟩:=Z5l b (max a y);refine⟨aV (Nat.le_max_left _ _) h1,fun x hx=>?_⟩;rcases au.mp hx with rfl |hx
  ·exact aV (j6 _ _) h1
  ·exact h2 x hx
theorem W7h:∀(b:?P) (a:Nat),b.foldl max a=a\/b.foldl max a∈b:=by intro b;induction b<;>grind [fX,Nat.le_total,j5,jL,aj]
def Z1h {x:Nat}(h:x∈b):x<=U6 b:=(Z5l b 0).2 x h
def Q8q (h:b≠[]):U6 b∈b:=by
 unfold U6;rcases W7h b 0 with e |e
 ·cases b with
  |nil=>exact absurd rfl h
  |cons y b=>
   have:=(Z5l (y::b) 0).2 y ?H;rw[e]at this;have:y=0:=?A
   rw[e,this];simp
 ·exact e
def V0h {m:Int}(h:m∈b.map fun(x:Nat)=>(x:Int))(g:∀n∈b.map fun(x:Nat)=>(x:Int),n<=m):m=(U6 b:Int):=by
 obtain⟨k,hk,rfl⟩:=ar.mp h;have h1:=Z1h hk;have h2:=g _ (ar.mpr ⟨_,Q8q (fun z=>by rw[z]at hk;cases hk),rfl⟩);omega
noncomputable def Q0e (es:M Bool)(rows:?O):M D:=((Q1e es rows true).zip (Q1e es rows false)).map fun p=>.tup [oD p.1,oD p.2]
def Q2i (b:?P)(p:Nat×?P):D:=.tup [iD p.1,rD (p.2.map fun g=>b.getD g 0)]
def Q1t (rows:?O)(b:?P):M D:=(b.zip rows).map (Q2i b)
noncomputable def M7 (rows:?O)(b:?P):?P:=S4 [] (Q1t rows b)
noncomputable def Q3u (rows:?O):Nat->Nat->?P->?P
 |0,_,b=>b
 |n+1,many,b=>if many<=U6 b then Q3u rows n (U6 b+1) (M7 rows b)else b
noncomputable def J6 (es:M Bool)(rows:?O):?P:=Q3u rows (es.length+1) 0 (S4 [] (Q0e es rows))
structure W9 (n:Nat)(b:?P):Prop where
 len:b.length=n
 lt:∀x∈b,x<n
def W9.step (h:W9 n b)(hr:rows.length=n):W9 n (M7 rows b):=by
 have e:(Q1t rows b).length=n:=by simp[Q1t,h.len,hr]
 exact⟨by unfold M7;rw[Y6w,e],fun x hx=>by have:=Y6x x hx;rw[e]at this;exact this⟩
def W9.zero:W9 es.length (S4 [] (Q0e es rows)):=by
 have e:(Q0e es rows).length=es.length:=by simp[Q0e,Q1e]
 exact⟨by rw[Y6w,e],fun x hx=>by have:=Y6x x hx;rw[e]at this;exact this⟩
theorem W0h (hr:rows.length=n):∀(k many:Nat) (b:?P),W9 n b->W9 n (Q3u rows k many b)
 |0,many,b,h=>h
 |k+1,many,b,h=>by
  unfold Q3u;split
  ·exact W0h hr k _ _ (h.step hr)
  ·exact h
def Z8y (w:Wf es rows):W9 es.length (J6 es rows):=W0h w.len _ _ _ W9.zero
def wtA:WT:=(A3 (L5 fun i j=>decide (j<=i)) (D4 Q1i (A0 (wV 2) A2)) (wV 3))
def weA:WE:=(B1 (Q0l (A0 (B1 (wV 0)) (A0 (B1 (D4 U8 (A0 (M8 1 [2] (Q1s (wV 1)) (A9 0) P9 (B1 (A3 B5 (wV 1) (wV 0)))) A2))) A2))))
def wlA (sp_numbered:F4):WS:=(A6 (C4 3 (A3 F9 (D4 Q1i (A0 (wV 2) A2)) (wC (.int 1)))) (C4 2 (B1 (L7 sp_numbered (A0 (M8 2 [2] (Z1a (A0 (wV 2) (A0 (wV 1) A2))) (K8 2 (E1 (A9 0) (E1 (A9 1) L0))) P9 weA) A2)))))
def J0s (hb:W9 n b)(hn:n<=20000){p:Nat×?P}(hp:p.2.length=4)(hg:∀g∈p.2,g<n)(Q:R->Prop)(h:Q (.st (Q2i b p))):weA (some (.dat (iD p.1))::some (.dat (rD p.2))::[some (.dat (.lst (b.map iD)))]) Q:=by
 unfold weA;simp only[E9,s_tup,C1,A8,J9,W6,Q4r,B7];refine⟨_,rfl,_,rfl,_,rfl,sz (by simp[hp]),?_⟩;refine Q0c (f:=fun d=>match d with |.int i=>iD (b.getD i.toNat 0) |d=>d) _ _ _ (fun d hd Q' q=>?_) ?_
 ·obtain⟨g,kc,rfl⟩:=ar.mp hd;have hl:g<b.length:=by rw[hb.len];exact hg g kc
  simp only[E9,C7,A8];sleep 2;show B5 (.st (.lst (b.map iD))) (.st (.int (g:Int))) _;rw[Q8w];refine⟨iD (b.getD g 0),V4 (by rw[ai,av,aa hl];rfl),q⟩
 ·refine⟨_,rfl,_,rfl,sz ?H,?_⟩;have e:(p.2.map iD).map (fun d=>match d with |.int i=>iD (b.getD i.toNat 0) |d=>d)=(p.2.map fun g=>b.getD g 0).map iD:=by
   rw[aJ,aJ];exact b8 fun g _=>by simp
  show Q (.st (.tup [iD p.1,.tup _]));rw[e];exact h
def Z6r (hb:b≠[]){Q:R->Prop}(h:Q (.st (iD (U6 b)))):Q1i [.st (.lst (b.map iD))] Q:=by
 rw[V7u];refine⟨b.map fun(x:Nat)=>(x:Int),by rw[V1q,aJ];rfl,by simpa using hb,fun m h1 h2=>?_⟩;rw[V0h h1 h2];exact h
def W9b (n:Nat)(o:Ac Nat):T9 n (oD o)=true:=by cases o<;>cases n<;>rfl
def V0f (b:?P)(p:Nat×?P):T9 8 (Q2i b p)=true:=by
 simp[Q2i,T9]
theorem J0t (w:Wf es rows)(hl:es.length<=20000){dr:D}(kt:RwD dr rows){E:F6}:∀(n many:Nat) (b:?P),W9 es.length b->es.length+1<=n+many ->
  (∀o3,E.nx [o0,some (.dat dr),some (.dat (.lst ((Q3u rows n many b).map iD))),o3]) ->
  G8 wtA (wlA sp_numbered) (n+1) E [o0,some (.dat dr),some (.dat (.lst (b.map iD))),some (.dat (iD many))]:=by
 intro n
 induction n with
 |zero=>
  intro many b hb hn h;have ne:b≠[]:=fun z=>by have h1:=hb.len;rw[z,bz]at h1;have:=w.pos;omega
  have:=hb.lt _ (Q8q ne);simp only[G8,wtA,C7,J9,C1,A8,B7];k_ne;refine Z6r ne ⟨_,rfl,?_⟩;rw[N7,V8,aK ?N];exact h _
 |succ n ih=>
  intro many b hb hn h;have ne:b≠[]:=fun z=>by have h1:=hb.len;rw[z,bz]at h1;have:=w.pos;omega
  have mx:=hb.lt _ (Q8q ne);rw[G8];simp only[wtA,C7,J9,C1,A8,B7];k_ne;refine Z6r ne ⟨_,rfl,?_⟩;rw[N7,V8];rw[Q3u]at h
  by_cases hm:many<=U6 b
  ·rw[aP (by simpa using hm)];rw[aP hm]at h;simp only[wlA,D8,G6,C7,J9,C1,A8,B7,D6,E9,W5,W6,V7j];k_ne;refine Z6r ne ?_;rw[Q0f,S5];refine⟨_,rfl,_,rfl,_,_,_,_,rfl,rfl,kt.sq,sz (by simp[T3,hb.len];omega),?_⟩;have ez:T3 (b.map iD) (rows.map rD)=((b.zip rows).map fun p=>(iD p.1,rD p.2)).map fun p=>.tup [p.1,p.2]:=by
    unfold T3;rw[List.zip_map]
    rfl
   rw[ez];refine Z4y (f:=fun d e=>match d,e with |.int i,.tup r=>Q2i b (i.toNat,r.map fun d=>match d with |.int j=>j.toNat |_=>0) |_,_=>.non) _ _ _ _ (fun q hq Q' hQ=>?_) ?_
   ·obtain⟨p,hp,rfl⟩:=ar.mp hq;have hr:=(du hp).2;refine J0s hb hl (w.r4 _ hr) (w.lt _ hr) Q' ?_;have:(p.2.map iD).map (fun d=>match d with |.int j=>j.toNat |_=>0)=p.2:=by
     rw[aJ]
     conv=>rhs;rw[<-List.map_id p.2]
     exact b8 fun g _=>by simp
    simp only[this]at hQ;simpa using hQ
   ·have em:(((b.zip rows).map fun p=>(iD p.1,rD p.2)).map fun p=>(fun d e=>match d,e with |.int i,.tup r=>Q2i b (i.toNat,r.map fun d=>match d with |.int j=>j.toNat |_=>0) |_,_=>D.non) p.1 p.2)=Q1t rows b:=by
     unfold Q1t;rw[aJ];refine b8 fun p _=>?_;have:(p.2.map iD).map (fun d=>match d with |.int j=>j.toNat |_=>0)=p.2:=by
      rw[aJ]
      conv=>rhs;rw[<-List.map_id p.2]
      exact b8 fun g _=>by simp
     simp only[Function.comp,this];simp
    rw[em];refine⟨rfl,_,⟨Q1t rows b,rfl,?_,fun d hd=>?_,rfl⟩,?_⟩
    ·simp[Q1t,hb.len];omega
    ·obtain⟨p,_,rfl⟩:=ar.mp hd;exact⟨V0f b p,_,rfl⟩
    ·have e:((U6 b:Int)+1)=((U6 b+1:Nat):Int):=?A
     show G8 wtA (wlA sp_numbered) (n+1) E [_,_,some (.dat (.lst ((M7 rows b).map iD))),some (.dat (.int ((U6 b:Int)+1)))];rw[e];exact ih _ _ (hb.step w.len) (?A) h
  ·rw[aK (by simpa using hm)];rw[aK hm]at h;exact h _
def sp_told_apart:E6:=fun rs Pr=>∃ra es rows d,rs=[ra,.st d]/\RwD d rows/\V2 ra es/\Wf es rows/\es.length<=20000/\Pr (.st (.lst ((J6 es rows).map iD)))
def V0x:T7 sp_told_apart:=by rintro rs P Q f ⟨ra,es,rows,d,e,h0,h1,h2,h3,h4⟩;exact⟨ra,es,rows,d,e,h0,h1,h2,h3,f _ h4⟩
def V6i:∀rs Pr,rs.length=2->sp_told_apart rs Pr->W1u sp_numbered sp_distances (M0 Pr) (E8 Y1x rs):=by
 rintro rs Pr _ ⟨ra,es,rows,dr,rfl,kt,ha,wf,hl,h⟩;unfold W1u;simp only[D8,G6,E9,W5,C1,V7s,P4,A8,D6,B7,Q9d];refine⟨_,rfl,_,rfl,?_,ra,es,rows,true,dr,?_,kt,ha,wf,hl,?_⟩
 ·show(P0 (T5 (N9 ra))&&true)=true;rw[ha.rd,ha.arg];rfl
 ·show [nrm (T5 (N9 ra)),_,_]=_;rw[ha.rd,ha.nrm];rfl
 refine⟨_,rfl,_,rfl,?_,ra,es,rows,false,dr,?_,kt,ha,wf,hl,?_⟩
 ·show(P0 (T5 (N9 ra))&&true)=true;rw[ha.rd,ha.arg];rfl
 ·show [nrm (T5 (N9 ra)),_,_]=_;rw[ha.rd,ha.nrm];rfl
 refine⟨_,_,_,_,rfl,rfl,rfl,rfl,_,⟨Q0e es rows,?_,?_,fun d hd=>?_,rfl⟩,?_⟩
 ·have:T3 ((Q1e es rows true).map oD) ((Q1e es rows false).map oD)=Q0e es rows:=by
   unfold T3 Q0e;rw[List.zip_map,aJ];rfl
  rw[this];rfl
 ·simp[Q0e,Q1e];omega
 ·obtain⟨p,_,rfl⟩:=ar.mp hd;exact⟨by simp[T9,W9b],_,rfl⟩
 ·refine⟨es.length+1+1,?_⟩;refine J0t wf hl kt (es.length+1) 0 _ W9.zero (?A) fun o3=>?_;exact⟨_,rfl,h⟩
abbrev D5:=M Bool×?O
variable {m1 m2 m:D5}
abbrev mD (m:D5):D:=.tup [.tup (m.1.map .bl),rsD m.2]
abbrev C0 (m:D5):Prop:=Wf m.1 m.2
def C5 (rows:?O)(s c:Nat):Nat:=(rows.getD s []).getD c 0
def Q2p:Nat->?P->M (Nat×Nat)->M (Nat×Nat)
 |_,[],S=>S
 |n,x::b,S=>Q2p (n+1) b (Q7 S x n)
def Q3k (rows:?O)(b:?P)(x c:Nat):Nat:=b.getD (C5 rows (b.idxOf x) c) 0
noncomputable def S9 (es:M Bool)(rows:?O):?P×?O:=W8 es.length (Q3k rows (J6 es rows)) ((J6 es rows).getD 0 0)
noncomputable def T4 (es:M Bool)(rows:?O):D5:=((S9 es rows).1.map fun x=>es.getD ((J6 es rows).idxOf x) false,(S9 es rows).2)
theorem V6p {s:Nat}{r:?P}(h:rows[s]?=some r)(hc:c<r.length):r[c]?=some (C5 rows s c):=by grind [C5,av,yN,aa]
def Wf.row (w:Wf es rows){s:Nat}(h:s<es.length):∃r,rows[s]?=some r/\r.length=4/\∀c<4,r[c]?=some (C5 rows s c)/\C5 rows s c<es.length:=by
 have h':s<rows.length:=by rw[w.len];exact h
 have e:rows[s]?=some rows[s]:=aa h';have m:=bv h';refine⟨_,e,w.r4 _ m,fun c hc=>?_⟩;have g:=V6p e (c:=c) (by rw[w.r4 _ m];exact hc);exact⟨g,w.lt _ m _ (aD g)⟩
def Q0r (h:c∈B4):c<4:=by
 simp[B4]at h;omega
def Y5r (h:c<4):c∈B4:=by
 simp[B4];omega
def Q3g {i:Nat}(h:i<b.length):b.getD i 0∈b:=by
 rw[av,aa h];exact bv h
def Y5q (w:Wf es rows)  (hb:b.length=es.length){x:Nat}(hx:x∈b)(hc:c∈B4):Q3k rows b x c∈b:=by
 have hi:=bh.mpr hx;obtain⟨r,_,_,h⟩:=w.row (s:=b.idxOf x) (by rw[<-hb];exact hi);exact Q3g (by rw[hb];exact(h c (Q0r hc)).2)
def Q8m (w:Wf es rows):Q2e (Q3k rows (J6 es rows)) ((J6 es rows).getD 0 0) (J6 es rows) (S9 es rows).1 (S9 es rows).2:=by
 have B:=Z8y w;exact Q5w (fun k hk c hc=>Y5q w B.len hk hc) (Q3g (by rw[B.len];exact w.pos)) (Nat.le_of_eq B.len)
def Z6h (w:Wf es rows):C0 (T4 es rows):=by
 have W:=Q8m w;have i7:∀r∈(S9 es rows).2,∃k∈(S9 es rows).1,r=B4.map fun c=>(S9 es rows).1.idxOf (Q3k rows (J6 es rows) k c):=fun r hr=>by
  obtain⟨i,hi,rfl⟩:=bn.mp hr;have ii:i<(S9 es rows).1.length:=by rw[<-W.len];exact hi
  have:=W.row i _ (aa ii);rw[aa hi]at this;exact⟨_,bv ii,az this⟩
 refine⟨?_,?_,fun r hr=>?_,fun r hr x hx=>?_⟩
 ·show(S9 es rows).2.length=((S9 es rows).1.map _).length;rw[ag];exact W.len
 ·show 0<((S9 es rows).1.map _).length;rw[ag];obtain⟨h,_⟩:=aM.mp W.zero;exact h
 ·obtain⟨k,_,rfl⟩:=i7 r hr;rfl
 ·show x<((S9 es rows).1.map _).length;rw[ag];obtain⟨k,hk,rfl⟩:=i7 r hr;obtain⟨c,hc,rfl⟩:=ar.mp hx;exact bh.mpr (W.mem k hk c hc)
def Z1d (w:Wf es rows):(T4 es rows).1.length<=es.length:=by
 have W:=Q8m w;have h:=W.nd.length_le_of_subset fun x hx=>W.sub x hx;rw[(Z8y w).len]at h;show((S9 es rows).1.map _).length<=_;rw[ag];exact h
theorem V0c {S:M (Nat×Nat)}{x y:Nat}:K3 (Q7 S x n) y=if y∈S.map (·.1)then K3 S y else if y=x then some n else none:=by grind [List.find?_eq_none,List.find?_isSome,Q7,K3,List.find?_append]
theorem V8c:∀(b:?P) (n:Nat) (S:M (Nat×Nat)) (x:Nat),K3 (Q2p n b S) x=if x∈S.map (·.1)then K3 S x else if x∈b then some (n+b.idxOf x)else none:=by intro b;induction b<;>grind [Q2p,K3,V0c,Q7,List.idxOf_cons]
theorem Y8q {x:Nat}(h:x∈b):G5 (kR (Q2p 0 b [])) (ik x)=some (iD (b.idxOf x)):=by
 have:=W0u (Q2p 0 b []) x;rw[V8c,aK ?H,aP h,cZ]at this;cases e:G5 (kR (Q2p 0 b [])) (ik x)with
 |none=>rw[e]at this;cases this
 |some d=>rw[e]at this;exact congrArg some this
def W4y (S:M (Nat×Nat))(x n:Nat):(Q7 S x n).length<=S.length+1:=by unfold Q7;split<;>simp
theorem forS {E:F6}{o0 o1 o2 o6 o7:Ac Sl}:∀(b:?P) (n:Nat) (S:M (Nat×Nat)) (o4 o5:Ac Sl),S.length+b.length<=1000000 ->
  (∀o4 o5,E.nx [o0,o1,o2,some (.dk (kR (Q2p n b S))),o4,o5,o6,o7]) ->
  D9 (K8 2 (E1 (A9 4) (E1 (A9 5) L0))) (Z3e 3 (wV 5) (wV 4)) E ((b.zipIdx n).map fun p=>.tup [.int (p.2:Int),iD p.1]) [o0,o1,o2,some (.dk (kR S)),o4,o5,o6,o7]
 |[],n,S,o4,o5,_,h=>h o4 o5
 |x::b,n,S,o4,o5,hz,h=>by
  rw[aH]at hz;have hl:=W4y S x n;have ih:=forS (E:=E) (o0:=o0) (o1:=o1) (o2:=o2) (o6:=o6) (o7:=o7) b (n+1) (Q7 S x n) (some (.dat (iD n))) (some (.dat (iD x))) (?A) h;rw[cL,ax,D9];simp only[Q0j,Q0h,L6,Q0i,V7m,A8];refine⟨_,rfl,rfl,_,_,rfl,_,_,rfl,rfl,_,rfl,_,rfl,iD x,ik x,rfl,rfl,_,rfl,_,rfl,T2 (by simp[N5];omega),?_⟩;rw[Y5a];unfold Q7 at ih
  by_cases hx:x∈S.map (·.1)
  ·rw[aP hx]at ih;rw[aP (by simpa using hx)];exact ih
  ·rw[aK hx]at ih;rw[aK (by simpa using hx)];have e:kR S++[(ik x,iD n)]=kR (S++[(x,n)]):=by simp[N5]
   show D9 _ _ _ _ [_,_,_,some (.dk (kR S++[(ik x,iD n)])),_,_,_,_];rw[e];exact ih
def V2.ix {ra:R}  (h:V2 ra es){i:Nat}(hi:i<es.length){Q:R->Prop}(q:Q (.st (.bl (es.getD i false)))):B5 ra (.st (.int (i:Int))) Q:=by
 have e:M4 (es.map D.bl) (i:Int)=some (.bl (es.getD i false)):=V4 (by rw[ai,av,aa hi];rfl);rcases h with rfl |rfl
 ·rw[Q0g];exact⟨_,e,q⟩
 ·rw[Z7b];exact⟨_,e,q⟩
def V2.bor {ra:R}  (h:V2 ra es):Q7z (N9 ra)=some (N9 ra):=by rcases h with rfl |rfl<;>rfl
theorem Y5p {i:Nat}(h:i<b.length){Q:R->Prop}(q:Q (.st (iD (b.getD i 0)))):B5 (.st (.lst (b.map iD))) (.st (.int (i:Int))) Q:=by grind [Q8w,V4,ai,av,aa]
def sp_least:E6:=fun rs Pr=>∃ra es rows d,rs=[ra,.st d]/\RwD d rows/\V2 ra es/\Wf es rows/\es.length<=20000/\Pr (.st (mD (T4 es rows)))
def Y6l:T7 sp_least:=by rintro rs P Q f ⟨ra,es,rows,d,e,h0,h1,h2,h3,h4⟩;exact⟨ra,es,rows,d,e,h0,h1,h2,h3,f _ h4⟩
def W9g {K:Fg9}    (w:Wf es rows){dr:D}(kt:RwD dr rows)  (hb:b.length=es.length){x:Nat}(hx:x∈b)(hc:c∈B4):
  Q2 (Z3i K) [.cl a (R8 K a (kR (Q2p 0 b []))),.dat dr,.dat (.lst (b.map iD))] [.st (iD x),.st (iD c)] (.st (iD (Q3k rows b x c))):=by
 have hi:b.idxOf x<es.length:=by rw[<-hb];exact bh.mpr hx
 obtain⟨r,_,_,h3⟩:=w.row hi;refine⟨[iD x,iD c],iD (Q3k rows b x c),rfl,rfl,?_⟩;unfold Z3i;simp only[C7,A8,Y8k];refine⟨_,rfl,_,rfl,a,_,rfl,_,rfl,iD x,ik x,_,rfl,rfl,Y8q hx,?_⟩;obtain⟨r,h1,h2,h3⟩:=w.row hi;rw[N7];refine kt.ix h1 ⟨_,rfl,?_⟩;rw[N7,Z7b];refine⟨iD (C5 rows (b.idxOf x) c),V4 (by rw[ai,(h3 c (Q0r hc)).1];rfl),?_⟩;exact Y5p (by rw[hb];exact(h3 c (Q0r hc)).2) rfl
def V5s {K:Fg9}:∀rs Pr,rs.length=2->sp_least rs Pr->Z9x FC K sp_told_apart (sp_walkedK FC) (M0 Pr) (E8 Y1p rs):=by
 rintro rs Pr _ ⟨ra,es,rows,dr,rfl,kt,ha,wf,hl,h⟩;have B:=Z8y wf;have W:=Q8m wf;have jZ:0<(J6 es rows).length:=by rw[B.len];exact wf.pos
 unfold Z9x;simp only[D8,G6,E9,P4,C1,A8,B7,V7l,V7a,W0,V7c,Q5q,Y8i,C7,D6,P8,s_tup,J9,W6,Q5r,Q0j,Q0h,L6,Q0i];refine⟨_,rfl,_,rfl,?_,ra,es,rows,dr,?_,kt,ha,wf,hl,?_⟩
 ·show(P0 (T5 (N9 ra))&&true)=true;rw[ha.rd,ha.arg];rfl
 ·show [nrm (T5 (N9 ra)),_]=_;rw[ha.rd,ha.nrm];rfl
 sleep 2;have e3:K1 ((J6 es rows).map iD)=((J6 es rows).zipIdx 0).map fun p=>.tup [.int (p.2:Int),iD p.1]:=by
  unfold K1;rw[jM,aJ];rfl
 rw[e3];refine forS (J6 es rows) 0 [] none none (by simp[B.len];omega) fun o4 o5=>?_;refine⟨_,rfl,fun a=>?_⟩;k_ne;rw[N7];refine Y5p (i:=0) jZ ?_;refine⟨rfl,_,⟨_,_,rfl,rfl,R8.hid,_,_,rfl,rfl,trivial,_,_,rfl,rfl,trivial,rfl⟩,fun f Φ hF=>?_⟩;refine⟨_,⟨Nat,inferInstance,iD,ik,Q3k rows (J6 es rows),(J6 es rows).getD 0 0,J6 es rows,f,Φ,_,fun _=>rfl,Q4j,rfl,hF,Q3g jZ,by rw[B.len];omega,fun k hk c hc=>⟨Y5q wf B.len hk hc,W9g wf kt B.len hk hc⟩,rfl⟩,?_⟩;have eW:W8 (J6 es rows).length (Q3k rows (J6 es rows)) ((J6 es rows).getD 0 0)=S9 es rows:=by unfold S9;rw[B.len]
 rw[eW];refine⟨_,rfl,_,rfl,rfl,_,_,rfl,_,_,rfl,rfl,_,rfl,_,rfl,?_,?_⟩
 ·have ig:=Z1d wf;have:(T4 es rows).1.length=(S9 es rows).1.length:=by simp[T4]
  exact sz (by rw[ag];omega)
 show N2 (A9 0) P9 _ _ [none,Q7z (N9 ra),some (.cl a (R8 K a (kR (Q2p 0 (J6 es rows) []))))] _;rw[ha.bor];refine Q0c (f:=fun d=>match d with |.int i=>.bl (es.getD ((J6 es rows).idxOf i.toNat) false) |d=>d) (rest:=[some (N9 ra),some (.cl a (R8 K a (kR (Q2p 0 (J6 es rows) []))))]) _ _ _ (fun d hd Q' q=>?_) ?_
 ·obtain⟨x,hx,rfl⟩:=ar.mp hd;have t9:=W.sub x hx;simp only[E9,C7,A8,Y8k];refine⟨_,rfl,a,_,rfl,_,rfl,iD x,ik x,_,rfl,rfl,Y8q t9,?_⟩;rw[ha.rd];exact ha.ix (by rw[<-B.len];exact bh.mpr t9) (by simpa using q)
 ·rw[Q4p];refine⟨_,rfl,_,rfl,_,rfl,sz ?H,?_⟩;have e:((S9 es rows).1.map fun a=>iD a).map (fun d=>match d with |.int i=>D.bl (es.getD ((J6 es rows).idxOf i.toNat) false) |d=>d)=(T4 es rows).1.map .bl:=by
   unfold T4;rw[aJ,aJ];exact b8 fun x _=>by simp
  show Pr (.st (.tup [.tup _,_]));rw[e];exact h
section
variable [DecidableEq α]
def Q3d (U:M α)(step:α->Nat->α)(start:α)(fin:α->Bool):D5:=((W8 U.length step start).1.map fin,(W8 U.length step start).2)
noncomputable def Y2w (U:M α)(step:α->Nat->α)(start:α)(fin:α->Bool):D5:=T4 (Q3d U step start fin).1 (Q3d U step start fin).2
def Q2e.wf {step:α->Nat->α}{start:α}{U ks:M α}  (W:Q2e step start U ks rs)(fin:α->Bool):Wf (ks.map fin) rs:=by
 have i7:∀r∈rs,∃k∈ks,r=B4.map fun c=>ks.idxOf (step k c):=fun r hr=>by
  obtain⟨i,hi,rfl⟩:=bn.mp hr;have ii:i<ks.length:=by rw[<-W.len];exact hi
  have:=W.row i _ (aa ii);rw[aa hi]at this;exact⟨_,bv ii,az this⟩
 refine⟨by rw[ag];exact W.len,?_,fun r hr=>?_,fun r hr x hx=>?_⟩
 ·rw[ag];obtain⟨h,_⟩:=aM.mp W.zero;exact h
 ·obtain⟨k,_,rfl⟩:=i7 r hr;rfl
 ·rw[ag];obtain⟨k,hk,rfl⟩:=i7 r hr;obtain⟨c,hc,rfl⟩:=ar.mp hx;exact bh.mpr (W.mem k hk c hc)
def Q2e.le {step:α->Nat->α}{start:α}{U ks:M α}  (W:Q2e step start U ks rs):ks.length<=U.length:=W.nd.length_le_of_subset fun x hx=>W.sub x hx
end
def sp_built (FC:O6):E6:=fun rs Pr=>∃(α:Type) (_:DecidableEq α) (ts:α->M D) (key:α->M B8) (step:α->Nat->α) (start:α) (fin:α->Bool) (U:M α) (f f2:Af) (Φ Φ2:Hp->Prop) (sp gG:F4),
 (∀a,X5 (ts a)=some (key a))/\(∀a b,key a=key b->a=b)/\rs=[.st (.tup (ts start)),.cl f Φ,.cl f2 Φ2]/\FC 2 f Φ sp/\FC 1 f2 Φ2 gG/\start∈U/\U.length<=20000/\(∀k∈U,∀c∈B4,step k c∈U/\sp [.st (.tup (ts k)),.st (iD c)] (.st (.tup (ts (step k c))))) /\
 (∀k∈U,gG [.st (.tup (ts k))] (.st (.bl (fin k))))/\Pr (.st (mD (Y2w U step start fin)))
def V0q:T7 (sp_built FC):=by rintro rs P Q g ⟨α,i,ts,key,step,nI,fin,U,f,f2,Φ,Φ2,sp,gG,h1,h2,h3,h4,h5,h6,h7,h8,h9,xD⟩;exact⟨α,i,ts,key,step,nI,fin,U,f,f2,Φ,Φ2,sp,gG,h1,h2,h3,h4,h5,h6,h7,h8,h9,g _ xD⟩
theorem Y3p {f2:Af}{Φ2:Hp->Prop}{gG:F4}{ts:α->M D}{fin:α->Bool}(hF:FC 1 f2 Φ2 gG){Q:M D->Prop}:∀(ks:M α) (o:Ac Sl),(∀k∈ks,gG [.st (.tup (ts k))] (.st (.bl (fin k))))->Q ((ks.map fin).map .bl) ->
  N2 (A9 0) P9 (B1 (Q0z FC 1 1 (A0 (wV 0) A2))) (ks.map fun a=>.tup (ts a)) [o,some (.cl f2 Φ2)] Q
 |[],o,_,h=>h
 |k::ks,o,hs,h=>by
  rw[ax,N2];simp only[L6,V8b,E9,Q7a,C1,A8,B7,fA];refine⟨f2,Φ2,gG,rfl,hF,_,rfl,rfl,_,hs k ?H,_,rfl,?_⟩;exact Y3p hF ks _ (fun k h=>hs k (by simp[h])) h
def V5h:∀rs Pr,rs.length=3->sp_built FC rs Pr->Z9u FC (sp_walked FC) sp_least (M0 Pr) (E8 Y1n rs):=by
 rintro rs Pr _ ⟨α,_,ts,key,step,start,fin,U,f,f2,Φ,Φ2,sp,gG,hk,inj,rfl,hF,mT,hs,hl,hU,oA,h⟩;have W:=Q5w (step:=step) (N:=U.length) (fun k h c hc=>(hU k h c hc).1) hs (am _);have ig:=W.le;unfold Z9u;simp only[D8,Q5q,W5,C1,A8,B7,P8,P4,W6,Q5r,Q0j,Q0h,L6,Q0i];refine⟨_,rfl,_,rfl,rfl,_,⟨α,inferInstance,ts,key,step,start,U,f,Φ,sp,hk,inj,rfl,hF,hs,?A,hU,rfl⟩,?_⟩;refine⟨_,rfl,_,rfl,rfl,_,_,rfl,_,_,rfl,rfl,_,rfl,_,rfl,sz (by rw[ag];omega),?_⟩;refine Y3p (fin:=fin) mT _ none (fun k hk=>oA k (W.sub k hk)) ?_;refine⟨_,rfl,rfl,_,_,_,_,rfl,.inl rfl,.inl rfl,W.wf fin,by rw[ag];omega,h⟩
abbrev pT (p:Nat×Nat):M D:=[iD p.1,iD p.2]
abbrev pK (p:Nat×Nat):M B8:=[ik p.1,ik p.2]
theorem V2t (a b:Nat×Nat)(h:pK a=pK b):a=b:=by grind [List.cons.inj,Q4j]
def Q1x (m1 m2:D5)(p:Nat×Nat)(c:Nat):Nat×Nat:=(C5 m1.2 p.1 c,C5 m2.2 p.2 c)
def Q5p (g:Bool->Bool->Bool)(m1 m2:D5)(p:Nat×Nat):Bool:=g (m1.1.getD p.1 false) (m2.1.getD p.2 false)
def Q8y (n1 n2:Nat):M (Nat×Nat):=(List.range n1).flatMap fun i=>(List.range n2).map fun j=>(i,j)
theorem Q8r {n1 n2:Nat}{p:Nat×Nat}:p∈Q8y n1 n2 ↔ p.1<n1/\p.2<n2:=by grind [Q8y,cb,aQ,ar]
def Y7i (n1 n2:Nat):(Q8y n1 n2).length=n1*n2:=by
 have:∀(l:?P),(l.map fun _=>n2).sum=l.length*n2:=by
  intro l;induction l with
  |nil=>simp
  |cons a l ih=>rw[ax,cH,ih,aH,iT];omega
 simp[Q8y,List.length_flatMap,this]
def PU (m1 m2:D5):M (Nat×Nat):=Q8y m1.1.length m2.1.length
def Q9a (w1:C0 m1)(w2:C0 m2){p:Nat×Nat}(h:p∈PU m1 m2)  (hc:c∈B4):Q1x m1 m2 p c∈PU m1 m2:=by
 obtain⟨h1,h2⟩:=Q8r.mp h;obtain⟨_,_,_,g1⟩:=w1.row h1;obtain⟨_,_,_,g2⟩:=w2.row h2;exact Q8r.mpr ⟨(g1 c (Q0r hc)).2,(g2 c (Q0r hc)).2⟩
def Y2b (m1 m2:D5)(sp:F4):Prop:=∀p∈PU m1 m2,∀c∈B4,sp [.st (.tup (pT p)),.st (iD c)] (.st (.tup (pT (Q1x m1 m2 p c))))
def EndP (g:Bool->Bool->Bool)(m1 m2:D5)(sp:F4):Prop:=∀p∈PU m1 m2,sp [.st (.tup (pT p))] (.st (.bl (Q5p g m1 m2 p)))
def Q6e (g:Bool->Bool->Bool)(sp:F4):Prop:=∀x y:Bool,sp [.st (.bl x),.st (.bl y)] (.st (.bl (g x y)))
def sp_pair_step (FC:O6):E6:=fun rs Pr=>∃m1 m2,rs=[.st (mD m1),.st (mD m2)]/\C0 m1/\C0 m2/\∀f Φ sp,FC 2 f Φ sp->Y2b m1 m2 sp->Pr (.cl f Φ)
def V0w:T7 (sp_pair_step FC):=by rintro rs P Q g ⟨m1,m2,e,h1,h2,h3⟩;exact⟨m1,m2,e,h1,h2,fun f Φ sp a b=>g _ (h3 f Φ sp a b)⟩
def sp_pair_end (fT dZ:O6):E6:=fun rs Pr=>∃m1 m2 f Φ sp g,rs=[.st (mD m1),.st (mD m2),.cl f Φ]/\C0 m1/\C0 m2/\fT 2 f Φ sp/\Q4b Φ/\Q6e g sp/\∀f' Φ' m8,dZ 1 f' Φ' m8->EndP g m1 m2 m8->Pr (.cl f' Φ')
def V0v:T7 (sp_pair_end fT dZ):=by rintro rs P Q q ⟨m1,m2,f,Φ,sp,g,e,h1,h2,h3,h4,h5,h6⟩;exact⟨m1,m2,f,Φ,sp,g,e,h1,h2,h3,h4,h5,fun f' Φ' m8 a b=>q _ (h6 f' Φ' m8 a b)⟩
def R5 {b:M D}{i:Nat}{d:D}(h:b[i]?=some d){Q:R->Prop}(q:Q (.st d)):B5 (.st (.tup b)) (.st (.int (i:Int))) Q:=by
 rw[Z7b];exact⟨_,V4 h,q⟩
def W9i (w1:C0 m1)(w2:C0 m2):Y2b m1 m2 (Q2 Z3k [.dat (rsD m1.2),.dat (rsD m2.2)]):=by
 rintro ⟨i,j⟩ hp c hc;obtain⟨h1,h2⟩:=Q8r.mp hp;refine⟨[.tup (pT (i,j)),iD c],_,rfl,rfl,?_⟩;unfold Z3k;simp only[s_tup,C1,E9,C7,A8,D6,B7];refine⟨_,rfl,_,rfl,R5 (i:=0) rfl ?_⟩;obtain⟨r,g1,_,g2⟩:=w1.row h1;refine R5 (i:=i) (d:=rD r) (by rw[ai,g1];rfl) ⟨_,rfl,?_⟩;refine R5 (i:=c) (d:=iD (C5 m1.2 i c)) (by rw[ai,(g2 c (Q0r hc)).1];rfl) ?_;refine⟨_,rfl,_,rfl,R5 (i:=1) rfl ?_⟩;obtain⟨r,g1,_,g2⟩:=w2.row h2;refine R5 (i:=j) (d:=rD r) (by rw[ai,g1];rfl) ⟨_,rfl,?_⟩;refine R5 (i:=c) (d:=iD (C5 m2.2 j c)) (by rw[ai,(g2 c (Q0r hc)).1];rfl) ?_;exact⟨_,rfl,sz ?H,rfl⟩
def V6d:∀rs Pr,rs.length=2->sp_pair_step FC rs Pr->Q7l FC 2 [("rows",2),("other_rows",3)] Z3k Z9d Z9e Pr (E8 Y1u rs):=by
 rintro rs Pr _ ⟨m1,m2,rfl,w1,w2,h⟩;unfold Q7l Z9d Z9e;simp only[G6,C7,A8,D6];refine⟨_,rfl,R5 (i:=1) rfl ?_⟩;rw[S5];refine⟨_,rfl,R5 (i:=1) rfl ?_⟩;rw[S5];exact⟨_,⟨_,_,rfl,rfl,trivial,_,_,rfl,rfl,trivial,rfl⟩,fun f Φ hF=>h f Φ _ hF (W9i w1 w2)⟩
def Q7y {i:Nat}(h:i<es.length):(es.map D.bl)[i]?=some (.bl (es.getD i false)):=by
 rw[ai,av,aa h];rfl
def W9h (hF:fT 2 f Φ sp)(ht:Q6e g sp):EndP g m1 m2 (Q2 (Z3j fT) [.dat (.tup (m2.1.map .bl)),.cl f Φ,.dat (.tup (m1.1.map .bl))]):=by
 rintro ⟨i,j⟩ hp;obtain⟨h1,h2⟩:=Q8r.mp hp;refine⟨[.tup (pT (i,j))],_,rfl,rfl,?_⟩;unfold Z3j;simp only[Q7a,C1,C7,A8,D6,B7];refine⟨f,Φ,sp,rfl,hF,_,rfl,_,rfl,R5 (i:=0) rfl ?_⟩;refine R5 (i:=i) (Q7y h1) ?_;refine⟨_,rfl,_,rfl,R5 (i:=1) rfl ?_⟩;refine R5 (i:=j) (Q7y h2) ?_;exact⟨rfl,_,ht _ _,rfl⟩
def V6c:∀rs Pr,rs.length=3->sp_pair_end fT dZ rs Pr->Q7l dZ 1 [("other_ends",4),("is_end",2),("ends",3)] (Z3j fT) Z9c w2_pair_end Pr (E8 Y1t rs):=by
 rintro rs Pr _ ⟨m1,m2,f,Φ,sp,g,rfl,w1,w2,hF,hH,ht,h⟩;unfold Q7l Z9c w2_pair_end;simp only[G6,C7,A8,D6];refine⟨_,rfl,R5 (i:=0) rfl ?_⟩;rw[S5];refine⟨_,rfl,R5 (i:=0) rfl ?_⟩;rw[S5];exact⟨_,⟨_,_,rfl,rfl,trivial,_,_,rfl,rfl,hH,_,_,rfl,rfl,trivial,rfl⟩,fun f' Φ' hF'=>h f' Φ' _ hF' (W9h hF ht)⟩
noncomputable def Q3t (g:Bool->Bool->Bool)(m1 m2:D5):D5:=Y2w (PU m1 m2) (Q1x m1 m2) (0,0) (Q5p g m1 m2)
def Q4t (fT:O6):E6:=fun rs Pr=>∃m1 m2 f Φ sp g,rs=[.st (mD m1),.st (mD m2),.cl f Φ]/\C0 m1/\C0 m2/\m1.1.length*m2.1.length<=20000/\fT 2 f Φ sp/\Q4b Φ/\Q6e g sp/\Pr (.st (mD (Q3t g m1 m2)))
def Y6o:T7 (Q4t fT):=by rintro rs P Q q ⟨m1,m2,f,Φ,sp,g,e,h1,h2,h3,h4,h5,h6,h7⟩;exact⟨m1,m2,f,Φ,sp,g,e,h1,h2,h3,h4,h5,h6,q _ h7⟩
def Q9u (w1:C0 m1)(w2:C0 m2):(0,0)∈PU m1 m2:=Q8r.mpr ⟨w1.pos,w2.pos⟩
def Y9c (w1:C0 m1)(w2:C0 m2):C0 (Q3t g m1 m2):=
 Z6h ((Q5w (step:=Q1x m1 m2) (N:=(PU m1 m2).length) (fun k h c hc=>Q9a w1 w2 h hc) (Q9u w1 w2) (am _)).wf _)
def Y9b (w1:C0 m1)(w2:C0 m2):(Q3t g m1 m2).1.length<=m1.1.length*m2.1.length:=by
 have W:=Q5w (step:=Q1x m1 m2) (N:=(PU m1 m2).length) (fun k h c hc=>Q9a w1 w2 h hc) (Q9u w1 w2) (am _);have h1:=Z1d (W.wf (Q5p g m1 m2));have h2:=W.le;rw[ag]at h1;have h3:(PU m1 m2).length=m1.1.length*m2.1.length:=Y7i _ _;exact aV h1 (h3▸h2)
def V6e:∀rs Pr,rs.length=3->Q4t fT rs Pr->Y0a (sp_built dZ) (sp_pair_step dZ) (sp_pair_end fT dZ) (M0 Pr) (E8 W4r rs):=by
 rintro rs Pr _ ⟨m1,m2,f,Φ,sp,g,rfl,w1,w2,hl,hF,hH,ht,h⟩;unfold Y0a;simp only[P8,P4,C1,s_tup,E9,D6,B7,A8];refine⟨_,rfl,sz ?H,_,rfl,_,rfl,rfl,m1,m2,rfl,w1,w2,fun f1 Φ1 sp1 xx r9=>?_⟩;refine⟨_,rfl,_,rfl,_,rfl,rfl,m1,m2,f,Φ,sp,g,rfl,w1,w2,hF,hH,ht,fun f2 Φ2 gG mT lG=>?_⟩;refine⟨rfl,Nat×Nat,inferInstance,pT,pK,Q1x m1 m2,(0,0),Q5p g m1 m2,PU m1 m2,f1,f2,Φ1,Φ2,sp1,gG,fun _=>rfl,V2t,rfl,xx,mT,Q9u w1 w2,by unfold PU;rw[Y7i];exact hl,fun k hk c hc=>⟨Q9a w1 w2 hk hc,r9 k hk c hc⟩,lG,h⟩
abbrev sD:Ac Str->D
 |none=>.non
 |some t=>.str t
abbrev X3:M (Nat×Str):=[(0,"0"),(1,"1"),(2,"a"),(3,"b")]
theorem enm4:K1 (G4 "01ab")=X3.map fun p=>.tup [.int (p.1:Int),.str p.2]:=rfl
section
variable [DecidableEq α]
def Q0b (T:M (α×Str))(g:α)(t:Str):M (α×Str):=if g∈T.map (·.1)then T else T++[(g,t)]
def goT (st:Nat->α)(t:Str):M (Nat×Str)->M (α×Str)->M (α×Str)
 |[],T=>T
 |c::cs,T=>goT st t cs (Q0b T (st c.1) (t++c.2))
def ftN (step:α->Nat->α)(fin:α->Bool):Nat->M (α×Str)->Nat->Ac Str
 |0,_,_=>none
 |n+1,T,p=>match T[p]? with
  |none=>none
  |some q=>if fin q.1 then some q.2 else ftN step fin n (goT (step q.1) q.2 X3 T) (p+1)
def Q3f (n:Nat)(step:α->Nat->α)(start:α)(fin:α->Bool):Ac Str:=ftN step fin n [(start,"")] 0
structure Y8 (U:M α)(T:M (α×Str)):Prop where
 nd:(T.map (·.1)).Nodup
 sub:∀q∈T,q.1∈U
 len:∀q∈T,q.2.length<T.length
def Y8.bound {U:M α}{T:M (α×Str)}(h:Y8 U T):T.length<=U.length:=by
 have:=h.nd.length_le_of_subset fun x hx=>by
  obtain⟨q,hq,rfl⟩:=ar.mp hx;exact h.sub q hq
 simpa using this
theorem Z4i (T:M (α×Str))(g:α)(t:Str):T <+: Q0b T g t:=by grind [Q0b,bC,cB]
def Y8.add {U:M α}{T:M (α×Str)}(h:Y8 U T){g k:α}{t s:Str}(hg:g∈U)(hk:(k,t)∈T)(hs:s.length=1):Y8 U (Q0b T g (t++s)):=by
 unfold Q0b;split
 ·exact h
 ·rename_i n;have hl:=h.len _ hk;refine⟨?_,fun q hq=>?_,fun q hq=>?_⟩
  ·rw[aW,bg];exact⟨h.nd,by simp,fun a ha b hb=>by
    simp at hb;rintro rfl;exact n (hb▸ha)⟩
  ·rcases aO.mp hq with hq |hq
   ·exact h.sub q hq
   ·rw[aG.mp hq];exact hg
  ·rw[aq,bt];rcases aO.mp hq with hq |hq
   ·have:=h.len q hq;omega
   ·rw[aG.mp hq];show(t++s).length<_;rw[PySem.Str.length_append,hs];have hl:t.length<T.length:=hl;omega
theorem Y8.go {U:M α}{st:Nat->α}{k:α}{t:Str}:∀(cs:M (Nat×Str)) (T:M (α×Str)),Y8 U T->(k,t)∈T->(∀c∈cs,st c.1∈U/\c.2.length=1)->Y8 U (goT st t cs T)
 |[],T,h,_,_=>h
 |c::cs,T,h,hk,hc=>Y8.go cs _ (h.add (hc c ?H).1 hk (hc c ?H).2) ((Z4i _ _ _).subset hk) fun c' h'=>hc c' (by simp[h'])
def Q4g {c:Nat×Str}(h:c∈X3):c.1∈B4/\c.2.length=1:=by
 simp only[X3,au,aL,bu]at h;rcases h with rfl |rfl |rfl |rfl<;>exact⟨?G,rfl⟩
def Z8w (T:M (α×Str)):(T.map fun q=>(q.1,D.str q.2)).map (·.1)=T.map (·.1):=by simp
end
def W0o {U:M α}{st:α}(h:st∈U):Y8 U [(st,("":Str))]:=⟨by simp,fun q hq=>by rw[aG.mp hq];exact h,fun q hq=>by rw[aG.mp hq];show(Str.ofString "").length<1;decide⟩
abbrev W4i:M Str:=["start","step","is_end","keys","texts","place","key","column","sign","goal"]
def Z9v (dZ:O6)  :WS:=(A6 (C4 3 (K0 (A0 (B1 (wV 0)) A2))) (A6 (Z3d 4 (wV 0) (wC (.str ""))) (A6 (C4 5 (wC (.int 0))) (A6 (Q2v (A3 (L5 fun i j=>decide (i<j)) (wV 5) (D4 E3 (A0 (wV 3) A2))) (A6 (C4 6 (A3 B5 (wV 3) (wV 5))) (A6 (L8 (Q2u (Q0z dZ 1 2 (A0 (wV 6) A2))) (G2 (Q2t 4 (wV 6))) L9) (A6 (L3 (Q6o (A0 (wC (.str "01ab")) A2)) (K8 2 (E1 (A9 7) (E1 (A9 8) L0))) (A6 (C4 9 (Q0z dZ 2 1 (A0 (wV 6) (A0 (wV 7) A2)))) (L8 (Q4x 4 (wV 9)) (A6 (Q4y 4 (wV 9) (A3 F9 (Q2t 4 (wV 6)) (wV 8))) (O4 3 (B1 (wV 9)))) L9))) (Q7h 5 (P6 NoC fun i j=>i+j) (wC (.int 1))))))) (G2 (wC .non))))))
section
variable [DecidableEq α]
variable {f2:Af}{Φ2:Hp->Prop}{gG:F4}{step:α->Nat->α}{fin:α->Bool}{en:α->D}{key:α->B8}
abbrev tK (key:α->B8)(T:M (α×Str)):M (B8×D):=N5 key (T.map fun q=>(q.1,.str q.2))
def Y9z (inj:∀a b,key a=key b->a=b){T:M (α×Str)}(nd:(T.map (·.1)).Nodup){k:α}{t:Str}(h:(k,t)∈T):G5 (tK key T) (key k)=some (.str t):=by
 rw[Q3j inj];exact W0s (by rw[Z8w];exact nd) (ar.mpr ⟨_,h,rfl⟩)
def Y0e (dZ:O6):WS:=(A6 (C4 9 (Q0z dZ 2 1 (A0 (wV 6) (A0 (wV 7) A2)))) (L8 (Q4x 4 (wV 9)) (A6 (Q4y 4 (wV 9) (A3 F9 (Q2t 4 (wV 6)) (wV 8))) (O4 3 (B1 (wV 9)))) L9))
theorem Y4k (hk:∀a,Q8 (en a)=some (key a))(inj:∀a b,key a=key b->a=b)(hF:FC 2 f Φ sp){U:M α}(hl:U.length<=100000){k:α}{t:Str}{E:F6}{o0 o2 o5:Ac Sl}:∀(cs:M (Nat×Str)) (T:M (α×Str)) (o7 o8 o9:Ac Sl),
  Y8 U T->(k,t)∈T->(∀c∈cs,(step k c.1∈U/\c.2.length=1)/\sp [.st ((en k)),.st (iD c.1)] (.st ((en (step k c.1))))) ->
  (∀o7 o8 o9,E.nx [o0,some (.cl f Φ),o2,some (.own ((goT (step k) t cs T).map fun q=>(en q.1))),some (.dk (tK key (goT (step k) t cs T))),o5,some (.dat ((en k))),o7,o8,o9]) ->
  D9 (K8 2 (E1 (A9 7) (E1 (A9 8) L0))) (Y0e FC) E (cs.map fun p=>.tup [.int (p.1:Int),.str p.2]) [o0,some (.cl f Φ),o2,some (.own (T.map fun q=>(en q.1))),some (.dk (tK key T)),o5,some (.dat ((en k))),o7,o8,o9]
 |[],T,o7,o8,o9,_,_,_,h=>h o7 o8 o9
 |c::cs,T,o7,o8,o9,hI,hkt,hs,h=>by
  obtain⟨⟨hU,h1⟩,nX⟩:=hs c ak;have b:=hI.bound;have oH:=hI.add hU hkt h1;have wH:=(Z4i T (step k c.1) (t++c.2)).subset hkt;have b2:=oH.bound;have ih:=Y4k hk inj hF hl (k:=k) (t:=t) (E:=E) (o0:=o0) (o2:=o2) (o5:=o5) cs;have bZ:=hI.len _ hkt;have bZ:t.length<T.length:=bZ;have hv:=Q3j inj (T.map fun q=>(q.1,D.str q.2)) (step k c.1);have hi:(G5 (tK key T) (key (step k c.1))).isSome=decide (step k c.1∈T.map (·.1)):=by rw[hv,Z2u,Z8w]
  rw[ax,D9];simp only[Y0e,Q0j,Q0h,L6,Q0i,D8,G6,Q7a,C1,A8,B7,Q1y,Z7v,Z7w,Q1l,E9,Q3r,Z2c,C7];refine⟨_,rfl,rfl,_,_,rfl,_,_,rfl,rfl,f,Φ,sp,rfl,hF,_,rfl,_,rfl,rfl,_,nX,?_⟩;rw[S5];refine⟨_,rfl,_,rfl,en (step k c.1),key (step k c.1),rfl,hk _,?_⟩;rw[hi]
  by_cases hm:step k c.1∈T.map (·.1)
  ·have ea:Q0b T (step k c.1) (t++c.2)=T:=aP hm;rw[aK (by simpa using hm)];refine ih T _ _ _ hI hkt (fun c' h'=>hs c' (aj _ h')) ?_;simpa only[goT,ea]using h
  ·have ea:Q0b T (step k c.1) (t++c.2)=T++[(step k c.1,t++c.2)]:=aK hm;rw[aP (by simpa using hm)];refine⟨_,rfl,_,rfl,en k,key k,_,rfl,hk _,Y9z inj hI.nd hkt,_,rfl,?_⟩;rw[N7,Z7a];refine⟨sz (by rw[h1];omega),_,rfl,_,rfl,_,rfl,en (step k c.1),key (step k c.1),rfl,hk _,T2 (by simp[N5];omega),_,rfl,_,rfl,_,rfl,T2 ?N,?_⟩;have e1:R1 (tK key T) (key (step k c.1)) (.str (t++c.2))=tK key (Q0b T (step k c.1) (t++c.2)):=by
    rw[Z1b inj (by rw[Z8w];exact hm),ea];simp[tK]
   have e2:(T.map fun q=>en q.1)++[en (step k c.1)]=(Q0b T (step k c.1) (t++c.2)).map fun q=>en q.1:=by rw[ea];simp
   show D9 _ _ _ _ [_,_,_,some (.own ((T.map fun q=>en q.1)++[en (step k c.1)])),some (.dk (R1 (tK key T) (key (step k c.1)) (.str (t++c.2)))),_,_,_,_,_];rw[e1,e2];exact ih _ _ _ _ oH wH (fun c' h'=>hs c' (aj _ h')) h
def Z3m:WT:=(A3 (L5 fun i j=>decide (i<j)) (wV 5) (D4 E3 (A0 (wV 3) A2)))
def Y0h (dZ:O6):WS:=(A6 (C4 6 (A3 B5 (wV 3) (wV 5))) (A6 (L8 (Q2u (Q0z dZ 1 2 (A0 (wV 6) A2))) (G2 (Q2t 4 (wV 6))) L9) (A6 (L3 (Q6o (A0 (wC (.str "01ab")) A2)) (K8 2 (E1 (A9 7) (E1 (A9 8) L0))) (Y0e dZ)) (Q7h 5 (P6 NoC fun i j=>i+j) (wC (.int 1))))))
theorem J0v (hk:∀a,Q8 (en a)=some (key a))(inj:∀a b,key a=key b->a=b)(hF:FC 2 f Φ sp)(mT:FC 1 f2 Φ2 gG){U:M α}(hl:U.length<=100000){E:F6} 
  (hU:∀k∈U,∀c∈B4,step k c∈U/\sp [.st ((en k)),.st (iD c)] (.st ((en (step k c))))) (oA:∀k∈U,gG [.st ((en k))] (.st (.bl (fin k)))):∀(n:Nat) (T:M (α×Str)) (p:Nat) (o6 o7 o8 o9:Ac Sl),Y8 U T->U.length<=n+p ->
  (ftN step fin n T p=none->∀ τ,E.nx τ)->(∀t,ftN step fin n T p=some t->E.rt (.st (.str t))) ->
  G8 Z3m (Y0h FC) (n+1) E [o0,some (.cl f Φ),some (.cl f2 Φ2),some (.own (T.map fun q=>(en q.1))),some (.dk (tK key T)),some (.dat (iD p)),o6,o7,o8,o9]:=by
 intro n
 induction n with
 |zero=>
  intro T p o6 o7 o8 o9 hI hp h h2;have b:=hI.bound;simp only[G8,Z3m,C7,J9,C1,A8,B7];sleep 2;simp only[N7,N8,V9,V8,ag];rw[aK ?N];exact h rfl _
 |succ n ih=>
  intro T p o6 o7 o8 o9 hI hp h h2;have b:=hI.bound;rw[G8];simp only[Z3m,C7,J9,C1,A8,B7];sleep 2;simp only[N7,N8,V9,V8,ag]
  by_cases bW:p<T.length
  ·rw[aP (by simpa using bW)];have gi:T[p]?=some T[p]:=aa bW;have kin:=bv bW;generalize T[p]=q at gi kin;obtain⟨k,t⟩:=q;have pN:k∈U:=hI.sub _ kin;rw[ftN,gi]at h h2;simp only[Y0h,D8,G6,C7,A8,Q1y,Q7b,Q7a,C1,B7,P8,Z2c,Q3r,W0,Y8l,D6,Y8g];sleep 2;rw[N8,N7,Q0g];refine⟨(en k),V4 (by rw[ai,gi];rfl),f2,Φ2,gG,rfl,mT,_,rfl,rfl,_,oA k pN,?_⟩;rw[Y7e]
   by_cases hf:fin k=true
   ·rw[aP hf];have h2:=h2 t (by show(if fin k=true then some t else _)=_;rw[aP hf]);refine⟨_,rfl,_,rfl,en k,key k,_,rfl,hk _,Y9z inj hI.nd kin,h2⟩
   ·rw[aK hf];simp only[hf]at h h2;refine .inl ⟨_,rfl,?_⟩;rw[enm4];refine Y4k hk inj hF hl X3 T _ _ _ hI kin (fun c hc=>⟨⟨(hU k pN c.1 (Q4g hc).1).1,(Q4g hc).2⟩,(hU k pN c.1 (Q4g hc).1).2⟩) fun o7 o8 o9=>?_;refine⟨_,rfl,trivial,?_⟩;have e:((p:Int)+1)=((p+1:Nat):Int):=?A
    show G8 Z3m (Y0h FC) (n+1) E [_,_,_,_,_,some (.dat (.int ((p:Int)+1))),_,_,_,_];rw[e];exact ih _ _ _ _ _ _ (Y8.go X3 T hI kin fun c hc=>⟨(hU k pN c.1 (Q4g hc).1).1,(Q4g hc).2⟩) (?A) h h2
  ·rw[aK (by simpa using bW)];have e:T[p]?=none:=ay.mpr (?A);exact h (by rw[ftN,e]) _
end
def Q7c (FC:O6):F4:=fun rs r=>∃(α:Type) (_:DecidableEq α) (en:α->D) (key:α->B8) (step:α->Nat->α) (start:α) (fin:α->Bool) (U:M α) (f f2:Af) (Φ Φ2:Hp->Prop) (sp gG:F4),
 (∀a,Q8 (en a)=some (key a))/\(∀a b,key a=key b->a=b)/\rs=[.st ((en start)),.cl f Φ,.cl f2 Φ2]/\FC 2 f Φ sp/\FC 1 f2 Φ2 gG/\start∈U/\U.length<=100000/\(∀k∈U,∀c∈B4,step k c∈U/\sp [.st ((en k)),.st (iD c)] (.st ((en (step k c))))) /\
 (∀k∈U,gG [.st ((en k))] (.st (.bl (fin k))))/\r=.st (sD (Q3f U.length step start fin))
def V5m:∀rs r,rs.length=3->Q7c FC rs r->Z9v FC (V1 r) (E8 W4i rs):=by
 rintro rs r _ ⟨α,_,en,key,step,nI,fin,U,f,f2,Φ,Φ2,sp,gG,hk,inj,rfl,hF,mT,hs,hl,hU,oA,rfl⟩;unfold Z9v;simp only[D8,G6,s_lst,C1,E9,A8,B7,Y8n,D6,P8];refine⟨_,rfl,_,rfl,sz ?H,?_⟩;refine⟨(?G:4<10),_,rfl,en nI,key nI,rfl,hk _,_,rfl,?_⟩;rw[S5];refine⟨U.length+1,?_⟩;refine J0v hk inj hF mT hl hU oA U.length [(nI,"")] 0 _ _ _ _ (W0o hs) (?A) (fun e τ=>?_) (fun t e=>?_)
 ·show R.st .non=.st (sD (Q3f _ _ _ _));unfold Q3f;rw[e]
 ·show R.st (.str t)=.st (sD (Q3f _ _ _ _));unfold Q3f;rw[e]
abbrev Q6m (x y:Bool):Bool:=x&&y
abbrev gOr (x y:Bool):Bool:=x||y
structure Two (m1 m2:D5):Prop where
 w1:C0 m1
 w2:C0 m2
 le:m1.1.length*m2.1.length<=20000
def J0b:Q6e gOr (Q2 Q9r []):=by
 intro x y;refine⟨[.bl x,.bl y],_,rfl,rfl,?_⟩;cases x<;>cases y<;>simp[Q9r]
def J0a:Q6e Q6m (Q2 Q9q []):=by
 intro x y;refine⟨[.bl x,.bl y],_,rfl,rfl,?_⟩;cases x<;>cases y<;>simp[Q9q]
def spS (g:Bool->Bool->Bool):E6:=fun rs Pr=>∃m1 m2,rs=[.st (mD m1),.st (mD m2)]/\Two m1 m2/\Pr (.st (mD (Q3t g m1 m2)))
def Y6k:T7 (spS g):=fun rs P Q q⟨m1,m2,e,h1,h2⟩=>⟨m1,m2,e,h1,q _ h2⟩
def rdS2 {wl:WE}(ht:Q6e g (Q2 wl [])):∀rs Pr,rs.length=2->spS g rs Pr->(G2 (E4 (Q4t fT) (A0 (wV 0) (A0 (wV 1) (A0 (Q9p fT 2 (Q2 wl [])) A2))))) (M0 Pr) (E8 ["one","other"] rs):=by
 rintro rs Pr _ ⟨m1,m2,rfl,h2,h⟩;simp only[P8,P4,C1,B7,A8,V7n];refine⟨_,rfl,_,rfl,fun f Φ hF hH=>?_⟩;exact⟨rfl,m1,m2,f,Φ,_,g,rfl,h2.w1,h2.w2,h2.le,hF,hH,ht,h⟩
def V5l:∀rs Pr,rs.length=2->spS gOr rs Pr->W1d fT (Q4t fT) (M0 Pr) (E8 W4h rs):=rdS2 J0b
def V5g:∀rs Pr,rs.length=2->spS Q6m rs Pr->W1b fT (Q4t fT) (M0 Pr) (E8 W4g rs):=rdS2 J0a
abbrev scr (ns:M Int):D:=.lst (ns.map D.int)
def Q3e (ns:M Int)(k:Int):Int:=if ns=[]then 7*k else(ns[(k % (ns.length:Int)).toNat]?.getD 0)+6553*(k / (ns.length:Int))
def Z8a:F4:=fun rs r=>∃ns k,rs=[.st (scr ns),.st (.int k)]/\ns.length<=63/\r=.st (.int (Q3e ns k))
theorem W6r (ns:M Int):D.depth (scr ns)<=60:=by induction ns<;>grind [Dqdepths,D.depth]
def W5g {k:Int}(h:ns≠[]):M4 (ns.map D.int) (k % (ns.length:Int))=some (.int (ns[(k % (ns.length:Int)).toNat]?.getD 0)):=by
 have hp:0<(ns.length:Int):=by have:=eE.mpr h;omega
 have h0:=eC k (?A:(ns.length:Int)≠0);have h1:=dz k hp;have bW:(k % (ns.length:Int)).toNat<ns.length:=?A
 have e:k % (ns.length:Int)=(((k % (ns.length:Int)).toNat:Nat):Int):=?A
 have q:M4 (ns.map D.int) (((k % (ns.length:Int)).toNat:Nat):Int)=some (.int (ns[(k % (ns.length:Int)).toNat]?.getD 0)):=V4 (by rw[ai,aa bW];rfl);rw[<-e]at q;exact q
def V5i:∀rs r,rs.length=2->Z8a rs r->Z9w (V1 r) (E8 W4m rs):=by
 rintro rs r _ ⟨ns,k,rfl,hn,rfl⟩;have hd:=W6r ns
 by_cases h:ns=[]
 ·subst h;simp[Z9w,Q3z,Q3e,hd,D.depth,Dqdepths]
 ·have hp:0<(ns.length:Int):=by have:=eE.mpr h;omega
  simp[Z9w,Q3z,Q2b,Q3e,hd,h,W5g h];omega
def Q0t (ns:M Int)(k m:Int):Int:=
 let c:=((Q3e ns k) % 2147483563*69069+104723*(k+1)) % 2147483563;let c:=(c*c+c / 3) % 2147483399
 (c*c+c / 7) % 2147483647 / 11 % m
def Z8b:F4:=fun rs r=>∃ns k m,rs=[.st (scr ns),.st (.int k),.st (.int m)]/\ns.length<=63/\0<m/\r=.st (.int (Q0t ns k m))
def V5k:∀rs r,rs.length=3->Z8b rs r->W1j Z8a (V1 r) (E8 W4n rs):=by
 rintro rs r _ ⟨ns,k,m,rfl,hn,hm,rfl⟩;have key:∀c:Int,0<=c->c<2147483648->Q3z c c:=fun c h1 h2=>.inl ⟨?A,?A⟩;simp[W1j,Z8a,hm,hn];refine⟨_,⟨ns,k,⟨rfl,rfl⟩,hn,rfl⟩,?_⟩;have e1:=eC (Q3e ns k) (?G:(2147483563:Int)≠0);have e2:=dz (Q3e ns k) (?G:(0:Int)<2147483563);have b1:=eC (Q3e ns k % 2147483563*69069+104723*(k+1)) (?G:(2147483563:Int)≠0);have b2:=dz (Q3e ns k % 2147483563*69069+104723*(k+1)) (?G:(0:Int)<2147483563);simp only[V1m,Y7c,Q0f,S5,N7,V1t,V1l,Q0t];generalize (Q3e ns k % 2147483563*69069+104723*(k+1)) % 2147483563=c at b1 b2 ⊢;have b3:=eC (c*c+c / 3) (?G:(2147483399:Int)≠0);have b4:=dz (c*c+c / 3) (?G:(0:Int)<2147483399);generalize (c*c+c / 3) % 2147483399=c2 at b3 b4 ⊢;have cd:∀c:Int,Q2b c 3/\Q2b c 7/\Q2b c 11:=fun c=>⟨⟨?G,?G⟩,⟨?G,?G⟩,⟨?G,?G⟩⟩
 exact⟨?G,.inl ⟨?A,?A⟩,.inl ⟨?G,?G⟩,?G,key _ b1 (?A),(cd c).1,?G,key _ b3 (?A),(cd c2).2.1,?G,(cd _).2.2,hm,trivial⟩
def W6w (ns:M Int)(k:Int){m:Int}(h:0<m):0<=Q0t ns k m:=eC _ (?A)
def W6v (ns:M Int)(k:Int){m:Int}(h:0<m):Q0t ns k m<m:=dz _ h
def drN (ns:M Int)(k:Int)(m:Nat):Nat:=(Q0t ns k (m:Int)).toNat
def Z5d (ns:M Int)(k:Int){m:Nat}(h:0<m):Q0t ns k (m:Int)=(drN ns k m:Int):=by
 have:=W6w ns k (m:=(m:Int)) (?A);unfold drN;omega
def Z5e (ns:M Int)(k:Int){m:Nat}(h:0<m):drN ns k m<m:=by
 have:=W6v ns k (m:=(m:Int)) (?A);have:=Z5d ns k h;omega
def V7 (ns:M Int)(at_:Int)(most:Nat):Nat:=1+drN ns at_ most
def Q0d (ns:M Int)(at_:Int)(most:Nat):D5:=
 ((List.range (V7 ns at_ most)).map fun(k:Nat)=>decide (Q0t ns (at_+1+(k:Int)) 2=0),(List.range (V7 ns at_ most)).map fun(k:Nat)=>B4.map fun(j:Nat)=>drN ns (at_+7+4*(k:Int)+(j:Int)) (V7 ns at_ most))
def Z6p (ns:M Int)(at_:Int)(most:Nat):(Q0d ns at_ most).1.length=V7 ns at_ most:=by simp[Q0d]
def Y5s (ns:M Int)(at_:Int){most:Nat}(h:0<most):(Q0d ns at_ most).1.length<=most:=by
 rw[Z6p];unfold V7;have:=Z5e ns at_ h;omega
def Y5t (ns:M Int)(at_:Int){most:Nat}(h:0<most):C0 (Q0d ns at_ most):=by
 have hp:0<V7 ns at_ most:=by unfold V7;omega
 refine⟨by simp[Q0d],by rw[Z6p];exact hp,fun r hr=>?_,fun r hr x hx=>?_⟩
 ·obtain⟨k,_,rfl⟩:=ar.mp hr;rfl
 ·obtain⟨k,_,rfl⟩:=ar.mp hr;obtain⟨j,_,rfl⟩:=ar.mp hx;rw[Z6p];exact Z5e ns _ hp
theorem Y8d (ns:M Int)(hn:ns.length<=63)(at_:Int)  (h0:0<n){E:F6}:∀(l:?P) (ds:M D) (o6:Ac Sl),ds.length+l.length<=1000 ->
  (∀o6,E.nx [some (.dat (scr ns)),some (.dat (.int at_)),o2,some (.dat (iD n)),o4,some (.own (ds++l.map fun(k:Nat)=>rD (B4.map fun(j:Nat)=>drN ns (at_+7+4*(k:Int)+(j:Int)) n))),o6]) ->
  D9 (A9 6) (O4 5 (B1 (D4 U8 (A0 (M8 1 [0,3,1,6] (Q5l (A0 (wC (.int 4)) A2)) (A9 0) P9 (B1 (L7 Z8b (A0 (wV 1) (A0 (A3 F9 (A3 F9 (A3 F9 (wV 3) (wC (.int 7))) (A3 X7 (wC (.int 4)) (wV 4))) (wV 0)) (A0 (wV 2) A2)))))) A2))))
   E (l.map iD) [some (.dat (scr ns)),some (.dat (.int at_)),o2,some (.dat (iD n)),o4,some (.own ds),o6]
 |[],ds,o6,_,h=>by simpa [D9]using h o6
 |k::l,ds,o6,hz,h=>by
  rw[aH]at hz;have e4:T1 0 (Int.toNat 4)=B4.map iD:=rfl;rw[ax,D9];simp only[L6,Q1l,E9,J9,C1,W6,Z2b,D6,B7];refine⟨_,rfl,_,rfl,?G,?G,by rw[e4];exact sz ?H,?_⟩;rw[e4];refine Q0c (f:=fun d=>match d with |.int j=>iD (drN ns (at_+7+4*(k:Int)+j) n) |d=>d) _ _ _ (fun d hd Q' q=>?_) ?_
  ·obtain⟨j,_,rfl⟩:=ar.mp hd;simp only[E9,W5,C1,A8,C7,D6,B7];refine⟨_,rfl,_,rfl,_,rfl,?_⟩;show X7 (R.st (.int 4)) (R.st (.int (k:Int))) _;rw[Y7c];refine⟨.inl ⟨?G,?G⟩,?_⟩;rw[Q0f];k_ne;rw[N7,Q0f];refine⟨_,rfl,rfl,_,⟨ns,at_+7+4*(k:Int)+(j:Int),(n:Int),rfl,hn,?A,rfl⟩,?_⟩;rw[Z5d ns _ h0];exact q
  ·rw[Q4p];refine⟨_,rfl,_,rfl,T2 (?A),?_⟩;have e:(B4.map iD).map (fun d=>match d with |.int j=>iD (drN ns (at_+7+4*(k:Int)+j) n) |d=>d)=(B4.map fun(j:Nat)=>drN ns (at_+7+4*(k:Int)+(j:Int)) n).map iD:=by rfl
   rw[e];refine Y8d ns hn at_ h0 l (ds++[rD (B4.map fun(j:Nat)=>drN ns (at_+7+4*(k:Int)+(j:Int)) n)]) _ ?N fun o6=>?_;simpa using h o6
def Y9g:F4:=fun rs r=>∃ns at_ most,rs=[.st (scr ns),.st (.int at_),.st (iD most)]/\ns.length<=63/\0<most/\most<=50/\r=.st (mD (Q0d ns at_ most))
def V5w:∀rs r,rs.length=3->Y9g rs r->W1k Z8b (V1 r) (E8 Z3z rs):=by
 rintro rs r _ ⟨ns,at_,most,rfl,hn,h0,h1,rfl⟩;have hN:1+Q0t ns at_ (most:Int)=(V7 ns at_ most:Int):=by rw[Z5d ns at_ h0];unfold V7;omega
 have hp:0<V7 ns at_ most:=by unfold V7;omega
 have ig:V7 ns at_ most<=50:=by unfold V7;have:=Z5e ns at_ h0;omega
 have er:T1 0 (V7 ns at_ most:Int).toNat=(List.range (V7 ns at_ most)).map iD:=by simp[T1]
 unfold W1k;simp only[D8,G6,C7,D6,W5,C1,A8,B7,J9,W6,Z2b,s_lst,W0,Z2a,P8,s_tup,E9];refine⟨_,rfl,_,rfl,_,rfl,rfl,_,⟨ns,at_,(most:Int),rfl,hn,?A,rfl⟩,?_⟩;rw[Q0f,hN,S5];refine⟨_,rfl,_,rfl,?A,?A,?_⟩;rw[er];refine⟨sz ?N,?_⟩;refine Q0c (f:=fun d=>match d with |.int k=>.bl (decide (Q0t ns (at_+1+k) 2=0)) |d=>d) _ _ _ (fun d hd Q' q=>?_) ?_
 ·obtain⟨k,_,rfl⟩:=ar.mp hd;simp only[E9,s_b,C7,W5,C1,A8,D6,B7];sleep 2;show F9 (R.st _) (R.st _) _;rw[Q0f];k_ne;rw[N7,Q0f];refine⟨rfl,_,⟨ns,at_+1+(k:Int),2,rfl,hn,?G,rfl⟩,?_⟩;rw[o_eq];refine⟨_,_,rfl,rfl,by simp[D.depth],?_⟩;simp only[o_e1,cO,eY];have e:(Q0t ns (at_+1+(k:Int)) 2==0)=decide (Q0t ns (at_+1+(k:Int)) 2=0):=by
   by_cases h:Q0t ns (at_+1+(k:Int)) 2=0
   ·rw[bP h,h];rfl
   ·rw[aY h];exact bU.mpr h
  rw[e];exact q
 ·rw[Q4p];k_ne;rw[S5];refine⟨_,rfl,sz ?H,_,rfl,_,rfl,?A,?A,?_⟩;rw[er];refine Y8d ns hn at_ hp (List.range (V7 ns at_ most)) [] _ ?N fun o6=>?_;sleep 2;simp only[B7,N8,Q4p];refine⟨_,rfl,_,rfl,sz ?H,?_⟩;show R.st _=R.st _;have e1:((List.range (V7 ns at_ most)).map iD).map (fun d=>match d with |.int k=>D.bl (decide (Q0t ns (at_+1+k) 2=0)) |d=>d)=(Q0d ns at_ most).1.map .bl:=by
   unfold Q0d;rw[aJ,aJ];rfl
  have e2:(List.range (V7 ns at_ most)).map (fun(k:Nat)=>rD (B4.map fun(j:Nat)=>drN ns (at_+7+4*(k:Int)+(j:Int)) (V7 ns at_ most)))=(Q0d ns at_ most).2.map rD:=by
   unfold Q0d;rw[aJ];rfl
  rw[cq,e1,e2]
theorem Z5s [DecidableEq α]{st:Nat->α}{t:Str}:∀(cs:M (Nat×Str)) (T:M (α×Str)),T <+: goT st t cs T
 |[],T=>bC _
 |c::cs,T=>(Z4i _ _ _).trans (Z5s cs _)
def Q9f {P:?P->Prop}(h0:P [])(hs:∀w c,P w->P (w++[c]))(w:?P):P w:=by
 have:∀w:?P,P w.reverse:=by
  intro w
  induction w with
  |nil=>exact h0
  |cons c w ih=>rw[List.reverse_cons];exact hs _ _ ih
 have:=this w.reverse;rwa[List.reverse_reverse]at this
def run (step:α->Nat->α)(k:α)(w:?P):α:=w.foldl step k
theorem Q3q (step:α->Nat->α)(k:α)(u w:?P):run step k (u++w)=run step (run step k u) w:=iC
def B9 (w:?P):Prop:=∀c∈w,c∈B4
def B9.nil:B9 []:=fun c h=>by cases h
def B9.app {u w:?P}(h1:B9 u)(h2:B9 w):B9 (u++w):=fun c h=>(aO.mp h).elim (h1 c) (h2 c)
def B9.snoc {u:?P}  (h1:B9 u)(h2:c∈B4):B9 (u++[c]):=h1.app fun d hd=>by rw[aG.mp hd];exact h2
def R4 (c:Nat):Str:=match c with
 |0=>"0"
 |1=>"1"
 |2=>"a"
 |_=>"b"
def K5 (w:?P):Str:=w.foldl (fun t c=>t++R4 c) ""
def Z2s (w:?P)(c:Nat):K5 (w++[c])=K5 w++R4 c:=by unfold K5;rw[iC];rfl
def W6g {c:Nat×Str}(h:c∈X3):c.2=R4 c.1:=by
 simp only[X3,au,aL,bu]at h;rcases h with rfl |rfl |rfl |rfl<;>rfl
section
variable [DecidableEq α]
structure FtI (step:α->Nat->α)(start:α)(fin:α->Bool)(U:M α)(T:M (α×Str))(p:Nat):Prop where
 ti:Y8 U T
 zero:start∈T.map (·.1)
 word:∀q∈T,∃w,B9 w/\q.1=run step start w/\q.2=K5 w
 past:∀i,i<p->∀q,T[i]?=some q->fin q.1=false/\∀c∈B4,step q.1 c∈T.map (·.1)
theorem Y6a {st:Nat->α}{t:Str}{q:α×Str}:∀(cs:M (Nat×Str)) (T:M (α×Str)),q∈goT st t cs T->q∈T\/∃c∈cs,q=(st c.1,t++c.2)
 |[],T,h=>.inl h
 |c::cs,T,h=>by
  rcases Y6a cs _ h with h |⟨c',h1,h2⟩
  ·unfold Q0b at h;split at h
   ·exact .inl h
   ·rcases aO.mp h with h |h
    ·exact .inl h
    ·exact .inr ⟨c,by simp,aG.mp h⟩
  ·exact .inr ⟨c',by simp[h1],h2⟩
theorem Y4p {st:Nat->α}{t:Str}:∀(cs:M (Nat×Str)) (T:M (α×Str)),∀c∈cs,st c.1∈(goT st t cs T).map (·.1)
 |[],T,c,h=>by cases h
 |d::cs,T,c,h=>by
  rw[goT];rcases au.mp h with rfl |h
  ·have:st c.1∈(Q0b T (st c.1) (t++c.2)).map (·.1):=by
    unfold Q0b;split
    ·assumption
    ·simp
   obtain⟨q,hq,e⟩:=ar.mp this;exact ar.mpr ⟨q,(Z5s cs _).subset hq,e⟩
  ·exact Y4p cs _ c h
def W6h (h:c∈B4):∃s,(c,s)∈X3:=by
 simp only[B4,au,aL,bu]at h;rcases h with rfl |rfl |rfl |rfl<;>exact⟨_,by simp[X3];rfl⟩
def FtI.next {step:α->Nat->α}{start:α}{fin:α->Bool}{U:M α}{T:M (α×Str)}{p:Nat}{k:α}{t:Str}(hU:∀k∈U,∀c∈B4,step k c∈U)(F:FtI step start fin U T p)(hp:T[p]?=some (k,t))(hf:fin k=false):
  FtI step start fin U (goT (step k) t X3 T) (p+1):=by
 have kin:=aD hp;have pre:=Z5s (st:=step k) (t:=t) X3 T;have mono:∀x,x∈T.map (·.1)->x∈(goT (step k) t X3 T).map (·.1):=fun x hx=>by
  obtain⟨q,hq,e⟩:=ar.mp hx;exact ar.mpr ⟨q,pre.subset hq,e⟩
 refine⟨Y8.go X3 T F.ti kin fun c hc=>⟨hU k (F.ti.sub _ kin) _ (Q4g hc).1,(Q4g hc).2⟩,mono _ F.zero,fun q hq=>?_,fun i hi q hq=>?_⟩
 ·rcases Y6a X3 T hq with h |⟨c,hc,rfl⟩
  ·exact F.word q h
  ·obtain⟨w,h1,h2,h3⟩:=F.word _ kin;refine⟨w++[c.1],h1.snoc (Q4g hc).1,?_,?_⟩
   ·rw[Q3q,<-h2];rfl
   ·rw[Z2s,<-W6g hc];have h3:t=K5 w:=h3;rw[<-h3]
 ·obtain⟨add,kf⟩:=pre;have hpl:p<T.length:=by obtain⟨h,_⟩:=aM.mp hp;exact h
  rw[<-kf,aI (?A)]at hq;rcases aX i p with h |h
  ·obtain⟨h1,h2⟩:=F.past i h q hq;exact⟨h1,fun c hc=>mono _ (h2 c hc)⟩
  ·have:i=p:=?A
   subst this;rw[hp]at hq;cases hq;refine⟨hf,fun c hc=>?_⟩;obtain⟨s,hs⟩:=W6h hc;exact Y4p X3 T _ hs
theorem W7k {step:α->Nat->α}{start:α}{fin:α->Bool}{U:M α}(hU:∀k∈U,∀c∈B4,step k c∈U):∀(n:Nat) (T:M (α×Str)) (p:Nat),FtI step start fin U T p->U.length<=n+p ->
  (ftN step fin n T p=none->∀w,B9 w->fin (run step start w)=false)/\(∀t,ftN step fin n T p=some t->∃w,B9 w/\t=K5 w/\fin (run step start w)=true):=by
 have done:∀(T:M (α×Str)) (p:Nat),FtI step start fin U T p->T.length<=p->∀w,B9 w->fin (run step start w)=false:=by
  intro T p F hl w hw;have all:∀w,B9 w->run step start w∈T.map (·.1):=by
   refine Q9f ?_ ?_
   ·exact fun _=>F.zero
   ·intro w c ih hw;obtain⟨q,hq,e⟩:=ar.mp (ih fun d hd=>hw d (by simp[hd]));obtain⟨i,hi,e2⟩:=bn.mp hq;have:=(F.past i (?A) q (by rw[aa hi,e2])).2 c (hw c ?H);rw[Q3q,<-e];exact this
  obtain⟨q,hq,e⟩:=ar.mp (all w hw);obtain⟨i,hi,e2⟩:=bn.mp hq;have:=(F.past i (?A) q (by rw[aa hi,e2])).1;rw[<-e];exact this
 intro n
 induction n with
 |zero=>
  intro T p F h;have b:=F.ti.bound;exact⟨fun _=>done T p F (?A),fun t e=>by cases e⟩
 |succ n ih=>
  intro T p F h;rw[ftN];split
  ·rename_i e;have:=ay.mp e;exact⟨fun _=>done T p F this,fun t e=>by cases e⟩
  ·rename_i q e;obtain⟨k,t⟩:=q
   by_cases hf:fin k=true
   ·simp only[hf,fA];refine⟨fun z=>by(cases z),fun t' e'=>?_⟩;cases e';obtain⟨w,h1,h2,h3⟩:=F.word _ (aD e);exact⟨w,h1,h3,by rw[<-h2];exact hf⟩
   ·have oo:fin k=false:=by simpa using hf
    simp only[oo,eY,cO];exact ih _ _ (F.next hU e oo) (?A)
def W7e {step:α->Nat->α}{start:α}{fin:α->Bool}{U:M α}(hU:∀k∈U,∀c∈B4,step k c∈U)(hs:start∈U):
  (Q3f U.length step start fin=none->∀w,B9 w->fin (run step start w)=false)/\(∀t,Q3f U.length step start fin=some t->∃w,B9 w/\t=K5 w/\fin (run step start w)=true):=
 W7k hU U.length _ 0 ⟨W0o hs,by simp,fun q hq=>⟨[],B9.nil,by rw[aG.mp hq];rfl,by rw[aG.mp hq];rfl⟩,fun i hi=>?A⟩ (?A)
end
def F5 (m:D5)(w:?P):Nat:=run (C5 m.2) 0 w
def E7 (m:D5)(w:?P):Bool:=m.1.getD (F5 m w) false
def Q2a (wf:C0 m):∀w,B9 w->F5 m w<?J:=by
 refine Q9f ?_ ?_
 ·exact fun _=>wf.pos
 ·intro w c ih hw;have h:=ih fun d hd=>hw d (by simp[hd]);obtain⟨_,_,_,g⟩:=wf.row h;unfold F5 at h ⊢;rw[Q3q];exact(g c (Q0r (hw c ?H))).2
theorem prun (m1 m2:D5):∀(w:?P) (p:Nat×Nat),run (Q1x m1 m2) p w=(run (C5 m1.2) p.1 w,run (C5 m2.2) p.2 w)
 |[],p=>rfl
 |c::w,p=>prun m1 m2 w (Q1x m1 m2 p c)
def V3x (g:Bool->Bool->Bool)(m1 m2:D5)(w:?P):Q5p g m1 m2 (run (Q1x m1 m2) (0,0) w)=g (E7 m1 w) (E7 m2 w):=by rw[prun];rfl
theorem V1d {ks:M D}{d:D}(h:ks.Nodup):(X8 ks d).Nodup:=by grind [X8,aG]
theorem Y6q:∀(ds ks:M D),ks.Nodup->(Z5 ks ds).Nodup
 |[],ks,h=>h
 |d::r,ks,h=>Y6q r _ (V1d h)
theorem Y8v:∀(ds ks:M D) (x:D),x∈Z5 ks ds->x∈ks\/x∈ds
 |[],ks,x,h=>.inl h
 |d::r,ks,x,h=>by
  rcases Y8v r _ x h with h |h
  ·unfold X8 at h;split at h
   ·exact .inl h
   ·rcases aO.mp h with h |h
    ·exact .inl h
    ·exact .inr (by rw[aG.mp h];simp)
  ·exact .inr (by simp[h])
def V1g {ds:M D}{j:Nat}(h:j<(Z5 [] ds).length):j∈S4 [] ds:=by
 rw[Q8u,ar];have hm:=bv h;refine⟨(Z5 [] ds)[j],?_,(Y6q ds [] ?H).idxOf_getElem j h⟩;rcases Y8v ds [] _ hm with z |z
 ·cases z
 ·exact z
theorem V1h {ds:M D}{x:Nat}(h:x∈S4 [] ds):x<(Z5 [] ds).length:=by grind [Q8u,ar,Z1j]
def Y6u {ds:M D}{x:Nat}(dg:S4 [] ds≠[])(h:x<=U6 (S4 [] ds)):x∈S4 [] ds:=
 V1g (eQ h (V1h (Q8q dg)))
def W8g {φ:Nat->Nat}{k k':Nat}(hk:k'<=k)(on:∀y,y<k->∃x,x<k'/\φ x=y){a b:Nat}(ha:a<k')(hb:b<k')(e:φ a=φ b):a=b:=by
 rcases Nat.decEq a b with ne |eq
 ·exfalso;have sub:List.range k ⊆ ((List.range k').erase b).map φ:=fun y hy=>by
   obtain⟨x,hx,rfl⟩:=on y (aQ.mp hy)
   by_cases z:x=b
   ·subst z;exact ar.mpr ⟨a,(qh ne).mpr (aQ.mpr ha),e⟩
   ·exact ar.mpr ⟨x,(qh z).mpr (aQ.mpr hx),rfl⟩
  have:=j8.length_le_of_subset sub;rw[ag,List.length_erase_of_mem (aQ.mpr hb),bc,bc]at this;omega
 ·exact eq
abbrev F3 (b:?P)(i:Nat):Nat:=b.getD i 0
theorem Q5i {i:Nat}(h:i<b.length):b[i]?=some (F3 b i):=by grind [aa,av]
def V6q (w:Wf es rows){f:Nat->Nat}{i j:Nat}{ri rj:?P}(hi:rows[i]?=some ri)(hj:rows[j]?=some rj)(li:i<es.length)(lj:j<es.length):
  ri.map f=rj.map f ↔ ∀c,c<4->f (C5 rows i c)=f (C5 rows j c):=by
 obtain⟨r,e1,l1,g1⟩:=w.row li;obtain⟨r',e2,l2,g2⟩:=w.row lj;rw[hi]at e1;cases e1;rw[hj]at e2;cases e2;constructor
 ·intro h c hc;have:=congrArg (fun l=>l[c]?) h;simp only[ai,(g1 c hc).1,(g2 c hc).1]at this;exact az this
 ·intro h;refine dJ fun c=>?_;rw[ai,ai];rcases aX c 4 with hc |hc
  ·rw[(g1 c hc).1,(g2 c hc).1];exact congrArg some (h c hc)
  ·rw[ay.mpr (?A),ay.mpr (?A)]
theorem Y5w {i:Nat}{r:?P}(hb:i<b.length)(hr:rows[i]?=some r):(Q1t rows b)[i]?=some (Q2i b (F3 b i,r)):=by grind [Q1t,Q5i,ai]
theorem Z5t {a b:Nat}(h:iD a=iD b):a=b:=by
 have:(a:Int)=(b:Int):=D.int.inj h;omega
theorem Y5u:∀{l m:?P},l.map iD=m.map iD->l=m
 |[],[],_=>rfl
 |[],_::_,h=>by cases h
 |_::_,[],h=>by cases h
 |a::l,b::m,h=>by
  rw[ax,ax,dv]at h;rw[Z5t h.1,Y5u h.2]
def V0e {p q:Nat×?P}:Q2i b p=Q2i b q ↔ p.1=q.1/\p.2.map (F3 b)=q.2.map (F3 b):=by
 constructor
 ·intro h;have h:=D.tup.inj h;rw[dv,dv]at h;exact⟨Z5t h.1,Y5u (D.tup.inj h.2.1)⟩
 ·rintro ⟨h1,h2⟩;unfold Q2i;rw[h1];show D.tup [_,rD (p.2.map (F3 b))]=D.tup [_,rD (q.2.map (F3 b))];rw[h2]
def Q9j (w:Wf es rows)  (hb:W9 es.length b){i j:Nat}(hi:i<es.length)(hj:j<es.length):
  F3 (M7 rows b) i=F3 (M7 rows b) j ↔ F3 b i=F3 b j/\∀c,c<4->F3 b (C5 rows i c)=F3 b (C5 rows j c):=by
 obtain⟨r,e1,_,_⟩:=w.row hi;obtain⟨r',e2,_,_⟩:=w.row hj;have m1:=Y5w (b:=b) (by rw[hb.len];exact hi) e1;have m2:=Y5w (b:=b) (by rw[hb.len];exact hj) e2;have hB:=hb.step w.len;have q:=Y6v m1 m2;have g1:(S4 [] (Q1t rows b))[i]?=some (F3 (M7 rows b) i):=Q5i (by show i<(M7 rows b).length;rw[hB.len];exact hi);have g2:(S4 [] (Q1t rows b))[j]?=some (F3 (M7 rows b) j):=Q5i (by show j<(M7 rows b).length;rw[hB.len];exact hj);rw[g1,g2,Option.some_inj,V0e,V6q w e1 e2 hi hj]at q;exact q
def Y9v (w:Wf es rows)  (hb:W9 es.length b)(full:∀x,x<=U6 b->x∈b)(hm:¬ U6 b+1<=U6 (M7 rows b)){i j:Nat}(hi:i<es.length)(hj:j<es.length)(e:F3 b i=F3 b j):
  F3 (M7 rows b) i=F3 (M7 rows b) j:=by
 have hB:=hb.step w.len;have lb:∀{i:Nat},i<es.length->i<b.length:=fun h=>by rw[hb.len];exact h
 have lB:∀{i:Nat},i<es.length->i<(M7 rows b).length:=fun h=>by rw[hB.len];exact h
 have fφ:∀{i:Nat},i<es.length->F3 b ((M7 rows b).idxOf (F3 (M7 rows b) i))=F3 b i:=fun {i} h=>by
  have jm:F3 (M7 rows b) i∈M7 rows b:=Q3g (lB h);have bW:=bh.mpr jm;have wJ:(M7 rows b).idxOf (F3 (M7 rows b) i)<es.length:=by rw[<-hB.len];exact bW
  have e0:F3 (M7 rows b) ((M7 rows b).idxOf (F3 (M7 rows b) i))=F3 (M7 rows b) i:=by
   have:=Q5i bW;rw[aa bW,eR bW]at this;exact(az this).symm
  exact((Q9j w hb wJ h).mp e0).1
 refine W8g (φ:=fun x=>F3 b ((M7 rows b).idxOf x)) (k:=U6 b+1) (k':=U6 (M7 rows b)+1) (?A) (fun y hy=>?_) (iB (Z1h (Q3g (lB hi)))) (iB (Z1h (Q3g (lB hj)))) ?_
 ·obtain⟨i,hi,rfl⟩:=bn.mp (full y (?A));have ii:i<es.length:=by rw[<-hb.len];exact hi
  refine⟨F3 (M7 rows b) i,iB (Z1h (Q3g (lB ii))),?_⟩;show F3 b _=_;rw[fφ ii];have:=Q5i hi;rw[aa hi]at this;exact(az this).symm
 ·show F3 b _=F3 b _;rw[fφ hi,fφ hj,e]
def Y0 (es:M Bool)(rows:?O)(i:Nat)(w:?P):Bool:=es.getD (run (C5 rows) i w) false
theorem Z1y (wf:Wf es rows):∀(w:?P) (i:Nat),B9 w->i<es.length->run (C5 rows) i w<es.length
 |[],i,_,h=>h
 |c::w,i,hw,h=>by
  obtain⟨_,_,_,g⟩:=wf.row h;exact Z1y wf w _ (fun d hd=>hw d (by simp[hd])) (g c (Q0r (hw c ?H))).2
structure Q6d (es:M Bool)(rows:?O)(b:?P):Prop where
 blk:W9 es.length b
 full:∀x,x<=U6 b->x∈b
 fin:∀i j,i<es.length->j<es.length->F3 b i=F3 b j->es.getD i false=es.getD j false
 apart:∀i j,i<es.length->j<es.length->F3 b i≠F3 b j->∃w,B9 w/\Y0 es rows i w≠Y0 es rows j w
def Q6d.step (w:Wf es rows)(P:Q6d es rows b):Q6d es rows (M7 rows b) where
 blk:=P.blk.step w.len
 full:=fun x hx=>Y6u (fun z=>by have h:=(P.blk.step w.len).len;unfold M7 at h;rw[z]at h;have:=w.pos;simp at h;omega) hx
 fin:=fun i j hi hj e=>P.fin i j hi hj ((Q9j w P.blk hi hj).mp e).1
 apart:=fun i j hi hj ne=>by
  by_cases h:F3 b i=F3 b j
  ·have:¬ ∀c,c<4->F3 b (C5 rows i c)=F3 b (C5 rows j c):=fun z=>ne ((Q9j w P.blk hi hj).mpr ⟨h,z⟩);obtain⟨c,hc⟩:=Classical.not_forall.mp this;obtain⟨jA,dg⟩:=Classical.not_imp.mp hc;obtain⟨_,_,_,g1⟩:=w.row hi;obtain⟨_,_,_,g2⟩:=w.row hj;obtain⟨u,hu,q⟩:=P.apart _ _ (g1 c jA).2 (g2 c jA).2 dg;exact⟨c::u,fun d hd=>by rcases au.mp hd with rfl |hd;exact Y5r jA;exact hu d hd,q⟩
  ·exact P.apart i j hi hj h
structure Told (es:M Bool)(rows:?O)(b:?P):Prop extends Q6d es rows b where
 cong:∀i j,i<es.length->j<es.length->F3 b i=F3 b j->∀c,c<4->F3 b (C5 rows i c)=F3 b (C5 rows j c)
theorem W0i (w:Wf es rows):∀(n:Nat) (b:?P),Q6d es rows b->es.length<=n+U6 b+1->Told es rows (Q3u rows n (U6 b+1) (M7 rows b))
 |0,b,P,h=>by
  have hB:=P.step w;have ne:M7 rows b≠[]:=fun z=>by have h:=hB.blk.len;rw[z]at h;have:=w.pos;simp at h;omega
  have:=hB.blk.lt _ (Q8q ne);refine⟨hB,fun i j hi hj e c hc=>?_⟩;obtain⟨_,_,_,g1⟩:=w.row hi;obtain⟨_,_,_,g2⟩:=w.row hj;exact Y9v w P.blk P.full (?A) (g1 c hc).2 (g2 c hc).2 (((Q9j w P.blk hi hj).mp e).2 c hc)
 |n+1,b,P,h=>by
  have hB:=P.step w;unfold Q3u;split
  ·rename_i hm;exact W0i w n _ hB (?A)
  ·rename_i hm;refine⟨hB,fun i j hi hj e c hc=>?_⟩;obtain⟨_,_,_,g1⟩:=w.row hi;obtain⟨_,_,_,g2⟩:=w.row hj;exact Y9v w P.blk P.full hm (g1 c hc).2 (g2 c hc).2 (((Q9j w P.blk hi hj).mp e).2 c hc)
theorem W4x {R:M (Nat×Nat)}{g d:Nat}:∃d',(g,d')∈Q7 R g d:=by grind [Q7]
structure Z0b (on:?O)(good:Nat->Nat->Prop)(R:M (Nat×Nat))(p:Nat):Prop where
 ri:Q2d on.length R
 good:∀q∈R,good q.1 q.2
 sorted:∀(i j:Nat) (q q':Nat×Nat),i<=j->R[i]?=some q->R[j]?=some q'->q.2<=q'.2
 near:∀q∈R,∀q',R[p]?=some q'->q.2<=q'.2+1
 past:∀(i:Nat) (q:Nat×Nat),i<p->R[i]?=some q->∀g∈on.getD q.1 [],∃d,(g,d)∈R/\d<=q.2+1
theorem Y5z {d:Nat}:∀(gs:?P) (R:M (Nat×Nat)) (B:Nat),(∀q∈R,q.2<=B)->d<=B->∀g∈gs,∃d',(g,d')∈goR d gs R/\d'<=B
 |[],R,B,_,_,g,h=>by cases h
 |x::gs,R,B,hR,hd,g,h=>by
  have fh:∀q∈Q7 R x d,q.2<=B:=fun q hq=>by
   rcases Z6s hq with z |z
   ·exact hR q z
   ·rw[z];exact hd
  rw[goR];rcases au.mp h with rfl |h
  ·obtain⟨d',h'⟩:=W4x (R:=R) (g:=g) (d:=d);exact⟨d',(Z5r d gs _).subset h',fh _ h'⟩
  ·exact Y5z gs _ B fh hd g h
theorem Y4o {d:Nat}:∀(gs:?P) (R:M (Nat×Nat)),(∀(i j:Nat) (q q':Nat×Nat),i<=j->R[i]?=some q->R[j]?=some q'->q.2<=q'.2)->(∀q∈R,q.2<=d) ->
  (∀(i j:Nat) (q q':Nat×Nat),i<=j->(goR d gs R)[i]?=some q->(goR d gs R)[j]?=some q'->q.2<=q'.2)
 |[],R,h,_=>h
 |x::gs,R,h,hd=>by
  refine Y4o gs _ ?_ ?_
  ·unfold Q7;split
   ·exact h
   ·intro i j q q' rK hi hj;rcases aX j R.length with hjl |hjl
    ·rw[aI hjl]at hj;rw[aI (?A)]at hi;exact h i j q q' rK hi hj
    ·have pJ:q'=(x,d):=by
      rw[aT hjl]at hj;exact(aG.mp (aD hj))
     rcases aO.mp (aD hi)with z |z
     ·rw[pJ];exact hd q z
     ·rw[aG.mp z,pJ];exact am _
  ·intro q hq;rcases Z6s hq with z |z
   ·exact hd q z
   ·rw[z];exact am _
theorem Y7x (lI:∀l∈on,∀g∈l,g<on.length)(hg:∀s d,s<on.length->good s d->∀g∈on.getD s [],good g (d+1)):
  ∀(n:Nat) (R:M (Nat×Nat)) (p:Nat),Z0b on good R p->on.length<=n+p->p<=R.length->R <+: Q2n on n R p/\Z0b on good (Q2n on n R p) (Q2n on n R p).length
 |0,R,p,J,h,hp=>by
  have b:=J.ri.bound;have:p=R.length:=?A
  subst this;exact⟨bC _,J⟩
 |n+1,R,p,J,h,hp=>by
  unfold Q2n;split
  ·rename_i e;have:=ay.mp e;have:p=R.length:=?A
   subst this;exact⟨bC _,J⟩
  ·rename_i q e;obtain⟨s,d⟩:=q;have kin:=aD e;have hs:s<on.length:=J.ri.lt _ kin;have hpl:p<R.length:=by obtain⟨z,_⟩:=aM.mp e;exact z
   have eo:on[s]?.getD []=on.getD s []:=(av ..).symm;have jo:∀g∈on.getD s [],g<on.length:=fun g kc=>by
    rw[av,aa hs]at kc;exact lI _ (bv hs) g kc
   have pre:=Z5r (d+1) (on.getD s []) R;have near:∀q∈R,q.2<=d+1:=fun q hq=>J.near q hq _ e;have all:∀q∈goR (d+1) (on.getD s []) R,q.2<=d+1:=fun q hq=>by
    rcases Z1i _ _ hq with z |⟨g,_,rfl⟩
    ·exact near q z
    ·exact am _
   have at_:∀{i:Nat}{q:Nat×Nat},i<R.length->(goR (d+1) (on.getD s []) R)[i]?=some q->R[i]?=some q:=fun {i q} hi hq=>by
    obtain⟨t,ht⟩:=pre;rw[<-ht,aI hi]at hq;exact hq
   have J2:Z0b on good (goR (d+1) (on.getD s []) R) (p+1):=by
    have so:=Y4o (d:=d+1) (on.getD s []) R J.sorted near;refine⟨J.ri.go jo,fun q hq=>?_,so,fun q hq q' pJ=>?_,fun i q hi hq g kc=>?_⟩
    ·rcases Z1i _ _ hq with z |⟨g,kc,rfl⟩
     ·exact J.good q z
     ·exact hg s d hs (J.good _ kin) g kc
    ·have h1:=all q hq;have h2:(goR (d+1) (on.getD s []) R)[p]?=some (s,d):=by
      obtain⟨t,ht⟩:=pre;rw[<-ht,aI hpl];exact e
     have h3:d<=q'.2:=so p (p+1) _ _ (?A) h2 pJ;omega
    ·have hq:=at_ (?A) hq;rcases aX i p with z |z
     ·obtain⟨d',h1,h2⟩:=J.past i q z hq g kc;exact⟨d',pre.subset h1,h2⟩
     ·have:i=p:=?A
      subst this;rw[e]at hq;cases hq;exact Y5z _ R (d+1) near (am _) g kc
   have bZ:=pre.length_le;obtain⟨a1,a2⟩:=Y7x lI hg n _ (p+1) J2 (?A) (?A);rw[eo];exact⟨pre.trans a1,a2⟩
theorem Z1e {R:M (Nat×Nat)}(nd:(R.map (·.1)).Nodup){s d:Nat}:K3 R s=some d ↔ (s,d)∈R:=by induction R<;>grind [K3,az,eZ,jN,ax,bq,bA]
def W6u (wf:Wf es rows)(b:Bool)  (g0:∀i,es[i]?=some b->good i 0)(gs:∀s d g c,g<es.length->c<4->C5 rows g c=s->good s d->good g (d+1)):
  (∀q∈K4 (G1 rows) (G7 es b),good q.1 q.2)/\((K4 (G1 rows) (G7 es b)).map (·.1)).Nodup/\(∀i,es[i]?=some b->(i,0)∈K4 (G1 rows) (G7 es b)) /\
  ∀s d,(s,d)∈K4 (G1 rows) (G7 es b)->∀g c,g<es.length->c<4->C5 rows g c=s->∃d',(g,d')∈K4 (G1 rows) (G7 es b)/\d'<=d+1:=by
 have bW:∀r∈rows,∀g∈r,g<rows.length:=fun r hr g hg=>by rw[wf.len];exact wf.lt r hr g hg
 have x0:(G1 rows).length=es.length:=by rw[Z0f,wf.len]
 have J0:Z0b (G1 rows) good ((G7 es b).map fun x=>(x,0)) 0:=by
  refine⟨⟨by simpa [fx]using Y4d,fun q hq=>?_⟩,fun q hq=>?_,fun i j q q' _ hi hj=>?_,fun q hq q' _=>?_,fun i q hi=>absurd hi (Nat.not_lt_zero _)⟩
  ·obtain⟨x,hx,rfl⟩:=ar.mp hq;rw[x0];exact Y4c x hx
  ·obtain⟨x,hx,rfl⟩:=ar.mp hq;exact g0 x (Z6u.mp hx)
  ·obtain⟨x,_,rfl⟩:=ar.mp (aD hi);exact be _
  ·obtain⟨x,_,rfl⟩:=ar.mp hq;exact be _
 obtain⟨pre,J⟩:=Y7x (Y2l bW) (fun s d hs wM g kc=>by
  obtain⟨r,e,hm⟩:=(Z6t bW).mp kc;obtain⟨c,hc,e2⟩:=bn.mp hm;have mL:g<es.length:=by rw[<-wf.len];obtain⟨z,_⟩:=aM.mp e;exact z
  obtain⟨r',e',l4,g4⟩:=wf.row mL;rw[e]at e';cases e';have jA:c<4:=by rw[<-l4];exact hc
  have:=(g4 c jA).1;rw[aa hc,e2]at this;exact gs s d g c mL jA (az this).symm wM) (G1 rows).length _ 0 J0 (?A) (be _)
 refine⟨J.good,J.ri.nd,fun i hi=>pre.subset (ar.mpr ⟨i,Z6u.mpr hi,rfl⟩),fun s d hm g c mL hc e=>?_⟩;obtain⟨i,hi,e2⟩:=bn.mp hm;obtain⟨r,e3,l4,g4⟩:=wf.row mL;refine J.past i (s,d) hi (by show(K4 (G1 rows) (G7 es b))[i]?=_;rw[aa hi,e2]) g ((Z6t bW).mpr ⟨r,e3,?_⟩);rw[<-e];exact aD (g4 c hc).1
theorem Z5b (wf:Wf es rows)(b:Bool):(∀i d,i<es.length->K3 (K4 (G1 rows) (G7 es b)) i=some d->∃w,B9 w/\w.length=d/\Y0 es rows i w=b) /\
  ∀(w:?P) (i:Nat),B9 w->i<es.length->Y0 es rows i w=b->∃d,K3 (K4 (G1 rows) (G7 es b)) i=some d/\d<=w.length:=by
 obtain⟨h1,nd,h2,h3⟩:=W6u wf b (good:=fun i d=>∃w,B9 w/\w.length=d/\Y0 es rows i w=b)
  (fun i hi=>⟨[],B9.nil,rfl,by unfold Y0 run;rw[List.foldl_nil,av,hi];rfl⟩)
  (fun s d g c hg hc e cG=>(by obtain⟨w,q1,q2,q3⟩:=cG;exact⟨c::w,fun x hx=>by rcases au.mp hx with rfl |hx;exact Y5r hc;exact q1 x hx,by rw[aH,q2],by unfold Y0 run at q3 ⊢;rw[fX,e];exact q3⟩))
 refine⟨fun i d _ h=>h1 (i,d) ((Z1e nd).mp h),fun w=>?_⟩
 induction w with
 |nil=>
  intro i _ hi h;refine⟨0,(Z1e nd).mpr (h2 i ?_),am _⟩;unfold Y0 run at h;rw[List.foldl_nil,av,aa hi]at h;rw[aa hi];exact congrArg some h
 |cons c w ih=>
  intro i hw hi h;have jA:=Q0r (hw c ?H);obtain⟨_,_,_,g4⟩:=wf.row hi;obtain⟨d,q1,q2⟩:=ih (C5 rows i c) (fun x hx=>hw x (by simp[hx])) (g4 c jA).2 h;obtain⟨d',q3,q4⟩:=h3 _ _ ((Z1e nd).mp q1) i c hi jA rfl;exact⟨d',(Z1e nd).mpr q3,by rw[aH];omega⟩
theorem Y3y (wf:Wf es rows)(b:Bool){i j:Nat}(hi:i<es.length)(hj:j<es.length)(h:K3 (K4 (G1 rows) (G7 es b)) i≠K3 (K4 (G1 rows) (G7 es b)) j):∃w,B9 w/\Y0 es rows i w≠Y0 es rows j w:=by
 obtain⟨s1,s2⟩:=Z5b wf b;have key:∀{i j d:Nat},i<es.length->j<es.length->K3 (K4 (G1 rows) (G7 es b)) i=some d->(∀d',K3 (K4 (G1 rows) (G7 es b)) j=some d'->d<d')->∃w,B9 w/\Y0 es rows i w≠Y0 es rows j w:=fun {i j d} hi hj e bW=>by
  obtain⟨w,q1,q2,q3⟩:=s1 i d hi e;refine⟨w,q1,fun z=>?_⟩;rw[q3]at z;obtain⟨d',q4,q5⟩:=s2 w j q1 hj z.symm;have:=bW d' q4;omega
 cases e1:K3 (K4 (G1 rows) (G7 es b)) i with
 |none=>
  cases e2:K3 (K4 (G1 rows) (G7 es b)) j with
  |none=>rw[e1,e2]at h;exact absurd rfl h
  |some d=>
   obtain⟨w,q1,q2⟩:=key hj hi e2 (fun d' z=>by rw[e1]at z;cases z);exact⟨w,q1,fun z=>q2 z.symm⟩
 |some d=>
  cases e2:K3 (K4 (G1 rows) (G7 es b)) j with
  |none=>exact key hi hj e1 (fun d' z=>by rw[e2]at z;cases z)
  |some d'=>
   rcases aX d d' with z |z
   ·exact key hi hj e1 (fun x q=>by rw[e2]at q;cases q;exact z)
   ·have:d'<d:=by
     rcases aX d' d with y |y
     ·exact y
     ·rw[e1,e2,show d=d' by omega]at h;exact absurd rfl h
    obtain⟨w,q1,q2⟩:=key hj hi e2 (fun x q=>by rw[e1]at q;cases q;exact this);exact⟨w,q1,fun z=>q2 z.symm⟩
theorem Y7a {a b:Ac Nat}(h:oD a=oD b):a=b:=by grind [Z5t]
theorem Y5v {i:Nat}(hi:i<es.length):(Q0e es rows)[i]?=some (.tup [oD (K3 (K4 (G1 rows) (G7 es true)) i),oD (K3 (K4 (G1 rows) (G7 es false)) i)]):=by grind [Q0e,ai,Q1e,K3,K4,G1,G7,aa]
theorem V2u (wf:Wf es rows):Q6d es rows (S4 [] (Q0e es rows)):=by
 have hB:W9 es.length (S4 [] (Q0e es rows)):=W9.zero;have ur:∀{i j:Nat},i<es.length->j<es.length->(F3 (S4 [] (Q0e es rows)) i=F3 (S4 [] (Q0e es rows)) j ↔ K3 (K4 (G1 rows) (G7 es true)) i=K3 (K4 (G1 rows) (G7 es true)) j/\K3 (K4 (G1 rows) (G7 es false)) i=K3 (K4 (G1 rows) (G7 es false)) j):=fun {i j} hi hj=>by
  have q:=Y6v (Y5v (rows:=rows) hi) (Y5v (rows:=rows) hj);rw[Q5i (by rw[hB.len];exact hi),Q5i (by rw[hB.len];exact hj),Option.some_inj]at q;rw[q];constructor
  ·intro h;have h:=D.tup.inj h;rw[dv,dv]at h;exact⟨Y7a h.1,Y7a h.2.1⟩
  ·rintro ⟨h1,h2⟩;rw[h1,h2]
 refine⟨hB,fun x hx=>Y6u (fun z=>by have h:=hB.len;rw[z]at h;have:=wf.pos;simp at h;omega) hx,fun i j hi hj e=>?_,fun i j hi hj ne=>?_⟩
 ·obtain⟨e1,_⟩:=(ur hi hj).mp e;obtain⟨s1,s2⟩:=Z5b wf true;have key:∀{i j:Nat},i<es.length->j<es.length->K3 (K4 (G1 rows) (G7 es true)) i=K3 (K4 (G1 rows) (G7 es true)) j->es.getD i false=true->es.getD j false=true:=fun {i j} hi hj e h=>by
   obtain⟨d,q1,q2⟩:=s2 [] i B9.nil hi h;have:d=0:=by simpa using q2
   subst this;rw[e]at q1;obtain⟨w,_,q4,q5⟩:=s1 j 0 hj q1;rw[cm.mp q4]at q5;exact q5
  cases h1:es.getD i false<;>cases h2:es.getD j false
  ·rfl
  ·have:=key hj hi e1.symm h2;rw[h1]at this;cases this
  ·have:=key hi hj e1 h1;rw[h2]at this;cases this
  ·rfl
 ·by_cases h:K3 (K4 (G1 rows) (G7 es true)) i=K3 (K4 (G1 rows) (G7 es true)) j
  ·exact Y3y wf false hi hj fun z=>ne ((ur hi hj).mpr ⟨h,z⟩)
  ·exact Y3y wf true hi hj h
theorem W0g (wf:Wf es rows):Told es rows (J6 es rows):=by grind [J6,Q3u,W0i,V2u]
section
variable [DecidableEq α]
def Y8b {i:Nat}{f:Nat->Nat}(h:rs[i]?=some (B4.map f))(hc:c∈B4):C5 rs i c=f c:=by
 unfold C5;rw[av,av,h,yN,ai];have:B4[c]?=some c:=by
  simp only[B4,au,aL,bu]at hc;rcases hc with rfl |rfl |rfl |rfl<;>rfl
 rw[this];rfl
theorem Z5q {ks:M α}{x:α}(h:x∈ks):ks[ks.idxOf x]?=some x:=by grind [aa,eR]
theorem Q2e.run {step:α->Nat->α}{start:α}{U ks:M α}  (W:Q2e step start U ks rs):∀(w:?P) (i:Nat) (k:α),B9 w->ks[i]?=some k->ks[run (C5 rs) i w]?=some (run step k w)
 |[],i,k,_,h=>h
 |c::w,i,k,hw,h=>by
  have hc:=hw c ?H;have e:=Y8b (W.row i k h) hc;refine Q2e.run W w _ _ (fun d hd=>hw d (by simp[hd])) ?_;rw[e];exact Z5q (W.mem k (aD h) c hc)
def Y2x {step:α->Nat->α}{start:α}{U:M α}{fin:α->Bool}(hU:∀k∈U,∀c∈B4,step k c∈U)(hs:start∈U){w:?P}(hw:B9 w):E7 (Q3d U step start fin) w=fin (run step start w):=by
 have W:=Q5w (step:=step) (N:=U.length) hU hs (am _);have h:=W.run w 0 start hw W.zero;unfold E7 F5 Q3d;show(List.map fin _).getD (run (C5 _) 0 w) false=_;rw[av,ai,h]
 rfl
end
theorem Y2s {x:Nat}(h:x∈b):F3 b (b.idxOf x)=x:=by grind [av,Z5q]
theorem Y5k (wf:Wf es rows):∀(w:?P) (t s:Nat),B9 w->s<es.length->(S9 es rows).1[t]?=some (F3 (J6 es rows) s)->(S9 es rows).1[run (C5 (S9 es rows).2) t w]?=some (F3 (J6 es rows) (run (C5 rows) s w))
 |[],t,s,_,_,h=>h
 |c::w,t,s,hw,hs,h=>by
  have W:=Q8m wf;have T:=W0g wf;have hc:=hw c ?H;obtain⟨_,_,_,g⟩:=wf.row hs;have hm:F3 (J6 es rows) s∈J6 es rows:=Q3g (by rw[T.blk.len];exact hs);have h0:(J6 es rows).idxOf (F3 (J6 es rows) s)<es.length:=by rw[<-T.blk.len];exact bh.mpr hm
  have e1:=Y8b (W.row t _ h) hc;have e2:Q3k rows (J6 es rows) (F3 (J6 es rows) s) c=F3 (J6 es rows) (C5 rows s c):=T.cong _ _ h0 hs (Y2s hm) c (Q0r hc);refine Y5k wf w _ (C5 rows s c) (fun d hd=>hw d (by simp[hd])) (g c (Q0r hc)).2 ?_;rw[e1,<-e2];exact Z5q (W.mem _ (aD h) c hc)
def W9n (wf:Wf es rows){w:?P}(hw:B9 w){t s:Nat}(hs:s<es.length)(h:(S9 es rows).1[t]?=some (F3 (J6 es rows) s)):Y0 (T4 es rows).1 (T4 es rows).2 t w=Y0 es rows s w:=by
 have T:=W0g wf;have r:=Y5k wf w t s hw hs h;have hl:=Z1y wf w s hw hs;have hm:F3 (J6 es rows) (run (C5 rows) s w)∈J6 es rows:=Q3g (by rw[T.blk.len];exact hl);have h0:(J6 es rows).idxOf (F3 (J6 es rows) (run (C5 rows) s w))<es.length:=by rw[<-T.blk.len];exact bh.mpr hm
 unfold Y0 T4;show(List.map _ (S9 es rows).1).getD (run (C5 (S9 es rows).2) t w) false=_;rw[av,ai,r];exact T.fin _ _ h0 hl (Y2s hm)
def Y5j (wf:Wf es rows){w:?P}(hw:B9 w):E7 (T4 es rows) w=E7 (es,rows) w:=W9n wf hw wf.pos (Q8m wf).zero
def Y9d (w1:C0 m1)(w2:C0 m2){w:?P}(hw:B9 w):E7 (Q3t g m1 m2) w=g (E7 m1 w) (E7 m2 w):=by
 have W:=Q5w (step:=Q1x m1 m2) (N:=(PU m1 m2).length) (fun k h c hc=>Q9a w1 w2 h hc) (Q9u w1 w2) (am _);have h:E7 (Q3t g m1 m2) w=E7 (Q3d (PU m1 m2) (Q1x m1 m2) (0,0) (Q5p g m1 m2)) w:=Y5j (W.wf (Q5p g m1 m2)) hw;rw[h,Y2x (fun k h c hc=>Q9a w1 w2 h hc) (Q9u w1 w2) hw,V3x]
def Q2l (met:?P):?P->?P->?P
 |_,[]=>[]
 |pre,x::r=>if x∈met++pre then Q2l met (pre++[x]) r else x::Q2l met (pre++[x]) r
def Q9:?P->?O->?P
 |met,[]=>met
 |met,r::rs=>Q9 (met++Q2l met [] r) rs
theorem Z6w (r:?P):∀(rs:?O) (met:?P),Q9 met (rs++[r])=Q9 met rs++Q2l (Q9 met rs) [] r
 |[],met=>rfl
 |x::rs,met=>Z6w r rs _
section
variable [DecidableEq α]
theorem Z1l (st:Nat->α)(n:Nat):∀(cs:?P) (ks:M α) (pre full:?P),full=pre++cs.map (fun c=>(G9 st cs ks pre).1.idxOf (st c))->n<=ks.length->(∀x,x<ks.length->x<n\/x∈pre)->(∀x∈pre,x<ks.length) ->
  Q2l (List.range n) pre (cs.map fun c=>(G9 st cs ks pre).1.idxOf (st c))=(List.range ((G9 st cs ks pre).1.length-ks.length)).map fun i=>ks.length+i
 |[],ks,pre,full,_,_,_,_=>by simp[G9,Q2l]
 |c::cs,ks,pre,full,_,hn,h1,h2=>by
  have pp:=Q6z st cs (S8 ks (st c)) (pre++[(S8 ks (st c)).idxOf (st c)]);have jm:st c∈S8 ks (st c):=Y5x.mpr (.inr rfl);have ei:(G9 st (c::cs) ks pre).1.idxOf (st c)=(S8 ks (st c)).idxOf (st c):=by rw[G9];exact Z5w pp jm
  have kN:G9 st (c::cs) ks pre=G9 st cs (S8 ks (st c)) (pre++[(S8 ks (st c)).idxOf (st c)]):=rfl;have bZ:=pp.length_le;rw[ax,Q2l,ei];simp only[kN]
  by_cases hm:st c∈ks
  ·have ea:S8 ks (st c)=ks:=Z4k hm;have hl:=bh.mpr hm;simp only[ea]at bZ ⊢;rw[aP (by
    rcases h1 _ hl with z |z
    ·exact bp _ (aQ.mpr z)
    ·exact aw _ z)]
   exact Z1l st n cs ks _ _ rfl hn (fun x hx=>(h1 x hx).imp id fun z=>by simp[z]) fun x hx=>by
    rcases aO.mp hx with z |z
    ·exact h2 x z
    ·rw[aG.mp z];exact hl
  ·have ea:S8 ks (st c)=ks++[st c]:=Z4l hm;have ex:(ks++[st c]).idxOf (st c)=ks.length:=by
    rw[ft,aK hm];simp
   simp only[ea,ex]at bZ ⊢;rw[aq,bt]at bZ;rw[aK (fun z=>by
    rcases aO.mp z with z |z
    ·have:=aQ.mp z;omega
    ·have:=h2 _ z;omega)]
   have ih:=Z1l st n cs (ks++[st c]) (pre++[ks.length]) _ rfl ?N (fun x hx=>by
    rw[aq,bt]at hx;rcases aX x ks.length with z |z
    ·exact(h1 x z).imp id fun z=>by simp[z]
    ·exact .inr ?N) fun x hx=>by
    rw[aq,bt];rcases aO.mp hx with z |z
    ·have:=h2 x z;omega
    ·rw[aG.mp z];omega
   rw[ih];rw[aq,bt];obtain⟨m,rF⟩:∃m,(G9 st cs (ks++[st c]) (pre++[ks.length])).1.length=ks.length+1+m:=⟨_,(Nat.add_sub_cancel' bZ).symm⟩
   rw[rF,show ks.length+1+m-(ks.length+1)=m by omega,show ks.length+1+m-ks.length=m+1 by omega,dI,ax,aJ];congr 1;exact b8 fun i _=>by simp;omega
def range_add (n m:Nat):List.range n++(List.range m).map (fun i=>n+i)=List.range (n+m):=(List.range_add).symm
theorem Y6i {step:α->Nat->α}:∀(n:Nat) (ks:M α) (rs:?O),Q9 [0] rs=List.range ks.length->Q9 [0] (Q0 step n ks rs).2=List.range (Q0 step n ks rs).1.length
 |0,ks,rs,h=>h
 |n+1,ks,rs,h=>by
  unfold Q0;split
  ·exact h
  ·rename_i k e;refine Y6i n _ _ ?_;have hp:=(Q6z (step k) B4 ks []).length_le;rw[Z6w,h,Z7s,cq,Z1l (step k) ks.length B4 ks [] _ rfl (am _) (fun x hx=>.inl hx) (fun x hx=>by cases hx),range_add];congr 1;omega
def V0m {step:α->Nat->α}{start:α}{N:Nat}:Q9 [0] (W8 N step start).2=List.range (W8 N step start).1.length:=Y6i N _ _ rfl
end
abbrev W4o:M Str:=["machine","ends","rows"]
def W1m (sp_least:E6):WS:=(A6 (Q3x (wV 0) (K8 2 (E1 (A9 1) (E1 (A9 2) L0)))) (G2 (E4 sp_least (A0 (wV 1) (A0 (wV 2) A2)))))
abbrev Y1s:M Str:=["one","ends","rows"]
def W1r (sp_least_of:E6):WS:=(A6 (Q3x (E4 sp_least_of (A0 (wV 0) A2)) (K8 2 (E1 (A9 1) (E1 (A9 2) L0)))) (G2 (Q0l (A0 (B1 (D4 U8 (A0 (M8 1 [] (Q1s (wV 1)) (A9 0) P9 (B1 (Z9o (wV 0)))) A2))) (A0 (B1 (wV 2)) A2)))))
abbrev Y1o:M Str:=["_law_long","_law_found","_law_row","_law_turn","_law_longer","_law_text_here"]
def W1l:WS:=(A6 (C4 1 (K0 (A0 (B1 (wC (.str ""))) A2))) (A6 (C4 2 (B1 (K0 (A0 (B1 (wC (.str ""))) A2)))) (A6 (L3 (Q1r (A0 (wV 0) A2)) (A9 3) (A6 (C4 4 (K0 A2)) (A6 (Q7k 4 (L3 (Q3h (B1 (wV 2))) (A9 5) (C4 4 (A3 F9 (wV 4) (M8 1 [5] (Z6f (wC (.str "01ab"))) (A9 0) P9 (B1 (A3 F9 (wV 1) (wV 0)))))))) (A6 (C4 2 (B1 (wV 4))) (C4 1 (A3 Q7x (wV 1) (wV 2))))))) (Q7m 1))))
abbrev Y1v:M Str:=["rows","text","start","states","sign"]
def Y0b:WS:=(A6 (C4 3 (K0 (A0 (B1 (wV 2)) A2))) (A6 (L3 (Z5u (wV 1)) (A9 4) (O4 3 (B1 (A3 B5 (A3 B5 (wV 0) (A3 B5 (wV 3) (X9 (wC (.int 1))))) (Z3c (wC (.str "01ab")) (wV 4)))))) (Q7m 3)))
abbrev W4f:M Str:=["machine","text","ends","rows"]
def W0z (fM:F4):WS:=(A6 (Q3x (wV 0) (K8 2 (E1 (A9 2) (E1 (A9 3) L0)))) (G2 (A3 B5 (wV 2) (A3 B5 (Z9f 0 fM (A0 (wV 3) (A0 (wV 1) A2))) (X9 (wC (.int 1)))))))
def sp_least_of:E6:=fun rs Pr=>∃m:D5,rs=[.st (mD m)]/\C0 m/\?J<=20000/\Pr (.st (mD (T4 m.1 m.2)))
def V0s:T7 sp_least_of:=by rintro rs P Q f ⟨m,e,h1,h2,h3⟩;exact⟨m,e,h1,h2,f _ h3⟩
def V5t:∀rs Pr,rs.length=1->sp_least_of rs Pr->W1m sp_least (M0 Pr) (E8 W4o rs):=by
 rintro rs Pr _ ⟨m,rfl,hw,hl,h⟩;unfold W1m;simp only[D8,P8,P4,C1,B7,A8,Q5q,Q0j,Q0h,L6,Q0i];exact⟨_,rfl,_,rfl,_,rfl,rfl,_,_,rfl,_,_,rfl,rfl,_,rfl,_,rfl,rfl,_,m.1,m.2,_,rfl,.inl rfl,.inr rfl,hw,hl,h⟩
noncomputable def Q1v (m:D5):D5:=((T4 m.1 m.2).1.map not,(T4 m.1 m.2).2)
def Q9g:E6:=fun rs Pr=>∃m:D5,rs=[.st (mD m)]/\C0 m/\?J<=20000/\Pr (.st (mD (Q1v m)))
def V0u:T7 Q9g:=by rintro rs P Q f ⟨m,e,h1,h2,h3⟩;exact⟨m,e,h1,h2,f _ h3⟩
def V6b:∀rs Pr,rs.length=1->Q9g rs Pr->W1r sp_least_of (M0 Pr) (E8 Y1s rs):=by
 rintro rs Pr _ ⟨m,rfl,hw,hl,h⟩;unfold W1r;simp only[D8,P8,P4,C1,B7,A8,Q5q,Q0j,Q0h,L6,Q0i,s_tup,E9,J9,W6,Q4r];refine⟨_,rfl,rfl,m,rfl,hw,hl,_,rfl,_,rfl,rfl,_,_,rfl,_,_,rfl,rfl,_,rfl,_,rfl,?_⟩;refine⟨?_,?_⟩
 ·have ig:=Z1d hw;rw[ag];exact sz (?A)
 refine Q0c (f:=fun d=>match d with |.bl b=>.bl (!b) |d=>d) _ none _ (fun d hd Q' q=>?_) ?_
 ·obtain⟨b,_,rfl⟩:=ar.mp hd;simp only[E9,V7v,A8];exact⟨_,rfl,q⟩
 rw[aJ];k_ne;refine⟨_,rfl,_,rfl,sz ?H,?_⟩;unfold Q1v at h;rw[show(T4 m.1 m.2).1.map ((fun d=>match d with |D.bl b=>D.bl (!b) |d=>d) ∘ D.bl)=((T4 m.1 m.2).1.map not).map D.bl by rw[aJ];rfl];exact h
def V8j (t s:Str):G4 (t++s)=G4 t++G4 s:=by
 unfold G4;rw[<-aW];congr 1;exact Array.toList_append
def V8l (h:c∈B4):G4 (R4 c)=[.str (R4 c)]:=by
 simp only[B4,au,aL,bu]at h;rcases h with rfl |rfl |rfl |rfl<;>rfl
theorem Y4r (h:c∈B4):Q8l "01ab" (R4 c)=some c:=by
 simp only[B4,au,aL,bu]at h;rcases h with rfl |rfl |rfl |rfl<;>decide +kernel
def Z2g {w:?P}(h:B9 w):G4 (K5 w)=w.map fun c=>.str (R4 c):=by
 have go:∀(w:?P) (t:Str),B9 w->G4 (w.foldl (fun t c=>t++R4 c) t)=G4 t++w.map fun c=>.str (R4 c):=by
  intro w
  induction w with
  |nil=>intro t _;simp
  |cons c w ih=>
   intro t h;rw[fX,ih _ (fun d hd=>h d (aj _ hd)),V8j,V8l (h c ak),ax,bN];rfl
 rw[K5,go w "" h];rfl
theorem V8m {d:Nat}(hc:c∈B4)(hd:d∈B4)(e:R4 c=R4 d):c=d:=by grind [Y4r,az]
def W0d:∀{u w:?P},B9 u->B9 w->K5 u=K5 w->u=w:=by
 intro u w hu hw e;have e:=congrArg G4 e;rw[Z2g hu,Z2g hw]at e;have go:∀l m:?P,B9 l->B9 m->(l.map fun c=>D.str (R4 c))=(m.map fun c=>D.str (R4 c))->l=m:=by
  intro l
  induction l with
  |nil=>intro m _ _ h;cases m with
   |nil=>rfl
   |cons _ _=>cases h
  |cons a l ih=>
   intro m hl hm h;cases m with
   |nil=>cases h
   |cons b m=>
    injection h with h1 h2
    injection h1 with h1
    rw[V8m (hl a ak) (hm b ak) h1,ih m (fun d hd=>hl d (aj _ hd)) (fun d hd=>hm d (aj _ hd)) h2]
 exact go u w hu hw e
def Q6g (rows:?O)(i:Nat):?P->?P
 |[]=>[]
 |c::w=>C5 rows i c::Q6g rows (C5 rows i c) w
def Y2k {ds:M D}{d:D}:M4 (ds++[d]) (-1)=some d:=by
 unfold M4 ixN;rw[aK (?G),aP (by rw[aq,bt];omega),Option.bind_some];have:((-1:Int)+((ds++[d]).length:Nat)).toNat=ds.length:=by rw[aq,bt];omega
 rw[this];simp
theorem Y2h (rows:?O):∀(w:?P) (i:Nat),∃l,i::Q6g rows i w=l++[run (C5 rows) i w]
 |[],i=>⟨[],rfl⟩
 |c::w,i=>by
  obtain⟨l,e⟩:=Y2h rows w (C5 rows i c);exact⟨i::l,by rw[Q6g,e];rfl⟩
def Z7z:F4:=fun rs r=>∃(m:D5) (i:Nat) (w:?P),rs=[.st (rsD m.2),.st (.str (K5 w)),.st (iD i)]/\C0 m/\i<?J/\B9 w/\w.length<=100000/\r=.nw ((i::Q6g m.2 i w).map iD)
def wsA:WS:=(O4 3 (B1 (A3 B5 (A3 B5 (wV 0) (A3 B5 (wV 3) (X9 (wC (.int 1))))) (Z3c (wC (.str "01ab")) (wV 4)))))
theorem Y2i (wf:C0 m){E:F6}:∀(w:?P) (l:?P) (i:Nat) (o4:Ac Sl),B9 w->i<?J->l.length+w.length<=200000->(∀o4,E.nx [some (.dat (rsD m.2)),o1,o2,some (.own ((l++i::Q6g m.2 i w).map iD)),o4]) ->
  D9 (A9 4) wsA E (w.map fun c=>.str (R4 c)) [some (.dat (rsD m.2)),o1,o2,some (.own ((l++[i]).map iD)),o4]
 |[],l,i,o4,_,_,_,h=>h o4
 |c::w,l,i,o4,hw,hi,hz,h=>by
  rw[aH]at hz;rw[ax,D9];simp only[wsA,L6,Q1l,E9,C7,A8,D6,V7h,Q2o];have hc:=hw c ak;have jA:c<4:=Q0r hc;obtain⟨r,hr,_,pI⟩:=Wf.row wf hi;refine⟨_,rfl,_,rfl,_,rfl,?_⟩;rw[Q1j];show B5 (.bw ((l++[i]).map iD)) (.st (.int (-1))) _;rw[Q0g];refine⟨iD i,by rw[aW];exact Y2k,?_⟩;refine R5 (i:=i) (d:=.tup (r.map iD)) (by rw[ai,hr];rfl) ?_;refine⟨_,rfl,_,rfl,_,c,rfl,Y4r hc,?_⟩;refine R5 (i:=c) (d:=iD (C5 m.2 i c)) (by rw[ai,(pI c jA).1];rfl) ?_;refine⟨_,rfl,T2 ?N,?_⟩;have e:(l++[i]).map iD++[iD (C5 m.2 i c)]=(l++[i]++[C5 m.2 i c]).map iD:=by simp
  show D9 _ _ _ _ [_,_,_,some (Sl.own ((l++[i]).map iD++[iD (C5 m.2 i c)])),_];rw[e];refine Y2i wf w (l++[i]) _ _ (fun d hd=>hw d (aj _ hd)) (pI c jA).2 ?N fun o4=>?_;rw[bN];exact h o4
def V5f:∀rs r,rs.length=3->Z7z rs r->Y0b (V1 r) (E8 Y1v rs):=by
 rintro rs r _ ⟨m,i,w,rfl,wf,hi,hw,hl,rfl⟩;unfold Y0b;simp only[D8,G6,s_lst,C1,E9,A8,B7,W0,V7e,Q9d];refine⟨_,rfl,_,rfl,sz ?H,?_⟩;rw[P7];sleep 2;rw[Z2g hw];exact Y2i wf w [] i none hw hi ?N fun o4=>⟨_,rfl,rfl⟩
def Z7y:F4:=fun rs r=>∃(m:D5) (w:?P),rs=[.st (mD m),.st (.str (K5 w))]/\C0 m/\B9 w/\w.length<=100000/\r=.st (.bl (E7 m w))
def V5d:∀rs r,rs.length=2->Z7y rs r->W0z Z7z (V1 r) (E8 W4f rs):=by
 rintro rs r _ ⟨m,w,rfl,wf,hw,hl,rfl⟩;unfold W0z;simp only[D8,P8,C7,A8,D6,V6u,C1,B7,Q5q,Q0j,Q0h,L6,Q0i,Q2o];refine⟨_,rfl,_,rfl,_,rfl,rfl,_,_,rfl,_,_,rfl,rfl,_,rfl,_,rfl,_,rfl,rfl,_,⟨m,0,w,rfl,wf,wf.pos,hw,hl,rfl⟩,?_⟩;obtain⟨l,e⟩:=Y2h m.2 w 0;rw[Q1j];show B5 (.nw ((0::Q6g m.2 0 w).map iD)) (.st (.int (-1))) _;rw[Y7b,e];refine⟨_,by rw[aW];exact Y2k,?_⟩;refine R5 (i:=run (C5 m.2) 0 w) (Q7y (Z1y wf w 0 hw wf.pos)) ?_
 rfl
mutual
theorem W6z:∀a b:D,D.eq a b=D.eq b a
 |.non,b=>by cases b<;>rfl
 |.bl a,b=>by cases b<;>simp[D.eq,Bool.beq_comm,eq_comm,BEq.comm]
 |.int a,b=>by cases b<;>simp[D.eq,eq_comm,BEq.comm]
 |.str a,b=>by cases b<;>simp[D.eq,eq_comm,BEq.comm]
 |.tup a,b=>by
  cases b with
  |tup b=>simp only[D.eq];exact eqs_comm' a b
  |_=>rfl
 |.lst a,b=>by
  cases b with
  |lst b=>simp only[D.eq];exact eqs_comm' a b
  |_=>rfl
theorem eqs_comm':∀a b:M D,Dqeqs a b=Dqeqs b a
 |[],b=>by cases b<;>rfl
 |x::xs,b=>by
  cases b with
  |nil=>rfl
  |cons y ys=>simp only[Dqeqs];rw[W6z x y,eqs_comm' xs ys]
end
abbrev tD (w:?P):D:=.str (K5 w)
def Y3 (ws:?O):?O:=ws.flatMap fun w=>B4.map fun c=>w++[c]
def Q9s:Nat->?O->?O->?O
 |0,found,_=>found
 |n+1,found,row=>Q9s n (found++Y3 row) (Y3 row)
def Q3y (n:Nat):?O:=Q9s n [[]] [[]]
theorem Z6m (ws:?O):(Y3 ws).length=4*ws.length:=by induction ws<;>grind [Y3,bI,aq,ag,aH,bz]
def V0b {k:Nat}(h:∀w∈ws,B9 w/\w.length<=k):∀w∈Y3 ws,B9 w/\w.length<=k+1:=by
 intro w hw;obtain⟨u,hu,hw⟩:=cb.mp hw;obtain⟨c,hc,rfl⟩:=ar.mp hw;refine⟨(h u hu).1.snoc hc,?_⟩;have:=(h u hu).2;rw[aq];simp only[aH,bz];omega
def Z8x {w:?P}(h:B9 w):(K5 w).length=w.length:=by
 have:=congrArg List.length (Z2g h);rw[ag]at this;rw[<-this];unfold G4;rw[ag,dh];rfl
theorem sgn4:G4 "01ab"=B4.map fun c=>.str (R4 c):=rfl
def wsI:WS:=(C4 4 (A3 F9 (wV 4) (M8 1 [5] (Z6f (wC (.str "01ab"))) (A9 0) P9 (B1 (A3 F9 (wV 1) (wV 0))))))
theorem W0e {E:F6}:∀(ws cN:?O) (o5:Ac Sl),(∀w∈ws,B9 w/\w.length<=1000)->cN.length+4*ws.length<=100000->(∀o5,E.nx [o0,o1,o2,o3,some (.own ((cN++Y3 ws).map tD)),o5]) ->
  D9 (A9 5) wsI E (ws.map tD) [o0,o1,o2,o3,some (.own (cN.map tD)),o5]
 |[],cN,o5,_,_,h=>by
  have:=h o5;simp only[Y3,yU,aZ]at this;exact this
 |w::ws,cN,o5,hw,hl,h=>by
  rw[ax,D9];rw[aH]at hl;simp only[wsI,L6,G6,C7,A8,D6,W6,V7i];sleep 2;rw[sgn4];refine⟨sz ?H,?_⟩;refine Q0c (f:=fun d=>match d with |.str s=>.str (K5 w++s) |d=>d) _ none _ (fun d hd Q' q=>?_) ?_
  ·obtain⟨c,hc,rfl⟩:=ar.mp hd;simp only[E9,C7,A8];sleep 2;rw[N7,N7,Z7a];refine⟨sz ?_,q⟩;rw[Z8x (hw w ak).1];have:=(hw w ak).2;have:(R4 c).length=1:=by
    simp only[B4,au,aL,bu]at hc;rcases hc with rfl |rfl |rfl |rfl<;>rfl
   omega
  ·rw[N8,V1j];refine⟨sz (by simp only[ag,aH,bz];omega),?_⟩;rw[P7];have e:cN.map tD++(B4.map fun c=>D.str (R4 c)).map (fun d=>match d with |.str s=>.str (K5 w++s) |d=>d)=(cN++B4.map fun c=>w++[c]).map tD:=by
    rw[aW,aJ,aJ];congr 1;exact b8 fun c _=>by show D.str (K5 w++R4 c)=.str (K5 (w++[c]));rw[Z2s]
   show D9 _ _ _ _ [o0,o1,o2,o3,some (.own (cN.map tD++_)),_];rw[e];refine W0e ws _ _ (fun u hu=>hw u (aj _ hu)) (by simp only[aq,ag,aH,bz];omega) fun o5=>?_;have:=h o5;rw[show Y3 (w::ws)=(B4.map fun c=>w++[c])++Y3 ws from rfl,<-bN]at this;exact this
def Q4u:Nat->Nat
 |0=>0
 |n+1=>4+4*Q4u n
def wsO:WS:=(A6 (C4 4 (K0 A2)) (A6 (Q7k 4 (L3 (Q3h (B1 (wV 2))) (A9 5) wsI)) (A6 (C4 2 (B1 (wV 4))) (C4 1 (A3 Q7x (wV 1) (wV 2))))))
theorem W0f {E:F6}:∀(l:M D) (k:Nat) (found row:?O) (o3 o4 o5:Ac Sl),(∀w∈row,B9 w/\w.length<=k)->k+l.length<=1000->found.length+row.length*Q4u l.length<=100000 ->
  (∀ τ',(∃o2 o3 o4 o5,τ'=[o0,some (.own ((Q9s l.length found row).map tD)),o2,o3,o4,o5])->E.nx τ') ->
  D9 (A9 3) wsO E l [o0,some (.own (found.map tD)),some (.dat (.lst (row.map tD))),o3,o4,o5]
 |[],k,found,row,o3,o4,o5,_,_,_,h=>h _ ⟨_,_,_,_,rfl⟩
 |d::l,k,found,row,o3,o4,o5,hw,hk,hl,h=>by
  rw[D9];rw[aH]at hk hl;have nj:found.length+4*row.length+4*row.length*Q4u l.length<=100000:=by
   have e:row.length*Q4u (l.length+1)=4*row.length+4*row.length*Q4u l.length:=by
    show row.length*(4+4*Q4u l.length)=_;rw[Nat.mul_add,nD row.length 4,<-Nat.mul_assoc,nD row.length 4]
   omega
  simp only[wsO,L6,D8,G6,s_lst,B7,Z7u,W0,Z1z,E9,A8,C7];refine⟨_,rfl,sz ?H,?_⟩;rw[P7];k_ne;rw[N7,Q5o];k_ne;refine W0e row [] o5 (fun w hm=>⟨(hw w hm).1,by have:=(hw w hm).2;omega⟩) ?N fun o5=>?_;sleep 2;rw[N7,Q5o,S5];sleep 2;rw[N8,N7,V1k];refine⟨_,_,rfl,rfl,sz (by simp only[ag,cq,Z6m];omega),?_⟩;rw[P7,<-aW];exact W0f l (k+1) _ _ _ _ _ (V0b hw) (?A) (by rw[aq,cq,Z6m];omega) h
def Z8c:F4:=fun rs r=>∃n:Nat,rs=[.st (iD n)]/\n<=5/\r=.nw ((Q3y n).map tD)
def V6f:∀rs r,rs.length=1->Z8c rs r->W1l (V1 r) (E8 Y1o rs):=by
 rintro rs r _ ⟨n,rfl,hn,rfl⟩;unfold W1l;simp only[D8,G6,s_lst,C1,B7,E9,D6,W0,Z2a,A8,Q9d];refine⟨_,rfl,sz ?H,?_⟩;rw[P7];refine⟨_,rfl,sz ?H,?_⟩;refine⟨_,rfl,_,rfl,?A,?A,?_⟩;have len:(T1 0 (n:Int).toNat).length=n:=by unfold T1;simp
 have hs:Q4u n<=5000:=by
  have:∀k,k<=5->Q4u k<=5000:=?G
  exact this n hn
 refine W0f _ 0 [[]] [[]] _ _ _ (fun w hw=>?_) (?A) (by rw[len];simp;omega) fun τ' ⟨o2,o3,o4,o5,e⟩=>?_
 ·rw[aG.mp hw];exact⟨(fun c hc=>nomatch hc),am _⟩
 subst e;rw[len];exact⟨_,rfl,rfl⟩
theorem Q6y (wf:Wf es rows){i:Nat}(hi:i<es.length)(hc:c∈B4):C5 rows i c<es.length:=by
 obtain⟨_,_,_,h⟩:=wf.row hi;exact(h c (by simp only[B4,au,aL,bu]at hc;omega)).2
section
variable [DecidableEq α]
theorem Y8x {step:α->Nat->α}:∀(n:Nat) (ks:M α) (rs:?O),Q9 [0] rs=List.range ks.length->(∀s,s<rs.length->s<(Q9 [0] (rs.take s)).length)->∀s,s<(Q0 step n ks rs).2.length->s<(Q9 [0] ((Q0 step n ks rs).2.take s)).length
 |0,ks,rs,_,h=>h
 |n+1,ks,rs,hm,h=>by
  unfold Q0;split
  ·exact h
  ·rename_i k e;have hp:=(Q6z (step k) B4 ks []).length_le;have rF:Q9 [0] (rs++[(G9 (step k) B4 ks []).2])=List.range (G9 (step k) B4 ks []).1.length:=by
    rw[Z6w,hm,Z7s,cq,Z1l (step k) ks.length B4 ks [] _ rfl (am _) (fun x hx=>.inl hx) (fun x hx=>by cases hx),range_add];congr 1;omega
   refine Y8x n _ _ rF fun s hs=>?_;rw[aq,aH,bz]at hs
   by_cases lt:s<rs.length
   ·rw[ci (dO lt)];exact h s lt
   ·have:s=rs.length:=?A
    subst this;rw[ci (am _),yQ,hm,bc];exact(aM.mp e).1
end
theorem W7n {k:Nat}(h:k<es.length):(es.map not).getD k false=!(es.getD k false):=by grind [av,ai,aa]
theorem Y6h:∀(rs:?O) (met:?P),met <+: Q9 met rs
 |[],_=>bC _
 |r::rs,met=>(cB _ _).trans (Y6h rs _)
theorem Y6g:∀(rs qs:?O) (met:?P),Q9 met (rs++qs)=Q9 (Q9 met rs) qs
 |[],_,_=>rfl
 |r::rs,qs,met=>Y6g rs qs _
theorem Wf.rowEq (w:Wf es rows){s:Nat}(h:s<es.length):rows[s]?=some (B4.map (C5 rows s)):=by
 obtain⟨r,e,l,g⟩:=w.row h;rw[e];have g0:=(g 0 (?G)).1;have g1:=(g 1 (?G)).1;have g2:=(g 2 (?G)).1;have g3:=(g 3 (?G)).1
 match r,l with
 |[a,b,c,d],_=>
  injection g0 with g0;injection g1 with g1;injection g2 with g2;injection g3 with g3
  show some [a,b,c,d]=some [C5 rows s 0,C5 rows s 1,C5 rows s 2,C5 rows s 3];rw[<-g0,<-g1,<-g2,<-g3]
theorem Z6v {met:?P}{x:Nat}:∀(r pre:?P),x∈Q2l met pre r->x∈r
 |[],pre,h=>by rw[Q2l]at h;cases h
 |y::r,pre,h=>by
  rw[Q2l]at h;split at h
  ·exact aj _ (Z6v r _ h)
  ·rcases au.mp h with rfl |h
   ·exact ak
   ·exact aj _ (Z6v r _ h)
theorem Y6c {x:Nat}:∀(rs:?O) (met:?P),x∈Q9 met rs->x∈met\/∃r∈rs,x∈r
 |[],met,h=>.inl h
 |r::rs,met,h=>by
  rw[Q9]at h;rcases Y6c rs _ h with h |⟨q,hq,h⟩
  ·rcases aO.mp h with h |h
   ·exact .inl h
   ·exact .inr ⟨r,ak,Z6v _ _ h⟩
  ·exact .inr ⟨q,aj _ hq,h⟩
section
variable {w:WE}
def V2r (w:C0 m):(Q1v m).1.length<=?J:=by
 have:=Z1d w;have e:(Q1v m).1.length=(T4 m.1 m.2).1.length:=by unfold Q1v;simp
 omega
end
abbrev Z4b:M Str:=["machine","ends","rows","keys","reached_rows","steps"]
def W1x:WE:=(A3 B5 (A3 B5 (wV 2) (wV 0)) (wV 1))
def Z9z (dZ:O6)  (sp_walkedK:F4)(sp_distances:E6):WS:=(A6 (Q3x (wV 0) (K8 2 (E1 (A9 1) (E1 (A9 2) L0)))) (A6 (Q3x (Z2x dZ 2 [("rows",2)] W1x sp_walkedK (wC (.int 0))) (K8 2 (E1 (A9 3) (E1 (A9 4) L0)))) (A6 (C4 5 (E4 sp_distances (A0 (M8 1 [1] (Q1g (wV 3)) (A9 0) P9 (B1 (A3 B5 (wV 1) (wV 0)))) (A0 (wV 4) (A0 (wC (.bl true)) A2))))) (G2 (M8 1 [5] (Q1s (wV 4)) (A9 0) P9 (B1 (M8 1 [1] (Q1s (wV 0)) (A9 0) (A3 (Z1 true) (A3 B5 (wV 1) (wV 0)) (wC .non)) (B1 (wV 0)))))))))
abbrev Z3x:M Str:=["machine","onward","awaited","goals","goal","lengths","waiting","state"]
def W1h (sp_least_text:E6)(sp_onward_goals:E6):WS:=(A6 (L8 (A3 (Z1 false) (E4 sp_least_text (A0 (wV 0) A2)) (wC .non)) (G2 (X9 (wC (.int 1)))) L9) (A6 (C4 1 (E4 sp_onward_goals (A0 (wV 0) A2))) (A6 (C4 2 (A3 X7 (K0 (A0 (B1 (wC (.int 0))) A2)) (D4 E3 (A0 (wV 1) A2)))) (A6 (L3 (Z0t 1) (A9 3) (L3 (Q3h (B1 (wV 3))) (A9 4) (Q7i 2 (fun i j=>i+j) (wV 4) (wC (.int 1))))) (A6 (C4 5 (A3 X7 (K0 (A0 (B1 (wC (.int 0))) A2)) (D4 E3 (A0 (wV 1) A2)))) (A6 (C4 6 (M8 2 [] (Z0z (A0 (wV 2) A2)) (K8 2 (E1 (A9 0) (E1 (A9 1) L0))) (A3 (J5 60 false) (wV 1) (wC (.int 0))) (B1 (wV 0)))) (A6 (Q2v (Q2u (wV 6)) (A6 (Z9r 6 (A9 7)) (L3 (Q3h (B1 (A3 B5 (wV 1) (wV 7)))) (A9 4) (A6 (Z3g 5 (wV 4) (B1 (D4 Q8p (A0 (A3 B5 (wV 5) (wV 4)) (A0 (A3 F9 (A3 B5 (wV 5) (wV 7)) (wC (.int 1))) A2))))) (A6 (Q7i 2 (fun i j=>i-j) (wV 4) (wC (.int 1))) (L8 (A3 (J5 60 false) (A3 B5 (wV 2) (wV 4)) (wC (.int 0))) (O4 6 (B1 (wV 4))) L9)))))) (G2 (wIf (A3 (J5 60 false) (D4 Q1i (A0 (wV 2) A2)) (wC (.int 0))) (D4 Q1i (A0 (wV 5) A2)) (wC .non))))))))))
abbrev W4l:M Str:=["machine"]
def W1g (sp_last_length:E6):WS:=(G2 (wB (A3 (Z1 true) (E4 sp_last_length (A0 (wV 0) A2)) (wC .non))))
abbrev W4q:M Str:=["machine","last"]
def W1n (sp_last_length:E6):WS:=(A6 (C4 1 (E4 sp_last_length (A0 (wV 0) A2))) (G2 (wIf (A3 (J5 60 false) (wV 1) (X9 (wC (.int 1)))) (wC .non) (wV 1))))
abbrev W4p:M Str:=["machine","ends","rows"]
def W1w:WE:=(A3 B5 (A3 B5 (wV 2) (wV 0)) (wV 1))
def Y0g:WE:=(A3 B5 (wV 1) (wV 0))
def Z9y (dZ:O6)  (Q7c:F4):WS:=(A6 (Q3x (wV 0) (K8 2 (E1 (A9 1) (E1 (A9 2) L0)))) (G2 (W0y dZ 2 1 [("rows",2)] [("ends",1)] W1w Y0g Q7c (wC (.int 0)))))
abbrev Y1q:M Str:=["machine"]
def W1o:WS:=(G2 (M8 1 [] (Q1s (A3 B5 (wV 0) (wC (.int 0)))) (A9 0) P9 (B1 (wIf (Q2u (wV 0)) (wC (.int 1)) (wC (.int 0))))))
abbrev Z4a:M Str:=["machine","counts"]
def W1q:WS:=(G2 (M8 1 [1] (Q1s (A3 B5 (wV 0) (wC (.int 1)))) (A9 0) P9 (B1 (D4 Q2r (A0 (M8 1 [1] (Q1s (wV 0)) (A9 0) P9 (B1 (A3 B5 (wV 1) (wV 0)))) A2)))))
abbrev W4k:M Str:=["machine","long","last","counts","step"]
def W1f (sp_last_length:E6)(sp_no_signs:F4)(sp_one_more_sign:F4):WS:=(A6 (C4 2 (E4 sp_last_length (A0 (wV 0) A2))) (A6 (L8 (Q3w (A3 (Z1 true) (wV 2) (wC .non)) (A3 (L5 fun i j=>decide (j<i)) (wV 1) (wV 2))) (G2 (wC (.int 0))) L9) (A6 (C4 3 (L7 sp_no_signs (A0 (wV 0) A2))) (A6 (L3 (Q1r (A0 (wV 1) A2)) (A9 4) (C4 3 (L7 sp_one_more_sign (A0 (wV 0) (A0 (wV 3) A2))))) (G2 (A3 B5 (wV 3) (wC (.int 0))))))))
abbrev Y1w:M Str:=["machine","tables","size","found","counts","longer","text","state","sign","goal"]
def W1s:WS:=(A6 (C4 3 (wIf (A3 (L5 fun i j=>decide (j<i)) (A3 B5 (A3 B5 (wV 1) (X9 (wC (.int 1)))) (wC (.int 0))) (wC (.int 0))) (K0 (A0 (B1 (Q0l (A0 (B1 (wC (.str ""))) (A0 (B1 (wC (.int 0))) A2)))) A2)) (K0 A2))) (A6 (L3 (Z0u (A0 (B1 (wSl (wV 1) Q3n (Q3o (X9 (wC (.int 1)))))) A2)) (A9 4) (A6 (C4 5 (K0 A2)) (A6 (L3 (Z0t 3) (K8 2 (E1 (A9 6) (E1 (A9 7) L0))) (L3 (Z0v (A0 (wC (.str "01ab")) (A0 (A3 B5 (A3 B5 (wV 0) (wC (.int 1))) (wV 7)) A2))) (K8 2 (E1 (A9 8) (E1 (A9 9) L0))) (L8 (A3 (L5 fun i j=>decide (j<i)) (A3 B5 (wV 4) (wV 9)) (wC (.int 0))) (O4 5 (B1 (Q0l (A0 (B1 (A3 F9 (wV 6) (wV 8))) (A0 (B1 (wV 9)) A2))))) L9))) (C4 3 (wSl (wV 5) Q3n (Q3o (wV 2))))))) (G2 (M8 2 [] (Q1g (wSl (wV 3) Q3n (Q3o (wV 2)))) (K8 2 (E1 (A9 0) (E1 (A9 1) L0))) P9 (B1 (wV 0))))))
abbrev W4s:M Str:=["machine","long","last","told","tables"]
def W1t (sp_last_length:E6)(sp_no_signs:F4)(sp_texts_of_length:F4)(sp_one_more_sign:F4):WS:=(A6 (C4 2 (E4 sp_last_length (A0 (wV 0) A2))) (A6 (C4 3 (K0 A2)) (A6 (C4 4 (K0 (A0 (B1 (L7 sp_no_signs (A0 (wV 0) A2))) A2))) (A6 (Q2v (A3 (L5 fun i j=>decide (i<=j)) (D4 E3 (A0 (wV 4) A2)) (A3 F9 (wIf (A3 (Z1 false) (wV 2) (wC .non)) (wV 1) (D4 Q3l (A0 (wV 1) (A0 (wV 2) A2)))) (wC (.int 1)))) (A6 (Q7j 3 (L7 sp_texts_of_length (A0 (wV 0) (A0 (wV 4) (A0 (A3 B5 (A3 B5 (wV 4) (X9 (wC (.int 1)))) (wC (.int 0))) A2))))) (O4 4 (B1 (L7 sp_one_more_sign (A0 (wV 0) (A0 (A3 B5 (wV 4) (X9 (wC (.int 1)))) A2))))))) (Q7m 3)))))
abbrev W4j:M Str:=["machine","size","last","told","tables"]
def W1e (sp_last_length:E6)(sp_no_signs:F4)(sp_texts_of_length:F4)(sp_one_more_sign:F4):WS:=(A6 (C4 2 (E4 sp_last_length (A0 (wV 0) A2))) (A6 (C4 3 (K0 A2)) (A6 (C4 4 (K0 (A0 (B1 (L7 sp_no_signs (A0 (wV 0) A2))) A2))) (A6 (Q2v (Q3w (A3 (L5 fun i j=>decide (i<j)) (D4 E3 (A0 (wV 3) A2)) (wV 1)) (wOr (A3 (Z1 false) (wV 2) (wC .non)) (A3 (L5 fun i j=>decide (i<=j)) (D4 E3 (A0 (wV 4) A2)) (A3 F9 (wV 2) (wC (.int 1)))))) (A6 (Q7j 3 (L7 sp_texts_of_length (A0 (wV 0) (A0 (wV 4) (A0 (A3 (P6 NoC fun i j=>i-j) (wV 1) (D4 E3 (A0 (wV 3) A2))) A2))))) (O4 4 (B1 (L7 sp_one_more_sign (A0 (wV 0) (A0 (A3 B5 (wV 4) (X9 (wC (.int 1)))) A2))))))) (Q7m 3)))))
def wl:Nat->?O
 |0=>[[]]
 |n+1=>Y3 (wl n)
theorem J1c:∀(n k:Nat) (found:?O),Q9s n found (wl k)=found++(List.range n).flatMap fun i=>wl (k+1+i):=by intro n;induction n<;>grind [Q9s,Y3,wl,dI,bI,yV,bN]
theorem Y0l (n:Nat):Q3y n=(List.range (n+1)).flatMap wl:=by grind [Q3y,wl,J1c,dI,bI,yV]
theorem X6:∀{n:Nat}{w:?P},w∈wl n ↔ B9 w/\w.length=n
 |0,w=>by
  rw[wl,aG];constructor
  ·rintro rfl;exact⟨B9.nil,rfl⟩
  ·rintro ⟨_,h⟩;exact cm.mp h
 |n+1,w=>by
  rw[wl,Y3,cb];constructor
  ·rintro ⟨u,hu,hw⟩;obtain⟨c,hc,rfl⟩:=ar.mp hw;obtain⟨h1,h2⟩:=X6.mp hu;exact⟨h1.snoc hc,by rw[aq,h2];rfl⟩
  ·rintro ⟨h1,h2⟩;have dg:w≠[]:=fun e=>by rw[e]at h2;cases h2
   have e:=List.dropLast_concat_getLast dg;refine⟨w.dropLast,X6.mpr ⟨fun c hc=>h1 c (List.dropLast_subset w hc),by rw[qi,h2];rfl⟩,ar.mpr ⟨w.getLast dg,h1 _ (yS dg),e⟩⟩
def Y6f {w:?P}:w∈Q3y n ↔ B9 w/\w.length<=n:=by
 rw[Y0l,cb];constructor
 ·rintro ⟨i,hi,h⟩;obtain⟨a,b⟩:=X6.mp h;exact⟨a,by have:=aQ.mp hi;omega⟩
 ·rintro ⟨a,b⟩;exact⟨w.length,aQ.mpr (?A),X6.mpr ⟨a,rfl⟩⟩
def E5 (w:?P):Nat:=w.foldl (fun n c=>4*n+c+1) 0
def Q3m (w:?P)(c:Nat):E5 (w++[c])=4*E5 w+c+1:=by unfold E5;rw[iC];rfl
theorem Z4u (h:c∈B4):c<4:=by grind [au,aL]
theorem V0a (h:ws.Pairwise fun a b=>E5 a<E5 b):(Y3 ws).Pairwise fun a b=>E5 a<E5 b:=by
 induction ws with
 |nil=>exact List.Pairwise.nil
 |cons w ws ih=>
  obtain⟨h1,h2⟩:=i0.mp h;rw[Y3,bI,gj];refine⟨?_,ih h2,fun a ha b hb=>?_⟩
  ·simp only[B4,ax,cw];simp[i0,Q3m]
  ·obtain⟨c,hc,rfl⟩:=ar.mp ha;obtain⟨v,hv,hb⟩:=cb.mp hb;obtain⟨d,hd,rfl⟩:=ar.mp hb;have:=h1 v hv;rw[Q3m,Q3m];have:=Z4u hc;omega
theorem W1y:∀n,(wl n).Pairwise fun a b=>E5 a<E5 b
 |0=>by rw[wl];simp
 |n+1=>V0a (W1y n)
def lo:Nat->Nat
 |0=>0
 |n+1=>4*lo n+1
def Y6z (w:?P):B9 w->lo w.length<=E5 w/\E5 w<lo (w.length+1):=by
 refine Q9f (P:=fun w=>B9 w->lo w.length<=E5 w/\E5 w<lo (w.length+1)) ?_ ?_ w
 ·intro _;exact⟨am _,by show(0:Nat)<4*0+1;omega⟩
 ·intro w c ih hw;obtain⟨h1,h2⟩:=ih fun d hd=>hw d (aO.mpr (.inl hd));have hc:=Z4u (hw c ?H);rw[Q3m,aq];show 4*lo w.length+1<=_/\_<4*lo (w.length+1)+1;omega
theorem W9z {i j:Nat}(h:i<=j):lo i<=lo j:=by
 induction j with
 |zero=>rw[Nat.le_zero.mp h];exact am _
 |succ j ih=>
  rcases aX j i with z |z
  ·rw[show i=j+1 by omega];exact am _
  ·have:=ih z;show lo i<=4*lo j+1;omega
def Y6y {u w:?P}(hu:B9 u)(hw:B9 w)(h:u.length<w.length):E5 u<E5 w:=
 aB (Y6z u hu).2 (aV (W9z h) (Y6z w hw).1)
def W1z (n:Nat):(Q3y n).Pairwise fun a b=>E5 a<E5 b:=by
 rw[Y0l];have key:∀l:?P,l.Pairwise (·<·)->(l.flatMap wl).Pairwise fun a b=>E5 a<E5 b:=by
  intro l
  induction l with
  |nil=>intro _;exact List.Pairwise.nil
  |cons i l ih=>
   intro h;obtain⟨h1,h2⟩:=i0.mp h;rw[bI,gj];refine⟨W1y i,ih h2,fun a ha b hb=>?_⟩;obtain⟨j,hj,hb⟩:=cb.mp hb;obtain⟨a1,a2⟩:=X6.mp ha;obtain⟨b1,b2⟩:=X6.mp hb;exact Y6y a1 b1 (by have:=h1 j hj;omega)
 exact key _ nA
def P3 (m:D5):Nat->?P
 |0=>m.1.map fun b=>if b=true then 1 else 0
 |l+1=>m.2.map fun r=>(r.map fun g=>(P3 m l).getD g 0).sum
def K6 (m:D5)(l s:Nat):Nat:=(P3 m l).getD s 0
theorem W6d (wf:C0 m):∀l,(P3 m l).length=?J
 |0=>by rw[P3,ag]
 |l+1=>by rw[P3,ag];exact wf.len
theorem Y3k (m:D5)(s:Nat):K6 m 0 s=if m.1.getD s false=true then 1 else 0:=by grind [K6,P3,av,ai]
theorem Y3j (wf:C0 m){s:Nat}(h:s<?J)(l:Nat):K6 m (l+1) s=(B4.map fun c=>K6 m l (C5 m.2 s c)).sum:=by
 unfold K6;rw[P3,av,ai,Wf.rowEq wf h];show((B4.map (C5 m.2 s)).map _).sum=_;rw[aJ];rfl
def Q5t (m:D5)(p:?P)(c:Nat):F5 m (p++[c])=C5 m.2 (F5 m p) c:=by unfold F5;rw[Q3q];rfl
theorem Y3m (wf:C0 m):∀(k l:Nat),((wl k).map fun p=>K6 m l (F5 m p)).sum=K6 m (l+k) 0
 |0,l=>by simp[wl,F5,run]
 |k+1,l=>by
  rw[show l+(k+1)=(l+1)+k by omega,<-Y3m wf k (l+1),wl,Y3];have key:∀ws:?O,(∀w∈ws,B9 w)->((ws.flatMap fun w=>B4.map fun c=>w++[c]).map fun p=>K6 m l (F5 m p)).sum=(ws.map fun p=>K6 m (l+1) (F5 m p)).sum:=by
   intro ws
   induction ws with
   |nil=>intro _;rfl
   |cons w ws ih=>
    intro h;rw[bI,aW,List.sum_append,ih fun u hu=>h u (aj _ hu),ax (f:=fun p=>K6 m (l+1) (F5 m p)),cH,Y3j wf (Q2a wf w (h w ak)),aJ];congr 2;exact b8 fun c _=>by show K6 m l (F5 m (w++[c]))=_;rw[Q5t]
  exact key _ fun w hw=>(X6.mp hw).1
def Z4t (wf:C0 m)(k:Nat):K6 m k 0=((wl k).filter (E7 m)).length:=by
 have:=Y3m wf k 0;rw[cZ]at this;rw[<-this];have key:∀ws:?O,(ws.map fun p=>K6 m 0 (F5 m p)).sum=(ws.filter (E7 m)).length:=by
  intro ws
  induction ws with
  |nil=>rfl
  |cons w ws ih=>
   rw[ax,cH,ih,Y3k,ce];show(if E7 m w=true then 1 else 0)+_=_;split
   ·rw[aH];omega
   ·omega
 exact key _
def fk (m:D5)(l k:Nat):?O:=(wl k).filter fun p=>decide (0<K6 m l (F5 m p))
def ext (m:D5)(l:Nat)(p:?P):?O:=(B4.filter fun c=>decide (0<K6 m l (C5 m.2 (F5 m p) c))).map fun c=>p++[c]
theorem Y9y {l:?P}:0<l.sum ↔ ∃x∈l,0<x:=by induction l<;>grind [cH,cA,aj,ak]
theorem Y3l (wf:C0 m){s:Nat}(h:s<?J){l:Nat}:0<K6 m (l+1) s ↔ ∃c∈B4,0<K6 m l (C5 m.2 s c):=by grind [Y3j,Y9y]
def Y4g (wf:C0 m)(l k:Nat):(fk m (l+1) k).flatMap (ext m l)=fk m l (k+1):=by
 unfold fk;rw[wl,Y3];have key:∀ws:?O,(∀w∈ws,B9 w)->(ws.filter fun p=>decide (0<K6 m (l+1) (F5 m p))).flatMap (ext m l)=(ws.flatMap fun w=>B4.map fun c=>w++[c]).filter fun p=>decide (0<K6 m l (F5 m p)):=by
  intro ws
  induction ws with
  |nil=>intro _;rfl
  |cons w ws ih=>
   intro h;have hw:=Q2a wf w (h w ak);have e:ext m l w=(B4.map fun c=>w++[c]).filter fun p=>decide (0<K6 m l (F5 m p)):=by
    rw[jO];unfold ext;congr 1;exact fw fun c _=>by show _=decide (0<K6 m l (F5 m (w++[c])));rw[Q5t]
   rw[bI,List.filter_append,<-ih fun u hu=>h u (aj _ hu),ce,<-e];split
   ·rw[bI]
   ·rename_i hn;have:ext m l w=[]:=by
     unfold ext;rw[sK,fL];intro c hc hp;exact hn (bP ((Y3l wf hw).mpr ⟨c,hc,cp hp⟩))
    rw[this];rfl
 exact key _ fun w hw=>(X6.mp hw).1
def Y4f (wf:C0 m){l k:Nat}{p:?P}(h:p∈fk m (l+1) k):ext m l p≠[]:=by
 obtain⟨h1,h2⟩:=bx.mp h;obtain⟨c,hc,q⟩:=(Y3l wf (Q2a wf p (X6.mp h1).1)).mp (cp h2);intro e;unfold ext at e;rw[sK,fL]at e;exact e c hc (bP q)
def W7f (m:D5)(k:Nat):fk m 0 k=(wl k).filter (E7 m):=by
 unfold fk;refine fw fun p _=>?_;rw[Y3k];show _=m.1.getD (F5 m p) false;cases m.1.getD (F5 m p) false<;>rfl
def Y4h (f:α->M β):∀(l:M α) (n:Nat),(∀x∈l,f x≠[])->((l.take n).flatMap f).take n=(l.flatMap f).take n:=by
 have key:∀(l:M α) (n k:Nat),n<=k->(∀x∈l,f x≠[])->((l.take k).flatMap f).take n=(l.flatMap f).take n:=by
  intro l
  induction l with
  |nil=>intro n k _ _;rw[List.take_nil]
  |cons x l ih=>
   intro n k hk h;cases n with
   |zero=>rw[List.take_zero,List.take_zero]
   |succ n=>
    cases k with
    |zero=>omega
    |succ k=>
     rw[List.take_succ_cons,bI,bI,j7,j7];congr 1;have:0<(f x).length:=eE.mpr (h x ak);exact ih _ _ (?A) fun y hy=>h y (aj _ hy)
 exact fun l n h=>key l n n (am _) h
def W0n (wf:C0 m){w:?P}(hw:B9 w)(hl:?J<=w.length):∃i j,i<j/\j<=?J/\F5 m (w.take i)=F5 m (w.take j):=by
 refine cY fun no=>?_;have nd:((List.range (?J+1)).map fun i=>F5 m (w.take i)).Nodup:=by
  rw[List.nodup_iff_pairwise_ne,yo];refine List.Pairwise.imp_of_mem (R:=fun a b=>a<b) (fun {a b} ha hb h e=>no ⟨a,b,h,?_,e⟩) nA;have:=aQ.mp hb;omega
 have:=nd.length_le_of_subset (l₂:=List.range ?J) fun x hx=>by
  obtain⟨i,_,rfl⟩:=ar.mp hx;exact aQ.mpr (Q2a wf _ fun c hc=>hw c (gk hc))
 simp at this;omega
theorem Y2c (m:D5){w:?P}{i j:Nat}(e:F5 m (w.take i)=F5 m (w.take j)):E7 m (w.take i++w.drop j)=E7 m w:=by grind [F5,oX,Q3q,E7]
def B9.parts {w:?P}(h:B9 w)(i j:Nat):B9 (w.take i++w.drop j):=fun c hc=>(aO.mp hc).elim (fun q=>h c (gk q)) fun q=>h c (List.mem_of_mem_drop q)
def cut (wf:C0 m){w:?P}(hw:B9 w)(ha:E7 m w=true)(hl:?J<=w.length):∃u,B9 u/\E7 m u=true/\u.length<w.length/\w.length<=u.length+?J:=by
 obtain⟨i,j,h1,h2,e⟩:=W0n wf hw hl;refine⟨w.take i++w.drop j,hw.parts i j,by rw[Y2c m e];exact ha,?_,?_⟩<;>(rw[aq,bD,fI];omega)
def Z7n (wf:C0 m){w:?P}(hw:B9 w)(ha:E7 m w=true)(hl:?J<=w.length):∃u,B9 u/\E7 m u=true/\w.length<u.length:=by
 obtain⟨i,j,h1,h2,e⟩:=W0n wf hw hl;refine⟨w.take j++w.drop i,hw.parts j i,by rw[Y2c m e.symm];exact ha,?_⟩;rw[aq,bD,fI];omega
def O7 (m:D5)(w:?P):Prop:=B9 w/\E7 m w=true
def Inf (m:D5):Prop:=∀N,∃w,O7 m w/\N<=w.length
def J1b (wf:C0 m)(h:Inf m)(N:Nat):∃w,O7 m w/\N<=w.length/\w.length<N+?J:=by
 obtain⟨w,hw,hN⟩:=h N;have key:∀(k:Nat) (w:?P),w.length<=k->O7 m w->N<=w.length->∃w,O7 m w/\N<=w.length/\w.length<N+?J:=by
  intro k
  induction k with
  |zero=>intro w hk hw hN;exact⟨w,hw,hN,by have:=wf.pos;omega⟩
  |succ k ih=>
   intro w hk hw hN
   by_cases hl:w.length<N+?J
   ·exact⟨w,hw,hN,hl⟩
   ·obtain⟨u,u1,u2,u3,u4⟩:=cut wf hw.1 hw.2 (?A);exact ih u (?A) ⟨u1,u2⟩ (?A)
 exact key _ w (am _) hw hN
def Z7 (m:D5)(d:D):Prop:=(d=.int (-1)/\∀w,¬ O7 m w)\/(∃L:Nat,d=.int (L:Int)/\(∃w,O7 m w/\w.length=L)/\∀w,O7 m w->w.length<=L)\/(d=.non/\Inf m)
def Y5h (wf:C0 m)  (h:∀w,O7 m w->w.length<=L)(e:∃w,O7 m w/\w.length=L):L<?J:=by
 obtain⟨w,hw,rfl⟩:=e;refine cY fun no=>?_;obtain⟨u,u1,u2,u3⟩:=Z7n wf hw.1 hw.2 (?A);have:=h u ⟨u1,u2⟩;omega
section
variable [DecidableEq α]{step:α->Nat->α}{start:α}{fin:α->Bool}
structure OkT (step:α->Nat->α)(start:α)(T:M (α×Str))(ws:?O):Prop where
 len:ws.length=T.length
 at_:∀(i:Nat) (w:?P),ws[i]?=some w->T[i]?=some (run step start w,K5 w)/\B9 w
 ord:ws.Pairwise fun a b=>E5 a<E5 b
def Z7t (w:?P)(c:Nat):run step start (w++[c])=step (run step start w) c:=by rw[Q3q];rfl
def Z1s {w:?P}(hw:B9 w)  (hc:c∈B4){T:M (α×Str)}  (O:OkT step start T ws)(hb:∀v∈ws,E5 v<=4*E5 w+c):
  ∃vs,ws <+: vs/\OkT step start (Q0b T (step (run step start w) c) (K5 w++R4 c)) vs/\(∀v∈vs,E5 v<=4*E5 w+c+1)/\∃v∈vs,run step start v=step (run step start w) c/\E5 v<=E5 (w++[c]):=by
 unfold Q0b;split
 ·rename_i h;obtain⟨q,hq,e⟩:=ar.mp h;obtain⟨i,hi,e2⟩:=bn.mp hq;have ii:i<ws.length:=by rw[O.len];exact hi
  obtain⟨a1,a2⟩:=O.at_ i _ (aa ii);rw[aa hi,e2]at a1;have e3:q=(run step start ws[i],K5 ws[i]):=az a1;refine⟨ws,bC _,O,fun v hv=>fq (hb v hv),ws[i],bv ii,?_,?_⟩
  ·rw[<-e,e3]
  ·rw[Q3m];have:=hb _ (bv ii);omega
 ·refine⟨ws++[w++[c]],cB _ _,⟨by simp[O.len],fun i v e=>?_,?_⟩,fun v hv=>?_,w++[c],by simp,Z7t w c,am _⟩
  ·rcases aX i ws.length with h |h
   ·rw[aI h]at e;obtain⟨a1,a2⟩:=O.at_ i v e;exact⟨by rw[aI (by rw[<-O.len];exact h)];exact a1,a2⟩
   ·rw[aT h]at e;have hz:i-ws.length=0:=by
     rcases cA (i-ws.length)with z |z
     ·exact z
     ·rw[ay.mpr ?N]at e;cases e
    rw[hz]at e;cases e;refine⟨?_,hw.snoc hc⟩;rw[aT (by rw[<-O.len];exact h),<-O.len,hz,Z7t,Z2s];rfl
  ·rw[gj];refine⟨O.ord,by simp,fun a ha b iP=>?_⟩;rw[aG.mp iP,Q3m];have:=hb a ha;omega
  ·rcases aO.mp hv with h |h
   ·exact fq (hb v h)
   ·rw[aG.mp h,Q3m];exact am _
def V1y {w:?P}(hw:B9 w){T:M (α×Str)}  (O:OkT step start T ws)(hb:∀v∈ws,E5 v<=4*E5 w):
  ∃vs,ws <+: vs/\OkT step start (goT (step (run step start w)) (K5 w) X3 T) vs/\(∀v∈vs,E5 v<=4*E5 w+4)/\∀c∈B4,∃v∈vs,run step start v=step (run step start w) c/\E5 v<=E5 (w++[c]):=by
 obtain⟨v0,p0,O0,b0,r0⟩:=Z1s hw (c:=0) (?G) O hb;obtain⟨v1,p1,O1,b1,r1⟩:=Z1s hw (c:=1) (?G) O0 b0;obtain⟨v2,p2,O2,b2,r2⟩:=Z1s hw (c:=2) (?G) O1 b1;obtain⟨v3,p3,O3,b3,r3⟩:=Z1s hw (c:=3) (?G) O2 b2;refine⟨v3,p0.trans (p1.trans (p2.trans p3)),O3,b3,fun c hc=>?_⟩;simp only[B4,au,aL,bu]at hc;rcases hc with rfl |rfl |rfl |rfl
 ·obtain⟨v,h1,h2⟩:=r0;exact⟨v,(p1.trans (p2.trans p3)).subset h1,h2⟩
 ·obtain⟨v,h1,h2⟩:=r1;exact⟨v,(p2.trans p3).subset h1,h2⟩
 ·obtain⟨v,h1,h2⟩:=r2;exact⟨v,p3.subset h1,h2⟩
 ·exact r3
structure FtM (step:α->Nat->α)(start:α)(fin:α->Bool)(T:M (α×Str))(ws:?O)(p:Nat):Prop where
 ok:OkT step start T ws
 zero:ws[0]?=some []
 past:∀(i:Nat) (w:?P),i<p->ws[i]?=some w->fin (run step start w)=false/\∀c∈B4,∃v∈ws,run step start v=step (run step start w) c/\E5 v<=E5 (w++[c])
 top:∀w,ws[p]?=some w->∀v∈ws,E5 v<=4*E5 w
def W7j {T:M (α×Str)}  {p:Nat}(F:FtM step start fin T ws p)(w:?P):B9 w->(∃v∈ws,run step start v=run step start w/\E5 v<=E5 w)\/∃(i:Nat) (v:?P),p<=i/\ws[i]?=some v/\E5 v<=E5 w:=by
 refine Q9f (P:=fun w=>B9 w->(∃v∈ws,run step start v=run step start w/\E5 v<=E5 w)\/∃(i:Nat) (v:?P),p<=i/\ws[i]?=some v/\E5 v<=E5 w) ?_ ?_ w
 ·intro _;exact .inl ⟨[],aD F.zero,rfl,am _⟩
 ·intro u c ih hw;have hc:=hw c ?H;have bW:E5 u<E5 (u++[c]):=by rw[Q3m];omega
  rcases ih fun d hd=>hw d (by simp[hd])with⟨v,hv,e,h⟩ |⟨i,v,hi,e,h⟩
  ·obtain⟨j,hj,e2⟩:=bn.mp hv;have ej:ws[j]?=some v:=by rw[aa hj,e2]
   rcases aX j p with hp |hp
   ·obtain⟨_,q⟩:=F.past j v hp ej;obtain⟨x,x1,x2,x3⟩:=q c hc;refine .inl ⟨x,x1,by rw[x2,Z7t,e],?_⟩;rw[Q3m]at x3 ⊢;omega
   ·exact .inr ⟨j,v,hp,ej,?A⟩
  ·exact .inr ⟨i,v,hi,e,?A⟩
def Y7h (h:ws.Pairwise fun a b=>E5 a<E5 b){i j:Nat}{a:?P}(hi:ws[i]?=some a)(hj:ws[j]?=some b)(hl:i<=j):E5 a<=E5 b:=by
 rcases aX i j with h1 |h1
 ·obtain⟨p1,q1⟩:=aM.mp hi;obtain⟨p2,q2⟩:=aM.mp hj;have:=lh.mp h i j p1 p2 h1;rw[q1,q2]at this;omega
 ·rw[show i=j by omega,hj]at hi;cases hi;exact am _
theorem Y4l:∀(n:Nat) (T:M (α×Str)) (ws:?O) (p:Nat),FtM step start fin T ws p->∀t,ftN step fin n T p=some t->∃w,B9 w/\t=K5 w/\fin (run step start w)=true/\∀u,B9 u->fin (run step start u)=true->E5 w<=E5 u
 |0,T,ws,p,F,t,e=>by rw[ftN]at e;cases e
 |n+1,T,ws,p,F,t,e=>by
  rw[ftN]at e;split at e
  ·cases e
  ·rename_i q hq;obtain⟨k,s⟩:=q;have hpl:p<ws.length:=by rw[F.ok.len];obtain⟨h,_⟩:=aM.mp hq;exact h
   have ew:=aa hpl;obtain⟨a1,a2⟩:=F.ok.at_ p _ ew;rw[hq]at a1;have ek:k=run step start ws[p]:=congrArg Prod.fst (az a1);have es:s=K5 ws[p]:=congrArg Prod.snd (az a1)
   by_cases hf:fin k=true
   ·simp only[hf,fA]at e;cases e;refine⟨ws[p],a2,es,by rw[<-ek];exact hf,fun u hu wP=>?_⟩;rcases W7j F u hu with⟨v,hv,e1,h⟩ |⟨i,v,hi,e1,h⟩
    ·obtain⟨j,hj,e2⟩:=bn.mp hv;have ej:ws[j]?=some v:=by rw[aa hj,e2]
     have vZ:p<=j:=by
      rcases aX j p with z |z
      ·have:=(F.past j v z ej).1;rw[e1,wP]at this;cases this
      ·exact z
     exact aV (Y7h F.ok.ord ew ej vZ) h
    ·exact aV (Y7h F.ok.ord ew e1 hi) h
   ·have oo:fin k=false:=by simpa using hf
    simp only[oo,eY,cO]at e;obtain⟨vs,pre,O,b,r⟩:=V1y (step:=step) (start:=start) a2 F.ok (F.top _ ew);rw[ek,es]at e;obtain⟨add,kf⟩:=pre;have get:∀{i:Nat}{v:?P},ws[i]?=some v->vs[i]?=some v:=fun {i v} q=>by
     rw[<-kf,aI]
     ·exact q
     ·obtain⟨h,_⟩:=aM.mp q;exact h
    have iS:∀{i:Nat}{v:?P},i<ws.length->vs[i]?=some v->ws[i]?=some v:=fun {i v} hi q=>by
     rw[<-kf,aI hi]at q;exact q
    refine Y4l n _ vs (p+1) ⟨O,get F.zero,fun i w hi q=>?_,fun w q v hv=>?_⟩ t e
    ·have q':=iS (?A) q;rcases aX i p with z |z
     ·obtain⟨f1,f2⟩:=F.past i w z q';exact⟨f1,fun c hc=>let ⟨v,v1,v2⟩:=f2 c hc;⟨v,by rw[<-kf];exact aO.mpr (.inl v1),v2⟩⟩
     ·have:i=p:=?A
      subst this;rw[ew]at q';cases q';exact⟨by rw[<-ek];exact oo,r⟩
    ·have h1:=b v hv;obtain⟨g1,g2⟩:=aM.mp q;have:=lh.mp O.ord p (p+1) (?A) g1 (?A);have e3:vs[p]?=some ws[p]:=get ew;rw[aa (?A)]at e3;rw[az e3,g2]at this;omega
def W7d {t:Str}(h:Q3f n step start fin=some t):∃w,B9 w/\t=K5 w/\fin (run step start w)=true/\∀u,B9 u->fin (run step start u)=true->E5 w<=E5 u:=by
 refine Y4l n _ [[]] 0 ⟨⟨rfl,fun i w e=>?_,by simp⟩,rfl,fun i w hi=>?A,fun w e v hv=>?_⟩ t h
 ·cases i with
  |zero=>cases e;exact⟨rfl,B9.nil⟩
  |succ i=>cases e
 ·cases e;rw[aG.mp hv];exact be _
end
def Use (m:D5)(s:Nat):Prop:=∃w,B9 w/\Y0 m.1 m.2 s w=true
structure Gr (m:D5)(on:?O):Prop where
 wf:C0 m
 len:on.length=?J
 mem:∀u v,u<?J->(v∈on.getD u [] ↔ (∃c∈B4,C5 m.2 u c=v)/\Use m v)
 reach:∀s,s<?J->∃w,B9 w/\F5 m w=s
section
variable (G:Gr m on)
include G
def Gr.lt {u v:Nat}(hu:u<?J)(h:v∈on.getD u []):v<?J:=by
 obtain⟨⟨c,hc,rfl⟩,_⟩:=(G.mem u v hu).mp h;exact Q6y G.wf hu hc
omit G in
def W0q {u:Nat}(hc:c∈B4)(h:Use m (C5 m.2 u c)):Use m u:=by
 obtain⟨w,hw,ha⟩:=h;exact⟨c::w,fun d hd=>by rcases au.mp hd with rfl |hd;exact hc;exact hw d hd,ha⟩
def Gr.edge {u:Nat}(hu:u<?J)(hc:c∈B4)(h:Use m (C5 m.2 u c)):C5 m.2 u c∈on.getD u []:=(G.mem u _ hu).mpr ⟨⟨c,hc,rfl⟩,h⟩
def Gr.long (h1:∀u v,u<?J->v∈on.getD u []->Ln u+1<=Ln v)(w:?P):B9 w->Use m (F5 m w)->w.length<=Ln (F5 m w):=by
 refine Q9f (P:=fun w=>B9 w->Use m (F5 m w)->w.length<=Ln (F5 m w)) (fun _ _=>be _) ?_ w;intro u c ih hw hU;have hu:B9 u:=fun d hd=>hw d (by simp[hd]);have hc:=hw c ?H;rw[Q5t]at hU ⊢;have:=ih hu (W0q hc hU);have:=h1 _ _ (Q2a G.wf u hu) (G.edge (Q2a G.wf u hu) hc hU);rw[aq];simp only[aH,bz];omega
theorem Gr.way (h1:∀u v,u<?J->v∈on.getD u []->Ln u+1<=Ln v)(h2:∀v,v<?J->0<Ln v->∃u,u<?J/\v∈on.getD u []/\Ln v=Ln u+1):∀(k v:Nat),v<?J->Ln v=k->Use m v->∃w,B9 w/\w.length=k/\F5 m w=v
 |0,v,hv,e,hU=>by
  obtain⟨w,hw,hs⟩:=G.reach v hv;rcases oY w with rfl |⟨u,c,rfl⟩
  ·exact⟨[],B9.nil,rfl,hs⟩
  ·have hu:B9 u:=fun d hd=>hw d (by simp[hd]);have hc:=hw c ?H;rw[p5,Q5t]at hs;have:=h1 _ _ (Q2a G.wf u hu) (G.edge (Q2a G.wf u hu) hc (by rw[hs];exact hU));rw[hs]at this;omega
 |k+1,v,hv,e,hU=>by
  obtain⟨u,hu,gQ,e2⟩:=h2 v hv (?A);obtain⟨⟨c,hc,ec⟩,_⟩:=(G.mem u v hu).mp gQ;obtain⟨w,w1,w2,w3⟩:=Gr.way h1 h2 k u hu (?A) (W0q hc (by rw[ec];exact hU));exact⟨w++[c],w1.snoc hc,by rw[aq,w2];rfl,by rw[Q5t,w3,ec]⟩
def Gr.last (h1:∀u v,u<?J->v∈on.getD u []->Ln u+1<=Ln v)(h2:∀v,v<?J->0<Ln v->∃u,u<?J/\v∈on.getD u []/\Ln v=Ln u+1)
  (hm:∃v,v<?J/\Ln v=L) (hL:∀v,v<?J->Ln v<=L) (ha:∃w,O7 m w):Z7 m (.int (L:Int)):=by
 have up:∀w,O7 m w->w.length<=L:=fun w hw=>aV (G.long h1 w hw.1 ⟨[],B9.nil,hw.2⟩) (hL _ (Q2a G.wf w hw.1));have U0:Use m 0:=by obtain⟨w,hw⟩:=ha;exact⟨w,hw.1,hw.2⟩
 have fin:∀v,v<?J->Ln v=L->Use m v->∃w,O7 m w/\w.length=L:=fun v hv e hU=>by
  obtain⟨w,w1,w2,w3⟩:=G.way h1 h2 L v hv e hU;obtain⟨x,hx,pS⟩:=hU;cases x with
  |nil=>exact⟨w,⟨w1,by unfold E7;rw[w3];exact pS⟩,w2⟩
  |cons c x=>
   have hc:=hx c ak;have U2:Use m (C5 m.2 v c):=⟨x,fun d hd=>hx d (aj _ hd),pS⟩
   have:=h1 _ _ hv (G.edge hv hc U2);have:=hL _ (Q6y G.wf hv hc);omega
 refine .inr (.inl ⟨L,rfl,?_,up⟩);obtain⟨v,hv,e⟩:=hm;rcases cA L with z |z
 ·exact fin 0 G.wf.pos (by have:=hL 0 G.wf.pos;omega) U0
 ·obtain⟨u,hu,gQ,_⟩:=h2 v hv (?A);exact fin v hv e ((G.mem u v hu).mp gQ).2
def Gr.inf {S:Nat->Prop}(h:∀v,S v->v<?J/\∃u,S u/\v∈on.getD u [])(hS:∃v,S v):Inf m:=by
 have key:∀(N v:Nat),S v->∃u w,u<?J/\B9 w/\w.length=N/\run (C5 m.2) u w=v:=by
  intro N
  induction N with
  |zero=>intro v hv;exact⟨v,[],(h v hv).1,B9.nil,rfl,rfl⟩
  |succ N ih=>
   intro v hv;obtain⟨_,u,hu,gQ⟩:=h v hv;obtain⟨⟨c,hc,ec⟩,_⟩:=(G.mem u v (h u hu).1).mp gQ;obtain⟨x,w,x1,x2,x3,x4⟩:=ih u hu;exact⟨x,w++[c],x1,x2.snoc hc,by rw[aq,x3];rfl,by rw[Q3q,x4];exact ec⟩
 intro N;obtain⟨v,hv⟩:=hS;obtain⟨u,w,u1,w1,w2,w3⟩:=key N v hv;obtain⟨_,u',mr,gQ⟩:=h v hv;obtain⟨_,x,hx,pS⟩:=(G.mem u' v (h u' mr).1).mp gQ;obtain⟨y,hy,lE⟩:=G.reach u u1;refine⟨y++w++x,⟨(hy.app w1).app hx,?_⟩,by rw[aq,aq];omega⟩;unfold E7 F5;rw[Q3q,Q3q];unfold F5 at lE;rw[lE,w3];exact pS
end
def inc (on:?O)(P:?P)(v:Nat):Nat:=(((List.range on.length).filter fun u=>decide (u∉P)).map fun u=>(on.getD u []).count v).sum
theorem Y9x {f:Nat->Nat}{s:Nat}:∀{l:?P},l.Nodup->s∈l->(l.map f).sum=((l.filter fun u=>decide (u≠s)).map f).sum+f s
 |[],_,h=>by cases h
 |x::l,nd,h=>by
  obtain⟨n1,n2⟩:=bq.mp nd;rw[ax,cH,ce]
  by_cases e:x=s
  ·subst e;rw[aK ?H];have:l.filter (fun u=>decide (u≠x))=l:=gB.mpr fun u hu=>bP fun z=>n1 (z▸hu);rw[this];omega
  ·rw[aP (by simpa using e),ax,cH,Y9x n2 ((au.mp h).resolve_left fun z=>e z.symm)];omega
def W8e {P:?P}{s:Nat}(hs:s<on.length)(hP:s∉P)(v:Nat):inc on P v=inc on (s::P) v+(on.getD s []).count v:=by
 unfold inc;rw[Y9x (s:=s) ((j8.sublist gA)) (bx.mpr ⟨aQ.mpr hs,bP hP⟩),List.filter_filter];congr 3;refine fw fun u _=>?_
 by_cases h1:u=s<;>by_cases h2:u∈P<;>simp[h1,h2]
def W8f {P:?P}{v:Nat}(h:0<inc on P v):∃u,u<on.length/\u∉P/\v∈on.getD u []:=by
 unfold inc at h;obtain⟨x,hx,h⟩:=Y9y.mp h;obtain⟨u,hu,rfl⟩:=ar.mp hx;obtain⟨h1,h2⟩:=bx.mp hu;exact⟨u,aQ.mp h1,cp h2,List.count_pos_iff.mp h⟩
structure Kh (on:?O)(a Ln:Nat->Nat)(W P:?P):Prop where
 cnt:∀v,v<on.length->a v=inc on P v
 nd:(W++P).Nodup
 lt:∀v∈W++P,v<on.length
 zero:∀v,v<on.length->(a v=0 ↔ v∈W++P)
 ge:∀u v,u∈P->v∈on.getD u []->Ln u+1<=Ln v
 eq:∀v,0<Ln v->∃u∈P,v∈on.getD u []/\Ln v=Ln u+1
structure Ki (on:?O)(s:Nat)(a Ln:Nat->Nat)(W P rest:?P):Prop where
 cnt:∀v,v<on.length->a v=inc on (s::P) v+rest.count v
 nd:(W++s::P).Nodup
 lt:∀v∈W++s::P,v<on.length
 zero:∀v,v<on.length->(a v=0 ↔ v∈W++s::P)
 ge:∀u v,u∈P->v∈on.getD u []->Ln u+1<=Ln v
 ges:∀v,v∈on.getD s []->v∈rest\/Ln s+1<=Ln v
 eq:∀v,0<Ln v->∃u∈s::P,v∈on.getD u []/\Ln v=Ln u+1
 sub:∀v∈rest,v∈on.getD s []
 ins:∀v,v∈on.getD s []->v<on.length
def Kh.pop {a:Nat->Nat}{P:?P}{s:Nat}(K:Kh on a Ln (W++[s]) P)(gQ:∀v,v∈on.getD s []->v<on.length):Ki on s a Ln W P (on.getD s []):=by
 have hs:s<on.length:=K.lt s ?H;have e:W++[s]++P=W++s::P:=by simp
 have nd:=K.nd;rw[e]at nd;have hP:s∉P:=(bq.mp (bg.mp nd).2.1).1;refine⟨fun v hv=>by rw[K.cnt v hv,W8e hs hP],nd,fun v hv=>K.lt v (by rw[e];exact hv),fun v hv=>by rw[K.zero v hv,e],K.ge,fun v hv=>.inl hv,fun v h=>?_,fun v h=>h,gQ⟩;obtain⟨u,hu,q⟩:=K.eq v h;exact⟨u,aj _ hu,q⟩
def Ki.done {a:Nat->Nat}{P:?P}{s:Nat}(K:Ki on s a Ln W P []):Kh on a Ln W (s::P):=by
 refine⟨fun v hv=>by rw[K.cnt v hv];rfl,K.nd,K.lt,K.zero,fun u v hu hv=>?_,K.eq⟩;rcases au.mp hu with rfl |hu
 ·exact(K.ges v hv).resolve_left ?H
 ·exact K.ge u v hu hv
def Ki.turn {a:Nat->Nat}{P rest:?P}{s g:Nat}(K:Ki on s a Ln W P (g::rest)):
  g<on.length/\0<a g/\g≠s/\Ki on s (fun i=>if i=g then a i-1 else a i) (fun i=>if i=g then max (Ln i) (Ln s+1)else Ln i) (if a g=1 then W++[g]else W) P rest:=by
 have hg:g<on.length:=K.ins g (K.sub g ak);have hc:=K.cnt g hg;rw[ql]at hc;have jZ:0<a g:=?A
 have jk:g∉W++s::P:=fun h=>by have:=(K.zero g hg).mpr h;omega
 have jo:g≠s:=fun e=>jk (by rw[e];simp);have rM:g∉P:=fun h=>jk (by simp[h]);refine⟨hg,jZ,jo,?_⟩;have jm:∀v,v∈(if a g=1 then W++[g]else W)++s::P ↔ v∈W++s::P\/(a g=1/\v=g):=fun v=>by
  split
  ·rename_i h;simp only[aO,au,aL,bu];constructor
   ·rintro ((q |q) |q)
    ·exact .inl (.inl q)
    ·exact .inr ⟨h,q⟩
    ·exact .inl (.inr q)
   ·rintro ((q |q) |⟨_,q⟩)
    ·exact .inl (.inl q)
    ·exact .inr q
    ·exact .inl (.inr q)
  ·rename_i h;constructor
   ·exact .inl
   ·rintro (q |⟨q,_⟩)
    ·exact q
    ·exact absurd q h
 refine⟨fun v hv=>?_,?_,fun v hv=>?_,fun v hv=>?_,fun u v hu hv=>?_,fun v hv=>?_,fun v h=>?_,fun v hv=>K.sub v (aj _ hv),K.ins⟩
 ·show(if v=g then a v-1 else a v)=_
  by_cases e:v=g
  ·subst e;rw[aP rfl];omega
  ·rw[aK e,K.cnt v hv,p4 (fun z=>e z.symm)]
 ·split
  ·rw[bN];have nd:=bg.mp K.nd;rw[bg];refine⟨nd.1,?_,fun x hx y hy=>?_⟩
   ·rw[List.singleton_append,bq];exact⟨fun h=>jk (aO.mpr (.inr h)),nd.2.1⟩
   ·rcases aO.mp hy with hy |hy
    ·rw[aG.mp hy];rintro rfl;exact jk (aO.mpr (.inl hx))
    ·exact nd.2.2 x hx y hy
  ·exact K.nd
 ·rcases (jm v).mp hv with h |⟨_,rfl⟩
  ·exact K.lt v h
  ·exact hg
 ·rw[jm v];show(if v=g then a v-1 else a v)=0 ↔ _
  by_cases e:v=g
  ·subst e;rw[aP rfl];constructor
   ·intro h;exact .inr ⟨?A,rfl⟩
   ·rintro (h |⟨h,_⟩)
    ·exact absurd h jk
    ·omega
  ·rw[aK e,K.zero v hv];exact⟨.inl,fun h=>h.resolve_right fun q=>e q.2⟩
 ·show(if u=g then _ else Ln u)+1<=(if v=g then _ else Ln v);have vU:u≠g:=fun e=>rM (e▸hu);rw[aK vU];have:=K.ge u v hu hv;split<;>omega
 ·show _\/(if s=g then _ else Ln s)+1<=(if v=g then _ else Ln v);rw[aK (fun e=>jo e.symm)]
  by_cases e:v=g
  ·subst e;rw[aP rfl];exact .inr (j6 _ _)
  ·rw[aK e];rcases K.ges v hv with h |h
   ·exact .inl ((au.mp h).resolve_left e)
   ·exact .inr h
 ·have keep:∀u,u∈s::P->(if u=g then max (Ln u) (Ln s+1)else Ln u)=Ln u:=fun u hu=>aK fun e=>jk (by rw[<-e];exact aO.mpr (.inr hu));have h:0<(if v=g then max (Ln v) (Ln s+1)else Ln v):=h;show ∃u∈s::P,v∈on.getD u []/\(if v=g then max (Ln v) (Ln s+1)else Ln v)=(if u=g then _ else Ln u)+1
  by_cases e:v=g
  ·subst e;rw[aP rfl];rcases Nat.le_total (Ln v) (Ln s+1)with q |q
   ·refine⟨s,ak,K.sub v ak,?_⟩;rw[keep s ak,j5 q]
   ·obtain⟨u,hu,h1,h2⟩:=K.eq v (?A);exact⟨u,hu,h1,by rw[keep u hu,jL q];exact h2⟩
  ·rw[aK e]at h ⊢;obtain⟨u,hu,h1,h2⟩:=K.eq v h;exact⟨u,hu,h1,by rw[keep u hu];exact h2⟩
def Kh.last (G:Gr m on){a:Nat->Nat}{P:?P}  (K:Kh on a Ln [] P)(h0:∀v,v<on.length->a v=0)(hm:∃v,v<on.length/\Ln v=L)(hL:∀v,v<on.length->Ln v<=L)(ha:∃w,O7 m w):Z7 m (.int (L:Int)):=by
 have all:∀v,v<on.length->v∈P:=fun v hv=>by simpa using (K.zero v hv).mp (h0 v hv)
 rw[G.len]at hm;refine G.last (fun u v hu hv=>K.ge u v (all u (by rw[G.len];exact hu)) hv) (fun v hv h=>?_) hm (fun v hv=>hL v (by rw[G.len];exact hv)) ha;obtain⟨u,hu,q⟩:=K.eq v h;exact⟨u,by rw[<-G.len];exact K.lt u (by simpa using hu),q⟩
def Kh.inf (G:Gr m on){a:Nat->Nat}{P:?P}(K:Kh on a Ln [] P)(h0:∃v,v<on.length/\a v≠0):Inf m:=by
 refine G.inf (S:=fun v=>v<on.length/\a v≠0) (fun v ⟨hv,h⟩=>⟨by rw[<-G.len];exact hv,?_⟩) h0;rw[K.cnt v hv]at h;obtain⟨u,u1,u2,u3⟩:=W8f (?A:0<inc on P v);exact⟨u,⟨u1,fun z=>u2 (by simpa using (K.zero u u1).mp z)⟩,u3⟩
def Kh.start (on:?O):Kh on (inc on []) (fun _=>0) ((List.range on.length).filter fun v=>decide (inc on [] v=0)) []:=by
 refine⟨fun v _=>rfl,?_,fun v hv=>?_,fun v hv=>?_,fun u v hu=>(by cases hu),fun v h=>absurd h (aU 0)⟩
 ·rw[aZ];exact(j8.sublist gA)
 ·rw[aZ]at hv;exact aQ.mp (bx.mp hv).1
 ·rw[aZ,bx,aQ,decide_eq_true_iff];exact⟨fun h=>⟨hv,h⟩,fun h=>h.2⟩
def G0 (m:D5):D5:=Q3d (List.range ?J) (C5 m.2) 0 (fun s=>m.1.getD s false)
section
variable (wf:C0 m)
include wf
theorem Q9k:∀k∈List.range ?J,∀c∈B4,C5 m.2 k c∈List.range ?J:=by grind [Q6y]
def Q9t:0∈List.range ?J:=aQ.mpr wf.pos
def Z7p:Q2e (C5 m.2) 0 (List.range ?J) (W8 (List.range ?J).length (C5 m.2) 0).1 (W8 (List.range ?J).length (C5 m.2) 0).2:=Q5w (Q9k wf) (Q9t wf) (am _)
def Z7q:C0 (G0 m):=(Z7p wf).wf _
def Y7y {w:?P}(hw:B9 w):E7 (G0 m) w=E7 m w:=Y2x (Q9k wf) (Q9t wf) hw
def Y7z:(G0 m).1.length<=?J:=by
 have:=(Z7p wf).le;rw[bc]at this;show(List.map _ _).length<=_;rw[ag];rw[bc];exact this
theorem V6l (s:Nat)(hs:s<(G0 m).1.length):∃w,B9 w/\F5 (G0 m) w=s:=by
 have el:(G0 m).1.length=(W8 (List.range ?J).length (C5 m.2) 0).1.length:=by simp[G0,Q3d]
 have met:Q9 [0] (G0 m).2=List.range (G0 m).1.length:=by rw[el];exact V0m (α:=Nat) (step:=C5 m.2) (start:=0) (N:=(List.range ?J).length)
 have seen:∀s,s<(G0 m).2.length->s<(Q9 [0] ((G0 m).2.take s)).length:=Y8x (step:=C5 m.2) (List.range ?J).length [0] [] rfl fun s hs=>absurd hs (Nat.not_lt_zero _);have sL:=Z7q wf
 induction s using Nat.strongRecOn with
 |_ s ih=>
  have hk:∃k,Q9 [0] ((G0 m).2.take s)=List.range k:=by
   have p:Q9 [0] ((G0 m).2.take s) <+: Q9 [0] (G0 m).2:=by
    conv=>rhs;rw[<-oX s (G0 m).2]
    rw[Y6g];exact Y6h _ _
   rw[met]at p;obtain⟨t,ht⟩:=p;refine⟨(Q9 [0] ((G0 m).2.take s)).length,?_⟩;have e:=congrArg (List.take (Q9 [0] ((G0 m).2.take s)).length) ht;rw[List.take_left,List.take_range]at e;have hl:=congrArg List.length ht;rw[aq,bc]at hl;rw[Nat.min_eq_left (?A)]at e;exact e
  obtain⟨k,hk⟩:=hk;have h:=seen s (by rw[sL.len];exact hs);rw[hk,bc]at h;have hm:s∈Q9 [0] ((G0 m).2.take s):=by rw[hk];exact aQ.mpr h
  rcases Y6c _ _ hm with h0 |⟨r,hr,hx⟩
  ·rw[aG.mp h0];exact⟨[],B9.nil,rfl⟩
  ·obtain⟨i,hi,e⟩:=bn.mp hr;rw[bD]at hi;have oj:i<s:=?A
   have om:i<(G0 m).1.length:=?A
   rw[yp]at e;have kN:=sL.rowEq om;have kb:i<(G0 m).2.length:=?A
   rw[aa kb,e]at kN;rw[az kN]at hx;obtain⟨c,hc,wX⟩:=ar.mp hx;obtain⟨w,hw,vQ⟩:=ih i oj om;exact⟨w++[c],hw.snoc hc,by rw[Q5t,vQ,wX]⟩
end
def Q2s (m:D5)(g:Nat):Bool:=(K3 (K4 (G1 m.2) (G7 m.1 true)) g).isSome
def K7 (m:D5):?O:=(G0 m).2.map fun r=>r.filter (Q2s (G0 m))
def W0r (wf:C0 m){g:Nat}(hg:g<?J):Q2s m g=true ↔ Use m g:=by
 obtain⟨h1,h2⟩:=Z5b wf true;unfold Q2s;constructor
 ·intro h;obtain⟨d,e⟩:=lY.mp h;obtain⟨w,hw,_,ha⟩:=h1 g d hg e;exact⟨w,hw,ha⟩
 ·rintro ⟨w,hw,ha⟩;obtain⟨d,e,_⟩:=h2 w g hw hg ha;rw[e];rfl
def V1z (wf:C0 m):Gr (G0 m) (K7 m):=by
 have w2:=Z7q wf;refine⟨w2,by rw[K7,ag];exact w2.len,fun u v hu=>?_,V6l wf⟩;have e:(K7 m).getD u []=(B4.map (C5 (G0 m).2 u)).filter (Q2s (G0 m)):=by
  rw[K7,av,ai,w2.rowEq hu];rfl
 rw[e,bx,ar];constructor
 ·rintro ⟨⟨c,hc,rfl⟩,h⟩;exact⟨⟨c,hc,rfl⟩,(W0r w2 (Q6y w2 hu hc)).mp h⟩
 ·rintro ⟨⟨c,hc,rfl⟩,h⟩;exact⟨⟨c,hc,rfl⟩,(W0r w2 (Q6y w2 hu hc)).mpr h⟩
def Q5h (m:D5):Ac Str:=Q3f ?J (C5 m.2) 0 fun s=>m.1.getD s false
def sp_least_text:E6:=fun rs Pr=>∃m:D5,rs=[.st (mD m)]/\C0 m/\?J<=20000/\Pr (.st (sD (Q5h m)))
def Y6m:T7 sp_least_text:=by rintro rs P Q f ⟨m,e,h1,h2,h3⟩;exact⟨m,e,h1,h2,f _ h3⟩
def Y5f (wf:C0 m){k:Nat}(hk:k<?J)(hc:c∈B4)  (hb:wb=(A3 B5 (A3 B5 (wV 2) (wV 0)) (wV 1))):Q2 wb [.dat (rsD m.2)] [.st (iD k),.st (iD c)] (.st (iD (C5 m.2 k c))):=by
 subst hb;refine⟨[iD k,iD c],iD (C5 m.2 k c),rfl,rfl,?_⟩;obtain⟨r,hr,_,pI⟩:=Wf.row wf hk;simp only[C7,A8];sleep 2;refine R5 (i:=k) (d:=.tup (r.map iD)) (by rw[ai,hr];rfl) ?_;refine⟨_,rfl,R5 (i:=c) (d:=iD (C5 m.2 k c)) (by rw[ai,(pI c (Z4u hc)).1];rfl) rfl⟩
def V5u:∀rs Pr,rs.length=1->sp_least_text rs Pr->Z9y dZ (Q7c dZ) (M0 Pr) (E8 W4p rs):=by
 rintro rs Pr _ ⟨m,rfl,wf,hl,h⟩;unfold Z9y;simp only[D8,Q5q,A8,Q0j,Q0h,L6,Q0i,P8];refine⟨_,rfl,_,rfl,_,rfl,rfl,_,_,rfl,_,_,rfl,rfl,?_⟩;refine⟨rfl,[.dat (rsD m.2)],[.dat (.tup (m.1.map .bl))],⟨_,_,rfl,rfl,trivial,rfl⟩,⟨_,_,rfl,rfl,trivial,rfl⟩,fun f Φ g Ψ hF hG=>?_⟩;refine⟨_,⟨Nat,inferInstance,iD,ik,C5 m.2,0,fun s=>m.1.getD s false,List.range ?J,f,g,Φ,Ψ,_,_,fun _=>rfl,Q4j,rfl,hF,hG,Q9t wf,by rw[bc];omega,fun k hk c hc=>⟨Q9k wf k hk c hc,Y5f wf (aQ.mp hk) hc rfl⟩,fun k hk=>?_,rfl⟩,?_⟩
 ·refine⟨[iD k],_,rfl,rfl,?_⟩;unfold Y0g;simp only[C7,A8];exact⟨_,rfl,_,rfl,R5 (i:=k) (Q7y (aQ.mp hk)) rfl⟩
 ·rw[bc];exact h
abbrev onD (on:?O):M D:=on.map fun gs=>.lst (gs.map iD)
def sp_onward_goals:E6:=fun rs Pr=>∃m:D5,rs=[.st (mD m)]/\C0 m/\?J<=20000/\Pr (.nw (onD (K7 m)))
def V0t:T7 sp_onward_goals:=by rintro rs P Q f ⟨m,e,h1,h2,h3⟩;exact⟨m,e,h1,h2,f _ h3⟩
def W6t {g:Nat}(hg:g<?J):(Q1e m.1 m.2 true)[g]?=some (K3 (K4 (G1 m.2) (G7 m.1 true)) g):=by
 unfold Q1e;rw[ai,bV hg];rfl
def V6a:∀rs Pr,rs.length=1->sp_onward_goals rs Pr->Z9z dZ (sp_walkedK dZ) sp_distances (M0 Pr) (E8 Z4b rs):=by
 rintro rs Pr _ ⟨m,rfl,wf,hl,h⟩;have W:=Z7p wf;have w2:=Z7q wf;have ig:=Y7z wf;have el:(W8 (List.range ?J).length (C5 m.2) 0).1.length=(G0 m).1.length:=by simp[G0,Q3d]
 unfold Z9z;simp only[D8,Q5q,A8,Q0j,Q0h,L6,Q0i,P8,Y8i,D6,G6,P4,C1,B7,W6,Q5r];refine⟨_,rfl,_,rfl,_,rfl,rfl,_,_,rfl,_,_,rfl,rfl,?_⟩;refine⟨rfl,[.dat (rsD m.2)],⟨_,_,rfl,rfl,trivial,rfl⟩,fun f Φ hF=>?_⟩;refine⟨_,⟨Nat,inferInstance,iD,ik,C5 m.2,0,List.range ?J,f,Φ,_,fun _=>rfl,Q4j,rfl,hF,Q9t wf,by rw[bc];omega,fun k hk c hc=>⟨Q9k wf k hk c hc,Y5f wf (aQ.mp hk) hc rfl⟩,rfl⟩,?_⟩;refine⟨_,rfl,_,rfl,rfl,_,_,rfl,_,_,rfl,rfl,?_⟩;refine⟨_,rfl,_,rfl,sz (by rw[ag,el];omega),?_⟩;refine Q0c (f:=fun d=>match d with |.int i=>.bl (m.1.getD i.toNat false) |d=>d) _ none _ (fun d hd Q' q=>?_) ?_
 ·obtain⟨x,hx,rfl⟩:=ar.mp hd;simp only[E9,C7,A8];refine⟨_,rfl,_,rfl,R5 (i:=x) (Q7y (aQ.mp (W.sub x hx))) ?_⟩;exact q
 refine⟨_,rfl,rfl,.bw (((G0 m).1).map .bl),(G0 m).1,(G0 m).2,true,_,?_,.inl rfl,.inl rfl,w2,?A,?_⟩
 ·have e:((W8 (List.range ?J).length (C5 m.2) 0).1.map fun a=>iD a).map (fun d=>match d with |.int i=>D.bl (m.1.getD i.toNat false) |d=>d)=(G0 m).1.map .bl:=by
   unfold G0 Q3d;rw[aJ,aJ];exact b8 fun x _=>by simp
  rw[e];rfl
 show U7 (.nw _) _;rw[P7];simp only[Q4r,A8];have bZ:(G0 m).2.length=(G0 m).1.length:=w2.len;refine⟨_,rfl,_,rfl,sz (by rw[ag];show(G0 m).2.length<=_;omega),?_⟩;refine Q0c (f:=fun d=>match d with |.tup ds=>.lst (ds.filter fun d=>match d with |.int i=>Q2s (G0 m) i.toNat |_=>false) |d=>d) _ none _ (fun d hd Q' q=>?_) ?_
 ·obtain⟨r,hr,rfl⟩:=ar.mp hd;have hr:r∈(G0 m).2:=hr;simp only[E9,W6,Q4r,A8];refine⟨_,rfl,_,rfl,sz (by rw[ag];have:=w2.r4 r hr;omega),?_⟩;refine Z0n (p:=fun d=>match d with |.int i=>Q2s (G0 m) i.toNat |_=>false) (f:=fun d=>d) _ none _ (fun d hd Q' q=>?_) (fun d hd Q' _ q=>?_) ?_
  ·obtain⟨x,hx,rfl⟩:=ar.mp hd;have vP:=w2.lt r hr x hx;simp only[C7,A8,D6];sleep 2;refine⟨oD (K3 (K4 (G1 (G0 m).2) (G7 (G0 m).1 true)) x),V4 (by rw[ai,W6t vP];rfl),?_⟩;refine⟨_,rfl,rfl,?_⟩;have q:Q' (Q2s (G0 m) x):=by simpa using q
   unfold Q2s at q;cases e:K3 (K4 (G1 (G0 m).2) (G7 (G0 m).1 true)) x with
   |none=>rw[e]at q;exact q
   |some d=>rw[e]at q;exact q
  ·simp only[E9,A8];exact⟨_,rfl,q⟩
  ·rw[List.map_id'];exact q
 ·have e:((G0 m).2.map rD).map (fun d=>match d with |.tup ds=>D.lst (ds.filter fun d=>match d with |.int i=>Q2s (G0 m) i.toNat |_=>false) |d=>d)=onD (K7 m):=by
   unfold K7 onD;rw[aJ,aJ];refine b8 fun r _=>?_;show D.lst ((r.map iD).filter _)=D.lst ((r.filter _).map iD);rw[jO];congr 2
  have h':Pr (.nw (((G0 m).2.map rD).map (fun d=>match d with |.tup ds=>D.lst (ds.filter fun d=>match d with |.int i=>Q2s (G0 m) i.toNat |_=>false) |d=>d))):=by rw[e];exact h
  exact h'
def J3 (n:Nat)(f:Nat->Nat):M D:=(List.range n).map fun i=>iD (f i)
def W7g (n:Nat)(f:Nat->Nat):(J3 n f).length=n:=by simp[J3]
def Z5h {g:Nat}(h:g<n)(f:Nat->Nat):(J3 n f)[g]?=some (iD (f g)):=by
 unfold J3;rw[ai,bV h];rfl
def Z5i {g:Nat}(f:Nat->Nat)(x:Nat):(J3 n f).set g (iD x)=J3 n (fun i=>if i=g then x else f i):=by
 unfold J3;apply dJ;intro i;rw[fu,ag,bc,ai,ai]
 by_cases e:g=i
 ·subst e;rw[aP rfl]
  by_cases h:g<n
  ·rw[aP h,bV h];simp
  ·rw[aK h,ay.mpr (by simpa using h)];rfl
 ·rw[aK e]
  by_cases h:i<n
  ·rw[bV h];show some (iD (f i))=some (iD (if i=g then x else f i));rw[aK (fun z=>e z.symm)]
  ·rw[ay.mpr (by simpa using h)];rfl
def eqI {a b:Nat}  {Q:Bool->Prop}(q:Q (decide (a=b))):J5 n false (.st (iD a)) (.st (.int (b:Int))) Q:=by
 refine⟨_,_,rfl,rfl,be _,?_⟩;show Q (D.eq (.int (a:Int)) (.int (b:Int)));have:D.eq (.int (a:Int)) (.int (b:Int))=decide (a=b):=by
  simp only[D.eq]
  by_cases h:a=b
  ·simp[h]
  ·have:(a:Int)≠(b:Int):=?A
   simp[h,this]
 rw[this];exact q
def wbA:WS:=(Q7i 2 (fun i j=>i+j) (wV 4) (wC (.int 1)))
theorem forA {E:F6}:∀(gs:?P) (a:Nat->Nat) (o4:Ac Sl),(∀g∈gs,g<n)->(∀o4,E.nx [o0,o1,some (.own (J3 n fun v=>a v+gs.count v)),o3,o4,o5,o6,o7]) ->
  D9 (A9 4) wbA E (gs.map iD) [o0,o1,some (.own (J3 n a)),o3,o4,o5,o6,o7]
 |[],a,o4,_,h=>by have:=h o4;simp only[List.count_nil,nF]at this;exact this
 |g::gs,a,o4,hg,h=>by
  have wL:=hg g ak;rw[ax,D9];simp only[wbA,L6,Y8h,A8,D6];refine⟨_,rfl,_,rfl,g,(a g:Int),rfl,Z5h wL a,_,rfl,?_⟩;have e:(J3 n a).set g (.int ((a g:Int)+1))=J3 n (fun i=>if i=g then a g+1 else a i):=by
   rw[<-Z5i];congr 1
  show D9 _ _ _ _ [_,_,some (.own ((J3 n a).set g (.int ((a g:Int)+1)))),_,_,_,_,_];rw[e];refine forA gs _ _ (fun x hx=>hg x (aj _ hx)) fun o4=>?_;have e2:(fun v=>(if v=g then a g+1 else a v)+gs.count v)=fun v=>a v+(g::gs).count v:=by
   funext v
   by_cases z:v=g
   ·subst z;rw[aP rfl,ql];omega
   ·rw[aK z,p4 (fun q=>z q.symm)]
  rw[e2];exact h o4
def wbB:WS:=(L3 (Q3h (B1 (wV 3))) (A9 4) wbA)
theorem Y4i {E:F6}:∀(on:?O) (a:Nat->Nat) (o3 o4:Ac Sl),(∀gs∈on,∀g∈gs,g<n)->(∀o3 o4,E.nx [o0,o1,some (.own (J3 n fun v=>a v+(on.map fun gs=>gs.count v).sum)),o3,o4,o5,o6,o7]) ->
  D9 (A9 3) wbB E (onD on) [o0,o1,some (.own (J3 n a)),o3,o4,o5,o6,o7]
 |[],a,o3,o4,_,h=>by have:=h o3 o4;simp only[cw,List.sum_nil,nF]at this;exact this
 |gs::on,a,o3,o4,hg,h=>by
  rw[onD,ax,D9];simp only[wbB,L6,W0,Z1z,E9,A8];sleep 2;refine forA gs a _ (hg gs ak) fun o4=>?_;refine Y4i on _ _ _ (fun g pP=>hg g (aj _ pP)) fun o3 o4=>?_;have e2:(fun v=>a v+gs.count v+(on.map fun gs=>gs.count v).sum)=fun v=>a v+((gs::on).map fun gs=>gs.count v).sum:=by
   funext v;rw[ax,cH];omega
  rw[e2];exact h o3 o4
def W8d (on:?O)(v:Nat):inc on [] v=(on.map fun gs=>gs.count v).sum:=by
 unfold inc;rw[gB.mpr (fun _ _=>by simp)];congr 1;apply dJ;intro i;rw[ai,ai]
 by_cases h:i<on.length
 ·rw[bV h,aa h];simp[av,aa h]
 ·rw[ay.mpr (by simpa using h),ay.mpr (?A)];rfl
def wbI:WS:=(A6 (Z3g 5 (wV 4) (B1 (D4 Q8p (A0 (A3 B5 (wV 5) (wV 4)) (A0 (A3 F9 (A3 B5 (wV 5) (wV 7)) (wC (.int 1))) A2))))) (A6 (Q7i 2 (fun i j=>i-j) (wV 4) (wC (.int 1))) (L8 (A3 (J5 60 false) (A3 B5 (wV 2) (wV 4)) (wC (.int 0))) (O4 6 (B1 (wV 4))) L9)))
def Z5j {g:Nat}(h:g<n){f:Nat->Nat}{Q:R->Prop}(q:Q (.st (iD (f g)))):B5 (.bw (J3 n f)) (.st (.int (g:Int))) Q:=by
 rw[Q0g];exact⟨_,V4 (Z5h h f),q⟩
theorem Z5m {s:Nat}{P:?P}{E:F6}  (hl:on.length<=20000)(hs:s<on.length):∀(rest:?P) (a Ln:Nat->Nat) (W:?P) (o4:Ac Sl),Ki on s a Ln W P rest ->
  (∀a Ln W o4,Ki on s a Ln W P []->E.nx [o0,o1,some (.own (J3 on.length a)),o3,o4,some (.own (J3 on.length Ln)),some (.own (W.map iD)),some (.dat (iD s))]) ->
  D9 (A9 4) wbI E (rest.map iD) [o0,o1,some (.own (J3 on.length a)),o3,o4,some (.own (J3 on.length Ln)),some (.own (W.map iD)),some (.dat (iD s))]
 |[],a,Ln,W,o4,K,h=>h a Ln W o4 K
 |g::rest,a,Ln,W,o4,K,h=>by
  obtain⟨hg,jZ,jo,K2⟩:=K.turn;have hW:W.length<=20000:=by
   have:=(bg.mp K.nd).1.length_le_of_subset (l₂:=List.range on.length) fun x hx=>aQ.mpr (K.lt x (aO.mpr (.inl hx)));rw[bc]at this;omega
  rw[ax,D9];simp only[wbI,L6,D8,V8a,E9,J9,C1,C7,A8,D6,B7,Y8h,Q1y,Q1l,Q3r];refine⟨_,rfl,_,rfl,Z5j hg ?_⟩;refine⟨_,rfl,_,rfl,Z5j hs ?_⟩;rw[Q0f];rw[V7t];have em:(if (Ln s:Int)+1 > (Ln g:Int)then(Ln s:Int)+1 else(Ln g:Int))=((max (Ln g) (Ln s+1):Nat):Int):=by
   by_cases z:(Ln s:Int)+1 > (Ln g:Int)
   ·rw[aP z,j5 (?A)];omega
   ·rw[aK z,jL (?A)]
  refine⟨_,rfl,_,rfl,_,rfl,_,g,rfl,ixn (by rw[W7g];exact hg),?_⟩;have e1:(J3 on.length Ln).set g (.int (if (Ln s:Int)+1 > (Ln g:Int)then(Ln s:Int)+1 else(Ln g:Int)))=J3 on.length (fun i=>if i=g then max (Ln i) (Ln s+1)else Ln i):=by
   rw[em,show D.int ((max (Ln g) (Ln s+1):Nat):Int)=iD (max (Ln g) (Ln s+1))from rfl,Z5i];congr 1;funext i;by_cases z:i=g
   ·subst z;rfl
   ·rw[aK z,aK z]
  refine⟨_,rfl,_,rfl,g,(a g:Int),rfl,Z5h hg a,_,rfl,?_⟩;have e2:(J3 on.length a).set g (.int ((a g:Int)-1))=J3 on.length (fun i=>if i=g then a i-1 else a i):=by
   rw[show D.int ((a g:Int)-1)=iD (a g-1)by show D.int _=D.int _;congr 1;omega,Z5i];congr 1;funext i;by_cases z:i=g
   ·subst z;rfl
   ·rw[aK z,aK z]
  sleep 2;show B5 (.bw ((J3 on.length a).set g (.int ((a g:Int)-1)))) (.st (.int (g:Int))) _;rw[e2,e1];refine Z5j hg (eqI (b:=0) ?_);rw[aP (show g=g from rfl)]
  by_cases h1:a g=1
  ·rw[aP (by simp[h1])];rw[aP h1]at K2;refine⟨_,rfl,_,rfl,_,rfl,T2 (by rw[ag];omega),?_⟩;have:=Z5m hl hs rest _ _ _ (some (.dat (iD g))) K2 h;rw[aW]at this;exact this
  ·rw[aK ?N];rw[aK h1]at K2;exact Z5m hl hs rest _ _ _ (some (.dat (iD g))) K2 h
def Z3n:WT:=Q2u (wV 6)
def Y0i:WS:=(A6 (Z9r 6 (A9 7)) (L3 (Q3h (B1 (A3 B5 (wV 1) (wV 7)))) (A9 4) wbI))
def Y7g (G:Gr m on){s:Nat}(hs:s<on.length):∀v,v∈on.getD s []->v<on.length:=fun v hv=>by rw[G.len]at hs ⊢;exact G.lt hs hv
theorem J0x (G:Gr m on){E:F6}  (hl:on.length<=20000):∀(k:Nat) (a Ln:Nat->Nat) (W P:?P) (o4 o7:Ac Sl),Kh on a Ln W P->on.length<=k+P.length ->
  (∀a Ln P o4 o7,Kh on a Ln [] P->E.nx [o0,some (.dat (.lst (onD on))),some (.own (J3 on.length a)),o3,o4,some (.own (J3 on.length Ln)),some (.own []),o7]) ->
  G8 Z3n Y0i (k+1) E [o0,some (.dat (.lst (onD on))),some (.own (J3 on.length a)),o3,o4,some (.own (J3 on.length Ln)),some (.own (W.map iD)),o7]:=by
 intro k
 induction k with
 |zero=>
  intro a Ln W P o4 o7 K hk h;have hb:=K.nd.length_le_of_subset (l₂:=List.range on.length) fun x hx=>aQ.mpr (K.lt x hx);rw[aq,bc]at hb;have hW:W=[]:=cm.mp (?A);subst hW;rw[G8];simp only[Z3n,Q7b,A8];k_ne;exact h a Ln P o4 o7 K
 |succ k ih=>
  intro a Ln W P o4 o7 K hk h;rw[G8];simp only[Z3n,Q7b,A8];k_ne;show(if (!(W.map iD).isEmpty)=true then(_:Prop)else(_:Prop));rcases oY W with rfl |⟨V,s,rfl⟩
  ·rw[aK (?G)];exact h a Ln P o4 o7 K
  ·rw[p5]at K ⊢;rw[aP ?H];have hs:s<on.length:=K.lt s ?H;simp only[Y0i,D8,V7x,L6,W0,Z1z,E9,C7,A8];refine⟨V.map iD,iD s,by rw[aW];rfl,_,rfl,_,rfl,?_⟩;show B5 (.st (.lst (onD on))) (.st (.int (s:Int))) _;rw[Q8w];refine⟨.lst ((on.getD s []).map iD),V4 (by rw[onD,ai,aa hs,av,aa hs];rfl),_,rfl,?_⟩;refine Z5m (P:=P) hl hs (on.getD s []) a Ln V _ (K.pop (Y7g G hs)) fun a Ln W o4 K=>?_;exact ih a Ln W (s::P) o4 _ K.done (by rw[aH];omega) h
def sp_last_length:E6:=fun rs Pr=>∃m:D5,rs=[.st (mD m)]/\C0 m/\?J<=20000/\∀d,Z7 m d->Pr (.st d)
def Q8s:T7 sp_last_length:=by rintro rs P Q f ⟨m,e,h1,h2,h3⟩;exact⟨m,e,h1,h2,fun d hd=>f _ (h3 d hd)⟩
def Q7v (wf:C0 m){w:?P}:O7 (G0 m) w ↔ O7 m w:=⟨fun h=>⟨h.1,by rw[<-Y7y wf h.1];exact h.2⟩,fun h=>⟨h.1,by rw[Y7y wf h.1];exact h.2⟩⟩
def Y5i (wf:C0 m){d:D}(h:Z7 (G0 m) d):Z7 m d:=by
 rcases h with⟨e,h⟩ |⟨L,e,⟨w,hw,hl⟩,h⟩ |⟨e,h⟩
 ·exact .inl ⟨e,fun w hw=>h w ((Q7v wf).mpr hw)⟩
 ·exact .inr (.inl ⟨L,e,⟨w,(Q7v wf).mp hw,hl⟩,fun u hu=>h u ((Q7v wf).mpr hu)⟩)
 ·exact .inr (.inr ⟨e,fun N=>let ⟨w,hw,hl⟩:=h N;⟨w,(Q7v wf).mp hw,hl⟩⟩)
def Z5g (wf:C0 m):Q5h m=none ↔ ∀w,¬ O7 m w:=by
 have S:=W7e (fin:=fun s=>m.1.getD s false) (Q9k wf) (Q9t wf);rw[bc]at S;constructor
 ·intro h w hw;have:=S.1 h w hw.1;have h2:=hw.2;unfold E7 F5 at h2;rw[h2]at this;cases this
 ·intro h;cases e:Q5h m with
  |none=>rfl
  |some t=>
   obtain⟨w,h1,_,h2⟩:=S.2 t e;exact absurd ⟨h1,h2⟩ (h w)
theorem rep0:∀n:Nat,(List.replicate n [D.int 0]).flatten=J3 n fun _=>0
 |0=>rfl
 |n+1=>by rw[List.replicate_succ',List.flatten_append,rep0 n];unfold J3;rw[eB,aW];rfl
def W6j (a:Nat->Nat)(n:Nat)(o1 o2:Ac Sl){Q:M D->Prop}(q:Q (((List.range n).filter fun v=>decide (a v=0)).map iD)):
  N2 (K8 2 (E1 (A9 0) (E1 (A9 1) L0))) (A3 (J5 60 false) (wV 1) (wC (.int 0))) (B1 (wV 0)) (K1 (J3 n a)) [o1,o2] Q:=by
 have key:∀(l:?P) (o1 o2:Ac Sl) (Q:M D->Prop),Q ((l.filter fun v=>decide (a v=0)).map iD)->N2 (K8 2 (E1 (A9 0) (E1 (A9 1) L0))) (A3 (J5 60 false) (wV 1) (wC (.int 0))) (B1 (wV 0)) (l.map fun i=>.tup [iD i,iD (a i)]) [o1,o2] Q:=by
  intro l
  induction l with
  |nil=>intro o1 o2 Q q;exact q
  |cons i l ih=>
   intro o1 o2 Q q;rw[ax,N2];simp only[Q0j,Q0h,L6,Q0i,C7,A8,D6,E9];refine⟨_,rfl,rfl,_,_,rfl,_,_,rfl,rfl,_,rfl,eqI (b:=0) ?_⟩;rw[ce]at q
   by_cases h:a i=0
   ·rw[aP (by simpa using h)];rw[aP (by simpa using h)]at q;exact⟨_,rfl,_,rfl,ih _ _ _ q⟩
   ·rw[aK (by simpa using h)];rw[aK (by simpa using h)]at q;exact ih _ _ _ q
 have e:K1 (J3 n a)=(List.range n).map fun i=>.tup [iD i,iD (a i)]:=by
  unfold K1 J3;apply dJ;intro i;rw[ai,qk,ai,ai]
  by_cases h:i<n
  ·rw[bV h];simp
  ·rw[ay.mpr (by simpa using h)];rfl
 rw[e];exact key _ o1 o2 Q q
theorem V5q:∀rs Pr,rs.length=1->sp_last_length rs Pr->W1h sp_least_text sp_onward_goals (M0 Pr) (E8 Z3x rs):=by
 rintro rs Pr _ ⟨m,rfl,wf,hl,h⟩;have G:=V1z wf;have ig:=Y7z wf;have lI:(K7 m).length<=20000:=by rw[G.len];omega
 unfold W1h;rw[D8,Q1y];simp only[C7,P4,C1,A8,B7,D6];refine⟨_,rfl,rfl,m,rfl,wf,hl,?_⟩;refine⟨_,rfl,rfl,?_⟩;cases e:Q5h m with
 |none=>
  show(if true=true then(_:Prop)else(_:Prop));rw[aP rfl,P8,Q2o,D6];exact h _ (.inl ⟨rfl,(Z5g wf).mp e⟩)
 |some t=>
  have ha:∃w,O7 m w:=cY fun no=>by
   have:=(Z5g wf).mpr fun w hw=>no ⟨w,hw⟩;rw[e]at this;cases this
  show(if false=true then(_:Prop)else(_:Prop));rw[aK (?G),Q3r];dsimp only;rw[D8,G6,P4];simp only[C1,A8,B7];refine⟨_,rfl,rfl,m,rfl,wf,hl,?_⟩;show U7 (.nw _) _;rw[P7];show A6 (C4 2 _) _ (M0 Pr) [some (.dat (mD m)),some (.own (onD (K7 m))),none,none,none,none,none,none];rw[D8,G6,C7,s_lst];simp only[C1,E9,D6,B7,J9,A8];refine⟨_,rfl,sz (?G),_,rfl,?_⟩;show E3 [.bw _] _;rw[V9,Y7d];have jW:(onD (K7 m)).length=(K7 m).length:=by simp[onD]
  have e0:(List.replicate (((onD (K7 m)).length:Int)).toNat [D.int 0]).flatten=J3 (K7 m).length fun _=>0:=by
   rw[jW,bO];exact rep0 _
  refine⟨?A,by rw[jW];omega,by rw[jW,bO];exact sz ?N,?_⟩;rw[e0,P7];show A6 (L3 (Z0t 1) (A9 3) wbB) _ (M0 Pr) [some (.dat (mD m)),some (.own (onD (K7 m))),some (.own (J3 (K7 m).length fun _=>0)),none,none,none,none,none];rw[D8,W0];k_ne;refine Y4i (K7 m) (fun _=>0) none none (fun gs jo g hg=>?_) fun o3 o4=>?_
  ·obtain⟨u,hu,eu⟩:=gz jo;exact Y7g G hu g (by rw[av,aa hu,eu];exact hg)
  have ea:(fun v=>0+((K7 m).map fun gs=>gs.count v).sum)=inc (K7 m) []:=by funext v;rw[W8d,cZ]
  rw[ea];dsimp only;rw[D8,G6,C7,s_lst];simp only[C1,E9,D6,B7,J9,A8];refine⟨_,rfl,sz (?G),_,rfl,?_⟩;show E3 [.st (.lst _)] _;rw[V1n,Y7d];refine⟨?A,by rw[jW];omega,by rw[jW,bO];exact sz ?N,?_⟩;rw[e0,P7];show A6 (C4 6 _) _ (M0 Pr) [some (.dat (mD m)),some (.dat (.lst (onD (K7 m)))),some (.own (J3 (K7 m).length (inc (K7 m) []))),o3,o4,some (.own (J3 (K7 m).length fun _=>0)),none,none];rw[D8,G6,W6,Y8m];simp only[C1,A8,B7];refine⟨_,rfl,_,_,rfl,rfl,sz (by simp[J3,K1];omega),?_⟩;refine W6j (inc (K7 m) []) (K7 m).length none none ?_;show U7 (.nw _) _;rw[P7];show A6 (Q2v Z3n Y0i) _ (M0 Pr) [some (.dat (mD m)),some (.dat (.lst (onD (K7 m)))),some (.own (J3 (K7 m).length (inc (K7 m) []))),o3,o4,some (.own (J3 (K7 m).length fun _=>0)),some (.own (((List.range (K7 m).length).filter fun v=>decide (inc (K7 m) [] v=0)).map iD)),none];rw[D8];refine⟨(K7 m).length+1,J0x G lI _ _ _ _ [] _ _ (Kh.start (K7 m)) ?H fun a Ln P o4 o7 K=>?_⟩;dsimp only;rw[P8,Q9c];simp only[C7,J9,C1,A8,B7,D6];have pos:0<(K7 m).length:=by rw[G.len];exact G.wf.pos
  k_ne;refine⟨(List.range (K7 m).length).map fun i=>(a i:Int),by rw[aJ];rfl,fun z=>by have:=congrArg List.length z;rw[ag,bc,bz]at this;omega,fun x hx rB=>?_⟩;obtain⟨i,hi,rfl⟩:=ar.mp hx;refine eqI (b:=0) ?_
  by_cases hz:a i=0
  ·rw[aP (by simp[hz])];k_ne;refine⟨(List.range (K7 m).length).map fun i=>(Ln i:Int),by rw[aJ];rfl,fun z=>by have:=congrArg List.length z;rw[ag,bc,bz]at this;omega,fun y hy wq=>?_⟩;obtain⟨j,hj,rfl⟩:=ar.mp hy;refine h _ (Y5i wf (K.last G (fun v hv=>?_) ⟨j,aQ.mp hj,rfl⟩ (fun v hv=>?_) (let ⟨w,hw⟩:=ha;⟨w,(Q7v wf).mpr hw⟩)))
   ·have:=rB (a v:Int) (ar.mpr ⟨v,aQ.mpr hv,rfl⟩);omega
   ·have:=wq (Ln v:Int) (ar.mpr ⟨v,aQ.mpr hv,rfl⟩);omega
  ·rw[aK (by simpa using hz)];exact h _ (Y5i wf (.inr (.inr ⟨rfl,K.inf G ⟨i,aQ.mp hi,hz⟩⟩)))
def Z5f (d:D):Bool:=match d with |.non=>false |_=>true
def Q7d:E6:=fun rs Pr=>∃m:D5,rs=[.st (mD m)]/\C0 m/\?J<=20000/\∀d,Z7 m d->Pr (.st (.bl (Z5f d)))
def V0r:T7 Q7d:=by rintro rs P Q f ⟨m,e,h1,h2,h3⟩;exact⟨m,e,h1,h2,fun d hd=>f _ (h3 d hd)⟩
def V5p:∀rs Pr,rs.length=1->Q7d rs Pr->W1g sp_last_length (M0 Pr) (E8 W4l rs):=by
 rintro rs Pr _ ⟨m,rfl,wf,hl,h⟩;unfold W1g;rw[P8];simp only[s_b,C7,P4,C1,A8,B7,D6];refine⟨_,rfl,rfl,m,rfl,wf,hl,fun d hd=>?_⟩;refine⟨_,rfl,rfl,?_⟩;have:=h d hd;unfold Z5f at this;cases d<;>exact this
def Q4s:E6:=fun rs Pr=>∃m:D5,rs=[.st (mD m)]/\C0 m/\?J<=20000/\∀d,Z7 m d->Pr (.st (if d=.int (-1)then .non else d))
def Y6n:T7 Q4s:=by rintro rs P Q f ⟨m,e,h1,h2,h3⟩;exact⟨m,e,h1,h2,fun d hd=>f _ (h3 d hd)⟩
def V5v:∀rs Pr,rs.length=1->Q4s rs Pr->W1n sp_last_length (M0 Pr) (E8 W4q rs):=by
 rintro rs Pr _ ⟨m,rfl,wf,hl,h⟩;unfold W1n;rw[D8,G6,P4];simp only[C1,A8,B7];refine⟨_,rfl,rfl,m,rfl,wf,hl,fun d hd=>?_⟩;show U7 (.st d) _;rw[S5];rw[P8,Q9c];simp only[C7,A8,Q2o,D6];have q:=h d hd;k_ne;rw[Q1j,N7];rcases hd with⟨e,_⟩ |⟨L,e,_⟩ |⟨e,_⟩
 ·subst e;refine⟨_,_,rfl,rfl,be _,?_⟩;rw[aP rfl]at q;exact q
 ·subst e;have dg:(D.int (L:Int))≠.int (-1):=fun z=>by injection z with z;omega
  rw[aK dg]at q;refine⟨_,_,rfl,rfl,be _,?_⟩;have:D.eq (.int (L:Int)) (.int (-1))=false:=by
   simp only[D.eq];have:(L:Int)≠-1:=?A
   simp[this]
  show(if (D.eq (.int (L:Int)) (.int (-1)))=true then(_:Prop)else(_:Prop));rw[this,aK (?G)];exact⟨_,rfl,q⟩
 ·subst e;rw[aK (fun z=>by cases z)]at q;refine⟨_,_,rfl,rfl,be _,?_⟩;exact⟨_,rfl,q⟩
def Z5a (xs:M α)(k:Nat):Q0s xs none (some (k:Int))=xs.take k:=by
 unfold Q0s;rw[HT.sIx_none,HT.sIx_nat,List.drop_zero,Nat.sub_zero,List.take_eq_take_iff];omega
def sp_no_signs:F4:=fun rs r=>∃m:D5,rs=[.st (mD m)]/\?J<=20000/\r=.nw ((P3 m 0).map iD)
def V5x:∀rs r,rs.length=1->sp_no_signs rs r->W1o (V1 r) (E8 Y1q rs):=by
 rintro rs r _ ⟨m,rfl,hl,rfl⟩;unfold W1o;rw[P8,W6,Q4r];simp only[C7,A8,D6];refine⟨_,rfl,R5 (i:=0) rfl ⟨_,rfl,sz (by rw[ag];omega),?_⟩⟩;refine Q0c (f:=fun d=>match d with |.bl true=>.int 1 |_=>.int 0) _ none _ (fun d hd Q' q=>?_) ?_
 ·obtain⟨b,_,rfl⟩:=ar.mp hd;rw[E9,Q9c,Q7b,A8];k_ne;cases b
  ·exact q
  ·exact q
 ·show R.nw _=R.nw _;congr 1;rw[P3,aJ,aJ];exact b8 fun b _=>by cases b<;>rfl
def CtR (r:R)(cs:?P):Prop:=r=.bw (cs.map iD)\/r=.st (.lst (cs.map iD))
def sp_one_more_sign:F4:=fun rs r=>∃(m:D5) (rc:R) (l:Nat),rs=[.st (mD m),rc]/\CtR rc (P3 m l)/\C0 m/\?J<=20000/\r=.nw ((P3 m (l+1)).map iD)
def Q8f (wf:C0 m){l:Nat}{rc:R}(h:CtR rc (P3 m l)){g:Nat}(hg:g<?J){Q:R->Prop}(q:Q (.st (iD (K6 m l g)))):B5 rc (.st (.int (g:Int))) Q:=by
 have e:((P3 m l).map iD)[g]?=some (iD (K6 m l g)):=by
  have pP:g<(P3 m l).length:=by rw[W6d wf];exact hg
  rw[ai,aa pP,K6,av,aa pP];rfl
 rcases h with rfl |rfl
 ·rw[Q0g];exact⟨_,V4 e,q⟩
 ·rw[Q8w];exact⟨_,V4 e,q⟩
theorem sumI {f:Nat->Nat}:∀t:?P,(t.map fun g=>((f g:Nat):Int)).sum=(((t.map f).sum:Nat):Int):=by intro t;induction t<;>grind [ax,cH]
def V5z:∀rs r,rs.length=2->sp_one_more_sign rs r->W1q (V1 r) (E8 Z4a rs):=by
 rintro rs r _ ⟨m,rc,l,rfl,hc,wf,hl,rfl⟩;have yq:=wf.len;unfold W1q;rw[P8,W6,Q4r];simp only[C7,A8,D6];refine⟨_,rfl,R5 (i:=1) rfl ⟨_,rfl,sz (by rw[ag];omega),?_⟩⟩;have eb:T8 1 [1] (E8 Z4a [.st (mD m),rc])=[none,some (N9 rc)]:=by rcases hc with rfl |rfl<;>rfl
 rw[eb];refine Q0c (f:=fun d=>match d with |.tup ds=>iD ((ds.map fun d=>match d with |.int i=>K6 m l i.toNat |_=>0).sum) |d=>d) (rest:=[some (N9 rc)]) _ none _ (fun d hd Q' q=>?_) ?_
 ·obtain⟨row,hr,rfl⟩:=ar.mp hd;rw[E9];simp only[J9,C1,B7,W6,Q4r,A8];refine⟨_,rfl,_,rfl,sz (by rw[ag,wf.r4 row hr];decide),?_⟩;have xK:T8 1 [1] [some (.dat (rD row)),some (N9 rc)]=[none,some (N9 rc)]:=by rcases hc with rfl |rfl<;>rfl
  rw[xK];refine Q0c (f:=fun d=>match d with |.int i=>iD (K6 m l i.toNat) |d=>d) (rest:=[some (N9 rc)]) _ none _ (fun d hd Q' q=>?_) ?_
  ·obtain⟨g,hg,rfl⟩:=ar.mp hd;have wN:=wf.lt row hr g hg;simp only[E9,C7,A8];sleep 2;have er:T5 (N9 rc)=rc:=by rcases hc with rfl |rfl<;>rfl
   rw[er];exact Q8f wf hc wN (by simpa using q)
  ·show Q2r [.nw _] _;rw[Y8p];refine⟨row.map fun g=>((K6 m l g:Nat):Int),?_,?_⟩
   ·show some _=some _;congr 1;rw[aJ,aJ];exact b8 fun g _=>by simp
   ·have e:=sumI (f:=K6 m l) row;rw[e];have q:Q' (.st (iD ((row.map fun g=>K6 m l g).sum))):=by
     simpa [rD,aJ,fx]using q
    exact q
 ·show R.nw _=R.nw _;congr 1;rw[P3,aJ,aJ];exact b8 fun row _=>by
   show iD (((row.map iD).map _).sum)=iD _;rw[aJ];congr 1
def W1:E6:=fun rs Pr=>∃(m:D5) (k:Nat),rs=[.st (mD m),.st (iD k)]/\C0 m/\?J<=20000/\k<=1000/\Pr (.st (iD ((wl k).filter (E7 m)).length))
def Q5n:T7 W1:=by rintro rs P Q f ⟨m,k,e,h1,h2,h3,h4⟩;exact⟨m,k,e,h1,h2,h3,f _ h4⟩
def wbC:WS:=(C4 3 (L7 sp_one_more_sign (A0 (wV 0) (A0 (wV 3) A2))))
theorem forC (wf:C0 m)(hl:?J<=20000){E:F6}:∀(l:M D) (k:Nat) (o4:Ac Sl),(∀o4,E.nx [some (.dat (mD m)),o1,o2,some (.own ((P3 m (k+l.length)).map iD)),o4]) ->
  D9 (A9 4) wbC E l [some (.dat (mD m)),o1,o2,some (.own ((P3 m k).map iD)),o4]
 |[],k,o4,h=>h o4
 |d::l,k,o4,h=>by
  rw[D9];simp only[wbC,L6,G6,W5,C1,A8,B7];refine⟨_,rfl,_,rfl,rfl,_,⟨m,_,k,rfl,.inl rfl,wf,hl,rfl⟩,?_⟩;rw[P7];refine forC wf hl l (k+1) _ fun o4=>?_;have:=h o4;rw[aH,show k+(l.length+1)=k+1+l.length by omega]at this;exact this
theorem Y0k {k:Nat}(h:∀w,O7 m w->w.length≠k):(wl k).filter (E7 m)=[]:=by
 rw[fL];intro w hw ha;obtain⟨h1,h2⟩:=X6.mp hw;exact h w ⟨h1,ha⟩ h2
def V5o:∀rs Pr,rs.length=2->W1 rs Pr->W1f sp_last_length sp_no_signs sp_one_more_sign (M0 Pr) (E8 W4k rs):=by
 rintro rs Pr _ ⟨m,k,rfl,wf,hl,hk,h⟩;unfold W1f;rw[D8,G6,P4];simp only[C1,A8,B7];refine⟨_,rfl,rfl,m,rfl,wf,hl,fun d hd=>?_⟩;show U7 (.st d) _;rw[S5,D8,Q1y,Q9b];have tail:A6 (C4 3 (L7 sp_no_signs (A0 (wV 0) A2))) (A6 (L3 (Q1r (A0 (wV 1) A2)) (A9 4) wbC) (G2 (A3 B5 (wV 3) (wC (.int 0))))) (M0 Pr) [some (.dat (mD m)),some (.dat (iD k)),some (.dat d),none,none]:=by
  rw[D8,G6];simp only[W5,C1,A8,B7];refine⟨_,rfl,rfl,_,⟨m,rfl,hl,rfl⟩,?_⟩;rw[P7,D8,W0];refine⟨_,rfl,k,rfl,?A,?A,?_⟩;rw[bO];refine forC wf hl _ 0 none fun o4=>?_;have e:(T1 0 k).length=k:=by simp[T1]
  rw[e,cZ];dsimp only;rw[P8];simp only[C7,A8,D6];k_ne;refine Q8f wf (.inl rfl) (g:=0) wf.pos ?_;rw[Z4t wf];exact h
 simp only[C7,A8,D6];rcases hd with⟨e,hd⟩ |⟨L,e,_,hd⟩ |⟨e,hd⟩
 ·subst e;refine⟨_,rfl,_,rfl,rfl,?_⟩;show(if true=true then(_:Prop)else(_:Prop));rw[aP rfl];sleep 2;show L5 _ (.st (.int (k:Int))) (.st (.int (-1))) _;rw[V8,aP ?N,P8,D6];rw[Y0k fun w hw=>absurd hw (hd w)]at h;exact h
 ·subst e;refine⟨_,rfl,_,rfl,rfl,?_⟩;show(if true=true then(_:Prop)else(_:Prop));rw[aP rfl];sleep 2;show L5 _ (.st (.int (k:Int))) (.st (.int (L:Int))) _;rw[V8]
  by_cases hkL:L<k
  ·rw[aP (by simpa using hkL),P8,D6];rw[Y0k fun w hw z=>by have:=hd w hw;omega]at h;exact h
  ·rw[aK (by simpa using hkL)];exact tail
 ·subst e;refine⟨_,rfl,_,rfl,rfl,?_⟩;exact tail
abbrev L1 (m:D5)(j:Nat):M D:=(List.range j).map fun l=>.lst ((P3 m l).map iD)
abbrev pqD (m:D5)(p:?P):D:=.tup [tD p,iD (F5 m p)]
def sp_texts_of_length:F4:=fun rs r=>∃(m:D5) (L size:Nat),rs=[.st (mD m),.bw (L1 m (L+1)),.st (iD size)]/\C0 m/\?J<=20000/\L<=1000/\size<=10000/\r=.nw ((((wl L).filter (E7 m)).take size).map tD)
def Z2r (m:D5)(L:Nat):M4 (L1 m (L+1)) (-1)=some (.lst ((P3 m L).map iD)):=by
 unfold M4 ixN;rw[aK (?G)];have hl:(L1 m (L+1)).length=L+1:=by simp
 rw[hl,aP (?A)];show(L1 m (L+1))[((-1:Int)+((L+1:Nat):Int)).toNat]?=_;rw[show((-1:Int)+((L+1:Nat):Int)).toNat=L by omega,ai,bV (c8 L)];rfl
def W6l (xs:M α):Q0s xs none (some (-1))=xs.dropLast:=by
 unfold Q0s;rw[HT.sIx_none,List.drop_zero,Nat.sub_zero,oZ];congr 1;unfold HT.sIx;simp;omega
def V9s (m:D5)(L:Nat):(L1 m (L+1)).dropLast=L1 m L:=by
 unfold L1;rw[eB,aW,uV,List.dropLast_concat]
def wbZ:WS:=(L8 (A3 (L5 fun i j=>decide (j<i)) (A3 B5 (wV 4) (wV 9)) (wC (.int 0))) (O4 5 (B1 (Q0l (A0 (B1 (A3 F9 (wV 6) (wV 8))) (A0 (B1 (wV 9)) A2))))) L9)
theorem Z5o (wf:C0 m){l:Nat}{E:F6}{p:?P}(hp:B9 p)(hpl:p.length<=1000):∀(cs:?P) (cN:M D) (o8 o9:Ac Sl),(∀c∈cs,c∈B4)->cN.length+cs.length<=100000 ->
  (∀o8 o9,E.nx [o0,o1,o2,o3,some (.dat (.lst ((P3 m l).map iD))),some (.own (cN++(((cs.filter fun c=>decide (0<K6 m l (C5 m.2 (F5 m p) c))).map fun c=>p++[c]).map (pqD m)))),some (.dat (tD p)),o7,o8,o9]) ->
  D9 (K8 2 (E1 (A9 8) (E1 (A9 9) L0))) wbZ E (cs.map fun c=>.tup [.str (R4 c),iD (C5 m.2 (F5 m p) c)]) [o0,o1,o2,o3,some (.dat (.lst ((P3 m l).map iD))),some (.own cN),some (.dat (tD p)),o7,o8,o9]
 |[],cN,o8,o9,_,_,h=>by have:=h o8 o9;simp only[List.filter_nil,cw,aZ]at this;exact this
 |c::cs,cN,o8,o9,hc,ha,h=>by
  have gr:=hc c ak;have hs:=Q2a wf p hp;rw[aH]at ha;rw[ax,D9];simp only[wbZ,Q0j,Q0h,L6,Q0i,Q1y,C7,A8,D6];refine⟨_,rfl,rfl,_,_,rfl,_,_,rfl,rfl,_,rfl,_,rfl,?_⟩;show B5 (.st (.lst ((P3 m l).map iD))) (.st (.int (C5 m.2 (F5 m p) c:Nat))) _;refine Q8f wf (.inr rfl) (Q6y wf hs gr) ?_;rw[V8];rw[ce]at h
  by_cases hz:0<K6 m l (C5 m.2 (F5 m p) c)
  ·rw[aP (by simpa using hz)];rw[aP (by simpa using hz)]at h;simp only[Q1l,E9,s_tup,C1,C7,A8,B7];refine⟨_,rfl,_,rfl,_,rfl,?_⟩;show F9 (.st (.str (K5 p))) (.st (.str (R4 c))) _;rw[Z7a];have h1:(R4 c).length=1:=by
    simp only[B4,au,aL,bu]at gr;rcases gr with rfl |rfl |rfl |rfl<;>rfl
   refine⟨sz (by rw[Z8x hp,h1];omega),_,rfl,_,rfl,sz ?H,_,rfl,T2 (?A),?_⟩;have e:D.tup [.str (K5 p++R4 c),iD (C5 m.2 (F5 m p) c)]=pqD m (p++[c]):=by
    show _=D.tup [.str (K5 (p++[c])),iD (F5 m (p++[c]))];rw[Z2s,Q5t]
   show D9 _ _ _ _ [o0,o1,o2,o3,_,some (.own (cN++[D.tup [.str (K5 p++R4 c),iD (C5 m.2 (F5 m p) c)]])),_,_,_,_];rw[e];refine Z5o wf hp hpl cs _ _ _ (fun d hd=>hc d (aj _ hd)) (by rw[aq];simp only[aH,bz];omega) fun o8 o9=>?_;have:=h o8 o9;rw[ax,ax]at this;rw[bN];exact this
  ·rw[aK (by simpa using hz)];rw[aK (by simpa using hz)]at h;exact Z5o wf hp hpl cs cN _ _ (fun d hd=>hc d (aj _ hd)) (?A) h
def wbY:WS:=(L3 (Z0v (A0 (wC (.str "01ab")) (A0 (A3 B5 (A3 B5 (wV 0) (wC (.int 1))) (wV 7)) A2))) (K8 2 (E1 (A9 8) (E1 (A9 9) L0))) wbZ)
theorem forY (wf:C0 m){l:Nat}{E:F6}:∀(ps:?O) (cN:M D) (o6 o7 o8 o9:Ac Sl),(∀p∈ps,B9 p/\p.length<=1000)->cN.length+4*ps.length<=90000 ->
  (∀o6 o7 o8 o9,E.nx [some (.dat (mD m)),o1,o2,o3,some (.dat (.lst ((P3 m l).map iD))),some (.own (cN++(ps.flatMap (ext m l)).map (pqD m))),o6,o7,o8,o9]) ->
  D9 (K8 2 (E1 (A9 6) (E1 (A9 7) L0))) wbY E (ps.map (pqD m)) [some (.dat (mD m)),o1,o2,o3,some (.dat (.lst ((P3 m l).map iD))),some (.own cN),o6,o7,o8,o9]
 |[],cN,o6,o7,o8,o9,_,_,h=>by have:=h o6 o7 o8 o9;simp only[yU,cw,aZ]at this;exact this
 |p::ps,cN,o6,o7,o8,o9,hp,ha,h=>by
  obtain⟨tE,hpl⟩:=hp p ak;have hs:=Q2a wf p tE;rw[aH]at ha;rw[ax,D9];simp only[wbY,Q0j,Q0h,L6,Q0i,W0,V7g,C1,C7,A8,D6,B7];refine⟨_,rfl,rfl,_,_,rfl,_,_,rfl,rfl,_,rfl,R5 (i:=1) rfl ?_⟩;refine⟨_,rfl,R5 (i:=F5 m p) (d:=rD (B4.map (C5 m.2 (F5 m p)))) (by rw[ai,Wf.rowEq wf hs];rfl) ?_⟩;refine⟨_,_,rfl,?_⟩;have ez:T3 (G4 "01ab") ((B4.map (C5 m.2 (F5 m p))).map iD)=B4.map fun c=>.tup [.str (R4 c),iD (C5 m.2 (F5 m p) c)]:=rfl;rw[ez];have wT:(ext m l p).length<=4:=by unfold ext;rw[ag];exact cS _ _
  refine Z5o wf tE hpl B4 cN _ _ (fun c hc=>hc) (by simp only[B4,aH,bz];omega) fun o8 o9=>?_;refine forY wf ps _ _ _ _ _ (fun q hq=>hp q (aj _ hq)) ?_ fun o6 o7 o8 o9=>?_
  ·rw[aq,ag];show cN.length+(ext m l p).length+_<=_;omega
  ·have:=h o6 o7 o8 o9;rw[bI,aW,<-bN]at this;exact this
structure FkI (m:D5)(size l k:Nat)(F:?O):Prop where
 sub:∀p∈F,p∈fk m l k
 take:F.take size=(fk m l k).take size
 len:F.length<=10001
def FkI.next (wf:C0 m){l k:Nat}{F:?O}(h:FkI m size (l+1) k F)(hs:size<=10000):FkI m size l (k+1) ((F.flatMap (ext m l)).take size):=by
 refine⟨fun p hp=>?_,?_,?_⟩
 ·rw[<-Y4g wf];obtain⟨q,hq,hp⟩:=cb.mp (gk hp);exact cb.mpr ⟨q,h.sub q hq,hp⟩
 ·rw[List.take_take,nE,<-Y4g wf,<-Y4h (ext m l) F size fun x hx=>Y4f wf (h.sub x hx),h.take,Y4h (ext m l) _ size fun x hx=>Y4f wf hx]
 ·rw[bD];omega
def wbX:WS:=(A6 (C4 5 (K0 A2)) (A6 (L3 (Z0t 3) (K8 2 (E1 (A9 6) (E1 (A9 7) L0))) wbY) (C4 3 (wSl (wV 5) Q3n (Q3o (wV 2))))))
theorem forX (wf:C0 m)  (hs:size<=10000){E:F6}:∀(l k:Nat) (F:?O) (o4 o5 o6 o7 o8 o9:Ac Sl),k+l<=1000->FkI m size l k F ->
  (∀F o4 o5 o6 o7 o8 o9,FkI m size 0 (k+l) F->E.nx [some (.dat (mD m)),o1,some (.dat (iD size)),some (.own (F.map (pqD m))),o4,o5,o6,o7,o8,o9]) ->
  D9 (A9 4) wbX E (L1 m l).reverse [some (.dat (mD m)),o1,some (.dat (iD size)),some (.own (F.map (pqD m))),o4,o5,o6,o7,o8,o9]
 |0,k,F,o4,o5,o6,o7,o8,o9,_,hF,h=>h F o4 o5 o6 o7 o8 o9 hF
 |l+1,k,F,o4,o5,o6,o7,o8,o9,hk,hF,h=>by
  have e:(L1 m (l+1)).reverse=.lst ((P3 m l).map iD)::(L1 m l).reverse:=by
   unfold L1;rw[eB,aW,uV,List.reverse_append];rfl
  rw[e,D9];simp only[wbX,L6,D8,G6,s_lst,B7,W0];refine⟨_,rfl,sz (?G),?_⟩;rw[P7];k_ne;have hw:∀p∈F,B9 p/\p.length<=1000:=fun p hp=>by
   obtain⟨a,b⟩:=X6.mp (bx.mp (hF.sub p hp)).1;exact⟨a,?A⟩
  refine forY wf F [] _ _ _ _ hw (by have:=hF.len;simp only[bz];omega) fun o6 o7 o8 o9=>?_;rw[cq];simp only[Z2f,Z2d,Z2e,A8];sleep 2;simp only[N7,N8,Q1j,Z1p,Z5a,P7];rw[<-m3];exact forX wf hs l (k+1) _ _ _ _ _ _ _ (?A) (hF.next wf hs) fun F o4 o5 o6 o7 o8 o9 hF=>h F o4 o5 o6 o7 o8 o9 (by rw[show k+(l+1)=k+1+l by omega];exact hF)
def V6g:∀rs r,rs.length=3->sp_texts_of_length rs r->W1s (V1 r) (E8 Y1w rs):=by
 rintro rs r _ ⟨m,L,size,rfl,wf,hl,hL,hs,rfl⟩;have F0:FkI m size L 0 (fk m L 0):=⟨fun p hp=>hp,rfl,by
  have:(fk m L 0).length<=(wl 0).length:=cS _ _;have e:(wl 0).length=1:=rfl;omega⟩
 unfold W1s;rw[D8,G6,Q9c];simp only[C7,A8,Q2o,D6];k_ne;rw[Q1j];show B5 (.bw (L1 m (L+1))) (.st (.int (-1))) _;rw[Q0g];refine⟨_,Z2r m L,?_⟩;refine Q8f wf (.inr rfl) (g:=0) wf.pos ?_;rw[V8];have rest:∀F,FkI m size L 0 F->A6 (L3 (Z0u (A0 (B1 (wSl (wV 1) Q3n (Q3o (X9 (wC (.int 1)))))) A2)) (A9 4) wbX) (G2 (M8 2 [] (Q1g (wSl (wV 3) Q3n (Q3o (wV 2)))) (K8 2 (E1 (A9 0) (E1 (A9 1) L0))) P9 (B1 (wV 0)))) (V1 (.nw ((((wl L).filter (E7 m)).take size).map tD))) [some (.dat (mD m)),some (.bor (L1 m (L+1))),some (.dat (iD size)),some (.own (F.map (pqD m))),none,none,none,none,none,none]:=by
  intro F hF;rw[D8,W0,V7d];simp only[C1,E9,Z2f,A8,Z2d,Z2e,Q2o,D6,B7];k_ne;simp only[Q1j,V1s,Z1p,W6l,V9s];k_ne;refine forX wf hs L 0 F none none none none none none (?A) hF fun F o4 o5 o6 o7 o8 o9 hF=>?_;rw[cZ]at hF;dsimp only;rw[P8,W6,Q5r,Z2f,A8];k_ne;rw[Z2d,Z2e,A8];k_ne;simp only[N7,N8,Q1j,Z1p,Z5a];rw[<-m3];refine⟨_,rfl,sz (by rw[ag,bD];omega),?_⟩;have e:(F.take size).map (pqD m)=((F.take size).map fun p=>(tD p,iD (F5 m p))).map fun q=>D.tup [q.1,q.2]:=by rw[aJ];rfl
  rw[e];refine Z4y (f:=fun a b=>a) (rest:=[]) _ none none _ (fun q hq Q' h=>?_) ?_
  ·rw[E9,A8];exact⟨_,rfl,h⟩
  ·show R.nw _=R.nw _;congr 1;rw[aJ,hF.take,W7f]
   rfl
 by_cases hz:0<K6 m L 0
 ·rw[aP (by simpa using hz),s_lst];simp only[C1,E9,s_tup,D6,B7];refine⟨_,rfl,sz ?H,_,rfl,sz ?H,?_⟩;rw[P7];have e:fk m L 0=[[]]:=by
   unfold fk wl;rw[ce,aP (show decide (0<K6 m L (F5 m []))=true from bP hz)];rfl
  have:=rest _ F0;rw[e]at this;exact this
 ·rw[aK (by simpa using hz),s_lst];simp only[B7];refine⟨_,rfl,sz (?G),?_⟩;rw[P7];have e:fk m L 0=[]:=by
   unfold fk wl;rw[ce,aK (show ¬ decide (0<K6 m L (F5 m []))=true from fun z=>hz (cp z))];rfl
  have:=rest _ F0;rw[e]at this;exact this
def B6 (m:D5)(j:Nat):?O:=(List.range j).flatMap fun l=>(wl l).filter (E7 m)
theorem Q4w (m:D5)(j:Nat):B6 m (j+1)=B6 m j++(wl j).filter (E7 m):=by unfold B6;rw[eB,List.flatMap_append,List.flatMap_singleton]
def Q9m (m:D5)(n:Nat):(Q3y n).filter (E7 m)=B6 m (n+1):=by rw[Y0l,B6,List.filter_flatMap]
theorem Q5v (m:D5){i j:Nat}(h:i<=j):B6 m i <+: B6 m j:=by induction j<;>grind [bC,aX,Q4w,cB]
def Q2k {j:Nat}{w:?P}:w∈B6 m j ↔ O7 m w/\w.length<j:=by
 unfold B6;rw[cb];constructor
 ·rintro ⟨l,hl,h⟩;obtain⟨h1,h2⟩:=bx.mp h;obtain⟨a,b⟩:=X6.mp h1;exact⟨⟨a,h2⟩,by have:=aQ.mp hl;omega⟩
 ·rintro ⟨⟨a,b⟩,h⟩;exact⟨w.length,aQ.mpr h,bx.mpr ⟨X6.mpr ⟨a,rfl⟩,b⟩⟩
theorem Q3v {i j:Nat}(h:i<=j)(hn:∀w,O7 m w->w.length<i):B6 m j=B6 m i:=by induction j<;>grind [aX,Q4w,Y0k,aZ]
theorem Y0j:∀n,(wl n).length=4^n
 |0=>rfl
 |n+1=>by rw[wl,Z6m,Y0j n,Nat.pow_succ];omega
theorem W0a (m:D5)(j:Nat):L1 m (j+1)++[.lst ((P3 m (j+1)).map iD)]=L1 m (j+1+1):=by grind [eB,aW]
def Q5s:E6:=fun rs Pr=>∃(m:D5) (k:Nat),rs=[.st (mD m),.st (iD k)]/\C0 m/\?J<=20000/\k<=6/\Pr (.nw ((B6 m (k+1)).map tD))
def Y6p:T7 Q5s:=by rintro rs P Q f ⟨m,k,e,h1,h2,h3,h4⟩;exact⟨m,k,e,h1,h2,h3,f _ h4⟩
def wbU:WS:=(A6 (Q7j 3 (L7 sp_texts_of_length (A0 (wV 0) (A0 (wV 4) (A0 (A3 B5 (A3 B5 (wV 4) (X9 (wC (.int 1)))) (wC (.int 0))) A2))))) (O4 4 (B1 (L7 sp_one_more_sign (A0 (wV 0) (A0 (A3 B5 (wV 4) (X9 (wC (.int 1)))) A2))))))
def W5k (wf:C0 m)(hl:?J<=20000){E:F6}  {j:Nat}(hj:j<=6)(h:E.nx [some (.dat (mD m)),o1,o2,some (.own ((B6 m (j+1)).map tD)),some (.own (L1 m (j+1+1)))]):
  wbU E [some (.dat (mD m)),o1,o2,some (.own ((B6 m j).map tD)),some (.own (L1 m (j+1)))]:=by
 have hc:((wl j).filter (E7 m)).length<=4096:=by
  have h1:((wl j).filter (E7 m)).length<=(wl j).length:=cS _ _;have h2:4^j<=4^6:=Nat.pow_le_pow_right (?G) hj;rw[Y0j]at h1;have:(4:Nat)^6=4096:=?G
  omega
 have hu:(B6 m j).length<=100000:=by
  have:=(Q5v m hj).length_le;have e:(B6 m 6).length<=(Q3y 5).length:=by rw[<-Q9m];exact cS _ _
  have e2:(Q3y 5).length=1365:=?E
  omega
 unfold wbU;rw[D8,Y8j];k_ne;simp only[W5,C1,A8,C7,Q2o,D6,B7];refine⟨_,rfl,_,rfl,_,rfl,?_⟩;rw[Q1j];show B5 (.bw (L1 m (j+1))) (.st (.int (-1))) _;rw[Q0g];refine⟨_,Z2r m j,?_⟩;refine Q8f wf (.inr rfl) (g:=0) wf.pos ?_;refine⟨rfl,_,⟨m,j,K6 m j 0,rfl,wf,hl,?A,by rw[Z4t wf];omega,rfl⟩,?_⟩;rw[Z4t wf,yQ];refine⟨_,rfl,sz (by rw[ag,ag];omega),?_⟩;rw[Q1l];k_ne;simp only[E9,W5,C1,A8,C7,Q2o,D6,B7];sleep 2;rw[Q1j];show B5 (.bw (L1 m (j+1))) (.st (.int (-1))) _;rw[Q0g];refine⟨_,Z2r m j,rfl,_,⟨m,_,j,rfl,.inr rfl,wf,hl,rfl⟩,?_⟩;rw[Z1o];refine⟨_,rfl,T2 ?N,?_⟩;have e:(B6 m j).map tD++((wl j).filter (E7 m)).map tD=(B6 m (j+1)).map tD:=by rw[Q4w,aW]
 show E.nx [_,_,_,some (.own ((B6 m j).map tD++((wl j).filter (E7 m)).map tD)),some (.own (L1 m (j+1)++[.lst ((P3 m (j+1)).map iD)]))];rw[e,W0a];exact h
def Z6 (k:Nat)(d:D):Int:=match d with |.int i=>if i<(k:Int)then i else k |_=>k
def wtU:WT:=(A3 (L5 fun i j=>decide (i<=j)) (D4 E3 (A0 (wV 4) A2)) (A3 F9 (wIf (A3 (Z1 false) (wV 2) (wC .non)) (wV 1) (D4 Q3l (A0 (wV 1) (A0 (wV 2) A2)))) (wC (.int 1))))
def W0c {d:D}(hd:Z7 m d){k j:Nat}  {Q:Bool->Prop}(h:Q (decide ((j:Int)<=Z6 k d))):wtU [o0,some (.dat (iD k)),some (.dat d),o3,some (.own (L1 m (j+1)))] Q:=by
 unfold wtU;simp only[C7,J9,C1,A8,B7,Q9c,D6];k_ne;rw[N8,V9];have hl:((L1 m (j+1)).length:Int)=(j:Int)+1:=by simp
 refine⟨_,rfl,_,rfl,rfl,?_⟩;rcases hd with⟨e,_⟩ |⟨L,e,_⟩ |⟨e,_⟩
 ·subst e;show(if false=true then(_:Prop)else(_:Prop));rw[aK (?G)];sleep 2;show Q3l [.st (.int (k:Int)),.st (.int (-1))] _;rw[Y8o,Q0f,V8,hl];have:Z6 k (.int (-1))=if (-1:Int)<(k:Int)then -1 else(k:Int):=rfl
  rw[this]at h;have e:decide ((j:Int)+1<=(if (-1:Int)<(k:Int)then -1 else(k:Int))+1)=decide ((j:Int)<=(if (-1:Int)<(k:Int)then -1 else(k:Int))):=by congr 1;apply propext;constructor<;>intro _<;>omega
  rw[e];exact h
 ·subst e;show(if false=true then(_:Prop)else(_:Prop));rw[aK (?G)];sleep 2;show Q3l [.st (.int (k:Int)),.st (.int (L:Int))] _;rw[Y8o,Q0f,V8,hl];have:Z6 k (.int (L:Int))=if (L:Int)<(k:Int)then(L:Int)else(k:Int):=rfl
  rw[this]at h;have e:decide ((j:Int)+1<=(if (L:Int)<(k:Int)then(L:Int)else(k:Int))+1)=decide ((j:Int)<=(if (L:Int)<(k:Int)then(L:Int)else(k:Int))):=by congr 1;apply propext;constructor<;>intro _<;>omega
  rw[e];exact h
 ·subst e;show(if true=true then(_:Prop)else(_:Prop));rw[aP rfl];k_ne;show F9 (.st (.int (k:Int))) (.st (.int 1)) _;rw[Q0f,V8,hl];have e:decide ((j:Int)+1<=(k:Int)+1)=decide ((j:Int)<=Z6 k .non):=by congr 1;apply propext;show _ ↔ (j:Int)<=(k:Int);constructor<;>intro _<;>omega
  rw[e];exact h
theorem J1a (wf:C0 m)(hl:?J<=20000){d:D}(hd:Z7 m d){k:Nat}(hk:k<=6){E:F6}(h:∀j:Nat,(j:Int)=Z6 k d+1->∀o4,E.nx [some (.dat (mD m)),some (.dat (iD k)),some (.dat d),some (.own ((B6 m j).map tD)),o4]):∀(n j:Nat),Z6 k d+1-(j:Int)<=n->(j:Int)<=Z6 k d+1 ->
  G8 wtU wbU (n+1) E [some (.dat (mD m)),some (.dat (iD k)),some (.dat d),some (.own ((B6 m j).map tD)),some (.own (L1 m (j+1)))]:=by
 have r6:Z6 k d<=k:=by unfold Z6;split<;>(try split)<;>omega
 intro n
 induction n with
 |zero=>
  intro j hj ip;rw[G8];refine W0c hd ?_;rw[aK ?N];exact h j (?A) _
 |succ n ih=>
  intro j hj ip;rw[G8];refine W0c hd ?_
  by_cases ig:(j:Int)<=Z6 k d
  ·rw[aP (by simpa using ig)];exact W5k wf hl (?A) (ih (j+1) (?A) (?A))
  ·rw[aK (by simpa using ig)];exact h j (?A) _
def V6h:∀rs Pr,rs.length=2->Q5s rs Pr->W1t sp_last_length sp_no_signs sp_texts_of_length sp_one_more_sign (M0 Pr) (E8 W4s rs):=by
 rintro rs Pr _ ⟨m,k,rfl,wf,hl,hk,h⟩;unfold W1t;rw[D8,G6,P4];simp only[C1,A8,B7];refine⟨_,rfl,rfl,m,rfl,wf,hl,fun d hd=>?_⟩;show U7 (.st d) _;rw[S5,D8,G6,s_lst,B7];refine⟨_,rfl,sz (?G),?_⟩;rw[P7];dsimp only;rw[D8,G6,s_lst];simp only[C1,E9,W5,A8,B7];refine⟨_,rfl,rfl,_,⟨m,rfl,hl,rfl⟩,?_⟩;rw[Z1o];refine⟨_,rfl,sz ?H,?_⟩;rw[P7];dsimp only;rw[D8];have r6:-1<=Z6 k d/\Z6 k d<=k:=by
  rcases hd with⟨e,_⟩ |⟨L,e,_⟩ |⟨e,_⟩
  ·subst e;show -1<=(if (-1:Int)<(k:Int)then -1 else(k:Int))/\(if (-1:Int)<(k:Int)then -1 else(k:Int))<=k;split<;>omega
  ·subst e;show -1<=(if (L:Int)<(k:Int)then(L:Int)else(k:Int))/\(if (L:Int)<(k:Int)then(L:Int)else(k:Int))<=k;split<;>omega
  ·subst e;show -1<=(k:Int)/\(k:Int)<=k;omega
 refine⟨(Z6 k d+1).toNat+1,?_⟩;refine J1a wf hl hd hk (fun j hj o4=>?_) _ 0 (?A) (?A);dsimp only;rw[Q9d];k_ne;have e:B6 m (k+1)=B6 m j:=by
  rcases hd with⟨e,hd⟩ |⟨L,e,_,hd⟩ |⟨e,hd⟩
  ·exact Q3v (?A) fun w hw=>absurd hw (hd w)
  ·subst e;have et:Z6 k (.int (L:Int))=if (L:Int)<(k:Int)then(L:Int)else(k:Int):=rfl
   rw[et]at hj
   by_cases z:(L:Int)<(k:Int)
   ·rw[aP z]at hj;exact Q3v (?A) fun w hw=>by have:=hd w hw;omega
   ·rw[aK z]at hj;rw[show j=k+1 by omega]
  ·subst e;have et:Z6 k .non=(k:Int):=rfl;rw[et]at hj;rw[show j=k+1 by omega]
 show Pr (.nw _);rw[<-e];exact h
def Q2q:E6:=fun rs Pr=>∃(m:D5) (size:Nat),rs=[.st (mD m),.st (iD size)]/\C0 m/\?J<=20/\size<=40/\Pr (.nw (((B6 m (size*?J)).take size).map tD))
def Z6y:T7 Q2q:=by rintro rs P Q f ⟨m,k,e,h1,h2,h3,h4⟩;exact⟨m,k,e,h1,h2,h3,f _ h4⟩
theorem Z2t (wf:C0 m)(h:Inf m):∀s:Nat,s<=(B6 m (s*?J)).length
 |0=>be _
 |s+1=>by
  have ih:=Z2t wf h s;obtain⟨w,hw,h1,h2⟩:=J1b wf h (s*?J);rw[iT];obtain⟨t,ht⟩:=Q5v m (show s*?J<=s*?J+?J by omega);rw[<-ht,aq];have:0<t.length:=by
   rcases cA t.length with z |z
   ·have kr:w∈B6 m (s*?J+?J):=Q2k.mpr ⟨hw,h2⟩;rw[<-ht,cm.mp z,aZ]at kr;have:=(Q2k.mp kr).2;omega
   ·exact z
  omega
def Z3l:WT:=(Q3w (A3 (L5 fun i j=>decide (i<j)) (D4 E3 (A0 (wV 3) A2)) (wV 1)) (wOr (A3 (Z1 false) (wV 2) (wC .non)) (A3 (L5 fun i j=>decide (i<=j)) (D4 E3 (A0 (wV 4) A2)) (A3 F9 (wV 2) (wC (.int 1))))))
def Z3h:WS:=(A6 (Q7j 3 (L7 sp_texts_of_length (A0 (wV 0) (A0 (wV 4) (A0 (A3 (P6 NoC fun i j=>i-j) (wV 1) (D4 E3 (A0 (wV 3) A2))) A2))))) (O4 4 (B1 (L7 sp_one_more_sign (A0 (wV 0) (A0 (A3 B5 (wV 4) (X9 (wC (.int 1)))) A2))))))
def Q6t (d:D)(j:Nat):Bool:=match d with |.int i=>decide ((j:Int)<=i) |_=>true
def W0b {d:D}(hd:Z7 m d){j:Nat}{jP:M D}  {Q:Bool->Prop}(h:Q (decide (jP.length<size)&&Q6t d j)):Z3l [o0,some (.dat (iD size)),some (.dat d),some (.own jP),some (.own (L1 m (j+1)))] Q:=by
 unfold Z3l;rw[Q9b];simp only[C7,J9,C1,A8,B7];k_ne;rw[N8,V9];k_ne;rw[N7,V8];have hl:((L1 m (j+1)).length:Int)=(j:Int)+1:=by simp
 by_cases hz:jP.length<size
 ·rw[aP (by simpa using hz)];rw[bP hz,Bool.true_and]at h;rw[Z7x];simp only[C7,J9,C1,A8,B7,D6];refine⟨_,rfl,_,rfl,rfl,?_⟩;have go:∀i:Int,d=.int i->(if false=true then Q true else ∃s,([o0,some (.dat (iD size)),some (.dat d),some (.own jP),some (.own (L1 m (j+1)))]:C8)[4]?=some (some s)/\E3 [T5 s] fun x=>∃s,([o0,some (.dat (iD size)),some (.dat d),some (.own jP),some (.own (L1 m (j+1)))]:C8)[2]?=some (some s)/\F9 (T5 s) (.st (.int 1)) fun y=>L5 (fun i j=>decide (i<=j)) x y Q):=by
   intro i e;subst e;rw[aK (?G)];k_ne;rw[N8,V9];k_ne;rw[N7,Q0f,V8,hl];have e:decide ((j:Int)+1<=i+1)=Q6t (.int i) j:=by show _=decide ((j:Int)<=i);congr 1;apply propext;constructor<;>intro _<;>omega
   rw[e];exact h
  rcases hd with⟨e,_⟩ |⟨L,e,_⟩ |⟨e,_⟩
  ·have:=go _ e;subst e;exact this
  ·have:=go _ e;subst e;exact this
  ·subst e;exact h
 ·rw[aK (by simpa using hz)];rw[aY hz,Bool.false_and]at h;exact h
def W5j (wf:C0 m)(hl:?J<=20000){E:F6}  {j:Nat}(hj:j<=1000)(hs:size<=40)(hu:(B6 m j).length<size)(h:E.nx [some (.dat (mD m)),some (.dat (iD size)),o2,some (.own (((B6 m (j+1)).take size).map tD)),some (.own (L1 m (j+1+1)))]):
  Z3h E [some (.dat (mD m)),some (.dat (iD size)),o2,some (.own ((B6 m j).map tD)),some (.own (L1 m (j+1)))]:=by
 unfold Z3h;rw[D8,Y8j];k_ne;simp only[W5,C1,A8,C7,J9,B7];refine⟨_,rfl,_,rfl,_,rfl,_,rfl,?_⟩;rw[N8,V9];show P6 NoC _ (.st (.int (size:Int))) (.st (.int (((B6 m j).map tD).length:Int))) _;have es:(size:Int)-(((B6 m j).map tD).length:Int)=((size-(B6 m j).length:Nat):Int):=by rw[ag];omega
 refine⟨trivial,?_⟩;dsimp only;rw[es];refine⟨rfl,_,⟨m,j,size-(B6 m j).length,rfl,wf,hl,hj,?A,rfl⟩,?_⟩;refine⟨_,rfl,sz (by rw[ag,ag,bD];omega),?_⟩;rw[Q1l];k_ne;simp only[E9,W5,C1,A8,C7,Q2o,D6,B7];sleep 2;rw[Q1j];show B5 (.bw (L1 m (j+1))) (.st (.int (-1))) _;rw[Q0g];refine⟨_,Z2r m j,rfl,_,⟨m,_,j,rfl,.inr rfl,wf,hl,rfl⟩,?_⟩;rw[Z1o];refine⟨_,rfl,T2 ?N,?_⟩;have e:(B6 m j).map tD++(((wl j).filter (E7 m)).take (size-(B6 m j).length)).map tD=((B6 m (j+1)).take size).map tD:=by
  rw[Q4w,j7,dH (l:=B6 m j) (?A),aW]
 show E.nx [_,_,_,some (.own ((B6 m j).map tD++(((wl j).filter (E7 m)).take (size-(B6 m j).length)).map tD)),some (.own (L1 m (j+1)++[.lst ((P3 m (j+1)).map iD)]))];rw[e,W0a];exact h
theorem J0u (wf:C0 m)(hl:?J<=20){d:D}(hd:Z7 m d)  (hs:size<=40){E:F6}(h:∀j:Nat,j<=size*?J->(size<=(B6 m j).length\/Q6t d j=false)->∀o4,E.nx [some (.dat (mD m)),some (.dat (iD size)),some (.dat d),some (.own (((B6 m j).take size).map tD)),o4]):∀(n j:Nat),size*?J<=n+j->j<=size*?J ->
  G8 Z3l Z3h (n+1) E [some (.dat (mD m)),some (.dat (iD size)),some (.dat d),some (.own (((B6 m j).take size).map tD)),some (.own (L1 m (j+1)))]:=by
 have hM:size*?J<=800:=aV (Nat.mul_le_mul hs hl) (?G);have bW:∀j,(B6 m j).length<size->Q6t d j=true->j<size*?J:=by
  intro j h1 h2;rcases hd with⟨e,_⟩ |⟨L,e,hL,hd⟩ |⟨e,hd⟩
  ·subst e;have:decide ((j:Int)<=-1)=true:=h2;simp at this;omega
  ·subst e;have:decide ((j:Int)<=(L:Int))=true:=h2;simp at this;have:=Y5h wf hd hL;have:?J<=size*?J:=Nat.le_mul_of_pos_left _ (?A);omega
  ·refine cY fun no=>?_;have:=Z2t wf hd size;have:=(Q5v m (show size*?J<=j by omega)).length_le;omega
 intro n
 induction n with
 |zero=>
  intro j hj ip;rw[G8];refine W0b hd ?_;rw[ag,bD];cases hb:(decide (min size (B6 m j).length<size)&&Q6t d j)with
  |false=>
   rw[aK (?G)];refine h j ip ?_ _;rcases p8.mp hb with z |z
   ·left;have:=uS z;omega
   ·exact .inr z
  |true=>
   obtain⟨z1,z2⟩:=qp.mp hb;have:=cp z1;have:=bW j (?A) z2;omega
 |succ n ih=>
  intro j hj ip;rw[G8];refine W0b hd ?_;rw[ag,bD];cases hb:(decide (min size (B6 m j).length<size)&&Q6t d j)with
  |false=>
   rw[aK (?G)];refine h j ip ?_ _;rcases p8.mp hb with z |z
   ·left;have:=uS z;omega
   ·exact .inr z
  |true=>
   obtain⟨z1,z2⟩:=qp.mp hb;have z1:=cp z1;have z3:=bW j (?A) z2;rw[aP rfl];have e:(B6 m j).take size=B6 m j:=dH (?A);rw[e];exact W5j wf (?A) (?A) hs (?A) (ih (j+1) (?A) (?A))
def V5n:∀rs Pr,rs.length=2->Q2q rs Pr->W1e sp_last_length sp_no_signs sp_texts_of_length sp_one_more_sign (M0 Pr) (E8 W4j rs):=by
 rintro rs Pr _ ⟨m,size,rfl,wf,hl,hs,h⟩;unfold W1e;rw[D8,G6,P4];simp only[C1,A8,B7];refine⟨_,rfl,rfl,m,rfl,wf,?A,fun d hd=>?_⟩;show U7 (.st d) _;rw[S5,D8,G6,s_lst,B7];refine⟨_,rfl,sz (?G),?_⟩;rw[P7];dsimp only;rw[D8,G6,s_lst];simp only[C1,E9,W5,A8,B7];refine⟨_,rfl,rfl,_,⟨m,rfl,?A,rfl⟩,?_⟩;rw[Z1o];refine⟨_,rfl,sz ?H,?_⟩;rw[P7];dsimp only;rw[D8];refine⟨size*?J+1,?_⟩;have e0:([]:M D)=((B6 m 0).take size).map tD:=by simp[B6]
 show G8 Z3l Z3h _ _ [some (.dat (mD m)),some (.dat (iD size)),some (.dat d),some (.own []),some (.own (L1 m (0+1)))];rw[e0];refine J0u wf hl hd hs (fun j hj hc o4=>?_) _ 0 (?A) (be _);dsimp only;rw[Q9d];k_ne;have e:(B6 m (size*?J)).take size=(B6 m j).take size:=by
  rcases hc with z |z
  ·obtain⟨t,ht⟩:=Q5v m hj;rw[<-ht,ci z]
  ·rcases hd with⟨e,hd⟩ |⟨L,e,_,hd⟩ |⟨e,hd⟩
   ·rw[Q3v hj fun w hw=>absurd hw (hd w)]
   ·subst e;have:decide ((j:Int)<=(L:Int))=false:=z;simp at this;rw[Q3v hj fun w hw=>by have:=hd w hw;omega]
   ·subst e;cases z
 show Pr (.nw _);rw[<-e];exact h
def V9r {A B C:M α}(hA:A <+: C)(hB:B <+: C){k:Nat}(h1:k<=A.length)(h2:k<=B.length):A.take k=B.take k:=by
 obtain⟨x,rfl⟩:=hA;obtain⟨y,e⟩:=hB;have:=congrArg (List.take k) e;rw[ci h2,ci h1]at this;exact this.symm
theorem W7q (wf:C0 m)(h4:?J<=4):((B6 m 4).map tD++[.non])[0]?=some (sD (Q5h m)):=by
 cases e:Q5h m with
 |none=>
  have hn:=(Z5g wf).mp e;have:B6 m 4=[]:=by
   cases q:B6 m 4 with
   |nil=>rfl
   |cons w _=>exact absurd (Q2k.mp (by rw[q];exact ak)).1 (hn w)
  rw[this];rfl
 |some t=>
  obtain⟨w,hw,rfl,ha,hl⟩:=W7d e;have ac:O7 m w:=⟨hw,ha⟩
  have bZ:w.length<?J:=by
   rcases aX w.length ?J with q |q
   ·exact q
   ·obtain⟨u,h1,h2,h3,_⟩:=cut wf hw ha q;have:=hl u h1 h2;have:=Y6y h1 hw h3;omega
  have hm:w∈B6 m 4:=Q2k.mpr ⟨ac,?A⟩;have hs:(B6 m 4).Pairwise fun a b=>E5 a<E5 b:=by rw[<-Q9m m 3];exact qm _ (W1z 3)
  cases q:B6 m 4 with
  |nil=>rw[q]at hm;cases hm
  |cons v r=>
   rw[q]at hm hs;rcases au.mp hm with rfl |hm2
   ·rfl
   ·have h1:=List.rel_of_pairwise_cons hs hm2;have hv:=(Q2k.mp (show v∈B6 m 4 by rw[q];exact ak)).1;have:=hl v hv.1 hv.2;omega
def Z9a {j:Nat}{w:?P}(h:w∈B6 m j):B9 w:=(Q2k.mp h).1.1
theorem same {r1 r2:R}{d:D}  {neg:Bool}{Q:Bool->Prop}(h1:r1.d=some d)(h2:r2.d=some d)(hd:d.depth<=n)(q:Q (!neg)):J5 n neg r1 r2 Q:=by intros;simp_all[Q9y]
theorem flat {f:α->D}(h:∀x,(f x).depth=0):∀l:M α,Dqdepths (l.map f)=0
 |[]=>rfl
 |a::l=>by rw[ax,Dqdepths,h,flat h l];rfl
def Z0r {f:α->D}(h:∀x,(f x).depth=0)(l:M α)  (hn:1<=n):D.depth (.lst (l.map f))<=n:=by
 show Dqdepths (l.map f)+1<=n;rw[flat h];exact hn
theorem Z0x {f:α->D}(h:∀x,(f x).depth=0)(l:M α)  (hn:1<=n){neg:Bool}{Q:Bool->Prop}(q:Q (if neg=true then !l.isEmpty else l.isEmpty)):J5 n neg (.bw (l.map f)) (.nw []) Q:=by intros;simp_all[Z0r]
theorem tD0 (w:?P):(tD w).depth=0:=rfl
abbrev Z3y:M Str:=["_law_script","_law_one","_law_other","_law_long","_law_whole","_law_told","_law_every","_law_most"]
def W1i (eF:F4)(W1:E6)(jd:E6)(iE:E6)(gn:E6)(Q5s:E6)(gF:F4)(iF:F4)(sp_least_text:E6)(Q2q:E6)(Q7d:E6)(Q4s:E6):WS:=(A6 (C4 1 (L7 eF (A0 (wV 0) (A0 (wC (.int 0)) (A0 (wC (.int 3)) A2))))) (A6 (C4 2 (L7 eF (A0 (wV 0) (A0 (wC (.int 60)) (A0 (wC (.int 3)) A2))))) (A6 (L3 (Q1r (A0 (wC (.int 4)) A2)) (A9 3) (A6 (C4 4 (A3 F9 (E4 W1 (A0 (E4 jd (A0 (wV 1) (A0 (wV 2) A2))) (A0 (wV 3) A2))) (E4 W1 (A0 (E4 iE (A0 (wV 1) (A0 (wV 2) A2))) (A0 (wV 3) A2))))) (A6 (L8 (A3 S3 (wV 4) (A3 F9 (E4 W1 (A0 (wV 1) (A0 (wV 3) A2))) (E4 W1 (A0 (wV 2) (A0 (wV 3) A2))))) (G2 (wC (.bl false))) L9) (L8 (A3 S3 (A3 F9 (E4 W1 (A0 (wV 1) (A0 (wV 3) A2))) (E4 W1 (A0 (E4 gn (A0 (wV 1) A2)) (A0 (wV 3) A2)))) (A3 B5 (K0 (A0 (B1 (wC (.int 1))) (A0 (B1 (wC (.int 4))) (A0 (B1 (wC (.int 16))) (A0 (B1 (wC (.int 64))) A2))))) (wV 3))) (G2 (wC (.bl false))) L9)))) (A6 (C4 5 (E4 Q5s (A0 (wV 1) (A0 (wC (.int 2)) A2)))) (A6 (L8 (A3 (J5 59 true) (wV 5) (M8 1 [1] (Q1g (L7 gF (A0 (wC (.int 2)) A2))) (A9 0) (Q2u (L7 iF (A0 (wV 1) (A0 (wV 0) A2)))) (B1 (wV 0)))) (G2 (wC (.bl false))) L9) (A6 (L8 (wOr (A3 S3 (Z3f (wV 5)) (D4 E3 (A0 (wV 5) A2))) (A3 S3 (D4 E3 (A0 (wV 5) A2)) (D4 Q2r (A0 (M8 1 [1] (Q5l (A0 (wC (.int 3)) A2)) (A9 0) P9 (B1 (E4 W1 (A0 (wV 1) (A0 (wV 0) A2))))) A2)))) (G2 (wC (.bl false))) L9) (A6 (L8 (Q3w (A3 (J5 59 true) (wV 5) (K0 A2)) (A3 (J5 59 true) (E4 sp_least_text (A0 (wV 1) A2)) (A3 B5 (wV 5) (wC (.int 0))))) (G2 (wC (.bl false))) L9) (A6 (L8 (A3 (J5 59 true) (E4 Q2q (A0 (wV 1) (A0 (D4 Q3l (A0 (wC (.int 9)) (A0 (D4 E3 (A0 (wV 5) A2)) A2))) A2))) (wSl (wV 5) Q3n (Q3o (wC (.int 9))))) (G2 (wC (.bl false))) L9) (A6 (L8 (Q2u (E4 Q7d (A0 (wV 1) A2))) (A6 (C4 6 (E4 Q2q (A0 (wV 1) (A0 (wC (.int 40)) A2)))) (A6 (C4 7 (E4 Q4s (A0 (wV 1) A2))) (A6 (L8 (wOr (A3 (J5 59 true) (wB (A3 (Z1 false) (wV 7) (wC .non))) (wB (A3 (J5 60 false) (wV 6) (K0 A2)))) (Q3w (A3 (J5 59 true) (wV 6) (K0 A2)) (A3 (J5 59 true) (D4 E3 (A0 (A3 B5 (wV 6) (X9 (wC (.int 1)))) A2)) (wV 7)))) (G2 (wC (.bl false))) L9) (G2 (wB (A3 (J5 60 false) (wV 6) (E4 Q5s (A0 (wV 1) (A0 (wC (.int 3)) A2))))))))) L9) (G2 (Q9n (wB (A3 (Z1 false) (E4 Q4s (A0 (wV 1) A2)) (wC .non))) (wB (A3 (J5 60 false) (D4 E3 (A0 (E4 Q2q (A0 (wV 1) (A0 (wC (.int 5)) A2))) A2)) (wC (.int 5)))))))))))))))
section
abbrev cnt (m:D5)(k:Nat):Nat:=((wl k).filter (E7 m)).length
theorem fl2 {p q r s:α->Bool}:∀l:M α,(∀x∈l,(p x).toNat+(q x).toNat=(r x).toNat+(s x).toNat)->(l.filter p).length+(l.filter q).length=(l.filter r).length+(l.filter s).length:=by intro l;induction l<;>grind [aj,ak,ce]
def W6f {a b:D5}(wa:C0 a)(wb:C0 b)(k:Nat):cnt (Q3t gOr a b) k+cnt (Q3t Q6m a b) k=cnt a k+cnt b k:=by
 refine fl2 _ fun w hw=>?_;have hw:=(X6.mp hw).1;rw[Y9d wa wb hw,Y9d wa wb hw];show(E7 a w||E7 b w).toNat+(E7 a w&&E7 b w).toNat=_;cases E7 a w<;>cases E7 b w<;>rfl
def V2s (wf:C0 m):C0 (Q1v m):=by
 have L:=Z6h wf;have e:((T4 m.1 m.2).1.map not).length=(T4 m.1 m.2).1.length:=ag _;exact⟨L.len.trans e.symm,by show 0<((T4 m.1 m.2).1.map not).length;rw[e];exact L.pos,L.r4,fun r hr x hx=>by show x<((T4 m.1 m.2).1.map not).length;rw[e];exact L.lt r hr x hx⟩
def V2q (wf:C0 m){w:?P}(hw:B9 w):E7 (Q1v m) w=!E7 m w:=by
 have L:=Z6h wf;rw[<-Y5j wf hw];exact W7n (Z1y L w 0 hw L.pos)
def W6e {a:D5}(wa:C0 a)(k:Nat):cnt a k+cnt (Q1v a) k=4^k:=by
 have:=fl2 (p:=E7 a) (q:=E7 (Q1v a)) (r:=fun _=>true) (s:=fun _=>false) (wl k) fun w hw=>by
  rw[V2q wa (X6.mp hw).1];cases E7 a w<;>rfl
 rw[show(wl k).filter (fun _=>true)=wl k from gB.mpr fun _ _=>rfl,show(wl k).filter (fun _=>false)=[]by simp,Y0j]at this;exact this
def J0n (m:D5):(B6 m 3).length=cnt m 0+(cnt m 1+cnt m 2):=by
 rw[Q4w,Q4w,Q4w];simp only[aq];show(B6 m 0).length+_+_+_=_;rw[show(B6 m 0).length=0 by simp[B6]];unfold cnt;omega
theorem Z8z (m:D5):(B6 m 3).length<=21:=by
 rw[<-Q9m m 2];exact aV (cS _ _) (?E)
def J0o (m:D5)(j:Nat):(B6 m (j+1)).Pairwise fun a b=>E5 a<E5 b:=by rw[<-Q9m m j];exact qm _ (W1z j)
def V9t (m:D5):((B6 m 3).map K5).Nodup:=by
 unfold List.Nodup;rw[yo];refine(iy.mpr fun {a b} h=>?_);have hs:=iy.mp (J0o m 2) h;intro e;have ha:=Z9a (h.subset (by simp:a∈[a,b]));have hb:=Z9a (h.subset (by simp:b∈[a,b]));rw[W0d ha hb e]at hs;exact aU _ hs
def Y5g {d e:D}(h1:Z7 m d)(h2:Z7 m e):d=e:=by
 rcases h1 with⟨rfl,a⟩ |⟨L,rfl,⟨u,hu,rfl⟩,a⟩ |⟨rfl,a⟩<;>rcases h2 with⟨rfl,b⟩ |⟨L2,rfl,⟨v,hv,rfl⟩,b⟩ |⟨rfl,b⟩
 ·rfl
 ·exact absurd hv (a v)
 ·obtain⟨w,hw,_⟩:=b 0;exact absurd hw (a w)
 ·exact absurd hu (b u)
 ·have:=a v hv;have:=b u hu;rw[show u.length=v.length by omega]
 ·obtain⟨w,hw,h⟩:=b (u.length+1);have:=a w hw;omega
 ·obtain⟨w,hw,_⟩:=a 0;exact absurd hw (b w)
 ·obtain⟨w,hw,h⟩:=a (v.length+1);have:=b w hw;omega
 ·rfl
def W7p (wf:C0 m)(h3:?J<=3){w:?P}{r:?O}(e:B6 m 3=w::r):sD (Q5h m)=tD w:=by
 have h:=W7q wf (?A);obtain⟨t,ht⟩:=Q5v m (show 3<=4 by decide);rw[<-ht,e]at h;exact(az h).symm
theorem W7c (wf:C0 m):(∀w,O7 m w->w.length<?J)\/Inf m:=by
 refine Classical.byCases (fun h:∃w,O7 m w/\?J<=w.length=>.inr fun N=>?_) fun h=>.inl fun w hw=>Nat.lt_of_not_le fun z=>h ⟨w,hw,z⟩
 induction N with
 |zero=>obtain⟨w,hw,_⟩:=h;exact⟨w,hw,be _⟩
 |succ N ih=>
  obtain⟨w,hw,hl⟩:=ih;rcases aX w.length ?J with q |q
  ·obtain⟨u,hu,hn⟩:=h;obtain⟨v,h1,h2,h3⟩:=Z7n wf hu.1 hu.2 hn;exact⟨v,⟨h1,h2⟩,?A⟩
  ·obtain⟨v,h1,h2,h3⟩:=Z7n wf hw.1 hw.2 q;exact⟨v,⟨h1,h2⟩,?A⟩
def nine (wf:C0 m)(h3:?J<=3)  (hs:size=min 9 (B6 m 3).length):(B6 m (size*?J)).take size=(B6 m 3).take 9:=by
 have e9:(B6 m 3).take 9=(B6 m 3).take size:=by
  rw[hs,<-List.take_eq_take_min]
 rw[e9];have fin:(∀w,O7 m w->w.length<?J)->(B6 m (size*?J)).take size=(B6 m 3).take size:=fun h=>by
  cases size with
  |zero=>rfl
  |succ s=>rw[Q3v (i:=?J) (j:=(s+1)*?J) (by rw[iT];omega) h,Q3v (i:=?J) (j:=3) h3 h]
 rcases W7c wf with h |h
 ·exact fin h
 ·exact V9r (Q5v m (Nat.le_max_left (size*?J) 3)) (Q5v m (j6 _ _)) (Z2t wf h size) (?A)
theorem W5c (wf:C0 m)(h3:?J<=3)(h:∀w,O7 m w->w.length<?J):(B6 m (40*?J)).take 40=B6 m 3:=by grind [B6,Q3v,dH,Z8z]
def W9j (hL:L<3)(h1:∃w,O7 m w/\w.length=L)(h2:∀w,O7 m w->w.length<=L):∃w,(B6 m 3).getLast?=some w/\B9 w/\w.length=L:=by
 rw[Q3v (i:=L+1) (j:=3) (?A) fun w hw=>by have:=h2 w hw;omega,Q4w];obtain⟨v,hv,hl⟩:=h1;have hm:v∈(wl L).filter (E7 m):=bx.mpr ⟨X6.mpr ⟨hv.1,hl⟩,hv.2⟩;have dg:(wl L).filter (E7 m)≠[]:=fun z=>by rw[z]at hm;cases hm
 refine⟨_,by rw[List.getLast?_append,List.getLast?_eq_some_getLast dg];rfl,?_⟩;exact X6.mp (bx.mp (yS dg)).1
def Z2i:E6:=fun rs Pr=>∃ns:M Int,rs=[.st (scr ns)]/\ns.length<=63/\Pr (.st (.bl true))
def wbF:WS:=(A6 (C4 4 (A3 F9 (E4 W1 (A0 (E4 (spS gOr) (A0 (wV 1) (A0 (wV 2) A2))) (A0 (wV 3) A2))) (E4 W1 (A0 (E4 (spS Q6m) (A0 (wV 1) (A0 (wV 2) A2))) (A0 (wV 3) A2))))) (A6 (L8 (A3 S3 (wV 4) (A3 F9 (E4 W1 (A0 (wV 1) (A0 (wV 3) A2))) (E4 W1 (A0 (wV 2) (A0 (wV 3) A2))))) (G2 (wC (.bl false))) L9) (L8 (A3 S3 (A3 F9 (E4 W1 (A0 (wV 1) (A0 (wV 3) A2))) (E4 W1 (A0 (E4 Q9g (A0 (wV 1) A2)) (A0 (wV 3) A2)))) (A3 B5 (K0 (A0 (B1 (wC (.int 1))) (A0 (B1 (wC (.int 4))) (A0 (B1 (wC (.int 16))) (A0 (B1 (wC (.int 64))) A2))))) (wV 3))) (G2 (wC (.bl false))) L9)))
def hmE {i k:Nat}(vR:∀Q:R->Prop,Q (.st (mD m))->we τ Q)(h3:τ[i]?=some (some (.dat (iD k))))(wf:C0 m)(hl:?J<=20000)(hk:k<=1000){Q:R->Prop}(q:Q (.st (iD (cnt m k)))):E4 W1 (A0 we (A0 (wV i) A2)) τ Q:=by
 rw[P4,C1];refine vR _ ?_;simp only[C1,A8,B7];exact⟨_,h3,rfl,m,k,rfl,wf,hl,hk,q⟩
def vE {i:Nat}{d:D}(h:τ[i]?=some (some (.dat d)))(Q:R->Prop)(q:Q (.st d)):wV i τ Q:=by rw[A8];exact⟨_,h,q⟩
def sE {a b:D5}(h1:τ[1]?=some (some (.dat (mD a))))(h2:τ[2]?=some (some (.dat (mD b))))(t:Two a b)(Q:R->Prop)(q:Q (.st (mD (Q3t g a b)))):E4 (spS g) (A0 (wV 1) (A0 (wV 2) A2)) τ Q:=by
 simp only[P4,C1,A8,B7];exact⟨_,h1,_,h2,rfl,a,b,rfl,t,q⟩
def oE {a:D5}(h1:τ[1]?=some (some (.dat (mD a))))(wf:C0 a)(hl:a.1.length<=20000)(Q:R->Prop)(q:Q (.st (mD (Q1v a)))):E4 Q9g (A0 (wV 1) A2) τ Q:=by
 simp only[P4,C1,A8,B7];exact⟨_,h1,rfl,a,rfl,wf,hl,q⟩
theorem Z4j {a b:Nat}{Q:R->Prop}(q:Q (.st (iD (a+b)))):F9 (.st (iD a)) (.st (iD b)) Q:=by grind [F9,Q0f]
theorem Z1k {a b:Nat}(e:a=b){Q:Bool->Prop}(q:Q false):S3 (.st (iD a)) (.st (iD b)) Q:=by intros;simp_all[o_ne,Q9y]
theorem skip {t:WT}{E:F6}  {ws:WS}(h:∀Q:Bool->Prop,Q false->t τ Q)(q:E.nx τ):L8 t ws L9 E τ:=by grind [Q1y,Q3r]
theorem forF {a b:D5}(wa:C0 a)(wb:C0 b)(la:a.1.length<=3)(lb:b.1.length<=3){E:F6}:∀(ks:?P) (o3 o4:Ac Sl),(∀k∈ks,k<4)->(∀o3 o4,E.nx [o0,some (.dat (mD a)),some (.dat (mD b)),o3,o4,o5,o6,o7]) ->
  D9 (A9 3) wbF E (ks.map iD) [o0,some (.dat (mD a)),some (.dat (mD b)),o3,o4,o5,o6,o7]
 |[],o3,o4,_,h=>h o3 o4
 |k::ks,o3,o4,hk,h=>by
  have yC:=hk k ak;have l9:a.1.length*b.1.length<=9:=Nat.mul_le_mul la lb;have t:Two a b:=⟨wa,wb,?A⟩
  have z1:=Y9b (g:=gOr) wa wb;have z2:=Y9b (g:=Q6m) wa wb;have z3:=V2r wa;have z4:C0 (Q1v a):=V2s wa;rw[ax,D9,L6];unfold wbF;rw[D8,G6,C7];refine hmE (sE rfl rfl t) rfl (Y9c wa wb) (?A) (?A) ?_;refine hmE (sE rfl rfl t) rfl (Y9c wa wb) (?A) (?A) (Z4j ?_);rw[S5];dsimp only;rw[D8];refine skip (fun Q q=>?_) ?_
  ·rw[C7];refine vE rfl _ ?_;rw[C7];refine hmE (vE rfl) rfl wa (?A) (?A) (hmE (vE rfl) rfl wb (?A) (?A) (Z4j ?_));exact Z1k (W6f wa wb k) q
  dsimp only;refine skip (fun Q q=>?_) ?_
  ·rw[C7,C7];refine hmE (vE rfl) rfl wa (?A) (?A) (hmE (oE rfl wa (?A)) rfl z4 (?A) (?A) (Z4j ?_));rw[C7,s_lst];simp only[C1,E9,D6,B7,A8];refine⟨_,rfl,sz ?H,_,rfl,?_⟩;show B5 (.nw [iD 1,iD 4,iD 16,iD 64]) (.st (.int (k:Int))) _;rw[Y7b];refine⟨iD (4^k),?_,Z1k (W6e wa k) q⟩;rcases (show k=0\/k=1\/k=2\/k=3 by omega)with rfl |rfl |rfl |rfl<;>rfl
  ·exact forF wa wb la lb ks _ _ (fun x hx=>hk x (aj _ hx)) h
def Z6a (m:D5):D->Bool
 |.str x=>decide (x∈(B6 m 3).map K5)
 |_=>false
theorem Y4x {w:?P}(hw:B9 w)(hl:w.length<=2):Z6a m (tD w)=E7 m w:=by
 show decide (K5 w∈(B6 m 3).map K5)=_;cases ha:E7 m w with
 |true=>exact bP (ar.mpr ⟨w,Q2k.mpr ⟨⟨hw,ha⟩,?A⟩,rfl⟩)
 |false=>
  refine aY fun z=>?_;obtain⟨u,hu,e⟩:=ar.mp z;rw[W0d (Z9a hu) hw e]at hu;have:=(Q2k.mp hu).1.2;rw[ha]at this;cases this
def W4v (m:D5):(((Q3y 2).map tD).filter (Z6a m)).map (fun d=>d)=(B6 m 3).map tD:=by
 rw[List.map_id',jO,<-Q9m m 2];congr 1;refine fw fun w hm=>?_;have hw:=Y6f.mp hm;exact Y4x hw.1 hw.2
abbrev St3 (o0 o2 o3 o4 o6 o7:Ac Sl)(m:D5):C8:=[o0,some (.dat (mD m)),o2,o3,o4,some (.own ((B6 m 3).map tD)),o6,o7]
def V9u (wf:C0 m)  (Q:Bool->Prop)(q:Q false):
  A3 (J5 59 true) (wV 5) (M8 1 [1] (Q1g (L7 Z8c (A0 (wC (.int 2)) A2))) (A9 0) (Q2u (L7 Z7y (A0 (wV 1) (A0 (wV 0) A2)))) (B1 (wV 0))) (St3 o0 o2 o3 o4 o6 o7 m) Q:=by
 rw[C7,A8];k_ne;rw[W6,Q5r];simp only[W5,C1,D6,B7];refine⟨rfl,_,⟨2,rfl,?G,rfl⟩,_,rfl,sz (?E),?_⟩;refine Z0n (p:=Z6a m) (f:=fun d=>d) _ none _ (fun d hd Q' q=>?_) (fun d hd Q' _ q=>?_) ?_
 ·obtain⟨w,hm,rfl⟩:=ar.mp hd;have hw:=Y6f.mp hm;rw[Q7b,W5];simp only[C1,A8,B7];refine⟨_,rfl,_,rfl,rfl,_,⟨m,w,rfl,wf,hw.1,?A,rfl⟩,?_⟩;rw[Y7e,<-Y4x hw.1 hw.2];exact q
 ·rw[E9,A8];exact⟨_,rfl,q⟩
 rw[W4v m];exact same rfl rfl (Z0r tD0 _ (?G)) q
def V9x (Q:Bool->Prop)(q:Q false):A3 S3 (Z3f (wV 5)) (D4 E3 (A0 (wV 5) A2)) (St3 o0 o2 o3 o4 o6 o7 m) Q:=by
 rw[C7,V7r,A8];have hl:=Z8z m;refine⟨_,rfl,(B6 m 3).map K5,?_,V9t m,by rw[ag];omega,?_⟩
 ·rw[N8,V1r,aJ];rfl
 simp only[J9,C1,A8,B7];k_ne;rw[N8,V9,ag,ag];exact Z1k rfl q
def V9y (wf:C0 m)(h3:?J<=3)  (Q:Bool->Prop)(q:Q false):
  A3 S3 (D4 E3 (A0 (wV 5) A2)) (D4 Q2r (A0 (M8 1 [1] (Q5l (A0 (wC (.int 3)) A2)) (A9 0) P9 (B1 (E4 W1 (A0 (wV 1) (A0 (wV 0) A2))))) A2)) (St3 o0 o2 o3 o4 o6 o7 m) Q:=by
 rw[C7];simp only[J9,C1,A8,B7];k_ne;rw[N8,V9,ag,W6,Z2b];simp only[C1,D6,B7];refine⟨_,rfl,?G,?G,sz (?G),?_⟩;show N2 _ _ _ ([0,1,2].map iD) [none,some (.dat (mD m))] _;refine Q0c (f:=fun d=>match d with |.int i=>iD (cnt m i.toNat) |d=>d) (rest:=[some (.dat (mD m))]) _ none _ (fun d hd Q' q=>?_) ?_
 ·obtain⟨k,hk,rfl⟩:=ar.mp hd;have hk:k<=2:=by simp at hk;omega
  rw[E9];refine hmE (vE rfl) rfl wf (?A) (?A) ?_;rw[Q5o];have q:Q' (.st (iD (cnt m k))):=by simpa using q
  exact q
 ·show Q2r [.nw [iD (cnt m 0),iD (cnt m 1),iD (cnt m 2)]] _;rw[Y8p];refine⟨[(cnt m 0:Int),(cnt m 1:Int),(cnt m 2:Int)],rfl,?_⟩;have e:[(cnt m 0:Int),(cnt m 1:Int),(cnt m 2:Int)].sum=((cnt m 0+(cnt m 1+cnt m 2):Nat):Int):=by
   simp only[cH,List.sum_nil];omega
  rw[e];exact Z1k (J0n m) q
theorem V9v (wf:C0 m)(h3:?J<=3)  (Q:Bool->Prop)(q:Q false):
  Q3w (A3 (J5 59 true) (wV 5) (K0 A2)) (A3 (J5 59 true) (E4 sp_least_text (A0 (wV 1) A2)) (A3 B5 (wV 5) (wC (.int 0)))) (St3 o0 o2 o3 o4 o6 o7 m) Q:=by
 rw[Q9b,C7,A8];k_ne;rw[s_lst,B7];refine⟨_,rfl,sz (?G),?_⟩;refine Z0x tD0 _ (?G) ?_;show(if (!(B6 m 3).isEmpty)=true then(_:Prop)else(_:Prop));cases e:B6 m 3 with
 |nil=>exact q
 |cons w r=>
  show(if true=true then(_:Prop)else(_:Prop));rw[aP rfl,C7];simp only[P4,C1,A8,B7,C7,D6];refine⟨_,rfl,rfl,m,rfl,wf,?A,_,rfl,?_⟩;rw[N8,Q0g];refine⟨tD w,by rw[e];exact V4 (show((w::r).map tD)[0]?=some (tD w)from rfl),?_⟩;rw[W7p wf h3 e];exact same rfl rfl (by rw[tD0];decide) q
def V9w (wf:C0 m)(h3:?J<=3)  (Q:Bool->Prop)(q:Q false):
  A3 (J5 59 true) (E4 Q2q (A0 (wV 1) (A0 (D4 Q3l (A0 (wC (.int 9)) (A0 (D4 E3 (A0 (wV 5) A2)) A2))) A2))) (wSl (wV 5) Q3n (Q3o (wC (.int 9)))) (St3 o0 o2 o3 o4 o6 o7 m) Q:=by
 rw[C7];simp only[P4,C1,A8,B7,J9,D6];sleep 2;rw[N8,V9,ag];refine⟨_,_,rfl,?_⟩;have e:(if ((B6 m 3).length:Int)<9 then((B6 m 3).length:Int)else 9)=((min 9 (B6 m 3).length:Nat):Int):=by split<;>omega
 rw[e];refine⟨rfl,m,min 9 (B6 m 3).length,rfl,wf,?A,?A,?_⟩;rw[nine wf h3 rfl];simp only[Z2f,Z2d,Z2e,A8,D6];k_ne;rw[N8,Q1j,Z1p];rw[show Q0s ((B6 m 3).map tD) none (some (9:Int))=((B6 m 3).map tD).take 9 from Z5a _ 9,<-m3];exact same rfl rfl (Z0r tD0 _ (?G)) q
def wFY:WS:=(A6 (C4 6 (E4 Q2q (A0 (wV 1) (A0 (wC (.int 40)) A2)))) (A6 (C4 7 (E4 Q4s (A0 (wV 1) A2))) (A6 (L8 (wOr (A3 (J5 59 true) (wB (A3 (Z1 false) (wV 7) (wC .non))) (wB (A3 (J5 60 false) (wV 6) (K0 A2)))) (Q3w (A3 (J5 59 true) (wV 6) (K0 A2)) (A3 (J5 59 true) (D4 E3 (A0 (A3 B5 (wV 6) (X9 (wC (.int 1)))) A2)) (wV 7)))) (G2 (wC (.bl false))) L9) (G2 (wB (A3 (J5 60 false) (wV 6) (E4 Q5s (A0 (wV 1) (A0 (wC (.int 3)) A2)))))))))
def wFN:WS:=(G2 (Q9n (wB (A3 (Z1 false) (E4 Q4s (A0 (wV 1) A2)) (wC .non))) (wB (A3 (J5 60 false) (D4 E3 (A0 (E4 Q2q (A0 (wV 1) (A0 (wC (.int 5)) A2))) A2)) (wC (.int 5))))))
def finY (wf:C0 m)(h3:?J<=3){E:F6}(h:E.rt (.st (.bl true))){d:D}(hd:Z7 m d)  (hs:∀w,O7 m w->w.length<?J)(hc:(B6 m 3=[]/\d=.int (-1))\/∃(L:Nat) (w:?P),d=iD L/\(B6 m 3).getLast?=some w/\B9 w/\w.length=L):wFY E (St3 o0 o2 o3 o4 o6 o7 m):=by
 unfold wFY;rw[D8,G6];simp only[P4,C1,A8,D6,B7];refine⟨_,rfl,rfl,m,40,rfl,wf,?A,?G,?_⟩;rw[W5c wf h3 hs];show U7 (.nw _) _;rw[P7];rw[D8,G6];simp only[P4,C1,A8,B7];refine⟨_,rfl,rfl,m,rfl,wf,?A,fun d2 j0=>?_⟩;rw[<-Y5g hd j0];show U7 (.st _) _;rw[S5];rw[D8];have hl:=Z8z m;refine skip (fun Q q=>?_) ?_
 ·rw[Z7x,C7];simp only[s_b,C7,A8,D6,s_lst,B7];refine⟨_,rfl,_,rfl,rfl,_,rfl,_,rfl,sz (?G),Z0x tD0 _ (?G) ?_⟩;rcases hc with⟨e1,e2⟩ |⟨L,w,e1,e2,hw,n9⟩
  ·rw[e1,e2,aP rfl];refine same rfl rfl (be _) ?_;show(if false=true then(_:Prop)else(_:Prop));rw[aK (?G),Q9b,C7];simp only[A8,s_lst,B7];refine⟨_,rfl,_,rfl,sz (?G),?_⟩;exact Z0x tD0 [] (?G) q
  ·have dg:B6 m 3≠[]:=fun z=>by rw[z]at e2;cases e2
   have tL:(B6 m 3).isEmpty=false:=by cases z:B6 m 3 with |nil=>exact absurd z dg |cons _ _=>rfl
   rw[e1,aK (by intro z;have:=D.int.inj z;omega)];show J5 59 true (.st (.bl false)) (.st (.bl (B6 m 3).isEmpty)) _;rw[tL];refine same rfl rfl (be _) ?_;show(if false=true then(_:Prop)else(_:Prop));rw[aK (?G),Q9b,C7];simp only[A8,s_lst,B7];refine⟨_,rfl,_,rfl,sz (?G),Z0x tD0 _ (?G) ?_⟩;show(if (!(B6 m 3).isEmpty)=true then(_:Prop)else(_:Prop));rw[tL,aP (?G),C7];simp only[J9,C1,C7,A8,Q2o,D6,B7];k_ne;rw[Q1j,N8,Q0g];refine⟨tD w,?_,?_⟩
   ·have hp:0<(B6 m 3).length:=eE.mpr dg;unfold M4 ixN;rw[aK (?G),ag,aP (?A)];show((B6 m 3).map tD)[((-1:Int)+((B6 m 3).length:Int)).toNat]?=_;rw[show((-1:Int)+((B6 m 3).length:Int)).toNat=(B6 m 3).length-1 by omega,ai,<-List.getLast?_eq_getElem?,e2];rfl
   ·show E3 [.st (.str (K5 w))] _;rw[Z7c,Z8x hw,n9];refine⟨sz (by have:=(B6 m 3).length;have:=n9;have:=(Q2k.mp (List.mem_of_getLast? e2)).2;omega),_,rfl,?_⟩;exact same rfl rfl (be _) q
 ·dsimp only;rw[P8,s_b,C7];simp only[A8,P4,C1,D6,B7];refine⟨_,rfl,_,rfl,rfl,m,3,rfl,wf,?A,?G,?_⟩;rw[Q3v (i:=3) (j:=4) (?G) fun w hw=>by have:=hs w hw;omega];exact same rfl rfl (Z0r tD0 _ (?G)) h
def W9k (wf:C0 m)(h3:?J<=3){Pr:R->Prop}(h:Pr (.st (.bl true))):A6 (L8 (Q2u (E4 Q7d (A0 (wV 1) A2))) wFY L9) wFN (M0 Pr) (St3 o0 o2 o3 o4 o6 o7 m):=by
 rw[D8,Q1y,Q7b];simp only[P4,C1,A8,B7];refine⟨_,rfl,rfl,m,rfl,wf,?A,fun d hd=>?_⟩;show(if Z5f d=true then(_:Prop)else(_:Prop));rcases id hd with⟨e,hn⟩ |⟨L,e,h1,h2⟩ |⟨e,hi⟩
 ·rw[aP (by rw[e];rfl)];refine finY wf h3 h hd (fun w hw=>absurd hw (hn w)) (.inl ⟨?_,e⟩);cases q:B6 m 3 with
  |nil=>rfl
  |cons w _=>exact absurd (Q2k.mp (by rw[q];exact ak)).1 (hn w)
 ·have hL:=Y5h wf h2 h1;obtain⟨w,a,b,c⟩:=W9j (?A) h1 h2;rw[aP (by rw[e];rfl)];exact finY wf h3 h hd (fun w hw=>by have:=h2 w hw;omega) (.inr ⟨L,w,e,a,b,c⟩)
 ·have ww:=Z2t wf hi 5;rw[aK (by rw[e];decide),Q3r];show wFN _ _;unfold wFN;rw[P8,V6t,s_b,C7];simp only[P4,C1,A8,D6,B7];refine⟨_,rfl,rfl,m,rfl,wf,?A,fun d2 j0=>⟨_,rfl,rfl,?_⟩⟩;rw[<-Y5g hd j0,e,aK (by intro z;cases z)];show blR (.st (.bl true)) _;rw[o_bl,aP rfl,s_b,C7];simp only[J9,P4,C1,A8,D6,B7];refine⟨_,rfl,rfl,m,5,rfl,wf,?A,?G,?_⟩;show E3 [.nw _] _;rw[V1p,ag,bD,Nat.min_eq_left ww];exact same rfl rfl (be _) h
def V5r:∀rs Pr,rs.length=1->Z2i rs Pr->W1i Y9g W1 (spS gOr) (spS Q6m) Q9g Q5s Z8c Z7y sp_least_text Q2q Q7d Q4s (M0 Pr) (E8 Z3y rs):=by
 rintro rs Pr _ ⟨ns,rfl,hn,h⟩;have wa:C0 (Q0d ns 0 3):=Y5t ns 0 (?G);have la:=Y5s ns 0 (most:=3) (?G);have wb:C0 (Q0d ns 60 3):=Y5t ns 60 (?G);have lb:=Y5s ns 60 (most:=3) (?G);unfold W1i;rw[D8,G6];simp only[W5,C1,A8,D6,B7];refine⟨_,rfl,rfl,_,⟨ns,0,3,rfl,hn,?G,?G,rfl⟩,?_⟩;rw[S5];rw[D8,G6];simp only[W5,C1,A8,D6,B7];refine⟨_,rfl,rfl,_,⟨ns,60,3,rfl,hn,?G,?G,rfl⟩,?_⟩;rw[S5];generalize Q0d ns 0 3=a at wa la ⊢;generalize Q0d ns 60 3=b at wb lb ⊢;rw[D8,W0];simp only[Q1r,C1,D6,B7];refine⟨_,rfl,?G,?G,?_⟩;refine forF wa wb la lb [0,1,2,3] none none (?G) fun o3 o4=>?_;dsimp only;rw[D8,G6];simp only[P4,C1,A8,D6,B7];refine⟨_,rfl,rfl,a,2,rfl,wa,?A,?G,?_⟩;show U7 (.nw _) _;rw[P7];rw[D8];refine skip (V9u wa) ?_;dsimp only;rw[D8];refine skip (fun Q q=>?_) ?_
 ·rw[Z7x];refine V9x _ ?_;rw[aK (?G)];exact V9y wa la Q q
 dsimp only;rw[D8];refine skip (V9v wa la) ?_;dsimp only;rw[D8];refine skip (V9w wa la) ?_;exact W9k wa la h
set_option hygiene false in
local macro_rules |`(tactic|x_go)=>`(tactic|(intro _ _ _ _ _ _ us hl;first |exact lst1 us hl fun _=>rfl |exact lst2 us hl fun _ _=>rfl |exact lst3 us hl fun _ _ _=>rfl |exact lst4 us hl fun _ _ _ _=>rfl))
set_option hygiene false in
local macro_rules |`(tactic|z_go)=>`(tactic|first
 |exact DE.v _ |exact DE.int |(refine A7.one ?_;z_go) |(refine A7.cons ?_ ?_<;>z_go) |exact A7.nil |(refine DA.one ?_;z_go) |(refine DA.cons ?_ ?_<;>z_go) |exact DA.nil
 |(refine O8 _ ?_ nd;z_go) |(refine DS.ret ?_;z_go) |exact W3c (pv _) |(refine DS.ife ?_ ?_ ?_<;>z_go) |(refine DS.append (pv _) ?_;z_go) |(refine W2t V1x Q1f ?_ nd rfl (by trivial);z_go)
 |(refine Q7p bb ?_ ?_<;>z_go) |(refine Y6 bb rfl ?_ ?_ ?_<;>z_go) |(refine Q7o ?_ ?_<;>z_go) |(refine Y0z _ ?_;z_go) |(refine W2v (Q3a hr) (pv _) ?_ ?_<;>z_go) |(refine W2y (Q3a hr) (pv _) ?_ ?_<;>z_go) |(refine Z3q (pv _) ?_;z_go)
 |exact DE.str |exact DE.bl |exact DE.non |exact W2l rfl Z.T.c_SIGNS |(refine DE.len Z.T.m_len ?_;z_go) |(refine Q5y Z.T.m_tuple ?_;z_go) |(refine DE.ix ?_ ?_ (fun _ _=>rfl)<;>z_go) |(refine DE.op Q1k Q1b ?_ ?_<;>z_go) |(refine DE.op V1v Q1f ?_ ?_<;>z_go) |(refine DE.op Z7d Z6z ?_ ?_<;>z_go)
 |(refine DE.lst ?_;z_go) |(refine DE.tup ?_;z_go) |(refine DE.neg ?_;z_go) |(refine DE.slice ?_ ?_ ?_<;>z_go) |exact DO.none |(refine DO.some ?_;z_go) |(refine Y0r (k:=2) (hr.mono (?G)) (pv _) ?_;z_go) |(refine Y0r (k:=1) (hr.mono (?G)) (pv _) ?_;z_go) |(refine DE.ife ?_ ?_ ?_<;>z_go) |(refine W2j (Q3a hr) (pv _) ?_ (fun _ _=>rfl);z_go) |(refine W2m (Q3a hr) (pv _) ?_ (fun _ _=>rfl);z_go) |(refine DE.index ?_ ?_<;>z_go) |(refine DE.nt ?_;z_go)
 |(refine DT.cmp W6c Q6j ?_ ?_ (M5 _)<;>z_go) |(refine DT.cmp Y3d Q6j ?_ ?_ (M5 _)<;>z_go) |(refine DT.cmp W6b Q6j ?_ ?_ (M5 _)<;>z_go) |(refine DT.cmp Y3c Q6j ?_ ?_ (M5 _)<;>z_go) |(refine DT.cmp (Q6i (n:=60) (Q6n hr)) Q0u ?_ ?_ (M5 _)<;>z_go) |(refine DT.cmp Z0l Q5k ?_ ?_ (M5 _)<;>z_go) |(refine DT.cmp Z4r Q5k ?_ ?_ (M5 _)<;>z_go) |(refine DT.cmp Q8e Q8t ?_ ?_ (M5 _)<;>z_go)
 |(refine DE.cmp Z0l Q5k ?_ ?_ (M5 _)<;>z_go) |(refine DE.cmp Z4r Q5k ?_ ?_ (M5 _)<;>z_go) |(refine DE.cmp (Q6i (n:=60) (Q6n hr)) Q0u ?_ ?_ (M5 _)<;>z_go)
 |(refine Z3r ?_ (fun _=>rfl);z_go) |(refine W3j (Q3a hr) ?_ (pv _);z_go) |(refine W3k (Q3a hr) ?_ (pv _);z_go) |(refine DW.t ?_;z_go) |(refine DW.and ?_ ?_<;>z_go) |(refine DW.and1 ?_;z_go) |(refine DW.or ?_ ?_<;>z_go) |(refine DW.or1 ?_;z_go)
 |(refine DG.nm ?_ rfl (by trivial);first |exact nd |(dsimp only[blk];decide +kernel)) |(refine W2p rfl ?_;z_go) |(refine DGs.cons ?_ ?_<;>z_go) |exact DGs.nil |exact P5.nil |(refine P5.one ?_;z_go)
 |(refine DI.rng1 rfl Z.T.m_range ?_;z_go) |(refine DI.lst ?_;z_go) |(refine DI.tup ?_;z_go) |exact DI.own (pv _) |(refine DI.enumX rfl Z.T.m_enumerate bt_enumerate ?_;z_go) |(refine DI.str ?_;z_go)
 |(refine L4.lst ?_;z_go) |(refine L4.tup ?_;z_go) |(refine L4.rng1 rfl Z.T.m_range ?_;z_go) |(refine L4.str ?_;z_go) |(refine L4.enumX rfl Z.T.m_enumerate bt_enumerate ?_;z_go) |(refine T6 ?_;z_go))
local macro_rules |`(tactic|trivial)=>`(tactic|first |exact Or.inl rfl |exact Or.inr rfl)
def top (i:Nat):Al:=PySem.Challenge.pw_textkinds_k15_whole_texts.main.body.getD i (.Pass ⟨0,0,0,0⟩)
structure Txt (K:Fg9)(mg:Str->Ac Ad)(w:Ak):Prop where
 m_enumerate:mg "enumerate"=none
 m_len:mg "len"=none
 m_list:mg "list"=none
 m_max:mg "max"=none
 m_min:mg "min"=none
 m_range:mg "range"=none
 m_reversed:mg "reversed"=none
 m_set:mg "set"=none
 m_sum:mg "sum"=none
 m_tuple:mg "tuple"=none
 m_zip:mg "zip"=none
 c_SIGNS:∃t,mg "SIGNS"=some (.str "01ab" t)
def bt_enumerate:bootBuiltins "enumerate"=some (.type "enumerate"):=?E
def W5m:bootBuiltins "list"=some (.type "list"):=?E
def Q8a:bootBuiltins "max"=some (.builtin "max"):=?E
def Y2u:bootBuiltins "min"=some (.builtin "min"):=?E
def W5n:bootBuiltins "reversed"=some (.type "reversed"):=?E
def W5o:bootBuiltins "set"=some (.type "set"):=?E
def Y2v:bootBuiltins "sum"=some (.builtin "sum"):=?E
abbrev Y9u:Al:=top 2
abbrev Y9k:Al:=top 3
abbrev Z8o:Al:=top 4
abbrev Z8e:Al:=top 5
abbrev Q9h:Al:=top 6
abbrev Z8l:Al:=top 7
abbrev Z8q:Al:=top 8
abbrev Z2m:Al:=top 9
abbrev Z8g:Al:=top 10
abbrev Z2o:Al:=top 11
abbrev Z2n:Al:=top 12
abbrev Y9s:Al:=top 13
abbrev Y9q:Al:=top 28
abbrev Z8h:Al:=top 30
abbrev Z8f:Al:=top 31
abbrev Z8n:Al:=top 32
abbrev Z8j:Al:=top 19
abbrev Q9i:Al:=top 15
abbrev Z2j:Al:=top 16
abbrev Y9n:Al:=top 17
abbrev Y9r:Al:=top 18
abbrev Z8k:Al:=top 20
abbrev Z8m:Al:=top 21
abbrev Y9m:Al:=top 22
abbrev Z8p:Al:=top 23
abbrev Y9t:Al:=top 24
abbrev Y9l:Al:=top 25
abbrev Y9j:Al:=top 27
abbrev Y9o:Al:=top 34
abbrev Y9p:Al:=top 35
abbrev Z8i:Al:=top 37
abbrev Z2l:Al:=top 38
abbrev Z2k:Al:=top 41
structure Env (P:Aj)(w:Ak)(K:Fg9)(mg:Str->Ac Ad)(base:Heap)(ts:M Af)(ad:Nat->Af)(fn:Nat->Ai):Prop where
 T:Txt K mg w
 hBM:Q0m mg base
 D_walked:Df K mg "walked" Y9u ["start","step"] (ad 0) (fn 0)
 D_first_text:Df K mg "first_text" Y9k ["start","step","is_end"] (ad 1) (fn 1)
 D_states_along:DfO K mg "states_along" Z8o ["rows","text","start"] 0 (ad 2) (fn 2)
 D_all_reached:Df K mg "all_reached" Z8e ["some","onward"] (ad 3) (fn 3)
 D_distances:Df K mg "distances" Q9h ["ends","rows","wanted"] (ad 4) (fn 4)
 D_numbered:Df K mg "numbered" Z8l ["marks"] (ad 5) (fn 5)
 D_told_apart:Df K mg "told_apart" Z8q ["ends","rows"] (ad 6) (fn 6)
 D_least:Df K mg "least" Z2m ["ends","rows"] (ad 7) (fn 7)
 D_built:Df K mg "built" Z8g ["start","step","is_end"] (ad 8) (fn 8)
 D_pair_step:Df K mg "pair_step" Z2o ["one","other"] (ad 9) (fn 9)
 D_pair_end:Df K mg "pair_end" Z2n ["one","other","is_end"] (ad 10) (fn 10)
 D_side_by_side:Df K mg "side_by_side" Y9s ["one","other","is_end"] (ad 11) (fn 11)
 D_least_of:Df K mg "least_of" Y9q ["machine"] (ad 12) (fn 12)
 D_either:Df K mg "either" Z8h ["one","other"] (ad 13) (fn 13)
 D_both_of:Df K mg "both_of" Z8f ["one","other"] (ad 14) (fn 14)
 D_other_than:Df K mg "other_than" Z8n ["one"] (ad 15) (fn 15)
 D_least_text:Df K mg "least_text" Z8j ["machine"] (ad 16) (fn 16)
 D_onward_goals:Df K mg "onward_goals" Q9i ["machine"] (ad 17) (fn 17)
 D_last_length:Df K mg "last_length" Z2j ["machine"] (ad 18) (fn 18)
 D_is_finite:Df K mg "is_finite" Y9n ["machine"] (ad 19) (fn 19)
 D_longest:Df K mg "longest" Y9r ["machine"] (ad 20) (fn 20)
 D_no_signs:Df K mg "no_signs" Z8k ["machine"] (ad 21) (fn 21)
 D_one_more_sign:Df K mg "one_more_sign" Z8m ["machine","counts"] (ad 22) (fn 22)
 D_how_many:Df K mg "how_many" Y9m ["machine","long"] (ad 23) (fn 23)
 D_texts_of_length:Df K mg "texts_of_length" Z8p ["machine","tables","size"] (ad 24) (fn 24)
 D_texts_up_to:Df K mg "texts_up_to" Y9t ["machine","long"] (ad 25) (fn 25)
 D_first_texts:Df K mg "first_texts" Y9l ["machine","size"] (ad 26) (fn 26)
 D_accepts:Df K mg "accepts" Y9j ["machine","text"] (ad 27) (fn 27)
 D_law_cell:Df K mg "_law_cell" Y9o ["_law_script","_law_k"] (ad 28) (fn 28)
 D_law_drawn:Df K mg "_law_drawn" Y9p ["_law_script","_law_k","_law_many"] (ad 29) (fn 29)
 D_law_texts:Df K mg "_law_texts" Z8i ["_law_long"] (ad 30) (fn 30)
 D_law_machine:Df K mg "_law_machine" Z2l ["_law_script","_law_at","_law_most"] (ad 31) (fn 31)
 D_law:Df K mg "law" Z2k ["_law_script"] (ad 32) (fn 32)
 C_least:∃c Pt,Q0n K "least" "least" Z2m (ad 7) (fn 7) c Pt/\Pt∈ts
 C_pair_step:∃c Pt,Q0n K "pair_step" "pair_step" Z2o (ad 9) (fn 9) c Pt/\Pt∈ts
 C_pair_end:∃c Pt,Q0n K "pair_end" "pair_end" Z2n (ad 10) (fn 10) c Pt/\Pt∈ts
 C_either:∃c Pt,Q0n K "either" "either" Z8h (ad 13) (fn 13) c Pt/\Pt∈ts
 C_both_of:∃c Pt,Q0n K "both_of" "both_of" Z8f (ad 14) (fn 14) c Pt/\Pt∈ts
 C_least_text:∃c Pt,Q0n K "least_text" "least_text" Z8j (ad 16) (fn 16) c Pt/\Pt∈ts
 C_onward_goals:∃c Pt,Q0n K "onward_goals" "onward_goals" Q9i (ad 17) (fn 17) c Pt/\Pt∈ts
section
variable {w:Ak}{K:Fg9}{ad:Nat->Af}{fn:Nat->Ai}(Z:Env P w K mg base ts ad fn)
omit Z in
def Env.go (_:Env P w K mg base ts ad fn)(k:Nat)       {ws:WS}(D:Df K mg x st ps f fd)(hw:∀rs r,rs.length=ps.length->sp rs r->ws (V1 r) (E8 N rs))
  (hb:N.Nodup->∀(cdv:Ad) (A:Ah) (outer:M PySem.Env) (s:Ae) (H:Hp) (E:XK),F8 k (A.deeper (envOfC x (C6 st) s.heap.objs.size f cdv))->A7 (U5 J7 P w K mg base N x (C6 st) f cdv A outer s H E).nox H (N3 st) ws) (hs:scB N ps (C6 st)=true:=by decide +kernel):FnD P w K mg base (k+1) f fd ps sp:=
 D.ok (Q3s hs) (hb (Q3s hs).nd) hw
omit Z in
def Env.goT (_:Env P w K mg base ts ad fn)(k:Nat)      {sp:E6}{ws:WS}(D:Df K mg x st ps f fd)(hw:∀rs Pr,rs.length=ps.length->sp rs Pr->ws (M0 Pr) (E8 N rs))
  (hb:N.Nodup->∀(cdv:Ad) (A:Ah) (outer:M PySem.Env) (s:Ae) (H:Hp) (E:XK),Q3b ts H->F8 k (A.deeper (envOfC x (C6 st) s.heap.objs.size f cdv))->A7 (U5 J7 P w K mg base N x (C6 st) f cdv A outer s H E).nox H (N3 st) ws) (hs:scB N ps (C6 st)=true:=by decide +kernel):FnT P w K mg base ts (k+1) f fd ps sp:=
 Fun.okP D.F (Q3s hs) (hb (Q3s hs).nd) hw
omit Z in
def Env.goC (_:Env P w K mg base ts ad fn)(k:Nat){q:Str}     {sp:E6}{ws:WS}(C:∃c Pt,Q0n K x q st f fd c Pt/\Pt∈ts)(_:Df K mg x st ps f fd)(hw:∀rs Pr,rs.length=ps.length->sp rs Pr->ws (M0 Pr) (E8 N rs))
  (hb:N.Nodup->∀c Pt,Q0n K x q st f fd c Pt->Pt∈ts->∀(A:Ah) (outer:M PySem.Env) (s:Ae) (H:Hp) (E:XK),Q3b ts H->F8 k (A.deeper (envOfC q (C6 st) s.heap.objs.size f (.ref c)))->A7 (U5 J7 P w K mg base N q (C6 st) f (.ref c) A outer s H E).nox H (N3 st) ws) (hs:scB N ps (C6 st)=true:=by decide +kernel):FnT P w K mg base ts (k+1) f fd ps sp:=by
 obtain⟨c,Pt,C,h⟩:=C;exact C.okP (Q3s hs) (hb (Q3s hs).nd c Pt C h) hw
include Z
omit Z in
def Y8t:Y7 Y1v ["rows","text","start"] (C6 Z8o):=Q3s (?E)
omit Z in
def Y8s:Y7 Y1u ["one","other"] (C6 Z2o):=Q3s (?E)
omit Z in
def Y8r:Y7 Y1t ["one","other","is_end"] (C6 Z2n):=Q3s (?E)
def W4c:=Z.go 2 Z.D_walked (sp:=(sp_walked (J1 P w K mg base 2))) (ws:=Y0c (J1 P w K mg base 2)) V6j fun nd _ _ _ s _ _ hr=>(A7.cons ?B (A7.cons (W2u (i:=3) hr.units0 (DE.v 0) DE.int nd rfl (by trivial)) ?B))
def Y1k:=Z.go 2 Z.D_walked (sp:=(sp_walkedK (J1 P w K mg base 2))) (ws:=Y0d (J1 P w K mg base 2)) V6k fun nd _ _ _ s _ _ hr=>(A7.cons ?B (A7.cons (Y1a (i:=3) (DE.v 0) DE.int nd rfl (by trivial)) ?B))
def W3q:=Z.go 2 Z.D_first_text (sp:=(Q7c (J1 P w K mg base 2))) (ws:=Z9v (J1 P w K mg base 2)) V5m fun nd _ _ _ s _ _ hr=>(A7.cons ?B (A7.cons (Y1a (i:=4) (DE.v 0) DE.str nd rfl (by trivial)) ?B))
def W4a:FnD P w K mg base 1 (ad 2) (fn 2) ["rows","text","start"] Z7z:=by
 have nd:=Y8t.nd;refine Z.D_states_along.ok Y8t (ws:=Y0b  ) (fun cdv A outer s H E hr=>?_) V5f;exact ?B
def W3m:=Z.goT 0 Z.D_all_reached V5e fun nd _ _ _ s _ _ hT hr=>(A7.cons (W3g (i:=2) rfl (S0 (sc:=C6 Z8e) (N0:=Y1m) (N:=["state"]) rfl rfl (?E)) ?B ?Q (fun _ _ _ _=>(DE.v 0)) ?Q nd rfl (by trivial)) (A7.cons (O8 3 (Y0s (W5t rfl) W9x rfl Z.T.m_list W5m ?B) nd) (A7.cons ?B (A7.cons ?B (A7.one (W3b (pv 2)))))))
def Z3s:=Z.goT 1 Z.D_distances V5j fun nd _ _ _ s _ _ hT hr=>(A7.cons (W3h (i:=3) rfl (S0 (sc:=C6 Q9h) (N0:=Q9z) (N:=["row"]) rfl rfl (?E)) (L4.or ?B ?B) ?Q ?Q nd rfl (by trivial)) (A7.cons (DS.fzL 3 (Y6 bb rfl (DI.or ?B (Y0x rfl Z.T.m_enumerate bt_enumerate ?B)) ?B (A7.one (Y6 bb rfl ?B ?B (A7.one (W3a (pv 3) (DE.v 6) ?B (fun _ _=>rfl) ⟨rfl,rfl,rfl,rfl⟩)))))) (A7.cons (W3e (i:=7) (J4 (V0p) (W3m Z) hr hT Z.D_all_reached (DA.cons (DE.comp rfl (S0 (sc:=C6 Q9h) (N0:=Q9z) (N:=["state","end","wanted"]) rfl rfl (?E)) ?B ?Q ?Q ?Q) ?B)) nd rfl (by trivial)) (A7.one (DS.ret (DE.comp rfl (S0 (sc:=C6 Q9h) (N0:=Q9z) (N:=["state","reached"]) rfl rfl (?E)) ?B ?Q (fun _ _ _ _=>P5.nil) (fun _ _ _ _=>(T6 (W2k (Q3a hr) (pv 1) (DE.v 0) ⟨rfl,rfl,rfl,rfl⟩)))))))))
def Y1g:=Z.go 0 Z.D_numbered V5y fun nd _ _ _ s _ _ hr=>(W3i rfl (by have:=hr.units;show _+9<cLine;exact eQ (sJ (?G) _) this) (S0 (sc:=C6 Z8l) (N0:=Y1r) (N:=["mark","numbers"]) rfl rfl (?E)) ?B (fun _ _ _ _=>Y7n (show List.Nodup (["mark","numbers"]:M Str)by decide +kernel) rfl (by trivial)) (fun _ _ _ _=>V3r (by have:=hr.units;show _+9<cLine;exact eQ (sJ (?G) _) this) (pv 1) (pv 0) rfl Z.T.m_len (pv 1) ⟨rfl,rfl,rfl,rfl⟩) nd rfl (by trivial))
def W4b:=Z.goT 2 Z.D_told_apart V6i fun nd _ _ _ s _ _ hT hr=>(A7.cons (O8 2 (T6 (DE.cl (Y1g Z) hr Z.D_numbered (DA.one (W2n rfl rfl Z.T.m_list rfl Z.T.m_zip (DA.cons (J4 (Z6x) (Z3s Z) hr hT Z.D_distances ?B) (DA.one (J4 (Z6x) (Z3s Z) hr hT Z.D_distances ?B))))))) nd) (A7.cons ?B (A7.cons (Q7p bb (DT.cmp Y3c Q6j (Q2c (Z0i rfl) Z1g rfl Z.T.m_max Q8a ?B) (DE.v 3) (M5 _)) (A7.cons (O8 3 (DE.op Q1k Q1b (Q2c (Z0i rfl) Z1g rfl Z.T.m_max Q8a ?B) DE.int) nd) (A7.one (O8 2 (T6 (DE.cl (Y1g Z) hr Z.D_numbered (DA.one (DE.comp rfl (S0 (sc:=C6 Z8q) (N0:=Y1x) (N:=["block","row","blocks"]) rfl rfl (?E)) (W2q rfl Z.T.m_zip ?B) ?Q (fun _ _ _ _=>P5.nil) (fun _ _ _ _=>(T6 (DE.tup (DA.cons ?B (DA.one (T6 (Q5y Z.T.m_tuple (DE.comp rfl (S0 (N0:=["block","row","blocks"]) (N:=["goal","blocks"]) rfl rfl (by kernel_rfl)) ?B ?Q (fun _ _ _ _=>P5.nil) ?Q)))))))))))) nd)))) ?B)))
def Y1d:=Z.goC 3 Z.C_least Z.D_least (ws:=Z9x (J1 P w K mg base 2) K sp_told_apart (sp_walkedK (J1 P w K mg base 2))) V5s fun nd c Pt C iQ _ _ s _ _ hT hr=>(A7.cons (O8 2 (T6 (J4 (V0x) (W4b Z) hr hT Z.D_told_apart ?B)) nd) (A7.cons (W2x (i:=3) nd rfl (by trivial)) (A7.cons (W2w 3 (Y6 bb rfl (Y0x rfl Z.T.m_enumerate bt_enumerate ?B) ?B (A7.one (W2z (pv 3) (DE.v 5) (DE.v 4) ⟨rfl,rfl,rfl,rfl⟩)))) (A7.cons (Q7o (Y0t (kl:=1) (ps:=["block","column"]) (cs:=[("samples",3),("rows",1),("blocks",2)]) (clos:=[("samples",s.heap.objs.size+4),("rows",s.heap.objs.size+2),("blocks",s.heap.objs.size+3)]) (wb:=(Z3i K)) (Y1k Z) (hr.mono (?G)) rfl Z.D_walked.m Z.D_walked.k Z.D_walked.b ?B (hT _ iQ) Z.hBM rfl C.hd rfl rfl (aR.mpr ⟨rfl,aR.mpr ⟨rfl,aR.mpr ⟨rfl,fun _ h=>nomatch h⟩⟩⟩) (aR.mpr ⟨⟨rfl,rfl,rfl⟩,aR.mpr ⟨⟨rfl,rfl,rfl⟩,aR.mpr ⟨⟨rfl,rfl,rfl⟩,fun _ h=>nomatch h⟩⟩⟩) ⟨rfl,rfl,rfl,?E,?E,?E,?E,?E⟩ (fun _ _ _ _ _ us hl=>match us,hl with |[_,_],_=>rfl) (fun caps f c' A outer s H q hn hr=>(DE.ix (DE.v 4) (DE.ix (DE.ix (DE.v 3) (Y0v (Q3a hr) (pv 2) (DE.v 0) (fun _ _=>rfl)) (fun _ _=>rfl)) (DE.v 1) (fun _ _=>rfl)) (fun _ _=>rfl)))) ?B) (A7.one (DS.ret (DE.tup (DA.cons (T6 (Q5y Z.T.m_tuple (DE.comp rfl (S0 (sc:=C6 Z2m) (N0:=Y1p) (N:=["block","ends","samples"]) rfl rfl (?E)) ?B ?Q (fun _ _ _ _=>P5.nil) (fun _ _ _ _=>(T6 (DE.ix (DE.v 1) (Y0v (Q3a hr) (pv 2) (DE.v 0) (fun _ _=>rfl)) (fun _ _=>rfl))))))) ?B))))))))
def W3o:=Z.goT 4 Z.D_built (sp:=(sp_built (J1 P w K mg base 2))) (ws:=Z9u (J1 P w K mg base 2) (sp_walked (J1 P w K mg base 2)) sp_least) V5h fun nd _ _ _ s _ _ hT hr=>(A7.cons (Q7o (DE.cl (W4c Z) hr Z.D_walked ?B) ?B) (A7.one (DS.ret (J4 (Y6l) (Y1d Z) hr hT Z.D_least (DA.cons (DE.comp rfl (S0 (sc:=C6 Z8g) (N0:=Y1n) (N:=["key","is_end"]) rfl rfl (?E)) ?B ?Q (fun _ _ _ _=>P5.nil) ?Q) ?B)))))
def W3z:FnT P w K mg base ts 3 (ad 9) (fn 9) ["one","other"] (sp_pair_step (J1 P w K mg base 2)):=by
 obtain⟨c,Pt,C,iQ⟩:=Z.C_pair_step;have nd:=Y8s.nd;refine Y1b (lps:=["pair","column"]) (w1:=Z9d) (w2:=Z9e) (wb:=Z3k ) (cs:=[("rows",2),("other_rows",3)]) (kl:=1) C Y8s rfl Z.hBM iQ (fun A outer s H E hr=>?_) (fun A outer s H E hr=>?_) (fun n=>[("rows",n+2),("other_rows",n+1)]) (fun n=>rfl) (fun n=>rfl) (fun n=>?_) ?_ ?_ (fun _ _ _ _ _ us hl=>match us,hl with |[_,_],_=>rfl) (fun caps g c' A outer s H q hn hr=>?_) (fun n=>rfl) V6d
 ·exact ?B
 ·exact ?B
 ·exact aR.mpr ⟨rfl,aR.mpr ⟨rfl,fun _ h=>nomatch h⟩⟩
 ·exact aR.mpr ⟨⟨rfl,rfl⟩,aR.mpr ⟨⟨rfl,rfl⟩,fun _ h=>nomatch h⟩⟩
 ·exact⟨rfl,rfl,rfl,?E,?E,?E,?E,?E⟩
 ·exact ?B
def W3y:FnT P w K mg base ts 3 (ad 10) (fn 10) ["one","other","is_end"] (sp_pair_end (J1 P w K mg base 1) (J1 P w K mg base 2)):=by
 obtain⟨c,Pt,C,iQ⟩:=Z.C_pair_end;have nd:=Y8r.nd;refine Y1b (lps:=["pair"]) (w1:=Z9c) (w2:=w2_pair_end) (wb:=Z3j (J1 P w K mg base 1)) (cs:=[("other_ends",4),("is_end",2),("ends",3)]) (kl:=1) C Y8r rfl Z.hBM iQ (fun A outer s H E hr=>?_) (fun A outer s H E hr=>?_) (fun n=>[("other_ends",n+3),("is_end",n+1),("ends",n+2)]) (fun n=>rfl) (fun n=>rfl) (fun n=>?_) ?_ ?_ (fun _ _ _ _ _ us hl=>match us,hl with |[_],_=>rfl) (fun caps g c' A outer s H q hn hr=>?_) (fun n=>rfl) V6c
 ·exact ?B
 ·exact ?B
 ·exact aR.mpr ⟨rfl,aR.mpr ⟨rfl,aR.mpr ⟨rfl,fun _ h=>nomatch h⟩⟩⟩
 ·exact aR.mpr ⟨⟨rfl,rfl⟩,aR.mpr ⟨⟨rfl,rfl⟩,aR.mpr ⟨⟨rfl,rfl⟩,fun _ h=>nomatch h⟩⟩⟩
 ·exact⟨rfl,rfl,rfl,?E,?E,?E,?E,?E⟩
 ·exact ?B
def Y1h:=Z.goT 5 Z.D_side_by_side (sp:=(Q4t (J1 P w K mg base 1))) (ws:=Y0a  (sp_built (J1 P w K mg base 2)) (sp_pair_step (J1 P w K mg base 2)) (sp_pair_end (J1 P w K mg base 1) (J1 P w K mg base 2))) V6e fun nd _ _ _ s _ _ hT hr=>(A7.one (DS.ret (J4 (V0q) (W3o Z) hr hT Z.D_built (DA.cons ?B (DA.cons (J4 (V0w) (W3z Z) hr hT Z.D_pair_step ?B) (DA.one (J4 (V0v) (W3y Z) hr hT Z.D_pair_end ?B)))))))
def W3v:=Z.goT 4 Z.D_least_of V5t fun nd _ _ _ s _ _ hT hr=>(A7.cons ?B (A7.one (DS.ret (J4 (Y6l) (Y1d Z) hr hT Z.D_least ?B))))
def W3p:=Z.goC 6 Z.C_either Z.D_either (ws:=W1d (J1 P w K mg base 1) (Q4t (J1 P w K mg base 1))) V5l fun nd c Pt C iQ _ _ s _ _ hT hr=>(A7.one (DS.ret (J4 (Y6o) (Y1h Z) hr hT Z.D_side_by_side (DA.cons (DE.v 0) (DA.cons (DE.v 1) (DA.one (Y0w (k:=0) (ps:=["end","other_end"]) (wb:=Q9r) (sp:=Q2 Q9r []) (hT _ iQ) Z.hBM rfl C.hd rfl ⟨rfl,rfl,rfl,?E,?E,?E,?E,?E⟩ (fun _ _ _ _ us hl=>match us,hl with |[_,_],_=>rfl) (fun f c' A outer s H q hr=>(DE.or (DE.v 0) (DE.or1 (DE.v 1)))) (fun rs r _ ⟨ds,d,e1,e2,e3⟩=>⟨ds,d,e1,e2,by rw[cw,aZ]at e3;exact e3⟩))))))))
def W3n:=Z.goC 6 Z.C_both_of Z.D_both_of (ws:=W1b (J1 P w K mg base 1) (Q4t (J1 P w K mg base 1))) V5g fun nd c Pt C iQ _ _ s _ _ hT hr=>(A7.one (DS.ret (J4 (Y6o) (Y1h Z) hr hT Z.D_side_by_side (DA.cons (DE.v 0) (DA.cons (DE.v 1) (DA.one (Y0w (k:=0) (ps:=["end","other_end"]) (wb:=Q9q) (sp:=Q2 Q9q []) (hT _ iQ) Z.hBM rfl C.hd rfl ⟨rfl,rfl,rfl,?E,?E,?E,?E,?E⟩ (fun _ _ _ _ us hl=>match us,hl with |[_,_],_=>rfl) (fun f c' A outer s H q hr=>(DE.and (DE.v 0) (DE.and1 (DE.v 1)))) (fun rs r _ ⟨ds,d,e1,e2,e3⟩=>⟨ds,d,e1,e2,by rw[cw,aZ]at e3;exact e3⟩))))))))
def W3x:=Z.goT 5 Z.D_other_than V6b fun nd _ _ _ s _ _ hT hr=>(A7.cons (Q7o (J4 (V0s) (W3v Z) hr hT Z.D_least_of ?B) ?B) (A7.one (DS.ret (DE.tup (DA.cons (T6 (Q5y Z.T.m_tuple (DE.comp rfl (S0 (sc:=C6 Z8n) (N0:=Y1s) (N:=["end"]) rfl rfl (?E)) ?B ?Q (fun _ _ _ _=>P5.nil) ?Q))) ?B)))))
def Y1e:=Z.goC 3 Z.C_least_text Z.D_least_text (ws:=Z9y (J1 P w K mg base 2) (Q7c (J1 P w K mg base 2))) V5u fun nd c Pt C iQ _ _ s _ _ hT hr=>(A7.cons ?B (A7.one (DS.ret (W2i (kl:=1) (ps:=["state","column"]) (qs:=["state"]) (cs:=[("rows",2)]) (es:=[("ends",1)]) (clos:=[("rows",s.heap.objs.size+2)]) (clo2:=[("ends",s.heap.objs.size+1)]) (wb:=W1w) (wc:=Y0g) (W3q Z) (hr.mono (?G)) rfl Z.D_first_text.m Z.D_first_text.k Z.D_first_text.b DE.int (hT _ iQ) Z.hBM rfl C.hd rfl rfl (aR.mpr ⟨rfl,fun _ h=>nomatch h⟩) (aR.mpr ⟨⟨rfl,rfl,rfl⟩,fun _ h=>nomatch h⟩) ⟨rfl,rfl,rfl,?E,?E,?E,?E,?E⟩ rfl rfl (aR.mpr ⟨rfl,fun _ h=>nomatch h⟩) (aR.mpr ⟨⟨rfl,rfl,rfl⟩,fun _ h=>nomatch h⟩) ⟨rfl,rfl,rfl,?E,?E,?E,?E,?E⟩ (?G) (fun _ _ _ _ _ us hl=>match us,hl with |[_,_],_=>rfl) (fun _ _ _ _ _ us hl=>match us,hl with |[_],_=>rfl) (fun caps f c' A outer s H q hn hr=>?B) (fun caps f c' A outer s H q hn hr=>?B)))))
def W3w:=Z.goC 3 Z.C_onward_goals Z.D_onward_goals (ws:=Z9z (J1 P w K mg base 2) (sp_walkedK (J1 P w K mg base 2)) sp_distances) V6a fun nd c Pt C iQ _ _ s _ _ hT hr=>(A7.cons ?B (A7.cons (Q7o (Y0t (kl:=1) (ps:=["state","column"]) (cs:=[("rows",2)]) (clos:=[("rows",s.heap.objs.size+3)]) (wb:=W1x) (Y1k Z) (hr.mono (?G)) rfl Z.D_walked.m Z.D_walked.k Z.D_walked.b DE.int (hT _ iQ) Z.hBM rfl C.hd rfl rfl (aR.mpr ⟨rfl,fun _ h=>nomatch h⟩) (aR.mpr ⟨⟨rfl,rfl,rfl⟩,fun _ h=>nomatch h⟩) ⟨rfl,rfl,rfl,?E,?E,?E,?E,?E⟩ (fun _ _ _ _ _ us hl=>match us,hl with |[_,_],_=>rfl) (fun caps f c' A outer s H q hn hr=>?B)) ?B) (A7.cons (O8 5 (J4 (Z6x) (Z3s Z) hr hT Z.D_distances (DA.cons (DE.comp rfl (S0 (sc:=C6 Q9i) (N0:=Z4b) (N:=["key","ends"]) rfl rfl (?E)) ?B ?Q (fun _ _ _ _=>P5.nil) ?Q) ?B)) nd) (A7.one (DS.ret (DE.comp rfl (S0 (sc:=C6 Q9i) (N0:=Z4b) (N:=["row","steps"]) rfl rfl (?E)) ?B ?Q (fun _ _ _ _=>P5.nil) (fun _ _ _ _=>(T6 (DE.comp rfl (S0 (N0:=["row","steps"]) (N:=["goal","steps"]) rfl rfl (by kernel_rfl)) ?B ?Q ?Q ?Q)))))))))
def Q7r:=Z.goT 4 Z.D_last_length V5q fun nd _ _ _ s _ _ hT hr=>(A7.cons (DS.ife (DT.cmp Z0l Q5k (J4 (Y6m) (Y1e Z) hr hT Z.D_least_text ?B) DE.non (M5 _)) ?B A7.nil) (A7.cons (O8 1 (J4 (V0t) (W3w Z) hr hT Z.D_onward_goals ?B) nd) (A7.cons ?B (A7.cons (Y6 bb rfl ?B ?B (A7.one (Y6 bb rfl ?B ?B (A7.one (Y0y W8m (pv 2) (DE.v 4) DE.int))))) (A7.cons ?B (A7.cons (by first |exact DS.set (i:=6) (DE.comp rfl (S0 (sc:=C6 Z2j) (N0:=Z3x) (N:=["state","many"]) rfl rfl (?E)) ?B ?Q ?Q ?Q) nd rfl (by trivial) |exact W3d (i:=6) rfl (S0 (sc:=C6 Z2j) (N0:=Z3x) (N:=["state","many"]) rfl rfl (?E)) ?B ?Q ?Q ?Q nd rfl (by trivial)) (A7.cons (Q7p bb ?B (A7.cons (DS.pop (pv 6) ?B) (A7.one (Y6 bb rfl ?B ?B (A7.cons (W3f (pv 5) (DE.v 4) (T6 (Q2c (W5v rfl) V0g rfl Z.T.m_max Q8a ?B))) (A7.cons (Y0y W8n (pv 2) (DE.v 4) DE.int) ?B)))))) (A7.one (DS.ret (DE.ife (DT.cmp (Q6i (n:=60) (Q6n hr)) Q0u (Q2c (Z0i rfl) Z1g rfl Z.T.m_max Q8a ?B) DE.int (M5 _)) (Q2c (Z0i rfl) Z1g rfl Z.T.m_max Q8a ?B) DE.non))))))))))
def W3r:=Z.goT 5 Z.D_is_finite V5p fun nd _ _ _ s _ _ hT hr=>(A7.one (DS.ret (DE.cmp Z4r Q5k (J4 (Q8s) (Q7r Z) hr hT Z.D_last_length ?B) DE.non (M5 _))))
def Y1f:=Z.goT 5 Z.D_longest V5v fun nd _ _ _ s _ _ hT hr=>(A7.cons (O8 1 (J4 (Q8s) (Q7r Z) hr hT Z.D_last_length ?B) nd) ?B)
def Z3v:=Z.go 0 Z.D_no_signs V5x fun nd _ _ _ s _ _ hr=>(A7.one (DS.ret (DE.comp rfl (S0 (sc:=C6 Z8k) (N0:=Y1q) (N:=["end"]) rfl rfl (?E)) ?B ?Q (fun _ _ _ _=>P5.nil) ?Q)))
def Z3w:=Z.go 0 Z.D_one_more_sign V5z fun nd _ _ _ s _ _ hr=>(A7.one (DS.ret (DE.comp rfl (S0 (sc:=C6 Z8m) (N0:=Z4a) (N:=["row","counts"]) rfl rfl (?E)) ?B ?Q (fun _ _ _ _=>P5.nil) (fun _ _ _ _=>(T6 (Q2c (Y3a rfl) Y9w rfl Z.T.m_sum Y2v (DA.one (DE.comp rfl (S0 (N0:=["row","counts"]) (N:=["goal","counts"]) rfl rfl (by kernel_rfl)) ?B ?Q (fun _ _ _ _=>P5.nil) ?Q))))))))
def Q5b:=Z.goT 5 Z.D_how_many V5o fun nd _ _ _ s _ _ hT hr=>(A7.cons (O8 2 (J4 (Q8s) (Q7r Z) hr hT Z.D_last_length ?B) nd) (A7.cons ?B (A7.cons (O8 3 (DE.cl (Z3v Z) hr Z.D_no_signs ?B) nd) (A7.cons (Y6 bb rfl ?B ?B (A7.one (O8 3 (DE.cl (Z3w Z) hr Z.D_one_more_sign ?B) nd))) ?B))))
def Y1i:=Z.go 0 Z.D_texts_of_length V6g fun nd _ _ _ s _ _ hr=>(A7.cons ?B (A7.cons (Y6 bb rfl (W2r rfl Z.T.m_reversed W5n ?B) ?B (A7.cons ?B (A7.cons (Y6 bb rfl ?B ?B (A7.one (Y6 bb rfl (W2s rfl Z.T.m_zip ?B) ?B ?B))) ?B))) (A7.one (DS.ret (DE.comp rfl (S0 (sc:=C6 Z8p) (N0:=Y1w) (N:=["text","state"]) rfl rfl (?E)) ?B ?Q (fun _ _ _ _=>P5.nil) ?Q)))))
def Y1j:=Z.goT 5 Z.D_texts_up_to V6h fun nd _ _ _ s _ _ hT hr=>(A7.cons (O8 2 (J4 (Q8s) (Q7r Z) hr hT Z.D_last_length ?B) nd) (A7.cons ?B (A7.cons (O8 4 (DE.lst (DA.one (T6 (DE.cl (Z3v Z) hr Z.D_no_signs ?B)))) nd) (A7.cons (Q7p bb (DT.cmp Y3d Q6j ?B (DE.op Q1k Q1b (DE.ife ?B (DE.v 1) (Q2c (Y2z rfl) Y6j rfl Z.T.m_min Y2u ?B)) DE.int) (M5 _)) (A7.cons (Z3q (pv 3) (DE.cl (Y1i Z) hr Z.D_texts_of_length ?B)) (A7.one (DS.append (pv 4) (T6 (DE.cl (Z3w Z) hr Z.D_one_more_sign ?B)))))) ?B))))
def Z3t:=Z.goT 5 Z.D_first_texts V5n fun nd _ _ _ s _ _ hT hr=>(A7.cons (O8 2 (J4 (Q8s) (Q7r Z) hr hT Z.D_last_length ?B) nd) (A7.cons ?B (A7.cons (O8 4 (DE.lst (DA.one (T6 (DE.cl (Z3v Z) hr Z.D_no_signs ?B)))) nd) (A7.cons (Q7p bb ?B (A7.cons (Z3q (pv 3) (DE.cl (Y1i Z) hr Z.D_texts_of_length ?B)) (A7.one (DS.append (pv 4) (T6 (DE.cl (Z3w Z) hr Z.D_one_more_sign ?B)))))) ?B))))
def W3l:=Z.go 1 Z.D_accepts V5d fun nd _ _ _ s _ _ hr=>(A7.cons ?B (A7.one (DS.ret (DE.ix (DE.v 2) (DE.ix (W2g (W4a Z) (hr.mono (?G)) rfl Z.D_states_along.m Z.D_states_along.k Z.D_states_along.b ?B) ?B (fun _ _=>rfl)) (fun _ _=>rfl)))))
def W3t:=Z.go 0 Z.D_law_cell V5i fun nd _ _ _ s _ _ hr=>(A7.cons ?B (A7.one (DS.ret (DE.op Q1k Q1b (DE.ix (DE.v 0) (DE.op Q6v Q1f (DE.v 1) ?B) (fun _ _=>rfl)) (DE.op Z7d Z6z DE.int (DE.op Z1r Q1f (DE.v 1) ?B))))))
def Z3u:=Z.go 1 Z.D_law_drawn V5k fun nd _ _ _ s _ _ hr=>(A7.cons (O8 3 (DE.op Q6v Q1f (DE.op Q1k Q1b (DE.op Z7d Z6z (DE.op Q6v Q1f (DE.cl (W3t Z) hr Z.D_law_cell ?B) DE.int) DE.int) ?B) DE.int) nd) (A7.cons (O8 3 (DE.op Q6v Q1f (DE.op Q1k Q1b ?B (DE.op Z1r Q1f (DE.v 3) DE.int)) DE.int) nd) (A7.one (DS.ret (DE.op Q6v Q1f (DE.op Z1r Q1f (DE.op Q6v Q1f (DE.op Q1k Q1b ?B (DE.op Z1r Q1f (DE.v 3) DE.int)) DE.int) DE.int) (DE.v 2))))))
def W3u:=Z.go 0 Z.D_law_texts V6f fun nd _ _ _ s _ _ hr=>(A7.cons ?B (A7.cons ?B (A7.cons (Y6 bb rfl ?B ?B (A7.cons ?B (A7.cons (Y0z 4 (Y6 bb rfl ?B ?B (A7.one (O8 4 (DE.op Q1k Q1b (DE.v 4) (DE.comp rfl (S0 (sc:=C6 Z8i) (N0:=Y1o) (N:=["_law_sign","_law_text_here"]) rfl rfl (?E)) ?B ?Q (fun _ _ _ _=>P5.nil) ?Q)) nd)))) (A7.cons ?B (A7.one (O8 1 (DE.op V1u W4w (DE.v 1) (DE.v 2)) nd)))))) ?B)))
def Y1c:=Z.go 2 Z.D_law_machine V5w fun nd _ _ _ s _ _ hr=>(A7.cons (O8 3 (DE.op Q1k Q1b DE.int (DE.cl (Z3u Z) hr Z.D_law_drawn ?B)) nd) (A7.cons (O8 4 (Q5y Z.T.m_tuple (DE.comp rfl (S0 (sc:=C6 Z2l) (N0:=Z3z) (N:=["_law_k","_law_script","_law_at"]) rfl rfl (?E)) ?B ?Q (fun _ _ _ _=>P5.nil) (fun _ _ _ _=>(T6 (DE.cmp (Q6i (n:=60) (Q6n hr)) Q0u (DE.cl (Z3u Z) hr Z.D_law_drawn ?B) DE.int (M5 _)))))) nd) (A7.cons ?B (A7.cons (Y6 bb rfl ?B ?B (A7.one (DS.append (pv 5) (T6 (Q5y Z.T.m_tuple (DE.comp rfl (S0 (sc:=C6 Z2l) (N0:=Z3z) (N:=["_law_j","_law_script","_law_size","_law_at","_law_k"]) rfl rfl (?E)) ?B ?Q (fun _ _ _ _=>P5.nil) (fun _ _ _ _=>(T6 (DE.cl (Z3u Z) hr Z.D_law_drawn ?B))))))))) ?B))))
def W3s:=Z.goT 7 Z.D_law V5r fun nd _ _ _ s _ _ hT hr=>(A7.cons (O8 1 (DE.cl (Y1c Z) hr Z.D_law_machine ?B) nd) (A7.cons (O8 2 (DE.cl (Y1c Z) hr Z.D_law_machine ?B) nd) (A7.cons (Y6 bb rfl ?B ?B (A7.cons (O8 4 (DE.op Q1k Q1b (J4 (Q5n) (Q5b Z) hr hT Z.D_how_many (DA.cons (J4 (Y6k) (W3p Z) hr hT Z.D_either ?B) ?B)) (J4 (Q5n) (Q5b Z) hr hT Z.D_how_many (DA.cons (J4 (Y6k) (W3n Z) hr hT Z.D_both_of ?B) ?B))) nd) (A7.cons (DS.ife (DT.cmp Q8e Q8t (DE.v 4) (DE.op Q1k Q1b (J4 (Q5n) (Q5b Z) hr hT Z.D_how_many ?B) (J4 (Q5n) (Q5b Z) hr hT Z.D_how_many ?B)) (M5 _)) ?B A7.nil) (A7.one (DS.ife (DT.cmp Q8e Q8t (DE.op Q1k Q1b (J4 (Q5n) (Q5b Z) hr hT Z.D_how_many ?B) (J4 (Q5n) (Q5b Z) hr hT Z.D_how_many (DA.cons (J4 (V0u) (W3x Z) hr hT Z.D_other_than ?B) ?B))) ?B (M5 _)) ?B A7.nil))))) (A7.cons (O8 5 (J4 (Y6p) (Y1j Z) hr hT Z.D_texts_up_to ?B) nd) (A7.cons (DS.ife (DT.cmp (Q5f (n:=59) (Q5j hr)) Q0u (DE.v 5) (DE.comp rfl (S0 (sc:=C6 Z2k) (N0:=Z3y) (N:=["_law_text_here","_law_one"]) rfl rfl (?E)) (L4.lst (DE.cl (W3u Z) hr Z.D_law_texts ?B)) ?Q (fun _ _ _ _=>(P5.one (Z3r (DE.cl (W3l Z) hr Z.D_accepts ?B) (fun _=>rfl)))) ?Q) (M5 _)) ?B A7.nil) (A7.cons (DS.ife (DW.t (DW.or (DT.cmp Q8e Q8t (DE.lset rfl rfl Z.T.m_len rfl Z.T.m_set Y2t W5o (DE.v 5)) ?B (M5 _)) (DW.or1 (DT.cmp Q8e Q8t ?B (Q2c (Y3a rfl) Y9w rfl Z.T.m_sum Y2v (DA.one (Y0u rfl (S0 (sc:=C6 Z2k) (N0:=Z3y) (N:=["_law_long","_law_one"]) rfl rfl (?E)) ?B ?Q (fun _ _ _ _=>P5.nil) (fun _ _ _ _ hS=>(T6 (J4 (Q5n) (Q5b Z) hr (V9q hT hS) Z.D_how_many ?B)))))) (M5 _))))) ?B A7.nil) (A7.cons (DS.ife (DW.t (DW.and (DT.cmp (Q5f (n:=59) (Q5j hr)) Q0u (DE.v 5) ?B (M5 _)) (DW.and1 (DT.cmp (Q5f (n:=59) (Q5j hr)) Q0u (J4 (Y6m) (Y1e Z) hr hT Z.D_least_text ?B) ?B (M5 _))))) ?B A7.nil) (A7.cons (DS.ife (DT.cmp (Q5f (n:=59) (Q5j hr)) Q0u (J4 (Z6y) (Z3t Z) hr hT Z.D_first_texts (DA.cons (DE.v 1) (DA.one (Q2c (Y2z rfl) Y6j rfl Z.T.m_min Y2u ?B)))) ?B (M5 _)) ?B A7.nil) (A7.cons (DS.ife (Z3r (J4 (V0r) (W3r Z) hr hT Z.D_is_finite ?B) (fun _=>rfl)) (A7.cons (O8 6 (J4 (Z6y) (Z3t Z) hr hT Z.D_first_texts ?B) nd) (A7.cons (O8 7 (J4 (Y6n) (Y1f Z) hr hT Z.D_longest ?B) nd) (A7.cons (DS.ife (DW.t (DW.or (DT.cmp (Q5f (n:=59) (Q5j hr)) Q0u ?B ?B (M5 _)) (DW.or1 (DW.t (DW.and (DT.cmp (Q5f (n:=59) (Q5j hr)) Q0u (DE.v 6) ?B (M5 _)) (DW.and1 (DT.cmp (Q5f (n:=59) (Q5j hr)) Q0u ?B (DE.v 7) (M5 _)))))))) ?B A7.nil) (A7.one (DS.ret (DE.cmp (Q6i (n:=60) (Q6n hr)) Q0u (DE.v 6) (J4 (Y6p) (Y1j Z) hr hT Z.D_texts_up_to ?B) (M5 _))))))) A7.nil) (A7.one (DS.ret (DE.and (DE.cmp Z0l Q5k (J4 (Y6n) (Y1f Z) hr hT Z.D_longest ?B) DE.non (M5 _)) (DE.and1 (DE.cmp (Q6i (n:=60) (Q6n hr)) Q0u (DE.len Z.T.m_len (J4 (Z6y) (Z3t Z) hr hT Z.D_first_texts ?B)) DE.int (M5 _)))))))))))))))
end
def W5e {l:PySem.W.OpenLaw}{w:Ak}{K:Fg9}   {fa:Af}  (X:K.In h)(G:h.Ns mainGlobals mg)(wR:mg "law"=some (.ref fa))
  {f0:Af}{d0:Ai} (H0:Hr K "walked" Y9u f0 d0)
  {f1:Af}{d1:Ai} (H1:Hr K "first_text" Y9k f1 d1)
  {f2:Af}{d2:Ai} (H2:HrO K "states_along" Z8o 0 f2 d2)
  {f3:Af}{d3:Ai} (H3:Hr K "all_reached" Z8e f3 d3)
  {f4:Af}{d4:Ai} (H4:Hr K "distances" Q9h f4 d4)
  {f5:Af}{d5:Ai} (H5:Hr K "numbered" Z8l f5 d5)
  {f6:Af}{d6:Ai} (H6:Hr K "told_apart" Z8q f6 d6)
  {f7 c7 p7:Af}{d7:Ai} (H7:HrC K "least" Z2m f7 d7 c7 p7 ts)
  {f8:Af}{d8:Ai} (H8:Hr K "built" Z8g f8 d8)
  {f9 c9 p9:Af}{d9:Ai} (H9:HrC K "pair_step" Z2o f9 d9 c9 p9 ts)
  {uq xU sV:Af}{uP:Ai} (qf:HrC K "pair_end" Z2n uq uP xU sV ts)
  {uo:Af}{uO:Ai} (yj:Hr K "side_by_side" Y9s uo uO)
  {um:Af}{uN:Ai} (yi:Hr K "least_of" Y9q um uN)
  {ul xT sU:Af}{uM:Ai} (qe:HrC K "either" Z8h ul uM xT sU ts)
  {uk xS sT:Af}{uL:Ai} (qd:HrC K "both_of" Z8f uk uL xS sT ts)
  {uh:Af}{uK:Ai} (yh:Hr K "other_than" Z8n uh uK)
  {ug xR sS:Af}{uJ:Ai} (q9:HrC K "least_text" Z8j ug uJ xR sS ts)
  {uf xQ sR:Af}{uI:Ai} (q8:HrC K "onward_goals" Q9i uf uI xQ sR ts)
  {ue:Af}{uH:Ai} (yg:Hr K "last_length" Z2j ue uH)
  {ud:Af}{uG:Ai} (yf:Hr K "is_finite" Y9n ud uG)
  {oP:Af}{uF:Ai} (ye:Hr K "longest" Y9r oP uF)
  {ub:Af}{uE:Ai} (yd:Hr K "no_signs" Z8k ub uE)
  {ua:Af}{uD:Ai} (yc:Hr K "one_more_sign" Z8m ua uD)
  {u9:Af}{uC:Ai} (yb:Hr K "how_many" Y9m u9 uC)
  {u8:Af}{uB:Ai} (ya:Hr K "texts_of_length" Z8p u8 uB)
  {u7:Af}{uA:Ai} (y9:Hr K "texts_up_to" Y9t u7 uA)
  {u6:Af}{uz:Ai} (y8:Hr K "first_texts" Y9l u6 uz)
  {u5:Af}{uy:Ai} (y7:Hr K "accepts" Y9j u5 uy)
  {tZ:Af}{ux:Ai} (y6:Hr K "_law_cell" Y9o tZ ux)
  {tY:Af}{uw:Ai} (y4:Hr K "_law_drawn" Y9p tY uw)
  {tX:Af}{uv:Ai} (y3:Hr K "_law_texts" Z8i tX uv)
  {tW:Af}{uu:Ai} (y2:Hr K "_law_machine" Z2l tW uu)
  {xF:Af}{sA:Ai} (q0:Hr K "law" Z2k xF sA)
  (z0:PySem.W.nsIn K mainGlobals "enumerate"=some none)    (z1:PySem.W.nsIn K mainGlobals "len"=some none)    (z2:PySem.W.nsIn K mainGlobals "list"=some none)    (z3:PySem.W.nsIn K mainGlobals "max"=some none)    (z4:PySem.W.nsIn K mainGlobals "min"=some none)    (z5:PySem.W.nsIn K mainGlobals "range"=some none)    (z6:PySem.W.nsIn K mainGlobals "reversed"=some none)    (z7:PySem.W.nsIn K mainGlobals "set"=some none)    (z8:PySem.W.nsIn K mainGlobals "sum"=some none)    (z9:PySem.W.nsIn K mainGlobals "tuple"=some none)    (uZ:PySem.W.nsIn K mainGlobals "zip"=some none) {t0:Tok} (s0:PySem.W.nsIn K mainGlobals "SIGNS"=some (some (.str "01ab" t0))) (ie:∀Pt∈ts,Pt=p7\/Pt=p9\/Pt=sV\/Pt=sU\/Pt=sT\/Pt=sS\/Pt=sR):
  (∀Pt∈ts,(∃c,PySem.W.codeHdIn K c Pt=true)/\K.lookup Pt=none)/\∃fd:Ai,(∀(s:Ae) (v:Ad),BindsTo s fd ⟨[v],[]⟩ [("_law_script",v)])/\∀base:Heap,K.In base->base.Ns mainGlobals mg->Q0m mg base->S7 l.prog w K mg base J7 8 fa fd ["_law_script"] (Q6s K ts 1 Z2i):=by
 have e:=wR.symm.trans (gX X G q0.1);cases e;refine⟨fun Pt hp=>by
  rcases ie Pt hp with rfl |rfl |rfl |rfl |rfl |rfl |rfl
  ·exact H7.at
  ·exact H9.at
  ·exact qf.at
  ·exact qe.at
  ·exact qd.at
  ·exact q9.at
  ·exact q8.at
  ,?_⟩
 have T:Txt K mg w:={m_enumerate:=bE X G z0,m_len:=bE X G z1,m_list:=bE X G z2,m_max:=bE X G z3,m_min:=bE X G z4,m_range:=bE X G z5,m_reversed:=bE X G z6,m_set:=bE X G z7,m_sum:=bE X G z8,m_tuple:=bE X G z9,m_zip:=bE X G uZ,c_SIGNS:=⟨t0,gX X G s0⟩}
 have Lw:=q0.df (ps:=["_law_script"]) X G (by x_go);obtain⟨⟨oc,od,kV,dc,pm,an,cd,ct,sl,e,l1,l2⟩,kp⟩:=q0.2;refine⟨sA,fun s v=>by subst e;exact .of_eq rfl,fun base hB _ hBM=>?_⟩;exact W3s (ad:=fun i=>([f0,f1,f2,f3,f4,f5,f6,f7,f8,f9,uq,uo,um,ul,uk,uh,ug,uf,ue,ud,oP,ub,ua,u9,u8,u7,u6,u5,tZ,tY,tX,tW,fa]:M Af).getD i 0) (fn:=fun i=>([d0,d1,d2,d3,d4,d5,d6,d7,d8,d9,uP,uO,uN,uM,uL,uK,uJ,uI,uH,uG,uF,uE,uD,uC,uB,uA,uz,uy,ux,uw,uv,uu,sA]:M Ai).getD i d0) ⟨T,hBM,
  H0.df X G (by x_go),
  H1.df X G (by x_go),
  H2.df X G fun _ _ _ _ _ _ _ _ _ _ _ _ dl s us hK hl=>match us,(show us.length=2 by simpa using hl)with |[_,_],_=>PySem.W.binds_K hK rfl dl rfl rfl rfl,
  H3.df X G (by x_go),
  H4.df X G (by x_go),
  H5.df X G (by x_go),
  H6.df X G (by x_go),
  H7.hr.df X G (by x_go),
  H8.df X G (by x_go),
  H9.hr.df X G (by x_go),
  qf.hr.df X G (by x_go),
  yj.df X G (by x_go),
  yi.df X G (by x_go),
  qe.hr.df X G (by x_go),
  qd.hr.df X G (by x_go),
  yh.df X G (by x_go),
  q9.hr.df X G (by x_go),
  q8.hr.df X G (by x_go),
  yg.df X G (by x_go),
  yf.df X G (by x_go),
  ye.df X G (by x_go),
  yd.df X G (by x_go),
  yc.df X G (by x_go),
  yb.df X G (by x_go),
  ya.df X G (by x_go),
  y9.df X G (by x_go),
  y8.df X G (by x_go),
  y7.df X G (by x_go),
  y6.df X G (by x_go),
  y4.df X G (by x_go),
  y3.df X G (by x_go),
  y2.df X G (by x_go),
  q0.df X G (by x_go),⟨_,_,H7.fc,H7.tb⟩,⟨_,_,H9.fc,H9.tb⟩,⟨_,_,qf.fc,qf.tb⟩,⟨_,_,qe.fc,qe.tb⟩,⟨_,_,qd.fc,qd.tb⟩,⟨_,_,q9.fc,q9.tb⟩,⟨_,_,q8.fc,q8.tb⟩⟩
def walk {l:PySem.W.OpenLaw}     {d:DefRec}{K:Params->Fg9}  (hn:l.most=some 63)(kX:d.params.defaults=[])
  (hY:∀(w:Ak) (h:Heap),YP w h->(K w.params).In h) (s9:∀(w:Ak) (h:Heap),YP w h->∀Pt∈ts,h.get? Pt=some (PySem.W.tabObj #[]))
  (F:∀(w:Ak) (mg:Str->Ac Ad) (fa:Af) (h:Heap),(K w.params).In h->h.Ns mainGlobals mg->mg d.name=some (.ref fa) ->
   (∀Pt∈ts,(∃c,PySem.W.codeHdIn (K w.params) c Pt=true)/\(K w.params).lookup Pt=none) /\
   ∃fd:Ai,(∀(s:Ae) (u:Ad),BindsTo s fd ⟨[u],[]⟩ [("_law_script",u)])/\∀base:Heap,(K w.params).In base->base.Ns mainGlobals mg->Q0m mg base->S7 l.prog w (K w.params) mg base J7 8 fa fd ["_law_script"] (Q6s (K w.params) ts 1 Z2i)):
  PySem.W.WalkO q iX XP YP l.row.toRowW d [] (fun f vs=>PySem.call f vs):=
 J0r (n:=63) (k:=8) (x:="_law_script") (sp:=fun w=>Q6s (K w.params) ts 1 Z2i) hn (?G) kX ⟨rfl,?G,?G⟩ hY s9 F
  (fun w H a ns hl hT hz=>⟨[.st (scr ns)],fun r=>r=.st (.bl true),rfl,⟨_,_,rfl,A4.s_lst hz AllS.ints,rfl⟩,rfl,hT,⟨ns,rfl,hl,rfl⟩,fun r v H' e sm ir=>⟨by subst e;exact ir,fun Pt hp=>sm _ _ (hT Pt hp)⟩⟩)
end
end L2
open PySem PySem.W PyProof.Rows L2
namespace PySem.W.Fast
theorem tw4647477837255515141:1=1:=rfl
theorem tw5102909105951143296:1=1:=rfl
theorem tw589944430136922375:1=1:=rfl
theorem tw10980543234879730048:1=1:=rfl
theorem tw5782642647497723066:1=1:=rfl
theorem tw17442262722266083780:1=1:=rfl
theorem tw18157676851397327585:1=1:=rfl
theorem tw14081301577919977519:1=1:=rfl
theorem tw15331114951049930250:1=1:=rfl
theorem tw5158325409965863649:1=1:=rfl
theorem tw7757949196196943649:1=1:=rfl
theorem tw9816066499286166883:1=1:=rfl
theorem tw5561027627213651857:1=1:=rfl
theorem tw3876291892449999048:1=1:=rfl
theorem tw9860856784780858645:1=1:=rfl
theorem tw444031630333424939:1=1:=rfl
theorem tw8509217687917637670:1=1:=rfl
theorem tw1270111894136891582:1=1:=rfl
theorem tw895890094819466164:1=1:=rfl
theorem tw17653850350101233742:1=1:=rfl
theorem tw9095576998029611021:1=1:=rfl
theorem tw530262101162648840:1=1:=rfl
theorem tw3660002454157057187:1=1:=rfl
theorem tw4984298968471218369:1=1:=rfl
theorem tw17110656886525749384:1=1:=rfl
theorem tw1572544669010174622:1=1:=rfl
theorem tw6636333320048409217:1=1:=rfl
theorem tw8550501046581701214:1=1:=rfl
theorem tw10404848502341910160:1=1:=rfl
theorem tw5884843792354745069:1=1:=rfl
theorem tw9164146128644779639:1=1:=rfl
theorem tw12472507684883681143:1=1:=rfl
theorem tw5506726467866406793:1=1:=rfl
theorem tw8639040431310857489:1=1:=rfl
theorem tw1158086104494698051:1=1:=rfl
theorem tw2477854218813070931:1=1:=rfl
theorem tw12697434789213506970:1=1:=rfl
theorem tw8536542482569648852:1=1:=rfl
theorem tw7996404779998432401:1=1:=rfl
theorem tw17730852656132622558:1=1:=rfl
theorem tw14560010193390128639:1=1:=rfl
theorem tw16766164665241853985:1=1:=rfl
theorem tw4433223935572311353:1=1:=rfl
theorem tw14392403205807399750:1=1:=rfl
theorem tw9242356591591739873:1=1:=rfl
theorem tw3666523688695675876:1=1:=rfl
theorem tw6771911782661662062:1=1:=rfl
theorem tw11186831937194836066:1=1:=rfl
theorem tw14909905142427234449:1=1:=rfl
theorem tw9030901039315684874:1=1:=rfl
theorem tw9271338900756284402:1=1:=rfl
theorem tw17017083704216357184:1=1:=rfl
theorem tw12528560753896670226:1=1:=rfl
theorem tw13211854408828594984:1=1:=rfl
theorem tw10781727854242717745:1=1:=rfl
theorem tw2122914956696825104:1=1:=rfl
theorem tw16620550278216840719:1=1:=rfl
theorem tw18118945561358589711:1=1:=rfl
theorem tw9780143831974911912:1=1:=rfl
theorem tw1358852523279872398:1=1:=rfl
theorem tw4178620019714084396:1=1:=rfl
theorem tw12750575291845587601:1=1:=rfl
theorem tw7090255815964556311:1=1:=rfl
theorem tw9269834213047088233:1=1:=rfl
theorem tw12453865064643816820:1=1:=rfl
theorem tw13124299069043060048:1=1:=rfl
theorem tw3289059973342690893:1=1:=rfl
theorem tw12320932755842951632:1=1:=rfl
theorem tw8277613594623190584:1=1:=rfl
theorem tw11785311377678216967:1=1:=rfl
theorem tw15746926884814938059:1=1:=rfl
theorem tw17088388291391900125:1=1:=rfl
theorem tw4506028261310121963:1=1:=rfl
theorem tw12049515458768873273:1=1:=rfl
theorem tw11566468105907953458:1=1:=rfl
theorem tw13376189817137259201:1=1:=rfl
theorem tw15190219498839192226:1=1:=rfl
theorem tw10089007670766261641:1=1:=rfl
theorem tw17512681264954445597:1=1:=rfl
theorem tw14061845091876109358:1=1:=rfl
theorem tw8472249715402790632:1=1:=rfl
theorem tw1798455951746669122:1=1:=rfl
theorem tw89827521804973407:1=1:=rfl
theorem tw5429108631690586841:1=1:=rfl
theorem tw10533790945256253357:1=1:=rfl
theorem tw6085521928832969789:1=1:=rfl
end PySem.W.Fast
theorem PySem.Challenge.cw_textkinds_k15_whole_texts_holds : PySem.Challenge.rw_textkinds_k15_whole_texts.Holds := by
 w_on;o_law;k_head;(case hw=>w_witness2)
 k_fill
 refine L2.walk (l:=PySem.Challenge.rw_textkinds_k15_whole_texts) rfl rfl (fun w h Ab=>PySem.W.km_in_of Ab) (fun w h Ab=>PySem.W.km_tabs_of Ab) ?F
 case F=>
  intro w mg fa h KX G og
  refine' L2.W5e KX G og ?_ ?_ ?_ ?_ ?_ ?_ ?_ ?_ ?_ ?_ ?_ ?_ ?_ ?_ ?_ ?_ ?_ ?_ ?_ ?_ ?_ ?_ ?_ ?_ ?_ ?_ ?_ ?_ ?_ ?_ ?_ ?_ ?_ ?_ ?_ ?_ ?_ ?_ ?_ ?_ ?_ ?_ ?_ ?_ ?_ ?_
  all_goals try first |(refine' W7v ?_ ?_ ?_ ?_;any_goals k_is;done) |(refine' W7x ?_ ?_ ?_ ?_ ?_;any_goals k_is;done) |(refine' W7w ?xa ?xl ?xc ?xk ?xq ?xp ?xh ?xn ?xm;(case xa=>k_is);(case xl=>k_is);(case xc=>k_is);(case xk=>k_is);(case xq=>k_is);(case xp=>rfl);(case xh=>kernel_rfl);(case xn=>kernel_rfl);(case xm=>decide)) |k_is |decide
#print axioms PySem.Challenge.cw_textkinds_k15_whole_texts_holds