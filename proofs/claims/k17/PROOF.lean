import PyProof.Rows.All
import Wide.All
import OpenK.AllK
import Wide.FinOn
import Lean
import PyProof.EqAt
import PyProof.EqKinds
import PyProof.TupleCall
import PyProof.WalkInts
import KE.KDictSum
import PyProof.Rows.SetFrom
import PyProof.Rows.SumAny
import PyProof.Rows.SeqMore2
import PyProof.ListRange
import KE.KFinally
import PySem.Challenge.RW_textkinds_k17_whole_numbers
set_option Elab.async false
set_option linter.all false
set_option maxRecDepth 100000
set_option maxHeartbeats 0
abbrev O:=List
abbrev Am:=Option
abbrev An:=PySem.Value
abbrev Ao:=PySem.Shared
abbrev Ap:=PySem.Addr
abbrev Aq:=PySem.Expr
abbrev As:=PySem.Around
abbrev At:=PySem.FuncData
abbrev Au:=PySem.Program
abbrev Av:=PySem.World
abbrev Aw:=PySem.Stmt
def aa:=@PySem.wpAny_bind
theorem ac:type_of% @List.getElem?_eq_getElem:=@List.getElem?_eq_getElem
def af:=@PySem.Heap.get?_push_of_some
theorem ag:type_of% @List.mem_cons_of_mem:=@List.mem_cons_of_mem
theorem ah:type_of% @List.getElem?_map:=@List.getElem?_map
theorem ai:type_of% @List.length_map:=@List.length_map
theorem aj:type_of% @List.mem_cons_self:=@List.mem_cons_self
def ak:=@Nat.le_refl
def am:=@PySem.wpAny_pure
theorem ao:type_of% @List.length_append:=@List.length_append
theorem aq:type_of% @List.mem_map:=@List.mem_map
theorem ar:type_of% @List.mem_cons:=@List.mem_cons
theorem au:type_of% @List.mem_of_getElem?:=@List.mem_of_getElem?
theorem av:type_of% @List.map_cons:=@List.map_cons
theorem aw:type_of% @List.mem_append_right:=@List.mem_append_right
theorem ax:type_of% @List.getD_eq_getElem?_getD:=@List.getD_eq_getElem?_getD
def ay:=@Nat.lt_of_lt_of_le
def az:=@List.getElem?_eq_none_iff
def aA:=@PySem.Heap.lt_size
def aB:=@Nat.ne_of_lt
theorem aC:type_of% @Option.some.inj:=@Option.some.inj
def aD:=@List.getElem?_eq_some_iff
theorem aE:type_of% @List.mem_singleton:=@List.mem_singleton
theorem aF:type_of% @List.map_map:=@List.map_map
def aG:=@PySem.Heap.get?_push_size
def aH:=@List.size_toArray
def aI:=@if_neg
def aJ:=@List.getElem?_append_left
theorem aK:type_of% @List.length_cons:=@List.length_cons
theorem aL:type_of% @List.mem_range:=@List.mem_range
def aM:=@List.getElem?_set_ne
theorem aN:type_of% @List.mem_append:=@List.mem_append
def aO:=@if_pos
def aP:=@PySem.wpAny_mono
def aQ:=@List.forall_mem_cons
def aR:=@List.getElem?_append_right
def aS:=@Nat.lt_irrefl
theorem aT:type_of% @List.map_congr_left:=@List.map_congr_left
def aU:=@Nat.le_trans
theorem aV:type_of% @List.not_mem_nil:=@List.not_mem_nil
def aW:=@decide_eq_false
theorem aX:type_of% @List.map_append:=@List.map_append
def aZ:=@List.length_replicate
theorem b7:type_of% @Nat.lt_or_ge:=@Nat.lt_or_ge
theorem b8:type_of% @List.append_nil:=@List.append_nil
theorem b9:type_of% @List.length_range:=@List.length_range
theorem ba:type_of% @List.mem_append_left:=@List.mem_append_left
def bb:=@PyProof.Rows.callWith_type1
theorem bc:type_of% @List.nodup_append:=@List.nodup_append
def be:=@List.idxOf_lt_length_iff
def bf:=@List.getElem?_set_self
theorem bg:type_of% @List.nodup_cons:=@List.nodup_cons
def bh:=@Bool.false_ne_true
def bi:=@List.length_singleton
def bj:=@Nat.zero_le
def bn:=@PySem.wpAny_Call_Name_kw
def bo:=@List.getElem_mem
theorem bp:type_of% @List.find?_cons:=@List.find?_cons
def bq:=@PySem.PassesOwn.never
def br:=@List.mem_filter
def bt:=@Nat.lt_succ_of_lt
def bu:=@PySem.wpAny_field
def bv:=@List.mem_iff_getElem
def bx:=@List.length_set
theorem bA:type_of% @List.prefix_refl:=@List.prefix_refl
def bC:=@PySem.Heap.size_push
def bD:=@PySem.wpAny_holding
def bE:=@PyProof.Rows.slot_tuple_getitem
theorem bF:type_of% @List.range_succ_eq_map:=@List.range_succ_eq_map
def bG:=@or_false
def bI:=@PySem.mem_of_lookup
def bJ:=@List.getElem?_range
def bK:=@List.filterMap_cons
theorem bL:type_of% @Int.toNat_natCast:=@Int.toNat_natCast
def bM:=@PySem.Heap.get?_update_other
def bN:=@Ne.symm
def bO:=@decide_eq_true
def bP:=@PySem.Heap.SameBut.update
def bQ:=@PySem.wpAny_newObj_type
def bR:=@PySem.W.mg_none_of
def bT:=@PySem.Calls.spliced_cons
def bU:=@PySem.wpAny_callSpecial?_slot
theorem bV:type_of% @List.flatMap_cons:=@List.flatMap_cons
theorem bW:type_of% @List.append_assoc:=@List.append_assoc
theorem bX:type_of% @List.length_nil:=@List.length_nil
def bY:=@List.forIn_cons
def bZ:=@List.drop_eq_getElem_cons
def cb:=@Nat.lt_succ_self
def cc:=@List.all_eq_true
def ce:=@Bool.and_eq_true
def cg:=@PySem.wpAny_setField_rec
def ci:=@PySem.wpAny_call_entry
def cj:=@List.length_eq_zero_iff
theorem cn:type_of% @List.foldl_cons:=@List.foldl_cons
def cq:=@beq_eq_false_iff_ne
def cr:=@PySem.Calls.evalArgs_plain
def cu:=@PySem.wpAny_seqItems
def cw:=@PySem.wpAny_pyIter_enum
theorem cx:type_of% @List.sum_cons:=@List.sum_cons
def cA:=@Array.getElem?_eq_some_iff
def cB:=@PySem.Calls.callWith_builtin
theorem cC:type_of% @List.getElem?_zip_eq_some:=@List.getElem?_zip_eq_some
def cD:=@PySem.W.hideAll_none
theorem cE:type_of% @List.flatten_cons:=@List.flatten_cons
def cF:=@PySem.Heap.get?_update_self
def cG:=@Nat.zero_add
theorem cH:type_of% @List.replicate_succ:=@List.replicate_succ
def cI:=@List.zipIdx_cons
def cJ:=@List.filter_cons
def cK:=@PySem.Calls.spliced_nil
theorem cL:type_of% @Nat.eq_zero_or_pos:=@Nat.eq_zero_or_pos
theorem cM:type_of% @List.prefix_append:=@List.prefix_append
def cN:=@Bool.false_eq_true
def cO:=@List.map_nil
def cQ:=@PySem.F.slot_dict_setdefault
def cS:=@List.of_mem_zip
def cT:=@PySem.wpAny_passesOwn
def cU:=@Nat.le_max_right
theorem cV:type_of% @List.mem_flatMap:=@List.mem_flatMap
def cW:=@List.length_take
def cX:=@List.drop_length
def cY:=@PySem.wpAny_loadPart_at
def cZ:=@PySem.eqIsQuiet_byValue
def db:=@Array.length_toList
def dh:=@PySem.F.slot_tuple_iterator_next
def di:=@PySem.wpAny_newFunctionEnv
theorem dm:type_of% @List.range_succ:=@List.range_succ
def dn:=@List.nil_append
def dq:=@List.cons.injEq
def dw:=@PySem.wpAny_rule
def dy:=@Int.emod_lt_of_pos
def dz:=@PySem.wpAny_execs_cons
def dH:=@PySem.wpAny_comprehension_free
def dI:=@PySem.W.cellsFrom_some
def dJ:=@List.ext_getElem?
def dL:=@List.nodup_nil
def dO:=@PySem.wpAny_standAt
def dP:=@Nat.le_of_lt
def dQ:=@PySem.wpAny_list_append_plain
def dR:=@PySem.wpAny_getItem_str_slice
def dU:=@List.getElem?_eq_none
def dX:=@Nat.succ_ne_self
def dY:=@List.length_drop
def eh:=@PySem.W.mg_of
def eB:=@PySem.wpAny_truthy_bool
def eD:=@Nat.le_succ
def eE:=@Nat.le_max_left
def eF:=@Int.emod_nonneg
def eG:=@Bool.eq_iff_iff
def eI:=@PySem.F.slot_range_reversed
def eQ:=@PySem.Around.in1_units
def eS:=@PySem.F.excBase_ValueError
def eV:=@Nat.lt_of_le_of_lt
theorem eX:type_of% @List.getElem_idxOf:=@List.getElem_idxOf
def eY:=@Array.forIn_toList
def ff:=@if_false
theorem fg:type_of% @List.mem_of_find?_eq_some:=@List.mem_of_find?_eq_some
def fh:=@Classical.byContradiction
def fm:=@PySem.wpAny_specialOf
def fq:=@PySem.F.slot_zip_next
def ft:=@PySem.wpAny_isSubtype_exc
def fu:=@of_decide_eq_true
theorem fw:type_of% @List.idxOf_append:=@List.idxOf_append
theorem fx:type_of% @List.getElem?_set:=@List.getElem?_set
def fy:=@Function.comp_def
def fz:=@PySem.F.args_tuple_add_2
def fD:=@if_true
def fE:=@PySem.wpAny_newFunctionEnv_cells
def fF:=@PySem.F.plainAttrs_list
def fG:=@PySem.F.plainAttrs_dict
def fH:=@PySem.F.entry_tuple_add
def fI:=@List.getElem?_replicate
def fO:=@PySem.wpAny_pyIter_tuple
def fP:=@PySem.tupleKind_room_in1
def fQ:=@PySem.Obj.data_mapFields
def fS:=@PySem.F.slot_tuple_add
def fT:=@Option.map_eq_some_iff
def fY:=@Nat.not_lt
def fZ:=@PySem.wpAny_assign_Name
def g6:=@PySem.wpAny_Call_method
def g7:=@PySem.WalksT.enumerateD
def g8:=@PySem.Heap.SameBut.refl
def g9:=@PySem.wpAny_of_eq
def ga:=@PySem.sizeLine_eq
def gb:=@PySem.F.slot_dict_get
def gp:=@List.mem_of_mem_take
def gu:=@List.forIn_nil
def gz:=@PySem.wpAny_pyIter_rangeiter
def gA:=@PySem.codeAny_compStart_list
def gB:=@PySem.W.hideAll_get
def gC:=@List.mem_map_of_mem
def gE:=@List.filter_sublist
def gT:=@PySem.wpAny_updateSeq
def gU:=@PySem.wpAny_tests_nil
def gV:=@PySem.wpAny_execs_nil
def gW:=@PySem.post_val_or_str
theorem gX:type_of% @List.any_cons:=@List.any_cons
def gY:=@List.all_cons
def gZ:=@PySem.exec_Assign_Name_used
def hV:=@PySem.codeAny_call_function
def hZ:=@PySem.W.of_hideAll
def i0:=@PySem.W.codeRec_of
def i3:=@PySem.W.callWith_K
def i4:=@List.pairwise_cons
def i5:=@List.mem_replicate
def iB:=@PySem.wpAny_updateSeq_pair
def iC:=@Nat.lt_succ_of_le
def iE:=@List.foldl_append
def iF:=@PySem.Around.under_plainId
def iU:=@Nat.add_zero
def iV:=@PySem.wpAny_letGo
def j8:=@PySem.F.args_dict_setdefault_3
theorem j9:type_of% @Nat.max_eq_right:=@Nat.max_eq_right
def ja:=@List.nodup_range
theorem jb:type_of% @List.lookup_cons:=@List.lookup_cons
theorem jc:type_of% @List.flatMap_map:=@List.flatMap_map
def jd:=@PySem.F.plain_extend_loop
def jt:=@PySem.F.entry_dict_setdefault
def ju:=@List.take_append_of_le_length
def jv:=@PyProof.Rows.subscriptTail_builtinR
def jI:=@PySem.wpAny_onRaise
def jJ:=@PySem.Paired.length
def jK:=@PySem.F.type_dict_setdefault
def jL:=@List.mem_zipIdx_iff_getElem?
def jM:=@Nat.not_lt_zero
theorem jN:type_of% @Nat.max_eq_left:=@Nat.max_eq_left
def jO:=@List.zipIdx_map
theorem jP:type_of% @List.find?_some:=@List.find?_some
def km:=@PySem.call_meets
def kK:=@PySem.F.plain_reversed_new
def kL:=@PySem.wpAny_Return_some
def kM:=@PySem.slot_list_getitem
def kN:=@Nat.mul_le_mul
def kO:=@List.drop_zero
def lA:=@PySem.wpAny_typeOf
def lC:=@PySem.codeAny_mono
def lD:=@PySem.Txt.slice_le
def me:=@PySem.F.type_list_append
def mf:=@PySem.F.slot_list_append
def mh:=@Option.isSome_iff_exists
def mi:=@PySem.noFill_tuple_add
def nu:=@PySem.F.args_dict_get_2
def nv:=@List.getElem?_cons_succ
def nM:=@PySem.wpAny_mkInt
def nN:=@PySem.seqIndex_of
def nO:=@PySem.F.plainAttrs_str
def nQ:=@PySem.F.entry_dict_get
def nR:=@List.pairwise_lt_range
def nS:=@PySem.F.args_tuple_iterator_next_1
def nT:=@Nat.succ_mul
def nU:=@Nat.succ.inj
def nV:=@Nat.sub_zero
def nW:=@Nat.pow_succ
def nX:=@Nat.ne_of_gt
theorem nY:type_of% @Nat.le_total:=@Nat.le_total
def nZ:=@Bool.true_or
def oa:=@PySem.codeAny_builtin
def pJ:=@PySem.F.slot_dict_len
theorem pM:type_of% @List.take_append_drop:=@List.take_append_drop
def pN:=@List.eq_nil_or_concat
def pO:=@List.dropLast_eq_take
def pP:=@List.count_cons_of_ne
def pQ:=@List.concat_eq_append
def pR:=@PySem.F.entry_tuple_iterator_next
def pS:=@Array.getElem?_toList
def qJ:=@List.pairwise_append
def qK:=@List.mem_erase_of_ne
def qL:=@List.length_dropLast
theorem qM:type_of% @List.idxOf_eq_length:=@List.idxOf_eq_length
def qN:=@List.getElem?_zipIdx
def qO:=@List.count_cons_self
def qP:=@List.Pairwise.filter
def qQ:=@Classical.not_forall
def qR:=@PySem.Calls.Name_function_global
def qS:=@Nat.le_zero
def qT:=@PySem.wpAny_setField
def u5:=@PySem.W.pyHash_slot
def u6:=@PySem.W.codeHd_of_K
def u7:=@Nat.mul_le_mul_left
def u8:=@Nat.add_sub_cancel'
def u9:=@Nat.add_le_add_left
def ua:=@List.length_pos_iff
def ub:=@List.length_flatMap
def uc:=@List.getElem_of_mem
def ud:=@List.filter_flatMap
def ue:=@List.filter_eq_self
def uf:=@Array.toList_append
def vV:=@List.mem_filterMap
def vW:=@List.contains_cons
def vX:=@PySem.seq_tuple_add
def vY:=@PySem.plainId_quiet
def zp:=@decide_eq_true_eq
def zq:=@Option.isSome_map
def zr:=@Nat.lt_trichotomy
def zt:=@Nat.le_succ_of_le
def zu:=@Classical.not_imp
def zw:=@Bool.not_eq_true'
def zY:=@PySem.wpAny_pyNext_range_end
def zZ:=@PySem.wpAny_getItem_list_neg
def Aa:=@decide_eq_decide
def Ab:=@beq_self_eq_true
theorem Ac:type_of% @Option.getD_some:=@Option.getD_some
def Ad:=@Option.getD_none
def Ae:=@List.take_length
def Af:=@List.mem_reverse
theorem Ag:type_of% @List.getElem_inj:=@List.getElem_inj
def Ah:=@PySem.concat_meets
def Ai:=@PySem.codeAny_func
def Aj:=@PySem.call_meetsIn
abbrev Fg9:= PySem.W.Frag
abbrev Pn9:= O (PySem.Addr×PySem.Obj)
abbrev VS9:= PySem.Value->PySem.Shared->Prop
namespace L2
open PySem PySem.Spec PyProof.Rows
set_option hygiene false
local macro_rules|`(?A)=>`(A0 X ae σ H s)|`(?B)=>`((by z_go))|`(?C)=>`((model X.prog X.w))|`(?D)=>`(by decide +kernel)|`(?E)=>`((by simp))|`(?G)=>`(by decide)|`(?H)=>`(by lia)|`(?I)=>`(starEach (e::es) X.env=(false,eval e X.env)::starEach es X.env)|`(?J)=>`(X.fn x=true\/X.env.scope.names.lookup x=some .local)|`(?K)=>`((blk X scope C s2 H2 fp N))|`(?L)=>`(m.1.length)|`(?M)=>`(caps.map (·.addr))|`(?N)=>`(O Nat)|`(?O)=>`(envOfC qual scope s.heap.objs.size f cd)|`(?P)=>`(some o)|`(?Q)=>`((x==("__debug__":Str))=false)|`(?R)=>`((model P w))|`(?S)=>`((backTo pos (starEach es X.env)).any (·.1)=false)|`(?T)=>`((fun _ _ _ _=>?B))|`(?U)=>`((by simp;lia))|`(?V)=>`((model prog w))|`(?W)=>`((blk X scope C s H fp N))|`(?X)=>`((wC (.int 1)))|`(?Y)=>`(K4 G3 P w K mg base N qual (B8 st) f cdv A outer s H E)
local macro_rules|`(?Z)=>`(X.env.cells.lookup x=some c)|`(?A0)=>`(E1 k (A.deeper (envOfC qual (B8 st) s.heap.objs.size f cdv)))|`(?A1)=>`(∀x,foldedSetIterable iter X.env x=pure x)|`(?A2)=>`(step k c)|`(?A3)=>`({cls:=.type "list",data:=.seq aY.toArray n})|`(?A4)=>`(fun _ _=>False)|`(?A5)=>`((wC (.int 0)))|`(?A6)=>`(s.heap.get? b)
local macro_rules|`(tactic|accm_mu)=>`(tactic|(obtain⟨b,ys,e,n,q,t⟩:=r;exact⟨b,ys,e,n,by rw[B2 (fun z=>ap rfl (by rw[e,z]))];exact q,t.mono kp _ _⟩))
local macro_rules|`(tactic|back_in)=>`(tactic|(intro X hP hw hK hc i ae s σ H E I hf st hg;subst hP hw hK))
local macro_rules|`(tactic|sleep 1)=>`(tactic|(first |exact .inl rfl |exact .inr rfl |assumption))|`(tactic|sleep 2)=>`(tactic|(refine⟨_,rfl,_,rfl,?_⟩))
local macro_rules|`(tactic|k_ne)=>`(tactic|refine⟨_,rfl,?_⟩)
variable {us aY its':O An}{u dG pm cdv ct oc vl vu:An}{κ α β:Type}{a b it f sl l C D0 en c' Pt z i1 i2 l1 l2:Ap}{P prog q:Au}{h h' base:Heap}{ae lL pl pb:Pn9}{s s' s1 s2:Ao}{g':Array GenState}{t' n kk c L:Nat}{ch fp S ts:O Ap}{N ps iX:O Str}{x qual name:Str}{Al:Model}{A:As}{E Q QQ Q₁:An->Ao->Prop}{e o tg iter gt:Aq}{pos cf p apos bz mB np:Pos}{st:Aw}{body iW:O Aw}{fd:At}{kindOf:Str->Am NameKind}{sc scope:Scope}{mg mb m':Str->Am An}{params:Arguments}{an od:Am Ap}{fK dS:Array (Am An)}{T rQ:String}{hi:Am Int}{items:Array An}{ks keys:O (Am Aq)}{XP:(Str->Am An)->Heap->Prop}{YP:Av->Heap->Prop}{ns:O Int}{cap W:?N}{gQ gN:O Aq}{use:Am (An->Sem Unit)}{QB:Bool->Prop}{clos:O (Str×Ap)}{cs:O (Str×Nat)}{b1 b2:Bool}{rs on B rows:O (?N)}{es:O Bool}{g:Bool->Bool->Bool}{good:Nat->Nat->Prop}{Ln:Nat->Nat}{XE:Ap->Prop}
abbrev B7:=Sum Int Str
def Q6o:B7->An->Bool
 |.inl k,v=>Value.isInt k v
 |.inr x,v=>Value.isStrOf x v
def keyH (w:Av):B7->Int
 |.inl k=>hashInt k
 |.inr x=>hashStr w x
theorem Q2k:∀{k:B7}{v:An},Q6o k v=true->(∃i t,k=Sum.inl i/\v=Value.int i t)\/(∃x t,k=Sum.inr x/\v=Value.str x t)
 |.inl i,v,h=>by
  obtain⟨t,e⟩:=Value.isInt_shape (k:=i) (v:=v) h;exact .inl ⟨i,t,rfl,e⟩
 |.inr x,v,h=>by
  obtain⟨t,e⟩:=Value.isStrOf_shape (x:=x) (v:=v) h;exact .inr ⟨x,t,rfl,e⟩
def W8m (i:Int)(t:Tok):Q6o (.inl i) (.int i t)=true:=by simp[Q6o,Value.isInt]
def W8n (x:Str)(t:Tok):Q6o (.inr x) (.str x t)=true:=by simp[Q6o,Value.isStrOf]
def W8p (a b:Int):decide ((Sum.inl a:B7)=Sum.inl b)=(a==b):=by
 by_cases e:a=b
 ·subst e;simp
 ·have h:¬ (Sum.inl a:B7)=Sum.inl b:=fun q=>e (Sum.inl.inj q);rw[aW h];exact(cq.mpr e).symm
def W8s (a b:Str):decide ((Sum.inr a:B7)=Sum.inr b)=decide (a=b):=by simp[B7]<;>omega
def W8q (a:Int)(b:Str):decide ((Sum.inl a:B7)=Sum.inr b)=false:=aW (fun q=>nomatch q)
def W8r (a:Str)(b:Int):decide ((Sum.inr a:B7)=Sum.inl b)=false:=aW (fun q=>nomatch q)
def M4 (prog:Au)(w:Av):PySem.KeyKind prog w B7 where
 is:=Q6o
 hash:=keyH w
 inj:=fun v a b ha hb=>by
  rcases Q2k ha with⟨i,t,rfl,rfl⟩ |⟨x,t,rfl,rfl⟩
  ·rcases Q2k hb with⟨j,u,rfl,e⟩ |⟨y,u,rfl,e⟩
   ·injection e with e1 _;rw[e1]
   ·exact nomatch e
  ·rcases Q2k hb with⟨j,u,rfl,e⟩ |⟨y,u,rfl,e⟩
   ·exact nomatch e
   ·injection e with e1 _;rw[e1]
 byValue:=fun k v h=>by
  rcases Q2k h with⟨i,t,rfl,rfl⟩ |⟨x,t,rfl,rfl⟩<;>rfl
 pyHash:=fun hv h=>by
  rcases Q2k hv with⟨i,t,rfl,rfl⟩ |⟨x,t,rfl,rfl⟩
  ·exact wpAny_pyHash_int h
  ·exact wpAny_pyHash_str h
 eqBool:=fun hu hv h=>by
  rcases Q2k hu with⟨i,t,rfl,rfl⟩ |⟨x,t,rfl,rfl⟩
  ·rcases Q2k hv with⟨j,u,rfl,rfl⟩ |⟨y,u,rfl,rfl⟩
   ·rw[W8p]at h;exact wpAny_eqBool_int h
   ·rw[W8q]at h;exact SeqAt.EqAt.int_str i t y u _ _ _ _ h
  ·rcases Q2k hv with⟨j,u,rfl,rfl⟩ |⟨y,u,rfl,rfl⟩
   ·rw[W8r]at h;exact SeqAt.EqAt.str_int x t j u _ _ _ _ h
   ·rw[W8s]at h;exact wpAny_eqBool_str h
 «strs»:=fun k x t v h=>by
  rcases Q2k h with⟨i,u,rfl,e⟩ |⟨y,u,rfl,e⟩
  ·exact nomatch e
  ·injection e with e1 _
   subst e1;cases v<;>rfl
def V0e (prog:Au)(w:Av)(i:Int)(t:Tok):(M4 prog w).is (.inl i) (.int i t)=true:=W8m i t
def V0f (prog:Au)(w:Av)(x:Str)(t:Tok):(M4 prog w).is (.inr x) (.str x t)=true:=W8n x t
inductive V where
 |non |bl (b:Bool) |int (i:Int) |str (x:Str) |byt (b:Array UInt8) |flt (b:UInt64) |ref (a:Addr) |ty (n:String)
 deriving DecidableEq
variable {xs ys vs lE:O V}{y:V}{kvs:O (O B7×V)}
def C4:V->An->Prop
 |.non,u=>u=Value.none
 |.bl b,u=>u=Value.bool b
 |.int i,u=>∃t,u=Value.int i t
 |.str x,u=>∃t,u=Value.str x t
 |.byt b,u=>∃t,u=Value.bytes b t
 |.flt b,u=>∃t,u=Value.float b t
 |.ref a,u=>u=Value.ref a
 |.ty n,u=>u=Value.type n
abbrev C0:O V->O An->Prop:=Paired C4
def C0.length (r:C0 xs us):xs.length=us.length:=jJ r
theorem C0.get:∀{xs:O V}{us:O An}{i:Nat}{x:V},C0 xs us->xs[i]?=some x->∃u,us[i]?=some u/\C4 x u
 |_,_,_,_,.nil,e=>by simp at e
 |_,_,0,_,.cons r _,e=>by simp at e;subst e;exact⟨_,rfl,r⟩
 |_,_,i+1,x,.cons _ t,e=>by
  obtain⟨u,h1,h2⟩:=C0.get (i:=i) (x:=x) t (by simpa using e);exact⟨u,by simpa using h1,h2⟩
theorem C0.set {x:V}  (r:C4 x u):∀{xs:O V}{us:O An} (i:Nat),C0 xs us->C0 (xs.set i x) (us.set i u)
 |_,_,_,.nil=>.nil
 |_,_,0,.cons _ t=>.cons r t
 |_,_,i+1,.cons q t=>.cons q (C0.set r i t)
theorem C0.append:∀{xs ys:O V}{us ws:O An},C0 xs us->C0 ys ws->C0 (xs++ys) (us++ws):=by
 intro xs
 induction xs with
 |nil=>intro ys us ws a s;cases a;exact s
 |cons x xs ih=>
  intro ys us ws a s;cases a with
  |cons r t=>exact .cons r (ih t s)
theorem C0.take:∀{xs:O V}{us:O An} (n:Nat),C0 xs us->C0 (xs.take n) (us.take n)
 |_,_,0,_=>.nil
 |_,_,_+1,.nil=>.nil
 |_,_,n+1,.cons r t=>.cons r (C0.take n t)
theorem C0.drop:∀{xs:O V}{us:O An} (n:Nat),C0 xs us->C0 (xs.drop n) (us.drop n)
 |_,_,0,r=>r
 |_,_,_+1,.nil=>.nil
 |_,_,n+1,.cons _ t=>C0.drop n t
def Q2v:Am V->Am An->Prop
 |some v,some u=>C4 v u
 |none,none=>True
 |_,_=>False
def KV:O (κ×V)->O (κ×An)->Prop:=Paired fun(p:κ×V) (q:κ×An)=>p.1=q.1/\C4 p.2 q.2
def kV:B7->V
 |.inl i=>.int i
 |.inr x=>.str x
inductive HO where
 |lst (xs:List V)
 |tup (xs:List V)
 |dK (kvs:List (B7×V)) |dT (kvs:List (List B7×V))
 |set (S:Int->Bool) (n:Nat)
 |ins (C dx:Addr) (fs:List (Str×V))
 |own (x:Addr)
 |xd (fs:List (Str×V))
 |met (f x:Addr)
 |rng (lo hi:Int)
 |frz (o:Obj) (u:HO)
 |tab
 |tbl (ps:Array Value)
 |ext (φ:Heap->Prop)
abbrev Hp:=Ap->Am HO
variable {H H' H1 H2 H0:Hp}{Φ:Hp->Prop}
def A9 (H:Hp)(a:Ap)(o:HO):Hp:=fun b=>if b=a then ?P else H b
def upd_same {o:HO}:A9 H a o a=?P:=by unfold A9;rw[aO rfl]
def B2 {o:HO}(h:b≠a):A9 H a o b=H b:=by unfold A9;rw[aI h]
def Q0k {o u:HO}(h:H a=?P)(h':H b=some u)(d:o≠u):a≠b:=by
 intro e;subst e;rw[h]at h';exact d (aC h')
def Y5 {o:HO}(h:H a=?P)(h':H b=none):a≠b:=by
 intro e;subst e;rw[h]at h';cases h'
def Q5a (o:Obj):Prop:=∃vs q t,o.data=.fields vs/\vs[1]?=some (Value.str q t)
def Q9u (a:Ap)(u:HO):Prop:=u=.own a\/∃o,u=.frz o (.own a)
section
variable (P:Au)(w:Av)
def ObjOk (H:Hp)(h:Heap)(a:Ap):HO->Prop
 |.lst xs=>xs.length<=sizeLine/\∃(aY:O An) (n:Nat),C0 xs aY/\h.get? a=some ?A3
 |.tup xs=>xs.length<=sizeLine/\∃aY:O An,C0 xs aY/\IsTup h a aY.toArray
 |.dK kvs=>kvs.length<=sizeLine/\(a==sysModules)=false/\∃vs,KV kvs vs/\h.DictOf (M4 P w) a vs
 | .dT kvs=>kvs.length<=sizeLine/\(a==sysModules)=false/\∃xs:O (O B7×Ap×An),
   Paired (fun(p:O B7×V) (q:O B7×Ap×An)=>p.1=q.1/\H q.2.1=some (.tup (p.1.map kV))/\C4 p.2 q.2.2) kvs xs /\
   ∃o es ep,h.get? a=?P/\o.ExactDict/\o.data=.dict es ep/\es.toList=xs.map (entryOfKey (tupleKind (M4 P w)))/\(xs.map (·.1)).Nodup
 |.set S n=>h.SetOf (intKind P w) a S n
 | .ins C dx fs=>H dx=some (.own a)/\fs.length<=1000/\dx≠a/\h.get? a=some (PySem.W.instObj C dx) /\
   ∃mA,h.Ns1 dx mA/\(∀f,Q2v (fs.lookup f) (mA f))/\PySem.Within mA (fs.map (·.1))
 |.own _=>∃o,h.get? a=?P
 |.xd fs=>∃mA,h.Ns1 a mA/\∀f,Q2v (fs.lookup f) (mA f)
 |.rng lo hi=>∃t u v,h.get? a=some {cls:=.type "range",data:=.fields #[.int lo t,.int hi u,.int 1 v]}
 |.frz o u=>h.get? a=?P/\ObjOk H h a u
 |.tab=>∃ps,h.get? a=some (PySem.W.tabObj ps)/\TriplesOk ps.toList/\∀pos cv,codeAmong pos ps.toList=some cv->∃c' oc,cv=.ref c'/\H c'=some (.frz oc (.own a))/\Q5a oc
 |.tbl ps=>h.get? a=some {cls:=.none,data:=.fields ps}
 |.met f x=>h.get? a=some (PySem.W.methodObj (.ref f) (.ref x))
 |.ext φ=>φ h/\(∃o,h.get? a=?P)/\∀h1 h2:Heap,φ h1->(∀o,h1.get? a=?P->h2.get? a=?P)->φ h2
def G4 (H:Hp)(h:Heap):Prop:=∀a o,H a=?P->ObjOk P w H h a o
end
section
variable {w:Av}{o:HO}
theorem ObjOk.lt (x:ObjOk P w H h a o):a<h.objs.size:=by
 cases o with
 |lst xs=>obtain⟨_,_,_,_,e⟩:=x;exact aA e
 |tup xs=>obtain⟨_,_,_,p⟩:=x;exact p.lt
 |dK kvs=>obtain⟨_,_,_,_,o,_,_,e,_⟩:=x;exact aA e
 |dT kvs=>obtain⟨_,_,_,_,o,_,_,e,_⟩:=x;exact aA e
 |set S n=>obtain⟨o,_,_,_,e,_⟩:=x;exact aA e
 |ins C dx fs=>obtain⟨_,_,_,e,_⟩:=x;exact aA e
 |own y=>obtain⟨_,e⟩:=x;exact aA e
 |xd fs=>obtain⟨_,⟨_,_,_,e,_⟩,_⟩:=x;exact aA e
 |rng lo hi=>obtain⟨_,_,_,e⟩:=x;exact aA e
 |frz ob u=>obtain⟨e,_⟩:=x;exact aA e
 |tab=>obtain⟨_,e,_⟩:=x;exact aA e
 |tbl ps=>exact aA (show h.get? a=some _ from x)
 |met f y=>exact aA (show h.get? a=some _ from x)
 |ext φ=>obtain⟨_,⟨_,e⟩,_⟩:=x;exact aA e
theorem Y1e {F G:α->β->Prop}:∀{l₁:O α}{l₂:O β},Paired F l₁ l₂->(∀a b,F a b->G a b)->Paired G l₁ l₂:=by
 intro l₁
 induction l₁ with
 |nil=>intro l₂ a f;cases a;exact .nil
 |cons x l ih=>
  intro l₂ a f;cases a with
  |cons r t=>exact .cons (f _ _ r) (ih t f)
theorem ObjOk.stay (x:ObjOk P w H h a o)(k:∀b u,(b=a\/H b=some (.own a))->h.get? b=some u->h'.get? b=some u)
  (ho:∀b u,Q9u a u->H b=some u->H' b=some u) (ht:∀b xs,H b=some (.tup xs)->H' b=some (.tup xs)):ObjOk P w H' h' a o:=by
 induction o with
 |lst xs=>obtain⟨z,aY,n,r,e⟩:=x;exact⟨z,aY,n,r,k _ _ (.inl rfl) e⟩
 |tup xs=>obtain⟨z,aY,r,ob,e,c⟩:=x;exact⟨z,aY,r,ob,k _ _ (.inl rfl) e,c⟩
 |dK kvs=>obtain⟨z,y,vs,r,ob,es,ep,e,c⟩:=x;exact⟨z,y,vs,r,ob,es,ep,k _ _ (.inl rfl) e,c⟩
 |dT kvs=>
  obtain⟨z,y,xs,r,ob,es,ep,e,c⟩:=x;exact⟨z,y,xs,Y1e r fun p q z=>⟨z.1,ht _ _ z.2.1,z.2.2⟩,ob,es,ep,k _ _ (.inl rfl) e,c⟩
 |set S n=>obtain⟨ob,es,ep,t,e,c⟩:=x;exact⟨ob,es,ep,t,k _ _ (.inl rfl) e,c⟩
 |ins C dx fs=>
  obtain⟨d,z,ne,e,mA,⟨od,es,ep,e2,c⟩,r⟩:=x;exact⟨ho _ _ (.inl rfl) d,z,ne,k _ _ (.inl rfl) e,mA,⟨od,es,ep,k _ _ (.inr d) e2,c⟩,r⟩
 |own y=>obtain⟨ob,e⟩:=x;exact⟨ob,k _ _ (.inl rfl) e⟩
 |xd fs=>obtain⟨mA,⟨od,es,ep,e,c⟩,r⟩:=x;exact⟨mA,⟨od,es,ep,k _ _ (.inl rfl) e,c⟩,r⟩
 |rng lo hi=>obtain⟨t,u,v,e⟩:=x;exact⟨t,u,v,k _ _ (.inl rfl) e⟩
 |frz ob u ih=>obtain⟨e,q⟩:=x;exact⟨k _ _ (.inl rfl) e,ih q⟩
 |tab=>
  obtain⟨ps,e,t,en⟩:=x;exact⟨ps,k _ _ (.inl rfl) e,t,fun pos cv q=>let ⟨c',oc,e1,e2,e3⟩:=en pos cv q;⟨c',oc,e1,ho _ _ (.inr ⟨_,rfl⟩) e2,e3⟩⟩
 |tbl ps=>
  have e:h.get? a=some {cls:=.none,data:=.fields ps}:=x;show h'.get? a=some {cls:=.none,data:=.fields ps};exact k a _ (.inl rfl) e
 |met f y=>
  have e:h.get? a=some (PySem.W.methodObj (.ref f) (.ref y)):=x;show h'.get? a=some (PySem.W.methodObj (.ref f) (.ref y));exact k a _ (.inl rfl) e
 |ext φ=>obtain⟨p,⟨o,e⟩,st⟩:=x;exact⟨st _ _ p fun o q=>k _ _ (.inl rfl) q,⟨o,k _ _ (.inl rfl) e⟩,st⟩
def G4.lt (x:G4 P w H h)(e:H a=?P):a<h.objs.size:=(x a o e).lt
theorem G4.fresh (x:G4 P w H h)(e:h.objs.size<=a):H a=none:=by
 cases q:H a with
 |none=>rfl
 |some u=>exact absurd (ay (x.lt q) e) (aS _)
def G4.kept (x:G4 P w H h)(k:∀b u,h.get? b=some u->h'.get? b=some u):G4 P w H h':=fun a o e=>
 (x a o e).stay (fun b u _ q=>k b u q) (fun _ _ _ q=>q) fun _ _ q=>q
def G4.laid (x:G4 P w H h)(k:∀b u,h.get? b=some u->h'.get? b=some u)(hp:h.objs.size<=a)(new:ObjOk P w (A9 H a o) h' a o):G4 P w (A9 H a o) h':=fun b u e=>by
 have hn:=x.fresh hp
 by_cases hb:b=a
 ·subst hb;rw[upd_same]at e;cases e;exact new
 ·rw[B2 hb]at e;exact(x b u e).stay (fun c v _ q=>k c v q) (fun c u _ q=>by rw[B2 (Y5 q hn)];exact q) fun c xs q=>by rw[B2 (Y5 q hn)];exact q
end
def Rd (H:Hp)(a:Ap)(u:HO):Prop:=H a=some u\/∃o,H a=some (.frz o u)
def Rd.ok {w:Av}    {u:HO}(r:Rd H a u)(x:G4 P w H h):ObjOk P w H h a u:=by
 rcases r with r |⟨o,r⟩
 ·exact x a u r
 ·obtain⟨_,q⟩:=x a _ r;exact q
def Mut:Am HO->Prop
 |some (.lst _)=>True
 |some (.dK _)=>True
 |some (.dT _)=>True
 |some (.set _ _)=>True
 |some (.ins _ _ _)=>True
 |some (.ext _)=>True
 |some .tab=>True
 |_=>False
section
variable {w:Av}{x e:Ap}{o':HO}
def G4.write (ok:G4 P w H h)(mu:Mut (H x))(he:e=x\/H e=some (.own x))(k:∀b u,b≠e->h.get? b=some u->h'.get? b=some u)(nI:∃u,h'.get? e=some u)
  (new:ObjOk P w (A9 H x o') h' x o'):G4 P w (A9 H x o') h':=fun b u q=>by
 have rA:∀c y,H c=some (.own y)->c≠x:=fun c y r z=>by subst z;rw[r]at mu;exact mu
 have ou:∀c u y,Q9u y u->H c=some u->c≠x:=fun c u y ow r z=>by
  subst z;rw[r]at mu;rcases ow with rfl |⟨o,rfl⟩
  ·exact mu
  ·exact mu
 have rq:∀c xs,H c=some (.tup xs)->c≠x:=fun c xs r z=>by subst z;rw[r]at mu;exact mu
 by_cases hb:b=x
 ·subst hb;rw[upd_same]at q;cases q;exact new
 ·rw[B2 hb]at q
  by_cases hbe:b=e
  ·have q':H b=some (.own x):=by
    rcases he with z |z
    ·exact absurd (hbe.trans z) hb
    ·rw[hbe];exact z
   rw[q]at q';cases q';obtain⟨v,hv⟩:=nI;exact⟨v,by rw[hbe];exact hv⟩
  ·refine(ok b u q).stay (fun c v hc r=>k c v ?_ r) (fun c u ow r=>by rw[B2 (ou c u b ow r)];exact r) fun c xs r=>by rw[B2 (rq c xs r)];exact r
   rcases hc with rfl |hc
   ·exact hbe
   ·rintro rfl;rcases he with z |z
    ·exact rA c b hc z
    ·rw[hc]at z;cases z;exact hb rfl
end
structure Un (fs ex:O Ap)(H H':Hp)(h h':Heap):Prop where
 keep:∀b o,h.get? b=?P->H b=none->b∉fs->b∉ex->h'.get? b=?P
 slot:∀b o,h.get? b=?P->H b=none->b∈fs->b∉ex->∃sl,h'.get? b=some {o with slots:=sl}
 free:∀b o,h.get? b=?P->H b=none->b∉ex->H' b=none
 there:∀b o,h.get? b=?P->b∉ex->∃o',h'.get? b=some o'
 tups:∀b xs,H b=some (.tup xs)->H' b=some (.tup xs)
 frzs:∀b o u,H b=some (.frz o u)->H' b=some (.frz o u)
 tbls:∀b ps,H b=some (.tbl ps)->∃more,H' b=some (.tbl (ps++more))
section
variable {fs ex:O Ap}{h1:Heap}{x e:Ap}{o:HO}
def Un.any (u:Un fs ex H H1 h h1)  {ob:Obj}(q:h.get? b=some ob)(n:H b=none)(hx:b∉ex):∃sl,h1.get? b=some {ob with slots:=sl}:=by
 by_cases hb:b∈fs
 ·exact u.slot b ob q n hb hx
 ·exact⟨ob.slots,u.keep b ob q n hb hx⟩
def Un.kept (k:∀b u,h.get? b=some u->h'.get? b=some u):Un fs ex H H h h':=
 ⟨fun b ob q _ _ _=>k b ob q,fun b ob q _ _ _=>⟨ob.slots,k b ob q⟩,fun _ _ _ n _=>n,fun b ob q _=>⟨ob,k b ob q⟩,fun _ _ q=>q,fun _ _ _ q=>q,fun _ ps q=>⟨#[],by rw[q];simp⟩⟩
def Un.refl:Un fs ex H H h h:=Un.kept fun _ _ q=>q
def Un.laid (k:∀b u,h.get? b=some u->h'.get? b=some u)(hp:h.objs.size<=a)(hn:H a=none):Un fs ex H (A9 H a o) h h' where
 keep:=fun b u q _ _ _=>k b u q
 slot:=fun b u q _ _ _=>⟨u.slots,k b u q⟩
 free:=fun b u q n _=>by rw[B2 (aB (ay (aA q) hp))];exact n
 there:=fun b u q _=>⟨u,k b u q⟩
 tups:=fun b xs q=>by rw[B2 (Y5 q hn)];exact q
 frzs:=fun b u xs q=>by rw[B2 (Y5 q hn)];exact q
 tbls:=fun b ps q=>⟨#[],by rw[B2 (Y5 q hn),q];simp⟩
def Un.write (mu:Mut (H x))(he:e=x\/H e=some (.own x))(k:∀b u,b≠e->h.get? b=some u->h'.get? b=some u)(nI:∃u,h'.get? e=some u):Un fs ex H (A9 H x o) h h':=by
 have hx:∀b,H b=none->b≠x:=fun b n z=>by subst z;rw[n]at mu;exact mu
 have hb:∀b,H b=none->b≠e:=fun b n z=>by
  subst z;rcases he with r |r
  ·exact hx b n r
  ·rw[n]at r;cases r
 have hm:∀b u,H b=some u->¬ Mut (some u)->b≠x:=fun b u q nm z=>by subst z;rw[q]at mu;exact nm mu
 refine⟨fun b u q n _ _=>k b u (hb b n) q,fun b u q n _ _=>⟨u.slots,k b u (hb b n) q⟩,fun b u q n _=>by rw[B2 (hx b n)];exact n,fun b u q _=>?_,
  fun b xs q=>by rw[B2 (hm b _ q fun z=>z)];exact q,fun b u xs q=>by rw[B2 (hm b _ q fun z=>z)];exact q,fun b ps q=>⟨#[],by rw[B2 (hm b _ q fun z=>z),q];simp⟩⟩
 by_cases hbe:b=e
 ·subst hbe;exact nI
 ·exact⟨u,k b u hbe q⟩
end
def trk (h:Heap)(H:Hp):O Ap:=(List.range h.objs.size).filter fun a=>(H a).isSome
def Q2j (h:Heap)(H:Hp):Heap:=PySem.W.hideAll h (trk h H)
def W7f (h:Heap)(H:Hp):(Q2j h H).objs.size=h.objs.size:=PySem.W.hideAll_size _ _
def W7e {o:Obj}(e:h.get? b=?P)(n:H b=none):(Q2j h H).get? b=?P:=
 gB _ e fun hm=>by
  have q:(H b).isSome=true:=(br.mp hm).2;rw[n]at q;simp at q
theorem V1o {o:Obj}(e:(Q2j h H).get? b=?P):h.get? b=?P/\H b=none:=by
 have e':h.get? b=?P:=hZ (trk h H) e;refine⟨e',?_⟩;cases q:H b with
 |none=>rfl
 |some x=>
  have hm:b∈trk h H:=br.mpr ⟨aL.mpr (aA e'),by simp[q]⟩;have z:(Q2j h H).get? b=none:=cD (trk h H) hm;rw[z]at e;cases e
structure Mod (K:Fg9)(mg:Str->Am An)(base:Heap):Prop where
 kin:K.In base
 glob:base.Ns mainGlobals mg
 blt:∃mb,base.Ns builtinsNs mb/\∀x:Str,x≠"__name__"->mb x=bootBuiltins x
 nolimit:base.NoLimit
structure Cx where
 prog:Au
 w:Av
 K:Fg9
 mg:Str->Am An
 base:Heap
 A:As
 N:O Str
 s₀:Ao
 H₀:Hp
 env:Env
 outer:O Env
 stack:O Env
 ex:O Ap
 fn:Str->Bool
 calm:Bool
 pn:Pn9
 xe:VS9
variable {X Y:Cx}
def F3 (l:O Env):O Ap:=l.filterMap (·.frame)
abbrev Cx.fs (X:Cx):O Ap:=F3 X.outer
def Vis (sc:Scope)(x:Str):Prop:=sc.names.lookup x=some .local\/sc.names.lookup x=some .cell\/sc.names.lookup x=some .free
def Loc (sc:Scope)(x:Str):Prop:=sc.names.lookup x=some .local\/sc.names.lookup x=some .cell
def Look (env:Env)(h:Heap)(m:Str->Am An)(x:Str)(u:An):Prop:=
 (env.kindOf x=some .local/\m x=some u)\/((env.kindOf x=some .cell\/env.kindOf x=some .free)/\∃c,env.cells.lookup x=some c/\h.IsCell c (some u))
structure Cx.Ok (X:Cx):Prop where
 mod:Mod X.K X.mg X.base
 kind:X.env.scope.kind=.function
 glob:X.env.globals=mainGlobals
 blt:X.env.builtins=builtinsNs
 above:X.s₀.heap.objs.size<=X.env.locals
 inj:∀x y c,?Z->X.env.cells.lookup y=some c->x=y
 has:∀x,(X.env.kindOf x=some .cell\/X.env.kindOf x=some .free)->∃c,?Z
 cab:∀x c,X.fn x=true->?Z->X.s₀.heap.objs.size<=c
 hd:X.calm=true->X.A.handled=none
 frames:X.A.frames=some X.stack
 stk:X.stack=X.outer\/(X.stack=X.env::X.outer/\X.env.frame=some X.env.locals)
 exf:∀b∈X.ex,b≠X.env.locals/\∀x c,?Z->c≠b
 bs:∀b o,X.base.get? b=?P->X.s₀.heap.get? b=?P/\X.H₀ b=none
 bsz:X.base.objs.size<=X.s₀.heap.objs.size
 noex:∀b o,X.base.get? b=?P->b∉X.ex
 exfs:∀b∈X.ex,b∉X.fs
 funs:X.s₀.heap.FunFrames X.base X.outer
 frf:∀b∈X.fs,X.H₀ b=none
structure A0 (X:Cx)(ae:Pn9)(σ:O (Am V))(H:Hp)(s:Ao):Prop where
 ok:X.Ok
 os:s.os=X.s₀.os
 bare:AllBare s.gens
 base:Un X.fs X.ex X.H₀ H X.s₀.heap s.heap
 loc:∃m,s.heap.Ns X.env.locals m/\∀(i:Nat) (x:Str) (v:V),X.N[i]?=some x->σ[i]?=some (some v)->Vis X.env.scope x->∃u,C4 v u/\Look X.env s.heap m x u
 cell:∀x c,?Z->∃v,s.heap.IsCell c v
 free:H X.env.locals=none
 freeC:∀x c,?Z->H c=none
 pin:∀p∈X.pn++ae,s.heap.get? p.1=some p.2/\H p.1=none/\p.1≠X.env.locals/\p.1∉X.fs/\∀v,p.2.data≠.cell v
 hok:G4 X.prog X.w H s.heap
 len:σ.length=X.N.length
section
variable {σ:O (Am V)}
def Cx.Ok.nofr (ok:X.Ok)  {o:Obj}(e:X.base.get? b=?P):b∉X.fs:=fun hb=>by
 have:=(ok.funs.mem hb).1;rw[e]at this;cases this
def A0.bs (I:?A):∀b o,X.base.get? b=?P->?A6=?P/\H b=none:=fun b o e=>
 ⟨I.base.keep b o (I.ok.bs b o e).1 (I.ok.bs b o e).2 (I.ok.nofr e) (I.ok.noex b o e),I.base.free b o (I.ok.bs b o e).1 (I.ok.bs b o e).2 (I.ok.noex b o e)⟩
def A0.bk (I:?A):∀b o,X.base.get? b=?P->?A6=?P:=fun b o e=>(I.bs b o e).1
def A0.mod (I:?A):Mod X.K X.mg X.base:=I.ok.mod
def A0.kIn (I:?A):X.K.In s.heap:=I.ok.mod.kin.keeps I.bk
def A0.lt (I:?A):X.env.locals<s.heap.objs.size:=let ⟨_,hn,_⟩:=I.loc;hn.lt
def A0.sz (I:?A):X.s₀.heap.objs.size<=s.heap.objs.size:=aU I.ok.above (dP I.lt)
def A0.nofs (I:?A)  (h:s.heap.objs.size<=a):a∉X.fs:=fun hb=>by
 obtain⟨_,o,ho,_⟩:=I.ok.funs.mem hb;exact absurd (ay (aA ho) (aU I.sz h)) (aS _)
def A0.cne (I:?A):∀x c,?Z->c≠X.env.locals:=fun x c e z=>by
 obtain⟨v,o,ho,hd⟩:=I.cell x c e;obtain⟨m,⟨o',es,ep,mU,y7,_⟩,_⟩:=I.loc;rw[z,mU]at ho;cases ho;rw[y7]at hd;cases hd
def A0.funs (I:?A):s.heap.FunFrames X.base X.outer:=by
 have all:∀(l:O Env),(∀b∈F3 l,b∈X.fs)->X.s₀.heap.FunFrames X.base l->s.heap.FunFrames X.base l:=by
  intro l
  induction l with
  |nil=>intro _ _;trivial
  |cons env r ih=>
   intro hs hl;obtain⟨hk,⟨L,o,hf,hn,ho,hd⟩,hr⟩:=hl;have hL:L∈X.fs:=hs L (by unfold F3;rw[bK,hf];exact aj);obtain⟨sl,e⟩:=I.base.slot L o ho (I.ok.frf L hL) hL fun z=>I.ok.exfs L z hL;exact⟨hk,⟨L,_,hf,hn,e,hd⟩,ih (fun b hb=>hs b (by unfold F3;rw[bK,hf];exact ag _ hb)) hr⟩
 exact all X.outer (fun _ hb=>hb) I.ok.funs
def A0.stack (I:?A):s.heap.FunFrames X.base X.stack:=by
 rcases I.ok.stk with e |⟨e,hf⟩
 ·rw[e];exact I.funs
 ·rw[e];obtain⟨m,hn,_⟩:=I.loc;refine .cons (by rw[I.ok.kind];decide) hf hn ?_ I.funs;exact Heap.get?_none_of_le (aU I.ok.bsz I.ok.above)
def A0.stkSub (I:?A):∀b∈F3 X.stack,b∈X.env.locals::X.fs:=fun b hb=>by
 rcases I.ok.stk with e |⟨e,hf⟩
 ·rw[e]at hb;exact ag _ hb
 ·rw[e]at hb;unfold F3 at hb;rw[bK,hf]at hb;exact hb
def A0.stkFree (I:?A):∀b∈F3 X.stack,H b=none:=fun b hb=>by
 rcases ar.mp (I.stkSub b hb)with e |hb
 ·rw[e];exact I.free
 ·obtain⟨_,o,ho,_⟩:=I.ok.funs.mem hb;exact I.base.free b o ho (I.ok.frf b hb) fun z=>I.ok.exfs b z hb
def A0.step {d':Drawn}  (I:?A)
  (kF:∀b∈ch,(b∈X.ex\/X.s₀.heap.objs.size<=b)/\b≠X.env.locals/\(∀x c,?Z->c≠b)/\∀p∈X.pn++ae,p.1≠b)
  (keep:∀b o,b≠X.env.locals->b∉X.fs->b∉ch->?A6=?P->H b=none->h'.get? b=?P)
  (slot:∀b o,b≠X.env.locals->b∈X.fs->b∉ch->?A6=?P->H b=none->∃sl,h'.get? b=some {o with slots:=sl}) (free:∀b o,b∉ch->?A6=?P->H b=none->H' b=none)
  (there:∀b o,b∉ch->?A6=?P->∃o',h'.get? b=some o')
  (tups:∀b xs,H b=some (.tup xs)->H' b=some (.tup xs)) (frzs:∀b o u,H b=some (.frz o u)->H' b=some (.frz o u)) (tbls:∀b ps,H b=some (.tbl ps)->∃more,H' b=some (.tbl (ps++more)))
  (ns:∀m,s.heap.Ns X.env.locals m->h'.Ns X.env.locals m) (hok:G4 X.prog X.w H' h') (hg:AllBare g'):
  A0 X ae σ H' {s with heap:=h',gens:=g',drawn:=d',toks:=t'}:=by
 have uw:∀b o,X.s₀.heap.get? b=?P->b≠X.env.locals:=fun b o e=>aB (ay (aA e) I.ok.above);have ko:∀b o,X.s₀.heap.get? b=?P->b∉X.ex->b∉ch:=fun b o e hx hb=>by
  rcases (kF b hb).1 with z |z
  ·exact hx z
  ·exact absurd (ay (aA e) z) (aS _)
 have ip:∀x c,?Z->∀v,s.heap.IsCell c v->h'.IsCell c v:=fun x c e v ⟨o,ho,hd⟩=>by
  have oy:c∉ch:=fun z=>(kF c z).2.2.1 x c e rfl
  by_cases hc:c∈X.fs
  ·obtain⟨sl,q⟩:=slot c o (I.cne x c e) hc oy ho (I.freeC x c e);exact⟨_,q,hd⟩
  ·exact⟨o,keep c o (I.cne x c e) hc oy ho (I.freeC x c e),hd⟩
 refine⟨I.ok,I.os,hg,⟨fun b o e n hb hx=>?_,fun b o e n hb hx=>?_,fun b o e n hx=>?_,fun b o e hx=>?_,fun b xs e=>tups b xs (I.base.tups b xs e),fun b o xs e=>frzs b o xs (I.base.frzs b o xs e),fun b ps e=>?_⟩,?_,fun x c e=>?_,?_,fun x c e=>?_,fun p hp=>?_,hok,I.len⟩
 ·exact keep b o (uw b o e) hb (ko b o e hx) (I.base.keep b o e n hb hx) (I.base.free b o e n hx)
 ·obtain⟨sl,e1⟩:=I.base.slot b o e n hb hx;obtain⟨wq,e2⟩:=slot b _ (uw b o e) hb (ko b o e hx) e1 (I.base.free b o e n hx);exact⟨wq,e2⟩
 ·obtain⟨o',e1⟩:=I.base.there b o e hx;exact free b o' (ko b o e hx) e1 (I.base.free b o e n hx)
 ·obtain⟨o',e1⟩:=I.base.there b o e hx;exact there b o' (ko b o e hx) e1
 ·obtain⟨m1,e1⟩:=I.base.tbls b ps e;obtain⟨m2,e2⟩:=tbls b _ e1;exact⟨m1++m2,by rw[e2,Array.append_assoc]⟩
 ·obtain⟨m,hn,hl⟩:=I.loc;refine⟨m,ns m hn,fun i x v e1 e2 e3=>?_⟩;obtain⟨u,r,l⟩:=hl i x v e1 e2 e3;refine⟨u,r,?_⟩;rcases l with l |⟨k,c,e,z⟩
  ·exact .inl l
  ·exact .inr ⟨k,c,e,ip x c e _ z⟩
 ·obtain⟨v,z⟩:=I.cell x c e;exact⟨v,ip x c e v z⟩
 ·obtain⟨m,⟨o,_,_,ho,_⟩,_⟩:=I.loc;exact free _ o (fun z=>(kF _ z).2.1 rfl) ho I.free
 ·obtain⟨v,o,ho,hd⟩:=I.cell x c e;exact free c o (fun z=>(kF c z).2.2.1 x c e rfl) ho (I.freeC x c e)
 ·obtain⟨e,n,ne,nf,d⟩:=I.pin p hp;have oy:p.1∉ch:=fun z=>(kF p.1 z).2.2.2 p hp rfl;exact⟨keep p.1 p.2 ne nf oy e n,free p.1 p.2 oy e n,ne,nf,d⟩
def A0.un (I:?A)(u:Un X.fs [] H H' s.heap h')(hok:G4 X.prog X.w H' h'):A0 X ae σ H' {s with heap:=h',toks:=t'}:=by
 obtain⟨m,⟨o,es,ep,ho,r⟩,_⟩:=id I.loc;obtain⟨sl,hL⟩:=u.any ho I.free ?E;exact I.step (g':=s.gens) (d':=s.drawn) (ch:=[]) (fun _ z=>nomatch z) (fun b o _ hb _ e n=>u.keep b o e n hb ?E) (fun b o _ hb _ e n=>u.slot b o e n hb ?E) (fun b o _ e n=>u.free b o e n ?E) (fun b o _ e=>u.there b o e ?E) u.tups u.frzs u.tbls (fun m' hm=>by
  obtain⟨o',io,tL,mU,r'⟩:=hm;rw[ho]at mU;cases mU;exact⟨_,io,tL,hL,r'⟩) hok I.bare
def A0.call {d':Drawn}  (I:?A)(u:Un (F3 X.stack) ch H H' s.heap h')(hok:G4 X.prog X.w H' h')(hg:AllBare g')
  (kF:∀b∈ch,(b∈X.ex\/X.s₀.heap.objs.size<=b)/\b≠X.env.locals/\(∀x c,?Z->c≠b)/\∀p∈X.pn++ae,p.1≠b):
  A0 X ae σ H' {s with heap:=h',gens:=g',drawn:=d',toks:=t'}:=by
 obtain⟨m,⟨o,es,ep,ho,r⟩,_⟩:=id I.loc;obtain⟨sl,hL⟩:=u.any ho I.free fun z=>(kF _ z).2.1 rfl;exact I.step (ch:=ch) kF (fun b o hL hb hc e n=>u.keep b o e n (fun z=>(ar.mp (I.stkSub b z)).elim hL hb) hc) (fun b o _ _ hc e n=>u.any e n hc) (fun b o hc e n=>u.free b o e n hc) (fun b o hc e=>u.there b o e hc) u.tups u.frzs u.tbls (fun m' hm=>by
  obtain⟨o',io,tL,mU,r'⟩:=hm;rw[ho]at mU;cases mU;exact⟨_,io,tL,hL,r'⟩) hok hg
def A0.turned (I:?A)(k:∀b o,b≠it->?A6=?P->h'.get? b=?P)(hn:H it=none)(hL:it≠X.env.locals)
  (h1:it∈X.ex\/X.s₀.heap.objs.size<=it) (h2:∀x c,?Z->c≠it) (h3:∀p∈X.pn++ae,p.1≠it):A0 X ae σ H {s with heap:=h',toks:=t'}:=by
 have lN:∀b u,H b=some u->b≠it:=fun b u e z=>by rw[z,hn]at e;cases e
 refine I.step (g':=s.gens) (d':=s.drawn) (ch:=[it]) (fun b hb=>?_) (fun b o _ _ hc e _=>k b o (fun z=>hc (by simp[z])) e) (fun b o _ _ hc e _=>⟨o.slots,k b o (fun z=>hc (by simp[z])) e⟩) (fun _ _ _ _ n=>n)
  (fun b o hc e=>⟨o,k b o (fun z=>hc (by simp[z])) e⟩) (fun _ _ e=>e) (fun _ _ _ e=>e) (fun b ps e=>⟨#[],by rw[e];simp⟩) (fun m hm=>?_) (fun b u e=>?_) I.bare
 ·have e:b=it:=by simpa using hb
  subst e;exact⟨h1,hL,h2,h3⟩
 ·obtain⟨o,es,ep,ho,r⟩:=hm;exact⟨o,es,ep,k _ o (bN hL) ho,r⟩
 ·refine(I.hok b u e).stay (fun c v hc q=>k c v ?_ q) (fun _ _ _ q=>q) fun _ _ q=>q;rcases hc with z |z
  ·rw[z];exact lN b u e
  ·exact lN c _ z
def A0.tok (I:?A)(t:Nat):A0 X ae σ H {s with toks:=t}:=I.un (h':=s.heap) (t':=t) Un.refl I.hok
def A0.kept (I:?A)(k:∀b u,?A6=some u->h'.get? b=some u):A0 X ae σ H {s with heap:=h',toks:=t'}:=I.un (Un.kept k) (I.hok.kept k)
def A0.laid {o:HO}  (I:?A)(k:∀b u,?A6=some u->h'.get? b=some u)(hp:s.heap.objs.size<=a)(new:ObjOk X.prog X.w (A9 H a o) h' a o):
  A0 X ae σ (A9 H a o) {s with heap:=h',toks:=t'}:=I.un (Un.laid k hp (I.hok.fresh hp)) (I.hok.laid k hp new)
def A0.write {x e:Ap}{o:HO}  (I:?A)(mu:Mut (H x))(he:e=x\/H e=some (.own x))(k:∀b u,b≠e->?A6=some u->h'.get? b=some u)(nI:∃u,h'.get? e=some u)
  (new:ObjOk X.prog X.w (A9 H x o) h' x o):A0 X ae σ (A9 H x o) {s with heap:=h',toks:=t'}:=I.un (Un.write mu he k nI) (I.hok.write mu he k nI new)
def A0.pins_of (I:?A)(h:∀p∈lL,s.heap.get? p.1=some p.2/\H p.1=none/\p.1≠X.env.locals/\p.1∉X.fs/\∀v,p.2.data≠.cell v):A0 X lL σ H s:=
 ⟨I.ok,I.os,I.bare,I.base,I.loc,I.cell,I.free,I.freeC,fun p hp=>(aN.mp hp).elim (fun z=>I.pin p (ba _ z)) (h p),I.hok,I.len⟩
theorem Y5z (hN:N.Nodup){i j:Nat}  (a:N[i]?=some x)(b:N[j]?=some x):i=j:=by grind [Ag]
def Z1y {i:Nat}  {v:V}  {Q:Unit->Ao->Prop}(I:?A)(hN:X.N.Nodup)(hi:X.N[i]?=some x)(hx:Loc X.env.scope x)(r:C4 v u)
  (h:∀s',A0 X ae (σ.set i (some v)) H s'->(∃a,Heap.SameBut a s.heap s'.heap/\(a=X.env.locals\/X.env.cells.lookup x=some a))->Q () s') (hf:?J:=by sleep 1):wpAny Al A (storeName X.env x u) Q E s:=by
 obtain⟨m,hn,hl⟩:=id I.loc;have lh:(X.env.scope.kind==.class||(X.env.scope.kind==.module&&X.env.locals != X.env.globals))=false:=by rw[I.ok.kind];rfl
 have hiσ:i<σ.length:=by rw[I.len];exact(aD.mp hi).1
 have cne:=I.cne;have tracked:∀{a:Ap}{h':Heap},(∃o,s.heap.get? a=?P/\H a=none)->Heap.SameBut a s.heap h'->G4 X.prog X.w H h':=fun {a h'} ha hs b ob e=>by
  obtain⟨_,_,gx⟩:=ha;refine(I.hok b ob e).stay (fun c w' hc q=>(hs.2 c ?_).trans q) (fun _ _ _ q=>q) fun _ _ q=>q;rintro rfl;rcases hc with rfl |hc
  ·rw[gx]at e;cases e
  ·rw[gx]at hc;cases hc
 rcases hx with hk |hk
 ·refine wpAny_storeName_local hk hn (fun h' xJ hs=>?_) lh;obtain⟨oL,_,_,xH,_⟩:=id hn;refine h _ ⟨I.ok,I.os,I.bare,⟨fun b o e n hb hx=>?_,fun b o e n hb hx=>?_,I.base.free,fun b o e hx=>?_,I.base.tups,I.base.frzs,I.base.tbls⟩,⟨_,xJ,fun j y v' e1 e2 e3=>?_⟩,fun y c e=>?_,I.free,I.freeC,fun p hp=>?_,tracked ⟨oL,xH,I.free⟩ hs,by simpa using I.len⟩ ⟨_,hs,.inl rfl⟩
  ·exact(hs.2 b (aB (ay (aA e) I.ok.above))).trans (I.base.keep b o e n hb hx)
  ·obtain⟨sl,e1⟩:=I.base.slot b o e n hb hx;exact⟨sl,(hs.2 b (aB (ay (aA e) I.ok.above))).trans e1⟩
  ·obtain⟨o',e1⟩:=I.base.there b o e hx;exact⟨o',(hs.2 b (aB (ay (aA e) I.ok.above))).trans e1⟩
  ·by_cases hj:j=i
   ·subst hj;rw[hi]at e1;cases e1;rw[bf hiσ]at e2;cases e2;exact⟨u,r,.inl ⟨hk,by simp⟩⟩
   ·rw[aM (bN hj)]at e2;obtain⟨u',r',q⟩:=hl j y v' e1 e2 e3;refine⟨u',r',?_⟩;rcases q with⟨k,e⟩ |⟨k,c,e,z⟩
    ·refine .inl ⟨k,?_⟩;have:y≠x:=fun e=>hj (Y5z hN e1 (e▸hi));simp[this,e]
    ·exact .inr ⟨k,c,e,z.sameBut hs (cne y c e)⟩
  ·obtain⟨w',z⟩:=I.cell y c e;exact⟨w',z.sameBut hs (cne y c e)⟩
  ·obtain⟨e,n,ne,nf,d⟩:=I.pin p hp;exact⟨(hs.2 p.1 ne).trans e,n,ne,nf,d⟩
 ·have lX:X.fn x=true:=by
   rcases hf with z |z
   ·exact z
   ·rw[z]at hk;cases hk
  obtain⟨c,hc⟩:=I.ok.has x (.inl hk);obtain⟨w',z⟩:=I.cell x c hc;refine wpAny_storeName_cell I.ok.kind hk hc z (fun h' fe hs=>?_);obtain⟨oc,fX,sB⟩:=id z;refine h {s with heap:=h'} ⟨I.ok,I.os,I.bare,⟨fun b o e n hb hx=>?_,fun b o e n hb hx=>?_,I.base.free,fun b o e hx=>?_,I.base.tups,I.base.frzs,I.base.tbls⟩,⟨m,hn.sameBut hs (bN (cne x c hc)),fun j y v' e1 e2 e3=>?_⟩,fun y c' e=>?_,I.free,I.freeC,fun p hp=>?_,tracked ⟨oc,fX,I.freeC x c hc⟩ hs,by simpa using I.len⟩ ⟨c,hs,.inr hc⟩
  ·exact(hs.2 b (aB (ay (aA e) (I.ok.cab x c lX hc)))).trans (I.base.keep b o e n hb hx)
  ·obtain⟨sl,e1⟩:=I.base.slot b o e n hb hx;exact⟨sl,(hs.2 b (aB (ay (aA e) (I.ok.cab x c lX hc)))).trans e1⟩
  ·obtain⟨o',e1⟩:=I.base.there b o e hx;exact⟨o',(hs.2 b (aB (ay (aA e) (I.ok.cab x c lX hc)))).trans e1⟩
  ·by_cases hj:j=i
   ·subst hj;rw[hi]at e1;cases e1;rw[bf hiσ]at e2;cases e2;exact⟨u,r,.inr ⟨.inl hk,c,hc,fe⟩⟩
   ·rw[aM (bN hj)]at e2;obtain⟨u',r',q⟩:=hl j y v' e1 e2 e3;refine⟨u',r',?_⟩;rcases q with q |⟨k,c',e,z'⟩
    ·exact .inl q
    ·refine .inr ⟨k,c',e,z'.sameBut hs ?_⟩;rintro rfl;exact hj (Y5z hN e1 (I.ok.inj _ _ _ e hc▸hi))
  ·by_cases iQ:c'=c
   ·subst iQ;exact⟨_,fe⟩
   ·obtain⟨w2,z2⟩:=I.cell y c' e;exact⟨w2,z2.sameBut hs iQ⟩
  ·obtain⟨e,n,ne,nf,d⟩:=I.pin p hp;refine⟨(hs.2 p.1 ?_).trans e,n,ne,nf,d⟩;intro q;rw[q,fX]at e;have q':oc=p.2:=aC e;exact d w' (by rw[<-q'];exact sB)
def Z7t {i:Nat}  {v:V}  {Q:Unit->Ao->Prop}(I:?A)(hN:X.N.Nodup)(hi:X.N[i]?=some x)(hx:Loc X.env.scope x)(r:C4 v u)
  (h:∀s',A0 X ae (σ.set i (some v)) H s'->Q () s') (hf:?J:=by sleep 1):wpAny Al A (storeName X.env x u) Q E s:=
 Z1y I hN hi hx r (fun s' I' _=>h s' I') hf
def A0.call' (I:?A)(ho:s'.os=s.os)(u:Un (F3 X.stack) ch H H' s.heap s'.heap)(hok:G4 X.prog X.w H' s'.heap)(hg:AllBare s'.gens)
  (kF:∀b∈ch,(b∈X.ex\/X.s₀.heap.objs.size<=b)/\b≠X.env.locals/\(∀x c,?Z->c≠b)/\∀p∈X.pn++ae,p.1≠b):A0 X ae σ H' s':=by
 obtain⟨h',g',d',t',o'⟩:=s';have e:o'=s.os:=ho;subst e;exact I.call (g':=g') (t':=t') (d':=d') u hok hg kF
end
abbrev XK:=An->Am Ap->Hp->Prop
abbrev St:=O (Am V)
abbrev VK:=V->Hp->Prop
variable {kQ:V->V->Hp->VK->Prop}{r r':V->Am Int->Am Int->Hp->VK->Prop}
abbrev TE:=St->Hp->VK->Prop
variable {ta te td ty:TE}{lG:O (TE×TE)}
abbrev TT:=St->Hp->(Bool->Hp->Prop)->Prop
abbrev TA:=St->Hp->(O V->Hp->Prop)->Prop
structure Q3s where
 nx:St->Hp->Prop
 rt:VK
 bk:St->Hp->Prop:=?A4
 ct:St->Hp->Prop:=?A4
abbrev TS:=Q3s->St->Hp->Prop
variable {th:Ap->Ap->TS}
def EP (X:Cx)(ae:Pn9)(σ:St)(Q:VK)(u:An)(s':Ao):Prop:=∃v H',A0 X ae σ H' s'/\C4 v u/\Q v H'
def TP (X:Cx)(ae:Pn9)(σ:St)(Q:Bool->Hp->Prop)(b:Bool)(s':Ao):Prop:=∃H',A0 X ae σ H' s'/\Q b H'
def AP (X:Cx)(ae:Pn9)(σ:St)(Q:O V->Hp->Prop)(us:O An)(s':Ao):Prop:=∃vs H',A0 X ae σ H' s'/\C0 vs us/\Q vs H'
def SP (X:Cx)(ae:Pn9)(D:Q3s)(f:Flow)(s':Ao):Prop:=
 match f with
 |.next=>∃ σ' H',A0 X ae σ' H' s'/\D.nx σ' H'
 |.brk=>∃ σ' H',A0 X ae σ' H' s'/\D.bk σ' H'
 |.cont=>∃ σ' H',A0 X ae σ' H' s'/\D.ct σ' H'
 |.ret u=>∃v σ' H',A0 X ae σ' H' s'/\C4 v u/\D.rt v H'
def PE (X:Cx)(e:Aq)(t:TE):Prop:=
 ∀(ae:Pn9) (s:Ao) (σ:St) (H:Hp) (Q:VK),?A->t σ H Q->wpAny ?C X.A (eval e X.env) (EP X ae σ Q) X.xe s
def PT (X:Cx)(e:Aq)(t:TT):Prop:=
 ∀(ae:Pn9) (s:Ao) (σ:St) (H:Hp) (Q:Bool->Hp->Prop),?A->t σ H Q->wpAny ?C X.A (isTrue e X.env (eval e X.env)) (TP X ae σ Q) X.xe s
def PW (X:Cx)(e:Aq)(t:TT):Prop:=
 ∀(whole:Sem An) (ae:Pn9) (s:Ao) (σ:St) (H:Hp) (Q:Bool->Hp->Prop),?A->t σ H Q->wpAny ?C X.A (isTrue e X.env whole) (TP X ae σ Q) X.xe s
def PW.pt {t:TT}(h:PW X e t):PT X e t:=h _
def PA (X:Cx)(es:O Aq)(t:TA):Prop:=
 ∀(pos:Pos) (ae:Pn9) (s:Ao) (σ:St) (H:Hp) (Q:O V->Hp->Prop),?A->t σ H Q->wpAny ?C X.A (spliced (backTo pos (starEach es X.env))) (AP X ae σ Q) X.xe s
def PS (X:Cx)(st:Aw)(t:TS):Prop:=
 ∀(ae:Pn9) (s:Ao) (σ:St) (H:Hp) (D:Q3s),?A->t D σ H->wpAny ?C X.A (exec st X.env) (SP X ae D) X.xe s
def T0 (X:Cx)(st:O Aw)(t:TS):Prop:=
 ∀(ae:Pn9) (s:Ao) (σ:St) (H:Hp) (D:Q3s),?A->t D σ H->wpAny ?C X.A (execs st X.env) (SP X ae D) X.xe s
def B3 {t:Sem α}{Q Q':α->Ao->Prop}     (h:wpAny Al A t Q E s)(hQ:∀a s,Q a s->Q' a s):wpAny Al A t Q' E s:=aP h hQ fun _ _ x=>x
section
def Q0 (i:Nat):TE:=fun σ H Q=>∃v,σ[i]?=some (some v)/\Q v H
def tC (v:V):TE:=fun _ H Q=>Q v H
def V3i {i:Nat}   (hN:X.N[i]?=some x)(hv:Vis X.env.scope x)(hd:?Q:=by decide)(fA:(x==("__classdict__":Str))=false:=by decide):PE X (.Name x pos) (Q0 i):=by
 intro ae s σ H Q I h;obtain⟨v,e,h⟩:=h;obtain⟨m,hn,hl⟩:=I.loc;obtain⟨u,r,l⟩:=hl i x v hN e hv;have fin:EP X ae σ Q u s:=⟨v,H,I,r,h⟩
 rcases l with⟨hk,hm⟩ |⟨hk,c,hc,eZ⟩
 ·exact wpAny_Name (wpAny_loadName_local I.ok.kind hk hn hm fin) hd
 ·rcases hk with hk |hk
  ·exact wpAny_Name (wpAny_loadName_cell I.ok.kind hk hc eZ fin) hd
  ·exact wpAny_Name (wpAny_loadName_free I.ok.kind hk hc eZ fin fA) hd
def V2u {i j pos}:PE X (.Constant (.int i) j pos) (tC (.int i)):=fun _ _ _ H _ I h=>wpAny_Constant_int ⟨.int i,H,I.tok _,⟨_,rfl⟩,h⟩
def V2i {b j pos}:PE X (.Constant (.bool b) j pos) (tC (.bl b)):=fun _ _ _ H _ I h=>Constant_bool ⟨.bl b,H,I,rfl,h⟩
def V2y {j pos}:PE X (.Constant .none j pos) (tC .non):=fun _ _ _ H _ I h=>Constant_none ⟨.non,H,I,rfl,h⟩
def V3f {x j pos}:PE X (.Constant (.str x) j pos) (tC (.str x)):=fun _ _ _ H _ I h=>Calls.Constant_str ⟨.str x,H,I.tok _,⟨_,rfl⟩,h⟩
def Gl (X:Cx)(x:Str):Prop:=X.env.kindOf x=some .globalImplicit
def Q6r {σ:St}      (I:?A)(hg:Gl X x)(hm:X.mg x=some u)(h:Q u s)
  (hd:?Q:=by decide):wpAny ?C X.A (eval (.Name x pos) X.env) Q E s:=
 qR I.ok.kind hg (Calls.loadGlobal_global (by rw[I.ok.glob];exact I.mod.glob.keeps I.bk) hm h) hd
def Q1k {σ:St}      (I:?A)(hg:Gl X x)(hm:X.mg x=none)(hv:bootBuiltins x=some u)(h:Q u s)
  (hn:x≠"__name__":=by decide) (hd:?Q:=by decide):wpAny ?C X.A (eval (.Name x pos) X.env) Q E s:=by
 obtain⟨mb,h1,h2⟩:=I.mod.blt;exact qR I.ok.kind hg (Calls.loadGlobal_builtin (by rw[I.ok.glob];exact I.mod.glob.keeps I.bk) hm (by rw[I.ok.blt];exact h1.keeps I.bk) ((h2 x hn).trans hv) h) hd
def V2s {v:V}   (hg:Gl X x)(hm:X.mg x=some u)(r:C4 v u)(hd:?Q:=by decide):PE X (.Name x pos) (tC v):=
 fun _ _ _ H _ I h=>Q6r I hg hm ⟨v,H,I,r,h⟩ hd
variable {a b:Aq}{tb:TE}
def PC (X:Cx)(op:CmpOp)(a b:Aq)(t:TE):Prop:=
 ∀(ae:Pn9) (s:Ao) (σ:St) (H:Hp) (Q:VK),?A->t σ H Q ->
  wpAny ?C X.A (eval a X.env) (fun v s₁=>wpAny ?C X.A (eval b X.env) (fun u s₂=>wpAny ?C X.A (compareOp op v u) (EP X ae σ Q) X.xe s₂) X.xe s₁) X.xe s
def tB (t:TE):TT:=fun σ H Q=>t σ H fun x H1=>∃c,x=.bl c/\Q c H1
def Y7e {op:CmpOp}{t:TE}(h:PC X op a b t)(h1:behindInMarks op b=false:=by first |exact nobehind _ (?G) (?G) |rfl):PT X (.Compare a [op] [b] pos) (tB t):=by
 intro ae s σ H Q I hw;refine wpAny_isTrue_Compare1 (B3 (h ae s σ H _ I hw) fun v s1 h1=>B3 h1 fun u s2 h2=>B3 h2 fun c s3 bB=>?_) h1;obtain⟨x,H1,I1,r1,q1⟩:=bB;obtain⟨d,rfl,q⟩:=q1;cases r1;exact eB ⟨H1,I1,q⟩
variable {tA pX:TT}{rest:O Aq}
def tAnd (t u:TT):TT:=fun σ H Q=>t σ H fun c H1=>if c=true then u σ H1 Q else Q false H1
def tOr (t u:TT):TT:=fun σ H Q=>t σ H fun c H1=>if c=true then Q true H1 else u σ H1 Q
def tNot (t:TT):TT:=fun σ H Q=>t σ H fun c H1=>Q (!c) H1
theorem V4g (ha:PT X a tA):PW X (.BoolOp .And [a] pos) tA:=by
 intro wh ae s σ H Q I h;refine isTrue_and (B3 (ha ae s σ H Q I h) fun c s1 e=>?_);cases c with
 |true=>exact isTrue_and_nil e
 |false=>exact e
theorem V4i (ha:PT X a tA):PW X (.BoolOp .Or [a] pos) tA:=by
 intro wh ae s σ H Q I h;refine isTrue_or (B3 (ha ae s σ H Q I h) fun c s1 e=>?_);cases c with
 |false=>exact isTrue_or_nil e
 |true=>exact e
theorem V4f (ha:PT X a tA)(hb:PW X (.BoolOp .And (b::rest) pos) pX):PW X (.BoolOp .And (a::b::rest) pos) (tAnd tA pX):=by
 intro wh ae s σ H Q I h;refine isTrue_and (B3 (ha ae s σ H _ I h) fun c s1 bB=>?_);obtain⟨H1,I1,q1⟩:=bB;cases c with
 |true=>exact hb wh ae s1 σ H1 Q I1 q1
 |false=>exact⟨H1,I1,q1⟩
theorem V4h (ha:PT X a tA)(hb:PW X (.BoolOp .Or (b::rest) pos) pX):PW X (.BoolOp .Or (a::b::rest) pos) (tOr tA pX):=by
 intro wh ae s σ H Q I h;refine isTrue_or (B3 (ha ae s σ H _ I h) fun c s1 bB=>?_);obtain⟨H1,I1,q1⟩:=bB;cases c with
 |true=>exact⟨H1,I1,q1⟩
 |false=>exact hb wh ae s1 σ H1 Q I1 q1
def V4d (ha:PT X a tA):PT X (.UnaryOp .Not a pos) (tNot tA):=by
 intro ae s σ H Q I h;exact isTrue_not (ha ae s σ H (fun c H1=>Q (!c) H1) I h)
def tOrV (ta tb:TE):TE:=fun σ H Q=>ta σ H fun x H1=>∃c,x=.bl c/\if c=true then Q (.bl true) H1 else tb σ H1 Q
def V3a {op}{t:TE}(h:PE X a t):PE X (.BoolOp op [a] pos) t:=fun ae s σ H Q I hw=>BoolOp_one (h ae s σ H Q I hw)
theorem V3c (ha:PE X a ta)(hb:PE X (.BoolOp .Or (b::rest) pos) tb):PE X (.BoolOp .Or (a::b::rest) pos) (tOrV ta tb):=by
 intro ae s σ H Q I h;refine BoolOp_or (B3 (ha ae s σ H _ I h) fun v s1 bB=>?_);obtain⟨x,H1,I1,r1,q1⟩:=bB;obtain⟨c,rfl,q1⟩:=q1;cases r1;refine eB ?_;cases c with
 |false=>exact hb ae s1 σ H1 Q I1 q1
 |true=>exact⟨.bl true,H1,I1,rfl,q1⟩
def tIf (t:TT)(ta tb:TE):TE:=fun σ H Q=>t σ H fun c H1=>if c=true then ta σ H1 Q else tb σ H1 Q
theorem V2t {c:Aq}(hc:PT X c tA)(ha:PE X a ta)(hb:PE X b tb):PE X (.IfExp c a b pos) (tIf tA ta tb):=by
 intro ae s σ H Q I h;refine wpAny_IfExp (B3 (hc ae s σ H _ I h) fun d s1 bB=>?_);obtain⟨H1,I1,q1⟩:=bB;cases d with
 |true=>exact ha ae s1 σ H1 Q I1 q1
 |false=>exact hb ae s1 σ H1 Q I1 q1
end
def E8 (K:Fg9)(H:Hp)(a:Ap)(xs:O V):Prop:=
 Rd H a (.lst xs) \/
  ∃(o:Obj) (aY:Array An) (n:Nat),K.lookup a=?P/\o.cls=.type "list"/\o.dict=none/\o.data=.seq aY n/\aY.size<=sizeLine/\C0 xs aY.toList
def D9 (K:Fg9)(H:Hp)(a:Ap)(xs:O V):Prop:=
 Rd H a (.tup xs) \/
  ∃(o:Obj) (aY:Array An) (n:Nat),K.lookup a=?P/\o.cls=.type "tuple"/\o.data=.seq aY n/\aY.size<=sizeLine/\C0 xs aY.toList
def absV:An->Am V
 |.none=>some .non
 |.bool b=>some (.bl b)
 |.int i _=>some (.int i)
 |.str x _=>some (.str x)
 |.bytes b _=>some (.byt b)
 |.float b _=>some (.flt b)
 |.ref a=>some (.ref a)
 |.type n=>some (.ty n)
 |_=>none
theorem C4.abs {x:V}  (r:C4 x u):absV u=some x:=by
 cases x with
 |non=>cases r;rfl
 |bl _=>cases r;rfl
 |int _=>obtain⟨t,rfl⟩:=r;rfl
 |str _=>obtain⟨t,rfl⟩:=r;rfl
 |byt _=>obtain⟨t,rfl⟩:=r;rfl
 |flt _=>obtain⟨t,rfl⟩:=r;rfl
 |ref _=>cases r;rfl
 |ty _=>cases r;rfl
def C4.inj {x:V}  (r:C4 x u)(q:C4 y u):x=y:=aC (r.abs.symm.trans q.abs)
theorem C0.inj:∀{xs ys:O V}{us:O An},C0 xs us->C0 ys us->xs=ys:=by
 intro xs
 induction xs with
 |nil=>intro ys us a b;cases a;cases b;rfl
 |cons x xs ih=>
  intro ys us a b;cases a with
  |cons r t=>
   cases b with
   |cons r' t'=>rw[r.inj r',ih t t']
section
variable {σ:St}
def E8.of {K:Fg9}(h:H a=some (.lst xs)):E8 K H a xs:=.inl (.inl h)
def D9.of {K:Fg9}(h:H a=some (.tup xs)):D9 K H a xs:=.inl (.inl h)
theorem A0.list (I:?A)(h:E8 X.K H a xs):∃aY:O An,C0 xs aY/\PlainL s.heap a aY.toArray/\xs.length<=sizeLine:=by
 rcases h with h |⟨o,aY,n,hk,hc,hd,hs,hz,r⟩
 ·obtain⟨z,aY,n,r,e⟩:=h.ok I.hok;exact⟨aY,r,⟨_,n,e,rfl,rfl,rfl⟩,z⟩
 ·refine⟨aY.toList,r,⟨o,n,I.kIn a o hk,hc,hd,by simpa using hs⟩,?_⟩;have e:=r.length;simp only[db]at e;lia
theorem A0.tuple (I:?A)(h:D9 X.K H a xs):∃aY:O An,C0 xs aY/\IsTup s.heap a aY.toArray/\xs.length<=sizeLine:=by
 rcases h with h |⟨o,aY,n,hk,hc,hs,hz,r⟩
 ·obtain⟨z,aY,r,p⟩:=h.ok I.hok;exact⟨aY,r,p,z⟩
 ·refine⟨aY.toList,r,⟨o,I.kIn a o hk,hc,n,by simpa using hs⟩,?_⟩;have e:=r.length;simp only[db]at e;lia
def A0.list_inj (I:?A)(h:E8 X.K H a xs)(h':E8 X.K H a ys):xs=ys:=by
 obtain⟨aY,r,⟨o,n,e,_,_,d⟩,_⟩:=I.list h;obtain⟨its',r',⟨o',n',e',_,_,d'⟩,_⟩:=I.list h';rw[e]at e';cases e';rw[d]at d';injection d' with d1 _
 have:aY=its':=by simpa using congrArg Array.toList d1
 subst this;exact r.inj r'
def A0.tuple_inj (I:?A)(h:D9 X.K H a xs)(h':D9 X.K H a ys):xs=ys:=by
 obtain⟨aY,r,⟨o,e,_,n,d⟩,_⟩:=I.tuple h;obtain⟨its',r',⟨o',e',_,n',d'⟩,_⟩:=I.tuple h';rw[e]at e';cases e';rw[d]at d';injection d' with d1 _
 have:aY=its':=by simpa using congrArg Array.toList d1
 subst this;exact r.inj r'
end
abbrev Cx.wish (X:Cx)(E:VS9):Cx:={X with xe:=E}
abbrev Cx.nox (X:Cx):Cx:=X.wish ?A4
def Cx.Ok.wish (ok:X.Ok)(E:VS9):(X.wish E).Ok:=
 ⟨ok.mod,ok.kind,ok.glob,ok.blt,ok.above,ok.inj,ok.has,ok.cab,ok.hd,ok.frames,ok.stk,ok.exf,ok.bs,ok.bsz,ok.noex,ok.exfs,ok.funs,ok.frf⟩
def Cx.Ok.unwish (ok:(X.wish E).Ok):X.Ok:=
 ⟨ok.mod,ok.kind,ok.glob,ok.blt,ok.above,ok.inj,ok.has,ok.cab,ok.hd,ok.frames,ok.stk,ok.exf,ok.bs,ok.bsz,ok.noex,ok.exfs,ok.funs,ok.frf⟩
section
variable {σ:St}
def A0.wish (I:?A)(E:VS9):A0 (X.wish E) ae σ H s:=⟨I.ok.wish E,I.os,I.bare,I.base,I.loc,I.cell,I.free,I.freeC,I.pin,I.hok,I.len⟩
def A0.unwish (I:A0 (X.wish E) ae σ H s):?A:=⟨I.ok.unwish,I.os,I.bare,I.base,I.loc,I.cell,I.free,I.freeC,I.pin,I.hok,I.len⟩
theorem SP.unwish {D:Q3s}{f:Flow}  (h:SP (X.wish E) ae D f s'):SP X ae D f s':=by
 cases f with
 |next=>obtain⟨σ',H',I,q⟩:=h;exact⟨σ',H',I.unwish,q⟩
 |brk=>obtain⟨σ',H',I,q⟩:=h;exact⟨σ',H',I.unwish,q⟩
 |cont=>obtain⟨σ',H',I,q⟩:=h;exact⟨σ',H',I.unwish,q⟩
 |ret u=>obtain⟨v,σ',H',I,r,q⟩:=h;exact⟨v,σ',H',I.unwish,r,q⟩
def T0.nox {st:O Aw}{t:TS}(h:T0 X.nox st t):T0 X st t:=fun ae s σ H D I hw=>
 aP (h ae s σ H D (I.wish _) hw) (fun _ _ q=>q.unwish) fun _ _ z=>False.elim z
end
section
variable {rest:O Aw}{t u:TS}
def V8q:TS:=fun D σ H=>D.nx σ H
def tSeq (t u:TS):TS:=fun D σ H=>t {D with nx:=u D} σ H
def V4b:T0 X [] V8q:=fun _ _ σ H _ I h=>gV ⟨σ,H,I,h⟩
theorem Y7c (h1:PS X st t)(h2:T0 X rest u):T0 X (st::rest) (tSeq t u):=by
 intro ae s σ H D I h;refine dz (B3 (h1 ae s σ H {D with nx:=u D} I h) fun f s1 q=>?_);cases f with
 |next=>
  obtain⟨σ',H',I',q⟩:=q;exact h2 ae s1 σ' H' D I' q
 |ret v=>exact q
 |brk=>exact q
 |cont=>exact q
theorem Y7d (h1:PS X st t):T0 X [st] t:=by
 intro ae s σ H D I h;refine dz (B3 (h1 ae s σ H D I h) fun f s1 q=>?_);cases f with
 |next=>exact gV q
 |ret v=>exact q
 |brk=>exact q
 |cont=>exact q
def A0.quiet {σ:St}   (I:?A):interactive X.env=false:=by simp[interactive,I.ok.kind]
def V8o (te:TE):TS:=fun D σ H=>te σ H fun _ H1=>D.nx σ H1
def Z6p (he:PE X e te)(hs:swapsWith e none pos.line X.env=pure false:=by rfl):PS X (.Expr e pos) (V8o te):=by
 intro ae s σ H D I h;exact wpAny_Expr_any (B3 (he ae s σ H _ I h) fun v s1 ⟨x,H1,I1,r1,q1⟩=>⟨σ,H1,I1,q1⟩) I.quiet hs
def tRet (te:TE):TS:=fun D σ H=>te σ H D.rt
def Z6r (he:PE X e te):PS X (.Return (some e) pos) (tRet te):=by
 intro ae s σ H D I h;exact kL (B3 (he ae s σ H _ I h) fun v s1 ⟨x,H1,I1,r1,q1⟩=>⟨x,σ,H1,I1,r1,q1⟩)
def tIfS (c:TT)(t u:TS):TS:=fun D σ H=>c σ H fun b H1=>if b=true then t D σ H1 else u D σ H1
theorem V3y {c:Aq}{a b:O Aw}{tc:TT}(hc:PT X c tc)(ha:T0 X a t)(hb:T0 X b u):PS X (.If c a b pos) (tIfS tc t u):=by
 intro ae s σ H D I h;refine wpAny_If (B3 (hc ae s σ H _ I h) fun d s1 bB=>?_);obtain⟨H1,I1,q1⟩:=bB;cases d with
 |true=>exact ha ae s1 σ H1 D I1 q1
 |false=>exact hb ae s1 σ H1 D I1 q1
def V8p:TS:=fun _ _ _=>False
def J1h {nz:O Aw}:T0 X nz V8p:=fun _ _ _ _ _ _ h=>h.elim
end
abbrev TG:=V->St->Hp->(St->Hp->Prop)->Prop
abbrev TGs:=O V->St->Hp->(St->Hp->Prop)->Prop
def PG (X:Cx)(target:Aq)(t:TG):Prop:=
 ∀(ae:Pn9) (s:Ao) (σ:St) (H:Hp) (v:V) (u:An) (Q:St->Hp->Prop),?A->C4 v u->t v σ H Q ->
  wpAny ?C X.A (assign target X.env u) (fun _ s'=>∃ σ' H',A0 X ae σ' H' s'/\Q σ' H') X.xe s
def PGs (X:Cx)(ts:O Aq)(t:TGs):Prop:=
 ∀(ae:Pn9) (s:Ao) (σ:St) (H:Hp) (vs:O V) (us:O An) (Q:St->Hp->Prop),?A->C0 vs us->t vs σ H Q ->
  wpAny ?C X.A (assignInOrder ((assignEach ts X.env).map (·.2)) us) (fun _ s'=>∃ σ' H',A0 X ae σ' H' s'/\Q σ' H') X.xe s
abbrev Q7z:=V->V->V->Hp->(Hp->Prop)->Prop
def Z3k (X:Cx)(t:Q7z):Prop:=
 ∀(ae:Pn9) (s:Ao) (σ:St) (H:Hp) (o i v:V) (ov iv u:An) (Q:Hp->Prop),?A->C4 o ov->C4 i iv->C4 v u->t o i v H Q ->
  wpAny ?C X.A (setItem ov iv u) (fun _ s'=>∃H',A0 X ae σ H' s'/\Q H') X.xe s
abbrev TIp:=V->V->Hp->VK->Prop
def PIp (X:Cx)(op:Operator)(t:TIp):Prop:=
 ∀(ae:Pn9) (s:Ao) (σ:St) (H:Hp) (x y:V) (v u:An) (Q:VK),?A->C4 x v->C4 y u->t x y H Q ->
  wpAny ?C X.A (inplaceOp op v u) (EP X ae σ Q) X.xe s
def Z0n (i:Nat):TG:=fun v σ H Q=>Q (σ.set i (some v)) H
def Y6y {i:Nat}  (hN:X.N.Nodup)(hi:X.N[i]?=some x)(hx:Loc X.env.scope x)(hf:?J:=by sleep 1):PG X (.Name x pos) (Z0n i):=by
 intro ae s σ H v u Q I r h;exact fZ (Z7t I hN hi hx r (fun s' I'=>⟨_,H,I',h⟩) hf)
def gNil:TGs:=fun vs σ H Q=>vs=[]/\Q σ H
def W6z (t:TG)(u:TGs):TGs:=fun vs σ H Q=>∃v r,vs=v::r/\t v σ H fun σ' H'=>u r σ' H' Q
def V3n:PGs X [] gNil:=by
 intro ae s σ H vs us Q I r h;obtain⟨e,h⟩:=h;subst e;cases r;exact assignInOrder_nil ⟨σ,H,I,h⟩
theorem V3m {es:O Aq}{t:TG}{u:TGs}(h1:PG X e t)(h2:PGs X es u)
  (hs:(assignEach (e::es) X.env).map (·.2)=assign e X.env::(assignEach es X.env).map (·.2):=by rfl):PGs X (e::es) (W6z t u):=by
 intro ae s σ H vs us Q I r h;obtain⟨v,vr,e1,h⟩:=h;subst e1;cases r with
 |cons r rr=>
  rw[hs];refine assignInOrder_cons (B3 (h1 ae s σ H _ _ _ I r h) fun _ s1 bB=>?_);obtain⟨σ1,H1,I1,q1⟩:=bB;exact h2 ae s1 σ1 H1 _ _ Q I1 rr q1
def gTup (K:Fg9)(n:Nat)(t:TGs):TG:=fun v σ H Q=>∃a xs,v=.ref a/\D9 K H a xs/\xs.length=n/\t xs σ H Q
def V3l {es:O Aq}{k:Nat}{t:TGs}  (hc:X.calm=true)(h:PGs X es t)
  (hn:(assignEach es X.env).length=n:=by rfl) (gv:(assignEach es X.env).findIdx? (·.1)=none:=by rfl):PG X (.Tuple es k pos) (gTup X.K n t):=by
 intro ae s σ H v u Q I r hw;obtain⟨a,xs,e1,hq,hl,hw⟩:=hw;subst e1;cases r;obtain⟨aY,rv,ht,hz⟩:=I.tuple hq;refine assign_Tuple_tuple (I.ok.hd hc) ht (by simp[hn,<-hl,rv.length]) gv fun h' hx=>?_;have I1:A0 X ae σ H {s with heap:=h'}:=I.kept (t':=s.toks) fun b o e=>hx b o (aB (aA e)) e;exact h ae _ σ H xs _ Q I1 (by simpa using rv) hw
def gSub (to ti:TE)(t:Q7z):TG:=fun v σ H Q=>to σ H fun o H1=>ti σ H1 fun i H2=>t o i v H2 fun H3=>Q σ H3
def V3k {i:Aq}{to ti:TE}{t:Q7z}(ho:PE X o to)(hi:PE X i ti)(hs:Z3k X t)
  (ha:∀v,assign (.Subscript o i pos) X.env v=(do
   let ov <- holding [v] (eval o X.env);let iv <- holding [v,ov] (eval i X.env)
   standAt pos
   holding [v,ov,iv] (setItem ov iv v)
   release [v,ov,iv] []):=by intro _;rfl):PG X (.Subscript o i pos) (gSub to ti t):=by
 intro ae s σ H v u Q I r h;rw[ha];refine aa (bD (B3 (ho ae s σ H _ I h) fun ov s1 bB=>?_));obtain⟨x,H1,I1,r1,q1⟩:=bB;refine aa (bD (B3 (hi ae s1 σ H1 _ I1 q1) fun iv s2 bB=>?_));obtain⟨y,H2,I2,r2,q2⟩:=bB;refine aa (dO (aa (bD (B3 (hs ae s2 σ H2 x y v ov iv u _ I2 r1 r2 r q2) fun _ s3 bB=>?_))));obtain⟨H3,I3,q3⟩:=bB;exact wpAny_release ⟨σ,H3,I3,q3⟩
def tAsg (te:TE)(g:TG):TS:=fun D σ H=>te σ H fun x H1=>g x σ H1 D.nx
def Z6o {g:TG}(he:PE X e te)(hg:PG X tg g)(hs:swapsWithSole [tg] e pos.line X.env=pure false:=by rfl)(hw:swappedStores [tg] e X.env=pure none:=by rfl)
  (h1:(assignEach [tg] X.env).map (·.2)=[assign tg X.env]:=by rfl):PS X (.Assign [tg] e pos) (tAsg te g):=by
 intro ae s σ H D I h;refine wpAny_Assign_stores (B3 (he ae s σ H _ I h) fun v s1 bB=>?_) hs hw;obtain⟨x,H1,I1,r1,q1⟩:=bB;rw[h1];exact B3 (hg ae s1 σ H1 x v _ I1 r1 q1) fun _ s2 q=>q
def Q6x {i:Nat}     (hN:X.N.Nodup)(hi:X.N[i]?=some x)(hx:Loc X.env.scope x)(he:PE X e te)(hs:swapsWith e (some (.Name x cf)) pos.line X.env=pure false:=by rfl)(hf:?J:=by sleep 1):
  PS X (.Assign [.Name x cf] e pos) (tAsg te (Z0n i)):=by
 intro ae s σ H D I h;refine wpAny_Assign_Name (B3 (he ae s σ H _ I h) fun v s1 bB=>?_) hs;obtain⟨y,H1,I1,r1,q1⟩:=bB;exact Z7t I1 hN hi hx r1 (fun s2 I2=>⟨_,H1,I2,q1⟩) hf
def tAug (i:Nat)(te:TE)(ti:TIp):TS:=fun D σ H=>∃x,σ[i]?=some (some x)/\te σ H fun y H1=>ti x y H1 fun z H2=>D.nx (σ.set i (some z)) H2
def V3v {i:Nat}    {op:Operator}{ti:TIp}  (hN:X.N.Nodup)(hi:X.N[i]?=some x)(hx:Loc X.env.scope x)(he:PE X e te)(ho:PIp X op ti)(hf:?J:=by sleep 1):
  PS X (.AugAssign (.Name x cf) op e pos) (tAug i te ti):=by
 intro ae s σ H D I h;obtain⟨v,e1,h⟩:=h;obtain⟨m,hn,hl⟩:=I.loc;have w5:Vis X.env.scope x:=by rcases hx with k |k;exact .inl k;exact .inr (.inl k)
 obtain⟨u,r,l⟩:=hl i x v hi e1 w5;refine wpAny_AugAssign_Name ?_;have go:wpAny ?C X.A (eval e X.env) (fun w s₂=>wpAny ?C X.A (inplaceOp op u w) (fun r s₃=>wpAny ?C X.A (storeName X.env x r) (fun _=>SP X ae D .next) X.xe s₃) X.xe s₂) X.xe s:=by
  refine B3 (he ae s σ H _ I h) fun w s1 bB=>?_;obtain⟨y,H1,I1,r1,q1⟩:=bB;refine B3 (ho ae s1 σ H1 v y u w _ I1 r r1 q1) fun z s2 bB=>?_;obtain⟨zv,H2,I2,r2,q2⟩:=bB;exact Z7t I2 hN hi hx r2 (fun s3 I3=>⟨_,H2,I3,q2⟩) hf
 rcases l with⟨hk,hm⟩ |⟨hk,c,hc,eZ⟩
 ·exact wpAny_loadName_local I.ok.kind hk hn hm go
 ·rcases hk with hk |hk
  ·exact wpAny_loadName_cell I.ok.kind hk hc eZ go
  ·rcases hx with k |k
   ·have:X.env.scope.names.lookup x=some .free:=hk;rw[k]at this;cases this
   ·have:X.env.scope.names.lookup x=some .free:=hk;rw[k]at this;cases this
def V8h (to ti te:TE)(kQ:V->V->Hp->VK->Prop)(pW:TIp)(kP:Q7z):TS:=fun D σ H=>to σ H fun o H1=>ti σ H1 fun i H2=>kQ o i H2 fun x H3=>te σ H3 fun y H4=>pW x y H4 fun z H5=>kP o i z H5 fun H6=>D.nx σ H6
def PGet (X:Cx)(t:V->V->Hp->VK->Prop):Prop:=
 ∀(ae:Pn9) (s:Ao) (σ:St) (H:Hp) (o i:V) (ov iv:An) (Q:VK),?A->C4 o ov->C4 i iv->t o i H Q ->
  wpAny ?C X.A (getItem ov iv) (EP X ae σ Q) X.xe s
def V3w {i:Aq}{to ti:TE}  {pW:TIp}{kP:Q7z}{op:Operator}{qU:Pos}(ho:PE X o to)(hi:PE X i ti)(hg:PGet X kQ)(he:PE X e te)(hp:PIp X op pW)(hs:Z3k X kP)
  (ha:∀ov iv new,augStore i ov iv new=(do holding [new,ov,iv] (setItem ov iv new);release [new,ov,iv] [];pure .next):=by intros;rfl):PS X (.AugAssign (.Subscript o i qU) op e pos) (V8h to ti te kQ pW kP):=by
 intro ae s σ H D I h;refine wpAny_AugAssign_SubscriptAny (B3 (ho ae s σ H _ I h) fun ov s1 bB=>?_) ha;obtain⟨x1,H1,I1,r1,q1⟩:=bB;refine B3 (hi ae s1 σ H1 _ I1 q1) fun iv s2 bB=>?_;obtain⟨x2,H2,I2,r2,q2⟩:=bB;refine B3 (hg ae s2 σ H2 x1 x2 ov iv _ I2 r1 r2 q2) fun old s3 bB=>?_;obtain⟨x3,H3,I3,r3,q3⟩:=bB;refine B3 (he ae s3 σ H3 _ I3 q3) fun v s4 bB=>?_;obtain⟨x4,H4,I4,r4,q4⟩:=bB;refine B3 (hp ae s4 σ H4 x3 x4 old v _ I4 r3 r4 q4) fun new s5 bB=>?_;obtain⟨x5,H5,I5,r5,q5⟩:=bB;exact B3 (hs ae s5 σ H5 x1 x2 x5 ov iv new _ I5 r1 r2 r5 q5) fun _ s6 ⟨H6,I6,q6⟩=>⟨σ,H6,I6,q6⟩
def ipI (f:Int->Int->Int):TIp:=fun x y H Q=>∃i j,x=.int i/\y=.int j/\Q (.int (f i j)) H
def W7z:PIp X .Add (ipI fun i j=>i+j):=by
 intro ae s σ H x y v u Q I r1 r2 h;obtain⟨i,j,e1,e2,q⟩:=h;subst e1;subst e2;obtain⟨t,rfl⟩:=r1;obtain⟨t',rfl⟩:=r2;exact iadd_int ⟨.int _,H,I.tok _,⟨_,rfl⟩,q⟩
def W8a:PIp X .Sub (ipI fun i j=>i-j):=by
 intro ae s σ H x y v u Q I r1 r2 h;obtain⟨i,j,e1,e2,q⟩:=h;subst e1;subst e2;obtain⟨t,rfl⟩:=r1;obtain⟨t',rfl⟩:=r2;exact isub_int ⟨.int _,H,I.tok _,⟨_,rfl⟩,q⟩
def V8v (c:TT)(tb:TS):TS:=fun D σ H=>∃W:Nat->St->Hp->Prop,(∃m,W m σ H)/\∀m σ H,W m σ H ->
 c σ H fun b H1=>if b=true then ∃N:St->Hp->Prop,(∀ σ' H',N σ' H'->∃m',m'<m/\W m' σ' H')/\tb {D with nx:=N,ct:=N,bk:=D.nx} σ H1 else D.nx σ H1
theorem V4a {c:Aq}  {tc:TT}{tb:TS}(hp:PassesOwn ?C X.A X.env X.xe)(hc:PT X c tc)(hb:T0 X body tb):PS X (.While c body [] pos) (V8v tc tb):=by
 intro ae s σ H D I h;obtain⟨W,⟨m0,w0⟩,turn⟩:=h;refine wpAny_While (codeAny_whileLoop (fun n s'=>∃ σ' H',A0 X ae σ' H' s'/\W n σ' H') ?_ m0 ⟨σ,H,I,w0⟩);rintro n s1 ⟨σ1,H1,I1,w1⟩;refine cT hp (B3 (hc ae s1 σ1 H1 _ I1 (turn n σ1 H1 w1)) fun b s2 bB=>?_);obtain⟨H2,I2,q2⟩:=bB;cases b with
 |true=>
  obtain⟨N,hN,q2⟩:=q2;rw[aO rfl];refine cT hp (B3 (hb ae s2 σ1 H2 _ I2 q2) fun f s3 q3=>?_);cases f with
  |next=>
   obtain⟨σ3,H3,I3,n3⟩:=q3;obtain⟨m',hm,w3⟩:=hN σ3 H3 n3;exact⟨m',hm,σ3,H3,I3,w3⟩
  |cont=>
   obtain⟨σ3,H3,I3,n3⟩:=q3;obtain⟨m',hm,w3⟩:=hN σ3 H3 n3;exact⟨m',hm,σ3,H3,I3,w3⟩
  |brk=>exact q3
  |ret v=>exact q3
 |false=>
  rw[aI bh];exact gV ⟨σ1,H2,I2,q2⟩
structure It where
 go:Nat->Hp->Prop
 yld:Nat->Hp->V->Hp->Prop
 stop:Nat->Hp->Prop
def N3 (X:Cx)(ae:Pn9)(H:Hp)(b:Ap):Prop:=
 H b=none/\b≠X.env.locals/\b∉X.fs/\(b∈X.ex\/X.s₀.heap.objs.size<=b)/\(∀x c,?Z->c≠b)/\∀p∈X.pn++ae,p.1≠b
def A0.fpOk {σ:St}    (I:?A)(hb:s.heap.objs.size<=b)(hn:H' b=none):N3 X ae H' b:=by
 refine⟨hn,nX (ay I.lt hb),I.nofs hb,.inr (aU I.sz hb),fun x c e z=>?_,fun p hp z=>?_⟩
 ·obtain⟨v,q⟩:=I.cell x c e;exact absurd (ay q.lt (by rw[z];exact hb)) (aS _)
 ·exact absurd (ay (aA (I.pin p hp).1) (by rw[z];exact hb)) (aS _)
structure Q1h (P:Au)(w:Av)(K:Fg9)(tg:Aq)(J:It)(fp:O Ap)(it:Ap)(tn:Nat->Heap->Prop):Prop where
 mem:it∈fp
 obj:∀i h,tn i h->∀b∈fp,∃o,h.get? b=?P/\∀v,o.data≠.cell v
 keep:∀i h h',tn i h->(∀b∈fp,∀o,h.get? b=?P->h'.get? b=?P)->tn i h'
 item:∀(X:Cx),X.prog=P->X.w=w->X.K=K->X.calm=true->∀(i:Nat) (ae:Pn9) (s:Ao) (σ:St) (H:Hp) (E:VS9),?A->(∀b∈fp,N3 X ae H b)->tn i s.heap->J.go i H ->
  wpAny ?R X.A (pyNext (.ref it)) (fun r s1=>∃u,r=some u /\
   wpAny ?R X.A (letOwnedTupleGo tg (.ref it) u) (fun _ s2=>∃x H',A0 X ae σ H' s2/\C4 x u/\J.yld i H x H'/\tn (i+1) s2.heap/\∀b∈fp,H' b=none) E s1) E s
 done:∀(X:Cx),X.prog=P->X.w=w->X.K=K->X.calm=true->∀(i:Nat) (ae:Pn9) (s:Ao) (σ:St) (H:Hp) (E:VS9),?A->(∀b∈fp,N3 X ae H b)->tn i s.heap->J.stop i H ->
  wpAny ?R X.A (pyNext (.ref it)) (fun r s1=>r=none/\A0 X ae σ H s1) E s
 self:∀(A:As) (i:Nat) (s:Ao) (Q:VS9) (E:VS9),tn i s.heap->Q (.ref it) s->wpAny ?R A (pyIter (.ref it)) Q E s
abbrev TI:=St->Hp->(It->Hp->Prop)->Prop
def PIE (X:Cx)(ae:Pn9)(σ:St)(tg:Aq)(R:It->Hp->Prop)(mH:An)(s2:Ao):Prop:=
 ∃(it:Ap) (fp:O Ap) (tn:Nat->Heap->Prop) (J:It) (H':Hp),mH=.ref it/\A0 X ae σ H' s2/\Q1h X.prog X.w X.K tg J fp it tn/\tn 0 s2.heap/\(∀b∈fp,N3 X ae H' b)/\R J H'
def PI (X:Cx)(tg iter:Aq)(wi:TI):Prop:=
 ∀(ae:Pn9) (s:Ao) (σ:St) (H:Hp) (R:It->Hp->Prop),?A->wi σ H R ->
  wpAny ?C X.A (eval iter X.env) (fun v s1=>wpAny ?C X.A (pyIter v) (PIE X ae σ tg R) X.xe s1) X.xe s
def Q6k {o:Obj}{n:String}{vs:Array An}{Q:Unit->Ao->Prop}(ho:s.heap.get? it=?P)(hc:o.cls=.type n)(hd:o.data=.fields vs)
  (hn:["enumerate","zip","dict_itemiterator","dict_reverseitemiterator","odict_iterator","itertools.zip_longest","itertools.pairwise"].contains n=false) (hQ:Q () s):wpAny Al A (letOwnedTupleGo tg (.ref it) u) Q E s:=by
 unfold letOwnedTupleGo;cases tg<;>first
  |exact am hQ
  | (cases u<;>first
    |exact am hQ
    | (refine aa (wpAny_load ho ?_)
       rw[hc,hd];show wpAny Al A (if (["enumerate","zip","dict_itemiterator","dict_reverseitemiterator","odict_iterator","itertools.zip_longest","itertools.pairwise"].contains n&&vs[0]?==some (rawInt _))=true then _ else _) Q E s;rw[aI (by intro h;rw[hn,Bool.false_and]at h;cases h)];exact am hQ))
def Itl (K:Fg9)(a:Ap):It:=
 ⟨fun i H=>∃xs x,E8 K H a xs/\xs[i]?=some x,fun i H x H'=>H'=H/\∀xs,E8 K H a xs->xs[i]?=some x,fun i H=>∃xs,E8 K H a xs/\xs.length<=i⟩
def Itt (K:Fg9)(a:Ap):It:=
 ⟨fun i H=>∃xs x,D9 K H a xs/\xs[i]?=some x,fun i H x H'=>H'=H/\∀xs,D9 K H a xs->xs[i]?=some x,fun i H=>∃xs,D9 K H a xs/\xs.length<=i⟩
def Itr (lo:Int)(n:Nat):It:=⟨fun i _=>i<n,fun i H x H'=>H'=H/\x=.int (lo+i),fun i _=>n<=i⟩
theorem V9k {w:Av}{K:Fg9}  (a it:Ap):Q1h P w K tg (Itl K a) [it] it (fun i h=>h.IsListIter it a i) where
 mem:=by simp
 obj:=fun i h st b hb=>by
  have e:b=it:=by simpa using hb
  subst e;obtain⟨o,e,c,d⟩:=st;exact⟨o,e,fun v z=>by rw[d]at z;cases z⟩
 keep:=fun i h h' st k=>st.at fun o e=>k it ?E o e
 item:=by
  back_in;obtain⟨xs,x,hq,hx⟩:=hg;obtain⟨aY,rv,p,hz⟩:=I.list hq;obtain⟨u,hu,ru⟩:=rv.get hx;obtain⟨f0,f1,f2,f3,f4,f5⟩:=hf it ?E;refine wpAny_pyNext_list_item st p.isList (x:=u) (by simpa using hu) fun h' iw sb=>?_;have I1:A0 X ae σ H {s with heap:=h'}:=I.turned (t':=s.toks) (fun b o hb e=>(sb.2 b hb).trans e) f0 f1 f3 f4 f5;obtain⟨o,e,c,d⟩:=id iw;exact⟨u,rfl,Q6k (s:={s with heap:=h'}) e c d (?G) ⟨x,H,I1,ru,⟨rfl,fun ys hy=>by rw[I.list_inj hy hq];exact hx⟩,iw,fun b hb=>(hf b hb).1⟩⟩
 done:=by
  back_in;obtain⟨xs,hq,hx⟩:=hg;obtain⟨aY,rv,p,hz⟩:=I.list hq;obtain⟨f0,f1,f2,f3,f4,f5⟩:=hf it ?E;have hl:=rv.length;exact wpAny_pyNext_list_end (I.ok.hd hc) st p.isList ?U fun h' eb=>⟨rfl,I.turned (t':=s.toks) (fun b o hb e=>eb b o hb e) f0 f1 f3 f4 f5⟩
 self:=fun _ _ _ _ _ st h=>wpAny_pyIter_listiter st h
theorem V9p {w:Av}{K:Fg9}  (a it:Ap):Q1h P w K tg (Itt K a) [it] it (fun i h=>h.IsTupleIter it a i) where
 mem:=by simp
 obj:=fun i h st b hb=>by
  have e:b=it:=by simpa using hb
  subst e;obtain⟨o,e,c,d⟩:=st;exact⟨o,e,fun v z=>by rw[d]at z;cases z⟩
 keep:=fun i h h' st k=>st.at fun o e=>k it ?E o e
 item:=by
  back_in;obtain⟨xs,x,hq,hx⟩:=hg;obtain⟨aY,rv,p,hz⟩:=I.tuple hq;obtain⟨u,hu,ru⟩:=rv.get hx;obtain⟨f0,f1,f2,f3,f4,f5⟩:=hf it ?E;refine wpAny_pyNext_tuple_item st (show s.heap.IsTuple a aY.toArray from p) (x:=u) (by simpa using hu) fun h' iw sb=>?_;have I1:A0 X ae σ H {s with heap:=h'}:=I.turned (t':=s.toks) (fun b o hb e=>(sb.2 b hb).trans e) f0 f1 f3 f4 f5;obtain⟨o,e,c,d⟩:=id iw;exact⟨u,rfl,Q6k (s:={s with heap:=h'}) e c d (?G) ⟨x,H,I1,ru,⟨rfl,fun ys hy=>by rw[I.tuple_inj hy hq];exact hx⟩,iw,fun b hb=>(hf b hb).1⟩⟩
 done:=by
  back_in;obtain⟨xs,hq,hx⟩:=hg;obtain⟨aY,rv,p,hz⟩:=I.tuple hq;obtain⟨f0,f1,f2,f3,f4,f5⟩:=hf it ?E;have hl:=rv.length;exact wpAny_pyNext_tuple_end (I.ok.hd hc) st (show s.heap.IsTuple a aY.toArray from p) ?U fun h' eb=>⟨rfl,I.turned (t':=s.toks) (fun b o hb e=>eb b o hb e) f0 f1 f3 f4 f5⟩
 self:=fun _ _ _ _ _ st h=>wpAny_pyIter_tupleiter st h
theorem V9l {w:Av}{K:Fg9}  (it:Ap)(lo:Int)(n:Nat):Q1h P w K tg (Itr lo n) [it] it (fun i h=>IsRangeIter h it (lo+(i:Nat)*1) ((n:Int)-(i:Nat)) 1) where
 mem:=by simp
 obj:=fun i h st b hb=>by
  have e:b=it:=by simpa using hb
  subst e;exact⟨_,st,fun v z=>by
   have z':Data.fields _=Data.cell v:=z;cases z'⟩
 keep:=fun i h h' st k=>k it ?E _ st
 item:=by
  back_in;obtain⟨f0,f1,f2,f3,f4,f5⟩:=hf it ?E;have W:=Walks.range (prog:=X.prog) (w:=X.w) (I.ok.hd hc) it lo 1 n;refine W.item i s _ _ hg st fun v h' tk hv iw kk=>?_;obtain⟨t,rfl⟩:=hv;have I1:A0 X ae σ H {s with heap:=h',toks:=tk}:=I.turned (fun b o hb e=>kk b o (by simpa using hb) e) f0 f1 f3 f4 f5;refine⟨_,rfl,Q6k (s:={s with heap:=h',toks:=tk}) (n:="range_iterator") iw rfl rfl (?G) ⟨.int (lo+i),H,I1,⟨t,?_⟩,⟨rfl,rfl⟩,iw,fun b hb=>(hf b hb).1⟩⟩;rw[Int.mul_one]
 done:=by
  back_in;obtain⟨f0,f1,f2,f3,f4,f5⟩:=hf it ?E;exact zY (I.ok.hd hc) st (by have:n<=i:=hg;lia) fun h' eb=>⟨rfl,I.turned (t':=s.toks) (fun b o hb e=>eb b o hb e) f0 f1 f3 f4 f5⟩
 self:=fun _ _ _ _ _ st h=>gz st h
def W7k (K:Fg9)(tl:TE):TI:=fun σ H R=>tl σ H fun x H1=>∃a,x=.ref a/\(∃xs,E8 K H1 a xs)/\R (Itl K a) H1
def iTup (K:Fg9)(tl:TE):TI:=fun σ H R=>tl σ H fun x H1=>∃a,x=.ref a/\(∃xs,D9 K H1 a xs)/\R (Itt K a) H1
def Z6n {l:Aq}{tl:TE}(hl:PE X l tl):PI X tg l (W7k X.K tl):=by
 intro ae s σ H R I h;refine B3 (hl ae s σ H _ I h) fun v s1 bB=>?_;obtain⟨x,H1,I1,r1,q1⟩:=bB;obtain⟨a,e,⟨xs,hq⟩,q⟩:=q1;subst e;cases r1;obtain⟨aY,rv,p,hz⟩:=I1.list hq;refine wpAny_pyIter_list p.isList ?_;refine⟨s1.heap.objs.size,[s1.heap.objs.size],_,_,H1,rfl,I1.kept (t':=s1.toks) fun b o e=>af _ e,V9k a _,⟨_,aG _ rfl,rfl,rfl⟩,fun b hb=>?_,q⟩;have e:b=s1.heap.objs.size:=by simpa using hb
 subst e;exact I1.fpOk (ak _) (I1.hok.fresh (ak _))
def Y7a {l:Aq}{tl:TE}(hl:PE X l tl):PI X tg l (iTup X.K tl):=by
 intro ae s σ H R I h;refine B3 (hl ae s σ H _ I h) fun v s1 bB=>?_;obtain⟨x,H1,I1,r1,q1⟩:=bB;obtain⟨a,e,⟨xs,hq⟩,q⟩:=q1;subst e;cases r1;obtain⟨aY,rv,p,hz⟩:=I1.tuple hq;refine fO (show s1.heap.IsTuple a aY.toArray from p) ?_;refine⟨s1.heap.objs.size,[s1.heap.objs.size],_,_,H1,rfl,I1.kept (t':=s1.toks) fun b o e=>af _ e,V9p a _,⟨_,aG _ rfl,rfl,rfl⟩,fun b hb=>?_,q⟩;have e:b=s1.heap.objs.size:=by simpa using hb
 subst e;exact I1.fpOk (ak _) (I1.hok.fresh (ak _))
theorem V4n {σ:St}   {R:It->Hp->Prop}  {lo hi:Int}{t u v:Tok}{tk:Nat}(I:?A)(h1:-(2^62)<=lo)(h2:lo<2^62)(h3:-(2^62)<=hi)(h4:hi<2^62)
  (q:R (Itr lo (hi-lo).toNat) H):wpAny ?C X.A (pyIter (.ref s.heap.objs.size)) (PIE X ae σ tg R) E {s with heap:=s.heap.push {cls:=.type "range",data:=.fields #[.int lo t,.int hi u,.int 1 v]},toks:=tk}:=by
 refine wpAny_pyIter_range (IsRange.new ..) (small_one h1 h2 h3 h4) ?_;have I1:A0 X ae σ H {s with heap:=s.heap.push {cls:=.type "range",data:=.fields #[.int lo t,.int hi u,.int 1 v]},toks:=tk}:=I.kept fun b o e=>af _ e;refine⟨(s.heap.push {cls:=.type "range",data:=.fields #[.int lo t,.int hi u,.int 1 v]}).objs.size,[(s.heap.push {cls:=.type "range",data:=.fields #[.int lo t,.int hi u,.int 1 v]}).objs.size],_,_,H,rfl,
  I1.kept (t':=tk) fun b o e=>af _ e,V9l _ lo (hi-lo).toNat,?_,fun b hb=>?_,q⟩
 ·have e1:lo+((0:Nat):Int)*1=lo:=by simp
  have e2:(((hi-lo).toNat:Nat):Int)-((0:Nat):Int)=Builtin.Range.rangeSize lo hi 1:=by rw[rangeSize_one];split<;>lia
  show IsRangeIter _ _ (lo+((0:Nat):Int)*1) ((((hi-lo).toNat:Nat):Int)-((0:Nat):Int)) 1;rw[e1,e2];exact aG _ rfl
 ·have e:b=(s.heap.push {cls:=.type "range",data:=.fields #[.int lo t,.int hi u,.int 1 v]}).objs.size:=by simpa using hb
  subst e;exact I1.fpOk (ak _) (I1.hok.fresh (ak _))
def W7l (ta:TA):TI:=fun σ H R=>ta σ H fun vs H1=>∃j:Int,vs=[.int j]/\-(2^62)<=j/\j<2^62/\R (Itr 0 j.toNat) H1
theorem Y6z {a:Aq}{ta:TA}  (hg:Gl X "range")(hm:X.mg "range"=none)(ha:PA X [a] ta)(hs:starEach [a] X.env=[(false,eval a X.env)]:=by rfl):PI X tg (.Call (.Name "range" p) [a] [] pos) (W7l ta):=by
 intro ae s σ H R I h;refine Call_ (Q1k I hg hm boot_range (bb (B3 (ha pos ae s σ H _ I h) fun us s1 bB=>?_) hs rfl));obtain⟨vs,H1,I1,r1,q1⟩:=bB;obtain⟨j,e,q1,q2,q⟩:=q1;subst e;cases r1 with
 |cons r rr=>
  cases rr;obtain⟨t,rfl⟩:=r;exact call_range_1 (V4n I1 (?H) (?H) q1 q2 (by simpa using q))
def tFor (wi:TI)(g:TG)(tb:TS):TS:=fun D σ H=>wi σ H fun J H1=>∃W:Nat->Nat->St->Hp->Prop,(∃m,W 0 m σ H1)/\∀i m σ H,W i m σ H ->
 (J.stop i H/\D.nx σ H)\/(J.go i H/\∃N:St->Hp->Prop,(∀ σ' H',N σ' H'->∃m',m'<m/\W (i+1) m' σ' H')/\∀x H',J.yld i H x H'->g x σ H' fun σ2 H2=>tb {D with nx:=N,ct:=N,bk:=D.nx} σ2 H2)
def X5 (fp:O Ap)(h:Heap):Pn9:=fp.filterMap fun b=>(h.get? b).map fun o=>(b,o)
def Q2m {o:Obj}(hb:b∈fp)(e:h.get? b=?P):(b,o)∈X5 fp h:=vV.mpr ⟨b,hb,by rw[e];rfl⟩
theorem Q8y {p:Ap×Obj}(hp:p∈X5 fp h):p.1∈fp/\h.get? p.1=some p.2:=by
 obtain⟨b,hb,e⟩:=vV.mp hp;cases q:h.get? b with
 |none=>rw[q]at e;cases e
 |some o=>
  rw[q]at e;have e':(b,o)=p:=aC e;subst e';exact⟨hb,q⟩
def A0.pinned {σ:St}    (I:?A)(hf:∀b∈fp,N3 X ae H b)(ho:∀b∈fp,∃o,?A6=?P/\∀v,o.data≠.cell v):A0 X (ae++X5 fp s.heap) σ H s:=
 I.pins_of fun p hp=>(aN.mp hp).elim (fun z=>I.pin p (aw _ z)) fun z=>by
  obtain⟨hb,e⟩:=Q8y z;obtain⟨f0,f1,f2,_⟩:=hf p.1 hb;obtain⟨o,e',d⟩:=ho p.1 hb;rw[e]at e';cases e';exact⟨e,f0,f1,f2,d⟩
def A0.unpinned {σ:St}   (I:A0 X (ae++pl) σ H s):?A:=I.pins_of fun p hp=>I.pin p (aw _ (ba _ hp))
def V3x {wi:TI}{g:TG}{tb:TS}  (hp:PassesOwn ?C X.A X.env X.xe)(hc:X.calm=true)(hi:PI X tg iter wi)(hg:PG X tg g)(hb:T0 X body tb)
  (hs:?A1:=by intro _;rfl):PS X (.For tg iter body [] pos) (tFor wi g tb):=by
 intro ae s σ H D I h;refine wpAny_For (B3 (hi ae s σ H _ I h) fun v s1 h1=>B3 h1 fun mH s2 h2=>?_) hs;obtain⟨it,fp,tn,J,H2,e,I2,T,fJ,f2,W,⟨m0,w0⟩,turn⟩:=h2;subst e;have ml:∀{H':Hp},(∀b∈fp,H' b=none)->∀b∈fp,N3 X ae H' b:=fun hn b hb=>⟨hn b hb,(f2 b hb).2⟩
 refine codeAny_forLoop_any (fun n s'=>∃i σ' H',A0 X ae σ' H' s'/\tn i s'.heap/\(∀b∈fp,H' b=none)/\W i n σ' H') ?_ m0 ⟨0,σ,H2,I2,fJ,fun b hb=>(f2 b hb).1,w0⟩;rintro n s3 ⟨i,σ3,H3,I3,iq,j7,w3⟩;rcases turn i n σ3 H3 w3 with⟨stop,qn⟩ |⟨go,N,hN,step⟩
 ·refine cT hp (B3 (T.done X rfl rfl rfl hc i ae s3 σ3 H3 X.xe I3 (ml j7) iq stop) fun r s4 bB=>?_);obtain⟨hr,I4⟩:=bB;subst hr;exact gV ⟨σ3,H3,I4,qn⟩
 ·refine cT hp (B3 (T.item X rfl rfl rfl hc i ae s3 σ3 H3 X.xe I3 (ml j7) iq go) fun r s4 bB=>?_);obtain⟨u,hr,h4⟩:=bB;subst hr;refine cT hp (B3 h4 fun _ s5 bB=>?_);obtain⟨x,H5,I5,r5,y5,gm,lq⟩:=bB;have lw:=I5.pinned (ml lq) (T.obj _ _ gm);refine cT hp (B3 (hg _ s5 σ3 H5 x u _ lw r5 (step x H5 y5)) fun _ s6 bB=>?_);obtain⟨σ6,H6,I6,q6⟩:=bB;refine cT hp (B3 (hb _ s6 σ6 H6 _ I6 q6) fun f s7 q7=>?_);have again:∀{σ7:St}{H7:Hp},A0 X (ae++X5 fp s5.heap) σ7 H7 s7->N σ7 H7->∃m,m<n/\∃i σ' H',A0 X ae σ' H' s7/\tn i s7.heap/\(∀b∈fp,H' b=none)/\W i m σ' H':=fun {σ7 H7} I7 n7=>by
   obtain⟨m',hm,w7⟩:=hN σ7 H7 n7;refine⟨m',hm,i+1,σ7,H7,I7.unpinned,T.keep _ _ _ gm fun b hb o e=>(I7.pin (b,o) (aw _ (aw _ (Q2m hb e)))).1,fun b hb=>?_,w7⟩;obtain⟨o,e,d⟩:=T.obj _ _ gm b hb;exact(I7.pin (b,o) (aw _ (aw _ (Q2m hb e)))).2.1
  cases f with
  |next=>obtain⟨σ7,H7,I7,n7⟩:=q7;exact again I7 n7
  |cont=>obtain⟨σ7,H7,I7,n7⟩:=q7;exact again I7 n7
  |brk=>obtain⟨σ7,H7,I7,q7⟩:=q7;exact⟨σ7,H7,I7.unpinned,q7⟩
  |ret v=>obtain⟨x7,σ7,H7,I7,r7,q7⟩:=q7;exact⟨x7,σ7,H7,I7.unpinned,r7,q7⟩
abbrev R2:=V->V->Hp->VK->Prop
def N8 (X:Cx)(f:An->An->Sem An)(r:R2):Prop:=
 ∀(ae:Pn9) (s:Ao) (σ:St) (H:Hp) (x y:V) (v u:An) (Q:VK),?A->C4 x v->C4 y u->r x y H Q ->
  wpAny ?C X.A (f v u) (EP X ae σ Q) X.xe s
def UnR (X:Cx)(f:An->Sem An)(r:V->Hp->VK->Prop):Prop:=
 ∀(ae:Pn9) (s:Ao) (σ:St) (H:Hp) (x:V) (v:An) (Q:VK),?A->C4 x v->r x H Q ->
  wpAny ?C X.A (f v) (EP X ae σ Q) X.xe s
def Q5u (X:Cx)(f:An)(r:O V->Hp->VK->Prop):Prop:=
 ∀(ae:Pn9) (s:Ao) (σ:St) (H:Hp) (xs:O V) (us:O An) (Q:VK),?A->C0 xs us->r xs H Q ->
  wpAny ?C X.A (call f us) (EP X ae σ Q) X.xe s
def TruR (X:Cx)(r:V->Hp->(Bool->Hp->Prop)->Prop):Prop:=
 ∀(ae:Pn9) (s:Ao) (σ:St) (H:Hp) (x:V) (v:An) (Q:Bool->Hp->Prop),?A->C4 x v->r x H Q ->
  wpAny ?C X.A (truthy v) (TP X ae σ Q) X.xe s
def tOp (r:R2)(ta tb:TE):TE:=fun σ H Q=>ta σ H fun x H1=>tb σ H1 fun y H2=>r x y H2 Q
def tUn (r:V->Hp->VK->Prop)(ta:TE):TE:=fun σ H Q=>ta σ H fun x H1=>r x H1 Q
def rI (C:Int->Int->Prop)(g:Int->Int->V):R2:=fun x y H Q=>∃i j,x=.int i/\y=.int j/\C i j/\Q (g i j) H
def rI0 (g:Int->Int->V):R2:=fun x y H Q=>∃i j,x=.int i/\y=.int j/\Q (g i j) H
def rU (g:Int->V):V->Hp->VK->Prop:=fun x H Q=>∃i,x=.int i/\Q (g i) H
section
variable {a b:Aq}{tb:TE}
def Z3w (ha:PE X a ta)(hb:PE X b tb)   {σ:St}  {R:V->V->Hp->Prop}(I:?A)
  (h:ta σ H fun x H1=>tb σ H1 fun y H2=>R x y H2)  {f:An->An->Sem An}
  (hf:∀v u s2 x y H2,A0 X ae σ H2 s2->C4 x v->C4 y u->R x y H2->wpAny ?C X.A (f v u) Q X.xe s2):
  wpAny ?C X.A (eval a X.env) (fun v s₁=>wpAny ?C X.A (eval b X.env) (fun u s₂=>wpAny ?C X.A (f v u) Q X.xe s₂) X.xe s₁) X.xe s:=by
 refine B3 (ha ae s σ H _ I h) fun v s1 bB=>?_;obtain⟨x,H1,I1,r1,q1⟩:=bB;refine B3 (hb ae s1 σ H1 _ I1 q1) fun u s2 bB=>?_;obtain⟨y,H2,I2,r2,q2⟩:=bB;exact hf v u s2 x y H2 I2 r1 r2 q2
def V3b {op:Operator}{r:R2}(ho:N8 X (binaryOp op) r)(ha:PE X a ta)(hb:PE X b tb):PE X (.BinOp a op b pos) (tOp r ta tb):=by
 intro ae s σ H Q I h;exact wpAny_BinOp (Z3w ha hb I h fun v u s2 x y H2 I2 rx ry q=>ho ae s2 σ H2 x y v u Q I2 rx ry q)
def V3h {op:UnaryOp}{r:V->Hp->VK->Prop}(ho:UnR X (unaryOp op) r)(ha:PE X a ta):PE X (.UnaryOp op a pos) (tUn r ta):=by
 intro ae s σ H Q I h;exact UnaryOp_ (B3 (ha ae s σ H _ I h) fun v s1 ⟨x,H1,I1,r1,q1⟩=>ho ae s1 σ H1 x v Q I1 r1 q1)
def opI {f:An->An->Sem An}{C:Int->Int->Prop}{g:Int->Int->Int}
  (rule:∀(i j:Int) (t u:Tok) (s:Ao) (Q:VS9) (E:VS9),C i j->Q (.int (g i j) s.toks) {s with toks:=s.toks+1}->wpAny ?C X.A (f (.int i t) (.int j u)) Q E s):
  N8 X f (rI C fun i j=>.int (g i j)):=by
 intro ae s σ H x y v u Q I rx ry h;obtain⟨i,j,rfl,rfl,hc,q⟩:=h;obtain⟨t,rfl⟩:=rx;obtain⟨t',rfl⟩:=ry;exact rule i j t t' s _ _ hc ⟨.int (g i j),H,I.tok _,⟨_,rfl⟩,q⟩
def Z6k {f:An->An->Sem An}{g:Int->Int->Int}
  (rule:∀(i j:Int) (t u:Tok) (s:Ao) (Q:VS9) (E:VS9),Q (.int (g i j) s.toks) {s with toks:=s.toks+1}->wpAny ?C X.A (f (.int i t) (.int j u)) Q E s):
  N8 X f (rI0 fun i j=>.int (g i j)):=by
 intro ae s σ H x y v u Q I rx ry h;obtain⟨i,j,rfl,rfl,q⟩:=h;obtain⟨t,rfl⟩:=rx;obtain⟨t',rfl⟩:=ry;exact rule i j t t' s _ _ ⟨.int (g i j),H,I.tok _,⟨_,rfl⟩,q⟩
def Z6j {f:An->An->Sem An}{g:Int->Int->Bool}
  (rule:∀(i j:Int) (t u:Tok) (s:Ao) (Q:VS9) (E:VS9),Q (.bool (g i j)) s->wpAny ?C X.A (f (.int i t) (.int j u)) Q E s):
  N8 X f (rI0 fun i j=>.bl (g i j)):=by
 intro ae s σ H x y v u Q I rx ry h;obtain⟨i,j,rfl,rfl,q⟩:=h;obtain⟨t,rfl⟩:=rx;obtain⟨t',rfl⟩:=ry;exact rule i j t t' s _ _ ⟨.bl (g i j),H,I,rfl,q⟩
def Q2b (i j:Int):Prop:=0<j/\j<1073741824
def Q3n (i j:Int):Prop:=(-(2^64)<i/\i<2^64)\/(-(2^64)<j/\j<2^64)
def Q3n.ok {i j:Int}(h:Q3n i j):IntMulOk i j:=by
 rcases h with⟨h1,h2⟩ |⟨h1,h2⟩
 ·exact .of_left (intBits_le_64 h1 h2)
 ·exact .of_right (intBits_le_64 h1 h2)
def V1r:N8 X (binaryOp .Add) (rI0 fun i j=>.int (i+j)):=Z6k fun _ _ _ _ _ _ _ q=>add_int q
def V2b:N8 X (binaryOp .Mult) (rI Q3n fun i j=>.int (i*j)):=opI fun _ _ _ _ _ _ _ hc q=>mul_int q hc.ok
theorem V1v:N8 X (binaryOp .FloorDiv) (rI Q2b fun i j=>.int (i / j)):=opI fun i j _ _ _ _ _ hc q=>by
 have h1:(0:Int)<j:=hc.1;have h2:j<1073741824:=hc.2;exact floordiv_int (?H) (by rw[Int.fdiv_eq_ediv_of_nonneg i (?H)];exact q) (.inl (PyProof.noPylong_small (?H)))
theorem V2a:N8 X (binaryOp .Mod) (rI (fun _ j=>0<j) fun i j=>.int (i % j)):=opI fun i j _ _ _ _ _ hc q=>by
 have h1:(0:Int)<j:=hc;exact mod_int' (?H) (by rw[Int.fmod_eq_emod_of_nonneg i (?H)];exact q)
def W7x:N8 X (inplaceOp .Add) (rI0 fun i j=>.int (i+j)):=Z6k fun _ _ _ _ _ _ _ q=>iadd_int q
def W7y:N8 X (inplaceOp .Sub) (rI0 fun i j=>.int (i-j)):=Z6k fun _ _ _ _ _ _ _ q=>isub_int q
def unI {f:An->Sem An}{g:Int->Int}
  (rule:∀(i:Int) (t:Tok) (s:Ao) (Q:VS9) (E:VS9),Q (.int (g i) s.toks) {s with toks:=s.toks+1}->wpAny ?C X.A (f (.int i t)) Q E s):
  UnR X f (rU fun i=>.int (g i)):=by
 intro ae s σ H x v Q I rx h;obtain⟨i,rfl,q⟩:=h;obtain⟨t,rfl⟩:=rx;exact rule i t s _ _ ⟨.int (g i),H,I.tok _,⟨_,rfl⟩,q⟩
def V9s:UnR X (unaryOp .USub) (rU fun i=>.int (-i)):=unI fun _ _ _ _ _ q=>neg_int q
end
def scal:V->V->Bool
 |.non,.non=>true |.non,.int _=>true |.int _,.non=>true |.non,.bl _=>true |.bl _,.non=>true |.non,.str _=>true |.str _,.non=>true
 |.int _,.int _=>true |.bl _,.bl _=>true |.str _,.str _=>true |.byt _,.byt _=>true
 |.int _,.str _=>true |.str _,.int _=>true |.bl _,.str _=>true |.str _,.bl _=>true
 |_,_=>false
def rNe:R2:=fun x y H Q=>scal x y=true/\Q (.bl (!decide (x=y))) H
def Y3d {i j:Int}:decide (V.int i=V.int j)=(i==j):=by
 rw[eG];simp
def Y3c {i j:Bool}:decide (V.bl i=V.bl j)=(i==j):=by
 rw[eG];simp
def Y3e {i j:Str}:decide (V.str i=V.str j)=(i==j):=by
 rw[eG];simp
def W6e {i j:Array UInt8}:decide (V.byt i=V.byt j)=(i.toList==j.toList):=by
 rw[eG];cases i;cases j;simp
section
variable {a b c:Aq}{tb:TE}
def W1 {σ:St}   {Q:VK}{k k':Bool}(I:?A)(q:Q (.bl k) H)(e:k=k'):EP X ae σ Q (.bool k') s:=by
 subst e;exact⟨.bl k,H,I,rfl,q⟩
theorem V2c:N8 X (compareOp .NotEq) rNe:=by
 intro ae s σ H x y v u Q I rx ry h;obtain⟨hs,q⟩:=h;cases x with
 |non=>
  cases rx;cases y with
  |non=>cases ry;exact PySem.EqNone.ne_none_none (W1 I q ?E)
  |bl j=>cases ry;exact PySem.EqNone.ne_none_bool (W1 I q ?E)
  |int j=>obtain⟨t',rfl⟩:=ry;exact PySem.EqNone.ne_none_int (W1 I q ?E)
  |str j=>obtain⟨t',rfl⟩:=ry;exact PySem.EqNone.ne_none_str (W1 I q ?E)
  |_=>exact absurd (show false=true from hs) bh
 |bl i=>
  cases rx;cases y with
  |non=>cases ry;exact PySem.EqNone.ne_bool_none (W1 I q ?E)
  |bl j=>cases ry;exact ne_bool (W1 I q (congrArg not Y3c))
  |str j=>obtain⟨t',rfl⟩:=ry;exact PySem.EqMixed.ne_bool_str (W1 I q ?E)
  |_=>exact absurd (show false=true from hs) bh
 |int i=>
  obtain⟨t,rfl⟩:=rx;cases y with
  |non=>cases ry;exact PySem.EqNone.ne_int_none (W1 I q ?E)
  |int j=>obtain⟨t',rfl⟩:=ry;exact ne_int (W1 I q (congrArg not Y3d))
  |str j=>obtain⟨t',rfl⟩:=ry;exact PySem.EqMixed.ne_int_str (W1 I q ?E)
  |_=>exact absurd (show false=true from hs) bh
 |str i=>
  obtain⟨t,rfl⟩:=rx;cases y with
  |non=>cases ry;exact PySem.EqNone.ne_str_none (W1 I q ?E)
  |bl j=>cases ry;exact PySem.EqMixed.ne_str_bool (W1 I q ?E)
  |int j=>obtain⟨t',rfl⟩:=ry;exact PySem.EqMixed.ne_str_int (W1 I q ?E)
  |str j=>obtain⟨t',rfl⟩:=ry;exact ne_str (W1 I q (congrArg not Y3e))
  |_=>exact absurd (show false=true from hs) bh
 |byt i=>
  obtain⟨t,rfl⟩:=rx;cases y with
  |byt j=>obtain⟨t',rfl⟩:=ry;exact PySem.W.ne_bytes (W1 I q (congrArg not W6e))
  |_=>exact absurd (show false=true from hs) bh
 |_=>cases y<;>exact absurd (show false=true from hs) bh
def V1z:N8 X (compareOp .Lt) (rI0 fun i j=>.bl (decide (i<j))):=Z6j fun _ _ _ _ _ _ _ q=>lt_int q
def V1x:N8 X (compareOp .Gt) (rI0 fun i j=>.bl (decide (j<i))):=Z6j fun _ _ _ _ _ _ _ q=>gt_int q
def V1w:N8 X (compareOp .GtE) (rI0 fun i j=>.bl (decide (j<=i))):=Z6j fun _ _ _ _ _ _ _ q=>ge_int q
def V1y:N8 X (compareOp .Is) (fun x y H Q=>y=.non/\Q (.bl (decide (x=.non))) H):=by
 intro ae s σ H x y v u Q I rx ry h;obtain⟨rfl,q⟩:=h;cases ry;refine is_none_gen (W1 I q ?_);cases x<;>first
  |(cases rx;rfl)
  |(obtain⟨t,rfl⟩:=rx;rfl)
def V2d:N8 X (compareOp .IsNot) (fun x y H Q=>y=.non/\Q (.bl (!decide (x=.non))) H):=by
 intro ae s σ H x y v u Q I rx ry h;obtain⟨rfl,q⟩:=h;cases ry;refine isnot_none_gen (W1 I q ?_);cases x<;>first
  |(cases rx;rfl)
  |(obtain⟨t,rfl⟩:=rx;rfl)
def P6 (b:Aq){op:CmpOp}(h:op≠.In:=by decide)(h2:op≠.NotIn:=by decide):behindInMarks op b=false:=by
 have e1:(op==CmpOp.In)=false:=by cases op<;>first |rfl |exact absurd rfl h
 have e2:(op==CmpOp.NotIn)=false:=by cases op<;>first |rfl |exact absurd rfl h2
 cases b<;>simp[behindInMarks,e1,e2]
def V2m {op:CmpOp}{r:R2}(ho:N8 X (compareOp op) r)(ha:PE X a ta)(hb:PE X b tb)(hm:behindInMarks op b=false):PE X (.Compare a [op] [b] pos) (tOp r ta tb):=by
 intro ae s σ H Q I h;exact wpAny_Compare1 (Z3w ha hb I h fun v u s2 x y H2 I2 rx ry q=>ho ae s2 σ H2 x y v u Q I2 rx ry q) hm
def V8u (t:TE):TT:=fun σ H Q=>t σ H fun x H'=>∃k,x=.bl k/\Q k H'
def V4c {op:CmpOp}{r:R2}(ho:N8 X (compareOp op) r)(ha:PE X a ta)(hb:PE X b tb)(hm:behindInMarks op b=false):PT X (.Compare a [op] [b] pos) (V8u (tOp r ta tb)):=by
 intro ae s σ H Q I h;refine wpAny_isTrue_Compare1 (B3 (ha ae s σ H _ I h) fun v s1 ⟨x,H1,I1,r1,q1⟩=>B3 (hb ae s1 σ H1 _ I1 q1) fun u s2 ⟨y,H2,I2,r2,q2⟩=>
  B3 (ho ae s2 σ H2 x y v u _ I2 r1 r2 q2) fun c s3 ⟨z,H3,I3,r3,k,e,q3⟩=>?_) hm
 subst e;cases r3;exact eB ⟨H3,I3,q3⟩
def Z3m (K:Fg9)(x:V)(H:Hp)(k:Bool):Prop:=
 match x with
 |.non=>k=false
 |.bl b=>k=b
 |.int i=>k=(i != 0)
 |.str y=>y.length<=sizeLine/\k=((y.length:Int) != 0)
 |.byt y=>y.size<=sizeLine/\k=((y.size:Int) != 0)
 |.ref p=>(∃xs,E8 K H p xs/\k=!xs.isEmpty)\/(∃xs,D9 K H p xs/\k=!xs.isEmpty)\/∃kvs,H p=some (.dK kvs)/\k=!kvs.isEmpty
 |_=>False
def W8b {kvs:O (κ×V)}{vs:O (κ×An)}(r:KV kvs vs):(!vs.isEmpty)=!kvs.isEmpty:=by
 cases r<;>rfl
def Y4k (r:C0 xs aY):(!aY.toArray.isEmpty)=!xs.isEmpty:=by
 cases r<;>simp
def Q4l:(sizeLine:Nat)<2^63:=by rw[ga];decide
theorem V9f:TruR X (fun x H Q=>∃k,Z3m X.K x H k/\Q k H):=by
 intro ae s σ H x v Q I rx h;obtain⟨k,e,q⟩:=h;have hl:=Q4l;have hs:sizeLine=16777216:=ga;cases x with
 |non=>
  cases rx;have e':k=false:=e;subst e';exact truthy_none ⟨H,I,q⟩
 |bl b=>
  cases rx;have e':k=b:=e;subst e';exact eB ⟨H,I,q⟩
 |int i=>
  obtain⟨t,rfl⟩:=rx;have e':k=(i != 0):=e;subst e';exact PySem.P.truthy_int ⟨H,I,q⟩
 |str y=>
  obtain⟨t,rfl⟩:=rx;obtain⟨hy,e'⟩:y.length<=sizeLine/\k=((y.length:Int) != 0):=e;subst e';exact PySem.P.truthy_str (?H) ⟨H,I.tok _,q⟩
 |byt y=>
  obtain⟨t,rfl⟩:=rx;obtain⟨hy,e'⟩:y.size<=sizeLine/\k=((y.size:Int) != 0):=e;subst e';exact PySem.W.truthy_bytes (?H) ⟨H,I.tok _,q⟩
 |ref p=>
  cases rx;have e':(∃xs,E8 X.K H p xs/\k=!xs.isEmpty)\/(∃xs,D9 X.K H p xs/\k=!xs.isEmpty)\/∃kvs,H p=some (.dK kvs)/\k=!kvs.isEmpty:=e;rcases e' with⟨xs,hx,e'⟩ |⟨xs,hx,e'⟩ |⟨kvs,hx,e'⟩
  ·subst e';obtain⟨aY,r,pl,hz⟩:=I.list hx;have cp:=r.length;exact wpAny_truthy_list pl.isList (by simp only[aH];lia) ⟨H,I.tok _,by rw[Y4k r];exact q⟩
  ·subst e';obtain⟨aY,r,pl,hz⟩:=I.tuple hx;have cp:=r.length;exact truthy_tuple pl (by simp only[aH];lia) ⟨H,I.tok _,by rw[Y4k r];exact q⟩
  ·subst e';obtain⟨hz,hS,vs,r,m⟩:kvs.length<=sizeLine/\(p==sysModules)=false/\∃vs,KV kvs vs/\s.heap.DictOf (M4 X.prog X.w) p vs:=I.hok p _ hx;have cp:kvs.length=vs.length:=jJ r;exact wpAny_truthy_dict hS m (?H) ⟨H,I.tok _,by rw[W8b r];exact q⟩
 |_=>exact(show False from e).elim
def V4e (ha:PE X a ta)(he:∀whole,isTrue a X.env whole=(do let v <- whole;standAt a.pos;holding [v] (truthy v))):
  PT X a (fun σ H Q=>ta σ H fun x H'=>∃k,Z3m X.K x H' k/\Q k H'):=by
 intro ae s σ H Q I h;exact isTrue_plain (B3 (ha ae s σ H _ I h) fun v s1 ⟨x,H1,I1,r1,q1⟩=>V9f ae s1 σ H1 x v Q I1 r1 q1) (he _)
def V1s:N8 X (binaryOp .Add) (fun x y H Q=>∃i j,x=.str i/\y=.str j/\i.length+j.length<=sizeLine/\Q (.str (i++j)) H):=by
 intro ae s σ H x y v u Q I rx ry h;obtain⟨i,j,rfl,rfl,hz,q⟩:=h;obtain⟨t,rfl⟩:=rx;obtain⟨t',rfl⟩:=ry;exact add_str (fun t' tk=>⟨.str (i++j),H,I.tok _,⟨_,rfl⟩,q⟩) hz
theorem Z2 {x:V}  (r:C0 [x] us):∃u,us=[u]/\C4 x u:=by
 cases r with
 |cons r1 r2=>cases r2;exact⟨_,rfl,r1⟩
theorem V9z {x:V}  (r:C0 [x,y] us):∃u w',us=[u,w']/\C4 x u/\C4 y w':=by
 cases r with
 |cons r1 r2=>
  cases r2 with
  |cons r3 r4=>cases r4;exact⟨_,_,rfl,r1,r3⟩
def LenV (K:Fg9)(x:V)(H:Hp)(n:Nat):Prop:=
 match x with
 |.str y=>y.length<=sizeLine/\n=y.length
 |.byt y=>y.size<=sizeLine/\n=y.size
 |.ref p=>(∃xs,E8 K H p xs/\n=xs.length)\/∃xs,D9 K H p xs/\n=xs.length
 |_=>False
theorem Q8g:Q5u X (.builtin "len") (fun xs H Q=>∃x n,xs=[x]/\LenV X.K x H n/\Q (.int n) H):=by
 intro ae s σ H xs us Q I r h;obtain⟨x,n,rfl,e,q⟩:=h;obtain⟨u,rfl,rx⟩:=Z2 r;have hl:=Q4l;have hs:sizeLine=16777216:=ga;cases x with
 |str y=>
  obtain⟨t,rfl⟩:=rx;obtain⟨hy,e'⟩:y.length<=sizeLine/\n=y.length:=e;subst e';exact len_str (?H) ⟨.int _,H,I.tok _,⟨_,rfl⟩,q⟩
 |byt y=>
  obtain⟨t,rfl⟩:=rx;obtain⟨hy,e'⟩:y.size<=sizeLine/\n=y.size:=e;subst e';exact PySem.W.len_bytes (?H) ⟨.int _,H,I.tok _,⟨_,rfl⟩,q⟩
 |ref p=>
  cases rx;have e':(∃xs,E8 X.K H p xs/\n=xs.length)\/∃xs,D9 X.K H p xs/\n=xs.length:=e;rcases e' with⟨xs,hx,e'⟩ |⟨xs,hx,e'⟩
  ·subst e';obtain⟨aY,r',pl,hz⟩:=I.list hx;have cp:=r'.length;exact Calls.call_len_list pl.isList (by simp only[aH];lia) ⟨.int xs.length,H,I.tok _,⟨_,by simp only[aH];rw[cp]⟩,q⟩
  ·subst e';obtain⟨aY,r',pl,hz⟩:=I.tuple hx;have cp:=r'.length;exact len_tuple pl (by simp only[aH];lia) ⟨.int xs.length,H,I.tok _,⟨_,by simp only[aH];rw[cp]⟩,q⟩
 |_=>exact(show False from e).elim
end
theorem Y1f {v:V}{o:Am An}(r:Q2v (some v) o):∃u,o=some u/\C4 v u:=by
 cases o with
 |none=>exact(show False from r).elim
 |some u=>exact⟨u,rfl,r⟩
structure E1 (k:Nat)(A:As):Prop where
 hd:A.handled=none
 dp:A.depth+3*k+5<recursionLimit
 un:A.units+16*k+200<cLine
theorem E1.mono {j k:Nat}  (r:E1 k A)(h:j<=k):E1 j A:=⟨r.hd,by have:=r.dp;lia,by have:=r.un;lia⟩
theorem E1.deeper {k:Nat}  (r:E1 (k+1) A)(env:Env):E1 k (A.deeper env):=
 ⟨r.hd,by have:=r.dp;show A.depth+1+3*k+5<_;lia,by have:=r.un;show A.units+3+16*k+200<_;lia⟩
theorem E1.depth {k:Nat}  (r:E1 k A):A.depth<recursionLimit:=by have:=r.dp;lia
theorem E1.units {k:Nat}  (r:E1 k A):A.units+64<cLine:=by have:=r.un;lia
theorem E1.units0 {k:Nat}  (r:E1 k A):A.units<cLine:=by have:=r.un;lia
def Z7w:TA:=fun _ H Q=>Q [] H
def Q7n (ta:TE)(tr:TA):TA:=fun σ H Q=>ta σ H fun x H1=>tr σ H1 fun xs H2=>Q (x::xs) H2
section
variable {es:O Aq}{t:TA}
def Q4r:PA X [] Z7w:=fun _ _ _ _ H Q I h=>cK ⟨[],H,I,.nil,h⟩
def Q1p (ha:PE X e te)(hr:PA X es t)(hs:?I:=by rfl):PA X (e::es) (Q7n te t):=by
 intro pos ae s σ H Q I h;rw[hs];show wpAny _ _ (spliced ((false,eval e X.env)::backTo pos (starEach es X.env))) _ _ s;refine bT (B3 (ha ae s σ H _ I h) fun u s1 bB=>?_);obtain⟨x,H1,I1,r1,q1⟩:=bB;exact B3 (hr pos ae s1 σ H1 _ I1 q1) fun us s2 ⟨xs,H2,I2,r2,q2⟩=>⟨x::xs,H2,I2,.cons r1 r2,q2⟩
def tTup (t:TA):TE:=fun σ H Q=>t σ H fun xs H1=>xs.length<=sizeLine/\∀p,H1 p=none->Q (.ref p) (A9 H1 p (.tup xs))
def tLst (t:TA):TE:=fun σ H Q=>t σ H fun xs H1=>xs.length<=sizeLine/\∀p,H1 p=none->Q (.ref p) (A9 H1 p (.lst xs))
def V3g {x1}(h:PA X es t):PE X (.Tuple es x1 pos) (tTup t):=by
 intro ae s σ H Q I hq;refine wpAny_Tuple_spliced (B3 (h pos ae s σ H _ I hq) fun us s1 ⟨xs,H1,I1,r,z,q⟩=>⟨by rw[<-r.length];exact z,?_⟩);have hf:H1 s1.heap.objs.size=none:=I1.hok.fresh (ak _);refine⟨.ref s1.heap.objs.size,A9 H1 s1.heap.objs.size (.tup xs),I1.laid (t':=s1.toks) (fun b u e=>af _ e) (ak _) ?_,rfl,q _ hf⟩;exact⟨z,us,r,⟨_,aG _ rfl,rfl,_,rfl⟩⟩
def V2x (h:PA X es t):PE X (.List es pos) (tLst t):=by
 intro ae s σ H Q I hq;refine wpAny_List_spliced (B3 (h pos ae s σ H _ I hq) fun us s1 ⟨xs,H1,I1,r,z,q⟩=>⟨by rw[<-r.length];exact z,?_⟩);have hf:H1 s1.heap.objs.size=none:=I1.hok.fresh (ak _);refine⟨.ref s1.heap.objs.size,A9 H1 s1.heap.objs.size (.lst xs),I1.laid (t':=s1.toks) (fun b u e=>af _ e) (ak _) ?_,rfl,q _ hf⟩;exact⟨z,us,0,r,aG _ rfl⟩
end
abbrev Sp:=O V->Hp->VK->XK->Prop
abbrev CXT:=O Env->Hp->Ao->XK->An->Ao->Prop
variable {CX:CXT}
structure Q5v (P:Au)(w:Av)(K:Fg9)(mg:Str->Am An)(base:Heap)(A:As)(outer:O Env)(s:Ao)(H:Hp):Prop where
 frames:A.frames=some outer
 mod:Mod K mg base
 bs:∀b o,base.get? b=?P->?A6=?P/\H b=none
 bsz:base.objs.size<=s.heap.objs.size
 funs:s.heap.FunFrames base outer
 frf:∀b∈F3 outer,H b=none
 hok:G4 P w H s.heap
 bare:AllBare s.gens
def CE (outer:O Env)(P:Au)(w:Av)(H:Hp)(s:Ao)(Q:VK)(u:An)(s':Ao):Prop:=
 ∃v H',s'.os=s.os/\AllBare s'.gens/\Un (F3 outer) [] H H' s.heap s'.heap/\G4 P w H' s'.heap/\C4 v u/\Q v H'
def CR (CX:CXT)(outer:O Env)(P:Au)(w:Av)(H:Hp)(s:Ao)(Q:VK)(E:XK)(r:Result)(s':Ao):Prop:=
 match r with
 |.ok (.ret u)=>CE outer P w H s Q u s'
 |.ok _=>False
 |.error e=>CX outer H s E e s'
structure O3 (P:Au)(w:Av)(K:Fg9)(mg:Str->Am An)(base:Heap)(CX:CXT)(k:Nat)(f:Ap)(fd:At)(ps:O Str)(sp:Sp):Prop where
 len:∀vs H Q E,sp vs H Q E->vs.length=ps.length
 run:∀(A:As) (outer:O Env) (s:Ao) (H:Hp) (args:Args) (us:O An) (vs:O V) (Q:VK) (E:XK),E1 k A->Q5v P w K mg base A outer s H->BindsTo s fd args (ps.zip us)->C0 vs us->sp vs H Q E ->
  codeAny ?R A (.call (.ref f) args) (CR CX outer P w H s Q E) s
section
variable {σ:St}
def A0.env0 (I:?A):Q5v X.prog X.w X.K X.mg X.base X.A X.stack s H:=
 ⟨I.ok.frames,I.ok.mod,I.bs,aU I.ok.bsz I.sz,I.stack,I.stkFree,I.hok,I.bare⟩
def A0.after {Q:VK}  (I:?A)(h:CE X.stack X.prog X.w H s Q u s'):EP X ae σ Q u s':=by
 obtain⟨v,H',os,bare,un,hok,r,q⟩:=h;obtain⟨hh,g,d,t,rm⟩:=s';obtain rfl:rm=s.os:=os;exact⟨v,H',I.call (h':=hh) (g':=g) (d':=d) (t':=t) (ch:=[]) un hok bare (fun b z=>absurd z ?E),r,q⟩
end
def V8i (sp:Sp)(dvs:O V)(E:XK)(t:TA):TE:=fun σ H Q=>t σ H fun vs H1=>sp (vs++dvs) H1 Q E
def S8 (K:Fg9)(fd:At)(ps:O Str)(ds:O An):Prop:=
 ∀(s:Ao) (us:O An),K.In s.heap->(us++ds).length=ps.length->BindsTo s fd ⟨us,[]⟩ (ps.zip (us++ds))
def S8.all {K:Fg9}   (h:∀us:O An,us.length=ps.length->bindArgs fd ⟨us,[]⟩=pure (ps.zip us)):S8 K fd ps []:=fun s us _ hl=>by
 rw[b8]at hl ⊢;exact .of_eq (h us hl)
def Q9v (CX:CXT)(X:Cx)(E:XK):Prop:=∀(ae:Pn9) (σ:St) (H:Hp) (s:Ao) (e:An) (s':Ao),?A->CX X.stack H s E e s'->X.xe e s'
section
variable {k:Nat}{sp:Sp}{dvs:O V}{ds:O An}{E:XK}{es:O Aq}{t:TA}
theorem Y7q {σ:St}   {Q:VK}   (F:O3 X.prog X.w X.K X.mg X.base CX k f fd ps sp)(hr:E1 k X.A)(hb:S8 X.K fd ps ds)(hd:C0 dvs ds)(hx:Q9v CX X E)
  (I:?A) (r:C0 vs us) (h:sp (vs++dvs) H Q E):wpAny ?C X.A (call (.ref f) us) (EP X ae σ Q) X.xe s:=by
 have r2:C0 (vs++dvs) (us++ds):=r.append hd;have hl:(us++ds).length=ps.length:=by rw[<-r2.length];exact F.len _ _ _ _ h
 refine wpAny_call (lC (F.run X.A X.stack s H ⟨us,[]⟩ (us++ds) (vs++dvs) Q E hr I.env0 (hb s us I.kIn hl) r2 h) fun r s' hq=>?_);cases r with
 |error e=>exact hx ae σ H s e s' I hq
 |ok fl=>
  cases fl with
  |ret u=>exact I.after hq
  |next=>exact False.elim hq
  |brk=>exact False.elim hq
  |cont=>exact False.elim hq
def Z1j (F:O3 X.prog X.w X.K X.mg X.base CX k f fd ps sp)(hr:E1 k X.A)(hg:Gl X x)(hm:X.mg x=some (.ref f))(hk:PySem.W.keepIn X.K (.ref f)=true)(hb:S8 X.K fd ps ds)(hd:C0 dvs ds)(hx:Q9v CX X E)
  (ha:PA X (e::es) t) (eT:?Q:=by decide) (he:?I:=by rfl) (hpl:?S:=by rfl):
  PE X (.Call (.Name x p) (e::es) [] pos) (V8i sp dvs E t):=by
 intro ae s σ H Q I h;refine bn (Q6r I hg hm ?_ eT);refine i3 (h₀:=X.base) I.ok.mod.kin hk (B3 (ha pos ae s σ H _ I h) fun us s1 ⟨vs,H1,I1,r,q⟩=>⟨I1.kIn,?_⟩) he hpl;exact Y7q F hr hb hd hx I1 r q
end
structure T9 (N P:O Str)(sc:Scope):Prop where
 kind:sc.kind=.function
 co:sc.isCoroutine=false
 gen:sc.isGenerator=false
 nd:N.Nodup
 pre:N.take P.length=P
 par:∀x∈P,sc.names.lookup x=some .local\/sc.names.lookup x=some .cell
 nofree:∀y∈sc.names,y.2≠.free
theorem Y1x:∀{binds:O (Str×An)}{m:Str->Am An},(∀v,(x,v)∉binds)->bindL kindOf binds m x=m x
 |[],_,_=>rfl
 |(n,v)::r,m,h=>by
  unfold bindL;rw[Y1x fun w hw=>h w (ag _ hw)];split
  ·have:x≠n:=by rintro rfl;exact h v aj
   simp[this]
  ·rfl
theorem Y1v:∀{binds:O (Str×An)}{m:Str->Am An},(∀v,(x,v)∉binds)->bindC kindOf binds m x=m x
 |[],_,_=>rfl
 |(n,v)::r,m,h=>by
  unfold bindC;rw[Y1v fun w hw=>h w (ag _ hw)];split
  ·rfl
  ·have:x≠n:=by rintro rfl;exact h v aj
   simp[this]
theorem Y1w {v:An}:∀{P:O Str}{vs:O An}{i:Nat}{m:Str->Am An},P.Nodup->P[i]?=some x->vs[i]?=some v->kindOf x=some .local ->
  bindL kindOf (P.zip vs) m x=some v
 |[],_,_,_,_,h,_,_=>by simp at h
 |_::_,[],_,_,_,_,h,_=>by simp at h
 |p::P,w::vs,0,m,nd,h1,h2,hk=>by
  simp at h1 h2;subst h1;subst h2;show bindL kindOf ((p,w)::P.zip vs) m p=_;unfold bindL;rw[Y1x fun v hv=>(bg.mp nd).1 (cS hv).1,aO hk];simp
 |p::P,w::vs,i+1,m,nd,h1,h2,hk=>by
  show bindL kindOf ((p,w)::P.zip vs) m x=_;unfold bindL;exact Y1w (i:=i) (bg.mp nd).2 (by simpa using h1) (by simpa using h2) hk
theorem Y1u {v:An}:∀{P:O Str}{vs:O An}{i:Nat}{m:Str->Am An},P.Nodup->P[i]?=some x->vs[i]?=some v->kindOf x≠some .local ->
  bindC kindOf (P.zip vs) m x=some v
 |[],_,_,_,_,h,_,_=>by simp at h
 |_::_,[],_,_,_,_,h,_=>by simp at h
 |p::P,w::vs,0,m,nd,h1,h2,hk=>by
  simp at h1 h2;subst h1;subst h2;show bindC kindOf ((p,w)::P.zip vs) m p=_;unfold bindC;rw[Y1v fun v hv=>(bg.mp nd).1 (cS hv).1,aI hk];simp
 |p::P,w::vs,i+1,m,nd,h1,h2,hk=>by
  show bindC kindOf ((p,w)::P.zip vs) m x=_;unfold bindC;exact Y1u (i:=i) (bg.mp nd).2 (by simpa using h1) (by simpa using h2) hk
def start (N:O Str)(vs:O V):St:=vs.map some++List.replicate (N.length-vs.length) none
def K4 (CX:CXT)(P:Au)(w:Av)(K:Fg9)(mg:Str->Am An)(base:Heap)(N:O Str)(qual:Str)(scope:Scope)(f:Ap)(cd:An)(A:As)(outer:O Env)(s:Ao)(H:Hp)(E:XK):Cx where
 prog:=P
 w:=w
 K:=K
 mg:=mg
 base:=base
 A:=A.deeper (?O)
 N:=N
 s₀:=s
 H₀:=H
 env:=?O
 outer:=outer
 stack:=?O::outer
 ex:=[]
 calm:=true
 fn:=fun _=>true
 pn:=[]
 xe:=fun e s'=>wpAny ?R (A.deeper (?O)) (leaving (?O) e) (fun _ r9=>CX outer H s E e r9) (fun e' r9=>CX outer H s E e' r9) s'
def Y2k (h:sc.names.lookup x=some .cell):∃c,(cellsFrom n sc.names []).lookup x=some c:=by
 have q:=dI sc.names n [] (.inl h);exact mh.mp q
theorem Z5k {w:Av}{K:Fg9}       {cd:An}  {outer:O Env}   {E:XK}  
  (S:T9 N ps scope) (hd:A.handled=none) (e0:Q5v P w K mg base A outer s H) (hl:vs.length=ps.length) (r:C0 vs us)
  (x:InCallC s s.heap.objs.size (bindL (?O).kindOf (ps.zip us) fun _=>none) (cellsFrom (s.heap.objs.size+1) scope.names []) (bindC (?O).kindOf (ps.zip us) fun _=>none) s1):
  A0 (K4 CX P w K mg base N qual scope f cd A outer s H E) [] (start N vs) H s1:=by
 have hpl:ps.length<=N.length:=by have:=congrArg List.length S.pre;rw[cW]at this;lia
 obtain⟨h1,tk,rfl,hk⟩:=x.done;have gP:∀b:Ap,b∉(K4 CX P w K mg base N qual scope f cd A outer s H E).ex:=fun b z=>absurd (show b∈([]:O Ap)from z) ?E;refine⟨⟨e0.mod,S.kind,rfl,rfl,ak _,fun y z c h1 h2=>?_,fun y hy=>?_,fun y c _ h=>?_,fun _=>hd,Around.frames_deeper e0.frames,.inr ⟨rfl,rfl⟩,fun b z=>absurd z (gP b),e0.bs,e0.bsz,fun b _ _=>gP b,fun b z=>absurd z (gP b),e0.funs,e0.frf⟩,
  rfl,e0.bare,Un.kept hk,⟨_,x.toInCall.ns,fun i y v h1 h2 h3=>?_⟩,fun y c h=>⟨_,x.cell y c h⟩,e0.hok.fresh (ak _),fun y c h=>?_,fun p hp=>absurd (show p∈([]:Pn9)from hp) ?E,e0.hok.kept hk,?_⟩
 ·exact name_of_addr x.apart (bI h1) (bI h2)
 ·have hy:scope.names.lookup y=some .cell\/scope.names.lookup y=some .free:=hy;rcases hy with hy |hy
  ·exact Y2k hy
  ·exact absurd rfl (S.nofree _ (bI hy))
 ·exact dP (x.above y c (bI h))
 ·have hi:i<vs.length:=by
   unfold start at h2
   by_cases hi:i<vs.length
   ·exact hi
   ·rw[aR (by simpa using hi)]at h2;rw[fI]at h2;split at h2<;>cases h2
  have ha:vs[i]?=some v:=by
   unfold start at h2;rw[aJ (by simpa using hi),ah]at h2;cases e:vs[i]? with
   |none=>rw[e]at h2;cases h2
   |some a=>rw[e]at h2;cases h2;rfl
  obtain⟨u,hu,rv⟩:=r.get ha;have hp:ps[i]?=some y:=by
   rw[<-S.pre,List.getElem?_take_of_lt (?H)];exact h1
  have ux:ps.Nodup:=by rw[<-S.pre];exact S.nd.sublist (List.take_sublist _ _)
  refine⟨u,rv,?_⟩;rcases S.par y (au hp)with k |k
  ·exact .inl ⟨k,Y1w ux hp hu k⟩
  ·obtain⟨c,e⟩:=Y2k (n:=s.heap.objs.size+1) k;refine .inr ⟨.inl k,c,e,?_⟩;have q:=x.cell y c e;rw[Y1u ux hp hu (by show scope.names.lookup y≠_;rw[k];decide)]at q;exact q
 ·exact e0.hok.fresh (dP (x.above y c (bI h)))
 ·unfold start;show _=N.length;rw[ao,ai,aZ];lia
theorem Z0m {w:Av}{K:Fg9}   {k:Nat}      {dV kV:An} 
    {sp:Sp} (lk:K.lookup f=some ⟨oc,od,.func (PySem.W.fnOf name qual params body scope dV kV dG pm an cdv ct),fK⟩) (fA:PySem.W.codeIn K cdv qual=true) (S:T9 N ps scope)
  (len:∀vs H Q E,sp vs H Q E->vs.length=ps.length)
  (bS:∀(A:As) (outer:O Env) (s:Ao) (H:Hp) (vs:O V) (Q:VK) (E:XK),E1 k (A.deeper (envOfC qual scope s.heap.objs.size f cdv))->sp vs H Q E ->
   ∃t,T0 (K4 CX P w K mg base N qual scope f cdv A outer s H E) body t/\t {nx:=fun _ H'=>Q .non H',rt:=Q} (start N vs) H):
  O3 P w K mg base CX (k+1) f (PySem.W.fnOf name qual params body scope dV kV dG pm an cdv ct) ps sp:=by
 refine⟨len,fun A outer s H args us vs Q E hr e0 hb r ii=>?_⟩;have hl:=len _ _ _ _ ii;have KX:K.In s.heap:=e0.mod.kin.keeps fun b o e=>(e0.bs b o e).1;have kY:s.heap.NoLimit:=e0.mod.nolimit.keeps fun b o e=>(e0.bs b o e).1;have il:∀y∈ps.zip us,scope.names.lookup y.1=some .local\/(scope.names.lookup y.1=some .cell/\((cellsFrom (s.heap.objs.size+1) scope.names []).lookup y.1).isSome=true):=fun⟨n,v⟩ hy=>by
  rcases S.par n (cS hy).1 with q |q
  ·exact .inl q
  ·exact .inr ⟨q,dI _ _ _ (.inl q)⟩
 refine hV hr.depth (KX _ _ lk) rfl S.co S.gen rfl (i0 KX fA) (hb _ _ _ _ ?_);refine fE S.kind il fun env he s1 x=>?_;subst he;refine⟨kY.keeps x.toInCall.keep,Ai ?_⟩;obtain⟨t,ht,hq⟩:=bS A outer s H vs Q E (hr.deeper _) ii;have I:A0 (K4 CX P w K mg base N qual scope f cdv A outer s H E) [] (start N vs) H s1:=Z5k S hr.hd e0 hl r x;refine aP (ht [] s1 (start N vs) H _ I hq) (fun fl s' hs=>?_) fun e s' hs=>hs;have fin:∀{σ':St}{H':Hp}{v:V}{u:An},A0 (K4 CX P w K mg base N qual scope f cdv A outer s H E) [] σ' H' s'->C4 v u->Q v H'->CE outer P w H s Q u s':=
  fun {σ' H' v u} J rv q=>⟨v,H',J.os,J.bare,J.base,J.hok,rv,q⟩
 cases fl with
 |ret u=>
  obtain⟨v,σ',H',J,rv,q⟩:=hs;exact fin J rv q
 |next=>
  obtain⟨σ',H',J,q⟩:=hs;exact fin (v:=V.non) (u:=Value.none) J rfl q
 |brk=>
  obtain⟨_,_,_,q⟩:=hs;exact False.elim q
 |cont=>
  obtain⟨_,_,_,q⟩:=hs;exact False.elim q
section
variable {es:O Aq}{t:TA}{id:String}{r:O V->Hp->VK->Prop}
def tCB (r:O V->Hp->VK->Prop)(t:TA):TE:=fun σ H Q=>t σ H fun vs H1=>r vs H1 Q
def Y6w (hc:Q5u X (.builtin id) r)(hg:Gl X x)(hm:X.mg x=none)(hv:bootBuiltins x=some (.builtin id))(ha:PA X (e::es) t)(hn:x≠"__name__":=by decide)(eT:?Q:=by decide)
  (he:?I:=by rfl) (hpl:?S:=by rfl):PE X (.Call (.Name x p) (e::es) [] pos) (tCB r t):=by
 intro ae s σ H Q I h;refine bn (Q1k I hg hm hv ?_ hn eT);exact PyProof.Rows.callWith_builtin1 (B3 (ha pos ae s σ H _ I h) fun us s1 ⟨vs,H1,I1,r1,q1⟩=>hc ae s1 σ H1 vs us Q I1 r1 q1) he hpl
def V2l (hc:Q5u X (.type T) r)(hg:Gl X x)(hm:X.mg x=none)(hv:bootBuiltins x=some (.type T))(ha:PA X (e::es) t)(hn:x≠"__name__":=by decide)(eT:?Q:=by decide)
  (he:?I:=by rfl) (hpl:?S:=by rfl):PE X (.Call (.Name x p) (e::es) [] pos) (tCB r t):=by
 intro ae s σ H Q I h;refine bn (Q1k I hg hm hv ?_ hn eT);exact bb (B3 (ha pos ae s σ H _ I h) fun us s1 ⟨vs,H1,I1,r1,q1⟩=>hc ae s1 σ H1 vs us Q I1 r1 q1) he hpl
end
namespace HT
open PySem PyProof.Rows
section
variable {w:Av}
def cat_tup {t:Ap}{vs ws:O An}  (ht:IsTup s.heap t vs.toArray)(hb:IsTup s.heap b ws.toArray)(hv:vs≠[])
  (h1:ws=[]->Q (.ref t) s) (h2:ws≠[]->Q (.ref s.heap.objs.size) {s with heap:=s.heap.push {cls:=.type "tuple",data:=.seq (vs++ws).toArray}})
  (hsz:vs.length+ws.length<=sizeLine):wpAny ?V A (binaryOp .Add (.ref t) (.ref b)) Q E s:=by
 obtain⟨⟨cls,dd,data,sl⟩,ho,hc,n,hd⟩:=id ht;obtain⟨⟨pE,m9,data2,jy⟩,jC,j4,n2,kD⟩:=id hb;simp only at hc hd j4 kD;subst hc hd j4 kD;have e:vs.toArray++ws.toArray=(vs++ws).toArray:=by simp
 by_cases hw:ws=[]
 ·exact Ah ⟨_,ho,rfl⟩ ⟨_,jC,rfl⟩ mi vX fS fH (fz _ _)
   (tuple_addW1 t b vs.toArray ws.toArray n n2 dd m9 sl jy (by simpa using hv) (by simp[hw])) ⟨ho,jC,h1 hw⟩
 ·refine Ah ⟨_,ho,rfl⟩ ⟨_,jC,rfl⟩ mi vX fS fH (fz _ _)
   (tuple_addW2 t b vs.toArray ws.toArray n n2 dd m9 sl jy (by simpa using hv) (by simpa using hw) (by rw[aH,aH];exact hsz)) ⟨ho,jC,?_⟩
  rw[e];exact h2 hw
def sIx (n d:Nat):Am Int->Nat
 |none=>d
 |some v=>if v<0 then(v+(n:Int)).toNat else min v.toNat n
theorem sIx_none (n d:Nat):sIx n d none=d:=rfl
theorem sIx_nat (n d k:Nat):sIx n d (some (k:Int))=min k n:=by
 show(if (k:Int)<0 then((k:Int)+(n:Int)).toNat else min (k:Int).toNat n)=min k n;rw[aI (?H),bL]
theorem V6e (n d:Nat)(hd:d<=n)(o:Am Int):sIx n d o<=n:=by
 cases o with
 |none=>exact hd
 |some v=>
  show(if v<0 then(v+(n:Int)).toNat else min v.toNat n)<=n
  by_cases hv:v<0
  ·rw[aO hv];lia
  ·rw[aI hv];exact Nat.min_le_right _ _
theorem Y2n (v:Int)(n d:Nat):(if v<0 then max (v+(n:Int)) 0 else min v (n:Int))=((sIx n d (some v):Nat):Int):=by
 show(if v<0 then max (v+(n:Int)) 0 else min v (n:Int))=(((if v<0 then(v+(n:Int)).toNat else min v.toNat n):Nat):Int)
 by_cases hv:v<0
 ·simp only[aO hv];lia
 ·simp only[aI hv];lia
theorem W4r (lo hi:Am Int)(n:Nat):Builtin.Slice.sliceAdjust lo hi 1 (n:Int)=(((sIx n 0 lo:Nat):Int),((sIx n n hi:Nat):Int)):=by
 have h1:¬ ((1:Int)<0):=?H
 unfold Builtin.Slice.sliceAdjust;simp only[h1,ff];refine Prod.ext ?_ ?_
 ·cases lo with
  |none=>rfl
  |some v=>exact Y2n v n 0
 ·cases hi with
  |none=>rfl
  |some v=>exact Y2n v n n
theorem V3p (i j:Nat):Builtin.Slice.slicePlaces (i:Int) (j:Int) 1=j-i:=by
 unfold Builtin.Slice.slicePlaces;have h1:(1:Int) > 0:=?H
 simp only[h1,fD,Int.ediv_one];split<;>lia
theorem Y8x {v:An}{o:Am Int}{Q:Am Int->Ao->Prop}(p:IsPart v o)(h:Q o s):wpAny ?V A (Builtin.Slice.slicePartIndex v) Q E s:=by
 cases p with
 |none=>exact slicePart_none h
 |int i t=>exact slicePart_int h
def Y8w {lo:Am Int}  {Q:Int×Int×Nat->Ao->Prop}(hs:s.heap.IsSliceOf sl vl vu .none)(pl:IsPart vl lo)(pu:IsPart vu hi)
  (h:Q (((sIx n 0 lo:Nat):Int),1,sIx n n hi-sIx n 0 lo) s):wpAny ?V A (Builtin.Slice.sliceApplied (.ref sl) (pure (n:Int))) Q E s:=by
 obtain⟨os,jB,gS,jq⟩:=id hs;unfold Builtin.Slice.sliceApplied Builtin.Slice.sliceFields;refine aa (aa (bu jB jq (x:=vl) rfl (aa (bu jB jq (x:=vu) rfl (aa (bu jB jq (x:=.none) rfl (am ?_)))))));refine aa (slicePart_none ?_);show wpAny _ _ (if ((1:Int)==0)=true then _ else _) _ _ s;rw[aI (?G)];refine aa (Y8x pl (aa (Y8x pu (aa (am ?_)))));show wpAny _ _ (match Builtin.Slice.sliceAdjust lo hi 1 (n:Int)with |(lo,hi)=>pure (lo,(1:Int),Builtin.Slice.slicePlaces lo hi 1)) _ _ s;rw[W4r lo hi n];show wpAny _ _ (pure (((sIx n 0 lo:Nat):Int),(1:Int),Builtin.Slice.slicePlaces ((sIx n 0 lo:Nat):Int) ((sIx n n hi:Nat):Int) 1)) _ _ s;rw[V3p];exact am h
theorem V3o (xs:Array An)(i k:Nat):((List.range k).filterMap fun(m:Nat)=>xs[((i:Int)+(m:Int)*1).toNat]?).toArray=((xs.toList.drop i).take k).toArray:=by
 have e:(fun(m:Nat)=>xs[((i:Int)+(m:Int)*1).toNat]?)=fun m=>xs[i+m]?:=by
  funext m
  have:((i:Int)+(m:Int)*1).toNat=i+m:=?H
  rw[this]
 rw[e];have:=pick_run xs i k;rw[List.filterMap_map]at this;have e2:((fun x=>xs[x]?) ∘ fun x=>i+x)=fun m=>xs[i+m]?:=rfl;rw[e2]at this;rw[this]
theorem getItem_tuple_cut {t:Ap}   {lo:Am Int}  (ht:IsTup s.heap t items)(hs:s.heap.IsSliceOf sl vl vu .none)(pl:IsPart vl lo)(pu:IsPart vu hi)
  (hw:¬ (sIx items.size 0 lo=0/\sIx items.size items.size hi=items.size))
  (h:Q (.ref s.heap.objs.size) {s with heap:=s.heap.push {cls:=.type "tuple",data:=.seq ((items.toList.drop (sIx items.size 0 lo)).take (sIx items.size items.size hi-sIx items.size 0 lo)).toArray}})
  (hsz:items.size<=sizeLine):wpAny ?V A (getItem (.ref t) (.ref sl)) Q E s:=by
 have iY:sizeOk (.seq ((items.toList.drop (sIx items.size 0 lo)).take (sIx items.size items.size hi-sIx items.size 0 lo)).toArray):=by
  show((items.toList.drop (sIx items.size 0 lo)).take (sIx items.size items.size hi-sIx items.size 0 lo)).toArray.size<=sizeLine;rw[aH,cW,dY,db];lia
 have hj:sIx items.size items.size hi<=items.size:=V6e _ _ (ak _) hi;obtain⟨os,jB,gS,jq⟩:=id hs;have tm:s.TypeIs (.ref sl) "slice":=⟨os,jB,gS⟩
 unfold getItem
 try with_reducible refine bD ?_
 first |refine aa (am ?_) |skip
 refine aa (wpAny_sequenceKey ht.typeIs (?G) ?_);refine aa (bU (name:=Str.ofString "__getitem__") ht.typeIs bE
  (ci bE ht.typeIs entry_tuple_getitem ?_ (args_tuple_getitem _ _)))
 show wpAny _ _ (Builtin.Tuple.tupleItemsOf (.ref t)>>=_) _ _ s;refine aa (tupleItemsOf_ ht ?_);refine aa (lA tm ?_);rw[aO (?G)];refine aa (Y8w hs pl pu ?_);have mV:¬ ((((sIx items.size 0 lo:Nat):Int)==0&&(1:Int)==1&&(sIx items.size items.size hi-sIx items.size 0 lo)==items.size)=true):=by
  intro q;rw[ce,ce]at q;have q1:((sIx items.size 0 lo:Nat):Int)=0:=eq_of_beq q.1.1;have q2:sIx items.size items.size hi-sIx items.size 0 lo=items.size:=eq_of_beq q.2;exact hw ⟨?H,?H⟩
 show wpAny _ _ (if (((sIx items.size 0 lo:Nat):Int)==0&&(1:Int)==1&&(sIx items.size items.size hi-sIx items.size 0 lo)==items.size)=true then _ else _) _ _ s;rw[aI mV,V3o]
 first
  |exact aa (m:=Builtin.Tuple.tupleExact _) (bQ (am ⟨_,rfl,am h⟩) iY)
  |exact aa (m:=Builtin.Tuple.tupleExact _) (bQ (aa (am (am ⟨_,rfl,am h⟩))) iY)
  |exact aa (aa (m:=Builtin.Tuple.tupleExact _) (bQ (am (am ⟨_,rfl,am h⟩)) iY))
  |exact aa (aa (m:=Builtin.Tuple.tupleExact _) (bQ (am ⟨_,rfl,am h⟩) iY))
end
end HT
abbrev TO:=St->Hp->(Am Int->Hp->Prop)->Prop
def PO (X:Cx)(e:Am Aq)(t:TO):Prop:=
 ∀(ae:Pn9) (s:Ao) (σ:St) (H:Hp) (Q:Am Int->Hp->Prop),?A->t σ H Q ->
  wpAny ?C X.A (evalPart e X.env) (fun u s'=>∃o H',A0 X ae σ H' s'/\IsPart u o/\Q o H') X.xe s
def V8r:TO:=fun _ H Q=>Q none H
def V8t (t:TE):TO:=fun σ H Q=>t σ H fun x H1=>∃i,x=.int i/\Q (some i) H1
section
variable {lo hi:Am Aq}{tl th:TO}{p2:Pos}
def V3q:PO X none V8r:=by
 intro ae s σ H Q I h;rw[evalPart_none];exact am ⟨none,H,I,.none,h⟩
def V3r (h:PE X e te):PO X (some e) (V8t te):=by
 intro ae s σ H Q I hw;rw[evalPart_some];refine B3 (h ae s σ H _ I hw) fun u s1 bB=>?_;obtain⟨x,H1,I1,r1,q1⟩:=bB;obtain⟨i,rfl,q⟩:=q1;obtain⟨t,rfl⟩:=r1;exact⟨some i,H1,I1,.int i t,q⟩
def SlR (X:Cx)(r:V->Am Int->Am Int->Hp->VK->Prop):Prop:=
 ∀(ae:Pn9) (s:Ao) (σ:St) (H:Hp) (x:V) (v vl vu:An) (lo hi:Am Int) (sl:Ap) (Q:VK),?A->C4 x v->s.heap.IsSliceOf sl vl vu .none->IsPart vl lo->IsPart vu hi->r x lo hi H Q ->
  ∃T id,typeLookup (.type T) "__getitem__"=pure (some (.builtin id))/\s.TypeIs v T/\wpAny ?C X.A (getItem v (.ref sl)) (EP X ae σ Q) X.xe s
def SlR.or (h:SlR X r)(h':SlR X r'):SlR X (fun x lo hi H Q=>r x lo hi H Q\/r' x lo hi H Q):=by
 intro ae s σ H x v vl vu lo hi sl Q I rx hs pl pu q;rcases q with q |q
 ·exact h ae s σ H x v vl vu lo hi sl Q I rx hs pl pu q
 ·exact h' ae s σ H x v vl vu lo hi sl Q I rx hs pl pu q
def tSl (r:V->Am Int->Am Int->Hp->VK->Prop)(te:TE)(tl th:TO):TE:=fun σ H Q=>te σ H fun x H1=>tl σ H1 fun l H2=>th σ H2 fun u H3=>r x l u H3 Q
def V3e (hr:SlR X r)(he:PE X e te)(hl:PO X lo tl)(hu:PO X hi th):PE X (.Subscript e (.Slice lo hi none p2) pos) (tSl r te tl th):=by
 intro ae s σ H Q I h;refine Subscript_ (B3 (he ae s σ H _ I h) fun v s1 bB=>?_);obtain⟨x,H1,I1,r1,q1⟩:=bB;refine wpAny_Slice (B3 (hl ae s1 σ H1 _ I1 q1) fun vl s2 ⟨l,H2,I2,pl,q2⟩=>B3 (hu ae s2 σ H2 _ I2 q2) fun vu s3 bB=>?_);obtain⟨u,H3,I3,pu,q3⟩:=bB;rw[evalPart_none];refine am ?_;have I4:A0 X ae σ H3 {s3 with heap:=s3.heap.push {cls:=.type "slice",data:=.fields #[vl,vu,.none]}}:=I3.kept (t':=s3.toks) fun b ob q=>af _ q;obtain⟨T,id,hT,ht,hg⟩:=hr ae {s3 with heap:=s3.heap.push {cls:=.type "slice",data:=.fields #[vl,vu,.none]}} σ H3 x v vl vu l u s3.heap.objs.size Q I4 r1 (Heap.IsSliceOf.new ..) pl pu q3;show wpAny ?C X.A (subscriptTail e (.Slice lo hi none p2) v (.ref s3.heap.objs.size)) (EP X ae σ Q) X.xe {s3 with heap:=s3.heap.push {cls:=.type "slice",data:=.fields #[vl,vu,.none]}};exact tail_any (ops:=[.ref s3.heap.objs.size,v]) ht hT hg (by with_unfolding_all rfl)
def Q1i (xs:O V)(lo hi:Am Int):O V:=(xs.drop (HT.sIx xs.length 0 lo)).take (HT.sIx xs.length xs.length hi-HT.sIx xs.length 0 lo)
theorem Y3a (xs:O V)(lo hi:Am Int):(Q1i xs lo hi).length<=xs.length:=by
 unfold Q1i;rw[cW,dY];lia
def rSlT (K:Fg9):V->Am Int->Am Int->Hp->VK->Prop:=fun x lo hi H Q=>∃a xs,x=.ref a/\D9 K H a xs /\
 ¬ (HT.sIx xs.length 0 lo=0/\HT.sIx xs.length xs.length hi=xs.length)/\∀p,H p=none->Q (.ref p) (A9 H p (.tup (Q1i xs lo hi)))
def V7v:SlR X (rSlT X.K):=by
 intro ae s σ H x v vl vu lo hi sl Q I rx hs pl pu h;obtain⟨a,xs,rfl,hx,hw,q⟩:=h;cases rx;obtain⟨aY,r,ht,hz⟩:=I.tuple hx;have cp:aY.toArray.size=xs.length:=by rw[aH];exact r.length.symm
 refine⟨"tuple",_,bE.lookup,ht.typeIs,?_⟩;refine HT.getItem_tuple_cut ht hs pl pu (by rw[cp];exact hw) ?_ (by rw[cp];exact hz);rw[cp];refine⟨.ref s.heap.objs.size,_,I.laid (t':=s.toks) (o:=.tup (Q1i xs lo hi)) (fun b ob q=>af _ q) (ak _) ?_,rfl,q _ (I.hok.fresh (ak _))⟩;exact⟨aU (Y3a xs lo hi) hz,_,(r.drop (HT.sIx xs.length 0 lo)).take (HT.sIx xs.length xs.length hi-HT.sIx xs.length 0 lo),IsTup.new _ _⟩
def V4k (K:Fg9):R2:=fun x y H Q=>∃a b xs ys,x=.ref a/\y=.ref b/\D9 K H a xs/\D9 K H b ys/\xs≠[]/\xs.length+ys.length<=sizeLine /\
 (ys=[]->Q (.ref a) H)/\(ys≠[]->∀p,H p=none->Q (.ref p) (A9 H p (.tup (xs++ys))))
theorem C0.nil_iff (r:C0 xs us):us=[] ↔ xs=[]:=by
 cases r with
 |nil=>simp
 |cons _ _=>simp
def V1u:N8 X (binaryOp .Add) (V4k X.K):=by
 intro ae s σ H x y v u Q I rx ry h;obtain⟨a,b,xs,ys,rfl,rfl,ha,hb,hx,hz,q1,q2⟩:=h;cases rx;cases ry;obtain⟨aY,r1,p1,_⟩:=I.tuple ha;obtain⟨dB,r2,p2,_⟩:=I.tuple hb;refine HT.cat_tup p1 p2 (fun z=>hx (r1.nil_iff.mp z)) (fun z=>⟨.ref a,H,I,rfl,q1 (r2.nil_iff.mp z)⟩) (fun z=>?_) (by rw[<-r1.length,<-r2.length];exact hz);refine⟨.ref s.heap.objs.size,_,I.laid (t':=s.toks) (o:=.tup (xs++ys)) (fun b ob q=>af _ q) (ak _) ?_,rfl,q2 (fun w=>z (r2.nil_iff.mpr w)) _ (I.hok.fresh (ak _))⟩;exact⟨by rw[ao];exact hz,_,r1.append r2,IsTup.new _ _⟩
end
def ixN (n:Nat)(i:Int):Am Nat:=if 0<=i then(if i<n then some i.toNat else none)else if -(n:Int)<=i then some (i+n).toNat else none
def L9 (xs:O α)(i:Int):Am α:=(ixN xs.length i).bind fun j=>xs[j]?
theorem Z5m {i:Int}{j:Nat}(h:ixN n i=some j):seqIndex? i n=some j/\j<n/\-(n:Int)<=i/\i<n:=by
 unfold ixN at h
 by_cases h0:0<=i
 ·rw[aO h0]at h
  by_cases h1:i<n
  ·rw[aO h1]at h;have e:i.toNat=j:=aC h;exact⟨by rw[nN h0 h1,e],?H,?H,h1⟩
  ·rw[aI h1]at h;cases h
 ·rw[aI h0]at h
  by_cases h1:-(n:Int)<=i
  ·rw[aO h1]at h;have e:(i+n).toNat=j:=aC h;exact⟨by rw[seqIndex_neg (?H) h1,e],?H,h1,?H⟩
  ·rw[aI h1]at h;cases h
theorem Z0b {xs:O α}{i:Int}{v:α}(h:L9 xs i=some v):∃j,seqIndex? i xs.length=some j/\xs[j]?=some v/\j<xs.length/\-(xs.length:Int)<=i/\i<xs.length:=by grind [L9,ixN,Z5m]
theorem R1 {xs:O α}{j:Nat}{v:α}(h:xs[j]?=some v):L9 xs (j:Int)=some v:=by grind [ixN,L9]
def Z3l (b:Aq):Prop:=∀o i,subscripted b false o i=operate [o,i] (getItem o i)
def IxR (X:Cx)(r:R2):Prop:=
 ∀(value slice:Aq) (ae:Pn9) (s:Ao) (σ:St) (H:Hp) (x y:V) (v u:An) (Q:VK),?A->C4 x v->C4 y u->r x y H Q ->
  subscripted slice false v u=operate [v,u] (getItem v u)->wpAny ?C X.A (subscriptTail value slice v u) (EP X ae σ Q) X.xe s
def MtR (X:Cx)(id:String)(r:V->O V->Hp->VK->Prop):Prop:=
 ∀(ae:Pn9) (s:Ao) (σ:St) (H:Hp) (x:V) (xs:O V) (v:An) (us:O An) (Q:VK),?A->C4 x v->C0 xs us->r x xs H Q ->
  wpAny ?C X.A (call (.builtin id) (v::us)) (EP X ae σ Q) X.xe s
section
variable {a b:Aq}{tb:TE}
def IxR.or {r r':R2}(h:IxR X r)(h':IxR X r'):IxR X (fun x y H Q=>r x y H Q\/r' x y H Q):=by
 intro value slice ae s σ H x y v u Q I rx ry q hs;rcases q with q |q
 ·exact h value slice ae s σ H x y v u Q I rx ry q hs
 ·exact h' value slice ae s σ H x y v u Q I rx ry q hs
def Y6x {r:R2}(hr:IxR X r)(ha:PE X a ta)(hb:PE X b tb)(hs:Z3l b):PE X (.Subscript a b pos) (tOp r ta tb):=by
 intro ae s σ H Q I h;exact Subscript_ (Z3w ha hb I h fun v u s2 x y H2 I2 rx ry q=>hr a b ae s2 σ H2 x y v u Q I2 rx ry q (hs _ _))
def rIxL (K:Fg9):R2:=fun x y H Q=>∃p xs i v,x=.ref p/\y=.int i/\E8 K H p xs/\L9 xs i=some v/\Q v H
def rIxT (K:Fg9):R2:=fun x y H Q=>∃p xs i v,x=.ref p/\y=.int i/\D9 K H p xs/\L9 xs i=some v/\Q v H
def rIxS:R2:=fun x y H Q=>∃z i c,x=.str z/\y=.int i/\z.length<=sizeLine/\L9 z.cps.toList i=some c/\Q (.str ⟨#[c]⟩) H
theorem W8f:IxR X (rIxL X.K):=by
 intro value slice ae s σ H x y v u Q I rx ry h hs;obtain⟨p,xs,i,z,rfl,rfl,hq,he,q⟩:=h;cases rx;obtain⟨t,rfl⟩:=ry;obtain⟨aY,r,pl,hz⟩:=I.list hq;obtain⟨j,h1,h2,h3,h4,h5⟩:=Z0b he;obtain⟨w,ew,iG⟩:=r.get h2;have hl:=r.length;have hn:=Q4l;have fin:EP X ae σ Q w s:=⟨z,H,I,iG,q⟩
 by_cases h0:0<=i
 ·have hj:i.toNat=j:=by
   rw[nN h0 h5]at h1;exact aC h1
  exact item_listR pl.isList h0 (?H) (by rw[hj];simpa using ew) fin hs
 ·have hj:(i+(aY.toArray.size:Int)).toNat=j:=by
   rw[seqIndex_neg (?H) h4]at h1;rw[aH,<-hl];exact aC h1
  exact jv (x:=w) pl.isList.typeIs kM.lookup
   (zZ (Q:=fun r s'=>r=w/\EP X ae σ Q r s') pl.isList (?H) (by rw[aH]<;>lia) (?H) (by rw[hj];simpa using ew) ⟨rfl,fin⟩) hs
theorem W8i:IxR X (rIxT X.K):=by
 intro value slice ae s σ H x y v u Q I rx ry h hs;obtain⟨p,xs,i,z,rfl,rfl,hq,he,q⟩:=h;cases rx;obtain⟨t,rfl⟩:=ry;obtain⟨aY,r,pl,hz⟩:=I.tuple hq;obtain⟨j,h1,h2,h3,h4,h5⟩:=Z0b he;obtain⟨w,ew,iG⟩:=r.get h2;have hl:=r.length;have hn:=Q4l;have fin:EP X ae σ Q w s:=⟨z,H,I,iG,q⟩
 exact jv (x:=w) pl.typeIs slot_tuple_getitem.lookup
  (getItem_tuple (j:=j) (Q:=fun r s'=>r=w/\EP X ae σ Q r s') pl (?H) (?H) (by rw[aH,<-hl];exact h1) (by simpa using ew) ⟨rfl,fin⟩) hs
theorem W8h:IxR X rIxS:=by
 intro value slice ae s σ H x y v u Q I rx ry h hs;obtain⟨z,i,c,rfl,rfl,hz,he,q⟩:=h;obtain⟨t,rfl⟩:=rx;obtain⟨t',rfl⟩:=ry;obtain⟨j,h1,h2,h3,h4,h5⟩:=Z0b he;have hl:z.cps.toList.length=z.length:=by simp[Str.length]
 rw[hl]at h1 h4 h5;have hn:=Q4l;exact tail_any (typeIs_str s z t) slot_str_getitem.lookup (getItem_str (c:=c) (by
  have e1:decide (i < -(2^63:Int))=false:=aW (?H);have e2:decide (i ≥ 2^63)=false:=aW (?H);rw[e1,e2,Bool.or_false]) (by rw[h1];simpa using h2) ⟨.str ⟨#[c]⟩,H,I.tok _,⟨_,rfl⟩,q⟩) hs
def rIx (K:Fg9):R2:=fun x y H Q=>rIxL K x y H Q\/rIxT K x y H Q\/rIxS x y H Q
def W8g:IxR X (rIx X.K):=W8f.or (W8i.or W8h)
def W9t (aY:O An)(n j:Nat)(u:An):Obj.mapSeq (·.setIfInBounds j u) ?A3={cls:=.type "list",data:=.seq (aY.set j u).toArray n}:=by
 simp[Obj.mapSeq]
def A0.lst {σ:St}   {p:Ap}  (I:?A)(h:H p=some (.lst xs)):
  ∃(aY:O An) (n:Nat),C0 xs aY/\s.heap.get? p=some ?A3/\xs.length<=sizeLine:=by
 obtain⟨z,aY,n,r,e⟩:=I.hok p _ h;exact⟨aY,n,r,e,z⟩
def A0.lstUpd {σ:St}   {p:Ap}   {n':Nat}{f:Obj->Obj}(I:?A)(h:H p=some (.lst xs))
  (ho:s.heap.get? p=some ?A3) (hf:f ?A3={cls:=.type "list",data:=.seq its'.toArray n'}) (r:C0 ys its') (hz:ys.length<=sizeLine) (t:Nat):
  A0 X ae σ (A9 H p (.lst ys)) {s with heap:=s.heap.update p f,toks:=t}:=by
 have e:(s.heap.update p f).get? p=some {cls:=.type "list",data:=.seq its'.toArray n'}:=by
  rw[cF f ho (by rw[hf]<;>rfl),hf]
 refine I.write (x:=p) (e:=p) (by rw[h];trivial) (.inl rfl) (fun b u hb q=>(bM _ _ (bN hb)).trans q) ⟨_,e⟩ ?_;exact⟨hz,its',n',r,e⟩
def V4m:V->V->V->Hp->(Hp->Prop)->Prop:=fun o i v H Q=>∃p xs k j,o=.ref p/\i=.int k/\H p=some (.lst xs)/\ixN xs.length k=some j/\Q (A9 H p (.lst (xs.set j v)))
theorem Y8s:Z3k X V4m:=by
 intro ae s σ H o i v ov iv u Q I ro ri rv h;obtain⟨p,xs,k,j,rfl,rfl,hp,hj,q⟩:=h;cases ro;obtain⟨t,rfl⟩:=ri;obtain⟨aY,n,r,ho,hz⟩:=I.lst hp;obtain⟨h1,h2,h3,h4⟩:=Z5m hj;have hl:=r.length;have hn:=Q4l;have I':A0 X ae σ (A9 H p (.lst (xs.set j v))) {s with heap:=s.heap.update p (Obj.mapSeq (·.setIfInBounds j u))}:=
  I.lstUpd hp ho (W9t aY n j u) (r.set rv j) (by rw[bx];exact hz) s.toks
 by_cases h0:0<=k
 ·have hk:k.toNat=j:=by
   rw[nN h0 h4]at h1;exact aC h1
  exact PySem.W.ki_setAt ho h0 (?H) (by rw[aH,<-hl];exact h4) (by rw[hk];exact⟨_,I',q⟩)
 ·have hk:(k+(aY.toArray.size:Int)).toNat=j:=by
   rw[seqIndex_neg (?H) h3]at h1;rw[aH,<-hl];exact aC h1
  exact PySem.W.ki_setBack ho (?H) (by rw[aH,<-hl];exact h3) (?H) (by rw[hk];exact⟨_,I',q⟩)
theorem V7y (lo hi:Am Int)(n:Nat):(sliceBounds lo hi none n).1=((HT.sIx n 0 lo:Nat):Int)/\(sliceBounds lo hi none n).2.1=((HT.sIx n n hi:Nat):Int)/\(sliceBounds lo hi none n).2.2=1:=by
 refine⟨?_,?_,rfl⟩
 ·cases lo with
  |none=>simp[sliceBounds,HT.sIx]
  |some i=>
   simp only[sliceBounds,HT.sIx,Ad,show(1:Int) > 0 by decide,fD]
   by_cases h:i<0
   ·simp only[h,fD]<;>lia
   ·simp only[h,ff]<;>lia
 ·cases hi with
  |none=>simp[sliceBounds,HT.sIx]
  |some i=>
   simp only[sliceBounds,HT.sIx,Ad,show(1:Int) > 0 by decide,fD]
   by_cases h:i<0
   ·simp only[h,fD]<;>lia
   ·simp only[h,ff]<;>lia
def V7x (aY:O An)(lo hi:Am Int):slicePick aY.toArray lo hi none=((aY.drop (HT.sIx aY.length 0 lo)).take (HT.sIx aY.length aY.length hi-HT.sIx aY.length 0 lo)).toArray:=by
 obtain⟨h1,h2,h3⟩:=V7y lo hi aY.toArray.size;unfold slicePick;rw[h1,h2,h3];simp only[sliceRange_one,pick_run,aH]<;>rfl
def rSlL (K:Fg9):V->Am Int->Am Int->Hp->VK->Prop:=fun x lo hi H Q=>∃a xs,x=.ref a/\E8 K H a xs/\∀p,H p=none->Q (.ref p) (A9 H p (.lst (Q1i xs lo hi)))
theorem V7t:SlR X (rSlL X.K):=by
 intro ae s σ H x v vl vu lo hi sl Q I rx hs pl pu h;obtain⟨a,xs,rfl,hx,q⟩:=h;cases rx;obtain⟨aY,r,ht,hz⟩:=I.list hx;have cp:=r.length;refine⟨"list",_,kM.lookup,ht.isList.typeIs,?_⟩;refine wpAny_getItem_list_slice ht.isList hs pl pu .none ?E ?_ (by rw[aH]<;>lia);rw[V7x,<-cp];refine⟨.ref s.heap.objs.size,_,I.laid (t':=s.toks) (o:=.lst (Q1i xs lo hi)) (fun b ob q=>af _ q) (ak _) ?_,rfl,q _ (I.hok.fresh (ak _))⟩;exact⟨aU (Y3a xs lo hi) hz,_,0,(r.drop (HT.sIx xs.length 0 lo)).take (HT.sIx xs.length xs.length hi-HT.sIx xs.length 0 lo),aG _ rfl⟩
theorem W5l:Q5u X (.type "tuple") (fun xs H Q=>∃p ys,xs=[.ref p]/\((E8 X.K H p ys/\∀l,H l=none->Q (.ref l) (A9 H l (.tup ys)))\/(D9 X.K H p ys/\Q (.ref p) H))):=by
 intro ae s σ H xs us Q I r h;obtain⟨p,ys,rfl,h⟩:=h;obtain⟨u,rfl,rx⟩:=Z2 r;cases rx;rcases h with⟨hq,q⟩ |⟨hq,q⟩
 ·obtain⟨aY,r',pl,hz⟩:=I.list hq;have cp:=r'.length;refine call_tuple_list pl.isList (fun h' kp=>?_) (by simp only[aH]<;>lia);have I1:A0 X ae σ H {s with heap:=h'}:=I.kept (t':=s.toks) kp;have I2:A0 X ae σ (A9 H h'.objs.size (.tup ys)) {s with heap:=h'.push {cls:=.type "tuple",data:=.seq aY.toArray}}:=
   I1.laid (t':=s.toks) (fun b o e=>af _ e) (ak _) (show ObjOk X.prog X.w _ _ _ (.tup ys)from⟨hz,aY,r',IsTup.new _ _⟩)
  exact⟨.ref h'.objs.size,_,I2,rfl,q _ (I1.hok.fresh (ak _))⟩
 ·obtain⟨aY,r',pl,hz⟩:=I.tuple hq;exact call_tuple_same pl ⟨.ref p,H,I,rfl,q⟩
def tyV (K:Fg9)(T:String)(x:V)(H:Hp):Prop:=match x with
 |.str _=>T="str"
 |.int _=>T="int"
 | .ref p=>(T="list"/\∃xs,E8 K H p xs)\/(T="tuple"/\∃o,K.lookup p=?P/\o.cls=.type "tuple"/\o.dict=none) \/
   (T="dict"/\((∃kvs,H p=some (.dK kvs))\/∃kvs,H p=some (.dT kvs)))\/(T="set"/\∃S n,H p=some (.set S n))
 |_=>False
theorem W0d {σ:St}    {x:V}{v:An}(I:?A)(r:C4 x v)(ty:tyV X.K T x H):
  s.TypeIs v T/\∀a,v=.ref a->∃ob,s.heap.get? a=some ob/\ob.dict=none:=by
 cases x with
 |str z=>
  obtain⟨t,rfl⟩:=r;cases (show T="str" from ty);exact⟨typeIs_str s z t,fun _ e=>nomatch e⟩
 |int i=>
  obtain⟨t,rfl⟩:=r;cases (show T="int" from ty);exact⟨typeIs_int s i t,fun _ e=>nomatch e⟩
 |ref p=>
  cases r;rcases ty with⟨rfl,xs,hq⟩ |⟨rfl,o,hk,hc,hd⟩ |⟨rfl,hk⟩ |⟨rfl,S,n,hk⟩
  ·obtain⟨aY,_,pl,_⟩:=I.list hq;refine⟨pl.isList.typeIs,fun a e=>?_⟩;cases e;obtain⟨o,n,e,c,hd,_⟩:=pl;exact⟨o,e,hd⟩
  ·refine⟨⟨o,I.kIn p o hk,hc⟩,fun a e=>?_⟩;cases e;exact⟨o,I.kIn _ o hk,hd⟩
  ·have z:∃o,s.heap.get? p=?P/\o.ExactDict:=by
    rcases hk with⟨kvs,hk⟩ |⟨kvs,hk⟩
    ·obtain⟨_,_,_,_,o,_,_,e,ex,_⟩:=I.hok p _ hk;exact⟨o,e,ex⟩
    ·obtain⟨_,_,_,_,o,_,_,e,ex,_⟩:=I.hok p _ hk;exact⟨o,e,ex⟩
   obtain⟨o,e,ex⟩:=z;refine⟨⟨o,e,ex.1⟩,fun a e2=>?_⟩;cases e2;exact⟨o,e,ex.2.1⟩
  ·obtain⟨o,_,_,_,e,ex,_⟩:=I.hok p _ hk;refine⟨⟨o,e,ex.1⟩,fun a e2=>?_⟩;cases e2;exact⟨o,e,ex.2.1⟩
 |_=>exact False.elim ty
def tBM0 (K:Fg9)(T:String)(r:V->O V->Hp->VK->Prop)(to:TE):TE:=fun σ H Q=>to σ H fun x H1=>tyV K T x H1/\r x [] H1 Q
def tBM (K:Fg9)(T:String)(r:V->O V->Hp->VK->Prop)(to:TE)(t:TA):TE:=fun σ H Q=>to σ H fun x H1=>tyV K T x H1/\t σ H1 fun xs H2=>r x xs H2 Q
variable {es:O Aq}{to:TE}{t:TA}{id:String}{r:V->O V->Hp->VK->Prop}
def V2j (pa:PlainAttrs T)(slot:Slot T name id)(kw:typeOf (.builtin id)=pure (.type "method_descriptor"))(hm:MtR X id r)(ho:PE X o to)
  (dW:attributeBase o name X.env (eval o X.env)=eval o X.env:=by rfl) (eK:(apos.endLine==bz.line)=true:=by rfl):PE X (.Call (.Attribute o name apos) [] [] bz) (tBM0 X.K T r to):=by
 intro ae s σ H Q I h;refine wpAny_Call_method0_late dW eK (B3 (ho ae s σ H _ I h) fun v s1 bB=>?_);obtain⟨x,H1,I1,r1,ty,q1⟩:=bB;obtain⟨h1,h2⟩:=W0d I1 r1 ty;exact⟨T,id,pa,slot,kw,h1,h2,cB rfl (PySem.evalArgs_none (hm ae s1 σ H1 x [] v [] Q I1 r1 .nil q1))⟩
def Z6l (pa:PlainAttrs T)(slot:Slot T name id)(kw:typeOf (.builtin id)=pure (.type "method_descriptor"))(hm:MtR X id r)(ho:PE X o to)(ha:PA X (e::es) t)
  (dW:attributeBase o name X.env (eval o X.env)=eval o X.env:=by rfl)
  (iP:((backTo bz (starEach (e::es) X.env)).all (fun x=>!x.1)&&(backToKw bz (keywordEach [] X.env)).all (fun x=>x.1.isSome)
  &&decide ((e::es).length+([]:O Keyword).length+(if ([]:O Keyword).isEmpty then 0 else 1)<30))=true:=by rfl)
  (eK:(apos.endLine==bz.line)=true:=by rfl) (hs:?I:=by rfl) (fj:(backTo bz (starEach es X.env)).any (·.1)=false:=by rfl):
  PE X (.Call (.Attribute o name apos) (e::es) [] bz) (tBM X.K T r to t):=by
 intro ae s σ H Q I h;refine wpAny_Call_method_late dW iP eK rfl (B3 (ho ae s σ H _ I h) fun v s1 bB=>?_);obtain⟨x,H1,I1,r1,ty,q1⟩:=bB;obtain⟨h1,h2⟩:=W0d I1 r1 ty;refine⟨T,id,pa,slot,kw,h1,h2,?_⟩;have hA:=ha bz ae s1 σ H1 _ I1 q1;rw[hs]at hA ⊢;refine cB (by show(false||(backTo bz (starEach es X.env)).any (·.1))=false;rw[fj]<;>rfl) (cr ?_);exact B3 hA fun us s2 ⟨vs,H2,I2,r2,q2⟩=>hm ae s2 σ H2 x vs v us Q I2 r1 r2 q2
end
def MtM (X:Cx)(id:String)(r:V->O V->Hp->VK->Prop):Prop:=
 ∀(ae:Pn9) (s:Ao) (σ:St) (H:Hp) (x:V) (xs:O V) (v:An) (us:O An) (Q:VK),?A->C4 x v->C0 xs us->r x xs H Q ->
  wpAny ?C X.A (call (.builtin id) (v::us)) (EP X ae σ Q) X.xe s
theorem C0.one:∀{x:V}{us:O An},C0 [x] us->∃u,us=[u]/\C4 x u:=by
 intro x us r;cases r with
 |cons r t=>cases t;exact⟨_,rfl,r⟩
theorem C0.two:∀{x y:V}{us:O An},C0 [x,y] us->∃u v,us=[u,v]/\C4 x u/\C4 y v:=by
 intro x y us r;cases r with
 |cons r t=>
  cases t with
  |cons q t=>cases t;exact⟨_,_,rfl,r,q⟩
theorem C0.zero:∀{us:O An},C0 [] us->us=[]
 |_,.nil=>rfl
theorem C0.dropLast (h:C0 xs us):C0 xs.dropLast us.dropLast:=by
 induction h with
 |nil=>exact .nil
 |cons r t ih=>
  cases t with
  |nil=>exact .nil
  |cons q t'=>exact .cons r ih
theorem C0.rep (h:C0 xs us):∀k:Nat,C0 (List.replicate k xs).flatten (List.replicate k us).flatten
 |0=>.nil
 |k+1=>by
  rw[cH,cH,cE,cE];exact C0.append h (C0.rep h k)
theorem W6p (l:O α):l.eraseIdx (l.length-1)=l.dropLast:=by grind [List.eraseIdx_cons_succ]
theorem W6w (aY:O An):∀(k:Nat) (ee:O An),
  List.foldl (fun x1 x2=>x1++x2) ee.toArray (List.replicate k aY.toArray)=(ee++(List.replicate k aY).flatten).toArray:=by intro k;induction k<;>grind [List.replicate,cH,cE,bW,cn]
section
variable {σ:St}
def A0.lset {f:Array An->Array An}  (I:?A)(hH:H l=some (.lst xs))
  (e:s.heap.get? l=some ?A3) (hf:f aY.toArray=its'.toArray) (hv:C0 ys its') (hz:ys.length<=sizeLine):
  A0 X ae σ (A9 H l (.lst ys)) {s with heap:=s.heap.update l (Obj.mapSeq f),toks:=t'}:=by
 have q:=PySem.IsL.update e f;rw[hf]at q;refine I.write (x:=l) (e:=l) (by rw[hH];exact trivial) (.inl rfl) (fun b' u hb hu=>(bM s.heap (Obj.mapSeq f) (bN hb)).trans hu) ⟨_,q⟩ ?_;exact⟨hz,its',_,hv,q⟩
def A0.lnew (I:?A)(hv:C0 ys aY)(hz:ys.length<=sizeLine):
  A0 X ae σ (A9 H s.heap.objs.size (.lst ys)) {s with heap:=s.heap.push {cls:=.type "list",data:=.seq aY.toArray},toks:=t'}:=
 I.laid (fun _ _ q=>af _ q) (ak _) ⟨hz,aY,0,hv,aG _ rfl⟩
def A0.fresh (I:?A):H s.heap.objs.size=none:=I.hok.fresh (ak _)
def A0.lstM (I:?A)(hH:H l=some (.lst xs)):xs.length<=sizeLine/\∃(aY:O An) (n:Nat),C0 xs aY/\xs.length=aY.length/\s.heap.get? l=some ?A3:=by
 obtain⟨z,aY,n,r,e⟩:=I.hok l _ hH;exact⟨z,aY,n,r,r.length,e⟩
theorem V1a (h:n<=sizeLine):Builtin.List.listTooLong n=false:=by
 unfold Builtin.List.listTooLong;exact aW (?H)
end
def V4j:V->O V->Hp->VK->Prop:=fun x vs H Q=>∃l xs y,x=.ref l/\vs=[y]/\H l=some (.lst xs)/\xs.length<sizeLine/\Q .non (A9 H l (.lst (xs++[y])))
theorem V0s:MtM X "list.append" V4j:=by
 intro ae s σ H x vs v us Q I rx rv h;obtain⟨l,xs,y,rfl,rfl,hH,hz,q⟩:=h;cases rx;obtain⟨u,rfl,ru⟩:=rv.one;obtain⟨z,aY,n,r,hl,e⟩:=I.lstM hH;refine km F.slot_list_append ⟨_,e,rfl⟩ F.entry_list_append (F.args_list_append_2 _ _) (PySem.list_append l aY.toArray n u (by rw[aH];lia)) ⟨e,?_⟩;refine⟨.non,_,I.lset (its':=aY++[u]) hH e ?E (r.append (.cons ru .nil)) ?_,rfl,q⟩;rw[ao,bi];lia
def rPop:V->O V->Hp->VK->Prop:=fun x vs H Q=>∃l xs y,x=.ref l/\vs=[]/\H l=some (.lst xs)/\xs[xs.length-1]?=some y/\Q y (A9 H l (.lst xs.dropLast))
theorem V0v:MtM X "list.pop" rPop:=by
 intro ae s σ H x vs v us Q I rx rv h;obtain⟨l,xs,y,rfl,rfl,hH,hy,q⟩:=h;cases rx;have xv:=rv.zero;subst xv;obtain⟨z,aY,n,r,hl,e⟩:=I.lstM hH;obtain⟨u,hu,ru⟩:=r.get hy;have xj:aY.toArray[aY.toArray.size-1]?=some u:=by
  show aY.toArray[aY.length-1]?=some u;rw[<-pS,<-hl];exact hu
 refine km F.slot_list_pop ⟨_,e,rfl⟩ F.entry_list_pop (F.args_list_pop_1 _) (MeetsSeq.list_pop_last l aY.toArray n u xj (by rw[aH];lia)) ⟨e,?_⟩;refine⟨y,_,I.lset (its':=aY.dropLast) hH e ?_ r.dropLast ?_,ru,q⟩
 ·show aY.toArray.eraseIdxIfInBounds (aY.toArray.size-1)=aY.dropLast.toArray;rw[aH,List.eraseIdxIfInBounds_toArray,W6p]
 ·rw[qL];lia
def rCat:R2:=fun x y H Q=>∃l b xs zs,x=.ref l/\y=.ref b/\H l=some (.lst xs)/\H b=some (.lst zs)/\xs.length+zs.length<=sizeLine/\∀p,H p=none->Q (.ref p) (A9 H p (.lst (xs++zs)))
theorem V1t:N8 X (binaryOp .Add) rCat:=by
 intro ae s σ H x y v u Q I rx ry h;obtain⟨l,b,xs,zs,rfl,rfl,hH,hB,hz,q⟩:=h;cases rx;cases ry;obtain⟨z,aY,n,r,hl,e⟩:=I.lstM hH;obtain⟨z2,dB,n2,r2,gR,e2⟩:=I.lstM hB;refine PySem.P.add_list e e2 ?_ (by rw[aH,aH];lia);have ea:aY.toArray++dB.toArray=(aY++dB).toArray:=by simp
 rw[ea];exact⟨.ref _,_,I.lnew (t':=s.toks) (r.append r2) (by rw[ao];lia),rfl,q _ I.fresh⟩
def rRep:R2:=fun x y H Q=>∃l k xs,x=.ref l/\y=.int k/\H l=some (.lst xs)/\-(2^63)<=k/\k<2^63/\xs.length*k.toNat<=sizeLine /\
 ∀p,H p=none->Q (.ref p) (A9 H p (.lst (List.replicate k.toNat xs).flatten))
def W9e (xs:O α)(k:Nat):(List.replicate k xs).flatten.length=k*xs.length:=by simp[cH,cE,ao,nT,Nat.add_comm]<;>omega
theorem V2e:N8 X (binaryOp .Mult) rRep:=by
 intro ae s σ H x y v u Q I rx ry h;obtain⟨l,k,xs,rfl,rfl,hH,h1,h2,hz,q⟩:=h;cases rx;obtain⟨t,rfl⟩:=ry;obtain⟨z,aY,n,r,hl,e⟩:=I.lstM hH;have cp:aY.toArray.size*k.toNat<=sizeLine:=by rw[aH,<-hl];exact hz
 have t6:¬ aY.toArray.size*k.toNat > (2^63-1) / 8:=by
  have:(sizeLine:Nat)<=(2^63-1) / 8:=?G
  lia
 have sP:¬ (!Builtin.List.listFitsIndex k)=true:=by
  rw[fitsIndex_both h1 h2];exact bh
 have oP:¬ Builtin.List.listTooLong (aY.toArray.size*k.toNat)=true:=by
  rw[V1a cp];exact bh
 have jk:List.foldl (fun x1 x2=>x1++x2) #[] (List.replicate (if aY.toArray.isEmpty=true then 0 else k.toNat) aY.toArray)=(List.replicate k.toNat aY).flatten.toArray:=by
  have f0:∀m:Nat,List.foldl (fun x1 x2=>x1++x2) #[] (List.replicate m aY.toArray)=(List.replicate m aY).flatten.toArray:=fun m=>by
   have:=W6w aY m [];rw[dn]at this;exact this
  rw[f0];cases aY with
  |nil=>simp
  |cons a r'=>rw[aI ?E]
 refine wpAny_binaryOp_repeat_ref (T:="list") (U:="int") (?G) ⟨_,e,rfl⟩ (fun s'=>typeIs_int s' k t) noFill_list_mul F.fills_int_mul F.slot_int_rmul repeat_list F.slot_int_index.lookup
  (km F.slot_int_rmul (typeIs_int s k t) F.entry_int_rmul (F.args_int_rmul_2 _ _) (int___rmul___int_list k t l aY.toArray n)
   ⟨e,rfl,⟨_,e,rfl⟩,km F.slot_list_mul ⟨_,e,rfl⟩ F.entry_list_mul (F.args_list_mul_2 _ _) (AutoListH.list___mul___list_int_3 l aY.toArray n k t sP t6 oP) ⟨e,?_⟩⟩)
 rw[jk];exact⟨.ref _,_,I.lnew (t':=s.toks) (r.rep k.toNat) (by rw[W9e,Nat.mul_comm];exact hz),rfl,q _ I.fresh⟩
section
variable [DecidableEq κ]
def U3 (kvs:O (κ×V))(k:κ):Am V:=(kvs.find? fun kv=>decide (kv.1=k)).map (·.2)
def R8 (kvs:O (κ×V))(k:κ)(v:V):O (κ×V):=
 if (kvs.any fun kv=>decide (kv.1=k))=true then kvs.map (fun kv=>if kv.1=k then(kv.1,v)else kv)else kvs++[(k,v)]
def Z2d {p:κ×V}{r:O (κ×V)}{k:κ}(e:p.1=k):U3 (p::r) k=some p.2:=by simp[U3,bp,e]
def Z2c {p:κ×V}{r:O (κ×V)}{k:κ}(e:¬ p.1=k):U3 (p::r) k=U3 r k:=by simp[U3,bp,e]
theorem W0j (k:κ):∀kvs:O (κ×V),(kvs.any fun kv=>decide (kv.1=k))=(U3 kvs k).isSome
 |[]=>rfl
 |p::r=>by
  rw[gX]
  by_cases e:p.1=k
  ·simp only[Z2d e,bO e,nZ,Option.isSome_some]
  ·rw[Z2c e,aW e,Bool.false_or];exact W0j k r
theorem Q8p (kvs:O (κ×V))(k:κ)(v:V):(R8 kvs k v).length<=kvs.length+1:=by grind [R8,ai,ao,aK,bX]
theorem Q2v.isSome_eq {o:Am V}{u:Am An}(r:Q2v o u):o.isSome=u.isSome:=by
 cases o with
 |none=>cases u with
  |none=>rfl
  |some _=>exact(show False from r).elim
 |some _=>cases u with
  |none=>exact(show False from r).elim
  |some _=>rfl
theorem Q2v.getD {o:Am V}{u:Am An}{d:V}{d':An}(r:Q2v o u)(rd:C4 d d'):C4 (o.getD d) (u.getD d'):=by
 cases o with
 |none=>cases u with
  |none=>exact rd
  |some _=>exact(show False from r).elim
 |some _=>cases u with
  |none=>exact(show False from r).elim
  |some _=>exact r
theorem KV.val {kvs:O (κ×V)}{vs:O (κ×An)}(r:KV kvs vs)(k:κ):Q2v (U3 kvs k) (valueAt vs k):=by
 unfold KV at r
 induction r with
 |nil=>exact True.intro
 |@cons p q ps qs h t ih=>
  obtain⟨h1,h2⟩:=h
  by_cases e:p.1=k
  ·have e':q.1=k:=h1.symm.trans e;have b:valueAt (q::qs) k=some q.2:=by simp[valueAt,bp,e']
   rw[Z2d e,b];exact h2
  ·have e':¬ q.1=k:=fun z=>e (h1.trans z);have b:valueAt (q::qs) k=valueAt qs k:=by simp[valueAt,bp,e']
   rw[Z2c e,b];exact ih
theorem KV.any {kvs:O (κ×V)}{vs:O (κ×An)}(r:KV kvs vs)(k:κ):(kvs.any fun kv=>decide (kv.1=k))=vs.any fun kv=>decide (kv.1=k):=by induction r<;>grind [KV,gX]
theorem KV.repl {kvs:O (κ×V)}{vs:O (κ×An)}(r:KV kvs vs)(k:κ)   (ry:C4 y u):
  KV (kvs.map fun kv=>if kv.1=k then(kv.1,y)else kv) (vs.map fun kv=>if kv.1=k then(kv.1,u)else kv):=by
 unfold KV at r ⊢
 induction r with
 |nil=>exact .nil
 |@cons p q ps qs h t ih=>
  rw[av,av];refine .cons ?_ ih;obtain⟨h1,h2⟩:=h
  by_cases e:p.1=k
  ·rw[aO e,aO (h1.symm.trans e)];exact⟨h1,ry⟩
  ·rw[aI e,aI (fun z=>e (h1.trans z))];exact⟨h1,h2⟩
def KV.put {kvs:O (κ×V)}{vs:O (κ×An)}(r:KV kvs vs)(k:κ)   (ry:C4 y u):KV (R8 kvs k y) (stored vs k u):=by
 unfold R8 stored;rw[r.any k]
 by_cases e:(vs.any fun kv=>decide (kv.1=k))=true
 ·rw[aO e,aO e];exact r.repl k ry
 ·rw[aI e,aI e];exact Paired.snoc r ⟨rfl,ry⟩
def KV.length {kvs:O (κ×V)}{vs:O (κ×An)}(r:KV kvs vs):kvs.length=vs.length:=jJ r
end
theorem Q4i {w:Av}{k:B7}  (r:C4 (kV k) u):(M4 P w).is k u=true:=by
 cases k with
 |inl i=>obtain⟨t,e⟩:=(show ∃t,u=Value.int i t from r);subst e;exact V0e P w i t
 |inr x=>obtain⟨t,e⟩:=(show ∃t,u=Value.str x t from r);subst e;exact V0f P w x t
theorem Y4p {w:Av}:∀{ks:O B7}{us:O An},C0 (ks.map kV) us->ItemsAre (M4 P w) ks us
 |[],_,r=>by rw[cO]at r;cases r;exact .nil
 |k::ks,_,r=>by
  rw[av]at r;cases r with
  |cons h t=>exact .cons (Q4i h) (Y4p t)
abbrev KT (H:Hp):O (O B7×V)->O (O B7×Ap×An)->Prop:=Paired fun p q=>p.1=q.1/\H q.2.1=some (.tup (p.1.map kV))/\C4 p.2 q.2.2
theorem KT.val {xs:O (O B7×Ap×An)}(r:KT H kvs xs)(k:O B7):Q2v (U3 kvs k) ((atKey xs k).map (·.2)):=by
 induction r with
 |nil=>exact True.intro
 |@cons p q ps qs h t ih=>
  obtain⟨h1,_,h2⟩:=h
  by_cases e:p.1=k
  ·have e':q.1=k:=h1.symm.trans e;have b:atKey (q::qs) k=some q.2:=by simp[atKey,bp,e']
   rw[Z2d e,b];exact h2
  ·have e':¬ q.1=k:=fun z=>e (h1.trans z);have b:atKey (q::qs) k=atKey qs k:=by simp[atKey,bp,e']
   rw[Z2c e,b];exact ih
theorem KT.repl {xs:O (O B7×Ap×An)}(r:KT H kvs xs)(k:O B7)   (ry:C4 y u):
  KT H (kvs.map fun kv=>if kv.1=k then(kv.1,y)else kv) (xs.map (putAt k u)):=by
 induction r with
 |nil=>exact .nil
 |@cons p q ps qs h t ih=>
  rw[av,av];refine .cons ?_ ih;obtain⟨h1,h2,h3⟩:=h;unfold putAt
  by_cases e:p.1=k
  ·rw[aO e,aO (h1.symm.trans e)];exact⟨h1,h2,ry⟩
  ·rw[aI e,aI (fun z=>e (h1.trans z))];exact⟨h1,h2,h3⟩
def KT.put {xs:O (O B7×Ap×An)}(r:KT H kvs xs)(k:O B7)    (hb:H b=some (.tup (k.map kV)))(ry:C4 y u):
  KT H (R8 kvs k y) (storedH xs k b u):=by
 have e:(kvs.any fun kv=>decide (kv.1=k))=(atKey xs k).isSome:=by
  rw[W0j,(r.val k).isSome_eq,zq]
 unfold R8 storedH;rw[e]
 by_cases q:(atKey xs k).isSome=true
 ·rw[aO q,aO q];exact r.repl k ry
 ·rw[aI q,aI q];exact Paired.snoc r ⟨rfl,hb,ry⟩
def KT.keeps {xs:O (O B7×Ap×An)}(r:KT H kvs xs)(ht:∀b ys,H b=some (.tup ys)->H' b=some (.tup ys)):KT H' kvs xs:=
 Y1e r fun _ _ z=>⟨z.1,ht _ _ z.2.1,z.2.2⟩
section
variable {w:Av}
def Y7h {u:HO}(ok:G4 P w H h)(e:Rd H a u):ObjOk P w H h a u:=e.ok ok
def Q6g {kvs:O (B7×V)}(ok:G4 P w H h)(e:Rd H a (.dK kvs)):kvs.length<=sizeLine/\(a==sysModules)=false/\∃vs,KV kvs vs/\h.DictOf (M4 P w) a vs:=
 show ObjOk P w H h a (.dK kvs)from Y7h ok e
def Z0j {kvs:O (B7×V)}(ok:G4 P w H h)(e:H a=some (.dK kvs)):kvs.length<=sizeLine/\(a==sysModules)=false/\∃vs,KV kvs vs/\h.DictOf (M4 P w) a vs:=Q6g ok (.inl e)
def Q6p {ks:O B7}(ok:G4 P w H h)(e:H a=some (.tup (ks.map kV))):(tupleKind (M4 P w)).is h ks a:=by
 obtain⟨_,aY,r,o,h1,h2,n,h3⟩:=(show ObjOk P w H h a (.tup (ks.map kV))from ok a _ e)
 exact⟨o,aY.toArray,n,h1,h2,h3,by simpa using Y4p r⟩
def Q6i (ok:G4 P w H h)(e:Rd H a (.dT kvs)):kvs.length<=sizeLine/\(a==sysModules)=false /\
  ∃xs,KT H kvs xs/\h.DictOfH (tupleKind (M4 P w)) a xs:=by
 obtain⟨z,y,xs,r,o,es,ep,h1,h2,h3,h4,h5⟩:=(show ObjOk P w H h a (.dT kvs)from Y7h ok e)
 refine⟨z,y,xs,r,o,es,ep,h1,h2,h3,h4,fun x hx=>?_,h5⟩;have all:∀{l:O (O B7×V)}{m:O (O B7×Ap×An)},KT H l m->∀x∈m,(tupleKind (M4 P w)).is h x.1 x.2.1:=by
  intro l m q
  induction q with
  |nil=>intro x hx;exact nomatch hx
  |@cons p q ps qs hq t ih=>
   intro x hx;rcases ar.mp hx with e |hx
   ·subst e;exact Q6p ok (by rw[<-hq.1];exact hq.2.1)
   ·exact ih x hx
 exact all r x hx
def Y3h (ok:G4 P w H h)(e:H a=some (.dT kvs)):kvs.length<=sizeLine/\(a==sysModules)=false /\
  ∃xs,KT H kvs xs/\h.DictOfH (tupleKind (M4 P w)) a xs:=Q6i ok (.inl e)
end
def X8 (H:Hp)(a:Ap)(y:V)(r:Am V):Prop:=
 (∃kvs k,Rd H a (.dK kvs)/\y=kV k/\r=U3 kvs k)\/∃kvs k b,Rd H a (.dT kvs)/\y=.ref b/\H b=some (.tup (k.map kV))/\r=U3 kvs k
def Q3q (H:Hp)(a:Ap)(y v:V)(H':Hp):Prop:=
 (∃kvs k,H a=some (.dK kvs)/\y=kV k/\kvs.length<sizeLine/\H'=A9 H a (.dK (R8 kvs k v))) \/
 ∃kvs k b,H a=some (.dT kvs)/\y=.ref b/\H b=some (.tup (k.map kV))/\kvs.length<sizeLine/\H'=A9 H a (.dT (R8 kvs k v))
def X8.k {kvs:O (B7×V)}{k:B7}(e:H a=some (.dK kvs)):X8 H a (kV k) (U3 kvs k):=.inl ⟨kvs,k,.inl e,rfl,rfl⟩
def X8.t {k:O B7}(e:H a=some (.dT kvs))(eb:H b=some (.tup (k.map kV))):X8 H a (.ref b) (U3 kvs k):=.inr ⟨kvs,k,b,.inl e,rfl,eb,rfl⟩
def Q3q.k {kvs:O (B7×V)}{k:B7}{v:V}(e:H a=some (.dK kvs))(hl:kvs.length<sizeLine):Q3q H a (kV k) v (A9 H a (.dK (R8 kvs k v))):=.inl ⟨kvs,k,e,rfl,hl,rfl⟩
def Q3q.t {k:O B7}{v:V}(e:H a=some (.dT kvs))(eb:H b=some (.tup (k.map kV)))(hl:kvs.length<sizeLine):
  Q3q H a (.ref b) v (A9 H a (.dT (R8 kvs k v))):=.inr ⟨kvs,k,b,e,rfl,eb,hl,rfl⟩
section
variable {σ:St}{v:V}{r:An}{o:Am V}
def A0.big (I:?A):sysModules<s.heap.objs.size:=by
 have h:mainGlobals<s.heap.objs.size:=(I.mod.glob.keeps I.bk).lt;exact Nat.lt_trans (?G) h
def W6b (hu:A.units+1<cLine)(I:?A)(g:X8 H a y (some v))(ry:C4 y u)(h:∀w' s',A0 X ae σ H s'->C4 v w'->Q w' s'):
  wpAny ?C A (getItem (.ref a) u) Q E s:=by
 rcases g with⟨kvs,k,e,ey,l⟩ |⟨kvs,k,b,e,ey,eb,l⟩
 ·subst ey;obtain⟨z,hd,vs,rel,dd⟩:=Q6g I.hok e;obtain⟨w',hw,iG⟩:=Y1f (v:=v) (o:=valueAt vs k) (by rw[l];exact rel.val k);exact wpAny_getItem_of (Q4i ry) dd.mapOf hw (h w' _ (I.tok _) iG)
 ·subst ey;cases (show u=Value.ref b from ry);obtain⟨z,hd,xs,rel,dd⟩:=Q6i I.hok e;obtain⟨w',hw,iG⟩:=Y1f (v:=v) (o:=(atKey xs k).map (·.2)) (by rw[l];exact rel.val k);obtain⟨p,hp,qk⟩:=fT.mp hw;refine wpAny_getItem_heap (fP hu) (Q6p I.hok eb) dd hp ?_;rw[qk];exact h w' _ (I.tok _) iG
def W6c (hu:A.units+1<cLine)(I:?A)(g:X8 H a y o)(ry:C4 y u)(h:∀s',A0 X ae σ H s'->Q (.bool (!o.isSome)) s'):
  wpAny ?C A (compareOp .NotIn u (.ref a)) Q E s:=by
 rcases g with⟨kvs,k,e,ey,l⟩ |⟨kvs,k,b,e,ey,eb,l⟩
 ·subst ey;obtain⟨z,hd,vs,rel,dd⟩:=Q6g I.hok e;refine wpAny_notIn_of (Q4i ry) hd dd.mapOf ?_;rw[<-(rel.val k).isSome_eq,<-l];exact h _ (I.tok _)
 ·subst ey;cases (show u=Value.ref b from ry);obtain⟨z,hd,xs,rel,dd⟩:=Q6i I.hok e;refine wpAny_notIn_heap (fP hu) (Q6p I.hok eb) hd dd ?_;have q:=(rel.val k).isSome_eq;rw[zq]at q;rw[<-q,<-l];exact h _ (I.tok _)
def Q5d {ob:HO}(I:?A)(mu:Mut (H a))(hs:Heap.SameBut a s.heap h')(he:∃q,h'.get? a=some q)(new:ObjOk X.prog X.w (A9 H a ob) h' a ob):
  A0 X ae σ (A9 H a ob) {s with heap:=h',toks:=t'}:=
 I.write (x:=a) (e:=a) mu (.inl rfl) (fun b q hb z=>(hs.2 b hb).trans z) he new
def Z4m {w:Av}   {kvs:O (B7×V)}{vs:O (B7×An)}(z:kvs.length<=sizeLine)(hd:(a==sysModules)=false)(rel:KV kvs vs)(dd:h'.DictOf (M4 P w) a vs):
  ObjOk P w H' h' a (.dK kvs):=⟨z,hd,vs,rel,dd⟩
theorem W6d {Q:Unit->Ao->Prop}(hu:A.units+1<cLine)(I:?A)(g:Q3q H a y v H')(ry:C4 y u)(rv:C4 v r)(h:∀s',A0 X ae σ H' s'->Q () s'):
  wpAny ?C A (setItem (.ref a) u r) Q E s:=by
 rcases g with⟨kvs,k,e,ey,l,eH⟩ |⟨kvs,k,b,e,ey,eb,l,eH⟩
 ·subst ey eH;obtain⟨z,hd,vs,rel,dd⟩:=Z0j I.hok e;have hz:vs.length<=sizeLine:=by rw[<-rel.length];exact z
  have hl:(R8 kvs k v).length<=sizeLine:=by have:=Q8p kvs k v;lia
  refine wpAny_setItem_pairs (hsz:=hz) (Q4i ry) dd fun h' jG hs=>h _ ?_;have he:∃q,h'.get? a=some q:=let ⟨q,_,_,hq,_⟩:=jG;⟨q,hq⟩;exact Q5d I (by rw[e];exact True.intro) hs he (Z4m hl hd (rel.put k rv) jG)
 ·subst ey eH;cases (show u=Value.ref b from ry);obtain⟨z,hd,xs,rel,dd⟩:=Y3h I.hok e;have hz:xs.length<=sizeLine:=by rw[<-jJ rel];exact z
  have hl:(R8 kvs k v).length<=sizeLine:=by have:=Q8p kvs k v;lia
  refine wpAny_setItem_heap (hsz:=hz) (fP hu) (Q6p I.hok eb) dd fun h' jG hs=>h _ ?_;obtain⟨q,es,ep,hq,h2,h3,h4,_,h5⟩:=jG;refine Q5d I (by rw[e];exact True.intro) hs ⟨q,hq⟩ ⟨hl,hd,_,(rel.put k eb rv).keeps fun c ys ec=>?_,q,es,ep,hq,h2,h3,h4,h5⟩;rw[B2 (Q0k ec e (fun z=>nomatch z))];exact ec
end
def Q7y (i:Aq):Prop:=∀ov iv,subscripted i false ov iv=operate [ov,iv] (getItem ov iv)
def V8d {w:Av}    {env:Env}{value slice:Aq}  {id:String} 
  (hl:typeLookup (.type T) "__getitem__"=pure (some (.builtin id))) (hs:Q7y slice)
  (h:wpAny ?V A (eval value env) (fun o s₁=>wpAny ?V A (eval slice env) (fun i s₂=>s₂.TypeIs o T/\wpAny ?V A (getItem o i) Q E s₂) E s₁) E s):
  wpAny ?V A (eval (.Subscript value slice pos) env) Q E s:=by
 refine Subscript_ (aP h (fun o s₁ h₁=>aP h₁ (fun i s₂ h₂=>?_) fun _ _ x=>x) fun _ _ x=>x);obtain⟨hT,h₂⟩:=h₂;unfold subscriptTail;refine aa ?_;rw[getitemInPython_of_ne hT.not_modules];refine aa (fm hT hl ?_);have fin:wpAny ?V A (subscripted slice false o i) (fun r s₃=>wpAny ?V A (letTemporaryGo value o r>>=fun _=>pure r) Q E s₃) E s₂:=by
  rw[hs o i];exact wpAny_operating (aP h₂ (fun r s₃ h₃=>aa (wpAny_letTemporaryGo (am h₃))) fun _ _ x=>x)
 first
  |exact am (aa fin)
  |exact aa (am (aa fin))
  |exact aa fin
def W6g {σ:St}     {o:Am V}(I:?A)(g:X8 H a y o):s.TypeIs (.ref a) "dict":=by
 rcases g with⟨kvs,k,e,_,_⟩ |⟨kvs,k,b,e,_,_,_⟩
 ·obtain⟨_,_,vs,_,dd⟩:=Q6g I.hok e;exact dd.typeIs
 ·obtain⟨_,_,xs,_,dd⟩:=Q6i I.hok e;exact dd.typeIs
def V8j (td ty:TE):TE:=fun σ H Q=>td σ H fun x H1=>ty σ H1 fun y H2=>∃a v,x=.ref a/\X8 H2 a y (some v)/\Q v H2
def V8m (ty td:TE):TE:=fun σ H Q=>ty σ H fun y H1=>td σ H1 fun x H2=>∃a o,x=.ref a/\X8 H2 a y o/\Q (.bl (!o.isSome)) H2
def V6d (td ty tv:TE):TS:=fun D σ H=>tv σ H fun v H1=>td σ H1 fun x H2=>ty σ H2 fun y H3=>∃a H4,x=.ref a/\Q3q H3 a y v H4/\D.nx σ H4
section
variable {i value:Aq}{tv:TE}
def Z6m (hu:X.A.units+1<cLine)(ho:PE X o td)(hi:PE X i ty)(hs:Q7y i):PE X (.Subscript o i pos) (V8j td ty):=by
 intro ae s σ H Q I h;refine V8d PySem.F.slot_dict_getitem.lookup hs (B3 (ho ae s σ H _ I h) fun u s1 ⟨x,H1,I1,rx,q1⟩=>B3 (hi ae s1 σ H1 _ I1 q1) fun iv s2 bB=>?_);obtain⟨y,H2,I2,ry,a,v,ex,g,q2⟩:=bB;subst ex;obtain rfl:u=Value.ref a:=rx;exact⟨W6g I2 g,W6b hu I2 g ry fun w' s3 I3 iG=>⟨v,H2,I3,iG,q2⟩⟩
def Y6v (hu:X.A.units+1<cLine)(hi:PE X i ty)(ho:PE X o td):PC X .NotIn i o (V8m ty td):=by
 intro ae s σ H Q I h;refine B3 (hi ae s σ H _ I h) fun iv s1 ⟨y,H1,I1,ry,q1⟩=>B3 (ho ae s1 σ H1 _ I1 q1) fun u s2 bB=>?_;obtain⟨x,H2,I2,rx,a,ov,ex,g,q2⟩:=bB;subst ex;obtain rfl:u=Value.ref a:=rx;exact W6c hu I2 g ry fun s3 I3=>⟨.bl (!ov.isSome),H2,I3,rfl,q2⟩
def Y7b (hu:X.A.units+1<cLine)(ho:PE X o td)(hi:PE X i ty)(hv:PE X value tv)(hs:swapsWith value (some (.Subscript o i cf)) pos.line X.env=pure false):
  PS X (.Assign [.Subscript o i cf] value pos) (V6d td ty tv):=by
 intro ae s σ H D I h;refine wpAny_Assign_Subscript (B3 (hv ae s σ H _ I h) fun r s1 ⟨v,H1,I1,rv,q1⟩=>B3 (ho ae s1 σ H1 _ I1 q1) fun u s2 ⟨x,H2,I2,rx,q2⟩=>B3 (hi ae s2 σ H2 _ I2 q2) fun iv s3 bB=>?_) hs;obtain⟨y,H3,I3,ry,a,H4,ex,g,q3⟩:=bB;subst ex;obtain rfl:u=Value.ref a:=rx;exact W6d hu I3 g ry rv fun s4 I4=>⟨σ,H4,I4,q3⟩
end
def Y3g {w:Av}  (h:Heap)(hb:sysModules<h.objs.size):ObjOk P w H (h.push {cls:=.type "dict",data:=.dict #[]}) h.objs.size (.dK []):=
 ⟨bj _,cq.mpr (bN (aB hb)),[],.nil,Heap.DictOf.new h⟩
def W6l {w:Av}  (h:Heap)(hb:sysModules<h.objs.size):ObjOk P w H (h.push {cls:=.type "dict",data:=.dict #[]}) h.objs.size (.dT []):=
 ⟨bj _,cq.mpr (bN (aB hb)),[],.nil,_,#[],0,aG _ rfl,⟨rfl,rfl,rfl⟩,rfl,rfl,dL⟩
def V8l:TE:=fun _ H Q=>∀p,H p=none->Q (.ref p) (A9 H p (.dK []))
def V2r:PE X (.Dict [] [] pos) V8l:=fun ae s σ H Q I h=>
 wpAny_Dict_empty ⟨.ref s.heap.objs.size,_,I.laid (a:=s.heap.objs.size) (o:=.dK []) (t':=s.toks) (fun _ _ q=>af _ q) (ak _) (Y3g s.heap I.big),rfl,h _ (I.hok.fresh (ak _))⟩
def Z7x:O (TE×TE)->St->Hp->(O (V×V)->Hp->Prop)->Prop
 |[],_,H,Q=>Q [] H
 |(tk,tv)::r,σ,H,Q=>tk σ H fun x H1=>tv σ H1 fun y H2=>Z7x r σ H2 fun ps H3=>Q ((x,y)::ps) H3
abbrev VV:O (V×V)->O (An×An)->Prop:=Paired fun p q=>C4 p.1 q.1/\C4 p.2 q.2
def PPs (X:Cx)(pos:Pos)(keys:O (Am Aq))(values:O Aq)(lG:O (TE×TE)):Prop:=
 ∀(ae:Pn9) (s:Ao) (σ:St) (H:Hp) (Q:O (V×V)->Hp->Prop),?A->Z7x lG σ H Q ->
  wpAny ?C X.A (evalPairs (pairTrees keys values X.env pos)) (fun vs s'=>∃ps H',A0 X ae σ H' s'/\VV ps vs/\Q ps H') X.xe s
def V3u:PPs X pos [] [] []:=fun ae s σ H Q I h=>pairTrees_nil_walk ⟨[],H,I,.nil,h⟩
def V3t {k v:Aq}  {vs:O Aq}{tk tv:TE}  (hk:PE X k tk)(hv:PE X v tv)(hr:PPs X pos ks vs lG):
  PPs X pos (some k::ks) (v::vs) ((tk,tv)::lG):=fun ae s σ H Q I h=>
 pairTrees_cons_walk (B3 (hk ae s σ H _ I h) fun u s1 ⟨x,H1,I1,rx,q1⟩=>B3 (hv ae s1 σ H1 _ I1 q1) fun w2 s2 ⟨y,H2,I2,ry,q2⟩=>
  B3 (hr ae s2 σ H2 _ I2 q2) fun ws s3 ⟨ps,H3,I3,rel,q3⟩=>⟨(x,y)::ps,H3,I3,.cons ⟨rx,ry⟩ rel,q3⟩)
def Q6u (kvs more:O (B7×V)):O (B7×V):=more.foldl (fun ee kv=>R8 ee kv.1 kv.2) kvs
theorem KV.merge:∀{more:O (B7×V)}{rs:O (B7×An)}{kvs:O (B7×V)}{vs:O (B7×An)},KV more rs->KV kvs vs->KV (Q6u kvs more) (merged vs rs):=by
 intro more rs kvs vs r;unfold KV at r
 induction r generalizing kvs vs with
 |nil=>intro q;exact q
 |@cons p q ps qs h t ih=>
  intro r0;have e:KV (R8 kvs p.1 p.2) (stored vs q.1 q.2):=by
   have:=r0.put p.1 h.2;rw[<-h.1];exact this
  exact ih e
theorem W9f:∀(more kvs:O (B7×V)),(Q6u kvs more).length<=kvs.length+more.length:=by intro more;induction more<;>grind [R8,Q8p,Q6u,aK]
theorem Y2i {P:Au}{w:Av}:∀{kvs:O (B7×V)}{ws:O (An×An)},VV (kvs.map fun kv=>(kV kv.1,kv.2)) ws->∃rs,Carries (M4 P w) ws rs/\KV kvs rs
 |[],_,r=>by rw[cO]at r;cases r;exact⟨[],True.intro,.nil⟩
 |p::kvs,_,r=>by
  rw[av]at r;cases r with
  |@cons a b as bs h t=>
   obtain⟨rs,c,q⟩:=Y2i (P:=P) (w:=w) t;obtain⟨b1,b2⟩:=b;exact⟨(p.1,b2)::rs,⟨Q4i h.1,rfl,c⟩,.cons ⟨rfl,h.2⟩ q⟩
def V8n (lG:O (TE×TE)):TE:=fun σ H Q=>∀p,H p=none->Z7x lG σ (A9 H p (.dK [])) fun ps H2=>H2 p=some (.dK [])/\∃kvs:O (B7×V),ps=kvs.map (fun kv=>(kV kv.1,kv.2))/\kvs.length<=15/\Q (.ref p) (A9 H2 p (.dK (Q6u [] kvs)))
theorem V2o {values:O Aq}  (h:PPs X pos keys values lG)(nh:keys.all (·.isSome)=true)(hl:keys.length=values.length)(h0:keys≠[])
  (yy:keys.length<=15):PE X (.Dict keys values pos) (V8n lG):=by
 intro ae s σ H Q I q;have hn:=I.hok.fresh (ak s.heap.objs.size);have I1:=I.laid (a:=s.heap.objs.size) (o:=.dK []) (h':=s.heap.push {cls:=.type "dict",data:=.dict #[]}) (t':=s.toks) (fun _ _ q=>af _ q) (ak _) (Y3g s.heap I.big);refine wpAny_Dict_walk (knd:=M4 X.prog X.w) nh hl h0 yy (B3 (h ae _ σ _ _ I1 (q _ hn)) fun ws s2 bB=>?_);obtain⟨ps,H2,I2,rel,e,kvs,ep,lk,q2⟩:=bB;subst ep;obtain⟨rs,c,rk⟩:=Y2i (P:=X.prog) (w:=X.w) rel;obtain⟨z,hd,zy,r0,dd⟩:=Z0j I2.hok e;cases r0;refine⟨rs,c,dd,fun h' jG hs=>⟨.ref s.heap.objs.size,_,?_,rfl,q2⟩⟩;have hz:(Q6u [] kvs).length<=sizeLine:=by
  have h1:=W9f kvs [];rw[bX]at h1;rw[ga];lia
 have he:∃q,h'.get? s.heap.objs.size=some q:=let ⟨q,_,_,hq,_⟩:=jG;⟨q,hq⟩;exact Q5d I2 (by rw[e];exact True.intro) hs he (Z4m hz hd (rk.merge .nil) jG)
structure M1 (X:Cx)(o:Aq)(m:Str)(apos:Pos)(e:Aq)(bz:Pos):Prop where
 base:attributeBase o m X.env (eval o X.env)=eval o X.env
 few:((backTo bz (starEach [e] X.env)).all (fun x=>!x.1)&&(backToKw bz (keywordEach [] X.env)).all (fun x=>x.1.isSome)
 &&decide (([e]:O Aq).length+([]:O Keyword).length+(if ([]:O Keyword).isEmpty then 0 else 1)<30))=true
 line:(apos.endLine==bz.line)=true
 trees:backTo bz (starEach [e] X.env)=[(false,eval e X.env)]
structure M2 (X:Cx)(o:Aq)(m:Str)(apos:Pos)(e f:Aq)(bz:Pos):Prop where
 base:attributeBase o m X.env (eval o X.env)=eval o X.env
 few:((backTo bz (starEach [e,f] X.env)).all (fun x=>!x.1)&&(backToKw bz (keywordEach [] X.env)).all (fun x=>x.1.isSome)
 &&decide (([e,f]:O Aq).length+([]:O Keyword).length+(if ([]:O Keyword).isEmpty then 0 else 1)<30))=true
 line:(apos.endLine==bz.line)=true
 trees:backTo bz (starEach [e,f] X.env)=[(false,eval e X.env),(false,eval f X.env)]
def IsD (H:Hp)(a:Ap):Prop:=(∃kvs,Rd H a (.dK kvs))\/∃kvs,Rd H a (.dT kvs)
def Y4j {σ:St}    (I:?A)(d:IsD H a):
  s.TypeIs (.ref a) "dict"/\(∀b,Value.ref a=.ref b->∃ob,?A6=some ob/\ob.dict=none)/\(a==sysModules)=false:=by
 rcases d with⟨kvs,e⟩ |⟨kvs,e⟩
 ·obtain⟨_,hd,vs,_,dd⟩:=Q6g I.hok e;refine⟨dd.typeIs,fun b q=>?_,hd⟩;cases q;obtain⟨ob,_,_,h1,h2,_⟩:=dd;exact⟨ob,h1,h2.2.1⟩
 ·obtain⟨_,hd,xs,_,dd⟩:=Q6i I.hok e;refine⟨dd.typeIs,fun b q=>?_,hd⟩;cases q;obtain⟨ob,_,_,h1,h2,_⟩:=dd;exact⟨ob,h1,h2.2.1⟩
section
variable {σ:St}{o:Am V}
def W6a (hu:A.units+1<cLine)(I:?A)(g:X8 H a y o)(ry:C4 y u)(h:∀w' s',A0 X ae σ H s'->C4 (o.getD .non) w'->Q w' s'):
  wpAny ?C A (call (.builtin "dict.get") [.ref a,u]) Q E s:=by
 rcases g with⟨kvs,k,e,ey,l⟩ |⟨kvs,k,b,e,ey,eb,l⟩
 ·subst ey;obtain⟨z,hd,vs,rel,dd⟩:=Q6g I.hok e;refine Aj gb dd.typeIs nQ (nu _ _) (meets_dict_get (M4 X.prog X.w) a (Q4i ry) hd) ⟨_,dd.mapOf,h _ _ (I.tok _) ?_⟩;rw[l];exact(rel.val k).getD rfl
 ·subst ey;cases (show u=Value.ref b from ry);obtain⟨z,hd,xs,rel,dd⟩:=Q6i I.hok e;refine Aj gb dd.typeIs nQ (nu _ _) (meetsH_dict_get (tupleKind (M4 X.prog X.w)) a b hd) ⟨fP hu,k,xs,Q6p I.hok eb,dd,h _ _ (I.tok _) ?_⟩;rw[l];exact(rel.val k).getD rfl
end
def V8k (td ty:TE):TE:=fun σ H Q=>td σ H fun x H1=>∃a,x=.ref a/\IsD H1 a/\ty σ H1 fun y H2=>∃o,X8 H2 a y o/\Q (o.getD .non) H2
def V2n (hu:X.A.units+1<cLine)(ho:PE X o td)(he:PE X e ty)(m:M1 X o "get" apos e bz):PE X (.Call (.Attribute o "get" apos) [e] [] bz) (V8k td ty):=by
 intro ae s σ H Q I h;refine g6 m.base m.few m.line fG gb PySem.F.type_dict_get (B3 (ho ae s σ H _ I h) fun u s1 bB=>?_);obtain⟨x,H1,I1,rx,a,ex,d,q1⟩:=bB;subst ex;obtain rfl:u=Value.ref a:=rx;obtain⟨t1,t2,_⟩:=Y4j I1 d;refine⟨t1,t2,?_⟩;rw[m.trees];refine cB rfl (cr (bT (B3 (he ae s1 σ H1 _ I1 q1) fun iv s2 ⟨y,H2,I2,ry,ov,g,q2⟩=>cK ?_)));exact W6a hu I2 g ry fun w' s3 I3 iG=>⟨_,H2,I3,iG,q2⟩
namespace Att
open PySem PySem.W PySem.Calls PyProof.Rows
theorem W7t {P:Params}:∀(ns:O Int) (vs:O An),WellAll P h vs (ns.map WData.int)->IntsAre vs ns:=by
 intro ns
 induction ns with
 |nil=>
  intro vs w;rw[cO]at w;cases w;exact .nil
 |cons n ns ih=>
  intro vs w;rw[av]at w;cases w with
  |cons a b=>
   cases a;exact .cons _ _ (ih _ b)
theorem V7j {l:OpenLaw}  (hn:l.most=some n){P:Params}  {args:O WData}{je:O An}
  (l6:l.row.toRowW.claim.pre args=true) (kt:WellAll P h je args):
  ∃a vs ns,je=[Value.ref a]/\args=[WData.list (ns.map WData.int)]/\h.get? a=some {cls:=.type "list",data:=.seq vs.toArray}/\IntsAre vs ns/\ns.length<=n:=by
 have xy:WShape.hasAll [] args [.list .int]=true:=(pre_splitW l6).1;have hc:l.pre.holds [] {args:=args}=true:=(pre_splitW l6).2;obtain⟨d,r,rfl,h1,h2⟩:=hasAllW_cons xy;obtain rfl:=hasAllW_nil h2;obtain⟨xs,rfl,h3⟩:=hasW_list h1;obtain⟨ns,rfl⟩:=items_int h3;have cp:ns.length<=n:=by
  unfold OpenLaw.pre at hc;have h4:(WTm.not (.lt (.lit (.int (n:Int))) (.len (.arg 0)))).holds [] {args:=[.list (ns.map .int)]}=true:=by
   have h4:=(holds_andW hc).1;rw[hn]at h4;exact h4
  have h5:=condW_of h4 (w_not (w_lt w_lit (w_len_list (w_arg rfl))));rw[ai]at h5;refine Nat.le_of_not_lt fun q=>?_;have q':(n:Int)<((ns.length:Nat):Int):=?H
  first
   |(rw[bO q']at h5;exact absurd h5 (?G))
   |(simp at h5;lia)
 cases kt with
 |cons w1 w2=>
  cases w2;cases w1 with
  |list ho nh=>exact⟨_,_,ns,rfl,rfl,ho,W7t ns _ nh,cp⟩
def V3s (l:OpenLaw)(args:O WData):l.row.toRowW.claim.post args (.bool true) args=true:=
 postW_of (r:=l.row.toRowW) (X:=(true==true))
  (show WShape.has [] (.bool true) .bool=true by first |rfl |decide |simp[WShape.has,WShape.arms,WShape.armsAll])
  (show(WTm.eq .res (.lit (.bool true))).value [] {args:=args,res:=some (.bool true),after:=args}=some (.bool (true==true))from w_eq_bool (w_res rfl) w_lit) rfl
def attach_call {l:OpenLaw}      {d:DefRec}
  (hn:l.most=some n) (ke:d.params.defaults=[])
  (call:∀(w:Av) (s₀ s₁:Ao) (mg mb:Str->Am An) (fa:Ap) (o:Obj) (pm cd dG:An) (a:Ap) (vs:O An) (ns:O Int),
   Ground q iX [] XP w s₀ mg mb s₁.heap->YP w s₁.heap ->
   s₁.heap.get? fa=?P->o.data=.func (docDef d.name d.params d.body d.scope pm cd dG)->s₁.heap.CodeRec cd d.name->mg d.name=some (.ref fa) ->
   s₁.heap.get? a=some {cls:=.type "list",data:=.seq vs.toArray}->IntsAre vs ns->ns.length<=n->s₁.gens=#[] ->
   codeAny (model l.prog w) callerA (.call (.ref fa) ⟨[.ref a],[]⟩) (fun r s'=>r=.ok (.ret (.bool true))/\OldK s₁.heap s'.heap/\s'.os=s₁.os/\AllBare s'.gens) s₁):
  WalkO q iX XP YP l.row.toRowW d [] (fun f vs=>PySem.call f vs):=by
 intro w s₀ s₁ mg mb G Y fa o pm cd dG dV kV ho hd fA hD oK hg args je as l6 xO zI kt zN;obtain rfl:dV=.none:=Dflts.none hD ke;obtain rfl:kV=.none:=Dflts.noKw hD;obtain⟨a,vs,ns,rfl,rfl,mT,kb,cp⟩:=V7j hn l6 kt;refine enter_call (lC (call w s₀ s₁ mg mb fa o pm cd dG a vs ns G Y ho (fd_plain hd) fA oK mT kb cp hg) fun r s' hq=>?_);obtain⟨rfl,h2,h3,h4⟩:=hq;exact⟨.inl ⟨.bool true,.bool true,[],rfl,fun _=>rfl,.bool true,V3s l _,fun _=>⟨List.Pairwise.nil,fun _ hm=>(nomatch hm)⟩⟩,h2,h3,h4⟩
end Att
theorem W0l:∀{vs:O An}{ns:O Int},IntsAre vs ns->C0 (ns.map V.int) vs
 |_,_,.nil=>.nil
 |_,_,.cons n t h=>.cons ⟨t,rfl⟩ (W0l h)
def W9 (s:Aw):Arguments:=match s with
 |.FunctionDef _ a _ _ _ _ _ _ _ _=>a
 |_=>{posonlyargs:=[],args:=[],vararg:=none,kwonlyargs:=[],kw_defaults:=[],kwarg:=none,defaults:=[]}
def K6 (s:Aw):O Aw:=match s with
 |.FunctionDef _ _ b _ _ _ _ _ _ _=>b
 |_=>[]
def B8 (s:Aw):Scope:=match s with
 |.FunctionDef _ _ _ _ _ _ sc _ _ _=>sc
 |_=>{kind:=.function,names:=[],isGenerator:=false,isCoroutine:=false}
abbrev G3:CXT:=fun _ _ _ _ _ _=>False
abbrev E0:XK:=fun _ _ _=>False
def Z1i:Q9v G3 X E0:=fun _ _ _ _ _ _ _ h=>h.elim
structure Fun (K:Fg9)(x qual:Str)(st:Aw)(f:Ap)(fd:At):Prop where
 ex:∃(oc:An) (od:Am Ap) (kV dG pm:An) (an:Am Ap) (cdv ct:An) (fK:Array (Am An)),
  fd=PySem.W.fnOf x qual (W9 st) (K6 st) (B8 st) .none kV dG pm an cdv ct/\K.lookup f=some ⟨oc,od,.func fd,fK⟩/\PySem.W.codeIn K cdv qual=true
 kp:PySem.W.keepIn K (.ref f)=true
section
variable {w:Av}{K:Fg9}
def Fun.ok {k:Nat}{sp:Sp}(F:Fun K x qual st f fd)(S:T9 N ps (B8 st))(len:∀vs H Q E,sp vs H Q E->vs.length=ps.length)
  (bS:∀(cdv:An) (A:As) (outer:O Env) (s:Ao) (H:Hp) (vs:O V) (Q:VK) (E:XK),?A0->sp vs H Q E ->
   ∃t,T0 (?Y).nox (K6 st) t/\t {nx:=fun _ H'=>Q .non H',rt:=Q} (start N vs) H):O3 P w K mg base G3 (k+1) f fd ps sp:=by
 obtain⟨oc,od,kV,dG,pm,an,cdv,ct,fK,rfl,lk,fA⟩:=F.ex;refine Z0m lk fA S len fun A outer s H vs Q E hr ii=>?_;obtain⟨t,h,q⟩:=bS cdv A outer s H vs Q E hr ii;exact⟨t,h.nox,q⟩
def Fun.binds (F:Fun K x qual st f fd)
  (h:∀(kV dG pm:An) (an:Am Ap) (cdv ct:An) (us:O An),us.length=ps.length->bindArgs (PySem.W.fnOf x qual (W9 st) (K6 st) (B8 st) .none kV dG pm an cdv ct) ⟨us,[]⟩=pure (ps.zip us)):S8 K fd ps []:=by
 obtain⟨oc,od,kV,dG,pm,an,cdv,ct,fK,rfl,lk,fA⟩:=F.ex;exact .all (h kV dG pm an cdv ct)
def W6y {kV:An}(l:K.lookup f=some ⟨oc,od,.func (PySem.W.fnOf x qual (W9 st) (K6 st) (B8 st) .none kV dG pm an cdv ct),fK⟩)
  (c:PySem.W.codeIn K cdv qual=true) (k:PySem.W.keepIn K (.ref f)=true):Fun K x qual st f (PySem.W.fnOf x qual (W9 st) (K6 st) (B8 st) .none kV dG pm an cdv ct):=⟨⟨oc,od,kV,dG,pm,an,cdv,ct,fK,rfl,l,c⟩,k⟩
end
def pv (i:Nat)   (hN:X.N[i]?=some x:=by rfl)(hv:Vis X.env.scope x:=by first |exact Or.inl rfl |exact Or.inr (Or.inl rfl) |exact Or.inr (Or.inr rfl))(hd:?Q:=by decide)
  (fA:(x==("__classdict__":Str))=false:=by decide):PE X (.Name x pos) (Q0 i):=V3i hN hv hd fA
def A5 (H H':Hp):Prop:=∀b o,H b=?P->H' b=?P
def A5.refl (H:Hp):A5 H H:=fun _ _ h=>h
def A5.trans (a:A5 H H1)(b:A5 H1 H2):A5 H H2:=fun c o h=>b c o (a c o h)
theorem A5.free (e:A5 H H')  (h:H' l=Option.none):H l=Option.none:=by
 cases q:H l with
 |none=>rfl
 |some o=>
  rw[e l o q]at h;cases h
def A5.seq {K:Fg9}    (e:A5 H H')(h:E8 K H a xs):E8 K H' a xs:=by
 rcases h with(h |⟨o,h⟩) |h
 ·exact .inl (.inl (e _ _ h))
 ·exact .inl (.inr ⟨o,e _ _ h⟩)
 ·exact .inr h
abbrev Q9:=St
variable {σ:Q9}
inductive D where
 |non |bl (b:Bool) |int (i:Int) |str (x:Str) |tup (xs:List D) |lst (xs:List D)
def FzL (K:Fg9)(H:Hp)(a:Ap)(xs:O V):Prop:=
 (∃o,H a=some (.frz o (.lst xs))) \/
  ∃(o:Obj) (aY:Array An) (n:Nat),K.lookup a=?P/\o.cls=.type "list"/\o.dict=none/\o.data=.seq aY n/\aY.size<=sizeLine/\C0 xs aY.toList
def FzL.sq {K:Fg9}    (h:FzL K H a xs):E8 K H a xs:=by
 rcases h with⟨o,h⟩ |h
 ·exact .inl (.inr ⟨o,h⟩)
 ·exact .inr h
structure Kp (H H':Hp):Prop where
 tup:∀a xs,H a=some (.tup xs)->H' a=some (.tup xs)
 frz:∀a o u,H a=some (.frz o u)->H' a=some (.frz o u)
def Kp.refl (H:Hp):Kp H H:=⟨fun _ _ h=>h,fun _ _ _ h=>h⟩
def Kp.trans (a:Kp H H1)(b:Kp H1 H2):Kp H H2:=⟨fun c xs h=>b.tup c xs (a.tup c xs h),fun c o u h=>b.frz c o u (a.frz c o u h)⟩
def Kp.of (s:A5 H H'):Kp H H':=⟨fun a xs h=>s a _ h,fun a o u h=>s a _ h⟩
def Q2d (h:H a=some (.lst xs))(o:HO):Kp H (A9 H a o):=
 ⟨fun c ys q=>by rw[B2 (Q0k q h (by intro z;cases z))];exact q,fun c ob u q=>by rw[B2 (Q0k q h (by intro z;cases z))];exact q⟩
def Kp.sqT {K:Fg9}  (k:Kp H H')   (h:D9 K H a xs):D9 K H' a xs:=by
 rcases h with(h |⟨o,h⟩) |h
 ·exact .inl (.inl (k.tup _ _ h))
 ·exact .inl (.inr ⟨o,k.frz _ _ _ h⟩)
 ·exact .inr h
def Kp.fzL {K:Fg9}  (k:Kp H H')   (h:FzL K H a xs):FzL K H' a xs:=by
 rcases h with⟨o,h⟩ |h
 ·exact .inl ⟨o,k.frz _ _ _ h⟩
 ·exact .inr h
def G7 {p:Ap}(h:H p=none)(o:HO):A5 H (A9 H p o):=fun b u q=>by rw[B2 (Y5 q h)];exact q
mutual
def A2 (K:Fg9)(H:Hp):D->V->Prop
 |.non,v=>v=.non
 |.bl b,v=>v=.bl b
 |.int i,v=>v=.int i
 |.str x,v=>v=.str x
 |.tup ds,v=>∃a xs,v=.ref a/\H a=some (.tup xs)/\AllS K H ds xs
 |.lst ds,v=>∃a xs,v=.ref a/\FzL K H a xs/\AllS K H ds xs
def AllS (K:Fg9)(H:Hp):O D->O V->Prop
 |[],vs=>vs=[]
 |d::ds,vs=>∃v r,vs=v::r/\A2 K H d v/\AllS K H ds r
end
section
variable {K:Fg9}
mutual
theorem A2.mono (k:Kp H H'):∀(d:D) (v:V),A2 K H d v->A2 K H' d v
 |.non,v,h=>h
 |.bl _,v,h=>h
 |.int _,v,h=>h
 |.str _,v,h=>h
 |.tup ds,v,h=>by
  unfold A2 at h ⊢;obtain⟨a,xs,e,q,r⟩:=h;exact⟨a,xs,e,k.tup _ _ q,AllS.mono k ds xs r⟩
 |.lst ds,v,h=>by
  unfold A2 at h ⊢;obtain⟨a,xs,e,q,r⟩:=h;exact⟨a,xs,e,k.fzL q,AllS.mono k ds xs r⟩
theorem AllS.mono (k:Kp H H'):∀(ds:O D) (vs:O V),AllS K H ds vs->AllS K H' ds vs
 |[],vs,h=>h
 |d::ds,vs,h=>by
  unfold AllS at h ⊢;obtain⟨v,r,e,q,t⟩:=h;exact⟨v,r,e,A2.mono k d v q,AllS.mono k ds r t⟩
end
theorem AllS.length:∀{ds:O D}{vs:O V},AllS K H ds vs->ds.length=vs.length:=by intro ds;induction ds<;>grind [AllS,aK]
theorem AllS.nil:AllS K H [] []:=by unfold AllS;rfl
theorem AllS.cons {d:D}{ds:O D}{v:V}  (h:A2 K H d v)(t:AllS K H ds vs):AllS K H (d::ds) (v::vs):=by
 unfold AllS;exact⟨v,vs,rfl,h,t⟩
theorem AllS.get:∀{ds:O D}{vs:O V}{i:Nat}{d:D},AllS K H ds vs->ds[i]?=some d->∃v,vs[i]?=some v/\A2 K H d v:=by intro ds;induction ds<;>grind [AllS]
theorem AllS.append:∀{ds es:O D}{vs us:O V},AllS K H ds vs->AllS K H es us->AllS K H (ds++es) (vs++us):=by intro ds;induction ds<;>grind [AllS,AllS.cons]
theorem AllS.take:∀{ds:O D}{vs:O V} (n:Nat),AllS K H ds vs->AllS K H (ds.take n) (vs.take n)
 |_,_,0,_=>by simp;exact AllS.nil
 |[],vs,n+1,h=>by unfold AllS at h;subst h;simp;exact AllS.nil
 |d::ds,vs,n+1,h=>by
  unfold AllS at h;obtain⟨v,r,rfl,q,s⟩:=h;exact AllS.cons q (AllS.take n s)
theorem AllS.drop:∀{ds:O D}{vs:O V} (n:Nat),AllS K H ds vs->AllS K H (ds.drop n) (vs.drop n)
 |_,_,0,h=>h
 |[],vs,n+1,h=>by unfold AllS at h;subst h;simp;exact AllS.nil
 |d::ds,vs,n+1,h=>by
  unfold AllS at h;obtain⟨v,r,rfl,q,s⟩:=h;exact AllS.drop n s
theorem AllS.set {ds:O D}  {d:D}{v:V}(q:A2 K H d v):∀(i:Nat),AllS K H ds vs->AllS K H (ds.set i d) (vs.set i v):=by
 intro i h
 induction ds generalizing vs i with
 |nil=>unfold AllS at h;subst h;exact AllS.nil
 |cons d ds ih=>
  unfold AllS at h;obtain⟨v,r,rfl,q',s⟩:=h;cases i with
  |zero=>exact AllS.cons q s
  |succ i=>exact AllS.cons q' (ih i s)
theorem AllS.ints:AllS K H (ns.map D.int) (ns.map V.int):=by induction ns<;>grind [AllS.nil,AllS.cons,A2]
def Q1g {i:Int}:A2 K H (.int i) (.int i):=by unfold A2;rfl
def Y0o {i:Bool}:A2 K H (.bl i) (.bl i):=by unfold A2;rfl
def Q5y {i:Str}:A2 K H (.str i) (.str i):=by unfold A2;rfl
def Q5b:A2 K H .non .non:=by unfold A2;rfl
def A2.s_tup {ds:O D}   (q:H a=some (.tup xs))(r:AllS K H ds xs):A2 K H (.tup ds) (.ref a):=by unfold A2;exact⟨a,xs,rfl,q,r⟩
def A2.s_lst {ds:O D}   (q:FzL K H a xs)(r:AllS K H ds xs):A2 K H (.lst ds) (.ref a):=by unfold A2;exact⟨a,xs,rfl,q,r⟩
end
def Q6a (Φ:Hp->Prop):Prop:=∀H H':Hp,Kp H H'->Φ H->Φ H'
inductive R where
 |st (d:D) |nw (ds:List D) |bw (ds:List D) |dk (kvs:List (B7×D)) |dt (kvs:List (List B7×D)) |ob (a:Addr) |cl (a:Addr) (Φ:Hp->Prop) |ms (a C:Addr) (d:D) (fs:List (Str×D))
def D4 (K:Fg9)(H:Hp):O (κ×D)->O (κ×V)->Prop
 |[],vs=>vs=[]
 |p::ps,vs=>∃v r,vs=(p.1,v)::r/\A2 K H p.2 v/\D4 K H ps r
theorem D4.mono {K:Fg9}  (k:Kp H H'):∀(ps:O (κ×D)) (vs:O (κ×V)),D4 K H ps vs->D4 K H' ps vs
 |[],_,h=>h
 |p::ps,vs,h=>by
  obtain⟨v,r,e,q,t⟩:=h;exact⟨v,r,e,q.mono k _ _,D4.mono k ps r t⟩
def E7 (K:Fg9)(H0 H:Hp):R->V->Prop
 |.st d,v=>A2 K H d v
 |.nw ds,v=>∃a xs,v=.ref a/\H0 a=none/\H a=some (.lst xs)/\AllS K H ds xs
 |.bw ds,v=>∃a xs,v=.ref a/\H a=some (.lst xs)/\AllS K H ds xs
 |.dk kvs,v=>∃a ps,v=.ref a/\H a=some (.dK ps)/\D4 K H kvs ps
 |.dt kvs,v=>∃a ps,v=.ref a/\H a=some (.dT ps)/\D4 K H kvs ps
 |.ob a,v=>v=.ref a
 |.cl a Φ,v=>v=.ref a/\Φ H/\Q6a Φ
 |.ms a C d fs,v=>A2 K H d v/\∃dx vs,H a=some (.ins C dx vs)/\D4 K H fs vs
theorem E7.mono {K:Fg9}  (s:A5 H H'):∀{r:R}{v:V},E7 K H0 H r v->E7 K H0 H' r v
 |.st d,v,h=>A2.mono (Kp.of s) d v h
 |.nw ds,v,h=>by obtain⟨a,xs,e,n,q,t⟩:=h;exact⟨a,xs,e,n,s _ _ q,t.mono (Kp.of s) _ _⟩
 |.bw ds,v,h=>by obtain⟨a,xs,e,q,t⟩:=h;exact⟨a,xs,e,s _ _ q,t.mono (Kp.of s) _ _⟩
 |.dk ds,v,h=>by obtain⟨a,xs,e,q,t⟩:=h;exact⟨a,xs,e,s _ _ q,t.mono (Kp.of s) _ _⟩
 |.dt ds,v,h=>by obtain⟨a,xs,e,q,t⟩:=h;exact⟨a,xs,e,s _ _ q,t.mono (Kp.of s) _ _⟩
 |.ob a,v,h=>h
 |.cl a Φ,v,h=>⟨h.1,h.2.2 _ _ (Kp.of s) h.2.1,h.2.2⟩
 |.ms a C d fs,v,h=>by obtain⟨h1,dx,vs,q,t⟩:=h;exact⟨h1.mono (Kp.of s) _ _,dx,vs,s _ _ q,t.mono (Kp.of s) _ _⟩
theorem E7.older {K:Fg9}  (s:A5 H0 H1):∀{r:R}{v:V},E7 K H1 H r v->E7 K H0 H r v
 |.st d,v,h=>h
 |.nw ds,v,h=>by obtain⟨a,xs,e,n,q,t⟩:=h;exact⟨a,xs,e,s.free n,q,t⟩
 |.bw ds,v,h=>h
 |.dk ds,v,h=>h
 |.dt ds,v,h=>h
 |.ob a,v,h=>h
 |.cl _ _,v,h=>h
 |.ms _ _ _ _,v,h=>h
def LO (b:Ap)(xs:O V):Heap->Prop:=fun h=>xs.length<=sizeLine/\∃(aY:O An) (n:Nat),C0 xs aY/\h.get? b=some ?A3
def L1 (K:Fg9)(H:Hp):O Ap->O (O D)->Prop
 |[],dss=>dss=[]
 |b::bs,dss=>∃ds r,dss=ds::r/\(∃xs,H b=some (.ext (LO b xs))/\AllS K H ds xs)/\L1 K H bs r
def Q5z (K:Fg9)(H0 H:Hp)(a:Ap)(dss:O (O D)):Prop:=∃bs,(H a=some (.ext (LO a (bs.map V.ref)))/\H0 a=none/\a∉bs)/\bs.Nodup/\(∀b∈bs,H0 b=none)/\L1 K H bs dss
theorem L1.keep {K:Fg9}  (k:Kp H H')(x:∀b φ,H b=some (.ext φ)->H' b=some (.ext φ)):∀{bs:O Ap}{dss:O (O D)},L1 K H bs dss->L1 K H' bs dss
 |[],_,h=>h
 |b::bs,_,h=>by obtain⟨ds,r,e,⟨xs,q,al⟩,t⟩:=h;exact⟨ds,r,e,⟨xs,x _ _ q,al.mono k _ _⟩,L1.keep k x t⟩
def Q5z.keep {K:Fg9}   {dss:O (O D)}(h:Q5z K H0 H a dss)(k:Kp H H')(x:∀b φ,H b=some (.ext φ)->H' b=some (.ext φ)):Q5z K H0 H' a dss:=by
 obtain⟨bs,⟨q,q2⟩,n,f,t⟩:=h;exact⟨bs,⟨x _ _ q,q2⟩,n,f,t.keep k x⟩
inductive Sl where
 |dat (d:D) |own (ds:List D) |bor (ds:List D) |dk (kvs:List (B7×D)) |dt (kvs:List (List B7×D)) |bd (kvs:List (List B7×D)) |ob (a:Addr) |cl (a:Addr) (Φ:Hp->Prop) |ll (a:Addr) (dss:List (List D)) |ins (a C:Addr) (fs:List (Str×D))
variable {o0 o1 o2 o5 o7 o4 o3 o6 o8:Am Sl}
abbrev C3:=O (Am Sl)
variable {τ rest:C3}
def Sl.mut:Sl->Bool
 |.own _=>true
 |.dk _=>true
 |.dt _=>true
 |.ins _ _ _=>true
 |_=>false
def Z4 (K:Fg9)(H0 H:Hp):Sl->V->Prop
 |.dat d,v=>A2 K H d v
 |.own ds,v=>∃a xs,v=.ref a/\H0 a=none/\H a=some (.lst xs)/\AllS K H ds xs
 |.bor ds,v=>∃a xs,v=.ref a/\H0 a=some (.lst xs)/\AllS K H ds xs
 |.dk kvs,v=>∃a ps,v=.ref a/\H0 a=none/\H a=some (.dK ps)/\D4 K H kvs ps
 |.dt kvs,v=>∃a ps,v=.ref a/\H0 a=none/\H a=some (.dT ps)/\D4 K H kvs ps
 |.bd kvs,v=>∃a ps,v=.ref a/\H0 a=some (.dT ps)/\D4 K H kvs ps
 |.ob a,v=>v=.ref a
 |.cl a Φ,v=>v=.ref a/\Φ H/\Q6a Φ
 |.ll a dss,v=>v=.ref a/\Q5z K H0 H a dss
 |.ins a C fs,v=>v=.ref a/\H0 a=none/\∃dx vs,H a=some (.ins C dx vs)/\D4 K H fs vs
theorem Z4.mono {K:Fg9}  (s:A5 H H'):∀{r:Sl}{v:V},Z4 K H0 H r v->Z4 K H0 H' r v
 |.dat d,v,h=>A2.mono (Kp.of s) d v h
 |.own ds,v,h=>by obtain⟨a,xs,e,n,q,t⟩:=h;exact⟨a,xs,e,n,s _ _ q,t.mono (Kp.of s) _ _⟩
 |.bor ds,v,h=>by obtain⟨a,xs,e,q,t⟩:=h;exact⟨a,xs,e,q,t.mono (Kp.of s) _ _⟩
 |.bd ds,v,h=>by obtain⟨a,xs,e,q,t⟩:=h;exact⟨a,xs,e,q,t.mono (Kp.of s) _ _⟩
 |.dk ds,v,h=>by obtain⟨a,xs,e,n,q,t⟩:=h;exact⟨a,xs,e,n,s _ _ q,t.mono (Kp.of s) _ _⟩
 |.dt ds,v,h=>by obtain⟨a,xs,e,n,q,t⟩:=h;exact⟨a,xs,e,n,s _ _ q,t.mono (Kp.of s) _ _⟩
 |.ob a,v,h=>h
 |.cl a Φ,v,h=>⟨h.1,h.2.2 _ _ (Kp.of s) h.2.1,h.2.2⟩
 |.ll a dss,v,h=>⟨h.1,h.2.keep (Kp.of s) fun b φ q=>s _ _ q⟩
 |.ins a C fs,v,h=>by obtain⟨e,n,dx,vs,q,t⟩:=h;exact⟨e,n,dx,vs,s _ _ q,t.mono (Kp.of s) _ _⟩
structure C1 (K:Fg9)(H0:Hp)(τ:C3)(σ:Q9)(H:Hp):Prop where
 len:τ.length=σ.length
 same:A5 H0 H
 here:∀(i:Nat) (s:Sl),τ[i]?=some (some s)->∃v,σ[i]?=some (some v)/\Z4 K H0 H s v
 apart:∀(i j:Nat) (s t:Sl) (v:V),i≠j->τ[i]?=some (some s)->τ[j]?=some (some t)->s.mut=true->t.mut=true->σ[i]?=some (some v)->σ[j]?=some (some v)->False
def C1.mono {K:Fg9}    (h:C1 K H0 τ σ H)(s:A5 H H'):C1 K H0 τ σ H':=
 ⟨h.len,h.same.trans s,fun i sl e=>let ⟨v,q,r⟩:=h.here i sl e;⟨v,q,r.mono s⟩,h.apart⟩
abbrev WE:=C3->(R->Prop)->Prop
variable {wa wb we wv:WE}
def Z5q (K:Fg9)(H0:Hp)(w:WE):TE:=fun σ H Q=>∃ τ,C1 K H0 τ σ H/\w τ fun r=>∀v H',A5 H H'->E7 K H H' r v->Q v H'
structure DE (X:Cx)(H0:Hp)(e:Aq)(w:WE):Prop where
 mono:∀(τ:C3) (P Q:R->Prop),(∀r,P r->Q r)->w τ P->w τ Q
 pe:PE X e (Z5q X.K H0 w)
abbrev WT:=C3->(Bool->Prop)->Prop
def Z5r (K:Fg9)(H0:Hp)(w:WT):TT:=fun σ H Q=>∃ τ,C1 K H0 τ σ H/\w τ fun b=>∀H',A5 H H'->Q b H'
structure DT (X:Cx)(H0:Hp)(e:Aq)(w:WT):Prop where
 mono:∀(τ:C3) (P Q:Bool->Prop),(∀r,P r->Q r)->w τ P->w τ Q
 pt:PT X e (Z5r X.K H0 w)
structure DW (X:Cx)(H0:Hp)(e:Aq)(w:WT):Prop where
 mono:∀(τ:C3) (P Q:Bool->Prop),(∀r,P r->Q r)->w τ P->w τ Q
 pw:PW X e (Z5r X.K H0 w)
abbrev WA:=C3->(O R->Prop)->Prop
variable {wr:WA}
def L6 (K:Fg9)(H0 H:Hp):O R->O V->Prop
 |[],vs=>vs=[]
 |r::rs,vs=>∃v t,vs=v::t/\E7 K H0 H r v/\L6 K H0 H rs t
def W9g (K:Fg9)(H0:Hp)(w:WA):TA:=fun σ H Q=>∃ τ,C1 K H0 τ σ H/\w τ fun rs=>∀vs H',A5 H H'->L6 K H H' rs vs->Q vs H'
structure DA (X:Cx)(H0:Hp)(es:O Aq)(w:WA):Prop where
 len:∀(τ:C3) (Q:O R->Prop),w τ Q->w τ fun rs=>rs.length=es.length/\Q rs
 mono:∀(τ:C3) (P Q:O R->Prop),(∀r,P r->Q r)->w τ P->w τ Q
 pa:PA X es (W9g X.K H0 w)
structure F9 where
 nx:C3->Prop
 rt:R->Prop
 bk:C3->Prop
 ct:C3->Prop
abbrev WS:=F9->C3->Prop
variable {ws:WS}{wh:Ap->Ap->WS}
structure F9.Le (E F:F9):Prop where
 nx:∀ τ,E.nx τ->F.nx τ
 rt:∀r,E.rt r->F.rt r
 bk:∀ τ,E.bk τ->F.bk τ
 ct:∀ τ,E.ct τ->F.ct τ
def N9 (K:Fg9)(H0 Hs:Hp)(D:Q3s):F9 where
 nx:=fun τ=>∀ σ H,Kp Hs H->C1 K H0 τ σ H->D.nx σ H
 rt:=fun r=>∀v H,A5 H0 H->E7 K H0 H r v->D.rt v H
 bk:=fun τ=>∀ σ H,Kp Hs H->C1 K H0 τ σ H->D.bk σ H
 ct:=fun τ=>∀ σ H,Kp Hs H->C1 K H0 τ σ H->D.ct σ H
def Z5p {K:Fg9}  {D:Q3s}(k:Kp H H1):(N9 K H0 H D).Le (N9 K H0 H1 D):=
 ⟨fun τ h σ H2 k2 hR=>h σ H2 (k.trans k2) hR,fun _ h=>h,fun τ h σ H2 k2 hR=>h σ H2 (k.trans k2) hR,fun τ h σ H2 k2 hR=>h σ H2 (k.trans k2) hR⟩
def Q8r (K:Fg9)(H0:Hp)(w:WS):TS:=fun D σ H=>∃ τ,C1 K H0 τ σ H/\w (N9 K H0 H D) τ
structure DS (X:Cx)(H0:Hp)(st:Aw)(w:WS):Prop where
 mono:∀(τ:C3) (E F:F9),E.Le F->w E τ->w F τ
 ps:PS X st (Q8r X.K H0 w)
structure A7 (X:Cx)(H0:Hp)(nz:O Aw)(w:WS):Prop where
 mono:∀(τ:C3) (E F:F9),E.Le F->w E τ->w F τ
 ps:T0 X nz (Q8r X.K H0 w)
def P7 {t t':TE}(h:PE X e t)(f:∀ σ H Q,t' σ H Q->t σ H Q):PE X e t':=fun ae s σ H Q I q=>h ae s σ H Q I (f σ H Q q)
def ptW {t t':TT}(h:PT X e t)(f:∀ σ H Q,t' σ H Q->t σ H Q):PT X e t':=fun ae s σ H Q I q=>h ae s σ H Q I (f σ H Q q)
def pwW {t t':TT}(h:PW X e t)(f:∀ σ H Q,t' σ H Q->t σ H Q):PW X e t':=fun whole ae s σ H Q I q=>h whole ae s σ H Q I (f σ H Q q)
def paW {e:O Aq}{t t':TA}(h:PA X e t)(f:∀ σ H Q,t' σ H Q->t σ H Q):PA X e t':=fun pos ae s σ H Q I q=>h pos ae s σ H Q I (f σ H Q q)
def Q7 {e:Aw}{t t':TS}(h:PS X e t)(f:∀D σ H,t' D σ H->t D σ H):PS X e t':=fun ae s σ H D I q=>h ae s σ H D I (f D σ H q)
def Z1k {e:O Aw}{t t':TS}(h:T0 X e t)(f:∀D σ H,t' D σ H->t D σ H):T0 X e t':=fun ae s σ H D I q=>h ae s σ H D I (f D σ H q)
abbrev IsV (K:Fg9)(H:Hp):R->V->Prop:=E7 K (fun _=>none) H
theorem E7.v {K:Fg9}:∀{r:R}{v:V},E7 K H0 H r v->IsV K H r v
 |.st d,v,h=>h
 |.nw ds,v,h=>by obtain⟨a,xs,e,n,q,t⟩:=h;exact⟨a,xs,e,rfl,q,t⟩
 |.bw ds,v,h=>h
 |.dk ds,v,h=>h
 |.dt ds,v,h=>h
 |.ob a,v,h=>h
 |.cl _ _,v,h=>h
 |.ms _ _ _ _,v,h=>h
def Y4n {K:Fg9}  {k:Bool}:E7 K H0 H (.st (.bl k)) (.bl k):=Y0o (K:=K) (H:=H)
def Z7 {K:Fg9}  {k:Int}:E7 K H0 H (.st (.int k)) (.int k):=Q1g (K:=K) (H:=H)
def Z0p {K:Fg9}  {k:Str}:E7 K H0 H (.st (.str k)) (.str k):=Q5y (K:=K) (H:=H)
section
variable {a b c:Aq}
def S4:Sl->R
 |.dat d=>.st d
 |.own ds=>.bw ds
 |.bor ds=>.bw ds
 |.dk k=>.dk k
 |.dt k=>.dt k
 |.bd k=>.dt k
 |.ob a=>.ob a
 |.cl a Φ=>.cl a Φ
 |.ll a _=>.ob a
 |.ins a _ _=>.ob a
theorem Z4.rd {K:Fg9}{Hs:Hp}(s:A5 H0 H):∀{r:Sl}{v:V},Z4 K H0 H r v->E7 K Hs H (S4 r) v
 |.dat d,v,h=>h
 |.own ds,v,h=>by obtain⟨a,xs,e,n,q,t⟩:=h;exact⟨a,xs,e,q,t⟩
 |.bor ds,v,h=>by obtain⟨a,xs,e,q,t⟩:=h;exact⟨a,xs,e,s _ _ q,t⟩
 |.bd ds,v,h=>by obtain⟨a,xs,e,q,t⟩:=h;exact⟨a,xs,e,s _ _ q,t⟩
 |.dk ds,v,h=>by obtain⟨a,xs,e,n,q,t⟩:=h;exact⟨a,xs,e,q,t⟩
 |.dt ds,v,h=>by obtain⟨a,xs,e,n,q,t⟩:=h;exact⟨a,xs,e,q,t⟩
 |.ob a,v,h=>h
 |.cl _ _,v,h=>h
 |.ll a _,v,h=>h.1
 |.ins a C fs,v,h=>h.1
def wV (i:Nat):WE:=fun τ Q=>∃s,τ[i]?=some (some s)/\Q (S4 s)
def W2f {i:Nat}(h:PE X e (Q0 i)):DE X H0 e (wV i) where
 mono:=fun τ P Q f⟨s,h1,h2⟩=>⟨s,h1,f _ h2⟩
 pe:=P7 h fun σ H Q iM=>by
  obtain⟨τ,hR,s,h1,h2⟩:=iM;obtain⟨v,hv,q⟩:=hR.here i s h1;exact⟨v,hv,h2 v H (A5.refl H) (q.rd hR.same)⟩
def wC (d:D):WE:=fun _ Q=>Q (.st d)
def Q7u {v:V}{d:D}(h:PE X e (tC v))(hd:∀K H,A2 K H d v):DE X H0 e (wC d) where
 mono:=fun τ P Q f h=>f _ h
 pe:=P7 h fun σ H Q⟨τ,hR,h⟩=>h v H (A5.refl H) (hd _ _)
def DE.int {i:Int}{j:Nat}:DE X H0 (.Constant (.int i) j pos) (wC (.int i)):=Q7u V2u fun _ _=>Q1g
def DE.bl {i:Bool}{j:Nat}:DE X H0 (.Constant (.bool i) j pos) (wC (.bl i)):=Q7u V2i fun _ _=>Y0o
def DE.str {i:Str}{j:Nat}:DE X H0 (.Constant (.str i) j pos) (wC (.str i)):=Q7u V3f fun _ _=>Q5y
def DE.non {j:Nat}:DE X H0 (.Constant .none j pos) (wC .non):=Q7u V2y fun _ _=>Q5b
def fzR:R->(D->Prop)->Prop
 |.st d,Q=>Q d
 |.nw ds,Q=>Q (.lst ds)
 |_,_=>False
def A0.freeze {x:Ap}  (I:?A)(h:H x=some (.lst xs)):∃o,A0 X ae σ (A9 H x (.frz o (.lst xs))) s:=by
 obtain⟨z,aY,n,r,q⟩:=I.hok x _ h;refine⟨_,I.write (t':=s.toks) (h':=s.heap) (e:=x) (o:=.frz ?A3 (.lst xs)) (by rw[h];trivial) (.inl rfl) (fun b u _ k=>k) ⟨_,q⟩ ?_⟩;exact⟨q,z,aY,n,r,q⟩
def U5 (h:DE X H0 e we):DE X H0 e (fun τ Q=>we τ fun r=>fzR r fun d=>Q (.st d)) where
 mono:=fun τ P Q f h'=>h.mono τ _ _ (fun r q=>by
  cases r<;>first |exact f _ q |exact q) h'
 pe:=by
  intro ae s σ H Q I ⟨τ,hR,hw⟩;refine B3 (h.pe ae s σ H (fun v H'=>A5 H H'/\∃r,E7 X.K H H' r v/\fzR r fun d=>∀v H',A5 H H'->A2 X.K H' d v->Q v H') I ⟨τ,hR,h.mono τ _ _ (fun r q v H' sm ir=>⟨sm,r,ir,q⟩) hw⟩) ?_;rintro u s1 ⟨v,H1,I1,rv,sm,r,ir,q⟩;cases r with
  |st d=>exact⟨v,H1,I1,rv,q v H1 sm ir⟩
  |nw ds=>
   obtain⟨p,xs,rfl,hn,hp,al⟩:=ir;obtain⟨o,I2⟩:=A0.freeze I1 hp;refine⟨.ref p,_,I2,rv,q _ _ (fun b ob hb=>?_) (A2.s_lst (.inl ⟨o,upd_same⟩) (al.mono (Q2d hp _) _ _))⟩;rw[B2 (Y5 hb hn)];exact sm b ob hb
  |bw _=>exact q.elim
  |dk _=>exact q.elim
  |dt _=>exact q.elim
  |ob _=>exact q.elim
  |cl _ _=>exact q.elim
  |ms _ _ _ _=>exact q.elim
def two (ha:DE X H0 a wa)(hb:DE X H0 b wb)    (hR:C1 X.K H0 τ σ H){F:R->R->Prop}(h:wa τ fun x=>wb τ fun y=>F x y){G:V->V->Hp->Prop}
  (hG:∀x y v u H',A5 H H'->E7 X.K H H' x v->E7 X.K H H' y u->F x y->G v u H'):Z5q X.K H0 wa σ H fun v H1=>Z5q X.K H0 wb σ H1 fun u H2=>G v u H2:=
 ⟨τ,hR,ha.mono τ _ _ (fun x hx v H1 s1 r1=>⟨τ,hR.mono s1,hb.mono τ _ _ (fun y hy u H2 s2 r2=>hG x y v u H2 (s1.trans s2) (r1.mono s2) (r2.older s1) hy) hx⟩) h⟩
def OpD (X:Cx)(f:An->An->Sem An)(g:R->R->(R->Prop)->Prop):Prop:=
 N8 X f (fun x y H Q=>∃r1 r2,IsV X.K H r1 x/\IsV X.K H r2 y/\g r1 r2 fun r=>∀v H',A5 H H'->E7 X.K H H' r v->Q v H')
def Q0c (g:R->R->(α->Prop)->Prop):Prop:=∀x y (P Q:α->Prop),(∀r,P r->Q r)->g x y P->g x y Q
def A3 (g:R->R->(α->Prop)->Prop)(wa wb:WE):C3->(α->Prop)->Prop:=fun τ Q=>wa τ fun x=>wb τ fun y=>g x y Q
def DE.op {op:Operator}{g:R->R->(R->Prop)->Prop}(ho:OpD X (binaryOp op) g)(mg:Q0c g)(ha:DE X H0 a wa)(hb:DE X H0 b wb):DE X H0 (.BinOp a op b pos) (A3 g wa wb) where
 mono:=fun τ P Q f h=>ha.mono τ _ _ (fun x h=>hb.mono τ _ _ (fun y h=>mg x y P Q f h) h) h
 pe:=P7 (V3b ho ha.pe hb.pe) fun σ H Q ⟨τ,hR,h⟩=>two ha hb hR h fun x y v u H' sm rx ry q=>
  ⟨x,y,rx.v,ry.v,mg x y _ _ (fun r q v eR s2 ir=>q v eR (sm.trans s2) (ir.older sm)) q⟩
def X7 (X:Cx)(op:CmpOp)(g:R->R->(Bool->Prop)->Prop):Prop:=
 N8 X (compareOp op) (fun x y H Q=>∃r1 r2,IsV X.K H r1 x/\IsV X.K H r2 y/\g r1 r2 fun k=>Q (.bl k) H)
def DE.cmp {op:CmpOp}{g:R->R->(Bool->Prop)->Prop}(ho:X7 X op g)(mg:Q0c g)(ha:DE X H0 a wa)(hb:DE X H0 b wb)(hm:behindInMarks op b=false):
  DE X H0 (.Compare a [op] [b] pos) (fun τ Q=>A3 g wa wb τ fun k=>Q (.st (.bl k))) where
 mono:=fun τ P Q f h=>ha.mono τ _ _ (fun x h=>hb.mono τ _ _ (fun y h=>mg x y _ _ (fun k q=>f _ q) h) h) h
 pe:=P7 (V2m ho ha.pe hb.pe hm) fun σ H Q ⟨τ,hR,h⟩=>two ha hb hR h fun x y v u H' sm rx ry q=>
  ⟨x,y,rx.v,ry.v,mg x y _ _ (fun r q=>q _ _ sm Y4n) q⟩
def DT.cmp {op:CmpOp}{g:R->R->(Bool->Prop)->Prop}(ho:X7 X op g)(mg:Q0c g)(ha:DE X H0 a wa)(hb:DE X H0 b wb)(hm:behindInMarks op b=false):
  DT X H0 (.Compare a [op] [b] pos) (A3 g wa wb) where
 mono:=fun τ P Q f h=>ha.mono τ _ _ (fun x h=>hb.mono τ _ _ (fun y h=>mg x y _ _ (fun k q=>f _ q) h) h) h
 pt:=ptW (V4c ho ha.pe hb.pe hm) fun σ H Q ⟨τ,hR,h⟩=>two ha hb hR h fun x y v u H' sm rx ry q=>
  ⟨x,y,rx.v,ry.v,mg x y _ _ (fun r q=>⟨r,rfl,q _ sm⟩) q⟩
def Q4v:R->(Bool->Prop)->Prop
 |.st .non,Q=>Q false
 |.st (.bl b),Q=>Q b
 |.st (.int i),Q=>Q (i != 0)
 |.st (.str x),Q=>x.length<=sizeLine/\Q ((x.length:Int) != 0)
 |.st (.tup ds),Q=>Q (!ds.isEmpty)
 |.st (.lst ds),Q=>Q (!ds.isEmpty)
 |.nw ds,Q=>Q (!ds.isEmpty)
 |.bw ds,Q=>Q (!ds.isEmpty)
 |.dk kvs,Q=>Q (!kvs.isEmpty)
 |.dt _,_=>False
 |.ob _,_=>False
 |.cl _ _,_=>False
 |.ms _ _ _ _,_=>False
theorem AllS.empty {K:Fg9}  {ds:O D}  (h:AllS K H ds xs):ds.isEmpty=xs.isEmpty:=by
 have:=h.length;cases ds<;>cases xs<;>simp_all
def V9c (r:R)(P Q:Bool->Prop)(f:∀r,P r->Q r)(h:Q4v r P):Q4v r Q:=by
 unfold Q4v at h ⊢;split at h<;>first |exact f _ h |exact⟨h.1,f _ h.2⟩ |exact h
theorem V9e {K:Fg9}  {r:R}{v:V}(ir:IsV K H r v){Q:Bool->Prop}(h:Q4v r Q):∃k,Z3m K v H k/\Q k:=by
 cases r with
 |st d=>
  cases d with
  |non=>cases (show v=.non from ir);exact⟨_,rfl,h⟩
  |bl b=>cases (show v=.bl b from ir);exact⟨_,rfl,h⟩
  |int b=>cases (show v=.int b from ir);exact⟨_,rfl,h⟩
  |str b=>cases (show v=.str b from ir);exact⟨_,⟨h.1,rfl⟩,h.2⟩
  |tup ds=>
   have ir:A2 K H (.tup ds) v:=ir;unfold A2 at ir;obtain⟨p,xs,rfl,q,al⟩:=ir;exact⟨_,.inr (.inl ⟨xs,D9.of q,rfl⟩),by rw[<-al.empty];exact h⟩
  |lst ds=>
   have ir:A2 K H (.lst ds) v:=ir;unfold A2 at ir;obtain⟨p,xs,rfl,q,al⟩:=ir;exact⟨_,.inl ⟨xs,q.sq,rfl⟩,by rw[<-al.empty];exact h⟩
 |nw ds=>obtain⟨p,xs,rfl,_,q,al⟩:=ir;exact⟨_,.inl ⟨xs,E8.of q,rfl⟩,by rw[<-al.empty];exact h⟩
 |bw ds=>obtain⟨p,xs,rfl,q,al⟩:=ir;exact⟨_,.inl ⟨xs,E8.of q,rfl⟩,by rw[<-al.empty];exact h⟩
 |dk ds=>
  obtain⟨p,xs,rfl,q,al⟩:=ir;refine⟨_,.inr (.inr ⟨xs,q,rfl⟩),?_⟩;cases ds with
  |nil=>cases (show xs=[]from al);exact h
  |cons d ds=>obtain⟨v,r,rfl,_⟩:=al;exact h
 |dt _=>exact h.elim
 |ob _=>exact h.elim
 |cl _ _=>exact h.elim
 |ms _ _ _ _=>exact h.elim
def Y0c (ha:DE X H0 a wa)(he:∀whole,isTrue a X.env whole=(do let v <- whole;standAt a.pos;holding [v] (truthy v))):DT X H0 a (fun τ Q=>wa τ fun r=>Q4v r Q) where
 mono:=fun τ P Q f h=>ha.mono τ _ _ (fun x h=>V9c x P Q f h) h
 pt:=ptW (V4e ha.pe he) fun σ H Q ⟨τ,hR,h⟩=>⟨τ,hR,ha.mono τ _ _ (fun r q v H' sm ir=>by
  obtain⟨k,h1,h2⟩:=V9e ir.v q;exact⟨k,h1,h2 H' sm⟩) h⟩
variable {ta tb tc:WT}{rest:O Aq}
def Q5s (t u:WT):WT:=fun τ Q=>t τ fun k=>if k=true then u τ Q else Q false
def wOr (t u:WT):WT:=fun τ Q=>t τ fun k=>if k=true then Q true else u τ Q
def Q9j (t:WT):WT:=fun τ Q=>t τ fun k=>Q (!k)
theorem Q0i {c A B A' B':Prop}[Decidable c](f:A->A')(g:B->B')(h:if c then A else B):if c then A' else B':=by grind
def Z3b (ha:DT X H0 a ta):DW X H0 (.BoolOp .And [a] pos) ta:=⟨ha.mono,V4g ha.pt⟩
def DW.or1 (ha:DT X H0 a ta):DW X H0 (.BoolOp .Or [a] pos) ta:=⟨ha.mono,V4i ha.pt⟩
def Z3a (ha:DT X H0 a ta)(hb:DW X H0 (.BoolOp .And (b::rest) pos) tb):DW X H0 (.BoolOp .And (a::b::rest) pos) (Q5s ta tb) where
 mono:=fun τ P Q f h=>ha.mono τ _ _ (fun k h=>Q0i (hb.mono τ _ _ f) (f _) h) h
 pw:=pwW (V4f ha.pt hb.pw) fun σ H Q ⟨τ,hR,h⟩=>⟨τ,hR,ha.mono τ _ _ (fun k q H1 s1=>
  Q0i (fun h=>⟨τ,hR.mono s1,hb.mono τ _ _ (fun k q H2 s2=>q H2 (s1.trans s2)) h⟩) (fun h=>h H1 s1) q) h⟩
def DW.or (ha:DT X H0 a ta)(hb:DW X H0 (.BoolOp .Or (b::rest) pos) tb):DW X H0 (.BoolOp .Or (a::b::rest) pos) (wOr ta tb) where
 mono:=fun τ P Q f h=>ha.mono τ _ _ (fun k h=>Q0i (f _) (hb.mono τ _ _ f) h) h
 pw:=pwW (V4h ha.pt hb.pw) fun σ H Q ⟨τ,hR,h⟩=>⟨τ,hR,ha.mono τ _ _ (fun k q H1 s1=>
  Q0i (fun h=>h H1 s1) (fun h=>⟨τ,hR.mono s1,hb.mono τ _ _ (fun k q H2 s2=>q H2 (s1.trans s2)) h⟩) q) h⟩
def DW.t (h:DW X H0 a ta):DT X H0 a ta:=⟨h.mono,h.pw.pt⟩
def DT.nt (ha:DT X H0 a ta):DT X H0 (.UnaryOp .Not a pos) (Q9j ta) where
 mono:=fun τ P Q f h=>ha.mono τ _ _ (fun k h=>f _ h) h
 pt:=ptW (V4d ha.pt) fun σ H Q⟨τ,hR,h⟩=>⟨τ,hR,h⟩
def blR:R->(Bool->Prop)->Prop
 |.st (.bl b),Q=>Q b
 |_,_=>False
def Y1y {r:R}{P:Bool->Prop}(h:blR r P):∃k,r=.st (.bl k)/\P k:=by
 unfold blR at h;split at h
 ·exact⟨_,rfl,h⟩
 ·exact h.elim
def Q9k (wa wb:WE):WE:=fun τ Q=>wa τ fun r=>blR r fun k=>if k=true then Q (.st (.bl true))else wb τ Q
def DE.or1 (ha:DE X H0 a wa):DE X H0 (.BoolOp .Or [a] pos) wa:=⟨ha.mono,V3a ha.pe⟩
def DE.or (ha:DE X H0 a wa)(hb:DE X H0 (.BoolOp .Or (b::rest) pos) wb):DE X H0 (.BoolOp .Or (a::b::rest) pos) (Q9k wa wb) where
 mono:=fun τ P Q f h=>ha.mono τ _ _ (fun r h=>by
  obtain⟨k,rfl,h⟩:=Y1y h;exact Q0i (f _) (hb.mono τ _ _ f) h) h
 pe:=P7 (V3c ha.pe hb.pe) fun σ H Q ⟨τ,hR,h⟩=>⟨τ,hR,ha.mono τ _ _ (fun r h v H1 s1 ir=>by
  obtain⟨k,rfl,h⟩:=Y1y h;refine⟨k,ir,Q0i (fun h=>h _ _ s1 Y4n) (fun h=>⟨τ,hR.mono s1,hb.mono τ _ _ (fun r q u H2 s2 iu=>q u H2 (s1.trans s2) (iu.older s1)) h⟩) h⟩) h⟩
def wIf (t:WT)(wa wb:WE):WE:=fun τ Q=>t τ fun k=>if k=true then wa τ Q else wb τ Q
def DE.ife (hc:DT X H0 c tc)(ha:DE X H0 a wa)(hb:DE X H0 b wb):DE X H0 (.IfExp c a b pos) (wIf tc wa wb) where
 mono:=fun τ P Q f h=>hc.mono τ _ _ (fun k h=>Q0i (ha.mono τ _ _ f) (hb.mono τ _ _ f) h) h
 pe:=P7 (V2t hc.pt ha.pe hb.pe) fun σ H Q ⟨τ,hR,h⟩=>⟨τ,hR,hc.mono τ _ _ (fun k h H1 s1=>
  Q0i (fun h=>⟨τ,hR.mono s1,ha.mono τ _ _ (fun r q u H2 s2 iu=>q u H2 (s1.trans s2) (iu.older s1)) h⟩) (fun h=>⟨τ,hR.mono s1,hb.mono τ _ _ (fun r q u H2 s2 iu=>q u H2 (s1.trans s2) (iu.older s1)) h⟩) h) h⟩
variable {es:O Aq}
def A4:WA:=fun _ Q=>Q []
def A1 (we:WE)(wr:WA):WA:=fun τ Q=>we τ fun r=>wr τ fun rs=>Q (r::rs)
theorem L6.older {K:Fg9}  (s:A5 H0 H1):∀{rs:O R}{vs:O V},L6 K H1 H rs vs->L6 K H0 H rs vs
 |[],_,h=>h
 |r::rs,_,h=>by obtain⟨v,t,e,q,z⟩:=h;exact⟨v,t,e,q.older s,L6.older s z⟩
def DA.nil:DA X H0 [] A4:=⟨fun τ Q h=>⟨rfl,h⟩,fun τ P Q f h=>f _ h,paW Q4r fun σ H Q⟨τ,hR,h⟩=>h [] H (A5.refl H) rfl⟩
def DA.cons (ha:DE X H0 e we)(hr:DA X H0 es wr)(hs:?I:=by rfl):DA X H0 (e::es) (A1 we wr) where
 len:=fun τ Q h=>ha.mono τ _ _ (fun r h=>hr.mono τ _ _ (fun rs h=>⟨by rw[aK,aK,h.1],h.2⟩) (hr.len τ _ h)) h
 mono:=fun τ P Q f h=>ha.mono τ _ _ (fun r h=>hr.mono τ _ _ (fun rs h=>f _ h) h) h
 pa:=paW (Q1p ha.pe hr.pa hs) fun σ H Q ⟨τ,hR,h⟩=>⟨τ,hR,ha.mono τ _ _ (fun r h v H1 s1 ir=>⟨τ,hR.mono s1,hr.mono τ _ _ (fun rs h vs H2 s2 dA=>
  h (v::vs) H2 (s1.trans s2) ⟨v,vs,rfl,ir.mono s2,dA.older s1⟩) h⟩) h⟩
def Q1y:O R->Am (O D)
 |[]=>some []
 |.st d::rs=>(Q1y rs).map (d::·)
 |_::_=>none
theorem Z7e {K:Fg9}:∀{rs:O R}{ds:O D}{vs:O V},Q1y rs=some ds->L6 K H0 H rs vs->AllS K H ds vs
 |[],ds,vs,h,q=>by cases h;cases q;exact AllS.nil
 |.st d::rs,ds,vs,h,q=>by
  obtain⟨v,t,rfl,iv,z⟩:=q;unfold Q1y at h;cases e:Q1y rs with
  |none=>rw[e]at h;cases h
  |some es=>rw[e]at h;cases h;exact AllS.cons iv (Z7e e z)
 |.nw _::_,_,_,h,_=>by cases h
 |.bw _::_,_,_,h,_=>by cases h
 |.dk _::_,_,_,h,_=>by cases h
 |.dt _::_,_,_,h,_=>by cases h
 |.ob _::_,_,_,h,_=>by cases h
 |.cl _ _::_,_,_,h,_=>by cases h
 |.ms _ _ _ _::_,_,_,h,_=>by cases h
def X6 (wr:WA):WE:=fun τ Q=>wr τ fun rs=>∃ds,Q1y rs=some ds/\ds.length<=sizeLine/\Q (.st (.tup ds))
def S7 (wr:WA):WE:=fun τ Q=>wr τ fun rs=>∃ds,Q1y rs=some ds/\ds.length<=sizeLine/\Q (.nw ds)
def DE.tup {k:Nat}(h:DA X H0 es wr):DE X H0 (.Tuple es k pos) (X6 wr) where
 mono:=fun τ P Q f h'=>h.mono τ _ _ (fun rs⟨ds,e,l,q⟩=>⟨ds,e,l,f _ q⟩) h'
 pe:=P7 (V3g h.pa) fun σ H Q ⟨τ,hR,h'⟩=>⟨τ,hR,h.mono τ _ _ (fun rs mO vs H1 s1 dA=>by
  obtain⟨ds,e,l,q⟩:=mO;have al:=Z7e e dA;refine⟨by rw[<-al.length];exact l,fun p hp=>q _ _ (s1.trans (G7 hp _)) (A2.s_tup upd_same (al.mono (Kp.of (G7 hp _)) _ _))⟩) h'⟩
def DE.lst (h:DA X H0 es wr):DE X H0 (.List es pos) (S7 wr) where
 mono:=fun τ P Q f h'=>h.mono τ _ _ (fun rs⟨ds,e,l,q⟩=>⟨ds,e,l,f _ q⟩) h'
 pe:=P7 (V2x h.pa) fun σ H Q ⟨τ,hR,h'⟩=>⟨τ,hR,h.mono τ _ _ (fun rs sw vs H1 s1 dA=>by
  obtain⟨ds,e,l,q⟩:=sw;have al:=Z7e e dA;refine⟨by rw[<-al.length];exact l,fun p hp=>q _ _ (s1.trans (G7 hp _)) ⟨p,vs,rfl,s1.free hp,upd_same,al.mono (Kp.of (G7 hp _)) _ _⟩⟩) h'⟩
end
def Q1j {l:O (Am α)}{i:Nat}{x:Am α}(h:i<l.length):(l.set i x)[i]?=some x:=by simp[h]
theorem C1.set {K:Fg9}    {i:Nat}{s:Sl}{v:V}(h:C1 K H0 τ σ H)(q:Z4 K H0 H s v)
  (ap:s.mut=true->∀(j:Nat) (t:Sl),j≠i->τ[j]?=some (some t)->t.mut=true->σ[j]?≠some (some v)):C1 K H0 (τ.set i (some s)) (σ.set i (some v)) H where
 len:=by rw[bx,bx];exact h.len
 same:=h.same
 here:=fun j t e=>by
  by_cases hj:j=i
  ·subst hj
   by_cases hl:j<τ.length
   ·rw[Q1j hl]at e;cases e;exact⟨v,Q1j (by rw[<-h.len];exact hl),q⟩
   ·rw[az.mpr (by rw[bx];lia)]at e;cases e
  ·rw[aM (fun z=>hj z.symm)]at e ⊢;exact h.here j t e
 apart:=fun j k s1 s2 u dM e1 e2 m1 m2 q1 q2=>by
  by_cases hj:j=i
  ·subst hj;have hk:k≠j:=fun z=>dM z.symm
   by_cases hl:j<τ.length
   ·rw[Q1j hl]at e1;cases e1;rw[Q1j (by rw[<-h.len];exact hl)]at q1;cases q1;rw[aM (fun z=>hk z.symm)]at e2 q2;exact ap m1 k s2 hk e2 m2 q2
   ·rw[az.mpr (by rw[bx];lia)]at e1;cases e1
  ·by_cases hk:k=i
   ·subst hk
    by_cases hl:k<τ.length
    ·rw[Q1j hl]at e2;cases e2;rw[Q1j (by rw[<-h.len];exact hl)]at q2;cases q2;rw[aM (fun z=>hj z.symm)]at e1 q1;exact ap m2 j s1 hj e1 m1 q1
    ·rw[az.mpr (by rw[bx];lia)]at e2;cases e2
   ·rw[aM (fun z=>hj z.symm)]at e1 q1;rw[aM (fun z=>hk z.symm)]at e2 q2;exact h.apart j k s1 s2 u dM e1 e2 m1 m2 q1 q2
theorem C1.tracked {K:Fg9}    {j:Nat}{t:Sl}{p:Ap}(h:C1 K H0 τ σ H)(e:τ[j]?=some (some t))(m:t.mut=true)(q:σ[j]?=some (some (.ref p))):∃o,H p=?P:=by
 obtain⟨v,hv,r⟩:=h.here j t e;rw[q]at hv;cases hv;cases t with
 |dat _=>cases m
 |bor _=>cases m
 |bd _=>cases m
 |own ds=>obtain⟨a,xs,e,_,q,_⟩:=r;cases e;exact⟨_,q⟩
 |dk ds=>obtain⟨a,xs,e,_,q,_⟩:=r;cases e;exact⟨_,q⟩
 |dt ds=>obtain⟨a,xs,e,_,q,_⟩:=r;cases e;exact⟨_,q⟩
 |ob _=>cases m
 |cl _ _=>cases m
 |ll _ _=>cases m
 |ins _ _ _=>obtain⟨e,_,dx,xs,q,_⟩:=r;cases e;exact⟨_,q⟩
def V1:R->(Sl->Prop)->Prop
 |.st d,Q=>Q (.dat d)
 |.nw ds,Q=>Q (.own ds)
 |_,_=>False
theorem V8c {r:R}{P:Sl->Prop}(h:V1 r P):∃s,P s/\((∃d,r=.st d/\s=.dat d)\/∃ds,r=.nw ds/\s=.own ds):=by
 cases r with
 |st d=>exact⟨_,h,.inl ⟨d,rfl,rfl⟩⟩
 |nw ds=>exact⟨_,h,.inr ⟨ds,rfl,rfl⟩⟩
 |bw _=>exact h.elim
 |dk _=>exact h.elim
 |dt _=>exact h.elim
 |ob _=>exact h.elim
 |cl _ _=>exact h.elim
 |ms _ _ _ _=>exact h.elim
def Z7s {r:R}{P Q:Sl->Prop}(f:∀s,P s->Q s)(h:V1 r P):V1 r Q:=by
 cases r<;>first |exact f _ h |exact h
def C1.store {K:Fg9}    {i:Nat}{r:R}{v:V}(h:C1 K H0 τ σ H)(sm:A5 H H1)(ir:E7 K H H1 r v){P:Sl->Prop}(st:V1 r P):∃s,P s/\C1 K H0 (τ.set i (some s)) (σ.set i (some v)) H1:=by
 obtain⟨s,p,⟨d,rfl,rfl⟩ |⟨ds,rfl,rfl⟩⟩:=V8c st
 ·exact⟨_,p,(h.mono sm).set ir fun m=>by cases m⟩
 ·obtain⟨a,xs,rfl,hn,ha,al⟩:=ir;refine⟨_,p,(h.mono sm).set ⟨a,xs,rfl,h.same.free hn,ha,al⟩ fun _ j t hj e m q=>?_⟩;obtain⟨o,ho⟩:=h.tracked e m q;rw[hn]at ho;cases ho
section
variable {c:Aq}{tc:WT}{nz:O Aw}{wt:WS}
def M9:WS:=fun E τ=>E.nx τ
def A6 (t u:WS):WS:=fun E τ=>t {E with nx:=u E} τ
def A7.nil:A7 X H0 [] M9:=⟨fun τ E F le h=>le.nx τ h,Z1k V4b fun D σ H⟨τ,hR,h⟩=>h σ H (Kp.refl H) hR⟩
def A7.cons (h1:DS X H0 st ws)(h2:A7 X H0 nz wt):A7 X H0 (st::nz) (A6 ws wt) where
 mono:=fun τ E F le h=>h1.mono τ {E with nx:=wt E} {F with nx:=wt F} ⟨fun τ' h=>h2.mono τ' E F le h,le.rt,le.bk,le.ct⟩ h
 ps:=Z1k (Y7c h1.ps h2.ps) fun D σ H⟨τ,hR,h⟩=>⟨τ,hR,h1.mono τ {N9 X.K H0 H D with nx:=wt (N9 X.K H0 H D)} _ ⟨fun τ' h σ' H' k eO=>⟨τ',eO,h2.mono τ' _ _ (Z5p k) h⟩,fun _ h=>h,fun _ h=>h,fun _ h=>h⟩ h⟩
def A7.one (h1:DS X H0 st ws):A7 X H0 [st] ws:=⟨h1.mono,Z1k (Y7d h1.ps) fun D σ H h=>h⟩
def N7 (t:WT)(ws wt:WS):WS:=fun E τ=>t τ fun k=>if k=true then ws E τ else wt E τ
def DS.ife {sa sb:O Aw}(hc:DT X H0 c tc)(ha:A7 X H0 sa ws)(hb:A7 X H0 sb wt):DS X H0 (.If c sa sb pos) (N7 tc ws wt) where
 mono:=fun τ E F le h=>hc.mono τ _ _ (fun k h=>Q0i (ha.mono τ E F le) (hb.mono τ E F le) h) h
 ps:=Q7 (V3y hc.pt ha.ps hb.ps) fun D σ H ⟨τ,hR,h⟩=>⟨τ,hR,hc.mono τ _ _ (fun k h H1 s1=>
  Q0i (fun h=>⟨τ,hR.mono s1,ha.mono τ _ _ (Z5p (Kp.of s1)) h⟩) (fun h=>⟨τ,hR.mono s1,hb.mono τ _ _ (Z5p (Kp.of s1)) h⟩) h) h⟩
def Q6z:R->(R->Prop)->Prop
 |.st d,Q=>Q (.st d)
 |.nw ds,Q=>Q (.nw ds)
 |_,_=>False
def V5y {r:R}{P:R->Prop}(h:Q6z r P):P r:=by
 cases r<;>first |exact h |exact h.elim
def V5x {r:R}{P Q:R->Prop}(f:∀s,P s->Q s)(h:Q6z r P):Q6z r Q:=by
 cases r<;>first |exact f _ h |exact h
def J3 (we:WE):WS:=fun E τ=>we τ fun r=>Q6z r E.rt
def DS.ret (he:DE X H0 e we):DS X H0 (.Return (some e) pos) (J3 we) where
 mono:=fun τ E F le h=>he.mono τ _ _ (fun r h=>V5x le.rt h) h
 ps:=Q7 (Z6r he.pe) fun D σ H⟨τ,hR,h⟩=>⟨τ,hR,he.mono τ _ _ (fun r h v H1 s1 ir=>V5y (P:=(N9 X.K H0 H D).rt) h v H1 (hR.same.trans s1) (ir.older hR.same)) h⟩
def Q3g:Sl->(R->Prop)->Prop
 |.dat d,Q=>Q (.st d)
 |.own ds,Q=>Q (.nw ds)
 |_,_=>False
def W2v {i:Nat}(he:PE X e (Q0 i)):DS X H0 (.Return (some e) pos) (fun E τ=>∃s,τ[i]?=some (some s)/\Q3g s E.rt) where
 mono:=fun τ E F le jZ=>(by obtain⟨s,h1,h2⟩:=jZ;exact⟨s,h1,by cases s<;>first |exact le.rt _ h2 |exact h2⟩)
 ps:=Q7 (Z6r he) fun D σ H cy=>by
  obtain⟨τ,hR,s,h1,h2⟩:=cy;obtain⟨v,hv,q⟩:=hR.here i s h1;refine⟨v,hv,?_⟩;cases s with
  |dat d=>exact h2 v H hR.same q
  |own ds=>exact h2 v H hR.same q
  |bor _=>exact h2.elim
  |bd _=>exact h2.elim
  |dk _=>exact h2.elim
  |dt _=>exact h2.elim
  |ob _=>exact h2.elim
  |cl _ _=>exact h2.elim
  |ll _ _=>exact h2.elim
  |ins _ _ _=>exact h2.elim
def C2 (i:Nat)(we:WE):WS:=fun E τ=>we τ fun r=>V1 r fun s=>E.nx (τ.set i (some s))
def DS.set {i:Nat}  (he:DE X H0 e we)(hN:X.N.Nodup)(hi:X.N[i]?=some x)(hx:Loc X.env.scope x)(hs:swapsWith e (some (.Name x cf)) pos.line X.env=pure false:=by rfl)
  (hf:?J:=by sleep 1):DS X H0 (.Assign [.Name x cf] e pos) (C2 i we) where
 mono:=fun τ E F le h=>he.mono τ _ _ (fun r h=>Z7s (fun s h=>le.nx _ h) h) h
 ps:=Q7 (Q6x hN hi hx he.pe hs hf) fun D σ H ⟨τ,hR,h⟩=>⟨τ,hR,he.mono τ _ _ (fun r h v H1 s1 ir=>by
  obtain⟨s,p,eO⟩:=hR.store (i:=i) s1 ir h;exact p _ _ (Kp.of s1) eO) h⟩
def G6 (t:WT)(wb:WS):Nat->WS
 |0=>?A4
 |n+1=>fun E τ=>t τ fun k=>if k=true then wb {E with nx:=G6 t wb n E,ct:=G6 t wb n E,bk:=E.nx} τ else E.nx τ
def Q2a (t:WT)(wb:WS):WS:=fun E τ=>∃n,G6 t wb n E τ
theorem Z9k (ht:∀(τ:C3) (P Q:Bool->Prop),(∀r,P r->Q r)->tc τ P->tc τ Q)(hb:∀(τ:C3) (E F:F9),E.Le F->ws E τ->ws F τ):
  ∀(n:Nat) (τ:C3) (E F:F9),E.Le F->G6 tc ws n E τ->G6 tc ws n F τ
 |0,_,_,_,_,h=>h
 |n+1,τ,E,F,le,h=>ht τ _ _ (fun k h=>Q0i (hb τ {E with nx:=G6 tc ws n E,ct:=G6 tc ws n E,bk:=E.nx} {F with nx:=G6 tc ws n F,ct:=G6 tc ws n F,bk:=F.nx} ⟨fun τ h=>Z9k ht hb n τ E F le h,le.rt,le.nx,fun τ h=>Z9k ht hb n τ E F le h⟩) (le.nx τ) h) h
def Q7w (hp:PassesOwn ?C X.A X.env X.xe)(hc:DT X H0 c tc)(hb:A7 X H0 body ws):DS X H0 (.While c body [] pos) (Q2a tc ws) where
 mono:=fun τ E F le⟨n,h⟩=>⟨n,Z9k hc.mono hb.mono n τ E F le h⟩
 ps:=Q7 (V4a hp hc.pt hb.ps) fun D σ H0' cR=>by
  obtain⟨τ,hR,n,h⟩:=cR;refine⟨fun m σ H=>∃ τ,C1 X.K H0 τ σ H/\Kp H0' H/\G6 tc ws m (N9 X.K H0 H0' D) τ,⟨n,τ,hR,Kp.refl _,h⟩,?_⟩;rintro m σ H ⟨τ,hR,kp,h⟩;cases m with
  |zero=>exact h.elim
  |succ m=>
   refine⟨τ,hR,hc.mono τ _ _ (fun k h H1 s1=>Q0i (fun h=>?_) (fun h=>h σ H1 (kp.trans (Kp.of s1)) (hR.mono s1)) h) h⟩;refine⟨fun σ' H'=>∃ τ,C1 X.K H0 τ σ' H'/\Kp H0' H'/\G6 tc ws m (N9 X.K H0 H0' D) τ,fun σ' H' h'=>⟨m,cb m,h'⟩,τ,hR.mono s1,?_⟩;have k1:=kp.trans (Kp.of s1);exact hb.mono τ {N9 X.K H0 H0' D with nx:=G6 tc ws m (N9 X.K H0 H0' D),ct:=G6 tc ws m (N9 X.K H0 H0' D),bk:=(N9 X.K H0 H0' D).nx} _
    ⟨fun τ' h' σ' H' k eO=>⟨τ',eO,k1.trans k,h'⟩,fun _ h=>h,fun τ' h' σ' H' k eO=>h' σ' H' (k1.trans k) eO,fun τ' h' σ' H' k eO=>⟨τ',eO,k1.trans k,h'⟩⟩ h
end
abbrev E3:=O R->R->Prop
variable {sp:E3}
def L8:R->Bool
 |.st _=>true
 |.nw _=>true
 |.bw _=>true
 |.ob _=>true
 |.cl _ _=>true
 |_=>false
def nrm:R->R
 |.nw ds=>.bw ds
 |r=>r
def Q4k (K:Fg9)(n:Nat)(sp:E3):Sp:=fun vs H Q _=>∃(rs:O R) (r:R),rs.length=n/\L6 K (fun _=>none) H rs vs/\rs.all L8=true/\sp (rs.map nrm) r/\∀v H',A5 H H'->E7 K H H' r v->Q v H'
def M5:R->Sl
 |.st d=>.dat d
 |.nw ds=>.bor ds
 |.bw ds=>.bor ds
 |.dk k=>.dk k
 |.dt k=>.dt k
 |.ob a=>.ob a
 |.cl a Φ=>.cl a Φ
 |.ms a C _ fs=>.ins a C fs
def E2 (N:O Str)(rs:O R):C3:=rs.map (fun r=>some (M5 r))++List.replicate (N.length-rs.length) none
theorem L6.length {K:Fg9}:∀{rs:O R}{vs:O V},L6 K H0 H rs vs->rs.length=vs.length
 |[],_,h=>by cases h;rfl
 |r::rs,_,h=>by obtain⟨v,t,rfl,_,z⟩:=h;rw[aK,aK,L6.length z]
theorem L6.get {K:Fg9}:∀{rs:O R}{vs:O V}{i:Nat}{r:R},L6 K H0 H rs vs->rs[i]?=some r->∃v,vs[i]?=some v/\E7 K H0 H r v
 |[],_,_,_,_,e=>by simp at e
 |r::rs,_,0,r',h,e=>by obtain⟨v,t,rfl,q,z⟩:=h;simp at e;subst e;exact⟨v,rfl,q⟩
 |r::rs,_,i+1,r',h,e=>by
  obtain⟨v,t,rfl,q,z⟩:=h;obtain⟨u,h1,h2⟩:=L6.get (i:=i) z (by simpa using e);exact⟨u,by simpa using h1,h2⟩
theorem L6.v {K:Fg9}:∀{rs:O R}{vs:O V},L6 K H0 H rs vs->L6 K (fun _=>none) H rs vs
 |[],_,h=>h
 |r::rs,_,h=>by obtain⟨v,t,e,q,z⟩:=h;exact⟨v,t,e,q.v,L6.v z⟩
theorem V8a (r:R):M5 (nrm r)=M5 r:=by cases r<;>rfl
theorem Q7m (N:O Str)(rs:O R):E2 N (rs.map nrm)=E2 N rs:=by grind [E2,aF,ai,aT,V8a]
theorem Z4.arg {K:Fg9}:∀{r:R}{v:V},L8 r=true->IsV K H r v->Z4 K H H (M5 r) v
 |.st d,v,_,h=>h
 |.nw ds,v,_,h=>by obtain⟨a,xs,e,_,q,t⟩:=h;exact⟨a,xs,e,q,t⟩
 |.bw ds,v,_,h=>h
 |.dk _,_,h,_=>by cases h
 |.dt _,_,h,_=>by cases h
 |.ob a,v,_,h=>h
 |.cl _ _,v,_,h=>h
 |.ms _ _ _ _,_,h,_=>by cases h
theorem V7z:∀{r:R},L8 r=true->(M5 r).mut=false
 |.st d,_=>rfl
 |.nw ds,_=>rfl
 |.bw ds,_=>rfl
 |.dk _,h=>by cases h
 |.dt _,h=>by cases h
 |.ob _,_=>rfl
 |.cl _ _,_=>rfl
 |.ms _ _ _ _,h=>by cases h
theorem Q6y {K:Fg9}   {rs:O R}  (al:L6 K (fun _=>none) H rs vs)(ok:rs.all L8=true):C1 K H (E2 N rs) (start N vs) H:=by
 have hl:=al.length;have at_:∀(i:Nat) (s:Sl),(E2 N rs)[i]?=some (some s)->∃r,rs[i]?=some r/\s=M5 r:=fun i s e=>by
  unfold E2 at e
  by_cases hi:i<rs.length
  ·rw[aJ (by rw[ai];exact hi),ah,ac hi]at e;exact⟨rs[i],ac hi,(aC (aC e)).symm⟩
  ·rw[aR (by rw[ai];lia)]at e;have:=au e;rw[i5]at this;cases this.2
 have uu:∀(i:Nat) (r:R),rs[i]?=some r->L8 r=true:=fun i r e=>cc.mp ok r (au e);refine⟨?_,A5.refl H,fun i s e=>?_,fun i j s t v _ e1 _ m _ _ _=>?_⟩
 ·unfold E2 start;rw[ao,ao,ai,ai,aZ,aZ,hl]
 ·obtain⟨r,hr,rfl⟩:=at_ i s e;obtain⟨v,hv,q⟩:=al.get hr;refine⟨v,?_,Z4.arg (uu i r hr) q⟩;unfold start;have hi:i<vs.length:=by
   rcases b7 i vs.length with h |h
   ·exact h
   ·rw[az.mpr h]at hv;cases hv
  rw[aJ (by rw[ai];exact hi),ah,hv]
  rfl
 ·obtain⟨r,hr,rfl⟩:=at_ i s e1;rw[V7z (uu i r hr)]at m;cases m
section
variable {w:Av}{K:Fg9}
def Fun.okD {k:Nat}  (F:Fun K x qual st f fd)(S:T9 N ps (B8 st))
  (bS:∀(cdv:An) (A:As) (outer:O Env) (s:Ao) (H:Hp) (E:XK),?A0 ->
   ∃ws,A7 (?Y).nox H (K6 st) ws /\
    ∀rs r,rs.length=ps.length->sp rs r->ws {nx:=fun _=>r=.st .non,rt:=fun r'=>r'=r,bk:=fun _=>False,ct:=fun _=>False} (E2 N rs)):
  O3 P w K mg base G3 (k+1) f fd ps (Q4k K ps.length sp):=by
 refine F.ok S (fun vs H Q E h=>?_) (fun cdv A outer s H vs Q E hr h=>?_)
 ·obtain⟨rs,r,hl,al,_⟩:=h;rw[<-al.length];exact hl
 obtain⟨rs,r,hl,al,ok,h1,h2⟩:=h;obtain⟨ws,hd,hw⟩:=bS cdv A outer s H E hr;refine⟨_,hd.ps,E2 N rs,Q6y al ok,?_⟩;have hw:=hw (rs.map nrm) r (by rw[ai];exact hl) h1;rw[Q7m]at hw;refine hd.mono _ _ _ ⟨fun τ h σ H' _ hR=>?_,fun r' h v H' sm ir=>?_,fun _ h=>False.elim h,fun _ h=>False.elim h⟩ hw
 ·have h:r=.st .non:=h;subst h;exact h2 .non H' hR.same (Q5b (K:=K) (H:=H'))
 ·have h:r'=r:=h;subst h;exact h2 v H' sm ir
end
section
variable {es:O Aq}{k:Nat}
def J8 (sp:E3)(wr:WA):WE:=fun τ Q=>wr τ fun rs=>rs.all L8=true/\∃r,sp (rs.map nrm) r/\Q r
def DE.call (F:O3 X.prog X.w X.K X.mg X.base G3 k f fd ps (Q4k X.K (e::es).length sp))(hr:E1 k X.A)(hg:Gl X x)(hm:X.mg x=some (.ref f))(hk:PySem.W.keepIn X.K (.ref f)=true)(hb:S8 X.K fd ps [])
  (ha:DA X H0 (e::es) wr) (eT:?Q:=by decide) (he:?I:=by rfl) (hpl:?S:=by rfl):
  DE X H0 (.Call (.Name x p) (e::es) [] pos) (J8 sp wr) where
 mono:=fun τ P Q f h=>ha.mono τ _ _ (fun rs⟨ok,r,h1,h2⟩=>⟨ok,r,h1,f r h2⟩) h
 pe:=P7 (Z1j F hr hg hm hk hb .nil Z1i ha.pa eT he hpl) fun σ H Q ⟨τ,hR,h⟩=>⟨τ,hR,ha.mono τ _ _ (fun rs fM vs H1 s1 dA=>by
  obtain⟨lc,ok,r,h1,h2⟩:=fM;refine⟨rs,r,lc,?_,ok,h1,fun v H' s2 ir=>h2 v H' (s1.trans s2) (ir.older s1)⟩;rw[b8];exact dA.v) (ha.len τ _ h)⟩
end
mutual
def D.eq:D->D->Bool
 |.non,.non=>true
 |.bl a,.bl b=>a==b
 |.bl a,.int b=>(if a then(1:Int)else 0)==b
 |.int a,.bl b=>a==(if b then(1:Int)else 0)
 |.int a,.int b=>a==b
 |.str a,.str b=>a==b
 |.tup a,.tup b=>Dqeqs a b
 |.lst a,.lst b=>Dqeqs a b
 |_,_=>false
def Dqeqs:O D->O D->Bool
 |[],[]=>true
 |x::xs,y::ys=>D.eq x y&&Dqeqs xs ys
 |_,_=>false
end
mutual
def D.depth:D->Nat
 |.tup a=>Dqdepths a+1
 |.lst a=>Dqdepths a+1
 |_=>0
def Dqdepths:O D->Nat
 |[]=>0
 |x::xs=>max (D.depth x) (Dqdepths xs)
end
theorem Y0d:∀{ds:O D}{i:Nat}{d:D},ds[i]?=some d->d.depth<=Dqdepths ds:=by intro ds;induction ds<;>grind [Dqdepths]
mutual
theorem Q7x:∀d:D,D.eq d d=true
 |.non=>by unfold D.eq;rfl
 |.bl a=>by unfold D.eq;simp
 |.int a=>by unfold D.eq;simp
 |.str a=>by unfold D.eq;simp
 |.tup a=>by unfold D.eq;exact Dqeqs_refl a
 |.lst a=>by unfold D.eq;exact Dqeqs_refl a
theorem Dqeqs_refl:∀ds:O D,Dqeqs ds ds=true
 |[]=>by unfold Dqeqs;rfl
 |x::xs=>by unfold Dqeqs;rw[Q7x x,Dqeqs_refl xs];rfl
end
theorem Z3c:∀(a b:O D),Dqeqs a b=((List.range (min a.length b.length)).all (fun i=>match a[i]?,b[i]? with |some x,some y=>D.eq x y |_,_=>true)&&a.length==b.length)
 |[],[]=>by unfold Dqeqs;simp
 |[],y::ys=>by unfold Dqeqs;simp
 |x::xs,[]=>by unfold Dqeqs;simp
 |x::xs,y::ys=>by
  unfold Dqeqs;rw[Z3c xs ys];have e:min (x::xs).length (y::ys).length=min xs.length ys.length+1:=by simp[Nat.succ_min_succ]
  rw[e,bF,gY,List.all_map];simp only[aK,List.getElem?_cons_zero,fy,nv];rw[Bool.and_assoc];congr 2;simp
def IsW (K:Fg9)(H:Hp)(d:D)(v:V):Prop:=match d with
 |.lst ds=>∃a xs,v=.ref a/\E8 K H a xs/\AllS K H ds xs
 |d=>A2 K H d v
theorem A2.w {K:Fg9}:∀{d:D}{v:V},A2 K H d v->IsW K H d v
 |.non,_,h=>h
 |.bl _,_,h=>h
 |.int _,_,h=>h
 |.str _,_,h=>h
 |.tup _,_,h=>h
 |.lst _,_,h=>by unfold A2 at h;obtain⟨a,xs,e,q,t⟩:=h;exact⟨a,xs,e,q.sq,t⟩
def R.d:R->Am D
 |.st d=>some d
 |.nw ds=>some (.lst ds)
 |.bw ds=>some (.lst ds)
 |_=>none
theorem E7.w {K:Fg9}:∀{r:R}{v:V}{d:D},r.d=some d->E7 K H0 H r v->IsW K H d v
 |.st d,v,_,e,h=>by cases e;exact A2.w h
 |.nw ds,v,_,e,h=>by cases e;obtain⟨a,xs,e,n,q,t⟩:=h;exact⟨a,xs,e,E8.of q,t⟩
 |.bw ds,v,_,e,h=>by cases e;obtain⟨a,xs,e,q,t⟩:=h;exact⟨a,xs,e,E8.of q,t⟩
 |.dk _,_,_,e,_=>by cases e
 |.dt _,_,_,e,_=>by cases e
 |.ob _,_,_,e,_=>by cases e
 |.cl _ _,_,_,e,_=>by cases e
 |.ms _ _ _ _,_,_,e,_=>by cases e
def Y9y (I:?A)   (h1:D9 X.K H a xs)(h2:E8 X.K H a ys):False:=by
 obtain⟨_,_,⟨o,e,c,_⟩,_⟩:=I.tuple h1;obtain⟨_,_,⟨o',n,e',c',_⟩,_⟩:=I.list h2;rw[e]at e';cases e';rw[c]at c';exact absurd c' ?E
mutual
theorem A2.inj (I:?A):∀(d e:D) (v:V),A2 X.K H d v->A2 X.K H e v->d=e
 |.non,e,v,h1,h2=>by
  cases e<;>unfold A2 at h1 h2<;>first |rfl |(obtain⟨_,_,z,_⟩:=h2;rw[h1]at z;cases z;done) |(rw[h1]at h2;cases h2;done) |(rw[h1]at h2;cases h2;rfl)
 |.bl p,e,v,h1,h2=>by
  cases e<;>unfold A2 at h1 h2<;>first |rfl |(obtain⟨_,_,z,_⟩:=h2;rw[h1]at z;cases z;done) |(rw[h1]at h2;cases h2;done) |(rw[h1]at h2;cases h2;rfl)
 |.int p,e,v,h1,h2=>by
  cases e<;>unfold A2 at h1 h2<;>first |rfl |(obtain⟨_,_,z,_⟩:=h2;rw[h1]at z;cases z;done) |(rw[h1]at h2;cases h2;done) |(rw[h1]at h2;cases h2;rfl)
 |.str p,e,v,h1,h2=>by
  cases e<;>unfold A2 at h1 h2<;>first |rfl |(obtain⟨_,_,z,_⟩:=h2;rw[h1]at z;cases z;done) |(rw[h1]at h2;cases h2;done) |(rw[h1]at h2;cases h2;rfl)
 |.tup p,.non,v,h1,h2=>by unfold A2 at h1 h2;obtain⟨_,_,e,_⟩:=h1;rw[h2]at e;cases e
 |.tup p,.bl q,v,h1,h2=>by unfold A2 at h1 h2;obtain⟨_,_,e,_⟩:=h1;rw[h2]at e;cases e
 |.tup p,.int q,v,h1,h2=>by unfold A2 at h1 h2;obtain⟨_,_,e,_⟩:=h1;rw[h2]at e;cases e
 |.tup p,.str q,v,h1,h2=>by unfold A2 at h1 h2;obtain⟨_,_,e,_⟩:=h1;rw[h2]at e;cases e
 |.lst p,.non,v,h1,h2=>by unfold A2 at h1 h2;obtain⟨_,_,e,_⟩:=h1;rw[h2]at e;cases e
 |.lst p,.bl q,v,h1,h2=>by unfold A2 at h1 h2;obtain⟨_,_,e,_⟩:=h1;rw[h2]at e;cases e
 |.lst p,.int q,v,h1,h2=>by unfold A2 at h1 h2;obtain⟨_,_,e,_⟩:=h1;rw[h2]at e;cases e
 |.lst p,.str q,v,h1,h2=>by unfold A2 at h1 h2;obtain⟨_,_,e,_⟩:=h1;rw[h2]at e;cases e
 |.tup p,.tup q,v,h1,h2=>by unfold A2 at h1 h2;obtain⟨x,xs,e1,q1,r1⟩:=h1;obtain⟨y,ys,e2,q2,r2⟩:=h2;rw[e1]at e2;cases e2;have e:=I.tuple_inj (D9.of q1) (D9.of q2);subst e;rw[AllS.inj I p q xs r1 r2]
 |.tup p,.lst q,v,h1,h2=>by unfold A2 at h1 h2;obtain⟨x,xs,e1,q1,r1⟩:=h1;obtain⟨y,ys,e2,q2,r2⟩:=h2;rw[e1]at e2;cases e2;exact absurd (Y9y I (D9.of q1) q2.sq) id
 |.lst p,.tup q,v,h1,h2=>by unfold A2 at h1 h2;obtain⟨x,xs,e1,q1,r1⟩:=h2;obtain⟨y,ys,e2,q2,r2⟩:=h1;rw[e1]at e2;cases e2;exact absurd (Y9y I (D9.of q1) q2.sq) id
 |.lst p,.lst q,v,h1,h2=>by unfold A2 at h1 h2;obtain⟨x,xs,e1,q1,r1⟩:=h1;obtain⟨y,ys,e2,q2,r2⟩:=h2;rw[e1]at e2;cases e2;have e:=I.list_inj q1.sq q2.sq;subst e;rw[AllS.inj I p q xs r1 r2]
theorem AllS.inj (I:?A):∀(ds es:O D) (vs:O V),AllS X.K H ds vs->AllS X.K H es vs->ds=es
 |[],[],_,_,_=>rfl
 |[],y::ys,vs,h1,h2=>by unfold AllS at h1 h2;obtain⟨_,_,e,_⟩:=h2;rw[h1]at e;cases e
 |x::xs,[],vs,h1,h2=>by unfold AllS at h1 h2;obtain⟨_,_,e,_⟩:=h1;rw[h2]at e;cases e
 |x::xs,y::ys,vs,h1,h2=>by
  unfold AllS at h1 h2;obtain⟨v,r,e1,q1,t1⟩:=h1;obtain⟨v',r',e2,q2,t2⟩:=h2;rw[e1]at e2;cases e2;rw[A2.inj I x y v q1 q2,AllS.inj I xs ys r t1 t2]
end
section
open PySem.SeqAt
theorem Q9y {ds:O D}   (al:AllS X.K H ds xs)(rv:C0 xs aY){j:Nat}(h:j<aY.toArray.size):∃d v,ds[j]?=some d/\A2 X.K H d v/\C4 v aY.toArray[j]:=by
 have hl:=al.length;have hr:=rv.length;have hj:j<aY.length:=by simpa using h
 have lW:j<ds.length:=?H
 obtain⟨v,hv,q⟩:=al.get (ac lW);obtain⟨u,hu,r⟩:=rv.get hv;have e:u=aY.toArray[j]:=by
  rw[ac hj]at hu;simpa using (aC hu).symm
 exact⟨ds[j],v,ac lW,q,e▸r⟩
def Y3l (I:?A){d1 d2:D}{v1 v2:V}{u1 u2:An}  (h:∀A:As,A.units+n<cLine->RcAt A s u1 u2 (D.eq d1 d2))(i1:A2 X.K H d1 v1)(i2:A2 X.K H d2 v2)(r1:C4 v1 u1)(r2:C4 v2 u2)  (hu:A.units+n<cLine):EqAt A s u1 u2 (D.eq d1 d2):=by
 have hA:=h A hu
 by_cases e:u1=u2
 ·subst e;have ev:=r1.inj r2;subst ev;rw[A2.inj I d1 d2 v1 i1 i2,Q7x];exact EqAt.same _
 ·intro prog w E Q hq;unfold eqBool;refine bD ?_;refine wpAny_ite_split (fun yg=>absurd (eq_of_beq yg) e) (fun _=>?_);have fin:wpAny ?V A (richCompare .Eq u1 u2>>=truthOfDropped) Q E s:=aa (hA prog w E _ (eB hq));cases v1 with
  |non=>cases r1;exact fin
  |bl _=>cases r1;exact fin
  |int _=>obtain⟨t,rfl⟩:=r1;exact fin
  |str _=>obtain⟨t,rfl⟩:=r1;exact fin
  |byt _=>obtain⟨t,rfl⟩:=r1;exact fin
  |ref _=>cases r1;exact fin
  |ty _=>cases r1;exact fin
  |flt b=>cases d1<;>first |(cases (show V.flt b=_ from i1)) |(unfold A2 at i1;obtain⟨_,_,z,_⟩:=i1;cases z)
inductive Vw (X:Cx)(H:Hp)(s:Shared):D->Value->Prop
 |non:Vw X H s .non .none
 |bl (b:Bool):Vw X H s (.bl b) (.bool b)
 |int (i:Int) (t:Tok):Vw X H s (.int i) (.int i t)
 |str (x:Str) (t:Tok):Vw X H s (.str x) (.str x t)
 |tup {ds:List D}{a:Addr}{xs:List V}{aY:List Value} (al:AllS X.K H ds xs) (rv:C0 xs aY) (pl:s.heap.IsTuple a aY.toArray):Vw X H s (.tup ds) (.ref a)
 |lst {ds:List D}{a:Addr}{xs:List V}{aY:List Value} (al:AllS X.K H ds xs) (rv:C0 xs aY) (pl:s.heap.IsList a aY.toArray):Vw X H s (.lst ds) (.ref a)
theorem Z2e (I:?A){d:D}{v:V}  (h:IsW X.K H d v)(r:C4 v u):Vw X H s d u:=by
 cases d with
 |non=>cases (show v=.non from h);cases r;exact .non
 |bl b=>cases (show v=.bl b from h);cases r;exact .bl b
 |int i=>cases (show v=.int i from h);obtain⟨t,rfl⟩:=r;exact .int i t
 |str x=>cases (show v=.str x from h);obtain⟨t,rfl⟩:=r;exact .str x t
 |tup ds=>have h:A2 X.K H (.tup ds) v:=h;unfold A2 at h;obtain⟨a,xs,rfl,sq,al⟩:=h;cases r;obtain⟨aY,rv,pl,_⟩:=I.tuple (D9.of sq);exact .tup al rv pl
 |lst ds=>obtain⟨a,xs,rfl,sq,al⟩:=h;cases r;obtain⟨aY,rv,pl,_⟩:=I.list sq;exact .lst al rv pl.isList
def Q8e (d e:D):Prop:=(∃p q,d=.tup p/\e=.tup q)\/∃p q,d=.lst p/\e=.lst q
def Y7g {d1 d2:D}{u1 u2:An}  (h1:Vw X H s d1 u1)(h2:Vw X H s d2 u2)(hu:A.units<cLine)(hb:¬ Q8e d1 d2):RcAt A s u1 u2 (D.eq d1 d2):=by
 cases h1<;>cases h2<;>first |exact absurd (.inl ⟨_,_,rfl,rfl⟩) hb |exact absurd (.inr ⟨_,_,rfl,rfl⟩) hb |(unfold D.eq;(try simp only[Bool.not_true,Bool.not_false]);(with_reducible first |exact RcAt.none_none |exact RcAt.none_bool _ |exact RcAt.none_int _ _ |exact RcAt.none_str _ _ |exact RcAt.none_tuple (by assumption) hu |exact RcAt.none_list (by assumption) hu |exact RcAt.bool_none _ |exact RcAt.bool_bool _ _ |exact RcAt.bool_int _ _ _ |exact RcAt.bool_str _ _ _ |exact RcAt.bool_tuple _ (by assumption) hu |exact RcAt.bool_list _ (by assumption) hu |exact RcAt.int_none _ _ |exact RcAt.int_bool _ _ _ |exact RcAt.int_int _ _ _ _ |exact RcAt.int_str _ _ _ _ |exact RcAt.int_tuple _ _ (by assumption) hu |exact RcAt.int_list _ _ (by assumption) hu |exact RcAt.str_none _ _ |exact RcAt.str_bool _ _ _ |exact RcAt.str_int _ _ _ _ |exact RcAt.str_str _ _ _ _ |exact RcAt.str_tuple _ _ (by assumption) hu |exact RcAt.str_list _ _ (by assumption) hu |exact RcAt.tuple_none (by assumption) hu |exact RcAt.tuple_bool _ (by assumption) hu |exact RcAt.tuple_int _ _ (by assumption) hu |exact RcAt.tuple_str _ _ (by assumption) hu |exact RcAt.tuple_list (by assumption) (by assumption) hu |exact RcAt.list_none (by assumption) hu |exact RcAt.list_bool _ (by assumption) hu |exact RcAt.list_int _ _ (by assumption) hu |exact RcAt.list_str _ _ (by assumption) hu |exact RcAt.list_tuple (by assumption) (by assumption) hu))
theorem rc_D (I:?A):∀(n:Nat) (d1 d2:D) (v1 v2:V) (u1 u2:An) (A:As),d1.depth<=n->IsW X.K H d1 v1->IsW X.K H d2 v2->C4 v1 u1->C4 v2 u2->A.units+n<cLine->RcAt A s u1 u2 (D.eq d1 d2):=by
 intro n
 induction n with
 |zero=>
  intro d1 d2 v1 v2 u1 u2 A hd h1 h2 r1 r2 hu;refine Y7g (Z2e I h1 r1) (Z2e I h2 r2) (?H) ?_;rintro (⟨p,q,rfl,rfl⟩ |⟨p,q,rfl,rfl⟩)<;>unfold D.depth at hd<;>lia
 |succ n ih=>
  intro d1 d2 v1 v2 u1 u2 A hd h1 h2 r1 r2 hu;have w1:=Z2e I h1 r1;have w2:=Z2e I h2 r2
  by_cases hb:Q8e d1 d2
  ·obtain⟨p,q,rfl,rfl⟩ |⟨p,q,rfl,rfl⟩:=hb
   ·cases w1;cases w2;rename_i a1 w4 mI oo q9 kI a2 vZ dB jT jU fC;have hd:Dqdepths p+1<=n+1:=by unfold D.depth at hd;exact hd
    have l1:mI.toArray.size=p.length:=by have:=kI.length;have:=oo.length;simp;lia
    have l2:dB.toArray.size=q.length:=by have:=fC.length;have:=jT.length;simp;lia
    have k:=RcAt.tuples (A:=A) (s:=s) (e:=fun i=>match p[i]?,q[i]? with |some x,some y=>D.eq x y |_,_=>true) q9 jU (?H) (fun j sL lW=>by
     obtain⟨d1,v1,e1,i1,w1⟩:=Q9y kI oo sL;obtain⟨d2,v2,e2,i2,w2⟩:=Q9y fC jT lW;simp only[e1,e2];exact Y3l I (fun A=>ih d1 d2 v1 v2 _ _ A (by have:=Y0d e1;lia) i1.w i2.w w1 w2) i1 i2 w1 w2 (by simp only[eQ];lia))
    rw[l1,l2]at k;unfold D.eq;rw[Z3c];exact k
   ·cases w1;cases w2;rename_i a1 w4 mI oo q9 kI a2 vZ dB jT jU fC;have hd:Dqdepths p+1<=n+1:=by unfold D.depth at hd;exact hd
    have l1:mI.toArray.size=p.length:=by have:=kI.length;have:=oo.length;simp;lia
    have l2:dB.toArray.size=q.length:=by have:=fC.length;have:=jT.length;simp;lia
    have kk:RcAt A s (.ref a1) (.ref a2) (Dqeqs p q):=by
     rw[Z3c]
     by_cases cp:p.length=q.length
     ·have k:=RcAt.lists (A:=A) (s:=s) (e:=fun i=>match p[i]?,q[i]? with |some x,some y=>D.eq x y |_,_=>true) q9 jU (?H) (?H) (fun j sL lW=>by
       obtain⟨d1,v1,e1,i1,w1⟩:=Q9y kI oo sL;obtain⟨d2,v2,e2,i2,w2⟩:=Q9y fC jT lW;simp only[e1,e2];exact Y3l I (fun A=>ih d1 d2 v1 v2 _ _ A (by have:=Y0d e1;lia) i1.w i2.w w1 w2) i1 i2 w1 w2 (by simp only[eQ];lia))
      rw[l1]at k;rw[<-cp,Nat.min_self,Ab,Bool.and_true];exact k
     ·rw[cq.mpr cp,Bool.and_false];exact RcAt.lists_lengths q9 jU (by rw[l1,l2];simpa using cp) (?H)
    unfold D.eq;exact kk
  ·exact Y7g w1 w2 (?H) hb
end
namespace HT
open PySem PyProof.Rows
section
variable {w:Av}
def cat_tup0 {t:Ap}{vs ws:O An}  (ht:IsTup s.heap t vs.toArray)(hb:IsTup s.heap b ws.toArray)(hv:vs=[])(h1:Q (.ref b) s):wpAny ?V A (binaryOp .Add (.ref t) (.ref b)) Q E s:=by
 obtain⟨⟨cls,dd,data,sl⟩,ho,hc,n,hd⟩:=id ht;obtain⟨⟨pE,m9,data2,jy⟩,jC,j4,n2,kD⟩:=id hb;simp only at hc hd j4 kD;subst hc hd j4 kD;exact Ah ⟨_,ho,rfl⟩ ⟨_,jC,rfl⟩ mi vX fS fH (fz _ _)
  (tuple_addW0 t b vs.toArray ws.toArray n n2 dd m9 sl jy (by simp[hv])) ⟨ho,jC,h1⟩
end
end HT
def J1 (C:Int->Int->Prop)(f:Int->Int->Int):R->R->(R->Prop)->Prop
 |.st (.int i),.st (.int j),Q=>C i j/\Q (.st (.int (f i j)))
 |_,_,_=>False
def Z5i {C:Int->Int->Prop}{f:Int->Int->Int}{x y:R}{Q:R->Prop}(h:J1 C f x y Q):∃i j,x=.st (.int i)/\y=.st (.int j)/\C i j/\Q (.st (.int (f i j))):=by
 unfold J1 at h;split at h
 ·exact⟨_,_,rfl,rfl,h.1,h.2⟩
 ·exact h.elim
def X0 {C:Int->Int->Prop}{f:Int->Int->Int}:Q0c (J1 C f):=fun x y P Q g h=>by
 obtain⟨i,j,rfl,rfl,c,q⟩:=Z5i h;exact⟨c,g _ q⟩
def OpD.ints {F:An->An->Sem An}{C:Int->Int->Prop}{f:Int->Int->Int}(h:N8 X F (rI C fun i j=>.int (f i j))):OpD X F (J1 C f):=by
 intro ae s σ H x y v u Q I rx ry ⟨r1,r2,h1,h2,hg⟩;obtain⟨i,j,rfl,rfl,c,q⟩:=Z5i hg;exact h ae s σ H x y v u Q I rx ry ⟨i,j,h1,h2,c,q _ _ (A5.refl H) Z7⟩
def Y1d {F:An->An->Sem An}{f:Int->Int->Int}(h:N8 X F (rI0 fun i j=>.int (f i j))):OpD X F (J1 (fun _ _=>True) f):=by
 intro ae s σ H x y v u Q I rx ry ⟨r1,r2,h1,h2,hg⟩;obtain⟨i,j,rfl,rfl,c,q⟩:=Z5i hg;exact h ae s σ H x y v u Q I rx ry ⟨i,j,h1,h2,q _ _ (A5.refl H) Z7⟩
abbrev NoC:Int->Int->Prop:=fun _ _=>True
def Z1h:OpD X (binaryOp .FloorDiv) (J1 Q2b fun i j=>i / j):=OpD.ints V1v
def Q5m:OpD X (binaryOp .Mod) (J1 (fun _ j=>0<j) fun i j=>i % j):=OpD.ints V2a
def lsM:R->Am (O D)
 |.nw ds=>some ds
 |.bw ds=>some ds
 |_=>none
def Y4:R->Am (O D)
 |.nw ds=>some ds
 |.bw ds=>some ds
 |.st (.lst ds)=>some ds
 |_=>none
theorem Y5e {K:Fg9}:∀{r:R}{ds:O D}{v:V},lsM r=some ds->E7 K H0 H r v->∃a xs,v=.ref a/\H a=some (.lst xs)/\AllS K H ds xs
 |.nw ds,_,v,e,h=>by cases e;obtain⟨a,xs,e,n,q,t⟩:=h;exact⟨a,xs,e,q,t⟩
 |.bw ds,_,v,e,h=>by cases e;obtain⟨a,xs,e,q,t⟩:=h;exact⟨a,xs,e,q,t⟩
 |.st _,_,_,e,_=>by cases e
 |.dk _,_,_,e,_=>by cases e
 |.dt _,_,_,e,_=>by cases e
 |.ob _,_,_,e,_=>by cases e
 |.cl _ _,_,_,e,_=>by cases e
 |.ms _ _ _ _,_,_,e,_=>by cases e
theorem Q5j {K:Fg9}:∀{r:R}{ds:O D}{v:V},Y4 r=some ds->E7 K H0 H r v->∃a xs,v=.ref a/\E8 K H a xs/\AllS K H ds xs
 |.nw ds,_,v,e,h=>by cases e;obtain⟨a,xs,e,n,q,t⟩:=h;exact⟨a,xs,e,E8.of q,t⟩
 |.bw ds,_,v,e,h=>by cases e;obtain⟨a,xs,e,q,t⟩:=h;exact⟨a,xs,e,E8.of q,t⟩
 |.st (.lst ds),_,v,e,h=>by cases e;have h:A2 K H (.lst ds) v:=h;unfold A2 at h;obtain⟨a,xs,e,q,t⟩:=h;exact⟨a,xs,e,q.sq,t⟩
 |.st .non,_,_,e,_=>by cases e
 |.st (.bl _),_,_,e,_=>by cases e
 |.st (.int _),_,_,e,_=>by cases e
 |.st (.str _),_,_,e,_=>by cases e
 |.st (.tup _),_,_,e,_=>by cases e
 |.dk _,_,_,e,_=>by cases e
 |.dt _,_,_,e,_=>by cases e
 |.ob _,_,_,e,_=>by cases e
 |.cl _ _,_,_,e,_=>by cases e
 |.ms _ _ _ _,_,_,e,_=>by cases e
def G2 (x y:R)(Q:R->Prop):Prop:=
 match x,y with
 |.st (.int i),.st (.int j)=>Q (.st (.int (i+j)))
 |.st (.str i),.st (.str j)=>i.length+j.length<=sizeLine/\Q (.st (.str (i++j)))
 |.st (.tup i),.st (.tup j)=>i.length+j.length<=sizeLine/\Q (.st (.tup (i++j)))
 |.nw i,.nw j=>i.length+j.length<=sizeLine/\Q (.nw (i++j))
 |.nw i,.bw j=>i.length+j.length<=sizeLine/\Q (.nw (i++j))
 |.bw i,.nw j=>i.length+j.length<=sizeLine/\Q (.nw (i++j))
 |.bw i,.bw j=>i.length+j.length<=sizeLine/\Q (.nw (i++j))
 |_,_=>False
def Q3x:Q0c G2:=fun x y P Q g h=>by
 unfold G2 at h ⊢;split at h<;>first |exact g _ h |exact⟨h.1,g _ h.2⟩ |exact⟨h.1,h.2.1,g _ h.2.2⟩ |exact h
def Z0h {x:V}{v:An}{Q:VK}(I:?A)(rx:C4 x v)(ry:C4 y u){r1 r2:R}{i j:O D}(e1:lsM r1=some i)(e2:lsM r2=some j)
  (h1:IsV X.K H r1 x) (h2:IsV X.K H r2 y) (hz:i.length+j.length<=sizeLine) (q:∀v H',A5 H H'->E7 X.K H H' (.nw (i++j)) v->Q v H'):wpAny ?C X.A (binaryOp .Add v u) (EP X ae σ Q) X.xe s:=by
 obtain⟨a,xs,rfl,qa,lv⟩:=Y5e e1 h1;obtain⟨b,ys,rfl,qb,nL⟩:=Y5e e2 h2;refine V1t ae s σ H _ _ v u Q I rx ry ⟨a,b,xs,ys,rfl,rfl,qa,qb,by rw[<-lv.length,<-nL.length];exact hz,fun p hp=>?_⟩;have k:=Kp.of (G7 hp (.lst (xs++ys)));exact q _ _ (G7 hp _) ⟨p,xs++ys,rfl,hp,upd_same,(lv.append nL).mono k _ _⟩
theorem Q4q:OpD X (binaryOp .Add) G2:=by
 intro ae s σ H x y v u Q I rx ry ⟨r1,r2,h1,h2,hg⟩;unfold G2 at hg;split at hg
 ·exact V1r ae s σ H x y v u Q I rx ry ⟨_,_,h1,h2,hg _ _ (A5.refl H) Z7⟩
 ·exact V1s ae s σ H x y v u Q I rx ry ⟨_,_,h1,h2,hg.1,hg.2 _ _ (A5.refl H) Z0p⟩
 ·rename_i i j;have h1:A2 X.K H (.tup i) x:=h1;have h2:A2 X.K H (.tup j) y:=h2;unfold A2 at h1 h2;obtain⟨a,xs,rfl,qa,lv⟩:=h1;obtain⟨b,ys,rfl,qb,nL⟩:=h2;have la:=lv.length;have lb:=nL.length
  by_cases hx:xs=[]
  ·have zi:i=[]:=cj.mp (by rw[la,hx];rfl);subst zi;cases rx;cases ry;obtain⟨aY,r1,p1,_⟩:=I.tuple (D9.of (K:=X.K) qa);obtain⟨dB,r2,p2,_⟩:=I.tuple (D9.of (K:=X.K) qb);exact HT.cat_tup0 p1 p2 (r1.nil_iff.mpr hx) ⟨.ref b,H,I,rfl,hg.2 _ _ (A5.refl H) (A2.s_tup (K:=X.K) (H:=H) qb nL)⟩
  refine V1u ae s σ H _ _ v u Q I rx ry ⟨a,b,xs,ys,rfl,rfl,D9.of qa,D9.of qb,hx,?H,fun z=>?_,fun z p hp=>?_⟩
  ·have zj:j=[]:=cj.mp (by rw[lb,z];rfl);subst zj;rw[b8]at hg;exact hg.2 _ _ (A5.refl H) (A2.s_tup (K:=X.K) (H:=H) qa lv)
  ·exact hg.2 _ _ (G7 hp _) (A2.s_tup (K:=X.K) upd_same ((lv.append nL).mono (Kp.of (G7 hp _)) _ _))
 ·exact Z0h I rx ry rfl rfl h1 h2 hg.1 hg.2
 ·exact Z0h I rx ry rfl rfl h1 h2 hg.1 hg.2
 ·exact Z0h I rx ry rfl rfl h1 h2 hg.1 hg.2
 ·exact Z0h I rx ry rfl rfl h1 h2 hg.1 hg.2
 ·exact hg.elim
def W4 (x y:R)(Q:R->Prop):Prop:=
 match x,y with
 |.st (.int i),.st (.int j)=>Q3n i j/\Q (.st (.int (i*j)))
 |.nw ds,.st (.int k)=>-(2^63)<=k/\k<2^63/\ds.length*k.toNat<=sizeLine/\Q (.nw (List.replicate k.toNat ds).flatten)
 |_,_=>False
def Z6c:Q0c W4:=fun x y P Q g h=>by
 unfold W4 at h ⊢;split at h<;>first |exact⟨h.1,g _ h.2⟩ |exact⟨h.1,h.2.1,h.2.2.1,g _ h.2.2.2⟩ |exact h
theorem AllS.rep {K:Fg9}  {ds:O D}  (h:AllS K H ds vs):∀k:Nat,AllS K H (List.replicate k ds).flatten (List.replicate k vs).flatten
 |0=>AllS.nil
 |k+1=>by rw[cH,cH,cE,cE];exact h.append (AllS.rep h k)
def Z6h:OpD X (binaryOp .Mult) W4:=by
 intro ae s σ H x y v u Q I rx ry ⟨r1,r2,h1,h2,hg⟩;unfold W4 at hg;split at hg
 ·exact V2b ae s σ H x y v u Q I rx ry ⟨_,_,h1,h2,hg.1,hg.2 _ _ (A5.refl H) Z7⟩
 ·obtain⟨a,xs,rfl,_,qa,lv⟩:=h1;refine V2e ae s σ H _ y v u Q I rx ry ⟨a,_,xs,rfl,h2,qa,hg.1,hg.2.1,by rw[<-lv.length];exact hg.2.2.1,fun p hp=>?_⟩;exact hg.2.2.2 _ _ (G7 hp _) ⟨p,_,rfl,hp,upd_same,(lv.rep _).mono (Kp.of (G7 hp _)) _ _⟩
 ·exact hg.elim
def K8 (f:Int->Int->Bool):R->R->(Bool->Prop)->Prop
 |.st (.int i),.st (.int j),Q=>Q (f i j)
 |_,_,_=>False
def Y2o {f:Int->Int->Bool}{x y:R}{Q:Bool->Prop}(h:K8 f x y Q):∃i j,x=.st (.int i)/\y=.st (.int j)/\Q (f i j):=by
 unfold K8 at h;split at h
 ·exact⟨_,_,rfl,rfl,h⟩
 ·exact h.elim
def Q2z {f:Int->Int->Bool}:Q0c (K8 f):=fun x y P Q g h=>by
 obtain⟨i,j,rfl,rfl,q⟩:=Y2o h;exact g _ q
def X7.ints {op:CmpOp}{f:Int->Int->Bool}(h:N8 X (compareOp op) (rI0 fun i j=>.bl (f i j))):X7 X op (K8 f):=by
 intro ae s σ H x y v u Q I rx ry ⟨r1,r2,h1,h2,hg⟩;obtain⟨i,j,rfl,rfl,q⟩:=Y2o hg;exact h ae s σ H x y v u Q I rx ry ⟨i,j,h1,h2,q⟩
def Y2j:X7 X .Lt (K8 fun i j=>decide (i<j)):=X7.ints V1z
def Z4a:X7 X .Gt (K8 fun i j=>decide (j<i)):=X7.ints V1x
def Z3z:X7 X .GtE (K8 fun i j=>decide (j<=i)):=X7.ints V1w
def T5 (n:Nat)(neg:Bool)(x y:R)(Q:Bool->Prop):Prop:=∃d e,x.d=some d/\y.d=some e/\d.depth<=n/\Q (if neg then !D.eq d e else D.eq d e)
def Q6j {neg:Bool}:Q0c (T5 n neg):=fun x y P Q g⟨d,e,h1,h2,h3,q⟩=>⟨d,e,h1,h2,h3,g _ q⟩
def Q6f (hu:X.A.units+n<cLine):X7 X .Eq (T5 n false):=by
 intro ae s σ H x y v u Q I rx ry ⟨r1,r2,h1,h2,d,e,e1,e2,hd,q⟩;exact rc_D I n d e x y v u X.A hd (h1.w e1) (h2.w e2) rx ry hu _ _ _ _ ⟨.bl _,H,I,rfl,q⟩
section
def scD:D->D->Bool
 |.non,.non=>true |.non,.int _=>true |.int _,.non=>true |.non,.bl _=>true |.bl _,.non=>true |.non,.str _=>true |.str _,.non=>true
 |.int _,.int _=>true |.bl _,.bl _=>true |.str _,.str _=>true
 |.int _,.str _=>true |.str _,.int _=>true |.bl _,.str _=>true |.str _,.bl _=>true
 |_,_=>false
def neD (x y:R)(Q:Bool->Prop):Prop:=∃d e,x=.st d/\y=.st e/\scD d e=true/\Q (!D.eq d e)
def Z6d:Q0c neD:=fun x y P Q g⟨d,e,h1,h2,h3,q⟩=>⟨d,e,h1,h2,h3,g _ q⟩
def Z4c:X7 X .NotEq neD:=by
 intro ae s σ H x y v u Q I rx ry ⟨r1,r2,h1,h2,d,e,e1,e2,hs,q⟩;subst e1 e2;have key:scal x y=true/\(D.eq d e)=decide (x=y):=by
  cases d<;>cases e<;>first
   |(cases hs;done)
   |(replace h1:A2 X.K H _ x:=h1;replace h2:A2 X.K H _ y:=h2;unfold A2 at h1 h2;subst h1;subst h2;refine⟨rfl,?_⟩;unfold D.eq;first |(exact(Y3d).symm) |(exact(Y3c).symm) |(exact(Y3e).symm) |rfl |(simp;done))
 refine V2c ae s σ H x y v u Q I rx ry ⟨key.1,?_⟩;rw[<-key.2];exact q
def X1 (neg:Bool)(x y:R)(Q:Bool->Prop):Prop:=∃d,x.d=some d/\y=.st .non/\Q (match d with |.non=>!neg |_=>neg)
def Q6m {neg:Bool}:Q0c (X1 neg):=fun x y P Q g⟨d,h1,h2,q⟩=>⟨d,h1,h2,g _ q⟩
theorem Y4m {K:Fg9}:∀{d:D}{v:V},IsW K H d v->decide (v=.non)=(match d with |.non=>true |_=>false)
 |.non,v,h=>by cases (show v=.non from h);rfl
 |.bl b,v,h=>by cases (show v=.bl b from h);rfl
 |.int b,v,h=>by cases (show v=.int b from h);rfl
 |.str b,v,h=>by cases (show v=.str b from h);rfl
 |.tup ds,v,h=>by have h:A2 K H (.tup ds) v:=h;unfold A2 at h;obtain⟨a,_,rfl,_⟩:=h;rfl
 |.lst ds,v,h=>by obtain⟨a,_,rfl,_⟩:=h;rfl
def Z4b:X7 X .Is (X1 false):=by
 intro ae s σ H x y v u Q I rx ry ⟨r1,r2,h1,h2,d,e1,e2,q⟩;subst e2;refine V1y ae s σ H x y v u Q I rx ry ⟨h2,?_⟩;rw[Y4m (h1.w e1)];cases d<;>exact q
def Z4d:X7 X .IsNot (X1 true):=by
 intro ae s σ H x y v u Q I rx ry ⟨r1,r2,h1,h2,d,e1,e2,q⟩;subst e2;refine V2d ae s σ H x y v u Q I rx ry ⟨h2,?_⟩;rw[Y4m (h1.w e1)];cases d<;>exact q
theorem Z0a {K:Fg9}  {ds:O D}  (al:AllS K H ds xs){i:Int}{d:D}(h:L9 ds i=some d):∃v,L9 xs i=some v/\A2 K H d v:=by
 unfold L9 at h ⊢;rw[<-al.length];cases e:ixN ds.length i with
 |none=>rw[e]at h;cases h
 |some j=>
  rw[e]at h;obtain⟨v,hv,q⟩:=al.get (i:=j) h;exact⟨v,hv,q⟩
def A8 (x y:R)(Q:R->Prop):Prop:=match x,y with
 |.st (.lst ds),.st (.int i)=>∃d,L9 ds i=some d/\Q (.st d)
 |.nw ds,.st (.int i)=>∃d,L9 ds i=some d/\Q (.st d)
 |.bw ds,.st (.int i)=>∃d,L9 ds i=some d/\Q (.st d)
 |.st (.tup ds),.st (.int i)=>∃d,L9 ds i=some d/\Q (.st d)
 |.st (.str z),.st (.int i)=>z.length<=sizeLine/\∃c,L9 z.cps.toList i=some c/\Q (.st (.str ⟨#[c]⟩))
 |_,_=>False
def W8d:Q0c A8:=fun x y P Q g h=>by
 unfold A8 at h ⊢;split at h
 case h_6=>exact h
 case h_5=>obtain⟨z,c,h1,h2⟩:=h;exact⟨z,c,h1,g _ h2⟩
 all_goals (obtain⟨d,h1,h2⟩:=h;exact⟨d,h1,g _ h2⟩)
variable {a b c:Aq}
def DE.ix (ha:DE X H0 a wa)(hb:DE X H0 b wb)(hs:Z3l b):DE X H0 (.Subscript a b pos) (A3 A8 wa wb) where
 mono:=fun τ P Q f h=>ha.mono τ _ _ (fun x h=>hb.mono τ _ _ (fun y h=>W8d x y P Q f h) h) h
 pe:=P7 (Y6x W8g ha.pe hb.pe hs) fun σ H Q ⟨τ,hR,h⟩=>two ha hb hR h fun x y v u H' sm rx ry q=>by
  unfold A8 at q;split at q
  ·have rx:A2 X.K H' _ v:=rx;unfold A2 at rx;obtain⟨p,xs,rfl,sq,al⟩:=rx;obtain⟨d,hd,q⟩:=q;obtain⟨z,hz,iz⟩:=Z0a al hd;exact .inl ⟨p,xs,_,z,rfl,ry,sq.sq,hz,q z H' sm iz⟩
  ·obtain⟨p,xs,rfl,_,sq,al⟩:=rx;obtain⟨d,hd,q⟩:=q;obtain⟨z,hz,iz⟩:=Z0a al hd;exact .inl ⟨p,xs,_,z,rfl,ry,E8.of sq,hz,q z H' sm iz⟩
  ·obtain⟨p,xs,rfl,sq,al⟩:=rx;obtain⟨d,hd,q⟩:=q;obtain⟨z,hz,iz⟩:=Z0a al hd;exact .inl ⟨p,xs,_,z,rfl,ry,E8.of sq,hz,q z H' sm iz⟩
  ·have rx:A2 X.K H' _ v:=rx;unfold A2 at rx;obtain⟨p,xs,rfl,sq,al⟩:=rx;obtain⟨d,hd,q⟩:=q;obtain⟨z,hz,iz⟩:=Z0a al hd;exact .inr (.inl ⟨p,xs,_,z,rfl,ry,D9.of sq,hz,q z H' sm iz⟩)
  ·obtain⟨z,c,h1,q⟩:=q;exact .inr (.inr ⟨_,_,c,rx,ry,z,h1,q _ H' sm Z0p⟩)
  ·exact q.elim
def Q3o (X:Cx)(f:An)(g:O R->(R->Prop)->Prop):Prop:=
 Q5u X f (fun xs H Q=>∃rs,L6 X.K (fun _=>none) H rs xs/\g rs fun r=>∀v H',A5 H H'->E7 X.K H H' r v->Q v H')
def Q3v (g:O R->(R->Prop)->Prop):Prop:=∀x (P Q:R->Prop),(∀r,P r->Q r)->g x P->g x Q
variable {es:O Aq}{id:String}{g:O R->(R->Prop)->Prop}
def D8 (g:O R->(R->Prop)->Prop)(wr:WA):WE:=fun τ Q=>wr τ fun rs=>g rs Q
def Q3p (hc:Q3o X (.builtin id) g)(mg:Q3v g)(hg:Gl X x)(hm:X.mg x=none)(hv:bootBuiltins x=some (.builtin id))(ha:DA X H0 (e::es) wr)(hn:x≠"__name__":=by decide)(eT:?Q:=by decide)
  (he:?I:=by rfl) (hpl:?S:=by rfl):DE X H0 (.Call (.Name x p) (e::es) [] pos) (D8 g wr) where
 mono:=fun τ P Q f h=>ha.mono τ _ _ (fun rs h=>mg rs P Q f h) h
 pe:=P7 (Y6w hc hg hm hv ha.pa hn eT he hpl) fun σ H Q⟨τ,hR,h⟩=>⟨τ,hR,ha.mono τ _ _ (fun rs h vs H1 s1 dA=>⟨rs,dA.v,mg rs _ _ (fun r h v H' s2 ir=>h v H' (s1.trans s2) (ir.older s1)) h⟩) h⟩
def Z9w (hc:Q3o X (.type T) g)(mg:Q3v g)(hg:Gl X x)(hm:X.mg x=none)(hv:bootBuiltins x=some (.type T))(ha:DA X H0 (e::es) wr)(hn:x≠"__name__":=by decide)(eT:?Q:=by decide)
  (he:?I:=by rfl) (hpl:?S:=by rfl):DE X H0 (.Call (.Name x p) (e::es) [] pos) (D8 g wr) where
 mono:=fun τ P Q f h=>ha.mono τ _ _ (fun rs h=>mg rs P Q f h) h
 pe:=P7 (V2l hc hg hm hv ha.pa hn eT he hpl) fun σ H Q⟨τ,hR,h⟩=>⟨τ,hR,ha.mono τ _ _ (fun rs h vs H1 s1 dA=>⟨rs,dA.v,mg rs _ _ (fun r h v H' s2 ir=>h v H' (s1.trans s2) (ir.older s1)) h⟩) h⟩
def Z6 {K:Fg9}  {r:R}  (h:L6 K H0 H [r] vs):∃v,vs=[v]/\E7 K H0 H r v:=by
 obtain⟨v,t,rfl,q,z⟩:=h;cases (show t=[]from z);exact⟨v,rfl,q⟩
def Z5o:R->(Nat->Prop)->Prop
 |.st (.str z),Q=>z.length<=sizeLine/\Q z.length
 |.st (.tup ds),Q=>Q ds.length
 |.st (.lst ds),Q=>Q ds.length
 |.nw ds,Q=>Q ds.length
 |.bw ds,Q=>Q ds.length
 |_,_=>False
def F2:O R->(R->Prop)->Prop
 |[r],Q=>Z5o r fun n=>Q (.st (.int n))
 |_,_=>False
def W9d:Q3v F2:=fun x P Q g h=>by
 unfold F2 at h ⊢;split at h
 ·unfold Z5o at h ⊢;split at h<;>first |exact g _ h |exact⟨h.1,g _ h.2⟩ |exact h
 ·exact h
def W5f:Q3o X (.builtin "len") F2:=by
 intro ae s σ H xs us Q I rv ⟨rs,dA,h⟩;unfold F2 at h;split at h
 ·obtain⟨v,rfl,ir⟩:=Z6 dA;unfold Z5o at h;split at h
  ·cases (show v=.str _ from ir);exact Q8g ae s σ H _ us Q I rv ⟨_,_,rfl,⟨h.1,rfl⟩,h.2 _ _ (A5.refl H) Z7⟩
  ·have ir:A2 X.K H _ v:=ir;unfold A2 at ir;obtain⟨p,xs,rfl,sq,al⟩:=ir;exact Q8g ae s σ H _ us Q I rv ⟨_,_,rfl,.inr ⟨xs,D9.of sq,rfl⟩,by rw[<-al.length];exact h _ _ (A5.refl H) Z7⟩
  ·have ir:A2 X.K H _ v:=ir;unfold A2 at ir;obtain⟨p,xs,rfl,sq,al⟩:=ir;exact Q8g ae s σ H _ us Q I rv ⟨_,_,rfl,.inl ⟨xs,sq.sq,rfl⟩,by rw[<-al.length];exact h _ _ (A5.refl H) Z7⟩
  ·obtain⟨p,xs,rfl,_,sq,al⟩:=ir;exact Q8g ae s σ H _ us Q I rv ⟨_,_,rfl,.inl ⟨xs,E8.of sq,rfl⟩,by rw[<-al.length];exact h _ _ (A5.refl H) Z7⟩
  ·obtain⟨p,xs,rfl,sq,al⟩:=ir;exact Q8g ae s σ H _ us Q I rv ⟨_,_,rfl,.inl ⟨xs,E8.of sq,rfl⟩,by rw[<-al.length];exact h _ _ (A5.refl H) Z7⟩
  ·exact h.elim
 ·exact h.elim
def Q9d:R->Am (O D)
 |.st (.tup ds)=>some ds
 |.st (.lst ds)=>some ds
 |.nw ds=>some ds
 |.bw ds=>some ds
 |_=>none
theorem V7m {K:Fg9}:∀{r:R}{ds:O D}{v:V},Q9d r=some ds->E7 K H0 H r v->∃a xs,v=.ref a/\(E8 K H a xs\/H a=some (.tup xs))/\AllS K H ds xs
 |.st (.tup ds),_,v,e,h=>by cases e;have h:A2 K H (.tup ds) v:=h;unfold A2 at h;obtain⟨a,xs,e,q,t⟩:=h;exact⟨a,xs,e,.inr q,t⟩
 |.st (.lst ds),_,v,e,h=>by cases e;have h:A2 K H (.lst ds) v:=h;unfold A2 at h;obtain⟨a,xs,e,q,t⟩:=h;exact⟨a,xs,e,.inl q.sq,t⟩
 |.nw ds,_,v,e,h=>by cases e;obtain⟨a,xs,e,n,q,t⟩:=h;exact⟨a,xs,e,.inl (E8.of q),t⟩
 |.bw ds,_,v,e,h=>by cases e;obtain⟨a,xs,e,q,t⟩:=h;exact⟨a,xs,e,.inl (E8.of q),t⟩
 |.st .non,_,_,e,_=>by cases e
 |.st (.bl _),_,_,e,_=>by cases e
 |.st (.int _),_,_,e,_=>by cases e
 |.st (.str _),_,_,e,_=>by cases e
 |.dk _,_,_,e,_=>by cases e
 |.dt _,_,_,e,_=>by cases e
 |.ob _,_,_,e,_=>by cases e
 |.cl _ _,_,_,e,_=>by cases e
 |.ms _ _ _ _,_,_,e,_=>by cases e
def V2:O R->(R->Prop)->Prop
 |[r],Q=>∃ds,Q9d r=some ds/\Q (.st (.tup ds))
 |_,_=>False
def V9h:Q3v V2:=fun x P Q g h=>by
 unfold V2 at h ⊢;split at h
 ·obtain⟨ds,e,q⟩:=h;exact⟨ds,e,g _ q⟩
 ·exact h
def W5k:Q3o X (.type "tuple") V2:=by
 intro ae s σ H xs us Q I rv ⟨rs,dA,h⟩;unfold V2 at h;split at h
 ·obtain⟨v,rfl,ir⟩:=Z6 dA;obtain⟨ds,e,q⟩:=h;obtain⟨a,xs,rfl,sq,al⟩:=V7m e ir;refine W5l ae s σ H _ us Q I rv ⟨a,xs,rfl,?_⟩;rcases sq with sq |sq
  ·exact .inl ⟨sq,fun l hl=>q _ _ (G7 hl _) (A2.s_tup (K:=X.K) upd_same (al.mono (Kp.of (G7 hl _)) _ _))⟩
  ·exact .inr ⟨D9.of sq,q _ _ (A5.refl H) (A2.s_tup (K:=X.K) (H:=H) sq al)⟩
 ·exact h.elim
end
abbrev WG:=D->C3->(C3->Prop)->Prop
def W9h (K:Fg9)(H0:Hp)(g:WG):TG:=fun v σ H Q=>∃ τ d,C1 K H0 τ σ H/\A2 K H d v/\g d τ fun τ'=>∀ σ' H',A5 H H'->C1 K H0 τ' σ' H'->Q σ' H'
structure DG (X:Cx)(H0:Hp)(tg:Aq)(g:WG):Prop where
 mono:∀d τ (P Q:C3->Prop),(∀ τ,P τ->Q τ)->g d τ P->g d τ Q
 pg:PG X tg (W9h X.K H0 g)
abbrev WGs:=O D->C3->(C3->Prop)->Prop
variable {gs:WGs}
def W9i (K:Fg9)(H0:Hp)(g:WGs):TGs:=fun vs σ H Q=>∃ τ ds,C1 K H0 τ σ H/\AllS K H ds vs/\g ds τ fun τ'=>∀ σ' H',A5 H H'->C1 K H0 τ' σ' H'->Q σ' H'
structure DGs (X:Cx)(H0:Hp)(tg:O Aq)(g:WGs):Prop where
 mono:∀d τ (P Q:C3->Prop),(∀ τ,P τ->Q τ)->g d τ P->g d τ Q
 pg:PGs X tg (W9i X.K H0 g)
def pgW {t t':TG}(h:PG X e t)(f:∀v σ H Q,t' v σ H Q->t v σ H Q):PG X e t':=fun ae s σ H v u Q I r q=>h ae s σ H v u Q I r (f v σ H Q q)
def pgsW {e:O Aq}{t t':TGs}(h:PGs X e t)(f:∀v σ H Q,t' v σ H Q->t v σ H Q):PGs X e t':=fun ae s σ H v u Q I r q=>h ae s σ H v u Q I r (f v σ H Q q)
section
variable {a b:Aq}{es:O Aq}
def B6 (i:Nat):WG:=fun d τ Q=>Q (τ.set i (some (.dat d)))
def DG.nm {i:Nat}  (hN:X.N.Nodup)(hi:X.N[i]?=some x)(hx:Loc X.env.scope x)(hf:?J:=by sleep 1):DG X H0 (.Name x pos) (B6 i) where
 mono:=fun d τ P Q f h=>f _ h
 pg:=pgW (Y6y hN hi hx hf) fun v σ H Q cy=>(by obtain⟨τ,d,hR,iv,h⟩:=cy;exact h _ _ (A5.refl H) (hR.set iv fun m=>by cases m))
def Q4:WGs:=fun ds τ Q=>ds=[]/\Q τ
def F7 (g:WG)(gs:WGs):WGs:=fun ds τ Q=>∃d r,ds=d::r/\g d τ fun τ'=>gs r τ' Q
def DGs.nil:DGs X H0 [] Q4 where
 mono:=fun d τ P Q f h=>⟨h.1,f _ h.2⟩
 pg:=pgsW V3n fun vs σ H Q cy=>by
  obtain⟨τ,ds,hR,al,h1,h2⟩:=cy;subst h1;unfold AllS at al;exact⟨al,h2 σ H (A5.refl H) hR⟩
def DGs.cons {g:WG}  (h1:DG X H0 e g)(h2:DGs X H0 es gs)(hs:(assignEach (e::es) X.env).map (·.2)=assign e X.env::(assignEach es X.env).map (·.2):=by rfl):DGs X H0 (e::es) (F7 g gs) where
 mono:=fun d τ P Q f⟨x,r,e1,h⟩=>⟨x,r,e1,h1.mono x τ _ _ (fun τ' h=>h2.mono r τ' P Q f h) h⟩
 pg:=pgsW (V3m h1.pg h2.pg hs) fun vs σ H Q cR=>by
  obtain⟨τ,ds,hR,al,d,r,e1,h⟩:=cR;subst e1;unfold AllS at al;obtain⟨v,t,rfl,iv,al⟩:=al;exact⟨v,t,rfl,τ,d,hR,iv,h1.mono d τ _ _ (fun τ' h σ' H' sm eO=>⟨τ',r,eO,al.mono (Kp.of sm) _ _,h2.mono r τ' _ _ (fun τ2 h σ2 H2 s2 fk=>h σ2 H2 (sm.trans s2) fk) h⟩) h⟩
def P3 (n:Nat)(gs:WGs):WG:=fun d τ Q=>∃ds,d=.tup ds/\ds.length=n/\gs ds τ Q
def W2g {k:Nat}  (hc:X.calm=true)(h:DGs X H0 es gs)(hn:(assignEach es X.env).length=n:=by rfl)(gv:(assignEach es X.env).findIdx? (·.1)=none:=by rfl):DG X H0 (.Tuple es k pos) (P3 n gs) where
 mono:=fun d τ P Q f⟨ds,e1,e2,q⟩=>⟨ds,e1,e2,h.mono ds τ P Q f q⟩
 pg:=pgW (V3l hc h.pg hn gv) fun v σ H Q dF=>by
  obtain⟨τ,d,hR,iv,ds,e1,e2,q⟩:=dF;subst e1;unfold A2 at iv;obtain⟨p,xs,rfl,sq,al⟩:=iv;exact⟨p,xs,rfl,D9.of sq,by rw[<-al.length];exact e2,τ,ds,hR,al,q⟩
def Q9r {g:WG}(he:DE X H0 e we)(hg:DG X H0 tg g)(hs:swapsWithSole [tg] e pos.line X.env=pure false:=by rfl)(hw:swappedStores [tg] e X.env=pure none:=by rfl)
  (h1:(assignEach [tg] X.env).map (·.2)=[assign tg X.env]:=by rfl):DS X H0 (.Assign [tg] e pos) (fun E τ=>we τ fun r=>∃d,r=.st d/\g d τ E.nx) where
 mono:=fun τ E F le h=>he.mono τ _ _ (fun r⟨d,e1,h⟩=>⟨d,e1,hg.mono d τ _ _ le.nx h⟩) h
 ps:=Q7 (Z6o he.pe hg.pg hs hw h1) fun D σ H ⟨τ,hR,h⟩=>⟨τ,hR,he.mono τ _ _ (fun r fL v H1 s1 ir=>by
  obtain⟨d,e1,h⟩:=fL;subst e1;exact⟨τ,d,hR.mono s1,ir,hg.mono d τ _ _ (fun τ' h σ' H' s2 eO=>h σ' H' (Kp.of (s1.trans s2)) eO) h⟩) h⟩
structure Yl (K:Fg9)(H0:Hp)(J:It)(ds:O D)(H:Hp):Prop where
 go:∀H',Kp H H'->A5 H0 H'->∀i,i<ds.length->J.go i H'
 yld:∀H',Kp H H'->A5 H0 H'->∀i x eR d,ds[i]?=some d->J.yld i H' x eR->A5 H' eR/\A2 K eR d x
 stop:∀H',Kp H H'->A5 H0 H'->J.stop ds.length H'
abbrev WI:=C3->(O D->C3->Prop)->Prop
def W9j (K:Fg9)(H0:Hp)(wi:WI):TI:=fun σ H R=>∃ τ,C1 K H0 τ σ H/\wi τ fun ds τ'=>∀J H',Kp H H'->C1 K H0 τ' σ H'->Yl K H0 J ds H'->R J H'
structure DI (X:Cx)(H0:Hp)(tg iter:Aq)(wi:WI):Prop where
 mono:∀ τ (P Q:O D->C3->Prop),(∀ds τ,P ds τ->Q ds τ)->wi τ P->wi τ Q
 pi:PI X tg iter (W9j X.K H0 wi)
def piW {t t':TI}(h:PI X tg e t)(f:∀ σ H Q,t' σ H Q->t σ H Q):PI X tg e t':=fun ae s σ H R I q=>h ae s σ H R I (f σ H R q)
def W1n {K:Fg9}  {a:Ap}  {ds:O D}(hq:∀H',Kp H H'->A5 H0 H'->E8 K H' a xs)(al:AllS K H ds xs):Yl K H0 (Itl K a) ds H where
 go:=fun H' k s i hi=>⟨xs,xs[i]'(by rw[<-al.length];exact hi),hq H' k s,ac _⟩
 yld:=fun H' k s i x eR d hd fW=>by
  obtain⟨e,y⟩:=fW;subst e;have hx:=y xs (hq _ k s);obtain⟨v,hv,q⟩:=(al.mono k _ _).get hd;rw[hx]at hv;cases hv;exact⟨A5.refl _,q⟩
 stop:=fun H' k s=>⟨xs,hq H' k s,by rw[al.length];exact ak _⟩
def DI.lst (he:DE X H0 e we):DI X H0 tg e (fun τ Q=>we τ fun r=>∃ds,r=.st (.lst ds)/\Q ds τ) where
 mono:=fun τ P Q f h=>he.mono τ _ _ (fun r⟨ds,e1,q⟩=>⟨ds,e1,f _ _ q⟩) h
 pi:=piW (Z6n he.pe) fun σ H R ⟨τ,hR,h⟩=>⟨τ,hR,he.mono τ _ _ (fun r jg v H1 s1 ir=>by
  obtain⟨ds,e1,q⟩:=jg;subst e1;have ir:A2 X.K H1 (.lst ds) v:=ir;unfold A2 at ir;obtain⟨a,xs,rfl,sq,al⟩:=ir;exact⟨a,rfl,⟨xs,sq.sq⟩,q _ _ (Kp.of s1) (hR.mono s1) (W1n (fun H' k _=>(k.fzL sq).sq) al)⟩) h⟩
def C1.freeze {K:Fg9}    {i:Nat}{ds:O D}{a:Ap}{o:Obj}  (hR:C1 K H0 τ σ H)(e1:τ[i]?=some (some (.own ds)))(hv:σ[i]?=some (some (.ref a)))(h0:H0 a=none)(sq:H a=some (.lst xs))(al:AllS K H ds xs):
  C1 K H0 (τ.set i (some (.dat (.lst ds)))) σ (A9 H a (.frz o (.lst xs))):=by
 have kp:Kp H (A9 H a (.frz o (.lst xs))):=Q2d sq _;have hl:i<τ.length:=by
  rcases b7 i τ.length with h |h
  ·exact h
  ·rw[az.mpr h]at e1;cases e1
 refine⟨by rw[bx];exact hR.len,fun b ob hb=>?_,fun j s e=>?_,fun j k s t v dM e2 e3 m1 m2 q1 q2=>?_⟩
 ·rw[B2 (Y5 hb h0)];exact hR.same b ob hb
 ·by_cases hj:j=i
  ·subst hj;rw[Q1j hl]at e;cases e;exact⟨_,hv,A2.s_lst (K:=K) (.inl ⟨o,upd_same⟩) (al.mono kp _ _)⟩
  ·rw[aM (fun z=>hj z.symm)]at e;obtain⟨v,q,r⟩:=hR.here j s e;refine⟨v,q,?_⟩;have ap:s.mut=true->v≠.ref a:=fun m z=>by
    subst z;exact hR.apart i j _ s (.ref a) (fun z=>hj z.symm) e1 e rfl m hv q
   cases s with
   |dat d=>exact A2.mono kp _ _ r
   |own es=>accm_mu
   |bor es=>obtain⟨b,ys,e,q,t⟩:=r;exact⟨b,ys,e,q,t.mono kp _ _⟩
   |bd es=>obtain⟨b,ys,e,q,t⟩:=r;exact⟨b,ys,e,q,t.mono kp _ _⟩
   |dk es=>accm_mu
   |dt es=>accm_mu
   |ob _=>exact r
   |cl _ _=>exact⟨r.1,r.2.2 _ _ kp r.2.1,r.2.2⟩
   |ll _ _=>exact⟨r.1,r.2.keep kp fun b φ q=>by rw[B2 (Q0k q sq (by intro z;cases z))];exact q⟩
   |ins _ _ _=>obtain⟨e,n,dx,ys,q,t⟩:=r;exact⟨e,n,dx,ys,by rw[B2 (fun z=>ap rfl (by rw[e,z]))];exact q,t.mono kp _ _⟩
 ·by_cases hj:j=i
  ·subst hj;rw[Q1j hl]at e2;cases e2;cases m1
  ·by_cases hk:k=i
   ·subst hk;rw[Q1j hl]at e3;cases e3;cases m2
   ·rw[aM (fun z=>hj z.symm)]at e2;rw[aM (fun z=>hk z.symm)]at e3;exact hR.apart j k s t v dM e2 e3 m1 m2 q1 q2
def DI.own {i:Nat}(he:PE X e (Q0 i)):DI X H0 tg e (fun τ Q=>∃ds,τ[i]?=some (some (.own ds))/\Q ds (τ.set i (some (.dat (.lst ds))))) where
 mono:=fun τ P Q f⟨ds,e1,q⟩=>⟨ds,e1,f _ _ q⟩
 pi:=by
  intro ae s σ H R I ⟨τ,hR,ds,e1,q⟩;obtain⟨v,hv,a,xs,rfl,h0,sq,al⟩:=hR.here i _ e1;refine B3 (Z6n (tg:=tg) he ae s σ H (fun J H'=>J=Itl X.K a/\H'=H) I ⟨_,hv,a,rfl,⟨xs,E8.of sq⟩,rfl,rfl⟩) fun u s1 h1=>B3 h1 fun mH s2 bB=>?_;obtain⟨it,fp,tn,J,H',e,I2,T,st,fo,hJ,hH⟩:=bB;subst hJ hH;obtain⟨o,I3⟩:=A0.freeze I2 sq;have kp:Kp H' (A9 H' a (.frz o (.lst xs))):=Q2d sq _;refine⟨it,fp,tn,_,_,e,I3,T,st,fun b hb=>?_,q _ _ kp (hR.freeze e1 hv h0 sq al) (W1n (xs:=xs) (fun H2 k _=>.inl (.inr ⟨o,k.frz _ _ _ upd_same⟩)) (al.mono kp _ _))⟩;obtain⟨f0,fr⟩:=fo b hb;exact⟨by rw[B2 (fun z=>by rw[z,sq]at f0;cases f0)];exact f0,fr⟩
def DI.tup (he:DE X H0 e we):DI X H0 tg e (fun τ Q=>we τ fun r=>∃ds,r=.st (.tup ds)/\Q ds τ) where
 mono:=fun τ P Q f h=>he.mono τ _ _ (fun r⟨ds,e1,q⟩=>⟨ds,e1,f _ _ q⟩) h
 pi:=piW (Y7a he.pe) fun σ H R ⟨τ,hR,h⟩=>⟨τ,hR,he.mono τ _ _ (fun r iN v H1 s1 ir=>by
  obtain⟨ds,e1,q⟩:=iN;subst e1;have ir:A2 X.K H1 (.tup ds) v:=ir;unfold A2 at ir;obtain⟨a,xs,rfl,sq,al⟩:=ir;refine⟨a,rfl,⟨xs,D9.of sq⟩,q _ _ (Kp.of s1) (hR.mono s1) ⟨fun H' k _ i hi=>⟨xs,xs[i]'(by rw[<-al.length];exact hi),D9.of (k.tup _ _ sq),ac _⟩,fun H' k _ i x eR d hd ⟨e,y⟩=>?_,fun H' k _=>⟨xs,D9.of (k.tup _ _ sq),by rw[al.length];exact ak _⟩⟩⟩;subst e;have hx:=y xs (D9.of (k.tup _ _ sq));obtain⟨v,hv,q⟩:=(al.mono k _ _).get hd;rw[hx]at hv;cases hv;exact⟨A5.refl _,q⟩) h⟩
def T7 (lo:Int)(n:Nat):O D:=(List.range n).map fun(i:Nat)=>.int (lo+(i:Int))
def Z2y {K:Fg9}  {lo:Int}:Yl K H0 (Itr lo n) (T7 lo n) H where
 go:=fun H' _ _ i hi=>by
  have:i<n:=by simpa [T7]using hi
  exact this
 yld:=fun H' _ _ i x eR d hd k7=>by
  obtain⟨e,y⟩:=k7;subst e;refine⟨A5.refl _,?_⟩;unfold T7 at hd;rw[ah]at hd;rcases b7 i n with hi |hi
  ·rw[bJ hi]at hd;have e:D.int (lo+i)=d:=aC hd;subst e y;exact Q1g
  ·rw[az.mpr (by simpa using hi)]at hd;cases hd
 stop:=fun H' _ _=>by
  show n<=(T7 lo n).length;simp[T7]
def DI.rng1 (hg:Gl X "range")(hm:X.mg "range"=none)(ha:DA X H0 [a] wr)(hs:starEach [a] X.env=[(false,eval a X.env)]:=by rfl):
  DI X H0 tg (.Call (.Name "range" p) [a] [] pos) (fun τ Q=>wr τ fun rs=>∃j:Int,rs=[.st (.int j)]/\-(2^62)<=j/\j<2^62/\Q (T7 0 j.toNat) τ) where
 mono:=fun τ P Q f h=>ha.mono τ _ _ (fun r⟨j,e1,h1,h2,q⟩=>⟨j,e1,h1,h2,f _ _ q⟩) h
 pi:=piW (Y6z hg hm ha.pa hs) fun σ H R ⟨τ,hR,h⟩=>⟨τ,hR,ha.mono τ _ _ (fun r iM vs H1 s1 dA=>by
  obtain⟨j,e1,h1,h2,q⟩:=iM;subst e1;obtain⟨v,rfl,ir⟩:=Z6 dA;cases (show v=.int j from ir);exact⟨j,rfl,h1,h2,q _ _ (Kp.of s1) (hR.mono s1) Z2y⟩) h⟩
def Y1n {K:Fg9}  {r r':R}  (h:L6 K H0 H [r,r'] vs):∃v u,vs=[v,u]/\E7 K H0 H r v/\E7 K H0 H r' u:=by
 obtain⟨v,t,rfl,q,z⟩:=h;obtain⟨u,rfl,q'⟩:=Z6 z;exact⟨v,u,rfl,q,q'⟩
def E4 (g:WG)(wb:WS)(E:F9):O D->C3->Prop
 |[],τ=>E.nx τ
 |d::ds,τ=>g d τ fun τ'=>wb {E with nx:=E4 g wb E ds,ct:=E4 g wb E ds,bk:=E.nx} τ'
theorem Z4v {g:WG}{wb:WS}(hg:∀d τ (P Q:C3->Prop),(∀ τ,P τ->Q τ)->g d τ P->g d τ Q)(hb:∀(τ:C3) (E F:F9),E.Le F->wb E τ->wb F τ){E F:F9}(le:E.Le F):∀(ds:O D) (τ:C3),E4 g wb E ds τ->E4 g wb F ds τ
 |[],τ,h=>le.nx τ h
 |d::ds,τ,h=>hg d τ _ _ (fun τ' h=>hb τ' {E with nx:=E4 g wb E ds,ct:=E4 g wb E ds,bk:=E.nx} {F with nx:=E4 g wb F ds,ct:=E4 g wb F ds,bk:=F.nx} ⟨fun τ h=>Z4v hg hb le ds τ h,le.rt,le.nx,fun τ h=>Z4v hg hb le ds τ h⟩ h) h
def Q1f {wi:WI}{g:WG}{wb:WS}(hp:PassesOwn ?C X.A X.env X.xe)(hc:X.calm=true)(hi:DI X H0 tg iter wi)(hg:DG X H0 tg g)(hb:A7 X H0 body wb)
  (hs:?A1:=by intro _;rfl):DS X H0 (.For tg iter body [] pos) (fun E τ=>wi τ fun ds τ'=>E4 g wb E ds τ') where
 mono:=fun τ E F le h=>hi.mono τ _ _ (fun ds τ' h=>Z4v hg.mono hb.mono le ds τ' h) h
 ps:=Q7 (V3x hp hc hi.pi hg.pg hb.ps hs) fun D σ H ⟨τ,hR,h⟩=>⟨τ,hR,hi.mono τ _ _ (fun ds τ' h J H1 k1 fB yl=>by
  refine⟨fun i m σ H2=>∃ τ,C1 X.K H0 τ σ H2/\Kp H1 H2/\i<=ds.length/\m=ds.length-i/\E4 g wb (N9 X.K H0 H D) (ds.drop i) τ,⟨ds.length,τ',fB,Kp.refl _,bj _,rfl,h⟩,?_⟩;rintro i m σ2 H2 ⟨τ2,fk,k2,lf,rfl,h2⟩
  by_cases cm:i<ds.length
  ·refine .inr ⟨yl.go H2 k2 fk.same i cm,fun σ' H'=>∃ τ,C1 X.K H0 τ σ' H'/\Kp H1 H'/\i+1<=ds.length/\E4 g wb (N9 X.K H0 H D) (ds.drop (i+1)) τ,fun σ' H' fW=>(by obtain⟨τ3,a3,b3,c3,d3⟩:=fW;exact⟨ds.length-(i+1),by omega,τ3,a3,b3,c3,rfl,d3⟩),fun x H3 y=>?_⟩;obtain⟨s3,ix⟩:=yl.yld H2 k2 fk.same i x H3 _ (ac cm) y;rw[bZ cm]at h2;have k3:=k2.trans (Kp.of s3);refine⟨τ2,ds[i],fk.mono s3,ix,hg.mono _ _ _ _ (fun τ4 h4 σ4 H4 s4 m6=>⟨τ4,m6,?_⟩) h2⟩;have k4:=k3.trans (Kp.of s4);have k5:=k1.trans k4;exact hb.mono τ4 {N9 X.K H0 H D with nx:=E4 g wb (N9 X.K H0 H D) (ds.drop (i+1)),ct:=E4 g wb (N9 X.K H0 H D) (ds.drop (i+1)),bk:=(N9 X.K H0 H D).nx} _
    ⟨fun τ5 h5 σ5 H5 kk m5=>⟨τ5,m5,k4.trans kk,cm,h5⟩,fun _ h=>h,fun τ5 h5 σ5 H5 kk m5=>h5 σ5 H5 (k5.trans kk) m5,fun τ5 h5 σ5 H5 kk m5=>⟨τ5,m5,k4.trans kk,cm,h5⟩⟩ h4
  ·have e:i=ds.length:=by omega
   subst e;rw[cX]at h2;exact .inl ⟨yl.stop H2 k2 fk.same,h2 σ2 H2 (k1.trans k2) fk⟩) h⟩
end
def U8 (env:Env):O (Str×NameKind)->O (Str×Ap)->O (Str×Ap)
 |[],ee=>ee
 |(n,k)::r,ee=>U8 env r (if (k==NameKind.free)=true then(n,(env.cells.lookup n).getD 0)::ee else ee)
def Z0i {env:Env}(h:∀y∈scope.names,y.2=.free->∃c,env.cells.lookup y.1=some c):closureFor scope env=pure (U8 env scope.names []):=by
 have key:∀(l:O (Str×NameKind)) (ee:O (Str×Ap)),(∀y∈l,y.2=.free->∃c,env.cells.lookup y.1=some c) ->
   (forIn l ee fun x r=>(if (x.2==NameKind.free)=true then cellOf env x.1>>=fun c=>pure (ForInStep.yield ((x.1,c)::r))else pure (ForInStep.yield r):Sem (ForInStep (O (Str×Ap)))))=pure (U8 env l ee):=by
  intro l
  induction l with
  |nil=>intro ee _;rfl
  |cons x r ih=>
   intro ee hl;obtain⟨n,k⟩:=x;have hr:∀y∈r,y.2=.free->∃c,env.cells.lookup y.1=some c:=fun y hy=>hl y (ag _ hy);rw[bY]
   by_cases hk:(k==NameKind.free)=true
   ·obtain⟨c,hc⟩:=hl (n,k) aj (eq_of_beq hk);have hc:env.cells.lookup n=some c:=hc;have e:cellOf env n=pure c:=by unfold cellOf;rw[hc]
    show((if (k==NameKind.free)=true then cellOf env n>>=fun c=>pure (ForInStep.yield ((n,c)::ee))else pure (ForInStep.yield ee))>>=_)=_;rw[aO hk,e];show _=pure (U8 env r (if (k==NameKind.free)=true then(n,(env.cells.lookup n).getD 0)::ee else ee));rw[aO hk,hc];exact ih _ hr
   ·show((if (k==NameKind.free)=true then cellOf env n>>=fun c=>pure (ForInStep.yield ((n,c)::ee))else pure (ForInStep.yield ee))>>=_)=_;rw[aI hk];show _=pure (U8 env r (if (k==NameKind.free)=true then(n,(env.cells.lookup n).getD 0)::ee else ee));rw[aI hk];exact ih _ hr
 simp only[closureFor];rw[key scope.names [] h]
 rfl
theorem Y2m {env:Env}:∀(l:O (Str×NameKind)) (ee:O (Str×Ap)) (p:Str×Ap),p∈U8 env l ee->p∈ee\/((p.1,NameKind.free)∈l/\p.2=(env.cells.lookup p.1).getD 0)
 |[],ee,p,h=>.inl h
 |(n,k)::r,ee,p,h=>by
  rcases Y2m r _ p h with q |⟨q1,q2⟩
  ·by_cases hk:(k==NameKind.free)=true
   ·rw[aO hk]at q;rcases ar.mp q with q |q
    ·refine .inr ⟨?_,by rw[q]⟩;have:k=NameKind.free:=eq_of_beq hk;rw[q,this];exact aj
    ·exact .inl q
   ·rw[aI hk]at q;exact .inl q
  ·exact .inr ⟨ag _ q1,q2⟩
theorem Y2l {env:Env}:∀(l:O (Str×NameKind)) (ee:O (Str×Ap)) (n:Str),((n,NameKind.free)∈l\/∃c,(n,c)∈ee)->∃c,(n,c)∈U8 env l ee
 |[],ee,n,h=>by
  rcases h with h |h
  ·cases h
  ·exact h
 |(m,k)::r,ee,n,h=>by
  refine Y2l r _ n ?_;rcases h with h |⟨c,h⟩
  ·rcases ar.mp h with e |h
   ·cases e;refine .inr ⟨(env.cells.lookup m).getD 0,?_⟩;rw[aO (by rfl)];exact aj
   ·exact .inl h
  ·refine .inr ⟨c,?_⟩;split
   ·exact ag _ h
   ·exact h
theorem Z5s:∀{l:O (Str×α)}{x:Str}{c:α},l.lookup x=some c->(x,c)∈l:=by intro l;induction l<;>grind [jb,aj,ag]
theorem Y5q:∀{l:O (Str×α)}{x:Str}{c:α},(x,c)∈l->∃d,l.lookup x=some d
 |[],_,_,h=>by cases h
 |(n,d)::r,x,c,h=>by
  rw[jb];cases e:x==n with
  |true=>exact⟨d,rfl⟩
  |false=>
   rcases ar.mp h with q |q
   ·cases q;simp at e
   ·exact Y5q q
def blk (X:Cx)(scope:Scope)(C:Ap)(s:Ao)(H:Hp)(fp:O Ap)(N:O Str):Cx:=
 {X with N:=N,s₀:=s,H₀:=H,env:=compEnvC scope (U8 X.env scope.names []) C X.env,outer:=X.stack,ex:=fp,fn:=fun _=>false,pn:=[],xe:=?A4}
structure Blk (X:Cx)(scope:Scope)(N:O Str)(nt:Nat)(cap:?N):Prop where
 kind:scope.kind=.function
 cell:∀y∈scope.names,y.2≠.cell
 names:∀y∈scope.names,y.2=.local->scope.names.lookup y.1=some .local
 only:∀y∈scope.names,y.2=.free->scope.names.lookup y.1=some .free
 free:∀y∈scope.names,y.2=.free->X.env.kindOf y.1=some .cell\/X.env.kindOf y.1=some .free
 len:N.length=nt+cap.length
 caps:∀(j i:Nat) (x:Str),cap[j]?=some i->N[nt+j]?=some x->X.N[i]?=some x/\(x,NameKind.free)∈scope.names
section
variable {nt:Nat}
def Y1 (I:?A)(B:Blk X scope N nt cap)  {c:Ap}(h:(U8 X.env scope.names []).lookup x=some c):?Z:=by
 rcases Y2m _ _ _ (Z5s h)with q |⟨q1,q2⟩
 ·cases q
 ·obtain⟨d,hd⟩:=I.ok.has x (B.free _ q1 rfl);have q2:c=(X.env.cells.lookup x).getD 0:=q2;rw[hd]at q2 ⊢;rw[q2];rfl
def Z4e (I:?A)(B:Blk X scope N nt cap)  (h:(x,NameKind.free)∈scope.names):∃c,(U8 X.env scope.names []).lookup x=some c:=by
 obtain⟨c,hc⟩:=Y2l (env:=X.env) scope.names [] x (.inl h);exact Y5q hc
def Y7l {env:Env}  {k:NameKind}(h:(relabel scope env).names.lookup x=some k)(hk:k=.cell\/k=.free)(nc:∀y∈scope.names,y.2≠.cell):(x,NameKind.free)∈scope.names:=by
 have m:=Z5s h;unfold relabel at m;obtain⟨⟨n,k'⟩,hm,e⟩:=aq.mp m;dsimp only at e;split at e
 ·rename_i hc;cases e;simp only[ce]at hc;have:k'=NameKind.free:=eq_of_beq hc.1.1;rw[<-this];exact hm
 ·cases e;rcases hk with rfl |rfl
  ·exact absurd rfl (nc _ hm)
  ·exact hm
def W4x (I:?A)(B:Blk X scope N nt cap)   (hC:s.heap.objs.size<=C)(hf:∀b∈fp,N3 X ae H b)(iO:∀b∈fp,b<s.heap.objs.size):(blk X scope C s H fp N).Ok where
 mod:=I.ok.mod
 kind:=B.kind
 glob:=I.ok.glob
 blt:=I.ok.blt
 above:=hC
 inj:=fun x y c h1 h2=>I.ok.inj x y c (Y1 I B h1) (Y1 I B h2)
 has:=fun x h=>by
  rcases h with h |h
  ·exact Z4e I B (Y7l h (.inl rfl) B.cell)
  ·exact Z4e I B (Y7l h (.inr rfl) B.cell)
 cab:=fun x c h=>by cases h
 hd:=I.ok.hd
 frames:=I.ok.frames
 stk:=.inl rfl
 exf:=fun b hb=>⟨aB (ay (iO b hb) hC),fun x c h=>(hf b hb).2.2.2.2.1 x c (Y1 I B h)⟩
 bs:=I.bs
 bsz:=aU I.ok.bsz I.sz
 noex:=fun b o e hb=>by
  rcases (hf b hb).2.2.2.1 with z |z
  ·exact I.ok.noex b o e z
  ·exact absurd (ay (aA e) (aU I.ok.bsz z)) (aS _)
 exfs:=fun b hb z=>by
  rcases ar.mp (I.stkSub b z)with e |e
  ·exact(hf b hb).2.1 e
  ·exact(hf b hb).2.2.1 e
 funs:=I.stack
 frf:=I.stkFree
theorem Z0e (I:?A)(B:Blk X scope N nt cap)   (hf:∀b∈fp,N3 X ae H b)(iO:∀b∈fp,b<s.heap.objs.size)   {m:Str->Am An}
  (hC:s.heap.objs.size<=C) (lU:h'.Ns C m) (k:∀b o,?A6=?P->h'.get? b=?P):
  A0 ?W [] (List.replicate nt none++cap.map fun i=>(σ[i]?).join) H {s with heap:=h',toks:=t'}:=by
 refine⟨W4x I B hC hf iO,rfl,I.bare,Un.kept k,⟨m,lU,fun i x v h1 h2 h3=>?_⟩,fun x c h=>?_,I.hok.fresh hC,fun x c h=>I.freeC x c (Y1 I B h),(fun p hp=>by cases hp),I.hok.kept k,?_⟩
 ·have h1:N[i]?=some x:=h1
  by_cases hi:i<nt
  ·rw[aJ (by rw[aZ];exact hi)]at h2;have:=au h2;rw[i5]at this;cases this.2
  ·rw[aR (by rw[aZ];lia),aZ,ah]at h2;cases e:cap[i-nt]? with
   |none=>rw[e]at h2;cases h2
   |some j=>
    rw[e]at h2;have h2:(σ[j]?).join=some v:=aC h2;have hσ:σ[j]?=some (some v):=by
     cases q:σ[j]? with
     |none=>rw[q]at h2;cases h2
     |some o=>rw[q]at h2;exact congrArg some h2
    obtain⟨hN,hx⟩:=B.caps (i-nt) j x e (by rw[show nt+(i-nt)=i by lia];exact h1);obtain⟨m0,zM,hl⟩:=I.loc;have kd:=B.free _ hx rfl;obtain⟨u,r,l⟩:=hl j x v hN hσ (.inr kd);refine⟨u,r,?_⟩;obtain⟨c,hc⟩:=Z4e I B hx;have eZ:∃c',X.env.cells.lookup x=some c'/\s.heap.IsCell c' (some u):=by
     rcases l with⟨l1,_⟩ |⟨_,l2⟩
     ·rcases kd with kd |kd
      ·rw[kd]at l1;cases l1
      ·rw[kd]at l1;cases l1
     ·exact l2
    obtain⟨c',fe,o,ho,hd⟩:=eZ;rw[Y1 I B hc]at fe;cases fe;have h3:Vis (relabel scope X.env) x:=h3;refine .inr ⟨?_,c,hc,o,k _ _ ho,hd⟩;rcases h3 with h3 |h3 |h3
    ·exfalso;have m1:=Z5s h3;unfold relabel at m1;obtain⟨⟨n,k'⟩,hm,e'⟩:=aq.mp m1;dsimp only at e';split at e'
     ·cases e'
     ·cases e';have a1:=B.names _ hm rfl;have a1:scope.names.lookup x=some .local:=a1;rw[B.only _ hx rfl]at a1;cases a1
    ·exact .inl h3
    ·exact .inr h3
 ·obtain⟨v,o,ho,hd⟩:=I.cell x c (Y1 I B h);exact⟨v,o,k _ _ ho,hd⟩
 ·rw[ao,aZ,ai];exact B.len.symm
end
section
variable {w:Av}{RR:Result->Ao->Prop}
theorem Z4g {target:Aq}    {it ee:An}{env:Env}(I:Nat->Ao->Prop)
  (turn:∀n s,I n s->wpAny ?V A (pyNext it) (fun r s₁=>match r with
   |none=>RR (.ok .next) s₁
   | some v=>wpAny ?V A (letOwnedTupleGo target it v) (fun _ sa=>wpAny ?V A (assign target env v) (fun _ s₂=>
     wpAny ?V A (forIn gQ true fun c r=>if r=true then do let ok <- isTrue c env (eval c env);pure (ForInStep.yield ok)else pure (ForInStep.yield r)) (fun ok s₃=>
      if ok=true then wpAny ?V A (eval gt env) (fun x s₄=>
       wpAny ?V A (call (.builtin "list.append") [ee,x]) (fun _ s₅=>∃m,m<n/\I m s₅) (?A4) s₄) (?A4) s₃
      else ∃m,m<n/\I m s₃) (?A4) s₂) (?A4) sa) (?A4) s₁) (?A4) s)
  (n:Nat) (h:I n s):codeAny ?V A (.compLoop (.ListComp gt [⟨target,iter,gQ,0⟩] scope pos) 0 it ee env) RR s:=by
 refine codeAny_loop rfl I (fun n s hI=>?_) n h;show wpAny _ _ ((compTurn (.ListComp gt [⟨target,iter,gQ,0⟩] scope pos) 0 it ee env).onRaise (fun x=>do noteFrame x env;theTreesLotGoes x)) _ _ s;refine wpAny_noted ?_;rw[compTurn_list];refine aa (dO (aa (aP (turn n s hI) (fun r s₁ h₁=>?_) fun _ _ h'=>h'.elim)));cases r with
 |none=>exact am h₁
 |some v=>
  refine aa (aP h₁ (fun _ sa ha=>?_) fun _ _ h'=>h'.elim);refine aa (aP ha (fun _ s₂ h₂=>aa (aP h₂ (fun ok s₃ h₃=>?_) fun _ _ h'=>h'.elim)) fun _ _ h'=>h'.elim);cases ok with
  |false=>exact am ⟨rfl,h₃⟩
  |true=>
   exact aa (aa (aP h₃ (fun x s₄ h₄=>aa (aP h₄ (fun _ s₅ h₅=>am (am ⟨rfl,h₅⟩)) fun _ _ h'=>h'.elim)) fun _ _ h'=>h'.elim))
end
structure YlS (K:Fg9)(J:It)(ds:O D)(H:Hp):Prop where
 go:∀H',A5 H H'->∀i,i<ds.length->J.go i H'
 yld:∀H',A5 H H'->∀i x eR d,ds[i]?=some d->J.yld i H' x eR->A5 H' eR/\A2 K eR d x
 stop:∀H',A5 H H'->J.stop ds.length H'
abbrev WIE:=C3->(O D->Prop)->Prop
variable {wi:WIE}
def W9k (K:Fg9)(H0:Hp)(wi:WIE):TI:=fun σ H R=>∃ τ,C1 K H0 τ σ H/\wi τ fun ds=>∀J H',A5 H H'->YlS K J ds H'->R J H'
structure L7 (X:Cx)(H0:Hp)(tg iter:Aq)(wi:WIE):Prop where
 mono:∀ τ (P Q:O D->Prop),(∀ds,P ds->Q ds)->wi τ P->wi τ Q
 pi:PI X tg iter (W9k X.K H0 wi)
def IfsR (X:Cx)(gQ:O Aq)(t:TT):Prop:=
 ∀(ae:Pn9) (s:Ao) (σ:Q9) (H:Hp) (Q:Bool->Hp->Prop),?A->t σ H Q ->
  wpAny ?C X.A (forIn gQ true fun c r=>if r=true then do let ok <- isTrue c X.env (eval c X.env);pure (ForInStep.yield ok)else pure (ForInStep.yield r)) (TP X ae σ Q) X.xe s
structure Q2 (X:Cx)(H0:Hp)(gQ:O Aq)(t:WT):Prop where
 mono:∀(τ:C3) (P Q:Bool->Prop),(∀r,P r->Q r)->t τ P->t τ Q
 pt:IfsR X gQ (Z5r X.K H0 t)
def Q2.nil:Q2 X H0 [] (fun _ Q=>Q true) where
 mono:=fun τ P Q f h=>f _ h
 pt:=fun ae s σ H Q I⟨τ,hR,h⟩=>gU ⟨H,I,h H (A5.refl H)⟩
def Q2.one {c:Aq}{t:WT}(hc:DT X H0 c t):Q2 X H0 [c] t where
 mono:=hc.mono
 pt:=fun ae s σ H Q I h=>wpAny_tests_one (hc.pt ae s σ H Q I h)
def M7 (g:WG)(t:WT)(we:WE):O D->C3->(O D->Prop)->Prop
 |[],_,Q=>Q []
 |d::ds,τ,Q=>g d τ fun τ'=>t τ' fun k=>if k=true then we τ' fun r=>∃e,r=.st e/\M7 g t we ds τ' fun es=>Q (e::es)else M7 g t we ds τ' Q
theorem Z4h {g:WG}{t:WT}  (hg:∀d τ (P Q:C3->Prop),(∀ τ,P τ->Q τ)->g d τ P->g d τ Q)(ht:∀(τ:C3) (P Q:Bool->Prop),(∀r,P r->Q r)->t τ P->t τ Q)(he:∀(τ:C3) (P Q:R->Prop),(∀r,P r->Q r)->we τ P->we τ Q):
  ∀(ds:O D) (τ:C3) (P Q:O D->Prop),(∀es,P es->Q es)->M7 g t we ds τ P->M7 g t we ds τ Q
 |[],_,_,_,f,h=>f _ h
 |d::ds,τ,P,Q,f,h=>hg d τ _ _ (fun τ' h=>ht τ' _ _ (fun k h=>Q0i (fun h=>he τ' _ _ (fun r⟨e,e1,h⟩=>⟨e,e1,Z4h hg ht he ds τ' _ _ (fun es h=>f _ h) h⟩) h) (fun h=>Z4h hg ht he ds τ' _ _ f h) h) h) h
def Q8d:Sl->Am Sl
 |.dat d=>some (.dat d)
 |.own ds=>some (.bor ds)
 |.bor ds=>some (.bor ds)
 |.dt k=>some (.bd k)
 |.bd k=>some (.bd k)
 |.cl a Φ=>some (.cl a Φ)
 |_=>none
def T1 (nt:Nat)(cap:?N)(τ:C3):C3:=List.replicate nt none++cap.map fun i=>((τ[i]?).join).bind Q8d
theorem Z6v {K:Fg9}    (hR:C1 K H0 τ σ H)(nt:Nat)(cap:?N):C1 K H (T1 nt cap τ) (List.replicate nt none++cap.map fun i=>(σ[i]?).join) H:=by
 have at_:∀(i:Nat) (s:Sl),(T1 nt cap τ)[i]?=some (some s)->nt<=i/\∃j t,cap[i-nt]?=some j/\τ[j]?=some (some t)/\Q8d t=some s:=fun i s e=>by
  unfold T1 at e
  by_cases hi:i<nt
  ·rw[aJ (by rw[aZ];exact hi)]at e;have:=au e;rw[i5]at this;cases this.2
  ·rw[aR (by rw[aZ];lia),aZ,ah]at e;cases q:cap[i-nt]? with
   |none=>rw[q]at e;cases e
   |some j=>
    rw[q]at e;have e:((τ[j]?).join).bind Q8d=some s:=aC e;cases q2:τ[j]? with
    |none=>rw[q2]at e;cases e
    |some o=>
     rw[q2]at e;cases o with
     |none=>cases e
     |some t=>exact⟨?H,j,t,rfl,q2,e⟩
 refine⟨?_,A5.refl H,fun i s e=>?_,fun i j s t v _ e1 _ m _ _ _=>?_⟩
 ·unfold T1;rw[ao,ao,ai,ai,aZ,aZ]
 ·obtain⟨hi,j,t,hc,ht,hb⟩:=at_ i s e;obtain⟨v,hv,q⟩:=hR.here j t ht;refine⟨v,?_,?_⟩
  ·rw[aR (by rw[aZ];lia),aZ,ah,hc];show some ((σ[j]?).join)=_;rw[hv];rfl
  ·cases t with
   |dat d=>cases hb;exact q
   |own ds=>cases hb;obtain⟨a,xs,e,_,q,al⟩:=q;exact⟨a,xs,e,q,al⟩
   |bor ds=>cases hb;obtain⟨a,xs,e,q,al⟩:=q;exact⟨a,xs,e,hR.same _ _ q,al⟩
   |bd ds=>cases hb;obtain⟨a,xs,e,q,al⟩:=q;exact⟨a,xs,e,hR.same _ _ q,al⟩
   |dk _=>cases hb
   |dt ds=>cases hb;obtain⟨a,xs,e,_,q,al⟩:=q;exact⟨a,xs,e,q,al⟩
   |ob _=>cases hb
   |cl _ _=>cases hb;exact q
   |ll _ _=>cases hb
   |ins _ _ _=>cases hb
 ·obtain⟨hi,j',t',hc,ht,hb⟩:=at_ i s e1;cases t' with
  |dat d=>cases hb;cases m
  |own ds=>cases hb;cases m
  |bor ds=>cases hb;cases m
  |dk _=>cases hb
  |dt _=>cases hb;cases m
  |bd _=>cases hb;cases m
  |ob _=>cases hb
  |cl _ _=>cases hb;cases m
  |ll _ _=>cases hb
  |ins _ _ _=>cases hb
def Y4a (sb:Heap.SameBut C h h'):∀b o,b≠C->h.get? b=?P->h'.get? b=?P:=fun b o hb e=>(sb.2 b hb).trans e
def Z3x {σ':Q9}  {ys:Array An} 
  (I2:A0 X ae σ H2 s2) (Ib:A0 ?K pb σ' H' s1) (f2:∀b∈fp,N3 X ae H2 b) (hC:s2.heap.objs.size<=C) (hD:s2.heap.objs.size<=D0) (eC:D0≠C) (tG:H' D0=none)
  (hl:s1.heap.PlainList D0 ys) (rv:C0 vs ys.toList) (hz:vs.length<=sizeLine) (sb:Heap.SameBut C s1.heap h'):A0 X ae σ (A9 H' D0 (.lst vs)) {s1 with heap:=h'}:=by
 have mF:∀b o,s2.heap.get? b=?P->b≠C:=fun b o e=>aB (ay (aA e) hC);have rH:∀b o,s2.heap.get? b=?P->b≠D0:=fun b o e=>aB (ay (aA e) hD);have keep:=Y4a sb;have base:Un (F3 X.stack) fp H2 H' s2.heap s1.heap:=Ib.base;have tH:H' C=none:=Ib.free;have ko:∀b u,H' b=some u->b≠C:=fun b u e z=>by rw[z,tH]at e;cases e
 have neD:∀b u,H' b=some u->b≠D0:=fun b u e z=>by rw[z,tG]at e;cases e
 refine I2.call' (s':={s1 with heap:=h'}) (ch:=fp) Ib.os ⟨fun b o e n hb hx=>keep b o (mF b o e) (base.keep b o e n hb hx),fun b o e n hb hx=>?_,fun b o e n hx=>?_,fun b o e hx=>?_,fun b xs e=>?_,fun b o u e=>?_,fun b ps e=>?_⟩ (fun b u e=>?_) Ib.bare (fun b hb=>?_)
 ·obtain⟨sl,q⟩:=base.slot b o e n hb hx;exact⟨sl,keep b _ (mF b o e) q⟩
 ·rw[B2 (rH b o e)];exact base.free b o e n hx
 ·obtain⟨o',q⟩:=base.there b o e hx;exact⟨o',keep b o' (mF b o e) q⟩
 ·have q:=base.tups b xs e;rw[B2 (neD b _ q)];exact q
 ·have q:=base.frzs b o u e;rw[B2 (neD b _ q)];exact q
 ·obtain⟨more,q⟩:=base.tbls b ps e;exact⟨more,by rw[B2 (neD b _ q)];exact q⟩
 ·by_cases hb:b=D0
  ·subst hb;rw[upd_same]at e;cases e;obtain⟨n,ho⟩:=hl;exact⟨hz,ys.toList,n,rv,keep b _ eC (by rw[ho])⟩
  ·rw[B2 hb]at e;refine(Ib.hok b u e).stay (fun c v hc q=>keep c v ?_ q) (fun c u _ q=>by rw[B2 (neD c _ q)];exact q) fun c xs q=>by rw[B2 (neD c _ q)];exact q
   rcases hc with z |z
   ·rw[z];exact ko b u e
   ·exact ko c _ z
 ·obtain⟨_,a2,a3,a4,a5,a6⟩:=f2 b hb;exact⟨a4,a2,a5,a6⟩
section
variable {nt:Nat}{g:WG}{t:WT}
def Q1 (nt:Nat)(cap:?N)(wi:WIE)(g:WG)(t:WT)(we:WE):WE:=fun τ Q=>wi τ fun ds=>ds.length<=sizeLine/\M7 g t we ds (T1 nt cap τ) fun es=>Q (.nw es)
theorem Y2u {P:O D->Prop}       (hc:X.calm=true)(B:Blk X scope N nt cap)(hi:L7 X H0 tg iter wi)
  (hg:∀C s H fp,DG ?W H tg g) (ht:∀C s H fp,Q2 ?W H gQ t) (he:∀C s H fp,A5 H0 H->DE ?W H gt we) (hs:?A1)
  (I:?A) (hR:C1 X.K H0 τ σ H) (hw:wi τ fun ds=>ds.length<=sizeLine/\M7 g t we ds (T1 nt cap τ) P)
  (fin:∀(C D0:Ap) (s2 s4:Ao) (H2 H4:Hp) (fp:O Ap) (pb:Pn9) (σ4:Q9) (vs:O V) (ys:Array An) (es:O D) (f:Flow),A0 X ae σ H2 s2->A5 H H2->A0 ?K pb σ4 H4 s4->(∀b∈fp,N3 X ae H2 b) ->
   s2.heap.objs.size<=C->s2.heap.objs.size<=D0->D0≠C->H4 D0=none->s4.heap.PlainList D0 ys->C0 vs ys.toList->vs.length<=sizeLine->A5 H2 H4->AllS X.K H4 es vs->P es->compPost ?C X.A X.xe use QQ (.ref D0) C (.ok f) s4):
  wpAny ?C X.A (comprehension (.ListComp gt [⟨tg,iter,gQ,0⟩] scope pos) scope X.env mB (newList []) false (eval iter X.env) use) QQ X.xe s:=by
 refine dH rfl hs (Z0i fun y hy e=>I.ok.has y.1 (B.free y hy e)) B.kind B.names ?_;refine B3 (hi.pi ae s σ H (fun J H2=>A5 H H2/\∃ds,YlS X.K J ds H2/\ds.length<=sizeLine/\M7 g t we ds (T1 nt cap τ) P) I
  ⟨τ,hR,hi.mono τ _ _ (fun ds h J H' sm yl=>⟨sm,ds,yl,h.1,h.2⟩) hw⟩) fun v s1 h1=>B3 h1 fun mH s2 h2=>?_
 obtain⟨it,fp,tn,J,H2,e,I2,T,fJ,f2,dZ,ds,yl,hz,ku⟩:=h2;subst e;have iO:∀b∈fp,b<s2.heap.objs.size:=fun b hb=>by
  obtain⟨o,ho,_⟩:=T.obj _ _ fJ b hb;exact aA ho
 have fk:=hR.mono dZ;refine bQ (di B.cell (by intro y hy;simp at hy) (fun h₁ eA dE=>?_) B.kind);dsimp only at eA dE ⊢;generalize hH2:s2.heap.push {cls:=.type "list",dict:=none,data:=.seq ([]:O An).toArray}=Hq at eA dE ⊢;have hC:Hq.objs.size=s2.heap.objs.size+1:=by rw[<-hH2,bC]
 have eC:s2.heap.objs.size≠Hq.objs.size:=by rw[hC];exact aB (cb _)
 have dv:s2.heap.objs.size<=Hq.objs.size:=by rw[hC];exact eD _
 have old:∀b o,s2.heap.get? b=?P->h₁.get? b=?P:=fun b o e=>dE.extBut b o (by rw[hC];exact aB (bt (aA e))) (af _ (hH2▸af _ e));have fN:h₁.PlainList s2.heap.objs.size #[]:=⟨_,dE.extBut _ _ eC (af _ (hH2▸aG _ rfl))⟩
 generalize hCe:Hq.objs.size=C at eA dE hC eC dv ⊢;generalize hDe:s2.heap.objs.size=D0 at hC eC dv fN ⊢;have eL:∀b∈fp,b<D0:=fun b hb=>hDe▸iO b hb;have gj:tn 0 h₁:=T.keep _ _ _ fJ fun b _ o e=>old b o e;have nr:=Z0e (C:=C) (h':=h₁) (t':=s2.toks+([]:O (Str×An)).length) I2 B f2 iO (by rw[hDe];exact dv) eA old;have jF:H2 D0=none:=I2.hok.fresh (by rw[hDe];exact ak _);have mC:D0∉F3 X.stack:=fun z=>by
  rcases ar.mp (I2.stkSub _ z)with e |e
  ·have:=I2.lt;rw[<-e,hDe]at this;exact aS _ this
  ·exact I2.nofs (by rw[hDe];exact ak _) e
 have mE:∀x c,(U8 X.env scope.names []).lookup x=some c->c≠D0:=fun x c h z=>by
  obtain⟨v,q⟩:=I2.cell x c (Y1 I2 B h);have:=q.lt;rw[z,hDe]at this;exact aS _ this
 have gi:∀{pb:Pn9} {σ':Q9}{H':Hp}{s':Ao}{ys:Array An}{n:Nat},A0 ?K pb σ' H' s'->H' D0=none->s'.heap.get? D0=some {cls:=.type "list",data:=.seq ys n} ->
   A0 ?K [(D0,{cls:=.type "list",data:=.seq ys n})] σ' H' s':=by
  intro pb σ' H' s' ys n I' n' e;refine I'.pins_of fun p hp=>?_;have e':p=(D0,{cls:=.type "list",data:=.seq ys n}):=by simpa using hp
  subst e';exact⟨e,n',eC,mC,fun v z=>by cases z⟩
 have iS:∀{H':Hp}{ob:Obj},(∀b∈fp,H' b=none)->∀b∈fp,N3 ?K [(D0,ob)] H' b:=by
  intro H' ob hn b hb;refine⟨hn b hb,(aB (ay (eL b hb) dv)),fun z=>?_,.inl hb,fun x c h=>(f2 b hb).2.2.2.2.1 x c (Y1 I2 B h),fun p hp=>?_⟩
  ·rcases ar.mp (I2.stkSub b z)with e |e
   ·exact(f2 b hb).2.1 e
   ·exact(f2 b hb).2.2.1 e
  ·have e':p=(D0,ob):=by simpa [blk]using hp
   subst e';exact(aB (eL b hb)).symm
 let md:Nat->Ao->Prop:=fun k s'=>∃(i:Nat) (σ':Q9) (H':Hp) (τ':C3) (ys:Array An) (nn:Nat) (vs:O V) (es:O D),A0 ?K [(D0,{cls:=.type "list",data:=.seq ys nn})] σ' H' s'/\C1 X.K H2 τ' σ' H'/\tn i s'.heap /\
  (∀b∈fp,H' b=none)/\H' D0=none/\C0 vs ys.toList/\AllS X.K H' es vs/\i<=ds.length/\k=ds.length-i/\es.length<=i/\M7 g t we (ds.drop i) τ' fun io=>P (es++io)
 have loop:∀s₃:Ao,s₃={s2 with heap:=h₁,toks:=s2.toks+([]:O (Str×An)).length} ->
   codeAny ?C X.A (.compLoop (.ListComp gt [⟨tg,iter,gQ,0⟩] scope pos) 0 (.ref it) (.ref D0) (compEnvC scope (U8 X.env scope.names []) C X.env))
    (compPost ?C X.A X.xe use QQ (.ref D0) C) s₃:=by
  rintro s₃ rfl;obtain⟨nn,ho⟩:=id fN;refine Z4g md ?_ ds.length ⟨0,_,H2,T1 nt cap τ,#[],nn,[],[],gi nr jF ho,Z6v fk nt cap,gj,fun b hb=>(f2 b hb).1,jF,.nil,AllS.nil,bj _,rfl,ak _,by simpa using ku⟩;rintro k s3 ⟨i,σ3,H3,τ3,ys,nn,vs,es,I3,R3,iq,j7,d3,lK,pH,uP,rfl,lY,w3⟩;have cP:A5 H2 H3:=R3.same
  by_cases cm:i<ds.length
  ·refine aP (T.item ?K rfl rfl rfl hc i _ s3 σ3 H3 (?A4) I3 (iS j7) iq (yl.go H3 cP i cm)) (fun r s4 bB=>?_) fun _ _ z=>z;obtain⟨u,hr,h4⟩:=bB;subst hr;refine aP h4 (fun _ s5 bB=>?_) fun _ _ z=>z;obtain⟨x,H5,I5,r5,y5,gm,lq⟩:=bB;obtain⟨jA,ix⟩:=yl.yld H3 cP i x H5 _ (ac cm) y5;rw[bZ cm]at w3;have lw:=I5.pinned (iS lq) (T.obj _ _ gm);have again:∀{σ7:Q9}{H7:Hp}{s7:Ao} {τ7:C3}{pU:Array An}{rB:Nat}{vs7:O V}{es7:O D},A0 ?K (X5 fp s5.heap) σ7 H7 s7->C1 X.K H2 τ7 σ7 H7->H7 D0=none->s7.heap.get? D0=some {cls:=.type "list",data:=.seq pU rB} ->
     C0 vs7 pU.toList->AllS X.K H7 es7 vs7->es7.length<=i+1->M7 g t we (ds.drop (i+1)) τ7 (fun io=>P (es7++io))->∃m,m<ds.length-i/\md m s7:=by
    intro σ7 H7 s7 τ7 pU rB vs7 es7 I7 R7 d7 o7 re yT sS w7;have wn:tn (i+1) s7.heap:=T.keep _ _ _ gm fun b hb o e=>(I7.pin (b,o) (aw _ (Q2m hb e))).1;refine⟨ds.length-(i+1),?H,i+1,σ7,H7,τ7,pU,rB,vs7,es7,gi I7 d7 o7,R7,wn,fun b hb=>?_,d7,re,yT,cm,rfl,sS,w7⟩;obtain⟨o,e,_⟩:=T.obj _ _ gm b hb;exact(I7.pin (b,o) (aw _ (Q2m hb e))).2.1
   refine aP ((hg C s2 H2 fp).pg _ s5 σ3 H5 x u (fun σ6 H6=>∃ τ6,C1 X.K H2 τ6 σ6 H6/\A5 H5 H6/\t τ6 fun k=>if k=true then we τ6 fun r=>∃e,r=.st e/\M7 g t we (ds.drop (i+1)) τ6 fun io=>P (es++(e::io))
     else M7 g t we (ds.drop (i+1)) τ6 fun io=>P (es++io)) lw r5 ⟨τ3,ds[i],R3.mono jA,ix,(hg C s2 H2 fp).mono _ _ _ _ (fun τ6 h6 σ6 H6 jS R6=>⟨τ6,R6,jS,h6⟩) w3⟩) (fun _ s6 rS=>?_) fun _ _ z=>z
   obtain⟨σ6,H6,I6,τ6,R6,jS,w6⟩:=rS;refine aP ((ht C s2 H2 fp).pt _ s6 σ6 H6 (fun k H7=>A5 H6 H7/\if k=true then we τ6 fun r=>∃e,r=.st e/\M7 g t we (ds.drop (i+1)) τ6 fun io=>P (es++(e::io))
     else M7 g t we (ds.drop (i+1)) τ6 fun io=>P (es++io)) I6 ⟨τ6,R6,(ht C s2 H2 fp).mono τ6 _ _ (fun k h H7 jz=>⟨jz,h⟩) w6⟩) (fun ok s7 xg=>?_) fun _ _ z=>z
   obtain⟨H7,I7,jz,w7⟩:=xg;have pd:∀{σ':Q9}{H':Hp}{s':Ao},A0 ?K ([(D0,{cls:=.type "list",data:=.seq ys nn})]++X5 fp s5.heap) σ' H' s'->s'.heap.get? D0=some {cls:=.type "list",data:=.seq ys nn}/\H' D0=none:=fun I'=>
    ⟨(I'.pin (D0,_) (aw _ (ba _ aj))).1,(I'.pin (D0,_) (aw _ (ba _ aj))).2.1⟩
   have pf:∀{σ':Q9}{H':Hp}{s':Ao},A0 ?K ([(D0,{cls:=.type "list",data:=.seq ys nn})]++X5 fp s5.heap) σ' H' s'->A0 ?K (X5 fp s5.heap) σ' H' s':=fun I'=>
    I'.pins_of fun p hp=>I'.pin p (aw _ (aw _ hp))
   have um:A5 H3 H7:=jA.trans (jS.trans jz);cases ok with
   |false=>
    rw[aI bh]at w7 ⊢;exact again (pf I7) (R6.mono jz) (pd I7).2 (pd I7).1 lK (pH.mono (Kp.of um) _ _) (?H) w7
   |true=>
    rw[aO rfl]at w7 ⊢;refine aP ((he C s2 H2 fp fk.same).pe _ s7 σ6 H7 (fun v H8=>A5 H7 H8/\∃e,A2 X.K H8 e v/\M7 g t we (ds.drop (i+1)) τ6 fun io=>P (es++(e::io))) I7
     ⟨τ6,R6.mono jz,(he C s2 H2 fp fk.same).mono τ6 _ _ (fun r cy v H8 jR ir=>(by obtain⟨e,e1,h⟩:=cy;exact⟨jR,e,by subst e1;exact ir,h⟩)) w7⟩) (fun y s8 xf=>?_) fun _ _ z=>z
    obtain⟨v8,H8,I8,mw,jR,e8,rP,w8⟩:=xf;obtain⟨o8,d8⟩:=pd I8;have lQ:ys.size<=sizeLine:=by
     have e1:=lK.length;have e2:=pH.length;have e4:ys.toList.length=ys.size:=by simp
     lia
    refine dQ (hsz:=lQ) ⟨nn,o8⟩ fun h₅ oN mL=>?_;have I9:A0 ?K (X5 fp s5.heap) σ6 H8 {s8 with heap:=h₅}:=by
     refine(pf I8).turned (t':=s8.toks) (it:=D0) (fun b o hb e=>(mL.2 b hb).trans e) d8 eC (.inr (by rw[<-hDe];exact ak _)) mE (fun p hp z=>?_);obtain⟨q1,_⟩:=Q8y (by simpa [blk]using hp);exact aB (eL _ q1) z
    obtain⟨ox,o9⟩:=oN;refine again I9 (R6.mono (jz.trans jR)) d8 o9 (vs7:=vs++[v8]) (es7:=es++[e8]) ?_ ((pH.mono (Kp.of (um.trans jR)) _ _).append (AllS.cons rP AllS.nil)) (by rw[ao];simpa using lY) ?_
    ·have:(ys.push y).toList=ys.toList++[y]:=by simp
     rw[this];exact lK.append (.cons mw .nil)
    ·simpa using w8
  ·have e:i=ds.length:=?H
   subst e;refine aP (T.done ?K rfl rfl rfl hc ds.length _ s3 σ3 H3 (?A4) I3 (iS j7) iq (yl.stop H3 cP)) (fun r s4 bB=>?_) fun _ _ z=>z;obtain⟨hr,I4⟩:=bB;subst hr;have o4:=(I4.pin (D0,_) (aw _ aj)).1;rw[cX]at w3;have w3:P (es++[]):=w3;rw[b8]at w3;have sk:vs.length<=sizeLine:=by rw[<-pH.length];lia
   exact fin C D0 s2 s4 H2 H3 fp _ σ3 vs ys es _ I2 dZ I4 f2 (by rw[hDe];exact dv) (by rw[hDe];exact ak _) eC d3 ⟨nn,o4⟩ lK sk cP pH w3
 exact gA (loop _ rfl) (T.self _ 0 _ _ _ gj (loop _ rfl))
def W1y (hc:X.calm=true)(B:Blk X scope N nt cap)(hi:L7 X H0 tg iter wi)(hg:∀C s H fp,DG ?W H tg g)(ht:∀C s H fp,Q2 ?W H gQ t)
  (he:∀C s H fp,A5 H0 H->DE ?W H gt we) (hs:?A1:=by intro _;rfl):
  DE X H0 (.ListComp gt [⟨tg,iter,gQ,0⟩] scope pos) (Q1 nt cap wi g t we) where
 mono:=fun τ P Q f h=>hi.mono τ _ _ (fun ds h=>⟨h.1,Z4h (hg 0 X.s₀ X.H₀ []).mono (ht 0 X.s₀ X.H₀ []).mono (he 0 X.s₀ H0 [] (A5.refl _)).mono ds _ _ _ (fun es h=>f _ h) h.2⟩) h
 pe:=by
  intro ae s σ H Q I ⟨τ,hR,hw⟩;rw[eval_ListComp];refine Y2u hc B hi hg ht he hs I hR hw fun C D0 s2 s4 H2 H4 fp pb σ4 vs ys es f I2 dZ I4 f2 hC hD eC hn hl rv hz jx al w3=>?_;obtain⟨m4,l8,_⟩:=id I4.loc;refine⟨m4,l8,fun h' sb=>?_⟩;exact⟨.ref D0,_,Z3x I2 I4 f2 hC hD eC hn hl rv hz sb,rfl,w3 _ _ (dZ.trans (jx.trans (G7 hn _))) ⟨D0,vs,rfl,dZ.free (I2.hok.fresh hD),upd_same,al.mono (Kp.of (G7 hn _)) _ _⟩⟩
def DE.comp (hc:X.calm=true)(B:Blk X scope N nt cap)(hi:L7 X H0 tg iter wi)(hg:∀C s H fp,DG ?W H tg g)(ht:∀C s H fp,Q2 ?W H gQ t)
  (he:∀C s H fp,DE ?W H gt we) (hs:?A1:=by intro _;rfl):
  DE X H0 (.ListComp gt [⟨tg,iter,gQ,0⟩] scope pos) (Q1 nt cap wi g t we):=W1y hc B hi hg ht (fun C s H fp _=>he C s H fp) hs
end
section
variable {i6:Pos}{nt:Nat}{g:WG}{t:WT}
def W2w {i:Nat}  (hc:X.calm=true)(B:Blk X scope N nt cap)(hi:L7 X H0 tg iter wi)(hg:∀C s H fp,DG ?W H tg g)(ht:∀C s H fp,Q2 ?W H gQ t)
  (he:∀C s H fp,DE ?W H gt we) (hN:X.N.Nodup) (mW:X.N[i]?=some x) (hx:Loc X.env.scope x)
  (jX:swapsWith (.ListComp gt [⟨tg,iter,gQ,0⟩] scope pos) (some (.Name x cf)) i6.line X.env=pure true:=by rfl) (hs:?A1:=by intro _;rfl)
  (hf:?J:=by sleep 1):
  DS X H0 (.Assign [.Name x cf] (.ListComp gt [⟨tg,iter,gQ,0⟩] scope pos) i6) (C2 i (Q1 nt cap wi g t we)) where
 mono:=fun τ E F le h=>(DE.comp (pos:=pos) hc B hi hg ht he hs).mono τ _ _ (fun r h=>Z7s (fun s h=>le.nx _ h) h) h
 ps:=by
  intro ae s σ H D I ⟨τ,hR,hw⟩;rw[gZ _ _ _ _ jX];refine aa (dO (aa ?_));show wpAny _ X.A (do let _ <- comprehension (.ListComp gt [⟨tg,iter,gQ,0⟩] scope pos) scope X.env _ (newList []) false (eval iter X.env) (some (assign (.Name x cf) X.env))) _ _ s;refine aa (aP (Y2u (use:=some (assign (.Name x cf) X.env)) (QQ:=fun _ s'=>SP X ae D .next s') hc B hi hg ht (fun C s H fp _=>he C s H fp) hs I hR hw fun C D0 s2 s4 H2 H4 fp pb σ4 vs ys es f I2 dZ I4 f2 hC hD eC hn hl rv hz jx al w3=>?_)
   (fun _ s' hq=>am (am hq)) fun _ _ e=>e)
  have Ib:A0 X ae σ (A9 H4 D0 (.lst vs)) {s4 with heap:=s4.heap}:=Z3x I2 I4 f2 hC hD eC hn hl rv hz ⟨rfl,fun _ _=>rfl⟩;have m8:C≠X.env.locals:=fun z=>aS _ (ay I2.lt (z▸hC));have m7:∀x c,?Z->c≠C:=fun x c h z=>by
   obtain⟨v,q⟩:=I2.cell x c h;exact aS _ (ay q.lt (z▸hC))
  show wpAny _ X.A (assign (.Name x cf) X.env (.ref D0)) _ _ s4;refine fZ (Z1y (v:=.ref D0) Ib hN mW hx rfl (fun s5 I5 bB=>?_) hf);obtain⟨a,oj,ha⟩:=bB;obtain⟨m4,l8,_⟩:=id I4.loc;have ph:C≠a:=by
   rcases ha with ha |ha
   ·rw[ha];exact m8
   ·exact fun z=>m7 _ _ ha z.symm
  refine⟨m4,l8.sameBut oj ph,fun h' sb=>?_⟩;have pj:H4 C=none:=I4.free;have I6:A0 X ae (σ.set i (some (.ref D0))) (A9 H4 D0 (.lst vs)) {s5 with heap:=h'}:=by
   refine I5.turned (t':=s5.toks) (it:=C) (fun b o hb e=>(sb.2 b hb).trans e) (by rw[B2 (bN eC)];exact pj) m8 (.inr (aU I2.sz hC)) m7 fun p hp z=>?_;have:=(I2.pin p hp).1;exact aS _ (ay (aA this) (z▸hC))
  obtain⟨sl,p,eO⟩:=hR.store (i:=i) (r:=.nw es) (v:=.ref D0) (H1:=A9 H4 D0 (.lst vs)) (dZ.trans (jx.trans (G7 hn _))) ⟨D0,vs,rfl,dZ.free (I2.hok.fresh hD),upd_same,al.mono (Kp.of (G7 hn _)) _ _⟩ w3;exact⟨_,_,I6,p _ _ (Kp.of (dZ.trans (jx.trans (G7 hn _)))) eO⟩
end
section
variable {a b c:Aq}
def L7.lst (he:DE X H0 e we):L7 X H0 tg e (fun τ Q=>we τ fun r=>∃ds,Y4 r=some ds/\Q ds) where
 mono:=fun τ P Q f h=>he.mono τ _ _ (fun r⟨ds,e1,q⟩=>⟨ds,e1,f _ q⟩) h
 pi:=piW (Z6n he.pe) fun σ H R ⟨τ,hR,h⟩=>⟨τ,hR,he.mono τ _ _ (fun r cR v H1 s1 ir=>by
  obtain⟨ds,e1,q⟩:=cR;obtain⟨a,xs,rfl,sq,al⟩:=Q5j e1 ir;refine⟨a,rfl,⟨xs,sq⟩,q _ _ s1 ⟨fun H' s i hi=>⟨xs,xs[i]'(by rw[<-al.length];exact hi),s.seq sq,ac _⟩,fun H' s i x eR d hd ⟨e,y⟩=>?_,fun H' s=>⟨xs,s.seq sq,by rw[al.length];exact ak _⟩⟩⟩;subst e;have hx:=y xs (s.seq sq);obtain⟨v,hv,q⟩:=(al.mono (Kp.of s) _ _).get hd;rw[hx]at hv;cases hv;exact⟨A5.refl _,q⟩) h⟩
def L7.tup (he:DE X H0 e we):L7 X H0 tg e (fun τ Q=>we τ fun r=>∃ds,r=.st (.tup ds)/\Q ds) where
 mono:=fun τ P Q f h=>he.mono τ _ _ (fun r⟨ds,e1,q⟩=>⟨ds,e1,f _ q⟩) h
 pi:=piW (Y7a he.pe) fun σ H R ⟨τ,hR,h⟩=>⟨τ,hR,he.mono τ _ _ (fun r fM v H1 s1 ir=>by
  obtain⟨ds,e1,q⟩:=fM;subst e1;have ir:A2 X.K H1 (.tup ds) v:=ir;unfold A2 at ir;obtain⟨a,xs,rfl,sq,al⟩:=ir;refine⟨a,rfl,⟨xs,D9.of sq⟩,q _ _ s1 ⟨fun H' s i hi=>⟨xs,xs[i]'(by rw[<-al.length];exact hi),D9.of (s _ _ sq),ac _⟩,fun H' s i x eR d hd ⟨e,y⟩=>?_,fun H' s=>⟨xs,D9.of (s _ _ sq),by rw[al.length];exact ak _⟩⟩⟩;subst e;have hx:=y xs (D9.of (s _ _ sq));obtain⟨v,hv,q⟩:=(al.mono (Kp.of s) _ _).get hd;rw[hx]at hv;cases hv;exact⟨A5.refl _,q⟩) h⟩
def J0x {K:Fg9}  {lo:Int}:YlS K (Itr lo n) (T7 lo n) H:=
 ⟨fun H' s=>(Z2y (K:=K) (H0:=H) (H:=H)).go H' (Kp.of s) s,fun H' s=>(Z2y (K:=K) (H0:=H) (H:=H)).yld H' (Kp.of s) s,fun H' s=>(Z2y (K:=K) (H0:=H) (H:=H)).stop H' (Kp.of s) s⟩
def L7.rng1 (hg:Gl X "range")(hm:X.mg "range"=none)(ha:DA X H0 [a] wr)(hs:starEach [a] X.env=[(false,eval a X.env)]:=by rfl):
  L7 X H0 tg (.Call (.Name "range" p) [a] [] pos) (fun τ Q=>wr τ fun rs=>∃j:Int,rs=[.st (.int j)]/\-(2^62)<=j/\j<2^62/\Q (T7 0 j.toNat)) where
 mono:=fun τ P Q f h=>ha.mono τ _ _ (fun r⟨j,e1,h1,h2,q⟩=>⟨j,e1,h1,h2,f _ q⟩) h
 pi:=piW (Y6z hg hm ha.pa hs) fun σ H R ⟨τ,hR,h⟩=>⟨τ,hR,ha.mono τ _ _ (fun r fW vs H1 s1 dA=>by
  obtain⟨j,e1,h1,h2,q⟩:=fW;subst e1;obtain⟨v,rfl,ir⟩:=Z6 dA;cases (show v=.int j from ir);exact⟨j,rfl,h1,h2,q _ _ s1 J0x⟩) h⟩
def Q7o {wr:O Ap}(I:?A)(k:∀b o,b∉wr->?A6=?P->h'.get? b=?P)(hf:∀b∈wr,N3 X ae H b):
  A0 X ae σ H {s with heap:=h',toks:=t'}:=by
 have lN:∀b u,H b=some u->b∉wr:=fun b u e z=>by have:=(hf b z).1;rw[e]at this;cases this
 refine I.step (g':=s.gens) (d':=s.drawn) (ch:=wr) (fun b hb=>?_) (fun b o _ _ hc e _=>k b o hc e) (fun b o _ _ hc e _=>⟨o.slots,k b o hc e⟩) (fun _ _ _ _ n=>n)
  (fun b o hc e=>⟨o,k b o hc e⟩) (fun _ _ e=>e) (fun _ _ _ e=>e) (fun b ps e=>⟨#[],by rw[e];simp⟩) (fun m hm=>?_) (fun b u e=>?_) I.bare
 ·obtain⟨_,f1,_,f3,f4,f5⟩:=hf b hb;exact⟨f3,f1,f4,f5⟩
 ·obtain⟨o,es,ep,ho,r⟩:=hm;exact⟨o,es,ep,k _ o (fun z=>(hf _ z).2.1 rfl) ho,r⟩
 ·refine(I.hok b u e).stay (fun c v hc q=>k c v ?_ q) (fun _ _ _ q=>q) fun _ _ q=>q;rcases hc with z |z
  ·rw[z];exact lN b u e
  ·exact lN c _ z
def Its (x:Str):It:=⟨fun i _=>i<x.cps.size,fun i H v H'=>H'=H/\∃c,x.cps[i]?=some c/\v=.str ⟨#[c]⟩,fun i _=>i=x.cps.size⟩
def V9o {w:Av}{K:Fg9}   {ty:String}  {t:Tok}(kw:ty="str_ascii_iterator"\/ty="str_iterator"):Q1h P w K tg (Its x) [it] it (fun i h=>h.IsStrIter it ty x t i) where
 mem:=by simp
 obj:=fun i h st b hb=>by
  have e:b=it:=by simpa using hb
  subst e;obtain⟨o,e,c,d⟩:=st;exact⟨o,e,fun v z=>by rw[d]at z;cases z⟩
 keep:=fun i h h' l5 k=>(by obtain⟨o,e,r⟩:=l5;exact⟨o,k it ?E o e,r⟩)
 item:=by
  back_in;have W:Walks X.prog X.w X.A it [it] [it] x.cps.size (SignAt x) (fun i h=>h.IsStrIter it ty x t i):=by
   rcases kw with rfl |rfl
   ·exact Walks.strAscii (I.ok.hd hc) it x t
   ·exact Walks.strWide (I.ok.hd hc) it x t
  refine W.item i s _ _ hg st fun v h' tk hv iw k=>?_;obtain⟨c,u,fe,rfl⟩:=hv;have I1:A0 X ae σ H {s with heap:=h',toks:=tk}:=Q7o I k hf;obtain⟨o,e,cl,d⟩:=id iw;refine⟨_,rfl,Q6k (s:={s with heap:=h',toks:=tk}) e cl d (by rcases kw with rfl |rfl<;>decide) ⟨.str ⟨#[c]⟩,H,I1,⟨u,rfl⟩,⟨rfl,c,fe,rfl⟩,iw,fun b hb=>(hf b hb).1⟩⟩
 done:=by
  back_in;have hg:i=x.cps.size:=hg;subst hg;have W:Walks X.prog X.w X.A it [it] [it] x.cps.size (SignAt x) (fun i h=>h.IsStrIter it ty x t i):=by
   rcases kw with rfl |rfl
   ·exact Walks.strAscii (I.ok.hd hc) it x t
   ·exact Walks.strWide (I.ok.hd hc) it x t
  exact W.done s _ _ st fun h' tk k=>⟨rfl,Q7o I k hf⟩
 self:=fun A i s Q E st h=>by
  rcases kw with rfl |rfl
  ·exact wpAny_pyIter_striter_ascii st h
  ·exact wpAny_pyIter_striter_wide st h
def K0 (x:Str):O D:=x.cps.toList.map fun c=>.str ⟨#[c]⟩
end
section
variable {b c:Aq}
def Z1z {wr:O Ap}{T:Ap}   (I:?A)(k:∀b o,b∉wr->?A6=?P->h'.get? b=?P)(hf:∀b∈wr,N3 X ae H b)
  (hT:s.heap.objs.size<=T) (ht:IsTup h' T aY.toArray) (rv:C0 xs aY) (hz:xs.length<=sizeLine):A0 X ae σ (A9 H T (.tup xs)) {s with heap:=h',toks:=t'}:=by
 have lN:∀b u,H b=some u->b∉wr:=fun b u e z=>by have:=(hf b z).1;rw[e]at this;cases this
 have yh:H T=none:=I.hok.fresh hT;have neT:∀b u,H b=some u->b≠T:=fun b u e z=>by rw[z,yh]at e;cases e
 refine I.step (g':=s.gens) (d':=s.drawn) (ch:=wr) (fun b hb=>?_) (fun b o _ _ hc e _=>k b o hc e) (fun b o _ _ hc e _=>⟨o.slots,k b o hc e⟩) (fun b o _ e n=>by rw[B2 (aB (ay (aA e) hT))];exact n)
  (fun b o hc e=>⟨o,k b o hc e⟩) (fun b _ e=>by rw[B2 (neT b _ e)];exact e) (fun b _ _ e=>by rw[B2 (neT b _ e)];exact e) (fun b ps e=>⟨#[],by rw[B2 (neT b _ e),e];simp⟩) (fun m hm=>?_) (fun b u e=>?_) I.bare
 ·obtain⟨_,f1,_,f3,f4,f5⟩:=hf b hb;exact⟨f3,f1,f4,f5⟩
 ·obtain⟨o,es,ep,ho,r⟩:=hm;exact⟨o,es,ep,k _ o (fun z=>(hf _ z).2.1 rfl) ho,r⟩
 ·by_cases hb:b=T
  ·subst hb;rw[upd_same]at e;cases e;exact⟨hz,aY,rv,ht⟩
  ·rw[B2 hb]at e;refine(I.hok b u e).stay (fun c v hc q=>k c v ?_ q) (fun c u _ q=>by rw[B2 (neT c _ q)];exact q) fun c xs q=>by rw[B2 (neT c _ q)];exact q
   rcases hc with z |z
   ·rw[z];exact lN b u e
   ·exact lN c _ z
def J9 (ds:O D):O D:=ds.zipIdx.map fun(p:D×Nat)=>.tup [.int (p.2:Int),p.1]
theorem Z0k {ds:O D}{i:Nat}{d:D}(h:(J9 ds)[i]?=some d):∃x,ds[i]?=some x/\d=.tup [.int (i:Int),x]:=by
 unfold J9 at h;rw[ah,qN]at h;cases e:ds[i]? with
 |none=>rw[e]at h;cases h
 |some x=>
  rw[e]at h;have h:D.tup [.int ((0+i:Nat):Int),x]=d:=aC h;exact⟨x,rfl,by rw[<-h,cG]⟩
def Q4d (ds:O D):(J9 ds).length=ds.length:=by simp[J9]
def Ies (x:Str):It:=⟨fun i _=>i<x.cps.size,fun i H v H'=>∃T c,x.cps[i]?=some c/\H T=none/\v=.ref T/\H'=A9 H T (.tup [.int (i:Int),.str ⟨#[c]⟩]),fun i _=>i=x.cps.size⟩
def V9j {w:Av}{K:Fg9}   {pt:Pos}   {t:Tok}(dM:en≠it):
  Q1h P w K (.Tuple gN kk pt) (Ies x) [en,it] en (fun i h=>(∃old,IsEnum h en it i old)/\h.IsStrIter it (strIterType x) x t i) where
 mem:=by simp
 obj:=fun i h st b hb=>by
  obtain⟨⟨old,he⟩,o,ho,_,d⟩:=st;rcases ar.mp hb with rfl |hb
  ·exact⟨_,he,fun v z=>by cases z⟩
  ·have e:b=it:=by simpa using hb
   subst e;exact⟨o,ho,fun v z=>by rw[d]at z;cases z⟩
 keep:=fun i h h' cy k=>(by obtain⟨⟨old,he⟩,o,ho,r⟩:=cy;exact⟨⟨old,k en ?E _ he⟩,o,k it ?E o ho,r⟩)
 item:=by
  back_in;have Dr:Draws X.prog X.w X.A.in1 it [it] x.cps.size (fun i v=>∃c u,x.cps[i]?=some c/\v=.str ⟨#[c]⟩ u) (fun i h=>h.IsStrIter it (strIterType x) x t i):=by
   unfold strIterType;split
   ·exact Draws.strAscii (A:=X.A.in1) (show X.A.in1.handled=none from I.ok.hd hc) it x t
   ·exact Draws.strWide (A:=X.A.in1) (show X.A.in1.handled=none from I.ok.hd hc) it x t
  have W:=g7 Dr en dM (by simpa using dM) ?E;have y1:∀b∈[en,it],N3 X ae H b:=hf;refine W.item i s _ _ hg st fun T je h' tk hv hT p6 lP k=>?_;obtain⟨t1,y,⟨c,u,fe,rfl⟩,rfl⟩:=hv;refine⟨_,rfl,W.go gN kk pt i T {s with heap:=h',toks:=tk} _ _ lP fun h2 fJ k2=>?_⟩;have mG:∀b o,b∉[en,it]->?A6=?P->h2.get? b=?P:=fun b o hb e=>k2 b o hb (k b o hb e);have lZ:=W.apart i T h' lP;have iR:IsTup h2 T ([Value.int (i:Int) t1,Value.str ⟨#[c]⟩ u]).toArray:=by
   obtain⟨o,ho,r⟩:=p6;exact⟨o,k2 T o lZ ho,r⟩
  have I2:=Z1z (t':=tk) (xs:=[.int (i:Int),.str ⟨#[c]⟩]) I mG y1 hT iR (.cons ⟨t1,rfl⟩ (.cons ⟨u,rfl⟩ .nil)) (by show 2<=sizeLine;decide);refine⟨.ref T,_,I2,rfl,⟨T,c,fe,I.hok.fresh hT,rfl,rfl⟩,fJ,fun b hb=>?_⟩;rw[B2 (show b≠T from fun z=>lZ (by rw[<-z];exact hb))];exact(hf b hb).1
 done:=by
  back_in;have hg:i=x.cps.size:=hg;subst hg;have Dr:Draws X.prog X.w X.A.in1 it [it] x.cps.size (fun i v=>∃c u,x.cps[i]?=some c/\v=.str ⟨#[c]⟩ u) (fun i h=>h.IsStrIter it (strIterType x) x t i):=by
   unfold strIterType;split
   ·exact Draws.strAscii (A:=X.A.in1) (show X.A.in1.handled=none from I.ok.hd hc) it x t
   ·exact Draws.strWide (A:=X.A.in1) (show X.A.in1.handled=none from I.ok.hd hc) it x t
  have W:=g7 Dr en dM (by simpa using dM) ?E;exact W.done s _ _ st fun h' tk k=>⟨rfl,Q7o I k hf⟩
 self:=fun A i s Q E cR h=>(by obtain⟨⟨old,he⟩,_⟩:=cR;exact cw he h)
def Z9q {K:Fg9}  :YlS K (Ies x) (J9 (K0 x)) H where
 go:=fun H' _ i hi=>by
  have:i<x.cps.size:=by rw[Q4d]at hi;simpa [K0]using hi
  exact this
 yld:=fun H' _ i v eR d hd dF=>by
  obtain⟨T,c,hc,hT,hv,hH⟩:=dF;subst hH hv;refine⟨G7 hT _,?_⟩;obtain⟨y,hy,rfl⟩:=Z0k hd;unfold K0 at hy;rw[ah]at hy;have:x.cps.toList[i]?=some c:=by simpa using hc
  rw[this]at hy;have e:D.str ⟨#[c]⟩=y:=aC hy;subst e;exact A2.s_tup upd_same (AllS.cons Q1g (AllS.cons Q5y AllS.nil))
 stop:=fun H' _=>by
  show(J9 (K0 x)).length=x.cps.size;rw[Q4d];simp[K0]
def Iel (K:Fg9)(l:Ap):It:=⟨fun i H=>∃xs x,E8 K H l xs/\xs[i]?=some x,fun i H v H'=>∃T x,(∀xs,E8 K H l xs->xs[i]?=some x)/\H T=none/\v=.ref T/\H'=A9 H T (.tup [.int (i:Int),x]),fun i H=>∃xs,E8 K H l xs/\xs.length=i⟩
theorem Y9z {w:Av}{K:Fg9}   {pt:Pos}  (dM:en≠it)(ij:l≠en)(oQ:l≠it):
  Q1h P w K (.Tuple gN kk pt) (Iel K l) [en,it] en (fun i h=>(∃old,IsEnum h en it i old)/\h.IsListIter it l i) where
 mem:=by simp
 obj:=fun i h st b hb=>by
  obtain⟨⟨old,he⟩,o,ho,_,d⟩:=st;rcases ar.mp hb with rfl |hb
  ·exact⟨_,he,fun v z=>by cases z⟩
  ·have e:b=it:=by simpa using hb
   subst e;exact⟨o,ho,fun v z=>by rw[d]at z;cases z⟩
 keep:=fun i h h' fM k=>(by obtain⟨⟨old,he⟩,hi⟩:=fM;exact⟨⟨old,k en ?E _ he⟩,hi.at fun o e=>k it ?E o e⟩)
 item:=by
  back_in;obtain⟨xs,x,hq,hx⟩:=hg;obtain⟨aY,rv,p,hz⟩:=I.list hq;have W:=WalksT.enumerate (prog:=X.prog) (w:=X.w) (A:=X.A) (I.ok.hd hc) en it l dM ij oQ aY.toArray;obtain⟨u,hu,ru⟩:=rv.get hx;have cm:i<aY.toArray.size:=by
   rcases b7 i aY.length with h |h
   ·simpa using h
   ·rw[az.mpr h]at hu;cases hu
  refine W.item i s _ _ cm ⟨st.1,st.2,p.isList⟩ fun T je h' tk hv hT p6 lP k=>?_;obtain⟨t1,y,hy,rfl⟩:=hv;have ey:y=u:=by
   have:aY[i]?=some y:=by simpa using hy
   rw[hu]at this;exact(aC this).symm
  subst ey;refine⟨_,rfl,W.go gN kk pt i T {s with heap:=h',toks:=tk} _ _ lP fun h2 fJ k2=>?_⟩;have mG:∀b o,b∉[en,it]->?A6=?P->h2.get? b=?P:=fun b o hb e=>k2 b o hb (k b o hb e);have lZ:=W.apart i T h' lP;have iR:IsTup h2 T ([Value.int (i:Int) t1,y]).toArray:=by
   obtain⟨o,ho,r⟩:=p6;exact⟨o,k2 T o lZ ho,r⟩
  have I2:=Z1z (t':=tk) (xs:=[.int (i:Int),x]) I mG hf hT iR (.cons ⟨t1,rfl⟩ (.cons ru .nil)) (by show 2<=sizeLine;decide);refine⟨.ref T,_,I2,rfl,⟨T,x,fun ys hy=>by rw[I.list_inj hy hq];exact hx,I.hok.fresh hT,rfl,rfl⟩,⟨fJ.1,fJ.2.1⟩,fun b hb=>?_⟩;rw[B2 (show b≠T from fun z=>lZ (by rw[<-z];exact hb))];exact(hf b hb).1
 done:=by
  back_in;obtain⟨xs,hq,hx⟩:=hg;obtain⟨aY,rv,p,hz⟩:=I.list hq;have W:=WalksT.enumerate (prog:=X.prog) (w:=X.w) (A:=X.A) (I.ok.hd hc) en it l dM ij oQ aY.toArray;have hl:=rv.length;have e:i=aY.toArray.size:=by simp;lia
  subst e;exact W.done s _ _ ⟨st.1,st.2,p.isList⟩ fun h' tk k=>⟨rfl,Q7o I k hf⟩
 self:=fun A i s Q E fL h=>(by obtain⟨⟨old,he⟩,_⟩:=fL;exact cw he h)
def J0v {K:Fg9}    {ds:O D}(sq:E8 K H l xs)(al:AllS K H ds xs):YlS K (Iel K l) (J9 ds) H where
 go:=fun H' s i hi=>by
  rw[Q4d]at hi;exact⟨xs,xs[i]'(by rw[<-al.length];exact hi),s.seq sq,ac _⟩
 yld:=fun H' s i v eR d hd fW=>by
  obtain⟨T,x,hx,hT,hv,hH⟩:=fW;subst hH hv;refine⟨G7 hT _,?_⟩;obtain⟨y,hy,rfl⟩:=Z0k hd;obtain⟨v,hv,q⟩:=al.get hy;rw[hx xs (s.seq sq)]at hv;cases hv;exact A2.s_tup upd_same (AllS.cons Q1g (AllS.cons (q.mono (Kp.of (s.trans (G7 hT _))) _ _) AllS.nil))
 stop:=fun H' s=>⟨xs,s.seq sq,by rw[Q4d];exact al.length.symm⟩
end
section
variable {a b:Aq}
def C1.mutate {K:Fg9}    {i:Nat}{ds qy:O D}{a:Ap}{og:O V}(hR:C1 K H0 τ σ H)(e1:τ[i]?=some (some (.own ds)))(hv:σ[i]?=some (some (.ref a)))(h0:H0 a=none)(sq:H a=some (.lst xs))(al:AllS K H qy og):
  C1 K H0 (τ.set i (some (.own qy))) σ (A9 H a (.lst og)):=by
 have kp:Kp H (A9 H a (.lst og)):=Q2d sq _;have hl:i<τ.length:=by
  rcases b7 i τ.length with h |h
  ·exact h
  ·rw[az.mpr h]at e1;cases e1
 have old:∀(j:Nat) (s:Sl),(τ.set i (some (.own qy)))[j]?=some (some s)->j≠i->τ[j]?=some (some s):=fun j s e hj=>by rw[aM (fun z=>hj z.symm)]at e;exact e
 have ie:∀(j:Nat) (s:Sl),(τ.set i (some (.own qy)))[j]?=some (some s)->s.mut=true->∃t,τ[j]?=some (some t)/\t.mut=true:=fun j s e m=>by
  by_cases hj:j=i
  ·subst hj;exact⟨_,e1,rfl⟩
  ·exact⟨s,old j s e hj,m⟩
 refine⟨by rw[bx];exact hR.len,fun b ob hb=>?_,fun j s e=>?_,fun j k s t v dM e2 e3 m1 m2 q1 q2=>?_⟩
 ·rw[B2 (Y5 hb h0)];exact hR.same b ob hb
 ·by_cases hj:j=i
  ·subst hj;rw[Q1j hl]at e;cases e;exact⟨_,hv,a,og,rfl,h0,upd_same,al.mono kp _ _⟩
  ·have e:=old j s e hj;obtain⟨v,q,r⟩:=hR.here j s e;refine⟨v,q,?_⟩;have ap:s.mut=true->v≠.ref a:=fun m z=>by
    subst z;exact hR.apart i j _ s (.ref a) (fun z=>hj z.symm) e1 e rfl m hv q
   cases s with
   |dat d=>exact A2.mono kp _ _ r
   |own es=>accm_mu
   |bor es=>obtain⟨b,ys,e,q,t⟩:=r;exact⟨b,ys,e,q,t.mono kp _ _⟩
   |bd es=>obtain⟨b,ys,e,q,t⟩:=r;exact⟨b,ys,e,q,t.mono kp _ _⟩
   |dk es=>accm_mu
   |dt es=>accm_mu
   |ob _=>exact r
   |cl _ _=>exact⟨r.1,r.2.2 _ _ kp r.2.1,r.2.2⟩
   |ll _ _=>exact⟨r.1,r.2.keep kp fun b φ q=>by rw[B2 (Q0k q sq (by intro z;cases z))];exact q⟩
   |ins _ _ _=>obtain⟨e,n,dx,ys,q,t⟩:=r;exact⟨e,n,dx,ys,by rw[B2 (fun z=>ap rfl (by rw[e,z]))];exact q,t.mono kp _ _⟩
 ·obtain⟨s',tN,rG⟩:=ie j s e2 m1;obtain⟨t',tM,rF⟩:=ie k t e3 m2;exact hR.apart j k s' t' v dM tN tM rG rF q1 q2
def C1.ownAt {K:Fg9}    {i:Nat}{ds:O D}(hR:C1 K H0 τ σ H)(e1:τ[i]?=some (some (.own ds))):∃a xs,σ[i]?=some (some (.ref a))/\H0 a=none/\H a=some (.lst xs)/\AllS K H ds xs:=by
 obtain⟨v,hv,a,xs,rfl,h0,sq,al⟩:=hR.here i _ e1;exact⟨a,xs,hv,h0,sq,al⟩
def M8 (i:Nat)(we:WE):WS:=fun E τ=>∃ds,τ[i]?=some (some (.own ds))/\we τ fun r=>∃d,r=.st d/\ds.length<sizeLine/\E.nx (τ.set i (some (.own (ds++[d]))))
def DS.append {i:Nat}(ho:PE X o (Q0 i))(he:DE X H0 e we)(dW:attributeBase o "append" X.env (eval o X.env)=eval o X.env:=by rfl)
  (iP:((backTo bz (starEach [e] X.env)).all (fun x=>!x.1)&&(backToKw bz (keywordEach [] X.env)).all (fun x=>x.1.isSome)&&decide ([e].length+([]:O Keyword).length+(if ([]:O Keyword).isEmpty then 0 else 1)<30))=true:=by rfl)
  (eK:(apos.endLine==bz.line)=true:=by rfl) (hs:starEach [e] X.env=(false,eval e X.env)::starEach [] X.env:=by rfl) (fj:(backTo bz (starEach [] X.env)).any (·.1)=false:=by rfl)
  (jX:swapsWith (.Call (.Attribute o "append" apos) [e] [] bz) none pos.line X.env=pure false:=by rfl):DS X H0 (.Expr (.Call (.Attribute o "append" apos) [e] [] bz) pos) (M8 i we) where
 mono:=fun τ E F le cy=>(by obtain⟨ds,e1,h⟩:=cy;exact⟨ds,e1,he.mono τ _ _ (fun r⟨d,e2,h1,h2⟩=>⟨d,e2,h1,le.nx _ h2⟩) h⟩)
 ps:=Q7 (Z6p (Z6l fF mf me V0s ho (Q1p he.pe Q4r hs) dW iP eK hs fj) jX) fun D σ H cR=>by
  obtain⟨τ,hR,ds,e1,h⟩:=cR;obtain⟨a,xs,hv,h0,sq,al⟩:=hR.ownAt e1;refine⟨_,hv,.inl ⟨rfl,_,E8.of sq⟩,τ,hR,he.mono τ _ _ (fun r mK v H1 s1 ir=>?_) h⟩;obtain⟨d,e2,h1,h2⟩:=mK;subst e2;have fB:=hR.mono s1;refine⟨a,xs,v,rfl,rfl,s1 _ _ sq,by rw[<-al.length];exact h1,h2 σ _ ((Kp.of s1).trans (Q2d (s1 _ _ sq) _)) ?_⟩;exact fB.mutate e1 hv h0 (s1 _ _ sq) ((al.mono (Kp.of s1) _ _).append (AllS.cons ir AllS.nil))
theorem DS.pop {i:Nat}{g:WG}(ho:PE X o (Q0 i))(hg:DG X H0 tg g)(dW:attributeBase o "pop" X.env (eval o X.env)=eval o X.env:=by rfl)(eK:(apos.endLine==bz.line)=true:=by rfl)
  (hs:swapsWithSole [tg] (.Call (.Attribute o "pop" apos) [] [] bz) pos.line X.env=pure false:=by rfl) (hw:swappedStores [tg] (.Call (.Attribute o "pop" apos) [] [] bz) X.env=pure none:=by rfl)
  (h1:(assignEach [tg] X.env).map (·.2)=[assign tg X.env]:=by rfl):
  DS X H0 (.Assign [tg] (.Call (.Attribute o "pop" apos) [] [] bz) pos) (fun E τ=>∃ds d,τ[i]?=some (some (.own (ds++[d])))/\g d (τ.set i (some (.own ds))) E.nx) where
 mono:=fun τ E F le⟨ds,d,e1,h⟩=>⟨ds,d,e1,hg.mono _ _ _ _ le.nx h⟩
 ps:=Q7 (Z6o (V2j fF PySem.F.slot_list_pop PySem.F.type_list_pop V0v ho dW eK) hg.pg hs hw h1) fun D σ H fL=>by
  obtain⟨τ,hR,ds,d,e1,h⟩:=fL;obtain⟨a,xs,hv,h0,sq,al⟩:=hR.ownAt e1;have hl:=al.length;rw[ao,bi]at hl;obtain⟨v,hx,iv⟩:=al.get (i:=ds.length) (d:=d) ?E;refine⟨_,hv,.inl ⟨rfl,_,E8.of sq⟩,a,xs,v,rfl,rfl,sq,by rw[show xs.length-1=ds.length by lia];exact hx,?_⟩;have kp:Kp H (A9 H a (.lst xs.dropLast)):=Q2d sq _;have tX:AllS X.K H ds xs.dropLast:=by
   have:=al.take ds.length;rw[List.take_left]at this;rw[pO,show xs.length-1=ds.length by lia];exact this
  exact⟨_,d,hR.mutate e1 hv h0 sq tX,A2.mono kp _ _ iv,hg.mono _ _ _ _ (fun τ' h σ' H' s' eO=>h σ' H' (kp.trans (Kp.of s')) eO) h⟩
def Q3k:O D->Am (O Str)
 |[]=>some []
 |.str x::r=>(Q3k r).map (x::·)
 |_::_=>none
theorem Y9l {K:Fg9}:∀{ds:O D}{ys:O Str}{xs:O V}{us:O An},Q3k ds=some ys->AllS K H ds xs->C0 xs us->StrsAre us ys
 |[],ys,xs,us,h,al,rv=>by cases h;unfold AllS at al;subst al;cases rv;exact .nil
 |.str x::r,ys,xs,us,h,al,rv=>by
  unfold AllS at al;obtain⟨v,t,rfl,iv,al⟩:=al;unfold A2 at iv;subst iv;cases rv with
  |cons r1 r2=>
   obtain⟨tk,rfl⟩:=r1;unfold Q3k at h;cases q:Q3k r with
   |none=>rw[q]at h;cases h
   |some zs=>rw[q]at h;cases h;exact .cons _ _ (Y9l q al r2)
 |.non::_,_,_,_,h,_,_=>by cases h
 |.bl _::_,_,_,_,h,_,_=>by cases h
 |.int _::_,_,_,_,h,_,_=>by cases h
 |.tup _::_,_,_,_,h,_,_=>by cases h
 |.lst _::_,_,_,_,h,_,_=>by cases h
def Z2m (wo we:WE):WE:=fun τ Q=>wo τ fun r1=>∃x,r1=.st (.str x)/\we τ fun r=>∃ds ys,Y4 r=some ds/\Q3k ds=some ys/\(ys.map (·.length)).sum+ys.length*x.length<=16777216/\Q (.st (.str (Txt.join x ys)))
def V0u:MtR X "str.join" (fun x vs H Q=>∃z l xs ds ys,x=.str z/\vs=[.ref l]/\E8 X.K H l xs/\AllS X.K H ds xs/\Q3k ds=some ys/\(ys.map (·.length)).sum+ys.length*z.length<=16777216/\Q (.str (Txt.join z ys)) H):=by
 intro ae s σ H x vs v us Q I rx rv ⟨z,l,xs,ds,ys,e1,e2,sq,al,hs,hz,q⟩;subst e1 e2;obtain⟨t,rfl⟩:=rx;obtain⟨u,rfl,ru⟩:=Z2 rv;cases (show u=Value.ref l from ru);obtain⟨aY,iy,pl,_⟩:=I.list sq;exact join_list pl.isList (by simpa using Y9l hs al iy) hz fun t' k=>⟨.str _,H,I.tok k,⟨t',rfl⟩,q⟩
def DE.join {wo:WE}(ho:DE X H0 o wo)(he:DE X H0 e we)(dW:attributeBase o "join" X.env (eval o X.env)=eval o X.env:=by rfl)
  (iP:((backTo bz (starEach [e] X.env)).all (fun x=>!x.1)&&(backToKw bz (keywordEach [] X.env)).all (fun x=>x.1.isSome)&&decide ([e].length+([]:O Keyword).length+(if ([]:O Keyword).isEmpty then 0 else 1)<30))=true:=by rfl)
  (eK:(apos.endLine==bz.line)=true:=by rfl) (hs:starEach [e] X.env=(false,eval e X.env)::starEach [] X.env:=by rfl) (fj:(backTo bz (starEach [] X.env)).any (·.1)=false:=by rfl):
  DE X H0 (.Call (.Attribute o "join" apos) [e] [] bz) (Z2m wo we) where
 mono:=fun τ P Q f h=>ho.mono τ _ _ (fun r fW=>by obtain⟨x,e1,h⟩:=fW;exact⟨x,e1,he.mono τ _ _ (fun r⟨ds,ys,a1,a2,a3,a4⟩=>⟨ds,ys,a1,a2,a3,f _ a4⟩) h⟩) h
 pe:=P7 (Z6l nO PySem.F.slot_str_join PySem.F.type_str_join V0u ho.pe (Q1p he.pe Q4r hs) dW iP eK hs fj) fun σ H Q ⟨τ,hR,h⟩=>⟨τ,hR,ho.mono τ _ _ (fun r jg v H1 s1 ir=>by
  obtain⟨x,e1,h⟩:=jg;subst e1;cases (show v=.str x from ir);refine⟨rfl,τ,hR.mono s1,he.mono τ _ _ (fun r iJ u H2 s2 iu=>?_) h⟩;obtain⟨ds,ys,a1,a2,a3,a4⟩:=iJ;obtain⟨l,xs,rfl,sq,al⟩:=Q5j a1 iu;exact⟨x,l,xs,ds,ys,rfl,rfl,sq,al,a2,a3,a4 _ _ (s1.trans s2) Z0p⟩) h⟩
end
namespace HT
open PySem PyProof.Rows
section
variable {w:Av}
def getItem_tuple_whole {t:Ap}   {lo:Am Int}  (ht:IsTup s.heap t items)(hs:s.heap.IsSliceOf sl vl vu .none)(pl:IsPart vl lo)(pu:IsPart vu hi)
  (hw:sIx items.size 0 lo=0/\sIx items.size items.size hi=items.size) (h:Q (.ref t) s):wpAny ?V A (getItem (.ref t) (.ref sl)) Q E s:=by
 obtain⟨os,jB,gS,jq⟩:=id hs;have tm:s.TypeIs (.ref sl) "slice":=⟨os,jB,gS⟩
 unfold getItem
 try with_reducible refine bD ?_
 first |refine aa (am ?_) |skip
 refine aa (wpAny_sequenceKey ht.typeIs (?G) ?_);refine aa (bU (name:=Str.ofString "__getitem__") ht.typeIs bE
  (ci bE ht.typeIs entry_tuple_getitem ?_ (args_tuple_getitem _ _)))
 show wpAny _ _ (Builtin.Tuple.tupleItemsOf (.ref t)>>=_) _ _ s;refine aa (tupleItemsOf_ ht ?_);refine aa (lA tm ?_);rw[aO (?G)];refine aa (Y8w hs pl pu ?_);have sj:((((sIx items.size 0 lo:Nat):Int)==0&&(1:Int)==1&&(sIx items.size items.size hi-sIx items.size 0 lo)==items.size)=true):=by
  rw[hw.1,hw.2];simp
 show wpAny _ _ (if (((sIx items.size 0 lo:Nat):Int)==0&&(1:Int)==1&&(sIx items.size items.size hi-sIx items.size 0 lo)==items.size)=true then _ else _) _ _ s;rw[aO sj];show wpAny _ _ ((typeOf (.ref t)>>=fun y=>pure (y==Value.type "tuple"))>>=_) _ _ s;refine aa (aa (lA ht.typeIs (am ?_)));rw[aO (?G)]
 first
  |exact aa (dw (am ⟨_,rfl,am h⟩))
  |exact aa (dw (aa (am (am ⟨_,rfl,am h⟩))))
end
end HT
def Q0g (xs:O α)(lo hi:Am Int):O α:=(xs.drop (HT.sIx xs.length 0 lo)).take (HT.sIx xs.length xs.length hi-HT.sIx xs.length 0 lo)
def Z4k {K:Fg9}  {ds:O D}  (al:AllS K H ds xs)(lo hi:Am Int):AllS K H (Q0g ds lo hi) (Q1i xs lo hi):=by
 unfold Q0g Q1i;rw[<-al.length];exact(al.drop _).take _
section
variable {a:Aq}{p2:Pos}{lo hi:Am Aq}
def V7w:SlR X (fun x lo hi H Q=>∃a xs,x=.ref a/\H a=some (.tup xs)/\((¬ (HT.sIx xs.length 0 lo=0/\HT.sIx xs.length xs.length hi=xs.length))->∀p,H p=none->Q (.ref p) (A9 H p (.tup (Q1i xs lo hi))))/\((HT.sIx xs.length 0 lo=0/\HT.sIx xs.length xs.length hi=xs.length)->Q (.ref a) H)):=by
 intro ae s σ H x v vl vu lo hi sl Q I rx hs pl pu h;obtain⟨a,xs,rfl,hx,q1,q2⟩:=h
 by_cases hw:HT.sIx xs.length 0 lo=0/\HT.sIx xs.length xs.length hi=xs.length
 ·cases rx;obtain⟨aY,r,ht,hz⟩:=I.tuple (D9.of hx);have cp:aY.toArray.size=xs.length:=by rw[aH];exact r.length.symm
  exact⟨"tuple",_,bE.lookup,ht.typeIs,HT.getItem_tuple_whole ht hs pl pu (by rw[cp];exact hw) ⟨.ref a,H,I,rfl,q2 hw⟩⟩
 ·exact V7v ae s σ H _ v vl vu lo hi sl Q I rx hs pl pu ⟨a,xs,rfl,D9.of hx,hw,q1 hw⟩
def W5y {lo hi:Am Int}(h:HT.sIx xs.length 0 lo=0/\HT.sIx xs.length xs.length hi=xs.length):Q1i xs lo hi=xs:=by
 unfold Q1i;rw[h.1,h.2];simp
abbrev WO:=C3->(Am Int->Prop)->Prop
def W9l (K:Fg9)(H0:Hp)(w:WO):TO:=fun σ H Q=>∃ τ,C1 K H0 τ σ H/\w τ fun o=>∀H',A5 H H'->Q o H'
structure DO (X:Cx)(H0:Hp)(e:Am Aq)(w:WO):Prop where
 mono:∀(τ:C3) (P Q:Am Int->Prop),(∀r,P r->Q r)->w τ P->w τ Q
 po:PO X e (W9l X.K H0 w)
def DO.none:DO X H0 none (fun _ Q=>Q none):=⟨fun _ _ _ f h=>f _ h,fun ae s σ H Q I⟨τ,hR,h⟩=>V3q ae s σ H Q I (h H (A5.refl H))⟩
def Q3c:R->(Int->Prop)->Prop
 |.st (.int i),Q=>Q i
 |_,_=>False
def Z0o {r:R}{P:Int->Prop}(h:Q3c r P):∃i,r=.st (.int i)/\P i:=by
 unfold Q3c at h;split at h
 ·exact⟨_,rfl,h⟩
 ·exact h.elim
def DO.some (he:DE X H0 e we):DO X H0 (some e) (fun τ Q=>we τ fun r=>Q3c r fun i=>Q (some i)) where
 mono:=fun τ P Q f h=>he.mono τ _ _ (fun r h=>by obtain⟨i,rfl,q⟩:=Z0o h;exact f _ q) h
 po:=fun ae s σ H Q I ⟨τ,hR,h⟩=>V3r he.pe ae s σ H Q I ⟨τ,hR,he.mono τ _ _ (fun r h v H1 s1 ir=>by
  obtain⟨i,rfl,q⟩:=Z0o h;exact⟨i,ir,q H1 s1⟩) h⟩
def slD (x:R)(lo hi:Am Int)(Q:R->Prop):Prop:=match x with
 |.st (.tup ds)=>Q (.st (.tup (Q0g ds lo hi)))
 |.st (.lst ds)=>Q (.nw (Q0g ds lo hi))
 |.nw ds=>Q (.nw (Q0g ds lo hi))
 |.bw ds=>Q (.nw (Q0g ds lo hi))
 |.st (.str z)=>z.length<=sizeLine/\Q (.st (.str (Txt.slice z lo hi)))
 |_=>False
def V7s {x:R}{lo hi:Am Int}{P Q:R->Prop}(f:∀r,P r->Q r)(h:slD x lo hi P):slD x lo hi Q:=by
 unfold slD at h ⊢;split at h<;>first |exact f _ h |exact⟨h.1,f _ h.2⟩ |exact h
theorem V7u:SlR X (fun x lo hi H Q=>∃z,x=.str z/\z.length<=sizeLine/\Q (.str (Txt.slice z lo hi)) H):=by
 intro ae s σ H x v vl vu lo hi sl Q I rx hs pl pu h;obtain⟨z,rfl,hz,q⟩:=h;obtain⟨t,rfl⟩:=rx;refine⟨"str",_,PySem.F.slot_str_getitem.lookup,typeIs_str _ _ _,?_⟩;obtain⟨os,jB,gS,jq⟩:=id hs;have fin:∀(t':Tok) (k:Nat),EP X ae σ Q (.str (Txt.slice z lo hi) t') {s with toks:=k}:=fun t' k=>⟨.str _,H,I.tok k,⟨t',rfl⟩,q⟩
 cases pl with
 |none=>
  cases pu with
  |none=>exact dR (l:=none) (u:=none) (st:=none) ⟨_,jB,gS,jq⟩ rfl (gW ⟨aU (lD z _ _) hz,fin⟩)
  |int j uj=>exact dR (l:=none) (u:=some (j,uj)) (st:=none) ⟨_,jB,gS,jq⟩ rfl (gW ⟨aU (lD z _ _) hz,fin⟩)
 |int i ui=>
  cases pu with
  |none=>exact dR (l:=some (i,ui)) (u:=none) (st:=none) ⟨_,jB,gS,jq⟩ rfl (gW ⟨aU (lD z _ _) hz,fin⟩)
  |int j uj=>exact dR (l:=some (i,ui)) (u:=some (j,uj)) (st:=none) ⟨_,jB,gS,jq⟩ rfl (gW ⟨aU (lD z _ _) hz,fin⟩)
variable {wl wh:WO}
def DE.slice (he:DE X H0 e we)(hl:DO X H0 lo wl)(hh:DO X H0 hi wh):DE X H0 (.Subscript e (.Slice lo hi none p2) pos) (fun τ Q=>we τ fun x=>wl τ fun l=>wh τ fun u=>slD x l u Q) where
 mono:=fun τ P Q f h=>he.mono τ _ _ (fun x h=>hl.mono τ _ _ (fun l h=>hh.mono τ _ _ (fun u h=>V7s f h) h) h) h
 pe:=by
  refine P7 (V3e (V7w.or (V7t.or V7u)) he.pe hl.po hh.po) fun σ H Q ⟨τ,hR,h⟩=>⟨τ,hR,he.mono τ _ _ (fun x h v H1 s1 ir=>⟨τ,hR.mono s1,hl.mono τ _ _ (fun l h H2 s2=>⟨τ,hR.mono (s1.trans s2),hh.mono τ _ _ (fun u h H3 s3=>?_) h⟩) h⟩) h⟩
  have ir:=ir.mono (s2.trans s3);have om:=s1.trans (s2.trans s3);have lists:∀ds,Y4 x=some ds->(∀r,r=R.nw (Q0g ds l u)->∀v H',A5 H H'->E7 X.K H H' r v->Q v H')->rSlL X.K v l u H3 Q:=fun ds e1 q=>by
   obtain⟨p,xs,rfl,sq,al⟩:=Q5j e1 ir;exact⟨p,xs,rfl,sq,fun p' hp=>q _ rfl _ _ (om.trans (G7 hp _)) ⟨p',_,rfl,om.free hp,upd_same,(Z4k al l u).mono (Kp.of (G7 hp _)) _ _⟩⟩
  unfold slD at h;split at h
  ·have ir:A2 X.K H3 (.tup _) v:=ir;unfold A2 at ir;obtain⟨p,xs,rfl,sq,al⟩:=ir;refine .inl ⟨p,xs,rfl,sq,fun _ p' hp=>h _ _ (om.trans (G7 hp _)) (A2.s_tup (K:=X.K) upd_same ((Z4k al l u).mono (Kp.of (G7 hp _)) _ _)),fun hw=>h _ _ om (A2.s_tup (K:=X.K) (H:=H3) sq ?_)⟩;have:=Z4k al l u;rw[W5y hw]at this;exact this
  ·exact .inr (.inl (lists _ rfl fun r e1=>by subst e1;exact h))
  ·exact .inr (.inl (lists _ rfl fun r e1=>by subst e1;exact h))
  ·exact .inr (.inl (lists _ rfl fun r e1=>by subst e1;exact h))
  ·cases (show v=.str _ from ir);exact .inr (.inr ⟨_,rfl,h.1,h.2 _ _ om Z0p⟩)
  ·exact h.elim
def DE.neg (he:DE X H0 e we):DE X H0 (.UnaryOp .USub e pos) (fun τ Q=>we τ fun r=>Q3c r fun i=>Q (.st (.int (-i)))) where
 mono:=fun τ P Q f h=>he.mono τ _ _ (fun r h=>by obtain⟨i,rfl,q⟩:=Z0o h;exact f _ q) h
 pe:=P7 (V3h V9s he.pe) fun σ H Q ⟨τ,hR,h⟩=>⟨τ,hR,he.mono τ _ _ (fun r h v H1 s1 ir=>by
  obtain⟨i,rfl,q⟩:=Z0o h;exact⟨i,ir,q _ _ s1 Z7⟩) h⟩
end
def W2b {z:Str}(hg:Gl X x)(hm:∃t,X.mg x=some (.str z t))(hd:?Q:=by decide):DE X H0 (.Name x pos) (wC (.str z)):=by
 obtain⟨t,hm⟩:=hm;exact Q7u (V2s (v:=.str z) hg hm ⟨t,rfl⟩ hd) fun _ _=>Q5y
def Z3 (i:Nat)(g:R->R->(R->Prop)->Prop)(we:WE):WS:=fun E τ=>∃s,τ[i]?=some (some s)/\we τ fun y=>g (S4 s) y fun r=>V1 r fun s'=>E.nx (τ.set i (some s'))
def Q9s {i:Nat}{op:Operator}{g:R->R->(R->Prop)->Prop}(ho:OpD X (inplaceOp op) g)(mg:Q0c g)(he:DE X H0 e we)(hN:X.N.Nodup)(hi:X.N[i]?=some x)(hx:Loc X.env.scope x)
  (hf:?J:=by sleep 1):DS X H0 (.AugAssign (.Name x cf) op e pos) (Z3 i g we) where
 mono:=fun τ E F le⟨s,e1,h⟩=>⟨s,e1,he.mono τ _ _ (fun y h=>mg _ _ _ _ (fun r h=>Z7s (fun s h=>le.nx _ h) h) h) h⟩
 ps:=Q7 (V3v hN hi hx he.pe ho hf) fun D σ H dF=>by
  obtain⟨τ,hR,s,e1,h⟩:=dF;obtain⟨v,hv,q⟩:=hR.here i s e1;refine⟨v,hv,τ,hR,he.mono τ _ _ (fun y h u H1 s1 iu=>?_) h⟩;have iv:IsV X.K H1 (S4 s) v:=(Z4.rd (Hs:=fun _=>none) hR.same q).mono s1;refine⟨S4 s,y,iv,iu.v,mg _ _ _ _ (fun r h z H2 s2 iz=>?_) h⟩;obtain⟨s',p,eO⟩:=(hR.mono s1).store (i:=i) s2 iz h;exact p _ _ (Kp.of (s1.trans s2)) eO
def Y6o:OpD X (inplaceOp .Add) (J1 NoC fun i j=>i+j):=Y1d W7x
def Y6p:OpD X (inplaceOp .Sub) (J1 NoC fun i j=>i-j):=Y1d W7y
def blkB (sc:Scope)(N0:O Str)(scope:Scope)(N:O Str)(nt:Nat)(cap:?N):Bool:=
 decide (scope.kind=.function)&&scope.names.all (fun y=>y.2 != .cell)&&scope.names.all (fun y=>y.2 != .local||scope.names.lookup y.1==some .local) &&
 scope.names.all (fun y=>y.2 != .free||scope.names.lookup y.1==some .free)&&scope.names.all (fun y=>y.2 != .free||sc.names.lookup y.1==some .cell||sc.names.lookup y.1==some .free) &&
 decide (N.length=nt+cap.length)&&(List.range cap.length).all (fun j=>match cap[j]?,N[nt+j]? with |some i,some x=>N0[i]?==some x&&scope.names.contains (x,NameKind.free) |_,_=>false)
def T3 {N0:O Str}   {nt:Nat}  (h1:X.env.scope=sc)(h2:X.N=N0)(h:blkB sc N0 scope N nt cap=true):Blk X scope N nt cap:=by
 subst h1 h2;unfold blkB at h;simp only[ce]at h;obtain⟨⟨⟨⟨⟨⟨a1,a2⟩,a3⟩,a4⟩,a5⟩,a6⟩,a7⟩:=h;refine⟨fu a1,fun y hy=>?_,fun y hy e=>?_,fun y hy e=>?_,fun y hy e=>?_,fu a6,fun j i x hj hx=>?_⟩
 ·simpa using cc.mp a2 y hy
 ·have:=cc.mp a3 y hy;rw[e]at this;simpa using this
 ·have:=cc.mp a4 y hy;rw[e]at this;simpa using this
 ·have:=cc.mp a5 y hy;rw[e]at this;have this:X.env.scope.names.lookup y.1=some .cell\/X.env.scope.names.lookup y.1=some .free:=by simpa using this
  exact this
 ·have cm:j<cap.length:=by
   rcases b7 j cap.length with h |h
   ·exact h
   ·rw[az.mpr h]at hj;cases hj
  have:=cc.mp a7 j (aL.mpr cm);rw[hj,hx]at this;simpa using this
theorem Q5g {k:Nat}(hr:E1 k A):A.units+60<cLine:=by have:=hr.units;lia
theorem Q2g {k:Nat}(hr:E1 k A):A.units+1<cLine:=by have:=hr.units;lia
def B4 (we:WE):WE:=fun τ Q=>we τ fun r=>fzR r fun d=>Q (.st d)
def wB (t:WT):WE:=fun τ Q=>t τ fun k=>Q (.st (.bl k))
def Q3m (we:WE):WT:=fun τ Q=>we τ fun r=>Q4v r Q
def Z1d:WO:=fun _ Q=>Q none
def Z1e (we:WE):WO:=fun τ Q=>we τ fun r=>Q3c r fun i=>Q (some i)
def wSl (we:WE)(wl wh:WO):WE:=fun τ Q=>we τ fun x=>wl τ fun l=>wh τ fun u=>slD x l u Q
def Q0q (we:WE):WE:=fun τ Q=>we τ fun r=>Q3c r fun i=>Q (.st (.int (-i)))
def S0:WT:=fun _ Q=>Q true
def Q5h (we:WE):WI:=fun τ Q=>we τ fun r=>∃ds,r=.st (.lst ds)/\Q ds τ
def iOwn (i:Nat):WI:=fun τ Q=>∃ds,τ[i]?=some (some (.own ds))/\Q ds (τ.set i (some (.dat (.lst ds))))
def Z5f (we:WE):WI:=fun τ Q=>we τ fun r=>∃ds,r=.st (.tup ds)/\Q ds τ
def Q4f (wr:WA):WI:=fun τ Q=>wr τ fun rs=>∃j:Int,rs=[.st (.int j)]/\-(2^62)<=j/\j<2^62/\Q (T7 0 j.toNat) τ
def Q4h (we:WE):WIE:=fun τ Q=>we τ fun r=>∃ds,Y4 r=some ds/\Q ds
def Q0z (we:WE):WIE:=fun τ Q=>we τ fun r=>∃ds,r=.st (.tup ds)/\Q ds
def Q6n (wr:WA):WIE:=fun τ Q=>wr τ fun rs=>∃j:Int,rs=[.st (.int j)]/\-(2^62)<=j/\j<2^62/\Q (T7 0 j.toNat)
def Q8 (wi:WI)(g:WG)(wb:WS):WS:=fun E τ=>wi τ fun ds τ'=>E4 g wb E ds τ'
def Q4w (we:WE)(g:WG):WS:=fun E τ=>we τ fun r=>∃d,r=.st d/\g d τ E.nx
def Z8q (i:Nat)(g:WG):WS:=fun E τ=>∃ds d,τ[i]?=some (some (.own (ds++[d])))/\g d (τ.set i (some (.own ds))) E.nx
def Q9l (i:Nat):WS:=fun E τ=>∃s,τ[i]?=some (some s)/\Q3g s E.rt
structure Df (K:Fg9)(mg:Str->Am An)(name:Str)(st:Aw)(ps:O Str)(f:Ap)(fd:At):Prop where
 F:Fun K name name st f fd
 b:S8 K fd ps []
 k:PySem.W.keepIn K (.ref f)=true
 m:mg name=some (.ref f)
abbrev FnD (P:Au)(w:Av)(K:Fg9)(mg:Str->Am An)(base:Heap)(k:Nat)(f:Ap)(fd:At)(ps:O Str)(sp:E3):Prop:=O3 P w K mg base G3 k f fd ps (Q4k K ps.length sp)
def S9 (r:R):F9:={nx:=fun _=>r=.st .non,rt:=fun r'=>r'=r,bk:=fun _=>False,ct:=fun _=>False}
section
variable {w:Av}{K:Fg9}
def Df.ok {k:Nat}   (F:Df K mg x st ps f fd)(S:T9 N ps (B8 st))
  (bS:∀(cdv:An) (A:As) (outer:O Env) (s:Ao) (H:Hp) (E:XK),E1 k (A.deeper (envOfC x (B8 st) s.heap.objs.size f cdv))->A7 (K4 G3 P w K mg base N x (B8 st) f cdv A outer s H E).nox H (K6 st) ws)
  (hr:∀rs r,rs.length=ps.length->sp rs r->ws (S9 r) (E2 N rs)):FnD P w K mg base (k+1) f fd ps sp:=
 Fun.okD F.F S fun cdv A outer s H E oH=>⟨ws,bS cdv A outer s H E oH,hr⟩
end
section
variable {E:F9}{Q:R->Prop}{t u:WT}{wt:WS}{i j:Int}{y:Str}{ds es:O D}{d e:D}
@[simp] theorem D6:A6 ws wt E τ=ws {E with nx:=wt E} τ:=rfl
@[simp] theorem Z0:M9 E τ=E.nx τ:=rfl
@[simp] theorem Y9:N7 t ws wt E τ=t τ fun k=>if k=true then ws E τ else wt E τ:=rfl
@[simp] theorem P9:J3 we E τ=we τ fun r=>Q6z r E.rt:=rfl
@[simp] theorem Y8g:Q9l n E τ=∃s,τ[n]?=some (some s)/\Q3g s E.rt:=rfl
@[simp] theorem G1:C2 n we E τ=we τ fun r=>V1 r fun s=>E.nx (τ.set n (some s)):=rfl
@[simp] theorem Q7c {g:R->R->(R->Prop)->Prop}:Z3 n g we E τ=∃s,τ[n]?=some (some s)/\we τ fun y=>g (S4 s) y fun r=>V1 r fun s'=>E.nx (τ.set n (some s')):=rfl
@[simp] theorem Q7b {g:WG}:Q4w we g E τ=we τ fun r=>∃d,r=.st d/\g d τ E.nx:=rfl
@[simp] theorem V7d {g:WG}:Z8q n g E τ=∃ds d,τ[n]?=some (some (.own (ds++[d])))/\g d (τ.set n (some (.own ds))) E.nx:=rfl
@[simp] theorem Q1s:M8 n we E τ=∃ds,τ[n]?=some (some (.own ds))/\we τ fun r=>∃d,r=.st d/\ds.length<sizeLine/\E.nx (τ.set n (some (.own (ds++[d])))):=rfl
@[simp] theorem Y8 {wi:WI}{g:WG}:Q8 wi g ws E τ=wi τ fun ds τ'=>E4 g ws E ds τ':=rfl
@[simp] theorem B0:wV n τ Q=∃s,τ[n]?=some (some s)/\Q (S4 s):=rfl
@[simp] theorem D5:wC d τ Q=Q (.st d):=rfl
@[simp] theorem C8 {g:R->R->(α->Prop)->Prop}{Q:α->Prop}:A3 g wa wb τ Q=wa τ fun x=>wb τ fun y=>g x y Q:=rfl
@[simp] theorem s_b:wB t τ Q=t τ fun k=>Q (.st (.bl k)):=rfl
@[simp] theorem Q7e:Q3m we τ QB=we τ fun r=>Q4v r QB:=rfl
@[simp] theorem Y7s:Q5s t u τ QB=t τ fun k=>if k=true then u τ QB else QB false:=rfl
@[simp] theorem s_or:wOr t u τ QB=t τ fun k=>if k=true then QB true else u τ QB:=rfl
@[simp] theorem Y8e:Q9j t τ QB=t τ fun k=>QB (!k):=rfl
@[simp] theorem Y8f:Q9k wa wb τ Q=wa τ fun r=>blR r fun k=>if k=true then Q (.st (.bl true))else wb τ Q:=rfl
@[simp] theorem Y8a:wIf t wa wb τ Q=t τ fun k=>if k=true then wa τ Q else wb τ Q:=rfl
@[simp] theorem C6 {Q:O R->Prop}:A4 τ Q=Q []:=rfl
@[simp] theorem C7 {Q:O R->Prop}:A1 we wr τ Q=we τ fun r=>wr τ fun rs=>Q (r::rs):=rfl
@[simp] theorem s_tup:X6 wr τ Q=wr τ fun rs=>∃ds,Q1y rs=some ds/\ds.length<=sizeLine/\Q (.st (.tup ds)):=rfl
@[simp] theorem s_lst:S7 wr τ Q=wr τ fun rs=>∃ds,Q1y rs=some ds/\ds.length<=sizeLine/\Q (.nw ds):=rfl
@[simp] theorem F4:B4 we τ Q=we τ fun r=>fzR r fun d=>Q (.st d):=rfl
@[simp] theorem K9 {g:O R->(R->Prop)->Prop}:D8 g wr τ Q=wr τ fun rs=>g rs Q:=rfl
@[simp] theorem R9:J8 sp wr τ Q=wr τ fun rs=>rs.all L8=true/\∃r,sp (rs.map nrm) r/\Q r:=rfl
@[simp] theorem s_sl {wl wh:WO}:wSl we wl wh τ Q=we τ fun x=>wl τ fun l=>wh τ fun u=>slD x l u Q:=rfl
@[simp] theorem s_oN {Q:Am Int->Prop}:Z1d τ Q=Q none:=rfl
@[simp] theorem s_oS {Q:Am Int->Prop}:Z1e we τ Q=we τ fun r=>Q3c r fun i=>Q (some i):=rfl
@[simp] theorem Q5o:Q0q we τ Q=we τ fun r=>Q3c r fun i=>Q (.st (.int (-i))):=rfl
@[simp] theorem V7h:S0 τ QB=QB true:=rfl
@[simp] theorem Y7 {g:WG}:Q1 n cap wi g t we τ Q=wi τ fun ds=>ds.length<=sizeLine/\M7 g t we ds (T1 n cap τ) fun es=>Q (.nw es):=rfl
@[simp] theorem Y8c:Z2m wa we τ Q=wa τ fun r1=>∃x,r1=.st (.str x)/\we τ fun r=>∃ds ys,Y4 r=some ds/\Q3k ds=some ys/\(ys.map (·.length)).sum+ys.length*x.length<=16777216/\Q (.st (.str (Txt.join x ys))):=rfl
@[simp] theorem O0 {Q:C3->Prop}:B6 n d τ Q=Q (τ.set n (some (.dat d))):=rfl
@[simp] theorem Q1u {Q:C3->Prop}:Q4 ds τ Q=(ds=[]/\Q τ):=rfl
@[simp] theorem Q1t {g:WG}  {Q:C3->Prop}:F7 g gs ds τ Q=∃d r,ds=d::r/\g d τ fun τ'=>gs r τ' Q:=rfl
@[simp] theorem Q1v {Q:C3->Prop}:P3 n gs d τ Q=∃ds,d=.tup ds/\ds.length=n/\gs ds τ Q:=rfl
@[simp] theorem Z6x {Q:O D->C3->Prop}:Q5h we τ Q=we τ fun r=>∃ds,r=.st (.lst ds)/\Q ds τ:=rfl
@[simp] theorem V6q {Q:O D->C3->Prop}:Z5f we τ Q=we τ fun r=>∃ds,r=.st (.tup ds)/\Q ds τ:=rfl
@[simp] theorem Z6y {Q:O D->C3->Prop}:Q4f wr τ Q=wr τ fun rs=>∃j:Int,rs=[.st (.int j)]/\-(2^62)<=j/\j<2^62/\Q (T7 0 j.toNat) τ:=rfl
@[simp] theorem Q9c {Q:O D->Prop}:Q4h we τ Q=we τ fun r=>∃ds,Y4 r=some ds/\Q ds:=rfl
@[simp] theorem Z1m {Q:O D->Prop}:Q6n wr τ Q=wr τ fun rs=>∃j:Int,rs=[.st (.int j)]/\-(2^62)<=j/\j<2^62/\Q (T7 0 j.toNat):=rfl
@[simp] theorem Q6:S4 (.dat d)=.st d:=rfl
@[simp] theorem X3:S4 (.own ds)=.bw ds:=rfl
@[simp] theorem V1k:S4 (.bor ds)=.bw ds:=rfl
@[simp] theorem o_sl1:M5 (.st d)=.dat d:=rfl
@[simp] theorem o_sl2:M5 (.bw ds)=.bor ds:=rfl
@[simp] theorem V1l:Q6z (.st d) Q=Q (.st d):=rfl
@[simp] theorem J5 {P:Sl->Prop}:V1 (.st d) P=P (.dat d):=rfl
@[simp] theorem X4 {P:Sl->Prop}:V1 (.nw ds) P=P (.own ds):=rfl
@[simp] theorem Q1o {P:D->Prop}:fzR (.st d) P=P d:=rfl
@[simp] theorem Y6k {P:D->Prop}:fzR (.nw ds) P=P (.lst ds):=rfl
@[simp] theorem o_bl {b:Bool}:blR (.st (.bl b)) QB=QB b:=rfl
@[simp] theorem Q5l {P:Int->Prop}:Q3c (.st (.int i)) P=P i:=rfl
@[simp] theorem o_d1:R.d (.st d)=some d:=rfl
@[simp] theorem o_d2:R.d (.nw ds)=some (.lst ds):=rfl
@[simp] theorem o_d3:R.d (.bw ds)=some (.lst ds):=rfl
@[simp] theorem o_nrm1:nrm (.st d)=.st d:=rfl
@[simp] theorem o_nrm2:nrm (.nw ds)=.bw ds:=rfl
@[simp] theorem o_nrm3:nrm (.bw ds)=.bw ds:=rfl
@[simp] theorem o_arg1:L8 (.st d)=true:=rfl
@[simp] theorem o_arg2:L8 (.nw ds)=true:=rfl
@[simp] theorem o_arg3:L8 (.bw ds)=true:=rfl
@[simp] theorem V1j:Y4 (.st (.lst ds))=some ds:=rfl
@[simp] theorem o_sa0:Q1y []=some []:=rfl
@[simp] theorem o_sa1 {rs:O R}:Q1y (.st d::rs)=(Q1y rs).map (d::·):=rfl
@[simp] theorem Y6:G2 (.st (.int i)) (.st (.int j)) Q=Q (.st (.int (i+j))):=rfl
@[simp] theorem V1f:G2 (.st (.str x)) (.st (.str y)) Q=(x.length+y.length<=sizeLine/\Q (.st (.str (x++y)))):=rfl
@[simp] theorem Y6m:W4 (.st (.int i)) (.st (.int j)) Q=(Q3n i j/\Q (.st (.int (i*j)))):=rfl
@[simp] theorem Q6w {C:Int->Int->Prop}{f:Int->Int->Int}:J1 C f (.st (.int i)) (.st (.int j)) Q=(C i j/\Q (.st (.int (f i j)))):=rfl
@[simp] theorem Q0l {f:Int->Int->Bool}:K8 f (.st (.int i)) (.st (.int j)) QB=QB (f i j):=rfl
@[simp] theorem Q8x:A8 (.st (.lst ds)) (.st (.int i)) Q=∃d,L9 ds i=some d/\Q (.st d):=rfl
@[simp] theorem Y6l:A8 (.nw ds) (.st (.int i)) Q=∃d,L9 ds i=some d/\Q (.st d):=rfl
@[simp] theorem Q1c:A8 (.bw ds) (.st (.int i)) Q=∃d,L9 ds i=some d/\Q (.st d):=rfl
@[simp] theorem Z6f:A8 (.st (.tup ds)) (.st (.int i)) Q=∃d,L9 ds i=some d/\Q (.st d):=rfl
@[simp] theorem V1h:F2 [.st (.lst ds)] Q=Q (.st (.int ds.length)):=rfl
@[simp] theorem V1i:F2 [.st (.tup ds)] Q=Q (.st (.int ds.length)):=rfl
@[simp] theorem o_len3:F2 [.nw ds] Q=Q (.st (.int ds.length)):=rfl
@[simp] theorem Q0m:F2 [.bw ds] Q=Q (.st (.int ds.length)):=rfl
@[simp] theorem Z1f:F2 [.st (.str x)] Q=(x.length<=sizeLine/\Q (.st (.int x.length))):=rfl
@[simp] theorem o_eq {r1 r2:R}{b:Bool}:T5 n b r1 r2 QB=∃d e,r1.d=some d/\r2.d=some e/\d.depth<=n/\QB (if b then !D.eq d e else D.eq d e):=rfl
@[simp] theorem V1m {lo:Am Int}:slD (.st (.tup ds)) lo hi Q=Q (.st (.tup (Q0g ds lo hi))):=rfl
@[simp] theorem Z6g {b:Bool}:Q4v (.st (.bl b)) QB=QB b:=rfl
@[simp] theorem o_e1:D.eq (.int i) (.int j)=(i==j):=by simp[D.eq]
@[simp] theorem o_e2:D.eq (.str x) (.str y)=(x==y):=by simp[D.eq]
@[simp] theorem o_e3 {b c:Bool}:D.eq (.bl b) (.bl c)=(b==c):=by simp[D.eq]
@[simp] theorem o_e4:D.eq (.lst ds) (.lst es)=Dqeqs ds es:=by simp[D.eq]
@[simp] theorem o_e5:D.eq (.tup ds) (.tup es)=Dqeqs ds es:=by simp[D.eq]
@[simp] theorem o_eN:Dqeqs ds []=ds.isEmpty:=by cases ds<;>simp[Dqeqs]
@[simp] theorem V1g {r r':R}:(S9 r).rt r'=(r'=r):=rfl
@[simp] theorem o_endn {r:R}:(S9 r).nx τ=(r=.st .non):=rfl
@[simp] theorem o_dep0:D.depth (.int i)=0:=by simp[D.depth]
@[simp] theorem o_dep1:D.depth (.str x)=0:=by simp[D.depth]
@[simp] theorem o_zl:(0:Nat)<=sizeLine:=bj _
@[simp] theorem J1g {rs:O R}:E2 N rs=rs.map (fun r=>some (M5 r))++List.replicate (N.length-rs.length) none:=rfl
end
section
open PySem.SeqAt
theorem hu59 {k:Nat}(hr:E1 k A):A.units+59+1<cLine:=by have:=hr.units;lia
end
section
variable {b c:Aq}
def Q8n (x y:Str):Am Nat:=(Builtin.Str.occurrences x y 0 x.length 1).head?
def Q7s (wo we:WE):WE:=fun τ Q=>wo τ fun r1=>∃x,r1=.st (.str x)/\we τ fun r=>∃y i,r=.st (.str y)/\Q8n x y=some i/\Q (.st (.int (i:Int)))
theorem V0t:MtR X "str.index" (fun x vs H Q=>∃z y i,x=.str z/\vs=[.str y]/\Q8n z y=some i/\Q (.int (i:Int)) H):=by
 intro ae s σ H x vs v us Q I rx rv ⟨z,y,i,e1,e2,hi,q⟩;subst e1 e2;obtain⟨t,rfl⟩:=rx;obtain⟨u,rfl,t',rfl⟩:=Z2 rv;unfold Q8n at hi;cases ho:Builtin.Str.occurrences z y 0 z.length 1 with
 |nil=>rw[ho]at hi;cases hi
 |cons j rest=>
  rw[ho]at hi;have hi:some j=some i:=hi;cases hi;exact PySem.SC.index ho ⟨.int _,H,I.tok _,⟨_,rfl⟩,q⟩
def DE.index {wo:WE}(ho:DE X H0 o wo)(he:DE X H0 e we)(dW:attributeBase o "index" X.env (eval o X.env)=eval o X.env:=by rfl)
  (iP:((backTo bz (starEach [e] X.env)).all (fun x=>!x.1)&&(backToKw bz (keywordEach [] X.env)).all (fun x=>x.1.isSome)&&decide ([e].length+([]:O Keyword).length+(if ([]:O Keyword).isEmpty then 0 else 1)<30))=true:=by rfl)
  (eK:(apos.endLine==bz.line)=true:=by rfl) (hs:starEach [e] X.env=(false,eval e X.env)::starEach [] X.env:=by rfl) (fj:(backTo bz (starEach [] X.env)).any (·.1)=false:=by rfl):
  DE X H0 (.Call (.Attribute o "index" apos) [e] [] bz) (Q7s wo we) where
 mono:=fun τ P Q f h=>ho.mono τ _ _ (fun r fL=>(by obtain⟨x,e1,h⟩:=fL;exact⟨x,e1,he.mono τ _ _ (fun r⟨y,i,a1,a2,a3⟩=>⟨y,i,a1,a2,f _ a3⟩) h⟩)) h
 pe:=P7 (Z6l nO PySem.F.slot_str_index PySem.F.type_str_index V0t ho.pe (Q1p he.pe Q4r hs) dW iP eK hs fj) fun σ H Q ⟨τ,hR,h⟩=>⟨τ,hR,ho.mono τ _ _ (fun r jh v H1 s1 ir=>by
  obtain⟨x,e1,h⟩:=jh;subst e1;cases (show v=.str x from ir);refine⟨rfl,τ,hR.mono s1,he.mono τ _ _ (fun r mJ u H2 s2 iu=>?_) h⟩;obtain⟨y,i,a1,a2,a3⟩:=mJ;subst a1;cases (show u=.str y from iu);exact⟨x,y,i,rfl,rfl,a2,a3 _ _ (s1.trans s2) Z7⟩) h⟩
def Z5e (we:WE):WI:=fun τ Q=>we τ fun r=>∃x,r=.st (.str x)/\Q (K0 x) τ
def J0u {K:Fg9}  :Yl K H0 (Its x) (K0 x) H where
 go:=fun H' _ _ i hi=>by
  have:i<x.cps.size:=by simpa [K0]using hi
  exact this
 yld:=fun H' _ _ i v eR d hd jg=>by
  obtain⟨e,c,hc,hv⟩:=jg;subst e hv;refine⟨A5.refl _,?_⟩;unfold K0 at hd;rw[ah]at hd;have:x.cps.toList[i]?=some c:=by simpa using hc
  rw[this]at hd;have e:D.str ⟨#[c]⟩=d:=aC hd;subst e;exact Q5y
 stop:=fun H' _ _=>by
  show(K0 x).length=x.cps.size;simp[K0]
def DI.str (he:DE X H0 e we):DI X H0 tg e (Z5e we) where
 mono:=fun τ P Q f h=>he.mono τ _ _ (fun r⟨ds,e1,q⟩=>⟨ds,e1,f _ _ q⟩) h
 pi:=by
  intro ae s σ H R I ⟨τ,hR,h⟩;refine B3 (he.pe ae s σ H (fun v H1=>A5 H H1/\∃x,v=.str x/\∀J H',Kp H H'->C1 X.K H0 τ σ H'->Yl X.K H0 J (K0 x) H'->R J H') I ⟨τ,hR,he.mono τ _ _ (fun r jZ v H1 s1 ir=>(by obtain⟨x,e1,q⟩:=jZ;exact⟨s1,x,by subst e1;exact ir,q⟩)) h⟩) fun u s1 oC=>?_;obtain⟨v,H1,I1,rv,sm,x,e1,q⟩:=oC;subst e1;obtain⟨t,rfl⟩:=rv;have fin:∀(ty:String),(ty="str_ascii_iterator"\/ty="str_iterator")->PIE X ae σ tg R (.ref s1.heap.objs.size) {s1 with heap:=s1.heap.push {cls:=.type ty,data:=.fields #[.str x t,.int 0 0]}}:=fun ty kw=>by
   refine⟨s1.heap.objs.size,[s1.heap.objs.size],_,_,H1,rfl,I1.kept (t':=s1.toks) fun b o e=>af _ e,V9o (ty:=ty) (x:=x) (t:=t) kw,⟨_,aG _ rfl,rfl,rfl⟩,fun b hb=>?_,q _ _ (Kp.of sm) (hR.mono sm) J0u⟩;have e:b=s1.heap.objs.size:=by simpa using hb
   subst e;exact I1.fpOk (ak _) (I1.hok.fresh (ak _))
  cases ha:x.cps.all (·<128)
  ·exact wpAny_pyIter_wide ha (fin _ (.inr rfl))
  ·exact wpAny_pyIter_ascii ha (fin _ (.inl rfl))
end
def Y2y (ds:O D)(P:D->O D->Prop):Prop:=match ds with
 |[]=>False
 |d::r=>P d r
def tupR (d:D)(P:O D->Prop):Prop:=match d with
 |.tup ds=>P ds
 |_=>False
section
variable {Q:R->Prop}{d e:D}{ds:O D}{i j:Int}{y:Str}
@[simp] theorem V6p {Q:O D->C3->Prop}:Z5e we τ Q=we τ fun r=>∃x,r=.st (.str x)/\Q (K0 x) τ:=rfl
@[simp] theorem Y7z:Q7s wa we τ Q=wa τ fun r1=>∃x,r1=.st (.str x)/\we τ fun r=>∃y i,r=.st (.str y)/\Q8n x y=some i/\Q (.st (.int (i:Int))):=rfl
@[simp] theorem Q4t {Q:O D->Prop}:Q0z we τ Q=we τ fun r=>∃ds,r=.st (.tup ds)/\Q ds:=rfl
@[simp] theorem Q4p {r:R}:V2 [r] Q=∃ds,Q9d r=some ds/\Q (.st (.tup ds)):=rfl
@[simp] theorem o_sq2:Q9d (.nw ds)=some ds:=rfl
@[simp] theorem Z1g:Q9d (.bw ds)=some ds:=rfl
@[simp] theorem o_ne {d e:D}:neD (.st d) (.st e) QB ↔ (scD d e=true/\QB (!D.eq d e)):=by
 constructor
 ·rintro ⟨a,b,h1,h2,h3,h4⟩;cases h1;cases h2;exact⟨h3,h4⟩
 ·rintro ⟨h3,h4⟩;exact⟨d,e,rfl,rfl,h3,h4⟩
@[simp high] theorem s_gCn2 {g:WG}  {Q:C3->Prop}:F7 g gs ds τ Q ↔ Y2y ds fun d r=>g d τ fun τ'=>gs r τ' Q:=by
 constructor
 ·rintro ⟨a,b,h,q⟩;cases h;exact q
 ·intro h;cases ds with
  |nil=>exact h.elim
  |cons d r=>exact⟨d,r,rfl,h⟩
@[simp high] theorem s_gTp2 {Q:C3->Prop}:P3 n gs d τ Q ↔ tupR d fun ds=>ds.length=n/\gs ds τ Q:=by
 constructor
 ·rintro ⟨a,h,q⟩;cases h;exact q
 ·intro h;cases d with
  |tup ds=>exact⟨ds,rfl,h⟩
  |_=>exact h.elim
@[simp] theorem J1f {P:D->O D->Prop}:Y2y (d::ds) P=P d ds:=rfl
@[simp] theorem o_tupR {P:O D->Prop}:tupR (.tup ds) P=P ds:=rfl
@[simp] theorem o_sc1:scD (.int i) (.int j)=true:=rfl
@[simp] theorem o_sc2 {k l:Bool}:scD (.bl k) (.bl l)=true:=rfl
@[simp] theorem o_sc3:scD (.str x) (.str y)=true:=rfl
end
theorem Q0f {f:D->D}:∀(ds:O D) (o:Am Sl) (Q:O D->Prop),(∀d∈ds,∀Q':R->Prop,Q' (.st (f d))->we (some (.dat d)::rest) Q')->Q (ds.map f)->M7 (B6 0) S0 we ds (o::rest) Q
 |[],o,Q,h,q=>q
 |d::ds,o,Q,h,q=>by
  simp only[M7];simp;refine h d aj _ ⟨_,rfl,?_⟩;exact Q0f ds _ _ (fun d hd=>h d (ag _ hd)) q
theorem Z4j {t:WT}  {p:D->Bool}{f:D->D}:∀(ds:O D) (o:Am Sl) (Q:O D->Prop),(∀d∈ds,∀Q':Bool->Prop,Q' (p d)->t (some (.dat d)::rest) Q') ->
  (∀d∈ds,∀Q':R->Prop,p d=true->Q' (.st (f d))->we (some (.dat d)::rest) Q')->Q ((ds.filter p).map f)->M7 (B6 0) t we ds (o::rest) Q
 |[],o,Q,h,h2,q=>q
 |d::ds,o,Q,h,h2,q=>by
  simp only[M7];simp;refine h d aj _ ?_;cases hp:p d with
  |false=>
   rw[List.filter_cons_of_neg (by simp[hp])]at q;simp;exact Z4j ds _ _ (fun d hd=>h d (ag _ hd)) (fun d hd=>h2 d (ag _ hd)) q
  |true=>
   rw[List.filter_cons_of_pos hp]at q;simp;refine h2 d aj _ hp ⟨_,rfl,?_⟩;exact Z4j ds _ _ (fun d hd=>h d (ag _ hd)) (fun d hd=>h2 d (ag _ hd)) q
namespace HT
theorem W6s {b:Int}(h0:-(2^62)<=b)(h1:b<2^62):Builtin.Range.rangeFitsLong b=true:=by
 unfold Builtin.Range.rangeFitsLong;simp;lia
theorem V4o (r:Ap)(b:Int)(t u v:Tok)(h0:0<=b)(h1:b<2^62):
  Meets (Builtin.«range.__reversed__» ⟨[.ref r],[]⟩) (fun _ R s=>s.heap.get? r=some {cls:=.type "range",data:=.fields #[.int 0 t,.int b u,.int 1 v]} /\
   R (.ok (.ret (Value.ref s.heap.objs.size))) {s with heap:=s.heap.push {cls:=.type "range_iterator",data:=.fields #[rawInt (b-1),rawInt b,rawInt (-1)]}}):=
 .of_wp fun prog w A R s h=>by
  obtain⟨hp,g,d,tk,os⟩:=s;obtain⟨hl,h⟩:=h;have es:Builtin.Range.rangeSize 0 b 1=b:=by rw[rangeSize_one];split<;>lia
  have e2:(0:Int)+(b-1)*1=b-1:=?H
  have hc:(Builtin.Range.rangeFitsLong 0&&Builtin.Range.rangeFitsLong b&&Builtin.Range.rangeFitsLong 1&&Builtin.Range.rangeFitsLong (-1)&&Builtin.Range.rangeFitsLong (0-1)&&Builtin.Range.rangeFitsLong (Builtin.Range.rangeSize 0 b 1))=true:=by
   rw[es,W6s (b:=b) (?H) h1]
   decide
  wp_walk
  rw[hc,es,e2];simp only[Bool.not_true,cN,ff,fD]
  wp_walk
  exact⟨_,rfl,h⟩
section
variable {w:Av}
theorem W5r {b:Int}{t u v:Tok}  (h0:0<=b)(h1:b<2^62)(hl:s.heap.get? l=some {cls:=.type "range",data:=.fields #[.int 0 t,.int b u,.int 1 v]})
  (h:Q₁ (.ref s.heap.objs.size) {s with heap:=s.heap.push {cls:=.type "range_iterator",data:=.fields #[rawInt (b-1),rawInt b,rawInt (-1)]}}):
  codeAny ?V A (.call (.builtin "reversed.__new__") ⟨[.type "reversed",.ref l],[]⟩) (wants Q₁ E) s:=by
 have hT:s.TypeIs (.ref l) "range":=⟨_,hl,rfl⟩
 refine codeAny_of_tree ?_;show wpAny _ A.in1 (do checkBuiltinCall "reversed.__new__" ⟨[.type "reversed",.ref l],[]⟩;again (.builtin "reversed.__new__" ⟨[.type "reversed",.ref l],[]⟩)) _ _ s;refine aa (g9 (PySem.F.newCall_reversed_1 _) (am ⟨vY kK _,oa PySem.F.entry_reversed_new ?_⟩));rw[iF kK _];unfold Builtin.«reversed.__new__»;refine aa (g9 (newClass_reversed _) ?_)
 try dsimp only
 refine aa (g9 (a:=()) (by first |rfl |kernel_rfl) ?_);refine aa (g9 (a:=()) (by first |rfl |kernel_rfl) ?_)
 try dsimp only
 refine aa (fm hT eI.lookup ?_)
 try dsimp only
 refine aa (g9 (eI.bind _) ?_)
 try dsimp only
 first
 |rw[aI (show ¬ ((Value.builtin "range.__reversed__"==Value.none)=true)from bh)]
 |(show wpAny _ _ (if (Value.builtin "range.__reversed__"==Value.none)=true then _ else _) _ _ _;rw[aI (show ¬ ((Value.builtin "range.__reversed__"==Value.none)=true)from bh)])
 refine aa (dw ?_);refine aa (m:=runValue (.call (.builtin "range.__reversed__") ⟨[.ref l],[]⟩)) (show wpAny _ _ (call (.builtin "range.__reversed__") [.ref l]) _ _ _ from km eI hT PySem.F.entry_range_reversed (PySem.F.args_range_reversed_1 _) (V4o l b t u v h0 h1) ⟨hl,?_⟩)
 first
 |exact am h
 |exact aa (am (am h))
def V8f:isSubtype (.type "range_iterator") (.type "reversed")=pure false:=by rw[isSubtype_type];kernel_rfl
def call_reversed_rng {b:Int}{t u v:Tok}  (h0:0<=b)(h1:b<2^62)(hl:s.heap.get? l=some {cls:=.type "range",data:=.fields #[.int 0 t,.int b u,.int 1 v]})
  (h:Q (.ref s.heap.objs.size) {s with heap:=s.heap.push {cls:=.type "range_iterator",data:=.fields #[rawInt (b-1),rawInt b,rawInt (-1)]}}):wpAny ?V A (call (.type "reversed") [.ref l]) Q E s:=by
 refine callType_other (U:="range_iterator") (Q₁:=fun obj s₁=>obj=.ref s.heap.objs.size/\s₁={s with heap:=s.heap.push {cls:=.type "range_iterator",data:=.fields #[rawInt (b-1),rawInt b,rawInt (-1)]}}) (?D) PySem.F.create_reversed ⟨_,_,PySem.F.mro_reversed⟩ PySem.F.made_reversed V8f (PySem.F.typeCall_reversed_1 _) (W5r h0 h1 hl ⟨rfl,rfl⟩) ?_;rintro obj s₁ ⟨rfl,rfl⟩;exact⟨⟨_,aG _ rfl,rfl⟩,h⟩
end
end HT
section
variable {a b:Aq}{p2 gJ:Pos}
def Itd (n:Nat):It:=⟨fun i _=>i<n,fun i H v H'=>H'=H/\v=.int ((n:Int)-1-(i:Int)),fun i _=>n<=i⟩
theorem V9m {w:Av}{K:Fg9}  (it:Ap)(n:Nat):Q1h P w K tg (Itd n) [it] it (fun i h=>IsRangeIter h it ((n:Int)-1+(i:Nat)*(-1)) ((n:Int)-(i:Nat)) (-1)) where
 mem:=by simp
 obj:=fun i h st b hb=>by
  have e:b=it:=by simpa using hb
  subst e;exact⟨_,st,fun v z=>by
   have z':Data.fields _=Data.cell v:=z;cases z'⟩
 keep:=fun i h h' st k=>k it ?E _ st
 item:=by
  back_in;obtain⟨f0,f1,f2,f3,f4,f5⟩:=hf it ?E;have W:=Walks.range (prog:=X.prog) (w:=X.w) (I.ok.hd hc) it ((n:Int)-1) (-1) n;refine W.item i s _ _ hg st fun v h' tk hv iw kk=>?_;obtain⟨t,rfl⟩:=hv;have I1:A0 X ae σ H {s with heap:=h',toks:=tk}:=I.turned (fun b o hb e=>kk b o (by simpa using hb) e) f0 f1 f3 f4 f5;refine⟨_,rfl,Q6k (s:={s with heap:=h',toks:=tk}) (n:="range_iterator") iw rfl rfl (?G) ⟨.int ((n:Int)-1-(i:Int)),H,I1,⟨t,?_⟩,⟨rfl,rfl⟩,iw,fun b hb=>(hf b hb).1⟩⟩;congr 1;lia
 done:=by
  back_in;obtain⟨f0,f1,f2,f3,f4,f5⟩:=hf it ?E;exact zY (I.ok.hd hc) st (by have:n<=i:=hg;lia) fun h' eb=>⟨rfl,I.turned (t':=s.toks) (fun b o hb e=>eb b o hb e) f0 f1 f3 f4 f5⟩
 self:=fun _ _ _ _ _ st h=>gz st h
def Q1e (n:Nat):O D:=(List.range n).map fun(i:Nat)=>.int ((n:Int)-1-(i:Int))
def J0t {K:Fg9}  :Yl K H0 (Itd n) (Q1e n) H where
 go:=fun H' _ _ i hi=>by
  have:i<n:=by simpa [Q1e]using hi
  exact this
 yld:=fun H' _ _ i x eR d hd cy=>by
  obtain⟨e,y⟩:=cy;subst e;refine⟨A5.refl _,?_⟩;unfold Q1e at hd;rw[ah]at hd;rcases b7 i n with hi |hi
  ·rw[bJ hi]at hd;have e:D.int ((n:Int)-1-(i:Int))=d:=aC hd;subst e y;exact Q1g
  ·rw[az.mpr (by simpa using hi)]at hd;cases hd
 stop:=fun H' _ _=>by
  show n<=(Q1e n).length;simp[Q1e]
def Z5c (wr:WA):WI:=fun τ Q=>wr τ fun rs=>∃j:Int,rs=[.st (.int j)]/\0<=j/\j<2^62/\Q (Q1e j.toNat) τ
theorem W2i (oS:Gl X "reversed")(ql:X.mg "reversed"=none)(nE:bootBuiltins "reversed"=some (.type "reversed"))(hg:Gl X "range")(hm:X.mg "range"=none)(ha:DA X H0 [a] wr)(hs:starEach [a] X.env=[(false,eval a X.env)]:=by rfl)
  (ky:starEach [.Call (.Name "range" p) [a] [] pos] X.env=(false,eval (.Call (.Name "range" p) [a] [] pos) X.env)::starEach [] X.env:=by rfl) (hpl:(backTo gJ (starEach [] X.env)).any (·.1)=false:=by rfl):
  DI X H0 tg (.Call (.Name "reversed" p2) [.Call (.Name "range" p) [a] [] pos] [] gJ) (Z5c wr) where
 mono:=fun τ P Q f h=>ha.mono τ _ _ (fun r⟨j,e1,h1,h2,q⟩=>⟨j,e1,h1,h2,f _ _ q⟩) h
 pi:=by
  intro ae s σ H R I ⟨τ,hR,h⟩;refine bn (Q1k I oS ql nE ?_ (?G) (?G));refine bb ?_ ky hpl;rw[ky];show wpAny _ _ (spliced ((false,eval (.Call (.Name "range" p) [a] [] pos) X.env)::backTo gJ (starEach [] X.env))) _ _ s;refine bT ?_;refine Call_ (Q1k I hg hm boot_range (bb (B3 (ha.pa pos ae s σ H (fun vs H1=>A5 H H1/\∃j:Int,vs=[.int j]/\0<=j/\j<2^62/\∀J H',Kp H H'->C1 X.K H0 τ σ H'->Yl X.K H0 J (Q1e j.toNat) H'->R J H') I
   ⟨τ,hR,ha.mono τ _ _ (fun rs dF vs H1 s1 dA=>(by obtain⟨j,e1,h1,h2,q⟩:=dF;exact⟨s1,j,by subst e1;obtain⟨v,rfl,ir⟩:=Z6 dA;cases (show v=.int j from ir);rfl,h1,h2,q⟩)) h⟩) fun us s1 iJ=>?_) hs rfl))
  obtain⟨vs,H1,I1,rv,sm,j,e1,h1,h2,q⟩:=iJ
  ·subst e1;obtain⟨u,rfl,t,rfl⟩:=Z2 rv;refine call_range_1 ?_;refine cK ?_;refine HT.call_reversed_rng (l:=s1.heap.objs.size) (b:=j) h1 h2 (aG _ rfl) ?_;have I2:A0 X ae σ H1 {s1 with heap:=s1.heap.push {cls:=.type "range",data:=.fields #[.int 0 s1.toks,.int j t,.int 1 (s1.toks+1)]},toks:=s1.toks+1+1}:=I1.kept fun b o e=>af _ e;refine gz (aG _ rfl) ?_;refine⟨_,[_],_,_,H1,rfl,I2.kept (t':=s1.toks+1+1) fun b o e=>af _ e,V9m _ j.toNat,?_,fun b hb=>?_,q _ _ (Kp.of sm) (hR.mono sm) J0t⟩
   ·have e1:((j.toNat:Nat):Int)=j:=?H
    have e2:(j-1)=((j.toNat:Nat):Int)-1+((0:Nat):Int)*(-1):=?H
    have e3:j=((j.toNat:Nat):Int)-((0:Nat):Int):=?H
    show IsRangeIter _ _ (((j.toNat:Nat):Int)-1+((0:Nat):Int)*(-1)) (((j.toNat:Nat):Int)-((0:Nat):Int)) (-1);rw[<-e2,<-e3];exact aG _ rfl
   ·rw[aE.mp hb];exact I2.fpOk (ak _) (I2.hok.fresh (ak _))
def Irl (K:Fg9)(l:Ap)(n:Nat):It:=⟨fun i H=>i<n/\∃xs,E8 K H l xs/\xs.length=n,fun i H v H'=>H'=H/\∀xs,E8 K H l xs->xs[n-1-i]?=some v,fun i _=>i=n⟩
theorem V9n {w:Av}{K:Fg9}   :Q1h P w K tg (Irl K l n) [it] it (fun i h=>i<=n/\h.IsRevIter it l ((n:Int)-1-(i:Int))) where
 mem:=by simp
 obj:=fun i h st b hb=>by
  have e:b=it:=by simpa using hb
  subst e;obtain⟨_,o,ho,hc,hd⟩:=st;exact⟨o,ho,fun v z=>by rw[hd]at z;cases z⟩
 keep:=fun i h h' st k=>⟨st.1,st.2.at fun o e=>k it ?E o e⟩
 item:=by
  back_in;obtain⟨f0,f1,f2,f3,f4,f5⟩:=hf it ?E;obtain⟨cm,xs,hq,hn⟩:=hg;obtain⟨aY,rv,pl,hz⟩:=I.list hq;have hl:=rv.length;have hx:xs[n-1-i]?=some (xs[n-1-i]'(?H)):=ac _;obtain⟨u,hu,ru⟩:=rv.get hx;have hit:=st.2;have e:(n:Int)-1-(i:Int)=((n-1-i:Nat):Int):=?H
  rw[e]at hit;refine wpAny_pyNext_rev_item hit pl.isList (by simpa using hu) fun h' ka lS=>?_;have I1:A0 X ae σ H {s with heap:=h'}:=I.turned (t':=s.toks) (fun b o hb e=>lS.extBut b o hb e) f0 f1 f3 f4 f5;have e2:((n-1-i:Nat):Int)-1=(n:Int)-1-((i+1:Nat):Int):=?H
  rw[e2]at ka;obtain⟨o,ho,fX,hd⟩:=id ka;exact⟨u,rfl,Q6k (s:={s with heap:=h'}) ho fX hd (?G) ⟨_,H,I1,ru,⟨rfl,fun ys hy=>by rw[I.list_inj hy hq];exact hx⟩,⟨?H,ka⟩,fun b hb=>(hf b hb).1⟩⟩
 done:=by
  back_in;obtain⟨f0,f1,f2,f3,f4,f5⟩:=hf it ?E;have hg:i=n:=hg;subst hg;have hit:=st.2;have e:(i:Int)-1-(i:Int)=-1:=?H
  rw[e]at hit;exact wpAny_pyNext_rev_end (I.ok.hd hc) hit fun h' eb=>⟨rfl,I.turned (t':=s.toks) (fun b o hb e=>eb b o hb e) f0 f1 f3 f4 f5⟩
 self:=fun _ _ _ _ _ st h=>wpAny_pyIter_revIter st.2 h
def V7 (ds es:O D):O D:=(ds.zip es).map fun p=>.tup [p.1,p.2]
theorem W1q {ds es:O D}{i:Nat}{d:D}(h:(V7 ds es)[i]?=some d):∃x y,ds[i]?=some x/\es[i]?=some y/\d=.tup [x,y]:=by grind [V7,ah,aC,cC]
def Z9r (ds es:O D):(V7 ds es).length=min ds.length es.length:=by simp[V7]
end
def Q0b {old:HO}(h:H a=some old)(nt:∀xs,old≠.tup xs)(nf:∀o u,old≠.frz o u)(o:HO):Kp H (A9 H a o):=
 ⟨fun c ys q=>by rw[B2 (Q0k q h (fun z=>nt _ z.symm))];exact q,fun c ob u q=>by rw[B2 (Q0k q h (fun z=>nf _ _ z.symm))];exact q⟩
def C1.mutG {K:Fg9}    {i:Nat}{s s':Sl}  {old new:HO}(hR:C1 K H0 τ σ H)(e1:τ[i]?=some (some s))(m:s.mut=true)(hv:σ[i]?=some (some (.ref a)))(h0:H0 a=none)
  (sq:H a=some old) (nt:∀xs,old≠.tup xs) (nf:∀o u,old≠.frz o u) (lS:Z4 K H0 (A9 H a new) s' (.ref a)) (ne:∀ φ,old≠.ext φ:=by intro φ z;cases z):C1 K H0 (τ.set i (some s')) σ (A9 H a new):=by
 have kp:Kp H (A9 H a new):=Q0b sq nt nf _;have hl:i<τ.length:=by
  rcases b7 i τ.length with h |h
  ·exact h
  ·rw[az.mpr h]at e1;cases e1
 have ot:∀(j:Nat) (t:Sl),(τ.set i (some s'))[j]?=some (some t)->j≠i->τ[j]?=some (some t):=fun j t e hj=>by rw[aM (fun z=>hj z.symm)]at e;exact e
 have ie:∀(j:Nat) (t:Sl),(τ.set i (some s'))[j]?=some (some t)->t.mut=true->∃t',τ[j]?=some (some t')/\t'.mut=true:=fun j t e mm=>by
  by_cases hj:j=i
  ·subst hj;exact⟨_,e1,m⟩
  ·exact⟨t,ot j t e hj,mm⟩
 refine⟨by rw[bx];exact hR.len,fun b ob hb=>?_,fun j t e=>?_,fun j k t u v dM e2 e3 m1 m2 q1 q2=>?_⟩
 ·rw[B2 (Y5 hb h0)];exact hR.same b ob hb
 ·by_cases hj:j=i
  ·subst hj;rw[Q1j hl]at e;cases e;exact⟨_,hv,lS⟩
  ·have e:=ot j t e hj;obtain⟨v,q,r⟩:=hR.here j t e;refine⟨v,q,?_⟩;have ap:t.mut=true->v≠.ref a:=fun mm z=>by
    subst z;exact hR.apart i j _ t (.ref a) (fun z=>hj z.symm) e1 e m mm hv q
   cases t with
   |dat d=>exact A2.mono kp _ _ r
   |own es=>accm_mu
   |bor es=>obtain⟨b,ys,e,q,t⟩:=r;exact⟨b,ys,e,q,t.mono kp _ _⟩
   |bd es=>obtain⟨b,ys,e,q,t⟩:=r;exact⟨b,ys,e,q,t.mono kp _ _⟩
   |dk es=>accm_mu
   |dt es=>accm_mu
   |ob _=>exact r
   |cl _ _=>exact⟨r.1,r.2.2 _ _ kp r.2.1,r.2.2⟩
   |ll _ _=>exact⟨r.1,r.2.keep kp fun b φ q=>by rw[B2 (Q0k q sq (fun z=>ne _ z.symm))];exact q⟩
   |ins _ _ _=>obtain⟨e,n,dx,ys,q,t⟩:=r;exact⟨e,n,dx,ys,by rw[B2 (fun z=>ap rfl (by rw[e,z]))];exact q,t.mono kp _ _⟩
 ·obtain⟨s1,tN,rG⟩:=ie j t e2 m1;obtain⟨t1,tM,rF⟩:=ie k u e3 m2;exact hR.apart j k s1 t1 v dM tN tM rG rF q1 q2
def P4:D->Am B7
 |.int i=>some (.inl i)
 |.str x=>some (.inr x)
 |_=>none
def W3:O D->Am (O B7)
 |[]=>some []
 |d::r=>(P4 d).bind fun k=>(W3 r).map (k::·)
theorem Q6q {K:Fg9}:∀{ds:O D}{ks:O B7}{xs:O V},W3 ds=some ks->AllS K H ds xs->xs=ks.map kV
 |[],ks,xs,h,al=>by cases h;unfold AllS at al;exact al
 |d::r,ks,xs,h,al=>by
  unfold W3 at h;unfold AllS at al;obtain⟨v,t,rfl,iv,al⟩:=al;cases d with
  |int i=>
   cases e:W3 r with
   |none=>rw[e]at h;cases h
   |some k2=>
    rw[e]at h;have h:some (Sum.inl i::k2)=some ks:=h;cases h;rw[Q6q e al];unfold A2 at iv;rw[iv];rfl
  |str i=>
   cases e:W3 r with
   |none=>rw[e]at h;cases h
   |some k2=>
    rw[e]at h;have h:some (Sum.inr i::k2)=some ks:=h;cases h;rw[Q6q e al];unfold A2 at iv;rw[iv];rfl
  |non=>cases h
  |bl _=>cases h
  |tup _=>cases h
  |lst _=>cases h
section
variable [DecidableEq κ]
def F8 (kvs:O (κ×D))(k:κ):Am D:=(kvs.find? fun kv=>decide (kv.1=k)).map (·.2)
def P8 (kvs:O (κ×D))(k:κ)(v:D):O (κ×D):=if (kvs.any fun kv=>decide (kv.1=k))=true then kvs.map (fun kv=>if kv.1=k then(kv.1,v)else kv)else kvs++[(k,v)]
theorem D4.val {K:Fg9}  {k:κ}:∀{kvs:O (κ×D)}{ps:O (κ×V)},D4 K H kvs ps->(F8 kvs k=none/\U3 ps k=none)\/∃d v,F8 kvs k=some d/\U3 ps k=some v/\A2 K H d v
 |[],ps,h=>by unfold D4 at h;subst h;exact .inl ⟨rfl,rfl⟩
 |p::kvs,ps,h=>by
  unfold D4 at h;obtain⟨v,r,rfl,iv,h⟩:=h
  by_cases e:p.1=k
  ·exact .inr ⟨p.2,v,by simp[F8,bp,e],Z2d e,iv⟩
  ·rw[Z2c (p:=(p.1,v)) e];have:F8 (p::kvs) k=F8 kvs k:=by simp[F8,bp,e]
   rw[this];exact D4.val h
theorem D4.any {K:Fg9}  {k:κ}:∀{kvs:O (κ×D)}{ps:O (κ×V)},D4 K H kvs ps->(kvs.any fun kv=>decide (kv.1=k))=(ps.any fun kv=>decide (kv.1=k)):=by intro kvs;induction kvs<;>grind [D4,gX]
theorem D4.length {K:Fg9}:∀{kvs:O (κ×D)}{ps:O (κ×V)},D4 K H kvs ps->kvs.length=ps.length:=by intro kvs;induction kvs<;>grind [D4,aK]
theorem D4.app {K:Fg9}  {k:κ}{d:D}{v:V}(q:A2 K H d v):∀{kvs:O (κ×D)}{ps:O (κ×V)},D4 K H kvs ps->D4 K H (kvs++[(k,d)]) (ps++[(k,v)]):=by intro kvs;induction kvs<;>grind [D4]
theorem D4.repl {K:Fg9}  {k:κ}{d:D}{v:V}(q:A2 K H d v):∀{kvs:O (κ×D)}{ps:O (κ×V)},D4 K H kvs ps->D4 K H (kvs.map fun kv=>if kv.1=k then(kv.1,d)else kv) (ps.map fun kv=>if kv.1=k then(kv.1,v)else kv):=by intro kvs;induction kvs<;>grind [D4,av]
def D4.put {K:Fg9}  {k:κ}{d:D}{v:V}(q:A2 K H d v){kvs:O (κ×D)}{ps:O (κ×V)}(h:D4 K H kvs ps):D4 K H (P8 kvs k d) (R8 ps k v):=by
 unfold P8 R8;rw[D4.any h];split
 ·exact D4.repl (k:=k) q h
 ·exact D4.app q h
end
section
variable {a b:Aq}{wi:WE}
def C1.dtAt {K:Fg9}    {i:Nat}{kvs:O (O B7×D)}(hR:C1 K H0 τ σ H)(e1:τ[i]?=some (some (.dt kvs))):∃a ps,σ[i]?=some (some (.ref a))/\H0 a=none/\H a=some (.dT ps)/\D4 K H kvs ps:=by
 obtain⟨v,hv,a,xs,rfl,h0,sq,al⟩:=hR.here i _ e1;exact⟨a,xs,hv,h0,sq,al⟩
def Z2h (i:Nat)(we:WE):WE:=fun τ Q=>∃kvs,τ[i]?=some (some (.dt kvs))/\we τ fun r=>∃ds ks d,r=.st (.tup ds)/\W3 ds=some ks/\F8 kvs ks=some d/\Q (.st d)
def W1z {i:Nat}(hu:X.A.units+1<cLine)(ho:PE X o (Q0 i))(he:DE X H0 e we)(hs:Q7y e):DE X H0 (.Subscript o e pos) (Z2h i we) where
 mono:=fun τ P Q f cy=>(by obtain⟨kvs,e1,h⟩:=cy;exact⟨kvs,e1,he.mono τ _ _ (fun r cR=>by obtain⟨ds,ks,d,a1,a2,a3,a4⟩:=cR;exact⟨ds,ks,d,a1,a2,a3,f _ a4⟩) h⟩)
 pe:=P7 (Z6m hu ho he.pe hs) fun σ H Q dF=>by
  obtain⟨τ,hR,kvs,e1,h⟩:=dF;obtain⟨a,ps,hv,h0,sq,kv⟩:=hR.dtAt e1;refine⟨_,hv,τ,hR,he.mono τ _ _ (fun r mK v H1 s1 ir=>?_) h⟩;obtain⟨ds,ks,d,a1,a2,a3,a4⟩:=mK;subst a1;have ir:A2 X.K H1 (.tup ds) v:=ir;unfold A2 at ir;obtain⟨b,xs,rfl,sb,al⟩:=ir;rw[Q6q a2 al]at sb;rcases D4.val (k:=ks) (kv.mono (Kp.of s1) _ _)with⟨n1,_⟩ |⟨d',v',n1,n2,n3⟩
  ·rw[a3]at n1;cases n1
  ·rw[a3]at n1;cases n1;refine⟨a,v',rfl,?_,a4 _ _ s1 n3⟩;have g:=X8.t (s1 _ _ sq) sb;rw[n2]at g;exact g
def Z2i (i:Nat)(we:WE):WT:=fun τ Q=>∃kvs,τ[i]?=some (some (.dt kvs))/\we τ fun r=>∃ds ks,r=.st (.tup ds)/\W3 ds=some ks/\Q (!(F8 kvs ks).isSome)
def W3c {i:Nat}(hu:X.A.units+1<cLine)(he:DE X H0 e we)(ho:PE X o (Q0 i))(h1:behindInMarks .NotIn o=false:=by rfl):DT X H0 (.Compare e [.NotIn] [o] pos) (Z2i i we) where
 mono:=fun τ P Q f cR=>(by obtain⟨kvs,e1,h⟩:=cR;exact⟨kvs,e1,he.mono τ _ _ (fun r⟨ds,ks,a1,a2,a4⟩=>⟨ds,ks,a1,a2,f _ a4⟩) h⟩)
 pt:=ptW (Y7e (Y6v hu he.pe ho) h1) fun σ H Q fL=>by
  obtain⟨τ,hR,kvs,e1,h⟩:=fL;refine⟨τ,hR,he.mono τ _ _ (fun r iK v H1 s1 ir=>?_) h⟩;obtain⟨ds,ks,a1,a2,a4⟩:=iK;obtain⟨a,ps,hv,h0,sq,kv⟩:=(hR.mono s1).dtAt e1;subst a1;have ir:A2 X.K H1 (.tup ds) v:=ir;unfold A2 at ir;obtain⟨b,xs,rfl,sb,al⟩:=ir;rw[Q6q a2 al]at sb;refine⟨_,hv,a,_,rfl,X8.t sq sb,?_⟩;have e:(U3 ps ks).isSome=(F8 kvs ks).isSome:=by
   rcases D4.val (k:=ks) kv with⟨n1,n2⟩ |⟨d',v',n1,n2,n3⟩<;>rw[n1,n2]<;>rfl
  rw[e];exact⟨_,rfl,a4 _ s1⟩
def Z2j (i:Nat)(we wv:WE):WS:=fun E τ=>wv τ fun r=>∃d,r=.st d/\∃kvs,τ[i]?=some (some (.dt kvs))/\we τ fun rk=>∃ds ks,rk=.st (.tup ds)/\W3 ds=some ks/\kvs.length<sizeLine/\E.nx (τ.set i (some (.dt (P8 kvs ks d))))
def W2l {i:Nat}{v:Aq}  (hu:X.A.units+1<cLine)(ho:PE X o (Q0 i))(he:DE X H0 e we)(hv:DE X H0 v wv)(hs:swapsWith v (some (.Subscript o e cf)) pos.line X.env=pure false:=by rfl):
  DS X H0 (.Assign [.Subscript o e cf] v pos) (Z2j i we wv) where
 mono:=fun τ E F le h=>hv.mono τ _ _ (fun r fW=>by obtain⟨d,e1,kvs,e2,h⟩:=fW;exact⟨d,e1,kvs,e2,he.mono τ _ _ (fun r⟨ds,ks,a1,a2,a3,a4⟩=>⟨ds,ks,a1,a2,a3,le.nx _ a4⟩) h⟩) h
 ps:=Q7 (Y7b hu ho he.pe hv.pe hs) fun D σ H jg=>by
  obtain⟨τ,hR,h⟩:=jg;refine⟨τ,hR,hv.mono τ _ _ (fun r iJ u H1 s1 ir=>?_) h⟩;obtain⟨d,e1,kvs,e2,h⟩:=iJ;subst e1;have fB:=hR.mono s1;obtain⟨a,ps,ig,h0,sq,kv⟩:=fB.dtAt e2;refine⟨_,ig,τ,fB,he.mono τ _ _ (fun rk mJ y H2 s2 ik=>?_) h⟩;obtain⟨ds,ks,a1,a2,a3,a4⟩:=mJ;subst a1;have ik:A2 X.K H2 (.tup ds) y:=ik;unfold A2 at ik;obtain⟨b,xs,rfl,sb,al⟩:=ik;rw[Q6q a2 al]at sb;have fi:=s2 _ _ sq;have kq:=kv.mono (Kp.of s2) _ _;refine⟨a,_,rfl,Q3q.t fi sb (by rw[<-D4.length kq];exact a3),?_⟩;have kp:Kp H2 (A9 H2 a (.dT (R8 ps ks u))):=Q0b fi (by intro xs z;cases z) (by intro o u z;cases z) _;have iv:A2 X.K H2 d u:=A2.mono (Kp.of s2) _ _ ir;refine a4 σ _ ((Kp.of (s1.trans s2)).trans kp) ((fB.mono s2).mutG e2 rfl ig h0 fi (by intro xs z;cases z) (by intro o u z;cases z) ⟨a,_,rfl,h0,upd_same,?_⟩);exact D4.mono kp _ _ (D4.put iv kq)
def Z2q (i:Nat)(wi wv:WE):WS:=fun E τ=>wv τ fun r=>∃d,r=.st d/\∃ds,τ[i]?=some (some (.own ds))/\wi τ fun rk=>∃k j,rk=.st (.int k)/\ixN ds.length k=some j/\E.nx (τ.set i (some (.own (ds.set j d))))
def W2y {i:Nat}{v:Aq}  (ho:PE X o (Q0 i))(he:DE X H0 e we)(hv:DE X H0 v wv)
  (hs:swapsWithSole [.Subscript o e cf] v pos.line X.env=pure false:=by rfl) (hw:swappedStores [.Subscript o e cf] v X.env=pure none:=by rfl)
  (h1:(assignEach [.Subscript o e cf] X.env).map (·.2)=[assign (.Subscript o e cf) X.env]:=by rfl)
  (ha:∀v,assign (.Subscript o e cf) X.env v=(do
   let ov <- holding [v] (eval o X.env);let iv <- holding [v,ov] (eval e X.env)
   standAt cf
   holding [v,ov,iv] (setItem ov iv v)
   release [v,ov,iv] []):=by intro _;rfl):DS X H0 (.Assign [.Subscript o e cf] v pos) (Z2q i we wv) where
 mono:=fun τ E F le h=>hv.mono τ _ _ (fun r l5=>by obtain⟨d,e1,ds,e2,h⟩:=l5;exact⟨d,e1,ds,e2,he.mono τ _ _ (fun r⟨k,j,a1,a2,a3⟩=>⟨k,j,a1,a2,le.nx _ a3⟩) h⟩) h
 ps:=Q7 (Z6o hv.pe (V3k ho he.pe Y8s ha) hs hw h1) fun D σ H iN=>by
  obtain⟨τ,hR,h⟩:=iN;refine⟨τ,hR,hv.mono τ _ _ (fun r oC u H1 s1 ir=>?_) h⟩;obtain⟨d,e1,ds,e2,h⟩:=oC;subst e1;have fB:=hR.mono s1;obtain⟨a,xs,ig,h0,sq,al⟩:=fB.ownAt e2;refine⟨_,ig,τ,fB,he.mono τ _ _ (fun rk rS y H2 s2 ik=>?_) h⟩;obtain⟨k,j,a1,a2,a3⟩:=rS;subst a1;cases (show y=.int k from ik);have fi:=s2 _ _ sq;refine⟨a,xs,k,j,rfl,rfl,fi,by rw[<-al.length];exact a2,?_⟩;have fC:AllS X.K H2 (ds.set j d) (xs.set j u):=AllS.set (A2.mono (Kp.of s2) _ _ ir) j (al.mono (Kp.of s2) _ _);exact a3 σ _ ((Kp.of (s1.trans s2)).trans (Q2d fi _)) ((fB.mono s2).mutate e2 ig h0 fi fC)
end
section
variable {E:F9}{Q:R->Prop}{d:D}{ds:O D}{j:Int}
@[simp] theorem V6f:Z2h n we τ Q=∃kvs,τ[n]?=some (some (.dt kvs))/\we τ fun r=>∃ds ks d,r=.st (.tup ds)/\W3 ds=some ks/\F8 kvs ks=some d/\Q (.st d):=rfl
@[simp] theorem V6h:Z2i n we τ QB=∃kvs,τ[n]?=some (some (.dt kvs))/\we τ fun r=>∃ds ks,r=.st (.tup ds)/\W3 ds=some ks/\QB (!(F8 kvs ks).isSome):=rfl
@[simp] theorem V6i:Z2j n wa wb E τ=wb τ fun r=>∃d,r=.st d/\∃kvs,τ[n]?=some (some (.dt kvs))/\wa τ fun rk=>∃ds ks,rk=.st (.tup ds)/\W3 ds=some ks/\kvs.length<sizeLine/\E.nx (τ.set n (some (.dt (P8 kvs ks d)))):=rfl
@[simp] theorem V7g:Z2q n wa wb E τ=wb τ fun r=>∃d,r=.st d/\∃ds,τ[n]?=some (some (.own ds))/\wa τ fun rk=>∃k j,rk=.st (.int k)/\ixN ds.length k=some j/\E.nx (τ.set n (some (.own (ds.set j d)))):=rfl
@[simp] theorem V6n {Q:O D->C3->Prop}:Z5c wr τ Q=wr τ fun rs=>∃j:Int,rs=[.st (.int j)]/\0<=j/\j<2^62/\Q (Q1e j.toNat) τ:=rfl
@[simp] theorem Y6n {k:Int}:W4 (.nw ds) (.st (.int k)) Q=(-(2^63)<=k/\k<2^63/\ds.length*k.toNat<=sizeLine/\Q (.nw (List.replicate k.toNat ds).flatten)):=rfl
@[simp] theorem V1n {lo:Am Int}:slD (.bw ds) lo hi Q=Q (.nw (Q0g ds lo hi)):=rfl
end
theorem Y2w {f:D->D->D}:∀(ps:O (D×D)) (o1 o2:Am Sl) (Q:O D->Prop),(∀p∈ps,∀Q':R->Prop,Q' (.st (f p.1 p.2))->we (some (.dat p.1)::some (.dat p.2)::rest) Q') ->
  Q (ps.map fun p=>f p.1 p.2)->M7 (P3 2 (F7 (B6 0) (F7 (B6 1) Q4))) S0 we (ps.map fun p=>.tup [p.1,p.2]) (o1::o2::rest) Q
 |[],o1,o2,Q,h,q=>q
 |p::ps,o1,o2,Q,h,q=>by
  simp only[av,M7];simp;refine h p aj _ ⟨_,rfl,?_⟩;exact Y2w ps _ _ _ (fun p hp=>h p (ag _ hp)) q
def J0q {K:Fg9}    {ds:O D}(hq:∀H',Kp H H'->A5 H0 H'->E8 K H' l xs)(al:AllS K H ds xs):Yl K H0 (Iel K l) (J9 ds) H where
 go:=fun H' k s i hi=>by
  rw[Q4d]at hi;exact⟨xs,xs[i]'(by rw[<-al.length];exact hi),hq H' k s,ac _⟩
 yld:=fun H' k s i v eR d hd cy=>by
  obtain⟨T,x,hx,hT,hv,hH⟩:=cy;subst hH hv;refine⟨G7 hT _,?_⟩;obtain⟨y,hy,rfl⟩:=Z0k hd;obtain⟨v,hv,q⟩:=al.get hy;rw[hx xs (hq H' k s)]at hv;cases hv;exact A2.s_tup upd_same (AllS.cons Q1g (AllS.cons (q.mono (k.trans (Kp.of (G7 hT _))) _ _) AllS.nil))
 stop:=fun H' k s=>⟨xs,hq H' k s,by rw[Q4d];exact al.length.symm⟩
section
variable {a:Aq}
def Q8m (wr:WA):WI:=fun τ Q=>wr τ fun rs=>∃ds,rs=[.st (.lst ds)]/\Q (J9 ds) τ
def Z9z {pt:Pos}(hg:Gl X "enumerate")(hm:X.mg "enumerate"=none)(hv:bootBuiltins "enumerate"=some (.type "enumerate"))(ha:DA X H0 [a] wr)(he:starEach [a] X.env=(false,eval a X.env)::starEach [] X.env:=by rfl)(hpl:(backTo pos (starEach [] X.env)).any (·.1)=false:=by rfl):
  DI X H0 (.Tuple gN kk pt) (.Call (.Name "enumerate" p) [a] [] pos) (Q8m wr) where
 mono:=fun τ P Q f h=>ha.mono τ _ _ (fun r⟨ds,e1,q⟩=>⟨ds,e1,f _ _ q⟩) h
 pi:=by
  intro ae s σ H R I ⟨τ,hR,h⟩;refine bn (Q1k I hg hm hv ?_ (?G) (?G));refine bb (B3 (ha.pa pos ae s σ H (fun vs H1=>A5 H H1/\∃l xs ds,vs=[.ref l]/\FzL X.K H1 l xs/\AllS X.K H1 ds xs/\∀J H',Kp H H'->C1 X.K H0 τ σ H'->Yl X.K H0 J (J9 ds) H'->R J H') I
   ⟨τ,hR,ha.mono τ _ _ (fun rs ⟨ds,e1,q⟩ vs H1 s1 dA=>⟨s1,by
    subst e1;obtain⟨v,rfl,ir⟩:=Z6 dA;have ir:A2 X.K H1 (.lst ds) v:=ir;unfold A2 at ir;obtain⟨l,xs,rfl,sq,al⟩:=ir;exact⟨l,xs,ds,rfl,sq,al,q⟩⟩) h⟩) fun us s1 bB=>?_) he hpl
  obtain⟨vs,H1,I1,rv,sm,l,xs,ds,e1,sq,al,q⟩:=bB;subst e1;have big:∀b∈[s1.heap.objs.size+1,s1.heap.objs.size],N3 X ae H1 b:=fun b hb=>by
   have hb:s1.heap.objs.size<=b:=by
    rcases ar.mp hb with rfl |hb
    ·exact eD _
    ·have e:b=s1.heap.objs.size:=by simpa using hb
     rw[e];exact ak _
   exact I1.fpOk hb (I1.hok.fresh hb)
  obtain⟨u,rfl,ru⟩:=Z2 rv;cases (show u=Value.ref l from ru);obtain⟨aY,iy,pl,kZ⟩:=I1.list sq.sq;obtain⟨o,n,ho,_⟩:=id pl;have hl:l<s1.heap.objs.size:=aA ho;refine call_enumerate_list pl.isList fun h' he hi hz k=>?_;refine cw he ⟨s1.heap.objs.size+1,[s1.heap.objs.size+1,s1.heap.objs.size],_,_,H1,rfl,I1.kept (t':=s1.toks) k,Y9z (l:=l) (dX _) (aB (bt hl)) (aB hl),⟨⟨_,he⟩,hi⟩,big,q _ _ (Kp.of sm) (hR.mono sm) (J0q (xs:=xs) (fun H' k _=>(k.fzL sq).sq) al)⟩
end
@[simp] theorem V6m {Q:O D->C3->Prop}:Q8m wr τ Q=wr τ fun rs=>∃ds,rs=[.st (.lst ds)]/\Q (J9 ds) τ:=rfl
theorem W4t {a b:Int}{c cv:An}(l:O An)(t:TriplesOk l)(h:codeAmong pos (l++[rawInt a,rawInt b,c])=some cv):codeAmong pos l=some cv\/cv=c:=by
 fun_induction TriplesOk l with
 |case1=>
  right
  have h:(if (a==(pos.line:Int)&&b==(pos.col:Int))=true then some c else codeAmong pos [])=some cv:=h;split at h
  ·exact(aC h).symm
  ·cases h
 |case2 i ti j tj x rest ih=>
  have h:(if (i==(pos.line:Int)&&j==(pos.col:Int))=true then some x else codeAmong pos (rest++[rawInt a,rawInt b,c]))=some cv:=h;show(if (i==(pos.line:Int)&&j==(pos.col:Int))=true then some x else codeAmong pos rest)=some cv\/_;split at h
  ·rename_i hc;rw[aO hc];exact .inl h
  ·rename_i hc;rw[aI hc];exact ih t h
 |case3=>exact t.elim
def W0:HO:=.ext fun _=>True
def Q9z {w:Av}    {o:Obj}(e:h.get? a=?P):ObjOk P w H h a (.frz o W0):=⟨e,trivial,⟨o,e⟩,fun _ _ _ _=>trivial⟩
def Q0a (mg:Str->Am An)(base:Heap):Prop:=∃bm ob,mg "__builtins__"=some (.ref bm)/\bm≠builtinsNs/\base.get? bm=some ob/\ob.cls=.type "module"/\ob.dict=some builtinsNs/\ob.data=.plain
abbrev V4 (X:Cx)(params:Arguments)(body:Aq)(sc:Scope)(clos:O (Str×Ap))(c':Ap)(ctv:An):Obj:=
 PySem.W.kla_obj "<lambda>" (X.env.qual++"<lambda>") params body sc clos ((X.mg "__name__").getD .none) c' ctv
def tLam (P:Ap)(ob:Ap->An->Obj):TE:=fun _ H Q=>∀f c' oc ctv H',A5 H H'->Q5a oc->H f=none->H' c'=some (.frz oc (.own P))->H' f=some (.frz (ob c' ctv) W0)->(∀b,H' b≠none->H b=none->b=f\/b=c')->Q (.ref f) H'
section
variable {body:Aq}{c P:Ap}
theorem Q9a (hB:Q0a X.mg X.base)(eM:X.env.code=.ref c)(hC:PySem.W.codeHdIn X.K c P=true)(jD:closureFor sc X.env=pure clos)(hd:defaultsOf params X.env=([],[]):=by rfl):
  PE X (.Lambda params body sc pos) (fun σ H Q=>H P=some .tab/\tLam P (fun c' ctv=>V4 X params body sc clos c' ctv) σ H Q):=by
 intro ae s σ H Q I ⟨hP,h⟩;refine PySem.W.kla_eval hd ?_;have jo:s.heap.Ns mainGlobals X.mg:=I.mod.glob.keeps I.bk;have C:=u6 I.kIn hC;obtain⟨ps,eP,ht,en⟩:=(show ObjOk X.prog X.w H s.heap P .tab from I.hok P _ hP)
 obtain⟨bm,ob,b1,b2,b3,b4,b5,b6⟩:=hB;have bH:∀b o,X.base.get? b=?P->b≠P:=fun b o e z=>by
  have:=(I.bs b o e).2;rw[z,hP]at this;cases this
 have sN:mainGlobals≠P:=by
  obtain⟨o,es,ep,e,hd,_⟩:=I.mod.glob;exact bH _ _ e
 have kX:bm≠mainGlobals:=fun same=>by
  obtain⟨go,_,_,ge,gd,_⟩:=I.mod.glob;rw[same,ge]at b3;cases b3;rw[gd]at b6;cases b6
 have uT:s.heap.BuiltinsAt X.mg P:=⟨bm,ob,b1,b2,kX,bH _ _ b3,I.bk _ _ b3,b4,b5,b6⟩
 cases hf:codeAmong pos ps.toList with
 |some cv=>
  obtain⟨c',oc,rfl,fe,fX⟩:=en pos cv hf;refine PySem.W.kla_makeFunctionHit (mg:=X.mg) jD I.ok.glob jo eM C eP ht hf uT fun ctv h' tk hk hsz=>?_;have lg:H h'.objs.size=none:=I.hok.fresh hsz;have ne:∀b u,H b=some u->b≠h'.objs.size:=fun b u e z=>by rw[z,lg]at e;cases e
  have kp:∀b o,?A6=?P->(h'.push (V4 X params body sc clos c' ctv)).get? b=?P:=fun b o e=>af _ (hk b o e);have lt:∀b o,?A6=?P->b≠h'.objs.size:=fun b o e=>aB (ay (aA e) hsz);refine⟨.ref h'.objs.size,A9 H h'.objs.size (.frz (V4 X params body sc clos c' ctv) W0),I.un (t':=tk) ⟨fun b o e _ _ _=>kp b o e,fun b o e _ _ _=>⟨o.slots,kp b o e⟩,fun b o e n _=>by rw[B2 (lt b o e)];exact n,fun b o e _=>⟨o,kp b o e⟩,
   fun b xs e=>by rw[B2 (ne b _ e)];exact e,fun b o u e=>by rw[B2 (ne b _ e)];exact e,fun b ps e=>⟨#[],by rw[B2 (ne b _ e),e];simp⟩⟩ ?_,rfl,?_⟩
  ·refine G4.laid (h:=s.heap) I.hok kp hsz (Q9z (aG _ rfl))
  ·exact h _ c' oc ctv _ (fun b u e=>by rw[B2 (ne b _ e)];exact e) fX lg (by rw[B2 (ne _ _ fe)];exact fe) upd_same fun b n1 n2=>by
    by_cases hb:b=h'.objs.size
    ·exact .inl hb
    ·rw[B2 hb]at n1;exact absurd n2 n1
 |none=>
  refine PySem.W.kla_makeFunction (mg:=X.mg) jD I.ok.glob jo eM C eP ht hf sN uT fun c' ctv h' tk hx iA cm sv uJ=>?_;obtain⟨c₂,oc,vs,tq,e2,fX,uR,hv⟩:=sv;cases e2;have kf:H c'=none:=I.hok.fresh iA;have lX:H h'.objs.size=none:=I.hok.fresh (aU iA (dP cm));have y9:c'≠h'.objs.size:=aB cm;have zS:P≠c':=fun z=>by rw[<-z,hP]at kf;cases kf
  have zR:P≠h'.objs.size:=fun z=>by rw[<-z,hP]at lX;cases lX
  have wQ:∀b o,?A6=?P->b≠c':=fun b o e=>aB (ay (aA e) iA);have wP:∀b o,?A6=?P->b≠h'.objs.size:=fun b o e=>aB (ay (aA e) (aU iA (dP cm)));have wJ:∀b u,H b=some u->b≠c':=fun b u e z=>by rw[z,kf]at e;cases e
  have wI:∀b u,H b=some u->b≠h'.objs.size:=fun b u e z=>by rw[z,lX]at e;cases e
  have hH:∀b,b≠c'->b≠h'.objs.size->A9 (A9 H c' (.frz oc (.own P))) h'.objs.size (.frz (V4 X params body sc clos c' ctv) W0) b=H b:=fun b n1 n2=>by rw[B2 n2,B2 n1]
  have tF:A9 (A9 H c' (.frz oc (.own P))) h'.objs.size (.frz (V4 X params body sc clos c' ctv) W0) c'=some (.frz oc (.own P)):=by rw[B2 y9,upd_same]
  have kp:∀b o,b≠P->?A6=?P->(h'.push (V4 X params body sc clos c' ctv)).get? b=?P:=fun b o n e=>af _ (hx b o n e);have nP:∀b,H b=none->b≠P:=fun b n z=>by rw[z,hP]at n;cases n
  have sm:A5 H (A9 (A9 H c' (.frz oc (.own P))) h'.objs.size (.frz (V4 X params body sc clos c' ctv) W0)):=fun b u e=>by rw[hH b (wJ b u e) (wI b u e)];exact e
  refine⟨.ref h'.objs.size,A9 (A9 H c' (.frz oc (.own P))) h'.objs.size (.frz (V4 X params body sc clos c' ctv) W0),I.un (t':=tk) ⟨fun b o e n _ _=>kp b o (nP b n) e,fun b o e n _ _=>⟨o.slots,kp b o (nP b n) e⟩,fun b o e n _=>by rw[hH b (wQ b o e) (wP b o e)];exact n,fun b o e _=>?_,
   fun b xs e=>sm _ _ e,fun b o u e=>sm _ _ e,fun b ps e=>⟨#[],by rw[sm _ _ e];simp⟩⟩ ?_,rfl,?_⟩
  ·by_cases hb:b=P
   ·exact⟨_,af _ (hb▸uJ)⟩
   ·exact⟨o,kp b o hb e⟩
  ·intro b u e
   by_cases uU:b=h'.objs.size
   ·subst uU;rw[upd_same]at e;cases e;exact Q9z (aG _ rfl)
   by_cases hbc:b=c'
   ·subst hbc;rw[tF]at e;cases e;exact⟨af _ fX,⟨_,af _ fX⟩⟩
   rw[hH b hbc uU]at e
   by_cases hbP:b=P
   ·subst hbP;rw[hP]at e;cases e;refine⟨_,af _ uJ,?_,fun cf cv q=>?_⟩
    ·have:=TriplesOk_snoc (pos.line:Int) (pos.col:Int) (.ref c') ps.toList ht;simpa using this
    ·have q:codeAmong cf (ps.toList++[rawInt (pos.line:Int),rawInt (pos.col:Int),.ref c'])=some cv:=by simpa using q
     rcases W4t _ ht q with q |q
     ·obtain⟨c2,o2,e1,e2,e3⟩:=en cf cv q;exact⟨c2,o2,e1,sm _ _ e2,e3⟩
     ·exact⟨c',oc,q,tF,⟨vs,_,tq,uR,hv⟩⟩
   ·refine(I.hok b u e).stay (fun d v hc q=>kp d v ?_ q) (fun d v _ q=>sm _ _ q) fun d xs q=>sm _ _ q;rcases hc with z |z
    ·rw[z];exact hbP
    ·intro z2;rw[z2,hP]at z;cases z
  ·exact h _ c' oc ctv _ sm ⟨vs,_,tq,uR,hv⟩ lX tF upd_same fun b n1 n2=>by
    by_cases hb:b=h'.objs.size
    ·exact .inl hb
    by_cases hb2:b=c'
    ·exact .inr hb2
    ·rw[hH b hb2 hb]at n1;exact absurd n2 n1
end
structure T8 where
 name:Str
 addr:Ap
 obj:Obj
 val:V
 slot:Sl
variable {caps:O T8}
def M0 (S:O Ap)(H:Hp):Hp:=fun b=>if b∈S then none else H b
theorem Q8l (h:b∈S):M0 S H b=none:=aO h
theorem Q0h (h:b∉S):M0 S H b=H b:=aI h
theorem W7d {u:HO}(h:M0 S H b=some u):b∉S/\H b=some u:=by grind [Q8l,Q0h]
def showS (S:O Ap)(H H':Hp):Hp:=fun b=>if b∈S then H b else H' b
def Y8v (h:b∈S):showS S H H' b=H b:=aO h
def Z1o (h:b∉S):showS S H H' b=H' b:=aI h
def U4 (S:O Ap)(H:Hp):Prop:=∀c∈S,∃o u,H c=some (.frz o W0)/\o.data=.cell u
section
variable {w:Av}
def U4.out (hS:U4 S H)  {u:HO}(e:H b=some u)(n:∀o,u≠.frz o W0):b∉S:=fun hb=>by
 obtain⟨o,_,q,_⟩:=hS b hb;rw[e]at q;exact n o (aC q)
def U4.tup (hS:U4 S H)   (e:H b=some (.tup xs)):M0 S H b=some (.tup xs):=by
 rw[Q0h (hS.out e (by intro o z;cases z))];exact e
def U4.own (hS:U4 S H)  {u:HO}(ow:Q9u a u)(e:H b=some u):M0 S H b=some u:=by
 rw[Q0h (hS.out e (by
  intro o z;rcases ow with rfl |⟨o',rfl⟩
  ·cases z
  ·injection z with _ z;cases z))]
 exact e
def G4.hid (x:G4 P w H h)(hS:U4 S H)(k:∀b u,h.get? b=some u->h'.get? b=some u):G4 P w (M0 S H) h':=fun b u e=>by
 obtain⟨hb,e⟩:=W7d e;exact(x b u e).stay (fun c v _ q=>k c v q) (fun c v ow q=>hS.own ow q) fun c xs q=>hS.tup q
end
def Q3t (Φ:Hp->Prop):Prop:=∀(S:O Ap) (H:Hp),U4 S H->Φ H->Φ (M0 S H)
mutual
theorem A2.hid {K:Fg9}{S:O Ap}{H:Hp}(hS:U4 S H):∀(d:D) (v:V),A2 K H d v->A2 K (M0 S H) d v
 |.non,v,h=>by unfold A2 at h ⊢;exact h
 |.bl _,v,h=>by unfold A2 at h ⊢;exact h
 |.int _,v,h=>by unfold A2 at h ⊢;exact h
 |.str _,v,h=>by unfold A2 at h ⊢;exact h
 |.tup ds,v,h=>by
  unfold A2 at h ⊢;obtain⟨a,xs,e,q,t⟩:=h;exact⟨a,xs,e,hS.tup q,AllS.hid hS ds xs t⟩
 |.lst ds,v,h=>by
  unfold A2 at h ⊢;obtain⟨a,xs,e,q,t⟩:=h;refine⟨a,xs,e,?_,AllS.hid hS ds xs t⟩;rcases q with⟨o,q⟩ |q
  ·exact .inl ⟨o,by rw[Q0h (hS.out q (by intro o z;injection z with _ z;cases z))];exact q⟩
  ·exact .inr q
theorem AllS.hid {K:Fg9}{S:O Ap}{H:Hp}(hS:U4 S H):∀(ds:O D) (xs:O V),AllS K H ds xs->AllS K (M0 S H) ds xs
 |[],xs,h=>by unfold AllS at h ⊢;exact h
 |d::ds,xs,h=>by
  unfold AllS at h ⊢;obtain⟨v,r,e,q,t⟩:=h;exact⟨v,r,e,A2.hid hS d v q,AllS.hid hS ds r t⟩
end
def Q4z (K:Fg9)(H:Hp):Sl->V->Prop
 |.dat d,v=>A2 K H d v
 |.cl a Φ,v=>v=.ref a/\Φ H/\Q6a Φ/\Q3t Φ
 |_,_=>False
theorem Q4z.mono {K:Fg9}  (k:Kp H H'):∀{s:Sl}{v:V},Q4z K H s v->Q4z K H' s v
 |.dat d,v,h=>A2.mono k d v h
 |.cl a Φ,v,h=>⟨h.1,h.2.2.1 _ _ k h.2.1,h.2.2⟩
 |.own _,_,h=>h.elim
 |.bor _,_,h=>h.elim
 |.bd _,_,h=>h.elim
 |.dk _,_,h=>h.elim
 |.dt _,_,h=>h.elim
 |.ob _,_,h=>h.elim
 |.ins _ _ _,_,h=>h.elim
 |.ll _ _,_,h=>h.elim
theorem Q4z.slot {K:Fg9}   (hS:U4 S H):∀{s:Sl}{v:V},Q4z K H s v->Z4 K (M0 S H) (M0 S H) s v/\s.mut=false
 |.dat d,v,h=>⟨A2.hid hS d v h,rfl⟩
 |.cl a Φ,v,h=>⟨⟨h.1,h.2.2.2 _ _ hS h.2.1,h.2.2.1⟩,rfl⟩
 |.own _,_,h=>h.elim
 |.bor _,_,h=>h.elim
 |.bd _,_,h=>h.elim
 |.dk _,_,h=>h.elim
 |.dt _,_,h=>h.elim
 |.ob _,_,h=>h.elim
 |.ins _ _ _,_,h=>h.elim
 |.ll _ _,_,h=>h.elim
structure Z9t (K:Fg9)(H:Hp)(p:T8):Prop where
 at_:H p.addr=some (.frz p.obj W0)
 cell:∃u,p.obj.data=.cell (some u)/\C4 p.val u
 rel:Q4z K H p.slot p.val
def V9 (K:Fg9)(caps:O T8)(f c':Ap)(fo:Obj)(H:Hp):Prop:=
 H f=some (.frz fo W0)/\(∃oc Pt,H c'=some (.frz oc (.own Pt))/\Q5a oc)/\∀p∈caps,Z9t K H p
def V9.mono {K:Fg9}   {fo:Obj}:Q6a (V9 K caps f c' fo):=fun H H' k ⟨h1,⟨oc,Pt,h2,h3⟩,h4⟩=>
 ⟨k.frz _ _ _ h1,⟨oc,Pt,k.frz _ _ _ h2,h3⟩,fun p hp=>⟨k.frz _ _ _ (h4 p hp).at_,(h4 p hp).cell,(h4 p hp).rel.mono k⟩⟩
def V9.hid0 {K:Fg9}  {fo:Obj}(hf:∀u,fo.data≠.cell u):Q3t (V9 K [] f c' fo):=fun S H hS cy=>by
 obtain⟨h1,⟨oc,Pt,h2,h3⟩,_⟩:=cy;refine⟨?_,⟨oc,Pt,?_,h3⟩,fun p hp=>absurd hp ?E⟩
 ·rw[Q0h]
  ·exact h1
  ·intro hb;obtain⟨o,u,q,d⟩:=hS _ hb;rw[h1]at q;injection q with q
   injection q with q
   exact hf u (q▸d)
 ·rw[Q0h (hS.out h2 (by intro o z;injection z with _ z;cases z))];exact h2
def Q8q (K:Fg9)(n:Nat)(Φ:Hp->Prop)(sp:E3):Sp:=fun vs H Q _=>∃(rs:O R) (r:R),rs.length=n/\L6 K (fun _=>none) H rs vs/\rs.all L8=true/\Φ H/\sp (rs.map nrm) r/\∀v H',A5 H H'->E7 K H H' r v->Q v H'
abbrev O4 (caps:O T8):O (Str×Ap):=caps.map fun p=>(p.name,p.addr)
structure Q3u (ps fr:O Str)(sc:Scope):Prop where
 kind:sc.kind=.function
 co:sc.isCoroutine=false
 gen:sc.isGenerator=false
 nd:(ps++fr).Nodup
 par:∀x∈ps,sc.names.lookup x=some .local
 fre:∀x∈fr,sc.names.lookup x=some .free
 nocell:∀y∈sc.names,y.2≠.cell
 all:∀y∈sc.names,y.2=.free->y.1∈fr
def cxL (P:Au)(w:Av)(K:Fg9)(mg:Str->Am An)(base:Heap)(N:O Str)(q:Str)(sc:Scope)(f c':Ap)(caps:O T8)(A:As)(outer:O Env)(s:Ao)(H:Hp):Cx where
 prog:=P
 w:=w
 K:=K
 mg:=mg
 base:=base
 A:=A.deeper (PySem.W.envX q sc s.heap.objs.size f (.ref c') (O4 caps))
 N:=N
 s₀:=s
 H₀:=H
 env:=PySem.W.envX q sc s.heap.objs.size f (.ref c') (O4 caps)
 outer:=outer
 stack:=PySem.W.envX q sc s.heap.objs.size f (.ref c') (O4 caps)::outer
 ex:=[]
 calm:=true
 fn:=fun _=>false
 pn:=[]
 xe:=?A4
def Z0u {c:Ap}(h:(O4 caps).lookup x=some c):∃p∈caps,p.name=x/\p.addr=c:=by
 have:=bI h;obtain⟨p,hp,e⟩:=aq.mp this;cases e;exact⟨p,hp,rfl,rfl⟩
theorem Z3y:∀{caps:O T8}{p:T8},(caps.map (·.name)).Nodup->p∈caps->(O4 caps).lookup p.name=some p.addr
 |[],_,_,mem=>absurd mem ?E
 |q::r,p,nd,mem=>by
  rw[av,bg]at nd;show List.lookup p.name ((q.name,q.addr)::O4 r)=_;rcases ar.mp mem with rfl |mem
  ·simp[List.lookup]
  ·have dM:p.name≠q.name:=fun z=>nd.1 (z▸gC mem);rw[jb];have:(p.name==q.name)=false:=by simpa using dM
   rw[this];exact Z3y nd.2 mem
theorem Y1m:∀{caps:O T8}{p q:T8},(?M).Nodup->p∈caps->q∈caps->p.addr=q.addr->p=q:=by intro caps;induction caps<;>grind [av,bg]
section
variable {Pg:Au}{Wd:Av}{Ar:As}{Rs:Result->Ao->Prop}
def W5c {args:Args}{o:Obj}  {body:Aq}{q:Str}(deep:Ar.depth<recursionLimit)(at_:s.heap.get? a=?P)(is:o.data=.func fd)(c0:fd.scope.isCoroutine=false)(g0:fd.scope.isGenerator=false)(bd:fd.body=.expr body)(cd:s.heap.CodeRec fd.code q)
  (go:wpAny (model Pg Wd) Ar.in1 (bindArgs fd args)
   (fun bs s1=>wpAny (model Pg Wd) Ar.in1 (newFunctionEnv fd.scope fd.globals fd.closure bs (q++".<locals>.") (some a) fd.code none fd.builtins) (fun ev s2=>s2.heap.NoLimit/\codeAny (model Pg Wd) Ar (.expr body ev) Rs s2) (fun x s1=>Rs (.error x) s1) s1)
   (fun x s1=>Rs (.error x) s1) s):codeAny (model Pg Wd) Ar (.call (.ref a) args) Rs s:=by
 obtain⟨c,oc,fs,tk,hc,fX,y2,hn⟩:=cd;have run:wpAny (model Pg Wd) Ar.in1 (callAny (.ref a) args) (fun fin s1=>match fin with |.done fl=>Rs (.ok fl) s1 |.again c'=>c'.quiet=true/\codeAny (model Pg Wd) Ar c' Rs s1) (fun x s1=>Rs (.error x) s1) s:=by
  unfold callAny;refine aa (wpAny_load at_ ?_);rw[is];dsimp only;rw[hc]at go;unfold callFunction;simp only[c0,g0,bd,hc];refine aa (m:=field (.ref c) 1) (bu fX y2 hn (aa (am (aa (B3 go fun bs s1 h1=>?_)))));exact aa (B3 h1 fun ev s2⟨kY,h2⟩=>aa (wpAny_enterFrame kY deep (am ⟨rfl,h2⟩)))
 exact codeAny_of_tree run
end
theorem J0z:∀{ps:O Str}{us:O An}{i:Nat},ps.Nodup->ps[i]?=some x->us[i]?=some u->(ps.zip us).reverse.lookup x=some u:=by
 intro ps us i nd h1 h2;have hm:(x,u)∈(ps.zip us).reverse:=by
  rw[Af];refine au (i:=i) ?_;rw[cC];exact⟨h1,h2⟩
 have un:∀v,(x,v)∈(ps.zip us).reverse->v=u:=fun v hv=>by
  rw[Af]at hv;obtain⟨j,hj⟩:=List.getElem?_of_mem hv;rw[cC]at hj;have hi:i<ps.length:=(aD.mp h1).1;have sM:i=j:=(List.getElem?_inj hi nd).mp (h1.trans hj.1.symm);subst sM;rw[h2]at hj;exact(aC hj.2).symm
 cases hl:(ps.zip us).reverse.lookup x with
 |none=>
  have:=List.lookup_eq_none_iff.mp hl _ hm;simp at this
 |some v=>rw[un v (bI hl)]
section
variable {w:Av}{K:Fg9}{q:Str}{outer:O Env}
theorem W7v (S:Q3u ps (caps.map (·.name)) sc)(jl:(?M).Nodup)(hd:A.handled=none)(e0:Q5v P w K mg base A outer s H)(hl:vs.length=ps.length)(r:C0 vs us)(hc:∀p∈caps,Z9t K H p)
  {h1:Heap}{tk:Nat} (lU:h1.Ns s.heap.objs.size fun x=>(ps.zip us).reverse.lookup x) (hk:∀b o,?A6=?P->h1.get? b=?P):
  A0 (cxL P w K mg base (ps++caps.map (·.name)) q sc f c' caps A outer s (M0 (?M) H)) [] ((vs++caps.map (·.val)).map some) (M0 (?M) H) {s with heap:=h1,toks:=tk}:=by
 have hS:U4 (?M) H:=fun c fe=>by
  obtain⟨p,hp,rfl⟩:=aq.mp fe;obtain⟨u,hu,_⟩:=(hc p hp).cell;exact⟨_,_,(hc p hp).at_,hu⟩
 have mX:∀b,H b=none->M0 (?M) H b=none:=fun b n=>by
  unfold M0;split
  ·rfl
  ·exact n
 have lO:(caps.map (·.name)).Nodup:=(bc.mp S.nd).2.1;have pG:∀p∈caps,∃u,h1.IsCell p.addr (some u)/\C4 p.val u:=fun p hp=>by
  obtain⟨u,hu,ru⟩:=(hc p hp).cell;exact⟨u,⟨p.obj,hk _ _ (e0.hok _ _ (hc p hp).at_).1,hu⟩,ru⟩
 have gP:∀b:Ap,b∉(cxL P w K mg base (ps++caps.map (·.name)) q sc f c' caps A outer s (M0 (?M) H)).ex:=fun b z=>absurd (show b∈([]:O Ap)from z) ?E;refine⟨⟨e0.mod,S.kind,rfl,rfl,ak _,fun y z c h1 h2=>?_,fun y hy=>?_,fun y c hf _=>absurd (show false=true from hf) (?G),fun _=>hd,Around.frames_deeper e0.frames,.inr ⟨rfl,rfl⟩,fun b z=>absurd z (gP b),fun b o e=>⟨(e0.bs b o e).1,mX _ (e0.bs b o e).2⟩,e0.bsz,fun b _ _=>gP b,fun b z=>absurd z (gP b),e0.funs,fun b hb=>mX _ (e0.frf b hb)⟩,
  rfl,e0.bare,Un.kept hk,⟨_,lU,fun i y v h1 h2 h3=>?_⟩,fun y c h=>?_,mX _ (e0.hok.fresh (ak _)),fun y c h=>?_,fun p hp=>absurd (show p∈([]:Pn9)from hp) ?E,e0.hok.hid hS hk,?_⟩
 ·obtain⟨p,hp,rfl,e1⟩:=Z0u h1;obtain⟨p',xG,rfl,e2⟩:=Z0u h2;rw[Y1m jl hp xG (e1.trans e2.symm)]
 ·have hy:sc.names.lookup y=some .cell\/sc.names.lookup y=some .free:=hy;rcases hy with hy |hy
  ·exact absurd rfl (S.nocell _ (bI hy))
  ·have:=S.all _ (bI hy) rfl;obtain⟨p,hp,e⟩:=aq.mp this;have e:p.name=y:=e;exact⟨p.addr,by rw[<-e];exact Z3y lO hp⟩
 ·by_cases hi:i<ps.length
  ·have hp:ps[i]?=some y:=by rw[show(cxL P w K mg base (ps++caps.map (·.name)) q sc f c' caps A outer s (M0 (?M) H)).N=ps++caps.map (·.name)from rfl,aJ hi]at h1;exact h1
   have hv:vs[i]?=some v:=by
    rw[ah,aJ (?H)]at h2;cases e:vs[i]? with
    |none=>rw[e]at h2;cases h2
    |some a=>rw[e]at h2;cases h2;rfl
   obtain⟨u,hu,rv⟩:=r.get hv;exact⟨u,rv,.inl ⟨S.par y (au hp),J0z (bc.mp S.nd).1 hp hu⟩⟩
  ·have hp:(caps.map (·.name))[i-ps.length]?=some y:=by rw[show(cxL P w K mg base (ps++caps.map (·.name)) q sc f c' caps A outer s (M0 (?M) H)).N=ps++caps.map (·.name)from rfl,aR (?H)]at h1;exact h1
   have hv:(caps.map (·.val))[i-ps.length]?=some v:=by
    rw[ah,aR (?H),hl]at h2;cases e:(caps.map (·.val))[i-ps.length]? with
    |none=>rw[e]at h2;cases h2
    |some a=>rw[e]at h2;cases h2;rfl
   rw[ah]at hp hv;cases e:caps[i-ps.length]? with
   |none=>rw[e]at hp;cases hp
   |some p=>
    rw[e]at hp hv;cases hp;cases hv;have sx:=au e;obtain⟨u,eZ,ru⟩:=pG p sx;exact⟨u,ru,.inr ⟨.inr (S.fre _ (gC sx)),p.addr,Z3y lO sx,eZ⟩⟩
 ·obtain⟨p,hp,rfl,rfl⟩:=Z0u h;obtain⟨u,eZ,_⟩:=pG p hp;exact⟨_,eZ⟩
 ·obtain⟨p,hp,rfl,rfl⟩:=Z0u h;exact Q8l (gC hp)
 ·rw[ai,ao,ai,hl];show _=(ps++caps.map (·.name)).length;rw[ao,ai]
end
def A5.showS (hS:U4 S H)(sm:A5 (M0 S H) H'):A5 H (showS S H H'):=fun b u e=>by
 by_cases hb:b∈S
 ·rw[Y8v hb];exact e
 ·rw[Z1o hb];exact sm b u (by rw[Q0h hb];exact e)
theorem Q8k {w:Av}{K:Fg9}   {k:Nat}    {body:Aq}  {ctv:An}    
  (S:Q3u ps (caps.map (·.name)) sc) (jl:(?M).Nodup)
  (bS:∀(A:As) (outer:O Env) (s:Ao) (H:Hp) (q:Str),E1 k (A.deeper (PySem.W.envX q sc s.heap.objs.size f (.ref c') (O4 caps)))->DE (cxL P w K mg base (ps++caps.map (·.name)) q sc f c' caps A outer s H) H body wb)
  (hw:∀rs r,rs.length=ps.length->sp rs r->∃(ds:O D) (d:D),rs=ds.map R.st/\r=.st d/\wb (ds.map (fun d=>some (Sl.dat d))++caps.map fun p=>some p.slot) fun r'=>r'=.st d):
  O3 P w K mg base G3 (k+1) f (PySem.W.kla_fn name qual params body sc (O4 caps) pm (.ref c') ctv) ps (Q8q K ps.length (V9 K caps f c' (PySem.W.kla_obj name qual params body sc (O4 caps) pm c' ctv)) sp):=by
 refine⟨fun vs H Q E h=>?_,fun A outer s H args us vs Q E hr e0 hb r ii=>?_⟩
 ·obtain⟨rs,r,hl,al,_⟩:=h;rw[<-al.length];exact hl
 obtain⟨rs,r0,hl,al,ok,⟨hf,⟨oc,Pt,hc,qc⟩,iZ⟩,h1,h2⟩:=ii;have xN:vs.length=ps.length:=by rw[<-al.length];exact hl
 have kY:s.heap.NoLimit:=e0.mod.nolimit.keeps fun b o e=>(e0.bs b o e).1;have gf:s.heap.get? f=some _:=(e0.hok _ _ hf).1;have gc:s.heap.get? c'=some oc:=(e0.hok _ _ hc).1;obtain⟨yL,q,tq,fA,hq⟩:=qc;obtain⟨ds,d,jq,rfl,xt⟩:=hw (rs.map nrm) r0 (by rw[ai];exact hl) h1;have hS:U4 (?M) H:=fun c fe=>by
  obtain⟨p,hp,rfl⟩:=aq.mp fe;obtain⟨u,hu,_⟩:=(iZ p hp).cell;exact⟨_,_,(iZ p hp).at_,hu⟩
 refine W5c (fd:=PySem.W.kla_fn name qual params body sc (O4 caps) pm (.ref c') ctv) hr.depth gf rfl S.co S.gen rfl ⟨c',oc,yL,tq,rfl,gc,fA,hq⟩ (hb _ _ _ _ ?_);refine di S.nocell (fun y hy=>S.par _ (cS hy).1) (fun h1 lU uK=>⟨(kY).fresh _ uK,?_⟩) S.kind;have hk:∀b o,?A6=?P->h1.get? b=?P:=fun b o e=>(uK.2 b (aB (aA e))).trans (af _ e);show codeAny _ _ (.expr body (PySem.W.envX q sc s.heap.objs.size f (.ref c') (O4 caps))) _ _;have I:=W7v (q:=q) (f:=f) (c':=c') (tk:=s.toks+(ps.zip us).length) S jl hr.hd e0 xN r iZ lU hk;have hD:=bS A outer s (M0 (?M) H) q (hr.deeper _);have rep:C1 K (M0 (?M) H) (ds.map (fun d=>some (Sl.dat d))++caps.map fun p=>some p.slot) ((vs++caps.map (·.val)).map some) (M0 (?M) H):=by
  have cp:ds.length=vs.length:=by
   have:=congrArg List.length jq;rw[ai,ai]at this;rw[<-this,al.length]
  have args:∀(i:Nat) (d:D),ds[i]?=some d->∃v,vs[i]?=some v/\A2 K H d v:=fun i d e=>by
   have:(rs.map nrm)[i]?=some (.st d):=by rw[jq,ah,e];rfl
   rw[ah]at this;cases e2:rs[i]? with
   |none=>rw[e2]at this;cases this
   |some x=>
    rw[e2]at this;have hx:nrm x=.st d:=aC this;obtain⟨v,hv,q⟩:=al.get e2;refine⟨v,hv,?_⟩;cases x with
    |st y=>cases hx;exact q
    |nw _=>cases hx
    |bw _=>cases hx
    |dk _=>cases hx
    |dt _=>cases hx
    |ob _=>cases hx
    |cl _ _=>cases hx
    |ms _ _ _ _=>cases hx
  have Q8e:∀(i:Nat) (sl:Sl),(ds.map (fun d=>some (Sl.dat d))++caps.map fun p=>some p.slot)[i]?=some (some sl)->∃v,((vs++caps.map (·.val)).map some)[i]?=some (some v)/\Z4 K (M0 (?M) H) (M0 (?M) H) sl v/\sl.mut=false:=fun i sl e=>by
   by_cases hi:i<ds.length
   ·rw[aJ (by rw[ai];exact hi),ah]at e;cases e1:ds[i]? with
    |none=>rw[e1]at e;cases e
    |some y=>
     rw[e1]at e;cases e;obtain⟨v,hv,q⟩:=args i y e1;refine⟨v,?_,A2.hid hS _ _ q,rfl⟩;rw[ah,aJ (?H),hv];rfl
   ·rw[aR (by rw[ai];lia),ai,ah]at e;cases e1:caps[i-ds.length]? with
    |none=>rw[e1]at e;cases e
    |some p=>
     rw[e1]at e;cases e;obtain⟨q1,q2⟩:=(iZ p (au e1)).rel.slot hS;refine⟨p.val,?_,q1,q2⟩;rw[ah,aR (?H),ah,<-cp,e1];rfl
  refine⟨by simp[cp],A5.refl _,fun i sl e=>let ⟨v,a,b,_⟩:=Q8e i sl e;⟨v,a,b⟩,fun i j s t v _ e1 _ m _ _ _=>?_⟩;obtain⟨_,_,_,z⟩:=Q8e i s e1;rw[z]at m;cases m
 refine PySem.W.kla_codeExpr (aP (hD.pe [] _ _ _ (fun v H'=>A5 (M0 (?M) H) H'/\A2 K H' d v) I ⟨_,rep,hD.mono _ _ _ (fun r' oH v H' sm ir=>by subst oH;exact⟨sm,ir⟩) xt⟩) (fun u s' hs=>?_) fun e s' hs=>(show False from hs).elim);obtain⟨v,H',J,rv,sm,q⟩:=hs;have out:∀b u,H' b=some u->b∉?M:=fun b u e im=>by
  obtain⟨o,u',oW,_⟩:=hS b im;have:=J.base.free b o (e0.hok _ _ oW).1 (Q8l im) (by show b∉([]:O Ap);simp);rw[this]at e;cases e
 have dZ:A5 H' (showS (?M) H H'):=fun b u e=>by rw[Z1o (out b u e)];exact e
 have pZ:=A5.showS hS sm;show CE outer P w H s Q u s';refine⟨v,showS (?M) H H',J.os,J.bare,?_,?_,rv,h2 v (showS (?M) H H') pZ (show E7 K H (showS (?M) H H') (.st d) v from A2.mono (Kp.of dZ) d v q)⟩
 ·have hn:∀b,H b=none->b∉?M:=fun b n hb=>by obtain⟨o,u,q,_⟩:=hS b hb;rw[n]at q;cases q
  have hid0:∀b,H b=none->M0 (?M) H b=none:=fun b n=>by rw[Q0h (hn b n)];exact n
  refine⟨fun b o e n hb hx=>J.base.keep b o e (hid0 b n) hb hx,fun b o e n hb hx=>J.base.slot b o e (hid0 b n) hb hx,fun b o e n hx=>?_,fun b o e hx=>J.base.there b o e hx,fun b xs e=>pZ _ _ e,fun b o u e=>pZ _ _ e,fun b ps e=>⟨#[],by rw[pZ _ _ e];simp⟩⟩;rw[Z1o (hn b n)];exact J.base.free b o e (hid0 b n) hx
 ·intro b u e
  by_cases im:b∈?M
  ·rw[Y8v im]at e;obtain⟨o,u',oW,_⟩:=hS b im;rw[oW]at e;cases e;have g:=(e0.hok _ _ oW).1;have:b∉F3 outer:=fun z=>by have:=e0.frf b z;rw[oW]at this;cases this
   exact Q9z (J.base.keep b o g (Q8l im) this (by show b∉([]:O Ap);simp))
  ·rw[Z1o im]at e;exact(J.hok b u e).stay (fun c v _ q=>q) (fun c v _ q=>dZ _ _ q) fun c xs q=>dZ _ _ q
structure J7 (P:Au)(w:Av)(K:Fg9)(mg:Str->Am An)(base:Heap)(k n:Nat)(f:Ap)(Φ:Hp->Prop)(sp:E3):Prop where
 ex:∃(fd:At) (ps:O Str),O3 P w K mg base G3 k f fd ps (Q8q K n Φ sp)/\ps.length=n/\S8 K fd ps []/\∀(h:Heap) (H:Hp),G4 P w H h->K.In h->Φ H->∃o,h.get? f=?P/\o.data=.func fd
section
variable {k i:Nat}{es:O Aq}{t:TA}
def V2k (hr:E1 k X.A)(hv:PE X (.Name x p) (Q0 i))(ha:PA X (e::es) t)(he:?I:=by rfl)(hpl:?S:=by rfl):
  PE X (.Call (.Name x p) (e::es) [] pos) (fun σ H Q=>∃f Φ sp,σ[i]?=some (some (.ref f))/\J7 X.prog X.w X.K X.mg X.base k n f Φ sp/\t σ H fun vs H1=>Q8q X.K n Φ sp vs H1 Q E0):=by
 intro ae s σ H Q I ⟨f,Φ,sp,h0,F,h⟩;obtain⟨fd,ps,F,hn,hb,here⟩:=F.ex;refine bn (B3 (hv ae s σ H (fun v H'=>v=.ref f/\t σ H' fun vs H1=>Q8q X.K n Φ sp vs H1 Q E0) I ⟨.ref f,h0,rfl,h⟩) fun u s1 bB=>?_);obtain⟨v,H1,I1,r,ev,q⟩:=bB;subst ev;obtain rfl:u=Value.ref f:=r;refine PySem.W.callWith_of (P:=fun h=>∃o,h.get? f=?P/\o.data=.func fd) (by rw[he];show((false||(backTo pos (starEach es X.env)).any (·.1))||false)=false;rw[hpl];rfl) (fun h ⟨o,e1,e2⟩=>⟨.frame,.inl rfl,?_⟩) ?_
 ·obtain⟨oc,od,dt,sl⟩:=o;have e2:dt=.func fd:=e2;subst e2;exact(PySem.W.Looks.ld (part:=none) e1).andThen .now
 rw[he];refine cr ?_;have h2:=ha pos ae s1 σ H1 _ I1 q;rw[he]at h2;refine B3 h2 fun us s2 ⟨vs,H2,I2,r,q⟩=>⟨?_,?_⟩
 ·obtain⟨rs,r0,_,_,_,hΦ,_⟩:=q;exact here _ _ I2.hok I2.kIn hΦ
 ·have:=Y7q F hr hb .nil Z1i I2 r (show Q8q X.K n Φ sp (vs++[]) H2 Q E0 by rw[b8];exact q);exact this
end
abbrev N1:=Nat->Ap->(Hp->Prop)->E3->Prop
variable {FC gy ef:N1}
section
variable {es:O Aq}{k i:Nat}
def Q0p (FC:N1)(n i:Nat)(wr:WA):WE:=fun τ Q=>∃f Φ sp,τ[i]?=some (some (.cl f Φ))/\FC n f Φ sp/\wr τ fun rs=>rs.all L8=true/\∃r,sp (rs.map nrm) r/\Q r
def Z9u (hr:E1 k X.A)(hv:PE X (.Name x p) (Q0 i))(ha:DA X H0 (e::es) wr)(he:?I:=by rfl)(hpl:?S:=by rfl):
  DE X H0 (.Call (.Name x p) (e::es) [] pos) (Q0p (J7 X.prog X.w X.K X.mg X.base k) (e::es).length i wr) where
 mono:=fun τ P Q f cy=>(by obtain⟨g,Φ,sp,h0,F,h⟩:=cy;exact⟨g,Φ,sp,h0,F,ha.mono τ _ _ (fun rs⟨ok,r,h1,h2⟩=>⟨ok,r,h1,f r h2⟩) h⟩)
 pe:=P7 (V2k (n:=(e::es).length) hr hv ha.pa he hpl) fun σ H Q dF=>by
  obtain⟨τ,hR,f,Φ,sp,h0,F,h⟩:=dF;obtain⟨v,hv,rv⟩:=hR.here i _ h0;obtain⟨rfl,hΦ,hM⟩:v=.ref f/\Φ H/\Q6a Φ:=rv;exact⟨f,Φ,sp,hv,F,τ,hR,ha.mono τ _ _ (fun rs fM vs H1 s1 dA=>(by obtain⟨lc,ok,r,h1,h2⟩:=fM;exact⟨rs,r,lc,dA.v,ok,hM _ _ (Kp.of s1) hΦ,h1,fun v H' s2 ir=>h2 v H' (s1.trans s2) (ir.older s1)⟩)) (ha.len τ _ h)⟩
@[simp] theorem Q7d {Q:R->Prop}:Q0p FC n i wr τ Q=∃f Φ sp,τ[i]?=some (some (.cl f Φ))/\FC n f Φ sp/\wr τ fun rs=>rs.all L8=true/\∃r,sp (rs.map nrm) r/\Q r:=rfl
end
section
variable {body:Aq}{c:Ap}{k:Nat}
def Z2p (FC:N1)(n:Nat)(sp:E3):WE:=fun _ Q=>∀f Φ,FC n f Φ sp->Q3t Φ->Q (.cl f Φ)
def W2d (hT:H0 Pt=some .tab)(hB:Q0a X.mg X.base)(eM:X.env.code=.ref c)(hC:PySem.W.codeHdIn X.K c Pt=true)(jD:closureFor sc X.env=pure [])(S:Q3u ps [] sc)
  (eN:∀(qual:Str) (pm cd ct:An) (us:O An),us.length=ps.length->bindArgs (PySem.W.kla_fn "<lambda>" qual params body sc [] pm cd ct) ⟨us,[]⟩=pure (ps.zip us))
  (bS:∀(f c':Ap) (A:As) (outer:O Env) (s:Ao) (H:Hp) (q:Str),E1 k (A.deeper (PySem.W.envX q sc s.heap.objs.size f (.ref c') []))->DE (cxL X.prog X.w X.K X.mg X.base ps q sc f c' [] A outer s H) H body wb)
  (hw:∀rs r,rs.length=ps.length->sp rs r->∃(ds:O D) (d:D),rs=ds.map R.st/\r=.st d/\wb (ds.map (fun d=>some (Sl.dat d))) fun r'=>r'=.st d) (hd:defaultsOf params X.env=([],[]):=by rfl):
  DE X H0 (.Lambda params body sc pos) (Z2p (J7 X.prog X.w X.K X.mg X.base (k+1)) ps.length sp) where
 mono:=fun τ P Q g h f Φ F hH=>g _ (h f Φ F hH)
 pe:=P7 (Q9a hB eM hC jD hd) fun σ H Q fL=>by
  obtain⟨τ,hR,h⟩:=fL;refine⟨hR.same _ _ hT,fun f c' oc ctv H' sm fX hf fe jp _=>?_⟩;have LP:V9 X.K [] f c' (V4 X params body sc [] c' ctv) H':=⟨jp,⟨oc,Pt,fe,fX⟩,fun p hp=>absurd hp ?E⟩
  have F0:=Q8k (P:=X.prog) (w:=X.w) (K:=X.K) (mg:=X.mg) (base:=X.base) (k:=k) (f:=f) (c':=c') (name:="<lambda>") (qual:=X.env.qual++"<lambda>") (params:=params) (body:=body) (sc:=sc) (pm:=(X.mg "__name__").getD .none) (ctv:=ctv) (ps:=ps) (caps:=[]) (sp:=sp) (wb:=wb) S dL
   (fun A outer s H q hr=>by rw[cO,b8];exact bS f c' A outer s H q hr) (fun rs r hl hs=>by obtain⟨ds,d,e1,e2,e3⟩:=hw rs r hl hs;exact⟨ds,d,e1,e2,by rw[cO,b8];exact e3⟩)
  refine h f (V9 X.K [] f c' (V4 X params body sc [] c' ctv)) ⟨_,ps,F0,rfl,S8.all (eN _ _ _ _),fun hh Hh hok _ hΦ=>⟨_,(hok _ _ hΦ.1).1,rfl⟩⟩ (V9.hid0 (fun u z=>by cases z)) (.ref f) H' sm ⟨rfl,LP,V9.mono⟩
@[simp] theorem V6v {Q:R->Prop}:Z2p FC n sp τ Q=∀f Φ,FC n f Φ sp->Q3t Φ->Q (.cl f Φ):=rfl
end
def V3 (caps:O T8)(H:Hp):Hp:=fun b=>match caps.find? (fun p=>p.addr==b)with
 |some p=>some (.frz p.obj W0)
 |none=>H b
theorem Q5c {p:T8}(nd:(?M).Nodup)(hp:p∈caps):V3 caps H p.addr=some (.frz p.obj W0):=by grind [V3,jP,fg,Y1m]
theorem Q8c (h:b∉?M):V3 caps H b=H b:=by grind [V3,jP,fg]
structure Q2u (X:Cx)(s:Ao)(p:T8):Prop where
 look:X.env.cells.lookup p.name=some p.addr
 own:X.fn p.name=true
 get:s.heap.get? p.addr=some p.obj
 cell:∃u,p.obj.data=.cell (some u)/\C4 p.val u
section
variable {σ:St}
theorem Z0g (I:?A):∀{caps:O T8},(caps.map (·.name)).Nodup->(∀p∈caps,Q2u X s p)->(?M).Nodup
 |[],_,_=>dL
 |p::r,nd,h=>by
  rw[av,bg]at nd ⊢;refine⟨fun hm=>?_,Z0g I nd.2 fun q hq=>h q (ag _ hq)⟩;obtain⟨q,hq,e⟩:=aq.mp hm;have e:q.addr=p.addr:=e;have h1:=(h p aj).look;have h2:=(h q (ag _ hq)).look;rw[e]at h2;exact nd.1 (aq.mpr ⟨q,hq,I.ok.inj _ _ _ h2 h1⟩)
def Q6d (I:?A)(hc:∀p∈caps,Q2u X s p):A5 H (V3 caps H):=fun b u e=>by
 rw[Q8c]
 ·exact e
 ·intro hb;obtain⟨p,hp,rfl⟩:=aq.mp hb;rw[I.freeC _ _ (hc p hp).look]at e;cases e
def Z3p (nd:(?M).Nodup)(hc:∀p∈caps,Q2u X s p):U4 (?M) (V3 caps H):=fun c n9=>by
 obtain⟨p,hp,rfl⟩:=aq.mp n9;obtain⟨u,hu,_⟩:=(hc p hp).cell;exact⟨p.obj,some u,Q5c nd hp,hu⟩
def Y3k (I:?A)(nd:(?M).Nodup)(hc:∀p∈caps,Q2u X s p):Q5v X.prog X.w X.K X.mg X.base X.A X.stack s (V3 caps H):=by
 have e0:=I.env0;have ge:∀p∈caps,X.s₀.heap.objs.size<=p.addr:=fun p hp=>I.ok.cab _ _ (hc p hp).own (hc p hp).look;have keep:∀b,b∉?M->H b=none->V3 caps H b=none:=fun b hb n=>by rw[Q8c hb];exact n
 refine⟨e0.frames,e0.mod,fun b o e=>⟨(e0.bs b o e).1,keep b (fun hb=>?_) (e0.bs b o e).2⟩,e0.bsz,e0.funs,fun b hb=>keep b (fun gM=>?_) (e0.frf b hb),fun b u e=>?_,e0.bare⟩
 ·obtain⟨p,hp,rfl⟩:=aq.mp hb;exact absurd (ay (aA e) I.ok.bsz) (fY.mpr (ge p hp))
 ·obtain⟨p,hp,rfl⟩:=aq.mp gM;rcases ar.mp (I.stkSub _ hb)with z |z
  ·exact I.cne _ _ (hc p hp).look z
  ·obtain⟨_,o,ho,_⟩:=I.ok.funs.mem z;exact absurd (aA ho) (fY.mpr (ge p hp))
 ·by_cases hb:b∈?M
  ·obtain⟨p,hp,rfl⟩:=aq.mp hb;rw[Q5c nd hp]at e;cases e;exact Q9z (hc p hp).get
  ·rw[Q8c hb]at e;exact(I.hok b u e).stay (fun c v _ q=>q) (fun c v _ q=>Q6d I hc _ _ q) fun c xs q=>Q6d I hc _ _ q
theorem Y7r {CX:CXT}{k:Nat}    {sp:Sp}{Q:VK}{E:XK}   (F:O3 X.prog X.w X.K X.mg X.base G3 k f fd ps sp)(hr:E1 k X.A)(hb:S8 X.K fd ps [])
  (I:?A) (nd:(?M).Nodup) (hc:∀p∈caps,Q2u X s p) (r:C0 vs us) (h:sp vs (V3 caps H) (fun v H'=>A5 (V3 caps H) H'/\Q v (M0 (?M) H')) E):wpAny ?C X.A (call (.ref f) us) (EP X ae σ Q) X.xe s:=by
 have hl:us.length=ps.length:=by rw[<-r.length];exact F.len _ _ _ _ h
 have gM:BindsTo s fd ⟨us,[]⟩ (ps.zip us):=by have:=hb s us I.kIn (by rw[b8];exact hl);rw[b8]at this;exact this
 refine wpAny_call (lC (F.run X.A X.stack s (V3 caps H) ⟨us,[]⟩ us vs _ E hr (Y3k I nd hc) gM r h) fun r s' hq=>?_);cases r with
 |error e=>exact(show False from hq).elim
 |ok fl=>
  cases fl with
  |next=>exact False.elim hq
  |brk=>exact False.elim hq
  |cont=>exact False.elim hq
  |ret u=>
   obtain⟨v,H',os,bare,un,hok,rv,sm,q⟩:=hq;have hS:U4 (?M) H':=fun c n9=>by
    obtain⟨o,u,e1,e2⟩:=Z3p (H:=H) nd hc c n9;exact⟨o,u,un.frzs _ _ _ e1,e2⟩
   have mz:∀b,H b=none->b∉?M->V3 caps H b=none:=fun b n hb=>by rw[Q8c hb];exact n
   have kept:∀p∈caps,s'.heap.get? p.addr=some p.obj:=fun p hp=>(hok _ _ (un.frzs _ _ _ (Q5c nd hp))).1;have Q3g:∀b u,H b=some u->b∉?M:=fun b u e hb=>by
    obtain⟨p,hp,rfl⟩:=aq.mp hb;rw[I.freeC _ _ (hc p hp).look]at e;cases e
   have kj:∀b u,H b=some u->M0 (?M) H' b=some u:=fun b u e=>by
    rw[Q0h (Q3g b u e)];exact sm _ _ (Q6d I hc _ _ e)
   refine I.after ⟨v,M0 (?M) H',os,bare,⟨fun b o e n hb hx=>?_,fun b o e n hb hx=>?_,fun b o e n hx=>?_,fun b o e hx=>un.there b o e hx,fun b xs e=>kj _ _ e,fun b o u e=>kj _ _ e,fun b ps e=>⟨#[],by rw[kj _ _ e];simp⟩⟩,G4.hid hok hS fun _ _ q=>q,rv,q⟩
   ·by_cases im:b∈?M
    ·obtain⟨p,hp,rfl⟩:=aq.mp im;rw[(hc p hp).get]at e;cases e;exact kept p hp
    ·exact un.keep b o e (mz b n im) hb hx
   ·by_cases im:b∈?M
    ·obtain⟨p,hp,rfl⟩:=aq.mp im;rw[(hc p hp).get]at e;cases e;exact⟨_,kept p hp⟩
    ·exact un.slot b o e (mz b n im) hb hx
   ·by_cases im:b∈?M
    ·exact Q8l im
    ·rw[Q0h im];exact un.free b o e (mz b n im) hx
end
def R4 (wb:WE)(de:O Sl):E3:=fun rs r=>∃(ds:O D) (d:D),rs=ds.map R.st/\r=.st d/\wb (ds.map (fun d=>some (Sl.dat d))++de.map some) fun r'=>r'=.st d
def capS:Sl->Prop
 |.dat _=>True
 |.cl _ Φ=>Q3t Φ
 |_=>False
def Q0w (τ:C3):O (Str×Nat)->O Sl->Prop
 |[],de=>de=[]
 |c::cs,de=>∃s r,de=s::r/\τ[c.2]?=some (some s)/\capS s/\Q0w τ cs r
theorem Q8i (I:?A)(hR:C1 X.K H0 τ σ H):∀{cs:O (Str×Nat)}{de:O Sl},(∀c∈cs,X.N[c.2]?=some c.1/\X.env.kindOf c.1=some .cell/\X.fn c.1=true)->Q0w τ cs de ->
  ∃caps:O T8,caps.map (·.name)=cs.map (·.1)/\caps.map (·.slot)=de/\∀p∈caps,Q2u X s p/\Q4z X.K H p.slot p.val
 |[],de,_,h=>by
  have h:de=[]:=h;subst h;exact⟨[],rfl,rfl,fun p hp=>absurd hp ?E⟩
 |c::cs,de,hk,h=>by
  obtain⟨sl,r,rfl,e,hc,h⟩:=h;obtain⟨caps,h1,h2,h3⟩:=Q8i I hR (fun c hc=>hk c (ag _ hc)) h;obtain⟨k1,k2,k3⟩:=hk c aj;obtain⟨v,hv,rv⟩:=hR.here c.2 sl e;obtain⟨m,hn,hl⟩:=I.loc;obtain⟨u,ru,lk⟩:=hl c.2 c.1 v k1 hv (.inr (.inl k2));rcases lk with⟨z,_⟩ |⟨_,ca,gk,o,ho,hd⟩
  ·rw[k2]at z;cases z
  refine⟨⟨c.1,ca,o,v,sl⟩::caps,by rw[av,av,h1],by rw[av,h2],fun p hp=>?_⟩;rcases ar.mp hp with rfl |hp
  ·refine⟨⟨gk,k3,ho,⟨u,hd,ru⟩⟩,?_⟩;cases sl with
   |dat d=>exact rv
   |cl a Φ=>exact⟨rv.1,rv.2.1,rv.2.2,hc⟩
   |own _=>exact hc.elim
   |bor _=>exact hc.elim
   |bd _=>exact hc.elim
   |dk _=>exact hc.elim
   |dt _=>exact hc.elim
   |ob _=>exact hc.elim
   |ins _ _ _=>exact hc.elim
   |ll _ _=>exact hc.elim
  ·exact h3 p hp
theorem Q8h {cs:O (Str×Ap)}:∀{caps:O T8}{cs:O (Str×Ap)},caps.map (·.name)=cs.map (·.1)->(∀p∈caps,X.env.cells.lookup p.name=some p.addr)->(∀y∈cs,X.env.cells.lookup y.1=some y.2)->O4 caps=cs
 |[],[],_,_,_=>rfl
 |[],_::_,h,_,_=>by cases h
 |_::_,[],h,_,_=>by cases h
 |p::r,y::cs,h,h1,h2=>by
  rw[av,av,dq]at h;have e1:=h1 p aj;have e2:=h2 y aj;rw[h.1,e2]at e1;show(p.name,p.addr)::O4 r=y::cs;rw[Q8h (cs:=cs) h.2 (fun q hq=>h1 q (ag _ hq)) fun z hz=>h2 z (ag _ hz),h.1,<-aC e1]
def Z2g (FC:N1)(n:Nat)(cs:O (Str×Nat))(wb:WE)(sp:E3)(we:WE):WE:=fun τ Q=>we τ fun r1=>L8 r1=true/\∃de,Q0w τ cs de/\∀f Φ,FC n f Φ (R4 wb de)->∃d,sp [nrm r1,.cl f Φ] (.st d)/\Q (.st d)
section
variable {k kl:Nat}{oq:O Str}{du:Pos}{body:Aq}{c:Ap}
def Z9x (F:O3 X.prog X.w X.K X.mg X.base G3 k f fd oq (Q4k X.K 2 sp))(hr:E1 k X.A)(hg:Gl X x)(hm:X.mg x=some (.ref f))(hk:PySem.W.keepIn X.K (.ref f)=true)(hb:S8 X.K fd oq [])(ha:DE X H0 e we)
  (hT:H0 Pt=some .tab) (hB:Q0a X.mg X.base) (eM:X.env.code=.ref c) (hC:PySem.W.codeHdIn X.K c Pt=true) (jD:closureFor sc X.env=pure clos) (kf:cs.map (·.1)=clos.map (·.1)) (iQ:∀y∈clos,X.env.cells.lookup y.1=some y.2)
  (gS:∀c∈cs,X.N[c.2]?=some c.1/\X.env.kindOf c.1=some .cell/\X.fn c.1=true) (S:Q3u ps (cs.map (·.1)) sc)
  (eN:∀(qual:Str) (cl:O (Str×Ap)) (pm cd ct:An) (us:O An),us.length=ps.length->bindArgs (PySem.W.kla_fn "<lambda>" qual params body sc cl pm cd ct) ⟨us,[]⟩=pure (ps.zip us))
  (bS:∀(caps:O T8) (f c':Ap) (A:As) (outer:O Env) (s:Ao) (H:Hp) (q:Str),caps.map (·.name)=cs.map (·.1)->E1 kl (A.deeper (PySem.W.envX q sc s.heap.objs.size f (.ref c') (O4 caps)))->DE (cxL X.prog X.w X.K X.mg X.base (ps++cs.map (·.1)) q sc f c' caps A outer s H) H body wb)
  (eT:?Q:=by decide) (he:starEach [e,.Lambda params body sc du] X.env=(false,eval e X.env)::starEach [.Lambda params body sc du] X.env:=by rfl) (sT:starEach [.Lambda params body sc du] X.env=(false,eval (.Lambda params body sc du) X.env)::starEach [] X.env:=by rfl)
  (hpl:(backTo pos (starEach [.Lambda params body sc du] X.env)).any (·.1)=false:=by rfl) (hd:defaultsOf params X.env=([],[]):=by rfl):
  DE X H0 (.Call (.Name x p) [e,.Lambda params body sc du] [] pos) (Z2g (J7 X.prog X.w X.K X.mg X.base (kl+1)) ps.length cs wb sp we) where
 mono:=fun τ P Q g h=>ha.mono τ _ _ (fun r1⟨ok,de,h1,h2⟩=>⟨ok,de,h1,fun f Φ F=>let ⟨d,a,b⟩:=h2 f Φ F;⟨d,a,g _ b⟩⟩) h
 pe:=by
  intro ae s σ H Q I ⟨τ,hR,h⟩;refine bn (Q6r I hg hm ?_ eT);have tw:PA X [e,.Lambda params body sc du] (Q7n _ (Q7n _ Z7w)):=Q1p (es:=[.Lambda params body sc du]) ha.pe (Q1p (es:=[]) (Q9a (pos:=du) hB eM hC jD hd) Q4r sT) he;refine i3 (h₀:=X.base) I.ok.mod.kin hk (B3 (tw pos ae s σ H (fun vs H1=>A5 H H1/\∃v1 fa c' oc ctv r1,vs=[v1,.ref fa]/\E7 X.K H H1 r1 v1/\L8 r1=true/\Q5a oc/\H1 c'=some (.frz oc (.own Pt))/\H1 fa=some (.frz (V4 X params body sc clos c' ctv) W0) /\
   ∃de,Q0w τ cs de/\∀f Φ,J7 X.prog X.w X.K X.mg X.base (kl+1) ps.length f Φ (R4 wb de)->∃d,sp [nrm r1,.cl f Φ] (.st d)/\∀v H',A5 H H'->E7 X.K H H' (.st d) v->Q v H') I ?_) fun us s1 ⟨vs,H1,I1,r,lJ,q⟩=>⟨I1.kIn,?_⟩) he hpl
  ·refine⟨τ,hR,ha.mono τ _ _ (fun r1 x9 v1 H1 s1 ir=>?_) h⟩;obtain⟨ok,de,h1,h2⟩:=x9;refine⟨s1 _ _ (hR.same _ _ hT),fun fa c' oc ctv H' sm fX hf fe jp _=>?_⟩;exact⟨s1.trans sm,v1,fa,c',oc,ctv,r1,rfl,ir.mono sm,ok,fX,fe,jp,de,h1,h2⟩
  ·obtain⟨v1,fa,c',oc,ctv,r1,rfl,ir,ok,fX,fe,jp,de,h1,h2⟩:=q;obtain⟨caps,n1,n2,kE⟩:=Q8i I1 (hR.mono lJ) gS h1;have gk:∀p∈caps,Q2u X s1 p:=fun p hp=>(kE p hp).1;have lO:(caps.map (·.name)).Nodup:=by rw[n1];exact(bc.mp S.nd).2.1
   have nd:=Z0g I1 lO gk;have hL:O4 caps=clos:=Q8h (cs:=clos) (n1.trans kf) (fun p hp=>(gk p hp).look) iQ;have gH:=Q6d I1 gk;subst hL;have LP:V9 X.K caps fa c' (V4 X params body sc (O4 caps) c' ctv) (V3 caps H1):=⟨gH _ _ jp,⟨oc,Pt,gH _ _ fe,fX⟩,fun p hp=>⟨Q5c nd hp,(gk p hp).cell,(kE p hp).2.mono (Kp.of gH)⟩⟩
   have F0:=Q8k (P:=X.prog) (w:=X.w) (K:=X.K) (mg:=X.mg) (base:=X.base) (k:=kl) (f:=fa) (c':=c') (name:="<lambda>") (qual:=X.env.qual++"<lambda>") (params:=params) (body:=body) (sc:=sc) (pm:=(X.mg "__name__").getD .none) (ctv:=ctv) (ps:=ps) (caps:=caps) (sp:=R4 wb de) (wb:=wb) (by rw[n1];exact S) nd
    (fun A outer s H q hr=>by rw[n1];exact bS caps fa c' A outer s H q n1 hr) (fun rs r _ hs=>by
     obtain⟨ds,d,e1,e2,e3⟩:=hs;refine⟨ds,d,e1,e2,?_⟩;have:de.map some=caps.map fun p=>some p.slot:=by rw[<-n2,aF];rfl
     rw[<-this];exact e3)
   obtain⟨d,g1,g2⟩:=h2 fa _ ⟨_,ps,F0,rfl,S8.all (eN _ _ _ _ _),fun hh Hh hok _ hΦ=>⟨_,(hok _ _ hΦ.1).1,rfl⟩⟩;refine Y7r (CX:=G3) (E:=E0) F hr hb I1 nd gk r ⟨[r1,.cl fa _],.st d,rfl,⟨v1,_,rfl,(ir.mono gH).v,_,_,rfl,⟨rfl,LP,V9.mono⟩,rfl⟩,by rw[gY,ok];rfl,g1,fun v H' dZ iv=>⟨dZ,?_⟩⟩;have hS:U4 (?M) H':=fun c n9=>by
    obtain⟨o,u,e1,e2⟩:=Z3p (H:=H1) nd gk c n9;exact⟨o,u,dZ _ _ e1,e2⟩
   have Q3g:∀b u,H1 b=some u->b∉?M:=fun b u e hb=>by
    obtain⟨p,hp,rfl⟩:=aq.mp hb;rw[I1.freeC _ _ (gk p hp).look]at e;cases e
   exact g2 v _ (fun b u e=>by rw[Q0h (Q3g b u (lJ _ _ e))];exact dZ _ _ (gH _ _ (lJ _ _ e))) (show A2 X.K _ d v from A2.hid hS d v iv)
@[simp] theorem Y7v {Q:R->Prop}:Z2g FC n cs wb sp we τ Q=we τ fun r1=>L8 r1=true/\∃de,Q0w τ cs de/\∀f Φ,FC n f Φ (R4 wb de)->∃d,sp [nrm r1,.cl f Φ] (.st d)/\Q (.st d):=rfl
end
theorem W8y {w:Av}{K:Fg9}  {k:Nat}{fa:Ap}   {sp:Sp}{s₁:Ao}{vs:O An}  
  (KX:K.In s₁.heap) (lU:s₁.heap.Ns mainGlobals mg) (hb:s₁.heap.Ns builtinsNs mb) (yd:∀x:Str,x≠"__name__"->mb x=bootBuiltins x) (sI:s₁.heap.NoLimit) (ya:Q0a mg s₁.heap) (hg:s₁.gens=#[])
  (lR:∀Pt∈ts,s₁.heap.get? Pt=some (PySem.W.tabObj #[])) (fA:∀Pt∈ts,∃c,PySem.W.codeHdIn K c Pt=true) (yp:∀Pt∈ts,K.lookup Pt=none)
  (ha:s₁.heap.get? a=some {cls:=.type "list",data:=.seq vs.toArray}) (hi:IntsAre vs ns) (hl:ns.length<=sizeLine) (hr:E1 k callerA)
  (F:∀base:Heap,K.In base->base.Ns mainGlobals mg->Q0a mg base->O3 P w K mg base G3 k fa fd [x] sp) (eN:∀(s:Ao) (u:An),BindsTo s fd ⟨[u],[]⟩ [(x,u)])
  (ii:∀H:Hp,(∀Pt∈ts,H Pt=some .tab)->FzL K H a (ns.map V.int)->sp [.ref a] H (fun v H'=>v=.bl true/\∀Pt∈ts,H' Pt=some .tab) fun _ _ _=>False):
  codeAny ?R callerA (.call (.ref fa) ⟨[.ref a],[]⟩) (fun r s'=>r=.ok (.ret (.bool true))/\OldK s₁.heap s'.heap/\s'.os=s₁.os/\AllBare s'.gens) s₁:=by
 have rv:=W0l hi;have rK:=hi.length;have core:∀H:Hp,(∀b u,H b=some u->(b∈ts/\u=.tab)\/(b=a/\K.lookup a=none/\u=.frz {cls:=.type "list",data:=.seq vs.toArray} (.lst (ns.map V.int))))->(∀Pt∈ts,H Pt=some .tab)->FzL K H a (ns.map V.int) ->
   codeAny ?R callerA (.call (.ref fa) ⟨[.ref a],[]⟩) (fun r s'=>r=.ok (.ret (.bool true))/\OldK s₁.heap s'.heap/\s'.os=s₁.os/\AllBare s'.gens) s₁:=by
  intro H hO hT hS;have hok:G4 P w H s₁.heap:=fun b u e=>by
   rcases hO b u e with⟨hb,rfl⟩ |⟨rfl,_,rfl⟩
   ·exact⟨#[],lR b hb,trivial,fun pos cv q=>by cases q⟩
   ·exact⟨ha,by rw[ai];exact hl,vs,_,rv,ha⟩
  have gO:∀{b:Ap}{o:Obj},s₁.heap.get? b=?P->H b=none->(Q2j s₁.heap H).get? b=?P:=fun e n=>W7e e n;have gP:∀{b:Ap}{o:Obj},s₁.heap.get? b=?P->(∀xs,o.data≠.fields xs)->(∀xs n,o.data≠.seq xs n)->H b=none:=fun {b o} e d1 d2=>by
   cases q:H b with
   |none=>rfl
   |some u=>
    rcases hO b u q with⟨hb,rfl⟩ |⟨rfl,_,rfl⟩
    ·rw[lR b hb]at e;cases e;exact absurd rfl (d1 _)
    ·rw[ha]at e;cases e;exact absurd rfl (d2 _ _)
  have qd:∀{b:Ap}{m:Str->Am An},s₁.heap.Ns b m->(Q2j s₁.heap H).Ns b m:=fun {b m} cy=>(by obtain⟨o,es,ep,e,d,r⟩:=cy;exact⟨o,es,ep,gO e (gP e (fun xs z=>by rw[d]at z;cases z) (fun xs n z=>by rw[d]at z;cases z)),d,r⟩)
  have uZ:K.In (Q2j s₁.heap H):=fun b o e=>gO (KX b o e) (by
   cases q:H b with
   |none=>rfl
   |some u=>
    rcases hO b u q with⟨hb,rfl⟩ |⟨rfl,hk,rfl⟩
    ·rw[yp b hb]at e;cases e
    ·rw[hk]at e;cases e)
  have hM:Mod K mg (Q2j s₁.heap H):=⟨uZ,qd lU,⟨mb,qd hb,yd⟩,let ⟨mc,h1,h2⟩:=sI;⟨mc,qd h1,h2⟩⟩
  have hBM:Q0a mg (Q2j s₁.heap H):=by
   obtain⟨bm,ob,b1,b2,b3,b4,b5,b6⟩:=ya;exact⟨bm,ob,b1,b2,gO b3 (gP b3 (fun xs z=>by rw[b6]at z;cases z) (fun xs n z=>by rw[b6]at z;cases z)),b4,b5,b6⟩
  have e0:Q5v P w K mg (Q2j s₁.heap H) callerA [] s₁ H:=⟨rfl,hM,fun b o e=>V1o e,Nat.le_of_eq (W7f _ _),trivial,fun b hb=>absurd (show b∈([]:O Ap)from hb) ?E,hok,.of_eq hg⟩
  refine lC ((F _ uZ (qd lU) hBM).run callerA [] s₁ H ⟨[.ref a],[]⟩ [.ref a] [.ref a] _ _ hr e0 (eN s₁ (.ref a)) (.cons rfl .nil) (ii H hT hS)) fun r s' h=>?_;cases r with
  |error e=>exact(show False from h).elim
  |ok fl=>
   cases fl with
   |next=>exact False.elim h
   |brk=>exact False.elim h
   |cont=>exact False.elim h
   |ret u=>
    obtain⟨v,H',os,bare,un,oJ,r',q,p5⟩:=h;have q':v=.bl true:=q;subst q';obtain rfl:u=Value.bool true:=r';refine⟨rfl,⟨fun b o e=>?_,fun b o e=>un.there b o e ?E⟩,os,bare⟩;cases q:H b with
    |none=>exact .inl (un.keep b o e q (by intro z;exact absurd (show b∈([]:O Ap)from z) ?E) ?E)
    |some u=>
     rcases hO b u q with⟨hb,rfl⟩ |⟨rfl,hk,rfl⟩
     ·obtain⟨ps,g1,_⟩:=(show ObjOk P w H' s'.heap b .tab from oJ b _ (p5 b hb))
      obtain⟨c,hc⟩:=fA b hb;have e1:=lR b hb;rw[e]at e1;cases e1;refine .inr (.inl ⟨((u6 KX hc).tab (lR b hb)).isCodeTable,rfl,#[],ps,rfl,?_⟩);rw[g1];simp
     ·have z2:=un.frzs b _ _ q;obtain⟨e2,_⟩:=oJ b _ z2;rw[ha]at e;cases e;exact .inl e2
 have wG:a∉ts:=fun hb=>by
  have:=lR a hb;rw[ha]at this;cases this
 cases hk:K.lookup a with
 |some o=>
  have e:=KX a o hk;rw[ha]at e;cases e;refine core (fun b=>if b∈ts then some .tab else none) (fun b u e=>?_) (fun Pt h=>aO h) (.inr ⟨_,vs.toArray,_,hk,rfl,rfl,rfl,by rw[aH,rK];exact hl,by simpa using rv⟩)
  by_cases hb:b∈ts
  ·have e:=(aO hb).symm.trans e;cases e;exact .inl ⟨hb,rfl⟩
  ·have e:=(aI hb).symm.trans e;cases e
 |none=>
  refine core (fun b=>if b∈ts then some .tab else if b=a then some (.frz {cls:=.type "list",data:=.seq vs.toArray} (.lst (ns.map V.int)))else none) (fun b u e=>?_) (fun Pt h=>aO h) (.inl ⟨_,(aI wG).trans (aO rfl)⟩)
  by_cases hb:b∈ts
  ·have e:=(aO hb).symm.trans e;cases e;exact .inl ⟨hb,rfl⟩
  ·have e:=(aI hb).symm.trans e
   by_cases ha:b=a
   ·have e:=(aO ha).symm.trans e;cases e;exact .inr ⟨ha,hk,rfl⟩
   ·have e:=(aI ha).symm.trans e;cases e
def J0a {l:PySem.W.OpenLaw}{k:Nat}     {d:DefRec}{K:Params->Fg9}{sp:Av->Sp}  
  (hn:l.most=some n) (sF:n<=sizeLine) (ke:d.params.defaults=[]) (hr:E1 k callerA)
  (hY:∀(w:Av) (h:Heap),YP w h->(K w.params).In h) (tf:∀(w:Av) (h:Heap),YP w h->∀Pt∈ts,h.get? Pt=some (PySem.W.tabObj #[]))
  (F:∀(w:Av) (mg:Str->Am An) (fa:Ap) (h:Heap),(K w.params).In h->h.Ns mainGlobals mg->mg d.name=some (.ref fa) ->
   (∀Pt∈ts,(∃c,PySem.W.codeHdIn (K w.params) c Pt=true)/\(K w.params).lookup Pt=none) /\
   ∃fd:At,(∀(s:Ao) (u:An),BindsTo s fd ⟨[u],[]⟩ [(x,u)]) /\
    ∀base:Heap,(K w.params).In base->base.Ns mainGlobals mg->Q0a mg base->O3 l.prog w (K w.params) mg base G3 k fa fd [x] (sp w))
  (ii:∀(w:Av) (H:Hp) (a:Ap) (ns:O Int),ns.length<=n->(∀Pt∈ts,H Pt=some .tab)->FzL (K w.params) H a (ns.map V.int)->sp w [.ref a] H (fun v H'=>v=.bl true/\∀Pt∈ts,H' Pt=some .tab) fun _ _ _=>False):
  PySem.W.WalkO q iX XP YP l.row.toRowW d [] (fun f vs=>PySem.call f vs):=by
 refine Att.attach_call hn ke fun w s₀ s₁ mg mb fa o pm cd dG a vs ns G Y ho hd fA oK mT kb cp hg=>?_;have KX:=hY w _ Y;obtain⟨lR,fd,hb,hF⟩:=F w mg fa _ KX G.T.g oK;exact W8y KX G.T.g G.T.b G.T.builtins G.T.nolimit G.T.bmain hg (tf w _ Y) (fun Pt h=>(lR Pt h).1) (fun Pt h=>(lR Pt h).2) mT kb (aU cp sF) hr hF hb fun H hT hS=>ii w H a ns cp hT hS
def Q0d (ts:O Ap)(H:Hp):Prop:=∀Pt∈ts,H Pt=some .tab
abbrev J4:=O R->(R->Prop)->Prop
def Q6s (K:Fg9)(ts:O Ap)(n:Nat)(sp:J4):Sp:=fun vs H Q _=>∃(rs:O R) (P:R->Prop),rs.length=n/\L6 K (fun _=>none) H rs vs/\rs.all L8=true/\Q0d ts H/\sp (rs.map nrm) P/\∀r v H',P r->A5 H H'->E7 K H H' r v->Q v H'
abbrev FnT (P:Au)(w:Av)(K:Fg9)(mg:Str->Am An)(base:Heap)(ts:O Ap)(k:Nat)(f:Ap)(fd:At)(ps:O Str)(sp:J4):Prop:=O3 P w K mg base G3 k f fd ps (Q6s K ts ps.length sp)
structure Q0r (K:Fg9)(x qual:Str)(st:Aw)(f:Ap)(fd:At)(c Pt:Ap):Prop where
 ex:∃(oc:An) (od:Am Ap) (kV dG pm:An) (an:Am Ap) (ct:An) (fK:Array (Am An)),
  fd=PySem.W.fnOf x qual (W9 st) (K6 st) (B8 st) .none kV dG pm an (.ref c) ct/\K.lookup f=some ⟨oc,od,.func fd,fK⟩/\PySem.W.codeIn K (.ref c) qual=true
 hd:PySem.W.codeHdIn K c Pt=true
abbrev O9 (P:R->Prop):F9:={nx:=fun _=>P (.st .non),rt:=P,bk:=fun _=>False,ct:=fun _=>False}
section
variable {w:Av}{K:Fg9}{k:Nat}{sp:J4}
def Y6q {cdv:An}{A:As}{outer:O Env}{s:Ao}  {E:XK}  {rs:O R}  {Q:VK}{Pr:R->Prop}  (hX:X.K=K)(hd:A7 X H (K6 st) ws)(hl:rs.length=ps.length)(al:L6 K (fun _=>none) H rs vs)(ok:rs.all L8=true)
  (h1:sp (rs.map nrm) Pr) (h2:∀r v H',Pr r->A5 H H'->E7 K H H' r v->Q v H') (hw:∀rs Pr,rs.length=ps.length->sp rs Pr->ws (O9 Pr) (E2 N rs)):
  ∃t,T0 X (K6 st) t/\t {nx:=fun _ H'=>Q .non H',rt:=Q} (start N vs) H:=by
 subst hX;refine⟨_,hd.ps,E2 N rs,Q6y al ok,?_⟩;have hw:=hw (rs.map nrm) Pr (by rw[ai];exact hl) h1;rw[Q7m]at hw;refine hd.mono _ _ _ ⟨fun τ h σ H' _ hR=>?_,fun r' h v H' sm ir=>?_,fun _ h=>False.elim h,fun _ h=>False.elim h⟩ hw
 ·exact h2 (.st .non) .non H' h hR.same (Q5b (K:=X.K) (H:=H'))
 ·exact h2 r' v H' h sm ir
def Fun.okP (F:Fun K x qual st f fd)(S:T9 N ps (B8 st))
  (bS:∀(cdv:An) (A:As) (outer:O Env) (s:Ao) (H:Hp) (E:XK),Q0d ts H->?A0->A7 (?Y).nox H (K6 st) ws)
  (hw:∀rs Pr,rs.length=ps.length->sp rs Pr->ws (O9 Pr) (E2 N rs)):FnT P w K mg base ts (k+1) f fd ps sp:=by
 refine F.ok S (fun vs H Q E h=>?_) (fun cdv A outer s H vs Q E hr h=>?_)
 ·obtain⟨rs,r,hl,al,_⟩:=h;rw[<-al.length];exact hl
 obtain⟨rs,Pr,hl,al,ok,hT,h1,h2⟩:=h;exact Y6q (st:=st) (cdv:=cdv) (A:=A) (outer:=outer) (s:=s) (E:=E) rfl (bS cdv A outer s H E hT hr) hl al ok h1 h2 hw
def Q0r.okP {c:Ap}  (F:Q0r K x qual st f fd c Pt)(S:T9 N ps (B8 st))
  (bS:∀(A:As) (outer:O Env) (s:Ao) (H:Hp) (E:XK),Q0d ts H->E1 k (A.deeper (envOfC qual (B8 st) s.heap.objs.size f (.ref c)))->A7 (K4 G3 P w K mg base N qual (B8 st) f (.ref c) A outer s H E).nox H (K6 st) ws)
  (hw:∀rs Pr,rs.length=ps.length->sp rs Pr->ws (O9 Pr) (E2 N rs)):FnT P w K mg base ts (k+1) f fd ps sp:=by
 obtain⟨oc,od,kV,dG,pm,an,ct,fK,rfl,lk,fA⟩:=F.ex;refine Z0m lk fA S (fun vs H Q E h=>?_) fun A outer s H vs Q E hr h=>?_
 ·obtain⟨rs,r,hl,al,_⟩:=h;rw[<-al.length];exact hl
 obtain⟨rs,Pr,hl,al,ok,hT,h1,h2⟩:=h;obtain⟨t,ht,q⟩:=Y6q (st:=st) (cdv:=.ref c) (A:=A) (outer:=outer) (s:=s) (E:=E) rfl (bS A outer s H E hT hr) hl al ok h1 h2 hw;exact⟨t,ht.nox,q⟩
end
section
variable {es:O Aq}{k:Nat}{sp:J4}
def X9 (sp:J4):Prop:=∀rs P Q,(∀r,P r->Q r)->sp rs P->sp rs Q
def S6 (sp:J4)(wr:WA):WE:=fun τ Q=>wr τ fun rs=>rs.all L8=true/\sp (rs.map nrm) Q
def W1v (oM:X9 sp)(F:O3 X.prog X.w X.K X.mg X.base G3 k f fd ps (Q6s X.K ts (e::es).length sp))(hr:E1 k X.A)(hT:Q0d ts H0)(hg:Gl X x)(hm:X.mg x=some (.ref f))(hk:PySem.W.keepIn X.K (.ref f)=true)(hb:S8 X.K fd ps [])
  (ha:DA X H0 (e::es) wr) (eT:?Q:=by decide) (he:?I:=by rfl) (hpl:?S:=by rfl):
  DE X H0 (.Call (.Name x p) (e::es) [] pos) (S6 sp wr) where
 mono:=fun τ P Q g h=>ha.mono τ _ _ (fun rs⟨ok,h1⟩=>⟨ok,oM _ _ _ g h1⟩) h
 pe:=P7 (Z1j F hr hg hm hk hb .nil Z1i ha.pa eT he hpl) fun σ H Q ⟨τ,hR,h⟩=>⟨τ,hR,ha.mono τ _ _ (fun rs cR vs H1 s1 dA=>by
  obtain⟨lc,ok,h1⟩:=cR;refine⟨rs,_,lc,?_,ok,fun Pt hp=>s1 _ _ (hR.same _ _ (hT Pt hp)),h1,fun r v H' q s2 ir=>q v H' (s1.trans s2) (ir.older s1)⟩;rw[b8];exact dA.v) (ha.len τ _ h)⟩
@[simp] theorem Q0o {Q:R->Prop}:S6 sp wr τ Q=wr τ fun rs=>rs.all L8=true/\sp (rs.map nrm) Q:=rfl
end
section
variable {w:Av}{K:Fg9}{k kl:Nat}{sp:J4}{c:Ap}{mo fJ:Aw}{body:Aq}{du my:Pos}{lps:O Str}{w1 w2:WS}
def Q7t (FC:N1)(n:Nat)(cs:O (Str×Nat))(wb:WE)(w1 w2:WS)(Pr:R->Prop)(τ:C3):Prop:=
 w1 {nx:=w2 {nx:=fun τ'=>∃de,Q0w τ' cs de/\∀g Φ,FC n g Φ (R4 wb de)->Pr (.cl g Φ),rt:=fun _=>False,bk:=fun _=>False,ct:=fun _=>False},rt:=fun _=>False,bk:=fun _=>False,ct:=fun _=>False} τ
theorem V5z {σ0:Q9}{τ0:C3}  {mo fJ:Aw}  {body:Aq}  {du my:Pos}  {lps:O Str}{w1 w2:WS}  {kl:Nat}{c:Ap}  {Pr:R->Prop}{Q:VK}
  (I0:A0 X.nox [] σ0 X.H₀ s1) (yj:C1 X.K X.H₀ τ0 σ0 X.H₀) (hex:X.ex=[]) (d1:DS X.nox X.H₀ mo w1) (d2:DS X.nox X.H₀ fJ w2)
  (hT:X.H₀ Pt=some .tab) (hB:Q0a X.mg X.base) (eM:X.env.code=.ref c) (hC:PySem.W.codeHdIn X.K c Pt=true) (jD:closureFor sc X.env=pure clos) (kf:cs.map (·.1)=clos.map (·.1)) (iQ:∀y∈clos,X.env.cells.lookup y.1=some y.2)
  (gS:∀y∈cs,X.N[y.2]?=some y.1/\X.env.kindOf y.1=some .cell/\X.fn y.1=true) (S:Q3u lps (cs.map (·.1)) sc)
  (eN:∀(qual:Str) (cl:O (Str×Ap)) (pm cd ct:An) (us:O An),us.length=lps.length->bindArgs (PySem.W.kla_fn "<lambda>" qual params body sc cl pm cd ct) ⟨us,[]⟩=pure (lps.zip us))
  (bS:∀(caps:O T8) (g c':Ap) (A:As) (outer:O Env) (s:Ao) (H:Hp) (q:Str),caps.map (·.name)=cs.map (·.1)->E1 kl (A.deeper (PySem.W.envX q sc s.heap.objs.size g (.ref c') (O4 caps)))->DE (cxL X.prog X.w X.K X.mg X.base (lps++cs.map (·.1)) q sc g c' caps A outer s H) H body wb)
  (ke:defaultsOf params X.env=([],[])) (hw:Q7t (J7 X.prog X.w X.K X.mg X.base (kl+1)) lps.length cs wb w1 w2 Pr τ0) (hQ:∀r v H',Pr r->A5 X.H₀ H'->E7 X.K X.H₀ H' r v->Q v H'):
  wpAny ?C X.A (execs [mo,fJ,.Return (some (.Lambda params body sc du)) my] X.env) (fun fl s'=>∃u,fl=.ret u/\CE X.outer X.prog X.w X.H₀ X.s₀ Q u s') (?A4) s1:=by
 refine dz (B3 (d1.ps [] s1 σ0 X.H₀ {nx:=fun σ' H'=>∃ τ',C1 X.K X.H₀ τ' σ' H'/\w2 {nx:=fun τ'=>∃de,Q0w τ' cs de/\∀g Φ,J7 X.prog X.w X.K X.mg X.base (kl+1) lps.length g Φ (R4 wb de)->Pr (.cl g Φ),rt:=fun _=>False,bk:=fun _=>False,ct:=fun _=>False} τ',rt:=?A4,bk:=?A4,ct:=?A4} I0
  ⟨τ0,yj,d1.mono _ _ _ (by exact⟨fun τ h σ H' _ hR=>⟨τ,hR,h⟩,fun _ h=>False.elim h,fun _ h=>False.elim h,fun _ h=>False.elim h⟩) hw⟩) fun fl s2 q=>?_)
 cases fl with
 |ret v=>obtain⟨_,_,_,_,_,q⟩:=q;exact False.elim q
 |brk=>obtain⟨_,_,_,q⟩:=q;exact False.elim q
 |cont=>obtain⟨_,_,_,q⟩:=q;exact False.elim q
 |next=>
 obtain⟨σ2,H2,I2,τ2,fk,ku⟩:=q;refine dz (B3 (d2.ps [] s2 σ2 H2 {nx:=fun σ' H'=>∃ τ',C1 X.K X.H₀ τ' σ' H'/\∃de,Q0w τ' cs de/\∀g Φ,J7 X.prog X.w X.K X.mg X.base (kl+1) lps.length g Φ (R4 wb de)->Pr (.cl g Φ),rt:=?A4,bk:=?A4,ct:=?A4} I2
  ⟨τ2,fk,d2.mono _ _ _ (by exact⟨fun τ h σ H' _ hR=>⟨τ,hR,h⟩,fun _ h=>False.elim h,fun _ h=>False.elim h,fun _ h=>False.elim h⟩) ku⟩) fun fl s3 q=>?_)
 cases fl with
 |ret v=>obtain⟨_,_,_,_,_,q⟩:=q;exact False.elim q
 |brk=>obtain⟨_,_,_,q⟩:=q;exact False.elim q
 |cont=>obtain⟨_,_,_,q⟩:=q;exact False.elim q
 |next=>
 obtain⟨σ3,H3,I3,τ3,ki,de,h1,h2⟩:=q;refine dz (kL (B3 (Q9a (X:=X.nox) (pos:=du) (P:=Pt) (c:=c) hB eM hC jD ke [] s3 σ3 H3 (fun v H4=>A5 H3 H4/\∃g c' oc ctv,v=.ref g/\Q5a oc/\H4 c'=some (.frz oc (.own Pt))/\H4 g=some (.frz (V4 X.nox params body sc clos c' ctv) W0)) I3 ⟨ki.same _ _ hT,fun g c' oc ctv H' sm fX _ fe jp _=>⟨sm,g,c',oc,ctv,rfl,fX,fe,jp⟩⟩) fun u s4 bB=>?_));obtain⟨v,H4,I4,rv,sm,g,c',oc,ctv,ev,fX,fe,jp⟩:=bB;subst ev;obtain rfl:u=Value.ref g:=rv;have m6:=ki.mono sm;obtain⟨caps,n1,n2,kE⟩:=Q8i (X:=X.nox) I4 m6 gS h1;have gk:∀p∈caps,Q2u X.nox s4 p:=fun p hp=>(kE p hp).1;have lO:(caps.map (·.name)).Nodup:=by rw[n1];exact(bc.mp S.nd).2.1
 have nd:=Z0g I4 lO gk;have hL:O4 caps=clos:=Q8h (X:=X) (cs:=clos) (n1.trans kf) (fun p hp=>(gk p hp).look) iQ;have gH:=Q6d I4 gk;subst hL;have LP:V9 X.K caps g c' (V4 X.nox params body sc (O4 caps) c' ctv) (V3 caps H4):=⟨gH _ _ jp,⟨oc,Pt,gH _ _ fe,fX⟩,fun p hp=>⟨Q5c nd hp,(gk p hp).cell,(kE p hp).2.mono (Kp.of gH)⟩⟩
 have F0:=Q8k (P:=X.prog) (w:=X.w) (K:=X.K) (mg:=X.mg) (base:=X.base) (k:=kl) (f:=g) (c':=c') (name:="<lambda>") (qual:=X.env.qual++"<lambda>") (params:=params) (body:=body) (sc:=sc) (pm:=(X.mg "__name__").getD .none) (ctv:=ctv) (ps:=lps) (caps:=caps) (sp:=R4 wb de) (wb:=wb) (by rw[n1];exact S) nd
  (fun A outer s H q hr=>by rw[n1];exact bS caps g c' A outer s H q n1 hr) (fun rs r _ hs=>by
   obtain⟨ds,d,e1,e2,e3⟩:=hs;refine⟨ds,d,e1,e2,?_⟩;have:de.map some=caps.map fun p=>some p.slot:=by rw[<-n2,aF];rfl
   rw[<-this];exact e3)
 have ym:=h2 g _ ⟨_,lps,F0,rfl,S8.all (eN _ _ _ _ _),fun hh Hh hok _ hΦ=>⟨_,(hok _ _ hΦ.1).1,rfl⟩⟩;have kn:A5 X.H₀ (V3 caps H4):=(m6.same).trans gH;have ge:∀p∈caps,X.s₀.heap.objs.size<=p.addr:=fun p hp=>I4.ok.cab _ _ (gk p hp).own (gk p hp).look;have qe:∀b:Ap,b∉X.nox.ex:=fun b=>by show b∉X.ex;rw[hex];simp
 have B:=I4.base;refine⟨_,rfl,.ref g,V3 caps H4,I4.os,I4.bare,⟨fun b o e n hb _=>B.keep b o e n hb (qe b),fun b o e n hb _=>B.slot b o e n hb (qe b),fun b o e n _=>?_,fun b o e _=>B.there b o e (qe b),fun b xs e=>kn _ _ e,fun b o u e=>kn _ _ e,fun b ps e=>⟨#[],by rw[kn _ _ e];simp⟩⟩,(Y3k I4 nd gk).hok,rfl,hQ _ _ _ ym kn ⟨rfl,LP,V9.mono⟩⟩;rw[Q8c]
 ·exact B.free b o e n (qe b)
 ·intro hb;obtain⟨p,hp,rfl⟩:=aq.mp hb;exact absurd (aA e) (fY.mpr (ge p hp))
def Y0f (F:Q0r K x qual st f fd c Pt)(S:T9 N ps (B8 st))(yc:K6 st=[mo,fJ,.Return (some (.Lambda params body sc du)) my])(hBM:Q0a mg base)(js:Pt∈ts)
  (h1:∀(A:As) (outer:O Env) (s:Ao) (H:Hp) (E:XK),E1 k (A.deeper (envOfC qual (B8 st) s.heap.objs.size f (.ref c)))->DS (K4 G3 P w K mg base N qual (B8 st) f (.ref c) A outer s H E).nox H mo w1)
  (h2:∀(A:As) (outer:O Env) (s:Ao) (H:Hp) (E:XK),E1 k (A.deeper (envOfC qual (B8 st) s.heap.objs.size f (.ref c)))->DS (K4 G3 P w K mg base N qual (B8 st) f (.ref c) A outer s H E).nox H fJ w2)
  (clos:Nat->O (Str×Ap)) (jD:∀n:Nat,closureFor sc (envOfC qual (B8 st) n f (.ref c))=pure (clos n)) (kf:∀n,cs.map (·.1)=(clos n).map (·.1)) (iQ:∀n,∀y∈clos n,(envOfC qual (B8 st) n f (.ref c)).cells.lookup y.1=some y.2)
  (gS:∀y∈cs,N[y.2]?=some y.1/\(B8 st).names.lookup y.1=some .cell) (SL:Q3u lps (cs.map (·.1)) sc)
  (eN:∀(qual:Str) (cl:O (Str×Ap)) (pm cd ct:An) (us:O An),us.length=lps.length->bindArgs (PySem.W.kla_fn "<lambda>" qual params body sc cl pm cd ct) ⟨us,[]⟩=pure (lps.zip us))
  (bS:∀(caps:O T8) (g c':Ap) (A:As) (outer:O Env) (s:Ao) (H:Hp) (q:Str),caps.map (·.name)=cs.map (·.1)->E1 kl (A.deeper (PySem.W.envX q sc s.heap.objs.size g (.ref c') (O4 caps)))->DE (cxL P w K mg base (lps++cs.map (·.1)) q sc g c' caps A outer s H) H body wb)
  (ke:∀n:Nat,defaultsOf params (envOfC qual (B8 st) n f (.ref c))=([],[]))
  (hw:∀rs Pr,rs.length=ps.length->sp rs Pr->Q7t (J7 P w K mg base (kl+1)) lps.length cs wb w1 w2 Pr (E2 N rs)):FnT P w K mg base ts (k+1) f fd ps sp:=by
 obtain⟨oc,od,kV,dG,pm,an,ct,fK,rfl,lk,fA⟩:=F.ex;refine⟨fun vs H Q E h=>?_,fun A outer s H args us vs Q E hr e0 hb r ii=>?_⟩
 ·obtain⟨rs,Pr,hl,al,_⟩:=h;rw[<-al.length];exact hl
 obtain⟨rs,Pr,uM,al,ok,hT,sr,ky⟩:=ii;have hl:vs.length=ps.length:=by rw[<-al.length];exact uM
 have KX:K.In s.heap:=e0.mod.kin.keeps fun b o e=>(e0.bs b o e).1;have kY:s.heap.NoLimit:=e0.mod.nolimit.keeps fun b o e=>(e0.bs b o e).1;have il:∀y∈ps.zip us,(B8 st).names.lookup y.1=some .local\/((B8 st).names.lookup y.1=some .cell/\((cellsFrom (s.heap.objs.size+1) (B8 st).names []).lookup y.1).isSome=true):=fun dF hy=>by
  obtain⟨n,v⟩:=dF;rcases S.par n (cS hy).1 with q |q
  ·exact .inl q
  ·exact .inr ⟨q,dI _ _ _ (.inl q)⟩
 refine hV hr.depth (KX _ _ lk) rfl S.co S.gen rfl (i0 KX fA) (hb _ _ _ _ ?_);refine fE S.kind il fun env he s1 x1=>?_;subst he;refine⟨kY.keeps x1.toInCall.keep,Ai ?_⟩;have I0:A0 (K4 G3 P w K mg base N qual (B8 st) f (.ref c) A outer s H E) [] (start N vs) H s1:=Z5k S hr.hd e0 hl r x1;have uH:=hw (rs.map nrm) Pr (by rw[ai];exact uM) sr;rw[Q7m]at uH;rw[yc];refine aP (V5z (X:=K4 G3 P w K mg base N qual (B8 st) f (.ref c) A outer s H E) (kl:=kl) (c:=c) (Pt:=Pt) (clos:=clos s.heap.objs.size) (I0.wish _) (Q6y al ok) rfl (h1 A outer s H E (hr.deeper _)) (h2 A outer s H E (hr.deeper _)) (hT Pt js) hBM rfl F.hd (jD _) (kf _) (iQ _)
  (fun y hy=>⟨(gS y hy).1,(gS y hy).2,rfl⟩) SL eN bS (ke _) uH ky) (fun fl s' fM=>(by obtain⟨u,e,q⟩:=fM;subst e;exact q)) fun _ _ h=>False.elim h
end
def W0m (FC:N1)(n m:Nat)(cs es:O (Str×Nat))(wb wc:WE)(sp:E3)(we:WE):WE:=fun τ Q=>we τ fun r1=>L8 r1=true/\∃de jw,Q0w τ cs de/\Q0w τ es jw/\∀f Φ h Ψ,FC n f Φ (R4 wb de)->FC m h Ψ (R4 wc jw)->∃d,sp [nrm r1,.cl f Φ,.cl h Ψ] (.st d)/\Q (.st d)
section
variable {wc:WE}{k kl:Nat}{oq qs:O Str}{du fV:Pos}{dj:Arguments}{body eU:Aq}{gI:Scope}{c:Ap}{es:O (Str×Nat)}{clo2:O (Str×Ap)}
def W1w (F:O3 X.prog X.w X.K X.mg X.base G3 k f fd oq (Q4k X.K 3 sp))(hr:E1 k X.A)(hg:Gl X x)(hm:X.mg x=some (.ref f))(hk:PySem.W.keepIn X.K (.ref f)=true)(hb:S8 X.K fd oq [])(ha:DE X H0 e we)
  (hT:H0 Pt=some .tab) (hB:Q0a X.mg X.base) (eM:X.env.code=.ref c) (hC:PySem.W.codeHdIn X.K c Pt=true)
  (jD:closureFor sc X.env=pure clos) (kf:cs.map (·.1)=clos.map (·.1)) (iQ:∀y∈clos,X.env.cells.lookup y.1=some y.2) (gS:∀c∈cs,X.N[c.2]?=some c.1/\X.env.kindOf c.1=some .cell/\X.fn c.1=true) (S:Q3u ps (cs.map (·.1)) sc)
  (t4:closureFor gI X.env=pure clo2) (t3:es.map (·.1)=clo2.map (·.1)) (t5:∀y∈clo2,X.env.cells.lookup y.1=some y.2) (sZ:∀c∈es,X.N[c.2]?=some c.1/\X.env.kindOf c.1=some .cell/\X.fn c.1=true) (S2:Q3u qs (es.map (·.1)) gI)
  (jl:(cs.map (·.1)++es.map (·.1)).Nodup)
  (eN:∀(qual:Str) (cl:O (Str×Ap)) (pm cd ct:An) (us:O An),us.length=ps.length->bindArgs (PySem.W.kla_fn "<lambda>" qual params body sc cl pm cd ct) ⟨us,[]⟩=pure (ps.zip us))
  (ng:∀(qual:Str) (cl:O (Str×Ap)) (pm cd ct:An) (us:O An),us.length=qs.length->bindArgs (PySem.W.kla_fn "<lambda>" qual dj eU gI cl pm cd ct) ⟨us,[]⟩=pure (qs.zip us))
  (bS:∀(caps:O T8) (f c':Ap) (A:As) (outer:O Env) (s:Ao) (H:Hp) (q:Str),caps.map (·.name)=cs.map (·.1)->E1 kl (A.deeper (PySem.W.envX q sc s.heap.objs.size f (.ref c') (O4 caps)))->DE (cxL X.prog X.w X.K X.mg X.base (ps++cs.map (·.1)) q sc f c' caps A outer s H) H body wb)
  (na:∀(caps:O T8) (f c':Ap) (A:As) (outer:O Env) (s:Ao) (H:Hp) (q:Str),caps.map (·.name)=es.map (·.1)->E1 kl (A.deeper (PySem.W.envX q gI s.heap.objs.size f (.ref c') (O4 caps)))->DE (cxL X.prog X.w X.K X.mg X.base (qs++es.map (·.1)) q gI f c' caps A outer s H) H eU wc)
  (eT:?Q:=by decide) (he:starEach [e,.Lambda params body sc du,.Lambda dj eU gI fV] X.env=(false,eval e X.env)::starEach [.Lambda params body sc du,.Lambda dj eU gI fV] X.env:=by rfl)
  (sT:starEach [.Lambda params body sc du,.Lambda dj eU gI fV] X.env=(false,eval (.Lambda params body sc du) X.env)::starEach [.Lambda dj eU gI fV] X.env:=by rfl) (y6:starEach [.Lambda dj eU gI fV] X.env=(false,eval (.Lambda dj eU gI fV) X.env)::starEach [] X.env:=by rfl)
  (hpl:(backTo pos (starEach [.Lambda params body sc du,.Lambda dj eU gI fV] X.env)).any (·.1)=false:=by rfl) (hd:defaultsOf params X.env=([],[]):=by rfl) (kD:defaultsOf dj X.env=([],[]):=by rfl):
  DE X H0 (.Call (.Name x p) [e,.Lambda params body sc du,.Lambda dj eU gI fV] [] pos) (W0m (J7 X.prog X.w X.K X.mg X.base (kl+1)) ps.length qs.length cs es wb wc sp we) where
 mono:=fun τ P Q g h=>ha.mono τ _ _ (fun r1⟨ok,de,jw,h1,pA,h2⟩=>⟨ok,de,jw,h1,pA,fun f Φ h Ψ F G=>let ⟨d,a,b⟩:=h2 f Φ h Ψ F G;⟨d,a,g _ b⟩⟩) h
 pe:=by
  intro ae s σ H Q I ⟨τ,hR,h⟩;refine bn (Q6r I hg hm ?_ eT);have tw:PA X [e,.Lambda params body sc du,.Lambda dj eU gI fV] (Q7n _ (Q7n _ (Q7n _ Z7w))):=Q1p (es:=[.Lambda params body sc du,.Lambda dj eU gI fV]) ha.pe (Q1p (es:=[.Lambda dj eU gI fV]) (Q9a (pos:=du) hB eM hC jD hd) (Q1p (es:=[]) (Q9a (pos:=fV) hB eM hC t4 kD) Q4r y6) sT) he;refine i3 (h₀:=X.base) I.ok.mod.kin hk (B3 (tw pos ae s σ H (fun vs H1=>A5 H H1/\∃v1 fa c' oc ctv fb c2 nB nJ r1,vs=[v1,.ref fa,.ref fb]/\E7 X.K H H1 r1 v1/\L8 r1=true/\(Q5a oc/\H1 c'=some (.frz oc (.own Pt))/\H1 fa=some (.frz (V4 X params body sc clos c' ctv) W0)) /\
   (Q5a nB/\H1 c2=some (.frz nB (.own Pt))/\H1 fb=some (.frz (V4 X dj eU gI clo2 c2 nJ) W0)) /\
   ∃de jw,Q0w τ cs de/\Q0w τ es jw/\∀f Φ h Ψ,J7 X.prog X.w X.K X.mg X.base (kl+1) ps.length f Φ (R4 wb de)->J7 X.prog X.w X.K X.mg X.base (kl+1) qs.length h Ψ (R4 wc jw)->∃d,sp [nrm r1,.cl f Φ,.cl h Ψ] (.st d)/\∀v H',A5 H H'->E7 X.K H H' (.st d) v->Q v H') I ?_) fun us s1 ⟨vs,H1,I1,r,lJ,q⟩=>⟨I1.kIn,?_⟩) he hpl
  ·refine⟨τ,hR,ha.mono τ _ _ (fun r1 xb v1 H1 s1 ir=>?_) h⟩;obtain⟨ok,de,jw,h1,pA,h2⟩:=xb;refine⟨s1 _ _ (hR.same _ _ hT),fun fa c' oc ctv H' sm fX hf fe jp _=>?_⟩;refine⟨sm _ _ (s1 _ _ (hR.same _ _ hT)),fun fb c2 nB nJ H2 q0 mS zQ j4 mZ _=>?_⟩;exact⟨s1.trans (sm.trans q0),v1,fa,c',oc,ctv,fb,c2,nB,nJ,r1,rfl,ir.mono (sm.trans q0),ok,⟨fX,q0 _ _ fe,q0 _ _ jp⟩,⟨mS,j4,mZ⟩,de,jw,h1,pA,h2⟩
  ·obtain⟨v1,fa,c',oc,ctv,fb,c2,nB,nJ,r1,rfl,ir,ok,⟨fX,fe,jp⟩,⟨mS,j4,mZ⟩,de,jw,h1,pA,h2⟩:=q;obtain⟨caps,n1,n2,kE⟩:=Q8i I1 (hR.mono lJ) gS h1;obtain⟨jH,m1,m2,qq⟩:=Q8i I1 (hR.mono lJ) sZ pA;have gk:∀p∈caps++jH,Q2u X s1 p:=fun p hp=>(aN.mp hp).elim (fun h=>(kE p h).1) fun h=>(qq p h).1;have lO:((caps++jH).map (·.name)).Nodup:=by rw[aX,n1,m1];exact jl
   have nd:=Z0g I1 lO gk;have rE:=nd;rw[aX]at rE;have wL:=(bc.mp rE).1;have wK:=(bc.mp rE).2.1;have hL:O4 caps=clos:=Q8h (cs:=clos) (n1.trans kf) (fun p hp=>(kE p hp).1.look) iQ;have tE:O4 jH=clo2:=Q8h (cs:=clo2) (m1.trans t3) (fun p hp=>(qq p hp).1.look) t5;have gH:=Q6d I1 gk;subst hL tE;have LP:V9 X.K caps fa c' (V4 X params body sc (O4 caps) c' ctv) (V3 (caps++jH) H1):=⟨gH _ _ jp,⟨oc,Pt,gH _ _ fe,fX⟩,fun p hp=>⟨Q5c nd (ba _ hp),(kE p hp).1.cell,(kE p hp).2.mono (Kp.of gH)⟩⟩
   have yW:V9 X.K jH fb c2 (V4 X dj eU gI (O4 jH) c2 nJ) (V3 (caps++jH) H1):=⟨gH _ _ mZ,⟨nB,Pt,gH _ _ j4,mS⟩,fun p hp=>⟨Q5c nd (aw _ hp),(qq p hp).1.cell,(qq p hp).2.mono (Kp.of gH)⟩⟩
   have F0:=Q8k (P:=X.prog) (w:=X.w) (K:=X.K) (mg:=X.mg) (base:=X.base) (k:=kl) (f:=fa) (c':=c') (name:="<lambda>") (qual:=X.env.qual++"<lambda>") (params:=params) (body:=body) (sc:=sc) (pm:=(X.mg "__name__").getD .none) (ctv:=ctv) (ps:=ps) (caps:=caps) (sp:=R4 wb de) (wb:=wb) (by rw[n1];exact S) wL
    (fun A outer s H q hr=>by rw[n1];exact bS caps fa c' A outer s H q n1 hr) (fun rs r _ hs=>by
     obtain⟨ds,d,e1,e2,e3⟩:=hs;refine⟨ds,d,e1,e2,?_⟩;have:de.map some=caps.map fun p=>some p.slot:=by rw[<-n2,aF];rfl
     rw[<-this];exact e3)
   have F1:=Q8k (P:=X.prog) (w:=X.w) (K:=X.K) (mg:=X.mg) (base:=X.base) (k:=kl) (f:=fb) (c':=c2) (name:="<lambda>") (qual:=X.env.qual++"<lambda>") (params:=dj) (body:=eU) (sc:=gI) (pm:=(X.mg "__name__").getD .none) (ctv:=nJ) (ps:=qs) (caps:=jH) (sp:=R4 wc jw) (wb:=wc) (by rw[m1];exact S2) wK
    (fun A outer s H q hr=>by rw[m1];exact na jH fb c2 A outer s H q m1 hr) (fun rs r _ hs=>by
     obtain⟨ds,d,e1,e2,e3⟩:=hs;refine⟨ds,d,e1,e2,?_⟩;have:jw.map some=jH.map fun p=>some p.slot:=by rw[<-m2,aF];rfl
     rw[<-this];exact e3)
   obtain⟨d,g1,g2⟩:=h2 fa _ fb _ ⟨_,ps,F0,rfl,S8.all (eN _ _ _ _ _),fun hh Hh hok _ hΦ=>⟨_,(hok _ _ hΦ.1).1,rfl⟩⟩ ⟨_,qs,F1,rfl,S8.all (ng _ _ _ _ _),fun hh Hh hok _ hΦ=>⟨_,(hok _ _ hΦ.1).1,rfl⟩⟩;refine Y7r (CX:=G3) (E:=E0) F hr hb I1 nd gk r ⟨[r1,.cl fa _,.cl fb _],.st d,rfl,⟨v1,_,rfl,(ir.mono gH).v,_,_,rfl,⟨rfl,LP,V9.mono⟩,_,_,rfl,⟨rfl,yW,V9.mono⟩,rfl⟩,by rw[gY,ok];rfl,g1,fun v H' dZ iv=>⟨dZ,?_⟩⟩;have hS:U4 ((caps++jH).map (·.addr)) H':=fun c n9=>by
    obtain⟨o,u,e1,e2⟩:=Z3p (H:=H1) nd gk c n9;exact⟨o,u,dZ _ _ e1,e2⟩
   have Q3g:∀b u,H1 b=some u->b∉(caps++jH).map (·.addr):=fun b u e hb=>by
    obtain⟨p,hp,rfl⟩:=aq.mp hb;rw[I1.freeC _ _ (gk p hp).look]at e;cases e
   exact g2 v _ (fun b u e=>by rw[Q0h (Q3g b u (lJ _ _ e))];exact dZ _ _ (gH _ _ (lJ _ _ e))) (show A2 X.K _ d v from A2.hid hS d v iv)
end
section
variable {k v:Aq}{tk tv:TE}
def V2p (hu:X.A.units<cLine)(hk:PE X k tk)(hv:PE X v tv):PE X (.Dict [some k] [v] pos) (fun σ H Q=>∀p,H p=none->tk σ (A9 H p (.dT [])) fun x H1=>tv σ H1 fun y H2=>
  H2 p=some (.dT [])/\∃b ks,x=.ref b/\H2 b=some (.tup (ks.map kV))/\Q (.ref p) (A9 H2 p (.dT [(ks,y)]))):=by
 intro ae s σ H Q I q;have hn:=I.hok.fresh (ak s.heap.objs.size);have I1:=I.laid (a:=s.heap.objs.size) (o:=.dT []) (h':=s.heap.push {cls:=.type "dict",data:=.dict #[]}) (t':=s.toks) (fun _ _ q=>af _ q) (ak _) (W6l s.heap I.big);refine wpAny_Dict_any rfl rfl ?E ?E (pairTrees_cons_walk (B3 (hk ae _ σ _ _ I1 (q _ hn)) fun u s1 ⟨x,H1,I2,rx,q1⟩=>B3 (hv ae s1 σ H1 _ I2 q1) fun w2 s2 s9=>?_));obtain⟨y,H2,I3,ry,e,b,ks,ex,eb,q2⟩:=s9;refine pairTrees_nil_walk ?_;subst ex;obtain rfl:u=Value.ref b:=rx;obtain⟨z,hd,xs,rel,dd⟩:=Y3h I3.hok e;cases rel;unfold storeAll;rw[bY];refine aa (aa (wpAny_dictSet_heap (hsz:=by simp) (knd:=tupleKind (M4 X.prog X.w)) hu (Q6p I3.hok eb) dd fun h' jG hs=>?_));refine am ?_;show wpAny _ _ (forIn [] PUnit.unit _) _ _ _;rw[gu];refine am ⟨.ref s.heap.objs.size,_,?_,rfl,q2⟩;obtain⟨q,es,ep,hq,h2,h3,h4,_,h5⟩:=jG;refine Q5d I3 (by rw[e];exact True.intro) hs ⟨q,hq⟩ ⟨by simp[ga],hd,[(ks,b,w2)],.cons ⟨rfl,?_,ry⟩ .nil,q,es,ep,hq,h2,h3,h4,h5⟩;rw[B2 (Q0k eb e (fun z=>nomatch z))];exact eb
end
theorem Q4j {K:Fg9}:∀{d:D}{k:B7}{v:V},P4 d=some k->A2 K H d v->v=kV k
 |.int i,k,v,h,q=>by cases h;unfold A2 at q;rw[q];rfl
 |.str x,k,v,h,q=>by cases h;unfold A2 at q;rw[q];rfl
 |.non,_,_,h,_=>by cases h
 |.bl _,_,_,h,_=>by cases h
 |.tup _,_,_,h,_=>by cases h
 |.lst _,_,_,h,_=>by cases h
section
variable {a b:Aq}{p2:Pos}
def Z8h (i:Nat)(we wv:WE):WS:=fun E τ=>we τ fun rk=>∃ds ks,rk=.st (.tup ds)/\W3 ds=some ks/\wv τ fun r=>∃d,r=.st d/\E.nx (τ.set i (some (.dt [(ks,d)])))
def W2k {i:Nat}{v:Aq}  (hu:X.A.units<cLine)(he:DE X H0 e we)(hv:DE X H0 v wv)(hN:X.N.Nodup)(hi:X.N[i]?=some x)(hx:Loc X.env.scope x)(hs:swapsWith (.Dict [some e] [v] p2) (some (.Name x cf)) pos.line X.env=pure false:=by rfl)
  (hf:?J:=by sleep 1):DS X H0 (.Assign [.Name x cf] (.Dict [some e] [v] p2) pos) (Z8h i we wv) where
 mono:=fun τ E F le h=>he.mono τ _ _ (fun r cy=>(by obtain⟨ds,ks,a1,a2,h⟩:=cy;exact⟨ds,ks,a1,a2,hv.mono τ _ _ (fun r⟨d,b1,b2⟩=>⟨d,b1,le.nx _ b2⟩) h⟩)) h
 ps:=Q7 (Q6x hN hi hx (V2p hu he.pe hv.pe) hs hf) fun D σ H dF p hp=>by
  obtain⟨τ,hR,h⟩:=dF;have sm:A5 H (A9 H p (.dT [])):=G7 hp _;have fB:=hR.mono sm;refine⟨τ,fB,he.mono τ _ _ (fun rk rZ y H1 s1 ik=>?_) h⟩;obtain⟨ds,ks,a1,a2,h⟩:=rZ;subst a1;have fk:=fB.mono s1;refine⟨τ,fk,hv.mono τ _ _ (fun r rY u H2 s2 iv=>?_) h⟩;obtain⟨d,b1,b2⟩:=rY;subst b1;have ik:A2 X.K H1 (.tup ds) y:=ik;unfold A2 at ik;obtain⟨b,xs,rfl,sb,al⟩:=ik;rw[Q6q a2 al]at sb;have ep:=s2 _ _ (s1 _ _ (upd_same (H:=H) (a:=p) (o:=.dT [])));refine⟨ep,b,ks,rfl,s2 _ _ sb,?_⟩;have kp:Kp H2 (A9 H2 p (.dT [(ks,u)])):=Q0b ep (by intro xs z;cases z) (by intro o u z;cases z) _;have ki:=fk.mono s2;have h0:H0 p=none:=hR.same.free hp;have gr:∀(j:Nat) (t:Sl),τ[j]?=some (some t)->t.mut=true->σ[j]?≠some (some (.ref p)):=fun j t e m q=>by
   obtain⟨o,ho⟩:=hR.tracked e m q;rw[hp]at ho;cases ho
  have m6:C1 X.K H0 τ σ (A9 H2 p (.dT [(ks,u)])):=by
   refine⟨ki.len,fun b o q=>?_,fun j t e=>?_,ki.apart⟩
   ·rw[B2 (fun z=>by rw[z,h0]at q;cases q)];exact ki.same _ _ q
   ·obtain⟨v,q,r⟩:=ki.here j t e;refine⟨v,q,?_⟩;have ap:t.mut=true->v≠.ref p:=fun mm z=>gr j t e mm (by rw[q,z]);cases t with
    |dat d=>exact A2.mono kp _ _ r
    |own es=>accm_mu
    |bor es=>obtain⟨b,ys,e,q,t⟩:=r;exact⟨b,ys,e,q,t.mono kp _ _⟩
    |bd es=>obtain⟨b,ys,e,q,t⟩:=r;exact⟨b,ys,e,q,t.mono kp _ _⟩
    |dk es=>accm_mu
    |dt es=>accm_mu
    |ob _=>exact r
    |cl _ _=>exact⟨r.1,r.2.2 _ _ kp r.2.1,r.2.2⟩
    |ll _ _=>exact⟨r.1,r.2.keep kp fun b φ q=>by rw[B2 (Q0k q ep (by intro z;cases z))];exact q⟩
    |ins _ _ _=>obtain⟨e,n,dx,ys,q,t⟩:=r;exact⟨e,n,dx,ys,by rw[B2 (fun z=>ap rfl (by rw[e,z]))];exact q,t.mono kp _ _⟩
  have rM:Kp H (A9 H2 p (.dT [(ks,u)])):=(Kp.of ((sm.trans s1).trans s2)).trans kp;refine b2 _ _ rM (m6.set (s:=.dt [(ks,d)]) ⟨p,[(ks,u)],rfl,h0,upd_same,⟨u,[],rfl,A2.mono kp _ _ iv,rfl⟩⟩ fun _ j t hj e m q=>gr j t e m q)
@[simp] theorem V6g {i:Nat}  {E:F9}:Z8h i we wv E τ=we τ fun rk=>∃ds ks,rk=.st (.tup ds)/\W3 ds=some ks/\wv τ fun r=>∃d,r=.st d/\E.nx (τ.set i (some (.dt [(ks,d)]))):=rfl
def C1.dkAt {K:Fg9}    {i:Nat}{kvs:O (B7×D)}(hR:C1 K H0 τ σ H)(e1:τ[i]?=some (some (.dk kvs))):∃a ps,σ[i]?=some (some (.ref a))/\H0 a=none/\H a=some (.dK ps)/\D4 K H kvs ps:=by
 obtain⟨v,hv,a,xs,rfl,h0,sq,al⟩:=hR.here i _ e1;exact⟨a,xs,hv,h0,sq,al⟩
def Q2t (i:Nat)(we:WE):WE:=fun τ Q=>∃kvs,τ[i]?=some (some (.dk kvs))/\we τ fun r=>∃kd k d,r=.st kd/\P4 kd=some k/\F8 kvs k=some d/\Q (.st d)
def W2c {i:Nat}(hu:X.A.units+1<cLine)(ho:PE X o (Q0 i))(he:DE X H0 e we)(hs:Q7y e):DE X H0 (.Subscript o e pos) (Q2t i we) where
 mono:=fun τ P Q f fM=>(by obtain⟨kvs,e1,h⟩:=fM;exact⟨kvs,e1,he.mono τ _ _ (fun r fL=>(by obtain⟨ds,ks,d,a1,a2,a3,a4⟩:=fL;exact⟨ds,ks,d,a1,a2,a3,f _ a4⟩)) h⟩)
 pe:=P7 (Z6m hu ho he.pe hs) fun σ H Q fW=>by
  obtain⟨τ,hR,kvs,e1,h⟩:=fW;obtain⟨a,ps,hv,h0,sq,kv⟩:=hR.dkAt e1;refine⟨_,hv,τ,hR,he.mono τ _ _ (fun r rX v H1 s1 ir=>?_) h⟩;obtain⟨kd,k,d,a1,a2,a3,a4⟩:=rX;subst a1;cases Q4j a2 (show A2 X.K H1 kd v from ir);rcases D4.val (k:=k) (kv.mono (Kp.of s1) _ _)with⟨n1,_⟩ |⟨d',v',n1,n2,n3⟩
  ·rw[a3]at n1;cases n1
  ·rw[a3]at n1;cases n1;refine⟨a,v',rfl,?_,a4 _ _ s1 n3⟩;have g:=X8.k (k:=k) (s1 _ _ sq);rw[n2]at g;exact g
def Q4x (i:Nat)(we:WE):WT:=fun τ Q=>∃kvs,τ[i]?=some (some (.dk kvs))/\we τ fun r=>∃kd k,r=.st kd/\P4 kd=some k/\Q (!(F8 kvs k).isSome)
def W3d {i:Nat}(hu:X.A.units+1<cLine)(he:DE X H0 e we)(ho:PE X o (Q0 i))(h1:behindInMarks .NotIn o=false:=by rfl):DT X H0 (.Compare e [.NotIn] [o] pos) (Q4x i we) where
 mono:=fun τ P Q f jZ=>(by obtain⟨kvs,e1,h⟩:=jZ;exact⟨kvs,e1,he.mono τ _ _ (fun r⟨ds,ks,a1,a2,a4⟩=>⟨ds,ks,a1,a2,f _ a4⟩) h⟩)
 pt:=ptW (Y7e (Y6v hu he.pe ho) h1) fun σ H Q k7=>by
  obtain⟨τ,hR,kvs,e1,h⟩:=k7;refine⟨τ,hR,he.mono τ _ _ (fun r rW v H1 s1 ir=>?_) h⟩;obtain⟨kd,k,a1,a2,a4⟩:=rW;obtain⟨a,ps,hv,h0,sq,kv⟩:=(hR.mono s1).dkAt e1;subst a1;cases Q4j a2 (show A2 X.K H1 kd v from ir);refine⟨_,hv,a,_,rfl,X8.k (k:=k) sq,?_⟩;have e:(U3 ps k).isSome=(F8 kvs k).isSome:=by
   rcases D4.val (k:=k) kv with⟨n1,n2⟩ |⟨d',v',n1,n2,n3⟩<;>rw[n1,n2]<;>rfl
  rw[e];exact⟨_,rfl,a4 _ s1⟩
def Q4y (i:Nat)(we wv:WE):WS:=fun E τ=>wv τ fun r=>∃d,r=.st d/\∃kvs,τ[i]?=some (some (.dk kvs))/\we τ fun rk=>∃kd k,rk=.st kd/\P4 kd=some k/\kvs.length<sizeLine/\E.nx (τ.set i (some (.dk (P8 kvs k d))))
def W2p {i:Nat}{v:Aq}  (hu:X.A.units+1<cLine)(ho:PE X o (Q0 i))(he:DE X H0 e we)(hv:DE X H0 v wv)(hs:swapsWith v (some (.Subscript o e cf)) pos.line X.env=pure false:=by rfl):
  DS X H0 (.Assign [.Subscript o e cf] v pos) (Q4y i we wv) where
 mono:=fun τ E F le h=>hv.mono τ _ _ (fun r gK=>(by obtain⟨d,e1,kvs,e2,h⟩:=gK;exact⟨d,e1,kvs,e2,he.mono τ _ _ (fun r⟨ds,ks,a1,a2,a3,a4⟩=>⟨ds,ks,a1,a2,a3,le.nx _ a4⟩) h⟩)) h
 ps:=Q7 (Y7b hu ho he.pe hv.pe hs) fun D σ H k6=>by
  obtain⟨τ,hR,h⟩:=k6;refine⟨τ,hR,hv.mono τ _ _ (fun r rV u H1 s1 ir=>?_) h⟩;obtain⟨d,e1,kvs,e2,h⟩:=rV;subst e1;have fB:=hR.mono s1;obtain⟨a,ps,ig,h0,sq,kv⟩:=fB.dkAt e2;refine⟨_,ig,τ,fB,he.mono τ _ _ (fun rk rT y H2 s2 ik=>?_) h⟩;obtain⟨kd,k,a1,a2,a3,a4⟩:=rT;subst a1;cases Q4j a2 (show A2 X.K H2 kd y from ik);have fi:=s2 _ _ sq;have kq:=kv.mono (Kp.of s2) _ _;refine⟨a,_,rfl,Q3q.k fi (by rw[<-D4.length kq];exact a3),?_⟩;have kp:Kp H2 (A9 H2 a (.dK (R8 ps k u))):=Q0b fi (by intro xs z;cases z) (by intro o u z;cases z) _;have iv:A2 X.K H2 d u:=A2.mono (Kp.of s2) _ _ ir;refine a4 σ _ ((Kp.of (s1.trans s2)).trans kp) ((fB.mono s2).mutG e2 rfl ig h0 fi (by intro xs z;cases z) (by intro o u z;cases z) ⟨a,_,rfl,h0,upd_same,?_⟩);exact D4.mono kp _ _ (D4.put iv kq)
@[simp] theorem Z1n {i:Nat}  {Q:R->Prop}:Q2t i we τ Q=∃kvs,τ[i]?=some (some (.dk kvs))/\we τ fun r=>∃kd k d,r=.st kd/\P4 kd=some k/\F8 kvs k=some d/\Q (.st d):=rfl
@[simp] theorem Z6z {i:Nat}  {Q:Bool->Prop}:Q4x i we τ Q=∃kvs,τ[i]?=some (some (.dk kvs))/\we τ fun r=>∃kd k,r=.st kd/\P4 kd=some k/\Q (!(F8 kvs k).isSome):=rfl
@[simp] theorem Z7a {i:Nat}  {E:F9}:Q4y i we wv E τ=wv τ fun r=>∃d,r=.st d/\∃kvs,τ[i]?=some (some (.dk kvs))/\we τ fun rk=>∃kd k,rk=.st kd/\P4 kd=some k/\kvs.length<sizeLine/\E.nx (τ.set i (some (.dk (P8 kvs k d)))):=rfl
end
noncomputable instance decD:DecidableEq D:=fun a b=>Classical.propDecidable (a=b)
def U7 (p:α->β->Prop):O α->O β->Prop
 |[],vs=>vs=[]
 |k::ks,vs=>∃v r,vs=v::r/\p k v/\U7 p ks r
theorem U7.len {p:α->β->Prop}:∀{ks:O α}{vs:O β},U7 p ks vs->ks.length=vs.length
 |[],vs,h=>by rw[show vs=[]from h];rfl
 |k::ks,vs,h=>by obtain⟨v,r,rfl,_,t⟩:=h;rw[aK,aK,t.len]
theorem U7.imp {p q:α->β->Prop}(f:∀a b,p a b->q a b):∀{ks:O α}{vs:O β},U7 p ks vs->U7 q ks vs
 |[],vs,h=>h
 |k::ks,vs,h=>by obtain⟨v,r,rfl,i,t⟩:=h;exact⟨v,r,rfl,f _ _ i,t.imp f⟩
theorem U7.at {p:α->β->Prop}:∀{ks:O α}{vs:O β}{j:Nat}{k:α}{v:β},U7 p ks vs->ks[j]?=some k->vs[j]?=some v->p k v
 |[],vs,j,k,v,h,e,_=>by simp at e
 |k::ks,vs,0,k',v',h,e,e'=>by
  obtain⟨v,r,rfl,i,t⟩:=h;simp at e e';subst e e';exact i
 |k::ks,vs,j+1,k',v',h,e,e'=>by
  obtain⟨v,r,rfl,i,t⟩:=h;exact t.at (by simpa using e) (by simpa using e')
def K7 (h:Heap):Nat->D->An->Prop
 |_,.non,v=>v=.none
 |_,.int i,v=>∃t,v=.int i t
 |_,.str x,v=>∃t,v=.str x t
 |n+1,.tup ks,v=>∃a items,v=.ref a/\h.IsTuple a items/\U7 (K7 h n) ks items.toList
 |_,_,_=>False
def Q0j (w:Av):Nat->D->Int
 |_,.non=>reduceHash 0xFCA86420
 |_,.int i=>hashInt i
 |_,.str x=>hashStr w x
 |n+1,.tup ks=>reduceHash (Builtin.Tuple.tupleHashOf (ks.map (Q0j w n)))
 |_,_=>0
def X2:Nat->D->Nat
 |n+1,.tup ks=>(ks.map (X2 n)).sum+1
 |_,_=>1
def W8c {i j:Array An}(x:h.IsTuple a i)(y:h.IsTuple a j):i=j:=by
 obtain⟨o,e,_,n,d⟩:=x;obtain⟨o',e',_,n',d'⟩:=y;rw[e]at e';cases e';rw[d]at d';cases d';rfl
theorem W1p {p q:α->β->Prop}(f:∀x y v,p x v->q y v->x=y):∀{xs ys:O α}{vs:O β},U7 p xs vs->U7 q ys vs->xs=ys
 |[],[],_,_,_=>rfl
 |[],y::ys,vs,h1,h2=>by obtain⟨_,_,e,_⟩:=h2;rw[show vs=[]from h1]at e;cases e
 |x::xs,[],vs,h1,h2=>by obtain⟨_,_,e,_⟩:=h1;rw[show vs=[]from h2]at e;cases e
 |x::xs,y::ys,vs,h1,h2=>by
  obtain⟨v,r,rfl,i1,t1⟩:=h1;obtain⟨v',r',e,i2,t2⟩:=h2;cases e;rw[f _ _ _ i1 i2,W1p f t1 t2]
theorem K7.shape:∀{n:Nat}{x:D}{v:An},K7 h n x v->(x=.non/\v=.none)\/(∃i t,x=.int i/\v=.int i t)\/(∃i t,x=.str i/\v=.str i t)\/∃m ks a items,n=m+1/\x=.tup ks/\v=.ref a/\h.IsTuple a items/\U7 (K7 h m) ks items.toList
 |n,.non,v,q=>.inl ⟨rfl,by cases n<;>exact q⟩
 |n,.int i,v,q=>by
  obtain⟨t,e⟩:∃t,v=.int i t:=by cases n<;>exact q
  exact .inr (.inl ⟨i,t,rfl,e⟩)
 |n,.str i,v,q=>by
  obtain⟨t,e⟩:∃t,v=.str i t:=by cases n<;>exact q
  exact .inr (.inr (.inl ⟨i,t,rfl,e⟩))
 |0,.tup ks,v,q=>q.elim
 |m+1,.tup ks,v,q=>by
  obtain⟨a,items,e,t,z⟩:=q;exact .inr (.inr (.inr ⟨m,ks,a,items,rfl,rfl,e,t,z⟩))
 |n,.bl b,v,q=>by cases n<;>exact q.elim
 |n,.lst b,v,q=>by cases n<;>exact q.elim
theorem K7.one:∀(n m:Nat) (x y:D) (v:An),K7 h n x v->K7 h m y v->x=y:=by
 intro n
 induction n with
 |zero=>
  intro m x y v h1 h2;rcases h1.shape with⟨rfl,rfl⟩ |⟨i,t,rfl,rfl⟩ |⟨i,t,rfl,rfl⟩ |⟨m1,ks,a,items,e0,rfl,rfl,t,z⟩<;>
   rcases h2.shape with⟨rfl,e⟩ |⟨j,u,rfl,e⟩ |⟨j,u,rfl,e⟩ |⟨m2,rL,a2,iI,_,rfl,e,t2,z2⟩<;>first |rfl |(cases e;rfl) |(cases e;done) |lia
 |succ n ih=>
  intro m x y v h1 h2;rcases h1.shape with⟨rfl,rfl⟩ |⟨i,t,rfl,rfl⟩ |⟨i,t,rfl,rfl⟩ |⟨m1,ks,a,items,e0,rfl,rfl,t,z⟩<;>
   rcases h2.shape with⟨rfl,e⟩ |⟨j,u,rfl,e⟩ |⟨j,u,rfl,e⟩ |⟨m2,rL,a2,iI,_,rfl,e,t2,z2⟩<;>first |rfl |(cases e;rfl) |(cases e;done) |skip
  cases e;cases e0;cases W8c t t2;rw[W1p (fun x y v=>ih m2 x y v) z z2]
theorem W3z (k:∀a items,h.IsTuple a items->h'.IsTuple a items):∀(n:Nat) (x:D) (v:An),K7 h n x v->K7 h' n x v:=by
 intro n
 induction n with
 |zero=>intro x v q;cases x<;>exact q
 |succ n ih=>
  intro x v q;cases x with
  |tup ks=>
   unfold K7 at q ⊢;obtain⟨a,it,e,t,z⟩:=q;exact⟨a,it,e,k _ _ t,z.imp ih⟩
  |_=>exact q
section
variable {w:Av}
theorem Y4t (ih:∀(k:D) (v:An) (A:As) (s:Ao) (Q:Int->Ao->Prop),A.units+n<cLine->K7 s.heap n k v->Q (Q0j w n k) {s with toks:=s.toks+X2 n k}->wpAny ?V A (pyHash v) Q E s):
  ∀(ks:O D) (vs:O An) (A:As) (s:Ao) (b:Array Int) (Q:Array Int->Ao->Prop),A.units+n<cLine->U7 (K7 s.heap n) ks vs ->
   Q (b++(ks.map (Q0j w n)).toArray) {s with toks:=s.toks+(ks.map (X2 n)).sum}->wpAny ?V A (forIn vs b fun x r=>do let h <- pyHash x;pure PUnit.unit;pure (ForInStep.yield (r.push h))) Q E s
 |[],vs,A,s,b,Q,_,z,q=>by
  rw[show vs=[]from z];exact am (by simpa using q)
 |k::ks,vs,A,s,b,Q,hu,z,q=>by
  obtain⟨v,r,rfl,i,t⟩:=z;rw[bY];refine aa (aa (ih k v A s _ hu i ?_));refine aa (am (am ?z));refine Y4t ih ks r A {s with toks:=s.toks+X2 n k} _ Q hu t ?_;have e:(b.push (Q0j w n k))++(ks.map (Q0j w n)).toArray=b++((k::ks).map (Q0j w n)).toArray:=by simp
  have e2:s.toks+X2 n k+(ks.map (X2 n)).sum=s.toks+((k::ks).map (X2 n)).sum:=by simp[Nat.add_assoc]
  rw[e];show Q _ {s with toks:=s.toks+X2 n k+(ks.map (X2 n)).sum};rw[e2];exact q
theorem W8j:∀(n:Nat) (k:D) (v:An) (A:As) (s:Ao) (Q:Int->Ao->Prop),A.units+n<cLine->K7 s.heap n k v->Q (Q0j w n k) {s with toks:=s.toks+X2 n k}->wpAny ?V A (pyHash v) Q E s:=by
 have flat:∀(n:Nat) (k:D) (v:An) (A:As) (s:Ao) (Q:Int->Ao->Prop),(∀ks,k≠.tup ks)->K7 s.heap n k v->Q (Q0j w n k) {s with toks:=s.toks+X2 n k}->wpAny ?V A (pyHash v) Q E s:=by
  intro n k v A s Q nt i q;cases k with
  |tup ks=>exact absurd rfl (nt ks)
  |bl b=>cases n<;>exact i.elim
  |lst b=>cases n<;>exact i.elim
  |non=>
   have e:v=.none:=by cases n<;>exact i
   subst e;have e1:Q0j w n .non=reduceHash 0xFCA86420:=by cases n<;>rfl
   have e2:X2 n .non=1:=by cases n<;>rfl
   rw[e1,e2]at q;exact u5 (T:="NoneType") rfl F.slot_NoneType_hash F.entry_NoneType_hash (F.args_NoneType_hash_1 _) (beq_builtin_none _) (.inl rfl) (aa (am (aa (nM (am ⟨_,_,rfl,q⟩)))))
  |int j=>
   obtain⟨t,rfl⟩:∃t,v=.int j t:=by cases n<;>exact i
   have e1:Q0j w n (.int j)=hashInt j:=by cases n<;>rfl
   have e2:X2 n (.int j)=1:=by cases n<;>rfl
   rw[e1,e2]at q;exact wpAny_pyHash_int q
  |str j=>
   obtain⟨t,rfl⟩:∃t,v=.str j t:=by cases n<;>exact i
   have e1:Q0j w n (.str j)=hashStr w j:=by cases n<;>rfl
   have e2:X2 n (.str j)=1:=by cases n<;>rfl
   rw[e1,e2]at q;exact wpAny_pyHash_str q
 intro n
 induction n with
 |zero=>
  intro k v A s Q hu i q;cases k with
  |tup ks=>exact i.elim
  |_=>exact flat 0 _ v A s Q (by intro ks e;cases e) i q
 |succ n ih=>
  intro k v A s Q hu i q;cases k with
  |tup ks=>
   obtain⟨a,items,rfl,t,z⟩:=i;obtain⟨o,e,c,m,d⟩:=id t;refine u5 (T:="tuple") ⟨o,e,c⟩ F.slot_tuple_hash F.entry_tuple_hash (F.args_tuple_hash_1 _) (beq_builtin_none _) (.inr (?H)) ?_
   change wpAny ?V A.in1 (Builtin.Tuple.tupleItemsOf (Value.ref a)>>=_) _ _ s
   refine aa (wpAny_tupleItemsOf e d (aa ?_));rw[<-eY];refine Y4t ih ks items.toList A.in1 s #[] _ (by simp only[eQ];lia) z ?_;refine aa (nM (am ⟨_,_,rfl,?_⟩));have q2:Q (reduceHash (Builtin.Tuple.tupleHashOf (ks.map (Q0j w n)))) {s with toks:=s.toks+(ks.map (X2 n)).sum+1}:=q;simpa using q2
  |_=>exact flat (n+1) _ v A s Q (by intro ks e;cases e) i q
theorem W6o {x y:Array An}{xs ys:O D}{m:Nat}(hu:A.units<cLine)(ta:s.heap.IsTuple a x)(tb:s.heap.IsTuple b y)(za:U7 (K7 s.heap n) xs x.toList)(zb:U7 (K7 s.heap m) ys y.toList)
  (he:∀(k l:D) (u v:An),K7 s.heap n k u->K7 s.heap m l v->SeqAt.EqAt A.in1 s u v (decide (k=l))):SeqAt.RcAt A s (.ref a) (.ref b) (decide (D.tup xs=D.tup ys)):=by
 have lx:xs.length=x.size:=by rw[za.len];simp
 have ly:ys.length=y.size:=by rw[zb.len];simp
 have r:=SeqAt.RcAt.tuples (e:=fun j=>decide (xs[j]?=ys[j]?)) ta tb hu fun j h1 h2=>by
  have e1:xs[j]?=some xs[j]:=ac (?H);have e2:ys[j]?=some ys[j]:=ac (?H);have q:=he xs[j] ys[j] x[j] y[j] (za.at e1 (by simp[h1])) (zb.at e2 (by simp[h2]));have:decide (xs[j]?=ys[j]?)=decide (xs[j]=ys[j]):=by rw[e1,e2];by_cases z:xs[j]=ys[j]<;>simp[z]
  show SeqAt.EqAt A.in1 s x[j] y[j] (decide (xs[j]?=ys[j]?));rw[this];exact q
 have e:((List.range (min x.size y.size)).all (fun j=>decide (xs[j]?=ys[j]?))&&x.size==y.size)=decide (D.tup xs=D.tup ys):=by
  rw[eG];simp only[ce,cc,aL,zp,beq_iff_eq,D.tup.injEq];constructor
  ·rintro ⟨h1,h2⟩;refine dJ fun j=>?_
   by_cases hj:j<x.size
   ·exact h1 j (?H)
   ·rw[dU (?H),dU (?H)]
  ·rintro rfl;exact⟨fun _ _=>rfl,?H⟩
 rw[e]at r;exact r
theorem k_eq:∀(n m:Nat) (x y:D) (u v:An) (A:As),A.units+n<cLine->K7 s.heap n x u->K7 s.heap m y v->SeqAt.EqAt A s u v (decide (x=y)):=by
 have flat:∀(n m:Nat) (x y:D) (u v:An) (A:As),A.units+n<cLine->K7 s.heap n x u->K7 s.heap m y v ->
   (∀n' xs ys a b i j m',n=n'+1->s.heap.IsTuple a i->s.heap.IsTuple b j->U7 (K7 s.heap n') xs i.toList->U7 (K7 s.heap m') ys j.toList->a≠b->SeqAt.EqAt A s (.ref a) (.ref b) (decide (D.tup xs=D.tup ys)))->SeqAt.EqAt A s u v (decide (x=y)):=by
  intro n m x y u v A hu h1 h2 tt;have nG:A.units<cLine:=?H
  rcases h1.shape with⟨rfl,rfl⟩ |⟨i,t,rfl,rfl⟩ |⟨i,t,rfl,rfl⟩ |⟨m1,ks,a,items,e0,rfl,rfl,t,z⟩<;>
   rcases h2.shape with⟨rfl,rfl⟩ |⟨j,u,rfl,rfl⟩ |⟨j,u,rfl,rfl⟩ |⟨m2,rL,a2,iI,_,rfl,rfl,t2,z2⟩
  ·rw[bO rfl];exact SeqAt.EqAt.same _
  ·rw[aW (by intro e;cases e)];exact SeqAt.EqAt.none_int _ _
  ·rw[aW (by intro e;cases e)];exact SeqAt.EqAt.none_str _ _
  ·rw[aW (by intro e;cases e)];exact SeqAt.EqAt.none_tuple t2 nG
  ·rw[aW (by intro e;cases e)];exact SeqAt.EqAt.int_none _ _
  ·have e:decide (D.int i=D.int j)=(i==j):=by by_cases z:i=j<;>simp[z]
   rw[e];exact SeqAt.EqAt.int_int _ _ _ _
  ·rw[aW (by intro e;cases e)];exact SeqAt.EqAt.int_str _ _ _ _
  ·rw[aW (by intro e;cases e)];exact SeqAt.EqAt.int_tuple _ _ t2 nG
  ·rw[aW (by intro e;cases e)];exact SeqAt.EqAt.str_none _ _
  ·rw[aW (by intro e;cases e)];exact SeqAt.EqAt.str_int _ _ _ _
  ·have e:decide (D.str i=D.str j)=(i==j):=by by_cases z:i=j<;>simp[z]
   rw[e];exact SeqAt.EqAt.str_str _ _ _ _
  ·rw[aW (by intro e;cases e)];exact SeqAt.EqAt.str_tuple _ _ t2 nG
  ·rw[aW (by intro e;cases e)];exact SeqAt.EqAt.tuple_none t nG
  ·rw[aW (by intro e;cases e)];exact SeqAt.EqAt.tuple_int _ _ t nG
  ·rw[aW (by intro e;cases e)];exact SeqAt.EqAt.tuple_str _ _ t nG
  ·by_cases ab:a=a2
   ·subst ab;have e:=K7.one _ _ _ _ _ h1 h2;rw[bO e];exact SeqAt.EqAt.same _
   ·exact tt m1 ks rL a a2 items iI m2 e0 t t2 z z2 ab
 intro n
 induction n with
 |zero=>exact fun m x y u v A hu h1 h2=>flat 0 m x y u v A hu h1 h2 fun n' _ _ _ _ _ _ _ e=>?H
 |succ n ih=>
  exact fun m x y u v A hu h1 h2=>flat (n+1) m x y u v A hu h1 h2 fun n' xs ys a b i j m' e ta tb za zb ab=>by
   cases e;exact SeqAt.EqAt.of_refs ab (W6o (?H) ta tb za zb fun k l u v h1 h2=>ih m' k l u v A.in1 (by simp only[eQ];lia) h1 h2)
theorem W8k:∀(n f:Nat) (x:D) (v:An) (Q:Bool->Ao->Prop),n<=f->K7 s.heap n x v->Q true s->wpAny ?V A (eqIsQuiet f v) Q E s:=by
 intro n
 induction n with
 |zero=>
  intro f x v Q hf h q;rcases h.shape with⟨rfl,rfl⟩ |⟨i,t,rfl,rfl⟩ |⟨i,t,rfl,rfl⟩ |⟨m1,ks,a,items,e0,rfl,rfl,t,z⟩
  ·rw[cZ f rfl];exact am q
  ·rw[cZ f rfl];exact am q
  ·rw[cZ f rfl];exact am q
  ·lia
 |succ n ih=>
  intro f x v Q hf h q;rcases h.shape with⟨rfl,rfl⟩ |⟨i,t,rfl,rfl⟩ |⟨i,t,rfl,rfl⟩ |⟨m1,ks,a,items,e0,rfl,rfl,t,z⟩
  ·rw[cZ f rfl];exact am q
  ·rw[cZ f rfl];exact am q
  ·rw[cZ f rfl];exact am q
  ·cases e0;obtain⟨o,e,c,m,d⟩:=id t;have hT:s.TypeIs (.ref a) "tuple":=⟨o,e,c⟩
   cases f with
   |zero=>lia
   |succ f=>
    unfold eqIsQuiet;refine aa (fm hT F.slot_tuple_eq.lookup (?_:wpAny ?V A (isInstance (Value.ref a) (.type "tuple")>>=_) _ _ s));refine aa (wpAny_isInstance hT isSubtype_tuple_tuple (s:=s) ?_);rw[aI (?G)];refine aa (cu e d (aa ?_))
    change wpAny ?V A (forIn items _ _) _ _ s
    rw[<-eY];have loop:∀(ks:O D) (vs:O An),U7 (K7 s.heap n) ks vs->wpAny ?V A (forIn vs (none,PUnit.unit) fun y (zX:Am Bool×PUnit)=>(do
      if (!(<- eqIsQuiet f y))=true then pure (ForInStep.done (some false,PUnit.unit))else pure (ForInStep.yield (none,PUnit.unit)))) (fun r s'=>s'=s/\r=(none,PUnit.unit)) E s:=by
     intro ks
     induction ks with
     |nil=>intro vs z;rw[show vs=[]from z];exact am ⟨rfl,rfl⟩
     |cons k ks ihk=>
      intro vs z;obtain⟨v,r,rfl,i,z⟩:=z;rw[bY];refine aa (aa (ih f k v _ (?H) i ?_));rw[aI (?G)];exact am (ihk r z)
    refine aP (loop ks items.toList z) (fun r s' bB=>?_) fun _ _ z=>z;obtain⟨e1,e2⟩:=bB;subst e1 e2;exact am q
end
noncomputable def Z4x (prog:Au)(w:Av):HeapKind prog w D where
 is:=fun h k a=>K7 h 8 k (.ref a)
 hash:=Q0j w 8
 draws:=X2 8
 room:=fun A=>A.units+8<cLine
 inj:=fun h1 h2=>K7.one _ _ _ _ _ h1 h2
 keeps:=fun h1 ho hd hs=>W3z (fun b it t=>by
  obtain⟨o',e,c,m,d⟩:=t;refine⟨o',(hs.2 b fun z=>?_).trans e,c,m,d⟩;subst z;rw[ho]at e;cases e;rw[hd]at d;cases d) _ _ _ h1
 pyHash:=fun hu hk h=>W8j 8 _ _ _ _ _ hu hk h
 eqBool:=fun hu hx hy h=>k_eq 8 8 _ _ _ _ _ hu hx hy _ _ _ _ h
 quiet:=fun hk h=>W8k 8 8 _ _ _ (ak _) hk h
section
variable [DecidableEq κ]{w:Av}{knd:HeapKind P w κ}{d:Ap}{xs:O (κ×Ap×An)}{k:κ}
def V7k {y:An}  (hu:knd.room A)(hk:knd.is s.heap k a)(D:s.heap.DictOfH knd d xs)(z:xs.length<=sizeLine)
  (h1:∀(j:Nat) (p:Ap×An),xs[j]?=some (k,p)->Q p.2 {s with toks:=s.toks+knd.draws k})
  (h2:k∉xs.map (·.1)->∀h',h'.DictOfH knd d (xs++[(k,a,y)])->Heap.SameBut d s.heap h'->Q y {s with heap:=h',toks:=s.toks+knd.draws k}):wpAny ?R A (dictSetDefault d (.ref a) y) Q E s:=by
 obtain⟨o,es,ep,ho,hc,hd,he,oR,hn⟩:=D;have hz:es.size<=sizeLine:=by rw[size_of_entries he];exact z
 unfold dictSetDefault;refine bD (aa (knd.pyHash hu hk (aa (wpAny_dictFind_heap (s:={s with toks:=s.toks+knd.draws k}) hu hk ho hd he oR hn (fun no=>?_) fun j p hj=>?_))))
 ·have nk:=not_mem_keys_of_get no;refine aa (dw (aa (wpAny_updateDictKeys (s:={s with toks:=s.toks+knd.draws k}) ho hd (am (h2 nk _ ?_ (bP ..))) (hz:=hz))));refine⟨_,_,ep+1,cF _ ho (Obj.isFreed_of_dict (Obj.data_mapDictKeys hd _)),hc.mapDictKeys _,Obj.data_mapDictKeys hd _,by simp[he,entryOfKey],fun x hx=>?_,?_⟩
  ·rcases aN.mp hx with q |q
   ·exact knd.keeps (oR x q) ho hd (bP ..)
   ·rw[aE.mp q];exact knd.keeps hk ho hd (bP ..)
  ·rw[aX,bc (l₁:=xs.map (·.1))];refine⟨hn,by simp,fun b hb c iQ e=>?_⟩;rw[show c=k by simpa using iQ]at e;exact nk (e▸hb)
 ·refine aa (wpAny_dictEntries (s:={s with toks:=s.toks+knd.draws k}) ho hd ?_);rw[entry_at he j,hj];exact aa (dw (am (h1 j p hj)))
def W5j {y:An}  (hu:knd.room A.in1)(hs:(d==sysModules)=false)(hk:knd.is s.heap k a)(D:s.heap.DictOfH knd d xs)(z:xs.length<=sizeLine)
  (h1:∀(j:Nat) (p:Ap×An),xs[j]?=some (k,p)->Q p.2 {s with toks:=s.toks+knd.draws k})
  (h2:k∉xs.map (·.1)->∀h',h'.DictOfH knd d (xs++[(k,a,y)])->Heap.SameBut d s.heap h'->Q y {s with heap:=h',toks:=s.toks+knd.draws k}):wpAny ?R A (call (.builtin "dict.setdefault") [.ref d,.ref a,y]) Q E s:=by
 refine ci cQ D.typeIs jt ?_ (j8 _ _ _);unfold Builtin.«dict.setdefault» Builtin.Dict.keyAndDefault;refine aa (aa (wpAny_notOrdered_dict D.typeIs ?_))
 change wpAny ?R A.in1 (pure (d,Value.ref a,some y)) _ _ s
 refine am (?_:wpAny ?R A.in1 (if (d==sysModules)=true then _ else(dictSetDefault d (.ref a) y>>=fun r=>ret r)) _ _ s);rw[aI (by rw[hs];decide)];exact aa (V7k hu hk D z (fun j p hj=>am ⟨_,rfl,h1 j p hj⟩) fun n h' D' sb=>am ⟨_,rfl,h2 n h' D' sb⟩)
theorem W5e (hs:(d==sysModules)=false)(D:s.heap.DictOfH knd d xs)(z:xs.length<=sizeLine)(h:∀t t',Q (.int xs.length t) {s with toks:=t'}):wpAny ?R A (call (.builtin "len") [.ref d]) Q E s:=by
 have zU:((xs.length:Nat):Int)<2^63:=by rw[ga]at z;lia
 refine Calls.call_function_entry kind_len plain_len entry_len (args_len1 (Value.ref d)) ?_;unfold Builtin.«len»;refine aa (m:=oneArg "len" _) (am (aa (m:=callSpecial? (.ref d) (Str.ofString "__len__")) ?_));have hT:=D.typeIs;obtain⟨o,es,ep,ho,hc,hd,he,oR,hn⟩:=D;have yD:es.size=xs.length:=size_of_entries he;refine bU (name:=Str.ofString "__len__") hT pJ (ci pJ hT PySem.F.entry_dict_len ?_ (PySem.F.args_dict_len_1 _))
 change wpAny ?R _ (dictSize d>>=_) _ _ s
 unfold dictSize;refine aa (aa (wpAny_dictEntries ho hd (am (aa (wpAny_pendingCount_other hs (aa (nM (am ⟨_,rfl,?_⟩))))))));refine aa (bD (am (aa (iV ?_))));rw[iU,yD];rw[aI (?H),aI (?H)];exact aa (nM (am ⟨_,rfl,h _ _⟩))
end
def T6:Nat->D->Bool
 |_,.non=>true
 |_,.int _=>true
 |_,.str _=>true
 |n+1,.tup ks=>ks.all (T6 n)
 |_,_=>false
def GDh (P:Au)(w:Av)(p:Ap)(ks:O (D×Ap))(h:Heap):Prop:=
 (p==sysModules)=false/\ks.length<=sizeLine/\∃xs:O (D×Ap×An),xs.map (fun x=>(x.1,x.2.1))=ks/\(∀(i:Nat) x,xs[i]?=some x->∃t,x.2.2=.int i t) /\
  ∃o es ep,h.get? p=?P/\o.ExactDict/\o.data=.dict es ep/\es.toList=xs.map (entryOfKey (Z4x P w))/\(xs.map (·.1)).Nodup
def gD (X:Cx)(p:Ap)(ks:O (D×Ap)):HO:=.ext (GDh X.prog X.w p ks)
section
variable {w:Av}{p:Ap}{ks:O (D×Ap)}{K:Fg9}
def GDh.ok (g:GDh P w p ks h):ObjOk P w H h p (.ext (GDh P w p ks)):=by
 obtain⟨o,e⟩:∃o,h.get? p=?P:=by obtain⟨_,_,_,_,_,o,_,_,e,_⟩:=g;exact⟨o,e⟩
 refine⟨g,⟨o,e⟩,fun h1 h2 cy k=>(by obtain⟨a,b,xs,c,d,o,es,ep,e,r⟩:=cy;exact⟨a,b,xs,c,d,o,es,ep,k _ e,r⟩)⟩
theorem W1o (ok:G4 P w H h)  (ih:∀(d:D) (v:V) (u:An),T6 n d=true->A2 K H d v->C4 v u->K7 h n d u):
  ∀(ds:O D) (vs:O V) (us:O An),ds.all (T6 n)=true->AllS K H ds vs->C0 vs us->U7 (K7 h n) ds us
 |[],vs,us,_,al,r=>by
  unfold AllS at al;subst al;cases r;exact rfl
 |d::ds,vs,us,hk,al,r=>by
  unfold AllS at al;obtain⟨v,t,rfl,i,al⟩:=al;cases r with
  |cons r1 r2=>
   rw[gY,ce]at hk;exact⟨_,_,rfl,ih d v _ hk.1 i r1,W1o ok ih ds t _ hk.2 al r2⟩
theorem Y4u (ok:G4 P w H h):∀(n:Nat) (d:D) (v:V) (u:An),T6 n d=true->A2 K H d v->C4 v u->K7 h n d u:=by
 have flat:∀(n:Nat) (d:D) (v:V) (u:An),(∀ks,d≠.tup ks)->T6 n d=true->A2 K H d v->C4 v u->K7 h n d u:=by
  intro n d v u nt hk i r;cases d with
  |tup ks=>exact absurd rfl (nt ks)
  |non=>unfold A2 at i;subst i;cases (show u=.none from r);cases n<;>exact rfl
  |bl b=>cases n<;>cases hk
  |lst b=>cases n<;>cases hk
  |int j=>unfold A2 at i;subst i;obtain⟨t,rfl⟩:=(show ∃t,u=Value.int j t from r);cases n<;>exact⟨t,rfl⟩
  |str j=>unfold A2 at i;subst i;obtain⟨t,rfl⟩:=(show ∃t,u=Value.str j t from r);cases n<;>exact⟨t,rfl⟩
 intro n
 induction n with
 |zero=>
  intro d v u hk i r;cases d with
  |tup ks=>cases hk
  |_=>exact flat 0 _ v u (by intro ks e;cases e) hk i r
 |succ n ih=>
  intro d v u hk i r;cases d with
  |tup ks=>
   unfold A2 at i;obtain⟨a,xs,rfl,e,al⟩:=i;cases (show u=Value.ref a from r);obtain⟨_,aY,rv,t⟩:=(show ObjOk P w H h a (.tup xs)from ok a _ e)
   exact⟨a,aY.toArray,rfl,t,by simpa using W1o ok ih ks xs aY hk al rv⟩
  |_=>exact flat (n+1) _ v u (by intro ks e;cases e) hk i r
def GDh.dict (ok:G4 P w H h)(g:GDh P w p ks h)(hk:∀x∈ks,T6 8 x.1=true/\A2 K H x.1 (.ref x.2)):
  ∃xs:O (D×Ap×An),xs.map (fun x=>(x.1,x.2.1))=ks/\(∀(i:Nat) x,xs[i]?=some x->∃t,x.2.2=.int i t)/\h.DictOfH (Z4x P w) p xs:=by
 obtain⟨_,_,xs,e,iv,o,es,ep,h1,h2,h3,h4,h5⟩:=g;refine⟨xs,e,iv,o,es,ep,h1,h2,h3,h4,fun x hx=>?_,h5⟩;obtain⟨k1,k2⟩:=hk (x.1,x.2.1) (by rw[<-e];exact aq.mpr ⟨x,hx,rfl⟩);exact Y4u ok 8 _ _ _ k1 k2 rfl
end
section
variable {p:Ap}
def W5d:Q5u X (.builtin "len") (fun xs H Q=>∃p ks,xs=[V.ref p]/\H p=some (gD X p ks)/\(∀x∈ks,T6 8 x.1=true/\A2 X.K H x.1 (.ref x.2))/\Q (.int ks.length) H):=by
 intro ae s σ H xs us Q I r ⟨p,ks,e,hp,hk,q⟩;subst e;obtain⟨u,rfl,ru⟩:=Z2 r;cases ru;have g:GDh X.prog X.w p ks s.heap:=(I.hok p _ hp).1;obtain⟨xs,e,iv,D⟩:=g.dict I.hok hk;have el:xs.length=ks.length:=by rw[<-e,ai]
 refine W5e g.1 D (by rw[el];exact g.2.1) fun t t'=>⟨.int ks.length,H,I.tok _,⟨t,by rw[el]⟩,q⟩
def W7w {u:HO}{o:Obj}{H':Hp}(I:A0 X ae σ (A9 H p u) s)(hn:H p=none)(nt:∀xs,u≠.tup xs)(nf:∀o v,u≠.frz o v)(no:∀y,¬ Q9u y u)(nb:∀ps,u≠.tbl ps)(e:s.heap.get? p=?P)(d:∀v,o.data≠.cell v):
  A0 X ((p,o)::ae) σ H s:=by
 have at_:A9 H p u p=some u:=upd_same;have kj:∀b v,H b=some v->A9 H p u b=some v:=fun b v q=>by rw[B2 (Y5 q hn)];exact q
 have ic:∀b,A9 H p u b=none->H b=none/\b≠p:=fun b q=>by
  by_cases z:b=p
  ·subst z;rw[upd_same]at q;cases q
  ·rw[B2 z]at q;exact⟨q,z⟩
 have pL:p≠X.env.locals:=fun z=>by have:=I.free;rw[<-z,upd_same]at this;cases this
 have pF:p∉X.fs:=fun z=>by
  obtain⟨_,o,ho,_⟩:=I.ok.funs.mem z;have:=I.base.free p o ho (I.ok.frf p z) fun w=>I.ok.exfs p w z;rw[upd_same]at this;cases this
 refine⟨I.ok,I.os,I.bare,⟨I.base.keep,I.base.slot,fun b o q n x=>(ic b (I.base.free b o q n x)).1,I.base.there,fun b xs q=>?_,fun b o v q=>?_,fun b ps q=>?_⟩,I.loc,I.cell,(ic _ I.free).1,fun x c q=>(ic _ (I.freeC x c q)).1,fun a ha=>?_,fun b v q=>?_,I.len⟩
 ·have r:=I.base.tups b xs q
  by_cases z:b=p
  ·subst z;rw[upd_same]at r;cases r;exact absurd rfl (nt _)
  ·rw[B2 z]at r;exact r
 ·have r:=I.base.frzs b o v q
  by_cases z:b=p
  ·subst z;rw[upd_same]at r;cases r;exact absurd rfl (nf _ _)
  ·rw[B2 z]at r;exact r
 ·obtain⟨more,r⟩:=I.base.tbls b ps q
  by_cases z:b=p
  ·subst z;rw[upd_same]at r;cases r;exact absurd rfl (nb _)
  ·rw[B2 z]at r;exact⟨more,r⟩
 ·rcases aN.mp ha with z |z
  ·obtain⟨a1,a2,a3⟩:=I.pin a (ba _ z);exact⟨a1,(ic _ a2).1,a3⟩
  ·rcases ar.mp z with z |z
   ·subst z;exact⟨e,hn,pL,pF,d⟩
   ·obtain⟨a1,a2,a3⟩:=I.pin a (aw _ z);exact⟨a1,(ic _ a2).1,a3⟩
 ·refine(I.hok b v (kj b v q)).stay (fun c v _ r=>r) (fun c v ow r=>?_) fun c xs r=>?_
  ·by_cases z:c=p
   ·subst z;rw[upd_same]at r;cases r;exact absurd ow (no _)
   ·rw[B2 z]at r;exact r
  ·by_cases z:c=p
   ·subst z;rw[upd_same]at r;cases r;exact absurd rfl (nt _)
   ·rw[B2 z]at r;exact r
def Z5l {u:HO}(I:?A)(hn:H p=none)(hx:p∈X.ex\/X.s₀.heap.objs.size<=p)(hL:p≠X.env.locals)(hc:∀x c,?Z->c≠p)(hp:∀a∈X.pn++ae,a.1≠p)(new:ObjOk X.prog X.w (A9 H p u) s.heap p u):
  A0 X ae σ (A9 H p u) s:=by
 have keep:∀b v,H b=some v->A9 H p u b=some v:=fun b v q=>by rw[B2 (Y5 q hn)];exact q
 refine⟨I.ok,I.os,I.bare,⟨I.base.keep,I.base.slot,fun b o q n x=>?_,I.base.there,fun b xs q=>keep _ _ (I.base.tups b xs q),fun b o v q=>keep _ _ (I.base.frzs b o v q),fun b ps q=>let ⟨more,r⟩:=I.base.tbls b ps q;⟨more,keep _ _ r⟩⟩,
  I.loc,I.cell,by rw[B2 (bN hL)];exact I.free,fun x c q=>by rw[B2 (hc x c q)];exact I.freeC x c q,fun a ha=>?_,fun b v q=>?_,I.len⟩
 ·refine(B2 (fun z=>?_)).trans (I.base.free b o q n x);rcases hx with hx |hx
  ·exact x (by rw[z];exact hx)
  ·rw[z]at q;exact absurd (aA q) (fY.mpr hx)
 ·obtain⟨a1,a2,a3⟩:=I.pin a ha;exact⟨a1,by rw[B2 (hp a ha)];exact a2,a3⟩
 ·by_cases z:b=p
  ·subst z;rw[upd_same]at q;cases q;exact new
  ·rw[B2 z]at q;exact(I.hok b v q).stay (fun _ _ _ r=>r) (fun c v _ r=>keep _ _ r) fun c xs r=>keep _ _ r
end
noncomputable def W5 (ks:O D)(d:D):O D:=if d∈ks then ks else ks++[d]
noncomputable def Q1n:O D->O D->O Int
 |_,[]=>[]
 |ks,d::r=>((ks.idxOf d:Nat):Int)::Q1n (W5 ks d) r
theorem W7m {ks:O D}(hn:ks.Nodup){j:Nat}{d:D}(e:ks[j]?=some d):ks.idxOf d=j:=by grind
section
variable {x':Aq}{q3 q5:Pos}{i j:Nat}
def Z7y (X:Cx)(i j:Nat):TE:=fun σ H Q=>∃p ks d a,σ[i]?=some (some (V.ref p))/\H p=some (gD X p ks)/\σ[j]?=some (some (V.ref a))/\A2 X.K H d (.ref a)/\T6 8 d=true/\(∀x∈ks,T6 8 x.1=true/\A2 X.K H x.1 (.ref x.2))/\ks.length<sizeLine /\
 (d∈ks.map (·.1)->Q (.int ((ks.map (·.1)).idxOf d:Nat)) H)/\(d∉ks.map (·.1)->Q (.int ks.length) (A9 H p (gD X p (ks++[(d,a)]))))
theorem V3d (hu:X.A.units+9<cLine)(ho:PE X o (Q0 i))(he:PE X e (Q0 j))(hg:Gl X "len")(hm:X.mg "len"=none)(hx:PE X x' (Q0 i))(m:M2 X o "setdefault" apos e (.Call (.Name "len" q3) [x'] [] q5) bz)
  (hs:starEach [x'] X.env=(false,eval x' X.env)::starEach [] X.env:=by rfl):
  PE X (.Call (.Attribute o "setdefault" apos) [e,.Call (.Name "len" q3) [x'] [] q5] [] bz) (Z7y X i j):=by
 intro ae s σ H Q I ⟨p,ks,d,a,hp,Hp,ha,ia,kd,hk,hz,q1,q2⟩;refine g6 m.base m.few m.line fG cQ jK (B3 (ho ae s σ H (fun v H1=>v=.ref p/\H1=H) I ⟨_,hp,rfl,rfl⟩) fun u s1 bB=>?_);obtain⟨v,H1,I1,rv,ev,eH⟩:=bB;subst ev eH;obtain rfl:u=Value.ref p:=rv;have g1:GDh X.prog X.w p ks s1.heap:=(I1.hok p _ Hp).1;obtain⟨_,_,_,D1⟩:=g1.dict I1.hok hk;refine⟨D1.typeIs,fun b eb=>?_,?_⟩
 ·cases eb;obtain⟨ob,_,_,h1,h2,_⟩:=D1;exact⟨ob,h1,h2.2.1⟩
 rw[m.trees];have cp:PE X (.Call (.Name "len" q3) [x'] [] q5) _:=Y6w W5d hg hm rfl (Q1p hx Q4r hs) (he:=hs);refine cB rfl (cr (bT (B3 (he ae s1 σ H1 (fun v H2=>v=.ref a/\H2=H1) I1 ⟨_,ha,rfl,rfl⟩) fun iv s2 ⟨y,H2,I2,ry,ey,eH⟩=>
  bT (B3 (cp ae s2 σ H2 (fun v H3=>v=.int ks.length/\H3=H2) I2 ⟨_,hp,p,ks,rfl,by rw[eH];exact Hp,by rw[eH];exact hk,rfl,rfl⟩) fun fv s3 ⟨z,H3,I3,rz,ez,yI⟩=>cK ?_))))
 subst ey eH ez yI;obtain rfl:iv=Value.ref a:=ry;obtain⟨tz,rfl⟩:∃t,fv=Value.int ks.length t:=rz;have g3:GDh X.prog X.w p ks s3.heap:=(I3.hok p _ Hp).1;obtain⟨xs,ex,iv,D3⟩:=g3.dict I3.hok hk;have tJ:xs.map (·.1)=ks.map (·.1):=by rw[<-ex,aF];rfl
 have el:xs.length=ks.length:=by rw[<-ex,ai]
 have nd:(ks.map (·.1)).Nodup:=by obtain⟨_,_,_,_,_,_,_,_,n⟩:=id D3;rw[<-tJ];exact n
 refine W5j (knd:=Z4x X.prog X.w) (show X.A.in1.units+8<cLine by simp only[eQ];lia) g3.1 (Y4u I3.hok 8 _ _ _ kd ia rfl) D3 (by rw[el];exact g3.2.1) (fun jj pp hj=>?_) fun mV h' D' sb=>?_
 ·obtain⟨t,et⟩:=iv jj _ hj;have ek:(ks.map (·.1))[jj]?=some d:=by rw[<-tJ,ah,hj];rfl
  have ei:(ks.map (·.1)).idxOf d=jj:=W7m nd ek;refine⟨.int ((ks.map (·.1)).idxOf d:Nat),H3,I3.tok _,⟨t,by rw[ei];exact et⟩,q1 (au ek)⟩
 ·rw[tJ]at mV;refine⟨.int ks.length,_,?_,⟨tz,rfl⟩,q2 mV⟩;obtain⟨o',es,ep,h1,h2,h3,h4,h5,h6⟩:=D';refine Q5d I3 (by rw[Hp];exact True.intro) sb ⟨o',h1⟩ (GDh.ok ⟨g3.1,by rw[ao];show ks.length+1<=_;lia,xs++[(d,a,Value.int ks.length tz)],by rw[aX,ex];rfl,fun n x hx=>?_,o',es,ep,h1,h2,h3,h4,h6⟩)
  by_cases hn:n<xs.length
  ·rw[aJ hn]at hx;exact iv n x hx
  ·rw[aR (?H)]at hx;have e0:n-xs.length=0:=by
    rcases cL (n-xs.length)with z |z
    ·exact z
    ·rw[dU (show [(d,a,Value.int ks.length tz)].length<=n-xs.length from z)]at hx;cases hx
   rw[e0]at hx;cases hx;have:n=ks.length:=?H
   subst this;exact⟨tz,rfl⟩
def V2q:PE X (.Dict [] [] pos) (fun σ H Q=>∀p,H p=none->X.s₀.heap.objs.size<=p->Q (.ref p) (A9 H p (gD X p []))):=by
 intro ae s σ H Q I h;refine wpAny_Dict_empty ⟨.ref s.heap.objs.size,_,I.laid (a:=s.heap.objs.size) (o:=gD X s.heap.objs.size []) (t':=s.toks) (fun _ _ q=>af _ q) (ak _) (GDh.ok ?_),rfl,h _ (I.hok.fresh (ak _)) I.sz⟩;exact⟨cq.mpr (bN (aB I.big)),bj _,[],rfl,by intro i x e;simp at e,_,#[],0,aG _ rfl,⟨rfl,rfl,rfl⟩,rfl,rfl,dL⟩
end
section
variable {mk:Str}{p1 o1 o2 o3 q3 q5:Pos}{i:Nat}
abbrev Q8w (mk x:Str)(o1 o2 o3 apos bz q3 q5:Pos):Aq:=.Call (.Attribute (.Name x o1) "setdefault" apos) [.Name mk o2,.Call (.Name "len" q3) [.Name x o3] [] q5] [] bz
def V8s (X:Cx)(H0:Hp)(i:Nat)(wi:WIE):TE:=fun σ H Q=>∃p H1 τ,σ[i]?=some (some (V.ref p))/\H=A9 H1 p (gD X p [])/\H1 p=none/\X.s₀.heap.objs.size<=p/\C1 X.K H0 τ σ H1 /\
 wi τ fun ds=>ds.length<=sizeLine/\(∀d∈ds,T6 8 d=true/\∃l,d=.tup l)/\∀v H',A5 H1 H'->E7 X.K H1 H' (.nw ((Q1n [] ds).map .int)) v->Q v H'
theorem V2z (hc:X.calm=true)(hu:X.A.units+9<cLine)(B:Blk X scope [mk,x] 1 [i])(hi:L7 X H0 (.Name mk p1) iter wi)
  (hg:∀C s H fp,PG (blk X scope C s H fp [mk,x]) (.Name mk p1) (Z0n 0)) (he:∀C s H fp,PE (blk X scope C s H fp [mk,x]) (Q8w mk x o1 o2 o3 apos bz q3 q5) (Z7y X 1 0)) (hs:?A1:=by intro _;rfl):
  PE X (.ListComp (Q8w mk x o1 o2 o3 apos bz q3 q5) [⟨.Name mk p1,iter,[],0⟩] scope pos) (V8s X H0 i wi):=by
 intro ae s σ H Q I0 ⟨p,H1,τ,hσ,eH,hn1,oI,hR,hw⟩;subst eH;rw[eval_ListComp];have g0:GDh X.prog X.w p [] s.heap:=(I0.hok p _ upd_same).1;obtain⟨op,uL,sV⟩:∃o,s.heap.get? p=?P/\∀v,o.data≠.cell v:=by
  obtain⟨_,_,_,_,_,o,es,ep,e,_,d,_⟩:=id g0;exact⟨o,e,fun v z=>by rw[d]at z;cases z⟩
 have I:=W7w I0 hn1 (by intro xs z;cases z) (by intro o v z;cases z) (by intro y z;rcases z with z |⟨_,z⟩<;>cases z) (by intro ps z;cases z) uL sV (H':=H1);have pc:∀x c,?Z->c≠p:=fun x c q z=>by have:=I0.freeC x c q;rw[z,upd_same]at this;cases this
 have pp:∀a∈X.pn++ae,a.1≠p:=fun a ha z=>by have:=(I0.pin a ha).2.1;rw[z,upd_same]at this;cases this
 refine dH rfl hs (Z0i fun y hy e=>I.ok.has y.1 (B.free y hy e)) B.kind B.names ?_;refine B3 (hi.pi ((p,op)::ae) s σ H1 (fun J H2=>A5 H1 H2/\∃ds,YlS X.K J ds H2/\ds.length<=sizeLine/\(∀d∈ds,T6 8 d=true/\∃l,d=.tup l)/\∀v H',A5 H1 H'->E7 X.K H1 H' (.nw ((Q1n [] ds).map .int)) v->Q v H') I
  ⟨τ,hR,hi.mono τ _ _ (fun ds h J H' sm yl=>⟨sm,ds,yl,h⟩) hw⟩) fun v s1 h1=>B3 h1 fun mH s2 h2=>?_
 obtain⟨it,lr,tn,J,H2,e,tZ,T,fJ,vg,dZ,ds,yl,hz,xT,hq⟩:=h2;subst e;obtain⟨qk,l7,xA,xB,_⟩:=tZ.pin (p,op) (aw _ aj);have I2:A0 X ae σ H2 s2:=tZ.pins_of fun a ha=>tZ.pin a (aw _ (ag _ ha));have pB:∀b∈lr,N3 X ae H2 b:=fun b hb=>by
  obtain⟨a1,a2,a3,a4,a5,a6⟩:=vg b hb;exact⟨a1,a2,a3,a4,a5,fun a ha=>a6 a (by rcases aN.mp ha with z |z;exact ba _ z;exact aw _ (ag _ z))⟩
 have wH:∀b∈lr,b≠p:=fun b hb z=>(vg b hb).2.2.2.2.2 (p,op) (aw _ aj) z.symm;have yA:N3 X ae H2 p:=⟨l7,xA,xB,.inr oI,pc,pp⟩
 generalize hfpe:p::lr=fp;have iH:p∈fp:=by rw[<-hfpe];exact aj
 have jQ:∀b∈lr,b∈fp:=fun b hb=>by rw[<-hfpe];exact ag _ hb
 have f2:∀b∈fp,N3 X ae H2 b:=fun b hb=>by
  rw[<-hfpe]at hb;rcases ar.mp hb with z |z
  ·rw[z];exact yA
  ·exact pB b z
 have iO:∀b∈fp,b<s2.heap.objs.size:=fun b hb=>by
  rw[<-hfpe]at hb;rcases ar.mp hb with z |z
  ·rw[z];exact aA qk
  ·obtain⟨o,ho,_⟩:=T.obj _ _ fJ b z;exact aA ho
 refine bQ (di B.cell (by intro y hy;simp at hy) (fun h₁ eA dE=>?_) B.kind);dsimp only at eA dE ⊢;generalize hH2:s2.heap.push {cls:=.type "list",dict:=none,data:=.seq ([]:O An).toArray}=Hq at eA dE ⊢;have hC:Hq.objs.size=s2.heap.objs.size+1:=by rw[<-hH2,bC]
 have eC:s2.heap.objs.size≠Hq.objs.size:=by rw[hC];exact aB (cb _)
 have dv:s2.heap.objs.size<=Hq.objs.size:=by rw[hC];exact eD _
 have old:∀b o,s2.heap.get? b=?P->h₁.get? b=?P:=fun b o e=>dE.extBut b o (by rw[hC];exact aB (bt (aA e))) (af _ (hH2▸af _ e));have fN:h₁.PlainList s2.heap.objs.size #[]:=⟨_,dE.extBut _ _ eC (af _ (hH2▸aG _ rfl))⟩
 generalize hCe:Hq.objs.size=C at eA dE hC eC dv ⊢;generalize hDe:s2.heap.objs.size=D0 at hC eC dv fN ⊢;have eL:∀b∈fp,b<D0:=fun b hb=>hDe▸iO b hb;have gj:tn 0 h₁:=T.keep _ _ _ fJ fun b _ o e=>old b o e;have nr:=Z0e (C:=C) (h':=h₁) (t':=s2.toks+([]:O (Str×An)).length) I2 B f2 iO (by rw[hDe];exact dv) eA old;have xC:p≠C:=aB (ay (eL p iH) dv);have jF:H2 D0=none:=I2.hok.fresh (by rw[hDe];exact ak _);have v0:D0≠p:=fun z=>by have:=eL p iH;rw[z]at this;exact aS _ this
 have wM:∀x c,(U8 X.env scope.names []).lookup x=some c->c≠p:=fun x c h=>pc x c (Y1 I2 B h);have yX:=Z5l nr (p:=p) (u:=gD X p []) l7 (.inl iH) xC wM (by intro a ha;simp[blk]at ha) (by
  obtain⟨a,b,xs,c,d,o,es,ep,e,r⟩:=id g0;have eo:o=op:=by rw[uL]at e;exact(aC e).symm
  subst eo;exact GDh.ok ⟨a,b,xs,c,d,o,es,ep,old _ _ qk,r⟩)
 have mC:D0∉F3 X.stack:=fun z=>by
  rcases ar.mp (I2.stkSub _ z)with e |e
  ·have:=I2.lt;rw[<-e,hDe]at this;exact aS _ this
  ·exact I2.nofs (by rw[hDe];exact ak _) e
 have mE:∀x c,(U8 X.env scope.names []).lookup x=some c->c≠D0:=fun x c h z=>by
  obtain⟨v,q⟩:=I2.cell x c (Y1 I2 B h);have:=q.lt;rw[z,hDe]at this;exact aS _ this
 have gi:∀{pb:Pn9} {σ':Q9}{H':Hp}{s':Ao}{ys:Array An}{n:Nat},A0 (blk X scope C s2 H2 fp [mk,x]) pb σ' H' s'->H' D0=none->s'.heap.get? D0=some {cls:=.type "list",data:=.seq ys n} ->
   A0 (blk X scope C s2 H2 fp [mk,x]) [(D0,{cls:=.type "list",data:=.seq ys n})] σ' H' s':=by
  intro pb σ' H' s' ys n I' n' e;refine I'.pins_of fun a hp=>?_;have e':a=(D0,{cls:=.type "list",data:=.seq ys n}):=by simpa using hp
  subst e';exact⟨e,n',eC,mC,fun v z=>by cases z⟩
 have iS:∀{H':Hp}{ob:Obj},(∀b∈lr,H' b=none)->∀b∈lr,N3 (blk X scope C s2 H2 fp [mk,x]) [(D0,ob)] H' b:=by
  intro H' ob hn b hb;have gM:=jQ b hb;refine⟨hn b hb,(aB (ay (eL b gM) dv)),fun z=>?_,.inl gM,fun x c h=>(f2 b gM).2.2.2.2.1 x c (Y1 I2 B h),fun a hp=>?_⟩
  ·rcases ar.mp (I2.stkSub b z)with e |e
   ·exact(f2 b gM).2.1 e
   ·exact(f2 b gM).2.2.1 e
  ·have e':a=(D0,ob):=by simpa [blk]using hp
   subst e';exact(aB (eL b gM)).symm
 let md:Nat->Ao->Prop:=fun k s'=>∃(n:Nat) (σ':Q9) (H':Hp) (ks:O (D×Ap)) (ys:Array An) (nn:Nat) (vs:O V) (es:O Int),A0 (blk X scope C s2 H2 fp [mk,x]) [(D0,{cls:=.type "list",data:=.seq ys nn})] σ' H' s'/\σ'[1]?=some (some (V.ref p))/\A5 H2 H'/\tn n s'.heap /\
  (∀b∈lr,H' b=none)/\H' D0=none/\H' p=some (gD X p ks)/\(∀y∈ks,T6 8 y.1=true/\A2 X.K H' y.1 (.ref y.2))/\ks.length<=n/\C0 vs ys.toList/\vs=es.map V.int/\n<=ds.length/\k=ds.length-n/\es.length=n/\es++Q1n (ks.map (·.1)) (ds.drop n)=Q1n [] ds
 have loop:∀s₃:Ao,s₃={s2 with heap:=h₁,toks:=s2.toks+([]:O (Str×An)).length} ->
   codeAny ?C X.A (.compLoop (.ListComp (Q8w mk x o1 o2 o3 apos bz q3 q5) [⟨.Name mk p1,iter,[],0⟩] scope pos) 0 (.ref it) (.ref D0) (compEnvC scope (U8 X.env scope.names []) C X.env))
    (compPost ?C X.A X.xe none (EP X ae σ Q) (.ref D0) C) s₃:=by
  rintro s₃ rfl;obtain⟨nn,ho⟩:=id fN;refine Z4g md ?_ ds.length ⟨0,_,A9 H2 p (gD X p []),[],#[],nn,[],[],gi yX (by rw[B2 v0];exact jF) ho,(by show([none]++[(σ[i]?).join]:Q9)[1]?=_;rw[hσ];rfl),G7 l7 _,gj,fun b hb=>by rw[B2 (wH b hb)];exact(pB b hb).1,by rw[B2 v0];exact jF,upd_same,(by intro y hy;cases hy),ak _,.nil,rfl,bj _,rfl,rfl,by simp⟩;rintro k s3 ⟨n,σ3,H3,ks,ys,nn,vs,es,I3,uG,mr,iq,j7,d3,xF,uN,zP,lK,qw,zL,rfl,lY,w3⟩
  by_cases cm:n<ds.length
  ·refine aP (T.item (blk X scope C s2 H2 fp [mk,x]) rfl rfl rfl hc n _ s3 σ3 H3 (?A4) I3 (iS j7) iq (yl.go H3 mr n cm)) (fun r s4 bB=>?_) fun _ _ z=>z;obtain⟨u,hr,h4⟩:=bB;subst hr;refine aP h4 (fun _ s5 bB=>?_) fun _ _ z=>z;obtain⟨v5,H5,I5,r5,y5,gm,lq⟩:=bB;obtain⟨jA,ix⟩:=yl.yld H3 mr n v5 H5 _ (ac cm) y5;rw[bZ cm]at w3;have lw:=I5.pinned (iS lq) (T.obj _ _ gm);obtain⟨kd,l,ed⟩:=xT ds[n] (bo cm);obtain⟨a5,e5⟩:∃a,v5=.ref a:=by
    have uB:A2 X.K H5 (.tup l) v5:=ed▸ix;unfold A2 at uB;obtain⟨a,_,e,_⟩:=uB;exact⟨a,e⟩
   subst e5;refine aP (hg C s2 H2 fp _ s5 σ3 H5 (.ref a5) u (fun σ6 H6=>σ6=σ3.set 0 (some (.ref a5))/\H6=H5) lw r5 ⟨rfl,rfl⟩) (fun _ s6 bB=>?_) fun _ _ z=>z;obtain⟨σ6,H6,I6,e6,yH⟩:=bB;subst e6 yH;refine gU ?_;rw[aO rfl];have zO:σ3.length=2:=I3.len;have sy:H6 p=some (gD X p ks):=jA _ _ xF;have qo:∀y∈ks,T6 8 y.1=true/\A2 X.K H6 y.1 (.ref y.2):=fun y hy=>⟨(uN y hy).1,(uN y hy).2.mono (Kp.of jA) _ _⟩
   let R7:V->Hp->Prop:=fun v H7=>∃kr,H7 p=some (gD X p kr)/\(∀y∈kr,T6 8 y.1=true/\A2 X.K H7 y.1 (.ref y.2))/\kr.length<=n+1/\(∀b u,b≠p->H6 b=some u->H7 b=some u)/\Kp H6 H7/\v=.int (((ks.map (·.1)).idxOf ds[n]:Nat):Int)/\kr.map (·.1)=W5 (ks.map (·.1)) ds[n];refine aP (he C s2 H2 fp _ s6 _ H6 R7 I6 ⟨p,ks,ds[n],a5,by rw[aM (?G)];exact uG,sy,by rw[bf (?H)],ix,kd,qo,?H,fun gr=>?_,fun mV=>?_⟩) (fun y s8 ⟨v8,H8,I8,mw,kr,xE,xU,xP,wp,zE,yC,yE⟩=>?_) fun _ _ z=>z
   ·exact⟨ks,sy,qo,?H,fun _ _ _ q=>q,Kp.refl _,rfl,by unfold W5;rw[aO gr]⟩
   ·have kp:Kp H6 (A9 H6 p (gD X p (ks++[(ds[n],a5)]))):=Q0b sy (by intro xs z;cases z) (by intro o u z;cases z) _;refine⟨ks++[(ds[n],a5)],upd_same,fun y hy=>?_,by rw[ao];show ks.length+1<=_;lia,fun b u hb q=>by rw[B2 hb];exact q,kp,?_,?_⟩
    ·rcases aN.mp hy with z |z
     ·exact⟨(qo y z).1,(qo y z).2.mono kp _ _⟩
     ·rw[aE.mp z];exact⟨kd,ix.mono kp _ _⟩
    ·rw[qM mV,ai]
    ·unfold W5;rw[aI mV,aX];rfl
   ·have pd:=I8.pin (D0,_) (aw _ (ba _ aj));obtain⟨o8,d8,_⟩:=pd;have lQ:ys.size<=sizeLine:=by
     have e1:=lK.length;have e4:ys.toList.length=ys.size:=by simp
     have e5:vs.length=n:=by rw[qw,ai,lY]
     lia
    refine dQ (hsz:=lQ) ⟨nn,o8⟩ fun h₅ oN mL=>?_;have pI:A0 (blk X scope C s2 H2 fp [mk,x]) (X5 lr s5.heap) (σ3.set 0 (some (.ref a5))) H8 s8:=I8.pins_of fun a ha=>I8.pin a (aw _ (aw _ ha));have I9:A0 (blk X scope C s2 H2 fp [mk,x]) (X5 lr s5.heap) (σ3.set 0 (some (.ref a5))) H8 {s8 with heap:=h₅}:=by
     refine pI.turned (t':=s8.toks) (it:=D0) (fun b o hb e=>(mL.2 b hb).trans e) d8 eC (.inr (by rw[<-hDe];exact ak _)) mE (fun a hp z=>?_);obtain⟨q1,_⟩:=Q8y (by simpa [blk]using hp);exact aB (eL _ (jQ _ q1)) z
    obtain⟨ox,o9⟩:=oN;have oh:tn (n+1) h₅:=T.keep _ _ _ gm fun b hb o e=>(I9.pin (b,o) (aw _ (Q2m hb e))).1;refine⟨ds.length-(n+1),?H,n+1,_,H8,kr,_,ox,vs++[v8],es++[(((ks.map (·.1)).idxOf ds[n]:Nat):Int)],gi I9 d8 o9,by rw[aM (?G)];exact uG,fun b u q=>?_,oh,fun b hb=>?_,d8,xE,xU,xP,?_,?_,cm,rfl,by rw[ao,lY];rfl,?_⟩
    ·have nb:b≠p:=fun z=>by rw[z,l7]at q;cases q
     exact wp b u nb (jA _ _ (mr _ _ q))
    ·obtain⟨o,e,_⟩:=T.obj _ _ gm b hb;exact(I9.pin (b,o) (aw _ (Q2m hb e))).2.1
    ·have:(ys.push y).toList=ys.toList++[y]:=by simp
     rw[this];exact lK.append (.cons mw .nil)
    ·rw[qw,yC,aX];rfl
    ·rw[<-w3,Q1n,yE,bW];rfl
  ·have e:n=ds.length:=?H
   subst e;refine aP (T.done (blk X scope C s2 H2 fp [mk,x]) rfl rfl rfl hc ds.length _ s3 σ3 H3 (?A4) I3 (iS j7) iq (yl.stop H3 mr)) (fun r s4 bB=>?_) fun _ _ z=>z;obtain⟨hr,I4⟩:=bB;subst hr;have o4:=(I4.pin (D0,_) (aw _ aj)).1;rw[cX]at w3;have w3:es++[]=Q1n [] ds:=w3;rw[b8]at w3;obtain⟨m4,l8,_⟩:=id I4.loc;refine⟨m4,l8,fun h' sb=>?_⟩;have sk:vs.length<=sizeLine:=by rw[qw,ai,lY];exact hz
   refine⟨.ref D0,_,Z3x I2 I4 f2 (by rw[hDe];exact dv) (by rw[hDe];exact ak _) eC d3 ⟨nn,o4⟩ lK sk sb,rfl,hq _ _ (dZ.trans (mr.trans (G7 d3 _))) ⟨D0,vs,rfl,dZ.free jF,upd_same,?_⟩⟩;rw[qw,<-w3];exact AllS.ints
 exact gA (loop _ rfl) (T.self _ 0 _ _ _ gj (loop _ rfl))
variable {sp mq dp rp:Pos}
def C1.unset {K:Fg9}    (hR:C1 K H0 τ σ H)(i:Nat)(v:V):C1 K H0 (τ.set i none) (σ.set i (some v)) H:=by
 have at_:∀(j:Nat) (t:Sl),(τ.set i none)[j]?=some (some t)->j≠i/\τ[j]?=some (some t):=fun j t e=>by
  by_cases z:j=i
  ·subst z;rw[List.getElem?_set_self' ]at e;cases q:τ[j]? with
   |none=>rw[q]at e;cases e
   |some w=>rw[q]at e;cases e
  ·rw[aM (bN z)]at e;exact⟨z,e⟩
 refine⟨by rw[bx,bx];exact hR.len,hR.same,fun j t e=>?_,fun j k t u w dM e2 e3 m1 m2 q1 q2=>?_⟩
 ·obtain⟨z,e⟩:=at_ j t e;obtain⟨w,q,r⟩:=hR.here j t e;exact⟨w,by rw[aM (bN z)];exact q,r⟩
 ·obtain⟨z1,e2⟩:=at_ j t e2;obtain⟨z2,e3⟩:=at_ k u e3;rw[aM (bN z1)]at q1;rw[aM (bN z2)]at q2;exact hR.apart j k t u w dM e2 e3 m1 m2 q1 q2
noncomputable def Z8p (i:Nat)(wi:WIE):WS:=fun E τ=>i<τ.length/\wi (τ.set i none) fun ds=>ds.length<=sizeLine/\(∀d∈ds,T6 8 d=true/\∃l,d=.tup l)/\E.rt (.nw ((Q1n [] ds).map .int))
def W3b (hc:X.calm=true)(hu:X.A.units+9<cLine)(B:Blk X scope [mk,x] 1 [i])(hi:L7 X H0 (.Name mk p1) iter wi)
  (hg:∀C s H fp,PG (blk X scope C s H fp [mk,x]) (.Name mk p1) (Z0n 0)) (he:∀C s H fp,PE (blk X scope C s H fp [mk,x]) (Q8w mk x o1 o2 o3 apos bz q3 q5) (Z7y X 1 0))
  (hN:X.N.Nodup) (mW:X.N[i]?=some x) (hx:Loc X.env.scope x) (hf:?J:=by sleep 1)
  (hs:?A1:=by intro _;rfl) (jX:swapsWith (.Dict [] [] dp) (some (.Name x mq)) sp.line X.env=pure false:=by rfl):
  A7 X H0 [.Assign [.Name x mq] (.Dict [] [] dp) sp,.Return (some (.ListComp (Q8w mk x o1 o2 o3 apos bz q3 q5) [⟨.Name mk p1,iter,[],0⟩] scope pos)) rp] (Z8p i wi) where
 mono:=fun τ E F le h=>⟨h.1,hi.mono _ _ _ (fun ds⟨a,b,c⟩=>⟨a,b,le.rt _ c⟩) h.2⟩
 ps:=Z1k (Y7c (Q6x hN mW hx V2q jX hf) (Y7d (Z6r (V2z hc hu B hi hg he hs)))) fun D σ H cR p hp oI=>by
  obtain⟨τ,hR,h⟩:=cR;have hl:i<σ.length:=by rw[<-hR.len];exact h.1
  refine⟨p,H,τ.set i none,by rw[bf hl],rfl,hp,oI,hR.unset i _,hi.mono _ _ _ (fun ds ⟨a,b,c⟩=>⟨a,b,fun v H' sm ir=>?_⟩) h.2⟩;exact c v H' (hR.same.trans sm) (ir.older hR.same)
@[simp] theorem V7c {E:F9}:Z8p i wi E τ=(i<τ.length/\wi (τ.set i none) fun ds=>ds.length<=sizeLine/\(∀d∈ds,T6 8 d=true/\∃l,d=.tup l)/\E.rt (.nw ((Q1n [] ds).map .int))):=rfl
end
def Q3 (K:Fg9)(a:Ap)(kvs:O (B7×D)):Hp->Prop:=fun H=>∃o ps,H a=some (.frz o (.dK ps))/\D4 K H kvs ps
def Q3.mono {K:Fg9}  {kvs:O (B7×D)}:Q6a (Q3 K a kvs):=fun H H' k⟨o,ps,h,q⟩=>⟨o,ps,k.frz _ _ _ h,q.mono k _ _⟩
def Y4d {ps:O (B7×V)}(I:?A)(h:H a=some (.dK ps)):∃o,A0 X ae σ (A9 H a (.frz o (.dK ps))) s:=by
 have ok:=I.hok a _ h;obtain⟨_,_,_,_,o,_,_,q,_⟩:=id (show ObjOk X.prog X.w H s.heap a (.dK ps)from ok);refine⟨o,I.write (t':=s.toks) (h':=s.heap) (e:=a) (o:=.frz o (.dK ps)) (by rw[h];trivial) (.inl rfl) (fun b u _ k=>k) ⟨_,q⟩ ⟨q,?_⟩⟩;exact ok
def C1.freezeK {K:Fg9}  {i:Nat}{kvs:O (B7×D)}{o:Obj}{ps:O (B7×V)}(hR:C1 K H0 τ σ H)(e1:τ[i]?=some (some (.dk kvs)))(hv:σ[i]?=some (some (.ref a)))(h0:H0 a=none)(sq:H a=some (.dK ps))(kv:D4 K H kvs ps):
  C1 K H0 (τ.set i (some (.cl a (Q3 K a kvs)))) σ (A9 H a (.frz o (.dK ps))):=by
 have kp:Kp H (A9 H a (.frz o (.dK ps))):=Q0b sq (by intro xs z;cases z) (by intro o u z;cases z) _;exact hR.mutG e1 rfl hv h0 sq (by intro xs z;cases z) (by intro o u z;cases z) ⟨rfl,⟨o,ps,upd_same,kv.mono kp _ _⟩,Q3.mono⟩
section
variable {w:WS}
theorem Z6q {t:TS}(h:PS X st t):PS X st (fun D σ H=>t {D with nx:=fun σ' H'=>∀ae s,A0 X ae σ' H' s->∃eR,A0 X ae σ' eR s/\D.nx σ' eR} σ H):=by
 intro ae s σ H D I q;refine B3 (h ae s σ H _ I q) fun f s1 q1=>?_;cases f with
 |next=>
  obtain⟨σ',H',I',q2⟩:=q1;obtain⟨eR,yY,q3⟩:=q2 ae s1 I';exact⟨σ',eR,yY,q3⟩
 |brk=>exact q1
 |cont=>exact q1
 |ret v=>exact q1
def Z8j (K:Fg9)(i:Nat)(w:WS):WS:=fun E τ=>w {E with nx:=fun τ'=>∃kvs,τ'[i]?=some (some (.dk kvs))/\∀a,E.nx (τ'.set i (some (.cl a (Q3 K a kvs))))} τ
def W2m (i:Nat)(h:DS X H0 st w):DS X H0 st (Z8j X.K i w) where
 mono:=fun τ E F le q=>h.mono τ {E with nx:=fun τ'=>∃kvs,τ'[i]?=some (some (.dk kvs))/\∀a,E.nx (τ'.set i (some (.cl a (Q3 X.K a kvs))))} {F with nx:=fun τ'=>∃kvs,τ'[i]?=some (some (.dk kvs))/\∀a,F.nx (τ'.set i (some (.cl a (Q3 X.K a kvs))))} ⟨fun τ'⟨kvs,e,q⟩=>⟨kvs,e,fun a=>le.nx _ (q a)⟩,le.rt,le.bk,le.ct⟩ q
 ps:=Q7 (Z6q h.ps) fun D σ H ⟨τ,hR,q⟩=>⟨τ,hR,h.mono τ {N9 X.K H0 H D with nx:=fun τ'=>∃kvs,τ'[i]?=some (some (.dk kvs))/\∀a,(N9 X.K H0 H D).nx (τ'.set i (some (.cl a (Q3 X.K a kvs))))} _ ⟨fun τ' dF σ' H' kp eO ae s I=>by
  obtain⟨kvs,e,q⟩:=dF;obtain⟨a,ps,hv,h0,sq,kv⟩:=eO.dkAt e;obtain⟨o,I2⟩:=Y4d I sq;exact⟨_,I2,q a σ' _ (kp.trans (Q0b sq (by intro xs z;cases z) (by intro o u z;cases z) _)) (eO.freezeK e hv h0 sq kv)⟩,fun _ h=>h,fun _ h=>h,fun _ h=>h⟩ q⟩
end
section
variable {a b:Aq}{p2:Pos}{i:Nat}
def Z8s (K:Fg9)(i:Nat):WS:=fun E τ=>∃kvs,τ[i]?=some (some (.dk kvs))/\∀a,E.rt (.cl a (Q3 K a kvs))
def W2u (he:PE X e (Q0 i)):DS X H0 (.Return (some e) pos) (Z8s X.K i) where
 mono:=fun τ E F le⟨kvs,e1,q⟩=>⟨kvs,e1,fun a=>le.rt _ (q a)⟩
 ps:=by
  intro ae s σ H D I ⟨τ,hR,kvs,e1,q⟩;obtain⟨a,ps,hv,h0,sq,kv⟩:=hR.dkAt e1;refine kL (B3 (he ae s σ H (fun v H1=>v=.ref a/\H1=H) I ⟨_,hv,rfl,rfl⟩) fun u s1 bB=>?_);obtain⟨v,H1,I1,rv,ev,eH⟩:=bB;subst ev eH;obtain⟨ob,I2⟩:=Y4d I1 sq;have kp:Kp H1 (A9 H1 a (.frz ob (.dK ps))):=Q0b sq (by intro xs z;cases z) (by intro o u z;cases z) _;refine⟨.ref a,σ,_,I2,rv,q a _ _ (fun b ob hb=>?_) ⟨rfl,⟨ob,ps,upd_same,kv.mono kp _ _⟩,Q3.mono⟩⟩;rw[B2 (Y5 hb h0)];exact hR.same _ _ hb
def Z8t (i:Nat)(we:WE):WS:=fun E τ=>we τ fun r=>∃a Φ,r=.cl a Φ/\E.nx (τ.set i (some (.cl a Φ)))
def W2x (he:DE X H0 e we)(hN:X.N.Nodup)(hi:X.N[i]?=some x)(hx:Loc X.env.scope x)(hs:swapsWith e (some (.Name x cf)) pos.line X.env=pure false:=by rfl)
  (hf:?J:=by sleep 1):DS X H0 (.Assign [.Name x cf] e pos) (Z8t i we) where
 mono:=fun τ E F le h=>he.mono τ _ _ (fun r⟨a,Φ,e1,q⟩=>⟨a,Φ,e1,le.nx _ q⟩) h
 ps:=Q7 (Q6x hN hi hx he.pe hs hf) fun D σ H ⟨τ,hR,h⟩=>⟨τ,hR,he.mono τ _ _ (fun r fW v H1 s1 ir=>by
  obtain⟨a,Φ,e1,q⟩:=fW;subst e1;exact q _ _ (Kp.of s1) ((hR.mono s1).set (s:=.cl a Φ) ir fun m=>by cases m)) h⟩
def C1.fkAt {K:Fg9}    {a:Ap}{kvs:O (B7×D)}(hR:C1 K H0 τ σ H)(e1:τ[i]?=some (some (.cl a (Q3 K a kvs)))):σ[i]?=some (some (.ref a))/\∃o ps,H a=some (.frz o (.dK ps))/\D4 K H kvs ps:=by
 obtain⟨v,hv,rfl,q,_⟩:=hR.here i _ e1;exact⟨hv,q⟩
def Z2k (K:Fg9)(i:Nat)(we:WE):WE:=fun τ Q=>∃a kvs,τ[i]?=some (some (.cl a (Q3 K a kvs)))/\we τ fun r=>∃kd k d,r=.st kd/\P4 kd=some k/\F8 kvs k=some d/\Q (.st d)
def Z9y (hu:X.A.units+1<cLine)(ho:PE X o (Q0 i))(he:DE X H0 e we)(hs:Q7y e):DE X H0 (.Subscript o e pos) (Z2k X.K i we) where
 mono:=fun τ P Q f jh=>(by obtain⟨a,kvs,e1,h⟩:=jh;exact⟨a,kvs,e1,he.mono τ _ _ (fun r jg=>(by obtain⟨ds,ks,d,a1,a2,a3,a4⟩:=jg;exact⟨ds,ks,d,a1,a2,a3,f _ a4⟩)) h⟩)
 pe:=P7 (Z6m hu ho he.pe hs) fun σ H Q l5=>by
  obtain⟨τ,hR,a,kvs,e1,h⟩:=l5;obtain⟨hv,ob,ps,sq,kv⟩:=hR.fkAt e1;refine⟨_,hv,τ,hR,he.mono τ _ _ (fun r si v H1 s1 ir=>?_) h⟩;obtain⟨kd,k,d,a1,a2,a3,a4⟩:=si;subst a1;cases Q4j a2 (show A2 X.K H1 kd v from ir);rcases D4.val (k:=k) (kv.mono (Kp.of s1) _ _)with⟨n1,_⟩ |⟨d',v',n1,n2,n3⟩
  ·rw[a3]at n1;cases n1
  ·rw[a3]at n1;cases n1;exact⟨a,v',rfl,.inl ⟨ps,k,.inr ⟨ob,s1 _ _ sq⟩,rfl,n2.symm⟩,a4 _ _ s1 n3⟩
def Z8i (K:Fg9)(i:Nat)(we:WE):WE:=fun τ Q=>∃a kvs,τ[i]?=some (some (.cl a (Q3 K a kvs)))/\we τ fun r=>∃kd k,r=.st kd/\P4 kd=some k/\Q (.st ((F8 kvs k).getD .non))
def W2a (hu:X.A.units+1<cLine)(ho:PE X o (Q0 i))(he:DE X H0 e we)(m:M1 X o "get" apos e bz):DE X H0 (.Call (.Attribute o "get" apos) [e] [] bz) (Z8i X.K i we) where
 mono:=fun τ P Q f jZ=>(by obtain⟨a,kvs,e1,h⟩:=jZ;exact⟨a,kvs,e1,he.mono τ _ _ (fun r⟨ds,ks,a1,a2,a4⟩=>⟨ds,ks,a1,a2,f _ a4⟩) h⟩)
 pe:=P7 (V2n hu ho he.pe m) fun σ H Q k7=>by
  obtain⟨τ,hR,a,kvs,e1,h⟩:=k7;obtain⟨hv,ob,ps,sq,kv⟩:=hR.fkAt e1;refine⟨_,hv,a,rfl,.inl ⟨ps,.inr ⟨ob,sq⟩⟩,τ,hR,he.mono τ _ _ (fun r sh v H1 s1 ir=>?_) h⟩;obtain⟨kd,k,a1,a2,a4⟩:=sh;subst a1;cases Q4j a2 (show A2 X.K H1 kd v from ir);refine⟨_,.inl ⟨ps,k,.inr ⟨ob,s1 _ _ sq⟩,rfl,rfl⟩,a4 _ _ s1 ?_⟩;rcases D4.val (k:=k) (kv.mono (Kp.of s1) _ _)with⟨n1,n2⟩ |⟨d',v',n1,n2,n3⟩
  ·rw[n1,n2];exact Q5b (K:=X.K) (H:=H1)
  ·rw[n1,n2];exact n3
def Z8m (i:Nat):WS:=fun E τ=>E.nx (τ.set i (some (.dk [])))
def W2o (hN:X.N.Nodup)(hi:X.N[i]?=some x)(hx:Loc X.env.scope x)(hs:swapsWith (.Dict [] [] p2) (some (.Name x cf)) pos.line X.env=pure false:=by rfl)
  (hf:?J:=by sleep 1):DS X H0 (.Assign [.Name x cf] (.Dict [] [] p2) pos) (Z8m i) where
 mono:=fun τ E F le h=>le.nx _ h
 ps:=Q7 (Q6x hN hi hx V2r hs hf) fun D σ H gK p hp=>by
  obtain⟨τ,hR,h⟩:=gK;have sm:A5 H (A9 H p (.dK [])):=G7 hp _;refine h _ _ (Kp.of sm) ((hR.mono sm).set (s:=.dk []) ⟨p,[],rfl,hR.same.free hp,upd_same,rfl⟩ fun _ j t hj e m q=>?_);obtain⟨o,ho⟩:=hR.tracked e m q;rw[hp]at ho;cases ho
def Z2n (i:Nat)(we wv:WE):WS:=fun E τ=>i<τ.length/\we τ fun rk=>∃kd k,rk=.st kd/\P4 kd=some k/\wv τ fun r=>∃d,r=.st d/\E.nx (τ.set i (some (.dk [(k,d)])))
def Y0b {v:Aq}(he:DE X H0 e we)(hv:DE X H0 v wv)(hN:X.N.Nodup)(hi:X.N[i]?=some x)(hx:Loc X.env.scope x)(hs:swapsWith (.Dict [some e] [v] p2) (some (.Name x cf)) pos.line X.env=pure false:=by rfl)
  (hf:?J:=by sleep 1):DS X H0 (.Assign [.Name x cf] (.Dict [some e] [v] p2) pos) (Z2n i we wv) where
 mono:=fun τ E F le h=>⟨h.1,he.mono τ _ _ (fun r iM=>(by obtain⟨ds,ks,a1,a2,h⟩:=iM;exact⟨ds,ks,a1,a2,hv.mono τ _ _ (fun r⟨d,b1,b2⟩=>⟨d,b1,le.nx _ b2⟩) h⟩)) h.2⟩
 ps:=Q7 (Q6x hN hi hx (V2o (V3t he.pe hv.pe V3u) rfl rfl ?E ?E) hs hf) fun D σ H hq15 p hp=>by
  obtain⟨τ,hR,hl,h⟩:=hq15;have sm:A5 H (A9 H p (.dK [])):=G7 hp _;have fB:=hR.mono sm;refine⟨τ,fB,he.mono τ _ _ (fun rk sg y H1 s1 ik=>?_) h⟩;obtain⟨kd,k,a1,a2,h⟩:=sg;subst a1;have fk:=fB.mono s1;refine⟨τ,fk,hv.mono τ _ _ (fun r sf u H2 s2 iv=>?_) h⟩;obtain⟨d,b1,b2⟩:=sf;subst b1;cases Q4j a2 (show A2 X.K H1 kd y from ik);have ep:=s2 _ _ (s1 _ _ (upd_same (H:=H) (a:=p) (o:=.dK [])));refine⟨ep,[(k,u)],rfl,by simp,?_⟩;have e1:Q6u [] [(k,u)]=[(k,u)]:=rfl;rw[e1];have kp:Kp H2 (A9 H2 p (.dK [(k,u)])):=Q0b ep (by intro xs z;cases z) (by intro o u z;cases z) _;have ki:=fk.mono s2;have h0:H0 p=none:=hR.same.free hp;have rM:Kp H (A9 H2 p (.dK [(k,u)])):=(Kp.of ((sm.trans s1).trans s2)).trans kp;have gr:∀(j:Nat) (t:Sl),τ[j]?=some (some t)->t.mut=true->σ[j]?≠some (some (.ref p)):=fun j t e m q=>by
   obtain⟨o,ho⟩:=hR.tracked e m q;rw[hp]at ho;cases ho
  have m6:C1 X.K H0 (τ.set i (some (.dk []))) (σ.set i (some (.ref p))) H2:=ki.set (s:=.dk []) ⟨p,[],rfl,h0,ep,rfl⟩ fun _ j t hj e m q=>gr j t e m q;have g1:(τ.set i (some (.dk [])))[i]?=some (some (.dk [])):=bf hl;have g2:(σ.set i (some (V.ref p)))[i]?=some (some (.ref p)):=bf (by rw[<-hR.len];exact hl);have m5:=m6.mutG (s':=.dk [(k,d)]) (new:=.dK [(k,u)]) g1 rfl g2 h0 ep (by intro xs z;cases z) (by intro o u z;cases z) ⟨p,[(k,u)],rfl,h0,upd_same,⟨u,[],rfl,A2.mono kp _ _ iv,rfl⟩⟩;rw[List.set_set]at m5;exact b2 _ _ rM m5
def Z2o (i:Nat)(we wv:WE):WS:=fun E τ=>∃kvs,τ[i]?=some (some (.dk kvs))/\we τ fun rk=>∃kd k,rk=.st kd/\P4 kd=some k/\wv τ fun r=>∃d,r=.st d/\kvs.length<sizeLine /\
 E.nx (if (F8 kvs k).isSome=true then τ else τ.set i (some (.dk (kvs++[(k,d)]))))
theorem V2v {f:Aq}{tx:TE}(ho:PE X o td)(he:PE X e ty)(hf:PE X f tx)(m:M2 X o "setdefault" apos e f bz):PE X (.Call (.Attribute o "setdefault" apos) [e,f] [] bz)
  (fun σ H Q=>td σ H fun x H1=>∃a rl,x=.ref a/\H1 a=some (.dK rl)/\ty σ H1 fun y H2=>tx σ H2 fun z H3=>∃ps k,H3 a=some (.dK ps)/\y=kV k/\ps.length<sizeLine/\(∀v,U3 ps k=some v->Q v H3)/\(U3 ps k=none->Q z (A9 H3 a (.dK (R8 ps k z))))):=by
 intro ae s σ H Q I h;refine g6 m.base m.few m.line fG cQ jK (B3 (ho ae s σ H _ I h) fun u s1 bB=>?_);obtain⟨x,H1,I1,rx,a,rl,ex,ea,q1⟩:=bB;subst ex;obtain rfl:u=Value.ref a:=rx;obtain⟨t1,t2,_⟩:=Y4j I1 (.inl ⟨rl,.inl ea⟩);refine⟨t1,t2,?_⟩;rw[m.trees];refine cB rfl (cr (bT (B3 (he ae s1 σ H1 _ I1 q1) fun iv s2 ⟨y,H2,I2,ry,q2⟩=>
  bT (B3 (hf ae s2 σ H2 _ I2 q2) fun fv s3 ⟨z,H3,I3,rz,ps,k,e3,ey,hz,g1,g2⟩=>cK ?_))))
 subst ey;obtain⟨z0,hd,vs,rel,dd⟩:=Z0j I3.hok e3;have el:vs.length=ps.length:=by rw[<-rel.length]
 have rv:=rel.val k;refine Aj cQ dd.typeIs jt (j8 _ _ _) (kt_meets_setdefault (M4 X.prog X.w) a (Q4i ry) hd fv) ⟨vs,dd,?H,fun v hv=>?_,fun hn h' jG hs=>?_⟩
 ·rw[hv]at rv;cases ev:U3 ps k with
  |none=>rw[ev]at rv;exact rv.elim
  |some w=>rw[ev]at rv;exact⟨w,H3,I3.tok _,rv,g1 w ev⟩
 ·rw[hn]at rv;cases ev:U3 ps k with
  |some w=>rw[ev]at rv;exact rv.elim
  |none=>
   have he:∃q,h'.get? a=some q:=let ⟨q,_,_,hq,_⟩:=jG;⟨q,hq⟩;have hl:(R8 ps k z).length<=sizeLine:=by have:=Q8p ps k z;lia
   exact⟨z,_,Q5d I3 (by rw[e3];exact True.intro) hs he (Z4m hl hd (rel.put k rz) jG),rz,g2 ev⟩
theorem V9x [DecidableEq κ]:∀{kvs:O (κ×D)}{k:κ},F8 kvs k=none->(kvs.any fun kv=>decide (kv.1=k))=false:=by simp[F8,bp,gX]<;>lia
def W2q {v:Aq}(ho:PE X o (Q0 i))(he:DE X H0 e we)(hv:DE X H0 v wv)(m:M2 X o "setdefault" apos e v bz):DS X H0 (.Expr (.Call (.Attribute o "setdefault" apos) [e,v] [] bz) pos) (Z2o i we wv) where
 mono:=fun τ E F le hq16=>(by obtain⟨kvs,e1,h⟩:=hq16;exact⟨kvs,e1,he.mono τ _ _ (fun r mP=>(by obtain⟨kd,k,a1,a2,h⟩:=mP;exact⟨kd,k,a1,a2,hv.mono τ _ _ (fun r⟨d,b1,b2,b3⟩=>⟨d,b1,b2,le.nx _ b3⟩) h⟩)) h⟩)
 ps:=Q7 (Z6p (V2v ho he.pe hv.pe m)) fun D σ H mM=>by
  obtain⟨τ,hR,kvs,e1,h⟩:=mM;obtain⟨a,ps,ig,h0,sq,kv⟩:=hR.dkAt e1;refine⟨_,ig,a,ps,rfl,sq,τ,hR,he.mono τ _ _ (fun rk se y H1 s1 ik=>?_) h⟩;obtain⟨kd,k,a1,a2,h⟩:=se;subst a1;have fB:=hR.mono s1;refine⟨τ,fB,hv.mono τ _ _ (fun r sd u H2 s2 iv=>?_) h⟩;obtain⟨d,b1,b2,b3⟩:=sd;subst b1;have fk:=fB.mono s2;have fi:=s2 _ _ (s1 _ _ sq);have kq:=(kv.mono (Kp.of s1) _ _).mono (Kp.of s2) _ _;refine⟨ps,k,fi,Q4j a2 (show A2 X.K H1 kd y from ik),by rw[<-D4.length kq];exact b2,fun v hv=>?_,fun hn=>?_⟩
  ·rcases D4.val (k:=k) kq with⟨n1,n2⟩ |⟨d',v',n1,n2,n3⟩
   ·rw[hv]at n2;cases n2
   ·rw[n1]at b3;have b3:(N9 X.K H0 H D).nx τ:=b3;exact b3 _ _ (Kp.of (s1.trans s2)) fk
  ·rcases D4.val (k:=k) kq with⟨n1,n2⟩ |⟨d',v',n1,n2,n3⟩
   ·rw[n1]at b3;have b3:(N9 X.K H0 H D).nx (τ.set i (some (.dk (kvs++[(k,d)])))):=b3;have kp:Kp H2 (A9 H2 a (.dK (R8 ps k u))):=Q0b fi (by intro xs z;cases z) (by intro o u z;cases z) _;have ek:P8 kvs k d=kvs++[(k,d)]:=by unfold P8;rw[aI (by rw[V9x n1];simp)]
    refine b3 _ _ ((Kp.of (s1.trans s2)).trans kp) (fk.mutG e1 rfl ig h0 fi (by intro xs z;cases z) (by intro o u z;cases z) ⟨a,_,rfl,h0,upd_same,?_⟩);rw[<-ek];exact D4.mono kp _ _ (D4.put iv kq)
   ·rw[hn]at n2;cases n2
end
def Y1z {σ':Q9}  {u0:HO}
  (I2:A0 X ae σ H2 s2) (Ib:A0 ?K pb σ' H' s1) (f2:∀b∈fp,N3 X ae H2 b) (hC:s2.heap.objs.size<=C) (hD:s2.heap.objs.size<=D0) (tG:H' D0=none)
  (sb:Heap.SameBut C s1.heap h') (new:ObjOk X.prog X.w (A9 H' D0 u0) h' D0 u0):A0 X ae σ (A9 H' D0 u0) {s1 with heap:=h'}:=by
 have mF:∀b o,s2.heap.get? b=?P->b≠C:=fun b o e=>aB (ay (aA e) hC);have rH:∀b o,s2.heap.get? b=?P->b≠D0:=fun b o e=>aB (ay (aA e) hD);have keep:=Y4a sb;have base:Un (F3 X.stack) fp H2 H' s2.heap s1.heap:=Ib.base;have tH:H' C=none:=Ib.free;have ko:∀b u,H' b=some u->b≠C:=fun b u e z=>by rw[z,tH]at e;cases e
 have neD:∀b u,H' b=some u->b≠D0:=fun b u e z=>by rw[z,tG]at e;cases e
 refine I2.call' (s':={s1 with heap:=h'}) (ch:=fp) Ib.os ⟨fun b o e n hb hx=>keep b o (mF b o e) (base.keep b o e n hb hx),fun b o e n hb hx=>?_,fun b o e n hx=>?_,fun b o e hx=>?_,fun b xs e=>?_,fun b o u e=>?_,fun b ps e=>?_⟩ (fun b u e=>?_) Ib.bare (fun b hb=>?_)
 ·obtain⟨sl,q⟩:=base.slot b o e n hb hx;exact⟨sl,keep b _ (mF b o e) q⟩
 ·rw[B2 (rH b o e)];exact base.free b o e n hx
 ·obtain⟨o',q⟩:=base.there b o e hx;exact⟨o',keep b o' (mF b o e) q⟩
 ·have q:=base.tups b xs e;rw[B2 (neD b _ q)];exact q
 ·have q:=base.frzs b o u e;rw[B2 (neD b _ q)];exact q
 ·obtain⟨more,q⟩:=base.tbls b ps e;exact⟨more,by rw[B2 (neD b _ q)];exact q⟩
 ·by_cases hb:b=D0
  ·subst hb;rw[upd_same]at e;cases e;exact new
  ·rw[B2 hb]at e;refine(Ib.hok b u e).stay (fun c v hc q=>keep c v ?_ q) (fun c u _ q=>by rw[B2 (neD c _ q)];exact q) fun c xs q=>by rw[B2 (neD c _ q)];exact q
   rcases hc with z |z
   ·rw[z];exact ko b u e
   ·exact ko c _ z
 ·obtain⟨_,a2,a3,a4,a5,a6⟩:=f2 b hb;exact⟨a4,a2,a5,a6⟩
section
variable {w:Av}{RR:Result->Ao->Prop}
theorem W5w {kx vx target:Aq}   {it:An}  {env:Env}(I:Nat->Ao->Prop)
  (turn:∀n s,I n s->wpAny ?V A (pyNext it) (fun r s₁=>match r with
   |none=>RR (.ok .next) s₁
   | some v=>wpAny ?V A (letOwnedTupleGo target it v) (fun _ sa=>wpAny ?V A (assign target env v) (fun _ s₃=>
     wpAny ?V A (eval kx env) (fun x s₄=>wpAny ?V A (eval vx env) (fun y s₅=>
       wpAny ?V A (dictSet D0 x y) (fun _ s₆=>∃m,m<n/\I m s₆) (?A4) s₅) (?A4) s₄) (?A4) s₃) (?A4) sa) (?A4) s₁) (?A4) s)
  (n:Nat) (h:I n s):codeAny ?V A (.compLoop (.DictComp kx vx [⟨target,iter,[],0⟩] scope pos) 0 it (.ref D0) env) RR s:=by
 refine codeAny_loop rfl I (fun n s hI=>?_) n h
 change wpAny ?V A ((compTurn (.DictComp kx vx [⟨target,iter,[],0⟩] scope pos) 0 it (Value.ref D0) env).onRaise (fun x=>do noteFrame x env;theTreesLotGoes x)) _ _ s
 refine wpAny_noted ?_;rw[compTurn_dict];refine aa (dO (aa (aP (turn n s hI) (fun r s₁ h₁=>?_) fun _ _ h'=>h'.elim)));cases r with
 |none=>exact am h₁
 |some v=>
  refine aa (aP h₁ (fun _ sa ha=>aa (aP ha (fun _ s₃ h₃=>aa (gU ?_)) fun _ _ h'=>h'.elim)) fun _ _ h'=>h'.elim);exact aa (aa (aP h₃ (fun x s₄ h₄=>aa (bD (aP h₄ (fun y s₅ h₅=>aa (dO (bD (aP h₅ (fun _ s₆ h₆=>am ⟨rfl,h₆⟩) fun _ _ h'=>h'.elim)))) fun _ _ h'=>h'.elim))) fun _ _ h'=>h'.elim))
end
def Y2 (g:WG)(wk wv:WE):O D->C3->O (B7×D)->(O (B7×D)->Prop)->Prop
 |[],_,kvs,Q=>Q kvs
 |d::ds,τ,kvs,Q=>g d τ fun τ'=>wk τ' fun r=>∃kd k,r=.st kd/\P4 kd=some k/\wv τ' fun r2=>∃e,r2=.st e/\Y2 g wk wv ds τ' (P8 kvs k e) Q
theorem Y2r {g:WG}{wk:WE}(hg:∀d τ (P Q:C3->Prop),(∀ τ,P τ->Q τ)->g d τ P->g d τ Q)(hk:∀(τ:C3) (P Q:R->Prop),(∀r,P r->Q r)->wk τ P->wk τ Q)(hv:∀(τ:C3) (P Q:R->Prop),(∀r,P r->Q r)->wv τ P->wv τ Q):
  ∀(ds:O D) (τ:C3) (kvs:O (B7×D)) (P Q:O (B7×D)->Prop),(∀es,P es->Q es)->Y2 g wk wv ds τ kvs P->Y2 g wk wv ds τ kvs Q
 |[],_,_,_,_,f,h=>f _ h
 |d::ds,τ,kvs,P,Q,f,h=>hg d τ _ _ (fun τ' h=>hk τ' _ _ (fun r cy=>(by obtain⟨kd,k,e1,e2,h⟩:=cy;exact⟨kd,k,e1,e2,hv τ' _ _ (fun r⟨e,e1,h⟩=>⟨e,e1,Y2r hg hk hv ds τ' _ _ _ f h⟩) h⟩)) h) h
section
variable {kx vx:Aq}{i6:Pos}{nt:Nat}{g:WG}{wk:WE}
theorem W8l {P:O (B7×D)->Prop}       (hc:X.calm=true)(B:Blk X scope N nt cap)(hi:L7 X H0 tg iter wi)
  (hg:∀C s H fp,DG ?W H tg g) (hk:∀C s H fp,DE ?W H kx wk) (hv:∀C s H fp,DE ?W H vx wv) (hs:?A1)
  (I:?A) (hR:C1 X.K H0 τ σ H) (hw:wi τ fun ds=>ds.length<sizeLine/\Y2 g wk wv ds (T1 nt cap τ) [] P)
  (fin:∀(C D0:Ap) (s2 s4:Ao) (H2 H4:Hp) (fp:O Ap) (pb:Pn9) (σ4:Q9) (ps:O (B7×V)) (vs:O (B7×An)) (kvs:O (B7×D)) (f:Flow),A0 X ae σ H2 s2->A5 H H2->A0 ?K pb σ4 H4 s4->(∀b∈fp,N3 X ae H2 b) ->
   s2.heap.objs.size<=C->s2.heap.objs.size<=D0->D0≠C->H4 D0=none->(D0==sysModules)=false->s4.heap.DictOf (M4 X.prog X.w) D0 vs->KV ps vs->ps.length<=sizeLine->A5 H2 H4->D4 X.K H4 kvs ps->P kvs->compPost ?C X.A X.xe use QQ (.ref D0) C (.ok f) s4):
  wpAny ?C X.A (comprehension (.DictComp kx vx [⟨tg,iter,[],0⟩] scope pos) scope X.env mB newDict false (eval iter X.env) use) QQ X.xe s:=by
 refine dH rfl hs (Z0i fun y hy e=>I.ok.has y.1 (B.free y hy e)) B.kind B.names ?_;refine B3 (hi.pi ae s σ H (fun J H2=>A5 H H2/\∃ds,YlS X.K J ds H2/\ds.length<sizeLine/\Y2 g wk wv ds (T1 nt cap τ) [] P) I
  ⟨τ,hR,hi.mono τ _ _ (fun ds h J H' sm yl=>⟨sm,ds,yl,h.1,h.2⟩) hw⟩) fun v s1 h1=>B3 h1 fun mH s2 h2=>?_
 obtain⟨it,fp,tn,J,H2,e,I2,T,fJ,f2,dZ,ds,yl,hz,ku⟩:=h2;subst e;have iO:∀b∈fp,b<s2.heap.objs.size:=fun b hb=>by
  obtain⟨o,ho,_⟩:=T.obj _ _ fJ b hb;exact aA ho
 have fk:=hR.mono dZ;have l0:(s2.heap.objs.size==sysModules)=false:=cq.mpr (bN (aB I2.big));refine bQ (di B.cell (by intro y hy;simp at hy) (fun h₁ eA dE=>?_) B.kind);dsimp only at eA dE ⊢;have jk:(s2.heap.push {cls:=.type "dict",dict:=none,data:=.dict #[]}).DictOf (M4 X.prog X.w) s2.heap.objs.size []:=Heap.DictOf.new s2.heap;generalize hH2:s2.heap.push {cls:=.type "dict",dict:=none,data:=.dict #[]}=Hq at eA dE jk ⊢;have hC:Hq.objs.size=s2.heap.objs.size+1:=by rw[<-hH2,bC]
 have eC:s2.heap.objs.size≠Hq.objs.size:=by rw[hC];exact aB (cb _)
 have dv:s2.heap.objs.size<=Hq.objs.size:=by rw[hC];exact eD _
 have old:∀b o,s2.heap.get? b=?P->h₁.get? b=?P:=fun b o e=>dE.extBut b o (by rw[hC];exact aB (bt (aA e))) (af _ (hH2▸af _ e));have fN:h₁.DictOf (M4 X.prog X.w) s2.heap.objs.size []:=jk.at fun o e=>dE.extBut _ _ eC (af _ e);generalize hCe:Hq.objs.size=C at eA dE hC eC dv ⊢;generalize hDe:s2.heap.objs.size=D0 at hC eC dv fN l0 ⊢;have eL:∀b∈fp,b<D0:=fun b hb=>hDe▸iO b hb;have gj:tn 0 h₁:=T.keep _ _ _ fJ fun b _ o e=>old b o e;have nr:=Z0e (C:=C) (h':=h₁) (t':=s2.toks+([]:O (Str×An)).length) I2 B f2 iO (by rw[hDe];exact dv) eA old;have jF:H2 D0=none:=I2.hok.fresh (by rw[hDe];exact ak _);have mC:D0∉F3 X.stack:=fun z=>by
  rcases ar.mp (I2.stkSub _ z)with e |e
  ·have:=I2.lt;rw[<-e,hDe]at this;exact aS _ this
  ·exact I2.nofs (by rw[hDe];exact ak _) e
 have mE:∀x c,(U8 X.env scope.names []).lookup x=some c->c≠D0:=fun x c h z=>by
  obtain⟨v,q⟩:=I2.cell x c (Y1 I2 B h);have:=q.lt;rw[z,hDe]at this;exact aS _ this
 have pD:∀{h:Heap}{vs:O (B7×An)}{o:Obj},h.DictOf (M4 X.prog X.w) D0 vs->h.get? D0=?P->∀v,o.data≠.cell v:=by
  intro h vs o dd e v z;obtain⟨o',es,ep,e',_,d,_⟩:=dd;rw[e]at e';cases e';rw[d]at z;cases z
 have gi:∀{pb:Pn9} {σ':Q9}{H':Hp}{s':Ao}{vs:O (B7×An)}{o:Obj},A0 ?K pb σ' H' s'->H' D0=none->s'.heap.DictOf (M4 X.prog X.w) D0 vs->s'.heap.get? D0=?P ->
   A0 ?K [(D0,o)] σ' H' s':=by
  intro pb σ' H' s' vs o I' n' dd e;refine I'.pins_of fun p hp=>?_;have e':p=(D0,o):=by simpa using hp
  subst e';exact⟨e,n',eC,mC,pD dd e⟩
 have iS:∀{H':Hp}{ob:Obj},(∀b∈fp,H' b=none)->∀b∈fp,N3 ?K [(D0,ob)] H' b:=by
  intro H' ob hn b hb;refine⟨hn b hb,(aB (ay (eL b hb) dv)),fun z=>?_,.inl hb,fun x c h=>(f2 b hb).2.2.2.2.1 x c (Y1 I2 B h),fun p hp=>?_⟩
  ·rcases ar.mp (I2.stkSub b z)with e |e
   ·exact(f2 b hb).2.1 e
   ·exact(f2 b hb).2.2.1 e
  ·have e':p=(D0,ob):=by simpa [blk]using hp
   subst e';exact(aB (eL b hb)).symm
 let md:Nat->Ao->Prop:=fun k s'=>∃(i:Nat) (σ':Q9) (H':Hp) (τ':C3) (ob:Obj) (vs:O (B7×An)) (ps:O (B7×V)) (kvs:O (B7×D)),A0 ?K [(D0,ob)] σ' H' s'/\C1 X.K H2 τ' σ' H'/\tn i s'.heap /\
  (∀b∈fp,H' b=none)/\H' D0=none/\s'.heap.get? D0=some ob/\s'.heap.DictOf (M4 X.prog X.w) D0 vs/\KV ps vs/\D4 X.K H' kvs ps/\i<=ds.length/\k=ds.length-i/\ps.length<=i/\Y2 g wk wv (ds.drop i) τ' kvs P
 have loop:∀s₃:Ao,s₃={s2 with heap:=h₁,toks:=s2.toks+([]:O (Str×An)).length} ->
   codeAny ?C X.A (.compLoop (.DictComp kx vx [⟨tg,iter,[],0⟩] scope pos) 0 (.ref it) (.ref D0) (compEnvC scope (U8 X.env scope.names []) C X.env))
    (compPost ?C X.A X.xe use QQ (.ref D0) C) s₃:=by
  rintro s₃ rfl;obtain⟨wD,ho⟩:∃o,h₁.get? D0=?P:=by obtain⟨o,_,_,e,_⟩:=id fN;exact⟨o,e⟩
  refine W5w md ?_ ds.length ⟨0,_,H2,T1 nt cap τ,wD,[],[],[],gi nr jF fN ho,Z6v fk nt cap,gj,fun b hb=>(f2 b hb).1,jF,ho,fN,.nil,rfl,bj _,rfl,ak _,by simpa using ku⟩;rintro k s3 ⟨i,σ3,H3,τ3,ob,vs,ps,kvs,I3,R3,iq,j7,d3,o3,vz,rh,uA,uP,rfl,lY,w3⟩;have cP:A5 H2 H3:=R3.same
  by_cases cm:i<ds.length
  ·refine aP (T.item ?K rfl rfl rfl hc i _ s3 σ3 H3 (?A4) I3 (iS j7) iq (yl.go H3 cP i cm)) (fun r s4 bB=>?_) fun _ _ z=>z;obtain⟨u,hr,h4⟩:=bB;subst hr;refine aP h4 (fun _ s5 bB=>?_) fun _ _ z=>z;obtain⟨x,H5,I5,r5,y5,gm,lq⟩:=bB;obtain⟨jA,ix⟩:=yl.yld H3 cP i x H5 _ (ac cm) y5;rw[bZ cm]at w3;have lw:=I5.pinned (iS lq) (T.obj _ _ gm);refine aP ((hg C s2 H2 fp).pg _ s5 σ3 H5 x u (fun σ6 H6=>∃ τ6,C1 X.K H2 τ6 σ6 H6/\A5 H5 H6/\wk τ6 fun r=>∃kd k,r=.st kd/\P4 kd=some k/\wv τ6 fun r2=>∃e,r2=.st e/\Y2 g wk wv (ds.drop (i+1)) τ6 (P8 kvs k e) P)
    lw r5 ⟨τ3,ds[i],R3.mono jA,ix,(hg C s2 H2 fp).mono _ _ _ _ (fun τ6 h6 σ6 H6 jS R6=>⟨τ6,R6,jS,h6⟩) w3⟩) (fun _ s6 mK=>?_) fun _ _ z=>z
   obtain⟨σ6,H6,I6,τ6,R6,jS,w6⟩:=mK;refine aP ((hk C s2 H2 fp).pe _ s6 σ6 H6 (fun v H7=>A5 H6 H7/\∃kd k,A2 X.K H7 kd v/\P4 kd=some k/\wv τ6 fun r2=>∃e,r2=.st e/\Y2 g wk wv (ds.drop (i+1)) τ6 (P8 kvs k e) P) I6
    ⟨τ6,R6,(hk C s2 H2 fp).mono τ6 _ _ (fun r dF v H7 jz ir=>(by obtain⟨kd,k,e1,e2,h⟩:=dF;exact⟨jz,kd,k,by subst e1;exact ir,e2,h⟩)) w6⟩) (fun yk s7 iK=>?_) fun _ _ z=>z
   obtain⟨v7,H7,I7,re,jz,kd,k,x6,yF,w7⟩:=iK;refine aP ((hv C s2 H2 fp).pe _ s7 σ6 H7 (fun v H8=>A5 H7 H8/\∃e,A2 X.K H8 e v/\Y2 g wk wv (ds.drop (i+1)) τ6 (P8 kvs k e) P) I7
    ⟨τ6,R6.mono jz,(hv C s2 H2 fp).mono τ6 _ _ (fun r fM v H8 jR ir=>(by obtain⟨e,e1,h⟩:=fM;exact⟨jR,e,by subst e1;exact ir,h⟩)) w7⟩) (fun yv s8 iJ=>?_) fun _ _ z=>z
   obtain⟨v8,H8,I8,mw,jR,e8,rP,w8⟩:=iJ;have pd:=I8.pin (D0,ob) (aw _ (ba _ aj));obtain⟨o8,d8,_⟩:=pd;have pI:A0 ?K (X5 fp s5.heap) σ6 H8 s8:=I8.pins_of fun p hp=>I8.pin p (aw _ (aw _ hp));have yJ:s8.heap.DictOf (M4 X.prog X.w) D0 vs:=vz.at fun o e=>by rw[o3]at e;cases e;exact o8
   have el:vs.length=ps.length:=by rw[<-rh.length]
   cases Q4j yF x6;refine wpAny_dictSet_pairs (hsz:=?H) (Q4i re) yJ fun h₅ tP mL=>?_;have I9:A0 ?K (X5 fp s5.heap) σ6 H8 {s8 with heap:=h₅,toks:=s8.toks+1}:=by
    refine pI.turned (t':=s8.toks+1) (it:=D0) (fun b o hb e=>(mL.2 b hb).trans e) d8 eC (.inr (by rw[<-hDe];exact ak _)) mE (fun p hp z=>?_);obtain⟨q1,_⟩:=Q8y (by simpa [blk]using hp);exact aB (eL _ q1) z
   obtain⟨wA,o9⟩:∃o,h₅.get? D0=?P:=by obtain⟨o,_,_,e,_⟩:=id tP;exact⟨o,e⟩
   have ww:A5 H3 H8:=jA.trans (jS.trans (jz.trans jR));have oh:tn (i+1) h₅:=T.keep _ _ _ gm fun b hb o e=>(I9.pin (b,o) (aw _ (Q2m hb e))).1;refine⟨ds.length-(i+1),?H,i+1,σ6,H8,τ6,wA,stored vs k yv,R8 ps k v8,P8 kvs k e8,gi I9 d8 tP o9,R6.mono (jz.trans jR),oh,fun b hb=>?_,d8,o9,tP,rh.put k mw,D4.put rP (uA.mono (Kp.of ww) _ _),cm,rfl,?_,w8⟩
   ·obtain⟨o,e,_⟩:=T.obj _ _ gm b hb;exact(I9.pin (b,o) (aw _ (Q2m hb e))).2.1
   ·have:=Q8p ps k v8;lia
  ·have e:i=ds.length:=?H
   subst e;refine aP (T.done ?K rfl rfl rfl hc ds.length _ s3 σ3 H3 (?A4) I3 (iS j7) iq (yl.stop H3 cP)) (fun r s4 bB=>?_) fun _ _ z=>z;obtain⟨hr,I4⟩:=bB;subst hr;have o4:=(I4.pin (D0,_) (aw _ aj)).1;rw[cX]at w3;have yK:s4.heap.DictOf (M4 X.prog X.w) D0 vs:=vz.at fun o e=>by rw[o3]at e;cases e;exact o4
   exact fin C D0 s2 s4 H2 H3 fp _ σ3 ps vs kvs _ I2 dZ I4 f2 (by rw[hDe];exact dv) (by rw[hDe];exact ak _) eC d3 l0 yK rh (?H) cP uA w3
 exact codeAny_compStart_dict (loop _ rfl) (T.self _ 0 _ _ _ gj (loop _ rfl))
def Z8l (i nt:Nat)(cap:?N)(wi:WIE)(g:WG)(wk wv:WE):WS:=fun E τ=>wi τ fun ds=>ds.length<sizeLine/\Y2 g wk wv ds (T1 nt cap τ) [] fun kvs=>E.nx (τ.set i (some (.dk kvs)))
def W2z {i:Nat}  (hc:X.calm=true)(B:Blk X scope N nt cap)(hi:L7 X H0 tg iter wi)(hg:∀C s H fp,DG ?W H tg g)(hk:∀C s H fp,DE ?W H kx wk)
  (hv:∀C s H fp,DE ?W H vx wv) (hN:X.N.Nodup) (mW:X.N[i]?=some x) (hx:Loc X.env.scope x)
  (jX:swapsWith (.DictComp kx vx [⟨tg,iter,[],0⟩] scope pos) (some (.Name x cf)) i6.line X.env=pure true:=by rfl) (hs:?A1:=by intro _;rfl)
  (hf:?J:=by sleep 1):
  DS X H0 (.Assign [.Name x cf] (.DictComp kx vx [⟨tg,iter,[],0⟩] scope pos) i6) (Z8l i nt cap wi g wk wv) where
 mono:=fun τ E F le h=>hi.mono τ _ _ (fun ds h=>⟨h.1,Y2r (hg 0 X.s₀ X.H₀ []).mono (hk 0 X.s₀ X.H₀ []).mono (hv 0 X.s₀ X.H₀ []).mono ds _ _ _ _ (fun es h=>le.nx _ h) h.2⟩) h
 ps:=by
  intro ae s σ H D I ⟨τ,hR,hw⟩;rw[gZ _ _ _ _ jX];refine aa (dO (aa ?_))
  change wpAny ?C X.A (do let _ <- comprehension (.DictComp kx vx [⟨tg,iter,[],0⟩] scope pos) scope X.env _ newDict false (eval iter X.env) (some (assign (.Name x cf) X.env))) _ _ s
  refine aa (aP (W8l (use:=some (assign (.Name x cf) X.env)) (QQ:=fun _ s'=>SP X ae D .next s') hc B hi hg hk hv hs I hR hw fun C D0 s2 s4 H2 H4 fp pb σ4 ps vs kvs f I2 dZ I4 f2 hC hD eC hn l0 dd rk hz jx kv w3=>?_)
   (fun _ s' hq=>am (am hq)) fun _ _ e=>e)
  have Ib:A0 X ae σ (A9 H4 D0 (.dK ps)) {s4 with heap:=s4.heap}:=Y1z I2 I4 f2 hC hD hn ⟨rfl,fun _ _=>rfl⟩ ⟨hz,l0,vs,rk,dd⟩;have m8:C≠X.env.locals:=fun z=>aS _ (ay I2.lt (z▸hC));have m7:∀x c,?Z->c≠C:=fun x c h z=>by
   obtain⟨v,q⟩:=I2.cell x c h;exact aS _ (ay q.lt (z▸hC))
  change wpAny ?C X.A (assign (.Name x cf) X.env (Value.ref D0)) _ _ s4
  refine fZ (Z1y (v:=.ref D0) Ib hN mW hx rfl (fun s5 I5 bB=>?_) hf);obtain⟨a,oj,ha⟩:=bB;obtain⟨m4,l8,_⟩:=id I4.loc;have ph:C≠a:=by
   rcases ha with ha |ha
   ·rw[ha];exact m8
   ·exact fun z=>m7 _ _ ha z.symm
  refine⟨m4,l8.sameBut oj ph,fun h' sb=>?_⟩;have pj:H4 C=none:=I4.free;have I6:A0 X ae (σ.set i (some (.ref D0))) (A9 H4 D0 (.dK ps)) {s5 with heap:=h'}:=by
   refine I5.turned (t':=s5.toks) (it:=C) (fun b o hb e=>(sb.2 b hb).trans e) (by rw[B2 (bN eC)];exact pj) m8 (.inr (aU I2.sz hC)) m7 fun p hp z=>?_;have:=(I2.pin p hp).1;exact aS _ (ay (aA this) (z▸hC))
  have kn:A5 H (A9 H4 D0 (.dK ps)):=dZ.trans (jx.trans (G7 hn _));have eO:=(hR.mono kn).set (i:=i) (s:=.dk kvs) (v:=.ref D0) ⟨D0,ps,rfl,hR.same.free (dZ.free (I2.hok.fresh hD)),upd_same,kv.mono (Kp.of (G7 hn _)) _ _⟩ fun _ j t hj e m q=>by
   obtain⟨o,ho⟩:=hR.tracked e m q;rw[dZ.free (I2.hok.fresh hD)]at ho;cases ho
  exact⟨_,_,I6,w3 _ _ (Kp.of kn) eO⟩
end
def kyD:B7->D
 |.inl i=>.int i
 |.inr x=>.str x
def Q5i:O R->(R->Prop)->Prop
 |[.dk kvs],Q=>Q (.nw (kvs.map fun p=>kyD p.1))
 |_,_=>False
def Y5b {rs:O R}{Q:R->Prop}(h:Q5i rs Q):∃kvs,rs=[.dk kvs]/\Q (.nw (kvs.map fun p=>kyD p.1)):=by
 unfold Q5i at h;split at h
 ·exact⟨_,rfl,h⟩
 ·exact h.elim
def W9m:Q3v Q5i:=fun x P Q g h=>by
 obtain⟨kvs,rfl,h⟩:=Y5b h;exact g _ h
theorem Z3t {K:Fg9}:∀(ps:O (B7×V)),AllS K H (ps.map fun p=>kyD p.1) (ps.map fun p=>kV p.1)
 |[]=>AllS.nil
 |(.inl i,v)::r=>AllS.cons Q1g (Z3t r)
 |(.inr x,v)::r=>AllS.cons Q5y (Z3t r)
theorem W4a {K:Fg9}:∀{kvs:O (B7×D)}{ps:O (B7×V)},D4 K H kvs ps->(kvs.map fun p=>kyD p.1)=ps.map fun p=>kyD p.1:=by intro kvs;induction kvs<;>grind [D4,av]
theorem W5g (hc:X.calm=true):Q3o X (.type "list") Q5i:=by
 intro ae s σ H xs us Q I rv ⟨rs,dA,h⟩;obtain⟨kvs,rfl,h⟩:=Y5b h;obtain⟨v,rfl,ir⟩:=Z6 dA;obtain⟨a,ps,rfl,e,kv⟩:=ir;obtain⟨u,rfl,ru⟩:=Z2 rv;cases ru;obtain⟨z,hd,vs,rel,dd⟩:=Z0j I.hok e;obtain⟨ep,da⟩:=dd.dictAt;have el:vs.length=ps.length:=by rw[<-rel.length]
 refine PySem.W.kdl_call (PySem.W.kdl_dict (knd:=M4 X.prog X.w) (kvs:=vs) (ep:=ep) hd) (I.ok.hd hc) da (?H) fun h' tk ee c' k e2 it=>?_;have hn:H s.heap.objs.size=none:=I.hok.fresh (ak _);have vl:C0 (ps.map fun p=>kV p.1) ee.toList:=by
  have key:∀(ps:O (B7×V)) (vs:O (B7×An)) (us:O An),KV ps vs->us.length=vs.length->(∀(j:Nat) (v:An),us[j]?=some v->∃k x,vs[j]?=some (k,x)/\(M4 X.prog X.w).is k v=true)->C0 (ps.map fun p=>kV p.1) us:=by
   intro ps
   induction ps with
   |nil=>intro vs us r l _;cases r;cases us with
    |nil=>exact .nil
    |cons _ _=>cases l
   |cons p ps ih=>
    intro vs us r l f;cases r with
    |@cons _ q _ qs h1 t=>
     cases us with
     |nil=>cases l
     |cons u us=>
      obtain⟨k,x,e1,e2⟩:=f 0 u rfl;cases e1;refine .cons ?_ (ih qs us t (by simpa using l) fun j v e=>f (j+1) v (by simpa using e));have h1:p.1=k:=h1.1;show C4 (kV p.1) u;rw[h1];rcases Q2k e2 with⟨i,t,rfl,rfl⟩ |⟨i,t,rfl,rfl⟩
      ·exact⟨t,rfl⟩
      ·exact⟨t,rfl⟩
  refine key ps vs ee.toList rel (by rw[db];exact it.1) fun j v e=>it.2 j v (by rw[<-pS];exact e)
 refine⟨.ref s.heap.objs.size,_,I.laid (t':=tk) (o:=.lst (ps.map fun p=>kV p.1)) k (ak _) ⟨by rw[ai];exact z,ee.toList,c',vl,by simpa using e2⟩,rfl,h _ _ (G7 hn _) ⟨_,_,rfl,hn,upd_same,?_⟩⟩;rw[W4a kv];exact Z3t ps
def Q1b:O R->(R->Prop)->Prop
 |[r],Q=>∃ns:O Int,Y4 r=some (ns.map .int)/\ns≠[]/\∀m,m∈ns->(∀n∈ns,n<=m)->Q (.st (.int m))
 |_,_=>False
def Z0v:Q3v Q1b:=fun x P Q g h=>by
 unfold Q1b at h ⊢;split at h
 ·obtain⟨ns,a,b,c⟩:=h;exact⟨ns,a,b,fun m h1 h2=>g _ (c m h1 h2)⟩
 ·exact h
theorem Y1r (f:Nat->Int):∀k,argBest (fun i j=>decide (f i > f j)) k<=k/\∀j,j<=k->f j<=f (argBest (fun i j=>decide (f i > f j)) k)
 |0=>⟨ak _,fun j hj=>by rw[qS.mp hj];exact Int.le_refl _⟩
 |k+1=>by
  obtain⟨h1,h2⟩:=Y1r f k;unfold argBest
  by_cases e:f (k+1) > f (argBest (fun i j=>decide (f i > f j)) k)
  ·rw[aO (by simpa using e)];refine⟨ak (k+1),fun j hj=>?_⟩
   by_cases z:j<=k
   ·exact Int.le_trans (h2 j z) (Int.le_of_lt e)
   ·rw[show j=k+1 by lia];exact Int.le_refl _
  ·rw[aI (by simpa using e)];refine⟨zt h1,fun j hj=>?_⟩
   by_cases z:j<=k
   ·exact h2 j z
   ·rw[show j=k+1 by lia];lia
theorem Z5j:∀{ns:O Int}{aY:O An},C0 (ns.map V.int) aY->∃xs:O (Int×Tok),aY=xs.map (fun p=>Value.int p.1 p.2)/\xs.map (·.1)=ns
 |[],aY,r=>by cases r;exact⟨[],rfl,rfl⟩
 |n::ns,aY,r=>by
  cases r with
  |cons h t=>
   obtain⟨tk,e⟩:=h;obtain⟨xs,e1,e2⟩:=Z5j (ns:=ns) t;exact⟨(n,tk)::xs,by rw[e,e1];rfl,by rw[av,e2]⟩
theorem Y1o {K:Fg9}:∀{ns:O Int}{xs:O V},AllS K H (ns.map .int) xs->xs=ns.map V.int:=by intro ns;induction ns<;>grind [List.map,AllS,av,A2]
theorem Z0f (hc:X.calm=true):Q3o X (.builtin "max") Q1b:=by
 intro ae s σ H xs us Q I rv ⟨rs,dA,h⟩;unfold Q1b at h;split at h
 ·rename_i r;obtain⟨ns,e1,dM,h⟩:=h;obtain⟨v,rfl,ir⟩:=Z6 dA;obtain⟨l,ys,rfl,sq,al⟩:=Q5j e1 ir;obtain⟨u,rfl,ru⟩:=Z2 rv;cases ru;have ey:=Y1o al;subst ey;obtain⟨aY,iy,pl,hz⟩:=I.list sq;obtain⟨ps,ei,en⟩:=Z5j iy;subst ei;have hit:s.heap.IsList l (intItems ps.toArray):=by
   have:=pl.isList;have e:intItems ps.toArray=(ps.map fun p=>Value.int p.1 p.2).toArray:=by simp[intItems]
   rw[e];exact this
  have oI:0<ps.toArray.size:=by
   cases ps with
   |nil=>exact absurd en.symm dM
   |cons _ _=>simp
  refine max_intList (I.ok.hd hc) hit oI fun v h' tk e k=>?_;obtain⟨b1,b2⟩:=Y1r (numAt ps.toArray) (ps.toArray.size-1);obtain⟨t,et⟩:=intItems_at e;subst et;generalize argBest (fun i j=>decide (numAt ps.toArray i > numAt ps.toArray j)) (ps.toArray.size-1)=k0 at b1 b2 e;have at_:∀j,j<ps.length->ns[j]?=some (numAt ps.toArray j):=fun j hj=>by
   rw[<-en,ah,ac hj];simp[numAt,hj]
  have xW:k0<ps.length:=by
   have:ps.toArray.size=ps.length:=by simp
   lia
  refine⟨.int (numAt ps.toArray k0),H,I.kept k,⟨t,rfl⟩,h _ (au (at_ k0 xW)) (fun n hn=>?_) _ _ (A5.refl _) Z7⟩;obtain⟨j,hj,e⟩:=uc hn;have hl:ns.length=ps.length:=by rw[<-en,ai]
  have:=at_ j (?H);rw[ac hj,e]at this;rw[aC this];exact b2 j (by
   have:ps.toArray.size=ps.length:=by simp
   lia)
 ·exact h.elim
def LO.ok {w:Av}     (g:LO b xs h):ObjOk P w H h b (.ext (LO b xs)):=by
 obtain⟨z,aY,n,r,e⟩:=id g;exact⟨g,⟨_,e⟩,fun h1 h2 cy k=>(by obtain⟨z,aY,n,r,e⟩:=cy;exact⟨z,aY,n,r,k _ e⟩)⟩
def L3:Am Sl->Bool
 |some (.ll _ _)=>false
 |_=>true
def Q0n:Nat->C3->Bool
 |_,[]=>true
 |0,_::r=>r.all L3
 |i+1,s::r=>L3 s&&Q0n i r
theorem Z6i:∀{i:Nat} {τ:C3}{j:Nat}{a:Ap}{dss:O (O D)},Q0n i τ=true->j≠i->τ[j]?≠some (some (.ll a dss))
 |_,[],j,a,dss,_,_=>by simp
 |0,s::r,0,a,dss,_,h=>absurd rfl h
 |0,s::r,j+1,a,dss,h,_=>fun e=>by
  have e:r[j]?=some (some (.ll a dss)):=by simpa using e
  have:=cc.mp h _ (au e);cases this
 |i+1,s::r,0,a,dss,h,_=>fun e=>by
  have e:s=some (.ll a dss):=by simpa using e
  subst e;simp[Q0n,L3]at h
 |i+1,s::r,j+1,a,dss,h,n=>fun e=>by
  rw[Q0n,ce]at h;exact Z6i (i:=i) (j:=j) h.2 (fun z=>n (by rw[z])) (by simpa using e)
theorem L1.length {K:Fg9}:∀{bs:O Ap}{dss:O (O D)},L1 K H bs dss->bs.length=dss.length
 |[],_,h=>by rw[show _=[]from h];rfl
 |b::bs,_,h=>by obtain⟨ds,r,rfl,_,t⟩:=h;rw[aK,aK,t.length]
theorem L1.get {K:Fg9}:∀{bs:O Ap}{dss:O (O D)}{j:Nat},L1 K H bs dss->j<dss.length->∃b xs,bs[j]?=some b/\H b=some (.ext (LO b xs))/\AllS K H (dss.getD j []) xs
 |[],_,j,h,l=>by rw[show _=[]from h]at l;simp at l
 |b::bs,_,0,h,l=>by obtain⟨ds,r,rfl,⟨xs,q,al⟩,t⟩:=h;exact⟨b,xs,rfl,q,al⟩
 |b::bs,_,j+1,h,l=>by
  obtain⟨ds,r,rfl,_,t⟩:=h;obtain⟨b',xs,e,q,al⟩:=L1.get (j:=j) t (by simpa using l);exact⟨b',xs,by simpa using e,q,by simpa using al⟩
theorem L1.mem {K:Fg9}:∀{bs:O Ap}{dss:O (O D)}{b:Ap},L1 K H bs dss->b∈bs->∃xs,H b=some (.ext (LO b xs))
 |[],_,b,h,l=>by cases l
 |c::bs,_,b,h,l=>by
  obtain⟨ds,r,rfl,⟨xs,q,al⟩,t⟩:=h;rcases ar.mp l with rfl |l
  ·exact⟨xs,q⟩
  ·exact t.mem l
theorem L1.set {K:Fg9}  (k:Kp H H'){b0:Ap}{qx:O D}  (h0:H' b0=some (.ext (LO b0 lE)))(vT:AllS K H' qx lE)(gn:∀b φ,b≠b0->H b=some (.ext φ)->H' b=some (.ext φ)):
  ∀{bs:O Ap}{dss:O (O D)}{j:Nat},bs.Nodup->L1 K H bs dss->bs[j]?=some b0->L1 K H' bs (dss.set j qx)
 |[],_,j,_,h,e=>by simp at e
 |b::bs,_,0,n,h,e=>by
  obtain⟨ds,r,rfl,⟨xs,q,al⟩,t⟩:=h;have e:b=b0:=by simpa using e
  subst e;rw[bg]at n;refine⟨qx,r,rfl,⟨lE,h0,vT⟩,?_⟩;have same:∀{cs:O Ap}{ess:O (O D)},b∉cs->L1 K H cs ess->L1 K H' cs ess:=by
   intro cs
   induction cs with
   |nil=>intro ess _ h;exact h
   |cons c cs ih=>
    intro ess nb h;obtain⟨ds,r,rfl,⟨xs,q,al⟩,t⟩:=h;exact⟨ds,r,rfl,⟨xs,gn c _ (fun z=>nb (by rw[z];exact aj)) q,al.mono k _ _⟩,ih (fun z=>nb (ag _ z)) t⟩
  exact same n.1 t
 |b::bs,_,j+1,n,h,e=>by
  obtain⟨ds,r,rfl,⟨xs,q,al⟩,t⟩:=h;rw[bg]at n;have e:bs[j]?=some b0:=by simpa using e
  exact⟨ds,r.set j qx,rfl,⟨xs,gn b _ (fun z=>n.1 (by rw[z];exact au e)) q,al.mono k _ _⟩,L1.set k h0 vT gn n.2 t e⟩
section
variable {v:Aq}{sp:Pos}{i:Nat}
theorem V2w (ho:PE X o td)(he:PE X e ty)(m:M1 X o "append" apos e bz):PE X (.Call (.Attribute o "append" apos) [e] [] bz)
  (fun σ H Q=>td σ H fun x H1=>∃b lE,x=.ref b/\H1 b=some (.ext (LO b lE))/\ty σ H1 fun y H2=>∃xs,H2 b=some (.ext (LO b xs))/\xs.length<sizeLine/\Q .non (A9 H2 b (.ext (LO b (xs++[y]))))):=by
 intro ae s σ H Q I h;refine g6 m.base m.few m.line fF mf me (B3 (ho ae s σ H _ I h) fun u s1 bB=>?_);obtain⟨x,H1,I1,rx,b,lE,ex,eb,q1⟩:=bB;subst ex;obtain rfl:u=Value.ref b:=rx;obtain⟨_,wY,n0,_,e0⟩:=(show LO b lE s1.heap from(I1.hok b _ eb).1)
 refine⟨⟨_,e0,rfl⟩,fun c ec=>?_,?_⟩
 ·cases ec;exact⟨_,e0,rfl⟩
 rw[m.trees];refine cB rfl (cr (bT (B3 (he ae s1 σ H1 _ I1 q1) fun yv s2 ⟨y,H2,I2,ry,xs,e2,hz,q2⟩=>cK ?_)));obtain⟨z2,aY,n,rv,e3⟩:=(show LO b xs s2.heap from(I2.hok b _ e2).1)
 have el:=rv.length;refine dQ (hsz:=by rw[aH];lia) ⟨n,e3⟩ fun h' hl hs=>⟨.non,_,?_,rfl,q2⟩
 obtain⟨n',e4⟩:=hl;refine Q5d (t':=s2.toks) I2 (by rw[e2];exact True.intro) hs ⟨_,e4⟩ (LO.ok ⟨by rw[ao];show xs.length+1<=_;lia,aY++[yv],n',rv.append (.cons ry .nil),by simpa using e4⟩)
def C1.llAt {K:Fg9}     {dss:O (O D)}(hR:C1 K H0 τ σ H)(e1:τ[i]?=some (some (.ll a dss))):σ[i]?=some (some (.ref a))/\Q5z K H0 H a dss:=by
 obtain⟨v,hv,rfl,q⟩:=hR.here i _ e1;exact⟨hv,q⟩
def rIxE:R2:=fun x y H Q=>∃p xs i v,x=.ref p/\y=.int i/\H p=some (.ext (LO p xs))/\L9 xs i=some v/\Q v H
def W7u {p:Ap}  (I:?A)(h:H p=some (.ext (LO p xs))):xs.length<=sizeLine/\∃aY n,C0 xs aY/\s.heap.get? p=some ?A3:=(I.hok p _ h).1
theorem W8e:IxR X rIxE:=by
 intro value slice ae s σ H x y v u Q I rx ry h hs;obtain⟨p,xs,i,z,rfl,rfl,hq,he,q⟩:=h;cases rx;obtain⟨t,rfl⟩:=ry;obtain⟨hz,aY,n,r,e⟩:=W7u I hq;have pl:s.heap.IsList p aY.toArray:=⟨_,e,rfl,n,rfl⟩
 obtain⟨j,h1,h2,h3,h4,h5⟩:=Z0b he;obtain⟨w,ew,iG⟩:=r.get h2;have hl:=r.length;have hn:=Q4l;have fin:EP X ae σ Q w s:=⟨z,H,I,iG,q⟩
 by_cases h0:0<=i
 ·have hj:i.toNat=j:=by
   rw[nN h0 h5]at h1;exact aC h1
  exact item_listR pl h0 (?H) (by rw[hj];simpa using ew) fin hs
 ·have hj:(i+(aY.toArray.size:Int)).toNat=j:=by
   rw[seqIndex_neg (?H) h4]at h1;rw[aH,<-hl];exact aC h1
  exact jv (x:=w) pl.typeIs kM.lookup
   (zZ (Q:=fun r s'=>r=w/\EP X ae σ Q r s') pl (?H) (by rw[aH]<;>lia) (?H) (by rw[hj];simpa using ew) ⟨rfl,fin⟩) hs
def C1.llre {K:Fg9}     {dss pC:O (O D)}(hR:C1 K H0 τ σ H)(e1:τ[i]?=some (some (.ll a dss)))(hv:σ[i]?=some (some (.ref a)))(only:Q0n i τ=true)
  (kp:Kp H H') (ne:∀c u,H c=some u->(∀ φ,u≠.ext φ)->H' c=some u) (sm:A5 H0 H') (ll:Q5z K H0 H' a pC):C1 K H0 (τ.set i (some (.ll a pC))) σ H':=by
 have hl:i<τ.length:=(aD.mp e1).1;refine⟨by rw[bx];exact hR.len,sm,fun k t e=>?_,fun k l t u w dM e2 e3 m1 m2 q1 q2=>?_⟩
 ·by_cases hk:k=i
  ·subst hk;rw[bf hl]at e;cases e;exact⟨_,hv,rfl,ll⟩
  ·rw[aM (fun z=>hk z.symm)]at e;obtain⟨w,q,r⟩:=hR.here k t e;refine⟨w,q,?_⟩;cases t with
   |dat d=>exact A2.mono kp _ _ r
   |own es=>obtain⟨c,ys,e,n,q,t⟩:=r;exact⟨c,ys,e,n,ne _ _ q (by intro φ z;cases z),t.mono kp _ _⟩
   |bor es=>obtain⟨c,ys,e,q,t⟩:=r;exact⟨c,ys,e,q,t.mono kp _ _⟩
   |bd es=>obtain⟨c,ys,e,q,t⟩:=r;exact⟨c,ys,e,q,t.mono kp _ _⟩
   |dk es=>obtain⟨c,ys,e,n,q,t⟩:=r;exact⟨c,ys,e,n,ne _ _ q (by intro φ z;cases z),t.mono kp _ _⟩
   |dt es=>obtain⟨c,ys,e,n,q,t⟩:=r;exact⟨c,ys,e,n,ne _ _ q (by intro φ z;cases z),t.mono kp _ _⟩
   |ob _=>exact r
   |cl _ _=>exact⟨r.1,r.2.2 _ _ kp r.2.1,r.2.2⟩
   |ll a' d'=>exact absurd e (Z6i only hk)
   |ins _ _ _=>obtain⟨e,n,dx,ys,q,t⟩:=r;exact⟨e,n,dx,ys,ne _ _ q (by intro φ z;cases z),t.mono kp _ _⟩
 ·by_cases hk:k=i
  ·subst hk;rw[bf hl]at e2;cases e2;cases m1
  ·by_cases hl':l=i
   ·subst hl';rw[bf hl]at e3;cases e3;cases m2
   ·rw[aM (fun z=>hk z.symm)]at e2;rw[aM (fun z=>hl' z.symm)]at e3;exact hR.apart k l t u w dM e2 e3 m1 m2 q1 q2
def C1.llset {K:Fg9}     {dss:O (O D)}{j:Nat}{ds:O D}{bs:O Ap}  (hR:C1 K H0 τ σ H)(e1:τ[i]?=some (some (.ll a dss)))(hv:σ[i]?=some (some (.ref a)))(only:Q0n i τ=true)
  (ha:H a=some (.ext (LO a (bs.map V.ref)))/\H0 a=none/\a∉bs) (nd:bs.Nodup) (h0:∀b∈bs,H0 b=none) (ll:L1 K H bs dss) (ej:bs[j]?=some b) (eb:H b=some (.ext (LO b lE))) (al:AllS K H ds xs):
  Kp H (A9 H b (.ext (LO b xs)))/\C1 K H0 (τ.set i (some (.ll a (dss.set j ds)))) σ (A9 H b (.ext (LO b xs))):=by
 have kp:Kp H (A9 H b (.ext (LO b xs))):=Q0b eb (by intro xs z;cases z) (by intro o u z;cases z) _;have yf:H0 b=none:=h0 b (au ej);refine⟨kp,hR.llre e1 hv only kp (fun c u q n=>by rw[B2 (Q0k q eb (n _))];exact q) (fun c u q=>by rw[B2 (fun z=>by rw[z,yf]at q;cases q)];exact hR.same c u q)
  ⟨bs,⟨by rw[B2 (show a≠b from fun z=>ha.2.2 (by rw[z];exact au ej))];exact ha.1,ha.2⟩,nd,h0,L1.set kp upd_same (al.mono kp _ _) (fun c φ hc q=>by rw[B2 hc];exact q) nd ll ej⟩⟩
def Q9i (i:Nat)(we wv:WE):WS:=fun E τ=>∃a dss,τ[i]?=some (some (.ll a dss))/\Q0n i τ=true/\we τ fun r=>∃k j,r=.st (.int k)/\ixN dss.length k=some j/\wv τ fun r2=>∃d,r2=.st d/\(dss.getD j []).length<sizeLine /\
 E.nx (τ.set i (some (.ll a (dss.set j (dss.getD j []++[d])))))
def W2r {b:Aq}(ho:PE X b (Q0 i))(he:DE X H0 e we)(hv:DE X H0 v wv)(hpl:Z3l e)(m:M1 X (.Subscript b e pos) "append" apos v bz)(jX:swapsWith (.Call (.Attribute (.Subscript b e pos) "append" apos) [v] [] bz) none sp.line X.env=pure false:=by rfl):
  DS X H0 (.Expr (.Call (.Attribute (.Subscript b e pos) "append" apos) [v] [] bz) sp) (Q9i i we wv) where
 mono:=fun τ E F le cR=>(by obtain⟨a,dss,e1,o,h⟩:=cR;exact⟨a,dss,e1,o,he.mono τ _ _ (fun r dF=>(by obtain⟨k,j,a1,a2,h⟩:=dF;exact⟨k,j,a1,a2,hv.mono τ _ _ (fun r⟨d,b1,b2,b3⟩=>⟨d,b1,b2,le.nx _ b3⟩) h⟩)) h⟩)
 ps:=Q7 (Z6p (V2w (Y6x W8e ho he.pe hpl) hv.pe m) jX) fun D σ H fL=>by
  obtain⟨τ,hR,a,dss,e1,only,h⟩:=fL;obtain⟨ig,_⟩:=hR.llAt e1;refine⟨_,ig,τ,hR,he.mono τ _ _ (fun r iK y H1 s1 ik=>?_) h⟩;obtain⟨k,j,a1,a2,h⟩:=iK;subst a1;cases (show y=.int k from ik);have fB:=hR.mono s1;obtain⟨_,bs,ha,nd,h0,ll⟩:=fB.llAt e1;have el:=ll.length;obtain⟨_,hj,_,_⟩:=Z5m a2;obtain⟨b0,xs,ej,eb,al⟩:=ll.get hj;have oX:L9 (bs.map V.ref) k=some (V.ref b0):=by unfold L9;rw[ai,el,a2];show(bs.map V.ref)[j]?=_;rw[ah,ej];rfl
  refine⟨a,bs.map V.ref,k,V.ref b0,rfl,rfl,ha.1,oX,b0,xs,rfl,eb,τ,fB,hv.mono τ _ _ (fun r iJ u H2 s2 iv=>?_) h⟩;obtain⟨d,b1,b2,b3⟩:=iJ;subst b1;have fk:=fB.mono s2;have fC:=al.mono (Kp.of s2) _ _;refine⟨xs,s2 _ _ eb,by rw[<-al.length];exact b2,?_⟩;obtain⟨kp,ki⟩:=fk.llset (xs:=xs++[u]) (ds:=dss.getD j []++[d]) e1 ig only ⟨s2 _ _ ha.1,ha.2⟩ nd h0 (ll.keep (Kp.of s2) fun b φ q=>s2 _ _ q) ej (s2 _ _ eb) (fC.append (AllS.cons iv AllS.nil));exact b3 _ _ ((Kp.of (s1.trans s2)).trans kp) ki
def Y4e (I:?A)(h:H b=some (.ext (LO b xs))):∃o,A0 X ae σ (A9 H b (.frz o (.lst xs))) s:=by
 obtain⟨z,aY,n,r,q⟩:=(show LO b xs s.heap from(I.hok b _ h).1)
 refine⟨_,I.write (t':=s.toks) (h':=s.heap) (e:=b) (o:=.frz ?A3 (.lst xs)) (by rw[h];trivial) (.inl rfl) (fun b u _ k=>k) ⟨_,q⟩ ?_⟩;exact⟨q,z,aY,n,r,q⟩
theorem Y4c:∀{bs:O Ap}{dss:O (O D)}{H:Hp},?A->bs.Nodup->L1 X.K H bs dss ->
  ∃H',A0 X ae σ H' s/\Kp H H'/\(∀c,c∉bs->H' c=H c)/\(∀c u,H c=some u->(∀ φ,u≠.ext φ)->H' c=some u)/\AllS X.K H' (dss.map .lst) (bs.map V.ref)
 |[],dss,H,I,_,h=>by
  rw[show dss=[]from h];exact⟨H,I,Kp.refl H,fun _ _=>rfl,fun _ _ q _=>q,AllS.nil⟩
 |b::bs,dss,H,I,n,h=>by
  obtain⟨ds,r,rfl,⟨xs,q,al⟩,t⟩:=h;rw[bg]at n;obtain⟨o,I1⟩:=Y4e I q;have kp:Kp H (A9 H b (.frz o (.lst xs))):=Q0b q (by intro xs z;cases z) (by intro o u z;cases z) _;have t1:L1 X.K (A9 H b (.frz o (.lst xs))) bs r:=by
   have same:∀{cs:O Ap}{ess:O (O D)},b∉cs->L1 X.K H cs ess->L1 X.K (A9 H b (.frz o (.lst xs))) cs ess:=by
    intro cs
    induction cs with
    |nil=>intro ess _ h;exact h
    |cons c cs ih=>
     intro ess nb h;obtain⟨ds,r,rfl,⟨xs,q,al⟩,t⟩:=h;exact⟨ds,r,rfl,⟨xs,by rw[B2 (fun z=>nb (by rw[z];exact aj))];exact q,al.mono kp _ _⟩,ih (fun z=>nb (ag _ z)) t⟩
   exact same n.1 t
  obtain⟨H',I2,k2,o2,e2,fC⟩:=Y4c I1 n.2 t1;refine⟨H',I2,kp.trans k2,fun c hc=>?_,fun c u hq hu=>?_,AllS.cons (A2.s_lst (.inl ⟨o,k2.frz _ _ _ upd_same⟩) ((al.mono kp _ _).mono k2 _ _)) fC⟩
  ·rw[o2 c (fun z=>hc (ag _ z)),B2 (fun z=>hc (by rw[z];exact aj))]
  ·exact e2 c u (by rw[B2 (Q0k hq q (hu _))];exact hq) hu
def Z8k (i:Nat)(w:WS):WS:=fun E τ=>w {E with nx:=fun τ'=>∃a dss,τ'[i]?=some (some (.ll a dss))/\Q0n i τ'=true/\E.nx (τ'.set i (some (.dat (.lst (dss.map .lst)))))} τ
def DS.fzL {w:WS}(i:Nat)(h:DS X H0 st w):DS X H0 st (Z8k i w) where
 mono:=fun τ E F le q=>h.mono τ {E with nx:=fun τ'=>∃a dss,τ'[i]?=some (some (.ll a dss))/\Q0n i τ'=true/\E.nx (τ'.set i (some (.dat (.lst (dss.map .lst)))))} {F with nx:=fun τ'=>∃a dss,τ'[i]?=some (some (.ll a dss))/\Q0n i τ'=true/\F.nx (τ'.set i (some (.dat (.lst (dss.map .lst)))))}
  ⟨fun τ'⟨a,dss,e,o,q⟩=>⟨a,dss,e,o,le.nx _ q⟩,le.rt,le.bk,le.ct⟩ q
 ps:=Q7 (Z6q h.ps) fun D σ H ⟨τ,hR,q⟩=>⟨τ,hR,h.mono τ {N9 X.K H0 H D with nx:=fun τ'=>∃a dss,τ'[i]?=some (some (.ll a dss))/\Q0n i τ'=true/\(N9 X.K H0 H D).nx (τ'.set i (some (.dat (.lst (dss.map .lst)))))} _
  ⟨fun τ' jh σ' H' kp eO ae s I=>by
   obtain⟨a,dss,e,only,q⟩:=jh;obtain⟨hv,bs,ha,nd,h0,ll⟩:=eO.llAt e;obtain⟨H1,I1,k1,o1,e1,kI⟩:=Y4c I nd ll;have t9:H1 a=some (.ext (LO a (bs.map V.ref))):=by rw[o1 a ha.2.2];exact ha.1
   obtain⟨ob,I2⟩:=Y4e I1 t9;have k3:Kp H1 (A9 H1 a (.frz ob (.lst (bs.map V.ref)))):=Q0b t9 (by intro xs z;cases z) (by intro o u z;cases z) _;have k2:=k1.trans k3;have e2:∀c u,H' c=some u->(∀ φ,u≠.ext φ)->A9 H1 a (.frz ob (.lst (bs.map V.ref))) c=some u:=fun c u q n=>by rw[B2 (Q0k (e1 c u q n) t9 (n _))];exact e1 c u q n
   have fC:=kI.mono k3 _ _;have hl:i<τ'.length:=(aD.mp e).1;refine⟨_,I2,q σ' _ (kp.trans k2) ⟨by rw[bx];exact eO.len,fun c u hq=>?_,fun k t et=>?_,fun k l t u w dM et eu m1 m2 q1 q2=>?_⟩⟩
   ·rw[B2 (fun z=>by rw[z,ha.2.1]at hq;cases hq),o1 c (fun z=>by rw[h0 c z]at hq;cases hq)];exact eO.same c u hq
   ·by_cases hk:k=i
    ·subst hk;rw[bf hl]at et;cases et;exact⟨_,hv,A2.s_lst (K:=X.K) (.inl ⟨ob,upd_same⟩) fC⟩
    ·rw[aM (fun z=>hk z.symm)]at et;obtain⟨w,q,r⟩:=eO.here k t et;refine⟨w,q,?_⟩;cases t with
     |dat d=>exact A2.mono k2 _ _ r
     |own es=>obtain⟨c,ys,e,n,q,t⟩:=r;exact⟨c,ys,e,n,e2 _ _ q (by intro φ z;cases z),t.mono k2 _ _⟩
     |bor es=>obtain⟨c,ys,e,q,t⟩:=r;exact⟨c,ys,e,q,t.mono k2 _ _⟩
     |bd es=>obtain⟨c,ys,e,q,t⟩:=r;exact⟨c,ys,e,q,t.mono k2 _ _⟩
     |dk es=>obtain⟨c,ys,e,n,q,t⟩:=r;exact⟨c,ys,e,n,e2 _ _ q (by intro φ z;cases z),t.mono k2 _ _⟩
     |dt es=>obtain⟨c,ys,e,n,q,t⟩:=r;exact⟨c,ys,e,n,e2 _ _ q (by intro φ z;cases z),t.mono k2 _ _⟩
     |ob _=>exact r
     |cl _ _=>exact⟨r.1,r.2.2 _ _ k2 r.2.1,r.2.2⟩
     |ll a' d'=>exact absurd et (Z6i only hk)
     |ins _ _ _=>obtain⟨e,n,dx,ys,q,t⟩:=r;exact⟨e,n,dx,ys,e2 _ _ q (by intro φ z;cases z),t.mono k2 _ _⟩
   ·by_cases hk:k=i
    ·subst hk;rw[bf hl]at et;cases et;cases m1
    ·by_cases hl':l=i
     ·subst hl';rw[bf hl]at eu;cases eu;cases m2
     ·rw[aM (fun z=>hk z.symm)]at et;rw[aM (fun z=>hl' z.symm)]at eu;exact eO.apart k l t u w dM et eu m1 m2 q1 q2,fun _ h=>h,fun _ h=>h,fun _ h=>h⟩ q⟩
end
def Q0x (g:WG)(we:WE):O D->C3->(O (O D)->Prop)->Prop
 |[],_,Q=>Q []
 |d::ds,τ,Q=>g d τ fun τ'=>we τ' fun r=>∃es,r=.nw es/\Q0x g we ds τ' fun ess=>Q (es::ess)
theorem Y2s {g:WG}  (hg:∀d τ (P Q:C3->Prop),(∀ τ,P τ->Q τ)->g d τ P->g d τ Q)(he:∀(τ:C3) (P Q:R->Prop),(∀r,P r->Q r)->we τ P->we τ Q):
  ∀(ds:O D) (τ:C3) (P Q:O (O D)->Prop),(∀es,P es->Q es)->Q0x g we ds τ P->Q0x g we ds τ Q
 |[],_,_,_,f,h=>f _ h
 |d::ds,τ,P,Q,f,h=>hg d τ _ _ (fun τ' h=>he τ' _ _ (fun r⟨e,e1,h⟩=>⟨e,e1,Y2s hg he ds τ' _ _ (fun es h=>f _ h) h⟩) h) h
theorem L1.append {K:Fg9}   {ds:O D}  (q:H b=some (.ext (LO b xs)))(al:AllS K H ds xs):∀{bs:O Ap}{dss:O (O D)},L1 K H bs dss->L1 K H (bs++[b]) (dss++[ds])
 |[],dss,h=>by rw[show dss=[]from h];exact⟨ds,[],rfl,⟨xs,q,al⟩,rfl⟩
 |c::bs,dss,h=>by obtain⟨es,r,rfl,x,t⟩:=h;exact⟨es,r++[ds],rfl,x,t.append q al⟩
theorem Z8d:∀(bs:O Ap),C0 (bs.map V.ref) (bs.map Value.ref)
 |[]=>.nil
 |b::bs=>.cons rfl (Z8d bs)
section
variable {i6:Pos}{nt:Nat}{g:WG}
theorem W8z {P:O (O D)->Prop}       (hc:X.calm=true)(B:Blk X scope N nt cap)(hi:L7 X H0 tg iter wi)
  (hg:∀C s H fp,DG ?W H tg g) (he:∀C s H fp,DE ?W H gt we) (hs:?A1)
  (I:?A) (hR:C1 X.K H0 τ σ H) (hw:wi τ fun ds=>ds.length<=sizeLine/\Q0x g we ds (T1 nt cap τ) P)
  (fin:∀(C D0:Ap) (s2 s4:Ao) (H2 H4:Hp) (fp:O Ap) (pb:Pn9) (σ4:Q9) (bs:O Ap) (nn:Nat) (dss:O (O D)) (f:Flow),A0 X ae σ H2 s2->A5 H H2->A0 ?K pb σ4 H4 s4->(∀b∈fp,N3 X ae H2 b) ->
   s2.heap.objs.size<=C->s2.heap.objs.size<=D0->D0≠C->H4 D0=none->s4.heap.get? D0=some {cls:=.type "list",data:=.seq (bs.map Value.ref).toArray nn}->bs.length<=sizeLine->A5 H2 H4->bs.Nodup->(∀b∈bs,H2 b=none)->L1 X.K H4 bs dss->P dss->compPost ?C X.A X.xe use QQ (.ref D0) C (.ok f) s4):
  wpAny ?C X.A (comprehension (.ListComp gt [⟨tg,iter,[],0⟩] scope pos) scope X.env mB (newList []) false (eval iter X.env) use) QQ X.xe s:=by
 refine dH rfl hs (Z0i fun y hy e=>I.ok.has y.1 (B.free y hy e)) B.kind B.names ?_;refine B3 (hi.pi ae s σ H (fun J H2=>A5 H H2/\∃ds,YlS X.K J ds H2/\ds.length<=sizeLine/\Q0x g we ds (T1 nt cap τ) P) I
  ⟨τ,hR,hi.mono τ _ _ (fun ds h J H' sm yl=>⟨sm,ds,yl,h.1,h.2⟩) hw⟩) fun v s1 h1=>B3 h1 fun mH s2 h2=>?_
 obtain⟨it,fp,tn,J,H2,e,I2,T,fJ,f2,dZ,ds,yl,hz,ku⟩:=h2;subst e;have iO:∀b∈fp,b<s2.heap.objs.size:=fun b hb=>by
  obtain⟨o,ho,_⟩:=T.obj _ _ fJ b hb;exact aA ho
 have fk:=hR.mono dZ;refine bQ (di B.cell (by intro y hy;simp at hy) (fun h₁ eA dE=>?_) B.kind);dsimp only at eA dE ⊢;generalize hH2:s2.heap.push {cls:=.type "list",dict:=none,data:=.seq ([]:O An).toArray}=Hq at eA dE ⊢;have hC:Hq.objs.size=s2.heap.objs.size+1:=by rw[<-hH2,bC]
 have eC:s2.heap.objs.size≠Hq.objs.size:=by rw[hC];exact aB (cb _)
 have dv:s2.heap.objs.size<=Hq.objs.size:=by rw[hC];exact eD _
 have old:∀b o,s2.heap.get? b=?P->h₁.get? b=?P:=fun b o e=>dE.extBut b o (by rw[hC];exact aB (bt (aA e))) (af _ (hH2▸af _ e));have fN:h₁.PlainList s2.heap.objs.size #[]:=⟨_,dE.extBut _ _ eC (af _ (hH2▸aG _ rfl))⟩
 generalize hCe:Hq.objs.size=C at eA dE hC eC dv ⊢;generalize hDe:s2.heap.objs.size=D0 at hC eC dv fN ⊢;have eL:∀b∈fp,b<D0:=fun b hb=>hDe▸iO b hb;have gj:tn 0 h₁:=T.keep _ _ _ fJ fun b _ o e=>old b o e;have nr:=Z0e (C:=C) (h':=h₁) (t':=s2.toks+([]:O (Str×An)).length) I2 B f2 iO (by rw[hDe];exact dv) eA old;have jF:H2 D0=none:=I2.hok.fresh (by rw[hDe];exact ak _);have mC:D0∉F3 X.stack:=fun z=>by
  rcases ar.mp (I2.stkSub _ z)with e |e
  ·have:=I2.lt;rw[<-e,hDe]at this;exact aS _ this
  ·exact I2.nofs (by rw[hDe];exact ak _) e
 have mE:∀x c,(U8 X.env scope.names []).lookup x=some c->c≠D0:=fun x c h z=>by
  obtain⟨v,q⟩:=I2.cell x c (Y1 I2 B h);have:=q.lt;rw[z,hDe]at this;exact aS _ this
 have gi:∀{pb:Pn9} {σ':Q9}{H':Hp}{s':Ao}{ys:Array An}{n:Nat},A0 ?K pb σ' H' s'->H' D0=none->s'.heap.get? D0=some {cls:=.type "list",data:=.seq ys n} ->
   A0 ?K [(D0,{cls:=.type "list",data:=.seq ys n})] σ' H' s':=by
  intro pb σ' H' s' ys n I' n' e;refine I'.pins_of fun p hp=>?_;have e':p=(D0,{cls:=.type "list",data:=.seq ys n}):=by simpa using hp
  subst e';exact⟨e,n',eC,mC,fun v z=>by cases z⟩
 have iS:∀{H':Hp}{ob:Obj},(∀b∈fp,H' b=none)->∀b∈fp,N3 ?K [(D0,ob)] H' b:=by
  intro H' ob hn b hb;refine⟨hn b hb,(aB (ay (eL b hb) dv)),fun z=>?_,.inl hb,fun x c h=>(f2 b hb).2.2.2.2.1 x c (Y1 I2 B h),fun p hp=>?_⟩
  ·rcases ar.mp (I2.stkSub b z)with e |e
   ·exact(f2 b hb).2.1 e
   ·exact(f2 b hb).2.2.1 e
  ·have e':p=(D0,ob):=by simpa [blk]using hp
   subst e';exact(aB (eL b hb)).symm
 let md:Nat->Ao->Prop:=fun k s'=>∃(i:Nat) (σ':Q9) (H':Hp) (τ':C3) (nn:Nat) (bs:O Ap) (dss:O (O D)),A0 ?K [(D0,{cls:=.type "list",data:=.seq (bs.map Value.ref).toArray nn})] σ' H' s'/\C1 X.K H2 τ' σ' H'/\tn i s'.heap /\
  (∀b∈fp,H' b=none)/\H' D0=none/\bs.Nodup/\(∀b∈bs,H2 b=none)/\L1 X.K H' bs dss/\i<=ds.length/\k=ds.length-i/\bs.length=i/\Q0x g we (ds.drop i) τ' fun ess=>P (dss++ess)
 have loop:∀s₃:Ao,s₃={s2 with heap:=h₁,toks:=s2.toks+([]:O (Str×An)).length} ->
   codeAny ?C X.A (.compLoop (.ListComp gt [⟨tg,iter,[],0⟩] scope pos) 0 (.ref it) (.ref D0) (compEnvC scope (U8 X.env scope.names []) C X.env))
    (compPost ?C X.A X.xe use QQ (.ref D0) C) s₃:=by
  rintro s₃ rfl;obtain⟨nn,ho⟩:=id fN;refine Z4g md ?_ ds.length ⟨0,_,H2,T1 nt cap τ,nn,[],[],gi nr jF ho,Z6v fk nt cap,gj,fun b hb=>(f2 b hb).1,jF,dL,(by intro b hb;cases hb),rfl,bj _,rfl,rfl,by simpa using ku⟩;rintro k s3 ⟨i,σ3,H3,τ3,nn,bs,dss,I3,R3,iq,j7,d3,uy,f3,rJ,uP,rfl,lY,w3⟩;have cP:A5 H2 H3:=R3.same
  by_cases cm:i<ds.length
  ·refine aP (T.item ?K rfl rfl rfl hc i _ s3 σ3 H3 (?A4) I3 (iS j7) iq (yl.go H3 cP i cm)) (fun r s4 bB=>?_) fun _ _ z=>z;obtain⟨u,hr,h4⟩:=bB;subst hr;refine aP h4 (fun _ s5 bB=>?_) fun _ _ z=>z;obtain⟨x,H5,I5,r5,y5,gm,lq⟩:=bB;obtain⟨jA,ix⟩:=yl.yld H3 cP i x H5 _ (ac cm) y5;rw[bZ cm]at w3;have lw:=I5.pinned (iS lq) (T.obj _ _ gm);refine aP ((hg C s2 H2 fp).pg _ s5 σ3 H5 x u (fun σ6 H6=>∃ τ6,C1 X.K H2 τ6 σ6 H6/\A5 H5 H6/\we τ6 fun r=>∃es,r=.nw es/\Q0x g we (ds.drop (i+1)) τ6 fun ess=>P (dss++(es::ess)))
    lw r5 ⟨τ3,ds[i],R3.mono jA,ix,(hg C s2 H2 fp).mono _ _ _ _ (fun τ6 h6 σ6 H6 jS R6=>⟨τ6,R6,jS,h6⟩) w3⟩) (fun _ s6 mJ=>?_) fun _ _ z=>z
   obtain⟨σ6,H6,I6,τ6,R6,jS,w6⟩:=mJ;refine gU ?_;rw[aO rfl];refine aP ((he C s2 H2 fp).pe _ s6 σ6 H6 (fun v H8=>A5 H6 H8/\∃es,E7 X.K H6 H8 (.nw es) v/\Q0x g we (ds.drop (i+1)) τ6 fun ess=>P (dss++(es::ess))) I6
    ⟨τ6,R6,(he C s2 H2 fp).mono τ6 _ _ (fun r cR v H8 jR ir=>(by obtain⟨e,e1,h⟩:=cR;exact⟨jR,e,by subst e1;exact ir,h⟩)) w6⟩) (fun y s8 oC=>?_) fun _ _ z=>z
   obtain⟨v8,H8,I8,mw,wu,es,⟨b,xs,eb,nb,oV,yS⟩,w8⟩:=oC;subst eb;obtain rfl:y=Value.ref b:=mw;have pd:=I8.pin (D0,_) (aw _ (ba _ aj));obtain⟨o8,d8,_⟩:=pd;have ye:b≠D0:=fun z=>by rw[z,d8]at oV;cases oV
   obtain⟨zb,rN,wN,rb,ob⟩:=I8.hok b _ oV;have vU:A0 ?K ([(D0,{cls:=.type "list",data:=.seq (bs.map Value.ref).toArray nn})]++X5 fp s5.heap) σ6 (A9 H8 b (.ext (LO b xs))) s8:=
    I8.write (t':=s8.toks) (h':=s8.heap) (e:=b) (by rw[oV];trivial) (.inl rfl) (fun c u _ k=>k) ⟨_,ob⟩ (LO.ok ⟨zb,rN,wN,rb,ob⟩)
   have kp:Kp H8 (A9 H8 b (.ext (LO b xs))):=Q2d oV _;have mv:A5 H6 (A9 H8 b (.ext (LO b xs))):=fun c u q=>by rw[B2 (Y5 q nb)];exact wu c u q
   have lQ:(bs.map Value.ref).toArray.size<=sizeLine:=by simp;lia
   refine dQ (hsz:=lQ) ⟨nn,o8⟩ fun h₅ oN mL=>?_;have pI:A0 ?K (X5 fp s5.heap) σ6 (A9 H8 b (.ext (LO b xs))) s8:=vU.pins_of fun p hp=>vU.pin p (aw _ (aw _ hp));have tR:A9 H8 b (.ext (LO b xs)) D0=none:=by rw[B2 (bN ye)];exact d8
   have I9:A0 ?K (X5 fp s5.heap) σ6 (A9 H8 b (.ext (LO b xs))) {s8 with heap:=h₅}:=by
    refine pI.turned (t':=s8.toks) (it:=D0) (fun c o hb e=>(mL.2 c hb).trans e) tR eC (.inr (by rw[<-hDe];exact ak _)) mE (fun p hp z=>?_);obtain⟨q1,_⟩:=Q8y (by simpa [blk]using hp);exact aB (eL _ q1) z
   obtain⟨ox,o9⟩:=oN;have wE:h₅.get? D0=some {cls:=.type "list",data:=.seq ((bs++[b]).map Value.ref).toArray ox}:=by rw[o9];simp
   have q8:A5 H3 H6:=jA.trans jS;have oh:tn (i+1) h₅:=T.keep _ _ _ gm fun b hb o e=>(I9.pin (b,o) (aw _ (Q2m hb e))).1;have wR:L1 X.K (A9 H8 b (.ext (LO b xs))) bs dss:=rJ.keep (Kp.of (q8.trans mv)) fun c φ q=>(q8.trans mv) _ _ q;refine⟨ds.length-(i+1),?H,i+1,σ6,_,τ6,ox,bs++[b],dss++[es],gi I9 tR wE,R6.mono mv,oh,fun c hb=>?_,tR,?_,fun c hc=>?_,wR.append upd_same (yS.mono kp _ _),cm,rfl,by rw[ao,lY];rfl,by simpa using w8⟩
   ·obtain⟨o,e,_⟩:=T.obj _ _ gm c hb;exact(I9.pin (c,o) (aw _ (Q2m hb e))).2.1
   ·rw[bc];refine⟨uy,by simp,fun c hc c' fe z=>?_⟩;rw[show c'=b by simpa using fe]at z;obtain⟨og,q⟩:=rJ.mem hc;have q6:=q8 _ _ q;rw[z,nb]at q6;cases q6
   ·rcases aN.mp hc with z |z
    ·exact f3 c z
    ·rw[aE.mp z];exact(cP.trans q8).free nb
  ·have e:i=ds.length:=?H
   subst e;refine aP (T.done ?K rfl rfl rfl hc ds.length _ s3 σ3 H3 (?A4) I3 (iS j7) iq (yl.stop H3 cP)) (fun r s4 bB=>?_) fun _ _ z=>z;obtain⟨hr,I4⟩:=bB;subst hr;have o4:=(I4.pin (D0,_) (aw _ aj)).1;rw[cX]at w3;have w3:P (dss++[]):=w3;rw[b8]at w3;exact fin C D0 s2 s4 H2 H3 fp _ σ3 bs nn dss _ I2 dZ I4 f2 (by rw[hDe];exact dv) (by rw[hDe];exact ak _) eC d3 o4 (?H) cP uy f3 rJ w3
 exact gA (loop _ rfl) (T.self _ 0 _ _ _ gj (loop _ rfl))
def Z8n (i nt:Nat)(cap:?N)(wi:WIE)(g:WG)(we:WE):WS:=fun E τ=>wi τ fun ds=>ds.length<=sizeLine/\Q0x g we ds (T1 nt cap τ) fun dss=>∀a,E.nx (τ.set i (some (.ll a dss)))
def W3a {i:Nat}  (hc:X.calm=true)(B:Blk X scope N nt cap)(hi:L7 X H0 tg iter wi)(hg:∀C s H fp,DG ?W H tg g)(he:∀C s H fp,DE ?W H gt we)(hN:X.N.Nodup)(mW:X.N[i]?=some x)(hx:Loc X.env.scope x)
  (jX:swapsWith (.ListComp gt [⟨tg,iter,[],0⟩] scope pos) (some (.Name x cf)) i6.line X.env=pure true:=by rfl) (hs:?A1:=by intro _;rfl)
  (hf:?J:=by sleep 1):
  DS X H0 (.Assign [.Name x cf] (.ListComp gt [⟨tg,iter,[],0⟩] scope pos) i6) (Z8n i nt cap wi g we) where
 mono:=fun τ E F le h=>hi.mono τ _ _ (fun ds h=>⟨h.1,Y2s (hg 0 X.s₀ X.H₀ []).mono (he 0 X.s₀ X.H₀ []).mono ds _ _ _ (fun es h a=>le.nx _ (h a)) h.2⟩) h
 ps:=by
  intro ae s σ H D I ⟨τ,hR,hw⟩;rw[gZ _ _ _ _ jX];refine aa (dO (aa ?_))
  change wpAny ?C X.A (do let _ <- comprehension (.ListComp gt [⟨tg,iter,[],0⟩] scope pos) scope X.env _ (newList []) false (eval iter X.env) (some (assign (.Name x cf) X.env))) _ _ s
  refine aa (aP (W8z (use:=some (assign (.Name x cf) X.env)) (QQ:=fun _ s'=>SP X ae D .next s') hc B hi hg he hs I hR hw fun C D0 s2 s4 H2 H4 fp pb σ4 bs nn dss f I2 dZ I4 f2 hC hD eC hn ho hz jx nd fr ll w3=>?_)
   (fun _ s' hq=>am (am hq)) fun _ _ e=>e)
  have Ib:A0 X ae σ (A9 H4 D0 (.ext (LO D0 (bs.map V.ref)))) {s4 with heap:=s4.heap}:=
   Y1z I2 I4 f2 hC hD hn ⟨rfl,fun _ _=>rfl⟩ (LO.ok ⟨by rw[ai];exact hz,bs.map Value.ref,nn,Z8d bs,ho⟩)
  have m8:C≠X.env.locals:=fun z=>aS _ (ay I2.lt (z▸hC));have m7:∀x c,?Z->c≠C:=fun x c h z=>by
   obtain⟨v,q⟩:=I2.cell x c h;exact aS _ (ay q.lt (z▸hC))
  change wpAny ?C X.A (assign (.Name x cf) X.env (Value.ref D0)) _ _ s4
  refine fZ (Z1y (v:=.ref D0) Ib hN mW hx rfl (fun s5 I5 bB=>?_) hf);obtain⟨a,oj,ha⟩:=bB;obtain⟨m4,l8,_⟩:=id I4.loc;have ph:C≠a:=by
   rcases ha with ha |ha
   ·rw[ha];exact m8
   ·exact fun z=>m7 _ _ ha z.symm
  refine⟨m4,l8.sameBut oj ph,fun h' sb=>?_⟩;have pj:H4 C=none:=I4.free;have I6:A0 X ae (σ.set i (some (.ref D0))) (A9 H4 D0 (.ext (LO D0 (bs.map V.ref)))) {s5 with heap:=h'}:=by
   refine I5.turned (t':=s5.toks) (it:=C) (fun b o hb e=>(sb.2 b hb).trans e) (by rw[B2 (bN eC)];exact pj) m8 (.inr (aU I2.sz hC)) m7 fun p hp z=>?_;have:=(I2.pin p hp).1;exact aS _ (ay (aA this) (z▸hC))
  have kn:A5 H (A9 H4 D0 (.ext (LO D0 (bs.map V.ref)))):=dZ.trans (jx.trans (G7 hn _));have eO:=(hR.mono kn).set (i:=i) (s:=.ll D0 dss) (v:=.ref D0) ⟨rfl,bs,⟨upd_same,((hR.same.trans dZ).trans jx).free hn,fun z=>by obtain⟨xs,q⟩:=ll.mem z;rw[hn]at q;cases q⟩,nd,fun b hb=>(hR.same.trans dZ).free (fr b hb),ll.keep (Kp.of (G7 hn _)) fun c φ q=>by rw[B2 (Y5 q hn)];exact q⟩ fun m=>by cases m
  exact⟨_,_,I6,w3 D0 _ _ (Kp.of kn) eO⟩
end
theorem D4.hid {K:Fg9}   (hS:U4 S H):∀{kvs:O (κ×D)}{ps:O (κ×V)},D4 K H kvs ps->D4 K (M0 S H) kvs ps
 |[],ps,h=>h
 |p::kvs,ps,h=>by obtain⟨v,r,e,q,t⟩:=h;exact⟨v,r,e,A2.hid hS _ _ q,D4.hid hS t⟩
def Q3.hid {K:Fg9}  {kvs:O (B7×D)}:Q3t (Q3 K a kvs):=fun S H hS cy=>by
 obtain⟨o,ps,h,q⟩:=cy;refine⟨o,ps,?_,q.hid hS⟩;rw[Q0h]
 ·exact h
 ·intro ha;obtain⟨o',u,e,_⟩:=hS a ha;rw[h]at e;cases e
section
variable {w:WS}{a:Aq}{wk:WE}{i j nt:Nat}{pV:WIE}{g:WG}{E:F9}{K:Fg9}{Q:R->Prop}
def Z2l (i:Nat)(w:WS):WS:=fun E τ=>w {E with nx:=fun τ'=>∃ds,τ'[i]?=some (some (.own ds))/\E.nx (τ'.set i (some (.dat (.lst ds))))} τ
def W2n (i:Nat)(h:DS X H0 st w):DS X H0 st (Z2l i w) where
 mono:=fun τ E F le q=>h.mono τ {E with nx:=fun τ'=>∃ds,τ'[i]?=some (some (.own ds))/\E.nx (τ'.set i (some (.dat (.lst ds))))} {F with nx:=fun τ'=>∃ds,τ'[i]?=some (some (.own ds))/\F.nx (τ'.set i (some (.dat (.lst ds))))} ⟨fun τ'⟨ds,e,q⟩=>⟨ds,e,le.nx _ q⟩,le.rt,le.bk,le.ct⟩ q
 ps:=Q7 (Z6q h.ps) fun D σ H ⟨τ,hR,q⟩=>⟨τ,hR,h.mono τ {N9 X.K H0 H D with nx:=fun τ'=>∃ds,τ'[i]?=some (some (.own ds))/\(N9 X.K H0 H D).nx (τ'.set i (some (.dat (.lst ds))))} _ ⟨fun τ' dF σ' H' kp eO ae s I=>by
  obtain⟨ds,e,q⟩:=dF;obtain⟨a,xs,hv,h0,sq,al⟩:=eO.ownAt e;obtain⟨o,I2⟩:=A0.freeze I sq;exact⟨_,I2,q σ' _ (kp.trans (Q2d sq _)) (eO.freeze e hv h0 sq al)⟩,fun _ h=>h,fun _ h=>h,fun _ h=>h⟩ q⟩
@[simp] theorem Y7x:Z2l i w E τ=w {E with nx:=fun τ'=>∃ds,τ'[i]?=some (some (.own ds))/\E.nx (τ'.set i (some (.dat (.lst ds))))} τ:=rfl
@[simp] theorem V6k:Z8j K i w E τ=w {E with nx:=fun τ'=>∃kvs,τ'[i]?=some (some (.dk kvs))/\∀a,E.nx (τ'.set i (some (.cl a (Q3 K a kvs))))} τ:=rfl
@[simp] theorem V6l:Z8k i w E τ=w {E with nx:=fun τ'=>∃a dss,τ'[i]?=some (some (.ll a dss))/\Q0n i τ'=true/\E.nx (τ'.set i (some (.dat (.lst (dss.map .lst)))))} τ:=rfl
@[simp] theorem V7e:Z8s K i E τ=∃kvs,τ[i]?=some (some (.dk kvs))/\∀a,E.rt (.cl a (Q3 K a kvs)):=rfl
@[simp] theorem V7f:Z8t i we E τ=we τ fun r=>∃a Φ,r=.cl a Φ/\E.nx (τ.set i (some (.cl a Φ))):=rfl
@[simp] theorem Y7w:Z2k K i we τ Q=∃a kvs,τ[i]?=some (some (.cl a (Q3 K a kvs)))/\we τ fun r=>∃kd k d,r=.st kd/\P4 kd=some k/\F8 kvs k=some d/\Q (.st d):=rfl
@[simp] theorem V6j:Z8i K i we τ Q=∃a kvs,τ[i]?=some (some (.cl a (Q3 K a kvs)))/\we τ fun r=>∃kd k,r=.st kd/\P4 kd=some k/\Q (.st ((F8 kvs k).getD .non)):=rfl
@[simp] theorem V6t:Z8m i E τ=E.nx (τ.set i (some (.dk []))):=rfl
@[simp] theorem Y8d:Z2n i we wv E τ=(i<τ.length/\we τ fun rk=>∃kd k,rk=.st kd/\P4 kd=some k/\wv τ fun r=>∃d,r=.st d/\E.nx (τ.set i (some (.dk [(k,d)])))):=rfl
@[simp] theorem V6u:Z2o i we wv E τ=∃kvs,τ[i]?=some (some (.dk kvs))/\we τ fun rk=>∃kd k,rk=.st kd/\P4 kd=some k/\wv τ fun r=>∃d,r=.st d/\kvs.length<sizeLine/\E.nx (if (F8 kvs k).isSome=true then τ else τ.set i (some (.dk (kvs++[(k,d)])))):=rfl
@[simp] theorem V6s:Z8l i nt cap pV g wk wv E τ=pV τ fun ds=>ds.length<sizeLine/\Y2 g wk wv ds (T1 nt cap τ) [] fun kvs=>E.nx (τ.set i (some (.dk kvs))):=rfl
@[simp] theorem V6x:Z8n i nt cap pV g we E τ=pV τ fun ds=>ds.length<=sizeLine/\Q0x g we ds (T1 nt cap τ) fun dss=>∀a,E.nx (τ.set i (some (.ll a dss))):=rfl
@[simp] theorem V6w:Q9i i we wv E τ=∃a dss,τ[i]?=some (some (.ll a dss))/\Q0n i τ=true/\we τ fun r=>∃k j,r=.st (.int k)/\ixN dss.length k=some j/\wv τ fun r2=>∃d,r2=.st d/\(dss.getD j []).length<sizeLine/\E.nx (τ.set i (some (.ll a (dss.set j (dss.getD j []++[d]))))):=rfl
@[simp] theorem V6y {kvs:O (B7×D)}:Q5i [.dk kvs] Q=Q (.nw (kvs.map fun p=>kyD p.1)):=rfl
@[simp] theorem V7b {r:R}:Q1b [r] Q=∃ns:O Int,Y4 r=some (ns.map .int)/\ns≠[]/\∀m,m∈ns->(∀n∈ns,n<=m)->Q (.st (.int m)):=rfl
end
section
variable {w:Av}{t:Ap}{i:Nat}
def V0y {x:An}  (hit:s.heap.IsTupleIter it t i)(ht:s.heap.IsTuple t items)(hx:items[i]?=some x)(hQ:∀h',h'.IsTupleIter it t (i+1)->Heap.SameBut it s.heap h'->Q x {s with heap:=h'}):
  wpAny ?R A (Builtin.SmallTypes.nextOf (.ref it)) Q E s:=by
 obtain⟨o,ho,hc,hd⟩:=id hit;obtain⟨ol,sA,_,nl,sW⟩:=ht;unfold Builtin.SmallTypes.nextOf;refine aa (bU (name:=Str.ofString "__next__") hit.typeIs dh (ci dh hit.typeIs pR ?_ (nS _)))
 change wpAny ?R A.in1 (field (Value.ref it) 0>>=_) _ _ s
 refine aa (bu ho hd (x:=.ref t) rfl (?_:wpAny ?R A.in1 (if (Value.ref t==Value.none)=true then _ else _) _ _ s));rw[aI (show ¬ (Value.ref t==Value.none)=true from bh)]
 change wpAny ?R A.in1 (field (Value.ref it) 1>>=_) _ _ s
 refine aa (bu ho hd (x:=.int i 0) rfl (?_:wpAny ?R A.in1 (seqItems? (Value.ref t)>>=_) _ _ s));refine aa (cu sA sW ?_);simp only[bL,hx];refine aa (qT ho hd ?E (am ⟨x,rfl,am (hQ _ ⟨_,cF _ ho (Obj.isFreed_of_fields (fQ hd _)),(Obj.cls_mapFields ..).trans hc,by rw[fQ hd];simp[rawInt]⟩ (bP ..))⟩))
def V0z (hh:A.handled=none)(hit:s.heap.IsTupleIter it t i)(ht:s.heap.IsTuple t items)(hx:items[i]?=none)
  (hE:∀h' e,Heap.ExtBut it s.heap h'->(∃o,h'.get? e=?P/\o.cls=.type "StopIteration")->E (.ref e) {s with heap:=h'}):wpAny ?R A (Builtin.SmallTypes.nextOf (.ref it)) Q E s:=by
 obtain⟨o,ho,hc,hd⟩:=id hit;obtain⟨ol,sA,_,nl,sW⟩:=ht;unfold Builtin.SmallTypes.nextOf;refine aa (bU (name:=Str.ofString "__next__") hit.typeIs dh (ci dh hit.typeIs pR ?_ (nS _)))
 change wpAny ?R A.in1 (field (Value.ref it) 0>>=_) _ _ s
 refine aa (bu ho hd (x:=.ref t) rfl (?_:wpAny ?R A.in1 (if (Value.ref t==Value.none)=true then _ else _) _ _ s));rw[aI (show ¬ (Value.ref t==Value.none)=true from bh)]
 change wpAny ?R A.in1 (field (Value.ref it) 1>>=_) _ _ s
 refine aa (bu ho hd (x:=.int i 0) rfl (?_:wpAny ?R A.in1 (seqItems? (Value.ref t)>>=_) _ _ s));refine aa (cu sA sW ?_);simp only[bL,hx];refine aa (dw (aa (qT ho hd ?E (?_:wpAny ?R A.in1 (newExc (.type "StopIteration") []>>=_) _ _ _))));refine aa ?_;simp only[newExc,newTuple];refine aa (bQ (?_) (by size_fits));refine aa (m:=firstArgMember _ _) (g9 (a:=Value.none) (by rfl) (bQ ?_ (by size_fits)));simp only[raiseNew];refine aa (wpAny_handled ?_);rw[show A.in1.handled=none from hh];exact aa (am (wpAny_throw (hE _ _ (((bP ..).extBut.push _).push _) ⟨_,aG _ rfl,rfl⟩)))
end
def Z4n {w:Av}  (hh:A.handled=none)(it t:Ap)(dM:t≠it)(items:Array An):
  Draws P w A it [it,t] items.size (fun i v=>items[i]?=some v) (fun i h=>h.IsTupleIter it t i/\h.IsTuple t items) where
 live:=fun _ _ st=>let ⟨o,ho,_⟩:=st.1;⟨o,ho⟩
 frame:=fun _ _ _ cy hk=>(by obtain⟨⟨o,ho,r⟩,o2,jC,r2⟩:=cy;exact⟨⟨o,hk it ?E o ho,r⟩,o2,hk t ?E o2 jC,r2⟩)
 item:=fun i s Q E hi st hQ=>V0y st.1 st.2 (x:=items[i]) (by simp[hi]) fun h' ka lS=>hQ _ h' s.toks (by simp[hi]) ⟨ka,st.2.extBut lS.extBut dM⟩ lS
 done:=fun s Q E st hE=>V0z hh st.1 st.2 ?E hE
open AutoSeq1 (wpAny_loadPart') in
def W6m (t:Ap)(items:Array An):
  Meets (Builtin.«enumerate.__new__» ⟨[.type "enumerate",.ref t],[]⟩) (fun _ R s=>s.heap.IsTuple t items /\
   R (.ok (.ret (.ref (s.heap.push {cls:=.type "tuple_iterator",data:=.fields #[.ref t,.int 0 0]}).objs.size)))
    {s with heap:=(s.heap.push {cls:=.type "tuple_iterator",data:=.fields #[.ref t,.int 0 0]}).push {cls:=.type "enumerate",data:=.fields #[.none,.bool false,.ref s.heap.objs.size,rawInt 0,.none,.none]}}):=
 .of_wp fun prog w A R s h=>by
  obtain⟨hp,g,d,tk,os⟩:=s;obtain⟨hL,h⟩:=h;obtain⟨⟨c,zV,dt,sl⟩,hl,hc,n,hd⟩:=id hL
  replace hc:c=.type "tuple":=hc
  replace hd:dt=.seq items n:=hd
  subst hc hd;have hL:Heap.IsTuple (Shared.heap ⟨hp,g,d,tk,os⟩) t items:=hL;have iL:=sub_enumerate
  wp_walk using wpAny_loadPart' hl
  refine wpAny_stack_any fun st=>am ?_;split
  ·rename_i c _ _ _ _ _;cases (c==Value.type "enumerate")<;>(wp_walk using wpAny_loadPart' hl,fO hL)<;>exact⟨_,rfl,h⟩
  ·wp_walk using wpAny_loadPart' hl,fO hL
   exact⟨_,rfl,h⟩
section
variable {w:Av}
def Y2g {t:Ap}   (ht:s.heap.IsTuple t items)
  (h:∀h',IsEnum h' (s.heap.objs.size+1) s.heap.objs.size 0 .none->h'.IsTupleIter s.heap.objs.size t 0->h'.objs.size=s.heap.objs.size+2->(∀b o,?A6=?P->h'.get? b=?P)->Q (.ref (s.heap.objs.size+1)) {s with heap:=h'}):
  wpAny ?R A (call (.type "enumerate") [.ref t]) Q E s:=by
 refine callType_new F.called_enumerate (?G) (F.typeCall_enumerate_1 _) (F.newCall_enumerate_1 _) (fun obj=>F.args_object_init_2 obj _) F.entry_enumerate_new (W6m t items) ⟨ht,?_⟩;have hz:(s.heap.push {cls:=.type "tuple_iterator",data:=.fields #[.ref t,.int 0 0]}).objs.size=s.heap.objs.size+1:=bC ..;have he:IsEnum ((s.heap.push {cls:=.type "tuple_iterator",data:=.fields #[.ref t,.int 0 0]}).push {cls:=.type "enumerate",data:=.fields #[.none,.bool false,.ref s.heap.objs.size,rawInt 0,.none,.none]}) (s.heap.objs.size+1) s.heap.objs.size 0 .none:=by
  have e:=aG (s.heap.push {cls:=.type "tuple_iterator",data:=.fields #[.ref t,.int 0 0]}) (o:={cls:=.type "enumerate",data:=.fields #[.none,.bool false,.ref s.heap.objs.size,rawInt 0,.none,.none]}) rfl;rw[hz]at e;exact e
 rw[hz];exact⟨⟨_,he,rfl⟩,h _ he ⟨_,af _ (aG _ rfl),rfl,rfl⟩ (by rw[bC,hz]) fun b o x=>af _ (af _ x)⟩
end
def Iet (K:Fg9)(l:Ap):It:=⟨fun i H=>∃xs x,D9 K H l xs/\xs[i]?=some x,fun i H v H'=>∃T x,(∀xs,D9 K H l xs->xs[i]?=some x)/\H T=none/\v=.ref T/\H'=A9 H T (.tup [.int (i:Int),x]),fun i H=>∃xs,D9 K H l xs/\xs.length=i⟩
theorem W0a {w:Av}{K:Fg9}   {pt:Pos}  (dM:en≠it)(ij:l≠en)(oQ:l≠it):
  Q1h P w K (.Tuple gN kk pt) (Iet K l) [en,it] en (fun i h=>(∃old,IsEnum h en it i old)/\h.IsTupleIter it l i) where
 mem:=by simp
 obj:=fun i h st b hb=>by
  obtain⟨⟨old,he⟩,o,ho,_,d⟩:=st;rcases ar.mp hb with rfl |hb
  ·exact⟨_,he,fun v z=>by cases z⟩
  ·have e:b=it:=by simpa using hb
   subst e;exact⟨o,ho,fun v z=>by rw[d]at z;cases z⟩
 keep:=fun i h h' cR k=>(by obtain⟨⟨old,he⟩,o,ho,r⟩:=cR;exact⟨⟨old,k en ?E _ he⟩,o,k it ?E o ho,r⟩)
 item:=by
  back_in;obtain⟨xs,x,hq,hx⟩:=hg;obtain⟨aY,rv,p,hz⟩:=I.tuple hq;have W:=g7 (Z4n (P:=X.prog) (w:=X.w) (A:=X.A.in1) (show X.A.in1.handled=none from I.ok.hd hc) it l oQ aY.toArray) en dM (by simp;exact⟨dM,fun z=>ij z.symm⟩) ?E;obtain⟨u,hu,ru⟩:=rv.get hx;have cm:i<aY.toArray.size:=by
   rcases b7 i aY.length with h |h
   ·simpa using h
   ·rw[az.mpr h]at hu;cases hu
  refine W.item i s _ _ cm ⟨st.1,st.2,p⟩ fun T je h' tk hv hT p6 lP k=>?_;obtain⟨t1,y,hy,rfl⟩:=hv;have ey:y=u:=by
   have:aY[i]?=some y:=by simpa using hy
   rw[hu]at this;exact(aC this).symm
  subst ey;refine⟨_,rfl,W.go gN kk pt i T {s with heap:=h',toks:=tk} _ _ lP fun h2 fJ k2=>?_⟩;have mG:∀b o,b∉[en,it]->?A6=?P->h2.get? b=?P:=fun b o hb e=>k2 b o hb (k b o hb e);have lZ:=W.apart i T h' lP;have iR:IsTup h2 T ([Value.int (i:Int) t1,y]).toArray:=by
   obtain⟨o,ho,r⟩:=p6;exact⟨o,k2 T o lZ ho,r⟩
  have I2:=Z1z (t':=tk) (xs:=[.int (i:Int),x]) I mG hf hT iR (.cons ⟨t1,rfl⟩ (.cons ru .nil)) (by show 2<=sizeLine;decide);refine⟨.ref T,_,I2,rfl,⟨T,x,fun ys hy=>by rw[I.tuple_inj hy hq];exact hx,I.hok.fresh hT,rfl,rfl⟩,⟨fJ.1,fJ.2.1⟩,fun b hb=>?_⟩;rw[B2 (show b≠T from fun z=>lZ (by rw[<-z];exact hb))];exact(hf b hb).1
 done:=by
  back_in;obtain⟨xs,hq,hx⟩:=hg;obtain⟨aY,rv,p,hz⟩:=I.tuple hq;have W:=g7 (Z4n (P:=X.prog) (w:=X.w) (A:=X.A.in1) (show X.A.in1.handled=none from I.ok.hd hc) it l oQ aY.toArray) en dM (by simp;exact⟨dM,fun z=>ij z.symm⟩) ?E;have hl:=rv.length;have e:i=aY.toArray.size:=by simp;lia
  subst e;exact W.done s _ _ ⟨st.1,st.2,p⟩ fun h' tk k=>⟨rfl,Q7o I k hf⟩
 self:=fun A i s Q E dF h=>(by obtain⟨⟨old,he⟩,_⟩:=dF;exact cw he h)
def Z2x {K:Fg9}    {ds:O D}(hq:H l=some (.tup xs))(al:AllS K H ds xs):Yl K H0 (Iet K l) (J9 ds) H where
 go:=fun H' k s i hi=>by
  rw[Q4d]at hi;exact⟨xs,xs[i]'(by rw[<-al.length];exact hi),D9.of (k.tup _ _ hq),ac _⟩
 yld:=fun H' k s i v eR d hd fM=>by
  obtain⟨T,x,hx,hT,hv,hH⟩:=fM;subst hH hv;refine⟨G7 hT _,?_⟩;obtain⟨y,hy,rfl⟩:=Z0k hd;obtain⟨v,hv,q⟩:=al.get hy;rw[hx xs (D9.of (k.tup _ _ hq))]at hv;cases hv;exact A2.s_tup upd_same (AllS.cons Q1g (AllS.cons (q.mono (k.trans (Kp.of (G7 hT _))) _ _) AllS.nil))
 stop:=fun H' k s=>⟨xs,D9.of (k.tup _ _ hq),by rw[Q4d];exact al.length.symm⟩
def J0r {K:Fg9}  :Yl K H0 (Ies x) (J9 (K0 x)) H where
 go:=fun H' _ _ i hi=>(Z9q (K:=K) (H:=H')).go H' (A5.refl _) i hi
 yld:=fun H' _ _ i v eR d hd h=>(Z9q (K:=K) (H:=H')).yld H' (A5.refl _) i v eR d hd h
 stop:=fun H' _ _=>(Z9q (K:=K) (H:=H')).stop H' (A5.refl _)
section
variable {a:Aq}
def Q6l (wr:WA):WI:=fun τ Q=>wr τ fun rs=>(∃x,rs=[.st (.str x)]/\Q (J9 (K0 x)) τ)\/∃ds,rs=[.st (.tup ds)]/\Q (J9 ds) τ
def DI.enumX {pt:Pos}(hg:Gl X "enumerate")(hm:X.mg "enumerate"=none)(hv:bootBuiltins "enumerate"=some (.type "enumerate"))(ha:DA X H0 [a] wr)(he:starEach [a] X.env=(false,eval a X.env)::starEach [] X.env:=by rfl)(hpl:(backTo pos (starEach [] X.env)).any (·.1)=false:=by rfl):
  DI X H0 (.Tuple gN kk pt) (.Call (.Name "enumerate" p) [a] [] pos) (Q6l wr) where
 mono:=fun τ P Q f h=>ha.mono τ _ _ (fun r h=>h.imp (fun⟨x,e1,q⟩=>⟨x,e1,f _ _ q⟩) fun⟨ds,e1,q⟩=>⟨ds,e1,f _ _ q⟩) h
 pi:=by
  intro ae s σ H R I ⟨τ,hR,h⟩;refine bn (Q1k I hg hm hv ?_ (?G) (?G));refine bb (B3 (ha.pa pos ae s σ H (fun vs H1=>A5 H H1/\((∃x,vs=[.str x]/\∀J H',Kp H H'->C1 X.K H0 τ σ H'->Yl X.K H0 J (J9 (K0 x)) H'->R J H') \/
    ∃l xs ds,vs=[.ref l]/\H1 l=some (.tup xs)/\AllS X.K H1 ds xs/\∀J H',Kp H H'->C1 X.K H0 τ σ H'->Yl X.K H0 J (J9 ds) H'->R J H')) I
   ⟨τ,hR,ha.mono τ _ _ (fun rs h vs H1 s1 dA=>⟨s1,?_⟩) h⟩) fun us s1 ⟨vs,H1,I1,rv,sm,hh⟩=>?_) he hpl
  ·rcases h with⟨x,e1,q⟩ |⟨ds,e1,q⟩
   ·subst e1;obtain⟨v,rfl,ir⟩:=Z6 dA;cases (show v=.str x from ir);exact .inl ⟨x,rfl,q⟩
   ·subst e1;obtain⟨v,rfl,ir⟩:=Z6 dA;have ir:A2 X.K H1 (.tup ds) v:=ir;unfold A2 at ir;obtain⟨l,xs,rfl,sq,al⟩:=ir;exact .inr ⟨l,xs,ds,rfl,sq,al,q⟩
  ·have big:∀b∈[s1.heap.objs.size+1,s1.heap.objs.size],N3 X ae H1 b:=fun b hb=>by
    have hb:s1.heap.objs.size<=b:=by
     rcases ar.mp hb with rfl |hb
     ·exact eD _
     ·have e:b=s1.heap.objs.size:=by simpa using hb
      rw[e];exact ak _
    exact I1.fpOk hb (I1.hok.fresh hb)
   rcases hh with⟨x,rfl,q⟩ |⟨l,xs,ds,rfl,sq,al,q⟩
   ·obtain⟨u,rfl,ru⟩:=Z2 rv;obtain⟨t,rfl⟩:=ru;refine call_enumerate_str fun h' he hi hz k=>?_;exact cw he ⟨s1.heap.objs.size+1,[s1.heap.objs.size+1,s1.heap.objs.size],_,_,H1,rfl,I1.kept (t':=s1.toks) k,V9j (x:=x) (t:=t) (dX _),⟨⟨_,he⟩,hi⟩,big,q _ _ (Kp.of sm) (hR.mono sm) J0r⟩
   ·obtain⟨u,rfl,ru⟩:=Z2 rv;cases (show u=Value.ref l from ru);obtain⟨aY,iy,pl,kZ⟩:=I1.tuple (D9.of sq);have hl:l<s1.heap.objs.size:=by obtain⟨o,ho,_⟩:=pl;exact aA ho
    refine Y2g pl fun h' he hi hz k=>?_;exact cw he ⟨s1.heap.objs.size+1,[s1.heap.objs.size+1,s1.heap.objs.size],_,_,H1,rfl,I1.kept (t':=s1.toks) k,W0a (l:=l) (dX _) (aB (bt hl)) (aB hl),⟨⟨_,he⟩,hi⟩,big,q _ _ (Kp.of sm) (hR.mono sm) (Z2x sq al)⟩
@[simp] theorem Y7y {Q:O D->C3->Prop}:Q6l wr τ Q=wr τ fun rs=>(∃x,rs=[.st (.str x)]/\Q (J9 (K0 x)) τ)\/∃ds,rs=[.st (.tup ds)]/\Q (J9 ds) τ:=rfl
end
def J0w {K:Fg9}    {ds:O D}(hq:H l=some (.tup xs))(al:AllS K H ds xs):YlS K (Iet K l) (J9 ds) H where
 go:=fun H' s i hi=>(Z2x (H0:=H) hq al).go H' (Kp.of s) s i hi
 yld:=fun H' s i v eR d hd h=>(Z2x (H0:=H) hq al).yld H' (Kp.of s) s i v eR d hd h
 stop:=fun H' s=>(Z2x (H0:=H) hq al).stop H' (Kp.of s) s
section
variable {a:Aq}
def V5:R->Am (O D)
 |.st (.tup ds)=>some ds
 |r=>Y4 r
def Z0q (wr:WA):WIE:=fun τ Q=>wr τ fun rs=>∃r ds,rs=[r]/\V5 r=some ds/\Q (J9 ds)
def L7.enumX {pt:Pos}(hg:Gl X "enumerate")(hm:X.mg "enumerate"=none)(hv:bootBuiltins "enumerate"=some (.type "enumerate"))(ha:DA X H0 [a] wr)(he:starEach [a] X.env=(false,eval a X.env)::starEach [] X.env:=by rfl)(hpl:(backTo pos (starEach [] X.env)).any (·.1)=false:=by rfl):
  L7 X H0 (.Tuple gN kk pt) (.Call (.Name "enumerate" p) [a] [] pos) (Z0q wr) where
 mono:=fun τ P Q f h=>ha.mono τ _ _ (fun r⟨r',ds,e1,e2,q⟩=>⟨r',ds,e1,e2,f _ q⟩) h
 pi:=by
  intro ae s σ H R I ⟨τ,hR,h⟩;refine bn (Q1k I hg hm hv ?_ (?G) (?G));refine bb (B3 (ha.pa pos ae s σ H (fun vs H1=>A5 H H1/\((∃l xs ds,vs=[.ref l]/\H1 l=some (.tup xs)/\AllS X.K H1 ds xs/\∀J H',A5 H H'->YlS X.K J (J9 ds) H'->R J H')\/∃l xs ds,vs=[.ref l]/\E8 X.K H1 l xs/\AllS X.K H1 ds xs/\∀J H',A5 H H'->YlS X.K J (J9 ds) H'->R J H')) I
   ⟨τ,hR,ha.mono τ _ _ (fun rs h vs H1 s1 dA=>⟨s1,?_⟩) h⟩) fun us s1 ⟨vs,H1,I1,rv,sm,hh⟩=>?_) he hpl
  ·obtain⟨r,ds,e1,e2,q⟩:=h;subst e1;obtain⟨v,rfl,ir⟩:=Z6 dA
   by_cases ht:∃es,r=.st (.tup es)
   ·obtain⟨es,rfl⟩:=ht;cases e2;have ir:A2 X.K H1 (.tup ds) v:=ir;unfold A2 at ir;obtain⟨l,xs,rfl,sq,al⟩:=ir;exact .inl ⟨l,xs,ds,rfl,sq,al,q⟩
   ·have e2:Y4 r=some ds:=by
     unfold V5 at e2;split at e2
     ·exact absurd ⟨_,rfl⟩ ht
     ·exact e2
    obtain⟨l,xs,rfl,sq,al⟩:=Q5j e2 ir;exact .inr ⟨l,xs,ds,rfl,sq,al,q⟩
  ·have big:∀b∈[s1.heap.objs.size+1,s1.heap.objs.size],N3 X ae H1 b:=fun b hb=>by
    have hb:s1.heap.objs.size<=b:=by
     rcases ar.mp hb with rfl |hb
     ·exact eD _
     ·have e:b=s1.heap.objs.size:=by simpa using hb
      rw[e];exact ak _
    exact I1.fpOk hb (I1.hok.fresh hb)
   rcases hh with⟨l,xs,ds,rfl,sq,al,q⟩ |⟨l,xs,ds,rfl,sq,al,q⟩
   ·obtain⟨u,rfl,ru⟩:=Z2 rv;cases (show u=Value.ref l from ru);obtain⟨aY,iy,pl,kZ⟩:=I1.tuple (D9.of sq);have hl:l<s1.heap.objs.size:=by obtain⟨o,ho,_⟩:=pl;exact aA ho
    refine Y2g pl fun h' he hi hz k=>?_;exact cw he ⟨s1.heap.objs.size+1,[s1.heap.objs.size+1,s1.heap.objs.size],_,_,H1,rfl,I1.kept (t':=s1.toks) k,W0a (l:=l) (dX _) (aB (bt hl)) (aB hl),⟨⟨_,he⟩,hi⟩,big,q _ _ sm (J0w sq al)⟩
   ·obtain⟨u,rfl,ru⟩:=Z2 rv;cases (show u=Value.ref l from ru);obtain⟨aY,iy,pl,kZ⟩:=I1.list sq;obtain⟨o,n,ho,_⟩:=id pl;have hl:l<s1.heap.objs.size:=aA ho;refine call_enumerate_list pl.isList fun h' he hi hz k=>?_;refine cw he ⟨s1.heap.objs.size+1,[s1.heap.objs.size+1,s1.heap.objs.size],_,_,H1,rfl,I1.kept (t':=s1.toks) k,Y9z (l:=l) (dX _) (aB (bt hl)) (aB hl),⟨⟨_,he⟩,hi⟩,big,q _ _ sm (J0v sq al)⟩
@[simp] theorem Y8b {Q:O D->Prop}:Z0q wr τ Q=wr τ fun rs=>∃r ds,rs=[r]/\V5 r=some ds/\Q (J9 ds):=rfl
end
def V8b {K:Fg9}  {r:R}{ds:O D}{v:V}(e:V5 r=some ds)(h:E7 K H0 H r v):∃a xs,v=.ref a/\(E8 K H a xs\/D9 K H a xs)/\AllS K H ds xs:=by
 by_cases ht:∃es,r=.st (.tup es)
 ·obtain⟨es,rfl⟩:=ht;cases e;have h:A2 K H (.tup ds) v:=h;unfold A2 at h;obtain⟨l,xs,rfl,sq,al⟩:=h;exact⟨l,xs,rfl,.inr (D9.of sq),al⟩
 ·have e2:Y4 r=some ds:=by
   unfold V5 at e;split at e
   ·exact absurd ⟨_,rfl⟩ ht
   ·exact e
  obtain⟨l,xs,rfl,sq,al⟩:=Q5j e2 h;exact⟨l,xs,rfl,.inl sq,al⟩
structure Q3w (z TI TO i1 i2:Ap)(kH kG:O Ap):Prop where
 tiz:TI≠z
 toz:TO≠z
 i1z:i1≠z
 i2z:i2≠z
 tito:TI≠TO
 ti1:TI≠i1
 ti2:TI≠i2
 to1:TO≠i1
 to2:TO≠i2
 i12:i1≠i2
 f1:∀b∈kH,b≠z/\b≠TO/\b≠i2
 f2:∀b∈kG,b≠z/\b≠TO/\b≠i1
abbrev IsZ (h:Heap)(z TI TO:Ap)(f0:An)(f:Bool):Prop:=
 h.get? z=some {cls:=.type "zip",dict:=none,data:=.fields #[f0,.bool f,.bool false,.ref TI,.ref TO],slots:=#[]}
def Q0s (h:Heap)(z TI TO:Ap):Prop:=∃f0 f,IsZ h z TI TO f0 f/\(f0=.none\/∃T:Ap,f0=rawInt T)
section
variable {w:Av}{TI TO:Ap}{kH kG:O Ap}{n1 n2 k:Nat}{P1 P2:Nat->An->Prop}{S1 S2:Nat->Heap->Prop}{a b:An}
def U9 {i:Nat}{Q:Nat->An->Prop}{S:Nat->Heap->Prop}(D:Draws P w A it fp n Q S)  {c:Ap}(st:S i h)(sb:Heap.ExtBut c h h')(hc:∀b∈fp,b≠c):S i h':=D.frame _ _ _ st fun b hb o e=>sb b o (hc b hb) e
def W1s {Q:Bool->Ao->Prop}(hz:Q0s s.heap z TI TO)(h1:∀f0 f,IsZ s.heap z TI TO f0 f->Q true s)(h2:∀h' (T:Ap),IsZ h' z TI TO (rawInt T) true->Heap.SameBut z s.heap h'->Q false {s with heap:=h'}):
  wpAny ?R A (Builtin.SmallTypes.ownedTupleIsFree (.ref z)) Q E s:=by
 obtain⟨f0,f,hz,rfl |⟨T,rfl⟩⟩:=hz
 ·unfold Builtin.SmallTypes.ownedTupleIsFree;exact aa (bu hz rfl (x:=.none) rfl (am (h1 _ _ hz)))
 ·unfold Builtin.SmallTypes.ownedTupleIsFree;refine aa (bu hz rfl (x:=rawInt T) rfl ?_)
  change wpAny ?R A (loadIfAlive ((T:Int).toNat)>>=_) _ _ _
  rw[bL];refine aa ?_;cases e:s.heap.get? T with
  |none=>
   have tO:∀{Q:Am Obj->Ao->Prop},Q none s->wpAny ?R A (loadIfAlive T) Q E s:=fun {Q} h=>by
    have h':Q (s.heap.get? T) s:=by rw[e];exact h
    exact fun _ _ _=>h'
   refine tO ?_;rw[aO (show(none:Am Obj).isNone=true from rfl)];exact am (h1 _ _ hz)
  |some o=>
   refine PySem.W.kdx_alive e ?_;rw[aI ?E];refine aa (bu hz rfl (x:=.bool f) rfl ?_);cases f with
   |true=>
    rw[aI (?G)];exact am (h2 s.heap T hz (g8 _ _))
   |false=>
    rw[aO (?G)];exact aa (cg hz ?E fun h₃ y4 xx=>am (h2 h₃ T y4 xx))
def J1d (Z:Q3w z TI TO i1 i2 kH kG)(D1:Draws P w A i1 kH n1 P1 S1)(D2:Draws P w A i2 kG n2 P2 S2)(oA:Q0s s.heap z TI TO)(jr:IsPair s.heap TI (.ref i1) (.ref i2))(j6:IsPair s.heap TO a b)(h1:S1 k s.heap)(h2:S2 k s.heap)(l1:k<n1)(l2:k<n2)
  (hQ:∀h' tk x y,P1 k x->P2 k y->Q0s h' z TI TO->(∃a b,IsPair h' TO a b)->S1 (k+1) h'->S2 (k+1) h'->IsPair h' s.heap.objs.size x y->h'.objs.size=s.heap.objs.size+1->(∀c o,c≠z->c≠TO->c≠i1->c≠i2->s.heap.get? c=?P->h'.get? c=?P)->Q (.ref s.heap.objs.size) {s with heap:=h',toks:=tk}):
  wpAny ?R A (Builtin.«zip.__next__» ⟨[.ref z],[]⟩) (fun fin s'=>∃v,fin=.done (.ret v)/\Q v s') E s:=by
 obtain⟨f0,f,hz,hf⟩:=id oA
 change wpAny ?R A (field (.ref z) 2>>=_) _ _ s
 refine aa (bu hz rfl (x:=Value.bool false) rfl ?_)
 change wpAny ?R A (field (.ref z) 3>>=_) _ _ s
 refine aa (bu hz rfl (x:=.ref TI) rfl (aa (cu jr rfl ?_)))
 change wpAny ?R A (Builtin.SmallTypes.ownedTupleIsFree (.ref z)>>=_) _ _ s
 refine aa (W1s oA (fun f0 f hz=>?_) fun g₁ T jW gq=>?_)
 ·rw[aO rfl];refine aa (dw (aa (bu hz rfl (x:=.ref TO) rfl (aa (cg hz ?E fun g₁ jW gq=>?_)))));have jW:IsZ g₁ z TI TO .ellipsis f:=jW;refine aa ?_;simp only[cI,List.zipIdx_nil,bY,gu];refine aa (aa (jI ?_))
  change wpAny ?R A (Builtin.SmallTypes.nextOf (.ref i1)>>=_) _ _ _
  refine aa (D1.item k _ _ _ l1 (U9 D1 h1 gq.extBut fun b hb=>(Z.f1 b hb).1) fun x g₂ qW px pq gg=>am ?_);have kh:IsPair g₂ TO a b:=gg.extBut _ _ Z.to1 (gq.extBut _ _ Z.toz j6);refine aa (cu kh rfl (aa (iB kh fun g₃ lp gF=>aa (iV (am ?_)))));have lp:IsPair g₃ TO x b:=lp;refine aa (aa (jI ?q))
  change wpAny ?R A (Builtin.SmallTypes.nextOf (.ref i2)>>=_) _ _ _
  have pk:S2 k g₃:=U9 D2 (U9 D2 (U9 D2 h2 gq.extBut fun b hb=>(Z.f2 b hb).1) gg.extBut fun b hb=>(Z.f2 b hb).2.2) gF.extBut fun b hb=>(Z.f2 b hb).2.1;refine aa (D2.item k _ _ _ l2 pk fun y g₄ w9 py yu lI=>am ?_);have p4:IsPair g₄ TO x b:=lI.extBut _ _ Z.to2 lp;refine aa (cu p4 rfl (aa (iB p4 fun g₅ ln lH=>aa (iV (am (am ?_))))));have ln:IsPair g₅ TO x y:=ln;refine aa (cu ln rfl (aa (wpAny_newTuple ?_)));have hsz:g₅.objs.size=s.heap.objs.size:=by rw[lH.1,lI.1,gF.1,gg.1,gq.1]
  have uC:IsZ g₅ z TI TO .ellipsis f:=lH.extBut _ _ Z.toz.symm (lI.extBut _ _ Z.i2z.symm (gF.extBut _ _ Z.toz.symm (gg.extBut _ _ Z.i1z.symm jW)));have xQ:∀c o,c≠z->c≠TO->c≠i1->c≠i2->s.heap.get? c=?P->g₅.get? c=?P:=fun c o c1 c2 c3 c4 e=>lH.extBut _ _ c2 (lI.extBut _ _ c4 (gF.extBut _ _ c2 (gg.extBut _ _ c3 (gq.extBut _ _ c1 e))));have yw:S1 (k+1) g₅:=U9 D1 (U9 D1 (U9 D1 pq gF.extBut fun b hb=>(Z.f1 b hb).2.1) lI.extBut fun b hb=>(Z.f1 b hb).2.2) lH.extBut fun b hb=>(Z.f1 b hb).2.1;have yt:S2 (k+1) g₅:=U9 D2 yu lH.extBut fun b hb=>(Z.f2 b hb).2.1;have oB:z<g₅.objs.size:=aA uC
  change wpAny ?R A (Builtin.SmallTypes.ownedTupleHandOut (.ref z) (Value.ref g₅.objs.size)>>=_) _ _ _
  refine aa ?_;unfold Builtin.SmallTypes.ownedTupleHandOut;refine aa (cg (af _ uC:IsZ (g₅.push {cls:=.type "tuple",data:=.seq #[x,y]}) z TI TO .ellipsis f) ?E fun g₇ rR qZ=>?_);have rR:IsZ g₇ z TI TO (rawInt g₅.objs.size) f:=rR;refine cg rR ?E fun g₈ qg qY=>am ⟨_,rfl,?_⟩;have qg:IsZ g₈ z TI TO (rawInt g₅.objs.size) false:=qg;have up:∀c o,c≠z->g₅.get? c=?P->g₈.get? c=?P:=fun c o c1 e=>qY.extBut _ _ c1 (qZ.extBut _ _ c1 (af _ e));have uV:IsPair g₈ g₅.objs.size x y:=qY.extBut _ _ (nX oB) (qZ.extBut _ _ (nX oB) (aG _ rfl));rw[hsz]at qg uV;have goal:=hQ g₈ w9 x y px py ⟨_,_,qg,.inr ⟨_,rfl⟩⟩ ⟨_,_,up _ _ Z.toz ln⟩ (D1.frame _ _ _ yw fun b hb o e=>up b o (Z.f1 b hb).1 e) (D2.frame _ _ _ yt fun b hb o e=>up b o (Z.f2 b hb).1 e) uV (by rw[qY.1,qZ.1,bC,hsz]) fun c o c1 c2 c3 c4 e=>up c o c1 (xQ c o c1 c2 c3 c4 e);rw[<-hsz]at goal;exact goal
 ·rw[aI (?G)];refine aa ?_;rw[<-eY];rw[bY];refine aa (aa (bD ?_))
  change wpAny ?R A (Builtin.SmallTypes.nextOf (.ref i1)>>=fun x=>pure (some x)) _ _ _
  refine aa (D1.item k _ _ _ l1 (U9 D1 h1 gq.extBut fun b hb=>(Z.f1 b hb).1) fun x g₂ qW px pq gg=>am (am ?_));dsimp only;rw[bY];refine aa (aa (bD ?_))
  change wpAny ?R A (Builtin.SmallTypes.nextOf (.ref i2)>>=fun x=>pure (some x)) _ _ _
  have tI:S2 k g₂:=U9 D2 (U9 D2 h2 gq.extBut fun b hb=>(Z.f2 b hb).1) gg.extBut fun b hb=>(Z.f2 b hb).2.2;refine aa (D2.item k _ _ _ l2 tI fun y g₃ wj py pk gF=>am (am ?_));dsimp only;rw[gu];refine am (aa (wpAny_newTuple (am ⟨_,rfl,?_⟩) (hsz:=by show 2<=sizeLine;decide)));have sz:g₃.objs.size=s.heap.objs.size:=by rw[gF.1,gg.1,gq.1]
  have up:∀c o,c≠z->c≠i1->c≠i2->s.heap.get? c=?P->g₃.get? c=?P:=fun c o c1 c2 c3 e=>gF.extBut _ _ c3 (gg.extBut _ _ c2 (gq.extBut _ _ c1 e));have x8:IsZ g₃ z TI TO (rawInt T) true:=gF.extBut _ _ Z.i2z.symm (gg.extBut _ _ Z.i1z.symm jW);have yx:S1 (k+1) g₃:=U9 D1 pq gF.extBut fun b hb=>(Z.f1 b hb).2.2;have goal:=hQ (g₃.push {cls:=.type "tuple",data:=.seq #[x,y]}) wj x y px py ⟨_,_,af _ x8,.inr ⟨_,rfl⟩⟩ ⟨_,_,af _ (up _ _ Z.toz Z.to1 Z.to2 j6)⟩ (D1.frame _ _ _ yx fun b hb o e=>af _ e) (D2.frame _ _ _ pk fun b hb o e=>af _ e)
   (by
    have e:(g₃.push {cls:=.type "tuple",data:=.seq #[x,y]}).get? g₃.objs.size=some {cls:=.type "tuple",data:=.seq #[x,y]}:=aG _ rfl;rw[sz]at e;exact e) (by rw[bC,sz]) fun c o c1 _ c3 c4 e=>af _ (up c o c1 c3 c4 e)
  rw[<-sz]at goal;exact goal
def J1c {Q:Fin->Ao->Prop}(Z:Q3w z TI TO i1 i2 kH kG)(D1:Draws P w A i1 kH n1 P1 S1)(D2:Draws P w A i2 kG n2 P2 S2)(oA:Q0s s.heap z TI TO)(jr:IsPair s.heap TI (.ref i1) (.ref i2))(j6:IsPair s.heap TO a b)(h1:S1 k s.heap)(h2:S2 k s.heap)(hk:k=n1\/(k<n1/\k=n2))
  (hE:∀h' tk e,(∀c o,c≠z->c≠TO->c≠i1->c≠i2->s.heap.get? c=?P->h'.get? c=?P)->(∃o,h'.get? e=?P/\o.cls=.type "StopIteration")->E (.ref e) {s with heap:=h',toks:=tk}):
  wpAny ?R A (Builtin.«zip.__next__» ⟨[.ref z],[]⟩) Q E s:=by
 obtain⟨f0,f,hz,hf⟩:=id oA
 change wpAny ?R A (field (.ref z) 2>>=_) _ _ s
 refine aa (bu hz rfl (x:=Value.bool false) rfl ?_)
 change wpAny ?R A (field (.ref z) 3>>=_) _ _ s
 refine aa (bu hz rfl (x:=.ref TI) rfl (aa (cu jr rfl ?_)))
 change wpAny ?R A (Builtin.SmallTypes.ownedTupleIsFree (.ref z)>>=_) _ _ s
 refine aa (W1s oA (fun f0 f hz=>?_) fun g₁ T jW gq=>?_)
 ·rw[aO rfl];refine aa (dw (aa (bu hz rfl (x:=.ref TO) rfl (aa (cg hz ?E fun g₁ jW gq=>?_)))));have jW:IsZ g₁ z TI TO .ellipsis f:=jW;refine aa ?_;simp only[cI,List.zipIdx_nil,bY,gu];refine aa (aa (jI ?_))
  change wpAny ?R A (Builtin.SmallTypes.nextOf (.ref i1)>>=_) _ _ _
  have pz:S1 k g₁:=U9 D1 h1 gq.extBut fun b hb=>(Z.f1 b hb).1;rcases hk with hk |⟨cm,hk⟩
  ·subst hk;refine aa (D1.done _ _ _ pz fun g₂ e gg he=>?_);obtain⟨oe,mR,oU⟩:=he;have uE:IsZ g₂ z TI TO .ellipsis f:=gg _ _ Z.i1z.symm jW;have sR:e≠z:=fun q=>by subst q;rw[uE]at mR;cases mR;simp at oU
   exact cg uE ?E fun g₃ _ gF=>hE g₃ _ e (fun c o c1 _ c3 _ x=>gF.extBut _ _ c1 (gg _ _ c3 (gq.extBut _ _ c1 x))) ⟨oe,gF.extBut _ _ sR mR,oU⟩
  ·refine aa (D1.item k _ _ _ cm pz fun x g₂ qW px pq gg=>am ?_);have kh:IsPair g₂ TO a b:=gg.extBut _ _ Z.to1 (gq.extBut _ _ Z.toz j6);refine aa (cu kh rfl (aa (iB kh fun g₃ lp gF=>aa (iV (am ?_)))));refine aa (aa (jI ?q))
   change wpAny ?R A (Builtin.SmallTypes.nextOf (.ref i2)>>=_) _ _ _
   have pk:S2 k g₃:=U9 D2 (U9 D2 (U9 D2 h2 gq.extBut fun b hb=>(Z.f2 b hb).1) gg.extBut fun b hb=>(Z.f2 b hb).2.2) gF.extBut fun b hb=>(Z.f2 b hb).2.1;subst hk;refine aa (D2.done _ _ _ pk fun g₄ e lI he=>?_);obtain⟨oe,mR,oU⟩:=he;have uD:IsZ g₄ z TI TO .ellipsis f:=lI _ _ Z.i2z.symm (gF.extBut _ _ Z.toz.symm (gg.extBut _ _ Z.i1z.symm jW));have sR:e≠z:=fun q=>by subst q;rw[uD]at mR;cases mR;simp at oU
   exact cg uD ?E fun g₅ _ lH=>hE g₅ _ e (fun c o c1 c2 c3 c4 x=>lH.extBut _ _ c1 (lI _ _ c4 (gF.extBut _ _ c2 (gg.extBut _ _ c3 (gq.extBut _ _ c1 x))))) ⟨oe,lH.extBut _ _ sR mR,oU⟩
 ·rw[aI (?G)];refine aa ?_;rw[<-eY];rw[bY];refine aa (aa (bD ?_))
  change wpAny ?R A (Builtin.SmallTypes.nextOf (.ref i1)>>=fun x=>pure (some x)) _ _ _
  have pz:S1 k g₁:=U9 D1 h1 gq.extBut fun b hb=>(Z.f1 b hb).1;rcases hk with hk |⟨cm,hk⟩
  ·subst hk;exact aa (D1.done _ _ _ pz fun g₂ e gg he=>hE g₂ _ e (fun c o c1 _ c3 _ x=>gg _ _ c3 (gq.extBut _ _ c1 x)) he)
  ·refine aa (D1.item k _ _ _ cm pz fun x g₂ qW px pq gg=>am (am ?_));dsimp only;rw[bY];refine aa (aa (bD ?_))
   change wpAny ?R A (Builtin.SmallTypes.nextOf (.ref i2)>>=fun x=>pure (some x)) _ _ _
   have tI:S2 k g₂:=U9 D2 (U9 D2 h2 gq.extBut fun b hb=>(Z.f2 b hb).1) gg.extBut fun b hb=>(Z.f2 b hb).2.2;subst hk;exact aa (D2.done _ _ _ tI fun g₃ e gF he=>hE g₃ _ e (fun c o c1 _ c3 c4 x=>gF _ _ c4 (gg.extBut _ _ c3 (gq.extBut _ _ c1 x))) he)
def W1t {Q:Am An->Ao->Prop}(Z:Q3w z TI TO i1 i2 kH kG)(D1:Draws P w A.in1 i1 kH n1 P1 S1)(D2:Draws P w A.in1 i2 kG n2 P2 S2)(hz:Q0s s.heap z TI TO)(jr:IsPair s.heap TI (.ref i1) (.ref i2))(j6:IsPair s.heap TO a b)(h1:S1 k s.heap)(h2:S2 k s.heap)(l1:k<n1)(l2:k<n2)
  (hQ:∀h' tk x y,P1 k x->P2 k y->Q0s h' z TI TO->(∃a b,IsPair h' TO a b)->S1 (k+1) h'->S2 (k+1) h'->IsPair h' s.heap.objs.size x y->h'.objs.size=s.heap.objs.size+1->(∀c o,c≠z->c≠TO->c≠i1->c≠i2->s.heap.get? c=?P->h'.get? c=?P)->Q (some (.ref s.heap.objs.size)) {s with heap:=h',toks:=tk}):
  wpAny ?R A (pyNext (.ref z)) Q E s:=by
 have hT:s.TypeIs (.ref z) "zip":=let ⟨_,_,q,_⟩:=hz;⟨_,q,rfl⟩;unfold pyNext;exact aa (wpAny_attempt (bU (name:=Str.ofString "__next__") hT fq (ci fq hT F.entry_zip_next
  (J1d Z D1 D2 hz jr j6 h1 h2 l1 l2 fun h' tk x y a1 a2 a3 a4 a5 a6 a7 a8 a9=>am (hQ h' tk x y a1 a2 a3 a4 a5 a6 a7 a8 a9)) (F.args_zip_next_1 _))))
def W1u {Q:Am An->Ao->Prop}(Z:Q3w z TI TO i1 i2 kH kG)(D1:Draws P w A.in1 i1 kH n1 P1 S1)(D2:Draws P w A.in1 i2 kG n2 P2 S2)(hz:Q0s s.heap z TI TO)(jr:IsPair s.heap TI (.ref i1) (.ref i2))(j6:IsPair s.heap TO a b)(h1:S1 k s.heap)(h2:S2 k s.heap)(hk:k=n1\/(k<n1/\k=n2))
  (hQ:∀h' tk,(∀c o,c≠z->c≠TO->c≠i1->c≠i2->s.heap.get? c=?P->h'.get? c=?P)->Q none {s with heap:=h',toks:=tk}):wpAny ?R A (pyNext (.ref z)) Q E s:=by
 have hT:s.TypeIs (.ref z) "zip":=let ⟨_,_,q,_⟩:=hz;⟨_,q,rfl⟩;unfold pyNext;refine aa (wpAny_attempt (bU (name:=Str.ofString "__next__") hT fq (ci fq hT F.entry_zip_next (J1c Z D1 D2 hz jr j6 h1 h2 hk fun h' tk e kp he=>?_) (F.args_zip_next_1 _))));obtain⟨o,ho,hc⟩:=he;exact aa (wpAny_isInstance (T:="StopIteration") (b:=true) ⟨o,ho,hc⟩ isSubtype_stop (am (hQ _ _ kp)))
end
def SqB (b:Bool)(K:Fg9)(H:Hp)(l:Ap)(xs:O V):Prop:=match b with |true=>D9 K H l xs |false=>E8 K H l xs
def ItB (b:Bool)(h:Heap)(i l:Ap)(k:Nat):Prop:=match b with |true=>h.IsTupleIter i l k |false=>h.IsListIter i l k
def S3 (b:Bool)(h:Heap)(l:Ap)(a:Array An):Prop:=match b with |true=>h.IsTuple l a |false=>h.IsList l a
def itO (b:Bool)(l:Ap):Obj:={cls:=.type (match b with |true=>"tuple_iterator" |false=>"list_iterator"),data:=.fields #[.ref l,.int 0 0]}
section
variable {w:Av}{b:Bool}{i k:Ap}{as:Array An}{K:Fg9}
def SqB.same (s:A5 H H')(h:SqB b K H l xs):SqB b K H' l xs:=by
 cases b
 ·exact s.seq h
 ·exact(Kp.of s).sqT h
def Q7l (I:?A)(h:SqB b X.K H l xs):∃aY,C0 xs aY/\S3 b s.heap l aY.toArray/\xs.length<=sizeLine:=by
 cases b
 ·obtain⟨aY,rv,p,z⟩:=I.list h;exact⟨aY,rv,p.isList,z⟩
 ·obtain⟨aY,rv,p,z⟩:=I.tuple h;exact⟨aY,rv,p,z⟩
def Y8z (I:?A)(h1:SqB b X.K H l xs)(h2:SqB b X.K H l ys):xs=ys:=by
 cases b
 ·exact I.list_inj h1 h2
 ·exact I.tuple_inj h1 h2
def Q4c (b:Bool)(hh:A.handled=none)(i l:Ap)(dM:l≠i)(as:Array An):Draws P w A i [i,l] as.size (fun k v=>as[k]?=some v) (fun k h=>ItB b h i l k/\S3 b h l as):=by
 cases b
 ·exact Draws.list hh i l dM as
 ·exact Z4n hh i l dM as
def ItB.keep (t:ItB b h i l n)(k:∀o,h.get? i=?P->h'.get? i=?P):ItB b h' i l n:=by
 cases b<;>(obtain⟨o,e,r⟩:=t;exact⟨o,k o e,r⟩)
def ItB.obj (t:ItB b h i l n):∃o,h.get? i=?P/\∀v,o.data≠.cell v:=by
 cases b<;>(obtain⟨o,e,_,d⟩:=t;exact⟨o,e,fun v z=>by rw[d]at z;cases z⟩)
def S3.keep (t:S3 b h l as)(k:∀o,h.get? l=?P->h'.get? l=?P):S3 b h' l as:=by
 cases b<;>(obtain⟨o,e,r⟩:=t;exact⟨o,k o e,r⟩)
def S3.lt (t:S3 b h l as):@LT.lt Nat _ l h.objs.size:=by
 cases b<;>(obtain⟨o,e,r⟩:=t;exact aA e)
def Y4q (t:S3 b s.heap l as)(hQ:Q (.ref s.heap.objs.size) {s with heap:=s.heap.push (itO b l)}):wpAny ?R A (pyIter (.ref l)) Q E s:=by
 cases b
 ·exact wpAny_pyIter_list t hQ
 ·exact fO t hQ
def Y4o (e:h.get? i=some (itO b l)):ItB b h i l 0:=by cases b<;>exact⟨_,e,rfl,rfl⟩
end
abbrev zt1 (b1:Bool)(h:Heap)(l:Ap):Heap:=h.push (itO b1 l)
abbrev zt2 (b1 b2:Bool)(h:Heap)(l t:Ap):Heap:=(zt1 b1 h l).push (itO b2 t)
abbrev zt3 (b1 b2:Bool)(h:Heap)(l t:Ap):Heap:=(zt2 b1 b2 h l t).push {cls:=.type "tuple",data:=.seq #[.ref h.objs.size,.ref (zt1 b1 h l).objs.size]}
abbrev zt4 (b1 b2:Bool)(h:Heap)(l t:Ap):Heap:=(zt3 b1 b2 h l t).push {cls:=.type "tuple",data:=.seq #[.none,.none]}
abbrev zt5 (b1 b2:Bool)(h:Heap)(l t:Ap):Heap:=(zt4 b1 b2 h l t).push {cls:=.type "zip",data:=.fields #[.none,.bool false,.bool false,.ref (zt2 b1 b2 h l t).objs.size,.ref (zt3 b1 b2 h l t).objs.size]}
def J1a (b1 b2:Bool)(l t:Ap)(xs ys:Array An):
  Meets (Builtin.«zip.__new__» ⟨[.type "zip",.ref l,.ref t],[]⟩) (fun _ R s=>S3 b1 s.heap l xs/\S3 b2 s.heap t ys/\R (.ok (.ret (.ref (zt4 b1 b2 s.heap l t).objs.size))) {s with heap:=zt5 b1 b2 s.heap l t}):=
 Meets.of_wp fun prog w A R s h=>by
  obtain⟨hp,g,d,tk,os⟩:=s;obtain⟨kA,gR,h⟩:=h;have iL:=sub_zip;have yo:S3 b1 (Shared.heap ⟨hp,g,d,tk,os⟩) l xs:=kA;have tE:S3 b2 (Shared.heap ⟨hp.push (itO b1 l),g,d,tk,os⟩) t ys:=gR.keep fun o e=>af _ e
  wp_walk using Y4q yo,Y4q tE
  exact⟨_,rfl,h⟩
def W5m {w:Av}     {t:Ap}{xs ys:Array An}  (hl:S3 b1 s.heap l xs)(ht:S3 b2 s.heap t ys)
  (h:∀h',Q0s h' (s.heap.objs.size+4) (s.heap.objs.size+2) (s.heap.objs.size+3)->IsPair h' (s.heap.objs.size+2) (.ref s.heap.objs.size) (.ref (s.heap.objs.size+1))->IsPair h' (s.heap.objs.size+3) .none .none ->
   ItB b1 h' s.heap.objs.size l 0->ItB b2 h' (s.heap.objs.size+1) t 0->h'.objs.size=s.heap.objs.size+5->(∀c o,s.heap.get? c=?P->h'.get? c=?P)->Q (.ref (s.heap.objs.size+4)) {s with heap:=h'}):
  wpAny ?R A (call (.type "zip") [.ref l,.ref t]) Q E s:=by
 refine callType_new F.called_zip (?G) (F.typeCall_zip_2 _ _) (F.newCall_zip_2 _ _) (fun obj=>F.args_object_init_3 obj _ _) F.entry_zip_new (J1a b1 b2 l t xs ys) ⟨hl,ht,?_⟩;have e1:(zt1 b1 s.heap l).objs.size=s.heap.objs.size+1:=bC ..;have e2:(zt2 b1 b2 s.heap l t).objs.size=s.heap.objs.size+2:=by rw[bC,e1]
 have e3:(zt3 b1 b2 s.heap l t).objs.size=s.heap.objs.size+3:=by rw[bC,e2]
 have e4:(zt4 b1 b2 s.heap l t).objs.size=s.heap.objs.size+4:=by rw[bC,e3]
 have e5:(zt5 b1 b2 s.heap l t).objs.size=s.heap.objs.size+5:=by rw[bC,e4]
 have g5:(zt5 b1 b2 s.heap l t).get? (zt4 b1 b2 s.heap l t).objs.size=some _:=aG _ rfl;have g4:(zt5 b1 b2 s.heap l t).get? (zt3 b1 b2 s.heap l t).objs.size=some _:=af _ (aG _ rfl);have g3:(zt5 b1 b2 s.heap l t).get? (zt2 b1 b2 s.heap l t).objs.size=some _:=af _ (af _ (aG _ rfl));have g2:(zt5 b1 b2 s.heap l t).get? (zt1 b1 s.heap l).objs.size=some (itO b2 t):=af _ (af _ (af _ (aG _ rfl)));have g1:(zt5 b1 b2 s.heap l t).get? s.heap.objs.size=some (itO b1 l):=af _ (af _ (af _ (af _ (aG _ rfl))));rw[e2,e3,e4]at g5;rw[e1,e2]at g3;rw[e3]at g4;rw[e1]at g2;rw[e4];exact⟨⟨_,g5,rfl⟩,h _ ⟨_,_,g5,.inl rfl⟩ g3 g4 (Y4o g1) (Y4o g2) e5 fun c o x=>af _ (af _ (af _ (af _ (af _ x))))⟩
def Z9s {w:Av}    {TI TO:Ap}  (hz:Q0s s.heap z TI TO)(hQ:Q (.ref z) s):wpAny ?R A (pyIter (.ref z)) Q E s:=by
 obtain⟨_,_,hz,_⟩:=hz;have q:s.TypeIs (.ref z) "zip":=⟨_,hz,rfl⟩
 exact wpAny_pyIter_slot q F.slot_zip_iter (ci F.slot_zip_iter q F.entry_zip_iter (show wpAny _ _ (ret (.ref z)) _ _ s from am ⟨_,rfl,"zip",_,q,fq.lookup,hQ⟩) (F.args_zip_iter_1 _))
def J1e {w:Av}    {TI TO T:Ap}  {Q:Unit->Ao->Prop}(hz:Q0s s.heap z TI TO)(hQ:∀h',Q0s h' z TI TO->Heap.SameBut z s.heap h'->Q () {s with heap:=h'}):
  wpAny ?R A (letOwnedTupleGo tg (.ref z) (.ref T)) Q E s:=by
 have no:Q () s:=hQ s.heap hz (g8 _ _);have yes:wpAny ?R A (load z>>=fun o=>match o.cls,o.data with
  |.type n,.fields vs=>if (["enumerate","zip","dict_itemiterator","dict_reverseitemiterator","odict_iterator","itertools.zip_longest","itertools.pairwise"].contains n&&vs[0]?==some (rawInt T))=true then(do rule "for.unpacks-the-owned-tuple";updateField z 0 .none)else pure ()
  |_,_=>pure ()) Q E s:=by
  obtain⟨f0,f,hz,_⟩:=id hz;refine aa (wpAny_load hz ?_);dsimp only;split
  ·refine aa (dw ?_);show wpAny _ _ (setField (.ref z) 0 .none) Q E s;exact cg hz ?E fun h' kZ lS=>hQ h' ⟨_,_,kZ,.inl rfl⟩ lS
  ·exact am no
 unfold letOwnedTupleGo;cases tg<;>first |exact yes |exact am no
def Izb (b1 b2:Bool)(K:Fg9)(l1 l2:Ap)(n:Nat):It:=⟨fun i H=>i<n/\∃xs ys,SqB b1 K H l1 xs/\SqB b2 K H l2 ys/\min xs.length ys.length=n,
 fun i H v H'=>∃T x y,(∀xs,SqB b1 K H l1 xs->xs[i]?=some x)/\(∀ys,SqB b2 K H l2 ys->ys[i]?=some y)/\H T=none/\v=.ref T/\H'=A9 H T (.tup [x,y]),fun i H=>i=n/\∃xs ys,SqB b1 K H l1 xs/\SqB b2 K H l2 ys/\min xs.length ys.length=n⟩
def ZTn (b1 b2:Bool)(z TI TO i1 i2 l1 l2:Ap)(i:Nat)(h:Heap):Prop:=Q0s h z TI TO/\IsPair h TI (.ref i1) (.ref i2)/\(∃a b,IsPair h TO a b)/\ItB b1 h i1 l1 i/\ItB b2 h i2 l2 i
def ZTn.obj {TI TO:Ap}{i:Nat}  (t:ZTn b1 b2 z TI TO i1 i2 l1 l2 i h):∀c∈[z,TO,i1,i2,TI],∃o,h.get? c=?P/\∀v,o.data≠.cell v:=by
 obtain⟨⟨_,_,hz,_⟩,jr,⟨a,b,j6⟩,h1,h2⟩:=t;intro c hc;simp only[ar,aV,bG]at hc;rcases hc with rfl |rfl |rfl |rfl |rfl
 ·exact⟨_,hz,fun v z=>by cases z⟩
 ·exact⟨_,j6,fun v z=>by cases z⟩
 ·exact h1.obj
 ·exact h2.obj
 ·exact⟨_,jr,fun v z=>by cases z⟩
def ZTn.keep {TI TO:Ap}{i:Nat}  (t:ZTn b1 b2 z TI TO i1 i2 l1 l2 i h)(k:∀b∈[z,TO,i1,i2,TI],∀o,h.get? b=?P->h'.get? b=?P):ZTn b1 b2 z TI TO i1 i2 l1 l2 i h':=by
 obtain⟨⟨f0,f,hz,r⟩,jr,⟨a,b,j6⟩,h1,h2⟩:=t;exact⟨⟨f0,f,k z ?E _ hz,r⟩,k TI ?E _ jr,⟨a,b,k TO ?E _ j6⟩,h1.keep (k i1 ?E),h2.keep (k i2 ?E)⟩
theorem V9q {w:Av}{K:Fg9}   {TI TO:Ap}  (Z:Q3w z TI TO i1 i2 [i1,l1] [i2,l2])(kA:l1≠i1)(gR:l2≠i2):
  Q1h P w K tg (Izb b1 b2 K l1 l2 n) [z,TO,i1,i2,TI] z (ZTn b1 b2 z TI TO i1 i2 l1 l2) where
 mem:=by simp
 obj:=fun i h t=>t.obj
 keep:=fun i h h' t k=>t.keep k
 item:=by
  back_in;obtain⟨cm,xs,ys,cR,dF,hn⟩:=hg;obtain⟨aY,rv,p1,iK⟩:=Q7l I cR;obtain⟨dB,jT,p2,iJ⟩:=Q7l I dF;have wW:=rv.length;have wT:=jT.length;have hd:X.A.in1.handled=none:=I.ok.hd hc;have so:=st.obj;obtain⟨sz,kT,⟨a0,b0,mt⟩,s1,s2⟩:=st;have hx:xs[i]?=some (xs[i]'(?H)):=ac _;have hy:ys[i]?=some (ys[i]'(?H)):=ac _;obtain⟨u,hu,ru⟩:=rv.get hx;obtain⟨u',oE,rf⟩:=jT.get hy;refine W1t Z (Q4c b1 hd i1 l1 kA aY.toArray) (Q4c b2 hd i2 l2 gR dB.toArray) sz kT mt ⟨s1,p1⟩ ⟨s2,p2⟩ ?U ?U fun h' tk x y px py z1 t1 a1 a2 pr _ kp=>⟨_,rfl,?_⟩
  have ex:x=u:=by
   have:aY[i]?=some x:=by simpa using px
   rw[hu]at this;exact(aC this).symm
  have ey:y=u':=by
   have:dB[i]?=some y:=by simpa using py
   rw[oE]at this;exact(aC this).symm
  subst ex ey;have hT:∀b∈[z,TO,i1,i2,TI],b≠s.heap.objs.size:=fun b hb zz=>by
   obtain⟨o,ho,_⟩:=so b hb;exact aS _ (zz▸aA ho)
  refine J1e z1 fun h2 z2 sb=>?_;have mG:∀c o,c∉[z,TO,i1,i2]->s.heap.get? c=?P->h2.get? c=?P:=fun c o hc e=>by
   simp only[ar,aV,bG,not_or]at hc;exact(sb.2 c hc.1).trans (kp c o hc.1 hc.2.1 hc.2.2.1 hc.2.2.2 e)
  have iR:IsTup h2 s.heap.objs.size ([x,y]).toArray:=⟨_,(sb.2 _ (hT z ?E).symm).trans pr,rfl,_,rfl⟩
  have sQ:∀b∈[z,TO,i1,i2],N3 X ae H b:=fun b hb=>hf b (by
   simp only[ar,aV,bG]at hb ⊢;rcases hb with h |h |h |h<;>simp[h])
  have I2:=Z1z (t':=tk) (xs:=[xs[i]'(?H),ys[i]'(?H)]) I mG sQ (ak s.heap.objs.size) iR (.cons ru (.cons rf .nil)) (by show 2<=sizeLine;decide);obtain⟨ta,tb,t1⟩:=t1;refine⟨.ref s.heap.objs.size,_,I2,rfl,⟨s.heap.objs.size,_,_,fun zs hz=>by rw[Y8z I hz cR];exact hx,fun zs hz=>by rw[Y8z I hz dF];exact hy,I.hok.fresh (ak _),rfl,rfl⟩,
   ⟨z2,(sb.2 _ Z.tiz).trans (kp _ _ Z.tiz Z.tito Z.ti1 Z.ti2 kT),⟨_,_,(sb.2 _ Z.toz).trans t1⟩,a1.1.keep fun o e=>(sb.2 _ Z.i1z).trans e,a2.1.keep fun o e=>(sb.2 _ Z.i2z).trans e⟩,fun b hb=>?_⟩
  rw[B2 (hT b hb)];exact(hf b hb).1
 done:=by
  back_in;obtain⟨hi,xs,ys,cR,dF,hn⟩:=hg;obtain⟨aY,rv,p1,iK⟩:=Q7l I cR;obtain⟨dB,jT,p2,iJ⟩:=Q7l I dF;have wW:=rv.length;have wT:=jT.length;have hd:X.A.in1.handled=none:=I.ok.hd hc;obtain⟨sz,kT,⟨a0,b0,mt⟩,s1,s2⟩:=st;have sQ:∀b∈[z,TO,i1,i2],N3 X ae H b:=fun b hb=>hf b (by
   simp only[ar,aV,bG]at hb ⊢;rcases hb with h |h |h |h<;>simp[h])
  refine W1u Z (Q4c b1 hd i1 l1 kA aY.toArray) (Q4c b2 hd i2 l2 gR dB.toArray) sz kT mt ⟨s1,p1⟩ ⟨s2,p2⟩ (by simp only[aH];lia) fun h' tk kp=>⟨rfl,Q7o I (fun c o hc e=>?_) sQ⟩
  simp only[ar,aV,bG,not_or]at hc;exact kp c o hc.1 hc.2.1 hc.2.2.1 hc.2.2.2 e
 self:=fun A i s Q E st h=>Z9s st.1 h
def J0y {K:Fg9}     {ds es:O D}(nA:SqB b1 K H l1 xs)(al:AllS K H ds xs)(fi:SqB b2 K H l2 ys)(fC:AllS K H es ys):YlS K (Izb b1 b2 K l1 l2 (min ds.length es.length)) (V7 ds es) H where
 go:=fun H' s i hi=>by
  rw[Z9r]at hi;exact⟨hi,xs,ys,nA.same s,fi.same s,by rw[al.length,fC.length]⟩
 yld:=fun H' s i v eR d hd cy=>by
  obtain⟨T,x,y,hx,hy,hT,hv,hH⟩:=cy;subst hH hv;refine⟨G7 hT _,?_⟩;obtain⟨d1,d2,e1,e2,rfl⟩:=W1q hd;obtain⟨v1,qh,q1⟩:=al.get e1;obtain⟨v2,nE,q2⟩:=fC.get e2;rw[hx xs (nA.same s)]at qh;cases qh;rw[hy ys (fi.same s)]at nE;cases nE;have kp:=Kp.of (s.trans (G7 hT (.tup [x,y])));exact A2.s_tup upd_same (AllS.cons (q1.mono kp _ _) (AllS.cons (q2.mono kp _ _) AllS.nil))
 stop:=fun H' s=>⟨Z9r _ _,xs,ys,nA.same s,fi.same s,by rw[al.length,fC.length]⟩
section
variable {w:Av}{TI TO:Ap}{xs ys:Array An}
theorem J1b {R:Result->Ao->Prop}{S:Ap}{res:An}{h0:Heap}(hh:A.handled=none)(D:Q3w z TI TO i1 i2 [i1,l1] [i2,l2])(nH:l1≠i1)(lf:l2≠i2)(hS:S≠z/\S≠TI/\S≠TO/\S≠i1/\S≠i2/\S≠l1/\S≠l2)(hn:min xs.size ys.size<=sizeLine)(l9:∀b∈[z,TI,TO,i1,i2,l1,l2,S],b<h0.objs.size)
  (hR:∀(h':Heap) (tk:Nat) (as:O Ap) (c:Nat),as.length=min xs.size ys.size->as.Nodup->(∀a∈as,h0.objs.size<=a)->(∀(j:Nat) a,as[j]?=some a->∃x y,xs[j]?=some x/\ys[j]?=some y/\IsPair h' a x y)->(∀c o,c∉[z,TO,i1,i2,S]->h0.get? c=?P->h'.get? c=?P) ->
   h'.get? S=some {cls:=.type "list",data:=.seq (as.map Value.ref).toArray c}->R (.ok (.ret res)) {s with heap:=h',toks:=tk}):
  ∀(m k:Nat) (h:Heap) (tk c:Nat) (as:O Ap),m=min xs.size ys.size-k->k<=min xs.size ys.size->ZTn b1 b2 z TI TO i1 i2 l1 l2 k h->S3 b1 h l1 xs->S3 b2 h l2 ys->as.length=k->as.Nodup->(∀a∈as,h0.objs.size<=a)->h0.objs.size<=h.objs.size->(∀a∈as,a<h.objs.size) ->
   (∀(j:Nat) a,as[j]?=some a->∃x y,xs[j]?=some x/\ys[j]?=some y/\IsPair h a x y)->(∀c o,c∉[z,TO,i1,i2,S]->h0.get? c=?P->h.get? c=?P) ->
   h.get? S=some {cls:=.type "list",data:=.seq (as.map Value.ref).toArray c}->codeAny ?R A (.builtin "list.extend.loop" ⟨[.ref S,.ref z,res],[]⟩) R {s with heap:=h,toks:=tk}:=by
 intro m
 induction m with
 |zero=>
  intro k h tk c as hm hk st kA gR lm jl iA hsz cm mQ k9 ni;have e:k=min xs.size ys.size:=?H
  refine oa F.entry_extend_loop ?_;rw[iF jd _]
  change wpAny ?R A.in1 (pyNext (.ref z)>>=_) _ _ _
  obtain⟨sz,kT,⟨a0,b0,mt⟩,q1,q2⟩:=st;refine aa (W1u (s:={s with heap:=h,toks:=tk}) (A:=A.in1) D (Q4c (P:=P) (w:=w) (A:=A.in1.in1) b1 hh i1 l1 nH xs) (Q4c (P:=P) (w:=w) (A:=A.in1.in1) b2 hh i2 l2 lf ys) sz kT mt ⟨q1,kA⟩ ⟨q2,gR⟩ (?H) fun h' ug kp=>am ?_);obtain⟨s1,s2,s3,s4,s5,s6,s7⟩:=hS;have ap:∀a∈as,a≠z/\a≠TO/\a≠i1/\a≠i2:=fun a ha=>by
   have g:=iA a ha;refine⟨fun e=>?_,fun e=>?_,fun e=>?_,fun e=>?_⟩<;>(have:=l9 a (by rw[e];simp);exact absurd this (fY.mpr g))
  refine hR h' _ as c (?H) jl iA (fun j a ej=>?_) (fun c o hc e=>?_) (kp S _ s1 s3 s4 s5 ni)
  ·obtain⟨x,y,ex,ey,p⟩:=mQ j a ej;obtain⟨a1,a2,a3,a4⟩:=ap a (au ej);exact⟨x,y,ex,ey,kp a _ a1 a2 a3 a4 p⟩
  ·have:=k9 c o hc e;simp only[ar,aV,bG,not_or]at hc;exact kp c o hc.1 hc.2.1 hc.2.2.1 hc.2.2.2.1 this
 |succ m ih=>
  intro k h tk c as hm hk st kA gR lm jl iA hsz cm mQ k9 ni;have xS:k<xs.size:=?H
  have xR:k<ys.size:=?H
  refine oa F.entry_extend_loop ?_;rw[iF jd _]
  change wpAny ?R A.in1 (pyNext (.ref z)>>=_) _ _ _
  have tV:∀a,h0.objs.size<=a->a≠z/\a≠TI/\a≠TO/\a≠i1/\a≠i2/\a≠S:=fun a g=>by
   refine⟨fun e=>?_,fun e=>?_,fun e=>?_,fun e=>?_,fun e=>?_,fun e=>?_⟩<;>(have:=l9 a (by rw[e];simp);exact absurd this (fY.mpr g))
  have ap:∀a∈as,a≠z/\a≠TI/\a≠TO/\a≠i1/\a≠i2:=fun a ha=>by obtain⟨a1,a2,a3,a4,a5,_⟩:=tV a (iA a ha);exact⟨a1,a2,a3,a4,a5⟩
  obtain⟨s1,s2,s3,s4,s5,s6,s7⟩:=hS;obtain⟨sz,kT,⟨a0,b0,mt⟩,q1,q2⟩:=st;refine aa (W1t (s:={s with heap:=h,toks:=tk}) (A:=A.in1) D (Q4c (P:=P) (w:=w) (A:=A.in1.in1) b1 hh i1 l1 nH xs) (Q4c (P:=P) (w:=w) (A:=A.in1.in1) b2 hh i2 l2 lf ys) sz kT mt ⟨q1,kA⟩ ⟨q2,gR⟩ xS xR fun h' ug x y px py mo iq ul gm wz wm kp=>?_);have iw:ZTn b1 b2 z TI TO i1 i2 l1 l2 (k+1) h':=⟨mo,kp _ _ D.tiz D.tito D.ti1 D.ti2 kT,iq,ul.1,gm.1⟩
  have uY:=kp S _ s1 s3 s4 s5 ni
  change wpAny ?R A.in1 (updateSeq S (·.push (Value.ref h.objs.size))>>=_) _ _ _
  have oY:(as.map Value.ref).toArray.size=k:=by simp[lm]
  refine aa (gT uY rfl (am ⟨vY jd _,?_⟩) (hz:=by rw[oY];lia) (_hz':=by show((as.map Value.ref).toArray.push _).size<=_;rw[Array.size_push,oY];lia));have gn:∀b o,b≠S->h'.get? b=?P->(h'.update S (Obj.mapSeq (·.push (Value.ref h.objs.size)))).get? b=?P:=fun b o hb e=>(bM _ _ (bN hb)).trans e;have uh:(h'.update S (Obj.mapSeq (·.push (Value.ref h.objs.size)))).objs.size=h.objs.size+1:=by rw[(bP (h:=h') (a:=S) ..).1];exact wm
  have oO:h0.objs.size<=h.objs.size:=hsz;have rC:=tV h.objs.size oO;obtain⟨c',yi⟩:∃c',(h'.update S (Obj.mapSeq (·.push (Value.ref h.objs.size)))).get? S=some {cls:=.type "list",data:=.seq ((as++[h.objs.size]).map Value.ref).toArray c'}:=by
   have e:=cF (Obj.mapSeq (·.push (Value.ref h.objs.size))) uY rfl;have e2:((as++[h.objs.size]).map Value.ref).toArray=(as.map Value.ref).toArray.push (Value.ref h.objs.size):=by simp
   rw[e2];exact⟨_,e⟩
  refine ih (k+1) _ ug c' (as++[h.objs.size]) (?H) (?H) (iw.keep fun b hb o e=>gn b o (fun z=>?_) e) (ul.2.keep fun o e=>gn _ o (bN s6) e) (gm.2.keep fun o e=>gn _ o (bN s7) e) (by rw[ao,lm];rfl) ?_ ?_ (by rw[uh];lia) ?_ ?_ ?_ ?_
  ·rw[z]at hb;simp only[ar,aV,bG]at hb;rcases hb with h |h |h |h |h
   ·exact s1 h
   ·exact s3 h
   ·exact s4 h
   ·exact s5 h
   ·exact s2 h
  ·rw[bc];refine⟨jl,by simp,fun a ha b hb e=>?_⟩;rw[show b=h.objs.size by simpa using hb]at e;have:=cm a ha;rw[e]at this;exact aS _ this
  ·intro a ha;rcases aN.mp ha with q |q
   ·exact iA a q
   ·rw[aE.mp q];exact oO
  ·intro a ha;rw[uh];rcases aN.mp ha with q |q
   ·exact bt (cm a q)
   ·rw[aE.mp q];exact cb _
  ·intro j a ej
   by_cases hj:j<as.length
   ·rw[aJ hj]at ej;obtain⟨x,y,ex,ey,p⟩:=mQ j a ej;obtain⟨a1,a2,a3,a4,a5⟩:=ap a (au ej);exact⟨x,y,ex,ey,gn _ _ (tV a (iA a (au ej))).2.2.2.2.2 (kp a _ a1 a3 a4 a5 p)⟩
   ·rw[aR (?H)]at ej;have e0:j-as.length=0:=by
     rcases cL (j-as.length)with z |z
     ·exact z
     ·rw[dU (show [h.objs.size].length<=j-as.length from z)]at ej;cases ej
    rw[e0]at ej;cases ej;have ej:j=k:=?H
    subst ej;exact⟨_,_,px,py,gn _ _ rC.2.2.2.2.2 wz⟩
  ·intro c o hc e;have:=k9 c o hc e;simp only[ar,aV,bG,not_or]at hc;exact gn c o hc.2.2.2.2 (kp c o hc.1 hc.2.1 hc.2.2.1 hc.2.2.2.1 this)
  ·exact yi
def W7g {Q:Bool->Ao->Prop}(hT:s.TypeIs (.ref z) "zip")(h:Q true s):wpAny ?R A (Builtin.List.listLengthHint (.ref z)) Q E s:=by
 unfold Builtin.List.listLengthHint;refine aa (fm hT (show typeLookup (.type "zip") "__len__"=pure none by rw[typeLookup_type,builtinLookup_eq_fast];kernel_rfl) ?_);refine aa (fm hT (show typeLookup (.type "zip") "__length_hint__"=pure none by rw[typeLookup_type,builtinLookup_eq_fast];kernel_rfl) ?_);exact am h
def Z5u {S:Ap}{xs:Array An}  (e:h.get? S=some {cls:=.type "list",data:=.seq xs c})(f:Array An->Array An):∃c',(h.update S (Obj.mapSeq f)).get? S=some {cls:=.type "list",data:=.seq (f xs) c'}:=
 ⟨_,cF (Obj.mapSeq f) e rfl⟩
def W5h (hh:A.handled=none)(D:Q3w z TI TO i1 i2 [i1,l1] [i2,l2])(nH:l1≠i1)(lf:l2≠i2)(st:ZTn b1 b2 z TI TO i1 i2 l1 l2 0 s.heap)(kA:S3 b1 s.heap l1 xs)(gR:S3 b2 s.heap l2 ys)(hn:min xs.size ys.size<=sizeLine)(l9:∀b∈[z,TI,TO,i1,i2,l1,l2],b<s.heap.objs.size)
  (hQ:∀(h':Heap) (tk:Nat) (as:O Ap) (c:Nat),as.length=min xs.size ys.size->as.Nodup->(∀a∈as,s.heap.objs.size<a)->(∀(j:Nat) a,as[j]?=some a->∃x y,xs[j]?=some x/\ys[j]?=some y/\IsPair h' a x y)->(∀c o,c∉[z,TO,i1,i2]->s.heap.get? c=?P->h'.get? c=?P) ->
   h'.get? s.heap.objs.size=some {cls:=.type "list",data:=.seq (as.map Value.ref).toArray c}->Q (.ref s.heap.objs.size) {s with heap:=h',toks:=tk}):
  wpAny ?R A (call (.type "list") [.ref z]) Q E s:=by
 refine callType_codes (Q₁:=fun obj s₁=>obj=.ref s.heap.objs.size/\s₁={s with heap:=s.heap.push {cls:=.type "list",data:=.seq #[]}}) PySem.F.called_list (PySem.F.typeCall_list_1 _) PySem.F.entry_list_init (code_list_new _ ⟨rfl,rfl⟩) ?_;rintro obj s₁ ⟨rfl,rfl⟩;generalize hSe:s.heap.objs.size=S;have lV:∀b∈[z,TI,TO,i1,i2,l1,l2],b<S:=fun b hb=>by rw[<-hSe];exact l9 b hb
 have qv:(s.heap.push {cls:=.type "list",data:=.seq #[]}).get? S=some {cls:=.type "list",data:=.seq #[]}:=by rw[<-hSe];exact aG _ rfl
 have ne:∀b,b∈[z,TI,TO,i1,i2,l1,l2]->b≠S:=fun b hb=>aB (lV b hb);refine⟨⟨_,qv,rfl⟩,PySem.F.args_list_init_2 _ _,?_⟩
 change wpAny ?R A.in1.in1 (Builtin.List.listItems (.ref S)>>=fun old=>Builtin.List.listUpdate (.ref S) (fun _=>#[])>>=fun _=>letGo old.toList.reverse>>=fun _=>Builtin.List.listExtendWith (.ref S) (.ref z) .none) _ _ _
 unfold Builtin.List.listItems;refine aa (aa (cu qv rfl (am ?_)))
 change wpAny ?R A.in1.in1 (updateSeq S (fun _=>#[])>>=_) _ _ _
 refine aa (gT qv rfl (aa (iV ?_)));obtain⟨c1,tu⟩:=Z5u qv (fun _=>#[]);have kW:∀b o,b≠S->?A6=?P->((s.heap.push {cls:=.type "list",data:=.seq #[]}).update S (Obj.mapSeq (fun _=>#[]))).get? b=?P:=fun b o hb e=>(bM _ _ (bN hb)).trans (af _ e);have uk:((s.heap.push {cls:=.type "list",data:=.seq #[]}).update S (Obj.mapSeq (fun _=>#[]))).objs.size=S+1:=by rw[(bP (h:=s.heap.push {cls:=.type "list",data:=.seq #[]}) (a:=S) ..).1,bC,hSe]
 generalize hH1:(s.heap.push {cls:=.type "list",data:=.seq #[]}).update S (Obj.mapSeq (fun _=>#[]))=H1 at tu kW uk ⊢;have mn:∀h:Heap,(∀b o,b≠S->?A6=?P->h.get? b=?P)->ZTn b1 b2 z TI TO i1 i2 l1 l2 0 h:=fun h k=>st.keep fun b hb o e=>k b o (ne b (by
  simp only[ar,aV,bG]at hb ⊢;rcases hb with h |h |h |h |h<;>simp[h])) e
 obtain⟨⟨_,_,ez,_⟩,_⟩:=id (mn H1 kW);have cz:∃o,H1.get? z=?P/\o.cls=.type "zip":=⟨_,ez,rfl⟩
 obtain⟨oz,ez,cz⟩:=cz;unfold Builtin.List.listExtendWith;refine aa (lA (T:="zip") ⟨oz,ez,cz⟩ ?_);have h1:Builtin.List.listSameRef (.ref S) (.ref z)=false:=by simp[Builtin.List.listSameRef,(ne z ?E).symm]
 have h2:(Builtin.List.listSameRef (.ref S) (.ref z)||(Value.type "zip"==Value.type "list")||(Value.type "zip"==Value.type "tuple"))=false:=by rw[h1];decide
 rw[aI (by rw[h2];decide)];refine aa (Z9s (mn H1 kW).1 (aa (bD (W7g ⟨oz,ez,cz⟩ ?_))));rw[nZ,aO rfl];refine aa (dw (aa ?_))
 change wpAny ?R A.in1.in1 (updateSeq S (·.push .none)>>=fun _=>updateSeq S (·.pop)) _ _ _
 refine aa (gT tu rfl ?_);obtain⟨c2,uX⟩:=Z5u tu (·.push Value.none);refine gT (hz:=by seq_fits) uX rfl ?_;obtain⟨c3,uW⟩:=Z5u uX (·.pop);have e3:((#[]:Array An).push Value.none).pop=(([]:O Ap).map Value.ref).toArray:=rfl;have ib:∀b o,b≠S->?A6=?P->((H1.update S (Obj.mapSeq (·.push Value.none))).update S (Obj.mapSeq (·.pop))).get? b=?P:=fun b o hb e=>(bM _ _ (bN hb)).trans ((bM _ _ (bN hb)).trans (kW b o hb e));have qX:((H1.update S (Obj.mapSeq (·.push Value.none))).update S (Obj.mapSeq (·.pop))).objs.size=S+1:=by rw[(bP (h:=H1.update S (Obj.mapSeq (·.push Value.none))) (a:=S) ..).1,(bP (h:=H1) (a:=S) ..).1,uk]
 generalize hH3:(H1.update S (Obj.mapSeq (·.push Value.none))).update S (Obj.mapSeq (·.pop))=H3 at uW ib qX ⊢;refine am ⟨vY PySem.F.plain_extend_loop _,?_⟩;have wU:S3 b1 H3 l1 xs:=kA.keep fun o e=>ib _ _ (ne l1 ?E) e;have wS:S3 b2 H3 l2 ys:=gR.keep fun o e=>ib _ _ (ne l2 ?E) e;refine J1b (s:=s) (A:=A.in1) (h0:=H3) (S:=S) hh D nH lf ⟨(ne z ?E).symm,(ne TI ?E).symm,(ne TO ?E).symm,(ne i1 ?E).symm,(ne i2 ?E).symm,(ne l1 ?E).symm,(ne l2 ?E).symm⟩ hn (fun b hb=>?_) (fun h' tk as c lm jl iA mQ sK ni=>?_)
  _ 0 H3 _ c3 [] rfl (bj _) (mn H3 ib) wU wS rfl dL (by intro a ha;cases ha) (ak _) (by intro a ha;cases ha) (by intro j a e;simp at e) (fun c o _ e=>e) (by rw[<-e3];exact uW)
 ·rw[qX];rcases aN.mp (show b∈[z,TI,TO,i1,i2,l1,l2]++[S]from hb)with q |q
  ·exact bt (lV b q)
  ·rw[aE.mp q];exact cb _
 ·refine⟨rfl,hSe▸hQ h' tk as c lm jl (fun a ha=>?_) mQ (fun c o hc e=>?_) (hSe.symm▸ni)⟩
  ·have:=iA a ha;rw[qX]at this;rw[hSe];exact this
  ·refine sK c o (fun q=>?_) (ib c o (fun z=>?_) e)
   ·rcases aN.mp (show c∈[z,TO,i1,i2]++[S]from q)with q |q
    ·exact hc q
    ·rw[aE.mp q,<-hSe]at e;exact absurd (aA e) (aS _)
   ·rw[z,<-hSe]at e;exact absurd (aA e) (aS _)
end
section
variable {a b:Aq}{p2 gJ:Pos}
theorem Y4h {n0:Nat}(h0:X.s₀.heap.objs.size<=n0):∀(as:O Ap) (xs:O (V×V)) {H:Hp},?A->as.length=xs.length->as.Nodup->(∀a∈as,n0<=a/\H a=none/\a≠X.env.locals/\(∀x c,?Z->c≠a)/\∀q∈X.pn++ae,q.1≠a) ->
  (∀(j:Nat) a v,as[j]?=some a->xs[j]?=some v->∃x y,C4 v.1 x/\C4 v.2 y/\IsPair s.heap a x y)->∃H',A0 X ae σ H' s/\A5 H H'/\(∀c,c∉as->H' c=H c)/\∀(j:Nat) a v,as[j]?=some a->xs[j]?=some v->H' a=some (.tup [v.1,v.2])
 |[],xs,H,I,_,_,_,_=>⟨H,I,A5.refl H,fun _ _=>rfl,by intro j a v e;simp at e⟩
 |c::as,[],H,I,l,_,_,_=>by cases l
 |c::as,u::xs,H,I,l,n,f,g=>by
  rw[bg]at n;obtain⟨c1,c2,c3,c4,c5⟩:=f c aj;obtain⟨x,y,rx,ry,pr⟩:=g 0 c u rfl rfl;have I1:A0 X ae σ (A9 H c (.tup [u.1,u.2])) s:=Z5l I c2 (.inr (aU h0 c1)) c3 c4 c5 ⟨by show 2<=sizeLine;decide,[x,y],.cons rx (.cons ry .nil),_,pr,rfl,_,rfl⟩;obtain⟨H',I2,sm,gn,at_⟩:=Y4h h0 as xs I1 (by simpa using l) n.2 (fun a ha=>by
   obtain⟨a1,a2,a3⟩:=f a (ag _ ha);exact⟨a1,by rw[B2 (fun z=>n.1 (by rw[<-z];exact ha))];exact a2,a3⟩) fun j a v e1 e2=>g (j+1) a v (by simpa using e1) (by simpa using e2)
  refine⟨H',I2,(G7 c2 _).trans sm,fun d hd=>?_,fun j a v e1 e2=>?_⟩
  ·rw[gn d (fun z=>hd (ag _ z)),B2 (fun z=>hd (by rw[z];exact aj))]
  ·cases j with
   |zero=>cases e1;cases e2;rw[gn c n.1];exact upd_same
   |succ j=>exact at_ j a v (by simpa using e1) (by simpa using e2)
def Y9a {K:Fg9}  {r:R}{ds:O D}{v:V}(e:V5 r=some ds)(h:E7 K H0 H r v):∃(b:Bool) (a:Ap) (xs:O V),v=.ref a/\SqB b K H a xs/\AllS K H ds xs:=by
 obtain⟨a,xs,rfl,h |h,al⟩:=V8b e h
 ·exact⟨false,a,xs,rfl,h,al⟩
 ·exact⟨true,a,xs,rfl,h,al⟩
theorem W1r {G:O D->O D->Hp->Prop}  (I:?A)(hg:Gl X "zip")(hm:X.mg "zip"=none)(ha:DA X H0 [a,b] wr)  (hR:C1 X.K H0 τ σ H)
  (h:wr τ fun rs=>∃r r' ds es,rs=[r,r']/\V5 r=some ds/\V5 r'=some es/\∀H',A5 H H'->G ds es H')
  (hQ:∀(b1 b2:Bool) (l1 l2:Ap) (xs ys:O V) (aY dB:O An) (ds es:O D) (H1:Hp) (s1:Ao) (h':Heap),A0 X ae σ H1 s1->A5 H H1->SqB b1 X.K H1 l1 xs->SqB b2 X.K H1 l2 ys->AllS X.K H1 ds xs->AllS X.K H1 es ys->C0 xs aY->C0 ys dB->S3 b1 s1.heap l1 aY.toArray->S3 b2 s1.heap l2 dB.toArray->xs.length<=sizeLine ->
   ZTn b1 b2 (s1.heap.objs.size+4) (s1.heap.objs.size+2) (s1.heap.objs.size+3) s1.heap.objs.size (s1.heap.objs.size+1) l1 l2 0 h'->Q3w (s1.heap.objs.size+4) (s1.heap.objs.size+2) (s1.heap.objs.size+3) s1.heap.objs.size (s1.heap.objs.size+1) [s1.heap.objs.size,l1] [s1.heap.objs.size+1,l2] ->
   @LT.lt Nat _ l1 s1.heap.objs.size->@LT.lt Nat _ l2 s1.heap.objs.size->h'.objs.size=s1.heap.objs.size+5->(∀c o,s1.heap.get? c=?P->h'.get? c=?P)->(∀H',A5 H H'->G ds es H')->Q (.ref (s1.heap.objs.size+4)) {s1 with heap:=h'})
  (he:starEach [a,b] X.env=(false,eval a X.env)::starEach [b] X.env) (hpl:(backTo pos (starEach [b] X.env)).any (·.1)=false):
  wpAny ?C X.A (eval (.Call (.Name "zip" p) [a,b] [] pos) X.env) Q X.xe s:=by
 refine bn (Q1k I hg hm (u:=.type "zip") rfl ?_ (?G) (?G));refine bb (B3 (ha.pa pos ae s σ H (fun vs H1=>A5 H H1/\∃b1 b2 l1 l2 xs ys ds es,vs=[.ref l1,.ref l2]/\SqB b1 X.K H1 l1 xs/\AllS X.K H1 ds xs/\SqB b2 X.K H1 l2 ys/\AllS X.K H1 es ys/\∀H',A5 H H'->G ds es H') I
  ⟨τ,hR,ha.mono τ _ _ (fun rs ⟨r,r',ds,es,e1,e2,e3,q⟩ vs H1 s1 dA=>⟨s1,by
   subst e1;obtain⟨v,u,rfl,ir,wZ⟩:=Y1n dA;obtain⟨b1,l,xs,rfl,sq,al⟩:=Y9a e2 ir;obtain⟨b2,l2,ys,rfl,fi,fC⟩:=Y9a e3 wZ;exact⟨b1,b2,l,l2,xs,ys,ds,es,rfl,sq,al,fi,fC,q⟩⟩) h⟩) fun us s1 bB=>?_) he hpl
 obtain⟨vs,H1,I1,rv,sm,b1,b2,l1,l2,xs,ys,ds,es,e1,sq,al,fi,fC,q⟩:=bB;subst e1;obtain⟨u1,u2,rfl,r1,r2⟩:=rv.two;cases (show u1=Value.ref l1 from r1);cases (show u2=Value.ref l2 from r2);obtain⟨aY,iy,pl,kZ⟩:=Q7l I1 sq;obtain⟨dB,kU,jU,xi⟩:=Q7l I1 fi;have hl:=pl.lt;have gR:=jU.lt;refine W5m pl jU fun h' hz jr j6 nH lf hsz k=>hQ b1 b2 l1 l2 xs ys aY dB ds es H1 s1 h' I1 sm sq fi al fC iy kU pl jU kZ ⟨hz,jr,⟨_,_,j6⟩,nH,lf⟩ ?_ hl gR hsz k q;refine⟨?_,?_,?_,?_,?_,?_,?_,?_,?_,?_,fun b hb=>?_,fun b hb=>?_⟩
 all_goals first |(show ¬ ((_:Nat)=(_:Nat));lia) |skip
 all_goals simp only[ar,aV,bG]at hb
 all_goals rcases hb with rfl |rfl<;>refine⟨?_,?_,?_⟩<;>(show ¬ ((_:Nat)=(_:Nat));lia)
def Z0r (wr:WA):WIE:=fun τ Q=>wr τ fun rs=>∃r r' ds es,rs=[r,r']/\V5 r=some ds/\V5 r'=some es/\Q (V7 ds es)
def W2h (hg:Gl X "zip")(hm:X.mg "zip"=none)(ha:DA X H0 [a,b] wr)(he:starEach [a,b] X.env=(false,eval a X.env)::starEach [b] X.env:=by rfl)(hpl:(backTo pos (starEach [b] X.env)).any (·.1)=false:=by rfl):
  L7 X H0 tg (.Call (.Name "zip" p) [a,b] [] pos) (Z0r wr) where
 mono:=fun τ P Q f h=>ha.mono τ _ _ (fun r cR=>(by obtain⟨r1,r2,ds,es,e1,e2,e3,q⟩:=cR;exact⟨r1,r2,ds,es,e1,e2,e3,f _ q⟩)) h
 pi:=by
  intro ae s σ H R I ⟨τ,hR,h⟩;refine W1r (G:=fun ds es H'=>∀J,YlS X.K J (V7 ds es) H'->R J H') I hg hm ha hR (ha.mono τ _ _ (fun rs dF=>(by obtain⟨r,r',ds,es,e1,e2,e3,q⟩:=dF;exact⟨r,r',ds,es,e1,e2,e3,fun H' sm J y=>q J H' sm y⟩)) h) (fun b1 b2 l1 l2 xs ys aY dB ds es H1 s1 h' I1 sm sq fi al fC rv jT pl jU hz st Z hl gR hsz k q=>?_) he hpl;refine Z9s (s:={s1 with heap:=h'}) st.1 ⟨s1.heap.objs.size+4,[s1.heap.objs.size+4,s1.heap.objs.size+3,s1.heap.objs.size,s1.heap.objs.size+1,s1.heap.objs.size+2],_,_,H1,rfl,I1.kept (t':=s1.toks) k,V9q (n:=Min.min ds.length es.length) Z (aB hl) (aB (bt gR)),st,fun b hb=>?_,q _ sm _ (J0y sq al fi fC)⟩;have hb:s1.heap.objs.size<=b:=by
   simp only[ar,aV,bG]at hb;rcases hb with rfl |rfl |rfl |rfl |rfl<;>first |exact ak _ |exact Nat.le_add_right _ _
  exact I1.fpOk hb (I1.hok.fresh hb)
@[simp] theorem V6r {Q:O D->Prop}:Z0r wr τ Q=wr τ fun rs=>∃r r' ds es,rs=[r,r']/\V5 r=some ds/\V5 r'=some es/\Q (V7 ds es):=rfl
def Z8o (wr:WA):WE:=fun τ Q=>wr τ fun rs=>∃r r' ds es,rs=[r,r']/\V5 r=some ds/\V5 r'=some es/\Q (.nw (V7 ds es))
theorem W2e (hc:X.calm=true)(hg:Gl X "list")(hm:X.mg "list"=none)(xY:Gl X "zip")(xK:X.mg "zip"=none)(ha:DA X H0 [a,b] wr)
  (hs:starEach [.Call (.Name "zip" p2) [a,b] [] gJ] X.env=(false,eval (.Call (.Name "zip" p2) [a,b] [] gJ) X.env)::starEach [] X.env:=by rfl)
  (he:starEach [a,b] X.env=(false,eval a X.env)::starEach [b] X.env:=by rfl) (hpl:(backTo gJ (starEach [b] X.env)).any (·.1)=false:=by rfl):
  DE X H0 (.Call (.Name "list" p) [.Call (.Name "zip" p2) [a,b] [] gJ] [] pos) (Z8o wr) where
 mono:=fun τ P Q f h=>ha.mono τ _ _ (fun r fM=>(by obtain⟨r1,r2,ds,es,e1,e2,e3,q⟩:=fM;exact⟨r1,r2,ds,es,e1,e2,e3,f _ q⟩)) h
 pe:=by
  intro ae s σ H Q I ⟨τ,hR,h⟩;refine bn (Q1k I hg hm (u:=.type "list") rfl ?_ (?G) (?G));refine bb ?_ hs;rw[hs]
  change wpAny ?C X.A (spliced ((false,eval (.Call (.Name "zip" p2) [a,b] [] gJ) X.env)::backTo pos (starEach [] X.env))) _ _ s
  refine bT ?_;refine W1r (G:=fun ds es H'=>∀v,E7 X.K H H' (.nw (V7 ds es)) v->Q v H') I xY xK ha hR (ha.mono τ _ _ (fun rs fL=>(by obtain⟨r,r',ds,es,e1,e2,e3,q⟩:=fL;exact⟨r,r',ds,es,e1,e2,e3,fun H' sm v i=>q v H' sm i⟩)) h) (fun b1 b2 l1 l2 xs ys aY dB ds es H1 s1 h' I1 sm sq fi al fC iy kU pl jU kZ st Z hl gR hsz k q=>cK ?_) he hpl;have n1:=iy.length;have n2:=kU.length;refine W5h (s:={s1 with heap:=h'}) (I.ok.hd hc) Z (aB hl) (aB (bt gR)) st (pl.keep fun o e=>k _ o e) (jU.keep fun o e=>k _ o e) (by simp only[aH];lia) (fun b hb=>?_) fun h2 tk as c lm jl iA mQ sK ni=>?_
  ·show b<h'.objs.size;rw[hsz];simp only[ar,aV,bG]at hb;rcases hb with rfl |rfl |rfl |rfl |rfl |rfl |rfl<;>(show(_:Nat)<(_:Nat);lia)
  ·have sJ:∀c o,s1.heap.get? c=?P->h2.get? c=?P:=fun c o e=>sK c o (fun z=>by
    have:@LT.lt Nat _ c s1.heap.objs.size:=aA e;simp only[ar,aV,bG]at z;rcases z with rfl |rfl |rfl |rfl<;>lia) (k c o e)
   have I2:A0 X ae σ H1 {s1 with heap:=h2,toks:=tk}:=I1.kept (t':=tk) sJ;have hS:@LE.le Nat _ s1.heap.objs.size h'.objs.size:=by rw[hsz];lia
   have big:∀c,s1.heap.objs.size<=c->H1 c=none/\c≠X.env.locals/\(∀x d,X.env.cells.lookup x=some d->d≠c)/\∀q∈X.pn++ae,q.1≠c:=fun c iQ=>by
    obtain⟨f0,f1,_,_,f4,f5⟩:=I1.fpOk iQ (I1.hok.fresh iQ);exact⟨f0,f1,f4,f5⟩
   have oZ:∀a∈as,s1.heap.objs.size<=a:=fun a qu=>aU hS (dP (iA a qu));have wO:(xs.zip ys).length=Min.min aY.toArray.size dB.toArray.size:=by simp;lia
   obtain⟨H3,I3,mr,ib,yR⟩:=Y4h (X:=X) (s:={s1 with heap:=h2,toks:=tk}) (n0:=s1.heap.objs.size) I1.sz as (xs.zip ys) I2 (by rw[lm,wO]) jl (fun a qu=>⟨oZ a qu,big a (oZ a qu)⟩) fun j a v e1 e2=>by
    obtain⟨x,y,ex,ey,pr⟩:=mQ j a e1;rw[cC]at e2;obtain⟨u,hu,ru⟩:=iy.get e2.1;obtain⟨u',oE,rf⟩:=kU.get e2.2;have ex:aY[j]?=some x:=by simpa using ex
    have ey:dB[j]?=some y:=by simpa using ey
    rw[hu]at ex;cases ex;rw[oE]at ey;cases ey;exact⟨_,_,ru,rf,pr⟩
   have tp:h'.objs.size∉as:=fun z=>aS _ (iA _ z);obtain⟨b1,b2,b3,b4⟩:=big h'.objs.size hS;have hz:(as.map V.ref).length<=sizeLine:=by rw[ai,lm];simp only[aH];lia
   have I4:=Z5l I3 (p:=h'.objs.size) (u:=.lst (as.map V.ref)) (by rw[ib _ tp];exact b1) (.inr (aU I1.sz hS)) b2 b3 b4 ⟨hz,as.map Value.ref,c,Z8d as,ni⟩;have jx:=mr.trans (G7 (p:=h'.objs.size) (by rw[ib _ tp];exact b1) (.lst (as.map V.ref)));refine⟨.ref h'.objs.size,_,I4,rfl,q _ (sm.trans jx) _ ⟨h'.objs.size,as.map V.ref,rfl,sm.free b1,upd_same,?_⟩⟩;have kp:=Kp.of jx;have tX:=al.mono kp _ _;have tW:=fC.mono kp _ _;have yQ:∀(j:Nat) a v,as[j]?=some a->(xs.zip ys)[j]?=some v->A9 H3 h'.objs.size (.lst (as.map V.ref)) a=some (.tup [v.1,v.2]):=fun j a v e1 e2=>by
    rw[B2 (fun z=>tp (by rw[<-z];exact au e1))];exact yR j a v e1 e2
   have lz:as.length=(V7 ds es).length:=by rw[lm,Z9r,al.length,fC.length];simp only[aH];lia
   have key:∀(as:O Ap) (zs:O D) (H:Hp),as.length=zs.length->(∀(j:Nat) a z,as[j]?=some a->zs[j]?=some z->A2 X.K H z (.ref a))->AllS X.K H zs (as.map V.ref):=by
    intro as
    induction as with
    |nil=>intro zs H l _;cases zs with
     |nil=>exact AllS.nil
     |cons _ _=>cases l
    |cons a as ih=>
     intro zs H l f;cases zs with
     |nil=>cases l
     |cons z zs=>exact AllS.cons (f 0 a z rfl rfl) (ih zs H (by simpa using l) fun j a z e1 e2=>f (j+1) a z (by simpa using e1) (by simpa using e2))
   refine key as (V7 ds es) _ lz fun j a z e1 e2=>?_;obtain⟨x,y,ex,ey,rfl⟩:=W1q e2;obtain⟨v1,qh,q1⟩:=tX.get ex;obtain⟨v2,nE,q2⟩:=tW.get ey;exact A2.s_tup (yQ j a (v1,v2) e1 (by rw[cC];exact⟨qh,nE⟩)) (AllS.cons q1 (AllS.cons q2 AllS.nil))
@[simp] theorem V6z {Q:R->Prop}:Z8o wr τ Q=wr τ fun rs=>∃r r' ds es,rs=[r,r']/\V5 r=some ds/\V5 r'=some es/\Q (.nw (V7 ds es)):=rfl
end
def jOr (a b:WIE):WIE:=fun τ Q=>a τ Q\/b τ Q
def iOr (a b:WI):WI:=fun τ Q=>a τ Q\/b τ Q
def L7.or {a b:WIE}(h1:L7 X H0 tg e a)(h2:L7 X H0 tg e b):L7 X H0 tg e (jOr a b) where
 mono:=fun τ P Q f h=>h.elim (fun h=>.inl (h1.mono τ P Q f h)) fun h=>.inr (h2.mono τ P Q f h)
 pi:=fun ae s σ H R I h=>by
  obtain⟨τ,hR,h |h⟩:=h
  ·exact h1.pi ae s σ H R I ⟨τ,hR,h⟩
  ·exact h2.pi ae s σ H R I ⟨τ,hR,h⟩
def DI.or {a b:WI}(h1:DI X H0 tg e a)(h2:DI X H0 tg e b):DI X H0 tg e (iOr a b) where
 mono:=fun τ P Q f h=>h.elim (fun h=>.inl (h1.mono τ P Q f h)) fun h=>.inr (h2.mono τ P Q f h)
 pi:=fun ae s σ H R I h=>by
  obtain⟨τ,hR,h |h⟩:=h
  ·exact h1.pi ae s σ H R I ⟨τ,hR,h⟩
  ·exact h2.pi ae s σ H R I ⟨τ,hR,h⟩
theorem ixNn {j:Nat}(h:j<n):ixN n (j:Int)=some j:=by grind [ixN,bL]
section
variable {a b v:Aq}{op:Operator}{f:Int->Int->Int}
def V4l (K:Fg9):V->V->Hp->VK->Prop:=fun x y H Q=>∃(p:Ap) (xs:O V) (i:Nat) (v:V),x=.ref p/\y=.int (i:Int)/\E8 K H p xs/\xs[i]?=some v/\Q v H
theorem W7a:PGet X (V4l X.K):=by
 intro ae s σ H x y v u Q I rx ry h;obtain⟨p,xs,i,z,rfl,rfl,hq,he,q⟩:=h;cases rx;obtain⟨t,rfl⟩:=ry;obtain⟨aY,r,pl,hz⟩:=I.list hq;obtain⟨w,ew,iG⟩:=r.get he;have hl:=r.length;have hi:i<aY.length:=by
  rcases b7 i aY.length with h |h
  ·exact h
  ·rw[az.mpr h]at ew;cases ew
 have hn:=Q4l;exact wpAny_getItem_list pl.isList (?H) (?H) (by rw[bL];simpa using ew) ⟨z,H,I,iG,q⟩
def Q7r (i:Nat)(f:Int->Int->Int)(we wv:WE):WS:=fun E τ=>∃ds,τ[i]?=some (some (.own ds))/\we τ fun rk=>∃(j:Nat) (x:Int),rk=.st (.int (j:Int))/\ds[j]?=some (.int x)/\wv τ fun r=>∃y,r=.st (.int y)/\E.nx (τ.set i (some (.own (ds.set j (.int (f x y))))))
def Y0a {i:Nat}(hp:PIp X op (ipI f))(ho:PE X o (Q0 i))(he:DE X H0 e we)(hv:DE X H0 v wv)
  (ha:∀ov iv new,augStore e ov iv new=(do holding [new,ov,iv] (setItem ov iv new);release [new,ov,iv] [];pure .next):=by intros;rfl):DS X H0 (.AugAssign (.Subscript o e cf) op v pos) (Q7r i f we wv) where
 mono:=fun τ E F le cy=>(by obtain⟨ds,e1,h⟩:=cy;exact⟨ds,e1,he.mono τ _ _ (fun r cR=>(by obtain⟨j,x,a1,a3,h⟩:=cR;exact⟨j,x,a1,a3,hv.mono τ _ _ (fun r⟨y,b1,b2⟩=>⟨y,b1,le.nx _ b2⟩) h⟩)) h⟩)
 ps:=Q7 (V3w ho he.pe W7a hv.pe hp Y8s ha) fun D σ H fM=>by
  obtain⟨τ,hR,ds,e1,h⟩:=fM;obtain⟨q,xs,ig,h0,sq,al⟩:=hR.ownAt e1;refine⟨_,ig,τ,hR,he.mono τ _ _ (fun rk mK y H1 s1 ik=>?_) h⟩;obtain⟨j,x,a1,a3,h⟩:=mK;subst a1;cases (show y=.int (j:Int)from ik);have nA:=s1 _ _ sq;have kI:=al.mono (Kp.of s1) _ _;obtain⟨z,hz,iz⟩:=kI.get a3;cases (show z=.int x by unfold A2 at iz;exact iz);refine⟨q,xs,j,_,rfl,rfl,E8.of nA,hz,τ,hR.mono s1,hv.mono τ _ _ (fun r iK u H2 s2 iu=>?_) h⟩;obtain⟨y,b1,b2⟩:=iK;subst b1;cases (show u=.int y from iu);have fi:=s2 _ _ nA;have hj:j<xs.length:=by
   rw[<-al.length];rcases b7 j ds.length with h |h
   ·exact h
   ·rw[az.mpr h]at a3;cases a3
  refine⟨x,y,rfl,rfl,q,xs,(j:Int),j,rfl,rfl,fi,ixNn hj,?_⟩;have fC:AllS X.K H2 (ds.set j (.int (f x y))) (xs.set j (.int (f x y))):=AllS.set Q1g j (kI.mono (Kp.of s2) _ _);exact b2 σ _ ((Kp.of (s1.trans s2)).trans (Q2d fi _)) (((hR.mono s1).mono s2).mutate e1 ig h0 fi fC)
@[simp] theorem Y7t {i:Nat}{E:F9}:Q7r i f we wv E τ=∃ds,τ[i]?=some (some (.own ds))/\we τ fun rk=>∃(j:Nat) (x:Int),rk=.st (.int (j:Int))/\ds[j]?=some (.int x)/\wv τ fun r=>∃y,r=.st (.int y)/\E.nx (τ.set i (some (.own (ds.set j (.int (f x y)))))):=rfl
def Q2r:O R->(R->Prop)->Prop
 |[r],Q=>∃ns:O Int,Y4 r=some (ns.map .int)/\Q (.st (.int ns.sum))
 |_,_=>False
def Y9m:Q3v Q2r:=fun x P Q g h=>by
 unfold Q2r at h ⊢;split at h
 ·obtain⟨ns,a,b⟩:=h;exact⟨ns,a,g _ b⟩
 ·exact h
def Y2h (hc:X.calm=true):Q3o X (.builtin "sum") Q2r:=by
 intro ae s σ H xs us Q I rv ⟨rs,dA,h⟩;unfold Q2r at h;split at h
 ·rename_i r;obtain⟨ns,e1,h⟩:=h;obtain⟨v,rfl,ir⟩:=Z6 dA;obtain⟨l,ys,rfl,sq,al⟩:=Q5j e1 ir;obtain⟨u,rfl,ru⟩:=Z2 rv;cases ru;have ey:=Y1o al;subst ey;obtain⟨aY,iy,pl,hz⟩:=I.list sq;obtain⟨ps,ei,en⟩:=Z5j iy;subst ei;have hit:s.heap.IsList l (intItems ps.toArray):=by
   have:=pl.isList;have e:intItems ps.toArray=(ps.map fun p=>Value.int p.1 p.2).toArray:=by simp[intItems]
   rw[e];exact this
  refine sum_intListG (I.ok.hd hc) hit fun h' tk t' k=>⟨.int ns.sum,H,I.kept k,⟨t',?_⟩,h _ _ (A5.refl _) Z7⟩
  have:preSum (numAt ps.toArray) ps.toArray.size=ns.sum:=by
   rw[preSum_eq,List.take_of_length_le ?E,<-en]
  rw[this]
 ·exact h.elim
@[simp] theorem Y8h {r:R}{Q:R->Prop}:Q2r [r] Q=∃ns:O Int,Y4 r=some (ns.map .int)/\Q (.st (.int ns.sum)):=rfl
def J0s {K:Fg9}    {ds:O D}(sq:FzL K H l xs)(al:AllS K H ds xs):Yl K H0 (Irl K l ds.length) ds.reverse H where
 go:=fun H' k s i hi=>⟨by simpa using hi,xs,(k.fzL sq).sq,al.length.symm⟩
 yld:=fun H' k s i v eR d hd fL=>by
  obtain⟨e,hx⟩:=fL;subst e;refine⟨A5.refl _,?_⟩;have hl:=al.length;have hi:i<ds.length:=by
   rcases b7 i ds.length with h |h
   ·exact h
   ·rw[az.mpr (by simpa using h)]at hd;cases hd
  rw[List.getElem?_reverse hi]at hd;obtain⟨v',uI,q⟩:=(al.mono k _ _).get hd;have:=hx xs (k.fzL sq).sq;rw[this]at uI;cases uI;exact q
 stop:=fun H' k s=>by
  show ds.reverse.length=ds.length;simp
def Z5d (wr:WA):WI:=fun τ Q=>wr τ fun rs=>∃ds,rs=[.st (.lst ds)]/\Q ds.reverse τ
theorem W2j (hg:Gl X "reversed")(hm:X.mg "reversed"=none)(hv:bootBuiltins "reversed"=some (.type "reversed"))(ha:DA X H0 [a] wr)(he:starEach [a] X.env=(false,eval a X.env)::starEach [] X.env:=by rfl)(hpl:(backTo pos (starEach [] X.env)).any (·.1)=false:=by rfl):
  DI X H0 tg (.Call (.Name "reversed" p) [a] [] pos) (Z5d wr) where
 mono:=fun τ P Q f h=>ha.mono τ _ _ (fun r⟨ds,e1,q⟩=>⟨ds,e1,f _ _ q⟩) h
 pi:=by
  intro ae s σ H R I ⟨τ,hR,h⟩;refine bn (Q1k I hg hm hv ?_ (?G) (?G));refine bb (B3 (ha.pa pos ae s σ H (fun vs H1=>A5 H H1/\∃l xs ds,vs=[.ref l]/\FzL X.K H1 l xs/\AllS X.K H1 ds xs/\∀J H',Kp H H'->C1 X.K H0 τ σ H'->Yl X.K H0 J ds.reverse H'->R J H') I
   ⟨τ,hR,ha.mono τ _ _ (fun rs ⟨ds,e1,q⟩ vs H1 s1 dA=>⟨s1,by
    subst e1;obtain⟨v,rfl,ir⟩:=Z6 dA;have ir:A2 X.K H1 (.lst ds) v:=ir;unfold A2 at ir;obtain⟨l,xs,rfl,sq,al⟩:=ir;exact⟨l,xs,ds,rfl,sq,al,q⟩⟩) h⟩) fun us s1 bB=>?_) he hpl
  obtain⟨vs,H1,I1,rv,sm,l,xs,ds,e1,sq,al,q⟩:=bB;subst e1;obtain⟨u,rfl,ru⟩:=Z2 rv;cases (show u=Value.ref l from ru);obtain⟨aY,iy,pl,kZ⟩:=I1.list sq.sq;have hl:=iy.length;have gR:=al.length;refine call_reversed_list pl.isList ?_;have hit:(s1.heap.push (revObj l ((aY.toArray.size:Int)-1))).IsRevIter s1.heap.objs.size l ((aY.toArray.size:Int)-1):=⟨_,aG _ rfl,rfl,rfl⟩
  refine wpAny_pyIter_revIter hit ⟨s1.heap.objs.size,[s1.heap.objs.size],_,_,H1,rfl,I1.kept (t':=s1.toks) fun b o e=>af _ e,V9n (l:=l) (n:=ds.length),⟨bj _,?_⟩,fun b hb=>?_,q _ _ (Kp.of sm) (hR.mono sm) (J0s sq al)⟩
  ·have e:((ds.length:Nat):Int)-1-((0:Nat):Int)=(aY.toArray.size:Int)-1:=by simp;lia
   rw[e];exact hit
  ·rw[aE.mp hb];exact I1.fpOk (ak _) (I1.hok.fresh (ak _))
@[simp] theorem V6o {Q:O D->C3->Prop}:Z5d wr τ Q=wr τ fun rs=>∃ds,rs=[.st (.lst ds)]/\Q ds.reverse τ:=rfl
end
def Q8s (rs:O R)(Q:R->Prop):Prop:=∃i j:Int,rs=[.st (.int i),.st (.int j)]/\Q (.st (.int (if j > i then j else i)))
def W9w:Q3v Q8s:=fun rs P Q f⟨i,j,e,h⟩=>⟨i,j,e,f _ h⟩
def W5i (hc:X.calm=true):Q3o X (.builtin "max") Q8s:=by
 intro ae s σ H xs us Q I rv ⟨rs,dA,i,j,e,h⟩;subst e;obtain⟨v,v',rfl,iv,wX⟩:=Y1n dA;cases (show v=.int i from iv);cases (show v'=.int j from wX);obtain⟨u,u',rfl,⟨t1,rfl⟩,⟨t2,rfl⟩⟩:=V9z rv;refine max_two_ints (I.ok.hd hc) fun h' tk k=>⟨_,H,I.kept (t':=tk) k,?_,h _ _ (A5.refl H) Z7⟩
 by_cases cm:j > i
 ·rw[aO cm,aO cm];exact⟨_,rfl⟩
 ·rw[aI cm,aI cm];exact⟨_,rfl⟩
@[simp] theorem V7a {a b:Int}{Q:R->Prop}:Q8s [.st (.int a),.st (.int b)] Q ↔ Q (.st (.int (if b > a then b else a))):=by
 constructor
 ·rintro ⟨i,j,e,h⟩;cases e;exact h
 ·intro h;exact⟨a,b,rfl,h⟩
structure Q5w (K:Fg9)(x qual:Str)(st:Aw)(f:Ap)(fd:At):Prop where
 ex:∃(oc:An) (od:Am Ap) (dV kV dG pm:An) (an:Am Ap) (cdv ct:An) (fK:Array (Am An)),
  fd=PySem.W.fnOf x qual (W9 st) (K6 st) (B8 st) dV kV dG pm an cdv ct/\K.lookup f=some ⟨oc,od,.func fd,fK⟩/\PySem.W.codeIn K cdv qual=true
section
variable {w:Av}{K:Fg9}
def Q5w.ok {k:Nat}{sp:Sp}(F:Q5w K x qual st f fd)(S:T9 N ps (B8 st))(len:∀vs H Q E,sp vs H Q E->vs.length=ps.length)
  (bS:∀(cdv:An) (A:As) (outer:O Env) (s:Ao) (H:Hp) (vs:O V) (Q:VK) (E:XK),?A0->sp vs H Q E ->
   ∃t,T0 (?Y).nox (K6 st) t/\t {nx:=fun _ H'=>Q .non H',rt:=Q} (start N vs) H):O3 P w K mg base G3 (k+1) f fd ps sp:=by
 obtain⟨oc,od,dV,kV,dG,pm,an,cdv,ct,fK,rfl,lk,fA⟩:=F.ex;refine Z0m lk fA S len fun A outer s H vs Q E hr ii=>?_;obtain⟨t,h,q⟩:=bS cdv A outer s H vs Q E hr ii;exact⟨t,h.nox,q⟩
def Q5w.okD {k:Nat}  (F:Q5w K x qual st f fd)(S:T9 N ps (B8 st))
  (bS:∀(cdv:An) (A:As) (outer:O Env) (s:Ao) (H:Hp) (E:XK),?A0 ->
   ∃ws,A7 (?Y).nox H (K6 st) ws /\
    ∀rs r,rs.length=ps.length->sp rs r->ws {nx:=fun _=>r=.st .non,rt:=fun r'=>r'=r,bk:=fun _=>False,ct:=fun _=>False} (E2 N rs)):
  O3 P w K mg base G3 (k+1) f fd ps (Q4k K ps.length sp):=by
 refine F.ok S (fun vs H Q E h=>?_) (fun cdv A outer s H vs Q E hr h=>?_)
 ·obtain⟨rs,r,hl,al,_⟩:=h;rw[<-al.length];exact hl
 obtain⟨rs,r,hl,al,ok,h1,h2⟩:=h;obtain⟨ws,hd,hw⟩:=bS cdv A outer s H E hr;refine⟨_,hd.ps,E2 N rs,Q6y al ok,?_⟩;have hw:=hw (rs.map nrm) r (by rw[ai];exact hl) h1;rw[Q7m]at hw;refine hd.mono _ _ _ ⟨fun τ h σ H' _ hR=>?_,fun r' h v H' sm ir=>?_,fun _ h=>False.elim h,fun _ h=>False.elim h⟩ hw
 ·have h:r=.st .non:=h;subst h;exact h2 .non H' hR.same (Q5b (K:=K) (H:=H'))
 ·have h:r'=r:=h;subst h;exact h2 v H' sm ir
end
structure DfO (K:Fg9)(mg:Str->Am An)(name:Str)(st:Aw)(ps:O Str)(z:Int)(f:Ap)(fd:At):Prop where
 F:Q5w K name name st f fd
 b:∃t,S8 K fd ps [.int z t]
 k:PySem.W.keepIn K (.ref f)=true
 m:mg name=some (.ref f)
section
variable {w:Av}{K:Fg9}
def DfO.ok {z:Int}{k:Nat}   (F:DfO K mg x st ps z f fd)(S:T9 N ps (B8 st))
  (bS:∀(cdv:An) (A:As) (outer:O Env) (s:Ao) (H:Hp) (E:XK),E1 k (A.deeper (envOfC x (B8 st) s.heap.objs.size f cdv))->A7 (K4 G3 P w K mg base N x (B8 st) f cdv A outer s H E).nox H (K6 st) ws)
  (hr:∀rs r,rs.length=ps.length->sp rs r->ws (S9 r) (E2 N rs)):FnD P w K mg base (k+1) f fd ps sp:=
 Q5w.okD F.F S fun cdv A outer s H E oH=>⟨ws,bS cdv A outer s H E oH,hr⟩
end
section
variable {es:O Aq}{k:Nat}{z:Int}
theorem L6.snoc {K:Fg9}  {r:R}{v:V}(h:E7 K H0 H r v):∀{rs:O R}{vs:O V},L6 K H0 H rs vs->L6 K H0 H (rs++[r]) (vs++[v])
 |[],vs,q=>by
  have q:vs=[]:=q;subst q;exact⟨v,[],rfl,h,rfl⟩
 |a::rs,vs,q=>by
  obtain⟨v',ny,rfl,h1,h2⟩:=q;exact⟨v',ny++[v],rfl,h1,L6.snoc h h2⟩
def Z2f (z:Int)(sp:E3)(wr:WA):WE:=fun τ Q=>wr τ fun rs=>rs.all L8=true/\∃r,sp (rs.map nrm++[.st (.int z)]) r/\Q r
def Z9v (F:O3 X.prog X.w X.K X.mg X.base G3 k f fd ps (Q4k X.K ((e::es).length+1) sp))(hr:E1 k X.A)(hg:Gl X x)(hm:X.mg x=some (.ref f))(hk:PySem.W.keepIn X.K (.ref f)=true)(hb:∃t,S8 X.K fd ps [.int z t])
  (ha:DA X H0 (e::es) wr) (eT:?Q:=by decide) (he:?I:=by rfl) (hpl:?S:=by rfl):
  DE X H0 (.Call (.Name x p) (e::es) [] pos) (Z2f z sp wr) where
 mono:=fun τ P Q f h=>ha.mono τ _ _ (fun rs⟨ok,r,h1,h2⟩=>⟨ok,r,h1,f r h2⟩) h
 pe:=by
  obtain⟨t,hb⟩:=hb;refine P7 (Z1j F hr hg hm hk hb (dvs:=[V.int z]) (.cons ⟨t,rfl⟩ .nil) Z1i ha.pa eT he hpl) fun σ H Q ⟨τ,hR,h⟩=>⟨τ,hR,ha.mono τ _ _ (fun rs mJ vs H1 s1 dA=>?_) (ha.len τ _ h)⟩
  obtain⟨lc,ok,r,h1,h2⟩:=mJ;refine⟨rs++[.st (.int z)],r,by rw[ao,lc];rfl,dA.v.snoc ?_,by rw[List.all_append,ok];rfl,by rw[aX];exact h1,fun v H' s2 ir=>h2 v H' (s1.trans s2) (ir.older s1)⟩;exact Q1g (K:=X.K) (H:=H1)
@[simp] theorem Y7u {Q:R->Prop}:Z2f z sp wr τ Q=wr τ fun rs=>rs.all L8=true/\∃r,sp (rs.map nrm++[.st (.int z)]) r/\Q r:=rfl
end
section
variable {a:Aq}{es:O Aq}{k l:Nat}
def DE.cl (F:O3 X.prog X.w X.K X.mg X.base G3 l f fd ps (Q4k X.K (e::es).length sp))(hr:E1 k X.A)(D:Df X.K X.mg x st ps f fd)(ha:DA X H0 (e::es) wr)(hl:l<=k:=by decide)(hg:Gl X x:=by rfl)
  (eT:?Q:=by decide) (he:?I:=by rfl) (hpl:?S:=by rfl):
  DE X H0 (.Call (.Name x p) (e::es) [] pos) (J8 sp wr):=DE.call F (hr.mono hl) hg D.m D.k D.b ha eT he hpl
def W6 {sp:J4}(oM:X9 sp)(F:O3 X.prog X.w X.K X.mg X.base G3 l f fd ps (Q6s X.K ts (e::es).length sp))(hr:E1 k X.A)(hT:Q0d ts H0)(D:Df X.K X.mg x st ps f fd)(ha:DA X H0 (e::es) wr)(hl:l<=k:=by decide)(hg:Gl X x:=by rfl)
  (eT:?Q:=by decide) (he:?I:=by rfl) (hpl:?S:=by rfl):
  DE X H0 (.Call (.Name x p) (e::es) [] pos) (S6 sp wr):=W1v oM F (hr.mono hl) hT hg D.m D.k D.b ha eT he hpl
def DE.v (i:Nat)(hN:X.N[i]?=some x:=by rfl)(hv:Vis X.env.scope x:=by first |exact Or.inl rfl |exact Or.inr (Or.inl rfl) |exact Or.inr (Or.inr rfl))(hd:?Q:=by decide)
  (fA:(x==("__classdict__":Str))=false:=by decide):DE X H0 (.Name x pos) (wV i):=W2f (pv i hN hv hd fA)
def DA.one (ha:DE X H0 a wa)(hs:starEach [a] X.env=(false,eval a X.env)::starEach [] X.env:=by rfl):DA X H0 [a] (A1 wa A4):=DA.cons ha DA.nil hs
def O8 (i:Nat)(he:DE X H0 e wa)(hN:X.N.Nodup)(hi:X.N[i]?=some x:=by rfl)(hx:Loc X.env.scope x:=by first |exact Or.inl rfl |exact Or.inr rfl)(hs:swapsWith e (some (.Name x p)) pos.line X.env=pure false:=by rfl)
  (hf:?J:=by sleep 1):DS X H0 (.Assign [.Name x p] e pos) (C2 i wa):=DS.set he hN hi hx hs hf
def scB (N P:O Str)(sc:Scope):Bool:=decide (sc.kind=.function)&&!sc.isCoroutine&&!sc.isGenerator&&decide N.Nodup&&decide (N.take P.length=P)&&P.all (fun x=>decide (sc.names.lookup x=some .local)||decide (sc.names.lookup x=some .cell))&&sc.names.all (fun y=>decide (y.2≠.free))
def Q1w {P:O Str}  (h:scB N P sc=true):T9 N P sc:=by
 unfold scB at h;simp only[ce,zp,cc,Bool.or_eq_true,zw]at h;obtain⟨⟨⟨⟨⟨⟨h1,h2⟩,h3⟩,h4⟩,h5⟩,h6⟩,h7⟩:=h;exact⟨h1,h2,h3,h4,h5,h6,h7⟩
def W4z:bootBuiltins "len"=some (.builtin "len"):=?D
def W5a:bootBuiltins "tuple"=some (.type "tuple"):=?D
def DE.len (hm:X.mg "len"=none)(ha:DE X H0 a wa)(hg:Gl X "len":=by rfl)(hs:starEach [a] X.env=(false,eval a X.env)::starEach [] X.env:=by rfl)(hpl:(backTo pos (starEach [] X.env)).any (·.1)=false:=by rfl):DE X H0 (.Call (.Name "len" p) [a] [] pos) (D8 F2 (A1 wa A4)):=
 Q3p W5f W9d hg hm W4z (DA.cons ha DA.nil hs) (he:=hs) (hpl:=hpl)
def Q7v (hm:X.mg "tuple"=none)(ha:DE X H0 a wa)(hg:Gl X "tuple":=by rfl)(hs:starEach [a] X.env=(false,eval a X.env)::starEach [] X.env:=by rfl)(hpl:(backTo pos (starEach [] X.env)).any (·.1)=false:=by rfl):DE X H0 (.Call (.Name "tuple" p) [a] [] pos) (D8 V2 (A1 wa A4)):=
 Z9w W5k V9h hg hm W5a (DA.cons ha DA.nil hs) (he:=hs) (hpl:=hpl)
end
def Hr (K:Fg9)(n:Str)(st:Aw)(f:Ap)(fd:At):Prop:=PySem.W.nsIn K mainGlobals n=some (some (.ref f))/\Fun K n n st f fd
def HrC (K:Fg9)(n:Str)(st:Aw)(f:Ap)(fd:At)(c Pt:Ap)(ts:O Ap):Prop:=PySem.W.nsIn K mainGlobals n=some (some (.ref f))/\PySem.W.keepIn K (.ref f)=true /\
 (∃(oc:An) (od:Am Ap) (kV dG pm:An) (an:Am Ap) (ct:An) (fK:Array (Am An)),fd=PySem.W.fnOf n n (W9 st) (K6 st) (B8 st) .none kV dG pm an (.ref c) ct/\K.lookup f=some ⟨oc,od,.func fd,fK⟩/\PySem.W.codeIn K (.ref c) n=true) /\
 (∃(vo:An) (vd:Am Ap) (vv:Array An) (vs:Array (Am An)),K.lookup c=some ⟨vo,vd,.fields vv,vs⟩/\vv[11]?=some (.ref Pt))/\PySem.W.codeHdIn K c Pt=true/\K.lookup Pt=none/\Pt∈ts
section
variable {K:Fg9}{n:Str}{c:Ap}
def W7h {kV:An}(a:PySem.W.nsIn K mainGlobals n=some (some (.ref f)))(l:K.lookup f=some ⟨oc,od,.func (PySem.W.fnOf n n (W9 st) (K6 st) (B8 st) .none kV dG pm an cdv ct),fK⟩)(q:PySem.W.codeIn K cdv n=true)(k:PySem.W.keepIn K (.ref f)=true):
  Hr K n st f (PySem.W.fnOf n n (W9 st) (K6 st) (B8 st) .none kV dG pm an cdv ct):=⟨a,W6y l q k⟩
def W7i {vo:An}{vd:Am Ap}{vs:Array (Am An)}{kV:An}{vv:Array An}(a:PySem.W.nsIn K mainGlobals n=some (some (.ref f)))(l:K.lookup f=some ⟨oc,od,.func (PySem.W.fnOf n n (W9 st) (K6 st) (B8 st) .none kV dG pm an (.ref c) ct),fK⟩)(q:PySem.W.codeIn K (.ref c) n=true)(k:PySem.W.keepIn K (.ref f)=true)
  (v:K.lookup c=some ⟨vo,vd,.fields vv,vs⟩) (p:vv[11]?=some (.ref Pt)) (e:PySem.W.codeHdIn K c Pt=true) (o:K.lookup Pt=none) (m:Pt∈ts):HrC K n st f (PySem.W.fnOf n n (W9 st) (K6 st) (B8 st) .none kV dG pm an (.ref c) ct) c Pt ts:=
 ⟨a,k,⟨_,_,_,_,_,_,_,_,rfl,l,q⟩,⟨_,_,_,_,v,p⟩,e,o,m⟩
def Hr.df (H:Hr K n st f fd)(X:K.In h)(G:h.Ns mainGlobals mg)(hb:∀(kV dG pm:An) (an:Am Ap) (cdv ct:An) (us:O An),us.length=ps.length->bindArgs (PySem.W.fnOf n n (W9 st) (K6 st) (B8 st) .none kV dG pm an cdv ct) ⟨us,[]⟩=pure (ps.zip us)):Df K mg n st ps f fd:=
 ⟨H.2,H.2.binds hb,H.2.kp,eh X G H.1⟩
def HrC.hr (H:HrC K n st f fd c Pt ts):Hr K n st f fd:=let ⟨a,k,⟨oc,od,kV,dG,pm,an,ct,fK,e,l,q⟩,_⟩:=H;⟨a,⟨oc,od,kV,dG,pm,an,_,ct,fK,e,l,q⟩,k⟩
def HrC.fc (H:HrC K n st f fd c Pt ts):Q0r K n n st f fd c Pt:=let ⟨_,_,e,_,q,_⟩:=H;⟨e,q⟩
def HrC.tb (H:HrC K n st f fd c Pt ts):Pt∈ts:=let ⟨_,_,_,_,_,_,m⟩:=H;m
def HrC.at (H:HrC K n st f fd c Pt ts):(∃c,PySem.W.codeHdIn K c Pt=true)/\K.lookup Pt=none:=let ⟨_,_,_,_,q,n,_⟩:=H;⟨⟨_,q⟩,n⟩
end
@[elab_as_elim] theorem lst1 {P:O α->Prop}(us:O α)(hl:us.length=1)(h:∀a,P [a]):P us:=by
 obtain⟨a,rfl⟩:=List.length_eq_one_iff.mp hl;exact h a
@[elab_as_elim] theorem lst2 {P:O α->Prop}(us:O α)(hl:us.length=2)(h:∀a b,P [a,b]):P us:=by
 cases us with
 |nil=>cases hl
 |cons a us=>exact @lst1 α (fun l=>P (a::l)) us (nU hl) (h a)
@[elab_as_elim] theorem lst3 {P:O α->Prop}(us:O α)(hl:us.length=3)(h:∀a b c,P [a,b,c]):P us:=by
 cases us with
 |nil=>cases hl
 |cons a us=>exact @lst2 α (fun l=>P (a::l)) us (nU hl) (h a)
@[elab_as_elim] theorem lst4 {P:O α->Prop}(us:O α)(hl:us.length=4)(h:∀a b c d,P [a,b,c,d]):P us:=by
 cases us with
 |nil=>cases hl
 |cons a us=>exact @lst3 α (fun l=>P (a::l)) us (nU hl) (h a)
def HrO (K:Fg9)(n:Str)(st:Aw)(z:Int)(f:Ap)(fd:At):Prop:=PySem.W.nsIn K mainGlobals n=some (some (.ref f))/\PySem.W.keepIn K (.ref f)=true /\
 ∃(oc:An) (od:Am Ap) (kV dG pm:An) (an:Am Ap) (cdv ct:An) (fK:Array (Am An)) (dT:Ap) (dC:An) (dD:Am Ap) (dN:Nat) (dS:Array (Am An)) (t:Tok),
  fd=PySem.W.fnOf n n (W9 st) (K6 st) (B8 st) (.ref dT) kV dG pm an cdv ct/\K.lookup f=some ⟨oc,od,.func fd,fK⟩/\PySem.W.codeIn K cdv n=true/\K.lookup dT=some ⟨dC,dD,.seq #[.int z t] dN,dS⟩
section
variable {K:Fg9}{n:Str}{z:Int}
def W7j {kV:An}{dT:Ap}{dC:An}{dD:Am Ap}{dN:Nat}  {t:Tok}(a:PySem.W.nsIn K mainGlobals n=some (some (.ref f)))
  (l:K.lookup f=some ⟨oc,od,.func (PySem.W.fnOf n n (W9 st) (K6 st) (B8 st) (.ref dT) kV dG pm an cdv ct),fK⟩) (q:PySem.W.codeIn K cdv n=true) (k:PySem.W.keepIn K (.ref f)=true) (d:K.lookup dT=some ⟨dC,dD,.seq #[.int z t] dN,dS⟩):
  HrO K n st z f (PySem.W.fnOf n n (W9 st) (K6 st) (B8 st) (.ref dT) kV dG pm an cdv ct):=⟨a,k,_,_,_,_,_,_,_,_,_,_,_,_,_,_,_,rfl,l,q,d⟩
def HrO.df (H:HrO K n st z f fd)(X:K.In h)(G:h.Ns mainGlobals mg)
  (hb:∀(kV dG pm:An) (an:Am Ap) (cdv ct:An) (dT:Ap) (dC:An) (dD:Am Ap) (dN:Nat) (dS:Array (Am An)) (t:Tok),K.lookup dT=some ⟨dC,dD,.seq #[.int z t] dN,dS⟩->S8 K (PySem.W.fnOf n n (W9 st) (K6 st) (B8 st) (.ref dT) kV dG pm an cdv ct) ps [.int z t]):DfO K mg n st ps z f fd:=by
 obtain⟨a,k,oc,od,kV,dG,pm,an,cdv,ct,fK,dT,dC,dD,dN,dS,t,rfl,l,q,d⟩:=H;exact⟨⟨⟨_,_,_,_,_,_,_,_,_,_,rfl,l,q⟩⟩,⟨t,hb _ _ _ _ _ _ _ _ _ _ _ _ d⟩,k,eh X G a⟩
end
section
variable [DecidableEq α]
def R0 (ks:O α)(g:α):O α:=if g∈ks then ks else ks++[g]
def Z3r {ks:O α}{g:α}(h:g∈ks):R0 ks g=ks:=aO h
def Z3s {ks:O α}{g:α}(h:g∉ks):R0 ks g=ks++[g]:=aI h
theorem W4q (ks:O α)(g:α):ks <+: R0 ks g:=by grind [R0,bA,cM]
theorem Y5m {ks:O α}{g x:α}:x∈R0 ks g ↔ x∈ks\/x=g:=by grind [R0,aN,aE]
theorem V0w {ks:O α}{g:α}(h:ks.Nodup):(R0 ks g).Nodup:=by grind [R0,aE]
theorem Z5g {ks ls:O α}{g:α}(p:ks <+: ls)(h:g∈ks):ls.idxOf g=ks.idxOf g:=by
 obtain⟨t,rfl⟩:=p;rw[fw,aO h]
def G8 (st:Nat->α):?N->O α->?N->O α×?N
 |[],ks,r=>(ks,r)
 |c::cs,ks,r=>G8 st cs (R0 ks (st c)) (r++[(R0 ks (st c)).idxOf (st c)])
theorem Q7a (st:Nat->α):∀(cs:?N) (ks:O α) (r:?N),ks <+: (G8 st cs ks r).1
 |[],ks,r=>bA _
 |c::cs,ks,r=>(W4q ks (st c)).trans (Q7a st cs _ _)
theorem Y7o (st:Nat->α):∀(cs:?N) (ks:O α) (r:?N),ks.Nodup->(G8 st cs ks r).1.Nodup
 |[],ks,r,h=>h
 |c::cs,ks,r,h=>Y7o st cs _ _ (V0w h)
theorem Y5s (st:Nat->α){x:α}:∀(cs:?N) (ks:O α) (r:?N),x∈(G8 st cs ks r).1 ↔ x∈ks\/∃c∈cs,x=st c:=by intro cs;induction cs<;>grind [G8,Y5m]
theorem Z6w (st:Nat->α):∀(cs:?N) (ks:O α) (r:?N),(G8 st cs ks r).2=r++cs.map fun c=>(G8 st cs ks r).1.idxOf (st c):=by intro cs;induction cs<;>grind [G8,R0,Z5g,Q7a,av,bW]
abbrev B5:?N:=[0,1,2,3]
def O2 (step:α->Nat->α):Nat->O α->O (?N)->O α×O (?N)
 |0,ks,rs=>(ks,rs)
 |n+1,ks,rs=>match ks[rs.length]? with
  |none=>(ks,rs)
  |some k=>O2 step n (G8 (step k) B5 ks []).1 (rs++[(G8 (step k) B5 ks []).2])
structure Z5 (step:α->Nat->α)(start:α)(U:O α)(ks:O α)(rs:O (?N)):Prop where
 nd:ks.Nodup
 zero:ks[0]?=some start
 sub:∀k∈ks,k∈U
 len:rs.length<=ks.length
 row:∀(i:Nat) (r:?N),rs[i]?=some r->∃k,ks[i]?=some k/\(∀c∈B5,?A2∈ks)/\r=B5.map fun c=>ks.idxOf (?A2)
def Z5.start {step:α->Nat->α}{start:α}{U:O α}(h:start∈U):Z5 step start U [start] []:=
 ⟨by simp,rfl,fun k hk=>by rw[aE]at hk;exact hk▸h,by simp,fun i r e=>by simp at e⟩
theorem Z5.next {step:α->Nat->α}{start k:α}{U:O α}{ks:O α}  (hU:∀k∈U,∀c∈B5,?A2∈U)(W:Z5 step start U ks rs)(hk:ks[rs.length]?=some k):
  Z5 step start U (G8 (step k) B5 ks []).1 (rs++[(G8 (step k) B5 ks []).2]):=by
 have p:=Q7a (step k) B5 ks [];have kin:k∈ks:=au hk;have get:∀{i:Nat}{x:α},ks[i]?=some x->(G8 (step k) B5 ks []).1[i]?=some x:=fun {i x} e=>by
  obtain⟨t,ht⟩:=p;rw[<-ht,aJ]
  ·exact e
  ·obtain⟨h,_⟩:=aD.mp e;exact h
 have lt:rs.length<ks.length:=by obtain⟨h,_⟩:=aD.mp hk;exact h
 refine⟨Y7o _ _ _ _ W.nd,get W.zero,fun x hx=>?_,?_,fun i r e=>?_⟩
 ·rcases (Y5s _ _ _ _).mp hx with h |⟨c,hc,rfl⟩
  ·exact W.sub x h
  ·exact hU k (W.sub k kin) c hc
 ·rw[ao,bi];exact aU lt p.length_le
 ·rcases b7 i rs.length with h |h
  ·rw[aJ h]at e;obtain⟨k',e1,e2,e3⟩:=W.row i r e;refine⟨k',get e1,fun c hc=>p.subset (e2 c hc),?_⟩;rw[e3];exact aT fun c hc=>(Z5g p (e2 c hc)).symm
  ·rw[aR h]at e;have:i-rs.length=0:=by
    rcases cL (i-rs.length)with z |z
    ·exact z
    ·rw[az.mpr ?U]at e;cases e
   rw[this]at e;have e:(G8 (step k) B5 ks []).2=r:=aC e;refine⟨k,get (by rw[show i=rs.length by lia];exact hk),fun c hc=>(Y5s _ _ _ _).mpr (.inr ⟨c,hc,rfl⟩),?_⟩;rw[<-e,Z6w,dn]
def Z5.bound {step:α->Nat->α}{start:α}{U:O α}{ks:O α}  (W:Z5 step start U ks rs):ks.length<=U.length:=W.nd.length_le_of_subset fun x hx=>W.sub x hx
theorem W1e {step:α->Nat->α}{start:α}{U:O α}(hU:∀k∈U,∀c∈B5,?A2∈U):∀(n:Nat) (ks:O α) (rs:O (?N)),Z5 step start U ks rs->U.length<=n+rs.length ->
  Z5 step start U (O2 step n ks rs).1 (O2 step n ks rs).2/\(O2 step n ks rs).2.length=(O2 step n ks rs).1.length
 |0,ks,rs,W,h=>⟨W,by have:=W.bound;have:=W.len;simp[O2];lia⟩
 |n+1,ks,rs,W,h=>by
  unfold O2;split
  ·rename_i e;have:=az.mp e;exact⟨W,by have:=W.len;simp;lia⟩
  ·rename_i k e;exact W1e hU n _ _ (W.next hU e) ?U
structure Q2h (step:α->Nat->α)(start:α)(U ks:O α)(rs:O (?N)):Prop where
 nd:ks.Nodup
 zero:ks[0]?=some start
 sub:∀k∈ks,k∈U
 len:rs.length=ks.length
 mem:∀k∈ks,∀c∈B5,?A2∈ks
 row:∀(i:Nat) (k:α),ks[i]?=some k->rs[i]?=some (B5.map fun c=>ks.idxOf (?A2))
def V6 (N:Nat)(step:α->Nat->α)(start:α):O α×O (?N):=O2 step N [start] []
def Q5t {step:α->Nat->α}{start:α}{U:O α}{N:Nat}(hU:∀k∈U,∀c∈B5,?A2∈U)(hs:start∈U)(hN:U.length<=N):Q2h step start U (V6 N step start).1 (V6 N step start).2:=by
 unfold V6;obtain⟨W,e⟩:=W1e hU N [start] [] (Z5.start hs) (by simpa using hN);refine⟨W.nd,W.zero,W.sub,e,fun k hk c hc=>?_,fun i k hk=>?_⟩
 ·obtain⟨i,hi,rfl⟩:=bv.mp hk;have jn:i<(O2 step N [start] []).2.length:=by rw[e];exact hi
  obtain⟨k',e1,e2,_⟩:=W.row i _ (ac jn);rw[ac hi]at e1;cases e1;exact e2 c hc
 ·obtain⟨hi,rfl⟩:=aD.mp hk;have jn:i<(O2 step N [start] []).2.length:=by rw[e];exact hi
  obtain⟨k',e1,_,e3⟩:=W.row i _ (ac jn);have gw:(O2 step N [start] []).1[i]?=some k':=e1;rw[ac hi]at gw;cases gw;rw[ac jn,e3]
section
variable [DecidableEq κ]{key:α->κ}
def M3 (key:α->κ)(L:O (α×D)):O (κ×D):=L.map fun p=>(key p.1,p.2)
theorem Q3d (inj:∀a b,key a=key b->a=b)(L:O (α×D))(g:α):F8 (M3 key L) (key g)=F8 L g:=by induction L<;>grind [F8,M3,av,bp]
theorem Z2b {L:O (α×D)}{g:α}:(F8 L g).isSome=decide (g∈L.map (·.1)):=by grind [F8]
theorem Z0s (inj:∀a b,key a=key b->a=b){L:O (α×D)}{g:α}(h:g∉L.map (·.1))(d:D):P8 (M3 key L) (key g) d=M3 key (L++[(g,d)]):=by grind [P8,M3,List.any_eq_true]
theorem W0i {L:O (α×D)}(nd:(L.map (·.1)).Nodup){g:α}{d:D}(h:(g,d)∈L):F8 L g=some d:=by induction L<;>grind [av,bg,F8,bp]
def O6 (ks:O α):O (α×D):=ks.zipIdx.map fun p=>(p.1,D.int (p.2:Int))
def Z1a (ks:O α):(O6 ks).map (·.1)=ks:=by
 unfold O6;rw[aF];exact List.zipIdx_map_fst 0 ks
def Y6b (ks:O α)(g:α):O6 (ks++[g])=O6 ks++[(g,D.int (ks.length:Int))]:=by
 unfold O6;rw[List.zipIdx_append];simp
theorem Z1b {ks:O α}{g:α}(h:g∈ks):F8 (O6 ks) g=some (.int (ks.idxOf g:Nat)):=by
 have key:∀(ks:O α) (n:Nat),g∈ks->F8 (ks.zipIdx n |>.map fun p=>(p.1,D.int (p.2:Int))) g=some (.int ((n+ks.idxOf g:Nat):Int)):=by
  intro ks
  induction ks with
  |nil=>intro n h;cases h
  |cons k ks ih=>
   intro n h;unfold F8 at ih ⊢;rw[cI,av,bp]
   by_cases e:k=g
   ·subst e;simp
   ·have hg:g∈ks:=by
     rcases ar.mp h with z |z
     ·exact absurd z.symm e
     ·exact z
    simp only[e,decide_false];rw[ih (n+1) hg,List.idxOf_cons];have e':(k==g)=false:=by simp[e]
    rw[e'];simp;lia
 have:=key ks 0 h;rw[cG]at this;exact this
end
end
abbrev W4k:O Str:=["start","step","keys","numbers","rows","key","row","column","goal"]
def Z9d (ef:N1)  :WS:=(A6 (C2 2 (S7 (A1 (B4 (wV 0)) A4))) (A6 (Z8h 3 (wV 0) ?A5) (A6 (C2 4 (S7 A4)) (A6 (Z2l 2 (Q2a (A3 (K8 fun i j=>decide (i<j)) (D8 F2 (A1 (wV 4) A4)) (D8 F2 (A1 (wV 2) A4))) (A6 (C2 5 (A3 A8 (wV 2) (D8 F2 (A1 (wV 4) A4)))) (A6 (C2 6 (S7 A4)) (A6 (Q8 (Q4f (A1 (D8 F2 (A1 (wC (.str "01ab")) A4)) A4)) (B6 7) (A6 (C2 8 (Q0p ef 2 1 (A1 (wV 5) (A1 (wV 7) A4)))) (A6 (N7 (Z2i 3 (wV 8)) (A6 (Z2j 3 (wV 8) (D8 F2 (A1 (wV 2) A4))) (M8 2 (B4 (wV 8)))) M9) (M8 6 (B4 (Z2h 3 (wV 8))))))) (M8 4 (B4 (D8 V2 (A1 (wV 6) A4))))))))) (J3 (X6 (A1 (B4 (wV 2)) (A1 (B4 (D8 V2 (A1 (wV 4) A4))) A4))))))))
abbrev W4l:O Str:=["start","step","keys","numbers","rows","key","row","column","goal"]
def Z9e (ef:N1)  :WS:=(A6 (C2 2 (S7 (A1 (B4 (wV 0)) A4))) (A6 (Z2n 3 (wV 0) ?A5) (A6 (C2 4 (S7 A4)) (A6 (Z2l 2 (Q2a (A3 (K8 fun i j=>decide (i<j)) (D8 F2 (A1 (wV 4) A4)) (D8 F2 (A1 (wV 2) A4))) (A6 (C2 5 (A3 A8 (wV 2) (D8 F2 (A1 (wV 4) A4)))) (A6 (C2 6 (S7 A4)) (A6 (Q8 (Q4f (A1 (D8 F2 (A1 (wC (.str "01ab")) A4)) A4)) (B6 7) (A6 (C2 8 (Q0p ef 2 1 (A1 (wV 5) (A1 (wV 7) A4)))) (A6 (N7 (Q4x 3 (wV 8)) (A6 (Q4y 3 (wV 8) (D8 F2 (A1 (wV 2) A4))) (M8 2 (B4 (wV 8)))) M9) (M8 6 (B4 (Q2t 3 (wV 8))))))) (M8 4 (B4 (D8 V2 (A1 (wV 6) A4))))))))) (J3 (X6 (A1 (B4 (wV 2)) (A1 (B4 (D8 V2 (A1 (wV 4) A4))) A4))))))))
abbrev Y0r:O Str:=["some","onward","reached","states","place","state","goal"]
def W0q (K:Fg9):WS:=(A6 (Z8l 2 1 [] (Q4h (wV 0)) (B6 0) (wV 0) (B4 ?A5)) (A6 (C2 3 (D8 Q5i (A1 (wV 2) A4))) (A6 (C2 4 ?A5) (A6 (Q2a (A3 (K8 fun i j=>decide (i<j)) (wV 4) (D8 F2 (A1 (wV 3) A4))) (A6 (C2 5 (A3 A8 (wV 3) (wV 4))) (A6 (Q8 (Q5h (B4 (A3 A8 (wV 1) (wV 5)))) (B6 6) (N7 (Q4x 2 (wV 6)) (A6 (Q4y 2 (wV 6) (A3 G2 (Q2t 2 (wV 5)) ?X)) (M8 3 (B4 (wV 6)))) M9)) (Z3 4 (J1 NoC fun i j=>i+j) ?X)))) (Z8s K 2)))))
abbrev Q9t:O Str:=["ends","rows","wanted","backward","state","row","goal","reached"]
def W0r (K:Fg9)(sp_all_reached:J4):WS:=(A6 (Z8n 3 1 [] (jOr (Q0z (wV 1)) (Q4h (wV 1))) (B6 0) (S7 A4)) (A6 (Z8k 3 (Q8 (iOr (Q6l (A1 (wV 1) A4)) (Q8m (A1 (wV 1) A4))) (P3 2 (F7 (B6 4) (F7 (B6 5) Q4))) (Q8 (Z5f (wV 5)) (B6 6) (Q9i 3 (wV 6) (B4 (wV 4)))))) (A6 (Z8t 7 (S6 sp_all_reached (A1 (Q1 2 [2] (Z0q (A1 (wV 0) A4)) (P3 2 (F7 (B6 0) (F7 (B6 1) Q4))) (A3 (T5 60 false) (wV 1) (wV 2)) (B4 (wV 0))) (A1 (wV 3) A4)))) (J3 (Q1 1 [7] (Q6n (A1 (D8 F2 (A1 (wV 0) A4)) A4)) (B6 0) S0 (B4 (Z8i K 1 (wV 0))))))))
abbrev Y0w:O Str:=["marks","numbers"]
noncomputable def W0z:WS:=(Z8p 1 (Q4h (wV 0)))
abbrev Y1c:O Str:=["ends","rows","blocks","many"]
def W1d (sp_numbered:E3)(sp_distances:J4):WS:=(A6 (C2 2 (B4 (J8 sp_numbered (A1 (Z8o (A1 (S6 sp_distances (A1 (wV 0) (A1 (wV 1) (A1 (wC (.bl true)) A4)))) (A1 (S6 sp_distances (A1 (wV 0) (A1 (wV 1) (A1 (wC (.bl false)) A4)))) A4))) A4)))) (A6 (C2 3 ?A5) (A6 (Q2a (A3 (K8 fun i j=>decide (j<=i)) (D8 Q1b (A1 (wV 2) A4)) (wV 3)) (A6 (C2 3 (A3 G2 (D8 Q1b (A1 (wV 2) A4)) ?X)) (C2 2 (B4 (J8 sp_numbered (A1 (Q1 2 [2] (Z0r (A1 (wV 2) (A1 (wV 1) A4))) (P3 2 (F7 (B6 0) (F7 (B6 1) Q4))) S0 (B4 (X6 (A1 (B4 (wV 0)) (A1 (B4 (D8 V2 (A1 (Q1 1 [2] (Q0z (wV 1)) (B6 0) S0 (B4 (A3 A8 (wV 1) (wV 0)))) A4))) A4))))) A4)))))) (Q9l 2))))
abbrev Y0u:O Str:=["ends","rows","blocks","samples","state","block","keys","fewer_rows"]
def Z2r (K:Fg9):WE:=(A3 A8 (wV 4) (A3 A8 (A3 A8 (wV 3) (Z2k K 2 (wV 0))) (wV 1)))
def Z8x (ef:N1)  (K:Fg9)(sp_told_apart:J4)(sp_walkedK:E3):WS:=(A6 (C2 2 (B4 (S6 sp_told_apart (A1 (wV 0) (A1 (wV 1) A4))))) (A6 (Z8m 3) (A6 (Z8j K 3 (Q8 (Q8m (A1 (wV 2) A4)) (P3 2 (F7 (B6 4) (F7 (B6 5) Q4))) (Z2o 3 (wV 5) (wV 4)))) (A6 (Q4w (Z2g ef 2 [("samples",3),("rows",1),("blocks",2)] (Z2r K) sp_walkedK (A3 A8 (wV 2) ?A5)) (P3 2 (F7 (B6 6) (F7 (B6 7) Q4)))) (J3 (X6 (A1 (B4 (D8 V2 (A1 (Q1 1 [0,3] (Q4h (wV 6)) (B6 0) S0 (B4 (A3 A8 (wV 1) (Z2k K 2 (wV 0))))) A4))) (A1 (B4 (wV 7)) A4))))))))
abbrev Y0s:O Str:=["start","step","is_end","keys","rows"]
def Z8u (ef:N1)  (sp_walked:E3)(sp_least:J4):WS:=(A6 (Q4w (J8 sp_walked (A1 (wV 0) (A1 (wV 1) A4))) (P3 2 (F7 (B6 3) (F7 (B6 4) Q4)))) (J3 (S6 sp_least (A1 (Q1 1 [2] (Q4h (wV 3)) (B6 0) S0 (B4 (Q0p ef 1 1 (A1 (wV 0) A4)))) (A1 (wV 4) A4)))))
abbrev Y0y:O Str:=["one","other","rows","other_rows"]
def Z2t:WE:=(X6 (A1 (B4 (A3 A8 (A3 A8 (wV 2) (A3 A8 (wV 0) ?A5)) (wV 1))) (A1 (B4 (A3 A8 (A3 A8 (wV 3) (A3 A8 (wV 0) ?X)) (wV 1))) A4)))
def Z8f:WS:=(C2 2 (A3 A8 (wV 0) ?X))
def Z8g:WS:=(C2 3 (A3 A8 (wV 1) ?X))
abbrev Y0x:O Str:=["one","other","is_end","ends","other_ends"]
def Z2s (gy:N1):WE:=(Q0p gy 2 2 (A1 (A3 A8 (wV 3) (A3 A8 (wV 0) ?A5)) (A1 (A3 A8 (wV 1) (A3 A8 (wV 0) ?X)) A4)))
def Z8e:WS:=(C2 3 (A3 A8 (wV 0) ?A5))
def w2_pair_end:WS:=(C2 4 (A3 A8 (wV 1) ?A5))
abbrev W4i:O Str:=["one","other","is_end"]
def Z9a (sp_built:J4)(sp_pair_step:J4)(sp_pair_end:J4):WS:=(J3 (S6 sp_built (A1 (X6 (A1 (B4 ?A5) (A1 (B4 ?A5) A4))) (A1 (S6 sp_pair_step (A1 (wV 0) (A1 (wV 1) A4))) (A1 (S6 sp_pair_end (A1 (wV 0) (A1 (wV 1) (A1 (wV 2) A4)))) A4)))))
abbrev W4c:O Str:=["one","other"]
def Q9n:WE:=(Q9k (wV 0) (wV 1))
def W0s (gy:N1)  (fU:J4):WS:=(J3 (S6 fU (A1 (wV 0) (A1 (wV 1) (A1 (Z2p gy 2 (R4 Q9n [])) A4)))))
abbrev W4f:O Str:=["_law_script","_law_k"]
def Z8w:WS:=(A6 (N7 (A3 (T5 60 false) (wV 0) (S7 A4)) (J3 (A3 W4 (wC (.int 7)) (wV 1))) M9) (J3 (A3 G2 (A3 A8 (wV 0) (A3 (J1 (fun _ j=>0<j) fun i j=>i % j) (wV 1) (D8 F2 (A1 (wV 0) A4)))) (A3 W4 (wC (.int 6553)) (A3 (J1 Q2b fun i j=>i / j) (wV 1) (D8 F2 (A1 (wV 0) A4)))))))
abbrev W4g:O Str:=["_law_script","_law_k","_law_many","_law_cell_here"]
def W0v (i8:E3):WS:=(A6 (C2 3 (A3 (J1 (fun _ j=>0<j) fun i j=>i % j) (A3 G2 (A3 W4 (A3 (J1 (fun _ j=>0<j) fun i j=>i % j) (J8 i8 (A1 (wV 0) (A1 (wV 1) A4))) (wC (.int 2147483563))) (wC (.int 69069))) (A3 W4 (wC (.int 104723)) (A3 G2 (wV 1) ?X))) (wC (.int 2147483563)))) (A6 (C2 3 (A3 (J1 (fun _ j=>0<j) fun i j=>i % j) (A3 G2 (A3 W4 (wV 3) (wV 3)) (A3 (J1 Q2b fun i j=>i / j) (wV 3) (wC (.int 3)))) (wC (.int 2147483399)))) (J3 (A3 (J1 (fun _ j=>0<j) fun i j=>i % j) (A3 (J1 Q2b fun i j=>i / j) (A3 (J1 (fun _ j=>0<j) fun i j=>i % j) (A3 G2 (A3 W4 (wV 3) (wV 3)) (A3 (J1 Q2b fun i j=>i / j) (wV 3) (wC (.int 7)))) (wC (.int 2147483647))) (wC (.int 11))) (wV 2)))))
abbrev Z3g:O Str:=["_law_script","_law_at","_law_most","_law_size","_law_ends","_law_rows","_law_k"]
def W0w (ck:E3):WS:=(A6 (C2 3 (A3 G2 ?X (J8 ck (A1 (wV 0) (A1 (wV 1) (A1 (wV 2) A4)))))) (A6 (C2 4 (D8 V2 (A1 (Q1 1 [0,1] (Q6n (A1 (wV 3) A4)) (B6 0) S0 (B4 (wB (A3 (T5 60 false) (J8 ck (A1 (wV 1) (A1 (A3 G2 (A3 G2 (wV 2) ?X) (wV 0)) (A1 (wC (.int 2)) A4)))) ?A5)))) A4))) (A6 (C2 5 (S7 A4)) (A6 (Q8 (Q4f (A1 (wV 3) A4)) (B6 6) (M8 5 (B4 (D8 V2 (A1 (Q1 1 [0,3,1,6] (Q6n (A1 (wC (.int 4)) A4)) (B6 0) S0 (B4 (J8 ck (A1 (wV 1) (A1 (A3 G2 (A3 G2 (A3 G2 (wV 3) (wC (.int 7))) (A3 W4 (wC (.int 4)) (wV 4))) (wV 0)) (A1 (wV 2) A4)))))) A4))))) (J3 (X6 (A1 (B4 (wV 4)) (A1 (B4 (D8 V2 (A1 (wV 5) A4))) A4))))))))
abbrev iD (n:Nat):D:=.int (n:Int)
abbrev rD (r:?N):D:=.tup (r.map iD)
abbrev rsD (rs:O (?N)):D:=.tup (rs.map rD)
def sz (h:n<=1000000):n<=sizeLine:=aU h (?G)
def S5 (h:n<=1000000):n<sizeLine:=eV h (?G)
theorem ixn {j:Nat}(h:j<n):ixN n (j:Int)=some j:=by grind [L9,List.range,R1,ac,b9,ixN,List.getElem_range]
section
variable [DecidableEq α]{step:α->Nat->α}
section T
variable {ts:α->O D}{key:α->O B7}
def wbT (ef:N1):WS:=(A6 (C2 8 (Q0p ef 2 1 (A1 (wV 5) (A1 (wV 7) A4)))) (A6 (N7 (Z2i 3 (wV 8)) (A6 (Z2j 3 (wV 8) (D8 F2 (A1 (wV 2) A4))) (M8 2 (B4 (wV 8)))) M9) (M8 6 (B4 (Z2h 3 (wV 8))))))
theorem forT (hk:∀a,W3 (ts a)=some (key a))(inj:∀a b,key a=key b->a=b)(hF:FC 2 f Φ sp){k:α}{E:F9}{o0 o4:Am Sl}:∀(cs:?N) (ks:O α) (r:?N) (o7 o8:Am Sl),
  (∀c∈cs,sp [.st (.tup (ts k)),.st (iD c)] (.st (.tup (ts (?A2)))))->ks.length+cs.length<=1000000->r.length+cs.length<=1000000 ->
  (∀o7 o8,E.nx [o0,some (.cl f Φ),some (.own ((G8 (step k) cs ks r).1.map fun a=>.tup (ts a))),some (.dt (M3 key (O6 (G8 (step k) cs ks r).1))),o4,some (.dat (.tup (ts k))),some (.own ((G8 (step k) cs ks r).2.map iD)),o7,o8]) ->
  E4 (B6 7) (wbT FC) E (cs.map iD) [o0,some (.cl f Φ),some (.own (ks.map fun a=>.tup (ts a))),some (.dt (M3 key (O6 ks))),o4,some (.dat (.tup (ts k))),some (.own (r.map iD)),o7,o8]
 |[],ks,r,o7,o8,_,_,_,h=>h o7 o8
 |c::cs,ks,r,o7,o8,hs,h1,h2,h=>by
  rw[aK]at h1 h2;have oF:=hs c aj;have ih:=fun kr r'=>forT hk inj hF (k:=k) (E:=E) (o0:=o0) (o4:=o4) cs kr r';simp only[av,E4];have hv:=Q3d inj (O6 ks) (?A2);have hi:(F8 (M3 key (O6 ks)) (key (?A2))).isSome=decide (?A2∈ks):=by rw[hv,Z2b,Z1a]
  simp only[wbT,D6,O0,G1,Q7d,C7,B0,C6,Y9,V6h,V6i,Q1s,F4,Z0,V6f,K9];refine⟨f,Φ,sp,rfl,hF,.dat (.tup (ts k)),rfl,.dat (iD c),rfl,rfl,_,oF,?_⟩;simp only[J5];refine⟨_,rfl,_,rfl,ts (?A2),key (?A2),rfl,hk _,?_⟩;rw[hi]
  by_cases hm:?A2∈ks
  ·have ea:R0 ks (?A2)=ks:=Z3r hm;rw[aI (by simp[hm])];refine⟨_,rfl,_,rfl,_,rfl,ts (?A2),key (?A2),_,rfl,hk _,by rw[hv];exact Z1b hm,_,rfl,S5 ?U,?_⟩;have e:(r.map iD++[D.int ((ks.idxOf (?A2):Nat):Int)])=(r++[ks.idxOf (?A2)]).map iD:=by simp
   show E4 _ _ _ _ [_,_,_,_,_,_,some (.own (r.map iD++[_])),_,_];rw[e];refine ih ks _ _ _ (fun c hc=>hs c (ag _ hc)) (?H) ?U ?_;simpa only[G8,ea]using h
  ·have ea:R0 ks (?A2)=ks++[?A2]:=Z3s hm;rw[aO (by simp[hm])];refine⟨_,rfl,_,rfl,_,rfl,_,rfl,ts (?A2),key (?A2),rfl,hk _,S5 (by simp[M3,O6];lia),?_⟩;have ep:P8 (M3 key (O6 ks)) (key (?A2)) (.int (ks.length:Int))=M3 key (O6 (ks++[?A2])):=by
    rw[Z0s inj (by rw[Z1a];exact hm),Y6b]
   refine⟨_,rfl,_,rfl,_,rfl,S5 ?U,?_⟩;refine⟨_,rfl,_,rfl,_,rfl,ts (?A2),key (?A2),.int (((ks++[?A2]).idxOf (?A2):Nat):Int),rfl,hk _,?_,_,rfl,S5 ?U,?_⟩
   ·rw[ai,ep,Q3d inj];exact Z1b ?E
   ·have e:(r.map iD++[D.int (((ks++[?A2]).idxOf (?A2):Nat):Int)])=(r++[(ks++[?A2]).idxOf (?A2)]).map iD:=by simp
    have e2:(ks.map fun a=>D.tup (ts a))++[D.tup (ts (?A2))]=(ks++[?A2]).map fun a=>D.tup (ts a):=by simp
    show E4 _ _ _ _ [_,_,some (.own ((ks.map fun a=>D.tup (ts a))++[D.tup (ts (?A2))])),some (.dt (P8 (M3 key (O6 ks)) (key (?A2)) (.int ((ks.map fun a=>D.tup (ts a)).length:Int)))),_,_,some (.own (r.map iD++[_])),_,_];rw[e,e2,ai,ep];refine ih _ _ _ _ (fun c hc=>hs c (ag _ hc)) ?U ?U ?_;simpa only[G8,ea]using h
def wtT:WT:=(A3 (K8 fun i j=>decide (i<j)) (D8 F2 (A1 (wV 4) A4)) (D8 F2 (A1 (wV 2) A4)))
def wlT (ef:N1):WS:=(A6 (C2 5 (A3 A8 (wV 2) (D8 F2 (A1 (wV 4) A4)))) (A6 (C2 6 (S7 A4)) (A6 (Q8 (Q4f (A1 (D8 F2 (A1 (wC (.str "01ab")) A4)) A4)) (B6 7) (wbT ef)) (M8 4 (B4 (D8 V2 (A1 (wV 6) A4)))))))
theorem r4:T7 0 (Int.toNat ((Str.ofString "01ab").length:Int))=B5.map iD:=rfl
theorem J0h (hk:∀a,W3 (ts a)=some (key a))(inj:∀a b,key a=key b->a=b)(hF:FC 2 f Φ sp){start:α}{U:O α}{E:F9}  (hU:∀k∈U,∀c∈B5,?A2∈U)(hl:U.length<=100000)
  (hs:∀k∈U,∀c∈B5,sp [.st (.tup (ts k)),.st (iD c)] (.st (.tup (ts (?A2))))):∀(n:Nat) (ks:O α) (rs:O (?N)) (o5 o6 o7 o8:Am Sl),Z5 step start U ks rs->U.length<=n+rs.length ->
  (∀o5 o6 o7 o8,E.nx [o0,some (.cl f Φ),some (.own ((O2 step n ks rs).1.map fun a=>.tup (ts a))),some (.dt (M3 key (O6 (O2 step n ks rs).1))),some (.own ((O2 step n ks rs).2.map rD)),o5,o6,o7,o8]) ->
  G6 wtT (wlT FC) (n+1) E [o0,some (.cl f Φ),some (.own (ks.map fun a=>.tup (ts a))),some (.dt (M3 key (O6 ks))),some (.own (rs.map rD)),o5,o6,o7,o8]:=by
 intro n
 induction n with
 |zero=>
  intro ks rs o5 o6 o7 o8 W hn h;have b:=W.bound;simp only[G6,wtT,C8,K9,C7,B0,C6];sleep 2;simp only[X3,Q0m,Q0l,ai];rw[aI ?U];exact h _ _ _ _
 |succ n ih=>
  intro ks rs o5 o6 o7 o8 W hn h;have b:=W.bound;have ij:=W.len;rw[G6];simp only[wtT,C8,K9,C7,B0,C6];sleep 2;simp only[X3,Q0m,Q0l,ai]
  by_cases cm:rs.length<ks.length
  ·rw[aO (by simpa using cm)];have gw:ks[rs.length]?=some ks[rs.length]:=ac cm;have kin:=bo cm;generalize ks[rs.length]=k at gw kin;have W2:=W.next hU gw;have b2:=W2.bound;simp only[wlT,D6,G1,C8,K9,C7,B0,C6,s_lst,Y8,Z6y,D5,Q1s,F4];sleep 2;simp only[X3,Q0m,Q1c];refine⟨.tup (ts k),by rw[ai];exact R1 (by rw[ah,gw];rfl),?_⟩;refine⟨_,rfl,sz ?E,?_⟩;rw[X4,Z1f];refine⟨sz (?G),_,rfl,?G,?G,?_⟩;rw[r4];have hW:=h;rw[O2,gw]at hW;refine forT hk inj hF (o0:=o0) (o4:=some (.own (rs.map rD))) B5 ks [] _ _ (hs k (W.sub k kin)) ?U ?E fun o7 o8=>?_;simp only[J5,X4,Q1o,Q4p,Z1g];refine⟨_,rfl,_,rfl,_,rfl,_,rfl,S5 ?U,?_⟩;have e:rs.map rD++[D.tup ((G8 (step k) B5 ks []).2.map iD)]=(rs++[(G8 (step k) B5 ks []).2]).map rD:=by simp
   show G6 wtT (wlT FC) (n+1) E [_,_,_,_,some (.own (rs.map rD++[D.tup ((G8 (step k) B5 ks []).2.map iD)])),_,_,_,_];rw[e];exact ih _ _ _ _ _ _ W2 ?U hW
  ·rw[aI (by simpa using cm)];have e:ks[rs.length]?=none:=az.mpr (?H);rw[O2,e]at h;exact h _ _ _ _
def sp_walked (FC:N1):E3:=fun rs r=>∃(α:Type) (_:DecidableEq α) (ts:α->O D) (key:α->O B7) (step:α->Nat->α) (start:α) (U:O α) (f:Ap) (Φ:Hp->Prop) (sp:E3),
 (∀a,W3 (ts a)=some (key a))/\(∀a b,key a=key b->a=b)/\rs=[.st (.tup (ts start)),.cl f Φ]/\FC 2 f Φ sp/\start∈U/\U.length<=100000/\(∀k∈U,∀c∈B5,?A2∈U/\sp [.st (.tup (ts k)),.st (iD c)] (.st (.tup (ts (?A2))))) /\
 r=.st (.tup [.lst ((V6 U.length step start).1.map fun a=>.tup (ts a)),rsD (V6 U.length step start).2])
def V5u:∀rs r,rs.length=2->sp_walked FC rs r->Z9d FC (S9 r) (E2 W4k rs):=by
 rintro rs r _ ⟨α,_,ts,key,step,start,U,f,Φ,sp,hk,inj,rfl,hF,hs,hl,hU,rfl⟩;have l2:(2:Nat)<=sizeLine:=?G
 unfold Z9d;simp only[D6,G1,s_lst,C7,F4,B0,C6,V6g,D5,Y7x,P9,s_tup,K9];refine⟨_,rfl,_,rfl,sz ?E,?_⟩;refine⟨_,rfl,ts start,key start,rfl,hk _,_,rfl,_,rfl,sz ?E,?_⟩;refine⟨U.length+1,?_⟩;refine J0h hk inj hF (step:=step) (start:=start) (U:=U) (fun k h c hc=>(hU k h c hc).1) hl (fun k h c hc=>(hU k h c hc).2) U.length [start] [] _ _ _ _ (Z5.start hs) ?E fun o5 o6 o7 o8=>?_;refine⟨_,rfl,_,rfl,_,rfl,?_⟩;simp only[Q6,X3,Q1o,Q4p,Z1g];refine⟨_,rfl,_,rfl,l2,rfl⟩
end T
end
section
variable [DecidableEq α]{step:α->Nat->α}
section T
variable {en:α->D}{key:α->B7}
def wbK (ef:N1):WS:=(A6 (C2 8 (Q0p ef 2 1 (A1 (wV 5) (A1 (wV 7) A4)))) (A6 (N7 (Q4x 3 (wV 8)) (A6 (Q4y 3 (wV 8) (D8 F2 (A1 (wV 2) A4))) (M8 2 (B4 (wV 8)))) M9) (M8 6 (B4 (Q2t 3 (wV 8))))))
theorem forK (hk:∀a,P4 (en a)=some (key a))(inj:∀a b,key a=key b->a=b)(hF:FC 2 f Φ sp){k:α}{E:F9}{o0 o4:Am Sl}:∀(cs:?N) (ks:O α) (r:?N) (o7 o8:Am Sl),
  (∀c∈cs,sp [.st ((en k)),.st (iD c)] (.st ((en (?A2)))))->ks.length+cs.length<=1000000->r.length+cs.length<=1000000 ->
  (∀o7 o8,E.nx [o0,some (.cl f Φ),some (.own ((G8 (step k) cs ks r).1.map fun a=>(en a))),some (.dk (M3 key (O6 (G8 (step k) cs ks r).1))),o4,some (.dat ((en k))),some (.own ((G8 (step k) cs ks r).2.map iD)),o7,o8]) ->
  E4 (B6 7) (wbK FC) E (cs.map iD) [o0,some (.cl f Φ),some (.own (ks.map fun a=>(en a))),some (.dk (M3 key (O6 ks))),o4,some (.dat ((en k))),some (.own (r.map iD)),o7,o8]
 |[],ks,r,o7,o8,_,_,_,h=>h o7 o8
 |c::cs,ks,r,o7,o8,hs,h1,h2,h=>by
  rw[aK]at h1 h2;have oF:=hs c aj;have ih:=fun kr r'=>forK hk inj hF (k:=k) (E:=E) (o0:=o0) (o4:=o4) cs kr r';simp only[av,E4];have hv:=Q3d inj (O6 ks) (?A2);have hi:(F8 (M3 key (O6 ks)) (key (?A2))).isSome=decide (?A2∈ks):=by rw[hv,Z2b,Z1a]
  simp only[wbK,D6,O0,G1,Q7d,C7,B0,C6,Y9,Z6z,Z7a,Q1s,F4,Z0,Z1n,K9];refine⟨f,Φ,sp,rfl,hF,.dat ((en k)),rfl,.dat (iD c),rfl,rfl,_,oF,?_⟩;simp only[J5];refine⟨_,rfl,_,rfl,en (?A2),key (?A2),rfl,hk _,?_⟩;rw[hi]
  by_cases hm:?A2∈ks
  ·have ea:R0 ks (?A2)=ks:=Z3r hm;rw[aI (by simp[hm])];refine⟨_,rfl,_,rfl,_,rfl,en (?A2),key (?A2),_,rfl,hk _,by rw[hv];exact Z1b hm,_,rfl,S5 ?U,?_⟩;have e:(r.map iD++[D.int ((ks.idxOf (?A2):Nat):Int)])=(r++[ks.idxOf (?A2)]).map iD:=by simp
   show E4 _ _ _ _ [_,_,_,_,_,_,some (.own (r.map iD++[_])),_,_];rw[e];refine ih ks _ _ _ (fun c hc=>hs c (ag _ hc)) (?H) ?U ?_;simpa only[G8,ea]using h
  ·have ea:R0 ks (?A2)=ks++[?A2]:=Z3s hm;rw[aO (by simp[hm])];refine⟨_,rfl,_,rfl,_,rfl,_,rfl,en (?A2),key (?A2),rfl,hk _,S5 (by simp[M3,O6];lia),?_⟩;have ep:P8 (M3 key (O6 ks)) (key (?A2)) (.int (ks.length:Int))=M3 key (O6 (ks++[?A2])):=by
    rw[Z0s inj (by rw[Z1a];exact hm),Y6b]
   refine⟨_,rfl,_,rfl,_,rfl,S5 ?U,?_⟩;refine⟨_,rfl,_,rfl,_,rfl,en (?A2),key (?A2),.int (((ks++[?A2]).idxOf (?A2):Nat):Int),rfl,hk _,?_,_,rfl,S5 ?U,?_⟩
   ·rw[ai,ep,Q3d inj];exact Z1b ?E
   ·have e:(r.map iD++[D.int (((ks++[?A2]).idxOf (?A2):Nat):Int)])=(r++[(ks++[?A2]).idxOf (?A2)]).map iD:=by simp
    have e2:(ks.map fun a=>en a)++[en (?A2)]=(ks++[?A2]).map fun a=>en a:=by simp
    show E4 _ _ _ _ [_,_,some (.own ((ks.map fun a=>en a)++[en (?A2)])),some (.dk (P8 (M3 key (O6 ks)) (key (?A2)) (.int ((ks.map fun a=>en a).length:Int)))),_,_,some (.own (r.map iD++[_])),_,_];rw[e,e2,ai,ep];refine ih _ _ _ _ (fun c hc=>hs c (ag _ hc)) ?U ?U ?_;simpa only[G8,ea]using h
def wtK:WT:=(A3 (K8 fun i j=>decide (i<j)) (D8 F2 (A1 (wV 4) A4)) (D8 F2 (A1 (wV 2) A4)))
def wlK (ef:N1):WS:=(A6 (C2 5 (A3 A8 (wV 2) (D8 F2 (A1 (wV 4) A4)))) (A6 (C2 6 (S7 A4)) (A6 (Q8 (Q4f (A1 (D8 F2 (A1 (wC (.str "01ab")) A4)) A4)) (B6 7) (wbK ef)) (M8 4 (B4 (D8 V2 (A1 (wV 6) A4)))))))
theorem J0e (hk:∀a,P4 (en a)=some (key a))(inj:∀a b,key a=key b->a=b)(hF:FC 2 f Φ sp){start:α}{U:O α}{E:F9}  (hU:∀k∈U,∀c∈B5,?A2∈U)(hl:U.length<=100000)
  (hs:∀k∈U,∀c∈B5,sp [.st ((en k)),.st (iD c)] (.st ((en (?A2))))):∀(n:Nat) (ks:O α) (rs:O (?N)) (o5 o6 o7 o8:Am Sl),Z5 step start U ks rs->U.length<=n+rs.length ->
  (∀o5 o6 o7 o8,E.nx [o0,some (.cl f Φ),some (.own ((O2 step n ks rs).1.map fun a=>(en a))),some (.dk (M3 key (O6 (O2 step n ks rs).1))),some (.own ((O2 step n ks rs).2.map rD)),o5,o6,o7,o8]) ->
  G6 wtK (wlK FC) (n+1) E [o0,some (.cl f Φ),some (.own (ks.map fun a=>(en a))),some (.dk (M3 key (O6 ks))),some (.own (rs.map rD)),o5,o6,o7,o8]:=by
 intro n
 induction n with
 |zero=>
  intro ks rs o5 o6 o7 o8 W hn h;have b:=W.bound;simp only[G6,wtK,C8,K9,C7,B0,C6];sleep 2;simp only[X3,Q0m,Q0l,ai];rw[aI ?U];exact h _ _ _ _
 |succ n ih=>
  intro ks rs o5 o6 o7 o8 W hn h;have b:=W.bound;have ij:=W.len;rw[G6];simp only[wtK,C8,K9,C7,B0,C6];sleep 2;simp only[X3,Q0m,Q0l,ai]
  by_cases cm:rs.length<ks.length
  ·rw[aO (by simpa using cm)];have gw:ks[rs.length]?=some ks[rs.length]:=ac cm;have kin:=bo cm;generalize ks[rs.length]=k at gw kin;have W2:=W.next hU gw;have b2:=W2.bound;simp only[wlK,D6,G1,C8,K9,C7,B0,C6,s_lst,Y8,Z6y,D5,Q1s,F4];sleep 2;simp only[X3,Q0m,Q1c];refine⟨(en k),by rw[ai];exact R1 (by rw[ah,gw];rfl),?_⟩;refine⟨_,rfl,sz ?E,?_⟩;rw[X4,Z1f];refine⟨sz (?G),_,rfl,?G,?G,?_⟩;rw[r4];have hW:=h;rw[O2,gw]at hW;refine forK hk inj hF (o0:=o0) (o4:=some (.own (rs.map rD))) B5 ks [] _ _ (hs k (W.sub k kin)) ?U ?E fun o7 o8=>?_;simp only[J5,X4,Q1o,Q4p,Z1g];refine⟨_,rfl,_,rfl,_,rfl,_,rfl,S5 ?U,?_⟩;have e:rs.map rD++[D.tup ((G8 (step k) B5 ks []).2.map iD)]=(rs++[(G8 (step k) B5 ks []).2]).map rD:=by simp
   show G6 wtK (wlK FC) (n+1) E [_,_,_,_,some (.own (rs.map rD++[D.tup ((G8 (step k) B5 ks []).2.map iD)])),_,_,_,_];rw[e];exact ih _ _ _ _ _ _ W2 ?U hW
  ·rw[aI (by simpa using cm)];have e:ks[rs.length]?=none:=az.mpr (?H);rw[O2,e]at h;exact h _ _ _ _
def sp_walkedK (FC:N1):E3:=fun rs r=>∃(α:Type) (_:DecidableEq α) (en:α->D) (key:α->B7) (step:α->Nat->α) (start:α) (U:O α) (f:Ap) (Φ:Hp->Prop) (sp:E3),
 (∀a,P4 (en a)=some (key a))/\(∀a b,key a=key b->a=b)/\rs=[.st ((en start)),.cl f Φ]/\FC 2 f Φ sp/\start∈U/\U.length<=100000/\(∀k∈U,∀c∈B5,?A2∈U/\sp [.st ((en k)),.st (iD c)] (.st ((en (?A2))))) /\
 r=.st (.tup [.lst ((V6 U.length step start).1.map fun a=>(en a)),rsD (V6 U.length step start).2])
def V5v:∀rs r,rs.length=2->sp_walkedK FC rs r->Z9e FC (S9 r) (E2 W4l rs):=by
 rintro rs r _ ⟨α,_,en,key,step,start,U,f,Φ,sp,hk,inj,rfl,hF,hs,hl,hU,rfl⟩;have l2:(2:Nat)<=sizeLine:=?G
 unfold Z9e;simp only[D6,G1,s_lst,C7,F4,B0,C6,Y8d,D5,Y7x,P9,s_tup,K9];refine⟨_,rfl,_,rfl,sz ?E,?_⟩;refine⟨(?G:3<9),_,rfl,en start,key start,rfl,hk _,_,rfl,_,rfl,sz ?E,?_⟩;refine⟨U.length+1,?_⟩;refine J0e hk inj hF (step:=step) (start:=start) (U:=U) (fun k h c hc=>(hU k h c hc).1) hl (fun k h c hc=>(hU k h c hc).2) U.length [start] [] _ _ _ _ (Z5.start hs) ?E fun o5 o6 o7 o8=>?_;refine⟨_,rfl,_,rfl,_,rfl,?_⟩;simp only[Q6,X3,Q1o,Q4p,Z1g];refine⟨_,rfl,_,rfl,l2,rfl⟩
end T
end
abbrev ik (n:Nat):B7:=.inl (n:Int)
theorem Q4g (a b:Nat)(h:ik a=ik b):a=b:=by
 have:(a:Int)=(b:Int):=Sum.inl.inj h;lia
abbrev kR (R:O (Nat×Nat)):O (B7×D):=M3 ik (R.map fun q=>(q.1,iD q.2))
def P0 (R:O (Nat×Nat))(g d:Nat):O (Nat×Nat):=if g∈R.map (·.1)then R else R++[(g,d)]
def goR (d:Nat):?N->O (Nat×Nat)->O (Nat×Nat)
 |[],R=>R
 |g::gs,R=>goR d gs (P0 R g d)
def Q2p (on:O (?N)):Nat->O (Nat×Nat)->Nat->O (Nat×Nat)
 |0,R,_=>R
 |n+1,R,p=>match R[p]? with
  |none=>R
  |some q=>Q2p on n (goR (q.2+1) (on[q.1]?.getD []) R) (p+1)
def K3 (on:O (?N))(xs:?N):O (Nat×Nat):=Q2p on on.length (xs.map fun x=>(x,0)) 0
def Z5n (R:O (Nat×Nat)):(R.map fun q=>(q.1,iD q.2)).map (·.1)=R.map (·.1):=by simp
theorem Y1l (R:O (Nat×Nat))(g d:Nat):R <+: P0 R g d:=by grind [P0,bA,cM]
theorem Z4z (d:Nat):∀(gs:?N) (R:O (Nat×Nat)),R <+: goR d gs R
 |[],R=>bA _
 |g::gs,R=>(Y1l R g d).trans (Z4z d gs _)
theorem W4p {R:O (Nat×Nat)}{g d:Nat}(h:(R.map (·.1)).Nodup):((P0 R g d).map (·.1)).Nodup:=by grind [P0,aX,bc]
theorem Y3w {d:Nat}:∀(gs:?N) (R:O (Nat×Nat)),(R.map (·.1)).Nodup->((goR d gs R).map (·.1)).Nodup
 |[],R,h=>h
 |g::gs,R,h=>Y3w gs _ (W4p h)
theorem Z5w {R:O (Nat×Nat)}{g d:Nat}{q:Nat×Nat}(h:q∈P0 R g d):q∈R\/q=(g,d):=by grind [P0]
theorem Z0x {d:Nat}{q:Nat×Nat}:∀(gs:?N) (R:O (Nat×Nat)),q∈goR d gs R->q∈R\/∃g∈gs,q=(g,d)
 |[],R,h=>.inl h
 |g::gs,R,h=>by
  rcases Z0x gs _ h with h |⟨g',h1,h2⟩
  ·rcases Z5w h with h |h
   ·exact .inl h
   ·exact .inr ⟨g,by simp,h⟩
  ·exact .inr ⟨g',by simp[h1],h2⟩
structure Q2f (n:Nat)(R:O (Nat×Nat)):Prop where
 nd:(R.map (·.1)).Nodup
 lt:∀q∈R,q.1<n
def Q2f.bound {R:O (Nat×Nat)}(h:Q2f n R):R.length<=n:=by
 have:=h.nd.length_le_of_subset (l₂:=List.range n) fun x hx=>by
  obtain⟨q,hq,rfl⟩:=aq.mp hx;exact aL.mpr (h.lt q hq)
 simpa using this
def Q2f.go {d:Nat}{R:O (Nat×Nat)}{gs:?N}(h:Q2f n R)(hg:∀g∈gs,g<n):Q2f n (goR d gs R):=
 ⟨Y3w gs R h.nd,fun q hq=>by
  rcases Z0x gs R hq with h' |⟨g,h1,rfl⟩
  ·exact h.lt q h'
  ·exact hg g h1⟩
def V9y {R:O (Nat×Nat)}(nd:(R.map (·.1)).Nodup){s d:Nat}(h:(s,d)∈R):F8 (kR R) (ik s)=some (iD d):=by
 rw[Q3d Q4g];exact W0i (by rw[Z5n];exact nd) (aq.mpr ⟨_,h,rfl⟩)
def Y4l (R:O (Nat×Nat))(g:Nat):(F8 (kR R) (ik g)).isSome=decide (g∈R.map (·.1)):=by
 rw[Q3d Q4g,Z2b,Z5n]
def Y7f {R:O (Nat×Nat)}{g d:Nat}(h:g∉R.map (·.1)):P8 (kR R) (ik g) (iD d)=kR (R++[(g,d)]):=by
 rw[Z0s Q4g (by rw[Z5n];exact h)];simp[kR]
theorem Y2v {Q:O (B7×D)->Prop}:∀(xs:?N) (R:O (Nat×Nat)) (o:Am Sl),(R.map (·.1)++xs).Nodup->Q (kR (R++xs.map fun x=>(x,0))) ->
  Y2 (B6 0) (wV 0) (B4 ?A5) (xs.map iD) [o] (kR R) Q
 |[],R,o,_,h=>by simpa [Y2]using h
 |x::xs,R,o,nd,h=>by
  have nx:x∉R.map (·.1):=fun z=>by
   have:=(bc.mp nd).2.2 x z x ?E;exact this rfl
  rw[av,Y2];simp only[O0,B0,F4,D5];refine⟨_,rfl,iD x,ik x,rfl,rfl,_,rfl,?_⟩;have e:=Y7f (d:=0) nx;show Y2 _ _ _ _ _ (P8 (kR R) (ik x) (iD 0)) _;rw[e];refine Y2v xs _ _ (by simpa using nd) ?_;simpa using h
abbrev llD (on:O (?N)):D:=.lst (on.map fun l=>.lst (l.map iD))
def wbR:WS:=(N7 (Q4x 2 (wV 6)) (A6 (Q4y 2 (wV 6) (A3 G2 (Q2t 2 (wV 5)) ?X)) (M8 3 (B4 (wV 6)))) M9)
theorem forR {s d:Nat}{E:F9}{o0 o1 o4:Am Sl}(hn:n<=100000):∀(gs:?N) (R:O (Nat×Nat)) (o6:Am Sl),Q2f n R->(s,d)∈R->(∀g∈gs,g<n) ->
  (∀o6,E.nx [o0,o1,some (.dk (kR (goR (d+1) gs R))),some (.own ((goR (d+1) gs R).map fun q=>iD q.1)),o4,some (.dat (iD s)),o6]) ->
  E4 (B6 6) wbR E (gs.map iD) [o0,o1,some (.dk (kR R)),some (.own (R.map fun q=>iD q.1)),o4,some (.dat (iD s)),o6]
 |[],R,o6,_,_,_,h=>h o6
 |g::gs,R,o6,hI,hs,hg,h=>by
  have b:=hI.bound;have ih:=forR (s:=s) (d:=d) (E:=E) (o0:=o0) (o1:=o1) (o4:=o4) hn gs;have p8:Q2f n (P0 R g (d+1)):=hI.go (d:=d+1) (gs:=[g]) (by simpa using hg g ?E);have ky:(s,d)∈P0 R g (d+1):=(Y1l R g (d+1)).subset hs;have b2:=p8.bound;rw[av,E4];simp only[wbR,O0,Y9,Z6z,B0,D6,Z7a,C8,Z1n,D5,Q1s,F4,Z0];refine⟨_,rfl,_,rfl,iD g,ik g,rfl,rfl,?_⟩;rw[Y4l]
  by_cases hm:g∈R.map (·.1)
  ·have ea:P0 R g (d+1)=R:=aO hm;rw[aI (by simpa using hm)];refine ih R _ hI hs (fun g' h'=>hg g' (by simp[h'])) ?_;simpa only[goR,ea]using h
  ·have ea:P0 R g (d+1)=R++[(g,d+1)]:=aI hm;rw[aO (by simpa using hm)];refine⟨_,rfl,_,rfl,iD s,ik s,iD d,rfl,rfl,V9y hI.nd hs,?_⟩;rw[Y6];refine⟨_,rfl,_,rfl,_,rfl,iD g,ik g,rfl,rfl,S5 (by simp[M3];lia),_,rfl,_,rfl,_,rfl,S5 ?U,?_⟩;have e1:P8 (kR R) (ik g) (.int ((d:Int)+1))=kR (P0 R g (d+1)):=by
    rw[ea,<-Y7f hm];rfl
   have e2:(R.map fun q=>iD q.1)++[iD g]=(P0 R g (d+1)).map fun q=>iD q.1:=by rw[ea];simp
   show E4 _ _ _ _ [_,_,some (.dk (P8 (kR R) (ik g) (.int ((d:Int)+1)))),some (.own ((R.map fun q=>iD q.1)++[iD g])),_,_,_];rw[e1,e2];exact ih _ _ p8 ky (fun g' h'=>hg g' (by simp[h'])) h
def wtR:WT:=(A3 (K8 fun i j=>decide (i<j)) (wV 4) (D8 F2 (A1 (wV 3) A4)))
def wlR:WS:=(A6 (C2 5 (A3 A8 (wV 3) (wV 4))) (A6 (Q8 (Q5h (B4 (A3 A8 (wV 1) (wV 5)))) (B6 6) wbR) (Z3 4 (J1 NoC fun i j=>i+j) ?X)))
theorem J0g {E:F9}  (lT:∀l∈on,∀g∈l,g<on.length)(hl:on.length<=100000):∀(n:Nat) (R:O (Nat×Nat)) (p:Nat) (o5 o6:Am Sl),Q2f on.length R->on.length<=n+p ->
  (∀o4 o5 o6,E.nx [o0,some (.dat (llD on)),some (.dk (kR (Q2p on n R p))),some (.own ((Q2p on n R p).map fun q=>iD q.1)),o4,o5,o6]) ->
  G6 wtR wlR (n+1) E [o0,some (.dat (llD on)),some (.dk (kR R)),some (.own (R.map fun q=>iD q.1)),some (.dat (iD p)),o5,o6]:=by
 intro n
 induction n with
 |zero=>
  intro R p o5 o6 hI hp h;have b:=hI.bound;simp only[G6,wtR,C8,K9,C7,B0,C6];sleep 2;simp only[Q6,X3,Q0m,Q0l,ai];rw[aI ?U];exact h _ _ _
 |succ n ih=>
  intro R p o5 o6 hI hp h;have b:=hI.bound;rw[G6];simp only[wtR,C8,K9,C7,B0,C6];sleep 2;simp only[Q6,X3,Q0m,Q0l,ai]
  by_cases cm:p<R.length
  ·rw[aO (by simpa using cm)];have gw:R[p]?=some R[p]:=ac cm;have kin:=bo cm;generalize R[p]=q at gw kin;obtain⟨s,d⟩:=q;have hs:s<on.length:=hI.lt _ kin;have jo:on[s]?=some on[s]:=ac hs;have mY:=lT _ (bo hs);simp only[wlR,D6,G1,C8,B0,Y8,Z6x,F4,Q7c,D5];sleep 2;rw[X3,Q6,Q1c];refine⟨iD s,R1 (by rw[ah,gw];rfl),_,rfl,_,rfl,?_⟩;rw[Q6];simp only[Q6,Q8x];refine⟨.lst (on[s].map iD),R1 (by rw[ah,jo];rfl),_,rfl,?_⟩;rw[Q2p,gw]at h;simp only[jo]at h;refine forR (n:=on.length) (d:=d) hl on[s] R _ hI kin mY fun o6=>?_;refine⟨_,rfl,trivial,?_⟩;have e:((p:Int)+1)=((p+1:Nat):Int):=?H
   show G6 wtR wlR (n+1) E [_,_,_,_,some (.dat (.int ((p:Int)+1))),_,_];rw[e];exact ih _ _ _ _ (hI.go mY) (?H) h
  ·rw[aI (by simpa using cm)];have e:R[p]?=none:=az.mpr (?H);rw[Q2p,e]at h;exact h _ _ _
def sp_all_reached (K:Fg9):J4:=fun rs Pr=>∃(xs:?N) (on:O (?N)),rs=[.bw (xs.map iD),.st (llD on)]/\xs.Nodup/\(∀x∈xs,x<on.length)/\(∀l∈on,∀g∈l,g<on.length)/\on.length<=100000/\∀a,Pr (.cl a (Q3 K a (kR (K3 on xs))))
def V0h {K:Fg9}:X9 (sp_all_reached K):=by rintro rs P Q f ⟨xs,on,e,h1,h2,h3,h4,h5⟩;exact⟨xs,on,e,h1,h2,h3,h4,fun a=>f _ (h5 a)⟩
theorem V4u {K:Fg9}:∀rs Pr,rs.length=2->sp_all_reached K rs Pr->W0q K (O9 Pr) (E2 Y0r rs):=by
 rintro rs Pr _ ⟨xs,on,rfl,nd,hx,lT,hl,h⟩;have hI:Q2f on.length (xs.map fun x=>(x,0)):=⟨by simpa [fy]using nd,fun q hq=>by
  obtain⟨x,h1,rfl⟩:=aq.mp hq;exact hx x h1⟩
 have b:=hI.bound;rw[ai]at b;unfold W0q;simp only[D6,V6s,Q9c,B0,G1,K9,C7,C6,D5,V7e];refine⟨_,rfl,_,rfl,S5 ?U,?_⟩;refine Y2v xs [] _ (by simpa using nd) ?_;k_ne;have el:(kR ([]++xs.map fun x=>(x,0))).map (fun p=>kyD p.1)=((xs.map fun x=>(x,0)).map fun q=>iD q.1):=by simp[M3,kyD]
 show Q5i [.dk _] _;rw[V6y,el,dn];simp only[J5,X4];refine⟨on.length+1,?_⟩;refine J0g lT hl on.length (xs.map fun x=>(x,0)) 0 _ _ hI (?H) fun o4 o5 o6=>?_;exact⟨_,rfl,h⟩
structure Wf (es:O Bool)(rows:O (?N)):Prop where
 len:rows.length=es.length
 pos:0<es.length
 r4:∀r∈rows,r.length=4
 lt:∀r∈rows,∀x∈r,x<es.length
def Q0t (B:O (?N))(g s:Nat):O (?N):=B.set g (B.getD g []++[s])
def Q3y (s:Nat):?N->O (?N)->O (?N)
 |[],B=>B
 |g::gs,B=>Q3y s gs (Q0t B g s)
def Q2w:Nat->O (?N)->O (?N)->O (?N)
 |_,[],B=>B
 |s,r::rs,B=>Q2w (s+1) rs (Q3y s r B)
def F6 (rows:O (?N)):O (?N):=Q2w 0 rows (rows.map fun _=>[])
abbrev lls (B:O (?N)):O (O D):=B.map fun l=>l.map iD
theorem Z3o (B:O (?N))(g s:Nat):(Q0t B g s).length=B.length:=by simp[Q0t]
theorem Z0d {s:Nat}:∀(gs:?N) (B:O (?N)),(Q3y s gs B).length=B.length
 |[],B=>rfl
 |g::gs,B=>by rw[Q3y,Z0d gs,Z3o]
theorem W4v:∀(rs:O (?N)) (s:Nat) (B:O (?N)),(Q2w s rs B).length=B.length:=by intro rs;induction rs<;>grind [Q2w,Z0d]
theorem Y5c (B:O (?N))(g:Nat):(lls B).getD g []=(B.getD g []).map iD:=by grind [ax,ah]
def W9n (B:O (?N))(g s:Nat):(lls B).set g ((lls B).getD g []++[iD s])=lls (Q0t B g s):=by
 rw[Y5c];unfold Q0t lls;rw[List.map_set];simp
theorem Y3v {m g:Nat}(h:∀l∈B,l.length<=m):(B.getD g []).length<=m:=by grind [ax,au]
theorem Y1k {m g s:Nat}(h:∀l∈B,l.length<=m):∀l∈Q0t B g s,l.length<=m+1:=by
 intro l hl;rcases List.mem_or_eq_of_mem_set hl with h' |rfl
 ·exact zt (h l h')
 ·have:=Y3v (g:=g) h;rw[ao,bi];lia
theorem Y1t {s:Nat}:∀(gs:?N) (B:O (?N)) (m:Nat),(∀l∈B,l.length<=m)->∀l∈Q3y s gs B,l.length<=m+gs.length
 |[],B,m,h=>h
 |g::gs,B,m,h=>fun l hl=>by
  have:=Y1t gs _ (m+1) (Y1k h) l hl;simp;lia
theorem W9y {g s i x:Nat}(hx:x∈(Q0t B g s).getD i []):x∈B.getD i []\/(i=g/\x=s):=by grind [Q0t,ax,fx]
theorem V0a {g s i x:Nat}(hx:x∈B.getD i []):x∈(Q0t B g s).getD i []:=by grind [Q0t,ax,fx,ba]
theorem W9z {g s:Nat}(hl:g<B.length):s∈(Q0t B g s).getD g []:=by grind [Q0t,ax,fx,aw]
theorem V0b {s i x:Nat}:∀(gs:?N) (B:O (?N)),(∀g∈gs,g<B.length)->(x∈(Q3y s gs B).getD i [] ↔ x∈B.getD i []\/(i∈gs/\x=s)):=by intro gs;induction gs<;>grind [Q3y,Z3o,W9y,V0a,W9z]
theorem Y5n {i x:Nat}:∀(rs:O (?N)) (s:Nat) (B:O (?N)),(∀r∈rs,∀g∈r,g<B.length)->(x∈(Q2w s rs B).getD i [] ↔ x∈B.getD i []\/∃j r,rs[j]?=some r/\i∈r/\x=s+j)
 |[],s,B,_=>by simp[Q2w]
 |r::rs,s,B,h=>by
  rw[Q2w,Y5n rs _ _ (fun r' h' g hg=>by rw[Z0d];exact h r' (by simp[h']) g hg),V0b _ _ (h r ?E)];constructor
  ·rintro ((h' |⟨h1,rfl⟩) |⟨j,r',e,h1,rfl⟩)
   ·exact .inl h'
   ·exact .inr ⟨0,r,rfl,h1,rfl⟩
   ·exact .inr ⟨j+1,r',by simpa using e,h1,?H⟩
  ·rintro (h' |⟨j,r',e,h1,rfl⟩)
   ·exact .inl (.inl h')
   ·cases j with
    |zero=>cases e;exact .inl (.inr ⟨h1,rfl⟩)
    |succ j=>exact .inr ⟨j,r',by simpa using e,h1,?H⟩
theorem Z5x (h:∀r∈rows,∀g∈r,g<rows.length){i x:Nat}:x∈(F6 rows).getD i [] ↔ ∃r,rows[x]?=some r/\i∈r:=by
 unfold F6;rw[Y5n rows 0 _ (fun r hr g hg=>by rw[ai];exact h r hr g hg)];have e0:x∉(rows.map fun _=>([]:?N)).getD i []:=by
  rw[ax,ah];cases rows[i]?<;>simp
 constructor
 ·rintro (h' |⟨j,r,e,h1,rfl⟩)
  ·exact absurd h' e0
  ·exact⟨r,by rw[cG];exact e,h1⟩
 ·rintro ⟨r,e,h1⟩;exact .inr ⟨x,r,e,h1,?H⟩
def Z0c (rows:O (?N)):(F6 rows).length=rows.length:=by simp[F6,W4v]
def Y1s (h:∀r∈rows,∀g∈r,g<rows.length):∀l∈F6 rows,∀x∈l,x<(F6 rows).length:=by
 intro l hl x hx;obtain⟨i,hi,rfl⟩:=bv.mp hl;have:x∈(F6 rows).getD i []:=by rw[ax,ac hi];exact hx
 obtain⟨r,e,_⟩:=(Z5x h).mp this;obtain⟨h',_⟩:=aD.mp e;rw[Z0c];exact h'
def G5 (es:O Bool)(b:Bool):?N:=((es.zipIdx).filter fun p=>p.1==b).map (·.2)
def Z5y {b:Bool}{i:Nat}:i∈G5 es b ↔ es[i]?=some b:=by
 unfold G5;rw[aq];constructor
 ·rintro ⟨⟨c,j⟩,h,rfl⟩;rw[br]at h;have h1:=jL.mp h.1;have h2:c=b:=by simpa using h.2
  subst h2;exact h1
 ·intro h;exact⟨(b,i),br.mpr ⟨jL.mpr h,by simp⟩,rfl⟩
def Y3i {b:Bool}:∀x∈G5 es b,x<es.length:=fun x hx=>by
 obtain⟨h,_⟩:=aD.mp (Z5y.mp hx);exact h
def Y3j {b:Bool}:(G5 es b).Nodup:=by
 have:(es.zipIdx.map (·.2)).Nodup:=by rw[List.zipIdx_map_snd];exact List.nodup_range'
 exact this.sublist (gE.map _)
def K1 (R:O (Nat×Nat))(s:Nat):Am Nat:=(R.find? fun q=>decide (q.1=s)).map (·.2)
abbrev oD:Am Nat->D
 |none=>.non
 |some d=>iD d
theorem W0k (R:O (Nat×Nat))(s:Nat):(F8 (kR R) (ik s)).getD .non=oD (K1 R s):=by
 rw[Q3d Q4g];unfold F8 K1
 induction R with
 |nil=>rfl
 |cons q R ih=>
  rw[av,bp,bp]
  by_cases h:q.1=s
  ·simp[h]
  ·simp only[h,decide_false];exact ih
def Q0y (es:O Bool)(rows:O (?N))(b:Bool):O (Am Nat):=(List.range es.length).map (K1 (K3 (F6 rows) (G5 es b)))
theorem Y2x {Q:O (O D)->Prop}:∀(ds:O D) (o:Am Sl),Q (ds.map fun _=>[])->Q0x (B6 0) (S7 A4) ds [o] Q
 |[],o,h=>h
 |d::ds,o,h=>by
  rw[Q0x];simp only[O0,s_lst,C6];exact⟨_,rfl,sz ?E,_,rfl,Y2x ds _ h⟩
@[simp] theorem nll1 {d:D}:L3 (some (.dat d))=true:=rfl
@[simp] theorem nll2:L3 none=true:=rfl
theorem forB {s:Nat}{E:F9}   (n0:L3 o0=true)(n1:L3 o1=true)(n2:L3 o2=true)(n5:L3 o5=true)(n7:L3 o7=true):∀(gs:?N) (B:O (?N)) (m:Nat) (o6:Am Sl),L3 o6=true ->
  (∀g∈gs,g<B.length)->(∀l∈B,l.length<=m)->m+gs.length<=1000000 ->
  (∀o6,L3 o6=true->E.nx [o0,o1,o2,some (.ll a (lls (Q3y s gs B))),some (.dat (iD s)),o5,o6,o7]) ->
  E4 (B6 6) (Q9i 3 (wV 6) (B4 (wV 4))) E (gs.map iD) [o0,o1,o2,some (.ll a (lls B)),some (.dat (iD s)),o5,o6,o7]
 |[],B,m,o6,n6,_,_,_,h=>h o6 n6
 |g::gs,B,m,o6,n6,hg,hm,hz,h=>by
  rw[aK]at hz;have gl:=hg g ?E;have bd:=Y3v (g:=g) hm;rw[av,E4];simp only[O0,V6w,B0,F4];refine⟨a,lls B,rfl,?_,_,rfl,_,g,rfl,?_,_,rfl,_,rfl,?_,?_⟩
  ·show(L3 o0&&(L3 o1&&(L3 o2&&([some (.dat (iD s)),o5,some (.dat (iD g)),o7]:C3).all L3)))=true;simp[n0,n1,n2,n5,n7,nll1]
  ·rw[ai];exact ixn gl
  ·rw[Y5c,ai];exact S5 (?H)
  ·show E4 _ _ _ _ [_,_,_,some (.ll a ((lls B).set g ((lls B).getD g []++[iD s]))),_,_,_,_];rw[W9n];exact forB n0 n1 n2 n5 n7 gs _ (m+1) _ rfl (fun g' h'=>by rw[Z3o];exact hg g' (by simp[h'])) (Y1k hm) (?H) h
theorem Y3r {E:F9}   (n0:L3 o0=true)(n1:L3 o1=true)(n2:L3 o2=true)(n7:L3 o7=true):∀(rs:O (?N)) (s:Nat) (B:O (?N)) (m:Nat) (o4 o5 o6:Am Sl),L3 o4=true->L3 o5=true->L3 o6=true ->
  (∀r∈rs,r.length=4/\∀g∈r,g<B.length)->(∀l∈B,l.length<=m)->m+4*rs.length<=1000000 ->
  (∀o4 o5 o6,L3 o4=true->L3 o5=true->L3 o6=true->E.nx [o0,o1,o2,some (.ll a (lls (Q2w s rs B))),o4,o5,o6,o7]) ->
  E4 (P3 2 (F7 (B6 4) (F7 (B6 5) Q4))) (Q8 (Z5f (wV 5)) (B6 6) (Q9i 3 (wV 6) (B4 (wV 4)))) E ((rs.zipIdx s).map fun p=>.tup [.int (p.2:Int),rD p.1]) [o0,o1,o2,some (.ll a (lls B)),o4,o5,o6,o7]
 |[],s,B,m,o4,o5,o6,n4,n5,n6,_,_,_,h=>h o4 o5 o6 n4 n5 n6
 |r::rs,s,B,m,o4,o5,o6,n4,n5,n6,hg,hm,hz,h=>by
  rw[aK]at hz;obtain⟨l4,gl⟩:=hg r ?E;rw[cI,av,E4];simp only[Q1v,Q1t,O0,Q1u,Y8,V6q,B0];refine⟨_,rfl,rfl,_,_,rfl,_,_,rfl,rfl,_,rfl,_,rfl,?_⟩;refine forB n0 n1 n2 (o5:=some (.dat (rD r))) rfl n7 r B m o6 n6 gl hm (?H) fun o6 n6=>?_;exact Y3r n0 n1 n2 n7 rs (s+1) _ (m+4) _ _ _ rfl rfl n6 (fun r' h'=>⟨(hg r' (by simp[h'])).1,fun g h2=>by rw[Z0d];exact(hg r' (by simp[h'])).2 g h2⟩)
   (by have:=Y1t (s:=s) r B m hm;rw[l4]at this;exact this) (?H) h
theorem Z4i {b:Bool}{Q:O D->Prop}:∀(es:O Bool) (n:Nat) (o0 o1:Am Sl),Q (((es.zipIdx n).filter fun p=>p.1==b).map fun p=>iD p.2) ->
  M7 (P3 2 (F7 (B6 0) (F7 (B6 1) Q4))) (A3 (T5 60 false) (wV 1) (wV 2)) (B4 (wV 0)) ((es.zipIdx n).map fun p=>.tup [.int (p.2:Int),.bl p.1]) [o0,o1,some (.dat (.bl b))] Q
 |[],n,o0,o1,h=>h
 |e::es,n,o0,o1,h=>by
  rw[cI,av,M7];simp only[Q1v,Q1t,O0,Q1u,C8,B0,F4];refine⟨_,rfl,rfl,_,_,rfl,_,_,rfl,rfl,_,rfl,_,rfl,?_⟩;simp only[Q6,o_eq,o_d1];refine⟨_,_,rfl,rfl,by simp[D.depth],?_⟩;rw[cI,cJ]at h
  by_cases hb:e=b
  ·subst hb;simp only[BEq.rfl,fD]at h;simp only[o_e3,BEq.rfl,fD,ff,cN];exact⟨_,rfl,_,rfl,Z4i es (n+1) _ _ h⟩
  ·have gM:(e==b)=false:=by simpa using hb
   simp only[gM,cN,ff]at h;simp only[o_e3,gM,ff,cN];exact Z4i es (n+1) _ _ h
def U6 (ra:R)(es:O Bool):Prop:=ra=.bw (es.map .bl)\/ra=.st (.tup (es.map .bl))
def U6.rd {ra:R}  (h:U6 ra es):S4 (M5 ra)=ra:=by rcases h with rfl |rfl<;>rfl
def U6.nll {ra:R}  (h:U6 ra es):L3 (some (M5 ra))=true:=by rcases h with rfl |rfl<;>rfl
def U6.sq {ra:R}  (h:U6 ra es):V5 ra=some (es.map .bl):=by rcases h with rfl |rfl<;>rfl
def U6.len {ra:R}  (h:U6 ra es){Q:R->Prop}:F2 [ra] Q=Q (.st (.int (es.length:Int))):=by
 rcases h with rfl |rfl
 ·rw[Q0m,ai]
 ·rw[V1i,ai]
def U6.arg {ra:R}  (h:U6 ra es):L8 ra=true:=by rcases h with rfl |rfl<;>rfl
def U6.nrm {ra:R}  (h:U6 ra es):nrm ra=ra:=by rcases h with rfl |rfl<;>rfl
def RwD (d:D)(rows:O (?N)):Prop:=d=rsD rows\/d=.lst (rows.map rD)
def RwD.sq {d:D}  (h:RwD d rows):V5 (.st d)=some (rows.map rD):=by rcases h with rfl |rfl<;>rfl
def RwD.ix {d:D}  (h:RwD d rows){r:?N}{i:Nat}(e:rows[i]?=some r){Q:R->Prop}(q:Q (.st (rD r))):A8 (.st d) (.st (.int (i:Int))) Q:=by
 rcases h with rfl |rfl<;>exact⟨rD r,R1 (by rw[ah,e];rfl),q⟩
def RwD.j {d:D}  (h:RwD d rows)  {i:Nat}(e:τ[i]?=some (some (.dat d))){Q:O D->Prop}(q:Q (rows.map rD)):jOr (Q0z (wV i)) (Q4h (wV i)) τ Q:=by
 rcases h with rfl |rfl
 ·exact .inl ⟨_,e,_,rfl,q⟩
 ·exact .inr ⟨_,e,_,rfl,q⟩
def RwD.i {d:D}  (h:RwD d rows)  {i:Nat}(e:τ[i]?=some (some (.dat d))){Q:O D->C3->Prop}(q:Q (J9 (rows.map rD)) τ):iOr (Q6l (A1 (wV i) A4)) (Q8m (A1 (wV i) A4)) τ Q:=by
 rcases h with rfl |rfl
 ·exact .inl ⟨_,e,.inr ⟨_,rfl,q⟩⟩
 ·exact .inr ⟨_,e,_,rfl,q⟩
def sp_distances:J4:=fun rs Pr=>∃ra es rows b d,rs=[ra,.st d,.st (.bl b)]/\RwD d rows/\U6 ra es/\Wf es rows/\es.length<=20000/\Pr (.nw ((Q0y es rows b).map oD))
def Z6b:X9 sp_distances:=by rintro rs P Q f ⟨ra,es,rows,b,d,e,h0,h1,h2,h3,h4⟩;exact⟨ra,es,rows,b,d,e,h0,h1,h2,h3,f _ h4⟩
theorem V4y {K:Fg9}:∀rs Pr,rs.length=3->sp_distances rs Pr->W0r K (sp_all_reached K) (O9 Pr) (E2 Q9t rs):=by
 rintro rs Pr _ ⟨ra,es,rows,b,d,rfl,hd,ha,wf,hl,h⟩;have wl:=wf.len;have cm:∀r∈rows,∀g∈r,g<rows.length:=fun r hr g hg=>by rw[wl];exact wf.lt r hr g hg
 unfold W0r;simp only[D6,V6x,Q4t,B0,V6l,Y8,Y7y,C7,C6,V7f,Q0o,Y7,Y8b,P9,Z1m,K9];refine hd.j rfl ⟨sz ?U,?_⟩;refine Y2x _ _ fun a=>?_;refine hd.i rfl ?_;have e1:J9 (rows.map rD)=(rows.zipIdx 0).map fun p=>.tup [.int (p.2:Int),rD p.1]:=by
  unfold J9;rw[jO,aF];rfl
 have e2:((rows.map rD).map fun _=>([]:O D))=lls (rows.map fun _=>[]):=by simp[lls]
 rw[e1,e2];refine Y3r (o0:=some (M5 ra)) (o1:=some (.dat d)) (o2:=some (.dat (.bl b))) (o7:=none) ha.nll rfl rfl rfl rows 0 _ 0 none none none rfl rfl rfl (fun r hr=>⟨wf.r4 r hr,fun g hg=>by rw[ai];exact cm r hr g hg⟩) (fun l hl=>by simp at hl;simp[hl.2]) (?H) fun o4 o5 o6 n4 n5 n6=>?_;refine⟨a,_,rfl,?_,?_⟩
 ·show(L3 _&&(L3 _&&(L3 _&&([o4,o5,o6,none]:C3).all L3)))=true;have:=ha.nll;simp[this,n4,n5,n6,nll1,nll2]
 k_ne;show ∃r ds,[S4 (M5 ra)]=[r]/\_;refine⟨_,_,rfl,by rw[ha.rd];exact ha.sq,sz (by simp[J9];lia),?_⟩;have e3:J9 (es.map .bl)=(es.zipIdx 0).map fun p=>.tup [.int (p.2:Int),.bl p.1]:=by
  unfold J9;rw[jO,aF];rfl
 rw[e3];refine Z4i es 0 _ _ ?_;refine⟨_,rfl,rfl,G5 es b,F6 rows,?_,Y3j,fun x hx=>by rw[Z0c,wl];exact Y3i x hx,Y1s cm,by rw[Z0c,wl];lia,fun a'=>?_⟩
 ·have q1:((es.zipIdx 0).filter fun p=>p.1==b).map (fun p=>iD p.2)=(G5 es b).map iD:=by unfold G5;rw[aF];rfl
  have q2:D.lst ((lls (Q2w 0 rows (rows.map fun _=>[]))).map D.lst)=llD (F6 rows):=by unfold lls llD F6;rw[aF];rfl
  show [R.bw _,R.st (.lst _)]=_;rw[q1,q2]
 refine⟨a',_,rfl,?_⟩;k_ne;show F2 [S4 (M5 ra)] _;rw[ha.rd,ha.len];refine⟨_,rfl,?H,?H,sz (by simp[T7];lia),?_⟩;have hf:∀i:Nat,(F8 (kR (K3 (F6 rows) (G5 es b))) (ik i)).getD .non=oD (K1 (K3 (F6 rows) (G5 es b)) i):=W0k _;have er:T7 0 (es.length:Int).toNat=(List.range es.length).map iD:=by simp[T7]
 rw[er];refine Q0f (f:=fun d=>match d with |.int i=>(F8 (kR (K3 (F6 rows) (G5 es b))) (.inl i)).getD .non |d=>d) _ _ _ (fun d hd Q' q=>?_) ?_
 ·obtain⟨i,_,rfl⟩:=aq.mp hd;simp only[F4,V6j,B0];exact⟨a',_,rfl,_,rfl,_,ik i,rfl,rfl,q⟩
 ·rw[aF];have:(List.range es.length).map ((fun d=>match d with |.int i=>(F8 (kR (K3 (F6 rows) (G5 es b))) (.inl i)).getD .non |d=>d) ∘ iD)=(Q0y es rows b).map oD:=by
   unfold Q0y;rw[aF];exact aT fun i _=>hf i
  rw[this];exact h
noncomputable def Q5:O D->O D->?N
 |_,[]=>[]
 |ks,d::r=>ks.idxOf d::Q5 (W5 ks d) r
theorem V1e:∀(ds ks:O D),(Q1n ks ds).map D.int=(Q5 ks ds).map iD:=by intro ds;induction ds<;>grind [Q1n,Q5,av]
noncomputable def Z1:O D->O D->O D
 |ks,[]=>ks
 |ks,d::r=>Z1 (W5 ks d) r
theorem Y8q (ks:O D)(d:D):ks <+: W5 ks d:=by grind [W5,bA,cM]
theorem Y8o:∀(ds ks:O D),ks <+: Z1 ks ds
 |[],ks=>bA _
 |d::r,ks=>(Y8q ks d).trans (Y8o r _)
theorem Y5t (ks:O D)(d:D):d∈W5 ks d:=by
 unfold W5;split
 ·assumption
 ·simp
theorem W7n {ks ls:O D}{g:D}(p:ks <+: ls)(h:g∈ks):ls.idxOf g=ks.idxOf g:=by
 obtain⟨t,rfl⟩:=p;rw[fw,aO h]
theorem W7o (ks:O D)(d:D):(W5 ks d).idxOf d=ks.idxOf d:=by grind [W5,fw,qM]
theorem Q8v:∀(ds ks:O D),Q5 ks ds=ds.map fun d=>(Z1 ks ds).idxOf d:=by intro ds;induction ds<;>grind [Y8o,W5,Q5,av,Z1,W7n,Y5t,W7o]
def Y6e (ds ks:O D):(Q5 ks ds).length=ds.length:=by rw[Q8v,ai]
theorem Z0y:∀(ds ks:O D) {d:D},d∈ks\/d∈ds->d∈Z1 ks ds:=by intro ds;induction ds<;>grind [Z1,Y8q,Y5t]
theorem V7l:∀(ds ks:O D),(Z1 ks ds).length<=ks.length+ds.length:=by intro ds;induction ds<;>grind [Z1,W5,aK]
theorem Y6f {ds:O D}:∀x∈Q5 [] ds,x<ds.length:=by grind [Q8v,aq,Z0y,V7l]
def Y6d {ds:O D}{i j:Nat}{a b:D}(hi:ds[i]?=some a)(hj:ds[j]?=some b):(Q5 [] ds)[i]?=(Q5 [] ds)[j]? ↔ a=b:=by
 rw[Q8v,ah,ah,hi,hj];constructor
 ·intro h;have h:(Z1 [] ds).idxOf a=(Z1 [] ds).idxOf b:=aC h;have ha:=be.mpr (Z0y ds [] (.inr (au hi)));have hb:=be.mpr (Z0y ds [] (.inr (au hj)));have e1:=eX ha;have e2:=eX hb;rw[<-e1,<-e2];simp only[h]
 ·rintro rfl;rfl
def sp_numbered:E3:=fun rs r=>∃ds,rs=[.bw ds]/\ds.length<=1000000/\(∀d∈ds,T6 8 d=true/\∃l,d=.tup l)/\r=.nw ((Q5 [] ds).map iD)
def V5i:∀rs r,rs.length=1->sp_numbered rs r->W0z (S9 r) (E2 Y0w rs):=by
 rintro rs r _ ⟨ds,rfl,hl,hk,rfl⟩;unfold W0z;rw[V7c];refine⟨(?G:1<2),?_⟩;simp only[Q9c,B0];exact⟨_,rfl,_,rfl,sz hl,hk,by rw[V1e];rfl⟩
def U1 (b:?N):Nat:=b.foldl max 0
theorem Z4s:∀(b:?N) (a:Nat),a<=b.foldl max a/\∀x∈b,x<=b.foldl max a
 |[],a=>⟨ak _,fun x h=>by cases h⟩
 |y::b,a=>by
  obtain⟨h1,h2⟩:=Z4s b (max a y);refine⟨aU (eE _ _) h1,fun x hx=>?_⟩;rcases ar.mp hx with rfl |hx
  ·exact aU (cU _ _) h1
  ·exact h2 x hx
theorem W6v:∀(b:?N) (a:Nat),b.foldl max a=a\/b.foldl max a∈b:=by intro b;induction b<;>grind [cn,nY,j9,jN,ag]
def Z0w {b:?N}{x:Nat}(h:x∈b):x<=U1 b:=(Z4s b 0).2 x h
theorem Q8t {b:?N}(h:b≠[]):U1 b∈b:=by
 unfold U1;rcases W6v b 0 with e |e
 ·cases b with
  |nil=>exact absurd rfl h
  |cons y b=>
   have:=(Z4s (y::b) 0).2 y ?E;rw[e]at this;have:y=0:=?H
   rw[e,this];simp
 ·exact e
theorem W9x {b:?N}{m:Int}(h:m∈b.map fun(x:Nat)=>(x:Int))(g:∀n∈b.map fun(x:Nat)=>(x:Int),n<=m):m=(U1 b:Int):=by
 obtain⟨k,hk,rfl⟩:=aq.mp h;have h1:=Z0w hk;have h2:=g _ (aq.mpr ⟨_,Q8t (fun z=>by rw[z]at hk;cases hk),rfl⟩);lia
noncomputable def Z9 (es:O Bool)(rows:O (?N)):O D:=((Q0y es rows true).zip (Q0y es rows false)).map fun p=>.tup [oD p.1,oD p.2]
def Q2l (b:?N)(p:Nat×?N):D:=.tup [iD p.1,rD (p.2.map fun g=>b.getD g 0)]
def Q1l (rows:O (?N))(b:?N):O D:=(b.zip rows).map (Q2l b)
noncomputable def L5 (rows:O (?N))(b:?N):?N:=Q5 [] (Q1l rows b)
noncomputable def Q3l (rows:O (?N)):Nat->Nat->?N->?N
 |0,_,b=>b
 |n+1,many,b=>if many<=U1 b then Q3l rows n (U1 b+1) (L5 rows b)else b
noncomputable def J6 (es:O Bool)(rows:O (?N)):?N:=Q3l rows (es.length+1) 0 (Q5 [] (Z9 es rows))
structure V8 (n:Nat)(b:?N):Prop where
 len:b.length=n
 lt:∀x∈b,x<n
def V8.step {b:?N}(h:V8 n b)(hr:rows.length=n):V8 n (L5 rows b):=by
 have e:(Q1l rows b).length=n:=by simp[Q1l,h.len,hr]
 exact⟨by unfold L5;rw[Y6e,e],fun x hx=>by have:=Y6f x hx;rw[e]at this;exact this⟩
def V8.zero:V8 es.length (Q5 [] (Z9 es rows)):=by
 have e:(Z9 es rows).length=es.length:=by simp[Z9,Q0y]
 exact⟨by rw[Y6e,e],fun x hx=>by have:=Y6f x hx;rw[e]at this;exact this⟩
theorem Y9w (hr:rows.length=n):∀(k many:Nat) (b:?N),V8 n b->V8 n (Q3l rows k many b)
 |0,many,b,h=>h
 |k+1,many,b,h=>by
  unfold Q3l;split
  ·exact Y9w hr k _ _ (h.step hr)
  ·exact h
def Z8b (w:Wf es rows):V8 es.length (J6 es rows):=Y9w w.len _ _ _ V8.zero
def wtA:WT:=(A3 (K8 fun i j=>decide (j<=i)) (D8 Q1b (A1 (wV 2) A4)) (wV 3))
def weA:WE:=(B4 (X6 (A1 (B4 (wV 0)) (A1 (B4 (D8 V2 (A1 (Q1 1 [2] (Q0z (wV 1)) (B6 0) S0 (B4 (A3 A8 (wV 1) (wV 0)))) A4))) A4))))
def wlA (sp_numbered:E3):WS:=(A6 (C2 3 (A3 G2 (D8 Q1b (A1 (wV 2) A4)) ?X)) (C2 2 (B4 (J8 sp_numbered (A1 (Q1 2 [2] (Z0r (A1 (wV 2) (A1 (wV 1) A4))) (P3 2 (F7 (B6 0) (F7 (B6 1) Q4))) S0 weA) A4)))))
def J0b {b:?N}(hb:V8 n b)(hn:n<=20000){p:Nat×?N}(hp:p.2.length=4)(hg:∀g∈p.2,g<n)(Q:R->Prop)(h:Q (.st (Q2l b p))):weA (some (.dat (iD p.1))::some (.dat (rD p.2))::[some (.dat (.lst (b.map iD)))]) Q:=by
 unfold weA;simp only[F4,s_tup,C7,B0,K9,Y7,Q4t,C6];refine⟨_,rfl,_,rfl,_,rfl,sz (by simp[hp]),?_⟩;refine Q0f (f:=fun d=>match d with |.int i=>iD (b.getD i.toNat 0) |d=>d) _ _ _ (fun d hd Q' q=>?_) ?_
 ·obtain⟨g,kc,rfl⟩:=aq.mp hd;have hl:g<b.length:=by rw[hb.len];exact hg g kc
  simp only[F4,C8,B0];sleep 2;show A8 (.st (.lst (b.map iD))) (.st (.int (g:Int))) _;rw[Q8x];refine⟨iD (b.getD g 0),R1 (by rw[ah,ax,ac hl];rfl),q⟩
 ·refine⟨_,rfl,_,rfl,sz ?E,?_⟩;have e:(p.2.map iD).map (fun d=>match d with |.int i=>iD (b.getD i.toNat 0) |d=>d)=(p.2.map fun g=>b.getD g 0).map iD:=by
   rw[aF,aF];exact aT fun g _=>by simp
  show Q (.st (.tup [iD p.1,.tup _]));rw[e];exact h
def Z5v {b:?N}(hb:b≠[]){Q:R->Prop}(h:Q (.st (iD (U1 b)))):Q1b [.st (.lst (b.map iD))] Q:=by
 rw[V7b];refine⟨b.map fun(x:Nat)=>(x:Int),by rw[V1j,aF];rfl,by simpa using hb,fun m h1 h2=>?_⟩;rw[W9x h1 h2];exact h
def W8o (n:Nat)(o:Am Nat):T6 n (oD o)=true:=by cases o<;>cases n<;>rfl
def W9v (b:?N)(p:Nat×?N):T6 8 (Q2l b p)=true:=by
 simp[Q2l,T6]
theorem J0c (w:Wf es rows)(hl:es.length<=20000){dr:D}(kB:RwD dr rows){E:F9}:∀(n many:Nat) (b:?N),V8 es.length b->es.length+1<=n+many ->
  (∀o3,E.nx [o0,some (.dat dr),some (.dat (.lst ((Q3l rows n many b).map iD))),o3]) ->
  G6 wtA (wlA sp_numbered) (n+1) E [o0,some (.dat dr),some (.dat (.lst (b.map iD))),some (.dat (iD many))]:=by
 intro n
 induction n with
 |zero=>
  intro many b hb hn h;have ne:b≠[]:=fun z=>by have h1:=hb.len;rw[z,bX]at h1;have:=w.pos;lia
  have:=hb.lt _ (Q8t ne);simp only[G6,wtA,C8,K9,C7,B0,C6];k_ne;refine Z5v ne ⟨_,rfl,?_⟩;rw[Q6,Q0l,aI ?U];exact h _
 |succ n ih=>
  intro many b hb hn h;have ne:b≠[]:=fun z=>by have h1:=hb.len;rw[z,bX]at h1;have:=w.pos;lia
  have mx:=hb.lt _ (Q8t ne);rw[G6];simp only[wtA,C8,K9,C7,B0,C6];k_ne;refine Z5v ne ⟨_,rfl,?_⟩;rw[Q6,Q0l];rw[Q3l]at h
  by_cases hm:many<=U1 b
  ·rw[aO (by simpa using hm)];rw[aO hm]at h;simp only[wlA,D6,G1,C8,K9,C7,B0,C6,D5,F4,R9,Y7,V6r];k_ne;refine Z5v ne ?_;rw[Y6,J5];refine⟨_,rfl,_,rfl,_,_,_,_,rfl,rfl,kB.sq,sz (by simp[V7,hb.len];lia),?_⟩;have ez:V7 (b.map iD) (rows.map rD)=((b.zip rows).map fun p=>(iD p.1,rD p.2)).map fun p=>.tup [p.1,p.2]:=by
    unfold V7;rw[List.zip_map]
    rfl
   rw[ez];refine Y2w (f:=fun d e=>match d,e with |.int i,.tup r=>Q2l b (i.toNat,r.map fun d=>match d with |.int j=>j.toNat |_=>0) |_,_=>.non) _ _ _ _ (fun q hq Q' hQ=>?_) ?_
   ·obtain⟨p,hp,rfl⟩:=aq.mp hq;have hr:=(cS hp).2;refine J0b hb hl (w.r4 _ hr) (w.lt _ hr) Q' ?_;have:(p.2.map iD).map (fun d=>match d with |.int j=>j.toNat |_=>0)=p.2:=by
     rw[aF]
     conv=>rhs;rw[<-List.map_id p.2]
     exact aT fun g _=>by simp
    simp only[this]at hQ;simpa using hQ
   ·have em:(((b.zip rows).map fun p=>(iD p.1,rD p.2)).map fun p=>(fun d e=>match d,e with |.int i,.tup r=>Q2l b (i.toNat,r.map fun d=>match d with |.int j=>j.toNat |_=>0) |_,_=>D.non) p.1 p.2)=Q1l rows b:=by
     unfold Q1l;rw[aF];refine aT fun p _=>?_;have:(p.2.map iD).map (fun d=>match d with |.int j=>j.toNat |_=>0)=p.2:=by
      rw[aF]
      conv=>rhs;rw[<-List.map_id p.2]
      exact aT fun g _=>by simp
     simp only[Function.comp,this];simp
    rw[em];refine⟨rfl,_,⟨Q1l rows b,rfl,?_,fun d hd=>?_,rfl⟩,?_⟩
    ·simp[Q1l,hb.len];lia
    ·obtain⟨p,_,rfl⟩:=aq.mp hd;exact⟨W9v b p,_,rfl⟩
    ·have e:((U1 b:Int)+1)=((U1 b+1:Nat):Int):=?H
     show G6 wtA (wlA sp_numbered) (n+1) E [_,_,some (.dat (.lst ((L5 rows b).map iD))),some (.dat (.int ((U1 b:Int)+1)))];rw[e];exact ih _ _ (hb.step w.len) (?H) h
  ·rw[aI (by simpa using hm)];rw[aI hm]at h;exact h _
def sp_told_apart:J4:=fun rs Pr=>∃ra es rows d,rs=[ra,.st d]/\RwD d rows/\U6 ra es/\Wf es rows/\es.length<=20000/\Pr (.st (.lst ((J6 es rows).map iD)))
def V0r:X9 sp_told_apart:=by rintro rs P Q f ⟨ra,es,rows,d,e,h0,h1,h2,h3,h4⟩;exact⟨ra,es,rows,d,e,h0,h1,h2,h3,f _ h4⟩
theorem V5t:∀rs Pr,rs.length=2->sp_told_apart rs Pr->W1d sp_numbered sp_distances (O9 Pr) (E2 Y1c rs):=by
 rintro rs Pr _ ⟨ra,es,rows,dr,rfl,kB,ha,wf,hl,h⟩;unfold W1d;simp only[D6,G1,F4,R9,C7,V6z,Q0o,B0,D5,C6,Y8g];refine⟨_,rfl,_,rfl,?_,ra,es,rows,true,dr,?_,kB,ha,wf,hl,?_⟩
 ·show(L8 (S4 (M5 ra))&&true)=true;rw[ha.rd,ha.arg];rfl
 ·show [nrm (S4 (M5 ra)),_,_]=_;rw[ha.rd,ha.nrm];rfl
 refine⟨_,rfl,_,rfl,?_,ra,es,rows,false,dr,?_,kB,ha,wf,hl,?_⟩
 ·show(L8 (S4 (M5 ra))&&true)=true;rw[ha.rd,ha.arg];rfl
 ·show [nrm (S4 (M5 ra)),_,_]=_;rw[ha.rd,ha.nrm];rfl
 refine⟨_,_,_,_,rfl,rfl,rfl,rfl,_,⟨Z9 es rows,?_,?_,fun d hd=>?_,rfl⟩,?_⟩
 ·have:V7 ((Q0y es rows true).map oD) ((Q0y es rows false).map oD)=Z9 es rows:=by
   unfold V7 Z9;rw[List.zip_map,aF];rfl
  rw[this];rfl
 ·simp[Z9,Q0y];lia
 ·obtain⟨p,_,rfl⟩:=aq.mp hd;exact⟨by simp[T6,W8o],_,rfl⟩
 ·refine⟨es.length+1+1,?_⟩;refine J0c wf hl kB (es.length+1) 0 _ V8.zero (?H) fun o3=>?_;exact⟨_,rfl,h⟩
abbrev C9:=O Bool×O (?N)
variable {m1 m2 m:C9}
abbrev mD (m:C9):D:=.tup [.tup (m.1.map .bl),rsD m.2]
abbrev C5 (m:C9):Prop:=Wf m.1 m.2
def B1 (rows:O (?N))(s c:Nat):Nat:=(rows.getD s []).getD c 0
def Q2q:Nat->?N->O (Nat×Nat)->O (Nat×Nat)
 |_,[],S=>S
 |n,x::b,S=>Q2q (n+1) b (P0 S x n)
def Q3e (rows:O (?N))(b:?N)(x c:Nat):Nat:=b.getD (B1 rows (b.idxOf x) c) 0
noncomputable def R5 (es:O Bool)(rows:O (?N)):?N×O (?N):=V6 es.length (Q3e rows (J6 es rows)) ((J6 es rows).getD 0 0)
noncomputable def Q1a (es:O Bool)(rows:O (?N)):C9:=((R5 es rows).1.map fun x=>es.getD ((J6 es rows).idxOf x) false,(R5 es rows).2)
theorem V6b {s:Nat}{r:?N}(h:rows[s]?=some r)(hc:c<r.length):r[c]?=some (B1 rows s c):=by grind [B1,ax,Ac,ac]
def Wf.row (w:Wf es rows){s:Nat}(h:s<es.length):∃r,rows[s]?=some r/\r.length=4/\∀c<4,r[c]?=some (B1 rows s c)/\B1 rows s c<es.length:=by
 have h':s<rows.length:=by rw[w.len];exact h
 have e:rows[s]?=some rows[s]:=ac h';have m:=bo h';refine⟨_,e,w.r4 _ m,fun c hc=>?_⟩;have g:=V6b e (c:=c) (by rw[w.r4 _ m];exact hc);exact⟨g,w.lt _ m _ (au g)⟩
theorem Q0e (h:c∈B5):c<4:=by
 simp[B5]at h;lia
theorem Q3f (h:c<4):c∈B5:=by
 simp[B5];lia
def Q3a {b:?N}{i:Nat}(h:i<b.length):b.getD i 0∈b:=by
 rw[ax,ac h];exact bo h
def Y5g (w:Wf es rows){b:?N}(hb:b.length=es.length){x:Nat}(hx:x∈b)(hc:c∈B5):Q3e rows b x c∈b:=by
 have hi:=be.mpr hx;obtain⟨r,_,_,h⟩:=w.row (s:=b.idxOf x) (by rw[<-hb];exact hi);exact Q3a (by rw[hb];exact(h c (Q0e hc)).2)
def Q8o (w:Wf es rows):Q2h (Q3e rows (J6 es rows)) ((J6 es rows).getD 0 0) (J6 es rows) (R5 es rows).1 (R5 es rows).2:=by
 have B:=Z8b w;exact Q5t (fun k hk c hc=>Y5g w B.len hk hc) (Q3a (by rw[B.len];exact w.pos)) (Nat.le_of_eq B.len)
def W9a (w:Wf es rows):C5 (Q1a es rows):=by
 have W:=Q8o w;have i9:∀r∈(R5 es rows).2,∃k∈(R5 es rows).1,r=B5.map fun c=>(R5 es rows).1.idxOf (Q3e rows (J6 es rows) k c):=fun r hr=>by
  obtain⟨i,hi,rfl⟩:=bv.mp hr;have jn:i<(R5 es rows).1.length:=by rw[<-W.len];exact hi
  have:=W.row i _ (ac jn);rw[ac hi]at this;exact⟨_,bo jn,aC this⟩
 refine⟨?_,?_,fun r hr=>?_,fun r hr x hx=>?_⟩
 ·show(R5 es rows).2.length=((R5 es rows).1.map _).length;rw[ai];exact W.len
 ·show 0<((R5 es rows).1.map _).length;rw[ai];obtain⟨h,_⟩:=aD.mp W.zero;exact h
 ·obtain⟨k,_,rfl⟩:=i9 r hr;rfl
 ·show x<((R5 es rows).1.map _).length;rw[ai];obtain⟨k,hk,rfl⟩:=i9 r hr;obtain⟨c,hc,rfl⟩:=aq.mp hx;exact be.mpr (W.mem k hk c hc)
def Y4x (w:Wf es rows):(Q1a es rows).1.length<=es.length:=by
 have W:=Q8o w;have h:=W.nd.length_le_of_subset fun x hx=>W.sub x hx;rw[(Z8b w).len]at h;show((R5 es rows).1.map _).length<=_;rw[ai];exact h
theorem W9q {S:O (Nat×Nat)}{x y:Nat}:K1 (P0 S x n) y=if y∈S.map (·.1)then K1 S y else if y=x then some n else none:=by grind [List.find?_eq_none,List.find?_isSome,P0,K1,List.find?_append]
theorem V7i:∀(b:?N) (n:Nat) (S:O (Nat×Nat)) (x:Nat),K1 (Q2q n b S) x=if x∈S.map (·.1)then K1 S x else if x∈b then some (n+b.idxOf x)else none:=by intro b;induction b<;>grind [Q2q,K1,W9q,P0,List.idxOf_cons]
theorem Y8i {b:?N}{x:Nat}(h:x∈b):F8 (kR (Q2q 0 b [])) (ik x)=some (iD (b.idxOf x)):=by
 have:=W0k (Q2q 0 b []) x;rw[V7i,aI ?E,aO h,cG]at this;cases e:F8 (kR (Q2q 0 b [])) (ik x)with
 |none=>rw[e]at this;cases this
 |some d=>rw[e]at this;exact congrArg some this
def W4o (S:O (Nat×Nat))(x n:Nat):(P0 S x n).length<=S.length+1:=by unfold P0;split<;>simp
theorem forS {E:F9}{o0 o1 o2 o6 o7:Am Sl}:∀(b:?N) (n:Nat) (S:O (Nat×Nat)) (o4 o5:Am Sl),S.length+b.length<=1000000 ->
  (∀o4 o5,E.nx [o0,o1,o2,some (.dk (kR (Q2q n b S))),o4,o5,o6,o7]) ->
  E4 (P3 2 (F7 (B6 4) (F7 (B6 5) Q4))) (Z2o 3 (wV 5) (wV 4)) E ((b.zipIdx n).map fun p=>.tup [.int (p.2:Int),iD p.1]) [o0,o1,o2,some (.dk (kR S)),o4,o5,o6,o7]
 |[],n,S,o4,o5,_,h=>h o4 o5
 |x::b,n,S,o4,o5,hz,h=>by
  rw[aK]at hz;have hl:=W4o S x n;have ih:=forS (E:=E) (o0:=o0) (o1:=o1) (o2:=o2) (o6:=o6) (o7:=o7) b (n+1) (P0 S x n) (some (.dat (iD n))) (some (.dat (iD x))) (?H) h;rw[cI,av,E4];simp only[Q1v,Q1t,O0,Q1u,V6u,B0];refine⟨_,rfl,rfl,_,_,rfl,_,_,rfl,rfl,_,rfl,_,rfl,iD x,ik x,rfl,rfl,_,rfl,_,rfl,S5 (by simp[M3];lia),?_⟩;rw[Y4l];unfold P0 at ih
  by_cases hx:x∈S.map (·.1)
  ·rw[aO hx]at ih;rw[aO (by simpa using hx)];exact ih
  ·rw[aI hx]at ih;rw[aI (by simpa using hx)];have e:kR S++[(ik x,iD n)]=kR (S++[(x,n)]):=by simp[M3]
   show E4 _ _ _ _ [_,_,_,some (.dk (kR S++[(ik x,iD n)])),_,_,_,_];rw[e];exact ih
def U6.ix {ra:R}  (h:U6 ra es){i:Nat}(hi:i<es.length){Q:R->Prop}(q:Q (.st (.bl (es.getD i false)))):A8 ra (.st (.int (i:Int))) Q:=by
 have e:L9 (es.map D.bl) (i:Int)=some (.bl (es.getD i false)):=R1 (by rw[ah,ax,ac hi];rfl);rcases h with rfl |rfl
 ·rw[Q1c];exact⟨_,e,q⟩
 ·rw[Z6f];exact⟨_,e,q⟩
def U6.bor {ra:R}  (h:U6 ra es):Q8d (M5 ra)=some (M5 ra):=by rcases h with rfl |rfl<;>rfl
theorem Y5f {b:?N}{i:Nat}(h:i<b.length){Q:R->Prop}(q:Q (.st (iD (b.getD i 0)))):A8 (.st (.lst (b.map iD))) (.st (.int (i:Int))) Q:=by grind [Q8x,R1,ah,ax,ac]
def sp_least:J4:=fun rs Pr=>∃ra es rows d,rs=[ra,.st d]/\RwD d rows/\U6 ra es/\Wf es rows/\es.length<=20000/\Pr (.st (mD (Q1a es rows)))
def V0k:X9 sp_least:=by rintro rs P Q f ⟨ra,es,rows,d,e,h0,h1,h2,h3,h4⟩;exact⟨ra,es,rows,d,e,h0,h1,h2,h3,f _ h4⟩
def W8t {K:Fg9}    (w:Wf es rows){dr:D}(kB:RwD dr rows){b:?N}(hb:b.length=es.length){x:Nat}(hx:x∈b)(hc:c∈B5):
  R4 (Z2r K) [.cl a (Q3 K a (kR (Q2q 0 b []))),.dat dr,.dat (.lst (b.map iD))] [.st (iD x),.st (iD c)] (.st (iD (Q3e rows b x c))):=by
 have hi:b.idxOf x<es.length:=by rw[<-hb];exact be.mpr hx
 obtain⟨r,_,_,h3⟩:=w.row hi;refine⟨[iD x,iD c],iD (Q3e rows b x c),rfl,rfl,?_⟩;unfold Z2r;simp only[C8,B0,Y7w];refine⟨_,rfl,_,rfl,a,_,rfl,_,rfl,iD x,ik x,_,rfl,rfl,Y8i hx,?_⟩;obtain⟨r,h1,h2,h3⟩:=w.row hi;rw[Q6];refine kB.ix h1 ⟨_,rfl,?_⟩;rw[Q6,Z6f];refine⟨iD (B1 rows (b.idxOf x) c),R1 (by rw[ah,(h3 c (Q0e hc)).1];rfl),?_⟩;exact Y5f (by rw[hb];exact(h3 c (Q0e hc)).2) rfl
theorem V5e {K:Fg9}:∀rs Pr,rs.length=2->sp_least rs Pr->Z8x FC K sp_told_apart (sp_walkedK FC) (O9 Pr) (E2 Y0u rs):=by
 rintro rs Pr _ ⟨ra,es,rows,dr,rfl,kB,ha,wf,hl,h⟩;have B:=Z8b wf;have W:=Q8o wf;have gL:0<(J6 es rows).length:=by rw[B.len];exact wf.pos
 unfold Z8x;simp only[D6,G1,F4,Q0o,C7,B0,C6,V6t,V6k,Y8,V6m,Q7b,Y7v,C8,D5,P9,s_tup,K9,Y7,Q9c,Q1v,Q1t,O0,Q1u];refine⟨_,rfl,_,rfl,?_,ra,es,rows,dr,?_,kB,ha,wf,hl,?_⟩
 ·show(L8 (S4 (M5 ra))&&true)=true;rw[ha.rd,ha.arg];rfl
 ·show [nrm (S4 (M5 ra)),_]=_;rw[ha.rd,ha.nrm];rfl
 sleep 2;have e3:J9 ((J6 es rows).map iD)=((J6 es rows).zipIdx 0).map fun p=>.tup [.int (p.2:Int),iD p.1]:=by
  unfold J9;rw[jO,aF];rfl
 rw[e3];refine forS (J6 es rows) 0 [] none none (by simp[B.len];lia) fun o4 o5=>?_;refine⟨_,rfl,fun a=>?_⟩;k_ne;rw[Q6];refine Y5f (i:=0) gL ?_;refine⟨rfl,_,⟨_,_,rfl,rfl,Q3.hid,_,_,rfl,rfl,trivial,_,_,rfl,rfl,trivial,rfl⟩,fun f Φ hF=>?_⟩;refine⟨_,⟨Nat,inferInstance,iD,ik,Q3e rows (J6 es rows),(J6 es rows).getD 0 0,J6 es rows,f,Φ,_,fun _=>rfl,Q4g,rfl,hF,Q3a gL,by rw[B.len];lia,fun k hk c hc=>⟨Y5g wf B.len hk hc,W8t wf kB B.len hk hc⟩,rfl⟩,?_⟩;have eW:V6 (J6 es rows).length (Q3e rows (J6 es rows)) ((J6 es rows).getD 0 0)=R5 es rows:=by unfold R5;rw[B.len]
 rw[eW];refine⟨_,rfl,_,rfl,rfl,_,_,rfl,_,_,rfl,rfl,_,rfl,_,rfl,?_,?_⟩
 ·have ij:=Y4x wf;have:(Q1a es rows).1.length=(R5 es rows).1.length:=by simp[Q1a]
  exact sz (by rw[ai];lia)
 show M7 (B6 0) S0 _ _ [none,Q8d (M5 ra),some (.cl a (Q3 K a (kR (Q2q 0 (J6 es rows) []))))] _;rw[ha.bor];refine Q0f (f:=fun d=>match d with |.int i=>.bl (es.getD ((J6 es rows).idxOf i.toNat) false) |d=>d) (rest:=[some (M5 ra),some (.cl a (Q3 K a (kR (Q2q 0 (J6 es rows) []))))]) _ _ _ (fun d hd Q' q=>?_) ?_
 ·obtain⟨x,hx,rfl⟩:=aq.mp hd;have uF:=W.sub x hx;simp only[F4,C8,B0,Y7w];refine⟨_,rfl,a,_,rfl,_,rfl,iD x,ik x,_,rfl,rfl,Y8i uF,?_⟩;rw[ha.rd];exact ha.ix (by rw[<-B.len];exact be.mpr uF) (by simpa using q)
 ·rw[Q4p];refine⟨_,rfl,_,rfl,_,rfl,sz ?E,?_⟩;have e:((R5 es rows).1.map fun a=>iD a).map (fun d=>match d with |.int i=>D.bl (es.getD ((J6 es rows).idxOf i.toNat) false) |d=>d)=(Q1a es rows).1.map .bl:=by
   unfold Q1a;rw[aF,aF];exact aT fun x _=>by simp
  show Pr (.st (.tup [.tup _,_]));rw[e];exact h
section
variable [DecidableEq α]
def Q2x (U:O α)(step:α->Nat->α)(start:α)(fin:α->Bool):C9:=((V6 U.length step start).1.map fin,(V6 U.length step start).2)
noncomputable def Y2e (U:O α)(step:α->Nat->α)(start:α)(fin:α->Bool):C9:=Q1a (Q2x U step start fin).1 (Q2x U step start fin).2
def Q2h.wf {step:α->Nat->α}{start:α}{U ks:O α}  (W:Q2h step start U ks rs)(fin:α->Bool):Wf (ks.map fin) rs:=by
 have i9:∀r∈rs,∃k∈ks,r=B5.map fun c=>ks.idxOf (?A2):=fun r hr=>by
  obtain⟨i,hi,rfl⟩:=bv.mp hr;have jn:i<ks.length:=by rw[<-W.len];exact hi
  have:=W.row i _ (ac jn);rw[ac hi]at this;exact⟨_,bo jn,aC this⟩
 refine⟨by rw[ai];exact W.len,?_,fun r hr=>?_,fun r hr x hx=>?_⟩
 ·rw[ai];obtain⟨h,_⟩:=aD.mp W.zero;exact h
 ·obtain⟨k,_,rfl⟩:=i9 r hr;rfl
 ·rw[ai];obtain⟨k,hk,rfl⟩:=i9 r hr;obtain⟨c,hc,rfl⟩:=aq.mp hx;exact be.mpr (W.mem k hk c hc)
def Q2h.le {step:α->Nat->α}{start:α}{U ks:O α}  (W:Q2h step start U ks rs):ks.length<=U.length:=W.nd.length_le_of_subset fun x hx=>W.sub x hx
end
def sp_built (FC:N1):J4:=fun rs Pr=>∃(α:Type) (_:DecidableEq α) (ts:α->O D) (key:α->O B7) (step:α->Nat->α) (start:α) (fin:α->Bool) (U:O α) (f f2:Ap) (Φ Φ2:Hp->Prop) (sp gG:E3),
 (∀a,W3 (ts a)=some (key a))/\(∀a b,key a=key b->a=b)/\rs=[.st (.tup (ts start)),.cl f Φ,.cl f2 Φ2]/\FC 2 f Φ sp/\FC 1 f2 Φ2 gG/\start∈U/\U.length<=20000/\(∀k∈U,∀c∈B5,?A2∈U/\sp [.st (.tup (ts k)),.st (iD c)] (.st (.tup (ts (?A2))))) /\
 (∀k∈U,gG [.st (.tup (ts k))] (.st (.bl (fin k))))/\Pr (.st (mD (Y2e U step start fin)))
def V0i:X9 (sp_built FC):=by rintro rs P Q g ⟨α,i,ts,key,step,oi,fin,U,f,f2,Φ,Φ2,sp,gG,h1,h2,h3,h4,h5,h6,h7,h8,h9,yz⟩;exact⟨α,i,ts,key,step,oi,fin,U,f,f2,Φ,Φ2,sp,gG,h1,h2,h3,h4,h5,h6,h7,h8,h9,g _ yz⟩
theorem Y2t {f2:Ap}{Φ2:Hp->Prop}{gG:E3}{ts:α->O D}{fin:α->Bool}(hF:FC 1 f2 Φ2 gG){Q:O D->Prop}:∀(ks:O α) (o:Am Sl),(∀k∈ks,gG [.st (.tup (ts k))] (.st (.bl (fin k))))->Q ((ks.map fin).map .bl) ->
  M7 (B6 0) S0 (B4 (Q0p FC 1 1 (A1 (wV 0) A4))) (ks.map fun a=>.tup (ts a)) [o,some (.cl f2 Φ2)] Q
 |[],o,_,h=>h
 |k::ks,o,hs,h=>by
  rw[av,M7];simp only[O0,V7h,F4,Q7d,C7,B0,C6,fD];refine⟨f2,Φ2,gG,rfl,hF,_,rfl,rfl,_,hs k ?E,_,rfl,?_⟩;exact Y2t hF ks _ (fun k h=>hs k (by simp[h])) h
theorem V4w:∀rs Pr,rs.length=3->sp_built FC rs Pr->Z8u FC (sp_walked FC) sp_least (O9 Pr) (E2 Y0s rs):=by
 rintro rs Pr _ ⟨α,_,ts,key,step,start,fin,U,f,f2,Φ,Φ2,sp,gG,hk,inj,rfl,hF,nj,hs,hl,hU,p0,h⟩;have W:=Q5t (step:=step) (N:=U.length) (fun k h c hc=>(hU k h c hc).1) hs (ak _);have ij:=W.le;unfold Z8u;simp only[D6,Q7b,R9,C7,B0,C6,P9,Q0o,Y7,Q9c,Q1v,Q1t,O0,Q1u];refine⟨_,rfl,_,rfl,rfl,_,⟨α,inferInstance,ts,key,step,start,U,f,Φ,sp,hk,inj,rfl,hF,hs,?H,hU,rfl⟩,?_⟩;refine⟨_,rfl,_,rfl,rfl,_,_,rfl,_,_,rfl,rfl,_,rfl,_,rfl,sz (by rw[ai];lia),?_⟩;refine Y2t (fin:=fin) nj _ none (fun k hk=>p0 k (W.sub k hk)) ?_;refine⟨_,rfl,rfl,_,_,_,_,rfl,.inl rfl,.inl rfl,W.wf fin,by rw[ai];lia,h⟩
abbrev pT (p:Nat×Nat):O D:=[iD p.1,iD p.2]
abbrev pK (p:Nat×Nat):O B7:=[ik p.1,ik p.2]
theorem V2f (a b:Nat×Nat)(h:pK a=pK b):a=b:=by grind [List.cons.inj,Q4g]
def Q1q (m1 m2:C9)(p:Nat×Nat)(c:Nat):Nat×Nat:=(B1 m1.2 p.1 c,B1 m2.2 p.2 c)
def Q5n (g:Bool->Bool->Bool)(m1 m2:C9)(p:Nat×Nat):Bool:=g (m1.1.getD p.1 false) (m2.1.getD p.2 false)
def Q8z (n1 n2:Nat):O (Nat×Nat):=(List.range n1).flatMap fun i=>(List.range n2).map fun j=>(i,j)
theorem Q8u {n1 n2:Nat}{p:Nat×Nat}:p∈Q8z n1 n2 ↔ p.1<n1/\p.2<n2:=by grind [Q8z,cV,aL,aq]
theorem Y6u (n1 n2:Nat):(Q8z n1 n2).length=n1*n2:=by
 have:∀(l:?N),(l.map fun _=>n2).sum=l.length*n2:=by
  intro l;induction l with
  |nil=>simp
  |cons a l ih=>rw[av,cx,ih,aK,nT];lia
 simp[Q8z,ub,this]
def PU (m1 m2:C9):O (Nat×Nat):=Q8z m1.1.length m2.1.length
def Q9b (w1:C5 m1)(w2:C5 m2){p:Nat×Nat}(h:p∈PU m1 m2)  (hc:c∈B5):Q1q m1 m2 p c∈PU m1 m2:=by
 obtain⟨h1,h2⟩:=Q8u.mp h;obtain⟨_,_,_,g1⟩:=w1.row h1;obtain⟨_,_,_,g2⟩:=w2.row h2;exact Q8u.mpr ⟨(g1 c (Q0e hc)).2,(g2 c (Q0e hc)).2⟩
def Y1g (m1 m2:C9)(sp:E3):Prop:=∀p∈PU m1 m2,∀c∈B5,sp [.st (.tup (pT p)),.st (iD c)] (.st (.tup (pT (Q1q m1 m2 p c))))
def EndP (g:Bool->Bool->Bool)(m1 m2:C9)(sp:E3):Prop:=∀p∈PU m1 m2,sp [.st (.tup (pT p))] (.st (.bl (Q5n g m1 m2 p)))
def Q8a (g:Bool->Bool->Bool)(sp:E3):Prop:=∀x y:Bool,sp [.st (.bl x),.st (.bl y)] (.st (.bl (g x y)))
def sp_pair_step (FC:N1):J4:=fun rs Pr=>∃m1 m2,rs=[.st (mD m1),.st (mD m2)]/\C5 m1/\C5 m2/\∀f Φ sp,FC 2 f Φ sp->Y1g m1 m2 sp->Pr (.cl f Φ)
def V0o:X9 (sp_pair_step FC):=by rintro rs P Q g ⟨m1,m2,e,h1,h2,h3⟩;exact⟨m1,m2,e,h1,h2,fun f Φ sp a b=>g _ (h3 f Φ sp a b)⟩
def sp_pair_end (gy ef:N1):J4:=fun rs Pr=>∃m1 m2 f Φ sp g,rs=[.st (mD m1),.st (mD m2),.cl f Φ]/\C5 m1/\C5 m2/\gy 2 f Φ sp/\Q3t Φ/\Q8a g sp/\∀f' Φ' mq,ef 1 f' Φ' mq->EndP g m1 m2 mq->Pr (.cl f' Φ')
def V0n:X9 (sp_pair_end gy ef):=by rintro rs P Q q ⟨m1,m2,f,Φ,sp,g,e,h1,h2,h3,h4,h5,h6⟩;exact⟨m1,m2,f,Φ,sp,g,e,h1,h2,h3,h4,h5,fun f' Φ' mq a b=>q _ (h6 f' Φ' mq a b)⟩
def M6 {b:O D}{i:Nat}{d:D}(h:b[i]?=some d){Q:R->Prop}(q:Q (.st d)):A8 (.st (.tup b)) (.st (.int (i:Int))) Q:=by
 rw[Z6f];exact⟨_,R1 h,q⟩
def W8v (w1:C5 m1)(w2:C5 m2):Y1g m1 m2 (R4 Z2t [.dat (rsD m1.2),.dat (rsD m2.2)]):=by
 rintro ⟨i,j⟩ hp c hc;obtain⟨h1,h2⟩:=Q8u.mp hp;refine⟨[.tup (pT (i,j)),iD c],_,rfl,rfl,?_⟩;unfold Z2t;simp only[s_tup,C7,F4,C8,B0,D5,C6];refine⟨_,rfl,_,rfl,M6 (i:=0) rfl ?_⟩;obtain⟨r,g1,_,g2⟩:=w1.row h1;refine M6 (i:=i) (d:=rD r) (by rw[ah,g1];rfl) ⟨_,rfl,?_⟩;refine M6 (i:=c) (d:=iD (B1 m1.2 i c)) (by rw[ah,(g2 c (Q0e hc)).1];rfl) ?_;refine⟨_,rfl,_,rfl,M6 (i:=1) rfl ?_⟩;obtain⟨r,g1,_,g2⟩:=w2.row h2;refine M6 (i:=j) (d:=rD r) (by rw[ah,g1];rfl) ⟨_,rfl,?_⟩;refine M6 (i:=c) (d:=iD (B1 m2.2 j c)) (by rw[ah,(g2 c (Q0e hc)).1];rfl) ?_;exact⟨_,rfl,sz ?E,rfl⟩
def V5m:∀rs Pr,rs.length=2->sp_pair_step FC rs Pr->Q7t FC 2 [("rows",2),("other_rows",3)] Z2t Z8f Z8g Pr (E2 Y0y rs):=by
 rintro rs Pr _ ⟨m1,m2,rfl,w1,w2,h⟩;unfold Q7t Z8f Z8g;simp only[G1,C8,B0,D5];refine⟨_,rfl,M6 (i:=1) rfl ?_⟩;rw[J5];refine⟨_,rfl,M6 (i:=1) rfl ?_⟩;rw[J5];exact⟨_,⟨_,_,rfl,rfl,trivial,_,_,rfl,rfl,trivial,rfl⟩,fun f Φ hF=>h f Φ _ hF (W8v w1 w2)⟩
def Q6e {i:Nat}(h:i<es.length):(es.map D.bl)[i]?=some (.bl (es.getD i false)):=by
 rw[ah,ax,ac h];rfl
def W8u (hF:gy 2 f Φ sp)(ht:Q8a g sp):EndP g m1 m2 (R4 (Z2s gy) [.dat (.tup (m2.1.map .bl)),.cl f Φ,.dat (.tup (m1.1.map .bl))]):=by
 rintro ⟨i,j⟩ hp;obtain⟨h1,h2⟩:=Q8u.mp hp;refine⟨[.tup (pT (i,j))],_,rfl,rfl,?_⟩;unfold Z2s;simp only[Q7d,C7,C8,B0,D5,C6];refine⟨f,Φ,sp,rfl,hF,_,rfl,_,rfl,M6 (i:=0) rfl ?_⟩;refine M6 (i:=i) (Q6e h1) ?_;refine⟨_,rfl,_,rfl,M6 (i:=1) rfl ?_⟩;refine M6 (i:=j) (Q6e h2) ?_;exact⟨rfl,_,ht _ _,rfl⟩
def V5l:∀rs Pr,rs.length=3->sp_pair_end gy ef rs Pr->Q7t ef 1 [("other_ends",4),("is_end",2),("ends",3)] (Z2s gy) Z8e w2_pair_end Pr (E2 Y0x rs):=by
 rintro rs Pr _ ⟨m1,m2,f,Φ,sp,g,rfl,w1,w2,hF,hH,ht,h⟩;unfold Q7t Z8e w2_pair_end;simp only[G1,C8,B0,D5];refine⟨_,rfl,M6 (i:=0) rfl ?_⟩;rw[J5];refine⟨_,rfl,M6 (i:=0) rfl ?_⟩;rw[J5];exact⟨_,⟨_,_,rfl,rfl,trivial,_,_,rfl,rfl,hH,_,_,rfl,rfl,trivial,rfl⟩,fun f' Φ' hF'=>h f' Φ' _ hF' (W8u hF ht)⟩
noncomputable def Q3h (g:Bool->Bool->Bool)(m1 m2:C9):C9:=Y2e (PU m1 m2) (Q1q m1 m2) (0,0) (Q5n g m1 m2)
def Q7j (gy:N1):J4:=fun rs Pr=>∃m1 m2 f Φ sp g,rs=[.st (mD m1),.st (mD m2),.cl f Φ]/\C5 m1/\C5 m2/\m1.1.length*m2.1.length<=20000/\gy 2 f Φ sp/\Q3t Φ/\Q8a g sp/\Pr (.st (mD (Q3h g m1 m2)))
def V0p:X9 (Q7j gy):=by rintro rs P Q q ⟨m1,m2,f,Φ,sp,g,e,h1,h2,h3,h4,h5,h6,h7⟩;exact⟨m1,m2,f,Φ,sp,g,e,h1,h2,h3,h4,h5,h6,q _ h7⟩
def Q9q (w1:C5 m1)(w2:C5 m2):(0,0)∈PU m1 m2:=Q8u.mpr ⟨w1.pos,w2.pos⟩
def V7p (w1:C5 m1)(w2:C5 m2):C5 (Q3h g m1 m2):=
 W9a ((Q5t (step:=Q1q m1 m2) (N:=(PU m1 m2).length) (fun k h c hc=>Q9b w1 w2 h hc) (Q9q w1 w2) (ak _)).wf _)
def V7o (w1:C5 m1)(w2:C5 m2):(Q3h g m1 m2).1.length<=m1.1.length*m2.1.length:=by
 have W:=Q5t (step:=Q1q m1 m2) (N:=(PU m1 m2).length) (fun k h c hc=>Q9b w1 w2 h hc) (Q9q w1 w2) (ak _);have h1:=Y4x (W.wf (Q5n g m1 m2));have h2:=W.le;rw[ai]at h1;have h3:(PU m1 m2).length=m1.1.length*m2.1.length:=Y6u _ _;exact aU h1 (h3▸h2)
def V5o:∀rs Pr,rs.length=3->Q7j gy rs Pr->Z9a (sp_built ef) (sp_pair_step ef) (sp_pair_end gy ef) (O9 Pr) (E2 W4i rs):=by
 rintro rs Pr _ ⟨m1,m2,f,Φ,sp,g,rfl,w1,w2,hl,hF,hH,ht,h⟩;unfold Z9a;simp only[P9,Q0o,C7,s_tup,F4,D5,C6,B0];refine⟨_,rfl,sz ?E,_,rfl,_,rfl,rfl,m1,m2,rfl,w1,w2,fun f1 Φ1 sp1 yr sr=>?_⟩;refine⟨_,rfl,_,rfl,_,rfl,rfl,m1,m2,f,Φ,sp,g,rfl,w1,w2,hF,hH,ht,fun f2 Φ2 gG nj ky=>?_⟩;refine⟨rfl,Nat×Nat,inferInstance,pT,pK,Q1q m1 m2,(0,0),Q5n g m1 m2,PU m1 m2,f1,f2,Φ1,Φ2,sp1,gG,fun _=>rfl,V2f,rfl,yr,nj,Q9q w1 w2,by unfold PU;rw[Y6u];exact hl,fun k hk c hc=>⟨Q9b w1 w2 hk hc,sr k hk c hc⟩,ky,h⟩
abbrev sD:Am Str->D
 |none=>.non
 |some t=>.str t
abbrev W8:O (Nat×Str):=[(0,"0"),(1,"1"),(2,"a"),(3,"b")]
theorem enm4:J9 (K0 "01ab")=W8.map fun p=>.tup [.int (p.1:Int),.str p.2]:=rfl
section
variable [DecidableEq α]
def Q0u (T:O (α×Str))(g:α)(t:Str):O (α×Str):=if g∈T.map (·.1)then T else T++[(g,t)]
def goT (st:Nat->α)(t:Str):O (Nat×Str)->O (α×Str)->O (α×Str)
 |[],T=>T
 |c::cs,T=>goT st t cs (Q0u T (st c.1) (t++c.2))
def ftN (step:α->Nat->α)(fin:α->Bool):Nat->O (α×Str)->Nat->Am Str
 |0,_,_=>none
 |n+1,T,p=>match T[p]? with
  |none=>none
  |some q=>if fin q.1 then some q.2 else ftN step fin n (goT (step q.1) q.2 W8 T) (p+1)
def Q4e (n:Nat)(step:α->Nat->α)(start:α)(fin:α->Bool):Am Str:=ftN step fin n [(start,"")] 0
structure Y0 (U:O α)(T:O (α×Str)):Prop where
 nd:(T.map (·.1)).Nodup
 sub:∀q∈T,q.1∈U
 len:∀q∈T,q.2.length<T.length
def Y0.bound {U:O α}{T:O (α×Str)}(h:Y0 U T):T.length<=U.length:=by
 have:=h.nd.length_le_of_subset fun x hx=>by
  obtain⟨q,hq,rfl⟩:=aq.mp hx;exact h.sub q hq
 simpa using this
theorem Z3q (T:O (α×Str))(g:α)(t:Str):T <+: Q0u T g t:=by grind [Q0u,bA,cM]
theorem Y0.add {U:O α}{T:O (α×Str)}(h:Y0 U T){g k:α}{t s:Str}(hg:g∈U)(hk:(k,t)∈T)(hs:s.length=1):Y0 U (Q0u T g (t++s)):=by
 unfold Q0u;split
 ·exact h
 ·rename_i n;have hl:=h.len _ hk;refine⟨?_,fun q hq=>?_,fun q hq=>?_⟩
  ·rw[aX,bc];exact⟨h.nd,by simp,fun a ha b hb=>by
    simp at hb;rintro rfl;exact n (hb▸ha)⟩
  ·rcases aN.mp hq with hq |hq
   ·exact h.sub q hq
   ·rw[aE.mp hq];exact hg
  ·rw[ao,bi];rcases aN.mp hq with hq |hq
   ·have:=h.len q hq;lia
   ·rw[aE.mp hq];show(t++s).length<_;rw[PySem.Str.length_append,hs];have hl:t.length<T.length:=hl;lia
theorem Y0.go {U:O α}{st:Nat->α}{k:α}{t:Str}:∀(cs:O (Nat×Str)) (T:O (α×Str)),Y0 U T->(k,t)∈T->(∀c∈cs,st c.1∈U/\c.2.length=1)->Y0 U (goT st t cs T)
 |[],T,h,_,_=>h
 |c::cs,T,h,hk,hc=>Y0.go cs _ (h.add (hc c ?E).1 hk (hc c ?E).2) ((Z3q _ _ _).subset hk) fun c' h'=>hc c' (by simp[h'])
def Q4a {c:Nat×Str}(h:c∈W8):c.1∈B5/\c.2.length=1:=by
 simp only[W8,ar,aV,bG]at h;rcases h with rfl |rfl |rfl |rfl<;>exact⟨?G,rfl⟩
def Z7z (T:O (α×Str)):(T.map fun q=>(q.1,D.str q.2)).map (·.1)=T.map (·.1):=by simp
end
def W0c {U:O α}{st:α}(h:st∈U):Y0 U [(st,("":Str))]:=⟨by simp,fun q hq=>by rw[aE.mp hq];exact h,fun q hq=>by rw[aE.mp hq];show(Str.ofString "").length<1;decide⟩
abbrev W4d:O Str:=["start","step","is_end","keys","texts","place","key","column","sign","goal"]
def Z8v (ef:N1)  :WS:=(A6 (C2 3 (S7 (A1 (B4 (wV 0)) A4))) (A6 (Z2n 4 (wV 0) (wC (.str ""))) (A6 (C2 5 ?A5) (A6 (Q2a (A3 (K8 fun i j=>decide (i<j)) (wV 5) (D8 F2 (A1 (wV 3) A4))) (A6 (C2 6 (A3 A8 (wV 3) (wV 5))) (A6 (N7 (Q3m (Q0p ef 1 2 (A1 (wV 6) A4))) (J3 (Q2t 4 (wV 6))) M9) (A6 (Q8 (Q6l (A1 (wC (.str "01ab")) A4)) (P3 2 (F7 (B6 7) (F7 (B6 8) Q4))) (A6 (C2 9 (Q0p ef 2 1 (A1 (wV 6) (A1 (wV 7) A4)))) (N7 (Q4x 4 (wV 9)) (A6 (Q4y 4 (wV 9) (A3 G2 (Q2t 4 (wV 6)) (wV 8))) (M8 3 (B4 (wV 9)))) M9))) (Z3 5 (J1 NoC fun i j=>i+j) ?X))))) (J3 (wC .non))))))
section
variable [DecidableEq α]
variable {f2:Ap}{Φ2:Hp->Prop}{gG:E3}{step:α->Nat->α}{fin:α->Bool}{en:α->D}{key:α->B7}
abbrev tK (key:α->B7)(T:O (α×Str)):O (B7×D):=M3 key (T.map fun q=>(q.1,.str q.2))
def Y9o (inj:∀a b,key a=key b->a=b){T:O (α×Str)}(nd:(T.map (·.1)).Nodup){k:α}{t:Str}(h:(k,t)∈T):F8 (tK key T) (key k)=some (.str t):=by
 rw[Q3d inj];exact W0i (by rw[Z7z];exact nd) (aq.mpr ⟨_,h,rfl⟩)
def Z9f (ef:N1):WS:=(A6 (C2 9 (Q0p ef 2 1 (A1 (wV 6) (A1 (wV 7) A4)))) (N7 (Q4x 4 (wV 9)) (A6 (Q4y 4 (wV 9) (A3 G2 (Q2t 4 (wV 6)) (wV 8))) (M8 3 (B4 (wV 9)))) M9))
theorem Y3s (hk:∀a,P4 (en a)=some (key a))(inj:∀a b,key a=key b->a=b)(hF:FC 2 f Φ sp){U:O α}(hl:U.length<=100000){k:α}{t:Str}{E:F9}{o0 o2 o5:Am Sl}:∀(cs:O (Nat×Str)) (T:O (α×Str)) (o7 o8 o9:Am Sl),
  Y0 U T->(k,t)∈T->(∀c∈cs,(step k c.1∈U/\c.2.length=1)/\sp [.st ((en k)),.st (iD c.1)] (.st ((en (step k c.1))))) ->
  (∀o7 o8 o9,E.nx [o0,some (.cl f Φ),o2,some (.own ((goT (step k) t cs T).map fun q=>(en q.1))),some (.dk (tK key (goT (step k) t cs T))),o5,some (.dat ((en k))),o7,o8,o9]) ->
  E4 (P3 2 (F7 (B6 7) (F7 (B6 8) Q4))) (Z9f FC) E (cs.map fun p=>.tup [.int (p.1:Int),.str p.2]) [o0,some (.cl f Φ),o2,some (.own (T.map fun q=>(en q.1))),some (.dk (tK key T)),o5,some (.dat ((en k))),o7,o8,o9]
 |[],T,o7,o8,o9,_,_,_,h=>h o7 o8 o9
 |c::cs,T,o7,o8,o9,hI,hkt,hs,h=>by
  obtain⟨⟨hU,h1⟩,oF⟩:=hs c aj;have b:=hI.bound;have p8:=hI.add hU hkt h1;have xV:=(Z3q T (step k c.1) (t++c.2)).subset hkt;have b2:=p8.bound;have ih:=Y3s hk inj hF hl (k:=k) (t:=t) (E:=E) (o0:=o0) (o2:=o2) (o5:=o5) cs;have cp:=hI.len _ hkt;have cp:t.length<T.length:=cp;have hv:=Q3d inj (T.map fun q=>(q.1,D.str q.2)) (step k c.1);have hi:(F8 (tK key T) (key (step k c.1))).isSome=decide (step k c.1∈T.map (·.1)):=by rw[hv,Z2b,Z7z]
  rw[av,E4];simp only[Z9f,Q1v,Q1t,O0,Q1u,D6,G1,Q7d,C7,B0,C6,Y9,Z6z,Z7a,Q1s,F4,Z0,Z1n,C8];refine⟨_,rfl,rfl,_,_,rfl,_,_,rfl,rfl,f,Φ,sp,rfl,hF,_,rfl,_,rfl,rfl,_,oF,?_⟩;rw[J5];refine⟨_,rfl,_,rfl,en (step k c.1),key (step k c.1),rfl,hk _,?_⟩;rw[hi]
  by_cases hm:step k c.1∈T.map (·.1)
  ·have ea:Q0u T (step k c.1) (t++c.2)=T:=aO hm;rw[aI (by simpa using hm)];refine ih T _ _ _ hI hkt (fun c' h'=>hs c' (ag _ h')) ?_;simpa only[goT,ea]using h
  ·have ea:Q0u T (step k c.1) (t++c.2)=T++[(step k c.1,t++c.2)]:=aI hm;rw[aO (by simpa using hm)];refine⟨_,rfl,_,rfl,en k,key k,_,rfl,hk _,Y9o inj hI.nd hkt,_,rfl,?_⟩;rw[Q6,V1f];refine⟨sz (by rw[h1];lia),_,rfl,_,rfl,_,rfl,en (step k c.1),key (step k c.1),rfl,hk _,S5 (by simp[M3];lia),_,rfl,_,rfl,_,rfl,S5 ?U,?_⟩;have e1:P8 (tK key T) (key (step k c.1)) (.str (t++c.2))=tK key (Q0u T (step k c.1) (t++c.2)):=by
    rw[Z0s inj (by rw[Z7z];exact hm),ea];simp[tK]
   have e2:(T.map fun q=>en q.1)++[en (step k c.1)]=(Q0u T (step k c.1) (t++c.2)).map fun q=>en q.1:=by rw[ea];simp
   show E4 _ _ _ _ [_,_,_,some (.own ((T.map fun q=>en q.1)++[en (step k c.1)])),some (.dk (P8 (tK key T) (key (step k c.1)) (.str (t++c.2)))),_,_,_,_,_];rw[e1,e2];exact ih _ _ _ _ p8 xV (fun c' h'=>hs c' (ag _ h')) h
def Z2v:WT:=(A3 (K8 fun i j=>decide (i<j)) (wV 5) (D8 F2 (A1 (wV 3) A4)))
def Z9m (ef:N1):WS:=(A6 (C2 6 (A3 A8 (wV 3) (wV 5))) (A6 (N7 (Q3m (Q0p ef 1 2 (A1 (wV 6) A4))) (J3 (Q2t 4 (wV 6))) M9) (A6 (Q8 (Q6l (A1 (wC (.str "01ab")) A4)) (P3 2 (F7 (B6 7) (F7 (B6 8) Q4))) (Z9f ef)) (Z3 5 (J1 NoC fun i j=>i+j) ?X))))
theorem J0d (hk:∀a,P4 (en a)=some (key a))(inj:∀a b,key a=key b->a=b)(hF:FC 2 f Φ sp)(nj:FC 1 f2 Φ2 gG){U:O α}(hl:U.length<=100000){E:F9} 
  (hU:∀k∈U,∀c∈B5,?A2∈U/\sp [.st ((en k)),.st (iD c)] (.st ((en (?A2))))) (p0:∀k∈U,gG [.st ((en k))] (.st (.bl (fin k)))):∀(n:Nat) (T:O (α×Str)) (p:Nat) (o6 o7 o8 o9:Am Sl),Y0 U T->U.length<=n+p ->
  (ftN step fin n T p=none->∀ τ,E.nx τ)->(∀t,ftN step fin n T p=some t->E.rt (.st (.str t))) ->
  G6 Z2v (Z9m FC) (n+1) E [o0,some (.cl f Φ),some (.cl f2 Φ2),some (.own (T.map fun q=>(en q.1))),some (.dk (tK key T)),some (.dat (iD p)),o6,o7,o8,o9]:=by
 intro n
 induction n with
 |zero=>
  intro T p o6 o7 o8 o9 hI hp h h2;have b:=hI.bound;simp only[G6,Z2v,C8,K9,C7,B0,C6];sleep 2;simp only[Q6,X3,Q0m,Q0l,ai];rw[aI ?U];exact h rfl _
 |succ n ih=>
  intro T p o6 o7 o8 o9 hI hp h h2;have b:=hI.bound;rw[G6];simp only[Z2v,C8,K9,C7,B0,C6];sleep 2;simp only[Q6,X3,Q0m,Q0l,ai]
  by_cases cm:p<T.length
  ·rw[aO (by simpa using cm)];have gw:T[p]?=some T[p]:=ac cm;have kin:=bo cm;generalize T[p]=q at gw kin;obtain⟨k,t⟩:=q;have qm:k∈U:=hI.sub _ kin;rw[ftN,gw]at h h2;simp only[Z9m,D6,G1,C8,B0,Y9,Q7e,Q7d,C7,C6,P9,Z1n,Z0,Y8,Y7y,D5,Q7c];sleep 2;rw[X3,Q6,Q1c];refine⟨(en k),R1 (by rw[ah,gw];rfl),f2,Φ2,gG,rfl,nj,_,rfl,rfl,_,p0 k qm,?_⟩;rw[Z6g]
   by_cases hf:fin k=true
   ·rw[aO hf];have h2:=h2 t (by show(if fin k=true then some t else _)=_;rw[aO hf]);refine⟨_,rfl,_,rfl,en k,key k,_,rfl,hk _,Y9o inj hI.nd kin,h2⟩
   ·rw[aI hf];simp only[hf]at h h2;refine .inl ⟨_,rfl,?_⟩;rw[enm4];refine Y3s hk inj hF hl W8 T _ _ _ hI kin (fun c hc=>⟨⟨(hU k qm c.1 (Q4a hc).1).1,(Q4a hc).2⟩,(hU k qm c.1 (Q4a hc).1).2⟩) fun o7 o8 o9=>?_;refine⟨_,rfl,trivial,?_⟩;have e:((p:Int)+1)=((p+1:Nat):Int):=?H
    show G6 Z2v (Z9m FC) (n+1) E [_,_,_,_,_,some (.dat (.int ((p:Int)+1))),_,_,_,_];rw[e];exact ih _ _ _ _ _ _ (Y0.go W8 T hI kin fun c hc=>⟨(hU k qm c.1 (Q4a hc).1).1,(Q4a hc).2⟩) (?H) h h2
  ·rw[aI (by simpa using cm)];have e:T[p]?=none:=az.mpr (?H);exact h (by rw[ftN,e]) _
end
def Q7h (FC:N1):E3:=fun rs r=>∃(α:Type) (_:DecidableEq α) (en:α->D) (key:α->B7) (step:α->Nat->α) (start:α) (fin:α->Bool) (U:O α) (f f2:Ap) (Φ Φ2:Hp->Prop) (sp gG:E3),
 (∀a,P4 (en a)=some (key a))/\(∀a b,key a=key b->a=b)/\rs=[.st ((en start)),.cl f Φ,.cl f2 Φ2]/\FC 2 f Φ sp/\FC 1 f2 Φ2 gG/\start∈U/\U.length<=100000/\(∀k∈U,∀c∈B5,?A2∈U/\sp [.st ((en k)),.st (iD c)] (.st ((en (?A2))))) /\
 (∀k∈U,gG [.st ((en k))] (.st (.bl (fin k))))/\r=.st (sD (Q4e U.length step start fin))
theorem V5b:∀rs r,rs.length=3->Q7h FC rs r->Z8v FC (S9 r) (E2 W4d rs):=by
 rintro rs r _ ⟨α,_,en,key,step,oi,fin,U,f,f2,Φ,Φ2,sp,gG,hk,inj,rfl,hF,nj,hs,hl,hU,p0,rfl⟩;unfold Z8v;simp only[D6,G1,s_lst,C7,F4,B0,C6,Y8d,D5,P9];refine⟨_,rfl,_,rfl,sz ?E,?_⟩;refine⟨(?G:4<10),_,rfl,en oi,key oi,rfl,hk _,_,rfl,?_⟩;rw[J5];refine⟨U.length+1,?_⟩;refine J0d hk inj hF nj hl hU p0 U.length [(oi,"")] 0 _ _ _ _ (W0c hs) (?H) (fun e τ=>?_) (fun t e=>?_)
 ·show R.st .non=.st (sD (Q4e _ _ _ _));unfold Q4e;rw[e]
 ·show R.st (.str t)=.st (sD (Q4e _ _ _ _));unfold Q4e;rw[e]
abbrev gOr (x y:Bool):Bool:=x||y
structure Two (m1 m2:C9):Prop where
 w1:C5 m1
 w2:C5 m2
 le:m1.1.length*m2.1.length<=20000
def V9d:Q8a gOr (R4 Q9n []):=by
 intro x y;refine⟨[.bl x,.bl y],_,rfl,rfl,?_⟩;cases x<;>cases y<;>simp[Q9n]
def spS (g:Bool->Bool->Bool):J4:=fun rs Pr=>∃m1 m2,rs=[.st (mD m1),.st (mD m2)]/\Two m1 m2/\Pr (.st (mD (Q3h g m1 m2)))
def V0g:X9 (spS g):=fun rs P Q q⟨m1,m2,e,h1,h2⟩=>⟨m1,m2,e,h1,q _ h2⟩
def rdS2 {wl:WE}(ht:Q8a g (R4 wl [])):∀rs Pr,rs.length=2->spS g rs Pr->(J3 (S6 (Q7j gy) (A1 (wV 0) (A1 (wV 1) (A1 (Z2p gy 2 (R4 wl [])) A4))))) (O9 Pr) (E2 ["one","other"] rs):=by
 rintro rs Pr _ ⟨m1,m2,rfl,h2,h⟩;simp only[P9,Q0o,C7,C6,B0,V6v];refine⟨_,rfl,_,rfl,fun f Φ hF hH=>?_⟩;exact⟨rfl,m1,m2,f,Φ,_,g,rfl,h2.w1,h2.w2,h2.le,hF,hH,ht,h⟩
def V5a:∀rs Pr,rs.length=2->spS gOr rs Pr->W0s gy (Q7j gy) (O9 Pr) (E2 W4c rs):=rdS2 V9d
abbrev scr (ns:O Int):D:=.lst (ns.map D.int)
def Q2y (ns:O Int)(k:Int):Int:=if ns=[]then 7*k else(ns[(k % (ns.length:Int)).toNat]?.getD 0)+6553*(k / (ns.length:Int))
def Z7c:E3:=fun rs r=>∃ns k,rs=[.st (scr ns),.st (.int k)]/\ns.length<=63/\r=.st (.int (Q2y ns k))
theorem W6f (ns:O Int):D.depth (scr ns)<=60:=by induction ns<;>grind [Dqdepths,D.depth]
theorem W4u {k:Int}(h:ns≠[]):L9 (ns.map D.int) (k % (ns.length:Int))=some (.int (ns[(k % (ns.length:Int)).toNat]?.getD 0)):=by
 have hp:0<(ns.length:Int):=by have:=ua.mpr h;lia
 have h0:=eF k (?H:(ns.length:Int)≠0);have h1:=dy k hp;have cm:(k % (ns.length:Int)).toNat<ns.length:=?H
 have e:k % (ns.length:Int)=(((k % (ns.length:Int)).toNat:Nat):Int):=?H
 have q:L9 (ns.map D.int) (((k % (ns.length:Int)).toNat:Nat):Int)=some (.int (ns[(k % (ns.length:Int)).toNat]?.getD 0)):=R1 (by rw[ah,ac cm];rfl);rw[<-e]at q;exact q
theorem V4x:∀rs r,rs.length=2->Z7c rs r->Z8w (S9 r) (E2 W4f rs):=by
 rintro rs r _ ⟨ns,k,rfl,hn,rfl⟩;have hd:=W6f ns
 by_cases h:ns=[]
 ·subst h;simp[Z8w,Q3n,Q2y,hd,D.depth,Dqdepths]
 ·have hp:0<(ns.length:Int):=by have:=ua.mpr h;lia
  simp[Z8w,Q3n,Q2b,Q2y,hd,h,W4u h];lia
def Y3 (ns:O Int)(k m:Int):Int:=
 let c:=((Q2y ns k) % 2147483563*69069+104723*(k+1)) % 2147483563;let c:=(c*c+c / 3) % 2147483399
 (c*c+c / 7) % 2147483647 / 11 % m
def Q7g:E3:=fun rs r=>∃ns k m,rs=[.st (scr ns),.st (.int k),.st (.int m)]/\ns.length<=63/\0<m/\r=.st (.int (Y3 ns k m))
theorem V4z:∀rs r,rs.length=3->Q7g rs r->W0v Z7c (S9 r) (E2 W4g rs):=by
 rintro rs r _ ⟨ns,k,m,rfl,hn,hm,rfl⟩;have key:∀c:Int,0<=c->c<2147483648->Q3n c c:=fun c h1 h2=>.inl ⟨?H,?H⟩;simp[W0v,Z7c,hm,hn];refine⟨_,⟨ns,k,⟨rfl,rfl⟩,hn,rfl⟩,?_⟩;have e1:=eF (Q2y ns k) (?G:(2147483563:Int)≠0);have e2:=dy (Q2y ns k) (?G:(0:Int)<2147483563);have b1:=eF (Q2y ns k % 2147483563*69069+104723*(k+1)) (?G:(2147483563:Int)≠0);have b2:=dy (Q2y ns k % 2147483563*69069+104723*(k+1)) (?G:(0:Int)<2147483563);simp only[Q6w,Y6m,Y6,J5,Q6,V1l,V1g,Y3];generalize (Q2y ns k % 2147483563*69069+104723*(k+1)) % 2147483563=c at b1 b2 ⊢;have b3:=eF (c*c+c / 3) (?G:(2147483399:Int)≠0);have b4:=dy (c*c+c / 3) (?G:(0:Int)<2147483399);generalize (c*c+c / 3) % 2147483399=c2 at b3 b4 ⊢;have cd:∀c:Int,Q2b c 3/\Q2b c 7/\Q2b c 11:=fun c=>⟨⟨?G,?G⟩,⟨?G,?G⟩,⟨?G,?G⟩⟩
 exact⟨?G,.inl ⟨?H,?H⟩,.inl ⟨?G,?G⟩,?G,key _ b1 (?H),(cd c).1,?G,key _ b3 (?H),(cd c2).2.1,?G,(cd _).2.2,hm,trivial⟩
theorem W6k (ns:O Int)(k:Int){m:Int}(h:0<m):0<=Y3 ns k m:=eF _ (?H)
def W6j (ns:O Int)(k:Int){m:Int}(h:0<m):Y3 ns k m<m:=dy _ h
def T4 (ns:O Int)(k:Int)(m:Nat):Nat:=(Y3 ns k (m:Int)).toNat
theorem Q6h (ns:O Int)(k:Int){m:Nat}(h:0<m):Y3 ns k (m:Int)=(T4 ns k m:Int):=by
 have:=W6k ns k (m:=(m:Int)) (?H);unfold T4;lia
theorem Q4b (ns:O Int)(k:Int){m:Nat}(h:0<m):T4 ns k m<m:=by
 have:=W6j ns k (m:=(m:Int)) (?H);have:=Q6h ns k h;lia
def V0 (ns:O Int)(at_:Int)(most:Nat):Nat:=1+T4 ns at_ most
def Z8 (ns:O Int)(at_:Int)(most:Nat):C9:=
 ((List.range (V0 ns at_ most)).map fun(k:Nat)=>decide (Y3 ns (at_+1+(k:Int)) 2=0),(List.range (V0 ns at_ most)).map fun(k:Nat)=>B5.map fun(j:Nat)=>T4 ns (at_+7+4*(k:Int)+(j:Int)) (V0 ns at_ most))
def Z5t (ns:O Int)(at_:Int)(most:Nat):(Z8 ns at_ most).1.length=V0 ns at_ most:=by simp[Z8]
theorem Y5h (ns:O Int)(at_:Int){most:Nat}(h:0<most):(Z8 ns at_ most).1.length<=most:=by
 rw[Z5t];unfold V0;have:=Q4b ns at_ h;lia
theorem Y5i (ns:O Int)(at_:Int){most:Nat}(h:0<most):C5 (Z8 ns at_ most):=by
 have hp:0<V0 ns at_ most:=by unfold V0;lia
 refine⟨by simp[Z8],by rw[Z5t];exact hp,fun r hr=>?_,fun r hr x hx=>?_⟩
 ·obtain⟨k,_,rfl⟩:=aq.mp hr;rfl
 ·obtain⟨k,_,rfl⟩:=aq.mp hr;obtain⟨j,_,rfl⟩:=aq.mp hx;rw[Z5t];exact Q4b ns _ hp
theorem Y7p (ns:O Int)(hn:ns.length<=63)(at_:Int)  (h0:0<n){E:F9}:∀(l:?N) (ds:O D) (o6:Am Sl),ds.length+l.length<=1000 ->
  (∀o6,E.nx [some (.dat (scr ns)),some (.dat (.int at_)),o2,some (.dat (iD n)),o4,some (.own (ds++l.map fun(k:Nat)=>rD (B5.map fun(j:Nat)=>T4 ns (at_+7+4*(k:Int)+(j:Int)) n))),o6]) ->
  E4 (B6 6) (M8 5 (B4 (D8 V2 (A1 (Q1 1 [0,3,1,6] (Q6n (A1 (wC (.int 4)) A4)) (B6 0) S0 (B4 (J8 Q7g (A1 (wV 1) (A1 (A3 G2 (A3 G2 (A3 G2 (wV 3) (wC (.int 7))) (A3 W4 (wC (.int 4)) (wV 4))) (wV 0)) (A1 (wV 2) A4)))))) A4))))
   E (l.map iD) [some (.dat (scr ns)),some (.dat (.int at_)),o2,some (.dat (iD n)),o4,some (.own ds),o6]
 |[],ds,o6,_,h=>by simpa [E4]using h o6
 |k::l,ds,o6,hz,h=>by
  rw[aK]at hz;have e4:T7 0 (Int.toNat 4)=B5.map iD:=rfl;rw[av,E4];simp only[O0,Q1s,F4,K9,C7,Y7,Z1m,D5,C6];refine⟨_,rfl,_,rfl,?G,?G,by rw[e4];exact sz ?E,?_⟩;rw[e4];refine Q0f (f:=fun d=>match d with |.int j=>iD (T4 ns (at_+7+4*(k:Int)+j) n) |d=>d) _ _ _ (fun d hd Q' q=>?_) ?_
  ·obtain⟨j,_,rfl⟩:=aq.mp hd;simp only[F4,R9,C7,B0,C8,D5,C6];refine⟨_,rfl,_,rfl,_,rfl,?_⟩;show W4 (R.st (.int 4)) (R.st (.int (k:Int))) _;rw[Y6m];refine⟨.inl ⟨?G,?G⟩,?_⟩;rw[Y6];k_ne;rw[Q6,Y6];refine⟨_,rfl,rfl,_,⟨ns,at_+7+4*(k:Int)+(j:Int),(n:Int),rfl,hn,?H,rfl⟩,?_⟩;rw[Q6h ns _ h0];exact q
  ·rw[Q4p];refine⟨_,rfl,_,rfl,S5 (?H),?_⟩;have e:(B5.map iD).map (fun d=>match d with |.int j=>iD (T4 ns (at_+7+4*(k:Int)+j) n) |d=>d)=(B5.map fun(j:Nat)=>T4 ns (at_+7+4*(k:Int)+(j:Int)) n).map iD:=by rfl
   rw[e];refine Y7p ns hn at_ h0 l (ds++[rD (B5.map fun(j:Nat)=>T4 ns (at_+7+4*(k:Int)+(j:Int)) n)]) _ ?U fun o6=>?_;simpa using h o6
def Y8y:E3:=fun rs r=>∃ns at_ most,rs=[.st (scr ns),.st (.int at_),.st (iD most)]/\ns.length<=63/\0<most/\most<=50/\r=.st (mD (Z8 ns at_ most))
theorem V5g:∀rs r,rs.length=3->Y8y rs r->W0w Q7g (S9 r) (E2 Z3g rs):=by
 rintro rs r _ ⟨ns,at_,most,rfl,hn,h0,h1,rfl⟩;have hN:1+Y3 ns at_ (most:Int)=(V0 ns at_ most:Int):=by rw[Q6h ns at_ h0];unfold V0;lia
 have hp:0<V0 ns at_ most:=by unfold V0;lia
 have ij:V0 ns at_ most<=50:=by unfold V0;have:=Q4b ns at_ h0;lia
 have er:T7 0 (V0 ns at_ most:Int).toNat=(List.range (V0 ns at_ most)).map iD:=by simp[T7]
 unfold W0w;simp only[D6,G1,C8,D5,R9,C7,B0,C6,K9,Y7,Z1m,s_lst,Y8,Z6y,P9,s_tup,F4];refine⟨_,rfl,_,rfl,_,rfl,rfl,_,⟨ns,at_,(most:Int),rfl,hn,?H,rfl⟩,?_⟩;rw[Y6,hN,J5];refine⟨_,rfl,_,rfl,?H,?H,?_⟩;rw[er];refine⟨sz ?U,?_⟩;refine Q0f (f:=fun d=>match d with |.int k=>.bl (decide (Y3 ns (at_+1+k) 2=0)) |d=>d) _ _ _ (fun d hd Q' q=>?_) ?_
 ·obtain⟨k,_,rfl⟩:=aq.mp hd;simp only[F4,s_b,C8,R9,C7,B0,D5,C6];sleep 2;show G2 (R.st _) (R.st _) _;rw[Y6];k_ne;rw[Q6,Y6];refine⟨rfl,_,⟨ns,at_+1+(k:Int),2,rfl,hn,?G,rfl⟩,?_⟩;rw[o_eq];refine⟨_,_,rfl,rfl,by simp[D.depth],?_⟩;simp only[o_e1,cN,ff];have e:(Y3 ns (at_+1+(k:Int)) 2==0)=decide (Y3 ns (at_+1+(k:Int)) 2=0):=by
   by_cases h:Y3 ns (at_+1+(k:Int)) 2=0
   ·rw[bO h,h];rfl
   ·rw[aW h];exact cq.mpr h
  rw[e];exact q
 ·rw[Q4p];k_ne;rw[J5];refine⟨_,rfl,sz ?E,_,rfl,_,rfl,?H,?H,?_⟩;rw[er];refine Y7p ns hn at_ hp (List.range (V0 ns at_ most)) [] _ ?U fun o6=>?_;sleep 2;simp only[C6,X3,Q4p];refine⟨_,rfl,_,rfl,sz ?E,?_⟩;show R.st _=R.st _;have e1:((List.range (V0 ns at_ most)).map iD).map (fun d=>match d with |.int k=>D.bl (decide (Y3 ns (at_+1+k) 2=0)) |d=>d)=(Z8 ns at_ most).1.map .bl:=by
   unfold Z8;rw[aF,aF];rfl
  have e2:(List.range (V0 ns at_ most)).map (fun(k:Nat)=>rD (B5.map fun(j:Nat)=>T4 ns (at_+7+4*(k:Int)+(j:Int)) (V0 ns at_ most)))=(Z8 ns at_ most).2.map rD:=by
   unfold Z8;rw[aF];rfl
  rw[dn,e1,e2]
theorem Z5a [DecidableEq α]{st:Nat->α}{t:Str}:∀(cs:O (Nat×Str)) (T:O (α×Str)),T <+: goT st t cs T
 |[],T=>bA _
 |c::cs,T=>(Z3q _ _ _).trans (Z5a cs _)
def Z1p {P:?N->Prop}(h0:P [])(hs:∀w c,P w->P (w++[c]))(w:?N):P w:=by
 have:∀w:?N,P w.reverse:=by
  intro w
  induction w with
  |nil=>exact h0
  |cons c w ih=>rw[List.reverse_cons];exact hs _ _ ih
 have:=this w.reverse;rwa[List.reverse_reverse]at this
def run (step:α->Nat->α)(k:α)(w:?N):α:=w.foldl step k
theorem Q4s (step:α->Nat->α)(k:α)(u w:?N):run step k (u++w)=run step (run step k u) w:=iE
def B9 (w:?N):Prop:=∀c∈w,c∈B5
def B9.nil:B9 []:=fun c h=>by cases h
def B9.app {u w:?N}(h1:B9 u)(h2:B9 w):B9 (u++w):=fun c h=>(aN.mp h).elim (h1 c) (h2 c)
def B9.snoc {u:?N}  (h1:B9 u)(h2:c∈B5):B9 (u++[c]):=h1.app fun d hd=>by rw[aE.mp hd];exact h2
def L0 (c:Nat):Str:=match c with
 |0=>"0"
 |1=>"1"
 |2=>"a"
 |_=>"b"
def O1 (w:?N):Str:=w.foldl (fun t c=>t++L0 c) ""
def V8y (w:?N)(c:Nat):O1 (w++[c])=O1 w++L0 c:=by unfold O1;rw[iE];rfl
def W5s {c:Nat×Str}(h:c∈W8):c.2=L0 c.1:=by
 simp only[W8,ar,aV,bG]at h;rcases h with rfl |rfl |rfl |rfl<;>rfl
section
variable [DecidableEq α]
structure FtI (step:α->Nat->α)(start:α)(fin:α->Bool)(U:O α)(T:O (α×Str))(p:Nat):Prop where
 ti:Y0 U T
 zero:start∈T.map (·.1)
 word:∀q∈T,∃w,B9 w/\q.1=run step start w/\q.2=O1 w
 past:∀i,i<p->∀q,T[i]?=some q->fin q.1=false/\∀c∈B5,step q.1 c∈T.map (·.1)
theorem Y5p {st:Nat->α}{t:Str}{q:α×Str}:∀(cs:O (Nat×Str)) (T:O (α×Str)),q∈goT st t cs T->q∈T\/∃c∈cs,q=(st c.1,t++c.2)
 |[],T,h=>.inl h
 |c::cs,T,h=>by
  rcases Y5p cs _ h with h |⟨c',h1,h2⟩
  ·unfold Q0u at h;split at h
   ·exact .inl h
   ·rcases aN.mp h with h |h
    ·exact .inl h
    ·exact .inr ⟨c,by simp,aE.mp h⟩
  ·exact .inr ⟨c',by simp[h1],h2⟩
theorem Y3y {st:Nat->α}{t:Str}:∀(cs:O (Nat×Str)) (T:O (α×Str)),∀c∈cs,st c.1∈(goT st t cs T).map (·.1)
 |[],T,c,h=>by cases h
 |d::cs,T,c,h=>by
  rw[goT];rcases ar.mp h with rfl |h
  ·have:st c.1∈(Q0u T (st c.1) (t++c.2)).map (·.1):=by
    unfold Q0u;split
    ·assumption
    ·simp
   obtain⟨q,hq,e⟩:=aq.mp this;exact aq.mpr ⟨q,(Z5a cs _).subset hq,e⟩
  ·exact Y3y cs _ c h
def W5t (h:c∈B5):∃s,(c,s)∈W8:=by
 simp only[B5,ar,aV,bG]at h;rcases h with rfl |rfl |rfl |rfl<;>exact⟨_,by simp[W8];rfl⟩
theorem FtI.next {step:α->Nat->α}{start:α}{fin:α->Bool}{U:O α}{T:O (α×Str)}{p:Nat}{k:α}{t:Str}(hU:∀k∈U,∀c∈B5,?A2∈U)(F:FtI step start fin U T p)(hp:T[p]?=some (k,t))(hf:fin k=false):
  FtI step start fin U (goT (step k) t W8 T) (p+1):=by
 have kin:=au hp;have pre:=Z5a (st:=step k) (t:=t) W8 T;have mono:∀x,x∈T.map (·.1)->x∈(goT (step k) t W8 T).map (·.1):=fun x hx=>by
  obtain⟨q,hq,e⟩:=aq.mp hx;exact aq.mpr ⟨q,pre.subset hq,e⟩
 refine⟨Y0.go W8 T F.ti kin fun c hc=>⟨hU k (F.ti.sub _ kin) _ (Q4a hc).1,(Q4a hc).2⟩,mono _ F.zero,fun q hq=>?_,fun i hi q hq=>?_⟩
 ·rcases Y5p W8 T hq with h |⟨c,hc,rfl⟩
  ·exact F.word q h
  ·obtain⟨w,h1,h2,h3⟩:=F.word _ kin;refine⟨w++[c.1],h1.snoc (Q4a hc).1,?_,?_⟩
   ·rw[Q4s,<-h2];rfl
   ·rw[V8y,<-W5s hc];have h3:t=O1 w:=h3;rw[<-h3]
 ·obtain⟨add,t7⟩:=pre;have hpl:p<T.length:=by obtain⟨h,_⟩:=aD.mp hp;exact h
  rw[<-t7,aJ (?H)]at hq;rcases b7 i p with h |h
  ·obtain⟨h1,h2⟩:=F.past i h q hq;exact⟨h1,fun c hc=>mono _ (h2 c hc)⟩
  ·have:i=p:=?H
   subst this;rw[hp]at hq;cases hq;refine⟨hf,fun c hc=>?_⟩;obtain⟨s,hs⟩:=W5t hc;exact Y3y W8 T _ hs
theorem W6x {step:α->Nat->α}{start:α}{fin:α->Bool}{U:O α}(hU:∀k∈U,∀c∈B5,?A2∈U):∀(n:Nat) (T:O (α×Str)) (p:Nat),FtI step start fin U T p->U.length<=n+p ->
  (ftN step fin n T p=none->∀w,B9 w->fin (run step start w)=false)/\(∀t,ftN step fin n T p=some t->∃w,B9 w/\t=O1 w/\fin (run step start w)=true):=by
 have done:∀(T:O (α×Str)) (p:Nat),FtI step start fin U T p->T.length<=p->∀w,B9 w->fin (run step start w)=false:=by
  intro T p F hl w hw;have all:∀w,B9 w->run step start w∈T.map (·.1):=by
   refine Z1p ?_ ?_
   ·exact fun _=>F.zero
   ·intro w c ih hw;obtain⟨q,hq,e⟩:=aq.mp (ih fun d hd=>hw d (by simp[hd]));obtain⟨i,hi,e2⟩:=bv.mp hq;have:=(F.past i (?H) q (by rw[ac hi,e2])).2 c (hw c ?E);rw[Q4s,<-e];exact this
  obtain⟨q,hq,e⟩:=aq.mp (all w hw);obtain⟨i,hi,e2⟩:=bv.mp hq;have:=(F.past i (?H) q (by rw[ac hi,e2])).1;rw[<-e];exact this
 intro n
 induction n with
 |zero=>
  intro T p F h;have b:=F.ti.bound;exact⟨fun _=>done T p F (?H),fun t e=>by cases e⟩
 |succ n ih=>
  intro T p F h;rw[ftN];split
  ·rename_i e;have:=az.mp e;exact⟨fun _=>done T p F this,fun t e=>by cases e⟩
  ·rename_i q e;obtain⟨k,t⟩:=q
   by_cases hf:fin k=true
   ·simp only[hf,fD];refine⟨fun z=>by(cases z),fun t' e'=>?_⟩;cases e';obtain⟨w,h1,h2,h3⟩:=F.word _ (au e);exact⟨w,h1,h3,by rw[<-h2];exact hf⟩
   ·have uQ:fin k=false:=by simpa using hf
    simp only[uQ,ff,cN];exact ih _ _ (F.next hU e uQ) (?H)
theorem W6r {step:α->Nat->α}{start:α}{fin:α->Bool}{U:O α}(hU:∀k∈U,∀c∈B5,?A2∈U)(hs:start∈U):
  (Q4e U.length step start fin=none->∀w,B9 w->fin (run step start w)=false)/\(∀t,Q4e U.length step start fin=some t->∃w,B9 w/\t=O1 w/\fin (run step start w)=true):=
 W6x hU U.length _ 0 ⟨W0c hs,by simp,fun q hq=>⟨[],B9.nil,by rw[aE.mp hq];rfl,by rw[aE.mp hq];rfl⟩,fun i hi=>?H⟩ (?H)
end
def E6 (m:C9)(w:?N):Nat:=run (B1 m.2) 0 w
def G0 (m:C9)(w:?N):Bool:=m.1.getD (E6 m w) false
def Q3j (wf:C5 m):∀w,B9 w->E6 m w<?L:=by
 refine Z1p ?_ ?_
 ·exact fun _=>wf.pos
 ·intro w c ih hw;have h:=ih fun d hd=>hw d (by simp[hd]);obtain⟨_,_,_,g⟩:=wf.row h;unfold E6 at h ⊢;rw[Q4s];exact(g c (Q0e (hw c ?E))).2
theorem prun (m1 m2:C9):∀(w:?N) (p:Nat×Nat),run (Q1q m1 m2) p w=(run (B1 m1.2) p.1 w,run (B1 m2.2) p.2 w)
 |[],p=>rfl
 |c::w,p=>prun m1 m2 w (Q1q m1 m2 p c)
def V3j (g:Bool->Bool->Bool)(m1 m2:C9)(w:?N):Q5n g m1 m2 (run (Q1q m1 m2) (0,0) w)=g (G0 m1 w) (G0 m2 w):=by rw[prun];rfl
theorem V0x {ks:O D}{d:D}(h:ks.Nodup):(W5 ks d).Nodup:=by grind [W5,aE]
theorem Y5y:∀(ds ks:O D),ks.Nodup->(Z1 ks ds).Nodup
 |[],ks,h=>h
 |d::r,ks,h=>Y5y r _ (V0x h)
theorem Y8p:∀(ds ks:O D) (x:D),x∈Z1 ks ds->x∈ks\/x∈ds
 |[],ks,x,h=>.inl h
 |d::r,ks,x,h=>by
  rcases Y8p r _ x h with h |h
  ·unfold W5 at h;split at h
   ·exact .inl h
   ·rcases aN.mp h with h |h
    ·exact .inl h
    ·exact .inr (by rw[aE.mp h];simp)
  ·exact .inr (by simp[h])
def V1b {ds:O D}{j:Nat}(h:j<(Z1 [] ds).length):j∈Q5 [] ds:=by
 rw[Q8v,aq];have hm:=bo h;refine⟨(Z1 [] ds)[j],?_,(Y5y ds [] ?E).idxOf_getElem j h⟩;rcases Y8p ds [] _ hm with z |z
 ·cases z
 ·exact z
theorem V1c {ds:O D}{x:Nat}(h:x∈Q5 [] ds):x<(Z1 [] ds).length:=by grind [Q8v,aq,Z0y]
def Y6c {ds:O D}{x:Nat}(dM:Q5 [] ds≠[])(h:x<=U1 (Q5 [] ds)):x∈Q5 [] ds:=
 V1b (eV h (V1c (Q8t dM)))
theorem W7s {φ:Nat->Nat}{k k':Nat}(hk:k'<=k)(on:∀y,y<k->∃x,x<k'/\φ x=y){a b:Nat}(ha:a<k')(hb:b<k')(e:φ a=φ b):a=b:=by
 rcases Nat.decEq a b with ne |eq
 ·exfalso;have sub:List.range k ⊆ ((List.range k').erase b).map φ:=fun y hy=>by
   obtain⟨x,hx,rfl⟩:=on y (aL.mp hy)
   by_cases z:x=b
   ·subst z;exact aq.mpr ⟨a,(qK ne).mpr (aL.mpr ha),e⟩
   ·exact aq.mpr ⟨x,(qK z).mpr (aL.mpr hx),rfl⟩
  have:=ja.length_le_of_subset sub;rw[ai,List.length_erase_of_mem (aL.mpr hb),b9,b9]at this;lia
 ·exact eq
abbrev E5 (b:?N)(i:Nat):Nat:=b.getD i 0
theorem Q5f {b:?N}{i:Nat}(h:i<b.length):b[i]?=some (E5 b i):=by grind [ac,ax]
theorem V6c (w:Wf es rows){f:Nat->Nat}{i j:Nat}{ri rj:?N}(hi:rows[i]?=some ri)(hj:rows[j]?=some rj)(li:i<es.length)(lj:j<es.length):
  ri.map f=rj.map f ↔ ∀c,c<4->f (B1 rows i c)=f (B1 rows j c):=by
 obtain⟨r,e1,l1,g1⟩:=w.row li;obtain⟨r',e2,l2,g2⟩:=w.row lj;rw[hi]at e1;cases e1;rw[hj]at e2;cases e2;constructor
 ·intro h c hc;have:=congrArg (fun l=>l[c]?) h;simp only[ah,(g1 c hc).1,(g2 c hc).1]at this;exact aC this
 ·intro h;refine dJ fun c=>?_;rw[ah,ah];rcases b7 c 4 with hc |hc
  ·rw[(g1 c hc).1,(g2 c hc).1];exact congrArg some (h c hc)
  ·rw[az.mpr (?H),az.mpr (?H)]
theorem Y5l {b:?N}{i:Nat}{r:?N}(hb:i<b.length)(hr:rows[i]?=some r):(Q1l rows b)[i]?=some (Q2l b (E5 b i,r)):=by grind [Q1l,Q5f,ah]
theorem Z5b {a b:Nat}(h:iD a=iD b):a=b:=by
 have:(a:Int)=(b:Int):=D.int.inj h;lia
theorem Y5j:∀{l m:?N},l.map iD=m.map iD->l=m
 |[],[],_=>rfl
 |[],_::_,h=>by cases h
 |_::_,[],h=>by cases h
 |a::l,b::m,h=>by
  rw[av,av,dq]at h;rw[Z5b h.1,Y5j h.2]
def W9u {b:?N}{p q:Nat×?N}:Q2l b p=Q2l b q ↔ p.1=q.1/\p.2.map (E5 b)=q.2.map (E5 b):=by
 constructor
 ·intro h;have h:=D.tup.inj h;rw[dq,dq]at h;exact⟨Z5b h.1,Y5j (D.tup.inj h.2.1)⟩
 ·rintro ⟨h1,h2⟩;unfold Q2l;rw[h1];show D.tup [_,rD (p.2.map (E5 b))]=D.tup [_,rD (q.2.map (E5 b))];rw[h2]
def Q9g (w:Wf es rows){b:?N}(hb:V8 es.length b){i j:Nat}(hi:i<es.length)(hj:j<es.length):
  E5 (L5 rows b) i=E5 (L5 rows b) j ↔ E5 b i=E5 b j/\∀c,c<4->E5 b (B1 rows i c)=E5 b (B1 rows j c):=by
 obtain⟨r,e1,_,_⟩:=w.row hi;obtain⟨r',e2,_,_⟩:=w.row hj;have m1:=Y5l (b:=b) (by rw[hb.len];exact hi) e1;have m2:=Y5l (b:=b) (by rw[hb.len];exact hj) e2;have hB:=hb.step w.len;have q:=Y6d m1 m2;have g1:(Q5 [] (Q1l rows b))[i]?=some (E5 (L5 rows b) i):=Q5f (by show i<(L5 rows b).length;rw[hB.len];exact hi);have g2:(Q5 [] (Q1l rows b))[j]?=some (E5 (L5 rows b) j):=Q5f (by show j<(L5 rows b).length;rw[hB.len];exact hj);rw[g1,g2,Option.some_inj,W9u,V6c w e1 e2 hi hj]at q;exact q
theorem Y9j (w:Wf es rows){b:?N}(hb:V8 es.length b)(full:∀x,x<=U1 b->x∈b)(hm:¬ U1 b+1<=U1 (L5 rows b)){i j:Nat}(hi:i<es.length)(hj:j<es.length)(e:E5 b i=E5 b j):
  E5 (L5 rows b) i=E5 (L5 rows b) j:=by
 have hB:=hb.step w.len;have lb:∀{i:Nat},i<es.length->i<b.length:=fun h=>by rw[hb.len];exact h
 have lB:∀{i:Nat},i<es.length->i<(L5 rows b).length:=fun h=>by rw[hB.len];exact h
 have fφ:∀{i:Nat},i<es.length->E5 b ((L5 rows b).idxOf (E5 (L5 rows b) i))=E5 b i:=fun {i} h=>by
  have jm:E5 (L5 rows b) i∈L5 rows b:=Q3a (lB h);have cm:=be.mpr jm;have xX:(L5 rows b).idxOf (E5 (L5 rows b) i)<es.length:=by rw[<-hB.len];exact cm
  have e0:E5 (L5 rows b) ((L5 rows b).idxOf (E5 (L5 rows b) i))=E5 (L5 rows b) i:=by
   have:=Q5f cm;rw[ac cm,eX cm]at this;exact(aC this).symm
  exact((Q9g w hb xX h).mp e0).1
 refine W7s (φ:=fun x=>E5 b ((L5 rows b).idxOf x)) (k:=U1 b+1) (k':=U1 (L5 rows b)+1) (?H) (fun y hy=>?_) (iC (Z0w (Q3a (lB hi)))) (iC (Z0w (Q3a (lB hj)))) ?_
 ·obtain⟨i,hi,rfl⟩:=bv.mp (full y (?H));have jn:i<es.length:=by rw[<-hb.len];exact hi
  refine⟨E5 (L5 rows b) i,iC (Z0w (Q3a (lB jn))),?_⟩;show E5 b _=_;rw[fφ jn];have:=Q5f hi;rw[ac hi]at this;exact(aC this).symm
 ·show E5 b _=E5 b _;rw[fφ hi,fφ hj,e]
def W7 (es:O Bool)(rows:O (?N))(i:Nat)(w:?N):Bool:=es.getD (run (B1 rows) i w) false
theorem Z1l (wf:Wf es rows):∀(w:?N) (i:Nat),B9 w->i<es.length->run (B1 rows) i w<es.length
 |[],i,_,h=>h
 |c::w,i,hw,h=>by
  obtain⟨_,_,_,g⟩:=wf.row h;exact Z1l wf w _ (fun d hd=>hw d (by simp[hd])) (g c (Q0e (hw c ?E))).2
structure Q6c (es:O Bool)(rows:O (?N))(b:?N):Prop where
 blk:V8 es.length b
 full:∀x,x<=U1 b->x∈b
 fin:∀i j,i<es.length->j<es.length->E5 b i=E5 b j->es.getD i false=es.getD j false
 apart:∀i j,i<es.length->j<es.length->E5 b i≠E5 b j->∃w,B9 w/\W7 es rows i w≠W7 es rows j w
theorem Q6c.step {b:?N}(w:Wf es rows)(P:Q6c es rows b):Q6c es rows (L5 rows b) where
 blk:=P.blk.step w.len
 full:=fun x hx=>Y6c (fun z=>by have h:=(P.blk.step w.len).len;unfold L5 at h;rw[z]at h;have:=w.pos;simp at h;lia) hx
 fin:=fun i j hi hj e=>P.fin i j hi hj ((Q9g w P.blk hi hj).mp e).1
 apart:=fun i j hi hj ne=>by
  by_cases h:E5 b i=E5 b j
  ·have:¬ ∀c,c<4->E5 b (B1 rows i c)=E5 b (B1 rows j c):=fun z=>ne ((Q9g w P.blk hi hj).mpr ⟨h,z⟩);obtain⟨c,hc⟩:=qQ.mp this;obtain⟨jE,dM⟩:=zu.mp hc;obtain⟨_,_,_,g1⟩:=w.row hi;obtain⟨_,_,_,g2⟩:=w.row hj;obtain⟨u,hu,q⟩:=P.apart _ _ (g1 c jE).2 (g2 c jE).2 dM;exact⟨c::u,fun d hd=>by rcases ar.mp hd with rfl |hd;exact Q3f jE;exact hu d hd,q⟩
  ·exact P.apart i j hi hj h
structure Told (es:O Bool)(rows:O (?N))(b:?N):Prop extends Q6c es rows b where
 cong:∀i j,i<es.length->j<es.length->E5 b i=E5 b j->∀c,c<4->E5 b (B1 rows i c)=E5 b (B1 rows j c)
theorem Y9x (w:Wf es rows):∀(n:Nat) (b:?N),Q6c es rows b->es.length<=n+U1 b+1->Told es rows (Q3l rows n (U1 b+1) (L5 rows b))
 |0,b,P,h=>by
  have hB:=P.step w;have ne:L5 rows b≠[]:=fun z=>by have h:=hB.blk.len;rw[z]at h;have:=w.pos;simp at h;lia
  have:=hB.blk.lt _ (Q8t ne);refine⟨hB,fun i j hi hj e c hc=>?_⟩;obtain⟨_,_,_,g1⟩:=w.row hi;obtain⟨_,_,_,g2⟩:=w.row hj;exact Y9j w P.blk P.full (?H) (g1 c hc).2 (g2 c hc).2 (((Q9g w P.blk hi hj).mp e).2 c hc)
 |n+1,b,P,h=>by
  have hB:=P.step w;unfold Q3l;split
  ·rename_i hm;exact Y9x w n _ hB (?H)
  ·rename_i hm;refine⟨hB,fun i j hi hj e c hc=>?_⟩;obtain⟨_,_,_,g1⟩:=w.row hi;obtain⟨_,_,_,g2⟩:=w.row hj;exact Y9j w P.blk P.full hm (g1 c hc).2 (g2 c hc).2 (((Q9g w P.blk hi hj).mp e).2 c hc)
theorem W4n {R:O (Nat×Nat)}{g d:Nat}:∃d',(g,d')∈P0 R g d:=by grind [P0]
structure Q9w (on:O (?N))(good:Nat->Nat->Prop)(R:O (Nat×Nat))(p:Nat):Prop where
 ri:Q2f on.length R
 good:∀q∈R,good q.1 q.2
 sorted:∀(i j:Nat) (q q':Nat×Nat),i<=j->R[i]?=some q->R[j]?=some q'->q.2<=q'.2
 near:∀q∈R,∀q',R[p]?=some q'->q.2<=q'.2+1
 past:∀(i:Nat) (q:Nat×Nat),i<p->R[i]?=some q->∀g∈on.getD q.1 [],∃d,(g,d)∈R/\d<=q.2+1
theorem Y5o {d:Nat}:∀(gs:?N) (R:O (Nat×Nat)) (B:Nat),(∀q∈R,q.2<=B)->d<=B->∀g∈gs,∃d',(g,d')∈goR d gs R/\d'<=B
 |[],R,B,_,_,g,h=>by cases h
 |x::gs,R,B,hR,hd,g,h=>by
  have fk:∀q∈P0 R x d,q.2<=B:=fun q hq=>by
   rcases Z5w hq with z |z
   ·exact hR q z
   ·rw[z];exact hd
  rw[goR];rcases ar.mp h with rfl |h
  ·obtain⟨d',h'⟩:=W4n (R:=R) (g:=g) (d:=d);exact⟨d',(Z4z d gs _).subset h',fk _ h'⟩
  ·exact Y5o gs _ B fk hd g h
theorem Y3x {d:Nat}:∀(gs:?N) (R:O (Nat×Nat)),(∀(i j:Nat) (q q':Nat×Nat),i<=j->R[i]?=some q->R[j]?=some q'->q.2<=q'.2)->(∀q∈R,q.2<=d) ->
  (∀(i j:Nat) (q q':Nat×Nat),i<=j->(goR d gs R)[i]?=some q->(goR d gs R)[j]?=some q'->q.2<=q'.2)
 |[],R,h,_=>h
 |x::gs,R,h,hd=>by
  refine Y3x gs _ ?_ ?_
  ·unfold P0;split
   ·exact h
   ·intro i j q q' sM hi hj;rcases b7 j R.length with hjl |hjl
    ·rw[aJ hjl]at hj;rw[aJ (?H)]at hi;exact h i j q q' sM hi hj
    ·have qj:q'=(x,d):=by
      rw[aR hjl]at hj;exact(aE.mp (au hj))
     rcases aN.mp (au hi)with z |z
     ·rw[qj];exact hd q z
     ·rw[aE.mp z,qj];exact ak _
  ·intro q hq;rcases Z5w hq with z |z
   ·exact hd q z
   ·rw[z];exact ak _
theorem Y7i (lT:∀l∈on,∀g∈l,g<on.length)(hg:∀s d,s<on.length->good s d->∀g∈on.getD s [],good g (d+1)):
  ∀(n:Nat) (R:O (Nat×Nat)) (p:Nat),Q9w on good R p->on.length<=n+p->p<=R.length->R <+: Q2p on n R p/\Q9w on good (Q2p on n R p) (Q2p on n R p).length
 |0,R,p,J,h,hp=>by
  have b:=J.ri.bound;have:p=R.length:=?H
  subst this;exact⟨bA _,J⟩
 |n+1,R,p,J,h,hp=>by
  unfold Q2p;split
  ·rename_i e;have:=az.mp e;have:p=R.length:=?H
   subst this;exact⟨bA _,J⟩
  ·rename_i q e;obtain⟨s,d⟩:=q;have kin:=au e;have hs:s<on.length:=J.ri.lt _ kin;have hpl:p<R.length:=by obtain⟨z,_⟩:=aD.mp e;exact z
   have eo:on[s]?.getD []=on.getD s []:=(ax ..).symm;have jo:∀g∈on.getD s [],g<on.length:=fun g kc=>by
    rw[ax,ac hs]at kc;exact lT _ (bo hs) g kc
   have pre:=Z4z (d+1) (on.getD s []) R;have near:∀q∈R,q.2<=d+1:=fun q hq=>J.near q hq _ e;have all:∀q∈goR (d+1) (on.getD s []) R,q.2<=d+1:=fun q hq=>by
    rcases Z0x _ _ hq with z |⟨g,_,rfl⟩
    ·exact near q z
    ·exact ak _
   have at_:∀{i:Nat}{q:Nat×Nat},i<R.length->(goR (d+1) (on.getD s []) R)[i]?=some q->R[i]?=some q:=fun {i q} hi hq=>by
    obtain⟨t,ht⟩:=pre;rw[<-ht,aJ hi]at hq;exact hq
   have J2:Q9w on good (goR (d+1) (on.getD s []) R) (p+1):=by
    have so:=Y3x (d:=d+1) (on.getD s []) R J.sorted near;refine⟨J.ri.go jo,fun q hq=>?_,so,fun q hq q' qj=>?_,fun i q hi hq g kc=>?_⟩
    ·rcases Z0x _ _ hq with z |⟨g,kc,rfl⟩
     ·exact J.good q z
     ·exact hg s d hs (J.good _ kin) g kc
    ·have h1:=all q hq;have h2:(goR (d+1) (on.getD s []) R)[p]?=some (s,d):=by
      obtain⟨t,ht⟩:=pre;rw[<-ht,aJ hpl];exact e
     have h3:d<=q'.2:=so p (p+1) _ _ (?H) h2 qj;lia
    ·have hq:=at_ (?H) hq;rcases b7 i p with z |z
     ·obtain⟨d',h1,h2⟩:=J.past i q z hq g kc;exact⟨d',pre.subset h1,h2⟩
     ·have:i=p:=?H
      subst this;rw[e]at hq;cases hq;exact Y5o _ R (d+1) near (ak _) g kc
   have cp:=pre.length_le;obtain⟨a1,a2⟩:=Y7i lT hg n _ (p+1) J2 (?H) (?H);rw[eo];exact⟨pre.trans a1,a2⟩
theorem Z0t {R:O (Nat×Nat)}(nd:(R.map (·.1)).Nodup){s d:Nat}:K1 R s=some d ↔ (s,d)∈R:=by induction R<;>grind [K1,aC,fg,jP,av,bg,bp]
theorem W6i (wf:Wf es rows)(b:Bool)  (g0:∀i,es[i]?=some b->good i 0)(gs:∀s d g c,g<es.length->c<4->B1 rows g c=s->good s d->good g (d+1)):
  (∀q∈K3 (F6 rows) (G5 es b),good q.1 q.2)/\((K3 (F6 rows) (G5 es b)).map (·.1)).Nodup/\(∀i,es[i]?=some b->(i,0)∈K3 (F6 rows) (G5 es b)) /\
  ∀s d,(s,d)∈K3 (F6 rows) (G5 es b)->∀g c,g<es.length->c<4->B1 rows g c=s->∃d',(g,d')∈K3 (F6 rows) (G5 es b)/\d'<=d+1:=by
 have cm:∀r∈rows,∀g∈r,g<rows.length:=fun r hr g hg=>by rw[wf.len];exact wf.lt r hr g hg
 have yb:(F6 rows).length=es.length:=by rw[Z0c,wf.len]
 have J0:Q9w (F6 rows) good ((G5 es b).map fun x=>(x,0)) 0:=by
  refine⟨⟨by simpa [fy]using Y3j,fun q hq=>?_⟩,fun q hq=>?_,fun i j q q' _ hi hj=>?_,fun q hq q' _=>?_,fun i q hi=>absurd hi (jM _)⟩
  ·obtain⟨x,hx,rfl⟩:=aq.mp hq;rw[yb];exact Y3i x hx
  ·obtain⟨x,hx,rfl⟩:=aq.mp hq;exact g0 x (Z5y.mp hx)
  ·obtain⟨x,_,rfl⟩:=aq.mp (au hi);exact bj _
  ·obtain⟨x,_,rfl⟩:=aq.mp hq;exact bj _
 obtain⟨pre,J⟩:=Y7i (Y1s cm) (fun s d hs y0 g kc=>by
  obtain⟨r,e,hm⟩:=(Z5x cm).mp kc;obtain⟨c,hc,e2⟩:=bv.mp hm;have mY:g<es.length:=by rw[<-wf.len];obtain⟨z,_⟩:=aD.mp e;exact z
  obtain⟨r',e',l4,g4⟩:=wf.row mY;rw[e]at e';cases e';have jE:c<4:=by rw[<-l4];exact hc
  have:=(g4 c jE).1;rw[ac hc,e2]at this;exact gs s d g c mY jE (aC this).symm y0) (F6 rows).length _ 0 J0 (?H) (bj _)
 refine⟨J.good,J.ri.nd,fun i hi=>pre.subset (aq.mpr ⟨i,Z5y.mpr hi,rfl⟩),fun s d hm g c mY hc e=>?_⟩;obtain⟨i,hi,e2⟩:=bv.mp hm;obtain⟨r,e3,l4,g4⟩:=wf.row mY;refine J.past i (s,d) hi (by show(K3 (F6 rows) (G5 es b))[i]?=_;rw[ac hi,e2]) g ((Z5x cm).mpr ⟨r,e3,?_⟩);rw[<-e];exact au (g4 c hc).1
theorem Z4l (wf:Wf es rows)(b:Bool):(∀i d,i<es.length->K1 (K3 (F6 rows) (G5 es b)) i=some d->∃w,B9 w/\w.length=d/\W7 es rows i w=b) /\
  ∀(w:?N) (i:Nat),B9 w->i<es.length->W7 es rows i w=b->∃d,K1 (K3 (F6 rows) (G5 es b)) i=some d/\d<=w.length:=by
 obtain⟨h1,nd,h2,h3⟩:=W6i wf b (good:=fun i d=>∃w,B9 w/\w.length=d/\W7 es rows i w=b)
  (fun i hi=>⟨[],B9.nil,rfl,by unfold W7 run;rw[List.foldl_nil,ax,hi];rfl⟩)
  (fun s d g c hg hc e cy=>(by obtain⟨w,q1,q2,q3⟩:=cy;exact⟨c::w,fun x hx=>by rcases ar.mp hx with rfl |hx;exact Q3f hc;exact q1 x hx,by rw[aK,q2],by unfold W7 run at q3 ⊢;rw[cn,e];exact q3⟩))
 refine⟨fun i d _ h=>h1 (i,d) ((Z0t nd).mp h),fun w=>?_⟩
 induction w with
 |nil=>
  intro i _ hi h;refine⟨0,(Z0t nd).mpr (h2 i ?_),ak _⟩;unfold W7 run at h;rw[List.foldl_nil,ax,ac hi]at h;rw[ac hi];exact congrArg some h
 |cons c w ih=>
  intro i hw hi h;have jE:=Q0e (hw c ?E);obtain⟨_,_,_,g4⟩:=wf.row hi;obtain⟨d,q1,q2⟩:=ih (B1 rows i c) (fun x hx=>hw x (by simp[hx])) (g4 c jE).2 h;obtain⟨d',q3,q4⟩:=h3 _ _ ((Z0t nd).mp q1) i c hi jE rfl;exact⟨d',(Z0t nd).mpr q3,by rw[aK];lia⟩
theorem Y3f (wf:Wf es rows)(b:Bool){i j:Nat}(hi:i<es.length)(hj:j<es.length)(h:K1 (K3 (F6 rows) (G5 es b)) i≠K1 (K3 (F6 rows) (G5 es b)) j):∃w,B9 w/\W7 es rows i w≠W7 es rows j w:=by
 obtain⟨s1,s2⟩:=Z4l wf b;have key:∀{i j d:Nat},i<es.length->j<es.length->K1 (K3 (F6 rows) (G5 es b)) i=some d->(∀d',K1 (K3 (F6 rows) (G5 es b)) j=some d'->d<d')->∃w,B9 w/\W7 es rows i w≠W7 es rows j w:=fun {i j d} hi hj e cm=>by
  obtain⟨w,q1,q2,q3⟩:=s1 i d hi e;refine⟨w,q1,fun z=>?_⟩;rw[q3]at z;obtain⟨d',q4,q5⟩:=s2 w j q1 hj z.symm;have:=cm d' q4;lia
 cases e1:K1 (K3 (F6 rows) (G5 es b)) i with
 |none=>
  cases e2:K1 (K3 (F6 rows) (G5 es b)) j with
  |none=>rw[e1,e2]at h;exact absurd rfl h
  |some d=>
   obtain⟨w,q1,q2⟩:=key hj hi e2 (fun d' z=>by rw[e1]at z;cases z);exact⟨w,q1,fun z=>q2 z.symm⟩
 |some d=>
  cases e2:K1 (K3 (F6 rows) (G5 es b)) j with
  |none=>exact key hi hj e1 (fun d' z=>by rw[e2]at z;cases z)
  |some d'=>
   rcases b7 d d' with z |z
   ·exact key hi hj e1 (fun x q=>by rw[e2]at q;cases q;exact z)
   ·have:d'<d:=by
     rcases b7 d' d with y |y
     ·exact y
     ·rw[e1,e2,show d=d' by lia]at h;exact absurd rfl h
    obtain⟨w,q1,q2⟩:=key hj hi e2 (fun x q=>by rw[e1]at q;cases q;exact this);exact⟨w,q1,fun z=>q2 z.symm⟩
theorem Y6j {a b:Am Nat}(h:oD a=oD b):a=b:=by grind [Z5b]
theorem Y5k {i:Nat}(hi:i<es.length):(Z9 es rows)[i]?=some (.tup [oD (K1 (K3 (F6 rows) (G5 es true)) i),oD (K1 (K3 (F6 rows) (G5 es false)) i)]):=by grind [Z9,ah,Q0y,K1,K3,F6,G5,ac]
theorem V2g (wf:Wf es rows):Q6c es rows (Q5 [] (Z9 es rows)):=by
 have hB:V8 es.length (Q5 [] (Z9 es rows)):=V8.zero;have vy:∀{i j:Nat},i<es.length->j<es.length->(E5 (Q5 [] (Z9 es rows)) i=E5 (Q5 [] (Z9 es rows)) j ↔ K1 (K3 (F6 rows) (G5 es true)) i=K1 (K3 (F6 rows) (G5 es true)) j/\K1 (K3 (F6 rows) (G5 es false)) i=K1 (K3 (F6 rows) (G5 es false)) j):=fun {i j} hi hj=>by
  have q:=Y6d (Y5k (rows:=rows) hi) (Y5k (rows:=rows) hj);rw[Q5f (by rw[hB.len];exact hi),Q5f (by rw[hB.len];exact hj),Option.some_inj]at q;rw[q];constructor
  ·intro h;have h:=D.tup.inj h;rw[dq,dq]at h;exact⟨Y6j h.1,Y6j h.2.1⟩
  ·rintro ⟨h1,h2⟩;rw[h1,h2]
 refine⟨hB,fun x hx=>Y6c (fun z=>by have h:=hB.len;rw[z]at h;have:=wf.pos;simp at h;lia) hx,fun i j hi hj e=>?_,fun i j hi hj ne=>?_⟩
 ·obtain⟨e1,_⟩:=(vy hi hj).mp e;obtain⟨s1,s2⟩:=Z4l wf true;have key:∀{i j:Nat},i<es.length->j<es.length->K1 (K3 (F6 rows) (G5 es true)) i=K1 (K3 (F6 rows) (G5 es true)) j->es.getD i false=true->es.getD j false=true:=fun {i j} hi hj e h=>by
   obtain⟨d,q1,q2⟩:=s2 [] i B9.nil hi h;have:d=0:=by simpa using q2
   subst this;rw[e]at q1;obtain⟨w,_,q4,q5⟩:=s1 j 0 hj q1;rw[cj.mp q4]at q5;exact q5
  cases h1:es.getD i false<;>cases h2:es.getD j false
  ·rfl
  ·have:=key hj hi e1.symm h2;rw[h1]at this;cases this
  ·have:=key hi hj e1 h1;rw[h2]at this;cases this
  ·rfl
 ·by_cases h:K1 (K3 (F6 rows) (G5 es true)) i=K1 (K3 (F6 rows) (G5 es true)) j
  ·exact Y3f wf false hi hj fun z=>ne ((vy hi hj).mpr ⟨h,z⟩)
  ·exact Y3f wf true hi hj h
theorem Y9v (wf:Wf es rows):Told es rows (J6 es rows):=by grind [J6,Q3l,Y9x,V2g]
section
variable [DecidableEq α]
def Y7n {i:Nat}{f:Nat->Nat}(h:rs[i]?=some (B5.map f))(hc:c∈B5):B1 rs i c=f c:=by
 unfold B1;rw[ax,ax,h,Ac,ah];have:B5[c]?=some c:=by
  simp only[B5,ar,aV,bG]at hc;rcases hc with rfl |rfl |rfl |rfl<;>rfl
 rw[this];rfl
theorem Z4y {ks:O α}{x:α}(h:x∈ks):ks[ks.idxOf x]?=some x:=by grind [ac,eX]
theorem Q2h.run {step:α->Nat->α}{start:α}{U ks:O α}  (W:Q2h step start U ks rs):∀(w:?N) (i:Nat) (k:α),B9 w->ks[i]?=some k->ks[run (B1 rs) i w]?=some (run step k w)
 |[],i,k,_,h=>h
 |c::w,i,k,hw,h=>by
  have hc:=hw c ?E;have e:=Y7n (W.row i k h) hc;refine Q2h.run W w _ _ (fun d hd=>hw d (by simp[hd])) ?_;rw[e];exact Z4y (W.mem k (au h) c hc)
def Y2f {step:α->Nat->α}{start:α}{U:O α}{fin:α->Bool}(hU:∀k∈U,∀c∈B5,?A2∈U)(hs:start∈U){w:?N}(hw:B9 w):G0 (Q2x U step start fin) w=fin (run step start w):=by
 have W:=Q5t (step:=step) (N:=U.length) hU hs (ak _);have h:=W.run w 0 start hw W.zero;unfold G0 E6 Q2x;show(List.map fin _).getD (run (B1 _) 0 w) false=_;rw[ax,ah,h]
 rfl
end
theorem Y2a {b:?N}{x:Nat}(h:x∈b):E5 b (b.idxOf x)=x:=by grind [ax,Z4y]
theorem Y4y (wf:Wf es rows):∀(w:?N) (t s:Nat),B9 w->s<es.length->(R5 es rows).1[t]?=some (E5 (J6 es rows) s)->(R5 es rows).1[run (B1 (R5 es rows).2) t w]?=some (E5 (J6 es rows) (run (B1 rows) s w))
 |[],t,s,_,_,h=>h
 |c::w,t,s,hw,hs,h=>by
  have W:=Q8o wf;have T:=Y9v wf;have hc:=hw c ?E;obtain⟨_,_,_,g⟩:=wf.row hs;have hm:E5 (J6 es rows) s∈J6 es rows:=Q3a (by rw[T.blk.len];exact hs);have h0:(J6 es rows).idxOf (E5 (J6 es rows) s)<es.length:=by rw[<-T.blk.len];exact be.mpr hm
  have e1:=Y7n (W.row t _ h) hc;have e2:Q3e rows (J6 es rows) (E5 (J6 es rows) s) c=E5 (J6 es rows) (B1 rows s c):=T.cong _ _ h0 hs (Y2a hm) c (Q0e hc);refine Y4y wf w _ (B1 rows s c) (fun d hd=>hw d (by simp[hd])) (g c (Q0e hc)).2 ?_;rw[e1,<-e2];exact Z4y (W.mem _ (au h) c hc)
def W9c (wf:Wf es rows){w:?N}(hw:B9 w){t s:Nat}(hs:s<es.length)(h:(R5 es rows).1[t]?=some (E5 (J6 es rows) s)):W7 (Q1a es rows).1 (Q1a es rows).2 t w=W7 es rows s w:=by
 have T:=Y9v wf;have r:=Y4y wf w t s hw hs h;have hl:=Z1l wf w s hw hs;have hm:E5 (J6 es rows) (run (B1 rows) s w)∈J6 es rows:=Q3a (by rw[T.blk.len];exact hl);have h0:(J6 es rows).idxOf (E5 (J6 es rows) (run (B1 rows) s w))<es.length:=by rw[<-T.blk.len];exact be.mpr hm
 unfold W7 Q1a;show(List.map _ (R5 es rows).1).getD (run (B1 (R5 es rows).2) t w) false=_;rw[ax,ah,r];exact T.fin _ _ h0 hl (Y2a hm)
def W9b (wf:Wf es rows){w:?N}(hw:B9 w):G0 (Q1a es rows) w=G0 (es,rows) w:=W9c wf hw wf.pos (Q8o wf).zero
def V7q (w1:C5 m1)(w2:C5 m2){w:?N}(hw:B9 w):G0 (Q3h g m1 m2) w=g (G0 m1 w) (G0 m2 w):=by
 have W:=Q5t (step:=Q1q m1 m2) (N:=(PU m1 m2).length) (fun k h c hc=>Q9b w1 w2 h hc) (Q9q w1 w2) (ak _);have h:G0 (Q3h g m1 m2) w=G0 (Q2x (PU m1 m2) (Q1q m1 m2) (0,0) (Q5n g m1 m2)) w:=W9b (W.wf (Q5n g m1 m2)) hw;rw[h,Y2f (fun k h c hc=>Q9b w1 w2 h hc) (Q9q w1 w2) hw,V3j]
def Q2n (met:?N):?N->?N->?N
 |_,[]=>[]
 |pre,x::r=>if x∈met++pre then Q2n met (pre++[x]) r else x::Q2n met (pre++[x]) r
def P5:?N->O (?N)->?N
 |met,[]=>met
 |met,r::rs=>P5 (met++Q2n met [] r) rs
theorem Z6a (r:?N):∀(rs:O (?N)) (met:?N),P5 met (rs++[r])=P5 met rs++Q2n (P5 met rs) [] r
 |[],met=>rfl
 |x::rs,met=>Z6a r rs _
section
variable [DecidableEq α]
theorem Z0z (st:Nat->α)(n:Nat):∀(cs:?N) (ks:O α) (pre full:?N),full=pre++cs.map (fun c=>(G8 st cs ks pre).1.idxOf (st c))->n<=ks.length->(∀x,x<ks.length->x<n\/x∈pre)->(∀x∈pre,x<ks.length) ->
  Q2n (List.range n) pre (cs.map fun c=>(G8 st cs ks pre).1.idxOf (st c))=(List.range ((G8 st cs ks pre).1.length-ks.length)).map fun i=>ks.length+i
 |[],ks,pre,full,_,_,_,_=>by simp[G8,Q2n]
 |c::cs,ks,pre,full,_,hn,h1,h2=>by
  have pp:=Q7a st cs (R0 ks (st c)) (pre++[(R0 ks (st c)).idxOf (st c)]);have jm:st c∈R0 ks (st c):=Y5m.mpr (.inr rfl);have ei:(G8 st (c::cs) ks pre).1.idxOf (st c)=(R0 ks (st c)).idxOf (st c):=by rw[G8];exact Z5g pp jm
  have l3:G8 st (c::cs) ks pre=G8 st cs (R0 ks (st c)) (pre++[(R0 ks (st c)).idxOf (st c)]):=rfl;have cp:=pp.length_le;rw[av,Q2n,ei];simp only[l3]
  by_cases hm:st c∈ks
  ·have ea:R0 ks (st c)=ks:=Z3r hm;have hl:=be.mpr hm;simp only[ea]at cp ⊢;rw[aO (by
    rcases h1 _ hl with z |z
    ·exact ba _ (aL.mpr z)
    ·exact aw _ z)]
   exact Z0z st n cs ks _ _ rfl hn (fun x hx=>(h1 x hx).imp id fun z=>by simp[z]) fun x hx=>by
    rcases aN.mp hx with z |z
    ·exact h2 x z
    ·rw[aE.mp z];exact hl
  ·have ea:R0 ks (st c)=ks++[st c]:=Z3s hm;have ex:(ks++[st c]).idxOf (st c)=ks.length:=by
    rw[fw,aI hm];simp
   simp only[ea,ex]at cp ⊢;rw[ao,bi]at cp;rw[aI (fun z=>by
    rcases aN.mp z with z |z
    ·have:=aL.mp z;lia
    ·have:=h2 _ z;lia)]
   have ih:=Z0z st n cs (ks++[st c]) (pre++[ks.length]) _ rfl ?U (fun x hx=>by
    rw[ao,bi]at hx;rcases b7 x ks.length with z |z
    ·exact(h1 x z).imp id fun z=>by simp[z]
    ·exact .inr ?U) fun x hx=>by
    rw[ao,bi];rcases aN.mp hx with z |z
    ·have:=h2 x z;lia
    ·rw[aE.mp z];lia
   rw[ih];rw[ao,bi];obtain⟨m,sH⟩:∃m,(G8 st cs (ks++[st c]) (pre++[ks.length])).1.length=ks.length+1+m:=⟨_,(u8 cp).symm⟩
   rw[sH,show ks.length+1+m-(ks.length+1)=m by lia,show ks.length+1+m-ks.length=m+1 by lia,bF,av,aF];congr 1;exact aT fun i _=>by simp;lia
def range_add (n m:Nat):List.range n++(List.range m).map (fun i=>n+i)=List.range (n+m):=(List.range_add).symm
theorem Y5w {step:α->Nat->α}:∀(n:Nat) (ks:O α) (rs:O (?N)),P5 [0] rs=List.range ks.length->P5 [0] (O2 step n ks rs).2=List.range (O2 step n ks rs).1.length
 |0,ks,rs,h=>h
 |n+1,ks,rs,h=>by
  unfold O2;split
  ·exact h
  ·rename_i k e;refine Y5w n _ _ ?_;have hp:=(Q7a (step k) B5 ks []).length_le;rw[Z6a,h,Z6w,dn,Z0z (step k) ks.length B5 ks [] _ rfl (ak _) (fun x hx=>.inl hx) (fun x hx=>by cases hx),range_add];congr 1;lia
def V0d {step:α->Nat->α}{start:α}{N:Nat}:P5 [0] (V6 N step start).2=List.range (V6 N step start).1.length:=Y5w N _ _ rfl
end
abbrev Y0t:O Str:=["_law_script","_law_at","_law_most"]
def W0x (ck:E3):WS:=(J3 (Z2m (wC (.str "")) (Q1 1 [0,1] (Q6n (A1 (J8 ck (A1 (wV 0) (A1 (wV 1) (A1 (A3 G2 (wV 2) ?X) A4)))) A4)) (B6 0) S0 (B4 (A3 A8 (wC (.str "01ab")) (J8 ck (A1 (wV 1) (A1 (A3 G2 (A3 G2 (wV 2) ?X) (wV 0)) (A1 (wC (.int 4)) A4)))))))))
abbrev Y1a:O Str:=["rows","text","start","states","sign"]
def Z9b:WS:=(A6 (C2 3 (S7 (A1 (B4 (wV 2)) A4))) (A6 (Q8 (Z5e (wV 1)) (B6 4) (M8 3 (B4 (A3 A8 (A3 A8 (wV 0) (A3 A8 (wV 3) (Q0q ?X))) (Q7s (wC (.str "01ab")) (wV 4)))))) (Q9l 3)))
abbrev W4b:O Str:=["machine","text","ends","rows"]
def W0p (dg:E3):WS:=(A6 (Q4w (wV 0) (P3 2 (F7 (B6 2) (F7 (B6 3) Q4)))) (J3 (A3 A8 (wV 2) (A3 A8 (Z2f 0 dg (A1 (wV 3) (A1 (wV 1) A4))) (Q0q ?X)))))
def Z7b (t s:Str):K0 (t++s)=K0 t++K0 s:=by
 unfold K0;rw[<-aX];congr 1;exact uf
def Y8u (h:c∈B5):K0 (L0 c)=[.str (L0 c)]:=by
 simp only[B5,ar,aV,bG]at h;rcases h with rfl |rfl |rfl |rfl<;>rfl
theorem Z5h (h:c∈B5):Q8n "01ab" (L0 c)=some c:=by
 simp only[B5,ar,aV,bG]at h;rcases h with rfl |rfl |rfl |rfl<;>decide +kernel
def Q7f {w:?N}(h:B9 w):K0 (O1 w)=w.map fun c=>.str (L0 c):=by
 have go:∀(w:?N) (t:Str),B9 w->K0 (w.foldl (fun t c=>t++L0 c) t)=K0 t++w.map fun c=>.str (L0 c):=by
  intro w
  induction w with
  |nil=>intro t _;simp
  |cons c w ih=>
   intro t h;rw[cn,ih _ (fun d hd=>h d (ag _ hd)),Z7b,Y8u (h c aj),av,bW];rfl
 rw[O1,go w "" h];rfl
def V7n {y:Str}(h:K0 x=K0 y):x=y:=by
 unfold K0 at h;have go:∀l m:?N,(l.map fun c=>D.str ⟨#[c]⟩)=(m.map fun c=>D.str ⟨#[c]⟩)->l=m:=by
  intro l
  induction l with
  |nil=>intro m h;cases m with
   |nil=>rfl
   |cons _ _=>cases h
  |cons a l ih=>
   intro m h;cases m with
   |nil=>cases h
   |cons b m=>
    injection h with h1 h2
    injection h1 with h1
    injection h1 with h1
    have:a=b:=by simpa using h1
    rw[this,ih m h2]
 have:=go _ _ h;cases x;cases y;simp only[Str.mk.injEq];exact Array.toList_inj.mp this
theorem Y8t:∀ys:O Str,K0 (Str.join Str.empty ys)=(ys.map K0).flatten
 |[]=>rfl
 |[x]=>by simp[Str.join]
 |x::y::r=>by
  show K0 (x++Str.empty++Str.join Str.empty (y::r))=_;rw[Z7b,Z7b,Y8t (y::r)];simp[K0,Str.empty]
theorem Y4s {w:?N}(h:B9 w):Txt.join (Str.ofString "") (w.map L0)=O1 w:=by
 refine V7n ?_;have e:Txt.join (Str.ofString "") (w.map L0)=Str.join Str.empty (w.map L0):=StrLaws.glued_eq_join _ _;rw[e,Y8t,Q7f h,aF];clear e
 induction w with
 |nil=>rfl
 |cons c w ih=>rw[av,cE,ih fun d hd=>h d (ag _ hd),Function.comp,Y8u (h c aj)];rfl
theorem V7r {d:Nat}(hc:c∈B5)(hd:d∈B5)(e:L0 c=L0 d):c=d:=by grind [Z5h,aC]
def V8z:∀{u w:?N},B9 u->B9 w->O1 u=O1 w->u=w:=by
 intro u w hu hw e;have e:=congrArg K0 e;rw[Q7f hu,Q7f hw]at e;have go:∀l m:?N,B9 l->B9 m->(l.map fun c=>D.str (L0 c))=(m.map fun c=>D.str (L0 c))->l=m:=by
  intro l
  induction l with
  |nil=>intro m _ _ h;cases m with
   |nil=>rfl
   |cons _ _=>cases h
  |cons a l ih=>
   intro m hl hm h;cases m with
   |nil=>cases h
   |cons b m=>
    injection h with h1 h2
    injection h1 with h1
    rw[V7r (hl a aj) (hm b aj) h1,ih m (fun d hd=>hl d (ag _ hd)) (fun d hd=>hm d (ag _ hd)) h2]
 exact go u w hu hw e
theorem Z7u:∀l:O Str,Q3k (l.map D.str)=some l
 |[]=>rfl
 |x::r=>by simp[Q3k,Z7u r]
theorem Z7v:∀{l:?N},B9 l->((l.map L0).map (·.length)).sum=l.length
 |[],_=>rfl
 |j::r,h=>by
  have hj:(L0 j).length=1:=by
   have:=h j aj;simp only[B5,ar,aV,bG]at this;rcases this with rfl |rfl |rfl |rfl<;>rfl
  rw[av,av,cx,hj,Z7v fun d hd=>h d (ag _ hd),aK];lia
def Q5r (ns:O Int)(at_:Int)(most:Nat):?N:=(List.range (T4 ns at_ (most+1))).map fun(k:Nat)=>T4 ns (at_+1+(k:Int)) 4
def Y9u (ns:O Int)(at_:Int)(most:Nat):B9 (Q5r ns at_ most):=fun c hc=>by
 obtain⟨k,_,rfl⟩:=aq.mp hc;exact Q3f (Q4b ns _ (?G))
theorem Y9t (ns:O Int)(at_:Int)(most:Nat):(Q5r ns at_ most).length<=most:=by
 have:=Q4b ns at_ (m:=most+1) (?H);simp[Q5r];lia
def Y4r (h:c∈B5){Q:R->Prop}(q:Q (.st (.str (L0 c)))):A8 (.st (.str "01ab")) (.st (.int (c:Int))) Q:=by
 simp only[B5,ar,aV,bG]at h;rcases h with rfl |rfl |rfl |rfl<;>exact⟨?G,_,rfl,q⟩
def Z7d:E3:=fun rs r=>∃(ns:O Int) (at_:Int) (most:Nat),rs=[.st (scr ns),.st (.int at_),.st (iD most)]/\ns.length<=63/\most<=50/\r=.st (.str (O1 (Q5r ns at_ most)))
theorem V5p:∀rs r,rs.length=3->Z7d rs r->W0x Q7g (S9 r) (E2 Y0t rs):=by
 rintro rs r _ ⟨ns,at_,most,rfl,hn,hm,rfl⟩;have hp:0<most+1:=?H
 have cm:=Q4b ns at_ hp;have er:T7 0 (T4 ns at_ (most+1):Int).toNat=(List.range (T4 ns at_ (most+1))).map iD:=by simp[T7]
 unfold W0x;simp only[P9,Y8c,D5,Y7,Z1m,C7,R9,B0,C8,C6];refine⟨_,rfl,_,rfl,_,rfl,_,rfl,?_⟩;show G2 (R.st (.int _)) (R.st (.int _)) _;rw[Y6];refine⟨rfl,_,⟨ns,at_,((most+1:Nat):Int),rfl,hn,?H,rfl⟩,?_⟩;rw[Q6h ns at_ hp];refine⟨_,rfl,?H,?H,?_⟩;rw[er];refine⟨sz ?U,?_⟩;refine Q0f (f:=fun d=>match d with |.int k=>.str (L0 (T4 ns (at_+1+k) 4)) |d=>d) _ _ _ (fun d hd Q' q=>?_) ?_
 ·obtain⟨k,_,rfl⟩:=aq.mp hd;simp only[F4,C8,D5,R9,C7,B0,C6];sleep 2;show G2 (R.st (.int _)) (R.st (.int _)) _;rw[Y6];k_ne;show G2 (R.st (.int _)) (R.st (.int _)) _;rw[Y6];refine⟨rfl,_,⟨ns,at_+1+(k:Int),4,rfl,hn,?G,rfl⟩,?_⟩;rw[show Y3 ns (at_+1+(k:Int)) 4=(T4 ns (at_+1+(k:Int)) 4:Int)from Q6h ns _ (m:=4) (?G)];exact Y4r (Q3f (Q4b ns _ (?G))) q
 have e:((List.range (T4 ns at_ (most+1))).map iD).map (fun d=>match d with |.int k=>D.str (L0 (T4 ns (at_+1+k) 4)) |d=>d)=((Q5r ns at_ most).map L0).map D.str:=by
  unfold Q5r;rw[aF,aF,aF];rfl
 have wd:=Y9u ns at_ most;have tl:=Y9t ns at_ most;rw[e];refine⟨_,_,rfl,Z7u _,?_,?_⟩
 ·rw[Z7v wd];have:(Str.ofString "").length=0:=rfl;rw[this];lia
 ·show R.st _=R.st _;rw[Y4s wd]
def Q0v (rows:O (?N))(i:Nat):?N->?N
 |[]=>[]
 |c::w=>B1 rows i c::Q0v rows (B1 rows i c) w
theorem Z3v {ds:O D}{d:D}:L9 (ds++[d]) (-1)=some d:=by
 unfold L9 ixN;rw[aI (?G),aO (by rw[ao,bi];lia),Option.bind_some];have:((-1:Int)+((ds++[d]).length:Nat)).toNat=ds.length:=by rw[ao,bi];lia
 rw[this];simp
theorem Z3u (rows:O (?N)):∀(w:?N) (i:Nat),∃l,i::Q0v rows i w=l++[run (B1 rows) i w]
 |[],i=>⟨[],rfl⟩
 |c::w,i=>by
  obtain⟨l,e⟩:=Z3u rows w (B1 rows i c);exact⟨i::l,by rw[Q0v,e];rfl⟩
def Z1r:E3:=fun rs r=>∃(m:C9) (i:Nat) (w:?N),rs=[.st (rsD m.2),.st (.str (O1 w)),.st (iD i)]/\C5 m/\i<?L/\B9 w/\w.length<=100000/\r=.nw ((i::Q0v m.2 i w).map iD)
def wsA:WS:=(M8 3 (B4 (A3 A8 (A3 A8 (wV 0) (A3 A8 (wV 3) (Q0q ?X))) (Q7s (wC (.str "01ab")) (wV 4)))))
theorem Y1q (wf:C5 m){E:F9}:∀(w:?N) (l:?N) (i:Nat) (o4:Am Sl),B9 w->i<?L->l.length+w.length<=200000->(∀o4,E.nx [some (.dat (rsD m.2)),o1,o2,some (.own ((l++i::Q0v m.2 i w).map iD)),o4]) ->
  E4 (B6 4) wsA E (w.map fun c=>.str (L0 c)) [some (.dat (rsD m.2)),o1,o2,some (.own ((l++[i]).map iD)),o4]
 |[],l,i,o4,_,_,_,h=>h o4
 |c::w,l,i,o4,hw,hi,hz,h=>by
  rw[aK]at hz;rw[av,E4];simp only[wsA,O0,Q1s,F4,C8,B0,D5,Y7z,Q5o];have hc:=hw c aj;have jE:c<4:=Q0e hc;obtain⟨r,hr,_,qi⟩:=Wf.row wf hi;refine⟨_,rfl,_,rfl,_,rfl,?_⟩;rw[Q5l];show A8 (.bw ((l++[i]).map iD)) (.st (.int (-1))) _;rw[Q1c];refine⟨iD i,by rw[aX];exact Z3v,?_⟩;refine M6 (i:=i) (d:=.tup (r.map iD)) (by rw[ah,hr];rfl) ?_;refine⟨_,rfl,_,rfl,_,c,rfl,Z5h hc,?_⟩;refine M6 (i:=c) (d:=iD (B1 m.2 i c)) (by rw[ah,(qi c jE).1];rfl) ?_;refine⟨_,rfl,S5 ?U,?_⟩;have e:(l++[i]).map iD++[iD (B1 m.2 i c)]=(l++[i]++[B1 m.2 i c]).map iD:=by simp
  show E4 _ _ _ _ [_,_,_,some (Sl.own ((l++[i]).map iD++[iD (B1 m.2 i c)])),_];rw[e];refine Y1q wf w (l++[i]) _ _ (fun d hd=>hw d (ag _ hd)) (qi c jE).2 ?U fun o4=>?_;rw[bW];exact h o4
theorem V4v:∀rs r,rs.length=3->Z1r rs r->Z9b (S9 r) (E2 Y1a rs):=by
 rintro rs r _ ⟨m,i,w,rfl,wf,hi,hw,hl,rfl⟩;unfold Z9b;simp only[D6,G1,s_lst,C7,F4,B0,C6,Y8,V6p,Y8g];refine⟨_,rfl,_,rfl,sz ?E,?_⟩;rw[X4];sleep 2;rw[Q7f hw];exact Y1q wf w [] i none hw hi ?U fun o4=>⟨_,rfl,rfl⟩
def Z1q:E3:=fun rs r=>∃(m:C9) (w:?N),rs=[.st (mD m),.st (.str (O1 w))]/\C5 m/\B9 w/\w.length<=100000/\r=.st (.bl (G0 m w))
def V4t:∀rs r,rs.length=2->Z1q rs r->W0p Z1r (S9 r) (E2 W4b rs):=by
 rintro rs r _ ⟨m,w,rfl,wf,hw,hl,rfl⟩;unfold W0p;simp only[D6,P9,C8,B0,D5,Y7u,C7,C6,Q7b,Q1v,Q1t,O0,Q1u,Q5o];refine⟨_,rfl,_,rfl,_,rfl,rfl,_,_,rfl,_,_,rfl,rfl,_,rfl,_,rfl,_,rfl,rfl,_,⟨m,0,w,rfl,wf,wf.pos,hw,hl,rfl⟩,?_⟩;obtain⟨l,e⟩:=Z3u m.2 w 0;rw[Q5l];show A8 (.nw ((0::Q0v m.2 0 w).map iD)) (.st (.int (-1))) _;rw[Y6l,e];refine⟨_,by rw[aX];exact Z3v,?_⟩;refine M6 (i:=run (B1 m.2) 0 w) (Q6e (Z1l wf w 0 hw wf.pos)) ?_
 rfl
mutual
theorem W6n:∀a b:D,D.eq a b=D.eq b a
 |.non,b=>by cases b<;>rfl
 |.bl a,b=>by cases b<;>simp[D.eq,Bool.beq_comm,eq_comm,BEq.comm]
 |.int a,b=>by cases b<;>simp[D.eq,eq_comm,BEq.comm]
 |.str a,b=>by cases b<;>simp[D.eq,eq_comm,BEq.comm]
 |.tup a,b=>by
  cases b with
  |tup b=>simp only[D.eq];exact eqs_comm' a b
  |_=>rfl
 |.lst a,b=>by
  cases b with
  |lst b=>simp only[D.eq];exact eqs_comm' a b
  |_=>rfl
theorem eqs_comm':∀a b:O D,Dqeqs a b=Dqeqs b a
 |[],b=>by cases b<;>rfl
 |x::xs,b=>by
  cases b with
  |nil=>rfl
  |cons y ys=>simp only[Dqeqs];rw[W6n x y,eqs_comm' xs ys]
end
abbrev tD (w:?N):D:=.str (O1 w)
def Q4m (ws:O (?N)):O (?N):=ws.flatMap fun w=>B5.map fun c=>w++[c]
def Z2u:Nat->O (?N)->O (?N)->O (?N)
 |0,found,_=>found
 |n+1,found,row=>Z2u n (found++Q4m row) (Q4m row)
def Q9o (n:Nat):O (?N):=Z2u n [[]] [[]]
def Z8a {w:?N}(h:B9 w):(O1 w).length=w.length:=by
 have:=congrArg List.length (Q7f h);rw[ai]at this;rw[<-this];unfold K0;rw[ai,db];rfl
theorem Q1r (wf:Wf es rows){i:Nat}(hi:i<es.length)(hc:c∈B5):B1 rows i c<es.length:=by
 obtain⟨_,_,_,h⟩:=wf.row hi;exact(h c (by simp only[B5,ar,aV,bG]at hc;lia)).2
section
variable [DecidableEq α]
theorem Y8r {step:α->Nat->α}:∀(n:Nat) (ks:O α) (rs:O (?N)),P5 [0] rs=List.range ks.length->(∀s,s<rs.length->s<(P5 [0] (rs.take s)).length)->∀s,s<(O2 step n ks rs).2.length->s<(P5 [0] ((O2 step n ks rs).2.take s)).length
 |0,ks,rs,_,h=>h
 |n+1,ks,rs,hm,h=>by
  unfold O2;split
  ·exact h
  ·rename_i k e;have hp:=(Q7a (step k) B5 ks []).length_le;have sH:P5 [0] (rs++[(G8 (step k) B5 ks []).2])=List.range (G8 (step k) B5 ks []).1.length:=by
    rw[Z6a,hm,Z6w,dn,Z0z (step k) ks.length B5 ks [] _ rfl (ak _) (fun x hx=>.inl hx) (fun x hx=>by cases hx),range_add];congr 1;lia
   refine Y8r n _ _ sH fun s hs=>?_;rw[ao,aK,bX]at hs
   by_cases lt:s<rs.length
   ·rw[ju (dP lt)];exact h s lt
   ·have:s=rs.length:=?H
    subst this;rw[ju (ak _),Ae,hm,b9];exact(aD.mp e).1
end
theorem Y5v:∀(rs:O (?N)) (met:?N),met <+: P5 met rs
 |[],_=>bA _
 |r::rs,met=>(cM _ _).trans (Y5v rs _)
theorem Y5u:∀(rs qs:O (?N)) (met:?N),P5 met (rs++qs)=P5 (P5 met rs) qs
 |[],_,_=>rfl
 |r::rs,qs,met=>Y5u rs qs _
theorem Wf.rowEq (w:Wf es rows){s:Nat}(h:s<es.length):rows[s]?=some (B5.map (B1 rows s)):=by
 obtain⟨r,e,l,g⟩:=w.row h;rw[e];have g0:=(g 0 (?G)).1;have g1:=(g 1 (?G)).1;have g2:=(g 2 (?G)).1;have g3:=(g 3 (?G)).1
 match r,l with
 |[a,b,c,d],_=>
  injection g0 with g0;injection g1 with g1;injection g2 with g2;injection g3 with g3
  show some [a,b,c,d]=some [B1 rows s 0,B1 rows s 1,B1 rows s 2,B1 rows s 3];rw[<-g0,<-g1,<-g2,<-g3]
theorem Z5z {met:?N}{x:Nat}:∀(r pre:?N),x∈Q2n met pre r->x∈r
 |[],pre,h=>by rw[Q2n]at h;cases h
 |y::r,pre,h=>by
  rw[Q2n]at h;split at h
  ·exact ag _ (Z5z r _ h)
  ·rcases ar.mp h with rfl |h
   ·exact aj
   ·exact ag _ (Z5z r _ h)
theorem Y5r {x:Nat}:∀(rs:O (?N)) (met:?N),x∈P5 met rs->x∈met\/∃r∈rs,x∈r
 |[],met,h=>.inl h
 |r::rs,met,h=>by
  rw[P5]at h;rcases Y5r rs _ h with h |⟨q,hq,h⟩
  ·rcases aN.mp h with h |h
   ·exact .inl h
   ·exact .inr ⟨r,aj,Z5z _ _ h⟩
  ·exact .inr ⟨q,ag _ hq,h⟩
abbrev Z3j:O Str:=["machine","ends","rows","keys","reached_rows","steps"]
def W1j:WE:=(A3 A8 (A3 A8 (wV 2) (wV 0)) (wV 1))
def Z8z (ef:N1)  (sp_walkedK:E3)(sp_distances:J4):WS:=(A6 (Q4w (wV 0) (P3 2 (F7 (B6 1) (F7 (B6 2) Q4)))) (A6 (Q4w (Z2g ef 2 [("rows",2)] W1j sp_walkedK ?A5) (P3 2 (F7 (B6 3) (F7 (B6 4) Q4)))) (A6 (C2 5 (S6 sp_distances (A1 (Q1 1 [1] (Q4h (wV 3)) (B6 0) S0 (B4 (A3 A8 (wV 1) (wV 0)))) (A1 (wV 4) (A1 (wC (.bl true)) A4))))) (J3 (Q1 1 [5] (Q0z (wV 4)) (B6 0) S0 (B4 (Q1 1 [1] (Q0z (wV 0)) (B6 0) (A3 (X1 true) (A3 A8 (wV 1) (wV 0)) (wC .non)) (B4 (wV 0)))))))))
abbrev Z3f:O Str:=["machine","onward","awaited","goals","goal","lengths","waiting","state"]
def W0t (sp_least_text:J4)(sp_onward_goals:J4):WS:=(A6 (N7 (A3 (X1 false) (S6 sp_least_text (A1 (wV 0) A4)) (wC .non)) (J3 (Q0q ?X)) M9) (A6 (C2 1 (S6 sp_onward_goals (A1 (wV 0) A4))) (A6 (C2 2 (A3 W4 (S7 (A1 (B4 ?A5) A4)) (D8 F2 (A1 (wV 1) A4)))) (A6 (Q8 (iOwn 1) (B6 3) (Q8 (Q5h (B4 (wV 3))) (B6 4) (Q7r 2 (fun i j=>i+j) (wV 4) ?X))) (A6 (C2 5 (A3 W4 (S7 (A1 (B4 ?A5) A4)) (D8 F2 (A1 (wV 1) A4)))) (A6 (C2 6 (Q1 2 [] (Z0q (A1 (wV 2) A4)) (P3 2 (F7 (B6 0) (F7 (B6 1) Q4))) (A3 (T5 60 false) (wV 1) ?A5) (B4 (wV 0)))) (A6 (Q2a (Q3m (wV 6)) (A6 (Z8q 6 (B6 7)) (Q8 (Q5h (B4 (A3 A8 (wV 1) (wV 7)))) (B6 4) (A6 (Z2q 5 (wV 4) (B4 (D8 Q8s (A1 (A3 A8 (wV 5) (wV 4)) (A1 (A3 G2 (A3 A8 (wV 5) (wV 7)) ?X) A4))))) (A6 (Q7r 2 (fun i j=>i-j) (wV 4) ?X) (N7 (A3 (T5 60 false) (A3 A8 (wV 2) (wV 4)) ?A5) (M8 6 (B4 (wV 4))) M9)))))) (J3 (wIf (A3 (T5 60 false) (D8 Q1b (A1 (wV 2) A4)) ?A5) (D8 Q1b (A1 (wV 5) A4)) (wC .non))))))))))
abbrev W4h:O Str:=["machine","ends","rows"]
def W1h:WE:=(A3 A8 (A3 A8 (wV 2) (wV 0)) (wV 1))
def Z9l:WE:=(A3 A8 (wV 1) (wV 0))
def Z8y (ef:N1)  (Q7h:E3):WS:=(A6 (Q4w (wV 0) (P3 2 (F7 (B6 1) (F7 (B6 2) Q4)))) (J3 (W0m ef 2 1 [("rows",2)] [("ends",1)] W1h Z9l Q7h ?A5)))
abbrev Y0v:O Str:=["machine"]
def W0y:WS:=(J3 (Q1 1 [] (Q0z (A3 A8 (wV 0) ?A5)) (B6 0) S0 (B4 (wIf (Q3m (wV 0)) ?X ?A5))))
abbrev Z3i:O Str:=["machine","counts"]
def W1a:WS:=(J3 (Q1 1 [1] (Q0z (A3 A8 (wV 0) ?X)) (B6 0) S0 (B4 (D8 Q2r (A1 (Q1 1 [1] (Q0z (wV 0)) (B6 0) S0 (B4 (A3 A8 (wV 1) (wV 0)))) A4)))))
def wl:Nat->O (?N)
 |0=>[[]]
 |n+1=>Q4m (wl n)
theorem J0m:∀(n k:Nat) (found:O (?N)),Z2u n found (wl k)=found++(List.range n).flatMap fun i=>wl (k+1+i):=by intro n;induction n<;>grind [Z2u,Q4m,wl,bF,bV,jc,bW]
theorem Z9o (n:Nat):Q9o n=(List.range (n+1)).flatMap wl:=by grind [Q9o,wl,J0m,bF,bV,jc]
theorem Q1m:∀{n:Nat}{w:?N},w∈wl n ↔ B9 w/\w.length=n
 |0,w=>by
  rw[wl,aE];constructor
  ·rintro rfl;exact⟨B9.nil,rfl⟩
  ·rintro ⟨_,h⟩;exact cj.mp h
 |n+1,w=>by
  rw[wl,Q4m,cV];constructor
  ·rintro ⟨u,hu,hw⟩;obtain⟨c,hc,rfl⟩:=aq.mp hw;obtain⟨h1,h2⟩:=Q1m.mp hu;exact⟨h1.snoc hc,by rw[ao,h2];rfl⟩
  ·rintro ⟨h1,h2⟩;have dM:w≠[]:=fun e=>by rw[e]at h2;cases h2
   have e:=List.dropLast_concat_getLast dM;refine⟨w.dropLast,Q1m.mpr ⟨fun c hc=>h1 c (List.dropLast_subset w hc),by rw[qL,h2];rfl⟩,aq.mpr ⟨w.getLast dM,h1 _ (List.getLast_mem dM),e⟩⟩
theorem V0c {w:?N}:w∈Q9o n ↔ B9 w/\w.length<=n:=by
 rw[Z9o,cV];constructor
 ·rintro ⟨i,hi,h⟩;obtain⟨a,b⟩:=Q1m.mp h;exact⟨a,by have:=aL.mp hi;lia⟩
 ·rintro ⟨a,b⟩;exact⟨w.length,aL.mpr (?H),Q1m.mpr ⟨a,rfl⟩⟩
def L4 (w:?N):Nat:=w.foldl (fun n c=>4*n+c+1) 0
def Z1c (w:?N)(c:Nat):L4 (w++[c])=4*L4 w+c+1:=by unfold L4;rw[iE];rfl
theorem Q2i (h:c∈B5):c<4:=by grind [ar,aV]
theorem W9p {ws:O (?N)}(h:ws.Pairwise fun a b=>L4 a<L4 b):(Q4m ws).Pairwise fun a b=>L4 a<L4 b:=by
 induction ws with
 |nil=>exact List.Pairwise.nil
 |cons w ws ih=>
  obtain⟨h1,h2⟩:=i4.mp h;rw[Q4m,bV,qJ];refine⟨?_,ih h2,fun a ha b hb=>?_⟩
  ·simp only[B5,av,cO];simp[i4,Z1c]
  ·obtain⟨c,hc,rfl⟩:=aq.mp ha;obtain⟨v,hv,hb⟩:=cV.mp hb;obtain⟨d,hd,rfl⟩:=aq.mp hb;have:=h1 v hv;rw[Z1c,Z1c];have:=Q2i hc;lia
theorem W1k:∀n,(wl n).Pairwise fun a b=>L4 a<L4 b
 |0=>by rw[wl];simp
 |n+1=>W9p (W1k n)
def lo:Nat->Nat
 |0=>0
 |n+1=>4*lo n+1
theorem Y6i (w:?N):B9 w->lo w.length<=L4 w/\L4 w<lo (w.length+1):=by
 refine Z1p (P:=fun w=>B9 w->lo w.length<=L4 w/\L4 w<lo (w.length+1)) ?_ ?_ w
 ·intro _;exact⟨ak _,by show(0:Nat)<4*0+1;lia⟩
 ·intro w c ih hw;obtain⟨h1,h2⟩:=ih fun d hd=>hw d (aN.mpr (.inl hd));have hc:=Q2i (hw c ?E);rw[Z1c,ao];show 4*lo w.length+1<=_/\_<4*lo (w.length+1)+1;lia
theorem W9o {i j:Nat}(h:i<=j):lo i<=lo j:=by
 induction j with
 |zero=>rw[qS.mp h];exact ak _
 |succ j ih=>
  rcases b7 j i with z |z
  ·rw[show i=j+1 by lia];exact ak _
  ·have:=ih z;show lo i<=4*lo j+1;lia
def V1d {u w:?N}(hu:B9 u)(hw:B9 w)(h:u.length<w.length):L4 u<L4 w:=
 ay (Y6i u hu).2 (aU (W9o h) (Y6i w hw).1)
theorem W1l (n:Nat):(Q9o n).Pairwise fun a b=>L4 a<L4 b:=by
 rw[Z9o];have key:∀l:?N,l.Pairwise (·<·)->(l.flatMap wl).Pairwise fun a b=>L4 a<L4 b:=by
  intro l
  induction l with
  |nil=>intro _;exact List.Pairwise.nil
  |cons i l ih=>
   intro h;obtain⟨h1,h2⟩:=i4.mp h;rw[bV,qJ];refine⟨W1k i,ih h2,fun a ha b hb=>?_⟩;obtain⟨j,hj,hb⟩:=cV.mp hb;obtain⟨a1,a2⟩:=Q1m.mp ha;obtain⟨b1,b2⟩:=Q1m.mp hb;exact V1d a1 b1 (by have:=h1 j hj;lia)
 exact key _ nR
def N4 (m:C9):Nat->?N
 |0=>m.1.map fun b=>if b=true then 1 else 0
 |l+1=>m.2.map fun r=>(r.map fun g=>(N4 m l).getD g 0).sum
def E9 (m:C9)(l s:Nat):Nat:=(N4 m l).getD s 0
theorem W5o (wf:C5 m):∀l,(N4 m l).length=?L
 |0=>by rw[N4,ai]
 |l+1=>by rw[N4,ai];exact wf.len
theorem Y2p (m:C9)(s:Nat):E9 m 0 s=if m.1.getD s false=true then 1 else 0:=by grind [E9,N4,ax,ah]
def Z4f (wf:C5 m){s:Nat}(h:s<?L)(l:Nat):E9 m (l+1) s=(B5.map fun c=>E9 m l (B1 m.2 s c)).sum:=by
 unfold E9;rw[N4,ax,ah,Wf.rowEq wf h];show((B5.map (B1 m.2 s)).map _).sum=_;rw[aF];rfl
def Q5q (m:C9)(p:?N)(c:Nat):E6 m (p++[c])=B1 m.2 (E6 m p) c:=by unfold E6;rw[Q4s];rfl
theorem Y2q (wf:C5 m):∀(k l:Nat),((wl k).map fun p=>E9 m l (E6 m p)).sum=E9 m (l+k) 0
 |0,l=>by simp[wl,E6,run]
 |k+1,l=>by
  rw[show l+(k+1)=(l+1)+k by lia,<-Y2q wf k (l+1),wl,Q4m];have key:∀ws:O (?N),(∀w∈ws,B9 w)->((ws.flatMap fun w=>B5.map fun c=>w++[c]).map fun p=>E9 m l (E6 m p)).sum=(ws.map fun p=>E9 m (l+1) (E6 m p)).sum:=by
   intro ws
   induction ws with
   |nil=>intro _;rfl
   |cons w ws ih=>
    intro h;rw[bV,aX,List.sum_append,ih fun u hu=>h u (ag _ hu),av (f:=fun p=>E9 m (l+1) (E6 m p)),cx,Z4f wf (Q3j wf w (h w aj)),aF];congr 2;exact aT fun c _=>by show E9 m l (E6 m (w++[c]))=_;rw[Q5q]
  exact key _ fun w hw=>(Q1m.mp hw).1
theorem Q3z (wf:C5 m)(k:Nat):E9 m k 0=((wl k).filter (G0 m)).length:=by
 have:=Y2q wf k 0;rw[cG]at this;rw[<-this];have key:∀ws:O (?N),(ws.map fun p=>E9 m 0 (E6 m p)).sum=(ws.filter (G0 m)).length:=by
  intro ws
  induction ws with
  |nil=>rfl
  |cons w ws ih=>
   rw[av,cx,ih,Y2p,cJ];show(if G0 m w=true then 1 else 0)+_=_;split
   ·rw[aK];lia
   ·lia
 exact key _
theorem V8g {l:?N}:0<l.sum ↔ ∃x∈l,0<x:=by induction l<;>grind [cx,cL,ag,aj]
theorem W0b (wf:C5 m){w:?N}(hw:B9 w)(hl:?L<=w.length):∃i j,i<j/\j<=?L/\E6 m (w.take i)=E6 m (w.take j):=by
 refine fh fun no=>?_;have nd:((List.range (?L+1)).map fun i=>E6 m (w.take i)).Nodup:=by
  rw[List.nodup_iff_pairwise_ne,List.pairwise_map];refine List.Pairwise.imp_of_mem (R:=fun a b=>a<b) (fun {a b} ha hb h e=>no ⟨a,b,h,?_,e⟩) nR;have:=aL.mp hb;lia
 have:=nd.length_le_of_subset (l₂:=List.range ?L) fun x hx=>by
  obtain⟨i,_,rfl⟩:=aq.mp hx;exact aL.mpr (Q3j wf _ fun c hc=>hw c (gp hc))
 simp at this;lia
theorem Y1j (m:C9){w:?N}{i j:Nat}(e:E6 m (w.take i)=E6 m (w.take j)):G0 m (w.take i++w.drop j)=G0 m w:=by grind [E6,pM,Q4s,G0]
def B9.parts {w:?N}(h:B9 w)(i j:Nat):B9 (w.take i++w.drop j):=fun c hc=>(aN.mp hc).elim (fun q=>h c (gp q)) fun q=>h c (List.mem_of_mem_drop q)
theorem cut (wf:C5 m){w:?N}(hw:B9 w)(ha:G0 m w=true)(hl:?L<=w.length):∃u,B9 u/\G0 m u=true/\u.length<w.length/\w.length<=u.length+?L:=by
 obtain⟨i,j,h1,h2,e⟩:=W0b wf hw hl;refine⟨w.take i++w.drop j,hw.parts i j,by rw[Y1j m e];exact ha,?_,?_⟩<;>(rw[ao,cW,dY];lia)
theorem pump (wf:C5 m){w:?N}(hw:B9 w)(ha:G0 m w=true)(hl:?L<=w.length):∃u,B9 u/\G0 m u=true/\w.length<u.length:=by
 obtain⟨i,j,h1,h2,e⟩:=W0b wf hw hl;refine⟨w.take j++w.drop i,hw.parts j i,by rw[Y1j m e.symm];exact ha,?_⟩;rw[ao,cW,dY];lia
def O7 (m:C9)(w:?N):Prop:=B9 w/\G0 m w=true
def Inf (m:C9):Prop:=∀N,∃w,O7 m w/\N<=w.length
theorem J0j (wf:C5 m)(h:Inf m)(N:Nat):∃w,O7 m w/\N<=w.length/\w.length<N+?L:=by
 obtain⟨w,hw,hN⟩:=h N;have key:∀(k:Nat) (w:?N),w.length<=k->O7 m w->N<=w.length->∃w,O7 m w/\N<=w.length/\w.length<N+?L:=by
  intro k
  induction k with
  |zero=>intro w hk hw hN;exact⟨w,hw,hN,by have:=wf.pos;lia⟩
  |succ k ih=>
   intro w hk hw hN
   by_cases hl:w.length<N+?L
   ·exact⟨w,hw,hN,hl⟩
   ·obtain⟨u,u1,u2,u3,u4⟩:=cut wf hw.1 hw.2 (?H);exact ih u (?H) ⟨u1,u2⟩ (?H)
 exact key _ w (ak _) hw hN
def Q2e (m:C9)(d:D):Prop:=(d=.int (-1)/\∀w,¬ O7 m w)\/(∃L:Nat,d=.int (L:Int)/\(∃w,O7 m w/\w.length=L)/\∀w,O7 m w->w.length<=L)\/(d=.non/\Inf m)
theorem W8w (wf:C5 m)  (h:∀w,O7 m w->w.length<=L)(e:∃w,O7 m w/\w.length=L):L<?L:=by
 obtain⟨w,hw,rfl⟩:=e;refine fh fun no=>?_;obtain⟨u,u1,u2,u3⟩:=pump wf hw.1 hw.2 (?H);have:=h u ⟨u1,u2⟩;lia
def Use (m:C9)(s:Nat):Prop:=∃w,B9 w/\W7 m.1 m.2 s w=true
structure Gr (m:C9)(on:O (?N)):Prop where
 wf:C5 m
 len:on.length=?L
 mem:∀u v,u<?L->(v∈on.getD u [] ↔ (∃c∈B5,B1 m.2 u c=v)/\Use m v)
 reach:∀s,s<?L->∃w,B9 w/\E6 m w=s
section
variable (G:Gr m on)
include G
def Gr.lt {u v:Nat}(hu:u<?L)(h:v∈on.getD u []):v<?L:=by
 obtain⟨⟨c,hc,rfl⟩,_⟩:=(G.mem u v hu).mp h;exact Q1r G.wf hu hc
omit G in
def W0g {u:Nat}(hc:c∈B5)(h:Use m (B1 m.2 u c)):Use m u:=by
 obtain⟨w,hw,ha⟩:=h;exact⟨c::w,fun d hd=>by rcases ar.mp hd with rfl |hd;exact hc;exact hw d hd,ha⟩
def Gr.edge {u:Nat}(hu:u<?L)(hc:c∈B5)(h:Use m (B1 m.2 u c)):B1 m.2 u c∈on.getD u []:=(G.mem u _ hu).mpr ⟨⟨c,hc,rfl⟩,h⟩
theorem Gr.long (h1:∀u v,u<?L->v∈on.getD u []->Ln u+1<=Ln v)(w:?N):B9 w->Use m (E6 m w)->w.length<=Ln (E6 m w):=by
 refine Z1p (P:=fun w=>B9 w->Use m (E6 m w)->w.length<=Ln (E6 m w)) (fun _ _=>bj _) ?_ w;intro u c ih hw hU;have hu:B9 u:=fun d hd=>hw d (by simp[hd]);have hc:=hw c ?E;rw[Q5q]at hU ⊢;have:=ih hu (W0g hc hU);have:=h1 _ _ (Q3j G.wf u hu) (G.edge (Q3j G.wf u hu) hc hU);rw[ao];simp only[aK,bX];lia
theorem Gr.way (h1:∀u v,u<?L->v∈on.getD u []->Ln u+1<=Ln v)(h2:∀v,v<?L->0<Ln v->∃u,u<?L/\v∈on.getD u []/\Ln v=Ln u+1):∀(k v:Nat),v<?L->Ln v=k->Use m v->∃w,B9 w/\w.length=k/\E6 m w=v
 |0,v,hv,e,hU=>by
  obtain⟨w,hw,hs⟩:=G.reach v hv;rcases pN w with rfl |⟨u,c,rfl⟩
  ·exact⟨[],B9.nil,rfl,hs⟩
  ·have hu:B9 u:=fun d hd=>hw d (by simp[hd]);have hc:=hw c ?E;rw[pQ,Q5q]at hs;have:=h1 _ _ (Q3j G.wf u hu) (G.edge (Q3j G.wf u hu) hc (by rw[hs];exact hU));rw[hs]at this;lia
 |k+1,v,hv,e,hU=>by
  obtain⟨u,hu,gr,e2⟩:=h2 v hv (?H);obtain⟨⟨c,hc,ec⟩,_⟩:=(G.mem u v hu).mp gr;obtain⟨w,w1,w2,w3⟩:=Gr.way h1 h2 k u hu (?H) (W0g hc (by rw[ec];exact hU));exact⟨w++[c],w1.snoc hc,by rw[ao,w2];rfl,by rw[Q5q,w3,ec]⟩
theorem Gr.last (h1:∀u v,u<?L->v∈on.getD u []->Ln u+1<=Ln v)(h2:∀v,v<?L->0<Ln v->∃u,u<?L/\v∈on.getD u []/\Ln v=Ln u+1)
  (hm:∃v,v<?L/\Ln v=L) (hL:∀v,v<?L->Ln v<=L) (ha:∃w,O7 m w):Q2e m (.int (L:Int)):=by
 have up:∀w,O7 m w->w.length<=L:=fun w hw=>aU (G.long h1 w hw.1 ⟨[],B9.nil,hw.2⟩) (hL _ (Q3j G.wf w hw.1));have U0:Use m 0:=by obtain⟨w,hw⟩:=ha;exact⟨w,hw.1,hw.2⟩
 have fin:∀v,v<?L->Ln v=L->Use m v->∃w,O7 m w/\w.length=L:=fun v hv e hU=>by
  obtain⟨w,w1,w2,w3⟩:=G.way h1 h2 L v hv e hU;obtain⟨x,hx,qt⟩:=hU;cases x with
  |nil=>exact⟨w,⟨w1,by unfold G0;rw[w3];exact qt⟩,w2⟩
  |cons c x=>
   have hc:=hx c aj;have U2:Use m (B1 m.2 v c):=⟨x,fun d hd=>hx d (ag _ hd),qt⟩
   have:=h1 _ _ hv (G.edge hv hc U2);have:=hL _ (Q1r G.wf hv hc);lia
 refine .inr (.inl ⟨L,rfl,?_,up⟩);obtain⟨v,hv,e⟩:=hm;rcases cL L with z |z
 ·exact fin 0 G.wf.pos (by have:=hL 0 G.wf.pos;lia) U0
 ·obtain⟨u,hu,gr,_⟩:=h2 v hv (?H);exact fin v hv e ((G.mem u v hu).mp gr).2
theorem Gr.inf {S:Nat->Prop}(h:∀v,S v->v<?L/\∃u,S u/\v∈on.getD u [])(hS:∃v,S v):Inf m:=by
 have key:∀(N v:Nat),S v->∃u w,u<?L/\B9 w/\w.length=N/\run (B1 m.2) u w=v:=by
  intro N
  induction N with
  |zero=>intro v hv;exact⟨v,[],(h v hv).1,B9.nil,rfl,rfl⟩
  |succ N ih=>
   intro v hv;obtain⟨_,u,hu,gr⟩:=h v hv;obtain⟨⟨c,hc,ec⟩,_⟩:=(G.mem u v (h u hu).1).mp gr;obtain⟨x,w,x1,x2,x3,x4⟩:=ih u hu;exact⟨x,w++[c],x1,x2.snoc hc,by rw[ao,x3];rfl,by rw[Q4s,x4];exact ec⟩
 intro N;obtain⟨v,hv⟩:=hS;obtain⟨u,w,u1,w1,w2,w3⟩:=key N v hv;obtain⟨_,u',oE,gr⟩:=h v hv;obtain⟨_,x,hx,qt⟩:=(G.mem u' v (h u' oE).1).mp gr;obtain⟨y,hy,lQ⟩:=G.reach u u1;refine⟨y++w++x,⟨(hy.app w1).app hx,?_⟩,by rw[ao,ao];lia⟩;unfold G0 E6;rw[Q4s,Q4s];unfold E6 at lQ;rw[lQ,w3];exact qt
end
def inc (on:O (?N))(P:?N)(v:Nat):Nat:=(((List.range on.length).filter fun u=>decide (u∉P)).map fun u=>(on.getD u []).count v).sum
theorem Y9n {f:Nat->Nat}{s:Nat}:∀{l:?N},l.Nodup->s∈l->(l.map f).sum=((l.filter fun u=>decide (u≠s)).map f).sum+f s
 |[],_,h=>by cases h
 |x::l,nd,h=>by
  obtain⟨n1,n2⟩:=bg.mp nd;rw[av,cx,cJ]
  by_cases e:x=s
  ·subst e;rw[aI ?E];have:l.filter (fun u=>decide (u≠x))=l:=ue.mpr fun u hu=>bO fun z=>n1 (z▸hu);rw[this];lia
  ·rw[aO (by simpa using e),av,cx,Y9n n2 ((ar.mp h).resolve_left fun z=>e z.symm)];lia
def W7q {P:?N}{s:Nat}(hs:s<on.length)(hP:s∉P)(v:Nat):inc on P v=inc on (s::P) v+(on.getD s []).count v:=by
 unfold inc;rw[Y9n (s:=s) ((ja.sublist gE)) (br.mpr ⟨aL.mpr hs,bO hP⟩),List.filter_filter];congr 3;refine List.filter_congr fun u _=>?_
 by_cases h1:u=s<;>by_cases h2:u∈P<;>simp[h1,h2]
def W7r {P:?N}{v:Nat}(h:0<inc on P v):∃u,u<on.length/\u∉P/\v∈on.getD u []:=by
 unfold inc at h;obtain⟨x,hx,h⟩:=V8g.mp h;obtain⟨u,hu,rfl⟩:=aq.mp hx;obtain⟨h1,h2⟩:=br.mp hu;exact⟨u,aL.mp h1,fu h2,List.count_pos_iff.mp h⟩
structure Kh (on:O (?N))(a Ln:Nat->Nat)(W P:?N):Prop where
 cnt:∀v,v<on.length->a v=inc on P v
 nd:(W++P).Nodup
 lt:∀v∈W++P,v<on.length
 zero:∀v,v<on.length->(a v=0 ↔ v∈W++P)
 ge:∀u v,u∈P->v∈on.getD u []->Ln u+1<=Ln v
 eq:∀v,0<Ln v->∃u∈P,v∈on.getD u []/\Ln v=Ln u+1
structure Ki (on:O (?N))(s:Nat)(a Ln:Nat->Nat)(W P rest:?N):Prop where
 cnt:∀v,v<on.length->a v=inc on (s::P) v+rest.count v
 nd:(W++s::P).Nodup
 lt:∀v∈W++s::P,v<on.length
 zero:∀v,v<on.length->(a v=0 ↔ v∈W++s::P)
 ge:∀u v,u∈P->v∈on.getD u []->Ln u+1<=Ln v
 ges:∀v,v∈on.getD s []->v∈rest\/Ln s+1<=Ln v
 eq:∀v,0<Ln v->∃u∈s::P,v∈on.getD u []/\Ln v=Ln u+1
 sub:∀v∈rest,v∈on.getD s []
 ins:∀v,v∈on.getD s []->v<on.length
def Kh.pop {a:Nat->Nat}{P:?N}{s:Nat}(K:Kh on a Ln (W++[s]) P)(gr:∀v,v∈on.getD s []->v<on.length):Ki on s a Ln W P (on.getD s []):=by
 have hs:s<on.length:=K.lt s ?E;have e:W++[s]++P=W++s::P:=by simp
 have nd:=K.nd;rw[e]at nd;have hP:s∉P:=(bg.mp (bc.mp nd).2.1).1;refine⟨fun v hv=>by rw[K.cnt v hv,W7q hs hP],nd,fun v hv=>K.lt v (by rw[e];exact hv),fun v hv=>by rw[K.zero v hv,e],K.ge,fun v hv=>.inl hv,fun v h=>?_,fun v h=>h,gr⟩;obtain⟨u,hu,q⟩:=K.eq v h;exact⟨u,ag _ hu,q⟩
def Ki.done {a:Nat->Nat}{P:?N}{s:Nat}(K:Ki on s a Ln W P []):Kh on a Ln W (s::P):=by
 refine⟨fun v hv=>by rw[K.cnt v hv];rfl,K.nd,K.lt,K.zero,fun u v hu hv=>?_,K.eq⟩;rcases ar.mp hu with rfl |hu
 ·exact(K.ges v hv).resolve_left ?E
 ·exact K.ge u v hu hv
theorem Ki.turn {a:Nat->Nat}{P rest:?N}{s g:Nat}(K:Ki on s a Ln W P (g::rest)):
  g<on.length/\0<a g/\g≠s/\Ki on s (fun i=>if i=g then a i-1 else a i) (fun i=>if i=g then max (Ln i) (Ln s+1)else Ln i) (if a g=1 then W++[g]else W) P rest:=by
 have hg:g<on.length:=K.ins g (K.sub g aj);have hc:=K.cnt g hg;rw[qO]at hc;have gL:0<a g:=?H
 have ji:g∉W++s::P:=fun h=>by have:=(K.zero g hg).mpr h;lia
 have jo:g≠s:=fun e=>ji (by rw[e];simp);have sN:g∉P:=fun h=>ji (by simp[h]);refine⟨hg,gL,jo,?_⟩;have jm:∀v,v∈(if a g=1 then W++[g]else W)++s::P ↔ v∈W++s::P\/(a g=1/\v=g):=fun v=>by
  split
  ·rename_i h;simp only[aN,ar,aV,bG];constructor
   ·rintro ((q |q) |q)
    ·exact .inl (.inl q)
    ·exact .inr ⟨h,q⟩
    ·exact .inl (.inr q)
   ·rintro ((q |q) |⟨_,q⟩)
    ·exact .inl (.inl q)
    ·exact .inr q
    ·exact .inl (.inr q)
  ·rename_i h;constructor
   ·exact .inl
   ·rintro (q |⟨q,_⟩)
    ·exact q
    ·exact absurd q h
 refine⟨fun v hv=>?_,?_,fun v hv=>?_,fun v hv=>?_,fun u v hu hv=>?_,fun v hv=>?_,fun v h=>?_,fun v hv=>K.sub v (ag _ hv),K.ins⟩
 ·show(if v=g then a v-1 else a v)=_
  by_cases e:v=g
  ·subst e;rw[aO rfl];lia
  ·rw[aI e,K.cnt v hv,pP (fun z=>e z.symm)]
 ·split
  ·rw[bW];have nd:=bc.mp K.nd;rw[bc];refine⟨nd.1,?_,fun x hx y hy=>?_⟩
   ·rw[List.singleton_append,bg];exact⟨fun h=>ji (aN.mpr (.inr h)),nd.2.1⟩
   ·rcases aN.mp hy with hy |hy
    ·rw[aE.mp hy];rintro rfl;exact ji (aN.mpr (.inl hx))
    ·exact nd.2.2 x hx y hy
  ·exact K.nd
 ·rcases (jm v).mp hv with h |⟨_,rfl⟩
  ·exact K.lt v h
  ·exact hg
 ·rw[jm v];show(if v=g then a v-1 else a v)=0 ↔ _
  by_cases e:v=g
  ·subst e;rw[aO rfl];constructor
   ·intro h;exact .inr ⟨?H,rfl⟩
   ·rintro (h |⟨h,_⟩)
    ·exact absurd h ji
    ·lia
  ·rw[aI e,K.zero v hv];exact⟨.inl,fun h=>h.resolve_right fun q=>e q.2⟩
 ·show(if u=g then _ else Ln u)+1<=(if v=g then _ else Ln v);have xw:u≠g:=fun e=>sN (e▸hu);rw[aI xw];have:=K.ge u v hu hv;split<;>lia
 ·show _\/(if s=g then _ else Ln s)+1<=(if v=g then _ else Ln v);rw[aI (fun e=>jo e.symm)]
  by_cases e:v=g
  ·subst e;rw[aO rfl];exact .inr (cU _ _)
  ·rw[aI e];rcases K.ges v hv with h |h
   ·exact .inl ((ar.mp h).resolve_left e)
   ·exact .inr h
 ·have keep:∀u,u∈s::P->(if u=g then max (Ln u) (Ln s+1)else Ln u)=Ln u:=fun u hu=>aI fun e=>ji (by rw[<-e];exact aN.mpr (.inr hu));have h:0<(if v=g then max (Ln v) (Ln s+1)else Ln v):=h;show ∃u∈s::P,v∈on.getD u []/\(if v=g then max (Ln v) (Ln s+1)else Ln v)=(if u=g then _ else Ln u)+1
  by_cases e:v=g
  ·subst e;rw[aO rfl];rcases nY (Ln v) (Ln s+1)with q |q
   ·refine⟨s,aj,K.sub v aj,?_⟩;rw[keep s aj,j9 q]
   ·obtain⟨u,hu,h1,h2⟩:=K.eq v (?H);exact⟨u,hu,h1,by rw[keep u hu,jN q];exact h2⟩
  ·rw[aI e]at h ⊢;obtain⟨u,hu,h1,h2⟩:=K.eq v h;exact⟨u,hu,h1,by rw[keep u hu];exact h2⟩
def Kh.last (G:Gr m on){a:Nat->Nat}{P:?N}  (K:Kh on a Ln [] P)(h0:∀v,v<on.length->a v=0)(hm:∃v,v<on.length/\Ln v=L)(hL:∀v,v<on.length->Ln v<=L)(ha:∃w,O7 m w):Q2e m (.int (L:Int)):=by
 have all:∀v,v<on.length->v∈P:=fun v hv=>by simpa using (K.zero v hv).mp (h0 v hv)
 rw[G.len]at hm;refine G.last (fun u v hu hv=>K.ge u v (all u (by rw[G.len];exact hu)) hv) (fun v hv h=>?_) hm (fun v hv=>hL v (by rw[G.len];exact hv)) ha;obtain⟨u,hu,q⟩:=K.eq v h;exact⟨u,by rw[<-G.len];exact K.lt u (by simpa using hu),q⟩
theorem Kh.inf (G:Gr m on){a:Nat->Nat}{P:?N}(K:Kh on a Ln [] P)(h0:∃v,v<on.length/\a v≠0):Inf m:=by
 refine G.inf (S:=fun v=>v<on.length/\a v≠0) (fun v ⟨hv,h⟩=>⟨by rw[<-G.len];exact hv,?_⟩) h0;rw[K.cnt v hv]at h;obtain⟨u,u1,u2,u3⟩:=W7r (?H:0<inc on P v);exact⟨u,⟨u1,fun z=>u2 (by simpa using (K.zero u u1).mp z)⟩,u3⟩
def Kh.start (on:O (?N)):Kh on (inc on []) (fun _=>0) ((List.range on.length).filter fun v=>decide (inc on [] v=0)) []:=by
 refine⟨fun v _=>rfl,?_,fun v hv=>?_,fun v hv=>?_,fun u v hu=>(by cases hu),fun v h=>absurd h (aS 0)⟩
 ·rw[b8];exact(ja.sublist gE)
 ·rw[b8]at hv;exact aL.mp (br.mp hv).1
 ·rw[b8,br,aL,decide_eq_true_iff];exact⟨fun h=>⟨hv,h⟩,fun h=>h.2⟩
def F5 (m:C9):C9:=Q2x (List.range ?L) (B1 m.2) 0 (fun s=>m.1.getD s false)
section
variable (wf:C5 m)
include wf
theorem Q9h:∀k∈List.range ?L,∀c∈B5,B1 m.2 k c∈List.range ?L:=by grind [Q1r]
def Q9p:0∈List.range ?L:=aL.mpr wf.pos
def Z6t:Q2h (B1 m.2) 0 (List.range ?L) (V6 (List.range ?L).length (B1 m.2) 0).1 (V6 (List.range ?L).length (B1 m.2) 0).2:=Q5t (Q9h wf) (Q9p wf) (ak _)
def Z6u:C5 (F5 m):=(Z6t wf).wf _
def Y7j {w:?N}(hw:B9 w):G0 (F5 m) w=G0 m w:=Y2f (Q9h wf) (Q9p wf) hw
def Y7k:(F5 m).1.length<=?L:=by
 have:=(Z6t wf).le;rw[b9]at this;show(List.map _ _).length<=_;rw[ai];rw[b9];exact this
theorem V5w (s:Nat)(hs:s<(F5 m).1.length):∃w,B9 w/\E6 (F5 m) w=s:=by
 have el:(F5 m).1.length=(V6 (List.range ?L).length (B1 m.2) 0).1.length:=by simp[F5,Q2x]
 have met:P5 [0] (F5 m).2=List.range (F5 m).1.length:=by rw[el];exact V0d (α:=Nat) (step:=B1 m.2) (start:=0) (N:=(List.range ?L).length)
 have seen:∀s,s<(F5 m).2.length->s<(P5 [0] ((F5 m).2.take s)).length:=Y8r (step:=B1 m.2) (List.range ?L).length [0] [] rfl fun s hs=>absurd hs (jM _);have lF:=Z6u wf
 induction s using Nat.strongRecOn with
 |_ s ih=>
  have hk:∃k,P5 [0] ((F5 m).2.take s)=List.range k:=by
   have p:P5 [0] ((F5 m).2.take s) <+: P5 [0] (F5 m).2:=by
    conv=>rhs;rw[<-pM s (F5 m).2]
    rw[Y5u];exact Y5v _ _
   rw[met]at p;obtain⟨t,ht⟩:=p;refine⟨(P5 [0] ((F5 m).2.take s)).length,?_⟩;have e:=congrArg (List.take (P5 [0] ((F5 m).2.take s)).length) ht;rw[List.take_left,List.take_range]at e;have hl:=congrArg List.length ht;rw[ao,b9]at hl;rw[Nat.min_eq_left (?H)]at e;exact e
  obtain⟨k,hk⟩:=hk;have h:=seen s (by rw[lF.len];exact hs);rw[hk,b9]at h;have hm:s∈P5 [0] ((F5 m).2.take s):=by rw[hk];exact aL.mpr h
  rcases Y5r _ _ hm with h0 |⟨r,hr,hx⟩
  ·rw[aE.mp h0];exact⟨[],B9.nil,rfl⟩
  ·obtain⟨i,hi,e⟩:=bv.mp hr;rw[cW]at hi;have oR:i<s:=?H
   have uO:i<(F5 m).1.length:=?H
   rw[List.getElem_take]at e;have l3:=lF.rowEq uO;have lf:i<(F5 m).2.length:=?H
   rw[ac lf,e]at l3;rw[aC l3]at hx;obtain⟨c,hc,y8⟩:=aq.mp hx;obtain⟨w,hw,xr⟩:=ih i oR uO;exact⟨w++[c],hw.snoc hc,by rw[Q5q,xr,y8]⟩
end
def Q2s (m:C9)(g:Nat):Bool:=(K1 (K3 (F6 m.2) (G5 m.1 true)) g).isSome
def K5 (m:C9):O (?N):=(F5 m).2.map fun r=>r.filter (Q2s (F5 m))
def W0h (wf:C5 m){g:Nat}(hg:g<?L):Q2s m g=true ↔ Use m g:=by
 obtain⟨h1,h2⟩:=Z4l wf true;unfold Q2s;constructor
 ·intro h;obtain⟨d,e⟩:=mh.mp h;obtain⟨w,hw,_,ha⟩:=h1 g d hg e;exact⟨w,hw,ha⟩
 ·rintro ⟨w,hw,ha⟩;obtain⟨d,e,_⟩:=h2 w g hw hg ha;rw[e];rfl
def V1q (wf:C5 m):Gr (F5 m) (K5 m):=by
 have w2:=Z6u wf;refine⟨w2,by rw[K5,ai];exact w2.len,fun u v hu=>?_,V5w wf⟩;have e:(K5 m).getD u []=(B5.map (B1 (F5 m).2 u)).filter (Q2s (F5 m)):=by
  rw[K5,ax,ah,w2.rowEq hu];rfl
 rw[e,br,aq];constructor
 ·rintro ⟨⟨c,hc,rfl⟩,h⟩;exact⟨⟨c,hc,rfl⟩,(W0h w2 (Q1r w2 hu hc)).mp h⟩
 ·rintro ⟨⟨c,hc,rfl⟩,h⟩;exact⟨⟨c,hc,rfl⟩,(W0h w2 (Q1r w2 hu hc)).mpr h⟩
def Z0l (m:C9):Am Str:=Q4e ?L (B1 m.2) 0 fun s=>m.1.getD s false
def sp_least_text:J4:=fun rs Pr=>∃m:C9,rs=[.st (mD m)]/\C5 m/\?L<=20000/\Pr (.st (sD (Z0l m)))
def V0l:X9 sp_least_text:=by rintro rs P Q f ⟨m,e,h1,h2,h3⟩;exact⟨m,e,h1,h2,f _ h3⟩
def Y4v (wf:C5 m){k:Nat}(hk:k<?L)(hc:c∈B5)  (hb:wb=(A3 A8 (A3 A8 (wV 2) (wV 0)) (wV 1))):R4 wb [.dat (rsD m.2)] [.st (iD k),.st (iD c)] (.st (iD (B1 m.2 k c))):=by
 subst hb;refine⟨[iD k,iD c],iD (B1 m.2 k c),rfl,rfl,?_⟩;obtain⟨r,hr,_,qi⟩:=Wf.row wf hk;simp only[C8,B0];sleep 2;refine M6 (i:=k) (d:=.tup (r.map iD)) (by rw[ah,hr];rfl) ?_;refine⟨_,rfl,M6 (i:=c) (d:=iD (B1 m.2 k c)) (by rw[ah,(qi c (Q2i hc)).1];rfl) rfl⟩
theorem V5f:∀rs Pr,rs.length=1->sp_least_text rs Pr->Z8y ef (Q7h ef) (O9 Pr) (E2 W4h rs):=by
 rintro rs Pr _ ⟨m,rfl,wf,hl,h⟩;unfold Z8y;simp only[D6,Q7b,B0,Q1v,Q1t,O0,Q1u,P9];refine⟨_,rfl,_,rfl,_,rfl,rfl,_,_,rfl,_,_,rfl,rfl,?_⟩;refine⟨rfl,[.dat (rsD m.2)],[.dat (.tup (m.1.map .bl))],⟨_,_,rfl,rfl,trivial,rfl⟩,⟨_,_,rfl,rfl,trivial,rfl⟩,fun f Φ g Ψ hF hG=>?_⟩;refine⟨_,⟨Nat,inferInstance,iD,ik,B1 m.2,0,fun s=>m.1.getD s false,List.range ?L,f,g,Φ,Ψ,_,_,fun _=>rfl,Q4g,rfl,hF,hG,Q9p wf,by rw[b9];lia,fun k hk c hc=>⟨Q9h wf k hk c hc,Y4v wf (aL.mp hk) hc rfl⟩,fun k hk=>?_,rfl⟩,?_⟩
 ·refine⟨[iD k],_,rfl,rfl,?_⟩;unfold Z9l;simp only[C8,B0];exact⟨_,rfl,_,rfl,M6 (i:=k) (Q6e (aL.mp hk)) rfl⟩
 ·rw[b9];exact h
abbrev onD (on:O (?N)):O D:=on.map fun gs=>.lst (gs.map iD)
def sp_onward_goals:J4:=fun rs Pr=>∃m:C9,rs=[.st (mD m)]/\C5 m/\?L<=20000/\Pr (.nw (onD (K5 m)))
def V0m:X9 sp_onward_goals:=by rintro rs P Q f ⟨m,e,h1,h2,h3⟩;exact⟨m,e,h1,h2,f _ h3⟩
def W6h {g:Nat}(hg:g<?L):(Q0y m.1 m.2 true)[g]?=some (K1 (K3 (F6 m.2) (G5 m.1 true)) g):=by
 unfold Q0y;rw[ah,bJ hg];rfl
theorem V5k:∀rs Pr,rs.length=1->sp_onward_goals rs Pr->Z8z ef (sp_walkedK ef) sp_distances (O9 Pr) (E2 Z3j rs):=by
 rintro rs Pr _ ⟨m,rfl,wf,hl,h⟩;have W:=Z6t wf;have w2:=Z6u wf;have ij:=Y7k wf;have el:(V6 (List.range ?L).length (B1 m.2) 0).1.length=(F5 m).1.length:=by simp[F5,Q2x]
 unfold Z8z;simp only[D6,Q7b,B0,Q1v,Q1t,O0,Q1u,P9,Y7v,D5,G1,Q0o,C7,C6,Y7,Q9c];refine⟨_,rfl,_,rfl,_,rfl,rfl,_,_,rfl,_,_,rfl,rfl,?_⟩;refine⟨rfl,[.dat (rsD m.2)],⟨_,_,rfl,rfl,trivial,rfl⟩,fun f Φ hF=>?_⟩;refine⟨_,⟨Nat,inferInstance,iD,ik,B1 m.2,0,List.range ?L,f,Φ,_,fun _=>rfl,Q4g,rfl,hF,Q9p wf,by rw[b9];lia,fun k hk c hc=>⟨Q9h wf k hk c hc,Y4v wf (aL.mp hk) hc rfl⟩,rfl⟩,?_⟩;refine⟨_,rfl,_,rfl,rfl,_,_,rfl,_,_,rfl,rfl,?_⟩;refine⟨_,rfl,_,rfl,sz (by rw[ai,el];lia),?_⟩;refine Q0f (f:=fun d=>match d with |.int i=>.bl (m.1.getD i.toNat false) |d=>d) _ none _ (fun d hd Q' q=>?_) ?_
 ·obtain⟨x,hx,rfl⟩:=aq.mp hd;simp only[F4,C8,B0];refine⟨_,rfl,_,rfl,M6 (i:=x) (Q6e (aL.mp (W.sub x hx))) ?_⟩;exact q
 refine⟨_,rfl,rfl,.bw (((F5 m).1).map .bl),(F5 m).1,(F5 m).2,true,_,?_,.inl rfl,.inl rfl,w2,?H,?_⟩
 ·have e:((V6 (List.range ?L).length (B1 m.2) 0).1.map fun a=>iD a).map (fun d=>match d with |.int i=>D.bl (m.1.getD i.toNat false) |d=>d)=(F5 m).1.map .bl:=by
   unfold F5 Q2x;rw[aF,aF];exact aT fun x _=>by simp
  rw[e];rfl
 show V1 (.nw _) _;rw[X4];simp only[Q4t,B0];have cp:(F5 m).2.length=(F5 m).1.length:=w2.len;refine⟨_,rfl,_,rfl,sz (by rw[ai];show(F5 m).2.length<=_;lia),?_⟩;refine Q0f (f:=fun d=>match d with |.tup ds=>.lst (ds.filter fun d=>match d with |.int i=>Q2s (F5 m) i.toNat |_=>false) |d=>d) _ none _ (fun d hd Q' q=>?_) ?_
 ·obtain⟨r,hr,rfl⟩:=aq.mp hd;have hr:r∈(F5 m).2:=hr;simp only[F4,Y7,Q4t,B0];refine⟨_,rfl,_,rfl,sz (by rw[ai];have:=w2.r4 r hr;lia),?_⟩;refine Z4j (p:=fun d=>match d with |.int i=>Q2s (F5 m) i.toNat |_=>false) (f:=fun d=>d) _ none _ (fun d hd Q' q=>?_) (fun d hd Q' _ q=>?_) ?_
  ·obtain⟨x,hx,rfl⟩:=aq.mp hd;have xo:=w2.lt r hr x hx;simp only[C8,B0,D5];sleep 2;refine⟨oD (K1 (K3 (F6 (F5 m).2) (G5 (F5 m).1 true)) x),R1 (by rw[ah,W6h xo];rfl),?_⟩;refine⟨_,rfl,rfl,?_⟩;have q:Q' (Q2s (F5 m) x):=by simpa using q
   unfold Q2s at q;cases e:K1 (K3 (F6 (F5 m).2) (G5 (F5 m).1 true)) x with
   |none=>rw[e]at q;exact q
   |some d=>rw[e]at q;exact q
  ·simp only[F4,B0];exact⟨_,rfl,q⟩
  ·rw[List.map_id'];exact q
 ·have e:((F5 m).2.map rD).map (fun d=>match d with |.tup ds=>D.lst (ds.filter fun d=>match d with |.int i=>Q2s (F5 m) i.toNat |_=>false) |d=>d)=onD (K5 m):=by
   unfold K5 onD;rw[aF,aF];refine aT fun r _=>?_;show D.lst ((r.map iD).filter _)=D.lst ((r.filter _).map iD);rw[List.filter_map];congr 2
  have h':Pr (.nw (((F5 m).2.map rD).map (fun d=>match d with |.tup ds=>D.lst (ds.filter fun d=>match d with |.int i=>Q2s (F5 m) i.toNat |_=>false) |d=>d))):=by rw[e];exact h
  exact h'
def G9 (n:Nat)(f:Nat->Nat):O D:=(List.range n).map fun i=>iD (f i)
def W6t (n:Nat)(f:Nat->Nat):(G9 n f).length=n:=by simp[G9]
def Z4p {g:Nat}(h:g<n)(f:Nat->Nat):(G9 n f)[g]?=some (iD (f g)):=by
 unfold G9;rw[ah,bJ h];rfl
def Z4q {g:Nat}(f:Nat->Nat)(x:Nat):(G9 n f).set g (iD x)=G9 n (fun i=>if i=g then x else f i):=by
 unfold G9;apply dJ;intro i;rw[fx,ai,b9,ah,ah]
 by_cases e:g=i
 ·subst e;rw[aO rfl]
  by_cases h:g<n
  ·rw[aO h,bJ h];simp
  ·rw[aI h,az.mpr (by simpa using h)];rfl
 ·rw[aI e]
  by_cases h:i<n
  ·rw[bJ h];show some (iD (f i))=some (iD (if i=g then x else f i));rw[aI (fun z=>e z.symm)]
  ·rw[az.mpr (by simpa using h)];rfl
theorem eqI {a b:Nat}  {Q:Bool->Prop}(q:Q (decide (a=b))):T5 n false (.st (iD a)) (.st (.int (b:Int))) Q:=by
 refine⟨_,_,rfl,rfl,bj _,?_⟩;show Q (D.eq (.int (a:Int)) (.int (b:Int)));have:D.eq (.int (a:Int)) (.int (b:Int))=decide (a=b):=by
  simp only[D.eq]
  by_cases h:a=b
  ·simp[h]
  ·have:(a:Int)≠(b:Int):=?H
   simp[h,this]
 rw[this];exact q
def wbA:WS:=(Q7r 2 (fun i j=>i+j) (wV 4) ?X)
theorem forA {E:F9}:∀(gs:?N) (a:Nat->Nat) (o4:Am Sl),(∀g∈gs,g<n)->(∀o4,E.nx [o0,o1,some (.own (G9 n fun v=>a v+gs.count v)),o3,o4,o5,o6,o7]) ->
  E4 (B6 4) wbA E (gs.map iD) [o0,o1,some (.own (G9 n a)),o3,o4,o5,o6,o7]
 |[],a,o4,_,h=>by have:=h o4;simp only[List.count_nil,iU]at this;exact this
 |g::gs,a,o4,hg,h=>by
  have xZ:=hg g aj;rw[av,E4];simp only[wbA,O0,Y7t,B0,D5];refine⟨_,rfl,_,rfl,g,(a g:Int),rfl,Z4p xZ a,_,rfl,?_⟩;have e:(G9 n a).set g (.int ((a g:Int)+1))=G9 n (fun i=>if i=g then a g+1 else a i):=by
   rw[<-Z4q];congr 1
  show E4 _ _ _ _ [_,_,some (.own ((G9 n a).set g (.int ((a g:Int)+1)))),_,_,_,_,_];rw[e];refine forA gs _ _ (fun x hx=>hg x (ag _ hx)) fun o4=>?_;have e2:(fun v=>(if v=g then a g+1 else a v)+gs.count v)=fun v=>a v+(g::gs).count v:=by
   funext v
   by_cases z:v=g
   ·subst z;rw[aO rfl,qO];lia
   ·rw[aI z,pP (fun q=>z q.symm)]
  rw[e2];exact h o4
def wbB:WS:=(Q8 (Q5h (B4 (wV 3))) (B6 4) wbA)
theorem Y3q {E:F9}:∀(on:O (?N)) (a:Nat->Nat) (o3 o4:Am Sl),(∀gs∈on,∀g∈gs,g<n)->(∀o3 o4,E.nx [o0,o1,some (.own (G9 n fun v=>a v+(on.map fun gs=>gs.count v).sum)),o3,o4,o5,o6,o7]) ->
  E4 (B6 3) wbB E (onD on) [o0,o1,some (.own (G9 n a)),o3,o4,o5,o6,o7]
 |[],a,o3,o4,_,h=>by have:=h o3 o4;simp only[cO,List.sum_nil,iU]at this;exact this
 |gs::on,a,o3,o4,hg,h=>by
  rw[onD,av,E4];simp only[wbB,O0,Y8,Z6x,F4,B0];sleep 2;refine forA gs a _ (hg gs aj) fun o4=>?_;refine Y3q on _ _ _ (fun g qp=>hg g (ag _ qp)) fun o3 o4=>?_;have e2:(fun v=>a v+gs.count v+(on.map fun gs=>gs.count v).sum)=fun v=>a v+((gs::on).map fun gs=>gs.count v).sum:=by
   funext v;rw[av,cx];lia
  rw[e2];exact h o3 o4
theorem W7p (on:O (?N))(v:Nat):inc on [] v=(on.map fun gs=>gs.count v).sum:=by
 unfold inc;rw[ue.mpr (fun _ _=>by simp)];congr 1;apply dJ;intro i;rw[ah,ah]
 by_cases h:i<on.length
 ·rw[bJ h,ac h];simp[ax,ac h]
 ·rw[az.mpr (by simpa using h),az.mpr (?H)];rfl
def wbI:WS:=(A6 (Z2q 5 (wV 4) (B4 (D8 Q8s (A1 (A3 A8 (wV 5) (wV 4)) (A1 (A3 G2 (A3 A8 (wV 5) (wV 7)) ?X) A4))))) (A6 (Q7r 2 (fun i j=>i-j) (wV 4) ?X) (N7 (A3 (T5 60 false) (A3 A8 (wV 2) (wV 4)) ?A5) (M8 6 (B4 (wV 4))) M9)))
def Z4r {g:Nat}(h:g<n){f:Nat->Nat}{Q:R->Prop}(q:Q (.st (iD (f g)))):A8 (.bw (G9 n f)) (.st (.int (g:Int))) Q:=by
 rw[Q1c];exact⟨_,R1 (Z4p h f),q⟩
theorem Z4t {s:Nat}{P:?N}{E:F9}  (hl:on.length<=20000)(hs:s<on.length):∀(rest:?N) (a Ln:Nat->Nat) (W:?N) (o4:Am Sl),Ki on s a Ln W P rest ->
  (∀a Ln W o4,Ki on s a Ln W P []->E.nx [o0,o1,some (.own (G9 on.length a)),o3,o4,some (.own (G9 on.length Ln)),some (.own (W.map iD)),some (.dat (iD s))]) ->
  E4 (B6 4) wbI E (rest.map iD) [o0,o1,some (.own (G9 on.length a)),o3,o4,some (.own (G9 on.length Ln)),some (.own (W.map iD)),some (.dat (iD s))]
 |[],a,Ln,W,o4,K,h=>h a Ln W o4 K
 |g::rest,a,Ln,W,o4,K,h=>by
  obtain⟨hg,gL,jo,K2⟩:=K.turn;have hW:W.length<=20000:=by
   have:=(bc.mp K.nd).1.length_le_of_subset (l₂:=List.range on.length) fun x hx=>aL.mpr (K.lt x (aN.mpr (.inl hx)));rw[b9]at this;lia
  rw[av,E4];simp only[wbI,O0,D6,V7g,F4,K9,C7,C8,B0,D5,C6,Y7t,Y9,Q1s,Z0];refine⟨_,rfl,_,rfl,Z4r hg ?_⟩;refine⟨_,rfl,_,rfl,Z4r hs ?_⟩;rw[Y6];rw[V7a];have em:(if (Ln s:Int)+1 > (Ln g:Int)then(Ln s:Int)+1 else(Ln g:Int))=((max (Ln g) (Ln s+1):Nat):Int):=by
   by_cases z:(Ln s:Int)+1 > (Ln g:Int)
   ·rw[aO z,j9 (?H)];lia
   ·rw[aI z,jN (?H)]
  refine⟨_,rfl,_,rfl,_,rfl,_,g,rfl,ixn (by rw[W6t];exact hg),?_⟩;have e1:(G9 on.length Ln).set g (.int (if (Ln s:Int)+1 > (Ln g:Int)then(Ln s:Int)+1 else(Ln g:Int)))=G9 on.length (fun i=>if i=g then max (Ln i) (Ln s+1)else Ln i):=by
   rw[em,show D.int ((max (Ln g) (Ln s+1):Nat):Int)=iD (max (Ln g) (Ln s+1))from rfl,Z4q];congr 1;funext i;by_cases z:i=g
   ·subst z;rfl
   ·rw[aI z,aI z]
  refine⟨_,rfl,_,rfl,g,(a g:Int),rfl,Z4p hg a,_,rfl,?_⟩;have e2:(G9 on.length a).set g (.int ((a g:Int)-1))=G9 on.length (fun i=>if i=g then a i-1 else a i):=by
   rw[show D.int ((a g:Int)-1)=iD (a g-1)by show D.int _=D.int _;congr 1;lia,Z4q];congr 1;funext i;by_cases z:i=g
   ·subst z;rfl
   ·rw[aI z,aI z]
  sleep 2;show A8 (.bw ((G9 on.length a).set g (.int ((a g:Int)-1)))) (.st (.int (g:Int))) _;rw[e2,e1];refine Z4r hg (eqI (b:=0) ?_);rw[aO (show g=g from rfl)]
  by_cases h1:a g=1
  ·rw[aO (by simp[h1])];rw[aO h1]at K2;refine⟨_,rfl,_,rfl,_,rfl,S5 (by rw[ai];lia),?_⟩;have:=Z4t hl hs rest _ _ _ (some (.dat (iD g))) K2 h;rw[aX]at this;exact this
  ·rw[aI ?U];rw[aI h1]at K2;exact Z4t hl hs rest _ _ _ (some (.dat (iD g))) K2 h
def Z2w:WT:=Q3m (wV 6)
def Z9n:WS:=(A6 (Z8q 6 (B6 7)) (Q8 (Q5h (B4 (A3 A8 (wV 1) (wV 7)))) (B6 4) wbI))
def Y6r (G:Gr m on){s:Nat}(hs:s<on.length):∀v,v∈on.getD s []->v<on.length:=fun v hv=>by rw[G.len]at hs ⊢;exact G.lt hs hv
theorem J0f (G:Gr m on){E:F9}  (hl:on.length<=20000):∀(k:Nat) (a Ln:Nat->Nat) (W P:?N) (o4 o7:Am Sl),Kh on a Ln W P->on.length<=k+P.length ->
  (∀a Ln P o4 o7,Kh on a Ln [] P->E.nx [o0,some (.dat (.lst (onD on))),some (.own (G9 on.length a)),o3,o4,some (.own (G9 on.length Ln)),some (.own []),o7]) ->
  G6 Z2w Z9n (k+1) E [o0,some (.dat (.lst (onD on))),some (.own (G9 on.length a)),o3,o4,some (.own (G9 on.length Ln)),some (.own (W.map iD)),o7]:=by
 intro k
 induction k with
 |zero=>
  intro a Ln W P o4 o7 K hk h;have hb:=K.nd.length_le_of_subset (l₂:=List.range on.length) fun x hx=>aL.mpr (K.lt x hx);rw[ao,b9]at hb;have hW:W=[]:=cj.mp (?H);subst hW;rw[G6];simp only[Z2w,Q7e,B0];k_ne;exact h a Ln P o4 o7 K
 |succ k ih=>
  intro a Ln W P o4 o7 K hk h;rw[G6];simp only[Z2w,Q7e,B0];k_ne;show(if (!(W.map iD).isEmpty)=true then(_:Prop)else(_:Prop));rcases pN W with rfl |⟨V,s,rfl⟩
  ·rw[aI (?G)];exact h a Ln P o4 o7 K
  ·rw[pQ]at K ⊢;rw[aO ?E];have hs:s<on.length:=K.lt s ?E;simp only[Z9n,D6,V7d,O0,Y8,Z6x,F4,C8,B0];refine⟨V.map iD,iD s,by rw[aX];rfl,_,rfl,_,rfl,?_⟩;show A8 (.st (.lst (onD on))) (.st (.int (s:Int))) _;rw[Q8x];refine⟨.lst ((on.getD s []).map iD),R1 (by rw[onD,ah,ac hs,ax,ac hs];rfl),_,rfl,?_⟩;refine Z4t (P:=P) hl hs (on.getD s []) a Ln V _ (K.pop (Y6r G hs)) fun a Ln W o4 K=>?_;exact ih a Ln W (s::P) o4 _ K.done (by rw[aK];lia) h
def Q7i:J4:=fun rs Pr=>∃m:C9,rs=[.st (mD m)]/\C5 m/\?L<=20000/\∀d,Q2e m d->Pr (.st d)
def V0j:X9 Q7i:=by rintro rs P Q f ⟨m,e,h1,h2,h3⟩;exact⟨m,e,h1,h2,fun d hd=>f _ (h3 d hd)⟩
def Q8b (wf:C5 m){w:?N}:O7 (F5 m) w ↔ O7 m w:=⟨fun h=>⟨h.1,by rw[<-Y7j wf h.1];exact h.2⟩,fun h=>⟨h.1,by rw[Y7j wf h.1];exact h.2⟩⟩
def Y4w (wf:C5 m){d:D}(h:Q2e (F5 m) d):Q2e m d:=by
 rcases h with⟨e,h⟩ |⟨L,e,⟨w,hw,hl⟩,h⟩ |⟨e,h⟩
 ·exact .inl ⟨e,fun w hw=>h w ((Q8b wf).mpr hw)⟩
 ·exact .inr (.inl ⟨L,e,⟨w,(Q8b wf).mp hw,hl⟩,fun u hu=>h u ((Q8b wf).mpr hu)⟩)
 ·exact .inr (.inr ⟨e,fun N=>let ⟨w,hw,hl⟩:=h N;⟨w,(Q8b wf).mp hw,hl⟩⟩)
def Y3n (wf:C5 m):Z0l m=none ↔ ∀w,¬ O7 m w:=by
 have S:=W6r (fin:=fun s=>m.1.getD s false) (Q9h wf) (Q9p wf);rw[b9]at S;constructor
 ·intro h w hw;have:=S.1 h w hw.1;have h2:=hw.2;unfold G0 E6 at h2;rw[h2]at this;cases this
 ·intro h;cases e:Z0l m with
  |none=>rfl
  |some t=>
   obtain⟨w,h1,_,h2⟩:=S.2 t e;exact absurd ⟨h1,h2⟩ (h w)
theorem rep0:∀n:Nat,(List.replicate n [D.int 0]).flatten=G9 n fun _=>0
 |0=>rfl
 |n+1=>by rw[List.replicate_succ',List.flatten_append,rep0 n];unfold G9;rw[dm,aX];rfl
def W5x (a:Nat->Nat)(n:Nat)(o1 o2:Am Sl){Q:O D->Prop}(q:Q (((List.range n).filter fun v=>decide (a v=0)).map iD)):
  M7 (P3 2 (F7 (B6 0) (F7 (B6 1) Q4))) (A3 (T5 60 false) (wV 1) ?A5) (B4 (wV 0)) (J9 (G9 n a)) [o1,o2] Q:=by
 have key:∀(l:?N) (o1 o2:Am Sl) (Q:O D->Prop),Q ((l.filter fun v=>decide (a v=0)).map iD)->M7 (P3 2 (F7 (B6 0) (F7 (B6 1) Q4))) (A3 (T5 60 false) (wV 1) ?A5) (B4 (wV 0)) (l.map fun i=>.tup [iD i,iD (a i)]) [o1,o2] Q:=by
  intro l
  induction l with
  |nil=>intro o1 o2 Q q;exact q
  |cons i l ih=>
   intro o1 o2 Q q;rw[av,M7];simp only[Q1v,Q1t,O0,Q1u,C8,B0,D5,F4];refine⟨_,rfl,rfl,_,_,rfl,_,_,rfl,rfl,_,rfl,eqI (b:=0) ?_⟩;rw[cJ]at q
   by_cases h:a i=0
   ·rw[aO (by simpa using h)];rw[aO (by simpa using h)]at q;exact⟨_,rfl,_,rfl,ih _ _ _ q⟩
   ·rw[aI (by simpa using h)];rw[aI (by simpa using h)]at q;exact ih _ _ _ q
 have e:J9 (G9 n a)=(List.range n).map fun i=>.tup [iD i,iD (a i)]:=by
  unfold J9 G9;apply dJ;intro i;rw[ah,qN,ah,ah]
  by_cases h:i<n
  ·rw[bJ h];simp
  ·rw[az.mpr (by simpa using h)];rfl
 rw[e];exact key _ o1 o2 Q q
theorem V5c:∀rs Pr,rs.length=1->Q7i rs Pr->W0t sp_least_text sp_onward_goals (O9 Pr) (E2 Z3f rs):=by
 rintro rs Pr _ ⟨m,rfl,wf,hl,h⟩;have G:=V1q wf;have ij:=Y7k wf;have lT:(K5 m).length<=20000:=by rw[G.len];lia
 unfold W0t;rw[D6,Y9];simp only[C8,Q0o,C7,B0,C6,D5];refine⟨_,rfl,rfl,m,rfl,wf,hl,?_⟩;refine⟨_,rfl,rfl,?_⟩;cases e:Z0l m with
 |none=>
  show(if true=true then(_:Prop)else(_:Prop));rw[aO rfl,P9,Q5o,D5];exact h _ (.inl ⟨rfl,(Y3n wf).mp e⟩)
 |some t=>
  have ha:∃w,O7 m w:=fh fun no=>by
   have:=(Y3n wf).mpr fun w hw=>no ⟨w,hw⟩;rw[e]at this;cases this
  show(if false=true then(_:Prop)else(_:Prop));rw[aI (?G),Z0];dsimp only;rw[D6,G1,Q0o];simp only[C7,B0,C6];refine⟨_,rfl,rfl,m,rfl,wf,hl,?_⟩;show V1 (.nw _) _;rw[X4];show A6 (C2 2 _) _ (O9 Pr) [some (.dat (mD m)),some (.own (onD (K5 m))),none,none,none,none,none,none];rw[D6,G1,C8,s_lst];simp only[C7,F4,D5,C6,K9,B0];refine⟨_,rfl,sz (?G),_,rfl,?_⟩;show F2 [.bw _] _;rw[Q0m,Y6n];have jV:(onD (K5 m)).length=(K5 m).length:=by simp[onD]
  have e0:(List.replicate (((onD (K5 m)).length:Int)).toNat [D.int 0]).flatten=G9 (K5 m).length fun _=>0:=by
   rw[jV,bL];exact rep0 _
  refine⟨?H,by rw[jV];lia,by rw[jV,bL];exact sz ?U,?_⟩;rw[e0,X4];show A6 (Q8 (iOwn 1) (B6 3) wbB) _ (O9 Pr) [some (.dat (mD m)),some (.own (onD (K5 m))),some (.own (G9 (K5 m).length fun _=>0)),none,none,none,none,none];rw[D6,Y8];k_ne;refine Y3q (K5 m) (fun _=>0) none none (fun gs jo g hg=>?_) fun o3 o4=>?_
  ·obtain⟨u,hu,eu⟩:=uc jo;exact Y6r G hu g (by rw[ax,ac hu,eu];exact hg)
  have ea:(fun v=>0+((K5 m).map fun gs=>gs.count v).sum)=inc (K5 m) []:=by funext v;rw[W7p,cG]
  rw[ea];dsimp only;rw[D6,G1,C8,s_lst];simp only[C7,F4,D5,C6,K9,B0];refine⟨_,rfl,sz (?G),_,rfl,?_⟩;show F2 [.st (.lst _)] _;rw[V1h,Y6n];refine⟨?H,by rw[jV];lia,by rw[jV,bL];exact sz ?U,?_⟩;rw[e0,X4];show A6 (C2 6 _) _ (O9 Pr) [some (.dat (mD m)),some (.dat (.lst (onD (K5 m)))),some (.own (G9 (K5 m).length (inc (K5 m) []))),o3,o4,some (.own (G9 (K5 m).length fun _=>0)),none,none];rw[D6,G1,Y7,Y8b];simp only[C7,B0,C6];refine⟨_,rfl,_,_,rfl,rfl,sz (by simp[G9,J9];lia),?_⟩;refine W5x (inc (K5 m) []) (K5 m).length none none ?_;show V1 (.nw _) _;rw[X4];show A6 (Q2a Z2w Z9n) _ (O9 Pr) [some (.dat (mD m)),some (.dat (.lst (onD (K5 m)))),some (.own (G9 (K5 m).length (inc (K5 m) []))),o3,o4,some (.own (G9 (K5 m).length fun _=>0)),some (.own (((List.range (K5 m).length).filter fun v=>decide (inc (K5 m) [] v=0)).map iD)),none];rw[D6];refine⟨(K5 m).length+1,J0f G lT _ _ _ _ [] _ _ (Kh.start (K5 m)) ?E fun a Ln P o4 o7 K=>?_⟩;dsimp only;rw[P9,Y8a];simp only[C8,K9,C7,B0,C6,D5];have pos:0<(K5 m).length:=by rw[G.len];exact G.wf.pos
  k_ne;refine⟨(List.range (K5 m).length).map fun i=>(a i:Int),by rw[aF];rfl,fun z=>by have:=congrArg List.length z;rw[ai,b9,bX]at this;lia,fun x hx sG=>?_⟩;obtain⟨i,hi,rfl⟩:=aq.mp hx;refine eqI (b:=0) ?_
  by_cases hz:a i=0
  ·rw[aO (by simp[hz])];k_ne;refine⟨(List.range (K5 m).length).map fun i=>(Ln i:Int),by rw[aF];rfl,fun z=>by have:=congrArg List.length z;rw[ai,b9,bX]at this;lia,fun y hy xL=>?_⟩;obtain⟨j,hj,rfl⟩:=aq.mp hy;refine h _ (Y4w wf (K.last G (fun v hv=>?_) ⟨j,aL.mp hj,rfl⟩ (fun v hv=>?_) (let ⟨w,hw⟩:=ha;⟨w,(Q8b wf).mpr hw⟩)))
   ·have:=sG (a v:Int) (aq.mpr ⟨v,aL.mpr hv,rfl⟩);lia
   ·have:=xL (Ln v:Int) (aq.mpr ⟨v,aL.mpr hv,rfl⟩);lia
  ·rw[aI (by simpa using hz)];exact h _ (Y4w wf (.inr (.inr ⟨rfl,K.inf G ⟨i,aL.mp hi,hz⟩⟩)))
theorem W5z (xs:O α)(k:Nat):Q0g xs none (some (k:Int))=xs.take k:=by
 unfold Q0g;rw[HT.sIx_none,HT.sIx_nat,kO,nV,List.take_eq_take_iff];lia
def Q4u:E3:=fun rs r=>∃m:C9,rs=[.st (mD m)]/\?L<=20000/\r=.nw ((N4 m 0).map iD)
theorem V5h:∀rs r,rs.length=1->Q4u rs r->W0y (S9 r) (E2 Y0v rs):=by
 rintro rs r _ ⟨m,rfl,hl,rfl⟩;unfold W0y;rw[P9,Y7,Q4t];simp only[C8,B0,D5];refine⟨_,rfl,M6 (i:=0) rfl ⟨_,rfl,sz (by rw[ai];lia),?_⟩⟩;refine Q0f (f:=fun d=>match d with |.bl true=>.int 1 |_=>.int 0) _ none _ (fun d hd Q' q=>?_) ?_
 ·obtain⟨b,_,rfl⟩:=aq.mp hd;rw[F4,Y8a,Q7e,B0];k_ne;cases b
  ·exact q
  ·exact q
 ·show R.nw _=R.nw _;congr 1;rw[N4,aF,aF];exact aT fun b _=>by cases b<;>rfl
def CtR (r:R)(cs:?N):Prop:=r=.bw (cs.map iD)\/r=.st (.lst (cs.map iD))
def Q1x:E3:=fun rs r=>∃(m:C9) (rc:R) (l:Nat),rs=[.st (mD m),rc]/\CtR rc (N4 m l)/\C5 m/\?L<=20000/\r=.nw ((N4 m (l+1)).map iD)
def Q8j (wf:C5 m){l:Nat}{rc:R}(h:CtR rc (N4 m l)){g:Nat}(hg:g<?L){Q:R->Prop}(q:Q (.st (iD (E9 m l g)))):A8 rc (.st (.int (g:Int))) Q:=by
 have e:((N4 m l).map iD)[g]?=some (iD (E9 m l g)):=by
  have qp:g<(N4 m l).length:=by rw[W5o wf];exact hg
  rw[ah,ac qp,E9,ax,ac qp];rfl
 rcases h with rfl |rfl
 ·rw[Q1c];exact⟨_,R1 e,q⟩
 ·rw[Q8x];exact⟨_,R1 e,q⟩
theorem sumI {f:Nat->Nat}:∀t:?N,(t.map fun g=>((f g:Nat):Int)).sum=(((t.map f).sum:Nat):Int):=by intro t;induction t<;>grind [av,cx]
theorem V5j:∀rs r,rs.length=2->Q1x rs r->W1a (S9 r) (E2 Z3i rs):=by
 rintro rs r _ ⟨m,rc,l,rfl,hc,wf,hl,rfl⟩;have zx:=wf.len;unfold W1a;rw[P9,Y7,Q4t];simp only[C8,B0,D5];refine⟨_,rfl,M6 (i:=1) rfl ⟨_,rfl,sz (by rw[ai];lia),?_⟩⟩;have eb:T1 1 [1] (E2 Z3i [.st (mD m),rc])=[none,some (M5 rc)]:=by rcases hc with rfl |rfl<;>rfl
 rw[eb];refine Q0f (f:=fun d=>match d with |.tup ds=>iD ((ds.map fun d=>match d with |.int i=>E9 m l i.toNat |_=>0).sum) |d=>d) (rest:=[some (M5 rc)]) _ none _ (fun d hd Q' q=>?_) ?_
 ·obtain⟨row,hr,rfl⟩:=aq.mp hd;rw[F4];simp only[K9,C7,C6,Y7,Q4t,B0];refine⟨_,rfl,_,rfl,sz (by rw[ai,wf.r4 row hr];decide),?_⟩;have yG:T1 1 [1] [some (.dat (rD row)),some (M5 rc)]=[none,some (M5 rc)]:=by rcases hc with rfl |rfl<;>rfl
  rw[yG];refine Q0f (f:=fun d=>match d with |.int i=>iD (E9 m l i.toNat) |d=>d) (rest:=[some (M5 rc)]) _ none _ (fun d hd Q' q=>?_) ?_
  ·obtain⟨g,hg,rfl⟩:=aq.mp hd;have oS:=wf.lt row hr g hg;simp only[F4,C8,B0];sleep 2;have er:S4 (M5 rc)=rc:=by rcases hc with rfl |rfl<;>rfl
   rw[er];exact Q8j wf hc oS (by simpa using q)
  ·show Q2r [.nw _] _;rw[Y8h];refine⟨row.map fun g=>((E9 m l g:Nat):Int),?_,?_⟩
   ·show some _=some _;congr 1;rw[aF,aF];exact aT fun g _=>by simp
   ·have e:=sumI (f:=E9 m l) row;rw[e];have q:Q' (.st (iD ((row.map fun g=>E9 m l g).sum))):=by
     simpa [rD,aF,fy]using q
    exact q
 ·show R.nw _=R.nw _;congr 1;rw[N4,aF,aF];exact aT fun row _=>by
   show iD (((row.map iD).map _).sum)=iD _;rw[aF];congr 1
theorem J0l {k:Nat}(h:∀w,O7 m w->w.length≠k):(wl k).filter (G0 m)=[]:=by
 rw[List.filter_eq_nil_iff];intro w hw ha;obtain⟨h1,h2⟩:=Q1m.mp hw;exact h w ⟨h1,ha⟩ h2
abbrev N5 (m:C9)(j:Nat):O D:=(List.range j).map fun l=>.lst ((N4 m l).map iD)
theorem Y9q (m:C9)(L:Nat):L9 (N5 m (L+1)) (-1)=some (.lst ((N4 m L).map iD)):=by
 unfold L9 ixN;rw[aI (?G)];have hl:(N5 m (L+1)).length=L+1:=by simp
 rw[hl,aO (?H)];show(N5 m (L+1))[((-1:Int)+((L+1:Nat):Int)).toNat]?=_;rw[show((-1:Int)+((L+1:Nat):Int)).toNat=L by lia,ah,bJ (cb L)];rfl
theorem Y3b (xs:O α):Q0g xs none (some (-1))=xs.dropLast:=by
 unfold Q0g;rw[HT.sIx_none,kO,nV,pO];congr 1;unfold HT.sIx;simp;lia
def Y9p (m:C9)(L:Nat):(N5 m (L+1)).dropLast=N5 m L:=by
 unfold N5;rw[dm,aX,List.map_singleton,List.dropLast_concat]
def D7 (m:C9)(j:Nat):O (?N):=(List.range j).flatMap fun l=>(wl l).filter (G0 m)
theorem Q1z (m:C9)(j:Nat):D7 m (j+1)=D7 m j++(wl j).filter (G0 m):=by unfold D7;rw[dm,List.flatMap_append,List.flatMap_singleton]
def Z2a (m:C9)(n:Nat):(Q9o n).filter (G0 m)=D7 m (n+1):=by rw[Z9o,D7,ud]
theorem Q7p (m:C9){i j:Nat}(h:i<=j):D7 m i <+: D7 m j:=by induction j<;>grind [bA,b7,Q1z,cM]
theorem Q4n {j:Nat}{w:?N}:w∈D7 m j ↔ O7 m w/\w.length<j:=by
 unfold D7;rw[cV];constructor
 ·rintro ⟨l,hl,h⟩;obtain⟨h1,h2⟩:=br.mp h;obtain⟨a,b⟩:=Q1m.mp h1;exact⟨⟨a,h2⟩,by have:=aL.mp hl;lia⟩
 ·rintro ⟨⟨a,b⟩,h⟩;exact⟨w.length,aL.mpr h,br.mpr ⟨Q1m.mpr ⟨a,rfl⟩,b⟩⟩
theorem V9v {i j:Nat}(h:i<=j)(hn:∀w,O7 m w->w.length<i):D7 m j=D7 m i:=by induction j<;>grind [b7,Q1z,J0l,b8]
theorem V8w (m:C9)(j:Nat):N5 m (j+1)++[.lst ((N4 m (j+1)).map iD)]=N5 m (j+1+1):=by grind [dm,aX]
theorem Z8c (wf:C5 m)(h:Inf m):∀s:Nat,s<=(D7 m (s*?L)).length
 |0=>bj _
 |s+1=>by
  have ih:=Z8c wf h s;obtain⟨w,hw,h1,h2⟩:=J0j wf h (s*?L);rw[nT];obtain⟨t,ht⟩:=Q7p m (show s*?L<=s*?L+?L by lia);rw[<-ht,ao];have:0<t.length:=by
   rcases cL t.length with z |z
   ·have ku:w∈D7 m (s*?L+?L):=Q4n.mpr ⟨hw,h2⟩;rw[<-ht,cj.mp z,b8]at ku;have:=(Q4n.mp ku).2;lia
   ·exact z
  lia
def Q5k (d:D)(j:Nat):Bool:=match d with |.int i=>decide ((j:Int)<=i) |_=>true
structure Fly (H:Hp)(h g:Heap)(C a:Ap):Prop where
 free:H a=none
 new:g.get? a=none
 there:∃oe vs,h.get? a=some oe/\oe.cls=.ref C/\oe.data=.fields vs /\
  (vs[1]?=some .none\/∃T oT ts,vs[1]?=some (.ref T)/\T≠a/\H T=none/\g.get? T=none/\h.get? T=some oT/\oT.data=.fields ts/\ts[3]?=some .none)
theorem Z4w {ma:Heap}:∀{l:O Env},h.FunFrames base l->(∀b∈F3 l,ma.get? b=none)->h.FunFrames ma l
 |[],_,_=>trivial
 |env::r,⟨hk,⟨L,o,hf,hn,ho,hd⟩,hr⟩,hb=>by
  have hm:∀b,b=L\/b∈F3 r->b∈F3 (env::r):=fun b hb=>by
   unfold F3;rw[bK,hf];rcases hb with rfl |hb
   ·exact aj
   ·exact ag _ hb
  exact⟨hk,⟨L,o,hf,hb L (hm L (.inl rfl)),ho,hd⟩,Z4w hr fun b h=>hb b (hm b (.inr h))⟩
theorem Q5e:∀{l:O Env},h.FunFrames base l->∀b∈F3 l,∃o,h.get? b=?P/\∀vs,o.data≠.fields vs
 |[],_,b,hb=>absurd hb (by simp[F3])
 |env::r,⟨hk,⟨L,o,hf,hn,ho,hd⟩,hr⟩,b,hb=>by
  unfold F3 at hb;rw[bK,hf]at hb;rcases ar.mp hb with rfl |hb
  ·exact⟨o,ho,hd⟩
  ·exact Q5e hr b hb
theorem _root_.L2.ObjOk.there {w:Av}    {o:HO}(x:ObjOk P w H h a o):∃o,h.get? a=?P:=by
 induction o with
 |lst xs=>obtain⟨_,_,_,_,e⟩:=x;exact⟨_,e⟩
 |tup xs=>obtain⟨_,_,_,ob,e,_⟩:=x;exact⟨_,e⟩
 |dK kvs=>obtain⟨_,_,_,_,ob,_,_,e,_⟩:=x;exact⟨_,e⟩
 |dT kvs=>obtain⟨_,_,_,_,ob,_,_,e,_⟩:=x;exact⟨_,e⟩
 |set S n=>obtain⟨ob,_,_,_,e,_⟩:=x;exact⟨_,e⟩
 |ins C dx fs=>obtain⟨_,_,_,e,_⟩:=x;exact⟨_,e⟩
 |own y=>exact x
 |xd fs=>obtain⟨_,⟨od,_,_,e,_⟩,_⟩:=x;exact⟨_,e⟩
 |rng lo hi=>obtain⟨_,_,_,e⟩:=x;exact⟨_,e⟩
 |frz ob u ih=>exact⟨_,x.1⟩
 |tab=>obtain⟨_,e,_⟩:=x;exact⟨_,e⟩
 |tbl ps=>exact⟨_,x⟩
 |met f y=>exact⟨_,x⟩
 |ext φ=>exact x.2.1
def CX1 (P:Au)(w:Av):CXT:=fun outer H s E e s'=>∃H' C a,e=.ref a/\s'.os=s.os/\AllBare s'.gens/\Un (F3 outer) [] H H' s.heap s'.heap/\G4 P w H' s'.heap/\Fly H' s'.heap s.heap C a/\E e (some C) H'
def XW (X:Cx)(G:Hp)(XE:Ap->Prop):VS9:=fun e s'=>∃ σ H C a,e=.ref a/\A0 X [] σ H s'/\A5 G H/\Fly H s'.heap X.s₀.heap C a/\XE C
def J0k (H0:Hp)(XE:Ap->Prop):XK:=fun _ o H'=>∃C,o=some C/\XE C/\A5 H0 H'
abbrev Q4o:O An:=[.type "ValueError",.type "Exception",.type "BaseException",.type "object"]
theorem V3z {G:Hp}     {arg:Aq}  (Ak:OwnCls x C Q4o "ValueError.__new__" Y.mg Y.base)(hg:Gl Y x)(kg:Y.calm=true)(hex:Y.ex=[])(ha:PE (Y.wish (XW Y G XE)) arg ta)(gv:starEach [arg] Y.env=(false,eval arg Y.env)::starEach [] Y.env:=by rfl)(hpl:(backTo bz (starEach [arg] Y.env)).any (·.1)=false:=by rfl)(eT:?Q:=by decide)
  (xM:∀ σ H (P Q:V->Hp->Prop),(∀v H,P v H->Q v H)->ta σ H P->ta σ H Q):
  PS (Y.wish (XW Y G XE)) (.Raise (some (.Call (.Name x np) [arg] [] bz)) none pos) (fun D σ H=>ta σ H fun _ H'=>A5 G H'/\XE C):=by
 intro ae s σ H D I hta;obtain⟨tl,N,nm,q,bs,hdct,sn,sub,ab,col,dd,k0,k1,k2,k3,k5,mN,hC,hN,sC,T⟩:=Ak.obj;refine wpAny_Raise_call_subT (C:=C) (nm:=nm) (q:=q) (N:=N) (bs:=bs) (bm:=tl) (hdct:=hdct) (sn:=sn) (sub:=sub) (ab:=ab) (col:=col) (dd:=dd) (k0:=k0) (k1:=k1) (k2:=k2) (k3:=k3) (k5:=k5)
  eS (mN:=mN) (T.hasType eS.hasBase) (I.ok.hd kg) hpl sC (Q6r I hg Ak.bound ⟨rfl,?_⟩ eT)
 have key:=B3 ((Q1p (X:=Y.wish (XW Y G XE)) ha Q4r gv) bz ae s σ H (fun vs H'=>(A5 G H'/\XE C)/\vs.length=1) I (xM σ H _ _ (fun v H' q=>⟨q,rfl⟩) hta)) (Q':=fun vs s2=>∃xs H2,A0 (Y.wish (XW Y G XE)) ae σ H2 s2/\C0 xs vs/\(A5 G H2/\XE C)/\xs.length=1) fun vs s2⟨xs,H2,I2,rv,sm,e2⟩=>⟨xs,H2,I2,rv,sm,e2⟩
 have hb:∃z,backTo bz (starEach [arg] Y.env)=(false,z)::[]:=by rw[gv];exact⟨_,rfl⟩
 obtain⟨zz,hb⟩:=hb;have gM:backTo bz (starEach [arg] (Y.wish (XW Y G XE)).env)=(false,zz)::[]:=hb;rw[gM]at key ⊢;refine cr (B3 key fun vs s2 iK=>?_);obtain⟨xs,H2,I2,rv,⟨sm,hx⟩,e2⟩:=iK;have z:vs.length=1:=by rw[<-rv.length];exact e2
 have bk:=I2.bk;refine⟨rfl,by rw[z];decide,bk _ _ hC,hN.keeps bk,T.keeps bk,fun h' e hm=>?_⟩;obtain⟨t,ht,zK,zH⟩:=hm.there;have I3:A0 (Y.wish (XW Y G XE)) ae σ H2 {s2 with heap:=h'}:=I2.kept (t':=s2.toks) hm.keeps;have gx:H2 e=none:=by
  cases q:H2 e with
  |none=>rfl
  |some u=>obtain⟨o,z⟩:=(I2.hok e u q).there;rw[hm.new]at z;cases z
 refine⟨σ,H2,C,e,rfl,(I3.unwish).pins_of fun p hp=>(I3.unwish).pin p (ba _ (by simpa using hp)),sm,⟨gx,?_,_,_,ht,rfl,rfl,.inl rfl⟩,hx⟩;cases q:Y.s₀.heap.get? e with
 |none=>rfl
 |some u=>
  obtain⟨o,z⟩:=I2.base.there e u q (by show e∉Y.ex;rw[hex];simp);rw[hm.new]at z;cases z
inductive Out where
 |ok (r:R)
 |ex (C:Addr)
def endX (K:Fg9)(H:Hp)(Q:VK)(E:XK):Out->Prop
 |.ok r=>∀v H',A5 H H'->E7 K H H' r v->Q v H'
 |.ex C=>∀e H',A5 H H'->E e (some C) H'
abbrev Q2c (Y:Cx)(G:Hp)(XE:Ap->Prop):Cx:=Y.wish (XW Y G XE)
def Z8r (XE:Ap->Prop)(C:Ap)(we:WE):WS:=fun _ τ=>we τ fun _=>XE C
def W2s {arg:Aq}  (Ak:OwnCls x C Q4o "ValueError.__new__" Y.mg Y.base)(hg:Gl Y x)(kg:Y.calm=true)(hex:Y.ex=[])(ha:DE (Q2c Y H0 XE) H0 arg we)(gv:starEach [arg] Y.env=(false,eval arg Y.env)::starEach [] Y.env:=by rfl)(hpl:(backTo bz (starEach [arg] Y.env)).any (·.1)=false:=by rfl)(eT:?Q:=by decide):
  DS (Q2c Y H0 XE) H0 (.Raise (some (.Call (.Name x np) [arg] [] bz)) none pos) (Z8r XE C we) where
 mono:=fun τ _ _ _ h=>h
 ps:=Q7 (V3z Ak hg kg hex ha.pe gv hpl eT (fun σ H P Q f⟨τ,hR,h⟩=>⟨τ,hR,ha.mono τ _ _ (fun r h v H' sm ir=>f _ _ (h v H' sm ir)) h⟩)) fun D σ H⟨τ,hR,h⟩=>⟨τ,hR,ha.mono τ _ _ (fun r h v H' sm ir=>⟨hR.same.trans sm,h⟩) h⟩
def V2h {G:Hp}(hex:Y.ex=[]):Q9v (CX1 Y.prog Y.w) (Q2c Y G XE) (J0k G XE):=by
 intro ae σ H s e s' I ⟨H',C,a,e1,os,bare,un,hok,F,C',e2,hx,dZ⟩;cases e2;have I2:A0 (Q2c Y G XE) ae σ H' s':=by
  obtain⟨hh,g,d,t,rm⟩:=s';obtain rfl:rm=s.os:=os;exact I.call (h':=hh) (g':=g) (d':=d) (t':=t) (ch:=[]) un hok bare (fun b z=>absurd z ?E)
 have J:=I2.unwish;refine⟨σ,H',C,a,e1,J.pins_of fun p hp=>J.pin p (ba _ (by simpa using hp)),dZ,⟨F.free,?_,?_⟩,hx⟩
 ·cases q:Y.s₀.heap.get? a with
  |none=>rfl
  |some u=>
   obtain⟨o,z⟩:=I.base.there a u q (by show a∉Y.ex;rw[hex];simp);rw[F.new]at z;cases z
 ·obtain⟨oe,vs,h1,h2,h3,h4⟩:=F.there;refine⟨oe,vs,h1,h2,h3,h4.imp id ?_⟩;rintro ⟨T,oT,ts,a1,a2,a3,a4,a5,a6,a7⟩;refine⟨T,oT,ts,a1,a2,a3,?_,a5,a6,a7⟩;cases q:Y.s₀.heap.get? T with
  |none=>rfl
  |some u=>
   obtain⟨o,z⟩:=I.base.there T u q (by show T∉Y.ex;rw[hex];simp);rw[a4]at z;cases z
def outX (XE:Ap->Prop)(Q:R->Prop):Out->Prop
 |.ok r=>Q r
 |.ex C=>XE C
section
variable {w:Av}
structure Q6b (H:Hp)(g h h':Heap)(fr:O Ap)(C a:Ap):Prop where
 ch:∃ch:O Ap,(∀b∈ch,H b=none/\g.get? b=none/\∃o vs,h.get? b=?P/\o.data=.fields vs)/\∀b o,h.get? b=?P->b∉fr->b∉ch->h'.get? b=?P
 slot:∀b o,h.get? b=?P->(∀vs,o.data≠.fields vs)->∃sl,h'.get? b=some {o with slots:=sl}
 fly:Fly H h' g C a
 tr:∃oe vs T oT ts,h'.get? a=some oe/\oe.cls=.ref C/\oe.data=.fields vs/\vs[1]?=some (.ref T)/\T≠a/\h'.get? T=some oT/\oT.data=.fields ts/\ts[3]?=some .none
def Y4z {g:Heap}  {env:Env}{outer:O Env}  {as:O Ap}(hl:h.FunFrames base (env::outer))(hok:G4 P w H h)(hn:∀b o,g.get? b=?P->∃o',h.get? b=some o')(gx:H a=none)(jk:g.get? a=none)
  (h1:∀b∈as,b∉F3 (env::outer)->H b=none/\g.get? b=none/\∃o vs,h.get? b=?P/\o.data=.fields vs) (h2:∀b∈F3 (env::outer),b∈as)
  (x:Heap.Left (PySem.W.hideAll h as) (env::outer) a (.ref C) h h'):Q6b H g h h' (F3 (env::outer)) C a:=by
 obtain⟨x1,x2,x3,x4⟩:=x;obtain⟨rn,ny,T,oT,ts,e1,e2,e3,e4,e5,e6,e7,e8,e9⟩:=x3;have m3:H T=none/\g.get? T=none:=by
  cases hT:h.get? T with
  |none=>
   constructor
   ·cases q:H T with
    |none=>rfl
    |some u=>obtain⟨o,z⟩:=(hok T u q).there;rw[hT]at z;cases z
   ·cases q:g.get? T with
    |none=>rfl
    |some u=>obtain⟨o,z⟩:=hn T u q;rw[hT]at z;cases z
  |some o=>
   have hm:T∈as:=by
    cases Classical.em (T∈as)with
    |inl z=>exact z
    |inr z=>rw[gB _ hT z]at e5;cases e5
   have k8:T∉F3 (env::outer):=fun z=>by
    obtain⟨o2,q1,q2⟩:=Q5e hl T z;obtain⟨sl,q3⟩:=x4 T o2 q1 q2;rw[e7]at q3;cases q3;exact q2 _ e8
   exact⟨(h1 T hm k8).1,(h1 T hm k8).2.1⟩
 refine⟨⟨as.filter fun b=>decide (b∉F3 (env::outer)),fun b hb=>?_,fun b o e hb hc=>x1 b o (gB _ e fun hm=>hc (br.mpr ⟨hm,bO hb⟩))⟩,x4,⟨gx,jk,rn,ny,e1,e2,e3,.inr ⟨T,oT,ts,e4,e6,m3.1,m3.2,e7,e8,e9⟩⟩,rn,ny,T,oT,ts,e1,e2,e3,e4,e6,e7,e8,e9⟩;obtain⟨q1,q2⟩:=br.mp hb;exact h1 b q1 (fu q2)
def Y3p {g:Heap}{L:Ap}{env:Env}{outer:O Env}  {Q:Unit->Ao->Prop}(lg:A.frames=some (env::outer))(hf:env.frame=some L)(hl:s.heap.FunFrames base (env::outer))
  (F:Fly H s.heap g C a) (hok:G4 P w H s.heap) (hn:∀b o,g.get? b=?P->∃o',?A6=some o')
  (k:∀h',Q6b H g s.heap h' (F3 (env::outer)) C a->Q () {s with heap:=h'}):wpAny Al A (noteFrame (.ref a) env) (fun _ s₂=>wpAny Al A (setFlight (.ref a) none) Q E s₂) E s:=by
 obtain⟨oe,vs,he,hc,hd,tb⟩:=F.there;rcases tb with h1 |⟨T,oT,ts,h1,p3,yq,xI,hT,kC,h3⟩
 ·unfold noteFrame;simp only[hf];refine aa (bu he hd h1 ?_);rw[aI (?G)];refine wpAny_newEntry (base:=PySem.W.hideAll s.heap (a::F3 (env::outer))) lg (Z4w hl fun b hb=>cD _ (ag _ hb)) hf he (fun b o e=>hZ _ e) (cD _ aj) hd (cA.mp h1).1 fun h' x=>k h' ?_;rw[hc]at x;refine Y4z hl hok hn F.free F.new (fun b hb sE=>?_) (fun b hb=>ag _ hb) x;rcases ar.mp hb with rfl |hb
  ·exact⟨F.free,F.new,oe,vs,he,hd⟩
  ·exact absurd hb sE
 ·unfold noteFrame;simp only[hf];refine aa (bu he hd h1 ?_);rw[aO (show(Value.ref T != Value.none)=true from by simp)];refine aa (bu hT kC h3 ?_);rw[aI (show ¬ ((Value.none==rawInt L)=true)from by simp[rawInt])];refine aa (qT hT kC (cA.mp h3).1 ?_);have gn:∀b,b≠T->(s.heap.update T (Obj.mapFields (·.setIfInBounds 3 Value.none))).get? b=?A6:=fun b hb=>bM _ _ (bN hb);have uv:∀b o,?A6=?P->(∀vs,o.data≠.fields vs)->b≠T:=fun b o hb k8 q=>by
   rw[q,hT]at hb;cases hb;exact k8 ts kC
  refine wpAny_newEntry (base:=PySem.W.hideAll s.heap (a::T::F3 (env::outer))) lg ((Z4w hl fun b hb=>cD _ (ag _ (ag _ hb))).of_keeps fun b o hb k8=>⟨o,(gn b (uv b o hb k8)).trans hb,rfl⟩) hf ((gn a (bN p3)).trans he)
   (fun b o e=>?_) (cD _ aj) hd (cA.mp h1).1 fun h' x=>k h' ?_
  ·rw[gn b fun q=>by rw[q,cD _ (ag _ aj)]at e;cases e];exact hZ _ e
  ·rw[hc]at x;obtain⟨x1,x2,x3,x4⟩:=x;refine Y4z (as:=a::T::F3 (env::outer)) hl hok hn F.free F.new (fun b hb sE=>?_) (fun b hb=>ag _ (ag _ hb)) ⟨x1,x2,x3,fun b o hb k8=>x4 b o ((gn b (uv b o hb k8)).trans hb) k8⟩;rcases ar.mp hb with rfl |hb
   ·exact⟨F.free,F.new,oe,vs,he,hd⟩
   ·rcases ar.mp hb with rfl |hb
    ·exact⟨yq,xI,oT,ts,hT,kC⟩
    ·exact absurd hb sE
end
def W3y {w:Av}{fr:O Ap}{g:Heap}(N:Q6b H g s.heap h' fr C a)(hok:G4 P w H s.heap)(lg:∀b∈fr,H b=none):G4 P w H h':=fun b u e=>by
 obtain⟨ch,c1,c2⟩:=N.ch;have no:∀c v,H c=some v->c∉fr/\c∉ch:=fun c v e=>⟨fun z=>(by rw[lg c z]at e;cases e),fun z=>(by rw[(c1 c z).1]at e;cases e)⟩
 refine(hok b u e).stay (fun c v hc q=>?_) (fun _ _ _ q=>q) fun _ _ q=>q;rcases hc with rfl |hc
 ·exact c2 c v q (no c u e).1 (no c u e).2
 ·exact c2 c v q (no c _ hc).1 (no c _ hc).2
def Y4g (kz:Y.pn=[])(I:A0 Y [] σ H s)(N:Q6b H Y.s₀.heap s.heap h' (F3 Y.stack) C a)(gv:Y.stack=Y.env::Y.outer/\Y.env.frame=some Y.env.locals):A0 Y [] σ H {s with heap:=h',toks:=t'}:=by
 obtain⟨ch,c1,c2⟩:=N.ch;have rO:∀b,b∈F3 Y.stack->b=Y.env.locals\/b∈Y.fs:=fun b hb=>by
  rw[gv.1]at hb;unfold F3 at hb;rw[bK,gv.2]at hb;exact ar.mp hb
 have qV:∀b,b∈Y.fs->b∈F3 Y.stack:=fun b hb=>by
  rw[gv.1];unfold F3;rw[bK,gv.2];exact ag _ hb
 have old:∀b o,Y.s₀.heap.get? b=?P->b≠Y.env.locals/\b∉ch:=fun b o e=>⟨aB (ay (aA e) I.ok.above),fun z=>(by rw[(c1 b z).2.1]at e;cases e)⟩
 have ip:∀c v,s.heap.IsCell c v->h'.IsCell c v:=fun c v cy=>by
  obtain⟨o,ho,hd⟩:=cy;obtain⟨sl,q⟩:=N.slot c o ho (fun vs z=>by rw[hd]at z;cases z);exact⟨_,q,hd⟩
 refine⟨I.ok,I.os,I.bare,⟨fun b o e n hb hx=>?_,fun b o e n hb hx=>?_,I.base.free,fun b o e hx=>?_,I.base.tups,I.base.frzs,I.base.tbls⟩,?_,fun x c e=>?_,I.free,I.freeC,fun p hp=>?_,W3y N I.hok I.stkFree,I.len⟩
 ·refine c2 b o (I.base.keep b o e n hb hx) (fun z=>?_) (old b o e).2;rcases rO b z with z |z
  ·exact(old b o e).1 z
  ·exact hb z
 ·obtain⟨sl,q⟩:=I.base.slot b o e n hb hx;obtain⟨o2,q1,q2⟩:=Q5e I.stack b (qV b hb);rw[q]at q1;cases q1;obtain⟨jy,q3⟩:=N.slot b _ q q2;exact⟨jy,q3⟩
 ·obtain⟨o',q⟩:=I.base.there b o e hx
  by_cases hb:b∈F3 Y.stack
  ·obtain⟨o2,q1,q2⟩:=Q5e I.stack b hb;obtain⟨sl,q3⟩:=N.slot b o2 q1 q2;exact⟨_,q3⟩
  ·exact⟨o',c2 b o' q hb (old b o e).2⟩
 ·obtain⟨m,⟨o,es,ep,ho,hd,hr⟩,hl⟩:=I.loc;obtain⟨sl,q⟩:=N.slot _ o ho (fun vs z=>by rw[hd]at z;cases z);refine⟨m,⟨_,es,ep,q,hd,hr⟩,fun i x v e1 e2 e3=>?_⟩;obtain⟨u,r,l⟩:=hl i x v e1 e2 e3;refine⟨u,r,?_⟩;rcases l with l |⟨k,c,e,z⟩
  ·exact .inl l
  ·exact .inr ⟨k,c,e,ip c _ z⟩
 ·obtain⟨v,z⟩:=I.cell x c e;exact⟨v,ip c v z⟩
 ·rw[kz]at hp;cases hp
theorem W6q {g:Array GenState}{d:Drawn}{t:Nat}{os:OsState}{e D NC ND:Ap}{oe:Obj}{nC qC nD qD:Str}{qA nK tT tU:O An}{qr sY:Bool}{pY r8:O Str}{kS mj:O An}{qB tY:Bool}{lu nq:Am Bool}{qz tQ:Am Ap}
  {k0 k1 k2 k3 k5 j0 j1 j2 j3 j5:Am An}{qf:String}{Q:Bool->Ao->Prop} (hC:h.get? C=some (excClassObj nC qC C NC qA nK qr pY kS qB lu qz k0 k1 k2 k3 k5 qf)) (hD:h.get? D=some (excClassObj nD qD D ND tT tU sY r8 mj tY nq tQ j0 j1 j2 j3 j5 rQ))
  (he:h.get? e=some oe) (lh:oe.cls=.ref C) (dW:tU.contains (.type "BaseException")=true) {b:Bool} (gr:(Value.ref C::nK).contains (.ref D)=b) (hq:Q b ⟨h,g,d,t,os⟩):wpAny Al A (excMatches (.ref e) (.ref D)) Q E ⟨h,g,d,t,os⟩:=by
 have uS:(Value.ref D::tU).contains (.type "BaseException")=true:=by rw[vW,dW,Bool.or_true]
 have f:=tc_notTuple;unfold excMatches;cases b with
 |true=>
  repeat (first |(with_reducible refine ft hD ?_;rw[uS]) |(with_reducible refine cY he ?_;rw[lh]) |with_reducible refine cY hD ?_ |(with_reducible refine ft hC ?_;rw[gr]) |with_reducible refine cY hC ?_ |wp_step)
  exact hq
 |false=>
  repeat (first |(with_reducible refine ft hD ?_;rw[uS]) |(with_reducible refine cY he ?_;rw[lh]) |with_reducible refine cY hD ?_ |(with_reducible refine ft hC ?_;rw[gr]) |with_reducible refine cY hC ?_ |wp_step)
  exact hq
abbrev _root_.L2.Cx.hand (Y:Cx)(a:Ap)(pn:Pn9):Cx:={Y with A:=Y.A.mark (some (.ref a)),calm:=false,pn:=pn,xe:=?A4}
abbrev Q2o (Y:Cx):Q9:=List.replicate Y.N.length none
section
variable {pn:Pn9}
def V1p (ok:Y.Ok):(Y.hand a pn).Ok:=
 ⟨ok.mod,ok.kind,ok.glob,ok.blt,ok.above,ok.inj,ok.has,ok.cab,fun z=>(by cases z),ok.frames,ok.stk,ok.exf,ok.bs,ok.bsz,ok.noex,ok.exfs,ok.funs,ok.frf⟩
def Z6e {i:Nat}{v:V}(h:(Q2o Y)[i]?=some (some v)):False:=by
 rw[fI]at h;split at h<;>cases h
def Y4f (I:A0 Y [] σ H s)(hp:∀p∈pn,s.heap.get? p.1=some p.2/\H p.1=none/\p.1≠Y.env.locals/\p.1∉Y.fs/\∀v,p.2.data≠.cell v):A0 (Y.hand a pn) [] (Q2o Y) H s:=by
 obtain⟨m,hn,_⟩:=I.loc;exact⟨V1p I.ok,I.os,I.bare,I.base,⟨m,hn,fun i x v _ e _=>(Z6e e).elim⟩,I.cell,I.free,I.freeC,fun p q=>hp p (by simpa using q),I.hok,by simp⟩
def Y4i (ok:Y.Ok)(kz:Y.pn=[])(I:A0 (Y.hand a pn) [] σ H s)(hn:h'.Ns Y.env.locals m')(hs:Heap.SameBut Y.env.locals s.heap h'):A0 Y [] (Q2o Y) H {s with heap:=h',toks:=t'}:=by
 have J:A0 Y [] (Q2o Y) H s:=⟨ok,I.os,I.bare,I.base,(let ⟨m,q,_⟩:=I.loc;⟨m,q,fun i x v _ e _=>(Z6e e).elim⟩),I.cell,I.free,I.freeC,fun p q=>(by rw[kz]at q;cases q),I.hok,by simp⟩
 have kp:∀b o,b≠Y.env.locals->?A6=?P->h'.get? b=?P:=fun b o hb e=>hs.extBut b o hb e;refine⟨ok,J.os,J.bare,⟨fun b o e n hb hx=>?_,fun b o e n hb hx=>?_,J.base.free,fun b o e hx=>?_,J.base.tups,J.base.frzs,J.base.tbls⟩,⟨m',hn,fun i x v _ e _=>(Z6e e).elim⟩,fun x c e=>?_,J.free,J.freeC,fun p q=>(by rw[kz]at q;cases q),fun b u e=>?_,by simp⟩
 ·exact kp b o (aB (ay (aA e) ok.above)) (J.base.keep b o e n hb hx)
 ·obtain⟨sl,q⟩:=J.base.slot b o e n hb hx;exact⟨sl,kp b _ (aB (ay (aA e) ok.above)) q⟩
 ·obtain⟨o',q⟩:=J.base.there b o e hx;exact⟨o',kp b _ (aB (ay (aA e) ok.above)) q⟩
 ·obtain⟨v,o,ho,hd⟩:=J.cell x c e;exact⟨v,o,kp c o (J.cne x c e) ho,hd⟩
 ·have fr:∀c v,H c=some v->c≠Y.env.locals:=fun c v e z=>by rw[z,J.free]at e;cases e
  refine(J.hok b u e).stay (fun c v hc q=>kp c v ?_ q) (fun _ _ _ q=>q) fun _ _ q=>q;rcases hc with rfl |hc
  ·exact fr c u e
  ·exact fr c _ hc
end
def Z2z (h:Heap)(C D:Ap):Prop:=∃nC qC NC qA nK qr pY kS qB lu qz k0 k1 k2 k3 k5 qf,h.get? C=some (excClassObj nC qC C NC qA nK qr pY kS qB lu qz k0 k1 k2 k3 k5 qf)/\(Value.ref C::nK).contains (.ref D)=true
def Y6s {K:Fg9}     {vS:O An}{id:String}(X:K.In h)(hm:mg x=some (.ref C))(q:PySem.W.excIn K C vS id=true):OwnCls x C vS id mg h:=by
 constructor
 ·exact hm
 ·unfold PySem.W.excIn at q;cases hk:K.lookup C with
  |none=>rw[hk]at q;cases q
  |some o=>
   rw[hk]at q;obtain⟨cls,dict,data,slots⟩:=o;split at q
   ·rename_i yM zB e;cases e;split at q
    ·rename_i bm a0 a1 a2 a3 zD a5 ql ky;simp only[ce,beq_iff_eq,zw]at q;obtain⟨⟨⟨⟨⟨r1,r2⟩,r3⟩,r4⟩,r5⟩,r6⟩:=q;subst r1 r2;obtain⟨c1,c2,c3,c4,c5,c6,c7,c8,c9,vR,zW⟩:=yM;dsimp only at ql r3 r5 r6;subst ql r3;obtain⟨sl⟩:=slots;have xz:sl=_:=ky;subst xz;exact⟨_,_,_,_,_,_,_,_,_,_,_,_,_,_,_,_,_,X _ _ hk,.of_isNs (PySem.W.isNs_of_in X r5),PySem.W.nsMap_none_of_in X r5 r6,PySem.W.tail_of_in X r4⟩
    ·cases q
   ·cases q
theorem W6u {w:Av}{K:Fg9}   {k:Nat}      {dV kV:An} 
    {sp:Sp} (lk:K.lookup f=some ⟨oc,od,.func (PySem.W.fnOf name qual params body scope dV kV dG pm an cdv ct),fK⟩) (fA:PySem.W.codeIn K cdv qual=true) (S:T9 N ps scope)
  (len:∀vs H Q E,sp vs H Q E->vs.length=ps.length)
  (bS:∀(A:As) (outer:O Env) (s:Ao) (H:Hp) (vs:O V) (Q:VK) (E:XK),E1 k (A.deeper (envOfC qual scope s.heap.objs.size f cdv))->sp vs H Q E ->
   ∀s1,A0 (K4 CX P w K mg base N qual scope f cdv A outer s H E) [] (start N vs) H s1->wpAny ?R (A.deeper (envOfC qual scope s.heap.objs.size f cdv)) (execs body (envOfC qual scope s.heap.objs.size f cdv)) (SP (K4 CX P w K mg base N qual scope f cdv A outer s H E) [] {nx:=fun _ H'=>Q .non H',rt:=Q}) (K4 CX P w K mg base N qual scope f cdv A outer s H E).xe s1):
  O3 P w K mg base CX (k+1) f (PySem.W.fnOf name qual params body scope dV kV dG pm an cdv ct) ps sp:=by
 refine⟨len,fun A outer s H args us vs Q E hr e0 hb r ii=>?_⟩;have hl:=len _ _ _ _ ii;have KX:K.In s.heap:=e0.mod.kin.keeps fun b o e=>(e0.bs b o e).1;have kY:s.heap.NoLimit:=e0.mod.nolimit.keeps fun b o e=>(e0.bs b o e).1;have il:∀y∈ps.zip us,scope.names.lookup y.1=some .local\/(scope.names.lookup y.1=some .cell/\((cellsFrom (s.heap.objs.size+1) scope.names []).lookup y.1).isSome=true):=fun cy hy=>by
  obtain⟨n,v⟩:=cy;rcases S.par n (cS hy).1 with q |q
  ·exact .inl q
  ·exact .inr ⟨q,dI _ _ _ (.inl q)⟩
 refine hV hr.depth (KX _ _ lk) rfl S.co S.gen rfl (i0 KX fA) (hb _ _ _ _ ?_);refine fE S.kind il fun env he s1 x=>?_;subst he;refine⟨kY.keeps x.toInCall.keep,Ai ?_⟩;have I:A0 (K4 CX P w K mg base N qual scope f cdv A outer s H E) [] (start N vs) H s1:=Z5k S hr.hd e0 hl r x;refine aP (bS A outer s H vs Q E (hr.deeper _) ii s1 I) (fun fl s' hs=>?_) fun e s' hs=>hs;have fin:∀{σ':Q9}{H':Hp}{v:V}{u:An},A0 (K4 CX P w K mg base N qual scope f cdv A outer s H E) [] σ' H' s'->C4 v u->Q v H'->CE outer P w H s Q u s':=
  fun {σ' H' v u} J rv q=>⟨v,H',J.os,J.bare,J.base,J.hok,rv,q⟩
 cases fl with
 |ret u=>
  obtain⟨v,σ',H',J,rv,q⟩:=hs;exact fin J rv q
 |next=>
  obtain⟨σ',H',J,q⟩:=hs;exact fin (v:=V.non) (u:=Value.none) J rfl q
 |brk=>
  obtain⟨_,_,_,q⟩:=hs;exact False.elim q
 |cont=>
  obtain⟨_,_,_,q⟩:=hs;exact False.elim q
abbrev Q6v (N:O Str):C3:=List.replicate N.length none
def Y6a {j:Nat}{sl:Sl}(e:(Q6v N)[j]?=some (some sl)):False:=by
 rw[fI]at e;split at e<;>cases e
def Y7m {K:Fg9}   (s:A5 H0 H):C1 K H0 (Q6v N) (List.replicate N.length none) H:=
 ⟨by simp,s,fun j sl e=>(Y6a e).elim,fun j k s t v _ e1 _ _ _ _ _=>(Y6a e1).elim⟩
abbrev Q3r:=O R->(Out->Prop)->Prop
def Y0q (sp:Q3r):Prop:=∀rs (P Q:Out->Prop),(∀o,P o->Q o)->sp rs P->sp rs Q
def Y5a (K:Fg9)(ts:O Ap)(n:Nat)(sp:Q3r):Sp:=fun vs H Q E=>∃(rs:O R) (Po:Out->Prop),rs.length=n/\L6 K (fun _=>none) H rs vs/\rs.all L8=true/\Q0d ts H/\sp (rs.map nrm) Po/\∀o,Po o->endX K H Q E o
abbrev FnXT (P:Au)(w:Av)(K:Fg9)(mg:Str->Am An)(base:Heap)(ts:O Ap)(k:Nat)(f:Ap)(fd:At)(ps:O Str)(sp:Q3r):Prop:=O3 P w K mg base (CX1 P w) k f fd ps (Y5a K ts ps.length sp)
def Y0e (Po:Out->Prop):F9:={nx:=fun _=>Po (.ok (.st .non)),rt:=fun r=>Po (.ok r),bk:=fun _=>False,ct:=fun _=>False}
def W0n (XE:Ap->Prop)(sp:Q3r)(wr:WA):WE:=fun τ Q=>wr τ fun rs=>rs.all L8=true/\sp (rs.map nrm) (outX XE Q)
def W1x {k:Nat}    {sp:Q3r}    {es:O Aq}  (oM:Y0q sp)(F:O3 Y.prog Y.w Y.K Y.mg Y.base (CX1 Y.prog Y.w) k f fd ps (Y5a Y.K ts (e::es).length sp))(hr:E1 k Y.A)(hT:Q0d ts H0)(hg:Gl Y x)(hm:Y.mg x=some (.ref f))(hk:PySem.W.keepIn Y.K (.ref f)=true)(hb:S8 Y.K fd ps [])
  (ha:DA (Q2c Y H0 XE) H0 (e::es) wr) (hex:Y.ex=[]) (eT:?Q:=by decide) (he:starEach (e::es) Y.env=(false,eval e Y.env)::starEach es Y.env:=by rfl) (hpl:(backTo pos (starEach es Y.env)).any (·.1)=false:=by rfl):
  DE (Q2c Y H0 XE) H0 (.Call (.Name x p) (e::es) [] pos) (W0n XE sp wr) where
 mono:=fun τ P Q f h=>ha.mono τ _ _ (fun rs cy=>(by obtain⟨ok,h1⟩:=cy;exact⟨ok,oM _ _ _ (fun o q=>by cases o with |ok r=>exact f r q |ex C=>exact q) h1⟩)) h
 pe:=P7 (Z1j (X:=Q2c Y H0 XE) F hr hg hm hk hb .nil (V2h hex) ha.pa eT he hpl) fun σ H Q ⟨τ,hR,h⟩=>⟨τ,hR,ha.mono τ _ _ (fun rs cR vs H1 s1 dA=>by
  obtain⟨lc,ok,h1⟩:=cR;refine⟨rs,_,lc,?_,ok,fun Pt hp=>s1 _ _ (hR.same _ _ (hT Pt hp)),h1,fun o q=>?_⟩
  ·rw[b8];exact dA.v
  ·cases o with
   |ok r=>exact fun v H' s2 ir=>q v H' (s1.trans s2) (ir.older s1)
   |ex C=>exact fun e H' s2=>⟨C,rfl,q,hR.same.trans (s1.trans s2)⟩) (ha.len τ _ h)⟩
section
variable {w:Av}{K:Fg9}{cd:An}{outer:O Env}{E:XK}{G:Hp}
def XL (P:Au)(w:Av)(qual:Str)(scope:Scope)(f:Ap)(cd:An)(A:As)(outer:O Env)(s:Ao)(H:Hp)(E:XK):VS9:=fun e s'=>
 True/\wpAny ?R (A.deeper (?O)) (noteFrame e (?O)) (fun _ s2=>wpAny ?R (A.deeper (?O)) (setFlight e none) (fun _ s3=>CX1 P w outer H s E e s3) (fun e' s3=>CX1 P w outer H s E e' s3) s2) (fun e' s2=>CX1 P w outer H s E e' s2) s'
def J0o {e:An}  (hE:∀C e H',XE C->A5 G H'->E e (some C) H')
  (h:XW (K4 (CX1 P w) P w K mg base N qual scope f cd A outer s H E) G XE e s'):XL P w qual scope f cd A outer s H E e s':=by
 obtain⟨σ,H',C,a,rfl,I,sm,F,hx⟩:=h;have gP:∀b:Ap,b∉(K4 (CX1 P w) P w K mg base N qual scope f cd A outer s H E).ex:=fun b z=>absurd (show b∈([]:O Ap)from z) ?E;have hL:(?O).frame=some s.heap.objs.size:=rfl;have rO:∀b,b∈F3 (?O::outer)->b=s.heap.objs.size\/b∈F3 outer:=fun b hb=>by
  unfold F3 at hb;rw[bK,hL]at hb;exact ar.mp hb
 have qV:∀b,b∈F3 outer->b∈F3 (?O::outer):=fun b hb=>by
  unfold F3;rw[bK,hL];exact ag _ hb
 have old:∀b o,?A6=?P->b≠s.heap.objs.size:=fun b o e z=>absurd (aA e) (by rw[z];exact aS _);have stk:s'.heap.FunFrames base (?O::outer):=I.stack;refine⟨trivial,Y3p (P:=P) (w:=w) (g:=s.heap) I.ok.frames hL stk F I.hok (fun b o e=>I.base.there b o e (gP b)) fun h' N=>?_⟩;obtain⟨ch,c1,c2⟩:=N.ch;have k1:∀b o,s'.heap.get? b=?P->b∉F3 (?O::outer)->((∃o',?A6=some o')\/∃u,H' b=some u)->h'.get? b=?P:=fun b o e n q=>c2 b o e n fun z=>by
  obtain⟨z1,z2,_⟩:=c1 b z;rcases q with⟨o',q⟩ |⟨u,q⟩
  ·have z2:?A6=none:=z2;rw[z2]at q;cases q
  ·rw[z1]at q;cases q
 have k2:=N.slot;refine⟨H',C,a,rfl,I.os,I.bare,⟨fun b o e n hb _=>?_,fun b o e n hb _=>?_,fun b o e n _=>I.base.free b o e n (gP b),fun b o e _=>?_,I.base.tups,I.base.frzs,I.base.tbls⟩,fun b u e=>?_,N.fly,hE C _ H' hx sm⟩
 ·refine k1 b o (I.base.keep b o e n hb (gP b)) (fun z=>?_) (.inl ⟨o,e⟩);rcases rO b z with z |z
  ·exact old b o e z
  ·exact hb z
 ·obtain⟨sl,q⟩:=I.base.slot b o e n hb (gP b);obtain⟨o2,q1,q2⟩:=Q5e stk b (qV b hb);rw[q]at q1;cases q1;obtain⟨jy,q3⟩:=k2 b _ q q2;exact⟨jy,q3⟩
 ·obtain⟨o',q⟩:=I.base.there b o e (gP b)
  by_cases hb:b∈F3 (?O::outer)
  ·obtain⟨o2,q1,q2⟩:=Q5e stk b hb;obtain⟨sl,q3⟩:=k2 b o2 q1 q2;exact⟨_,q3⟩
  ·exact⟨o',k1 b o' q hb (.inl ⟨o,e⟩)⟩
 ·refine(I.hok b u e).stay (fun c v hc q=>k1 c v q (fun z=>?_) ?_) (fun _ _ _ q=>q) fun _ _ q=>q
  ·have n:=I.stkFree c z;rcases hc with rfl |hc
   ·rw[n]at e;cases e
   ·rw[n]at hc;cases hc
  ·rcases hc with rfl |hc
   ·exact .inr ⟨u,e⟩
   ·exact .inr ⟨_,hc⟩
def J0n {e:An}  (h:XL P w qual scope f cd A outer s H E e s'):(K4 (CX1 P w) P w K mg base N qual scope f cd A outer s H E).xe e s':=by
 show wpAny _ _ (leaving _ _) _ _ _;unfold leaving;exact aa h.2
def J0p:PassesOwn ?R (A.deeper (?O)) (?O) (XL P w qual scope f cd A outer s H E):=PySem.kfy_passes
abbrev cxLp (P:Au)(w:Av)(K:Fg9)(mg:Str->Am An)(base:Heap)(N:O Str)(qual:Str)(scope:Scope)(f:Ap)(cd:An)(A:As)(outer:O Env)(s:Ao)(H:Hp)(E:XK):Cx:=
 (K4 (CX1 P w) P w K mg base N qual scope f cd A outer s H E).wish (XL P w qual scope f cd A outer s H E)
def W2t (hE:∀C e H',XE C->A5 H H'->E e (some C) H')(h:DS (Q2c (K4 (CX1 P w) P w K mg base N qual scope f cd A outer s H E) H XE) H st ws):DS (cxLp P w K mg base N qual scope f cd A outer s H E) H st ws where
 mono:=h.mono
 ps:=fun ae s1 σ H1 D I hq=>aP (h.ps ae s1 σ H1 D (I.unwish.wish _) hq) (fun fl s2 q=>by
  have q:=q.unwish;cases fl with
  |next=>obtain⟨σ',H',J,q⟩:=q;exact⟨σ',H',J.wish _,q⟩
  |brk=>obtain⟨σ',H',J,q⟩:=q;exact⟨σ',H',J.wish _,q⟩
  |cont=>obtain⟨σ',H',J,q⟩:=q;exact⟨σ',H',J.wish _,q⟩
  |ret u=>obtain⟨v,σ',H',J,q⟩:=q;exact⟨v,σ',H',J.wish _,q⟩) fun e s2 q=>J0o hE q
end
section
variable {w:Av}{K:Fg9}{k:Nat}
def W3f {sp:Q3r}{ws:(Ap->Prop)->WS}(F:Fun K x qual st f fd)(S:T9 N ps (B8 st))
  (bS:∀(cdv:An) (A:As) (outer:O Env) (s:Ao) (H:Hp) (E:XK) (XE:Ap->Prop),(∀C e H',XE C->A5 H H'->E e (some C) H')->Q0d ts H->?A0 ->
   A7 (cxLp P w K mg base N qual (B8 st) f cdv A outer s H E) H (K6 st) (ws XE))
  (hw:∀rs Po,rs.length=ps.length->sp rs Po->ws (fun C=>Po (.ex C)) (Y0e Po) (E2 N rs)):FnXT P w K mg base ts (k+1) f fd ps sp:=by
 obtain⟨oc,od,kV,dG,pm,an,cdv,ct,fK,rfl,lk,fA⟩:=F.ex;refine Z0m lk fA S (fun vs H Q E h=>?_) fun A outer s H vs Q E hr h=>?_
 ·obtain⟨rs,Po,hl,al,_⟩:=h;rw[<-al.length];exact hl
 obtain⟨rs,Po,hl,al,ok,hT,h1,h2⟩:=h;have hd:=bS cdv A outer s H E (fun C=>Po (.ex C)) (fun C e H' hx sm=>(h2 (.ex C) hx:∀e H',A5 H H'->E e (some C) H') e H' sm) hT hr;have hw:=hw (rs.map nrm) Po (by rw[ai];exact hl) h1;rw[Q7m]at hw;refine⟨_,fun ae s1 σ H1 D I hq=>aP (hd.ps ae s1 σ H1 D (I.wish _) hq) (fun _ _ q=>q.unwish) fun e s2 q=>J0n q,E2 N rs,Q6y al ok,?_⟩;refine hd.mono _ _ _ ⟨fun τ h σ H' _ hR=>?_,fun r' h v H' sm ir=>?_,fun _ h=>False.elim h,fun _ h=>False.elim h⟩ hw
 ·exact(h2 (.ok (.st .non)) h:∀v H',A5 H H'->E7 K H H' (.st .non) v->Q v H') .non H' hR.same (Q5b (K:=K) (H:=H'))
 ·exact(h2 (.ok r') h:∀v H',A5 H H'->E7 K H H' r' v->Q v H') v H' sm ir
end
abbrev Y0z:O Str:=["machine","text","ends","rows","states","rank","counts","place","lower"]
def W1b (dg:E3)(Q4u:E3)(Q1x:E3):WS:=(A6 (Q4w (wV 0) (P3 2 (F7 (B6 2) (F7 (B6 3) Q4)))) (A6 (C2 4 (Z2f 0 dg (A1 (wV 3) (A1 (wV 1) A4)))) (A6 (N7 (Q9j (Q3m (A3 A8 (wV 2) (A3 A8 (wV 4) (Q0q ?X))))) (J3 (wC .non)) M9) (A6 (C2 5 ?A5) (A6 (C2 6 (J8 Q4u (A1 (wV 0) A4))) (A6 (Q8 (Z5c (A1 (D8 F2 (A1 (wV 1) A4)) A4)) (B6 7) (A6 (C2 8 (wSl (A3 A8 (wV 3) (A3 A8 (wV 4) (wV 7))) Z1d (Z1e (Q7s (wC (.str "01ab")) (A3 A8 (wV 1) (wV 7)))))) (A6 (Z3 5 (J1 NoC fun i j=>i+j) (A3 G2 (A3 A8 (wV 6) ?A5) (D8 Q2r (A1 (Q1 1 [6] (Q0z (wV 8)) (B6 0) S0 (B4 (A3 A8 (wV 1) (wV 0)))) A4)))) (C2 6 (J8 Q1x (A1 (wV 0) (A1 (wV 6) A4))))))) (Q9l 5)))))))
abbrev W4j:O Str:=["machine","tables","number","signs","state","left","counts","column"]
def W1c:WS:=(A6 (C2 3 (S7 A4)) (A6 (C2 4 ?A5) (A6 (C2 5 (wV 2)) (A6 (Q8 (Z5d (A1 (B4 (wSl (wV 1) Z1d (Z1e (Q0q ?X)))) A4)) (B6 6) (A6 (C2 7 ?A5) (A6 (Q2a (A3 (K8 fun i j=>decide (j<=i)) (wV 5) (A3 A8 (wV 6) (A3 A8 (A3 A8 (A3 A8 (wV 0) ?X) (wV 4)) (wV 7)))) (A6 (Z3 5 (J1 NoC fun i j=>i-j) (A3 A8 (wV 6) (A3 A8 (A3 A8 (A3 A8 (wV 0) ?X) (wV 4)) (wV 7)))) (Z3 7 (J1 NoC fun i j=>i+j) ?X))) (A6 (M8 3 (B4 (A3 A8 (wC (.str "01ab")) (wV 7)))) (C2 4 (A3 A8 (A3 A8 (A3 A8 (wV 0) ?X) (wV 4)) (wV 7))))))) (J3 (Z2m (wC (.str "")) (wV 3)))))))
abbrev Y1b:O Str:=["machine","number","last","left","tables"]
def Z9c (iT:Ap)(Q7i:J4)(Q4u:E3)(Q1x:E3)(sp_text_of_length_at:E3)(XE:Ap->Prop):WS:=(A6 (C2 2 (S6 Q7i (A1 (wV 0) A4))) (A6 (C2 3 (wV 1)) (A6 (C2 4 (S7 (A1 (B4 (J8 Q4u (A1 (wV 0) A4))) A4))) (A6 (Q2a (A3 (K8 fun i j=>decide (j<=i)) (wV 3) (A3 A8 (A3 A8 (wV 4) (Q0q ?X)) ?A5)) (A6 (N7 (Q5s (A3 (X1 true) (wV 2) (wC .non)) (A3 (K8 fun i j=>decide (j<i)) (D8 F2 (A1 (wV 4) A4)) (wV 2))) (Z8r XE iT (wC (.str "fewer texts are accepted"))) M9) (A6 (Z3 3 (J1 NoC fun i j=>i-j) (A3 A8 (A3 A8 (wV 4) (Q0q ?X)) ?A5)) (M8 4 (B4 (J8 Q1x (A1 (wV 0) (A1 (A3 A8 (wV 4) (Q0q ?X)) A4)))))))) (J3 (J8 sp_text_of_length_at (A1 (wV 0) (A1 (wV 4) (A1 (wV 3) A4)))))))))
theorem Z4o {f g:α->O β}{l:O α}(h:∀x∈l,f x=g x):l.flatMap f=l.flatMap g:=by
 induction l with
 |nil=>rfl
 |cons a l ih=>rw[bV,bV,h a aj,ih fun x hx=>h x (ag _ hx)]
theorem W1i:∀n,wl (n+1)=B5.flatMap fun c=>(wl n).map (c::·)
 |0=>rfl
 |n+1=>by
  have e:wl (n+1+1)=(wl (n+1)).flatMap fun w=>B5.map fun c=>w++[c]:=rfl;have e2:wl (n+1)=(wl n).flatMap fun w=>B5.map fun c=>w++[c]:=rfl;rw[e,show(wl (n+1)).flatMap (fun w=>B5.map fun c=>w++[c])=(B5.flatMap fun c=>(wl n).map (c::·)).flatMap (fun w=>B5.map fun c=>w++[c])by rw[W1i n],List.flatMap_assoc];refine Z4o fun c _=>?_;rw[e2,jc,List.map_flatMap];refine Z4o fun w _=>?_;rw[aF]
  rfl
def acS (m:C9)(s l:Nat):O (?N):=(wl l).filter fun w=>m.1.getD (run (B1 m.2) s w) false
def Z3n (m:C9)(s:Nat):acS m s 0=if m.1.getD s false=true then [[]]else []:=by
 unfold acS wl;rw[cJ];rfl
def Y1i (m:C9)(s l:Nat):acS m s (l+1)=B5.flatMap fun c=>(acS m (B1 m.2 s c) l).map (c::·):=by
 unfold acS;rw[W1i,ud];refine Z4o fun c _=>?_;rw[List.filter_map]
 rfl
theorem Q9x (wf:C5 m):∀(l:Nat) {s:Nat},s<?L->(acS m s l).length=E9 m l s
 |0,s,_=>by
  rw[Y2p,Z3n];split<;>rfl
 |l+1,s,hs=>by
  rw[Z4f wf hs,Y1i,ub];congr 1;refine aT fun c hc=>?_;rw[ai,Q9x wf l (Q1r wf hs hc)]
def idS (m:C9):Nat->?N->Nat
 |_,[]=>0
 |s,c::w=>((List.range c).map fun d=>E9 m w.length (B1 m.2 s d)).sum+idS m (B1 m.2 s c) w
theorem Y3o (F:Nat->O α):∀(a c:Nat) (n k:Nat),c<n->k<(F (a+c)).length->(((List.range n).map (a+·)).flatMap F)[((List.range c).map fun d=>(F (a+d)).length).sum+k]?=(F (a+c))[k]?
 |a,0,n+1,k,_,hk=>by
  rw[bF,av,bV];simp only[List.range_zero,cO,List.sum_nil,cG];exact aJ hk
 |a,c+1,n+1,k,hc,hk=>by
  rw[bF,av,bV,bF,av,cx,aF,aF];have:=Y3o F (a+1) c n k (?H) (by rw[show a+1+c=a+(c+1)by lia];exact hk);rw[show a+1+c=a+(c+1)by lia]at this;rw[<-this];have e1:(List.range n).map ((fun x=>a+x) ∘ Nat.succ)=(List.range n).map (a+1+·):=aT fun i _=>by show a+(i+1)=_;lia
  have e2:(List.range c).map ((fun d=>(F (a+d)).length) ∘ Nat.succ)=(List.range c).map fun d=>(F (a+1+d)).length:=aT fun i _=>by show(F (a+(i+1))).length=_;rw[show a+(i+1)=a+1+i by lia]
  rw[e1,e2,iU];rw[aR (?H)];congr 1;lia
def W5v:B5=(List.range 4).map (0+·):=?G
theorem Y1h (wf:C5 m){s l k:Nat}(hs:s<?L)(hc:c<4)(hk:k<E9 m l (B1 m.2 s c)):(acS m s (l+1))[((List.range c).map fun d=>E9 m l (B1 m.2 s d)).sum+k]?=((acS m (B1 m.2 s c) l)[k]?).map (c::·):=by
 have hl:∀d,d<4->((acS m (B1 m.2 s d) l).map (d::·)).length=E9 m l (B1 m.2 s d):=fun d hd=>by rw[ai,Q9x wf l (Q1r wf hs (Q3f hd))]
 have:=Y3o (fun c=>(acS m (B1 m.2 s c) l).map (c::·)) 0 c 4 k hc (by rw[cG,hl c hc];exact hk);rw[<-W5v,<-Y1i,cG,ah]at this;rw[<-this];congr 2;refine congrArg List.sum (aT fun d hd=>?_);rw[cG,hl d (by have:=aL.mp hd;lia)]
theorem Y4b (wf:C5 m):∀(w:?N) (s:Nat),s<?L->B9 w->m.1.getD (run (B1 m.2) s w) false=true->(acS m s w.length)[idS m s w]?=some w
 |[],s,hs,_,ha=>by
  rw[bX,Z3n,aO (show m.1.getD s false=true from ha)];rfl
 |c::w,s,hs,hw,ha=>by
  have hc:=hw c aj;have ih:=Y4b wf w (B1 m.2 s c) (Q1r wf hs hc) (fun d hd=>hw d (ag _ hd)) ha;have hk:idS m (B1 m.2 s c) w<E9 m w.length (B1 m.2 s c):=by
   rw[<-Q9x wf _ (Q1r wf hs hc)];exact(aD.mp ih).1
  rw[aK,idS,Y1h wf hs (Q2i hc) hk,ih];rfl
def O5 (m:C9)(l s c:Nat):Nat:=((List.range c).map fun d=>E9 m l (B1 m.2 s d)).sum
def Q6t (m:C9)(l s c:Nat):O5 m l s (c+1)=O5 m l s c+E9 m l (B1 m.2 s c):=by
 unfold O5;rw[dm,aX,List.sum_append];simp
theorem W9s (m:C9)(l s:Nat){d:Nat}(h:c<=d):O5 m l s c<=O5 m l s d:=by
 induction d with
 |zero=>rw[qS.mp h];exact ak _
 |succ d ih=>
  rcases b7 d c with z |z
  ·rw[show c=d+1 by lia];exact ak _
  ·rw[Q6t];have:=ih z;lia
theorem Y5d (m:C9)(l s k:Nat):∀n,k<O5 m l s n->∃c,c<n/\O5 m l s c<=k/\k<O5 m l s (c+1)
 |0,h=>absurd h (jM _)
 |n+1,h=>by
  rcases b7 k (O5 m l s n)with z |z
  ·obtain⟨c,h1,h2,h3⟩:=Y5d m l s k n z;exact⟨c,?H,h2,h3⟩
  ·exact⟨n,cb _,z,h⟩
theorem W4m (wf:C5 m){s l k:Nat}(hs:s<?L){u:?N}(h:(acS m s (l+1))[k]?=some u):
  ∃c u',c<4/\O5 m l s c<=k/\k<O5 m l s (c+1)/\u=c::u'/\(acS m (B1 m.2 s c) l)[k-O5 m l s c]?=some u':=by
 have hk:k<O5 m l s 4:=by
  have:=(aD.mp h).1;rw[Q9x wf _ hs,Z4f wf hs]at this;exact this
 obtain⟨c,h1,h2,h3⟩:=Y5d m l s k 4 hk;rw[Q6t]at h3;have:=Y1h wf hs h1 (k:=k-O5 m l s c) (l:=l) (?H);rw[show((List.range c).map fun d=>E9 m l (B1 m.2 s d)).sum+(k-O5 m l s c)=k from u8 h2,h]at this;obtain⟨u',e1,e2⟩:=fT.mp this.symm;exact⟨c,u',h1,h2,by rw[Q6t];exact h3,e2.symm,e1⟩
theorem W5u {j:Nat}(h:j<4):B5[j]?=some j:=by
 match j,h with
 |0,_=>rfl
 |1,_=>rfl
 |2,_=>rfl
 |3,_=>rfl
def wGo:WE:=(A3 A8 (A3 A8 (A3 A8 (wV 0) ?X) (wV 4)) (wV 7))
def goRd (wf:C5 m){s j:Nat}(hs:s<?L)(hj:j<4)  {Q:R->Prop}(q:Q (.st (iD (B1 m.2 s j)))):wGo [some (.dat (mD m)),o1,o2,o3,some (.dat (iD s)),o5,o6,some (.dat (iD j))] Q:=by
 unfold wGo;simp only[C8,B0,D5];refine⟨_,rfl,M6 (i:=1) rfl ⟨_,rfl,?_⟩⟩;refine M6 (i:=s) (d:=rD (B5.map (B1 m.2 s))) (by rw[ah,Wf.rowEq wf hs];rfl) ⟨_,rfl,?_⟩;exact M6 (i:=j) (by rw[ah,ah,W5u hj];rfl) q
def wCt:WE:=(A3 A8 (wV 6) wGo)
def ctRd (wf:C5 m){s j l:Nat}(hs:s<?L)(hj:j<4)  {Q:R->Prop}(q:Q (.st (iD (E9 m l (B1 m.2 s j))))):wCt [some (.dat (mD m)),o1,o2,o3,some (.dat (iD s)),o5,some (.dat (.lst ((N4 m l).map iD))),some (.dat (iD j))] Q:=by
 unfold wCt;rw[C8,B0];refine⟨_,rfl,goRd wf hs hj ?_⟩;exact Q8j wf (.inr rfl) (Q1r wf hs (Q3f hj)) q
def wtN:WT:=(A3 (K8 fun i j=>decide (j<=i)) (wV 5) wCt)
def wbN:WS:=(A6 (Z3 5 (J1 NoC fun i j=>i-j) wCt) (Z3 7 (J1 NoC fun i j=>i+j) ?X))
def Y9r (wf:C5 m){s j l x:Nat}(hs:s<?L)(hj:j<4)  {Q:Bool->Prop}(q:Q (decide (((E9 m l (B1 m.2 s j):Nat):Int)<=(x:Int)))):wtN [some (.dat (mD m)),o1,o2,o3,some (.dat (iD s)),some (.dat (iD x)),some (.dat (.lst ((N4 m l).map iD))),some (.dat (iD j))] Q:=by
 unfold wtN;rw[C8,B0];exact⟨_,rfl,ctRd wf hs hj q⟩
theorem W1g (wf:C5 m){s l k:Nat}(hs:s<?L)(hc:c<4)(h1:O5 m l s c<=k)(h2:k<O5 m l s (c+1))  {E:F9}
  (h:E.nx [some (.dat (mD m)),o1,o2,o3,some (.dat (iD s)),some (.dat (iD (k-O5 m l s c))),some (.dat (.lst ((N4 m l).map iD))),some (.dat (iD c))]):∀(n j:Nat),j+n=c ->
  G6 wtN wbN (n+1) E [some (.dat (mD m)),o1,o2,o3,some (.dat (iD s)),some (.dat (iD (k-O5 m l s j))),some (.dat (.lst ((N4 m l).map iD))),some (.dat (iD j))]
 |0,j,e=>by
  have e:j=c:=e;subst e;rw[Q6t]at h2;rw[G6];refine Y9r wf hs hc ?_;rw[aI ?U];exact h
 |n+1,j,e=>by
  have hl:O5 m l s (j+1)<=O5 m l s c:=W9s m l s (?H);rw[Q6t]at hl;rw[G6];refine Y9r wf hs (?H) ?_;rw[aO ?U];unfold wbN;rw[D6,Q7c];refine⟨_,rfl,ctRd wf hs (?H) ?_⟩;show J1 _ _ (.st (.int _)) (.st (.int _)) _;rw[Q6w];refine⟨trivial,?_⟩;rw[J5];dsimp only;rw[Q7c];k_ne;rw[D5];show J1 _ _ (.st (.int (j:Int))) (.st (.int 1)) _;rw[Q6w];refine⟨trivial,?_⟩;rw[J5];have ih:=W1g wf hs hc h1 h2 h n (j+1) (?H);have e1:D.int (((k-O5 m l s j:Nat):Int)-((E9 m l (B1 m.2 s j):Nat):Int))=iD (k-O5 m l s (j+1)):=by
   show D.int _=D.int _;rw[Q6t];congr 1;lia
  show G6 _ _ _ _ [_,_,_,_,_,some (.dat (D.int (((k-O5 m l s j:Nat):Int)-((E9 m l (B1 m.2 s j):Nat):Int)))),_,_];rw[e1];exact ih
def wbLa:WS:=(A6 (C2 7 ?A5) (A6 (Q2a wtN wbN) (A6 (M8 3 (B4 (A3 A8 (wC (.str "01ab")) (wV 7)))) (C2 4 wGo))))
theorem Y3t (wf:C5 m){E:F9}  {w:?N}:∀(l k:Nat) (p u:?N) (o6 o7:Am Sl),B9 p->p.length+l<=1000->(acS m (E6 m p) l)[k]?=some u->w=p++u->(∀o4 o5 o6 o7,E.nx [some (.dat (mD m)),o1,o2,some (.own ((w.map L0).map D.str)),o4,o5,o6,o7]) ->
  E4 (B6 6) wbLa E (N5 m l).reverse [some (.dat (mD m)),o1,o2,some (.own ((p.map L0).map D.str)),some (.dat (iD (E6 m p))),some (.dat (iD k)),o6,o7]
 |0,k,p,u,o6,o7,hp,hl,hu,e,h=>by
  have e0:u=[]:=by
   rw[Z3n]at hu;split at hu
   ·have:=au hu;simpa using this
   ·cases hu
  subst e0;rw[b8]at e;subst e;exact h _ _ _ _
 |l+1,k,p,u,o6,o7,hp,hl,hu,e,h=>by
  have hs:=Q3j wf p hp;obtain⟨c,u',hc,h1,h2,e1,e2⟩:=W4m wf hs hu;have et:(N5 m (l+1)).reverse=.lst ((N4 m l).map iD)::(N5 m l).reverse:=by
   unfold N5;rw[dm,aX,List.reverse_append];rfl
  rw[et,E4,O0];unfold wbLa;rw[D6,G1,D5,J5];dsimp only;rw[D6];refine⟨c+1,?_⟩;have h0:O5 m l (E6 m p) 0=0:=rfl;refine W1g wf hs hc h1 h2 ?_ c 0 (?H);dsimp only;rw[D6,Q1s];k_ne;rw[F4,C8,D5,B0];refine⟨_,rfl,Y4r (Q3f hc) ?_⟩;refine⟨_,rfl,S5 (by rw[ai,ai];lia),?_⟩;dsimp only;rw[G1];refine goRd wf hs hc ?_;rw[J5];have es:E6 m (p++[c])=B1 m.2 (E6 m p) c:=Q5q m p c;have:=Y3t wf l (k-O5 m l (E6 m p) c) (p++[c]) u' (some (.dat (.lst ((N4 m l).map iD)))) (some (.dat (iD c))) (fun d hd=>by
   rcases aN.mp hd with q |q
   ·exact hp d q
   ·rw[aE.mp q];exact Q3f hc) (by rw[ao];simp only[aK,bX];lia) (by rw[es];exact e2) (by rw[e,e1,bW];rfl) h
  rw[es,aX,aX]at this;exact this
def sp_text_of_length_at:E3:=fun rs r=>∃(m:C9) (L k:Nat) (w:?N),rs=[.st (mD m),.bw (N5 m (L+1)),.st (iD k)]/\C5 m/\L<=1000/\((wl L).filter (G0 m))[k]?=some w/\r=.st (tD w)
theorem V5r:∀rs r,rs.length=3->sp_text_of_length_at rs r->W1c (S9 r) (E2 W4j rs):=by
 rintro rs r _ ⟨m,L,k,w,rfl,wf,hL,hw,rfl⟩;have hm:=Q1m.mp (br.mp (au hw)).1;unfold W1c;rw[D6,G1,s_lst,C6];refine⟨_,rfl,sz (?G),?_⟩;rw[X4];dsimp only;rw[D6,G1,D5,J5];dsimp only;rw[D6,G1,B0];k_ne;show V1 (.st (iD k)) _;rw[J5];dsimp only;rw[D6,Y8,V6o];simp only[C7,F4,s_sl,B0,s_oN,s_oS,Q5o,D5,C6];k_ne;simp only[Q5l,V1k,V1n,Y3b,Y9p];k_ne;rw[Y3b,Y9p];refine Y3t (w:=w) wf L k [] w none none (fun d hd=>by cases hd) ?U hw rfl fun o4 o5 o6 o7=>?_;dsimp only;rw[P9,Y8c,D5];k_ne;rw[B0];refine⟨_,rfl,_,_,rfl,Z7u _,?_,?_⟩
 ·rw[Z7v hm.1];have:(Str.ofString "").length=0:=rfl;show w.length+_*(Str.ofString "").length<=_;rw[this,Nat.mul_zero,hm.2];lia
 ·show R.st _=R.st _;rw[show Txt.join "" (w.map L0)=O1 w from Y4s hm.1]
def Bnd (m:C9)(n B:Nat):Prop:=(n+1)*?L<=B\/n<(D7 m B).length
def Q5p (C:Ap):Q3r:=fun rs Po=>∃(m:C9) (n:Nat),rs=[.st (mD m),.st (iD n)]/\C5 m/\?L<=20000/\(∃B,B<=900/\Bnd m n B)/\(∀w j,(D7 m j)[n]?=some w->Po (.ok (.st (tD w))))/\((∀j,(D7 m j).length<=n)->Po (.ex C))
def V0q (C:Ap):Y0q (Q5p C):=by rintro rs P Q f ⟨m,n,e,h1,h2,h3,h4,h5⟩;exact⟨m,n,e,h1,h2,h3,fun w j h=>f _ (h4 w j h),fun h=>f _ (h5 h)⟩
def Q9m:WE:=(A3 A8 (A3 A8 (wV 4) (Q0q ?X)) ?A5)
def topT (wf:C5 m){j:Nat}  {Q:R->Prop}(q:Q (.st (iD (E9 m j 0)))):Q9m [o0,o1,o2,o3,some (.own (N5 m (j+1)))] Q:=by
 unfold Q9m;simp only[C8,B0,Q5o,D5];k_ne;rw[Q5l];show A8 (.bw (N5 m (j+1))) (.st (.int (-1))) _;rw[Q1c];refine⟨_,Y9q m j,?_⟩;exact Q8j wf (.inr rfl) (g:=0) wf.pos q
def Z9p:WT:=(A3 (K8 fun i j=>decide (j<=i)) (wV 3) Q9m)
def Y9s (wf:C5 m){j x:Nat}  {Q:Bool->Prop}(q:Q (decide (((E9 m j 0:Nat):Int)<=(x:Int)))):Z9p [o0,o1,o2,some (.dat (iD x)),some (.own (N5 m (j+1)))] Q:=by
 unfold Z9p;rw[C8,B0];exact⟨_,rfl,topT wf q⟩
def wtXa:WT:=(Q5s (A3 (X1 true) (wV 2) (wC .non)) (A3 (K8 fun i j=>decide (j<i)) (D8 F2 (A1 (wV 4) A4)) (wV 2)))
theorem V8x {d:D}(hd:Q2e m d){j:Nat}  {Q:Bool->Prop}(q:Q (!Q5k d (j+1))):wtXa [o0,o1,some (.dat d),o3,some (.own (N5 m (j+1)))] Q:=by
 unfold wtXa;rw[Y7s];simp only[C8,B0,D5,K9,C7,C6];have int:∀i:Int,d=.int i->∃s,([o0,o1,some (.dat d),o3,some (.own (N5 m (j+1)))]:C3)[4]?=some (some s)/\F2 [S4 s] fun y=>∃s,([o0,o1,some (.dat d),o3,some (.own (N5 m (j+1)))]:C3)[2]?=some (some s)/\K8 (fun i j=>decide (j<i)) y (S4 s) Q:=by
  intro i e;subst e;k_ne;rw[X3,Q0m];k_ne;show K8 _ (.st (.int _)) (.st (.int i)) _;rw[Q0l];have e:decide (i<((N5 m (j+1)).length:Int))=!decide (((j+1:Nat):Int)<=i):=by
   rw[show((N5 m (j+1)).length:Int)=((j+1:Nat):Int)by simp]
   by_cases z:i<((j+1:Nat):Int)
   ·rw[bO z,aW (?H)];rfl
   ·rw[aW z,bO (?H)];rfl
  rw[e];exact q
 refine⟨_,rfl,_,rfl,rfl,?_⟩;rcases hd with⟨e,_⟩ |⟨L,e,_⟩ |⟨e,_⟩
 ·have:=int _ e;subst e;exact this
 ·have:=int _ e;subst e;exact this
 ·subst e;exact q
theorem Y9k {d:D}(hd:Q2e m d){j:Nat}(hm:Q5k d (j+1)=false)(hu:(D7 m (j+1)).length<=n)(i:Nat):(D7 m i).length<=n:=by
 have hs:∀w,O7 m w->w.length<j+1:=by
  rcases hd with⟨e,hd⟩ |⟨L,e,_,hd⟩ |⟨e,_⟩
  ·exact fun w hw=>absurd hw (hd w)
  ·subst e;have:decide (((j+1:Nat):Int)<=(L:Int))=false:=hm;simp at this;intro w hw;have:=hd w hw;lia
  ·subst e;cases hm
 rcases nY i (j+1)with q |q
 ·exact aU (Q7p m q).length_le hu
 ·rw[V9v q hs];exact hu
theorem Y3z (wf:C5 m){d:D}(hd:Q2e m d){j B:Nat}(hb:Bnd m n B)(hB:B<=j)(hu:(D7 m (j+1)).length<=n):Q5k d (j+1)=false:=by
 rcases hb with hb |hb
 rotate_left
 ·have:=(Q7p m (show B<=j+1 by lia)).length_le;lia
 have hj:(n+1)*?L<=j:=aU hb hB;have h1:?L<=(n+1)*?L:=Nat.le_mul_of_pos_left _ (?H);rcases hd with⟨e,hd⟩ |⟨L,e,he,hd⟩ |⟨e,hi⟩
 ·subst e;show decide (((j+1:Nat):Int)<=-1)=false;simp;lia
 ·subst e;have:=W8w wf hd he;show decide (((j+1:Nat):Int)<=(L:Int))=false;simp;lia
 ·have h2:=Z8c wf hi (n+1);have h3:=(Q7p m (show(n+1)*?L<=j+1 by lia)).length_le;lia
def Z9i (XE:Ap->Prop)(C:Ap):WS:=(A6 (N7 (Q5s (A3 (X1 true) (wV 2) (wC .non)) (A3 (K8 fun i j=>decide (j<i)) (D8 F2 (A1 (wV 4) A4)) (wV 2))) (Z8r XE C (wC (.str "fewer texts are accepted"))) M9) (A6 (Z3 3 (J1 NoC fun i j=>i-j) Q9m) (M8 4 (B4 (J8 Q1x (A1 (wV 0) (A1 (A3 A8 (wV 4) (Q0q ?X)) A4)))))))
theorem Y2b (wf:C5 m)(hl:?L<=20000)   {d:D}(hd:Q2e m d){j x:Nat}(hj:j<=10000)(hx:E9 m j 0<=x){E:F9}  (h1:Q5k d (j+1)=false->XE C)(h2:Q5k d (j+1)=true->E.nx [some (.dat (mD m)),o1,some (.dat d),some (.dat (iD (x-E9 m j 0))),some (.own (N5 m (j+1+1)))]):
  Z9i XE C E [some (.dat (mD m)),o1,some (.dat d),some (.dat (iD x)),some (.own (N5 m (j+1)))]:=by
 have tail:Q5k d (j+1)=true->(A6 (Z3 3 (J1 NoC fun i j=>i-j) Q9m) (M8 4 (B4 (J8 Q1x (A1 (wV 0) (A1 (A3 A8 (wV 4) (Q0q ?X)) A4)))))) E [some (.dat (mD m)),o1,some (.dat d),some (.dat (iD x)),some (.own (N5 m (j+1)))]:=by
  intro hm;rw[D6,Q7c];refine⟨_,rfl,topT wf ?_⟩;show J1 _ _ (.st (.int _)) (.st (.int _)) _;rw[Q6w];refine⟨trivial,?_⟩;rw[J5];dsimp only;rw[Q1s];k_ne;simp only[F4,R9,C7,B0,C8,Q5o,D5,C6];sleep 2;rw[Q5l];show A8 (.bw (N5 m (j+1))) (.st (.int (-1))) _;rw[Q1c];refine⟨_,Y9q m j,rfl,_,⟨m,_,j,rfl,.inr rfl,wf,hl,rfl⟩,?_⟩;rw[Y6k];refine⟨_,rfl,S5 ?U,?_⟩;have e1:D.int ((x:Int)-((E9 m j 0:Nat):Int))=iD (x-E9 m j 0):=by
   show D.int _=D.int _;congr 1;lia
  show E.nx [_,_,_,some (.dat (D.int ((x:Int)-((E9 m j 0:Nat):Int)))),some (.own (N5 m (j+1)++[.lst ((N4 m (j+1)).map iD)]))];rw[e1,V8w];exact h2 hm
 unfold Z9i;rw[D6,Y9];refine V8x hd ?_;cases hm:Q5k d (j+1)with
 |false=>
  rw[show(!false)=true from rfl,aO rfl];exact h1 hm
 |true=>
  rw[show(!true)=false from rfl,aI (?G),Z0];exact tail hm
theorem J0i (wf:C5 m)(hl:?L<=20000)   {d:D}(hd:Q2e m d){B:Nat}(hn:Bnd m n B)(hB:B<=900){E:F9}  (hx:(∀j,(D7 m j).length<=n)->XE C)
  (h:∀j,j<=B->(D7 m j).length<=n->n<(D7 m (j+1)).length->E.nx [some (.dat (mD m)),o1,some (.dat d),some (.dat (iD (n-(D7 m j).length))),some (.own (N5 m (j+1)))]):∀(f j:Nat),B<=f+j->j<=B->(D7 m j).length<=n ->
  G6 Z9p (Z9i XE C) (f+1) E [some (.dat (mD m)),o1,some (.dat d),some (.dat (iD (n-(D7 m j).length))),some (.own (N5 m (j+1)))]:=by
 intro f
 induction f with
 |zero=>
  intro j hf hj hu;rw[G6];refine Y9s wf ?_
  by_cases hz:E9 m j 0<=n-(D7 m j).length
  ·rw[aO (by simpa using hz)];rw[Q3z wf]at hz;have nF:(D7 m (j+1)).length<=n:=by rw[Q1z,ao];lia
   refine Y2b wf (?H) hd (?H) (by rw[Q3z wf];exact hz) (fun hm=>hx fun i=>?_) fun hm=>?_
   ·exact Y9k hd hm nF i
   ·exact absurd hm (by rw[Y3z wf hd hn (?H) nF];decide)
  ·rw[aI (by simpa using hz)];rw[Q3z wf]at hz;exact h j hj hu (by rw[Q1z,ao];lia)
 |succ f ih=>
  intro j hf hj hu;rw[G6];refine Y9s wf ?_
  by_cases hz:E9 m j 0<=n-(D7 m j).length
  ·rw[aO (by simpa using hz)];rw[Q3z wf]at hz;have nF:(D7 m (j+1)).length<=n:=by rw[Q1z,ao];lia
   refine Y2b wf (?H) hd (?H) (by rw[Q3z wf];exact hz) (fun hm=>hx fun i=>?_) fun hm=>?_
   ·exact Y9k hd hm nF i
   ·have lW:j+1<=B:=by
     rcases b7 j (B)with q |q
     ·exact q
     ·exact absurd hm (by rw[Y3z wf hd hn q nF];decide)
    have:=ih (j+1) (?H) lW nF;rw[Q3z wf];rw[show n-(D7 m (j+1)).length=n-(D7 m j).length-((wl j).filter (G0 m)).length by rw[Q1z,ao];lia]at this;exact this
  ·rw[aI (by simpa using hz)];rw[Q3z wf]at hz;exact h j hj hu (by rw[Q1z,ao];lia)
theorem V5q (C:Ap):∀rs Po,rs.length=2->Q5p C rs Po->Z9c C Q7i Q4u Q1x sp_text_of_length_at (fun C=>Po (.ex C)) (Y0e Po) (E2 Y1b rs):=by
 rintro rs Po _ ⟨m,n,rfl,wf,hl,⟨B,hB,hn⟩,hok,hex⟩;unfold Z9c;rw[D6,G1,Q0o];simp only[C7,B0,C6];refine⟨_,rfl,rfl,m,rfl,wf,?H,fun d hd=>?_⟩;show V1 (.st d) _;rw[J5,D6,G1,B0];k_ne;show V1 (.st (iD n)) _;rw[J5];dsimp only;rw[D6,G1,s_lst];simp only[C7,F4,R9,B0,C6];refine⟨_,rfl,rfl,_,⟨m,rfl,?H,rfl⟩,?_⟩;rw[Y6k];refine⟨_,rfl,sz ?E,?_⟩;rw[X4];dsimp only;rw[D6];refine⟨B+1,?_⟩;refine J0i (XE:=fun C=>Po (.ex C)) (C:=C) wf hl hd hn hB hex (fun j hj h1 h2=>?_) _ 0 (?H) (bj _) (bj _);dsimp only;rw[P9];simp only[R9,C7,B0,C6];rw[Q1z,ao]at h2;have hk:n-(D7 m j).length<((wl j).filter (G0 m)).length:=?H
 refine⟨_,rfl,_,rfl,_,rfl,rfl,_,⟨m,j,n-(D7 m j).length,_,rfl,wf,?H,ac hk,rfl⟩,?_⟩;refine hok _ (j+1) ?_;rw[Q1z,aR h1,ac hk]
def Q1d (m:C9)(w:?N):Nat:=(D7 m w.length).length+idS m 0 w
theorem Z6s (wf:C5 m){w:?N}(h:O7 m w):(D7 m (w.length+1))[Q1d m w]?=some w:=by
 have h1:=Y4b wf w 0 wf.pos h.1 h.2;rw[Q1z,aR (by unfold Q1d;lia),show Q1d m w-(D7 m w.length).length=idS m 0 w by unfold Q1d;lia];exact h1
theorem W0e (m:C9):∀j,(D7 m j).Nodup
 |0=>by unfold D7;simp
 |j+1=>by
  rw[<-Z2a m j];exact(qP _ (W1l j)).imp fun h e=>by subst e;exact aS _ h
def V9w {i j a b:Nat}{w:?N}(h1:(D7 m i)[a]?=some w)(h2:(D7 m j)[b]?=some w):a=b:=by
 have up:∀{i k:Nat}{a:Nat},i<=k->(D7 m i)[a]?=some w->(D7 m k)[a]?=some w:=fun {i k a} h e=>by
  obtain⟨t,ht⟩:=Q7p m h;rw[<-ht,aJ (aD.mp e).1];exact e
 have h1:=up (eE i j) h1;have h2:=up (cU i j) h2;obtain⟨l1,e1⟩:=aD.mp h1;obtain⟨l2,e2⟩:=aD.mp h2;exact(Ag (W0e m _)).mp (e1.trans e2.symm)
def V4q (wf:C5 m){j:Nat}{w:?N}(h:(D7 m j)[n]?=some w):Q1d m w=n:=
 V9w (Z6s wf (Q4n.mp (au h)).1) h
theorem Y1p (rows:O (?N)):∀(w:?N) (i p:Nat),p<=w.length->(i::Q0v rows i w)[p]?=some (run (B1 rows) i (w.take p))
 |w,i,0,_=>rfl
 |[],i,p+1,h=>absurd h ?E
 |c::w,i,p+1,h=>by
  rw[nv,Q0v,Y1p rows w _ p (by rw[aK]at h;lia)];rfl
theorem V9a {w:?N}(hw:B9 w)(hl:w.length<=100000){p:Nat}(h:w[p]?=some c){Q:R->Prop}(q:Q (.st (.str (L0 c)))):A8 (.st (.str (O1 w))) (.st (.int (p:Int))) Q:=by
 have e:=Q7f hw;have e2:(K0 (O1 w))[p]?=some (.str (L0 c)):=by rw[e,ah,h];rfl
 unfold K0 at e2;rw[ah]at e2;obtain⟨c',e3,e4⟩:=fT.mp e2;refine⟨sz (by rw[Z8a hw];lia),c',R1 e3,?_⟩;rw[D.str.inj e4];exact q
theorem W9r {s:Nat}(hc:c<4):(B5.map (B1 m.2 s)).take c=(List.range c).map (B1 m.2 s):=by
 match c,hc with
 |0,_=>rfl
 |1,_=>rfl
 |2,_=>rfl
 |3,_=>rfl
def Q3i:E3:=fun rs r=>∃(m:C9) (w:?N),rs=[.st (mD m),.st (tD w)]/\C5 m/\?L<=20000/\B9 w/\w.length<=1000/\r=.st (if G0 m w=true then iD (Q1d m w)else .non)
def wbRk:WS:=(A6 (C2 8 (wSl (A3 A8 (wV 3) (A3 A8 (wV 4) (wV 7))) Z1d (Z1e (Q7s (wC (.str "01ab")) (A3 A8 (wV 1) (wV 7)))))) (A6 (Z3 5 (J1 NoC fun i j=>i+j) (A3 G2 (A3 A8 (wV 6) ?A5) (D8 Q2r (A1 (Q1 1 [6] (Q0z (wV 8)) (B6 0) S0 (B4 (A3 A8 (wV 1) (wV 0)))) A4)))) (C2 6 (J8 Q1x (A1 (wV 0) (A1 (wV 6) A4))))))
theorem V6a (p:Nat):Q1e (p+1)=iD p::Q1e p:=by
 unfold Q1e;rw[bF,av,aF];congr 1
 ·show D.int _=D.int _;congr 1;lia
 ·exact aT fun i _=>by show D.int _=D.int _;congr 1;simp;lia
theorem Y3u (wf:C5 m)(hl:?L<=20000){w:?N}(hw:B9 w)(kt:w.length<=1000){E:F9}  (h:∀o6 o7 o8,E.nx [some (.dat (mD m)),some (.dat (tD w)),o2,some (.dat (rsD m.2)),some (.own ((0::Q0v m.2 0 w).map iD)),some (.dat (iD (Q1d m w))),o6,o7,o8]):∀(p:Nat) (o7 o8:Am Sl),p<=w.length ->
  E4 (B6 7) wbRk E (Q1e p) [some (.dat (mD m)),some (.dat (tD w)),o2,some (.dat (rsD m.2)),some (.own ((0::Q0v m.2 0 w).map iD)),some (.dat (iD ((D7 m (w.length-p)).length+idS m (E6 m (w.take p)) (w.drop p)))),some (.own ((N4 m (w.length-p)).map iD)),o7,o8]
 |0,o7,o8,_=>by
  rw[nV,List.take_zero,kO];exact h _ _ _
 |p+1,o7,o8,hp=>by
  have hpl:p<w.length:=?H
  have hc:=hw w[p] (bo hpl);have hs:E6 m (w.take p)<?L:=Q3j wf _ fun d hd=>hw d (gp hd);have ed:w.drop p=w[p]::w.drop (p+1):=bZ hpl;have et:E6 m (w.take (p+1))=B1 m.2 (E6 m (w.take p)) w[p]:=by
   rw[List.take_add_one,ac hpl];exact Q5q m _ _
  have eg:(w.drop (p+1)).length=w.length-(p+1):=dY;rw[V6a,E4,O0];unfold wbRk;rw[D6,G1,s_sl];simp only[C8,B0,s_oN,s_oS,Y7z,D5];refine⟨_,rfl,_,rfl,_,rfl,?_⟩;show A8 (.bw ((0::Q0v m.2 0 w).map iD)) (.st (.int (p:Int))) _;rw[Q1c];refine⟨iD (E6 m (w.take p)),R1 (by rw[ah,Y1p m.2 w 0 p (?H)];rfl),?_⟩;refine M6 (i:=E6 m (w.take p)) (d:=rD (B5.map (B1 m.2 (E6 m (w.take p))))) (by rw[ah,Wf.rowEq wf hs];rfl) ?_;refine⟨_,rfl,_,rfl,_,rfl,V9a hw (?H) (ac hpl) ?_⟩;refine⟨_,w[p],rfl,Z5h hc,?_⟩;rw[Q5l];show slD (.st (.tup ((B5.map (B1 m.2 (E6 m (w.take p)))).map iD))) none (some ((w[p]:Nat):Int)) _;rw[V1m,W5z,<-List.map_take,W9r (Q2i hc),J5];rw[D6,Q7c];k_ne;simp only[C8,B0,D5,K9,C7,C6,Y7,Q4t];k_ne;show A8 (.bw ((N4 m (w.length-(p+1))).map iD)) (.st (.int ((0:Nat):Int))) _;refine Q8j wf (.inl rfl) wf.pos ?_;refine⟨_,rfl,_,rfl,sz (by have:=Q2i hc;simp;lia),?_⟩;refine Q0f (f:=fun d=>match d with |.int i=>iD (E9 m (w.length-(p+1)) i.toNat) |d=>d) (rest:=[some (.bor ((N4 m (w.length-(p+1))).map iD))]) _ none _ (fun d hd Q' q=>?_) ?_
  ·obtain⟨g,hg,rfl⟩:=aq.mp hd;obtain⟨c,j4,rfl⟩:=aq.mp hg;have oS:B1 m.2 (E6 m (w.take p)) c<?L:=Q1r wf hs (Q3f (by have:=aL.mp j4;have:=Q2i hc;lia));simp only[F4,C8,B0];sleep 2;exact Q8j wf (.inl rfl) oS (by simpa using q)
  ·show Q2r [.nw _] _;rw[Y8h];refine⟨(List.range w[p]).map fun d=>((E9 m (w.length-(p+1)) (B1 m.2 (E6 m (w.take p)) d):Nat):Int),?_,?_⟩
   ·show some _=some _;congr 1;rw[aF,aF,aF];exact aT fun g _=>by simp
   ·rw[sumI (f:=fun d=>E9 m (w.length-(p+1)) (B1 m.2 (E6 m (w.take p)) d))];show G2 (.st (.int _)) (.st (.int _)) _;rw[Y6];show J1 _ _ (.st (.int _)) (.st (.int _)) _;rw[Q6w];refine⟨trivial,?_⟩;rw[J5];rw[G1];simp only[R9,C7,B0,C6];refine⟨_,rfl,_,rfl,rfl,_,⟨m,_,w.length-(p+1),rfl,.inl rfl,wf,hl,rfl⟩,?_⟩;rw[X4];have ih:=Y3u wf hl hw kt h p (some (.dat (iD p))) (some (.dat (.tup (((List.range w[p]).map (B1 m.2 (E6 m (w.take p)))).map iD)))) (?H);have e1:(D7 m (w.length-p)).length+idS m (E6 m (w.take p)) (w.drop p)=(D7 m (w.length-(p+1))).length+idS m (E6 m (w.take (p+1))) (w.drop (p+1))+(E9 m (w.length-(p+1)) 0+((List.range w[p]).map fun d=>E9 m (w.length-(p+1)) (B1 m.2 (E6 m (w.take p)) d)).sum):=by
     rw[ed,idS,eg,<-et,show w.length-p=w.length-(p+1)+1 by lia,Q1z,ao,Q3z wf];lia
    rw[e1,show w.length-p=w.length-(p+1)+1 by lia]at ih;have e2:D.int (((((D7 m (w.length-(p+1))).length+idS m (E6 m (w.take (p+1))) (w.drop (p+1)):Nat)):Int)+(((E9 m (w.length-(p+1)) 0:Nat):Int)+((((List.range w[p]).map fun d=>E9 m (w.length-(p+1)) (B1 m.2 (E6 m (w.take p)) d)).sum:Nat):Int)))=iD ((D7 m (w.length-(p+1))).length+idS m (E6 m (w.take (p+1))) (w.drop (p+1))+(E9 m (w.length-(p+1)) 0+((List.range w[p]).map fun d=>E9 m (w.length-(p+1)) (B1 m.2 (E6 m (w.take p)) d)).sum)):=by
     show D.int _=D.int _;congr 1
    rw[<-e2]at ih;exact ih
theorem V5n:∀rs r,rs.length=2->Q3i rs r->W1b Z1r Q4u Q1x (S9 r) (E2 Y0z rs):=by
 rintro rs r _ ⟨m,w,rfl,wf,hl,hw,kt,rfl⟩;unfold W1b;rw[D6,Q7b];simp only[B0,Q1v,Q1t,O0,Q1u];refine⟨_,rfl,_,rfl,_,rfl,rfl,_,_,rfl,_,_,rfl,rfl,?_⟩;rw[D6,G1,Y7u];simp only[C7,B0,C6];refine⟨_,rfl,_,rfl,rfl,_,⟨m,0,w,rfl,wf,wf.pos,hw,?H,rfl⟩,?_⟩;rw[X4];rw[D6,Y9,Y8e,Q7e];simp only[C8,B0,Q5o,D5];sleep 2;obtain⟨l,e⟩:=Z3u m.2 w 0;rw[Q5l];show A8 (.bw ((0::Q0v m.2 0 w).map iD)) (.st (.int (-1))) _;rw[Q1c];refine⟨iD (run (B1 m.2) 0 w),by rw[e,aX];exact Z3v,?_⟩;refine M6 (i:=run (B1 m.2) 0 w) (Q6e (Z1l wf w 0 hw wf.pos)) ?_;rw[Z6g];cases ha:G0 m w with
 |false=>
  have t8:m.1.getD (run (B1 m.2) 0 w) false=false:=ha;rw[t8,show(!false)=true from rfl,aO rfl,P9,D5]
  rfl
 |true=>
  have t8:m.1.getD (run (B1 m.2) 0 w) false=true:=ha;rw[t8,show(!true)=false from rfl,aI (?G),Z0];dsimp only;rw[D6,G1,D5,J5];dsimp only;rw[D6,G1];simp only[R9,C7,B0,C6];refine⟨_,rfl,rfl,_,⟨m,rfl,hl,rfl⟩,?_⟩;rw[X4];rw[D6,Y8,V6n];simp only[C7,K9,B0,C6];k_ne;show F2 [.st (.str (O1 w))] _;rw[Z1f,Z8a hw];refine⟨sz (?H),_,rfl,?H,?H,?_⟩;rw[bL];have:=Y3u (E:={S9 (R.st (iD (Q1d m w)))with nx:=Q9l 5 (S9 (R.st (iD (Q1d m w))))}) (o2:=some (.dat (.tup (m.1.map .bl)))) wf hl hw kt (fun o6 o7 o8=>⟨_,rfl,rfl⟩) w.length none none (ak _);rw[Nat.sub_self,Ae,cX]at this;exact this
def V9g {G:Hp}  {Z:VS9}    (kz:Y.pn=[])(hex:Y.ex=[])(gv:Y.stack=Y.env::Y.outer/\Y.env.frame=some Y.env.locals){xD:Str}{D:Ap} 
  (OD:OwnCls xD D Q4o rQ Y.mg Y.base) (sO:Gl Y xD) (iL:∀C,XE C->Z2z Y.base C D)  {b₀:Aw}  {tb:TS}  {gL:Pos} (hb:T0 (Q2c Y G XE) body tb)
  (hs:∀C a pn,XE C->(∃oe,(a,oe)∈pn/\oe.cls=.ref C)->Y.s₀.heap.get? a=none->T0 (Y.hand a pn) (b₀::iW) (th C a)) {E:Q3s} (I:A0 Y [] σ H s) (cR:tb E σ H)
  (dF:∀C a H',XE C->A5 G H'->Y.s₀.heap.get? a=none->th C a {nx:=fun _ eR=>E.nx (Q2o Y) eR,rt:=E.rt,bk:=?A4,ct:=?A4} (Q2o Y) H') (eT:(xD==("__debug__":Str))=false:=by decide):
  wpAny (model Y.prog Y.w) Y.A (exec (.Try body [.ExceptHandler (some (.Name xD np)) none (b₀::iW) gL] [] [] pos) Y.env) (SP Y [] E) Z s:=by
 have gP:∀b:Ap,b∉Y.ex:=fun b z=>by rw[hex]at z;cases z
 refine wpAny_Try_except (aP (hb [] s σ H E (I.wish _) cR) (fun f s₁ q=>?_) fun e s₁ q=>?_)
 ·have q:=q.unwish;cases f with
  |next=>exact am q
  |brk=>exact q
  |cont=>exact q
  |ret u=>exact q
 ·obtain⟨σ₁,H₁,C,a,rfl,I₁,sm,F,hx⟩:=q;have lg:Y.A.frames=some (Y.env::Y.outer):=by rw[<-gv.1];exact I₁.ok.frames
  have stk:s₁.heap.FunFrames Y.base (Y.env::Y.outer):=by rw[<-gv.1];exact I₁.stack
  refine Y3p (P:=Y.prog) (w:=Y.w) (g:=Y.s₀.heap) lg gv.2 stk F I₁.hok (fun b o e=>I₁.base.there b o e (gP b)) fun h' N=>?_;have N':Q6b H₁ Y.s₀.heap s₁.heap h' (F3 Y.stack) C a:=by rw[gv.1];exact N
  have I₂:A0 Y [] σ₁ H₁ {s₁ with heap:=h'}:=Y4g (t':=s₁.toks) kz I₁ N' gv;have I₃:A0 (Y.hand a []) [] (Q2o Y) H₁ {s₁ with heap:=h'}:=Y4f I₂ ?E;obtain⟨nC,qC,NC,qA,nK,qr,pY,kS,qB,lu,qz,k0,k1,k2,k3,k5,qf,hC,gr⟩:=iL C hx;obtain⟨tl,ND,nD,qD,tT,sY,r8,mj,tY,nq,tQ,j0,j1,j2,j3,j5,mN,hD,yn,sC,T2⟩:=OD.obj;obtain⟨oe,vs,T,oT,ts,he,hc,hd,h1,p3,hT,kC,h3⟩:=N.tr;refine wpAny_handleBy_cons (codeAny_handlers_test (Q6r (X:=Y.hand a []) I₃ sO OD.bound ?_ eT)) (by intro q;cases q);refine W6q (I₃.bk _ _ hC) (I₃.bk _ _ hD) he hc (T2.hasType eS.hasBase) gr ?_;refine codeAny_handlers_suite (wpAny_setFlight_none (tb:=T) (vs:=vs) he hd h1 hT kC (cA.mp h3).1 ?_);have m3:H₁ T=none/\Y.s₀.heap.get? T=none:=by
   obtain⟨rn,ny,q1,q2,q3,q4⟩:=N.fly.there;rw[he]at q1;cases q1;rw[hd]at q3;cases q3;rcases q4 with q4 |⟨T',zC,zA,q4,_,q6,q7,_⟩
   ·rw[h1]at q4;cases q4
   ·rw[h1]at q4;cases q4;exact⟨q6,q7⟩
  have gn:∀b,b≠T->(h'.update T (Obj.mapFields (·.setIfInBounds 3 Value.none))).get? b=h'.get? b:=fun b hb=>bM _ _ (bN hb);have p5:=cF (Obj.mapFields (·.setIfInBounds 3 Value.none)) hT (Obj.isFreed_of_fields (fQ kC _));have n8:(Obj.mapFields (·.setIfInBounds 3 Value.none) oT).data=.fields (ts.setIfInBounds 3 .none):=fQ kC _;have v6:(ts.setIfInBounds 3 Value.none)[3]?=some Value.none:=by
   have:=(cA.mp h3).1;simp[Array.getElem?_setIfInBounds,this]
  have sU:(h'.update T (Obj.mapFields (·.setIfInBounds 3 Value.none))).get? a=some oe:=(gn a (bN p3)).trans he;have N2:Q6b H₁ Y.s₀.heap h' (h'.update T (Obj.mapFields (·.setIfInBounds 3 Value.none))) (F3 Y.stack) C a:=by
   refine⟨⟨[T],fun b hb=>?_,fun b o e _ hb=>?_⟩,fun b o e k8=>?_,⟨N.fly.free,N.fly.new,oe,vs,sU,hc,hd,.inr ⟨T,_,_,h1,p3,m3.1,m3.2,p5,n8,v6⟩⟩,oe,vs,T,_,_,sU,hc,hd,h1,p3,p5,n8,v6⟩
   ·cases aE.mp hb;exact⟨m3.1,m3.2,oT,ts,hT,kC⟩
   ·rw[gn b (fun z=>hb (aE.mpr z))];exact e
   ·refine⟨o.slots,?_⟩;rw[gn b (fun z=>by rw[z,hT]at e;cases e;exact k8 _ kC)];exact e
  have I₄:=Y4g (t':=s₁.toks) (h':=h'.update T (Obj.mapFields (·.setIfInBounds 3 Value.none))) kz I₂ N2 gv;have lM:∀(b:Ap) (o:Obj) (us:Array An),(h'.update T (Obj.mapFields (·.setIfInBounds 3 Value.none))).get? b=?P->o.data=.fields us->H₁ b=none->(h'.update T (Obj.mapFields (·.setIfInBounds 3 Value.none))).get? b=?P/\H₁ b=none/\b≠Y.env.locals/\b∉Y.fs/\∀v,o.data≠.cell v:=fun b o us e hd hH=>by
   refine⟨e,hH,fun z=>?_,fun z=>?_,fun v z=>by rw[hd]at z;cases z⟩
   ·obtain⟨m,⟨o2,es,ep,q1,q2,_⟩,_⟩:=I₄.loc;rw[<-z]at q1;cases (e.symm.trans q1);rw[hd]at q2;cases q2
   ·obtain⟨o2,q1,q2⟩:=Q5e I₄.funs b z;cases (e.symm.trans q1);exact q2 _ hd
  have I₅:A0 (Y.hand a [(a,oe),(T,_)]) [] (Q2o Y) H₁ _:=Y4f I₄ (fun p hp=>by
   rcases ar.mp hp with rfl |hp
   ·exact lM a oe vs sU hd N.fly.free
   ·cases aE.mp hp;exact lM T _ _ p5 n8 m3.1)
  refine aP (hs C a _ hx ⟨oe,aj,hc⟩ N.fly.new [] _ _ H₁ _ I₅ (dF C a H₁ hx sm N.fly.new)) (fun f s₆ q=>?_) fun _ _ z=>False.elim z;cases f with
  |next=>
   obtain⟨σ',H',J,q⟩:=q;obtain⟨m,hn,_⟩:=J.loc;exact⟨Q2o Y,H',Y4i (t':=s₆.toks) I₁.ok kz J hn (g8 _ _),q⟩
  |ret u=>
   obtain⟨v,σ',H',J,r,q⟩:=q;obtain⟨m,hn,_⟩:=J.loc;exact⟨v,Q2o Y,H',Y4i (t':=s₆.toks) I₁.ok kz J hn (g8 _ _),r,q⟩
  |brk=>obtain⟨_,_,_,q⟩:=q;exact False.elim q
  |cont=>obtain⟨_,_,_,q⟩:=q;exact False.elim q
def W4w {bm:O An}{id:String}   (Ak:OwnCls x C bm id mg h):Z2z h C C:=by
 obtain⟨tl,ND,nD,qD,tT,sY,r8,mj,tY,nq,tQ,j0,j1,j2,j3,j5,mN,hD,yn,sC,T2⟩:=Ak.obj;exact⟨_,_,_,_,_,_,_,_,_,_,_,_,_,_,_,_,_,hD,by rw[vW,Ab,nZ]⟩
def W0o (N:O Str)(XE:Ap->Prop)(wb:(Ap->Prop)->WS)(wh:Ap->Ap->WS)(wr:WS):WS:=fun E τ=>
 ∃kJ:Ap->Prop,(∀C,kJ C->XE C)/\wb kJ {E with nx:=wr E} τ/\∀C a,kJ C->wh C a {nx:=fun _=>wr E (Q6v N),rt:=E.rt,bk:=fun _=>False,ct:=fun _=>False} (Q6v N)
section
variable {w:Av}{K:Fg9}
def W3e {k:Nat}{sp:J4}(F:Fun K x qual st f fd)(S:T9 N ps (B8 st)){rest:O Aw}{b₀:Aw}{xD:Str}{gL:Pos}{D:Ap} 
   {wb:(Ap->Prop)->WS}  {wr:WS} (ke:K6 st=.Try body [.ExceptHandler (some (.Name xD np)) none (b₀::iW) gL] [] [] pos::rest)
  (OD:OwnCls xD D Q4o rQ mg base) (iL:∀C,XE C->Z2z base C D)
  (sO:∀(cdv:An) (A:As) (outer:O Env) (s:Ao) (H:Hp) (E:XK),Gl (?Y) xD)
  (bS:∀(cdv:An) (A:As) (outer:O Env) (s:Ao) (H:Hp) (E:XK) (kJ:Ap->Prop),Q0d ts H->?A0 ->
   A7 (Q2c (?Y) H kJ) H body (wb kJ))
  (jY:∀(cdv:An) (A:As) (outer:O Env) (s:Ao) (H:Hp) (E:XK) (C a:Ap) (pn:Pn9),Q0d ts H->?A0->XE C->(∃oe,(a,oe)∈pn/\oe.cls=.ref C)->s.heap.get? a=none ->
   A7 ((?Y).hand a pn) H (b₀::iW) (wh C a))
  (oG:∀(cdv:An) (A:As) (outer:O Env) (s:Ao) (H:Hp) (E:XK),Q0d ts H->?A0 ->
   A7 (?Y).nox H rest wr)
  (hw:∀rs Pr,rs.length=ps.length->sp rs Pr->W0o N XE wb wh wr (O9 Pr) (E2 N rs)) (eT:(xD==("__debug__":Str))=false:=by decide):FnT P w K mg base ts (k+1) f fd ps sp:=by
 obtain⟨oc,od,kV,dG,pm,an,cdv,ct,fK,rfl,lk,fA⟩:=F.ex;refine W6u lk fA S (fun vs H Q E h=>?_) fun A outer s H vs Q E hr h s1 I=>?_
 ·obtain⟨rs,Pr,hl,al,_⟩:=h;rw[<-al.length];exact hl
 obtain⟨rs,Pr,hl,al,ok,hT,h1,h2⟩:=h;obtain⟨kJ,ij,q1,q2⟩:=hw (rs.map nrm) Pr (by rw[ai];exact hl) h1;rw[Q7m]at q1;have hb:=bS cdv A outer s H E kJ hT hr;have ss:=oG cdv A outer s H E hT hr;have nn:=S.nd;have wF:Pr (.st .non)->∀H',A5 H H'->Q .non H':=fun e H' sm=>h2 _ .non H' e sm (Q5b (K:=K) (H:=H'));have rg:∀r',Pr r'->∀v H',A5 H H'->E7 K H H' r' v->Q v H':=fun r' e v H' sm ir=>h2 r' v H' e sm ir;have uz:∀Hs,(O9 Pr).Le (N9 K H Hs {nx:=fun _ H'=>Q .non H',rt:=Q}):=fun Hs=>⟨fun τ h σ H' _ hR=>wF h H' hR.same,fun r' h v H' sm ir=>rg r' h v H' sm ir,fun _ h=>False.elim h,fun _ h=>False.elim h⟩
 have sX:K6 st=_:=ke;show wpAny _ _ (execs (K6 st) _) _ _ s1;rw[sX];refine dz (B3 (V9g (Y:=?Y) (G:=H) (XE:=kJ) (tb:=Q8r K H (wb kJ)) (th:=fun C a=>Q8r K H (wh C a)) (E:={nx:=Q8r K H wr {nx:=fun _ H'=>Q .non H',rt:=Q},rt:=Q}) rfl rfl ⟨rfl,rfl⟩ OD (sO cdv A outer s H E) (fun C hx=>iL C (ij C hx)) hb.ps (fun C a pn hx hp hn=>(jY cdv A outer s H E C a pn hT hr (ij C hx) hp hn).ps) I ?_ (fun C a H' hx sm hn=>?_) eT) fun fl s2 q=>?_)
 ·refine⟨E2 N rs,Q6y al ok,hb.mono _ _ _ ⟨fun τ h σ H' kp hR=>⟨τ,hR,ss.mono τ _ _ (uz _) h⟩,fun r' h v H' sm ir=>rg r' h v H' sm ir,fun _ h=>False.elim h,fun _ h=>False.elim h⟩ q1⟩
 ·refine⟨Q6v N,Y7m sm,(jY cdv A outer s H E C a _ hT hr (ij C hx) ⟨⟨.ref C,none,.fields #[],#[]⟩,aE.mpr rfl,rfl⟩ hn).mono _ _ _ ⟨fun τ h σ eR kp hR=>⟨Q6v N,Y7m hR.same,ss.mono _ _ _ (uz _) h⟩,fun r' h v H' sm ir=>rg r' h v H' sm ir,fun _ h=>False.elim h,fun _ h=>False.elim h⟩ (q2 C a hx)⟩
 ·cases fl with
  |next=>
   obtain⟨σ',H',I',q⟩:=q;exact ss.ps.nox [] s2 σ' H' _ I' q
  |ret v=>exact q
  |brk=>exact q
  |cont=>exact q
end
def Q3b (a c:Int)(x y:Str):Bool:=if a=c then(if x=y then false else decide (y.cps.toList<x.cps.toList))else decide (c<a)
def V4r (A:As)(s:Ao)(a:Int)(t:Tok)(c:Int)(u:Tok)(prog:Au)(w:Av)(E:VS9)(Q:VS9)(h:Q (.bool (decide (c<a))) s):
  wpAny ?V A (richCompare .Gt (.int a t) (.int c u)) Q E s:=
 (PyProof.Rows.gt_int h:wpAny ?V A (compareOp .Gt (.int a t) (.int c u)) Q E s)
def V4s (A:As)(s:Ao)(x:Str)(t:Tok)(y:Str)(u:Tok)(prog:Au)(w:Av)(E:VS9)(Q:VS9)(h:Q (.bool (decide (y.cps.toList<x.cps.toList))) s):
  wpAny ?V A (richCompare .Gt (.str x t) (.str y u)) Q E s:=
 (PySem.P.gt_str h:wpAny ?V A (compareOp .Gt (.str x t) (.str y u)) Q E s)
section
open PySem.SeqAt
open PySem.AutoSeq1 (wpAny_loadPart')
open PySem.MeetsSeq PySem.MeetsSeq2 PySem.MeetsSeq3
def V9i (l b:Ap)(a c:Int)(x y:Str)(t t' u u':Tok)(n n2:Nat)(dd m9:Am Ap)(sl jy:Array (Am An)):
  Meets (Builtin.«tuple.__gt__» ⟨[.ref l,.ref b],[]⟩)
   (fun _ R s=>s.heap.get? l=some {cls:=.type "tuple",dict:=dd,data:=.seq #[.int a t,.str x u] n,slots:=sl}/\?A6=some {cls:=.type "tuple",dict:=m9,data:=.seq #[.int c t',.str y u'] n2,slots:=jy} /\
    R (.ok (.ret (.bool (Q3b a c x y)))) s):=
 .of_wp fun prog w A R s h=>by
  obtain⟨hp,g,d,tk,os⟩:=s;obtain⟨hl,hb,h⟩:=h;have f2:=AutoSeq1.sub_tuple_tuple
  wp_walk using wpAny_loadPart' hl,wpAny_loadPart' hb,wpAny_forIn_list _ (fun rest b s'=>b.1=none/\s'=⟨hp,g,d,tk,os⟩/\(rest=[(.int a t,.int c t'),(.str x u,.str y u')]\/(a=c/\rest=[(.str x u,.str y u')])\/(a=c/\x=y/\rest=[]))) _
  case turn=>
   rintro ⟨p,q⟩ rest b s' ⟨gM,rfl,hz⟩;rcases hz with hz |⟨e0,hz⟩ |⟨_,_,hz⟩
   ·injection hz with iK iJ
    cases iK;refine aa (SeqAt.EqAt.int_int a t c t' prog w _ _ ?_)
    by_cases e:a=c
    ·rw[show(a==c)=true by simpa using e]
     wp_walk
     exact⟨rfl,rfl,.inr (.inl ⟨e,iJ⟩)⟩
    ·rw[show(a==c)=false by simpa using e];have su:=V4r A.in1 ⟨hp,g,d,tk,os⟩ a t c t' prog w
     wp_walk using su
     unfold Q3b at h;rw[aI e]at h;exact⟨_,rfl,by simpa using h⟩
   ·injection hz with iK iJ
    cases iK;refine aa (SeqAt.EqAt.str_str x u y u' prog w _ _ ?_)
    by_cases e:x=y
    ·rw[show(x==y)=true by simpa using e]
     wp_walk
     exact⟨rfl,rfl,.inr (.inr ⟨e0,e,iJ⟩)⟩
    ·rw[show(x==y)=false by simpa using e];have su:=V4s A.in1 ⟨hp,g,d,tk,os⟩ x u y u' prog w
     wp_walk using su
     unfold Q3b at h;rw[aO e0,aI e]at h;exact⟨_,rfl,by simpa using h⟩
   ·cases hz
  case fin=>
   rintro ⟨b1,b2⟩ s' ⟨gM,rfl,hz⟩;simp only at gM;subst gM;rcases hz with hz |⟨e0,hz⟩ |⟨e0,e1,_⟩
   ·cases hz
   ·cases hz
   ·unfold Q3b at h;rw[aO e0,aO e1]at h
    wp_walk
    exact⟨_,rfl,by simpa [Builtin.Tuple.tupleCompareSizes]using h⟩
  case h=>
   exact⟨rfl,rfl,.inl rfl⟩
end
def gtD (x y:R)(Q:Bool->Prop):Prop:=∃a p c q,x=.st (.tup [.int a,.str p])/\y=.st (.tup [.int c,.str q])/\Q (Q3b a c p q)
def W7b:Q0c gtD:=fun x y P Q g h=>by
 obtain⟨a,p,c,q,h1,h2,h3⟩:=h;exact⟨a,p,c,q,h1,h2,g _ h3⟩
theorem Y6t {K:Fg9}  {a:Int}{p:Str}  (h:AllS K H [.int a,.str p] xs)  (r:C0 xs aY):∃t u,aY=[.int a t,.str p u]:=by
 unfold AllS at h;obtain⟨v,vs,rfl,h1,h2⟩:=h;unfold AllS at h2;obtain⟨v',ny,rfl,h3,h4⟩:=h2;unfold AllS at h4;subst h4;unfold A2 at h1 h3;subst h1 h3;cases r with
 |cons r1 r2=>
  obtain⟨t,rfl⟩:=r1;cases r2 with
  |cons r3 r4=>
   obtain⟨u,rfl⟩:=r3;cases r4;exact⟨t,u,rfl⟩
def W5n (hu:X.A.units+1<cLine):X7 X .Gt gtD:=by
 intro ae s σ H x y v u Q I rx ry ⟨r1,r2,h1,h2,a,p,c,q,e1,e2,hq⟩;subst e1 e2
 replace h1:A2 X.K H (.tup [.int a,.str p]) x:=h1
 replace h2:A2 X.K H (.tup [.int c,.str q]) y:=h2
 unfold A2 at h1 h2;obtain⟨l,xs,rfl,s1,a1⟩:=h1;obtain⟨b,ys,rfl,s2,a2⟩:=h2;cases rx;cases ry;obtain⟨aY,q1,p1,_⟩:=I.tuple (D9.of s1);obtain⟨dB,q2,p2,_⟩:=I.tuple (D9.of s2);obtain⟨t,w,rfl⟩:=Y6t a1 q1;obtain⟨t',w',rfl⟩:=Y6t a2 q2;obtain⟨⟨cls,dd,data,sl⟩,ho,hc,n,hd⟩:=p1;obtain⟨⟨pE,m9,data2,jy⟩,jC,j4,n2,kD⟩:=p2;simp only at hc hd j4 kD;subst hc hd j4 kD;exact richCompare_meets_room (op:=.Gt) ⟨_,ho,rfl⟩ ⟨_,jC,rfl⟩ PySem.F.slot_tuple_gt PySem.F.entry_tuple_gt (PySem.F.args_tuple_gt_2 _ _) (V9i l b a c p q t t' w w' n n2 dd m9 sl jy)
  ⟨ho,jC,show Value.bool (Q3b a c p q)≠Value.notImplemented/\_ from⟨(fun x=>nomatch x),⟨.bl (Q3b a c p q),H,I,rfl,hq⟩⟩⟩ (Nat.lt_of_succ_lt hu)
theorem same {r1 r2:R}{d:D}  {neg:Bool}{Q:Bool->Prop}(h1:r1.d=some d)(h2:r2.d=some d)(hd:d.depth<=n)(q:Q (!neg)):T5 n neg r1 r2 Q:=by intros;simp_all[Q7x]
section
abbrev Z3h:O Str:=["_law_told_here","_law_number"]
def Z9j (Q5p:Q3r)(XE:Ap->Prop):WS:=(J3 (W0n XE Q5p (A1 (wV 0) (A1 (wV 1) A4))))
def W1f (a:Ap):WS:=(J3 (wC .non))
def W1m:WS:=M9
abbrev W4e:O Str:=["_law_script","_law_told_here","_law_other","_law_greater","_law_last","_law_k","_law_number","_law_text_here","_law_here"]
def W0u (eJ:E3)(jf:J4)(ck:E3)(fR:J4)(gh:E3)(Q3i:E3)(i7:E3):WS:=(A6 (C2 1 (J8 eJ (A1 (wV 0) (A1 ?A5 (A1 (wC (.int 4)) A4))))) (A6 (C2 2 (J8 eJ (A1 (wV 0) (A1 (wC (.int 60)) (A1 (wC (.int 4)) A4))))) (A6 (C2 3 (S6 jf (A1 (wV 1) (A1 (wV 2) A4)))) (A6 (C2 4 (wC .non)) (A6 (Q8 (Q4f (A1 (wC (.int 6)) A4)) (B6 5) (A6 (C2 6 (A3 A8 (S7 (A1 (B4 (wV 5)) (A1 (B4 (A3 G2 (wV 5) ?X)) (A1 (B4 (J8 ck (A1 (wV 0) (A1 (A3 G2 (wC (.int 120)) (wV 5)) (A1 (wC (.int 9)) A4))))) A4)))) (A3 (J1 (fun _ j=>0<j) fun i j=>i % j) (wV 5) (wC (.int 3))))) (A6 (C2 7 (S6 fR (A1 (wV 1) (A1 (wV 6) A4)))) (N7 (A3 (X1 true) (wV 7) (wC .non)) (A6 (N7 (wOr (Q9j (Q3m (J8 gh (A1 (wV 1) (A1 (wV 7) A4))))) (wOr (A3 neD (J8 Q3i (A1 (wV 1) (A1 (wV 7) A4))) (wV 6)) (A3 (K8 fun i j=>decide (i<j)) (J8 Q3i (A1 (wV 3) (A1 (wV 7) A4))) (wV 6)))) (J3 (wC (.bl false))) M9) (A6 (C2 8 (X6 (A1 (B4 (D8 F2 (A1 (wV 7) A4))) (A1 (B4 (wV 7)) A4)))) (A6 (N7 (Q5s (A3 (X1 true) (wV 4) (wC .non)) (A3 neD (wB (A3 (K8 fun i j=>decide (j<i)) (wV 6) (A3 A8 (wV 4) ?A5))) (wB (A3 gtD (wV 8) (A3 A8 (wV 4) ?X))))) (J3 (wC (.bl false))) M9) (C2 4 (X6 (A1 (B4 (wV 6)) (A1 (B4 (wV 8)) A4))))))) M9)))) (A6 (C2 7 (J8 i7 (A1 (wV 0) (A1 (wC (.int 130)) (A1 (wC (.int 9)) A4))))) (A6 (C2 6 (J8 Q3i (A1 (wV 1) (A1 (wV 7) A4)))) (A6 (N7 (A3 (T5 60 false) (wB (A3 (X1 false) (wV 6) (wC .non))) (J8 gh (A1 (wV 1) (A1 (wV 7) A4)))) (J3 (wC (.bl false))) M9) (J3 (Q9k (wB (A3 (X1 false) (wV 6) (wC .non))) (wB (A3 (T5 60 false) (S6 fR (A1 (wV 1) (A1 (wV 6) A4))) (wV 7)))))))))))))
def cod (c:Nat):Nat:=if c=0 then 48 else if c=1 then 49 else if c=2 then 97 else 98
theorem W5q {d:Nat}(hc:c<4)(hd:d<4):cod c<cod d ↔ c<d:=by
 unfold cod;split<;>split<;>(try split)<;>(try split)<;>(try split)<;>(try split)<;>lia
theorem W5p {d:Nat}(hc:c<4)(hd:d<4):cod c=cod d ↔ c=d:=by
 unfold cod;split<;>split<;>(try split)<;>(try split)<;>(try split)<;>(try split)<;>lia
def Y2z:∀{w:?N},B9 w->(O1 w).cps.toList=w.map cod:=by
 intro w hw;have key:∀(w:?N) (t:Str),B9 w->(w.foldl (fun t c=>t++L0 c) t).cps.toList=t.cps.toList++w.map cod:=by
  intro w
  induction w with
  |nil=>intro t _;simp
  |cons c w ih=>
   intro t hw;rw[cn,ih _ fun d hd=>hw d (ag _ hd),av];have hc:=hw c aj;have e:(t++L0 c).cps.toList=t.cps.toList++[cod c]:=by
    have h1:(t++L0 c).cps=t.cps++(L0 c).cps:=rfl;rw[h1,uf];congr 1;simp only[B5,ar,aV,bG]at hc;rcases hc with rfl |rfl |rfl |rfl<;>rfl
   rw[e,bW];rfl
 exact key w "" hw
theorem Y6h:∀(w v:?N) (p q:Nat),B9 w->B9 v->w.length=v.length->(w.foldl (fun n c=>4*n+c+1) p<v.foldl (fun n c=>4*n+c+1) q ↔ p<q\/(p=q/\w.map cod<v.map cod))
 |[],[],p,q,_,_,_=>by simp
 |c::w,d::v,p,q,hw,hv,hl=>by
  have hc:=Q2i (hw c aj);have hd:=Q2i (hv d aj);rw[cn,cn,Y6h w v _ _ (fun x hx=>hw x (ag _ hx)) (fun x hx=>hv x (ag _ hx)) (by simpa using hl),av,av,List.cons_lt_cons_iff,W5q hc hd,W5p hc hd]
  by_cases h:w.map cod<v.map cod<;>simp only[h,and_true,and_false,bG]<;>lia
theorem Y6g:∀(w v:?N),B9 w->B9 v->w.length<v.length->L4 w<L4 v:=by
 have lo:∀(w:?N) (p:Nat),4^w.length*(3*p+1)<=3*(w.foldl (fun n c=>4*n+c+1) p)+1:=by
  intro w
  induction w with
  |nil=>intro p;simp
  |cons c w ih=>
   intro p;have:=ih (4*p+c+1);rw[cn,aK,nW];refine aU ?_ this;rw[Nat.mul_assoc];exact u7 _ (?H)
 have hi:∀(w:?N) (p:Nat),B9 w->3*(w.foldl (fun n c=>4*n+c+1) p)+4<=4^w.length*(3*p+4):=by
  intro w
  induction w with
  |nil=>intro p _;simp
  |cons c w ih=>
   intro p hw;have:=ih (4*p+c+1) fun x hx=>hw x (ag _ hx);have hc:=Q2i (hw c aj);rw[cn,aK,nW];refine aU this ?_;rw[Nat.mul_assoc];exact u7 _ (?H)
 intro w v hw hv hl;have h1:=hi w 0 hw;have h2:=lo v 0;have h3:4^(w.length+1)<=4^v.length:=Nat.pow_le_pow_right (?G) hl;rw[nW]at h3;unfold L4;lia
theorem W7c {w v:?N}(hw:B9 w)(hv:B9 v):Q3b (w.length:Int) (v.length:Int) (O1 w) (O1 v)=decide (L4 v<L4 w):=by
 unfold Q3b;rcases zr w.length v.length with h |h |h
 ·rw[aI (?H),aW (?H),aW (by have:=Y6g w v hw hv h;lia)]
 ·rw[aO (?H),Y2z hw,Y2z hv];have k:=Y6h v w 0 0 hv hw h.symm
  by_cases e:O1 w=O1 v
  ·rw[aO e];have:=V8z hw hv e;subst this;exact(aW (aS _)).symm
  ·rw[aI e];refine Aa.mpr ?_;unfold L4;rw[k];simp
 ·rw[aI (?H),bO (?H),bO (Y6g v w hv hw h)]
def Q7q {i k a:Nat}{w:?N}(h:i<=k)(e:(D7 m i)[a]?=some w):(D7 m k)[a]?=some w:=by
 obtain⟨t,ht⟩:=Q7p m h;rw[<-ht,aJ (aD.mp e).1];exact e
def W0f {i j a:Nat}{w v:?N}(h1:(D7 m i)[a]?=some w)(h2:(D7 m j)[a]?=some v):w=v:=by
 have h1:=Q7q (eE i j) h1;have h2:=Q7q (cU i j) h2;rw[h1]at h2;exact aC h2
theorem V9u (m:C9):∀j,(D7 m j).Pairwise fun a b=>L4 a<L4 b
 |0=>List.Pairwise.nil
 |j+1=>by rw[<-Z2a m j];exact qP _ (W1l j)
theorem V9t {i j a b:Nat}{w v:?N}(h1:(D7 m i)[a]?=some w)(h2:(D7 m j)[b]?=some v):L4 v<L4 w ↔ b<a:=by
 have h1:=Q7q (eE i j) h1;have h2:=Q7q (cU i j) h2;obtain⟨l1,e1⟩:=aD.mp h1;obtain⟨l2,e2⟩:=aD.mp h2;have P:=List.pairwise_iff_getElem.mp (V9u m (max i j));rcases zr a b with h |h |h
 ·have:=P a b l1 l2 h;rw[e1,e2]at this;constructor<;>intro<;>lia
 ·subst h;rw[e1]at e2;subst e2;constructor<;>intro<;>lia
 ·have:=P b a l2 l1 h;rw[e1,e2]at this;constructor<;>intro<;>lia
theorem V8e {l1 l2:O α}(h:l1.Sublist l2):∀{a b:Nat}{w:α},l2.Nodup->l1[a]?=some w->l2[b]?=some w->a<=b:=by
 induction h with
 |slnil=>intro a b w _ h;simp at h
 |cons x h ih=>
  intro a b w nd h1 h2;obtain⟨n1,n2⟩:=bg.mp nd;cases b with
  |zero=>
   simp at h2;subst h2;exact absurd (h.subset (au h1)) n1
  |succ b=>have:=ih n2 h1 (by simpa using h2);lia
 |cons_cons x h ih=>
  intro a b w nd h1 h2;obtain⟨n1,n2⟩:=bg.mp nd;cases a with
  |zero=>exact bj _
  |succ a=>
   cases b with
   |zero=>
    simp at h1 h2;subst h2;exact absurd (h.subset (au h1)) n1
   |succ b=>have:=ih n2 (by simpa using h1) (by simpa using h2);lia
theorem Y3m {p q:α->Bool}:∀(l:O α),(∀x∈l,p x=true->q x=true)->(l.filter p).Sublist (l.filter q)
 |[],_=>List.Sublist.refl _
 |x::l,h=>by
  have ih:=Y3m l fun y hy=>h y (ag _ hy);rw[cJ,cJ]
  by_cases e:p x=true
  ·rw[aO e,aO (h x aj e)];exact ih.cons_cons _
  ·rw[aI e];split
   ·exact ih.cons _
   ·exact ih
theorem V4p {g:C9}(wg:C5 g)(sub:∀w,B9 w->G0 m w=true->G0 g w=true){j a:Nat}{w:?N}(h:(D7 m j)[a]?=some w):a<=Q1d g w:=by
 have hm:=Q4n.mp (au h);have h2:=Z6s wg (w:=w) ⟨hm.1.1,sub w hm.1.1 hm.1.2⟩;have h1:=Q7q (eE j (w.length+1)) h;have h2:=Q7q (cU j (w.length+1)) h2;refine V8e ?_ (W0e g _) h1 h2;have:max j (w.length+1)=(max j (w.length+1)-1)+1:=?H
 rw[this,<-Z2a,<-Z2a];exact Y3m _ fun x hx=>sub x (V0c.mp hx).1
def Q7k:J4:=fun rs Pr=>∃(m:C9) (n:Nat),rs=[.st (mD m),.st (iD n)]/\C5 m/\?L<=20000/\(∃B,B<=900/\Bnd m n B)/\(∀w j,(D7 m j)[n]?=some w->Pr (.st (tD w)))/\((∀j,(D7 m j).length<=n)->Pr (.st .non))
def Y5x:X9 Q7k:=by rintro rs P Q f ⟨m,n,e,h1,h2,h3,h4,h5⟩;exact⟨m,n,e,h1,h2,h3,fun w j h=>f _ (h4 w j h),fun h=>f _ (h5 h)⟩
def V5s (C:Ap):∀rs Pr,rs.length=2->Q7k rs Pr->W0o Z3h (fun c=>c=C) (Z9j (Q5p C)) (fun _ a=>W1f a) W1m (O9 Pr) (E2 Z3h rs):=by
 rintro rs Pr _ ⟨m,n,rfl,wf,hl,hn,h1,h2⟩;refine⟨fun c=>c=C/\∀j,(D7 m j).length<=n,fun c h=>h.1,?_,fun c a hc=>?_⟩
 ·unfold Z9j;rw[P9];refine⟨_,rfl,_,rfl,rfl,m,n,rfl,wf,hl,hn,fun w j e=>?_,fun h=>⟨rfl,h⟩⟩;exact h1 w j e
 ·show J3 (wC .non) _ _;rw[P9,D5];exact h2 hc.2
def Z1s:J4:=fun rs Pr=>∃ns:O Int,rs=[.st (scr ns)]/\ns.length<=63/\Pr (.st (.bl true))
abbrev lstD (n:Nat)(w:?N):D:=.tup [iD n,.tup [iD w.length,tD w]]
def Y0p (m:C9)(d:D):Prop:=d=.non\/∃n w j,(D7 m j)[n]?=some w/\d=lstD n w
def Z9g:WE:=(A3 A8 (S7 (A1 (B4 (wV 5)) (A1 (B4 (A3 G2 (wV 5) ?X)) (A1 (B4 (J8 Q7g (A1 (wV 0) (A1 (A3 G2 (wC (.int 120)) (wV 5)) (A1 (wC (.int 9)) A4))))) A4)))) (A3 (J1 (fun _ j=>0<j) fun i j=>i % j) (wV 5) (wC (.int 3))))
theorem rdN (hn:ns.length<=63){k:Nat}(hk:k<6)  {Q:R->Prop}(h:∀n,n<=10->Q (.st (iD n))):Z9g [some (.dat (scr ns)),o1,o2,o3,o4,some (.dat (iD k)),o6,o7,o8] Q:=by
 unfold Z9g;rw[C8,s_lst];simp only[C7,F4,B0,C8,D5,R9,C6];k_ne;rw[Q6,Q1o];k_ne;show G2 (.st (.int (k:Int))) (.st (.int 1)) _;rw[Y6,Q1o];k_ne;k_ne;show G2 (.st (.int 120)) (.st (.int (k:Int))) _;rw[Y6];refine⟨rfl,_,⟨ns,120+(k:Int),9,rfl,hn,?G,rfl⟩,?_⟩;have hd:=Q4b ns (120+(k:Int)) (m:=9) (?G);rw[show Y3 ns (120+(k:Int)) 9=(T4 ns (120+(k:Int)) 9:Int)from Q6h ns _ (m:=9) (?G),Q1o];refine⟨_,rfl,sz ?E,_,rfl,?_⟩;show J1 _ _ (.st (.int (k:Int))) (.st (.int 3)) _;rw[Q6w];refine⟨?G,?_⟩;rw[Y6l];have e:(k:Int) % 3=((k % 3:Nat):Int):=?H
 rw[e];have h3:k % 3<3:=Nat.mod_lt _ (?G);generalize k % 3=r at h3
 match r,h3 with
 |0,_=>exact⟨_,R1 rfl,h k (?H)⟩
 |1,_=>exact⟨_,R1 rfl,by have:=h (k+1) (?H);exact this⟩
 |2,_=>exact⟨_,R1 rfl,h (T4 ns (120+(k:Int)) 9) (?H)⟩
def Z9h:WS:=(A6 (N7 (wOr (Q9j (Q3m (J8 Z1q (A1 (wV 1) (A1 (wV 7) A4))))) (wOr (A3 neD (J8 Q3i (A1 (wV 1) (A1 (wV 7) A4))) (wV 6)) (A3 (K8 fun i j=>decide (i<j)) (J8 Q3i (A1 (wV 3) (A1 (wV 7) A4))) (wV 6)))) (J3 (wC (.bl false))) M9) (A6 (C2 8 (X6 (A1 (B4 (D8 F2 (A1 (wV 7) A4))) (A1 (B4 (wV 7)) A4)))) (A6 (N7 (Q5s (A3 (X1 true) (wV 4) (wC .non)) (A3 neD (wB (A3 (K8 fun i j=>decide (j<i)) (wV 6) (A3 A8 (wV 4) ?A5))) (wB (A3 gtD (wV 8) (A3 A8 (wV 4) ?X))))) (J3 (wC (.bl false))) M9) (C2 4 (X6 (A1 (B4 (wV 6)) (A1 (B4 (wV 8)) A4)))))))
theorem W4y {g:C9}(wf:C5 m)(hl:?L<=20000)(wg:C5 g)(hg:g.1.length<=20000)(sub:∀w,B9 w->G0 m w=true->G0 g w=true){j:Nat}{w:?N}(hw:(D7 m j)[n]?=some w)(kt:w.length<=900){d:D}(hd:Y0p m d){E:F9} 
  (h:∀o8,E.nx [o0,some (.dat (mD m)),o2,some (.dat (mD g)),some (.dat (lstD n w)),o5,some (.dat (iD n)),some (.dat (tD w)),o8]):
  Z9h E [o0,some (.dat (mD m)),o2,some (.dat (mD g)),some (.dat d),o5,some (.dat (iD n)),some (.dat (tD w)),o8]:=by
 have hm:=Q4n.mp (au hw);have hr:=V4q wf hw;have ij:=V4p wg sub hw;unfold Z9h;rw[D6,Y9,s_or,Y8e,Q7e,R9];simp only[C7,B0,C6];refine⟨_,rfl,_,rfl,rfl,_,⟨m,w,rfl,wf,hm.1.1,?H,rfl⟩,?_⟩;rw[Z6g,hm.1.2];show(if false=true then(_:Prop)else(_:Prop));rw[aI (?G),s_or,C8,R9];simp only[C7,B0,C6];refine⟨_,rfl,_,rfl,rfl,_,⟨m,w,rfl,wf,hl,hm.1.1,?H,rfl⟩,?_⟩;rw[aO hm.1.2,hr];refine⟨_,rfl,_,_,rfl,rfl,rfl,?_⟩;rw[Q7x];show(if false=true then(_:Prop)else(_:Prop));rw[aI (?G),C8,R9];simp only[C7,B0,C6];refine⟨_,rfl,_,rfl,rfl,_,⟨g,w,rfl,wg,hg,hm.1.1,?H,rfl⟩,?_⟩;rw[aO (sub w hm.1.1 hm.1.2)];k_ne;show K8 _ (.st (.int ((Q1d g w:Nat):Int))) (.st (.int (n:Int))) _;rw[Q0l,aW (?H),aI (?G),Z0];dsimp only;rw[D6,G1,s_tup];simp only[C7,F4,K9,B0,C6];k_ne;show F2 [.st (.str (O1 w))] _;rw[Z1f,Z8a hm.1.1];refine⟨sz (?H),?_⟩;rw[Q1o];k_ne;rw[Q6,Q1o];refine⟨_,rfl,sz ?E,?_⟩;rw[J5];have tail:(C2 4 (X6 (A1 (B4 (wV 6)) (A1 (B4 (wV 8)) A4)))) E [o0,some (.dat (mD m)),o2,some (.dat (mD g)),some (.dat d),o5,some (.dat (iD n)),some (.dat (tD w)),some (.dat (.tup [iD w.length,tD w]))]:=by
  rw[G1,s_tup];simp only[C7,F4,B0,C6];k_ne;rw[Q6,Q1o];k_ne;rw[Q6,Q1o];refine⟨_,rfl,sz ?E,?_⟩;rw[J5];exact h _
 show(A6 (N7 _ (J3 (wC (.bl false))) M9) (C2 4 (X6 (A1 (B4 (wV 6)) (A1 (B4 (wV 8)) A4))))) E [o0,some (.dat (mD m)),o2,some (.dat (mD g)),some (.dat d),o5,some (.dat (iD n)),some (.dat (tD w)),some (.dat (.tup [iD w.length,tD w]))];rw[D6,Y9,Y7s,C8];simp only[B0,D5];rcases hd with rfl |⟨b,v,i,hv,rfl⟩
 ·refine⟨_,rfl,_,rfl,rfl,?_⟩;show(if false=true then(_:Prop)else(_:Prop));rw[aI (?G)];show(if false=true then(_:Prop)else(_:Prop));rw[aI (?G),Z0];exact tail
 ·have xu:=(Q4n.mp (au hv)).1.1;refine⟨_,rfl,_,rfl,rfl,?_⟩;show(if true=true then(_:Prop)else(_:Prop));rw[aO rfl,C8,s_b];simp only[C8,B0,D5,s_b];refine⟨_,rfl,_,rfl,M6 (i:=0) (d:=iD b) rfl ?_⟩;show K8 _ (.st (.int (n:Int))) (.st (.int (b:Int))) _;rw[Q0l];refine⟨_,rfl,_,rfl,M6 (i:=1) (d:=.tup [iD v.length,tD v]) rfl ?_⟩;refine⟨_,_,_,_,rfl,rfl,?_⟩;rw[W7c hm.1.1 xu];have e:decide (L4 v<L4 w)=decide ((b:Int)<(n:Int)):=Aa.mpr (by rw[V9t hw hv];lia);rw[e];refine⟨_,_,rfl,rfl,rfl,?_⟩;rw[Q7x];show(if false=true then(_:Prop)else(_:Prop));rw[aI (?G),Z0];exact tail
def wbL:WS:=(A6 (C2 6 Z9g) (A6 (C2 7 (S6 Q7k (A1 (wV 1) (A1 (wV 6) A4)))) (N7 (A3 (X1 true) (wV 7) (wC .non)) Z9h M9)))
theorem V9r (wf:C5 m):(∀w,O7 m w->w.length<?L)\/Inf m:=by
 by_cases h:∀w,O7 m w->w.length<?L
 ·exact .inl h
 ·refine .inr fun N=>?_;have ⟨w,hw⟩:=qQ.mp h;have ⟨ha,hl⟩:=zu.mp hw;have key:∀N,∃w,O7 m w/\?L<=w.length/\N<=w.length:=by
   intro N
   induction N with
   |zero=>exact⟨w,ha,?H,bj _⟩
   |succ N ih=>
    obtain⟨u,hu,h1,h2⟩:=ih;obtain⟨v,v1,v2,v3⟩:=pump wf hu.1 hu.2 h1;exact⟨v,⟨v1,v2⟩,?H,?H⟩
  obtain⟨u,hu,_,h2⟩:=key N;exact⟨u,hu,h2⟩
theorem V9b (wf:C5 m)(h4:?L<=4){j:Nat}(hn:n<=10){w:?N}(hw:(D7 m j)[n]?=some w):w.length<=900:=by
 have hB:(n+1)*?L<=44:=aU (kN (show n+1<=11 by lia) h4) (?G);rcases V9r wf with fin |inf
 ·have:=fin w (Q4n.mp (au hw)).1;lia
 ·have many:=Z8c wf inf (n+1);have hL:n<(D7 m ((n+1)*?L)).length:=?H
  have e:(D7 m ((n+1)*?L))[n]?=some (D7 m ((n+1)*?L))[n]:=ac hL;have q:=W0f e hw;have:=(Q4n.mp (bo hL)).2;rw[q]at this;lia
theorem Z4u (hn:ns.length<=63){g:C9}(wf:C5 m)(h4:?L<=4)(wg:C5 g)(hg:g.1.length<=20000)(sub:∀w,B9 w->G0 m w=true->G0 g w=true){E:F9} 
  (h:∀(d:D) (o5 o6 o7 o8:Am Sl),E.nx [some (.dat (scr ns)),some (.dat (mD m)),o2,some (.dat (mD g)),some (.dat d),o5,o6,o7,o8]):∀(ks:?N) (d:D) (o5 o6 o7 o8:Am Sl),(∀k∈ks,k<6)->Y0p m d ->
  E4 (B6 5) wbL E (ks.map iD) [some (.dat (scr ns)),some (.dat (mD m)),o2,some (.dat (mD g)),some (.dat d),o5,o6,o7,o8]
 |[],d,o5,o6,o7,o8,_,_=>h d o5 o6 o7 o8
 |k::ks,d,o5,o6,o7,o8,hk,hd=>by
  rw[av,E4,O0];unfold wbL;rw[D6,G1];refine rdN hn (hk k aj) fun n sF=>?_;rw[J5];have hB:(n+1)*?L<=44:=aU (kN (show n+1<=11 by lia) h4) (?G);dsimp only;rw[D6,G1,Q0o];simp only[C7,B0,C6];refine⟨_,rfl,_,rfl,rfl,m,n,rfl,wf,?H,⟨_,?H,.inl (ak _)⟩,fun w j e=>?_,fun _=>?_⟩
  ·show V1 (.st (tD w)) _;rw[J5];rw[Y9];simp only[C8,B0,D5];refine⟨_,rfl,_,rfl,rfl,?_⟩;show(if true=true then(_:Prop)else(_:Prop));rw[aO rfl];exact W4y wf (?H) wg hg sub e (V9b wf h4 sF e) hd fun o8=>Z4u hn wf h4 wg hg sub h ks _ _ _ _ _ (fun q hq=>hk q (ag _ hq)) (.inr ⟨n,w,j,e,rfl⟩)
  ·show V1 (.st .non) _;rw[J5];rw[Y9];simp only[C8,B0,D5];refine⟨_,rfl,_,rfl,rfl,?_⟩;show(if false=true then(_:Prop)else(_:Prop));rw[aI (?G),Z0];exact Z4u hn wf h4 wg hg sub h ks _ _ _ _ _ (fun q hq=>hk q (ag _ hq)) hd
def wFin:WS:=(A6 (C2 7 (J8 Z7d (A1 (wV 0) (A1 (wC (.int 130)) (A1 (wC (.int 9)) A4))))) (A6 (C2 6 (J8 Q3i (A1 (wV 1) (A1 (wV 7) A4)))) (A6 (N7 (A3 (T5 60 false) (wB (A3 (X1 false) (wV 6) (wC .non))) (J8 Z1q (A1 (wV 1) (A1 (wV 7) A4)))) (J3 (wC (.bl false))) M9) (J3 (Q9k (wB (A3 (X1 false) (wV 6) (wC .non))) (wB (A3 (T5 60 false) (S6 Q7k (A1 (wV 1) (A1 (wV 6) A4))) (wV 7))))))))
theorem W8x (hn:ns.length<=63)  (wf:C5 m)(h4:?L<=4){Pr:R->Prop}(h:Pr (.st (.bl true)))  :
  wFin (O9 Pr) [some (.dat (scr ns)),some (.dat (mD m)),o2,o3,o4,o5,o6,o7,o8]:=by
 have hw:=Y9u ns 130 9;have kt:=Y9t ns 130 9;unfold wFin;rw[D6,G1];simp only[R9,C7,B0,D5,C6];refine⟨_,rfl,rfl,_,⟨ns,130,9,rfl,hn,?G,rfl⟩,?_⟩;rw[J5];generalize Q5r ns 130 9=w at hw kt;rw[D6,G1];simp only[R9,C7,B0,C6];refine⟨_,rfl,_,rfl,rfl,_,⟨m,w,rfl,wf,?H,hw,?H,rfl⟩,?_⟩;cases ha:G0 m w with
 |true=>
  have oX:=Z6s wf (w:=w) ⟨hw,ha⟩;rw[aO rfl,J5,D6,Y9];simp only[C8,s_b,R9,C7,B0,D5,C6];refine⟨_,rfl,_,rfl,rfl,_,rfl,_,rfl,rfl,_,⟨m,w,rfl,wf,hw,?H,rfl⟩,?_⟩;rw[ha];show T5 60 false (.st (.bl false)) (.st (.bl true)) _;refine⟨_,_,rfl,rfl,?G,?_⟩;show(if D.eq (.bl false) (.bl true)=true then(_:Prop)else(_:Prop));rw[aI (?G),Z0];dsimp only;rw[P9,Y8f];simp only[C8,s_b,B0,D5];refine⟨_,rfl,_,rfl,rfl,?_⟩;show blR (.st (.bl false)) _;rw[o_bl,aI (?G),Q0o];simp only[C7,B0,C6];refine⟨_,rfl,_,rfl,rfl,m,Q1d m w,rfl,wf,?H,⟨w.length+1,?H,.inr (aD.mp oX).1⟩,fun v j e=>?_,fun z=>?_⟩
  ·have:=W0f oX e;subst this;exact⟨_,rfl,same rfl rfl (bj _) h⟩
  ·have:=z (w.length+1);have:=(aD.mp oX).1;lia
 |false=>
  rw[aI (?G),J5,D6,Y9];simp only[C8,s_b,R9,C7,B0,D5,C6];refine⟨_,rfl,_,rfl,rfl,_,rfl,_,rfl,rfl,_,⟨m,w,rfl,wf,hw,?H,rfl⟩,?_⟩;rw[ha];show T5 60 false (.st (.bl true)) (.st (.bl false)) _;refine⟨_,_,rfl,rfl,?G,?_⟩;show(if D.eq (.bl true) (.bl false)=true then(_:Prop)else(_:Prop));rw[aI (?G),Z0];dsimp only;rw[P9,Y8f];simp only[C8,s_b,B0,D5];refine⟨_,rfl,_,rfl,rfl,?_⟩;show blR (.st (.bl true)) _;rw[o_bl,aO rfl];exact h
theorem V5d:∀rs Pr,rs.length=1->Z1s rs Pr->W0u Y8y (spS gOr) Q7g Q7k Z1q Q3i Z7d (O9 Pr) (E2 W4e rs):=by
 rintro rs Pr _ ⟨ns,rfl,hn,h⟩;have wf:C5 (Z8 ns 0 4):=Y5i ns 0 (?G);have h4:=Y5h ns 0 (most:=4) (?G);have lF:C5 (Z8 ns 60 4):=Y5i ns 60 (?G);have v4:=Y5h ns 60 (most:=4) (?G);unfold W0u;rw[D6,G1];simp only[R9,C7,B0,D5,C6];refine⟨_,rfl,rfl,_,⟨ns,0,4,rfl,hn,?G,?G,rfl⟩,?_⟩;rw[J5,D6,G1];simp only[R9,C7,B0,D5,C6];refine⟨_,rfl,rfl,_,⟨ns,60,4,rfl,hn,?G,?G,rfl⟩,?_⟩;rw[J5];generalize Z8 ns 0 4=m at wf h4 ⊢;generalize Z8 ns 60 4=m2 at lF v4 ⊢;rw[D6,G1,Q0o];simp only[C7,B0,C6];have zT:?L*m2.1.length<=16:=kN h4 v4;refine⟨_,rfl,_,rfl,rfl,m,m2,rfl,⟨wf,lF,?H⟩,?_⟩;show V1 (.st (mD (Q3h gOr m m2))) _;have wg:=V7p (g:=gOr) wf lF;have hg:=V7o (g:=gOr) wf lF;have sub:∀w,B9 w->G0 m w=true->G0 (Q3h gOr m m2) w=true:=fun w hw ha=>by rw[V7q wf lF hw,ha];rfl
 rw[J5];generalize Q3h gOr m m2=g at wg hg sub ⊢;rw[D6,G1,D5,J5];dsimp only;rw[D6,Y8];simp only[Q4f,C7,D5,C6];refine⟨6,rfl,?G,?G,?_⟩;exact Z4u hn wf h4 wg (?H) sub (fun d o5 o6 o7 o8=>W8x hn wf h4 h) (List.range 6) .non none none none none (fun k hk=>aL.mp hk) (.inl rfl)
set_option hygiene false in
local macro_rules |`(tactic|x_go)=>`(tactic|(intro _ _ _ _ _ _ us hl;first |exact lst1 us hl fun _=>rfl |exact lst2 us hl fun _ _=>rfl |exact lst3 us hl fun _ _ _=>rfl |exact lst4 us hl fun _ _ _ _=>rfl))
set_option hygiene false in
local macro_rules |`(tactic|z_go)=>`(tactic|first
 |exact DE.v _ |exact DE.int |(refine A7.one ?_;z_go) |(refine A7.cons ?_ ?_<;>z_go) |exact A7.nil |(refine DA.one ?_;z_go) |(refine DA.cons ?_ ?_<;>z_go) |exact DA.nil
 |(refine O8 _ ?_ nd;z_go) |(refine DS.ret ?_;z_go) |exact W2v (pv _) |(refine DS.ife ?_ ?_ ?_<;>z_go) |(refine DS.append (pv _) ?_;z_go) |(refine Q9s Y6o X0 ?_ nd rfl (by trivial);z_go)
 |(refine Q7w bq ?_ ?_<;>z_go) |(refine Q1f bq rfl ?_ ?_ ?_<;>z_go) |(refine Q9r ?_ ?_<;>z_go) |(refine W2n _ ?_;z_go) |(refine W2l (Q2g hr) (pv _) ?_ ?_<;>z_go) |(refine W2p (Q2g hr) (pv _) ?_ ?_<;>z_go) |(refine DS.extend (pv _) ?_;z_go)
 |exact DE.str |exact DE.bl |exact DE.non |exact W2b rfl Z.T.c_SIGNS |(refine DE.len Z.T.m_len ?_;z_go) |(refine Q7v Z.T.m_tuple ?_;z_go) |(refine DE.ix ?_ ?_ (fun _ _=>rfl)<;>z_go) |(refine DE.op Q4q Q3x ?_ ?_<;>z_go) |(refine DE.op od_sub X0 ?_ ?_<;>z_go) |(refine DE.op Z6h Z6c ?_ ?_<;>z_go)
 |(refine DE.lst ?_;z_go) |(refine DE.tup ?_;z_go) |(refine DE.neg ?_;z_go) |(refine DE.slice ?_ ?_ ?_<;>z_go) |exact DO.none |(refine DO.some ?_;z_go) |(refine Z9u (k:=2) (hr.mono (?G)) (pv _) ?_;z_go) |(refine Z9u (k:=1) (hr.mono (?G)) (pv _) ?_;z_go) |(refine DE.ife ?_ ?_ ?_<;>z_go) |(refine W1z (Q2g hr) (pv _) ?_ (fun _ _=>rfl);z_go) |(refine W2c (Q2g hr) (pv _) ?_ (fun _ _=>rfl);z_go) |(refine DE.index ?_ ?_<;>z_go) |(refine DE.nt ?_;z_go)
 |(refine DT.cmp Y2j Q2z ?_ ?_ (P6 _)<;>z_go) |(refine DT.cmp cd_le Q2z ?_ ?_ (P6 _)<;>z_go) |(refine DT.cmp Z4a Q2z ?_ ?_ (P6 _)<;>z_go) |(refine DT.cmp Z3z Q2z ?_ ?_ (P6 _)<;>z_go) |(refine DT.cmp (Q6f (n:=60) (Q5g hr)) Q6j ?_ ?_ (P6 _)<;>z_go) |(refine DT.cmp Z4b Q6m ?_ ?_ (P6 _)<;>z_go) |(refine DT.cmp Z4d Q6m ?_ ?_ (P6 _)<;>z_go) |(refine DT.cmp Z4c Z6d ?_ ?_ (P6 _)<;>z_go)
 |(refine DE.cmp Z4a Q2z ?_ ?_ (P6 _)<;>z_go) |(refine DE.cmp Z4b Q6m ?_ ?_ (P6 _)<;>z_go) |(refine DE.cmp Z4d Q6m ?_ ?_ (P6 _)<;>z_go) |(refine DE.cmp (Q6f (n:=60) (Q5g hr)) Q6j ?_ ?_ (P6 _)<;>z_go)
 |(refine Y0c ?_ (fun _=>rfl);z_go) |(refine W3c (Q2g hr) ?_ (pv _);z_go) |(refine W3d (Q2g hr) ?_ (pv _);z_go) |(refine DW.t ?_;z_go) |(refine Z3a ?_ ?_<;>z_go) |(refine Z3b ?_;z_go) |(refine DW.or ?_ ?_<;>z_go) |(refine DW.or1 ?_;z_go)
 |(refine DG.nm ?_ rfl (by trivial);first |exact nd |(dsimp only[blk];decide +kernel)) |(refine W2g rfl ?_;z_go) |(refine DGs.cons ?_ ?_<;>z_go) |exact DGs.nil |exact Q2.nil |(refine Q2.one ?_;z_go)
 |(refine DI.rng1 rfl Z.T.m_range ?_;z_go) |(refine DI.lst ?_;z_go) |(refine DI.tup ?_;z_go) |exact DI.own (pv _) |(refine DI.enumX rfl Z.T.m_enumerate bt_enumerate ?_;z_go) |(refine DI.str ?_;z_go)
 |(refine L7.lst ?_;z_go) |(refine L7.tup ?_;z_go) |(refine L7.rng1 rfl Z.T.m_range ?_;z_go) |(refine L7.str ?_;z_go) |(refine L7.enumX rfl Z.T.m_enumerate bt_enumerate ?_;z_go) |(refine U5 ?_;z_go))
local macro_rules |`(tactic|trivial)=>`(tactic|first |exact Or.inl rfl |exact Or.inr rfl)
def N6 (i:Nat):Aw:=PySem.Challenge.pw_textkinds_k17_whole_numbers.main.body.getD i (.Pass ⟨0,0,0,0⟩)
structure Txt (K:Fg9)(mg:Str->Am An)(w:Av):Prop where
 m_enumerate:mg "enumerate"=none
 m_len:mg "len"=none
 m_list:mg "list"=none
 m_max:mg "max"=none
 m_range:mg "range"=none
 m_reversed:mg "reversed"=none
 m_sum:mg "sum"=none
 m_tuple:mg "tuple"=none
 m_zip:mg "zip"=none
 c_SIGNS:∃t,mg "SIGNS"=some (.str "01ab" t)
def bt_enumerate:bootBuiltins "enumerate"=some (.type "enumerate"):=?D
def W5b:bootBuiltins "list"=some (.type "list"):=?D
def Q8f:bootBuiltins "max"=some (.builtin "max"):=?D
def Y2c:bootBuiltins "reversed"=some (.type "reversed"):=?D
def Y2d:bootBuiltins "sum"=some (.builtin "sum"):=?D
abbrev Y9i:Aw:=N6 2
abbrev Y9c:Aw:=N6 3
abbrev Z7p:Aw:=N6 4
abbrev Z7f:Aw:=N6 5
abbrev Q9e:Aw:=N6 6
abbrev Z7m:Aw:=N6 7
abbrev Z7r:Aw:=N6 8
abbrev Z1v:Aw:=N6 9
abbrev Z7g:Aw:=N6 10
abbrev Z1x:Aw:=N6 11
abbrev Z1w:Aw:=N6 12
abbrev Y9g:Aw:=N6 13
abbrev Z7h:Aw:=N6 29
abbrev Z7k:Aw:=N6 20
abbrev Q9f:Aw:=N6 18
abbrev Z1t:Aw:=N6 19
abbrev Z7l:Aw:=N6 21
abbrev Z7n:Aw:=N6 22
abbrev Y9h:Aw:=N6 24
abbrev Z7q:Aw:=N6 23
abbrev Z7o:Aw:=N6 25
abbrev Y9b:Aw:=N6 27
abbrev Y9e:Aw:=N6 31
abbrev Y9f:Aw:=N6 32
abbrev Z7i:Aw:=N6 33
abbrev Z1u:Aw:=N6 35
abbrev Z7j:Aw:=N6 38
abbrev Y9d:Aw:=N6 39
structure Env (P:Au)(w:Av)(K:Fg9)(mg:Str->Am An)(base:Heap)(ts:O Ap)(ad:Nat->Ap)(fn:Nat->At)(xc:Nat->Ap):Prop where
 T:Txt K mg w
 hBM:Q0a mg base
 O_KindError:OwnCls "KindError" (xc 0) Q4o "ValueError.__new__" mg base
 O_NoneSuch:OwnCls "NoneSuch" (xc 1) Q4o "ValueError.__new__" mg base
 D_walked:Df K mg "walked" Y9i ["start","step"] (ad 0) (fn 0)
 D_first_text:Df K mg "first_text" Y9c ["start","step","is_end"] (ad 1) (fn 1)
 D_states_along:DfO K mg "states_along" Z7p ["rows","text","start"] 0 (ad 2) (fn 2)
 D_all_reached:Df K mg "all_reached" Z7f ["some","onward"] (ad 3) (fn 3)
 D_distances:Df K mg "distances" Q9e ["ends","rows","wanted"] (ad 4) (fn 4)
 D_numbered:Df K mg "numbered" Z7m ["marks"] (ad 5) (fn 5)
 D_told_apart:Df K mg "told_apart" Z7r ["ends","rows"] (ad 6) (fn 6)
 D_least:Df K mg "least" Z1v ["ends","rows"] (ad 7) (fn 7)
 D_built:Df K mg "built" Z7g ["start","step","is_end"] (ad 8) (fn 8)
 D_pair_step:Df K mg "pair_step" Z1x ["one","other"] (ad 9) (fn 9)
 D_pair_end:Df K mg "pair_end" Z1w ["one","other","is_end"] (ad 10) (fn 10)
 D_side_by_side:Df K mg "side_by_side" Y9g ["one","other","is_end"] (ad 11) (fn 11)
 D_either:Df K mg "either" Z7h ["one","other"] (ad 12) (fn 12)
 D_least_text:Df K mg "least_text" Z7k ["machine"] (ad 13) (fn 13)
 D_onward_goals:Df K mg "onward_goals" Q9f ["machine"] (ad 14) (fn 14)
 D_last_length:Df K mg "last_length" Z1t ["machine"] (ad 15) (fn 15)
 D_no_signs:Df K mg "no_signs" Z7l ["machine"] (ad 16) (fn 16)
 D_one_more_sign:Df K mg "one_more_sign" Z7n ["machine","counts"] (ad 17) (fn 17)
 D_text_of_length_at:Df K mg "text_of_length_at" Y9h ["machine","tables","number"] (ad 18) (fn 18)
 D_text_at:Df K mg "text_at" Z7q ["machine","number"] (ad 19) (fn 19)
 D_rank_of:Df K mg "rank_of" Z7o ["machine","text"] (ad 20) (fn 20)
 D_accepts:Df K mg "accepts" Y9b ["machine","text"] (ad 21) (fn 21)
 D_law_cell:Df K mg "_law_cell" Y9e ["_law_script","_law_k"] (ad 22) (fn 22)
 D_law_drawn:Df K mg "_law_drawn" Y9f ["_law_script","_law_k","_law_many"] (ad 23) (fn 23)
 D_law_text:Df K mg "_law_text" Z7i ["_law_script","_law_at","_law_most"] (ad 24) (fn 24)
 D_law_machine:Df K mg "_law_machine" Z1u ["_law_script","_law_at","_law_most"] (ad 25) (fn 25)
 D_law_told:Df K mg "_law_told" Z7j ["_law_told_here","_law_number"] (ad 26) (fn 26)
 D_law:Df K mg "law" Y9d ["_law_script"] (ad 27) (fn 27)
 C_least:∃c Pt,Q0r K "least" "least" Z1v (ad 7) (fn 7) c Pt/\Pt∈ts
 C_pair_step:∃c Pt,Q0r K "pair_step" "pair_step" Z1x (ad 9) (fn 9) c Pt/\Pt∈ts
 C_pair_end:∃c Pt,Q0r K "pair_end" "pair_end" Z1w (ad 10) (fn 10) c Pt/\Pt∈ts
 C_either:∃c Pt,Q0r K "either" "either" Z7h (ad 12) (fn 12) c Pt/\Pt∈ts
 C_least_text:∃c Pt,Q0r K "least_text" "least_text" Z7k (ad 13) (fn 13) c Pt/\Pt∈ts
 C_onward_goals:∃c Pt,Q0r K "onward_goals" "onward_goals" Q9f (ad 14) (fn 14) c Pt/\Pt∈ts
section
variable {w:Av}{K:Fg9}{ad:Nat->Ap}{fn:Nat->At}{xc:Nat->Ap}(Z:Env P w K mg base ts ad fn xc)
omit Z in
def Env.go (_:Env P w K mg base ts ad fn xc)(k:Nat)        (D:Df K mg x st ps f fd)(hw:∀rs r,rs.length=ps.length->sp rs r->ws (S9 r) (E2 N rs))
  (hb:N.Nodup->∀(cdv:An) (A:As) (outer:O PySem.Env) (s:Ao) (H:Hp) (E:XK),E1 k (A.deeper (envOfC x (B8 st) s.heap.objs.size f cdv))->A7 (K4 G3 P w K mg base N x (B8 st) f cdv A outer s H E).nox H (K6 st) ws) (hs:scB N ps (B8 st)=true:=by decide +kernel):FnD P w K mg base (k+1) f fd ps sp:=
 D.ok (Q1w hs) (hb (Q1w hs).nd) hw
omit Z in
def Env.goT (_:Env P w K mg base ts ad fn xc)(k:Nat)      {sp:J4}  (D:Df K mg x st ps f fd)(hw:∀rs Pr,rs.length=ps.length->sp rs Pr->ws (O9 Pr) (E2 N rs))
  (hb:N.Nodup->∀(cdv:An) (A:As) (outer:O PySem.Env) (s:Ao) (H:Hp) (E:XK),Q0d ts H->E1 k (A.deeper (envOfC x (B8 st) s.heap.objs.size f cdv))->A7 (K4 G3 P w K mg base N x (B8 st) f cdv A outer s H E).nox H (K6 st) ws) (hs:scB N ps (B8 st)=true:=by decide +kernel):FnT P w K mg base ts (k+1) f fd ps sp:=
 Fun.okP D.F (Q1w hs) (hb (Q1w hs).nd) hw
omit Z in
def Env.goC (_:Env P w K mg base ts ad fn xc)(k:Nat){q:Str}     {sp:J4}  (C:∃c Pt,Q0r K x q st f fd c Pt/\Pt∈ts)(_:Df K mg x st ps f fd)(hw:∀rs Pr,rs.length=ps.length->sp rs Pr->ws (O9 Pr) (E2 N rs))
  (hb:N.Nodup->∀c Pt,Q0r K x q st f fd c Pt->Pt∈ts->∀(A:As) (outer:O PySem.Env) (s:Ao) (H:Hp) (E:XK),Q0d ts H->E1 k (A.deeper (envOfC q (B8 st) s.heap.objs.size f (.ref c)))->A7 (K4 G3 P w K mg base N q (B8 st) f (.ref c) A outer s H E).nox H (K6 st) ws) (hs:scB N ps (B8 st)=true:=by decide +kernel):FnT P w K mg base ts (k+1) f fd ps sp:=by
 obtain⟨c,Pt,C,h⟩:=C;exact C.okP (Q1w hs) (hb (Q1w hs).nd c Pt C h) hw
include Z
omit Z in
def Y8m:T9 Y1a ["rows","text","start"] (B8 Z7p):=Q1w (?D)
omit Z in
def Y8l:T9 Y0y ["one","other"] (B8 Z1x):=Q1w (?D)
omit Z in
def Y8k:T9 Y0x ["one","other","is_end"] (B8 Z1w):=Q1w (?D)
omit Z in
def Y8n:T9 Y1b ["machine","number"] (B8 Z7q):=Q1w (?D)
omit Z in
def Y8j:T9 Z3h ["_law_told_here","_law_number"] (B8 Z7j):=Q1w (?D)
def W3x:=Z.go 2 Z.D_walked (sp:=(sp_walked (J7 P w K mg base 2))) (ws:=Z9d (J7 P w K mg base 2)) V5u fun nd _ _ _ s _ _ hr=>(A7.cons ?B (A7.cons (W2k (i:=3) hr.units0 (DE.v 0) DE.int nd rfl (by trivial)) ?B))
def Y0n:=Z.go 2 Z.D_walked (sp:=(sp_walkedK (J7 P w K mg base 2))) (ws:=Z9e (J7 P w K mg base 2)) V5v fun nd _ _ _ s _ _ hr=>(A7.cons ?B (A7.cons (Y0b (i:=3) (DE.v 0) DE.int nd rfl (by trivial)) ?B))
def W3j:=Z.go 2 Z.D_first_text (sp:=(Q7h (J7 P w K mg base 2))) (ws:=Z8v (J7 P w K mg base 2)) V5b fun nd _ _ _ s _ _ hr=>(A7.cons ?B (A7.cons (Y0b (i:=4) (DE.v 0) DE.str nd rfl (by trivial)) ?B))
def Y0m:FnD P w K mg base 1 (ad 2) (fn 2) ["rows","text","start"] Z1r:=by
 have nd:=Y8m.nd;refine Z.D_states_along.ok Y8m (ws:=Z9b  ) (fun cdv A outer s H E hr=>?_) V4v;exact ?B
def W3g:=Z.goT 0 Z.D_all_reached V4u fun nd _ _ _ s _ _ hT hr=>(A7.cons (W2z (i:=2) rfl (T3 (sc:=B8 Z7f) (N0:=Y0r) (N:=["state"]) rfl rfl (?D)) ?B ?T (fun _ _ _ _=>(DE.v 0)) ?T nd rfl (by trivial)) (A7.cons (O8 3 (Z9w (W5g rfl) W9m rfl Z.T.m_list W5b ?B) nd) (A7.cons ?B (A7.cons ?B (A7.one (W2u (pv 2)))))))
def Z3d:=Z.goT 1 Z.D_distances V4y fun nd _ _ _ s _ _ hT hr=>(A7.cons (W3a (i:=3) rfl (T3 (sc:=B8 Q9e) (N0:=Q9t) (N:=["row"]) rfl rfl (?D)) (L7.or ?B ?B) ?T ?T nd rfl (by trivial)) (A7.cons (DS.fzL 3 (Q1f bq rfl (DI.or ?B (Z9z rfl Z.T.m_enumerate bt_enumerate ?B)) ?B (A7.one (Q1f bq rfl ?B ?B (A7.one (W2r (pv 3) (DE.v 6) ?B (fun _ _=>rfl) ⟨rfl,rfl,rfl,rfl⟩)))))) (A7.cons (W2x (i:=7) (W6 (V0h) (W3g Z) hr hT Z.D_all_reached (DA.cons (DE.comp rfl (T3 (sc:=B8 Q9e) (N0:=Q9t) (N:=["state","end","wanted"]) rfl rfl (?D)) ?B ?T ?T ?T) ?B)) nd rfl (by trivial)) (A7.one (DS.ret (DE.comp rfl (T3 (sc:=B8 Q9e) (N0:=Q9t) (N:=["state","reached"]) rfl rfl (?D)) ?B ?T (fun _ _ _ _=>Q2.nil) (fun _ _ _ _=>(U5 (W2a (Q2g hr) (pv 1) (DE.v 0) ⟨rfl,rfl,rfl,rfl⟩)))))))))
def Y0k:=Z.go 0 Z.D_numbered V5i fun nd _ _ _ s _ _ hr=>(W3b rfl (by have:=hr.units;show _+9<cLine;exact eV (u9 (?G) _) this) (T3 (sc:=B8 Z7m) (N0:=Y0w) (N:=["mark","numbers"]) rfl rfl (?D)) ?B (fun _ _ _ _=>Y6y (show List.Nodup (["mark","numbers"]:O Str)by decide +kernel) rfl (by trivial)) (fun _ _ _ _=>V3d (by have:=hr.units;show _+9<cLine;exact eV (u9 (?G) _) this) (pv 1) (pv 0) rfl Z.T.m_len (pv 1) ⟨rfl,rfl,rfl,rfl⟩) nd rfl (by trivial))
def W3w:=Z.goT 2 Z.D_told_apart V5t fun nd _ _ _ s _ _ hT hr=>(A7.cons (O8 2 (U5 (DE.cl (Y0k Z) hr Z.D_numbered (DA.one (W2e rfl rfl Z.T.m_list rfl Z.T.m_zip (DA.cons (W6 (Z6b) (Z3d Z) hr hT Z.D_distances ?B) (DA.one (W6 (Z6b) (Z3d Z) hr hT Z.D_distances ?B))))))) nd) (A7.cons ?B (A7.cons (Q7w bq (DT.cmp Z3z Q2z (Q3p (Z0f rfl) Z0v rfl Z.T.m_max Q8f ?B) (DE.v 3) (P6 _)) (A7.cons (O8 3 (DE.op Q4q Q3x (Q3p (Z0f rfl) Z0v rfl Z.T.m_max Q8f ?B) DE.int) nd) (A7.one (O8 2 (U5 (DE.cl (Y0k Z) hr Z.D_numbered (DA.one (DE.comp rfl (T3 (sc:=B8 Z7r) (N0:=Y1c) (N:=["block","row","blocks"]) rfl rfl (?D)) (W2h rfl Z.T.m_zip ?B) ?T (fun _ _ _ _=>Q2.nil) (fun _ _ _ _=>(U5 (DE.tup (DA.cons ?B (DA.one (U5 (Q7v Z.T.m_tuple (DE.comp rfl (T3 (N0:=["block","row","blocks"]) (N:=["goal","blocks"]) rfl rfl (by kernel_rfl)) ?B ?T (fun _ _ _ _=>Q2.nil) ?T)))))))))))) nd)))) ?B)))
def W3o:=Z.goC 3 Z.C_least Z.D_least (ws:=Z8x (J7 P w K mg base 2) K sp_told_apart (sp_walkedK (J7 P w K mg base 2))) V5e fun nd c Pt C js _ _ s _ _ hT hr=>(A7.cons (O8 2 (U5 (W6 (V0r) (W3w Z) hr hT Z.D_told_apart ?B)) nd) (A7.cons (W2o (i:=3) nd rfl (by trivial)) (A7.cons (W2m 3 (Q1f bq rfl (Z9z rfl Z.T.m_enumerate bt_enumerate ?B) ?B (A7.one (W2q (pv 3) (DE.v 5) (DE.v 4) ⟨rfl,rfl,rfl,rfl⟩)))) (A7.cons (Q9r (Z9x (kl:=1) (ps:=["block","column"]) (cs:=[("samples",3),("rows",1),("blocks",2)]) (clos:=[("samples",s.heap.objs.size+4),("rows",s.heap.objs.size+2),("blocks",s.heap.objs.size+3)]) (wb:=(Z2r K)) (Y0n Z) (hr.mono (?G)) rfl Z.D_walked.m Z.D_walked.k Z.D_walked.b ?B (hT _ js) Z.hBM rfl C.hd rfl rfl (aQ.mpr ⟨rfl,aQ.mpr ⟨rfl,aQ.mpr ⟨rfl,fun _ h=>nomatch h⟩⟩⟩) (aQ.mpr ⟨⟨rfl,rfl,rfl⟩,aQ.mpr ⟨⟨rfl,rfl,rfl⟩,aQ.mpr ⟨⟨rfl,rfl,rfl⟩,fun _ h=>nomatch h⟩⟩⟩) ⟨rfl,rfl,rfl,?D,?D,?D,?D,?D⟩ (fun _ _ _ _ _ us hl=>match us,hl with |[_,_],_=>rfl) (fun caps f c' A outer s H q hn hr=>(DE.ix (DE.v 4) (DE.ix (DE.ix (DE.v 3) (Z9y (Q2g hr) (pv 2) (DE.v 0) (fun _ _=>rfl)) (fun _ _=>rfl)) (DE.v 1) (fun _ _=>rfl)) (fun _ _=>rfl)))) ?B) (A7.one (DS.ret (DE.tup (DA.cons (U5 (Q7v Z.T.m_tuple (DE.comp rfl (T3 (sc:=B8 Z1v) (N0:=Y0u) (N:=["block","ends","samples"]) rfl rfl (?D)) ?B ?T (fun _ _ _ _=>Q2.nil) (fun _ _ _ _=>(U5 (DE.ix (DE.v 1) (Z9y (Q2g hr) (pv 2) (DE.v 0) (fun _ _=>rfl)) (fun _ _=>rfl))))))) ?B))))))))
def W3h:=Z.goT 4 Z.D_built (sp:=(sp_built (J7 P w K mg base 2))) (ws:=Z8u (J7 P w K mg base 2) (sp_walked (J7 P w K mg base 2)) sp_least) V4w fun nd _ _ _ s _ _ hT hr=>(A7.cons (Q9r (DE.cl (W3x Z) hr Z.D_walked ?B) ?B) (A7.one (DS.ret (W6 (V0k) (W3o Z) hr hT Z.D_least (DA.cons (DE.comp rfl (T3 (sc:=B8 Z7g) (N0:=Y0s) (N:=["key","is_end"]) rfl rfl (?D)) ?B ?T (fun _ _ _ _=>Q2.nil) ?T) ?B)))))
def W3s:FnT P w K mg base ts 3 (ad 9) (fn 9) ["one","other"] (sp_pair_step (J7 P w K mg base 2)):=by
 obtain⟨c,Pt,C,js⟩:=Z.C_pair_step;have nd:=Y8l.nd;refine Y0f (lps:=["pair","column"]) (w1:=Z8f) (w2:=Z8g) (wb:=Z2t ) (cs:=[("rows",2),("other_rows",3)]) (kl:=1) C Y8l rfl Z.hBM js (fun A outer s H E hr=>?_) (fun A outer s H E hr=>?_) (fun n=>[("rows",n+2),("other_rows",n+1)]) (fun n=>rfl) (fun n=>rfl) (fun n=>?_) ?_ ?_ (fun _ _ _ _ _ us hl=>match us,hl with |[_,_],_=>rfl) (fun caps g c' A outer s H q hn hr=>?_) (fun n=>rfl) V5m
 ·exact ?B
 ·exact ?B
 ·exact aQ.mpr ⟨rfl,aQ.mpr ⟨rfl,fun _ h=>nomatch h⟩⟩
 ·exact aQ.mpr ⟨⟨rfl,rfl⟩,aQ.mpr ⟨⟨rfl,rfl⟩,fun _ h=>nomatch h⟩⟩
 ·exact⟨rfl,rfl,rfl,?D,?D,?D,?D,?D⟩
 ·exact ?B
def W3r:FnT P w K mg base ts 3 (ad 10) (fn 10) ["one","other","is_end"] (sp_pair_end (J7 P w K mg base 1) (J7 P w K mg base 2)):=by
 obtain⟨c,Pt,C,js⟩:=Z.C_pair_end;have nd:=Y8k.nd;refine Y0f (lps:=["pair"]) (w1:=Z8e) (w2:=w2_pair_end) (wb:=Z2s (J7 P w K mg base 1)) (cs:=[("other_ends",4),("is_end",2),("ends",3)]) (kl:=1) C Y8k rfl Z.hBM js (fun A outer s H E hr=>?_) (fun A outer s H E hr=>?_) (fun n=>[("other_ends",n+3),("is_end",n+1),("ends",n+2)]) (fun n=>rfl) (fun n=>rfl) (fun n=>?_) ?_ ?_ (fun _ _ _ _ _ us hl=>match us,hl with |[_],_=>rfl) (fun caps g c' A outer s H q hn hr=>?_) (fun n=>rfl) V5l
 ·exact ?B
 ·exact ?B
 ·exact aQ.mpr ⟨rfl,aQ.mpr ⟨rfl,aQ.mpr ⟨rfl,fun _ h=>nomatch h⟩⟩⟩
 ·exact aQ.mpr ⟨⟨rfl,rfl⟩,aQ.mpr ⟨⟨rfl,rfl⟩,aQ.mpr ⟨⟨rfl,rfl⟩,fun _ h=>nomatch h⟩⟩⟩
 ·exact⟨rfl,rfl,rfl,?D,?D,?D,?D,?D⟩
 ·exact ?B
def W3t:=Z.goT 5 Z.D_side_by_side (sp:=(Q7j (J7 P w K mg base 1))) (ws:=Z9a  (sp_built (J7 P w K mg base 2)) (sp_pair_step (J7 P w K mg base 2)) (sp_pair_end (J7 P w K mg base 1) (J7 P w K mg base 2))) V5o fun nd _ _ _ s _ _ hT hr=>(A7.one (DS.ret (W6 (V0i) (W3h Z) hr hT Z.D_built (DA.cons ?B (DA.cons (W6 (V0o) (W3s Z) hr hT Z.D_pair_step ?B) (DA.one (W6 (V0n) (W3r Z) hr hT Z.D_pair_end ?B)))))))
def W3i:=Z.goC 6 Z.C_either Z.D_either (ws:=W0s (J7 P w K mg base 1) (Q7j (J7 P w K mg base 1))) V5a fun nd c Pt C js _ _ s _ _ hT hr=>(A7.one (DS.ret (W6 (V0p) (W3t Z) hr hT Z.D_side_by_side (DA.cons (DE.v 0) (DA.cons (DE.v 1) (DA.one (W2d (k:=0) (ps:=["end","other_end"]) (wb:=Q9n) (sp:=R4 Q9n []) (hT _ js) Z.hBM rfl C.hd rfl ⟨rfl,rfl,rfl,?D,?D,?D,?D,?D⟩ (fun _ _ _ _ us hl=>match us,hl with |[_,_],_=>rfl) (fun f c' A outer s H q hr=>(DE.or (DE.v 0) (DE.or1 (DE.v 1)))) (fun rs r _ ⟨ds,d,e1,e2,e3⟩=>⟨ds,d,e1,e2,by rw[cO,b8]at e3;exact e3⟩))))))))
def W3p:=Z.goC 3 Z.C_least_text Z.D_least_text (ws:=Z8y (J7 P w K mg base 2) (Q7h (J7 P w K mg base 2))) V5f fun nd c Pt C js _ _ s _ _ hT hr=>(A7.cons ?B (A7.one (DS.ret (W1w (kl:=1) (ps:=["state","column"]) (qs:=["state"]) (cs:=[("rows",2)]) (es:=[("ends",1)]) (clos:=[("rows",s.heap.objs.size+2)]) (clo2:=[("ends",s.heap.objs.size+1)]) (wb:=W1h) (wc:=Z9l) (W3j Z) (hr.mono (?G)) rfl Z.D_first_text.m Z.D_first_text.k Z.D_first_text.b DE.int (hT _ js) Z.hBM rfl C.hd rfl rfl (aQ.mpr ⟨rfl,fun _ h=>nomatch h⟩) (aQ.mpr ⟨⟨rfl,rfl,rfl⟩,fun _ h=>nomatch h⟩) ⟨rfl,rfl,rfl,?D,?D,?D,?D,?D⟩ rfl rfl (aQ.mpr ⟨rfl,fun _ h=>nomatch h⟩) (aQ.mpr ⟨⟨rfl,rfl,rfl⟩,fun _ h=>nomatch h⟩) ⟨rfl,rfl,rfl,?D,?D,?D,?D,?D⟩ (?G) (fun _ _ _ _ _ us hl=>match us,hl with |[_,_],_=>rfl) (fun _ _ _ _ _ us hl=>match us,hl with |[_],_=>rfl) (fun caps f c' A outer s H q hn hr=>?B) (fun caps f c' A outer s H q hn hr=>?B)))))
def W3q:=Z.goC 3 Z.C_onward_goals Z.D_onward_goals (ws:=Z8z (J7 P w K mg base 2) (sp_walkedK (J7 P w K mg base 2)) sp_distances) V5k fun nd c Pt C js _ _ s _ _ hT hr=>(A7.cons ?B (A7.cons (Q9r (Z9x (kl:=1) (ps:=["state","column"]) (cs:=[("rows",2)]) (clos:=[("rows",s.heap.objs.size+3)]) (wb:=W1j) (Y0n Z) (hr.mono (?G)) rfl Z.D_walked.m Z.D_walked.k Z.D_walked.b DE.int (hT _ js) Z.hBM rfl C.hd rfl rfl (aQ.mpr ⟨rfl,fun _ h=>nomatch h⟩) (aQ.mpr ⟨⟨rfl,rfl,rfl⟩,fun _ h=>nomatch h⟩) ⟨rfl,rfl,rfl,?D,?D,?D,?D,?D⟩ (fun _ _ _ _ _ us hl=>match us,hl with |[_,_],_=>rfl) (fun caps f c' A outer s H q hn hr=>?B)) ?B) (A7.cons (O8 5 (W6 (Z6b) (Z3d Z) hr hT Z.D_distances (DA.cons (DE.comp rfl (T3 (sc:=B8 Q9f) (N0:=Z3j) (N:=["key","ends"]) rfl rfl (?D)) ?B ?T (fun _ _ _ _=>Q2.nil) ?T) ?B)) nd) (A7.one (DS.ret (DE.comp rfl (T3 (sc:=B8 Q9f) (N0:=Z3j) (N:=["row","steps"]) rfl rfl (?D)) ?B ?T (fun _ _ _ _=>Q2.nil) (fun _ _ _ _=>(U5 (DE.comp rfl (T3 (N0:=["row","steps"]) (N:=["goal","steps"]) rfl rfl (by kernel_rfl)) ?B ?T ?T ?T)))))))))
def W3k:=Z.goT 4 Z.D_last_length V5c fun nd _ _ _ s _ _ hT hr=>(A7.cons (DS.ife (DT.cmp Z4b Q6m (W6 (V0l) (W3p Z) hr hT Z.D_least_text ?B) DE.non (P6 _)) ?B A7.nil) (A7.cons (O8 1 (W6 (V0m) (W3q Z) hr hT Z.D_onward_goals ?B) nd) (A7.cons ?B (A7.cons (Q1f bq rfl ?B ?B (A7.one (Q1f bq rfl ?B ?B (A7.one (Y0a W7z (pv 2) (DE.v 4) DE.int))))) (A7.cons ?B (A7.cons (by first |exact DS.set (i:=6) (DE.comp rfl (T3 (sc:=B8 Z1t) (N0:=Z3f) (N:=["state","many"]) rfl rfl (?D)) ?B ?T ?T ?T) nd rfl (by trivial) |exact W2w (i:=6) rfl (T3 (sc:=B8 Z1t) (N0:=Z3f) (N:=["state","many"]) rfl rfl (?D)) ?B ?T ?T ?T nd rfl (by trivial)) (A7.cons (Q7w bq ?B (A7.cons (DS.pop (pv 6) ?B) (A7.one (Q1f bq rfl ?B ?B (A7.cons (W2y (pv 5) (DE.v 4) (U5 (Q3p (W5i rfl) W9w rfl Z.T.m_max Q8f ?B))) (A7.cons (Y0a W8a (pv 2) (DE.v 4) DE.int) ?B)))))) (A7.one (DS.ret (DE.ife (DT.cmp (Q6f (n:=60) (Q5g hr)) Q6j (Q3p (Z0f rfl) Z0v rfl Z.T.m_max Q8f ?B) DE.int (P6 _)) (Q3p (Z0f rfl) Z0v rfl Z.T.m_max Q8f ?B) DE.non))))))))))
def Y0j:=Z.go 0 Z.D_no_signs V5h fun nd _ _ _ s _ _ hr=>(A7.one (DS.ret (DE.comp rfl (T3 (sc:=B8 Z7l) (N0:=Y0v) (N:=["end"]) rfl rfl (?D)) ?B ?T (fun _ _ _ _=>Q2.nil) ?T)))
def Y0l:=Z.go 0 Z.D_one_more_sign V5j fun nd _ _ _ s _ _ hr=>(A7.one (DS.ret (DE.comp rfl (T3 (sc:=B8 Z7n) (N0:=Z3i) (N:=["row","counts"]) rfl rfl (?D)) ?B ?T (fun _ _ _ _=>Q2.nil) (fun _ _ _ _=>(U5 (Q3p (Y2h rfl) Y9m rfl Z.T.m_sum Y2d (DA.one (DE.comp rfl (T3 (N0:=["row","counts"]) (N:=["goal","counts"]) rfl rfl (by kernel_rfl)) ?B ?T (fun _ _ _ _=>Q2.nil) ?T))))))))
def W3v:=Z.go 0 Z.D_text_of_length_at V5r fun nd _ _ _ s _ _ hr=>(A7.cons ?B (A7.cons ?B (A7.cons ?B (A7.cons (Q1f bq rfl (W2j rfl Z.T.m_reversed Y2c ?B) ?B (A7.cons ?B (A7.cons (Q7w bq ?B (A7.cons (Q9s (i:=5) Y6p X0 ?B nd rfl (by trivial)) ?B)) ?B))) (A7.one (DS.ret (DE.join DE.str (DE.v 3))))))))
def W3u:FnXT P w K mg base ts 6 (ad 19) (fn 19) ["machine","number"] (Q5p (xc 1)):=by
 have nd:=Y8n.nd;refine W3f Z.D_text_at.F Y8n (ws:=Z9c (xc 1) Q7i Q4u Q1x sp_text_of_length_at) (fun cdv A outer s H E XE hE hT hr=>?_) (V5q _);exact(A7.cons (O8 2 (W6 (V0j) (W3k Z) hr hT Z.D_last_length (DA.one (DE.v 0))) nd) (A7.cons (O8 3 (DE.v 1) nd) (A7.cons (O8 4 (DE.lst (DA.one (U5 (DE.cl (Y0j Z) hr Z.D_no_signs (DA.one (DE.v 0)))))) nd) (A7.cons (Q7w J0p (DT.cmp Z3z Q2z (DE.v 3) (DE.ix (DE.ix (DE.v 4) (DE.neg DE.int) (fun _ _=>rfl)) DE.int (fun _ _=>rfl)) (P6 _)) (A7.cons (DS.ife (DW.t (Z3a (DT.cmp Z4d Q6m (DE.v 2) DE.non (P6 _)) (Z3b (DT.cmp Z4a Q2z (DE.len Z.T.m_len (DE.v 4)) (DE.v 2) (P6 _))))) (A7.one (W2t hE (W2s Z.O_NoneSuch rfl rfl rfl DE.str))) A7.nil) (A7.cons (Q9s (i:=3) Y6p X0 (DE.ix (DE.ix (DE.v 4) (DE.neg DE.int) (fun _ _=>rfl)) DE.int (fun _ _=>rfl)) nd rfl (by trivial)) (A7.one (DS.append (pv 4) (U5 (DE.cl (Y0l Z) hr Z.D_one_more_sign (DA.cons (DE.v 0) (DA.one (DE.ix (DE.v 4) (DE.neg DE.int) (fun _ _=>rfl))))))))))) (A7.one (DS.ret (DE.cl (W3v Z) hr Z.D_text_of_length_at (DA.cons (DE.v 0) (DA.cons (DE.v 4) (DA.one (DE.v 3)))))))))))
def Z3e:=Z.go 1 Z.D_rank_of V5n fun nd _ _ _ s _ _ hr=>(A7.cons ?B (A7.cons (O8 4 (Z9v (Y0m Z) (hr.mono (?G)) rfl Z.D_states_along.m Z.D_states_along.k Z.D_states_along.b ?B) nd) (A7.cons (DS.ife (DT.nt ?B) ?B A7.nil) (A7.cons ?B (A7.cons (O8 6 (DE.cl (Y0j Z) hr Z.D_no_signs ?B) nd) (A7.cons (Q1f bq rfl (W2i rfl Z.T.m_reversed Y2c rfl Z.T.m_range ?B) ?B (A7.cons ?B (A7.cons (Q9s (i:=5) Y6o X0 (DE.op Q4q Q3x ?B (Q3p (Y2h rfl) Y9m rfl Z.T.m_sum Y2d (DA.one (DE.comp rfl (T3 (sc:=B8 Z7o) (N0:=Y0z) (N:=["goal","counts"]) rfl rfl (?D)) ?B ?T (fun _ _ _ _=>Q2.nil) ?T)))) nd rfl (by trivial)) (A7.one (O8 6 (DE.cl (Y0l Z) hr Z.D_one_more_sign ?B) nd))))) ?B))))))
def Y0g:=Z.go 1 Z.D_accepts V4t fun nd _ _ _ s _ _ hr=>(A7.cons ?B (A7.one (DS.ret (DE.ix (DE.v 2) (DE.ix (Z9v (Y0m Z) (hr.mono (?G)) rfl Z.D_states_along.m Z.D_states_along.k Z.D_states_along.b ?B) ?B (fun _ _=>rfl)) (fun _ _=>rfl)))))
def W3m:=Z.go 0 Z.D_law_cell V4x fun nd _ _ _ s _ _ hr=>(A7.cons ?B (A7.one (DS.ret (DE.op Q4q Q3x (DE.ix (DE.v 0) (DE.op Q5m X0 (DE.v 1) ?B) (fun _ _=>rfl)) (DE.op Z6h Z6c DE.int (DE.op Z1h X0 (DE.v 1) ?B))))))
def Q5x:=Z.go 1 Z.D_law_drawn V4z fun nd _ _ _ s _ _ hr=>(A7.cons (O8 3 (DE.op Q5m X0 (DE.op Q4q Q3x (DE.op Z6h Z6c (DE.op Q5m X0 (DE.cl (W3m Z) hr Z.D_law_cell ?B) DE.int) DE.int) ?B) DE.int) nd) (A7.cons (O8 3 (DE.op Q5m X0 (DE.op Q4q Q3x ?B (DE.op Z1h X0 (DE.v 3) DE.int)) DE.int) nd) (A7.one (DS.ret (DE.op Q5m X0 (DE.op Z1h X0 (DE.op Q5m X0 (DE.op Q4q Q3x ?B (DE.op Z1h X0 (DE.v 3) DE.int)) DE.int) DE.int) (DE.v 2))))))
def W3n:=Z.go 2 Z.D_law_text V5p fun nd _ _ _ s _ _ hr=>(A7.one (DS.ret (DE.join DE.str (DE.comp rfl (T3 (sc:=B8 Z7i) (N0:=Y0t) (N:=["_law_k","_law_script","_law_at"]) rfl rfl (?D)) (L7.rng1 rfl Z.T.m_range (DA.one (DE.cl (Q5x Z) hr Z.D_law_drawn ?B))) ?T (fun _ _ _ _=>Q2.nil) (fun _ _ _ _=>(U5 (DE.ix DE.str (DE.cl (Q5x Z) hr Z.D_law_drawn ?B) (fun _ _=>rfl))))))))
def Y0h:=Z.go 2 Z.D_law_machine V5g fun nd _ _ _ s _ _ hr=>(A7.cons (O8 3 (DE.op Q4q Q3x DE.int (DE.cl (Q5x Z) hr Z.D_law_drawn ?B)) nd) (A7.cons (O8 4 (Q7v Z.T.m_tuple (DE.comp rfl (T3 (sc:=B8 Z1u) (N0:=Z3g) (N:=["_law_k","_law_script","_law_at"]) rfl rfl (?D)) ?B ?T (fun _ _ _ _=>Q2.nil) (fun _ _ _ _=>(U5 (DE.cmp (Q6f (n:=60) (Q5g hr)) Q6j (DE.cl (Q5x Z) hr Z.D_law_drawn ?B) DE.int (P6 _)))))) nd) (A7.cons ?B (A7.cons (Q1f bq rfl ?B ?B (A7.one (DS.append (pv 5) (U5 (Q7v Z.T.m_tuple (DE.comp rfl (T3 (sc:=B8 Z1u) (N0:=Z3g) (N:=["_law_j","_law_script","_law_size","_law_at","_law_k"]) rfl rfl (?D)) ?B ?T (fun _ _ _ _=>Q2.nil) (fun _ _ _ _=>(U5 (DE.cl (Q5x Z) hr Z.D_law_drawn ?B))))))))) ?B))))
def Y0i:FnT P w K mg base ts 7 (ad 26) (fn 26) ["_law_told_here","_law_number"] Q7k:=by
 have nd:=Y8j.nd;refine W3e (XE:=fun c=>c=xc 1) (wb:=Z9j (Q5p (xc 1))) (wh:=fun _ a=>W1f a) (wr:=W1m) Z.D_law_told.F Y8j rfl Z.O_NoneSuch (fun c hc=>by subst hc;exact W4w Z.O_NoneSuch) (fun _ _ _ _ _ _=>rfl)
  (fun cdv A outer s H E XE hT hr=>?_) (fun cdv A outer s H E c a pn hT hr hc kz zJ=>?_) (fun cdv A outer s H E hT hr=>?_) (V5s _)
 ·exact(A7.one (DS.ret (W1x (V0q _) (W3u Z) (hr.mono (?G)) hT rfl Z.D_text_at.m Z.D_text_at.k Z.D_text_at.b ?B rfl)))
 ·have hc:=hc.symm;subst hc;have zF:=Q5g hr;have zG:=hu59 hr;exact(A7.one (DS.ret DE.non))
 ·exact A7.nil
def W3l:=Z.goT 7 Z.D_law V5d fun nd _ _ _ s _ _ hT hr=>(A7.cons (O8 1 (DE.cl (Y0h Z) hr Z.D_law_machine ?B) nd) (A7.cons (O8 2 (DE.cl (Y0h Z) hr Z.D_law_machine ?B) nd) (A7.cons (O8 3 (W6 (V0g) (W3i Z) hr hT Z.D_either ?B) nd) (A7.cons ?B (A7.cons (Q1f bq rfl ?B ?B (A7.cons (O8 6 (DE.ix (DE.lst (DA.cons ?B (DA.cons ?B (DA.one (U5 (DE.cl (Q5x Z) hr Z.D_law_drawn ?B)))))) (DE.op Q5m X0 (DE.v 5) DE.int) (fun _ _=>rfl)) nd) (A7.cons (O8 7 (W6 (Y5x) (Y0i Z) hr hT Z.D_law_told ?B) nd) (A7.one (DS.ife ?B (A7.cons (DS.ife (DW.t (DW.or (DT.nt (Y0c (DE.cl (Y0g Z) hr Z.D_accepts ?B) (fun _=>rfl))) (DW.or (DT.cmp Z4c Z6d (DE.cl (Z3e Z) hr Z.D_rank_of ?B) (DE.v 6) (P6 _)) (DW.or1 (DT.cmp Y2j Q2z (DE.cl (Z3e Z) hr Z.D_rank_of ?B) (DE.v 6) (P6 _)))))) ?B A7.nil) (A7.cons ?B (A7.cons (DS.ife (DW.t (Z3a ?B (Z3b (DT.cmp Z4c Z6d ?B (DE.cmp (W5n (Q2g hr)) W7b (DE.v 8) ?B (P6 _)) (P6 _))))) ?B A7.nil) ?B))) A7.nil))))) (A7.cons (O8 7 (DE.cl (W3n Z) hr Z.D_law_text ?B) nd) (A7.cons (O8 6 (DE.cl (Z3e Z) hr Z.D_rank_of ?B) nd) (A7.cons (DS.ife (DT.cmp (Q6f (n:=60) (Q5g hr)) Q6j ?B (DE.cl (Y0g Z) hr Z.D_accepts ?B) (P6 _)) ?B A7.nil) (A7.one (DS.ret (DE.or ?B (DE.or1 (DE.cmp (Q6f (n:=60) (Q5g hr)) Q6j (W6 (Y5x) (Y0i Z) hr hT Z.D_law_told ?B) (DE.v 7) (P6 _))))))))))))))
end
def W4s {l:PySem.W.OpenLaw}{w:Av}{K:Fg9}   {fa:Ap}  (X:K.In h)(G:h.Ns mainGlobals mg)(y3:mg "law"=some (.ref fa))
  {f0:Ap}{d0:At} (H0:Hr K "walked" Y9i f0 d0)
  {f1:Ap}{d1:At} (H1:Hr K "first_text" Y9c f1 d1)
  {f2:Ap}{d2:At} (H2:HrO K "states_along" Z7p 0 f2 d2)
  {f3:Ap}{d3:At} (H3:Hr K "all_reached" Z7f f3 d3)
  {f4:Ap}{d4:At} (H4:Hr K "distances" Q9e f4 d4)
  {f5:Ap}{d5:At} (H5:Hr K "numbered" Z7m f5 d5)
  {f6:Ap}{d6:At} (H6:Hr K "told_apart" Z7r f6 d6)
  {f7 c7 p7:Ap}{d7:At} (H7:HrC K "least" Z1v f7 d7 c7 p7 ts)
  {f8:Ap}{d8:At} (H8:Hr K "built" Z7g f8 d8)
  {f9 c9 p9:Ap}{d9:At} (H9:HrC K "pair_step" Z1x f9 d9 c9 p9 ts)
  {vw vR ut:Ap}{vQ:At} (qI:HrC K "pair_end" Z1w vw vQ vR ut ts)
  {vt:Ap}{vP:At} (zo:Hr K "side_by_side" Y9g vt vP)
  {vq yP ur:Ap}{vO:At} (qH:HrC K "either" Z7h vq vO yP ur ts)
  {vp yO uq:Ap}{vN:At} (qG:HrC K "least_text" Z7k vp vN yO uq ts)
  {vn yN uo:Ap}{vM:At} (qF:HrC K "onward_goals" Q9f vn vM yN uo ts)
  {vm:Ap}{vL:At} (zn:Hr K "last_length" Z1t vm vL)
  {vk:Ap}{vK:At} (zm:Hr K "no_signs" Z7l vk vK)
  {vj:Ap}{vJ:At} (zl:Hr K "one_more_sign" Z7n vj vJ)
  {vi:Ap}{vI:At} (zk:Hr K "text_of_length_at" Y9h vi vI)
  {vh:Ap}{vH:At} (zh:Hr K "text_at" Z7q vh vH)
  {pB:Ap}{vG:At} (zg:Hr K "rank_of" Z7o pB vG)
  {vf:Ap}{vF:At} (zf:Hr K "accepts" Y9b vf vF)
  {ve:Ap}{vE:At} (ze:Hr K "_law_cell" Y9e ve vE)
  {vc:Ap}{vD:At} (zd:Hr K "_law_drawn" Y9f vc vD)
  {vb:Ap}{vC:At} (zc:Hr K "_law_text" Z7i vb vC)
  {va:Ap}{vB:At} (z9:Hr K "_law_machine" Z1u va vB)
  {v9:Ap}{vA:At} (yZ:Hr K "_law_told" Z7j v9 vA)
  {yB:Ap}{tS:At} (qE:Hr K "law" Y9d yB tS)
  (z0:PySem.W.nsIn K mainGlobals "enumerate"=some none)    (z1:PySem.W.nsIn K mainGlobals "len"=some none)    (z2:PySem.W.nsIn K mainGlobals "list"=some none)    (z3:PySem.W.nsIn K mainGlobals "max"=some none)    (z4:PySem.W.nsIn K mainGlobals "range"=some none)    (z5:PySem.W.nsIn K mainGlobals "reversed"=some none)    (z6:PySem.W.nsIn K mainGlobals "sum"=some none)    (z7:PySem.W.nsIn K mainGlobals "tuple"=some none)    (z8:PySem.W.nsIn K mainGlobals "zip"=some none) {t0:Tok} (s0:PySem.W.nsIn K mainGlobals "SIGNS"=some (some (.str "01ab" t0)))
  {x0:Ap} (yV:PySem.W.nsIn K mainGlobals "KindError"=some (some (.ref x0))) (wy:PySem.W.excIn K x0 Q4o "ValueError.__new__"=true) {x1:Ap} (yU:PySem.W.nsIn K mainGlobals "NoneSuch"=some (some (.ref x1))) (wx:PySem.W.excIn K x1 Q4o "ValueError.__new__"=true)
  (iL:∀Pt∈ts,Pt=p7\/Pt=p9\/Pt=ut\/Pt=ur\/Pt=uq\/Pt=uo):
  (∀Pt∈ts,(∃c,PySem.W.codeHdIn K c Pt=true)/\K.lookup Pt=none)/\∃fd:At,(∀(s:Ao) (v:An),BindsTo s fd ⟨[v],[]⟩ [("_law_script",v)])/\∀base:Heap,K.In base->base.Ns mainGlobals mg->Q0a mg base->O3 l.prog w K mg base G3 8 fa fd ["_law_script"] (Q6s K ts 1 Z1s):=by
 have e:=y3.symm.trans (eh X G qE.1);cases e;refine⟨fun Pt hp=>by
  rcases iL Pt hp with rfl |rfl |rfl |rfl |rfl |rfl
  ·exact H7.at
  ·exact H9.at
  ·exact qI.at
  ·exact qH.at
  ·exact qG.at
  ·exact qF.at
  ,?_⟩
 have T:Txt K mg w:={m_enumerate:=bR X G z0,m_len:=bR X G z1,m_list:=bR X G z2,m_max:=bR X G z3,m_range:=bR X G z4,m_reversed:=bR X G z5,m_sum:=bR X G z6,m_tuple:=bR X G z7,m_zip:=bR X G z8,c_SIGNS:=⟨t0,eh X G s0⟩}
 have Lw:=qE.df (ps:=["_law_script"]) X G (by x_go);obtain⟨⟨oc,od,kV,dc,pm,an,cd,ct,sl,e,l1,l2⟩,kp⟩:=qE.2;refine⟨tS,fun s v=>by subst e;exact .of_eq rfl,fun base hB _ hBM=>?_⟩;exact W3l (ad:=fun i=>([f0,f1,f2,f3,f4,f5,f6,f7,f8,f9,vw,vt,vq,vp,vn,vm,vk,vj,vi,vh,pB,vf,ve,vc,vb,va,v9,fa]:O Ap).getD i 0) (fn:=fun i=>([d0,d1,d2,d3,d4,d5,d6,d7,d8,d9,vQ,vP,vO,vN,vM,vL,vK,vJ,vI,vH,vG,vF,vE,vD,vC,vB,vA,tS]:O At).getD i d0) (xc:=fun i=>([x0,x1]:O Ap).getD i 0) ⟨T,hBM,Y6s hB (eh X G yV) wy,Y6s hB (eh X G yU) wx,
  H0.df X G (by x_go),
  H1.df X G (by x_go),
  H2.df X G fun _ _ _ _ _ _ _ _ _ _ _ _ dl s us hK hl=>match us,(show us.length=2 by simpa using hl)with |[_,_],_=>PySem.W.binds_K hK rfl dl rfl rfl rfl,
  H3.df X G (by x_go),
  H4.df X G (by x_go),
  H5.df X G (by x_go),
  H6.df X G (by x_go),
  H7.hr.df X G (by x_go),
  H8.df X G (by x_go),
  H9.hr.df X G (by x_go),
  qI.hr.df X G (by x_go),
  zo.df X G (by x_go),
  qH.hr.df X G (by x_go),
  qG.hr.df X G (by x_go),
  qF.hr.df X G (by x_go),
  zn.df X G (by x_go),
  zm.df X G (by x_go),
  zl.df X G (by x_go),
  zk.df X G (by x_go),
  zh.df X G (by x_go),
  zg.df X G (by x_go),
  zf.df X G (by x_go),
  ze.df X G (by x_go),
  zd.df X G (by x_go),
  zc.df X G (by x_go),
  z9.df X G (by x_go),
  yZ.df X G (by x_go),
  qE.df X G (by x_go),⟨_,_,H7.fc,H7.tb⟩,⟨_,_,H9.fc,H9.tb⟩,⟨_,_,qI.fc,qI.tb⟩,⟨_,_,qH.fc,qH.tb⟩,⟨_,_,qG.fc,qG.tb⟩,⟨_,_,qF.fc,qF.tb⟩⟩
def walk {l:PySem.W.OpenLaw}     {d:DefRec}{K:Params->Fg9}  (hn:l.most=some 63)(ke:d.params.defaults=[])
  (hY:∀(w:Av) (h:Heap),YP w h->(K w.params).In h) (tf:∀(w:Av) (h:Heap),YP w h->∀Pt∈ts,h.get? Pt=some (PySem.W.tabObj #[]))
  (F:∀(w:Av) (mg:Str->Am An) (fa:Ap) (h:Heap),(K w.params).In h->h.Ns mainGlobals mg->mg d.name=some (.ref fa) ->
   (∀Pt∈ts,(∃c,PySem.W.codeHdIn (K w.params) c Pt=true)/\(K w.params).lookup Pt=none) /\
   ∃fd:At,(∀(s:Ao) (u:An),BindsTo s fd ⟨[u],[]⟩ [("_law_script",u)])/\∀base:Heap,(K w.params).In base->base.Ns mainGlobals mg->Q0a mg base->O3 l.prog w (K w.params) mg base G3 8 fa fd ["_law_script"] (Q6s (K w.params) ts 1 Z1s)):
  PySem.W.WalkO q iX XP YP l.row.toRowW d [] (fun f vs=>PySem.call f vs):=
 J0a (n:=63) (k:=8) (x:="_law_script") (sp:=fun w=>Q6s (K w.params) ts 1 Z1s) hn (?G) ke ⟨rfl,?G,?G⟩ hY tf F
  (fun w H a ns hl hT hz=>⟨[.st (scr ns)],fun r=>r=.st (.bl true),rfl,⟨_,_,rfl,A2.s_lst hz AllS.ints,rfl⟩,rfl,hT,⟨ns,rfl,hl,rfl⟩,fun r v H' e sm ir=>⟨by subst e;exact ir,fun Pt hp=>sm _ _ (hT Pt hp)⟩⟩)
end
end L2
open PySem PySem.W PyProof.Rows L2
namespace PySem.W.Fast
theorem tw13373589370839521813:1=1:=rfl
theorem tw17054149136092607662:1=1:=rfl
theorem tw17359909701258446612:1=1:=rfl
theorem tw7149882934325703536:1=1:=rfl
theorem tw6167090621220490163:1=1:=rfl
theorem tw18370193234948713106:1=1:=rfl
theorem tw3622640792803209172:1=1:=rfl
theorem tw9906468363921106883:1=1:=rfl
theorem tw3709122588809663003:1=1:=rfl
theorem tw10752845055865630229:1=1:=rfl
theorem tw15488230715071720122:1=1:=rfl
theorem tw14786995455705825665:1=1:=rfl
theorem tw14004495200126506864:1=1:=rfl
theorem tw14320573078445799989:1=1:=rfl
theorem tw16562819393754469921:1=1:=rfl
theorem tw13181955885458408438:1=1:=rfl
theorem tw16162627593591065502:1=1:=rfl
theorem tw16549476841091966622:1=1:=rfl
theorem tw15846235726092411101:1=1:=rfl
theorem tw11631783213509114578:1=1:=rfl
theorem tw12318708172131700638:1=1:=rfl
theorem tw8488718043906098817:1=1:=rfl
theorem tw7730240018493325752:1=1:=rfl
theorem tw14942208995498847219:1=1:=rfl
theorem tw12633819961382867665:1=1:=rfl
theorem tw14584135675118967096:1=1:=rfl
theorem tw2901648512378278734:1=1:=rfl
theorem tw448875792216925329:1=1:=rfl
theorem tw608181544746195726:1=1:=rfl
theorem tw4300213620327800956:1=1:=rfl
theorem tw14309638651843646840:1=1:=rfl
theorem tw446896779486009597:1=1:=rfl
theorem tw6177142522643337671:1=1:=rfl
theorem tw3205982958809048595:1=1:=rfl
theorem tw13776168216775621887:1=1:=rfl
theorem tw457047382012280294:1=1:=rfl
theorem tw13303672983330168889:1=1:=rfl
theorem tw11680998101518016579:1=1:=rfl
theorem tw5587916357232132563:1=1:=rfl
theorem tw15847587892988971604:1=1:=rfl
theorem tw11226934082800884224:1=1:=rfl
theorem tw3459614755381016974:1=1:=rfl
theorem tw5571156238360977594:1=1:=rfl
theorem tw16266724421517992339:1=1:=rfl
theorem tw12762713204923277427:1=1:=rfl
theorem tw3812257139258684721:1=1:=rfl
theorem tw6042052422835735348:1=1:=rfl
theorem tw2273886493007302578:1=1:=rfl
theorem tw507341330805132052:1=1:=rfl
theorem tw12164319219261481122:1=1:=rfl
theorem tw8859330234844058228:1=1:=rfl
theorem tw14892937933070024994:1=1:=rfl
theorem tw5105625280741803522:1=1:=rfl
theorem tw5446646159882293473:1=1:=rfl
theorem tw1653336437142490057:1=1:=rfl
theorem tw1288521898951145771:1=1:=rfl
theorem tw2759177712326205848:1=1:=rfl
theorem tw5523439376945397982:1=1:=rfl
theorem tw18109890623504189829:1=1:=rfl
theorem tw7238060985168180353:1=1:=rfl
theorem tw10515958483394873062:1=1:=rfl
theorem tw2652542474446124633:1=1:=rfl
theorem tw8296423800048683556:1=1:=rfl
theorem tw16149824194761783680:1=1:=rfl
theorem tw3693432334022996595:1=1:=rfl
theorem tw600114126303607072:1=1:=rfl
theorem tw12005580410934510206:1=1:=rfl
theorem tw1911780110888908364:1=1:=rfl
theorem tw139998288287092175:1=1:=rfl
theorem tw2562084054445950090:1=1:=rfl
theorem tw11691436446617314420:1=1:=rfl
theorem tw4155702384103887034:1=1:=rfl
theorem tw8667773967940794632:1=1:=rfl
theorem tw11954807130442814630:1=1:=rfl
theorem tw3471801004722901099:1=1:=rfl
theorem tw15898696672197797438:1=1:=rfl
theorem tw8810842851881099650:1=1:=rfl
theorem tw16142022941576337723:1=1:=rfl
theorem tw17605582731993028896:1=1:=rfl
theorem tw1910219548877280489:1=1:=rfl
theorem tw4537866768713422760:1=1:=rfl
theorem tw17247407231190041594:1=1:=rfl
theorem tw3515276680632206878:1=1:=rfl
theorem tw5629148289149219527:1=1:=rfl
end PySem.W.Fast
theorem PySem.Challenge.cw_textkinds_k17_whole_numbers_holds : PySem.Challenge.rw_textkinds_k17_whole_numbers.Holds := by
 w_on;o_law;k_head;(case hw=>w_witness2)
 k_fill
 refine L2.walk (l:=PySem.Challenge.rw_textkinds_k17_whole_numbers) rfl rfl (fun w h Y=>PySem.W.km_in_of Y) (fun w h Y=>PySem.W.km_tabs_of Y) ?F
 case F=>
  intro w mg fa h KX G oK
  refine' L2.W4s KX G oK ?_ ?_ ?_ ?_ ?_ ?_ ?_ ?_ ?_ ?_ ?_ ?_ ?_ ?_ ?_ ?_ ?_ ?_ ?_ ?_ ?_ ?_ ?_ ?_ ?_ ?_ ?_ ?_ ?_ ?_ ?_ ?_ ?_ ?_ ?_ ?_ ?_ ?_ ?_ ?_ ?_ ?_ ?_
  all_goals try first |(refine' W7h ?_ ?_ ?_ ?_;any_goals k_is;done) |(refine' W7j ?_ ?_ ?_ ?_ ?_;any_goals k_is;done) |(refine' W7i ?xa ?xl ?xc ?xk ?xq ?xp ?xh ?xn ?xm;(case xa=>k_is);(case xl=>k_is);(case xc=>k_is);(case xk=>k_is);(case xq=>k_is);(case xp=>rfl);(case xh=>kernel_rfl);(case xn=>kernel_rfl);(case xm=>decide)) |k_is |k_exc |decide
#print axioms PySem.Challenge.cw_textkinds_k17_whole_numbers_holds