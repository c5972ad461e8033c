import PyProof.Rows.All
import Wide.All
import OpenK.AllK
import Wide.FinOn
import Lean
import PyProof.EqAt
import PyProof.EqKinds
import PyProof.TupleCall
import PyProof.WalkInts
import KE.KDictSum
import PyProof.Rows.SetFrom
import PyProof.Rows.SumAny
import PyProof.Rows.SeqMore2
import KE.KNest
import PyProof.ListRange
import KE.KFinally
import PyProof.Rows.StrRev
import PySem.Challenge.RW_textkinds_k25_whole_compared
set_option Elab.async false
set_option linter.all false
set_option maxRecDepth 100000
set_option maxHeartbeats 0
abbrev M:=List
abbrev Ac:=Option
abbrev Ad:=PySem.Value
abbrev Ae:=PySem.Shared
abbrev Af:=PySem.Addr
abbrev Ag:=PySem.Expr
abbrev Ah:=PySem.Around
abbrev Ai:=PySem.FuncData
abbrev Aj:=PySem.Program
abbrev Ak:=PySem.World
abbrev Al:=PySem.Stmt
def aa:=@PySem.wpAny_bind
theorem ac:type_of% @List.getElem?_eq_getElem:=@List.getElem?_eq_getElem
def ae:=@PySem.Heap.get?_push_of_some
theorem ag:type_of% @List.length_map:=@List.length_map
theorem ah:type_of% @List.getElem?_map:=@List.getElem?_map
theorem ai:type_of% @List.mem_append_right:=@List.mem_append_right
def aj:=@PySem.wpAny_pure
theorem ak:type_of% @List.mem_cons_of_mem:=@List.mem_cons_of_mem
theorem am:type_of% @List.mem_cons_self:=@List.mem_cons_self
def ao:=@Nat.le_refl
theorem aq:type_of% @List.getD_eq_getElem?_getD:=@List.getD_eq_getElem?_getD
theorem ar:type_of% @List.map_cons:=@List.map_cons
theorem au:type_of% @List.mem_map:=@List.mem_map
theorem av:type_of% @List.mem_cons:=@List.mem_cons
def aw:=@PySem.Heap.lt_size
def ax:=@Nat.ne_of_lt
def ay:=@Nat.lt_of_lt_of_le
theorem az:type_of% @List.mem_of_getElem?:=@List.mem_of_getElem?
theorem aA:type_of% @Option.some.inj:=@Option.some.inj
def aB:=@List.getElem?_append_left
theorem aC:type_of% @List.length_append:=@List.length_append
def aD:=@PySem.Heap.get?_push_size
def aE:=@PySem.wpAny_mono
def aF:=@List.getElem?_eq_none_iff
theorem aG:type_of% @List.mem_singleton:=@List.mem_singleton
theorem aH:type_of% @List.mem_append:=@List.mem_append
def aI:=@if_neg
def aJ:=@List.getElem?_eq_some_iff
def aK:=@List.getElem?_append_right
def aL:=@List.getElem?_set_ne
theorem aM:type_of% @List.map_map:=@List.map_map
theorem aN:type_of% @List.length_cons:=@List.length_cons
def aO:=@Nat.le_trans
def aP:=@List.forall_mem_cons
def aQ:=@if_pos
def aR:=@List.size_toArray
def aS:=@Nat.lt_irrefl
def aT:=@decide_eq_false
theorem aU:type_of% @List.not_mem_nil:=@List.not_mem_nil
theorem aV:type_of% @List.mem_append_left:=@List.mem_append_left
def aW:=@Bool.false_ne_true
def aX:=@List.idxOf_lt_length_iff
def aY:=@List.getElem_mem
theorem aZ:type_of% @List.mem_range:=@List.mem_range
def b7:=@List.length_replicate
def b8:=@List.append_nil
def b9:=@List.getElem?_set_self
theorem ba:type_of% @List.nodup_append:=@List.nodup_append
def bc:=@PySem.mem_of_lookup
def be:=@List.mem_iff_getElem
def bf:=@Nat.lt_or_ge
theorem bg:type_of% @List.map_congr_left:=@List.map_congr_left
def bh:=@PySem.Heap.SameBut.update
def bi:=@PySem.Heap.size_push
def bj:=@Nat.lt_succ_of_lt
def bn:=@PySem.wpAny_Call_Name_kw
theorem bo:type_of% @List.nodup_cons:=@List.nodup_cons
theorem bp:type_of% @List.find?_cons:=@List.find?_cons
theorem br:type_of% @List.length_range:=@List.length_range
theorem bt:type_of% @List.append_assoc:=@List.append_assoc
def bu:=@List.length_singleton
def bv:=@PySem.wpAny_holding
def bx:=@PySem.wpAny_call_entry
def bz:=@Nat.zero_le
theorem bA:type_of% @List.map_append:=@List.map_append
def bB:=@List.length_set
theorem bC:type_of% @List.prefix_refl:=@List.prefix_refl
def bD:=@Bool.and_eq_true
def bE:=@PyProof.Rows.callWith_type1
def bF:=@List.forIn_cons
def bI:=@List.zipIdx_cons
def bJ:=@List.drop_eq_getElem_cons
def bK:=@Array.length_toList
def bL:=@Int.toNat_natCast
def bM:=@or_false
def bN:=@List.mem_filter
def bO:=@PySem.wpAny_newObj_type
def bP:=@PySem.wpAny_standAt
def bR:=@PySem.Calls.spliced_cons
def bS:=@PySem.wpAny_callSpecial?_slot
def bT:=@PySem.wpAny_field
def bW:=@PySem.W.mg_none_of
def bX:=@List.all_eq_true
def bY:=@Ne.symm
def bZ:=@PySem.Heap.get?_update_self
def c7:=@PySem.wpAny_setField_rec
def c9:=@PySem.Obj.data_mapFields
theorem cb:type_of% @List.foldl_cons:=@List.foldl_cons
def cc:=@beq_eq_false_iff_ne
def ce:=@PySem.wpAny_seqItems
def cg:=@Nat.le_of_lt
def ci:=@PySem.wpAny_pyIter_enum
def cj:=@Nat.lt_succ_self
def cm:=@Bool.false_eq_true
theorem cp:type_of% @List.getElem?_zip_eq_some:=@List.getElem?_zip_eq_some
def cq:=@List.nil_append
def cu:=@List.map_nil
theorem cx:type_of% @List.replicate_succ:=@List.replicate_succ
def cy:=@PySem.PassesOwn.never
def cA:=@PySem.wpAny_newFunctionEnv
def cB:=@PySem.Calls.evalArgs_plain
def cC:=@PySem.wpAny_truthy_bool
def cE:=@List.filter_cons
def cF:=@List.drop_length
def cG:=@PySem.Calls.spliced_nil
def cH:=@decide_eq_true
def cI:=@PySem.wpAny_comprehension_free
theorem cJ:type_of% @List.prefix_append:=@List.prefix_append
def cK:=@PySem.F.slot_dict_setdefault
def cL:=@List.of_mem_zip
def cM:=@Bool.eq_iff_iff
def cN:=@PySem.Around.in1_units
theorem cP:type_of% @List.flatten_cons:=@List.flatten_cons
def cR:=@PySem.Heap.get?_update_other
def cS:=@PySem.Calls.callWith_builtin
def cT:=@PySem.sizeLine_eq
def cW:=@PySem.wpAny_passesOwn
def cY:=@PySem.wpAny_setState_of
def cZ:=@PySem.eqIsQuiet_byValue
def db:=@List.mem_map_of_mem
def di:=@PySem.F.slot_tuple_iterator_next
theorem dm:type_of% @List.any_cons:=@List.any_cons
def dn:=@List.cons.injEq
def dw:=@PySem.wpAny_rule
def dy:=@decide_eq_true_iff
def dz:=@Int.emod_lt_of_pos
def dA:=@List.length_eq_zero_iff
def dF:=@Nat.le_succ
def dI:=@PySem.W.cellsFrom_some
def dJ:=@List.take_of_length_le
def dL:=@Nat.le_succ_of_le
def dM:=@List.nodup_nil
def dQ:=@Nat.le_of_eq
def dR:=@PySem.wpAny_tests_nil
def dZ:=@PySem.wpAny_list_append_plain
def e7:=@List.getElem?_eq_none
def ef:=@Nat.succ_ne_self
def eB:=@List.reverse_reverse
def eE:=@List.zipIdx_map
theorem eF:type_of% @List.length_nil:=@List.length_nil
def eG:=@Int.emod_nonneg
def eJ:=@PySem.builtinLookup_eq_fast
def eL:=@PySem.wpAny_execs_cons
def eM:=@Nat.zero_add
def eR:=@PySem.W.callWith_K
def eS:=@Nat.lt_of_le_of_lt
def eT:=@Nat.eq_zero_or_pos
theorem eU:type_of% @List.getElem_idxOf:=@List.getElem_idxOf
def eV:=@Array.forIn_toList
def eX:=@Nat.mul_le_mul
theorem fe:type_of% @List.mem_of_find?_eq_some:=@List.mem_of_find?_eq_some
def ff:=@Classical.byContradiction
def fh:=@PySem.wpAny_specialOf
def fi:=@PySem.F.slot_zip_next
theorem fq:type_of% @List.idxOf_append:=@List.idxOf_append
theorem ft:type_of% @List.getElem?_set:=@List.getElem?_set
def fu:=@PySem.F.args_tuple_add_2
def fA:=@List.all_cons
def fC:=@PySem.F.plainAttrs_dict
def fE:=@PySem.F.entry_tuple_add
def fH:=@PySem.wpAny_pyIter_tuple
def fI:=@PySem.tupleKind_room_in1
def fJ:=@List.nodup_range
def fK:=@PySem.wpAny_setField
def fM:=@PySem.F.slot_tuple_add
def fN:=@List.range_succ_eq_map
def fU:=@Nat.not_lt
def g6:=@PySem.wpAny_Call_method
def g7:=@PySem.WalksT.enumerateD
def g8:=@Nat.not_lt_zero
def g9:=@PySem.F.slot_dict_get
def ga:=@Array.getElem?_toList
def gp:=@Nat.pow_le_pow_right
def gy:=@PySem.wpAny_isInstance
def gz:=@PySem.wpAny_askSetting
def gA:=@List.forIn_nil
def gB:=@List.Perm.refl
def gF:=@if_false
def gG:=@PySem.codeAny_compStart_list
def gH:=@PySem.W.codeHd_of_K
def gI:=@List.length_reverse
def gJ:=@List.filterMap_cons
def gY:=@PySem.wpAny_updateSeq
def gZ:=@PySem.wpAny_execs_nil
def hJ:=@PySem.typeLookup_type
def hV:=@PySem.W.mg_of
def hZ:=@PySem.Obj.isFreed_of_fields
def i0:=@List.mem_replicate
def iq:=@PySem.wpAny_updateSeq_pair
def iw:=@of_decide_eq_true
def iy:=@Nat.lt_trichotomy
def iA:=@Nat.lt_succ_of_le
def iB:=@List.pairwise_map
def iC:=@List.foldl_append
def iE:=@List.filter_congr
def iF:=@Function.comp_def
def iG:=@PySem.Around.frames_deeper
def iR:=@Nat.pow_succ
def iS:=@PySem.wpAny_letGo
def j0:=@PySem.F.args_dict_setdefault_3
def j1:=@PyProof.Rows.callWith_builtin1
def j3:=@PySem.wpAny_setEntries_of
def j4:=@List.mem_reverse
theorem j5:type_of% @List.lookup_cons:=@List.lookup_cons
def j6:=@List.length_take
theorem j7:type_of% @List.getElem_inj:=@List.getElem_inj
def j8:=@PySem.F.plain_extend_loop
def j9:=@Array.toList_inj
def jn:=@PySem.F.entry_dict_setdefault
def jo:=@List.take_append_of_le_length
def jp:=@PyProof.Rows.subscriptTail_builtinR
def jy:=@PySem.wpAny_onRaise
def jz:=@PySem.wpAny_attempt
def jA:=@PySem.Paired.length
def jB:=@PySem.F.type_dict_setdefault
def jC:=@List.mem_zipIdx_iff_getElem?
theorem jD:type_of% @List.find?_some:=@List.find?_some
def ka:=@PySem.intKind_is
def kr:=@PySem.wpAny_pyIter_slot
def kt:=@PySem.wpAny_assign_Name
def ku:=@PySem.wpAny_Return_some
def kw:=@PySem.Obj.cls_mapFields
def ky:=@PySem.Heap.SameBut.refl
def lv:=@PySem.codeAny_mono
def lw:=@PySem.codeAny_loop
def lA:=@List.pairwise_iff_getElem
def lC:=@List.findIdx?_eq_none_iff
def lZ:=@PySem.F.type_list_append
def m3:=@PySem.F.slot_list_append
def m5:=@Option.isSome_iff_exists
def m6:=@PySem.noFill_tuple_add
def n9:=@PySem.F.plainAttrs_list
def na:=@PySem.F.args_dict_get_2
def nC:=@PySem.wpAny_noted
def nD:=@PySem.wpAny_mkInt
def nE:=@PySem.F.entry_dict_get
def nF:=@List.pairwise_lt_range
def nG:=@PySem.F.args_tuple_iterator_next_1
def nH:=@Array.getElem?_eq_none
def nI:=@Nat.succ.inj
def nJ:=@Nat.ne_of_gt
def nK:=@Nat.lt_trans
def nL:=@PySem.wpAny_ite_split
def nM:=@PySem.codeAny_of_tree
def pk:=@if_true
def po:=@PySem.F.slot_set_iter
def pq:=@PySem.F.slot_dict_len
theorem pu:type_of% @List.take_append_drop:=@List.take_append_drop
def pz:=@List.getElem?_toArray
def pA:=@PySem.F.entry_tuple_iterator_next
def ql:=@PySem.wpAny_newFunctionEnv_cells
def qm:=@List.range_eq_range'
def qo:=@List.mem_of_mem_take
def qp:=@List.mem_erase_of_ne
theorem qq:type_of% @List.idxOf_eq_length:=@List.idxOf_eq_length
def qr:=@PySem.Calls.Name_function_global
def qt:=@Array.toList_reverse
def qu:=@Sum.inl.inj
def qv:=@PySem.isSubtype_type
def tf:=@PySem.wpAny_load
def th:=@PySem.W.pyHash_slot
def tm:=@Nat.mul_le_mul_left
def tp:=@Nat.add_le_add_left
def tu:=@List.reverse_append
def tw:=@List.length_pos_iff
def tD:=@PySem.Calls.call_function_entry
def tE:=@Array.toList_append
def vh:=@of_decide_eq_false
def vi:=@PySem.W.codeRec_of
def vj:=@List.pairwise_cons
def vk:=@List.mem_filterMap
def vm:=@List.lookup_append
theorem vn:type_of% @List.getElem_range:=@List.getElem_range
def vp:=@PySem.seq_tuple_add
def yt:=@decide_eq_true_eq
def yu:=@Option.isSome_map
def yw:=@List.take_add_one
def yx:=@List.ext_getElem?
def yy:=@Bool.eq_false_iff
def yO:=@PySem.wpAny_getItem_list_neg
theorem yP:type_of% @Option.getD_some:=@Option.getD_some
theorem yQ:type_of% @List.mem_flatMap:=@List.mem_flatMap
def yR:=@List.ext_getElem
theorem yS:type_of% @List.any_eq_true:=@List.any_eq_true
def yT:=@PySem.concat_meets
def yU:=@PySem.codeAny_func
def yV:=@PySem.call_meetsIn
abbrev Fg9:= PySem.W.Frag
abbrev Pn9:= M (PySem.Addr×PySem.Obj)
abbrev VS9:= PySem.Value->PySem.Shared->Prop
namespace L2
open PySem PySem.Spec PyProof.Rows
set_option hygiene false
local macro_rules|`(?A)=>`(by decide +kernel)|`(?B)=>`(A1 X af σ H s)|`(?C)=>`((model X.prog X.w))|`(?D)=>`((by z_go))|`(?E)=>`(caps.map (·.addr))|`(?G)=>`((by simp))|`(?H)=>`((blk X scope C s2 H2 fp N))|`(?I)=>`(starEach (e::es) X.env=(false,eval e X.env)::starEach es X.env)|`(?J)=>`(X.fn x=true\/X.env.scope.names.lookup x=some .local)|`(?K)=>`(by decide)
local macro_rules|`(tactic|accm_mu)=>`(tactic|(obtain⟨b,ys,e,n,q,t⟩:=r;exact⟨b,ys,e,n,by rw[A7 (fun z=>ap rfl (by rw[e,z]))];exact q,t.mono kp _ _⟩))
local macro_rules|`(tactic|back_in)=>`(tactic|(intro X hP hw hK hc i af s σ H E I hf st hg;subst hP hw hK))
local macro_rules|`(tactic|k_ne)=>`(tactic|refine⟨_,rfl,?_⟩)
variable {us bb:M Ad}{κ α β:Type}{a b it f l D0 en c' Pt z TO i1 i2 l1 l2 f2:Af}{P prog q:Aj}{h h' base:Heap}{o:Obj}{af lH pl pb:Pn9}{s s':Ae}{g':Array GenState}{t' n kk n1 n2 c ep:Nat}{ch fp ts gX:M Af}{N ps iY:M Str}{x qual name:Str}{Aa:Model}{E Q QQ:Ad->Ae->Prop}{u doc pm cdv ct oc c6:Ad}{e tg iter dv fj fB eY eZ:Ag}{pos cn p apos bV ml:Pos}{K:Fg9}{st:Al}{body:M Al}{lo:Int}{C:Int->Int->Prop}{fd:Ai}{kindOf:Str->Ac NameKind}{sc scope:Scope}{mg mb:Str->Ac Ad}{params:Arguments}{an od:Ac Af}{fV dS:Array (Ac Ad)}{T:String}{ks keys:M (Ac Ag)}{values gT:M Ag}{XP:(Str->Ac Ad)->Heap->Prop}{YP:Ak->Heap->Prop}{ns:M Int}{cap S met:M Nat}{ys:Array Ad}{use:Ac (Ad->Sem Unit)}{QB:Bool->Prop}{clos cs r:M (Str×Af)}{b1 b2:Bool}{tk:Nat->Tok}{rs on rows ws:M (M Nat)}{es:M Bool}{g:Bool->Bool->Bool}{good:Nat->Nat->Prop}{gens:M Comprehension}{tn:Nat->Heap->Prop}
abbrev B0:=Sum Int Str
def Q7h:B0->Ad->Bool
 |.inl k,v=>Value.isInt k v
 |.inr x,v=>Value.isStrOf x v
def keyH (w:Ak):B0->Int
 |.inl k=>hashInt k
 |.inr x=>hashStr w x
theorem Q2t:∀{k:B0}{v:Ad},Q7h k v=true->(∃i t,k=Sum.inl i/\v=Value.int i t)\/(∃x t,k=Sum.inr x/\v=Value.str x t)
 |.inl i,v,h=>by
  obtain⟨t,e⟩:=Value.isInt_shape (k:=i) (v:=v) h;exact .inl ⟨i,t,rfl,e⟩
 |.inr x,v,h=>by
  obtain⟨t,e⟩:=Value.isStrOf_shape (x:=x) (v:=v) h;exact .inr ⟨x,t,rfl,e⟩
def W7z (i:Int)(t:Tok):Q7h (.inl i) (.int i t)=true:=by simp[Q7h,Value.isInt]
def W8a (x:Str)(t:Tok):Q7h (.inr x) (.str x t)=true:=by simp[Q7h,Value.isStrOf]
def W8c (a b:Int):decide ((Sum.inl a:B0)=Sum.inl b)=(a==b):=by
 by_cases e:a=b
 ·subst e;simp
 ·have h:¬ (Sum.inl a:B0)=Sum.inl b:=fun q=>e (qu q);rw[aT h];exact(cc.mpr e).symm
def W8f (a b:Str):decide ((Sum.inr a:B0)=Sum.inr b)=decide (a=b):=by simp[B0]<;>omega
def W8d (a:Int)(b:Str):decide ((Sum.inl a:B0)=Sum.inr b)=false:=aT (fun q=>nomatch q)
def W8e (a:Str)(b:Int):decide ((Sum.inr a:B0)=Sum.inl b)=false:=aT (fun q=>nomatch q)
def M8 (prog:Aj)(w:Ak):PySem.KeyKind prog w B0 where
 is:=Q7h
 hash:=keyH w
 inj:=fun v a b ha hb=>by
  rcases Q2t ha with⟨i,t,rfl,rfl⟩ |⟨x,t,rfl,rfl⟩
  ·rcases Q2t hb with⟨j,u,rfl,e⟩ |⟨y,u,rfl,e⟩
   ·injection e with e1 _;rw[e1]
   ·exact nomatch e
  ·rcases Q2t hb with⟨j,u,rfl,e⟩ |⟨y,u,rfl,e⟩
   ·exact nomatch e
   ·injection e with e1 _;rw[e1]
 byValue:=fun k v h=>by
  rcases Q2t h with⟨i,t,rfl,rfl⟩ |⟨x,t,rfl,rfl⟩<;>rfl
 pyHash:=fun hv h=>by
  rcases Q2t hv with⟨i,t,rfl,rfl⟩ |⟨x,t,rfl,rfl⟩
  ·exact wpAny_pyHash_int h
  ·exact wpAny_pyHash_str h
 eqBool:=fun hu hv h=>by
  rcases Q2t hu with⟨i,t,rfl,rfl⟩ |⟨x,t,rfl,rfl⟩
  ·rcases Q2t hv with⟨j,u,rfl,rfl⟩ |⟨y,u,rfl,rfl⟩
   ·rw[W8c]at h;exact wpAny_eqBool_int h
   ·rw[W8d]at h;exact SeqAt.EqAt.int_str i t y u _ _ _ _ h
  ·rcases Q2t hv with⟨j,u,rfl,rfl⟩ |⟨y,u,rfl,rfl⟩
   ·rw[W8e]at h;exact SeqAt.EqAt.str_int x t j u _ _ _ _ h
   ·rw[W8f]at h;exact wpAny_eqBool_str h
 «strs»:=fun k x t v h=>by
  rcases Q2t h with⟨i,u,rfl,e⟩ |⟨y,u,rfl,e⟩
  ·exact nomatch e
  ·injection e with e1 _
   subst e1;cases v<;>rfl
def W9n (prog:Aj)(w:Ak)(i:Int)(t:Tok):(M8 prog w).is (.inl i) (.int i t)=true:=W7z i t
def W9o (prog:Aj)(w:Ak)(x:Str)(t:Tok):(M8 prog w).is (.inr x) (.str x t)=true:=W8a x t
inductive V where
 |non |bl (b:Bool) |int (i:Int) |str (x:Str) |byt (b:Array UInt8) |flt (b:UInt64) |ref (a:Addr) |ty (n:String)
 deriving DecidableEq
variable {xs vs lD:M V}{y:V}{kvs:M (M B0×V)}
def C2:V->Ad->Prop
 |.non,u=>u=Value.none
 |.bl b,u=>u=Value.bool b
 |.int i,u=>∃t,u=Value.int i t
 |.str x,u=>∃t,u=Value.str x t
 |.byt b,u=>∃t,u=Value.bytes b t
 |.flt b,u=>∃t,u=Value.float b t
 |.ref a,u=>u=Value.ref a
 |.ty n,u=>u=Value.type n
abbrev C4:M V->M Ad->Prop:=Paired C2
def C4.length (r:C4 xs us):xs.length=us.length:=jA r
theorem C4.get:∀{xs:M V}{us:M Ad}{i:Nat}{x:V},C4 xs us->xs[i]?=some x->∃u,us[i]?=some u/\C2 x u
 |_,_,_,_,.nil,e=>by simp at e
 |_,_,0,_,.cons r _,e=>by simp at e;subst e;exact⟨_,rfl,r⟩
 |_,_,i+1,x,.cons _ t,e=>by
  obtain⟨u,h1,h2⟩:=C4.get (i:=i) (x:=x) t (by simpa using e);exact⟨u,by simpa using h1,h2⟩
theorem C4.append:∀{xs ys:M V}{us ws:M Ad},C4 xs us->C4 ys ws->C4 (xs++ys) (us++ws):=by
 intro xs
 induction xs with
 |nil=>intro ys us ws a s;cases a;exact s
 |cons x xs ih=>
  intro ys us ws a s;cases a with
  |cons r t=>exact .cons r (ih t s)
def Q3l:Ac V->Ac Ad->Prop
 |some v,some u=>C2 v u
 |none,none=>True
 |_,_=>False
def KV:M (κ×V)->M (κ×Ad)->Prop:=Paired fun(p:κ×V) (q:κ×Ad)=>p.1=q.1/\C2 p.2 q.2
def kV:B0->V
 |.inl i=>.int i
 |.inr x=>.str x
inductive HO where
 |lst (xs:List V)
 |tup (xs:List V)
 |dK (kvs:List (B0×V)) |dT (kvs:List (List B0×V))
 |set (S:Int->Bool) (n:Nat)
 |ins (C dx:Addr) (fs:List (Str×V))
 |own (x:Addr)
 |xd (fs:List (Str×V))
 |met (f x:Addr)
 |rng (lo hi:Int)
 |frz (o:Obj) (u:HO)
 |tab
 |tbl (ps:Array Value)
 |ext (φ:Heap->Prop)
abbrev Hp:=Af->Ac HO
variable {H H' H1 H2 H0:Hp}{G:V->V->Hp->Prop}{Φ:Hp->Prop}
def A6 (H:Hp)(a:Af)(o:HO):Hp:=fun b=>if b=a then some o else H b
def upd_same {o:HO}:A6 H a o a=some o:=by unfold A6;rw[aQ rfl]
def A7 {o:HO}(h:b≠a):A6 H a o b=H b:=by unfold A6;rw[aI h]
def V8a {o u:HO}:A6 (A6 H a o) a u=A6 H a u:=by
 funext b;unfold A6;split<;>rfl
def Q0z {o u:HO}(h:H a=some o)(h':H b=some u)(d:o≠u):a≠b:=by
 intro e;subst e;rw[h]at h';exact d (aA h')
def V0 {o:HO}(h:H a=some o)(h':H b=none):a≠b:=by
 intro e;subst e;rw[h]at h';cases h'
def Q2j (o:Obj):Prop:=∃vs q t,o.data=.fields vs/\vs[1]?=some (Value.str q t)
def Z0j (a:Af)(u:HO):Prop:=u=.own a\/∃o,u=.frz o (.own a)
section
variable (P:Aj)(w:Ak)
def ObjOk (H:Hp)(h:Heap)(a:Af):HO->Prop
 |.lst xs=>xs.length<=sizeLine/\∃(bb:M Ad) (n:Nat),C4 xs bb/\h.get? a=some {cls:=.type "list",data:=.seq bb.toArray n}
 |.tup xs=>xs.length<=sizeLine/\∃bb:M Ad,C4 xs bb/\IsTup h a bb.toArray
 |.dK kvs=>kvs.length<=sizeLine/\(a==sysModules)=false/\∃vs,KV kvs vs/\h.DictOf (M8 P w) a vs
 | .dT kvs=>kvs.length<=sizeLine/\(a==sysModules)=false/\∃xs:M (M B0×Af×Ad),
   Paired (fun(p:M B0×V) (q:M B0×Af×Ad)=>p.1=q.1/\H q.2.1=some (.tup (p.1.map kV))/\C2 p.2 q.2.2) kvs xs /\
   ∃o es ep,h.get? a=some o/\o.ExactDict/\o.data=.dict es ep/\es.toList=xs.map (entryOfKey (tupleKind (M8 P w)))/\(xs.map (·.1)).Nodup
 |.set S n=>h.SetOf (intKind P w) a S n
 | .ins C dx fs=>H dx=some (.own a)/\fs.length<=1000/\dx≠a/\h.get? a=some (PySem.W.instObj C dx) /\
   ∃mA,h.Ns1 dx mA/\(∀f,Q3l (fs.lookup f) (mA f))/\PySem.Within mA (fs.map (·.1))
 |.own _=>∃o,h.get? a=some o
 |.xd fs=>∃mA,h.Ns1 a mA/\∀f,Q3l (fs.lookup f) (mA f)
 |.rng lo hi=>∃t u v,h.get? a=some {cls:=.type "range",data:=.fields #[.int lo t,.int hi u,.int 1 v]}
 |.frz o u=>h.get? a=some o/\ObjOk H h a u
 |.tab=>∃ps,h.get? a=some (PySem.W.tabObj ps)/\TriplesOk ps.toList/\∀pos cv,codeAmong pos ps.toList=some cv->∃c' oc,cv=.ref c'/\H c'=some (.frz oc (.own a))/\Q2j oc
 |.tbl ps=>h.get? a=some {cls:=.none,data:=.fields ps}
 |.met f x=>h.get? a=some (PySem.W.methodObj (.ref f) (.ref x))
 |.ext φ=>φ h/\(∃o,h.get? a=some o)/\∀h1 h2:Heap,φ h1->(∀o,h1.get? a=some o->h2.get? a=some o)->φ h2
def J6 (H:Hp)(h:Heap):Prop:=∀a o,H a=some o->ObjOk P w H h a o
end
section
variable {w:Ak}{o:HO}
theorem ObjOk.lt (x:ObjOk P w H h a o):a<h.objs.size:=by
 cases o with
 |lst xs=>obtain⟨_,_,_,_,e⟩:=x;exact aw e
 |tup xs=>obtain⟨_,_,_,p⟩:=x;exact p.lt
 |dK kvs=>obtain⟨_,_,_,_,o,_,_,e,_⟩:=x;exact aw e
 |dT kvs=>obtain⟨_,_,_,_,o,_,_,e,_⟩:=x;exact aw e
 |set S n=>obtain⟨o,_,_,_,e,_⟩:=x;exact aw e
 |ins C dx fs=>obtain⟨_,_,_,e,_⟩:=x;exact aw e
 |own y=>obtain⟨_,e⟩:=x;exact aw e
 |xd fs=>obtain⟨_,⟨_,_,_,e,_⟩,_⟩:=x;exact aw e
 |rng lo hi=>obtain⟨_,_,_,e⟩:=x;exact aw e
 |frz ob u=>obtain⟨e,_⟩:=x;exact aw e
 |tab=>obtain⟨_,e,_⟩:=x;exact aw e
 |tbl ps=>exact aw (show h.get? a=some _ from x)
 |met f y=>exact aw (show h.get? a=some _ from x)
 |ext φ=>obtain⟨_,⟨_,e⟩,_⟩:=x;exact aw e
theorem Y1r {F G:α->β->Prop}:∀{l₁:M α}{l₂:M β},Paired F l₁ l₂->(∀a b,F a b->G a b)->Paired G l₁ l₂:=by
 intro l₁
 induction l₁ with
 |nil=>intro l₂ a f;cases a;exact .nil
 |cons x l ih=>
  intro l₂ a f;cases a with
  |cons r t=>exact .cons (f _ _ r) (ih t f)
theorem ObjOk.stay (x:ObjOk P w H h a o)(k:∀b u,(b=a\/H b=some (.own a))->h.get? b=some u->h'.get? b=some u)
  (ho:∀b u,Z0j a u->H b=some u->H' b=some u) (ht:∀b xs,H b=some (.tup xs)->H' b=some (.tup xs)):ObjOk P w H' h' a o:=by
 induction o with
 |lst xs=>obtain⟨z,bb,n,r,e⟩:=x;exact⟨z,bb,n,r,k _ _ (.inl rfl) e⟩
 |tup xs=>obtain⟨z,bb,r,ob,e,c⟩:=x;exact⟨z,bb,r,ob,k _ _ (.inl rfl) e,c⟩
 |dK kvs=>obtain⟨z,y,vs,r,ob,es,ep,e,c⟩:=x;exact⟨z,y,vs,r,ob,es,ep,k _ _ (.inl rfl) e,c⟩
 |dT kvs=>
  obtain⟨z,y,xs,r,ob,es,ep,e,c⟩:=x;exact⟨z,y,xs,Y1r r fun p q z=>⟨z.1,ht _ _ z.2.1,z.2.2⟩,ob,es,ep,k _ _ (.inl rfl) e,c⟩
 |set S n=>obtain⟨ob,es,ep,t,e,c⟩:=x;exact⟨ob,es,ep,t,k _ _ (.inl rfl) e,c⟩
 |ins C dx fs=>
  obtain⟨d,z,ne,e,mA,⟨od,es,ep,e2,c⟩,r⟩:=x;exact⟨ho _ _ (.inl rfl) d,z,ne,k _ _ (.inl rfl) e,mA,⟨od,es,ep,k _ _ (.inr d) e2,c⟩,r⟩
 |own y=>obtain⟨ob,e⟩:=x;exact⟨ob,k _ _ (.inl rfl) e⟩
 |xd fs=>obtain⟨mA,⟨od,es,ep,e,c⟩,r⟩:=x;exact⟨mA,⟨od,es,ep,k _ _ (.inl rfl) e,c⟩,r⟩
 |rng lo hi=>obtain⟨t,u,v,e⟩:=x;exact⟨t,u,v,k _ _ (.inl rfl) e⟩
 |frz ob u ih=>obtain⟨e,q⟩:=x;exact⟨k _ _ (.inl rfl) e,ih q⟩
 |tab=>
  obtain⟨ps,e,t,en⟩:=x;exact⟨ps,k _ _ (.inl rfl) e,t,fun pos cv q=>let ⟨c',oc,e1,e2,e3⟩:=en pos cv q;⟨c',oc,e1,ho _ _ (.inr ⟨_,rfl⟩) e2,e3⟩⟩
 |tbl ps=>
  have e:h.get? a=some {cls:=.none,data:=.fields ps}:=x;show h'.get? a=some {cls:=.none,data:=.fields ps};exact k a _ (.inl rfl) e
 |met f y=>
  have e:h.get? a=some (PySem.W.methodObj (.ref f) (.ref y)):=x;show h'.get? a=some (PySem.W.methodObj (.ref f) (.ref y));exact k a _ (.inl rfl) e
 |ext φ=>obtain⟨p,⟨o,e⟩,st⟩:=x;exact⟨st _ _ p fun o q=>k _ _ (.inl rfl) q,⟨o,k _ _ (.inl rfl) e⟩,st⟩
def J6.lt (x:J6 P w H h)(e:H a=some o):a<h.objs.size:=(x a o e).lt
theorem J6.fresh (x:J6 P w H h)(e:h.objs.size<=a):H a=none:=by
 cases q:H a with
 |none=>rfl
 |some u=>exact absurd (ay (x.lt q) e) (aS _)
def J6.kept (x:J6 P w H h)(k:∀b u,h.get? b=some u->h'.get? b=some u):J6 P w H h':=fun a o e=>
 (x a o e).stay (fun b u _ q=>k b u q) (fun _ _ _ q=>q) fun _ _ q=>q
def J6.laid (x:J6 P w H h)(k:∀b u,h.get? b=some u->h'.get? b=some u)(hp:h.objs.size<=a)(new:ObjOk P w (A6 H a o) h' a o):J6 P w (A6 H a o) h':=fun b u e=>by
 have hn:=x.fresh hp
 by_cases hb:b=a
 ·subst hb;rw[upd_same]at e;cases e;exact new
 ·rw[A7 hb]at e;exact(x b u e).stay (fun c v _ q=>k c v q) (fun c u _ q=>by rw[A7 (V0 q hn)];exact q) fun c xs q=>by rw[A7 (V0 q hn)];exact q
end
def Rd (H:Hp)(a:Af)(u:HO):Prop:=H a=some u\/∃o,H a=some (.frz o u)
def Rd.ok {w:Ak}    {u:HO}(r:Rd H a u)(x:J6 P w H h):ObjOk P w H h a u:=by
 rcases r with r |⟨o,r⟩
 ·exact x a u r
 ·obtain⟨_,q⟩:=x a _ r;exact q
def Mut:Ac HO->Prop
 |some (.lst _)=>True
 |some (.dK _)=>True
 |some (.dT _)=>True
 |some (.set _ _)=>True
 |some (.ins _ _ _)=>True
 |some (.ext _)=>True
 |some .tab=>True
 |_=>False
section
variable {w:Ak}{x e:Af}{o':HO}
def J6.write (ok:J6 P w H h)(mu:Mut (H x))(he:e=x\/H e=some (.own x))(k:∀b u,b≠e->h.get? b=some u->h'.get? b=some u)(ny:∃u,h'.get? e=some u)
  (new:ObjOk P w (A6 H x o') h' x o'):J6 P w (A6 H x o') h':=fun b u q=>by
 have qM:∀c y,H c=some (.own y)->c≠x:=fun c y r z=>by subst z;rw[r]at mu;exact mu
 have nS:∀c u y,Z0j y u->H c=some u->c≠x:=fun c u y ow r z=>by
  subst z;rw[r]at mu;rcases ow with rfl |⟨o,rfl⟩
  ·exact mu
  ·exact mu
 have qL:∀c xs,H c=some (.tup xs)->c≠x:=fun c xs r z=>by subst z;rw[r]at mu;exact mu
 by_cases hb:b=x
 ·subst hb;rw[upd_same]at q;cases q;exact new
 ·rw[A7 hb]at q
  by_cases hbe:b=e
  ·have q':H b=some (.own x):=by
    rcases he with z |z
    ·exact absurd (hbe.trans z) hb
    ·rw[hbe];exact z
   rw[q]at q';cases q';obtain⟨v,hv⟩:=ny;exact⟨v,by rw[hbe];exact hv⟩
  ·refine(ok b u q).stay (fun c v hc r=>k c v ?_ r) (fun c u ow r=>by rw[A7 (nS c u b ow r)];exact r) fun c xs r=>by rw[A7 (qL c xs r)];exact r
   rcases hc with rfl |hc
   ·exact hbe
   ·rintro rfl;rcases he with z |z
    ·exact qM c b hc z
    ·rw[hc]at z;cases z;exact hb rfl
end
structure Un (fs ex:M Af)(H H':Hp)(h h':Heap):Prop where
 keep:∀b o,h.get? b=some o->H b=none->b∉fs->b∉ex->h'.get? b=some o
 slot:∀b o,h.get? b=some o->H b=none->b∈fs->b∉ex->∃sl,h'.get? b=some {o with slots:=sl}
 free:∀b o,h.get? b=some o->H b=none->b∉ex->H' b=none
 there:∀b o,h.get? b=some o->b∉ex->∃o',h'.get? b=some o'
 tups:∀b xs,H b=some (.tup xs)->H' b=some (.tup xs)
 frzs:∀b o u,H b=some (.frz o u)->H' b=some (.frz o u)
 tbls:∀b ps,H b=some (.tbl ps)->∃more,H' b=some (.tbl (ps++more))
section
variable {fs ex:M Af}{h1:Heap}{x e:Af}{o:HO}
def Un.any (u:Un fs ex H H1 h h1)  {ob:Obj}(q:h.get? b=some ob)(n:H b=none)(hx:b∉ex):∃sl,h1.get? b=some {ob with slots:=sl}:=by
 by_cases hb:b∈fs
 ·exact u.slot b ob q n hb hx
 ·exact⟨ob.slots,u.keep b ob q n hb hx⟩
def Un.kept (k:∀b u,h.get? b=some u->h'.get? b=some u):Un fs ex H H h h':=
 ⟨fun b ob q _ _ _=>k b ob q,fun b ob q _ _ _=>⟨ob.slots,k b ob q⟩,fun _ _ _ n _=>n,fun b ob q _=>⟨ob,k b ob q⟩,fun _ _ q=>q,fun _ _ _ q=>q,fun _ ps q=>⟨#[],by rw[q];simp⟩⟩
def Un.refl:Un fs ex H H h h:=Un.kept fun _ _ q=>q
def Un.laid (k:∀b u,h.get? b=some u->h'.get? b=some u)(hp:h.objs.size<=a)(hn:H a=none):Un fs ex H (A6 H a o) h h' where
 keep:=fun b u q _ _ _=>k b u q
 slot:=fun b u q _ _ _=>⟨u.slots,k b u q⟩
 free:=fun b u q n _=>by rw[A7 (ax (ay (aw q) hp))];exact n
 there:=fun b u q _=>⟨u,k b u q⟩
 tups:=fun b xs q=>by rw[A7 (V0 q hn)];exact q
 frzs:=fun b u xs q=>by rw[A7 (V0 q hn)];exact q
 tbls:=fun b ps q=>⟨#[],by rw[A7 (V0 q hn),q];simp⟩
def Un.write (mu:Mut (H x))(he:e=x\/H e=some (.own x))(k:∀b u,b≠e->h.get? b=some u->h'.get? b=some u)(ny:∃u,h'.get? e=some u):Un fs ex H (A6 H x o) h h':=by
 have hx:∀b,H b=none->b≠x:=fun b n z=>by subst z;rw[n]at mu;exact mu
 have hb:∀b,H b=none->b≠e:=fun b n z=>by
  subst z;rcases he with r |r
  ·exact hx b n r
  ·rw[n]at r;cases r
 have hm:∀b u,H b=some u->¬ Mut (some u)->b≠x:=fun b u q nm z=>by subst z;rw[q]at mu;exact nm mu
 refine⟨fun b u q n _ _=>k b u (hb b n) q,fun b u q n _ _=>⟨u.slots,k b u (hb b n) q⟩,fun b u q n _=>by rw[A7 (hx b n)];exact n,fun b u q _=>?_,
  fun b xs q=>by rw[A7 (hm b _ q fun z=>z)];exact q,fun b u xs q=>by rw[A7 (hm b _ q fun z=>z)];exact q,fun b ps q=>⟨#[],by rw[A7 (hm b _ q fun z=>z),q];simp⟩⟩
 by_cases hbe:b=e
 ·subst hbe;exact ny
 ·exact⟨u,k b u hbe q⟩
end
def trk (h:Heap)(H:Hp):M Af:=(List.range h.objs.size).filter fun a=>(H a).isSome
def Q2r (h:Heap)(H:Hp):Heap:=PySem.W.hideAll h (trk h H)
def W6n (h:Heap)(H:Hp):(Q2r h H).objs.size=h.objs.size:=PySem.W.hideAll_size _ _
def W6m (e:h.get? b=some o)(n:H b=none):(Q2r h H).get? b=some o:=
 PySem.W.hideAll_get _ e fun hm=>by
  have q:(H b).isSome=true:=(bN.mp hm).2;rw[n]at q;simp at q
theorem V0p (e:(Q2r h H).get? b=some o):h.get? b=some o/\H b=none:=by
 have e':h.get? b=some o:=PySem.W.of_hideAll (trk h H) e;refine⟨e',?_⟩;cases q:H b with
 |none=>rfl
 |some x=>
  have hm:b∈trk h H:=bN.mpr ⟨aZ.mpr (aw e'),by simp[q]⟩;have z:(Q2r h H).get? b=none:=PySem.W.hideAll_none (trk h H) hm;rw[z]at e;cases e
structure Mod (K:Fg9)(mg:Str->Ac Ad)(base:Heap):Prop where
 kin:K.In base
 glob:base.Ns mainGlobals mg
 blt:∃mb,base.Ns builtinsNs mb/\∀x:Str,x≠"__name__"->mb x=bootBuiltins x
 nolimit:base.NoLimit
structure Cx where
 prog:Aj
 w:Ak
 K:Fg9
 mg:Str->Ac Ad
 base:Heap
 A:Ah
 N:M Str
 s₀:Ae
 H₀:Hp
 env:Env
 outer:M Env
 stack:M Env
 ex:M Af
 fn:Str->Bool
 calm:Bool
 pn:Pn9
 xe:VS9
variable {X:Cx}
def U0 (l:M Env):M Af:=l.filterMap (·.frame)
abbrev Cx.fs (X:Cx):M Af:=U0 X.outer
def Vis (sc:Scope)(x:Str):Prop:=sc.names.lookup x=some .local\/sc.names.lookup x=some .cell\/sc.names.lookup x=some .free
def Loc (sc:Scope)(x:Str):Prop:=sc.names.lookup x=some .local\/sc.names.lookup x=some .cell
def Look (env:Env)(h:Heap)(m:Str->Ac Ad)(x:Str)(u:Ad):Prop:=
 (env.kindOf x=some .local/\m x=some u)\/((env.kindOf x=some .cell\/env.kindOf x=some .free)/\∃c,env.cells.lookup x=some c/\h.IsCell c (some u))
structure Cx.Ok (X:Cx):Prop where
 mod:Mod X.K X.mg X.base
 kind:X.env.scope.kind=.function
 glob:X.env.globals=mainGlobals
 blt:X.env.builtins=builtinsNs
 above:X.s₀.heap.objs.size<=X.env.locals
 inj:∀x y c,X.env.cells.lookup x=some c->X.env.cells.lookup y=some c->x=y
 has:∀x,(X.env.kindOf x=some .cell\/X.env.kindOf x=some .free)->∃c,X.env.cells.lookup x=some c
 cab:∀x c,X.fn x=true->X.env.cells.lookup x=some c->X.s₀.heap.objs.size<=c
 hd:X.calm=true->X.A.handled=none
 frames:X.A.frames=some X.stack
 stk:X.stack=X.outer\/(X.stack=X.env::X.outer/\X.env.frame=some X.env.locals)
 exf:∀b∈X.ex,b≠X.env.locals/\∀x c,X.env.cells.lookup x=some c->c≠b
 bs:∀b o,X.base.get? b=some o->X.s₀.heap.get? b=some o/\X.H₀ b=none
 bsz:X.base.objs.size<=X.s₀.heap.objs.size
 noex:∀b o,X.base.get? b=some o->b∉X.ex
 exfs:∀b∈X.ex,b∉X.fs
 funs:X.s₀.heap.FunFrames X.base X.outer
 frf:∀b∈X.fs,X.H₀ b=none
structure A1 (X:Cx)(af:Pn9)(σ:M (Ac V))(H:Hp)(s:Ae):Prop where
 ok:X.Ok
 os:s.os=X.s₀.os
 bare:AllBare s.gens
 base:Un X.fs X.ex X.H₀ H X.s₀.heap s.heap
 loc:∃m,s.heap.Ns X.env.locals m/\∀(i:Nat) (x:Str) (v:V),X.N[i]?=some x->σ[i]?=some (some v)->Vis X.env.scope x->∃u,C2 v u/\Look X.env s.heap m x u
 cell:∀x c,X.env.cells.lookup x=some c->∃v,s.heap.IsCell c v
 free:H X.env.locals=none
 freeC:∀x c,X.env.cells.lookup x=some c->H c=none
 pin:∀p∈X.pn++af,s.heap.get? p.1=some p.2/\H p.1=none/\p.1≠X.env.locals/\p.1∉X.fs/\∀v,p.2.data≠.cell v
 hok:J6 X.prog X.w H s.heap
 len:σ.length=X.N.length
section
variable {σ:M (Ac V)}
def Cx.Ok.nofr (ok:X.Ok)   (e:X.base.get? b=some o):b∉X.fs:=fun hb=>by
 have:=(ok.funs.mem hb).1;rw[e]at this;cases this
def A1.bs (I:?B):∀b o,X.base.get? b=some o->s.heap.get? b=some o/\H b=none:=fun b o e=>
 ⟨I.base.keep b o (I.ok.bs b o e).1 (I.ok.bs b o e).2 (I.ok.nofr e) (I.ok.noex b o e),I.base.free b o (I.ok.bs b o e).1 (I.ok.bs b o e).2 (I.ok.noex b o e)⟩
def A1.bk (I:?B):∀b o,X.base.get? b=some o->s.heap.get? b=some o:=fun b o e=>(I.bs b o e).1
def A1.mod (I:?B):Mod X.K X.mg X.base:=I.ok.mod
def A1.kIn (I:?B):X.K.In s.heap:=I.ok.mod.kin.keeps I.bk
def A1.lt (I:?B):X.env.locals<s.heap.objs.size:=let ⟨_,hn,_⟩:=I.loc;hn.lt
def A1.sz (I:?B):X.s₀.heap.objs.size<=s.heap.objs.size:=aO I.ok.above (cg I.lt)
def A1.nofs (I:?B)  (h:s.heap.objs.size<=a):a∉X.fs:=fun hb=>by
 obtain⟨_,o,ho,_⟩:=I.ok.funs.mem hb;exact absurd (ay (aw ho) (aO I.sz h)) (aS _)
def A1.cne (I:?B):∀x c,X.env.cells.lookup x=some c->c≠X.env.locals:=fun x c e z=>by
 obtain⟨v,o,ho,hd⟩:=I.cell x c e;obtain⟨m,⟨o',es,ep,mL,x9,_⟩,_⟩:=I.loc;rw[z,mL]at ho;cases ho;rw[x9]at hd;cases hd
def A1.funs (I:?B):s.heap.FunFrames X.base X.outer:=by
 have all:∀(l:M Env),(∀b∈U0 l,b∈X.fs)->X.s₀.heap.FunFrames X.base l->s.heap.FunFrames X.base l:=by
  intro l
  induction l with
  |nil=>intro _ _;trivial
  |cons env r ih=>
   intro hs hl;obtain⟨hk,⟨L,o,hf,hn,ho,hd⟩,hr⟩:=hl;have hL:L∈X.fs:=hs L (by unfold U0;rw[gJ,hf];exact am);obtain⟨sl,e⟩:=I.base.slot L o ho (I.ok.frf L hL) hL fun z=>I.ok.exfs L z hL;exact⟨hk,⟨L,_,hf,hn,e,hd⟩,ih (fun b hb=>hs b (by unfold U0;rw[gJ,hf];exact ak _ hb)) hr⟩
 exact all X.outer (fun _ hb=>hb) I.ok.funs
def A1.stack (I:?B):s.heap.FunFrames X.base X.stack:=by
 rcases I.ok.stk with e |⟨e,hf⟩
 ·rw[e];exact I.funs
 ·rw[e];obtain⟨m,hn,_⟩:=I.loc;refine .cons (by rw[I.ok.kind];decide) hf hn ?_ I.funs;exact Heap.get?_none_of_le (aO I.ok.bsz I.ok.above)
def A1.stkSub (I:?B):∀b∈U0 X.stack,b∈X.env.locals::X.fs:=fun b hb=>by
 rcases I.ok.stk with e |⟨e,hf⟩
 ·rw[e]at hb;exact ak _ hb
 ·rw[e]at hb;unfold U0 at hb;rw[gJ,hf]at hb;exact hb
def A1.stkFree (I:?B):∀b∈U0 X.stack,H b=none:=fun b hb=>by
 rcases av.mp (I.stkSub b hb)with e |hb
 ·rw[e];exact I.free
 ·obtain⟨_,o,ho,_⟩:=I.ok.funs.mem hb;exact I.base.free b o ho (I.ok.frf b hb) fun z=>I.ok.exfs b z hb
def A1.step {d':Drawn}  (I:?B)
  (km:∀b∈ch,(b∈X.ex\/X.s₀.heap.objs.size<=b)/\b≠X.env.locals/\(∀x c,X.env.cells.lookup x=some c->c≠b)/\∀p∈X.pn++af,p.1≠b)
  (keep:∀b o,b≠X.env.locals->b∉X.fs->b∉ch->s.heap.get? b=some o->H b=none->h'.get? b=some o)
  (slot:∀b o,b≠X.env.locals->b∈X.fs->b∉ch->s.heap.get? b=some o->H b=none->∃sl,h'.get? b=some {o with slots:=sl}) (free:∀b o,b∉ch->s.heap.get? b=some o->H b=none->H' b=none)
  (there:∀b o,b∉ch->s.heap.get? b=some o->∃o',h'.get? b=some o')
  (tups:∀b xs,H b=some (.tup xs)->H' b=some (.tup xs)) (frzs:∀b o u,H b=some (.frz o u)->H' b=some (.frz o u)) (tbls:∀b ps,H b=some (.tbl ps)->∃more,H' b=some (.tbl (ps++more)))
  (ns:∀m,s.heap.Ns X.env.locals m->h'.Ns X.env.locals m) (hok:J6 X.prog X.w H' h') (hg:AllBare g'):
  A1 X af σ H' {s with heap:=h',gens:=g',drawn:=d',toks:=t'}:=by
 have tW:∀b o,X.s₀.heap.get? b=some o->b≠X.env.locals:=fun b o e=>ax (ay (aw e) I.ok.above);have jf:∀b o,X.s₀.heap.get? b=some o->b∉X.ex->b∉ch:=fun b o e hx hb=>by
  rcases (km b hb).1 with z |z
  ·exact hx z
  ·exact absurd (ay (aw e) z) (aS _)
 have lY:∀x c,X.env.cells.lookup x=some c->∀v,s.heap.IsCell c v->h'.IsCell c v:=fun x c e v ⟨o,ho,hd⟩=>by
  have nV:c∉ch:=fun z=>(km c z).2.2.1 x c e rfl
  by_cases hc:c∈X.fs
  ·obtain⟨sl,q⟩:=slot c o (I.cne x c e) hc nV ho (I.freeC x c e);exact⟨_,q,hd⟩
  ·exact⟨o,keep c o (I.cne x c e) hc nV ho (I.freeC x c e),hd⟩
 refine⟨I.ok,I.os,hg,⟨fun b o e n hb hx=>?_,fun b o e n hb hx=>?_,fun b o e n hx=>?_,fun b o e hx=>?_,fun b xs e=>tups b xs (I.base.tups b xs e),fun b o xs e=>frzs b o xs (I.base.frzs b o xs e),fun b ps e=>?_⟩,?_,fun x c e=>?_,?_,fun x c e=>?_,fun p hp=>?_,hok,I.len⟩
 ·exact keep b o (tW b o e) hb (jf b o e hx) (I.base.keep b o e n hb hx) (I.base.free b o e n hx)
 ·obtain⟨sl,e1⟩:=I.base.slot b o e n hb hx;obtain⟨vE,e2⟩:=slot b _ (tW b o e) hb (jf b o e hx) e1 (I.base.free b o e n hx);exact⟨vE,e2⟩
 ·obtain⟨o',e1⟩:=I.base.there b o e hx;exact free b o' (jf b o e hx) e1 (I.base.free b o e n hx)
 ·obtain⟨o',e1⟩:=I.base.there b o e hx;exact there b o' (jf b o e hx) e1
 ·obtain⟨m1,e1⟩:=I.base.tbls b ps e;obtain⟨m2,e2⟩:=tbls b _ e1;exact⟨m1++m2,by rw[e2,Array.append_assoc]⟩
 ·obtain⟨m,hn,hl⟩:=I.loc;refine⟨m,ns m hn,fun i x v e1 e2 e3=>?_⟩;obtain⟨u,r,l⟩:=hl i x v e1 e2 e3;refine⟨u,r,?_⟩;rcases l with l |⟨k,c,e,z⟩
  ·exact .inl l
  ·exact .inr ⟨k,c,e,lY x c e _ z⟩
 ·obtain⟨v,z⟩:=I.cell x c e;exact⟨v,lY x c e v z⟩
 ·obtain⟨m,⟨o,_,_,ho,_⟩,_⟩:=I.loc;exact free _ o (fun z=>(km _ z).2.1 rfl) ho I.free
 ·obtain⟨v,o,ho,hd⟩:=I.cell x c e;exact free c o (fun z=>(km c z).2.2.1 x c e rfl) ho (I.freeC x c e)
 ·obtain⟨e,n,ne,nf,d⟩:=I.pin p hp;have nV:p.1∉ch:=fun z=>(km p.1 z).2.2.2 p hp rfl;exact⟨keep p.1 p.2 ne nf nV e n,free p.1 p.2 nV e n,ne,nf,d⟩
def A1.un (I:?B)(u:Un X.fs [] H H' s.heap h')(hok:J6 X.prog X.w H' h'):A1 X af σ H' {s with heap:=h',toks:=t'}:=by
 obtain⟨m,⟨o,es,ep,ho,r⟩,_⟩:=id I.loc;obtain⟨sl,hL⟩:=u.any ho I.free ?G;exact I.step (g':=s.gens) (d':=s.drawn) (ch:=[]) (fun _ z=>nomatch z) (fun b o _ hb _ e n=>u.keep b o e n hb ?G) (fun b o _ hb _ e n=>u.slot b o e n hb ?G) (fun b o _ e n=>u.free b o e n ?G) (fun b o _ e=>u.there b o e ?G) u.tups u.frzs u.tbls (fun m' hm=>by
  obtain⟨o',im,kq,mL,r'⟩:=hm;rw[ho]at mL;cases mL;exact⟨_,im,kq,hL,r'⟩) hok I.bare
def A1.call {d':Drawn}  (I:?B)(u:Un (U0 X.stack) ch H H' s.heap h')(hok:J6 X.prog X.w H' h')(hg:AllBare g')
  (km:∀b∈ch,(b∈X.ex\/X.s₀.heap.objs.size<=b)/\b≠X.env.locals/\(∀x c,X.env.cells.lookup x=some c->c≠b)/\∀p∈X.pn++af,p.1≠b):
  A1 X af σ H' {s with heap:=h',gens:=g',drawn:=d',toks:=t'}:=by
 obtain⟨m,⟨o,es,ep,ho,r⟩,_⟩:=id I.loc;obtain⟨sl,hL⟩:=u.any ho I.free fun z=>(km _ z).2.1 rfl;exact I.step (ch:=ch) km (fun b o hL hb hc e n=>u.keep b o e n (fun z=>(av.mp (I.stkSub b z)).elim hL hb) hc) (fun b o _ _ hc e n=>u.any e n hc) (fun b o hc e n=>u.free b o e n hc) (fun b o hc e=>u.there b o e hc) u.tups u.frzs u.tbls (fun m' hm=>by
  obtain⟨o',im,kq,mL,r'⟩:=hm;rw[ho]at mL;cases mL;exact⟨_,im,kq,hL,r'⟩) hok hg
def A1.turned (I:?B)(k:∀b o,b≠it->s.heap.get? b=some o->h'.get? b=some o)(hn:H it=none)(hL:it≠X.env.locals)
  (h1:it∈X.ex\/X.s₀.heap.objs.size<=it) (h2:∀x c,X.env.cells.lookup x=some c->c≠it) (h3:∀p∈X.pn++af,p.1≠it):A1 X af σ H {s with heap:=h',toks:=t'}:=by
 have lI:∀b u,H b=some u->b≠it:=fun b u e z=>by rw[z,hn]at e;cases e
 refine I.step (g':=s.gens) (d':=s.drawn) (ch:=[it]) (fun b hb=>?_) (fun b o _ _ hc e _=>k b o (fun z=>hc (by simp[z])) e) (fun b o _ _ hc e _=>⟨o.slots,k b o (fun z=>hc (by simp[z])) e⟩) (fun _ _ _ _ n=>n)
  (fun b o hc e=>⟨o,k b o (fun z=>hc (by simp[z])) e⟩) (fun _ _ e=>e) (fun _ _ _ e=>e) (fun b ps e=>⟨#[],by rw[e];simp⟩) (fun m hm=>?_) (fun b u e=>?_) I.bare
 ·have e:b=it:=by simpa using hb
  subst e;exact⟨h1,hL,h2,h3⟩
 ·obtain⟨o,es,ep,ho,r⟩:=hm;exact⟨o,es,ep,k _ o (bY hL) ho,r⟩
 ·refine(I.hok b u e).stay (fun c v hc q=>k c v ?_ q) (fun _ _ _ q=>q) fun _ _ q=>q;rcases hc with z |z
  ·rw[z];exact lI b u e
  ·exact lI c _ z
def A1.tok (I:?B)(t:Nat):A1 X af σ H {s with toks:=t}:=I.un (h':=s.heap) (t':=t) Un.refl I.hok
def A1.kept (I:?B)(k:∀b u,s.heap.get? b=some u->h'.get? b=some u):A1 X af σ H {s with heap:=h',toks:=t'}:=I.un (Un.kept k) (I.hok.kept k)
def A1.laid {o:HO}  (I:?B)(k:∀b u,s.heap.get? b=some u->h'.get? b=some u)(hp:s.heap.objs.size<=a)(new:ObjOk X.prog X.w (A6 H a o) h' a o):
  A1 X af σ (A6 H a o) {s with heap:=h',toks:=t'}:=I.un (Un.laid k hp (I.hok.fresh hp)) (I.hok.laid k hp new)
def A1.write {x e:Af}{o:HO}  (I:?B)(mu:Mut (H x))(he:e=x\/H e=some (.own x))(k:∀b u,b≠e->s.heap.get? b=some u->h'.get? b=some u)(ny:∃u,h'.get? e=some u)
  (new:ObjOk X.prog X.w (A6 H x o) h' x o):A1 X af σ (A6 H x o) {s with heap:=h',toks:=t'}:=I.un (Un.write mu he k ny) (I.hok.write mu he k ny new)
def A1.pins_of (I:?B)(h:∀p∈lH,s.heap.get? p.1=some p.2/\H p.1=none/\p.1≠X.env.locals/\p.1∉X.fs/\∀v,p.2.data≠.cell v):A1 X lH σ H s:=
 ⟨I.ok,I.os,I.bare,I.base,I.loc,I.cell,I.free,I.freeC,fun p hp=>(aH.mp hp).elim (fun z=>I.pin p (aV _ z)) (h p),I.hok,I.len⟩
theorem Y6h (hN:N.Nodup){i j:Nat}  (a:N[i]?=some x)(b:N[j]?=some x):i=j:=by grind [j7]
def Z2t {A:Ah}  {i:Nat}  {v:V}  {Q:Unit->Ae->Prop}(I:?B)(hN:X.N.Nodup)(hi:X.N[i]?=some x)(hx:Loc X.env.scope x)(r:C2 v u)
  (h:∀s',A1 X af (σ.set i (some v)) H s'->(∃a,Heap.SameBut a s.heap s'.heap/\(a=X.env.locals\/X.env.cells.lookup x=some a))->Q () s') (hf:?J:=by first |exact .inl rfl |exact .inr rfl |assumption):wpAny Aa A (storeName X.env x u) Q E s:=by
 obtain⟨m,hn,hl⟩:=id I.loc;have sC:(X.env.scope.kind==.class||(X.env.scope.kind==.module&&X.env.locals != X.env.globals))=false:=by rw[I.ok.kind];rfl
 have hiσ:i<σ.length:=by rw[I.len];exact(aJ.mp hi).1
 have cne:=I.cne;have tracked:∀{a:Af}{h':Heap},(∃o,s.heap.get? a=some o/\H a=none)->Heap.SameBut a s.heap h'->J6 X.prog X.w H h':=fun {a h'} ha hs b ob e=>by
  obtain⟨_,_,lS⟩:=ha;refine(I.hok b ob e).stay (fun c w' hc q=>(hs.2 c ?_).trans q) (fun _ _ _ q=>q) fun _ _ q=>q;rintro rfl;rcases hc with rfl |hc
  ·rw[lS]at e;cases e
  ·rw[lS]at hc;cases hc
 rcases hx with hk |hk
 ·refine wpAny_storeName_local hk hn (fun h' wI hs=>?_) sC;obtain⟨oL,_,_,om,_⟩:=id hn;refine h _ ⟨I.ok,I.os,I.bare,⟨fun b o e n hb hx=>?_,fun b o e n hb hx=>?_,I.base.free,fun b o e hx=>?_,I.base.tups,I.base.frzs,I.base.tbls⟩,⟨_,wI,fun j y v' e1 e2 e3=>?_⟩,fun y c e=>?_,I.free,I.freeC,fun p hp=>?_,tracked ⟨oL,om,I.free⟩ hs,by simpa using I.len⟩ ⟨_,hs,.inl rfl⟩
  ·exact(hs.2 b (ax (ay (aw e) I.ok.above))).trans (I.base.keep b o e n hb hx)
  ·obtain⟨sl,e1⟩:=I.base.slot b o e n hb hx;exact⟨sl,(hs.2 b (ax (ay (aw e) I.ok.above))).trans e1⟩
  ·obtain⟨o',e1⟩:=I.base.there b o e hx;exact⟨o',(hs.2 b (ax (ay (aw e) I.ok.above))).trans e1⟩
  ·by_cases hj:j=i
   ·subst hj;rw[hi]at e1;cases e1;rw[b9 hiσ]at e2;cases e2;exact⟨u,r,.inl ⟨hk,by simp⟩⟩
   ·rw[aL (bY hj)]at e2;obtain⟨u',r',q⟩:=hl j y v' e1 e2 e3;refine⟨u',r',?_⟩;rcases q with⟨k,e⟩ |⟨k,c,e,z⟩
    ·refine .inl ⟨k,?_⟩;have:y≠x:=fun e=>hj (Y6h hN e1 (e▸hi));simp[this,e]
    ·exact .inr ⟨k,c,e,z.sameBut hs (cne y c e)⟩
  ·obtain⟨w',z⟩:=I.cell y c e;exact⟨w',z.sameBut hs (cne y c e)⟩
  ·obtain⟨e,n,ne,nf,d⟩:=I.pin p hp;exact⟨(hs.2 p.1 ne).trans e,n,ne,nf,d⟩
 ·have ij:X.fn x=true:=by
   rcases hf with z |z
   ·exact z
   ·rw[z]at hk;cases hk
  obtain⟨c,hc⟩:=I.ok.has x (.inl hk);obtain⟨w',z⟩:=I.cell x c hc;refine wpAny_storeName_cell I.ok.kind hk hc z (fun h' dW hs=>?_);obtain⟨oc,eN,rT⟩:=id z;refine h {s with heap:=h'} ⟨I.ok,I.os,I.bare,⟨fun b o e n hb hx=>?_,fun b o e n hb hx=>?_,I.base.free,fun b o e hx=>?_,I.base.tups,I.base.frzs,I.base.tbls⟩,⟨m,hn.sameBut hs (bY (cne x c hc)),fun j y v' e1 e2 e3=>?_⟩,fun y c' e=>?_,I.free,I.freeC,fun p hp=>?_,tracked ⟨oc,eN,I.freeC x c hc⟩ hs,by simpa using I.len⟩ ⟨c,hs,.inr hc⟩
  ·exact(hs.2 b (ax (ay (aw e) (I.ok.cab x c ij hc)))).trans (I.base.keep b o e n hb hx)
  ·obtain⟨sl,e1⟩:=I.base.slot b o e n hb hx;exact⟨sl,(hs.2 b (ax (ay (aw e) (I.ok.cab x c ij hc)))).trans e1⟩
  ·obtain⟨o',e1⟩:=I.base.there b o e hx;exact⟨o',(hs.2 b (ax (ay (aw e) (I.ok.cab x c ij hc)))).trans e1⟩
  ·by_cases hj:j=i
   ·subst hj;rw[hi]at e1;cases e1;rw[b9 hiσ]at e2;cases e2;exact⟨u,r,.inr ⟨.inl hk,c,hc,dW⟩⟩
   ·rw[aL (bY hj)]at e2;obtain⟨u',r',q⟩:=hl j y v' e1 e2 e3;refine⟨u',r',?_⟩;rcases q with q |⟨k,c',e,z'⟩
    ·exact .inl q
    ·refine .inr ⟨k,c',e,z'.sameBut hs ?_⟩;rintro rfl;exact hj (Y6h hN e1 (I.ok.inj _ _ _ e hc▸hi))
  ·by_cases gR:c'=c
   ·subst gR;exact⟨_,dW⟩
   ·obtain⟨w2,z2⟩:=I.cell y c' e;exact⟨w2,z2.sameBut hs gR⟩
  ·obtain⟨e,n,ne,nf,d⟩:=I.pin p hp;refine⟨(hs.2 p.1 ?_).trans e,n,ne,nf,d⟩;intro q;rw[q,eN]at e;have q':oc=p.2:=aA e;exact d w' (by rw[<-q'];exact rT)
def Z8o {A:Ah}  {i:Nat}  {v:V}  {Q:Unit->Ae->Prop}(I:?B)(hN:X.N.Nodup)(hi:X.N[i]?=some x)(hx:Loc X.env.scope x)(r:C2 v u)
  (h:∀s',A1 X af (σ.set i (some v)) H s'->Q () s') (hf:?J:=by first |exact .inl rfl |exact .inr rfl |assumption):wpAny Aa A (storeName X.env x u) Q E s:=
 Z2t I hN hi hx r (fun s' I' _=>h s' I') hf
def A1.call' (I:?B)(ho:s'.os=s.os)(u:Un (U0 X.stack) ch H H' s.heap s'.heap)(hok:J6 X.prog X.w H' s'.heap)(hg:AllBare s'.gens)
  (km:∀b∈ch,(b∈X.ex\/X.s₀.heap.objs.size<=b)/\b≠X.env.locals/\(∀x c,X.env.cells.lookup x=some c->c≠b)/\∀p∈X.pn++af,p.1≠b):A1 X af σ H' s':=by
 obtain⟨h',g',d',t',o'⟩:=s';have e:o'=s.os:=ho;subst e;exact I.call (g':=g') (t':=t') (d':=d') u hok hg km
end
abbrev XK:=Ad->Ac Af->Hp->Prop
abbrev St:=M (Ac V)
abbrev VK:=V->Hp->Prop
abbrev TE:=St->Hp->VK->Prop
variable {ta te td ty:TE}{iT:M (TE×TE)}
abbrev TT:=St->Hp->(Bool->Hp->Prop)->Prop
abbrev TA:=St->Hp->(M V->Hp->Prop)->Prop
structure Q5g where
 nx:St->Hp->Prop
 rt:VK
 bk:St->Hp->Prop:=fun _ _=>False
 ct:St->Hp->Prop:=fun _ _=>False
abbrev TS:=Q5g->St->Hp->Prop
def EP (X:Cx)(af:Pn9)(σ:St)(Q:VK)(u:Ad)(s':Ae):Prop:=∃v H',A1 X af σ H' s'/\C2 v u/\Q v H'
def TP (X:Cx)(af:Pn9)(σ:St)(Q:Bool->Hp->Prop)(b:Bool)(s':Ae):Prop:=∃H',A1 X af σ H' s'/\Q b H'
def AP (X:Cx)(af:Pn9)(σ:St)(Q:M V->Hp->Prop)(us:M Ad)(s':Ae):Prop:=∃vs H',A1 X af σ H' s'/\C4 vs us/\Q vs H'
def SP (X:Cx)(af:Pn9)(D:Q5g)(f:Flow)(s':Ae):Prop:=
 match f with
 |.next=>∃ σ' H',A1 X af σ' H' s'/\D.nx σ' H'
 |.brk=>∃ σ' H',A1 X af σ' H' s'/\D.bk σ' H'
 |.cont=>∃ σ' H',A1 X af σ' H' s'/\D.ct σ' H'
 |.ret u=>∃v σ' H',A1 X af σ' H' s'/\C2 v u/\D.rt v H'
def PE (X:Cx)(e:Ag)(t:TE):Prop:=
 ∀(af:Pn9) (s:Ae) (σ:St) (H:Hp) (Q:VK),?B->t σ H Q->wpAny ?C X.A (eval e X.env) (EP X af σ Q) X.xe s
def PT (X:Cx)(e:Ag)(t:TT):Prop:=
 ∀(af:Pn9) (s:Ae) (σ:St) (H:Hp) (Q:Bool->Hp->Prop),?B->t σ H Q->wpAny ?C X.A (isTrue e X.env (eval e X.env)) (TP X af σ Q) X.xe s
def PW (X:Cx)(e:Ag)(t:TT):Prop:=
 ∀(whole:Sem Ad) (af:Pn9) (s:Ae) (σ:St) (H:Hp) (Q:Bool->Hp->Prop),?B->t σ H Q->wpAny ?C X.A (isTrue e X.env whole) (TP X af σ Q) X.xe s
def PW.pt {t:TT}(h:PW X e t):PT X e t:=h _
def PA (X:Cx)(es:M Ag)(t:TA):Prop:=
 ∀(pos:Pos) (af:Pn9) (s:Ae) (σ:St) (H:Hp) (Q:M V->Hp->Prop),?B->t σ H Q->wpAny ?C X.A (spliced (backTo pos (starEach es X.env))) (AP X af σ Q) X.xe s
def PS (X:Cx)(st:Al)(t:TS):Prop:=
 ∀(af:Pn9) (s:Ae) (σ:St) (H:Hp) (D:Q5g),?B->t D σ H->wpAny ?C X.A (exec st X.env) (SP X af D) X.xe s
def U7 (X:Cx)(st:M Al)(t:TS):Prop:=
 ∀(af:Pn9) (s:Ae) (σ:St) (H:Hp) (D:Q5g),?B->t D σ H->wpAny ?C X.A (execs st X.env) (SP X af D) X.xe s
def B3 {t:Sem α}{Q Q':α->Ae->Prop}  {A:Ah}   (h:wpAny Aa A t Q E s)(hQ:∀a s,Q a s->Q' a s):wpAny Aa A t Q' E s:=aE h hQ fun _ _ x=>x
section
def S9 (i:Nat):TE:=fun σ H Q=>∃v,σ[i]?=some (some v)/\Q v H
def tC (v:V):TE:=fun _ H Q=>Q v H
def V2e {i:Nat}   (hN:X.N[i]?=some x)(hv:Vis X.env.scope x)(hd:(x==("__debug__":Str))=false:=by decide)(fS:(x==("__classdict__":Str))=false:=by decide):PE X (.Name x pos) (S9 i):=by
 intro af s σ H Q I h;obtain⟨v,e,h⟩:=h;obtain⟨m,hn,hl⟩:=I.loc;obtain⟨u,r,l⟩:=hl i x v hN e hv;have fin:EP X af σ Q u s:=⟨v,H,I,r,h⟩
 rcases l with⟨hk,hm⟩ |⟨hk,c,hc,dP⟩
 ·exact wpAny_Name (wpAny_loadName_local I.ok.kind hk hn hm fin) hd
 ·rcases hk with hk |hk
  ·exact wpAny_Name (wpAny_loadName_cell I.ok.kind hk hc dP fin) hd
  ·exact wpAny_Name (wpAny_loadName_free I.ok.kind hk hc dP fin fS) hd
def Y7a {i j pos}:PE X (.Constant (.int i) j pos) (tC (.int i)):=fun _ _ _ H _ I h=>wpAny_Constant_int ⟨.int i,H,I.tok _,⟨_,rfl⟩,h⟩
def V1j {b j pos}:PE X (.Constant (.bool b) j pos) (tC (.bl b)):=fun _ _ _ H _ I h=>Constant_bool ⟨.bl b,H,I,rfl,h⟩
def V1x {j pos}:PE X (.Constant .none j pos) (tC .non):=fun _ _ _ H _ I h=>Constant_none ⟨.non,H,I,rfl,h⟩
def Z6z {x j pos}:PE X (.Constant (.str x) j pos) (tC (.str x)):=fun _ _ _ H _ I h=>Calls.Constant_str ⟨.str x,H,I.tok _,⟨_,rfl⟩,h⟩
def Gl (X:Cx)(x:Str):Prop:=X.env.kindOf x=some .globalImplicit
def Q8y {σ:St}      (I:?B)(hg:Gl X x)(hm:X.mg x=some u)(h:Q u s)
  (hd:(x==("__debug__":Str))=false:=by decide):wpAny ?C X.A (eval (.Name x pos) X.env) Q E s:=
 qr I.ok.kind hg (Calls.loadGlobal_global (by rw[I.ok.glob];exact I.mod.glob.keeps I.bk) hm h) hd
def Q3v {σ:St}      (I:?B)(hg:Gl X x)(hm:X.mg x=none)(hv:bootBuiltins x=some u)(h:Q u s)
  (hn:x≠"__name__":=by decide) (hd:(x==("__debug__":Str))=false:=by decide):wpAny ?C X.A (eval (.Name x pos) X.env) Q E s:=by
 obtain⟨mb,h1,h2⟩:=I.mod.blt;exact qr I.ok.kind hg (Calls.loadGlobal_builtin (by rw[I.ok.glob];exact I.mod.glob.keeps I.bk) hm (by rw[I.ok.blt];exact h1.keeps I.bk) ((h2 x hn).trans hv) h) hd
def V1s {v:V}   (hg:Gl X x)(hm:X.mg x=some u)(r:C2 v u)(hd:(x==("__debug__":Str))=false:=by decide):PE X (.Name x pos) (tC v):=
 fun _ _ _ H _ I h=>Q8y I hg hm ⟨v,H,I,r,h⟩ hd
variable {a b:Ag}{tb:TE}
def PC (X:Cx)(op:CmpOp)(a b:Ag)(t:TE):Prop:=
 ∀(af:Pn9) (s:Ae) (σ:St) (H:Hp) (Q:VK),?B->t σ H Q ->
  wpAny ?C X.A (eval a X.env) (fun v s₁=>wpAny ?C X.A (eval b X.env) (fun u s₂=>wpAny ?C X.A (compareOp op v u) (EP X af σ Q) X.xe s₂) X.xe s₁) X.xe s
def tB (t:TE):TT:=fun σ H Q=>t σ H fun x H1=>∃c,x=.bl c/\Q c H1
def Y7p {op:CmpOp}{t:TE}(h:PC X op a b t)(h1:behindInMarks op b=false:=by first |exact nobehind _ (?K) (?K) |rfl):PT X (.Compare a [op] [b] pos) (tB t):=by
 intro af s σ H Q I hw;refine wpAny_isTrue_Compare1 (B3 (h af s σ H _ I hw) fun v s1 h1=>B3 h1 fun u s2 h2=>B3 h2 fun c s3 bG=>?_) h1;obtain⟨x,H1,I1,r1,q1⟩:=bG;obtain⟨d,rfl,q⟩:=q1;cases r1;exact cC ⟨H1,I1,q⟩
variable {tA pD:TT}{rest:M Ag}
def tAnd (t u:TT):TT:=fun σ H Q=>t σ H fun c H1=>if c=true then u σ H1 Q else Q false H1
def tOr (t u:TT):TT:=fun σ H Q=>t σ H fun c H1=>if c=true then Q true H1 else u σ H1 Q
def tNot (t:TT):TT:=fun σ H Q=>t σ H fun c H1=>Q (!c) H1
theorem V2u (ha:PT X a tA):PW X (.BoolOp .And [a] pos) tA:=by
 intro wh af s σ H Q I h;refine isTrue_and (B3 (ha af s σ H Q I h) fun c s1 e=>?_);cases c with
 |true=>exact isTrue_and_nil e
 |false=>exact e
theorem V2w (ha:PT X a tA):PW X (.BoolOp .Or [a] pos) tA:=by
 intro wh af s σ H Q I h;refine isTrue_or (B3 (ha af s σ H Q I h) fun c s1 e=>?_);cases c with
 |false=>exact isTrue_or_nil e
 |true=>exact e
theorem V2t (ha:PT X a tA)(hb:PW X (.BoolOp .And (b::rest) pos) pD):PW X (.BoolOp .And (a::b::rest) pos) (tAnd tA pD):=by
 intro wh af s σ H Q I h;refine isTrue_and (B3 (ha af s σ H _ I h) fun c s1 bG=>?_);obtain⟨H1,I1,q1⟩:=bG;cases c with
 |true=>exact hb wh af s1 σ H1 Q I1 q1
 |false=>exact⟨H1,I1,q1⟩
theorem V2v (ha:PT X a tA)(hb:PW X (.BoolOp .Or (b::rest) pos) pD):PW X (.BoolOp .Or (a::b::rest) pos) (tOr tA pD):=by
 intro wh af s σ H Q I h;refine isTrue_or (B3 (ha af s σ H _ I h) fun c s1 bG=>?_);obtain⟨H1,I1,q1⟩:=bG;cases c with
 |true=>exact⟨H1,I1,q1⟩
 |false=>exact hb wh af s1 σ H1 Q I1 q1
def V2q (ha:PT X a tA):PT X (.UnaryOp .Not a pos) (tNot tA):=by
 intro af s σ H Q I h;exact isTrue_not (ha af s σ H (fun c H1=>Q (!c) H1) I h)
def V6t (ta tb:TE):TE:=fun σ H Q=>ta σ H fun x H1=>∃c,x=.bl c/\if c=true then tb σ H1 Q else Q (.bl false) H1
def tOrV (ta tb:TE):TE:=fun σ H Q=>ta σ H fun x H1=>∃c,x=.bl c/\if c=true then Q (.bl true) H1 else tb σ H1 Q
def V7e (ta:TE):TE:=fun σ H Q=>ta σ H fun x H1=>∃c,x=.bl c/\Q (.bl (!c)) H1
def Y7c {op}{t:TE}(h:PE X a t):PE X (.BoolOp op [a] pos) t:=fun af s σ H Q I hw=>BoolOp_one (h af s σ H Q I hw)
theorem V1i (ha:PE X a ta)(hb:PE X (.BoolOp .And (b::rest) pos) tb):PE X (.BoolOp .And (a::b::rest) pos) (V6t ta tb):=by
 intro af s σ H Q I h;refine BoolOp_and (B3 (ha af s σ H _ I h) fun v s1 bG=>?_);obtain⟨x,H1,I1,r1,q1⟩:=bG;obtain⟨c,rfl,q1⟩:=q1;cases r1;refine cC ?_;cases c with
 |true=>exact hb af s1 σ H1 Q I1 q1
 |false=>exact⟨.bl false,H1,I1,rfl,q1⟩
theorem V2b (ha:PE X a ta)(hb:PE X (.BoolOp .Or (b::rest) pos) tb):PE X (.BoolOp .Or (a::b::rest) pos) (tOrV ta tb):=by
 intro af s σ H Q I h;refine BoolOp_or (B3 (ha af s σ H _ I h) fun v s1 bG=>?_);obtain⟨x,H1,I1,r1,q1⟩:=bG;obtain⟨c,rfl,q1⟩:=q1;cases r1;refine cC ?_;cases c with
 |false=>exact hb af s1 σ H1 Q I1 q1
 |true=>exact⟨.bl true,H1,I1,rfl,q1⟩
def V1y (ha:PE X a ta):PE X (.UnaryOp .Not a pos) (V7e ta):=by
 intro af s σ H Q I h;refine UnaryOp_ (B3 (ha af s σ H _ I h) fun v s1 bG=>?_);obtain⟨x,H1,I1,r1,q1⟩:=bG;obtain⟨c,rfl,q1⟩:=q1;cases r1;exact not_of (cC ⟨.bl (!c),H1,I1,rfl,q1⟩)
def tIf (t:TT)(ta tb:TE):TE:=fun σ H Q=>t σ H fun c H1=>if c=true then ta σ H1 Q else tb σ H1 Q
theorem V1t {c:Ag}(hc:PT X c tA)(ha:PE X a ta)(hb:PE X b tb):PE X (.IfExp c a b pos) (tIf tA ta tb):=by
 intro af s σ H Q I h;refine wpAny_IfExp (B3 (hc af s σ H _ I h) fun d s1 bG=>?_);obtain⟨H1,I1,q1⟩:=bG;cases d with
 |true=>exact ha af s1 σ H1 Q I1 q1
 |false=>exact hb af s1 σ H1 Q I1 q1
end
def G0 (K:Fg9)(H:Hp)(a:Af)(xs:M V):Prop:=
 Rd H a (.lst xs) \/
  ∃(o:Obj) (bb:Array Ad) (n:Nat),K.lookup a=some o/\o.cls=.type "list"/\o.dict=none/\o.data=.seq bb n/\bb.size<=sizeLine/\C4 xs bb.toList
def E7 (K:Fg9)(H:Hp)(a:Af)(xs:M V):Prop:=
 Rd H a (.tup xs) \/
  ∃(o:Obj) (bb:Array Ad) (n:Nat),K.lookup a=some o/\o.cls=.type "tuple"/\o.data=.seq bb n/\bb.size<=sizeLine/\C4 xs bb.toList
def absV:Ad->Ac V
 |.none=>some .non
 |.bool b=>some (.bl b)
 |.int i _=>some (.int i)
 |.str x _=>some (.str x)
 |.bytes b _=>some (.byt b)
 |.float b _=>some (.flt b)
 |.ref a=>some (.ref a)
 |.type n=>some (.ty n)
 |_=>none
theorem C2.abs {x:V}  (r:C2 x u):absV u=some x:=by
 cases x with
 |non=>cases r;rfl
 |bl _=>cases r;rfl
 |int _=>obtain⟨t,rfl⟩:=r;rfl
 |str _=>obtain⟨t,rfl⟩:=r;rfl
 |byt _=>obtain⟨t,rfl⟩:=r;rfl
 |flt _=>obtain⟨t,rfl⟩:=r;rfl
 |ref _=>cases r;rfl
 |ty _=>cases r;rfl
def C2.inj {x:V}  (r:C2 x u)(q:C2 y u):x=y:=aA (r.abs.symm.trans q.abs)
theorem C4.inj:∀{xs ys:M V}{us:M Ad},C4 xs us->C4 ys us->xs=ys:=by
 intro xs
 induction xs with
 |nil=>intro ys us a b;cases a;cases b;rfl
 |cons x xs ih=>
  intro ys us a b;cases a with
  |cons r t=>
   cases b with
   |cons r' t'=>rw[r.inj r',ih t t']
section
variable {σ:St}{ys:M V}
def G0.of (h:H a=some (.lst xs)):G0 K H a xs:=.inl (.inl h)
def E7.of (h:H a=some (.tup xs)):E7 K H a xs:=.inl (.inl h)
theorem A1.list (I:?B)(h:G0 X.K H a xs):∃bb:M Ad,C4 xs bb/\PlainL s.heap a bb.toArray/\xs.length<=sizeLine:=by
 rcases h with h |⟨o,bb,n,hk,hc,hd,hs,hz,r⟩
 ·obtain⟨z,bb,n,r,e⟩:=h.ok I.hok;exact⟨bb,r,⟨_,n,e,rfl,rfl,rfl⟩,z⟩
 ·refine⟨bb.toList,r,⟨o,n,I.kIn a o hk,hc,hd,by simpa using hs⟩,?_⟩;have e:=r.length;simp only[bK]at e;lia
theorem A1.tuple (I:?B)(h:E7 X.K H a xs):∃bb:M Ad,C4 xs bb/\IsTup s.heap a bb.toArray/\xs.length<=sizeLine:=by
 rcases h with h |⟨o,bb,n,hk,hc,hs,hz,r⟩
 ·obtain⟨z,bb,r,p⟩:=h.ok I.hok;exact⟨bb,r,p,z⟩
 ·refine⟨bb.toList,r,⟨o,I.kIn a o hk,hc,n,by simpa using hs⟩,?_⟩;have e:=r.length;simp only[bK]at e;lia
def A1.list_inj (I:?B)(h:G0 X.K H a xs)(h':G0 X.K H a ys):xs=ys:=by
 obtain⟨bb,r,⟨o,n,e,_,_,d⟩,_⟩:=I.list h;obtain⟨its',r',⟨o',n',e',_,_,d'⟩,_⟩:=I.list h';rw[e]at e';cases e';rw[d]at d';injection d' with d1 _
 have:bb=its':=by simpa using congrArg Array.toList d1
 subst this;exact r.inj r'
def A1.tuple_inj (I:?B)(h:E7 X.K H a xs)(h':E7 X.K H a ys):xs=ys:=by
 obtain⟨bb,r,⟨o,e,_,n,d⟩,_⟩:=I.tuple h;obtain⟨its',r',⟨o',e',_,n',d'⟩,_⟩:=I.tuple h';rw[e]at e';cases e';rw[d]at d';injection d' with d1 _
 have:bb=its':=by simpa using congrArg Array.toList d1
 subst this;exact r.inj r'
end
abbrev Cx.wish (X:Cx)(E:VS9):Cx:={X with xe:=E}
abbrev Cx.nox (X:Cx):Cx:=X.wish fun _ _=>False
def Cx.Ok.wish (ok:X.Ok)(E:VS9):(X.wish E).Ok:=
 ⟨ok.mod,ok.kind,ok.glob,ok.blt,ok.above,ok.inj,ok.has,ok.cab,ok.hd,ok.frames,ok.stk,ok.exf,ok.bs,ok.bsz,ok.noex,ok.exfs,ok.funs,ok.frf⟩
def Cx.Ok.unwish (ok:(X.wish E).Ok):X.Ok:=
 ⟨ok.mod,ok.kind,ok.glob,ok.blt,ok.above,ok.inj,ok.has,ok.cab,ok.hd,ok.frames,ok.stk,ok.exf,ok.bs,ok.bsz,ok.noex,ok.exfs,ok.funs,ok.frf⟩
section
variable {σ:St}
def A1.wish (I:?B)(E:VS9):A1 (X.wish E) af σ H s:=⟨I.ok.wish E,I.os,I.bare,I.base,I.loc,I.cell,I.free,I.freeC,I.pin,I.hok,I.len⟩
def A1.unwish (I:A1 (X.wish E) af σ H s):?B:=⟨I.ok.unwish,I.os,I.bare,I.base,I.loc,I.cell,I.free,I.freeC,I.pin,I.hok,I.len⟩
theorem SP.unwish {D:Q5g}{f:Flow}  (h:SP (X.wish E) af D f s'):SP X af D f s':=by
 cases f with
 |next=>obtain⟨σ',H',I,q⟩:=h;exact⟨σ',H',I.unwish,q⟩
 |brk=>obtain⟨σ',H',I,q⟩:=h;exact⟨σ',H',I.unwish,q⟩
 |cont=>obtain⟨σ',H',I,q⟩:=h;exact⟨σ',H',I.unwish,q⟩
 |ret u=>obtain⟨v,σ',H',I,r,q⟩:=h;exact⟨v,σ',H',I.unwish,r,q⟩
def U7.nox {st:M Al}{t:TS}(h:U7 X.nox st t):U7 X st t:=fun af s σ H D I hw=>
 aE (h af s σ H D (I.wish _) hw) (fun _ _ q=>q.unwish) fun _ _ z=>False.elim z
end
section
variable {rest:M Al}{t u:TS}
def V7d:TS:=fun D σ H=>D.nx σ H
def tSeq (t u:TS):TS:=fun D σ H=>t {D with nx:=u D} σ H
def V2o:U7 X [] V7d:=fun _ _ σ H _ I h=>gZ ⟨σ,H,I,h⟩
theorem Z2e (h1:PS X st t)(h2:U7 X rest u):U7 X (st::rest) (tSeq t u):=by
 intro af s σ H D I h;refine eL (B3 (h1 af s σ H {D with nx:=u D} I h) fun f s1 q=>?_);cases f with
 |next=>
  obtain⟨σ',H',I',q⟩:=q;exact h2 af s1 σ' H' D I' q
 |ret v=>exact q
 |brk=>exact q
 |cont=>exact q
theorem Y7o (h1:PS X st t):U7 X [st] t:=by
 intro af s σ H D I h;refine eL (B3 (h1 af s σ H D I h) fun f s1 q=>?_);cases f with
 |next=>exact gZ q
 |ret v=>exact q
 |brk=>exact q
 |cont=>exact q
def A1.quiet {σ:St}   (I:?B):interactive X.env=false:=by simp[interactive,I.ok.kind]
def V7b (te:TE):TS:=fun D σ H=>te σ H fun _ H1=>D.nx σ H1
def Z7a (he:PE X e te)(hs:swapsWith e none pos.line X.env=pure false:=by rfl):PS X (.Expr e pos) (V7b te):=by
 intro af s σ H D I h;exact wpAny_Expr_any (B3 (he af s σ H _ I h) fun v s1 ⟨x,H1,I1,r1,q1⟩=>⟨σ,H1,I1,q1⟩) I.quiet hs
def tRet (te:TE):TS:=fun D σ H=>te σ H D.rt
def Z7c (he:PE X e te):PS X (.Return (some e) pos) (tRet te):=by
 intro af s σ H D I h;exact ku (B3 (he af s σ H _ I h) fun v s1 ⟨x,H1,I1,r1,q1⟩=>⟨x,σ,H1,I1,r1,q1⟩)
def tIfS (c:TT)(t u:TS):TS:=fun D σ H=>c σ H fun b H1=>if b=true then t D σ H1 else u D σ H1
theorem V2m {c:Ag}{a b:M Al}{tc:TT}(hc:PT X c tc)(ha:U7 X a t)(hb:U7 X b u):PS X (.If c a b pos) (tIfS tc t u):=by
 intro af s σ H D I h;refine wpAny_If (B3 (hc af s σ H _ I h) fun d s1 bG=>?_);obtain⟨H1,I1,q1⟩:=bG;cases d with
 |true=>exact ha af s1 σ H1 D I1 q1
 |false=>exact hb af s1 σ H1 D I1 q1
def V7c:TS:=fun _ _ _=>False
def V9c {ng:M Al}:U7 X ng V7c:=fun _ _ _ _ _ _ h=>h.elim
end
abbrev TG:=V->St->Hp->(St->Hp->Prop)->Prop
abbrev TGs:=M V->St->Hp->(St->Hp->Prop)->Prop
def PG (X:Cx)(target:Ag)(t:TG):Prop:=
 ∀(af:Pn9) (s:Ae) (σ:St) (H:Hp) (v:V) (u:Ad) (Q:St->Hp->Prop),?B->C2 v u->t v σ H Q ->
  wpAny ?C X.A (assign target X.env u) (fun _ s'=>∃ σ' H',A1 X af σ' H' s'/\Q σ' H') X.xe s
def PGs (X:Cx)(ts:M Ag)(t:TGs):Prop:=
 ∀(af:Pn9) (s:Ae) (σ:St) (H:Hp) (vs:M V) (us:M Ad) (Q:St->Hp->Prop),?B->C4 vs us->t vs σ H Q ->
  wpAny ?C X.A (assignInOrder ((assignEach ts X.env).map (·.2)) us) (fun _ s'=>∃ σ' H',A1 X af σ' H' s'/\Q σ' H') X.xe s
abbrev TIp:=V->V->Hp->VK->Prop
def PIp (X:Cx)(op:Operator)(t:TIp):Prop:=
 ∀(af:Pn9) (s:Ae) (σ:St) (H:Hp) (x y:V) (v u:Ad) (Q:VK),?B->C2 x v->C2 y u->t x y H Q ->
  wpAny ?C X.A (inplaceOp op v u) (EP X af σ Q) X.xe s
def Z1e (i:Nat):TG:=fun v σ H Q=>Q (σ.set i (some v)) H
def Y7e {i:Nat}  (hN:X.N.Nodup)(hi:X.N[i]?=some x)(hx:Loc X.env.scope x)(hf:?J:=by first |exact .inl rfl |exact .inr rfl |assumption):PG X (.Name x pos) (Z1e i):=by
 intro af s σ H v u Q I r h;exact kt (Z8o I hN hi hx r (fun s' I'=>⟨_,H,I',h⟩) hf)
def gNil:TGs:=fun vs σ H Q=>vs=[]/\Q σ H
def W6k (t:TG)(u:TGs):TGs:=fun vs σ H Q=>∃v r,vs=v::r/\t v σ H fun σ' H'=>u r σ' H' Q
def V2h:PGs X [] gNil:=by
 intro af s σ H vs us Q I r h;obtain⟨e,h⟩:=h;subst e;cases r;exact assignInOrder_nil ⟨σ,H,I,h⟩
theorem V2g {es:M Ag}{t:TG}{u:TGs}(h1:PG X e t)(h2:PGs X es u)
  (hs:(assignEach (e::es) X.env).map (·.2)=assign e X.env::(assignEach es X.env).map (·.2):=by rfl):PGs X (e::es) (W6k t u):=by
 intro af s σ H vs us Q I r h;obtain⟨v,vr,e1,h⟩:=h;subst e1;cases r with
 |cons r rr=>
  rw[hs];refine assignInOrder_cons (B3 (h1 af s σ H _ _ _ I r h) fun _ s1 bG=>?_);obtain⟨σ1,H1,I1,q1⟩:=bG;exact h2 af s1 σ1 H1 _ _ Q I1 rr q1
def gTup (K:Fg9)(n:Nat)(t:TGs):TG:=fun v σ H Q=>∃a xs,v=.ref a/\E7 K H a xs/\xs.length=n/\t xs σ H Q
def V2f {es:M Ag}{k:Nat}{t:TGs}  (hc:X.calm=true)(h:PGs X es t)
  (hn:(assignEach es X.env).length=n:=by rfl) (rO:(assignEach es X.env).findIdx? (·.1)=none:=by rfl):PG X (.Tuple es k pos) (gTup X.K n t):=by
 intro af s σ H v u Q I r hw;obtain⟨a,xs,e1,hq,hl,hw⟩:=hw;subst e1;cases r;obtain⟨bb,rv,ht,hz⟩:=I.tuple hq;refine assign_Tuple_tuple (I.ok.hd hc) ht (by simp[hn,<-hl,rv.length]) rO fun h' hx=>?_;have I1:A1 X af σ H {s with heap:=h'}:=I.kept (t':=s.toks) fun b o e=>hx b o (ax (aw e)) e;exact h af _ σ H xs _ Q I1 (by simpa using rv) hw
def tAsg (te:TE)(g:TG):TS:=fun D σ H=>te σ H fun x H1=>g x σ H1 D.nx
def Y7m {g:TG}(he:PE X e te)(hg:PG X tg g)(hs:swapsWithSole [tg] e pos.line X.env=pure false:=by rfl)(hw:swappedStores [tg] e X.env=pure none:=by rfl)
  (h1:(assignEach [tg] X.env).map (·.2)=[assign tg X.env]:=by rfl):PS X (.Assign [tg] e pos) (tAsg te g):=by
 intro af s σ H D I h;refine wpAny_Assign_stores (B3 (he af s σ H _ I h) fun v s1 bG=>?_) hs hw;obtain⟨x,H1,I1,r1,q1⟩:=bG;rw[h1];exact B3 (hg af s1 σ H1 x v _ I1 r1 q1) fun _ s2 q=>q
def Q6d {i:Nat}     (hN:X.N.Nodup)(hi:X.N[i]?=some x)(hx:Loc X.env.scope x)(he:PE X e te)(hs:swapsWith e (some (.Name x cn)) pos.line X.env=pure false:=by rfl)(hf:?J:=by first |exact .inl rfl |exact .inr rfl |assumption):
  PS X (.Assign [.Name x cn] e pos) (tAsg te (Z1e i)):=by
 intro af s σ H D I h;refine wpAny_Assign_Name (B3 (he af s σ H _ I h) fun v s1 bG=>?_) hs;obtain⟨y,H1,I1,r1,q1⟩:=bG;exact Z8o I1 hN hi hx r1 (fun s2 I2=>⟨_,H1,I2,q1⟩) hf
def tAug (i:Nat)(te:TE)(ti:TIp):TS:=fun D σ H=>∃x,σ[i]?=some (some x)/\te σ H fun y H1=>ti x y H1 fun z H2=>D.nx (σ.set i (some z)) H2
def V2j {i:Nat}    {op:Operator}{ti:TIp}  (hN:X.N.Nodup)(hi:X.N[i]?=some x)(hx:Loc X.env.scope x)(he:PE X e te)(ho:PIp X op ti)(hf:?J:=by first |exact .inl rfl |exact .inr rfl |assumption):
  PS X (.AugAssign (.Name x cn) op e pos) (tAug i te ti):=by
 intro af s σ H D I h;obtain⟨v,e1,h⟩:=h;obtain⟨m,hn,hl⟩:=I.loc;have vw:Vis X.env.scope x:=by rcases hx with k |k;exact .inl k;exact .inr (.inl k)
 obtain⟨u,r,l⟩:=hl i x v hi e1 vw;refine wpAny_AugAssign_Name ?_;have go:wpAny ?C X.A (eval e X.env) (fun w s₂=>wpAny ?C X.A (inplaceOp op u w) (fun r s₃=>wpAny ?C X.A (storeName X.env x r) (fun _=>SP X af D .next) X.xe s₃) X.xe s₂) X.xe s:=by
  refine B3 (he af s σ H _ I h) fun w s1 bG=>?_;obtain⟨y,H1,I1,r1,q1⟩:=bG;refine B3 (ho af s1 σ H1 v y u w _ I1 r r1 q1) fun z s2 bG=>?_;obtain⟨zv,H2,I2,r2,q2⟩:=bG;exact Z8o I2 hN hi hx r2 (fun s3 I3=>⟨_,H2,I3,q2⟩) hf
 rcases l with⟨hk,hm⟩ |⟨hk,c,hc,dP⟩
 ·exact wpAny_loadName_local I.ok.kind hk hn hm go
 ·rcases hk with hk |hk
  ·exact wpAny_loadName_cell I.ok.kind hk hc dP go
  ·rcases hx with k |k
   ·have:X.env.scope.names.lookup x=some .free:=hk;rw[k]at this;cases this
   ·have:X.env.scope.names.lookup x=some .free:=hk;rw[k]at this;cases this
def V7h (c:TT)(tb:TS):TS:=fun D σ H=>∃W:Nat->St->Hp->Prop,(∃m,W m σ H)/\∀m σ H,W m σ H ->
 c σ H fun b H1=>if b=true then ∃N:St->Hp->Prop,(∀ σ' H',N σ' H'->∃m',m'<m/\W m' σ' H')/\tb {D with nx:=N,ct:=N,bk:=D.nx} σ H1 else D.nx σ H1
theorem V2n {c:Ag}  {tc:TT}{tb:TS}(hp:PassesOwn ?C X.A X.env X.xe)(hc:PT X c tc)(hb:U7 X body tb):PS X (.While c body [] pos) (V7h tc tb):=by
 intro af s σ H D I h;obtain⟨W,⟨m0,w0⟩,gb⟩:=h;refine wpAny_While (codeAny_whileLoop (fun n s'=>∃ σ' H',A1 X af σ' H' s'/\W n σ' H') ?_ m0 ⟨σ,H,I,w0⟩);rintro n s1 ⟨σ1,H1,I1,w1⟩;refine cW hp (B3 (hc af s1 σ1 H1 _ I1 (gb n σ1 H1 w1)) fun b s2 bG=>?_);obtain⟨H2,I2,q2⟩:=bG;cases b with
 |true=>
  obtain⟨N,hN,q2⟩:=q2;rw[aQ rfl];refine cW hp (B3 (hb af s2 σ1 H2 _ I2 q2) fun f s3 q3=>?_);cases f with
  |next=>
   obtain⟨σ3,H3,I3,n3⟩:=q3;obtain⟨m',hm,w3⟩:=hN σ3 H3 n3;exact⟨m',hm,σ3,H3,I3,w3⟩
  |cont=>
   obtain⟨σ3,H3,I3,n3⟩:=q3;obtain⟨m',hm,w3⟩:=hN σ3 H3 n3;exact⟨m',hm,σ3,H3,I3,w3⟩
  |brk=>exact q3
  |ret v=>exact q3
 |false=>
  rw[aI aW];exact gZ ⟨σ1,H2,I2,q2⟩
structure It where
 go:Nat->Hp->Prop
 yld:Nat->Hp->V->Hp->Prop
 stop:Nat->Hp->Prop
def J5 (X:Cx)(af:Pn9)(H:Hp)(b:Af):Prop:=
 H b=none/\b≠X.env.locals/\b∉X.fs/\(b∈X.ex\/X.s₀.heap.objs.size<=b)/\(∀x c,X.env.cells.lookup x=some c->c≠b)/\∀p∈X.pn++af,p.1≠b
def A1.fpOk {σ:St}    (I:?B)(hb:s.heap.objs.size<=b)(hn:H' b=none):J5 X af H' b:=by
 refine⟨hn,nJ (ay I.lt hb),I.nofs hb,.inr (aO I.sz hb),fun x c e z=>?_,fun p hp z=>?_⟩
 ·obtain⟨v,q⟩:=I.cell x c e;exact absurd (ay q.lt (by rw[z];exact hb)) (aS _)
 ·exact absurd (ay (aw (I.pin p hp).1) (by rw[z];exact hb)) (aS _)
structure Q2m (P:Aj)(w:Ak)(K:Fg9)(tg:Ag)(J:It)(fp:M Af)(it:Af)(tn:Nat->Heap->Prop):Prop where
 mem:it∈fp
 obj:∀i h,tn i h->∀b∈fp,∃o,h.get? b=some o/\∀v,o.data≠.cell v
 keep:∀i h h',tn i h->(∀b∈fp,∀o,h.get? b=some o->h'.get? b=some o)->tn i h'
 item:∀(X:Cx),X.prog=P->X.w=w->X.K=K->X.calm=true->∀(i:Nat) (af:Pn9) (s:Ae) (σ:St) (H:Hp) (E:VS9),?B->(∀b∈fp,J5 X af H b)->tn i s.heap->J.go i H ->
  wpAny (model P w) X.A (pyNext (.ref it)) (fun r s1=>∃u,r=some u /\
   wpAny (model P w) X.A (letOwnedTupleGo tg (.ref it) u) (fun _ s2=>∃x H',A1 X af σ H' s2/\C2 x u/\J.yld i H x H'/\tn (i+1) s2.heap/\∀b∈fp,H' b=none) E s1) E s
 done:∀(X:Cx),X.prog=P->X.w=w->X.K=K->X.calm=true->∀(i:Nat) (af:Pn9) (s:Ae) (σ:St) (H:Hp) (E:VS9),?B->(∀b∈fp,J5 X af H b)->tn i s.heap->J.stop i H ->
  wpAny (model P w) X.A (pyNext (.ref it)) (fun r s1=>r=none/\A1 X af σ H s1) E s
 self:∀(A:Ah) (i:Nat) (s:Ae) (Q:VS9) (E:VS9),tn i s.heap->Q (.ref it) s->wpAny (model P w) A (pyIter (.ref it)) Q E s
abbrev TI:=St->Hp->(It->Hp->Prop)->Prop
def PIE (X:Cx)(af:Pn9)(σ:St)(tg:Ag)(R:It->Hp->Prop)(mo:Ad)(s2:Ae):Prop:=
 ∃(it:Af) (fp:M Af) (tn:Nat->Heap->Prop) (J:It) (H':Hp),mo=.ref it/\A1 X af σ H' s2/\Q2m X.prog X.w X.K tg J fp it tn/\tn 0 s2.heap/\(∀b∈fp,J5 X af H' b)/\R J H'
def PI (X:Cx)(tg iter:Ag)(wi:TI):Prop:=
 ∀(af:Pn9) (s:Ae) (σ:St) (H:Hp) (R:It->Hp->Prop),?B->wi σ H R ->
  wpAny ?C X.A (eval iter X.env) (fun v s1=>wpAny ?C X.A (pyIter v) (PIE X af σ tg R) X.xe s1) X.xe s
def Z1f {A:Ah}       {n:String}{vs:Array Ad}{Q:Unit->Ae->Prop}(ho:s.heap.get? it=some o)(hc:o.cls=.type n)(hd:o.data=.fields vs)
  (hn:["enumerate","zip","dict_itemiterator","dict_reverseitemiterator","odict_iterator","itertools.zip_longest","itertools.pairwise"].contains n=false) (hQ:Q () s):wpAny Aa A (letOwnedTupleGo tg (.ref it) u) Q E s:=by
 unfold letOwnedTupleGo;cases tg<;>first
  |exact aj hQ
  | (cases u<;>first
    |exact aj hQ
    | (refine aa (tf ho ?_)
       rw[hc,hd];show wpAny Aa A (if (["enumerate","zip","dict_itemiterator","dict_reverseitemiterator","odict_iterator","itertools.zip_longest","itertools.pairwise"].contains n&&vs[0]?==some (rawInt _))=true then _ else _) Q E s;rw[aI (by intro h;rw[hn,Bool.false_and]at h;cases h)];exact aj hQ))
def Itl (K:Fg9)(a:Af):It:=
 ⟨fun i H=>∃xs x,G0 K H a xs/\xs[i]?=some x,fun i H x H'=>H'=H/\∀xs,G0 K H a xs->xs[i]?=some x,fun i H=>∃xs,G0 K H a xs/\xs.length<=i⟩
def Itt (K:Fg9)(a:Af):It:=
 ⟨fun i H=>∃xs x,E7 K H a xs/\xs[i]?=some x,fun i H x H'=>H'=H/\∀xs,E7 K H a xs->xs[i]?=some x,fun i H=>∃xs,E7 K H a xs/\xs.length<=i⟩
def Itr (lo:Int)(n:Nat):It:=⟨fun i _=>i<n,fun i H x H'=>H'=H/\x=.int (lo+i),fun i _=>n<=i⟩
theorem V7t {w:Ak}   (a it:Af):Q2m P w K tg (Itl K a) [it] it (fun i h=>h.IsListIter it a i) where
 mem:=by simp
 obj:=fun i h st b hb=>by
  have e:b=it:=by simpa using hb
  subst e;obtain⟨o,e,c,d⟩:=st;exact⟨o,e,fun v z=>by rw[d]at z;cases z⟩
 keep:=fun i h h' st k=>st.at fun o e=>k it ?G o e
 item:=by
  back_in;obtain⟨xs,x,hq,hx⟩:=hg;obtain⟨bb,rv,p,hz⟩:=I.list hq;obtain⟨u,hu,ru⟩:=rv.get hx;obtain⟨f0,f1,f2,f3,f4,f5⟩:=hf it ?G;refine wpAny_pyNext_list_item st p.isList (x:=u) (by simpa using hu) fun h' jb sb=>?_;have I1:A1 X af σ H {s with heap:=h'}:=I.turned (t':=s.toks) (fun b o hb e=>(sb.2 b hb).trans e) f0 f1 f3 f4 f5;obtain⟨o,e,c,d⟩:=id jb;exact⟨u,rfl,Z1f (s:={s with heap:=h'}) e c d (?K) ⟨x,H,I1,ru,⟨rfl,fun ys hy=>by rw[I.list_inj hy hq];exact hx⟩,jb,fun b hb=>(hf b hb).1⟩⟩
 done:=by
  back_in;obtain⟨xs,hq,hx⟩:=hg;obtain⟨bb,rv,p,hz⟩:=I.list hq;obtain⟨f0,f1,f2,f3,f4,f5⟩:=hf it ?G;have hl:=rv.length;exact wpAny_pyNext_list_end (I.ok.hd hc) st p.isList (by simp;lia) fun h' eb=>⟨rfl,I.turned (t':=s.toks) (fun b o hb e=>eb b o hb e) f0 f1 f3 f4 f5⟩
 self:=fun _ _ _ _ _ st h=>wpAny_pyIter_listiter st h
theorem V7w {w:Ak}   (a it:Af):Q2m P w K tg (Itt K a) [it] it (fun i h=>h.IsTupleIter it a i) where
 mem:=by simp
 obj:=fun i h st b hb=>by
  have e:b=it:=by simpa using hb
  subst e;obtain⟨o,e,c,d⟩:=st;exact⟨o,e,fun v z=>by rw[d]at z;cases z⟩
 keep:=fun i h h' st k=>st.at fun o e=>k it ?G o e
 item:=by
  back_in;obtain⟨xs,x,hq,hx⟩:=hg;obtain⟨bb,rv,p,hz⟩:=I.tuple hq;obtain⟨u,hu,ru⟩:=rv.get hx;obtain⟨f0,f1,f2,f3,f4,f5⟩:=hf it ?G;refine wpAny_pyNext_tuple_item st (show s.heap.IsTuple a bb.toArray from p) (x:=u) (by simpa using hu) fun h' jb sb=>?_;have I1:A1 X af σ H {s with heap:=h'}:=I.turned (t':=s.toks) (fun b o hb e=>(sb.2 b hb).trans e) f0 f1 f3 f4 f5;obtain⟨o,e,c,d⟩:=id jb;exact⟨u,rfl,Z1f (s:={s with heap:=h'}) e c d (?K) ⟨x,H,I1,ru,⟨rfl,fun ys hy=>by rw[I.tuple_inj hy hq];exact hx⟩,jb,fun b hb=>(hf b hb).1⟩⟩
 done:=by
  back_in;obtain⟨xs,hq,hx⟩:=hg;obtain⟨bb,rv,p,hz⟩:=I.tuple hq;obtain⟨f0,f1,f2,f3,f4,f5⟩:=hf it ?G;have hl:=rv.length;exact wpAny_pyNext_tuple_end (I.ok.hd hc) st (show s.heap.IsTuple a bb.toArray from p) (by simp;lia) fun h' eb=>⟨rfl,I.turned (t':=s.toks) (fun b o hb e=>eb b o hb e) f0 f1 f3 f4 f5⟩
 self:=fun _ _ _ _ _ st h=>wpAny_pyIter_tupleiter st h
theorem V7u {w:Ak}   (it:Af)(lo:Int)(n:Nat):Q2m P w K tg (Itr lo n) [it] it (fun i h=>IsRangeIter h it (lo+(i:Nat)*1) ((n:Int)-(i:Nat)) 1) where
 mem:=by simp
 obj:=fun i h st b hb=>by
  have e:b=it:=by simpa using hb
  subst e;exact⟨_,st,fun v z=>by
   have z':Data.fields _=Data.cell v:=z;cases z'⟩
 keep:=fun i h h' st k=>k it ?G _ st
 item:=by
  back_in;obtain⟨f0,f1,f2,f3,f4,f5⟩:=hf it ?G;have W:=Walks.range (prog:=X.prog) (w:=X.w) (I.ok.hd hc) it lo 1 n;refine W.item i s _ _ hg st fun v h' tk hv jb kk=>?_;obtain⟨t,rfl⟩:=hv;have I1:A1 X af σ H {s with heap:=h',toks:=tk}:=I.turned (fun b o hb e=>kk b o (by simpa using hb) e) f0 f1 f3 f4 f5;refine⟨_,rfl,Z1f (s:={s with heap:=h',toks:=tk}) (n:="range_iterator") jb rfl rfl (?K) ⟨.int (lo+i),H,I1,⟨t,?_⟩,⟨rfl,rfl⟩,jb,fun b hb=>(hf b hb).1⟩⟩;rw[Int.mul_one]
 done:=by
  back_in;obtain⟨f0,f1,f2,f3,f4,f5⟩:=hf it ?G;exact wpAny_pyNext_range_end (I.ok.hd hc) st (by have:n<=i:=hg;lia) fun h' eb=>⟨rfl,I.turned (t':=s.toks) (fun b o hb e=>eb b o hb e) f0 f1 f3 f4 f5⟩
 self:=fun _ _ _ _ _ st h=>wpAny_pyIter_rangeiter st h
def W6t (K:Fg9)(tl:TE):TI:=fun σ H R=>tl σ H fun x H1=>∃a,x=.ref a/\(∃xs,G0 K H1 a xs)/\R (Itl K a) H1
def iTup (K:Fg9)(tl:TE):TI:=fun σ H R=>tl σ H fun x H1=>∃a,x=.ref a/\(∃xs,E7 K H1 a xs)/\R (Itt K a) H1
def Y7f {l:Ag}{tl:TE}(hl:PE X l tl):PI X tg l (W6t X.K tl):=by
 intro af s σ H R I h;refine B3 (hl af s σ H _ I h) fun v s1 bG=>?_;obtain⟨x,H1,I1,r1,q1⟩:=bG;obtain⟨a,e,⟨xs,hq⟩,q⟩:=q1;subst e;cases r1;obtain⟨bb,rv,p,hz⟩:=I1.list hq;refine wpAny_pyIter_list p.isList ?_;refine⟨s1.heap.objs.size,[s1.heap.objs.size],_,_,H1,rfl,I1.kept (t':=s1.toks) fun b o e=>ae _ e,V7t a _,⟨_,aD _ rfl,rfl,rfl⟩,fun b hb=>?_,q⟩;have e:b=s1.heap.objs.size:=by simpa using hb
 subst e;exact I1.fpOk (ao _) (I1.hok.fresh (ao _))
def Y7h {l:Ag}{tl:TE}(hl:PE X l tl):PI X tg l (iTup X.K tl):=by
 intro af s σ H R I h;refine B3 (hl af s σ H _ I h) fun v s1 bG=>?_;obtain⟨x,H1,I1,r1,q1⟩:=bG;obtain⟨a,e,⟨xs,hq⟩,q⟩:=q1;subst e;cases r1;obtain⟨bb,rv,p,hz⟩:=I1.tuple hq;refine fH (show s1.heap.IsTuple a bb.toArray from p) ?_;refine⟨s1.heap.objs.size,[s1.heap.objs.size],_,_,H1,rfl,I1.kept (t':=s1.toks) fun b o e=>ae _ e,V7w a _,⟨_,aD _ rfl,rfl,rfl⟩,fun b hb=>?_,q⟩;have e:b=s1.heap.objs.size:=by simpa using hb
 subst e;exact I1.fpOk (ao _) (I1.hok.fresh (ao _))
theorem V3b {σ:St}   {R:It->Hp->Prop}  {hi:Int}{t u v:Tok}{tk:Nat}(I:?B)(h1:-(2^62)<=lo)(h2:lo<2^62)(h3:-(2^62)<=hi)(h4:hi<2^62)
  (q:R (Itr lo (hi-lo).toNat) H):wpAny ?C X.A (pyIter (.ref s.heap.objs.size)) (PIE X af σ tg R) E {s with heap:=s.heap.push {cls:=.type "range",data:=.fields #[.int lo t,.int hi u,.int 1 v]},toks:=tk}:=by
 refine wpAny_pyIter_range (IsRange.new ..) (small_one h1 h2 h3 h4) ?_;have I1:A1 X af σ H {s with heap:=s.heap.push {cls:=.type "range",data:=.fields #[.int lo t,.int hi u,.int 1 v]},toks:=tk}:=I.kept fun b o e=>ae _ e;refine⟨(s.heap.push {cls:=.type "range",data:=.fields #[.int lo t,.int hi u,.int 1 v]}).objs.size,[(s.heap.push {cls:=.type "range",data:=.fields #[.int lo t,.int hi u,.int 1 v]}).objs.size],_,_,H,rfl,
  I1.kept (t':=tk) fun b o e=>ae _ e,V7u _ lo (hi-lo).toNat,?_,fun b hb=>?_,q⟩
 ·have e1:lo+((0:Nat):Int)*1=lo:=by simp
  have e2:(((hi-lo).toNat:Nat):Int)-((0:Nat):Int)=Builtin.Range.rangeSize lo hi 1:=by rw[rangeSize_one];split<;>lia
  show IsRangeIter _ _ (lo+((0:Nat):Int)*1) ((((hi-lo).toNat:Nat):Int)-((0:Nat):Int)) 1;rw[e1,e2];exact aD _ rfl
 ·have e:b=(s.heap.push {cls:=.type "range",data:=.fields #[.int lo t,.int hi u,.int 1 v]}).objs.size:=by simpa using hb
  subst e;exact I1.fpOk (ao _) (I1.hok.fresh (ao _))
def W6u (ta:TA):TI:=fun σ H R=>ta σ H fun vs H1=>∃j:Int,vs=[.int j]/\-(2^62)<=j/\j<2^62/\R (Itr 0 j.toNat) H1
theorem Y7g {a:Ag}{ta:TA}  (hg:Gl X "range")(hm:X.mg "range"=none)(ha:PA X [a] ta)(hs:starEach [a] X.env=[(false,eval a X.env)]:=by rfl):PI X tg (.Call (.Name "range" p) [a] [] pos) (W6u ta):=by
 intro af s σ H R I h;refine Call_ (Q3v I hg hm boot_range (bE (B3 (ha pos af s σ H _ I h) fun us s1 bG=>?_) hs rfl));obtain⟨vs,H1,I1,r1,q1⟩:=bG;obtain⟨j,e,q1,q2,q⟩:=q1;subst e;cases r1 with
 |cons r rr=>
  cases rr;obtain⟨t,rfl⟩:=r;exact call_range_1 (V3b I1 (by lia) (by lia) q1 q2 (by simpa using q))
def tFor (wi:TI)(g:TG)(tb:TS):TS:=fun D σ H=>wi σ H fun J H1=>∃W:Nat->Nat->St->Hp->Prop,(∃m,W 0 m σ H1)/\∀i m σ H,W i m σ H ->
 (J.stop i H/\D.nx σ H)\/(J.go i H/\∃N:St->Hp->Prop,(∀ σ' H',N σ' H'->∃m',m'<m/\W (i+1) m' σ' H')/\∀x H',J.yld i H x H'->g x σ H' fun σ2 H2=>tb {D with nx:=N,ct:=N,bk:=D.nx} σ2 H2)
def V1 (fp:M Af)(h:Heap):Pn9:=fp.filterMap fun b=>(h.get? b).map fun o=>(b,o)
def Q0k (hb:b∈fp)(e:h.get? b=some o):(b,o)∈V1 fp h:=vk.mpr ⟨b,hb,by rw[e];rfl⟩
theorem Q6b {p:Af×Obj}(hp:p∈V1 fp h):p.1∈fp/\h.get? p.1=some p.2:=by
 obtain⟨b,hb,e⟩:=vk.mp hp;cases q:h.get? b with
 |none=>rw[q]at e;cases e
 |some o=>
  rw[q]at e;have e':(b,o)=p:=aA e;subst e';exact⟨hb,q⟩
def A1.pinned {σ:St}    (I:?B)(hf:∀b∈fp,J5 X af H b)(ho:∀b∈fp,∃o,s.heap.get? b=some o/\∀v,o.data≠.cell v):A1 X (af++V1 fp s.heap) σ H s:=
 I.pins_of fun p hp=>(aH.mp hp).elim (fun z=>I.pin p (ai _ z)) fun z=>by
  obtain⟨hb,e⟩:=Q6b z;obtain⟨f0,f1,f2,_⟩:=hf p.1 hb;obtain⟨o,e',d⟩:=ho p.1 hb;rw[e]at e';cases e';exact⟨e,f0,f1,f2,d⟩
def A1.unpinned {σ:St}   (I:A1 X (af++pl) σ H s):?B:=I.pins_of fun p hp=>I.pin p (ai _ (aV _ hp))
def V2l {wi:TI}{g:TG}{tb:TS}  (hp:PassesOwn ?C X.A X.env X.xe)(hc:X.calm=true)(hi:PI X tg iter wi)(hg:PG X tg g)(hb:U7 X body tb)
  (hs:∀x,foldedSetIterable iter X.env x=pure x:=by intro _;rfl):PS X (.For tg iter body [] pos) (tFor wi g tb):=by
 intro af s σ H D I h;refine wpAny_For (B3 (hi af s σ H _ I h) fun v s1 h1=>B3 h1 fun mo s2 h2=>?_) hs;obtain⟨it,fp,tn,J,H2,e,I2,T,fm,f2,W,⟨m0,w0⟩,gb⟩:=h2;subst e;have m7:∀{H':Hp},(∀b∈fp,H' b=none)->∀b∈fp,J5 X af H' b:=fun hn b hb=>⟨hn b hb,(f2 b hb).2⟩
 refine codeAny_forLoop_any (fun n s'=>∃i σ' H',A1 X af σ' H' s'/\tn i s'.heap/\(∀b∈fp,H' b=none)/\W i n σ' H') ?_ m0 ⟨0,σ,H2,I2,fm,fun b hb=>(f2 b hb).1,w0⟩;rintro n s3 ⟨i,σ3,H3,I3,gn,gE,w3⟩;rcases gb i n σ3 H3 w3 with⟨stop,qn⟩ |⟨go,N,hN,step⟩
 ·refine cW hp (B3 (T.done X rfl rfl rfl hc i af s3 σ3 H3 X.xe I3 (m7 gE) gn stop) fun r s4 bG=>?_);obtain⟨hr,I4⟩:=bG;subst hr;exact gZ ⟨σ3,H3,I4,qn⟩
 ·refine cW hp (B3 (T.item X rfl rfl rfl hc i af s3 σ3 H3 X.xe I3 (m7 gE) gn go) fun r s4 bG=>?_);obtain⟨u,hr,h4⟩:=bG;subst hr;refine cW hp (B3 h4 fun _ s5 bG=>?_);obtain⟨x,H5,I5,r5,y5,fk,jl⟩:=bG;have jm:=I5.pinned (m7 jl) (T.obj _ _ fk);refine cW hp (B3 (hg _ s5 σ3 H5 x u _ jm r5 (step x H5 y5)) fun _ s6 bG=>?_);obtain⟨σ6,H6,I6,q6⟩:=bG;refine cW hp (B3 (hb _ s6 σ6 H6 _ I6 q6) fun f s7 q7=>?_);have again:∀{σ7:St}{H7:Hp},A1 X (af++V1 fp s5.heap) σ7 H7 s7->N σ7 H7->∃m,m<n/\∃i σ' H',A1 X af σ' H' s7/\tn i s7.heap/\(∀b∈fp,H' b=none)/\W i m σ' H':=fun {σ7 H7} I7 n7=>by
   obtain⟨m',hm,w7⟩:=hN σ7 H7 n7;refine⟨m',hm,i+1,σ7,H7,I7.unpinned,T.keep _ _ _ fk fun b hb o e=>(I7.pin (b,o) (ai _ (ai _ (Q0k hb e)))).1,fun b hb=>?_,w7⟩;obtain⟨o,e,d⟩:=T.obj _ _ fk b hb;exact(I7.pin (b,o) (ai _ (ai _ (Q0k hb e)))).2.1
  cases f with
  |next=>obtain⟨σ7,H7,I7,n7⟩:=q7;exact again I7 n7
  |cont=>obtain⟨σ7,H7,I7,n7⟩:=q7;exact again I7 n7
  |brk=>obtain⟨σ7,H7,I7,q7⟩:=q7;exact⟨σ7,H7,I7.unpinned,q7⟩
  |ret v=>obtain⟨x7,σ7,H7,I7,r7,q7⟩:=q7;exact⟨x7,σ7,H7,I7.unpinned,r7,q7⟩
abbrev R2:=V->V->Hp->VK->Prop
def Q2 (X:Cx)(f:Ad->Ad->Sem Ad)(r:R2):Prop:=
 ∀(af:Pn9) (s:Ae) (σ:St) (H:Hp) (x y:V) (v u:Ad) (Q:VK),?B->C2 x v->C2 y u->r x y H Q ->
  wpAny ?C X.A (f v u) (EP X af σ Q) X.xe s
def UnR (X:Cx)(f:Ad->Sem Ad)(r:V->Hp->VK->Prop):Prop:=
 ∀(af:Pn9) (s:Ae) (σ:St) (H:Hp) (x:V) (v:Ad) (Q:VK),?B->C2 x v->r x H Q ->
  wpAny ?C X.A (f v) (EP X af σ Q) X.xe s
def Q6l (X:Cx)(f:Ad)(r:M V->Hp->VK->Prop):Prop:=
 ∀(af:Pn9) (s:Ae) (σ:St) (H:Hp) (xs:M V) (us:M Ad) (Q:VK),?B->C4 xs us->r xs H Q ->
  wpAny ?C X.A (call f us) (EP X af σ Q) X.xe s
def TruR (X:Cx)(r:V->Hp->(Bool->Hp->Prop)->Prop):Prop:=
 ∀(af:Pn9) (s:Ae) (σ:St) (H:Hp) (x:V) (v:Ad) (Q:Bool->Hp->Prop),?B->C2 x v->r x H Q ->
  wpAny ?C X.A (truthy v) (TP X af σ Q) X.xe s
def tOp (r:R2)(ta tb:TE):TE:=fun σ H Q=>ta σ H fun x H1=>tb σ H1 fun y H2=>r x y H2 Q
def tUn (r:V->Hp->VK->Prop)(ta:TE):TE:=fun σ H Q=>ta σ H fun x H1=>r x H1 Q
def rI (C:Int->Int->Prop)(g:Int->Int->V):R2:=fun x y H Q=>∃i j,x=.int i/\y=.int j/\C i j/\Q (g i j) H
def rI0 (g:Int->Int->V):R2:=fun x y H Q=>∃i j,x=.int i/\y=.int j/\Q (g i j) H
def rU (g:Int->V):V->Hp->VK->Prop:=fun x H Q=>∃i,x=.int i/\Q (g i) H
section
variable {a b:Ag}{tb:TE}
def Z4n (ha:PE X a ta)(hb:PE X b tb)   {σ:St}  {R:V->V->Hp->Prop}(I:?B)
  (h:ta σ H fun x H1=>tb σ H1 fun y H2=>R x y H2)  {f:Ad->Ad->Sem Ad}
  (hf:∀v u s2 x y H2,A1 X af σ H2 s2->C2 x v->C2 y u->R x y H2->wpAny ?C X.A (f v u) Q X.xe s2):
  wpAny ?C X.A (eval a X.env) (fun v s₁=>wpAny ?C X.A (eval b X.env) (fun u s₂=>wpAny ?C X.A (f v u) Q X.xe s₂) X.xe s₁) X.xe s:=by
 refine B3 (ha af s σ H _ I h) fun v s1 bG=>?_;obtain⟨x,H1,I1,r1,q1⟩:=bG;refine B3 (hb af s1 σ H1 _ I1 q1) fun u s2 bG=>?_;obtain⟨y,H2,I2,r2,q2⟩:=bG;exact hf v u s2 x y H2 I2 r1 r2 q2
def V2a {op:Operator}{r:R2}(ho:Q2 X (binaryOp op) r)(ha:PE X a ta)(hb:PE X b tb):PE X (.BinOp a op b pos) (tOp r ta tb):=by
 intro af s σ H Q I h;exact wpAny_BinOp (Z4n ha hb I h fun v u s2 x y H2 I2 rx ry q=>ho af s2 σ H2 x y v u Q I2 rx ry q)
def Y7d {op:UnaryOp}{r:V->Hp->VK->Prop}(ho:UnR X (unaryOp op) r)(ha:PE X a ta):PE X (.UnaryOp op a pos) (tUn r ta):=by
 intro af s σ H Q I h;exact UnaryOp_ (B3 (ha af s σ H _ I h) fun v s1 ⟨x,H1,I1,r1,q1⟩=>ho af s1 σ H1 x v Q I1 r1 q1)
def opI {f:Ad->Ad->Sem Ad}  {g:Int->Int->Int}
  (rule:∀(i j:Int) (t u:Tok) (s:Ae) (Q:VS9) (E:VS9),C i j->Q (.int (g i j) s.toks) {s with toks:=s.toks+1}->wpAny ?C X.A (f (.int i t) (.int j u)) Q E s):
  Q2 X f (rI C fun i j=>.int (g i j)):=by
 intro af s σ H x y v u Q I rx ry h;obtain⟨i,j,rfl,rfl,hc,q⟩:=h;obtain⟨t,rfl⟩:=rx;obtain⟨t',rfl⟩:=ry;exact rule i j t t' s _ _ hc ⟨.int (g i j),H,I.tok _,⟨_,rfl⟩,q⟩
def opI0 {f:Ad->Ad->Sem Ad}{g:Int->Int->Int}
  (rule:∀(i j:Int) (t u:Tok) (s:Ae) (Q:VS9) (E:VS9),Q (.int (g i j) s.toks) {s with toks:=s.toks+1}->wpAny ?C X.A (f (.int i t) (.int j u)) Q E s):
  Q2 X f (rI0 fun i j=>.int (g i j)):=by
 intro af s σ H x y v u Q I rx ry h;obtain⟨i,j,rfl,rfl,q⟩:=h;obtain⟨t,rfl⟩:=rx;obtain⟨t',rfl⟩:=ry;exact rule i j t t' s _ _ ⟨.int (g i j),H,I.tok _,⟨_,rfl⟩,q⟩
def opB0 {f:Ad->Ad->Sem Ad}{g:Int->Int->Bool}
  (rule:∀(i j:Int) (t u:Tok) (s:Ae) (Q:VS9) (E:VS9),Q (.bool (g i j)) s->wpAny ?C X.A (f (.int i t) (.int j u)) Q E s):
  Q2 X f (rI0 fun i j=>.bl (g i j)):=by
 intro af s σ H x y v u Q I rx ry h;obtain⟨i,j,rfl,rfl,q⟩:=h;obtain⟨t,rfl⟩:=rx;obtain⟨t',rfl⟩:=ry;exact rule i j t t' s _ _ ⟨.bl (g i j),H,I,rfl,q⟩
def Q2h (i j:Int):Prop:=0<j/\j<1073741824
def Q4c (i j:Int):Prop:=(-(2^64)<i/\i<2^64)\/(-(2^64)<j/\j<2^64)
def Q4c.ok {i j:Int}(h:Q4c i j):IntMulOk i j:=by
 rcases h with⟨h1,h2⟩ |⟨h1,h2⟩
 ·exact .of_left (intBits_le_64 h1 h2)
 ·exact .of_right (intBits_le_64 h1 h2)
def V0s:Q2 X (binaryOp .Add) (rI0 fun i j=>.int (i+j)):=opI0 fun _ _ _ _ _ _ _ q=>add_int q
def V1b:Q2 X (binaryOp .Mult) (rI Q4c fun i j=>.int (i*j)):=opI fun _ _ _ _ _ _ _ hc q=>mul_int q hc.ok
theorem V0w:Q2 X (binaryOp .FloorDiv) (rI Q2h fun i j=>.int (i / j)):=opI fun i j _ _ _ _ _ hc q=>by
 have h1:(0:Int)<j:=hc.1;have h2:j<1073741824:=hc.2;exact floordiv_int (by lia) (by rw[Int.fdiv_eq_ediv_of_nonneg i (by lia)];exact q) (.inl (PyProof.noPylong_small (by lia)))
theorem V1a:Q2 X (binaryOp .Mod) (rI (fun _ j=>0<j) fun i j=>.int (i % j)):=opI fun i j _ _ _ _ _ hc q=>by
 have h1:(0:Int)<j:=hc;exact mod_int' (by lia) (by rw[Int.fmod_eq_emod_of_nonneg i (by lia)];exact q)
def W7l:Q2 X (inplaceOp .Add) (rI0 fun i j=>.int (i+j)):=opI0 fun _ _ _ _ _ _ _ q=>iadd_int q
def unI {f:Ad->Sem Ad}{g:Int->Int}
  (rule:∀(i:Int) (t:Tok) (s:Ae) (Q:VS9) (E:VS9),Q (.int (g i) s.toks) {s with toks:=s.toks+1}->wpAny ?C X.A (f (.int i t)) Q E s):
  UnR X f (rU fun i=>.int (g i)):=by
 intro af s σ H x v Q I rx h;obtain⟨i,rfl,q⟩:=h;obtain⟨t,rfl⟩:=rx;exact rule i t s _ _ ⟨.int (g i),H,I.tok _,⟨_,rfl⟩,q⟩
def W0d:UnR X (unaryOp .USub) (rU fun i=>.int (-i)):=unI fun _ _ _ _ _ q=>neg_int q
end
def scal:V->V->Bool
 |.non,.non=>true |.non,.int _=>true |.int _,.non=>true |.non,.bl _=>true |.bl _,.non=>true |.non,.str _=>true |.str _,.non=>true
 |.int _,.int _=>true |.bl _,.bl _=>true |.str _,.str _=>true |.byt _,.byt _=>true
 |.int _,.str _=>true |.str _,.int _=>true |.bl _,.str _=>true |.str _,.bl _=>true
 |_,_=>false
def rNe:R2:=fun x y H Q=>scal x y=true/\Q (.bl (!decide (x=y))) H
def Y3d {i j:Int}:decide (V.int i=V.int j)=(i==j):=by
 rw[cM];simp
def Y3c {i j:Bool}:decide (V.bl i=V.bl j)=(i==j):=by
 rw[cM];simp
def Y3e {i j:Str}:decide (V.str i=V.str j)=(i==j):=by
 rw[cM];simp
def W5o {i j:Array UInt8}:decide (V.byt i=V.byt j)=(i.toList==j.toList):=by
 rw[cM];cases i;cases j;simp
section
variable {a b c:Ag}{tb:TE}
def Y0 {σ:St}   {Q:VK}{k k':Bool}(I:?B)(q:Q (.bl k) H)(e:k=k'):EP X af σ Q (.bool k') s:=by
 subst e;exact⟨.bl k,H,I,rfl,q⟩
theorem V1c:Q2 X (compareOp .NotEq) rNe:=by
 intro af s σ H x y v u Q I rx ry h;obtain⟨hs,q⟩:=h;cases x with
 |non=>
  cases rx;cases y with
  |non=>cases ry;exact PySem.EqNone.ne_none_none (Y0 I q ?G)
  |bl j=>cases ry;exact PySem.EqNone.ne_none_bool (Y0 I q ?G)
  |int j=>obtain⟨t',rfl⟩:=ry;exact PySem.EqNone.ne_none_int (Y0 I q ?G)
  |str j=>obtain⟨t',rfl⟩:=ry;exact PySem.EqNone.ne_none_str (Y0 I q ?G)
  |_=>exact absurd (show false=true from hs) aW
 |bl i=>
  cases rx;cases y with
  |non=>cases ry;exact PySem.EqNone.ne_bool_none (Y0 I q ?G)
  |bl j=>cases ry;exact ne_bool (Y0 I q (congrArg not Y3c))
  |str j=>obtain⟨t',rfl⟩:=ry;exact PySem.EqMixed.ne_bool_str (Y0 I q ?G)
  |_=>exact absurd (show false=true from hs) aW
 |int i=>
  obtain⟨t,rfl⟩:=rx;cases y with
  |non=>cases ry;exact PySem.EqNone.ne_int_none (Y0 I q ?G)
  |int j=>obtain⟨t',rfl⟩:=ry;exact ne_int (Y0 I q (congrArg not Y3d))
  |str j=>obtain⟨t',rfl⟩:=ry;exact PySem.EqMixed.ne_int_str (Y0 I q ?G)
  |_=>exact absurd (show false=true from hs) aW
 |str i=>
  obtain⟨t,rfl⟩:=rx;cases y with
  |non=>cases ry;exact PySem.EqNone.ne_str_none (Y0 I q ?G)
  |bl j=>cases ry;exact PySem.EqMixed.ne_str_bool (Y0 I q ?G)
  |int j=>obtain⟨t',rfl⟩:=ry;exact PySem.EqMixed.ne_str_int (Y0 I q ?G)
  |str j=>obtain⟨t',rfl⟩:=ry;exact ne_str (Y0 I q (congrArg not Y3e))
  |_=>exact absurd (show false=true from hs) aW
 |byt i=>
  obtain⟨t,rfl⟩:=rx;cases y with
  |byt j=>obtain⟨t',rfl⟩:=ry;exact PySem.W.ne_bytes (Y0 I q (congrArg not W5o))
  |_=>exact absurd (show false=true from hs) aW
 |_=>cases y<;>exact absurd (show false=true from hs) aW
def V0z:Q2 X (compareOp .Lt) (rI0 fun i j=>.bl (decide (i<j))):=opB0 fun _ _ _ _ _ _ _ q=>lt_int q
def V0x:Q2 X (compareOp .GtE) (rI0 fun i j=>.bl (decide (j<=i))):=opB0 fun _ _ _ _ _ _ _ q=>ge_int q
def V0y:Q2 X (compareOp .Is) (fun x y H Q=>y=.non/\Q (.bl (decide (x=.non))) H):=by
 intro af s σ H x y v u Q I rx ry h;obtain⟨rfl,q⟩:=h;cases ry;refine is_none_gen (Y0 I q ?_);cases x<;>first
  |(cases rx;rfl)
  |(obtain⟨t,rfl⟩:=rx;rfl)
def V1d:Q2 X (compareOp .IsNot) (fun x y H Q=>y=.non/\Q (.bl (!decide (x=.non))) H):=by
 intro af s σ H x y v u Q I rx ry h;obtain⟨rfl,q⟩:=h;cases ry;refine isnot_none_gen (Y0 I q ?_);cases x<;>first
  |(cases rx;rfl)
  |(obtain⟨t,rfl⟩:=rx;rfl)
def P5 (b:Ag){op:CmpOp}(h:op≠.In:=by decide)(h2:op≠.NotIn:=by decide):behindInMarks op b=false:=by
 have e1:(op==CmpOp.In)=false:=by cases op<;>first |rfl |exact absurd rfl h
 have e2:(op==CmpOp.NotIn)=false:=by cases op<;>first |rfl |exact absurd rfl h2
 cases b<;>simp[behindInMarks,e1,e2]
def V1n {op:CmpOp}{r:R2}(ho:Q2 X (compareOp op) r)(ha:PE X a ta)(hb:PE X b tb)(hm:behindInMarks op b=false):PE X (.Compare a [op] [b] pos) (tOp r ta tb):=by
 intro af s σ H Q I h;exact wpAny_Compare1 (Z4n ha hb I h fun v u s2 x y H2 I2 rx ry q=>ho af s2 σ H2 x y v u Q I2 rx ry q) hm
def V7g (t:TE):TT:=fun σ H Q=>t σ H fun x H'=>∃k,x=.bl k/\Q k H'
def V2p {op:CmpOp}{r:R2}(ho:Q2 X (compareOp op) r)(ha:PE X a ta)(hb:PE X b tb)(hm:behindInMarks op b=false):PT X (.Compare a [op] [b] pos) (V7g (tOp r ta tb)):=by
 intro af s σ H Q I h;refine wpAny_isTrue_Compare1 (B3 (ha af s σ H _ I h) fun v s1 ⟨x,H1,I1,r1,q1⟩=>B3 (hb af s1 σ H1 _ I1 q1) fun u s2 ⟨y,H2,I2,r2,q2⟩=>
  B3 (ho af s2 σ H2 x y v u _ I2 r1 r2 q2) fun c s3 ⟨z,H3,I3,r3,k,e,q3⟩=>?_) hm
 subst e;cases r3;exact cC ⟨H3,I3,q3⟩
def Z4f (K:Fg9)(x:V)(H:Hp)(k:Bool):Prop:=
 match x with
 |.non=>k=false
 |.bl b=>k=b
 |.int i=>k=(i != 0)
 |.str y=>y.length<=sizeLine/\k=((y.length:Int) != 0)
 |.byt y=>y.size<=sizeLine/\k=((y.size:Int) != 0)
 |.ref p=>(∃xs,G0 K H p xs/\k=!xs.isEmpty)\/(∃xs,E7 K H p xs/\k=!xs.isEmpty)\/∃kvs,H p=some (.dK kvs)/\k=!kvs.isEmpty
 |_=>False
def W7m {kvs:M (κ×V)}{vs:M (κ×Ad)}(r:KV kvs vs):(!vs.isEmpty)=!kvs.isEmpty:=by
 cases r<;>rfl
def Y4m (r:C4 xs bb):(!bb.toArray.isEmpty)=!xs.isEmpty:=by
 cases r<;>simp
def Q7p:(sizeLine:Nat)<2^63:=by rw[cT];decide
theorem V7n:TruR X (fun x H Q=>∃k,Z4f X.K x H k/\Q k H):=by
 intro af s σ H x v Q I rx h;obtain⟨k,e,q⟩:=h;have hl:=Q7p;have hs:sizeLine=16777216:=cT;cases x with
 |non=>
  cases rx;have e':k=false:=e;subst e';exact truthy_none ⟨H,I,q⟩
 |bl b=>
  cases rx;have e':k=b:=e;subst e';exact cC ⟨H,I,q⟩
 |int i=>
  obtain⟨t,rfl⟩:=rx;have e':k=(i != 0):=e;subst e';exact PySem.P.truthy_int ⟨H,I,q⟩
 |str y=>
  obtain⟨t,rfl⟩:=rx;obtain⟨hy,e'⟩:y.length<=sizeLine/\k=((y.length:Int) != 0):=e;subst e';exact PySem.P.truthy_str (by lia) ⟨H,I.tok _,q⟩
 |byt y=>
  obtain⟨t,rfl⟩:=rx;obtain⟨hy,e'⟩:y.size<=sizeLine/\k=((y.size:Int) != 0):=e;subst e';exact PySem.W.truthy_bytes (by lia) ⟨H,I.tok _,q⟩
 |ref p=>
  cases rx;have e':(∃xs,G0 X.K H p xs/\k=!xs.isEmpty)\/(∃xs,E7 X.K H p xs/\k=!xs.isEmpty)\/∃kvs,H p=some (.dK kvs)/\k=!kvs.isEmpty:=e;rcases e' with⟨xs,hx,e'⟩ |⟨xs,hx,e'⟩ |⟨kvs,hx,e'⟩
  ·subst e';obtain⟨bb,r,pl,hz⟩:=I.list hx;have ck:=r.length;exact wpAny_truthy_list pl.isList (by simp only[aR];lia) ⟨H,I.tok _,by rw[Y4m r];exact q⟩
  ·subst e';obtain⟨bb,r,pl,hz⟩:=I.tuple hx;have ck:=r.length;exact truthy_tuple pl (by simp only[aR];lia) ⟨H,I.tok _,by rw[Y4m r];exact q⟩
  ·subst e';obtain⟨hz,hS,vs,r,m⟩:kvs.length<=sizeLine/\(p==sysModules)=false/\∃vs,KV kvs vs/\s.heap.DictOf (M8 X.prog X.w) p vs:=I.hok p _ hx;have ck:kvs.length=vs.length:=jA r;exact wpAny_truthy_dict hS m (by lia) ⟨H,I.tok _,by rw[W7m r];exact q⟩
 |_=>exact(show False from e).elim
def V2r (ha:PE X a ta)(he:∀whole,isTrue a X.env whole=(do let v <- whole;standAt a.pos;holding [v] (truthy v))):
  PT X a (fun σ H Q=>ta σ H fun x H'=>∃k,Z4f X.K x H' k/\Q k H'):=by
 intro af s σ H Q I h;exact isTrue_plain (B3 (ha af s σ H _ I h) fun v s1 ⟨x,H1,I1,r1,q1⟩=>V7n af s1 σ H1 x v Q I1 r1 q1) (he _)
def V0t:Q2 X (binaryOp .Add) (fun x y H Q=>∃i j,x=.str i/\y=.str j/\i.length+j.length<=sizeLine/\Q (.str (i++j)) H):=by
 intro af s σ H x y v u Q I rx ry h;obtain⟨i,j,rfl,rfl,hz,q⟩:=h;obtain⟨t,rfl⟩:=rx;obtain⟨t',rfl⟩:=ry;exact add_str (fun t' tk=>⟨.str (i++j),H,I.tok _,⟨_,rfl⟩,q⟩) hz
theorem Q2g {x:V}  (r:C4 [x] us):∃u,us=[u]/\C2 x u:=by
 cases r with
 |cons r1 r2=>cases r2;exact⟨_,rfl,r1⟩
def LenV (K:Fg9)(x:V)(H:Hp)(n:Nat):Prop:=
 match x with
 |.str y=>y.length<=sizeLine/\n=y.length
 |.byt y=>y.size<=sizeLine/\n=y.size
 |.ref p=>(∃xs,G0 K H p xs/\n=xs.length)\/∃xs,E7 K H p xs/\n=xs.length
 |_=>False
theorem Q8o:Q6l X (.builtin "len") (fun xs H Q=>∃x n,xs=[x]/\LenV X.K x H n/\Q (.int n) H):=by
 intro af s σ H xs us Q I r h;obtain⟨x,n,rfl,e,q⟩:=h;obtain⟨u,rfl,rx⟩:=Q2g r;have hl:=Q7p;have hs:sizeLine=16777216:=cT;cases x with
 |str y=>
  obtain⟨t,rfl⟩:=rx;obtain⟨hy,e'⟩:y.length<=sizeLine/\n=y.length:=e;subst e';exact len_str (by lia) ⟨.int _,H,I.tok _,⟨_,rfl⟩,q⟩
 |byt y=>
  obtain⟨t,rfl⟩:=rx;obtain⟨hy,e'⟩:y.size<=sizeLine/\n=y.size:=e;subst e';exact PySem.W.len_bytes (by lia) ⟨.int _,H,I.tok _,⟨_,rfl⟩,q⟩
 |ref p=>
  cases rx;have e':(∃xs,G0 X.K H p xs/\n=xs.length)\/∃xs,E7 X.K H p xs/\n=xs.length:=e;rcases e' with⟨xs,hx,e'⟩ |⟨xs,hx,e'⟩
  ·subst e';obtain⟨bb,r',pl,hz⟩:=I.list hx;have ck:=r'.length;exact Calls.call_len_list pl.isList (by simp only[aR];lia) ⟨.int xs.length,H,I.tok _,⟨_,by simp only[aR];rw[ck]⟩,q⟩
  ·subst e';obtain⟨bb,r',pl,hz⟩:=I.tuple hx;have ck:=r'.length;exact len_tuple pl (by simp only[aR];lia) ⟨.int xs.length,H,I.tok _,⟨_,by simp only[aR];rw[ck]⟩,q⟩
 |_=>exact(show False from e).elim
end
theorem Y1s {v:V}{o:Ac Ad}(r:Q3l (some v) o):∃u,o=some u/\C2 v u:=by
 cases o with
 |none=>exact(show False from r).elim
 |some u=>exact⟨u,rfl,r⟩
structure E2 (k:Nat)(A:Ah):Prop where
 hd:A.handled=none
 dp:A.depth+3*k+5<recursionLimit
 un:A.units+16*k+200<cLine
theorem E2.mono {j k:Nat}{A:Ah}(r:E2 k A)(h:j<=k):E2 j A:=⟨r.hd,by have:=r.dp;lia,by have:=r.un;lia⟩
theorem E2.deeper {k:Nat}{A:Ah}(r:E2 (k+1) A)(env:Env):E2 k (A.deeper env):=
 ⟨r.hd,by have:=r.dp;show A.depth+1+3*k+5<_;lia,by have:=r.un;show A.units+3+16*k+200<_;lia⟩
theorem E2.depth {k:Nat}{A:Ah}(r:E2 k A):A.depth<recursionLimit:=by have:=r.dp;lia
theorem E2.units {k:Nat}{A:Ah}(r:E2 k A):A.units+64<cLine:=by have:=r.un;lia
theorem E2.units0 {k:Nat}{A:Ah}(r:E2 k A):A.units<cLine:=by have:=r.un;lia
def Z2u:TA:=fun _ H Q=>Q [] H
def Q4v (ta:TE)(tr:TA):TA:=fun σ H Q=>ta σ H fun x H1=>tr σ H1 fun xs H2=>Q (x::xs) H2
section
variable {es:M Ag}{t:TA}
def Q6c:PA X [] Z2u:=fun _ _ _ _ H Q I h=>cG ⟨[],H,I,.nil,h⟩
def Q2a (ha:PE X e te)(hr:PA X es t)(hs:?I:=by rfl):PA X (e::es) (Q4v te t):=by
 intro pos af s σ H Q I h;rw[hs];show wpAny _ _ (spliced ((false,eval e X.env)::backTo pos (starEach es X.env))) _ _ s;refine bR (B3 (ha af s σ H _ I h) fun u s1 bG=>?_);obtain⟨x,H1,I1,r1,q1⟩:=bG;exact B3 (hr pos af s1 σ H1 _ I1 q1) fun us s2 ⟨xs,H2,I2,r2,q2⟩=>⟨x::xs,H2,I2,.cons r1 r2,q2⟩
def tTup (t:TA):TE:=fun σ H Q=>t σ H fun xs H1=>xs.length<=sizeLine/\∀p,H1 p=none->Q (.ref p) (A6 H1 p (.tup xs))
def tLst (t:TA):TE:=fun σ H Q=>t σ H fun xs H1=>xs.length<=sizeLine/\∀p,H1 p=none->Q (.ref p) (A6 H1 p (.lst xs))
def V2d {x1}(h:PA X es t):PE X (.Tuple es x1 pos) (tTup t):=by
 intro af s σ H Q I hq;refine wpAny_Tuple_spliced (B3 (h pos af s σ H _ I hq) fun us s1 ⟨xs,H1,I1,r,z,q⟩=>⟨by rw[<-r.length];exact z,?_⟩);have hf:H1 s1.heap.objs.size=none:=I1.hok.fresh (ao _);refine⟨.ref s1.heap.objs.size,A6 H1 s1.heap.objs.size (.tup xs),I1.laid (t':=s1.toks) (fun b u e=>ae _ e) (ao _) ?_,rfl,q _ hf⟩;exact⟨z,us,r,⟨_,aD _ rfl,rfl,_,rfl⟩⟩
def V1w (h:PA X es t):PE X (.List es pos) (tLst t):=by
 intro af s σ H Q I hq;refine wpAny_List_spliced (B3 (h pos af s σ H _ I hq) fun us s1 ⟨xs,H1,I1,r,z,q⟩=>⟨by rw[<-r.length];exact z,?_⟩);have hf:H1 s1.heap.objs.size=none:=I1.hok.fresh (ao _);refine⟨.ref s1.heap.objs.size,A6 H1 s1.heap.objs.size (.lst xs),I1.laid (t':=s1.toks) (fun b u e=>ae _ e) (ao _) ?_,rfl,q _ hf⟩;exact⟨z,us,0,r,aD _ rfl⟩
end
abbrev Sp:=M V->Hp->VK->XK->Prop
abbrev CXT:=M Env->Hp->Ae->XK->Ad->Ae->Prop
variable {CX:CXT}
structure Q5h (P:Aj)(w:Ak)(K:Fg9)(mg:Str->Ac Ad)(base:Heap)(A:Ah)(outer:M Env)(s:Ae)(H:Hp):Prop where
 frames:A.frames=some outer
 mod:Mod K mg base
 bs:∀b o,base.get? b=some o->s.heap.get? b=some o/\H b=none
 bsz:base.objs.size<=s.heap.objs.size
 funs:s.heap.FunFrames base outer
 frf:∀b∈U0 outer,H b=none
 hok:J6 P w H s.heap
 bare:AllBare s.gens
def CE (outer:M Env)(P:Aj)(w:Ak)(H:Hp)(s:Ae)(Q:VK)(u:Ad)(s':Ae):Prop:=
 ∃v H',s'.os=s.os/\AllBare s'.gens/\Un (U0 outer) [] H H' s.heap s'.heap/\J6 P w H' s'.heap/\C2 v u/\Q v H'
def CR (CX:CXT)(outer:M Env)(P:Aj)(w:Ak)(H:Hp)(s:Ae)(Q:VK)(E:XK)(r:Result)(s':Ae):Prop:=
 match r with
 |.ok (.ret u)=>CE outer P w H s Q u s'
 |.ok _=>False
 |.error e=>CX outer H s E e s'
structure O8 (P:Aj)(w:Ak)(K:Fg9)(mg:Str->Ac Ad)(base:Heap)(CX:CXT)(k:Nat)(f:Af)(fd:Ai)(ps:M Str)(sp:Sp):Prop where
 len:∀vs H Q E,sp vs H Q E->vs.length=ps.length
 run:∀(A:Ah) (outer:M Env) (s:Ae) (H:Hp) (args:Args) (us:M Ad) (vs:M V) (Q:VK) (E:XK),E2 k A->Q5h P w K mg base A outer s H->BindsTo s fd args (ps.zip us)->C4 vs us->sp vs H Q E ->
  codeAny (model P w) A (.call (.ref f) args) (CR CX outer P w H s Q E) s
section
variable {σ:St}
def A1.env0 (I:?B):Q5h X.prog X.w X.K X.mg X.base X.A X.stack s H:=
 ⟨I.ok.frames,I.ok.mod,I.bs,aO I.ok.bsz I.sz,I.stack,I.stkFree,I.hok,I.bare⟩
def A1.after {Q:VK}  (I:?B)(h:CE X.stack X.prog X.w H s Q u s'):EP X af σ Q u s':=by
 obtain⟨v,H',os,bare,un,hok,r,q⟩:=h;obtain⟨hh,g,d,t,vH⟩:=s';obtain rfl:vH=s.os:=os;exact⟨v,H',I.call (h':=hh) (g':=g) (d':=d) (t':=t) (ch:=[]) un hok bare (fun b z=>absurd z ?G),r,q⟩
end
def V6u (sp:Sp)(dvs:M V)(E:XK)(t:TA):TE:=fun σ H Q=>t σ H fun vs H1=>sp (vs++dvs) H1 Q E
def S3 (K:Fg9)(fd:Ai)(ps:M Str)(ds:M Ad):Prop:=
 ∀(s:Ae) (us:M Ad),K.In s.heap->(us++ds).length=ps.length->BindsTo s fd ⟨us,[]⟩ (ps.zip (us++ds))
def S3.all (h:∀us:M Ad,us.length=ps.length->bindArgs fd ⟨us,[]⟩=pure (ps.zip us)):S3 K fd ps []:=fun s us _ hl=>by
 rw[b8]at hl ⊢;exact .of_eq (h us hl)
def Z4d (CX:CXT)(X:Cx)(E:XK):Prop:=∀(af:Pn9) (σ:St) (H:Hp) (s:Ae) (e:Ad) (s':Ae),?B->CX X.stack H s E e s'->X.xe e s'
section
variable {k:Nat}{sp:Sp}{dvs:M V}{ds:M Ad}{E:XK}{es:M Ag}{t:TA}
theorem Y7z {σ:St}   {Q:VK}   (F:O8 X.prog X.w X.K X.mg X.base CX k f fd ps sp)(hr:E2 k X.A)(hb:S3 X.K fd ps ds)(hd:C4 dvs ds)(hx:Z4d CX X E)
  (I:?B) (r:C4 vs us) (h:sp (vs++dvs) H Q E):wpAny ?C X.A (call (.ref f) us) (EP X af σ Q) X.xe s:=by
 have r2:C4 (vs++dvs) (us++ds):=r.append hd;have hl:(us++ds).length=ps.length:=by rw[<-r2.length];exact F.len _ _ _ _ h
 refine wpAny_call (lv (F.run X.A X.stack s H ⟨us,[]⟩ (us++ds) (vs++dvs) Q E hr I.env0 (hb s us I.kIn hl) r2 h) fun r s' hq=>?_);cases r with
 |error e=>exact hx af σ H s e s' I hq
 |ok fl=>
  cases fl with
  |ret u=>exact I.after hq
  |next=>exact False.elim hq
  |brk=>exact False.elim hq
  |cont=>exact False.elim hq
def Z6x (F:O8 X.prog X.w X.K X.mg X.base CX k f fd ps sp)(hr:E2 k X.A)(hg:Gl X x)(hm:X.mg x=some (.ref f))(hk:PySem.W.keepIn X.K (.ref f)=true)(hb:S3 X.K fd ps ds)(hd:C4 dvs ds)(hx:Z4d CX X E)
  (ha:PA X (e::es) t) (fG:(x==("__debug__":Str))=false:=by decide) (he:?I:=by rfl) (hpl:(backTo pos (starEach es X.env)).any (·.1)=false:=by rfl):
  PE X (.Call (.Name x p) (e::es) [] pos) (V6u sp dvs E t):=by
 intro af s σ H Q I h;refine bn (Q8y I hg hm ?_ fG);refine eR (h₀:=X.base) I.ok.mod.kin hk (B3 (ha pos af s σ H _ I h) fun us s1 ⟨vs,H1,I1,r,q⟩=>⟨I1.kIn,?_⟩) he hpl;exact Y7z F hr hb hd hx I1 r q
end
structure Z4 (N P:M Str)(sc:Scope):Prop where
 kind:sc.kind=.function
 co:sc.isCoroutine=false
 gen:sc.isGenerator=false
 nd:N.Nodup
 pre:N.take P.length=P
 par:∀x∈P,sc.names.lookup x=some .local\/sc.names.lookup x=some .cell
 nofree:∀y∈sc.names,y.2≠.free
theorem Y2f:∀{binds:M (Str×Ad)}{m:Str->Ac Ad},(∀v,(x,v)∉binds)->bindL kindOf binds m x=m x
 |[],_,_=>rfl
 |(n,v)::r,m,h=>by
  unfold bindL;rw[Y2f fun w hw=>h w (ak _ hw)];split
  ·have:x≠n:=by rintro rfl;exact h v am
   simp[this]
  ·rfl
theorem Y2e:∀{binds:M (Str×Ad)}{m:Str->Ac Ad},(∀v,(x,v)∉binds)->bindC kindOf binds m x=m x
 |[],_,_=>rfl
 |(n,v)::r,m,h=>by
  unfold bindC;rw[Y2e fun w hw=>h w (ak _ hw)];split
  ·rfl
  ·have:x≠n:=by rintro rfl;exact h v am
   simp[this]
theorem Z4p {v:Ad}:∀{P:M Str}{vs:M Ad}{i:Nat}{m:Str->Ac Ad},P.Nodup->P[i]?=some x->vs[i]?=some v->kindOf x=some .local ->
  bindL kindOf (P.zip vs) m x=some v
 |[],_,_,_,_,h,_,_=>by simp at h
 |_::_,[],_,_,_,_,h,_=>by simp at h
 |p::P,w::vs,0,m,nd,h1,h2,hk=>by
  simp at h1 h2;subst h1;subst h2;show bindL kindOf ((p,w)::P.zip vs) m p=_;unfold bindL;rw[Y2f fun v hv=>(bo.mp nd).1 (cL hv).1,aQ hk];simp
 |p::P,w::vs,i+1,m,nd,h1,h2,hk=>by
  show bindL kindOf ((p,w)::P.zip vs) m x=_;unfold bindL;exact Z4p (i:=i) (bo.mp nd).2 (by simpa using h1) (by simpa using h2) hk
theorem Z4o {v:Ad}:∀{P:M Str}{vs:M Ad}{i:Nat}{m:Str->Ac Ad},P.Nodup->P[i]?=some x->vs[i]?=some v->kindOf x≠some .local ->
  bindC kindOf (P.zip vs) m x=some v
 |[],_,_,_,_,h,_,_=>by simp at h
 |_::_,[],_,_,_,_,h,_=>by simp at h
 |p::P,w::vs,0,m,nd,h1,h2,hk=>by
  simp at h1 h2;subst h1;subst h2;show bindC kindOf ((p,w)::P.zip vs) m p=_;unfold bindC;rw[Y2e fun v hv=>(bo.mp nd).1 (cL hv).1,aI hk];simp
 |p::P,w::vs,i+1,m,nd,h1,h2,hk=>by
  show bindC kindOf ((p,w)::P.zip vs) m x=_;unfold bindC;exact Z4o (i:=i) (bo.mp nd).2 (by simpa using h1) (by simpa using h2) hk
def start (N:M Str)(vs:M V):St:=vs.map some++List.replicate (N.length-vs.length) none
def U8 (CX:CXT)(P:Aj)(w:Ak)(K:Fg9)(mg:Str->Ac Ad)(base:Heap)(N:M Str)(qual:Str)(scope:Scope)(f:Af)(cd:Ad)(A:Ah)(outer:M Env)(s:Ae)(H:Hp)(E:XK):Cx where
 prog:=P
 w:=w
 K:=K
 mg:=mg
 base:=base
 A:=A.deeper (envOfC qual scope s.heap.objs.size f cd)
 N:=N
 s₀:=s
 H₀:=H
 env:=envOfC qual scope s.heap.objs.size f cd
 outer:=outer
 stack:=envOfC qual scope s.heap.objs.size f cd::outer
 ex:=[]
 calm:=true
 fn:=fun _=>true
 pn:=[]
 xe:=fun e s'=>wpAny (model P w) (A.deeper (envOfC qual scope s.heap.objs.size f cd)) (leaving (envOfC qual scope s.heap.objs.size f cd) e) (fun _ qE=>CX outer H s E e qE) (fun e' qE=>CX outer H s E e' qE) s'
def Z0w (h:sc.names.lookup x=some .cell):∃c,(cellsFrom n sc.names []).lookup x=some c:=by
 have q:=dI sc.names n [] (.inl h);exact m5.mp q
theorem Y4k {w:Ak}        {cd:Ad}{A:Ah}{outer:M Env}{s1:Ae}  {E:XK}  
  (S:Z4 N ps scope) (hd:A.handled=none) (e0:Q5h P w K mg base A outer s H) (hl:vs.length=ps.length) (r:C4 vs us)
  (x:InCallC s s.heap.objs.size (bindL (envOfC qual scope s.heap.objs.size f cd).kindOf (ps.zip us) fun _=>none) (cellsFrom (s.heap.objs.size+1) scope.names []) (bindC (envOfC qual scope s.heap.objs.size f cd).kindOf (ps.zip us) fun _=>none) s1):
  A1 (U8 CX P w K mg base N qual scope f cd A outer s H E) [] (start N vs) H s1:=by
 have hpl:ps.length<=N.length:=by have:=congrArg List.length S.pre;rw[j6]at this;lia
 obtain⟨h1,tk,rfl,hk⟩:=x.done;have iX:∀b:Af,b∉(U8 CX P w K mg base N qual scope f cd A outer s H E).ex:=fun b z=>absurd (show b∈([]:M Af)from z) ?G;refine⟨⟨e0.mod,S.kind,rfl,rfl,ao _,fun y z c h1 h2=>?_,fun y hy=>?_,fun y c _ h=>?_,fun _=>hd,iG e0.frames,.inr ⟨rfl,rfl⟩,fun b z=>absurd z (iX b),e0.bs,e0.bsz,fun b _ _=>iX b,fun b z=>absurd z (iX b),e0.funs,e0.frf⟩,
  rfl,e0.bare,Un.kept hk,⟨_,x.toInCall.ns,fun i y v h1 h2 h3=>?_⟩,fun y c h=>⟨_,x.cell y c h⟩,e0.hok.fresh (ao _),fun y c h=>?_,fun p hp=>absurd (show p∈([]:Pn9)from hp) ?G,e0.hok.kept hk,?_⟩
 ·exact name_of_addr x.apart (bc h1) (bc h2)
 ·have hy:scope.names.lookup y=some .cell\/scope.names.lookup y=some .free:=hy;rcases hy with hy |hy
  ·exact Z0w hy
  ·exact absurd rfl (S.nofree _ (bc hy))
 ·exact cg (x.above y c (bc h))
 ·have hi:i<vs.length:=by
   unfold start at h2
   by_cases hi:i<vs.length
   ·exact hi
   ·rw[aK (by simpa using hi)]at h2;rw[List.getElem?_replicate]at h2;split at h2<;>cases h2
  have ha:vs[i]?=some v:=by
   unfold start at h2;rw[aB (by simpa using hi),ah]at h2;cases e:vs[i]? with
   |none=>rw[e]at h2;cases h2
   |some a=>rw[e]at h2;cases h2;rfl
  obtain⟨u,hu,rv⟩:=r.get ha;have hp:ps[i]?=some y:=by
   rw[<-S.pre,List.getElem?_take_of_lt (by lia)];exact h1
  have nU:ps.Nodup:=by rw[<-S.pre];exact S.nd.sublist (List.take_sublist _ _)
  refine⟨u,rv,?_⟩;rcases S.par y (az hp)with k |k
  ·exact .inl ⟨k,Z4p nU hp hu k⟩
  ·obtain⟨c,e⟩:=Z0w (n:=s.heap.objs.size+1) k;refine .inr ⟨.inl k,c,e,?_⟩;have q:=x.cell y c e;rw[Z4o nU hp hu (by show scope.names.lookup y≠_;rw[k];decide)]at q;exact q
 ·exact e0.hok.fresh (cg (x.above y c (bc h)))
 ·unfold start;show _=N.length;rw[aC,ag,b7];lia
theorem Z5c {w:Ak}    {k:Nat}      {dV kV:Ad} 
    {sp:Sp} (lk:K.lookup f=some ⟨oc,od,.func (PySem.W.fnOf name qual params body scope dV kV doc pm an cdv ct),fV⟩) (fS:PySem.W.codeIn K cdv qual=true) (S:Z4 N ps scope)
  (len:∀vs H Q E,sp vs H Q E->vs.length=ps.length)
  (bQ:∀(A:Ah) (outer:M Env) (s:Ae) (H:Hp) (vs:M V) (Q:VK) (E:XK),E2 k (A.deeper (envOfC qual scope s.heap.objs.size f cdv))->sp vs H Q E ->
   ∃t,U7 (U8 CX P w K mg base N qual scope f cdv A outer s H E) body t/\t {nx:=fun _ H'=>Q .non H',rt:=Q} (start N vs) H):
  O8 P w K mg base CX (k+1) f (PySem.W.fnOf name qual params body scope dV kV doc pm an cdv ct) ps sp:=by
 refine⟨len,fun A outer s H args us vs Q E hr e0 hb r io=>?_⟩;have hl:=len _ _ _ _ io;have KX:K.In s.heap:=e0.mod.kin.keeps fun b o e=>(e0.bs b o e).1;have jL:s.heap.NoLimit:=e0.mod.nolimit.keeps fun b o e=>(e0.bs b o e).1;have fL:∀y∈ps.zip us,scope.names.lookup y.1=some .local\/(scope.names.lookup y.1=some .cell/\((cellsFrom (s.heap.objs.size+1) scope.names []).lookup y.1).isSome=true):=fun⟨n,v⟩ hy=>by
  rcases S.par n (cL hy).1 with q |q
  ·exact .inl q
  ·exact .inr ⟨q,dI _ _ _ (.inl q)⟩
 refine codeAny_call_function hr.depth (KX _ _ lk) rfl S.co S.gen rfl (vi KX fS) (hb _ _ _ _ ?_);refine ql S.kind fL fun env he s1 x=>?_;subst he;refine⟨jL.keeps x.toInCall.keep,yU ?_⟩;obtain⟨t,ht,hq⟩:=bQ A outer s H vs Q E (hr.deeper _) io;have I:A1 (U8 CX P w K mg base N qual scope f cdv A outer s H E) [] (start N vs) H s1:=Y4k S hr.hd e0 hl r x;refine aE (ht [] s1 (start N vs) H _ I hq) (fun fl s' hs=>?_) fun e s' hs=>hs;have fin:∀{σ':St}{H':Hp}{v:V}{u:Ad},A1 (U8 CX P w K mg base N qual scope f cdv A outer s H E) [] σ' H' s'->C2 v u->Q v H'->CE outer P w H s Q u s':=
  fun {σ' H' v u} J rv q=>⟨v,H',J.os,J.bare,J.base,J.hok,rv,q⟩
 cases fl with
 |ret u=>
  obtain⟨v,σ',H',J,rv,q⟩:=hs;exact fin J rv q
 |next=>
  obtain⟨σ',H',J,q⟩:=hs;exact fin (v:=V.non) (u:=Value.none) J rfl q
 |brk=>
  obtain⟨_,_,_,q⟩:=hs;exact False.elim q
 |cont=>
  obtain⟨_,_,_,q⟩:=hs;exact False.elim q
section
variable {es:M Ag}{t:TA}{id:String}{r:M V->Hp->VK->Prop}
def tCB (r:M V->Hp->VK->Prop)(t:TA):TE:=fun σ H Q=>t σ H fun vs H1=>r vs H1 Q
def Y6y (hc:Q6l X (.builtin id) r)(hg:Gl X x)(hm:X.mg x=none)(hv:bootBuiltins x=some (.builtin id))(ha:PA X (e::es) t)(hn:x≠"__name__":=by decide)(fG:(x==("__debug__":Str))=false:=by decide)
  (he:?I:=by rfl) (hpl:(backTo pos (starEach es X.env)).any (·.1)=false:=by rfl):PE X (.Call (.Name x p) (e::es) [] pos) (tCB r t):=by
 intro af s σ H Q I h;refine bn (Q3v I hg hm hv ?_ hn fG);exact j1 (B3 (ha pos af s σ H _ I h) fun us s1 ⟨vs,H1,I1,r1,q1⟩=>hc af s1 σ H1 vs us Q I1 r1 q1) he hpl
def V1m (hc:Q6l X (.type T) r)(hg:Gl X x)(hm:X.mg x=none)(hv:bootBuiltins x=some (.type T))(ha:PA X (e::es) t)(hn:x≠"__name__":=by decide)(fG:(x==("__debug__":Str))=false:=by decide)
  (he:?I:=by rfl) (hpl:(backTo pos (starEach es X.env)).any (·.1)=false:=by rfl):PE X (.Call (.Name x p) (e::es) [] pos) (tCB r t):=by
 intro af s σ H Q I h;refine bn (Q3v I hg hm hv ?_ hn fG);exact bE (B3 (ha pos af s σ H _ I h) fun us s1 ⟨vs,H1,I1,r1,q1⟩=>hc af s1 σ H1 vs us Q I1 r1 q1) he hpl
end
namespace HT
open PySem PyProof.Rows
section
variable {w:Ak}{A:Ah}
def cat_tup {t:Af}{vs ws:M Ad}  (ht:IsTup s.heap t vs.toArray)(hb:IsTup s.heap b ws.toArray)(hv:vs≠[])
  (h1:ws=[]->Q (.ref t) s) (h2:ws≠[]->Q (.ref s.heap.objs.size) {s with heap:=s.heap.push {cls:=.type "tuple",data:=.seq (vs++ws).toArray}})
  (hsz:vs.length+ws.length<=sizeLine):wpAny (model prog w) A (binaryOp .Add (.ref t) (.ref b)) Q E s:=by
 obtain⟨⟨cls,dd,data,sl⟩,ho,hc,n,hd⟩:=id ht;obtain⟨⟨t6,q0,data2,pG⟩,kX,l9,n2,mS⟩:=id hb;simp only at hc hd l9 mS;subst hc hd l9 mS;have e:vs.toArray++ws.toArray=(vs++ws).toArray:=by simp
 by_cases hw:ws=[]
 ·exact yT ⟨_,ho,rfl⟩ ⟨_,kX,rfl⟩ m6 vp fM fE (fu _ _)
   (tuple_addW1 t b vs.toArray ws.toArray n n2 dd q0 sl pG (by simpa using hv) (by simp[hw])) ⟨ho,kX,h1 hw⟩
 ·refine yT ⟨_,ho,rfl⟩ ⟨_,kX,rfl⟩ m6 vp fM fE (fu _ _)
   (tuple_addW2 t b vs.toArray ws.toArray n n2 dd q0 sl pG (by simpa using hv) (by simpa using hw) (by rw[aR,aR];exact hsz)) ⟨ho,kX,?_⟩
  rw[e];exact h2 hw
end
end HT
section
variable {p2:Pos}
def V3a (K:Fg9):R2:=fun x y H Q=>∃a b xs ys,x=.ref a/\y=.ref b/\E7 K H a xs/\E7 K H b ys/\xs≠[]/\xs.length+ys.length<=sizeLine /\
 (ys=[]->Q (.ref a) H)/\(ys≠[]->∀p,H p=none->Q (.ref p) (A6 H p (.tup (xs++ys))))
theorem C4.nil_iff (r:C4 xs us):us=[] ↔ xs=[]:=by
 cases r with
 |nil=>simp
 |cons _ _=>simp
def V0v:Q2 X (binaryOp .Add) (V3a X.K):=by
 intro af s σ H x y v u Q I rx ry h;obtain⟨a,b,xs,ys,rfl,rfl,ha,hb,hx,hz,q1,q2⟩:=h;cases rx;cases ry;obtain⟨bb,r1,p1,_⟩:=I.tuple ha;obtain⟨dH,r2,p2,_⟩:=I.tuple hb;refine HT.cat_tup p1 p2 (fun z=>hx (r1.nil_iff.mp z)) (fun z=>⟨.ref a,H,I,rfl,q1 (r2.nil_iff.mp z)⟩) (fun z=>?_) (by rw[<-r1.length,<-r2.length];exact hz);refine⟨.ref s.heap.objs.size,_,I.laid (t':=s.toks) (o:=.tup (xs++ys)) (fun b ob q=>ae _ q) (ao _) ?_,rfl,q2 (fun w=>z (r2.nil_iff.mpr w)) _ (I.hok.fresh (ao _))⟩;exact⟨by rw[aC];exact hz,_,r1.append r2,IsTup.new _ _⟩
end
def ixN (n:Nat)(i:Int):Ac Nat:=if 0<=i then(if i<n then some i.toNat else none)else if -(n:Int)<=i then some (i+n).toNat else none
def N5 (xs:M α)(i:Int):Ac α:=(ixN xs.length i).bind fun j=>xs[j]?
theorem Y4s {i:Int}{j:Nat}(h:ixN n i=some j):seqIndex? i n=some j/\j<n/\-(n:Int)<=i/\i<n:=by
 unfold ixN at h
 by_cases h0:0<=i
 ·rw[aQ h0]at h
  by_cases h1:i<n
  ·rw[aQ h1]at h;have e:i.toNat=j:=aA h;exact⟨by rw[seqIndex_of h0 h1,e],by lia,by lia,h1⟩
  ·rw[aI h1]at h;cases h
 ·rw[aI h0]at h
  by_cases h1:-(n:Int)<=i
  ·rw[aQ h1]at h;have e:(i+n).toNat=j:=aA h;exact⟨by rw[seqIndex_neg (by lia) h1,e],by lia,h1,by lia⟩
  ·rw[aI h1]at h;cases h
theorem Z0q {xs:M α}{i:Int}{v:α}(h:N5 xs i=some v):∃j,seqIndex? i xs.length=some j/\xs[j]?=some v/\j<xs.length/\-(xs.length:Int)<=i/\i<xs.length:=by grind [N5,ixN,Y4s]
theorem Y9 {xs:M α}{j:Nat}{v:α}(h:xs[j]?=some v):N5 xs (j:Int)=some v:=by grind [ixN,N5]
def Z4e (b:Ag):Prop:=∀o i,subscripted b false o i=operate [o,i] (getItem o i)
def IxR (X:Cx)(r:R2):Prop:=
 ∀(value slice:Ag) (af:Pn9) (s:Ae) (σ:St) (H:Hp) (x y:V) (v u:Ad) (Q:VK),?B->C2 x v->C2 y u->r x y H Q ->
  subscripted slice false v u=operate [v,u] (getItem v u)->wpAny ?C X.A (subscriptTail value slice v u) (EP X af σ Q) X.xe s
def MtR (X:Cx)(id:String)(r:V->M V->Hp->VK->Prop):Prop:=
 ∀(af:Pn9) (s:Ae) (σ:St) (H:Hp) (x:V) (xs:M V) (v:Ad) (us:M Ad) (Q:VK),?B->C2 x v->C4 xs us->r x xs H Q ->
  wpAny ?C X.A (call (.builtin id) (v::us)) (EP X af σ Q) X.xe s
section
variable {a b:Ag}{tb:TE}
def IxR.or {r r':R2}(h:IxR X r)(h':IxR X r'):IxR X (fun x y H Q=>r x y H Q\/r' x y H Q):=by
 intro value slice af s σ H x y v u Q I rx ry q hs;rcases q with q |q
 ·exact h value slice af s σ H x y v u Q I rx ry q hs
 ·exact h' value slice af s σ H x y v u Q I rx ry q hs
def Y7b {r:R2}(hr:IxR X r)(ha:PE X a ta)(hb:PE X b tb)(hs:Z4e b):PE X (.Subscript a b pos) (tOp r ta tb):=by
 intro af s σ H Q I h;exact Subscript_ (Z4n ha hb I h fun v u s2 x y H2 I2 rx ry q=>hr a b af s2 σ H2 x y v u Q I2 rx ry q (hs _ _))
def rIxL (K:Fg9):R2:=fun x y H Q=>∃p xs i v,x=.ref p/\y=.int i/\G0 K H p xs/\N5 xs i=some v/\Q v H
def rIxT (K:Fg9):R2:=fun x y H Q=>∃p xs i v,x=.ref p/\y=.int i/\E7 K H p xs/\N5 xs i=some v/\Q v H
def rIxS:R2:=fun x y H Q=>∃z i c,x=.str z/\y=.int i/\z.length<=sizeLine/\N5 z.cps.toList i=some c/\Q (.str ⟨#[c]⟩) H
theorem W7s:IxR X (rIxL X.K):=by
 intro value slice af s σ H x y v u Q I rx ry h hs;obtain⟨p,xs,i,z,rfl,rfl,hq,he,q⟩:=h;cases rx;obtain⟨t,rfl⟩:=ry;obtain⟨bb,r,pl,hz⟩:=I.list hq;obtain⟨j,h1,h2,h3,h4,h5⟩:=Z0q he;obtain⟨w,ew,jd⟩:=r.get h2;have hl:=r.length;have hn:=Q7p;have fin:EP X af σ Q w s:=⟨z,H,I,jd,q⟩
 by_cases h0:0<=i
 ·have hj:i.toNat=j:=by
   rw[seqIndex_of h0 h5]at h1;exact aA h1
  exact item_listR pl.isList h0 (by lia) (by rw[hj];simpa using ew) fin hs
 ·have hj:(i+(bb.toArray.size:Int)).toNat=j:=by
   rw[seqIndex_neg (by lia) h4]at h1;rw[aR,<-hl];exact aA h1
  exact jp (x:=w) pl.isList.typeIs slot_list_getitem.lookup
   (yO (Q:=fun r s'=>r=w/\EP X af σ Q r s') pl.isList (by lia) (by rw[aR]<;>lia) (by lia) (by rw[hj];simpa using ew) ⟨rfl,fin⟩) hs
theorem W7v:IxR X (rIxT X.K):=by
 intro value slice af s σ H x y v u Q I rx ry h hs;obtain⟨p,xs,i,z,rfl,rfl,hq,he,q⟩:=h;cases rx;obtain⟨t,rfl⟩:=ry;obtain⟨bb,r,pl,hz⟩:=I.tuple hq;obtain⟨j,h1,h2,h3,h4,h5⟩:=Z0q he;obtain⟨w,ew,jd⟩:=r.get h2;have hl:=r.length;have hn:=Q7p;have fin:EP X af σ Q w s:=⟨z,H,I,jd,q⟩
 exact jp (x:=w) pl.typeIs slot_tuple_getitem.lookup
  (getItem_tuple (j:=j) (Q:=fun r s'=>r=w/\EP X af σ Q r s') pl (by lia) (by lia) (by rw[aR,<-hl];exact h1) (by simpa using ew) ⟨rfl,fin⟩) hs
theorem W7u:IxR X rIxS:=by
 intro value slice af s σ H x y v u Q I rx ry h hs;obtain⟨z,i,c,rfl,rfl,hz,he,q⟩:=h;obtain⟨t,rfl⟩:=rx;obtain⟨t',rfl⟩:=ry;obtain⟨j,h1,h2,h3,h4,h5⟩:=Z0q he;have hl:z.cps.toList.length=z.length:=by simp[Str.length]
 rw[hl]at h1 h4 h5;have hn:=Q7p;exact tail_any (typeIs_str s z t) slot_str_getitem.lookup (getItem_str (c:=c) (by
  have e1:decide (i < -(2^63:Int))=false:=aT (by lia);have e2:decide (i ≥ 2^63)=false:=aT (by lia);rw[e1,e2,Bool.or_false]) (by rw[h1];simpa using h2) ⟨.str ⟨#[c]⟩,H,I.tok _,⟨_,rfl⟩,q⟩) hs
def rIx (K:Fg9):R2:=fun x y H Q=>rIxL K x y H Q\/rIxT K x y H Q\/rIxS x y H Q
def W7t:IxR X (rIx X.K):=W7s.or (W7v.or W7u)
theorem W4x:Q6l X (.type "tuple") (fun xs H Q=>∃p ys,xs=[.ref p]/\((G0 X.K H p ys/\∀l,H l=none->Q (.ref l) (A6 H l (.tup ys)))\/(E7 X.K H p ys/\Q (.ref p) H))):=by
 intro af s σ H xs us Q I r h;obtain⟨p,ys,rfl,h⟩:=h;obtain⟨u,rfl,rx⟩:=Q2g r;cases rx;rcases h with⟨hq,q⟩ |⟨hq,q⟩
 ·obtain⟨bb,r',pl,hz⟩:=I.list hq;have ck:=r'.length;refine call_tuple_list pl.isList (fun h' kp=>?_) (by simp only[aR]<;>lia);have I1:A1 X af σ H {s with heap:=h'}:=I.kept (t':=s.toks) kp;have I2:A1 X af σ (A6 H h'.objs.size (.tup ys)) {s with heap:=h'.push {cls:=.type "tuple",data:=.seq bb.toArray}}:=
   I1.laid (t':=s.toks) (fun b o e=>ae _ e) (ao _) (show ObjOk X.prog X.w _ _ _ (.tup ys)from⟨hz,bb,r',IsTup.new _ _⟩)
  exact⟨.ref h'.objs.size,_,I2,rfl,q _ (I1.hok.fresh (ao _))⟩
 ·obtain⟨bb,r',pl,hz⟩:=I.tuple hq;exact call_tuple_same pl ⟨.ref p,H,I,rfl,q⟩
def tyV (K:Fg9)(T:String)(x:V)(H:Hp):Prop:=match x with
 |.str _=>T="str"
 |.int _=>T="int"
 | .ref p=>(T="list"/\∃xs,G0 K H p xs)\/(T="tuple"/\∃o,K.lookup p=some o/\o.cls=.type "tuple"/\o.dict=none) \/
   (T="dict"/\((∃kvs,H p=some (.dK kvs))\/∃kvs,H p=some (.dT kvs)))\/(T="set"/\∃S n,H p=some (.set S n))
 |_=>False
theorem V7z {σ:St}    {x:V}{v:Ad}(I:?B)(r:C2 x v)(ty:tyV X.K T x H):
  s.TypeIs v T/\∀a,v=.ref a->∃ob,s.heap.get? a=some ob/\ob.dict=none:=by
 cases x with
 |str z=>
  obtain⟨t,rfl⟩:=r;cases (show T="str" from ty);exact⟨typeIs_str s z t,fun _ e=>nomatch e⟩
 |int i=>
  obtain⟨t,rfl⟩:=r;cases (show T="int" from ty);exact⟨typeIs_int s i t,fun _ e=>nomatch e⟩
 |ref p=>
  cases r;rcases ty with⟨rfl,xs,hq⟩ |⟨rfl,o,hk,hc,hd⟩ |⟨rfl,hk⟩ |⟨rfl,S,n,hk⟩
  ·obtain⟨bb,_,pl,_⟩:=I.list hq;refine⟨pl.isList.typeIs,fun a e=>?_⟩;cases e;obtain⟨o,n,e,c,hd,_⟩:=pl;exact⟨o,e,hd⟩
  ·refine⟨⟨o,I.kIn p o hk,hc⟩,fun a e=>?_⟩;cases e;exact⟨o,I.kIn _ o hk,hd⟩
  ·have z:∃o,s.heap.get? p=some o/\o.ExactDict:=by
    rcases hk with⟨kvs,hk⟩ |⟨kvs,hk⟩
    ·obtain⟨_,_,_,_,o,_,_,e,ex,_⟩:=I.hok p _ hk;exact⟨o,e,ex⟩
    ·obtain⟨_,_,_,_,o,_,_,e,ex,_⟩:=I.hok p _ hk;exact⟨o,e,ex⟩
   obtain⟨o,e,ex⟩:=z;refine⟨⟨o,e,ex.1⟩,fun a e2=>?_⟩;cases e2;exact⟨o,e,ex.2.1⟩
  ·obtain⟨o,_,_,_,e,ex,_⟩:=I.hok p _ hk;refine⟨⟨o,e,ex.1⟩,fun a e2=>?_⟩;cases e2;exact⟨o,e,ex.2.1⟩
 |_=>exact False.elim ty
def tBM (K:Fg9)(T:String)(r:V->M V->Hp->VK->Prop)(to:TE)(t:TA):TE:=fun σ H Q=>to σ H fun x H1=>tyV K T x H1/\t σ H1 fun xs H2=>r x xs H2 Q
variable {o:Ag}{es:M Ag}{to:TE}{t:TA}{id:String}{r:V->M V->Hp->VK->Prop}
def Y6x (pa:PlainAttrs T)(slot:Slot T name id)(lL:typeOf (.builtin id)=pure (.type "method_descriptor"))(hm:MtR X id r)(ho:PE X o to)(ha:PA X (e::es) t)
  (il:attributeBase o name X.env (eval o X.env)=eval o X.env:=by rfl)
  (jX:((backTo bV (starEach (e::es) X.env)).all (fun x=>!x.1)&&(backToKw bV (keywordEach [] X.env)).all (fun x=>x.1.isSome)
  &&decide ((e::es).length+([]:M Keyword).length+(if ([]:M Keyword).isEmpty then 0 else 1)<30))=true:=by rfl)
  (i9:(apos.endLine==bV.line)=true:=by rfl) (hs:?I:=by rfl) (gm:(backTo bV (starEach es X.env)).any (·.1)=false:=by rfl):
  PE X (.Call (.Attribute o name apos) (e::es) [] bV) (tBM X.K T r to t):=by
 intro af s σ H Q I h;refine wpAny_Call_method_late il jX i9 rfl (B3 (ho af s σ H _ I h) fun v s1 bG=>?_);obtain⟨x,H1,I1,r1,ty,q1⟩:=bG;obtain⟨h1,h2⟩:=V7z I1 r1 ty;refine⟨T,id,pa,slot,lL,h1,h2,?_⟩;have hA:=ha bV af s1 σ H1 _ I1 q1;rw[hs]at hA ⊢;refine cS (by show(false||(backTo bV (starEach es X.env)).any (·.1))=false;rw[gm]<;>rfl) (cB ?_);exact B3 hA fun us s2 ⟨vs,H2,I2,r2,q2⟩=>hm af s2 σ H2 x vs v us Q I2 r1 r2 q2
end
def MtM (X:Cx)(id:String)(r:V->M V->Hp->VK->Prop):Prop:=
 ∀(af:Pn9) (s:Ae) (σ:St) (H:Hp) (x:V) (xs:M V) (v:Ad) (us:M Ad) (Q:VK),?B->C2 x v->C4 xs us->r x xs H Q ->
  wpAny ?C X.A (call (.builtin id) (v::us)) (EP X af σ Q) X.xe s
theorem C4.one:∀{x:V}{us:M Ad},C4 [x] us->∃u,us=[u]/\C2 x u:=by
 intro x us r;cases r with
 |cons r t=>cases t;exact⟨_,rfl,r⟩
theorem C4.two:∀{x y:V}{us:M Ad},C4 [x,y] us->∃u v,us=[u,v]/\C2 x u/\C2 y v:=by
 intro x y us r;cases r with
 |cons r t=>
  cases t with
  |cons q t=>cases t;exact⟨_,_,rfl,r,q⟩
theorem C4.rep (h:C4 xs us):∀k:Nat,C4 (List.replicate k xs).flatten (List.replicate k us).flatten
 |0=>.nil
 |k+1=>by
  rw[cx,cx,cP,cP];exact C4.append h (C4.rep h k)
theorem W6f (bb:M Ad):∀(k:Nat) (c6:M Ad),
  List.foldl (fun x1 x2=>x1++x2) c6.toArray (List.replicate k bb.toArray)=(c6++(List.replicate k bb).flatten).toArray:=by intro k;induction k<;>grind [List.replicate,cx,cP,bt,cb]
section
variable {σ:St}{ys:M V}
def A1.lset {its':M Ad}  {f:Array Ad->Array Ad}  (I:?B)(hH:H l=some (.lst xs))
  (e:s.heap.get? l=some {cls:=.type "list",data:=.seq bb.toArray n}) (hf:f bb.toArray=its'.toArray) (hv:C4 ys its') (hz:ys.length<=sizeLine):
  A1 X af σ (A6 H l (.lst ys)) {s with heap:=s.heap.update l (Obj.mapSeq f),toks:=t'}:=by
 have q:=PySem.IsL.update e f;rw[hf]at q;refine I.write (x:=l) (e:=l) (by rw[hH];exact trivial) (.inl rfl) (fun b' u hb hu=>(cR s.heap (Obj.mapSeq f) (bY hb)).trans hu) ⟨_,q⟩ ?_;exact⟨hz,its',_,hv,q⟩
def A1.lnew (I:?B)(hv:C4 ys bb)(hz:ys.length<=sizeLine):
  A1 X af σ (A6 H s.heap.objs.size (.lst ys)) {s with heap:=s.heap.push {cls:=.type "list",data:=.seq bb.toArray},toks:=t'}:=
 I.laid (fun _ _ q=>ae _ q) (ao _) ⟨hz,bb,0,hv,aD _ rfl⟩
def A1.fresh (I:?B):H s.heap.objs.size=none:=I.hok.fresh (ao _)
def A1.lstM (I:?B)(hH:H l=some (.lst xs)):xs.length<=sizeLine/\∃(bb:M Ad) (n:Nat),C4 xs bb/\xs.length=bb.length/\s.heap.get? l=some {cls:=.type "list",data:=.seq bb.toArray n}:=by
 obtain⟨z,bb,n,r,e⟩:=I.hok l _ hH;exact⟨z,bb,n,r,r.length,e⟩
theorem V0d (h:n<=sizeLine):Builtin.List.listTooLong n=false:=by
 unfold Builtin.List.listTooLong;exact aT (by lia)
end
def V2z:V->M V->Hp->VK->Prop:=fun x vs H Q=>∃l xs y,x=.ref l/\vs=[y]/\H l=some (.lst xs)/\xs.length<sizeLine/\Q .non (A6 H l (.lst (xs++[y])))
theorem W9u:MtM X "list.append" V2z:=by
 intro af s σ H x vs v us Q I rx rv h;obtain⟨l,xs,y,rfl,rfl,hH,hz,q⟩:=h;cases rx;obtain⟨u,rfl,ru⟩:=rv.one;obtain⟨z,bb,n,r,hl,e⟩:=I.lstM hH;refine call_meets F.slot_list_append ⟨_,e,rfl⟩ F.entry_list_append (F.args_list_append_2 _ _) (PySem.list_append l bb.toArray n u (by rw[aR];lia)) ⟨e,?_⟩;refine⟨.non,_,I.lset (its':=bb++[u]) hH e ?G (r.append (.cons ru .nil)) ?_,rfl,q⟩;rw[aC,bu];lia
def rCat:R2:=fun x y H Q=>∃l b xs zs,x=.ref l/\y=.ref b/\H l=some (.lst xs)/\H b=some (.lst zs)/\xs.length+zs.length<=sizeLine/\∀p,H p=none->Q (.ref p) (A6 H p (.lst (xs++zs)))
theorem V0u:Q2 X (binaryOp .Add) rCat:=by
 intro af s σ H x y v u Q I rx ry h;obtain⟨l,b,xs,zs,rfl,rfl,hH,hB,hz,q⟩:=h;cases rx;cases ry;obtain⟨z,bb,n,r,hl,e⟩:=I.lstM hH;obtain⟨z2,dH,n2,r2,ib,e2⟩:=I.lstM hB;refine PySem.P.add_list e e2 ?_ (by rw[aR,aR];lia);have ea:bb.toArray++dH.toArray=(bb++dH).toArray:=by simp
 rw[ea];exact⟨.ref _,_,I.lnew (t':=s.toks) (r.append r2) (by rw[aC];lia),rfl,q _ I.fresh⟩
def rRep:R2:=fun x y H Q=>∃l k xs,x=.ref l/\y=.int k/\H l=some (.lst xs)/\-(2^63)<=k/\k<2^63/\xs.length*k.toNat<=sizeLine /\
 ∀p,H p=none->Q (.ref p) (A6 H p (.lst (List.replicate k.toNat xs).flatten))
def W8r (xs:M α)(k:Nat):(List.replicate k xs).flatten.length=k*xs.length:=by simp[cx,cP,aC,Nat.succ_mul,Nat.add_comm]<;>omega
theorem V1e:Q2 X (binaryOp .Mult) rRep:=by
 intro af s σ H x y v u Q I rx ry h;obtain⟨l,k,xs,rfl,rfl,hH,h1,h2,hz,q⟩:=h;cases rx;obtain⟨t,rfl⟩:=ry;obtain⟨z,bb,n,r,hl,e⟩:=I.lstM hH;have ck:bb.toArray.size*k.toNat<=sizeLine:=by rw[aR,<-hl];exact hz
 have sH:¬ bb.toArray.size*k.toNat > (2^63-1) / 8:=by
  have:(sizeLine:Nat)<=(2^63-1) / 8:=?K
  lia
 have ss:¬ (!Builtin.List.listFitsIndex k)=true:=by
  rw[fitsIndex_both h1 h2];exact aW
 have ox:¬ Builtin.List.listTooLong (bb.toArray.size*k.toNat)=true:=by
  rw[V0d ck];exact aW
 have kY:List.foldl (fun x1 x2=>x1++x2) #[] (List.replicate (if bb.toArray.isEmpty=true then 0 else k.toNat) bb.toArray)=(List.replicate k.toNat bb).flatten.toArray:=by
  have f0:∀m:Nat,List.foldl (fun x1 x2=>x1++x2) #[] (List.replicate m bb.toArray)=(List.replicate m bb).flatten.toArray:=fun m=>by
   have:=W6f bb m [];rw[cq]at this;exact this
  rw[f0];cases bb with
  |nil=>simp
  |cons a r'=>rw[aI ?G]
 refine wpAny_binaryOp_repeat_ref (T:="list") (U:="int") (?K) ⟨_,e,rfl⟩ (fun s'=>typeIs_int s' k t) noFill_list_mul F.fills_int_mul F.slot_int_rmul repeat_list F.slot_int_index.lookup
  (call_meets F.slot_int_rmul (typeIs_int s k t) F.entry_int_rmul (F.args_int_rmul_2 _ _) (int___rmul___int_list k t l bb.toArray n)
   ⟨e,rfl,⟨_,e,rfl⟩,call_meets F.slot_list_mul ⟨_,e,rfl⟩ F.entry_list_mul (F.args_list_mul_2 _ _) (AutoListH.list___mul___list_int_3 l bb.toArray n k t ss sH ox) ⟨e,?_⟩⟩)
 rw[kY];exact⟨.ref _,_,I.lnew (t':=s.toks) (r.rep k.toNat) (by rw[W8r,Nat.mul_comm];exact hz),rfl,q _ I.fresh⟩
section
variable [DecidableEq κ]
def T1 (kvs:M (κ×V))(k:κ):Ac V:=(kvs.find? fun kv=>decide (kv.1=k)).map (·.2)
def P8 (kvs:M (κ×V))(k:κ)(v:V):M (κ×V):=
 if (kvs.any fun kv=>decide (kv.1=k))=true then kvs.map (fun kv=>if kv.1=k then(kv.1,v)else kv)else kvs++[(k,v)]
def Z3a {p:κ×V}{r:M (κ×V)}{k:κ}(e:p.1=k):T1 (p::r) k=some p.2:=by simp[T1,bp,e]
def Z2z {p:κ×V}{r:M (κ×V)}{k:κ}(e:¬ p.1=k):T1 (p::r) k=T1 r k:=by simp[T1,bp,e]
theorem Z2y (k:κ):∀kvs:M (κ×V),(kvs.any fun kv=>decide (kv.1=k))=(T1 kvs k).isSome
 |[]=>rfl
 |p::r=>by
  rw[dm]
  by_cases e:p.1=k
  ·simp only[Z3a e,cH e,Bool.true_or,Option.isSome_some]
  ·rw[Z2z e,aT e,Bool.false_or];exact Z2y k r
theorem Q8z (kvs:M (κ×V))(k:κ)(v:V):(P8 kvs k v).length<=kvs.length+1:=by grind [P8,ag,aC,aN,eF]
def V2s {kvs:M (κ×V)}{k:κ}(v:V)(h:T1 kvs k=none):P8 kvs k v=kvs++[(k,v)]:=by
 unfold P8;rw[Z2y,h];exact aI (?K)
theorem Q3l.isSome_eq {o:Ac V}{u:Ac Ad}(r:Q3l o u):o.isSome=u.isSome:=by
 cases o with
 |none=>cases u with
  |none=>rfl
  |some _=>exact(show False from r).elim
 |some _=>cases u with
  |none=>exact(show False from r).elim
  |some _=>rfl
theorem Q3l.getD {o:Ac V}{u:Ac Ad}{d:V}{d':Ad}(r:Q3l o u)(rd:C2 d d'):C2 (o.getD d) (u.getD d'):=by
 cases o with
 |none=>cases u with
  |none=>exact rd
  |some _=>exact(show False from r).elim
 |some _=>cases u with
  |none=>exact(show False from r).elim
  |some _=>exact r
theorem KV.val {kvs:M (κ×V)}{vs:M (κ×Ad)}(r:KV kvs vs)(k:κ):Q3l (T1 kvs k) (valueAt vs k):=by
 unfold KV at r
 induction r with
 |nil=>exact True.intro
 |@cons p q ps qs h t ih=>
  obtain⟨h1,h2⟩:=h
  by_cases e:p.1=k
  ·have e':q.1=k:=h1.symm.trans e;have b:valueAt (q::qs) k=some q.2:=by simp[valueAt,bp,e']
   rw[Z3a e,b];exact h2
  ·have e':¬ q.1=k:=fun z=>e (h1.trans z);have b:valueAt (q::qs) k=valueAt qs k:=by simp[valueAt,bp,e']
   rw[Z2z e,b];exact ih
theorem KV.any {kvs:M (κ×V)}{vs:M (κ×Ad)}(r:KV kvs vs)(k:κ):(kvs.any fun kv=>decide (kv.1=k))=vs.any fun kv=>decide (kv.1=k):=by induction r<;>grind [KV,dm]
theorem KV.repl {kvs:M (κ×V)}{vs:M (κ×Ad)}(r:KV kvs vs)(k:κ)   (ry:C2 y u):
  KV (kvs.map fun kv=>if kv.1=k then(kv.1,y)else kv) (vs.map fun kv=>if kv.1=k then(kv.1,u)else kv):=by
 unfold KV at r ⊢
 induction r with
 |nil=>exact .nil
 |@cons p q ps qs h t ih=>
  rw[ar,ar];refine .cons ?_ ih;obtain⟨h1,h2⟩:=h
  by_cases e:p.1=k
  ·rw[aQ e,aQ (h1.symm.trans e)];exact⟨h1,ry⟩
  ·rw[aI e,aI (fun z=>e (h1.trans z))];exact⟨h1,h2⟩
def KV.put {kvs:M (κ×V)}{vs:M (κ×Ad)}(r:KV kvs vs)(k:κ)   (ry:C2 y u):KV (P8 kvs k y) (stored vs k u):=by
 unfold P8 stored;rw[r.any k]
 by_cases e:(vs.any fun kv=>decide (kv.1=k))=true
 ·rw[aQ e,aQ e];exact r.repl k ry
 ·rw[aI e,aI e];exact Paired.snoc r ⟨rfl,ry⟩
def KV.length {kvs:M (κ×V)}{vs:M (κ×Ad)}(r:KV kvs vs):kvs.length=vs.length:=jA r
end
theorem Q4o {w:Ak}{k:B0}  (r:C2 (kV k) u):(M8 P w).is k u=true:=by
 cases k with
 |inl i=>obtain⟨t,e⟩:=(show ∃t,u=Value.int i t from r);subst e;exact W9n P w i t
 |inr x=>obtain⟨t,e⟩:=(show ∃t,u=Value.str x t from r);subst e;exact W9o P w x t
theorem Y4q {w:Ak}:∀{ks:M B0}{us:M Ad},C4 (ks.map kV) us->ItemsAre (M8 P w) ks us
 |[],_,r=>by rw[cu]at r;cases r;exact .nil
 |k::ks,_,r=>by
  rw[ar]at r;cases r with
  |cons h t=>exact .cons (Q4o h) (Y4q t)
abbrev KT (H:Hp):M (M B0×V)->M (M B0×Af×Ad)->Prop:=Paired fun p q=>p.1=q.1/\H q.2.1=some (.tup (p.1.map kV))/\C2 p.2 q.2.2
theorem KT.val {xs:M (M B0×Af×Ad)}(r:KT H kvs xs)(k:M B0):Q3l (T1 kvs k) ((atKey xs k).map (·.2)):=by
 induction r with
 |nil=>exact True.intro
 |@cons p q ps qs h t ih=>
  obtain⟨h1,_,h2⟩:=h
  by_cases e:p.1=k
  ·have e':q.1=k:=h1.symm.trans e;have b:atKey (q::qs) k=some q.2:=by simp[atKey,bp,e']
   rw[Z3a e,b];exact h2
  ·have e':¬ q.1=k:=fun z=>e (h1.trans z);have b:atKey (q::qs) k=atKey qs k:=by simp[atKey,bp,e']
   rw[Z2z e,b];exact ih
theorem KT.repl {xs:M (M B0×Af×Ad)}(r:KT H kvs xs)(k:M B0)   (ry:C2 y u):
  KT H (kvs.map fun kv=>if kv.1=k then(kv.1,y)else kv) (xs.map (putAt k u)):=by
 induction r with
 |nil=>exact .nil
 |@cons p q ps qs h t ih=>
  rw[ar,ar];refine .cons ?_ ih;obtain⟨h1,h2,h3⟩:=h;unfold putAt
  by_cases e:p.1=k
  ·rw[aQ e,aQ (h1.symm.trans e)];exact⟨h1,h2,ry⟩
  ·rw[aI e,aI (fun z=>e (h1.trans z))];exact⟨h1,h2,h3⟩
def KT.put {xs:M (M B0×Af×Ad)}(r:KT H kvs xs)(k:M B0)    (hb:H b=some (.tup (k.map kV)))(ry:C2 y u):
  KT H (P8 kvs k y) (storedH xs k b u):=by
 have e:(kvs.any fun kv=>decide (kv.1=k))=(atKey xs k).isSome:=by
  rw[Z2y,(r.val k).isSome_eq,yu]
 unfold P8 storedH;rw[e]
 by_cases q:(atKey xs k).isSome=true
 ·rw[aQ q,aQ q];exact r.repl k ry
 ·rw[aI q,aI q];exact Paired.snoc r ⟨rfl,hb,ry⟩
def KT.keeps {xs:M (M B0×Af×Ad)}(r:KT H kvs xs)(ht:∀b ys,H b=some (.tup ys)->H' b=some (.tup ys)):KT H' kvs xs:=
 Y1r r fun _ _ z=>⟨z.1,ht _ _ z.2.1,z.2.2⟩
section
variable {w:Ak}
def Y7s {u:HO}(ok:J6 P w H h)(e:Rd H a u):ObjOk P w H h a u:=e.ok ok
def Q7c {kvs:M (B0×V)}(ok:J6 P w H h)(e:Rd H a (.dK kvs)):kvs.length<=sizeLine/\(a==sysModules)=false/\∃vs,KV kvs vs/\h.DictOf (M8 P w) a vs:=
 show ObjOk P w H h a (.dK kvs)from Y7s ok e
def Z0y {kvs:M (B0×V)}(ok:J6 P w H h)(e:H a=some (.dK kvs)):kvs.length<=sizeLine/\(a==sysModules)=false/\∃vs,KV kvs vs/\h.DictOf (M8 P w) a vs:=Q7c ok (.inl e)
def Q7i {ks:M B0}(ok:J6 P w H h)(e:H a=some (.tup (ks.map kV))):(tupleKind (M8 P w)).is h ks a:=by
 obtain⟨_,bb,r,o,h1,h2,n,h3⟩:=(show ObjOk P w H h a (.tup (ks.map kV))from ok a _ e)
 exact⟨o,bb.toArray,n,h1,h2,h3,by simpa using Y4q r⟩
def Q7d (ok:J6 P w H h)(e:Rd H a (.dT kvs)):kvs.length<=sizeLine/\(a==sysModules)=false /\
  ∃xs,KT H kvs xs/\h.DictOfH (tupleKind (M8 P w)) a xs:=by
 obtain⟨z,y,xs,r,o,es,ep,h1,h2,h3,h4,h5⟩:=(show ObjOk P w H h a (.dT kvs)from Y7s ok e)
 refine⟨z,y,xs,r,o,es,ep,h1,h2,h3,h4,fun x hx=>?_,h5⟩;have all:∀{l:M (M B0×V)}{m:M (M B0×Af×Ad)},KT H l m->∀x∈m,(tupleKind (M8 P w)).is h x.1 x.2.1:=by
  intro l m q
  induction q with
  |nil=>intro x hx;exact nomatch hx
  |@cons p q ps qs hq t ih=>
   intro x hx;rcases av.mp hx with e |hx
   ·subst e;exact Q7i ok (by rw[<-hq.1];exact hq.2.1)
   ·exact ih x hx
 exact all r x hx
def Y3i (ok:J6 P w H h)(e:H a=some (.dT kvs)):kvs.length<=sizeLine/\(a==sysModules)=false /\
  ∃xs,KT H kvs xs/\h.DictOfH (tupleKind (M8 P w)) a xs:=Q7d ok (.inl e)
end
def Z3 (H:Hp)(a:Af)(y:V)(r:Ac V):Prop:=
 (∃kvs k,Rd H a (.dK kvs)/\y=kV k/\r=T1 kvs k)\/∃kvs k b,Rd H a (.dT kvs)/\y=.ref b/\H b=some (.tup (k.map kV))/\r=T1 kvs k
def Q4d (H:Hp)(a:Af)(y v:V)(H':Hp):Prop:=
 (∃kvs k,H a=some (.dK kvs)/\y=kV k/\kvs.length<sizeLine/\H'=A6 H a (.dK (P8 kvs k v))) \/
 ∃kvs k b,H a=some (.dT kvs)/\y=.ref b/\H b=some (.tup (k.map kV))/\kvs.length<sizeLine/\H'=A6 H a (.dT (P8 kvs k v))
def Z3.k {kvs:M (B0×V)}{k:B0}(e:H a=some (.dK kvs)):Z3 H a (kV k) (T1 kvs k):=.inl ⟨kvs,k,.inl e,rfl,rfl⟩
def Z3.t {k:M B0}(e:H a=some (.dT kvs))(eb:H b=some (.tup (k.map kV))):Z3 H a (.ref b) (T1 kvs k):=.inr ⟨kvs,k,b,.inl e,rfl,eb,rfl⟩
def Q4d.k {kvs:M (B0×V)}{k:B0}{v:V}(e:H a=some (.dK kvs))(hl:kvs.length<sizeLine):Q4d H a (kV k) v (A6 H a (.dK (P8 kvs k v))):=.inl ⟨kvs,k,e,rfl,hl,rfl⟩
def Q4d.t {k:M B0}{v:V}(e:H a=some (.dT kvs))(eb:H b=some (.tup (k.map kV)))(hl:kvs.length<sizeLine):
  Q4d H a (.ref b) v (A6 H a (.dT (P8 kvs k v))):=.inr ⟨kvs,k,b,e,rfl,eb,hl,rfl⟩
section
variable {σ:St}{v:V}{r:Ad}{o:Ac V}{A:Ah}
def A1.big (I:?B):sysModules<s.heap.objs.size:=by
 have h:mainGlobals<s.heap.objs.size:=(I.mod.glob.keeps I.bk).lt;exact nK (?K) h
def W5l (hu:A.units+1<cLine)(I:?B)(g:Z3 H a y (some v))(ry:C2 y u)(h:∀w' s',A1 X af σ H s'->C2 v w'->Q w' s'):
  wpAny ?C A (getItem (.ref a) u) Q E s:=by
 rcases g with⟨kvs,k,e,ey,l⟩ |⟨kvs,k,b,e,ey,eb,l⟩
 ·subst ey;obtain⟨z,hd,vs,rel,dd⟩:=Q7c I.hok e;obtain⟨w',hw,jd⟩:=Y1s (v:=v) (o:=valueAt vs k) (by rw[l];exact rel.val k);exact wpAny_getItem_of (Q4o ry) dd.mapOf hw (h w' _ (I.tok _) jd)
 ·subst ey;cases (show u=Value.ref b from ry);obtain⟨z,hd,xs,rel,dd⟩:=Q7d I.hok e;obtain⟨w',hw,jd⟩:=Y1s (v:=v) (o:=(atKey xs k).map (·.2)) (by rw[l];exact rel.val k);obtain⟨p,hp,jr⟩:=Option.map_eq_some_iff.mp hw;refine wpAny_getItem_heap (fI hu) (Q7i I.hok eb) dd hp ?_;rw[jr];exact h w' _ (I.tok _) jd
def W5m (hu:A.units+1<cLine)(I:?B)(g:Z3 H a y o)(ry:C2 y u)(h:∀s',A1 X af σ H s'->Q (.bool (!o.isSome)) s'):
  wpAny ?C A (compareOp .NotIn u (.ref a)) Q E s:=by
 rcases g with⟨kvs,k,e,ey,l⟩ |⟨kvs,k,b,e,ey,eb,l⟩
 ·subst ey;obtain⟨z,hd,vs,rel,dd⟩:=Q7c I.hok e;refine wpAny_notIn_of (Q4o ry) hd dd.mapOf ?_;rw[<-(rel.val k).isSome_eq,<-l];exact h _ (I.tok _)
 ·subst ey;cases (show u=Value.ref b from ry);obtain⟨z,hd,xs,rel,dd⟩:=Q7d I.hok e;refine wpAny_notIn_heap (fI hu) (Q7i I.hok eb) hd dd ?_;have q:=(rel.val k).isSome_eq;rw[yu]at q;rw[<-q,<-l];exact h _ (I.tok _)
def Q5p {ob:HO}(I:?B)(mu:Mut (H a))(hs:Heap.SameBut a s.heap h')(he:∃q,h'.get? a=some q)(new:ObjOk X.prog X.w (A6 H a ob) h' a ob):
  A1 X af σ (A6 H a ob) {s with heap:=h',toks:=t'}:=
 I.write (x:=a) (e:=a) mu (.inl rfl) (fun b q hb z=>(hs.2 b hb).trans z) he new
def Z4x {w:Ak}   {kvs:M (B0×V)}{vs:M (B0×Ad)}(z:kvs.length<=sizeLine)(hd:(a==sysModules)=false)(rel:KV kvs vs)(dd:h'.DictOf (M8 P w) a vs):
  ObjOk P w H' h' a (.dK kvs):=⟨z,hd,vs,rel,dd⟩
theorem W5n {Q:Unit->Ae->Prop}(hu:A.units+1<cLine)(I:?B)(g:Q4d H a y v H')(ry:C2 y u)(rv:C2 v r)(h:∀s',A1 X af σ H' s'->Q () s'):
  wpAny ?C A (setItem (.ref a) u r) Q E s:=by
 rcases g with⟨kvs,k,e,ey,l,eH⟩ |⟨kvs,k,b,e,ey,eb,l,eH⟩
 ·subst ey eH;obtain⟨z,hd,vs,rel,dd⟩:=Z0y I.hok e;have hz:vs.length<=sizeLine:=by rw[<-rel.length];exact z
  have hl:(P8 kvs k v).length<=sizeLine:=by have:=Q8z kvs k v;lia
  refine wpAny_setItem_pairs (hsz:=hz) (Q4o ry) dd fun h' jv hs=>h _ ?_;have he:∃q,h'.get? a=some q:=let ⟨q,_,_,hq,_⟩:=jv;⟨q,hq⟩;exact Q5p I (by rw[e];exact True.intro) hs he (Z4x hl hd (rel.put k rv) jv)
 ·subst ey eH;cases (show u=Value.ref b from ry);obtain⟨z,hd,xs,rel,dd⟩:=Y3i I.hok e;have hz:xs.length<=sizeLine:=by rw[<-jA rel];exact z
  have hl:(P8 kvs k v).length<=sizeLine:=by have:=Q8z kvs k v;lia
  refine wpAny_setItem_heap (hsz:=hz) (fI hu) (Q7i I.hok eb) dd fun h' jv hs=>h _ ?_;obtain⟨q,es,ep,hq,h2,h3,h4,_,h5⟩:=jv;refine Q5p I (by rw[e];exact True.intro) hs ⟨q,hq⟩ ⟨hl,hd,_,(rel.put k eb rv).keeps fun c ys ec=>?_,q,es,ep,hq,h2,h3,h4,h5⟩;rw[A7 (Q0z ec e (fun z=>nomatch z))];exact ec
end
def Q8k (i:Ag):Prop:=∀ov iv,subscripted i false ov iv=operate [ov,iv] (getItem ov iv)
def V6s {w:Ak}{A:Ah}   {env:Env}{value slice:Ag}  {id:String} 
  (hl:typeLookup (.type T) "__getitem__"=pure (some (.builtin id))) (hs:Q8k slice)
  (h:wpAny (model prog w) A (eval value env) (fun o s₁=>wpAny (model prog w) A (eval slice env) (fun i s₂=>s₂.TypeIs o T/\wpAny (model prog w) A (getItem o i) Q E s₂) E s₁) E s):
  wpAny (model prog w) A (eval (.Subscript value slice pos) env) Q E s:=by
 refine Subscript_ (aE h (fun o s₁ h₁=>aE h₁ (fun i s₂ h₂=>?_) fun _ _ x=>x) fun _ _ x=>x);obtain⟨hT,h₂⟩:=h₂;unfold subscriptTail;refine aa ?_;rw[getitemInPython_of_ne hT.not_modules];refine aa (fh hT hl ?_);have fin:wpAny (model prog w) A (subscripted slice false o i) (fun r s₃=>wpAny (model prog w) A (letTemporaryGo value o r>>=fun _=>pure r) Q E s₃) E s₂:=by
  rw[hs o i];exact wpAny_operating (aE h₂ (fun r s₃ h₃=>aa (wpAny_letTemporaryGo (aj h₃))) fun _ _ x=>x)
 first
  |exact aj (aa fin)
  |exact aa (aj (aa fin))
  |exact aa fin
def W5r {σ:St}     {o:Ac V}(I:?B)(g:Z3 H a y o):s.TypeIs (.ref a) "dict":=by
 rcases g with⟨kvs,k,e,_,_⟩ |⟨kvs,k,b,e,_,_,_⟩
 ·obtain⟨_,_,vs,_,dd⟩:=Q7c I.hok e;exact dd.typeIs
 ·obtain⟨_,_,xs,_,dd⟩:=Q7d I.hok e;exact dd.typeIs
def V6w (td ty:TE):TE:=fun σ H Q=>td σ H fun x H1=>ty σ H1 fun y H2=>∃a v,x=.ref a/\Z3 H2 a y (some v)/\Q v H2
def V6z (ty td:TE):TE:=fun σ H Q=>ty σ H fun y H1=>td σ H1 fun x H2=>∃a o,x=.ref a/\Z3 H2 a y o/\Q (.bl (!o.isSome)) H2
def V4o (td ty tv:TE):TS:=fun D σ H=>tv σ H fun v H1=>td σ H1 fun x H2=>ty σ H2 fun y H3=>∃a H4,x=.ref a/\Q4d H3 a y v H4/\D.nx σ H4
section
variable {o i value:Ag}{tv:TE}
def Z6y (hu:X.A.units+1<cLine)(ho:PE X o td)(hi:PE X i ty)(hs:Q8k i):PE X (.Subscript o i pos) (V6w td ty):=by
 intro af s σ H Q I h;refine V6s PySem.F.slot_dict_getitem.lookup hs (B3 (ho af s σ H _ I h) fun u s1 ⟨x,H1,I1,rx,q1⟩=>B3 (hi af s1 σ H1 _ I1 q1) fun iv s2 bG=>?_);obtain⟨y,H2,I2,ry,a,v,ex,g,q2⟩:=bG;subst ex;obtain rfl:u=Value.ref a:=rx;exact⟨W5r I2 g,W5l hu I2 g ry fun w' s3 I3 jd=>⟨v,H2,I3,jd,q2⟩⟩
def Y6w (hu:X.A.units+1<cLine)(hi:PE X i ty)(ho:PE X o td):PC X .NotIn i o (V6z ty td):=by
 intro af s σ H Q I h;refine B3 (hi af s σ H _ I h) fun iv s1 ⟨y,H1,I1,ry,q1⟩=>B3 (ho af s1 σ H1 _ I1 q1) fun u s2 bG=>?_;obtain⟨x,H2,I2,rx,a,ov,ex,g,q2⟩:=bG;subst ex;obtain rfl:u=Value.ref a:=rx;exact W5m hu I2 g ry fun s3 I3=>⟨.bl (!ov.isSome),H2,I3,rfl,q2⟩
def Y7n (hu:X.A.units+1<cLine)(ho:PE X o td)(hi:PE X i ty)(hv:PE X value tv)(hs:swapsWith value (some (.Subscript o i cn)) pos.line X.env=pure false):
  PS X (.Assign [.Subscript o i cn] value pos) (V4o td ty tv):=by
 intro af s σ H D I h;refine wpAny_Assign_Subscript (B3 (hv af s σ H _ I h) fun r s1 ⟨v,H1,I1,rv,q1⟩=>B3 (ho af s1 σ H1 _ I1 q1) fun u s2 ⟨x,H2,I2,rx,q2⟩=>B3 (hi af s2 σ H2 _ I2 q2) fun iv s3 bG=>?_) hs;obtain⟨y,H3,I3,ry,a,H4,ex,g,q3⟩:=bG;subst ex;obtain rfl:u=Value.ref a:=rx;exact W5n hu I3 g ry rv fun s4 I4=>⟨σ,H4,I4,q3⟩
end
def Y3h {w:Ak}  (h:Heap)(hb:sysModules<h.objs.size):ObjOk P w H (h.push {cls:=.type "dict",data:=.dict #[]}) h.objs.size (.dK []):=
 ⟨bz _,cc.mpr (bY (ax hb)),[],.nil,Heap.DictOf.new h⟩
def W5v {w:Ak}  (h:Heap)(hb:sysModules<h.objs.size):ObjOk P w H (h.push {cls:=.type "dict",data:=.dict #[]}) h.objs.size (.dT []):=
 ⟨bz _,cc.mpr (bY (ax hb)),[],.nil,_,#[],0,aD _ rfl,⟨rfl,rfl,rfl⟩,rfl,rfl,dM⟩
def V6y:TE:=fun _ H Q=>∀p,H p=none->Q (.ref p) (A6 H p (.dK []))
def V1r:PE X (.Dict [] [] pos) V6y:=fun af s σ H Q I h=>
 wpAny_Dict_empty ⟨.ref s.heap.objs.size,_,I.laid (a:=s.heap.objs.size) (o:=.dK []) (t':=s.toks) (fun _ _ q=>ae _ q) (ao _) (Y3h s.heap I.big),rfl,h _ (I.hok.fresh (ao _))⟩
def Z2v:M (TE×TE)->St->Hp->(M (V×V)->Hp->Prop)->Prop
 |[],_,H,Q=>Q [] H
 |(tk,tv)::r,σ,H,Q=>tk σ H fun x H1=>tv σ H1 fun y H2=>Z2v r σ H2 fun ps H3=>Q ((x,y)::ps) H3
abbrev VV:M (V×V)->M (Ad×Ad)->Prop:=Paired fun p q=>C2 p.1 q.1/\C2 p.2 q.2
def PPs (X:Cx)(pos:Pos)(keys:M (Ac Ag))(values:M Ag)(iT:M (TE×TE)):Prop:=
 ∀(af:Pn9) (s:Ae) (σ:St) (H:Hp) (Q:M (V×V)->Hp->Prop),?B->Z2v iT σ H Q ->
  wpAny ?C X.A (evalPairs (pairTrees keys values X.env pos)) (fun vs s'=>∃ps H',A1 X af σ H' s'/\VV ps vs/\Q ps H') X.xe s
def Y7l:PPs X pos [] [] []:=fun af s σ H Q I h=>pairTrees_nil_walk ⟨[],H,I,.nil,h⟩
def Y7k {k v:Ag}  {vs:M Ag}{tk tv:TE}  (hk:PE X k tk)(hv:PE X v tv)(hr:PPs X pos ks vs iT):
  PPs X pos (some k::ks) (v::vs) ((tk,tv)::iT):=fun af s σ H Q I h=>
 pairTrees_cons_walk (B3 (hk af s σ H _ I h) fun u s1 ⟨x,H1,I1,rx,q1⟩=>B3 (hv af s1 σ H1 _ I1 q1) fun w2 s2 ⟨y,H2,I2,ry,q2⟩=>
  B3 (hr af s2 σ H2 _ I2 q2) fun ws s3 ⟨ps,H3,I3,rel,q3⟩=>⟨(x,y)::ps,H3,I3,.cons ⟨rx,ry⟩ rel,q3⟩)
def Q3w (kvs more:M (B0×V)):M (B0×V):=more.foldl (fun c6 kv=>P8 c6 kv.1 kv.2) kvs
theorem KV.merge:∀{more:M (B0×V)}{rs:M (B0×Ad)}{kvs:M (B0×V)}{vs:M (B0×Ad)},KV more rs->KV kvs vs->KV (Q3w kvs more) (merged vs rs):=by
 intro more rs kvs vs r;unfold KV at r
 induction r generalizing kvs vs with
 |nil=>intro q;exact q
 |@cons p q ps qs h t ih=>
  intro r0;have e:KV (P8 kvs p.1 p.2) (stored vs q.1 q.2):=by
   have:=r0.put p.1 h.2;rw[<-h.1];exact this
  exact ih e
theorem W8s:∀(more kvs:M (B0×V)),(Q3w kvs more).length<=kvs.length+more.length:=by intro more;induction more<;>grind [P8,Q8z,Q3w,aN]
theorem Y2n {P:Aj}{w:Ak}:∀{kvs:M (B0×V)}{ws:M (Ad×Ad)},VV (kvs.map fun kv=>(kV kv.1,kv.2)) ws->∃rs,Carries (M8 P w) ws rs/\KV kvs rs
 |[],_,r=>by rw[cu]at r;cases r;exact⟨[],True.intro,.nil⟩
 |p::kvs,_,r=>by
  rw[ar]at r;cases r with
  |@cons a b as bs h t=>
   obtain⟨rs,c,q⟩:=Y2n (P:=P) (w:=w) t;obtain⟨b1,b2⟩:=b;exact⟨(p.1,b2)::rs,⟨Q4o h.1,rfl,c⟩,.cons ⟨rfl,h.2⟩ q⟩
def V7a (iT:M (TE×TE)):TE:=fun σ H Q=>∀p,H p=none->Z2v iT σ (A6 H p (.dK [])) fun ps H2=>H2 p=some (.dK [])/\∃kvs:M (B0×V),ps=kvs.map (fun kv=>(kV kv.1,kv.2))/\kvs.length<=15/\Q (.ref p) (A6 H2 p (.dK (Q3w [] kvs)))
theorem Y6z (h:PPs X pos keys values iT)(mW:keys.all (·.isSome)=true)(hl:keys.length=values.length)(h0:keys≠[])
  (sT:keys.length<=15):PE X (.Dict keys values pos) (V7a iT):=by
 intro af s σ H Q I q;have hn:=I.hok.fresh (ao s.heap.objs.size);have I1:=I.laid (a:=s.heap.objs.size) (o:=.dK []) (h':=s.heap.push {cls:=.type "dict",data:=.dict #[]}) (t':=s.toks) (fun _ _ q=>ae _ q) (ao _) (Y3h s.heap I.big);refine wpAny_Dict_walk (knd:=M8 X.prog X.w) mW hl h0 sT (B3 (h af _ σ _ _ I1 (q _ hn)) fun ws s2 bG=>?_);obtain⟨ps,H2,I2,rel,e,kvs,ep,lk,q2⟩:=bG;subst ep;obtain⟨rs,c,rk⟩:=Y2n (P:=X.prog) (w:=X.w) rel;obtain⟨z,hd,yz,r0,dd⟩:=Z0y I2.hok e;cases r0;refine⟨rs,c,dd,fun h' jv hs=>⟨.ref s.heap.objs.size,_,?_,rfl,q2⟩⟩;have hz:(Q3w [] kvs).length<=sizeLine:=by
  have h1:=W8s kvs [];rw[eF]at h1;rw[cT];lia
 have he:∃q,h'.get? s.heap.objs.size=some q:=let ⟨q,_,_,hq,_⟩:=jv;⟨q,hq⟩;exact Q5p I2 (by rw[e];exact True.intro) hs he (Z4x hz hd (rk.merge .nil) jv)
structure M1 (X:Cx)(o:Ag)(m:Str)(apos:Pos)(e:Ag)(bV:Pos):Prop where
 base:attributeBase o m X.env (eval o X.env)=eval o X.env
 few:((backTo bV (starEach [e] X.env)).all (fun x=>!x.1)&&(backToKw bV (keywordEach [] X.env)).all (fun x=>x.1.isSome)
 &&decide (([e]:M Ag).length+([]:M Keyword).length+(if ([]:M Keyword).isEmpty then 0 else 1)<30))=true
 line:(apos.endLine==bV.line)=true
 trees:backTo bV (starEach [e] X.env)=[(false,eval e X.env)]
structure M2 (X:Cx)(o:Ag)(m:Str)(apos:Pos)(e f:Ag)(bV:Pos):Prop where
 base:attributeBase o m X.env (eval o X.env)=eval o X.env
 few:((backTo bV (starEach [e,f] X.env)).all (fun x=>!x.1)&&(backToKw bV (keywordEach [] X.env)).all (fun x=>x.1.isSome)
 &&decide (([e,f]:M Ag).length+([]:M Keyword).length+(if ([]:M Keyword).isEmpty then 0 else 1)<30))=true
 line:(apos.endLine==bV.line)=true
 trees:backTo bV (starEach [e,f] X.env)=[(false,eval e X.env),(false,eval f X.env)]
def IsD (H:Hp)(a:Af):Prop:=(∃kvs,Rd H a (.dK kvs))\/∃kvs,Rd H a (.dT kvs)
def Y4l {σ:St}    (I:?B)(d:IsD H a):
  s.TypeIs (.ref a) "dict"/\(∀b,Value.ref a=.ref b->∃ob,s.heap.get? b=some ob/\ob.dict=none)/\(a==sysModules)=false:=by
 rcases d with⟨kvs,e⟩ |⟨kvs,e⟩
 ·obtain⟨_,hd,vs,_,dd⟩:=Q7c I.hok e;refine⟨dd.typeIs,fun b q=>?_,hd⟩;cases q;obtain⟨ob,_,_,h1,h2,_⟩:=dd;exact⟨ob,h1,h2.2.1⟩
 ·obtain⟨_,hd,xs,_,dd⟩:=Q7d I.hok e;refine⟨dd.typeIs,fun b q=>?_,hd⟩;cases q;obtain⟨ob,_,_,h1,h2,_⟩:=dd;exact⟨ob,h1,h2.2.1⟩
section
variable {σ:St}{o:Ac V}{A:Ah}
def W5k (hu:A.units+1<cLine)(I:?B)(g:Z3 H a y o)(ry:C2 y u)(h:∀w' s',A1 X af σ H s'->C2 (o.getD .non) w'->Q w' s'):
  wpAny ?C A (call (.builtin "dict.get") [.ref a,u]) Q E s:=by
 rcases g with⟨kvs,k,e,ey,l⟩ |⟨kvs,k,b,e,ey,eb,l⟩
 ·subst ey;obtain⟨z,hd,vs,rel,dd⟩:=Q7c I.hok e;refine yV g9 dd.typeIs nE (na _ _) (meets_dict_get (M8 X.prog X.w) a (Q4o ry) hd) ⟨_,dd.mapOf,h _ _ (I.tok _) ?_⟩;rw[l];exact(rel.val k).getD rfl
 ·subst ey;cases (show u=Value.ref b from ry);obtain⟨z,hd,xs,rel,dd⟩:=Q7d I.hok e;refine yV g9 dd.typeIs nE (na _ _) (meetsH_dict_get (tupleKind (M8 X.prog X.w)) a b hd) ⟨fI hu,k,xs,Q7i I.hok eb,dd,h _ _ (I.tok _) ?_⟩;rw[l];exact(rel.val k).getD rfl
end
def V6x (td ty:TE):TE:=fun σ H Q=>td σ H fun x H1=>∃a,x=.ref a/\IsD H1 a/\ty σ H1 fun y H2=>∃o,Z3 H2 a y o/\Q (o.getD .non) H2
section
variable {o:Ag}
def V1o (hu:X.A.units+1<cLine)(ho:PE X o td)(he:PE X e ty)(m:M1 X o "get" apos e bV):PE X (.Call (.Attribute o "get" apos) [e] [] bV) (V6x td ty):=by
 intro af s σ H Q I h;refine g6 m.base m.few m.line fC g9 PySem.F.type_dict_get (B3 (ho af s σ H _ I h) fun u s1 bG=>?_);obtain⟨x,H1,I1,rx,a,ex,d,q1⟩:=bG;subst ex;obtain rfl:u=Value.ref a:=rx;obtain⟨t1,t2,_⟩:=Y4l I1 d;refine⟨t1,t2,?_⟩;rw[m.trees];refine cS rfl (cB (bR (B3 (he af s1 σ H1 _ I1 q1) fun iv s2 ⟨y,H2,I2,ry,ov,g,q2⟩=>cG ?_)));exact W5k hu I2 g ry fun w' s3 I3 jd=>⟨_,H2,I3,jd,q2⟩
end
namespace Att
open PySem PySem.W PySem.Calls PyProof.Rows
theorem W7e {P:Params}:∀(ns:M Int) (vs:M Ad),WellAll P h vs (ns.map WData.int)->IntsAre vs ns:=by
 intro ns
 induction ns with
 |nil=>
  intro vs w;rw[cu]at w;cases w;exact .nil
 |cons n ns ih=>
  intro vs w;rw[ar]at w;cases w with
  |cons a b=>
   cases a;exact .cons _ _ (ih _ b)
theorem V5r {l:OpenLaw}  (hn:l.most=some n){P:Params}  {args:M WData}{ja:M Ad}
  (kU:l.row.toRowW.claim.pre args=true) (rJ:WellAll P h ja args):
  ∃a vs ns,ja=[Value.ref a]/\args=[WData.list (ns.map WData.int)]/\h.get? a=some {cls:=.type "list",data:=.seq vs.toArray}/\IntsAre vs ns/\ns.length<=n:=by
 have wx:WShape.hasAll [] args [.list .int]=true:=(pre_splitW kU).1;have hc:l.pre.holds [] {args:=args}=true:=(pre_splitW kU).2;obtain⟨d,r,rfl,h1,h2⟩:=hasAllW_cons wx;obtain rfl:=hasAllW_nil h2;obtain⟨xs,rfl,h3⟩:=hasW_list h1;obtain⟨ns,rfl⟩:=items_int h3;have ck:ns.length<=n:=by
  unfold OpenLaw.pre at hc;have h4:(WTm.not (.lt (.lit (.int (n:Int))) (.len (.arg 0)))).holds [] {args:=[.list (ns.map .int)]}=true:=by
   have h4:=(holds_andW hc).1;rw[hn]at h4;exact h4
  have h5:=condW_of h4 (w_not (w_lt w_lit (w_len_list (w_arg rfl))));rw[ag]at h5;refine Nat.le_of_not_lt fun q=>?_;have q':(n:Int)<((ns.length:Nat):Int):=by lia
  first
   |(rw[cH q']at h5;exact absurd h5 (?K))
   |(simp at h5;lia)
 cases rJ with
 |cons w1 w2=>
  cases w2;cases w1 with
  |list ho mW=>exact⟨_,_,ns,rfl,rfl,ho,W7e ns _ mW,ck⟩
def V2i (l:OpenLaw)(args:M WData):l.row.toRowW.claim.post args (.bool true) args=true:=
 postW_of (r:=l.row.toRowW) (X:=(true==true))
  (show WShape.has [] (.bool true) .bool=true by first |rfl |decide |simp[WShape.has,WShape.arms,WShape.armsAll])
  (show(WTm.eq .res (.lit (.bool true))).value [] {args:=args,res:=some (.bool true),after:=args}=some (.bool (true==true))from w_eq_bool (w_res rfl) w_lit) rfl
def attach_call {l:OpenLaw}      {d:DefRec}
  (hn:l.most=some n) (l7:d.params.defaults=[])
  (call:∀(w:Ak) (s₀ s₁:Ae) (mg mb:Str->Ac Ad) (fa:Af) (o:Obj) (pm cd doc:Ad) (a:Af) (vs:M Ad) (ns:M Int),
   Ground q iY [] XP w s₀ mg mb s₁.heap->YP w s₁.heap ->
   s₁.heap.get? fa=some o->o.data=.func (docDef d.name d.params d.body d.scope pm cd doc)->s₁.heap.CodeRec cd d.name->mg d.name=some (.ref fa) ->
   s₁.heap.get? a=some {cls:=.type "list",data:=.seq vs.toArray}->IntsAre vs ns->ns.length<=n->s₁.gens=#[] ->
   codeAny (model l.prog w) callerA (.call (.ref fa) ⟨[.ref a],[]⟩) (fun r s'=>r=.ok (.ret (.bool true))/\OldK s₁.heap s'.heap/\s'.os=s₁.os/\AllBare s'.gens) s₁):
  WalkO q iY XP YP l.row.toRowW d [] (fun f vs=>PySem.call f vs):=by
 intro w s₀ s₁ mg mb G Y fa o pm cd doc dV kV ho hd fS hD oq hg args ja as kU wK yF rJ yI;obtain rfl:dV=.none:=Dflts.none hD l7;obtain rfl:kV=.none:=Dflts.noKw hD;obtain⟨a,vs,ns,rfl,rfl,mK,ic,ck⟩:=V5r hn kU rJ;refine enter_call (lv (call w s₀ s₁ mg mb fa o pm cd doc a vs ns G Y ho (fd_plain hd) fS oq mK ic ck hg) fun r s' hq=>?_);obtain⟨rfl,h2,h3,h4⟩:=hq;exact⟨.inl ⟨.bool true,.bool true,[],rfl,fun _=>rfl,.bool true,V2i l _,fun _=>⟨List.Pairwise.nil,fun _ hm=>(nomatch hm)⟩⟩,h2,h3,h4⟩
end Att
theorem W0g:∀{vs:M Ad}{ns:M Int},IntsAre vs ns->C4 (ns.map V.int) vs
 |_,_,.nil=>.nil
 |_,_,.cons n t h=>.cons ⟨t,rfl⟩ (W0g h)
def Z1 (s:Al):Arguments:=match s with
 |.FunctionDef _ a _ _ _ _ _ _ _ _=>a
 |_=>{posonlyargs:=[],args:=[],vararg:=none,kwonlyargs:=[],kw_defaults:=[],kwarg:=none,defaults:=[]}
def M4 (s:Al):M Al:=match s with
 |.FunctionDef _ _ b _ _ _ _ _ _ _=>b
 |_=>[]
def C0 (s:Al):Scope:=match s with
 |.FunctionDef _ _ _ _ _ _ sc _ _ _=>sc
 |_=>{kind:=.function,names:=[],isGenerator:=false,isCoroutine:=false}
abbrev G8:CXT:=fun _ _ _ _ _ _=>False
abbrev E0:XK:=fun _ _ _=>False
def Z2d:Z4d G8 X E0:=fun _ _ _ _ _ _ _ h=>h.elim
structure Fun (K:Fg9)(x qual:Str)(st:Al)(f:Af)(fd:Ai):Prop where
 ex:∃(oc:Ad) (od:Ac Af) (kV doc pm:Ad) (an:Ac Af) (cdv ct:Ad) (fV:Array (Ac Ad)),
  fd=PySem.W.fnOf x qual (Z1 st) (M4 st) (C0 st) .none kV doc pm an cdv ct/\K.lookup f=some ⟨oc,od,.func fd,fV⟩/\PySem.W.codeIn K cdv qual=true
 kp:PySem.W.keepIn K (.ref f)=true
section
variable {w:Ak}
def Fun.ok {k:Nat}{sp:Sp}(F:Fun K x qual st f fd)(S:Z4 N ps (C0 st))(len:∀vs H Q E,sp vs H Q E->vs.length=ps.length)
  (bQ:∀(cdv:Ad) (A:Ah) (outer:M Env) (s:Ae) (H:Hp) (vs:M V) (Q:VK) (E:XK),E2 k (A.deeper (envOfC qual (C0 st) s.heap.objs.size f cdv))->sp vs H Q E ->
   ∃t,U7 (U8 G8 P w K mg base N qual (C0 st) f cdv A outer s H E).nox (M4 st) t/\t {nx:=fun _ H'=>Q .non H',rt:=Q} (start N vs) H):O8 P w K mg base G8 (k+1) f fd ps sp:=by
 obtain⟨oc,od,kV,doc,pm,an,cdv,ct,fV,rfl,lk,fS⟩:=F.ex;refine Z5c lk fS S len fun A outer s H vs Q E hr io=>?_;obtain⟨t,h,q⟩:=bQ cdv A outer s H vs Q E hr io;exact⟨t,h.nox,q⟩
def Fun.binds (F:Fun K x qual st f fd)
  (h:∀(kV doc pm:Ad) (an:Ac Af) (cdv ct:Ad) (us:M Ad),us.length=ps.length->bindArgs (PySem.W.fnOf x qual (Z1 st) (M4 st) (C0 st) .none kV doc pm an cdv ct) ⟨us,[]⟩=pure (ps.zip us)):S3 K fd ps []:=by
 obtain⟨oc,od,kV,doc,pm,an,cdv,ct,fV,rfl,lk,fS⟩:=F.ex;exact .all (h kV doc pm an cdv ct)
def W6j {kV:Ad}(l:K.lookup f=some ⟨oc,od,.func (PySem.W.fnOf x qual (Z1 st) (M4 st) (C0 st) .none kV doc pm an cdv ct),fV⟩)
  (c:PySem.W.codeIn K cdv qual=true) (k:PySem.W.keepIn K (.ref f)=true):Fun K x qual st f (PySem.W.fnOf x qual (Z1 st) (M4 st) (C0 st) .none kV doc pm an cdv ct):=⟨⟨oc,od,kV,doc,pm,an,cdv,ct,fV,rfl,l,c⟩,k⟩
end
def pv (i:Nat)   (hN:X.N[i]?=some x:=by rfl)(hv:Vis X.env.scope x:=by first |exact Or.inl rfl |exact Or.inr (Or.inl rfl) |exact Or.inr (Or.inr rfl))(hd:(x==("__debug__":Str))=false:=by decide)
  (fS:(x==("__classdict__":Str))=false:=by decide):PE X (.Name x pos) (S9 i):=V2e hN hv hd fS
def A4 (H H':Hp):Prop:=∀b o,H b=some o->H' b=some o
def A4.refl (H:Hp):A4 H H:=fun _ _ h=>h
def A4.trans (a:A4 H H1)(b:A4 H1 H2):A4 H H2:=fun c o h=>b c o (a c o h)
theorem A4.free (e:A4 H H')  (h:H' l=Option.none):H l=Option.none:=by
 cases q:H l with
 |none=>rfl
 |some o=>
  rw[e l o q]at h;cases h
def A4.seq (e:A4 H H')(h:G0 K H a xs):G0 K H' a xs:=by
 rcases h with(h |⟨o,h⟩) |h
 ·exact .inl (.inl (e _ _ h))
 ·exact .inl (.inr ⟨o,e _ _ h⟩)
 ·exact .inr h
abbrev S5:=St
variable {σ σ':S5}
inductive D where
 |non |bl (b:Bool) |int (i:Int) |str (x:Str) |tup (xs:List D) |lst (xs:List D)
def FzL (K:Fg9)(H:Hp)(a:Af)(xs:M V):Prop:=
 (∃o,H a=some (.frz o (.lst xs))) \/
  ∃(o:Obj) (bb:Array Ad) (n:Nat),K.lookup a=some o/\o.cls=.type "list"/\o.dict=none/\o.data=.seq bb n/\bb.size<=sizeLine/\C4 xs bb.toList
def FzL.sq (h:FzL K H a xs):G0 K H a xs:=by
 rcases h with⟨o,h⟩ |h
 ·exact .inl (.inr ⟨o,h⟩)
 ·exact .inr h
structure Kp (H H':Hp):Prop where
 tup:∀a xs,H a=some (.tup xs)->H' a=some (.tup xs)
 frz:∀a o u,H a=some (.frz o u)->H' a=some (.frz o u)
def Kp.refl (H:Hp):Kp H H:=⟨fun _ _ h=>h,fun _ _ _ h=>h⟩
def Kp.trans (a:Kp H H1)(b:Kp H1 H2):Kp H H2:=⟨fun c xs h=>b.tup c xs (a.tup c xs h),fun c o u h=>b.frz c o u (a.frz c o u h)⟩
def Kp.of (s:A4 H H'):Kp H H':=⟨fun a xs h=>s a _ h,fun a o u h=>s a _ h⟩
def Q6o (h:H a=some (.lst xs))(o:HO):Kp H (A6 H a o):=
 ⟨fun c ys q=>by rw[A7 (Q0z q h (by intro z;cases z))];exact q,fun c ob u q=>by rw[A7 (Q0z q h (by intro z;cases z))];exact q⟩
def Kp.sqT (k:Kp H H')   (h:E7 K H a xs):E7 K H' a xs:=by
 rcases h with(h |⟨o,h⟩) |h
 ·exact .inl (.inl (k.tup _ _ h))
 ·exact .inl (.inr ⟨o,k.frz _ _ _ h⟩)
 ·exact .inr h
def Kp.fzL (k:Kp H H')   (h:FzL K H a xs):FzL K H' a xs:=by
 rcases h with⟨o,h⟩ |h
 ·exact .inl ⟨o,k.frz _ _ _ h⟩
 ·exact .inr h
def K2 {p:Af}(h:H p=none)(o:HO):A4 H (A6 H p o):=fun b u q=>by rw[A7 (V0 q h)];exact q
mutual
def A3 (K:Fg9)(H:Hp):D->V->Prop
 |.non,v=>v=.non
 |.bl b,v=>v=.bl b
 |.int i,v=>v=.int i
 |.str x,v=>v=.str x
 |.tup ds,v=>∃a xs,v=.ref a/\H a=some (.tup xs)/\AllS K H ds xs
 |.lst ds,v=>∃a xs,v=.ref a/\FzL K H a xs/\AllS K H ds xs
def AllS (K:Fg9)(H:Hp):M D->M V->Prop
 |[],vs=>vs=[]
 |d::ds,vs=>∃v r,vs=v::r/\A3 K H d v/\AllS K H ds r
end
mutual
theorem A3.mono (k:Kp H H'):∀(d:D) (v:V),A3 K H d v->A3 K H' d v
 |.non,v,h=>h
 |.bl _,v,h=>h
 |.int _,v,h=>h
 |.str _,v,h=>h
 |.tup ds,v,h=>by
  unfold A3 at h ⊢;obtain⟨a,xs,e,q,r⟩:=h;exact⟨a,xs,e,k.tup _ _ q,AllS.mono k ds xs r⟩
 |.lst ds,v,h=>by
  unfold A3 at h ⊢;obtain⟨a,xs,e,q,r⟩:=h;exact⟨a,xs,e,k.fzL q,AllS.mono k ds xs r⟩
theorem AllS.mono (k:Kp H H'):∀(ds:M D) (vs:M V),AllS K H ds vs->AllS K H' ds vs
 |[],vs,h=>h
 |d::ds,vs,h=>by
  unfold AllS at h ⊢;obtain⟨v,r,e,q,t⟩:=h;exact⟨v,r,e,A3.mono k d v q,AllS.mono k ds r t⟩
end
theorem AllS.length:∀{ds:M D}{vs:M V},AllS K H ds vs->ds.length=vs.length:=by intro ds;induction ds<;>grind [AllS,aN]
theorem AllS.nil:AllS K H [] []:=by unfold AllS;rfl
theorem AllS.cons {d:D}{ds:M D}{v:V}  (h:A3 K H d v)(t:AllS K H ds vs):AllS K H (d::ds) (v::vs):=by
 unfold AllS;exact⟨v,vs,rfl,h,t⟩
theorem AllS.get:∀{ds:M D}{vs:M V}{i:Nat}{d:D},AllS K H ds vs->ds[i]?=some d->∃v,vs[i]?=some v/\A3 K H d v:=by intro ds;induction ds<;>grind [AllS]
theorem AllS.append:∀{ds es:M D}{vs us:M V},AllS K H ds vs->AllS K H es us->AllS K H (ds++es) (vs++us):=by intro ds;induction ds<;>grind [AllS,AllS.cons]
theorem AllS.ints:AllS K H (ns.map D.int) (ns.map V.int):=by induction ns<;>grind [AllS.nil,AllS.cons,A3]
def Q3k {i:Int}:A3 K H (.int i) (.int i):=by unfold A3;rfl
def Y1g {i:Bool}:A3 K H (.bl i) (.bl i):=by unfold A3;rfl
def Q6n {i:Str}:A3 K H (.str i) (.str i):=by unfold A3;rfl
def Q8i:A3 K H .non .non:=by unfold A3;rfl
def A3.s_tup {ds:M D}   (q:H a=some (.tup xs))(r:AllS K H ds xs):A3 K H (.tup ds) (.ref a):=by unfold A3;exact⟨a,xs,rfl,q,r⟩
def A3.s_lst {ds:M D}   (q:FzL K H a xs)(r:AllS K H ds xs):A3 K H (.lst ds) (.ref a):=by unfold A3;exact⟨a,xs,rfl,q,r⟩
def Q6r (Φ:Hp->Prop):Prop:=∀H H':Hp,Kp H H'->Φ H->Φ H'
inductive R where
 |st (d:D) |nw (ds:List D) |bw (ds:List D) |dk (kvs:List (B0×D)) |dt (kvs:List (List B0×D)) |ob (a:Addr) |cl (a:Addr) (Φ:Hp->Prop) |ms (a C:Addr) (d:D) (fs:List (Str×D))
def C9 (K:Fg9)(H:Hp):M (κ×D)->M (κ×V)->Prop
 |[],vs=>vs=[]
 |p::ps,vs=>∃v r,vs=(p.1,v)::r/\A3 K H p.2 v/\C9 K H ps r
theorem C9.mono (k:Kp H H'):∀(ps:M (κ×D)) (vs:M (κ×V)),C9 K H ps vs->C9 K H' ps vs
 |[],_,h=>h
 |p::ps,vs,h=>by
  obtain⟨v,r,e,q,t⟩:=h;exact⟨v,r,e,q.mono k _ _,C9.mono k ps r t⟩
def E1 (K:Fg9)(H0 H:Hp):R->V->Prop
 |.st d,v=>A3 K H d v
 |.nw ds,v=>∃a xs,v=.ref a/\H0 a=none/\H a=some (.lst xs)/\AllS K H ds xs
 |.bw ds,v=>∃a xs,v=.ref a/\H a=some (.lst xs)/\AllS K H ds xs
 |.dk kvs,v=>∃a ps,v=.ref a/\H a=some (.dK ps)/\C9 K H kvs ps
 |.dt kvs,v=>∃a ps,v=.ref a/\H a=some (.dT ps)/\C9 K H kvs ps
 |.ob a,v=>v=.ref a
 |.cl a Φ,v=>v=.ref a/\Φ H/\Q6r Φ
 |.ms a C d fs,v=>A3 K H d v/\∃dx vs,H a=some (.ins C dx vs)/\C9 K H fs vs
theorem E1.mono (s:A4 H H'):∀{r:R}{v:V},E1 K H0 H r v->E1 K H0 H' r v
 |.st d,v,h=>A3.mono (Kp.of s) d v h
 |.nw ds,v,h=>by obtain⟨a,xs,e,n,q,t⟩:=h;exact⟨a,xs,e,n,s _ _ q,t.mono (Kp.of s) _ _⟩
 |.bw ds,v,h=>by obtain⟨a,xs,e,q,t⟩:=h;exact⟨a,xs,e,s _ _ q,t.mono (Kp.of s) _ _⟩
 |.dk ds,v,h=>by obtain⟨a,xs,e,q,t⟩:=h;exact⟨a,xs,e,s _ _ q,t.mono (Kp.of s) _ _⟩
 |.dt ds,v,h=>by obtain⟨a,xs,e,q,t⟩:=h;exact⟨a,xs,e,s _ _ q,t.mono (Kp.of s) _ _⟩
 |.ob a,v,h=>h
 |.cl a Φ,v,h=>⟨h.1,h.2.2 _ _ (Kp.of s) h.2.1,h.2.2⟩
 |.ms a C d fs,v,h=>by obtain⟨h1,dx,vs,q,t⟩:=h;exact⟨h1.mono (Kp.of s) _ _,dx,vs,s _ _ q,t.mono (Kp.of s) _ _⟩
theorem E1.older (s:A4 H0 H1):∀{r:R}{v:V},E1 K H1 H r v->E1 K H0 H r v
 |.st d,v,h=>h
 |.nw ds,v,h=>by obtain⟨a,xs,e,n,q,t⟩:=h;exact⟨a,xs,e,s.free n,q,t⟩
 |.bw ds,v,h=>h
 |.dk ds,v,h=>h
 |.dt ds,v,h=>h
 |.ob a,v,h=>h
 |.cl _ _,v,h=>h
 |.ms _ _ _ _,v,h=>h
def LO (b:Af)(xs:M V):Heap->Prop:=fun h=>xs.length<=sizeLine/\∃(bb:M Ad) (n:Nat),C4 xs bb/\h.get? b=some {cls:=.type "list",data:=.seq bb.toArray n}
def M0 (K:Fg9)(H:Hp):M Af->M (M D)->Prop
 |[],dss=>dss=[]
 |b::bs,dss=>∃ds r,dss=ds::r/\(∃xs,H b=some (.ext (LO b xs))/\AllS K H ds xs)/\M0 K H bs r
def Q6p (K:Fg9)(H0 H:Hp)(a:Af)(dss:M (M D)):Prop:=∃bs,(H a=some (.ext (LO a (bs.map V.ref)))/\H0 a=none/\a∉bs)/\bs.Nodup/\(∀b∈bs,H0 b=none)/\M0 K H bs dss
theorem M0.keep (k:Kp H H')(x:∀b φ,H b=some (.ext φ)->H' b=some (.ext φ)):∀{bs:M Af}{dss:M (M D)},M0 K H bs dss->M0 K H' bs dss
 |[],_,h=>h
 |b::bs,_,h=>by obtain⟨ds,r,e,⟨xs,q,al⟩,t⟩:=h;exact⟨ds,r,e,⟨xs,x _ _ q,al.mono k _ _⟩,M0.keep k x t⟩
def Q6p.keep {dss:M (M D)}(h:Q6p K H0 H a dss)(k:Kp H H')(x:∀b φ,H b=some (.ext φ)->H' b=some (.ext φ)):Q6p K H0 H' a dss:=by
 obtain⟨bs,⟨q,q2⟩,n,f,t⟩:=h;exact⟨bs,⟨x _ _ q,q2⟩,n,f,t.keep k x⟩
inductive Sl where
 |dat (d:D) |own (ds:List D) |bor (ds:List D) |dk (kvs:List (B0×D)) |dt (kvs:List (List B0×D)) |bd (kvs:List (List B0×D)) |ob (a:Addr) |cl (a:Addr) (Φ:Hp->Prop) |ll (a:Addr) (dss:List (List D)) |ins (a C:Addr) (fs:List (Str×D))
variable {o0 o1 o2 o5 o7 o4 o3 o6:Ac Sl}
abbrev B5:=M (Ac Sl)
variable {τ rest:B5}
def Sl.mut:Sl->Bool
 |.own _=>true
 |.dk _=>true
 |.dt _=>true
 |.ins _ _ _=>true
 |_=>false
def SlR (K:Fg9)(H0 H:Hp):Sl->V->Prop
 |.dat d,v=>A3 K H d v
 |.own ds,v=>∃a xs,v=.ref a/\H0 a=none/\H a=some (.lst xs)/\AllS K H ds xs
 |.bor ds,v=>∃a xs,v=.ref a/\H0 a=some (.lst xs)/\AllS K H ds xs
 |.dk kvs,v=>∃a ps,v=.ref a/\H0 a=none/\H a=some (.dK ps)/\C9 K H kvs ps
 |.dt kvs,v=>∃a ps,v=.ref a/\H0 a=none/\H a=some (.dT ps)/\C9 K H kvs ps
 |.bd kvs,v=>∃a ps,v=.ref a/\H0 a=some (.dT ps)/\C9 K H kvs ps
 |.ob a,v=>v=.ref a
 |.cl a Φ,v=>v=.ref a/\Φ H/\Q6r Φ
 |.ll a dss,v=>v=.ref a/\Q6p K H0 H a dss
 |.ins a C fs,v=>v=.ref a/\H0 a=none/\∃dx vs,H a=some (.ins C dx vs)/\C9 K H fs vs
theorem SlR.mono (s:A4 H H'):∀{r:Sl}{v:V},SlR K H0 H r v->SlR K H0 H' r v
 |.dat d,v,h=>A3.mono (Kp.of s) d v h
 |.own ds,v,h=>by obtain⟨a,xs,e,n,q,t⟩:=h;exact⟨a,xs,e,n,s _ _ q,t.mono (Kp.of s) _ _⟩
 |.bor ds,v,h=>by obtain⟨a,xs,e,q,t⟩:=h;exact⟨a,xs,e,q,t.mono (Kp.of s) _ _⟩
 |.bd ds,v,h=>by obtain⟨a,xs,e,q,t⟩:=h;exact⟨a,xs,e,q,t.mono (Kp.of s) _ _⟩
 |.dk ds,v,h=>by obtain⟨a,xs,e,n,q,t⟩:=h;exact⟨a,xs,e,n,s _ _ q,t.mono (Kp.of s) _ _⟩
 |.dt ds,v,h=>by obtain⟨a,xs,e,n,q,t⟩:=h;exact⟨a,xs,e,n,s _ _ q,t.mono (Kp.of s) _ _⟩
 |.ob a,v,h=>h
 |.cl a Φ,v,h=>⟨h.1,h.2.2 _ _ (Kp.of s) h.2.1,h.2.2⟩
 |.ll a dss,v,h=>⟨h.1,h.2.keep (Kp.of s) fun b φ q=>s _ _ q⟩
 |.ins a C fs,v,h=>by obtain⟨e,n,dx,vs,q,t⟩:=h;exact⟨e,n,dx,vs,s _ _ q,t.mono (Kp.of s) _ _⟩
structure B6 (K:Fg9)(H0:Hp)(τ:B5)(σ:S5)(H:Hp):Prop where
 len:τ.length=σ.length
 same:A4 H0 H
 here:∀(i:Nat) (s:Sl),τ[i]?=some (some s)->∃v,σ[i]?=some (some v)/\SlR K H0 H s v
 apart:∀(i j:Nat) (s t:Sl) (v:V),i≠j->τ[i]?=some (some s)->τ[j]?=some (some t)->s.mut=true->t.mut=true->σ[i]?=some (some v)->σ[j]?=some (some v)->False
def B6.mono (h:B6 K H0 τ σ H)(s:A4 H H'):B6 K H0 τ σ H':=
 ⟨h.len,h.same.trans s,fun i sl e=>let ⟨v,q,r⟩:=h.here i sl e;⟨v,q,r.mono s⟩,h.apart⟩
abbrev WE:=B5->(R->Prop)->Prop
variable {wa wb we wv:WE}
def Z5y (K:Fg9)(H0:Hp)(w:WE):TE:=fun σ H Q=>∃ τ,B6 K H0 τ σ H/\w τ fun r=>∀v H',A4 H H'->E1 K H H' r v->Q v H'
structure DE (X:Cx)(H0:Hp)(e:Ag)(w:WE):Prop where
 mono:∀(τ:B5) (P Q:R->Prop),(∀r,P r->Q r)->w τ P->w τ Q
 pe:PE X e (Z5y X.K H0 w)
abbrev WT:=B5->(Bool->Prop)->Prop
def Z5z (K:Fg9)(H0:Hp)(w:WT):TT:=fun σ H Q=>∃ τ,B6 K H0 τ σ H/\w τ fun b=>∀H',A4 H H'->Q b H'
structure DT (X:Cx)(H0:Hp)(e:Ag)(w:WT):Prop where
 mono:∀(τ:B5) (P Q:Bool->Prop),(∀r,P r->Q r)->w τ P->w τ Q
 pt:PT X e (Z5z X.K H0 w)
structure DW (X:Cx)(H0:Hp)(e:Ag)(w:WT):Prop where
 mono:∀(τ:B5) (P Q:Bool->Prop),(∀r,P r->Q r)->w τ P->w τ Q
 pw:PW X e (Z5z X.K H0 w)
abbrev WA:=B5->(M R->Prop)->Prop
variable {wr:WA}
def M9 (K:Fg9)(H0 H:Hp):M R->M V->Prop
 |[],vs=>vs=[]
 |r::rs,vs=>∃v t,vs=v::t/\E1 K H0 H r v/\M9 K H0 H rs t
def W8u (K:Fg9)(H0:Hp)(w:WA):TA:=fun σ H Q=>∃ τ,B6 K H0 τ σ H/\w τ fun rs=>∀vs H',A4 H H'->M9 K H H' rs vs->Q vs H'
structure DA (X:Cx)(H0:Hp)(es:M Ag)(w:WA):Prop where
 len:∀(τ:B5) (Q:M R->Prop),w τ Q->w τ fun rs=>rs.length=es.length/\Q rs
 mono:∀(τ:B5) (P Q:M R->Prop),(∀r,P r->Q r)->w τ P->w τ Q
 pa:PA X es (W8u X.K H0 w)
structure J4 where
 nx:B5->Prop
 rt:R->Prop
 bk:B5->Prop
 ct:B5->Prop
abbrev WS:=J4->B5->Prop
structure J4.Le (E F:J4):Prop where
 nx:∀ τ,E.nx τ->F.nx τ
 rt:∀r,E.rt r->F.rt r
 bk:∀ τ,E.bk τ->F.bk τ
 ct:∀ τ,E.ct τ->F.ct τ
def P0 (K:Fg9)(H0 Hs:Hp)(D:Q5g):J4 where
 nx:=fun τ=>∀ σ H,Kp Hs H->B6 K H0 τ σ H->D.nx σ H
 rt:=fun r=>∀v H,A4 H0 H->E1 K H0 H r v->D.rt v H
 bk:=fun τ=>∀ σ H,Kp Hs H->B6 K H0 τ σ H->D.bk σ H
 ct:=fun τ=>∀ σ H,Kp Hs H->B6 K H0 τ σ H->D.ct σ H
def Z1n {D:Q5g}(k:Kp H H1):(P0 K H0 H D).Le (P0 K H0 H1 D):=
 ⟨fun τ h σ H2 k2 hR=>h σ H2 (k.trans k2) hR,fun _ h=>h,fun τ h σ H2 k2 hR=>h σ H2 (k.trans k2) hR,fun τ h σ H2 k2 hR=>h σ H2 (k.trans k2) hR⟩
def Y4z (K:Fg9)(H0:Hp)(w:WS):TS:=fun D σ H=>∃ τ,B6 K H0 τ σ H/\w (P0 K H0 H D) τ
structure DS (X:Cx)(H0:Hp)(st:Al)(w:WS):Prop where
 mono:∀(τ:B5) (E F:J4),E.Le F->w E τ->w F τ
 ps:PS X st (Y4z X.K H0 w)
structure A8 (X:Cx)(H0:Hp)(ng:M Al)(w:WS):Prop where
 mono:∀(τ:B5) (E F:J4),E.Le F->w E τ->w F τ
 ps:U7 X ng (Y4z X.K H0 w)
def Q9 {t t':TE}(h:PE X e t)(f:∀ σ H Q,t' σ H Q->t σ H Q):PE X e t':=fun af s σ H Q I q=>h af s σ H Q I (f σ H Q q)
def ptW {t t':TT}(h:PT X e t)(f:∀ σ H Q,t' σ H Q->t σ H Q):PT X e t':=fun af s σ H Q I q=>h af s σ H Q I (f σ H Q q)
def pwW {t t':TT}(h:PW X e t)(f:∀ σ H Q,t' σ H Q->t σ H Q):PW X e t':=fun whole af s σ H Q I q=>h whole af s σ H Q I (f σ H Q q)
def paW {e:M Ag}{t t':TA}(h:PA X e t)(f:∀ σ H Q,t' σ H Q->t σ H Q):PA X e t':=fun pos af s σ H Q I q=>h pos af s σ H Q I (f σ H Q q)
def U2 {e:Al}{t t':TS}(h:PS X e t)(f:∀D σ H,t' D σ H->t D σ H):PS X e t':=fun af s σ H D I q=>h af s σ H D I (f D σ H q)
def Q9m {e:M Al}{t t':TS}(h:U7 X e t)(f:∀D σ H,t' D σ H->t D σ H):U7 X e t':=fun af s σ H D I q=>h af s σ H D I (f D σ H q)
abbrev IsV (K:Fg9)(H:Hp):R->V->Prop:=E1 K (fun _=>none) H
theorem E1.v:∀{r:R}{v:V},E1 K H0 H r v->IsV K H r v
 |.st d,v,h=>h
 |.nw ds,v,h=>by obtain⟨a,xs,e,n,q,t⟩:=h;exact⟨a,xs,e,rfl,q,t⟩
 |.bw ds,v,h=>h
 |.dk ds,v,h=>h
 |.dt ds,v,h=>h
 |.ob a,v,h=>h
 |.cl _ _,v,h=>h
 |.ms _ _ _ _,v,h=>h
def Z1i {k:Bool}:E1 K H0 H (.st (.bl k)) (.bl k):=Y1g (K:=K) (H:=H)
def Q0x {k:Int}:E1 K H0 H (.st (.int k)) (.int k):=Q3k (K:=K) (H:=H)
def Z1j {k:Str}:E1 K H0 H (.st (.str k)) (.str k):=Q6n (K:=K) (H:=H)
section
variable {a b c:Ag}
def rdS:Sl->R
 |.dat d=>.st d
 |.own ds=>.bw ds
 |.bor ds=>.bw ds
 |.dk k=>.dk k
 |.dt k=>.dt k
 |.bd k=>.dt k
 |.ob a=>.ob a
 |.cl a Φ=>.cl a Φ
 |.ll a _=>.ob a
 |.ins a _ _=>.ob a
theorem SlR.rd {Hs:Hp}(s:A4 H0 H):∀{r:Sl}{v:V},SlR K H0 H r v->E1 K Hs H (rdS r) v
 |.dat d,v,h=>h
 |.own ds,v,h=>by obtain⟨a,xs,e,n,q,t⟩:=h;exact⟨a,xs,e,q,t⟩
 |.bor ds,v,h=>by obtain⟨a,xs,e,q,t⟩:=h;exact⟨a,xs,e,s _ _ q,t⟩
 |.bd ds,v,h=>by obtain⟨a,xs,e,q,t⟩:=h;exact⟨a,xs,e,s _ _ q,t⟩
 |.dk ds,v,h=>by obtain⟨a,xs,e,n,q,t⟩:=h;exact⟨a,xs,e,q,t⟩
 |.dt ds,v,h=>by obtain⟨a,xs,e,n,q,t⟩:=h;exact⟨a,xs,e,q,t⟩
 |.ob a,v,h=>h
 |.cl _ _,v,h=>h
 |.ll a _,v,h=>h.1
 |.ins a C fs,v,h=>h.1
def wV (i:Nat):WE:=fun τ Q=>∃s,τ[i]?=some (some s)/\Q (rdS s)
def DE.var {i:Nat}(h:PE X e (S9 i)):DE X H0 e (wV i) where
 mono:=fun τ P Q f⟨s,h1,h2⟩=>⟨s,h1,f _ h2⟩
 pe:=Q9 h fun σ H Q iM=>by
  obtain⟨τ,hR,s,h1,h2⟩:=iM;obtain⟨v,hv,q⟩:=hR.here i s h1;exact⟨v,hv,h2 v H (A4.refl H) (q.rd hR.same)⟩
def wC (d:D):WE:=fun _ Q=>Q (.st d)
def Q8e {v:V}{d:D}(h:PE X e (tC v))(hd:∀K H,A3 K H d v):DE X H0 e (wC d) where
 mono:=fun τ P Q f h=>f _ h
 pe:=Q9 h fun σ H Q⟨τ,hR,h⟩=>h v H (A4.refl H) (hd _ _)
def DE.int {i:Int}{j:Nat}:DE X H0 (.Constant (.int i) j pos) (wC (.int i)):=Q8e Y7a fun _ _=>Q3k
def DE.bl {i:Bool}{j:Nat}:DE X H0 (.Constant (.bool i) j pos) (wC (.bl i)):=Q8e V1j fun _ _=>Y1g
def DE.str {i:Str}{j:Nat}:DE X H0 (.Constant (.str i) j pos) (wC (.str i)):=Q8e Z6z fun _ _=>Q6n
def DE.non {j:Nat}:DE X H0 (.Constant .none j pos) (wC .non):=Q8e V1x fun _ _=>Q8i
def fzR:R->(D->Prop)->Prop
 |.st d,Q=>Q d
 |.nw ds,Q=>Q (.lst ds)
 |_,_=>False
def A1.freeze {x:Af}  (I:?B)(h:H x=some (.lst xs)):∃o,A1 X af σ (A6 H x (.frz o (.lst xs))) s:=by
 obtain⟨z,bb,n,r,q⟩:=I.hok x _ h;refine⟨_,I.write (t':=s.toks) (h':=s.heap) (e:=x) (o:=.frz {cls:=.type "list",data:=.seq bb.toArray n} (.lst xs)) (by rw[h];trivial) (.inl rfl) (fun b u _ k=>k) ⟨_,q⟩ ?_⟩;exact⟨q,z,bb,n,r,q⟩
def X7 (h:DE X H0 e we):DE X H0 e (fun τ Q=>we τ fun r=>fzR r fun d=>Q (.st d)) where
 mono:=fun τ P Q f h'=>h.mono τ _ _ (fun r q=>by
  cases r<;>first |exact f _ q |exact q) h'
 pe:=by
  intro af s σ H Q I ⟨τ,hR,hw⟩;refine B3 (h.pe af s σ H (fun v H'=>A4 H H'/\∃r,E1 X.K H H' r v/\fzR r fun d=>∀v H',A4 H H'->A3 X.K H' d v->Q v H') I ⟨τ,hR,h.mono τ _ _ (fun r q v H' sm ir=>⟨sm,r,ir,q⟩) hw⟩) ?_;rintro u s1 ⟨v,H1,I1,rv,sm,r,ir,q⟩;cases r with
  |st d=>exact⟨v,H1,I1,rv,q v H1 sm ir⟩
  |nw ds=>
   obtain⟨p,xs,rfl,hn,hp,al⟩:=ir;obtain⟨o,I2⟩:=A1.freeze I1 hp;refine⟨.ref p,_,I2,rv,q _ _ (fun b ob hb=>?_) (A3.s_lst (.inl ⟨o,upd_same⟩) (al.mono (Q6o hp _) _ _))⟩;rw[A7 (V0 hb hn)];exact sm b ob hb
  |bw _=>exact q.elim
  |dk _=>exact q.elim
  |dt _=>exact q.elim
  |ob _=>exact q.elim
  |cl _ _=>exact q.elim
  |ms _ _ _ _=>exact q.elim
def two (ha:DE X H0 a wa)(hb:DE X H0 b wb)    (hR:B6 X.K H0 τ σ H){F:R->R->Prop}(h:wa τ fun x=>wb τ fun y=>F x y) 
  (hG:∀x y v u H',A4 H H'->E1 X.K H H' x v->E1 X.K H H' y u->F x y->G v u H'):Z5y X.K H0 wa σ H fun v H1=>Z5y X.K H0 wb σ H1 fun u H2=>G v u H2:=
 ⟨τ,hR,ha.mono τ _ _ (fun x hx v H1 s1 r1=>⟨τ,hR.mono s1,hb.mono τ _ _ (fun y hy u H2 s2 r2=>hG x y v u H2 (s1.trans s2) (r1.mono s2) (r2.older s1) hy) hx⟩) h⟩
def OpD (X:Cx)(f:Ad->Ad->Sem Ad)(g:R->R->(R->Prop)->Prop):Prop:=
 Q2 X f (fun x y H Q=>∃r1 r2,IsV X.K H r1 x/\IsV X.K H r2 y/\g r1 r2 fun r=>∀v H',A4 H H'->E1 X.K H H' r v->Q v H')
def Q0s (g:R->R->(α->Prop)->Prop):Prop:=∀x y (P Q:α->Prop),(∀r,P r->Q r)->g x y P->g x y Q
def A5 (g:R->R->(α->Prop)->Prop)(wa wb:WE):B5->(α->Prop)->Prop:=fun τ Q=>wa τ fun x=>wb τ fun y=>g x y Q
def DE.op {op:Operator}{g:R->R->(R->Prop)->Prop}(ho:OpD X (binaryOp op) g)(mg:Q0s g)(ha:DE X H0 a wa)(hb:DE X H0 b wb):DE X H0 (.BinOp a op b pos) (A5 g wa wb) where
 mono:=fun τ P Q f h=>ha.mono τ _ _ (fun x h=>hb.mono τ _ _ (fun y h=>mg x y P Q f h) h) h
 pe:=Q9 (V2a ho ha.pe hb.pe) fun σ H Q ⟨τ,hR,h⟩=>two ha hb hR h fun x y v u H' sm rx ry q=>
  ⟨x,y,rx.v,ry.v,mg x y _ _ (fun r q v fz s2 ir=>q v fz (sm.trans s2) (ir.older sm)) q⟩
def Q0q (X:Cx)(op:CmpOp)(g:R->R->(Bool->Prop)->Prop):Prop:=
 Q2 X (compareOp op) (fun x y H Q=>∃r1 r2,IsV X.K H r1 x/\IsV X.K H r2 y/\g r1 r2 fun k=>Q (.bl k) H)
def DE.cmp {op:CmpOp}{g:R->R->(Bool->Prop)->Prop}(ho:Q0q X op g)(mg:Q0s g)(ha:DE X H0 a wa)(hb:DE X H0 b wb)(hm:behindInMarks op b=false):
  DE X H0 (.Compare a [op] [b] pos) (fun τ Q=>A5 g wa wb τ fun k=>Q (.st (.bl k))) where
 mono:=fun τ P Q f h=>ha.mono τ _ _ (fun x h=>hb.mono τ _ _ (fun y h=>mg x y _ _ (fun k q=>f _ q) h) h) h
 pe:=Q9 (V1n ho ha.pe hb.pe hm) fun σ H Q ⟨τ,hR,h⟩=>two ha hb hR h fun x y v u H' sm rx ry q=>
  ⟨x,y,rx.v,ry.v,mg x y _ _ (fun r q=>q _ _ sm Z1i) q⟩
def DT.cmp {op:CmpOp}{g:R->R->(Bool->Prop)->Prop}(ho:Q0q X op g)(mg:Q0s g)(ha:DE X H0 a wa)(hb:DE X H0 b wb)(hm:behindInMarks op b=false):
  DT X H0 (.Compare a [op] [b] pos) (A5 g wa wb) where
 mono:=fun τ P Q f h=>ha.mono τ _ _ (fun x h=>hb.mono τ _ _ (fun y h=>mg x y _ _ (fun k q=>f _ q) h) h) h
 pt:=ptW (V2p ho ha.pe hb.pe hm) fun σ H Q ⟨τ,hR,h⟩=>two ha hb hR h fun x y v u H' sm rx ry q=>
  ⟨x,y,rx.v,ry.v,mg x y _ _ (fun r q=>⟨r,rfl,q _ sm⟩) q⟩
def Q3f:R->(Bool->Prop)->Prop
 |.st .non,Q=>Q false
 |.st (.bl b),Q=>Q b
 |.st (.int i),Q=>Q (i != 0)
 |.st (.str x),Q=>x.length<=sizeLine/\Q ((x.length:Int) != 0)
 |.st (.tup ds),Q=>Q (!ds.isEmpty)
 |.st (.lst ds),Q=>Q (!ds.isEmpty)
 |.nw ds,Q=>Q (!ds.isEmpty)
 |.bw ds,Q=>Q (!ds.isEmpty)
 |.dk kvs,Q=>Q (!kvs.isEmpty)
 |.dt _,_=>False
 |.ob _,_=>False
 |.cl _ _,_=>False
 |.ms _ _ _ _,_=>False
theorem AllS.empty {ds:M D}  (h:AllS K H ds xs):ds.isEmpty=xs.isEmpty:=by
 have:=h.length;cases ds<;>cases xs<;>simp_all
def V7i (r:R)(P Q:Bool->Prop)(f:∀r,P r->Q r)(h:Q3f r P):Q3f r Q:=by
 unfold Q3f at h ⊢;split at h<;>first |exact f _ h |exact⟨h.1,f _ h.2⟩ |exact h
theorem V7m {r:R}{v:V}(ir:IsV K H r v){Q:Bool->Prop}(h:Q3f r Q):∃k,Z4f K v H k/\Q k:=by
 cases r with
 |st d=>
  cases d with
  |non=>cases (show v=.non from ir);exact⟨_,rfl,h⟩
  |bl b=>cases (show v=.bl b from ir);exact⟨_,rfl,h⟩
  |int b=>cases (show v=.int b from ir);exact⟨_,rfl,h⟩
  |str b=>cases (show v=.str b from ir);exact⟨_,⟨h.1,rfl⟩,h.2⟩
  |tup ds=>
   have ir:A3 K H (.tup ds) v:=ir;unfold A3 at ir;obtain⟨p,xs,rfl,q,al⟩:=ir;exact⟨_,.inr (.inl ⟨xs,E7.of q,rfl⟩),by rw[<-al.empty];exact h⟩
  |lst ds=>
   have ir:A3 K H (.lst ds) v:=ir;unfold A3 at ir;obtain⟨p,xs,rfl,q,al⟩:=ir;exact⟨_,.inl ⟨xs,q.sq,rfl⟩,by rw[<-al.empty];exact h⟩
 |nw ds=>obtain⟨p,xs,rfl,_,q,al⟩:=ir;exact⟨_,.inl ⟨xs,G0.of q,rfl⟩,by rw[<-al.empty];exact h⟩
 |bw ds=>obtain⟨p,xs,rfl,q,al⟩:=ir;exact⟨_,.inl ⟨xs,G0.of q,rfl⟩,by rw[<-al.empty];exact h⟩
 |dk ds=>
  obtain⟨p,xs,rfl,q,al⟩:=ir;refine⟨_,.inr (.inr ⟨xs,q,rfl⟩),?_⟩;cases ds with
  |nil=>cases (show xs=[]from al);exact h
  |cons d ds=>obtain⟨v,r,rfl,_⟩:=al;exact h
 |dt _=>exact h.elim
 |ob _=>exact h.elim
 |cl _ _=>exact h.elim
 |ms _ _ _ _=>exact h.elim
def Q0h (ha:DE X H0 a wa)(he:∀whole,isTrue a X.env whole=(do let v <- whole;standAt a.pos;holding [v] (truthy v))):DT X H0 a (fun τ Q=>wa τ fun r=>Q3f r Q) where
 mono:=fun τ P Q f h=>ha.mono τ _ _ (fun x h=>V7i x P Q f h) h
 pt:=ptW (V2r ha.pe he) fun σ H Q ⟨τ,hR,h⟩=>⟨τ,hR,ha.mono τ _ _ (fun r q v H' sm ir=>by
  obtain⟨k,h1,h2⟩:=V7m ir.v q;exact⟨k,h1,h2 H' sm⟩) h⟩
variable {ta tb tc:WT}{rest:M Ag}
def Z3c (t u:WT):WT:=fun τ Q=>t τ fun k=>if k=true then u τ Q else Q false
def O6 (t u:WT):WT:=fun τ Q=>t τ fun k=>if k=true then Q true else u τ Q
def U4 (t:WT):WT:=fun τ Q=>t τ fun k=>Q (!k)
theorem Z8 {c A B A' B':Prop}[Decidable c](f:A->A')(g:B->B')(h:if c then A else B):if c then A' else B':=by grind
def DW.and1 (ha:DT X H0 a ta):DW X H0 (.BoolOp .And [a] pos) ta:=⟨ha.mono,V2u ha.pt⟩
def DW.or1 (ha:DT X H0 a ta):DW X H0 (.BoolOp .Or [a] pos) ta:=⟨ha.mono,V2w ha.pt⟩
def DW.and (ha:DT X H0 a ta)(hb:DW X H0 (.BoolOp .And (b::rest) pos) tb):DW X H0 (.BoolOp .And (a::b::rest) pos) (Z3c ta tb) where
 mono:=fun τ P Q f h=>ha.mono τ _ _ (fun k h=>Z8 (hb.mono τ _ _ f) (f _) h) h
 pw:=pwW (V2t ha.pt hb.pw) fun σ H Q ⟨τ,hR,h⟩=>⟨τ,hR,ha.mono τ _ _ (fun k q H1 s1=>
  Z8 (fun h=>⟨τ,hR.mono s1,hb.mono τ _ _ (fun k q H2 s2=>q H2 (s1.trans s2)) h⟩) (fun h=>h H1 s1) q) h⟩
def DW.or (ha:DT X H0 a ta)(hb:DW X H0 (.BoolOp .Or (b::rest) pos) tb):DW X H0 (.BoolOp .Or (a::b::rest) pos) (O6 ta tb) where
 mono:=fun τ P Q f h=>ha.mono τ _ _ (fun k h=>Z8 (f _) (hb.mono τ _ _ f) h) h
 pw:=pwW (V2v ha.pt hb.pw) fun σ H Q ⟨τ,hR,h⟩=>⟨τ,hR,ha.mono τ _ _ (fun k q H1 s1=>
  Z8 (fun h=>h H1 s1) (fun h=>⟨τ,hR.mono s1,hb.mono τ _ _ (fun k q H2 s2=>q H2 (s1.trans s2)) h⟩) q) h⟩
def DW.t (h:DW X H0 a ta):DT X H0 a ta:=⟨h.mono,h.pw.pt⟩
def DT.nt (ha:DT X H0 a ta):DT X H0 (.UnaryOp .Not a pos) (U4 ta) where
 mono:=fun τ P Q f h=>ha.mono τ _ _ (fun k h=>f _ h) h
 pt:=ptW (V2q ha.pt) fun σ H Q⟨τ,hR,h⟩=>⟨τ,hR,h⟩
def blR:R->(Bool->Prop)->Prop
 |.st (.bl b),Q=>Q b
 |_,_=>False
def Q6v {r:R}{P:Bool->Prop}(h:blR r P):∃k,r=.st (.bl k)/\P k:=by
 unfold blR at h;split at h
 ·exact⟨_,rfl,h⟩
 ·exact h.elim
def Q6h (wa wb:WE):WE:=fun τ Q=>wa τ fun r=>blR r fun k=>if k=true then wb τ Q else Q (.st (.bl false))
def Z9j (wa wb:WE):WE:=fun τ Q=>wa τ fun r=>blR r fun k=>if k=true then Q (.st (.bl true))else wb τ Q
def Z3m (wa:WE):WE:=fun τ Q=>wa τ fun r=>blR r fun k=>Q (.st (.bl (!k)))
def DE.and1 (ha:DE X H0 a wa):DE X H0 (.BoolOp .And [a] pos) wa:=⟨ha.mono,Y7c ha.pe⟩
def DE.or1 (ha:DE X H0 a wa):DE X H0 (.BoolOp .Or [a] pos) wa:=⟨ha.mono,Y7c ha.pe⟩
def DE.and (ha:DE X H0 a wa)(hb:DE X H0 (.BoolOp .And (b::rest) pos) wb):DE X H0 (.BoolOp .And (a::b::rest) pos) (Q6h wa wb) where
 mono:=fun τ P Q f h=>ha.mono τ _ _ (fun r h=>by
  obtain⟨k,rfl,h⟩:=Q6v h;exact Z8 (hb.mono τ _ _ f) (f _) h) h
 pe:=Q9 (V1i ha.pe hb.pe) fun σ H Q ⟨τ,hR,h⟩=>⟨τ,hR,ha.mono τ _ _ (fun r h v H1 s1 ir=>by
  obtain⟨k,rfl,h⟩:=Q6v h;refine⟨k,ir,Z8 (fun h=>⟨τ,hR.mono s1,hb.mono τ _ _ (fun r q u H2 s2 iu=>q u H2 (s1.trans s2) (iu.older s1)) h⟩) (fun h=>h _ _ s1 Z1i) h⟩) h⟩
def DE.or (ha:DE X H0 a wa)(hb:DE X H0 (.BoolOp .Or (b::rest) pos) wb):DE X H0 (.BoolOp .Or (a::b::rest) pos) (Z9j wa wb) where
 mono:=fun τ P Q f h=>ha.mono τ _ _ (fun r h=>by
  obtain⟨k,rfl,h⟩:=Q6v h;exact Z8 (f _) (hb.mono τ _ _ f) h) h
 pe:=Q9 (V2b ha.pe hb.pe) fun σ H Q ⟨τ,hR,h⟩=>⟨τ,hR,ha.mono τ _ _ (fun r h v H1 s1 ir=>by
  obtain⟨k,rfl,h⟩:=Q6v h;refine⟨k,ir,Z8 (fun h=>h _ _ s1 Z1i) (fun h=>⟨τ,hR.mono s1,hb.mono τ _ _ (fun r q u H2 s2 iu=>q u H2 (s1.trans s2) (iu.older s1)) h⟩) h⟩) h⟩
def DE.nt (ha:DE X H0 a wa):DE X H0 (.UnaryOp .Not a pos) (Z3m wa) where
 mono:=fun τ P Q f h=>ha.mono τ _ _ (fun r h=>by
  obtain⟨k,rfl,h⟩:=Q6v h;exact f _ h) h
 pe:=Q9 (V1y ha.pe) fun σ H Q ⟨τ,hR,h⟩=>⟨τ,hR,ha.mono τ _ _ (fun r h v H1 s1 ir=>by
  obtain⟨k,rfl,h⟩:=Q6v h;exact⟨k,ir,h _ _ s1 Z1i⟩) h⟩
def wIf (t:WT)(wa wb:WE):WE:=fun τ Q=>t τ fun k=>if k=true then wa τ Q else wb τ Q
def DE.ife (hc:DT X H0 c tc)(ha:DE X H0 a wa)(hb:DE X H0 b wb):DE X H0 (.IfExp c a b pos) (wIf tc wa wb) where
 mono:=fun τ P Q f h=>hc.mono τ _ _ (fun k h=>Z8 (ha.mono τ _ _ f) (hb.mono τ _ _ f) h) h
 pe:=Q9 (V1t hc.pt ha.pe hb.pe) fun σ H Q ⟨τ,hR,h⟩=>⟨τ,hR,hc.mono τ _ _ (fun k h H1 s1=>
  Z8 (fun h=>⟨τ,hR.mono s1,ha.mono τ _ _ (fun r q u H2 s2 iu=>q u H2 (s1.trans s2) (iu.older s1)) h⟩) (fun h=>⟨τ,hR.mono s1,hb.mono τ _ _ (fun r q u H2 s2 iu=>q u H2 (s1.trans s2) (iu.older s1)) h⟩) h) h⟩
variable {es:M Ag}
def A2:WA:=fun _ Q=>Q []
def A0 (we:WE)(wr:WA):WA:=fun τ Q=>we τ fun r=>wr τ fun rs=>Q (r::rs)
theorem M9.older (s:A4 H0 H1):∀{rs:M R}{vs:M V},M9 K H1 H rs vs->M9 K H0 H rs vs
 |[],_,h=>h
 |r::rs,_,h=>by obtain⟨v,t,e,q,z⟩:=h;exact⟨v,t,e,q.older s,M9.older s z⟩
def DA.nil:DA X H0 [] A2:=⟨fun τ Q h=>⟨rfl,h⟩,fun τ P Q f h=>f _ h,paW Q6c fun σ H Q⟨τ,hR,h⟩=>h [] H (A4.refl H) rfl⟩
def DA.cons (ha:DE X H0 e we)(hr:DA X H0 es wr)(hs:?I:=by rfl):DA X H0 (e::es) (A0 we wr) where
 len:=fun τ Q h=>ha.mono τ _ _ (fun r h=>hr.mono τ _ _ (fun rs h=>⟨by rw[aN,aN,h.1],h.2⟩) (hr.len τ _ h)) h
 mono:=fun τ P Q f h=>ha.mono τ _ _ (fun r h=>hr.mono τ _ _ (fun rs h=>f _ h) h) h
 pa:=paW (Q2a ha.pe hr.pa hs) fun σ H Q ⟨τ,hR,h⟩=>⟨τ,hR,ha.mono τ _ _ (fun r h v H1 s1 ir=>⟨τ,hR.mono s1,hr.mono τ _ _ (fun rs h vs H2 s2 eD=>
  h (v::vs) H2 (s1.trans s2) ⟨v,vs,rfl,ir.mono s2,eD.older s1⟩) h⟩) h⟩
def Q2e:M R->Ac (M D)
 |[]=>some []
 |.st d::rs=>(Q2e rs).map (d::·)
 |_::_=>none
theorem Z8a:∀{rs:M R}{ds:M D}{vs:M V},Q2e rs=some ds->M9 K H0 H rs vs->AllS K H ds vs
 |[],ds,vs,h,q=>by cases h;cases q;exact AllS.nil
 |.st d::rs,ds,vs,h,q=>by
  obtain⟨v,t,rfl,iv,z⟩:=q;unfold Q2e at h;cases e:Q2e rs with
  |none=>rw[e]at h;cases h
  |some es=>rw[e]at h;cases h;exact AllS.cons iv (Z8a e z)
 |.nw _::_,_,_,h,_=>by cases h
 |.bw _::_,_,_,h,_=>by cases h
 |.dk _::_,_,_,h,_=>by cases h
 |.dt _::_,_,_,h,_=>by cases h
 |.ob _::_,_,_,h,_=>by cases h
 |.cl _ _::_,_,_,h,_=>by cases h
 |.ms _ _ _ _::_,_,_,h,_=>by cases h
def Q1e (wr:WA):WE:=fun τ Q=>wr τ fun rs=>∃ds,Q2e rs=some ds/\ds.length<=sizeLine/\Q (.st (.tup ds))
def X4 (wr:WA):WE:=fun τ Q=>wr τ fun rs=>∃ds,Q2e rs=some ds/\ds.length<=sizeLine/\Q (.nw ds)
def DE.tup {k:Nat}(h:DA X H0 es wr):DE X H0 (.Tuple es k pos) (Q1e wr) where
 mono:=fun τ P Q f h'=>h.mono τ _ _ (fun rs⟨ds,e,l,q⟩=>⟨ds,e,l,f _ q⟩) h'
 pe:=Q9 (V2d h.pa) fun σ H Q ⟨τ,hR,h'⟩=>⟨τ,hR,h.mono τ _ _ (fun rs mF vs H1 s1 eD=>by
  obtain⟨ds,e,l,q⟩:=mF;have al:=Z8a e eD;refine⟨by rw[<-al.length];exact l,fun p hp=>q _ _ (s1.trans (K2 hp _)) (A3.s_tup upd_same (al.mono (Kp.of (K2 hp _)) _ _))⟩) h'⟩
def DE.lst (h:DA X H0 es wr):DE X H0 (.List es pos) (X4 wr) where
 mono:=fun τ P Q f h'=>h.mono τ _ _ (fun rs⟨ds,e,l,q⟩=>⟨ds,e,l,f _ q⟩) h'
 pe:=Q9 (V1w h.pa) fun σ H Q ⟨τ,hR,h'⟩=>⟨τ,hR,h.mono τ _ _ (fun rs rP vs H1 s1 eD=>by
  obtain⟨ds,e,l,q⟩:=rP;have al:=Z8a e eD;refine⟨by rw[<-al.length];exact l,fun p hp=>q _ _ (s1.trans (K2 hp _)) ⟨p,vs,rfl,s1.free hp,upd_same,al.mono (Kp.of (K2 hp _)) _ _⟩⟩) h'⟩
end
def Q1s {l:M (Ac α)}{i:Nat}{x:Ac α}(h:i<l.length):(l.set i x)[i]?=some x:=by simp[h]
theorem B6.set {i:Nat}{s:Sl}{v:V}(h:B6 K H0 τ σ H)(q:SlR K H0 H s v)
  (ap:s.mut=true->∀(j:Nat) (t:Sl),j≠i->τ[j]?=some (some t)->t.mut=true->σ[j]?≠some (some v)):B6 K H0 (τ.set i (some s)) (σ.set i (some v)) H where
 len:=by rw[bB,bB];exact h.len
 same:=h.same
 here:=fun j t e=>by
  by_cases hj:j=i
  ·subst hj
   by_cases hl:j<τ.length
   ·rw[Q1s hl]at e;cases e;exact⟨v,Q1s (by rw[<-h.len];exact hl),q⟩
   ·rw[aF.mpr (by rw[bB];lia)]at e;cases e
  ·rw[aL (fun z=>hj z.symm)]at e ⊢;exact h.here j t e
 apart:=fun j k s1 s2 u dO e1 e2 m1 m2 q1 q2=>by
  by_cases hj:j=i
  ·subst hj;have hk:k≠j:=fun z=>dO z.symm
   by_cases hl:j<τ.length
   ·rw[Q1s hl]at e1;cases e1;rw[Q1s (by rw[<-h.len];exact hl)]at q1;cases q1;rw[aL (fun z=>hk z.symm)]at e2 q2;exact ap m1 k s2 hk e2 m2 q2
   ·rw[aF.mpr (by rw[bB];lia)]at e1;cases e1
  ·by_cases hk:k=i
   ·subst hk
    by_cases hl:k<τ.length
    ·rw[Q1s hl]at e2;cases e2;rw[Q1s (by rw[<-h.len];exact hl)]at q2;cases q2;rw[aL (fun z=>hj z.symm)]at e1 q1;exact ap m2 j s1 hj e1 m1 q1
    ·rw[aF.mpr (by rw[bB];lia)]at e2;cases e2
   ·rw[aL (fun z=>hj z.symm)]at e1 q1;rw[aL (fun z=>hk z.symm)]at e2 q2;exact h.apart j k s1 s2 u dO e1 e2 m1 m2 q1 q2
theorem B6.tracked {j:Nat}{t:Sl}{p:Af}(h:B6 K H0 τ σ H)(e:τ[j]?=some (some t))(m:t.mut=true)(q:σ[j]?=some (some (.ref p))):∃o,H p=some o:=by
 obtain⟨v,hv,r⟩:=h.here j t e;rw[q]at hv;cases hv;cases t with
 |dat _=>cases m
 |bor _=>cases m
 |bd _=>cases m
 |own ds=>obtain⟨a,xs,e,_,q,_⟩:=r;cases e;exact⟨_,q⟩
 |dk ds=>obtain⟨a,xs,e,_,q,_⟩:=r;cases e;exact⟨_,q⟩
 |dt ds=>obtain⟨a,xs,e,_,q,_⟩:=r;cases e;exact⟨_,q⟩
 |ob _=>cases m
 |cl _ _=>cases m
 |ll _ _=>cases m
 |ins _ _ _=>obtain⟨e,_,dx,xs,q,_⟩:=r;cases e;exact⟨_,q⟩
def Q0p:R->(Sl->Prop)->Prop
 |.st d,Q=>Q (.dat d)
 |.nw ds,Q=>Q (.own ds)
 |_,_=>False
theorem V6q {r:R}{P:Sl->Prop}(h:Q0p r P):∃s,P s/\((∃d,r=.st d/\s=.dat d)\/∃ds,r=.nw ds/\s=.own ds):=by
 cases r with
 |st d=>exact⟨_,h,.inl ⟨d,rfl,rfl⟩⟩
 |nw ds=>exact⟨_,h,.inr ⟨ds,rfl,rfl⟩⟩
 |bw _=>exact h.elim
 |dk _=>exact h.elim
 |dt _=>exact h.elim
 |ob _=>exact h.elim
 |cl _ _=>exact h.elim
 |ms _ _ _ _=>exact h.elim
def Y9q {r:R}{P Q:Sl->Prop}(f:∀s,P s->Q s)(h:Q0p r P):Q0p r Q:=by
 cases r<;>first |exact f _ h |exact h
def B6.store {i:Nat}{r:R}{v:V}(h:B6 K H0 τ σ H)(sm:A4 H H1)(ir:E1 K H H1 r v){P:Sl->Prop}(st:Q0p r P):∃s,P s/\B6 K H0 (τ.set i (some s)) (σ.set i (some v)) H1:=by
 obtain⟨s,p,⟨d,rfl,rfl⟩ |⟨ds,rfl,rfl⟩⟩:=V6q st
 ·exact⟨_,p,(h.mono sm).set ir fun m=>by cases m⟩
 ·obtain⟨a,xs,rfl,hn,ha,al⟩:=ir;refine⟨_,p,(h.mono sm).set ⟨a,xs,rfl,h.same.free hn,ha,al⟩ fun _ j t hj e m q=>?_⟩;obtain⟨o,ho⟩:=h.tracked e m q;rw[hn]at ho;cases ho
section
variable {c:Ag}{tc:WT}{ng:M Al}{ws wt:WS}
def K9:WS:=fun E τ=>E.nx τ
def A9 (t u:WS):WS:=fun E τ=>t {E with nx:=u E} τ
def A8.nil:A8 X H0 [] K9:=⟨fun τ E F le h=>le.nx τ h,Q9m V2o fun D σ H⟨τ,hR,h⟩=>h σ H (Kp.refl H) hR⟩
def A8.cons (h1:DS X H0 st ws)(h2:A8 X H0 ng wt):A8 X H0 (st::ng) (A9 ws wt) where
 mono:=fun τ E F le h=>h1.mono τ {E with nx:=wt E} {F with nx:=wt F} ⟨fun τ' h=>h2.mono τ' E F le h,le.rt,le.bk,le.ct⟩ h
 ps:=Q9m (Z2e h1.ps h2.ps) fun D σ H⟨τ,hR,h⟩=>⟨τ,hR,h1.mono τ {P0 X.K H0 H D with nx:=wt (P0 X.K H0 H D)} _ ⟨fun τ' h σ' H' k eO=>⟨τ',eO,h2.mono τ' _ _ (Z1n k) h⟩,fun _ h=>h,fun _ h=>h,fun _ h=>h⟩ h⟩
def A8.one (h1:DS X H0 st ws):A8 X H0 [st] ws:=⟨h1.mono,Q9m (Y7o h1.ps) fun D σ H h=>h⟩
def K8 (t:WT)(ws wt:WS):WS:=fun E τ=>t τ fun k=>if k=true then ws E τ else wt E τ
def DS.ife {sa sb:M Al}(hc:DT X H0 c tc)(ha:A8 X H0 sa ws)(hb:A8 X H0 sb wt):DS X H0 (.If c sa sb pos) (K8 tc ws wt) where
 mono:=fun τ E F le h=>hc.mono τ _ _ (fun k h=>Z8 (ha.mono τ E F le) (hb.mono τ E F le) h) h
 ps:=U2 (V2m hc.pt ha.ps hb.ps) fun D σ H ⟨τ,hR,h⟩=>⟨τ,hR,hc.mono τ _ _ (fun k h H1 s1=>
  Z8 (fun h=>⟨τ,hR.mono s1,ha.mono τ _ _ (Z1n (Kp.of s1)) h⟩) (fun h=>⟨τ,hR.mono s1,hb.mono τ _ _ (Z1n (Kp.of s1)) h⟩) h) h⟩
def Q7r:R->(R->Prop)->Prop
 |.st d,Q=>Q (.st d)
 |.nw ds,Q=>Q (.nw ds)
 |_,_=>False
def V4j {r:R}{P:R->Prop}(h:Q7r r P):P r:=by
 cases r<;>first |exact h |exact h.elim
def V4i {r:R}{P Q:R->Prop}(f:∀s,P s->Q s)(h:Q7r r P):Q7r r Q:=by
 cases r<;>first |exact f _ h |exact h
def F7 (we:WE):WS:=fun E τ=>we τ fun r=>Q7r r E.rt
def DS.ret (he:DE X H0 e we):DS X H0 (.Return (some e) pos) (F7 we) where
 mono:=fun τ E F le h=>he.mono τ _ _ (fun r h=>V4i le.rt h) h
 ps:=U2 (Z7c he.pe) fun D σ H⟨τ,hR,h⟩=>⟨τ,hR,he.mono τ _ _ (fun r h v H1 s1 ir=>V4j (P:=(P0 X.K H0 H D).rt) h v H1 (hR.same.trans s1) (ir.older hR.same)) h⟩
def Q1z:Sl->(R->Prop)->Prop
 |.dat d,Q=>Q (.st d)
 |.own ds,Q=>Q (.nw ds)
 |_,_=>False
def W2e {i:Nat}(he:PE X e (S9 i)):DS X H0 (.Return (some e) pos) (fun E τ=>∃s,τ[i]?=some (some s)/\Q1z s E.rt) where
 mono:=fun τ E F le kT=>(by obtain⟨s,h1,h2⟩:=kT;exact⟨s,h1,by cases s<;>first |exact le.rt _ h2 |exact h2⟩)
 ps:=U2 (Z7c he) fun D σ H cw=>by
  obtain⟨τ,hR,s,h1,h2⟩:=cw;obtain⟨v,hv,q⟩:=hR.here i s h1;refine⟨v,hv,?_⟩;cases s with
  |dat d=>exact h2 v H hR.same q
  |own ds=>exact h2 v H hR.same q
  |bor _=>exact h2.elim
  |bd _=>exact h2.elim
  |dk _=>exact h2.elim
  |dt _=>exact h2.elim
  |ob _=>exact h2.elim
  |cl _ _=>exact h2.elim
  |ll _ _=>exact h2.elim
  |ins _ _ _=>exact h2.elim
def D6 (i:Nat)(we:WE):WS:=fun E τ=>we τ fun r=>Q0p r fun s=>E.nx (τ.set i (some s))
def DS.set {i:Nat}  (he:DE X H0 e we)(hN:X.N.Nodup)(hi:X.N[i]?=some x)(hx:Loc X.env.scope x)(hs:swapsWith e (some (.Name x cn)) pos.line X.env=pure false:=by rfl)
  (hf:?J:=by first |exact .inl rfl |exact .inr rfl |assumption):DS X H0 (.Assign [.Name x cn] e pos) (D6 i we) where
 mono:=fun τ E F le h=>he.mono τ _ _ (fun r h=>Y9q (fun s h=>le.nx _ h) h) h
 ps:=U2 (Q6d hN hi hx he.pe hs hf) fun D σ H ⟨τ,hR,h⟩=>⟨τ,hR,he.mono τ _ _ (fun r h v H1 s1 ir=>by
  obtain⟨s,p,eO⟩:=hR.store (i:=i) s1 ir h;exact p _ _ (Kp.of s1) eO) h⟩
def K3 (t:WT)(wb:WS):Nat->WS
 |0=>fun _ _=>False
 |n+1=>fun E τ=>t τ fun k=>if k=true then wb {E with nx:=K3 t wb n E,ct:=K3 t wb n E,bk:=E.nx} τ else E.nx τ
def Q6j (t:WT)(wb:WS):WS:=fun E τ=>∃n,K3 t wb n E τ
theorem Y0a (ht:∀(τ:B5) (P Q:Bool->Prop),(∀r,P r->Q r)->tc τ P->tc τ Q)(hb:∀(τ:B5) (E F:J4),E.Le F->ws E τ->ws F τ):
  ∀(n:Nat) (τ:B5) (E F:J4),E.Le F->K3 tc ws n E τ->K3 tc ws n F τ
 |0,_,_,_,_,h=>h
 |n+1,τ,E,F,le,h=>ht τ _ _ (fun k h=>Z8 (hb τ {E with nx:=K3 tc ws n E,ct:=K3 tc ws n E,bk:=E.nx} {F with nx:=K3 tc ws n F,ct:=K3 tc ws n F,bk:=F.nx} ⟨fun τ h=>Y0a ht hb n τ E F le h,le.rt,le.nx,fun τ h=>Y0a ht hb n τ E F le h⟩) (le.nx τ) h) h
def Y0r (hp:PassesOwn ?C X.A X.env X.xe)(hc:DT X H0 c tc)(hb:A8 X H0 body ws):DS X H0 (.While c body [] pos) (Q6j tc ws) where
 mono:=fun τ E F le⟨n,h⟩=>⟨n,Y0a hc.mono hb.mono n τ E F le h⟩
 ps:=U2 (V2n hp hc.pt hb.ps) fun D σ H0' de=>by
  obtain⟨τ,hR,n,h⟩:=de;refine⟨fun m σ H=>∃ τ,B6 X.K H0 τ σ H/\Kp H0' H/\K3 tc ws m (P0 X.K H0 H0' D) τ,⟨n,τ,hR,Kp.refl _,h⟩,?_⟩;rintro m σ H ⟨τ,hR,kp,h⟩;cases m with
  |zero=>exact h.elim
  |succ m=>
   refine⟨τ,hR,hc.mono τ _ _ (fun k h H1 s1=>Z8 (fun h=>?_) (fun h=>h σ H1 (kp.trans (Kp.of s1)) (hR.mono s1)) h) h⟩;refine⟨fun σ' H'=>∃ τ,B6 X.K H0 τ σ' H'/\Kp H0' H'/\K3 tc ws m (P0 X.K H0 H0' D) τ,fun σ' H' h'=>⟨m,cj m,h'⟩,τ,hR.mono s1,?_⟩;have k1:=kp.trans (Kp.of s1);exact hb.mono τ {P0 X.K H0 H0' D with nx:=K3 tc ws m (P0 X.K H0 H0' D),ct:=K3 tc ws m (P0 X.K H0 H0' D),bk:=(P0 X.K H0 H0' D).nx} _
    ⟨fun τ' h' σ' H' k eO=>⟨τ',eO,k1.trans k,h'⟩,fun _ h=>h,fun τ' h' σ' H' k eO=>h' σ' H' (k1.trans k) eO,fun τ' h' σ' H' k eO=>⟨τ',eO,k1.trans k,h'⟩⟩ h
end
abbrev F5:=M R->R->Prop
variable {sp:F5}
def L3:R->Bool
 |.st _=>true
 |.nw _=>true
 |.bw _=>true
 |.ob _=>true
 |.cl _ _=>true
 |_=>false
def nrm:R->R
 |.nw ds=>.bw ds
 |r=>r
def Q2u (K:Fg9)(n:Nat)(sp:F5):Sp:=fun vs H Q _=>∃(rs:M R) (r:R),rs.length=n/\M9 K (fun _=>none) H rs vs/\rs.all L3=true/\sp (rs.map nrm) r/\∀v H',A4 H H'->E1 K H H' r v->Q v H'
def R1:R->Sl
 |.st d=>.dat d
 |.nw ds=>.bor ds
 |.bw ds=>.bor ds
 |.dk k=>.dk k
 |.dt k=>.dt k
 |.ob a=>.ob a
 |.cl a Φ=>.cl a Φ
 |.ms a C _ fs=>.ins a C fs
def D8 (N:M Str)(rs:M R):B5:=rs.map (fun r=>some (R1 r))++List.replicate (N.length-rs.length) none
theorem M9.length:∀{rs:M R}{vs:M V},M9 K H0 H rs vs->rs.length=vs.length
 |[],_,h=>by cases h;rfl
 |r::rs,_,h=>by obtain⟨v,t,rfl,_,z⟩:=h;rw[aN,aN,M9.length z]
theorem M9.get:∀{rs:M R}{vs:M V}{i:Nat}{r:R},M9 K H0 H rs vs->rs[i]?=some r->∃v,vs[i]?=some v/\E1 K H0 H r v
 |[],_,_,_,_,e=>by simp at e
 |r::rs,_,0,r',h,e=>by obtain⟨v,t,rfl,q,z⟩:=h;simp at e;subst e;exact⟨v,rfl,q⟩
 |r::rs,_,i+1,r',h,e=>by
  obtain⟨v,t,rfl,q,z⟩:=h;obtain⟨u,h1,h2⟩:=M9.get (i:=i) z (by simpa using e);exact⟨u,by simpa using h1,h2⟩
theorem M9.v:∀{rs:M R}{vs:M V},M9 K H0 H rs vs->M9 K (fun _=>none) H rs vs
 |[],_,h=>h
 |r::rs,_,h=>by obtain⟨v,t,e,q,z⟩:=h;exact⟨v,t,e,q.v,M9.v z⟩
theorem V6j (r:R):R1 (nrm r)=R1 r:=by cases r<;>rfl
theorem Z2s (N:M Str)(rs:M R):D8 N (rs.map nrm)=D8 N rs:=by grind [D8,aM,ag,bg,V6j]
theorem SlR.arg:∀{r:R}{v:V},L3 r=true->IsV K H r v->SlR K H H (R1 r) v
 |.st d,v,_,h=>h
 |.nw ds,v,_,h=>by obtain⟨a,xs,e,_,q,t⟩:=h;exact⟨a,xs,e,q,t⟩
 |.bw ds,v,_,h=>h
 |.dk _,_,h,_=>by cases h
 |.dt _,_,h,_=>by cases h
 |.ob a,v,_,h=>h
 |.cl _ _,v,_,h=>h
 |.ms _ _ _ _,_,h,_=>by cases h
theorem V6i:∀{r:R},L3 r=true->(R1 r).mut=false
 |.st d,_=>rfl
 |.nw ds,_=>rfl
 |.bw ds,_=>rfl
 |.dk _,h=>by cases h
 |.dt _,h=>by cases h
 |.ob _,_=>rfl
 |.cl _ _,_=>rfl
 |.ms _ _ _ _,h=>by cases h
theorem Z2g {rs:M R}  (al:M9 K (fun _=>none) H rs vs)(ok:rs.all L3=true):B6 K H (D8 N rs) (start N vs) H:=by
 have hl:=al.length;have at_:∀(i:Nat) (s:Sl),(D8 N rs)[i]?=some (some s)->∃r,rs[i]?=some r/\s=R1 r:=fun i s e=>by
  unfold D8 at e
  by_cases hi:i<rs.length
  ·rw[aB (by rw[ag];exact hi),ah,ac hi]at e;exact⟨rs[i],ac hi,(aA (aA e)).symm⟩
  ·rw[aK (by rw[ag];lia)]at e;have:=az e;rw[i0]at this;cases this.2
 have tU:∀(i:Nat) (r:R),rs[i]?=some r->L3 r=true:=fun i r e=>bX.mp ok r (az e);refine⟨?_,A4.refl H,fun i s e=>?_,fun i j s t v _ e1 _ m _ _ _=>?_⟩
 ·unfold D8 start;rw[aC,aC,ag,ag,b7,b7,hl]
 ·obtain⟨r,hr,rfl⟩:=at_ i s e;obtain⟨v,hv,q⟩:=al.get hr;refine⟨v,?_,SlR.arg (tU i r hr) q⟩;unfold start;have hi:i<vs.length:=by
   rcases bf i vs.length with h |h
   ·exact h
   ·rw[aF.mpr h]at hv;cases hv
  rw[aB (by rw[ag];exact hi),ah,hv]
  rfl
 ·obtain⟨r,hr,rfl⟩:=at_ i s e1;rw[V6i (tU i r hr)]at m;cases m
section
variable {w:Ak}
def Fun.okD {k:Nat}  (F:Fun K x qual st f fd)(S:Z4 N ps (C0 st))
  (bQ:∀(cdv:Ad) (A:Ah) (outer:M Env) (s:Ae) (H:Hp) (E:XK),E2 k (A.deeper (envOfC qual (C0 st) s.heap.objs.size f cdv)) ->
   ∃ws,A8 (U8 G8 P w K mg base N qual (C0 st) f cdv A outer s H E).nox H (M4 st) ws /\
    ∀rs r,rs.length=ps.length->sp rs r->ws {nx:=fun _=>r=.st .non,rt:=fun r'=>r'=r,bk:=fun _=>False,ct:=fun _=>False} (D8 N rs)):
  O8 P w K mg base G8 (k+1) f fd ps (Q2u K ps.length sp):=by
 refine F.ok S (fun vs H Q E h=>?_) (fun cdv A outer s H vs Q E hr h=>?_)
 ·obtain⟨rs,r,hl,al,_⟩:=h;rw[<-al.length];exact hl
 obtain⟨rs,r,hl,al,ok,h1,h2⟩:=h;obtain⟨ws,hd,hw⟩:=bQ cdv A outer s H E hr;refine⟨_,hd.ps,D8 N rs,Z2g al ok,?_⟩;have hw:=hw (rs.map nrm) r (by rw[ag];exact hl) h1;rw[Z2s]at hw;refine hd.mono _ _ _ ⟨fun τ h σ H' _ hR=>?_,fun r' h v H' sm ir=>?_,fun _ h=>False.elim h,fun _ h=>False.elim h⟩ hw
 ·have h:r=.st .non:=h;subst h;exact h2 .non H' hR.same (Q8i (K:=K) (H:=H'))
 ·have h:r'=r:=h;subst h;exact h2 v H' sm ir
end
section
variable {es:M Ag}{k:Nat}
def N4 (sp:F5)(wr:WA):WE:=fun τ Q=>wr τ fun rs=>rs.all L3=true/\∃r,sp (rs.map nrm) r/\Q r
def DE.call (F:O8 X.prog X.w X.K X.mg X.base G8 k f fd ps (Q2u X.K (e::es).length sp))(hr:E2 k X.A)(hg:Gl X x)(hm:X.mg x=some (.ref f))(hk:PySem.W.keepIn X.K (.ref f)=true)(hb:S3 X.K fd ps [])
  (ha:DA X H0 (e::es) wr) (fG:(x==("__debug__":Str))=false:=by decide) (he:?I:=by rfl) (hpl:(backTo pos (starEach es X.env)).any (·.1)=false:=by rfl):
  DE X H0 (.Call (.Name x p) (e::es) [] pos) (N4 sp wr) where
 mono:=fun τ P Q f h=>ha.mono τ _ _ (fun rs⟨ok,r,h1,h2⟩=>⟨ok,r,h1,f r h2⟩) h
 pe:=Q9 (Z6x F hr hg hm hk hb .nil Z2d ha.pa fG he hpl) fun σ H Q ⟨τ,hR,h⟩=>⟨τ,hR,ha.mono τ _ _ (fun rs fR vs H1 s1 eD=>by
  obtain⟨mN,ok,r,h1,h2⟩:=fR;refine⟨rs,r,mN,?_,ok,h1,fun v H' s2 ir=>h2 v H' (s1.trans s2) (ir.older s1)⟩;rw[b8];exact eD.v) (ha.len τ _ h)⟩
end
mutual
def D.eq:D->D->Bool
 |.non,.non=>true
 |.bl a,.bl b=>a==b
 |.bl a,.int b=>(if a then(1:Int)else 0)==b
 |.int a,.bl b=>a==(if b then(1:Int)else 0)
 |.int a,.int b=>a==b
 |.str a,.str b=>a==b
 |.tup a,.tup b=>Dqeqs a b
 |.lst a,.lst b=>Dqeqs a b
 |_,_=>false
def Dqeqs:M D->M D->Bool
 |[],[]=>true
 |x::xs,y::ys=>D.eq x y&&Dqeqs xs ys
 |_,_=>false
end
mutual
def D.depth:D->Nat
 |.tup a=>Dqdepths a+1
 |.lst a=>Dqdepths a+1
 |_=>0
def Dqdepths:M D->Nat
 |[]=>0
 |x::xs=>max (D.depth x) (Dqdepths xs)
end
theorem Y0s:∀{ds:M D}{i:Nat}{d:D},ds[i]?=some d->d.depth<=Dqdepths ds:=by intro ds;induction ds<;>grind [Dqdepths]
mutual
theorem Q3h:∀d:D,D.eq d d=true
 |.non=>by unfold D.eq;rfl
 |.bl a=>by unfold D.eq;simp
 |.int a=>by unfold D.eq;simp
 |.str a=>by unfold D.eq;simp
 |.tup a=>by unfold D.eq;exact Dqeqs_refl a
 |.lst a=>by unfold D.eq;exact Dqeqs_refl a
theorem Dqeqs_refl:∀ds:M D,Dqeqs ds ds=true
 |[]=>by unfold Dqeqs;rfl
 |x::xs=>by unfold Dqeqs;rw[Q3h x,Dqeqs_refl xs];rfl
end
theorem Z3x:∀(a b:M D),Dqeqs a b=((List.range (min a.length b.length)).all (fun i=>match a[i]?,b[i]? with |some x,some y=>D.eq x y |_,_=>true)&&a.length==b.length)
 |[],[]=>by unfold Dqeqs;simp
 |[],y::ys=>by unfold Dqeqs;simp
 |x::xs,[]=>by unfold Dqeqs;simp
 |x::xs,y::ys=>by
  unfold Dqeqs;rw[Z3x xs ys];have e:min (x::xs).length (y::ys).length=min xs.length ys.length+1:=by simp[Nat.succ_min_succ]
  rw[e,fN,fA,List.all_map];simp only[aN,List.getElem?_cons_zero,iF,List.getElem?_cons_succ];rw[Bool.and_assoc];congr 2;simp
def IsW (K:Fg9)(H:Hp)(d:D)(v:V):Prop:=match d with
 |.lst ds=>∃a xs,v=.ref a/\G0 K H a xs/\AllS K H ds xs
 |d=>A3 K H d v
theorem A3.w:∀{d:D}{v:V},A3 K H d v->IsW K H d v
 |.non,_,h=>h
 |.bl _,_,h=>h
 |.int _,_,h=>h
 |.str _,_,h=>h
 |.tup _,_,h=>h
 |.lst _,_,h=>by unfold A3 at h;obtain⟨a,xs,e,q,t⟩:=h;exact⟨a,xs,e,q.sq,t⟩
def R.d:R->Ac D
 |.st d=>some d
 |.nw ds=>some (.lst ds)
 |.bw ds=>some (.lst ds)
 |_=>none
theorem E1.w:∀{r:R}{v:V}{d:D},r.d=some d->E1 K H0 H r v->IsW K H d v
 |.st d,v,_,e,h=>by cases e;exact A3.w h
 |.nw ds,v,_,e,h=>by cases e;obtain⟨a,xs,e,n,q,t⟩:=h;exact⟨a,xs,e,G0.of q,t⟩
 |.bw ds,v,_,e,h=>by cases e;obtain⟨a,xs,e,q,t⟩:=h;exact⟨a,xs,e,G0.of q,t⟩
 |.dk _,_,_,e,_=>by cases e
 |.dt _,_,_,e,_=>by cases e
 |.ob _,_,_,e,_=>by cases e
 |.cl _ _,_,_,e,_=>by cases e
 |.ms _ _ _ _,_,_,e,_=>by cases e
def Y9y (I:?B)  {ys:M V}(h1:E7 X.K H a xs)(h2:G0 X.K H a ys):False:=by
 obtain⟨_,_,⟨o,e,c,_⟩,_⟩:=I.tuple h1;obtain⟨_,_,⟨o',n,e',c',_⟩,_⟩:=I.list h2;rw[e]at e';cases e';rw[c]at c';exact absurd c' ?G
mutual
theorem A3.inj (I:?B):∀(d e:D) (v:V),A3 X.K H d v->A3 X.K H e v->d=e
 |.non,e,v,h1,h2=>by
  cases e<;>unfold A3 at h1 h2<;>first |rfl |(obtain⟨_,_,z,_⟩:=h2;rw[h1]at z;cases z;done) |(rw[h1]at h2;cases h2;done) |(rw[h1]at h2;cases h2;rfl)
 |.bl p,e,v,h1,h2=>by
  cases e<;>unfold A3 at h1 h2<;>first |rfl |(obtain⟨_,_,z,_⟩:=h2;rw[h1]at z;cases z;done) |(rw[h1]at h2;cases h2;done) |(rw[h1]at h2;cases h2;rfl)
 |.int p,e,v,h1,h2=>by
  cases e<;>unfold A3 at h1 h2<;>first |rfl |(obtain⟨_,_,z,_⟩:=h2;rw[h1]at z;cases z;done) |(rw[h1]at h2;cases h2;done) |(rw[h1]at h2;cases h2;rfl)
 |.str p,e,v,h1,h2=>by
  cases e<;>unfold A3 at h1 h2<;>first |rfl |(obtain⟨_,_,z,_⟩:=h2;rw[h1]at z;cases z;done) |(rw[h1]at h2;cases h2;done) |(rw[h1]at h2;cases h2;rfl)
 |.tup p,.non,v,h1,h2=>by unfold A3 at h1 h2;obtain⟨_,_,e,_⟩:=h1;rw[h2]at e;cases e
 |.tup p,.bl q,v,h1,h2=>by unfold A3 at h1 h2;obtain⟨_,_,e,_⟩:=h1;rw[h2]at e;cases e
 |.tup p,.int q,v,h1,h2=>by unfold A3 at h1 h2;obtain⟨_,_,e,_⟩:=h1;rw[h2]at e;cases e
 |.tup p,.str q,v,h1,h2=>by unfold A3 at h1 h2;obtain⟨_,_,e,_⟩:=h1;rw[h2]at e;cases e
 |.lst p,.non,v,h1,h2=>by unfold A3 at h1 h2;obtain⟨_,_,e,_⟩:=h1;rw[h2]at e;cases e
 |.lst p,.bl q,v,h1,h2=>by unfold A3 at h1 h2;obtain⟨_,_,e,_⟩:=h1;rw[h2]at e;cases e
 |.lst p,.int q,v,h1,h2=>by unfold A3 at h1 h2;obtain⟨_,_,e,_⟩:=h1;rw[h2]at e;cases e
 |.lst p,.str q,v,h1,h2=>by unfold A3 at h1 h2;obtain⟨_,_,e,_⟩:=h1;rw[h2]at e;cases e
 |.tup p,.tup q,v,h1,h2=>by unfold A3 at h1 h2;obtain⟨x,xs,e1,q1,r1⟩:=h1;obtain⟨y,ys,e2,q2,r2⟩:=h2;rw[e1]at e2;cases e2;have e:=I.tuple_inj (E7.of q1) (E7.of q2);subst e;rw[AllS.inj I p q xs r1 r2]
 |.tup p,.lst q,v,h1,h2=>by unfold A3 at h1 h2;obtain⟨x,xs,e1,q1,r1⟩:=h1;obtain⟨y,ys,e2,q2,r2⟩:=h2;rw[e1]at e2;cases e2;exact absurd (Y9y I (E7.of q1) q2.sq) id
 |.lst p,.tup q,v,h1,h2=>by unfold A3 at h1 h2;obtain⟨x,xs,e1,q1,r1⟩:=h2;obtain⟨y,ys,e2,q2,r2⟩:=h1;rw[e1]at e2;cases e2;exact absurd (Y9y I (E7.of q1) q2.sq) id
 |.lst p,.lst q,v,h1,h2=>by unfold A3 at h1 h2;obtain⟨x,xs,e1,q1,r1⟩:=h1;obtain⟨y,ys,e2,q2,r2⟩:=h2;rw[e1]at e2;cases e2;have e:=I.list_inj q1.sq q2.sq;subst e;rw[AllS.inj I p q xs r1 r2]
theorem AllS.inj (I:?B):∀(ds es:M D) (vs:M V),AllS X.K H ds vs->AllS X.K H es vs->ds=es
 |[],[],_,_,_=>rfl
 |[],y::ys,vs,h1,h2=>by unfold AllS at h1 h2;obtain⟨_,_,e,_⟩:=h2;rw[h1]at e;cases e
 |x::xs,[],vs,h1,h2=>by unfold AllS at h1 h2;obtain⟨_,_,e,_⟩:=h1;rw[h2]at e;cases e
 |x::xs,y::ys,vs,h1,h2=>by
  unfold AllS at h1 h2;obtain⟨v,r,e1,q1,t1⟩:=h1;obtain⟨v',r',e2,q2,t2⟩:=h2;rw[e1]at e2;cases e2;rw[A3.inj I x y v q1 q2,AllS.inj I xs ys r t1 t2]
end
section
open PySem.SeqAt
theorem Z0o {ds:M D}   (al:AllS X.K H ds xs)(rv:C4 xs bb){j:Nat}(h:j<bb.toArray.size):∃d v,ds[j]?=some d/\A3 X.K H d v/\C2 v bb.toArray[j]:=by
 have hl:=al.length;have hr:=rv.length;have hj:j<bb.length:=by simpa using h
 have nu:j<ds.length:=by lia
 obtain⟨v,hv,q⟩:=al.get (ac nu);obtain⟨u,hu,r⟩:=rv.get hv;have e:u=bb.toArray[j]:=by
  rw[ac hj]at hu;simpa using (aA hu).symm
 exact⟨ds[j],v,ac nu,q,e▸r⟩
def Z5b (I:?B){d1 d2:D}{v1 v2:V}{u1 u2:Ad}  (h:∀A:Ah,A.units+n<cLine->RcAt A s u1 u2 (D.eq d1 d2))(i1:A3 X.K H d1 v1)(i2:A3 X.K H d2 v2)(r1:C2 v1 u1)(r2:C2 v2 u2){A:Ah}(hu:A.units+n<cLine):EqAt A s u1 u2 (D.eq d1 d2):=by
 have hA:=h A hu
 by_cases e:u1=u2
 ·subst e;have ev:=r1.inj r2;subst ev;rw[A3.inj I d1 d2 v1 i1 i2,Q3h];exact EqAt.same _
 ·intro prog w E Q hq;unfold eqBool;refine bv ?_;refine nL (fun oP=>absurd (eq_of_beq oP) e) (fun _=>?_);have fin:wpAny (model prog w) A (richCompare .Eq u1 u2>>=truthOfDropped) Q E s:=aa (hA prog w E _ (cC hq));cases v1 with
  |non=>cases r1;exact fin
  |bl _=>cases r1;exact fin
  |int _=>obtain⟨t,rfl⟩:=r1;exact fin
  |str _=>obtain⟨t,rfl⟩:=r1;exact fin
  |byt _=>obtain⟨t,rfl⟩:=r1;exact fin
  |ref _=>cases r1;exact fin
  |ty _=>cases r1;exact fin
  |flt b=>cases d1<;>first |(cases (show V.flt b=_ from i1)) |(unfold A3 at i1;obtain⟨_,_,z,_⟩:=i1;cases z)
inductive Vw (X:Cx)(H:Hp)(s:Shared):D->Value->Prop
 |non:Vw X H s .non .none
 |bl (b:Bool):Vw X H s (.bl b) (.bool b)
 |int (i:Int) (t:Tok):Vw X H s (.int i) (.int i t)
 |str (x:Str) (t:Tok):Vw X H s (.str x) (.str x t)
 |tup {ds:List D}{a:Addr}{xs:List V}{bb:List Value} (al:AllS X.K H ds xs) (rv:C4 xs bb) (pl:s.heap.IsTuple a bb.toArray):Vw X H s (.tup ds) (.ref a)
 |lst {ds:List D}{a:Addr}{xs:List V}{bb:List Value} (al:AllS X.K H ds xs) (rv:C4 xs bb) (pl:s.heap.IsList a bb.toArray):Vw X H s (.lst ds) (.ref a)
theorem Z3b (I:?B){d:D}{v:V}  (h:IsW X.K H d v)(r:C2 v u):Vw X H s d u:=by
 cases d with
 |non=>cases (show v=.non from h);cases r;exact .non
 |bl b=>cases (show v=.bl b from h);cases r;exact .bl b
 |int i=>cases (show v=.int i from h);obtain⟨t,rfl⟩:=r;exact .int i t
 |str x=>cases (show v=.str x from h);obtain⟨t,rfl⟩:=r;exact .str x t
 |tup ds=>have h:A3 X.K H (.tup ds) v:=h;unfold A3 at h;obtain⟨a,xs,rfl,sq,al⟩:=h;cases r;obtain⟨bb,rv,pl,_⟩:=I.tuple (E7.of sq);exact .tup al rv pl
 |lst ds=>obtain⟨a,xs,rfl,sq,al⟩:=h;cases r;obtain⟨bb,rv,pl,_⟩:=I.list sq;exact .lst al rv pl.isList
def Q4j (d e:D):Prop:=(∃p q,d=.tup p/\e=.tup q)\/∃p q,d=.lst p/\e=.lst q
def Y7r {d1 d2:D}{u1 u2:Ad}{A:Ah}(h1:Vw X H s d1 u1)(h2:Vw X H s d2 u2)(hu:A.units<cLine)(hb:¬ Q4j d1 d2):RcAt A s u1 u2 (D.eq d1 d2):=by
 cases h1<;>cases h2<;>first |exact absurd (.inl ⟨_,_,rfl,rfl⟩) hb |exact absurd (.inr ⟨_,_,rfl,rfl⟩) hb |(unfold D.eq;(try simp only[Bool.not_true,Bool.not_false]);(with_reducible first |exact RcAt.none_none |exact RcAt.none_bool _ |exact RcAt.none_int _ _ |exact RcAt.none_str _ _ |exact RcAt.none_tuple (by assumption) hu |exact RcAt.none_list (by assumption) hu |exact RcAt.bool_none _ |exact RcAt.bool_bool _ _ |exact RcAt.bool_int _ _ _ |exact RcAt.bool_str _ _ _ |exact RcAt.bool_tuple _ (by assumption) hu |exact RcAt.bool_list _ (by assumption) hu |exact RcAt.int_none _ _ |exact RcAt.int_bool _ _ _ |exact RcAt.int_int _ _ _ _ |exact RcAt.int_str _ _ _ _ |exact RcAt.int_tuple _ _ (by assumption) hu |exact RcAt.int_list _ _ (by assumption) hu |exact RcAt.str_none _ _ |exact RcAt.str_bool _ _ _ |exact RcAt.str_int _ _ _ _ |exact RcAt.str_str _ _ _ _ |exact RcAt.str_tuple _ _ (by assumption) hu |exact RcAt.str_list _ _ (by assumption) hu |exact RcAt.tuple_none (by assumption) hu |exact RcAt.tuple_bool _ (by assumption) hu |exact RcAt.tuple_int _ _ (by assumption) hu |exact RcAt.tuple_str _ _ (by assumption) hu |exact RcAt.tuple_list (by assumption) (by assumption) hu |exact RcAt.list_none (by assumption) hu |exact RcAt.list_bool _ (by assumption) hu |exact RcAt.list_int _ _ (by assumption) hu |exact RcAt.list_str _ _ (by assumption) hu |exact RcAt.list_tuple (by assumption) (by assumption) hu))
theorem rc_D (I:?B):∀(n:Nat) (d1 d2:D) (v1 v2:V) (u1 u2:Ad) (A:Ah),d1.depth<=n->IsW X.K H d1 v1->IsW X.K H d2 v2->C2 v1 u1->C2 v2 u2->A.units+n<cLine->RcAt A s u1 u2 (D.eq d1 d2):=by
 intro n
 induction n with
 |zero=>
  intro d1 d2 v1 v2 u1 u2 A hd h1 h2 r1 r2 hu;refine Y7r (Z3b I h1 r1) (Z3b I h2 r2) (by lia) ?_;rintro (⟨p,q,rfl,rfl⟩ |⟨p,q,rfl,rfl⟩)<;>unfold D.depth at hd<;>lia
 |succ n ih=>
  intro d1 d2 v1 v2 u1 u2 A hd h1 h2 r1 r2 hu;have w1:=Z3b I h1 r1;have w2:=Z3b I h2 r2
  by_cases hb:Q4j d1 d2
  ·obtain⟨p,q,rfl,rfl⟩ |⟨p,q,rfl,rfl⟩:=hb
   ·cases w1;cases w2;rename_i a1 vt mq nO pI mZ a2 vq dH jH jJ fZ;have hd:Dqdepths p+1<=n+1:=by unfold D.depth at hd;exact hd
    have l1:mq.toArray.size=p.length:=by have:=mZ.length;have:=nO.length;simp;lia
    have l2:dH.toArray.size=q.length:=by have:=fZ.length;have:=jH.length;simp;lia
    have k:=RcAt.tuples (A:=A) (s:=s) (e:=fun i=>match p[i]?,q[i]? with |some x,some y=>D.eq x y |_,_=>true) pI jJ (by lia) (fun j si nu=>by
     obtain⟨d1,v1,e1,i1,w1⟩:=Z0o mZ nO si;obtain⟨d2,v2,e2,i2,w2⟩:=Z0o fZ jH nu;simp only[e1,e2];exact Z5b I (fun A=>ih d1 d2 v1 v2 _ _ A (by have:=Y0s e1;lia) i1.w i2.w w1 w2) i1 i2 w1 w2 (by simp only[cN];lia))
    rw[l1,l2]at k;unfold D.eq;rw[Z3x];exact k
   ·cases w1;cases w2;rename_i a1 vt mq nO pI mZ a2 vq dH jH jJ fZ;have hd:Dqdepths p+1<=n+1:=by unfold D.depth at hd;exact hd
    have l1:mq.toArray.size=p.length:=by have:=mZ.length;have:=nO.length;simp;lia
    have l2:dH.toArray.size=q.length:=by have:=fZ.length;have:=jH.length;simp;lia
    have kk:RcAt A s (.ref a1) (.ref a2) (Dqeqs p q):=by
     rw[Z3x]
     by_cases ck:p.length=q.length
     ·have k:=RcAt.lists (A:=A) (s:=s) (e:=fun i=>match p[i]?,q[i]? with |some x,some y=>D.eq x y |_,_=>true) pI jJ (by lia) (by lia) (fun j si nu=>by
       obtain⟨d1,v1,e1,i1,w1⟩:=Z0o mZ nO si;obtain⟨d2,v2,e2,i2,w2⟩:=Z0o fZ jH nu;simp only[e1,e2];exact Z5b I (fun A=>ih d1 d2 v1 v2 _ _ A (by have:=Y0s e1;lia) i1.w i2.w w1 w2) i1 i2 w1 w2 (by simp only[cN];lia))
      rw[l1]at k;rw[<-ck,Nat.min_self,beq_self_eq_true,Bool.and_true];exact k
     ·rw[cc.mpr ck,Bool.and_false];exact RcAt.lists_lengths pI jJ (by rw[l1,l2];simpa using ck) (by lia)
    unfold D.eq;exact kk
  ·exact Y7r w1 w2 (by lia) hb
end
namespace HT
open PySem PyProof.Rows
section
variable {w:Ak}{A:Ah}
def cat_tup0 {t:Af}{vs ws:M Ad}  (ht:IsTup s.heap t vs.toArray)(hb:IsTup s.heap b ws.toArray)(hv:vs=[])(h1:Q (.ref b) s):wpAny (model prog w) A (binaryOp .Add (.ref t) (.ref b)) Q E s:=by
 obtain⟨⟨cls,dd,data,sl⟩,ho,hc,n,hd⟩:=id ht;obtain⟨⟨t6,q0,data2,pG⟩,kX,l9,n2,mS⟩:=id hb;simp only at hc hd l9 mS;subst hc hd l9 mS;exact yT ⟨_,ho,rfl⟩ ⟨_,kX,rfl⟩ m6 vp fM fE (fu _ _)
  (tuple_addW0 t b vs.toArray ws.toArray n n2 dd q0 sl pG (by simp[hv])) ⟨ho,kX,h1⟩
end
end HT
def Q5 (C:Int->Int->Prop)(f:Int->Int->Int):R->R->(R->Prop)->Prop
 |.st (.int i),.st (.int j),Q=>C i j/\Q (.st (.int (f i j)))
 |_,_,_=>False
def Z5s {f:Int->Int->Int}{x y:R}{Q:R->Prop}(h:Q5 C f x y Q):∃i j,x=.st (.int i)/\y=.st (.int j)/\C i j/\Q (.st (.int (f i j))):=by
 unfold Q5 at h;split at h
 ·exact⟨_,_,rfl,rfl,h.1,h.2⟩
 ·exact h.elim
def Q1j {f:Int->Int->Int}:Q0s (Q5 C f):=fun x y P Q g h=>by
 obtain⟨i,j,rfl,rfl,c,q⟩:=Z5s h;exact⟨c,g _ q⟩
def OpD.ints {F:Ad->Ad->Sem Ad}  {f:Int->Int->Int}(h:Q2 X F (rI C fun i j=>.int (f i j))):OpD X F (Q5 C f):=by
 intro af s σ H x y v u Q I rx ry ⟨r1,r2,h1,h2,hg⟩;obtain⟨i,j,rfl,rfl,c,q⟩:=Z5s hg;exact h af s σ H x y v u Q I rx ry ⟨i,j,h1,h2,c,q _ _ (A4.refl H) Q0x⟩
def W3u {F:Ad->Ad->Sem Ad}{f:Int->Int->Int}(h:Q2 X F (rI0 fun i j=>.int (f i j))):OpD X F (Q5 (fun _ _=>True) f):=by
 intro af s σ H x y v u Q I rx ry ⟨r1,r2,h1,h2,hg⟩;obtain⟨i,j,rfl,rfl,c,q⟩:=Z5s hg;exact h af s σ H x y v u Q I rx ry ⟨i,j,h1,h2,q _ _ (A4.refl H) Q0x⟩
abbrev NoC:Int->Int->Prop:=fun _ _=>True
def Z2b:OpD X (binaryOp .FloorDiv) (Q5 Q2h fun i j=>i / j):=OpD.ints V0w
def Q7q:OpD X (binaryOp .Mod) (Q5 (fun _ j=>0<j) fun i j=>i % j):=OpD.ints V1a
def lsM:R->Ac (M D)
 |.nw ds=>some ds
 |.bw ds=>some ds
 |_=>none
def Q2v:R->Ac (M D)
 |.nw ds=>some ds
 |.bw ds=>some ds
 |.st (.lst ds)=>some ds
 |_=>none
theorem Y5c:∀{r:R}{ds:M D}{v:V},lsM r=some ds->E1 K H0 H r v->∃a xs,v=.ref a/\H a=some (.lst xs)/\AllS K H ds xs
 |.nw ds,_,v,e,h=>by cases e;obtain⟨a,xs,e,n,q,t⟩:=h;exact⟨a,xs,e,q,t⟩
 |.bw ds,_,v,e,h=>by cases e;obtain⟨a,xs,e,q,t⟩:=h;exact⟨a,xs,e,q,t⟩
 |.st _,_,_,e,_=>by cases e
 |.dk _,_,_,e,_=>by cases e
 |.dt _,_,_,e,_=>by cases e
 |.ob _,_,_,e,_=>by cases e
 |.cl _ _,_,_,e,_=>by cases e
 |.ms _ _ _ _,_,_,e,_=>by cases e
theorem Z1q:∀{r:R}{ds:M D}{v:V},Q2v r=some ds->E1 K H0 H r v->∃a xs,v=.ref a/\G0 K H a xs/\AllS K H ds xs
 |.nw ds,_,v,e,h=>by cases e;obtain⟨a,xs,e,n,q,t⟩:=h;exact⟨a,xs,e,G0.of q,t⟩
 |.bw ds,_,v,e,h=>by cases e;obtain⟨a,xs,e,q,t⟩:=h;exact⟨a,xs,e,G0.of q,t⟩
 |.st (.lst ds),_,v,e,h=>by cases e;have h:A3 K H (.lst ds) v:=h;unfold A3 at h;obtain⟨a,xs,e,q,t⟩:=h;exact⟨a,xs,e,q.sq,t⟩
 |.st .non,_,_,e,_=>by cases e
 |.st (.bl _),_,_,e,_=>by cases e
 |.st (.int _),_,_,e,_=>by cases e
 |.st (.str _),_,_,e,_=>by cases e
 |.st (.tup _),_,_,e,_=>by cases e
 |.dk _,_,_,e,_=>by cases e
 |.dt _,_,_,e,_=>by cases e
 |.ob _,_,_,e,_=>by cases e
 |.cl _ _,_,_,e,_=>by cases e
 |.ms _ _ _ _,_,_,e,_=>by cases e
def N1 (x y:R)(Q:R->Prop):Prop:=
 match x,y with
 |.st (.int i),.st (.int j)=>Q (.st (.int (i+j)))
 |.st (.str i),.st (.str j)=>i.length+j.length<=sizeLine/\Q (.st (.str (i++j)))
 |.st (.tup i),.st (.tup j)=>i.length+j.length<=sizeLine/\Q (.st (.tup (i++j)))
 |.nw i,.nw j=>i.length+j.length<=sizeLine/\Q (.nw (i++j))
 |.nw i,.bw j=>i.length+j.length<=sizeLine/\Q (.nw (i++j))
 |.bw i,.nw j=>i.length+j.length<=sizeLine/\Q (.nw (i++j))
 |.bw i,.bw j=>i.length+j.length<=sizeLine/\Q (.nw (i++j))
 |_,_=>False
def Q5k:Q0s N1:=fun x y P Q g h=>by
 unfold N1 at h ⊢;split at h<;>first |exact g _ h |exact⟨h.1,g _ h.2⟩ |exact⟨h.1,h.2.1,g _ h.2.2⟩ |exact h
def Z0u {x:V}{v:Ad}{Q:VK}(I:?B)(rx:C2 x v)(ry:C2 y u){r1 r2:R}{i j:M D}(e1:lsM r1=some i)(e2:lsM r2=some j)
  (h1:IsV X.K H r1 x) (h2:IsV X.K H r2 y) (hz:i.length+j.length<=sizeLine) (q:∀v H',A4 H H'->E1 X.K H H' (.nw (i++j)) v->Q v H'):wpAny ?C X.A (binaryOp .Add v u) (EP X af σ Q) X.xe s:=by
 obtain⟨a,xs,rfl,qa,lr⟩:=Y5c e1 h1;obtain⟨b,ys,rfl,qb,nB⟩:=Y5c e2 h2;refine V0u af s σ H _ _ v u Q I rx ry ⟨a,b,xs,ys,rfl,rfl,qa,qb,by rw[<-lr.length,<-nB.length];exact hz,fun p hp=>?_⟩;have k:=Kp.of (K2 hp (.lst (xs++ys)));exact q _ _ (K2 hp _) ⟨p,xs++ys,rfl,hp,upd_same,(lr.append nB).mono k _ _⟩
theorem Q6a:OpD X (binaryOp .Add) N1:=by
 intro af s σ H x y v u Q I rx ry ⟨r1,r2,h1,h2,hg⟩;unfold N1 at hg;split at hg
 ·exact V0s af s σ H x y v u Q I rx ry ⟨_,_,h1,h2,hg _ _ (A4.refl H) Q0x⟩
 ·exact V0t af s σ H x y v u Q I rx ry ⟨_,_,h1,h2,hg.1,hg.2 _ _ (A4.refl H) Z1j⟩
 ·rename_i i j;have h1:A3 X.K H (.tup i) x:=h1;have h2:A3 X.K H (.tup j) y:=h2;unfold A3 at h1 h2;obtain⟨a,xs,rfl,qa,lr⟩:=h1;obtain⟨b,ys,rfl,qb,nB⟩:=h2;have la:=lr.length;have lb:=nB.length
  by_cases hx:xs=[]
  ·have zi:i=[]:=dA.mp (by rw[la,hx];rfl);subst zi;cases rx;cases ry;obtain⟨bb,r1,p1,_⟩:=I.tuple (E7.of (K:=X.K) qa);obtain⟨dH,r2,p2,_⟩:=I.tuple (E7.of (K:=X.K) qb);exact HT.cat_tup0 p1 p2 (r1.nil_iff.mpr hx) ⟨.ref b,H,I,rfl,hg.2 _ _ (A4.refl H) (A3.s_tup (K:=X.K) (H:=H) qb nB)⟩
  refine V0v af s σ H _ _ v u Q I rx ry ⟨a,b,xs,ys,rfl,rfl,E7.of qa,E7.of qb,hx,by lia,fun z=>?_,fun z p hp=>?_⟩
  ·have zj:j=[]:=dA.mp (by rw[lb,z];rfl);subst zj;rw[b8]at hg;exact hg.2 _ _ (A4.refl H) (A3.s_tup (K:=X.K) (H:=H) qa lr)
  ·exact hg.2 _ _ (K2 hp _) (A3.s_tup (K:=X.K) upd_same ((lr.append nB).mono (Kp.of (K2 hp _)) _ _))
 ·exact Z0u I rx ry rfl rfl h1 h2 hg.1 hg.2
 ·exact Z0u I rx ry rfl rfl h1 h2 hg.1 hg.2
 ·exact Z0u I rx ry rfl rfl h1 h2 hg.1 hg.2
 ·exact Z0u I rx ry rfl rfl h1 h2 hg.1 hg.2
 ·exact hg.elim
def Q0l (x y:R)(Q:R->Prop):Prop:=
 match x,y with
 |.st (.int i),.st (.int j)=>Q4c i j/\Q (.st (.int (i*j)))
 |.nw ds,.st (.int k)=>-(2^63)<=k/\k<2^63/\ds.length*k.toNat<=sizeLine/\Q (.nw (List.replicate k.toNat ds).flatten)
 |_,_=>False
def Z6q:Q0s Q0l:=fun x y P Q g h=>by
 unfold Q0l at h ⊢;split at h<;>first |exact⟨h.1,g _ h.2⟩ |exact⟨h.1,h.2.1,h.2.2.1,g _ h.2.2.2⟩ |exact h
theorem AllS.rep {ds:M D}  (h:AllS K H ds vs):∀k:Nat,AllS K H (List.replicate k ds).flatten (List.replicate k vs).flatten
 |0=>AllS.nil
 |k+1=>by rw[cx,cx,cP,cP];exact h.append (AllS.rep h k)
def Z6u:OpD X (binaryOp .Mult) Q0l:=by
 intro af s σ H x y v u Q I rx ry ⟨r1,r2,h1,h2,hg⟩;unfold Q0l at hg;split at hg
 ·exact V1b af s σ H x y v u Q I rx ry ⟨_,_,h1,h2,hg.1,hg.2 _ _ (A4.refl H) Q0x⟩
 ·obtain⟨a,xs,rfl,_,qa,lr⟩:=h1;refine V1e af s σ H _ y v u Q I rx ry ⟨a,_,xs,rfl,h2,qa,hg.1,hg.2.1,by rw[<-lr.length];exact hg.2.2.1,fun p hp=>?_⟩;exact hg.2.2.2 _ _ (K2 hp _) ⟨p,_,rfl,hp,upd_same,(lr.rep _).mono (Kp.of (K2 hp _)) _ _⟩
 ·exact hg.elim
def V8 (f:Int->Int->Bool):R->R->(Bool->Prop)->Prop
 |.st (.int i),.st (.int j),Q=>Q (f i j)
 |_,_,_=>False
def Y2s {f:Int->Int->Bool}{x y:R}{Q:Bool->Prop}(h:V8 f x y Q):∃i j,x=.st (.int i)/\y=.st (.int j)/\Q (f i j):=by
 unfold V8 at h;split at h
 ·exact⟨_,_,rfl,rfl,h⟩
 ·exact h.elim
def Q7a {f:Int->Int->Bool}:Q0s (V8 f):=fun x y P Q g h=>by
 obtain⟨i,j,rfl,rfl,q⟩:=Y2s h;exact g _ q
def Q0q.ints {op:CmpOp}{f:Int->Int->Bool}(h:Q2 X (compareOp op) (rI0 fun i j=>.bl (f i j))):Q0q X op (V8 f):=by
 intro af s σ H x y v u Q I rx ry ⟨r1,r2,h1,h2,hg⟩;obtain⟨i,j,rfl,rfl,q⟩:=Y2s hg;exact h af s σ H x y v u Q I rx ry ⟨i,j,h1,h2,q⟩
def W5a:Q0q X .Lt (V8 fun i j=>decide (i<j)):=Q0q.ints V0z
def Y2o:Q0q X .GtE (V8 fun i j=>decide (j<=i)):=Q0q.ints V0x
def eqD (n:Nat)(neg:Bool)(x y:R)(Q:Bool->Prop):Prop:=∃d e,x.d=some d/\y.d=some e/\d.depth<=n/\Q (if neg then !D.eq d e else D.eq d e)
def Z1a {neg:Bool}:Q0s (eqD n neg):=fun x y P Q g⟨d,e,h1,h2,h3,q⟩=>⟨d,e,h1,h2,h3,g _ q⟩
def Z0v (hu:X.A.units+n<cLine):Q0q X .Eq (eqD n false):=by
 intro af s σ H x y v u Q I rx ry ⟨r1,r2,h1,h2,d,e,e1,e2,hd,q⟩;exact rc_D I n d e x y v u X.A hd (h1.w e1) (h2.w e2) rx ry hu _ _ _ _ ⟨.bl _,H,I,rfl,q⟩
section
def scD:D->D->Bool
 |.non,.non=>true |.non,.int _=>true |.int _,.non=>true |.non,.bl _=>true |.bl _,.non=>true |.non,.str _=>true |.str _,.non=>true
 |.int _,.int _=>true |.bl _,.bl _=>true |.str _,.str _=>true
 |.int _,.str _=>true |.str _,.int _=>true |.bl _,.str _=>true |.str _,.bl _=>true
 |_,_=>false
def L6 (x y:R)(Q:Bool->Prop):Prop:=∃d e,x=.st d/\y=.st e/\scD d e=true/\Q (!D.eq d e)
def Q5v:Q0s L6:=fun x y P Q g⟨d,e,h1,h2,h3,q⟩=>⟨d,e,h1,h2,h3,g _ q⟩
def Q5n:Q0q X .NotEq L6:=by
 intro af s σ H x y v u Q I rx ry ⟨r1,r2,h1,h2,d,e,e1,e2,hs,q⟩;subst e1 e2;have key:scal x y=true/\(D.eq d e)=decide (x=y):=by
  cases d<;>cases e<;>first
   |(cases hs;done)
   |(replace h1:A3 X.K H _ x:=h1;replace h2:A3 X.K H _ y:=h2;unfold A3 at h1 h2;subst h1;subst h2;refine⟨rfl,?_⟩;unfold D.eq;first |(exact(Y3d).symm) |(exact(Y3c).symm) |(exact(Y3e).symm) |rfl |(simp;done))
 refine V1c af s σ H x y v u Q I rx ry ⟨key.1,?_⟩;rw[<-key.2];exact q
def Y1 (neg:Bool)(x y:R)(Q:Bool->Prop):Prop:=∃d,x.d=some d/\y=.st .non/\Q (match d with |.non=>!neg |_=>neg)
def Q3u {neg:Bool}:Q0s (Y1 neg):=fun x y P Q g⟨d,h1,h2,q⟩=>⟨d,h1,h2,g _ q⟩
theorem Y4o:∀{d:D}{v:V},IsW K H d v->decide (v=.non)=(match d with |.non=>true |_=>false)
 |.non,v,h=>by cases (show v=.non from h);rfl
 |.bl b,v,h=>by cases (show v=.bl b from h);rfl
 |.int b,v,h=>by cases (show v=.int b from h);rfl
 |.str b,v,h=>by cases (show v=.str b from h);rfl
 |.tup ds,v,h=>by have h:A3 K H (.tup ds) v:=h;unfold A3 at h;obtain⟨a,_,rfl,_⟩:=h;rfl
 |.lst ds,v,h=>by obtain⟨a,_,rfl,_⟩:=h;rfl
def Q5m:Q0q X .Is (Y1 false):=by
 intro af s σ H x y v u Q I rx ry ⟨r1,r2,h1,h2,d,e1,e2,q⟩;subst e2;refine V0y af s σ H x y v u Q I rx ry ⟨h2,?_⟩;rw[Y4o (h1.w e1)];cases d<;>exact q
def Y2p:Q0q X .IsNot (Y1 true):=by
 intro af s σ H x y v u Q I rx ry ⟨r1,r2,h1,h2,d,e1,e2,q⟩;subst e2;refine V1d af s σ H x y v u Q I rx ry ⟨h2,?_⟩;rw[Y4o (h1.w e1)];cases d<;>exact q
theorem Z0p {ds:M D}  (al:AllS K H ds xs){i:Int}{d:D}(h:N5 ds i=some d):∃v,N5 xs i=some v/\A3 K H d v:=by
 unfold N5 at h ⊢;rw[<-al.length];cases e:ixN ds.length i with
 |none=>rw[e]at h;cases h
 |some j=>
  rw[e]at h;obtain⟨v,hv,q⟩:=al.get (i:=j) h;exact⟨v,hv,q⟩
def C8 (x y:R)(Q:R->Prop):Prop:=match x,y with
 |.st (.lst ds),.st (.int i)=>∃d,N5 ds i=some d/\Q (.st d)
 |.nw ds,.st (.int i)=>∃d,N5 ds i=some d/\Q (.st d)
 |.bw ds,.st (.int i)=>∃d,N5 ds i=some d/\Q (.st d)
 |.st (.tup ds),.st (.int i)=>∃d,N5 ds i=some d/\Q (.st d)
 |.st (.str z),.st (.int i)=>z.length<=sizeLine/\∃c,N5 z.cps.toList i=some c/\Q (.st (.str ⟨#[c]⟩))
 |_,_=>False
def W7q:Q0s C8:=fun x y P Q g h=>by
 unfold C8 at h ⊢;split at h
 case h_6=>exact h
 case h_5=>obtain⟨z,c,h1,h2⟩:=h;exact⟨z,c,h1,g _ h2⟩
 all_goals (obtain⟨d,h1,h2⟩:=h;exact⟨d,h1,g _ h2⟩)
variable {a b c:Ag}
def DE.ix (ha:DE X H0 a wa)(hb:DE X H0 b wb)(hs:Z4e b):DE X H0 (.Subscript a b pos) (A5 C8 wa wb) where
 mono:=fun τ P Q f h=>ha.mono τ _ _ (fun x h=>hb.mono τ _ _ (fun y h=>W7q x y P Q f h) h) h
 pe:=Q9 (Y7b W7t ha.pe hb.pe hs) fun σ H Q ⟨τ,hR,h⟩=>two ha hb hR h fun x y v u H' sm rx ry q=>by
  unfold C8 at q;split at q
  ·have rx:A3 X.K H' _ v:=rx;unfold A3 at rx;obtain⟨p,xs,rfl,sq,al⟩:=rx;obtain⟨d,hd,q⟩:=q;obtain⟨z,hz,iz⟩:=Z0p al hd;exact .inl ⟨p,xs,_,z,rfl,ry,sq.sq,hz,q z H' sm iz⟩
  ·obtain⟨p,xs,rfl,_,sq,al⟩:=rx;obtain⟨d,hd,q⟩:=q;obtain⟨z,hz,iz⟩:=Z0p al hd;exact .inl ⟨p,xs,_,z,rfl,ry,G0.of sq,hz,q z H' sm iz⟩
  ·obtain⟨p,xs,rfl,sq,al⟩:=rx;obtain⟨d,hd,q⟩:=q;obtain⟨z,hz,iz⟩:=Z0p al hd;exact .inl ⟨p,xs,_,z,rfl,ry,G0.of sq,hz,q z H' sm iz⟩
  ·have rx:A3 X.K H' _ v:=rx;unfold A3 at rx;obtain⟨p,xs,rfl,sq,al⟩:=rx;obtain⟨d,hd,q⟩:=q;obtain⟨z,hz,iz⟩:=Z0p al hd;exact .inr (.inl ⟨p,xs,_,z,rfl,ry,E7.of sq,hz,q z H' sm iz⟩)
  ·obtain⟨z,c,h1,q⟩:=q;exact .inr (.inr ⟨_,_,c,rx,ry,z,h1,q _ H' sm Z1j⟩)
  ·exact q.elim
def Q6k (X:Cx)(f:Ad)(g:M R->(R->Prop)->Prop):Prop:=
 Q6l X f (fun xs H Q=>∃rs,M9 X.K (fun _=>none) H rs xs/\g rs fun r=>∀v H',A4 H H'->E1 X.K H H' r v->Q v H')
def Q6q (g:M R->(R->Prop)->Prop):Prop:=∀x (P Q:R->Prop),(∀r,P r->Q r)->g x P->g x Q
variable {es:M Ag}{id:String}{g:M R->(R->Prop)->Prop}
def D4 (g:M R->(R->Prop)->Prop)(wr:WA):WE:=fun τ Q=>wr τ fun rs=>g rs Q
def Z3w (hc:Q6k X (.builtin id) g)(mg:Q6q g)(hg:Gl X x)(hm:X.mg x=none)(hv:bootBuiltins x=some (.builtin id))(ha:DA X H0 (e::es) wr)(hn:x≠"__name__":=by decide)(fG:(x==("__debug__":Str))=false:=by decide)
  (he:?I:=by rfl) (hpl:(backTo pos (starEach es X.env)).any (·.1)=false:=by rfl):DE X H0 (.Call (.Name x p) (e::es) [] pos) (D4 g wr) where
 mono:=fun τ P Q f h=>ha.mono τ _ _ (fun rs h=>mg rs P Q f h) h
 pe:=Q9 (Y6y hc hg hm hv ha.pa hn fG he hpl) fun σ H Q⟨τ,hR,h⟩=>⟨τ,hR,ha.mono τ _ _ (fun rs h vs H1 s1 eD=>⟨rs,eD.v,mg rs _ _ (fun r h v H' s2 ir=>h v H' (s1.trans s2) (ir.older s1)) h⟩) h⟩
def Y0h (hc:Q6k X (.type T) g)(mg:Q6q g)(hg:Gl X x)(hm:X.mg x=none)(hv:bootBuiltins x=some (.type T))(ha:DA X H0 (e::es) wr)(hn:x≠"__name__":=by decide)(fG:(x==("__debug__":Str))=false:=by decide)
  (he:?I:=by rfl) (hpl:(backTo pos (starEach es X.env)).any (·.1)=false:=by rfl):DE X H0 (.Call (.Name x p) (e::es) [] pos) (D4 g wr) where
 mono:=fun τ P Q f h=>ha.mono τ _ _ (fun rs h=>mg rs P Q f h) h
 pe:=Q9 (V1m hc hg hm hv ha.pa hn fG he hpl) fun σ H Q⟨τ,hR,h⟩=>⟨τ,hR,ha.mono τ _ _ (fun rs h vs H1 s1 eD=>⟨rs,eD.v,mg rs _ _ (fun r h v H' s2 ir=>h v H' (s1.trans s2) (ir.older s1)) h⟩) h⟩
def Q1q {r:R}  (h:M9 K H0 H [r] vs):∃v,vs=[v]/\E1 K H0 H r v:=by
 obtain⟨v,t,rfl,q,z⟩:=h;cases (show t=[]from z);exact⟨v,rfl,q⟩
def Z5x:R->(Nat->Prop)->Prop
 |.st (.str z),Q=>z.length<=sizeLine/\Q z.length
 |.st (.tup ds),Q=>Q ds.length
 |.st (.lst ds),Q=>Q ds.length
 |.nw ds,Q=>Q ds.length
 |.bw ds,Q=>Q ds.length
 |_,_=>False
def F3:M R->(R->Prop)->Prop
 |[r],Q=>Z5x r fun n=>Q (.st (.int n))
 |_,_=>False
def W8q:Q6q F3:=fun x P Q g h=>by
 unfold F3 at h ⊢;split at h
 ·unfold Z5x at h ⊢;split at h<;>first |exact g _ h |exact⟨h.1,g _ h.2⟩ |exact h
 ·exact h
def W4r:Q6k X (.builtin "len") F3:=by
 intro af s σ H xs us Q I rv ⟨rs,eD,h⟩;unfold F3 at h;split at h
 ·obtain⟨v,rfl,ir⟩:=Q1q eD;unfold Z5x at h;split at h
  ·cases (show v=.str _ from ir);exact Q8o af s σ H _ us Q I rv ⟨_,_,rfl,⟨h.1,rfl⟩,h.2 _ _ (A4.refl H) Q0x⟩
  ·have ir:A3 X.K H _ v:=ir;unfold A3 at ir;obtain⟨p,xs,rfl,sq,al⟩:=ir;exact Q8o af s σ H _ us Q I rv ⟨_,_,rfl,.inr ⟨xs,E7.of sq,rfl⟩,by rw[<-al.length];exact h _ _ (A4.refl H) Q0x⟩
  ·have ir:A3 X.K H _ v:=ir;unfold A3 at ir;obtain⟨p,xs,rfl,sq,al⟩:=ir;exact Q8o af s σ H _ us Q I rv ⟨_,_,rfl,.inl ⟨xs,sq.sq,rfl⟩,by rw[<-al.length];exact h _ _ (A4.refl H) Q0x⟩
  ·obtain⟨p,xs,rfl,_,sq,al⟩:=ir;exact Q8o af s σ H _ us Q I rv ⟨_,_,rfl,.inl ⟨xs,G0.of sq,rfl⟩,by rw[<-al.length];exact h _ _ (A4.refl H) Q0x⟩
  ·obtain⟨p,xs,rfl,sq,al⟩:=ir;exact Q8o af s σ H _ us Q I rv ⟨_,_,rfl,.inl ⟨xs,G0.of sq,rfl⟩,by rw[<-al.length];exact h _ _ (A4.refl H) Q0x⟩
  ·exact h.elim
 ·exact h.elim
def Q9r:R->Ac (M D)
 |.st (.tup ds)=>some ds
 |.st (.lst ds)=>some ds
 |.nw ds=>some ds
 |.bw ds=>some ds
 |_=>none
theorem V5x:∀{r:R}{ds:M D}{v:V},Q9r r=some ds->E1 K H0 H r v->∃a xs,v=.ref a/\(G0 K H a xs\/H a=some (.tup xs))/\AllS K H ds xs
 |.st (.tup ds),_,v,e,h=>by cases e;have h:A3 K H (.tup ds) v:=h;unfold A3 at h;obtain⟨a,xs,e,q,t⟩:=h;exact⟨a,xs,e,.inr q,t⟩
 |.st (.lst ds),_,v,e,h=>by cases e;have h:A3 K H (.lst ds) v:=h;unfold A3 at h;obtain⟨a,xs,e,q,t⟩:=h;exact⟨a,xs,e,.inl q.sq,t⟩
 |.nw ds,_,v,e,h=>by cases e;obtain⟨a,xs,e,n,q,t⟩:=h;exact⟨a,xs,e,.inl (G0.of q),t⟩
 |.bw ds,_,v,e,h=>by cases e;obtain⟨a,xs,e,q,t⟩:=h;exact⟨a,xs,e,.inl (G0.of q),t⟩
 |.st .non,_,_,e,_=>by cases e
 |.st (.bl _),_,_,e,_=>by cases e
 |.st (.int _),_,_,e,_=>by cases e
 |.st (.str _),_,_,e,_=>by cases e
 |.dk _,_,_,e,_=>by cases e
 |.dt _,_,_,e,_=>by cases e
 |.ob _,_,_,e,_=>by cases e
 |.cl _ _,_,_,e,_=>by cases e
 |.ms _ _ _ _,_,_,e,_=>by cases e
def T0:M R->(R->Prop)->Prop
 |[r],Q=>∃ds,Q9r r=some ds/\Q (.st (.tup ds))
 |_,_=>False
def V7q:Q6q T0:=fun x P Q g h=>by
 unfold T0 at h ⊢;split at h
 ·obtain⟨ds,e,q⟩:=h;exact⟨ds,e,g _ q⟩
 ·exact h
def W4w:Q6k X (.type "tuple") T0:=by
 intro af s σ H xs us Q I rv ⟨rs,eD,h⟩;unfold T0 at h;split at h
 ·obtain⟨v,rfl,ir⟩:=Q1q eD;obtain⟨ds,e,q⟩:=h;obtain⟨a,xs,rfl,sq,al⟩:=V5x e ir;refine W4x af s σ H _ us Q I rv ⟨a,xs,rfl,?_⟩;rcases sq with sq |sq
  ·exact .inl ⟨sq,fun l hl=>q _ _ (K2 hl _) (A3.s_tup (K:=X.K) upd_same (al.mono (Kp.of (K2 hl _)) _ _))⟩
  ·exact .inr ⟨E7.of sq,q _ _ (A4.refl H) (A3.s_tup (K:=X.K) (H:=H) sq al)⟩
 ·exact h.elim
end
abbrev WG:=D->B5->(B5->Prop)->Prop
def W8v (K:Fg9)(H0:Hp)(g:WG):TG:=fun v σ H Q=>∃ τ d,B6 K H0 τ σ H/\A3 K H d v/\g d τ fun τ'=>∀ σ' H',A4 H H'->B6 K H0 τ' σ' H'->Q σ' H'
structure DG (X:Cx)(H0:Hp)(tg:Ag)(g:WG):Prop where
 mono:∀d τ (P Q:B5->Prop),(∀ τ,P τ->Q τ)->g d τ P->g d τ Q
 pg:PG X tg (W8v X.K H0 g)
abbrev WGs:=M D->B5->(B5->Prop)->Prop
variable {gs:WGs}
def W8w (K:Fg9)(H0:Hp)(g:WGs):TGs:=fun vs σ H Q=>∃ τ ds,B6 K H0 τ σ H/\AllS K H ds vs/\g ds τ fun τ'=>∀ σ' H',A4 H H'->B6 K H0 τ' σ' H'->Q σ' H'
structure DGs (X:Cx)(H0:Hp)(tg:M Ag)(g:WGs):Prop where
 mono:∀d τ (P Q:B5->Prop),(∀ τ,P τ->Q τ)->g d τ P->g d τ Q
 pg:PGs X tg (W8w X.K H0 g)
def pgW {t t':TG}(h:PG X e t)(f:∀v σ H Q,t' v σ H Q->t v σ H Q):PG X e t':=fun af s σ H v u Q I r q=>h af s σ H v u Q I r (f v σ H Q q)
def pgsW {e:M Ag}{t t':TGs}(h:PGs X e t)(f:∀v σ H Q,t' v σ H Q->t v σ H Q):PGs X e t':=fun af s σ H v u Q I r q=>h af s σ H v u Q I r (f v σ H Q q)
section
variable {a b:Ag}{es:M Ag}
def B7 (i:Nat):WG:=fun d τ Q=>Q (τ.set i (some (.dat d)))
def DG.nm {i:Nat}  (hN:X.N.Nodup)(hi:X.N[i]?=some x)(hx:Loc X.env.scope x)(hf:?J:=by first |exact .inl rfl |exact .inr rfl |assumption):DG X H0 (.Name x pos) (B7 i) where
 mono:=fun d τ P Q f h=>f _ h
 pg:=pgW (Y7e hN hi hx hf) fun v σ H Q cw=>(by obtain⟨τ,d,hR,iv,h⟩:=cw;exact h _ _ (A4.refl H) (hR.set iv fun m=>by cases m))
def N2:WGs:=fun ds τ Q=>ds=[]/\Q τ
def D7 (g:WG)(gs:WGs):WGs:=fun ds τ Q=>∃d r,ds=d::r/\g d τ fun τ'=>gs r τ' Q
def DGs.nil:DGs X H0 [] N2 where
 mono:=fun d τ P Q f h=>⟨h.1,f _ h.2⟩
 pg:=pgsW V2h fun vs σ H Q cw=>by
  obtain⟨τ,ds,hR,al,h1,h2⟩:=cw;subst h1;unfold AllS at al;exact⟨al,h2 σ H (A4.refl H) hR⟩
def DGs.cons {g:WG}  (h1:DG X H0 e g)(h2:DGs X H0 es gs)(hs:(assignEach (e::es) X.env).map (·.2)=assign e X.env::(assignEach es X.env).map (·.2):=by rfl):DGs X H0 (e::es) (D7 g gs) where
 mono:=fun d τ P Q f⟨x,r,e1,h⟩=>⟨x,r,e1,h1.mono x τ _ _ (fun τ' h=>h2.mono r τ' P Q f h) h⟩
 pg:=pgsW (V2g h1.pg h2.pg hs) fun vs σ H Q de=>by
  obtain⟨τ,ds,hR,al,d,r,e1,h⟩:=de;subst e1;unfold AllS at al;obtain⟨v,t,rfl,iv,al⟩:=al;exact⟨v,t,rfl,τ,d,hR,iv,h1.mono d τ _ _ (fun τ' h σ' H' sm eO=>⟨τ',r,eO,al.mono (Kp.of sm) _ _,h2.mono r τ' _ _ (fun τ2 h σ2 H2 s2 eK=>h σ2 H2 (sm.trans s2) eK) h⟩) h⟩
def M6 (n:Nat)(gs:WGs):WG:=fun d τ Q=>∃ds,d=.tup ds/\ds.length=n/\gs ds τ Q
def W1u {k:Nat}  (hc:X.calm=true)(h:DGs X H0 es gs)(hn:(assignEach es X.env).length=n:=by rfl)(rO:(assignEach es X.env).findIdx? (·.1)=none:=by rfl):DG X H0 (.Tuple es k pos) (M6 n gs) where
 mono:=fun d τ P Q f⟨ds,e1,e2,q⟩=>⟨ds,e1,e2,h.mono ds τ P Q f q⟩
 pg:=pgW (V2f hc h.pg hn rO) fun v σ H Q eI=>by
  obtain⟨τ,d,hR,iv,ds,e1,e2,q⟩:=eI;subst e1;unfold A3 at iv;obtain⟨p,xs,rfl,sq,al⟩:=iv;exact⟨p,xs,rfl,E7.of sq,by rw[<-al.length];exact e2,τ,ds,hR,al,q⟩
def Q8g {g:WG}(he:DE X H0 e we)(hg:DG X H0 tg g)(hs:swapsWithSole [tg] e pos.line X.env=pure false:=by rfl)(hw:swappedStores [tg] e X.env=pure none:=by rfl)
  (h1:(assignEach [tg] X.env).map (·.2)=[assign tg X.env]:=by rfl):DS X H0 (.Assign [tg] e pos) (fun E τ=>we τ fun r=>∃d,r=.st d/\g d τ E.nx) where
 mono:=fun τ E F le h=>he.mono τ _ _ (fun r⟨d,e1,h⟩=>⟨d,e1,hg.mono d τ _ _ le.nx h⟩) h
 ps:=U2 (Y7m he.pe hg.pg hs hw h1) fun D σ H ⟨τ,hR,h⟩=>⟨τ,hR,he.mono τ _ _ (fun r gv v H1 s1 ir=>by
  obtain⟨d,e1,h⟩:=gv;subst e1;exact⟨τ,d,hR.mono s1,ir,hg.mono d τ _ _ (fun τ' h σ' H' s2 eO=>h σ' H' (Kp.of (s1.trans s2)) eO) h⟩) h⟩
structure Yl (K:Fg9)(H0:Hp)(J:It)(ds:M D)(H:Hp):Prop where
 go:∀H',Kp H H'->A4 H0 H'->∀i,i<ds.length->J.go i H'
 yld:∀H',Kp H H'->A4 H0 H'->∀i x fz d,ds[i]?=some d->J.yld i H' x fz->A4 H' fz/\A3 K fz d x
 stop:∀H',Kp H H'->A4 H0 H'->J.stop ds.length H'
abbrev WI:=B5->(M D->B5->Prop)->Prop
def W8x (K:Fg9)(H0:Hp)(wi:WI):TI:=fun σ H R=>∃ τ,B6 K H0 τ σ H/\wi τ fun ds τ'=>∀J H',Kp H H'->B6 K H0 τ' σ H'->Yl K H0 J ds H'->R J H'
structure DI (X:Cx)(H0:Hp)(tg iter:Ag)(wi:WI):Prop where
 mono:∀ τ (P Q:M D->B5->Prop),(∀ds τ,P ds τ->Q ds τ)->wi τ P->wi τ Q
 pi:PI X tg iter (W8x X.K H0 wi)
def piW {t t':TI}(h:PI X tg e t)(f:∀ σ H Q,t' σ H Q->t σ H Q):PI X tg e t':=fun af s σ H R I q=>h af s σ H R I (f σ H R q)
def V8o {a:Af}  {ds:M D}(hq:∀H',Kp H H'->A4 H0 H'->G0 K H' a xs)(al:AllS K H ds xs):Yl K H0 (Itl K a) ds H where
 go:=fun H' k s i hi=>⟨xs,xs[i]'(by rw[<-al.length];exact hi),hq H' k s,ac _⟩
 yld:=fun H' k s i x fz d hd gu=>by
  obtain⟨e,y⟩:=gu;subst e;have hx:=y xs (hq _ k s);obtain⟨v,hv,q⟩:=(al.mono k _ _).get hd;rw[hx]at hv;cases hv;exact⟨A4.refl _,q⟩
 stop:=fun H' k s=>⟨xs,hq H' k s,by rw[al.length];exact ao _⟩
def DI.lst (he:DE X H0 e we):DI X H0 tg e (fun τ Q=>we τ fun r=>∃ds,r=.st (.lst ds)/\Q ds τ) where
 mono:=fun τ P Q f h=>he.mono τ _ _ (fun r⟨ds,e1,q⟩=>⟨ds,e1,f _ _ q⟩) h
 pi:=piW (Y7f he.pe) fun σ H R ⟨τ,hR,h⟩=>⟨τ,hR,he.mono τ _ _ (fun r jQ v H1 s1 ir=>by
  obtain⟨ds,e1,q⟩:=jQ;subst e1;have ir:A3 X.K H1 (.lst ds) v:=ir;unfold A3 at ir;obtain⟨a,xs,rfl,sq,al⟩:=ir;exact⟨a,rfl,⟨xs,sq.sq⟩,q _ _ (Kp.of s1) (hR.mono s1) (V8o (fun H' k _=>(k.fzL sq).sq) al)⟩) h⟩
def B6.freeze {i:Nat}{ds:M D}{a:Af}   (hR:B6 K H0 τ σ H)(e1:τ[i]?=some (some (.own ds)))(hv:σ[i]?=some (some (.ref a)))(h0:H0 a=none)(sq:H a=some (.lst xs))(al:AllS K H ds xs):
  B6 K H0 (τ.set i (some (.dat (.lst ds)))) σ (A6 H a (.frz o (.lst xs))):=by
 have kp:Kp H (A6 H a (.frz o (.lst xs))):=Q6o sq _;have hl:i<τ.length:=by
  rcases bf i τ.length with h |h
  ·exact h
  ·rw[aF.mpr h]at e1;cases e1
 refine⟨by rw[bB];exact hR.len,fun b ob hb=>?_,fun j s e=>?_,fun j k s t v dO e2 e3 m1 m2 q1 q2=>?_⟩
 ·rw[A7 (V0 hb h0)];exact hR.same b ob hb
 ·by_cases hj:j=i
  ·subst hj;rw[Q1s hl]at e;cases e;exact⟨_,hv,A3.s_lst (K:=K) (.inl ⟨o,upd_same⟩) (al.mono kp _ _)⟩
  ·rw[aL (fun z=>hj z.symm)]at e;obtain⟨v,q,r⟩:=hR.here j s e;refine⟨v,q,?_⟩;have ap:s.mut=true->v≠.ref a:=fun m z=>by
    subst z;exact hR.apart i j _ s (.ref a) (fun z=>hj z.symm) e1 e rfl m hv q
   cases s with
   |dat d=>exact A3.mono kp _ _ r
   |own es=>accm_mu
   |bor es=>obtain⟨b,ys,e,q,t⟩:=r;exact⟨b,ys,e,q,t.mono kp _ _⟩
   |bd es=>obtain⟨b,ys,e,q,t⟩:=r;exact⟨b,ys,e,q,t.mono kp _ _⟩
   |dk es=>accm_mu
   |dt es=>accm_mu
   |ob _=>exact r
   |cl _ _=>exact⟨r.1,r.2.2 _ _ kp r.2.1,r.2.2⟩
   |ll _ _=>exact⟨r.1,r.2.keep kp fun b φ q=>by rw[A7 (Q0z q sq (by intro z;cases z))];exact q⟩
   |ins _ _ _=>obtain⟨e,n,dx,ys,q,t⟩:=r;exact⟨e,n,dx,ys,by rw[A7 (fun z=>ap rfl (by rw[e,z]))];exact q,t.mono kp _ _⟩
 ·by_cases hj:j=i
  ·subst hj;rw[Q1s hl]at e2;cases e2;cases m1
  ·by_cases hk:k=i
   ·subst hk;rw[Q1s hl]at e3;cases e3;cases m2
   ·rw[aL (fun z=>hj z.symm)]at e2;rw[aL (fun z=>hk z.symm)]at e3;exact hR.apart j k s t v dO e2 e3 m1 m2 q1 q2
def DI.tup (he:DE X H0 e we):DI X H0 tg e (fun τ Q=>we τ fun r=>∃ds,r=.st (.tup ds)/\Q ds τ) where
 mono:=fun τ P Q f h=>he.mono τ _ _ (fun r⟨ds,e1,q⟩=>⟨ds,e1,f _ _ q⟩) h
 pi:=piW (Y7h he.pe) fun σ H R ⟨τ,hR,h⟩=>⟨τ,hR,he.mono τ _ _ (fun r jU v H1 s1 ir=>by
  obtain⟨ds,e1,q⟩:=jU;subst e1;have ir:A3 X.K H1 (.tup ds) v:=ir;unfold A3 at ir;obtain⟨a,xs,rfl,sq,al⟩:=ir;refine⟨a,rfl,⟨xs,E7.of sq⟩,q _ _ (Kp.of s1) (hR.mono s1) ⟨fun H' k _ i hi=>⟨xs,xs[i]'(by rw[<-al.length];exact hi),E7.of (k.tup _ _ sq),ac _⟩,fun H' k _ i x fz d hd ⟨e,y⟩=>?_,fun H' k _=>⟨xs,E7.of (k.tup _ _ sq),by rw[al.length];exact ao _⟩⟩⟩;subst e;have hx:=y xs (E7.of (k.tup _ _ sq));obtain⟨v,hv,q⟩:=(al.mono k _ _).get hd;rw[hx]at hv;cases hv;exact⟨A4.refl _,q⟩) h⟩
def V2 (lo:Int)(n:Nat):M D:=(List.range n).map fun(i:Nat)=>.int (lo+(i:Int))
def Z3u:Yl K H0 (Itr lo n) (V2 lo n) H where
 go:=fun H' _ _ i hi=>by
  have:i<n:=by simpa [V2]using hi
  exact this
 yld:=fun H' _ _ i x fz d hd jT=>by
  obtain⟨e,y⟩:=jT;subst e;refine⟨A4.refl _,?_⟩;unfold V2 at hd;rw[ah]at hd;rcases bf i n with hi |hi
  ·rw[List.getElem?_range hi]at hd;have e:D.int (lo+i)=d:=aA hd;subst e y;exact Q3k
  ·rw[aF.mpr (by simpa using hi)]at hd;cases hd
 stop:=fun H' _ _=>by
  show n<=(V2 lo n).length;simp[V2]
def DI.rng1 (hg:Gl X "range")(hm:X.mg "range"=none)(ha:DA X H0 [a] wr)(hs:starEach [a] X.env=[(false,eval a X.env)]:=by rfl):
  DI X H0 tg (.Call (.Name "range" p) [a] [] pos) (fun τ Q=>wr τ fun rs=>∃j:Int,rs=[.st (.int j)]/\-(2^62)<=j/\j<2^62/\Q (V2 0 j.toNat) τ) where
 mono:=fun τ P Q f h=>ha.mono τ _ _ (fun r⟨j,e1,h1,h2,q⟩=>⟨j,e1,h1,h2,f _ _ q⟩) h
 pi:=piW (Y7g hg hm ha.pa hs) fun σ H R ⟨τ,hR,h⟩=>⟨τ,hR,ha.mono τ _ _ (fun r iM vs H1 s1 eD=>by
  obtain⟨j,e1,h1,h2,q⟩:=iM;subst e1;obtain⟨v,rfl,ir⟩:=Q1q eD;cases (show v=.int j from ir);exact⟨j,rfl,h1,h2,q _ _ (Kp.of s1) (hR.mono s1) Z3u⟩) h⟩
def W4a {r r':R}  (h:M9 K H0 H [r,r'] vs):∃v u,vs=[v,u]/\E1 K H0 H r v/\E1 K H0 H r' u:=by
 obtain⟨v,t,rfl,q,z⟩:=h;obtain⟨u,rfl,q'⟩:=Q1q z;exact⟨v,u,rfl,q,q'⟩
def F6 (g:WG)(wb:WS)(E:J4):M D->B5->Prop
 |[],τ=>E.nx τ
 |d::ds,τ=>g d τ fun τ'=>wb {E with nx:=F6 g wb E ds,ct:=F6 g wb E ds,bk:=E.nx} τ'
theorem Z5e {g:WG}{wb:WS}(hg:∀d τ (P Q:B5->Prop),(∀ τ,P τ->Q τ)->g d τ P->g d τ Q)(hb:∀(τ:B5) (E F:J4),E.Le F->wb E τ->wb F τ){E F:J4}(le:E.Le F):∀(ds:M D) (τ:B5),F6 g wb E ds τ->F6 g wb F ds τ
 |[],τ,h=>le.nx τ h
 |d::ds,τ,h=>hg d τ _ _ (fun τ' h=>hb τ' {E with nx:=F6 g wb E ds,ct:=F6 g wb E ds,bk:=E.nx} {F with nx:=F6 g wb F ds,ct:=F6 g wb F ds,bk:=F.nx} ⟨fun τ h=>Z5e hg hb le ds τ h,le.rt,le.nx,fun τ h=>Z5e hg hb le ds τ h⟩ h) h
def DS.for {wi:WI}{g:WG}{wb:WS}(hp:PassesOwn ?C X.A X.env X.xe)(hc:X.calm=true)(hi:DI X H0 tg iter wi)(hg:DG X H0 tg g)(hb:A8 X H0 body wb)
  (hs:∀x,foldedSetIterable iter X.env x=pure x:=by intro _;rfl):DS X H0 (.For tg iter body [] pos) (fun E τ=>wi τ fun ds τ'=>F6 g wb E ds τ') where
 mono:=fun τ E F le h=>hi.mono τ _ _ (fun ds τ' h=>Z5e hg.mono hb.mono le ds τ' h) h
 ps:=U2 (V2l hp hc hi.pi hg.pg hb.ps hs) fun D σ H ⟨τ,hR,h⟩=>⟨τ,hR,hi.mono τ _ _ (fun ds τ' h J H1 k1 fY yl=>by
  refine⟨fun i m σ H2=>∃ τ,B6 X.K H0 τ σ H2/\Kp H1 H2/\i<=ds.length/\m=ds.length-i/\F6 g wb (P0 X.K H0 H D) (ds.drop i) τ,⟨ds.length,τ',fY,Kp.refl _,bz _,rfl,h⟩,?_⟩;rintro i m σ2 H2 ⟨τ2,eK,k2,ip,rfl,h2⟩
  by_cases bU:i<ds.length
  ·refine .inr ⟨yl.go H2 k2 eK.same i bU,fun σ' H'=>∃ τ,B6 X.K H0 τ σ' H'/\Kp H1 H'/\i+1<=ds.length/\F6 g wb (P0 X.K H0 H D) (ds.drop (i+1)) τ,fun σ' H' gu=>(by obtain⟨τ3,a3,b3,c3,d3⟩:=gu;exact⟨ds.length-(i+1),by omega,τ3,a3,b3,c3,rfl,d3⟩),fun x H3 y=>?_⟩;obtain⟨s3,ix⟩:=yl.yld H2 k2 eK.same i x H3 _ (ac bU) y;rw[bJ bU]at h2;have k3:=k2.trans (Kp.of s3);refine⟨τ2,ds[i],eK.mono s3,ix,hg.mono _ _ _ _ (fun τ4 h4 σ4 H4 s4 kn=>⟨τ4,kn,?_⟩) h2⟩;have k4:=k3.trans (Kp.of s4);have k5:=k1.trans k4;exact hb.mono τ4 {P0 X.K H0 H D with nx:=F6 g wb (P0 X.K H0 H D) (ds.drop (i+1)),ct:=F6 g wb (P0 X.K H0 H D) (ds.drop (i+1)),bk:=(P0 X.K H0 H D).nx} _
    ⟨fun τ5 h5 σ5 H5 kk lW=>⟨τ5,lW,k4.trans kk,bU,h5⟩,fun _ h=>h,fun τ5 h5 σ5 H5 kk lW=>h5 σ5 H5 (k5.trans kk) lW,fun τ5 h5 σ5 H5 kk lW=>⟨τ5,lW,k4.trans kk,bU,h5⟩⟩ h4
  ·have e:i=ds.length:=by omega
   subst e;rw[cF]at h2;exact .inl ⟨yl.stop H2 k2 eK.same,h2 σ2 H2 (k1.trans k2) eK⟩) h⟩
end
def S7 (env:Env):M (Str×NameKind)->M (Str×Af)->M (Str×Af)
 |[],c6=>c6
 |(n,k)::r,c6=>S7 env r (if (k==NameKind.free)=true then(n,(env.cells.lookup n).getD 0)::c6 else c6)
def Q8r {env:Env}(h:∀y∈scope.names,y.2=.free->∃c,env.cells.lookup y.1=some c):closureFor scope env=pure (S7 env scope.names []):=by
 have key:∀(l:M (Str×NameKind)) (c6:M (Str×Af)),(∀y∈l,y.2=.free->∃c,env.cells.lookup y.1=some c) ->
   (forIn l c6 fun x r=>(if (x.2==NameKind.free)=true then cellOf env x.1>>=fun c=>pure (ForInStep.yield ((x.1,c)::r))else pure (ForInStep.yield r):Sem (ForInStep (M (Str×Af)))))=pure (S7 env l c6):=by
  intro l
  induction l with
  |nil=>intro c6 _;rfl
  |cons x r ih=>
   intro c6 hl;obtain⟨n,k⟩:=x;have hr:∀y∈r,y.2=.free->∃c,env.cells.lookup y.1=some c:=fun y hy=>hl y (ak _ hy);rw[bF]
   by_cases hk:(k==NameKind.free)=true
   ·obtain⟨c,hc⟩:=hl (n,k) am (eq_of_beq hk);have hc:env.cells.lookup n=some c:=hc;have e:cellOf env n=pure c:=by unfold cellOf;rw[hc]
    show((if (k==NameKind.free)=true then cellOf env n>>=fun c=>pure (ForInStep.yield ((n,c)::c6))else pure (ForInStep.yield c6))>>=_)=_;rw[aQ hk,e];show _=pure (S7 env r (if (k==NameKind.free)=true then(n,(env.cells.lookup n).getD 0)::c6 else c6));rw[aQ hk,hc];exact ih _ hr
   ·show((if (k==NameKind.free)=true then cellOf env n>>=fun c=>pure (ForInStep.yield ((n,c)::c6))else pure (ForInStep.yield c6))>>=_)=_;rw[aI hk];show _=pure (S7 env r (if (k==NameKind.free)=true then(n,(env.cells.lookup n).getD 0)::c6 else c6));rw[aI hk];exact ih _ hr
 simp only[closureFor];rw[key scope.names [] h]
 rfl
theorem Y2r {env:Env}:∀(l:M (Str×NameKind)) (c6:M (Str×Af)) (p:Str×Af),p∈S7 env l c6->p∈c6\/((p.1,NameKind.free)∈l/\p.2=(env.cells.lookup p.1).getD 0)
 |[],c6,p,h=>.inl h
 |(n,k)::r,c6,p,h=>by
  rcases Y2r r _ p h with q |⟨q1,q2⟩
  ·by_cases hk:(k==NameKind.free)=true
   ·rw[aQ hk]at q;rcases av.mp q with q |q
    ·refine .inr ⟨?_,by rw[q]⟩;have:k=NameKind.free:=eq_of_beq hk;rw[q,this];exact am
    ·exact .inl q
   ·rw[aI hk]at q;exact .inl q
  ·exact .inr ⟨ak _ q1,q2⟩
theorem Y2q {env:Env}:∀(l:M (Str×NameKind)) (c6:M (Str×Af)) (n:Str),((n,NameKind.free)∈l\/∃c,(n,c)∈c6)->∃c,(n,c)∈S7 env l c6
 |[],c6,n,h=>by
  rcases h with h |h
  ·cases h
  ·exact h
 |(m,k)::r,c6,n,h=>by
  refine Y2q r _ n ?_;rcases h with h |⟨c,h⟩
  ·rcases av.mp h with e |h
   ·cases e;refine .inr ⟨(env.cells.lookup m).getD 0,?_⟩;rw[aQ (by rfl)];exact am
   ·exact .inl h
  ·refine .inr ⟨c,?_⟩;split
   ·exact ak _ h
   ·exact h
theorem Z6b:∀{l:M (Str×α)}{x:Str}{c:α},l.lookup x=some c->(x,c)∈l:=by intro l;induction l<;>grind [j5,am,ak]
theorem Y5p:∀{l:M (Str×α)}{x:Str}{c:α},(x,c)∈l->∃d,l.lookup x=some d
 |[],_,_,h=>by cases h
 |(n,d)::r,x,c,h=>by
  rw[j5];cases e:x==n with
  |true=>exact⟨d,rfl⟩
  |false=>
   rcases av.mp h with q |q
   ·cases q;simp at e
   ·exact Y5p q
def blk (X:Cx)(scope:Scope)(C:Af)(s:Ae)(H:Hp)(fp:M Af)(N:M Str):Cx:=
 {X with N:=N,s₀:=s,H₀:=H,env:=compEnvC scope (S7 X.env scope.names []) C X.env,outer:=X.stack,ex:=fp,fn:=fun _=>false,pn:=[],xe:=fun _ _=>False}
structure Blk (X:Cx)(scope:Scope)(N:M Str)(nt:Nat)(cap:M Nat):Prop where
 kind:scope.kind=.function
 cell:∀y∈scope.names,y.2≠.cell
 names:∀y∈scope.names,y.2=.local->scope.names.lookup y.1=some .local
 only:∀y∈scope.names,y.2=.free->scope.names.lookup y.1=some .free
 free:∀y∈scope.names,y.2=.free->X.env.kindOf y.1=some .cell\/X.env.kindOf y.1=some .free
 len:N.length=nt+cap.length
 caps:∀(j i:Nat) (x:Str),cap[j]?=some i->N[nt+j]?=some x->X.N[i]?=some x/\(x,NameKind.free)∈scope.names
section
variable {nt:Nat}
def X9 (I:?B)(B:Blk X scope N nt cap)  {c:Af}(h:(S7 X.env scope.names []).lookup x=some c):X.env.cells.lookup x=some c:=by
 rcases Y2r _ _ _ (Z6b h)with q |⟨q1,q2⟩
 ·cases q
 ·obtain⟨d,hd⟩:=I.ok.has x (B.free _ q1 rfl);have q2:c=(X.env.cells.lookup x).getD 0:=q2;rw[hd]at q2 ⊢;rw[q2];rfl
def Z4r (I:?B)(B:Blk X scope N nt cap)  (h:(x,NameKind.free)∈scope.names):∃c,(S7 X.env scope.names []).lookup x=some c:=by
 obtain⟨c,hc⟩:=Y2q (env:=X.env) scope.names [] x (.inl h);exact Y5p hc
def Y7u {env:Env}  {k:NameKind}(h:(relabel scope env).names.lookup x=some k)(hk:k=.cell\/k=.free)(nc:∀y∈scope.names,y.2≠.cell):(x,NameKind.free)∈scope.names:=by
 have m:=Z6b h;unfold relabel at m;obtain⟨⟨n,k'⟩,hm,e⟩:=au.mp m;dsimp only at e;split at e
 ·rename_i hc;cases e;simp only[bD]at hc;have:k'=NameKind.free:=eq_of_beq hc.1.1;rw[<-this];exact hm
 ·cases e;rcases hk with rfl |rfl
  ·exact absurd rfl (nc _ hm)
  ·exact hm
def W4i (I:?B)(B:Blk X scope N nt cap){C:Af}  (hC:s.heap.objs.size<=C)(hf:∀b∈fp,J5 X af H b)(gW:∀b∈fp,b<s.heap.objs.size):(blk X scope C s H fp N).Ok where
 mod:=I.ok.mod
 kind:=B.kind
 glob:=I.ok.glob
 blt:=I.ok.blt
 above:=hC
 inj:=fun x y c h1 h2=>I.ok.inj x y c (X9 I B h1) (X9 I B h2)
 has:=fun x h=>by
  rcases h with h |h
  ·exact Z4r I B (Y7u h (.inl rfl) B.cell)
  ·exact Z4r I B (Y7u h (.inr rfl) B.cell)
 cab:=fun x c h=>by cases h
 hd:=I.ok.hd
 frames:=I.ok.frames
 stk:=.inl rfl
 exf:=fun b hb=>⟨ax (ay (gW b hb) hC),fun x c h=>(hf b hb).2.2.2.2.1 x c (X9 I B h)⟩
 bs:=I.bs
 bsz:=aO I.ok.bsz I.sz
 noex:=fun b o e hb=>by
  rcases (hf b hb).2.2.2.1 with z |z
  ·exact I.ok.noex b o e z
  ·exact absurd (ay (aw e) (aO I.ok.bsz z)) (aS _)
 exfs:=fun b hb z=>by
  rcases av.mp (I.stkSub b z)with e |e
  ·exact(hf b hb).2.1 e
  ·exact(hf b hb).2.2.1 e
 funs:=I.stack
 frf:=I.stkFree
theorem Q8m (I:?B)(B:Blk X scope N nt cap){C:Af}  (hf:∀b∈fp,J5 X af H b)(gW:∀b∈fp,b<s.heap.objs.size)   {m:Str->Ac Ad}
  (hC:s.heap.objs.size<=C) (lO:h'.Ns C m) (k:∀b o,s.heap.get? b=some o->h'.get? b=some o):
  A1 (blk X scope C s H fp N) [] (List.replicate nt none++cap.map fun i=>(σ[i]?).join) H {s with heap:=h',toks:=t'}:=by
 refine⟨W4i I B hC hf gW,rfl,I.bare,Un.kept k,⟨m,lO,fun i x v h1 h2 h3=>?_⟩,fun x c h=>?_,I.hok.fresh hC,fun x c h=>I.freeC x c (X9 I B h),(fun p hp=>by cases hp),I.hok.kept k,?_⟩
 ·have h1:N[i]?=some x:=h1
  by_cases hi:i<nt
  ·rw[aB (by rw[b7];exact hi)]at h2;have:=az h2;rw[i0]at this;cases this.2
  ·rw[aK (by rw[b7];lia),b7,ah]at h2;cases e:cap[i-nt]? with
   |none=>rw[e]at h2;cases h2
   |some j=>
    rw[e]at h2;have h2:(σ[j]?).join=some v:=aA h2;have hσ:σ[j]?=some (some v):=by
     cases q:σ[j]? with
     |none=>rw[q]at h2;cases h2
     |some o=>rw[q]at h2;exact congrArg some h2
    obtain⟨hN,hx⟩:=B.caps (i-nt) j x e (by rw[show nt+(i-nt)=i by lia];exact h1);obtain⟨m0,yH,hl⟩:=I.loc;have kd:=B.free _ hx rfl;obtain⟨u,r,l⟩:=hl j x v hN hσ (.inr kd);refine⟨u,r,?_⟩;obtain⟨c,hc⟩:=Z4r I B hx;have dP:∃c',X.env.cells.lookup x=some c'/\s.heap.IsCell c' (some u):=by
     rcases l with⟨l1,_⟩ |⟨_,l2⟩
     ·rcases kd with kd |kd
      ·rw[kd]at l1;cases l1
      ·rw[kd]at l1;cases l1
     ·exact l2
    obtain⟨c',dW,o,ho,hd⟩:=dP;rw[X9 I B hc]at dW;cases dW;have h3:Vis (relabel scope X.env) x:=h3;refine .inr ⟨?_,c,hc,o,k _ _ ho,hd⟩;rcases h3 with h3 |h3 |h3
    ·exfalso;have m1:=Z6b h3;unfold relabel at m1;obtain⟨⟨n,k'⟩,hm,e'⟩:=au.mp m1;dsimp only at e';split at e'
     ·cases e'
     ·cases e';have a1:=B.names _ hm rfl;have a1:scope.names.lookup x=some .local:=a1;rw[B.only _ hx rfl]at a1;cases a1
    ·exact .inl h3
    ·exact .inr h3
 ·obtain⟨v,o,ho,hd⟩:=I.cell x c (X9 I B h);exact⟨v,o,k _ _ ho,hd⟩
 ·rw[aC,b7,ag];exact B.len.symm
end
section
variable {w:Ak}{A:Ah}{RR:Result->Ae->Prop}
theorem Z4s {target:Ag}{iL:M Ag}   {it:Ad}{env:Env}(I:Nat->Ae->Prop)
  (gb:∀n s,I n s->wpAny (model prog w) A (pyNext it) (fun r s₁=>match r with
   |none=>RR (.ok .next) s₁
   | some v=>wpAny (model prog w) A (letOwnedTupleGo target it v) (fun _ sa=>wpAny (model prog w) A (assign target env v) (fun _ s₂=>
     wpAny (model prog w) A (forIn iL true fun c r=>if r=true then do let ok <- isTrue c env (eval c env);pure (ForInStep.yield ok)else pure (ForInStep.yield r)) (fun ok s₃=>
      if ok=true then wpAny (model prog w) A (eval dv env) (fun x s₄=>
       wpAny (model prog w) A (call (.builtin "list.append") [c6,x]) (fun _ s₅=>∃m,m<n/\I m s₅) (fun _ _=>False) s₄) (fun _ _=>False) s₃
      else ∃m,m<n/\I m s₃) (fun _ _=>False) s₂) (fun _ _=>False) sa) (fun _ _=>False) s₁) (fun _ _=>False) s)
  (n:Nat) (h:I n s):codeAny (model prog w) A (.compLoop (.ListComp dv [⟨target,iter,iL,0⟩] scope pos) 0 it c6 env) RR s:=by
 refine lw rfl I (fun n s hI=>?_) n h;show wpAny _ _ ((compTurn (.ListComp dv [⟨target,iter,iL,0⟩] scope pos) 0 it c6 env).onRaise (fun x=>do noteFrame x env;theTreesLotGoes x)) _ _ s;refine nC ?_;rw[compTurn_list];refine aa (bP (aa (aE (gb n s hI) (fun r s₁ h₁=>?_) fun _ _ h'=>h'.elim)));cases r with
 |none=>exact aj h₁
 |some v=>
  refine aa (aE h₁ (fun _ sa ha=>?_) fun _ _ h'=>h'.elim);refine aa (aE ha (fun _ s₂ h₂=>aa (aE h₂ (fun ok s₃ h₃=>?_) fun _ _ h'=>h'.elim)) fun _ _ h'=>h'.elim);cases ok with
  |false=>exact aj ⟨rfl,h₃⟩
  |true=>
   exact aa (aa (aE h₃ (fun x s₄ h₄=>aa (aE h₄ (fun _ s₅ h₅=>aj (aj ⟨rfl,h₅⟩)) fun _ _ h'=>h'.elim)) fun _ _ h'=>h'.elim))
end
structure YlS (K:Fg9)(J:It)(ds:M D)(H:Hp):Prop where
 go:∀H',A4 H H'->∀i,i<ds.length->J.go i H'
 yld:∀H',A4 H H'->∀i x fz d,ds[i]?=some d->J.yld i H' x fz->A4 H' fz/\A3 K fz d x
 stop:∀H',A4 H H'->J.stop ds.length H'
abbrev T5:=B5->(M D->Prop)->Prop
variable {wi:T5}
def W8y (K:Fg9)(H0:Hp)(wi:T5):TI:=fun σ H R=>∃ τ,B6 K H0 τ σ H/\wi τ fun ds=>∀J H',A4 H H'->YlS K J ds H'->R J H'
structure L0 (X:Cx)(H0:Hp)(tg iter:Ag)(wi:T5):Prop where
 mono:∀ τ (P Q:M D->Prop),(∀ds,P ds->Q ds)->wi τ P->wi τ Q
 pi:PI X tg iter (W8y X.K H0 wi)
def IfsR (X:Cx)(iL:M Ag)(t:TT):Prop:=
 ∀(af:Pn9) (s:Ae) (σ:S5) (H:Hp) (Q:Bool->Hp->Prop),?B->t σ H Q ->
  wpAny ?C X.A (forIn iL true fun c r=>if r=true then do let ok <- isTrue c X.env (eval c X.env);pure (ForInStep.yield ok)else pure (ForInStep.yield r)) (TP X af σ Q) X.xe s
structure U5 (X:Cx)(H0:Hp)(iL:M Ag)(t:WT):Prop where
 mono:∀(τ:B5) (P Q:Bool->Prop),(∀r,P r->Q r)->t τ P->t τ Q
 pt:IfsR X iL (Z5z X.K H0 t)
def U5.nil:U5 X H0 [] (fun _ Q=>Q true) where
 mono:=fun τ P Q f h=>f _ h
 pt:=fun af s σ H Q I⟨τ,hR,h⟩=>dR ⟨H,I,h H (A4.refl H)⟩
def U5.one {c:Ag}{t:WT}(hc:DT X H0 c t):U5 X H0 [c] t where
 mono:=hc.mono
 pt:=fun af s σ H Q I h=>wpAny_tests_one (hc.pt af s σ H Q I h)
def O9 (g:WG)(t:WT)(we:WE):M D->B5->(M D->Prop)->Prop
 |[],_,Q=>Q []
 |d::ds,τ,Q=>g d τ fun τ'=>t τ' fun k=>if k=true then we τ' fun r=>∃e,r=.st e/\O9 g t we ds τ' fun es=>Q (e::es)else O9 g t we ds τ' Q
theorem Z4t {g:WG}{t:WT}  (hg:∀d τ (P Q:B5->Prop),(∀ τ,P τ->Q τ)->g d τ P->g d τ Q)(ht:∀(τ:B5) (P Q:Bool->Prop),(∀r,P r->Q r)->t τ P->t τ Q)(he:∀(τ:B5) (P Q:R->Prop),(∀r,P r->Q r)->we τ P->we τ Q):
  ∀(ds:M D) (τ:B5) (P Q:M D->Prop),(∀es,P es->Q es)->O9 g t we ds τ P->O9 g t we ds τ Q
 |[],_,_,_,f,h=>f _ h
 |d::ds,τ,P,Q,f,h=>hg d τ _ _ (fun τ' h=>ht τ' _ _ (fun k h=>Z8 (fun h=>he τ' _ _ (fun r⟨e,e1,h⟩=>⟨e,e1,Z4t hg ht he ds τ' _ _ (fun es h=>f _ h) h⟩) h) (fun h=>Z4t hg ht he ds τ' _ _ f h) h) h) h
def Q8n:Sl->Ac Sl
 |.dat d=>some (.dat d)
 |.own ds=>some (.bor ds)
 |.bor ds=>some (.bor ds)
 |.dt k=>some (.bd k)
 |.bd k=>some (.bd k)
 |.cl a Φ=>some (.cl a Φ)
 |_=>none
def Q7 (nt:Nat)(cap:M Nat)(τ:B5):B5:=List.replicate nt none++cap.map fun i=>((τ[i]?).join).bind Q8n
theorem Z2f (hR:B6 K H0 τ σ H)(nt:Nat)(cap:M Nat):B6 K H (Q7 nt cap τ) (List.replicate nt none++cap.map fun i=>(σ[i]?).join) H:=by
 have at_:∀(i:Nat) (s:Sl),(Q7 nt cap τ)[i]?=some (some s)->nt<=i/\∃j t,cap[i-nt]?=some j/\τ[j]?=some (some t)/\Q8n t=some s:=fun i s e=>by
  unfold Q7 at e
  by_cases hi:i<nt
  ·rw[aB (by rw[b7];exact hi)]at e;have:=az e;rw[i0]at this;cases this.2
  ·rw[aK (by rw[b7];lia),b7,ah]at e;cases q:cap[i-nt]? with
   |none=>rw[q]at e;cases e
   |some j=>
    rw[q]at e;have e:((τ[j]?).join).bind Q8n=some s:=aA e;cases q2:τ[j]? with
    |none=>rw[q2]at e;cases e
    |some o=>
     rw[q2]at e;cases o with
     |none=>cases e
     |some t=>exact⟨by lia,j,t,rfl,q2,e⟩
 refine⟨?_,A4.refl H,fun i s e=>?_,fun i j s t v _ e1 _ m _ _ _=>?_⟩
 ·unfold Q7;rw[aC,aC,ag,ag,b7,b7]
 ·obtain⟨hi,j,t,hc,ht,hb⟩:=at_ i s e;obtain⟨v,hv,q⟩:=hR.here j t ht;refine⟨v,?_,?_⟩
  ·rw[aK (by rw[b7];lia),b7,ah,hc];show some ((σ[j]?).join)=_;rw[hv];rfl
  ·cases t with
   |dat d=>cases hb;exact q
   |own ds=>cases hb;obtain⟨a,xs,e,_,q,al⟩:=q;exact⟨a,xs,e,q,al⟩
   |bor ds=>cases hb;obtain⟨a,xs,e,q,al⟩:=q;exact⟨a,xs,e,hR.same _ _ q,al⟩
   |bd ds=>cases hb;obtain⟨a,xs,e,q,al⟩:=q;exact⟨a,xs,e,hR.same _ _ q,al⟩
   |dk _=>cases hb
   |dt ds=>cases hb;obtain⟨a,xs,e,_,q,al⟩:=q;exact⟨a,xs,e,q,al⟩
   |ob _=>cases hb
   |cl _ _=>cases hb;exact q
   |ll _ _=>cases hb
   |ins _ _ _=>cases hb
 ·obtain⟨hi,j',t',hc,ht,hb⟩:=at_ i s e1;cases t' with
  |dat d=>cases hb;cases m
  |own ds=>cases hb;cases m
  |bor ds=>cases hb;cases m
  |dk _=>cases hb
  |dt _=>cases hb;cases m
  |bd _=>cases hb;cases m
  |ob _=>cases hb
  |cl _ _=>cases hb;cases m
  |ll _ _=>cases hb
  |ins _ _ _=>cases hb
def Z5m {C:Af}  (sb:Heap.SameBut C h h'):∀b o,b≠C->h.get? b=some o->h'.get? b=some o:=fun b o hb e=>(sb.2 b hb).trans e
def Y2g {s2 s1:Ae}  {C:Af}       
  (I2:A1 X af σ H2 s2) (Ib:A1 ?H pb σ' H' s1) (f2:∀b∈fp,J5 X af H2 b) (hC:s2.heap.objs.size<=C) (hD:s2.heap.objs.size<=D0) (ee:D0≠C) (sP:H' D0=none)
  (hl:s1.heap.PlainList D0 ys) (rv:C4 vs ys.toList) (hz:vs.length<=sizeLine) (sb:Heap.SameBut C s1.heap h'):A1 X af σ (A6 H' D0 (.lst vs)) {s1 with heap:=h'}:=by
 have jK:∀b o,s2.heap.get? b=some o->b≠C:=fun b o e=>ax (ay (aw e) hC);have qW:∀b o,s2.heap.get? b=some o->b≠D0:=fun b o e=>ax (ay (aw e) hD);have keep:=Z5m sb;have base:Un (U0 X.stack) fp H2 H' s2.heap s1.heap:=Ib.base;have oX:H' C=none:=Ib.free;have jf:∀b u,H' b=some u->b≠C:=fun b u e z=>by rw[z,oX]at e;cases e
 have L6:∀b u,H' b=some u->b≠D0:=fun b u e z=>by rw[z,sP]at e;cases e
 refine I2.call' (s':={s1 with heap:=h'}) (ch:=fp) Ib.os ⟨fun b o e n hb hx=>keep b o (jK b o e) (base.keep b o e n hb hx),fun b o e n hb hx=>?_,fun b o e n hx=>?_,fun b o e hx=>?_,fun b xs e=>?_,fun b o u e=>?_,fun b ps e=>?_⟩ (fun b u e=>?_) Ib.bare (fun b hb=>?_)
 ·obtain⟨sl,q⟩:=base.slot b o e n hb hx;exact⟨sl,keep b _ (jK b o e) q⟩
 ·rw[A7 (qW b o e)];exact base.free b o e n hx
 ·obtain⟨o',q⟩:=base.there b o e hx;exact⟨o',keep b o' (jK b o e) q⟩
 ·have q:=base.tups b xs e;rw[A7 (L6 b _ q)];exact q
 ·have q:=base.frzs b o u e;rw[A7 (L6 b _ q)];exact q
 ·obtain⟨more,q⟩:=base.tbls b ps e;exact⟨more,by rw[A7 (L6 b _ q)];exact q⟩
 ·by_cases hb:b=D0
  ·subst hb;rw[upd_same]at e;cases e;obtain⟨n,ho⟩:=hl;exact⟨hz,ys.toList,n,rv,keep b _ ee (by rw[ho])⟩
  ·rw[A7 hb]at e;refine(Ib.hok b u e).stay (fun c v hc q=>keep c v ?_ q) (fun c u _ q=>by rw[A7 (L6 c _ q)];exact q) fun c xs q=>by rw[A7 (L6 c _ q)];exact q
   rcases hc with z |z
   ·rw[z];exact jf b u e
   ·exact jf c _ z
 ·obtain⟨_,a2,a3,a4,a5,a6⟩:=f2 b hb;exact⟨a4,a2,a5,a6⟩
section
variable {iL:M Ag}{nt:Nat}{g:WG}{t:WT}
def X2 (nt:Nat)(cap:M Nat)(wi:T5)(g:WG)(t:WT)(we:WE):WE:=fun τ Q=>wi τ fun ds=>ds.length<=sizeLine/\O9 g t we ds (Q7 nt cap τ) fun es=>Q (.nw es)
theorem W5j {P:M D->Prop}       (hc:X.calm=true)(B:Blk X scope N nt cap)(hi:L0 X H0 tg iter wi)
  (hg:∀C s H fp,DG (blk X scope C s H fp N) H tg g) (ht:∀C s H fp,U5 (blk X scope C s H fp N) H iL t) (he:∀C s H fp,A4 H0 H->DE (blk X scope C s H fp N) H dv we) (hs:∀x,foldedSetIterable iter X.env x=pure x)
  (I:?B) (hR:B6 X.K H0 τ σ H) (hw:wi τ fun ds=>ds.length<=sizeLine/\O9 g t we ds (Q7 nt cap τ) P)
  (fin:∀(C D0:Af) (s2 s4:Ae) (H2 H4:Hp) (fp:M Af) (pb:Pn9) (σ4:S5) (vs:M V) (ys:Array Ad) (es:M D) (f:Flow),A1 X af σ H2 s2->A4 H H2->A1 ?H pb σ4 H4 s4->(∀b∈fp,J5 X af H2 b) ->
   s2.heap.objs.size<=C->s2.heap.objs.size<=D0->D0≠C->H4 D0=none->s4.heap.PlainList D0 ys->C4 vs ys.toList->vs.length<=sizeLine->A4 H2 H4->AllS X.K H4 es vs->P es->compPost ?C X.A X.xe use QQ (.ref D0) C (.ok f) s4):
  wpAny ?C X.A (comprehension (.ListComp dv [⟨tg,iter,iL,0⟩] scope pos) scope X.env ml (newList []) false (eval iter X.env) use) QQ X.xe s:=by
 refine cI rfl hs (Q8r fun y hy e=>I.ok.has y.1 (B.free y hy e)) B.kind B.names ?_;refine B3 (hi.pi af s σ H (fun J H2=>A4 H H2/\∃ds,YlS X.K J ds H2/\ds.length<=sizeLine/\O9 g t we ds (Q7 nt cap τ) P) I
  ⟨τ,hR,hi.mono τ _ _ (fun ds h J H' sm yl=>⟨sm,ds,yl,h.1,h.2⟩) hw⟩) fun v s1 h1=>B3 h1 fun mo s2 h2=>?_
 obtain⟨it,fp,tn,J,H2,e,I2,T,fm,f2,dG,ds,yl,hz,kM⟩:=h2;subst e;have gW:∀b∈fp,b<s2.heap.objs.size:=fun b hb=>by
  obtain⟨o,ho,_⟩:=T.obj _ _ fm b hb;exact aw ho
 have eK:=hR.mono dG;refine bO (cA B.cell (by intro y hy;simp at hy) (fun h₁ du cQ=>?_) B.kind);dsimp only at du cQ ⊢;generalize hH2:s2.heap.push {cls:=.type "list",dict:=none,data:=.seq ([]:M Ad).toArray}=Hq at du cQ ⊢;have hC:Hq.objs.size=s2.heap.objs.size+1:=by rw[<-hH2,bi]
 have ee:s2.heap.objs.size≠Hq.objs.size:=by rw[hC];exact ax (cj _)
 have cO:s2.heap.objs.size<=Hq.objs.size:=by rw[hC];exact dF _
 have old:∀b o,s2.heap.get? b=some o->h₁.get? b=some o:=fun b o e=>cQ.extBut b o (by rw[hC];exact ax (bj (aw e))) (ae _ (hH2▸ae _ e));have dX:h₁.PlainList s2.heap.objs.size #[]:=⟨_,cQ.extBut _ _ ee (ae _ (hH2▸aD _ rfl))⟩
 generalize hCe:Hq.objs.size=C at du cQ hC ee cO ⊢;generalize hDe:s2.heap.objs.size=D0 at hC ee cO dX ⊢;have dU:∀b∈fp,b<D0:=fun b hb=>hDe▸gW b hb;have fx:tn 0 h₁:=T.keep _ _ _ fm fun b _ o e=>old b o e;have lu:=Q8m (C:=C) (h':=h₁) (t':=s2.toks+([]:M (Str×Ad)).length) I2 B f2 gW (by rw[hDe];exact cO) du old;have iP:H2 D0=none:=I2.hok.fresh (by rw[hDe];exact ao _);have kJ:D0∉U0 X.stack:=fun z=>by
  rcases av.mp (I2.stkSub _ z)with e |e
  ·have:=I2.lt;rw[<-e,hDe]at this;exact aS _ this
  ·exact I2.nofs (by rw[hDe];exact ao _) e
 have kK:∀x c,(S7 X.env scope.names []).lookup x=some c->c≠D0:=fun x c h z=>by
  obtain⟨v,q⟩:=I2.cell x c (X9 I2 B h);have:=q.lt;rw[z,hDe]at this;exact aS _ this
 have gk:∀{pb:Pn9} {σ':S5}{H':Hp}{s':Ae}{ys:Array Ad}{n:Nat},A1 ?H pb σ' H' s'->H' D0=none->s'.heap.get? D0=some {cls:=.type "list",data:=.seq ys n} ->
   A1 ?H [(D0,{cls:=.type "list",data:=.seq ys n})] σ' H' s':=by
  intro pb σ' H' s' ys n I' n' e;refine I'.pins_of fun p hp=>?_;have e':p=(D0,{cls:=.type "list",data:=.seq ys n}):=by simpa using hp
  subst e';exact⟨e,n',ee,kJ,fun v z=>by cases z⟩
 have gS:∀{H':Hp}{ob:Obj},(∀b∈fp,H' b=none)->∀b∈fp,J5 ?H [(D0,ob)] H' b:=by
  intro H' ob hn b hb;refine⟨hn b hb,(ax (ay (dU b hb) cO)),fun z=>?_,.inl hb,fun x c h=>(f2 b hb).2.2.2.2.1 x c (X9 I2 B h),fun p hp=>?_⟩
  ·rcases av.mp (I2.stkSub b z)with e |e
   ·exact(f2 b hb).2.1 e
   ·exact(f2 b hb).2.2.1 e
  ·have e':p=(D0,ob):=by simpa [blk]using hp
   subst e';exact(ax (dU b hb)).symm
 let jx:Nat->Ae->Prop:=fun k s'=>∃(i:Nat) (σ':S5) (H':Hp) (τ':B5) (ys:Array Ad) (nn:Nat) (vs:M V) (es:M D),A1 ?H [(D0,{cls:=.type "list",data:=.seq ys nn})] σ' H' s'/\B6 X.K H2 τ' σ' H'/\tn i s'.heap /\
  (∀b∈fp,H' b=none)/\H' D0=none/\C4 vs ys.toList/\AllS X.K H' es vs/\i<=ds.length/\k=ds.length-i/\es.length<=i/\O9 g t we (ds.drop i) τ' fun im=>P (es++im)
 have loop:∀s₃:Ae,s₃={s2 with heap:=h₁,toks:=s2.toks+([]:M (Str×Ad)).length} ->
   codeAny ?C X.A (.compLoop (.ListComp dv [⟨tg,iter,iL,0⟩] scope pos) 0 (.ref it) (.ref D0) (compEnvC scope (S7 X.env scope.names []) C X.env))
    (compPost ?C X.A X.xe use QQ (.ref D0) C) s₃:=by
  rintro s₃ rfl;obtain⟨nn,ho⟩:=id dX;refine Z4s jx ?_ ds.length ⟨0,_,H2,Q7 nt cap τ,#[],nn,[],[],gk lu iP ho,Z2f eK nt cap,fx,fun b hb=>(f2 b hb).1,iP,.nil,AllS.nil,bz _,rfl,ao _,by simpa using kM⟩;rintro k s3 ⟨i,σ3,H3,τ3,ys,nn,vs,es,I3,R3,gn,gE,d3,lG,pj,pS,rfl,lT,w3⟩;have cf:A4 H2 H3:=R3.same
  by_cases bU:i<ds.length
  ·refine aE (T.item ?H rfl rfl rfl hc i _ s3 σ3 H3 (fun _ _=>False) I3 (gS gE) gn (yl.go H3 cf i bU)) (fun r s4 bG=>?_) fun _ _ z=>z;obtain⟨u,hr,h4⟩:=bG;subst hr;refine aE h4 (fun _ s5 bG=>?_) fun _ _ z=>z;obtain⟨x,H5,I5,r5,y5,fk,jl⟩:=bG;obtain⟨gV,ix⟩:=yl.yld H3 cf i x H5 _ (ac bU) y5;rw[bJ bU]at w3;have jm:=I5.pinned (gS jl) (T.obj _ _ fk);have again:∀{σ7:S5}{H7:Hp}{s7:Ae} {τ7:B5}{pB:Array Ad}{qN:Nat}{vs7:M V}{es7:M D},A1 ?H (V1 fp s5.heap) σ7 H7 s7->B6 X.K H2 τ7 σ7 H7->H7 D0=none->s7.heap.get? D0=some {cls:=.type "list",data:=.seq pB qN} ->
     C4 vs7 pB.toList->AllS X.K H7 es7 vs7->es7.length<=i+1->O9 g t we (ds.drop (i+1)) τ7 (fun im=>P (es7++im))->∃m,m<ds.length-i/\jx m s7:=by
    intro σ7 H7 s7 τ7 pB qN vs7 es7 I7 R7 d7 o7 qF yb sw w7;have vC:tn (i+1) s7.heap:=T.keep _ _ _ fk fun b hb o e=>(I7.pin (b,o) (ai _ (Q0k hb e))).1;refine⟨ds.length-(i+1),by lia,i+1,σ7,H7,τ7,pB,qN,vs7,es7,gk I7 d7 o7,R7,vC,fun b hb=>?_,d7,qF,yb,bU,rfl,sw,w7⟩;obtain⟨o,e,_⟩:=T.obj _ _ fk b hb;exact(I7.pin (b,o) (ai _ (Q0k hb e))).2.1
   refine aE ((hg C s2 H2 fp).pg _ s5 σ3 H5 x u (fun σ6 H6=>∃ τ6,B6 X.K H2 τ6 σ6 H6/\A4 H5 H6/\t τ6 fun k=>if k=true then we τ6 fun r=>∃e,r=.st e/\O9 g t we (ds.drop (i+1)) τ6 fun im=>P (es++(e::im))
     else O9 g t we (ds.drop (i+1)) τ6 fun im=>P (es++im)) jm r5 ⟨τ3,ds[i],R3.mono gV,ix,(hg C s2 H2 fp).mono _ _ _ _ (fun τ6 h6 σ6 H6 gM R6=>⟨τ6,R6,gM,h6⟩) w3⟩) (fun _ s6 wn=>?_) fun _ _ z=>z
   obtain⟨σ6,H6,I6,τ6,R6,gM,w6⟩:=wn;refine aE ((ht C s2 H2 fp).pt _ s6 σ6 H6 (fun k H7=>A4 H6 H7/\if k=true then we τ6 fun r=>∃e,r=.st e/\O9 g t we (ds.drop (i+1)) τ6 fun im=>P (es++(e::im))
     else O9 g t we (ds.drop (i+1)) τ6 fun im=>P (es++im)) I6 ⟨τ6,R6,(ht C s2 H2 fp).mono τ6 _ _ (fun k h H7 iV=>⟨iV,h⟩) w6⟩) (fun ok s7 wm=>?_) fun _ _ z=>z
   obtain⟨H7,I7,iV,w7⟩:=wm;have pd:∀{σ':S5}{H':Hp}{s':Ae},A1 ?H ([(D0,{cls:=.type "list",data:=.seq ys nn})]++V1 fp s5.heap) σ' H' s'->s'.heap.get? D0=some {cls:=.type "list",data:=.seq ys nn}/\H' D0=none:=fun I'=>
    ⟨(I'.pin (D0,_) (ai _ (aV _ am))).1,(I'.pin (D0,_) (ai _ (aV _ am))).2.1⟩
   have pf:∀{σ':S5}{H':Hp}{s':Ae},A1 ?H ([(D0,{cls:=.type "list",data:=.seq ys nn})]++V1 fp s5.heap) σ' H' s'->A1 ?H (V1 fp s5.heap) σ' H' s':=fun I'=>
    I'.pins_of fun p hp=>I'.pin p (ai _ (ai _ hp))
   have tI:A4 H3 H7:=gV.trans (gM.trans iV);cases ok with
   |false=>
    rw[aI aW]at w7 ⊢;exact again (pf I7) (R6.mono iV) (pd I7).2 (pd I7).1 lG (pj.mono (Kp.of tI) _ _) (by lia) w7
   |true=>
    rw[aQ rfl]at w7 ⊢;refine aE ((he C s2 H2 fp eK.same).pe _ s7 σ6 H7 (fun v H8=>A4 H7 H8/\∃e,A3 X.K H8 e v/\O9 g t we (ds.drop (i+1)) τ6 fun im=>P (es++(e::im))) I7
     ⟨τ6,R6.mono iV,(he C s2 H2 fp eK.same).mono τ6 _ _ (fun r cw v H8 jG ir=>(by obtain⟨e,e1,h⟩:=cw;exact⟨jG,e,by subst e1;exact ir,h⟩)) w7⟩) (fun y s8 wj=>?_) fun _ _ z=>z
    obtain⟨v8,H8,I8,kG,jG,e8,rc,w8⟩:=wj;obtain⟨o8,d8⟩:=pd I8;have nY:ys.size<=sizeLine:=by
     have e1:=lG.length;have e2:=pj.length;have e4:ys.toList.length=ys.size:=by simp
     lia
    refine dZ (hsz:=nY) ⟨nn,o8⟩ fun h₅ ot mv=>?_;have I9:A1 ?H (V1 fp s5.heap) σ6 H8 {s8 with heap:=h₅}:=by
     refine(pf I8).turned (t':=s8.toks) (it:=D0) (fun b o hb e=>(mv.2 b hb).trans e) d8 ee (.inr (by rw[<-hDe];exact ao _)) kK (fun p hp z=>?_);obtain⟨q1,_⟩:=Q6b (by simpa [blk]using hp);exact ax (dU _ q1) z
    obtain⟨nT,o9⟩:=ot;refine again I9 (R6.mono (iV.trans jG)) d8 o9 (vs7:=vs++[v8]) (es7:=es++[e8]) ?_ ((pj.mono (Kp.of (tI.trans jG)) _ _).append (AllS.cons rc AllS.nil)) (by rw[aC];simpa using lT) ?_
    ·have:(ys.push y).toList=ys.toList++[y]:=by simp
     rw[this];exact lG.append (.cons kG .nil)
    ·simpa using w8
  ·have e:i=ds.length:=by lia
   subst e;refine aE (T.done ?H rfl rfl rfl hc ds.length _ s3 σ3 H3 (fun _ _=>False) I3 (gS gE) gn (yl.stop H3 cf)) (fun r s4 bG=>?_) fun _ _ z=>z;obtain⟨hr,I4⟩:=bG;subst hr;have o4:=(I4.pin (D0,_) (ai _ am)).1;rw[cF]at w3;have w3:P (es++[]):=w3;rw[b8]at w3;have rM:vs.length<=sizeLine:=by rw[<-pj.length];lia
   exact fin C D0 s2 s4 H2 H3 fp _ σ3 vs ys es _ I2 dG I4 f2 (by rw[hDe];exact cO) (by rw[hDe];exact ao _) ee d3 ⟨nn,o4⟩ lG rM cf pj w3
 exact gG (loop _ rfl) (T.self _ 0 _ _ _ fx (loop _ rfl))
def W1o (hc:X.calm=true)(B:Blk X scope N nt cap)(hi:L0 X H0 tg iter wi)(hg:∀C s H fp,DG (blk X scope C s H fp N) H tg g)(ht:∀C s H fp,U5 (blk X scope C s H fp N) H iL t)
  (he:∀C s H fp,A4 H0 H->DE (blk X scope C s H fp N) H dv we) (hs:∀x,foldedSetIterable iter X.env x=pure x:=by intro _;rfl):
  DE X H0 (.ListComp dv [⟨tg,iter,iL,0⟩] scope pos) (X2 nt cap wi g t we) where
 mono:=fun τ P Q f h=>hi.mono τ _ _ (fun ds h=>⟨h.1,Z4t (hg 0 X.s₀ X.H₀ []).mono (ht 0 X.s₀ X.H₀ []).mono (he 0 X.s₀ H0 [] (A4.refl _)).mono ds _ _ _ (fun es h=>f _ h) h.2⟩) h
 pe:=by
  intro af s σ H Q I ⟨τ,hR,hw⟩;rw[eval_ListComp];refine W5j hc B hi hg ht he hs I hR hw fun C D0 s2 s4 H2 H4 fp pb σ4 vs ys es f I2 dG I4 f2 hC hD ee hn hl rv hz kD al w3=>?_;obtain⟨m4,kZ,_⟩:=id I4.loc;refine⟨m4,kZ,fun h' sb=>?_⟩;exact⟨.ref D0,_,Y2g I2 I4 f2 hC hD ee hn hl rv hz sb,rfl,w3 _ _ (dG.trans (kD.trans (K2 hn _))) ⟨D0,vs,rfl,dG.free (I2.hok.fresh hD),upd_same,al.mono (Kp.of (K2 hn _)) _ _⟩⟩
def DE.comp (hc:X.calm=true)(B:Blk X scope N nt cap)(hi:L0 X H0 tg iter wi)(hg:∀C s H fp,DG (blk X scope C s H fp N) H tg g)(ht:∀C s H fp,U5 (blk X scope C s H fp N) H iL t)
  (he:∀C s H fp,DE (blk X scope C s H fp N) H dv we) (hs:∀x,foldedSetIterable iter X.env x=pure x:=by intro _;rfl):
  DE X H0 (.ListComp dv [⟨tg,iter,iL,0⟩] scope pos) (X2 nt cap wi g t we):=W1o hc B hi hg ht (fun C s H fp _=>he C s H fp) hs
end
section
variable {a b c:Ag}
def L0.lst (he:DE X H0 e we):L0 X H0 tg e (fun τ Q=>we τ fun r=>∃ds,Q2v r=some ds/\Q ds) where
 mono:=fun τ P Q f h=>he.mono τ _ _ (fun r⟨ds,e1,q⟩=>⟨ds,e1,f _ q⟩) h
 pi:=piW (Y7f he.pe) fun σ H R ⟨τ,hR,h⟩=>⟨τ,hR,he.mono τ _ _ (fun r de v H1 s1 ir=>by
  obtain⟨ds,e1,q⟩:=de;obtain⟨a,xs,rfl,sq,al⟩:=Z1q e1 ir;refine⟨a,rfl,⟨xs,sq⟩,q _ _ s1 ⟨fun H' s i hi=>⟨xs,xs[i]'(by rw[<-al.length];exact hi),s.seq sq,ac _⟩,fun H' s i x fz d hd ⟨e,y⟩=>?_,fun H' s=>⟨xs,s.seq sq,by rw[al.length];exact ao _⟩⟩⟩;subst e;have hx:=y xs (s.seq sq);obtain⟨v,hv,q⟩:=(al.mono (Kp.of s) _ _).get hd;rw[hx]at hv;cases hv;exact⟨A4.refl _,q⟩) h⟩
def L0.tup (he:DE X H0 e we):L0 X H0 tg e (fun τ Q=>we τ fun r=>∃ds,r=.st (.tup ds)/\Q ds) where
 mono:=fun τ P Q f h=>he.mono τ _ _ (fun r⟨ds,e1,q⟩=>⟨ds,e1,f _ q⟩) h
 pi:=piW (Y7h he.pe) fun σ H R ⟨τ,hR,h⟩=>⟨τ,hR,he.mono τ _ _ (fun r fR v H1 s1 ir=>by
  obtain⟨ds,e1,q⟩:=fR;subst e1;have ir:A3 X.K H1 (.tup ds) v:=ir;unfold A3 at ir;obtain⟨a,xs,rfl,sq,al⟩:=ir;refine⟨a,rfl,⟨xs,E7.of sq⟩,q _ _ s1 ⟨fun H' s i hi=>⟨xs,xs[i]'(by rw[<-al.length];exact hi),E7.of (s _ _ sq),ac _⟩,fun H' s i x fz d hd ⟨e,y⟩=>?_,fun H' s=>⟨xs,E7.of (s _ _ sq),by rw[al.length];exact ao _⟩⟩⟩;subst e;have hx:=y xs (E7.of (s _ _ sq));obtain⟨v,hv,q⟩:=(al.mono (Kp.of s) _ _).get hd;rw[hx]at hv;cases hv;exact⟨A4.refl _,q⟩) h⟩
def V8s:YlS K (Itr lo n) (V2 lo n) H:=
 ⟨fun H' s=>(Z3u (K:=K) (H0:=H) (H:=H)).go H' (Kp.of s) s,fun H' s=>(Z3u (K:=K) (H0:=H) (H:=H)).yld H' (Kp.of s) s,fun H' s=>(Z3u (K:=K) (H0:=H) (H:=H)).stop H' (Kp.of s) s⟩
def L0.rng1 (hg:Gl X "range")(hm:X.mg "range"=none)(ha:DA X H0 [a] wr)(hs:starEach [a] X.env=[(false,eval a X.env)]:=by rfl):
  L0 X H0 tg (.Call (.Name "range" p) [a] [] pos) (fun τ Q=>wr τ fun rs=>∃j:Int,rs=[.st (.int j)]/\-(2^62)<=j/\j<2^62/\Q (V2 0 j.toNat)) where
 mono:=fun τ P Q f h=>ha.mono τ _ _ (fun r⟨j,e1,h1,h2,q⟩=>⟨j,e1,h1,h2,f _ q⟩) h
 pi:=piW (Y7g hg hm ha.pa hs) fun σ H R ⟨τ,hR,h⟩=>⟨τ,hR,ha.mono τ _ _ (fun r gu vs H1 s1 eD=>by
  obtain⟨j,e1,h1,h2,q⟩:=gu;subst e1;obtain⟨v,rfl,ir⟩:=Q1q eD;cases (show v=.int j from ir);exact⟨j,rfl,h1,h2,q _ _ s1 V8s⟩) h⟩
def Q8a {wr:M Af}(I:?B)(k:∀b o,b∉wr->s.heap.get? b=some o->h'.get? b=some o)(hf:∀b∈wr,J5 X af H b):
  A1 X af σ H {s with heap:=h',toks:=t'}:=by
 have lI:∀b u,H b=some u->b∉wr:=fun b u e z=>by have:=(hf b z).1;rw[e]at this;cases this
 refine I.step (g':=s.gens) (d':=s.drawn) (ch:=wr) (fun b hb=>?_) (fun b o _ _ hc e _=>k b o hc e) (fun b o _ _ hc e _=>⟨o.slots,k b o hc e⟩) (fun _ _ _ _ n=>n)
  (fun b o hc e=>⟨o,k b o hc e⟩) (fun _ _ e=>e) (fun _ _ _ e=>e) (fun b ps e=>⟨#[],by rw[e];simp⟩) (fun m hm=>?_) (fun b u e=>?_) I.bare
 ·obtain⟨_,f1,_,f3,f4,f5⟩:=hf b hb;exact⟨f3,f1,f4,f5⟩
 ·obtain⟨o,es,ep,ho,r⟩:=hm;exact⟨o,es,ep,k _ o (fun z=>(hf _ z).2.1 rfl) ho,r⟩
 ·refine(I.hok b u e).stay (fun c v hc q=>k c v ?_ q) (fun _ _ _ q=>q) fun _ _ q=>q;rcases hc with z |z
  ·rw[z];exact lI b u e
  ·exact lI c _ z
def Its (x:Str):It:=⟨fun i _=>i<x.cps.size,fun i H v H'=>H'=H/\∃c,x.cps[i]?=some c/\v=.str ⟨#[c]⟩,fun i _=>i=x.cps.size⟩
def V7v {w:Ak}    {ty:String}  {t:Tok}(lL:ty="str_ascii_iterator"\/ty="str_iterator"):Q2m P w K tg (Its x) [it] it (fun i h=>h.IsStrIter it ty x t i) where
 mem:=by simp
 obj:=fun i h st b hb=>by
  have e:b=it:=by simpa using hb
  subst e;obtain⟨o,e,c,d⟩:=st;exact⟨o,e,fun v z=>by rw[d]at z;cases z⟩
 keep:=fun i h h' mC k=>(by obtain⟨o,e,r⟩:=mC;exact⟨o,k it ?G o e,r⟩)
 item:=by
  back_in;have W:Walks X.prog X.w X.A it [it] [it] x.cps.size (SignAt x) (fun i h=>h.IsStrIter it ty x t i):=by
   rcases lL with rfl |rfl
   ·exact Walks.strAscii (I.ok.hd hc) it x t
   ·exact Walks.strWide (I.ok.hd hc) it x t
  refine W.item i s _ _ hg st fun v h' tk hv jb k=>?_;obtain⟨c,u,dW,rfl⟩:=hv;have I1:A1 X af σ H {s with heap:=h',toks:=tk}:=Q8a I k hf;obtain⟨o,e,cl,d⟩:=id jb;refine⟨_,rfl,Z1f (s:={s with heap:=h',toks:=tk}) e cl d (by rcases lL with rfl |rfl<;>decide) ⟨.str ⟨#[c]⟩,H,I1,⟨u,rfl⟩,⟨rfl,c,dW,rfl⟩,jb,fun b hb=>(hf b hb).1⟩⟩
 done:=by
  back_in;have hg:i=x.cps.size:=hg;subst hg;have W:Walks X.prog X.w X.A it [it] [it] x.cps.size (SignAt x) (fun i h=>h.IsStrIter it ty x t i):=by
   rcases lL with rfl |rfl
   ·exact Walks.strAscii (I.ok.hd hc) it x t
   ·exact Walks.strWide (I.ok.hd hc) it x t
  exact W.done s _ _ st fun h' tk k=>⟨rfl,Q8a I k hf⟩
 self:=fun A i s Q E st h=>by
  rcases lL with rfl |rfl
  ·exact wpAny_pyIter_striter_ascii st h
  ·exact wpAny_pyIter_striter_wide st h
def N7 (x:Str):M D:=x.cps.toList.map fun c=>.str ⟨#[c]⟩
end
section
variable {b c:Ag}
def Z2x {wr:M Af}{T:Af}   (I:?B)(k:∀b o,b∉wr->s.heap.get? b=some o->h'.get? b=some o)(hf:∀b∈wr,J5 X af H b)
  (hT:s.heap.objs.size<=T) (ht:IsTup h' T bb.toArray) (rv:C4 xs bb) (hz:xs.length<=sizeLine):A1 X af σ (A6 H T (.tup xs)) {s with heap:=h',toks:=t'}:=by
 have lI:∀b u,H b=some u->b∉wr:=fun b u e z=>by have:=(hf b z).1;rw[e]at this;cases this
 have xu:H T=none:=I.hok.fresh hT;have neT:∀b u,H b=some u->b≠T:=fun b u e z=>by rw[z,xu]at e;cases e
 refine I.step (g':=s.gens) (d':=s.drawn) (ch:=wr) (fun b hb=>?_) (fun b o _ _ hc e _=>k b o hc e) (fun b o _ _ hc e _=>⟨o.slots,k b o hc e⟩) (fun b o _ e n=>by rw[A7 (ax (ay (aw e) hT))];exact n)
  (fun b o hc e=>⟨o,k b o hc e⟩) (fun b _ e=>by rw[A7 (neT b _ e)];exact e) (fun b _ _ e=>by rw[A7 (neT b _ e)];exact e) (fun b ps e=>⟨#[],by rw[A7 (neT b _ e),e];simp⟩) (fun m hm=>?_) (fun b u e=>?_) I.bare
 ·obtain⟨_,f1,_,f3,f4,f5⟩:=hf b hb;exact⟨f3,f1,f4,f5⟩
 ·obtain⟨o,es,ep,ho,r⟩:=hm;exact⟨o,es,ep,k _ o (fun z=>(hf _ z).2.1 rfl) ho,r⟩
 ·by_cases hb:b=T
  ·subst hb;rw[upd_same]at e;cases e;exact⟨hz,bb,rv,ht⟩
  ·rw[A7 hb]at e;refine(I.hok b u e).stay (fun c v hc q=>k c v ?_ q) (fun c u _ q=>by rw[A7 (neT c _ q)];exact q) fun c xs q=>by rw[A7 (neT c _ q)];exact q
   rcases hc with z |z
   ·rw[z];exact lI b u e
   ·exact lI c _ z
def K0 (ds:M D):M D:=ds.zipIdx.map fun(p:D×Nat)=>.tup [.int (p.2:Int),p.1]
theorem Z0z {ds:M D}{i:Nat}{d:D}(h:(K0 ds)[i]?=some d):∃x,ds[i]?=some x/\d=.tup [.int (i:Int),x]:=by
 unfold K0 at h;rw[ah,List.getElem?_zipIdx]at h;cases e:ds[i]? with
 |none=>rw[e]at h;cases h
 |some x=>
  rw[e]at h;have h:D.tup [.int ((0+i:Nat):Int),x]=d:=aA h;exact⟨x,rfl,by rw[<-h,eM]⟩
def Q4l (ds:M D):(K0 ds).length=ds.length:=by simp[K0]
def Ies (x:Str):It:=⟨fun i _=>i<x.cps.size,fun i H v H'=>∃T c,x.cps[i]?=some c/\H T=none/\v=.ref T/\H'=A6 H T (.tup [.int (i:Int),.str ⟨#[c]⟩]),fun i _=>i=x.cps.size⟩
def V7s {w:Ak}    {pt:Pos}   {t:Tok}(dO:en≠it):
  Q2m P w K (.Tuple gT kk pt) (Ies x) [en,it] en (fun i h=>(∃old,IsEnum h en it i old)/\h.IsStrIter it (strIterType x) x t i) where
 mem:=by simp
 obj:=fun i h st b hb=>by
  obtain⟨⟨old,he⟩,o,ho,_,d⟩:=st;rcases av.mp hb with rfl |hb
  ·exact⟨_,he,fun v z=>by cases z⟩
  ·have e:b=it:=by simpa using hb
   subst e;exact⟨o,ho,fun v z=>by rw[d]at z;cases z⟩
 keep:=fun i h h' cw k=>(by obtain⟨⟨old,he⟩,o,ho,r⟩:=cw;exact⟨⟨old,k en ?G _ he⟩,o,k it ?G o ho,r⟩)
 item:=by
  back_in;have Dr:Draws X.prog X.w X.A.in1 it [it] x.cps.size (fun i v=>∃c u,x.cps[i]?=some c/\v=.str ⟨#[c]⟩ u) (fun i h=>h.IsStrIter it (strIterType x) x t i):=by
   unfold strIterType;split
   ·exact Draws.strAscii (A:=X.A.in1) (show X.A.in1.handled=none from I.ok.hd hc) it x t
   ·exact Draws.strWide (A:=X.A.in1) (show X.A.in1.handled=none from I.ok.hd hc) it x t
  have W:=g7 Dr en dO (by simpa using dO) ?G;have wY:∀b∈[en,it],J5 X af H b:=hf;refine W.item i s _ _ hg st fun T ja h' tk hv hT oU lJ k=>?_;obtain⟨t1,y,⟨c,u,dW,rfl⟩,rfl⟩:=hv;refine⟨_,rfl,W.go gT kk pt i T {s with heap:=h',toks:=tk} _ _ lJ fun h2 fm k2=>?_⟩;have mn:∀b o,b∉[en,it]->s.heap.get? b=some o->h2.get? b=some o:=fun b o hb e=>k2 b o hb (k b o hb e);have lU:=W.apart i T h' lJ;have iO:IsTup h2 T ([Value.int (i:Int) t1,Value.str ⟨#[c]⟩ u]).toArray:=by
   obtain⟨o,ho,r⟩:=oU;exact⟨o,k2 T o lU ho,r⟩
  have I2:=Z2x (t':=tk) (xs:=[.int (i:Int),.str ⟨#[c]⟩]) I mn wY hT iO (.cons ⟨t1,rfl⟩ (.cons ⟨u,rfl⟩ .nil)) (by show 2<=sizeLine;decide);refine⟨.ref T,_,I2,rfl,⟨T,c,dW,I.hok.fresh hT,rfl,rfl⟩,fm,fun b hb=>?_⟩;rw[A7 (show b≠T from fun z=>lU (by rw[<-z];exact hb))];exact(hf b hb).1
 done:=by
  back_in;have hg:i=x.cps.size:=hg;subst hg;have Dr:Draws X.prog X.w X.A.in1 it [it] x.cps.size (fun i v=>∃c u,x.cps[i]?=some c/\v=.str ⟨#[c]⟩ u) (fun i h=>h.IsStrIter it (strIterType x) x t i):=by
   unfold strIterType;split
   ·exact Draws.strAscii (A:=X.A.in1) (show X.A.in1.handled=none from I.ok.hd hc) it x t
   ·exact Draws.strWide (A:=X.A.in1) (show X.A.in1.handled=none from I.ok.hd hc) it x t
  have W:=g7 Dr en dO (by simpa using dO) ?G;exact W.done s _ _ st fun h' tk k=>⟨rfl,Q8a I k hf⟩
 self:=fun A i s Q E de h=>(by obtain⟨⟨old,he⟩,_⟩:=de;exact ci he h)
def Y0d:YlS K (Ies x) (K0 (N7 x)) H where
 go:=fun H' _ i hi=>by
  have:i<x.cps.size:=by rw[Q4l]at hi;simpa [N7]using hi
  exact this
 yld:=fun H' _ i v fz d hd eI=>by
  obtain⟨T,c,hc,hT,hv,hH⟩:=eI;subst hH hv;refine⟨K2 hT _,?_⟩;obtain⟨y,hy,rfl⟩:=Z0z hd;unfold N7 at hy;rw[ah]at hy;have:x.cps.toList[i]?=some c:=by simpa using hc
  rw[this]at hy;have e:D.str ⟨#[c]⟩=y:=aA hy;subst e;exact A3.s_tup upd_same (AllS.cons Q3k (AllS.cons Q6n AllS.nil))
 stop:=fun H' _=>by
  show(K0 (N7 x)).length=x.cps.size;rw[Q4l];simp[N7]
def Iel (K:Fg9)(l:Af):It:=⟨fun i H=>∃xs x,G0 K H l xs/\xs[i]?=some x,fun i H v H'=>∃T x,(∀xs,G0 K H l xs->xs[i]?=some x)/\H T=none/\v=.ref T/\H'=A6 H T (.tup [.int (i:Int),x]),fun i H=>∃xs,G0 K H l xs/\xs.length=i⟩
theorem W0b {w:Ak}    {pt:Pos}  (dO:en≠it)(js:l≠en)(oy:l≠it):
  Q2m P w K (.Tuple gT kk pt) (Iel K l) [en,it] en (fun i h=>(∃old,IsEnum h en it i old)/\h.IsListIter it l i) where
 mem:=by simp
 obj:=fun i h st b hb=>by
  obtain⟨⟨old,he⟩,o,ho,_,d⟩:=st;rcases av.mp hb with rfl |hb
  ·exact⟨_,he,fun v z=>by cases z⟩
  ·have e:b=it:=by simpa using hb
   subst e;exact⟨o,ho,fun v z=>by rw[d]at z;cases z⟩
 keep:=fun i h h' fR k=>(by obtain⟨⟨old,he⟩,hi⟩:=fR;exact⟨⟨old,k en ?G _ he⟩,hi.at fun o e=>k it ?G o e⟩)
 item:=by
  back_in;obtain⟨xs,x,hq,hx⟩:=hg;obtain⟨bb,rv,p,hz⟩:=I.list hq;have W:=WalksT.enumerate (prog:=X.prog) (w:=X.w) (A:=X.A) (I.ok.hd hc) en it l dO js oy bb.toArray;obtain⟨u,hu,ru⟩:=rv.get hx;have bU:i<bb.toArray.size:=by
   rcases bf i bb.length with h |h
   ·simpa using h
   ·rw[aF.mpr h]at hu;cases hu
  refine W.item i s _ _ bU ⟨st.1,st.2,p.isList⟩ fun T ja h' tk hv hT oU lJ k=>?_;obtain⟨t1,y,hy,rfl⟩:=hv;have ey:y=u:=by
   have:bb[i]?=some y:=by simpa using hy
   rw[hu]at this;exact(aA this).symm
  subst ey;refine⟨_,rfl,W.go gT kk pt i T {s with heap:=h',toks:=tk} _ _ lJ fun h2 fm k2=>?_⟩;have mn:∀b o,b∉[en,it]->s.heap.get? b=some o->h2.get? b=some o:=fun b o hb e=>k2 b o hb (k b o hb e);have lU:=W.apart i T h' lJ;have iO:IsTup h2 T ([Value.int (i:Int) t1,y]).toArray:=by
   obtain⟨o,ho,r⟩:=oU;exact⟨o,k2 T o lU ho,r⟩
  have I2:=Z2x (t':=tk) (xs:=[.int (i:Int),x]) I mn hf hT iO (.cons ⟨t1,rfl⟩ (.cons ru .nil)) (by show 2<=sizeLine;decide);refine⟨.ref T,_,I2,rfl,⟨T,x,fun ys hy=>by rw[I.list_inj hy hq];exact hx,I.hok.fresh hT,rfl,rfl⟩,⟨fm.1,fm.2.1⟩,fun b hb=>?_⟩;rw[A7 (show b≠T from fun z=>lU (by rw[<-z];exact hb))];exact(hf b hb).1
 done:=by
  back_in;obtain⟨xs,hq,hx⟩:=hg;obtain⟨bb,rv,p,hz⟩:=I.list hq;have W:=WalksT.enumerate (prog:=X.prog) (w:=X.w) (A:=X.A) (I.ok.hd hc) en it l dO js oy bb.toArray;have hl:=rv.length;have e:i=bb.toArray.size:=by simp;lia
  subst e;exact W.done s _ _ ⟨st.1,st.2,p.isList⟩ fun h' tk k=>⟨rfl,Q8a I k hf⟩
 self:=fun A i s Q E gv h=>(by obtain⟨⟨old,he⟩,_⟩:=gv;exact ci he h)
def V8q {ds:M D}(sq:G0 K H l xs)(al:AllS K H ds xs):YlS K (Iel K l) (K0 ds) H where
 go:=fun H' s i hi=>by
  rw[Q4l]at hi;exact⟨xs,xs[i]'(by rw[<-al.length];exact hi),s.seq sq,ac _⟩
 yld:=fun H' s i v fz d hd gu=>by
  obtain⟨T,x,hx,hT,hv,hH⟩:=gu;subst hH hv;refine⟨K2 hT _,?_⟩;obtain⟨y,hy,rfl⟩:=Z0z hd;obtain⟨v,hv,q⟩:=al.get hy;rw[hx xs (s.seq sq)]at hv;cases hv;exact A3.s_tup upd_same (AllS.cons Q3k (AllS.cons (q.mono (Kp.of (s.trans (K2 hT _))) _ _) AllS.nil))
 stop:=fun H' s=>⟨xs,s.seq sq,by rw[Q4l];exact al.length.symm⟩
end
section
variable {a b o:Ag}
def B6.mutate {i:Nat}{ds pZ:M D}{a:Af}{nN:M V}(hR:B6 K H0 τ σ H)(e1:τ[i]?=some (some (.own ds)))(hv:σ[i]?=some (some (.ref a)))(h0:H0 a=none)(sq:H a=some (.lst xs))(al:AllS K H pZ nN):
  B6 K H0 (τ.set i (some (.own pZ))) σ (A6 H a (.lst nN)):=by
 have kp:Kp H (A6 H a (.lst nN)):=Q6o sq _;have hl:i<τ.length:=by
  rcases bf i τ.length with h |h
  ·exact h
  ·rw[aF.mpr h]at e1;cases e1
 have old:∀(j:Nat) (s:Sl),(τ.set i (some (.own pZ)))[j]?=some (some s)->j≠i->τ[j]?=some (some s):=fun j s e hj=>by rw[aL (fun z=>hj z.symm)]at e;exact e
 have i7:∀(j:Nat) (s:Sl),(τ.set i (some (.own pZ)))[j]?=some (some s)->s.mut=true->∃t,τ[j]?=some (some t)/\t.mut=true:=fun j s e m=>by
  by_cases hj:j=i
  ·subst hj;exact⟨_,e1,rfl⟩
  ·exact⟨s,old j s e hj,m⟩
 refine⟨by rw[bB];exact hR.len,fun b ob hb=>?_,fun j s e=>?_,fun j k s t v dO e2 e3 m1 m2 q1 q2=>?_⟩
 ·rw[A7 (V0 hb h0)];exact hR.same b ob hb
 ·by_cases hj:j=i
  ·subst hj;rw[Q1s hl]at e;cases e;exact⟨_,hv,a,nN,rfl,h0,upd_same,al.mono kp _ _⟩
  ·have e:=old j s e hj;obtain⟨v,q,r⟩:=hR.here j s e;refine⟨v,q,?_⟩;have ap:s.mut=true->v≠.ref a:=fun m z=>by
    subst z;exact hR.apart i j _ s (.ref a) (fun z=>hj z.symm) e1 e rfl m hv q
   cases s with
   |dat d=>exact A3.mono kp _ _ r
   |own es=>accm_mu
   |bor es=>obtain⟨b,ys,e,q,t⟩:=r;exact⟨b,ys,e,q,t.mono kp _ _⟩
   |bd es=>obtain⟨b,ys,e,q,t⟩:=r;exact⟨b,ys,e,q,t.mono kp _ _⟩
   |dk es=>accm_mu
   |dt es=>accm_mu
   |ob _=>exact r
   |cl _ _=>exact⟨r.1,r.2.2 _ _ kp r.2.1,r.2.2⟩
   |ll _ _=>exact⟨r.1,r.2.keep kp fun b φ q=>by rw[A7 (Q0z q sq (by intro z;cases z))];exact q⟩
   |ins _ _ _=>obtain⟨e,n,dx,ys,q,t⟩:=r;exact⟨e,n,dx,ys,by rw[A7 (fun z=>ap rfl (by rw[e,z]))];exact q,t.mono kp _ _⟩
 ·obtain⟨s',sX,qT⟩:=i7 j s e2 m1;obtain⟨t',sW,qS⟩:=i7 k t e3 m2;exact hR.apart j k s' t' v dO sX sW qT qS q1 q2
def B6.ownAt {i:Nat}{ds:M D}(hR:B6 K H0 τ σ H)(e1:τ[i]?=some (some (.own ds))):∃a xs,σ[i]?=some (some (.ref a))/\H0 a=none/\H a=some (.lst xs)/\AllS K H ds xs:=by
 obtain⟨v,hv,a,xs,rfl,h0,sq,al⟩:=hR.here i _ e1;exact⟨a,xs,hv,h0,sq,al⟩
def R8 (i:Nat)(we:WE):WS:=fun E τ=>∃ds,τ[i]?=some (some (.own ds))/\we τ fun r=>∃d,r=.st d/\ds.length<sizeLine/\E.nx (τ.set i (some (.own (ds++[d]))))
def DS.append {i:Nat}(ho:PE X o (S9 i))(he:DE X H0 e we)(il:attributeBase o "append" X.env (eval o X.env)=eval o X.env:=by rfl)
  (jX:((backTo bV (starEach [e] X.env)).all (fun x=>!x.1)&&(backToKw bV (keywordEach [] X.env)).all (fun x=>x.1.isSome)&&decide ([e].length+([]:M Keyword).length+(if ([]:M Keyword).isEmpty then 0 else 1)<30))=true:=by rfl)
  (i9:(apos.endLine==bV.line)=true:=by rfl) (hs:starEach [e] X.env=(false,eval e X.env)::starEach [] X.env:=by rfl) (gm:(backTo bV (starEach [] X.env)).any (·.1)=false:=by rfl)
  (kO:swapsWith (.Call (.Attribute o "append" apos) [e] [] bV) none pos.line X.env=pure false:=by rfl):DS X H0 (.Expr (.Call (.Attribute o "append" apos) [e] [] bV) pos) (R8 i we) where
 mono:=fun τ E F le cw=>(by obtain⟨ds,e1,h⟩:=cw;exact⟨ds,e1,he.mono τ _ _ (fun r⟨d,e2,h1,h2⟩=>⟨d,e2,h1,le.nx _ h2⟩) h⟩)
 ps:=U2 (Z7a (Y6x n9 m3 lZ W9u ho (Q2a he.pe Q6c hs) il jX i9 hs gm) kO) fun D σ H de=>by
  obtain⟨τ,hR,ds,e1,h⟩:=de;obtain⟨a,xs,hv,h0,sq,al⟩:=hR.ownAt e1;refine⟨_,hv,.inl ⟨rfl,_,G0.of sq⟩,τ,hR,he.mono τ _ _ (fun r jN v H1 s1 ir=>?_) h⟩;obtain⟨d,e2,h1,h2⟩:=jN;subst e2;have fY:=hR.mono s1;refine⟨a,xs,v,rfl,rfl,s1 _ _ sq,by rw[<-al.length];exact h1,h2 σ _ ((Kp.of s1).trans (Q6o (s1 _ _ sq) _)) ?_⟩;exact fY.mutate e1 hv h0 (s1 _ _ sq) ((al.mono (Kp.of s1) _ _).append (AllS.cons ir AllS.nil))
end
def Q7f:R->(Int->Prop)->Prop
 |.st (.int i),Q=>Q i
 |_,_=>False
def Y4e {r:R}{P:Int->Prop}(h:Q7f r P):∃i,r=.st (.int i)/\P i:=by
 unfold Q7f at h;split at h
 ·exact⟨_,rfl,h⟩
 ·exact h.elim
def DE.neg (he:DE X H0 e we):DE X H0 (.UnaryOp .USub e pos) (fun τ Q=>we τ fun r=>Q7f r fun i=>Q (.st (.int (-i)))) where
 mono:=fun τ P Q f h=>he.mono τ _ _ (fun r h=>by obtain⟨i,rfl,q⟩:=Y4e h;exact f _ q) h
 pe:=Q9 (Y7d W0d he.pe) fun σ H Q ⟨τ,hR,h⟩=>⟨τ,hR,he.mono τ _ _ (fun r h v H1 s1 ir=>by
  obtain⟨i,rfl,q⟩:=Y4e h;exact⟨i,ir,q _ _ s1 Q0x⟩) h⟩
def W1r {z:Str}(hg:Gl X x)(hm:∃t,X.mg x=some (.str z t))(hd:(x==("__debug__":Str))=false:=by decide):DE X H0 (.Name x pos) (wC (.str z)):=by
 obtain⟨t,hm⟩:=hm;exact Q8e (V1s (v:=.str z) hg hm ⟨t,rfl⟩ hd) fun _ _=>Q6n
def Q4y (i:Nat)(g:R->R->(R->Prop)->Prop)(we:WE):WS:=fun E τ=>∃s,τ[i]?=some (some s)/\we τ fun y=>g (rdS s) y fun r=>Q0p r fun s'=>E.nx (τ.set i (some s'))
def W1w {i:Nat}{op:Operator}{g:R->R->(R->Prop)->Prop}(ho:OpD X (inplaceOp op) g)(mg:Q0s g)(he:DE X H0 e we)(hN:X.N.Nodup)(hi:X.N[i]?=some x)(hx:Loc X.env.scope x)
  (hf:?J:=by first |exact .inl rfl |exact .inr rfl |assumption):DS X H0 (.AugAssign (.Name x cn) op e pos) (Q4y i g we) where
 mono:=fun τ E F le⟨s,e1,h⟩=>⟨s,e1,he.mono τ _ _ (fun y h=>mg _ _ _ _ (fun r h=>Y9q (fun s h=>le.nx _ h) h) h) h⟩
 ps:=U2 (V2j hN hi hx he.pe ho hf) fun D σ H eI=>by
  obtain⟨τ,hR,s,e1,h⟩:=eI;obtain⟨v,hv,q⟩:=hR.here i s e1;refine⟨v,hv,τ,hR,he.mono τ _ _ (fun y h u H1 s1 iu=>?_) h⟩;have iv:IsV X.K H1 (rdS s) v:=(SlR.rd (Hs:=fun _=>none) hR.same q).mono s1;refine⟨rdS s,y,iv,iu.v,mg _ _ _ _ (fun r h z H2 s2 iz=>?_) h⟩;obtain⟨s',p,eO⟩:=(hR.mono s1).store (i:=i) s2 iz h;exact p _ _ (Kp.of (s1.trans s2)) eO
def V0q:OpD X (inplaceOp .Add) (Q5 NoC fun i j=>i+j):=W3u W7l
def blkB (sc:Scope)(N0:M Str)(scope:Scope)(N:M Str)(nt:Nat)(cap:M Nat):Bool:=
 decide (scope.kind=.function)&&scope.names.all (fun y=>y.2 != .cell)&&scope.names.all (fun y=>y.2 != .local||scope.names.lookup y.1==some .local) &&
 scope.names.all (fun y=>y.2 != .free||scope.names.lookup y.1==some .free)&&scope.names.all (fun y=>y.2 != .free||sc.names.lookup y.1==some .cell||sc.names.lookup y.1==some .free) &&
 decide (N.length=nt+cap.length)&&(List.range cap.length).all (fun j=>match cap[j]?,N[nt+j]? with |some i,some x=>N0[i]?==some x&&scope.names.contains (x,NameKind.free) |_,_=>false)
def W8 {N0:M Str}   {nt:Nat}  (h1:X.env.scope=sc)(h2:X.N=N0)(h:blkB sc N0 scope N nt cap=true):Blk X scope N nt cap:=by
 subst h1 h2;unfold blkB at h;simp only[bD]at h;obtain⟨⟨⟨⟨⟨⟨a1,a2⟩,a3⟩,a4⟩,a5⟩,a6⟩,a7⟩:=h;refine⟨iw a1,fun y hy=>?_,fun y hy e=>?_,fun y hy e=>?_,fun y hy e=>?_,iw a6,fun j i x hj hx=>?_⟩
 ·simpa using bX.mp a2 y hy
 ·have:=bX.mp a3 y hy;rw[e]at this;simpa using this
 ·have:=bX.mp a4 y hy;rw[e]at this;simpa using this
 ·have:=bX.mp a5 y hy;rw[e]at this;have this:X.env.scope.names.lookup y.1=some .cell\/X.env.scope.names.lookup y.1=some .free:=by simpa using this
  exact this
 ·have bU:j<cap.length:=by
   rcases bf j cap.length with h |h
   ·exact h
   ·rw[aF.mpr h]at hj;cases hj
  have:=bX.mp a7 j (aZ.mpr bU);rw[hj,hx]at this;simpa using this
theorem Z1g {A:Ah}{k:Nat}(hr:E2 k A):A.units+60<cLine:=by have:=hr.units;lia
theorem Q2l {A:Ah}{k:Nat}(hr:E2 k A):A.units+1<cLine:=by have:=hr.units;lia
def C1 (we:WE):WE:=fun τ Q=>we τ fun r=>fzR r fun d=>Q (.st d)
def wB (t:WT):WE:=fun τ Q=>t τ fun k=>Q (.st (.bl k))
def K4 (we:WE):WT:=fun τ Q=>we τ fun r=>Q3f r Q
def Z3l (we:WE):WE:=fun τ Q=>we τ fun r=>Q7f r fun i=>Q (.st (.int (-i)))
def X1:WT:=fun _ Q=>Q true
def Z5o (we:WE):WI:=fun τ Q=>we τ fun r=>∃ds,r=.st (.lst ds)/\Q ds τ
def Z5q (we:WE):WI:=fun τ Q=>we τ fun r=>∃ds,r=.st (.tup ds)/\Q ds τ
def Q7e (wr:WA):WI:=fun τ Q=>wr τ fun rs=>∃j:Int,rs=[.st (.int j)]/\-(2^62)<=j/\j<2^62/\Q (V2 0 j.toNat) τ
def Q2s (we:WE):T5:=fun τ Q=>we τ fun r=>∃ds,Q2v r=some ds/\Q ds
def Q4n (we:WE):T5:=fun τ Q=>we τ fun r=>∃ds,r=.st (.tup ds)/\Q ds
def Q7g (wr:WA):T5:=fun τ Q=>wr τ fun rs=>∃j:Int,rs=[.st (.int j)]/\-(2^62)<=j/\j<2^62/\Q (V2 0 j.toNat)
def X3 (wi:WI)(g:WG)(wb:WS):WS:=fun E τ=>wi τ fun ds τ'=>F6 g wb E ds τ'
def Q4x (we:WE)(g:WG):WS:=fun E τ=>we τ fun r=>∃d,r=.st d/\g d τ E.nx
def Z3n (i:Nat):WS:=fun E τ=>∃s,τ[i]?=some (some s)/\Q1z s E.rt
structure Df (K:Fg9)(mg:Str->Ac Ad)(name:Str)(st:Al)(ps:M Str)(f:Af)(fd:Ai):Prop where
 F:Fun K name name st f fd
 b:S3 K fd ps []
 k:PySem.W.keepIn K (.ref f)=true
 m:mg name=some (.ref f)
abbrev FnD (P:Aj)(w:Ak)(K:Fg9)(mg:Str->Ac Ad)(base:Heap)(k:Nat)(f:Af)(fd:Ai)(ps:M Str)(sp:F5):Prop:=O8 P w K mg base G8 k f fd ps (Q2u K ps.length sp)
def Y7 (r:R):J4:={nx:=fun _=>r=.st .non,rt:=fun r'=>r'=r,bk:=fun _=>False,ct:=fun _=>False}
section
variable {w:Ak}
def Df.ok {k:Nat}  {ws:WS}(F:Df K mg x st ps f fd)(S:Z4 N ps (C0 st))
  (bQ:∀(cdv:Ad) (A:Ah) (outer:M Env) (s:Ae) (H:Hp) (E:XK),E2 k (A.deeper (envOfC x (C0 st) s.heap.objs.size f cdv))->A8 (U8 G8 P w K mg base N x (C0 st) f cdv A outer s H E).nox H (M4 st) ws)
  (hr:∀rs r,rs.length=ps.length->sp rs r->ws (Y7 r) (D8 N rs)):FnD P w K mg base (k+1) f fd ps sp:=
 Fun.okD F.F S fun cdv A outer s H E mB=>⟨ws,bQ cdv A outer s H E mB,hr⟩
end
section
variable {E:J4}{Q:R->Prop}{t u:WT}{ws wt:WS}{i j:Int}{y:Str}{ds es:M D}{d e:D}
@[simp] theorem G2:A9 ws wt E τ=ws {E with nx:=wt E} τ:=rfl
@[simp] theorem Q3b:K9 E τ=E.nx τ:=rfl
@[simp] theorem Q2d:K8 t ws wt E τ=t τ fun k=>if k=true then ws E τ else wt E τ:=rfl
@[simp] theorem T7:F7 we E τ=we τ fun r=>Q7r r E.rt:=rfl
@[simp] theorem Z7p:Z3n n E τ=∃s,τ[n]?=some (some s)/\Q1z s E.rt:=rfl
@[simp] theorem N6:D6 n we E τ=we τ fun r=>Q0p r fun s=>E.nx (τ.set n (some s)):=rfl
@[simp] theorem Z7i {g:R->R->(R->Prop)->Prop}:Q4y n g we E τ=∃s,τ[n]?=some (some s)/\we τ fun y=>g (rdS s) y fun r=>Q0p r fun s'=>E.nx (τ.set n (some s')):=rfl
@[simp] theorem Q6e {g:WG}:Q4x we g E τ=we τ fun r=>∃d,r=.st d/\g d τ E.nx:=rfl
@[simp] theorem Q3x:R8 n we E τ=∃ds,τ[n]?=some (some (.own ds))/\we τ fun r=>∃d,r=.st d/\ds.length<sizeLine/\E.nx (τ.set n (some (.own (ds++[d])))):=rfl
@[simp] theorem Q2c {wi:WI}{g:WG}:X3 wi g ws E τ=wi τ fun ds τ'=>F6 g ws E ds τ':=rfl
@[simp] theorem B8:wV n τ Q=∃s,τ[n]?=some (some s)/\Q (rdS s):=rfl
@[simp] theorem K1:wC d τ Q=Q (.st d):=rfl
@[simp] theorem E6 {g:R->R->(α->Prop)->Prop}{Q:α->Prop}:A5 g wa wb τ Q=wa τ fun x=>wb τ fun y=>g x y Q:=rfl
@[simp] theorem s_b:wB t τ Q=t τ fun k=>Q (.st (.bl k)):=rfl
@[simp] theorem Q3c:K4 we τ QB=we τ fun r=>Q3f r QB:=rfl
@[simp] theorem V4p:Z3c t u τ QB=t τ fun k=>if k=true then u τ QB else QB false:=rfl
@[simp] theorem s_or:O6 t u τ QB=t τ fun k=>if k=true then QB true else u τ QB:=rfl
@[simp] theorem Z7o:U4 t τ QB=t τ fun k=>QB (!k):=rfl
@[simp] theorem V4q:Q6h wa wb τ Q=wa τ fun r=>blR r fun k=>if k=true then wb τ Q else Q (.st (.bl false)):=rfl
@[simp] theorem s_orV:Z9j wa wb τ Q=wa τ fun r=>blR r fun k=>if k=true then Q (.st (.bl true))else wb τ Q:=rfl
@[simp] theorem V5k:Z3m wa τ Q=wa τ fun r=>blR r fun k=>Q (.st (.bl (!k))):=rfl
@[simp] theorem V5b:wIf t wa wb τ Q=t τ fun k=>if k=true then wa τ Q else wb τ Q:=rfl
@[simp] theorem C6 {Q:M R->Prop}:A2 τ Q=Q []:=rfl
@[simp] theorem C7 {Q:M R->Prop}:A0 we wr τ Q=we τ fun r=>wr τ fun rs=>Q (r::rs):=rfl
@[simp] theorem s_tup:Q1e wr τ Q=wr τ fun rs=>∃ds,Q2e rs=some ds/\ds.length<=sizeLine/\Q (.st (.tup ds)):=rfl
@[simp] theorem s_lst:X4 wr τ Q=wr τ fun rs=>∃ds,Q2e rs=some ds/\ds.length<=sizeLine/\Q (.nw ds):=rfl
@[simp] theorem J8:C1 we τ Q=we τ fun r=>fzR r fun d=>Q (.st d):=rfl
@[simp] theorem L8 {g:M R->(R->Prop)->Prop}:D4 g wr τ Q=wr τ fun rs=>g rs Q:=rfl
@[simp] theorem Q0a:N4 sp wr τ Q=wr τ fun rs=>rs.all L3=true/\∃r,sp (rs.map nrm) r/\Q r:=rfl
@[simp] theorem Y8k:Z3l we τ Q=we τ fun r=>Q7f r fun i=>Q (.st (.int (-i))):=rfl
@[simp] theorem V5p:X1 τ QB=QB true:=rfl
@[simp] theorem Q2b {g:WG}:X2 n cap wi g t we τ Q=wi τ fun ds=>ds.length<=sizeLine/\O9 g t we ds (Q7 n cap τ) fun es=>Q (.nw es):=rfl
@[simp] theorem Q0 {Q:B5->Prop}:B7 n d τ Q=Q (τ.set n (some (.dat d))):=rfl
@[simp] theorem Q0c {Q:B5->Prop}:N2 ds τ Q=(ds=[]/\Q τ):=rfl
@[simp] theorem Q0b {g:WG}  {Q:B5->Prop}:D7 g gs ds τ Q=∃d r,ds=d::r/\g d τ fun τ'=>gs r τ' Q:=rfl
@[simp] theorem Q0d {Q:B5->Prop}:M6 n gs d τ Q=∃ds,d=.tup ds/\ds.length=n/\gs ds τ Q:=rfl
@[simp] theorem V4x {Q:M D->B5->Prop}:Z5o we τ Q=we τ fun r=>∃ds,r=.st (.lst ds)/\Q ds τ:=rfl
@[simp] theorem V4z {Q:M D->B5->Prop}:Z5q we τ Q=we τ fun r=>∃ds,r=.st (.tup ds)/\Q ds τ:=rfl
@[simp] theorem Z7l {Q:M D->B5->Prop}:Q7e wr τ Q=wr τ fun rs=>∃j:Int,rs=[.st (.int j)]/\-(2^62)<=j/\j<2^62/\Q (V2 0 j.toNat) τ:=rfl
@[simp] theorem Q7t {Q:M D->Prop}:Q2s we τ Q=we τ fun r=>∃ds,Q2v r=some ds/\Q ds:=rfl
@[simp] theorem Z2j {Q:M D->Prop}:Q7g wr τ Q=wr τ fun rs=>∃j:Int,rs=[.st (.int j)]/\-(2^62)<=j/\j<2^62/\Q (V2 0 j.toNat):=rfl
@[simp] theorem P7:rdS (.dat d)=.st d:=rfl
@[simp] theorem X0:rdS (.own ds)=.bw ds:=rfl
@[simp] theorem o_sl1:R1 (.st d)=.dat d:=rfl
@[simp] theorem o_sl2:R1 (.bw ds)=.bor ds:=rfl
@[simp] theorem V0o:Q7r (.st d) Q=Q (.st d):=rfl
@[simp] theorem S8 {P:Sl->Prop}:Q0p (.st d) P=P (.dat d):=rfl
@[simp] theorem Q5z {P:Sl->Prop}:Q0p (.nw ds) P=P (.own ds):=rfl
@[simp] theorem Q5x {P:D->Prop}:fzR (.st d) P=P d:=rfl
@[simp] theorem o_bl {b:Bool}:blR (.st (.bl b)) QB=QB b:=rfl
@[simp] theorem Y6p {P:Int->Prop}:Q7f (.st (.int i)) P=P i:=rfl
@[simp] theorem o_d1:R.d (.st d)=some d:=rfl
@[simp] theorem o_d2:R.d (.nw ds)=some (.lst ds):=rfl
@[simp] theorem o_d3:R.d (.bw ds)=some (.lst ds):=rfl
@[simp] theorem o_nrm1:nrm (.st d)=.st d:=rfl
@[simp] theorem o_nrm2:nrm (.nw ds)=.bw ds:=rfl
@[simp] theorem o_nrm3:nrm (.bw ds)=.bw ds:=rfl
@[simp] theorem o_arg1:L3 (.st d)=true:=rfl
@[simp] theorem o_arg2:L3 (.nw ds)=true:=rfl
@[simp] theorem o_arg3:L3 (.bw ds)=true:=rfl
@[simp] theorem V0n:Q2v (.st (.lst ds))=some ds:=rfl
@[simp] theorem o_sa0:Q2e []=some []:=rfl
@[simp] theorem o_sa1 {rs:M R}:Q2e (.st d::rs)=(Q2e rs).map (d::·):=rfl
@[simp] theorem Q4q:N1 (.st (.int i)) (.st (.int j)) Q=Q (.st (.int (i+j))):=rfl
@[simp] theorem Y6o:N1 (.st (.str x)) (.st (.str y)) Q=(x.length+y.length<=sizeLine/\Q (.st (.str (x++y)))):=rfl
@[simp] theorem Y6q:Q0l (.st (.int i)) (.st (.int j)) Q=(Q4c i j/\Q (.st (.int (i*j)))):=rfl
@[simp] theorem V0j {f:Int->Int->Int}:Q5 C f (.st (.int i)) (.st (.int j)) Q=(C i j/\Q (.st (.int (f i j)))):=rfl
@[simp] theorem Q1l {f:Int->Int->Bool}:V8 f (.st (.int i)) (.st (.int j)) QB=QB (f i j):=rfl
@[simp] theorem Q9h:C8 (.st (.lst ds)) (.st (.int i)) Q=∃d,N5 ds i=some d/\Q (.st d):=rfl
@[simp] theorem V0l:C8 (.nw ds) (.st (.int i)) Q=∃d,N5 ds i=some d/\Q (.st d):=rfl
@[simp] theorem Q5y:C8 (.bw ds) (.st (.int i)) Q=∃d,N5 ds i=some d/\Q (.st d):=rfl
@[simp] theorem Z6t:C8 (.st (.tup ds)) (.st (.int i)) Q=∃d,N5 ds i=some d/\Q (.st d):=rfl
@[simp] theorem o_len1:F3 [.st (.lst ds)] Q=Q (.st (.int ds.length)):=rfl
@[simp] theorem V0m:F3 [.st (.tup ds)] Q=Q (.st (.int ds.length)):=rfl
@[simp] theorem o_len3:F3 [.nw ds] Q=Q (.st (.int ds.length)):=rfl
@[simp] theorem Q1a:F3 [.bw ds] Q=Q (.st (.int ds.length)):=rfl
@[simp] theorem Q9i:F3 [.st (.str x)] Q=(x.length<=sizeLine/\Q (.st (.int x.length))):=rfl
@[simp] theorem Z6s {r1 r2:R}{b:Bool}:eqD n b r1 r2 QB=∃d e,r1.d=some d/\r2.d=some e/\d.depth<=n/\QB (if b then !D.eq d e else D.eq d e):=rfl
@[simp] theorem Q1x {b:Bool}:Q3f (.st (.bl b)) QB=QB b:=rfl
@[simp] theorem o_e1:D.eq (.int i) (.int j)=(i==j):=by simp[D.eq]
@[simp] theorem o_e2:D.eq (.str x) (.str y)=(x==y):=by simp[D.eq]
@[simp] theorem o_e3 {b c:Bool}:D.eq (.bl b) (.bl c)=(b==c):=by simp[D.eq]
@[simp] theorem o_e4:D.eq (.lst ds) (.lst es)=Dqeqs ds es:=by simp[D.eq]
@[simp] theorem o_e5:D.eq (.tup ds) (.tup es)=Dqeqs ds es:=by simp[D.eq]
@[simp] theorem o_eN:Dqeqs ds []=ds.isEmpty:=by cases ds<;>simp[Dqeqs]
@[simp] theorem V0i {r r':R}:(Y7 r).rt r'=(r'=r):=rfl
@[simp] theorem o_endn {r:R}:(Y7 r).nx τ=(r=.st .non):=rfl
@[simp] theorem o_dep0:D.depth (.int i)=0:=by simp[D.depth]
@[simp] theorem o_dep1:D.depth (.str x)=0:=by simp[D.depth]
@[simp] theorem o_zl:(0:Nat)<=sizeLine:=bz _
@[simp] theorem V9b {rs:M R}:D8 N rs=rs.map (fun r=>some (R1 r))++List.replicate (N.length-rs.length) none:=rfl
end
section
open PySem.SeqAt
theorem hu59 {A:Ah}{k:Nat}(hr:E2 k A):A.units+59+1<cLine:=by have:=hr.units;lia
end
section
variable {b c o:Ag}
def Q8v (x y:Str):Ac Nat:=(Builtin.Str.occurrences x y 0 x.length 1).head?
def Z3g (wo we:WE):WE:=fun τ Q=>wo τ fun r1=>∃x,r1=.st (.str x)/\we τ fun r=>∃y i,r=.st (.str y)/\Q8v x y=some i/\Q (.st (.int (i:Int)))
theorem W9v:MtR X "str.index" (fun x vs H Q=>∃z y i,x=.str z/\vs=[.str y]/\Q8v z y=some i/\Q (.int (i:Int)) H):=by
 intro af s σ H x vs v us Q I rx rv ⟨z,y,i,e1,e2,hi,q⟩;subst e1 e2;obtain⟨t,rfl⟩:=rx;obtain⟨u,rfl,t',rfl⟩:=Q2g rv;unfold Q8v at hi;cases ho:Builtin.Str.occurrences z y 0 z.length 1 with
 |nil=>rw[ho]at hi;cases hi
 |cons j rest=>
  rw[ho]at hi;have hi:some j=some i:=hi;cases hi;exact PySem.SC.index ho ⟨.int _,H,I.tok _,⟨_,rfl⟩,q⟩
def DE.index {wo:WE}(ho:DE X H0 o wo)(he:DE X H0 e we)(il:attributeBase o "index" X.env (eval o X.env)=eval o X.env:=by rfl)
  (jX:((backTo bV (starEach [e] X.env)).all (fun x=>!x.1)&&(backToKw bV (keywordEach [] X.env)).all (fun x=>x.1.isSome)&&decide ([e].length+([]:M Keyword).length+(if ([]:M Keyword).isEmpty then 0 else 1)<30))=true:=by rfl)
  (i9:(apos.endLine==bV.line)=true:=by rfl) (hs:starEach [e] X.env=(false,eval e X.env)::starEach [] X.env:=by rfl) (gm:(backTo bV (starEach [] X.env)).any (·.1)=false:=by rfl):
  DE X H0 (.Call (.Attribute o "index" apos) [e] [] bV) (Z3g wo we) where
 mono:=fun τ P Q f h=>ho.mono τ _ _ (fun r gv=>(by obtain⟨x,e1,h⟩:=gv;exact⟨x,e1,he.mono τ _ _ (fun r⟨y,i,a1,a2,a3⟩=>⟨y,i,a1,a2,f _ a3⟩) h⟩)) h
 pe:=Q9 (Y6x PySem.F.plainAttrs_str PySem.F.slot_str_index PySem.F.type_str_index W9v ho.pe (Q2a he.pe Q6c hs) il jX i9 hs gm) fun σ H Q ⟨τ,hR,h⟩=>⟨τ,hR,ho.mono τ _ _ (fun r jR v H1 s1 ir=>by
  obtain⟨x,e1,h⟩:=jR;subst e1;cases (show v=.str x from ir);refine⟨rfl,τ,hR.mono s1,he.mono τ _ _ (fun r mr u H2 s2 iu=>?_) h⟩;obtain⟨y,i,a1,a2,a3⟩:=mr;subst a1;cases (show u=.str y from iu);exact⟨x,y,i,rfl,rfl,a2,a3 _ _ (s1.trans s2) Q0x⟩) h⟩
def Z5p (we:WE):WI:=fun τ Q=>we τ fun r=>∃x,r=.st (.str x)/\Q (N7 x) τ
def V8p:Yl K H0 (Its x) (N7 x) H where
 go:=fun H' _ _ i hi=>by
  have:i<x.cps.size:=by simpa [N7]using hi
  exact this
 yld:=fun H' _ _ i v fz d hd jQ=>by
  obtain⟨e,c,hc,hv⟩:=jQ;subst e hv;refine⟨A4.refl _,?_⟩;unfold N7 at hd;rw[ah]at hd;have:x.cps.toList[i]?=some c:=by simpa using hc
  rw[this]at hd;have e:D.str ⟨#[c]⟩=d:=aA hd;subst e;exact Q6n
 stop:=fun H' _ _=>by
  show(N7 x).length=x.cps.size;simp[N7]
def DI.str (he:DE X H0 e we):DI X H0 tg e (Z5p we) where
 mono:=fun τ P Q f h=>he.mono τ _ _ (fun r⟨ds,e1,q⟩=>⟨ds,e1,f _ _ q⟩) h
 pi:=by
  intro af s σ H R I ⟨τ,hR,h⟩;refine B3 (he.pe af s σ H (fun v H1=>A4 H H1/\∃x,v=.str x/\∀J H',Kp H H'->B6 X.K H0 τ σ H'->Yl X.K H0 J (N7 x) H'->R J H') I ⟨τ,hR,he.mono τ _ _ (fun r kT v H1 s1 ir=>(by obtain⟨x,e1,q⟩:=kT;exact⟨s1,x,by subst e1;exact ir,q⟩)) h⟩) fun u s1 rf=>?_;obtain⟨v,H1,I1,rv,sm,x,e1,q⟩:=rf;subst e1;obtain⟨t,rfl⟩:=rv;have fin:∀(ty:String),(ty="str_ascii_iterator"\/ty="str_iterator")->PIE X af σ tg R (.ref s1.heap.objs.size) {s1 with heap:=s1.heap.push {cls:=.type ty,data:=.fields #[.str x t,.int 0 0]}}:=fun ty lL=>by
   refine⟨s1.heap.objs.size,[s1.heap.objs.size],_,_,H1,rfl,I1.kept (t':=s1.toks) fun b o e=>ae _ e,V7v (ty:=ty) (x:=x) (t:=t) lL,⟨_,aD _ rfl,rfl,rfl⟩,fun b hb=>?_,q _ _ (Kp.of sm) (hR.mono sm) V8p⟩;have e:b=s1.heap.objs.size:=by simpa using hb
   subst e;exact I1.fpOk (ao _) (I1.hok.fresh (ao _))
  cases ha:x.cps.all (·<128)
  ·exact wpAny_pyIter_wide ha (fin _ (.inr rfl))
  ·exact wpAny_pyIter_ascii ha (fin _ (.inl rfl))
end
def Y3b (ds:M D)(P:D->M D->Prop):Prop:=match ds with
 |[]=>False
 |d::r=>P d r
def tupR (d:D)(P:M D->Prop):Prop:=match d with
 |.tup ds=>P ds
 |_=>False
section
variable {Q:R->Prop}{d e:D}{ds:M D}{i j:Int}{y:Str}
@[simp] theorem V4y {Q:M D->B5->Prop}:Z5p we τ Q=we τ fun r=>∃x,r=.st (.str x)/\Q (N7 x) τ:=rfl
@[simp] theorem V5a:Z3g wa we τ Q=wa τ fun r1=>∃x,r1=.st (.str x)/\we τ fun r=>∃y i,r=.st (.str y)/\Q8v x y=some i/\Q (.st (.int (i:Int))):=rfl
@[simp] theorem Q9p {Q:M D->Prop}:Q4n we τ Q=we τ fun r=>∃ds,r=.st (.tup ds)/\Q ds:=rfl
@[simp] theorem Q1y {r:R}:T0 [r] Q=∃ds,Q9r r=some ds/\Q (.st (.tup ds)):=rfl
@[simp] theorem o_sq2:Q9r (.nw ds)=some ds:=rfl
@[simp] theorem Z2a:Q9r (.bw ds)=some ds:=rfl
@[simp] theorem o_ne {d e:D}:L6 (.st d) (.st e) QB ↔ (scD d e=true/\QB (!D.eq d e)):=by
 constructor
 ·rintro ⟨a,b,h1,h2,h3,h4⟩;cases h1;cases h2;exact⟨h3,h4⟩
 ·rintro ⟨h3,h4⟩;exact⟨d,e,rfl,rfl,h3,h4⟩
@[simp high] theorem s_gCn2 {g:WG}  {Q:B5->Prop}:D7 g gs ds τ Q ↔ Y3b ds fun d r=>g d τ fun τ'=>gs r τ' Q:=by
 constructor
 ·rintro ⟨a,b,h,q⟩;cases h;exact q
 ·intro h;cases ds with
  |nil=>exact h.elim
  |cons d r=>exact⟨d,r,rfl,h⟩
@[simp high] theorem s_gTp2 {Q:B5->Prop}:M6 n gs d τ Q ↔ tupR d fun ds=>ds.length=n/\gs ds τ Q:=by
 constructor
 ·rintro ⟨a,h,q⟩;cases h;exact q
 ·intro h;cases d with
  |tup ds=>exact⟨ds,rfl,h⟩
  |_=>exact h.elim
@[simp] theorem V9a {P:D->M D->Prop}:Y3b (d::ds) P=P d ds:=rfl
@[simp] theorem o_tupR {P:M D->Prop}:tupR (.tup ds) P=P ds:=rfl
@[simp] theorem o_sc1:scD (.int i) (.int j)=true:=rfl
@[simp] theorem o_sc2 {k l:Bool}:scD (.bl k) (.bl l)=true:=rfl
@[simp] theorem o_sc3:scD (.str x) (.str y)=true:=rfl
end
theorem Q3q {f:D->D}:∀(ds:M D) (o:Ac Sl) (Q:M D->Prop),(∀d∈ds,∀Q':R->Prop,Q' (.st (f d))->we (some (.dat d)::rest) Q')->Q (ds.map f)->O9 (B7 0) X1 we ds (o::rest) Q
 |[],o,Q,h,q=>q
 |d::ds,o,Q,h,q=>by
  simp only[O9];simp;refine h d am _ ⟨_,rfl,?_⟩;exact Q3q ds _ _ (fun d hd=>h d (ak _ hd)) q
def X5 (ds es:M D):M D:=(ds.zip es).map fun p=>.tup [p.1,p.2]
theorem W1f {ds es:M D}{i:Nat}{d:D}(h:(X5 ds es)[i]?=some d):∃x y,ds[i]?=some x/\es[i]?=some y/\d=.tup [x,y]:=by grind [X5,ah,aA,cp]
def Y0e (ds es:M D):(X5 ds es).length=min ds.length es.length:=by simp[X5]
def Q0r {old:HO}(h:H a=some old)(nt:∀xs,old≠.tup xs)(nf:∀o u,old≠.frz o u)(o:HO):Kp H (A6 H a o):=
 ⟨fun c ys q=>by rw[A7 (Q0z q h (fun z=>nt _ z.symm))];exact q,fun c ob u q=>by rw[A7 (Q0z q h (fun z=>nf _ _ z.symm))];exact q⟩
def B6.mutG {i:Nat}{s s':Sl}  {old new:HO}(hR:B6 K H0 τ σ H)(e1:τ[i]?=some (some s))(m:s.mut=true)(hv:σ[i]?=some (some (.ref a)))(h0:H0 a=none)
  (sq:H a=some old) (nt:∀xs,old≠.tup xs) (nf:∀o u,old≠.frz o u) (kQ:SlR K H0 (A6 H a new) s' (.ref a)) (ne:∀ φ,old≠.ext φ:=by intro φ z;cases z):B6 K H0 (τ.set i (some s')) σ (A6 H a new):=by
 have kp:Kp H (A6 H a new):=Q0r sq nt nf _;have hl:i<τ.length:=by
  rcases bf i τ.length with h |h
  ·exact h
  ·rw[aF.mpr h]at e1;cases e1
 have nQ:∀(j:Nat) (t:Sl),(τ.set i (some s'))[j]?=some (some t)->j≠i->τ[j]?=some (some t):=fun j t e hj=>by rw[aL (fun z=>hj z.symm)]at e;exact e
 have i7:∀(j:Nat) (t:Sl),(τ.set i (some s'))[j]?=some (some t)->t.mut=true->∃t',τ[j]?=some (some t')/\t'.mut=true:=fun j t e mm=>by
  by_cases hj:j=i
  ·subst hj;exact⟨_,e1,m⟩
  ·exact⟨t,nQ j t e hj,mm⟩
 refine⟨by rw[bB];exact hR.len,fun b ob hb=>?_,fun j t e=>?_,fun j k t u v dO e2 e3 m1 m2 q1 q2=>?_⟩
 ·rw[A7 (V0 hb h0)];exact hR.same b ob hb
 ·by_cases hj:j=i
  ·subst hj;rw[Q1s hl]at e;cases e;exact⟨_,hv,kQ⟩
  ·have e:=nQ j t e hj;obtain⟨v,q,r⟩:=hR.here j t e;refine⟨v,q,?_⟩;have ap:t.mut=true->v≠.ref a:=fun mm z=>by
    subst z;exact hR.apart i j _ t (.ref a) (fun z=>hj z.symm) e1 e m mm hv q
   cases t with
   |dat d=>exact A3.mono kp _ _ r
   |own es=>accm_mu
   |bor es=>obtain⟨b,ys,e,q,t⟩:=r;exact⟨b,ys,e,q,t.mono kp _ _⟩
   |bd es=>obtain⟨b,ys,e,q,t⟩:=r;exact⟨b,ys,e,q,t.mono kp _ _⟩
   |dk es=>accm_mu
   |dt es=>accm_mu
   |ob _=>exact r
   |cl _ _=>exact⟨r.1,r.2.2 _ _ kp r.2.1,r.2.2⟩
   |ll _ _=>exact⟨r.1,r.2.keep kp fun b φ q=>by rw[A7 (Q0z q sq (fun z=>ne _ z.symm))];exact q⟩
   |ins _ _ _=>obtain⟨e,n,dx,ys,q,t⟩:=r;exact⟨e,n,dx,ys,by rw[A7 (fun z=>ap rfl (by rw[e,z]))];exact q,t.mono kp _ _⟩
 ·obtain⟨s1,sX,qT⟩:=i7 j t e2 m1;obtain⟨t1,sW,qS⟩:=i7 k u e3 m2;exact hR.apart j k s1 t1 v dO sX sW qT qS q1 q2
def N9:D->Ac B0
 |.int i=>some (.inl i)
 |.str x=>some (.inr x)
 |_=>none
def T6:M D->Ac (M B0)
 |[]=>some []
 |d::r=>(N9 d).bind fun k=>(T6 r).map (k::·)
theorem Q7j:∀{ds:M D}{ks:M B0}{xs:M V},T6 ds=some ks->AllS K H ds xs->xs=ks.map kV
 |[],ks,xs,h,al=>by cases h;unfold AllS at al;exact al
 |d::r,ks,xs,h,al=>by
  unfold T6 at h;unfold AllS at al;obtain⟨v,t,rfl,iv,al⟩:=al;cases d with
  |int i=>
   cases e:T6 r with
   |none=>rw[e]at h;cases h
   |some k2=>
    rw[e]at h;have h:some (Sum.inl i::k2)=some ks:=h;cases h;rw[Q7j e al];unfold A3 at iv;rw[iv];rfl
  |str i=>
   cases e:T6 r with
   |none=>rw[e]at h;cases h
   |some k2=>
    rw[e]at h;have h:some (Sum.inr i::k2)=some ks:=h;cases h;rw[Q7j e al];unfold A3 at iv;rw[iv];rfl
  |non=>cases h
  |bl _=>cases h
  |tup _=>cases h
  |lst _=>cases h
section
variable [DecidableEq κ]
def F4 (kvs:M (κ×D))(k:κ):Ac D:=(kvs.find? fun kv=>decide (kv.1=k)).map (·.2)
def O5 (kvs:M (κ×D))(k:κ)(v:D):M (κ×D):=if (kvs.any fun kv=>decide (kv.1=k))=true then kvs.map (fun kv=>if kv.1=k then(kv.1,v)else kv)else kvs++[(k,v)]
theorem C9.val {k:κ}:∀{kvs:M (κ×D)}{ps:M (κ×V)},C9 K H kvs ps->(F4 kvs k=none/\T1 ps k=none)\/∃d v,F4 kvs k=some d/\T1 ps k=some v/\A3 K H d v
 |[],ps,h=>by unfold C9 at h;subst h;exact .inl ⟨rfl,rfl⟩
 |p::kvs,ps,h=>by
  unfold C9 at h;obtain⟨v,r,rfl,iv,h⟩:=h
  by_cases e:p.1=k
  ·exact .inr ⟨p.2,v,by simp[F4,bp,e],Z3a e,iv⟩
  ·rw[Z2z (p:=(p.1,v)) e];have:F4 (p::kvs) k=F4 kvs k:=by simp[F4,bp,e]
   rw[this];exact C9.val h
theorem C9.any {k:κ}:∀{kvs:M (κ×D)}{ps:M (κ×V)},C9 K H kvs ps->(kvs.any fun kv=>decide (kv.1=k))=(ps.any fun kv=>decide (kv.1=k)):=by intro kvs;induction kvs<;>grind [C9,dm]
theorem C9.length:∀{kvs:M (κ×D)}{ps:M (κ×V)},C9 K H kvs ps->kvs.length=ps.length:=by intro kvs;induction kvs<;>grind [C9,aN]
theorem C9.app {k:κ}{d:D}{v:V}(q:A3 K H d v):∀{kvs:M (κ×D)}{ps:M (κ×V)},C9 K H kvs ps->C9 K H (kvs++[(k,d)]) (ps++[(k,v)]):=by intro kvs;induction kvs<;>grind [C9]
theorem C9.repl {k:κ}{d:D}{v:V}(q:A3 K H d v):∀{kvs:M (κ×D)}{ps:M (κ×V)},C9 K H kvs ps->C9 K H (kvs.map fun kv=>if kv.1=k then(kv.1,d)else kv) (ps.map fun kv=>if kv.1=k then(kv.1,v)else kv):=by intro kvs;induction kvs<;>grind [C9,ar]
def C9.put {k:κ}{d:D}{v:V}(q:A3 K H d v){kvs:M (κ×D)}{ps:M (κ×V)}(h:C9 K H kvs ps):C9 K H (O5 kvs k d) (P8 ps k v):=by
 unfold O5 P8;rw[C9.any h];split
 ·exact C9.repl (k:=k) q h
 ·exact C9.app q h
end
section
variable {a b o:Ag}
def B6.dtAt {i:Nat}{kvs:M (M B0×D)}(hR:B6 K H0 τ σ H)(e1:τ[i]?=some (some (.dt kvs))):∃a ps,σ[i]?=some (some (.ref a))/\H0 a=none/\H a=some (.dT ps)/\C9 K H kvs ps:=by
 obtain⟨v,hv,a,xs,rfl,h0,sq,al⟩:=hR.here i _ e1;exact⟨a,xs,hv,h0,sq,al⟩
def Q4z (i:Nat)(we:WE):WE:=fun τ Q=>∃kvs,τ[i]?=some (some (.dt kvs))/\we τ fun r=>∃ds ks d,r=.st (.tup ds)/\T6 ds=some ks/\F4 kvs ks=some d/\Q (.st d)
def W1p {i:Nat}(hu:X.A.units+1<cLine)(ho:PE X o (S9 i))(he:DE X H0 e we)(hs:Q8k e):DE X H0 (.Subscript o e pos) (Q4z i we) where
 mono:=fun τ P Q f cw=>(by obtain⟨kvs,e1,h⟩:=cw;exact⟨kvs,e1,he.mono τ _ _ (fun r de=>by obtain⟨ds,ks,d,a1,a2,a3,a4⟩:=de;exact⟨ds,ks,d,a1,a2,a3,f _ a4⟩) h⟩)
 pe:=Q9 (Z6y hu ho he.pe hs) fun σ H Q eI=>by
  obtain⟨τ,hR,kvs,e1,h⟩:=eI;obtain⟨a,ps,hv,h0,sq,kv⟩:=hR.dtAt e1;refine⟨_,hv,τ,hR,he.mono τ _ _ (fun r jN v H1 s1 ir=>?_) h⟩;obtain⟨ds,ks,d,a1,a2,a3,a4⟩:=jN;subst a1;have ir:A3 X.K H1 (.tup ds) v:=ir;unfold A3 at ir;obtain⟨b,xs,rfl,sb,al⟩:=ir;rw[Q7j a2 al]at sb;rcases C9.val (k:=ks) (kv.mono (Kp.of s1) _ _)with⟨n1,_⟩ |⟨d',v',n1,n2,n3⟩
  ·rw[a3]at n1;cases n1
  ·rw[a3]at n1;cases n1;refine⟨a,v',rfl,?_,a4 _ _ s1 n3⟩;have g:=Z3.t (s1 _ _ sq) sb;rw[n2]at g;exact g
def Q8b (i:Nat)(we:WE):WT:=fun τ Q=>∃kvs,τ[i]?=some (some (.dt kvs))/\we τ fun r=>∃ds ks,r=.st (.tup ds)/\T6 ds=some ks/\Q (!(F4 kvs ks).isSome)
def W2j {i:Nat}(hu:X.A.units+1<cLine)(he:DE X H0 e we)(ho:PE X o (S9 i))(h1:behindInMarks .NotIn o=false:=by rfl):DT X H0 (.Compare e [.NotIn] [o] pos) (Q8b i we) where
 mono:=fun τ P Q f de=>(by obtain⟨kvs,e1,h⟩:=de;exact⟨kvs,e1,he.mono τ _ _ (fun r⟨ds,ks,a1,a2,a4⟩=>⟨ds,ks,a1,a2,f _ a4⟩) h⟩)
 pt:=ptW (Y7p (Y6w hu he.pe ho) h1) fun σ H Q gv=>by
  obtain⟨τ,hR,kvs,e1,h⟩:=gv;refine⟨τ,hR,he.mono τ _ _ (fun r kL v H1 s1 ir=>?_) h⟩;obtain⟨ds,ks,a1,a2,a4⟩:=kL;obtain⟨a,ps,hv,h0,sq,kv⟩:=(hR.mono s1).dtAt e1;subst a1;have ir:A3 X.K H1 (.tup ds) v:=ir;unfold A3 at ir;obtain⟨b,xs,rfl,sb,al⟩:=ir;rw[Q7j a2 al]at sb;refine⟨_,hv,a,_,rfl,Z3.t sq sb,?_⟩;have e:(T1 ps ks).isSome=(F4 kvs ks).isSome:=by
   rcases C9.val (k:=ks) kv with⟨n1,n2⟩ |⟨d',v',n1,n2,n3⟩<;>rw[n1,n2]<;>rfl
  rw[e];exact⟨_,rfl,a4 _ s1⟩
def Q8c (i:Nat)(we wv:WE):WS:=fun E τ=>wv τ fun r=>∃d,r=.st d/\∃kvs,τ[i]?=some (some (.dt kvs))/\we τ fun rk=>∃ds ks,rk=.st (.tup ds)/\T6 ds=some ks/\kvs.length<sizeLine/\E.nx (τ.set i (some (.dt (O5 kvs ks d))))
def W1x {i:Nat}{v:Ag}  (hu:X.A.units+1<cLine)(ho:PE X o (S9 i))(he:DE X H0 e we)(hv:DE X H0 v wv)(hs:swapsWith v (some (.Subscript o e cn)) pos.line X.env=pure false:=by rfl):
  DS X H0 (.Assign [.Subscript o e cn] v pos) (Q8c i we wv) where
 mono:=fun τ E F le h=>hv.mono τ _ _ (fun r gu=>by obtain⟨d,e1,kvs,e2,h⟩:=gu;exact⟨d,e1,kvs,e2,he.mono τ _ _ (fun r⟨ds,ks,a1,a2,a3,a4⟩=>⟨ds,ks,a1,a2,a3,le.nx _ a4⟩) h⟩) h
 ps:=U2 (Y7n hu ho he.pe hv.pe hs) fun D σ H jQ=>by
  obtain⟨τ,hR,h⟩:=jQ;refine⟨τ,hR,hv.mono τ _ _ (fun r mt u H1 s1 ir=>?_) h⟩;obtain⟨d,e1,kvs,e2,h⟩:=mt;subst e1;have fY:=hR.mono s1;obtain⟨a,ps,jO,h0,sq,kv⟩:=fY.dtAt e2;refine⟨_,jO,τ,fY,he.mono τ _ _ (fun rk mr y H2 s2 ik=>?_) h⟩;obtain⟨ds,ks,a1,a2,a3,a4⟩:=mr;subst a1;have ik:A3 X.K H2 (.tup ds) y:=ik;unfold A3 at ik;obtain⟨b,xs,rfl,sb,al⟩:=ik;rw[Q7j a2 al]at sb;have gh:=s2 _ _ sq;have ke:=kv.mono (Kp.of s2) _ _;refine⟨a,_,rfl,Q4d.t gh sb (by rw[<-C9.length ke];exact a3),?_⟩;have kp:Kp H2 (A6 H2 a (.dT (P8 ps ks u))):=Q0r gh (by intro xs z;cases z) (by intro o u z;cases z) _;have iv:A3 X.K H2 d u:=A3.mono (Kp.of s2) _ _ ir;refine a4 σ _ ((Kp.of (s1.trans s2)).trans kp) ((fY.mono s2).mutG e2 rfl jO h0 gh (by intro xs z;cases z) (by intro o u z;cases z) ⟨a,_,rfl,h0,upd_same,?_⟩);exact C9.mono kp _ _ (C9.put iv ke)
end
section
variable {E:J4}{Q:R->Prop}{d:D}{ds:M D}
@[simp] theorem Z7j:Q4z n we τ Q=∃kvs,τ[n]?=some (some (.dt kvs))/\we τ fun r=>∃ds ks d,r=.st (.tup ds)/\T6 ds=some ks/\F4 kvs ks=some d/\Q (.st d):=rfl
@[simp] theorem Y8b:Q8b n we τ QB=∃kvs,τ[n]?=some (some (.dt kvs))/\we τ fun r=>∃ds ks,r=.st (.tup ds)/\T6 ds=some ks/\QB (!(F4 kvs ks).isSome):=rfl
@[simp] theorem Y8c:Q8c n wa wb E τ=wb τ fun r=>∃d,r=.st d/\∃kvs,τ[n]?=some (some (.dt kvs))/\wa τ fun rk=>∃ds ks,rk=.st (.tup ds)/\T6 ds=some ks/\kvs.length<sizeLine/\E.nx (τ.set n (some (.dt (O5 kvs ks d)))):=rfl
end
theorem Y3a {f:D->D->D}:∀(ps:M (D×D)) (o1 o2:Ac Sl) (Q:M D->Prop),(∀p∈ps,∀Q':R->Prop,Q' (.st (f p.1 p.2))->we (some (.dat p.1)::some (.dat p.2)::rest) Q') ->
  Q (ps.map fun p=>f p.1 p.2)->O9 (M6 2 (D7 (B7 0) (D7 (B7 1) N2))) X1 we (ps.map fun p=>.tup [p.1,p.2]) (o1::o2::rest) Q
 |[],o1,o2,Q,h,q=>q
 |p::ps,o1,o2,Q,h,q=>by
  simp only[ar,O9];simp;refine h p am _ ⟨_,rfl,?_⟩;exact Y3a ps _ _ _ (fun p hp=>h p (ak _ hp)) q
def V8m {ds:M D}(hq:∀H',Kp H H'->A4 H0 H'->G0 K H' l xs)(al:AllS K H ds xs):Yl K H0 (Iel K l) (K0 ds) H where
 go:=fun H' k s i hi=>by
  rw[Q4l]at hi;exact⟨xs,xs[i]'(by rw[<-al.length];exact hi),hq H' k s,ac _⟩
 yld:=fun H' k s i v fz d hd cw=>by
  obtain⟨T,x,hx,hT,hv,hH⟩:=cw;subst hH hv;refine⟨K2 hT _,?_⟩;obtain⟨y,hy,rfl⟩:=Z0z hd;obtain⟨v,hv,q⟩:=al.get hy;rw[hx xs (hq H' k s)]at hv;cases hv;exact A3.s_tup upd_same (AllS.cons Q3k (AllS.cons (q.mono (k.trans (Kp.of (K2 hT _))) _ _) AllS.nil))
 stop:=fun H' k s=>⟨xs,hq H' k s,by rw[Q4l];exact al.length.symm⟩
section
variable {a:Ag}
def Q8u (wr:WA):WI:=fun τ Q=>wr τ fun rs=>∃ds,rs=[.st (.lst ds)]/\Q (K0 ds) τ
def Y0l {pt:Pos}(hg:Gl X "enumerate")(hm:X.mg "enumerate"=none)(hv:bootBuiltins "enumerate"=some (.type "enumerate"))(ha:DA X H0 [a] wr)(he:starEach [a] X.env=(false,eval a X.env)::starEach [] X.env:=by rfl)(hpl:(backTo pos (starEach [] X.env)).any (·.1)=false:=by rfl):
  DI X H0 (.Tuple gT kk pt) (.Call (.Name "enumerate" p) [a] [] pos) (Q8u wr) where
 mono:=fun τ P Q f h=>ha.mono τ _ _ (fun r⟨ds,e1,q⟩=>⟨ds,e1,f _ _ q⟩) h
 pi:=by
  intro af s σ H R I ⟨τ,hR,h⟩;refine bn (Q3v I hg hm hv ?_ (?K) (?K));refine bE (B3 (ha.pa pos af s σ H (fun vs H1=>A4 H H1/\∃l xs ds,vs=[.ref l]/\FzL X.K H1 l xs/\AllS X.K H1 ds xs/\∀J H',Kp H H'->B6 X.K H0 τ σ H'->Yl X.K H0 J (K0 ds) H'->R J H') I
   ⟨τ,hR,ha.mono τ _ _ (fun rs ⟨ds,e1,q⟩ vs H1 s1 eD=>⟨s1,by
    subst e1;obtain⟨v,rfl,ir⟩:=Q1q eD;have ir:A3 X.K H1 (.lst ds) v:=ir;unfold A3 at ir;obtain⟨l,xs,rfl,sq,al⟩:=ir;exact⟨l,xs,ds,rfl,sq,al,q⟩⟩) h⟩) fun us s1 bG=>?_) he hpl
  obtain⟨vs,H1,I1,rv,sm,l,xs,ds,e1,sq,al,q⟩:=bG;subst e1;have big:∀b∈[s1.heap.objs.size+1,s1.heap.objs.size],J5 X af H1 b:=fun b hb=>by
   have hb:s1.heap.objs.size<=b:=by
    rcases av.mp hb with rfl |hb
    ·exact dF _
    ·have e:b=s1.heap.objs.size:=by simpa using hb
     rw[e];exact ao _
   exact I1.fpOk hb (I1.hok.fresh hb)
  obtain⟨u,rfl,ru⟩:=Q2g rv;cases (show u=Value.ref l from ru);obtain⟨bb,kc,pl,lK⟩:=I1.list sq.sq;obtain⟨o,n,ho,_⟩:=id pl;have hl:l<s1.heap.objs.size:=aw ho;refine call_enumerate_list pl.isList fun h' he hi hz k=>?_;refine ci he ⟨s1.heap.objs.size+1,[s1.heap.objs.size+1,s1.heap.objs.size],_,_,H1,rfl,I1.kept (t':=s1.toks) k,W0b (l:=l) (ef _) (ax (bj hl)) (ax hl),⟨⟨_,he⟩,hi⟩,big,q _ _ (Kp.of sm) (hR.mono sm) (V8m (xs:=xs) (fun H' k _=>(k.fzL sq).sq) al)⟩
end
@[simp] theorem V4w {Q:M D->B5->Prop}:Q8u wr τ Q=wr τ fun rs=>∃ds,rs=[.st (.lst ds)]/\Q (K0 ds) τ:=rfl
@[simp] theorem V0k {n:Bool}{r r':R}:Y1 n r r' QB=∃d,r.d=some d/\r'=.st .non/\QB (match d with |.non=>!n |_=>n):=rfl
def cD:Sum Int Str->D
 |.inl i=>.int i
 |.inr x=>.str x
def cV:Sum Int Str->V
 |.inl i=>.int i
 |.inr x=>.str x
section
variable {p2:Pos}
structure Q1f (X:Cx)(keys:M (Ac Ag))(values:M Ag)(pos:Pos)(kvs:M (Str×Sum Int Str))(iT:M (TE×TE)):Prop where
 pps:PPs X pos keys values iT
 rd:∀ σ H Q,Q (kvs.map fun kv=>(V.str kv.1,cV kv.2)) H->Z2v iT σ H Q
 all:keys.all (·.isSome)=true
 len:keys.length=values.length
def Q1f.nil:Q1f X [] [] pos [] []:=⟨Y7l,fun _ _ _ h=>h,rfl,rfl⟩
def Q1f.str {kvs:M (Str×Sum Int Str)}  {y:Str}{j j':Nat}(h:Q1f X keys values pos kvs iT):
  Q1f X (some (.Constant (.str x) j p)::keys) (.Constant (.str y) j' p2::values) pos ((x,.inr y)::kvs) ((tC (.str x),tC (.str y))::iT):=
 ⟨Y7k Z6z Z6z h.pps,fun σ H Q q=>h.rd σ H _ q,by simpa using h.all,by simp[h.len]⟩
theorem Y5t:∀(l:M (Str×Sum Int Str)) (c6:M (B0×V)),((c6.map (·.1))++l.map (fun kv=>(Sum.inr kv.1:B0))).Nodup->Q3w c6 (l.map fun kv=>((Sum.inr kv.1:B0),cV kv.2))=c6++l.map fun kv=>((Sum.inr kv.1:B0),cV kv.2)
 |[],c6,_=>by simp[Q3w]
 |kv::r,c6,nd=>by
  have hn:T1 c6 (Sum.inr kv.1)=none:=by
   cases e:T1 c6 (Sum.inr kv.1:B0)with
   |none=>rfl
   |some v=>
    have h1:(c6.any fun p=>decide (p.1=(Sum.inr kv.1:B0)))=true:=by rw[Z2y,e];rfl
    obtain⟨p,hp,h2⟩:=yS.mp h1;have h2:p.1=Sum.inr kv.1:=iw h2;exact absurd (ba.mp nd).2.2 (fun z=>z p.1 (au.mpr ⟨p,hp,rfl⟩) (Sum.inr kv.1) ?G h2)
  show Q3w (P8 c6 (Sum.inr kv.1) (cV kv.2)) (r.map _)=_;rw[V2s _ hn,Y5t r _ (by simpa using nd),bt]
  rfl
theorem W7o (c:Sum Int Str):E1 K H0 H (.st (cD c)) (cV c):=by
 cases c with
 |inl i=>exact Q0x
 |inr x=>exact Z1j
end
theorem Y1y {a b:Int}{c cv:Ad}(l:M Ad)(t:TriplesOk l)(h:codeAmong pos (l++[rawInt a,rawInt b,c])=some cv):codeAmong pos l=some cv\/cv=c:=by
 fun_induction TriplesOk l with
 |case1=>
  right
  have h:(if (a==(pos.line:Int)&&b==(pos.col:Int))=true then some c else codeAmong pos [])=some cv:=h;split at h
  ·exact(aA h).symm
  ·cases h
 |case2 i ti j tj x rest ih=>
  have h:(if (i==(pos.line:Int)&&j==(pos.col:Int))=true then some x else codeAmong pos (rest++[rawInt a,rawInt b,c]))=some cv:=h;show(if (i==(pos.line:Int)&&j==(pos.col:Int))=true then some x else codeAmong pos rest)=some cv\/_;split at h
  ·rename_i hc;rw[aQ hc];exact .inl h
  ·rename_i hc;rw[aI hc];exact ih t h
 |case3=>exact t.elim
def Q4:HO:=.ext fun _=>True
def Q5l {w:Ak}     (e:h.get? a=some o):ObjOk P w H h a (.frz o Q4):=⟨e,trivial,⟨o,e⟩,fun _ _ _ _=>trivial⟩
def Y5 (mg:Str->Ac Ad)(base:Heap):Prop:=∃bm ob,mg "__builtins__"=some (.ref bm)/\bm≠builtinsNs/\base.get? bm=some ob/\ob.cls=.type "module"/\ob.dict=some builtinsNs/\ob.data=.plain
abbrev W9 (X:Cx)(params:Arguments)(body:Ag)(sc:Scope)(clos:M (Str×Af))(c':Af)(ctv:Ad):Obj:=
 PySem.W.kla_obj "<lambda>" (X.env.qual++"<lambda>") params body sc clos ((X.mg "__name__").getD .none) c' ctv
def tLam (P:Af)(ob:Af->Ad->Obj):TE:=fun _ H Q=>∀f c' oc ctv H',A4 H H'->Q2j oc->H f=none->H' c'=some (.frz oc (.own P))->H' f=some (.frz (ob c' ctv) Q4)->(∀b,H' b≠none->H b=none->b=f\/b=c')->Q (.ref f) H'
section
variable {body:Ag}{c P:Af}
theorem Q9k (hB:Y5 X.mg X.base)(cU:X.env.code=.ref c)(hC:PySem.W.codeHdIn X.K c P=true)(gQ:closureFor sc X.env=pure clos)(hd:defaultsOf params X.env=([],[]):=by rfl):
  PE X (.Lambda params body sc pos) (fun σ H Q=>H P=some .tab/\tLam P (fun c' ctv=>W9 X params body sc clos c' ctv) σ H Q):=by
 intro af s σ H Q I ⟨hP,h⟩;refine PySem.W.kla_eval hd ?_;have ki:s.heap.Ns mainGlobals X.mg:=I.mod.glob.keeps I.bk;have C:=gH I.kIn hC;obtain⟨ps,eP,ht,en⟩:=(show ObjOk X.prog X.w H s.heap P .tab from I.hok P _ hP)
 obtain⟨bm,ob,b1,b2,b3,b4,b5,b6⟩:=hB;have bH:∀b o,X.base.get? b=some o->b≠P:=fun b o e z=>by
  have:=(I.bs b o e).2;rw[z,hP]at this;cases this
 have sn:mainGlobals≠P:=by
  obtain⟨o,es,ep,e,hd,_⟩:=I.mod.glob;exact bH _ _ e
 have gN:bm≠mainGlobals:=fun same=>by
  obtain⟨go,_,_,ge,gd,_⟩:=I.mod.glob;rw[same,ge]at b3;cases b3;rw[gd]at b6;cases b6
 have oJ:s.heap.BuiltinsAt X.mg P:=⟨bm,ob,b1,b2,gN,bH _ _ b3,I.bk _ _ b3,b4,b5,b6⟩
 cases hf:codeAmong pos ps.toList with
 |some cv=>
  obtain⟨c',oc,rfl,dW,eN⟩:=en pos cv hf;refine PySem.W.kla_makeFunctionHit (mg:=X.mg) gQ I.ok.glob ki cU C eP ht hf oJ fun ctv h' tk hk hsz=>?_;have oE:H h'.objs.size=none:=I.hok.fresh hsz;have ne:∀b u,H b=some u->b≠h'.objs.size:=fun b u e z=>by rw[z,oE]at e;cases e
  have kp:∀b o,s.heap.get? b=some o->(h'.push (W9 X params body sc clos c' ctv)).get? b=some o:=fun b o e=>ae _ (hk b o e);have lt:∀b o,s.heap.get? b=some o->b≠h'.objs.size:=fun b o e=>ax (ay (aw e) hsz);refine⟨.ref h'.objs.size,A6 H h'.objs.size (.frz (W9 X params body sc clos c' ctv) Q4),I.un (t':=tk) ⟨fun b o e _ _ _=>kp b o e,fun b o e _ _ _=>⟨o.slots,kp b o e⟩,fun b o e n _=>by rw[A7 (lt b o e)];exact n,fun b o e _=>⟨o,kp b o e⟩,
   fun b xs e=>by rw[A7 (ne b _ e)];exact e,fun b o u e=>by rw[A7 (ne b _ e)];exact e,fun b ps e=>⟨#[],by rw[A7 (ne b _ e),e];simp⟩⟩ ?_,rfl,?_⟩
  ·refine J6.laid (h:=s.heap) I.hok kp hsz (Q5l (aD _ rfl))
  ·exact h _ c' oc ctv _ (fun b u e=>by rw[A7 (ne b _ e)];exact e) eN oE (by rw[A7 (ne _ _ dW)];exact dW) upd_same fun b n1 n2=>by
    by_cases hb:b=h'.objs.size
    ·exact .inl hb
    ·rw[A7 hb]at n1;exact absurd n2 n1
 |none=>
  refine PySem.W.kla_makeFunction (mg:=X.mg) gQ I.ok.glob ki cU C eP ht hf sn oJ fun c' ctv h' tk hx gw bU mz nZ=>?_;obtain⟨c₂,oc,vs,tq,e2,eN,oG,hv⟩:=mz;cases e2;have gP:H c'=none:=I.hok.fresh gw;have ij:H h'.objs.size=none:=I.hok.fresh (aO gw (cg bU));have sF:c'≠h'.objs.size:=ax bU;have xC:P≠c':=fun z=>by rw[<-z,hP]at gP;cases gP
  have xB:P≠h'.objs.size:=fun z=>by rw[<-z,hP]at ij;cases ij
  have qV:∀b o,s.heap.get? b=some o->b≠c':=fun b o e=>ax (ay (aw e) gw);have qU:∀b o,s.heap.get? b=some o->b≠h'.objs.size:=fun b o e=>ax (ay (aw e) (aO gw (cg bU)));have qQ:∀b u,H b=some u->b≠c':=fun b u e z=>by rw[z,gP]at e;cases e
  have qP:∀b u,H b=some u->b≠h'.objs.size:=fun b u e z=>by rw[z,ij]at e;cases e
  have hH:∀b,b≠c'->b≠h'.objs.size->A6 (A6 H c' (.frz oc (.own P))) h'.objs.size (.frz (W9 X params body sc clos c' ctv) Q4) b=H b:=fun b n1 n2=>by rw[A7 n2,A7 n1]
  have mY:A6 (A6 H c' (.frz oc (.own P))) h'.objs.size (.frz (W9 X params body sc clos c' ctv) Q4) c'=some (.frz oc (.own P)):=by rw[A7 sF,upd_same]
  have kp:∀b o,b≠P->s.heap.get? b=some o->(h'.push (W9 X params body sc clos c' ctv)).get? b=some o:=fun b o n e=>ae _ (hx b o n e);have nP:∀b,H b=none->b≠P:=fun b n z=>by rw[z,hP]at n;cases n
  have sm:A4 H (A6 (A6 H c' (.frz oc (.own P))) h'.objs.size (.frz (W9 X params body sc clos c' ctv) Q4)):=fun b u e=>by rw[hH b (qQ b u e) (qP b u e)];exact e
  refine⟨.ref h'.objs.size,A6 (A6 H c' (.frz oc (.own P))) h'.objs.size (.frz (W9 X params body sc clos c' ctv) Q4),I.un (t':=tk) ⟨fun b o e n _ _=>kp b o (nP b n) e,fun b o e n _ _=>⟨o.slots,kp b o (nP b n) e⟩,fun b o e n _=>by rw[hH b (qV b o e) (qU b o e)];exact n,fun b o e _=>?_,
   fun b xs e=>sm _ _ e,fun b o u e=>sm _ _ e,fun b ps e=>⟨#[],by rw[sm _ _ e];simp⟩⟩ ?_,rfl,?_⟩
  ·by_cases hb:b=P
   ·exact⟨_,ae _ (hb▸nZ)⟩
   ·exact⟨o,kp b o hb e⟩
  ·intro b u e
   by_cases oK:b=h'.objs.size
   ·subst oK;rw[upd_same]at e;cases e;exact Q5l (aD _ rfl)
   by_cases hbc:b=c'
   ·subst hbc;rw[mY]at e;cases e;exact⟨ae _ eN,⟨_,ae _ eN⟩⟩
   rw[hH b hbc oK]at e
   by_cases hbP:b=P
   ·subst hbP;rw[hP]at e;cases e;refine⟨_,ae _ nZ,?_,fun cn cv q=>?_⟩
    ·have:=TriplesOk_snoc (pos.line:Int) (pos.col:Int) (.ref c') ps.toList ht;simpa using this
    ·have q:codeAmong cn (ps.toList++[rawInt (pos.line:Int),rawInt (pos.col:Int),.ref c'])=some cv:=by simpa using q
     rcases Y1y _ ht q with q |q
     ·obtain⟨c2,o2,e1,e2,e3⟩:=en cn cv q;exact⟨c2,o2,e1,sm _ _ e2,e3⟩
     ·exact⟨c',oc,q,mY,⟨vs,_,tq,oG,hv⟩⟩
   ·refine(I.hok b u e).stay (fun d v hc q=>kp d v ?_ q) (fun d v _ q=>sm _ _ q) fun d xs q=>sm _ _ q;rcases hc with z |z
    ·rw[z];exact hbP
    ·intro z2;rw[z2,hP]at z;cases z
  ·exact h _ c' oc ctv _ sm ⟨vs,_,tq,oG,hv⟩ ij mY upd_same fun b n1 n2=>by
    by_cases hb:b=h'.objs.size
    ·exact .inl hb
    by_cases hb2:b=c'
    ·exact .inr hb2
    ·rw[hH b hb2 hb]at n1;exact absurd n2 n1
end
structure S4 where
 name:Str
 addr:Af
 obj:Obj
 val:V
 slot:Sl
variable {caps:M S4}
def G1 (S:M Af)(H:Hp):Hp:=fun b=>if b∈S then none else H b
theorem Q4m {S:M Af}   (h:b∈S):G1 S H b=none:=aQ h
theorem Z7 {S:M Af}   (h:b∉S):G1 S H b=H b:=aI h
theorem W6l {S:M Af}   {u:HO}(h:G1 S H b=some u):b∉S/\H b=some u:=by grind [Q4m,Z7]
def showS (S:M Af)(H H':Hp):Hp:=fun b=>if b∈S then H b else H' b
def Z7t {S:M Af}   (h:b∈S):showS S H H' b=H b:=aQ h
def Q6f {S:M Af}   (h:b∉S):showS S H H' b=H' b:=aI h
def T3 (S:M Af)(H:Hp):Prop:=∀c∈S,∃o u,H c=some (.frz o Q4)/\o.data=.cell u
section
variable {w:Ak}{S:M Af}
def T3.out (hS:T3 S H)  {u:HO}(e:H b=some u)(n:∀o,u≠.frz o Q4):b∉S:=fun hb=>by
 obtain⟨o,_,q,_⟩:=hS b hb;rw[e]at q;exact n o (aA q)
def T3.tup (hS:T3 S H)   (e:H b=some (.tup xs)):G1 S H b=some (.tup xs):=by
 rw[Z7 (hS.out e (by intro o z;cases z))];exact e
def T3.own (hS:T3 S H)  {u:HO}(ow:Z0j a u)(e:H b=some u):G1 S H b=some u:=by
 rw[Z7 (hS.out e (by
  intro o z;rcases ow with rfl |⟨o',rfl⟩
  ·cases z
  ·injection z with _ z;cases z))]
 exact e
def J6.hid (x:J6 P w H h)(hS:T3 S H)(k:∀b u,h.get? b=some u->h'.get? b=some u):J6 P w (G1 S H) h':=fun b u e=>by
 obtain⟨hb,e⟩:=W6l e;exact(x b u e).stay (fun c v _ q=>k c v q) (fun c v ow q=>hS.own ow q) fun c xs q=>hS.tup q
end
def Q3i (Φ:Hp->Prop):Prop:=∀(S:M Af) (H:Hp),T3 S H->Φ H->Φ (G1 S H)
mutual
theorem A3.hid {K:Fg9}{S:M Af}{H:Hp}(hS:T3 S H):∀(d:D) (v:V),A3 K H d v->A3 K (G1 S H) d v
 |.non,v,h=>by unfold A3 at h ⊢;exact h
 |.bl _,v,h=>by unfold A3 at h ⊢;exact h
 |.int _,v,h=>by unfold A3 at h ⊢;exact h
 |.str _,v,h=>by unfold A3 at h ⊢;exact h
 |.tup ds,v,h=>by
  unfold A3 at h ⊢;obtain⟨a,xs,e,q,t⟩:=h;exact⟨a,xs,e,hS.tup q,AllS.hid hS ds xs t⟩
 |.lst ds,v,h=>by
  unfold A3 at h ⊢;obtain⟨a,xs,e,q,t⟩:=h;refine⟨a,xs,e,?_,AllS.hid hS ds xs t⟩;rcases q with⟨o,q⟩ |q
  ·exact .inl ⟨o,by rw[Z7 (hS.out q (by intro o z;injection z with _ z;cases z))];exact q⟩
  ·exact .inr q
theorem AllS.hid {K:Fg9}{S:M Af}{H:Hp}(hS:T3 S H):∀(ds:M D) (xs:M V),AllS K H ds xs->AllS K (G1 S H) ds xs
 |[],xs,h=>by unfold AllS at h ⊢;exact h
 |d::ds,xs,h=>by
  unfold AllS at h ⊢;obtain⟨v,r,e,q,t⟩:=h;exact⟨v,r,e,A3.hid hS d v q,AllS.hid hS ds r t⟩
end
def Q5f (K:Fg9)(H:Hp):Sl->V->Prop
 |.dat d,v=>A3 K H d v
 |.cl a Φ,v=>v=.ref a/\Φ H/\Q6r Φ/\Q3i Φ
 |_,_=>False
theorem Q5f.mono (k:Kp H H'):∀{s:Sl}{v:V},Q5f K H s v->Q5f K H' s v
 |.dat d,v,h=>A3.mono k d v h
 |.cl a Φ,v,h=>⟨h.1,h.2.2.1 _ _ k h.2.1,h.2.2⟩
 |.own _,_,h=>h.elim
 |.bor _,_,h=>h.elim
 |.bd _,_,h=>h.elim
 |.dk _,_,h=>h.elim
 |.dt _,_,h=>h.elim
 |.ob _,_,h=>h.elim
 |.ins _ _ _,_,h=>h.elim
 |.ll _ _,_,h=>h.elim
theorem Q5f.slot {S:M Af}  (hS:T3 S H):∀{s:Sl}{v:V},Q5f K H s v->SlR K (G1 S H) (G1 S H) s v/\s.mut=false
 |.dat d,v,h=>⟨A3.hid hS d v h,rfl⟩
 |.cl a Φ,v,h=>⟨⟨h.1,h.2.2.2 _ _ hS h.2.1,h.2.2.1⟩,rfl⟩
 |.own _,_,h=>h.elim
 |.bor _,_,h=>h.elim
 |.bd _,_,h=>h.elim
 |.dk _,_,h=>h.elim
 |.dt _,_,h=>h.elim
 |.ob _,_,h=>h.elim
 |.ins _ _ _,_,h=>h.elim
 |.ll _ _,_,h=>h.elim
structure Z3v (K:Fg9)(H:Hp)(p:S4):Prop where
 at_:H p.addr=some (.frz p.obj Q4)
 cell:∃u,p.obj.data=.cell (some u)/\C2 p.val u
 rel:Q5f K H p.slot p.val
def U6 (K:Fg9)(caps:M S4)(f c':Af)(fo:Obj)(H:Hp):Prop:=
 H f=some (.frz fo Q4)/\(∃oc Pt,H c'=some (.frz oc (.own Pt))/\Q2j oc)/\∀p∈caps,Z3v K H p
def U6.mono {fo:Obj}:Q6r (U6 K caps f c' fo):=fun H H' k ⟨h1,⟨oc,Pt,h2,h3⟩,h4⟩=>
 ⟨k.frz _ _ _ h1,⟨oc,Pt,k.frz _ _ _ h2,h3⟩,fun p hp=>⟨k.frz _ _ _ (h4 p hp).at_,(h4 p hp).cell,(h4 p hp).rel.mono k⟩⟩
def U6.hid0 {fo:Obj}(hf:∀u,fo.data≠.cell u):Q3i (U6 K [] f c' fo):=fun S H hS cw=>by
 obtain⟨h1,⟨oc,Pt,h2,h3⟩,_⟩:=cw;refine⟨?_,⟨oc,Pt,?_,h3⟩,fun p hp=>absurd hp ?G⟩
 ·rw[Z7]
  ·exact h1
  ·intro hb;obtain⟨o,u,q,d⟩:=hS _ hb;rw[h1]at q;injection q with q
   injection q with q
   exact hf u (q▸d)
 ·rw[Z7 (hS.out h2 (by intro o z;injection z with _ z;cases z))];exact h2
def Q7n (K:Fg9)(n:Nat)(Φ:Hp->Prop)(sp:F5):Sp:=fun vs H Q _=>∃(rs:M R) (r:R),rs.length=n/\M9 K (fun _=>none) H rs vs/\rs.all L3=true/\Φ H/\sp (rs.map nrm) r/\∀v H',A4 H H'->E1 K H H' r v->Q v H'
abbrev J1 (caps:M S4):M (Str×Af):=caps.map fun p=>(p.name,p.addr)
structure Q4e (ps fr:M Str)(sc:Scope):Prop where
 kind:sc.kind=.function
 co:sc.isCoroutine=false
 gen:sc.isGenerator=false
 nd:(ps++fr).Nodup
 par:∀x∈ps,sc.names.lookup x=some .local
 fre:∀x∈fr,sc.names.lookup x=some .free
 nocell:∀y∈sc.names,y.2≠.cell
 all:∀y∈sc.names,y.2=.free->y.1∈fr
def cxL (P:Aj)(w:Ak)(K:Fg9)(mg:Str->Ac Ad)(base:Heap)(N:M Str)(q:Str)(sc:Scope)(f c':Af)(caps:M S4)(A:Ah)(outer:M Env)(s:Ae)(H:Hp):Cx where
 prog:=P
 w:=w
 K:=K
 mg:=mg
 base:=base
 A:=A.deeper (PySem.W.envX q sc s.heap.objs.size f (.ref c') (J1 caps))
 N:=N
 s₀:=s
 H₀:=H
 env:=PySem.W.envX q sc s.heap.objs.size f (.ref c') (J1 caps)
 outer:=outer
 stack:=PySem.W.envX q sc s.heap.objs.size f (.ref c') (J1 caps)::outer
 ex:=[]
 calm:=true
 fn:=fun _=>false
 pn:=[]
 xe:=fun _ _=>False
def Q9a {c:Af}(h:(J1 caps).lookup x=some c):∃p∈caps,p.name=x/\p.addr=c:=by
 have:=bc h;obtain⟨p,hp,e⟩:=au.mp this;cases e;exact⟨p,hp,rfl,rfl⟩
theorem Q8p:∀{caps:M S4}{p:S4},(caps.map (·.name)).Nodup->p∈caps->(J1 caps).lookup p.name=some p.addr
 |[],_,_,mem=>absurd mem ?G
 |q::r,p,nd,mem=>by
  rw[ar,bo]at nd;show List.lookup p.name ((q.name,q.addr)::J1 r)=_;rcases av.mp mem with rfl |mem
  ·simp[List.lookup]
  ·have dO:p.name≠q.name:=fun z=>nd.1 (z▸db mem);rw[j5];have:(p.name==q.name)=false:=by simpa using dO
   rw[this];exact Q8p nd.2 mem
theorem Z4h:∀{caps:M S4}{p q:S4},(?E).Nodup->p∈caps->q∈caps->p.addr=q.addr->p=q:=by intro caps;induction caps<;>grind [ar,bo]
section
variable {Pg:Aj}{Wd:Ak}{Ar:Ah}{Rs:Result->Ae->Prop}
def W4o {args:Args}   {body:Ag}{q:Str}(deep:Ar.depth<recursionLimit)(at_:s.heap.get? a=some o)(is:o.data=.func fd)(c0:fd.scope.isCoroutine=false)(g0:fd.scope.isGenerator=false)(bd:fd.body=.expr body)(cd:s.heap.CodeRec fd.code q)
  (go:wpAny (model Pg Wd) Ar.in1 (bindArgs fd args)
   (fun bs s1=>wpAny (model Pg Wd) Ar.in1 (newFunctionEnv fd.scope fd.globals fd.closure bs (q++".<locals>.") (some a) fd.code none fd.builtins) (fun ev s2=>s2.heap.NoLimit/\codeAny (model Pg Wd) Ar (.expr body ev) Rs s2) (fun x s1=>Rs (.error x) s1) s1)
   (fun x s1=>Rs (.error x) s1) s):codeAny (model Pg Wd) Ar (.call (.ref a) args) Rs s:=by
 obtain⟨c,oc,fs,tk,hc,eN,sr,hn⟩:=cd;have run:wpAny (model Pg Wd) Ar.in1 (callAny (.ref a) args) (fun fin s1=>match fin with |.done fl=>Rs (.ok fl) s1 |.again c'=>c'.quiet=true/\codeAny (model Pg Wd) Ar c' Rs s1) (fun x s1=>Rs (.error x) s1) s:=by
  unfold callAny;refine aa (tf at_ ?_);rw[is];dsimp only;rw[hc]at go;unfold callFunction;simp only[c0,g0,bd,hc];refine aa (m:=field (.ref c) 1) (bT eN sr hn (aa (aj (aa (B3 go fun bs s1 h1=>?_)))));exact aa (B3 h1 fun ev s2⟨jL,h2⟩=>aa (wpAny_enterFrame jL deep (aj ⟨rfl,h2⟩)))
 exact nM run
end
theorem V8u:∀{ps:M Str}{us:M Ad}{i:Nat},ps.Nodup->ps[i]?=some x->us[i]?=some u->(ps.zip us).reverse.lookup x=some u:=by
 intro ps us i nd h1 h2;have hm:(x,u)∈(ps.zip us).reverse:=by
  rw[j4];refine az (i:=i) ?_;rw[cp];exact⟨h1,h2⟩
 have un:∀v,(x,v)∈(ps.zip us).reverse->v=u:=fun v hv=>by
  rw[j4]at hv;obtain⟨j,hj⟩:=List.getElem?_of_mem hv;rw[cp]at hj;have hi:i<ps.length:=(aJ.mp h1).1;have sj:i=j:=(List.getElem?_inj hi nd).mp (h1.trans hj.1.symm);subst sj;rw[h2]at hj;exact(aA hj.2).symm
 cases hl:(ps.zip us).reverse.lookup x with
 |none=>
  have:=List.lookup_eq_none_iff.mp hl _ hm;simp at this
 |some v=>rw[un v (bc hl)]
section
variable {w:Ak}{q:Str}{A:Ah}{outer:M Env}
theorem W7i (S:Q4e ps (caps.map (·.name)) sc)(i8:(?E).Nodup)(hd:A.handled=none)(e0:Q5h P w K mg base A outer s H)(hl:vs.length=ps.length)(r:C4 vs us)(hc:∀p∈caps,Z3v K H p)
  {h1:Heap}{tk:Nat} (lO:h1.Ns s.heap.objs.size fun x=>(ps.zip us).reverse.lookup x) (hk:∀b o,s.heap.get? b=some o->h1.get? b=some o):
  A1 (cxL P w K mg base (ps++caps.map (·.name)) q sc f c' caps A outer s (G1 (?E) H)) [] ((vs++caps.map (·.val)).map some) (G1 (?E) H) {s with heap:=h1,toks:=tk}:=by
 have hS:T3 (?E) H:=fun c dW=>by
  obtain⟨p,hp,rfl⟩:=au.mp dW;obtain⟨u,hu,_⟩:=(hc p hp).cell;exact⟨_,_,(hc p hp).at_,hu⟩
 have ie:∀b,H b=none->G1 (?E) H b=none:=fun b n=>by
  unfold G1;split
  ·rfl
  ·exact n
 have jg:(caps.map (·.name)).Nodup:=(ba.mp S.nd).2.1;have k9:∀p∈caps,∃u,h1.IsCell p.addr (some u)/\C2 p.val u:=fun p hp=>by
  obtain⟨u,hu,ru⟩:=(hc p hp).cell;exact⟨u,⟨p.obj,hk _ _ (e0.hok _ _ (hc p hp).at_).1,hu⟩,ru⟩
 have iX:∀b:Af,b∉(cxL P w K mg base (ps++caps.map (·.name)) q sc f c' caps A outer s (G1 (?E) H)).ex:=fun b z=>absurd (show b∈([]:M Af)from z) ?G;refine⟨⟨e0.mod,S.kind,rfl,rfl,ao _,fun y z c h1 h2=>?_,fun y hy=>?_,fun y c hf _=>absurd (show false=true from hf) (?K),fun _=>hd,iG e0.frames,.inr ⟨rfl,rfl⟩,fun b z=>absurd z (iX b),fun b o e=>⟨(e0.bs b o e).1,ie _ (e0.bs b o e).2⟩,e0.bsz,fun b _ _=>iX b,fun b z=>absurd z (iX b),e0.funs,fun b hb=>ie _ (e0.frf b hb)⟩,
  rfl,e0.bare,Un.kept hk,⟨_,lO,fun i y v h1 h2 h3=>?_⟩,fun y c h=>?_,ie _ (e0.hok.fresh (ao _)),fun y c h=>?_,fun p hp=>absurd (show p∈([]:Pn9)from hp) ?G,e0.hok.hid hS hk,?_⟩
 ·obtain⟨p,hp,rfl,e1⟩:=Q9a h1;obtain⟨p',oi,rfl,e2⟩:=Q9a h2;rw[Z4h i8 hp oi (e1.trans e2.symm)]
 ·have hy:sc.names.lookup y=some .cell\/sc.names.lookup y=some .free:=hy;rcases hy with hy |hy
  ·exact absurd rfl (S.nocell _ (bc hy))
  ·have:=S.all _ (bc hy) rfl;obtain⟨p,hp,e⟩:=au.mp this;have e:p.name=y:=e;exact⟨p.addr,by rw[<-e];exact Q8p jg hp⟩
 ·by_cases hi:i<ps.length
  ·have hp:ps[i]?=some y:=by rw[show(cxL P w K mg base (ps++caps.map (·.name)) q sc f c' caps A outer s (G1 (?E) H)).N=ps++caps.map (·.name)from rfl,aB hi]at h1;exact h1
   have hv:vs[i]?=some v:=by
    rw[ah,aB (by lia)]at h2;cases e:vs[i]? with
    |none=>rw[e]at h2;cases h2
    |some a=>rw[e]at h2;cases h2;rfl
   obtain⟨u,hu,rv⟩:=r.get hv;exact⟨u,rv,.inl ⟨S.par y (az hp),V8u (ba.mp S.nd).1 hp hu⟩⟩
  ·have hp:(caps.map (·.name))[i-ps.length]?=some y:=by rw[show(cxL P w K mg base (ps++caps.map (·.name)) q sc f c' caps A outer s (G1 (?E) H)).N=ps++caps.map (·.name)from rfl,aK (by lia)]at h1;exact h1
   have hv:(caps.map (·.val))[i-ps.length]?=some v:=by
    rw[ah,aK (by lia),hl]at h2;cases e:(caps.map (·.val))[i-ps.length]? with
    |none=>rw[e]at h2;cases h2
    |some a=>rw[e]at h2;cases h2;rfl
   rw[ah]at hp hv;cases e:caps[i-ps.length]? with
   |none=>rw[e]at hp;cases hp
   |some p=>
    rw[e]at hp hv;cases hp;cases hv;have lN:=az e;obtain⟨u,dP,ru⟩:=k9 p lN;exact⟨u,ru,.inr ⟨.inr (S.fre _ (db lN)),p.addr,Q8p jg lN,dP⟩⟩
 ·obtain⟨p,hp,rfl,rfl⟩:=Q9a h;obtain⟨u,dP,_⟩:=k9 p hp;exact⟨_,dP⟩
 ·obtain⟨p,hp,rfl,rfl⟩:=Q9a h;exact Q4m (db hp)
 ·rw[ag,aC,ag,hl];show _=(ps++caps.map (·.name)).length;rw[aC,ag]
end
def A4.showS {S:M Af}  (hS:T3 S H)(sm:A4 (G1 S H) H'):A4 H (showS S H H'):=fun b u e=>by
 by_cases hb:b∈S
 ·rw[Z7t hb];exact e
 ·rw[Q6f hb];exact sm b u (by rw[Z7 hb];exact e)
theorem Q8t {w:Ak}    {k:Nat}    {body:Ag}  {ctv:Ad}    
  (S:Q4e ps (caps.map (·.name)) sc) (i8:(?E).Nodup)
  (bQ:∀(A:Ah) (outer:M Env) (s:Ae) (H:Hp) (q:Str),E2 k (A.deeper (PySem.W.envX q sc s.heap.objs.size f (.ref c') (J1 caps)))->DE (cxL P w K mg base (ps++caps.map (·.name)) q sc f c' caps A outer s H) H body wb)
  (hw:∀rs r,rs.length=ps.length->sp rs r->∃(ds:M D) (d:D),rs=ds.map R.st/\r=.st d/\wb (ds.map (fun d=>some (Sl.dat d))++caps.map fun p=>some p.slot) fun r'=>r'=.st d):
  O8 P w K mg base G8 (k+1) f (PySem.W.kla_fn name qual params body sc (J1 caps) pm (.ref c') ctv) ps (Q7n K ps.length (U6 K caps f c' (PySem.W.kla_obj name qual params body sc (J1 caps) pm c' ctv)) sp):=by
 refine⟨fun vs H Q E h=>?_,fun A outer s H args us vs Q E hr e0 hb r io=>?_⟩
 ·obtain⟨rs,r,hl,al,_⟩:=h;rw[<-al.length];exact hl
 obtain⟨rs,r0,hl,al,ok,⟨hf,⟨oc,Pt,hc,qc⟩,fy⟩,h1,h2⟩:=io;have rY:vs.length=ps.length:=by rw[<-al.length];exact hl
 have jL:s.heap.NoLimit:=e0.mod.nolimit.keeps fun b o e=>(e0.bs b o e).1;have gf:s.heap.get? f=some _:=(e0.hok _ _ hf).1;have gc:s.heap.get? c'=some oc:=(e0.hok _ _ hc).1;obtain⟨t5,q,tq,fS,hq⟩:=qc;obtain⟨ds,d,oH,rfl,rK⟩:=hw (rs.map nrm) r0 (by rw[ag];exact hl) h1;have hS:T3 (?E) H:=fun c dW=>by
  obtain⟨p,hp,rfl⟩:=au.mp dW;obtain⟨u,hu,_⟩:=(fy p hp).cell;exact⟨_,_,(fy p hp).at_,hu⟩
 refine W4o (fd:=PySem.W.kla_fn name qual params body sc (J1 caps) pm (.ref c') ctv) hr.depth gf rfl S.co S.gen rfl ⟨c',oc,t5,tq,rfl,gc,fS,hq⟩ (hb _ _ _ _ ?_);refine cA S.nocell (fun y hy=>S.par _ (cL hy).1) (fun h1 lO np=>⟨(jL).fresh _ np,?_⟩) S.kind;have hk:∀b o,s.heap.get? b=some o->h1.get? b=some o:=fun b o e=>(np.2 b (ax (aw e))).trans (ae _ e);show codeAny _ _ (.expr body (PySem.W.envX q sc s.heap.objs.size f (.ref c') (J1 caps))) _ _;have I:=W7i (q:=q) (f:=f) (c':=c') (tk:=s.toks+(ps.zip us).length) S i8 hr.hd e0 rY r fy lO hk;have hD:=bQ A outer s (G1 (?E) H) q (hr.deeper _);have rep:B6 K (G1 (?E) H) (ds.map (fun d=>some (Sl.dat d))++caps.map fun p=>some p.slot) ((vs++caps.map (·.val)).map some) (G1 (?E) H):=by
  have ck:ds.length=vs.length:=by
   have:=congrArg List.length oH;rw[ag,ag]at this;rw[<-this,al.length]
  have args:∀(i:Nat) (d:D),ds[i]?=some d->∃v,vs[i]?=some v/\A3 K H d v:=fun i d e=>by
   have:(rs.map nrm)[i]?=some (.st d):=by rw[oH,ah,e];rfl
   rw[ah]at this;cases e2:rs[i]? with
   |none=>rw[e2]at this;cases this
   |some x=>
    rw[e2]at this;have hx:nrm x=.st d:=aA this;obtain⟨v,hv,q⟩:=al.get e2;refine⟨v,hv,?_⟩;cases x with
    |st y=>cases hx;exact q
    |nw _=>cases hx
    |bw _=>cases hx
    |dk _=>cases hx
    |dt _=>cases hx
    |ob _=>cases hx
    |cl _ _=>cases hx
    |ms _ _ _ _=>cases hx
  have Q4j:∀(i:Nat) (sl:Sl),(ds.map (fun d=>some (Sl.dat d))++caps.map fun p=>some p.slot)[i]?=some (some sl)->∃v,((vs++caps.map (·.val)).map some)[i]?=some (some v)/\SlR K (G1 (?E) H) (G1 (?E) H) sl v/\sl.mut=false:=fun i sl e=>by
   by_cases hi:i<ds.length
   ·rw[aB (by rw[ag];exact hi),ah]at e;cases e1:ds[i]? with
    |none=>rw[e1]at e;cases e
    |some y=>
     rw[e1]at e;cases e;obtain⟨v,hv,q⟩:=args i y e1;refine⟨v,?_,A3.hid hS _ _ q,rfl⟩;rw[ah,aB (by lia),hv];rfl
   ·rw[aK (by rw[ag];lia),ag,ah]at e;cases e1:caps[i-ds.length]? with
    |none=>rw[e1]at e;cases e
    |some p=>
     rw[e1]at e;cases e;obtain⟨q1,q2⟩:=(fy p (az e1)).rel.slot hS;refine⟨p.val,?_,q1,q2⟩;rw[ah,aK (by lia),ah,<-ck,e1];rfl
  refine⟨by simp[ck],A4.refl _,fun i sl e=>let ⟨v,a,b,_⟩:=Q4j i sl e;⟨v,a,b⟩,fun i j s t v _ e1 _ m _ _ _=>?_⟩;obtain⟨_,_,_,z⟩:=Q4j i s e1;rw[z]at m;cases m
 refine PySem.W.kla_codeExpr (aE (hD.pe [] _ _ _ (fun v H'=>A4 (G1 (?E) H) H'/\A3 K H' d v) I ⟨_,rep,hD.mono _ _ _ (fun r' mB v H' sm ir=>by subst mB;exact⟨sm,ir⟩) rK⟩) (fun u s' hs=>?_) fun e s' hs=>(show False from hs).elim);obtain⟨v,H',J,rv,sm,q⟩:=hs;have out:∀b u,H' b=some u->b∉?E:=fun b u e fT=>by
  obtain⟨o,u',jY,_⟩:=hS b fT;have:=J.base.free b o (e0.hok _ _ jY).1 (Q4m fT) (by show b∉([]:M Af);simp);rw[this]at e;cases e
 have dG:A4 H' (showS (?E) H H'):=fun b u e=>by rw[Q6f (out b u e)];exact e
 have kC:=A4.showS hS sm;show CE outer P w H s Q u s';refine⟨v,showS (?E) H H',J.os,J.bare,?_,?_,rv,h2 v (showS (?E) H H') kC (show E1 K H (showS (?E) H H') (.st d) v from A3.mono (Kp.of dG) d v q)⟩
 ·have hn:∀b,H b=none->b∉?E:=fun b n hb=>by obtain⟨o,u,q,_⟩:=hS b hb;rw[n]at q;cases q
  have hid0:∀b,H b=none->G1 (?E) H b=none:=fun b n=>by rw[Z7 (hn b n)];exact n
  refine⟨fun b o e n hb hx=>J.base.keep b o e (hid0 b n) hb hx,fun b o e n hb hx=>J.base.slot b o e (hid0 b n) hb hx,fun b o e n hx=>?_,fun b o e hx=>J.base.there b o e hx,fun b xs e=>kC _ _ e,fun b o u e=>kC _ _ e,fun b ps e=>⟨#[],by rw[kC _ _ e];simp⟩⟩;rw[Q6f (hn b n)];exact J.base.free b o e (hid0 b n) hx
 ·intro b u e
  by_cases fT:b∈?E
  ·rw[Z7t fT]at e;obtain⟨o,u',jY,_⟩:=hS b fT;rw[jY]at e;cases e;have g:=(e0.hok _ _ jY).1;have:b∉U0 outer:=fun z=>by have:=e0.frf b z;rw[jY]at this;cases this
   exact Q5l (J.base.keep b o g (Q4m fT) this (by show b∉([]:M Af);simp))
  ·rw[Q6f fT]at e;exact(J.hok b u e).stay (fun c v _ q=>q) (fun c v _ q=>dG _ _ q) fun c xs q=>dG _ _ q
structure D9 (P:Aj)(w:Ak)(K:Fg9)(mg:Str->Ac Ad)(base:Heap)(k n:Nat)(f:Af)(Φ:Hp->Prop)(sp:F5):Prop where
 ex:∃(fd:Ai) (ps:M Str),O8 P w K mg base G8 k f fd ps (Q7n K n Φ sp)/\ps.length=n/\S3 K fd ps []/\∀(h:Heap) (H:Hp),J6 P w H h->K.In h->Φ H->∃o,h.get? f=some o/\o.data=.func fd
section
variable {k i:Nat}{es:M Ag}{t:TA}
def V1k (hr:E2 k X.A)(hv:PE X (.Name x p) (S9 i))(ha:PA X (e::es) t)(he:?I:=by rfl)(hpl:(backTo pos (starEach es X.env)).any (·.1)=false:=by rfl):
  PE X (.Call (.Name x p) (e::es) [] pos) (fun σ H Q=>∃f Φ sp,σ[i]?=some (some (.ref f))/\D9 X.prog X.w X.K X.mg X.base k n f Φ sp/\t σ H fun vs H1=>Q7n X.K n Φ sp vs H1 Q E0):=by
 intro af s σ H Q I ⟨f,Φ,sp,h0,F,h⟩;obtain⟨fd,ps,F,hn,hb,here⟩:=F.ex;refine bn (B3 (hv af s σ H (fun v H'=>v=.ref f/\t σ H' fun vs H1=>Q7n X.K n Φ sp vs H1 Q E0) I ⟨.ref f,h0,rfl,h⟩) fun u s1 bG=>?_);obtain⟨v,H1,I1,r,ev,q⟩:=bG;subst ev;obtain rfl:u=Value.ref f:=r;refine PySem.W.callWith_of (P:=fun h=>∃o,h.get? f=some o/\o.data=.func fd) (by rw[he];show((false||(backTo pos (starEach es X.env)).any (·.1))||false)=false;rw[hpl];rfl) (fun h ⟨o,e1,e2⟩=>⟨.frame,.inl rfl,?_⟩) ?_
 ·obtain⟨oc,od,dt,sl⟩:=o;have e2:dt=.func fd:=e2;subst e2;exact(PySem.W.Looks.ld (part:=none) e1).andThen .now
 rw[he];refine cB ?_;have h2:=ha pos af s1 σ H1 _ I1 q;rw[he]at h2;refine B3 h2 fun us s2 ⟨vs,H2,I2,r,q⟩=>⟨?_,?_⟩
 ·obtain⟨rs,r0,_,_,_,hΦ,_⟩:=q;exact here _ _ I2.hok I2.kIn hΦ
 ·have:=Y7z F hr hb .nil Z2d I2 r (show Q7n X.K n Φ sp (vs++[]) H2 Q E0 by rw[b8];exact q);exact this
end
abbrev J9:=Nat->Af->(Hp->Prop)->F5->Prop
variable {FC dY dh:J9}
section
variable {es:M Ag}{k i:Nat}
def Y4 (FC:J9)(n i:Nat)(wr:WA):WE:=fun τ Q=>∃f Φ sp,τ[i]?=some (some (.cl f Φ))/\FC n f Φ sp/\wr τ fun rs=>rs.all L3=true/\∃r,sp (rs.map nrm) r/\Q r
def Y0g (hr:E2 k X.A)(hv:PE X (.Name x p) (S9 i))(ha:DA X H0 (e::es) wr)(he:?I:=by rfl)(hpl:(backTo pos (starEach es X.env)).any (·.1)=false:=by rfl):
  DE X H0 (.Call (.Name x p) (e::es) [] pos) (Y4 (D9 X.prog X.w X.K X.mg X.base k) (e::es).length i wr) where
 mono:=fun τ P Q f cw=>(by obtain⟨g,Φ,sp,h0,F,h⟩:=cw;exact⟨g,Φ,sp,h0,F,ha.mono τ _ _ (fun rs⟨ok,r,h1,h2⟩=>⟨ok,r,h1,f r h2⟩) h⟩)
 pe:=Q9 (V1k (n:=(e::es).length) hr hv ha.pa he hpl) fun σ H Q eI=>by
  obtain⟨τ,hR,f,Φ,sp,h0,F,h⟩:=eI;obtain⟨v,hv,rv⟩:=hR.here i _ h0;obtain⟨rfl,hΦ,hM⟩:v=.ref f/\Φ H/\Q6r Φ:=rv;exact⟨f,Φ,sp,hv,F,τ,hR,ha.mono τ _ _ (fun rs fR vs H1 s1 eD=>(by obtain⟨mN,ok,r,h1,h2⟩:=fR;exact⟨rs,r,mN,eD.v,ok,hM _ _ (Kp.of s1) hΦ,h1,fun v H' s2 ir=>h2 v H' (s1.trans s2) (ir.older s1)⟩)) (ha.len τ _ h)⟩
@[simp] theorem Q4t {Q:R->Prop}:Y4 FC n i wr τ Q=∃f Φ sp,τ[i]?=some (some (.cl f Φ))/\FC n f Φ sp/\wr τ fun rs=>rs.all L3=true/\∃r,sp (rs.map nrm) r/\Q r:=rfl
end
section
variable {body:Ag}{c:Af}{k:Nat}
def Q4b (FC:J9)(n:Nat)(sp:F5):WE:=fun _ Q=>∀f Φ,FC n f Φ sp->Q3i Φ->Q (.cl f Φ)
def Q8f (hT:H0 Pt=some .tab)(hB:Y5 X.mg X.base)(cU:X.env.code=.ref c)(hC:PySem.W.codeHdIn X.K c Pt=true)(gQ:closureFor sc X.env=pure [])(S:Q4e ps [] sc)
  (dE:∀(qual:Str) (pm cd ct:Ad) (us:M Ad),us.length=ps.length->bindArgs (PySem.W.kla_fn "<lambda>" qual params body sc [] pm cd ct) ⟨us,[]⟩=pure (ps.zip us))
  (bQ:∀(f c':Af) (A:Ah) (outer:M Env) (s:Ae) (H:Hp) (q:Str),E2 k (A.deeper (PySem.W.envX q sc s.heap.objs.size f (.ref c') []))->DE (cxL X.prog X.w X.K X.mg X.base ps q sc f c' [] A outer s H) H body wb)
  (hw:∀rs r,rs.length=ps.length->sp rs r->∃(ds:M D) (d:D),rs=ds.map R.st/\r=.st d/\wb (ds.map (fun d=>some (Sl.dat d))) fun r'=>r'=.st d) (hd:defaultsOf params X.env=([],[]):=by rfl):
  DE X H0 (.Lambda params body sc pos) (Q4b (D9 X.prog X.w X.K X.mg X.base (k+1)) ps.length sp) where
 mono:=fun τ P Q g h f Φ F hH=>g _ (h f Φ F hH)
 pe:=Q9 (Q9k hB cU hC gQ hd) fun σ H Q gv=>by
  obtain⟨τ,hR,h⟩:=gv;refine⟨hR.same _ _ hT,fun f c' oc ctv H' sm eN hf dW ii _=>?_⟩;have LP:U6 X.K [] f c' (W9 X params body sc [] c' ctv) H':=⟨ii,⟨oc,Pt,dW,eN⟩,fun p hp=>absurd hp ?G⟩
  have F0:=Q8t (P:=X.prog) (w:=X.w) (K:=X.K) (mg:=X.mg) (base:=X.base) (k:=k) (f:=f) (c':=c') (name:="<lambda>") (qual:=X.env.qual++"<lambda>") (params:=params) (body:=body) (sc:=sc) (pm:=(X.mg "__name__").getD .none) (ctv:=ctv) (ps:=ps) (caps:=[]) (sp:=sp) (wb:=wb) S dM
   (fun A outer s H q hr=>by rw[cu,b8];exact bQ f c' A outer s H q hr) (fun rs r hl hs=>by obtain⟨ds,d,e1,e2,e3⟩:=hw rs r hl hs;exact⟨ds,d,e1,e2,by rw[cu,b8];exact e3⟩)
  refine h f (U6 X.K [] f c' (W9 X params body sc [] c' ctv)) ⟨_,ps,F0,rfl,S3.all (dE _ _ _ _),fun hh Hh hok _ hΦ=>⟨_,(hok _ _ hΦ.1).1,rfl⟩⟩ (U6.hid0 (fun u z=>by cases z)) (.ref f) H' sm ⟨rfl,LP,U6.mono⟩
@[simp] theorem Y8h {Q:R->Prop}:Q4b FC n sp τ Q=∀f Φ,FC n f Φ sp->Q3i Φ->Q (.cl f Φ):=rfl
end
def V7 (caps:M S4)(H:Hp):Hp:=fun b=>match caps.find? (fun p=>p.addr==b)with
 |some p=>some (.frz p.obj Q4)
 |none=>H b
theorem Q4h {p:S4}(nd:(?E).Nodup)(hp:p∈caps):V7 caps H p.addr=some (.frz p.obj Q4):=by grind [V7,jD,fe,Z4h]
theorem Q8l (h:b∉?E):V7 caps H b=H b:=by grind [V7,jD,fe]
structure Q2i (X:Cx)(s:Ae)(p:S4):Prop where
 look:X.env.cells.lookup p.name=some p.addr
 own:X.fn p.name=true
 get:s.heap.get? p.addr=some p.obj
 cell:∃u,p.obj.data=.cell (some u)/\C2 p.val u
section
variable {σ:St}
theorem Q8q (I:?B):∀{caps:M S4},(caps.map (·.name)).Nodup->(∀p∈caps,Q2i X s p)->(?E).Nodup
 |[],_,_=>dM
 |p::r,nd,h=>by
  rw[ar,bo]at nd ⊢;refine⟨fun hm=>?_,Q8q I nd.2 fun q hq=>h q (ak _ hq)⟩;obtain⟨q,hq,e⟩:=au.mp hm;have e:q.addr=p.addr:=e;have h1:=(h p am).look;have h2:=(h q (ak _ hq)).look;rw[e]at h2;exact nd.1 (au.mpr ⟨q,hq,I.ok.inj _ _ _ h2 h1⟩)
def Q5j (I:?B)(hc:∀p∈caps,Q2i X s p):A4 H (V7 caps H):=fun b u e=>by
 rw[Q8l]
 ·exact e
 ·intro hb;obtain⟨p,hp,rfl⟩:=au.mp hb;rw[I.freeC _ _ (hc p hp).look]at e;cases e
def Z0m (nd:(?E).Nodup)(hc:∀p∈caps,Q2i X s p):T3 (?E) (V7 caps H):=fun c l8=>by
 obtain⟨p,hp,rfl⟩:=au.mp l8;obtain⟨u,hu,_⟩:=(hc p hp).cell;exact⟨p.obj,some u,Q4h nd hp,hu⟩
def Y3m (I:?B)(nd:(?E).Nodup)(hc:∀p∈caps,Q2i X s p):Q5h X.prog X.w X.K X.mg X.base X.A X.stack s (V7 caps H):=by
 have e0:=I.env0;have ge:∀p∈caps,X.s₀.heap.objs.size<=p.addr:=fun p hp=>I.ok.cab _ _ (hc p hp).own (hc p hp).look;have keep:∀b,b∉?E->H b=none->V7 caps H b=none:=fun b hb n=>by rw[Q8l hb];exact n
 refine⟨e0.frames,e0.mod,fun b o e=>⟨(e0.bs b o e).1,keep b (fun hb=>?_) (e0.bs b o e).2⟩,e0.bsz,e0.funs,fun b hb=>keep b (fun iN=>?_) (e0.frf b hb),fun b u e=>?_,e0.bare⟩
 ·obtain⟨p,hp,rfl⟩:=au.mp hb;exact absurd (ay (aw e) I.ok.bsz) (fU.mpr (ge p hp))
 ·obtain⟨p,hp,rfl⟩:=au.mp iN;rcases av.mp (I.stkSub _ hb)with z |z
  ·exact I.cne _ _ (hc p hp).look z
  ·obtain⟨_,o,ho,_⟩:=I.ok.funs.mem z;exact absurd (aw ho) (fU.mpr (ge p hp))
 ·by_cases hb:b∈?E
  ·obtain⟨p,hp,rfl⟩:=au.mp hb;rw[Q4h nd hp]at e;cases e;exact Q5l (hc p hp).get
  ·rw[Q8l hb]at e;exact(I.hok b u e).stay (fun c v _ q=>q) (fun c v _ q=>Q5j I hc _ _ q) fun c xs q=>Q5j I hc _ _ q
theorem Z7g {CX:CXT}{k:Nat}    {sp:Sp}{Q:VK}{E:XK}   (F:O8 X.prog X.w X.K X.mg X.base G8 k f fd ps sp)(hr:E2 k X.A)(hb:S3 X.K fd ps [])
  (I:?B) (nd:(?E).Nodup) (hc:∀p∈caps,Q2i X s p) (r:C4 vs us) (h:sp vs (V7 caps H) (fun v H'=>A4 (V7 caps H) H'/\Q v (G1 (?E) H')) E):wpAny ?C X.A (call (.ref f) us) (EP X af σ Q) X.xe s:=by
 have hl:us.length=ps.length:=by rw[<-r.length];exact F.len _ _ _ _ h
 have iN:BindsTo s fd ⟨us,[]⟩ (ps.zip us):=by have:=hb s us I.kIn (by rw[b8];exact hl);rw[b8]at this;exact this
 refine wpAny_call (lv (F.run X.A X.stack s (V7 caps H) ⟨us,[]⟩ us vs _ E hr (Y3m I nd hc) iN r h) fun r s' hq=>?_);cases r with
 |error e=>exact(show False from hq).elim
 |ok fl=>
  cases fl with
  |next=>exact False.elim hq
  |brk=>exact False.elim hq
  |cont=>exact False.elim hq
  |ret u=>
   obtain⟨v,H',os,bare,un,hok,rv,sm,q⟩:=hq;have hS:T3 (?E) H':=fun c l8=>by
    obtain⟨o,u,e1,e2⟩:=Z0m (H:=H) nd hc c l8;exact⟨o,u,un.frzs _ _ _ e1,e2⟩
   have mh:∀b,H b=none->b∉?E->V7 caps H b=none:=fun b n hb=>by rw[Q8l hb];exact n
   have kept:∀p∈caps,s'.heap.get? p.addr=some p.obj:=fun p hp=>(hok _ _ (un.frzs _ _ _ (Q4h nd hp))).1;have Q1z:∀b u,H b=some u->b∉?E:=fun b u e hb=>by
    obtain⟨p,hp,rfl⟩:=au.mp hb;rw[I.freeC _ _ (hc p hp).look]at e;cases e
   have iQ:∀b u,H b=some u->G1 (?E) H' b=some u:=fun b u e=>by
    rw[Z7 (Q1z b u e)];exact sm _ _ (Q5j I hc _ _ e)
   refine I.after ⟨v,G1 (?E) H',os,bare,⟨fun b o e n hb hx=>?_,fun b o e n hb hx=>?_,fun b o e n hx=>?_,fun b o e hx=>un.there b o e hx,fun b xs e=>iQ _ _ e,fun b o u e=>iQ _ _ e,fun b ps e=>⟨#[],by rw[iQ _ _ e];simp⟩⟩,J6.hid hok hS fun _ _ q=>q,rv,q⟩
   ·by_cases fT:b∈?E
    ·obtain⟨p,hp,rfl⟩:=au.mp fT;rw[(hc p hp).get]at e;cases e;exact kept p hp
    ·exact un.keep b o e (mh b n fT) hb hx
   ·by_cases fT:b∈?E
    ·obtain⟨p,hp,rfl⟩:=au.mp fT;rw[(hc p hp).get]at e;cases e;exact⟨_,kept p hp⟩
    ·exact un.slot b o e (mh b n fT) hb hx
   ·by_cases fT:b∈?E
    ·exact Q4m fT
    ·rw[Z7 fT];exact un.free b o e (mh b n fT) hx
end
def G6 (wb:WE)(cr:M Sl):F5:=fun rs r=>∃(ds:M D) (d:D),rs=ds.map R.st/\r=.st d/\wb (ds.map (fun d=>some (Sl.dat d))++cr.map some) fun r'=>r'=.st d
def capS:Sl->Prop
 |.dat _=>True
 |.cl _ Φ=>Q3i Φ
 |_=>False
def Z0 (τ:B5):M (Str×Nat)->M Sl->Prop
 |[],cr=>cr=[]
 |c::cs,cr=>∃s r,cr=s::r/\τ[c.2]?=some (some s)/\capS s/\Z0 τ cs r
theorem Q6z (I:?B)(hR:B6 X.K H0 τ σ H):∀{cs:M (Str×Nat)}{cr:M Sl},(∀c∈cs,X.N[c.2]?=some c.1/\X.env.kindOf c.1=some .cell/\X.fn c.1=true)->Z0 τ cs cr ->
  ∃caps:M S4,caps.map (·.name)=cs.map (·.1)/\caps.map (·.slot)=cr/\∀p∈caps,Q2i X s p/\Q5f X.K H p.slot p.val
 |[],cr,_,h=>by
  have h:cr=[]:=h;subst h;exact⟨[],rfl,rfl,fun p hp=>absurd hp ?G⟩
 |c::cs,cr,hk,h=>by
  obtain⟨sl,r,rfl,e,hc,h⟩:=h;obtain⟨caps,h1,h2,h3⟩:=Q6z I hR (fun c hc=>hk c (ak _ hc)) h;obtain⟨k1,k2,k3⟩:=hk c am;obtain⟨v,hv,rv⟩:=hR.here c.2 sl e;obtain⟨m,hn,hl⟩:=I.loc;obtain⟨u,ru,lk⟩:=hl c.2 c.1 v k1 hv (.inr (.inl k2));rcases lk with⟨z,_⟩ |⟨_,ca,fg,o,ho,hd⟩
  ·rw[k2]at z;cases z
  refine⟨⟨c.1,ca,o,v,sl⟩::caps,by rw[ar,ar,h1],by rw[ar,h2],fun p hp=>?_⟩;rcases av.mp hp with rfl |hp
  ·refine⟨⟨fg,k3,ho,⟨u,hd,ru⟩⟩,?_⟩;cases sl with
   |dat d=>exact rv
   |cl a Φ=>exact⟨rv.1,rv.2.1,rv.2.2,hc⟩
   |own _=>exact hc.elim
   |bor _=>exact hc.elim
   |bd _=>exact hc.elim
   |dk _=>exact hc.elim
   |dt _=>exact hc.elim
   |ob _=>exact hc.elim
   |ins _ _ _=>exact hc.elim
   |ll _ _=>exact hc.elim
  ·exact h3 p hp
theorem Q6y {cs:M (Str×Af)}:∀{caps:M S4}{cs:M (Str×Af)},caps.map (·.name)=cs.map (·.1)->(∀p∈caps,X.env.cells.lookup p.name=some p.addr)->(∀y∈cs,X.env.cells.lookup y.1=some y.2)->J1 caps=cs
 |[],[],_,_,_=>rfl
 |[],_::_,h,_,_=>by cases h
 |_::_,[],h,_,_=>by cases h
 |p::r,y::cs,h,h1,h2=>by
  rw[ar,ar,dn]at h;have e1:=h1 p am;have e2:=h2 y am;rw[h.1,e2]at e1;show(p.name,p.addr)::J1 r=y::cs;rw[Q6y (cs:=cs) h.2 (fun q hq=>h1 q (ak _ hq)) fun z hz=>h2 z (ak _ hz),h.1,<-aA e1]
def Z9b (FC:J9)(n:Nat)(cs:M (Str×Nat))(wb:WE)(sp:F5)(we:WE):WE:=fun τ Q=>we τ fun r1=>L3 r1=true/\∃cr,Z0 τ cs cr/\∀f Φ,FC n f Φ (G6 wb cr)->∃d,sp [nrm r1,.cl f Φ] (.st d)/\Q (.st d)
section
variable {k kl:Nat}{jI:M Str}{dq:Pos}{body:Ag}{c:Af}{cs:M (Str×Nat)}
def W1m (F:O8 X.prog X.w X.K X.mg X.base G8 k f fd jI (Q2u X.K 2 sp))(hr:E2 k X.A)(hg:Gl X x)(hm:X.mg x=some (.ref f))(hk:PySem.W.keepIn X.K (.ref f)=true)(hb:S3 X.K fd jI [])(ha:DE X H0 e we)
  (hT:H0 Pt=some .tab) (hB:Y5 X.mg X.base) (cU:X.env.code=.ref c) (hC:PySem.W.codeHdIn X.K c Pt=true) (gQ:closureFor sc X.env=pure clos) (gP:cs.map (·.1)=clos.map (·.1)) (gR:∀y∈clos,X.env.cells.lookup y.1=some y.2)
  (jt:∀c∈cs,X.N[c.2]?=some c.1/\X.env.kindOf c.1=some .cell/\X.fn c.1=true) (S:Q4e ps (cs.map (·.1)) sc)
  (dE:∀(qual:Str) (cl:M (Str×Af)) (pm cd ct:Ad) (us:M Ad),us.length=ps.length->bindArgs (PySem.W.kla_fn "<lambda>" qual params body sc cl pm cd ct) ⟨us,[]⟩=pure (ps.zip us))
  (bQ:∀(caps:M S4) (f c':Af) (A:Ah) (outer:M Env) (s:Ae) (H:Hp) (q:Str),caps.map (·.name)=cs.map (·.1)->E2 kl (A.deeper (PySem.W.envX q sc s.heap.objs.size f (.ref c') (J1 caps)))->DE (cxL X.prog X.w X.K X.mg X.base (ps++cs.map (·.1)) q sc f c' caps A outer s H) H body wb)
  (fG:(x==("__debug__":Str))=false:=by decide) (he:starEach [e,.Lambda params body sc dq] X.env=(false,eval e X.env)::starEach [.Lambda params body sc dq] X.env:=by rfl) (mR:starEach [.Lambda params body sc dq] X.env=(false,eval (.Lambda params body sc dq) X.env)::starEach [] X.env:=by rfl)
  (hpl:(backTo pos (starEach [.Lambda params body sc dq] X.env)).any (·.1)=false:=by rfl) (hd:defaultsOf params X.env=([],[]):=by rfl):
  DE X H0 (.Call (.Name x p) [e,.Lambda params body sc dq] [] pos) (Z9b (D9 X.prog X.w X.K X.mg X.base (kl+1)) ps.length cs wb sp we) where
 mono:=fun τ P Q g h=>ha.mono τ _ _ (fun r1⟨ok,cr,h1,h2⟩=>⟨ok,cr,h1,fun f Φ F=>let ⟨d,a,b⟩:=h2 f Φ F;⟨d,a,g _ b⟩⟩) h
 pe:=by
  intro af s σ H Q I ⟨τ,hR,h⟩;refine bn (Q8y I hg hm ?_ fG);have oT:PA X [e,.Lambda params body sc dq] (Q4v _ (Q4v _ Z2u)):=Q2a (es:=[.Lambda params body sc dq]) ha.pe (Q2a (es:=[]) (Q9k (pos:=dq) hB cU hC gQ hd) Q6c mR) he;refine eR (h₀:=X.base) I.ok.mod.kin hk (B3 (oT pos af s σ H (fun vs H1=>A4 H H1/\∃v1 fa c' oc ctv r1,vs=[v1,.ref fa]/\E1 X.K H H1 r1 v1/\L3 r1=true/\Q2j oc/\H1 c'=some (.frz oc (.own Pt))/\H1 fa=some (.frz (W9 X params body sc clos c' ctv) Q4) /\
   ∃cr,Z0 τ cs cr/\∀f Φ,D9 X.prog X.w X.K X.mg X.base (kl+1) ps.length f Φ (G6 wb cr)->∃d,sp [nrm r1,.cl f Φ] (.st d)/\∀v H',A4 H H'->E1 X.K H H' (.st d) v->Q v H') I ?_) fun us s1 ⟨vs,H1,I1,r,iU,q⟩=>⟨I1.kIn,?_⟩) he hpl
  ·refine⟨τ,hR,ha.mono τ _ _ (fun r1 wd v1 H1 s1 ir=>?_) h⟩;obtain⟨ok,cr,h1,h2⟩:=wd;refine⟨s1 _ _ (hR.same _ _ hT),fun fa c' oc ctv H' sm eN hf dW ii _=>?_⟩;exact⟨s1.trans sm,v1,fa,c',oc,ctv,r1,rfl,ir.mono sm,ok,eN,dW,ii,cr,h1,h2⟩
  ·obtain⟨v1,fa,c',oc,ctv,r1,rfl,ir,ok,eN,dW,ii,cr,h1,h2⟩:=q;obtain⟨caps,n1,n2,jh⟩:=Q6z I1 (hR.mono iU) jt h1;have fg:∀p∈caps,Q2i X s1 p:=fun p hp=>(jh p hp).1;have jg:(caps.map (·.name)).Nodup:=by rw[n1];exact(ba.mp S.nd).2.1
   have nd:=Q8q I1 jg fg;have hL:J1 caps=clos:=Q6y (cs:=clos) (n1.trans gP) (fun p hp=>(fg p hp).look) gR;have fP:=Q5j I1 fg;subst hL;have LP:U6 X.K caps fa c' (W9 X params body sc (J1 caps) c' ctv) (V7 caps H1):=⟨fP _ _ ii,⟨oc,Pt,fP _ _ dW,eN⟩,fun p hp=>⟨Q4h nd hp,(fg p hp).cell,(jh p hp).2.mono (Kp.of fP)⟩⟩
   have F0:=Q8t (P:=X.prog) (w:=X.w) (K:=X.K) (mg:=X.mg) (base:=X.base) (k:=kl) (f:=fa) (c':=c') (name:="<lambda>") (qual:=X.env.qual++"<lambda>") (params:=params) (body:=body) (sc:=sc) (pm:=(X.mg "__name__").getD .none) (ctv:=ctv) (ps:=ps) (caps:=caps) (sp:=G6 wb cr) (wb:=wb) (by rw[n1];exact S) nd
    (fun A outer s H q hr=>by rw[n1];exact bQ caps fa c' A outer s H q n1 hr) (fun rs r _ hs=>by
     obtain⟨ds,d,e1,e2,e3⟩:=hs;refine⟨ds,d,e1,e2,?_⟩;have:cr.map some=caps.map fun p=>some p.slot:=by rw[<-n2,aM];rfl
     rw[<-this];exact e3)
   obtain⟨d,g1,g2⟩:=h2 fa _ ⟨_,ps,F0,rfl,S3.all (dE _ _ _ _ _),fun hh Hh hok _ hΦ=>⟨_,(hok _ _ hΦ.1).1,rfl⟩⟩;refine Z7g (CX:=G8) (E:=E0) F hr hb I1 nd fg r ⟨[r1,.cl fa _],.st d,rfl,⟨v1,_,rfl,(ir.mono fP).v,_,_,rfl,⟨rfl,LP,U6.mono⟩,rfl⟩,by rw[fA,ok];rfl,g1,fun v H' dG iv=>⟨dG,?_⟩⟩;have hS:T3 (?E) H':=fun c l8=>by
    obtain⟨o,u,e1,e2⟩:=Z0m (H:=H1) nd fg c l8;exact⟨o,u,dG _ _ e1,e2⟩
   have Q1z:∀b u,H1 b=some u->b∉?E:=fun b u e hb=>by
    obtain⟨p,hp,rfl⟩:=au.mp hb;rw[I1.freeC _ _ (fg p hp).look]at e;cases e
   exact g2 v _ (fun b u e=>by rw[Z7 (Q1z b u (iU _ _ e))];exact dG _ _ (fP _ _ (iU _ _ e))) (show A3 X.K _ d v from A3.hid hS d v iv)
@[simp] theorem V4s {Q:R->Prop}:Z9b FC n cs wb sp we τ Q=we τ fun r1=>L3 r1=true/\∃cr,Z0 τ cs cr/\∀f Φ,FC n f Φ (G6 wb cr)->∃d,sp [nrm r1,.cl f Φ] (.st d)/\Q (.st d):=rfl
end
theorem W8l {w:Ak}   {k:Nat}{fa:Af}   {sp:Sp}{s₁:Ae}{vs:M Ad}  
  (KX:K.In s₁.heap) (lO:s₁.heap.Ns mainGlobals mg) (hb:s₁.heap.Ns builtinsNs mb) (xj:∀x:Str,x≠"__name__"->mb x=bootBuiltins x) (rZ:s₁.heap.NoLimit) (xf:Y5 mg s₁.heap) (hg:s₁.gens=#[])
  (lM:∀Pt∈ts,s₁.heap.get? Pt=some (PySem.W.tabObj #[])) (fS:∀Pt∈ts,∃c,PySem.W.codeHdIn K c Pt=true) (xF:∀Pt∈ts,K.lookup Pt=none)
  (ha:s₁.heap.get? a=some {cls:=.type "list",data:=.seq vs.toArray}) (hi:IntsAre vs ns) (hl:ns.length<=sizeLine) (hr:E2 k callerA)
  (F:∀base:Heap,K.In base->base.Ns mainGlobals mg->Y5 mg base->O8 P w K mg base G8 k fa fd [x] sp) (dE:∀(s:Ae) (u:Ad),BindsTo s fd ⟨[u],[]⟩ [(x,u)])
  (io:∀H:Hp,(∀Pt∈ts,H Pt=some .tab)->FzL K H a (ns.map V.int)->sp [.ref a] H (fun v H'=>v=.bl true/\∀Pt∈ts,H' Pt=some .tab) fun _ _ _=>False):
  codeAny (model P w) callerA (.call (.ref fa) ⟨[.ref a],[]⟩) (fun r s'=>r=.ok (.ret (.bool true))/\OldK s₁.heap s'.heap/\s'.os=s₁.os/\AllBare s'.gens) s₁:=by
 have rv:=W0g hi;have qY:=hi.length;have core:∀H:Hp,(∀b u,H b=some u->(b∈ts/\u=.tab)\/(b=a/\K.lookup a=none/\u=.frz {cls:=.type "list",data:=.seq vs.toArray} (.lst (ns.map V.int))))->(∀Pt∈ts,H Pt=some .tab)->FzL K H a (ns.map V.int) ->
   codeAny (model P w) callerA (.call (.ref fa) ⟨[.ref a],[]⟩) (fun r s'=>r=.ok (.ret (.bool true))/\OldK s₁.heap s'.heap/\s'.os=s₁.os/\AllBare s'.gens) s₁:=by
  intro H hO hT hS;have hok:J6 P w H s₁.heap:=fun b u e=>by
   rcases hO b u e with⟨hb,rfl⟩ |⟨rfl,_,rfl⟩
   ·exact⟨#[],lM b hb,trivial,fun pos cv q=>by cases q⟩
   ·exact⟨ha,by rw[ag];exact hl,vs,_,rv,ha⟩
  have gU:∀{b:Af}{o:Obj},s₁.heap.get? b=some o->H b=none->(Q2r s₁.heap H).get? b=some o:=fun e n=>W6m e n;have iX:∀{b:Af}{o:Obj},s₁.heap.get? b=some o->(∀xs,o.data≠.fields xs)->(∀xs n,o.data≠.seq xs n)->H b=none:=fun {b o} e d1 d2=>by
   cases q:H b with
   |none=>rfl
   |some u=>
    rcases hO b u q with⟨hb,rfl⟩ |⟨rfl,_,rfl⟩
    ·rw[lM b hb]at e;cases e;exact absurd rfl (d1 _)
    ·rw[ha]at e;cases e;exact absurd rfl (d2 _ _)
  have pJ:∀{b:Af}{m:Str->Ac Ad},s₁.heap.Ns b m->(Q2r s₁.heap H).Ns b m:=fun {b m} cw=>(by obtain⟨o,es,ep,e,d,r⟩:=cw;exact⟨o,es,ep,gU e (iX e (fun xs z=>by rw[d]at z;cases z) (fun xs n z=>by rw[d]at z;cases z)),d,r⟩)
  have uj:K.In (Q2r s₁.heap H):=fun b o e=>gU (KX b o e) (by
   cases q:H b with
   |none=>rfl
   |some u=>
    rcases hO b u q with⟨hb,rfl⟩ |⟨rfl,hk,rfl⟩
    ·rw[xF b hb]at e;cases e
    ·rw[hk]at e;cases e)
  have hM:Mod K mg (Q2r s₁.heap H):=⟨uj,pJ lO,⟨mb,pJ hb,xj⟩,let ⟨mc,h1,h2⟩:=rZ;⟨mc,pJ h1,h2⟩⟩
  have hBM:Y5 mg (Q2r s₁.heap H):=by
   obtain⟨bm,ob,b1,b2,b3,b4,b5,b6⟩:=xf;exact⟨bm,ob,b1,b2,gU b3 (iX b3 (fun xs z=>by rw[b6]at z;cases z) (fun xs n z=>by rw[b6]at z;cases z)),b4,b5,b6⟩
  have e0:Q5h P w K mg (Q2r s₁.heap H) callerA [] s₁ H:=⟨rfl,hM,fun b o e=>V0p e,dQ (W6n _ _),trivial,fun b hb=>absurd (show b∈([]:M Af)from hb) ?G,hok,.of_eq hg⟩
  refine lv ((F _ uj (pJ lO) hBM).run callerA [] s₁ H ⟨[.ref a],[]⟩ [.ref a] [.ref a] _ _ hr e0 (dE s₁ (.ref a)) (.cons rfl .nil) (io H hT hS)) fun r s' h=>?_;cases r with
  |error e=>exact(show False from h).elim
  |ok fl=>
   cases fl with
   |next=>exact False.elim h
   |brk=>exact False.elim h
   |cont=>exact False.elim h
   |ret u=>
    obtain⟨v,H',os,bare,un,oj,r',q,xx⟩:=h;have q':v=.bl true:=q;subst q';obtain rfl:u=Value.bool true:=r';refine⟨rfl,⟨fun b o e=>?_,fun b o e=>un.there b o e ?G⟩,os,bare⟩;cases q:H b with
    |none=>exact .inl (un.keep b o e q (by intro z;exact absurd (show b∈([]:M Af)from z) ?G) ?G)
    |some u=>
     rcases hO b u q with⟨hb,rfl⟩ |⟨rfl,hk,rfl⟩
     ·obtain⟨ps,g1,_⟩:=(show ObjOk P w H' s'.heap b .tab from oj b _ (xx b hb))
      obtain⟨c,hc⟩:=fS b hb;have e1:=lM b hb;rw[e]at e1;cases e1;refine .inr (.inl ⟨((gH KX hc).tab (lM b hb)).isCodeTable,rfl,#[],ps,rfl,?_⟩);rw[g1];simp
     ·have z2:=un.frzs b _ _ q;obtain⟨e2,_⟩:=oj b _ z2;rw[ha]at e;cases e;exact .inl e2
 have vK:a∉ts:=fun hb=>by
  have:=lM a hb;rw[ha]at this;cases this
 cases hk:K.lookup a with
 |some o=>
  have e:=KX a o hk;rw[ha]at e;cases e;refine core (fun b=>if b∈ts then some .tab else none) (fun b u e=>?_) (fun Pt h=>aQ h) (.inr ⟨_,vs.toArray,_,hk,rfl,rfl,rfl,by rw[aR,qY];exact hl,by simpa using rv⟩)
  by_cases hb:b∈ts
  ·have e:=(aQ hb).symm.trans e;cases e;exact .inl ⟨hb,rfl⟩
  ·have e:=(aI hb).symm.trans e;cases e
 |none=>
  refine core (fun b=>if b∈ts then some .tab else if b=a then some (.frz {cls:=.type "list",data:=.seq vs.toArray} (.lst (ns.map V.int)))else none) (fun b u e=>?_) (fun Pt h=>aQ h) (.inl ⟨_,(aI vK).trans (aQ rfl)⟩)
  by_cases hb:b∈ts
  ·have e:=(aQ hb).symm.trans e;cases e;exact .inl ⟨hb,rfl⟩
  ·have e:=(aI hb).symm.trans e
   by_cases ha:b=a
   ·have e:=(aQ ha).symm.trans e;cases e;exact .inr ⟨ha,hk,rfl⟩
   ·have e:=(aI ha).symm.trans e;cases e
def V8d {l:PySem.W.OpenLaw}{k:Nat}     {d:DefRec}{K:Params->Fg9}{sp:Ak->Sp}  
  (hn:l.most=some n) (wH:n<=sizeLine) (l7:d.params.defaults=[]) (hr:E2 k callerA)
  (hY:∀(w:Ak) (h:Heap),YP w h->(K w.params).In h) (sJ:∀(w:Ak) (h:Heap),YP w h->∀Pt∈ts,h.get? Pt=some (PySem.W.tabObj #[]))
  (F:∀(w:Ak) (mg:Str->Ac Ad) (fa:Af) (h:Heap),(K w.params).In h->h.Ns mainGlobals mg->mg d.name=some (.ref fa) ->
   (∀Pt∈ts,(∃c,PySem.W.codeHdIn (K w.params) c Pt=true)/\(K w.params).lookup Pt=none) /\
   ∃fd:Ai,(∀(s:Ae) (u:Ad),BindsTo s fd ⟨[u],[]⟩ [(x,u)]) /\
    ∀base:Heap,(K w.params).In base->base.Ns mainGlobals mg->Y5 mg base->O8 l.prog w (K w.params) mg base G8 k fa fd [x] (sp w))
  (io:∀(w:Ak) (H:Hp) (a:Af) (ns:M Int),ns.length<=n->(∀Pt∈ts,H Pt=some .tab)->FzL (K w.params) H a (ns.map V.int)->sp w [.ref a] H (fun v H'=>v=.bl true/\∀Pt∈ts,H' Pt=some .tab) fun _ _ _=>False):
  PySem.W.WalkO q iY XP YP l.row.toRowW d [] (fun f vs=>PySem.call f vs):=by
 refine Att.attach_call hn l7 fun w s₀ s₁ mg mb fa o pm cd doc a vs ns G Y ho hd fS oq mK ic ck hg=>?_;have KX:=hY w _ Y;obtain⟨lM,fd,hb,hF⟩:=F w mg fa _ KX G.T.g oq;exact W8l KX G.T.g G.T.b G.T.builtins G.T.nolimit G.T.bmain hg (sJ w _ Y) (fun Pt h=>(lM Pt h).1) (fun Pt h=>(lM Pt h).2) mK ic (aO ck wH) hr hF hb fun H hT hS=>io w H a ns ck hT hS
def Q5i (ts:M Af)(H:Hp):Prop:=∀Pt∈ts,H Pt=some .tab
abbrev D5:=M R->(R->Prop)->Prop
def Q7o (K:Fg9)(ts:M Af)(n:Nat)(sp:D5):Sp:=fun vs H Q _=>∃(rs:M R) (P:R->Prop),rs.length=n/\M9 K (fun _=>none) H rs vs/\rs.all L3=true/\Q5i ts H/\sp (rs.map nrm) P/\∀r v H',P r->A4 H H'->E1 K H H' r v->Q v H'
abbrev FnT (P:Aj)(w:Ak)(K:Fg9)(mg:Str->Ac Ad)(base:Heap)(ts:M Af)(k:Nat)(f:Af)(fd:Ai)(ps:M Str)(sp:D5):Prop:=O8 P w K mg base G8 k f fd ps (Q7o K ts ps.length sp)
structure Y8 (K:Fg9)(x qual:Str)(st:Al)(f:Af)(fd:Ai)(c Pt:Af):Prop where
 ex:∃(oc:Ad) (od:Ac Af) (kV doc pm:Ad) (an:Ac Af) (ct:Ad) (fV:Array (Ac Ad)),
  fd=PySem.W.fnOf x qual (Z1 st) (M4 st) (C0 st) .none kV doc pm an (.ref c) ct/\K.lookup f=some ⟨oc,od,.func fd,fV⟩/\PySem.W.codeIn K (.ref c) qual=true
 hd:PySem.W.codeHdIn K c Pt=true
abbrev N8 (P:R->Prop):J4:={nx:=fun _=>P (.st .non),rt:=P,bk:=fun _=>False,ct:=fun _=>False}
section
variable {w:Ak}{k:Nat}{sp:D5}
def Y6r {cdv:Ad}{A:Ah}{outer:M Env}{s:Ae}  {E:XK}{ws:WS}{rs:M R}  {Q:VK}{Pr:R->Prop}  (hX:X.K=K)(hd:A8 X H (M4 st) ws)(hl:rs.length=ps.length)(al:M9 K (fun _=>none) H rs vs)(ok:rs.all L3=true)
  (h1:sp (rs.map nrm) Pr) (h2:∀r v H',Pr r->A4 H H'->E1 K H H' r v->Q v H') (hw:∀rs Pr,rs.length=ps.length->sp rs Pr->ws (N8 Pr) (D8 N rs)):
  ∃t,U7 X (M4 st) t/\t {nx:=fun _ H'=>Q .non H',rt:=Q} (start N vs) H:=by
 subst hX;refine⟨_,hd.ps,D8 N rs,Z2g al ok,?_⟩;have hw:=hw (rs.map nrm) Pr (by rw[ag];exact hl) h1;rw[Z2s]at hw;refine hd.mono _ _ _ ⟨fun τ h σ H' _ hR=>?_,fun r' h v H' sm ir=>?_,fun _ h=>False.elim h,fun _ h=>False.elim h⟩ hw
 ·exact h2 (.st .non) .non H' h hR.same (Q8i (K:=X.K) (H:=H'))
 ·exact h2 r' v H' h sm ir
def Fun.okP {ws:WS}(F:Fun K x qual st f fd)(S:Z4 N ps (C0 st))
  (bQ:∀(cdv:Ad) (A:Ah) (outer:M Env) (s:Ae) (H:Hp) (E:XK),Q5i ts H->E2 k (A.deeper (envOfC qual (C0 st) s.heap.objs.size f cdv))->A8 (U8 G8 P w K mg base N qual (C0 st) f cdv A outer s H E).nox H (M4 st) ws)
  (hw:∀rs Pr,rs.length=ps.length->sp rs Pr->ws (N8 Pr) (D8 N rs)):FnT P w K mg base ts (k+1) f fd ps sp:=by
 refine F.ok S (fun vs H Q E h=>?_) (fun cdv A outer s H vs Q E hr h=>?_)
 ·obtain⟨rs,r,hl,al,_⟩:=h;rw[<-al.length];exact hl
 obtain⟨rs,Pr,hl,al,ok,hT,h1,h2⟩:=h;exact Y6r (st:=st) (cdv:=cdv) (A:=A) (outer:=outer) (s:=s) (E:=E) rfl (bQ cdv A outer s H E hT hr) hl al ok h1 h2 hw
def Y8.okP {c:Af}{ws:WS}(F:Y8 K x qual st f fd c Pt)(S:Z4 N ps (C0 st))
  (bQ:∀(A:Ah) (outer:M Env) (s:Ae) (H:Hp) (E:XK),Q5i ts H->E2 k (A.deeper (envOfC qual (C0 st) s.heap.objs.size f (.ref c)))->A8 (U8 G8 P w K mg base N qual (C0 st) f (.ref c) A outer s H E).nox H (M4 st) ws)
  (hw:∀rs Pr,rs.length=ps.length->sp rs Pr->ws (N8 Pr) (D8 N rs)):FnT P w K mg base ts (k+1) f fd ps sp:=by
 obtain⟨oc,od,kV,doc,pm,an,ct,fV,rfl,lk,fS⟩:=F.ex;refine Z5c lk fS S (fun vs H Q E h=>?_) fun A outer s H vs Q E hr h=>?_
 ·obtain⟨rs,r,hl,al,_⟩:=h;rw[<-al.length];exact hl
 obtain⟨rs,Pr,hl,al,ok,hT,h1,h2⟩:=h;obtain⟨t,ht,q⟩:=Y6r (st:=st) (cdv:=.ref c) (A:=A) (outer:=outer) (s:=s) (E:=E) rfl (bQ A outer s H E hT hr) hl al ok h1 h2 hw;exact⟨t,ht.nox,q⟩
end
section
variable {es:M Ag}{k:Nat}{sp:D5}
def V5 (sp:D5):Prop:=∀rs P Q,(∀r,P r->Q r)->sp rs P->sp rs Q
def B9 (sp:D5)(wr:WA):WE:=fun τ Q=>wr τ fun rs=>rs.all L3=true/\sp (rs.map nrm) Q
def W1l (rW:V5 sp)(F:O8 X.prog X.w X.K X.mg X.base G8 k f fd ps (Q7o X.K ts (e::es).length sp))(hr:E2 k X.A)(hT:Q5i ts H0)(hg:Gl X x)(hm:X.mg x=some (.ref f))(hk:PySem.W.keepIn X.K (.ref f)=true)(hb:S3 X.K fd ps [])
  (ha:DA X H0 (e::es) wr) (fG:(x==("__debug__":Str))=false:=by decide) (he:?I:=by rfl) (hpl:(backTo pos (starEach es X.env)).any (·.1)=false:=by rfl):
  DE X H0 (.Call (.Name x p) (e::es) [] pos) (B9 sp wr) where
 mono:=fun τ P Q g h=>ha.mono τ _ _ (fun rs⟨ok,h1⟩=>⟨ok,rW _ _ _ g h1⟩) h
 pe:=Q9 (Z6x F hr hg hm hk hb .nil Z2d ha.pa fG he hpl) fun σ H Q ⟨τ,hR,h⟩=>⟨τ,hR,ha.mono τ _ _ (fun rs de vs H1 s1 eD=>by
  obtain⟨mN,ok,h1⟩:=de;refine⟨rs,_,mN,?_,ok,fun Pt hp=>s1 _ _ (hR.same _ _ (hT Pt hp)),h1,fun r v H' q s2 ir=>q v H' (s1.trans s2) (ir.older s1)⟩;rw[b8];exact eD.v) (ha.len τ _ h)⟩
@[simp] theorem R0 {Q:R->Prop}:B9 sp wr τ Q=wr τ fun rs=>rs.all L3=true/\sp (rs.map nrm) Q:=rfl
end
section
variable {w:Ak}{k kl:Nat}{sp:D5}{c:Af}{m9 fm:Al}{body:Ag}{dq mf:Pos}{cs:M (Str×Nat)}{lps:M Str}{w1 w2:WS}
def Q8d (FC:J9)(n:Nat)(cs:M (Str×Nat))(wb:WE)(w1 w2:WS)(Pr:R->Prop)(τ:B5):Prop:=
 w1 {nx:=w2 {nx:=fun τ'=>∃cr,Z0 τ' cs cr/\∀g Φ,FC n g Φ (G6 wb cr)->Pr (.cl g Φ),rt:=fun _=>False,bk:=fun _=>False,ct:=fun _=>False},rt:=fun _=>False,bk:=fun _=>False,ct:=fun _=>False} τ
theorem V4k {σ0:S5}{τ0:B5}{s1:Ae}{m9 fm:Al}  {body:Ag}  {dq mf:Pos}{cs:M (Str×Nat)}{lps:M Str}{w1 w2:WS}  {kl:Nat}{c:Af}  {Pr:R->Prop}{Q:VK}
  (I0:A1 X.nox [] σ0 X.H₀ s1) (xz:B6 X.K X.H₀ τ0 σ0 X.H₀) (hex:X.ex=[]) (d1:DS X.nox X.H₀ m9 w1) (d2:DS X.nox X.H₀ fm w2)
  (hT:X.H₀ Pt=some .tab) (hB:Y5 X.mg X.base) (cU:X.env.code=.ref c) (hC:PySem.W.codeHdIn X.K c Pt=true) (gQ:closureFor sc X.env=pure clos) (gP:cs.map (·.1)=clos.map (·.1)) (gR:∀y∈clos,X.env.cells.lookup y.1=some y.2)
  (jt:∀y∈cs,X.N[y.2]?=some y.1/\X.env.kindOf y.1=some .cell/\X.fn y.1=true) (S:Q4e lps (cs.map (·.1)) sc)
  (dE:∀(qual:Str) (cl:M (Str×Af)) (pm cd ct:Ad) (us:M Ad),us.length=lps.length->bindArgs (PySem.W.kla_fn "<lambda>" qual params body sc cl pm cd ct) ⟨us,[]⟩=pure (lps.zip us))
  (bQ:∀(caps:M S4) (g c':Af) (A:Ah) (outer:M Env) (s:Ae) (H:Hp) (q:Str),caps.map (·.name)=cs.map (·.1)->E2 kl (A.deeper (PySem.W.envX q sc s.heap.objs.size g (.ref c') (J1 caps)))->DE (cxL X.prog X.w X.K X.mg X.base (lps++cs.map (·.1)) q sc g c' caps A outer s H) H body wb)
  (l7:defaultsOf params X.env=([],[])) (hw:Q8d (D9 X.prog X.w X.K X.mg X.base (kl+1)) lps.length cs wb w1 w2 Pr τ0) (hQ:∀r v H',Pr r->A4 X.H₀ H'->E1 X.K X.H₀ H' r v->Q v H'):
  wpAny ?C X.A (execs [m9,fm,.Return (some (.Lambda params body sc dq)) mf] X.env) (fun fl s'=>∃u,fl=.ret u/\CE X.outer X.prog X.w X.H₀ X.s₀ Q u s') (fun _ _=>False) s1:=by
 refine eL (B3 (d1.ps [] s1 σ0 X.H₀ {nx:=fun σ' H'=>∃ τ',B6 X.K X.H₀ τ' σ' H'/\w2 {nx:=fun τ'=>∃cr,Z0 τ' cs cr/\∀g Φ,D9 X.prog X.w X.K X.mg X.base (kl+1) lps.length g Φ (G6 wb cr)->Pr (.cl g Φ),rt:=fun _=>False,bk:=fun _=>False,ct:=fun _=>False} τ',rt:=fun _ _=>False,bk:=fun _ _=>False,ct:=fun _ _=>False} I0
  ⟨τ0,xz,d1.mono _ _ _ (by exact⟨fun τ h σ H' _ hR=>⟨τ,hR,h⟩,fun _ h=>False.elim h,fun _ h=>False.elim h,fun _ h=>False.elim h⟩) hw⟩) fun fl s2 q=>?_)
 cases fl with
 |ret v=>obtain⟨_,_,_,_,_,q⟩:=q;exact False.elim q
 |brk=>obtain⟨_,_,_,q⟩:=q;exact False.elim q
 |cont=>obtain⟨_,_,_,q⟩:=q;exact False.elim q
 |next=>
 obtain⟨σ2,H2,I2,τ2,eK,kM⟩:=q;refine eL (B3 (d2.ps [] s2 σ2 H2 {nx:=fun σ' H'=>∃ τ',B6 X.K X.H₀ τ' σ' H'/\∃cr,Z0 τ' cs cr/\∀g Φ,D9 X.prog X.w X.K X.mg X.base (kl+1) lps.length g Φ (G6 wb cr)->Pr (.cl g Φ),rt:=fun _ _=>False,bk:=fun _ _=>False,ct:=fun _ _=>False} I2
  ⟨τ2,eK,d2.mono _ _ _ (by exact⟨fun τ h σ H' _ hR=>⟨τ,hR,h⟩,fun _ h=>False.elim h,fun _ h=>False.elim h,fun _ h=>False.elim h⟩) kM⟩) fun fl s3 q=>?_)
 cases fl with
 |ret v=>obtain⟨_,_,_,_,_,q⟩:=q;exact False.elim q
 |brk=>obtain⟨_,_,_,q⟩:=q;exact False.elim q
 |cont=>obtain⟨_,_,_,q⟩:=q;exact False.elim q
 |next=>
 obtain⟨σ3,H3,I3,τ3,k7,cr,h1,h2⟩:=q;refine eL (ku (B3 (Q9k (X:=X.nox) (pos:=dq) (P:=Pt) (c:=c) hB cU hC gQ l7 [] s3 σ3 H3 (fun v H4=>A4 H3 H4/\∃g c' oc ctv,v=.ref g/\Q2j oc/\H4 c'=some (.frz oc (.own Pt))/\H4 g=some (.frz (W9 X.nox params body sc clos c' ctv) Q4)) I3 ⟨k7.same _ _ hT,fun g c' oc ctv H' sm eN _ dW ii _=>⟨sm,g,c',oc,ctv,rfl,eN,dW,ii⟩⟩) fun u s4 bG=>?_));obtain⟨v,H4,I4,rv,sm,g,c',oc,ctv,ev,eN,dW,ii⟩:=bG;subst ev;obtain rfl:u=Value.ref g:=rv;have kn:=k7.mono sm;obtain⟨caps,n1,n2,jh⟩:=Q6z (X:=X.nox) I4 kn jt h1;have fg:∀p∈caps,Q2i X.nox s4 p:=fun p hp=>(jh p hp).1;have jg:(caps.map (·.name)).Nodup:=by rw[n1];exact(ba.mp S.nd).2.1
 have nd:=Q8q I4 jg fg;have hL:J1 caps=clos:=Q6y (X:=X) (cs:=clos) (n1.trans gP) (fun p hp=>(fg p hp).look) gR;have fP:=Q5j I4 fg;subst hL;have LP:U6 X.K caps g c' (W9 X.nox params body sc (J1 caps) c' ctv) (V7 caps H4):=⟨fP _ _ ii,⟨oc,Pt,fP _ _ dW,eN⟩,fun p hp=>⟨Q4h nd hp,(fg p hp).cell,(jh p hp).2.mono (Kp.of fP)⟩⟩
 have F0:=Q8t (P:=X.prog) (w:=X.w) (K:=X.K) (mg:=X.mg) (base:=X.base) (k:=kl) (f:=g) (c':=c') (name:="<lambda>") (qual:=X.env.qual++"<lambda>") (params:=params) (body:=body) (sc:=sc) (pm:=(X.mg "__name__").getD .none) (ctv:=ctv) (ps:=lps) (caps:=caps) (sp:=G6 wb cr) (wb:=wb) (by rw[n1];exact S) nd
  (fun A outer s H q hr=>by rw[n1];exact bQ caps g c' A outer s H q n1 hr) (fun rs r _ hs=>by
   obtain⟨ds,d,e1,e2,e3⟩:=hs;refine⟨ds,d,e1,e2,?_⟩;have:cr.map some=caps.map fun p=>some p.slot:=by rw[<-n2,aM];rfl
   rw[<-this];exact e3)
 have xA:=h2 g _ ⟨_,lps,F0,rfl,S3.all (dE _ _ _ _ _),fun hh Hh hok _ hΦ=>⟨_,(hok _ _ hΦ.1).1,rfl⟩⟩;have kb:A4 X.H₀ (V7 caps H4):=(kn.same).trans fP;have ge:∀p∈caps,X.s₀.heap.objs.size<=p.addr:=fun p hp=>I4.ok.cab _ _ (fg p hp).own (fg p hp).look;have pM:∀b:Af,b∉X.nox.ex:=fun b=>by show b∉X.ex;rw[hex];simp
 have B:=I4.base;refine⟨_,rfl,.ref g,V7 caps H4,I4.os,I4.bare,⟨fun b o e n hb _=>B.keep b o e n hb (pM b),fun b o e n hb _=>B.slot b o e n hb (pM b),fun b o e n _=>?_,fun b o e _=>B.there b o e (pM b),fun b xs e=>kb _ _ e,fun b o u e=>kb _ _ e,fun b ps e=>⟨#[],by rw[kb _ _ e];simp⟩⟩,(Y3m I4 nd fg).hok,rfl,hQ _ _ _ xA kb ⟨rfl,LP,U6.mono⟩⟩;rw[Q8l]
 ·exact B.free b o e n (pM b)
 ·intro hb;obtain⟨p,hp,rfl⟩:=au.mp hb;exact absurd (aw e) (fU.mpr (ge p hp))
def Y0t (F:Y8 K x qual st f fd c Pt)(S:Z4 N ps (C0 st))(xi:M4 st=[m9,fm,.Return (some (.Lambda params body sc dq)) mf])(hBM:Y5 mg base)(gx:Pt∈ts)
  (h1:∀(A:Ah) (outer:M Env) (s:Ae) (H:Hp) (E:XK),E2 k (A.deeper (envOfC qual (C0 st) s.heap.objs.size f (.ref c)))->DS (U8 G8 P w K mg base N qual (C0 st) f (.ref c) A outer s H E).nox H m9 w1)
  (h2:∀(A:Ah) (outer:M Env) (s:Ae) (H:Hp) (E:XK),E2 k (A.deeper (envOfC qual (C0 st) s.heap.objs.size f (.ref c)))->DS (U8 G8 P w K mg base N qual (C0 st) f (.ref c) A outer s H E).nox H fm w2)
  (clos:Nat->M (Str×Af)) (gQ:∀n:Nat,closureFor sc (envOfC qual (C0 st) n f (.ref c))=pure (clos n)) (gP:∀n,cs.map (·.1)=(clos n).map (·.1)) (gR:∀n,∀y∈clos n,(envOfC qual (C0 st) n f (.ref c)).cells.lookup y.1=some y.2)
  (jt:∀y∈cs,N[y.2]?=some y.1/\(C0 st).names.lookup y.1=some .cell) (SL:Q4e lps (cs.map (·.1)) sc)
  (dE:∀(qual:Str) (cl:M (Str×Af)) (pm cd ct:Ad) (us:M Ad),us.length=lps.length->bindArgs (PySem.W.kla_fn "<lambda>" qual params body sc cl pm cd ct) ⟨us,[]⟩=pure (lps.zip us))
  (bQ:∀(caps:M S4) (g c':Af) (A:Ah) (outer:M Env) (s:Ae) (H:Hp) (q:Str),caps.map (·.name)=cs.map (·.1)->E2 kl (A.deeper (PySem.W.envX q sc s.heap.objs.size g (.ref c') (J1 caps)))->DE (cxL P w K mg base (lps++cs.map (·.1)) q sc g c' caps A outer s H) H body wb)
  (l7:∀n:Nat,defaultsOf params (envOfC qual (C0 st) n f (.ref c))=([],[]))
  (hw:∀rs Pr,rs.length=ps.length->sp rs Pr->Q8d (D9 P w K mg base (kl+1)) lps.length cs wb w1 w2 Pr (D8 N rs)):FnT P w K mg base ts (k+1) f fd ps sp:=by
 obtain⟨oc,od,kV,doc,pm,an,ct,fV,rfl,lk,fS⟩:=F.ex;refine⟨fun vs H Q E h=>?_,fun A outer s H args us vs Q E hr e0 hb r io=>?_⟩
 ·obtain⟨rs,Pr,hl,al,_⟩:=h;rw[<-al.length];exact hl
 obtain⟨rs,Pr,ub,al,ok,hT,oa,kP⟩:=io;have hl:vs.length=ps.length:=by rw[<-al.length];exact ub
 have KX:K.In s.heap:=e0.mod.kin.keeps fun b o e=>(e0.bs b o e).1;have jL:s.heap.NoLimit:=e0.mod.nolimit.keeps fun b o e=>(e0.bs b o e).1;have fL:∀y∈ps.zip us,(C0 st).names.lookup y.1=some .local\/((C0 st).names.lookup y.1=some .cell/\((cellsFrom (s.heap.objs.size+1) (C0 st).names []).lookup y.1).isSome=true):=fun eI hy=>by
  obtain⟨n,v⟩:=eI;rcases S.par n (cL hy).1 with q |q
  ·exact .inl q
  ·exact .inr ⟨q,dI _ _ _ (.inl q)⟩
 refine codeAny_call_function hr.depth (KX _ _ lk) rfl S.co S.gen rfl (vi KX fS) (hb _ _ _ _ ?_);refine ql S.kind fL fun env he s1 x1=>?_;subst he;refine⟨jL.keeps x1.toInCall.keep,yU ?_⟩;have I0:A1 (U8 G8 P w K mg base N qual (C0 st) f (.ref c) A outer s H E) [] (start N vs) H s1:=Y4k S hr.hd e0 hl r x1;have u9:=hw (rs.map nrm) Pr (by rw[ag];exact ub) oa;rw[Z2s]at u9;rw[xi];refine aE (V4k (X:=U8 G8 P w K mg base N qual (C0 st) f (.ref c) A outer s H E) (kl:=kl) (c:=c) (Pt:=Pt) (clos:=clos s.heap.objs.size) (I0.wish _) (Z2g al ok) rfl (h1 A outer s H E (hr.deeper _)) (h2 A outer s H E (hr.deeper _)) (hT Pt gx) hBM rfl F.hd (gQ _) (gP _) (gR _)
  (fun y hy=>⟨(jt y hy).1,(jt y hy).2,rfl⟩) SL dE bQ (l7 _) u9 kP) (fun fl s' fR=>(by obtain⟨u,e,q⟩:=fR;subst e;exact q)) fun _ _ h=>False.elim h
end
def W0h (FC:J9)(n m:Nat)(cs es:M (Str×Nat))(wb wc:WE)(sp:F5)(we:WE):WE:=fun τ Q=>we τ fun r1=>L3 r1=true/\∃cr jq,Z0 τ cs cr/\Z0 τ es jq/\∀f Φ h Ψ,FC n f Φ (G6 wb cr)->FC m h Ψ (G6 wc jq)->∃d,sp [nrm r1,.cl f Φ,.cl h Ψ] (.st d)/\Q (.st d)
section
variable {wc:WE}{k kl:Nat}{jI qs:M Str}{dq fQ:Pos}{dj:Arguments}{body eQ:Ag}{gL:Scope}{c:Af}{cs es:M (Str×Nat)}{clo2:M (Str×Af)}
def W1n (F:O8 X.prog X.w X.K X.mg X.base G8 k f fd jI (Q2u X.K 3 sp))(hr:E2 k X.A)(hg:Gl X x)(hm:X.mg x=some (.ref f))(hk:PySem.W.keepIn X.K (.ref f)=true)(hb:S3 X.K fd jI [])(ha:DE X H0 e we)
  (hT:H0 Pt=some .tab) (hB:Y5 X.mg X.base) (cU:X.env.code=.ref c) (hC:PySem.W.codeHdIn X.K c Pt=true)
  (gQ:closureFor sc X.env=pure clos) (gP:cs.map (·.1)=clos.map (·.1)) (gR:∀y∈clos,X.env.cells.lookup y.1=some y.2) (jt:∀c∈cs,X.N[c.2]?=some c.1/\X.env.kindOf c.1=some .cell/\X.fn c.1=true) (S:Q4e ps (cs.map (·.1)) sc)
  (sE:closureFor gL X.env=pure clo2) (sB:es.map (·.1)=clo2.map (·.1)) (sG:∀y∈clo2,X.env.cells.lookup y.1=some y.2) (sA:∀c∈es,X.N[c.2]?=some c.1/\X.env.kindOf c.1=some .cell/\X.fn c.1=true) (S2:Q4e qs (es.map (·.1)) gL)
  (i8:(cs.map (·.1)++es.map (·.1)).Nodup)
  (dE:∀(qual:Str) (cl:M (Str×Af)) (pm cd ct:Ad) (us:M Ad),us.length=ps.length->bindArgs (PySem.W.kla_fn "<lambda>" qual params body sc cl pm cd ct) ⟨us,[]⟩=pure (ps.zip us))
  (mU:∀(qual:Str) (cl:M (Str×Af)) (pm cd ct:Ad) (us:M Ad),us.length=qs.length->bindArgs (PySem.W.kla_fn "<lambda>" qual dj eQ gL cl pm cd ct) ⟨us,[]⟩=pure (qs.zip us))
  (bQ:∀(caps:M S4) (f c':Af) (A:Ah) (outer:M Env) (s:Ae) (H:Hp) (q:Str),caps.map (·.name)=cs.map (·.1)->E2 kl (A.deeper (PySem.W.envX q sc s.heap.objs.size f (.ref c') (J1 caps)))->DE (cxL X.prog X.w X.K X.mg X.base (ps++cs.map (·.1)) q sc f c' caps A outer s H) H body wb)
  (mT:∀(caps:M S4) (f c':Af) (A:Ah) (outer:M Env) (s:Ae) (H:Hp) (q:Str),caps.map (·.name)=es.map (·.1)->E2 kl (A.deeper (PySem.W.envX q gL s.heap.objs.size f (.ref c') (J1 caps)))->DE (cxL X.prog X.w X.K X.mg X.base (qs++es.map (·.1)) q gL f c' caps A outer s H) H eQ wc)
  (fG:(x==("__debug__":Str))=false:=by decide) (he:starEach [e,.Lambda params body sc dq,.Lambda dj eQ gL fQ] X.env=(false,eval e X.env)::starEach [.Lambda params body sc dq,.Lambda dj eQ gL fQ] X.env:=by rfl)
  (mR:starEach [.Lambda params body sc dq,.Lambda dj eQ gL fQ] X.env=(false,eval (.Lambda params body sc dq) X.env)::starEach [.Lambda dj eQ gL fQ] X.env:=by rfl) (x6:starEach [.Lambda dj eQ gL fQ] X.env=(false,eval (.Lambda dj eQ gL fQ) X.env)::starEach [] X.env:=by rfl)
  (hpl:(backTo pos (starEach [.Lambda params body sc dq,.Lambda dj eQ gL fQ] X.env)).any (·.1)=false:=by rfl) (hd:defaultsOf params X.env=([],[]):=by rfl) (mS:defaultsOf dj X.env=([],[]):=by rfl):
  DE X H0 (.Call (.Name x p) [e,.Lambda params body sc dq,.Lambda dj eQ gL fQ] [] pos) (W0h (D9 X.prog X.w X.K X.mg X.base (kl+1)) ps.length qs.length cs es wb wc sp we) where
 mono:=fun τ P Q g h=>ha.mono τ _ _ (fun r1⟨ok,cr,jq,h1,p6,h2⟩=>⟨ok,cr,jq,h1,p6,fun f Φ h Ψ F G=>let ⟨d,a,b⟩:=h2 f Φ h Ψ F G;⟨d,a,g _ b⟩⟩) h
 pe:=by
  intro af s σ H Q I ⟨τ,hR,h⟩;refine bn (Q8y I hg hm ?_ fG);have oT:PA X [e,.Lambda params body sc dq,.Lambda dj eQ gL fQ] (Q4v _ (Q4v _ (Q4v _ Z2u))):=Q2a (es:=[.Lambda params body sc dq,.Lambda dj eQ gL fQ]) ha.pe (Q2a (es:=[.Lambda dj eQ gL fQ]) (Q9k (pos:=dq) hB cU hC gQ hd) (Q2a (es:=[]) (Q9k (pos:=fQ) hB cU hC sE mS) Q6c x6) mR) he;refine eR (h₀:=X.base) I.ok.mod.kin hk (B3 (oT pos af s σ H (fun vs H1=>A4 H H1/\∃v1 fa c' oc ctv fb c2 nh nA r1,vs=[v1,.ref fa,.ref fb]/\E1 X.K H H1 r1 v1/\L3 r1=true/\(Q2j oc/\H1 c'=some (.frz oc (.own Pt))/\H1 fa=some (.frz (W9 X params body sc clos c' ctv) Q4)) /\
   (Q2j nh/\H1 c2=some (.frz nh (.own Pt))/\H1 fb=some (.frz (W9 X dj eQ gL clo2 c2 nA) Q4)) /\
   ∃cr jq,Z0 τ cs cr/\Z0 τ es jq/\∀f Φ h Ψ,D9 X.prog X.w X.K X.mg X.base (kl+1) ps.length f Φ (G6 wb cr)->D9 X.prog X.w X.K X.mg X.base (kl+1) qs.length h Ψ (G6 wc jq)->∃d,sp [nrm r1,.cl f Φ,.cl h Ψ] (.st d)/\∀v H',A4 H H'->E1 X.K H H' (.st d) v->Q v H') I ?_) fun us s1 ⟨vs,H1,I1,r,iU,q⟩=>⟨I1.kIn,?_⟩) he hpl
  ·refine⟨τ,hR,ha.mono τ _ _ (fun r1 wg v1 H1 s1 ir=>?_) h⟩;obtain⟨ok,cr,jq,h1,p6,h2⟩:=wg;refine⟨s1 _ _ (hR.same _ _ hT),fun fa c' oc ctv H' sm eN hf dW ii _=>?_⟩;refine⟨sm _ _ (s1 _ _ (hR.same _ _ hT)),fun fb c2 nh nA H2 pE mJ ud l9 mQ _=>?_⟩;exact⟨s1.trans (sm.trans pE),v1,fa,c',oc,ctv,fb,c2,nh,nA,r1,rfl,ir.mono (sm.trans pE),ok,⟨eN,pE _ _ dW,pE _ _ ii⟩,⟨mJ,l9,mQ⟩,cr,jq,h1,p6,h2⟩
  ·obtain⟨v1,fa,c',oc,ctv,fb,c2,nh,nA,r1,rfl,ir,ok,⟨eN,dW,ii⟩,⟨mJ,l9,mQ⟩,cr,jq,h1,p6,h2⟩:=q;obtain⟨caps,n1,n2,jh⟩:=Q6z I1 (hR.mono iU) jt h1;obtain⟨jw,m1,m2,pU⟩:=Q6z I1 (hR.mono iU) sA p6;have fg:∀p∈caps++jw,Q2i X s1 p:=fun p hp=>(aH.mp hp).elim (fun h=>(jh p h).1) fun h=>(pU p h).1;have jg:((caps++jw).map (·.name)).Nodup:=by rw[bA,n1,m1];exact i8
   have nd:=Q8q I1 jg fg;have qR:=nd;rw[bA]at qR;have vO:=(ba.mp qR).1;have vN:=(ba.mp qR).2.1;have hL:J1 caps=clos:=Q6y (cs:=clos) (n1.trans gP) (fun p hp=>(jh p hp).1.look) gR;have sN:J1 jw=clo2:=Q6y (cs:=clo2) (m1.trans sB) (fun p hp=>(pU p hp).1.look) sG;have fP:=Q5j I1 fg;subst hL sN;have LP:U6 X.K caps fa c' (W9 X params body sc (J1 caps) c' ctv) (V7 (caps++jw) H1):=⟨fP _ _ ii,⟨oc,Pt,fP _ _ dW,eN⟩,fun p hp=>⟨Q4h nd (aV _ hp),(jh p hp).1.cell,(jh p hp).2.mono (Kp.of fP)⟩⟩
   have yd:U6 X.K jw fb c2 (W9 X dj eQ gL (J1 jw) c2 nA) (V7 (caps++jw) H1):=⟨fP _ _ mQ,⟨nh,Pt,fP _ _ l9,mJ⟩,fun p hp=>⟨Q4h nd (ai _ hp),(pU p hp).1.cell,(pU p hp).2.mono (Kp.of fP)⟩⟩
   have F0:=Q8t (P:=X.prog) (w:=X.w) (K:=X.K) (mg:=X.mg) (base:=X.base) (k:=kl) (f:=fa) (c':=c') (name:="<lambda>") (qual:=X.env.qual++"<lambda>") (params:=params) (body:=body) (sc:=sc) (pm:=(X.mg "__name__").getD .none) (ctv:=ctv) (ps:=ps) (caps:=caps) (sp:=G6 wb cr) (wb:=wb) (by rw[n1];exact S) vO
    (fun A outer s H q hr=>by rw[n1];exact bQ caps fa c' A outer s H q n1 hr) (fun rs r _ hs=>by
     obtain⟨ds,d,e1,e2,e3⟩:=hs;refine⟨ds,d,e1,e2,?_⟩;have:cr.map some=caps.map fun p=>some p.slot:=by rw[<-n2,aM];rfl
     rw[<-this];exact e3)
   have F1:=Q8t (P:=X.prog) (w:=X.w) (K:=X.K) (mg:=X.mg) (base:=X.base) (k:=kl) (f:=fb) (c':=c2) (name:="<lambda>") (qual:=X.env.qual++"<lambda>") (params:=dj) (body:=eQ) (sc:=gL) (pm:=(X.mg "__name__").getD .none) (ctv:=nA) (ps:=qs) (caps:=jw) (sp:=G6 wc jq) (wb:=wc) (by rw[m1];exact S2) vN
    (fun A outer s H q hr=>by rw[m1];exact mT jw fb c2 A outer s H q m1 hr) (fun rs r _ hs=>by
     obtain⟨ds,d,e1,e2,e3⟩:=hs;refine⟨ds,d,e1,e2,?_⟩;have:jq.map some=jw.map fun p=>some p.slot:=by rw[<-m2,aM];rfl
     rw[<-this];exact e3)
   obtain⟨d,g1,g2⟩:=h2 fa _ fb _ ⟨_,ps,F0,rfl,S3.all (dE _ _ _ _ _),fun hh Hh hok _ hΦ=>⟨_,(hok _ _ hΦ.1).1,rfl⟩⟩ ⟨_,qs,F1,rfl,S3.all (mU _ _ _ _ _),fun hh Hh hok _ hΦ=>⟨_,(hok _ _ hΦ.1).1,rfl⟩⟩;refine Z7g (CX:=G8) (E:=E0) F hr hb I1 nd fg r ⟨[r1,.cl fa _,.cl fb _],.st d,rfl,⟨v1,_,rfl,(ir.mono fP).v,_,_,rfl,⟨rfl,LP,U6.mono⟩,_,_,rfl,⟨rfl,yd,U6.mono⟩,rfl⟩,by rw[fA,ok];rfl,g1,fun v H' dG iv=>⟨dG,?_⟩⟩;have hS:T3 ((caps++jw).map (·.addr)) H':=fun c l8=>by
    obtain⟨o,u,e1,e2⟩:=Z0m (H:=H1) nd fg c l8;exact⟨o,u,dG _ _ e1,e2⟩
   have Q1z:∀b u,H1 b=some u->b∉(caps++jw).map (·.addr):=fun b u e hb=>by
    obtain⟨p,hp,rfl⟩:=au.mp hb;rw[I1.freeC _ _ (fg p hp).look]at e;cases e
   exact g2 v _ (fun b u e=>by rw[Z7 (Q1z b u (iU _ _ e))];exact dG _ _ (fP _ _ (iU _ _ e))) (show A3 X.K _ d v from A3.hid hS d v iv)
end
section
variable {k v:Ag}{tk tv:TE}
def V1p (hu:X.A.units<cLine)(hk:PE X k tk)(hv:PE X v tv):PE X (.Dict [some k] [v] pos) (fun σ H Q=>∀p,H p=none->tk σ (A6 H p (.dT [])) fun x H1=>tv σ H1 fun y H2=>
  H2 p=some (.dT [])/\∃b ks,x=.ref b/\H2 b=some (.tup (ks.map kV))/\Q (.ref p) (A6 H2 p (.dT [(ks,y)]))):=by
 intro af s σ H Q I q;have hn:=I.hok.fresh (ao s.heap.objs.size);have I1:=I.laid (a:=s.heap.objs.size) (o:=.dT []) (h':=s.heap.push {cls:=.type "dict",data:=.dict #[]}) (t':=s.toks) (fun _ _ q=>ae _ q) (ao _) (W5v s.heap I.big);refine wpAny_Dict_any rfl rfl ?G ?G (pairTrees_cons_walk (B3 (hk af _ σ _ _ I1 (q _ hn)) fun u s1 ⟨x,H1,I2,rx,q1⟩=>B3 (hv af s1 σ H1 _ I2 q1) fun w2 s2 rA=>?_));obtain⟨y,H2,I3,ry,e,b,ks,ex,eb,q2⟩:=rA;refine pairTrees_nil_walk ?_;subst ex;obtain rfl:u=Value.ref b:=rx;obtain⟨z,hd,xs,rel,dd⟩:=Y3i I3.hok e;cases rel;unfold storeAll;rw[bF];refine aa (aa (wpAny_dictSet_heap (hsz:=by simp) (knd:=tupleKind (M8 X.prog X.w)) hu (Q7i I3.hok eb) dd fun h' jv hs=>?_));refine aj ?_;show wpAny _ _ (forIn [] PUnit.unit _) _ _ _;rw[gA];refine aj ⟨.ref s.heap.objs.size,_,?_,rfl,q2⟩;obtain⟨q,es,ep,hq,h2,h3,h4,_,h5⟩:=jv;refine Q5p I3 (by rw[e];exact True.intro) hs ⟨q,hq⟩ ⟨by simp[cT],hd,[(ks,b,w2)],.cons ⟨rfl,?_,ry⟩ .nil,q,es,ep,hq,h2,h3,h4,h5⟩;rw[A7 (Q0z eb e (fun z=>nomatch z))];exact eb
end
theorem Q4p:∀{d:D}{k:B0}{v:V},N9 d=some k->A3 K H d v->v=kV k
 |.int i,k,v,h,q=>by cases h;unfold A3 at q;rw[q];rfl
 |.str x,k,v,h,q=>by cases h;unfold A3 at q;rw[q];rfl
 |.non,_,_,h,_=>by cases h
 |.bl _,_,_,h,_=>by cases h
 |.tup _,_,_,h,_=>by cases h
 |.lst _,_,_,h,_=>by cases h
section
variable {a b o:Ag}{p2:Pos}
def Z3d (i:Nat)(we wv:WE):WS:=fun E τ=>we τ fun rk=>∃ds ks,rk=.st (.tup ds)/\T6 ds=some ks/\wv τ fun r=>∃d,r=.st d/\E.nx (τ.set i (some (.dt [(ks,d)])))
def Y0m {i:Nat}{v:Ag}  (hu:X.A.units<cLine)(he:DE X H0 e we)(hv:DE X H0 v wv)(hN:X.N.Nodup)(hi:X.N[i]?=some x)(hx:Loc X.env.scope x)(hs:swapsWith (.Dict [some e] [v] p2) (some (.Name x cn)) pos.line X.env=pure false:=by rfl)
  (hf:?J:=by first |exact .inl rfl |exact .inr rfl |assumption):DS X H0 (.Assign [.Name x cn] (.Dict [some e] [v] p2) pos) (Z3d i we wv) where
 mono:=fun τ E F le h=>he.mono τ _ _ (fun r cw=>(by obtain⟨ds,ks,a1,a2,h⟩:=cw;exact⟨ds,ks,a1,a2,hv.mono τ _ _ (fun r⟨d,b1,b2⟩=>⟨d,b1,le.nx _ b2⟩) h⟩)) h
 ps:=U2 (Q6d hN hi hx (V1p hu he.pe hv.pe) hs hf) fun D σ H eI p hp=>by
  obtain⟨τ,hR,h⟩:=eI;have sm:A4 H (A6 H p (.dT [])):=K2 hp _;have fY:=hR.mono sm;refine⟨τ,fY,he.mono τ _ _ (fun rk rq y H1 s1 ik=>?_) h⟩;obtain⟨ds,ks,a1,a2,h⟩:=rq;subst a1;have eK:=fY.mono s1;refine⟨τ,eK,hv.mono τ _ _ (fun r ro u H2 s2 iv=>?_) h⟩;obtain⟨d,b1,b2⟩:=ro;subst b1;have ik:A3 X.K H1 (.tup ds) y:=ik;unfold A3 at ik;obtain⟨b,xs,rfl,sb,al⟩:=ik;rw[Q7j a2 al]at sb;have ep:=s2 _ _ (s1 _ _ (upd_same (H:=H) (a:=p) (o:=.dT [])));refine⟨ep,b,ks,rfl,s2 _ _ sb,?_⟩;have kp:Kp H2 (A6 H2 p (.dT [(ks,u)])):=Q0r ep (by intro xs z;cases z) (by intro o u z;cases z) _;have k7:=eK.mono s2;have h0:H0 p=none:=hR.same.free hp;have kh:∀(j:Nat) (t:Sl),τ[j]?=some (some t)->t.mut=true->σ[j]?≠some (some (.ref p)):=fun j t e m q=>by
   obtain⟨o,ho⟩:=hR.tracked e m q;rw[hp]at ho;cases ho
  have kn:B6 X.K H0 τ σ (A6 H2 p (.dT [(ks,u)])):=by
   refine⟨k7.len,fun b o q=>?_,fun j t e=>?_,k7.apart⟩
   ·rw[A7 (fun z=>by rw[z,h0]at q;cases q)];exact k7.same _ _ q
   ·obtain⟨v,q,r⟩:=k7.here j t e;refine⟨v,q,?_⟩;have ap:t.mut=true->v≠.ref p:=fun mm z=>kh j t e mm (by rw[q,z]);cases t with
    |dat d=>exact A3.mono kp _ _ r
    |own es=>accm_mu
    |bor es=>obtain⟨b,ys,e,q,t⟩:=r;exact⟨b,ys,e,q,t.mono kp _ _⟩
    |bd es=>obtain⟨b,ys,e,q,t⟩:=r;exact⟨b,ys,e,q,t.mono kp _ _⟩
    |dk es=>accm_mu
    |dt es=>accm_mu
    |ob _=>exact r
    |cl _ _=>exact⟨r.1,r.2.2 _ _ kp r.2.1,r.2.2⟩
    |ll _ _=>exact⟨r.1,r.2.keep kp fun b φ q=>by rw[A7 (Q0z q ep (by intro z;cases z))];exact q⟩
    |ins _ _ _=>obtain⟨e,n,dx,ys,q,t⟩:=r;exact⟨e,n,dx,ys,by rw[A7 (fun z=>ap rfl (by rw[e,z]))];exact q,t.mono kp _ _⟩
  have r6:Kp H (A6 H2 p (.dT [(ks,u)])):=(Kp.of ((sm.trans s1).trans s2)).trans kp;refine b2 _ _ r6 (kn.set (s:=.dt [(ks,d)]) ⟨p,[(ks,u)],rfl,h0,upd_same,⟨u,[],rfl,A3.mono kp _ _ iv,rfl⟩⟩ fun _ j t hj e m q=>kh j t e m q)
@[simp] theorem Y8a {i:Nat}  {E:J4}:Z3d i we wv E τ=we τ fun rk=>∃ds ks,rk=.st (.tup ds)/\T6 ds=some ks/\wv τ fun r=>∃d,r=.st d/\E.nx (τ.set i (some (.dt [(ks,d)]))):=rfl
def B6.dkAt {i:Nat}{kvs:M (B0×D)}(hR:B6 K H0 τ σ H)(e1:τ[i]?=some (some (.dk kvs))):∃a ps,σ[i]?=some (some (.ref a))/\H0 a=none/\H a=some (.dK ps)/\C9 K H kvs ps:=by
 obtain⟨v,hv,a,xs,rfl,h0,sq,al⟩:=hR.here i _ e1;exact⟨a,xs,hv,h0,sq,al⟩
def Q1n (i:Nat)(we:WE):WE:=fun τ Q=>∃kvs,τ[i]?=some (some (.dk kvs))/\we τ fun r=>∃kd k d,r=.st kd/\N9 kd=some k/\F4 kvs k=some d/\Q (.st d)
def Y0j {i:Nat}(hu:X.A.units+1<cLine)(ho:PE X o (S9 i))(he:DE X H0 e we)(hs:Q8k e):DE X H0 (.Subscript o e pos) (Q1n i we) where
 mono:=fun τ P Q f fR=>(by obtain⟨kvs,e1,h⟩:=fR;exact⟨kvs,e1,he.mono τ _ _ (fun r gv=>(by obtain⟨ds,ks,d,a1,a2,a3,a4⟩:=gv;exact⟨ds,ks,d,a1,a2,a3,f _ a4⟩)) h⟩)
 pe:=Q9 (Z6y hu ho he.pe hs) fun σ H Q gu=>by
  obtain⟨τ,hR,kvs,e1,h⟩:=gu;obtain⟨a,ps,hv,h0,sq,kv⟩:=hR.dkAt e1;refine⟨_,hv,τ,hR,he.mono τ _ _ (fun r rn v H1 s1 ir=>?_) h⟩;obtain⟨kd,k,d,a1,a2,a3,a4⟩:=rn;subst a1;cases Q4p a2 (show A3 X.K H1 kd v from ir);rcases C9.val (k:=k) (kv.mono (Kp.of s1) _ _)with⟨n1,_⟩ |⟨d',v',n1,n2,n3⟩
  ·rw[a3]at n1;cases n1
  ·rw[a3]at n1;cases n1;refine⟨a,v',rfl,?_,a4 _ _ s1 n3⟩;have g:=Z3.k (k:=k) (s1 _ _ sq);rw[n2]at g;exact g
def Q5a (i:Nat)(we:WE):WT:=fun τ Q=>∃kvs,τ[i]?=some (some (.dk kvs))/\we τ fun r=>∃kd k,r=.st kd/\N9 kd=some k/\Q (!(F4 kvs k).isSome)
def W2k {i:Nat}(hu:X.A.units+1<cLine)(he:DE X H0 e we)(ho:PE X o (S9 i))(h1:behindInMarks .NotIn o=false:=by rfl):DT X H0 (.Compare e [.NotIn] [o] pos) (Q5a i we) where
 mono:=fun τ P Q f kT=>(by obtain⟨kvs,e1,h⟩:=kT;exact⟨kvs,e1,he.mono τ _ _ (fun r⟨ds,ks,a1,a2,a4⟩=>⟨ds,ks,a1,a2,f _ a4⟩) h⟩)
 pt:=ptW (Y7p (Y6w hu he.pe ho) h1) fun σ H Q jT=>by
  obtain⟨τ,hR,kvs,e1,h⟩:=jT;refine⟨τ,hR,he.mono τ _ _ (fun r rm v H1 s1 ir=>?_) h⟩;obtain⟨kd,k,a1,a2,a4⟩:=rm;obtain⟨a,ps,hv,h0,sq,kv⟩:=(hR.mono s1).dkAt e1;subst a1;cases Q4p a2 (show A3 X.K H1 kd v from ir);refine⟨_,hv,a,_,rfl,Z3.k (k:=k) sq,?_⟩;have e:(T1 ps k).isSome=(F4 kvs k).isSome:=by
   rcases C9.val (k:=k) kv with⟨n1,n2⟩ |⟨d',v',n1,n2,n3⟩<;>rw[n1,n2]<;>rfl
  rw[e];exact⟨_,rfl,a4 _ s1⟩
def Q5b (i:Nat)(we wv:WE):WS:=fun E τ=>wv τ fun r=>∃d,r=.st d/\∃kvs,τ[i]?=some (some (.dk kvs))/\we τ fun rk=>∃kd k,rk=.st kd/\N9 kd=some k/\kvs.length<sizeLine/\E.nx (τ.set i (some (.dk (O5 kvs k d))))
def W2b {i:Nat}{v:Ag}  (hu:X.A.units+1<cLine)(ho:PE X o (S9 i))(he:DE X H0 e we)(hv:DE X H0 v wv)(hs:swapsWith v (some (.Subscript o e cn)) pos.line X.env=pure false:=by rfl):
  DS X H0 (.Assign [.Subscript o e cn] v pos) (Q5b i we wv) where
 mono:=fun τ E F le h=>hv.mono τ _ _ (fun r gO=>(by obtain⟨d,e1,kvs,e2,h⟩:=gO;exact⟨d,e1,kvs,e2,he.mono τ _ _ (fun r⟨ds,ks,a1,a2,a3,a4⟩=>⟨ds,ks,a1,a2,a3,le.nx _ a4⟩) h⟩)) h
 ps:=U2 (Y7n hu ho he.pe hv.pe hs) fun D σ H jS=>by
  obtain⟨τ,hR,h⟩:=jS;refine⟨τ,hR,hv.mono τ _ _ (fun r rh u H1 s1 ir=>?_) h⟩;obtain⟨d,e1,kvs,e2,h⟩:=rh;subst e1;have fY:=hR.mono s1;obtain⟨a,ps,jO,h0,sq,kv⟩:=fY.dkAt e2;refine⟨_,jO,τ,fY,he.mono τ _ _ (fun rk rg y H2 s2 ik=>?_) h⟩;obtain⟨kd,k,a1,a2,a3,a4⟩:=rg;subst a1;cases Q4p a2 (show A3 X.K H2 kd y from ik);have gh:=s2 _ _ sq;have ke:=kv.mono (Kp.of s2) _ _;refine⟨a,_,rfl,Q4d.k gh (by rw[<-C9.length ke];exact a3),?_⟩;have kp:Kp H2 (A6 H2 a (.dK (P8 ps k u))):=Q0r gh (by intro xs z;cases z) (by intro o u z;cases z) _;have iv:A3 X.K H2 d u:=A3.mono (Kp.of s2) _ _ ir;refine a4 σ _ ((Kp.of (s1.trans s2)).trans kp) ((fY.mono s2).mutG e2 rfl jO h0 gh (by intro xs z;cases z) (by intro o u z;cases z) ⟨a,_,rfl,h0,upd_same,?_⟩);exact C9.mono kp _ _ (C9.put iv ke)
@[simp] theorem Q9q {i:Nat}  {Q:R->Prop}:Q1n i we τ Q=∃kvs,τ[i]?=some (some (.dk kvs))/\we τ fun r=>∃kd k d,r=.st kd/\N9 kd=some k/\F4 kvs k=some d/\Q (.st d):=rfl
@[simp] theorem Z7m {i:Nat}  {Q:Bool->Prop}:Q5a i we τ Q=∃kvs,τ[i]?=some (some (.dk kvs))/\we τ fun r=>∃kd k,r=.st kd/\N9 kd=some k/\Q (!(F4 kvs k).isSome):=rfl
@[simp] theorem Z7n {i:Nat}  {E:J4}:Q5b i we wv E τ=wv τ fun r=>∃d,r=.st d/\∃kvs,τ[i]?=some (some (.dk kvs))/\we τ fun rk=>∃kd k,rk=.st kd/\N9 kd=some k/\kvs.length<sizeLine/\E.nx (τ.set i (some (.dk (O5 kvs k d)))):=rfl
end
noncomputable instance decD:DecidableEq D:=fun a b=>Classical.propDecidable (a=b)
def V6 (p:α->β->Prop):M α->M β->Prop
 |[],vs=>vs=[]
 |k::ks,vs=>∃v r,vs=v::r/\p k v/\V6 p ks r
theorem V6.len {p:α->β->Prop}:∀{ks:M α}{vs:M β},V6 p ks vs->ks.length=vs.length
 |[],vs,h=>by rw[show vs=[]from h];rfl
 |k::ks,vs,h=>by obtain⟨v,r,rfl,_,t⟩:=h;rw[aN,aN,t.len]
theorem V6.imp {p q:α->β->Prop}(f:∀a b,p a b->q a b):∀{ks:M α}{vs:M β},V6 p ks vs->V6 q ks vs
 |[],vs,h=>h
 |k::ks,vs,h=>by obtain⟨v,r,rfl,i,t⟩:=h;exact⟨v,r,rfl,f _ _ i,t.imp f⟩
theorem V6.at {p:α->β->Prop}:∀{ks:M α}{vs:M β}{j:Nat}{k:α}{v:β},V6 p ks vs->ks[j]?=some k->vs[j]?=some v->p k v
 |[],vs,j,k,v,h,e,_=>by simp at e
 |k::ks,vs,0,k',v',h,e,e'=>by
  obtain⟨v,r,rfl,i,t⟩:=h;simp at e e';subst e e';exact i
 |k::ks,vs,j+1,k',v',h,e,e'=>by
  obtain⟨v,r,rfl,i,t⟩:=h;exact t.at (by simpa using e) (by simpa using e')
def K7 (h:Heap):Nat->D->Ad->Prop
 |_,.non,v=>v=.none
 |_,.int i,v=>∃t,v=.int i t
 |_,.str x,v=>∃t,v=.str x t
 |n+1,.tup ks,v=>∃a items,v=.ref a/\h.IsTuple a items/\V6 (K7 h n) ks items.toList
 |_,_,_=>False
def Q0y (w:Ak):Nat->D->Int
 |_,.non=>reduceHash 0xFCA86420
 |_,.int i=>hashInt i
 |_,.str x=>hashStr w x
 |n+1,.tup ks=>reduceHash (Builtin.Tuple.tupleHashOf (ks.map (Q0y w n)))
 |_,_=>0
def Z2:Nat->D->Nat
 |n+1,.tup ks=>(ks.map (Z2 n)).sum+1
 |_,_=>1
def W7n {i j:Array Ad}(x:h.IsTuple a i)(y:h.IsTuple a j):i=j:=by
 obtain⟨o,e,_,n,d⟩:=x;obtain⟨o',e',_,n',d'⟩:=y;rw[e]at e';cases e';rw[d]at d';cases d';rfl
theorem W1e {p q:α->β->Prop}(f:∀x y v,p x v->q y v->x=y):∀{xs ys:M α}{vs:M β},V6 p xs vs->V6 q ys vs->xs=ys
 |[],[],_,_,_=>rfl
 |[],y::ys,vs,h1,h2=>by obtain⟨_,_,e,_⟩:=h2;rw[show vs=[]from h1]at e;cases e
 |x::xs,[],vs,h1,h2=>by obtain⟨_,_,e,_⟩:=h1;rw[show vs=[]from h2]at e;cases e
 |x::xs,y::ys,vs,h1,h2=>by
  obtain⟨v,r,rfl,i1,t1⟩:=h1;obtain⟨v',r',e,i2,t2⟩:=h2;cases e;rw[f _ _ _ i1 i2,W1e f t1 t2]
theorem K7.shape:∀{n:Nat}{x:D}{v:Ad},K7 h n x v->(x=.non/\v=.none)\/(∃i t,x=.int i/\v=.int i t)\/(∃i t,x=.str i/\v=.str i t)\/∃m ks a items,n=m+1/\x=.tup ks/\v=.ref a/\h.IsTuple a items/\V6 (K7 h m) ks items.toList
 |n,.non,v,q=>.inl ⟨rfl,by cases n<;>exact q⟩
 |n,.int i,v,q=>by
  obtain⟨t,e⟩:∃t,v=.int i t:=by cases n<;>exact q
  exact .inr (.inl ⟨i,t,rfl,e⟩)
 |n,.str i,v,q=>by
  obtain⟨t,e⟩:∃t,v=.str i t:=by cases n<;>exact q
  exact .inr (.inr (.inl ⟨i,t,rfl,e⟩))
 |0,.tup ks,v,q=>q.elim
 |m+1,.tup ks,v,q=>by
  obtain⟨a,items,e,t,z⟩:=q;exact .inr (.inr (.inr ⟨m,ks,a,items,rfl,rfl,e,t,z⟩))
 |n,.bl b,v,q=>by cases n<;>exact q.elim
 |n,.lst b,v,q=>by cases n<;>exact q.elim
theorem K7.one:∀(n m:Nat) (x y:D) (v:Ad),K7 h n x v->K7 h m y v->x=y:=by
 intro n
 induction n with
 |zero=>
  intro m x y v h1 h2;rcases h1.shape with⟨rfl,rfl⟩ |⟨i,t,rfl,rfl⟩ |⟨i,t,rfl,rfl⟩ |⟨m1,ks,a,items,e0,rfl,rfl,t,z⟩<;>
   rcases h2.shape with⟨rfl,e⟩ |⟨j,u,rfl,e⟩ |⟨j,u,rfl,e⟩ |⟨m2,qZ,a2,iK,_,rfl,e,t2,z2⟩<;>first |rfl |(cases e;rfl) |(cases e;done) |lia
 |succ n ih=>
  intro m x y v h1 h2;rcases h1.shape with⟨rfl,rfl⟩ |⟨i,t,rfl,rfl⟩ |⟨i,t,rfl,rfl⟩ |⟨m1,ks,a,items,e0,rfl,rfl,t,z⟩<;>
   rcases h2.shape with⟨rfl,e⟩ |⟨j,u,rfl,e⟩ |⟨j,u,rfl,e⟩ |⟨m2,qZ,a2,iK,_,rfl,e,t2,z2⟩<;>first |rfl |(cases e;rfl) |(cases e;done) |skip
  cases e;cases e0;cases W7n t t2;rw[W1e (fun x y v=>ih m2 x y v) z z2]
theorem W2x (k:∀a items,h.IsTuple a items->h'.IsTuple a items):∀(n:Nat) (x:D) (v:Ad),K7 h n x v->K7 h' n x v:=by
 intro n
 induction n with
 |zero=>intro x v q;cases x<;>exact q
 |succ n ih=>
  intro x v q;cases x with
  |tup ks=>
   unfold K7 at q ⊢;obtain⟨a,it,e,t,z⟩:=q;exact⟨a,it,e,k _ _ t,z.imp ih⟩
  |_=>exact q
section
variable {w:Ak}
theorem Y4t (ih:∀(k:D) (v:Ad) (A:Ah) (s:Ae) (Q:Int->Ae->Prop),A.units+n<cLine->K7 s.heap n k v->Q (Q0y w n k) {s with toks:=s.toks+Z2 n k}->wpAny (model prog w) A (pyHash v) Q E s):
  ∀(ks:M D) (vs:M Ad) (A:Ah) (s:Ae) (b:Array Int) (Q:Array Int->Ae->Prop),A.units+n<cLine->V6 (K7 s.heap n) ks vs ->
   Q (b++(ks.map (Q0y w n)).toArray) {s with toks:=s.toks+(ks.map (Z2 n)).sum}->wpAny (model prog w) A (forIn vs b fun x r=>do let h <- pyHash x;pure PUnit.unit;pure (ForInStep.yield (r.push h))) Q E s
 |[],vs,A,s,b,Q,_,z,q=>by
  rw[show vs=[]from z];exact aj (by simpa using q)
 |k::ks,vs,A,s,b,Q,hu,z,q=>by
  obtain⟨v,r,rfl,i,t⟩:=z;rw[bF];refine aa (aa (ih k v A s _ hu i ?_));refine aa (aj (aj ?z));refine Y4t ih ks r A {s with toks:=s.toks+Z2 n k} _ Q hu t ?_;have e:(b.push (Q0y w n k))++(ks.map (Q0y w n)).toArray=b++((k::ks).map (Q0y w n)).toArray:=by simp
  have e2:s.toks+Z2 n k+(ks.map (Z2 n)).sum=s.toks+((k::ks).map (Z2 n)).sum:=by simp[Nat.add_assoc]
  rw[e];show Q _ {s with toks:=s.toks+Z2 n k+(ks.map (Z2 n)).sum};rw[e2];exact q
theorem W7w:∀(n:Nat) (k:D) (v:Ad) (A:Ah) (s:Ae) (Q:Int->Ae->Prop),A.units+n<cLine->K7 s.heap n k v->Q (Q0y w n k) {s with toks:=s.toks+Z2 n k}->wpAny (model prog w) A (pyHash v) Q E s:=by
 have flat:∀(n:Nat) (k:D) (v:Ad) (A:Ah) (s:Ae) (Q:Int->Ae->Prop),(∀ks,k≠.tup ks)->K7 s.heap n k v->Q (Q0y w n k) {s with toks:=s.toks+Z2 n k}->wpAny (model prog w) A (pyHash v) Q E s:=by
  intro n k v A s Q nt i q;cases k with
  |tup ks=>exact absurd rfl (nt ks)
  |bl b=>cases n<;>exact i.elim
  |lst b=>cases n<;>exact i.elim
  |non=>
   have e:v=.none:=by cases n<;>exact i
   subst e;have e1:Q0y w n .non=reduceHash 0xFCA86420:=by cases n<;>rfl
   have e2:Z2 n .non=1:=by cases n<;>rfl
   rw[e1,e2]at q;exact th (T:="NoneType") rfl F.slot_NoneType_hash F.entry_NoneType_hash (F.args_NoneType_hash_1 _) (beq_builtin_none _) (.inl rfl) (aa (aj (aa (nD (aj ⟨_,_,rfl,q⟩)))))
  |int j=>
   obtain⟨t,rfl⟩:∃t,v=.int j t:=by cases n<;>exact i
   have e1:Q0y w n (.int j)=hashInt j:=by cases n<;>rfl
   have e2:Z2 n (.int j)=1:=by cases n<;>rfl
   rw[e1,e2]at q;exact wpAny_pyHash_int q
  |str j=>
   obtain⟨t,rfl⟩:∃t,v=.str j t:=by cases n<;>exact i
   have e1:Q0y w n (.str j)=hashStr w j:=by cases n<;>rfl
   have e2:Z2 n (.str j)=1:=by cases n<;>rfl
   rw[e1,e2]at q;exact wpAny_pyHash_str q
 intro n
 induction n with
 |zero=>
  intro k v A s Q hu i q;cases k with
  |tup ks=>exact i.elim
  |_=>exact flat 0 _ v A s Q (by intro ks e;cases e) i q
 |succ n ih=>
  intro k v A s Q hu i q;cases k with
  |tup ks=>
   obtain⟨a,items,rfl,t,z⟩:=i;obtain⟨o,e,c,m,d⟩:=id t;refine th (T:="tuple") ⟨o,e,c⟩ F.slot_tuple_hash F.entry_tuple_hash (F.args_tuple_hash_1 _) (beq_builtin_none _) (.inr (by lia)) ?_
   change wpAny (model prog w) A.in1 (Builtin.Tuple.tupleItemsOf (Value.ref a)>>=_) _ _ s
   refine aa (wpAny_tupleItemsOf e d (aa ?_));rw[<-eV];refine Y4t ih ks items.toList A.in1 s #[] _ (by simp only[cN];lia) z ?_;refine aa (nD (aj ⟨_,_,rfl,?_⟩));have q2:Q (reduceHash (Builtin.Tuple.tupleHashOf (ks.map (Q0y w n)))) {s with toks:=s.toks+(ks.map (Z2 n)).sum+1}:=q;simpa using q2
  |_=>exact flat (n+1) _ v A s Q (by intro ks e;cases e) i q
theorem W6b {A:Ah}   {x y:Array Ad}{xs ys:M D}{m:Nat}(hu:A.units<cLine)(ta:s.heap.IsTuple a x)(tb:s.heap.IsTuple b y)(za:V6 (K7 s.heap n) xs x.toList)(zb:V6 (K7 s.heap m) ys y.toList)
  (he:∀(k l:D) (u v:Ad),K7 s.heap n k u->K7 s.heap m l v->SeqAt.EqAt A.in1 s u v (decide (k=l))):SeqAt.RcAt A s (.ref a) (.ref b) (decide (D.tup xs=D.tup ys)):=by
 have lx:xs.length=x.size:=by rw[za.len];simp
 have ly:ys.length=y.size:=by rw[zb.len];simp
 have r:=SeqAt.RcAt.tuples (e:=fun j=>decide (xs[j]?=ys[j]?)) ta tb hu fun j h1 h2=>by
  have e1:xs[j]?=some xs[j]:=ac (by lia);have e2:ys[j]?=some ys[j]:=ac (by lia);have q:=he xs[j] ys[j] x[j] y[j] (za.at e1 (by simp[h1])) (zb.at e2 (by simp[h2]));have:decide (xs[j]?=ys[j]?)=decide (xs[j]=ys[j]):=by rw[e1,e2];by_cases z:xs[j]=ys[j]<;>simp[z]
  show SeqAt.EqAt A.in1 s x[j] y[j] (decide (xs[j]?=ys[j]?));rw[this];exact q
 have e:((List.range (min x.size y.size)).all (fun j=>decide (xs[j]?=ys[j]?))&&x.size==y.size)=decide (D.tup xs=D.tup ys):=by
  rw[cM];simp only[bD,bX,aZ,yt,beq_iff_eq,D.tup.injEq];constructor
  ·rintro ⟨h1,h2⟩;refine yx fun j=>?_
   by_cases hj:j<x.size
   ·exact h1 j (by lia)
   ·rw[e7 (by lia),e7 (by lia)]
  ·rintro rfl;exact⟨fun _ _=>rfl,by lia⟩
 rw[e]at r;exact r
theorem k_eq:∀(n m:Nat) (x y:D) (u v:Ad) (A:Ah),A.units+n<cLine->K7 s.heap n x u->K7 s.heap m y v->SeqAt.EqAt A s u v (decide (x=y)):=by
 have flat:∀(n m:Nat) (x y:D) (u v:Ad) (A:Ah),A.units+n<cLine->K7 s.heap n x u->K7 s.heap m y v ->
   (∀n' xs ys a b i j m',n=n'+1->s.heap.IsTuple a i->s.heap.IsTuple b j->V6 (K7 s.heap n') xs i.toList->V6 (K7 s.heap m') ys j.toList->a≠b->SeqAt.EqAt A s (.ref a) (.ref b) (decide (D.tup xs=D.tup ys)))->SeqAt.EqAt A s u v (decide (x=y)):=by
  intro n m x y u v A hu h1 h2 tt;have nj:A.units<cLine:=by lia
  rcases h1.shape with⟨rfl,rfl⟩ |⟨i,t,rfl,rfl⟩ |⟨i,t,rfl,rfl⟩ |⟨m1,ks,a,items,e0,rfl,rfl,t,z⟩<;>
   rcases h2.shape with⟨rfl,rfl⟩ |⟨j,u,rfl,rfl⟩ |⟨j,u,rfl,rfl⟩ |⟨m2,qZ,a2,iK,_,rfl,rfl,t2,z2⟩
  ·rw[cH rfl];exact SeqAt.EqAt.same _
  ·rw[aT (by intro e;cases e)];exact SeqAt.EqAt.none_int _ _
  ·rw[aT (by intro e;cases e)];exact SeqAt.EqAt.none_str _ _
  ·rw[aT (by intro e;cases e)];exact SeqAt.EqAt.none_tuple t2 nj
  ·rw[aT (by intro e;cases e)];exact SeqAt.EqAt.int_none _ _
  ·have e:decide (D.int i=D.int j)=(i==j):=by by_cases z:i=j<;>simp[z]
   rw[e];exact SeqAt.EqAt.int_int _ _ _ _
  ·rw[aT (by intro e;cases e)];exact SeqAt.EqAt.int_str _ _ _ _
  ·rw[aT (by intro e;cases e)];exact SeqAt.EqAt.int_tuple _ _ t2 nj
  ·rw[aT (by intro e;cases e)];exact SeqAt.EqAt.str_none _ _
  ·rw[aT (by intro e;cases e)];exact SeqAt.EqAt.str_int _ _ _ _
  ·have e:decide (D.str i=D.str j)=(i==j):=by by_cases z:i=j<;>simp[z]
   rw[e];exact SeqAt.EqAt.str_str _ _ _ _
  ·rw[aT (by intro e;cases e)];exact SeqAt.EqAt.str_tuple _ _ t2 nj
  ·rw[aT (by intro e;cases e)];exact SeqAt.EqAt.tuple_none t nj
  ·rw[aT (by intro e;cases e)];exact SeqAt.EqAt.tuple_int _ _ t nj
  ·rw[aT (by intro e;cases e)];exact SeqAt.EqAt.tuple_str _ _ t nj
  ·by_cases ab:a=a2
   ·subst ab;have e:=K7.one _ _ _ _ _ h1 h2;rw[cH e];exact SeqAt.EqAt.same _
   ·exact tt m1 ks qZ a a2 items iK m2 e0 t t2 z z2 ab
 intro n
 induction n with
 |zero=>exact fun m x y u v A hu h1 h2=>flat 0 m x y u v A hu h1 h2 fun n' _ _ _ _ _ _ _ e=>by lia
 |succ n ih=>
  exact fun m x y u v A hu h1 h2=>flat (n+1) m x y u v A hu h1 h2 fun n' xs ys a b i j m' e ta tb za zb ab=>by
   cases e;exact SeqAt.EqAt.of_refs ab (W6b (by lia) ta tb za zb fun k l u v h1 h2=>ih m' k l u v A.in1 (by simp only[cN];lia) h1 h2)
theorem W7x {A:Ah}:∀(n f:Nat) (x:D) (v:Ad) (Q:Bool->Ae->Prop),n<=f->K7 s.heap n x v->Q true s->wpAny (model prog w) A (eqIsQuiet f v) Q E s:=by
 intro n
 induction n with
 |zero=>
  intro f x v Q hf h q;rcases h.shape with⟨rfl,rfl⟩ |⟨i,t,rfl,rfl⟩ |⟨i,t,rfl,rfl⟩ |⟨m1,ks,a,items,e0,rfl,rfl,t,z⟩
  ·rw[cZ f rfl];exact aj q
  ·rw[cZ f rfl];exact aj q
  ·rw[cZ f rfl];exact aj q
  ·lia
 |succ n ih=>
  intro f x v Q hf h q;rcases h.shape with⟨rfl,rfl⟩ |⟨i,t,rfl,rfl⟩ |⟨i,t,rfl,rfl⟩ |⟨m1,ks,a,items,e0,rfl,rfl,t,z⟩
  ·rw[cZ f rfl];exact aj q
  ·rw[cZ f rfl];exact aj q
  ·rw[cZ f rfl];exact aj q
  ·cases e0;obtain⟨o,e,c,m,d⟩:=id t;have hT:s.TypeIs (.ref a) "tuple":=⟨o,e,c⟩
   cases f with
   |zero=>lia
   |succ f=>
    unfold eqIsQuiet;refine aa (fh hT F.slot_tuple_eq.lookup (?_:wpAny (model prog w) A (isInstance (Value.ref a) (.type "tuple")>>=_) _ _ s));refine aa (gy hT isSubtype_tuple_tuple (s:=s) ?_);rw[aI (?K)];refine aa (ce e d (aa ?_))
    change wpAny (model prog w) A (forIn items _ _) _ _ s
    rw[<-eV];have loop:∀(ks:M D) (vs:M Ad),V6 (K7 s.heap n) ks vs->wpAny (model prog w) A (forIn vs (none,PUnit.unit) fun y (yN:Ac Bool×PUnit)=>(do
      if (!(<- eqIsQuiet f y))=true then pure (ForInStep.done (some false,PUnit.unit))else pure (ForInStep.yield (none,PUnit.unit)))) (fun r s'=>s'=s/\r=(none,PUnit.unit)) E s:=by
     intro ks
     induction ks with
     |nil=>intro vs z;rw[show vs=[]from z];exact aj ⟨rfl,rfl⟩
     |cons k ks ihk=>
      intro vs z;obtain⟨v,r,rfl,i,z⟩:=z;rw[bF];refine aa (aa (ih f k v _ (by lia) i ?_));rw[aI (?K)];exact aj (ihk r z)
    refine aE (loop ks items.toList z) (fun r s' bG=>?_) fun _ _ z=>z;obtain⟨e1,e2⟩:=bG;subst e1 e2;exact aj q
end
noncomputable def Z5f (prog:Aj)(w:Ak):HeapKind prog w D where
 is:=fun h k a=>K7 h 8 k (.ref a)
 hash:=Q0y w 8
 draws:=Z2 8
 room:=fun A=>A.units+8<cLine
 inj:=fun h1 h2=>K7.one _ _ _ _ _ h1 h2
 keeps:=fun h1 ho hd hs=>W2x (fun b it t=>by
  obtain⟨o',e,c,m,d⟩:=t;refine⟨o',(hs.2 b fun z=>?_).trans e,c,m,d⟩;subst z;rw[ho]at e;cases e;rw[hd]at d;cases d) _ _ _ h1
 pyHash:=fun hu hk h=>W7w 8 _ _ _ _ _ hu hk h
 eqBool:=fun hu hx hy h=>k_eq 8 8 _ _ _ _ _ hu hx hy _ _ _ _ h
 quiet:=fun hk h=>W7x 8 8 _ _ _ (ao _) hk h
section
variable [DecidableEq κ]{w:Ak}{knd:HeapKind P w κ}{A:Ah}{d:Af}{xs:M (κ×Af×Ad)}{k:κ}
def V5s {y:Ad}  (hu:knd.room A)(hk:knd.is s.heap k a)(D:s.heap.DictOfH knd d xs)(z:xs.length<=sizeLine)
  (h1:∀(j:Nat) (p:Af×Ad),xs[j]?=some (k,p)->Q p.2 {s with toks:=s.toks+knd.draws k})
  (h2:k∉xs.map (·.1)->∀h',h'.DictOfH knd d (xs++[(k,a,y)])->Heap.SameBut d s.heap h'->Q y {s with heap:=h',toks:=s.toks+knd.draws k}):wpAny (model P w) A (dictSetDefault d (.ref a) y) Q E s:=by
 obtain⟨o,es,ep,ho,hc,hd,he,oB,hn⟩:=D;have hz:es.size<=sizeLine:=by rw[size_of_entries he];exact z
 unfold dictSetDefault;refine bv (aa (knd.pyHash hu hk (aa (wpAny_dictFind_heap (s:={s with toks:=s.toks+knd.draws k}) hu hk ho hd he oB hn (fun no=>?_) fun j p hj=>?_))))
 ·have nk:=not_mem_keys_of_get no;refine aa (dw (aa (wpAny_updateDictKeys (s:={s with toks:=s.toks+knd.draws k}) ho hd (aj (h2 nk _ ?_ (bh ..))) (hz:=hz))));refine⟨_,_,ep+1,bZ _ ho (Obj.isFreed_of_dict (Obj.data_mapDictKeys hd _)),hc.mapDictKeys _,Obj.data_mapDictKeys hd _,by simp[he,entryOfKey],fun x hx=>?_,?_⟩
  ·rcases aH.mp hx with q |q
   ·exact knd.keeps (oB x q) ho hd (bh ..)
   ·rw[aG.mp q];exact knd.keeps hk ho hd (bh ..)
  ·rw[bA,ba (l₁:=xs.map (·.1))];refine⟨hn,by simp,fun b hb c gR e=>?_⟩;rw[show c=k by simpa using gR]at e;exact nk (e▸hb)
 ·refine aa (wpAny_dictEntries (s:={s with toks:=s.toks+knd.draws k}) ho hd ?_);rw[entry_at he j,hj];exact aa (dw (aj (h1 j p hj)))
def W4v {y:Ad}  (hu:knd.room A.in1)(hs:(d==sysModules)=false)(hk:knd.is s.heap k a)(D:s.heap.DictOfH knd d xs)(z:xs.length<=sizeLine)
  (h1:∀(j:Nat) (p:Af×Ad),xs[j]?=some (k,p)->Q p.2 {s with toks:=s.toks+knd.draws k})
  (h2:k∉xs.map (·.1)->∀h',h'.DictOfH knd d (xs++[(k,a,y)])->Heap.SameBut d s.heap h'->Q y {s with heap:=h',toks:=s.toks+knd.draws k}):wpAny (model P w) A (call (.builtin "dict.setdefault") [.ref d,.ref a,y]) Q E s:=by
 refine bx cK D.typeIs jn ?_ (j0 _ _ _);unfold Builtin.«dict.setdefault» Builtin.Dict.keyAndDefault;refine aa (aa (wpAny_notOrdered_dict D.typeIs ?_))
 change wpAny (model P w) A.in1 (pure (d,Value.ref a,some y)) _ _ s
 refine aj (?_:wpAny (model P w) A.in1 (if (d==sysModules)=true then _ else(dictSetDefault d (.ref a) y>>=fun r=>ret r)) _ _ s);rw[aI (by rw[hs];decide)];exact aa (V5s hu hk D z (fun j p hj=>aj ⟨_,rfl,h1 j p hj⟩) fun n h' D' sb=>aj ⟨_,rfl,h2 n h' D' sb⟩)
theorem W4q (hs:(d==sysModules)=false)(D:s.heap.DictOfH knd d xs)(z:xs.length<=sizeLine)(h:∀t t',Q (.int xs.length t) {s with toks:=t'}):wpAny (model P w) A (call (.builtin "len") [.ref d]) Q E s:=by
 have yL:((xs.length:Nat):Int)<2^63:=by rw[cT]at z;lia
 refine tD kind_len plain_len entry_len (args_len1 (Value.ref d)) ?_;unfold Builtin.«len»;refine aa (m:=oneArg "len" _) (aj (aa (m:=callSpecial? (.ref d) (Str.ofString "__len__")) ?_));have hT:=D.typeIs;obtain⟨o,es,ep,ho,hc,hd,he,oB,hn⟩:=D;have xQ:es.size=xs.length:=size_of_entries he;refine bS (name:=Str.ofString "__len__") hT pq (bx pq hT PySem.F.entry_dict_len ?_ (PySem.F.args_dict_len_1 _))
 change wpAny (model P w) _ (dictSize d>>=_) _ _ s
 unfold dictSize;refine aa (aa (wpAny_dictEntries ho hd (aj (aa (wpAny_pendingCount_other hs (aa (nD (aj ⟨_,rfl,?_⟩))))))));refine aa (bv (aj (aa (iS ?_))));rw[Nat.add_zero,xQ];rw[aI (by lia),aI (by lia)];exact aa (nD (aj ⟨_,rfl,h _ _⟩))
end
def U1:Nat->D->Bool
 |_,.non=>true
 |_,.int _=>true
 |_,.str _=>true
 |n+1,.tup ks=>ks.all (U1 n)
 |_,_=>false
def GDh (P:Aj)(w:Ak)(p:Af)(ks:M (D×Af))(h:Heap):Prop:=
 (p==sysModules)=false/\ks.length<=sizeLine/\∃xs:M (D×Af×Ad),xs.map (fun x=>(x.1,x.2.1))=ks/\(∀(i:Nat) x,xs[i]?=some x->∃t,x.2.2=.int i t) /\
  ∃o es ep,h.get? p=some o/\o.ExactDict/\o.data=.dict es ep/\es.toList=xs.map (entryOfKey (Z5f P w))/\(xs.map (·.1)).Nodup
def gD (X:Cx)(p:Af)(ks:M (D×Af)):HO:=.ext (GDh X.prog X.w p ks)
section
variable {w:Ak}{p:Af}{ks:M (D×Af)}
def GDh.ok (g:GDh P w p ks h):ObjOk P w H h p (.ext (GDh P w p ks)):=by
 obtain⟨o,e⟩:∃o,h.get? p=some o:=by obtain⟨_,_,_,_,_,o,_,_,e,_⟩:=g;exact⟨o,e⟩
 refine⟨g,⟨o,e⟩,fun h1 h2 cw k=>(by obtain⟨a,b,xs,c,d,o,es,ep,e,r⟩:=cw;exact⟨a,b,xs,c,d,o,es,ep,k _ e,r⟩)⟩
theorem W1d (ok:J6 P w H h)  (ih:∀(d:D) (v:V) (u:Ad),U1 n d=true->A3 K H d v->C2 v u->K7 h n d u):
  ∀(ds:M D) (vs:M V) (us:M Ad),ds.all (U1 n)=true->AllS K H ds vs->C4 vs us->V6 (K7 h n) ds us
 |[],vs,us,_,al,r=>by
  unfold AllS at al;subst al;cases r;exact rfl
 |d::ds,vs,us,hk,al,r=>by
  unfold AllS at al;obtain⟨v,t,rfl,i,al⟩:=al;cases r with
  |cons r1 r2=>
   rw[fA,bD]at hk;exact⟨_,_,rfl,ih d v _ hk.1 i r1,W1d ok ih ds t _ hk.2 al r2⟩
theorem Y4w (ok:J6 P w H h):∀(n:Nat) (d:D) (v:V) (u:Ad),U1 n d=true->A3 K H d v->C2 v u->K7 h n d u:=by
 have flat:∀(n:Nat) (d:D) (v:V) (u:Ad),(∀ks,d≠.tup ks)->U1 n d=true->A3 K H d v->C2 v u->K7 h n d u:=by
  intro n d v u nt hk i r;cases d with
  |tup ks=>exact absurd rfl (nt ks)
  |non=>unfold A3 at i;subst i;cases (show u=.none from r);cases n<;>exact rfl
  |bl b=>cases n<;>cases hk
  |lst b=>cases n<;>cases hk
  |int j=>unfold A3 at i;subst i;obtain⟨t,rfl⟩:=(show ∃t,u=Value.int j t from r);cases n<;>exact⟨t,rfl⟩
  |str j=>unfold A3 at i;subst i;obtain⟨t,rfl⟩:=(show ∃t,u=Value.str j t from r);cases n<;>exact⟨t,rfl⟩
 intro n
 induction n with
 |zero=>
  intro d v u hk i r;cases d with
  |tup ks=>cases hk
  |_=>exact flat 0 _ v u (by intro ks e;cases e) hk i r
 |succ n ih=>
  intro d v u hk i r;cases d with
  |tup ks=>
   unfold A3 at i;obtain⟨a,xs,rfl,e,al⟩:=i;cases (show u=Value.ref a from r);obtain⟨_,bb,rv,t⟩:=(show ObjOk P w H h a (.tup xs)from ok a _ e)
   exact⟨a,bb.toArray,rfl,t,by simpa using W1d ok ih ks xs bb hk al rv⟩
  |_=>exact flat (n+1) _ v u (by intro ks e;cases e) hk i r
def GDh.dict (ok:J6 P w H h)(g:GDh P w p ks h)(hk:∀x∈ks,U1 8 x.1=true/\A3 K H x.1 (.ref x.2)):
  ∃xs:M (D×Af×Ad),xs.map (fun x=>(x.1,x.2.1))=ks/\(∀(i:Nat) x,xs[i]?=some x->∃t,x.2.2=.int i t)/\h.DictOfH (Z5f P w) p xs:=by
 obtain⟨_,_,xs,e,iv,o,es,ep,h1,h2,h3,h4,h5⟩:=g;refine⟨xs,e,iv,o,es,ep,h1,h2,h3,h4,fun x hx=>?_,h5⟩;obtain⟨k1,k2⟩:=hk (x.1,x.2.1) (by rw[<-e];exact au.mpr ⟨x,hx,rfl⟩);exact Y4w ok 8 _ _ _ k1 k2 rfl
end
section
variable {p:Af}
def W4p:Q6l X (.builtin "len") (fun xs H Q=>∃p ks,xs=[V.ref p]/\H p=some (gD X p ks)/\(∀x∈ks,U1 8 x.1=true/\A3 X.K H x.1 (.ref x.2))/\Q (.int ks.length) H):=by
 intro af s σ H xs us Q I r ⟨p,ks,e,hp,hk,q⟩;subst e;obtain⟨u,rfl,ru⟩:=Q2g r;cases ru;have g:GDh X.prog X.w p ks s.heap:=(I.hok p _ hp).1;obtain⟨xs,e,iv,D⟩:=g.dict I.hok hk;have el:xs.length=ks.length:=by rw[<-e,ag]
 refine W4q g.1 D (by rw[el];exact g.2.1) fun t t'=>⟨.int ks.length,H,I.tok _,⟨t,by rw[el]⟩,q⟩
def W7k {u:HO}  {H':Hp}(I:A1 X af σ (A6 H p u) s)(hn:H p=none)(nt:∀xs,u≠.tup xs)(nf:∀o v,u≠.frz o v)(no:∀y,¬ Z0j y u)(nb:∀ps,u≠.tbl ps)(e:s.heap.get? p=some o)(d:∀v,o.data≠.cell v):
  A1 X ((p,o)::af) σ H s:=by
 have at_:A6 H p u p=some u:=upd_same;have iQ:∀b v,H b=some v->A6 H p u b=some v:=fun b v q=>by rw[A7 (V0 q hn)];exact q
 have i6:∀b,A6 H p u b=none->H b=none/\b≠p:=fun b q=>by
  by_cases z:b=p
  ·subst z;rw[upd_same]at q;cases q
  ·rw[A7 z]at q;exact⟨q,z⟩
 have pL:p≠X.env.locals:=fun z=>by have:=I.free;rw[<-z,upd_same]at this;cases this
 have pF:p∉X.fs:=fun z=>by
  obtain⟨_,o,ho,_⟩:=I.ok.funs.mem z;have:=I.base.free p o ho (I.ok.frf p z) fun w=>I.ok.exfs p w z;rw[upd_same]at this;cases this
 refine⟨I.ok,I.os,I.bare,⟨I.base.keep,I.base.slot,fun b o q n x=>(i6 b (I.base.free b o q n x)).1,I.base.there,fun b xs q=>?_,fun b o v q=>?_,fun b ps q=>?_⟩,I.loc,I.cell,(i6 _ I.free).1,fun x c q=>(i6 _ (I.freeC x c q)).1,fun a ha=>?_,fun b v q=>?_,I.len⟩
 ·have r:=I.base.tups b xs q
  by_cases z:b=p
  ·subst z;rw[upd_same]at r;cases r;exact absurd rfl (nt _)
  ·rw[A7 z]at r;exact r
 ·have r:=I.base.frzs b o v q
  by_cases z:b=p
  ·subst z;rw[upd_same]at r;cases r;exact absurd rfl (nf _ _)
  ·rw[A7 z]at r;exact r
 ·obtain⟨more,r⟩:=I.base.tbls b ps q
  by_cases z:b=p
  ·subst z;rw[upd_same]at r;cases r;exact absurd rfl (nb _)
  ·rw[A7 z]at r;exact⟨more,r⟩
 ·rcases aH.mp ha with z |z
  ·obtain⟨a1,a2,a3⟩:=I.pin a (aV _ z);exact⟨a1,(i6 _ a2).1,a3⟩
  ·rcases av.mp z with z |z
   ·subst z;exact⟨e,hn,pL,pF,d⟩
   ·obtain⟨a1,a2,a3⟩:=I.pin a (ai _ z);exact⟨a1,(i6 _ a2).1,a3⟩
 ·refine(I.hok b v (iQ b v q)).stay (fun c v _ r=>r) (fun c v ow r=>?_) fun c xs r=>?_
  ·by_cases z:c=p
   ·subst z;rw[upd_same]at r;cases r;exact absurd ow (no _)
   ·rw[A7 z]at r;exact r
  ·by_cases z:c=p
   ·subst z;rw[upd_same]at r;cases r;exact absurd rfl (nt _)
   ·rw[A7 z]at r;exact r
def Z5t {u:HO}(I:?B)(hn:H p=none)(hx:p∈X.ex\/X.s₀.heap.objs.size<=p)(hL:p≠X.env.locals)(hc:∀x c,X.env.cells.lookup x=some c->c≠p)(hp:∀a∈X.pn++af,a.1≠p)(new:ObjOk X.prog X.w (A6 H p u) s.heap p u):
  A1 X af σ (A6 H p u) s:=by
 have keep:∀b v,H b=some v->A6 H p u b=some v:=fun b v q=>by rw[A7 (V0 q hn)];exact q
 refine⟨I.ok,I.os,I.bare,⟨I.base.keep,I.base.slot,fun b o q n x=>?_,I.base.there,fun b xs q=>keep _ _ (I.base.tups b xs q),fun b o v q=>keep _ _ (I.base.frzs b o v q),fun b ps q=>let ⟨more,r⟩:=I.base.tbls b ps q;⟨more,keep _ _ r⟩⟩,
  I.loc,I.cell,by rw[A7 (bY hL)];exact I.free,fun x c q=>by rw[A7 (hc x c q)];exact I.freeC x c q,fun a ha=>?_,fun b v q=>?_,I.len⟩
 ·refine(A7 (fun z=>?_)).trans (I.base.free b o q n x);rcases hx with hx |hx
  ·exact x (by rw[z];exact hx)
  ·rw[z]at q;exact absurd (aw q) (fU.mpr hx)
 ·obtain⟨a1,a2,a3⟩:=I.pin a ha;exact⟨a1,by rw[A7 (hp a ha)];exact a2,a3⟩
 ·by_cases z:b=p
  ·subst z;rw[upd_same]at q;cases q;exact new
  ·rw[A7 z]at q;exact(I.hok b v q).stay (fun _ _ _ r=>r) (fun c v _ r=>keep _ _ r) fun c xs r=>keep _ _ r
end
noncomputable def Y2 (ks:M D)(d:D):M D:=if d∈ks then ks else ks++[d]
noncomputable def Q1w:M D->M D->M Int
 |_,[]=>[]
 |ks,d::r=>((ks.idxOf d:Nat):Int)::Q1w (Y2 ks d) r
theorem W6v {ks:M D}(hn:ks.Nodup){j:Nat}{d:D}(e:ks[j]?=some d):ks.idxOf d=j:=by grind
section
variable {o x':Ag}{q3 q5:Pos}{i j:Nat}
def Z8q (X:Cx)(i j:Nat):TE:=fun σ H Q=>∃p ks d a,σ[i]?=some (some (V.ref p))/\H p=some (gD X p ks)/\σ[j]?=some (some (V.ref a))/\A3 X.K H d (.ref a)/\U1 8 d=true/\(∀x∈ks,U1 8 x.1=true/\A3 X.K H x.1 (.ref x.2))/\ks.length<sizeLine /\
 (d∈ks.map (·.1)->Q (.int ((ks.map (·.1)).idxOf d:Nat)) H)/\(d∉ks.map (·.1)->Q (.int ks.length) (A6 H p (gD X p (ks++[(d,a)]))))
theorem V2c (hu:X.A.units+9<cLine)(ho:PE X o (S9 i))(he:PE X e (S9 j))(hg:Gl X "len")(hm:X.mg "len"=none)(hx:PE X x' (S9 i))(m:M2 X o "setdefault" apos e (.Call (.Name "len" q3) [x'] [] q5) bV)
  (hs:starEach [x'] X.env=(false,eval x' X.env)::starEach [] X.env:=by rfl):
  PE X (.Call (.Attribute o "setdefault" apos) [e,.Call (.Name "len" q3) [x'] [] q5] [] bV) (Z8q X i j):=by
 intro af s σ H Q I ⟨p,ks,d,a,hp,Hp,ha,ia,kd,hk,hz,q1,q2⟩;refine g6 m.base m.few m.line fC cK jB (B3 (ho af s σ H (fun v H1=>v=.ref p/\H1=H) I ⟨_,hp,rfl,rfl⟩) fun u s1 bG=>?_);obtain⟨v,H1,I1,rv,ev,eH⟩:=bG;subst ev eH;obtain rfl:u=Value.ref p:=rv;have g1:GDh X.prog X.w p ks s1.heap:=(I1.hok p _ Hp).1;obtain⟨_,_,_,D1⟩:=g1.dict I1.hok hk;refine⟨D1.typeIs,fun b eb=>?_,?_⟩
 ·cases eb;obtain⟨ob,_,_,h1,h2,_⟩:=D1;exact⟨ob,h1,h2.2.1⟩
 rw[m.trees];have ck:PE X (.Call (.Name "len" q3) [x'] [] q5) _:=Y6y W4p hg hm rfl (Q2a hx Q6c hs) (he:=hs);refine cS rfl (cB (bR (B3 (he af s1 σ H1 (fun v H2=>v=.ref a/\H2=H1) I1 ⟨_,ha,rfl,rfl⟩) fun iv s2 ⟨y,H2,I2,ry,ey,eH⟩=>
  bR (B3 (ck af s2 σ H2 (fun v H3=>v=.int ks.length/\H3=H2) I2 ⟨_,hp,p,ks,rfl,by rw[eH];exact Hp,by rw[eH];exact hk,rfl,rfl⟩) fun fv s3 ⟨z,H3,I3,rz,ez,xV⟩=>cG ?_))))
 subst ey eH ez xV;obtain rfl:iv=Value.ref a:=ry;obtain⟨tz,rfl⟩:∃t,fv=Value.int ks.length t:=rz;have g3:GDh X.prog X.w p ks s3.heap:=(I3.hok p _ Hp).1;obtain⟨xs,ex,iv,D3⟩:=g3.dict I3.hok hk;have sU:xs.map (·.1)=ks.map (·.1):=by rw[<-ex,aM];rfl
 have el:xs.length=ks.length:=by rw[<-ex,ag]
 have nd:(ks.map (·.1)).Nodup:=by obtain⟨_,_,_,_,_,_,_,_,n⟩:=id D3;rw[<-sU];exact n
 refine W4v (knd:=Z5f X.prog X.w) (show X.A.in1.units+8<cLine by simp only[cN];lia) g3.1 (Y4w I3.hok 8 _ _ _ kd ia rfl) D3 (by rw[el];exact g3.2.1) (fun jj pp hj=>?_) fun oo h' D' sb=>?_
 ·obtain⟨t,et⟩:=iv jj _ hj;have ek:(ks.map (·.1))[jj]?=some d:=by rw[<-sU,ah,hj];rfl
  have ei:(ks.map (·.1)).idxOf d=jj:=W6v nd ek;refine⟨.int ((ks.map (·.1)).idxOf d:Nat),H3,I3.tok _,⟨t,by rw[ei];exact et⟩,q1 (az ek)⟩
 ·rw[sU]at oo;refine⟨.int ks.length,_,?_,⟨tz,rfl⟩,q2 oo⟩;obtain⟨o',es,ep,h1,h2,h3,h4,h5,h6⟩:=D';refine Q5p I3 (by rw[Hp];exact True.intro) sb ⟨o',h1⟩ (GDh.ok ⟨g3.1,by rw[aC];show ks.length+1<=_;lia,xs++[(d,a,Value.int ks.length tz)],by rw[bA,ex];rfl,fun n x hx=>?_,o',es,ep,h1,h2,h3,h4,h6⟩)
  by_cases hn:n<xs.length
  ·rw[aB hn]at hx;exact iv n x hx
  ·rw[aK (by lia)]at hx;have e0:n-xs.length=0:=by
    rcases eT (n-xs.length)with z |z
    ·exact z
    ·rw[e7 (show [(d,a,Value.int ks.length tz)].length<=n-xs.length from z)]at hx;cases hx
   rw[e0]at hx;cases hx;have:n=ks.length:=by lia
   subst this;exact⟨tz,rfl⟩
def V1q:PE X (.Dict [] [] pos) (fun σ H Q=>∀p,H p=none->X.s₀.heap.objs.size<=p->Q (.ref p) (A6 H p (gD X p []))):=by
 intro af s σ H Q I h;refine wpAny_Dict_empty ⟨.ref s.heap.objs.size,_,I.laid (a:=s.heap.objs.size) (o:=gD X s.heap.objs.size []) (t':=s.toks) (fun _ _ q=>ae _ q) (ao _) (GDh.ok ?_),rfl,h _ (I.hok.fresh (ao _)) I.sz⟩;exact⟨cc.mpr (bY (ax I.big)),bz _,[],rfl,by intro i x e;simp at e,_,#[],0,aD _ rfl,⟨rfl,rfl,rfl⟩,rfl,rfl,dM⟩
end
section
variable {mk:Str}{p1 o1 o2 o3 q3 q5:Pos}{i:Nat}
abbrev Q9g (mk x:Str)(o1 o2 o3 apos bV q3 q5:Pos):Ag:=.Call (.Attribute (.Name x o1) "setdefault" apos) [.Name mk o2,.Call (.Name "len" q3) [.Name x o3] [] q5] [] bV
def V7f (X:Cx)(H0:Hp)(i:Nat)(wi:T5):TE:=fun σ H Q=>∃p H1 τ,σ[i]?=some (some (V.ref p))/\H=A6 H1 p (gD X p [])/\H1 p=none/\X.s₀.heap.objs.size<=p/\B6 X.K H0 τ σ H1 /\
 wi τ fun ds=>ds.length<=sizeLine/\(∀d∈ds,U1 8 d=true/\∃l,d=.tup l)/\∀v H',A4 H1 H'->E1 X.K H1 H' (.nw ((Q1w [] ds).map .int)) v->Q v H'
theorem V1z (hc:X.calm=true)(hu:X.A.units+9<cLine)(B:Blk X scope [mk,x] 1 [i])(hi:L0 X H0 (.Name mk p1) iter wi)
  (hg:∀C s H fp,PG (blk X scope C s H fp [mk,x]) (.Name mk p1) (Z1e 0)) (he:∀C s H fp,PE (blk X scope C s H fp [mk,x]) (Q9g mk x o1 o2 o3 apos bV q3 q5) (Z8q X 1 0)) (hs:∀x,foldedSetIterable iter X.env x=pure x:=by intro _;rfl):
  PE X (.ListComp (Q9g mk x o1 o2 o3 apos bV q3 q5) [⟨.Name mk p1,iter,[],0⟩] scope pos) (V7f X H0 i wi):=by
 intro af s σ H Q I0 ⟨p,H1,τ,hσ,eH,hn1,og,hR,hw⟩;subst eH;rw[eval_ListComp];have g0:GDh X.prog X.w p [] s.heap:=(I0.hok p _ upd_same).1;obtain⟨op,ua,sx⟩:∃o,s.heap.get? p=some o/\∀v,o.data≠.cell v:=by
  obtain⟨_,_,_,_,_,o,es,ep,e,_,d,_⟩:=id g0;exact⟨o,e,fun v z=>by rw[d]at z;cases z⟩
 have I:=W7k I0 hn1 (by intro xs z;cases z) (by intro o v z;cases z) (by intro y z;rcases z with z |⟨_,z⟩<;>cases z) (by intro ps z;cases z) ua sx (H':=H1);have pc:∀x c,X.env.cells.lookup x=some c->c≠p:=fun x c q z=>by have:=I0.freeC x c q;rw[z,upd_same]at this;cases this
 have pp:∀a∈X.pn++af,a.1≠p:=fun a ha z=>by have:=(I0.pin a ha).2.1;rw[z,upd_same]at this;cases this
 refine cI rfl hs (Q8r fun y hy e=>I.ok.has y.1 (B.free y hy e)) B.kind B.names ?_;refine B3 (hi.pi ((p,op)::af) s σ H1 (fun J H2=>A4 H1 H2/\∃ds,YlS X.K J ds H2/\ds.length<=sizeLine/\(∀d∈ds,U1 8 d=true/\∃l,d=.tup l)/\∀v H',A4 H1 H'->E1 X.K H1 H' (.nw ((Q1w [] ds).map .int)) v->Q v H') I
  ⟨τ,hR,hi.mono τ _ _ (fun ds h J H' sm yl=>⟨sm,ds,yl,h⟩) hw⟩) fun v s1 h1=>B3 h1 fun mo s2 h2=>?_
 obtain⟨it,lp,tn,J,H2,e,t9,T,fm,uy,dG,ds,yl,hz,wP,hq⟩:=h2;subst e;obtain⟨jr,kW,wz,wA,_⟩:=t9.pin (p,op) (ai _ am);have I2:A1 X af σ H2 s2:=t9.pins_of fun a ha=>t9.pin a (ai _ (ak _ ha));have p7:∀b∈lp,J5 X af H2 b:=fun b hb=>by
  obtain⟨a1,a2,a3,a4,a5,a6⟩:=uy b hb;exact⟨a1,a2,a3,a4,a5,fun a ha=>a6 a (by rcases aH.mp ha with z |z;exact aV _ z;exact ai _ (ak _ z))⟩
 have vL:∀b∈lp,b≠p:=fun b hb z=>(uy b hb).2.2.2.2.2 (p,op) (ai _ am) z.symm;have xN:J5 X af H2 p:=⟨kW,wz,wA,.inr og,pc,pp⟩
 generalize hfpe:p::lp=fp;have iJ:p∈fp:=by rw[<-hfpe];exact am
 have jE:∀b∈lp,b∈fp:=fun b hb=>by rw[<-hfpe];exact ak _ hb
 have f2:∀b∈fp,J5 X af H2 b:=fun b hb=>by
  rw[<-hfpe]at hb;rcases av.mp hb with z |z
  ·rw[z];exact xN
  ·exact p7 b z
 have gW:∀b∈fp,b<s2.heap.objs.size:=fun b hb=>by
  rw[<-hfpe]at hb;rcases av.mp hb with z |z
  ·rw[z];exact aw jr
  ·obtain⟨o,ho,_⟩:=T.obj _ _ fm b z;exact aw ho
 refine bO (cA B.cell (by intro y hy;simp at hy) (fun h₁ du cQ=>?_) B.kind);dsimp only at du cQ ⊢;generalize hH2:s2.heap.push {cls:=.type "list",dict:=none,data:=.seq ([]:M Ad).toArray}=Hq at du cQ ⊢;have hC:Hq.objs.size=s2.heap.objs.size+1:=by rw[<-hH2,bi]
 have ee:s2.heap.objs.size≠Hq.objs.size:=by rw[hC];exact ax (cj _)
 have cO:s2.heap.objs.size<=Hq.objs.size:=by rw[hC];exact dF _
 have old:∀b o,s2.heap.get? b=some o->h₁.get? b=some o:=fun b o e=>cQ.extBut b o (by rw[hC];exact ax (bj (aw e))) (ae _ (hH2▸ae _ e));have dX:h₁.PlainList s2.heap.objs.size #[]:=⟨_,cQ.extBut _ _ ee (ae _ (hH2▸aD _ rfl))⟩
 generalize hCe:Hq.objs.size=C at du cQ hC ee cO ⊢;generalize hDe:s2.heap.objs.size=D0 at hC ee cO dX ⊢;have dU:∀b∈fp,b<D0:=fun b hb=>hDe▸gW b hb;have fx:tn 0 h₁:=T.keep _ _ _ fm fun b _ o e=>old b o e;have lu:=Q8m (C:=C) (h':=h₁) (t':=s2.toks+([]:M (Str×Ad)).length) I2 B f2 gW (by rw[hDe];exact cO) du old;have wD:p≠C:=ax (ay (dU p iJ) cO);have iP:H2 D0=none:=I2.hok.fresh (by rw[hDe];exact ao _);have uk:D0≠p:=fun z=>by have:=dU p iJ;rw[z]at this;exact aS _ this
 have vQ:∀x c,(S7 X.env scope.names []).lookup x=some c->c≠p:=fun x c h=>pc x c (X9 I2 B h);have ye:=Z5t lu (p:=p) (u:=gD X p []) kW (.inl iJ) wD vQ (by intro a ha;simp[blk]at ha) (by
  obtain⟨a,b,xs,c,d,o,es,ep,e,r⟩:=id g0;have eo:o=op:=by rw[ua]at e;exact(aA e).symm
  subst eo;exact GDh.ok ⟨a,b,xs,c,d,o,es,ep,old _ _ jr,r⟩)
 have kJ:D0∉U0 X.stack:=fun z=>by
  rcases av.mp (I2.stkSub _ z)with e |e
  ·have:=I2.lt;rw[<-e,hDe]at this;exact aS _ this
  ·exact I2.nofs (by rw[hDe];exact ao _) e
 have kK:∀x c,(S7 X.env scope.names []).lookup x=some c->c≠D0:=fun x c h z=>by
  obtain⟨v,q⟩:=I2.cell x c (X9 I2 B h);have:=q.lt;rw[z,hDe]at this;exact aS _ this
 have gk:∀{pb:Pn9} {σ':S5}{H':Hp}{s':Ae}{ys:Array Ad}{n:Nat},A1 (blk X scope C s2 H2 fp [mk,x]) pb σ' H' s'->H' D0=none->s'.heap.get? D0=some {cls:=.type "list",data:=.seq ys n} ->
   A1 (blk X scope C s2 H2 fp [mk,x]) [(D0,{cls:=.type "list",data:=.seq ys n})] σ' H' s':=by
  intro pb σ' H' s' ys n I' n' e;refine I'.pins_of fun a hp=>?_;have e':a=(D0,{cls:=.type "list",data:=.seq ys n}):=by simpa using hp
  subst e';exact⟨e,n',ee,kJ,fun v z=>by cases z⟩
 have gS:∀{H':Hp}{ob:Obj},(∀b∈lp,H' b=none)->∀b∈lp,J5 (blk X scope C s2 H2 fp [mk,x]) [(D0,ob)] H' b:=by
  intro H' ob hn b hb;have iN:=jE b hb;refine⟨hn b hb,(ax (ay (dU b iN) cO)),fun z=>?_,.inl iN,fun x c h=>(f2 b iN).2.2.2.2.1 x c (X9 I2 B h),fun a hp=>?_⟩
  ·rcases av.mp (I2.stkSub b z)with e |e
   ·exact(f2 b iN).2.1 e
   ·exact(f2 b iN).2.2.1 e
  ·have e':a=(D0,ob):=by simpa [blk]using hp
   subst e';exact(ax (dU b iN)).symm
 let jx:Nat->Ae->Prop:=fun k s'=>∃(n:Nat) (σ':S5) (H':Hp) (ks:M (D×Af)) (ys:Array Ad) (nn:Nat) (vs:M V) (es:M Int),A1 (blk X scope C s2 H2 fp [mk,x]) [(D0,{cls:=.type "list",data:=.seq ys nn})] σ' H' s'/\σ'[1]?=some (some (V.ref p))/\A4 H2 H'/\tn n s'.heap /\
  (∀b∈lp,H' b=none)/\H' D0=none/\H' p=some (gD X p ks)/\(∀y∈ks,U1 8 y.1=true/\A3 X.K H' y.1 (.ref y.2))/\ks.length<=n/\C4 vs ys.toList/\vs=es.map V.int/\n<=ds.length/\k=ds.length-n/\es.length=n/\es++Q1w (ks.map (·.1)) (ds.drop n)=Q1w [] ds
 have loop:∀s₃:Ae,s₃={s2 with heap:=h₁,toks:=s2.toks+([]:M (Str×Ad)).length} ->
   codeAny ?C X.A (.compLoop (.ListComp (Q9g mk x o1 o2 o3 apos bV q3 q5) [⟨.Name mk p1,iter,[],0⟩] scope pos) 0 (.ref it) (.ref D0) (compEnvC scope (S7 X.env scope.names []) C X.env))
    (compPost ?C X.A X.xe none (EP X af σ Q) (.ref D0) C) s₃:=by
  rintro s₃ rfl;obtain⟨nn,ho⟩:=id dX;refine Z4s jx ?_ ds.length ⟨0,_,A6 H2 p (gD X p []),[],#[],nn,[],[],gk ye (by rw[A7 uk];exact iP) ho,(by show([none]++[(σ[i]?).join]:S5)[1]?=_;rw[hσ];rfl),K2 kW _,fx,fun b hb=>by rw[A7 (vL b hb)];exact(p7 b hb).1,by rw[A7 uk];exact iP,upd_same,(by intro y hy;cases hy),ao _,.nil,rfl,bz _,rfl,rfl,by simp⟩;rintro k s3 ⟨n,σ3,H3,ks,ys,nn,vs,es,I3,u8,jc,gn,gE,d3,wF,se,yK,lG,pX,yG,rfl,lT,w3⟩
  by_cases bU:n<ds.length
  ·refine aE (T.item (blk X scope C s2 H2 fp [mk,x]) rfl rfl rfl hc n _ s3 σ3 H3 (fun _ _=>False) I3 (gS gE) gn (yl.go H3 jc n bU)) (fun r s4 bG=>?_) fun _ _ z=>z;obtain⟨u,hr,h4⟩:=bG;subst hr;refine aE h4 (fun _ s5 bG=>?_) fun _ _ z=>z;obtain⟨v5,H5,I5,r5,y5,fk,jl⟩:=bG;obtain⟨gV,ix⟩:=yl.yld H3 jc n v5 H5 _ (ac bU) y5;rw[bJ bU]at w3;have jm:=I5.pinned (gS jl) (T.obj _ _ fk);obtain⟨kd,l,ed⟩:=wP ds[n] (aY bU);obtain⟨a5,e5⟩:∃a,v5=.ref a:=by
    have tZ:A3 X.K H5 (.tup l) v5:=ed▸ix;unfold A3 at tZ;obtain⟨a,_,e,_⟩:=tZ;exact⟨a,e⟩
   subst e5;refine aE (hg C s2 H2 fp _ s5 σ3 H5 (.ref a5) u (fun σ6 H6=>σ6=σ3.set 0 (some (.ref a5))/\H6=H5) jm r5 ⟨rfl,rfl⟩) (fun _ s6 bG=>?_) fun _ _ z=>z;obtain⟨σ6,H6,I6,e6,xU⟩:=bG;subst e6 xU;refine dR ?_;rw[aQ rfl];have yJ:σ3.length=2:=I3.len;have rQ:H6 p=some (gD X p ks):=gV _ _ wF;have pR:∀y∈ks,U1 8 y.1=true/\A3 X.K H6 y.1 (.ref y.2):=fun y hy=>⟨(se y hy).1,(se y hy).2.mono (Kp.of gV) _ _⟩
   let R7:V->Hp->Prop:=fun v H7=>∃kf,H7 p=some (gD X p kf)/\(∀y∈kf,U1 8 y.1=true/\A3 X.K H7 y.1 (.ref y.2))/\kf.length<=n+1/\(∀b u,b≠p->H6 b=some u->H7 b=some u)/\Kp H6 H7/\v=.int (((ks.map (·.1)).idxOf ds[n]:Nat):Int)/\kf.map (·.1)=Y2 (ks.map (·.1)) ds[n];refine aE (he C s2 H2 fp _ s6 _ H6 R7 I6 ⟨p,ks,ds[n],a5,by rw[aL (?K)];exact u8,rQ,by rw[b9 (by lia)],ix,kd,pR,by lia,fun kh=>?_,fun oo=>?_⟩) (fun y s8 ⟨v8,H8,I8,kG,kf,wE,wR,wL,vD,yE,xP,xR⟩=>?_) fun _ _ z=>z
   ·exact⟨ks,rQ,pR,by lia,fun _ _ _ q=>q,Kp.refl _,rfl,by unfold Y2;rw[aQ kh]⟩
   ·have kp:Kp H6 (A6 H6 p (gD X p (ks++[(ds[n],a5)]))):=Q0r rQ (by intro xs z;cases z) (by intro o u z;cases z) _;refine⟨ks++[(ds[n],a5)],upd_same,fun y hy=>?_,by rw[aC];show ks.length+1<=_;lia,fun b u hb q=>by rw[A7 hb];exact q,kp,?_,?_⟩
    ·rcases aH.mp hy with z |z
     ·exact⟨(pR y z).1,(pR y z).2.mono kp _ _⟩
     ·rw[aG.mp z];exact⟨kd,ix.mono kp _ _⟩
    ·rw[qq oo,ag]
    ·unfold Y2;rw[aI oo,bA];rfl
   ·have pd:=I8.pin (D0,_) (ai _ (aV _ am));obtain⟨o8,d8,_⟩:=pd;have nY:ys.size<=sizeLine:=by
     have e1:=lG.length;have e4:ys.toList.length=ys.size:=by simp
     have e5:vs.length=n:=by rw[pX,ag,lT]
     lia
    refine dZ (hsz:=nY) ⟨nn,o8⟩ fun h₅ ot mv=>?_;have n8:A1 (blk X scope C s2 H2 fp [mk,x]) (V1 lp s5.heap) (σ3.set 0 (some (.ref a5))) H8 s8:=I8.pins_of fun a ha=>I8.pin a (ai _ (ai _ ha));have I9:A1 (blk X scope C s2 H2 fp [mk,x]) (V1 lp s5.heap) (σ3.set 0 (some (.ref a5))) H8 {s8 with heap:=h₅}:=by
     refine n8.turned (t':=s8.toks) (it:=D0) (fun b o hb e=>(mv.2 b hb).trans e) d8 ee (.inr (by rw[<-hDe];exact ao _)) kK (fun a hp z=>?_);obtain⟨q1,_⟩:=Q6b (by simpa [blk]using hp);exact ax (dU _ (jE _ q1)) z
    obtain⟨nT,o9⟩:=ot;have kA:tn (n+1) h₅:=T.keep _ _ _ fk fun b hb o e=>(I9.pin (b,o) (ai _ (Q0k hb e))).1;refine⟨ds.length-(n+1),by lia,n+1,_,H8,kf,_,nT,vs++[v8],es++[(((ks.map (·.1)).idxOf ds[n]:Nat):Int)],gk I9 d8 o9,by rw[aL (?K)];exact u8,fun b u q=>?_,kA,fun b hb=>?_,d8,wE,wR,wL,?_,?_,bU,rfl,by rw[aC,lT];rfl,?_⟩
    ·have nb:b≠p:=fun z=>by rw[z,kW]at q;cases q
     exact vD b u nb (gV _ _ (jc _ _ q))
    ·obtain⟨o,e,_⟩:=T.obj _ _ fk b hb;exact(I9.pin (b,o) (ai _ (Q0k hb e))).2.1
    ·have:(ys.push y).toList=ys.toList++[y]:=by simp
     rw[this];exact lG.append (.cons kG .nil)
    ·rw[pX,xP,bA];rfl
    ·rw[<-w3,Q1w,xR,bt];rfl
  ·have e:n=ds.length:=by lia
   subst e;refine aE (T.done (blk X scope C s2 H2 fp [mk,x]) rfl rfl rfl hc ds.length _ s3 σ3 H3 (fun _ _=>False) I3 (gS gE) gn (yl.stop H3 jc)) (fun r s4 bG=>?_) fun _ _ z=>z;obtain⟨hr,I4⟩:=bG;subst hr;have o4:=(I4.pin (D0,_) (ai _ am)).1;rw[cF]at w3;have w3:es++[]=Q1w [] ds:=w3;rw[b8]at w3;obtain⟨m4,kZ,_⟩:=id I4.loc;refine⟨m4,kZ,fun h' sb=>?_⟩;have rM:vs.length<=sizeLine:=by rw[pX,ag,lT];exact hz
   refine⟨.ref D0,_,Y2g I2 I4 f2 (by rw[hDe];exact cO) (by rw[hDe];exact ao _) ee d3 ⟨nn,o4⟩ lG rM sb,rfl,hq _ _ (dG.trans (jc.trans (K2 d3 _))) ⟨D0,vs,rfl,dG.free iP,upd_same,?_⟩⟩;rw[pX,<-w3];exact AllS.ints
 exact gG (loop _ rfl) (T.self _ 0 _ _ _ fx (loop _ rfl))
variable {sp ma dp rp:Pos}
def B6.unset (hR:B6 K H0 τ σ H)(i:Nat)(v:V):B6 K H0 (τ.set i none) (σ.set i (some v)) H:=by
 have at_:∀(j:Nat) (t:Sl),(τ.set i none)[j]?=some (some t)->j≠i/\τ[j]?=some (some t):=fun j t e=>by
  by_cases z:j=i
  ·subst z;rw[List.getElem?_set_self' ]at e;cases q:τ[j]? with
   |none=>rw[q]at e;cases e
   |some w=>rw[q]at e;cases e
  ·rw[aL (bY z)]at e;exact⟨z,e⟩
 refine⟨by rw[bB,bB];exact hR.len,hR.same,fun j t e=>?_,fun j k t u w dO e2 e3 m1 m2 q1 q2=>?_⟩
 ·obtain⟨z,e⟩:=at_ j t e;obtain⟨w,q,r⟩:=hR.here j t e;exact⟨w,by rw[aL (bY z)];exact q,r⟩
 ·obtain⟨z1,e2⟩:=at_ j t e2;obtain⟨z2,e3⟩:=at_ k u e3;rw[aL (bY z1)]at q1;rw[aL (bY z2)]at q2;exact hR.apart j k t u w dO e2 e3 m1 m2 q1 q2
noncomputable def Z9i (i:Nat)(wi:T5):WS:=fun E τ=>i<τ.length/\wi (τ.set i none) fun ds=>ds.length<=sizeLine/\(∀d∈ds,U1 8 d=true/\∃l,d=.tup l)/\E.rt (.nw ((Q1w [] ds).map .int))
def W2i (hc:X.calm=true)(hu:X.A.units+9<cLine)(B:Blk X scope [mk,x] 1 [i])(hi:L0 X H0 (.Name mk p1) iter wi)
  (hg:∀C s H fp,PG (blk X scope C s H fp [mk,x]) (.Name mk p1) (Z1e 0)) (he:∀C s H fp,PE (blk X scope C s H fp [mk,x]) (Q9g mk x o1 o2 o3 apos bV q3 q5) (Z8q X 1 0))
  (hN:X.N.Nodup) (oA:X.N[i]?=some x) (hx:Loc X.env.scope x) (hf:?J:=by first |exact .inl rfl |exact .inr rfl |assumption)
  (hs:∀x,foldedSetIterable iter X.env x=pure x:=by intro _;rfl) (kO:swapsWith (.Dict [] [] dp) (some (.Name x ma)) sp.line X.env=pure false:=by rfl):
  A8 X H0 [.Assign [.Name x ma] (.Dict [] [] dp) sp,.Return (some (.ListComp (Q9g mk x o1 o2 o3 apos bV q3 q5) [⟨.Name mk p1,iter,[],0⟩] scope pos)) rp] (Z9i i wi) where
 mono:=fun τ E F le h=>⟨h.1,hi.mono _ _ _ (fun ds⟨a,b,c⟩=>⟨a,b,le.rt _ c⟩) h.2⟩
 ps:=Q9m (Z2e (Q6d hN oA hx V1q kO hf) (Y7o (Z7c (V1z hc hu B hi hg he hs)))) fun D σ H de p hp og=>by
  obtain⟨τ,hR,h⟩:=de;have hl:i<σ.length:=by rw[<-hR.len];exact h.1
  refine⟨p,H,τ.set i none,by rw[b9 hl],rfl,hp,og,hR.unset i _,hi.mono _ _ _ (fun ds ⟨a,b,c⟩=>⟨a,b,fun v H' sm ir=>?_⟩) h.2⟩;exact c v H' (hR.same.trans sm) (ir.older hR.same)
@[simp] theorem V5l {E:J4}:Z9i i wi E τ=(i<τ.length/\wi (τ.set i none) fun ds=>ds.length<=sizeLine/\(∀d∈ds,U1 8 d=true/\∃l,d=.tup l)/\E.rt (.nw ((Q1w [] ds).map .int))):=rfl
end
def Q6 (K:Fg9)(a:Af)(kvs:M (B0×D)):Hp->Prop:=fun H=>∃o ps,H a=some (.frz o (.dK ps))/\C9 K H kvs ps
def Q6.mono {kvs:M (B0×D)}:Q6r (Q6 K a kvs):=fun H H' k⟨o,ps,h,q⟩=>⟨o,ps,k.frz _ _ _ h,q.mono k _ _⟩
def Y4h {ps:M (B0×V)}(I:?B)(h:H a=some (.dK ps)):∃o,A1 X af σ (A6 H a (.frz o (.dK ps))) s:=by
 have ok:=I.hok a _ h;obtain⟨_,_,_,_,o,_,_,q,_⟩:=id (show ObjOk X.prog X.w H s.heap a (.dK ps)from ok);refine⟨o,I.write (t':=s.toks) (h':=s.heap) (e:=a) (o:=.frz o (.dK ps)) (by rw[h];trivial) (.inl rfl) (fun b u _ k=>k) ⟨_,q⟩ ⟨q,?_⟩⟩;exact ok
def B6.freezeK {i:Nat}{kvs:M (B0×D)}  {ps:M (B0×V)}(hR:B6 K H0 τ σ H)(e1:τ[i]?=some (some (.dk kvs)))(hv:σ[i]?=some (some (.ref a)))(h0:H0 a=none)(sq:H a=some (.dK ps))(kv:C9 K H kvs ps):
  B6 K H0 (τ.set i (some (.cl a (Q6 K a kvs)))) σ (A6 H a (.frz o (.dK ps))):=by
 have kp:Kp H (A6 H a (.frz o (.dK ps))):=Q0r sq (by intro xs z;cases z) (by intro o u z;cases z) _;exact hR.mutG e1 rfl hv h0 sq (by intro xs z;cases z) (by intro o u z;cases z) ⟨rfl,⟨o,ps,upd_same,kv.mono kp _ _⟩,Q6.mono⟩
section
variable {w:WS}
theorem Z7b {t:TS}(h:PS X st t):PS X st (fun D σ H=>t {D with nx:=fun σ' H'=>∀af s,A1 X af σ' H' s->∃fz,A1 X af σ' fz s/\D.nx σ' fz} σ H):=by
 intro af s σ H D I q;refine B3 (h af s σ H _ I q) fun f s1 q1=>?_;cases f with
 |next=>
  obtain⟨σ',H',I',q2⟩:=q1;obtain⟨fz,yf,q3⟩:=q2 af s1 I';exact⟨σ',fz,yf,q3⟩
 |brk=>exact q1
 |cont=>exact q1
 |ret v=>exact q1
def Z9e (K:Fg9)(i:Nat)(w:WS):WS:=fun E τ=>w {E with nx:=fun τ'=>∃kvs,τ'[i]?=some (some (.dk kvs))/\∀a,E.nx (τ'.set i (some (.cl a (Q6 K a kvs))))} τ
def W1y (i:Nat)(h:DS X H0 st w):DS X H0 st (Z9e X.K i w) where
 mono:=fun τ E F le q=>h.mono τ {E with nx:=fun τ'=>∃kvs,τ'[i]?=some (some (.dk kvs))/\∀a,E.nx (τ'.set i (some (.cl a (Q6 X.K a kvs))))} {F with nx:=fun τ'=>∃kvs,τ'[i]?=some (some (.dk kvs))/\∀a,F.nx (τ'.set i (some (.cl a (Q6 X.K a kvs))))} ⟨fun τ'⟨kvs,e,q⟩=>⟨kvs,e,fun a=>le.nx _ (q a)⟩,le.rt,le.bk,le.ct⟩ q
 ps:=U2 (Z7b h.ps) fun D σ H ⟨τ,hR,q⟩=>⟨τ,hR,h.mono τ {P0 X.K H0 H D with nx:=fun τ'=>∃kvs,τ'[i]?=some (some (.dk kvs))/\∀a,(P0 X.K H0 H D).nx (τ'.set i (some (.cl a (Q6 X.K a kvs))))} _ ⟨fun τ' eI σ' H' kp eO af s I=>by
  obtain⟨kvs,e,q⟩:=eI;obtain⟨a,ps,hv,h0,sq,kv⟩:=eO.dkAt e;obtain⟨o,I2⟩:=Y4h I sq;exact⟨_,I2,q a σ' _ (kp.trans (Q0r sq (by intro xs z;cases z) (by intro o u z;cases z) _)) (eO.freezeK e hv h0 sq kv)⟩,fun _ h=>h,fun _ h=>h,fun _ h=>h⟩ q⟩
end
section
variable {a b o:Ag}{p2:Pos}{i:Nat}
def Z9k (K:Fg9)(i:Nat):WS:=fun E τ=>∃kvs,τ[i]?=some (some (.dk kvs))/\∀a,E.rt (.cl a (Q6 K a kvs))
def W2d (he:PE X e (S9 i)):DS X H0 (.Return (some e) pos) (Z9k X.K i) where
 mono:=fun τ E F le⟨kvs,e1,q⟩=>⟨kvs,e1,fun a=>le.rt _ (q a)⟩
 ps:=by
  intro af s σ H D I ⟨τ,hR,kvs,e1,q⟩;obtain⟨a,ps,hv,h0,sq,kv⟩:=hR.dkAt e1;refine ku (B3 (he af s σ H (fun v H1=>v=.ref a/\H1=H) I ⟨_,hv,rfl,rfl⟩) fun u s1 bG=>?_);obtain⟨v,H1,I1,rv,ev,eH⟩:=bG;subst ev eH;obtain⟨ob,I2⟩:=Y4h I1 sq;have kp:Kp H1 (A6 H1 a (.frz ob (.dK ps))):=Q0r sq (by intro xs z;cases z) (by intro o u z;cases z) _;refine⟨.ref a,σ,_,I2,rv,q a _ _ (fun b ob hb=>?_) ⟨rfl,⟨ob,ps,upd_same,kv.mono kp _ _⟩,Q6.mono⟩⟩;rw[A7 (V0 hb h0)];exact hR.same _ _ hb
def Z9m (i:Nat)(we:WE):WS:=fun E τ=>we τ fun r=>∃a Φ,r=.cl a Φ/\E.nx (τ.set i (some (.cl a Φ)))
def W2f (he:DE X H0 e we)(hN:X.N.Nodup)(hi:X.N[i]?=some x)(hx:Loc X.env.scope x)(hs:swapsWith e (some (.Name x cn)) pos.line X.env=pure false:=by rfl)
  (hf:?J:=by first |exact .inl rfl |exact .inr rfl |assumption):DS X H0 (.Assign [.Name x cn] e pos) (Z9m i we) where
 mono:=fun τ E F le h=>he.mono τ _ _ (fun r⟨a,Φ,e1,q⟩=>⟨a,Φ,e1,le.nx _ q⟩) h
 ps:=U2 (Q6d hN hi hx he.pe hs hf) fun D σ H ⟨τ,hR,h⟩=>⟨τ,hR,he.mono τ _ _ (fun r gu v H1 s1 ir=>by
  obtain⟨a,Φ,e1,q⟩:=gu;subst e1;exact q _ _ (Kp.of s1) ((hR.mono s1).set (s:=.cl a Φ) ir fun m=>by cases m)) h⟩
def B6.fkAt {a:Af}{kvs:M (B0×D)}(hR:B6 K H0 τ σ H)(e1:τ[i]?=some (some (.cl a (Q6 K a kvs)))):σ[i]?=some (some (.ref a))/\∃o ps,H a=some (.frz o (.dK ps))/\C9 K H kvs ps:=by
 obtain⟨v,hv,rfl,q,_⟩:=hR.here i _ e1;exact⟨hv,q⟩
def Z3e (K:Fg9)(i:Nat)(we:WE):WE:=fun τ Q=>∃a kvs,τ[i]?=some (some (.cl a (Q6 K a kvs)))/\we τ fun r=>∃kd k d,r=.st kd/\N9 kd=some k/\F4 kvs k=some d/\Q (.st d)
def Y0i (hu:X.A.units+1<cLine)(ho:PE X o (S9 i))(he:DE X H0 e we)(hs:Q8k e):DE X H0 (.Subscript o e pos) (Z3e X.K i we) where
 mono:=fun τ P Q f jR=>(by obtain⟨a,kvs,e1,h⟩:=jR;exact⟨a,kvs,e1,he.mono τ _ _ (fun r jQ=>(by obtain⟨ds,ks,d,a1,a2,a3,a4⟩:=jQ;exact⟨ds,ks,d,a1,a2,a3,f _ a4⟩)) h⟩)
 pe:=Q9 (Z6y hu ho he.pe hs) fun σ H Q mC=>by
  obtain⟨τ,hR,a,kvs,e1,h⟩:=mC;obtain⟨hv,ob,ps,sq,kv⟩:=hR.fkAt e1;refine⟨_,hv,τ,hR,he.mono τ _ _ (fun r rH v H1 s1 ir=>?_) h⟩;obtain⟨kd,k,d,a1,a2,a3,a4⟩:=rH;subst a1;cases Q4p a2 (show A3 X.K H1 kd v from ir);rcases C9.val (k:=k) (kv.mono (Kp.of s1) _ _)with⟨n1,_⟩ |⟨d',v',n1,n2,n3⟩
  ·rw[a3]at n1;cases n1
  ·rw[a3]at n1;cases n1;exact⟨a,v',rfl,.inl ⟨ps,k,.inr ⟨ob,s1 _ _ sq⟩,rfl,n2.symm⟩,a4 _ _ s1 n3⟩
def Z9d (K:Fg9)(i:Nat)(we:WE):WE:=fun τ Q=>∃a kvs,τ[i]?=some (some (.cl a (Q6 K a kvs)))/\we τ fun r=>∃kd k,r=.st kd/\N9 kd=some k/\Q (.st ((F4 kvs k).getD .non))
def W1q (hu:X.A.units+1<cLine)(ho:PE X o (S9 i))(he:DE X H0 e we)(m:M1 X o "get" apos e bV):DE X H0 (.Call (.Attribute o "get" apos) [e] [] bV) (Z9d X.K i we) where
 mono:=fun τ P Q f kT=>(by obtain⟨a,kvs,e1,h⟩:=kT;exact⟨a,kvs,e1,he.mono τ _ _ (fun r⟨ds,ks,a1,a2,a4⟩=>⟨ds,ks,a1,a2,f _ a4⟩) h⟩)
 pe:=Q9 (V1o hu ho he.pe m) fun σ H Q jT=>by
  obtain⟨τ,hR,a,kvs,e1,h⟩:=jT;obtain⟨hv,ob,ps,sq,kv⟩:=hR.fkAt e1;refine⟨_,hv,a,rfl,.inl ⟨ps,.inr ⟨ob,sq⟩⟩,τ,hR,he.mono τ _ _ (fun r rG v H1 s1 ir=>?_) h⟩;obtain⟨kd,k,a1,a2,a4⟩:=rG;subst a1;cases Q4p a2 (show A3 X.K H1 kd v from ir);refine⟨_,.inl ⟨ps,k,.inr ⟨ob,s1 _ _ sq⟩,rfl,rfl⟩,a4 _ _ s1 ?_⟩;rcases C9.val (k:=k) (kv.mono (Kp.of s1) _ _)with⟨n1,n2⟩ |⟨d',v',n1,n2,n3⟩
  ·rw[n1,n2];exact Q8i (K:=X.K) (H:=H1)
  ·rw[n1,n2];exact n3
def Z9g (i:Nat):WS:=fun E τ=>E.nx (τ.set i (some (.dk [])))
def W1z (hN:X.N.Nodup)(hi:X.N[i]?=some x)(hx:Loc X.env.scope x)(hs:swapsWith (.Dict [] [] p2) (some (.Name x cn)) pos.line X.env=pure false:=by rfl)
  (hf:?J:=by first |exact .inl rfl |exact .inr rfl |assumption):DS X H0 (.Assign [.Name x cn] (.Dict [] [] p2) pos) (Z9g i) where
 mono:=fun τ E F le h=>le.nx _ h
 ps:=U2 (Q6d hN hi hx V1r hs hf) fun D σ H gO p hp=>by
  obtain⟨τ,hR,h⟩:=gO;have sm:A4 H (A6 H p (.dK [])):=K2 hp _;refine h _ _ (Kp.of sm) ((hR.mono sm).set (s:=.dk []) ⟨p,[],rfl,hR.same.free hp,upd_same,rfl⟩ fun _ j t hj e m q=>?_);obtain⟨o,ho⟩:=hR.tracked e m q;rw[hp]at ho;cases ho
def Z3h (i:Nat)(we wv:WE):WS:=fun E τ=>i<τ.length/\we τ fun rk=>∃kd k,rk=.st kd/\N9 kd=some k/\wv τ fun r=>∃d,r=.st d/\E.nx (τ.set i (some (.dk [(k,d)])))
def Y0o {v:Ag}(he:DE X H0 e we)(hv:DE X H0 v wv)(hN:X.N.Nodup)(hi:X.N[i]?=some x)(hx:Loc X.env.scope x)(hs:swapsWith (.Dict [some e] [v] p2) (some (.Name x cn)) pos.line X.env=pure false:=by rfl)
  (hf:?J:=by first |exact .inl rfl |exact .inr rfl |assumption):DS X H0 (.Assign [.Name x cn] (.Dict [some e] [v] p2) pos) (Z3h i we wv) where
 mono:=fun τ E F le h=>⟨h.1,he.mono τ _ _ (fun r iM=>(by obtain⟨ds,ks,a1,a2,h⟩:=iM;exact⟨ds,ks,a1,a2,hv.mono τ _ _ (fun r⟨d,b1,b2⟩=>⟨d,b1,le.nx _ b2⟩) h⟩)) h.2⟩
 ps:=U2 (Q6d hN hi hx (Y6z (Y7k he.pe hv.pe Y7l) rfl rfl ?G ?G) hs hf) fun D σ H hq15 p hp=>by
  obtain⟨τ,hR,hl,h⟩:=hq15;have sm:A4 H (A6 H p (.dK [])):=K2 hp _;have fY:=hR.mono sm;refine⟨τ,fY,he.mono τ _ _ (fun rk rF y H1 s1 ik=>?_) h⟩;obtain⟨kd,k,a1,a2,h⟩:=rF;subst a1;have eK:=fY.mono s1;refine⟨τ,eK,hv.mono τ _ _ (fun r rE u H2 s2 iv=>?_) h⟩;obtain⟨d,b1,b2⟩:=rE;subst b1;cases Q4p a2 (show A3 X.K H1 kd y from ik);have ep:=s2 _ _ (s1 _ _ (upd_same (H:=H) (a:=p) (o:=.dK [])));refine⟨ep,[(k,u)],rfl,by simp,?_⟩;have e1:Q3w [] [(k,u)]=[(k,u)]:=rfl;rw[e1];have kp:Kp H2 (A6 H2 p (.dK [(k,u)])):=Q0r ep (by intro xs z;cases z) (by intro o u z;cases z) _;have k7:=eK.mono s2;have h0:H0 p=none:=hR.same.free hp;have r6:Kp H (A6 H2 p (.dK [(k,u)])):=(Kp.of ((sm.trans s1).trans s2)).trans kp;have kh:∀(j:Nat) (t:Sl),τ[j]?=some (some t)->t.mut=true->σ[j]?≠some (some (.ref p)):=fun j t e m q=>by
   obtain⟨o,ho⟩:=hR.tracked e m q;rw[hp]at ho;cases ho
  have kn:B6 X.K H0 (τ.set i (some (.dk []))) (σ.set i (some (.ref p))) H2:=k7.set (s:=.dk []) ⟨p,[],rfl,h0,ep,rfl⟩ fun _ j t hj e m q=>kh j t e m q;have g1:(τ.set i (some (.dk [])))[i]?=some (some (.dk [])):=b9 hl;have g2:(σ.set i (some (V.ref p)))[i]?=some (some (.ref p)):=b9 (by rw[<-hR.len];exact hl);have lW:=kn.mutG (s':=.dk [(k,d)]) (new:=.dK [(k,u)]) g1 rfl g2 h0 ep (by intro xs z;cases z) (by intro o u z;cases z) ⟨p,[(k,u)],rfl,h0,upd_same,⟨u,[],rfl,A3.mono kp _ _ iv,rfl⟩⟩;rw[List.set_set]at lW;exact b2 _ _ r6 lW
def Z3j (i:Nat)(we wv:WE):WS:=fun E τ=>∃kvs,τ[i]?=some (some (.dk kvs))/\we τ fun rk=>∃kd k,rk=.st kd/\N9 kd=some k/\wv τ fun r=>∃d,r=.st d/\kvs.length<sizeLine /\
 E.nx (if (F4 kvs k).isSome=true then τ else τ.set i (some (.dk (kvs++[(k,d)]))))
theorem V1u {f:Ag}{tx:TE}(ho:PE X o td)(he:PE X e ty)(hf:PE X f tx)(m:M2 X o "setdefault" apos e f bV):PE X (.Call (.Attribute o "setdefault" apos) [e,f] [] bV)
  (fun σ H Q=>td σ H fun x H1=>∃a qI,x=.ref a/\H1 a=some (.dK qI)/\ty σ H1 fun y H2=>tx σ H2 fun z H3=>∃ps k,H3 a=some (.dK ps)/\y=kV k/\ps.length<sizeLine/\(∀v,T1 ps k=some v->Q v H3)/\(T1 ps k=none->Q z (A6 H3 a (.dK (P8 ps k z))))):=by
 intro af s σ H Q I h;refine g6 m.base m.few m.line fC cK jB (B3 (ho af s σ H _ I h) fun u s1 bG=>?_);obtain⟨x,H1,I1,rx,a,qI,ex,ea,q1⟩:=bG;subst ex;obtain rfl:u=Value.ref a:=rx;obtain⟨t1,t2,_⟩:=Y4l I1 (.inl ⟨qI,.inl ea⟩);refine⟨t1,t2,?_⟩;rw[m.trees];refine cS rfl (cB (bR (B3 (he af s1 σ H1 _ I1 q1) fun iv s2 ⟨y,H2,I2,ry,q2⟩=>
  bR (B3 (hf af s2 σ H2 _ I2 q2) fun fv s3 ⟨z,H3,I3,rz,ps,k,e3,ey,hz,g1,g2⟩=>cG ?_))))
 subst ey;obtain⟨z0,hd,vs,rel,dd⟩:=Z0y I3.hok e3;have el:vs.length=ps.length:=by rw[<-rel.length]
 have rv:=rel.val k;refine yV cK dd.typeIs jn (j0 _ _ _) (kt_meets_setdefault (M8 X.prog X.w) a (Q4o ry) hd fv) ⟨vs,dd,by lia,fun v hv=>?_,fun hn h' jv hs=>?_⟩
 ·rw[hv]at rv;cases ev:T1 ps k with
  |none=>rw[ev]at rv;exact rv.elim
  |some w=>rw[ev]at rv;exact⟨w,H3,I3.tok _,rv,g1 w ev⟩
 ·rw[hn]at rv;cases ev:T1 ps k with
  |some w=>rw[ev]at rv;exact rv.elim
  |none=>
   have he:∃q,h'.get? a=some q:=let ⟨q,_,_,hq,_⟩:=jv;⟨q,hq⟩;have hl:(P8 ps k z).length<=sizeLine:=by have:=Q8z ps k z;lia
   exact⟨z,_,Q5p I3 (by rw[e3];exact True.intro) hs he (Z4x hl hd (rel.put k rz) jv),rz,g2 ev⟩
theorem V8b [DecidableEq κ]:∀{kvs:M (κ×D)}{k:κ},F4 kvs k=none->(kvs.any fun kv=>decide (kv.1=k))=false:=by simp[F4,bp,dm]<;>lia
def W2c {v:Ag}(ho:PE X o (S9 i))(he:DE X H0 e we)(hv:DE X H0 v wv)(m:M2 X o "setdefault" apos e v bV):DS X H0 (.Expr (.Call (.Attribute o "setdefault" apos) [e,v] [] bV) pos) (Z3j i we wv) where
 mono:=fun τ E F le hq16=>(by obtain⟨kvs,e1,h⟩:=hq16;exact⟨kvs,e1,he.mono τ _ _ (fun r mG=>(by obtain⟨kd,k,a1,a2,h⟩:=mG;exact⟨kd,k,a1,a2,hv.mono τ _ _ (fun r⟨d,b1,b2,b3⟩=>⟨d,b1,b2,le.nx _ b3⟩) h⟩)) h⟩)
 ps:=U2 (Z7a (V1u ho he.pe hv.pe m)) fun D σ H mE=>by
  obtain⟨τ,hR,kvs,e1,h⟩:=mE;obtain⟨a,ps,jO,h0,sq,kv⟩:=hR.dkAt e1;refine⟨_,jO,a,ps,rfl,sq,τ,hR,he.mono τ _ _ (fun rk rC y H1 s1 ik=>?_) h⟩;obtain⟨kd,k,a1,a2,h⟩:=rC;subst a1;have fY:=hR.mono s1;refine⟨τ,fY,hv.mono τ _ _ (fun r rB u H2 s2 iv=>?_) h⟩;obtain⟨d,b1,b2,b3⟩:=rB;subst b1;have eK:=fY.mono s2;have gh:=s2 _ _ (s1 _ _ sq);have ke:=(kv.mono (Kp.of s1) _ _).mono (Kp.of s2) _ _;refine⟨ps,k,gh,Q4p a2 (show A3 X.K H1 kd y from ik),by rw[<-C9.length ke];exact b2,fun v hv=>?_,fun hn=>?_⟩
  ·rcases C9.val (k:=k) ke with⟨n1,n2⟩ |⟨d',v',n1,n2,n3⟩
   ·rw[hv]at n2;cases n2
   ·rw[n1]at b3;have b3:(P0 X.K H0 H D).nx τ:=b3;exact b3 _ _ (Kp.of (s1.trans s2)) eK
  ·rcases C9.val (k:=k) ke with⟨n1,n2⟩ |⟨d',v',n1,n2,n3⟩
   ·rw[n1]at b3;have b3:(P0 X.K H0 H D).nx (τ.set i (some (.dk (kvs++[(k,d)])))):=b3;have kp:Kp H2 (A6 H2 a (.dK (P8 ps k u))):=Q0r gh (by intro xs z;cases z) (by intro o u z;cases z) _;have ek:O5 kvs k d=kvs++[(k,d)]:=by unfold O5;rw[aI (by rw[V8b n1];simp)]
    refine b3 _ _ ((Kp.of (s1.trans s2)).trans kp) (eK.mutG e1 rfl jO h0 gh (by intro xs z;cases z) (by intro o u z;cases z) ⟨a,_,rfl,h0,upd_same,?_⟩);rw[<-ek];exact C9.mono kp _ _ (C9.put iv ke)
   ·rw[hn]at n2;cases n2
end
def Y2h {s2 s1:Ae}  {C:Af}      {u0:HO}
  (I2:A1 X af σ H2 s2) (Ib:A1 ?H pb σ' H' s1) (f2:∀b∈fp,J5 X af H2 b) (hC:s2.heap.objs.size<=C) (hD:s2.heap.objs.size<=D0) (sP:H' D0=none)
  (sb:Heap.SameBut C s1.heap h') (new:ObjOk X.prog X.w (A6 H' D0 u0) h' D0 u0):A1 X af σ (A6 H' D0 u0) {s1 with heap:=h'}:=by
 have jK:∀b o,s2.heap.get? b=some o->b≠C:=fun b o e=>ax (ay (aw e) hC);have qW:∀b o,s2.heap.get? b=some o->b≠D0:=fun b o e=>ax (ay (aw e) hD);have keep:=Z5m sb;have base:Un (U0 X.stack) fp H2 H' s2.heap s1.heap:=Ib.base;have oX:H' C=none:=Ib.free;have jf:∀b u,H' b=some u->b≠C:=fun b u e z=>by rw[z,oX]at e;cases e
 have L6:∀b u,H' b=some u->b≠D0:=fun b u e z=>by rw[z,sP]at e;cases e
 refine I2.call' (s':={s1 with heap:=h'}) (ch:=fp) Ib.os ⟨fun b o e n hb hx=>keep b o (jK b o e) (base.keep b o e n hb hx),fun b o e n hb hx=>?_,fun b o e n hx=>?_,fun b o e hx=>?_,fun b xs e=>?_,fun b o u e=>?_,fun b ps e=>?_⟩ (fun b u e=>?_) Ib.bare (fun b hb=>?_)
 ·obtain⟨sl,q⟩:=base.slot b o e n hb hx;exact⟨sl,keep b _ (jK b o e) q⟩
 ·rw[A7 (qW b o e)];exact base.free b o e n hx
 ·obtain⟨o',q⟩:=base.there b o e hx;exact⟨o',keep b o' (jK b o e) q⟩
 ·have q:=base.tups b xs e;rw[A7 (L6 b _ q)];exact q
 ·have q:=base.frzs b o u e;rw[A7 (L6 b _ q)];exact q
 ·obtain⟨more,q⟩:=base.tbls b ps e;exact⟨more,by rw[A7 (L6 b _ q)];exact q⟩
 ·by_cases hb:b=D0
  ·subst hb;rw[upd_same]at e;cases e;exact new
  ·rw[A7 hb]at e;refine(Ib.hok b u e).stay (fun c v hc q=>keep c v ?_ q) (fun c u _ q=>by rw[A7 (L6 c _ q)];exact q) fun c xs q=>by rw[A7 (L6 c _ q)];exact q
   rcases hc with z |z
   ·rw[z];exact jf b u e
   ·exact jf c _ z
 ·obtain⟨_,a2,a3,a4,a5,a6⟩:=f2 b hb;exact⟨a4,a2,a5,a6⟩
section
variable {w:Ak}{A:Ah}{RR:Result->Ae->Prop}
theorem W5g {kx vx target:Ag}   {it:Ad}  {env:Env}(I:Nat->Ae->Prop)
  (gb:∀n s,I n s->wpAny (model prog w) A (pyNext it) (fun r s₁=>match r with
   |none=>RR (.ok .next) s₁
   | some v=>wpAny (model prog w) A (letOwnedTupleGo target it v) (fun _ sa=>wpAny (model prog w) A (assign target env v) (fun _ s₃=>
     wpAny (model prog w) A (eval kx env) (fun x s₄=>wpAny (model prog w) A (eval vx env) (fun y s₅=>
       wpAny (model prog w) A (dictSet D0 x y) (fun _ s₆=>∃m,m<n/\I m s₆) (fun _ _=>False) s₅) (fun _ _=>False) s₄) (fun _ _=>False) s₃) (fun _ _=>False) sa) (fun _ _=>False) s₁) (fun _ _=>False) s)
  (n:Nat) (h:I n s):codeAny (model prog w) A (.compLoop (.DictComp kx vx [⟨target,iter,[],0⟩] scope pos) 0 it (.ref D0) env) RR s:=by
 refine lw rfl I (fun n s hI=>?_) n h
 change wpAny (model prog w) A ((compTurn (.DictComp kx vx [⟨target,iter,[],0⟩] scope pos) 0 it (Value.ref D0) env).onRaise (fun x=>do noteFrame x env;theTreesLotGoes x)) _ _ s
 refine nC ?_;rw[compTurn_dict];refine aa (bP (aa (aE (gb n s hI) (fun r s₁ h₁=>?_) fun _ _ h'=>h'.elim)));cases r with
 |none=>exact aj h₁
 |some v=>
  refine aa (aE h₁ (fun _ sa ha=>aa (aE ha (fun _ s₃ h₃=>aa (dR ?_)) fun _ _ h'=>h'.elim)) fun _ _ h'=>h'.elim);exact aa (aa (aE h₃ (fun x s₄ h₄=>aa (bv (aE h₄ (fun y s₅ h₅=>aa (bP (bv (aE h₅ (fun _ s₆ h₆=>aj ⟨rfl,h₆⟩) fun _ _ h'=>h'.elim)))) fun _ _ h'=>h'.elim))) fun _ _ h'=>h'.elim))
end
def Z5 (g:WG)(wk wv:WE):M D->B5->M (B0×D)->(M (B0×D)->Prop)->Prop
 |[],_,kvs,Q=>Q kvs
 |d::ds,τ,kvs,Q=>g d τ fun τ'=>wk τ' fun r=>∃kd k,r=.st kd/\N9 kd=some k/\wv τ' fun r2=>∃e,r2=.st e/\Z5 g wk wv ds τ' (O5 kvs k e) Q
theorem Y2v {g:WG}{wk:WE}(hg:∀d τ (P Q:B5->Prop),(∀ τ,P τ->Q τ)->g d τ P->g d τ Q)(hk:∀(τ:B5) (P Q:R->Prop),(∀r,P r->Q r)->wk τ P->wk τ Q)(hv:∀(τ:B5) (P Q:R->Prop),(∀r,P r->Q r)->wv τ P->wv τ Q):
  ∀(ds:M D) (τ:B5) (kvs:M (B0×D)) (P Q:M (B0×D)->Prop),(∀es,P es->Q es)->Z5 g wk wv ds τ kvs P->Z5 g wk wv ds τ kvs Q
 |[],_,_,_,_,f,h=>f _ h
 |d::ds,τ,kvs,P,Q,f,h=>hg d τ _ _ (fun τ' h=>hk τ' _ _ (fun r cw=>(by obtain⟨kd,k,e1,e2,h⟩:=cw;exact⟨kd,k,e1,e2,hv τ' _ _ (fun r⟨e,e1,h⟩=>⟨e,e1,Y2v hg hk hv ds τ' _ _ _ f h⟩) h⟩)) h) h
section
variable {kx vx:Ag}{jF:Pos}{nt:Nat}{g:WG}{wk:WE}
theorem W7y {P:M (B0×D)->Prop}       (hc:X.calm=true)(B:Blk X scope N nt cap)(hi:L0 X H0 tg iter wi)
  (hg:∀C s H fp,DG (blk X scope C s H fp N) H tg g) (hk:∀C s H fp,DE (blk X scope C s H fp N) H kx wk) (hv:∀C s H fp,DE (blk X scope C s H fp N) H vx wv) (hs:∀x,foldedSetIterable iter X.env x=pure x)
  (I:?B) (hR:B6 X.K H0 τ σ H) (hw:wi τ fun ds=>ds.length<sizeLine/\Z5 g wk wv ds (Q7 nt cap τ) [] P)
  (fin:∀(C D0:Af) (s2 s4:Ae) (H2 H4:Hp) (fp:M Af) (pb:Pn9) (σ4:S5) (ps:M (B0×V)) (vs:M (B0×Ad)) (kvs:M (B0×D)) (f:Flow),A1 X af σ H2 s2->A4 H H2->A1 ?H pb σ4 H4 s4->(∀b∈fp,J5 X af H2 b) ->
   s2.heap.objs.size<=C->s2.heap.objs.size<=D0->D0≠C->H4 D0=none->(D0==sysModules)=false->s4.heap.DictOf (M8 X.prog X.w) D0 vs->KV ps vs->ps.length<=sizeLine->A4 H2 H4->C9 X.K H4 kvs ps->P kvs->compPost ?C X.A X.xe use QQ (.ref D0) C (.ok f) s4):
  wpAny ?C X.A (comprehension (.DictComp kx vx [⟨tg,iter,[],0⟩] scope pos) scope X.env ml newDict false (eval iter X.env) use) QQ X.xe s:=by
 refine cI rfl hs (Q8r fun y hy e=>I.ok.has y.1 (B.free y hy e)) B.kind B.names ?_;refine B3 (hi.pi af s σ H (fun J H2=>A4 H H2/\∃ds,YlS X.K J ds H2/\ds.length<sizeLine/\Z5 g wk wv ds (Q7 nt cap τ) [] P) I
  ⟨τ,hR,hi.mono τ _ _ (fun ds h J H' sm yl=>⟨sm,ds,yl,h.1,h.2⟩) hw⟩) fun v s1 h1=>B3 h1 fun mo s2 h2=>?_
 obtain⟨it,fp,tn,J,H2,e,I2,T,fm,f2,dG,ds,yl,hz,kM⟩:=h2;subst e;have gW:∀b∈fp,b<s2.heap.objs.size:=fun b hb=>by
  obtain⟨o,ho,_⟩:=T.obj _ _ fm b hb;exact aw ho
 have eK:=hR.mono dG;have kN:(s2.heap.objs.size==sysModules)=false:=cc.mpr (bY (ax I2.big));refine bO (cA B.cell (by intro y hy;simp at hy) (fun h₁ du cQ=>?_) B.kind);dsimp only at du cQ ⊢;have kY:(s2.heap.push {cls:=.type "dict",dict:=none,data:=.dict #[]}).DictOf (M8 X.prog X.w) s2.heap.objs.size []:=Heap.DictOf.new s2.heap;generalize hH2:s2.heap.push {cls:=.type "dict",dict:=none,data:=.dict #[]}=Hq at du cQ kY ⊢;have hC:Hq.objs.size=s2.heap.objs.size+1:=by rw[<-hH2,bi]
 have ee:s2.heap.objs.size≠Hq.objs.size:=by rw[hC];exact ax (cj _)
 have cO:s2.heap.objs.size<=Hq.objs.size:=by rw[hC];exact dF _
 have old:∀b o,s2.heap.get? b=some o->h₁.get? b=some o:=fun b o e=>cQ.extBut b o (by rw[hC];exact ax (bj (aw e))) (ae _ (hH2▸ae _ e));have dX:h₁.DictOf (M8 X.prog X.w) s2.heap.objs.size []:=kY.at fun o e=>cQ.extBut _ _ ee (ae _ e);generalize hCe:Hq.objs.size=C at du cQ hC ee cO ⊢;generalize hDe:s2.heap.objs.size=D0 at hC ee cO dX kN ⊢;have dU:∀b∈fp,b<D0:=fun b hb=>hDe▸gW b hb;have fx:tn 0 h₁:=T.keep _ _ _ fm fun b _ o e=>old b o e;have lu:=Q8m (C:=C) (h':=h₁) (t':=s2.toks+([]:M (Str×Ad)).length) I2 B f2 gW (by rw[hDe];exact cO) du old;have iP:H2 D0=none:=I2.hok.fresh (by rw[hDe];exact ao _);have kJ:D0∉U0 X.stack:=fun z=>by
  rcases av.mp (I2.stkSub _ z)with e |e
  ·have:=I2.lt;rw[<-e,hDe]at this;exact aS _ this
  ·exact I2.nofs (by rw[hDe];exact ao _) e
 have kK:∀x c,(S7 X.env scope.names []).lookup x=some c->c≠D0:=fun x c h z=>by
  obtain⟨v,q⟩:=I2.cell x c (X9 I2 B h);have:=q.lt;rw[z,hDe]at this;exact aS _ this
 have ph:∀{h:Heap}{vs:M (B0×Ad)}{o:Obj},h.DictOf (M8 X.prog X.w) D0 vs->h.get? D0=some o->∀v,o.data≠.cell v:=by
  intro h vs o dd e v z;obtain⟨o',es,ep,e',_,d,_⟩:=dd;rw[e]at e';cases e';rw[d]at z;cases z
 have gk:∀{pb:Pn9} {σ':S5}{H':Hp}{s':Ae}{vs:M (B0×Ad)}{o:Obj},A1 ?H pb σ' H' s'->H' D0=none->s'.heap.DictOf (M8 X.prog X.w) D0 vs->s'.heap.get? D0=some o ->
   A1 ?H [(D0,o)] σ' H' s':=by
  intro pb σ' H' s' vs o I' n' dd e;refine I'.pins_of fun p hp=>?_;have e':p=(D0,o):=by simpa using hp
  subst e';exact⟨e,n',ee,kJ,ph dd e⟩
 have gS:∀{H':Hp}{ob:Obj},(∀b∈fp,H' b=none)->∀b∈fp,J5 ?H [(D0,ob)] H' b:=by
  intro H' ob hn b hb;refine⟨hn b hb,(ax (ay (dU b hb) cO)),fun z=>?_,.inl hb,fun x c h=>(f2 b hb).2.2.2.2.1 x c (X9 I2 B h),fun p hp=>?_⟩
  ·rcases av.mp (I2.stkSub b z)with e |e
   ·exact(f2 b hb).2.1 e
   ·exact(f2 b hb).2.2.1 e
  ·have e':p=(D0,ob):=by simpa [blk]using hp
   subst e';exact(ax (dU b hb)).symm
 let jx:Nat->Ae->Prop:=fun k s'=>∃(i:Nat) (σ':S5) (H':Hp) (τ':B5) (ob:Obj) (vs:M (B0×Ad)) (ps:M (B0×V)) (kvs:M (B0×D)),A1 ?H [(D0,ob)] σ' H' s'/\B6 X.K H2 τ' σ' H'/\tn i s'.heap /\
  (∀b∈fp,H' b=none)/\H' D0=none/\s'.heap.get? D0=some ob/\s'.heap.DictOf (M8 X.prog X.w) D0 vs/\KV ps vs/\C9 X.K H' kvs ps/\i<=ds.length/\k=ds.length-i/\ps.length<=i/\Z5 g wk wv (ds.drop i) τ' kvs P
 have loop:∀s₃:Ae,s₃={s2 with heap:=h₁,toks:=s2.toks+([]:M (Str×Ad)).length} ->
   codeAny ?C X.A (.compLoop (.DictComp kx vx [⟨tg,iter,[],0⟩] scope pos) 0 (.ref it) (.ref D0) (compEnvC scope (S7 X.env scope.names []) C X.env))
    (compPost ?C X.A X.xe use QQ (.ref D0) C) s₃:=by
  rintro s₃ rfl;obtain⟨vI,ho⟩:∃o,h₁.get? D0=some o:=by obtain⟨o,_,_,e,_⟩:=id dX;exact⟨o,e⟩
  refine W5g jx ?_ ds.length ⟨0,_,H2,Q7 nt cap τ,vI,[],[],[],gk lu iP dX ho,Z2f eK nt cap,fx,fun b hb=>(f2 b hb).1,iP,ho,dX,.nil,rfl,bz _,rfl,ao _,by simpa using kM⟩;rintro k s3 ⟨i,σ3,H3,τ3,ob,vs,ps,kvs,I3,R3,gn,gE,d3,o3,uK,qH,tY,pS,rfl,lT,w3⟩;have cf:A4 H2 H3:=R3.same
  by_cases bU:i<ds.length
  ·refine aE (T.item ?H rfl rfl rfl hc i _ s3 σ3 H3 (fun _ _=>False) I3 (gS gE) gn (yl.go H3 cf i bU)) (fun r s4 bG=>?_) fun _ _ z=>z;obtain⟨u,hr,h4⟩:=bG;subst hr;refine aE h4 (fun _ s5 bG=>?_) fun _ _ z=>z;obtain⟨x,H5,I5,r5,y5,fk,jl⟩:=bG;obtain⟨gV,ix⟩:=yl.yld H3 cf i x H5 _ (ac bU) y5;rw[bJ bU]at w3;have jm:=I5.pinned (gS jl) (T.obj _ _ fk);refine aE ((hg C s2 H2 fp).pg _ s5 σ3 H5 x u (fun σ6 H6=>∃ τ6,B6 X.K H2 τ6 σ6 H6/\A4 H5 H6/\wk τ6 fun r=>∃kd k,r=.st kd/\N9 kd=some k/\wv τ6 fun r2=>∃e,r2=.st e/\Z5 g wk wv (ds.drop (i+1)) τ6 (O5 kvs k e) P)
    jm r5 ⟨τ3,ds[i],R3.mono gV,ix,(hg C s2 H2 fp).mono _ _ _ _ (fun τ6 h6 σ6 H6 gM R6=>⟨τ6,R6,gM,h6⟩) w3⟩) (fun _ s6 jN=>?_) fun _ _ z=>z
   obtain⟨σ6,H6,I6,τ6,R6,gM,w6⟩:=jN;refine aE ((hk C s2 H2 fp).pe _ s6 σ6 H6 (fun v H7=>A4 H6 H7/\∃kd k,A3 X.K H7 kd v/\N9 kd=some k/\wv τ6 fun r2=>∃e,r2=.st e/\Z5 g wk wv (ds.drop (i+1)) τ6 (O5 kvs k e) P) I6
    ⟨τ6,R6,(hk C s2 H2 fp).mono τ6 _ _ (fun r eI v H7 iV ir=>(by obtain⟨kd,k,e1,e2,h⟩:=eI;exact⟨iV,kd,k,by subst e1;exact ir,e2,h⟩)) w6⟩) (fun yk s7 kL=>?_) fun _ _ z=>z
   obtain⟨v7,H7,I7,qF,iV,kd,k,w4,xS,w7⟩:=kL;refine aE ((hv C s2 H2 fp).pe _ s7 σ6 H7 (fun v H8=>A4 H7 H8/\∃e,A3 X.K H8 e v/\Z5 g wk wv (ds.drop (i+1)) τ6 (O5 kvs k e) P) I7
    ⟨τ6,R6.mono iV,(hv C s2 H2 fp).mono τ6 _ _ (fun r fR v H8 jG ir=>(by obtain⟨e,e1,h⟩:=fR;exact⟨jG,e,by subst e1;exact ir,h⟩)) w7⟩) (fun yv s8 mt=>?_) fun _ _ z=>z
   obtain⟨v8,H8,I8,kG,jG,e8,rc,w8⟩:=mt;have pd:=I8.pin (D0,ob) (ai _ (aV _ am));obtain⟨o8,d8,_⟩:=pd;have n8:A1 ?H (V1 fp s5.heap) σ6 H8 s8:=I8.pins_of fun p hp=>I8.pin p (ai _ (ai _ hp));have xW:s8.heap.DictOf (M8 X.prog X.w) D0 vs:=uK.at fun o e=>by rw[o3]at e;cases e;exact o8
   have el:vs.length=ps.length:=by rw[<-qH.length]
   cases Q4p xS w4;refine wpAny_dictSet_pairs (hsz:=by lia) (Q4o qF) xW fun h₅ sZ mv=>?_;have I9:A1 ?H (V1 fp s5.heap) σ6 H8 {s8 with heap:=h₅,toks:=s8.toks+1}:=by
    refine n8.turned (t':=s8.toks+1) (it:=D0) (fun b o hb e=>(mv.2 b hb).trans e) d8 ee (.inr (by rw[<-hDe];exact ao _)) kK (fun p hp z=>?_);obtain⟨q1,_⟩:=Q6b (by simpa [blk]using hp);exact ax (dU _ q1) z
   obtain⟨qJ,o9⟩:∃o,h₅.get? D0=some o:=by obtain⟨o,_,_,e,_⟩:=id sZ;exact⟨o,e⟩
   have vF:A4 H3 H8:=gV.trans (gM.trans (iV.trans jG));have kA:tn (i+1) h₅:=T.keep _ _ _ fk fun b hb o e=>(I9.pin (b,o) (ai _ (Q0k hb e))).1;refine⟨ds.length-(i+1),by lia,i+1,σ6,H8,τ6,qJ,stored vs k yv,P8 ps k v8,O5 kvs k e8,gk I9 d8 sZ o9,R6.mono (iV.trans jG),kA,fun b hb=>?_,d8,o9,sZ,qH.put k kG,C9.put rc (tY.mono (Kp.of vF) _ _),bU,rfl,?_,w8⟩
   ·obtain⟨o,e,_⟩:=T.obj _ _ fk b hb;exact(I9.pin (b,o) (ai _ (Q0k hb e))).2.1
   ·have:=Q8z ps k v8;lia
  ·have e:i=ds.length:=by lia
   subst e;refine aE (T.done ?H rfl rfl rfl hc ds.length _ s3 σ3 H3 (fun _ _=>False) I3 (gS gE) gn (yl.stop H3 cf)) (fun r s4 bG=>?_) fun _ _ z=>z;obtain⟨hr,I4⟩:=bG;subst hr;have o4:=(I4.pin (D0,_) (ai _ am)).1;rw[cF]at w3;have xX:s4.heap.DictOf (M8 X.prog X.w) D0 vs:=uK.at fun o e=>by rw[o3]at e;cases e;exact o4
   exact fin C D0 s2 s4 H2 H3 fp _ σ3 ps vs kvs _ I2 dG I4 f2 (by rw[hDe];exact cO) (by rw[hDe];exact ao _) ee d3 kN xX qH (by lia) cf tY w3
 exact codeAny_compStart_dict (loop _ rfl) (T.self _ 0 _ _ _ fx (loop _ rfl))
def Z9f (i nt:Nat)(cap:M Nat)(wi:T5)(g:WG)(wk wv:WE):WS:=fun E τ=>wi τ fun ds=>ds.length<sizeLine/\Z5 g wk wv ds (Q7 nt cap τ) [] fun kvs=>E.nx (τ.set i (some (.dk kvs)))
def W2g {i:Nat}  (hc:X.calm=true)(B:Blk X scope N nt cap)(hi:L0 X H0 tg iter wi)(hg:∀C s H fp,DG (blk X scope C s H fp N) H tg g)(hk:∀C s H fp,DE (blk X scope C s H fp N) H kx wk)
  (hv:∀C s H fp,DE (blk X scope C s H fp N) H vx wv) (hN:X.N.Nodup) (oA:X.N[i]?=some x) (hx:Loc X.env.scope x)
  (kO:swapsWith (.DictComp kx vx [⟨tg,iter,[],0⟩] scope pos) (some (.Name x cn)) jF.line X.env=pure true:=by rfl) (hs:∀x,foldedSetIterable iter X.env x=pure x:=by intro _;rfl)
  (hf:?J:=by first |exact .inl rfl |exact .inr rfl |assumption):
  DS X H0 (.Assign [.Name x cn] (.DictComp kx vx [⟨tg,iter,[],0⟩] scope pos) jF) (Z9f i nt cap wi g wk wv) where
 mono:=fun τ E F le h=>hi.mono τ _ _ (fun ds h=>⟨h.1,Y2v (hg 0 X.s₀ X.H₀ []).mono (hk 0 X.s₀ X.H₀ []).mono (hv 0 X.s₀ X.H₀ []).mono ds _ _ _ _ (fun es h=>le.nx _ h) h.2⟩) h
 ps:=by
  intro af s σ H D I ⟨τ,hR,hw⟩;rw[exec_Assign_Name_used _ _ _ _ kO];refine aa (bP (aa ?_))
  change wpAny ?C X.A (do let _ <- comprehension (.DictComp kx vx [⟨tg,iter,[],0⟩] scope pos) scope X.env _ newDict false (eval iter X.env) (some (assign (.Name x cn) X.env))) _ _ s
  refine aa (aE (W7y (use:=some (assign (.Name x cn) X.env)) (QQ:=fun _ s'=>SP X af D .next s') hc B hi hg hk hv hs I hR hw fun C D0 s2 s4 H2 H4 fp pb σ4 ps vs kvs f I2 dG I4 f2 hC hD ee hn kN dd rk hz kD kv w3=>?_)
   (fun _ s' hq=>aj (aj hq)) fun _ _ e=>e)
  have Ib:A1 X af σ (A6 H4 D0 (.dK ps)) {s4 with heap:=s4.heap}:=Y2h I2 I4 f2 hC hD hn ⟨rfl,fun _ _=>rfl⟩ ⟨hz,kN,vs,rk,dd⟩;have oW:C≠X.env.locals:=fun z=>aS _ (ay I2.lt (z▸hC));have oV:∀x c,X.env.cells.lookup x=some c->c≠C:=fun x c h z=>by
   obtain⟨v,q⟩:=I2.cell x c h;exact aS _ (ay q.lt (z▸hC))
  change wpAny ?C X.A (assign (.Name x cn) X.env (Value.ref D0)) _ _ s4
  refine kt (Z2t (v:=.ref D0) Ib hN oA hx rfl (fun s5 I5 bG=>?_) hf);obtain⟨a,qD,ha⟩:=bG;obtain⟨m4,kZ,_⟩:=id I4.loc;have sQ:C≠a:=by
   rcases ha with ha |ha
   ·rw[ha];exact oW
   ·exact fun z=>oV _ _ ha z.symm
  refine⟨m4,kZ.sameBut qD sQ,fun h' sb=>?_⟩;have sR:H4 C=none:=I4.free;have I6:A1 X af (σ.set i (some (.ref D0))) (A6 H4 D0 (.dK ps)) {s5 with heap:=h'}:=by
   refine I5.turned (t':=s5.toks) (it:=C) (fun b o hb e=>(sb.2 b hb).trans e) (by rw[A7 (bY ee)];exact sR) oW (.inr (aO I2.sz hC)) oV fun p hp z=>?_;have:=(I2.pin p hp).1;exact aS _ (ay (aw this) (z▸hC))
  have kb:A4 H (A6 H4 D0 (.dK ps)):=dG.trans (kD.trans (K2 hn _));have eO:=(hR.mono kb).set (i:=i) (s:=.dk kvs) (v:=.ref D0) ⟨D0,ps,rfl,hR.same.free (dG.free (I2.hok.fresh hD)),upd_same,kv.mono (Kp.of (K2 hn _)) _ _⟩ fun _ j t hj e m q=>by
   obtain⟨o,ho⟩:=hR.tracked e m q;rw[dG.free (I2.hok.fresh hD)]at ho;cases ho
  exact⟨_,_,I6,w3 _ _ (Kp.of kb) eO⟩
end
def kyD:B0->D
 |.inl i=>.int i
 |.inr x=>.str x
def Q5u:M R->(R->Prop)->Prop
 |[.dk kvs],Q=>Q (.nw (kvs.map fun p=>kyD p.1))
 |_,_=>False
def Y5a {rs:M R}{Q:R->Prop}(h:Q5u rs Q):∃kvs,rs=[.dk kvs]/\Q (.nw (kvs.map fun p=>kyD p.1)):=by
 unfold Q5u at h;split at h
 ·exact⟨_,rfl,h⟩
 ·exact h.elim
def W8z:Q6q Q5u:=fun x P Q g h=>by
 obtain⟨kvs,rfl,h⟩:=Y5a h;exact g _ h
theorem Z4k:∀(ps:M (B0×V)),AllS K H (ps.map fun p=>kyD p.1) (ps.map fun p=>kV p.1)
 |[]=>AllS.nil
 |(.inl i,v)::r=>AllS.cons Q3k (Z4k r)
 |(.inr x,v)::r=>AllS.cons Q6n (Z4k r)
theorem W2y:∀{kvs:M (B0×D)}{ps:M (B0×V)},C9 K H kvs ps->(kvs.map fun p=>kyD p.1)=ps.map fun p=>kyD p.1:=by intro kvs;induction kvs<;>grind [C9,ar]
theorem W4s (hc:X.calm=true):Q6k X (.type "list") Q5u:=by
 intro af s σ H xs us Q I rv ⟨rs,eD,h⟩;obtain⟨kvs,rfl,h⟩:=Y5a h;obtain⟨v,rfl,ir⟩:=Q1q eD;obtain⟨a,ps,rfl,e,kv⟩:=ir;obtain⟨u,rfl,ru⟩:=Q2g rv;cases ru;obtain⟨z,hd,vs,rel,dd⟩:=Z0y I.hok e;obtain⟨ep,da⟩:=dd.dictAt;have el:vs.length=ps.length:=by rw[<-rel.length]
 refine PySem.W.kdl_call (PySem.W.kdl_dict (knd:=M8 X.prog X.w) (kvs:=vs) (ep:=ep) hd) (I.ok.hd hc) da (by lia) fun h' tk c6 c' k e2 it=>?_;have hn:H s.heap.objs.size=none:=I.hok.fresh (ao _);have vl:C4 (ps.map fun p=>kV p.1) c6.toList:=by
  have key:∀(ps:M (B0×V)) (vs:M (B0×Ad)) (us:M Ad),KV ps vs->us.length=vs.length->(∀(j:Nat) (v:Ad),us[j]?=some v->∃k x,vs[j]?=some (k,x)/\(M8 X.prog X.w).is k v=true)->C4 (ps.map fun p=>kV p.1) us:=by
   intro ps
   induction ps with
   |nil=>intro vs us r l _;cases r;cases us with
    |nil=>exact .nil
    |cons _ _=>cases l
   |cons p ps ih=>
    intro vs us r l f;cases r with
    |@cons _ q _ qs h1 t=>
     cases us with
     |nil=>cases l
     |cons u us=>
      obtain⟨k,x,e1,e2⟩:=f 0 u rfl;cases e1;refine .cons ?_ (ih qs us t (by simpa using l) fun j v e=>f (j+1) v (by simpa using e));have h1:p.1=k:=h1.1;show C2 (kV p.1) u;rw[h1];rcases Q2t e2 with⟨i,t,rfl,rfl⟩ |⟨i,t,rfl,rfl⟩
      ·exact⟨t,rfl⟩
      ·exact⟨t,rfl⟩
  refine key ps vs c6.toList rel (by rw[bK];exact it.1) fun j v e=>it.2 j v (by rw[<-ga];exact e)
 refine⟨.ref s.heap.objs.size,_,I.laid (t':=tk) (o:=.lst (ps.map fun p=>kV p.1)) k (ao _) ⟨by rw[ag];exact z,c6.toList,c',vl,by simpa using e2⟩,rfl,h _ _ (K2 hn _) ⟨_,_,rfl,hn,upd_same,?_⟩⟩;rw[W2y kv];exact Z4k ps
def Q2x:M R->(R->Prop)->Prop
 |[r],Q=>∃ns:M Int,Q2v r=some (ns.map .int)/\ns≠[]/\∀m,m∈ns->(∀n∈ns,n<=m)->Q (.st (.int m))
 |_,_=>False
def Y5j:Q6q Q2x:=fun x P Q g h=>by
 unfold Q2x at h ⊢;split at h
 ·obtain⟨ns,a,b,c⟩:=h;exact⟨ns,a,b,fun m h1 h2=>g _ (c m h1 h2)⟩
 ·exact h
theorem Y1z (f:Nat->Int):∀k,argBest (fun i j=>decide (f i > f j)) k<=k/\∀j,j<=k->f j<=f (argBest (fun i j=>decide (f i > f j)) k)
 |0=>⟨ao _,fun j hj=>by rw[Nat.le_zero.mp hj];exact Int.le_refl _⟩
 |k+1=>by
  obtain⟨h1,h2⟩:=Y1z f k;unfold argBest
  by_cases e:f (k+1) > f (argBest (fun i j=>decide (f i > f j)) k)
  ·rw[aQ (by simpa using e)];refine⟨ao (k+1),fun j hj=>?_⟩
   by_cases z:j<=k
   ·exact Int.le_trans (h2 j z) (Int.le_of_lt e)
   ·rw[show j=k+1 by lia];exact Int.le_refl _
  ·rw[aI (by simpa using e)];refine⟨dL h1,fun j hj=>?_⟩
   by_cases z:j<=k
   ·exact h2 j z
   ·rw[show j=k+1 by lia];lia
theorem Y4f:∀{ns:M Int}{bb:M Ad},C4 (ns.map V.int) bb->∃xs:M (Int×Tok),bb=xs.map (fun p=>Value.int p.1 p.2)/\xs.map (·.1)=ns
 |[],bb,r=>by cases r;exact⟨[],rfl,rfl⟩
 |n::ns,bb,r=>by
  cases r with
  |cons h t=>
   obtain⟨tk,e⟩:=h;obtain⟨xs,e1,e2⟩:=Y4f (ns:=ns) t;exact⟨(n,tk)::xs,by rw[e,e1];rfl,by rw[ar,e2]⟩
theorem W4b:∀{ns:M Int}{xs:M V},AllS K H (ns.map .int) xs->xs=ns.map V.int:=by intro ns;induction ns<;>grind [List.map,AllS,ar,A3]
theorem Y2m (hc:X.calm=true):Q6k X (.builtin "max") Q2x:=by
 intro af s σ H xs us Q I rv ⟨rs,eD,h⟩;unfold Q2x at h;split at h
 ·rename_i r;obtain⟨ns,e1,dO,h⟩:=h;obtain⟨v,rfl,ir⟩:=Q1q eD;obtain⟨l,ys,rfl,sq,al⟩:=Z1q e1 ir;obtain⟨u,rfl,ru⟩:=Q2g rv;cases ru;have ey:=W4b al;subst ey;obtain⟨bb,kc,pl,hz⟩:=I.list sq;obtain⟨ps,ei,en⟩:=Y4f kc;subst ei;have hit:s.heap.IsList l (intItems ps.toArray):=by
   have:=pl.isList;have e:intItems ps.toArray=(ps.map fun p=>Value.int p.1 p.2).toArray:=by simp[intItems]
   rw[e];exact this
  have og:0<ps.toArray.size:=by
   cases ps with
   |nil=>exact absurd en.symm dO
   |cons _ _=>simp
  refine max_intList (I.ok.hd hc) hit og fun v h' tk e k=>?_;obtain⟨b1,b2⟩:=Y1z (numAt ps.toArray) (ps.toArray.size-1);obtain⟨t,et⟩:=intItems_at e;subst et;generalize argBest (fun i j=>decide (numAt ps.toArray i > numAt ps.toArray j)) (ps.toArray.size-1)=k0 at b1 b2 e;have at_:∀j,j<ps.length->ns[j]?=some (numAt ps.toArray j):=fun j hj=>by
   rw[<-en,ah,ac hj];simp[numAt,hj]
  have wT:k0<ps.length:=by
   have:ps.toArray.size=ps.length:=by simp
   lia
  refine⟨.int (numAt ps.toArray k0),H,I.kept k,⟨t,rfl⟩,h _ (az (at_ k0 wT)) (fun n hn=>?_) _ _ (A4.refl _) Q0x⟩;obtain⟨j,hj,e⟩:=List.getElem_of_mem hn;have hl:ns.length=ps.length:=by rw[<-en,ag]
  have:=at_ j (by lia);rw[ac hj,e]at this;rw[aA this];exact b2 j (by
   have:ps.toArray.size=ps.length:=by simp
   lia)
 ·exact h.elim
def LO.ok {w:Ak}     (g:LO b xs h):ObjOk P w H h b (.ext (LO b xs)):=by
 obtain⟨z,bb,n,r,e⟩:=id g;exact⟨g,⟨_,e⟩,fun h1 h2 cw k=>(by obtain⟨z,bb,n,r,e⟩:=cw;exact⟨z,bb,n,r,k _ e⟩)⟩
def G9:Ac Sl->Bool
 |some (.ll _ _)=>false
 |_=>true
def Q1b:Nat->B5->Bool
 |_,[]=>true
 |0,_::r=>r.all G9
 |i+1,s::r=>G9 s&&Q1b i r
theorem Z6v:∀{i:Nat} {τ:B5}{j:Nat}{a:Af}{dss:M (M D)},Q1b i τ=true->j≠i->τ[j]?≠some (some (.ll a dss))
 |_,[],j,a,dss,_,_=>by simp
 |0,s::r,0,a,dss,_,h=>absurd rfl h
 |0,s::r,j+1,a,dss,h,_=>fun e=>by
  have e:r[j]?=some (some (.ll a dss)):=by simpa using e
  have:=bX.mp h _ (az e);cases this
 |i+1,s::r,0,a,dss,h,_=>fun e=>by
  have e:s=some (.ll a dss):=by simpa using e
  subst e;simp[Q1b,G9]at h
 |i+1,s::r,j+1,a,dss,h,n=>fun e=>by
  rw[Q1b,bD]at h;exact Z6v (i:=i) (j:=j) h.2 (fun z=>n (by rw[z])) (by simpa using e)
theorem M0.length:∀{bs:M Af}{dss:M (M D)},M0 K H bs dss->bs.length=dss.length
 |[],_,h=>by rw[show _=[]from h];rfl
 |b::bs,_,h=>by obtain⟨ds,r,rfl,_,t⟩:=h;rw[aN,aN,t.length]
theorem M0.get:∀{bs:M Af}{dss:M (M D)}{j:Nat},M0 K H bs dss->j<dss.length->∃b xs,bs[j]?=some b/\H b=some (.ext (LO b xs))/\AllS K H (dss.getD j []) xs
 |[],_,j,h,l=>by rw[show _=[]from h]at l;simp at l
 |b::bs,_,0,h,l=>by obtain⟨ds,r,rfl,⟨xs,q,al⟩,t⟩:=h;exact⟨b,xs,rfl,q,al⟩
 |b::bs,_,j+1,h,l=>by
  obtain⟨ds,r,rfl,_,t⟩:=h;obtain⟨b',xs,e,q,al⟩:=M0.get (j:=j) t (by simpa using l);exact⟨b',xs,by simpa using e,q,by simpa using al⟩
theorem M0.mem:∀{bs:M Af}{dss:M (M D)}{b:Af},M0 K H bs dss->b∈bs->∃xs,H b=some (.ext (LO b xs))
 |[],_,b,h,l=>by cases l
 |c::bs,_,b,h,l=>by
  obtain⟨ds,r,rfl,⟨xs,q,al⟩,t⟩:=h;rcases av.mp l with rfl |l
  ·exact⟨xs,q⟩
  ·exact t.mem l
theorem M0.set (k:Kp H H'){b0:Af}{pY:M D}  (h0:H' b0=some (.ext (LO b0 lD)))(vf:AllS K H' pY lD)(je:∀b φ,b≠b0->H b=some (.ext φ)->H' b=some (.ext φ)):
  ∀{bs:M Af}{dss:M (M D)}{j:Nat},bs.Nodup->M0 K H bs dss->bs[j]?=some b0->M0 K H' bs (dss.set j pY)
 |[],_,j,_,h,e=>by simp at e
 |b::bs,_,0,n,h,e=>by
  obtain⟨ds,r,rfl,⟨xs,q,al⟩,t⟩:=h;have e:b=b0:=by simpa using e
  subst e;rw[bo]at n;refine⟨pY,r,rfl,⟨lD,h0,vf⟩,?_⟩;have same:∀{cs:M Af}{ess:M (M D)},b∉cs->M0 K H cs ess->M0 K H' cs ess:=by
   intro cs
   induction cs with
   |nil=>intro ess _ h;exact h
   |cons c cs ih=>
    intro ess nb h;obtain⟨ds,r,rfl,⟨xs,q,al⟩,t⟩:=h;exact⟨ds,r,rfl,⟨xs,je c _ (fun z=>nb (by rw[z];exact am)) q,al.mono k _ _⟩,ih (fun z=>nb (ak _ z)) t⟩
  exact same n.1 t
 |b::bs,_,j+1,n,h,e=>by
  obtain⟨ds,r,rfl,⟨xs,q,al⟩,t⟩:=h;rw[bo]at n;have e:bs[j]?=some b0:=by simpa using e
  exact⟨ds,r.set j pY,rfl,⟨xs,je b _ (fun z=>n.1 (by rw[z];exact az e)) q,al.mono k _ _⟩,M0.set k h0 vf je n.2 t e⟩
section
variable {o v:Ag}{sp:Pos}{i:Nat}
theorem V1v (ho:PE X o td)(he:PE X e ty)(m:M1 X o "append" apos e bV):PE X (.Call (.Attribute o "append" apos) [e] [] bV)
  (fun σ H Q=>td σ H fun x H1=>∃b lD,x=.ref b/\H1 b=some (.ext (LO b lD))/\ty σ H1 fun y H2=>∃xs,H2 b=some (.ext (LO b xs))/\xs.length<sizeLine/\Q .non (A6 H2 b (.ext (LO b (xs++[y]))))):=by
 intro af s σ H Q I h;refine g6 m.base m.few m.line n9 m3 lZ (B3 (ho af s σ H _ I h) fun u s1 bG=>?_);obtain⟨x,H1,I1,rx,b,lD,ex,eb,q1⟩:=bG;subst ex;obtain rfl:u=Value.ref b:=rx;obtain⟨_,vY,n0,_,e0⟩:=(show LO b lD s1.heap from(I1.hok b _ eb).1)
 refine⟨⟨_,e0,rfl⟩,fun c ec=>?_,?_⟩
 ·cases ec;exact⟨_,e0,rfl⟩
 rw[m.trees];refine cS rfl (cB (bR (B3 (he af s1 σ H1 _ I1 q1) fun yv s2 ⟨y,H2,I2,ry,xs,e2,hz,q2⟩=>cG ?_)));obtain⟨z2,bb,n,rv,e3⟩:=(show LO b xs s2.heap from(I2.hok b _ e2).1)
 have el:=rv.length;refine dZ (hsz:=by rw[aR];lia) ⟨n,e3⟩ fun h' hl hs=>⟨.non,_,?_,rfl,q2⟩
 obtain⟨n',e4⟩:=hl;refine Q5p (t':=s2.toks) I2 (by rw[e2];exact True.intro) hs ⟨_,e4⟩ (LO.ok ⟨by rw[aC];show xs.length+1<=_;lia,bb++[yv],n',rv.append (.cons ry .nil),by simpa using e4⟩)
def B6.llAt {dss:M (M D)}(hR:B6 K H0 τ σ H)(e1:τ[i]?=some (some (.ll a dss))):σ[i]?=some (some (.ref a))/\Q6p K H0 H a dss:=by
 obtain⟨v,hv,rfl,q⟩:=hR.here i _ e1;exact⟨hv,q⟩
def rIxE:R2:=fun x y H Q=>∃p xs i v,x=.ref p/\y=.int i/\H p=some (.ext (LO p xs))/\N5 xs i=some v/\Q v H
def W7g {p:Af}  (I:?B)(h:H p=some (.ext (LO p xs))):xs.length<=sizeLine/\∃bb n,C4 xs bb/\s.heap.get? p=some {cls:=.type "list",data:=.seq bb.toArray n}:=(I.hok p _ h).1
theorem W7r:IxR X rIxE:=by
 intro value slice af s σ H x y v u Q I rx ry h hs;obtain⟨p,xs,i,z,rfl,rfl,hq,he,q⟩:=h;cases rx;obtain⟨t,rfl⟩:=ry;obtain⟨hz,bb,n,r,e⟩:=W7g I hq;have pl:s.heap.IsList p bb.toArray:=⟨_,e,rfl,n,rfl⟩
 obtain⟨j,h1,h2,h3,h4,h5⟩:=Z0q he;obtain⟨w,ew,jd⟩:=r.get h2;have hl:=r.length;have hn:=Q7p;have fin:EP X af σ Q w s:=⟨z,H,I,jd,q⟩
 by_cases h0:0<=i
 ·have hj:i.toNat=j:=by
   rw[seqIndex_of h0 h5]at h1;exact aA h1
  exact item_listR pl h0 (by lia) (by rw[hj];simpa using ew) fin hs
 ·have hj:(i+(bb.toArray.size:Int)).toNat=j:=by
   rw[seqIndex_neg (by lia) h4]at h1;rw[aR,<-hl];exact aA h1
  exact jp (x:=w) pl.typeIs slot_list_getitem.lookup
   (yO (Q:=fun r s'=>r=w/\EP X af σ Q r s') pl (by lia) (by rw[aR]<;>lia) (by lia) (by rw[hj];simpa using ew) ⟨rfl,fin⟩) hs
def B6.llre {dss p9:M (M D)}(hR:B6 K H0 τ σ H)(e1:τ[i]?=some (some (.ll a dss)))(hv:σ[i]?=some (some (.ref a)))(only:Q1b i τ=true)
  (kp:Kp H H') (ne:∀c u,H c=some u->(∀ φ,u≠.ext φ)->H' c=some u) (sm:A4 H0 H') (ll:Q6p K H0 H' a p9):B6 K H0 (τ.set i (some (.ll a p9))) σ H':=by
 have hl:i<τ.length:=(aJ.mp e1).1;refine⟨by rw[bB];exact hR.len,sm,fun k t e=>?_,fun k l t u w dO e2 e3 m1 m2 q1 q2=>?_⟩
 ·by_cases hk:k=i
  ·subst hk;rw[b9 hl]at e;cases e;exact⟨_,hv,rfl,ll⟩
  ·rw[aL (fun z=>hk z.symm)]at e;obtain⟨w,q,r⟩:=hR.here k t e;refine⟨w,q,?_⟩;cases t with
   |dat d=>exact A3.mono kp _ _ r
   |own es=>obtain⟨c,ys,e,n,q,t⟩:=r;exact⟨c,ys,e,n,ne _ _ q (by intro φ z;cases z),t.mono kp _ _⟩
   |bor es=>obtain⟨c,ys,e,q,t⟩:=r;exact⟨c,ys,e,q,t.mono kp _ _⟩
   |bd es=>obtain⟨c,ys,e,q,t⟩:=r;exact⟨c,ys,e,q,t.mono kp _ _⟩
   |dk es=>obtain⟨c,ys,e,n,q,t⟩:=r;exact⟨c,ys,e,n,ne _ _ q (by intro φ z;cases z),t.mono kp _ _⟩
   |dt es=>obtain⟨c,ys,e,n,q,t⟩:=r;exact⟨c,ys,e,n,ne _ _ q (by intro φ z;cases z),t.mono kp _ _⟩
   |ob _=>exact r
   |cl _ _=>exact⟨r.1,r.2.2 _ _ kp r.2.1,r.2.2⟩
   |ll a' d'=>exact absurd e (Z6v only hk)
   |ins _ _ _=>obtain⟨e,n,dx,ys,q,t⟩:=r;exact⟨e,n,dx,ys,ne _ _ q (by intro φ z;cases z),t.mono kp _ _⟩
 ·by_cases hk:k=i
  ·subst hk;rw[b9 hl]at e2;cases e2;cases m1
  ·by_cases lQ:l=i
   ·subst lQ;rw[b9 hl]at e3;cases e3;cases m2
   ·rw[aL (fun z=>hk z.symm)]at e2;rw[aL (fun z=>lQ z.symm)]at e3;exact hR.apart k l t u w dO e2 e3 m1 m2 q1 q2
def B6.llset {dss:M (M D)}{j:Nat}{ds:M D}{bs:M Af}  (hR:B6 K H0 τ σ H)(e1:τ[i]?=some (some (.ll a dss)))(hv:σ[i]?=some (some (.ref a)))(only:Q1b i τ=true)
  (ha:H a=some (.ext (LO a (bs.map V.ref)))/\H0 a=none/\a∉bs) (nd:bs.Nodup) (h0:∀b∈bs,H0 b=none) (ll:M0 K H bs dss) (ej:bs[j]?=some b) (eb:H b=some (.ext (LO b lD))) (al:AllS K H ds xs):
  Kp H (A6 H b (.ext (LO b xs)))/\B6 K H0 (τ.set i (some (.ll a (dss.set j ds)))) σ (A6 H b (.ext (LO b xs))):=by
 have kp:Kp H (A6 H b (.ext (LO b xs))):=Q0r eb (by intro xs z;cases z) (by intro o u z;cases z) _;have xr:H0 b=none:=h0 b (az ej);refine⟨kp,hR.llre e1 hv only kp (fun c u q n=>by rw[A7 (Q0z q eb (n _))];exact q) (fun c u q=>by rw[A7 (fun z=>by rw[z,xr]at q;cases q)];exact hR.same c u q)
  ⟨bs,⟨by rw[A7 (show a≠b from fun z=>ha.2.2 (by rw[z];exact az ej))];exact ha.1,ha.2⟩,nd,h0,M0.set kp upd_same (al.mono kp _ _) (fun c φ hc q=>by rw[A7 hc];exact q) nd ll ej⟩⟩
def Q6i (i:Nat)(we wv:WE):WS:=fun E τ=>∃a dss,τ[i]?=some (some (.ll a dss))/\Q1b i τ=true/\we τ fun r=>∃k j,r=.st (.int k)/\ixN dss.length k=some j/\wv τ fun r2=>∃d,r2=.st d/\(dss.getD j []).length<sizeLine /\
 E.nx (τ.set i (some (.ll a (dss.set j (dss.getD j []++[d])))))
def Y0p {b:Ag}(ho:PE X b (S9 i))(he:DE X H0 e we)(hv:DE X H0 v wv)(hpl:Z4e e)(m:M1 X (.Subscript b e pos) "append" apos v bV)(kO:swapsWith (.Call (.Attribute (.Subscript b e pos) "append" apos) [v] [] bV) none sp.line X.env=pure false:=by rfl):
  DS X H0 (.Expr (.Call (.Attribute (.Subscript b e pos) "append" apos) [v] [] bV) sp) (Q6i i we wv) where
 mono:=fun τ E F le de=>(by obtain⟨a,dss,e1,o,h⟩:=de;exact⟨a,dss,e1,o,he.mono τ _ _ (fun r eI=>(by obtain⟨k,j,a1,a2,h⟩:=eI;exact⟨k,j,a1,a2,hv.mono τ _ _ (fun r⟨d,b1,b2,b3⟩=>⟨d,b1,b2,le.nx _ b3⟩) h⟩)) h⟩)
 ps:=U2 (Z7a (V1v (Y7b W7r ho he.pe hpl) hv.pe m) kO) fun D σ H gv=>by
  obtain⟨τ,hR,a,dss,e1,only,h⟩:=gv;obtain⟨jO,_⟩:=hR.llAt e1;refine⟨_,jO,τ,hR,he.mono τ _ _ (fun r kL y H1 s1 ik=>?_) h⟩;obtain⟨k,j,a1,a2,h⟩:=kL;subst a1;cases (show y=.int k from ik);have fY:=hR.mono s1;obtain⟨_,bs,ha,nd,h0,ll⟩:=fY.llAt e1;have el:=ll.length;obtain⟨_,hj,_,_⟩:=Y4s a2;obtain⟨b0,xs,ej,eb,al⟩:=ll.get hj;have xt:N5 (bs.map V.ref) k=some (V.ref b0):=by unfold N5;rw[ag,el,a2];show(bs.map V.ref)[j]?=_;rw[ah,ej];rfl
  refine⟨a,bs.map V.ref,k,V.ref b0,rfl,rfl,ha.1,xt,b0,xs,rfl,eb,τ,fY,hv.mono τ _ _ (fun r mt u H2 s2 iv=>?_) h⟩;obtain⟨d,b1,b2,b3⟩:=mt;subst b1;have eK:=fY.mono s2;have fZ:=al.mono (Kp.of s2) _ _;refine⟨xs,s2 _ _ eb,by rw[<-al.length];exact b2,?_⟩;obtain⟨kp,k7⟩:=eK.llset (xs:=xs++[u]) (ds:=dss.getD j []++[d]) e1 jO only ⟨s2 _ _ ha.1,ha.2⟩ nd h0 (ll.keep (Kp.of s2) fun b φ q=>s2 _ _ q) ej (s2 _ _ eb) (fZ.append (AllS.cons iv AllS.nil));exact b3 _ _ ((Kp.of (s1.trans s2)).trans kp) k7
def Y4i (I:?B)(h:H b=some (.ext (LO b xs))):∃o,A1 X af σ (A6 H b (.frz o (.lst xs))) s:=by
 obtain⟨z,bb,n,r,q⟩:=(show LO b xs s.heap from(I.hok b _ h).1)
 refine⟨_,I.write (t':=s.toks) (h':=s.heap) (e:=b) (o:=.frz {cls:=.type "list",data:=.seq bb.toArray n} (.lst xs)) (by rw[h];trivial) (.inl rfl) (fun b u _ k=>k) ⟨_,q⟩ ?_⟩;exact⟨q,z,bb,n,r,q⟩
theorem Y4g:∀{bs:M Af}{dss:M (M D)}{H:Hp},?B->bs.Nodup->M0 X.K H bs dss ->
  ∃H',A1 X af σ H' s/\Kp H H'/\(∀c,c∉bs->H' c=H c)/\(∀c u,H c=some u->(∀ φ,u≠.ext φ)->H' c=some u)/\AllS X.K H' (dss.map .lst) (bs.map V.ref)
 |[],dss,H,I,_,h=>by
  rw[show dss=[]from h];exact⟨H,I,Kp.refl H,fun _ _=>rfl,fun _ _ q _=>q,AllS.nil⟩
 |b::bs,dss,H,I,n,h=>by
  obtain⟨ds,r,rfl,⟨xs,q,al⟩,t⟩:=h;rw[bo]at n;obtain⟨o,I1⟩:=Y4i I q;have kp:Kp H (A6 H b (.frz o (.lst xs))):=Q0r q (by intro xs z;cases z) (by intro o u z;cases z) _;have t1:M0 X.K (A6 H b (.frz o (.lst xs))) bs r:=by
   have same:∀{cs:M Af}{ess:M (M D)},b∉cs->M0 X.K H cs ess->M0 X.K (A6 H b (.frz o (.lst xs))) cs ess:=by
    intro cs
    induction cs with
    |nil=>intro ess _ h;exact h
    |cons c cs ih=>
     intro ess nb h;obtain⟨ds,r,rfl,⟨xs,q,al⟩,t⟩:=h;exact⟨ds,r,rfl,⟨xs,by rw[A7 (fun z=>nb (by rw[z];exact am))];exact q,al.mono kp _ _⟩,ih (fun z=>nb (ak _ z)) t⟩
   exact same n.1 t
  obtain⟨H',I2,k2,o2,e2,fZ⟩:=Y4g I1 n.2 t1;refine⟨H',I2,kp.trans k2,fun c hc=>?_,fun c u hq hu=>?_,AllS.cons (A3.s_lst (.inl ⟨o,k2.frz _ _ _ upd_same⟩) ((al.mono kp _ _).mono k2 _ _)) fZ⟩
  ·rw[o2 c (fun z=>hc (ak _ z)),A7 (fun z=>hc (by rw[z];exact am))]
  ·exact e2 c u (by rw[A7 (Q0z hq q (hu _))];exact hq) hu
def Z3f (i:Nat)(w:WS):WS:=fun E τ=>w {E with nx:=fun τ'=>∃a dss,τ'[i]?=some (some (.ll a dss))/\Q1b i τ'=true/\E.nx (τ'.set i (some (.dat (.lst (dss.map .lst)))))} τ
def DS.fzL {w:WS}(i:Nat)(h:DS X H0 st w):DS X H0 st (Z3f i w) where
 mono:=fun τ E F le q=>h.mono τ {E with nx:=fun τ'=>∃a dss,τ'[i]?=some (some (.ll a dss))/\Q1b i τ'=true/\E.nx (τ'.set i (some (.dat (.lst (dss.map .lst)))))} {F with nx:=fun τ'=>∃a dss,τ'[i]?=some (some (.ll a dss))/\Q1b i τ'=true/\F.nx (τ'.set i (some (.dat (.lst (dss.map .lst)))))}
  ⟨fun τ'⟨a,dss,e,o,q⟩=>⟨a,dss,e,o,le.nx _ q⟩,le.rt,le.bk,le.ct⟩ q
 ps:=U2 (Z7b h.ps) fun D σ H ⟨τ,hR,q⟩=>⟨τ,hR,h.mono τ {P0 X.K H0 H D with nx:=fun τ'=>∃a dss,τ'[i]?=some (some (.ll a dss))/\Q1b i τ'=true/\(P0 X.K H0 H D).nx (τ'.set i (some (.dat (.lst (dss.map .lst)))))} _
  ⟨fun τ' jR σ' H' kp eO af s I=>by
   obtain⟨a,dss,e,only,q⟩:=jR;obtain⟨hv,bs,ha,nd,h0,ll⟩:=eO.llAt e;obtain⟨H1,I1,k1,o1,e1,mZ⟩:=Y4g I nd ll;have sI:H1 a=some (.ext (LO a (bs.map V.ref))):=by rw[o1 a ha.2.2];exact ha.1
   obtain⟨ob,I2⟩:=Y4i I1 sI;have k3:Kp H1 (A6 H1 a (.frz ob (.lst (bs.map V.ref)))):=Q0r sI (by intro xs z;cases z) (by intro o u z;cases z) _;have k2:=k1.trans k3;have e2:∀c u,H' c=some u->(∀ φ,u≠.ext φ)->A6 H1 a (.frz ob (.lst (bs.map V.ref))) c=some u:=fun c u q n=>by rw[A7 (Q0z (e1 c u q n) sI (n _))];exact e1 c u q n
   have fZ:=mZ.mono k3 _ _;have hl:i<τ'.length:=(aJ.mp e).1;refine⟨_,I2,q σ' _ (kp.trans k2) ⟨by rw[bB];exact eO.len,fun c u hq=>?_,fun k t et=>?_,fun k l t u w dO et eu m1 m2 q1 q2=>?_⟩⟩
   ·rw[A7 (fun z=>by rw[z,ha.2.1]at hq;cases hq),o1 c (fun z=>by rw[h0 c z]at hq;cases hq)];exact eO.same c u hq
   ·by_cases hk:k=i
    ·subst hk;rw[b9 hl]at et;cases et;exact⟨_,hv,A3.s_lst (K:=X.K) (.inl ⟨ob,upd_same⟩) fZ⟩
    ·rw[aL (fun z=>hk z.symm)]at et;obtain⟨w,q,r⟩:=eO.here k t et;refine⟨w,q,?_⟩;cases t with
     |dat d=>exact A3.mono k2 _ _ r
     |own es=>obtain⟨c,ys,e,n,q,t⟩:=r;exact⟨c,ys,e,n,e2 _ _ q (by intro φ z;cases z),t.mono k2 _ _⟩
     |bor es=>obtain⟨c,ys,e,q,t⟩:=r;exact⟨c,ys,e,q,t.mono k2 _ _⟩
     |bd es=>obtain⟨c,ys,e,q,t⟩:=r;exact⟨c,ys,e,q,t.mono k2 _ _⟩
     |dk es=>obtain⟨c,ys,e,n,q,t⟩:=r;exact⟨c,ys,e,n,e2 _ _ q (by intro φ z;cases z),t.mono k2 _ _⟩
     |dt es=>obtain⟨c,ys,e,n,q,t⟩:=r;exact⟨c,ys,e,n,e2 _ _ q (by intro φ z;cases z),t.mono k2 _ _⟩
     |ob _=>exact r
     |cl _ _=>exact⟨r.1,r.2.2 _ _ k2 r.2.1,r.2.2⟩
     |ll a' d'=>exact absurd et (Z6v only hk)
     |ins _ _ _=>obtain⟨e,n,dx,ys,q,t⟩:=r;exact⟨e,n,dx,ys,e2 _ _ q (by intro φ z;cases z),t.mono k2 _ _⟩
   ·by_cases hk:k=i
    ·subst hk;rw[b9 hl]at et;cases et;cases m1
    ·by_cases lQ:l=i
     ·subst lQ;rw[b9 hl]at eu;cases eu;cases m2
     ·rw[aL (fun z=>hk z.symm)]at et;rw[aL (fun z=>lQ z.symm)]at eu;exact eO.apart k l t u w dO et eu m1 m2 q1 q2,fun _ h=>h,fun _ h=>h,fun _ h=>h⟩ q⟩
end
def Q1i (g:WG)(we:WE):M D->B5->(M (M D)->Prop)->Prop
 |[],_,Q=>Q []
 |d::ds,τ,Q=>g d τ fun τ'=>we τ' fun r=>∃es,r=.nw es/\Q1i g we ds τ' fun ess=>Q (es::ess)
theorem Y2w {g:WG}  (hg:∀d τ (P Q:B5->Prop),(∀ τ,P τ->Q τ)->g d τ P->g d τ Q)(he:∀(τ:B5) (P Q:R->Prop),(∀r,P r->Q r)->we τ P->we τ Q):
  ∀(ds:M D) (τ:B5) (P Q:M (M D)->Prop),(∀es,P es->Q es)->Q1i g we ds τ P->Q1i g we ds τ Q
 |[],_,_,_,f,h=>f _ h
 |d::ds,τ,P,Q,f,h=>hg d τ _ _ (fun τ' h=>he τ' _ _ (fun r⟨e,e1,h⟩=>⟨e,e1,Y2w hg he ds τ' _ _ (fun es h=>f _ h) h⟩) h) h
theorem M0.append {ds:M D}  (q:H b=some (.ext (LO b xs)))(al:AllS K H ds xs):∀{bs:M Af}{dss:M (M D)},M0 K H bs dss->M0 K H (bs++[b]) (dss++[ds])
 |[],dss,h=>by rw[show dss=[]from h];exact⟨ds,[],rfl,⟨xs,q,al⟩,rfl⟩
 |c::bs,dss,h=>by obtain⟨es,r,rfl,x,t⟩:=h;exact⟨es,r++[ds],rfl,x,t.append q al⟩
theorem Z8w:∀(bs:M Af),C4 (bs.map V.ref) (bs.map Value.ref)
 |[]=>.nil
 |b::bs=>.cons rfl (Z8w bs)
section
variable {jF:Pos}{nt:Nat}{g:WG}
theorem W8n {P:M (M D)->Prop}       (hc:X.calm=true)(B:Blk X scope N nt cap)(hi:L0 X H0 tg iter wi)
  (hg:∀C s H fp,DG (blk X scope C s H fp N) H tg g) (he:∀C s H fp,DE (blk X scope C s H fp N) H dv we) (hs:∀x,foldedSetIterable iter X.env x=pure x)
  (I:?B) (hR:B6 X.K H0 τ σ H) (hw:wi τ fun ds=>ds.length<=sizeLine/\Q1i g we ds (Q7 nt cap τ) P)
  (fin:∀(C D0:Af) (s2 s4:Ae) (H2 H4:Hp) (fp:M Af) (pb:Pn9) (σ4:S5) (bs:M Af) (nn:Nat) (dss:M (M D)) (f:Flow),A1 X af σ H2 s2->A4 H H2->A1 ?H pb σ4 H4 s4->(∀b∈fp,J5 X af H2 b) ->
   s2.heap.objs.size<=C->s2.heap.objs.size<=D0->D0≠C->H4 D0=none->s4.heap.get? D0=some {cls:=.type "list",data:=.seq (bs.map Value.ref).toArray nn}->bs.length<=sizeLine->A4 H2 H4->bs.Nodup->(∀b∈bs,H2 b=none)->M0 X.K H4 bs dss->P dss->compPost ?C X.A X.xe use QQ (.ref D0) C (.ok f) s4):
  wpAny ?C X.A (comprehension (.ListComp dv [⟨tg,iter,[],0⟩] scope pos) scope X.env ml (newList []) false (eval iter X.env) use) QQ X.xe s:=by
 refine cI rfl hs (Q8r fun y hy e=>I.ok.has y.1 (B.free y hy e)) B.kind B.names ?_;refine B3 (hi.pi af s σ H (fun J H2=>A4 H H2/\∃ds,YlS X.K J ds H2/\ds.length<=sizeLine/\Q1i g we ds (Q7 nt cap τ) P) I
  ⟨τ,hR,hi.mono τ _ _ (fun ds h J H' sm yl=>⟨sm,ds,yl,h.1,h.2⟩) hw⟩) fun v s1 h1=>B3 h1 fun mo s2 h2=>?_
 obtain⟨it,fp,tn,J,H2,e,I2,T,fm,f2,dG,ds,yl,hz,kM⟩:=h2;subst e;have gW:∀b∈fp,b<s2.heap.objs.size:=fun b hb=>by
  obtain⟨o,ho,_⟩:=T.obj _ _ fm b hb;exact aw ho
 have eK:=hR.mono dG;refine bO (cA B.cell (by intro y hy;simp at hy) (fun h₁ du cQ=>?_) B.kind);dsimp only at du cQ ⊢;generalize hH2:s2.heap.push {cls:=.type "list",dict:=none,data:=.seq ([]:M Ad).toArray}=Hq at du cQ ⊢;have hC:Hq.objs.size=s2.heap.objs.size+1:=by rw[<-hH2,bi]
 have ee:s2.heap.objs.size≠Hq.objs.size:=by rw[hC];exact ax (cj _)
 have cO:s2.heap.objs.size<=Hq.objs.size:=by rw[hC];exact dF _
 have old:∀b o,s2.heap.get? b=some o->h₁.get? b=some o:=fun b o e=>cQ.extBut b o (by rw[hC];exact ax (bj (aw e))) (ae _ (hH2▸ae _ e));have dX:h₁.PlainList s2.heap.objs.size #[]:=⟨_,cQ.extBut _ _ ee (ae _ (hH2▸aD _ rfl))⟩
 generalize hCe:Hq.objs.size=C at du cQ hC ee cO ⊢;generalize hDe:s2.heap.objs.size=D0 at hC ee cO dX ⊢;have dU:∀b∈fp,b<D0:=fun b hb=>hDe▸gW b hb;have fx:tn 0 h₁:=T.keep _ _ _ fm fun b _ o e=>old b o e;have lu:=Q8m (C:=C) (h':=h₁) (t':=s2.toks+([]:M (Str×Ad)).length) I2 B f2 gW (by rw[hDe];exact cO) du old;have iP:H2 D0=none:=I2.hok.fresh (by rw[hDe];exact ao _);have kJ:D0∉U0 X.stack:=fun z=>by
  rcases av.mp (I2.stkSub _ z)with e |e
  ·have:=I2.lt;rw[<-e,hDe]at this;exact aS _ this
  ·exact I2.nofs (by rw[hDe];exact ao _) e
 have kK:∀x c,(S7 X.env scope.names []).lookup x=some c->c≠D0:=fun x c h z=>by
  obtain⟨v,q⟩:=I2.cell x c (X9 I2 B h);have:=q.lt;rw[z,hDe]at this;exact aS _ this
 have gk:∀{pb:Pn9} {σ':S5}{H':Hp}{s':Ae}{ys:Array Ad}{n:Nat},A1 ?H pb σ' H' s'->H' D0=none->s'.heap.get? D0=some {cls:=.type "list",data:=.seq ys n} ->
   A1 ?H [(D0,{cls:=.type "list",data:=.seq ys n})] σ' H' s':=by
  intro pb σ' H' s' ys n I' n' e;refine I'.pins_of fun p hp=>?_;have e':p=(D0,{cls:=.type "list",data:=.seq ys n}):=by simpa using hp
  subst e';exact⟨e,n',ee,kJ,fun v z=>by cases z⟩
 have gS:∀{H':Hp}{ob:Obj},(∀b∈fp,H' b=none)->∀b∈fp,J5 ?H [(D0,ob)] H' b:=by
  intro H' ob hn b hb;refine⟨hn b hb,(ax (ay (dU b hb) cO)),fun z=>?_,.inl hb,fun x c h=>(f2 b hb).2.2.2.2.1 x c (X9 I2 B h),fun p hp=>?_⟩
  ·rcases av.mp (I2.stkSub b z)with e |e
   ·exact(f2 b hb).2.1 e
   ·exact(f2 b hb).2.2.1 e
  ·have e':p=(D0,ob):=by simpa [blk]using hp
   subst e';exact(ax (dU b hb)).symm
 let jx:Nat->Ae->Prop:=fun k s'=>∃(i:Nat) (σ':S5) (H':Hp) (τ':B5) (nn:Nat) (bs:M Af) (dss:M (M D)),A1 ?H [(D0,{cls:=.type "list",data:=.seq (bs.map Value.ref).toArray nn})] σ' H' s'/\B6 X.K H2 τ' σ' H'/\tn i s'.heap /\
  (∀b∈fp,H' b=none)/\H' D0=none/\bs.Nodup/\(∀b∈bs,H2 b=none)/\M0 X.K H' bs dss/\i<=ds.length/\k=ds.length-i/\bs.length=i/\Q1i g we (ds.drop i) τ' fun ess=>P (dss++ess)
 have loop:∀s₃:Ae,s₃={s2 with heap:=h₁,toks:=s2.toks+([]:M (Str×Ad)).length} ->
   codeAny ?C X.A (.compLoop (.ListComp dv [⟨tg,iter,[],0⟩] scope pos) 0 (.ref it) (.ref D0) (compEnvC scope (S7 X.env scope.names []) C X.env))
    (compPost ?C X.A X.xe use QQ (.ref D0) C) s₃:=by
  rintro s₃ rfl;obtain⟨nn,ho⟩:=id dX;refine Z4s jx ?_ ds.length ⟨0,_,H2,Q7 nt cap τ,nn,[],[],gk lu iP ho,Z2f eK nt cap,fx,fun b hb=>(f2 b hb).1,iP,dM,(by intro b hb;cases hb),rfl,bz _,rfl,rfl,by simpa using kM⟩;rintro k s3 ⟨i,σ3,H3,τ3,nn,bs,dss,I3,R3,gn,gE,d3,tX,f3,qX,pS,rfl,lT,w3⟩;have cf:A4 H2 H3:=R3.same
  by_cases bU:i<ds.length
  ·refine aE (T.item ?H rfl rfl rfl hc i _ s3 σ3 H3 (fun _ _=>False) I3 (gS gE) gn (yl.go H3 cf i bU)) (fun r s4 bG=>?_) fun _ _ z=>z;obtain⟨u,hr,h4⟩:=bG;subst hr;refine aE h4 (fun _ s5 bG=>?_) fun _ _ z=>z;obtain⟨x,H5,I5,r5,y5,fk,jl⟩:=bG;obtain⟨gV,ix⟩:=yl.yld H3 cf i x H5 _ (ac bU) y5;rw[bJ bU]at w3;have jm:=I5.pinned (gS jl) (T.obj _ _ fk);refine aE ((hg C s2 H2 fp).pg _ s5 σ3 H5 x u (fun σ6 H6=>∃ τ6,B6 X.K H2 τ6 σ6 H6/\A4 H5 H6/\we τ6 fun r=>∃es,r=.nw es/\Q1i g we (ds.drop (i+1)) τ6 fun ess=>P (dss++(es::ess)))
    jm r5 ⟨τ3,ds[i],R3.mono gV,ix,(hg C s2 H2 fp).mono _ _ _ _ (fun τ6 h6 σ6 H6 gM R6=>⟨τ6,R6,gM,h6⟩) w3⟩) (fun _ s6 mr=>?_) fun _ _ z=>z
   obtain⟨σ6,H6,I6,τ6,R6,gM,w6⟩:=mr;refine dR ?_;rw[aQ rfl];refine aE ((he C s2 H2 fp).pe _ s6 σ6 H6 (fun v H8=>A4 H6 H8/\∃es,E1 X.K H6 H8 (.nw es) v/\Q1i g we (ds.drop (i+1)) τ6 fun ess=>P (dss++(es::ess))) I6
    ⟨τ6,R6,(he C s2 H2 fp).mono τ6 _ _ (fun r de v H8 jG ir=>(by obtain⟨e,e1,h⟩:=de;exact⟨jG,e,by subst e1;exact ir,h⟩)) w6⟩) (fun y s8 rf=>?_) fun _ _ z=>z
   obtain⟨v8,H8,I8,kG,kF,es,⟨b,xs,eb,nb,oM,ya⟩,w8⟩:=rf;subst eb;obtain rfl:y=Value.ref b:=kG;have pd:=I8.pin (D0,_) (ai _ (aV _ am));obtain⟨o8,d8,_⟩:=pd;have xo:b≠D0:=fun z=>by rw[z,d8]at oM;cases oM
   obtain⟨zb,r8,vR,rb,ob⟩:=I8.hok b _ oM;have vg:A1 ?H ([(D0,{cls:=.type "list",data:=.seq (bs.map Value.ref).toArray nn})]++V1 fp s5.heap) σ6 (A6 H8 b (.ext (LO b xs))) s8:=
    I8.write (t':=s8.toks) (h':=s8.heap) (e:=b) (by rw[oM];trivial) (.inl rfl) (fun c u _ k=>k) ⟨_,ob⟩ (LO.ok ⟨zb,r8,vR,rb,ob⟩)
   have kp:Kp H8 (A6 H8 b (.ext (LO b xs))):=Q6o oM _;have me:A4 H6 (A6 H8 b (.ext (LO b xs))):=fun c u q=>by rw[A7 (V0 q nb)];exact kF c u q
   have nY:(bs.map Value.ref).toArray.size<=sizeLine:=by simp;lia
   refine dZ (hsz:=nY) ⟨nn,o8⟩ fun h₅ ot mv=>?_;have n8:A1 ?H (V1 fp s5.heap) σ6 (A6 H8 b (.ext (LO b xs))) s8:=vg.pins_of fun p hp=>vg.pin p (ai _ (ai _ hp));have t3:A6 H8 b (.ext (LO b xs)) D0=none:=by rw[A7 (bY xo)];exact d8
   have I9:A1 ?H (V1 fp s5.heap) σ6 (A6 H8 b (.ext (LO b xs))) {s8 with heap:=h₅}:=by
    refine n8.turned (t':=s8.toks) (it:=D0) (fun c o hb e=>(mv.2 c hb).trans e) t3 ee (.inr (by rw[<-hDe];exact ao _)) kK (fun p hp z=>?_);obtain⟨q1,_⟩:=Q6b (by simpa [blk]using hp);exact ax (dU _ q1) z
   obtain⟨nT,o9⟩:=ot;have vJ:h₅.get? D0=some {cls:=.type "list",data:=.seq ((bs++[b]).map Value.ref).toArray nT}:=by rw[o9];simp
   have pH:A4 H3 H6:=gV.trans gM;have kA:tn (i+1) h₅:=T.keep _ _ _ fk fun b hb o e=>(I9.pin (b,o) (ai _ (Q0k hb e))).1;have vT:M0 X.K (A6 H8 b (.ext (LO b xs))) bs dss:=qX.keep (Kp.of (pH.trans me)) fun c φ q=>(pH.trans me) _ _ q;refine⟨ds.length-(i+1),by lia,i+1,σ6,_,τ6,nT,bs++[b],dss++[es],gk I9 t3 vJ,R6.mono me,kA,fun c hb=>?_,t3,?_,fun c hc=>?_,vT.append upd_same (ya.mono kp _ _),bU,rfl,by rw[aC,lT];rfl,by simpa using w8⟩
   ·obtain⟨o,e,_⟩:=T.obj _ _ fk c hb;exact(I9.pin (c,o) (ai _ (Q0k hb e))).2.1
   ·rw[ba];refine⟨tX,by simp,fun c hc c' dW z=>?_⟩;rw[show c'=b by simpa using dW]at z;obtain⟨nN,q⟩:=qX.mem hc;have q6:=pH _ _ q;rw[z,nb]at q6;cases q6
   ·rcases aH.mp hc with z |z
    ·exact f3 c z
    ·rw[aG.mp z];exact(cf.trans pH).free nb
  ·have e:i=ds.length:=by lia
   subst e;refine aE (T.done ?H rfl rfl rfl hc ds.length _ s3 σ3 H3 (fun _ _=>False) I3 (gS gE) gn (yl.stop H3 cf)) (fun r s4 bG=>?_) fun _ _ z=>z;obtain⟨hr,I4⟩:=bG;subst hr;have o4:=(I4.pin (D0,_) (ai _ am)).1;rw[cF]at w3;have w3:P (dss++[]):=w3;rw[b8]at w3;exact fin C D0 s2 s4 H2 H3 fp _ σ3 bs nn dss _ I2 dG I4 f2 (by rw[hDe];exact cO) (by rw[hDe];exact ao _) ee d3 o4 (by lia) cf tX f3 qX w3
 exact gG (loop _ rfl) (T.self _ 0 _ _ _ fx (loop _ rfl))
def Z3k (i nt:Nat)(cap:M Nat)(wi:T5)(g:WG)(we:WE):WS:=fun E τ=>wi τ fun ds=>ds.length<=sizeLine/\Q1i g we ds (Q7 nt cap τ) fun dss=>∀a,E.nx (τ.set i (some (.ll a dss)))
def Y0q {i:Nat}  (hc:X.calm=true)(B:Blk X scope N nt cap)(hi:L0 X H0 tg iter wi)(hg:∀C s H fp,DG (blk X scope C s H fp N) H tg g)(he:∀C s H fp,DE (blk X scope C s H fp N) H dv we)(hN:X.N.Nodup)(oA:X.N[i]?=some x)(hx:Loc X.env.scope x)
  (kO:swapsWith (.ListComp dv [⟨tg,iter,[],0⟩] scope pos) (some (.Name x cn)) jF.line X.env=pure true:=by rfl) (hs:∀x,foldedSetIterable iter X.env x=pure x:=by intro _;rfl)
  (hf:?J:=by first |exact .inl rfl |exact .inr rfl |assumption):
  DS X H0 (.Assign [.Name x cn] (.ListComp dv [⟨tg,iter,[],0⟩] scope pos) jF) (Z3k i nt cap wi g we) where
 mono:=fun τ E F le h=>hi.mono τ _ _ (fun ds h=>⟨h.1,Y2w (hg 0 X.s₀ X.H₀ []).mono (he 0 X.s₀ X.H₀ []).mono ds _ _ _ (fun es h a=>le.nx _ (h a)) h.2⟩) h
 ps:=by
  intro af s σ H D I ⟨τ,hR,hw⟩;rw[exec_Assign_Name_used _ _ _ _ kO];refine aa (bP (aa ?_))
  change wpAny ?C X.A (do let _ <- comprehension (.ListComp dv [⟨tg,iter,[],0⟩] scope pos) scope X.env _ (newList []) false (eval iter X.env) (some (assign (.Name x cn) X.env))) _ _ s
  refine aa (aE (W8n (use:=some (assign (.Name x cn) X.env)) (QQ:=fun _ s'=>SP X af D .next s') hc B hi hg he hs I hR hw fun C D0 s2 s4 H2 H4 fp pb σ4 bs nn dss f I2 dG I4 f2 hC hD ee hn ho hz kD nd fr ll w3=>?_)
   (fun _ s' hq=>aj (aj hq)) fun _ _ e=>e)
  have Ib:A1 X af σ (A6 H4 D0 (.ext (LO D0 (bs.map V.ref)))) {s4 with heap:=s4.heap}:=
   Y2h I2 I4 f2 hC hD hn ⟨rfl,fun _ _=>rfl⟩ (LO.ok ⟨by rw[ag];exact hz,bs.map Value.ref,nn,Z8w bs,ho⟩)
  have oW:C≠X.env.locals:=fun z=>aS _ (ay I2.lt (z▸hC));have oV:∀x c,X.env.cells.lookup x=some c->c≠C:=fun x c h z=>by
   obtain⟨v,q⟩:=I2.cell x c h;exact aS _ (ay q.lt (z▸hC))
  change wpAny ?C X.A (assign (.Name x cn) X.env (Value.ref D0)) _ _ s4
  refine kt (Z2t (v:=.ref D0) Ib hN oA hx rfl (fun s5 I5 bG=>?_) hf);obtain⟨a,qD,ha⟩:=bG;obtain⟨m4,kZ,_⟩:=id I4.loc;have sQ:C≠a:=by
   rcases ha with ha |ha
   ·rw[ha];exact oW
   ·exact fun z=>oV _ _ ha z.symm
  refine⟨m4,kZ.sameBut qD sQ,fun h' sb=>?_⟩;have sR:H4 C=none:=I4.free;have I6:A1 X af (σ.set i (some (.ref D0))) (A6 H4 D0 (.ext (LO D0 (bs.map V.ref)))) {s5 with heap:=h'}:=by
   refine I5.turned (t':=s5.toks) (it:=C) (fun b o hb e=>(sb.2 b hb).trans e) (by rw[A7 (bY ee)];exact sR) oW (.inr (aO I2.sz hC)) oV fun p hp z=>?_;have:=(I2.pin p hp).1;exact aS _ (ay (aw this) (z▸hC))
  have kb:A4 H (A6 H4 D0 (.ext (LO D0 (bs.map V.ref)))):=dG.trans (kD.trans (K2 hn _));have eO:=(hR.mono kb).set (i:=i) (s:=.ll D0 dss) (v:=.ref D0) ⟨rfl,bs,⟨upd_same,((hR.same.trans dG).trans kD).free hn,fun z=>by obtain⟨xs,q⟩:=ll.mem z;rw[hn]at q;cases q⟩,nd,fun b hb=>(hR.same.trans dG).free (fr b hb),ll.keep (Kp.of (K2 hn _)) fun c φ q=>by rw[A7 (V0 q hn)];exact q⟩ fun m=>by cases m
  exact⟨_,_,I6,w3 D0 _ _ (Kp.of kb) eO⟩
end
theorem C9.hid {S:M Af}  (hS:T3 S H):∀{kvs:M (κ×D)}{ps:M (κ×V)},C9 K H kvs ps->C9 K (G1 S H) kvs ps
 |[],ps,h=>h
 |p::kvs,ps,h=>by obtain⟨v,r,e,q,t⟩:=h;exact⟨v,r,e,A3.hid hS _ _ q,C9.hid hS t⟩
def Q6.hid {kvs:M (B0×D)}:Q3i (Q6 K a kvs):=fun S H hS cw=>by
 obtain⟨o,ps,h,q⟩:=cw;refine⟨o,ps,?_,q.hid hS⟩;rw[Z7]
 ·exact h
 ·intro ha;obtain⟨o',u,e,_⟩:=hS a ha;rw[h]at e;cases e
section
variable {w:WS}{a o:Ag}{wk:WE}{i j nt:Nat}{pC:T5}{g:WG}{E:J4}{Q:R->Prop}
def Q9z (i:Nat)(w:WS):WS:=fun E τ=>w {E with nx:=fun τ'=>∃ds,τ'[i]?=some (some (.own ds))/\E.nx (τ'.set i (some (.dat (.lst ds))))} τ
def Y0n (i:Nat)(h:DS X H0 st w):DS X H0 st (Q9z i w) where
 mono:=fun τ E F le q=>h.mono τ {E with nx:=fun τ'=>∃ds,τ'[i]?=some (some (.own ds))/\E.nx (τ'.set i (some (.dat (.lst ds))))} {F with nx:=fun τ'=>∃ds,τ'[i]?=some (some (.own ds))/\F.nx (τ'.set i (some (.dat (.lst ds))))} ⟨fun τ'⟨ds,e,q⟩=>⟨ds,e,le.nx _ q⟩,le.rt,le.bk,le.ct⟩ q
 ps:=U2 (Z7b h.ps) fun D σ H ⟨τ,hR,q⟩=>⟨τ,hR,h.mono τ {P0 X.K H0 H D with nx:=fun τ'=>∃ds,τ'[i]?=some (some (.own ds))/\(P0 X.K H0 H D).nx (τ'.set i (some (.dat (.lst ds))))} _ ⟨fun τ' eI σ' H' kp eO af s I=>by
  obtain⟨ds,e,q⟩:=eI;obtain⟨a,xs,hv,h0,sq,al⟩:=eO.ownAt e;obtain⟨o,I2⟩:=A1.freeze I sq;exact⟨_,I2,q σ' _ (kp.trans (Q6o sq _)) (eO.freeze e hv h0 sq al)⟩,fun _ h=>h,fun _ h=>h,fun _ h=>h⟩ q⟩
@[simp] theorem Z7k:Q9z i w E τ=w {E with nx:=fun τ'=>∃ds,τ'[i]?=some (some (.own ds))/\E.nx (τ'.set i (some (.dat (.lst ds))))} τ:=rfl
@[simp] theorem V4v:Z9e K i w E τ=w {E with nx:=fun τ'=>∃kvs,τ'[i]?=some (some (.dk kvs))/\∀a,E.nx (τ'.set i (some (.cl a (Q6 K a kvs))))} τ:=rfl
@[simp] theorem Y8e:Z3f i w E τ=w {E with nx:=fun τ'=>∃a dss,τ'[i]?=some (some (.ll a dss))/\Q1b i τ'=true/\E.nx (τ'.set i (some (.dat (.lst (dss.map .lst)))))} τ:=rfl
@[simp] theorem V5m:Z9k K i E τ=∃kvs,τ[i]?=some (some (.dk kvs))/\∀a,E.rt (.cl a (Q6 K a kvs)):=rfl
@[simp] theorem V5n:Z9m i we E τ=we τ fun r=>∃a Φ,r=.cl a Φ/\E.nx (τ.set i (some (.cl a Φ))):=rfl
@[simp] theorem Y8d:Z3e K i we τ Q=∃a kvs,τ[i]?=some (some (.cl a (Q6 K a kvs)))/\we τ fun r=>∃kd k d,r=.st kd/\N9 kd=some k/\F4 kvs k=some d/\Q (.st d):=rfl
@[simp] theorem V4u:Z9d K i we τ Q=∃a kvs,τ[i]?=some (some (.cl a (Q6 K a kvs)))/\we τ fun r=>∃kd k,r=.st kd/\N9 kd=some k/\Q (.st ((F4 kvs k).getD .non)):=rfl
@[simp] theorem V5e:Z9g i E τ=E.nx (τ.set i (some (.dk []))):=rfl
@[simp] theorem Y8g:Z3h i we wv E τ=(i<τ.length/\we τ fun rk=>∃kd k,rk=.st kd/\N9 kd=some k/\wv τ fun r=>∃d,r=.st d/\E.nx (τ.set i (some (.dk [(k,d)])))):=rfl
@[simp] theorem V5g:Z3j i we wv E τ=∃kvs,τ[i]?=some (some (.dk kvs))/\we τ fun rk=>∃kd k,rk=.st kd/\N9 kd=some k/\wv τ fun r=>∃d,r=.st d/\kvs.length<sizeLine/\E.nx (if (F4 kvs k).isSome=true then τ else τ.set i (some (.dk (kvs++[(k,d)])))):=rfl
@[simp] theorem V5d:Z9f i nt cap pC g wk wv E τ=pC τ fun ds=>ds.length<sizeLine/\Z5 g wk wv ds (Q7 nt cap τ) [] fun kvs=>E.nx (τ.set i (some (.dk kvs))):=rfl
@[simp] theorem Y8j:Z3k i nt cap pC g we E τ=pC τ fun ds=>ds.length<=sizeLine/\Q1i g we ds (Q7 nt cap τ) fun dss=>∀a,E.nx (τ.set i (some (.ll a dss))):=rfl
@[simp] theorem Y8i:Q6i i we wv E τ=∃a dss,τ[i]?=some (some (.ll a dss))/\Q1b i τ=true/\we τ fun r=>∃k j,r=.st (.int k)/\ixN dss.length k=some j/\wv τ fun r2=>∃d,r2=.st d/\(dss.getD j []).length<sizeLine/\E.nx (τ.set i (some (.ll a (dss.set j (dss.getD j []++[d]))))):=rfl
@[simp] theorem V5h {kvs:M (B0×D)}:Q5u [.dk kvs] Q=Q (.nw (kvs.map fun p=>kyD p.1)):=rfl
@[simp] theorem V5j {r:R}:Q2x [r] Q=∃ns:M Int,Q2v r=some (ns.map .int)/\ns≠[]/\∀m,m∈ns->(∀n∈ns,n<=m)->Q (.st (.int m)):=rfl
end
section
variable {w:Ak}{A:Ah}{t:Af}{i:Nat}{items:Array Ad}
def W9z {x:Ad}  (hit:s.heap.IsTupleIter it t i)(ht:s.heap.IsTuple t items)(hx:items[i]?=some x)(hQ:∀h',h'.IsTupleIter it t (i+1)->Heap.SameBut it s.heap h'->Q x {s with heap:=h'}):
  wpAny (model P w) A (Builtin.SmallTypes.nextOf (.ref it)) Q E s:=by
 obtain⟨o,ho,hc,hd⟩:=id hit;obtain⟨ol,rS,_,nl,sy⟩:=ht;unfold Builtin.SmallTypes.nextOf;refine aa (bS (name:=Str.ofString "__next__") hit.typeIs di (bx di hit.typeIs pA ?_ (nG _)))
 change wpAny (model P w) A.in1 (field (Value.ref it) 0>>=_) _ _ s
 refine aa (bT ho hd (x:=.ref t) rfl (?_:wpAny (model P w) A.in1 (if (Value.ref t==Value.none)=true then _ else _) _ _ s));rw[aI (show ¬ (Value.ref t==Value.none)=true from aW)]
 change wpAny (model P w) A.in1 (field (Value.ref it) 1>>=_) _ _ s
 refine aa (bT ho hd (x:=.int i 0) rfl (?_:wpAny (model P w) A.in1 (seqItems? (Value.ref t)>>=_) _ _ s));refine aa (ce rS sy ?_);simp only[bL,hx];refine aa (fK ho hd ?G (aj ⟨x,rfl,aj (hQ _ ⟨_,bZ _ ho (hZ (c9 hd _)),(kw ..).trans hc,by rw[c9 hd];simp[rawInt]⟩ (bh ..))⟩))
def V0a (hh:A.handled=none)(hit:s.heap.IsTupleIter it t i)(ht:s.heap.IsTuple t items)(hx:items[i]?=none)
  (hE:∀h' e,Heap.ExtBut it s.heap h'->(∃o,h'.get? e=some o/\o.cls=.type "StopIteration")->E (.ref e) {s with heap:=h'}):wpAny (model P w) A (Builtin.SmallTypes.nextOf (.ref it)) Q E s:=by
 obtain⟨o,ho,hc,hd⟩:=id hit;obtain⟨ol,rS,_,nl,sy⟩:=ht;unfold Builtin.SmallTypes.nextOf;refine aa (bS (name:=Str.ofString "__next__") hit.typeIs di (bx di hit.typeIs pA ?_ (nG _)))
 change wpAny (model P w) A.in1 (field (Value.ref it) 0>>=_) _ _ s
 refine aa (bT ho hd (x:=.ref t) rfl (?_:wpAny (model P w) A.in1 (if (Value.ref t==Value.none)=true then _ else _) _ _ s));rw[aI (show ¬ (Value.ref t==Value.none)=true from aW)]
 change wpAny (model P w) A.in1 (field (Value.ref it) 1>>=_) _ _ s
 refine aa (bT ho hd (x:=.int i 0) rfl (?_:wpAny (model P w) A.in1 (seqItems? (Value.ref t)>>=_) _ _ s));refine aa (ce rS sy ?_);simp only[bL,hx];refine aa (dw (aa (fK ho hd ?G (?_:wpAny (model P w) A.in1 (newExc (.type "StopIteration") []>>=_) _ _ _))));refine aa ?_;simp only[newExc,newTuple];refine aa (bO (?_) (by size_fits));refine aa (m:=firstArgMember _ _) (wpAny_of_eq (a:=Value.none) (by rfl) (bO ?_ (by size_fits)));simp only[raiseNew];refine aa (wpAny_handled ?_);rw[show A.in1.handled=none from hh];exact aa (aj (wpAny_throw (hE _ _ (((bh ..).extBut.push _).push _) ⟨_,aD _ rfl,rfl⟩)))
end
def Z5a {w:Ak}{A:Ah}(hh:A.handled=none)(it t:Af)(dO:t≠it)(items:Array Ad):
  Draws P w A it [it,t] items.size (fun i v=>items[i]?=some v) (fun i h=>h.IsTupleIter it t i/\h.IsTuple t items) where
 live:=fun _ _ st=>let ⟨o,ho,_⟩:=st.1;⟨o,ho⟩
 frame:=fun _ _ _ cw hk=>(by obtain⟨⟨o,ho,r⟩,o2,kX,r2⟩:=cw;exact⟨⟨o,hk it ?G o ho,r⟩,o2,hk t ?G o2 kX,r2⟩)
 item:=fun i s Q E hi st hQ=>W9z st.1 st.2 (x:=items[i]) (by simp[hi]) fun h' mO kQ=>hQ _ h' s.toks (by simp[hi]) ⟨mO,st.2.extBut kQ.extBut dO⟩ kQ
 done:=fun s Q E st hE=>V0a hh st.1 st.2 ?G hE
open AutoSeq1 (wpAny_loadPart') in
def W5y (t:Af)(items:Array Ad):
  Meets (Builtin.«enumerate.__new__» ⟨[.type "enumerate",.ref t],[]⟩) (fun _ R s=>s.heap.IsTuple t items /\
   R (.ok (.ret (.ref (s.heap.push {cls:=.type "tuple_iterator",data:=.fields #[.ref t,.int 0 0]}).objs.size)))
    {s with heap:=(s.heap.push {cls:=.type "tuple_iterator",data:=.fields #[.ref t,.int 0 0]}).push {cls:=.type "enumerate",data:=.fields #[.none,.bool false,.ref s.heap.objs.size,rawInt 0,.none,.none]}}):=
 .of_wp fun prog w A R s h=>by
  obtain⟨hp,g,d,tk,os⟩:=s;obtain⟨hL,h⟩:=h;obtain⟨⟨c,yM,dt,sl⟩,hl,hc,n,hd⟩:=id hL
  replace hc:c=.type "tuple":=hc
  replace hd:dt=.seq items n:=hd
  subst hc hd;have hL:Heap.IsTuple (Shared.heap ⟨hp,g,d,tk,os⟩) t items:=hL;have mw:=sub_enumerate
  wp_walk using wpAny_loadPart' hl
  refine wpAny_stack_any fun st=>aj ?_;split
  ·rename_i c _ _ _ _ _;cases (c==Value.type "enumerate")<;>(wp_walk using wpAny_loadPart' hl,fH hL)<;>exact⟨_,rfl,h⟩
  ·wp_walk using wpAny_loadPart' hl,fH hL
   exact⟨_,rfl,h⟩
section
variable {w:Ak}{A:Ah}
def Y2l {t:Af}{items:Array Ad}  (ht:s.heap.IsTuple t items)
  (h:∀h',IsEnum h' (s.heap.objs.size+1) s.heap.objs.size 0 .none->h'.IsTupleIter s.heap.objs.size t 0->h'.objs.size=s.heap.objs.size+2->(∀b o,s.heap.get? b=some o->h'.get? b=some o)->Q (.ref (s.heap.objs.size+1)) {s with heap:=h'}):
  wpAny (model P w) A (call (.type "enumerate") [.ref t]) Q E s:=by
 refine callType_new F.called_enumerate (?K) (F.typeCall_enumerate_1 _) (F.newCall_enumerate_1 _) (fun obj=>F.args_object_init_2 obj _) F.entry_enumerate_new (W5y t items) ⟨ht,?_⟩;have hz:(s.heap.push {cls:=.type "tuple_iterator",data:=.fields #[.ref t,.int 0 0]}).objs.size=s.heap.objs.size+1:=bi ..;have he:IsEnum ((s.heap.push {cls:=.type "tuple_iterator",data:=.fields #[.ref t,.int 0 0]}).push {cls:=.type "enumerate",data:=.fields #[.none,.bool false,.ref s.heap.objs.size,rawInt 0,.none,.none]}) (s.heap.objs.size+1) s.heap.objs.size 0 .none:=by
  have e:=aD (s.heap.push {cls:=.type "tuple_iterator",data:=.fields #[.ref t,.int 0 0]}) (o:={cls:=.type "enumerate",data:=.fields #[.none,.bool false,.ref s.heap.objs.size,rawInt 0,.none,.none]}) rfl;rw[hz]at e;exact e
 rw[hz];exact⟨⟨_,he,rfl⟩,h _ he ⟨_,ae _ (aD _ rfl),rfl,rfl⟩ (by rw[bi,hz]) fun b o x=>ae _ (ae _ x)⟩
end
def Iet (K:Fg9)(l:Af):It:=⟨fun i H=>∃xs x,E7 K H l xs/\xs[i]?=some x,fun i H v H'=>∃T x,(∀xs,E7 K H l xs->xs[i]?=some x)/\H T=none/\v=.ref T/\H'=A6 H T (.tup [.int (i:Int),x]),fun i H=>∃xs,E7 K H l xs/\xs.length=i⟩
theorem W0c {w:Ak}    {pt:Pos}  (dO:en≠it)(js:l≠en)(oy:l≠it):
  Q2m P w K (.Tuple gT kk pt) (Iet K l) [en,it] en (fun i h=>(∃old,IsEnum h en it i old)/\h.IsTupleIter it l i) where
 mem:=by simp
 obj:=fun i h st b hb=>by
  obtain⟨⟨old,he⟩,o,ho,_,d⟩:=st;rcases av.mp hb with rfl |hb
  ·exact⟨_,he,fun v z=>by cases z⟩
  ·have e:b=it:=by simpa using hb
   subst e;exact⟨o,ho,fun v z=>by rw[d]at z;cases z⟩
 keep:=fun i h h' de k=>(by obtain⟨⟨old,he⟩,o,ho,r⟩:=de;exact⟨⟨old,k en ?G _ he⟩,o,k it ?G o ho,r⟩)
 item:=by
  back_in;obtain⟨xs,x,hq,hx⟩:=hg;obtain⟨bb,rv,p,hz⟩:=I.tuple hq;have W:=g7 (Z5a (P:=X.prog) (w:=X.w) (A:=X.A.in1) (show X.A.in1.handled=none from I.ok.hd hc) it l oy bb.toArray) en dO (by simp;exact⟨dO,fun z=>js z.symm⟩) ?G;obtain⟨u,hu,ru⟩:=rv.get hx;have bU:i<bb.toArray.size:=by
   rcases bf i bb.length with h |h
   ·simpa using h
   ·rw[aF.mpr h]at hu;cases hu
  refine W.item i s _ _ bU ⟨st.1,st.2,p⟩ fun T ja h' tk hv hT oU lJ k=>?_;obtain⟨t1,y,hy,rfl⟩:=hv;have ey:y=u:=by
   have:bb[i]?=some y:=by simpa using hy
   rw[hu]at this;exact(aA this).symm
  subst ey;refine⟨_,rfl,W.go gT kk pt i T {s with heap:=h',toks:=tk} _ _ lJ fun h2 fm k2=>?_⟩;have mn:∀b o,b∉[en,it]->s.heap.get? b=some o->h2.get? b=some o:=fun b o hb e=>k2 b o hb (k b o hb e);have lU:=W.apart i T h' lJ;have iO:IsTup h2 T ([Value.int (i:Int) t1,y]).toArray:=by
   obtain⟨o,ho,r⟩:=oU;exact⟨o,k2 T o lU ho,r⟩
  have I2:=Z2x (t':=tk) (xs:=[.int (i:Int),x]) I mn hf hT iO (.cons ⟨t1,rfl⟩ (.cons ru .nil)) (by show 2<=sizeLine;decide);refine⟨.ref T,_,I2,rfl,⟨T,x,fun ys hy=>by rw[I.tuple_inj hy hq];exact hx,I.hok.fresh hT,rfl,rfl⟩,⟨fm.1,fm.2.1⟩,fun b hb=>?_⟩;rw[A7 (show b≠T from fun z=>lU (by rw[<-z];exact hb))];exact(hf b hb).1
 done:=by
  back_in;obtain⟨xs,hq,hx⟩:=hg;obtain⟨bb,rv,p,hz⟩:=I.tuple hq;have W:=g7 (Z5a (P:=X.prog) (w:=X.w) (A:=X.A.in1) (show X.A.in1.handled=none from I.ok.hd hc) it l oy bb.toArray) en dO (by simp;exact⟨dO,fun z=>js z.symm⟩) ?G;have hl:=rv.length;have e:i=bb.toArray.size:=by simp;lia
  subst e;exact W.done s _ _ ⟨st.1,st.2,p⟩ fun h' tk k=>⟨rfl,Q8a I k hf⟩
 self:=fun A i s Q E eI h=>(by obtain⟨⟨old,he⟩,_⟩:=eI;exact ci he h)
def Z3t {ds:M D}(hq:H l=some (.tup xs))(al:AllS K H ds xs):Yl K H0 (Iet K l) (K0 ds) H where
 go:=fun H' k s i hi=>by
  rw[Q4l]at hi;exact⟨xs,xs[i]'(by rw[<-al.length];exact hi),E7.of (k.tup _ _ hq),ac _⟩
 yld:=fun H' k s i v fz d hd fR=>by
  obtain⟨T,x,hx,hT,hv,hH⟩:=fR;subst hH hv;refine⟨K2 hT _,?_⟩;obtain⟨y,hy,rfl⟩:=Z0z hd;obtain⟨v,hv,q⟩:=al.get hy;rw[hx xs (E7.of (k.tup _ _ hq))]at hv;cases hv;exact A3.s_tup upd_same (AllS.cons Q3k (AllS.cons (q.mono (k.trans (Kp.of (K2 hT _))) _ _) AllS.nil))
 stop:=fun H' k s=>⟨xs,E7.of (k.tup _ _ hq),by rw[Q4l];exact al.length.symm⟩
def V8n:Yl K H0 (Ies x) (K0 (N7 x)) H where
 go:=fun H' _ _ i hi=>(Y0d (K:=K) (H:=H')).go H' (A4.refl _) i hi
 yld:=fun H' _ _ i v fz d hd h=>(Y0d (K:=K) (H:=H')).yld H' (A4.refl _) i v fz d hd h
 stop:=fun H' _ _=>(Y0d (K:=K) (H:=H')).stop H' (A4.refl _)
section
variable {a:Ag}
def Q3t (wr:WA):WI:=fun τ Q=>wr τ fun rs=>(∃x,rs=[.st (.str x)]/\Q (K0 (N7 x)) τ)\/∃ds,rs=[.st (.tup ds)]/\Q (K0 ds) τ
def DI.enumX {pt:Pos}(hg:Gl X "enumerate")(hm:X.mg "enumerate"=none)(hv:bootBuiltins "enumerate"=some (.type "enumerate"))(ha:DA X H0 [a] wr)(he:starEach [a] X.env=(false,eval a X.env)::starEach [] X.env:=by rfl)(hpl:(backTo pos (starEach [] X.env)).any (·.1)=false:=by rfl):
  DI X H0 (.Tuple gT kk pt) (.Call (.Name "enumerate" p) [a] [] pos) (Q3t wr) where
 mono:=fun τ P Q f h=>ha.mono τ _ _ (fun r h=>h.imp (fun⟨x,e1,q⟩=>⟨x,e1,f _ _ q⟩) fun⟨ds,e1,q⟩=>⟨ds,e1,f _ _ q⟩) h
 pi:=by
  intro af s σ H R I ⟨τ,hR,h⟩;refine bn (Q3v I hg hm hv ?_ (?K) (?K));refine bE (B3 (ha.pa pos af s σ H (fun vs H1=>A4 H H1/\((∃x,vs=[.str x]/\∀J H',Kp H H'->B6 X.K H0 τ σ H'->Yl X.K H0 J (K0 (N7 x)) H'->R J H') \/
    ∃l xs ds,vs=[.ref l]/\H1 l=some (.tup xs)/\AllS X.K H1 ds xs/\∀J H',Kp H H'->B6 X.K H0 τ σ H'->Yl X.K H0 J (K0 ds) H'->R J H')) I
   ⟨τ,hR,ha.mono τ _ _ (fun rs h vs H1 s1 eD=>⟨s1,?_⟩) h⟩) fun us s1 ⟨vs,H1,I1,rv,sm,hh⟩=>?_) he hpl
  ·rcases h with⟨x,e1,q⟩ |⟨ds,e1,q⟩
   ·subst e1;obtain⟨v,rfl,ir⟩:=Q1q eD;cases (show v=.str x from ir);exact .inl ⟨x,rfl,q⟩
   ·subst e1;obtain⟨v,rfl,ir⟩:=Q1q eD;have ir:A3 X.K H1 (.tup ds) v:=ir;unfold A3 at ir;obtain⟨l,xs,rfl,sq,al⟩:=ir;exact .inr ⟨l,xs,ds,rfl,sq,al,q⟩
  ·have big:∀b∈[s1.heap.objs.size+1,s1.heap.objs.size],J5 X af H1 b:=fun b hb=>by
    have hb:s1.heap.objs.size<=b:=by
     rcases av.mp hb with rfl |hb
     ·exact dF _
     ·have e:b=s1.heap.objs.size:=by simpa using hb
      rw[e];exact ao _
    exact I1.fpOk hb (I1.hok.fresh hb)
   rcases hh with⟨x,rfl,q⟩ |⟨l,xs,ds,rfl,sq,al,q⟩
   ·obtain⟨u,rfl,ru⟩:=Q2g rv;obtain⟨t,rfl⟩:=ru;refine call_enumerate_str fun h' he hi hz k=>?_;exact ci he ⟨s1.heap.objs.size+1,[s1.heap.objs.size+1,s1.heap.objs.size],_,_,H1,rfl,I1.kept (t':=s1.toks) k,V7s (x:=x) (t:=t) (ef _),⟨⟨_,he⟩,hi⟩,big,q _ _ (Kp.of sm) (hR.mono sm) V8n⟩
   ·obtain⟨u,rfl,ru⟩:=Q2g rv;cases (show u=Value.ref l from ru);obtain⟨bb,kc,pl,lK⟩:=I1.tuple (E7.of sq);have hl:l<s1.heap.objs.size:=by obtain⟨o,ho,_⟩:=pl;exact aw ho
    refine Y2l pl fun h' he hi hz k=>?_;exact ci he ⟨s1.heap.objs.size+1,[s1.heap.objs.size+1,s1.heap.objs.size],_,_,H1,rfl,I1.kept (t':=s1.toks) k,W0c (l:=l) (ef _) (ax (bj hl)) (ax hl),⟨⟨_,he⟩,hi⟩,big,q _ _ (Kp.of sm) (hR.mono sm) (Z3t sq al)⟩
@[simp] theorem Z2i {Q:M D->B5->Prop}:Q3t wr τ Q=wr τ fun rs=>(∃x,rs=[.st (.str x)]/\Q (K0 (N7 x)) τ)\/∃ds,rs=[.st (.tup ds)]/\Q (K0 ds) τ:=rfl
end
def V8r {ds:M D}(hq:H l=some (.tup xs))(al:AllS K H ds xs):YlS K (Iet K l) (K0 ds) H where
 go:=fun H' s i hi=>(Z3t (H0:=H) hq al).go H' (Kp.of s) s i hi
 yld:=fun H' s i v fz d hd h=>(Z3t (H0:=H) hq al).yld H' (Kp.of s) s i v fz d hd h
 stop:=fun H' s=>(Z3t (H0:=H) hq al).stop H' (Kp.of s) s
section
variable {a:Ag}
def W5:R->Ac (M D)
 |.st (.tup ds)=>some ds
 |r=>Q2v r
def Z1k (wr:WA):T5:=fun τ Q=>wr τ fun rs=>∃r ds,rs=[r]/\W5 r=some ds/\Q (K0 ds)
def L0.enumX {pt:Pos}(hg:Gl X "enumerate")(hm:X.mg "enumerate"=none)(hv:bootBuiltins "enumerate"=some (.type "enumerate"))(ha:DA X H0 [a] wr)(he:starEach [a] X.env=(false,eval a X.env)::starEach [] X.env:=by rfl)(hpl:(backTo pos (starEach [] X.env)).any (·.1)=false:=by rfl):
  L0 X H0 (.Tuple gT kk pt) (.Call (.Name "enumerate" p) [a] [] pos) (Z1k wr) where
 mono:=fun τ P Q f h=>ha.mono τ _ _ (fun r⟨r',ds,e1,e2,q⟩=>⟨r',ds,e1,e2,f _ q⟩) h
 pi:=by
  intro af s σ H R I ⟨τ,hR,h⟩;refine bn (Q3v I hg hm hv ?_ (?K) (?K));refine bE (B3 (ha.pa pos af s σ H (fun vs H1=>A4 H H1/\((∃l xs ds,vs=[.ref l]/\H1 l=some (.tup xs)/\AllS X.K H1 ds xs/\∀J H',A4 H H'->YlS X.K J (K0 ds) H'->R J H')\/∃l xs ds,vs=[.ref l]/\G0 X.K H1 l xs/\AllS X.K H1 ds xs/\∀J H',A4 H H'->YlS X.K J (K0 ds) H'->R J H')) I
   ⟨τ,hR,ha.mono τ _ _ (fun rs h vs H1 s1 eD=>⟨s1,?_⟩) h⟩) fun us s1 ⟨vs,H1,I1,rv,sm,hh⟩=>?_) he hpl
  ·obtain⟨r,ds,e1,e2,q⟩:=h;subst e1;obtain⟨v,rfl,ir⟩:=Q1q eD
   by_cases ht:∃es,r=.st (.tup es)
   ·obtain⟨es,rfl⟩:=ht;cases e2;have ir:A3 X.K H1 (.tup ds) v:=ir;unfold A3 at ir;obtain⟨l,xs,rfl,sq,al⟩:=ir;exact .inl ⟨l,xs,ds,rfl,sq,al,q⟩
   ·have e2:Q2v r=some ds:=by
     unfold W5 at e2;split at e2
     ·exact absurd ⟨_,rfl⟩ ht
     ·exact e2
    obtain⟨l,xs,rfl,sq,al⟩:=Z1q e2 ir;exact .inr ⟨l,xs,ds,rfl,sq,al,q⟩
  ·have big:∀b∈[s1.heap.objs.size+1,s1.heap.objs.size],J5 X af H1 b:=fun b hb=>by
    have hb:s1.heap.objs.size<=b:=by
     rcases av.mp hb with rfl |hb
     ·exact dF _
     ·have e:b=s1.heap.objs.size:=by simpa using hb
      rw[e];exact ao _
    exact I1.fpOk hb (I1.hok.fresh hb)
   rcases hh with⟨l,xs,ds,rfl,sq,al,q⟩ |⟨l,xs,ds,rfl,sq,al,q⟩
   ·obtain⟨u,rfl,ru⟩:=Q2g rv;cases (show u=Value.ref l from ru);obtain⟨bb,kc,pl,lK⟩:=I1.tuple (E7.of sq);have hl:l<s1.heap.objs.size:=by obtain⟨o,ho,_⟩:=pl;exact aw ho
    refine Y2l pl fun h' he hi hz k=>?_;exact ci he ⟨s1.heap.objs.size+1,[s1.heap.objs.size+1,s1.heap.objs.size],_,_,H1,rfl,I1.kept (t':=s1.toks) k,W0c (l:=l) (ef _) (ax (bj hl)) (ax hl),⟨⟨_,he⟩,hi⟩,big,q _ _ sm (V8r sq al)⟩
   ·obtain⟨u,rfl,ru⟩:=Q2g rv;cases (show u=Value.ref l from ru);obtain⟨bb,kc,pl,lK⟩:=I1.list sq;obtain⟨o,n,ho,_⟩:=id pl;have hl:l<s1.heap.objs.size:=aw ho;refine call_enumerate_list pl.isList fun h' he hi hz k=>?_;refine ci he ⟨s1.heap.objs.size+1,[s1.heap.objs.size+1,s1.heap.objs.size],_,_,H1,rfl,I1.kept (t':=s1.toks) k,W0b (l:=l) (ef _) (ax (bj hl)) (ax hl),⟨⟨_,he⟩,hi⟩,big,q _ _ sm (V8q sq al)⟩
@[simp] theorem Y8f {Q:M D->Prop}:Z1k wr τ Q=wr τ fun rs=>∃r ds,rs=[r]/\W5 r=some ds/\Q (K0 ds):=rfl
end
noncomputable def Q2q (K:Fg9)(H:Hp)(d:D)(u:Ad):Bool:=@decide (∃d' v',C2 v' u/\A3 K H d' v'/\D.eq d' d=true) (Classical.propDecidable _)
theorem Y3n (I:?B){d d':D}{v':V}  (r:C2 v' u)(i:A3 X.K H d' v'):Q2q X.K H d u=D.eq d' d:=by
 unfold Q2q;cases e:D.eq d' d with
 |true=>exact @cH _ (Classical.propDecidable _) ⟨d',v',r,i,e⟩
 |false=>
  refine @aT _ (Classical.propDecidable _) fun bG=>?_;obtain⟨d2,v2,r2,i2,e2⟩:=bG;have ev:=r.inj r2;subst ev;rw[A3.inj I d2 d' v' i2 i,e]at e2;cases e2
theorem Z4l (I:?B){d:D}:∀{ds:M D}{xs:M V}{bb:M Ad},AllS X.K H ds xs->C4 xs bb->bb.any (Q2q X.K H d)=ds.any fun e=>D.eq e d
 |[],xs,bb,al,r=>by
  unfold AllS at al;subst al;cases r;rfl
 |e::ds,xs,bb,al,r=>by
  unfold AllS at al;obtain⟨v,t,rfl,i,al⟩:=al;cases r with
  |cons r1 r2=>rw[dm,dm,Y3n I r1 i,Z4l I al r2]
theorem Z6m (I:?B){d:D}{x:V}{v:Ad}  (ix:A3 X.K H d x)(rx:C2 x v){A:Ah}(hu:A.units+n<cLine):∀{ds:M D}{xs:M V}{bb:M Ad},AllS X.K H ds xs->C4 xs bb->(∀e∈ds,e.depth<=n)->∀u∈bb,SeqAt.EqAt A s u v (Q2q X.K H d u)
 |[],xs,bb,al,r,_=>by
  unfold AllS at al;subst al;cases r;intro u hu;cases hu
 |e::ds,xs,bb,al,r,hd=>by
  unfold AllS at al;obtain⟨v',t,rfl,i,al⟩:=al;cases r with
  |cons r1 r2=>
   intro u hm;rcases av.mp hm with rfl |hm
   ·rw[Y3n I r1 i];exact Z5b I (fun A=>rc_D I n e d v' x _ _ A (hd e ?G) i.w ix.w r1 rx) i ix r1 rx hu
   ·exact Z6m I ix rx hu al r2 (fun e h=>hd e (by simp[h])) u hm
def inL (n:Nat)(neg:Bool)(x y:R)(Q:Bool->Prop):Prop:=∃d ds,x=.st d/\W5 y=some ds/\(∀e∈ds,e.depth<=n)/\Q (if neg then !ds.any (fun e=>D.eq e d)else ds.any fun e=>D.eq e d)
def W7a {neg:Bool}:Q0s (inL n neg):=fun x y P Q g⟨d,ds,e1,e2,h,q⟩=>⟨d,ds,e1,e2,h,g _ q⟩
def Y9a {r:R}{ds:M D}{v:V}(e:W5 r=some ds)(h:E1 K H0 H r v):∃a xs,v=.ref a/\(G0 K H a xs\/E7 K H a xs)/\AllS K H ds xs:=by
 by_cases ht:∃es,r=.st (.tup es)
 ·obtain⟨es,rfl⟩:=ht;cases e;have h:A3 K H (.tup ds) v:=h;unfold A3 at h;obtain⟨l,xs,rfl,sq,al⟩:=h;exact⟨l,xs,rfl,.inr (E7.of sq),al⟩
 ·have e2:Q2v r=some ds:=by
   unfold W5 at e;split at e
   ·exact absurd ⟨_,rfl⟩ ht
   ·exact e
  obtain⟨l,xs,rfl,sq,al⟩:=Z1q e2 h;exact⟨l,xs,rfl,.inl sq,al⟩
theorem W4z (hu:X.A.units+n+1<cLine):Q0q X .In (inL n false):=by
 intro af s σ H x y v u Q I rx ry ⟨r1,r2,h1,h2,d,ds,e1,e2,hd,q⟩;subst e1;have ix:A3 X.K H d x:=h1;obtain⟨a,xs,rfl,hq,al⟩:=Y9a e2 h2;cases ry;rcases hq with hq |hq
 ·obtain⟨bb,r,pl,hz⟩:=I.list hq;refine SeqAt.in_listAt (Q2q X.K H d) pl.isList (fun w hw=>Z6m I ix rx (n:=n) (by try simp only[cN];lia) al r hd w (by simpa using hw)) ⟨.bl _,H,I,rfl,?_⟩;rw[show bb.toArray.any (Q2q X.K H d)=bb.any (Q2q X.K H d)by simp,Z4l I al r];exact q
 ·obtain⟨bb,r,pl,hz⟩:=I.tuple hq;refine SeqAt.in_tupleAt (Q2q X.K H d) pl (fun w hw=>Z6m I ix rx (n:=n) (by try simp only[cN];lia) al r hd w (by simpa using hw)) ⟨.bl _,H,I,rfl,?_⟩;rw[show bb.toArray.any (Q2q X.K H d)=bb.any (Q2q X.K H d)by simp,Z4l I al r];exact q
structure Q4g (z TI TO i1 i2:Af)(ko gX:M Af):Prop where
 tiz:TI≠z
 toz:TO≠z
 i1z:i1≠z
 i2z:i2≠z
 tito:TI≠TO
 ti1:TI≠i1
 ti2:TI≠i2
 to1:TO≠i1
 to2:TO≠i2
 i12:i1≠i2
 f1:∀b∈ko,b≠z/\b≠TO/\b≠i2
 f2:∀b∈gX,b≠z/\b≠TO/\b≠i1
abbrev IsZ (h:Heap)(z TI TO:Af)(f0:Ad)(f:Bool):Prop:=
 h.get? z=some {cls:=.type "zip",dict:=none,data:=.fields #[f0,.bool f,.bool false,.ref TI,.ref TO],slots:=#[]}
def Q1h (h:Heap)(z TI TO:Af):Prop:=∃f0 f,IsZ h z TI TO f0 f/\(f0=.none\/∃T:Af,f0=rawInt T)
section
variable {w:Ak}{A:Ah}{TI:Af}{ko:M Af}{k:Nat}{P1 P2:Nat->Ad->Prop}{S1 S2:Nat->Heap->Prop}{a b:Ad}
def W1 {i:Nat}{Q:Nat->Ad->Prop}{S:Nat->Heap->Prop}(D:Draws P w A it fp n Q S)  {c:Af}(st:S i h)(sb:Heap.ExtBut c h h')(hc:∀b∈fp,b≠c):S i h':=D.frame _ _ _ st fun b hb o e=>sb b o (hc b hb) e
def W1h {Q:Bool->Ae->Prop}(hz:Q1h s.heap z TI TO)(h1:∀f0 f,IsZ s.heap z TI TO f0 f->Q true s)(h2:∀h' (T:Af),IsZ h' z TI TO (rawInt T) true->Heap.SameBut z s.heap h'->Q false {s with heap:=h'}):
  wpAny (model P w) A (Builtin.SmallTypes.ownedTupleIsFree (.ref z)) Q E s:=by
 obtain⟨f0,f,hz,rfl |⟨T,rfl⟩⟩:=hz
 ·unfold Builtin.SmallTypes.ownedTupleIsFree;exact aa (bT hz rfl (x:=.none) rfl (aj (h1 _ _ hz)))
 ·unfold Builtin.SmallTypes.ownedTupleIsFree;refine aa (bT hz rfl (x:=rawInt T) rfl ?_)
  change wpAny (model P w) A (loadIfAlive ((T:Int).toNat)>>=_) _ _ _
  rw[bL];refine aa ?_;cases e:s.heap.get? T with
  |none=>
   have sY:∀{Q:Ac Obj->Ae->Prop},Q none s->wpAny (model P w) A (loadIfAlive T) Q E s:=fun {Q} h=>by
    have h':Q (s.heap.get? T) s:=by rw[e];exact h
    exact fun _ _ _=>h'
   refine sY ?_;rw[aQ (show(none:Ac Obj).isNone=true from rfl)];exact aj (h1 _ _ hz)
  |some o=>
   refine PySem.W.kdx_alive e ?_;rw[aI ?G];refine aa (bT hz rfl (x:=.bool f) rfl ?_);cases f with
   |true=>
    rw[aI (?K)];exact aj (h2 s.heap T hz (ky _ _))
   |false=>
    rw[aQ (?K)];exact aa (c7 hz ?G fun h₃ x5 ww=>aj (h2 h₃ T x5 ww))
def V8y (Z:Q4g z TI TO i1 i2 ko gX)(D1:Draws P w A i1 ko n1 P1 S1)(D2:Draws P w A i2 gX n2 P2 S2)(nW:Q1h s.heap z TI TO)(ji:IsPair s.heap TI (.ref i1) (.ref i2))(iZ:IsPair s.heap TO a b)(h1:S1 k s.heap)(h2:S2 k s.heap)(l1:k<n1)(l2:k<n2)
  (hQ:∀h' tk x y,P1 k x->P2 k y->Q1h h' z TI TO->(∃a b,IsPair h' TO a b)->S1 (k+1) h'->S2 (k+1) h'->IsPair h' s.heap.objs.size x y->h'.objs.size=s.heap.objs.size+1->(∀c o,c≠z->c≠TO->c≠i1->c≠i2->s.heap.get? c=some o->h'.get? c=some o)->Q (.ref s.heap.objs.size) {s with heap:=h',toks:=tk}):
  wpAny (model P w) A (Builtin.«zip.__next__» ⟨[.ref z],[]⟩) (fun fin s'=>∃v,fin=.done (.ret v)/\Q v s') E s:=by
 obtain⟨f0,f,hz,hf⟩:=id nW
 change wpAny (model P w) A (field (.ref z) 2>>=_) _ _ s
 refine aa (bT hz rfl (x:=Value.bool false) rfl ?_)
 change wpAny (model P w) A (field (.ref z) 3>>=_) _ _ s
 refine aa (bT hz rfl (x:=.ref TI) rfl (aa (ce ji rfl ?_)))
 change wpAny (model P w) A (Builtin.SmallTypes.ownedTupleIsFree (.ref z)>>=_) _ _ s
 refine aa (W1h nW (fun f0 f hz=>?_) fun g₁ T jM gq=>?_)
 ·rw[aQ rfl];refine aa (dw (aa (bT hz rfl (x:=.ref TO) rfl (aa (c7 hz ?G fun g₁ jM gq=>?_)))));have jM:IsZ g₁ z TI TO .ellipsis f:=jM;refine aa ?_;simp only[bI,List.zipIdx_nil,bF,gA];refine aa (aa (jy ?_))
  change wpAny (model P w) A (Builtin.SmallTypes.nextOf (.ref i1)>>=_) _ _ _
  refine aa (D1.item k _ _ _ l1 (W1 D1 h1 gq.extBut fun b hb=>(Z.f1 b hb).1) fun x g₂ qy px oZ gg=>aj ?_);have k6:IsPair g₂ TO a b:=gg.extBut _ _ Z.to1 (gq.extBut _ _ Z.toz iZ);refine aa (ce k6 rfl (aa (iq k6 fun g₃ lm gK=>aa (iS (aj ?_)))));have lm:IsPair g₃ TO x b:=lm;refine aa (aa (jy ?q))
  change wpAny (model P w) A (Builtin.SmallTypes.nextOf (.ref i2)>>=_) _ _ _
  have oY:S2 k g₃:=W1 D2 (W1 D2 (W1 D2 h2 gq.extBut fun b hb=>(Z.f2 b hb).1) gg.extBut fun b hb=>(Z.f2 b hb).2.2) gK.extBut fun b hb=>(Z.f2 b hb).2.1;refine aa (D2.item k _ _ _ l2 oY fun y g₄ vy py xI lF=>aj ?_);have oQ:IsPair g₄ TO x b:=lF.extBut _ _ Z.to2 lm;refine aa (ce oQ rfl (aa (iq oQ fun g₅ lh lE=>aa (iS (aj (aj ?_))))));have lh:IsPair g₅ TO x y:=lh;refine aa (ce lh rfl (aa (wpAny_newTuple ?_)));have hsz:g₅.objs.size=s.heap.objs.size:=by rw[lE.1,lF.1,gK.1,gg.1,gq.1]
  have u3:IsZ g₅ z TI TO .ellipsis f:=lE.extBut _ _ Z.toz.symm (lF.extBut _ _ Z.i2z.symm (gK.extBut _ _ Z.toz.symm (gg.extBut _ _ Z.i1z.symm jM)));have wM:∀c o,c≠z->c≠TO->c≠i1->c≠i2->s.heap.get? c=some o->g₅.get? c=some o:=fun c o c1 c2 c3 c4 e=>lE.extBut _ _ c2 (lF.extBut _ _ c4 (gK.extBut _ _ c2 (gg.extBut _ _ c3 (gq.extBut _ _ c1 e))));have xJ:S1 (k+1) g₅:=W1 D1 (W1 D1 (W1 D1 oZ gK.extBut fun b hb=>(Z.f1 b hb).2.1) lF.extBut fun b hb=>(Z.f1 b hb).2.2) lE.extBut fun b hb=>(Z.f1 b hb).2.1;have xH:S2 (k+1) g₅:=W1 D2 xI lE.extBut fun b hb=>(Z.f2 b hb).2.1;have nX:z<g₅.objs.size:=aw u3
  change wpAny (model P w) A (Builtin.SmallTypes.ownedTupleHandOut (.ref z) (Value.ref g₅.objs.size)>>=_) _ _ _
  refine aa ?_;unfold Builtin.SmallTypes.ownedTupleHandOut;refine aa (c7 (ae _ u3:IsZ (g₅.push {cls:=.type "tuple",data:=.seq #[x,y]}) z TI TO .ellipsis f) ?G fun g₇ re qB=>?_);have re:IsZ g₇ z TI TO (rawInt g₅.objs.size) f:=re;refine c7 re ?G fun g₈ pN qA=>aj ⟨_,rfl,?_⟩;have pN:IsZ g₈ z TI TO (rawInt g₅.objs.size) false:=pN;have up:∀c o,c≠z->g₅.get? c=some o->g₈.get? c=some o:=fun c o c1 e=>qA.extBut _ _ c1 (qB.extBut _ _ c1 (ae _ e));have uf:IsPair g₈ g₅.objs.size x y:=qA.extBut _ _ (nJ nX) (qB.extBut _ _ (nJ nX) (aD _ rfl));rw[hsz]at pN uf;have goal:=hQ g₈ vy x y px py ⟨_,_,pN,.inr ⟨_,rfl⟩⟩ ⟨_,_,up _ _ Z.toz lh⟩ (D1.frame _ _ _ xJ fun b hb o e=>up b o (Z.f1 b hb).1 e) (D2.frame _ _ _ xH fun b hb o e=>up b o (Z.f2 b hb).1 e) uf (by rw[qA.1,qB.1,bi,hsz]) fun c o c1 c2 c3 c4 e=>up c o c1 (wM c o c1 c2 c3 c4 e);rw[<-hsz]at goal;exact goal
 ·rw[aI (?K)];refine aa ?_;rw[<-eV];rw[bF];refine aa (aa (bv ?_))
  change wpAny (model P w) A (Builtin.SmallTypes.nextOf (.ref i1)>>=fun x=>pure (some x)) _ _ _
  refine aa (D1.item k _ _ _ l1 (W1 D1 h1 gq.extBut fun b hb=>(Z.f1 b hb).1) fun x g₂ qy px oZ gg=>aj (aj ?_));dsimp only;rw[bF];refine aa (aa (bv ?_))
  change wpAny (model P w) A (Builtin.SmallTypes.nextOf (.ref i2)>>=fun x=>pure (some x)) _ _ _
  have sS:S2 k g₂:=W1 D2 (W1 D2 h2 gq.extBut fun b hb=>(Z.f2 b hb).1) gg.extBut fun b hb=>(Z.f2 b hb).2.2;refine aa (D2.item k _ _ _ l2 sS fun y g₃ vz py oY gK=>aj (aj ?_));dsimp only;rw[gA];refine aj (aa (wpAny_newTuple (aj ⟨_,rfl,?_⟩) (hsz:=by show 2<=sizeLine;decide)));have sz:g₃.objs.size=s.heap.objs.size:=by rw[gK.1,gg.1,gq.1]
  have up:∀c o,c≠z->c≠i1->c≠i2->s.heap.get? c=some o->g₃.get? c=some o:=fun c o c1 c2 c3 e=>gK.extBut _ _ c3 (gg.extBut _ _ c2 (gq.extBut _ _ c1 e));have w5:IsZ g₃ z TI TO (rawInt T) true:=gK.extBut _ _ Z.i2z.symm (gg.extBut _ _ Z.i1z.symm jM);have xK:S1 (k+1) g₃:=W1 D1 oZ gK.extBut fun b hb=>(Z.f1 b hb).2.2;have goal:=hQ (g₃.push {cls:=.type "tuple",data:=.seq #[x,y]}) vz x y px py ⟨_,_,ae _ w5,.inr ⟨_,rfl⟩⟩ ⟨_,_,ae _ (up _ _ Z.toz Z.to1 Z.to2 iZ)⟩ (D1.frame _ _ _ xK fun b hb o e=>ae _ e) (D2.frame _ _ _ oY fun b hb o e=>ae _ e)
   (by
    have e:(g₃.push {cls:=.type "tuple",data:=.seq #[x,y]}).get? g₃.objs.size=some {cls:=.type "tuple",data:=.seq #[x,y]}:=aD _ rfl;rw[sz]at e;exact e) (by rw[bi,sz]) fun c o c1 _ c3 c4 e=>ae _ (up c o c1 c3 c4 e)
  rw[<-sz]at goal;exact goal
def V8x {Q:Fin->Ae->Prop}(Z:Q4g z TI TO i1 i2 ko gX)(D1:Draws P w A i1 ko n1 P1 S1)(D2:Draws P w A i2 gX n2 P2 S2)(nW:Q1h s.heap z TI TO)(ji:IsPair s.heap TI (.ref i1) (.ref i2))(iZ:IsPair s.heap TO a b)(h1:S1 k s.heap)(h2:S2 k s.heap)(hk:k=n1\/(k<n1/\k=n2))
  (hE:∀h' tk e,(∀c o,c≠z->c≠TO->c≠i1->c≠i2->s.heap.get? c=some o->h'.get? c=some o)->(∃o,h'.get? e=some o/\o.cls=.type "StopIteration")->E (.ref e) {s with heap:=h',toks:=tk}):
  wpAny (model P w) A (Builtin.«zip.__next__» ⟨[.ref z],[]⟩) Q E s:=by
 obtain⟨f0,f,hz,hf⟩:=id nW
 change wpAny (model P w) A (field (.ref z) 2>>=_) _ _ s
 refine aa (bT hz rfl (x:=Value.bool false) rfl ?_)
 change wpAny (model P w) A (field (.ref z) 3>>=_) _ _ s
 refine aa (bT hz rfl (x:=.ref TI) rfl (aa (ce ji rfl ?_)))
 change wpAny (model P w) A (Builtin.SmallTypes.ownedTupleIsFree (.ref z)>>=_) _ _ s
 refine aa (W1h nW (fun f0 f hz=>?_) fun g₁ T jM gq=>?_)
 ·rw[aQ rfl];refine aa (dw (aa (bT hz rfl (x:=.ref TO) rfl (aa (c7 hz ?G fun g₁ jM gq=>?_)))));have jM:IsZ g₁ z TI TO .ellipsis f:=jM;refine aa ?_;simp only[bI,List.zipIdx_nil,bF,gA];refine aa (aa (jy ?_))
  change wpAny (model P w) A (Builtin.SmallTypes.nextOf (.ref i1)>>=_) _ _ _
  have p5:S1 k g₁:=W1 D1 h1 gq.extBut fun b hb=>(Z.f1 b hb).1;rcases hk with hk |⟨bU,hk⟩
  ·subst hk;refine aa (D1.done _ _ _ p5 fun g₂ e gg he=>?_);obtain⟨oe,mI,oI⟩:=he;have u5:IsZ g₂ z TI TO .ellipsis f:=gg _ _ Z.i1z.symm jM;have sv:e≠z:=fun q=>by subst q;rw[u5]at mI;cases mI;simp at oI
   exact c7 u5 ?G fun g₃ _ gK=>hE g₃ _ e (fun c o c1 _ c3 _ x=>gK.extBut _ _ c1 (gg _ _ c3 (gq.extBut _ _ c1 x))) ⟨oe,gK.extBut _ _ sv mI,oI⟩
  ·refine aa (D1.item k _ _ _ bU p5 fun x g₂ qy px oZ gg=>aj ?_);have k6:IsPair g₂ TO a b:=gg.extBut _ _ Z.to1 (gq.extBut _ _ Z.toz iZ);refine aa (ce k6 rfl (aa (iq k6 fun g₃ lm gK=>aa (iS (aj ?_)))));refine aa (aa (jy ?q))
   change wpAny (model P w) A (Builtin.SmallTypes.nextOf (.ref i2)>>=_) _ _ _
   have oY:S2 k g₃:=W1 D2 (W1 D2 (W1 D2 h2 gq.extBut fun b hb=>(Z.f2 b hb).1) gg.extBut fun b hb=>(Z.f2 b hb).2.2) gK.extBut fun b hb=>(Z.f2 b hb).2.1;subst hk;refine aa (D2.done _ _ _ oY fun g₄ e lF he=>?_);obtain⟨oe,mI,oI⟩:=he;have u4:IsZ g₄ z TI TO .ellipsis f:=lF _ _ Z.i2z.symm (gK.extBut _ _ Z.toz.symm (gg.extBut _ _ Z.i1z.symm jM));have sv:e≠z:=fun q=>by subst q;rw[u4]at mI;cases mI;simp at oI
   exact c7 u4 ?G fun g₅ _ lE=>hE g₅ _ e (fun c o c1 c2 c3 c4 x=>lE.extBut _ _ c1 (lF _ _ c4 (gK.extBut _ _ c2 (gg.extBut _ _ c3 (gq.extBut _ _ c1 x))))) ⟨oe,lE.extBut _ _ sv mI,oI⟩
 ·rw[aI (?K)];refine aa ?_;rw[<-eV];rw[bF];refine aa (aa (bv ?_))
  change wpAny (model P w) A (Builtin.SmallTypes.nextOf (.ref i1)>>=fun x=>pure (some x)) _ _ _
  have p5:S1 k g₁:=W1 D1 h1 gq.extBut fun b hb=>(Z.f1 b hb).1;rcases hk with hk |⟨bU,hk⟩
  ·subst hk;exact aa (D1.done _ _ _ p5 fun g₂ e gg he=>hE g₂ _ e (fun c o c1 _ c3 _ x=>gg _ _ c3 (gq.extBut _ _ c1 x)) he)
  ·refine aa (D1.item k _ _ _ bU p5 fun x g₂ qy px oZ gg=>aj (aj ?_));dsimp only;rw[bF];refine aa (aa (bv ?_))
   change wpAny (model P w) A (Builtin.SmallTypes.nextOf (.ref i2)>>=fun x=>pure (some x)) _ _ _
   have sS:S2 k g₂:=W1 D2 (W1 D2 h2 gq.extBut fun b hb=>(Z.f2 b hb).1) gg.extBut fun b hb=>(Z.f2 b hb).2.2;subst hk;exact aa (D2.done _ _ _ sS fun g₃ e gK he=>hE g₃ _ e (fun c o c1 _ c3 c4 x=>gK _ _ c4 (gg.extBut _ _ c3 (gq.extBut _ _ c1 x))) he)
def W1i {Q:Ac Ad->Ae->Prop}(Z:Q4g z TI TO i1 i2 ko gX)(D1:Draws P w A.in1 i1 ko n1 P1 S1)(D2:Draws P w A.in1 i2 gX n2 P2 S2)(hz:Q1h s.heap z TI TO)(ji:IsPair s.heap TI (.ref i1) (.ref i2))(iZ:IsPair s.heap TO a b)(h1:S1 k s.heap)(h2:S2 k s.heap)(l1:k<n1)(l2:k<n2)
  (hQ:∀h' tk x y,P1 k x->P2 k y->Q1h h' z TI TO->(∃a b,IsPair h' TO a b)->S1 (k+1) h'->S2 (k+1) h'->IsPair h' s.heap.objs.size x y->h'.objs.size=s.heap.objs.size+1->(∀c o,c≠z->c≠TO->c≠i1->c≠i2->s.heap.get? c=some o->h'.get? c=some o)->Q (some (.ref s.heap.objs.size)) {s with heap:=h',toks:=tk}):
  wpAny (model P w) A (pyNext (.ref z)) Q E s:=by
 have hT:s.TypeIs (.ref z) "zip":=let ⟨_,_,q,_⟩:=hz;⟨_,q,rfl⟩;unfold pyNext;exact aa (jz (bS (name:=Str.ofString "__next__") hT fi (bx fi hT F.entry_zip_next
  (V8y Z D1 D2 hz ji iZ h1 h2 l1 l2 fun h' tk x y a1 a2 a3 a4 a5 a6 a7 a8 a9=>aj (hQ h' tk x y a1 a2 a3 a4 a5 a6 a7 a8 a9)) (F.args_zip_next_1 _))))
def W1j {Q:Ac Ad->Ae->Prop}(Z:Q4g z TI TO i1 i2 ko gX)(D1:Draws P w A.in1 i1 ko n1 P1 S1)(D2:Draws P w A.in1 i2 gX n2 P2 S2)(hz:Q1h s.heap z TI TO)(ji:IsPair s.heap TI (.ref i1) (.ref i2))(iZ:IsPair s.heap TO a b)(h1:S1 k s.heap)(h2:S2 k s.heap)(hk:k=n1\/(k<n1/\k=n2))
  (hQ:∀h' tk,(∀c o,c≠z->c≠TO->c≠i1->c≠i2->s.heap.get? c=some o->h'.get? c=some o)->Q none {s with heap:=h',toks:=tk}):wpAny (model P w) A (pyNext (.ref z)) Q E s:=by
 have hT:s.TypeIs (.ref z) "zip":=let ⟨_,_,q,_⟩:=hz;⟨_,q,rfl⟩;unfold pyNext;refine aa (jz (bS (name:=Str.ofString "__next__") hT fi (bx fi hT F.entry_zip_next (V8x Z D1 D2 hz ji iZ h1 h2 hk fun h' tk e kp he=>?_) (F.args_zip_next_1 _))));obtain⟨o,ho,hc⟩:=he;exact aa (gy (T:="StopIteration") (b:=true) ⟨o,ho,hc⟩ isSubtype_stop (aj (hQ _ _ kp)))
end
def SqB (b:Bool)(K:Fg9)(H:Hp)(l:Af)(xs:M V):Prop:=match b with |true=>E7 K H l xs |false=>G0 K H l xs
def ItB (b:Bool)(h:Heap)(i l:Af)(k:Nat):Prop:=match b with |true=>h.IsTupleIter i l k |false=>h.IsListIter i l k
def T4 (b:Bool)(h:Heap)(l:Af)(a:Array Ad):Prop:=match b with |true=>h.IsTuple l a |false=>h.IsList l a
def itO (b:Bool)(l:Af):Obj:={cls:=.type (match b with |true=>"tuple_iterator" |false=>"list_iterator"),data:=.fields #[.ref l,.int 0 0]}
section
variable {w:Ak}{A:Ah}{b:Bool}{i k:Af}{ys:M V}{as:Array Ad}
def SqB.same (s:A4 H H')(h:SqB b K H l xs):SqB b K H' l xs:=by
 cases b
 ·exact s.seq h
 ·exact(Kp.of s).sqT h
def Q7y (I:?B)(h:SqB b X.K H l xs):∃bb,C4 xs bb/\T4 b s.heap l bb.toArray/\xs.length<=sizeLine:=by
 cases b
 ·obtain⟨bb,rv,p,z⟩:=I.list h;exact⟨bb,rv,p.isList,z⟩
 ·obtain⟨bb,rv,p,z⟩:=I.tuple h;exact⟨bb,rv,p,z⟩
def Y9b (I:?B)(h1:SqB b X.K H l xs)(h2:SqB b X.K H l ys):xs=ys:=by
 cases b
 ·exact I.list_inj h1 h2
 ·exact I.tuple_inj h1 h2
def Q4k (b:Bool)(hh:A.handled=none)(i l:Af)(dO:l≠i)(as:Array Ad):Draws P w A i [i,l] as.size (fun k v=>as[k]?=some v) (fun k h=>ItB b h i l k/\T4 b h l as):=by
 cases b
 ·exact Draws.list hh i l dO as
 ·exact Z5a hh i l dO as
def ItB.keep (t:ItB b h i l n)(k:∀o,h.get? i=some o->h'.get? i=some o):ItB b h' i l n:=by
 cases b<;>(obtain⟨o,e,r⟩:=t;exact⟨o,k o e,r⟩)
def ItB.obj (t:ItB b h i l n):∃o,h.get? i=some o/\∀v,o.data≠.cell v:=by
 cases b<;>(obtain⟨o,e,_,d⟩:=t;exact⟨o,e,fun v z=>by rw[d]at z;cases z⟩)
def T4.keep (t:T4 b h l as)(k:∀o,h.get? l=some o->h'.get? l=some o):T4 b h' l as:=by
 cases b<;>(obtain⟨o,e,r⟩:=t;exact⟨o,k o e,r⟩)
def T4.lt (t:T4 b h l as):@LT.lt Nat _ l h.objs.size:=by
 cases b<;>(obtain⟨o,e,r⟩:=t;exact aw e)
def Y4r (t:T4 b s.heap l as)(hQ:Q (.ref s.heap.objs.size) {s with heap:=s.heap.push (itO b l)}):wpAny (model P w) A (pyIter (.ref l)) Q E s:=by
 cases b
 ·exact wpAny_pyIter_list t hQ
 ·exact fH t hQ
def Y4p (e:h.get? i=some (itO b l)):ItB b h i l 0:=by cases b<;>exact⟨_,e,rfl,rfl⟩
end
abbrev zt1 (b1:Bool)(h:Heap)(l:Af):Heap:=h.push (itO b1 l)
abbrev zt2 (b1 b2:Bool)(h:Heap)(l t:Af):Heap:=(zt1 b1 h l).push (itO b2 t)
abbrev zt3 (b1 b2:Bool)(h:Heap)(l t:Af):Heap:=(zt2 b1 b2 h l t).push {cls:=.type "tuple",data:=.seq #[.ref h.objs.size,.ref (zt1 b1 h l).objs.size]}
abbrev zt4 (b1 b2:Bool)(h:Heap)(l t:Af):Heap:=(zt3 b1 b2 h l t).push {cls:=.type "tuple",data:=.seq #[.none,.none]}
abbrev zt5 (b1 b2:Bool)(h:Heap)(l t:Af):Heap:=(zt4 b1 b2 h l t).push {cls:=.type "zip",data:=.fields #[.none,.bool false,.bool false,.ref (zt2 b1 b2 h l t).objs.size,.ref (zt3 b1 b2 h l t).objs.size]}
def V8v (b1 b2:Bool)(l t:Af)(xs ys:Array Ad):
  Meets (Builtin.«zip.__new__» ⟨[.type "zip",.ref l,.ref t],[]⟩) (fun _ R s=>T4 b1 s.heap l xs/\T4 b2 s.heap t ys/\R (.ok (.ret (.ref (zt4 b1 b2 s.heap l t).objs.size))) {s with heap:=zt5 b1 b2 s.heap l t}):=
 Meets.of_wp fun prog w A R s h=>by
  obtain⟨hp,g,d,tk,os⟩:=s;obtain⟨kg,ib,h⟩:=h;have mw:=sub_zip;have xE:T4 b1 (Shared.heap ⟨hp,g,d,tk,os⟩) l xs:=kg;have sN:T4 b2 (Shared.heap ⟨hp.push (itO b1 l),g,d,tk,os⟩) t ys:=ib.keep fun o e=>ae _ e
  wp_walk using Y4r xE,Y4r sN
  exact⟨_,rfl,h⟩
def W4y {w:Ak}{A:Ah}    {t:Af}{xs:Array Ad}  (hl:T4 b1 s.heap l xs)(ht:T4 b2 s.heap t ys)
  (h:∀h',Q1h h' (s.heap.objs.size+4) (s.heap.objs.size+2) (s.heap.objs.size+3)->IsPair h' (s.heap.objs.size+2) (.ref s.heap.objs.size) (.ref (s.heap.objs.size+1))->IsPair h' (s.heap.objs.size+3) .none .none ->
   ItB b1 h' s.heap.objs.size l 0->ItB b2 h' (s.heap.objs.size+1) t 0->h'.objs.size=s.heap.objs.size+5->(∀c o,s.heap.get? c=some o->h'.get? c=some o)->Q (.ref (s.heap.objs.size+4)) {s with heap:=h'}):
  wpAny (model P w) A (call (.type "zip") [.ref l,.ref t]) Q E s:=by
 refine callType_new F.called_zip (?K) (F.typeCall_zip_2 _ _) (F.newCall_zip_2 _ _) (fun obj=>F.args_object_init_3 obj _ _) F.entry_zip_new (V8v b1 b2 l t xs ys) ⟨hl,ht,?_⟩;have e1:(zt1 b1 s.heap l).objs.size=s.heap.objs.size+1:=bi ..;have e2:(zt2 b1 b2 s.heap l t).objs.size=s.heap.objs.size+2:=by rw[bi,e1]
 have e3:(zt3 b1 b2 s.heap l t).objs.size=s.heap.objs.size+3:=by rw[bi,e2]
 have e4:(zt4 b1 b2 s.heap l t).objs.size=s.heap.objs.size+4:=by rw[bi,e3]
 have e5:(zt5 b1 b2 s.heap l t).objs.size=s.heap.objs.size+5:=by rw[bi,e4]
 have g5:(zt5 b1 b2 s.heap l t).get? (zt4 b1 b2 s.heap l t).objs.size=some _:=aD _ rfl;have g4:(zt5 b1 b2 s.heap l t).get? (zt3 b1 b2 s.heap l t).objs.size=some _:=ae _ (aD _ rfl);have g3:(zt5 b1 b2 s.heap l t).get? (zt2 b1 b2 s.heap l t).objs.size=some _:=ae _ (ae _ (aD _ rfl));have g2:(zt5 b1 b2 s.heap l t).get? (zt1 b1 s.heap l).objs.size=some (itO b2 t):=ae _ (ae _ (ae _ (aD _ rfl)));have g1:(zt5 b1 b2 s.heap l t).get? s.heap.objs.size=some (itO b1 l):=ae _ (ae _ (ae _ (ae _ (aD _ rfl))));rw[e2,e3,e4]at g5;rw[e1,e2]at g3;rw[e3]at g4;rw[e1]at g2;rw[e4];exact⟨⟨_,g5,rfl⟩,h _ ⟨_,_,g5,.inl rfl⟩ g3 g4 (Y4p g1) (Y4p g2) e5 fun c o x=>ae _ (ae _ (ae _ (ae _ (ae _ x))))⟩
def Y0f {w:Ak}{A:Ah}   {TI:Af}  (hz:Q1h s.heap z TI TO)(hQ:Q (.ref z) s):wpAny (model P w) A (pyIter (.ref z)) Q E s:=by
 obtain⟨_,_,hz,_⟩:=hz;have q:s.TypeIs (.ref z) "zip":=⟨_,hz,rfl⟩
 exact kr q F.slot_zip_iter (bx F.slot_zip_iter q F.entry_zip_iter (show wpAny _ _ (ret (.ref z)) _ _ s from aj ⟨_,rfl,"zip",_,q,fi.lookup,hQ⟩) (F.args_zip_iter_1 _))
def V8z {w:Ak}{A:Ah}   {TI T:Af}  {Q:Unit->Ae->Prop}(hz:Q1h s.heap z TI TO)(hQ:∀h',Q1h h' z TI TO->Heap.SameBut z s.heap h'->Q () {s with heap:=h'}):
  wpAny (model P w) A (letOwnedTupleGo tg (.ref z) (.ref T)) Q E s:=by
 have no:Q () s:=hQ s.heap hz (ky _ _);have yes:wpAny (model P w) A (load z>>=fun o=>match o.cls,o.data with
  |.type n,.fields vs=>if (["enumerate","zip","dict_itemiterator","dict_reverseitemiterator","odict_iterator","itertools.zip_longest","itertools.pairwise"].contains n&&vs[0]?==some (rawInt T))=true then(do rule "for.unpacks-the-owned-tuple";updateField z 0 .none)else pure ()
  |_,_=>pure ()) Q E s:=by
  obtain⟨f0,f,hz,_⟩:=id hz;refine aa (tf hz ?_);dsimp only;split
  ·refine aa (dw ?_);show wpAny _ _ (setField (.ref z) 0 .none) Q E s;exact c7 hz ?G fun h' lK kQ=>hQ h' ⟨_,_,lK,.inl rfl⟩ kQ
  ·exact aj no
 unfold letOwnedTupleGo;cases tg<;>first |exact yes |exact aj no
def Izb (b1 b2:Bool)(K:Fg9)(l1 l2:Af)(n:Nat):It:=⟨fun i H=>i<n/\∃xs ys,SqB b1 K H l1 xs/\SqB b2 K H l2 ys/\min xs.length ys.length=n,
 fun i H v H'=>∃T x y,(∀xs,SqB b1 K H l1 xs->xs[i]?=some x)/\(∀ys,SqB b2 K H l2 ys->ys[i]?=some y)/\H T=none/\v=.ref T/\H'=A6 H T (.tup [x,y]),fun i H=>i=n/\∃xs ys,SqB b1 K H l1 xs/\SqB b2 K H l2 ys/\min xs.length ys.length=n⟩
def ZTn (b1 b2:Bool)(z TI TO i1 i2 l1 l2:Af)(i:Nat)(h:Heap):Prop:=Q1h h z TI TO/\IsPair h TI (.ref i1) (.ref i2)/\(∃a b,IsPair h TO a b)/\ItB b1 h i1 l1 i/\ItB b2 h i2 l2 i
def ZTn.obj {TI:Af}{i:Nat}  (t:ZTn b1 b2 z TI TO i1 i2 l1 l2 i h):∀c∈[z,TO,i1,i2,TI],∃o,h.get? c=some o/\∀v,o.data≠.cell v:=by
 obtain⟨⟨_,_,hz,_⟩,ji,⟨a,b,iZ⟩,h1,h2⟩:=t;intro c hc;simp only[av,aU,bM]at hc;rcases hc with rfl |rfl |rfl |rfl |rfl
 ·exact⟨_,hz,fun v z=>by cases z⟩
 ·exact⟨_,iZ,fun v z=>by cases z⟩
 ·exact h1.obj
 ·exact h2.obj
 ·exact⟨_,ji,fun v z=>by cases z⟩
def ZTn.keep {TI:Af}{i:Nat}  (t:ZTn b1 b2 z TI TO i1 i2 l1 l2 i h)(k:∀b∈[z,TO,i1,i2,TI],∀o,h.get? b=some o->h'.get? b=some o):ZTn b1 b2 z TI TO i1 i2 l1 l2 i h':=by
 obtain⟨⟨f0,f,hz,r⟩,ji,⟨a,b,iZ⟩,h1,h2⟩:=t;exact⟨⟨f0,f,k z ?G _ hz,r⟩,k TI ?G _ ji,⟨a,b,k TO ?G _ iZ⟩,h1.keep (k i1 ?G),h2.keep (k i2 ?G)⟩
theorem V7x {w:Ak}    {TI:Af}  (Z:Q4g z TI TO i1 i2 [i1,l1] [i2,l2])(kg:l1≠i1)(ib:l2≠i2):
  Q2m P w K tg (Izb b1 b2 K l1 l2 n) [z,TO,i1,i2,TI] z (ZTn b1 b2 z TI TO i1 i2 l1 l2) where
 mem:=by simp
 obj:=fun i h t=>t.obj
 keep:=fun i h h' t k=>t.keep k
 item:=by
  back_in;obtain⟨bU,xs,ys,de,eI,hn⟩:=hg;obtain⟨bb,rv,p1,kL⟩:=Q7y I de;obtain⟨dH,jH,p2,mt⟩:=Q7y I eI;have vX:=rv.length;have vV:=jH.length;have hd:X.A.in1.handled=none:=I.ok.hd hc;have so:=st.obj;obtain⟨sz,kE,⟨a0,b0,md⟩,s1,s2⟩:=st;have hx:xs[i]?=some (xs[i]'(by lia)):=ac _;have hy:ys[i]?=some (ys[i]'(by lia)):=ac _;obtain⟨u,hu,ru⟩:=rv.get hx;obtain⟨u',rN,qG⟩:=jH.get hy;refine W1i Z (Q4k b1 hd i1 l1 kg bb.toArray) (Q4k b2 hd i2 l2 ib dH.toArray) sz kE md ⟨s1,p1⟩ ⟨s2,p2⟩ (by simp;lia) (by simp;lia) fun h' tk x y px py z1 t1 a1 a2 pr _ kp=>⟨_,rfl,?_⟩
  have ex:x=u:=by
   have:bb[i]?=some x:=by simpa using px
   rw[hu]at this;exact(aA this).symm
  have ey:y=u':=by
   have:dH[i]?=some y:=by simpa using py
   rw[rN]at this;exact(aA this).symm
  subst ex ey;have hT:∀b∈[z,TO,i1,i2,TI],b≠s.heap.objs.size:=fun b hb zz=>by
   obtain⟨o,ho,_⟩:=so b hb;exact aS _ (zz▸aw ho)
  refine V8z z1 fun h2 z2 sb=>?_;have mn:∀c o,c∉[z,TO,i1,i2]->s.heap.get? c=some o->h2.get? c=some o:=fun c o hc e=>by
   simp only[av,aU,bM,not_or]at hc;exact(sb.2 c hc.1).trans (kp c o hc.1 hc.2.1 hc.2.2.1 hc.2.2.2 e)
  have iO:IsTup h2 s.heap.objs.size ([x,y]).toArray:=⟨_,(sb.2 _ (hT z ?G).symm).trans pr,rfl,_,rfl⟩
  have su:∀b∈[z,TO,i1,i2],J5 X af H b:=fun b hb=>hf b (by
   simp only[av,aU,bM]at hb ⊢;rcases hb with h |h |h |h<;>simp[h])
  have I2:=Z2x (t':=tk) (xs:=[xs[i]'(by lia),ys[i]'(by lia)]) I mn su (ao s.heap.objs.size) iO (.cons ru (.cons qG .nil)) (by show 2<=sizeLine;decide);obtain⟨ta,tb,t1⟩:=t1;refine⟨.ref s.heap.objs.size,_,I2,rfl,⟨s.heap.objs.size,_,_,fun zs hz=>by rw[Y9b I hz de];exact hx,fun zs hz=>by rw[Y9b I hz eI];exact hy,I.hok.fresh (ao _),rfl,rfl⟩,
   ⟨z2,(sb.2 _ Z.tiz).trans (kp _ _ Z.tiz Z.tito Z.ti1 Z.ti2 kE),⟨_,_,(sb.2 _ Z.toz).trans t1⟩,a1.1.keep fun o e=>(sb.2 _ Z.i1z).trans e,a2.1.keep fun o e=>(sb.2 _ Z.i2z).trans e⟩,fun b hb=>?_⟩
  rw[A7 (hT b hb)];exact(hf b hb).1
 done:=by
  back_in;obtain⟨hi,xs,ys,de,eI,hn⟩:=hg;obtain⟨bb,rv,p1,kL⟩:=Q7y I de;obtain⟨dH,jH,p2,mt⟩:=Q7y I eI;have vX:=rv.length;have vV:=jH.length;have hd:X.A.in1.handled=none:=I.ok.hd hc;obtain⟨sz,kE,⟨a0,b0,md⟩,s1,s2⟩:=st;have su:∀b∈[z,TO,i1,i2],J5 X af H b:=fun b hb=>hf b (by
   simp only[av,aU,bM]at hb ⊢;rcases hb with h |h |h |h<;>simp[h])
  refine W1j Z (Q4k b1 hd i1 l1 kg bb.toArray) (Q4k b2 hd i2 l2 ib dH.toArray) sz kE md ⟨s1,p1⟩ ⟨s2,p2⟩ (by simp only[aR];lia) fun h' tk kp=>⟨rfl,Q8a I (fun c o hc e=>?_) su⟩
  simp only[av,aU,bM,not_or]at hc;exact kp c o hc.1 hc.2.1 hc.2.2.1 hc.2.2.2 e
 self:=fun A i s Q E st h=>Y0f st.1 h
def V8t {ys:M V}{ds es:M D}(qC:SqB b1 K H l1 xs)(al:AllS K H ds xs)(gh:SqB b2 K H l2 ys)(fZ:AllS K H es ys):YlS K (Izb b1 b2 K l1 l2 (min ds.length es.length)) (X5 ds es) H where
 go:=fun H' s i hi=>by
  rw[Y0e]at hi;exact⟨hi,xs,ys,qC.same s,gh.same s,by rw[al.length,fZ.length]⟩
 yld:=fun H' s i v fz d hd cw=>by
  obtain⟨T,x,y,hx,hy,hT,hv,hH⟩:=cw;subst hH hv;refine⟨K2 hT _,?_⟩;obtain⟨d1,d2,e1,e2,rfl⟩:=W1f hd;obtain⟨v1,ni,q1⟩:=al.get e1;obtain⟨v2,pO,q2⟩:=fZ.get e2;rw[hx xs (qC.same s)]at ni;cases ni;rw[hy ys (gh.same s)]at pO;cases pO;have kp:=Kp.of (s.trans (K2 hT (.tup [x,y])));exact A3.s_tup upd_same (AllS.cons (q1.mono kp _ _) (AllS.cons (q2.mono kp _ _) AllS.nil))
 stop:=fun H' s=>⟨Y0e _ _,xs,ys,qC.same s,gh.same s,by rw[al.length,fZ.length]⟩
section
variable {w:Ak}{A:Ah}{TI:Af}{xs:Array Ad}
theorem V8w {R:Result->Ae->Prop}{S:Af}{res:Ad}{h0:Heap}(hh:A.handled=none)(D:Q4g z TI TO i1 i2 [i1,l1] [i2,l2])(nv:l1≠i1)(ip:l2≠i2)(hS:S≠z/\S≠TI/\S≠TO/\S≠i1/\S≠i2/\S≠l1/\S≠l2)(hn:min xs.size ys.size<=sizeLine)(l0:∀b∈[z,TI,TO,i1,i2,l1,l2,S],b<h0.objs.size)
  (hR:∀(h':Heap) (tk:Nat) (as:M Af) (c:Nat),as.length=min xs.size ys.size->as.Nodup->(∀a∈as,h0.objs.size<=a)->(∀(j:Nat) a,as[j]?=some a->∃x y,xs[j]?=some x/\ys[j]?=some y/\IsPair h' a x y)->(∀c o,c∉[z,TO,i1,i2,S]->h0.get? c=some o->h'.get? c=some o) ->
   h'.get? S=some {cls:=.type "list",data:=.seq (as.map Value.ref).toArray c}->R (.ok (.ret res)) {s with heap:=h',toks:=tk}):
  ∀(m k:Nat) (h:Heap) (tk c:Nat) (as:M Af),m=min xs.size ys.size-k->k<=min xs.size ys.size->ZTn b1 b2 z TI TO i1 i2 l1 l2 k h->T4 b1 h l1 xs->T4 b2 h l2 ys->as.length=k->as.Nodup->(∀a∈as,h0.objs.size<=a)->h0.objs.size<=h.objs.size->(∀a∈as,a<h.objs.size) ->
   (∀(j:Nat) a,as[j]?=some a->∃x y,xs[j]?=some x/\ys[j]?=some y/\IsPair h a x y)->(∀c o,c∉[z,TO,i1,i2,S]->h0.get? c=some o->h.get? c=some o) ->
   h.get? S=some {cls:=.type "list",data:=.seq (as.map Value.ref).toArray c}->codeAny (model P w) A (.builtin "list.extend.loop" ⟨[.ref S,.ref z,res],[]⟩) R {s with heap:=h,toks:=tk}:=by
 intro m
 induction m with
 |zero=>
  intro k h tk c as hm hk st kg ib lf i8 gw hsz bU mH jV mX;have e:k=min xs.size ys.size:=by lia
  refine codeAny_builtin F.entry_extend_loop ?_;rw[Around.under_plainId j8 _]
  change wpAny (model P w) A.in1 (pyNext (.ref z)>>=_) _ _ _
  obtain⟨sz,kE,⟨a0,b0,md⟩,q1,q2⟩:=st;refine aa (W1j (s:={s with heap:=h,toks:=tk}) (A:=A.in1) D (Q4k (P:=P) (w:=w) (A:=A.in1.in1) b1 hh i1 l1 nv xs) (Q4k (P:=P) (w:=w) (A:=A.in1.in1) b2 hh i2 l2 ip ys) sz kE md ⟨q1,kg⟩ ⟨q2,ib⟩ (by lia) fun h' kz kp=>aj ?_);obtain⟨s1,s2,s3,s4,s5,s6,s7⟩:=hS;have ap:∀a∈as,a≠z/\a≠TO/\a≠i1/\a≠i2:=fun a ha=>by
   have g:=gw a ha;refine⟨fun e=>?_,fun e=>?_,fun e=>?_,fun e=>?_⟩<;>(have:=l0 a (by rw[e];simp);exact absurd this (fU.mpr g))
  refine hR h' _ as c (by lia) i8 gw (fun j a ej=>?_) (fun c o hc e=>?_) (kp S _ s1 s3 s4 s5 mX)
  ·obtain⟨x,y,ex,ey,p⟩:=mH j a ej;obtain⟨a1,a2,a3,a4⟩:=ap a (az ej);exact⟨x,y,ex,ey,kp a _ a1 a2 a3 a4 p⟩
  ·have:=jV c o hc e;simp only[av,aU,bM,not_or]at hc;exact kp c o hc.1 hc.2.1 hc.2.2.1 hc.2.2.2.1 this
 |succ m ih=>
  intro k h tk c as hm hk st kg ib lf i8 gw hsz bU mH jV mX;have wO:k<xs.size:=by lia
  have wN:k<ys.size:=by lia
  refine codeAny_builtin F.entry_extend_loop ?_;rw[Around.under_plainId j8 _]
  change wpAny (model P w) A.in1 (pyNext (.ref z)>>=_) _ _ _
  have t7:∀a,h0.objs.size<=a->a≠z/\a≠TI/\a≠TO/\a≠i1/\a≠i2/\a≠S:=fun a g=>by
   refine⟨fun e=>?_,fun e=>?_,fun e=>?_,fun e=>?_,fun e=>?_,fun e=>?_⟩<;>(have:=l0 a (by rw[e];simp);exact absurd this (fU.mpr g))
  have ap:∀a∈as,a≠z/\a≠TI/\a≠TO/\a≠i1/\a≠i2:=fun a ha=>by obtain⟨a1,a2,a3,a4,a5,_⟩:=t7 a (gw a ha);exact⟨a1,a2,a3,a4,a5⟩
  obtain⟨s1,s2,s3,s4,s5,s6,s7⟩:=hS;obtain⟨sz,kE,⟨a0,b0,md⟩,q1,q2⟩:=st;refine aa (W1i (s:={s with heap:=h,toks:=tk}) (A:=A.in1) D (Q4k (P:=P) (w:=w) (A:=A.in1.in1) b1 hh i1 l1 nv xs) (Q4k (P:=P) (w:=w) (A:=A.in1.in1) b2 hh i2 l2 ip ys) sz kE md ⟨q1,kg⟩ ⟨q2,ib⟩ wO wN fun h' kz x y px py m9 gn tH fk vG vA kp=>?_);have jb:ZTn b1 b2 z TI TO i1 i2 l1 l2 (k+1) h':=⟨m9,kp _ _ D.tiz D.tito D.ti1 D.ti2 kE,gn,tH.1,fk.1⟩
  have ui:=kp S _ s1 s3 s4 s5 mX
  change wpAny (model P w) A.in1 (updateSeq S (·.push (Value.ref h.objs.size))>>=_) _ _ _
  have oN:(as.map Value.ref).toArray.size=k:=by simp[lf]
  refine aa (gY ui rfl (aj ⟨plainId_quiet j8 _,?_⟩) (hz:=by rw[oN];lia) (_hz':=by show((as.map Value.ref).toArray.push _).size<=_;rw[Array.size_push,oN];lia));have je:∀b o,b≠S->h'.get? b=some o->(h'.update S (Obj.mapSeq (·.push (Value.ref h.objs.size)))).get? b=some o:=fun b o hb e=>(cR _ _ (bY hb)).trans e;have tF:(h'.update S (Obj.mapSeq (·.push (Value.ref h.objs.size)))).objs.size=h.objs.size+1:=by rw[(bh (h:=h') (a:=S) ..).1];exact vA
  have ou:h0.objs.size<=h.objs.size:=hsz;have qO:=t7 h.objs.size ou;obtain⟨c',xy⟩:∃c',(h'.update S (Obj.mapSeq (·.push (Value.ref h.objs.size)))).get? S=some {cls:=.type "list",data:=.seq ((as++[h.objs.size]).map Value.ref).toArray c'}:=by
   have e:=bZ (Obj.mapSeq (·.push (Value.ref h.objs.size))) ui rfl;have e2:((as++[h.objs.size]).map Value.ref).toArray=(as.map Value.ref).toArray.push (Value.ref h.objs.size):=by simp
   rw[e2];exact⟨_,e⟩
  refine ih (k+1) _ kz c' (as++[h.objs.size]) (by lia) (by lia) (jb.keep fun b hb o e=>je b o (fun z=>?_) e) (tH.2.keep fun o e=>je _ o (bY s6) e) (fk.2.keep fun o e=>je _ o (bY s7) e) (by rw[aC,lf];rfl) ?_ ?_ (by rw[tF];lia) ?_ ?_ ?_ ?_
  ·rw[z]at hb;simp only[av,aU,bM]at hb;rcases hb with h |h |h |h |h
   ·exact s1 h
   ·exact s3 h
   ·exact s4 h
   ·exact s5 h
   ·exact s2 h
  ·rw[ba];refine⟨i8,by simp,fun a ha b hb e=>?_⟩;rw[show b=h.objs.size by simpa using hb]at e;have:=bU a ha;rw[e]at this;exact aS _ this
  ·intro a ha;rcases aH.mp ha with q |q
   ·exact gw a q
   ·rw[aG.mp q];exact ou
  ·intro a ha;rw[tF];rcases aH.mp ha with q |q
   ·exact bj (bU a q)
   ·rw[aG.mp q];exact cj _
  ·intro j a ej
   by_cases hj:j<as.length
   ·rw[aB hj]at ej;obtain⟨x,y,ex,ey,p⟩:=mH j a ej;obtain⟨a1,a2,a3,a4,a5⟩:=ap a (az ej);exact⟨x,y,ex,ey,je _ _ (t7 a (gw a (az ej))).2.2.2.2.2 (kp a _ a1 a3 a4 a5 p)⟩
   ·rw[aK (by lia)]at ej;have e0:j-as.length=0:=by
     rcases eT (j-as.length)with z |z
     ·exact z
     ·rw[e7 (show [h.objs.size].length<=j-as.length from z)]at ej;cases ej
    rw[e0]at ej;cases ej;have ej:j=k:=by lia
    subst ej;exact⟨_,_,px,py,je _ _ qO.2.2.2.2.2 vG⟩
  ·intro c o hc e;have:=jV c o hc e;simp only[av,aU,bM,not_or]at hc;exact je c o hc.2.2.2.2 (kp c o hc.1 hc.2.1 hc.2.2.1 hc.2.2.2.1 this)
  ·exact xy
def W6p {Q:Bool->Ae->Prop}(hT:s.TypeIs (.ref z) "zip")(h:Q true s):wpAny (model P w) A (Builtin.List.listLengthHint (.ref z)) Q E s:=by
 unfold Builtin.List.listLengthHint;refine aa (fh hT (show typeLookup (.type "zip") "__len__"=pure none by rw[hJ,eJ];kernel_rfl) ?_);refine aa (fh hT (show typeLookup (.type "zip") "__length_hint__"=pure none by rw[hJ,eJ];kernel_rfl) ?_);exact aj h
def Z6g {S:Af}{xs:Array Ad}  (e:h.get? S=some {cls:=.type "list",data:=.seq xs c})(f:Array Ad->Array Ad):∃c',(h.update S (Obj.mapSeq f)).get? S=some {cls:=.type "list",data:=.seq (f xs) c'}:=
 ⟨_,bZ (Obj.mapSeq f) e rfl⟩
def W4t (hh:A.handled=none)(D:Q4g z TI TO i1 i2 [i1,l1] [i2,l2])(nv:l1≠i1)(ip:l2≠i2)(st:ZTn b1 b2 z TI TO i1 i2 l1 l2 0 s.heap)(kg:T4 b1 s.heap l1 xs)(ib:T4 b2 s.heap l2 ys)(hn:min xs.size ys.size<=sizeLine)(l0:∀b∈[z,TI,TO,i1,i2,l1,l2],b<s.heap.objs.size)
  (hQ:∀(h':Heap) (tk:Nat) (as:M Af) (c:Nat),as.length=min xs.size ys.size->as.Nodup->(∀a∈as,s.heap.objs.size<a)->(∀(j:Nat) a,as[j]?=some a->∃x y,xs[j]?=some x/\ys[j]?=some y/\IsPair h' a x y)->(∀c o,c∉[z,TO,i1,i2]->s.heap.get? c=some o->h'.get? c=some o) ->
   h'.get? s.heap.objs.size=some {cls:=.type "list",data:=.seq (as.map Value.ref).toArray c}->Q (.ref s.heap.objs.size) {s with heap:=h',toks:=tk}):
  wpAny (model P w) A (call (.type "list") [.ref z]) Q E s:=by
 refine callType_codes (Q₁:=fun obj s₁=>obj=.ref s.heap.objs.size/\s₁={s with heap:=s.heap.push {cls:=.type "list",data:=.seq #[]}}) PySem.F.called_list (PySem.F.typeCall_list_1 _) PySem.F.entry_list_init (code_list_new _ ⟨rfl,rfl⟩) ?_;rintro obj s₁ ⟨rfl,rfl⟩;generalize hSe:s.heap.objs.size=S;have lP:∀b∈[z,TI,TO,i1,i2,l1,l2],b<S:=fun b hb=>by rw[<-hSe];exact l0 b hb
 have pW:(s.heap.push {cls:=.type "list",data:=.seq #[]}).get? S=some {cls:=.type "list",data:=.seq #[]}:=by rw[<-hSe];exact aD _ rfl
 have ne:∀b,b∈[z,TI,TO,i1,i2,l1,l2]->b≠S:=fun b hb=>ax (lP b hb);refine⟨⟨_,pW,rfl⟩,PySem.F.args_list_init_2 _ _,?_⟩
 change wpAny (model P w) A.in1.in1 (Builtin.List.listItems (.ref S)>>=fun old=>Builtin.List.listUpdate (.ref S) (fun _=>#[])>>=fun _=>letGo old.toList.reverse>>=fun _=>Builtin.List.listExtendWith (.ref S) (.ref z) .none) _ _ _
 unfold Builtin.List.listItems;refine aa (aa (ce pW rfl (aj ?_)))
 change wpAny (model P w) A.in1.in1 (updateSeq S (fun _=>#[])>>=_) _ _ _
 refine aa (gY pW rfl (aa (iS ?_)));obtain⟨c1,nz⟩:=Z6g pW (fun _=>#[]);have kI:∀b o,b≠S->s.heap.get? b=some o->((s.heap.push {cls:=.type "list",data:=.seq #[]}).update S (Obj.mapSeq (fun _=>#[]))).get? b=some o:=fun b o hb e=>(cR _ _ (bY hb)).trans (ae _ e);have tG:((s.heap.push {cls:=.type "list",data:=.seq #[]}).update S (Obj.mapSeq (fun _=>#[]))).objs.size=S+1:=by rw[(bh (h:=s.heap.push {cls:=.type "list",data:=.seq #[]}) (a:=S) ..).1,bi,hSe]
 generalize hH1:(s.heap.push {cls:=.type "list",data:=.seq #[]}).update S (Obj.mapSeq (fun _=>#[]))=H1 at nz kI tG ⊢;have m8:∀h:Heap,(∀b o,b≠S->s.heap.get? b=some o->h.get? b=some o)->ZTn b1 b2 z TI TO i1 i2 l1 l2 0 h:=fun h k=>st.keep fun b hb o e=>k b o (ne b (by
  simp only[av,aU,bM]at hb ⊢;rcases hb with h |h |h |h |h<;>simp[h])) e
 obtain⟨⟨_,_,ez,_⟩,_⟩:=id (m8 H1 kI);have cz:∃o,H1.get? z=some o/\o.cls=.type "zip":=⟨_,ez,rfl⟩
 obtain⟨oz,ez,cz⟩:=cz;unfold Builtin.List.listExtendWith;refine aa (wpAny_typeOf (T:="zip") ⟨oz,ez,cz⟩ ?_);have h1:Builtin.List.listSameRef (.ref S) (.ref z)=false:=by simp[Builtin.List.listSameRef,(ne z ?G).symm]
 have h2:(Builtin.List.listSameRef (.ref S) (.ref z)||(Value.type "zip"==Value.type "list")||(Value.type "zip"==Value.type "tuple"))=false:=by rw[h1];decide
 rw[aI (by rw[h2];decide)];refine aa (Y0f (m8 H1 kI).1 (aa (bv (W6p ⟨oz,ez,cz⟩ ?_))));rw[Bool.true_or,aQ rfl];refine aa (dw (aa ?_))
 change wpAny (model P w) A.in1.in1 (updateSeq S (·.push .none)>>=fun _=>updateSeq S (·.pop)) _ _ _
 refine aa (gY nz rfl ?_);obtain⟨c2,oS⟩:=Z6g nz (·.push Value.none);refine gY (hz:=by seq_fits) oS rfl ?_;obtain⟨c3,lV⟩:=Z6g oS (·.pop);have e3:((#[]:Array Ad).push Value.none).pop=(([]:M Af).map Value.ref).toArray:=rfl;have i5:∀b o,b≠S->s.heap.get? b=some o->((H1.update S (Obj.mapSeq (·.push Value.none))).update S (Obj.mapSeq (·.pop))).get? b=some o:=fun b o hb e=>(cR _ _ (bY hb)).trans ((cR _ _ (bY hb)).trans (kI b o hb e));have qz:((H1.update S (Obj.mapSeq (·.push Value.none))).update S (Obj.mapSeq (·.pop))).objs.size=S+1:=by rw[(bh (h:=H1.update S (Obj.mapSeq (·.push Value.none))) (a:=S) ..).1,(bh (h:=H1) (a:=S) ..).1,tG]
 generalize hH3:(H1.update S (Obj.mapSeq (·.push Value.none))).update S (Obj.mapSeq (·.pop))=H3 at lV i5 qz ⊢;refine aj ⟨plainId_quiet PySem.F.plain_extend_loop _,?_⟩;have vW:T4 b1 H3 l1 xs:=kg.keep fun o e=>i5 _ _ (ne l1 ?G) e;have vU:T4 b2 H3 l2 ys:=ib.keep fun o e=>i5 _ _ (ne l2 ?G) e;refine V8w (s:=s) (A:=A.in1) (h0:=H3) (S:=S) hh D nv ip ⟨(ne z ?G).symm,(ne TI ?G).symm,(ne TO ?G).symm,(ne i1 ?G).symm,(ne i2 ?G).symm,(ne l1 ?G).symm,(ne l2 ?G).symm⟩ hn (fun b hb=>?_) (fun h' tk as c lf i8 gw mH sg mX=>?_)
  _ 0 H3 _ c3 [] rfl (bz _) (m8 H3 i5) vW vU rfl dM (by intro a ha;cases ha) (ao _) (by intro a ha;cases ha) (by intro j a e;simp at e) (fun c o _ e=>e) (by rw[<-e3];exact lV)
 ·rw[qz];rcases aH.mp (show b∈[z,TI,TO,i1,i2,l1,l2]++[S]from hb)with q |q
  ·exact bj (lP b q)
  ·rw[aG.mp q];exact cj _
 ·refine⟨rfl,hSe▸hQ h' tk as c lf i8 (fun a ha=>?_) mH (fun c o hc e=>?_) (hSe.symm▸mX)⟩
  ·have:=gw a ha;rw[qz]at this;rw[hSe];exact this
  ·refine sg c o (fun q=>?_) (i5 c o (fun z=>?_) e)
   ·rcases aH.mp (show c∈[z,TO,i1,i2]++[S]from q)with q |q
    ·exact hc q
    ·rw[aG.mp q,<-hSe]at e;exact absurd (aw e) (aS _)
   ·rw[z,<-hSe]at e;exact absurd (aw e) (aS _)
end
section
variable {a b:Ag}{p2 gt:Pos}
theorem Y4j {n0:Nat}(h0:X.s₀.heap.objs.size<=n0):∀(as:M Af) (xs:M (V×V)) {H:Hp},?B->as.length=xs.length->as.Nodup->(∀a∈as,n0<=a/\H a=none/\a≠X.env.locals/\(∀x c,X.env.cells.lookup x=some c->c≠a)/\∀q∈X.pn++af,q.1≠a) ->
  (∀(j:Nat) a v,as[j]?=some a->xs[j]?=some v->∃x y,C2 v.1 x/\C2 v.2 y/\IsPair s.heap a x y)->∃H',A1 X af σ H' s/\A4 H H'/\(∀c,c∉as->H' c=H c)/\∀(j:Nat) a v,as[j]?=some a->xs[j]?=some v->H' a=some (.tup [v.1,v.2])
 |[],xs,H,I,_,_,_,_=>⟨H,I,A4.refl H,fun _ _=>rfl,by intro j a v e;simp at e⟩
 |c::as,[],H,I,l,_,_,_=>by cases l
 |c::as,u::xs,H,I,l,n,f,g=>by
  rw[bo]at n;obtain⟨c1,c2,c3,c4,c5⟩:=f c am;obtain⟨x,y,rx,ry,pr⟩:=g 0 c u rfl rfl;have I1:A1 X af σ (A6 H c (.tup [u.1,u.2])) s:=Z5t I c2 (.inr (aO h0 c1)) c3 c4 c5 ⟨by show 2<=sizeLine;decide,[x,y],.cons rx (.cons ry .nil),_,pr,rfl,_,rfl⟩;obtain⟨H',I2,sm,je,at_⟩:=Y4j h0 as xs I1 (by simpa using l) n.2 (fun a ha=>by
   obtain⟨a1,a2,a3⟩:=f a (ak _ ha);exact⟨a1,by rw[A7 (fun z=>n.1 (by rw[<-z];exact ha))];exact a2,a3⟩) fun j a v e1 e2=>g (j+1) a v (by simpa using e1) (by simpa using e2)
  refine⟨H',I2,(K2 c2 _).trans sm,fun d hd=>?_,fun j a v e1 e2=>?_⟩
  ·rw[je d (fun z=>hd (ak _ z)),A7 (fun z=>hd (by rw[z];exact am))]
  ·cases j with
   |zero=>cases e1;cases e2;rw[je c n.1];exact upd_same
   |succ j=>exact at_ j a v (by simpa using e1) (by simpa using e2)
def Y9c {r:R}{ds:M D}{v:V}(e:W5 r=some ds)(h:E1 K H0 H r v):∃(b:Bool) (a:Af) (xs:M V),v=.ref a/\SqB b K H a xs/\AllS K H ds xs:=by
 obtain⟨a,xs,rfl,h |h,al⟩:=Y9a e h
 ·exact⟨false,a,xs,rfl,h,al⟩
 ·exact⟨true,a,xs,rfl,h,al⟩
theorem W1g {G:M D->M D->Hp->Prop}  (I:?B)(hg:Gl X "zip")(hm:X.mg "zip"=none)(ha:DA X H0 [a,b] wr)  (hR:B6 X.K H0 τ σ H)
  (h:wr τ fun rs=>∃r r' ds es,rs=[r,r']/\W5 r=some ds/\W5 r'=some es/\∀H',A4 H H'->G ds es H')
  (hQ:∀(b1 b2:Bool) (l1 l2:Af) (xs ys:M V) (bb dH:M Ad) (ds es:M D) (H1:Hp) (s1:Ae) (h':Heap),A1 X af σ H1 s1->A4 H H1->SqB b1 X.K H1 l1 xs->SqB b2 X.K H1 l2 ys->AllS X.K H1 ds xs->AllS X.K H1 es ys->C4 xs bb->C4 ys dH->T4 b1 s1.heap l1 bb.toArray->T4 b2 s1.heap l2 dH.toArray->xs.length<=sizeLine ->
   ZTn b1 b2 (s1.heap.objs.size+4) (s1.heap.objs.size+2) (s1.heap.objs.size+3) s1.heap.objs.size (s1.heap.objs.size+1) l1 l2 0 h'->Q4g (s1.heap.objs.size+4) (s1.heap.objs.size+2) (s1.heap.objs.size+3) s1.heap.objs.size (s1.heap.objs.size+1) [s1.heap.objs.size,l1] [s1.heap.objs.size+1,l2] ->
   @LT.lt Nat _ l1 s1.heap.objs.size->@LT.lt Nat _ l2 s1.heap.objs.size->h'.objs.size=s1.heap.objs.size+5->(∀c o,s1.heap.get? c=some o->h'.get? c=some o)->(∀H',A4 H H'->G ds es H')->Q (.ref (s1.heap.objs.size+4)) {s1 with heap:=h'})
  (he:starEach [a,b] X.env=(false,eval a X.env)::starEach [b] X.env) (hpl:(backTo pos (starEach [b] X.env)).any (·.1)=false):
  wpAny ?C X.A (eval (.Call (.Name "zip" p) [a,b] [] pos) X.env) Q X.xe s:=by
 refine bn (Q3v I hg hm (u:=.type "zip") rfl ?_ (?K) (?K));refine bE (B3 (ha.pa pos af s σ H (fun vs H1=>A4 H H1/\∃b1 b2 l1 l2 xs ys ds es,vs=[.ref l1,.ref l2]/\SqB b1 X.K H1 l1 xs/\AllS X.K H1 ds xs/\SqB b2 X.K H1 l2 ys/\AllS X.K H1 es ys/\∀H',A4 H H'->G ds es H') I
  ⟨τ,hR,ha.mono τ _ _ (fun rs ⟨r,r',ds,es,e1,e2,e3,q⟩ vs H1 s1 eD=>⟨s1,by
   subst e1;obtain⟨v,u,rfl,ir,vZ⟩:=W4a eD;obtain⟨b1,l,xs,rfl,sq,al⟩:=Y9c e2 ir;obtain⟨b2,l2,ys,rfl,gh,fZ⟩:=Y9c e3 vZ;exact⟨b1,b2,l,l2,xs,ys,ds,es,rfl,sq,al,gh,fZ,q⟩⟩) h⟩) fun us s1 bG=>?_) he hpl
 obtain⟨vs,H1,I1,rv,sm,b1,b2,l1,l2,xs,ys,ds,es,e1,sq,al,gh,fZ,q⟩:=bG;subst e1;obtain⟨u1,u2,rfl,r1,r2⟩:=rv.two;cases (show u1=Value.ref l1 from r1);cases (show u2=Value.ref l2 from r2);obtain⟨bb,kc,pl,lK⟩:=Q7y I1 sq;obtain⟨dH,kH,jJ,wp⟩:=Q7y I1 gh;have hl:=pl.lt;have ib:=jJ.lt;refine W4y pl jJ fun h' hz ji iZ nv ip hsz k=>hQ b1 b2 l1 l2 xs ys bb dH ds es H1 s1 h' I1 sm sq gh al fZ kc kH pl jJ lK ⟨hz,ji,⟨_,_,iZ⟩,nv,ip⟩ ?_ hl ib hsz k q;refine⟨?_,?_,?_,?_,?_,?_,?_,?_,?_,?_,fun b hb=>?_,fun b hb=>?_⟩
 all_goals first |(show ¬ ((_:Nat)=(_:Nat));lia) |skip
 all_goals simp only[av,aU,bM]at hb
 all_goals rcases hb with rfl |rfl<;>refine⟨?_,?_,?_⟩<;>(show ¬ ((_:Nat)=(_:Nat));lia)
def Z1l (wr:WA):T5:=fun τ Q=>wr τ fun rs=>∃r r' ds es,rs=[r,r']/\W5 r=some ds/\W5 r'=some es/\Q (X5 ds es)
def W1v (hg:Gl X "zip")(hm:X.mg "zip"=none)(ha:DA X H0 [a,b] wr)(he:starEach [a,b] X.env=(false,eval a X.env)::starEach [b] X.env:=by rfl)(hpl:(backTo pos (starEach [b] X.env)).any (·.1)=false:=by rfl):
  L0 X H0 tg (.Call (.Name "zip" p) [a,b] [] pos) (Z1l wr) where
 mono:=fun τ P Q f h=>ha.mono τ _ _ (fun r de=>(by obtain⟨r1,r2,ds,es,e1,e2,e3,q⟩:=de;exact⟨r1,r2,ds,es,e1,e2,e3,f _ q⟩)) h
 pi:=by
  intro af s σ H R I ⟨τ,hR,h⟩;refine W1g (G:=fun ds es H'=>∀J,YlS X.K J (X5 ds es) H'->R J H') I hg hm ha hR (ha.mono τ _ _ (fun rs eI=>(by obtain⟨r,r',ds,es,e1,e2,e3,q⟩:=eI;exact⟨r,r',ds,es,e1,e2,e3,fun H' sm J y=>q J H' sm y⟩)) h) (fun b1 b2 l1 l2 xs ys bb dH ds es H1 s1 h' I1 sm sq gh al fZ rv jH pl jJ hz st Z hl ib hsz k q=>?_) he hpl;refine Y0f (s:={s1 with heap:=h'}) st.1 ⟨s1.heap.objs.size+4,[s1.heap.objs.size+4,s1.heap.objs.size+3,s1.heap.objs.size,s1.heap.objs.size+1,s1.heap.objs.size+2],_,_,H1,rfl,I1.kept (t':=s1.toks) k,V7x (n:=Min.min ds.length es.length) Z (ax hl) (ax (bj ib)),st,fun b hb=>?_,q _ sm _ (V8t sq al gh fZ)⟩;have hb:s1.heap.objs.size<=b:=by
   simp only[av,aU,bM]at hb;rcases hb with rfl |rfl |rfl |rfl |rfl<;>first |exact ao _ |exact Nat.le_add_right _ _
  exact I1.fpOk hb (I1.hok.fresh hb)
@[simp] theorem V5c {Q:M D->Prop}:Z1l wr τ Q=wr τ fun rs=>∃r r' ds es,rs=[r,r']/\W5 r=some ds/\W5 r'=some es/\Q (X5 ds es):=rfl
def Z9h (wr:WA):WE:=fun τ Q=>wr τ fun rs=>∃r r' ds es,rs=[r,r']/\W5 r=some ds/\W5 r'=some es/\Q (.nw (X5 ds es))
theorem W1s (hc:X.calm=true)(hg:Gl X "list")(hm:X.mg "list"=none)(wW:Gl X "zip")(wJ:X.mg "zip"=none)(ha:DA X H0 [a,b] wr)
  (hs:starEach [.Call (.Name "zip" p2) [a,b] [] gt] X.env=(false,eval (.Call (.Name "zip" p2) [a,b] [] gt) X.env)::starEach [] X.env:=by rfl)
  (he:starEach [a,b] X.env=(false,eval a X.env)::starEach [b] X.env:=by rfl) (hpl:(backTo gt (starEach [b] X.env)).any (·.1)=false:=by rfl):
  DE X H0 (.Call (.Name "list" p) [.Call (.Name "zip" p2) [a,b] [] gt] [] pos) (Z9h wr) where
 mono:=fun τ P Q f h=>ha.mono τ _ _ (fun r fR=>(by obtain⟨r1,r2,ds,es,e1,e2,e3,q⟩:=fR;exact⟨r1,r2,ds,es,e1,e2,e3,f _ q⟩)) h
 pe:=by
  intro af s σ H Q I ⟨τ,hR,h⟩;refine bn (Q3v I hg hm (u:=.type "list") rfl ?_ (?K) (?K));refine bE ?_ hs;rw[hs]
  change wpAny ?C X.A (spliced ((false,eval (.Call (.Name "zip" p2) [a,b] [] gt) X.env)::backTo pos (starEach [] X.env))) _ _ s
  refine bR ?_;refine W1g (G:=fun ds es H'=>∀v,E1 X.K H H' (.nw (X5 ds es)) v->Q v H') I wW wJ ha hR (ha.mono τ _ _ (fun rs gv=>(by obtain⟨r,r',ds,es,e1,e2,e3,q⟩:=gv;exact⟨r,r',ds,es,e1,e2,e3,fun H' sm v i=>q v H' sm i⟩)) h) (fun b1 b2 l1 l2 xs ys bb dH ds es H1 s1 h' I1 sm sq gh al fZ kc kH pl jJ lK st Z hl ib hsz k q=>cG ?_) he hpl;have n1:=kc.length;have n2:=kH.length;refine W4t (s:={s1 with heap:=h'}) (I.ok.hd hc) Z (ax hl) (ax (bj ib)) st (pl.keep fun o e=>k _ o e) (jJ.keep fun o e=>k _ o e) (by simp only[aR];lia) (fun b hb=>?_) fun h2 tk as c lf i8 gw mH sg mX=>?_
  ·show b<h'.objs.size;rw[hsz];simp only[av,aU,bM]at hb;rcases hb with rfl |rfl |rfl |rfl |rfl |rfl |rfl<;>(show(_:Nat)<(_:Nat);lia)
  ·have sf:∀c o,s1.heap.get? c=some o->h2.get? c=some o:=fun c o e=>sg c o (fun z=>by
    have:@LT.lt Nat _ c s1.heap.objs.size:=aw e;simp only[av,aU,bM]at z;rcases z with rfl |rfl |rfl |rfl<;>lia) (k c o e)
   have I2:A1 X af σ H1 {s1 with heap:=h2,toks:=tk}:=I1.kept (t':=tk) sf;have hS:@LE.le Nat _ s1.heap.objs.size h'.objs.size:=by rw[hsz];lia
   have big:∀c,s1.heap.objs.size<=c->H1 c=none/\c≠X.env.locals/\(∀x d,X.env.cells.lookup x=some d->d≠c)/\∀q∈X.pn++af,q.1≠c:=fun c gR=>by
    obtain⟨f0,f1,_,_,f4,f5⟩:=I1.fpOk gR (I1.hok.fresh gR);exact⟨f0,f1,f4,f5⟩
   have oO:∀a∈as,s1.heap.objs.size<=a:=fun a pV=>aO hS (cg (gw a pV));have vS:(xs.zip ys).length=Min.min bb.toArray.size dH.toArray.size:=by simp;lia
   obtain⟨H3,I3,jc,i5,y9⟩:=Y4j (X:=X) (s:={s1 with heap:=h2,toks:=tk}) (n0:=s1.heap.objs.size) I1.sz as (xs.zip ys) I2 (by rw[lf,vS]) i8 (fun a pV=>⟨oO a pV,big a (oO a pV)⟩) fun j a v e1 e2=>by
    obtain⟨x,y,ex,ey,pr⟩:=mH j a e1;rw[cp]at e2;obtain⟨u,hu,ru⟩:=kc.get e2.1;obtain⟨u',rN,qG⟩:=kH.get e2.2;have ex:bb[j]?=some x:=by simpa using ex
    have ey:dH[j]?=some y:=by simpa using ey
    rw[hu]at ex;cases ex;rw[rN]at ey;cases ey;exact⟨_,_,ru,qG,pr⟩
   have sK:h'.objs.size∉as:=fun z=>aS _ (gw _ z);obtain⟨b1,b2,b3,b4⟩:=big h'.objs.size hS;have hz:(as.map V.ref).length<=sizeLine:=by rw[ag,lf];simp only[aR];lia
   have I4:=Z5t I3 (p:=h'.objs.size) (u:=.lst (as.map V.ref)) (by rw[i5 _ sK];exact b1) (.inr (aO I1.sz hS)) b2 b3 b4 ⟨hz,as.map Value.ref,c,Z8w as,mX⟩;have kD:=jc.trans (K2 (p:=h'.objs.size) (by rw[i5 _ sK];exact b1) (.lst (as.map V.ref)));refine⟨.ref h'.objs.size,_,I4,rfl,q _ (sm.trans kD) _ ⟨h'.objs.size,as.map V.ref,rfl,sm.free b1,upd_same,?_⟩⟩;have kp:=Kp.of kD;have yc:=al.mono kp _ _;have t8:=fZ.mono kp _ _;have y8:∀(j:Nat) a v,as[j]?=some a->(xs.zip ys)[j]?=some v->A6 H3 h'.objs.size (.lst (as.map V.ref)) a=some (.tup [v.1,v.2]):=fun j a v e1 e2=>by
    rw[A7 (fun z=>sK (by rw[<-z];exact az e1))];exact y9 j a v e1 e2
   have lz:as.length=(X5 ds es).length:=by rw[lf,Y0e,al.length,fZ.length];simp only[aR];lia
   have key:∀(as:M Af) (zs:M D) (H:Hp),as.length=zs.length->(∀(j:Nat) a z,as[j]?=some a->zs[j]?=some z->A3 X.K H z (.ref a))->AllS X.K H zs (as.map V.ref):=by
    intro as
    induction as with
    |nil=>intro zs H l _;cases zs with
     |nil=>exact AllS.nil
     |cons _ _=>cases l
    |cons a as ih=>
     intro zs H l f;cases zs with
     |nil=>cases l
     |cons z zs=>exact AllS.cons (f 0 a z rfl rfl) (ih zs H (by simpa using l) fun j a z e1 e2=>f (j+1) a z (by simpa using e1) (by simpa using e2))
   refine key as (X5 ds es) _ lz fun j a z e1 e2=>?_;obtain⟨x,y,ex,ey,rfl⟩:=W1f e2;obtain⟨v1,ni,q1⟩:=yc.get ex;obtain⟨v2,pO,q2⟩:=t8.get ey;exact A3.s_tup (y8 j a (v1,v2) e1 (by rw[cp];exact⟨ni,pO⟩)) (AllS.cons q1 (AllS.cons q2 AllS.nil))
@[simp] theorem V5i {Q:R->Prop}:Z9h wr τ Q=wr τ fun rs=>∃r r' ds es,rs=[r,r']/\W5 r=some ds/\W5 r'=some es/\Q (.nw (X5 ds es)):=rfl
end
def jOr (a b:T5):T5:=fun τ Q=>a τ Q\/b τ Q
def iOr (a b:WI):WI:=fun τ Q=>a τ Q\/b τ Q
def L0.or {a b:T5}(h1:L0 X H0 tg e a)(h2:L0 X H0 tg e b):L0 X H0 tg e (jOr a b) where
 mono:=fun τ P Q f h=>h.elim (fun h=>.inl (h1.mono τ P Q f h)) fun h=>.inr (h2.mono τ P Q f h)
 pi:=fun af s σ H R I h=>by
  obtain⟨τ,hR,h |h⟩:=h
  ·exact h1.pi af s σ H R I ⟨τ,hR,h⟩
  ·exact h2.pi af s σ H R I ⟨τ,hR,h⟩
def DI.or {a b:WI}(h1:DI X H0 tg e a)(h2:DI X H0 tg e b):DI X H0 tg e (iOr a b) where
 mono:=fun τ P Q f h=>h.elim (fun h=>.inl (h1.mono τ P Q f h)) fun h=>.inr (h2.mono τ P Q f h)
 pi:=fun af s σ H R I h=>by
  obtain⟨τ,hR,h |h⟩:=h
  ·exact h1.pi af s σ H R I ⟨τ,hR,h⟩
  ·exact h2.pi af s σ H R I ⟨τ,hR,h⟩
def Z8p:M Nat->M (M Nat)
 |[]=>[[]]
 |x::xs=>Z8p xs++(Z8p xs).map (x::·)
def V3:M (M Nat):=Z8p [0,1,2,3]
def T8 (S:M Nat)(led:Bool):SetTable:={mask:=7,place:=S.toArray,dummies:=#[],finger:=0,led:=led,moves:=0,plain:=true}
def E3 (tk:Nat->Tok)(S:M Nat):Array (Int×Ad):=(S.map fun(i:Nat)=>((i:Int),Value.int (i:Int) (tk i))).toArray
abbrev Q0g (S:M Nat)(tk:Nat->Tok)(ep:Nat)(led:Bool):Obj:={cls:=.type "set",dict:=none,data:=.set (E3 tk S) ep (T8 S led)}
def inS (i:Nat)(S:M Nat):M Nat:=S.take (SetTable.below S.toArray i)++i::S.drop (SetTable.below S.toArray i)
def adS (i:Nat)(S:M Nat):M Nat:=if i∈S then S else inS i S
structure Sm (S:M Nat)(led:Bool):Prop where
 add:∀i∈[0,1,2,3],adS i S∈V3/\(i∉S->(T8 S led).freeSlot (i:Int)=some (i,false))/\(∀j∈[0,1,2,3],(j∈adS i S ↔ j=i\/j∈S))
 few:(T8 S led).tooFull=false
 fits:(T8 S led).fits S.length=true
 len:S.length<=4
 ord:S.Pairwise (·<·)
 lt:∀j∈S,j<4
 nxt:∀k,k<S.length->SetTable.below S.toArray (S.getD k 0+1)=k+1
 zero:SetTable.below S.toArray 0=0
def Q0o (h:S∈V3)(led:Bool):Sm S led:=by
 have key:∀S∈V3,∀led:Bool,(∀i∈[0,1,2,3],adS i S∈V3/\(i∉S->(T8 S led).freeSlot (i:Int)=some (i,false))/\(∀j∈[0,1,2,3],(j∈adS i S ↔ j=i\/j∈S)))
 /\(T8 S led).tooFull=false/\(T8 S led).fits S.length=true/\S.length<=4/\S.Pairwise (·<·)/\(∀j∈S,j<4)/\(∀k,k<S.length->SetTable.below S.toArray (S.getD k 0+1)=k+1)/\SetTable.below S.toArray 0=0:=?A
 obtain⟨a,b,c,d,e,f,g,i⟩:=key S h led;exact⟨a,b,c,d,e,f,g,i⟩
theorem lt4 {i:Nat}(h:i<4):i∈[0,1,2,3]:=by
 rcases (show i=0\/i=1\/i=2\/i=3 by lia)with rfl |rfl |rfl |rfl<;>decide
theorem Z5l {i:Nat}(h:i<4):hashInt (i:Int)=i:=by
 rcases (show i=0\/i=1\/i=2\/i=3 by lia)with rfl |rfl |rfl |rfl<;>decide +kernel
def Q0f (tk:Nat->Tok)(S:M Nat):(E3 tk S).size=S.length:=by simp[E3]
def Y4d (l:M α)(p:Nat)(x:α):SetTable.insertAt l.toArray p x=(l.take p++x::l.drop p).toArray:=by
 unfold SetTable.insertAt;apply j9.mp;simp;rw[dJ ?G]
section
variable {w:Ak}{A:Ah}{led:Bool}
def V5v (h:S∈V3):ElemsOf (intKind prog w) (E3 tk S).toList:=by
 intro e he;simp only[E3,au]at he;obtain⟨i,hi,rfl⟩:=he;have:=(Q0o h true).lt i hi;exact⟨⟨(i:Int),ka _ _ _ _,(Z5l this).symm⟩,rfl⟩
def V5w {i:Nat}{t:Tok}(hi:i∉S):SetTable.insertAt (E3 tk S) (SetTable.below S.toArray i) ((i:Int),Value.int (i:Int) t)=E3 (fun j=>if j=i then t else tk j) (inS i S):=by
 unfold E3 inS;rw[Y4d];congr 1;rw[bA,ar,List.map_take,List.map_drop];dsimp only;rw[aQ rfl];have:(S.map fun(j:Nat)=>((j:Int),Value.int (j:Int) (tk j)))=S.map fun(j:Nat)=>((j:Int),Value.int (j:Int) (if j=i then t else tk j)):=bg fun j hj=>by rw[aI (show ¬ j=i from fun z=>hi (z▸hj))]
 rw[this]
def W8m {i:Nat}{t:Tok}(h:S∈V3)(lR:i<4)(hi:i∉S):layNew (T8 S led) (E3 tk S) (i:Int) (Value.int (i:Int) t)=(E3 (fun j=>if j=i then t else tk j) (inS i S),T8 (inS i S) led,false,false):=by
 have F:=Q0o h led;obtain⟨h1,h2,_⟩:=F.add i (lt4 lR);have e1:(T8 S led).put i=(T8 (inS i S) led,SetTable.below S.toArray i):=by
  unfold SetTable.put;show(({(T8 S led)with place:=SetTable.insertAt S.toArray (SetTable.below S.toArray i) i,dummies:=if SetTable.has #[] i then _ else #[]}:SetTable),SetTable.below S.toArray i)=_;rw[Y4d,aI (by simp[SetTable.has])];rfl
 unfold layNew;rw[h2 hi];dsimp only;rw[e1];dsimp only;rw[V5w hi];have h1:inS i S∈V3:=by unfold adS at h1;rw[aI hi]at h1;exact h1
 have hf:=(Q0o h1 led).fits;unfold SetTable.orStandIn;rw[Q0f,aQ hf,hf];rfl
theorem W6w {i:Nat}(hi:i∉S):(E3 tk S).toList.findIdx? (fun e=>(intKind prog w).is (i:Int) e.2)=none:=by
 rw[lC];intro e he;simp only[E3,au]at he;obtain⟨j,hj,rfl⟩:=he;cases q:(intKind prog w).is (i:Int) (Value.int (j:Int) (tk j))with
 |false=>rfl
 |true=>
  have:=(intKind prog w).inj _ _ _ q (ka _ _ (j:Int) (tk j));have:i=j:=by lia
  exact absurd (this▸hj) hi
theorem W6z {i:Nat}(hi:i∈S):∃j,(E3 tk S).toList.findIdx? (fun e=>(intKind prog w).is (i:Int) e.2)=some j:=by
 cases q:(E3 tk S).toList.findIdx? (fun e=>(intKind prog w).is (i:Int) e.2)with
 |some j=>exact⟨j,rfl⟩
 |none=>
  have:=lC.mp q ((i:Int),Value.int (i:Int) (tk i)) (by simp only[E3,au];exact⟨i,hi,rfl⟩);rw[show(intKind prog w).is (i:Int) (Value.int (i:Int) (tk i))=true from ka _ _ _ _]at this;cases this
theorem V6b {i:Nat}{t:Tok}{Q:Bool->Ae->Prop}(h:S∈V3)(lR:i<4)(ho:s.heap.get? a=some (Q0g S tk ep led))
  (hq:∀b h' kz kq,Heap.SameBut a s.heap h'->h'.get? a=some (Q0g (adS i S) kz kq led)->Q b {s with heap:=h'}):
  wpAny (model prog w) A (setAddHashed a (Value.int (i:Int) t) (i:Int)) Q E s:=by
 have ue:ElemsOf (intKind prog w) (E3 tk S).toList:=V5v h;have F:=Q0o h led;have hf:(T8 S led).fits (E3 tk S).size=true:=by rw[Q0f];exact F.fits
 have hb:(E3 tk S).size<scanBound:=by rw[Q0f];have:=F.len;unfold scanBound;lia
 have hk:=ka prog w (i:Int) t;unfold setAddHashed setAddHashedIn;refine bv (aa (cY ho rfl hf ?_));dsimp only;rw[byScan_of (knd:=intKind prog w) rfl hb ue];simp only[↓reduceIte];unfold setAddByScan;refine aa (aa (dw ?_));have hh:(i:Int)=(intKind prog w).hash (i:Int):=(Z5l lR).symm;rw[show setScan a (Value.int (i:Int) t) (i:Int) true (E3 tk S)=setScan a (Value.int (i:Int) t) ((intKind prog w).hash (i:Int)) true (E3 tk S)by rw[<-hh]];refine aa (wpAny_setScan_of hk ho rfl hf ue ?_)
 by_cases hi:i∈S
 ·obtain⟨j,ej⟩:=W6z (prog:=prog) (w:=w) (tk:=tk) hi;rw[ej];refine aj (aj ?_);refine hq _ s.heap tk ep (ky a s.heap) ?_;rw[adS,aQ hi];exact ho
 ·rw[W6w hi];dsimp only;rw[W8m h lR hi];dsimp only;have kh:inS i S∈V3:=by have:=(F.add i (lt4 lR)).1;unfold adS at this;rw[aI hi]at this;exact this
  have F2:=Q0o kh led;refine aa (aj ?_);rw[aQ (show(T8 (inS i S) led).plain=true from rfl),hashByValue_scannable 8 rfl];refine aa (aj ?_);rw[aQ (show plainKind (Value.int (i:Int) t)=true from rfl)];have hz:(E3 (fun j=>if j=i then t else tk j) (inS i S)).size<=sizeLine:=by rw[Q0f];have:=F2.len;rw[cT];lia
  refine aa (wpAny_storeSet_of ho rfl ?_ hz);rw[aI (by rw[F2.few];simp)];refine aj (aj ?_);refine hq _ _ (fun j=>if j=i then t else tk j) (ep+1) (bh s.heap a _) ?_;rw[bZ _ ho (by rw[putSet_of _ _ rfl];rfl),putSet_of _ _ rfl,adS,aI hi]
end
abbrev M7 (w:Ak):Bool:=!(w.params.followText "set-order")
theorem Y3o:∀(l:M α) (i:Nat) (h:i<l.length),(l[i]::l.eraseIdx i).Perm l
 |[],i,h=>absurd h (g8 _)
 |x::l,0,_=>gB _
 |x::l,i+1,h=>by
  have ih:=Y3o l i (by simpa using h);exact(List.Perm.swap x _ _).trans (ih.cons x)
theorem Y7i (next:Nat->Nat):∀(ln k:Nat) (left:M α) (out:Array α),left.length=ln->(pickOrder.go next ln k left out).toList.Perm (out.toList++left)
 |0,k,left,out,h=>by
  rw[dA.mp h,b8];unfold pickOrder.go;exact gB _
 |ln+1,k,left,out,h=>by
  have hm:next k % left.length<left.length:=Nat.mod_lt _ (by omega)
  unfold pickOrder.go;rw[ac hm];dsimp only;refine(Y7i next ln (k+1) _ _ (by rw[List.length_eraseIdx,aQ hm];omega)).trans ?_;rw[Array.toList_push,bt];refine List.Perm.append_left _ ?_;exact Y3o _ _ hm
def Y7j (next:Nat->Nat)(xs:Array α):(pickOrder next xs).toList.Perm xs.toList:=by
 have:=Y7i next xs.size 0 xs.toList #[] ?G
 simpa [pickOrder]using this
def Q0m (w:Ak)(a:Af)(ep:Nat)(es:Array (Int×Ad)):Array (Int×Ad):=if w.params.followText "set-order"=true then pickOrder (w.params.setOrder a ep) es else es
def Y6s (w:Ak)(a:Af)(ep:Nat)(es:Array (Int×Ad)):(Q0m w a ep es).toList.Perm es.toList:=by
 unfold Q0m;split
 ·exact Y7j _ _
 ·exact gB _
def R4 (w:Ak)(S:M Nat)(i:Nat):Nat:=if w.params.followText "set-order"=true then 0 else if i=0 then 0 else S.getD (i-1) 0+1
def Q3j (w:Ak)(S:M Nat)(h:Heap)(it a:Af)(ep i:Nat):Prop:=∃o,h.get? it=some o/\o.cls=.type "set_iterator"/\o.data=.fields #[rawInt (R4 w S i),rawInt i,.ref a,rawInt S.length,rawInt ep]
def Q3j.typeIs {w:Ak}    {i:Nat}(h:Q3j w S s.heap it a ep i):s.TypeIs (.ref it) "set_iterator":=let ⟨o,ho,hc,_⟩:=h;⟨o,ho,hc⟩
def Q7u:Slot "set_iterator" "__next__" "set_iterator.__next__" :=
 .of (owner:="set_iterator") (n:="__next__") (by rw[hJ,eJ];kernel_rfl) (?A) (?A) (?A) (by first |exact .inl (?A) |exact .inr (?A)) (by rw[qv];kernel_rfl)
def Y8x:Slot "set_iterator" "__iter__" "set_iterator.__iter__" :=
 .of (owner:="set_iterator") (n:="__iter__") (by rw[hJ,eJ];kernel_rfl) (?A) (?A) (?A) (by first |exact .inl (?A) |exact .inr (?A)) (by rw[qv];kernel_rfl)
def Y3l:entryFor table "set_iterator.__next__"=some Builtin.«set_iterator.__next__»:=entryFor_of_tree (by kernel_rfl)
def W5x:entryFor table "set_iterator.__iter__"=some Builtin.«dict_keyiterator.__iter__»:=entryFor_alias (id':="dict_keyiterator.__iter__") (by kernel_rfl) rfl (?A) (by kernel_rfl)
def W5w:entryFor table "set.__iter__"=some Builtin.«frozenset.__iter__»:=entryFor_alias (id':="frozenset.__iter__") (by kernel_rfl) rfl (?A) (by kernel_rfl)
def Y2a (a:Ad):argsOk "set_iterator.__next__" ⟨[a],[]⟩:=by unfold argsOk;kernel_rfl
def W4e (a:Ad):argsOk "set_iterator.__iter__" ⟨[a],[]⟩:=by unfold argsOk;kernel_rfl
section
variable {w:Ak}{A:Ah}
def Q6x {Q:Bool->Ae->Prop}(h:Q (w.params.followText "set-order") s):wpAny (model prog w) A setsByText Q E s:=by
 unfold setsByText;exact aa (gz (aj h))
def W7p (hS:S∈V3)(ho:s.heap.get? a=some (Q0g S tk ep (M7 w)))
  (h:Q (.ref s.heap.objs.size) {s with heap:=s.heap.push {cls:=.type "set_iterator",data:=.fields #[rawInt 0,rawInt 0,.ref a,rawInt S.length,rawInt ep]}}):wpAny (model prog w) A (pyIter (.ref a)) Q E s:=by
 have F:=Q0o hS (M7 w);have hf:(T8 S (M7 w)).fits (E3 tk S).size=true:=by rw[Q0f];exact F.fits
 have hT:s.TypeIs (.ref a) "set":=⟨_,ho,rfl⟩
 refine kr hT po (bx po hT W5w ?_ (PySem.F.args_set_iter_1 _));unfold Builtin.«frozenset.__iter__»
 change wpAny _ _ (Builtin.Frozenset.sizeOf a>>=_) _ _ s
 unfold Builtin.Frozenset.sizeOf;refine aa (aa (j3 ho rfl hf (aj ?_)));unfold setDrawn;refine aa (aa (cY ho rfl hf (aa (Q6x (aj ?_)))));dsimp only;rw[aI (by
  show ¬ (!(w.params.followText "set-order")&&(!true&&decide ((E3 tk S).size > 1)))=true;simp)]
 refine aa (aj ?_);refine aa (wpAny_setEpoch_of ho rfl hf ?_);refine aa (bO (aj ⟨_,rfl,"set_iterator",_,⟨_,aD _ rfl,rfl⟩,Q7u.lookup,?_⟩));rw[Q0f];exact h
end
section
variable {w:Ak}{A:Ah}
def Y8t {i:Nat}(h:i<S.length):(E3 tk S)[i]?=some ((S.getD i 0:Int),Value.int (S.getD i 0:Int) (tk (S.getD i 0))):=by
 unfold E3;rw[pz,ah,aq,ac h];rfl
theorem V0c {i:Nat}{Q:Ac (Ad×Nat)->Ae->Prop}(hS:S∈V3)(ho:s.heap.get? a=some (Q0g S tk ep (M7 w)))(hi:i<S.length)
  (h:∀e,(Q0m w a ep (E3 tk S))[i]?=some e->Q (some (e.2,R4 w S (i+1))) s):wpAny (model prog w) A (setNext a (R4 w S i) i ep) Q E s:=by
 have F:=Q0o hS (M7 w);have hf:(T8 S (M7 w)).fits (E3 tk S).size=true:=by rw[Q0f];exact F.fits
 unfold setNext;refine aa (cY ho rfl hf ?_);dsimp only;refine aa (Q6x ?_);cases hb:w.params.followText "set-order" with
 |true=>
  rw[aQ rfl,aI ?G];unfold setWalk;refine aa (aa (cY ho rfl hf ?_));dsimp only;refine aa (Q6x ?_);rw[hb,aQ rfl];refine aa (gz (aj (aj ?_)));have eo:Q0m w a ep (E3 tk S)=pickOrder (w.params.setOrder a ep) (E3 tk S):=by unfold Q0m;rw[aQ hb]
  have hl:i<(Q0m w a ep (E3 tk S)).size:=by
   have:=(Y6s w a ep (E3 tk S)).length_eq;rw[bK,bK,Q0f]at this;lia
  obtain⟨e,he⟩:∃e,(Q0m w a ep (E3 tk S))[i]?=some e:=⟨_,Array.getElem?_eq_getElem hl⟩
  have q:=h e he;rw[eo]at he;have e1:R4 w S (i+1)=R4 w S i:=by unfold R4;rw[aQ hb,aQ hb]
  rw[e1]at q;show Q (Option.map (fun e=>(e.snd,R4 w S i)) (pickOrder (w.params.setOrder a ep) (E3 tk S))[i]?) s;rw[he];exact q
 |false=>
  have eo:Q0m w a ep (E3 tk S)=E3 tk S:=by unfold Q0m;rw[aI (by rw[hb];exact aW)]
  have sV:SetTable.below S.toArray (R4 w S i)=i:=by
   unfold R4;rw[aI (by rw[hb];exact aW)]
   by_cases hz:i=0
   ·rw[aQ hz,hz];exact F.zero
   ·rw[aI hz,F.nxt (i-1) (by lia)];lia
  have q:=h _ (by rw[eo];exact Y8t hi);have e2:R4 w S (i+1)=S.getD i 0+1:=by
   unfold R4;rw[aI (by rw[hb];exact aW),aI (by lia)];rfl
  rw[aI aW,aI (by
   show ¬ (!true&&decide ((E3 tk S).size > 1))=true;simp)]
  refine aa (m:=(if (!(M7 w)&&!(E3 tk S).isEmpty)=true then PySem.unsupported "set:maker-not-led" else pure ())) ?_;rw[aI (by rw[show M7 w=true by show(!(w.params.followText "set-order"))=true;rw[hb];rfl];simp)];refine aj (aj ?_);have e3:(T8 S (M7 w)).place[i]?=some (S.getD i 0):=by
   show S.toArray[i]?=_;rw[pz,aq,ac hi];rfl
  show Q (match (E3 tk S)[SetTable.below S.toArray (R4 w S i)]?,(T8 S (M7 w)).place[SetTable.below S.toArray (R4 w S i)]? with |some (_,x),some j=>some (x,j+1) |_,_=>none) s;rw[sV,e3,Y8t hi];rw[e2]at q;exact q
theorem V0b {Q:Ac (Ad×Nat)->Ae->Prop}(hS:S∈V3)(ho:s.heap.get? a=some (Q0g S tk ep (M7 w)))(h:Q none s):wpAny (model prog w) A (setNext a (R4 w S S.length) S.length ep) Q E s:=by
 have F:=Q0o hS (M7 w);have hf:(T8 S (M7 w)).fits (E3 tk S).size=true:=by rw[Q0f];exact F.fits
 unfold setNext;refine aa (cY ho rfl hf ?_);dsimp only;refine aa (Q6x ?_);cases hb:w.params.followText "set-order" with
 |true=>
  rw[aQ rfl,aI ?G];unfold setWalk;refine aa (aa (cY ho rfl hf ?_));dsimp only;refine aa (Q6x ?_);rw[hb,aQ rfl];refine aa (gz (aj (aj ?_)));have hl:(pickOrder (w.params.setOrder a ep) (E3 tk S)).size=S.length:=by
   have:=(Y7j (w.params.setOrder a ep) (E3 tk S)).length_eq;rw[bK,bK,Q0f]at this;exact this
  show Q (Option.map (fun e=>(e.snd,R4 w S S.length)) (pickOrder (w.params.setOrder a ep) (E3 tk S))[S.length]?) s;rw[nH (by lia)];exact h
 |false=>
  have sV:SetTable.below S.toArray (R4 w S S.length)=S.length:=by
   unfold R4;rw[aI (by rw[hb];exact aW)]
   by_cases hz:S.length=0
   ·rw[aQ hz,hz];exact F.zero
   ·rw[aI hz,F.nxt (S.length-1) (by lia)];lia
  rw[aI aW,aI (by
   show ¬ (!true&&decide ((E3 tk S).size > 1))=true;simp)]
  refine aa (m:=(if (!(M7 w)&&!(E3 tk S).isEmpty)=true then PySem.unsupported "set:maker-not-led" else pure ())) ?_;rw[aI (by rw[show M7 w=true by show(!(w.params.followText "set-order"))=true;rw[hb];rfl];simp)];refine aj (aj ?_);show Q (match (E3 tk S)[SetTable.below S.toArray (R4 w S S.length)]?,(T8 S (M7 w)).place[SetTable.below S.toArray (R4 w S S.length)]? with |some (_,x),some j=>some (x,j+1) |_,_=>none) s;rw[sV,nH (by rw[Q0f];exact ao _)];exact h
end
section
variable {w:Ak}{A:Ah}
def Q3j.at {i:Nat}(x:Q3j w S h it a ep i)(e:∀o,h.get? it=some o->h'.get? it=some o):Q3j w S h' it a ep i:=let ⟨o,ho,r⟩:=x;⟨o,e _ ho,r⟩
def V2x {i:Nat}{Q:Ac Ad->Ae->Prop}(hS:S∈V3)(hit:Q3j w S s.heap it a ep i)(ho:s.heap.get? a=some (Q0g S tk ep (M7 w)))(hi:i<S.length)
  (hQ:∀e h',(Q0m w a ep (E3 tk S))[i]?=some e->Q3j w S h' it a ep (i+1)->Heap.SameBut it s.heap h'->Q (some e.2) {s with heap:=h'}):wpAny (model prog w) A (pyNext (.ref it)) Q E s:=by
 have F:=Q0o hS (M7 w);have hf:(T8 S (M7 w)).fits (E3 tk S).size=true:=by rw[Q0f];exact F.fits
 obtain⟨o,nr,hc,hd⟩:=id hit;unfold pyNext;refine aa (jz (bS (name:=Str.ofString "__next__") hit.typeIs Q7u (bx Q7u hit.typeIs Y3l ?_ (Y2a _))));unfold Builtin.«set_iterator.__next__»;refine aa (aj ?_);refine aa (wpAny_fieldsOf nr hd ?_)
 change wpAny _ _ (setEntries a>>=_) _ _ s
 refine aa (j3 ho rfl hf ?_);rw[aI (by rw[Q0f];simp)]
 change wpAny _ _ (setNext a (Int.toNat ((R4 w S i:Nat):Int)) (Int.toNat ((i:Nat):Int)) (Int.toNat ((ep:Nat):Int))>>=_) _ _ s
 rw[bL,bL,bL];refine aa (V0c hS ho hi fun e he=>?_);dsimp only;refine aa (fK nr hd ?G ?_);have h1:=bZ (Obj.mapFields (·.setIfInBounds 0 (rawInt ((R4 w S (i+1):Nat):Int)))) nr (hZ (c9 hd _));refine aa (fK h1 (c9 hd _) ?G ?_);refine aj ⟨_,rfl,aj (hQ e _ he ?_ ((bh ..).trans (bh ..)))⟩;refine⟨_,bZ _ h1 (hZ (c9 (c9 hd _) _)),(kw ..).trans ((kw ..).trans hc),?_⟩;rw[c9 (c9 hd _)];simp[rawInt]
def V2y {Q:Ac Ad->Ae->Prop}(hh:A.handled=none)(hS:S∈V3)(hit:Q3j w S s.heap it a ep S.length)(ho:s.heap.get? a=some (Q0g S tk ep (M7 w)))
  (hQ:∀h',Heap.ExtBut it s.heap h'->Q none {s with heap:=h'}):wpAny (model prog w) A (pyNext (.ref it)) Q E s:=by
 have F:=Q0o hS (M7 w);have hf:(T8 S (M7 w)).fits (E3 tk S).size=true:=by rw[Q0f];exact F.fits
 obtain⟨o,nr,hc,hd⟩:=id hit;unfold pyNext;refine aa (jz (bS (name:=Str.ofString "__next__") hit.typeIs Q7u (bx Q7u hit.typeIs Y3l ?_ (Y2a _))));unfold Builtin.«set_iterator.__next__»;refine aa (aj ?_);refine aa (wpAny_fieldsOf nr hd ?_)
 change wpAny _ _ (setEntries a>>=_) _ _ s
 refine aa (j3 ho rfl hf ?_);rw[aI (by rw[Q0f];simp)]
 change wpAny _ _ (setNext a (Int.toNat ((R4 w S S.length:Nat):Int)) (Int.toNat ((S.length:Nat):Int)) (Int.toNat ((ep:Nat):Int))>>=_) _ _ s
 rw[bL,bL,bL];refine aa (V0b hS ho ?_);dsimp only;refine aa (fK nr hd ?G ?_);refine aa ?_;simp only[newExc,newTuple];refine aa (bO ?_ (by size_fits));refine aa (m:=firstArgMember _ _) (wpAny_of_eq (a:=Value.none) (by rfl) (bO ?_ (by size_fits)));simp only[raiseNew];refine aa (wpAny_handled ?_);rw[show A.in1.handled=none from hh];refine aa (aj (wpAny_throw ?_));refine aa (gy (T:="StopIteration") (b:=true) ⟨_,aD _ rfl,rfl⟩ isSubtype_stop ?_);exact aj (hQ _ (((bh ..).extBut.push _).push _))
def V8e (hh:A.handled=none)(hS:S∈V3)(dO:a≠it):Walks prog w A it [it,a] [it] S.length (fun i v=>∃e,(Q0m w a ep (E3 tk S))[i]?=some e/\v=e.2) (fun i h=>Q3j w S h it a ep i/\h.get? a=some (Q0g S tk ep (M7 w))) where
 sub:=fun b hb=>by simp at hb;simp[hb]
 frame:=fun _ _ _ st hk=>⟨st.1.at fun o e=>hk it ?G o e,hk a ?G _ st.2⟩
 item:=fun i s Q E hi st hQ=>V2x hS st.1 st.2 hi fun e h' he mO kQ=>hQ e.2 h' s.toks ⟨e,he,rfl⟩ ⟨mO,kQ.extBut a _ dO st.2⟩ fun b o hb q=>kQ.extBut b o (fun h=>hb (by simp[h])) q
 done:=fun s Q E st hQ=>V2y hh hS st.1 st.2 fun h' x8=>hQ h' s.toks fun b o hb e=>x8 b o (fun h=>hb (by simp[h])) e
 self:=fun _ s Q E st hQ=>by
  refine kr st.1.typeIs Y8x (bx Y8x st.1.typeIs W5x ?_ (W4e _))
  change wpAny _ _ (ret (.ref it)) _ _ s
  exact aj ⟨_,rfl,"set_iterator",_,st.1.typeIs,Q7u.lookup,hQ⟩
def W6o {r:Af}{Q:Bool->Ae->Prop}(hT:s.TypeIs (.ref r) "set")(h:Q false s):wpAny (model prog w) A (Builtin.List.listLengthHint (.ref r)) Q E s:=by
 unfold Builtin.List.listLengthHint;refine aa (fh hT PySem.F.slot_set_len.lookup ?_);generalize hid:("set.__len__":String)=id0
 wp_delta
 rw[show splitId id0=some ("set","__len__")from by subst hid;decide +kernel];subst hid;refine aa (gy (T:="set") (b:=true) hT (by rw[qv];kernel_rfl) ?_);refine nL (fun oP=>absurd oP (?K)) (fun _=>?_);refine nL (fun _=>?_) (fun oP=>absurd (?A) oP);refine aa (wpAny_typeOf hT ?_);exact aj h
def V6l (hS:S∈V3):PySem.W.KdlSrc prog w "set" a a S.length (fun i v=>∃e,(Q0m w a ep (E3 tk S))[i]?=some e/\v=e.2) (fun h=>h.get? a=some (Q0g S tk ep (M7 w))) where
 type:=fun _ hm=>⟨_,hm,rfl⟩
 there:=fun _ hm=>⟨aw hm,aw hm⟩
 keep:=fun _ _ hm hk=>hk a (.inl rfl) _ hm
 notList:=?K
 notTuple:=?K
 hint:=fun _ _ _ _ hm hq=>W6o ⟨_,hm,rfl⟩ hq
 iter:=fun _ s hh hm=>⟨_,_,(fun _ _ hq=>W7p hS hm hq),V8e hh hS (ax (aw hm)),⟨⟨_,aD _ rfl,rfl,by
  have:R4 w S 0=0:=by unfold R4;split<;>rfl
  rw[this];rfl⟩,ae _ hm⟩⟩
end
theorem W7d {vs:M Ad}{es:M (Int×Ad)}(hl:vs.length=es.length)(h:∀(j:Nat) (v:Ad),vs[j]?=some v->∃e,es[j]?=some e/\v=e.2)(hv:∀e∈es,∃t:Tok,e.2=Value.int e.1 t):IntsAre vs (es.map (·.1)):=by
 induction vs generalizing es with
 |nil=>cases es with
  |nil=>exact .nil
  |cons _ _=>cases hl
 |cons v vs ih=>
  cases es with
  |nil=>cases hl
  |cons e es=>
   obtain⟨e',q1,q2⟩:=h 0 v rfl;cases q1;obtain⟨t,ht⟩:=hv e am;rw[ar,q2,ht];exact .cons _ _ (ih (by simpa using hl) (fun j v q=>h (j+1) v (by simpa using q)) fun e he=>hv e (ak _ he))
def W6a {xs ys:M Int}(p:xs.Perm ys)(h1:xs.Pairwise (·<=·))(h2:ys.Pairwise (·<=·)):xs=ys:=p.eq_of_pairwise (fun a b _ _ h h'=>Int.le_antisymm h h') h1 h2
section
variable {w:Ak}{A:Ah}
theorem V6k (hh:A.handled=none)(hS:S∈V3)(ho:s.heap.get? a=some (Q0g S tk ep (M7 w)))
  (h:∀(h':Heap) (t':Nat) (D:Af) (c:Nat) (out:Array Ad),(∀b o,s.heap.get? b=some o->h'.get? b=some o)->(∀b o,s.heap.get? b=some o->b<D)->h'.get? D=some (seqObj "list" out c)->IntsAre out.toList (S.map fun(i:Nat)=>(i:Int))->Q (.ref D) {s with heap:=h',toks:=t'}):
  wpAny (model prog w) A (call (.builtin "sorted") [.ref a]) Q E s:=by
 have F:=Q0o hS (M7 w);refine tD kind_sorted plain_sorted entry_sorted (args_sorted1 _) ?_;unfold Builtin.«sorted»;refine aa (m:=checkCount "sorted" 1 1 _) (aj ?_);refine aa (PySem.W.kdu_collect (A:=A.in1) (V6l (prog:=prog) (w:=w) (a:=a) (tk:=tk) (ep:=ep) hS) hh ho (by have:=F.len;rw[cT];lia) fun h' t' c6 hk dX=>?_);have hl:c6.toList.length=S.length:=by rw[bK];exact dX.1
 refine aa (wpAny_newList ?_ (by rw[hl];have:=F.len;rw[cT];lia));have om:(h'.push (seqObj "list" c6.toList.toArray 0)).get? h'.objs.size=some (seqObj "list" c6.toList.toArray 0):=aD _ rfl;have pm:=Y6s w a ep (E3 tk S);have hI:IntsAre c6.toList ((Q0m w a ep (E3 tk S)).toList.map (·.1)):=by
  refine W7d ?_ (fun j v q=>?_) fun e he=>?_
  ·rw[hl,pm.length_eq];simp[E3]
  ·obtain⟨e,q1,q2⟩:=dX.2 j v (by rw[<-ga];exact q);exact⟨e,by rw[ga];exact q1,q2⟩
  ·have:=pm.mem_iff.mp he;simp only[E3,au]at this;obtain⟨i,_,rfl⟩:=this;exact⟨_,rfl⟩
 have kp:∀b o,s.heap.get? b=some o->∀out,(sortedHeap (h'.push (seqObj "list" c6.toList.toArray 0)) h'.objs.size c6.toList out).get? b=some o:=fun b o e out=>by
  have hb:=aw (hk b o e);rw[sortedHeap_old (ax hb) (by rw[size_push'];exact bj hb)];exact ae _ (hk b o e)
 refine aa (bv (bx slot_list_sort ⟨_,om,rfl⟩ entry_list_sort (list_sort_tree om hI (by rw[hl];have:=F.len;lia) fun out iW a1 a2 a3=>⟨_,rfl,?_⟩) (args_list_sort _)));obtain⟨c,hc⟩:=sortedHeap_at (out:=out) om;refine aj ⟨_,rfl,h _ _ _ c out (fun b o e=>kp b o e out) ?_ hc ?_⟩
 ·exact fun b o e=>aw (hk b o e)
 ·have e:(Q0m w a ep (E3 tk S)).toList.map (·.1)=_:=rfl;have p2:iW.Perm (S.map fun(i:Nat)=>(i:Int)):=by
   refine a2.trans ((pm.map (·.1)).trans ?_);rw[E3];simp only[aM];exact gB _
  have o2:(S.map fun(i:Nat)=>(i:Int)).Pairwise (·<=·):=by
   rw[iB];exact F.ord.imp fun h=>by lia
  rw[<-W6a p2 a3 o2];exact a1
end
theorem W7f {vs:M Ad}:∀{ns:M Int},IntsAre vs ns->C4 (ns.map V.int) vs:=by
 intro ns h
 induction h with
 |nil=>exact .nil
 |cons n t _ ih=>exact .cons ⟨t,rfl⟩ ih
structure Q6m (K:Fg9)(x qual:Str)(st:Al)(f:Af)(fd:Ai):Prop where
 ex:∃(oc:Ad) (od:Ac Af) (dV kV doc pm:Ad) (an:Ac Af) (cdv ct:Ad) (fV:Array (Ac Ad)),
  fd=PySem.W.fnOf x qual (Z1 st) (M4 st) (C0 st) dV kV doc pm an cdv ct/\K.lookup f=some ⟨oc,od,.func fd,fV⟩/\PySem.W.codeIn K cdv qual=true
section
variable {w:Ak}
def Q6m.ok {k:Nat}{sp:Sp}(F:Q6m K x qual st f fd)(S:Z4 N ps (C0 st))(len:∀vs H Q E,sp vs H Q E->vs.length=ps.length)
  (bQ:∀(cdv:Ad) (A:Ah) (outer:M Env) (s:Ae) (H:Hp) (vs:M V) (Q:VK) (E:XK),E2 k (A.deeper (envOfC qual (C0 st) s.heap.objs.size f cdv))->sp vs H Q E ->
   ∃t,U7 (U8 G8 P w K mg base N qual (C0 st) f cdv A outer s H E).nox (M4 st) t/\t {nx:=fun _ H'=>Q .non H',rt:=Q} (start N vs) H):O8 P w K mg base G8 (k+1) f fd ps sp:=by
 obtain⟨oc,od,dV,kV,doc,pm,an,cdv,ct,fV,rfl,lk,fS⟩:=F.ex;refine Z5c lk fS S len fun A outer s H vs Q E hr io=>?_;obtain⟨t,h,q⟩:=bQ cdv A outer s H vs Q E hr io;exact⟨t,h.nox,q⟩
def Q6m.okD {k:Nat}  (F:Q6m K x qual st f fd)(S:Z4 N ps (C0 st))
  (bQ:∀(cdv:Ad) (A:Ah) (outer:M Env) (s:Ae) (H:Hp) (E:XK),E2 k (A.deeper (envOfC qual (C0 st) s.heap.objs.size f cdv)) ->
   ∃ws,A8 (U8 G8 P w K mg base N qual (C0 st) f cdv A outer s H E).nox H (M4 st) ws /\
    ∀rs r,rs.length=ps.length->sp rs r->ws {nx:=fun _=>r=.st .non,rt:=fun r'=>r'=r,bk:=fun _=>False,ct:=fun _=>False} (D8 N rs)):
  O8 P w K mg base G8 (k+1) f fd ps (Q2u K ps.length sp):=by
 refine F.ok S (fun vs H Q E h=>?_) (fun cdv A outer s H vs Q E hr h=>?_)
 ·obtain⟨rs,r,hl,al,_⟩:=h;rw[<-al.length];exact hl
 obtain⟨rs,r,hl,al,ok,h1,h2⟩:=h;obtain⟨ws,hd,hw⟩:=bQ cdv A outer s H E hr;refine⟨_,hd.ps,D8 N rs,Z2g al ok,?_⟩;have hw:=hw (rs.map nrm) r (by rw[ag];exact hl) h1;rw[Z2s]at hw;refine hd.mono _ _ _ ⟨fun τ h σ H' _ hR=>?_,fun r' h v H' sm ir=>?_,fun _ h=>False.elim h,fun _ h=>False.elim h⟩ hw
 ·have h:r=.st .non:=h;subst h;exact h2 .non H' hR.same (Q8i (K:=K) (H:=H'))
 ·have h:r'=r:=h;subst h;exact h2 v H' sm ir
end
structure DfO (K:Fg9)(mg:Str->Ac Ad)(name:Str)(st:Al)(ps:M Str)(z:Int)(f:Af)(fd:Ai):Prop where
 F:Q6m K name name st f fd
 b:∃t,S3 K fd ps [.int z t]
 k:PySem.W.keepIn K (.ref f)=true
 m:mg name=some (.ref f)
section
variable {w:Ak}
def DfO.ok {z:Int}{k:Nat}  {ws:WS}(F:DfO K mg x st ps z f fd)(S:Z4 N ps (C0 st))
  (bQ:∀(cdv:Ad) (A:Ah) (outer:M Env) (s:Ae) (H:Hp) (E:XK),E2 k (A.deeper (envOfC x (C0 st) s.heap.objs.size f cdv))->A8 (U8 G8 P w K mg base N x (C0 st) f cdv A outer s H E).nox H (M4 st) ws)
  (hr:∀rs r,rs.length=ps.length->sp rs r->ws (Y7 r) (D8 N rs)):FnD P w K mg base (k+1) f fd ps sp:=
 Q6m.okD F.F S fun cdv A outer s H E mB=>⟨ws,bQ cdv A outer s H E mB,hr⟩
end
section
variable {es:M Ag}{k:Nat}{z:Int}
theorem M9.snoc {r:R}{v:V}(h:E1 K H0 H r v):∀{rs:M R}{vs:M V},M9 K H0 H rs vs->M9 K H0 H (rs++[r]) (vs++[v])
 |[],vs,q=>by
  have q:vs=[]:=q;subst q;exact⟨v,[],rfl,h,rfl⟩
 |a::rs,vs,q=>by
  obtain⟨v',vu,rfl,h1,h2⟩:=q;exact⟨v',vu++[v],rfl,h1,M9.snoc h h2⟩
def Z9a (z:Int)(sp:F5)(wr:WA):WE:=fun τ Q=>wr τ fun rs=>rs.all L3=true/\∃r,sp (rs.map nrm++[.st (.int z)]) r/\Q r
def W1k (F:O8 X.prog X.w X.K X.mg X.base G8 k f fd ps (Q2u X.K ((e::es).length+1) sp))(hr:E2 k X.A)(hg:Gl X x)(hm:X.mg x=some (.ref f))(hk:PySem.W.keepIn X.K (.ref f)=true)(hb:∃t,S3 X.K fd ps [.int z t])
  (ha:DA X H0 (e::es) wr) (fG:(x==("__debug__":Str))=false:=by decide) (he:?I:=by rfl) (hpl:(backTo pos (starEach es X.env)).any (·.1)=false:=by rfl):
  DE X H0 (.Call (.Name x p) (e::es) [] pos) (Z9a z sp wr) where
 mono:=fun τ P Q f h=>ha.mono τ _ _ (fun rs⟨ok,r,h1,h2⟩=>⟨ok,r,h1,f r h2⟩) h
 pe:=by
  obtain⟨t,hb⟩:=hb;refine Q9 (Z6x F hr hg hm hk hb (dvs:=[V.int z]) (.cons ⟨t,rfl⟩ .nil) Z2d ha.pa fG he hpl) fun σ H Q ⟨τ,hR,h⟩=>⟨τ,hR,ha.mono τ _ _ (fun rs mr vs H1 s1 eD=>?_) (ha.len τ _ h)⟩
  obtain⟨mN,ok,r,h1,h2⟩:=mr;refine⟨rs++[.st (.int z)],r,by rw[aC,mN];rfl,eD.v.snoc ?_,by rw[List.all_append,ok];rfl,by rw[bA];exact h1,fun v H' s2 ir=>h2 v H' (s1.trans s2) (ir.older s1)⟩;exact Q3k (K:=X.K) (H:=H1)
@[simp] theorem V4r {Q:R->Prop}:Z9a z sp wr τ Q=wr τ fun rs=>rs.all L3=true/\∃r,sp (rs.map nrm++[.st (.int z)]) r/\Q r:=rfl
end
section
variable {a:Ag}{es:M Ag}{k l:Nat}
def DE.cl (F:O8 X.prog X.w X.K X.mg X.base G8 l f fd ps (Q2u X.K (e::es).length sp))(hr:E2 k X.A)(D:Df X.K X.mg x st ps f fd)(ha:DA X H0 (e::es) wr)(hl:l<=k:=by decide)(hg:Gl X x:=by rfl)
  (fG:(x==("__debug__":Str))=false:=by decide) (he:?I:=by rfl) (hpl:(backTo pos (starEach es X.env)).any (·.1)=false:=by rfl):
  DE X H0 (.Call (.Name x p) (e::es) [] pos) (N4 sp wr):=DE.call F (hr.mono hl) hg D.m D.k D.b ha fG he hpl
def E8 {sp:D5}(rW:V5 sp)(F:O8 X.prog X.w X.K X.mg X.base G8 l f fd ps (Q7o X.K ts (e::es).length sp))(hr:E2 k X.A)(hT:Q5i ts H0)(D:Df X.K X.mg x st ps f fd)(ha:DA X H0 (e::es) wr)(hl:l<=k:=by decide)(hg:Gl X x:=by rfl)
  (fG:(x==("__debug__":Str))=false:=by decide) (he:?I:=by rfl) (hpl:(backTo pos (starEach es X.env)).any (·.1)=false:=by rfl):
  DE X H0 (.Call (.Name x p) (e::es) [] pos) (B9 sp wr):=W1l rW F (hr.mono hl) hT hg D.m D.k D.b ha fG he hpl
def DE.v (i:Nat)(hN:X.N[i]?=some x:=by rfl)(hv:Vis X.env.scope x:=by first |exact Or.inl rfl |exact Or.inr (Or.inl rfl) |exact Or.inr (Or.inr rfl))(hd:(x==("__debug__":Str))=false:=by decide)
  (fS:(x==("__classdict__":Str))=false:=by decide):DE X H0 (.Name x pos) (wV i):=DE.var (pv i hN hv hd fS)
def DA.one (ha:DE X H0 a wa)(hs:starEach [a] X.env=(false,eval a X.env)::starEach [] X.env:=by rfl):DA X H0 [a] (A0 wa A2):=DA.cons ha DA.nil hs
def Y6 (i:Nat)(he:DE X H0 e wa)(hN:X.N.Nodup)(hi:X.N[i]?=some x:=by rfl)(hx:Loc X.env.scope x:=by first |exact Or.inl rfl |exact Or.inr rfl)(hs:swapsWith e (some (.Name x p)) pos.line X.env=pure false:=by rfl)
  (hf:?J:=by first |exact .inl rfl |exact .inr rfl |assumption):DS X H0 (.Assign [.Name x p] e pos) (D6 i wa):=DS.set he hN hi hx hs hf
def scB (N P:M Str)(sc:Scope):Bool:=decide (sc.kind=.function)&&!sc.isCoroutine&&!sc.isGenerator&&decide N.Nodup&&decide (N.take P.length=P)&&P.all (fun x=>decide (sc.names.lookup x=some .local)||decide (sc.names.lookup x=some .cell))&&sc.names.all (fun y=>decide (y.2≠.free))
def Q3y {P:M Str}  (h:scB N P sc=true):Z4 N P sc:=by
 unfold scB at h;simp only[bD,yt,bX,Bool.or_eq_true,Bool.not_eq_true']at h;obtain⟨⟨⟨⟨⟨⟨h1,h2⟩,h3⟩,h4⟩,h5⟩,h6⟩,h7⟩:=h;exact⟨h1,h2,h3,h4,h5,h6,h7⟩
def W4j:bootBuiltins "len"=some (.builtin "len"):=?A
def W4k:bootBuiltins "tuple"=some (.type "tuple"):=?A
def DE.len (hm:X.mg "len"=none)(ha:DE X H0 a wa)(hg:Gl X "len":=by rfl)(hs:starEach [a] X.env=(false,eval a X.env)::starEach [] X.env:=by rfl)(hpl:(backTo pos (starEach [] X.env)).any (·.1)=false:=by rfl):DE X H0 (.Call (.Name "len" p) [a] [] pos) (D4 F3 (A0 wa A2)):=
 Z3w W4r W8q hg hm W4j (DA.cons ha DA.nil hs) (he:=hs) (hpl:=hpl)
def Q3g (hm:X.mg "tuple"=none)(ha:DE X H0 a wa)(hg:Gl X "tuple":=by rfl)(hs:starEach [a] X.env=(false,eval a X.env)::starEach [] X.env:=by rfl)(hpl:(backTo pos (starEach [] X.env)).any (·.1)=false:=by rfl):DE X H0 (.Call (.Name "tuple" p) [a] [] pos) (D4 T0 (A0 wa A2)):=
 Y0h W4w V7q hg hm W4k (DA.cons ha DA.nil hs) (he:=hs) (hpl:=hpl)
end
def Hr (K:Fg9)(n:Str)(st:Al)(f:Af)(fd:Ai):Prop:=PySem.W.nsIn K mainGlobals n=some (some (.ref f))/\Fun K n n st f fd
def HrC (K:Fg9)(n:Str)(st:Al)(f:Af)(fd:Ai)(c Pt:Af)(ts:M Af):Prop:=PySem.W.nsIn K mainGlobals n=some (some (.ref f))/\PySem.W.keepIn K (.ref f)=true /\
 (∃(oc:Ad) (od:Ac Af) (kV doc pm:Ad) (an:Ac Af) (ct:Ad) (fV:Array (Ac Ad)),fd=PySem.W.fnOf n n (Z1 st) (M4 st) (C0 st) .none kV doc pm an (.ref c) ct/\K.lookup f=some ⟨oc,od,.func fd,fV⟩/\PySem.W.codeIn K (.ref c) n=true) /\
 (∃(vo:Ad) (vd:Ac Af) (vv:Array Ad) (vs:Array (Ac Ad)),K.lookup c=some ⟨vo,vd,.fields vv,vs⟩/\vv[11]?=some (.ref Pt))/\PySem.W.codeHdIn K c Pt=true/\K.lookup Pt=none/\Pt∈ts
section
variable {n:Str}{c:Af}
def W6q {kV:Ad}(a:PySem.W.nsIn K mainGlobals n=some (some (.ref f)))(l:K.lookup f=some ⟨oc,od,.func (PySem.W.fnOf n n (Z1 st) (M4 st) (C0 st) .none kV doc pm an cdv ct),fV⟩)(q:PySem.W.codeIn K cdv n=true)(k:PySem.W.keepIn K (.ref f)=true):
  Hr K n st f (PySem.W.fnOf n n (Z1 st) (M4 st) (C0 st) .none kV doc pm an cdv ct):=⟨a,W6j l q k⟩
def W6r {vo:Ad}{vd:Ac Af}{vs:Array (Ac Ad)}{kV:Ad}{vv:Array Ad}(a:PySem.W.nsIn K mainGlobals n=some (some (.ref f)))(l:K.lookup f=some ⟨oc,od,.func (PySem.W.fnOf n n (Z1 st) (M4 st) (C0 st) .none kV doc pm an (.ref c) ct),fV⟩)(q:PySem.W.codeIn K (.ref c) n=true)(k:PySem.W.keepIn K (.ref f)=true)
  (v:K.lookup c=some ⟨vo,vd,.fields vv,vs⟩) (p:vv[11]?=some (.ref Pt)) (e:PySem.W.codeHdIn K c Pt=true) (o:K.lookup Pt=none) (m:Pt∈ts):HrC K n st f (PySem.W.fnOf n n (Z1 st) (M4 st) (C0 st) .none kV doc pm an (.ref c) ct) c Pt ts:=
 ⟨a,k,⟨_,_,_,_,_,_,_,_,rfl,l,q⟩,⟨_,_,_,_,v,p⟩,e,o,m⟩
def Hr.df (H:Hr K n st f fd)(X:K.In h)(G:h.Ns mainGlobals mg)(hb:∀(kV doc pm:Ad) (an:Ac Af) (cdv ct:Ad) (us:M Ad),us.length=ps.length->bindArgs (PySem.W.fnOf n n (Z1 st) (M4 st) (C0 st) .none kV doc pm an cdv ct) ⟨us,[]⟩=pure (ps.zip us)):Df K mg n st ps f fd:=
 ⟨H.2,H.2.binds hb,H.2.kp,hV X G H.1⟩
def HrC.hr (H:HrC K n st f fd c Pt ts):Hr K n st f fd:=let ⟨a,k,⟨oc,od,kV,doc,pm,an,ct,fV,e,l,q⟩,_⟩:=H;⟨a,⟨oc,od,kV,doc,pm,an,_,ct,fV,e,l,q⟩,k⟩
def HrC.fc (H:HrC K n st f fd c Pt ts):Y8 K n n st f fd c Pt:=let ⟨_,_,e,_,q,_⟩:=H;⟨e,q⟩
def HrC.tb (H:HrC K n st f fd c Pt ts):Pt∈ts:=let ⟨_,_,_,_,_,_,m⟩:=H;m
def HrC.at (H:HrC K n st f fd c Pt ts):(∃c,PySem.W.codeHdIn K c Pt=true)/\K.lookup Pt=none:=let ⟨_,_,_,_,q,n,_⟩:=H;⟨⟨_,q⟩,n⟩
end
@[elab_as_elim] theorem lst1 {P:M α->Prop}(us:M α)(hl:us.length=1)(h:∀a,P [a]):P us:=by
 obtain⟨a,rfl⟩:=List.length_eq_one_iff.mp hl;exact h a
@[elab_as_elim] theorem lst2 {P:M α->Prop}(us:M α)(hl:us.length=2)(h:∀a b,P [a,b]):P us:=by
 cases us with
 |nil=>cases hl
 |cons a us=>exact @lst1 α (fun l=>P (a::l)) us (nI hl) (h a)
@[elab_as_elim] theorem lst3 {P:M α->Prop}(us:M α)(hl:us.length=3)(h:∀a b c,P [a,b,c]):P us:=by
 cases us with
 |nil=>cases hl
 |cons a us=>exact @lst2 α (fun l=>P (a::l)) us (nI hl) (h a)
@[elab_as_elim] theorem lst4 {P:M α->Prop}(us:M α)(hl:us.length=4)(h:∀a b c d,P [a,b,c,d]):P us:=by
 cases us with
 |nil=>cases hl
 |cons a us=>exact @lst3 α (fun l=>P (a::l)) us (nI hl) (h a)
def HrO (K:Fg9)(n:Str)(st:Al)(z:Int)(f:Af)(fd:Ai):Prop:=PySem.W.nsIn K mainGlobals n=some (some (.ref f))/\PySem.W.keepIn K (.ref f)=true /\
 ∃(oc:Ad) (od:Ac Af) (kV doc pm:Ad) (an:Ac Af) (cdv ct:Ad) (fV:Array (Ac Ad)) (dT:Af) (dC:Ad) (dD:Ac Af) (dN:Nat) (dS:Array (Ac Ad)) (t:Tok),
  fd=PySem.W.fnOf n n (Z1 st) (M4 st) (C0 st) (.ref dT) kV doc pm an cdv ct/\K.lookup f=some ⟨oc,od,.func fd,fV⟩/\PySem.W.codeIn K cdv n=true/\K.lookup dT=some ⟨dC,dD,.seq #[.int z t] dN,dS⟩
section
variable {n:Str}{z:Int}
def W6s {kV:Ad}{dT:Af}{dC:Ad}{dD:Ac Af}{dN:Nat}  {t:Tok}(a:PySem.W.nsIn K mainGlobals n=some (some (.ref f)))
  (l:K.lookup f=some ⟨oc,od,.func (PySem.W.fnOf n n (Z1 st) (M4 st) (C0 st) (.ref dT) kV doc pm an cdv ct),fV⟩) (q:PySem.W.codeIn K cdv n=true) (k:PySem.W.keepIn K (.ref f)=true) (d:K.lookup dT=some ⟨dC,dD,.seq #[.int z t] dN,dS⟩):
  HrO K n st z f (PySem.W.fnOf n n (Z1 st) (M4 st) (C0 st) (.ref dT) kV doc pm an cdv ct):=⟨a,k,_,_,_,_,_,_,_,_,_,_,_,_,_,_,_,rfl,l,q,d⟩
def HrO.df (H:HrO K n st z f fd)(X:K.In h)(G:h.Ns mainGlobals mg)
  (hb:∀(kV doc pm:Ad) (an:Ac Af) (cdv ct:Ad) (dT:Af) (dC:Ad) (dD:Ac Af) (dN:Nat) (dS:Array (Ac Ad)) (t:Tok),K.lookup dT=some ⟨dC,dD,.seq #[.int z t] dN,dS⟩->S3 K (PySem.W.fnOf n n (Z1 st) (M4 st) (C0 st) (.ref dT) kV doc pm an cdv ct) ps [.int z t]):DfO K mg n st ps z f fd:=by
 obtain⟨a,k,oc,od,kV,doc,pm,an,cdv,ct,fV,dT,dC,dD,dN,dS,t,rfl,l,q,d⟩:=H;exact⟨⟨⟨_,_,_,_,_,_,_,_,_,_,rfl,l,q⟩⟩,⟨t,hb _ _ _ _ _ _ _ _ _ _ _ _ d⟩,k,hV X G a⟩
end
abbrev Q1r (X:Cx)(name qual:Str)(params:Arguments)(body:M Al)(sc:Scope)(clos:M (Str×Af))(doc:Ad)(c':Af)(ctv:Ad):Obj:=PySem.W.fnMade name qual params body sc clos doc ((X.mg "__name__").getD .none) c' ctv
section
variable {P c:Af}{fl:Nat}
theorem W9c (hB:Y5 X.mg X.base)(cU:X.env.code=.ref c)(hC:PySem.W.codeHdIn X.K c P=true)(gQ:closureFor sc X.env=pure clos)   {σ:St}  {Q:VK}(I:?B)(hP:H P=some .tab)
  (h:∀f c' oc ctv doc H',A4 H H'->Q2j oc->H f=none->H' c'=some (.frz oc (.own P))->H' f=some (.frz (Q1r X name qual params body sc clos doc c' ctv) Q4)->(∀b,H' b≠none->H b=none->b=f\/b=c')->Q (.ref f) H'):
  wpAny ?C X.A (makeFunction name qual params (.stmts body) sc X.env [] [] [] pos fl) (EP X af σ Q) X.xe s:=by
 have ki:s.heap.Ns mainGlobals X.mg:=I.mod.glob.keeps I.bk;have C:=gH I.kIn hC;obtain⟨ps,eP,ht,en⟩:=(show ObjOk X.prog X.w H s.heap P .tab from I.hok P _ hP)
 obtain⟨bm,ob,b1,b2,b3,b4,b5,b6⟩:=hB;have bH:∀b o,X.base.get? b=some o->b≠P:=fun b o e z=>by
  have:=(I.bs b o e).2;rw[z,hP]at this;cases this
 have sn:mainGlobals≠P:=by
  obtain⟨o,es,ep,e,hd,_⟩:=I.mod.glob;exact bH _ _ e
 have gN:bm≠mainGlobals:=fun same=>by
  obtain⟨go,_,_,ge,gd,_⟩:=I.mod.glob;rw[same,ge]at b3;cases b3;rw[gd]at b6;cases b6
 have oJ:s.heap.BuiltinsAt X.mg P:=⟨bm,ob,b1,b2,gN,bH _ _ b3,I.bk _ _ b3,b4,b5,b6⟩
 cases hf:codeAmong pos ps.toList with
 |some cv=>
  obtain⟨c',oc,rfl,dW,eN⟩:=en pos cv hf;refine PySem.W.makeFunction_hit (mg:=X.mg) gQ I.ok.glob ki cU C eP ht hf oJ fun ctv doc h' tk hk hsz=>?_;have oE:H h'.objs.size=none:=I.hok.fresh hsz;have ne:∀b u,H b=some u->b≠h'.objs.size:=fun b u e z=>by rw[z,oE]at e;cases e
  have kp:∀b o,s.heap.get? b=some o->(h'.push (Q1r X name qual params body sc clos doc c' ctv)).get? b=some o:=fun b o e=>ae _ (hk b o e);have lt:∀b o,s.heap.get? b=some o->b≠h'.objs.size:=fun b o e=>ax (ay (aw e) hsz);refine⟨.ref h'.objs.size,A6 H h'.objs.size (.frz (Q1r X name qual params body sc clos doc c' ctv) Q4),I.un (t':=tk) ⟨fun b o e _ _ _=>kp b o e,fun b o e _ _ _=>⟨o.slots,kp b o e⟩,fun b o e n _=>by rw[A7 (lt b o e)];exact n,fun b o e _=>⟨o,kp b o e⟩,
   fun b xs e=>by rw[A7 (ne b _ e)];exact e,fun b o u e=>by rw[A7 (ne b _ e)];exact e,fun b ps e=>⟨#[],by rw[A7 (ne b _ e),e];simp⟩⟩ ?_,rfl,?_⟩
  ·refine J6.laid (h:=s.heap) I.hok kp hsz (Q5l (aD _ rfl))
  ·exact h _ c' oc ctv doc _ (fun b u e=>by rw[A7 (ne b _ e)];exact e) eN oE (by rw[A7 (ne _ _ dW)];exact dW) upd_same fun b n1 n2=>by
    by_cases hb:b=h'.objs.size
    ·exact .inl hb
    ·rw[A7 hb]at n1;exact absurd n2 n1
 |none=>
  refine PySem.W.makeFunction_K (mg:=X.mg) gQ I.ok.glob ki cU C eP ht hf sn oJ fun c' ctv doc h' tk hx gw bU mz nZ=>?_;obtain⟨c₂,oc,vs,tq,e2,eN,oG,hv⟩:=mz;cases e2;have gP:H c'=none:=I.hok.fresh gw;have ij:H h'.objs.size=none:=I.hok.fresh (aO gw (cg bU));have sF:c'≠h'.objs.size:=ax bU;have xC:P≠c':=fun z=>by rw[<-z,hP]at gP;cases gP
  have xB:P≠h'.objs.size:=fun z=>by rw[<-z,hP]at ij;cases ij
  have qV:∀b o,s.heap.get? b=some o->b≠c':=fun b o e=>ax (ay (aw e) gw);have qU:∀b o,s.heap.get? b=some o->b≠h'.objs.size:=fun b o e=>ax (ay (aw e) (aO gw (cg bU)));have qQ:∀b u,H b=some u->b≠c':=fun b u e z=>by rw[z,gP]at e;cases e
  have qP:∀b u,H b=some u->b≠h'.objs.size:=fun b u e z=>by rw[z,ij]at e;cases e
  have hH:∀b,b≠c'->b≠h'.objs.size->A6 (A6 H c' (.frz oc (.own P))) h'.objs.size (.frz (Q1r X name qual params body sc clos doc c' ctv) Q4) b=H b:=fun b n1 n2=>by rw[A7 n2,A7 n1]
  have mY:A6 (A6 H c' (.frz oc (.own P))) h'.objs.size (.frz (Q1r X name qual params body sc clos doc c' ctv) Q4) c'=some (.frz oc (.own P)):=by rw[A7 sF,upd_same]
  have kp:∀b o,b≠P->s.heap.get? b=some o->(h'.push (Q1r X name qual params body sc clos doc c' ctv)).get? b=some o:=fun b o n e=>ae _ (hx b o n e);have nP:∀b,H b=none->b≠P:=fun b n z=>by rw[z,hP]at n;cases n
  have sm:A4 H (A6 (A6 H c' (.frz oc (.own P))) h'.objs.size (.frz (Q1r X name qual params body sc clos doc c' ctv) Q4)):=fun b u e=>by rw[hH b (qQ b u e) (qP b u e)];exact e
  refine⟨.ref h'.objs.size,A6 (A6 H c' (.frz oc (.own P))) h'.objs.size (.frz (Q1r X name qual params body sc clos doc c' ctv) Q4),I.un (t':=tk) ⟨fun b o e n _ _=>kp b o (nP b n) e,fun b o e n _ _=>⟨o.slots,kp b o (nP b n) e⟩,fun b o e n _=>by rw[hH b (qV b o e) (qU b o e)];exact n,fun b o e _=>?_,
   fun b xs e=>sm _ _ e,fun b o u e=>sm _ _ e,fun b ps e=>⟨#[],by rw[sm _ _ e];simp⟩⟩ ?_,rfl,?_⟩
  ·by_cases hb:b=P
   ·exact⟨_,ae _ (hb▸nZ)⟩
   ·exact⟨o,kp b o hb e⟩
  ·intro b u e
   by_cases oK:b=h'.objs.size
   ·subst oK;rw[upd_same]at e;cases e;exact Q5l (aD _ rfl)
   by_cases hbc:b=c'
   ·subst hbc;rw[mY]at e;cases e;exact⟨ae _ eN,⟨_,ae _ eN⟩⟩
   rw[hH b hbc oK]at e
   by_cases hbP:b=P
   ·subst hbP;rw[hP]at e;cases e;refine⟨_,ae _ nZ,?_,fun cn cv q=>?_⟩
    ·have:=TriplesOk_snoc (pos.line:Int) (pos.col:Int) (.ref c') ps.toList ht;simpa using this
    ·have q:codeAmong cn (ps.toList++[rawInt (pos.line:Int),rawInt (pos.col:Int),.ref c'])=some cv:=by simpa using q
     rcases Y1y _ ht q with q |q
     ·obtain⟨c2,o2,e1,e2,e3⟩:=en cn cv q;exact⟨c2,o2,e1,sm _ _ e2,e3⟩
     ·exact⟨c',oc,q,mY,⟨vs,_,tq,oG,hv⟩⟩
   ·refine(I.hok b u e).stay (fun d v hc q=>kp d v ?_ q) (fun d v _ q=>sm _ _ q) fun d xs q=>sm _ _ q;rcases hc with z |z
    ·rw[z];exact hbP
    ·intro z2;rw[z2,hP]at z;cases z
  ·exact h _ c' oc ctv doc _ sm ⟨vs,_,tq,oG,hv⟩ ij mY upd_same fun b n1 n2=>by
    by_cases hb:b=h'.objs.size
    ·exact .inl hb
    by_cases hb2:b=c'
    ·exact .inr hb2
    ·rw[hH b hb2 hb]at n1;exact absurd n2 n1
def tDef (X:Cx)(P:Af)(name:Str)(params:Arguments)(body:M Al)(sc:Scope)(clos:M (Str×Af))(i:Nat):TS:=fun D σ H=>H P=some .tab /\
 ∀f c' oc ctv doc H',A4 H H'->Q2j oc->H f=none->H' c'=some (.frz oc (.own P))->H' f=some (.frz (Q1r X name (qualnameIn X.env name name) params body sc clos doc c' ctv) Q4)->(∀b,H' b≠none->H b=none->b=f\/b=c')->D.nx (σ.set i (some (.ref f))) H'
def V2k {i:Nat}(hN:X.N.Nodup)(hi:X.N[i]?=some name)(hx:Loc X.env.scope name)(hB:Y5 X.mg X.base)(cU:X.env.code=.ref c)(hC:PySem.W.codeHdIn X.K c P=true)(gQ:closureFor sc X.env=pure clos)
  (hd:defaultsOf params X.env=([],[]):=by rfl) (mV:annTrees params none X.env=[]:=by rfl) (ij:X.fn name=true\/X.env.scope.names.lookup name=some .local:=by first |exact .inl rfl |exact .inr rfl |assumption):
  PS X (.FunctionDef name params body [] none [] sc none name pos) (tDef X P name params body sc clos i):=by
 intro af s σ H D I ⟨hP,h⟩;rw[exec_def,hd,mV];refine aa (bP (aa (bv ?_)));refine aa (aj ?_);refine aa (bv (aj ?_));refine bv ?_;refine aa (aj ?_);refine B3 (W9c (Q:=fun v H'=>∃f,v=.ref f/\D.nx (σ.set i (some (.ref f))) H') hB cU hC gQ I hP fun f c' oc ctv doc H' h1 h2 h3 h4 h5 h6=>⟨f,rfl,h f c' oc ctv doc H' h1 h2 h3 h4 h5 h6⟩) fun u s1 hq=>?_;obtain⟨v,H1,I1,r1,f,rfl,q⟩:=hq;refine aa (bP (aa (wpAny_bindName (Z2t I1 hN hi hx r1 (fun s2 I2 _=>aj ⟨_,_,I2,q⟩) ij))))
end
section
variable {Pg:Aj}{Wd:Ak}{Ar:Ah}{Rs:Result->Ae->Prop}
def W4n {args:Args}    {q:Str}(deep:Ar.depth<recursionLimit)(at_:s.heap.get? a=some o)(is:o.data=.func fd)(c0:fd.scope.isCoroutine=false)(g0:fd.scope.isGenerator=false)(bd:fd.body=.stmts body)(cd:s.heap.CodeRec fd.code q)
  (go:wpAny (model Pg Wd) Ar.in1 (bindArgs fd args)
   (fun bs s1=>wpAny (model Pg Wd) Ar.in1 (newFunctionEnv fd.scope fd.globals fd.closure bs (q++".<locals>.") (some a) fd.code none fd.builtins) (fun ev s2=>s2.heap.NoLimit/\codeAny (model Pg Wd) Ar (.func body ev) Rs s2) (fun x s1=>Rs (.error x) s1) s1)
   (fun x s1=>Rs (.error x) s1) s):codeAny (model Pg Wd) Ar (.call (.ref a) args) Rs s:=by
 obtain⟨c,oc,fs,tk,hc,eN,sr,hn⟩:=cd;have run:wpAny (model Pg Wd) Ar.in1 (callAny (.ref a) args) (fun fin s1=>match fin with |.done fl=>Rs (.ok fl) s1 |.again c'=>c'.quiet=true/\codeAny (model Pg Wd) Ar c' Rs s1) (fun x s1=>Rs (.error x) s1) s:=by
  unfold callAny;refine aa (tf at_ ?_);rw[is];dsimp only;rw[hc]at go;unfold callFunction;simp only[c0,g0,bd,hc];refine aa (m:=field (.ref c) 1) (bT eN sr hn (aa (aj (aa (B3 go fun bs s1 h1=>?_)))));exact aa (B3 h1 fun ev s2 ⟨jL,h2⟩=>aa (wpAny_enterFrame jL deep (aj ⟨rfl,h2⟩)))
 exact nM run
end
section
variable {body:Ag}{nm:Str}{rp:Pos}
def NdAt (X:Cx)(nm qual:Str)(params:Arguments)(body:Ag)(rp:Pos)(sc:Scope)(clos:M (Str×Af))(Pt fa:Af)(H:Hp):Prop:=∃(c':Af) (oc:Obj) (ctv doc:Ad),Q2j oc/\H c'=some (.frz oc (.own Pt))/\H fa=some (.frz (Q1r X nm qual params [.Return (some body) rp] sc clos doc c' ctv) Q4)
end
section
variable {g:WG}{ws:WS}{i:Nat}{cs:M (Str×Nat)}
def Z9c (FC:J9)(n i:Nat)(cs:M (Str×Nat))(wb:WE)(sp:F5)(we:WE)(g:WG)(ws:WS):WS:=fun E τ=>i<τ.length/\∀a,we (τ.set i (some (.ob a))) fun r1=>L3 r1=true/\∃cr,Z0 (τ.set i (some (.ob a))) cs cr/\∀f Φ,FC n f Φ (G6 wb cr)->∃d,sp [nrm r1,.cl f Φ] (.st d)/\g d (τ.set i (some (.ob a))) (ws E)
@[simp] theorem V4t {E:J4}:Z9c FC n i cs wb sp we g ws E τ=(i<τ.length/\∀a,we (τ.set i (some (.ob a))) fun r1=>L3 r1=true/\∃cr,Z0 (τ.set i (some (.ob a))) cs cr/\∀f Φ,FC n f Φ (G6 wb cr)->∃d,sp [nrm r1,.cl f Φ] (.st d)/\g d (τ.set i (some (.ob a))) (ws E)):=rfl
end
section
variable [DecidableEq α]
def S6 (ks:M α)(g:α):M α:=if g∈ks then ks else ks++[g]
def Z4i {ks:M α}{g:α}(h:g∈ks):S6 ks g=ks:=aQ h
def Z4j {ks:M α}{g:α}(h:g∉ks):S6 ks g=ks++[g]:=aI h
theorem W3z (ks:M α)(g:α):ks <+: S6 ks g:=by grind [S6,bC,cJ]
theorem Y5k {ks:M α}{g x:α}:x∈S6 ks g ↔ x∈ks\/x=g:=by grind [S6,aH,aG]
theorem W9w {ks:M α}{g:α}(h:ks.Nodup):(S6 ks g).Nodup:=by grind [S6,aG]
theorem Z5r {ks ls:M α}{g:α}(p:ks <+: ls)(h:g∈ks):ls.idxOf g=ks.idxOf g:=by
 obtain⟨t,rfl⟩:=p;rw[fq,aQ h]
def J3 (st:Nat->α):M Nat->M α->M Nat->M α×M Nat
 |[],ks,r=>(ks,r)
 |c::cs,ks,r=>J3 st cs (S6 ks (st c)) (r++[(S6 ks (st c)).idxOf (st c)])
theorem Q7s (st:Nat->α):∀(cs:M Nat) (ks:M α) (r:M Nat),ks <+: (J3 st cs ks r).1
 |[],ks,r=>bC _
 |c::cs,ks,r=>(W3z ks (st c)).trans (Q7s st cs _ _)
theorem Y7x (st:Nat->α):∀(cs:M Nat) (ks:M α) (r:M Nat),ks.Nodup->(J3 st cs ks r).1.Nodup
 |[],ks,r,h=>h
 |c::cs,ks,r,h=>Y7x st cs _ _ (W9w h)
theorem Y5r (st:Nat->α){x:α}:∀(cs:M Nat) (ks:M α) (r:M Nat),x∈(J3 st cs ks r).1 ↔ x∈ks\/∃c∈cs,x=st c:=by intro cs;induction cs<;>grind [J3,Y5k]
theorem Z7e (st:Nat->α):∀(cs:M Nat) (ks:M α) (r:M Nat),(J3 st cs ks r).2=r++cs.map fun c=>(J3 st cs ks r).1.idxOf (st c):=by intro cs;induction cs<;>grind [J3,S6,Z5r,Q7s,ar,bt]
abbrev B2:M Nat:=[0,1,2,3]
def O7 (step:α->Nat->α):Nat->M α->M (M Nat)->M α×M (M Nat)
 |0,ks,rs=>(ks,rs)
 |n+1,ks,rs=>match ks[rs.length]? with
  |none=>(ks,rs)
  |some k=>O7 step n (J3 (step k) B2 ks []).1 (rs++[(J3 (step k) B2 ks []).2])
structure Q0i (step:α->Nat->α)(start:α)(U:M α)(ks:M α)(rs:M (M Nat)):Prop where
 nd:ks.Nodup
 zero:ks[0]?=some start
 sub:∀k∈ks,k∈U
 len:rs.length<=ks.length
 row:∀(i:Nat) (r:M Nat),rs[i]?=some r->∃k,ks[i]?=some k/\(∀c∈B2,step k c∈ks)/\r=B2.map fun c=>ks.idxOf (step k c)
def Q0i.start {step:α->Nat->α}{start:α}{U:M α}(h:start∈U):Q0i step start U [start] []:=
 ⟨by simp,rfl,fun k hk=>by rw[aG]at hk;exact hk▸h,by simp,fun i r e=>by simp at e⟩
theorem Q0i.next {step:α->Nat->α}{start k:α}{U:M α}{ks:M α}  (hU:∀k∈U,∀c∈B2,step k c∈U)(W:Q0i step start U ks rs)(hk:ks[rs.length]?=some k):
  Q0i step start U (J3 (step k) B2 ks []).1 (rs++[(J3 (step k) B2 ks []).2]):=by
 have p:=Q7s (step k) B2 ks [];have kin:k∈ks:=az hk;have get:∀{i:Nat}{x:α},ks[i]?=some x->(J3 (step k) B2 ks []).1[i]?=some x:=fun {i x} e=>by
  obtain⟨t,ht⟩:=p;rw[<-ht,aB]
  ·exact e
  ·obtain⟨h,_⟩:=aJ.mp e;exact h
 have lt:rs.length<ks.length:=by obtain⟨h,_⟩:=aJ.mp hk;exact h
 refine⟨Y7x _ _ _ _ W.nd,get W.zero,fun x hx=>?_,?_,fun i r e=>?_⟩
 ·rcases (Y5r _ _ _ _).mp hx with h |⟨c,hc,rfl⟩
  ·exact W.sub x h
  ·exact hU k (W.sub k kin) c hc
 ·rw[aC,bu];exact aO lt p.length_le
 ·rcases bf i rs.length with h |h
  ·rw[aB h]at e;obtain⟨k',e1,e2,e3⟩:=W.row i r e;refine⟨k',get e1,fun c hc=>p.subset (e2 c hc),?_⟩;rw[e3];exact bg fun c hc=>(Z5r p (e2 c hc)).symm
  ·rw[aK h]at e;have:i-rs.length=0:=by
    rcases eT (i-rs.length)with z |z
    ·exact z
    ·rw[aF.mpr (by simp;lia)]at e;cases e
   rw[this]at e;have e:(J3 (step k) B2 ks []).2=r:=aA e;refine⟨k,get (by rw[show i=rs.length by lia];exact hk),fun c hc=>(Y5r _ _ _ _).mpr (.inr ⟨c,hc,rfl⟩),?_⟩;rw[<-e,Z7e,cq]
def Q0i.bound {step:α->Nat->α}{start:α}{U:M α}{ks:M α}  (W:Q0i step start U ks rs):ks.length<=U.length:=W.nd.length_le_of_subset fun x hx=>W.sub x hx
theorem W1a {step:α->Nat->α}{start:α}{U:M α}(hU:∀k∈U,∀c∈B2,step k c∈U):∀(n:Nat) (ks:M α) (rs:M (M Nat)),Q0i step start U ks rs->U.length<=n+rs.length ->
  Q0i step start U (O7 step n ks rs).1 (O7 step n ks rs).2/\(O7 step n ks rs).2.length=(O7 step n ks rs).1.length
 |0,ks,rs,W,h=>⟨W,by have:=W.bound;have:=W.len;simp[O7];lia⟩
 |n+1,ks,rs,W,h=>by
  unfold O7;split
  ·rename_i e;have:=aF.mp e;exact⟨W,by have:=W.len;simp;lia⟩
  ·rename_i k e;exact W1a hU n _ _ (W.next hU e) (by simp;lia)
structure Q2n (step:α->Nat->α)(start:α)(U ks:M α)(rs:M (M Nat)):Prop where
 nd:ks.Nodup
 zero:ks[0]?=some start
 sub:∀k∈ks,k∈U
 len:rs.length=ks.length
 mem:∀k∈ks,∀c∈B2,step k c∈ks
 row:∀(i:Nat) (k:α),ks[i]?=some k->rs[i]?=some (B2.map fun c=>ks.idxOf (step k c))
def S0 (N:Nat)(step:α->Nat->α)(start:α):M α×M (M Nat):=O7 step N [start] []
def Q5d {step:α->Nat->α}{start:α}{U:M α}{N:Nat}(hU:∀k∈U,∀c∈B2,step k c∈U)(hs:start∈U)(hN:U.length<=N):Q2n step start U (S0 N step start).1 (S0 N step start).2:=by
 unfold S0;obtain⟨W,e⟩:=W1a hU N [start] [] (Q0i.start hs) (by simpa using hN);refine⟨W.nd,W.zero,W.sub,e,fun k hk c hc=>?_,fun i k hk=>?_⟩
 ·obtain⟨i,hi,rfl⟩:=be.mp hk;have ig:i<(O7 step N [start] []).2.length:=by rw[e];exact hi
  obtain⟨k',e1,e2,_⟩:=W.row i _ (ac ig);rw[ac hi]at e1;cases e1;exact e2 c hc
 ·obtain⟨hi,rfl⟩:=aJ.mp hk;have ig:i<(O7 step N [start] []).2.length:=by rw[e];exact hi
  obtain⟨k',e1,_,e3⟩:=W.row i _ (ac ig);have fW:(O7 step N [start] []).1[i]?=some k':=e1;rw[ac hi]at fW;cases fW;rw[ac ig,e3]
section
variable [DecidableEq κ]{key:α->κ}
def L4 (key:α->κ)(L:M (α×D)):M (κ×D):=L.map fun p=>(key p.1,p.2)
theorem Q1t (inj:∀a b,key a=key b->a=b)(L:M (α×D))(g:α):F4 (L4 key L) (key g)=F4 L g:=by induction L<;>grind [F4,L4,ar,bp]
theorem Q9y {L:M (α×D)}{g:α}:(F4 L g).isSome=decide (g∈L.map (·.1)):=by grind [F4]
theorem Q8x (inj:∀a b,key a=key b->a=b){L:M (α×D)}{g:α}(h:g∉L.map (·.1))(d:D):O5 (L4 key L) (key g) d=L4 key (L++[(g,d)]):=by grind [O5,L4,yS]
theorem Z8v {L:M (α×D)}(nd:(L.map (·.1)).Nodup){g:α}{d:D}(h:(g,d)∈L):F4 L g=some d:=by induction L<;>grind [ar,bo,F4,bp]
def P6 (ks:M α):M (α×D):=ks.zipIdx.map fun p=>(p.1,D.int (p.2:Int))
def Z1x (ks:M α):(P6 ks).map (·.1)=ks:=by
 unfold P6;rw[aM];exact List.zipIdx_map_fst 0 ks
def Y6i (ks:M α)(g:α):P6 (ks++[g])=P6 ks++[(g,D.int (ks.length:Int))]:=by
 unfold P6;rw[List.zipIdx_append];simp
theorem Z1y {ks:M α}{g:α}(h:g∈ks):F4 (P6 ks) g=some (.int (ks.idxOf g:Nat)):=by
 have key:∀(ks:M α) (n:Nat),g∈ks->F4 (ks.zipIdx n |>.map fun p=>(p.1,D.int (p.2:Int))) g=some (.int ((n+ks.idxOf g:Nat):Int)):=by
  intro ks
  induction ks with
  |nil=>intro n h;cases h
  |cons k ks ih=>
   intro n h;unfold F4 at ih ⊢;rw[bI,ar,bp]
   by_cases e:k=g
   ·subst e;simp
   ·have hg:g∈ks:=by
     rcases av.mp h with z |z
     ·exact absurd z.symm e
     ·exact z
    simp only[e,decide_false];rw[ih (n+1) hg,List.idxOf_cons];have e':(k==g)=false:=by simp[e]
    rw[e'];simp;lia
 have:=key ks 0 h;rw[eM]at this;exact this
end
end
abbrev W3r:M Str:=["start","step","keys","numbers","rows","key","row","column","goal"]
def Z9x (dh:J9)  :WS:=(A9 (D6 2 (X4 (A0 (C1 (wV 0)) A2))) (A9 (Z3d 3 (wV 0) (wC (.int 0))) (A9 (D6 4 (X4 A2)) (A9 (Q9z 2 (Q6j (A5 (V8 fun i j=>decide (i<j)) (D4 F3 (A0 (wV 4) A2)) (D4 F3 (A0 (wV 2) A2))) (A9 (D6 5 (A5 C8 (wV 2) (D4 F3 (A0 (wV 4) A2)))) (A9 (D6 6 (X4 A2)) (A9 (X3 (Q7e (A0 (D4 F3 (A0 (wC (.str "01ab")) A2)) A2)) (B7 7) (A9 (D6 8 (Y4 dh 2 1 (A0 (wV 5) (A0 (wV 7) A2)))) (A9 (K8 (Q8b 3 (wV 8)) (A9 (Q8c 3 (wV 8) (D4 F3 (A0 (wV 2) A2))) (R8 2 (C1 (wV 8)))) K9) (R8 6 (C1 (Q4z 3 (wV 8))))))) (R8 4 (C1 (D4 T0 (A0 (wV 6) A2))))))))) (F7 (Q1e (A0 (C1 (wV 2)) (A0 (C1 (D4 T0 (A0 (wV 4) A2))) A2))))))))
abbrev W3s:M Str:=["start","step","keys","numbers","rows","key","row","column","goal"]
def Z9y (dh:J9)  :WS:=(A9 (D6 2 (X4 (A0 (C1 (wV 0)) A2))) (A9 (Z3h 3 (wV 0) (wC (.int 0))) (A9 (D6 4 (X4 A2)) (A9 (Q9z 2 (Q6j (A5 (V8 fun i j=>decide (i<j)) (D4 F3 (A0 (wV 4) A2)) (D4 F3 (A0 (wV 2) A2))) (A9 (D6 5 (A5 C8 (wV 2) (D4 F3 (A0 (wV 4) A2)))) (A9 (D6 6 (X4 A2)) (A9 (X3 (Q7e (A0 (D4 F3 (A0 (wC (.str "01ab")) A2)) A2)) (B7 7) (A9 (D6 8 (Y4 dh 2 1 (A0 (wV 5) (A0 (wV 7) A2)))) (A9 (K8 (Q5a 3 (wV 8)) (A9 (Q5b 3 (wV 8) (D4 F3 (A0 (wV 2) A2))) (R8 2 (C1 (wV 8)))) K9) (R8 6 (C1 (Q1n 3 (wV 8))))))) (R8 4 (C1 (D4 T0 (A0 (wV 6) A2))))))))) (F7 (Q1e (A0 (C1 (wV 2)) (A0 (C1 (D4 T0 (A0 (wV 4) A2))) A2))))))))
abbrev W3f:M Str:=["start","step","is_end","keys","texts","place","key","column","sign","goal"]
def Z9p (dh:J9)  :WS:=(A9 (D6 3 (X4 (A0 (C1 (wV 0)) A2))) (A9 (Z3d 4 (wV 0) (wC (.str ""))) (A9 (D6 5 (wC (.int 0))) (A9 (Q6j (A5 (V8 fun i j=>decide (i<j)) (wV 5) (D4 F3 (A0 (wV 3) A2))) (A9 (D6 6 (A5 C8 (wV 3) (wV 5))) (A9 (K8 (K4 (Y4 dh 1 2 (A0 (wV 6) A2))) (F7 (Q4z 4 (wV 6))) K9) (A9 (X3 (Q3t (A0 (wC (.str "01ab")) A2)) (M6 2 (D7 (B7 7) (D7 (B7 8) N2))) (A9 (D6 9 (Y4 dh 2 1 (A0 (wV 6) (A0 (wV 7) A2)))) (K8 (Q8b 4 (wV 9)) (A9 (Q8c 4 (wV 9) (A5 N1 (Q4z 4 (wV 6)) (wV 8))) (R8 3 (C1 (wV 9)))) K9))) (Q4y 5 (Q5 NoC fun i j=>i+j) (wC (.int 1))))))) (F7 (wC .non))))))
abbrev Y1h:M Str:=["some","onward","reached","states","place","state","goal"]
def W0j (K:Fg9):WS:=(A9 (Z9f 2 1 [] (Q2s (wV 0)) (B7 0) (wV 0) (C1 (wC (.int 0)))) (A9 (D6 3 (D4 Q5u (A0 (wV 2) A2))) (A9 (D6 4 (wC (.int 0))) (A9 (Q6j (A5 (V8 fun i j=>decide (i<j)) (wV 4) (D4 F3 (A0 (wV 3) A2))) (A9 (D6 5 (A5 C8 (wV 3) (wV 4))) (A9 (X3 (Z5o (C1 (A5 C8 (wV 1) (wV 5)))) (B7 6) (K8 (Q5a 2 (wV 6)) (A9 (Q5b 2 (wV 6) (A5 N1 (Q1n 2 (wV 5)) (wC (.int 1)))) (R8 3 (C1 (wV 6)))) K9)) (Q4y 4 (Q5 NoC fun i j=>i+j) (wC (.int 1)))))) (Z9k K 2)))))
abbrev Z0i:M Str:=["ends","rows","wanted","backward","state","row","goal","reached"]
def W0m (K:Fg9)(sp_all_reached:D5):WS:=(A9 (Z3k 3 1 [] (jOr (Q4n (wV 1)) (Q2s (wV 1))) (B7 0) (X4 A2)) (A9 (Z3f 3 (X3 (iOr (Q3t (A0 (wV 1) A2)) (Q8u (A0 (wV 1) A2))) (M6 2 (D7 (B7 4) (D7 (B7 5) N2))) (X3 (Z5q (wV 5)) (B7 6) (Q6i 3 (wV 6) (C1 (wV 4)))))) (A9 (Z9m 7 (B9 sp_all_reached (A0 (X2 2 [2] (Z1k (A0 (wV 0) A2)) (M6 2 (D7 (B7 0) (D7 (B7 1) N2))) (A5 (eqD 60 false) (wV 1) (wV 2)) (C1 (wV 0))) (A0 (wV 3) A2)))) (F7 (X2 1 [7] (Q7g (A0 (D4 F3 (A0 (wV 0) A2)) A2)) (B7 0) X1 (C1 (Z9d K 1 (wV 0))))))))
abbrev Y1l:M Str:=["marks","numbers"]
noncomputable def W0u:WS:=(Z9i 1 (Q2s (wV 0)))
abbrev Y1q:M Str:=["ends","rows","blocks","many"]
def W0x (sp_numbered:F5)(sp_distances:D5):WS:=(A9 (D6 2 (C1 (N4 sp_numbered (A0 (Z9h (A0 (B9 sp_distances (A0 (wV 0) (A0 (wV 1) (A0 (wC (.bl true)) A2)))) (A0 (B9 sp_distances (A0 (wV 0) (A0 (wV 1) (A0 (wC (.bl false)) A2)))) A2))) A2)))) (A9 (D6 3 (wC (.int 0))) (A9 (Q6j (A5 (V8 fun i j=>decide (j<=i)) (D4 Q2x (A0 (wV 2) A2)) (wV 3)) (A9 (D6 3 (A5 N1 (D4 Q2x (A0 (wV 2) A2)) (wC (.int 1)))) (D6 2 (C1 (N4 sp_numbered (A0 (X2 2 [2] (Z1l (A0 (wV 2) (A0 (wV 1) A2))) (M6 2 (D7 (B7 0) (D7 (B7 1) N2))) X1 (C1 (Q1e (A0 (C1 (wV 0)) (A0 (C1 (D4 T0 (A0 (X2 1 [2] (Q4n (wV 1)) (B7 0) X1 (C1 (A5 C8 (wV 1) (wV 0)))) A2))) A2))))) A2)))))) (Z3n 2))))
abbrev Y1k:M Str:=["ends","rows","blocks","samples","state","block","keys","fewer_rows"]
def Z3o (K:Fg9):WE:=(A5 C8 (wV 4) (A5 C8 (A5 C8 (wV 3) (Z3e K 2 (wV 0))) (wV 1)))
def Z9s (dh:J9)  (K:Fg9)(sp_told_apart:D5)(sp_walkedK:F5):WS:=(A9 (D6 2 (C1 (B9 sp_told_apart (A0 (wV 0) (A0 (wV 1) A2))))) (A9 (Z9g 3) (A9 (Z9e K 3 (X3 (Q8u (A0 (wV 2) A2)) (M6 2 (D7 (B7 4) (D7 (B7 5) N2))) (Z3j 3 (wV 5) (wV 4)))) (A9 (Q4x (Z9b dh 2 [("samples",3),("rows",1),("blocks",2)] (Z3o K) sp_walkedK (A5 C8 (wV 2) (wC (.int 0)))) (M6 2 (D7 (B7 6) (D7 (B7 7) N2)))) (F7 (Q1e (A0 (C1 (D4 T0 (A0 (X2 1 [0,3] (Q2s (wV 6)) (B7 0) X1 (C1 (A5 C8 (wV 1) (Z3e K 2 (wV 0))))) A2))) (A0 (C1 (wV 7)) A2))))))))
abbrev Y1i:M Str:=["start","step","is_end","keys","rows"]
def Z9n (dh:J9)  (sp_walked:F5)(sp_least:D5):WS:=(A9 (Q4x (N4 sp_walked (A0 (wV 0) (A0 (wV 1) A2))) (M6 2 (D7 (B7 3) (D7 (B7 4) N2)))) (F7 (B9 sp_least (A0 (X2 1 [2] (Q2s (wV 3)) (B7 0) X1 (C1 (Y4 dh 1 1 (A0 (wV 0) A2)))) (A0 (wV 4) A2)))))
abbrev Y1o:M Str:=["one","other","rows","other_rows"]
def Z3q:WE:=(Q1e (A0 (C1 (A5 C8 (A5 C8 (wV 2) (A5 C8 (wV 0) (wC (.int 0)))) (wV 1))) (A0 (C1 (A5 C8 (A5 C8 (wV 3) (A5 C8 (wV 0) (wC (.int 1)))) (wV 1))) A2)))
def Z8y:WS:=(D6 2 (A5 C8 (wV 0) (wC (.int 1))))
def Z8z:WS:=(D6 3 (A5 C8 (wV 1) (wC (.int 1))))
abbrev Y1n:M Str:=["one","other","is_end","ends","other_ends"]
def Z3p (dY:J9):WE:=(Y4 dY 2 2 (A0 (A5 C8 (wV 3) (A5 C8 (wV 0) (wC (.int 0)))) (A0 (A5 C8 (wV 1) (A5 C8 (wV 0) (wC (.int 1)))) A2)))
def Z8x:WS:=(D6 3 (A5 C8 (wV 0) (wC (.int 0))))
def w2_pair_end:WS:=(D6 4 (A5 C8 (wV 1) (wC (.int 0))))
abbrev W3p:M Str:=["one","other","is_end"]
def Z9u (sp_built:D5)(sp_pair_step:D5)(sp_pair_end:D5):WS:=(F7 (B9 sp_built (A0 (Q1e (A0 (C1 (wC (.int 0))) (A0 (C1 (wC (.int 0))) A2))) (A0 (B9 sp_pair_step (A0 (wV 0) (A0 (wV 1) A2))) (A0 (B9 sp_pair_end (A0 (wV 0) (A0 (wV 1) (A0 (wV 2) A2)))) A2)))))
abbrev W3e:M Str:=["one","other","is_wanted"]
def Z9o (sp_first_text:F5)(sp_pair_step:D5)(sp_pair_end:D5):WS:=(F7 (N4 sp_first_text (A0 (Q1e (A0 (C1 (wC (.int 0))) (A0 (C1 (wC (.int 0))) A2))) (A0 (B9 sp_pair_step (A0 (wV 0) (A0 (wV 1) A2))) (A0 (B9 sp_pair_end (A0 (wV 0) (A0 (wV 1) (A0 (wV 2) A2)))) A2)))))
abbrev W3o:M Str:=["one","other"]
def Z0d:WE:=(Q6h (wV 0) (Z3m (wV 1)))
def W0w (dY:J9)  (sp_first_of_both:D5):WS:=(F7 (B9 sp_first_of_both (A0 (wV 0) (A0 (wV 1) (A0 (Q4b dY 2 (G6 Z0d [])) A2)))))
abbrev W3n:M Str:=["one","other"]
def Z0c:WE:=(Q6h (wV 0) (wV 1))
def W0t (dY:J9)  (sp_first_of_both:D5):WS:=(F7 (B9 sp_first_of_both (A0 (wV 0) (A0 (wV 1) (A0 (Q4b dY 2 (G6 Z0c [])) A2)))))
abbrev W3q:M Str:=["one","other"]
def Z0e:WE:=(wB (A5 L6 (wV 0) (wV 1)))
def W0y (dY:J9)  (sp_first_of_both:D5):WS:=(F7 (B9 sp_first_of_both (A0 (wV 0) (A0 (wV 1) (A0 (Q4b dY 2 (G6 Z0e [])) A2)))))
abbrev W3t:M Str:=["one","other"]
def W0z (eg:D5):WS:=(F7 (wB (A5 (Y1 false) (B9 eg (A0 (wV 0) (A0 (wV 1) A2))) (wC .non))))
abbrev W3h:M Str:=["one","other"]
def W0o (fF:D5)(sp_within:D5)(cX:D5):WS:=(A9 (K8 (A5 (Y1 false) (B9 fF (A0 (wV 0) (A0 (wV 1) A2))) (wC .non)) (F7 (wC (.str "same"))) K9) (A9 (K8 (K4 (B9 sp_within (A0 (wV 0) (A0 (wV 1) A2)))) (F7 (wC (.str "less"))) K9) (A9 (K8 (K4 (B9 sp_within (A0 (wV 1) (A0 (wV 0) A2)))) (F7 (wC (.str "more"))) K9) (F7 (wIf (A5 (Y1 false) (B9 cX (A0 (wV 0) (A0 (wV 1) A2))) (wC .non)) (wC (.str "apart")) (wC (.str "cross")))))))
abbrev W3d:M Str:=["one","other"]
def Z0b:WE:=(Z9j (wV 0) (wV 1))
def W0n (dY:J9)  (dg:D5):WS:=(F7 (B9 dg (A0 (wV 0) (A0 (wV 1) (A0 (Q4b dY 2 (G6 Z0b [])) A2)))))
abbrev W3c:M Str:=["one","other"]
def Z0a:WE:=(Q6h (wV 0) (wV 1))
def W0k (dY:J9)  (dg:D5):WS:=(F7 (B9 dg (A0 (wV 0) (A0 (wV 1) (A0 (Q4b dY 2 (G6 Z0a [])) A2)))))
abbrev W3j:M Str:=["_law_script","_law_k"]
def Z9r:WS:=(A9 (K8 (A5 (eqD 60 false) (wV 0) (X4 A2)) (F7 (A5 Q0l (wC (.int 7)) (wV 1))) K9) (F7 (A5 N1 (A5 C8 (wV 0) (A5 (Q5 (fun _ j=>0<j) fun i j=>i % j) (wV 1) (D4 F3 (A0 (wV 0) A2)))) (A5 Q0l (wC (.int 6553)) (A5 (Q5 Q2h fun i j=>i / j) (wV 1) (D4 F3 (A0 (wV 0) A2)))))))
abbrev W3k:M Str:=["_law_script","_law_k","_law_many","_law_cell_here"]
def W0q (i3:F5):WS:=(A9 (D6 3 (A5 (Q5 (fun _ j=>0<j) fun i j=>i % j) (A5 N1 (A5 Q0l (A5 (Q5 (fun _ j=>0<j) fun i j=>i % j) (N4 i3 (A0 (wV 0) (A0 (wV 1) A2))) (wC (.int 2147483563))) (wC (.int 69069))) (A5 Q0l (wC (.int 104723)) (A5 N1 (wV 1) (wC (.int 1))))) (wC (.int 2147483563)))) (A9 (D6 3 (A5 (Q5 (fun _ j=>0<j) fun i j=>i % j) (A5 N1 (A5 Q0l (wV 3) (wV 3)) (A5 (Q5 Q2h fun i j=>i / j) (wV 3) (wC (.int 3)))) (wC (.int 2147483399)))) (F7 (A5 (Q5 (fun _ j=>0<j) fun i j=>i % j) (A5 (Q5 Q2h fun i j=>i / j) (A5 (Q5 (fun _ j=>0<j) fun i j=>i % j) (A5 N1 (A5 Q0l (wV 3) (wV 3)) (A5 (Q5 Q2h fun i j=>i / j) (wV 3) (wC (.int 7)))) (wC (.int 2147483647))) (wC (.int 11))) (wV 2)))))
abbrev Z4c:M Str:=["_law_script","_law_at","_law_most","_law_size","_law_ends","_law_rows","_law_k"]
def W0r (eh:F5):WS:=(A9 (D6 3 (A5 N1 (wC (.int 1)) (N4 eh (A0 (wV 0) (A0 (wV 1) (A0 (wV 2) A2)))))) (A9 (D6 4 (D4 T0 (A0 (X2 1 [0,1] (Q7g (A0 (wV 3) A2)) (B7 0) X1 (C1 (wB (A5 (eqD 60 false) (N4 eh (A0 (wV 1) (A0 (A5 N1 (A5 N1 (wV 2) (wC (.int 1))) (wV 0)) (A0 (wC (.int 2)) A2)))) (wC (.int 0)))))) A2))) (A9 (D6 5 (X4 A2)) (A9 (X3 (Q7e (A0 (wV 3) A2)) (B7 6) (R8 5 (C1 (D4 T0 (A0 (X2 1 [0,3,1,6] (Q7g (A0 (wC (.int 4)) A2)) (B7 0) X1 (C1 (N4 eh (A0 (wV 1) (A0 (A5 N1 (A5 N1 (A5 N1 (wV 3) (wC (.int 7))) (A5 Q0l (wC (.int 4)) (wV 4))) (wV 0)) (A0 (wV 2) A2)))))) A2))))) (F7 (Q1e (A0 (C1 (wV 4)) (A0 (C1 (D4 T0 (A0 (wV 5) A2))) A2))))))))
abbrev iD (n:Nat):D:=.int (n:Int)
abbrev rD (r:M Nat):D:=.tup (r.map iD)
abbrev rsD (rs:M (M Nat)):D:=.tup (rs.map rD)
def sz (h:n<=1000000):n<=sizeLine:=aO h (?K)
def T9 (h:n<=1000000):n<sizeLine:=eS h (?K)
theorem ixn {j:Nat}(h:j<n):ixN n (j:Int)=some j:=by grind [N5,List.range,Y9,ac,br,ixN,vn]
section
variable [DecidableEq α]{step:α->Nat->α}
section T
variable {ts:α->M D}{key:α->M B0}
def wbT (dh:J9):WS:=(A9 (D6 8 (Y4 dh 2 1 (A0 (wV 5) (A0 (wV 7) A2)))) (A9 (K8 (Q8b 3 (wV 8)) (A9 (Q8c 3 (wV 8) (D4 F3 (A0 (wV 2) A2))) (R8 2 (C1 (wV 8)))) K9) (R8 6 (C1 (Q4z 3 (wV 8))))))
theorem forT (hk:∀a,T6 (ts a)=some (key a))(inj:∀a b,key a=key b->a=b)(hF:FC 2 f Φ sp){k:α}{E:J4}{o0 o4:Ac Sl}:∀(cs:M Nat) (ks:M α) (r:M Nat) (o7 o8:Ac Sl),
  (∀c∈cs,sp [.st (.tup (ts k)),.st (iD c)] (.st (.tup (ts (step k c)))))->ks.length+cs.length<=1000000->r.length+cs.length<=1000000 ->
  (∀o7 o8,E.nx [o0,some (.cl f Φ),some (.own ((J3 (step k) cs ks r).1.map fun a=>.tup (ts a))),some (.dt (L4 key (P6 (J3 (step k) cs ks r).1))),o4,some (.dat (.tup (ts k))),some (.own ((J3 (step k) cs ks r).2.map iD)),o7,o8]) ->
  F6 (B7 7) (wbT FC) E (cs.map iD) [o0,some (.cl f Φ),some (.own (ks.map fun a=>.tup (ts a))),some (.dt (L4 key (P6 ks))),o4,some (.dat (.tup (ts k))),some (.own (r.map iD)),o7,o8]
 |[],ks,r,o7,o8,_,_,_,h=>h o7 o8
 |c::cs,ks,r,o7,o8,hs,h1,h2,h=>by
  rw[aN]at h1 h2;have my:=hs c am;have ih:=fun kf r'=>forT hk inj hF (k:=k) (E:=E) (o0:=o0) (o4:=o4) cs kf r';simp only[ar,F6];have hv:=Q1t inj (P6 ks) (step k c);have hi:(F4 (L4 key (P6 ks)) (key (step k c))).isSome=decide (step k c∈ks):=by rw[hv,Q9y,Z1x]
  simp only[wbT,G2,Q0,N6,Q4t,C7,B8,C6,Q2d,Y8b,Y8c,Q3x,J8,Q3b,Z7j,L8];refine⟨f,Φ,sp,rfl,hF,.dat (.tup (ts k)),rfl,.dat (iD c),rfl,rfl,_,my,?_⟩;simp only[S8];refine⟨_,rfl,_,rfl,ts (step k c),key (step k c),rfl,hk _,?_⟩;rw[hi]
  by_cases hm:step k c∈ks
  ·have ea:S6 ks (step k c)=ks:=Z4i hm;rw[aI (by simp[hm])];refine⟨_,rfl,_,rfl,_,rfl,ts (step k c),key (step k c),_,rfl,hk _,by rw[hv];exact Z1y hm,_,rfl,T9 (by simp;lia),?_⟩;have e:(r.map iD++[D.int ((ks.idxOf (step k c):Nat):Int)])=(r++[ks.idxOf (step k c)]).map iD:=by simp
   show F6 _ _ _ _ [_,_,_,_,_,_,some (.own (r.map iD++[_])),_,_];rw[e];refine ih ks _ _ _ (fun c hc=>hs c (ak _ hc)) (by lia) (by simp;lia) ?_;simpa only[J3,ea]using h
  ·have ea:S6 ks (step k c)=ks++[step k c]:=Z4j hm;rw[aQ (by simp[hm])];refine⟨_,rfl,_,rfl,_,rfl,_,rfl,ts (step k c),key (step k c),rfl,hk _,T9 (by simp[L4,P6];lia),?_⟩;have ep:O5 (L4 key (P6 ks)) (key (step k c)) (.int (ks.length:Int))=L4 key (P6 (ks++[step k c])):=by
    rw[Q8x inj (by rw[Z1x];exact hm),Y6i]
   refine⟨_,rfl,_,rfl,_,rfl,T9 (by simp;lia),?_⟩;refine⟨_,rfl,_,rfl,_,rfl,ts (step k c),key (step k c),.int (((ks++[step k c]).idxOf (step k c):Nat):Int),rfl,hk _,?_,_,rfl,T9 (by simp;lia),?_⟩
   ·rw[ag,ep,Q1t inj];exact Z1y ?G
   ·have e:(r.map iD++[D.int (((ks++[step k c]).idxOf (step k c):Nat):Int)])=(r++[(ks++[step k c]).idxOf (step k c)]).map iD:=by simp
    have e2:(ks.map fun a=>D.tup (ts a))++[D.tup (ts (step k c))]=(ks++[step k c]).map fun a=>D.tup (ts a):=by simp
    show F6 _ _ _ _ [_,_,some (.own ((ks.map fun a=>D.tup (ts a))++[D.tup (ts (step k c))])),some (.dt (O5 (L4 key (P6 ks)) (key (step k c)) (.int ((ks.map fun a=>D.tup (ts a)).length:Int)))),_,_,some (.own (r.map iD++[_])),_,_];rw[e,e2,ag,ep];refine ih _ _ _ _ (fun c hc=>hs c (ak _ hc)) (by simp;lia) (by simp;lia) ?_;simpa only[J3,ea]using h
def wtT:WT:=(A5 (V8 fun i j=>decide (i<j)) (D4 F3 (A0 (wV 4) A2)) (D4 F3 (A0 (wV 2) A2)))
def wlT (dh:J9):WS:=(A9 (D6 5 (A5 C8 (wV 2) (D4 F3 (A0 (wV 4) A2)))) (A9 (D6 6 (X4 A2)) (A9 (X3 (Q7e (A0 (D4 F3 (A0 (wC (.str "01ab")) A2)) A2)) (B7 7) (wbT dh)) (R8 4 (C1 (D4 T0 (A0 (wV 6) A2)))))))
theorem r4:V2 0 (Int.toNat ((Str.ofString "01ab").length:Int))=B2.map iD:=rfl
theorem V8l (hk:∀a,T6 (ts a)=some (key a))(inj:∀a b,key a=key b->a=b)(hF:FC 2 f Φ sp){start:α}{U:M α}{E:J4}  (hU:∀k∈U,∀c∈B2,step k c∈U)(hl:U.length<=100000)
  (hs:∀k∈U,∀c∈B2,sp [.st (.tup (ts k)),.st (iD c)] (.st (.tup (ts (step k c))))):∀(n:Nat) (ks:M α) (rs:M (M Nat)) (o5 o6 o7 o8:Ac Sl),Q0i step start U ks rs->U.length<=n+rs.length ->
  (∀o5 o6 o7 o8,E.nx [o0,some (.cl f Φ),some (.own ((O7 step n ks rs).1.map fun a=>.tup (ts a))),some (.dt (L4 key (P6 (O7 step n ks rs).1))),some (.own ((O7 step n ks rs).2.map rD)),o5,o6,o7,o8]) ->
  K3 wtT (wlT FC) (n+1) E [o0,some (.cl f Φ),some (.own (ks.map fun a=>.tup (ts a))),some (.dt (L4 key (P6 ks))),some (.own (rs.map rD)),o5,o6,o7,o8]:=by
 intro n
 induction n with
 |zero=>
  intro ks rs o5 o6 o7 o8 W hn h;have b:=W.bound;simp only[K3,wtT,E6,L8,C7,B8,C6];refine⟨_,rfl,_,rfl,?_⟩;simp only[X0,Q1a,Q1l,ag];rw[aI (by simp;lia)];exact h _ _ _ _
 |succ n ih=>
  intro ks rs o5 o6 o7 o8 W hn h;have b:=W.bound;have js:=W.len;rw[K3];simp only[wtT,E6,L8,C7,B8,C6];refine⟨_,rfl,_,rfl,?_⟩;simp only[X0,Q1a,Q1l,ag]
  by_cases bU:rs.length<ks.length
  ·rw[aQ (by simpa using bU)];have fW:ks[rs.length]?=some ks[rs.length]:=ac bU;have kin:=aY bU;generalize ks[rs.length]=k at fW kin;have W2:=W.next hU fW;have b2:=W2.bound;simp only[wlT,G2,N6,E6,L8,C7,B8,C6,s_lst,Q2c,Z7l,K1,Q3x,J8];refine⟨_,rfl,_,rfl,?_⟩;simp only[X0,Q1a,Q5y];refine⟨.tup (ts k),by rw[ag];exact Y9 (by rw[ah,fW];rfl),?_⟩;refine⟨_,rfl,sz ?G,?_⟩;rw[Q5z,Q9i];refine⟨sz (?K),_,rfl,?K,?K,?_⟩;rw[r4];have hW:=h;rw[O7,fW]at hW;refine forT hk inj hF (o0:=o0) (o4:=some (.own (rs.map rD))) B2 ks [] _ _ (hs k (W.sub k kin)) (by simp;lia) ?G fun o7 o8=>?_;simp only[S8,Q5z,Q5x,Q1y,Z2a];refine⟨_,rfl,_,rfl,_,rfl,_,rfl,T9 (by simp;lia),?_⟩;have e:rs.map rD++[D.tup ((J3 (step k) B2 ks []).2.map iD)]=(rs++[(J3 (step k) B2 ks []).2]).map rD:=by simp
   show K3 wtT (wlT FC) (n+1) E [_,_,_,_,some (.own (rs.map rD++[D.tup ((J3 (step k) B2 ks []).2.map iD)])),_,_,_,_];rw[e];exact ih _ _ _ _ _ _ W2 (by simp;lia) hW
  ·rw[aI (by simpa using bU)];have e:ks[rs.length]?=none:=aF.mpr (by lia);rw[O7,e]at h;exact h _ _ _ _
def sp_walked (FC:J9):F5:=fun rs r=>∃(α:Type) (_:DecidableEq α) (ts:α->M D) (key:α->M B0) (step:α->Nat->α) (start:α) (U:M α) (f:Af) (Φ:Hp->Prop) (sp:F5),
 (∀a,T6 (ts a)=some (key a))/\(∀a b,key a=key b->a=b)/\rs=[.st (.tup (ts start)),.cl f Φ]/\FC 2 f Φ sp/\start∈U/\U.length<=100000/\(∀k∈U,∀c∈B2,step k c∈U/\sp [.st (.tup (ts k)),.st (iD c)] (.st (.tup (ts (step k c))))) /\
 r=.st (.tup [.lst ((S0 U.length step start).1.map fun a=>.tup (ts a)),rsD (S0 U.length step start).2])
def V4f:∀rs r,rs.length=2->sp_walked FC rs r->Z9x FC (Y7 r) (D8 W3r rs):=by
 rintro rs r _ ⟨α,_,ts,key,step,start,U,f,Φ,sp,hk,inj,rfl,hF,hs,hl,hU,rfl⟩;have l2:(2:Nat)<=sizeLine:=?K
 unfold Z9x;simp only[G2,N6,s_lst,C7,J8,B8,C6,Y8a,K1,Z7k,T7,s_tup,L8];refine⟨_,rfl,_,rfl,sz ?G,?_⟩;refine⟨_,rfl,ts start,key start,rfl,hk _,_,rfl,_,rfl,sz ?G,?_⟩;refine⟨U.length+1,?_⟩;refine V8l hk inj hF (step:=step) (start:=start) (U:=U) (fun k h c hc=>(hU k h c hc).1) hl (fun k h c hc=>(hU k h c hc).2) U.length [start] [] _ _ _ _ (Q0i.start hs) ?G fun o5 o6 o7 o8=>?_;refine⟨_,rfl,_,rfl,_,rfl,?_⟩;simp only[P7,X0,Q5x,Q1y,Z2a];refine⟨_,rfl,_,rfl,l2,rfl⟩
end T
end
section
variable [DecidableEq α]{step:α->Nat->α}
section T
variable {en:α->D}{key:α->B0}
def wbK (dh:J9):WS:=(A9 (D6 8 (Y4 dh 2 1 (A0 (wV 5) (A0 (wV 7) A2)))) (A9 (K8 (Q5a 3 (wV 8)) (A9 (Q5b 3 (wV 8) (D4 F3 (A0 (wV 2) A2))) (R8 2 (C1 (wV 8)))) K9) (R8 6 (C1 (Q1n 3 (wV 8))))))
theorem forK (hk:∀a,N9 (en a)=some (key a))(inj:∀a b,key a=key b->a=b)(hF:FC 2 f Φ sp){k:α}{E:J4}{o0 o4:Ac Sl}:∀(cs:M Nat) (ks:M α) (r:M Nat) (o7 o8:Ac Sl),
  (∀c∈cs,sp [.st ((en k)),.st (iD c)] (.st ((en (step k c)))))->ks.length+cs.length<=1000000->r.length+cs.length<=1000000 ->
  (∀o7 o8,E.nx [o0,some (.cl f Φ),some (.own ((J3 (step k) cs ks r).1.map fun a=>(en a))),some (.dk (L4 key (P6 (J3 (step k) cs ks r).1))),o4,some (.dat ((en k))),some (.own ((J3 (step k) cs ks r).2.map iD)),o7,o8]) ->
  F6 (B7 7) (wbK FC) E (cs.map iD) [o0,some (.cl f Φ),some (.own (ks.map fun a=>(en a))),some (.dk (L4 key (P6 ks))),o4,some (.dat ((en k))),some (.own (r.map iD)),o7,o8]
 |[],ks,r,o7,o8,_,_,_,h=>h o7 o8
 |c::cs,ks,r,o7,o8,hs,h1,h2,h=>by
  rw[aN]at h1 h2;have my:=hs c am;have ih:=fun kf r'=>forK hk inj hF (k:=k) (E:=E) (o0:=o0) (o4:=o4) cs kf r';simp only[ar,F6];have hv:=Q1t inj (P6 ks) (step k c);have hi:(F4 (L4 key (P6 ks)) (key (step k c))).isSome=decide (step k c∈ks):=by rw[hv,Q9y,Z1x]
  simp only[wbK,G2,Q0,N6,Q4t,C7,B8,C6,Q2d,Z7m,Z7n,Q3x,J8,Q3b,Q9q,L8];refine⟨f,Φ,sp,rfl,hF,.dat ((en k)),rfl,.dat (iD c),rfl,rfl,_,my,?_⟩;simp only[S8];refine⟨_,rfl,_,rfl,en (step k c),key (step k c),rfl,hk _,?_⟩;rw[hi]
  by_cases hm:step k c∈ks
  ·have ea:S6 ks (step k c)=ks:=Z4i hm;rw[aI (by simp[hm])];refine⟨_,rfl,_,rfl,_,rfl,en (step k c),key (step k c),_,rfl,hk _,by rw[hv];exact Z1y hm,_,rfl,T9 (by simp;lia),?_⟩;have e:(r.map iD++[D.int ((ks.idxOf (step k c):Nat):Int)])=(r++[ks.idxOf (step k c)]).map iD:=by simp
   show F6 _ _ _ _ [_,_,_,_,_,_,some (.own (r.map iD++[_])),_,_];rw[e];refine ih ks _ _ _ (fun c hc=>hs c (ak _ hc)) (by lia) (by simp;lia) ?_;simpa only[J3,ea]using h
  ·have ea:S6 ks (step k c)=ks++[step k c]:=Z4j hm;rw[aQ (by simp[hm])];refine⟨_,rfl,_,rfl,_,rfl,_,rfl,en (step k c),key (step k c),rfl,hk _,T9 (by simp[L4,P6];lia),?_⟩;have ep:O5 (L4 key (P6 ks)) (key (step k c)) (.int (ks.length:Int))=L4 key (P6 (ks++[step k c])):=by
    rw[Q8x inj (by rw[Z1x];exact hm),Y6i]
   refine⟨_,rfl,_,rfl,_,rfl,T9 (by simp;lia),?_⟩;refine⟨_,rfl,_,rfl,_,rfl,en (step k c),key (step k c),.int (((ks++[step k c]).idxOf (step k c):Nat):Int),rfl,hk _,?_,_,rfl,T9 (by simp;lia),?_⟩
   ·rw[ag,ep,Q1t inj];exact Z1y ?G
   ·have e:(r.map iD++[D.int (((ks++[step k c]).idxOf (step k c):Nat):Int)])=(r++[(ks++[step k c]).idxOf (step k c)]).map iD:=by simp
    have e2:(ks.map fun a=>en a)++[en (step k c)]=(ks++[step k c]).map fun a=>en a:=by simp
    show F6 _ _ _ _ [_,_,some (.own ((ks.map fun a=>en a)++[en (step k c)])),some (.dk (O5 (L4 key (P6 ks)) (key (step k c)) (.int ((ks.map fun a=>en a).length:Int)))),_,_,some (.own (r.map iD++[_])),_,_];rw[e,e2,ag,ep];refine ih _ _ _ _ (fun c hc=>hs c (ak _ hc)) (by simp;lia) (by simp;lia) ?_;simpa only[J3,ea]using h
def wtK:WT:=(A5 (V8 fun i j=>decide (i<j)) (D4 F3 (A0 (wV 4) A2)) (D4 F3 (A0 (wV 2) A2)))
def wlK (dh:J9):WS:=(A9 (D6 5 (A5 C8 (wV 2) (D4 F3 (A0 (wV 4) A2)))) (A9 (D6 6 (X4 A2)) (A9 (X3 (Q7e (A0 (D4 F3 (A0 (wC (.str "01ab")) A2)) A2)) (B7 7) (wbK dh)) (R8 4 (C1 (D4 T0 (A0 (wV 6) A2)))))))
theorem V8j (hk:∀a,N9 (en a)=some (key a))(inj:∀a b,key a=key b->a=b)(hF:FC 2 f Φ sp){start:α}{U:M α}{E:J4}  (hU:∀k∈U,∀c∈B2,step k c∈U)(hl:U.length<=100000)
  (hs:∀k∈U,∀c∈B2,sp [.st ((en k)),.st (iD c)] (.st ((en (step k c))))):∀(n:Nat) (ks:M α) (rs:M (M Nat)) (o5 o6 o7 o8:Ac Sl),Q0i step start U ks rs->U.length<=n+rs.length ->
  (∀o5 o6 o7 o8,E.nx [o0,some (.cl f Φ),some (.own ((O7 step n ks rs).1.map fun a=>(en a))),some (.dk (L4 key (P6 (O7 step n ks rs).1))),some (.own ((O7 step n ks rs).2.map rD)),o5,o6,o7,o8]) ->
  K3 wtK (wlK FC) (n+1) E [o0,some (.cl f Φ),some (.own (ks.map fun a=>(en a))),some (.dk (L4 key (P6 ks))),some (.own (rs.map rD)),o5,o6,o7,o8]:=by
 intro n
 induction n with
 |zero=>
  intro ks rs o5 o6 o7 o8 W hn h;have b:=W.bound;simp only[K3,wtK,E6,L8,C7,B8,C6];refine⟨_,rfl,_,rfl,?_⟩;simp only[X0,Q1a,Q1l,ag];rw[aI (by simp;lia)];exact h _ _ _ _
 |succ n ih=>
  intro ks rs o5 o6 o7 o8 W hn h;have b:=W.bound;have js:=W.len;rw[K3];simp only[wtK,E6,L8,C7,B8,C6];refine⟨_,rfl,_,rfl,?_⟩;simp only[X0,Q1a,Q1l,ag]
  by_cases bU:rs.length<ks.length
  ·rw[aQ (by simpa using bU)];have fW:ks[rs.length]?=some ks[rs.length]:=ac bU;have kin:=aY bU;generalize ks[rs.length]=k at fW kin;have W2:=W.next hU fW;have b2:=W2.bound;simp only[wlK,G2,N6,E6,L8,C7,B8,C6,s_lst,Q2c,Z7l,K1,Q3x,J8];refine⟨_,rfl,_,rfl,?_⟩;simp only[X0,Q1a,Q5y];refine⟨(en k),by rw[ag];exact Y9 (by rw[ah,fW];rfl),?_⟩;refine⟨_,rfl,sz ?G,?_⟩;rw[Q5z,Q9i];refine⟨sz (?K),_,rfl,?K,?K,?_⟩;rw[r4];have hW:=h;rw[O7,fW]at hW;refine forK hk inj hF (o0:=o0) (o4:=some (.own (rs.map rD))) B2 ks [] _ _ (hs k (W.sub k kin)) (by simp;lia) ?G fun o7 o8=>?_;simp only[S8,Q5z,Q5x,Q1y,Z2a];refine⟨_,rfl,_,rfl,_,rfl,_,rfl,T9 (by simp;lia),?_⟩;have e:rs.map rD++[D.tup ((J3 (step k) B2 ks []).2.map iD)]=(rs++[(J3 (step k) B2 ks []).2]).map rD:=by simp
   show K3 wtK (wlK FC) (n+1) E [_,_,_,_,some (.own (rs.map rD++[D.tup ((J3 (step k) B2 ks []).2.map iD)])),_,_,_,_];rw[e];exact ih _ _ _ _ _ _ W2 (by simp;lia) hW
  ·rw[aI (by simpa using bU)];have e:ks[rs.length]?=none:=aF.mpr (by lia);rw[O7,e]at h;exact h _ _ _ _
def sp_walkedK (FC:J9):F5:=fun rs r=>∃(α:Type) (_:DecidableEq α) (en:α->D) (key:α->B0) (step:α->Nat->α) (start:α) (U:M α) (f:Af) (Φ:Hp->Prop) (sp:F5),
 (∀a,N9 (en a)=some (key a))/\(∀a b,key a=key b->a=b)/\rs=[.st ((en start)),.cl f Φ]/\FC 2 f Φ sp/\start∈U/\U.length<=100000/\(∀k∈U,∀c∈B2,step k c∈U/\sp [.st ((en k)),.st (iD c)] (.st ((en (step k c))))) /\
 r=.st (.tup [.lst ((S0 U.length step start).1.map fun a=>(en a)),rsD (S0 U.length step start).2])
def V4g:∀rs r,rs.length=2->sp_walkedK FC rs r->Z9y FC (Y7 r) (D8 W3s rs):=by
 rintro rs r _ ⟨α,_,en,key,step,start,U,f,Φ,sp,hk,inj,rfl,hF,hs,hl,hU,rfl⟩;have l2:(2:Nat)<=sizeLine:=?K
 unfold Z9y;simp only[G2,N6,s_lst,C7,J8,B8,C6,Y8g,K1,Z7k,T7,s_tup,L8];refine⟨_,rfl,_,rfl,sz ?G,?_⟩;refine⟨(?K:3<9),_,rfl,en start,key start,rfl,hk _,_,rfl,_,rfl,sz ?G,?_⟩;refine⟨U.length+1,?_⟩;refine V8j hk inj hF (step:=step) (start:=start) (U:=U) (fun k h c hc=>(hU k h c hc).1) hl (fun k h c hc=>(hU k h c hc).2) U.length [start] [] _ _ _ _ (Q0i.start hs) ?G fun o5 o6 o7 o8=>?_;refine⟨_,rfl,_,rfl,_,rfl,?_⟩;simp only[P7,X0,Q5x,Q1y,Z2a];refine⟨_,rfl,_,rfl,l2,rfl⟩
end T
end
abbrev ik (n:Nat):B0:=.inl (n:Int)
theorem Q5s (a b:Nat)(h:ik a=ik b):a=b:=by
 have:(a:Int)=(b:Int):=qu h;lia
abbrev kR (R:M (Nat×Nat)):M (B0×D):=L4 ik (R.map fun q=>(q.1,iD q.2))
def Q3 (R:M (Nat×Nat))(g d:Nat):M (Nat×Nat):=if g∈R.map (·.1)then R else R++[(g,d)]
def goR (d:Nat):M Nat->M (Nat×Nat)->M (Nat×Nat)
 |[],R=>R
 |g::gs,R=>goR d gs (Q3 R g d)
def Q3a (on:M (M Nat)):Nat->M (Nat×Nat)->Nat->M (Nat×Nat)
 |0,R,_=>R
 |n+1,R,p=>match R[p]? with
  |none=>R
  |some q=>Q3a on n (goR (q.2+1) (on[q.1]?.getD []) R) (p+1)
def L7 (on:M (M Nat))(xs:M Nat):M (Nat×Nat):=Q3a on on.length (xs.map fun x=>(x,0)) 0
def Z5u (R:M (Nat×Nat)):(R.map fun q=>(q.1,iD q.2)).map (·.1)=R.map (·.1):=by simp
theorem Y1v (R:M (Nat×Nat))(g d:Nat):R <+: Q3 R g d:=by grind [Q3,bC,cJ]
theorem Z5i (d:Nat):∀(gs:M Nat) (R:M (Nat×Nat)),R <+: goR d gs R
 |[],R=>bC _
 |g::gs,R=>(Y1v R g d).trans (Z5i d gs _)
theorem W3y {R:M (Nat×Nat)}{g d:Nat}(h:(R.map (·.1)).Nodup):((Q3 R g d).map (·.1)).Nodup:=by grind [Q3,bA,ba]
theorem Y3y {d:Nat}:∀(gs:M Nat) (R:M (Nat×Nat)),(R.map (·.1)).Nodup->((goR d gs R).map (·.1)).Nodup
 |[],R,h=>h
 |g::gs,R,h=>Y3y gs _ (W3y h)
theorem Z6i {R:M (Nat×Nat)}{g d:Nat}{q:Nat×Nat}(h:q∈Q3 R g d):q∈R\/q=(g,d):=by grind [Q3]
theorem Z1s {d:Nat}{q:Nat×Nat}:∀(gs:M Nat) (R:M (Nat×Nat)),q∈goR d gs R->q∈R\/∃g∈gs,q=(g,d)
 |[],R,h=>.inl h
 |g::gs,R,h=>by
  rcases Z1s gs _ h with h |⟨g',h1,h2⟩
  ·rcases Z6i h with h |h
   ·exact .inl h
   ·exact .inr ⟨g,by simp,h⟩
  ·exact .inr ⟨g',by simp[h1],h2⟩
structure Q2k (n:Nat)(R:M (Nat×Nat)):Prop where
 nd:(R.map (·.1)).Nodup
 lt:∀q∈R,q.1<n
def Q2k.bound {R:M (Nat×Nat)}(h:Q2k n R):R.length<=n:=by
 have:=h.nd.length_le_of_subset (l₂:=List.range n) fun x hx=>by
  obtain⟨q,hq,rfl⟩:=au.mp hx;exact aZ.mpr (h.lt q hq)
 simpa using this
def Q2k.go {d:Nat}{R:M (Nat×Nat)}{gs:M Nat}(h:Q2k n R)(hg:∀g∈gs,g<n):Q2k n (goR d gs R):=
 ⟨Y3y gs R h.nd,fun q hq=>by
  rcases Z1s gs R hq with h' |⟨g,h1,rfl⟩
  ·exact h.lt q h'
  ·exact hg g h1⟩
def V8c {R:M (Nat×Nat)}(nd:(R.map (·.1)).Nodup){s d:Nat}(h:(s,d)∈R):F4 (kR R) (ik s)=some (iD d):=by
 rw[Q1t Q5s];exact Z8v (by rw[Z5u];exact nd) (au.mpr ⟨_,h,rfl⟩)
def Y4n (R:M (Nat×Nat))(g:Nat):(F4 (kR R) (ik g)).isSome=decide (g∈R.map (·.1)):=by
 rw[Q1t Q5s,Q9y,Z5u]
def Y7q {R:M (Nat×Nat)}{g d:Nat}(h:g∉R.map (·.1)):O5 (kR R) (ik g) (iD d)=kR (R++[(g,d)]):=by
 rw[Q8x Q5s (by rw[Z5u];exact h)];simp[kR]
theorem Y2z {Q:M (B0×D)->Prop}:∀(xs:M Nat) (R:M (Nat×Nat)) (o:Ac Sl),(R.map (·.1)++xs).Nodup->Q (kR (R++xs.map fun x=>(x,0))) ->
  Z5 (B7 0) (wV 0) (C1 (wC (.int 0))) (xs.map iD) [o] (kR R) Q
 |[],R,o,_,h=>by simpa [Z5]using h
 |x::xs,R,o,nd,h=>by
  have nx:x∉R.map (·.1):=fun z=>by
   have:=(ba.mp nd).2.2 x z x ?G;exact this rfl
  rw[ar,Z5];simp only[Q0,B8,J8,K1];refine⟨_,rfl,iD x,ik x,rfl,rfl,_,rfl,?_⟩;have e:=Y7q (d:=0) nx;show Z5 _ _ _ _ _ (O5 (kR R) (ik x) (iD 0)) _;rw[e];refine Y2z xs _ _ (by simpa using nd) ?_;simpa using h
abbrev llD (on:M (M Nat)):D:=.lst (on.map fun l=>.lst (l.map iD))
def wbR:WS:=(K8 (Q5a 2 (wV 6)) (A9 (Q5b 2 (wV 6) (A5 N1 (Q1n 2 (wV 5)) (wC (.int 1)))) (R8 3 (C1 (wV 6)))) K9)
theorem forR {s d:Nat}{E:J4}{o0 o1 o4:Ac Sl}(hn:n<=100000):∀(gs:M Nat) (R:M (Nat×Nat)) (o6:Ac Sl),Q2k n R->(s,d)∈R->(∀g∈gs,g<n) ->
  (∀o6,E.nx [o0,o1,some (.dk (kR (goR (d+1) gs R))),some (.own ((goR (d+1) gs R).map fun q=>iD q.1)),o4,some (.dat (iD s)),o6]) ->
  F6 (B7 6) wbR E (gs.map iD) [o0,o1,some (.dk (kR R)),some (.own (R.map fun q=>iD q.1)),o4,some (.dat (iD s)),o6]
 |[],R,o6,_,_,_,h=>h o6
 |g::gs,R,o6,hI,hs,hg,h=>by
  have b:=hI.bound;have ih:=forR (s:=s) (d:=d) (E:=E) (o0:=o0) (o1:=o1) (o4:=o4) hn gs;have lX:Q2k n (Q3 R g (d+1)):=hI.go (d:=d+1) (gs:=[g]) (by simpa using hg g ?G);have kP:(s,d)∈Q3 R g (d+1):=(Y1v R g (d+1)).subset hs;have b2:=lX.bound;rw[ar,F6];simp only[wbR,Q0,Q2d,Z7m,B8,G2,Z7n,E6,Q9q,K1,Q3x,J8,Q3b];refine⟨_,rfl,_,rfl,iD g,ik g,rfl,rfl,?_⟩;rw[Y4n]
  by_cases hm:g∈R.map (·.1)
  ·have ea:Q3 R g (d+1)=R:=aQ hm;rw[aI (by simpa using hm)];refine ih R _ hI hs (fun g' h'=>hg g' (by simp[h'])) ?_;simpa only[goR,ea]using h
  ·have ea:Q3 R g (d+1)=R++[(g,d+1)]:=aI hm;rw[aQ (by simpa using hm)];refine⟨_,rfl,_,rfl,iD s,ik s,iD d,rfl,rfl,V8c hI.nd hs,?_⟩;rw[Q4q];refine⟨_,rfl,_,rfl,_,rfl,iD g,ik g,rfl,rfl,T9 (by simp[L4];lia),_,rfl,_,rfl,_,rfl,T9 (by simp;lia),?_⟩;have e1:O5 (kR R) (ik g) (.int ((d:Int)+1))=kR (Q3 R g (d+1)):=by
    rw[ea,<-Y7q hm];rfl
   have e2:(R.map fun q=>iD q.1)++[iD g]=(Q3 R g (d+1)).map fun q=>iD q.1:=by rw[ea];simp
   show F6 _ _ _ _ [_,_,some (.dk (O5 (kR R) (ik g) (.int ((d:Int)+1)))),some (.own ((R.map fun q=>iD q.1)++[iD g])),_,_,_];rw[e1,e2];exact ih _ _ lX kP (fun g' h'=>hg g' (by simp[h'])) h
def wtR:WT:=(A5 (V8 fun i j=>decide (i<j)) (wV 4) (D4 F3 (A0 (wV 3) A2)))
def wlR:WS:=(A9 (D6 5 (A5 C8 (wV 3) (wV 4))) (A9 (X3 (Z5o (C1 (A5 C8 (wV 1) (wV 5)))) (B7 6) wbR) (Q4y 4 (Q5 NoC fun i j=>i+j) (wC (.int 1)))))
theorem V8k {E:J4}  (nq:∀l∈on,∀g∈l,g<on.length)(hl:on.length<=100000):∀(n:Nat) (R:M (Nat×Nat)) (p:Nat) (o5 o6:Ac Sl),Q2k on.length R->on.length<=n+p ->
  (∀o4 o5 o6,E.nx [o0,some (.dat (llD on)),some (.dk (kR (Q3a on n R p))),some (.own ((Q3a on n R p).map fun q=>iD q.1)),o4,o5,o6]) ->
  K3 wtR wlR (n+1) E [o0,some (.dat (llD on)),some (.dk (kR R)),some (.own (R.map fun q=>iD q.1)),some (.dat (iD p)),o5,o6]:=by
 intro n
 induction n with
 |zero=>
  intro R p o5 o6 hI hp h;have b:=hI.bound;simp only[K3,wtR,E6,L8,C7,B8,C6];refine⟨_,rfl,_,rfl,?_⟩;simp only[P7,X0,Q1a,Q1l,ag];rw[aI (by simp;lia)];exact h _ _ _
 |succ n ih=>
  intro R p o5 o6 hI hp h;have b:=hI.bound;rw[K3];simp only[wtR,E6,L8,C7,B8,C6];refine⟨_,rfl,_,rfl,?_⟩;simp only[P7,X0,Q1a,Q1l,ag]
  by_cases bU:p<R.length
  ·rw[aQ (by simpa using bU)];have fW:R[p]?=some R[p]:=ac bU;have kin:=aY bU;generalize R[p]=q at fW kin;obtain⟨s,d⟩:=q;have hs:s<on.length:=hI.lt _ kin;have ki:on[s]?=some on[s]:=ac hs;have mP:=nq _ (aY hs);simp only[wlR,G2,N6,E6,B8,Q2c,V4x,J8,Z7i,K1];refine⟨_,rfl,_,rfl,?_⟩;rw[X0,P7,Q5y];refine⟨iD s,Y9 (by rw[ah,fW];rfl),_,rfl,_,rfl,?_⟩;rw[P7];simp only[P7,Q9h];refine⟨.lst (on[s].map iD),Y9 (by rw[ah,ki];rfl),_,rfl,?_⟩;rw[Q3a,fW]at h;simp only[ki]at h;refine forR (n:=on.length) (d:=d) hl on[s] R _ hI kin mP fun o6=>?_;refine⟨_,rfl,trivial,?_⟩;have e:((p:Int)+1)=((p+1:Nat):Int):=by lia
   show K3 wtR wlR (n+1) E [_,_,_,_,some (.dat (.int ((p:Int)+1))),_,_];rw[e];exact ih _ _ _ _ (hI.go mP) (by lia) h
  ·rw[aI (by simpa using bU)];have e:R[p]?=none:=aF.mpr (by lia);rw[Q3a,e]at h;exact h _ _ _
def sp_all_reached (K:Fg9):D5:=fun rs Pr=>∃(xs:M Nat) (on:M (M Nat)),rs=[.bw (xs.map iD),.st (llD on)]/\xs.Nodup/\(∀x∈xs,x<on.length)/\(∀l∈on,∀g∈l,g<on.length)/\on.length<=100000/\∀a,Pr (.cl a (Q6 K a (kR (L7 on xs))))
def W9p:V5 (sp_all_reached K):=by rintro rs P Q f ⟨xs,on,e,h1,h2,h3,h4,h5⟩;exact⟨xs,on,e,h1,h2,h3,h4,fun a=>f _ (h5 a)⟩
theorem V3d:∀rs Pr,rs.length=2->sp_all_reached K rs Pr->W0j K (N8 Pr) (D8 Y1h rs):=by
 rintro rs Pr _ ⟨xs,on,rfl,nd,hx,nq,hl,h⟩;have hI:Q2k on.length (xs.map fun x=>(x,0)):=⟨by simpa [iF]using nd,fun q hq=>by
  obtain⟨x,h1,rfl⟩:=au.mp hq;exact hx x h1⟩
 have b:=hI.bound;rw[ag]at b;unfold W0j;simp only[G2,V5d,Q7t,B8,N6,L8,C7,C6,K1,V5m];refine⟨_,rfl,_,rfl,T9 (by simp;lia),?_⟩;refine Y2z xs [] _ (by simpa using nd) ?_;k_ne;have el:(kR ([]++xs.map fun x=>(x,0))).map (fun p=>kyD p.1)=((xs.map fun x=>(x,0)).map fun q=>iD q.1):=by simp[L4,kyD]
 show Q5u [.dk _] _;rw[V5h,el,cq];simp only[S8,Q5z];refine⟨on.length+1,?_⟩;refine V8k nq hl on.length (xs.map fun x=>(x,0)) 0 _ _ hI (by lia) fun o4 o5 o6=>?_;exact⟨_,rfl,h⟩
structure Wf (es:M Bool)(rows:M (M Nat)):Prop where
 len:rows.length=es.length
 pos:0<es.length
 r4:∀r∈rows,r.length=4
 lt:∀r∈rows,∀x∈r,x<es.length
def X8 (B:M (M Nat))(g s:Nat):M (M Nat):=B.set g (B.getD g []++[s])
def Q4i (s:Nat):M Nat->M (M Nat)->M (M Nat)
 |[],B=>B
 |g::gs,B=>Q4i s gs (X8 B g s)
def Q3n:Nat->M (M Nat)->M (M Nat)->M (M Nat)
 |_,[],B=>B
 |s,r::rs,B=>Q3n (s+1) rs (Q4i s r B)
def G4 (rows:M (M Nat)):M (M Nat):=Q3n 0 rows (rows.map fun _=>[])
abbrev P3 (B:M (M Nat)):M (M D):=B.map fun l=>l.map iD
theorem Z0l (B:M (M Nat))(g s:Nat):(X8 B g s).length=B.length:=by simp[X8]
theorem Z0s {s:Nat}:∀(gs:M Nat) (B:M (M Nat)),(Q4i s gs B).length=B.length
 |[],B=>rfl
 |g::gs,B=>by rw[Q4i,Z0s gs,Z0l]
theorem W4g:∀(rs:M (M Nat)) (s:Nat) (B:M (M Nat)),(Q3n s rs B).length=B.length:=by intro rs;induction rs<;>grind [Q3n,Z0s]
theorem Z6a (B:M (M Nat))(g:Nat):(P3 B).getD g []=(B.getD g []).map iD:=by grind [aq,ah]
def Y5b (B:M (M Nat))(g s:Nat):(P3 B).set g ((P3 B).getD g []++[iD s])=P3 (X8 B g s):=by
 rw[Z6a];unfold X8 P3;rw[List.map_set];simp
theorem Z5g {B:M (M Nat)}{m g:Nat}(h:∀l∈B,l.length<=m):(B.getD g []).length<=m:=by grind [aq,az]
theorem Z4g {B:M (M Nat)}{m g s:Nat}(h:∀l∈B,l.length<=m):∀l∈X8 B g s,l.length<=m+1:=by
 intro l hl;rcases List.mem_or_eq_of_mem_set hl with h' |rfl
 ·exact dL (h l h')
 ·have:=Z5g (g:=g) h;rw[aC,bu];lia
theorem Y2d {s:Nat}:∀(gs:M Nat) (B:M (M Nat)) (m:Nat),(∀l∈B,l.length<=m)->∀l∈Q4i s gs B,l.length<=m+gs.length
 |[],B,m,h=>h
 |g::gs,B,m,h=>fun l hl=>by
  have:=Y2d gs _ (m+1) (Z4g h) l hl;simp;lia
theorem W9g {B:M (M Nat)}{g s i x:Nat}(hx:x∈(X8 B g s).getD i []):x∈B.getD i []\/(i=g/\x=s):=by grind [X8,aq,ft]
theorem W9j {B:M (M Nat)}{g s i x:Nat}(hx:x∈B.getD i []):x∈(X8 B g s).getD i []:=by grind [X8,aq,ft,aV]
theorem W9i {B:M (M Nat)}{g s:Nat}(hl:g<B.length):s∈(X8 B g s).getD g []:=by grind [X8,aq,ft,ai]
theorem W9k {s i x:Nat}:∀(gs:M Nat) (B:M (M Nat)),(∀g∈gs,g<B.length)->(x∈(Q4i s gs B).getD i [] ↔ x∈B.getD i []\/(i∈gs/\x=s)):=by intro gs;induction gs<;>grind [Q4i,Z0l,W9g,W9j,W9i]
theorem Y5l {i x:Nat}:∀(rs:M (M Nat)) (s:Nat) (B:M (M Nat)),(∀r∈rs,∀g∈r,g<B.length)->(x∈(Q3n s rs B).getD i [] ↔ x∈B.getD i []\/∃j r,rs[j]?=some r/\i∈r/\x=s+j)
 |[],s,B,_=>by simp[Q3n]
 |r::rs,s,B,h=>by
  rw[Q3n,Y5l rs _ _ (fun r' h' g hg=>by rw[Z0s];exact h r' (by simp[h']) g hg),W9k _ _ (h r ?G)];constructor
  ·rintro ((h' |⟨h1,rfl⟩) |⟨j,r',e,h1,rfl⟩)
   ·exact .inl h'
   ·exact .inr ⟨0,r,rfl,h1,rfl⟩
   ·exact .inr ⟨j+1,r',by simpa using e,h1,by lia⟩
  ·rintro (h' |⟨j,r',e,h1,rfl⟩)
   ·exact .inl (.inl h')
   ·cases j with
    |zero=>cases e;exact .inl (.inr ⟨h1,rfl⟩)
    |succ j=>exact .inr ⟨j,r',by simpa using e,h1,by lia⟩
theorem Z6j (h:∀r∈rows,∀g∈r,g<rows.length){i x:Nat}:x∈(G4 rows).getD i [] ↔ ∃r,rows[x]?=some r/\i∈r:=by
 unfold G4;rw[Y5l rows 0 _ (fun r hr g hg=>by rw[ag];exact h r hr g hg)];have e0:x∉(rows.map fun _=>([]:M Nat)).getD i []:=by
  rw[aq,ah];cases rows[i]?<;>simp
 constructor
 ·rintro (h' |⟨j,r,e,h1,rfl⟩)
  ·exact absurd h' e0
  ·exact⟨r,by rw[eM];exact e,h1⟩
 ·rintro ⟨r,e,h1⟩;exact .inr ⟨x,r,e,h1,by lia⟩
def Z0r (rows:M (M Nat)):(G4 rows).length=rows.length:=by simp[G4,W4g]
def Y2c (h:∀r∈rows,∀g∈r,g<rows.length):∀l∈G4 rows,∀x∈l,x<(G4 rows).length:=by
 intro l hl x hx;obtain⟨i,hi,rfl⟩:=be.mp hl;have:x∈(G4 rows).getD i []:=by rw[aq,ac hi];exact hx
 obtain⟨r,e,_⟩:=(Z6j h).mp this;obtain⟨h',_⟩:=aJ.mp e;rw[Z0r];exact h'
def J7 (es:M Bool)(b:Bool):M Nat:=((es.zipIdx).filter fun p=>p.1==b).map (·.2)
def Z6l {b:Bool}{i:Nat}:i∈J7 es b ↔ es[i]?=some b:=by
 unfold J7;rw[au];constructor
 ·rintro ⟨⟨c,j⟩,h,rfl⟩;rw[bN]at h;have h1:=jC.mp h.1;have h2:c=b:=by simpa using h.2
  subst h2;exact h1
 ·intro h;exact⟨(b,i),bN.mpr ⟨jC.mpr h,by simp⟩,rfl⟩
def Y3j {b:Bool}:∀x∈J7 es b,x<es.length:=fun x hx=>by
 obtain⟨h,_⟩:=aJ.mp (Z6l.mp hx);exact h
def Y3k {b:Bool}:(J7 es b).Nodup:=by
 have:(es.zipIdx.map (·.2)).Nodup:=by rw[List.zipIdx_map_snd];exact List.nodup_range'
 exact this.sublist (List.filter_sublist.map _)
def L5 (R:M (Nat×Nat))(s:Nat):Ac Nat:=(R.find? fun q=>decide (q.1=s)).map (·.2)
abbrev oD:Ac Nat->D
 |none=>.non
 |some d=>iD d
theorem W0f (R:M (Nat×Nat))(s:Nat):(F4 (kR R) (ik s)).getD .non=oD (L5 R s):=by
 rw[Q1t Q5s];unfold F4 L5
 induction R with
 |nil=>rfl
 |cons q R ih=>
  rw[ar,bp,bp]
  by_cases h:q.1=s
  ·simp[h]
  ·simp only[h,decide_false];exact ih
def Q2p (es:M Bool)(rows:M (M Nat))(b:Bool):M (Ac Nat):=(List.range es.length).map (L5 (L7 (G4 rows) (J7 es b)))
theorem Z4w {Q:M (M D)->Prop}:∀(ds:M D) (o:Ac Sl),Q (ds.map fun _=>[])->Q1i (B7 0) (X4 A2) ds [o] Q
 |[],o,h=>h
 |d::ds,o,h=>by
  rw[Q1i];simp only[Q0,s_lst,C6];exact⟨_,rfl,sz ?G,_,rfl,Z4w ds _ h⟩
@[simp] theorem Z1w {d:D}:G9 (some (.dat d))=true:=rfl
@[simp] theorem nll2:G9 none=true:=rfl
theorem forB {s:Nat}{E:J4}   (n0:G9 o0=true)(n1:G9 o1=true)(n2:G9 o2=true)(n5:G9 o5=true)(n7:G9 o7=true):∀(gs:M Nat) (B:M (M Nat)) (m:Nat) (o6:Ac Sl),G9 o6=true ->
  (∀g∈gs,g<B.length)->(∀l∈B,l.length<=m)->m+gs.length<=1000000 ->
  (∀o6,G9 o6=true->E.nx [o0,o1,o2,some (.ll a (P3 (Q4i s gs B))),some (.dat (iD s)),o5,o6,o7]) ->
  F6 (B7 6) (Q6i 3 (wV 6) (C1 (wV 4))) E (gs.map iD) [o0,o1,o2,some (.ll a (P3 B)),some (.dat (iD s)),o5,o6,o7]
 |[],B,m,o6,n6,_,_,_,h=>h o6 n6
 |g::gs,B,m,o6,n6,hg,hm,hz,h=>by
  rw[aN]at hz;have gl:=hg g ?G;have bd:=Z5g (g:=g) hm;rw[ar,F6];simp only[Q0,Y8i,B8,J8];refine⟨a,P3 B,rfl,?_,_,rfl,_,g,rfl,?_,_,rfl,_,rfl,?_,?_⟩
  ·show(G9 o0&&(G9 o1&&(G9 o2&&([some (.dat (iD s)),o5,some (.dat (iD g)),o7]:B5).all G9)))=true;simp[n0,n1,n2,n5,n7,Z1w]
  ·rw[ag];exact ixn gl
  ·rw[Z6a,ag];exact T9 (by lia)
  ·show F6 _ _ _ _ [_,_,_,some (.ll a ((P3 B).set g ((P3 B).getD g []++[iD s]))),_,_,_,_];rw[Y5b];exact forB n0 n1 n2 n5 n7 gs _ (m+1) _ rfl (fun g' h'=>by rw[Z0l];exact hg g' (by simp[h'])) (Z4g hm) (by lia) h
theorem Y3r {E:J4}   (n0:G9 o0=true)(n1:G9 o1=true)(n2:G9 o2=true)(n7:G9 o7=true):∀(rs:M (M Nat)) (s:Nat) (B:M (M Nat)) (m:Nat) (o4 o5 o6:Ac Sl),G9 o4=true->G9 o5=true->G9 o6=true ->
  (∀r∈rs,r.length=4/\∀g∈r,g<B.length)->(∀l∈B,l.length<=m)->m+4*rs.length<=1000000 ->
  (∀o4 o5 o6,G9 o4=true->G9 o5=true->G9 o6=true->E.nx [o0,o1,o2,some (.ll a (P3 (Q3n s rs B))),o4,o5,o6,o7]) ->
  F6 (M6 2 (D7 (B7 4) (D7 (B7 5) N2))) (X3 (Z5q (wV 5)) (B7 6) (Q6i 3 (wV 6) (C1 (wV 4)))) E ((rs.zipIdx s).map fun p=>.tup [.int (p.2:Int),rD p.1]) [o0,o1,o2,some (.ll a (P3 B)),o4,o5,o6,o7]
 |[],s,B,m,o4,o5,o6,n4,n5,n6,_,_,_,h=>h o4 o5 o6 n4 n5 n6
 |r::rs,s,B,m,o4,o5,o6,n4,n5,n6,hg,hm,hz,h=>by
  rw[aN]at hz;obtain⟨l4,gl⟩:=hg r ?G;rw[bI,ar,F6];simp only[Q0d,Q0b,Q0,Q0c,Q2c,V4z,B8];refine⟨_,rfl,rfl,_,_,rfl,_,_,rfl,rfl,_,rfl,_,rfl,?_⟩;refine forB n0 n1 n2 (o5:=some (.dat (rD r))) rfl n7 r B m o6 n6 gl hm (by lia) fun o6 n6=>?_;exact Y3r n0 n1 n2 n7 rs (s+1) _ (m+4) _ _ _ rfl rfl n6 (fun r' h'=>⟨(hg r' (by simp[h'])).1,fun g h2=>by rw[Z0s];exact(hg r' (by simp[h'])).2 g h2⟩)
   (by have:=Y2d (s:=s) r B m hm;rw[l4]at this;exact this) (by lia) h
theorem Z4v {b:Bool}{Q:M D->Prop}:∀(es:M Bool) (n:Nat) (o0 o1:Ac Sl),Q (((es.zipIdx n).filter fun p=>p.1==b).map fun p=>iD p.2) ->
  O9 (M6 2 (D7 (B7 0) (D7 (B7 1) N2))) (A5 (eqD 60 false) (wV 1) (wV 2)) (C1 (wV 0)) ((es.zipIdx n).map fun p=>.tup [.int (p.2:Int),.bl p.1]) [o0,o1,some (.dat (.bl b))] Q
 |[],n,o0,o1,h=>h
 |e::es,n,o0,o1,h=>by
  rw[bI,ar,O9];simp only[Q0d,Q0b,Q0,Q0c,E6,B8,J8];refine⟨_,rfl,rfl,_,_,rfl,_,_,rfl,rfl,_,rfl,_,rfl,?_⟩;simp only[P7,Z6s,o_d1];refine⟨_,_,rfl,rfl,by simp[D.depth],?_⟩;rw[bI,cE]at h
  by_cases hb:e=b
  ·subst hb;simp only[BEq.rfl,pk]at h;simp only[o_e3,BEq.rfl,pk,gF,cm];exact⟨_,rfl,_,rfl,Z4v es (n+1) _ _ h⟩
  ·have iN:(e==b)=false:=by simpa using hb
   simp only[iN,cm,gF]at h;simp only[o_e3,iN,gF,cm];exact Z4v es (n+1) _ _ h
def V4 (ra:R)(es:M Bool):Prop:=ra=.bw (es.map .bl)\/ra=.st (.tup (es.map .bl))
def V4.rd {ra:R}  (h:V4 ra es):rdS (R1 ra)=ra:=by rcases h with rfl |rfl<;>rfl
def V4.nll {ra:R}  (h:V4 ra es):G9 (some (R1 ra))=true:=by rcases h with rfl |rfl<;>rfl
def V4.sq {ra:R}  (h:V4 ra es):W5 ra=some (es.map .bl):=by rcases h with rfl |rfl<;>rfl
def V4.len {ra:R}  (h:V4 ra es){Q:R->Prop}:F3 [ra] Q=Q (.st (.int (es.length:Int))):=by
 rcases h with rfl |rfl
 ·rw[Q1a,ag]
 ·rw[V0m,ag]
def V4.arg {ra:R}  (h:V4 ra es):L3 ra=true:=by rcases h with rfl |rfl<;>rfl
def V4.nrm {ra:R}  (h:V4 ra es):nrm ra=ra:=by rcases h with rfl |rfl<;>rfl
def RwD (d:D)(rows:M (M Nat)):Prop:=d=rsD rows\/d=.lst (rows.map rD)
def RwD.sq {d:D}  (h:RwD d rows):W5 (.st d)=some (rows.map rD):=by rcases h with rfl |rfl<;>rfl
def RwD.ix {d:D}  (h:RwD d rows){r:M Nat}{i:Nat}(e:rows[i]?=some r){Q:R->Prop}(q:Q (.st (rD r))):C8 (.st d) (.st (.int (i:Int))) Q:=by
 rcases h with rfl |rfl<;>exact⟨rD r,Y9 (by rw[ah,e];rfl),q⟩
def RwD.j {d:D}  (h:RwD d rows)  {i:Nat}(e:τ[i]?=some (some (.dat d))){Q:M D->Prop}(q:Q (rows.map rD)):jOr (Q4n (wV i)) (Q2s (wV i)) τ Q:=by
 rcases h with rfl |rfl
 ·exact .inl ⟨_,e,_,rfl,q⟩
 ·exact .inr ⟨_,e,_,rfl,q⟩
def RwD.i {d:D}  (h:RwD d rows)  {i:Nat}(e:τ[i]?=some (some (.dat d))){Q:M D->B5->Prop}(q:Q (K0 (rows.map rD)) τ):iOr (Q3t (A0 (wV i) A2)) (Q8u (A0 (wV i) A2)) τ Q:=by
 rcases h with rfl |rfl
 ·exact .inl ⟨_,e,.inr ⟨_,rfl,q⟩⟩
 ·exact .inr ⟨_,e,_,rfl,q⟩
def sp_distances:D5:=fun rs Pr=>∃ra es rows b d,rs=[ra,.st d,.st (.bl b)]/\RwD d rows/\V4 ra es/\Wf es rows/\es.length<=20000/\Pr (.nw ((Q2p es rows b).map oD))
def Y5y:V5 sp_distances:=by rintro rs P Q f ⟨ra,es,rows,b,d,e,h0,h1,h2,h3,h4⟩;exact⟨ra,es,rows,b,d,e,h0,h1,h2,h3,f _ h4⟩
theorem V3j:∀rs Pr,rs.length=3->sp_distances rs Pr->W0m K (sp_all_reached K) (N8 Pr) (D8 Z0i rs):=by
 rintro rs Pr _ ⟨ra,es,rows,b,d,rfl,hd,ha,wf,hl,h⟩;have wl:=wf.len;have bU:∀r∈rows,∀g∈r,g<rows.length:=fun r hr g hg=>by rw[wl];exact wf.lt r hr g hg
 unfold W0m;simp only[G2,Y8j,Q9p,B8,Y8e,Q2c,Z2i,C7,C6,V5n,R0,Q2b,Y8f,T7,Z2j,L8];refine hd.j rfl ⟨sz (by simp;lia),?_⟩;refine Z4w _ _ fun a=>?_;refine hd.i rfl ?_;have e1:K0 (rows.map rD)=(rows.zipIdx 0).map fun p=>.tup [.int (p.2:Int),rD p.1]:=by
  unfold K0;rw[eE,aM];rfl
 have e2:((rows.map rD).map fun _=>([]:M D))=P3 (rows.map fun _=>[]):=by simp[P3]
 rw[e1,e2];refine Y3r (o0:=some (R1 ra)) (o1:=some (.dat d)) (o2:=some (.dat (.bl b))) (o7:=none) ha.nll rfl rfl rfl rows 0 _ 0 none none none rfl rfl rfl (fun r hr=>⟨wf.r4 r hr,fun g hg=>by rw[ag];exact bU r hr g hg⟩) (fun l hl=>by simp at hl;simp[hl.2]) (by lia) fun o4 o5 o6 n4 n5 n6=>?_;refine⟨a,_,rfl,?_,?_⟩
 ·show(G9 _&&(G9 _&&(G9 _&&([o4,o5,o6,none]:B5).all G9)))=true;have:=ha.nll;simp[this,n4,n5,n6,Z1w,nll2]
 k_ne;show ∃r ds,[rdS (R1 ra)]=[r]/\_;refine⟨_,_,rfl,by rw[ha.rd];exact ha.sq,sz (by simp[K0];lia),?_⟩;have e3:K0 (es.map .bl)=(es.zipIdx 0).map fun p=>.tup [.int (p.2:Int),.bl p.1]:=by
  unfold K0;rw[eE,aM];rfl
 rw[e3];refine Z4v es 0 _ _ ?_;refine⟨_,rfl,rfl,J7 es b,G4 rows,?_,Y3k,fun x hx=>by rw[Z0r,wl];exact Y3j x hx,Y2c bU,by rw[Z0r,wl];lia,fun a'=>?_⟩
 ·have q1:((es.zipIdx 0).filter fun p=>p.1==b).map (fun p=>iD p.2)=(J7 es b).map iD:=by unfold J7;rw[aM];rfl
  have q2:D.lst ((P3 (Q3n 0 rows (rows.map fun _=>[]))).map D.lst)=llD (G4 rows):=by unfold P3 llD G4;rw[aM];rfl
  show [R.bw _,R.st (.lst _)]=_;rw[q1,q2]
 refine⟨a',_,rfl,?_⟩;k_ne;show F3 [rdS (R1 ra)] _;rw[ha.rd,ha.len];refine⟨_,rfl,by lia,by lia,sz (by simp[V2];lia),?_⟩;have hf:∀i:Nat,(F4 (kR (L7 (G4 rows) (J7 es b))) (ik i)).getD .non=oD (L5 (L7 (G4 rows) (J7 es b)) i):=W0f _;have er:V2 0 (es.length:Int).toNat=(List.range es.length).map iD:=by simp[V2]
 rw[er];refine Q3q (f:=fun d=>match d with |.int i=>(F4 (kR (L7 (G4 rows) (J7 es b))) (.inl i)).getD .non |d=>d) _ _ _ (fun d hd Q' q=>?_) ?_
 ·obtain⟨i,_,rfl⟩:=au.mp hd;simp only[J8,V4u,B8];exact⟨a',_,rfl,_,rfl,_,ik i,rfl,rfl,q⟩
 ·rw[aM];have:(List.range es.length).map ((fun d=>match d with |.int i=>(F4 (kR (L7 (G4 rows) (J7 es b))) (.inl i)).getD .non |d=>d) ∘ iD)=(Q2p es rows b).map oD:=by
   unfold Q2p;rw[aM];exact bg fun i _=>hf i
  rw[this];exact h
noncomputable def Q8:M D->M D->M Nat
 |_,[]=>[]
 |ks,d::r=>ks.idxOf d::Q8 (Y2 ks d) r
theorem V0h:∀(ds ks:M D),(Q1w ks ds).map D.int=(Q8 ks ds).map iD:=by intro ds;induction ds<;>grind [Q1w,Q8,ar]
noncomputable def Q0e:M D->M D->M D
 |ks,[]=>ks
 |ks,d::r=>Q0e (Y2 ks d) r
theorem Y8s (ks:M D)(d:D):ks <+: Y2 ks d:=by grind [Y2,bC,cJ]
theorem Y8q:∀(ds ks:M D),ks <+: Q0e ks ds
 |[],ks=>bC _
 |d::r,ks=>(Y8s ks d).trans (Y8q r _)
theorem Y5s (ks:M D)(d:D):d∈Y2 ks d:=by
 unfold Y2;split
 ·assumption
 ·simp
theorem W6x {ks ls:M D}{g:D}(p:ks <+: ls)(h:g∈ks):ls.idxOf g=ks.idxOf g:=by
 obtain⟨t,rfl⟩:=p;rw[fq,aQ h]
theorem W6y (ks:M D)(d:D):(Y2 ks d).idxOf d=ks.idxOf d:=by grind [Y2,fq,qq]
theorem Q9e:∀(ds ks:M D),Q8 ks ds=ds.map fun d=>(Q0e ks ds).idxOf d:=by intro ds;induction ds<;>grind [Y8q,Y2,Q8,ar,Q0e,W6x,Y5s,W6y]
def Y6l (ds ks:M D):(Q8 ks ds).length=ds.length:=by rw[Q9e,ag]
theorem Z1t:∀(ds ks:M D) {d:D},d∈ks\/d∈ds->d∈Q0e ks ds:=by intro ds;induction ds<;>grind [Q0e,Y8s,Y5s]
theorem V5t:∀(ds ks:M D),(Q0e ks ds).length<=ks.length+ds.length:=by intro ds;induction ds<;>grind [Q0e,Y2,aN]
theorem Y6m {ds:M D}:∀x∈Q8 [] ds,x<ds.length:=by grind [Q9e,au,Z1t,V5t]
def Y6k {ds:M D}{i j:Nat}{a b:D}(hi:ds[i]?=some a)(hj:ds[j]?=some b):(Q8 [] ds)[i]?=(Q8 [] ds)[j]? ↔ a=b:=by
 rw[Q9e,ah,ah,hi,hj];constructor
 ·intro h;have h:(Q0e [] ds).idxOf a=(Q0e [] ds).idxOf b:=aA h;have ha:=aX.mpr (Z1t ds [] (.inr (az hi)));have hb:=aX.mpr (Z1t ds [] (.inr (az hj)));have e1:=eU ha;have e2:=eU hb;rw[<-e1,<-e2];simp only[h]
 ·rintro rfl;rfl
def sp_numbered:F5:=fun rs r=>∃ds,rs=[.bw ds]/\ds.length<=1000000/\(∀d∈ds,U1 8 d=true/\∃l,d=.tup l)/\r=.nw ((Q8 [] ds).map iD)
def V3w:∀rs r,rs.length=1->sp_numbered rs r->W0u (Y7 r) (D8 Y1l rs):=by
 rintro rs r _ ⟨ds,rfl,hl,hk,rfl⟩;unfold W0u;rw[V5l];refine⟨(?K:1<2),?_⟩;simp only[Q7t,B8];exact⟨_,rfl,_,rfl,sz hl,hk,by rw[V0h];rfl⟩
def U9 (b:M Nat):Nat:=b.foldl max 0
theorem Z5d:∀(b:M Nat) (a:Nat),a<=b.foldl max a/\∀x∈b,x<=b.foldl max a
 |[],a=>⟨ao _,fun x h=>by cases h⟩
 |y::b,a=>by
  obtain⟨h1,h2⟩:=Z5d b (max a y);refine⟨aO (Nat.le_max_left _ _) h1,fun x hx=>?_⟩;rcases av.mp hx with rfl |hx
  ·exact aO (Nat.le_max_right _ _) h1
  ·exact h2 x hx
theorem W6e:∀(b:M Nat) (a:Nat),b.foldl max a=a\/b.foldl max a∈b:=by intro b;induction b<;>grind [cb,Nat.le_total,Nat.max_eq_right,Nat.max_eq_left,ak]
def Z1r {b:M Nat}{x:Nat}(h:x∈b):x<=U9 b:=(Z5d b 0).2 x h
theorem Q9b {b:M Nat}(h:b≠[]):U9 b∈b:=by
 unfold U9;rcases W6e b 0 with e |e
 ·cases b with
  |nil=>exact absurd rfl h
  |cons y b=>
   have:=(Z5d (y::b) 0).2 y ?G;rw[e]at this;have:y=0:=by lia
   rw[e,this];simp
 ·exact e
theorem W9f {b:M Nat}{m:Int}(h:m∈b.map fun(x:Nat)=>(x:Int))(g:∀n∈b.map fun(x:Nat)=>(x:Int),n<=m):m=(U9 b:Int):=by
 obtain⟨k,hk,rfl⟩:=au.mp h;have h1:=Z1r hk;have h2:=g _ (au.mpr ⟨_,Q9b (fun z=>by rw[z]at hk;cases hk),rfl⟩);lia
noncomputable def Q0j (es:M Bool)(rows:M (M Nat)):M D:=((Q2p es rows true).zip (Q2p es rows false)).map fun p=>.tup [oD p.1,oD p.2]
def Q2w (b:M Nat)(p:Nat×M Nat):D:=.tup [iD p.1,rD (p.2.map fun g=>b.getD g 0)]
def Q1v (rows:M (M Nat))(b:M Nat):M D:=(b.zip rows).map (Q2w b)
noncomputable def M3 (rows:M (M Nat))(b:M Nat):M Nat:=Q8 [] (Q1v rows b)
noncomputable def Q4a (rows:M (M Nat)):Nat->Nat->M Nat->M Nat
 |0,_,b=>b
 |n+1,many,b=>if many<=U9 b then Q4a rows n (U9 b+1) (M3 rows b)else b
noncomputable def G3 (es:M Bool)(rows:M (M Nat)):M Nat:=Q4a rows (es.length+1) 0 (Q8 [] (Q0j es rows))
structure X6 (n:Nat)(b:M Nat):Prop where
 len:b.length=n
 lt:∀x∈b,x<n
def X6.step {b:M Nat}(h:X6 n b)(hr:rows.length=n):X6 n (M3 rows b):=by
 have e:(Q1v rows b).length=n:=by simp[Q1v,h.len,hr]
 exact⟨by unfold M3;rw[Y6l,e],fun x hx=>by have:=Y6m x hx;rw[e]at this;exact this⟩
def X6.zero:X6 es.length (Q8 [] (Q0j es rows)):=by
 have e:(Q0j es rows).length=es.length:=by simp[Q0j,Q2p]
 exact⟨by rw[Y6l,e],fun x hx=>by have:=Y6m x hx;rw[e]at this;exact this⟩
theorem Y9w (hr:rows.length=n):∀(k many:Nat) (b:M Nat),X6 n b->X6 n (Q4a rows k many b)
 |0,many,b,h=>h
 |k+1,many,b,h=>by
  unfold Q4a;split
  ·exact Y9w hr k _ _ (h.step hr)
  ·exact h
def Z8r (w:Wf es rows):X6 es.length (G3 es rows):=Y9w w.len _ _ _ X6.zero
def wtA:WT:=(A5 (V8 fun i j=>decide (j<=i)) (D4 Q2x (A0 (wV 2) A2)) (wV 3))
def weA:WE:=(C1 (Q1e (A0 (C1 (wV 0)) (A0 (C1 (D4 T0 (A0 (X2 1 [2] (Q4n (wV 1)) (B7 0) X1 (C1 (A5 C8 (wV 1) (wV 0)))) A2))) A2))))
def wlA (sp_numbered:F5):WS:=(A9 (D6 3 (A5 N1 (D4 Q2x (A0 (wV 2) A2)) (wC (.int 1)))) (D6 2 (C1 (N4 sp_numbered (A0 (X2 2 [2] (Z1l (A0 (wV 2) (A0 (wV 1) A2))) (M6 2 (D7 (B7 0) (D7 (B7 1) N2))) X1 weA) A2)))))
def V8f {b:M Nat}(hb:X6 n b)(hn:n<=20000){p:Nat×M Nat}(hp:p.2.length=4)(hg:∀g∈p.2,g<n)(Q:R->Prop)(h:Q (.st (Q2w b p))):weA (some (.dat (iD p.1))::some (.dat (rD p.2))::[some (.dat (.lst (b.map iD)))]) Q:=by
 unfold weA;simp only[J8,s_tup,C7,B8,L8,Q2b,Q9p,C6];refine⟨_,rfl,_,rfl,_,rfl,sz (by simp[hp]),?_⟩;refine Q3q (f:=fun d=>match d with |.int i=>iD (b.getD i.toNat 0) |d=>d) _ _ _ (fun d hd Q' q=>?_) ?_
 ·obtain⟨g,jW,rfl⟩:=au.mp hd;have hl:g<b.length:=by rw[hb.len];exact hg g jW
  simp only[J8,E6,B8];refine⟨_,rfl,_,rfl,?_⟩;show C8 (.st (.lst (b.map iD))) (.st (.int (g:Int))) _;rw[Q9h];refine⟨iD (b.getD g 0),Y9 (by rw[ah,aq,ac hl];rfl),q⟩
 ·refine⟨_,rfl,_,rfl,sz ?G,?_⟩;have e:(p.2.map iD).map (fun d=>match d with |.int i=>iD (b.getD i.toNat 0) |d=>d)=(p.2.map fun g=>b.getD g 0).map iD:=by
   rw[aM,aM];exact bg fun g _=>by simp
  show Q (.st (.tup [iD p.1,.tup _]));rw[e];exact h
def Z6h {b:M Nat}(hb:b≠[]){Q:R->Prop}(h:Q (.st (iD (U9 b)))):Q2x [.st (.lst (b.map iD))] Q:=by
 rw[V5j];refine⟨b.map fun(x:Nat)=>(x:Int),by rw[V0n,aM];rfl,by simpa using hb,fun m h1 h2=>?_⟩;rw[W9f h1 h2];exact h
def W8b (n:Nat)(o:Ac Nat):U1 n (oD o)=true:=by cases o<;>cases n<;>rfl
def W9e (b:M Nat)(p:Nat×M Nat):U1 8 (Q2w b p)=true:=by
 simp[Q2w,U1]
theorem V8g (w:Wf es rows)(hl:es.length<=20000){dr:D}(kj:RwD dr rows){E:J4}:∀(n many:Nat) (b:M Nat),X6 es.length b->es.length+1<=n+many ->
  (∀o3,E.nx [o0,some (.dat dr),some (.dat (.lst ((Q4a rows n many b).map iD))),o3]) ->
  K3 wtA (wlA sp_numbered) (n+1) E [o0,some (.dat dr),some (.dat (.lst (b.map iD))),some (.dat (iD many))]:=by
 intro n
 induction n with
 |zero=>
  intro many b hb hn h;have ne:b≠[]:=fun z=>by have h1:=hb.len;rw[z,eF]at h1;have:=w.pos;lia
  have:=hb.lt _ (Q9b ne);simp only[K3,wtA,E6,L8,C7,B8,C6];k_ne;refine Z6h ne ⟨_,rfl,?_⟩;rw[P7,Q1l,aI (by simp;lia)];exact h _
 |succ n ih=>
  intro many b hb hn h;have ne:b≠[]:=fun z=>by have h1:=hb.len;rw[z,eF]at h1;have:=w.pos;lia
  have mx:=hb.lt _ (Q9b ne);rw[K3];simp only[wtA,E6,L8,C7,B8,C6];k_ne;refine Z6h ne ⟨_,rfl,?_⟩;rw[P7,Q1l];rw[Q4a]at h
  by_cases hm:many<=U9 b
  ·rw[aQ (by simpa using hm)];rw[aQ hm]at h;simp only[wlA,G2,N6,E6,L8,C7,B8,C6,K1,J8,Q0a,Q2b,V5c];k_ne;refine Z6h ne ?_;rw[Q4q,S8];refine⟨_,rfl,_,rfl,_,_,_,_,rfl,rfl,kj.sq,sz (by simp[X5,hb.len];lia),?_⟩;have ez:X5 (b.map iD) (rows.map rD)=((b.zip rows).map fun p=>(iD p.1,rD p.2)).map fun p=>.tup [p.1,p.2]:=by
    unfold X5;rw[List.zip_map]
    rfl
   rw[ez];refine Y3a (f:=fun d e=>match d,e with |.int i,.tup r=>Q2w b (i.toNat,r.map fun d=>match d with |.int j=>j.toNat |_=>0) |_,_=>.non) _ _ _ _ (fun q hq Q' hQ=>?_) ?_
   ·obtain⟨p,hp,rfl⟩:=au.mp hq;have hr:=(cL hp).2;refine V8f hb hl (w.r4 _ hr) (w.lt _ hr) Q' ?_;have:(p.2.map iD).map (fun d=>match d with |.int j=>j.toNat |_=>0)=p.2:=by
     rw[aM]
     conv=>rhs;rw[<-List.map_id p.2]
     exact bg fun g _=>by simp
    simp only[this]at hQ;simpa using hQ
   ·have em:(((b.zip rows).map fun p=>(iD p.1,rD p.2)).map fun p=>(fun d e=>match d,e with |.int i,.tup r=>Q2w b (i.toNat,r.map fun d=>match d with |.int j=>j.toNat |_=>0) |_,_=>D.non) p.1 p.2)=Q1v rows b:=by
     unfold Q1v;rw[aM];refine bg fun p _=>?_;have:(p.2.map iD).map (fun d=>match d with |.int j=>j.toNat |_=>0)=p.2:=by
      rw[aM]
      conv=>rhs;rw[<-List.map_id p.2]
      exact bg fun g _=>by simp
     simp only[Function.comp,this];simp
    rw[em];refine⟨rfl,_,⟨Q1v rows b,rfl,?_,fun d hd=>?_,rfl⟩,?_⟩
    ·simp[Q1v,hb.len];lia
    ·obtain⟨p,_,rfl⟩:=au.mp hd;exact⟨W9e b p,_,rfl⟩
    ·have e:((U9 b:Int)+1)=((U9 b+1:Nat):Int):=by lia
     show K3 wtA (wlA sp_numbered) (n+1) E [_,_,some (.dat (.lst ((M3 rows b).map iD))),some (.dat (.int ((U9 b:Int)+1)))];rw[e];exact ih _ _ (hb.step w.len) (by lia) h
  ·rw[aI (by simpa using hm)];rw[aI hm]at h;exact h _
def sp_told_apart:D5:=fun rs Pr=>∃ra es rows d,rs=[ra,.st d]/\RwD d rows/\V4 ra es/\Wf es rows/\es.length<=20000/\Pr (.st (.lst ((G3 es rows).map iD)))
def W9t:V5 sp_told_apart:=by rintro rs P Q f ⟨ra,es,rows,d,e,h0,h1,h2,h3,h4⟩;exact⟨ra,es,rows,d,e,h0,h1,h2,h3,f _ h4⟩
theorem V4c:∀rs Pr,rs.length=2->sp_told_apart rs Pr->W0x sp_numbered sp_distances (N8 Pr) (D8 Y1q rs):=by
 rintro rs Pr _ ⟨ra,es,rows,dr,rfl,kj,ha,wf,hl,h⟩;unfold W0x;simp only[G2,N6,J8,Q0a,C7,V5i,R0,B8,K1,C6,Z7p];refine⟨_,rfl,_,rfl,?_,ra,es,rows,true,dr,?_,kj,ha,wf,hl,?_⟩
 ·show(L3 (rdS (R1 ra))&&true)=true;rw[ha.rd,ha.arg];rfl
 ·show [nrm (rdS (R1 ra)),_,_]=_;rw[ha.rd,ha.nrm];rfl
 refine⟨_,rfl,_,rfl,?_,ra,es,rows,false,dr,?_,kj,ha,wf,hl,?_⟩
 ·show(L3 (rdS (R1 ra))&&true)=true;rw[ha.rd,ha.arg];rfl
 ·show [nrm (rdS (R1 ra)),_,_]=_;rw[ha.rd,ha.nrm];rfl
 refine⟨_,_,_,_,rfl,rfl,rfl,rfl,_,⟨Q0j es rows,?_,?_,fun d hd=>?_,rfl⟩,?_⟩
 ·have:X5 ((Q2p es rows true).map oD) ((Q2p es rows false).map oD)=Q0j es rows:=by
   unfold X5 Q0j;rw[List.zip_map,aM];rfl
  rw[this];rfl
 ·simp[Q0j,Q2p];lia
 ·obtain⟨p,_,rfl⟩:=au.mp hd;exact⟨by simp[U1,W8b],_,rfl⟩
 ·refine⟨es.length+1+1,?_⟩;refine V8g wf hl kj (es.length+1) 0 _ X6.zero (by lia) fun o3=>?_;exact⟨_,rfl,h⟩
abbrev F9:=M Bool×M (M Nat)
variable {m1 m2 m:F9}
abbrev mD (m:F9):D:=.tup [.tup (m.1.map .bl),rsD m.2]
abbrev C5 (m:F9):Prop:=Wf m.1 m.2
def C3 (rows:M (M Nat))(s c:Nat):Nat:=(rows.getD s []).getD c 0
def Q3d:Nat->M Nat->M (Nat×Nat)->M (Nat×Nat)
 |_,[],S=>S
 |n,x::b,S=>Q3d (n+1) b (Q3 S x n)
def Q1u (rows:M (M Nat))(b:M Nat)(x c:Nat):Nat:=b.getD (C3 rows (b.idxOf x) c) 0
noncomputable def N3 (es:M Bool)(rows:M (M Nat)):M Nat×M (M Nat):=S0 es.length (Q1u rows (G3 es rows)) ((G3 es rows).getD 0 0)
noncomputable def E9 (es:M Bool)(rows:M (M Nat)):F9:=((N3 es rows).1.map fun x=>es.getD ((G3 es rows).idxOf x) false,(N3 es rows).2)
theorem V4m {s:Nat}{r:M Nat}(h:rows[s]?=some r)(hc:c<r.length):r[c]?=some (C3 rows s c):=by grind [C3,aq,yP,ac]
def Wf.row (w:Wf es rows){s:Nat}(h:s<es.length):∃r,rows[s]?=some r/\r.length=4/\∀c<4,r[c]?=some (C3 rows s c)/\C3 rows s c<es.length:=by
 have h':s<rows.length:=by rw[w.len];exact h
 have e:rows[s]?=some rows[s]:=ac h';have m:=aY h';refine⟨_,e,w.r4 _ m,fun c hc=>?_⟩;have g:=V4m e (c:=c) (by rw[w.r4 _ m];exact hc);exact⟨g,w.lt _ m _ (az g)⟩
theorem Q0u (h:c∈B2):c<4:=by
 simp[B2]at h;lia
theorem Y5f (h:c<4):c∈B2:=by
 simp[B2];lia
def Q3s {b:M Nat}{i:Nat}(h:i<b.length):b.getD i 0∈b:=by
 rw[aq,ac h];exact aY h
def Y5e (w:Wf es rows){b:M Nat}(hb:b.length=es.length){x:Nat}(hx:x∈b)(hc:c∈B2):Q1u rows b x c∈b:=by
 have hi:=aX.mpr hx;obtain⟨r,_,_,h⟩:=w.row (s:=b.idxOf x) (by rw[<-hb];exact hi);exact Q3s (by rw[hb];exact(h c (Q0u hc)).2)
def Q7k (w:Wf es rows):Q2n (Q1u rows (G3 es rows)) ((G3 es rows).getD 0 0) (G3 es rows) (N3 es rows).1 (N3 es rows).2:=by
 have B:=Z8r w;exact Q5d (fun k hk c hc=>Y5e w B.len hk hc) (Q3s (by rw[B.len];exact w.pos)) (dQ B.len)
def Z1m (w:Wf es rows):C5 (E9 es rows):=by
 have W:=Q7k w;have i4:∀r∈(N3 es rows).2,∃k∈(N3 es rows).1,r=B2.map fun c=>(N3 es rows).1.idxOf (Q1u rows (G3 es rows) k c):=fun r hr=>by
  obtain⟨i,hi,rfl⟩:=be.mp hr;have ig:i<(N3 es rows).1.length:=by rw[<-W.len];exact hi
  have:=W.row i _ (ac ig);rw[ac hi]at this;exact⟨_,aY ig,aA this⟩
 refine⟨?_,?_,fun r hr=>?_,fun r hr x hx=>?_⟩
 ·show(N3 es rows).2.length=((N3 es rows).1.map _).length;rw[ag];exact W.len
 ·show 0<((N3 es rows).1.map _).length;rw[ag];obtain⟨h,_⟩:=aJ.mp W.zero;exact h
 ·obtain⟨k,_,rfl⟩:=i4 r hr;rfl
 ·show x<((N3 es rows).1.map _).length;rw[ag];obtain⟨k,hk,rfl⟩:=i4 r hr;obtain⟨c,hc,rfl⟩:=au.mp hx;exact aX.mpr (W.mem k hk c hc)
def Q5t (w:Wf es rows):(E9 es rows).1.length<=es.length:=by
 have W:=Q7k w;have h:=W.nd.length_le_of_subset fun x hx=>W.sub x hx;rw[(Z8r w).len]at h;show((N3 es rows).1.map _).length<=_;rw[ag];exact h
theorem W9a {S:M (Nat×Nat)}{x y:Nat}:L5 (Q3 S x n) y=if y∈S.map (·.1)then L5 S y else if y=x then some n else none:=by grind [List.find?_eq_none,List.find?_isSome,Q3,L5,List.find?_append]
theorem V5q:∀(b:M Nat) (n:Nat) (S:M (Nat×Nat)) (x:Nat),L5 (Q3d n b S) x=if x∈S.map (·.1)then L5 S x else if x∈b then some (n+b.idxOf x)else none:=by intro b;induction b<;>grind [Q3d,L5,W9a,Q3,List.idxOf_cons]
theorem Y8m {b:M Nat}{x:Nat}(h:x∈b):F4 (kR (Q3d 0 b [])) (ik x)=some (iD (b.idxOf x)):=by
 have:=W0f (Q3d 0 b []) x;rw[V5q,aI ?G,aQ h,eM]at this;cases e:F4 (kR (Q3d 0 b [])) (ik x)with
 |none=>rw[e]at this;cases this
 |some d=>rw[e]at this;exact congrArg some this
def W3x (S:M (Nat×Nat))(x n:Nat):(Q3 S x n).length<=S.length+1:=by unfold Q3;split<;>simp
theorem forS {E:J4}{o0 o1 o2 o6 o7:Ac Sl}:∀(b:M Nat) (n:Nat) (S:M (Nat×Nat)) (o4 o5:Ac Sl),S.length+b.length<=1000000 ->
  (∀o4 o5,E.nx [o0,o1,o2,some (.dk (kR (Q3d n b S))),o4,o5,o6,o7]) ->
  F6 (M6 2 (D7 (B7 4) (D7 (B7 5) N2))) (Z3j 3 (wV 5) (wV 4)) E ((b.zipIdx n).map fun p=>.tup [.int (p.2:Int),iD p.1]) [o0,o1,o2,some (.dk (kR S)),o4,o5,o6,o7]
 |[],n,S,o4,o5,_,h=>h o4 o5
 |x::b,n,S,o4,o5,hz,h=>by
  rw[aN]at hz;have hl:=W3x S x n;have ih:=forS (E:=E) (o0:=o0) (o1:=o1) (o2:=o2) (o6:=o6) (o7:=o7) b (n+1) (Q3 S x n) (some (.dat (iD n))) (some (.dat (iD x))) (by lia) h;rw[bI,ar,F6];simp only[Q0d,Q0b,Q0,Q0c,V5g,B8];refine⟨_,rfl,rfl,_,_,rfl,_,_,rfl,rfl,_,rfl,_,rfl,iD x,ik x,rfl,rfl,_,rfl,_,rfl,T9 (by simp[L4];lia),?_⟩;rw[Y4n];unfold Q3 at ih
  by_cases hx:x∈S.map (·.1)
  ·rw[aQ hx]at ih;rw[aQ (by simpa using hx)];exact ih
  ·rw[aI hx]at ih;rw[aI (by simpa using hx)];have e:kR S++[(ik x,iD n)]=kR (S++[(x,n)]):=by simp[L4]
   show F6 _ _ _ _ [_,_,_,some (.dk (kR S++[(ik x,iD n)])),_,_,_,_];rw[e];exact ih
def V4.ix {ra:R}  (h:V4 ra es){i:Nat}(hi:i<es.length){Q:R->Prop}(q:Q (.st (.bl (es.getD i false)))):C8 ra (.st (.int (i:Int))) Q:=by
 have e:N5 (es.map D.bl) (i:Int)=some (.bl (es.getD i false)):=Y9 (by rw[ah,aq,ac hi];rfl);rcases h with rfl |rfl
 ·rw[Q5y];exact⟨_,e,q⟩
 ·rw[Z6t];exact⟨_,e,q⟩
def V4.bor {ra:R}  (h:V4 ra es):Q8n (R1 ra)=some (R1 ra):=by rcases h with rfl |rfl<;>rfl
theorem Y5d {b:M Nat}{i:Nat}(h:i<b.length){Q:R->Prop}(q:Q (.st (iD (b.getD i 0)))):C8 (.st (.lst (b.map iD))) (.st (.int (i:Int))) Q:=by grind [Q9h,Y9,ah,aq,ac]
def sp_least:D5:=fun rs Pr=>∃ra es rows d,rs=[ra,.st d]/\RwD d rows/\V4 ra es/\Wf es rows/\es.length<=20000/\Pr (.st (mD (E9 es rows)))
def Y5z:V5 sp_least:=by rintro rs P Q f ⟨ra,es,rows,d,e,h0,h1,h2,h3,h4⟩;exact⟨ra,es,rows,d,e,h0,h1,h2,h3,f _ h4⟩
def W8g (w:Wf es rows){dr:D}(kj:RwD dr rows){b:M Nat}(hb:b.length=es.length){x:Nat}(hx:x∈b)(hc:c∈B2):
  G6 (Z3o K) [.cl a (Q6 K a (kR (Q3d 0 b []))),.dat dr,.dat (.lst (b.map iD))] [.st (iD x),.st (iD c)] (.st (iD (Q1u rows b x c))):=by
 have hi:b.idxOf x<es.length:=by rw[<-hb];exact aX.mpr hx
 obtain⟨r,_,_,h3⟩:=w.row hi;refine⟨[iD x,iD c],iD (Q1u rows b x c),rfl,rfl,?_⟩;unfold Z3o;simp only[E6,B8,Y8d];refine⟨_,rfl,_,rfl,a,_,rfl,_,rfl,iD x,ik x,_,rfl,rfl,Y8m hx,?_⟩;obtain⟨r,h1,h2,h3⟩:=w.row hi;rw[P7];refine kj.ix h1 ⟨_,rfl,?_⟩;rw[P7,Z6t];refine⟨iD (C3 rows (b.idxOf x) c),Y9 (by rw[ah,(h3 c (Q0u hc)).1];rfl),?_⟩;exact Y5d (by rw[hb];exact(h3 c (Q0u hc)).2) rfl
theorem V3q:∀rs Pr,rs.length=2->sp_least rs Pr->Z9s FC K sp_told_apart (sp_walkedK FC) (N8 Pr) (D8 Y1k rs):=by
 rintro rs Pr _ ⟨ra,es,rows,dr,rfl,kj,ha,wf,hl,h⟩;have B:=Z8r wf;have W:=Q7k wf;have oh:0<(G3 es rows).length:=by rw[B.len];exact wf.pos
 unfold Z9s;simp only[G2,N6,J8,R0,C7,B8,C6,V5e,V4v,Q2c,V4w,Q6e,V4s,E6,K1,T7,s_tup,L8,Q2b,Q7t,Q0d,Q0b,Q0,Q0c];refine⟨_,rfl,_,rfl,?_,ra,es,rows,dr,?_,kj,ha,wf,hl,?_⟩
 ·show(L3 (rdS (R1 ra))&&true)=true;rw[ha.rd,ha.arg];rfl
 ·show [nrm (rdS (R1 ra)),_]=_;rw[ha.rd,ha.nrm];rfl
 refine⟨_,rfl,_,rfl,?_⟩;have e3:K0 ((G3 es rows).map iD)=((G3 es rows).zipIdx 0).map fun p=>.tup [.int (p.2:Int),iD p.1]:=by
  unfold K0;rw[eE,aM];rfl
 rw[e3];refine forS (G3 es rows) 0 [] none none (by simp[B.len];lia) fun o4 o5=>?_;refine⟨_,rfl,fun a=>?_⟩;k_ne;rw[P7];refine Y5d (i:=0) oh ?_;refine⟨rfl,_,⟨_,_,rfl,rfl,Q6.hid,_,_,rfl,rfl,trivial,_,_,rfl,rfl,trivial,rfl⟩,fun f Φ hF=>?_⟩;refine⟨_,⟨Nat,inferInstance,iD,ik,Q1u rows (G3 es rows),(G3 es rows).getD 0 0,G3 es rows,f,Φ,_,fun _=>rfl,Q5s,rfl,hF,Q3s oh,by rw[B.len];lia,fun k hk c hc=>⟨Y5e wf B.len hk hc,W8g wf kj B.len hk hc⟩,rfl⟩,?_⟩;have eW:S0 (G3 es rows).length (Q1u rows (G3 es rows)) ((G3 es rows).getD 0 0)=N3 es rows:=by unfold N3;rw[B.len]
 rw[eW];refine⟨_,rfl,_,rfl,rfl,_,_,rfl,_,_,rfl,rfl,_,rfl,_,rfl,?_,?_⟩
 ·have js:=Q5t wf;have:(E9 es rows).1.length=(N3 es rows).1.length:=by simp[E9]
  exact sz (by rw[ag];lia)
 show O9 (B7 0) X1 _ _ [none,Q8n (R1 ra),some (.cl a (Q6 K a (kR (Q3d 0 (G3 es rows) []))))] _;rw[ha.bor];refine Q3q (f:=fun d=>match d with |.int i=>.bl (es.getD ((G3 es rows).idxOf i.toNat) false) |d=>d) (rest:=[some (R1 ra),some (.cl a (Q6 K a (kR (Q3d 0 (G3 es rows) []))))]) _ _ _ (fun d hd Q' q=>?_) ?_
 ·obtain⟨x,hx,rfl⟩:=au.mp hd;have u7:=W.sub x hx;simp only[J8,E6,B8,Y8d];refine⟨_,rfl,a,_,rfl,_,rfl,iD x,ik x,_,rfl,rfl,Y8m u7,?_⟩;rw[ha.rd];exact ha.ix (by rw[<-B.len];exact aX.mpr u7) (by simpa using q)
 ·rw[Q1y];refine⟨_,rfl,_,rfl,_,rfl,sz ?G,?_⟩;have e:((N3 es rows).1.map fun a=>iD a).map (fun d=>match d with |.int i=>D.bl (es.getD ((G3 es rows).idxOf i.toNat) false) |d=>d)=(E9 es rows).1.map .bl:=by
   unfold E9;rw[aM,aM];exact bg fun x _=>by simp
  show Pr (.st (.tup [.tup _,_]));rw[e];exact h
section
variable [DecidableEq α]
def Q3o (U:M α)(step:α->Nat->α)(start:α)(fin:α->Bool):F9:=((S0 U.length step start).1.map fin,(S0 U.length step start).2)
noncomputable def Y2j (U:M α)(step:α->Nat->α)(start:α)(fin:α->Bool):F9:=E9 (Q3o U step start fin).1 (Q3o U step start fin).2
def Q2n.wf {step:α->Nat->α}{start:α}{U ks:M α}  (W:Q2n step start U ks rs)(fin:α->Bool):Wf (ks.map fin) rs:=by
 have i4:∀r∈rs,∃k∈ks,r=B2.map fun c=>ks.idxOf (step k c):=fun r hr=>by
  obtain⟨i,hi,rfl⟩:=be.mp hr;have ig:i<ks.length:=by rw[<-W.len];exact hi
  have:=W.row i _ (ac ig);rw[ac hi]at this;exact⟨_,aY ig,aA this⟩
 refine⟨by rw[ag];exact W.len,?_,fun r hr=>?_,fun r hr x hx=>?_⟩
 ·rw[ag];obtain⟨h,_⟩:=aJ.mp W.zero;exact h
 ·obtain⟨k,_,rfl⟩:=i4 r hr;rfl
 ·rw[ag];obtain⟨k,hk,rfl⟩:=i4 r hr;obtain⟨c,hc,rfl⟩:=au.mp hx;exact aX.mpr (W.mem k hk c hc)
def Q2n.le {step:α->Nat->α}{start:α}{U ks:M α}  (W:Q2n step start U ks rs):ks.length<=U.length:=W.nd.length_le_of_subset fun x hx=>W.sub x hx
end
def sp_built (FC:J9):D5:=fun rs Pr=>∃(α:Type) (_:DecidableEq α) (ts:α->M D) (key:α->M B0) (step:α->Nat->α) (start:α) (fin:α->Bool) (U:M α) (f f2:Af) (Φ Φ2:Hp->Prop) (sp fw:F5),
 (∀a,T6 (ts a)=some (key a))/\(∀a b,key a=key b->a=b)/\rs=[.st (.tup (ts start)),.cl f Φ,.cl f2 Φ2]/\FC 2 f Φ sp/\FC 1 f2 Φ2 fw/\start∈U/\U.length<=20000/\(∀k∈U,∀c∈B2,step k c∈U/\sp [.st (.tup (ts k)),.st (iD c)] (.st (.tup (ts (step k c))))) /\
 (∀k∈U,fw [.st (.tup (ts k))] (.st (.bl (fin k))))/\Pr (.st (mD (Y2j U step start fin)))
def W9q:V5 (sp_built FC):=by rintro rs P Q g ⟨α,i,ts,key,step,kB,fin,U,f,f2,Φ,Φ2,sp,fw,h1,h2,h3,h4,h5,h6,h7,h8,h9,xL⟩;exact⟨α,i,ts,key,step,kB,fin,U,f,f2,Φ,Φ2,sp,fw,h1,h2,h3,h4,h5,h6,h7,h8,h9,g _ xL⟩
theorem Y2y {Φ2:Hp->Prop}{fw:F5}{ts:α->M D}{fin:α->Bool}(hF:FC 1 f2 Φ2 fw){Q:M D->Prop}:∀(ks:M α) (o:Ac Sl),(∀k∈ks,fw [.st (.tup (ts k))] (.st (.bl (fin k))))->Q ((ks.map fin).map .bl) ->
  O9 (B7 0) X1 (C1 (Y4 FC 1 1 (A0 (wV 0) A2))) (ks.map fun a=>.tup (ts a)) [o,some (.cl f2 Φ2)] Q
 |[],o,_,h=>h
 |k::ks,o,hs,h=>by
  rw[ar,O9];simp only[Q0,V5p,J8,Q4t,C7,B8,C6,pk];refine⟨f2,Φ2,fw,rfl,hF,_,rfl,rfl,_,hs k ?G,_,rfl,?_⟩;exact Y2y hF ks _ (fun k h=>hs k (by simp[h])) h
theorem V3g:∀rs Pr,rs.length=3->sp_built FC rs Pr->Z9n FC (sp_walked FC) sp_least (N8 Pr) (D8 Y1i rs):=by
 rintro rs Pr _ ⟨α,_,ts,key,step,start,fin,U,f,f2,Φ,Φ2,sp,fw,hk,inj,rfl,hF,jk,hs,hl,hU,lg,h⟩;have W:=Q5d (step:=step) (N:=U.length) (fun k h c hc=>(hU k h c hc).1) hs (ao _);have js:=W.le;unfold Z9n;simp only[G2,Q6e,Q0a,C7,B8,C6,T7,R0,Q2b,Q7t,Q0d,Q0b,Q0,Q0c];refine⟨_,rfl,_,rfl,rfl,_,⟨α,inferInstance,ts,key,step,start,U,f,Φ,sp,hk,inj,rfl,hF,hs,by lia,hU,rfl⟩,?_⟩;refine⟨_,rfl,_,rfl,rfl,_,_,rfl,_,_,rfl,rfl,_,rfl,_,rfl,sz (by rw[ag];lia),?_⟩;refine Y2y (fin:=fin) jk _ none (fun k hk=>lg k (W.sub k hk)) ?_;refine⟨_,rfl,rfl,_,_,_,_,rfl,.inl rfl,.inl rfl,W.wf fin,by rw[ag];lia,h⟩
abbrev pT (p:Nat×Nat):M D:=[iD p.1,iD p.2]
abbrev pK (p:Nat×Nat):M B0:=[ik p.1,ik p.2]
theorem Y6v (a b:Nat×Nat)(h:pK a=pK b):a=b:=by grind [List.cons.inj,Q5s]
def Q0n (m1 m2:F9)(p:Nat×Nat)(c:Nat):Nat×Nat:=(C3 m1.2 p.1 c,C3 m2.2 p.2 c)
def Q2z (g:Bool->Bool->Bool)(m1 m2:F9)(p:Nat×Nat):Bool:=g (m1.1.getD p.1 false) (m2.1.getD p.2 false)
def Q9j (n1 n2:Nat):M (Nat×Nat):=(List.range n1).flatMap fun i=>(List.range n2).map fun j=>(i,j)
theorem Q9c {p:Nat×Nat}:p∈Q9j n1 n2 ↔ p.1<n1/\p.2<n2:=by grind [Q9j,yQ,aZ,au]
theorem Z6w (n1 n2:Nat):(Q9j n1 n2).length=n1*n2:=by
 have:∀(l:M Nat),(l.map fun _=>n2).sum=l.length*n2:=by
  intro l;induction l with
  |nil=>simp
  |cons a l ih=>rw[ar,List.sum_cons,ih,aN,Nat.succ_mul];lia
 simp[Q9j,List.length_flatMap,this]
def PU (m1 m2:F9):M (Nat×Nat):=Q9j m1.1.length m2.1.length
def Q4r (w1:C5 m1)(w2:C5 m2){p:Nat×Nat}(h:p∈PU m1 m2)  (hc:c∈B2):Q0n m1 m2 p c∈PU m1 m2:=by
 obtain⟨h1,h2⟩:=Q9c.mp h;obtain⟨_,_,_,g1⟩:=w1.row h1;obtain⟨_,_,_,g2⟩:=w2.row h2;exact Q9c.mpr ⟨(g1 c (Q0u hc)).2,(g2 c (Q0u hc)).2⟩
def Y1t (m1 m2:F9)(sp:F5):Prop:=∀p∈PU m1 m2,∀c∈B2,sp [.st (.tup (pT p)),.st (iD c)] (.st (.tup (pT (Q0n m1 m2 p c))))
def EndP (g:Bool->Bool->Bool)(m1 m2:F9)(sp:F5):Prop:=∀p∈PU m1 m2,sp [.st (.tup (pT p))] (.st (.bl (Q2z g m1 m2 p)))
def Q1p (g:Bool->Bool->Bool)(sp:F5):Prop:=∀x y:Bool,sp [.st (.bl x),.st (.bl y)] (.st (.bl (g x y)))
def sp_pair_step (FC:J9):D5:=fun rs Pr=>∃m1 m2,rs=[.st (mD m1),.st (mD m2)]/\C5 m1/\C5 m2/\∀f Φ sp,FC 2 f Φ sp->Y1t m1 m2 sp->Pr (.cl f Φ)
def Y6c:V5 (sp_pair_step FC):=by rintro rs P Q g ⟨m1,m2,e,h1,h2,h3⟩;exact⟨m1,m2,e,h1,h2,fun f Φ sp a b=>g _ (h3 f Φ sp a b)⟩
def sp_pair_end (dY dh:J9):D5:=fun rs Pr=>∃m1 m2 f Φ sp g,rs=[.st (mD m1),.st (mD m2),.cl f Φ]/\C5 m1/\C5 m2/\dY 2 f Φ sp/\Q3i Φ/\Q1p g sp/\∀f' Φ' ma,dh 1 f' Φ' ma->EndP g m1 m2 ma->Pr (.cl f' Φ')
def Y6b:V5 (sp_pair_end dY dh):=by rintro rs P Q q ⟨m1,m2,f,Φ,sp,g,e,h1,h2,h3,h4,h5,h6⟩;exact⟨m1,m2,f,Φ,sp,g,e,h1,h2,h3,h4,h5,fun f' Φ' ma a b=>q _ (h6 f' Φ' ma a b)⟩
def U3 {b:M D}{i:Nat}{d:D}(h:b[i]?=some d){Q:R->Prop}(q:Q (.st d)):C8 (.st (.tup b)) (.st (.int (i:Int))) Q:=by
 rw[Z6t];exact⟨_,Y9 h,q⟩
def W8i (w1:C5 m1)(w2:C5 m2):Y1t m1 m2 (G6 Z3q [.dat (rsD m1.2),.dat (rsD m2.2)]):=by
 rintro ⟨i,j⟩ hp c hc;obtain⟨h1,h2⟩:=Q9c.mp hp;refine⟨[.tup (pT (i,j)),iD c],_,rfl,rfl,?_⟩;unfold Z3q;simp only[s_tup,C7,J8,E6,B8,K1,C6];refine⟨_,rfl,_,rfl,U3 (i:=0) rfl ?_⟩;obtain⟨r,g1,_,g2⟩:=w1.row h1;refine U3 (i:=i) (d:=rD r) (by rw[ah,g1];rfl) ⟨_,rfl,?_⟩;refine U3 (i:=c) (d:=iD (C3 m1.2 i c)) (by rw[ah,(g2 c (Q0u hc)).1];rfl) ?_;refine⟨_,rfl,_,rfl,U3 (i:=1) rfl ?_⟩;obtain⟨r,g1,_,g2⟩:=w2.row h2;refine U3 (i:=j) (d:=rD r) (by rw[ah,g1];rfl) ⟨_,rfl,?_⟩;refine U3 (i:=c) (d:=iD (C3 m2.2 j c)) (by rw[ah,(g2 c (Q0u hc)).1];rfl) ?_;exact⟨_,rfl,sz ?G,rfl⟩
def V3z:∀rs Pr,rs.length=2->sp_pair_step FC rs Pr->Q8d FC 2 [("rows",2),("other_rows",3)] Z3q Z8y Z8z Pr (D8 Y1o rs):=by
 rintro rs Pr _ ⟨m1,m2,rfl,w1,w2,h⟩;unfold Q8d Z8y Z8z;simp only[N6,E6,B8,K1];refine⟨_,rfl,U3 (i:=1) rfl ?_⟩;rw[S8];refine⟨_,rfl,U3 (i:=1) rfl ?_⟩;rw[S8];exact⟨_,⟨_,_,rfl,rfl,trivial,_,_,rfl,rfl,trivial,rfl⟩,fun f Φ hF=>h f Φ _ hF (W8i w1 w2)⟩
def Z0t {i:Nat}(h:i<es.length):(es.map D.bl)[i]?=some (.bl (es.getD i false)):=by
 rw[ah,aq,ac h];rfl
def W8h (hF:dY 2 f Φ sp)(ht:Q1p g sp):EndP g m1 m2 (G6 (Z3p dY) [.dat (.tup (m2.1.map .bl)),.cl f Φ,.dat (.tup (m1.1.map .bl))]):=by
 rintro ⟨i,j⟩ hp;obtain⟨h1,h2⟩:=Q9c.mp hp;refine⟨[.tup (pT (i,j))],_,rfl,rfl,?_⟩;unfold Z3p;simp only[Q4t,C7,E6,B8,K1,C6];refine⟨f,Φ,sp,rfl,hF,_,rfl,_,rfl,U3 (i:=0) rfl ?_⟩;refine U3 (i:=i) (Z0t h1) ?_;refine⟨_,rfl,_,rfl,U3 (i:=1) rfl ?_⟩;refine U3 (i:=j) (Z0t h2) ?_;exact⟨rfl,_,ht _ _,rfl⟩
def V3y:∀rs Pr,rs.length=3->sp_pair_end dY dh rs Pr->Q8d dh 1 [("other_ends",4),("is_end",2),("ends",3)] (Z3p dY) Z8x w2_pair_end Pr (D8 Y1n rs):=by
 rintro rs Pr _ ⟨m1,m2,f,Φ,sp,g,rfl,w1,w2,hF,hH,ht,h⟩;unfold Q8d Z8x w2_pair_end;simp only[N6,E6,B8,K1];refine⟨_,rfl,U3 (i:=0) rfl ?_⟩;rw[S8];refine⟨_,rfl,U3 (i:=0) rfl ?_⟩;rw[S8];exact⟨_,⟨_,_,rfl,rfl,trivial,_,_,rfl,rfl,hH,_,_,rfl,rfl,trivial,rfl⟩,fun f' Φ' hF'=>h f' Φ' _ hF' (W8h hF ht)⟩
noncomputable def Y3 (g:Bool->Bool->Bool)(m1 m2:F9):F9:=Y2j (PU m1 m2) (Q0n m1 m2) (0,0) (Q2z g m1 m2)
def Q4u (dY:J9):D5:=fun rs Pr=>∃m1 m2 f Φ sp g,rs=[.st (mD m1),.st (mD m2),.cl f Φ]/\C5 m1/\C5 m2/\m1.1.length*m2.1.length<=20000/\dY 2 f Φ sp/\Q3i Φ/\Q1p g sp/\Pr (.st (mD (Y3 g m1 m2)))
def Y6d:V5 (Q4u dY):=by rintro rs P Q q ⟨m1,m2,f,Φ,sp,g,e,h1,h2,h3,h4,h5,h6,h7⟩;exact⟨m1,m2,f,Φ,sp,g,e,h1,h2,h3,h4,h5,h6,q _ h7⟩
def Q5e (w1:C5 m1)(w2:C5 m2):(0,0)∈PU m1 m2:=Q9c.mpr ⟨w1.pos,w2.pos⟩
def V6f (w1:C5 m1)(w2:C5 m2):C5 (Y3 g m1 m2):=
 Z1m ((Q5d (step:=Q0n m1 m2) (N:=(PU m1 m2).length) (fun k h c hc=>Q4r w1 w2 h hc) (Q5e w1 w2) (ao _)).wf _)
def Z2l (w1:C5 m1)(w2:C5 m2):(Y3 g m1 m2).1.length<=m1.1.length*m2.1.length:=by
 have W:=Q5d (step:=Q0n m1 m2) (N:=(PU m1 m2).length) (fun k h c hc=>Q4r w1 w2 h hc) (Q5e w1 w2) (ao _);have h1:=Q5t (W.wf (Q2z g m1 m2));have h2:=W.le;rw[ag]at h1;have h3:(PU m1 m2).length=m1.1.length*m2.1.length:=Z6w _ _;exact aO h1 (h3▸h2)
def V4b:∀rs Pr,rs.length=3->Q4u dY rs Pr->Z9u (sp_built dh) (sp_pair_step dh) (sp_pair_end dY dh) (N8 Pr) (D8 W3p rs):=by
 rintro rs Pr _ ⟨m1,m2,f,Φ,sp,g,rfl,w1,w2,hl,hF,hH,ht,h⟩;unfold Z9u;simp only[T7,R0,C7,s_tup,J8,K1,C6,B8];refine⟨_,rfl,sz ?G,_,rfl,_,rfl,rfl,m1,m2,rfl,w1,w2,fun f1 Φ1 sp1 sO oa=>?_⟩;refine⟨_,rfl,_,rfl,_,rfl,rfl,m1,m2,f,Φ,sp,g,rfl,w1,w2,hF,hH,ht,fun f2 Φ2 fw jk kP=>?_⟩;refine⟨rfl,Nat×Nat,inferInstance,pT,pK,Q0n m1 m2,(0,0),Q2z g m1 m2,PU m1 m2,f1,f2,Φ1,Φ2,sp1,fw,fun _=>rfl,Y6v,rfl,sO,jk,Q5e w1 w2,by unfold PU;rw[Z6w];exact hl,fun k hk c hc=>⟨Q4r w1 w2 hk hc,oa k hk c hc⟩,kP,h⟩
abbrev sD:Ac Str->D
 |none=>.non
 |some t=>.str t
abbrev V9:M (Nat×Str):=[(0,"0"),(1,"1"),(2,"a"),(3,"b")]
theorem enm4:K0 (N7 "01ab")=V9.map fun p=>.tup [.int (p.1:Int),.str p.2]:=rfl
section
variable [DecidableEq α]
def W7 (T:M (α×Str))(g:α)(t:Str):M (α×Str):=if g∈T.map (·.1)then T else T++[(g,t)]
def goT (st:Nat->α)(t:Str):M (Nat×Str)->M (α×Str)->M (α×Str)
 |[],T=>T
 |c::cs,T=>goT st t cs (W7 T (st c.1) (t++c.2))
def ftN (step:α->Nat->α)(fin:α->Bool):Nat->M (α×Str)->Nat->Ac Str
 |0,_,_=>none
 |n+1,T,p=>match T[p]? with
  |none=>none
  |some q=>if fin q.1 then some q.2 else ftN step fin n (goT (step q.1) q.2 V9 T) (p+1)
def Z6 (n:Nat)(step:α->Nat->α)(start:α)(fin:α->Bool):Ac Str:=ftN step fin n [(start,"")] 0
structure W6 (U:M α)(T:M (α×Str)):Prop where
 nd:(T.map (·.1)).Nodup
 sub:∀q∈T,q.1∈U
 len:∀q∈T,q.2.length<T.length
def W6.bound {U:M α}{T:M (α×Str)}(h:W6 U T):T.length<=U.length:=by
 have:=h.nd.length_le_of_subset fun x hx=>by
  obtain⟨q,hq,rfl⟩:=au.mp hx;exact h.sub q hq
 simpa using this
theorem Z0n (T:M (α×Str))(g:α)(t:Str):T <+: W7 T g t:=by grind [W7,bC,cJ]
theorem W6.add {U:M α}{T:M (α×Str)}(h:W6 U T){g k:α}{t s:Str}(hg:g∈U)(hk:(k,t)∈T)(hs:s.length=1):W6 U (W7 T g (t++s)):=by
 unfold W7;split
 ·exact h
 ·rename_i n;have hl:=h.len _ hk;refine⟨?_,fun q hq=>?_,fun q hq=>?_⟩
  ·rw[bA,ba];exact⟨h.nd,by simp,fun a ha b hb=>by
    simp at hb;rintro rfl;exact n (hb▸ha)⟩
  ·rcases aH.mp hq with hq |hq
   ·exact h.sub q hq
   ·rw[aG.mp hq];exact hg
  ·rw[aC,bu];rcases aH.mp hq with hq |hq
   ·have:=h.len q hq;lia
   ·rw[aG.mp hq];show(t++s).length<_;rw[PySem.Str.length_append,hs];have hl:t.length<T.length:=hl;lia
theorem W6.go {U:M α}{st:Nat->α}{k:α}{t:Str}:∀(cs:M (Nat×Str)) (T:M (α×Str)),W6 U T->(k,t)∈T->(∀c∈cs,st c.1∈U/\c.2.length=1)->W6 U (goT st t cs T)
 |[],T,h,_,_=>h
 |c::cs,T,h,hk,hc=>W6.go cs _ (h.add (hc c ?G).1 hk (hc c ?G).2) ((Z0n _ _ _).subset hk) fun c' h'=>hc c' (by simp[h'])
def Q0t {c:Nat×Str}(h:c∈V9):c.1∈B2/\c.2.length=1:=by
 simp only[V9,av,aU,bM]at h;rcases h with rfl |rfl |rfl |rfl<;>exact⟨?K,rfl⟩
section T
variable {Φ2:Hp->Prop}{fw:F5}{step:α->Nat->α}{fin:α->Bool}{ts:α->M D}{key:α->M B0}
abbrev tT (key:α->M B0)(T:M (α×Str)):M (M B0×D):=L4 key (T.map fun q=>(q.1,.str q.2))
def Q7z (T:M (α×Str)):(T.map fun q=>(q.1,D.str q.2)).map (·.1)=T.map (·.1):=by simp
def Y9t (inj:∀a b,key a=key b->a=b){T:M (α×Str)}(nd:(T.map (·.1)).Nodup){k:α}{t:Str}(h:(k,t)∈T):F4 (tT key T) (key k)=some (.str t):=by
 rw[Q1t inj];exact Z8v (by rw[Q7z];exact nd) (au.mpr ⟨_,h,rfl⟩)
def wbF (dh:J9):WS:=(A9 (D6 9 (Y4 dh 2 1 (A0 (wV 6) (A0 (wV 7) A2)))) (K8 (Q8b 4 (wV 9)) (A9 (Q8c 4 (wV 9) (A5 N1 (Q4z 4 (wV 6)) (wV 8))) (R8 3 (C1 (wV 9)))) K9))
theorem forF (hk:∀a,T6 (ts a)=some (key a))(inj:∀a b,key a=key b->a=b)(hF:FC 2 f Φ sp){U:M α}(hl:U.length<=100000){k:α}{t:Str}{E:J4}{o0 o2 o5:Ac Sl}:∀(cs:M (Nat×Str)) (T:M (α×Str)) (o7 o8 o9:Ac Sl),
  W6 U T->(k,t)∈T->(∀c∈cs,(step k c.1∈U/\c.2.length=1)/\sp [.st (.tup (ts k)),.st (iD c.1)] (.st (.tup (ts (step k c.1))))) ->
  (∀o7 o8 o9,E.nx [o0,some (.cl f Φ),o2,some (.own ((goT (step k) t cs T).map fun q=>.tup (ts q.1))),some (.dt (tT key (goT (step k) t cs T))),o5,some (.dat (.tup (ts k))),o7,o8,o9]) ->
  F6 (M6 2 (D7 (B7 7) (D7 (B7 8) N2))) (wbF FC) E (cs.map fun p=>.tup [.int (p.1:Int),.str p.2]) [o0,some (.cl f Φ),o2,some (.own (T.map fun q=>.tup (ts q.1))),some (.dt (tT key T)),o5,some (.dat (.tup (ts k))),o7,o8,o9]
 |[],T,o7,o8,o9,_,_,_,h=>h o7 o8 o9
 |c::cs,T,o7,o8,o9,hI,hkt,hs,h=>by
  obtain⟨⟨hU,h1⟩,my⟩:=hs c am;have b:=hI.bound;have lX:=hI.add hU hkt h1;have sh:=(Z0n T (step k c.1) (t++c.2)).subset hkt;have b2:=lX.bound;have ih:=forF hk inj hF hl (k:=k) (t:=t) (E:=E) (o0:=o0) (o2:=o2) (o5:=o5) cs;have ck:=hI.len _ hkt;have ck:t.length<T.length:=ck;have hv:=Q1t inj (T.map fun q=>(q.1,D.str q.2)) (step k c.1);have hi:(F4 (tT key T) (key (step k c.1))).isSome=decide (step k c.1∈T.map (·.1)):=by rw[hv,Q9y,Q7z]
  rw[ar,F6];simp only[wbF,Q0d,Q0b,Q0,Q0c,G2,N6,Q4t,C7,B8,C6,Q2d,Y8b,Y8c,Q3x,J8,Q3b,Z7j,E6];refine⟨_,rfl,rfl,_,_,rfl,_,_,rfl,rfl,f,Φ,sp,rfl,hF,_,rfl,_,rfl,rfl,_,my,?_⟩;rw[S8];refine⟨_,rfl,_,rfl,ts (step k c.1),key (step k c.1),rfl,hk _,?_⟩;rw[hi]
  by_cases hm:step k c.1∈T.map (·.1)
  ·have ea:W7 T (step k c.1) (t++c.2)=T:=aQ hm;rw[aI (by simpa using hm)];refine ih T _ _ _ hI hkt (fun c' h'=>hs c' (ak _ h')) ?_;simpa only[goT,ea]using h
  ·have ea:W7 T (step k c.1) (t++c.2)=T++[(step k c.1,t++c.2)]:=aI hm;rw[aQ (by simpa using hm)];refine⟨_,rfl,_,rfl,ts k,key k,_,rfl,hk _,Y9t inj hI.nd hkt,_,rfl,?_⟩;rw[P7,Y6o];refine⟨sz (by rw[h1];lia),_,rfl,_,rfl,_,rfl,ts (step k c.1),key (step k c.1),rfl,hk _,T9 (by simp[L4];lia),_,rfl,_,rfl,_,rfl,T9 (by simp;lia),?_⟩;have e1:O5 (tT key T) (key (step k c.1)) (.str (t++c.2))=tT key (W7 T (step k c.1) (t++c.2)):=by
    rw[Q8x inj (by rw[Q7z];exact hm),ea];simp[tT]
   have e2:(T.map fun q=>D.tup (ts q.1))++[D.tup (ts (step k c.1))]=(W7 T (step k c.1) (t++c.2)).map fun q=>D.tup (ts q.1):=by rw[ea];simp
   show F6 _ _ _ _ [_,_,_,some (.own ((T.map fun q=>D.tup (ts q.1))++[D.tup (ts (step k c.1))])),some (.dt (O5 (tT key T) (key (step k c.1)) (.str (t++c.2)))),_,_,_,_,_];rw[e1,e2];exact ih _ _ _ _ lX sh (fun c' h'=>hs c' (ak _ h')) h
def wtF:WT:=(A5 (V8 fun i j=>decide (i<j)) (wV 5) (D4 F3 (A0 (wV 3) A2)))
def wlF (dh:J9):WS:=(A9 (D6 6 (A5 C8 (wV 3) (wV 5))) (A9 (K8 (K4 (Y4 dh 1 2 (A0 (wV 6) A2))) (F7 (Q4z 4 (wV 6))) K9) (A9 (X3 (Q3t (A0 (wC (.str "01ab")) A2)) (M6 2 (D7 (B7 7) (D7 (B7 8) N2))) (wbF dh)) (Q4y 5 (Q5 NoC fun i j=>i+j) (wC (.int 1))))))
theorem V8h (hk:∀a,T6 (ts a)=some (key a))(inj:∀a b,key a=key b->a=b)(hF:FC 2 f Φ sp)(jk:FC 1 f2 Φ2 fw){U:M α}(hl:U.length<=100000){E:J4} 
  (hU:∀k∈U,∀c∈B2,step k c∈U/\sp [.st (.tup (ts k)),.st (iD c)] (.st (.tup (ts (step k c))))) (lg:∀k∈U,fw [.st (.tup (ts k))] (.st (.bl (fin k)))):∀(n:Nat) (T:M (α×Str)) (p:Nat) (o6 o7 o8 o9:Ac Sl),W6 U T->U.length<=n+p ->
  (ftN step fin n T p=none->∀ τ,E.nx τ)->(∀t,ftN step fin n T p=some t->E.rt (.st (.str t))) ->
  K3 wtF (wlF FC) (n+1) E [o0,some (.cl f Φ),some (.cl f2 Φ2),some (.own (T.map fun q=>.tup (ts q.1))),some (.dt (tT key T)),some (.dat (iD p)),o6,o7,o8,o9]:=by
 intro n
 induction n with
 |zero=>
  intro T p o6 o7 o8 o9 hI hp h h2;have b:=hI.bound;simp only[K3,wtF,E6,L8,C7,B8,C6];refine⟨_,rfl,_,rfl,?_⟩;simp only[P7,X0,Q1a,Q1l,ag];rw[aI (by simp;lia)];exact h rfl _
 |succ n ih=>
  intro T p o6 o7 o8 o9 hI hp h h2;have b:=hI.bound;rw[K3];simp only[wtF,E6,L8,C7,B8,C6];refine⟨_,rfl,_,rfl,?_⟩;simp only[P7,X0,Q1a,Q1l,ag]
  by_cases bU:p<T.length
  ·rw[aQ (by simpa using bU)];have fW:T[p]?=some T[p]:=ac bU;have kin:=aY bU;generalize T[p]=q at fW kin;obtain⟨k,t⟩:=q;have l5:k∈U:=hI.sub _ kin;rw[ftN,fW]at h h2;simp only[wlF,G2,N6,E6,B8,Q2d,Q3c,Q4t,C7,C6,T7,Z7j,Q3b,Q2c,Z2i,K1,Z7i];refine⟨_,rfl,_,rfl,?_⟩;rw[X0,P7,Q5y];refine⟨.tup (ts k),Y9 (by rw[ah,fW];rfl),f2,Φ2,fw,rfl,jk,_,rfl,rfl,_,lg k l5,?_⟩;rw[Q1x]
   by_cases hf:fin k=true
   ·rw[aQ hf];have h2:=h2 t (by show(if fin k=true then some t else _)=_;rw[aQ hf]);refine⟨_,rfl,_,rfl,ts k,key k,_,rfl,hk _,Y9t inj hI.nd kin,h2⟩
   ·rw[aI hf];simp only[hf]at h h2;refine .inl ⟨_,rfl,?_⟩;rw[enm4];refine forF hk inj hF hl V9 T _ _ _ hI kin (fun c hc=>⟨⟨(hU k l5 c.1 (Q0t hc).1).1,(Q0t hc).2⟩,(hU k l5 c.1 (Q0t hc).1).2⟩) fun o7 o8 o9=>?_;refine⟨_,rfl,trivial,?_⟩;have e:((p:Int)+1)=((p+1:Nat):Int):=by lia
    show K3 wtF (wlF FC) (n+1) E [_,_,_,_,_,some (.dat (.int ((p:Int)+1))),_,_,_,_];rw[e];exact ih _ _ _ _ _ _ (W6.go V9 T hI kin fun c hc=>⟨(hU k l5 c.1 (Q0t hc).1).1,(Q0t hc).2⟩) (by lia) h h2
  ·rw[aI (by simpa using bU)];have e:T[p]?=none:=aF.mpr (by lia);exact h (by rw[ftN,e]) _
end T
end
def sp_first_text (FC:J9):F5:=fun rs r=>∃(α:Type) (_:DecidableEq α) (ts:α->M D) (key:α->M B0) (step:α->Nat->α) (start:α) (fin:α->Bool) (U:M α) (f f2:Af) (Φ Φ2:Hp->Prop) (sp fw:F5),
 (∀a,T6 (ts a)=some (key a))/\(∀a b,key a=key b->a=b)/\rs=[.st (.tup (ts start)),.cl f Φ,.cl f2 Φ2]/\FC 2 f Φ sp/\FC 1 f2 Φ2 fw/\start∈U/\U.length<=100000/\(∀k∈U,∀c∈B2,step k c∈U/\sp [.st (.tup (ts k)),.st (iD c)] (.st (.tup (ts (step k c))))) /\
 (∀k∈U,fw [.st (.tup (ts k))] (.st (.bl (fin k))))/\r=.st (sD (Z6 U.length step start fin))
def Z8u {U:M α}{st:α}(h:st∈U):W6 U [(st,("":Str))]:=⟨by simp,fun q hq=>by rw[aG.mp hq];exact h,fun q hq=>by rw[aG.mp hq];show(Str.ofString "").length<1;decide⟩
theorem V3n:∀rs r,rs.length=3->sp_first_text FC rs r->Z9p FC (Y7 r) (D8 W3f rs):=by
 rintro rs r _ ⟨α,_,ts,key,step,kB,fin,U,f,f2,Φ,Φ2,sp,fw,hk,inj,rfl,hF,jk,hs,hl,hU,lg,rfl⟩;unfold Z9p;simp only[G2,N6,s_lst,C7,J8,B8,C6,Y8a,K1,T7];refine⟨_,rfl,_,rfl,sz ?G,?_⟩;refine⟨_,rfl,ts kB,key kB,rfl,hk _,_,rfl,?_⟩;rw[S8];refine⟨U.length+1,?_⟩;refine V8h hk inj hF jk hl hU lg U.length [(kB,"")] 0 _ _ _ _ (Z8u hs) (by lia) (fun e τ=>?_) (fun t e=>?_)
 ·show R.st .non=.st (sD (Z6 _ _ _ _));unfold Z6;rw[e]
 ·show R.st (.str t)=.st (sD (Z6 _ _ _ _));unfold Z6;rw[e]
abbrev W3g:M Str:=["start","step","is_end","keys","texts","place","key","column","sign","goal"]
def Z9q (dh:J9)  :WS:=(A9 (D6 3 (X4 (A0 (C1 (wV 0)) A2))) (A9 (Z3h 4 (wV 0) (wC (.str ""))) (A9 (D6 5 (wC (.int 0))) (A9 (Q6j (A5 (V8 fun i j=>decide (i<j)) (wV 5) (D4 F3 (A0 (wV 3) A2))) (A9 (D6 6 (A5 C8 (wV 3) (wV 5))) (A9 (K8 (K4 (Y4 dh 1 2 (A0 (wV 6) A2))) (F7 (Q1n 4 (wV 6))) K9) (A9 (X3 (Q3t (A0 (wC (.str "01ab")) A2)) (M6 2 (D7 (B7 7) (D7 (B7 8) N2))) (A9 (D6 9 (Y4 dh 2 1 (A0 (wV 6) (A0 (wV 7) A2)))) (K8 (Q5a 4 (wV 9)) (A9 (Q5b 4 (wV 9) (A5 N1 (Q1n 4 (wV 6)) (wV 8))) (R8 3 (C1 (wV 9)))) K9))) (Q4y 5 (Q5 NoC fun i j=>i+j) (wC (.int 1))))))) (F7 (wC .non))))))
section
variable [DecidableEq α]
variable {Φ2:Hp->Prop}{fw:F5}{step:α->Nat->α}{fin:α->Bool}{en:α->D}{key:α->B0}
abbrev tK (key:α->B0)(T:M (α×Str)):M (B0×D):=L4 key (T.map fun q=>(q.1,.str q.2))
def Y9s (inj:∀a b,key a=key b->a=b){T:M (α×Str)}(nd:(T.map (·.1)).Nodup){k:α}{t:Str}(h:(k,t)∈T):F4 (tK key T) (key k)=some (.str t):=by
 rw[Q1t inj];exact Z8v (by rw[Q7z];exact nd) (au.mpr ⟨_,h,rfl⟩)
def Z9z (dh:J9):WS:=(A9 (D6 9 (Y4 dh 2 1 (A0 (wV 6) (A0 (wV 7) A2)))) (K8 (Q5a 4 (wV 9)) (A9 (Q5b 4 (wV 9) (A5 N1 (Q1n 4 (wV 6)) (wV 8))) (R8 3 (C1 (wV 9)))) K9))
theorem Y3t (hk:∀a,N9 (en a)=some (key a))(inj:∀a b,key a=key b->a=b)(hF:FC 2 f Φ sp){U:M α}(hl:U.length<=100000){k:α}{t:Str}{E:J4}{o0 o2 o5:Ac Sl}:∀(cs:M (Nat×Str)) (T:M (α×Str)) (o7 o8 o9:Ac Sl),
  W6 U T->(k,t)∈T->(∀c∈cs,(step k c.1∈U/\c.2.length=1)/\sp [.st ((en k)),.st (iD c.1)] (.st ((en (step k c.1))))) ->
  (∀o7 o8 o9,E.nx [o0,some (.cl f Φ),o2,some (.own ((goT (step k) t cs T).map fun q=>(en q.1))),some (.dk (tK key (goT (step k) t cs T))),o5,some (.dat ((en k))),o7,o8,o9]) ->
  F6 (M6 2 (D7 (B7 7) (D7 (B7 8) N2))) (Z9z FC) E (cs.map fun p=>.tup [.int (p.1:Int),.str p.2]) [o0,some (.cl f Φ),o2,some (.own (T.map fun q=>(en q.1))),some (.dk (tK key T)),o5,some (.dat ((en k))),o7,o8,o9]
 |[],T,o7,o8,o9,_,_,_,h=>h o7 o8 o9
 |c::cs,T,o7,o8,o9,hI,hkt,hs,h=>by
  obtain⟨⟨hU,h1⟩,my⟩:=hs c am;have b:=hI.bound;have lX:=hI.add hU hkt h1;have sh:=(Z0n T (step k c.1) (t++c.2)).subset hkt;have b2:=lX.bound;have ih:=Y3t hk inj hF hl (k:=k) (t:=t) (E:=E) (o0:=o0) (o2:=o2) (o5:=o5) cs;have ck:=hI.len _ hkt;have ck:t.length<T.length:=ck;have hv:=Q1t inj (T.map fun q=>(q.1,D.str q.2)) (step k c.1);have hi:(F4 (tK key T) (key (step k c.1))).isSome=decide (step k c.1∈T.map (·.1)):=by rw[hv,Q9y,Q7z]
  rw[ar,F6];simp only[Z9z,Q0d,Q0b,Q0,Q0c,G2,N6,Q4t,C7,B8,C6,Q2d,Z7m,Z7n,Q3x,J8,Q3b,Q9q,E6];refine⟨_,rfl,rfl,_,_,rfl,_,_,rfl,rfl,f,Φ,sp,rfl,hF,_,rfl,_,rfl,rfl,_,my,?_⟩;rw[S8];refine⟨_,rfl,_,rfl,en (step k c.1),key (step k c.1),rfl,hk _,?_⟩;rw[hi]
  by_cases hm:step k c.1∈T.map (·.1)
  ·have ea:W7 T (step k c.1) (t++c.2)=T:=aQ hm;rw[aI (by simpa using hm)];refine ih T _ _ _ hI hkt (fun c' h'=>hs c' (ak _ h')) ?_;simpa only[goT,ea]using h
  ·have ea:W7 T (step k c.1) (t++c.2)=T++[(step k c.1,t++c.2)]:=aI hm;rw[aQ (by simpa using hm)];refine⟨_,rfl,_,rfl,en k,key k,_,rfl,hk _,Y9s inj hI.nd hkt,_,rfl,?_⟩;rw[P7,Y6o];refine⟨sz (by rw[h1];lia),_,rfl,_,rfl,_,rfl,en (step k c.1),key (step k c.1),rfl,hk _,T9 (by simp[L4];lia),_,rfl,_,rfl,_,rfl,T9 (by simp;lia),?_⟩;have e1:O5 (tK key T) (key (step k c.1)) (.str (t++c.2))=tK key (W7 T (step k c.1) (t++c.2)):=by
    rw[Q8x inj (by rw[Q7z];exact hm),ea];simp[tK]
   have e2:(T.map fun q=>en q.1)++[en (step k c.1)]=(W7 T (step k c.1) (t++c.2)).map fun q=>en q.1:=by rw[ea];simp
   show F6 _ _ _ _ [_,_,_,some (.own ((T.map fun q=>en q.1)++[en (step k c.1)])),some (.dk (O5 (tK key T) (key (step k c.1)) (.str (t++c.2)))),_,_,_,_,_];rw[e1,e2];exact ih _ _ _ _ lX sh (fun c' h'=>hs c' (ak _ h')) h
def Z3s:WT:=(A5 (V8 fun i j=>decide (i<j)) (wV 5) (D4 F3 (A0 (wV 3) A2)))
def Y0c (dh:J9):WS:=(A9 (D6 6 (A5 C8 (wV 3) (wV 5))) (A9 (K8 (K4 (Y4 dh 1 2 (A0 (wV 6) A2))) (F7 (Q1n 4 (wV 6))) K9) (A9 (X3 (Q3t (A0 (wC (.str "01ab")) A2)) (M6 2 (D7 (B7 7) (D7 (B7 8) N2))) (Z9z dh)) (Q4y 5 (Q5 NoC fun i j=>i+j) (wC (.int 1))))))
theorem V8i (hk:∀a,N9 (en a)=some (key a))(inj:∀a b,key a=key b->a=b)(hF:FC 2 f Φ sp)(jk:FC 1 f2 Φ2 fw){U:M α}(hl:U.length<=100000){E:J4} 
  (hU:∀k∈U,∀c∈B2,step k c∈U/\sp [.st ((en k)),.st (iD c)] (.st ((en (step k c))))) (lg:∀k∈U,fw [.st ((en k))] (.st (.bl (fin k)))):∀(n:Nat) (T:M (α×Str)) (p:Nat) (o6 o7 o8 o9:Ac Sl),W6 U T->U.length<=n+p ->
  (ftN step fin n T p=none->∀ τ,E.nx τ)->(∀t,ftN step fin n T p=some t->E.rt (.st (.str t))) ->
  K3 Z3s (Y0c FC) (n+1) E [o0,some (.cl f Φ),some (.cl f2 Φ2),some (.own (T.map fun q=>(en q.1))),some (.dk (tK key T)),some (.dat (iD p)),o6,o7,o8,o9]:=by
 intro n
 induction n with
 |zero=>
  intro T p o6 o7 o8 o9 hI hp h h2;have b:=hI.bound;simp only[K3,Z3s,E6,L8,C7,B8,C6];refine⟨_,rfl,_,rfl,?_⟩;simp only[P7,X0,Q1a,Q1l,ag];rw[aI (by simp;lia)];exact h rfl _
 |succ n ih=>
  intro T p o6 o7 o8 o9 hI hp h h2;have b:=hI.bound;rw[K3];simp only[Z3s,E6,L8,C7,B8,C6];refine⟨_,rfl,_,rfl,?_⟩;simp only[P7,X0,Q1a,Q1l,ag]
  by_cases bU:p<T.length
  ·rw[aQ (by simpa using bU)];have fW:T[p]?=some T[p]:=ac bU;have kin:=aY bU;generalize T[p]=q at fW kin;obtain⟨k,t⟩:=q;have l5:k∈U:=hI.sub _ kin;rw[ftN,fW]at h h2;simp only[Y0c,G2,N6,E6,B8,Q2d,Q3c,Q4t,C7,C6,T7,Q9q,Q3b,Q2c,Z2i,K1,Z7i];refine⟨_,rfl,_,rfl,?_⟩;rw[X0,P7,Q5y];refine⟨(en k),Y9 (by rw[ah,fW];rfl),f2,Φ2,fw,rfl,jk,_,rfl,rfl,_,lg k l5,?_⟩;rw[Q1x]
   by_cases hf:fin k=true
   ·rw[aQ hf];have h2:=h2 t (by show(if fin k=true then some t else _)=_;rw[aQ hf]);refine⟨_,rfl,_,rfl,en k,key k,_,rfl,hk _,Y9s inj hI.nd kin,h2⟩
   ·rw[aI hf];simp only[hf]at h h2;refine .inl ⟨_,rfl,?_⟩;rw[enm4];refine Y3t hk inj hF hl V9 T _ _ _ hI kin (fun c hc=>⟨⟨(hU k l5 c.1 (Q0t hc).1).1,(Q0t hc).2⟩,(hU k l5 c.1 (Q0t hc).1).2⟩) fun o7 o8 o9=>?_;refine⟨_,rfl,trivial,?_⟩;have e:((p:Int)+1)=((p+1:Nat):Int):=by lia
    show K3 Z3s (Y0c FC) (n+1) E [_,_,_,_,_,some (.dat (.int ((p:Int)+1))),_,_,_,_];rw[e];exact ih _ _ _ _ _ _ (W6.go V9 T hI kin fun c hc=>⟨(hU k l5 c.1 (Q0t hc).1).1,(Q0t hc).2⟩) (by lia) h h2
  ·rw[aI (by simpa using bU)];have e:T[p]?=none:=aF.mpr (by lia);exact h (by rw[ftN,e]) _
end
def Q7v (FC:J9):F5:=fun rs r=>∃(α:Type) (_:DecidableEq α) (en:α->D) (key:α->B0) (step:α->Nat->α) (start:α) (fin:α->Bool) (U:M α) (f f2:Af) (Φ Φ2:Hp->Prop) (sp fw:F5),
 (∀a,N9 (en a)=some (key a))/\(∀a b,key a=key b->a=b)/\rs=[.st ((en start)),.cl f Φ,.cl f2 Φ2]/\FC 2 f Φ sp/\FC 1 f2 Φ2 fw/\start∈U/\U.length<=100000/\(∀k∈U,∀c∈B2,step k c∈U/\sp [.st ((en k)),.st (iD c)] (.st ((en (step k c))))) /\
 (∀k∈U,fw [.st ((en k))] (.st (.bl (fin k))))/\r=.st (sD (Z6 U.length step start fin))
theorem V3o:∀rs r,rs.length=3->Q7v FC rs r->Z9q FC (Y7 r) (D8 W3g rs):=by
 rintro rs r _ ⟨α,_,en,key,step,kB,fin,U,f,f2,Φ,Φ2,sp,fw,hk,inj,rfl,hF,jk,hs,hl,hU,lg,rfl⟩;unfold Z9q;simp only[G2,N6,s_lst,C7,J8,B8,C6,Y8g,K1,T7];refine⟨_,rfl,_,rfl,sz ?G,?_⟩;refine⟨(?K:4<10),_,rfl,en kB,key kB,rfl,hk _,_,rfl,?_⟩;rw[S8];refine⟨U.length+1,?_⟩;refine V8i hk inj hF jk hl hU lg U.length [(kB,"")] 0 _ _ _ _ (Z8u hs) (by lia) (fun e τ=>?_) (fun t e=>?_)
 ·show R.st .non=.st (sD (Z6 _ _ _ _));unfold Z6;rw[e]
 ·show R.st (.str t)=.st (sD (Z6 _ _ _ _));unfold Z6;rw[e]
abbrev G5 (x y:Bool):Bool:=x&&!y
abbrev M5 (x y:Bool):Bool:=x&&y
abbrev Q0w (x y:Bool):Bool:=x != y
abbrev gOr (x y:Bool):Bool:=x||y
def F8 (g:Bool->Bool->Bool)(m1 m2:F9):Ac Str:=Z6 (PU m1 m2).length (Q0n m1 m2) (0,0) (Q2z g m1 m2)
structure Two (m1 m2:F9):Prop where
 w1:C5 m1
 w2:C5 m2
 le:m1.1.length*m2.1.length<=20000
def Two.swap (h:Two m1 m2):Two m2 m1:=⟨h.w2,h.w1,by rw[Nat.mul_comm];exact h.le⟩
def sp_first_of_both (dY:J9):D5:=fun rs Pr=>∃m1 m2 f Φ sp g,rs=[.st (mD m1),.st (mD m2),.cl f Φ]/\Two m1 m2/\dY 2 f Φ sp/\Q3i Φ/\Q1p g sp/\Pr (.st (sD (F8 g m1 m2)))
def Z6p:V5 (sp_first_of_both dY):=by rintro rs P Q q ⟨m1,m2,f,Φ,sp,g,e,h1,h2,h3,h4,h5⟩;exact⟨m1,m2,f,Φ,sp,g,e,h1,h2,h3,h4,q _ h5⟩
def V3m:∀rs Pr,rs.length=3->sp_first_of_both dY rs Pr->Z9o (sp_first_text dh) (sp_pair_step dh) (sp_pair_end dY dh) (N8 Pr) (D8 W3e rs):=by
 rintro rs Pr _ ⟨m1,m2,f,Φ,sp,g,rfl,⟨w1,w2,hl⟩,hF,hH,ht,h⟩;unfold Z9o;simp only[T7,Q0a,R0,C7,s_tup,J8,K1,C6,B8];refine⟨_,rfl,sz ?G,_,rfl,_,rfl,rfl,m1,m2,rfl,w1,w2,fun f1 Φ1 sp1 sO oa=>?_⟩;refine⟨_,rfl,_,rfl,_,rfl,rfl,m1,m2,f,Φ,sp,g,rfl,w1,w2,hF,hH,ht,fun f2 Φ2 fw jk kP=>?_⟩;refine⟨rfl,_,⟨Nat×Nat,inferInstance,pT,pK,Q0n m1 m2,(0,0),Q2z g m1 m2,PU m1 m2,f1,f2,Φ1,Φ2,sp1,fw,fun _=>rfl,Y6v,rfl,sO,jk,Q5e w1 w2,by unfold PU;rw[Z6w];omega,fun k hk c hc=>⟨Q4r w1 w2 hk hc,oa k hk c hc⟩,kP,rfl⟩,h⟩
def spB (g:Bool->Bool->Bool):D5:=fun rs Pr=>∃m1 m2,rs=[.st (mD m1),.st (mD m2)]/\Two m1 m2/\Pr (.st (sD (F8 g m1 m2)))
def Q2y:V5 (spB g):=fun rs P Q q⟨m1,m2,e,h1,h2⟩=>⟨m1,m2,e,h1,q _ h2⟩
def V7o:Q1p G5 (G6 Z0d []):=by
 intro x y;refine⟨[.bl x,.bl y],_,rfl,rfl,?_⟩;cases x<;>cases y<;>simp[Z0d]
def V7l:Q1p M5 (G6 Z0c []):=by
 intro x y;refine⟨[.bl x,.bl y],_,rfl,rfl,?_⟩;cases x<;>cases y<;>simp[Z0c]
def V7p:Q1p Q0w (G6 Z0e []):=by
 intro x y;refine⟨[.bl x,.bl y],_,rfl,rfl,?_⟩;cases x<;>cases y<;>simp[Z0e]
def V7k:Q1p gOr (G6 Z0b []):=by
 intro x y;refine⟨[.bl x,.bl y],_,rfl,rfl,?_⟩;cases x<;>cases y<;>simp[Z0b]
def V7j:Q1p M5 (G6 Z0a []):=by
 intro x y;refine⟨[.bl x,.bl y],_,rfl,rfl,?_⟩;cases x<;>cases y<;>simp[Z0a]
def rdB {wl:WE}(ht:Q1p g (G6 wl [])):∀rs Pr,rs.length=2->spB g rs Pr->(F7 (B9 (sp_first_of_both dY) (A0 (wV 0) (A0 (wV 1) (A0 (Q4b dY 2 (G6 wl [])) A2))))) (N8 Pr) (D8 ["one","other"] rs):=by
 rintro rs Pr _ ⟨m1,m2,rfl,h2,h⟩;simp only[T7,R0,C7,C6,B8,Y8h];refine⟨_,rfl,_,rfl,fun f Φ hF hH=>?_⟩;exact⟨rfl,m1,m2,f,Φ,_,g,rfl,h2,hF,hH,ht,h⟩
def V4a:∀rs Pr,rs.length=2->spB G5 rs Pr->W0w dY (sp_first_of_both dY) (N8 Pr) (D8 W3o rs):=rdB V7o
def V3v:∀rs Pr,rs.length=2->spB M5 rs Pr->W0t dY (sp_first_of_both dY) (N8 Pr) (D8 W3n rs):=rdB V7l
def V4e:∀rs Pr,rs.length=2->spB Q0w rs Pr->W0y dY (sp_first_of_both dY) (N8 Pr) (D8 W3q rs):=rdB V7p
def sp_within:D5:=fun rs Pr=>∃m1 m2,rs=[.st (mD m1),.st (mD m2)]/\Two m1 m2/\Pr (.st (.bl (F8 G5 m1 m2).isNone))
def Q1k:V5 sp_within:=by rintro rs P Q q ⟨m1,m2,e,h1,h2⟩;exact⟨m1,m2,e,h1,q _ h2⟩
theorem Q8w {o:Ac Str}{Q:Bool->Prop}(h:Q o.isNone):Y1 false (.st (sD o)) (.st .non) Q:=by
 rw[V0k];cases o with
 |none=>exact⟨_,rfl,rfl,h⟩
 |some t=>exact⟨_,rfl,rfl,h⟩
def V4h:∀rs Pr,rs.length=2->sp_within rs Pr->W0z (spB G5) (N8 Pr) (D8 W3t rs):=by
 rintro rs Pr _ ⟨m1,m2,rfl,h2,h⟩;unfold W0z;simp only[T7,s_b,E6,R0,C7,C6,B8,K1];exact⟨_,rfl,_,rfl,rfl,m1,m2,rfl,h2,Q8w h⟩
def Q7m (m1 m2:F9):Str:=if (F8 Q0w m1 m2).isNone then "same" else if (F8 G5 m1 m2).isNone then "less" else if (F8 G5 m2 m1).isNone then "more" else if (F8 M5 m1 m2).isNone then "apart" else "cross"
def Q7x:D5:=fun rs Pr=>∃m1 m2,rs=[.st (mD m1),.st (mD m2)]/\Two m1 m2/\Pr (.st (.str (Q7m m1 m2)))
def Y6a:V5 Q7x:=by rintro rs P Q q ⟨m1,m2,e,h1,h2⟩;exact⟨m1,m2,e,h1,q _ h2⟩
def V3t:∀rs Pr,rs.length=2->Q7x rs Pr->W0o (spB Q0w) sp_within (spB M5) (N8 Pr) (D8 W3h rs):=by
 rintro rs Pr _ ⟨m1,m2,rfl,h2,h⟩;unfold W0o;simp only[G2,Q2d,T7,E6,R0,C7,C6,B8,K1,Q3c,Q3b,V5b];unfold Q7m at h;refine⟨_,rfl,_,rfl,rfl,m1,m2,rfl,h2,Q8w ?_⟩;split
 ·rename_i e;rw[aQ e]at h;exact h
 ·rename_i e;rw[aI e]at h;refine⟨_,rfl,_,rfl,rfl,m1,m2,rfl,h2,?_⟩;show Q3f (.st (.bl _)) _;rw[Q1x];split
  ·rename_i e;rw[aQ e]at h;exact h
  ·rename_i e;rw[aI e]at h;refine⟨_,rfl,_,rfl,rfl,m2,m1,rfl,h2.swap,?_⟩;show Q3f (.st (.bl _)) _;rw[Q1x];split
   ·rename_i e;rw[aQ e]at h;exact h
   ·rename_i e;rw[aI e]at h;refine⟨_,rfl,_,rfl,rfl,m1,m2,rfl,h2,Q8w ?_⟩;split
    ·rename_i e;rw[aQ e]at h;exact h
    ·rename_i e;rw[aI e]at h;exact h
def spS (g:Bool->Bool->Bool):D5:=fun rs Pr=>∃m1 m2,rs=[.st (mD m1),.st (mD m2)]/\Two m1 m2/\Pr (.st (mD (Y3 g m1 m2)))
def Z6o:V5 (spS g):=fun rs P Q q⟨m1,m2,e,h1,h2⟩=>⟨m1,m2,e,h1,q _ h2⟩
def rdS2 {wl:WE}(ht:Q1p g (G6 wl [])):∀rs Pr,rs.length=2->spS g rs Pr->(F7 (B9 (Q4u dY) (A0 (wV 0) (A0 (wV 1) (A0 (Q4b dY 2 (G6 wl [])) A2))))) (N8 Pr) (D8 ["one","other"] rs):=by
 rintro rs Pr _ ⟨m1,m2,rfl,h2,h⟩;simp only[T7,R0,C7,C6,B8,Y8h];refine⟨_,rfl,_,rfl,fun f Φ hF hH=>?_⟩;exact⟨rfl,m1,m2,f,Φ,_,g,rfl,h2.w1,h2.w2,h2.le,hF,hH,ht,h⟩
def V3l:∀rs Pr,rs.length=2->spS gOr rs Pr->W0n dY (Q4u dY) (N8 Pr) (D8 W3d rs):=rdS2 V7k
def V3f:∀rs Pr,rs.length=2->spS M5 rs Pr->W0k dY (Q4u dY) (N8 Pr) (D8 W3c rs):=rdS2 V7j
abbrev scr (ns:M Int):D:=.lst (ns.map D.int)
def Q3p (ns:M Int)(k:Int):Int:=if ns=[]then 7*k else(ns[(k % (ns.length:Int)).toNat]?.getD 0)+6553*(k / (ns.length:Int))
def Z7w:F5:=fun rs r=>∃ns k,rs=[.st (scr ns),.st (.int k)]/\ns.length<=63/\r=.st (.int (Q3p ns k))
theorem W5q (ns:M Int):D.depth (scr ns)<=60:=by induction ns<;>grind [Dqdepths,D.depth]
theorem W4f {k:Int}(h:ns≠[]):N5 (ns.map D.int) (k % (ns.length:Int))=some (.int (ns[(k % (ns.length:Int)).toNat]?.getD 0)):=by
 have hp:0<(ns.length:Int):=by have:=tw.mpr h;lia
 have h0:=eG k (by lia:(ns.length:Int)≠0);have h1:=dz k hp;have bU:(k % (ns.length:Int)).toNat<ns.length:=by lia
 have e:k % (ns.length:Int)=(((k % (ns.length:Int)).toNat:Nat):Int):=by lia
 have q:N5 (ns.map D.int) (((k % (ns.length:Int)).toNat:Nat):Int)=some (.int (ns[(k % (ns.length:Int)).toNat]?.getD 0)):=Y9 (by rw[ah,ac bU];rfl);rw[<-e]at q;exact q
theorem V3h:∀rs r,rs.length=2->Z7w rs r->Z9r (Y7 r) (D8 W3j rs):=by
 rintro rs r _ ⟨ns,k,rfl,hn,rfl⟩;have hd:=W5q ns
 by_cases h:ns=[]
 ·subst h;simp[Z9r,Q4c,Q3p,hd,D.depth,Dqdepths]
 ·have hp:0<(ns.length:Int):=by have:=tw.mpr h;lia
  simp[Z9r,Q4c,Q2h,Q3p,hd,h,W4f h];lia
def Q0v (ns:M Int)(k m:Int):Int:=
 let c:=((Q3p ns k) % 2147483563*69069+104723*(k+1)) % 2147483563;let c:=(c*c+c / 3) % 2147483399
 (c*c+c / 7) % 2147483647 / 11 % m
def Z7x:F5:=fun rs r=>∃ns k m,rs=[.st (scr ns),.st (.int k),.st (.int m)]/\ns.length<=63/\0<m/\r=.st (.int (Q0v ns k m))
theorem V3k:∀rs r,rs.length=3->Z7x rs r->W0q Z7w (Y7 r) (D8 W3k rs):=by
 rintro rs r _ ⟨ns,k,m,rfl,hn,hm,rfl⟩;have key:∀c:Int,0<=c->c<2147483648->Q4c c c:=fun c h1 h2=>.inl ⟨by lia,by lia⟩;simp[W0q,Z7w,hm,hn];refine⟨_,⟨ns,k,⟨rfl,rfl⟩,hn,rfl⟩,?_⟩;have e1:=eG (Q3p ns k) (?K:(2147483563:Int)≠0);have e2:=dz (Q3p ns k) (?K:(0:Int)<2147483563);have b1:=eG (Q3p ns k % 2147483563*69069+104723*(k+1)) (?K:(2147483563:Int)≠0);have b2:=dz (Q3p ns k % 2147483563*69069+104723*(k+1)) (?K:(0:Int)<2147483563);simp only[V0j,Y6q,Q4q,S8,P7,V0o,V0i,Q0v];generalize (Q3p ns k % 2147483563*69069+104723*(k+1)) % 2147483563=c at b1 b2 ⊢;have b3:=eG (c*c+c / 3) (?K:(2147483399:Int)≠0);have b4:=dz (c*c+c / 3) (?K:(0:Int)<2147483399);generalize (c*c+c / 3) % 2147483399=c2 at b3 b4 ⊢;have cd:∀c:Int,Q2h c 3/\Q2h c 7/\Q2h c 11:=fun c=>⟨⟨?K,?K⟩,⟨?K,?K⟩,⟨?K,?K⟩⟩
 exact⟨?K,.inl ⟨by lia,by lia⟩,.inl ⟨?K,?K⟩,?K,key _ b1 (by lia),(cd c).1,?K,key _ b3 (by lia),(cd c2).2.1,?K,(cd _).2.2,hm,trivial⟩
theorem W5u (ns:M Int)(k:Int){m:Int}(h:0<m):0<=Q0v ns k m:=eG _ (by lia)
def W5t (ns:M Int)(k:Int){m:Int}(h:0<m):Q0v ns k m<m:=dz _ h
def drN (ns:M Int)(k:Int)(m:Nat):Nat:=(Q0v ns k (m:Int)).toNat
theorem Z4y (ns:M Int)(k:Int){m:Nat}(h:0<m):Q0v ns k (m:Int)=(drN ns k m:Int):=by
 have:=W5u ns k (m:=(m:Int)) (by lia);unfold drN;lia
theorem Z4z (ns:M Int)(k:Int){m:Nat}(h:0<m):drN ns k m<m:=by
 have:=W5t ns k (m:=(m:Int)) (by lia);have:=Z4y ns k h;lia
def W3 (ns:M Int)(at_:Int)(most:Nat):Nat:=1+drN ns at_ most
def P4 (ns:M Int)(at_:Int)(most:Nat):F9:=
 ((List.range (W3 ns at_ most)).map fun(k:Nat)=>decide (Q0v ns (at_+1+(k:Int)) 2=0),(List.range (W3 ns at_ most)).map fun(k:Nat)=>B2.map fun(j:Nat)=>drN ns (at_+7+4*(k:Int)+(j:Int)) (W3 ns at_ most))
def Z6e (ns:M Int)(at_:Int)(most:Nat):(P4 ns at_ most).1.length=W3 ns at_ most:=by simp[P4]
theorem Z6d (ns:M Int)(at_:Int){most:Nat}(h:0<most):(P4 ns at_ most).1.length<=most:=by
 rw[Z6e];unfold W3;have:=Z4z ns at_ h;lia
theorem Z6f (ns:M Int)(at_:Int){most:Nat}(h:0<most):C5 (P4 ns at_ most):=by
 have hp:0<W3 ns at_ most:=by unfold W3;lia
 refine⟨by simp[P4],by rw[Z6e];exact hp,fun r hr=>?_,fun r hr x hx=>?_⟩
 ·obtain⟨k,_,rfl⟩:=au.mp hr;rfl
 ·obtain⟨k,_,rfl⟩:=au.mp hr;obtain⟨j,_,rfl⟩:=au.mp hx;rw[Z6e];exact Z4z ns _ hp
theorem Y7y (ns:M Int)(hn:ns.length<=63)(at_:Int)  (h0:0<n){E:J4}:∀(l:M Nat) (ds:M D) (o6:Ac Sl),ds.length+l.length<=1000 ->
  (∀o6,E.nx [some (.dat (scr ns)),some (.dat (.int at_)),o2,some (.dat (iD n)),o4,some (.own (ds++l.map fun(k:Nat)=>rD (B2.map fun(j:Nat)=>drN ns (at_+7+4*(k:Int)+(j:Int)) n))),o6]) ->
  F6 (B7 6) (R8 5 (C1 (D4 T0 (A0 (X2 1 [0,3,1,6] (Q7g (A0 (wC (.int 4)) A2)) (B7 0) X1 (C1 (N4 Z7x (A0 (wV 1) (A0 (A5 N1 (A5 N1 (A5 N1 (wV 3) (wC (.int 7))) (A5 Q0l (wC (.int 4)) (wV 4))) (wV 0)) (A0 (wV 2) A2)))))) A2))))
   E (l.map iD) [some (.dat (scr ns)),some (.dat (.int at_)),o2,some (.dat (iD n)),o4,some (.own ds),o6]
 |[],ds,o6,_,h=>by simpa [F6]using h o6
 |k::l,ds,o6,hz,h=>by
  rw[aN]at hz;have e4:V2 0 (Int.toNat 4)=B2.map iD:=rfl;rw[ar,F6];simp only[Q0,Q3x,J8,L8,C7,Q2b,Z2j,K1,C6];refine⟨_,rfl,_,rfl,?K,?K,by rw[e4];exact sz ?G,?_⟩;rw[e4];refine Q3q (f:=fun d=>match d with |.int j=>iD (drN ns (at_+7+4*(k:Int)+j) n) |d=>d) _ _ _ (fun d hd Q' q=>?_) ?_
  ·obtain⟨j,_,rfl⟩:=au.mp hd;simp only[J8,Q0a,C7,B8,E6,K1,C6];refine⟨_,rfl,_,rfl,_,rfl,?_⟩;show Q0l (R.st (.int 4)) (R.st (.int (k:Int))) _;rw[Y6q];refine⟨.inl ⟨?K,?K⟩,?_⟩;rw[Q4q];k_ne;rw[P7,Q4q];refine⟨_,rfl,rfl,_,⟨ns,at_+7+4*(k:Int)+(j:Int),(n:Int),rfl,hn,by lia,rfl⟩,?_⟩;rw[Z4y ns _ h0];exact q
  ·rw[Q1y];refine⟨_,rfl,_,rfl,T9 (by lia),?_⟩;have e:(B2.map iD).map (fun d=>match d with |.int j=>iD (drN ns (at_+7+4*(k:Int)+j) n) |d=>d)=(B2.map fun(j:Nat)=>drN ns (at_+7+4*(k:Int)+(j:Int)) n).map iD:=by rfl
   rw[e];refine Y7y ns hn at_ h0 l (ds++[rD (B2.map fun(j:Nat)=>drN ns (at_+7+4*(k:Int)+(j:Int)) n)]) _ (by simp;lia) fun o6=>?_;simpa using h o6
def Y8z:F5:=fun rs r=>∃ns at_ most,rs=[.st (scr ns),.st (.int at_),.st (iD most)]/\ns.length<=63/\0<most/\most<=50/\r=.st (mD (P4 ns at_ most))
theorem V3u:∀rs r,rs.length=3->Y8z rs r->W0r Z7x (Y7 r) (D8 Z4c rs):=by
 rintro rs r _ ⟨ns,at_,most,rfl,hn,h0,h1,rfl⟩;have hN:1+Q0v ns at_ (most:Int)=(W3 ns at_ most:Int):=by rw[Z4y ns at_ h0];unfold W3;lia
 have hp:0<W3 ns at_ most:=by unfold W3;lia
 have js:W3 ns at_ most<=50:=by unfold W3;have:=Z4z ns at_ h0;lia
 have er:V2 0 (W3 ns at_ most:Int).toNat=(List.range (W3 ns at_ most)).map iD:=by simp[V2]
 unfold W0r;simp only[G2,N6,E6,K1,Q0a,C7,B8,C6,L8,Q2b,Z2j,s_lst,Q2c,Z7l,T7,s_tup,J8];refine⟨_,rfl,_,rfl,_,rfl,rfl,_,⟨ns,at_,(most:Int),rfl,hn,by lia,rfl⟩,?_⟩;rw[Q4q,hN,S8];refine⟨_,rfl,_,rfl,by lia,by lia,?_⟩;rw[er];refine⟨sz (by simp;lia),?_⟩;refine Q3q (f:=fun d=>match d with |.int k=>.bl (decide (Q0v ns (at_+1+k) 2=0)) |d=>d) _ _ _ (fun d hd Q' q=>?_) ?_
 ·obtain⟨k,_,rfl⟩:=au.mp hd;simp only[J8,s_b,E6,Q0a,C7,B8,K1,C6];refine⟨_,rfl,_,rfl,?_⟩;show N1 (R.st _) (R.st _) _;rw[Q4q];k_ne;rw[P7,Q4q];refine⟨rfl,_,⟨ns,at_+1+(k:Int),2,rfl,hn,?K,rfl⟩,?_⟩;rw[Z6s];refine⟨_,_,rfl,rfl,by simp[D.depth],?_⟩;simp only[o_e1,cm,gF];have e:(Q0v ns (at_+1+(k:Int)) 2==0)=decide (Q0v ns (at_+1+(k:Int)) 2=0):=by
   by_cases h:Q0v ns (at_+1+(k:Int)) 2=0
   ·rw[cH h,h];rfl
   ·rw[aT h];exact cc.mpr h
  rw[e];exact q
 ·rw[Q1y];k_ne;rw[S8];refine⟨_,rfl,sz ?G,_,rfl,_,rfl,by lia,by lia,?_⟩;rw[er];refine Y7y ns hn at_ hp (List.range (W3 ns at_ most)) [] _ (by simp;lia) fun o6=>?_;refine⟨_,rfl,_,rfl,?_⟩;simp only[C6,X0,Q1y];refine⟨_,rfl,_,rfl,sz ?G,?_⟩;show R.st _=R.st _;have e1:((List.range (W3 ns at_ most)).map iD).map (fun d=>match d with |.int k=>D.bl (decide (Q0v ns (at_+1+k) 2=0)) |d=>d)=(P4 ns at_ most).1.map .bl:=by
   unfold P4;rw[aM,aM];rfl
  have e2:(List.range (W3 ns at_ most)).map (fun(k:Nat)=>rD (B2.map fun(j:Nat)=>drN ns (at_+7+4*(k:Int)+(j:Int)) (W3 ns at_ most)))=(P4 ns at_ most).2.map rD:=by
   unfold P4;rw[aM];rfl
  rw[cq,e1,e2]
theorem Z5j [DecidableEq α]{st:Nat->α}{t:Str}:∀(cs:M (Nat×Str)) (T:M (α×Str)),T <+: goT st t cs T
 |[],T=>bC _
 |c::cs,T=>(Z0n _ _ _).trans (Z5j cs _)
def Q9s {P:M Nat->Prop}(h0:P [])(hs:∀w c,P w->P (w++[c]))(w:M Nat):P w:=by
 have:∀w:M Nat,P w.reverse:=by
  intro w
  induction w with
  |nil=>exact h0
  |cons c w ih=>rw[List.reverse_cons];exact hs _ _ ih
 have:=this w.reverse;rwa[eB]at this
def run (step:α->Nat->α)(k:α)(w:M Nat):α:=w.foldl step k
theorem Q4s (step:α->Nat->α)(k:α)(u w:M Nat):run step k (u++w)=run step (run step k u) w:=iC
def B1 (w:M Nat):Prop:=∀c∈w,c∈B2
def B1.nil:B1 []:=fun c h=>by cases h
def B1.app {u w:M Nat}(h1:B1 u)(h2:B1 w):B1 (u++w):=fun c h=>(aH.mp h).elim (h1 c) (h2 c)
def B1.snoc {u:M Nat}  (h1:B1 u)(h2:c∈B2):B1 (u++[c]):=h1.app fun d hd=>by rw[aG.mp hd];exact h2
def W4 (c:Nat):Str:=match c with
 |0=>"0"
 |1=>"1"
 |2=>"a"
 |_=>"b"
def G7 (w:M Nat):Str:=w.foldl (fun t c=>t++W4 c) ""
def Y9u (w:M Nat)(c:Nat):G7 (w++[c])=G7 w++W4 c:=by unfold G7;rw[iC];rfl
def W5d {c:Nat×Str}(h:c∈V9):c.2=W4 c.1:=by
 simp only[V9,av,aU,bM]at h;rcases h with rfl |rfl |rfl |rfl<;>rfl
section
variable [DecidableEq α]
structure FtI (step:α->Nat->α)(start:α)(fin:α->Bool)(U:M α)(T:M (α×Str))(p:Nat):Prop where
 ti:W6 U T
 zero:start∈T.map (·.1)
 word:∀q∈T,∃w,B1 w/\q.1=run step start w/\q.2=G7 w
 past:∀i,i<p->∀q,T[i]?=some q->fin q.1=false/\∀c∈B2,step q.1 c∈T.map (·.1)
theorem Y5o {st:Nat->α}{t:Str}{q:α×Str}:∀(cs:M (Nat×Str)) (T:M (α×Str)),q∈goT st t cs T->q∈T\/∃c∈cs,q=(st c.1,t++c.2)
 |[],T,h=>.inl h
 |c::cs,T,h=>by
  rcases Y5o cs _ h with h |⟨c',h1,h2⟩
  ·unfold W7 at h;split at h
   ·exact .inl h
   ·rcases aH.mp h with h |h
    ·exact .inl h
    ·exact .inr ⟨c,by simp,aG.mp h⟩
  ·exact .inr ⟨c',by simp[h1],h2⟩
theorem Y4a {st:Nat->α}{t:Str}:∀(cs:M (Nat×Str)) (T:M (α×Str)),∀c∈cs,st c.1∈(goT st t cs T).map (·.1)
 |[],T,c,h=>by cases h
 |d::cs,T,c,h=>by
  rw[goT];rcases av.mp h with rfl |h
  ·have:st c.1∈(W7 T (st c.1) (t++c.2)).map (·.1):=by
    unfold W7;split
    ·assumption
    ·simp
   obtain⟨q,hq,e⟩:=au.mp this;exact au.mpr ⟨q,(Z5j cs _).subset hq,e⟩
  ·exact Y4a cs _ c h
def W5e (h:c∈B2):∃s,(c,s)∈V9:=by
 simp only[B2,av,aU,bM]at h;rcases h with rfl |rfl |rfl |rfl<;>exact⟨_,by simp[V9];rfl⟩
theorem FtI.next {step:α->Nat->α}{start:α}{fin:α->Bool}{U:M α}{T:M (α×Str)}{p:Nat}{k:α}{t:Str}(hU:∀k∈U,∀c∈B2,step k c∈U)(F:FtI step start fin U T p)(hp:T[p]?=some (k,t))(hf:fin k=false):
  FtI step start fin U (goT (step k) t V9 T) (p+1):=by
 have kin:=az hp;have pre:=Z5j (st:=step k) (t:=t) V9 T;have mono:∀x,x∈T.map (·.1)->x∈(goT (step k) t V9 T).map (·.1):=fun x hx=>by
  obtain⟨q,hq,e⟩:=au.mp hx;exact au.mpr ⟨q,pre.subset hq,e⟩
 refine⟨W6.go V9 T F.ti kin fun c hc=>⟨hU k (F.ti.sub _ kin) _ (Q0t hc).1,(Q0t hc).2⟩,mono _ F.zero,fun q hq=>?_,fun i hi q hq=>?_⟩
 ·rcases Y5o V9 T hq with h |⟨c,hc,rfl⟩
  ·exact F.word q h
  ·obtain⟨w,h1,h2,h3⟩:=F.word _ kin;refine⟨w++[c.1],h1.snoc (Q0t hc).1,?_,?_⟩
   ·rw[Q4s,<-h2];rfl
   ·rw[Y9u,<-W5d hc];have h3:t=G7 w:=h3;rw[<-h3]
 ·obtain⟨add,jZ⟩:=pre;have hpl:p<T.length:=by obtain⟨h,_⟩:=aJ.mp hp;exact h
  rw[<-jZ,aB (by lia)]at hq;rcases bf i p with h |h
  ·obtain⟨h1,h2⟩:=F.past i h q hq;exact⟨h1,fun c hc=>mono _ (h2 c hc)⟩
  ·have:i=p:=by lia
   subst this;rw[hp]at hq;cases hq;refine⟨hf,fun c hc=>?_⟩;obtain⟨s,hs⟩:=W5e hc;exact Y4a V9 T _ hs
theorem W6i {step:α->Nat->α}{start:α}{fin:α->Bool}{U:M α}(hU:∀k∈U,∀c∈B2,step k c∈U):∀(n:Nat) (T:M (α×Str)) (p:Nat),FtI step start fin U T p->U.length<=n+p ->
  (ftN step fin n T p=none->∀w,B1 w->fin (run step start w)=false)/\(∀t,ftN step fin n T p=some t->∃w,B1 w/\t=G7 w/\fin (run step start w)=true):=by
 have done:∀(T:M (α×Str)) (p:Nat),FtI step start fin U T p->T.length<=p->∀w,B1 w->fin (run step start w)=false:=by
  intro T p F hl w hw;have all:∀w,B1 w->run step start w∈T.map (·.1):=by
   refine Q9s ?_ ?_
   ·exact fun _=>F.zero
   ·intro w c ih hw;obtain⟨q,hq,e⟩:=au.mp (ih fun d hd=>hw d (by simp[hd]));obtain⟨i,hi,e2⟩:=be.mp hq;have:=(F.past i (by lia) q (by rw[ac hi,e2])).2 c (hw c ?G);rw[Q4s,<-e];exact this
  obtain⟨q,hq,e⟩:=au.mp (all w hw);obtain⟨i,hi,e2⟩:=be.mp hq;have:=(F.past i (by lia) q (by rw[ac hi,e2])).1;rw[<-e];exact this
 intro n
 induction n with
 |zero=>
  intro T p F h;have b:=F.ti.bound;exact⟨fun _=>done T p F (by lia),fun t e=>by cases e⟩
 |succ n ih=>
  intro T p F h;rw[ftN];split
  ·rename_i e;have:=aF.mp e;exact⟨fun _=>done T p F this,fun t e=>by cases e⟩
  ·rename_i q e;obtain⟨k,t⟩:=q
   by_cases hf:fin k=true
   ·simp only[hf,pk];refine⟨fun z=>by(cases z),fun t' e'=>?_⟩;cases e';obtain⟨w,h1,h2,h3⟩:=F.word _ (az e);exact⟨w,h1,h3,by rw[<-h2];exact hf⟩
   ·have oF:fin k=false:=by simpa using hf
    simp only[oF,gF,cm];exact ih _ _ (F.next hU e oF) (by lia)
theorem Y3q {step:α->Nat->α}{start:α}{fin:α->Bool}{U:M α}(hU:∀k∈U,∀c∈B2,step k c∈U)(hs:start∈U):
  (Z6 U.length step start fin=none->∀w,B1 w->fin (run step start w)=false)/\(∀t,Z6 U.length step start fin=some t->∃w,B1 w/\t=G7 w/\fin (run step start w)=true):=
 W6i hU U.length _ 0 ⟨Z8u hs,by simp,fun q hq=>⟨[],B1.nil,by rw[aG.mp hq];rfl,by rw[aG.mp hq];rfl⟩,fun i hi=>by lia⟩ (by lia)
end
def stW (m:F9)(w:M Nat):Nat:=run (C3 m.2) 0 w
def B4 (m:F9)(w:M Nat):Bool:=m.1.getD (stW m w) false
def V6p (wf:C5 m):∀w,B1 w->stW m w<m.1.length:=by
 refine Q9s ?_ ?_
 ·exact fun _=>wf.pos
 ·intro w c ih hw;have h:=ih fun d hd=>hw d (by simp[hd]);obtain⟨_,_,_,g⟩:=wf.row h;unfold stW at h ⊢;rw[Q4s];exact(g c (Q0u (hw c ?G))).2
theorem prun (m1 m2:F9):∀(w:M Nat) (p:Nat×Nat),run (Q0n m1 m2) p w=(run (C3 m1.2) p.1 w,run (C3 m2.2) p.2 w)
 |[],p=>rfl
 |c::w,p=>prun m1 m2 w (Q0n m1 m2 p c)
def Q9l (g:Bool->Bool->Bool)(m1 m2:F9)(w:M Nat):Q2z g m1 m2 (run (Q0n m1 m2) (0,0) w)=g (B4 m1 w) (B4 m2 w):=by rw[prun];rfl
def Q3r (w1:C5 m1)(w2:C5 m2):F8 g m1 m2=none ↔ ∀w,B1 w->g (B4 m1 w) (B4 m2 w)=false:=by
 have S:=Y3q (fin:=Q2z g m1 m2) (fun k hk c hc=>Q4r w1 w2 hk hc) (Q5e w1 w2);constructor
 ·intro h w hw;rw[<-Q9l g];exact S.1 h w hw
 ·intro h;cases e:F8 g m1 m2 with
  |none=>rfl
  |some t=>
   obtain⟨w,h1,_,h2⟩:=S.2 t e;rw[Q9l,h w h1]at h2;cases h2
def W0e (w1:C5 m1)(w2:C5 m2):F8 Q0w m1 m2=none ↔ F8 G5 m1 m2=none/\F8 G5 m2 m1=none:=by
 rw[Q3r w1 w2,Q3r w1 w2,Q3r w2 w1];constructor
 ·intro h;refine⟨fun w hw=>?_,fun w hw=>?_⟩<;>have:=h w hw<;>revert this<;>unfold Q0w G5<;>cases B4 m1 w<;>cases B4 m2 w<;>simp
 ·rintro ⟨h1,h2⟩ w hw;have a:=h1 w hw;have b:=h2 w hw
  revert a b
  unfold Q0w G5;cases B4 m1 w<;>cases B4 m2 w<;>simp
theorem W9x {ks:M D}{d:D}(h:ks.Nodup):(Y2 ks d).Nodup:=by grind [Y2,aG]
theorem Y6g:∀(ds ks:M D),ks.Nodup->(Q0e ks ds).Nodup
 |[],ks,h=>h
 |d::r,ks,h=>Y6g r _ (W9x h)
theorem Y8r:∀(ds ks:M D) (x:D),x∈Q0e ks ds->x∈ks\/x∈ds
 |[],ks,x,h=>.inl h
 |d::r,ks,x,h=>by
  rcases Y8r r _ x h with h |h
  ·unfold Y2 at h;split at h
   ·exact .inl h
   ·rcases aH.mp h with h |h
    ·exact .inl h
    ·exact .inr (by rw[aG.mp h];simp)
  ·exact .inr (by simp[h])
def V0e {ds:M D}{j:Nat}(h:j<(Q0e [] ds).length):j∈Q8 [] ds:=by
 rw[Q9e,au];have hm:=aY h;refine⟨(Q0e [] ds)[j],?_,(Y6g ds [] ?G).idxOf_getElem j h⟩;rcases Y8r ds [] _ hm with z |z
 ·cases z
 ·exact z
theorem V0f {ds:M D}{x:Nat}(h:x∈Q8 [] ds):x<(Q0e [] ds).length:=by grind [Q9e,au,Z1t]
def Y6j {ds:M D}{x:Nat}(dO:Q8 [] ds≠[])(h:x<=U9 (Q8 [] ds)):x∈Q8 [] ds:=
 V0e (eS h (V0f (Q9b dO)))
theorem W7b {φ:Nat->Nat}{k k':Nat}(hk:k'<=k)(on:∀y,y<k->∃x,x<k'/\φ x=y){a b:Nat}(ha:a<k')(hb:b<k')(e:φ a=φ b):a=b:=by
 rcases Nat.decEq a b with ne |eq
 ·exfalso;have sub:List.range k ⊆ ((List.range k').erase b).map φ:=fun y hy=>by
   obtain⟨x,hx,rfl⟩:=on y (aZ.mp hy)
   by_cases z:x=b
   ·subst z;exact au.mpr ⟨a,(qp ne).mpr (aZ.mpr ha),e⟩
   ·exact au.mpr ⟨x,(qp z).mpr (aZ.mpr hx),rfl⟩
  have:=fJ.length_le_of_subset sub;rw[ag,List.length_erase_of_mem (aZ.mpr hb),br,br]at this;lia
 ·exact eq
abbrev E4 (b:M Nat)(i:Nat):Nat:=b.getD i 0
theorem Q5r {b:M Nat}{i:Nat}(h:i<b.length):b[i]?=some (E4 b i):=by grind [ac,aq]
theorem V4n (w:Wf es rows){f:Nat->Nat}{i j:Nat}{ri rj:M Nat}(hi:rows[i]?=some ri)(hj:rows[j]?=some rj)(li:i<es.length)(lj:j<es.length):
  ri.map f=rj.map f ↔ ∀c,c<4->f (C3 rows i c)=f (C3 rows j c):=by
 obtain⟨r,e1,l1,g1⟩:=w.row li;obtain⟨r',e2,l2,g2⟩:=w.row lj;rw[hi]at e1;cases e1;rw[hj]at e2;cases e2;constructor
 ·intro h c hc;have:=congrArg (fun l=>l[c]?) h;simp only[ah,(g1 c hc).1,(g2 c hc).1]at this;exact aA this
 ·intro h;refine yx fun c=>?_;rw[ah,ah];rcases bf c 4 with hc |hc
  ·rw[(g1 c hc).1,(g2 c hc).1];exact congrArg some (h c hc)
  ·rw[aF.mpr (by lia),aF.mpr (by lia)]
theorem Y5i {b:M Nat}{i:Nat}{r:M Nat}(hb:i<b.length)(hr:rows[i]?=some r):(Q1v rows b)[i]?=some (Q2w b (E4 b i,r)):=by grind [Q1v,Q5r,ah]
theorem Z5n {a b:Nat}(h:iD a=iD b):a=b:=by
 have:(a:Int)=(b:Int):=D.int.inj h;lia
theorem Y5g:∀{l m:M Nat},l.map iD=m.map iD->l=m
 |[],[],_=>rfl
 |[],_::_,h=>by cases h
 |_::_,[],h=>by cases h
 |a::l,b::m,h=>by
  rw[ar,ar,dn]at h;rw[Z5n h.1,Y5g h.2]
def W9d {b:M Nat}{p q:Nat×M Nat}:Q2w b p=Q2w b q ↔ p.1=q.1/\p.2.map (E4 b)=q.2.map (E4 b):=by
 constructor
 ·intro h;have h:=D.tup.inj h;rw[dn,dn]at h;exact⟨Z5n h.1,Y5g (D.tup.inj h.2.1)⟩
 ·rintro ⟨h1,h2⟩;unfold Q2w;rw[h1];show D.tup [_,rD (p.2.map (E4 b))]=D.tup [_,rD (q.2.map (E4 b))];rw[h2]
def Q9v (w:Wf es rows){b:M Nat}(hb:X6 es.length b){i j:Nat}(hi:i<es.length)(hj:j<es.length):
  E4 (M3 rows b) i=E4 (M3 rows b) j ↔ E4 b i=E4 b j/\∀c,c<4->E4 b (C3 rows i c)=E4 b (C3 rows j c):=by
 obtain⟨r,e1,_,_⟩:=w.row hi;obtain⟨r',e2,_,_⟩:=w.row hj;have m1:=Y5i (b:=b) (by rw[hb.len];exact hi) e1;have m2:=Y5i (b:=b) (by rw[hb.len];exact hj) e2;have hB:=hb.step w.len;have q:=Y6k m1 m2;have g1:(Q8 [] (Q1v rows b))[i]?=some (E4 (M3 rows b) i):=Q5r (by show i<(M3 rows b).length;rw[hB.len];exact hi);have g2:(Q8 [] (Q1v rows b))[j]?=some (E4 (M3 rows b) j):=Q5r (by show j<(M3 rows b).length;rw[hB.len];exact hj);rw[g1,g2,Option.some_inj,W9d,V4n w e1 e2 hi hj]at q;exact q
theorem Y9o (w:Wf es rows){b:M Nat}(hb:X6 es.length b)(full:∀x,x<=U9 b->x∈b)(hm:¬ U9 b+1<=U9 (M3 rows b)){i j:Nat}(hi:i<es.length)(hj:j<es.length)(e:E4 b i=E4 b j):
  E4 (M3 rows b) i=E4 (M3 rows b) j:=by
 have hB:=hb.step w.len;have lb:∀{i:Nat},i<es.length->i<b.length:=fun h=>by rw[hb.len];exact h
 have lB:∀{i:Nat},i<es.length->i<(M3 rows b).length:=fun h=>by rw[hB.len];exact h
 have fφ:∀{i:Nat},i<es.length->E4 b ((M3 rows b).idxOf (E4 (M3 rows b) i))=E4 b i:=fun {i} h=>by
  have mM:E4 (M3 rows b) i∈M3 rows b:=Q3s (lB h);have bU:=aX.mpr mM;have wU:(M3 rows b).idxOf (E4 (M3 rows b) i)<es.length:=by rw[<-hB.len];exact bU
  have e0:E4 (M3 rows b) ((M3 rows b).idxOf (E4 (M3 rows b) i))=E4 (M3 rows b) i:=by
   have:=Q5r bU;rw[ac bU,eU bU]at this;exact(aA this).symm
  exact((Q9v w hb wU h).mp e0).1
 refine W7b (φ:=fun x=>E4 b ((M3 rows b).idxOf x)) (k:=U9 b+1) (k':=U9 (M3 rows b)+1) (by lia) (fun y hy=>?_) (iA (Z1r (Q3s (lB hi)))) (iA (Z1r (Q3s (lB hj)))) ?_
 ·obtain⟨i,hi,rfl⟩:=be.mp (full y (by lia));have ig:i<es.length:=by rw[<-hb.len];exact hi
  refine⟨E4 (M3 rows b) i,iA (Z1r (Q3s (lB ig))),?_⟩;show E4 b _=_;rw[fφ ig];have:=Q5r hi;rw[ac hi]at this;exact(aA this).symm
 ·show E4 b _=E4 b _;rw[fφ hi,fφ hj,e]
def K6 (es:M Bool)(rows:M (M Nat))(i:Nat)(w:M Nat):Bool:=es.getD (run (C3 rows) i w) false
theorem Q9o (wf:Wf es rows):∀(w:M Nat) (i:Nat),B1 w->i<es.length->run (C3 rows) i w<es.length
 |[],i,_,h=>h
 |c::w,i,hw,h=>by
  obtain⟨_,_,_,g⟩:=wf.row h;exact Q9o wf w _ (fun d hd=>hw d (by simp[hd])) (g c (Q0u (hw c ?G))).2
structure Q6t (es:M Bool)(rows:M (M Nat))(b:M Nat):Prop where
 blk:X6 es.length b
 full:∀x,x<=U9 b->x∈b
 fin:∀i j,i<es.length->j<es.length->E4 b i=E4 b j->es.getD i false=es.getD j false
 apart:∀i j,i<es.length->j<es.length->E4 b i≠E4 b j->∃w,B1 w/\K6 es rows i w≠K6 es rows j w
theorem Q6t.step {b:M Nat}(w:Wf es rows)(P:Q6t es rows b):Q6t es rows (M3 rows b) where
 blk:=P.blk.step w.len
 full:=fun x hx=>Y6j (fun z=>by have h:=(P.blk.step w.len).len;unfold M3 at h;rw[z]at h;have:=w.pos;simp at h;lia) hx
 fin:=fun i j hi hj e=>P.fin i j hi hj ((Q9v w P.blk hi hj).mp e).1
 apart:=fun i j hi hj ne=>by
  by_cases h:E4 b i=E4 b j
  ·have:¬ ∀c,c<4->E4 b (C3 rows i c)=E4 b (C3 rows j c):=fun z=>ne ((Q9v w P.blk hi hj).mpr ⟨h,z⟩);obtain⟨c,hc⟩:=Classical.not_forall.mp this;obtain⟨ju,dO⟩:=Classical.not_imp.mp hc;obtain⟨_,_,_,g1⟩:=w.row hi;obtain⟨_,_,_,g2⟩:=w.row hj;obtain⟨u,hu,q⟩:=P.apart _ _ (g1 c ju).2 (g2 c ju).2 dO;exact⟨c::u,fun d hd=>by rcases av.mp hd with rfl |hd;exact Y5f ju;exact hu d hd,q⟩
  ·exact P.apart i j hi hj h
structure Told (es:M Bool)(rows:M (M Nat))(b:M Nat):Prop extends Q6t es rows b where
 cong:∀i j,i<es.length->j<es.length->E4 b i=E4 b j->∀c,c<4->E4 b (C3 rows i c)=E4 b (C3 rows j c)
theorem Y9x (w:Wf es rows):∀(n:Nat) (b:M Nat),Q6t es rows b->es.length<=n+U9 b+1->Told es rows (Q4a rows n (U9 b+1) (M3 rows b))
 |0,b,P,h=>by
  have hB:=P.step w;have ne:M3 rows b≠[]:=fun z=>by have h:=hB.blk.len;rw[z]at h;have:=w.pos;simp at h;lia
  have:=hB.blk.lt _ (Q9b ne);refine⟨hB,fun i j hi hj e c hc=>?_⟩;obtain⟨_,_,_,g1⟩:=w.row hi;obtain⟨_,_,_,g2⟩:=w.row hj;exact Y9o w P.blk P.full (by lia) (g1 c hc).2 (g2 c hc).2 (((Q9v w P.blk hi hj).mp e).2 c hc)
 |n+1,b,P,h=>by
  have hB:=P.step w;unfold Q4a;split
  ·rename_i hm;exact Y9x w n _ hB (by lia)
  ·rename_i hm;refine⟨hB,fun i j hi hj e c hc=>?_⟩;obtain⟨_,_,_,g1⟩:=w.row hi;obtain⟨_,_,_,g2⟩:=w.row hj;exact Y9o w P.blk P.full hm (g1 c hc).2 (g2 c hc).2 (((Q9v w P.blk hi hj).mp e).2 c hc)
theorem W3w {R:M (Nat×Nat)}{g d:Nat}:∃d',(g,d')∈Q3 R g d:=by grind [Q3]
structure Z0k (on:M (M Nat))(good:Nat->Nat->Prop)(R:M (Nat×Nat))(p:Nat):Prop where
 ri:Q2k on.length R
 good:∀q∈R,good q.1 q.2
 sorted:∀(i j:Nat) (q q':Nat×Nat),i<=j->R[i]?=some q->R[j]?=some q'->q.2<=q'.2
 near:∀q∈R,∀q',R[p]?=some q'->q.2<=q'.2+1
 past:∀(i:Nat) (q:Nat×Nat),i<p->R[i]?=some q->∀g∈on.getD q.1 [],∃d,(g,d)∈R/\d<=q.2+1
theorem Y5n {d:Nat}:∀(gs:M Nat) (R:M (Nat×Nat)) (B:Nat),(∀q∈R,q.2<=B)->d<=B->∀g∈gs,∃d',(g,d')∈goR d gs R/\d'<=B
 |[],R,B,_,_,g,h=>by cases h
 |x::gs,R,B,hR,hd,g,h=>by
  have eK:∀q∈Q3 R x d,q.2<=B:=fun q hq=>by
   rcases Z6i hq with z |z
   ·exact hR q z
   ·rw[z];exact hd
  rw[goR];rcases av.mp h with rfl |h
  ·obtain⟨d',h'⟩:=W3w (R:=R) (g:=g) (d:=d);exact⟨d',(Z5i d gs _).subset h',eK _ h'⟩
  ·exact Y5n gs _ B eK hd g h
theorem Y3z {d:Nat}:∀(gs:M Nat) (R:M (Nat×Nat)),(∀(i j:Nat) (q q':Nat×Nat),i<=j->R[i]?=some q->R[j]?=some q'->q.2<=q'.2)->(∀q∈R,q.2<=d) ->
  (∀(i j:Nat) (q q':Nat×Nat),i<=j->(goR d gs R)[i]?=some q->(goR d gs R)[j]?=some q'->q.2<=q'.2)
 |[],R,h,_=>h
 |x::gs,R,h,hd=>by
  refine Y3z gs _ ?_ ?_
  ·unfold Q3;split
   ·exact h
   ·intro i j q q' sj hi hj;rcases bf j R.length with hjl |hjl
    ·rw[aB hjl]at hj;rw[aB (by lia)]at hi;exact h i j q q' sj hi hj
    ·have pQ:q'=(x,d):=by
      rw[aK hjl]at hj;exact(aG.mp (az hj))
     rcases aH.mp (az hi)with z |z
     ·rw[pQ];exact hd q z
     ·rw[aG.mp z,pQ];exact ao _
  ·intro q hq;rcases Z6i hq with z |z
   ·exact hd q z
   ·rw[z];exact ao _
theorem Y7t (nq:∀l∈on,∀g∈l,g<on.length)(hg:∀s d,s<on.length->good s d->∀g∈on.getD s [],good g (d+1)):
  ∀(n:Nat) (R:M (Nat×Nat)) (p:Nat),Z0k on good R p->on.length<=n+p->p<=R.length->R <+: Q3a on n R p/\Z0k on good (Q3a on n R p) (Q3a on n R p).length
 |0,R,p,J,h,hp=>by
  have b:=J.ri.bound;have:p=R.length:=by lia
  subst this;exact⟨bC _,J⟩
 |n+1,R,p,J,h,hp=>by
  unfold Q3a;split
  ·rename_i e;have:=aF.mp e;have:p=R.length:=by lia
   subst this;exact⟨bC _,J⟩
  ·rename_i q e;obtain⟨s,d⟩:=q;have kin:=az e;have hs:s<on.length:=J.ri.lt _ kin;have hpl:p<R.length:=by obtain⟨z,_⟩:=aJ.mp e;exact z
   have eo:on[s]?.getD []=on.getD s []:=(aq ..).symm;have ki:∀g∈on.getD s [],g<on.length:=fun g jW=>by
    rw[aq,ac hs]at jW;exact nq _ (aY hs) g jW
   have pre:=Z5i (d+1) (on.getD s []) R;have near:∀q∈R,q.2<=d+1:=fun q hq=>J.near q hq _ e;have all:∀q∈goR (d+1) (on.getD s []) R,q.2<=d+1:=fun q hq=>by
    rcases Z1s _ _ hq with z |⟨g,_,rfl⟩
    ·exact near q z
    ·exact ao _
   have at_:∀{i:Nat}{q:Nat×Nat},i<R.length->(goR (d+1) (on.getD s []) R)[i]?=some q->R[i]?=some q:=fun {i q} hi hq=>by
    obtain⟨t,ht⟩:=pre;rw[<-ht,aB hi]at hq;exact hq
   have J2:Z0k on good (goR (d+1) (on.getD s []) R) (p+1):=by
    have so:=Y3z (d:=d+1) (on.getD s []) R J.sorted near;refine⟨J.ri.go ki,fun q hq=>?_,so,fun q hq q' pQ=>?_,fun i q hi hq g jW=>?_⟩
    ·rcases Z1s _ _ hq with z |⟨g,jW,rfl⟩
     ·exact J.good q z
     ·exact hg s d hs (J.good _ kin) g jW
    ·have h1:=all q hq;have h2:(goR (d+1) (on.getD s []) R)[p]?=some (s,d):=by
      obtain⟨t,ht⟩:=pre;rw[<-ht,aB hpl];exact e
     have h3:d<=q'.2:=so p (p+1) _ _ (by lia) h2 pQ;lia
    ·have hq:=at_ (by lia) hq;rcases bf i p with z |z
     ·obtain⟨d',h1,h2⟩:=J.past i q z hq g jW;exact⟨d',pre.subset h1,h2⟩
     ·have:i=p:=by lia
      subst this;rw[e]at hq;cases hq;exact Y5n _ R (d+1) near (ao _) g jW
   have ck:=pre.length_le;obtain⟨a1,a2⟩:=Y7t nq hg n _ (p+1) J2 (by lia) (by lia);rw[eo];exact⟨pre.trans a1,a2⟩
theorem Z1o {R:M (Nat×Nat)}(nd:(R.map (·.1)).Nodup){s d:Nat}:L5 R s=some d ↔ (s,d)∈R:=by induction R<;>grind [L5,aA,fe,jD,ar,bo,bp]
theorem W5s (wf:Wf es rows)(b:Bool)  (g0:∀i,es[i]?=some b->good i 0)(gs:∀s d g c,g<es.length->c<4->C3 rows g c=s->good s d->good g (d+1)):
  (∀q∈L7 (G4 rows) (J7 es b),good q.1 q.2)/\((L7 (G4 rows) (J7 es b)).map (·.1)).Nodup/\(∀i,es[i]?=some b->(i,0)∈L7 (G4 rows) (J7 es b)) /\
  ∀s d,(s,d)∈L7 (G4 rows) (J7 es b)->∀g c,g<es.length->c<4->C3 rows g c=s->∃d',(g,d')∈L7 (G4 rows) (J7 es b)/\d'<=d+1:=by
 have bU:∀r∈rows,∀g∈r,g<rows.length:=fun r hr g hg=>by rw[wf.len];exact wf.lt r hr g hg
 have xg:(G4 rows).length=es.length:=by rw[Z0r,wf.len]
 have J0:Z0k (G4 rows) good ((J7 es b).map fun x=>(x,0)) 0:=by
  refine⟨⟨by simpa [iF]using Y3k,fun q hq=>?_⟩,fun q hq=>?_,fun i j q q' _ hi hj=>?_,fun q hq q' _=>?_,fun i q hi=>absurd hi (g8 _)⟩
  ·obtain⟨x,hx,rfl⟩:=au.mp hq;rw[xg];exact Y3j x hx
  ·obtain⟨x,hx,rfl⟩:=au.mp hq;exact g0 x (Z6l.mp hx)
  ·obtain⟨x,_,rfl⟩:=au.mp (az hi);exact bz _
  ·obtain⟨x,_,rfl⟩:=au.mp hq;exact bz _
 obtain⟨pre,J⟩:=Y7t (Y2c bU) (fun s d hs wX g jW=>by
  obtain⟨r,e,hm⟩:=(Z6j bU).mp jW;obtain⟨c,hc,e2⟩:=be.mp hm;have mP:g<es.length:=by rw[<-wf.len];obtain⟨z,_⟩:=aJ.mp e;exact z
  obtain⟨r',e',l4,g4⟩:=wf.row mP;rw[e]at e';cases e';have ju:c<4:=by rw[<-l4];exact hc
  have:=(g4 c ju).1;rw[ac hc,e2]at this;exact gs s d g c mP ju (aA this).symm wX) (G4 rows).length _ 0 J0 (by lia) (bz _)
 refine⟨J.good,J.ri.nd,fun i hi=>pre.subset (au.mpr ⟨i,Z6l.mpr hi,rfl⟩),fun s d hm g c mP hc e=>?_⟩;obtain⟨i,hi,e2⟩:=be.mp hm;obtain⟨r,e3,l4,g4⟩:=wf.row mP;refine J.past i (s,d) hi (by show(L7 (G4 rows) (J7 es b))[i]?=_;rw[ac hi,e2]) g ((Z6j bU).mpr ⟨r,e3,?_⟩);rw[<-e];exact az (g4 c hc).1
theorem Y3g (wf:Wf es rows)(b:Bool):(∀i d,i<es.length->L5 (L7 (G4 rows) (J7 es b)) i=some d->∃w,B1 w/\w.length=d/\K6 es rows i w=b) /\
  ∀(w:M Nat) (i:Nat),B1 w->i<es.length->K6 es rows i w=b->∃d,L5 (L7 (G4 rows) (J7 es b)) i=some d/\d<=w.length:=by
 obtain⟨h1,nd,h2,h3⟩:=W5s wf b (good:=fun i d=>∃w,B1 w/\w.length=d/\K6 es rows i w=b)
  (fun i hi=>⟨[],B1.nil,rfl,by unfold K6 run;rw[List.foldl_nil,aq,hi];rfl⟩)
  (fun s d g c hg hc e cw=>(by obtain⟨w,q1,q2,q3⟩:=cw;exact⟨c::w,fun x hx=>by rcases av.mp hx with rfl |hx;exact Y5f hc;exact q1 x hx,by rw[aN,q2],by unfold K6 run at q3 ⊢;rw[cb,e];exact q3⟩))
 refine⟨fun i d _ h=>h1 (i,d) ((Z1o nd).mp h),fun w=>?_⟩
 induction w with
 |nil=>
  intro i _ hi h;refine⟨0,(Z1o nd).mpr (h2 i ?_),ao _⟩;unfold K6 run at h;rw[List.foldl_nil,aq,ac hi]at h;rw[ac hi];exact congrArg some h
 |cons c w ih=>
  intro i hw hi h;have ju:=Q0u (hw c ?G);obtain⟨_,_,_,g4⟩:=wf.row hi;obtain⟨d,q1,q2⟩:=ih (C3 rows i c) (fun x hx=>hw x (by simp[hx])) (g4 c ju).2 h;obtain⟨d',q3,q4⟩:=h3 _ _ ((Z1o nd).mp q1) i c hi ju rfl;exact⟨d',(Z1o nd).mpr q3,by rw[aN];lia⟩
theorem Y3f (wf:Wf es rows)(b:Bool){i j:Nat}(hi:i<es.length)(hj:j<es.length)(h:L5 (L7 (G4 rows) (J7 es b)) i≠L5 (L7 (G4 rows) (J7 es b)) j):∃w,B1 w/\K6 es rows i w≠K6 es rows j w:=by
 obtain⟨s1,s2⟩:=Y3g wf b;have key:∀{i j d:Nat},i<es.length->j<es.length->L5 (L7 (G4 rows) (J7 es b)) i=some d->(∀d',L5 (L7 (G4 rows) (J7 es b)) j=some d'->d<d')->∃w,B1 w/\K6 es rows i w≠K6 es rows j w:=fun {i j d} hi hj e bU=>by
  obtain⟨w,q1,q2,q3⟩:=s1 i d hi e;refine⟨w,q1,fun z=>?_⟩;rw[q3]at z;obtain⟨d',q4,q5⟩:=s2 w j q1 hj z.symm;have:=bU d' q4;lia
 cases e1:L5 (L7 (G4 rows) (J7 es b)) i with
 |none=>
  cases e2:L5 (L7 (G4 rows) (J7 es b)) j with
  |none=>rw[e1,e2]at h;exact absurd rfl h
  |some d=>
   obtain⟨w,q1,q2⟩:=key hj hi e2 (fun d' z=>by rw[e1]at z;cases z);exact⟨w,q1,fun z=>q2 z.symm⟩
 |some d=>
  cases e2:L5 (L7 (G4 rows) (J7 es b)) j with
  |none=>exact key hi hj e1 (fun d' z=>by rw[e2]at z;cases z)
  |some d'=>
   rcases bf d d' with z |z
   ·exact key hi hj e1 (fun x q=>by rw[e2]at q;cases q;exact z)
   ·have:d'<d:=by
     rcases bf d' d with y |y
     ·exact y
     ·rw[e1,e2,show d=d' by lia]at h;exact absurd rfl h
    obtain⟨w,q1,q2⟩:=key hj hi e2 (fun x q=>by rw[e1]at q;cases q;exact this);exact⟨w,q1,fun z=>q2 z.symm⟩
theorem Y6n {a b:Ac Nat}(h:oD a=oD b):a=b:=by grind [Z5n]
theorem Y5h {i:Nat}(hi:i<es.length):(Q0j es rows)[i]?=some (.tup [oD (L5 (L7 (G4 rows) (J7 es true)) i),oD (L5 (L7 (G4 rows) (J7 es false)) i)]):=by grind [Q0j,ah,Q2p,L5,L7,G4,J7,ac]
theorem V1h (wf:Wf es rows):Q6t es rows (Q8 [] (Q0j es rows)):=by
 have hB:X6 es.length (Q8 [] (Q0j es rows)):=X6.zero;have eqv:∀{i j:Nat},i<es.length->j<es.length->(E4 (Q8 [] (Q0j es rows)) i=E4 (Q8 [] (Q0j es rows)) j ↔ L5 (L7 (G4 rows) (J7 es true)) i=L5 (L7 (G4 rows) (J7 es true)) j/\L5 (L7 (G4 rows) (J7 es false)) i=L5 (L7 (G4 rows) (J7 es false)) j):=fun {i j} hi hj=>by
  have q:=Y6k (Y5h (rows:=rows) hi) (Y5h (rows:=rows) hj);rw[Q5r (by rw[hB.len];exact hi),Q5r (by rw[hB.len];exact hj),Option.some_inj]at q;rw[q];constructor
  ·intro h;have h:=D.tup.inj h;rw[dn,dn]at h;exact⟨Y6n h.1,Y6n h.2.1⟩
  ·rintro ⟨h1,h2⟩;rw[h1,h2]
 refine⟨hB,fun x hx=>Y6j (fun z=>by have h:=hB.len;rw[z]at h;have:=wf.pos;simp at h;lia) hx,fun i j hi hj e=>?_,fun i j hi hj ne=>?_⟩
 ·obtain⟨e1,_⟩:=(eqv hi hj).mp e;obtain⟨s1,s2⟩:=Y3g wf true;have key:∀{i j:Nat},i<es.length->j<es.length->L5 (L7 (G4 rows) (J7 es true)) i=L5 (L7 (G4 rows) (J7 es true)) j->es.getD i false=true->es.getD j false=true:=fun {i j} hi hj e h=>by
   obtain⟨d,q1,q2⟩:=s2 [] i B1.nil hi h;have:d=0:=by simpa using q2
   subst this;rw[e]at q1;obtain⟨w,_,q4,q5⟩:=s1 j 0 hj q1;rw[dA.mp q4]at q5;exact q5
  cases h1:es.getD i false<;>cases h2:es.getD j false
  ·rfl
  ·have:=key hj hi e1.symm h2;rw[h1]at this;cases this
  ·have:=key hi hj e1 h1;rw[h2]at this;cases this
  ·rfl
 ·by_cases h:L5 (L7 (G4 rows) (J7 es true)) i=L5 (L7 (G4 rows) (J7 es true)) j
  ·exact Y3f wf false hi hj fun z=>ne ((eqv hi hj).mpr ⟨h,z⟩)
  ·exact Y3f wf true hi hj h
theorem Z8s (wf:Wf es rows):Told es rows (G3 es rows):=by grind [G3,Q4a,Y9x,V1h]
section
variable [DecidableEq α]
def Y7w {i:Nat}{f:Nat->Nat}(h:rs[i]?=some (B2.map f))(hc:c∈B2):C3 rs i c=f c:=by
 unfold C3;rw[aq,aq,h,yP,ah];have:B2[c]?=some c:=by
  simp only[B2,av,aU,bM]at hc;rcases hc with rfl |rfl |rfl |rfl<;>rfl
 rw[this];rfl
theorem Z5h {ks:M α}{x:α}(h:x∈ks):ks[ks.idxOf x]?=some x:=by grind [ac,eU]
theorem Q2n.run {step:α->Nat->α}{start:α}{U ks:M α}  (W:Q2n step start U ks rs):∀(w:M Nat) (i:Nat) (k:α),B1 w->ks[i]?=some k->ks[run (C3 rs) i w]?=some (run step k w)
 |[],i,k,_,h=>h
 |c::w,i,k,hw,h=>by
  have hc:=hw c ?G;have e:=Y7w (W.row i k h) hc;refine Q2n.run W w _ _ (fun d hd=>hw d (by simp[hd])) ?_;rw[e];exact Z5h (W.mem k (az h) c hc)
def Y2k {step:α->Nat->α}{start:α}{U:M α}{fin:α->Bool}(hU:∀k∈U,∀c∈B2,step k c∈U)(hs:start∈U){w:M Nat}(hw:B1 w):B4 (Q3o U step start fin) w=fin (run step start w):=by
 have W:=Q5d (step:=step) (N:=U.length) hU hs (ao _);have h:=W.run w 0 start hw W.zero;unfold B4 stW Q3o;show(List.map fin _).getD (run (C3 _) 0 w) false=_;rw[aq,ah,h]
 rfl
end
theorem Q6w {b:M Nat}{x:Nat}(h:x∈b):E4 b (b.idxOf x)=x:=by grind [aq,Z5h]
theorem Y4y (wf:Wf es rows):∀(w:M Nat) (t s:Nat),B1 w->s<es.length->(N3 es rows).1[t]?=some (E4 (G3 es rows) s)->(N3 es rows).1[run (C3 (N3 es rows).2) t w]?=some (E4 (G3 es rows) (run (C3 rows) s w))
 |[],t,s,_,_,h=>h
 |c::w,t,s,hw,hs,h=>by
  have W:=Q7k wf;have T:=Z8s wf;have hc:=hw c ?G;obtain⟨_,_,_,g⟩:=wf.row hs;have hm:E4 (G3 es rows) s∈G3 es rows:=Q3s (by rw[T.blk.len];exact hs);have h0:(G3 es rows).idxOf (E4 (G3 es rows) s)<es.length:=by rw[<-T.blk.len];exact aX.mpr hm
  have e1:=Y7w (W.row t _ h) hc;have e2:Q1u rows (G3 es rows) (E4 (G3 es rows) s) c=E4 (G3 es rows) (C3 rows s c):=T.cong _ _ h0 hs (Q6w hm) c (Q0u hc);refine Y4y wf w _ (C3 rows s c) (fun d hd=>hw d (by simp[hd])) (g c (Q0u hc)).2 ?_;rw[e1,<-e2];exact Z5h (W.mem _ (az h) c hc)
def Z5w (wf:Wf es rows){w:M Nat}(hw:B1 w){t s:Nat}(hs:s<es.length)(h:(N3 es rows).1[t]?=some (E4 (G3 es rows) s)):K6 (E9 es rows).1 (E9 es rows).2 t w=K6 es rows s w:=by
 have T:=Z8s wf;have r:=Y4y wf w t s hw hs h;have hl:=Q9o wf w s hw hs;have hm:E4 (G3 es rows) (run (C3 rows) s w)∈G3 es rows:=Q3s (by rw[T.blk.len];exact hl);have h0:(G3 es rows).idxOf (E4 (G3 es rows) (run (C3 rows) s w))<es.length:=by rw[<-T.blk.len];exact aX.mpr hm
 unfold K6 E9;show(List.map _ (N3 es rows).1).getD (run (C3 (N3 es rows).2) t w) false=_;rw[aq,ah,r];exact T.fin _ _ h0 hl (Q6w hm)
def Z5v (wf:Wf es rows){w:M Nat}(hw:B1 w):B4 (E9 es rows) w=B4 (es,rows) w:=Z5w wf hw wf.pos (Q7k wf).zero
def W8o (wf:Wf es rows){i j:Nat}(hi:i<(E9 es rows).1.length)(hj:j<(E9 es rows).1.length)(ne:i≠j):∃w,B1 w/\K6 (E9 es rows).1 (E9 es rows).2 i w≠K6 (E9 es rows).1 (E9 es rows).2 j w:=by
 have W:=Q7k wf;have T:=Z8s wf;have el:(E9 es rows).1.length=(N3 es rows).1.length:=by simp[E9]
 rw[el]at hi hj;have gi:=ac hi;have gj:=ac hj;have nk:(N3 es rows).1[i]≠(N3 es rows).1[j]:=fun z=>ne ((j7 W.nd).mp z);have mi:=W.sub _ (aY hi);have mj:=W.sub _ (aY hj);have li:(G3 es rows).idxOf (N3 es rows).1[i]<es.length:=by rw[<-T.blk.len];exact aX.mpr mi
 have lj:(G3 es rows).idxOf (N3 es rows).1[j]<es.length:=by rw[<-T.blk.len];exact aX.mpr mj
 obtain⟨w,hw,q⟩:=T.apart _ _ li lj (by rw[Q6w mi,Q6w mj];exact nk);refine⟨w,hw,?_⟩;rw[Z5w wf hw li (by rw[Q6w mi];exact gi),Z5w wf hw lj (by rw[Q6w mj];exact gj)];exact q
def Z2m (w1:C5 m1)(w2:C5 m2){w:M Nat}(hw:B1 w):B4 (Y3 g m1 m2) w=g (B4 m1 w) (B4 m2 w):=by
 have W:=Q5d (step:=Q0n m1 m2) (N:=(PU m1 m2).length) (fun k h c hc=>Q4r w1 w2 h hc) (Q5e w1 w2) (ao _);have h:B4 (Y3 g m1 m2) w=B4 (Q3o (PU m1 m2) (Q0n m1 m2) (0,0) (Q2z g m1 m2)) w:=Z5v (W.wf (Q2z g m1 m2)) hw;rw[h,Y2k (fun k h c hc=>Q4r w1 w2 h hc) (Q5e w1 w2) hw,Q9l]
def Z9 (met:M Nat):M Nat->M Nat->M Nat
 |_,[]=>[]
 |pre,x::r=>if x∈met++pre then Z9 met (pre++[x]) r else x::Z9 met (pre++[x]) r
def O4:M Nat->M (M Nat)->M Nat
 |met,[]=>met
 |met,r::rs=>O4 (met++Z9 met [] r) rs
theorem Q9d (r:M Nat):∀(rs:M (M Nat)) (met:M Nat),O4 met (rs++[r])=O4 met rs++Z9 (O4 met rs) [] r
 |[],met=>rfl
 |x::rs,met=>Q9d r rs _
section
variable [DecidableEq α]
theorem Z1v (st:Nat->α)(n:Nat):∀(cs:M Nat) (ks:M α) (pre full:M Nat),full=pre++cs.map (fun c=>(J3 st cs ks pre).1.idxOf (st c))->n<=ks.length->(∀x,x<ks.length->x<n\/x∈pre)->(∀x∈pre,x<ks.length) ->
  Z9 (List.range n) pre (cs.map fun c=>(J3 st cs ks pre).1.idxOf (st c))=(List.range ((J3 st cs ks pre).1.length-ks.length)).map fun i=>ks.length+i
 |[],ks,pre,full,_,_,_,_=>by simp[J3,Z9]
 |c::cs,ks,pre,full,_,hn,h1,h2=>by
  have pp:=Q7s st cs (S6 ks (st c)) (pre++[(S6 ks (st c)).idxOf (st c)]);have mM:st c∈S6 ks (st c):=Y5k.mpr (.inr rfl);have ei:(J3 st (c::cs) ks pre).1.idxOf (st c)=(S6 ks (st c)).idxOf (st c):=by rw[J3];exact Z5r pp mM
  have kS:J3 st (c::cs) ks pre=J3 st cs (S6 ks (st c)) (pre++[(S6 ks (st c)).idxOf (st c)]):=rfl;have ck:=pp.length_le;rw[ar,Z9,ei];simp only[kS]
  by_cases hm:st c∈ks
  ·have ea:S6 ks (st c)=ks:=Z4i hm;have hl:=aX.mpr hm;simp only[ea]at ck ⊢;rw[aQ (by
    rcases h1 _ hl with z |z
    ·exact aV _ (aZ.mpr z)
    ·exact ai _ z)]
   exact Z1v st n cs ks _ _ rfl hn (fun x hx=>(h1 x hx).imp id fun z=>by simp[z]) fun x hx=>by
    rcases aH.mp hx with z |z
    ·exact h2 x z
    ·rw[aG.mp z];exact hl
  ·have ea:S6 ks (st c)=ks++[st c]:=Z4j hm;have ex:(ks++[st c]).idxOf (st c)=ks.length:=by
    rw[fq,aI hm];simp
   simp only[ea,ex]at ck ⊢;rw[aC,bu]at ck;rw[aI (fun z=>by
    rcases aH.mp z with z |z
    ·have:=aZ.mp z;lia
    ·have:=h2 _ z;lia)]
   have ih:=Z1v st n cs (ks++[st c]) (pre++[ks.length]) _ rfl (by simp;lia) (fun x hx=>by
    rw[aC,bu]at hx;rcases bf x ks.length with z |z
    ·exact(h1 x z).imp id fun z=>by simp[z]
    ·exact .inr (by simp;lia)) fun x hx=>by
    rw[aC,bu];rcases aH.mp hx with z |z
    ·have:=h2 x z;lia
    ·rw[aG.mp z];lia
   rw[ih];rw[aC,bu];obtain⟨m,rX⟩:∃m,(J3 st cs (ks++[st c]) (pre++[ks.length])).1.length=ks.length+1+m:=⟨_,(Nat.add_sub_cancel' ck).symm⟩
   rw[rX,show ks.length+1+m-(ks.length+1)=m by lia,show ks.length+1+m-ks.length=m+1 by lia,fN,ar,aM];congr 1;exact bg fun i _=>by simp;lia
def range_add (n m:Nat):List.range n++(List.range m).map (fun i=>n+i)=List.range (n+m):=(List.range_add).symm
theorem Y5w {step:α->Nat->α}:∀(n:Nat) (ks:M α) (rs:M (M Nat)),O4 [0] rs=List.range ks.length->O4 [0] (O7 step n ks rs).2=List.range (O7 step n ks rs).1.length
 |0,ks,rs,h=>h
 |n+1,ks,rs,h=>by
  unfold O7;split
  ·exact h
  ·rename_i k e;refine Y5w n _ _ ?_;have hp:=(Q7s (step k) B2 ks []).length_le;rw[Q9d,h,Z7e,cq,Z1v (step k) ks.length B2 ks [] _ rfl (ao _) (fun x hx=>.inl hx) (fun x hx=>by cases hx),range_add];congr 1;lia
def Y5x {step:α->Nat->α}{start:α}{N:Nat}:O4 [0] (S0 N step start).2=List.range (S0 N step start).1.length:=Y5w N _ _ rfl
end
def W9m (es:M Bool)(rows:M (M Nat)):O4 [0] (E9 es rows).2=List.range (E9 es rows).1.length:=by
 have:=Y5x (step:=Q1u rows (G3 es rows)) (start:=(G3 es rows).getD 0 0) (N:=es.length);have el:(E9 es rows).1.length=(N3 es rows).1.length:=by simp[E9]
 rw[el];exact this
abbrev W3l:M Str:=["machine","ends","rows"]
def W0s (sp_least:D5):WS:=(A9 (Q4x (wV 0) (M6 2 (D7 (B7 1) (D7 (B7 2) N2)))) (F7 (B9 sp_least (A0 (wV 1) (A0 (wV 2) A2)))))
abbrev Y1m:M Str:=["one","ends","rows"]
def W0v (sp_least_of:D5):WS:=(A9 (Q4x (B9 sp_least_of (A0 (wV 0) A2)) (M6 2 (D7 (B7 1) (D7 (B7 2) N2)))) (F7 (Q1e (A0 (C1 (D4 T0 (A0 (X2 1 [] (Q4n (wV 1)) (B7 0) X1 (C1 (Z3m (wV 0)))) A2))) (A0 (C1 (wV 2)) A2)))))
abbrev Y1p:M Str:=["rows","text","start","states","sign"]
def Z9v:WS:=(A9 (D6 3 (X4 (A0 (C1 (wV 2)) A2))) (A9 (X3 (Z5p (wV 1)) (B7 4) (R8 3 (C1 (A5 C8 (A5 C8 (wV 0) (A5 C8 (wV 3) (Z3l (wC (.int 1))))) (Z3g (wC (.str "01ab")) (wV 4)))))) (Z3n 3)))
abbrev W3b:M Str:=["machine","text","ends","rows"]
def W0i (fO:F5):WS:=(A9 (Q4x (wV 0) (M6 2 (D7 (B7 2) (D7 (B7 3) N2)))) (F7 (A5 C8 (wV 2) (A5 C8 (Z9a 0 fO (A0 (wV 3) (A0 (wV 1) A2))) (Z3l (wC (.int 1)))))))
def sp_least_of:D5:=fun rs Pr=>∃m:F9,rs=[.st (mD m)]/\C5 m/\m.1.length<=20000/\Pr (.st (mD (E9 m.1 m.2)))
def Z1u:V5 sp_least_of:=by rintro rs P Q f ⟨m,e,h1,h2,h3⟩;exact⟨m,e,h1,h2,f _ h3⟩
def V3r:∀rs Pr,rs.length=1->sp_least_of rs Pr->W0s sp_least (N8 Pr) (D8 W3l rs):=by
 rintro rs Pr _ ⟨m,rfl,hw,hl,h⟩;unfold W0s;simp only[G2,T7,R0,C7,C6,B8,Q6e,Q0d,Q0b,Q0,Q0c];exact⟨_,rfl,_,rfl,_,rfl,rfl,_,_,rfl,_,_,rfl,rfl,_,rfl,_,rfl,rfl,_,m.1,m.2,_,rfl,.inl rfl,.inr rfl,hw,hl,h⟩
noncomputable def Q1c (m:F9):F9:=((E9 m.1 m.2).1.map not,(E9 m.1 m.2).2)
def Q9t:D5:=fun rs Pr=>∃m:F9,rs=[.st (mD m)]/\C5 m/\m.1.length<=20000/\Pr (.st (mD (Q1c m)))
def W9s:V5 Q9t:=by rintro rs P Q f ⟨m,e,h1,h2,h3⟩;exact⟨m,e,h1,h2,f _ h3⟩
theorem V3x:∀rs Pr,rs.length=1->Q9t rs Pr->W0v sp_least_of (N8 Pr) (D8 Y1m rs):=by
 rintro rs Pr _ ⟨m,rfl,hw,hl,h⟩;unfold W0v;simp only[G2,T7,R0,C7,C6,B8,Q6e,Q0d,Q0b,Q0,Q0c,s_tup,J8,L8,Q2b,Q9p];refine⟨_,rfl,rfl,m,rfl,hw,hl,_,rfl,_,rfl,rfl,_,_,rfl,_,_,rfl,rfl,_,rfl,_,rfl,?_⟩;refine⟨?_,?_⟩
 ·have js:=Q5t hw;rw[ag];exact sz (by lia)
 refine Q3q (f:=fun d=>match d with |.bl b=>.bl (!b) |d=>d) _ none _ (fun d hd Q' q=>?_) ?_
 ·obtain⟨b,_,rfl⟩:=au.mp hd;simp only[J8,V5k,B8];exact⟨_,rfl,q⟩
 rw[aM];k_ne;refine⟨_,rfl,_,rfl,sz ?G,?_⟩;unfold Q1c at h;rw[show(E9 m.1 m.2).1.map ((fun d=>match d with |D.bl b=>D.bl (!b) |d=>d) ∘ D.bl)=((E9 m.1 m.2).1.map not).map D.bl by rw[aM];rfl];exact h
def V6c (t s:Str):N7 (t++s)=N7 t++N7 s:=by
 unfold N7;rw[<-bA];congr 1;exact tE
def V6d (h:c∈B2):N7 (W4 c)=[.str (W4 c)]:=by
 simp only[B2,av,aU,bM]at h;rcases h with rfl |rfl |rfl |rfl<;>rfl
theorem Y4c (h:c∈B2):Q8v "01ab" (W4 c)=some c:=by
 simp only[B2,av,aU,bM]at h;rcases h with rfl |rfl |rfl |rfl<;>decide +kernel
def Z2k {w:M Nat}(h:B1 w):N7 (G7 w)=w.map fun c=>.str (W4 c):=by
 have go:∀(w:M Nat) (t:Str),B1 w->N7 (w.foldl (fun t c=>t++W4 c) t)=N7 t++w.map fun c=>.str (W4 c):=by
  intro w
  induction w with
  |nil=>intro t _;simp
  |cons c w ih=>
   intro t h;rw[cb,ih _ (fun d hd=>h d (ak _ hd)),V6c,V6d (h c am),ar,bt];rfl
 rw[G7,go w "" h];rfl
theorem V6g {d:Nat}(hc:c∈B2)(hd:d∈B2)(e:W4 c=W4 d):c=d:=by grind [Y4c,aA]
def Y9v:∀{u w:M Nat},B1 u->B1 w->G7 u=G7 w->u=w:=by
 intro u w hu hw e;have e:=congrArg N7 e;rw[Z2k hu,Z2k hw]at e;have go:∀l m:M Nat,B1 l->B1 m->(l.map fun c=>D.str (W4 c))=(m.map fun c=>D.str (W4 c))->l=m:=by
  intro l
  induction l with
  |nil=>intro m _ _ h;cases m with
   |nil=>rfl
   |cons _ _=>cases h
  |cons a l ih=>
   intro m hl hm h;cases m with
   |nil=>cases h
   |cons b m=>
    injection h with h1 h2
    injection h1 with h1
    rw[V6g (hl a am) (hm b am) h1,ih m (fun d hd=>hl d (ak _ hd)) (fun d hd=>hm d (ak _ hd)) h2]
 exact go u w hu hw e
def Q6u (rows:M (M Nat))(i:Nat):M Nat->M Nat
 |[]=>[]
 |c::w=>C3 rows i c::Q6u rows (C3 rows i c) w
theorem Y2b {ds:M D}{d:D}:N5 (ds++[d]) (-1)=some d:=by
 unfold N5 ixN;rw[aI (?K),aQ (by rw[aC,bu];lia),Option.bind_some];have:((-1:Int)+((ds++[d]).length:Nat)).toNat=ds.length:=by rw[aC,bu];lia
 rw[this];simp
theorem Y1w (rows:M (M Nat)):∀(w:M Nat) (i:Nat),∃l,i::Q6u rows i w=l++[run (C3 rows) i w]
 |[],i=>⟨[],rfl⟩
 |c::w,i=>by
  obtain⟨l,e⟩:=Y1w rows w (C3 rows i c);exact⟨i::l,by rw[Q6u,e];rfl⟩
def Z7v:F5:=fun rs r=>∃(m:F9) (i:Nat) (w:M Nat),rs=[.st (rsD m.2),.st (.str (G7 w)),.st (iD i)]/\C5 m/\i<m.1.length/\B1 w/\w.length<=100000/\r=.nw ((i::Q6u m.2 i w).map iD)
def wsA:WS:=(R8 3 (C1 (A5 C8 (A5 C8 (wV 0) (A5 C8 (wV 3) (Z3l (wC (.int 1))))) (Z3g (wC (.str "01ab")) (wV 4)))))
theorem Y1x (wf:C5 m){E:J4}:∀(w:M Nat) (l:M Nat) (i:Nat) (o4:Ac Sl),B1 w->i<m.1.length->l.length+w.length<=200000->(∀o4,E.nx [some (.dat (rsD m.2)),o1,o2,some (.own ((l++i::Q6u m.2 i w).map iD)),o4]) ->
  F6 (B7 4) wsA E (w.map fun c=>.str (W4 c)) [some (.dat (rsD m.2)),o1,o2,some (.own ((l++[i]).map iD)),o4]
 |[],l,i,o4,_,_,_,h=>h o4
 |c::w,l,i,o4,hw,hi,hz,h=>by
  rw[aN]at hz;rw[ar,F6];simp only[wsA,Q0,Q3x,J8,E6,B8,K1,V5a,Y8k];have hc:=hw c am;have ju:c<4:=Q0u hc;obtain⟨r,hr,_,pP⟩:=Wf.row wf hi;refine⟨_,rfl,_,rfl,_,rfl,?_⟩;rw[Y6p];show C8 (.bw ((l++[i]).map iD)) (.st (.int (-1))) _;rw[Q5y];refine⟨iD i,by rw[bA];exact Y2b,?_⟩;refine U3 (i:=i) (d:=.tup (r.map iD)) (by rw[ah,hr];rfl) ?_;refine⟨_,rfl,_,rfl,_,c,rfl,Y4c hc,?_⟩;refine U3 (i:=c) (d:=iD (C3 m.2 i c)) (by rw[ah,(pP c ju).1];rfl) ?_;refine⟨_,rfl,T9 (by simp;lia),?_⟩;have e:(l++[i]).map iD++[iD (C3 m.2 i c)]=(l++[i]++[C3 m.2 i c]).map iD:=by simp
  show F6 _ _ _ _ [_,_,_,some (Sl.own ((l++[i]).map iD++[iD (C3 m.2 i c)])),_];rw[e];refine Y1x wf w (l++[i]) _ _ (fun d hd=>hw d (ak _ hd)) (pP c ju).2 (by simp;lia) fun o4=>?_;rw[bt];exact h o4
theorem V3e:∀rs r,rs.length=3->Z7v rs r->Z9v (Y7 r) (D8 Y1p rs):=by
 rintro rs r _ ⟨m,i,w,rfl,wf,hi,hw,hl,rfl⟩;unfold Z9v;simp only[G2,N6,s_lst,C7,J8,B8,C6,Q2c,V4y,Z7p];refine⟨_,rfl,_,rfl,sz ?G,?_⟩;rw[Q5z];refine⟨_,rfl,_,rfl,?_⟩;rw[Z2k hw];exact Y1x wf w [] i none hw hi (by simp;lia) fun o4=>⟨_,rfl,rfl⟩
def Q3e:F5:=fun rs r=>∃(m:F9) (w:M Nat),rs=[.st (mD m),.st (.str (G7 w))]/\C5 m/\B1 w/\w.length<=100000/\r=.st (.bl (B4 m w))
def V3c:∀rs r,rs.length=2->Q3e rs r->W0i Z7v (Y7 r) (D8 W3b rs):=by
 rintro rs r _ ⟨m,w,rfl,wf,hw,hl,rfl⟩;unfold W0i;simp only[G2,T7,E6,B8,K1,V4r,C7,C6,Q6e,Q0d,Q0b,Q0,Q0c,Y8k];refine⟨_,rfl,_,rfl,_,rfl,rfl,_,_,rfl,_,_,rfl,rfl,_,rfl,_,rfl,_,rfl,rfl,_,⟨m,0,w,rfl,wf,wf.pos,hw,hl,rfl⟩,?_⟩;obtain⟨l,e⟩:=Y1w m.2 w 0;rw[Y6p];show C8 (.nw ((0::Q6u m.2 0 w).map iD)) (.st (.int (-1))) _;rw[V0l,e];refine⟨_,by rw[bA];exact Y2b,?_⟩;refine U3 (i:=run (C3 m.2) 0 w) (Z0t (Q9o wf w 0 hw wf.pos)) ?_
 rfl
mutual
theorem W5z:∀a b:D,D.eq a b=D.eq b a
 |.non,b=>by cases b<;>rfl
 |.bl a,b=>by cases b<;>simp[D.eq,Bool.beq_comm,eq_comm,BEq.comm]
 |.int a,b=>by cases b<;>simp[D.eq,eq_comm,BEq.comm]
 |.str a,b=>by cases b<;>simp[D.eq,eq_comm,BEq.comm]
 |.tup a,b=>by
  cases b with
  |tup b=>simp only[D.eq];exact eqs_comm' a b
  |_=>rfl
 |.lst a,b=>by
  cases b with
  |lst b=>simp only[D.eq];exact eqs_comm' a b
  |_=>rfl
theorem eqs_comm':∀a b:M D,Dqeqs a b=Dqeqs b a
 |[],b=>by cases b<;>rfl
 |x::xs,b=>by
  cases b with
  |nil=>rfl
  |cons y ys=>simp only[Dqeqs];rw[W5z x y,eqs_comm' xs ys]
end
def Z2w {w:M Nat}(h:B1 w):(G7 w).length=w.length:=by
 have:=congrArg List.length (Z2k h);rw[ag]at this;rw[<-this];unfold N7;rw[ag,bK];rfl
theorem Q9n (wf:Wf es rows){i:Nat}(hi:i<es.length)(hc:c∈B2):C3 rows i c<es.length:=by
 obtain⟨_,_,_,h⟩:=wf.row hi;exact(h c (by simp only[B2,av,aU,bM]at hc;lia)).2
structure K5 (m:F9):Prop where
 wf:C5 m
 met:O4 [0] m.2=List.range m.1.length
 seen:∀s,s<m.1.length->s<(O4 [0] (m.2.take s)).length
 apart:∀i j,i<m.1.length->j<m.1.length->i≠j->∃w,B1 w/\K6 m.1 m.2 i w≠K6 m.1 m.2 j w
section
variable [DecidableEq α]
theorem Z7q {step:α->Nat->α}:∀(n:Nat) (ks:M α) (rs:M (M Nat)),O4 [0] rs=List.range ks.length->(∀s,s<rs.length->s<(O4 [0] (rs.take s)).length)->∀s,s<(O7 step n ks rs).2.length->s<(O4 [0] ((O7 step n ks rs).2.take s)).length
 |0,ks,rs,_,h=>h
 |n+1,ks,rs,hm,h=>by
  unfold O7;split
  ·exact h
  ·rename_i k e;have hp:=(Q7s (step k) B2 ks []).length_le;have rX:O4 [0] (rs++[(J3 (step k) B2 ks []).2])=List.range (J3 (step k) B2 ks []).1.length:=by
    rw[Q9d,hm,Z7e,cq,Z1v (step k) ks.length B2 ks [] _ rfl (ao _) (fun x hx=>.inl hx) (fun x hx=>by cases hx),range_add];congr 1;lia
   refine Z7q n _ _ rX fun s hs=>?_;rw[aC,aN,eF]at hs
   by_cases lt:s<rs.length
   ·rw[jo (cg lt)];exact h s lt
   ·have:s=rs.length:=by lia
    subst this;rw[jo (ao _),List.take_length,hm,br];exact(aJ.mp e).1
end
def V5u (w:Wf es rows):∀s,s<(E9 es rows).1.length->s<(O4 [0] ((E9 es rows).2.take s)).length:=by
 have h:=Z7q (step:=Q1u rows (G3 es rows)) es.length [(G3 es rows).getD 0 0] [] rfl (fun s hs=>absurd hs (g8 _));intro s hs;refine h s ?_;have:=(Z1m w).len;show s<(E9 es rows).2.length;rw[this];exact hs
def Q7l (w:Wf es rows):K5 (E9 es rows):=⟨Z1m w,W9m es rows,V5u w,fun i j hi hj ne=>W8o w hi hj ne⟩
theorem Y3x {k:Nat}(h:k<es.length):(es.map not).getD k false=!(es.getD k false):=by grind [aq,ah,ac]
def Y6u (w:C5 m):K5 (Q1c m):=by
 have L:=Q7l w;have el:(Q1c m).1.length=(E9 m.1 m.2).1.length:=by unfold Q1c;simp
 refine⟨?_,?_,?_,?_⟩
 ·exact⟨by rw[el];exact L.wf.len,by rw[el];exact L.wf.pos,L.wf.r4,fun r hr x hx=>by rw[el];exact L.wf.lt r hr x hx⟩
 ·rw[el];exact L.met
 ·rw[el];exact L.seen
 ·rw[el];intro i j hi hj ne;obtain⟨u,hu,h⟩:=L.apart i j hi hj ne;refine⟨u,hu,fun e=>h ?_⟩;have go:∀k,k<(E9 m.1 m.2).1.length->K6 (Q1c m).1 (Q1c m).2 k u=!K6 (E9 m.1 m.2).1 (E9 m.1 m.2).2 k u:=fun k hk=>by
   have lt:=Q9o L.wf u k hu hk;exact Y3x lt
  rw[go i hi,go j hj]at e;cases h1:K6 (E9 m.1 m.2).1 (E9 m.1 m.2).2 i u<;>cases h2:K6 (E9 m.1 m.2).1 (E9 m.1 m.2).2 j u<;>rw[h1,h2]at e<;>first |rfl |cases e
def V1g (wf:C5 m){w:M Nat}(hw:B1 w):B4 (Q1c m) w=!B4 m w:=by
 have L:=Q7l wf;have e:=Z5v wf hw;have lt:=Q9o L.wf w 0 hw L.wf.pos;rw[<-e];exact Y3x lt
def Z7u (w1:C5 m1)(w2:C5 m2):K5 (Y3 g m1 m2):=
 Q7l ((Q5d (step:=Q0n m1 m2) (N:=(PU m1 m2).length) (fun k h c hc=>Q4r w1 w2 h hc) (Q5e w1 w2) (ao _)).wf _)
theorem Z7f {R:Nat->Nat->Prop}(i1:∀{x x' y},R x y->R x' y->x=x')(i2:∀{x y y'},R x y->R x y'->y=y'){f1 f2:Nat->Nat}  :
  ∀(cs pre:M Nat) (k a b:Nat),(∀c∈cs,R (f1 c) (f2 c))->(∀x,x∈met++pre ↔ x<k)->(∀x,x<k->R x x) ->
   Z9 met pre (cs.map f1)=List.range' k a->Z9 met pre (cs.map f2)=List.range' k b->cs.map f1=cs.map f2/\∀x,x<k+a->R x x
 | [],pre,k,a,b,_,_,h2,h3,_=>⟨rfl,by
   cases a with
   |zero=>exact h2
   |succ a=>exact nomatch h3⟩
 |c::cs,pre,k,a,b,h0,h1,h2,h3,h4=>by
  have hc:=h0 c am;have um:∀c∈cs,R (f1 c) (f2 c):=fun d hd=>h0 d (ak _ hd);rw[ar,Z9]at h3 h4
  by_cases lt:f1 c<k
  ·have e:f1 c=f2 c:=i2 (h2 _ lt) hc;rw[aQ ((h1 _).mpr lt)]at h3;rw[<-e,aQ ((h1 _).mpr lt)]at h4;obtain⟨q1,q2⟩:=Z7f (R:=R) (f1:=f1) (f2:=f2) (fun a b=>i1 a b) (fun a b=>i2 a b) cs (pre++[f1 c]) k a b um (fun x=>by
    rw[<-bt,aH,aG,h1];exact⟨fun h=>h.elim id (fun e=>e▸lt),Or.inl⟩) h2 h3 h4
   exact⟨by rw[ar,ar,q1,<-e],q2⟩
  ·have vM:¬ f2 c<k:=fun h=>lt (i1 (h2 _ h) hc▸h);rw[aI (fun h=>lt ((h1 _).mp h))]at h3;rw[aI (fun h=>vM ((h1 _).mp h))]at h4;cases a with
   |zero=>exact nomatch h3
   |succ a=>
   cases b with
   |zero=>exact nomatch h4
   |succ b=>
   rw[List.range'_succ]at h3 h4;injection h3 with e1 h3
   injection h4 with e2 h4
   rw[e1,e2]at hc;rw[e1]at h3;rw[e2]at h4;obtain⟨q1,q2⟩:=Z7f (R:=R) (f1:=f1) (f2:=f2) (fun a b=>i1 a b) (fun a b=>i2 a b) cs (pre++[k]) (k+1) a b um (fun x=>by
    rw[<-bt,aH,aG,h1];lia) (fun x hx=>by
    by_cases e:x=k
    ·rw[e];exact hc
    ·exact h2 x (by lia)) h3 h4
   exact⟨by rw[ar,ar,q1,e1,e2],fun x hx=>q2 x (by lia)⟩
theorem Y5v:∀(rs:M (M Nat)) (met:M Nat),met <+: O4 met rs
 |[],_=>bC _
 |r::rs,met=>(cJ _ _).trans (Y5v rs _)
theorem Y5u:∀(rs qs:M (M Nat)) (met:M Nat),O4 met (rs++qs)=O4 (O4 met rs) qs
 |[],_,_=>rfl
 |r::rs,qs,met=>Y5u rs qs _
def K5.metTake (L:K5 m)(s:Nat):∃k,O4 [0] (m.2.take s)=List.range k:=by
 have h:O4 [0] (m.2.take s) <+: List.range m.1.length:=by
  rw[<-L.met]
  conv=>rhs;rw[<-pu s m.2,Y5u]
  exact Y5v _ _
 rw[List.prefix_iff_eq_take,List.take_range]at h;exact⟨_,h⟩
theorem Wf.rowEq (w:Wf es rows){s:Nat}(h:s<es.length):rows[s]?=some (B2.map (C3 rows s)):=by
 obtain⟨r,e,l,g⟩:=w.row h;rw[e];have g0:=(g 0 (?K)).1;have g1:=(g 1 (?K)).1;have g2:=(g 2 (?K)).1;have g3:=(g 3 (?K)).1
 match r,l with
 |[a,b,c,d],_=>
  injection g0 with g0;injection g1 with g1;injection g2 with g2;injection g3 with g3
  show some [a,b,c,d]=some [C3 rows s 0,C3 rows s 1,C3 rows s 2,C3 rows s 3];rw[<-g0,<-g1,<-g2,<-g3]
structure Q3m (m1 m2:F9)(i j:Nat):Prop where
 l1:i<m1.1.length
 l2:j<m2.1.length
 w:∀w,B1 w->K6 m1.1 m1.2 i w=K6 m2.1 m2.2 j w
def Q3m.step {i j:Nat}(h:Q3m m1 m2 i j)(w1:C5 m1)(w2:C5 m2)  (hc:c∈B2):Q3m m1 m2 (C3 m1.2 i c) (C3 m2.2 j c):=
 ⟨Q9n w1 h.l1 hc,Q9n w2 h.l2 hc,fun w hw=>h.w (c::w) fun d hd=>(av.mp hd).elim (fun e=>e▸hc) (hw d)⟩
def K5.inj1 (L:K5 m1){i i' j:Nat}(a:Q3m m1 m2 i j)(b:Q3m m1 m2 i' j):i=i':=by
 by_cases e:i=i'
 ·exact e
 ·obtain⟨w,hw,ne⟩:=L.apart i i' a.l1 b.l1 e;exact absurd ((a.w w hw).trans (b.w w hw).symm) ne
def K5.inj2 (L:K5 m2){i j j':Nat}(a:Q3m m1 m2 i j)(b:Q3m m1 m2 i j'):j=j':=by
 by_cases e:j=j'
 ·exact e
 ·obtain⟨w,hw,ne⟩:=L.apart j j' a.l2 b.l2 e;exact absurd ((a.w w hw).symm.trans (b.w w hw)) ne
theorem K5.takes (L1:K5 m1)(Lb:K5 m2)(h:∀w,B1 w->B4 m1 w=B4 m2 w):∀s,s<=m1.1.length->s<=m2.1.length ->
  m1.2.take s=m2.2.take s/\∀x,x<(O4 [0] (m1.2.take s)).length->Q3m m1 m2 x x
 |0,_,_=>⟨rfl,fun x hx=>by
  have e:x=0:=by simpa [O4]using hx
  rw[e];exact⟨L1.wf.pos,Lb.wf.pos,h⟩⟩
 |s+1,h1,h2=>by
  obtain⟨e,sm⟩:=K5.takes L1 Lb h s (by lia) (by lia);have r1:=L1.wf.rowEq (s:=s) h1;have r2:=Lb.wf.rowEq (s:=s) h2;have t1:m1.2.take (s+1)=m1.2.take s++[B2.map (C3 m1.2 s)]:=by rw[yw,r1];rfl
  have t2:m2.2.take (s+1)=m1.2.take s++[B2.map (C3 m2.2 s)]:=by rw[yw,r2,e];rfl
  obtain⟨k,ek⟩:=L1.metTake s;obtain⟨k1,uJ⟩:=L1.metTake (s+1);obtain⟨k2,xT⟩:=Lb.metTake (s+1);have ks:s<(O4 [0] (m1.2.take s)).length:=L1.seen s h1;rw[ek,br]at ks sm;have cut:∀{k':Nat}{l:M Nat},List.range k++l=List.range k'->l=List.range' k (k'-k):=fun {k' l} q=>by
   have js:k<=k':=by have:=congrArg List.length q;simp at this;lia
   have q2:List.range k'=List.range k++List.range' k (k'-k):=by
    have e:k'=k+(k'-k):=by lia
    conv=>lhs;rw[e,qm,<-List.range'_append_1]
    rw[qm,eM]
   rw[q2]at q;exact List.append_cancel_left q
  have n1:=cut (l:=Z9 (List.range k) [] (B2.map (C3 m1.2 s))) (by rw[<-uJ,t1,Q9d,ek]);have n2:=cut (l:=Z9 (List.range k) [] (B2.map (C3 m2.2 s))) (by rw[<-xT,t2,Q9d,ek]);obtain⟨q1,q2⟩:=Z7f (R:=Q3m m1 m2) (fun a b=>L1.inj1 a b) (fun a b=>Lb.inj2 a b) B2 [] k _ _ (fun c hc=>(sm s ks).step L1.wf Lb.wf hc) (fun x=>by simp) sm n1 n2;refine⟨by rw[t1,t2,q1],fun x hx=>q2 x ?_⟩;rw[uJ,br]at hx;lia
theorem K5.lenLe (L1:K5 m1)(Lb:K5 m2)(h:∀w,B1 w->B4 m1 w=B4 m2 w):m2.1.length<=m1.1.length:=by
 by_cases lt:m1.1.length<m2.1.length
 ·have t:=(L1.takes Lb h m1.1.length (ao _) (cg lt)).1;have:=Lb.seen _ lt;rw[<-t,dJ (dQ L1.wf.len),L1.met,br]at this;lia
 ·lia
def K5.eq (L1:K5 m1)(Lb:K5 m2)(h:∀w,B1 w->B4 m1 w=B4 m2 w):m1=m2:=by
 have el:m1.1.length=m2.1.length:=Nat.le_antisymm (Lb.lenLe L1 fun w hw=>(h w hw).symm) (L1.lenLe Lb h);obtain⟨t,sm⟩:=L1.takes Lb h m1.1.length (ao _) (dQ el);have t1:m1.2.take m1.1.length=m1.2:=dJ (dQ L1.wf.len);rw[t1,L1.met,br]at sm;rw[t1,el,dJ (dQ Lb.wf.len)]at t;refine Prod.ext (yR el fun i a b=>?_) t;have:=(sm i a).w [] B1.nil;unfold K6 at this;rw[show run (C3 m1.2) i []=i from rfl,show run (C3 m2.2) i []=i from rfl]at this;simpa [aq,a,b]using this
def W8p (L:K5 m):E9 m.1 m.2=m:=(Q7l L.wf).eq L fun w hw=>Z5v L.wf hw
def L9 (n:Nat)(rows:M (M Nat))(S:M Nat)(c:Nat):M Nat:=(List.range n).filter fun s=>decide (C3 rows s c∈S)
def R5 (es:M Bool):M Nat:=(List.range es.length).filter fun s=>es.getD s false
def Q2f:M Nat->M (M Nat)
 |[]=>[[]]
 |x::xs=>Q2f xs++(Q2f xs).map (x::·)
theorem Y9r:∀xs,(Q2f xs).length=2^xs.length
 |[]=>rfl
 |x::xs=>by rw[Q2f,aC,ag,Y9r xs,aN,iR];lia
theorem Z1c (p:Nat->Bool):∀xs,xs.filter p∈Q2f xs
 |[]=>by simp[Q2f]
 |x::xs=>by
  rw[Q2f,cE];split
  ·exact aH.mpr (.inr (au.mpr ⟨_,Z1c p xs,rfl⟩))
  ·exact aH.mpr (.inl (Z1c p xs))
def Q1 (n:Nat):M (M Nat):=Q2f (List.range n)
def Y9z (n:Nat):(Q1 n).length=2^n:=by rw[Q1,Y9r,br]
def Z7z (n:Nat)(rows:M (M Nat))(S:M Nat)(c:Nat):L9 n rows S c∈Q1 n:=Z1c _ _
def Z7y (es:M Bool):R5 es∈Q1 es.length:=Z1c _ _
def P9 (m:F9):F9:=Q3o (Q1 m.1.length) (L9 m.1.length m.2) (R5 m.1) (fun S=>decide (0∈S))
def B1.rev {w:M Nat}(h:B1 w):B1 w.reverse:=fun c hc=>h c (j4.mp hc)
def srun (wf:C5 m)(w:M Nat):B1 w->∀s,s∈run (L9 m.1.length m.2) (R5 m.1) w ↔ s<m.1.length/\K6 m.1 m.2 s w.reverse=true:=by
 refine Q9s (P:=fun w=>B1 w->∀s,s∈run (L9 m.1.length m.2) (R5 m.1) w ↔ s<m.1.length/\K6 m.1 m.2 s w.reverse=true) ?_ ?_ w
 ·intro _ s;show s∈R5 m.1 ↔ _;rw[R5,bN,aZ]
  rfl
 ·intro w c ih hw s;have rL:B1 w:=fun d hd=>hw d (aH.mpr (.inl hd));have hc:c∈B2:=hw c ?G;rw[Q4s];show s∈L9 _ _ _ c ↔ _;rw[L9,bN,aZ,dy,ih rL,tu];show _ ↔ s<_/\K6 m.1 m.2 (C3 m.2 s c) w.reverse=true;constructor
  ·rintro ⟨h1,_,h2⟩;exact⟨h1,h2⟩
  ·rintro ⟨h1,h2⟩;exact⟨h1,Q9n wf h1 hc,h2⟩
def W0a (wf:C5 m){w:M Nat}(hw:B1 w):B4 (P9 m) w=B4 m w.reverse:=by
 rw[P9,Y2k (fun k _ c _=>Z7z _ _ k c) (Z7y _) hw];have h:=srun wf w hw 0;rw[cM,dy,h];exact⟨fun x=>x.2,fun x=>⟨wf.pos,x⟩⟩
theorem Z6n {x:Nat}:∀(r pre:M Nat),x∈Z9 met pre r->x∈r
 |[],pre,h=>by rw[Z9]at h;cases h
 |y::r,pre,h=>by
  rw[Z9]at h;split at h
  ·exact ak _ (Z6n r _ h)
  ·rcases av.mp h with rfl |h
   ·exact am
   ·exact ak _ (Z6n r _ h)
theorem Y5q {x:Nat}:∀(rs:M (M Nat)) (met:M Nat),x∈O4 met rs->x∈met\/∃r∈rs,x∈r
 |[],met,h=>.inl h
 |r::rs,met,h=>by
  rw[O4]at h;rcases Y5q rs _ h with h |⟨q,hq,h⟩
  ·rcases aH.mp h with h |h
   ·exact .inl h
   ·exact .inr ⟨r,am,Z6n _ _ h⟩
  ·exact .inr ⟨q,ak _ hq,h⟩
theorem K5.reach (L:K5 m)(s:Nat):s<m.1.length->∃w,B1 w/\stW m w=s:=by
 induction s using Nat.strongRecOn with
 |_ s ih=>
  intro hs;obtain⟨k,hk⟩:=L.metTake s;have h:=L.seen s hs;rw[hk,br]at h;have hm:s∈O4 [0] (m.2.take s):=by rw[hk];exact aZ.mpr h
  rcases Y5q _ _ hm with h0 |⟨r,hr,hx⟩
  ·rw[aG.mp h0];exact⟨[],B1.nil,rfl⟩
  ·obtain⟨i,hi,e⟩:=be.mp hr;rw[j6]at hi;have oB:i<s:=by lia
   have uc:i<m.1.length:=by lia
   rw[List.getElem_take]at e;have kS:=L.wf.rowEq uc;have ip:i<m.2.length:=by lia
   rw[ac ip,e]at kS;rw[aA kS]at hx;obtain⟨c,hc,xb⟩:=au.mp hx;obtain⟨w,hw,wu⟩:=ih i oB uc;refine⟨w++[c],hw.snoc hc,?_⟩;rw[stW,Q4s];show C3 m.2 (stW m w) c=s;rw[wu,xb]
def V6m (wf:C5 m)  (hS:∀s∈S,s<m.1.length)(w:M Nat):B1 w->∀s,s∈run (L9 m.1.length m.2) S w ↔ s<m.1.length/\run (C3 m.2) s w.reverse∈S:=by
 refine Q9s (P:=fun w=>B1 w->∀s,s∈run (L9 m.1.length m.2) S w ↔ s<m.1.length/\run (C3 m.2) s w.reverse∈S) ?_ ?_ w
 ·intro _ s;exact⟨fun h=>⟨hS s h,h⟩,fun h=>h.2⟩
 ·intro w c ih hw s;have rL:B1 w:=fun d hd=>hw d (aH.mpr (.inl hd));have hc:c∈B2:=hw c ?G;rw[Q4s];show s∈L9 _ _ _ c ↔ _;rw[L9,bN,aZ,dy,ih rL,tu];show _ ↔ s<_/\run (C3 m.2) (C3 m.2 s c) w.reverse∈S;constructor
  ·rintro ⟨h1,_,h2⟩;exact⟨h1,h2⟩
  ·rintro ⟨h1,h2⟩;exact⟨h1,Q9n wf h1 hc,h2⟩
theorem Q9w:∀(xs S:M Nat),S∈Q2f xs->∃p:Nat->Bool,xs.Nodup->S=xs.filter p
 |[],S,h=>by rw[Q2f,aG]at h;subst h;exact⟨fun _=>true,fun _=>rfl⟩
 |x::xs,S,h=>by
  rw[Q2f]at h;rcases aH.mp h with h |h
  ·obtain⟨p,hp⟩:=Q9w xs S h;refine⟨fun y=>if y=x then false else p y,fun nd=>?_⟩;have ⟨n1,n2⟩:=bo.mp nd;rw[cE,aI ?G,hp n2];exact iE fun y hy=>by rw[aI (by rintro rfl;exact n1 hy)]
  ·obtain⟨T,hT,rfl⟩:=au.mp h;obtain⟨p,hp⟩:=Q9w xs T hT;refine⟨fun y=>if y=x then true else p y,fun nd=>?_⟩;have ⟨n1,n2⟩:=bo.mp nd;rw[cE,aQ ?G,hp n2];congr 1;exact iE fun y hy=>by rw[aI (by rintro rfl;exact n1 hy)]
def V7r {T:M Nat}(hS:S∈Q1 n)(hT:T∈Q1 n)(h:∀s,s<n->(s∈S ↔ s∈T)):S=T:=by
 obtain⟨p,hp⟩:=Q9w _ _ hS;obtain⟨q,hq⟩:=Q9w _ _ hT;have hp:=hp fJ;have hq:=hq fJ;rw[hp,hq];refine iE fun s hs=>?_;have:=h s (aZ.mp hs);rw[hp,hq,bN,bN]at this;rw[cM];exact⟨fun x=>(this.mp ⟨hs,x⟩).2,fun x=>(this.mpr ⟨hs,x⟩).2⟩
def Z8t (hS:S∈Q1 n):∀s∈S,s<n:=fun s h=>by
 obtain⟨p,hp⟩:=Q9w _ _ hS;rw[hp fJ]at h;exact aZ.mp (bN.mp h).1
def Z2h (m:F9):Q2n (L9 m.1.length m.2) (R5 m.1) (Q1 m.1.length) (S0 (Q1 m.1.length).length (L9 m.1.length m.2) (R5 m.1)).1 (S0 (Q1 m.1.length).length (L9 m.1.length m.2) (R5 m.1)).2:=
 Q5d (fun k _ c _=>Z7z _ _ k c) (Z7y _) (ao _)
def Z7d (m:F9):C5 (P9 m):=(Z2h m).wf _
def V4l (L:K5 m):K5 (P9 m):=by
 have W:=Z2h m;have el:(P9 m).1.length=(S0 (Q1 m.1.length).length (L9 m.1.length m.2) (R5 m.1)).1.length:=by simp[P9,Q3o]
 refine⟨Z7d m,?_,fun s hs=>?_,fun i j hi hj ne=>?_⟩
 ·rw[el];exact Y5x (α:=M Nat) (step:=L9 m.1.length m.2) (start:=R5 m.1) (N:=(Q1 m.1.length).length)
 ·refine Z7q (step:=L9 m.1.length m.2) (Q1 m.1.length).length [R5 m.1] [] rfl (fun s hs=>absurd hs (g8 _)) s ?_;have:=W.len;show s<(S0 (Q1 m.1.length).length (L9 m.1.length m.2) (R5 m.1)).2.length;rw[this,<-el];exact hs
 ·rw[el]at hi hj;have ei:=ac hi;have ej:=ac hj;have c6:∀{i:Nat}{S:M Nat}{w:M Nat},B1 w->(S0 (Q1 m.1.length).length (L9 m.1.length m.2) (R5 m.1)).1[i]?=some S->S∈Q1 m.1.length->(K6 (P9 m).1 (P9 m).2 i w=true ↔ stW m w.reverse∈S):=by
   intro i S w hw e hS;have h:=W.run w i S hw e;have e2:K6 (P9 m).1 (P9 m).2 i w=decide (0∈run (L9 m.1.length m.2) S w):=by
    unfold K6 P9 Q3o;show(List.map _ _).getD (run (C3 _) i w) false=_;rw[aq,ah,h];rfl
   rw[e2,dy,V6m L.wf (Z8t hS) w hw 0];exact⟨fun x=>x.2,fun x=>⟨L.wf.pos,x⟩⟩
  have uh:=W.sub _ (aY hi);have ug:=W.sub _ (aY hj);have dO:(S0 (Q1 m.1.length).length (L9 m.1.length m.2) (R5 m.1)).1[i]≠(S0 (Q1 m.1.length).length (L9 m.1.length m.2) (R5 m.1)).1[j]:=fun e=>ne ((j7 W.nd).mp e);refine ff fun no=>dO (V7r uh ug fun s hs=>?_);obtain⟨w,hw,rfl⟩:=L.reach s hs;have a1:=c6 hw.rev ei uh;have a2:=c6 hw.rev ej ug;rw[eB]at a1 a2;rw[<-a1,<-a2];have:K6 (P9 m).1 (P9 m).2 i w.reverse=K6 (P9 m).1 (P9 m).2 j w.reverse:=ff fun h=>no ⟨_,hw.rev,h⟩;rw[this]
def Q2o (c:Nat):Nat->M (M Nat)->M (M Nat)->M (M Nat)
 |_,[],B=>B
 |s,r::rs,B=>Q2o c (s+1) rs (X8 B (r.getD c 0) s)
def W0 (rows:M (M Nat))(c:Nat):M (M Nat):=Q2o c 0 rows (rows.map fun _=>[])
def Y1u (B:M (M Nat))(g s:Nat):(X8 B g s).length=B.length:=by rw[X8,bB]
theorem Y2u (c:Nat):∀(rs:M (M Nat)) (s:Nat) (B:M (M Nat)),(Q2o c s rs B).length=B.length
 |[],s,B=>rfl
 |r::rs,s,B=>by rw[Q2o,Y2u c rs,Y1u]
def W5f (rows:M (M Nat))(c:Nat):(W0 rows c).length=rows.length:=by rw[W0,Y2u,ag]
def W9h {B:M (M Nat)}{g h s x:Nat}(hg:g<B.length):x∈(X8 B h s).getD g [] ↔ x∈B.getD g []\/(x=s/\h=g):=by
 unfold X8;rw[aq,ft]
 by_cases e:h=g
 ·subst e;rw[aQ rfl,aQ hg];simp
 ·rw[aI e,aq];simp[e]
theorem Y5m {g x:Nat}:∀(rs:M (M Nat)) (s:Nat) (B:M (M Nat)),g<B.length->(x∈(Q2o c s rs B).getD g [] ↔ x∈B.getD g []\/∃i,i<rs.length/\x=s+i/\C3 rs i c=g)
 |[],s,B,hg=>by simp[Q2o]
 |r::rs,s,B,hg=>by
  rw[Q2o,Y5m rs (s+1) _ (by rw[Y1u];exact hg),W9h hg,or_assoc];refine or_congr Iff.rfl ⟨?_,?_⟩
  ·rintro (⟨rfl,h⟩ |⟨i,hi,rfl,h⟩)
   ·exact⟨0,by simp,rfl,h⟩
   ·exact⟨i+1,by simpa using hi,by lia,h⟩
  ·rintro ⟨i,hi,rfl,h⟩;cases i with
   |zero=>exact .inl ⟨rfl,h⟩
   |succ i=>exact .inr ⟨i,by simpa using hi,by lia,h⟩
theorem Z6k {g x:Nat}(hg:g<rows.length):x∈(W0 rows c).getD g [] ↔ x<rows.length/\C3 rows x c=g:=by
 rw[W0,Y5m rows 0 _ (by rw[ag];exact hg)];constructor
 ·rintro (h |⟨i,hi,rfl,h⟩)
  ·rw[aq,ah,ac hg]at h;cases h
  ·rw[eM];exact⟨hi,h⟩
 ·rintro ⟨h1,h2⟩;exact .inr ⟨x,h1,by lia,h2⟩
def W9l (wf:C5 m)  (hS:∀s∈S,s<m.1.length){x:Nat}:x∈S.flatMap (fun s=>(W0 m.2 c).getD s []) ↔ x∈L9 m.1.length m.2 S c:=by
 rw[yQ,L9,bN,aZ,dy];constructor
 ·rintro ⟨s,hs,h⟩;obtain⟨h1,h2⟩:=(Z6k (by rw[wf.len];exact hS s hs)).mp h;rw[wf.len]at h1;exact⟨h1,h2▸hs⟩
 ·rintro ⟨h1,h2⟩;exact⟨_,h2,(Z6k (by rw[wf.len];exact hS _ h2)).mpr ⟨by rw[wf.len];exact h1,rfl⟩⟩
def V6o (n:Nat)(rows:M (M Nat))(S:M Nat)(c:Nat):(L9 n rows S c).Pairwise (·<·):=List.Pairwise.filter _ nF
theorem Y8y:∀{xs ys:M Nat},xs.Pairwise (·<·)->ys.Pairwise (·<·)->(∀x,x∈xs ↔ x∈ys)->xs=ys
 |[],[],_,_,_=>rfl
 |[],y::ys,_,_,h=>by have:=(h y).mpr am;cases this
 |x::xs,[],_,_,h=>by have:=(h x).mp am;cases this
 |x::xs,y::ys,p,q,h=>by
  have ⟨p1,p2⟩:=vj.mp p;have ⟨q1,q2⟩:=vj.mp q;have e:x=y:=by
   rcases av.mp ((h x).mp am)with e |a
   ·exact e
   ·rcases av.mp ((h y).mpr am)with e |b
    ·exact e.symm
    ·have:=q1 x a;have:=p1 y b;lia
  subst e;congr 1;refine Y8y p2 q2 fun z=>⟨fun hz=>?_,fun hz=>?_⟩
  ·rcases av.mp ((h z).mp (ak _ hz))with e |a
   ·subst e;have:=p1 z hz;lia
   ·exact a
  ·rcases av.mp ((h z).mpr (ak _ hz))with e |a
   ·subst e;have:=q1 z hz;lia
   ·exact a
structure MV (w:WE)(τ:B5)(m:F9)(n:Nat):Prop where
 L:K5 m
 le:m.1.length<=n
 q:∀Q:R->Prop,Q (.st (mD m))->w τ Q
section
variable {w1 w2 w:WE}
def MV.var {i:Nat}(L:K5 m)(le:m.1.length<=n)(h:τ[i]?=some (some (.dat (mD m)))):MV (wV i) τ m n:=⟨L,le,fun Q q=>by rw[B8];exact⟨_,h,q⟩⟩
def Q9x (L1:K5 m1)(Lb:K5 m2)(l1:m1.1.length<=n1)(l2:m2.1.length<=n2)(h:n1*n2<=20000):Two m1 m2:=⟨L1.wf,Lb.wf,aO (eX l1 l2) h⟩
def MV.side (h1:MV w1 τ m1 n1)(h2:MV w2 τ m2 n2)(h:n1*n2<=20000:=by decide):MV (B9 (spS g) (A0 w1 (A0 w2 A2))) τ (Y3 g m1 m2) (n1*n2):=
 ⟨Z7u h1.L.wf h2.L.wf,aO (Z2l h1.L.wf h2.L.wf) (eX h1.le h2.le),fun Q q=>by
  simp only[R0,C7,C6];exact h1.q _ (h2.q _ ⟨rfl,m1,m2,rfl,Q9x h1.L h2.L h1.le h2.le h,q⟩)⟩
theorem V1f (w:C5 m):(Q1c m).1.length<=m.1.length:=by
 have:=Q5t w;have e:(Q1c m).1.length=(E9 m.1 m.2).1.length:=by unfold Q1c;simp
 lia
def W2z (h1:MV w1 τ m n)(h:n<=20000:=by decide):MV (B9 Q9t (A0 w1 A2)) τ (Q1c m) n:=
 ⟨Y6u h1.L.wf,aO (V1f h1.L.wf) h1.le,fun Q q=>by
  simp only[R0,C7,C6];exact h1.q _ ⟨rfl,m,rfl,h1.L.wf,aO h1.le h,q⟩⟩
theorem W5p (m:F9):D.depth (mD m)<=59:=by
 have h0:∀l:M Bool,Dqdepths (l.map D.bl)<=0:=fun l=>by
  induction l with
  |nil=>exact ao _
  |cons a l ih=>simp only[ar,Dqdepths,D.depth];lia
 have h1:∀l:M Nat,Dqdepths (l.map iD)<=0:=fun l=>by
  induction l with
  |nil=>exact ao _
  |cons a l ih=>simp only[ar,Dqdepths,D.depth];lia
 have h2:∀l:M (M Nat),Dqdepths (l.map rD)<=1:=fun l=>by
  induction l with
  |nil=>exact bz _
  |cons a l ih=>simp only[ar,Dqdepths,D.depth];have:=h1 a;lia
 have a:=h0 m.1;have b:=h2 m.2;simp only[mD,rsD,D.depth,Dqdepths];lia
def No (t:WT)(τ:B5):Prop:=∀Q:Bool->Prop,Q false->t τ Q
def No.or {t u:WT}(h1:No t τ)(h2:No u τ):No (O6 t u) τ:=fun Q q=>by
 rw[s_or];exact h1 _ (by rw[aI (?K)];exact h2 _ q)
def No.skip {t:WT}{ws:WS}{E:J4}(h:No t τ)(q:E.nx τ):K8 t ws K9 E τ:=by
 rw[Q2d];exact h _ (by rw[aI (?K)];exact q)
def W3a (h1:MV w1 τ m1 n1)(h2:MV w2 τ m2 n2)(e:∀u,B1 u->B4 m1 u=true->B4 m2 u=true){Q:R->Prop}(q:Q (.st (.bl true)))(h:n1*n2<=20000:=by decide):B9 sp_within (A0 w1 (A0 w2 A2)) τ Q:=by
 simp only[R0,C7,C6];refine h1.q _ (h2.q _ ⟨rfl,m1,m2,rfl,Q9x h1.L h2.L h1.le h2.le h,?_⟩);have:F8 G5 m1 m2=none:=(Q3r h1.L.wf h2.L.wf).mpr fun u hu=>by
  cases a:B4 m1 u with
  |false=>rfl
  |true=>rw[e u hu a];rfl
 rw[this];exact q
def Y6f (w1:C5 m1)(w2:C5 m2){u:M Nat}(h:B1 u):B4 (Y3 gOr m1 m2) u=(B4 m1 u||B4 m2 u):=Z2m w1 w2 h
def Z6r (w1:C5 m1)(w2:C5 m2){u:M Nat}(h:B1 u):B4 (Y3 M5 m1 m2) u=(B4 m1 u&&B4 m2 u):=Z2m w1 w2 h
end
abbrev W3m:M Str:=["machine","ends","rows"]
def W1b:WE:=(A5 C8 (A5 C8 (wV 2) (wV 0)) (wV 1))
def Y0b:WE:=(A5 C8 (wV 1) (wV 0))
def Z9t (dh:J9)  (Q7v:F5):WS:=(A9 (Q4x (wV 0) (M6 2 (D7 (B7 1) (D7 (B7 2) N2)))) (F7 (W0h dh 2 1 [("rows",2)] [("ends",1)] W1b Y0b Q7v (wC (.int 0)))))
def E5 (w:M Nat):Nat:=w.foldl (fun n c=>4*n+c+1) 0
def Q9f (w:M Nat)(c:Nat):E5 (w++[c])=4*E5 w+c+1:=by unfold E5;rw[iC];rfl
theorem Q5o (h:c∈B2):c<4:=by grind [av,aU]
theorem V7y (wf:C5 m){w:M Nat}(hw:B1 w)(hl:m.1.length<=w.length):∃i j,i<j/\j<=m.1.length/\stW m (w.take i)=stW m (w.take j):=by
 refine ff fun no=>?_;have nd:((List.range (m.1.length+1)).map fun i=>stW m (w.take i)).Nodup:=by
  rw[List.nodup_iff_pairwise_ne,iB];refine List.Pairwise.imp_of_mem (R:=fun a b=>a<b) (fun {a b} ha hb h e=>no ⟨a,b,h,?_,e⟩) nF;have:=aZ.mp hb;lia
 have:=nd.length_le_of_subset (l₂:=List.range m.1.length) fun x hx=>by
  obtain⟨i,_,rfl⟩:=au.mp hx;exact aZ.mpr (V6p wf _ fun c hc=>hw c (qo hc))
 simp at this;lia
theorem W3v (m:F9){w:M Nat}{i j:Nat}(e:stW m (w.take i)=stW m (w.take j)):B4 m (w.take i++w.drop j)=B4 m w:=by grind [stW,pu,Q4s,B4]
def B1.parts {w:M Nat}(h:B1 w)(i j:Nat):B1 (w.take i++w.drop j):=fun c hc=>(aH.mp hc).elim (fun q=>h c (qo q)) fun q=>h c (List.mem_of_mem_drop q)
theorem cut (wf:C5 m){w:M Nat}(hw:B1 w)(ha:B4 m w=true)(hl:m.1.length<=w.length):∃u,B1 u/\B4 m u=true/\u.length<w.length/\w.length<=u.length+m.1.length:=by
 obtain⟨i,j,h1,h2,e⟩:=V7y wf hw hl;refine⟨w.take i++w.drop j,hw.parts i j,by rw[W3v m e];exact ha,?_,?_⟩<;>(rw[aC,j6,List.length_drop];lia)
section
variable [DecidableEq α]{step:α->Nat->α}{start:α}{fin:α->Bool}
structure OkT (step:α->Nat->α)(start:α)(T:M (α×Str))(ws:M (M Nat)):Prop where
 len:ws.length=T.length
 at_:∀(i:Nat) (w:M Nat),ws[i]?=some w->T[i]?=some (run step start w,G7 w)/\B1 w
 ord:ws.Pairwise fun a b=>E5 a<E5 b
def Z7h (w:M Nat)(c:Nat):run step start (w++[c])=step (run step start w) c:=by rw[Q4s];rfl
theorem Z2c {w:M Nat}(hw:B1 w)  (hc:c∈B2){T:M (α×Str)}  (Ab:OkT step start T ws)(hb:∀v∈ws,E5 v<=4*E5 w+c):
  ∃vs,ws <+: vs/\OkT step start (W7 T (step (run step start w) c) (G7 w++W4 c)) vs/\(∀v∈vs,E5 v<=4*E5 w+c+1)/\∃v∈vs,run step start v=step (run step start w) c/\E5 v<=E5 (w++[c]):=by
 unfold W7;split
 ·rename_i h;obtain⟨q,hq,e⟩:=au.mp h;obtain⟨i,hi,e2⟩:=be.mp hq;have ig:i<ws.length:=by rw[Ab.len];exact hi
  obtain⟨a1,a2⟩:=Ab.at_ i _ (ac ig);rw[ac hi,e2]at a1;have e3:q=(run step start ws[i],G7 ws[i]):=aA a1;refine⟨ws,bC _,Ab,fun v hv=>dL (hb v hv),ws[i],aY ig,?_,?_⟩
  ·rw[<-e,e3]
  ·rw[Q9f];have:=hb _ (aY ig);lia
 ·refine⟨ws++[w++[c]],cJ _ _,⟨by simp[Ab.len],fun i v e=>?_,?_⟩,fun v hv=>?_,w++[c],by simp,Z7h w c,ao _⟩
  ·rcases bf i ws.length with h |h
   ·rw[aB h]at e;obtain⟨a1,a2⟩:=Ab.at_ i v e;exact⟨by rw[aB (by rw[<-Ab.len];exact h)];exact a1,a2⟩
   ·rw[aK h]at e;have hz:i-ws.length=0:=by
     rcases eT (i-ws.length)with z |z
     ·exact z
     ·rw[aF.mpr (by simp;lia)]at e;cases e
    rw[hz]at e;cases e;refine⟨?_,hw.snoc hc⟩;rw[aK (by rw[<-Ab.len];exact h),<-Ab.len,hz,Z7h,Y9u];rfl
  ·rw[List.pairwise_append];refine⟨Ab.ord,by simp,fun a ha b iN=>?_⟩;rw[aG.mp iN,Q9f];have:=hb a ha;lia
  ·rcases aH.mp hv with h |h
   ·exact dL (hb v h)
   ·rw[aG.mp h,Q9f];exact ao _
def V0r {w:M Nat}(hw:B1 w){T:M (α×Str)}  (Ab:OkT step start T ws)(hb:∀v∈ws,E5 v<=4*E5 w):
  ∃vs,ws <+: vs/\OkT step start (goT (step (run step start w)) (G7 w) V9 T) vs/\(∀v∈vs,E5 v<=4*E5 w+4)/\∀c∈B2,∃v∈vs,run step start v=step (run step start w) c/\E5 v<=E5 (w++[c]):=by
 obtain⟨v0,p0,O0,b0,r0⟩:=Z2c hw (c:=0) (?K) Ab hb;obtain⟨v1,p1,O1,b1,r1⟩:=Z2c hw (c:=1) (?K) O0 b0;obtain⟨v2,p2,O2,b2,r2⟩:=Z2c hw (c:=2) (?K) O1 b1;obtain⟨v3,p3,O3,b3,r3⟩:=Z2c hw (c:=3) (?K) O2 b2;refine⟨v3,p0.trans (p1.trans (p2.trans p3)),O3,b3,fun c hc=>?_⟩;simp only[B2,av,aU,bM]at hc;rcases hc with rfl |rfl |rfl |rfl
 ·obtain⟨v,h1,h2⟩:=r0;exact⟨v,(p1.trans (p2.trans p3)).subset h1,h2⟩
 ·obtain⟨v,h1,h2⟩:=r1;exact⟨v,(p2.trans p3).subset h1,h2⟩
 ·obtain⟨v,h1,h2⟩:=r2;exact⟨v,p3.subset h1,h2⟩
 ·exact r3
structure FtM (step:α->Nat->α)(start:α)(fin:α->Bool)(T:M (α×Str))(ws:M (M Nat))(p:Nat):Prop where
 ok:OkT step start T ws
 zero:ws[0]?=some []
 past:∀(i:Nat) (w:M Nat),i<p->ws[i]?=some w->fin (run step start w)=false/\∀c∈B2,∃v∈ws,run step start v=step (run step start w) c/\E5 v<=E5 (w++[c])
 top:∀w,ws[p]?=some w->∀v∈ws,E5 v<=4*E5 w
theorem W6h {T:M (α×Str)}  {p:Nat}(F:FtM step start fin T ws p)(w:M Nat):B1 w->(∃v∈ws,run step start v=run step start w/\E5 v<=E5 w)\/∃(i:Nat) (v:M Nat),p<=i/\ws[i]?=some v/\E5 v<=E5 w:=by
 refine Q9s (P:=fun w=>B1 w->(∃v∈ws,run step start v=run step start w/\E5 v<=E5 w)\/∃(i:Nat) (v:M Nat),p<=i/\ws[i]?=some v/\E5 v<=E5 w) ?_ ?_ w
 ·intro _;exact .inl ⟨[],az F.zero,rfl,ao _⟩
 ·intro u c ih hw;have hc:=hw c ?G;have bU:E5 u<E5 (u++[c]):=by rw[Q9f];lia
  rcases ih fun d hd=>hw d (by simp[hd])with⟨v,hv,e,h⟩ |⟨i,v,hi,e,h⟩
  ·obtain⟨j,hj,e2⟩:=be.mp hv;have ej:ws[j]?=some v:=by rw[ac hj,e2]
   rcases bf j p with hp |hp
   ·obtain⟨_,q⟩:=F.past j v hp ej;obtain⟨x,x1,x2,x3⟩:=q c hc;refine .inl ⟨x,x1,by rw[x2,Z7h,e],?_⟩;rw[Q9f]at x3 ⊢;lia
   ·exact .inr ⟨j,v,hp,ej,by lia⟩
  ·exact .inr ⟨i,v,hi,e,by lia⟩
theorem Y6t (h:ws.Pairwise fun a b=>E5 a<E5 b){i j:Nat}{a b:M Nat}(hi:ws[i]?=some a)(hj:ws[j]?=some b)(hl:i<=j):E5 a<=E5 b:=by
 rcases bf i j with h1 |h1
 ·obtain⟨p1,q1⟩:=aJ.mp hi;obtain⟨p2,q2⟩:=aJ.mp hj;have:=lA.mp h i j p1 p2 h1;rw[q1,q2]at this;lia
 ·rw[show i=j by lia,hj]at hi;cases hi;exact ao _
theorem Y3w:∀(n:Nat) (T:M (α×Str)) (ws:M (M Nat)) (p:Nat),FtM step start fin T ws p->∀t,ftN step fin n T p=some t->∃w,B1 w/\t=G7 w/\fin (run step start w)=true/\∀u,B1 u->fin (run step start u)=true->E5 w<=E5 u
 |0,T,ws,p,F,t,e=>by rw[ftN]at e;cases e
 |n+1,T,ws,p,F,t,e=>by
  rw[ftN]at e;split at e
  ·cases e
  ·rename_i q hq;obtain⟨k,s⟩:=q;have hpl:p<ws.length:=by rw[F.ok.len];obtain⟨h,_⟩:=aJ.mp hq;exact h
   have ew:=ac hpl;obtain⟨a1,a2⟩:=F.ok.at_ p _ ew;rw[hq]at a1;have ek:k=run step start ws[p]:=congrArg Prod.fst (aA a1);have es:s=G7 ws[p]:=congrArg Prod.snd (aA a1)
   by_cases hf:fin k=true
   ·simp only[hf,pk]at e;cases e;refine⟨ws[p],a2,es,by rw[<-ek];exact hf,fun u hu wZ=>?_⟩;rcases W6h F u hu with⟨v,hv,e1,h⟩ |⟨i,v,hi,e1,h⟩
    ·obtain⟨j,hj,e2⟩:=be.mp hv;have ej:ws[j]?=some v:=by rw[ac hj,e2]
     have wy:p<=j:=by
      rcases bf j p with z |z
      ·have:=(F.past j v z ej).1;rw[e1,wZ]at this;cases this
      ·exact z
     exact aO (Y6t F.ok.ord ew ej wy) h
    ·exact aO (Y6t F.ok.ord ew e1 hi) h
   ·have oF:fin k=false:=by simpa using hf
    simp only[oF,gF,cm]at e;obtain⟨vs,pre,Ab,b,r⟩:=V0r (step:=step) (start:=start) a2 F.ok (F.top _ ew);rw[ek,es]at e;obtain⟨add,jZ⟩:=pre;have get:∀{i:Nat}{v:M Nat},ws[i]?=some v->vs[i]?=some v:=fun {i v} q=>by
     rw[<-jZ,aB]
     ·exact q
     ·obtain⟨h,_⟩:=aJ.mp q;exact h
    have iQ:∀{i:Nat}{v:M Nat},i<ws.length->vs[i]?=some v->ws[i]?=some v:=fun {i v} hi q=>by
     rw[<-jZ,aB hi]at q;exact q
    refine Y3w n _ vs (p+1) ⟨Ab,get F.zero,fun i w hi q=>?_,fun w q v hv=>?_⟩ t e
    ·have q':=iQ (by lia) q;rcases bf i p with z |z
     ·obtain⟨f1,f2⟩:=F.past i w z q';exact⟨f1,fun c hc=>let ⟨v,v1,v2⟩:=f2 c hc;⟨v,by rw[<-jZ];exact aH.mpr (.inl v1),v2⟩⟩
     ·have:i=p:=by lia
      subst this;rw[ew]at q';cases q';exact⟨by rw[<-ek];exact oF,r⟩
    ·have h1:=b v hv;obtain⟨g1,g2⟩:=aJ.mp q;have:=lA.mp Ab.ord p (p+1) (by lia) g1 (by lia);have e3:vs[p]?=some ws[p]:=get ew;rw[ac (by lia)]at e3;rw[aA e3,g2]at this;lia
theorem Y3p {t:Str}(h:Z6 n step start fin=some t):∃w,B1 w/\t=G7 w/\fin (run step start w)=true/\∀u,B1 u->fin (run step start u)=true->E5 w<=E5 u:=by
 refine Y3w n _ [[]] 0 ⟨⟨rfl,fun i w e=>?_,by simp⟩,rfl,fun i w hi=>by lia,fun w e v hv=>?_⟩ t h
 ·cases i with
  |zero=>cases e;exact⟨rfl,B1.nil⟩
  |succ i=>cases e
 ·cases e;rw[aG.mp hv];exact bz _
end
section
variable (wf:C5 m)
include wf
theorem Y9p:∀k∈List.range m.1.length,∀c∈B2,C3 m.2 k c∈List.range m.1.length:=by grind [Q9n]
def W1c:0∈List.range m.1.length:=aZ.mpr wf.pos
end
def Z1d (m:F9):Ac Str:=Z6 m.1.length (C3 m.2) 0 fun s=>m.1.getD s false
def Q7w:D5:=fun rs Pr=>∃m:F9,rs=[.st (mD m)]/\C5 m/\m.1.length<=20000/\Pr (.st (sD (Z1d m)))
def W9r:V5 Q7w:=by rintro rs P Q f ⟨m,e,h1,h2,h3⟩;exact⟨m,e,h1,h2,f _ h3⟩
def W8j (wf:C5 m){k:Nat}(hk:k<m.1.length)(hc:c∈B2)  (hb:wb=(A5 C8 (A5 C8 (wV 2) (wV 0)) (wV 1))):G6 wb [.dat (rsD m.2)] [.st (iD k),.st (iD c)] (.st (iD (C3 m.2 k c))):=by
 subst hb;refine⟨[iD k,iD c],iD (C3 m.2 k c),rfl,rfl,?_⟩;obtain⟨r,hr,_,pP⟩:=Wf.row wf hk;simp only[E6,B8];refine⟨_,rfl,_,rfl,?_⟩;refine U3 (i:=k) (d:=.tup (r.map iD)) (by rw[ah,hr];rfl) ?_;refine⟨_,rfl,U3 (i:=c) (d:=iD (C3 m.2 k c)) (by rw[ah,(pP c (Q5o hc)).1];rfl) rfl⟩
theorem V3s:∀rs Pr,rs.length=1->Q7w rs Pr->Z9t dh (Q7v dh) (N8 Pr) (D8 W3m rs):=by
 rintro rs Pr _ ⟨m,rfl,wf,hl,h⟩;unfold Z9t;simp only[G2,Q6e,B8,Q0d,Q0b,Q0,Q0c,T7];refine⟨_,rfl,_,rfl,_,rfl,rfl,_,_,rfl,_,_,rfl,rfl,?_⟩;refine⟨rfl,[.dat (rsD m.2)],[.dat (.tup (m.1.map .bl))],⟨_,_,rfl,rfl,trivial,rfl⟩,⟨_,_,rfl,rfl,trivial,rfl⟩,fun f Φ g Ψ hF hG=>?_⟩;refine⟨_,⟨Nat,inferInstance,iD,ik,C3 m.2,0,fun s=>m.1.getD s false,List.range m.1.length,f,g,Φ,Ψ,_,_,fun _=>rfl,Q5s,rfl,hF,hG,W1c wf,by rw[br];lia,fun k hk c hc=>⟨Y9p wf k hk c hc,W8j wf (aZ.mp hk) hc rfl⟩,fun k hk=>?_,rfl⟩,?_⟩
 ·refine⟨[iD k],_,rfl,rfl,?_⟩;unfold Y0b;simp only[E6,B8];exact⟨_,rfl,_,rfl,U3 (i:=k) (Z0t (aZ.mp hk)) rfl⟩
 ·rw[br];exact h
theorem _root_.L2.ObjOk.there {w:Ak}    {o:HO}(x:ObjOk P w H h a o):∃o,h.get? a=some o:=by
 induction o with
 |lst xs=>obtain⟨_,_,_,_,e⟩:=x;exact⟨_,e⟩
 |tup xs=>obtain⟨_,_,_,ob,e,_⟩:=x;exact⟨_,e⟩
 |dK kvs=>obtain⟨_,_,_,_,ob,_,_,e,_⟩:=x;exact⟨_,e⟩
 |dT kvs=>obtain⟨_,_,_,_,ob,_,_,e,_⟩:=x;exact⟨_,e⟩
 |set S n=>obtain⟨ob,_,_,_,e,_⟩:=x;exact⟨_,e⟩
 |ins C dx fs=>obtain⟨_,_,_,e,_⟩:=x;exact⟨_,e⟩
 |own y=>exact x
 |xd fs=>obtain⟨_,⟨od,_,_,e,_⟩,_⟩:=x;exact⟨_,e⟩
 |rng lo hi=>obtain⟨_,_,_,e⟩:=x;exact⟨_,e⟩
 |frz ob u ih=>exact⟨_,x.1⟩
 |tab=>obtain⟨_,e,_⟩:=x;exact⟨_,e⟩
 |tbl ps=>exact⟨_,x⟩
 |met f y=>exact⟨_,x⟩
 |ext φ=>exact x.2.1
def Z5k (a c:Int)(x y:Str):Bool:=if a=c then(if x=y then false else decide (y.cps.toList<x.cps.toList))else decide (c<a)
section
variable {w:Ak}{A:Ah}{RR:Result->Ae->Prop}{led:Bool}
def W4u {i:Nat}{t:Tok}  (h:S∈V3)(lR:i<4)(ho:s.heap.get? a=some (Q0g S tk ep led))
  (hq:∀h' kz kq,Heap.SameBut a s.heap h'->h'.get? a=some (Q0g (adS i S) kz kq led)->Q .none {s with heap:=h',toks:=s.toks+1}):
  wpAny (model prog w) A (call (.builtin "set.add") [.ref a,.int (i:Int) t]) Q E s:=by
 refine bx F.slot_set_add ⟨_,ho,rfl⟩ F.entry_set_add ?_ (F.args_set_add_2 _ _);unfold Builtin.«set.add» Builtin.Frozenset.oneOther;simp only[List.isEmpty_nil,bind_assoc];unfold Builtin.Frozenset.addrOf setAdd;refine aa (aj ?_)
 try dsimp only
 refine aa (aj ?_)
 try dsimp only
 refine aa ?_;refine bv ?_;refine aa ((intKind prog w).pyHash (k:=(i:Int)) (ka _ _ _ _) ?_);rw[show(intKind prog w).hash (i:Int)=(i:Int)from Z5l lR];refine V6b (s:={s with toks:=s.toks+1}) h lR ho fun b h' kz kq np e=>?_;show wpAny _ _ (ret Value.none) _ _ _;exact aj ⟨_,rfl,hq h' kz kq np e⟩
theorem W5i (dv fj fB eY eZ:Ag)(scope:Scope)(pos:Pos)(it c6:Ad)(env:Env):
  compTurn (.SetComp dv [⟨fj,fB,[],0⟩,⟨eY,eZ,[],0⟩] scope pos) 1 it c6 env=(do
   standAt eZ.pos
   match <- pyNext it with
   |none=>pure (.done .next)
   |some v=>
    letOwnedTupleGo eY it v
    assign eY env v
    let mut ok:=true
    for c in ([]:M Ag) do
     if ok then ok <- isTrue c env (eval c env)
    if ok then
     (do let v <- eval dv env;standAt dv.pos;let _ <- call (.builtin "set.add") [c6,v])
    again (.compLoop (.SetComp dv [⟨fj,fB,[],0⟩,⟨eY,eZ,[],0⟩] scope pos) 1 it c6 env)):=by rfl
theorem W5h (dv fj fB eY eZ:Ag)(scope:Scope)(pos:Pos)(it c6:Ad)(env:Env):
  compTurn (.SetComp dv [⟨fj,fB,[],0⟩,⟨eY,eZ,[],0⟩] scope pos) 0 it c6 env=(do
   standAt fB.pos
   match <- pyNext it with
   |none=>pure (.done .next)
   |some v=>
    letOwnedTupleGo fj it v
    assign fj env v
    let mut ok:=true
    for c in ([]:M Ag) do
     if ok then ok <- isTrue c env (eval c env)
    if ok then
     let x <- eval eZ env
     standAt eZ.pos
     let x <- foldedSetIterable eZ env x;let _ <- runOwn (.compStart (.SetComp dv [⟨fj,fB,[],0⟩,⟨eY,eZ,[],0⟩] scope pos) 1 (<- holding [x] (pyIter x)) c6 env) env
    again (.compLoop (.SetComp dv [⟨fj,fB,[],0⟩,⟨eY,eZ,[],0⟩] scope pos) 0 it c6 env)):=by rfl
theorem V6a {it:Ad}{env:Env}(I:Nat->Ae->Prop)
  (gb:∀n s,I n s->wpAny (model prog w) A (pyNext it) (fun r s₁=>match r with
   |none=>RR (.ok .next) s₁
   | some v=>wpAny (model prog w) A (letOwnedTupleGo eY it v) (fun _ sa=>wpAny (model prog w) A (assign eY env v) (fun _ s₃=>
     wpAny (model prog w) A (eval dv env) (fun x s₄=>wpAny (model prog w) A (call (.builtin "set.add") [c6,x]) (fun _ s₆=>∃m,m<n/\I m s₆) (fun _ _=>False) s₄) (fun _ _=>False) s₃) (fun _ _=>False) sa) (fun _ _=>False) s₁) (fun _ _=>False) s)
  (n:Nat) (h:I n s):codeAny (model prog w) A (.compLoop (.SetComp dv [⟨fj,fB,[],0⟩,⟨eY,eZ,[],0⟩] scope pos) 1 it c6 env) RR s:=by
 refine lw rfl I (fun n s hI=>?_) n h
 change wpAny (model prog w) A ((compTurn (.SetComp dv [⟨fj,fB,[],0⟩,⟨eY,eZ,[],0⟩] scope pos) 1 it c6 env).onRaise (fun x=>do noteFrame x env;theTreesLotGoes x)) _ _ s
 refine nC ?_;rw[W5i];refine aa (bP (aa (aE (gb n s hI) (fun r s₁ h₁=>?_) fun _ _ h'=>h'.elim)));cases r with
 |none=>exact aj h₁
 |some v=>
  refine aa (aE h₁ (fun _ sa ha=>aa (aE ha (fun _ s₃ h₃=>aa (dR ?_)) fun _ _ h'=>h'.elim)) fun _ _ h'=>h'.elim);exact aa (aa (aE h₃ (fun x s₄ h₄=>aa (bP (aa (aE h₄ (fun _ s₆ h₆=>aj (aj ⟨rfl,h₆⟩)) fun _ _ h'=>h'.elim)))) fun _ _ h'=>h'.elim))
theorem V5z {it:Ad}{env:Env}(hs:∀x,foldedSetIterable eZ env x=pure x)(I:Nat->Ae->Prop)
  (gb:∀n s,I n s->wpAny (model prog w) A (pyNext it) (fun r s₁=>match r with
   |none=>RR (.ok .next) s₁
   | some v=>wpAny (model prog w) A (letOwnedTupleGo fj it v) (fun _ sa=>wpAny (model prog w) A (assign fj env v) (fun _ s₃=>
     wpAny (model prog w) A (eval eZ env) (fun x s₄=>wpAny (model prog w) A (pyIter x) (fun i2 s₅=>∀R2:Result->Ae->Prop,(∀f s₆,(∃m,m<n/\I m s₆)->R2 (.ok f) s₆) ->
      codeAny (model prog w) A (.compStart (.SetComp dv [⟨fj,fB,[],0⟩,⟨eY,eZ,[],0⟩] scope pos) 1 i2 c6 env) R2 s₅) (fun _ _=>False) s₄) (fun _ _=>False) s₃) (fun _ _=>False) sa) (fun _ _=>False) s₁) (fun _ _=>False) s)
  (n:Nat) (h:I n s):codeAny (model prog w) A (.compLoop (.SetComp dv [⟨fj,fB,[],0⟩,⟨eY,eZ,[],0⟩] scope pos) 0 it c6 env) RR s:=by
 refine lw rfl I (fun n s hI=>?_) n h
 change wpAny (model prog w) A ((compTurn (.SetComp dv [⟨fj,fB,[],0⟩,⟨eY,eZ,[],0⟩] scope pos) 0 it c6 env).onRaise (fun x=>do noteFrame x env;theTreesLotGoes x)) _ _ s
 refine nC ?_;rw[W5h];refine aa (bP (aa (aE (gb n s hI) (fun r s₁ h₁=>?_) fun _ _ h'=>h'.elim)));cases r with
 |none=>exact aj h₁
 |some v=>
  refine aa (aE h₁ (fun _ sa ha=>aa (aE ha (fun _ s₃ h₃=>aa (dR ?_)) fun _ _ h'=>h'.elim)) fun _ _ h'=>h'.elim);refine aa (aE h₃ (fun x s₄ h₄=>aa (bP (aa (wpAny_of_eq (hs x) (aa (bv (aE h₄ (fun i2 s₅ h₅=>aa (wpAny_runOwn (h₅ _ fun f s₆ h₆=>?_))) fun _ _ h'=>h'.elim))))))) fun _ _ h'=>h'.elim);exact aj ⟨rfl,h₆⟩
def Y2x {d:Nat}   {g:Comprehension}   {it:Ad}{env:Env}(hg:gens[d]?=some g)(xM:g.is_async=0)
  (h0:codeAny (model prog w) A (.compLoop (.SetComp dv gens scope pos) d it c6 env) RR s)
  (h:wpAny (model prog w) A (pyIter it) (fun r9 s'=>codeAny (model prog w) A (.compLoop (.SetComp dv gens scope pos) d r9 c6 env) RR s') (notedBy (model prog w) A env fun x s'=>RR (.error x) s') s):
  codeAny (model prog w) A (.compStart (.SetComp dv gens scope pos) d it c6 env) RR s:=by
 refine nM ?_;show wpAny _ A ((compStart (.SetComp dv gens scope pos) d it c6 env).onRaise (fun x=>do noteFrame x env;standAt theWindowsPlace)) _ _ s;refine wpAny_notedAt ?_;unfold compStart;rw[show clausesOf (.SetComp dv gens scope pos)=gens from rfl,hg];rw[aI (show ¬ ((some g).elim false (·.is_async != 0))=true by simp[xM])];show wpAny _ A (ask>>=_) _ _ s;refine aa (gz (wpAny_ite ?_));split
 ·first
   |exact aa (aj (aj (And.intro rfl h0)))
   |exact aj (And.intro rfl h0)
 ·first
   |exact aa (dw (aa (bP (aa (aE h (fun r9 s' h'=>aj (And.intro rfl h')) fun _ _ x=>x)))))
   |(refine aa (dw ?_);show wpAny _ _ (standAt g.iter.pos>>=_) _ _ s;exact aa (bP (aa (aE h (fun r9 s' h'=>aj (And.intro rfl h')) fun _ _ x=>x))))
end
def Q1o (h:Heap)(a:Af)(led:Bool)(ns:M Nat):Prop:=∃S tk ep,S∈V3/\h.get? a=some (Q0g S tk ep led)/\∀x,x∈S ↔ x∈ns
def Q1o.add {led:Bool}{ns:M Nat}    (hS:S∈V3)(hm:∀x,x∈S ↔ x∈ns)(h4:n<4)(e:h.get? a=some (Q0g (adS n S) tk ep led)):Q1o h a led (ns++[n]):=by
 have F:=Q0o hS led;obtain⟨h1,_,h3⟩:=F.add n (lt4 h4);refine⟨_,_,_,h1,e,fun x=>?_⟩;rw[aH,aG,<-hm x]
 by_cases hx:x<4
 ·rw[h3 x (lt4 hx)];exact Or.comm
 ·constructor
  ·intro z;exact absurd ((Q0o h1 led).lt x z) hx
  ·rintro (z |z)
   ·exact absurd (F.lt x z) hx
   ·rw[z]at hx;exact absurd h4 hx
def Q1m (g:WG)(we:WE):M D->B5->M Nat->(B5->M Nat->Prop)->Prop
 |[],τ,ns,Q=>Q τ ns
 |d::ds,τ,ns,Q=>g d τ fun τ'=>we τ' fun r=>∃n:Nat,r=.st (.int (n:Int))/\n<4/\Q1m g we ds τ' (ns++[n]) Q
def Q1d (g1:WG)(wi:T5)(g2:WG)(we:WE):M D->B5->M Nat->(M Nat->Prop)->Prop
 |[],_,ns,Q=>Q ns
 |d::ds,τ,ns,Q=>g1 d τ fun τ'=>wi τ' fun es=>Q1m g2 we es τ' ns fun τ'' iW=>Q1d g1 wi g2 we ds τ'' iW Q
theorem Y8u {g:WG}  (hg:∀d τ (P Q:B5->Prop),(∀ τ,P τ->Q τ)->g d τ P->g d τ Q)(hw:∀(τ:B5) (P Q:R->Prop),(∀r,P r->Q r)->we τ P->we τ Q):
  ∀(ds:M D) (τ:B5) (ns:M Nat) (P Q:B5->M Nat->Prop),(∀ τ es,P τ es->Q τ es)->Q1m g we ds τ ns P->Q1m g we ds τ ns Q
 |[],_,_,_,_,f,h=>f _ _ h
 |d::ds,τ,ns,P,Q,f,h=>hg d τ _ _ (fun τ' h=>hw τ' _ _ (fun r⟨n,e1,e2,h⟩=>⟨n,e1,e2,Y8u hg hw ds τ' _ _ _ f h⟩) h) h
theorem Z7s {g1 g2:WG}   (l6:∀d τ (P Q:B5->Prop),(∀ τ,P τ->Q τ)->g1 d τ P->g1 d τ Q)(hi:∀ τ (P Q:M D->Prop),(∀ds,P ds->Q ds)->wi τ P->wi τ Q)(hg:∀d τ (P Q:B5->Prop),(∀ τ,P τ->Q τ)->g2 d τ P->g2 d τ Q)(hw:∀(τ:B5) (P Q:R->Prop),(∀r,P r->Q r)->we τ P->we τ Q):
  ∀(ds:M D) (τ:B5) (ns:M Nat) (P Q:M Nat->Prop),(∀es,P es->Q es)->Q1d g1 wi g2 we ds τ ns P->Q1d g1 wi g2 we ds τ ns Q
 |[],_,_,_,_,f,h=>f _ h
 |d::ds,τ,ns,P,Q,f,h=>l6 d τ _ _ (fun τ' h=>hi τ' _ _ (fun es h=>Y8u hg hw es τ' ns _ _ (fun τ'' iW h=>Z7s l6 hi hg hw ds τ'' iW _ _ f h) h) h) h
def Y3v (f:J5 X af H b)(h:H' b=none):J5 X af H' b:=⟨h,f.2⟩
def W6g {o':Obj}(f:J5 X ((D0,o)::af) H b):J5 X ((D0,o')::af) H b:=by
 obtain⟨h1,h2,h3,h4,h5,h6⟩:=f;refine⟨h1,h2,h3,h4,h5,fun p hp=>?_⟩;rcases aH.mp hp with z |z
 ·exact h6 p (aV _ z)
 ·rcases av.mp z with rfl |z
  ·exact h6 (D0,o) (ai _ am)
  ·exact h6 p (ai _ (ak _ z))
section
variable {Y:Cx}{Hb:Hp}{g:WG}{RR:Result->Ae->Prop}{led:Bool}
def Z7r {ns:M Nat}(I:A1 Y af σ H s)(hp:∀p∈pb,p∈Y.pn++af)(f:J5 Y pb H D0)(e:s.heap.get? D0=some o)(hs:Q1o s.heap D0 led ns):A1 Y ((D0,o)::pb) σ H s:=by
 refine I.pins_of fun p q=>?_;rcases av.mp q with rfl |q
 ·refine⟨e,f.1,f.2.1,f.2.2.1,fun v z=>?_⟩;obtain⟨S,tk,ep,_,e2,_⟩:=hs;rw[e]at e2;cases e2;cases z
 ·exact I.pin p (hp p q)
def W7c {J:It}    {es:M D}{s1:Ae}{σ1:S5}  {τ1:B5}{ob:Obj}{ns:M Nat}{P:B5->M Nat->Prop}(hc:Y.calm=true)(u6:∀e h,Y.xe e h->False)(hg:DG Y Hb eY g)(he:DE Y Hb dv we)(T:Q2m Y.prog Y.w Y.K eY J gX it tn)
  (st:tn 0 s1.heap) (f2:∀b∈gX,J5 Y ((D0,ob)::pb) H1 b) (yl:YlS Y.K J es H1) (I:A1 Y ((D0,ob)::pb) σ1 H1 s1) (fD:J5 Y pb H1 D0) (o1:s1.heap.get? D0=some ob) (hS:Q1o s1.heap D0 led ns) (hR:B6 Y.K Hb τ1 σ1 H1) (hw:Q1m g we es τ1 ns P)
  (fin:∀(s':Ae) (σ':S5) (H':Hp) (τ':B5) (iW:M Nat) (tV:Obj),A1 Y ((D0,tV)::pb) σ' H' s'->s'.heap.get? D0=some tV->Q1o s'.heap D0 led iW->B6 Y.K Hb τ' σ' H'->A4 H1 H'->H' D0=none->P τ' iW->RR (.ok .next) s'):
  codeAny (model Y.prog Y.w) Y.A (.compStart (.SetComp dv [⟨fj,fB,[],0⟩,⟨eY,eZ,[],0⟩] scope pos) 1 (.ref it) (.ref D0) Y.env) RR s1:=by
 let jx:Nat->Ae->Prop:=fun k s'=>∃(i:Nat) (σ':S5) (H':Hp) (τ':B5) (ob:Obj) (ns:M Nat),A1 Y ((D0,ob)::pb) σ' H' s'/\B6 Y.K Hb τ' σ' H'/\tn i s'.heap/\(∀b∈gX,H' b=none)/\H' D0=none/\s'.heap.get? D0=some ob/\Q1o s'.heap D0 led ns/\A4 H1 H'/\i<=es.length/\k=es.length-i/\Q1m g we (es.drop i) τ' ns P;have loop:codeAny (model Y.prog Y.w) Y.A (.compLoop (.SetComp dv [⟨fj,fB,[],0⟩,⟨eY,eZ,[],0⟩] scope pos) 1 (.ref it) (.ref D0) Y.env) RR s1:=by
  refine V6a jx ?_ es.length ⟨0,σ1,H1,τ1,ob,ns,I,hR,st,fun b hb=>(f2 b hb).1,fD.1,o1,hS,A4.refl _,bz _,rfl,hw⟩;rintro k s3 ⟨i,σ3,H3,τ3,qK,nR,I3,R3,gn,gE,d3,o3,lV,jc,pS,rfl,w3⟩;have fX:∀{H':Hp},(∀b∈gX,H' b=none)->∀b∈gX,J5 Y ((D0,qK)::pb) H' b:=fun hn b hb=>Y3v (W6g (f2 b hb)) (hn b hb)
  by_cases bU:i<es.length
  ·refine aE (T.item Y rfl rfl rfl hc i _ s3 σ3 H3 (fun _ _=>False) I3 (fX gE) gn (yl.go H3 jc i bU)) (fun r s4 bG=>?_) fun _ _ z=>z;obtain⟨u,hr,h4⟩:=bG;subst hr;refine aE h4 (fun _ s5 bG=>?_) fun _ _ z=>z;obtain⟨x,H5,I5,r5,y5,fk,jl⟩:=bG;obtain⟨gV,ix⟩:=yl.yld H3 jc i x H5 _ (ac bU) y5;rw[bJ bU]at w3;have jm:=I5.pinned (fX jl) (T.obj _ _ fk);refine aE (hg.pg _ s5 σ3 H5 x u (fun σ6 H6=>∃ τ6,B6 Y.K Hb τ6 σ6 H6/\A4 H5 H6/\we τ6 fun r=>∃n:Nat,r=.st (.int (n:Int))/\n<4/\Q1m g we (es.drop (i+1)) τ6 (nR++[n]) P) jm r5
    ⟨τ3,es[i],R3.mono gV,ix,hg.mono _ _ _ _ (fun τ6 h6 σ6 H6 gM R6=>⟨τ6,R6,gM,h6⟩) w3⟩) (fun _ s6 jN=>?_) fun _ _ z=>u6 _ _ z
   obtain⟨σ6,H6,I6,τ6,R6,gM,w6⟩:=jN;refine aE (he.pe _ s6 σ6 H6 (fun v H8=>A4 H6 H8/\∃n:Nat,v=.int (n:Int)/\n<4/\Q1m g we (es.drop (i+1)) τ6 (nR++[n]) P) I6
    ⟨τ6,R6,he.mono τ6 _ _ (fun r hq v H8 kF ir=>by obtain⟨n,e1,e2,h⟩:=hq;subst e1;exact⟨kF,n,ir,e2,h⟩) w6⟩) (fun yv s8 kL=>?_) fun _ _ z=>u6 _ _ z
   obtain⟨v8,H8,I8,kG,kF,n,ev,ul,w8⟩:=kL;subst ev;obtain⟨t,rfl⟩:=kG;obtain⟨o8,d8,_⟩:=I8.pin (D0,qK) (ai _ (aV _ am));obtain⟨S,tk,ep,nz,oS,sL⟩:=lV;rw[o3]at oS;cases oS;refine W4u nz ul o8 fun h₅ kz kq np e9=>?_;have n8:A1 Y (pb++V1 gX s5.heap) σ6 H8 s8:=I8.pins_of fun p hp=>I8.pin p (ai _ ((aH.mp hp).elim (fun z=>aV _ (ak _ z)) fun z=>ai _ z));have I9:A1 Y (pb++V1 gX s5.heap) σ6 H8 {s8 with heap:=h₅,toks:=s8.toks+1}:=by
    refine n8.turned (t':=s8.toks+1) (it:=D0) (fun b o hb e=>(np.2 b hb).trans e) d8 fD.2.1 fD.2.2.2.1 fD.2.2.2.2.1 fun p hp z=>?_;rcases aH.mp hp with q |q
    ·exact fD.2.2.2.2.2 p (aV _ q) z
    ·rcases aH.mp q with q |q
     ·exact fD.2.2.2.2.2 p (ai _ q) z
     ·exact(f2 p.1 (Q6b q).1).2.2.2.2.2 (D0,ob) (ai _ am) z.symm
   have oR:Q1o h₅ D0 led (nR++[n]):=Q1o.add nz sL ul e9;have kA:tn (i+1) h₅:=T.keep _ _ _ fk fun b hb o e=>(I9.pin (b,o) (ai _ (ai _ (Q0k hb e)))).1;refine⟨es.length-(i+1),by omega,i+1,σ6,H8,τ6,_,nR++[n],Z7r I9 (fun p q=>ai _ (aV _ q)) (Y3v fD d8) e9 oR,R6.mono kF,kA,fun b hb=>?_,d8,e9,oR,jc.trans (gV.trans (gM.trans kF)),bU,rfl,w8⟩;obtain⟨o,e,_⟩:=T.obj _ _ fk b hb;exact(I9.pin (b,o) (ai _ (ai _ (Q0k hb e)))).2.1
  ·have e:i=es.length:=by omega
   subst e;refine aE (T.done Y rfl rfl rfl hc es.length _ s3 σ3 H3 (fun _ _=>False) I3 (fX gE) gn (yl.stop H3 jc)) (fun r s4 bG=>?_) fun _ _ z=>z;obtain⟨hr,I4⟩:=bG;subst hr;have o4:=(I4.pin (D0,qK) (ai _ am)).1;rw[cF]at w3;obtain⟨S,tk,ep,q1,q2,q3⟩:=lV;rw[o3]at q2;cases q2;exact fin s4 σ3 H3 τ3 nR _ I4 o4 ⟨S,tk,ep,q1,o4,q3⟩ R3 jc d3 w3
 exact Y2x (g:=⟨eY,eZ,[],0⟩) rfl rfl loop (T.self _ 0 _ _ _ st loop)
end
def W4h {s2 s1:Ae}  {C:Af}     
  (I2:A1 X af σ H2 s2) (Ib:A1 ?H pb σ' H' s1) (f2:∀b∈fp,J5 X af H2 b) (hC:s2.heap.objs.size<=C) (sb:Heap.SameBut C s1.heap h'):A1 X af σ H' {s1 with heap:=h'}:=by
 have jK:∀b o,s2.heap.get? b=some o->b≠C:=fun b o e=>ax (ay (aw e) hC);have keep:=Z5m sb;have base:Un (U0 X.stack) fp H2 H' s2.heap s1.heap:=Ib.base;have oX:H' C=none:=Ib.free;have jf:∀b u,H' b=some u->b≠C:=fun b u e z=>by rw[z,oX]at e;cases e
 refine I2.call' (s':={s1 with heap:=h'}) (ch:=fp) Ib.os ⟨fun b o e n hb hx=>keep b o (jK b o e) (base.keep b o e n hb hx),fun b o e n hb hx=>?_,fun b o e n hx=>base.free b o e n hx,fun b o e hx=>?_,fun b xs e=>base.tups b xs e,fun b o u e=>base.frzs b o u e,fun b ps e=>base.tbls b ps e⟩ (fun b u e=>?_) Ib.bare (fun b hb=>?_)
 ·obtain⟨sl,q⟩:=base.slot b o e n hb hx;exact⟨sl,keep b _ (jK b o e) q⟩
 ·obtain⟨o',q⟩:=base.there b o e hx;exact⟨o',keep b o' (jK b o e) q⟩
 ·refine(Ib.hok b u e).stay (fun c v hc q=>keep c v ?_ q) (fun c u _ q=>q) fun c xs q=>q;rcases hc with z |z
  ·rw[z];exact jf b u e
  ·exact jf c _ z
 ·obtain⟨_,a2,a3,a4,a5,a6⟩:=f2 b hb;exact⟨a4,a2,a5,a6⟩
section
variable {nt:Nat}{iH:T5}{g1 g2:WG}
def V5y {P:M Nat->Prop}  (hc:X.calm=true)(B:Blk X scope N nt cap)(hi:L0 X H0 fj fB wi)
  (l6:∀C s H fp,DG (blk X scope C s H fp N) H fj g1) (ip:∀C s H fp,L0 (blk X scope C s H fp N) H eY eZ iH) (oC:∀C s H fp,DG (blk X scope C s H fp N) H eY g2) (he:∀C s H fp,DE (blk X scope C s H fp N) H dv we)
  (hs:∀x,foldedSetIterable fB X.env x=pure x) (kP:∀C x,foldedSetIterable eZ (compEnvC scope (S7 X.env scope.names []) C X.env) x=pure x)
  (I:?B) (hR:B6 X.K H0 τ σ H) (hw:wi τ fun ds=>Q1d g1 iH g2 we ds (Q7 nt cap τ) [] P)
  (fin:∀(D0:Af) (s4:Ae) (H4:Hp) (ns:M Nat),A1 X af σ H4 s4->A4 H H4->H4 D0=none->Q1o s4.heap D0 (M7 X.w) ns->P ns->QQ (.ref D0) s4):
  wpAny ?C X.A (eval (.SetComp dv [⟨fj,fB,[],0⟩,⟨eY,eZ,[],0⟩] scope pos) X.env) QQ X.xe s:=by
 rw[arm_eval_SetComp]
 change wpAny ?C X.A (comprehension (.SetComp dv [⟨fj,fB,[],0⟩,⟨eY,eZ,[],0⟩] scope pos) scope X.env _ (newSet (.type "set")) false (eval fB X.env) none) _ _ s
 refine cI rfl hs (Q8r fun y hy e=>I.ok.has y.1 (B.free y hy e)) B.kind B.names ?_;refine B3 (hi.pi af s σ H (fun J H2=>A4 H H2/\∃ds,YlS X.K J ds H2/\Q1d g1 iH g2 we ds (Q7 nt cap τ) [] P) I
  ⟨τ,hR,hi.mono τ _ _ (fun ds h J H' sm yl=>⟨sm,ds,yl,h⟩) hw⟩) fun v s1 h1=>B3 h1 fun mo s2 h2=>?_
 obtain⟨it,fp,tn,J,H2,e,I2,T,fm,f2,dG,ds,yl,kM⟩:=h2;subst e;have gW:∀b∈fp,b<s2.heap.objs.size:=fun b hb=>by
  obtain⟨o,ho,_⟩:=T.obj _ _ fm b hb;exact aw ho
 have eK:=hR.mono dG;unfold newSet;refine aa (Q6x ?_);refine bO (cA B.cell (by intro y hy;simp at hy) (fun h₁ du cQ=>?_) B.kind);dsimp only at du cQ ⊢;generalize hH2:s2.heap.push {cls:=.type "set",dict:=none,data:=.set #[] 0 (.fresh 0 0 (!X.w.params.followText "set-order"))}=Hq at du cQ ⊢;have hC:Hq.objs.size=s2.heap.objs.size+1:=by rw[<-hH2,bi]
 have ee:s2.heap.objs.size≠Hq.objs.size:=by rw[hC];exact ax (cj _)
 have cO:s2.heap.objs.size<=Hq.objs.size:=by rw[hC];exact dF _
 have old:∀b o,s2.heap.get? b=some o->h₁.get? b=some o:=fun b o e=>cQ.extBut b o (by rw[hC];exact ax (bj (aw e))) (ae _ (hH2▸ae _ e));have dX:h₁.get? s2.heap.objs.size=some (Q0g [] (fun _=>0) 0 (M7 X.w)):=cQ.extBut _ _ ee (ae _ (hH2▸aD _ rfl));have sd:Q1o h₁ s2.heap.objs.size (M7 X.w) []:=⟨[],_,_,?K,dX,fun x=>Iff.rfl⟩
 generalize hCe:Hq.objs.size=C at du cQ hC ee cO ⊢;generalize hDe:s2.heap.objs.size=D0 at hC ee cO dX sd ⊢;have dU:∀b∈fp,b<D0:=fun b hb=>hDe▸gW b hb;have fx:tn 0 h₁:=T.keep _ _ _ fm fun b _ o e=>old b o e;have lu:=Q8m (C:=C) (h':=h₁) (t':=s2.toks+([]:M (Str×Ad)).length) I2 B f2 gW (by rw[hDe];exact cO) du old;have iP:H2 D0=none:=I2.hok.fresh (by rw[hDe];exact ao _);have kJ:D0∉U0 X.stack:=fun z=>by
  rcases av.mp (I2.stkSub _ z)with e |e
  ·have:=I2.lt;rw[<-e,hDe]at this;exact aS _ this
  ·exact I2.nofs (by rw[hDe];exact ao _) e
 have kK:∀x c,(S7 X.env scope.names []).lookup x=some c->c≠D0:=fun x c h z=>by
  obtain⟨v,q⟩:=I2.cell x c (X9 I2 B h);have:=q.lt;rw[z,hDe]at this;exact aS _ this
 have fD:∀{pb:Pn9}{H':Hp},(∀p∈pb,p.1∈fp)->H' D0=none->J5 ?H pb H' D0:=fun hp hn=>by
  refine⟨hn,ee,kJ,.inr (by show s2.heap.objs.size<=D0;rw[hDe];exact ao _),kK,fun p q z=>?_⟩;have q:p.1∈fp:=hp p (by simpa [blk]using q);exact ax (dU _ q) z
 have gS:∀{H':Hp}{ob:Obj},(∀b∈fp,H' b=none)->∀b∈fp,J5 ?H [(D0,ob)] H' b:=by
  intro H' ob hn b hb;refine⟨hn b hb,(ax (ay (dU b hb) cO)),fun z=>?_,.inl hb,fun x c h=>(f2 b hb).2.2.2.2.1 x c (X9 I2 B h),fun p hp=>?_⟩
  ·rcases av.mp (I2.stkSub b z)with e |e
   ·exact(f2 b hb).2.1 e
   ·exact(f2 b hb).2.2.1 e
  ·have e':p=(D0,ob):=by simpa [blk]using hp
   subst e';exact(ax (dU b hb)).symm
 let jx:Nat->Ae->Prop:=fun k s'=>∃(i:Nat) (σ':S5) (H':Hp) (τ':B5) (ob:Obj) (ns:M Nat),A1 ?H [(D0,ob)] σ' H' s'/\B6 X.K H2 τ' σ' H'/\tn i s'.heap /\
  (∀b∈fp,H' b=none)/\H' D0=none/\s'.heap.get? D0=some ob/\Q1o s'.heap D0 (M7 X.w) ns/\i<=ds.length/\k=ds.length-i/\Q1d g1 iH g2 we (ds.drop i) τ' ns P
 have loop:∀s₃:Ae,s₃={s2 with heap:=h₁,toks:=s2.toks+([]:M (Str×Ad)).length} ->
   codeAny ?C X.A (.compLoop (.SetComp dv [⟨fj,fB,[],0⟩,⟨eY,eZ,[],0⟩] scope pos) 0 (.ref it) (.ref D0) (compEnvC scope (S7 X.env scope.names []) C X.env))
    (compPost ?C X.A X.xe none QQ (.ref D0) C) s₃:=by
  rintro s₃ rfl;refine V5z (kP C) jx ?_ ds.length ⟨0,_,H2,Q7 nt cap τ,_,[],Z7r (pb:=[]) lu (fun p q=>by cases q) (fD (fun p q=>by cases q) iP) dX sd,Z2f eK nt cap,fx,fun b hb=>(f2 b hb).1,iP,dX,sd,bz _,rfl,by simpa using kM⟩;rintro k s3 ⟨i,σ3,H3,τ3,ob,ns,I3,R3,gn,gE,d3,o3,lV,pS,rfl,w3⟩;have cf:A4 H2 H3:=R3.same
  by_cases bU:i<ds.length
  ·refine aE (T.item ?H rfl rfl rfl hc i _ s3 σ3 H3 (fun _ _=>False) I3 (gS gE) gn (yl.go H3 cf i bU)) (fun r s4 bG=>?_) fun _ _ z=>z;obtain⟨u,hr,h4⟩:=bG;subst hr;refine aE h4 (fun _ s5 bG=>?_) fun _ _ z=>z;obtain⟨x,H5,I5,r5,y5,fk,jl⟩:=bG;obtain⟨gV,ix⟩:=yl.yld H3 cf i x H5 _ (ac bU) y5;rw[bJ bU]at w3;have jm:=I5.pinned (gS jl) (T.obj _ _ fk);refine aE ((l6 C s2 H2 fp).pg _ s5 σ3 H5 x u (fun σ6 H6=>∃ τ6,B6 X.K H2 τ6 σ6 H6/\A4 H5 H6/\iH τ6 fun es=>Q1m g2 we es τ6 ns fun τ'' iW=>Q1d g1 iH g2 we (ds.drop (i+1)) τ'' iW P) jm r5
    ⟨τ3,ds[i],R3.mono gV,ix,(l6 C s2 H2 fp).mono _ _ _ _ (fun τ6 h6 σ6 H6 gM R6=>⟨τ6,R6,gM,h6⟩) w3⟩) (fun _ s6 jN=>?_) fun _ _ z=>z
   obtain⟨σ6,H6,I6,τ6,R6,gM,w6⟩:=jN;refine aE ((ip C s2 H2 fp).pi _ s6 σ6 H6 (fun J2 H7=>A4 H6 H7/\∃es,YlS X.K J2 es H7/\Q1m g2 we es τ6 ns fun τ'' iW=>Q1d g1 iH g2 we (ds.drop (i+1)) τ'' iW P) I6
    ⟨τ6,R6,(ip C s2 H2 fp).mono τ6 _ _ (fun es h J2 H7 iV qw=>⟨iV,es,qw,h⟩) w6⟩) (fun v2 s7 h7=>aE h7 (fun i2 s8 h8=>?_) fun _ _ z=>z) fun _ _ z=>z
   obtain⟨j2,gX,yA,J2,H8,e,I8,T2,vB,f8,kF,es,qw,w8⟩:=h8;subst e;intro R2 sM;have pf:∀p∈V1 fp s5.heap,p.1∈fp:=fun p q=>(Q6b q).1;obtain⟨o8,d8,_⟩:=I8.pin (D0,ob) (ai _ (aV _ am));obtain⟨S,tk,ep,q1,q2,q3⟩:=lV;rw[o3]at q2;cases q2;refine W7c (Y:=blk X scope C s2 H2 fp N) (pb:=V1 fp s5.heap) (P:=fun τ'' iW=>Q1d g1 iH g2 we (ds.drop (i+1)) τ'' iW P) hc (fun _ _ z=>z) (oC C s2 H2 fp) (he C s2 H2 fp) T2 vB f8 qw I8 (fD pf d8) o8 ⟨S,tk,ep,q1,o8,q3⟩ (R6.mono kF) w8 fun s9 σ9 H9 τ9 ns9 qJ I9 o9 oR R9 s89 d9 w9=>sM _ _ ?_;have yD:A4 H3 H9:=gV.trans (gM.trans (kF.trans s89));have kA:tn (i+1) s9.heap:=T.keep _ _ _ fk fun b hb o e=>(I9.pin (b,o) (ai _ (ak _ (Q0k hb e)))).1;refine⟨ds.length-(i+1),by omega,i+1,σ9,H9,τ9,qJ,ns9,Z7r (pb:=[]) I9 (fun p q=>by cases q) (fD (fun p q=>by cases q) d9) o9 oR,R9,kA,fun b hb=>?_,d9,o9,oR,bU,rfl,w9⟩;obtain⟨o,e,_⟩:=T.obj _ _ fk b hb;exact(I9.pin (b,o) (ai _ (ak _ (Q0k hb e)))).2.1
  ·have e:i=ds.length:=by omega
   subst e;refine aE (T.done ?H rfl rfl rfl hc ds.length _ s3 σ3 H3 (fun _ _=>False) I3 (gS gE) gn (yl.stop H3 cf)) (fun r s4 bG=>?_) fun _ _ z=>z;obtain⟨hr,I4⟩:=bG;subst hr;have o4:=(I4.pin (D0,_) (ai _ am)).1;rw[cF]at w3;obtain⟨S,tk,ep,q1,q2,q3⟩:=lV;rw[o3]at q2;cases q2;obtain⟨m4,kZ,_⟩:=id I4.loc;refine⟨m4,kZ,fun h' sb=>?_⟩;exact fin D0 _ H3 ns (W4h I2 I4 f2 (by rw[hDe];exact cO) sb) (dG.trans cf) d3 ⟨S,tk,ep,q1,sb.extBut _ _ ee o4,q3⟩ w3
 exact Y2x (g:=⟨fj,fB,[],0⟩) rfl rfl (loop _ rfl) (T.self _ 0 _ _ _ fx (loop _ rfl))
end
def W7h {o:HO}  (I:?B)(k:∀b u,s.heap.get? b=some u->h'.get? b=some u)(hp:∀b u,s.heap.get? b=some u->b≠a)(new:ObjOk X.prog X.w (A6 H a o) h' a o):
  H a=none/\A1 X af σ (A6 H a o) {s with heap:=h',toks:=t'}:=by
 have hn:H a=none:=by
  cases q:H a with
  |none=>rfl
  |some u=>obtain⟨o,e2⟩:=(I.hok a u q).there;exact absurd rfl (hp _ _ e2)
 refine⟨hn,I.un ⟨fun b u q _ _ _=>k b u q,fun b u q _ _ _=>⟨u.slots,k b u q⟩,fun b u q n _=>by rw[A7 (hp b u q)];exact n,fun b u q _=>⟨u,k b u q⟩,fun b xs q=>by rw[A7 (V0 q hn)];exact q,fun b u xs q=>by rw[A7 (V0 q hn)];exact q,fun b ps q=>⟨#[],by rw[A7 (V0 q hn),q];simp⟩⟩ fun b u e=>?_⟩
 by_cases hb:b=a
 ·subst hb;rw[upd_same]at e;cases e;exact new
 ·rw[A7 hb]at e;exact(I.hok b u e).stay (fun c v _ q=>k c v q) (fun c u _ q=>by rw[A7 (V0 q hn)];exact q) fun c xs q=>by rw[A7 (V0 q hn)];exact q
def Z9l (nt:Nat)(cap:M Nat)(wi:T5)(g1:WG)(iH:T5)(g2:WG)(we:WE):WE:=fun τ Q=>wi τ fun ds=>Q1d g1 iH g2 we ds (Q7 nt cap τ) [] fun ns=>∀S:M Nat,S.Pairwise (·<·)->(∀x,x∈S ↔ x∈ns)->Q (.nw (S.map fun(n:Nat)=>.int (n:Int)))
section
variable {gt:Pos}{nt:Nat}{iH:T5}{g1 g2:WG}
theorem W1t (hc:X.calm=true)(hg:Gl X "sorted")(hm:X.mg "sorted"=none)(ni:bootBuiltins "sorted"=some (.builtin "sorted"))(B:Blk X scope N nt cap)(hi:L0 X H0 fj fB wi)
  (l6:∀C s H fp,DG (blk X scope C s H fp N) H fj g1) (ip:∀C s H fp,L0 (blk X scope C s H fp N) H eY eZ iH) (oC:∀C s H fp,DG (blk X scope C s H fp N) H eY g2) (he:∀C s H fp,DE (blk X scope C s H fp N) H dv we)
  (hs:starEach [.SetComp dv [⟨fj,fB,[],0⟩,⟨eY,eZ,[],0⟩] scope gt] X.env=(false,eval (.SetComp dv [⟨fj,fB,[],0⟩,⟨eY,eZ,[],0⟩] scope gt) X.env)::starEach [] X.env:=by rfl)
  (x4:∀x,foldedSetIterable fB X.env x=pure x:=by intro _;rfl) (ud:∀C x,foldedSetIterable eZ (compEnvC scope (S7 X.env scope.names []) C X.env) x=pure x:=by intro _ _;rfl):
  DE X H0 (.Call (.Name "sorted" p) [.SetComp dv [⟨fj,fB,[],0⟩,⟨eY,eZ,[],0⟩] scope gt] [] pos) (Z9l nt cap wi g1 iH g2 we) where
 mono:=fun τ P Q f h=>hi.mono τ _ _ (fun ds h=>Z7s (l6 0 X.s₀ X.H₀ []).mono (ip 0 X.s₀ X.H₀ []).mono (oC 0 X.s₀ X.H₀ []).mono (he 0 X.s₀ X.H₀ []).mono ds _ _ _ _ (fun ns q S a b=>f _ (q S a b)) h) h
 pe:=by
  intro af s σ H Q I ⟨τ,hR,h⟩;refine bn (Q3v I hg hm ni ?_ (?K) (?K));refine j1 ?_ hs;rw[hs]
  change wpAny ?C X.A (spliced ((false,eval (.SetComp dv [⟨fj,fB,[],0⟩,⟨eY,eZ,[],0⟩] scope gt) X.env)::backTo pos (starEach [] X.env))) _ _ s
  refine bR ?_;refine V5y (P:=fun ns=>∀S:M Nat,S.Pairwise (·<·)->(∀x,x∈S ↔ x∈ns)->∀v H',A4 H H'->E1 X.K H H' (.nw (S.map fun(n:Nat)=>.int (n:Int))) v->Q v H') hc B hi l6 ip oC he x4 ud I hR (hi.mono τ _ _ (fun ds h=>Z7s (l6 0 X.s₀ X.H₀ []).mono (ip 0 X.s₀ X.H₀ []).mono (oC 0 X.s₀ X.H₀ []).mono (he 0 X.s₀ X.H₀ []).mono ds _ _ _ _ (fun ns q S a b v H' sm ir=>q S a b v H' sm ir) h) h) fun D0 s1 H1 ns I1 sm d1 hH q=>cG ?_;obtain⟨S,yB,ep,hS,wG,rV⟩:=hH;refine V6k (s:=s1) (I.ok.hd hc) hS wG fun h2 t2 Dw c out k2 hD rR ic=>?_;have F:=Q0o hS true;obtain⟨hf,I2⟩:=W7h (t':=t2) (o:=.lst ((S.map fun(n:Nat)=>(n:Int)).map V.int)) I1 k2 (fun b o e=>ax (hD b o e)) ⟨by rw[ag,ag];have:=F.len;rw[cT];lia,out.toList,c,W7f ic,by simpa using rR⟩;refine⟨.ref Dw,_,I2,rfl,q S F.ord rV _ _ (sm.trans (K2 hf _)) ⟨Dw,_,rfl,sm.free hf,upd_same,?_⟩⟩;have:=AllS.ints (K:=X.K) (H:=A6 H1 Dw (.lst ((S.map fun(n:Nat)=>(n:Int)).map V.int))) (ns:=S.map fun(n:Nat)=>(n:Int));have e2:(S.map fun(n:Nat)=>D.int (n:Int))=(S.map fun(n:Nat)=>(n:Int)).map D.int:=by rw[aM];rfl
  rw[e2];exact this
@[simp] theorem V5o {Q:R->Prop}:Z9l nt cap wi g1 iH g2 we τ Q=wi τ fun ds=>Q1d g1 iH g2 we ds (Q7 nt cap τ) [] fun ns=>∀S:M Nat,S.Pairwise (·<·)->(∀x,x∈S ↔ x∈ns)->Q (.nw (S.map fun(n:Nat)=>.int (n:Int))):=rfl
end
theorem Z0x:∀(names:M (Str×NameKind)) (n:Nat) (c6:M (Str×Af)),cellsFrom n names c6=cellsFrom n names []++c6
 |[],n,c6=>rfl
 |(x,k)::r,n,c6=>by
  unfold cellsFrom;split
  ·rw[Z0x r (n+1) ((x,n)::c6),Z0x r (n+1) [(x,n)],bt];rfl
  ·exact Z0x r n c6
theorem Z4q:∀(names:M (Str×NameKind)) (n:Nat) (c6:M (Str×Af)) (y:Str×Af),y∈cellsFrom n names c6->y∈c6\/∃_:True,(y.1,NameKind.cell)∈names
 |[],n,c6,y,h=>.inl h
 |(x,k)::r,n,c6,y,h=>by
  unfold cellsFrom at h;split at h
  ·rename_i hk;rcases Z4q r _ _ y h with q |⟨t,q⟩
   ·rcases av.mp q with rfl |q
    ·refine .inr ⟨trivial,?_⟩;rw[eq_of_beq hk];exact am
    ·exact .inl q
   ·exact .inr ⟨t,ak _ q⟩
  ·rcases Z4q r _ _ y h with q |⟨t,q⟩
   ·exact .inl q
   ·exact .inr ⟨t,ak _ q⟩
structure Z0h (ps fr:M Str)(sc:Scope):Prop where
 kind:sc.kind=.function
 co:sc.isCoroutine=false
 gen:sc.isGenerator=false
 nd:(ps++fr).Nodup
 par:∀x∈ps,sc.names.lookup x=some .local\/sc.names.lookup x=some .cell
 fre:∀x∈fr,sc.names.lookup x=some .free
 all:∀y∈sc.names,y.2=.free->y.1∈fr
 cel:∀y∈sc.names,y.2=.cell->y.1∉fr
abbrev Q5q (q:Str)(sc:Scope)(L f:Af)(c:Ad)(cl:M (Str×Af)):Env:=PySem.W.envX q sc L f c (cellsFrom (L+1) sc.names []++cl)
def cxC (P:Aj)(w:Ak)(K:Fg9)(mg:Str->Ac Ad)(base:Heap)(N:M Str)(q:Str)(sc:Scope)(f c':Af)(caps:M S4)(A:Ah)(outer:M Env)(s:Ae)(H:Hp):Cx:=
 {cxL P w K mg base N q sc f c' caps A outer s H with A:=A.deeper (Q5q q sc s.heap.objs.size f (.ref c') (J1 caps)),env:=Q5q q sc s.heap.objs.size f (.ref c') (J1 caps),stack:=Q5q q sc s.heap.objs.size f (.ref c') (J1 caps)::outer}
def V6r {env:Env}  {n:Str}{v:Ad}(h:cs.lookup n=env.cells.lookup n):storeName {env with cells:=cs} n v=storeName env n v:=by
 unfold storeName cellOf;simp only[h]
 rfl
theorem Y3u (f f0:α->PUnit->Sem (ForInStep PUnit)):∀(l:M α),(∀x∈l,∀u,f x u=f0 x u)->forIn l PUnit.unit f=forIn l PUnit.unit f0
 |[],_=>rfl
 |a::l,h=>by
  rw[bF,bF,h a am];have ih:=Y3u f f0 l fun x hx=>h x (ak _ hx);congr 1
  funext r
  cases r with
  |done b=>rfl
  |yield b=>exact ih
def Z1p {c:Af}{l:M (Str×Af)}(h:l.lookup x=some c):(l++r).lookup x=some c:=by
 rw[vm,h];rfl
def Z6c {l:M (Str×Af)}(h:l.lookup x=none):(l++r).lookup x=r.lookup x:=by
 rw[vm,h];rfl
section
variable {A:Ah}
def W9y {globals:Af}{cl:M (Str×Af)}{binds:M (Str×Ad)}  {func:Ac Af}{code:Ad}{builtins:Af}{Q:Env->Ae->Prop}(hk:scope.kind=.function)
  (fL:∀x∈binds,scope.names.lookup x.1=some .local\/(scope.names.lookup x.1=some .cell/\((cellsFrom (s.heap.objs.size+1) scope.names []).lookup x.1).isSome=true))
  (hQ:∀s',InCallC s s.heap.objs.size (bindL (fun x=>scope.names.lookup x) binds fun _=>none) (cellsFrom (s.heap.objs.size+1) scope.names []) (bindC (fun x=>scope.names.lookup x) binds fun _=>none) s'->Q (newEnv scope s.heap.objs.size globals (cellsFrom (s.heap.objs.size+1) scope.names []++cl) qual func code none builtins) s'):
  wpAny Aa A (newFunctionEnv scope globals cl binds qual func code none builtins) Q E s:=by
 simp only[newFunctionEnv,Option.isSome_none,cm,gF];refine aa (wpAny_alloc ?_);refine aa (wpAny_layCells _ (fun name kind cells=>by cases wQ:kind==NameKind.cell<;>simp[wQ]) _ _ _ _ ?_);have ok:=cellsFrom_ok scope.names (s.heap.push {cls:=.type "frame",data:=.dict #[]}) (s.heap.objs.size+1) [] ⟨fun _ _ hm=>(nomatch hm),List.Pairwise.nil⟩ (by rw[bi];exact ao _);rw[bi]at ok;rw[show({s with heap:=s.heap.push {cls:=.type "frame",data:=.dict #[]}}:Ae).heap.objs.size=s.heap.objs.size+1 from bi ..];rw[Z0x];refine aa ?_;rw[Y3u _ (fun x u=>do storeName (newEnv scope s.heap.objs.size globals (cellsFrom (s.heap.objs.size+1) scope.names []) qual func code none builtins) x.1 x.2;pure (.yield ⟨⟩)) binds (fun x hx u=>?_)]
 ·refine wpAny_bindParams (s₀:=s) (env:=newEnv scope s.heap.objs.size globals (cellsFrom (s.heap.objs.size+1) scope.names []) qual func code none builtins)
   _ (fun _ _ _=>rfl) hk binds (fun _=>none) (fun _=>none) _ _
   ⟨⟨⟨_,_,rfl⟩,(Heap.Ns.new s.heap (.type "frame")).keeps (pushCells_keeps _ _),fun b o e=>pushCells_keeps _ _ b o (ae _ e),ao _⟩,
    fun n c hc=>(ok.empty n c (mem_of_lookup hc)).1,ok.apart,fun n c hm=>(ok.empty n c hm).2⟩
   fL fun s' x=>aj (hQ s' x)
 ·have e:∀cs:M (Str×Af),(cs++cl).lookup x.1=cs.lookup x.1->storeName (newEnv scope s.heap.objs.size globals (cs++cl) qual func code none builtins) x.1 x.2=storeName (newEnv scope s.heap.objs.size globals cs qual func code none builtins) x.1 x.2:=fun cs h=>V6r (env:=newEnv scope s.heap.objs.size globals cs qual func code none builtins) h;rcases fL x hx with hl |⟨_,hs⟩
  ·have lQ:∀cs:M (Str×Af),Env.kindOf (newEnv scope s.heap.objs.size globals cs qual func code none builtins) x.1=some .local:=fun _=>hl;have hp:∀cs:M (Str×Af),((newEnv scope s.heap.objs.size globals cs qual func code none builtins).scope.kind==.class||((newEnv scope s.heap.objs.size globals cs qual func code none builtins).scope.kind==.module&&(newEnv scope s.heap.objs.size globals cs qual func code none builtins).locals != (newEnv scope s.heap.objs.size globals cs qual func code none builtins).globals))=false:=fun _=>by
    show(scope.kind==.class||(scope.kind==.module&&_))=false;rw[hk];rfl
   show(do storeName (newEnv scope s.heap.objs.size globals (cellsFrom (s.heap.objs.size+1) scope.names []++cl) qual func code none builtins) x.1 x.2;pure (ForInStep.yield PUnit.unit))=_;rw[storeName_local (lQ _) (hp _),storeName_local (lQ _) (hp _)];rfl
  ·obtain⟨c,hc⟩:=m5.mp hs;show(do storeName (newEnv scope s.heap.objs.size globals (cellsFrom (s.heap.objs.size+1) scope.names []++cl) qual func code none builtins) x.1 x.2;pure (ForInStep.yield PUnit.unit))=_;rw[e _ (by rw[Z1p hc,hc])]
end
section
variable {w:Ak}{q:Str}{A:Ah}{outer:M Env}{s1:Ae}
theorem W7j (S:Z0h ps (caps.map (·.name)) sc)(i8:(?E).Nodup)(hd:A.handled=none)(e0:Q5h P w K mg base A outer s H)(hl:vs.length=ps.length)(r:C4 vs us)(hc:∀p∈caps,Z3v K H p)
  (x:InCallC s s.heap.objs.size (bindL (fun x=>sc.names.lookup x) (ps.zip us) fun _=>none) (cellsFrom (s.heap.objs.size+1) sc.names []) (bindC (fun x=>sc.names.lookup x) (ps.zip us) fun _=>none) s1):
  A1 (cxC P w K mg base (ps++caps.map (·.name)) q sc f c' caps A outer s (G1 (?E) H)) [] ((vs++caps.map (·.val)).map some) (G1 (?E) H) s1:=by
 obtain⟨h1,tk,rfl,hk⟩:=x.done;have hS:T3 (?E) H:=fun c dW=>by
  obtain⟨p,hp,rfl⟩:=au.mp dW;obtain⟨u,hu,_⟩:=(hc p hp).cell;exact⟨_,_,(hc p hp).at_,hu⟩
 have ie:∀b,H b=none->G1 (?E) H b=none:=fun b n=>by
  unfold G1;split
  ·rfl
  ·exact n
 have jg:(caps.map (·.name)).Nodup:=(ba.mp S.nd).2.1;have nU:ps.Nodup:=(ba.mp S.nd).1;have ve:∀p∈caps,p.addr<s.heap.objs.size:=fun p hp=>aw (e0.hok _ _ (hc p hp).at_).1;have k9:∀p∈caps,∃u,h1.IsCell p.addr (some u)/\C2 p.val u:=fun p hp=>by
  obtain⟨u,hu,ru⟩:=(hc p hp).cell;exact⟨u,⟨p.obj,hk _ _ (e0.hok _ _ (hc p hp).at_).1,hu⟩,ru⟩
 have iX:∀b:Af,b∉(cxC P w K mg base (ps++caps.map (·.name)) q sc f c' caps A outer s (G1 (?E) H)).ex:=fun b z=>absurd (show b∈([]:M Af)from z) ?G;have two:∀y c,(cellsFrom (s.heap.objs.size+1) sc.names []++J1 caps).lookup y=some c->((cellsFrom (s.heap.objs.size+1) sc.names []).lookup y=some c/\s.heap.objs.size<c)\/((cellsFrom (s.heap.objs.size+1) sc.names []).lookup y=none/\∃p∈caps,p.name=y/\p.addr=c):=fun y c h=>by
  cases e:(cellsFrom (s.heap.objs.size+1) sc.names []).lookup y with
  |some d=>
   rw[Z1p e]at h;cases h;exact .inl ⟨rfl,x.above y c (bc e)⟩
  |none=>
   rw[Z6c e]at h;exact .inr ⟨rfl,Q9a h⟩
 have own:∀y,(∃p∈caps,p.name=y)->(cellsFrom (s.heap.objs.size+1) sc.names []).lookup y=none:=fun y ⟨p,hp,e⟩=>by
  cases q:(cellsFrom (s.heap.objs.size+1) sc.names []).lookup y with
  |none=>rfl
  |some c=>
   have hm:y∈caps.map (·.name):=au.mpr ⟨p,hp,e⟩;obtain⟨k,wS⟩:=Z4q sc.names _ _ _ (bc q) |>.resolve_left ?G
   exact absurd hm (S.cel _ wS rfl)
 refine⟨⟨e0.mod,S.kind,rfl,rfl,ao _,fun y z c h1 h2=>?_,fun y hy=>?_,fun y c hf _=>absurd (show false=true from hf) (?K),fun _=>hd,iG e0.frames,.inr ⟨rfl,rfl⟩,fun b z=>absurd z (iX b),fun b o e=>⟨(e0.bs b o e).1,ie _ (e0.bs b o e).2⟩,e0.bsz,fun b _ _=>iX b,fun b z=>absurd z (iX b),e0.funs,fun b hb=>ie _ (e0.frf b hb)⟩,
  rfl,e0.bare,Un.kept hk,⟨_,x.toInCall.ns,fun i y v h1 h2 h3=>?_⟩,fun y c h=>?_,ie _ (e0.hok.fresh (ao _)),fun y c h=>?_,fun p hp=>absurd (show p∈([]:Pn9)from hp) ?G,e0.hok.hid hS hk,?_⟩
 ·rcases two y c h1 with⟨a1,a2⟩ |⟨_,p,hp,rfl,e1⟩
  ·rcases two z c h2 with⟨b1,_⟩ |⟨_,p',oi,rfl,e2⟩
   ·exact name_of_addr x.apart (bc a1) (bc b1)
   ·have:=ve p' oi;rw[e2]at this;exact absurd (nK a2 this) (aS _)
  ·rcases two z c h2 with⟨_,b2⟩ |⟨_,p',oi,rfl,e2⟩
   ·have:=ve p hp;rw[e1]at this;exact absurd (nK b2 this) (aS _)
   ·rw[Z4h i8 hp oi (e1.trans e2.symm)]
 ·have hy:sc.names.lookup y=some .cell\/sc.names.lookup y=some .free:=hy;show ∃c,(cellsFrom (s.heap.objs.size+1) sc.names []++J1 caps).lookup y=some c;rcases hy with hy |hy
  ·obtain⟨c,e⟩:=Z0w (n:=s.heap.objs.size+1) hy;exact⟨c,Z1p e⟩
  ·have:=S.all _ (bc hy) rfl;obtain⟨p,hp,e⟩:=au.mp this;have e:p.name=y:=e;exact⟨p.addr,by rw[Z6c (own y ⟨p,hp,e⟩),<-e];exact Q8p jg hp⟩
 ·by_cases hi:i<ps.length
  ·have hp:ps[i]?=some y:=by rw[show(cxC P w K mg base (ps++caps.map (·.name)) q sc f c' caps A outer s (G1 (?E) H)).N=ps++caps.map (·.name)from rfl,aB hi]at h1;exact h1
   have hv:vs[i]?=some v:=by
    rw[ah,aB (by lia)]at h2;cases e:vs[i]? with
    |none=>rw[e]at h2;cases h2
    |some a=>rw[e]at h2;cases h2;rfl
   obtain⟨u,hu,rv⟩:=r.get hv;refine⟨u,rv,?_⟩;rcases S.par y (az hp)with k |k
   ·exact .inl ⟨k,Z4p nU hp hu k⟩
   ·obtain⟨c,e⟩:=Z0w (n:=s.heap.objs.size+1) k;refine .inr ⟨.inl k,c,Z1p e,?_⟩;have q:=x.cell y c e;rw[Z4o nU hp hu (by rw[k];decide)]at q;exact q
  ·have hp:(caps.map (·.name))[i-ps.length]?=some y:=by rw[show(cxC P w K mg base (ps++caps.map (·.name)) q sc f c' caps A outer s (G1 (?E) H)).N=ps++caps.map (·.name)from rfl,aK (by lia)]at h1;exact h1
   have hv:(caps.map (·.val))[i-ps.length]?=some v:=by
    rw[ah,aK (by lia),hl]at h2;cases e:(caps.map (·.val))[i-ps.length]? with
    |none=>rw[e]at h2;cases h2
    |some a=>rw[e]at h2;cases h2;rfl
   rw[ah]at hp hv;cases e:caps[i-ps.length]? with
   |none=>rw[e]at hp;cases hp
   |some p=>
    rw[e]at hp hv;cases hp;cases hv;have lN:=az e;obtain⟨u,dP,ru⟩:=k9 p lN;exact⟨u,ru,.inr ⟨.inr (S.fre _ (db lN)),p.addr,by show(_++J1 caps).lookup _=_;rw[Z6c (own _ ⟨p,lN,rfl⟩)];exact Q8p jg lN,dP⟩⟩
 ·rcases two y c h with⟨a1,_⟩ |⟨_,p,hp,rfl,rfl⟩
  ·exact⟨_,x.cell y c a1⟩
  ·obtain⟨u,dP,_⟩:=k9 p hp;exact⟨_,dP⟩
 ·rcases two y c h with⟨_,a2⟩ |⟨_,p,hp,rfl,rfl⟩
  ·exact ie _ (e0.hok.fresh (cg a2))
  ·exact Q4m (db hp)
 ·rw[ag,aC,ag,hl];show _=(ps++caps.map (·.name)).length;rw[aC,ag]
end
theorem W6d {w:Ak}    {k:Nat}     {rp:Pos}   {ctv:Ad}    
  (S:Z0h ps (caps.map (·.name)) sc) (i8:(?E).Nodup)
  (bQ:∀(A:Ah) (outer:M Env) (s:Ae) (H:Hp) (q:Str),E2 k (A.deeper (Q5q q sc s.heap.objs.size f (.ref c') (J1 caps)))->DE (cxC P w K mg base (ps++caps.map (·.name)) q sc f c' caps A outer s H) H e wb)
  (hw:∀rs r,rs.length=ps.length->sp rs r->∃(ds:M D) (d:D),rs=ds.map R.st/\r=.st d/\wb (ds.map (fun d=>some (Sl.dat d))++caps.map fun p=>some p.slot) fun r'=>r'=.st d):
  O8 P w K mg base G8 (k+1) f (PySem.W.fnX name qual params [.Return (some e) rp] sc (J1 caps) .none .none doc pm none (.ref c') ctv) ps (Q7n K ps.length (U6 K caps f c' (PySem.W.fnMade name qual params [.Return (some e) rp] sc (J1 caps) doc pm c' ctv)) sp):=by
 refine⟨fun vs H Q E h=>?_,fun A outer s H args us vs Q E hr e0 hb r io=>?_⟩
 ·obtain⟨rs,r,hl,al,_⟩:=h;rw[<-al.length];exact hl
 obtain⟨rs,r0,hl,al,ok,⟨hf,⟨oc,Pt,hc,qc⟩,fy⟩,h1,h2⟩:=io;have rY:vs.length=ps.length:=by rw[<-al.length];exact hl
 have jL:s.heap.NoLimit:=e0.mod.nolimit.keeps fun b o e=>(e0.bs b o e).1;have gf:s.heap.get? f=some _:=(e0.hok _ _ hf).1;have gc:s.heap.get? c'=some oc:=(e0.hok _ _ hc).1;obtain⟨t5,q,tq,fS,hq⟩:=qc;obtain⟨ds,d,oH,rfl,rK⟩:=hw (rs.map nrm) r0 (by rw[ag];exact hl) h1;have hS:T3 (?E) H:=fun c dW=>by
  obtain⟨p,hp,rfl⟩:=au.mp dW;obtain⟨u,hu,_⟩:=(fy p hp).cell;exact⟨_,_,(fy p hp).at_,hu⟩
 refine W4n (fd:=PySem.W.fnX name qual params [.Return (some e) rp] sc (J1 caps) .none .none doc pm none (.ref c') ctv) hr.depth gf rfl S.co S.gen rfl ⟨c',oc,t5,tq,rfl,gc,fS,hq⟩ (hb _ _ _ _ ?_);have fL:∀y∈ps.zip us,sc.names.lookup y.1=some .local\/(sc.names.lookup y.1=some .cell/\((cellsFrom (s.heap.objs.size+1) sc.names []).lookup y.1).isSome=true):=fun cw hy=>by
  obtain⟨n,v⟩:=cw;rcases S.par n (cL hy).1 with q |q
  ·exact .inl q
  ·exact .inr ⟨q,dI _ _ _ (.inl q)⟩
 refine W9y S.kind fL fun s1 x=>⟨jL.keeps x.toInCall.keep,?_⟩
 show codeAny _ _ (.func [.Return (some e) rp] (Q5q q sc s.heap.objs.size f (.ref c') (J1 caps))) _ _;have I:=W7j (q:=q) (f:=f) (c':=c') S i8 hr.hd e0 rY r fy x;have hD:=bQ A outer s (G1 (?E) H) q (hr.deeper _);have rep:B6 K (G1 (?E) H) (ds.map (fun d=>some (Sl.dat d))++caps.map fun p=>some p.slot) ((vs++caps.map (·.val)).map some) (G1 (?E) H):=by
  have ck:ds.length=vs.length:=by
   have:=congrArg List.length oH;rw[ag,ag]at this;rw[<-this,al.length]
  have args:∀(i:Nat) (d:D),ds[i]?=some d->∃v,vs[i]?=some v/\A3 K H d v:=fun i d e=>by
   have:(rs.map nrm)[i]?=some (.st d):=by rw[oH,ah,e];rfl
   rw[ah]at this;cases e2:rs[i]? with
   |none=>rw[e2]at this;cases this
   |some x=>
    rw[e2]at this;have hx:nrm x=.st d:=aA this;obtain⟨v,hv,q⟩:=al.get e2;refine⟨v,hv,?_⟩;cases x with
    |st y=>cases hx;exact q
    |nw _=>cases hx
    |bw _=>cases hx
    |dk _=>cases hx
    |dt _=>cases hx
    |ob _=>cases hx
    |cl _ _=>cases hx
    |ms _ _ _ _=>cases hx
  have Q4j:∀(i:Nat) (sl:Sl),(ds.map (fun d=>some (Sl.dat d))++caps.map fun p=>some p.slot)[i]?=some (some sl)->∃v,((vs++caps.map (·.val)).map some)[i]?=some (some v)/\SlR K (G1 (?E) H) (G1 (?E) H) sl v/\sl.mut=false:=fun i sl e=>by
   by_cases hi:i<ds.length
   ·rw[aB (by rw[ag];exact hi),ah]at e;cases e1:ds[i]? with
    |none=>rw[e1]at e;cases e
    |some y=>
     rw[e1]at e;cases e;obtain⟨v,hv,q⟩:=args i y e1;refine⟨v,?_,A3.hid hS _ _ q,rfl⟩;rw[ah,aB (by lia),hv];rfl
   ·rw[aK (by rw[ag];lia),ag,ah]at e;cases e1:caps[i-ds.length]? with
    |none=>rw[e1]at e;cases e
    |some p=>
     rw[e1]at e;cases e;obtain⟨q1,q2⟩:=(fy p (az e1)).rel.slot hS;refine⟨p.val,?_,q1,q2⟩;rw[ah,aK (by lia),ah,<-ck,e1];rfl
  refine⟨by simp[ck],A4.refl _,fun i sl e=>let ⟨v,a,b,_⟩:=Q4j i sl e;⟨v,a,b⟩,fun i j s t v _ e1 _ m _ _ _=>?_⟩;obtain⟨_,_,_,z⟩:=Q4j i s e1;rw[z]at m;cases m
 have xD:U7 (cxC P w K mg base (ps++caps.map (·.name)) q sc f c' caps A outer s (G1 (?E) H)) [.Return (some e) rp] _:=(A8.one (DS.ret hD)).ps;refine yU (aE (xD [] _ _ _ {nx:=fun _ _=>False,rt:=fun v H'=>A4 (G1 (?E) H) H'/\A3 K H' d v} I ⟨_,rep,hD.mono _ _ _ (fun r' mB=>by subst mB;exact fun v H' sm ir=>⟨sm,ir⟩) rK⟩) (fun fl s' hs=>?_) fun e s' hs=>(show False from hs).elim);cases fl with
 |next=>obtain⟨_,_,_,h⟩:=hs;exact(show False from h).elim
 |brk=>obtain⟨_,_,_,h⟩:=hs;exact(show False from h).elim
 |cont=>obtain⟨_,_,_,h⟩:=hs;exact(show False from h).elim
 |ret u=>
 obtain⟨v,σ',H',J,rv,sm,q⟩:=hs;have out:∀b u,H' b=some u->b∉?E:=fun b u e fT=>by
  obtain⟨o,u',jY,_⟩:=hS b fT;have:=J.base.free b o (e0.hok _ _ jY).1 (Q4m fT) (by show b∉([]:M Af);simp);rw[this]at e;cases e
 have dG:A4 H' (showS (?E) H H'):=fun b u e=>by rw[Q6f (out b u e)];exact e
 have kC:=A4.showS hS sm;show CE outer P w H s Q u s';refine⟨v,showS (?E) H H',J.os,J.bare,?_,?_,rv,h2 v (showS (?E) H H') kC (show E1 K H (showS (?E) H H') (.st d) v from A3.mono (Kp.of dG) d v q)⟩
 ·have hn:∀b,H b=none->b∉?E:=fun b n hb=>by obtain⟨o,u,q,_⟩:=hS b hb;rw[n]at q;cases q
  have hid0:∀b,H b=none->G1 (?E) H b=none:=fun b n=>by rw[Z7 (hn b n)];exact n
  refine⟨fun b o e n hb hx=>J.base.keep b o e (hid0 b n) hb hx,fun b o e n hb hx=>J.base.slot b o e (hid0 b n) hb hx,fun b o e n hx=>?_,fun b o e hx=>J.base.there b o e hx,fun b xs e=>kC _ _ e,fun b o u e=>kC _ _ e,fun b ps e=>⟨#[],by rw[kC _ _ e];simp⟩⟩;rw[Q6f (hn b n)];exact J.base.free b o e (hid0 b n) hx
 ·intro b u e
  by_cases fT:b∈?E
  ·rw[Z7t fT]at e;obtain⟨o,u',jY,_⟩:=hS b fT;rw[jY]at e;cases e;have g:=(e0.hok _ _ jY).1;have:b∉U0 outer:=fun z=>by have:=e0.frf b z;rw[jY]at this;cases this
   exact Q5l (J.base.keep b o g (Q4m fT) this (by show b∉([]:M Af);simp))
  ·rw[Q6f fT]at e;exact(J.hok b u e).stay (fun c v _ q=>q) (fun c v _ q=>dG _ _ q) fun c xs q=>dG _ _ q
section
variable {body:Ag}{k kl i:Nat}{jI:M Str}{nm:Str}{p2 rp:Pos}{c:Af}{cs:M (Str×Nat)}
def V6v (X:Cx)(H0:Hp)(i kl:Nat)(nm qual:Str)(params:Arguments)(body:Ag)(rp:Pos)(sc:Scope)(clos:M (Str×Af))(Pt:Af)(n:Nat)(cs:M (Str×Nat))(wb:WE)(sp:F5)(we:WE):TE:=fun σ H Q=>
 ∃fa,σ[i]?=some (some (.ref fa))/\NdAt X nm qual params body rp sc clos Pt fa H/\∃ τ,B6 X.K H0 τ σ H/\we τ fun r1=>L3 r1=true/\∃cr,Z0 τ cs cr/\∀f Φ,D9 X.prog X.w X.K X.mg X.base (kl+1) n f Φ (G6 wb cr)->∃d,sp [nrm r1,.cl f Φ] (.st d)/\∀v H',A4 H H'->E1 X.K H H' (.st d) v->Q v H'
def V1l (F:O8 X.prog X.w X.K X.mg X.base G8 k f fd jI (Q2u X.K 2 sp))(hr:E2 k X.A)(hg:Gl X x)(hm:X.mg x=some (.ref f))(hk:PySem.W.keepIn X.K (.ref f)=true)(hb:S3 X.K fd jI [])(ha:DE X H0 e we)(hn:PE X (.Name nm p2) (S9 i))
  (gP:cs.map (·.1)=clos.map (·.1)) (gR:∀y∈clos,X.env.cells.lookup y.1=some y.2) (jt:∀c∈cs,X.N[c.2]?=some c.1/\X.env.kindOf c.1=some .cell/\X.fn c.1=true) (S:Z0h ps (cs.map (·.1)) sc)
  (dE:∀(cl:M (Str×Af)) (doc pm cd ct:Ad) (us:M Ad),us.length=ps.length->bindArgs (PySem.W.fnX nm qual params [.Return (some body) rp] sc cl .none .none doc pm none cd ct) ⟨us,[]⟩=pure (ps.zip us))
  (bQ:∀(caps:M S4) (f c':Af) (A:Ah) (outer:M Env) (s:Ae) (H:Hp) (q:Str),caps.map (·.name)=cs.map (·.1)->E2 kl (A.deeper (Q5q q sc s.heap.objs.size f (.ref c') (J1 caps)))->DE (cxC X.prog X.w X.K X.mg X.base (ps++cs.map (·.1)) q sc f c' caps A outer s H) H body wb)
  (fG:(x==("__debug__":Str))=false:=by decide) (he:starEach [e,.Name nm p2] X.env=(false,eval e X.env)::starEach [.Name nm p2] X.env:=by rfl) (mR:starEach [.Name nm p2] X.env=(false,eval (.Name nm p2) X.env)::starEach [] X.env:=by rfl)
  (hpl:(backTo pos (starEach [.Name nm p2] X.env)).any (·.1)=false:=by rfl):
  PE X (.Call (.Name x p) [e,.Name nm p2] [] pos) (V6v X H0 i kl nm qual params body rp sc clos Pt ps.length cs wb sp we):=by
 intro af s σ H Q I ⟨fa,hσ,⟨c',oc,ctv,doc,eN,hc0,hf0⟩,τ,hR,h⟩;refine bn (Q8y I hg hm ?_ fG);have oT:PA X [e,.Name nm p2] (Q4v _ (Q4v _ Z2u)):=Q2a (es:=[.Name nm p2]) ha.pe (Q2a (es:=[]) hn Q6c mR) he;refine eR (h₀:=X.base) I.ok.mod.kin hk (B3 (oT pos af s σ H (fun vs H1=>A4 H H1/\∃v1 r1,vs=[v1,.ref fa]/\E1 X.K H H1 r1 v1/\L3 r1=true /\
  ∃cr,Z0 τ cs cr/\∀f Φ,D9 X.prog X.w X.K X.mg X.base (kl+1) ps.length f Φ (G6 wb cr)->∃d,sp [nrm r1,.cl f Φ] (.st d)/\∀v H',A4 H H'->E1 X.K H H' (.st d) v->Q v H') I ?_) fun us s1 ⟨vs,H1,I1,r,iU,q⟩=>⟨I1.kIn,?_⟩) he hpl
 ·exact⟨τ,hR,ha.mono τ _ _ (fun r1 ⟨ok,cr,h1,h2⟩ v1 H1 s1 ir=>⟨_,hσ,s1,v1,r1,rfl,ir,ok,cr,h1,h2⟩) h⟩
 ·obtain⟨v1,r1,rfl,ir,ok,cr,h1,h2⟩:=q;have dW:=iU _ _ hc0;have ii:=iU _ _ hf0;obtain⟨caps,n1,n2,jh⟩:=Q6z I1 (hR.mono iU) jt h1;have fg:∀p∈caps,Q2i X s1 p:=fun p hp=>(jh p hp).1;have jg:(caps.map (·.name)).Nodup:=by rw[n1];exact(ba.mp S.nd).2.1
  have nd:=Q8q I1 jg fg;have hL:J1 caps=clos:=Q6y (cs:=clos) (n1.trans gP) (fun p hp=>(fg p hp).look) gR;have fP:=Q5j I1 fg;subst hL;have LP:U6 X.K caps fa c' (Q1r X nm qual params [.Return (some body) rp] sc (J1 caps) doc c' ctv) (V7 caps H1):=⟨fP _ _ ii,⟨oc,Pt,fP _ _ dW,eN⟩,fun p hp=>⟨Q4h nd hp,(fg p hp).cell,(jh p hp).2.mono (Kp.of fP)⟩⟩
  have F0:=W6d (P:=X.prog) (w:=X.w) (K:=X.K) (mg:=X.mg) (base:=X.base) (k:=kl) (f:=fa) (c':=c') (name:=nm) (qual:=qual) (params:=params) (e:=body) (rp:=rp) (doc:=doc) (sc:=sc) (pm:=(X.mg "__name__").getD .none) (ctv:=ctv) (ps:=ps) (caps:=caps) (sp:=G6 wb cr) (wb:=wb) (by rw[n1];exact S) nd
   (fun A outer s H q hr=>by rw[n1];exact bQ caps fa c' A outer s H q n1 hr) (fun rs r _ hs=>by
    obtain⟨ds,d,e1,e2,e3⟩:=hs;refine⟨ds,d,e1,e2,?_⟩;have:cr.map some=caps.map fun p=>some p.slot:=by rw[<-n2,aM];rfl
    rw[<-this];exact e3)
  obtain⟨d,g1,g2⟩:=h2 fa _ ⟨_,ps,F0,rfl,S3.all (dE _ _ _ _ _),fun hh Hh hok _ hΦ=>⟨_,(hok _ _ hΦ.1).1,rfl⟩⟩;refine Z7g (CX:=G8) (E:=E0) F hr hb I1 nd fg r ⟨[r1,.cl fa _],.st d,rfl,⟨v1,_,rfl,(ir.mono fP).v,_,_,rfl,⟨rfl,LP,U6.mono⟩,rfl⟩,by rw[fA,ok];rfl,g1,fun v H' dG iv=>⟨dG,?_⟩⟩;have hS:T3 (?E) H':=fun c l8=>by
   obtain⟨o,u,e1,e2⟩:=Z0m (H:=H1) nd fg c l8;exact⟨o,u,dG _ _ e1,e2⟩
  have Q1z:∀b u,H1 b=some u->b∉?E:=fun b u e hb=>by
   obtain⟨p,hp,rfl⟩:=au.mp hb;rw[I1.freeC _ _ (fg p hp).look]at e;cases e
  exact g2 v _ (fun b u e=>by rw[Z7 (Q1z b u (iU _ _ e))];exact dG _ _ (fP _ _ (iU _ _ e))) (show A3 X.K _ d v from A3.hid hS d v iv)
end
section
variable {body:Ag}{g:WG}{ws:WS}{rest:M Al}{k kl i:Nat}{jI:M Str}{nm:Str}{p2 rp k8:Pos}{c:Af}{cs:M (Str×Nat)}
def W2h (hN:X.N.Nodup)(hi:X.N[i]?=some nm)(hx:Loc X.env.scope nm)(hT:H0 Pt=some .tab)(hB:Y5 X.mg X.base)(cU:X.env.code=.ref c)(hC:PySem.W.codeHdIn X.K c Pt=true)(gQ:closureFor sc X.env=pure clos)
  (F:O8 X.prog X.w X.K X.mg X.base G8 k f fd jI (Q2u X.K 2 sp)) (hr:E2 k X.A) (hg:Gl X x) (hm:X.mg x=some (.ref f)) (hk:PySem.W.keepIn X.K (.ref f)=true) (hb:S3 X.K fd jI []) (ha:DE X H0 e we) (hn:PE X (.Name nm p2) (S9 i))
  (gP:cs.map (·.1)=clos.map (·.1)) (gR:∀y∈clos,X.env.cells.lookup y.1=some y.2) (jt:∀c∈cs,X.N[c.2]?=some c.1/\X.env.kindOf c.1=some .cell/\X.fn c.1=true) (S:Z0h ps (cs.map (·.1)) sc)
  (dE:∀(qual:Str) (cl:M (Str×Af)) (doc pm cd ct:Ad) (us:M Ad),us.length=ps.length->bindArgs (PySem.W.fnX nm qual params [.Return (some body) rp] sc cl .none .none doc pm none cd ct) ⟨us,[]⟩=pure (ps.zip us))
  (bQ:∀(caps:M S4) (f c':Af) (A:Ah) (outer:M Env) (s:Ae) (H:Hp) (q:Str),caps.map (·.name)=cs.map (·.1)->E2 kl (A.deeper (Q5q q sc s.heap.objs.size f (.ref c') (J1 caps)))->DE (cxC X.prog X.w X.K X.mg X.base (ps++cs.map (·.1)) q sc f c' caps A outer s H) H body wb)
  (sk:DG X H0 tg g) (jP:A8 X H0 rest ws)
  (fG:(x==("__debug__":Str))=false:=by decide) (he:starEach [e,.Name nm p2] X.env=(false,eval e X.env)::starEach [.Name nm p2] X.env:=by rfl) (mR:starEach [.Name nm p2] X.env=(false,eval (.Name nm p2) X.env)::starEach [] X.env:=by rfl)
  (hpl:(backTo pos (starEach [.Name nm p2] X.env)).any (·.1)=false:=by rfl) (hd:defaultsOf params X.env=([],[]):=by rfl) (mV:annTrees params none X.env=[]:=by rfl)
  (ij:X.fn nm=true\/X.env.scope.names.lookup nm=some .local:=by first |exact .inl rfl |exact .inr rfl |assumption)
  (hs:swapsWithSole [tg] (.Call (.Name x p) [e,.Name nm p2] [] pos) apos.line X.env=pure false:=by rfl) (hw:swappedStores [tg] (.Call (.Name x p) [e,.Name nm p2] [] pos) X.env=pure none:=by rfl) (h1:(assignEach [tg] X.env).map (·.2)=[assign tg X.env]:=by rfl):
  A8 X H0 (.FunctionDef nm params [.Return (some body) rp] [] none [] sc none nm k8::.Assign [tg] (.Call (.Name x p) [e,.Name nm p2] [] pos) apos::rest) (Z9c (D9 X.prog X.w X.K X.mg X.base (kl+1)) ps.length i cs wb sp we g ws) where
 mono:=fun τ E F le h=>⟨h.1,fun a=>ha.mono _ _ _ (fun r1 ⟨ok,cr,h1,h2⟩=>⟨ok,cr,h1,fun f Φ F0=>let ⟨d,a1,a2⟩:=h2 f Φ F0;⟨d,a1,sk.mono d _ _ _ (fun τ' h=>jP.mono τ' E F le h) a2⟩⟩) (h.2 a)⟩
 ps:=Q9m (Z2e (V2k hN hi hx hB cU hC gQ hd mV ij) (Z2e (Y7m (V1l (Pt:=Pt) (qual:=qualnameIn X.env nm nm) F hr hg hm hk hb ha hn gP gR jt S (dE _) bQ fG he mR hpl) sk.pg hs hw h1) jP.ps)) fun D σ H ⟨τ,hR,h⟩=>by
  refine⟨hR.same _ _ hT,fun fa c' oc ctv doc H' sm eN hf dW ii _=>?_⟩;have eO:=(hR.mono sm).set (i:=i) (s:=.ob fa) (v:=.ref fa) rfl (fun m=>by cases m);have hl:i<σ.length:=by rw[<-hR.len];exact h.1
  refine⟨fa,b9 hl,⟨c',oc,ctv,doc,eN,dW,ii⟩,_,eO,ha.mono _ _ _ (fun r1 ⟨ok,cr,h1,h2⟩=>⟨ok,cr,h1,fun f Φ F0=>?_⟩) (h.2 fa)⟩;obtain⟨d,a1,a2⟩:=h2 f Φ F0;exact⟨d,a1,fun v H1 s1 ir=>⟨_,d,eO.mono s1,ir,sk.mono d _ _ _ (fun τ' h σ' H2 s2 eK=>⟨τ',eK,jP.mono τ' _ _ (Z1n (Kp.of (sm.trans (s1.trans s2)))) h⟩) a2⟩⟩
end
abbrev kvC (kvs:M (Str×Sum Int Str)):M (B0×D):=kvs.map fun kv=>((Sum.inr kv.1:B0),cD kv.2)
theorem Y4x:∀kvs:M (Str×Sum Int Str),C9 K H (kvC kvs) (kvs.map fun kv=>((Sum.inr kv.1:B0),cV kv.2))
 |[]=>rfl
 |kv::r=>⟨cV kv.2,_,rfl,(W7o (H0:=H) kv.2:A3 K H (cD kv.2) (cV kv.2)),Y4x r⟩
def Z3i (i:Nat)(kvs:M (Str×Sum Int Str)):WS:=fun E τ=>i<τ.length/\E.nx (τ.set i (some (.dk (kvC kvs))))
section
variable {i:Nat}
def W2a {kvs:M (Str×Sum Int Str)}  {k8:Pos}(hd:Q1f X keys values k8 kvs iT)(h0:keys≠[])(sT:kvs.length<=15)(hk:keys.length<=15)(nd:(kvs.map (·.1)).Nodup)(hN:X.N.Nodup)(hi:X.N[i]?=some x)(hx:Loc X.env.scope x)
  (hs:swapsWith (.Dict keys values k8) (some (.Name x cn)) pos.line X.env=pure false:=by rfl) (hf:?J:=by first |exact .inl rfl |exact .inr rfl |assumption):DS X H0 (.Assign [.Name x cn] (.Dict keys values k8) pos) (Z3i i kvs) where
 mono:=fun τ E F le h=>⟨h.1,le.nx _ h.2⟩
 ps:=U2 (Q6d hN hi hx (Y6z hd.pps hd.all hd.len h0 hk) hs hf) fun D σ H hq p hp=>by
  obtain⟨τ,hR,hl,h⟩:=hq;refine hd.rd σ _ _ ⟨upd_same,kvs.map (fun kv=>((Sum.inr kv.1:B0),cV kv.2)),by simp[kV],by simpa using sT,?_⟩;have vP:(kvs.map fun kv=>(Sum.inr kv.1:B0)).Nodup:=by
   have:kvs.map (fun kv=>(Sum.inr kv.1:B0))=(kvs.map (·.1)).map Sum.inr:=by rw[aM];rfl
   rw[this];exact iB.mpr (nd.imp fun h z=>h (Sum.inr.inj z))
  rw[Y5t kvs [] (by simpa using vP),cq,V8a];have sm:A4 H (A6 H p (.dK (kvs.map fun kv=>((Sum.inr kv.1:B0),cV kv.2)))):=K2 hp _;have kh:∀(j:Nat) (t:Sl),τ[j]?=some (some t)->t.mut=true->σ[j]?≠some (some (.ref p)):=fun j t e m q=>by
   obtain⟨o,ho⟩:=hR.tracked e m q;rw[hp]at ho;cases ho
  have kn:=(hR.mono sm).set (i:=i) (s:=.dk (kvC kvs)) (v:=.ref p) ⟨p,_,rfl,hR.same.free hp,upd_same,Y4x kvs⟩ fun _ j t hj e m q=>kh j t e m q;exact h _ _ (Kp.of sm) kn
@[simp] theorem V5f {kvs:M (Str×Sum Int Str)}{E:J4}:Z3i i kvs E τ=(i<τ.length/\E.nx (τ.set i (some (.dk (kvC kvs))))):=rfl
end
def Q4w (x:Str):Str:=⟨x.cps.reverse⟩
theorem V6h (x:Str)(u:Tok):Txt.sliceBy x none none (-1,u)=Q4w x:=by
 have h:=PyProof.Rows.step_rev_list x u;generalize Txt.sliceBy x none none (-1,u)=y at h;obtain⟨c⟩:=y;unfold Q4w;congr 1;apply j9.mp;rw[show c.toList=_ from h,qt];have hl:x.length=x.cps.toList.length:=by simp[Str.length]
 apply yR
 ·simp[Str.length]
 ·intro i h1 h2;simp only[List.getElem_map,vn,List.getElem_reverse];have h3:i<x.cps.size:=by simpa [Str.length]using h1
  have e:x.length=x.cps.size:=rfl;have hi:x.cps.size-1-i<x.cps.size:=by lia
  rw[e];simp[Array.getD,hi]
section
variable {p2 p3 p4:Pos}
def Q5c (we:WE):WE:=fun τ Q=>we τ fun r=>∃x,r=.st (.str x)/\x.length<=sizeLine/\Q (.st (.str (Q4w x)))
def Y0k {j:Nat}(he:DE X H0 e we):DE X H0 (.Subscript e (.Slice none none (some (.UnaryOp .USub (.Constant (.int 1) j p3) p4)) p2) pos) (Q5c we) where
 mono:=fun τ P Q f h=>he.mono τ _ _ (fun r⟨x,h1,h2,h3⟩=>⟨x,h1,h2,f _ h3⟩) h
 pe:=by
  intro af s σ H Q I ⟨τ,hR,h⟩;refine Subscript_ (B3 (he.pe af s σ H (fun v H1=>A4 H H1/\∃x,v=.str x/\x.length<=sizeLine/\∀v H',A4 H H'->E1 X.K H H' (.st (.str (Q4w x))) v->Q v H') I ⟨τ,hR,he.mono τ _ _ (fun r hq v H1 s1 ir=>by obtain⟨x,h1,h2,h3⟩:=hq;subst h1;exact⟨s1,x,ir,h2,h3⟩) h⟩) fun u s1 jN=>?_);obtain⟨v,H1,I1,r1,sm,x,e1,hz,q⟩:=jN;subst e1;obtain⟨tx,rfl⟩:=r1;refine wpAny_Slice ?_;rw[evalPart_none];refine aj ?_;refine aj ?_;rw[evalPart_some];refine B3 (Y7d W0d Y7a af s1 σ H1 (fun z Hz=>z=.int (-1)/\Hz=H1) I1 ⟨1,rfl,rfl,rfl⟩) fun yC s3 bG=>?_;obtain⟨z,H3,I3,r3,e1,e2⟩:=bG;subst e1 e2;obtain⟨t,rfl⟩:=r3;have I4:A1 X af σ H3 {s3 with heap:=s3.heap.push {cls:=.type "slice",data:=.fields #[.none,.none,.int (-1) t]}}:=I3.kept (t':=s3.toks) fun b ob q=>ae _ q;show wpAny ?C X.A (subscriptTail e (.Slice none none (some (.UnaryOp .USub (.Constant (.int 1) j p3) p4)) p2) (.str x tx) (.ref s3.heap.objs.size)) (EP X af σ Q) X.xe {s3 with heap:=s3.heap.push {cls:=.type "slice",data:=.fields #[.none,.none,.int (-1) t]}};refine tail_any (ops:=[.str x tx,.ref s3.heap.objs.size]) (typeIs_str _ _ _) PySem.F.slot_str_getitem.lookup (wpAny_getItem_str_slice (l:=none) (u:=none) (st:=some (-1,t)) ⟨_,aD _ rfl,rfl,rfl⟩ rfl (post_val_or_str ⟨?_,fun t' k=>?_⟩)) (by with_unfolding_all rfl)
  ·exact aO (dQ (PyProof.Rows.step_rev_len x t)) hz
  ·refine⟨.str _,H3,I4.tok k,⟨t',rfl⟩,?_⟩;have:=q (.str (Q4w x)) H3 sm Z1j;rw[<-V6h x t]at this;exact this
end
@[simp] theorem Y8l {Q:R->Prop}:Q5c we τ Q=we τ fun r=>∃x,r=.st (.str x)/\x.length<=sizeLine/\Q (.st (.str (Q4w x))):=rfl
abbrev Y1j:M Str:=["rows","column","told","state","row"]
def W0l:WS:=(A9 (Z3k 2 1 [] (Q4n (wV 0)) (B7 0) (X4 A2)) (A9 (Z3f 2 (X3 (Q3t (A0 (wV 0) A2)) (M6 2 (D7 (B7 3) (D7 (B7 4) N2))) (Q6i 2 (A5 C8 (wV 4) (wV 1)) (C1 (wV 3))))) (Z3n 2)))
abbrev Q8j:M Str:=["one","ends","rows","backward","step","keys","turned_rows"]
def Z3r:WE:=(D4 T0 (A0 (Z9l 2 [2,1] (Q4n (wV 0)) (B7 0) (Q2s (A5 C8 (A5 C8 (wV 2) (wV 3)) (wV 0))) (B7 1) (wV 1)) A2))
def Z9w (dh:J9)(sp_walked:F5)(sp_least_of:D5)(sp_comers:F5):WS:=(A9 (Q4x (B9 sp_least_of (A0 (wV 0) A2)) (M6 2 (D7 (B7 1) (D7 (B7 2) N2)))) (A9 (Q9z 3 (D6 3 (X2 1 [2] (Q7g (A0 (D4 F3 (A0 (wC (.str "01ab")) A2)) A2)) (B7 0) X1 (C1 (N4 sp_comers (A0 (wV 1) (A0 (wV 0) A2))))))) (Z9c dh 2 4 [("backward",3)] Z3r sp_walked (D4 T0 (A0 (X2 2 [] (Z1k (A0 (wV 1) A2)) (M6 2 (D7 (B7 0) (D7 (B7 1) N2))) (K4 (wV 1)) (C1 (wV 0))) A2)) (M6 2 (D7 (B7 5) (D7 (B7 6) N2))) (F7 (Q1e (A0 (C1 (D4 T0 (A0 (X2 1 [] (Q2s (wV 5)) (B7 0) X1 (C1 (wB (A5 (inL 59 false) (wC (.int 0)) (wV 0))))) A2))) (A0 (C1 (wV 6)) A2)))))))
def sp_comers:F5:=fun rs r=>∃(rows:M (M Nat)) (c:Nat),rs=[.st (rsD rows),.st (iD c)]/\(∀r∈rows,c<r.length/\r.getD c 0<rows.length)/\rows.length<=20000/\r=.st (llD (W0 rows c))
theorem Y3s {E:J4}    (n0:G9 o0=true):∀(rs:M (M Nat)) (s:Nat) (B:M (M Nat)) (m:Nat) (o3 o4:Ac Sl),G9 o3=true->G9 o4=true ->
  (∀r∈rs,c<r.length/\r.getD c 0<B.length)->(∀l∈B,l.length<=m)->m+rs.length<=1000000 ->
  (∀o3 o4,G9 o3=true->G9 o4=true->E.nx [o0,some (.dat (iD c)),some (.ll a (P3 (Q2o c s rs B))),o3,o4]) ->
  F6 (M6 2 (D7 (B7 3) (D7 (B7 4) N2))) (Q6i 2 (A5 C8 (wV 4) (wV 1)) (C1 (wV 3))) E ((rs.zipIdx s).map fun p=>.tup [.int (p.2:Int),rD p.1]) [o0,some (.dat (iD c)),some (.ll a (P3 B)),o3,o4]
 |[],s,B,m,o3,o4,n3,n4,_,_,_,h=>h o3 o4 n3 n4
 |r::rs,s,B,m,o3,o4,n3,n4,hg,hm,hz,h=>by
  rw[aN]at hz;obtain⟨hc,gl⟩:=hg r ?G;have bd:=Z5g (g:=r.getD c 0) hm;rw[bI,ar,F6];simp only[Q0d,Q0b,Q0,Q0c,Y8i,E6,B8,J8];refine⟨_,rfl,rfl,_,_,rfl,_,_,rfl,rfl,a,P3 B,rfl,?_,_,rfl,_,rfl,U3 (i:=c) (d:=iD (r.getD c 0)) ?_ ?_⟩
  ·show(G9 o0&&(G9 (some (.dat (iD c)))&&([some (.dat (.int (s:Int))),some (.dat (rD r))]:B5).all G9))=true;simp[n0,Z1w]
  ·rw[ah,ac hc,aq,ac hc];rfl
  ·refine⟨_,r.getD c 0,rfl,by rw[ag];exact ixn gl,_,rfl,_,rfl,by rw[Z6a,ag];exact T9 (by lia),?_⟩;show F6 _ _ _ _ [_,_,some (.ll a ((P3 B).set (r.getD c 0) ((P3 B).getD (r.getD c 0) []++[iD s]))),_,_];rw[Y5b];exact Y3s n0 rs (s+1) _ (m+1) _ _ rfl rfl (fun r' h'=>by rw[Z0l];exact hg r' (by simp[h'])) (Z4g hm) (by lia) h
theorem V3i:∀rs r,rs.length=2->sp_comers rs r->W0l (Y7 r) (D8 Y1j rs):=by
 rintro rs r _ ⟨rows,c,rfl,hg,hl,rfl⟩;unfold W0l;rw[G2,Y8j,Q9p,B8];refine⟨_,rfl,_,rfl,sz (by simp;lia),?_⟩;refine Z4w _ _ fun a=>?_;dsimp only;rw[G2,Y8e,Q2c,Z2i];simp only[C7,B8,C6];refine⟨_,rfl,.inr ⟨_,rfl,?_⟩⟩;have e1:K0 (rows.map rD)=(rows.zipIdx 0).map fun p=>.tup [.int (p.2:Int),rD p.1]:=by
  unfold K0;rw[eE,aM];rfl
 have e2:((rows.map rD).map fun _=>([]:M D))=P3 (rows.map fun _=>[]):=by simp[P3]
 rw[e1,e2];refine Y3s (o0:=some (.dat (rsD rows))) rfl rows 0 _ 0 none none rfl rfl (fun r hr=>by rw[ag];exact hg r hr) (fun l hl=>by obtain⟨_,_,rfl⟩:=au.mp hl;simp) (by lia) fun o3 o4 n3 n4=>?_;refine⟨a,_,rfl,?_,?_⟩
 ·show(G9 _&&(G9 _&&([o3,o4]:B5).all G9))=true;simp[n3,n4,Z1w]
 ·have q2:D.lst ((P3 (Q2o c 0 rows (rows.map fun _=>[]))).map D.lst)=llD (W0 rows c):=by unfold P3 llD W0;rw[aM];rfl
  rw[Z7p];k_ne;show R.st (D.lst ((P3 (Q2o c 0 rows (rows.map fun _=>[]))).map D.lst))=_;rw[q2]
abbrev tsS (S:M Nat):M D:=S.map iD
theorem Y4v:∀S:M Nat,T6 (tsS S)=some (S.map ik)
 |[]=>rfl
 |s::S=>by show(N9 (iD s)).bind _=_;rw[show N9 (iD s)=some (ik s)from rfl];show((T6 (tsS S)).map _)=_;rw[Y4v S];rfl
theorem Y4u:∀S T:M Nat,S.map ik=T.map ik->S=T
 |[],[],_=>rfl
 |s::S,t::T,h=>by
  rw[ar,ar]at h;injection h with h1 h2
  have:(s:Int)=(t:Int):=qu h1;rw[Y4u S T h2,show s=t by lia]
abbrev Z4m (rows:M (M Nat)):D:=.lst (B2.map fun c=>llD (W0 rows c))
def W5c (h:c∈B2):B2[c]?=some c:=by
 simp only[B2,av,aU,bM]at h;rcases h with rfl |rfl |rfl |rfl<;>rfl
theorem Y8v (h4:n<=4)   {Q:B5->M Nat->Prop}:∀(l:M Nat) (o1:Ac Sl) (ns:M Nat),(∀x∈l,x<n)->(∀o1,Q (o0::o1::rest) (ns++l)) ->
  Q1m (B7 1) (wV 1) (l.map iD) (o0::o1::rest) ns Q
 |[],o1,ns,_,h=>by have:=h o1;rw[b8]at this;exact this
 |x::l,o1,ns,hl,h=>by
  rw[ar,Q1m,Q0];refine⟨_,rfl,x,rfl,by have:=hl x ?G;lia,?_⟩;refine Y8v h4 l _ _ (fun y hy=>hl y (by simp[hy])) fun o1=>?_;rw[bt];exact h o1
theorem Y8w (wf:C5 m)(h4:m.1.length<=4)  (hc:c∈B2){Q:M Nat->Prop}:∀(S:M Nat) (o0 o1:Ac Sl) (ns:M Nat),(∀s∈S,s<m.1.length)->Q (ns++S.flatMap fun s=>(W0 m.2 c).getD s []) ->
  Q1d (B7 0) (Q2s (A5 C8 (A5 C8 (wV 2) (wV 3)) (wV 0))) (B7 1) (wV 1) (S.map iD) [o0,o1,some (.dat (Z4m m.2)),some (.dat (iD c))] ns Q
 |[],o0,o1,ns,_,h=>by rw[List.flatMap_nil,b8]at h;exact h
 |s::S,o0,o1,ns,hS,h=>by
  have hs:=hS s ?G;have hg:s<(W0 m.2 c).length:=by rw[W5f,wf.len];exact hs
  rw[ar,Q1d,Q0,Q7t,E6,E6];simp only[B8];refine⟨_,rfl,_,rfl,?_⟩;show C8 (.st (.lst (B2.map fun c=>llD (W0 m.2 c)))) (.st (.int (c:Int))) _;rw[Q9h];refine⟨llD (W0 m.2 c),Y9 (by rw[ah,W5c hc];rfl),_,rfl,?_⟩;show C8 (.st (.lst ((W0 m.2 c).map fun l=>.lst (l.map iD)))) (.st (.int (s:Int))) _;rw[Q9h];refine⟨.lst (((W0 m.2 c).getD s []).map iD),Y9 (by rw[ah,ac hg,aq,ac hg];rfl),_,rfl,?_⟩;refine Y8v h4 _ _ _ (fun x hx=>?_) fun o1=>?_
  ·have:=(Z6k (by rw[wf.len];exact hs)).mp hx;rw[wf.len]at this;exact this.1
  ·refine Y8w wf h4 hc S _ _ _ (fun y hy=>hS y (by simp[hy])) ?_;rw[List.flatMap_cons,<-bt]at h;exact h
def W8k (wf:C5 m)(h4:m.1.length<=4)  (hS:S∈Q1 m.1.length)  (hc:c∈B2):G6 Z3r [.dat (Z4m m.2)] [.st (.tup (tsS S)),.st (iD c)] (.st (.tup (tsS (L9 m.1.length m.2 S c)))):=by
 refine⟨[.tup (tsS S),iD c],.tup (tsS (L9 m.1.length m.2 S c)),rfl,rfl,?_⟩;unfold Z3r;rw[L8,C7,V5o,Q9p,B8];refine⟨_,rfl,_,rfl,?_⟩;refine Y8w wf h4 hc S none none [] (Z8t hS) fun T xw xv=>?_;rw[C6,Q1y];k_ne;have e:T=L9 m.1.length m.2 S c:=Y8y xw (V6o _ _ _ _) fun x=>by rw[xv x,cq,W9l wf (Z8t hS)]
 subst e
 rfl
theorem Z4u {Q:M D->Prop}:∀(es:M Bool) (n:Nat) (o0 o1:Ac Sl),Q (((es.zipIdx n).filter fun p=>p.1).map fun p=>iD p.2) ->
  O9 (M6 2 (D7 (B7 0) (D7 (B7 1) N2))) (K4 (wV 1)) (C1 (wV 0)) ((es.zipIdx n).map fun p=>.tup [.int (p.2:Int),.bl p.1]) [o0,o1] Q
 |[],n,o0,o1,h=>h
 |e::es,n,o0,o1,h=>by
  rw[bI,ar,O9];simp only[Q0d,Q0b,Q0,Q0c,Q3c,B8,J8];refine⟨_,rfl,rfl,_,_,rfl,_,_,rfl,rfl,_,rfl,?_⟩;rw[P7,Q1x];rw[bI,cE]at h;cases e with
  |true=>
   rw[aQ rfl];exact⟨_,rfl,_,rfl,Z4u es (n+1) _ _ h⟩
  |false=>
   rw[aI (?K)];exact Z4u es (n+1) _ _ h
theorem V6n (es:M Bool):((es.zipIdx 0).filter fun p=>p.1).map (fun p=>p.2)=R5 es:=by
 have key:∀(es:M Bool) (n:Nat),((es.zipIdx n).filter fun p=>p.1).map (fun p=>p.2)=((List.range es.length).filter fun s=>es.getD s false).map (·+n):=by
  intro es
  induction es with
  |nil=>intro n;rfl
  |cons e es ih=>
   intro n;rw[bI,cE,aN,fN,cE,List.filter_map];have e2:((fun s=>(e::es).getD s false) ∘ Nat.succ)=fun s=>es.getD s false:=by funext s;rfl
   rw[e2,show(e::es).getD 0 false=e from rfl,show(e,n).1=e from rfl];cases e with
   |true=>
    rw[aQ rfl,aQ rfl,ar,ar,ih (n+1),aM];congr 1
    ·lia
    ·exact bg fun s _=>by show s+(n+1)=s+1+n;lia
   |false=>
    rw[aI (?K),aI (?K),ih (n+1),aM];exact bg fun s _=>by show s+(n+1)=s+1+n;lia
 have:=key es 0;rw[this];unfold R5;simp
theorem W4d (S:M Nat):(tsS S).any (fun e=>D.eq e (.int 0))=decide (0∈S):=by
 induction S with
 |nil=>rfl
 |cons s S ih=>
  rw[tsS,ar,dm,ih]
  by_cases e:s=0
  ·subst e;rw[show D.eq (iD 0) (.int 0)=true from Q3h _];simp
  ·have:D.eq (iD s) (.int 0)=false:=by
    unfold D.eq;simp;lia
   rw[this];simp[bY e]
def Q3z:D5:=fun rs Pr=>∃m:F9,rs=[.st (mD m)]/\C5 m/\m.1.length<=4/\Pr (.st (mD (P9 (E9 m.1 m.2))))
def Y6e:V5 Q3z:=by rintro rs P Q f ⟨m,e,h1,h2,h3⟩;exact⟨m,e,h1,h2,f _ h3⟩
theorem V4d:∀rs Pr,rs.length=1->Q3z rs Pr->Z9w dh (sp_walked dh) sp_least_of sp_comers (N8 Pr) (D8 Q8j rs):=by
 rintro rs Pr _ ⟨m0,rfl,qx,xG,h⟩;unfold Z9w;rw[G2,Q6e,R0];simp only[C7,B8,C6];refine⟨_,rfl,rfl,m0,rfl,qx,by lia,?_⟩;have wf:C5 (E9 m0.1 m0.2):=Z1m qx;have h4:(E9 m0.1 m0.2).1.length<=4:=aO (Q5t qx) xG;generalize E9 m0.1 m0.2=m at h wf h4 ⊢;k_ne;simp only[Q0d,Q0b,Q0,Q0c];refine⟨_,rfl,rfl,_,_,rfl,_,_,rfl,rfl,?_⟩;rw[G2,Z7k,N6,Q2b,Z2j];simp only[C7,L8,K1,C6];rw[Q9i];refine⟨sz (?K),_,rfl,?K,?K,sz (?K),?_⟩;have e4:V2 0 (Int.toNat ((Str.length "01ab":Nat):Int))=B2.map iD:=rfl;rw[e4];refine Q3q (f:=fun d=>match d with |.int i=>llD (W0 m.2 i.toNat) |d=>d) _ none _ (fun d hd Q' q=>?_) ?_
 ·obtain⟨c,hc,rfl⟩:=au.mp hd;rw[J8,Q0a];simp only[C7,B8,C6];refine⟨_,rfl,_,rfl,rfl,_,⟨m.2,c,rfl,fun r hr=>?_,by rw[wf.len];lia,rfl⟩,?_⟩
  ·have h1:=wf.r4 r hr;have h2:=Q5o hc;refine⟨by lia,?_⟩;rw[wf.len,aq,ac (show c<r.length by lia)];exact wf.lt r hr _ (aY _)
  ·rw[Q5x];have:Q' (.st (llD (W0 m.2 ((c:Int)).toNat))):=q;rw[bL]at this;exact this
 have eb:(B2.map iD).map (fun d=>match d with |.int i=>llD (W0 m.2 i.toNat) |d=>d)=B2.map fun c=>llD (W0 m.2 c):=by rw[aM];rfl
 rw[eb,Q5z];k_ne;rw[V4t];refine⟨by simp[D8],fun a=>?_⟩;rw[L8,C7,Q2b,Y8f];simp only[C7,B8,C6];refine⟨_,rfl,_,_,rfl,rfl,sz (by simp[K0];lia),?_⟩;have e3:K0 (m.1.map .bl)=(m.1.zipIdx 0).map fun p=>.tup [.int (p.2:Int),.bl p.1]:=by
  unfold K0;rw[eE,aM];rfl
 rw[e3];refine Z4u m.1 0 _ _ ?_;have e5:((m.1.zipIdx 0).filter fun p=>p.1).map (fun p=>iD p.2)=tsS (R5 m.1):=by rw[<-V6n,tsS,aM];rfl
 rw[e5,Q1y];refine⟨_,rfl,rfl,[.dat (Z4m m.2)],⟨_,_,rfl,rfl,trivial,rfl⟩,fun f Φ hF=>?_⟩;have hU:(Q1 m.1.length).length<=16:=by
  rw[Y9z];exact aO (gp (?K) h4) (?K)
 refine⟨_,⟨M Nat,inferInstance,tsS,fun S=>S.map ik,L9 m.1.length m.2,R5 m.1,Q1 m.1.length,f,Φ,_,Y4v,Y4u,rfl,hF,Z7y m.1,by lia,fun S hS c hc=>⟨Z7z _ _ _ _,W8k wf h4 hS hc⟩,rfl⟩,?_⟩;simp only[Q0d,Q0b,Q0,Q0c];refine⟨_,rfl,rfl,_,_,rfl,_,_,rfl,rfl,?_⟩;rw[T7,s_tup];simp only[C7,J8,L8,Q2b,Q7t,B8,C6];have W:=Z2h m;have se:(S0 (Q1 m.1.length).length (L9 m.1.length m.2) (R5 m.1)).1.length<=16:=aO W.le hU;refine⟨_,rfl,_,rfl,sz (by rw[ag];lia),?_⟩;refine Q3q (f:=fun d=>match d with |.tup ds=>D.bl (ds.any fun e=>D.eq e (.int 0)) |d=>d) _ none _ (fun d hd Q' q=>?_) ?_
 ·obtain⟨S,hS,rfl⟩:=au.mp hd;rw[J8,s_b];simp only[E6,K1,B8];refine⟨_,rfl,_,_,rfl,rfl,fun e he=>?_,q⟩;obtain⟨x,_,rfl⟩:=au.mp he;exact bz _
 have e6:((S0 (Q1 m.1.length).length (L9 m.1.length m.2) (R5 m.1)).1.map fun S=>D.tup (tsS S)).map (fun d=>match d with |.tup ds=>D.bl (ds.any fun e=>D.eq e (.int 0)) |d=>d)=(P9 m).1.map D.bl:=by
  rw[aM];show _=((S0 (Q1 m.1.length).length (L9 m.1.length m.2) (R5 m.1)).1.map fun S=>decide (0∈S)).map D.bl;rw[aM];exact bg fun S _=>by show D.bl _=D.bl _;rw[W4d]
 rw[e6,Q1y];k_ne;rw[Q5x];k_ne;rw[P7,Q5x];exact⟨_,rfl,sz ?G,h⟩
def cod (c:Nat):Nat:=if c=0 then 48 else if c=1 then 49 else if c=2 then 97 else 98
theorem W5b {d:Nat}(hc:c<4)(hd:d<4):cod c<cod d ↔ c<d:=by
 unfold cod;split<;>split<;>(try split)<;>(try split)<;>(try split)<;>(try split)<;>lia
theorem Y2t {d:Nat}(hc:c<4)(hd:d<4):cod c=cod d ↔ c=d:=by
 unfold cod;split<;>split<;>(try split)<;>(try split)<;>(try split)<;>(try split)<;>lia
def Q7b:∀{w:M Nat},B1 w->(G7 w).cps.toList=w.map cod:=by
 intro w hw;have key:∀(w:M Nat) (t:Str),B1 w->(w.foldl (fun t c=>t++W4 c) t).cps.toList=t.cps.toList++w.map cod:=by
  intro w
  induction w with
  |nil=>intro t _;simp
  |cons c w ih=>
   intro t hw;rw[cb,ih _ fun d hd=>hw d (ak _ hd),ar];have hc:=hw c am;have e:(t++W4 c).cps.toList=t.cps.toList++[cod c]:=by
    have h1:(t++W4 c).cps=t.cps++(W4 c).cps:=rfl;rw[h1,tE];congr 1;simp only[B2,av,aU,bM]at hc;rcases hc with rfl |rfl |rfl |rfl<;>rfl
   rw[e,bt];rfl
 exact key w "" hw
theorem Z1z:∀(w v:M Nat) (p q:Nat),B1 w->B1 v->w.length=v.length->(w.foldl (fun n c=>4*n+c+1) p<v.foldl (fun n c=>4*n+c+1) q ↔ p<q\/(p=q/\w.map cod<v.map cod))
 |[],[],p,q,_,_,_=>by simp
 |c::w,d::v,p,q,hw,hv,hl=>by
  have hc:=Q5o (hw c am);have hd:=Q5o (hv d am);rw[cb,cb,Z1z w v _ _ (fun x hx=>hw x (ak _ hx)) (fun x hx=>hv x (ak _ hx)) (by simpa using hl),ar,ar,List.cons_lt_cons_iff,W5b hc hd,Y2t hc hd]
  by_cases h:w.map cod<v.map cod<;>simp only[h,and_true,and_false,bM]<;>lia
theorem Q5w:∀(w v:M Nat),B1 w->B1 v->w.length<v.length->E5 w<E5 v:=by
 have lo:∀(w:M Nat) (p:Nat),4^w.length*(3*p+1)<=3*(w.foldl (fun n c=>4*n+c+1) p)+1:=by
  intro w
  induction w with
  |nil=>intro p;simp
  |cons c w ih=>
   intro p;have:=ih (4*p+c+1);rw[cb,aN,iR];refine aO ?_ this;rw[Nat.mul_assoc];exact tm _ (by lia)
 have hi:∀(w:M Nat) (p:Nat),B1 w->3*(w.foldl (fun n c=>4*n+c+1) p)+4<=4^w.length*(3*p+4):=by
  intro w
  induction w with
  |nil=>intro p _;simp
  |cons c w ih=>
   intro p hw;have:=ih (4*p+c+1) fun x hx=>hw x (ak _ hx);have hc:=Q5o (hw c am);rw[cb,aN,iR];refine aO this ?_;rw[Nat.mul_assoc];exact tm _ (by lia)
 intro w v hw hv hl;have h1:=hi w 0 hw;have h2:=lo v 0;have h3:4^(w.length+1)<=4^v.length:=gp (?K) hl;rw[iR]at h3;unfold E5;lia
theorem Y4b {w v:M Nat}(hw:B1 w)(hv:B1 v):Z5k (w.length:Int) (v.length:Int) (G7 w) (G7 v)=decide (E5 v<E5 w):=by
 unfold Z5k;rcases iy w.length v.length with h |h |h
 ·rw[aI (by lia),aT (by lia),aT (by have:=Q5w w v hw hv h;lia)]
 ·rw[aQ (by lia),Q7b hw,Q7b hv];have k:=Z1z v w 0 0 hv hw h.symm
  by_cases e:G7 w=G7 v
  ·rw[aQ e];have:=Y9v hw hv e;subst this;exact(aT (aS _)).symm
  ·rw[aI e];refine decide_eq_decide.mpr ?_;unfold E5;rw[k];simp
 ·rw[aI (by lia),cH (by lia),cH (Q5w v w hv hw h)]
section
abbrev W3i:M Str:=["_law_script","_law_one","_law_two","_law_three","_law_both","_law_text","_law_back","_law_words"]
def W0p (sp_least_of:D5)(dB:F5)(gC:D5)(sp_within:D5)(fF:D5)(iI:D5)(eg:D5)(eA:F5)(Q3z:D5)(cX:D5)(Q7w:D5)(eC:D5)(gr:D5):WS:=(A9 (D6 1 (B9 sp_least_of (A0 (N4 dB (A0 (wV 0) (A0 (wC (.int 0)) (A0 (wC (.int 3)) A2)))) A2))) (A9 (D6 2 (B9 sp_least_of (A0 (N4 dB (A0 (wV 0) (A0 (wC (.int 60)) (A0 (wC (.int 3)) A2)))) A2))) (A9 (D6 3 (B9 gC (A0 (wV 2) (A0 (N4 dB (A0 (wV 0) (A0 (wC (.int 120)) (A0 (wC (.int 3)) A2)))) A2)))) (A9 (K8 (O6 (U4 (K4 (B9 sp_within (A0 (wV 1) (A0 (wV 1) A2))))) (O6 (U4 (K4 (B9 sp_within (A0 (wV 2) (A0 (wV 3) A2))))) (Z3c (K4 (B9 sp_within (A0 (wV 1) (A0 (wV 2) A2)))) (U4 (K4 (B9 sp_within (A0 (wV 1) (A0 (wV 3) A2)))))))) (F7 (wC (.bl false))) K9) (A9 (K8 (O6 (A5 L6 (Q6h (B9 sp_within (A0 (wV 1) (A0 (wV 2) A2))) (B9 sp_within (A0 (wV 2) (A0 (wV 1) A2)))) (wB (A5 (eqD 60 false) (wV 1) (wV 2)))) (A5 L6 (wB (A5 (Y1 false) (B9 fF (A0 (wV 1) (A0 (wV 2) A2))) (wC .non))) (wB (A5 (eqD 60 false) (wV 1) (wV 2))))) (F7 (wC (.bl false))) K9) (A9 (D6 4 (B9 iI (A0 (wV 1) (A0 (wV 2) A2)))) (A9 (K8 (O6 (U4 (K4 (B9 sp_within (A0 (wV 4) (A0 (wV 1) A2))))) (O6 (U4 (K4 (B9 sp_within (A0 (wV 4) (A0 (wV 2) A2))))) (U4 (K4 (B9 sp_within (A0 (wV 2) (A0 (B9 gC (A0 (wV 1) (A0 (wV 2) A2))) A2))))))) (F7 (wC (.bl false))) K9) (A9 (D6 5 (B9 eg (A0 (wV 1) (A0 (wV 2) A2)))) (A9 (K8 (A5 (Y1 true) (wV 5) (wC .non)) (A9 (K8 (O6 (U4 (K4 (N4 eA (A0 (wV 1) (A0 (wV 5) A2))))) (K4 (N4 eA (A0 (wV 2) (A0 (wV 5) A2))))) (F7 (wC (.bl false))) K9) (A9 (D6 6 (B9 eg (A0 (B9 Q3z (A0 (wV 1) A2)) (A0 (B9 Q3z (A0 (wV 2) A2)) A2)))) (K8 (O6 (A5 (Y1 false) (wV 6) (wC .non)) (O6 (A5 L6 (D4 F3 (A0 (wV 6) A2)) (D4 F3 (A0 (wV 5) A2))) (O6 (U4 (K4 (N4 eA (A0 (wV 1) (A0 (Q5c (wV 6)) A2))))) (K4 (N4 eA (A0 (wV 2) (A0 (Q5c (wV 6)) A2))))))) (F7 (wC (.bl false))) K9))) K9) (A9 (K8 (O6 (A5 L6 (B9 cX (A0 (wV 1) (A0 (wV 2) A2))) (B9 Q7w (A0 (wV 4) A2))) (A5 L6 (B9 cX (A0 (wV 1) (A0 (wV 2) A2))) (B9 cX (A0 (wV 2) (A0 (wV 1) A2))))) (F7 (wC (.bl false))) K9) (A9 (Z3i 7 [("same",Sum.inr "same"),("less",Sum.inr "more"),("more",Sum.inr "less"),("apart",Sum.inr "apart"),("cross",Sum.inr "cross")]) (A9 (K8 (A5 L6 (B9 eC (A0 (wV 2) (A0 (wV 1) A2))) (Q1n 7 (B9 eC (A0 (wV 1) (A0 (wV 2) A2))))) (F7 (wC (.bl false))) K9) (F7 (wB (A5 (eqD 60 false) (B9 sp_within (A0 (wV 1) (A0 (B9 gr (A0 (wV 2) A2)) A2))) (wB (A5 (Y1 false) (B9 cX (A0 (wV 1) (A0 (wV 2) A2))) (wC .non))))))))))))))))))
theorem Z1b {f:α->D}(h:∀x y,D.eq (f x) (f y)=true->x=y):∀l l':M α,Dqeqs (l.map f) (l'.map f)=true->l=l'
 |[],[],_=>rfl
 |[],_::_,e=>by simp[Dqeqs]at e
 |_::_,[],e=>by simp[Dqeqs]at e
 |x::l,y::l',e=>by
  rw[ar,ar,Dqeqs,bD]at e;rw[h x y e.1,Z1b h l l' e.2]
theorem W9b {a b:F9}(h:D.eq (mD a) (mD b)=true):a=b:=by
 have hi:∀x y:Nat,D.eq (iD x) (iD y)=true->x=y:=fun x y e=>by
  unfold D.eq at e;simp at e;lia
 have hb:∀x y:Bool,D.eq (.bl x) (.bl y)=true->x=y:=fun x y e=>by
  unfold D.eq at e;simpa using e
 have hr:∀x y:M Nat,D.eq (rD x) (rD y)=true->x=y:=fun x y e=>by
  unfold D.eq at e;exact Z1b hi x y e
 obtain⟨a1,a2⟩:=a;obtain⟨b1,b2⟩:=b;have h:D.eq (.tup [.tup (a1.map .bl),.tup (a2.map rD)]) (.tup [.tup (b1.map .bl),.tup (b2.map rD)])=true:=h;unfold D.eq at h;rw[Dqeqs,Dqeqs,bD,bD]at h;have h1:D.eq (.tup (a1.map .bl)) (.tup (b1.map .bl))=true:=h.1;have h2:D.eq (.tup (a2.map rD)) (.tup (b2.map rD))=true:=h.2.1;unfold D.eq at h1 h2;rw[Z1b hb _ _ h1,Z1b hr _ _ h2]
theorem V0g {w v:M Nat}(hw:B1 w)(hv:B1 v)(h:E5 w=E5 v):w=v:=by
 rcases iy w.length v.length with q |q |q
 ·have:=Q5w w v hw hv q;lia
 ·have k1:=Z1z w v 0 0 hw hv q;have k2:=Z1z v w 0 0 hv hw q.symm
  by_cases e:G7 w=G7 v
  ·exact Y9v hw hv e
  ·have g1:=Y4b hw hv;have g2:=Y4b hv hw;unfold Z5k at g1 g2;rw[aQ (by lia),aI e]at g1;rw[aQ (by lia),aI (fun z=>e z.symm)]at g2;rw[aT (show ¬ E5 v<E5 w by lia)]at g1;rw[aT (show ¬ E5 w<E5 v by lia)]at g2;have n1:¬ (G7 v).cps.toList<(G7 w).cps.toList:=vh g1;have n2:¬ (G7 w).cps.toList<(G7 v).cps.toList:=vh g2;have e2:=List.le_antisymm (List.not_lt.mp n1) (List.not_lt.mp n2);rw[Q7b hw,Q7b hv]at e2;have:∀(w v:M Nat),B1 w->B1 v->w.map cod=v.map cod->w=v:=by
    intro w
    induction w with
    |nil=>intro v _ _ h;cases v with
     |nil=>rfl
     |cons _ _=>cases h
    |cons c w ih=>
     intro v hw hv h;cases v with
     |nil=>cases h
     |cons d v=>
      rw[ar,ar]at h;injection h with h1 h2
      rw[(Y2t (Q5o (hw c ?G)) (Q5o (hv d ?G))).mp h1,ih v (fun x hx=>hw x (by simp[hx])) (fun x hx=>hv x (by simp[hx])) h2]
   exact this w v hw hv e2
 ·have:=Q5w v w hv hw q;lia
def Q4f (p:M Nat->Bool)(o:Ac Str):Prop:=(o=none/\∀w,B1 w->p w=false)\/∃w,B1 w/\o=some (G7 w)/\p w=true/\∀u,B1 u->p u=true->E5 w<=E5 u
theorem Q4f.eq {p:M Nat->Bool}{o o':Ac Str}(h:Q4f p o)(h':Q4f p o'):o=o':=by
 rcases h with⟨rfl,h1⟩ |⟨w,h1,rfl,h2,h3⟩
 ·rcases h' with⟨rfl,_⟩ |⟨v,a1,_,a2,_⟩
  ·rfl
  ·rw[h1 v a1]at a2;cases a2
 ·rcases h' with⟨_,a1⟩ |⟨v,a1,rfl,a2,a3⟩
  ·rw[a1 w h1]at h2;cases h2
  ·have:=h3 v a1 a2;have:=a3 w h1 h2;rw[V0g h1 a1 (by lia)]
def Q4f.of {p q:M Nat->Bool}{o:Ac Str}(h:Q4f p o)(e:∀w,B1 w->p w=q w):Q4f q o:=by
 rcases h with⟨h0,h1⟩ |⟨w,h1,h0,h2,h3⟩
 ·exact .inl ⟨h0,fun w hw=>by rw[<-e w hw];exact h1 w hw⟩
 ·exact .inr ⟨w,h1,h0,by rw[<-e w h1];exact h2,fun u hu hq=>h3 u hu (by rw[e u hu];exact hq)⟩
theorem Q8s (w1:C5 m1)(w2:C5 m2):Q4f (fun w=>g (B4 m1 w) (B4 m2 w)) (F8 g m1 m2):=by
 cases e:F8 g m1 m2 with
 |none=>exact .inl ⟨rfl,(Q3r w1 w2).mp e⟩
 |some t=>
  obtain⟨w,h1,h2,h3,h4⟩:=Y3p e;refine .inr ⟨w,h1,by rw[h2],by show g (B4 m1 w) (B4 m2 w)=true;rw[<-Q9l g m1 m2 w];exact h3,fun u hu hq=>h4 u hu ?_⟩;rw[Q9l];exact hq
theorem W6c (wf:C5 m):Q4f (B4 m) (Z1d m):=by
 cases e:Z1d m with
 |none=>exact .inl ⟨rfl,(Y3q (Y9p wf) (W1c wf)).1 (by rw[br];exact e)⟩
 |some t=>
  obtain⟨w,h1,h2,h3,h4⟩:=Y3p e;exact .inr ⟨w,h1,by rw[h2],h3,h4⟩
def Z1h {g':Bool->Bool->Bool}{n1 n2:F9}(w1:C5 m1)(w2:C5 m2)(v1:C5 n1)(v2:C5 n2)(e:∀w,B1 w->g (B4 m1 w) (B4 m2 w)=g' (B4 n1 w) (B4 n2 w)):F8 g m1 m2=F8 g' n1 n2:=
 (Q8s w1 w2).eq ((Q8s v1 v2).of fun w hw=>(e w hw).symm)
def Y7v {w:M Nat}(hw:B1 w):Q4w (G7 w)=G7 w.reverse:=by
 have h1:=Q7b hw;have h2:=Q7b hw.rev;unfold Q4w;have e:(G7 w).cps.reverse=(G7 w.reverse).cps:=by
  apply j9.mp;rw[qt,h1,h2,List.map_reverse]
 rw[e]
section
variable {w1 w2:WE}
def wq (h1:MV w1 τ m1 n1)(h2:MV w2 τ m2 n2){Q:R->Prop}(q:Q (.st (.bl (F8 G5 m1 m2).isNone)))(h:n1*n2<=20000:=by decide):B9 sp_within (A0 w1 (A0 w2 A2)) τ Q:=by
 simp only[R0,C7,C6];exact h1.q _ (h2.q _ ⟨rfl,m1,m2,rfl,Q9x h1.L h2.L h1.le h2.le h,q⟩)
def bq (h1:MV w1 τ m1 n1)(h2:MV w2 τ m2 n2){Q:R->Prop}(q:Q (.st (sD (F8 g m1 m2))))(h:n1*n2<=20000:=by decide):B9 (spB g) (A0 w1 (A0 w2 A2)) τ Q:=by
 simp only[R0,C7,C6];exact h1.q _ (h2.q _ ⟨rfl,m1,m2,rfl,Q9x h1.L h2.L h1.le h2.le h,q⟩)
def lq (h1:MV w1 τ m1 n1)(h2:MV w2 τ m2 n2){Q:R->Prop}(q:Q (.st (.str (Q7m m1 m2))))(h:n1*n2<=20000:=by decide):B9 Q7x (A0 w1 (A0 w2 A2)) τ Q:=by
 simp only[R0,C7,C6];exact h1.q _ (h2.q _ ⟨rfl,m1,m2,rfl,Q9x h1.L h2.L h1.le h2.le h,q⟩)
def tq (h1:MV w1 τ m1 n1)(h:n1<=4:=by decide):MV (B9 Q3z (A0 w1 A2)) τ (P9 m1) (2^n1):=by
 refine⟨V4l h1.L,?_,fun Q q=>?_⟩
 ·have:=(Z2h m1).le;have e:(P9 m1).1.length=(S0 (Q1 m1.1.length).length (L9 m1.1.length m1.2) (R5 m1.1)).1.length:=by unfold P9 Q3o;rw[ag]
  rw[e];refine aO this ?_;rw[Y9z];exact gp (?K) h1.le
 ·simp only[R0,C7,C6];refine h1.q _ ⟨rfl,m1,rfl,h1.L.wf,aO h1.le h,?_⟩;rw[W8p h1.L];exact q
def Q6s (h1:MV w1 τ m1 n1)(h2:MV w2 τ m2 n2)(e:∀u,B1 u->B4 m1 u=true->B4 m2 u=true)(h:n1*n2<=20000:=by decide):No (U4 (K4 (B9 sp_within (A0 w1 (A0 w2 A2))))) τ:=fun Q q=>by
 rw[Z7o,Q3c];exact W3a h1 h2 e (by rw[Q1x];exact q) h
def eqv (L1:K5 m1)(Lb:K5 m2):((F8 G5 m1 m2).isNone&&(F8 G5 m2 m1).isNone)=D.eq (mD m1) (mD m2)/\(F8 Q0w m1 m2).isNone=D.eq (mD m1) (mD m2):=by
 have hu:=W0e L1.wf Lb.wf;have n1:∀{o:Ac Str},o.isNone=true ↔ o=none:=fun {o}=>by cases o<;>simp
 by_cases e:m1=m2
 ·subst e;have hp:F8 G5 m1 m1=none:=(Q3r L1.wf L1.wf).mpr fun u _=>by cases B4 m1 u<;>rfl
  rw[Q3h,hp,hu.mpr ⟨hp,hp⟩];exact⟨rfl,rfl⟩
 ·have ne:D.eq (mD m1) (mD m2)=false:=by
   cases q:D.eq (mD m1) (mD m2)with
   |false=>rfl
   |true=>exact absurd (W9b q) e
  have no:¬ (F8 G5 m1 m2=none/\F8 G5 m2 m1=none):=fun⟨a1,a2⟩=>e (L1.eq Lb fun u hu=>by
   have b1:=(Q3r L1.wf Lb.wf).mp a1 u hu;have b2:=(Q3r Lb.wf L1.wf).mp a2 u hu
   revert b1 b2
   cases B4 m1 u<;>cases B4 m2 u<;>decide)
  rw[ne];refine⟨?_,?_⟩
  ·rw[yy];intro z;rw[bD,n1,n1]at z;exact no z
  ·rw[yy];intro z;rw[n1,hu]at z;exact no z
def eqq (h1:MV w1 τ m1 n1)(h2:MV w2 τ m2 n2){Q:R->Prop}(q:Q (.st (.bl (D.eq (mD m1) (mD m2))))):wB (A5 (eqD 60 false) w1 w2) τ Q:=by
 rw[s_b,E6];refine h1.q _ (h2.q _ ?_);rw[Z6s];exact⟨_,_,rfl,rfl,dL (W5p m1),q⟩
def neB {b:Bool}{Q:Bool->Prop}(q:Q false):L6 (.st (.bl b)) (.st (.bl b)) Q:=⟨_,_,rfl,rfl,rfl,by rw[Q3h];exact q⟩
def neS {o:Ac Str}{Q:Bool->Prop}(q:Q false):L6 (.st (sD o)) (.st (sD o)) Q:=⟨_,_,rfl,rfl,by cases o<;>rfl,by rw[Q3h];exact q⟩
end
section
variable {a b c:F9}(A:MV (wV 1) τ a 3)(B:MV (wV 2) τ b 3)
include A B
theorem s1 (Cc:MV (wV 3) τ c 9)(hs:∀u,B1 u->B4 b u=true->B4 c u=true):No (O6 (U4 (K4 (B9 sp_within (A0 (wV 1) (A0 (wV 1) A2))))) (O6 (U4 (K4 (B9 sp_within (A0 (wV 2) (A0 (wV 3) A2))))) (Z3c (K4 (B9 sp_within (A0 (wV 1) (A0 (wV 2) A2)))) (U4 (K4 (B9 sp_within (A0 (wV 1) (A0 (wV 3) A2)))))))) τ:=by
 refine No.or (Q6s A A fun _ _ h=>h) (No.or (Q6s B Cc hs) fun Q q=>?_);rw[V4p,Q3c];refine wq A B ?_;rw[Q1x];cases e:F8 G5 a b with
 |some t=>exact q
 |none=>
  show(if true=true then(_:Prop)else(_:Prop));rw[aQ rfl];refine(Q6s A Cc fun u hu h=>hs u hu ?_) Q q;have:=(Q3r A.L.wf B.L.wf).mp e u hu;rw[h]at this
  revert this
  cases B4 b u<;>decide
def s2:No (O6 (A5 L6 (Q6h (B9 sp_within (A0 (wV 1) (A0 (wV 2) A2))) (B9 sp_within (A0 (wV 2) (A0 (wV 1) A2)))) (wB (A5 (eqD 60 false) (wV 1) (wV 2)))) (A5 L6 (wB (A5 (Y1 false) (B9 (spB Q0w) (A0 (wV 1) (A0 (wV 2) A2))) (wC .non))) (wB (A5 (eqD 60 false) (wV 1) (wV 2))))) τ:=by
 obtain⟨e1,e2⟩:=eqv A.L B.L;refine No.or (fun Q q=>?_) fun Q q=>?_
 ·rw[E6];have fin:∀v,v=D.eq (mD a) (mD b)->wB (A5 (eqD 60 false) (wV 1) (wV 2)) τ fun y=>L6 (.st (.bl v)) y Q:=fun v e=>eqq A B (by rw[e];exact neB q);rw[V4q];refine wq A B ?_;rw[o_bl];cases h:F8 G5 a b with
  |some t=>
   rw[h]at e1;exact fin false e1
  |none=>
   rw[h]at e1;show(if true=true then(_:Prop)else(_:Prop));rw[aQ rfl];exact wq B A (fin _ e1)
 ·rw[E6,s_b,E6];refine bq A B ?_;rw[K1];refine Q8w ?_;rw[e2];exact eqq A B (neB q)
def s4 (Bo:MV (wV 4) τ (Y3 M5 a b) 9):No (O6 (U4 (K4 (B9 sp_within (A0 (wV 4) (A0 (wV 1) A2))))) (O6 (U4 (K4 (B9 sp_within (A0 (wV 4) (A0 (wV 2) A2))))) (U4 (K4 (B9 sp_within (A0 (wV 2) (A0 (B9 (spS gOr) (A0 (wV 1) (A0 (wV 2) A2))) A2))))))) τ:=by
 refine No.or (Q6s Bo A fun u hu h=>?_) (No.or (Q6s Bo B fun u hu h=>?_) (Q6s B (A.side B) fun u hu h=>?_))
 ·rw[Z6r A.L.wf B.L.wf hu,bD]at h;exact h.1
 ·rw[Z6r A.L.wf B.L.wf hu,bD]at h;exact h.2
 ·rw[Y6f A.L.wf B.L.wf hu,h,Bool.or_true]
def s7 (Bo:MV (wV 4) τ (Y3 M5 a b) 9):No (O6 (A5 L6 (B9 (spB M5) (A0 (wV 1) (A0 (wV 2) A2))) (B9 Q7w (A0 (wV 4) A2))) (A5 L6 (B9 (spB M5) (A0 (wV 1) (A0 (wV 2) A2))) (B9 (spB M5) (A0 (wV 2) (A0 (wV 1) A2))))) τ:=by
 refine No.or (fun Q q=>?_) fun Q q=>?_
 ·rw[E6];refine bq A B ?_;rw[R0,C7];refine Bo.q _ ?_;rw[C6];refine⟨rfl,_,rfl,Bo.L.wf,aO Bo.le (?K),?_⟩;have e:F8 M5 a b=Z1d (Y3 M5 a b):=(Q8s A.L.wf B.L.wf).eq ((W6c Bo.L.wf).of fun w hw=>Z6r A.L.wf B.L.wf hw);rw[e];exact neS q
 ·rw[E6];refine bq A B (bq B A ?_);rw[Z1h (g':=M5) A.L.wf B.L.wf B.L.wf A.L.wf fun w _=>Bool.and_comm _ _];exact neS q
end
theorem V6e (w1:C5 m1)(w2:C5 m2){w:M Nat}(hw:B1 w)(hp:G5 (B4 m1 w) (B4 m2 w)=true)(hm:∀u,B1 u->G5 (B4 m1 u) (B4 m2 u)=true->E5 w<=E5 u):w.length<m1.1.length*m2.1.length:=by
 rcases bf w.length (m1.1.length*m2.1.length)with h |h
 ·exact h
 ·have hl:=Z2l (g:=G5) w1 w2;obtain⟨u,h1,h2,h3,_⟩:=cut (V6f (g:=G5) w1 w2) hw (by rw[Z2m w1 w2 hw];exact hp) (by lia);rw[Z2m w1 w2 h1]at h2;have:=hm u h1 h2;have:=Q5w u w h1 hw h3;lia
def w6:WS:=(K8 (A5 (Y1 true) (wV 5) (wC .non)) (A9 (K8 (O6 (U4 (K4 (N4 Q3e (A0 (wV 1) (A0 (wV 5) A2))))) (K4 (N4 Q3e (A0 (wV 2) (A0 (wV 5) A2))))) (F7 (wC (.bl false))) K9) (A9 (D6 6 (B9 (spB G5) (A0 (B9 Q3z (A0 (wV 1) A2)) (A0 (B9 Q3z (A0 (wV 2) A2)) A2)))) (K8 (O6 (A5 (Y1 false) (wV 6) (wC .non)) (O6 (A5 L6 (D4 F3 (A0 (wV 6) A2)) (D4 F3 (A0 (wV 5) A2))) (O6 (U4 (K4 (N4 Q3e (A0 (wV 1) (A0 (Q5c (wV 6)) A2))))) (K4 (N4 Q3e (A0 (wV 2) (A0 (Q5c (wV 6)) A2))))))) (F7 (wC (.bl false))) K9))) K9)
theorem rd6 {a b:F9}(La:K5 a)(Lb:K5 b)(la:a.1.length<=3)(lb:b.1.length<=3){E:J4}  {d:D}(hd:d=sD (F8 G5 a b))(h:∀o6,E.nx [o0,some (.dat (mD a)),some (.dat (mD b)),o3,o4,some (.dat d),o6,o7]):
  w6 E [o0,some (.dat (mD a)),some (.dat (mD b)),o3,o4,some (.dat d),o6,o7]:=by
 unfold w6;rw[Q2d];simp only[E6,B8,K1];rcases Q8s (g:=G5) La.wf Lb.wf with⟨e,_⟩ |⟨w,hw,e,hp,hm⟩
 ·rw[e]at hd;subst hd;refine⟨_,rfl,_,rfl,rfl,?_⟩;show(if false=true then(_:Prop)else(_:Prop));rw[aI (?K),Q3b];exact h _
 ·rw[e]at hd;subst hd;have hl:w.length<9:=ay (V6e La.wf Lb.wf hw hp hm) (eX la lb);have ha:B4 a w=true:=by cases q:B4 a w with |true=>rfl |false=>rw[show(fun w=>G5 (B4 a w) (B4 b w)) w=G5 (B4 a w) (B4 b w)from rfl,q]at hp;cases hp
  have hb:B4 b w=false:=by cases q:B4 b w with |false=>rfl |true=>rw[show(fun w=>G5 (B4 a w) (B4 b w)) w=G5 (B4 a w) (B4 b w)from rfl,q,ha]at hp;cases hp
  refine⟨_,rfl,_,rfl,rfl,?_⟩;show(if true=true then(_:Prop)else(_:Prop));rw[aQ rfl,G2];have n1:No (O6 (U4 (K4 (N4 Q3e (A0 (wV 1) (A0 (wV 5) A2))))) (K4 (N4 Q3e (A0 (wV 2) (A0 (wV 5) A2))))) [o0,some (.dat (mD a)),some (.dat (mD b)),o3,o4,some (.dat (sD (some (G7 w)))),o6,o7]:=by
   refine No.or (fun Q q=>?_) fun Q q=>?_
   ·rw[Z7o,Q3c,Q0a];simp only[C7,B8,C6];refine⟨_,rfl,_,rfl,rfl,_,⟨a,w,rfl,La.wf,hw,by lia,rfl⟩,?_⟩;rw[Q1x,ha];exact q
   ·rw[Q3c,Q0a];simp only[C7,B8,C6];refine⟨_,rfl,_,rfl,rfl,_,⟨b,w,rfl,Lb.wf,hw,by lia,rfl⟩,?_⟩;rw[Q1x,hb];exact q
  refine n1.skip ?_;dsimp only;rw[G2,N6];refine bq (tq (MV.var (n:=3) La la rfl)) (tq (MV.var (n:=3) Lb lb rfl)) ?_;have Ra:=Z7d a;have Rb:=Z7d b;have pr:∀u,B1 u->G5 (B4 (P9 a) u) (B4 (P9 b) u)=G5 (B4 a u.reverse) (B4 b u.reverse):=fun u hu=>by rw[W0a La.wf hu,W0a Lb.wf hu]
  rcases Q8s (g:=G5) Ra Rb with⟨e2,h2⟩ |⟨v,hv,e2,jr,rV⟩
  ·have h2:G5 (B4 (P9 a) w.reverse) (B4 (P9 b) w.reverse)=false:=h2 _ hw.rev;rw[pr _ hw.rev,eB]at h2;rw[show(fun w=>G5 (B4 a w) (B4 b w)) w=G5 (B4 a w) (B4 b w)from rfl,h2]at hp;cases hp
  rw[e2];have jr:G5 (B4 a v.reverse) (B4 b v.reverse)=true:=by rw[<-pr v hv];exact jr
  have el:v.length=w.length:=by
   have q1:=rV w.reverse hw.rev (by show G5 (B4 (P9 a) w.reverse) (B4 (P9 b) w.reverse)=true;rw[pr _ hw.rev,eB];exact hp);have q2:=hm v.reverse hv.rev jr;rcases iy v.length w.length with z |z |z
   ·have:=Q5w v.reverse w hv.rev hw (by rw[gI];exact z);lia
   ·exact z
   ·have:=Q5w w.reverse v hw.rev hv (by rw[gI];exact z);lia
  have va:B4 a v.reverse=true:=by cases q:B4 a v.reverse with |true=>rfl |false=>rw[q]at jr;cases jr
  have vb:B4 b v.reverse=false:=by cases q:B4 b v.reverse with |false=>rfl |true=>rw[q,va]at jr;cases jr
  show Q0p (.st (.str (G7 v))) _;rw[S8];have rl:(v.reverse).length<=100000:=by rw[gI];lia
  have n2:No (O6 (A5 (Y1 false) (wV 6) (wC .non)) (O6 (A5 L6 (D4 F3 (A0 (wV 6) A2)) (D4 F3 (A0 (wV 5) A2))) (O6 (U4 (K4 (N4 Q3e (A0 (wV 1) (A0 (Q5c (wV 6)) A2))))) (K4 (N4 Q3e (A0 (wV 2) (A0 (Q5c (wV 6)) A2))))))) [o0,some (.dat (mD a)),some (.dat (mD b)),o3,o4,some (.dat (sD (some (G7 w)))),some (.dat (.str (G7 v))),o7]:=by
   refine No.or (fun Q q=>?_) (No.or (fun Q q=>?_) (No.or (fun Q q=>?_) fun Q q=>?_))
   ·rw[E6,B8];exact⟨_,rfl,_,rfl,rfl,q⟩
   ·rw[E6,L8];simp only[C7,L8,B8,C6];k_ne;show F3 [.st (.str (G7 v))] _;rw[Q9i,Z2w hv];refine⟨sz (by lia),_,rfl,?_⟩;show F3 [.st (.str (G7 w))] _;rw[Q9i,Z2w hw];refine⟨sz (by lia),?_⟩;rw[el];exact⟨_,_,rfl,rfl,rfl,by rw[Q3h];exact q⟩
   ·rw[Z7o,Q3c,Q0a];simp only[C7,B8,C6,Y8l];refine⟨_,rfl,_,rfl,_,rfl,sz (by rw[Z2w hv];lia),rfl,_,⟨a,v.reverse,?_,La.wf,hv.rev,rl,rfl⟩,?_⟩
    ·rw[Y7v hv];rfl
    ·rw[Q1x,va];exact q
   ·rw[Q3c,Q0a];simp only[C7,B8,C6,Y8l];refine⟨_,rfl,_,rfl,_,rfl,sz (by rw[Z2w hv];lia),rfl,_,⟨b,v.reverse,?_,Lb.wf,hv.rev,rl,rfl⟩,?_⟩
    ·rw[Y7v hv];rfl
    ·rw[Q1x,vb];exact q
  exact n2.skip (h _)
abbrev kv8:M (Str×Sum Int Str):=[("same",Sum.inr "same"),("less",Sum.inr "more"),("more",Sum.inr "less"),("apart",Sum.inr "apart"),("cross",Sum.inr "cross")]
theorem W8t {a b:F9}(wa:C5 a)(wb:C5 b):F4 (kvC kv8) (.inr (Q7m a b))=some (.str (Q7m b a)):=by
 have eu:F8 Q0w b a=F8 Q0w a b:=Z1h wb wa wa wb fun w _=>by cases B4 a w<;>cases B4 b w<;>rfl
 have em:F8 M5 b a=F8 M5 a b:=Z1h wb wa wa wb fun w _=>Bool.and_comm _ _;have hu:=W0e wa wb;unfold Q7m;rw[eu,em];cases h1:F8 Q0w a b with
 |none=>rfl
 |some t=>
  cases h2:F8 G5 a b with
  |none=>
   cases h3:F8 G5 b a with
   |none=>rw[hu.mpr ⟨h2,h3⟩]at h1;cases h1
   |some _=>rfl
  |some _=>
   cases h3:F8 G5 b a with
   |none=>rfl
   |some _=>cases h4:F8 M5 a b<;>rfl
def w8:WS:=(A9 (Z3i 7 kv8) (A9 (K8 (A5 L6 (B9 Q7x (A0 (wV 2) (A0 (wV 1) A2))) (Q1n 7 (B9 Q7x (A0 (wV 1) (A0 (wV 2) A2))))) (F7 (wC (.bl false))) K9) (F7 (wB (A5 (eqD 60 false) (B9 sp_within (A0 (wV 1) (A0 (B9 Q9t (A0 (wV 2) A2)) A2))) (wB (A5 (Y1 false) (B9 (spB M5) (A0 (wV 1) (A0 (wV 2) A2))) (wC .non))))))))
def rd8 {a b:F9}(La:K5 a)(Lb:K5 b)(la:a.1.length<=3)(lb:b.1.length<=3){Pr:R->Prop}  (h:Pr (.st (.bl true))):w8 (N8 Pr) [o0,some (.dat (mD a)),some (.dat (mD b)),o3,o4,o5,o6,o7]:=by
 have A:∀{o7:Ac Sl},MV (wV 1) [o0,some (.dat (mD a)),some (.dat (mD b)),o3,o4,o5,o6,o7] a 3:=fun {_}=>MV.var La la rfl;have B:∀{o7:Ac Sl},MV (wV 2) [o0,some (.dat (mD a)),some (.dat (mD b)),o3,o4,o5,o6,o7] b 3:=fun {_}=>MV.var Lb lb rfl;unfold w8;rw[G2,V5f];refine⟨by simp,?_⟩;dsimp only;rw[G2,Q2d,E6];refine lq B A ?_;rw[Q9q];refine⟨_,rfl,lq A B ⟨_,_,_,rfl,rfl,W8t La.wf Lb.wf,_,_,rfl,rfl,rfl,?_⟩⟩;rw[Q3h];show(if false=true then(_:Prop)else(_:Prop));rw[aI (?K),Q3b];dsimp only;rw[T7,s_b,E6];refine wq A (W2z B) ?_;rw[s_b,E6];refine bq A B ?_;rw[K1];refine Q8w ?_;have e:F8 G5 a (Q1c b)=F8 M5 a b:=Z1h La.wf (Y6u Lb.wf).wf La.wf Lb.wf fun w hw=>by rw[V1g Lb.wf hw];cases B4 a w<;>cases B4 b w<;>rfl
 rw[e];refine⟨_,_,rfl,rfl,bz _,?_⟩;rw[show(if false=true then !D.eq (.bl (F8 M5 a b).isNone) (.bl (F8 M5 a b).isNone)else D.eq (.bl (F8 M5 a b).isNone) (.bl (F8 M5 a b).isNone))=D.eq (.bl (F8 M5 a b).isNone) (.bl (F8 M5 a b).isNone)from rfl,Q3h];exact h
def Z2n:D5:=fun rs Pr=>∃ns:M Int,rs=[.st (scr ns)]/\ns.length<=63/\Pr (.st (.bl true))
theorem V3p:∀rs Pr,rs.length=1->Z2n rs Pr->W0p sp_least_of Y8z (spS gOr) sp_within (spB Q0w) (spS M5) (spB G5) Q3e Q3z (spB M5) Q7w Q7x Q9t (N8 Pr) (D8 W3i rs):=by
 rintro rs Pr _ ⟨ns,rfl,hn,h⟩;have f1:C5 (P4 ns 0 3):=Z6f ns 0 (?K);have l1:=Z6d ns 0 (most:=3) (?K);have f2:C5 (P4 ns 60 3):=Z6f ns 60 (?K);have l2:=Z6d ns 60 (most:=3) (?K);have f3:C5 (P4 ns 120 3):=Z6f ns 120 (?K);have l3:=Z6d ns 120 (most:=3) (?K);unfold W0p;rw[G2,N6,R0];simp only[Q0a,C7,B8,K1,C6];refine⟨_,rfl,rfl,_,⟨ns,0,3,rfl,hn,?K,?K,rfl⟩,rfl,_,rfl,f1,by lia,?_⟩;show Q0p (.st (mD (E9 (P4 ns 0 3).1 (P4 ns 0 3).2))) _;have La:=Q7l f1;have la:=aO (Q5t f1) l1;rw[S8];generalize E9 (P4 ns 0 3).1 (P4 ns 0 3).2=a at La la ⊢;rw[G2,N6,R0];simp only[Q0a,C7,B8,K1,C6];refine⟨_,rfl,rfl,_,⟨ns,60,3,rfl,hn,?K,?K,rfl⟩,rfl,_,rfl,f2,by lia,?_⟩;show Q0p (.st (mD (E9 (P4 ns 60 3).1 (P4 ns 60 3).2))) _;have Lb:=Q7l f2;have lb:=aO (Q5t f2) l2;rw[S8];generalize E9 (P4 ns 60 3).1 (P4 ns 60 3).2=b at Lb lb ⊢;rw[G2,N6,R0];simp only[Q0a,C7,B8,K1,C6];have h9:b.1.length*(P4 ns 120 3).1.length<=9:=eX lb l3;refine⟨_,rfl,_,rfl,rfl,_,⟨ns,120,3,rfl,hn,?K,?K,rfl⟩,rfl,b,P4 ns 120 3,rfl,⟨Lb.wf,f3,by lia⟩,?_⟩;show Q0p (.st (mD (Y3 gOr b (P4 ns 120 3)))) _;have Lc:=Z7u (g:=gOr) Lb.wf f3;have lc:=aO (Z2l (g:=gOr) Lb.wf f3) h9;have hs:∀u,B1 u->B4 b u=true->B4 (Y3 gOr b (P4 ns 120 3)) u=true:=fun u hu q=>by rw[Y6f Lb.wf f3 hu,q];rfl
 rw[S8];generalize Y3 gOr b (P4 ns 120 3)=c at Lc lc hs ⊢;rw[G2];refine(s1 (MV.var La la rfl) (MV.var Lb lb rfl) (MV.var Lc lc rfl) hs).skip ?_;dsimp only;rw[G2];refine(s2 (MV.var La la rfl) (MV.var Lb lb rfl)).skip ?_;dsimp only;rw[G2,N6];refine(MV.side (MV.var (n:=3) La la rfl) (MV.var (n:=3) Lb lb rfl)).q _ ?_;have Ld:=Z7u (g:=M5) La.wf Lb.wf;have ld:(Y3 M5 a b).1.length<=9:=aO (Z2l La.wf Lb.wf) (eX la lb);rw[S8];dsimp only;rw[G2];refine(s4 (MV.var La la rfl) (MV.var Lb lb rfl) (MV.var Ld ld rfl)).skip ?_;dsimp only;rw[G2,N6];refine bq (MV.var (n:=3) La la rfl) (MV.var (n:=3) Lb lb rfl) ?_;rw[S8];dsimp only;rw[G2];refine rd6 La Lb la lb rfl fun o6=>?_;dsimp only;rw[G2];refine(s7 (MV.var La la rfl) (MV.var Lb lb rfl) (MV.var Ld ld rfl)).skip ?_;exact rd8 La Lb la lb h
set_option hygiene false in
local macro_rules |`(tactic|x_go)=>`(tactic|(intro _ _ _ _ _ _ us hl;first |exact lst1 us hl fun _=>rfl |exact lst2 us hl fun _ _=>rfl |exact lst3 us hl fun _ _ _=>rfl |exact lst4 us hl fun _ _ _ _=>rfl))
set_option hygiene false in
local macro_rules |`(tactic|z_go)=>`(tactic|first
 |exact DE.v _ |exact DE.int |(refine A8.one ?_;z_go) |(refine A8.cons ?_ ?_<;>z_go) |exact A8.nil |(refine DA.one ?_;z_go) |(refine DA.cons ?_ ?_<;>z_go) |exact DA.nil
 |(refine Y6 _ ?_ nd;z_go) |(refine DS.ret ?_;z_go) |exact W2e (pv _) |(refine DS.ife ?_ ?_ ?_<;>z_go) |(refine DS.append (pv _) ?_;z_go) |(refine W1w V0q Q1j ?_ nd rfl (by trivial);z_go)
 |(refine Y0r cy ?_ ?_<;>z_go) |(refine DS.for cy rfl ?_ ?_ ?_<;>z_go) |(refine Q8g ?_ ?_<;>z_go) |(refine Y0n _ ?_;z_go) |(refine W1x (Q2l hr) (pv _) ?_ ?_<;>z_go) |(refine W2b (Q2l hr) (pv _) ?_ ?_<;>z_go) |(refine DS.extend (pv _) ?_;z_go)
 |exact DE.str |exact DE.bl |exact DE.non |exact W1r rfl Z.T.c_SIGNS |(refine DE.len Z.T.m_len ?_;z_go) |(refine Q3g Z.T.m_tuple ?_;z_go) |(refine DE.ix ?_ ?_ (fun _ _=>rfl)<;>z_go) |(refine DE.op Q6a Q5k ?_ ?_<;>z_go) |(refine DE.op od_sub Q1j ?_ ?_<;>z_go) |(refine DE.op Z6u Z6q ?_ ?_<;>z_go)
 |(refine DE.lst ?_;z_go) |(refine DE.tup ?_;z_go) |(refine DE.neg ?_;z_go) |(refine DE.slice ?_ ?_ ?_<;>z_go) |exact DO.none |(refine DO.some ?_;z_go) |(refine Y0g (k:=2) (hr.mono (?K)) (pv _) ?_;z_go) |(refine Y0g (k:=1) (hr.mono (?K)) (pv _) ?_;z_go) |(refine DE.ife ?_ ?_ ?_<;>z_go) |(refine W1p (Q2l hr) (pv _) ?_ (fun _ _=>rfl);z_go) |(refine Y0j (Q2l hr) (pv _) ?_ (fun _ _=>rfl);z_go) |(refine DE.index ?_ ?_<;>z_go) |(refine DE.nt ?_;z_go)
 |(refine DT.cmp W5a Q7a ?_ ?_ (P5 _)<;>z_go) |(refine DT.cmp cd_le Q7a ?_ ?_ (P5 _)<;>z_go) |(refine DT.cmp cd_gt Q7a ?_ ?_ (P5 _)<;>z_go) |(refine DT.cmp Y2o Q7a ?_ ?_ (P5 _)<;>z_go) |(refine DT.cmp (Z0v (n:=60) (Z1g hr)) Z1a ?_ ?_ (P5 _)<;>z_go) |(refine DT.cmp Q5m Q3u ?_ ?_ (P5 _)<;>z_go) |(refine DT.cmp Y2p Q3u ?_ ?_ (P5 _)<;>z_go) |(refine DT.cmp Q5n Q5v ?_ ?_ (P5 _)<;>z_go)
 |(refine DE.cmp cd_gt Q7a ?_ ?_ (P5 _)<;>z_go) |(refine DE.cmp Q5n Q5v ?_ ?_ (P5 _)<;>z_go) |(refine DE.cmp Q5m Q3u ?_ ?_ (P5 _)<;>z_go) |(refine DE.cmp Y2p Q3u ?_ ?_ (P5 _)<;>z_go) |(refine DE.cmp (Z0v (n:=60) (Z1g hr)) Z1a ?_ ?_ (P5 _)<;>z_go)
 |(refine Q0h ?_ (fun _=>rfl);z_go) |(refine W2j (Q2l hr) ?_ (pv _);z_go) |(refine W2k (Q2l hr) ?_ (pv _);z_go) |(refine DW.t ?_;z_go) |(refine DW.and ?_ ?_<;>z_go) |(refine DW.and1 ?_;z_go) |(refine DW.or ?_ ?_<;>z_go) |(refine DW.or1 ?_;z_go)
 |(refine DG.nm ?_ rfl (by trivial);first |exact nd |(dsimp only[blk];decide +kernel)) |(refine W1u rfl ?_;z_go) |(refine DGs.cons ?_ ?_<;>z_go) |exact DGs.nil |exact U5.nil |(refine U5.one ?_;z_go)
 |(refine DI.rng1 rfl Z.T.m_range ?_;z_go) |(refine DI.lst ?_;z_go) |(refine DI.tup ?_;z_go) |exact DI.own (pv _) |(refine DI.enumX rfl Z.T.m_enumerate bt_enumerate ?_;z_go) |(refine DI.str ?_;z_go)
 |(refine L0.lst ?_;z_go) |(refine L0.tup ?_;z_go) |(refine L0.rng1 rfl Z.T.m_range ?_;z_go) |(refine L0.str ?_;z_go) |(refine L0.enumX rfl Z.T.m_enumerate bt_enumerate ?_;z_go) |(refine X7 ?_;z_go))
local macro_rules |`(tactic|trivial)=>`(tactic|first |exact Or.inl rfl |exact Or.inr rfl)
def top (i:Nat):Al:=PySem.Challenge.pw_textkinds_k25_whole_compared.main.body.getD i (.Pass ⟨0,0,0,0⟩)
structure Txt (K:Fg9)(mg:Str->Ac Ad)(w:Ak):Prop where
 m_enumerate:mg "enumerate"=none
 m_len:mg "len"=none
 m_list:mg "list"=none
 m_max:mg "max"=none
 m_range:mg "range"=none
 m_sorted:mg "sorted"=none
 m_tuple:mg "tuple"=none
 m_zip:mg "zip"=none
 c_SIGNS:∃t,mg "SIGNS"=some (.str "01ab" t)
def bt_enumerate:bootBuiltins "enumerate"=some (.type "enumerate"):=?A
def W4l:bootBuiltins "list"=some (.type "list"):=?A
def Y2i:bootBuiltins "max"=some (.builtin "max"):=?A
def W4m:bootBuiltins "sorted"=some (.builtin "sorted"):=?A
abbrev Y9m:Al:=top 2
abbrev Y9f:Al:=top 3
abbrev Z8l:Al:=top 4
abbrev Z8e:Al:=top 5
abbrev Z8b:Al:=top 6
abbrev Q9u:Al:=top 7
abbrev Z8i:Al:=top 8
abbrev Z8m:Al:=top 9
abbrev Z2p:Al:=top 10
abbrev Z8d:Al:=top 11
abbrev Z2r:Al:=top 12
abbrev Z2q:Al:=top 13
abbrev Y9l:Al:=top 14
abbrev Y9e:Al:=top 16
abbrev Z8k:Al:=top 17
abbrev Z8h:Al:=top 18
abbrev Z8n:Al:=top 19
abbrev Y9n:Al:=top 20
abbrev Y9g:Al:=top 21
abbrev Y9d:Al:=top 23
abbrev Y9k:Al:=top 24
abbrev Z8f:Al:=top 26
abbrev Z8c:Al:=top 27
abbrev Z8j:Al:=top 28
abbrev Q6g:Al:=top 29
abbrev Z8g:Al:=top 31
abbrev Y9i:Al:=top 33
abbrev Y9j:Al:=top 34
abbrev Z2o:Al:=top 35
abbrev Y9h:Al:=top 38
structure Env (P:Aj)(w:Ak)(K:Fg9)(mg:Str->Ac Ad)(base:Heap)(ts:M Af)(ad:Nat->Af)(fn:Nat->Ai):Prop where
 T:Txt K mg w
 hBM:Y5 mg base
 D_walked:Df K mg "walked" Y9m ["start","step"] (ad 0) (fn 0)
 D_first_text:Df K mg "first_text" Y9f ["start","step","is_end"] (ad 1) (fn 1)
 D_states_along:DfO K mg "states_along" Z8l ["rows","text","start"] 0 (ad 2) (fn 2)
 D_comers:Df K mg "comers" Z8e ["rows","column"] (ad 3) (fn 3)
 D_all_reached:Df K mg "all_reached" Z8b ["some","onward"] (ad 4) (fn 4)
 D_distances:Df K mg "distances" Q9u ["ends","rows","wanted"] (ad 5) (fn 5)
 D_numbered:Df K mg "numbered" Z8i ["marks"] (ad 6) (fn 6)
 D_told_apart:Df K mg "told_apart" Z8m ["ends","rows"] (ad 7) (fn 7)
 D_least:Df K mg "least" Z2p ["ends","rows"] (ad 8) (fn 8)
 D_built:Df K mg "built" Z8d ["start","step","is_end"] (ad 9) (fn 9)
 D_pair_step:Df K mg "pair_step" Z2r ["one","other"] (ad 10) (fn 10)
 D_pair_end:Df K mg "pair_end" Z2q ["one","other","is_end"] (ad 11) (fn 11)
 D_side_by_side:Df K mg "side_by_side" Y9l ["one","other","is_end"] (ad 12) (fn 12)
 D_first_of_both:Df K mg "first_of_both" Y9e ["one","other","is_wanted"] (ad 13) (fn 13)
 D_parting:Df K mg "parting" Z8k ["one","other"] (ad 14) (fn 14)
 D_meeting:Df K mg "meeting" Z8h ["one","other"] (ad 15) (fn 15)
 D_unlike:Df K mg "unlike" Z8n ["one","other"] (ad 16) (fn 16)
 D_within:Df K mg "within" Y9n ["one","other"] (ad 17) (fn 17)
 D_how_they_lie:Df K mg "how_they_lie" Y9g ["one","other"] (ad 18) (fn 18)
 D_accepts:Df K mg "accepts" Y9d ["machine","text"] (ad 19) (fn 19)
 D_least_of:Df K mg "least_of" Y9k ["machine"] (ad 20) (fn 20)
 D_either:Df K mg "either" Z8f ["one","other"] (ad 21) (fn 21)
 D_both_of:Df K mg "both_of" Z8c ["one","other"] (ad 22) (fn 22)
 D_other_than:Df K mg "other_than" Z8j ["one"] (ad 23) (fn 23)
 D_turned:Df K mg "turned" Q6g ["one"] (ad 24) (fn 24)
 D_least_text:Df K mg "least_text" Z8g ["machine"] (ad 25) (fn 25)
 D_law_cell:Df K mg "_law_cell" Y9i ["_law_script","_law_k"] (ad 26) (fn 26)
 D_law_drawn:Df K mg "_law_drawn" Y9j ["_law_script","_law_k","_law_many"] (ad 27) (fn 27)
 D_law_machine:Df K mg "_law_machine" Z2o ["_law_script","_law_at","_law_most"] (ad 28) (fn 28)
 D_law:Df K mg "law" Y9h ["_law_script"] (ad 29) (fn 29)
 C_least:∃c Pt,Y8 K "least" "least" Z2p (ad 8) (fn 8) c Pt/\Pt∈ts
 C_pair_step:∃c Pt,Y8 K "pair_step" "pair_step" Z2r (ad 10) (fn 10) c Pt/\Pt∈ts
 C_pair_end:∃c Pt,Y8 K "pair_end" "pair_end" Z2q (ad 11) (fn 11) c Pt/\Pt∈ts
 C_parting:∃c Pt,Y8 K "parting" "parting" Z8k (ad 14) (fn 14) c Pt/\Pt∈ts
 C_meeting:∃c Pt,Y8 K "meeting" "meeting" Z8h (ad 15) (fn 15) c Pt/\Pt∈ts
 C_unlike:∃c Pt,Y8 K "unlike" "unlike" Z8n (ad 16) (fn 16) c Pt/\Pt∈ts
 C_either:∃c Pt,Y8 K "either" "either" Z8f (ad 21) (fn 21) c Pt/\Pt∈ts
 C_both_of:∃c Pt,Y8 K "both_of" "both_of" Z8c (ad 22) (fn 22) c Pt/\Pt∈ts
 C_turned:∃c Pt,Y8 K "turned" "turned" Q6g (ad 24) (fn 24) c Pt/\Pt∈ts
 C_least_text:∃c Pt,Y8 K "least_text" "least_text" Z8g (ad 25) (fn 25) c Pt/\Pt∈ts
section
variable {w:Ak}{ad:Nat->Af}{fn:Nat->Ai}(Z:Env P w K mg base ts ad fn)
omit Z in
def Env.go (_:Env P w K mg base ts ad fn)(k:Nat)       {ws:WS}(D:Df K mg x st ps f fd)(hw:∀rs r,rs.length=ps.length->sp rs r->ws (Y7 r) (D8 N rs))
  (hb:N.Nodup->∀(cdv:Ad) (A:Ah) (outer:M PySem.Env) (s:Ae) (H:Hp) (E:XK),E2 k (A.deeper (envOfC x (C0 st) s.heap.objs.size f cdv))->A8 (U8 G8 P w K mg base N x (C0 st) f cdv A outer s H E).nox H (M4 st) ws) (hs:scB N ps (C0 st)=true:=by decide +kernel):FnD P w K mg base (k+1) f fd ps sp:=
 D.ok (Q3y hs) (hb (Q3y hs).nd) hw
omit Z in
def Env.goT (_:Env P w K mg base ts ad fn)(k:Nat)      {sp:D5}{ws:WS}(D:Df K mg x st ps f fd)(hw:∀rs Pr,rs.length=ps.length->sp rs Pr->ws (N8 Pr) (D8 N rs))
  (hb:N.Nodup->∀(cdv:Ad) (A:Ah) (outer:M PySem.Env) (s:Ae) (H:Hp) (E:XK),Q5i ts H->E2 k (A.deeper (envOfC x (C0 st) s.heap.objs.size f cdv))->A8 (U8 G8 P w K mg base N x (C0 st) f cdv A outer s H E).nox H (M4 st) ws) (hs:scB N ps (C0 st)=true:=by decide +kernel):FnT P w K mg base ts (k+1) f fd ps sp:=
 Fun.okP D.F (Q3y hs) (hb (Q3y hs).nd) hw
omit Z in
def Env.goC (_:Env P w K mg base ts ad fn)(k:Nat){q:Str}     {sp:D5}{ws:WS}(C:∃c Pt,Y8 K x q st f fd c Pt/\Pt∈ts)(_:Df K mg x st ps f fd)(hw:∀rs Pr,rs.length=ps.length->sp rs Pr->ws (N8 Pr) (D8 N rs))
  (hb:N.Nodup->∀c Pt,Y8 K x q st f fd c Pt->Pt∈ts->∀(A:Ah) (outer:M PySem.Env) (s:Ae) (H:Hp) (E:XK),Q5i ts H->E2 k (A.deeper (envOfC q (C0 st) s.heap.objs.size f (.ref c)))->A8 (U8 G8 P w K mg base N q (C0 st) f (.ref c) A outer s H E).nox H (M4 st) ws) (hs:scB N ps (C0 st)=true:=by decide +kernel):FnT P w K mg base ts (k+1) f fd ps sp:=by
 obtain⟨c,Pt,C,h⟩:=C;exact C.okP (Q3y hs) (hb (Q3y hs).nd c Pt C h) hw
include Z
omit Z in
def Y8p:Z4 Y1p ["rows","text","start"] (C0 Z8l):=Q3y (?A)
omit Z in
def Y8o:Z4 Y1o ["one","other"] (C0 Z2r):=Q3y (?A)
omit Z in
def Y8n:Z4 Y1n ["one","other","is_end"] (C0 Z2q):=Q3y (?A)
def Y1f:=Z.go 2 Z.D_walked (sp:=(sp_walked (D9 P w K mg base 2))) (ws:=Z9x (D9 P w K mg base 2)) V4f fun nd _ _ _ s _ _ hr=>(A8.cons ?D (A8.cons (Y0m (i:=3) hr.units0 (DE.v 0) DE.int nd rfl (by trivial)) ?D))
def W2w:=Z.go 2 Z.D_walked (sp:=(sp_walkedK (D9 P w K mg base 2))) (ws:=Z9y (D9 P w K mg base 2)) V4g fun nd _ _ _ s _ _ hr=>(A8.cons ?D (A8.cons (Y0o (i:=3) (DE.v 0) DE.int nd rfl (by trivial)) ?D))
def W2o:=Z.go 2 Z.D_first_text (sp:=(sp_first_text (D9 P w K mg base 2))) (ws:=Z9p (D9 P w K mg base 2)) V3n fun nd _ _ _ s _ _ hr=>(A8.cons ?D (A8.cons (Y0m (i:=4) hr.units0 (DE.v 0) DE.str nd rfl (by trivial)) ?D))
def W2p:=Z.go 2 Z.D_first_text (sp:=(Q7v (D9 P w K mg base 2))) (ws:=Z9q (D9 P w K mg base 2)) V3o fun nd _ _ _ s _ _ hr=>(A8.cons ?D (A8.cons (Y0o (i:=4) (DE.v 0) DE.str nd rfl (by trivial)) ?D))
def W2u:FnD P w K mg base 1 (ad 2) (fn 2) ["rows","text","start"] Z7v:=by
 have nd:=Y8p.nd;refine Z.D_states_along.ok Y8p (ws:=Z9v  ) (fun cdv A outer s H E hr=>?_) V3e;exact ?D
def Y0u:=Z.go 0 Z.D_comers V3i fun nd _ _ _ s _ _ hr=>(A8.cons (Y0q (i:=2) rfl (W8 (sc:=C0 Z8e) (N0:=Y1j) (N:=["row"]) rfl rfl (?A)) ?D (fun _ _ _ _=>?D) (fun _ _ _ _=>?D) nd rfl (by trivial)) (A8.cons (DS.fzL 2 (DS.for cy rfl ?D ?D (A8.one (Y0p (pv 2) ?D ?D (fun _ _=>rfl) ⟨rfl,rfl,rfl,rfl⟩)))) ?D))
def W2l:=Z.goT 0 Z.D_all_reached V3d fun nd _ _ _ s _ _ hT hr=>(A8.cons (W2g (i:=2) rfl (W8 (sc:=C0 Z8b) (N0:=Y1h) (N:=["state"]) rfl rfl (?A)) ?D (fun _ _ _ _=>?D) (fun _ _ _ _=>(DE.v 0)) (fun _ _ _ _=>?D) nd rfl (by trivial)) (A8.cons (Y6 3 (Y0h (W4s rfl) W8z rfl Z.T.m_list W4l ?D) nd) (A8.cons ?D (A8.cons ?D (A8.one (W2d (pv 2)))))))
def Y0v:=Z.goT 1 Z.D_distances V3j fun nd _ _ _ s _ _ hT hr=>(A8.cons (Y0q (i:=3) rfl (W8 (sc:=C0 Q9u) (N0:=Z0i) (N:=["row"]) rfl rfl (?A)) (L0.or ?D ?D) (fun _ _ _ _=>?D) (fun _ _ _ _=>?D) nd rfl (by trivial)) (A8.cons (DS.fzL 3 (DS.for cy rfl (DI.or ?D (Y0l rfl Z.T.m_enumerate bt_enumerate ?D)) ?D (A8.one (DS.for cy rfl ?D ?D (A8.one (Y0p (pv 3) (DE.v 6) ?D (fun _ _=>rfl) ⟨rfl,rfl,rfl,rfl⟩)))))) (A8.cons (W2f (i:=7) (E8 (W9p) (W2l Z) hr hT Z.D_all_reached (DA.cons (DE.comp rfl (W8 (sc:=C0 Q9u) (N0:=Z0i) (N:=["state","end","wanted"]) rfl rfl (?A)) ?D (fun _ _ _ _=>?D) (fun _ _ _ _=>?D) (fun _ _ _ _=>?D)) ?D)) nd rfl (by trivial)) (A8.one (DS.ret (DE.comp rfl (W8 (sc:=C0 Q9u) (N0:=Z0i) (N:=["state","reached"]) rfl rfl (?A)) ?D (fun _ _ _ _=>?D) (fun _ _ _ _=>U5.nil) (fun _ _ _ _=>(X7 (W1q (Q2l hr) (pv 1) (DE.v 0) ⟨rfl,rfl,rfl,rfl⟩)))))))))
def Y0z:=Z.go 0 Z.D_numbered V3w fun nd _ _ _ s _ _ hr=>(W2i rfl (by have:=hr.units;show _+9<cLine;exact eS (tp (?K) _) this) (W8 (sc:=C0 Z8i) (N0:=Y1l) (N:=["mark","numbers"]) rfl rfl (?A)) ?D (fun _ _ _ _=>Y7e (show List.Nodup (["mark","numbers"]:M Str)by decide +kernel) rfl (by trivial)) (fun _ _ _ _=>V2c (by have:=hr.units;show _+9<cLine;exact eS (tp (?K) _) this) (pv 1) (pv 0) rfl Z.T.m_len (pv 1) ⟨rfl,rfl,rfl,rfl⟩) nd rfl (by trivial))
def W2v:=Z.goT 2 Z.D_told_apart V4c fun nd _ _ _ s _ _ hT hr=>(A8.cons (Y6 2 (X7 (DE.cl (Y0z Z) hr Z.D_numbered (DA.one (W1s rfl rfl Z.T.m_list rfl Z.T.m_zip (DA.cons (E8 (Y5y) (Y0v Z) hr hT Z.D_distances ?D) (DA.one (E8 (Y5y) (Y0v Z) hr hT Z.D_distances ?D))))))) nd) (A8.cons ?D (A8.cons (Y0r cy (DT.cmp Y2o Q7a (Z3w (Y2m rfl) Y5j rfl Z.T.m_max Y2i ?D) (DE.v 3) (P5 _)) (A8.cons (Y6 3 (DE.op Q6a Q5k (Z3w (Y2m rfl) Y5j rfl Z.T.m_max Y2i ?D) DE.int) nd) (A8.one (Y6 2 (X7 (DE.cl (Y0z Z) hr Z.D_numbered (DA.one (DE.comp rfl (W8 (sc:=C0 Z8m) (N0:=Y1q) (N:=["block","row","blocks"]) rfl rfl (?A)) (W1v rfl Z.T.m_zip ?D) (fun _ _ _ _=>?D) (fun _ _ _ _=>U5.nil) (fun _ _ _ _=>(X7 (DE.tup (DA.cons ?D (DA.one (X7 (Q3g Z.T.m_tuple (DE.comp rfl (W8 (N0:=["block","row","blocks"]) (N:=["goal","blocks"]) rfl rfl (by kernel_rfl)) ?D (fun _ _ _ _=>?D) (fun _ _ _ _=>U5.nil) (fun _ _ _ _=>?D))))))))))))) nd)))) ?D)))
def Y0y:=Z.goC 3 Z.C_least Z.D_least (ws:=Z9s (D9 P w K mg base 2) K sp_told_apart (sp_walkedK (D9 P w K mg base 2))) V3q fun nd c Pt C gx _ _ s _ _ hT hr=>(A8.cons (Y6 2 (X7 (E8 (W9t) (W2v Z) hr hT Z.D_told_apart ?D)) nd) (A8.cons (W1z (i:=3) nd rfl (by trivial)) (A8.cons (W1y 3 (DS.for cy rfl (Y0l rfl Z.T.m_enumerate bt_enumerate ?D) ?D (A8.one (W2c (pv 3) (DE.v 5) (DE.v 4) ⟨rfl,rfl,rfl,rfl⟩)))) (A8.cons (Q8g (W1m (kl:=1) (ps:=["block","column"]) (cs:=[("samples",3),("rows",1),("blocks",2)]) (clos:=[("samples",s.heap.objs.size+4),("rows",s.heap.objs.size+2),("blocks",s.heap.objs.size+3)]) (wb:=(Z3o K)) (W2w Z) (hr.mono (?K)) rfl Z.D_walked.m Z.D_walked.k Z.D_walked.b ?D (hT _ gx) Z.hBM rfl C.hd rfl rfl (aP.mpr ⟨rfl,aP.mpr ⟨rfl,aP.mpr ⟨rfl,fun _ h=>nomatch h⟩⟩⟩) (aP.mpr ⟨⟨rfl,rfl,rfl⟩,aP.mpr ⟨⟨rfl,rfl,rfl⟩,aP.mpr ⟨⟨rfl,rfl,rfl⟩,fun _ h=>nomatch h⟩⟩⟩) ⟨rfl,rfl,rfl,?A,?A,?A,?A,?A⟩ (fun _ _ _ _ _ us hl=>match us,hl with |[_,_],_=>rfl) (fun caps f c' A outer s H q hn hr=>(DE.ix (DE.v 4) (DE.ix (DE.ix (DE.v 3) (Y0i (Q2l hr) (pv 2) (DE.v 0) (fun _ _=>rfl)) (fun _ _=>rfl)) (DE.v 1) (fun _ _=>rfl)) (fun _ _=>rfl)))) ?D) (A8.one (DS.ret (DE.tup (DA.cons (X7 (Q3g Z.T.m_tuple (DE.comp rfl (W8 (sc:=C0 Z2p) (N0:=Y1k) (N:=["block","ends","samples"]) rfl rfl (?A)) ?D (fun _ _ _ _=>?D) (fun _ _ _ _=>U5.nil) (fun _ _ _ _=>(X7 (DE.ix (DE.v 1) (Y0i (Q2l hr) (pv 2) (DE.v 0) (fun _ _=>rfl)) (fun _ _=>rfl))))))) ?D))))))))
def W2n:=Z.goT 4 Z.D_built (sp:=(sp_built (D9 P w K mg base 2))) (ws:=Z9n (D9 P w K mg base 2) (sp_walked (D9 P w K mg base 2)) sp_least) V3g fun nd _ _ _ s _ _ hT hr=>(A8.cons (Q8g (DE.cl (Y1f Z) hr Z.D_walked ?D) ?D) (A8.one (DS.ret (E8 (Y5z) (Y0y Z) hr hT Z.D_least (DA.cons (DE.comp rfl (W8 (sc:=C0 Z8d) (N0:=Y1i) (N:=["key","is_end"]) rfl rfl (?A)) ?D (fun _ _ _ _=>?D) (fun _ _ _ _=>U5.nil) (fun _ _ _ _=>?D)) ?D)))))
def Y1b:FnT P w K mg base ts 3 (ad 10) (fn 10) ["one","other"] (sp_pair_step (D9 P w K mg base 2)):=by
 obtain⟨c,Pt,C,gx⟩:=Z.C_pair_step;have nd:=Y8o.nd;refine Y0t (lps:=["pair","column"]) (w1:=Z8y) (w2:=Z8z) (wb:=Z3q ) (cs:=[("rows",2),("other_rows",3)]) (kl:=1) C Y8o rfl Z.hBM gx (fun A outer s H E hr=>?_) (fun A outer s H E hr=>?_) (fun n=>[("rows",n+2),("other_rows",n+1)]) (fun n=>rfl) (fun n=>rfl) (fun n=>?_) ?_ ?_ (fun _ _ _ _ _ us hl=>match us,hl with |[_,_],_=>rfl) (fun caps g c' A outer s H q hn hr=>?_) (fun n=>rfl) V3z
 ·exact ?D
 ·exact ?D
 ·exact aP.mpr ⟨rfl,aP.mpr ⟨rfl,fun _ h=>nomatch h⟩⟩
 ·exact aP.mpr ⟨⟨rfl,rfl⟩,aP.mpr ⟨⟨rfl,rfl⟩,fun _ h=>nomatch h⟩⟩
 ·exact⟨rfl,rfl,rfl,?A,?A,?A,?A,?A⟩
 ·exact ?D
def Y1a:FnT P w K mg base ts 3 (ad 11) (fn 11) ["one","other","is_end"] (sp_pair_end (D9 P w K mg base 1) (D9 P w K mg base 2)):=by
 obtain⟨c,Pt,C,gx⟩:=Z.C_pair_end;have nd:=Y8n.nd;refine Y0t (lps:=["pair"]) (w1:=Z8x) (w2:=w2_pair_end) (wb:=Z3p (D9 P w K mg base 1)) (cs:=[("other_ends",4),("is_end",2),("ends",3)]) (kl:=1) C Y8n rfl Z.hBM gx (fun A outer s H E hr=>?_) (fun A outer s H E hr=>?_) (fun n=>[("other_ends",n+3),("is_end",n+1),("ends",n+2)]) (fun n=>rfl) (fun n=>rfl) (fun n=>?_) ?_ ?_ (fun _ _ _ _ _ us hl=>match us,hl with |[_],_=>rfl) (fun caps g c' A outer s H q hn hr=>?_) (fun n=>rfl) V3y
 ·exact ?D
 ·exact ?D
 ·exact aP.mpr ⟨rfl,aP.mpr ⟨rfl,aP.mpr ⟨rfl,fun _ h=>nomatch h⟩⟩⟩
 ·exact aP.mpr ⟨⟨rfl,rfl⟩,aP.mpr ⟨⟨rfl,rfl⟩,aP.mpr ⟨⟨rfl,rfl⟩,fun _ h=>nomatch h⟩⟩⟩
 ·exact⟨rfl,rfl,rfl,?A,?A,?A,?A,?A⟩
 ·exact ?D
def Y1c:=Z.goT 5 Z.D_side_by_side (sp:=(Q4u (D9 P w K mg base 1))) (ws:=Z9u  (sp_built (D9 P w K mg base 2)) (sp_pair_step (D9 P w K mg base 2)) (sp_pair_end (D9 P w K mg base 1) (D9 P w K mg base 2))) V4b fun nd _ _ _ s _ _ hT hr=>(A8.one (DS.ret (E8 (W9q) (W2n Z) hr hT Z.D_built (DA.cons ?D (DA.cons (E8 (Y6c) (Y1b Z) hr hT Z.D_pair_step ?D) (DA.one (E8 (Y6b) (Y1a Z) hr hT Z.D_pair_end ?D)))))))
def Z3y:=Z.goT 3 Z.D_first_of_both (sp:=(sp_first_of_both (D9 P w K mg base 1))) (ws:=Z9o  (sp_first_text (D9 P w K mg base 2)) (sp_pair_step (D9 P w K mg base 2)) (sp_pair_end (D9 P w K mg base 1) (D9 P w K mg base 2))) V3m fun nd _ _ _ s _ _ hT hr=>(A8.one (DS.ret (DE.cl (W2o Z) hr Z.D_first_text (DA.cons ?D (DA.cons (E8 (Y6c) (Y1b Z) hr hT Z.D_pair_step ?D) (DA.one (E8 (Y6b) (Y1a Z) hr hT Z.D_pair_end ?D)))))))
def Z4b:=Z.goC 4 Z.C_parting Z.D_parting (ws:=W0w (D9 P w K mg base 1) (sp_first_of_both (D9 P w K mg base 1))) V4a fun nd c Pt C gx _ _ s _ _ hT hr=>(A8.one (DS.ret (E8 (Z6p) (Z3y Z) hr hT Z.D_first_of_both (DA.cons (DE.v 0) (DA.cons (DE.v 1) (DA.one (Q8f (k:=0) (ps:=["end","other_end"]) (wb:=Z0d) (sp:=G6 Z0d []) (hT _ gx) Z.hBM rfl C.hd rfl ⟨rfl,rfl,rfl,?A,?A,?A,?A,?A⟩ (fun _ _ _ _ us hl=>match us,hl with |[_,_],_=>rfl) (fun f c' A outer s H q hr=>(DE.and (DE.v 0) (DE.and1 ?D))) (fun rs r _ ⟨ds,d,e1,e2,e3⟩=>⟨ds,d,e1,e2,by rw[cu,b8]at e3;exact e3⟩))))))))
def Q8h:=Z.goC 4 Z.C_meeting Z.D_meeting (ws:=W0t (D9 P w K mg base 1) (sp_first_of_both (D9 P w K mg base 1))) V3v fun nd c Pt C gx _ _ s _ _ hT hr=>(A8.one (DS.ret (E8 (Z6p) (Z3y Z) hr hT Z.D_first_of_both (DA.cons (DE.v 0) (DA.cons (DE.v 1) (DA.one (Q8f (k:=0) (ps:=["end","other_end"]) (wb:=Z0c) (sp:=G6 Z0c []) (hT _ gx) Z.hBM rfl C.hd rfl ⟨rfl,rfl,rfl,?A,?A,?A,?A,?A⟩ (fun _ _ _ _ us hl=>match us,hl with |[_,_],_=>rfl) (fun f c' A outer s H q hr=>(DE.and (DE.v 0) (DE.and1 (DE.v 1)))) (fun rs r _ ⟨ds,d,e1,e2,e3⟩=>⟨ds,d,e1,e2,by rw[cu,b8]at e3;exact e3⟩))))))))
def Y1e:=Z.goC 4 Z.C_unlike Z.D_unlike (ws:=W0y (D9 P w K mg base 1) (sp_first_of_both (D9 P w K mg base 1))) V4e fun nd c Pt C gx _ _ s _ _ hT hr=>(A8.one (DS.ret (E8 (Z6p) (Z3y Z) hr hT Z.D_first_of_both (DA.cons (DE.v 0) (DA.cons (DE.v 1) (DA.one (Q8f (k:=0) (ps:=["end","other_end"]) (wb:=Z0e) (sp:=G6 Z0e []) (hT _ gx) Z.hBM rfl C.hd rfl ⟨rfl,rfl,rfl,?A,?A,?A,?A,?A⟩ (fun _ _ _ _ us hl=>match us,hl with |[_,_],_=>rfl) (fun f c' A outer s H q hr=>?D) (fun rs r _ ⟨ds,d,e1,e2,e3⟩=>⟨ds,d,e1,e2,by rw[cu,b8]at e3;exact e3⟩))))))))
def Q1g:=Z.goT 5 Z.D_within V4h fun nd _ _ _ s _ _ hT hr=>(A8.one (DS.ret (DE.cmp Q5m Q3u (E8 (Q2y) (Z4b Z) hr hT Z.D_parting ?D) DE.non (P5 _))))
def Y0x:=Z.goT 6 Z.D_how_they_lie V3t fun nd _ _ _ s _ _ hT hr=>(A8.cons (DS.ife (DT.cmp Q5m Q3u (E8 (Q2y) (Y1e Z) hr hT Z.D_unlike ?D) DE.non (P5 _)) ?D A8.nil) (A8.cons (DS.ife (Q0h (E8 (Q1k) (Q1g Z) hr hT Z.D_within ?D) (fun _=>rfl)) ?D A8.nil) (A8.cons (DS.ife (Q0h (E8 (Q1k) (Q1g Z) hr hT Z.D_within ?D) (fun _=>rfl)) ?D A8.nil) (A8.one (DS.ret (DE.ife (DT.cmp Q5m Q3u (E8 (Q2y) (Q8h Z) hr hT Z.D_meeting ?D) DE.non (P5 _)) DE.str DE.str))))))
def Z0f:=Z.go 1 Z.D_accepts V3c fun nd _ _ _ s _ _ hr=>(A8.cons ?D (A8.one (DS.ret (DE.ix (DE.v 2) (DE.ix (W1k (W2u Z) (hr.mono (?K)) rfl Z.D_states_along.m Z.D_states_along.k Z.D_states_along.b ?D) ?D (fun _ _=>rfl)) (fun _ _=>rfl)))))
def Z0g:=Z.goT 4 Z.D_least_of V3r fun nd _ _ _ s _ _ hT hr=>(A8.cons ?D (A8.one (DS.ret (E8 (Y5z) (Y0y Z) hr hT Z.D_least ?D))))
def Y0w:=Z.goC 6 Z.C_either Z.D_either (ws:=W0n (D9 P w K mg base 1) (Q4u (D9 P w K mg base 1))) V3l fun nd c Pt C gx _ _ s _ _ hT hr=>(A8.one (DS.ret (E8 (Y6d) (Y1c Z) hr hT Z.D_side_by_side (DA.cons (DE.v 0) (DA.cons (DE.v 1) (DA.one (Q8f (k:=0) (ps:=["end","other_end"]) (wb:=Z0b) (sp:=G6 Z0b []) (hT _ gx) Z.hBM rfl C.hd rfl ⟨rfl,rfl,rfl,?A,?A,?A,?A,?A⟩ (fun _ _ _ _ us hl=>match us,hl with |[_,_],_=>rfl) (fun f c' A outer s H q hr=>(DE.or (DE.v 0) (DE.or1 (DE.v 1)))) (fun rs r _ ⟨ds,d,e1,e2,e3⟩=>⟨ds,d,e1,e2,by rw[cu,b8]at e3;exact e3⟩))))))))
def W2m:=Z.goC 6 Z.C_both_of Z.D_both_of (ws:=W0k (D9 P w K mg base 1) (Q4u (D9 P w K mg base 1))) V3f fun nd c Pt C gx _ _ s _ _ hT hr=>(A8.one (DS.ret (E8 (Y6d) (Y1c Z) hr hT Z.D_side_by_side (DA.cons (DE.v 0) (DA.cons (DE.v 1) (DA.one (Q8f (k:=0) (ps:=["end","other_end"]) (wb:=Z0a) (sp:=G6 Z0a []) (hT _ gx) Z.hBM rfl C.hd rfl ⟨rfl,rfl,rfl,?A,?A,?A,?A,?A⟩ (fun _ _ _ _ us hl=>match us,hl with |[_,_],_=>rfl) (fun f c' A outer s H q hr=>(DE.and (DE.v 0) (DE.and1 (DE.v 1)))) (fun rs r _ ⟨ds,d,e1,e2,e3⟩=>⟨ds,d,e1,e2,by rw[cu,b8]at e3;exact e3⟩))))))))
def W2t:=Z.goT 5 Z.D_other_than V3x fun nd _ _ _ s _ _ hT hr=>(A8.cons (Q8g (E8 (Z1u) (Z0g Z) hr hT Z.D_least_of ?D) ?D) (A8.one (DS.ret (DE.tup (DA.cons (X7 (Q3g Z.T.m_tuple (DE.comp rfl (W8 (sc:=C0 Z8j) (N0:=Y1m) (N:=["end"]) rfl rfl (?A)) ?D (fun _ _ _ _=>?D) (fun _ _ _ _=>U5.nil) (fun _ _ _ _=>?D)))) ?D)))))
def Y1d:=Z.goC 5 Z.C_turned Z.D_turned (ws:=Z9w (D9 P w K mg base 2) (sp_walked (D9 P w K mg base 2)) sp_least_of sp_comers) V4d fun nd c Pt C gx _ _ s _ _ hT hr=>(A8.cons (Q8g (E8 (Z1u) (Z0g Z) hr hT Z.D_least_of ?D) ?D) (A8.cons (Y0n 3 (by first |exact DS.set (i:=3) (DE.comp rfl (W8 (sc:=C0 Q6g) (N0:=Q8j) (N:=["column","rows"]) rfl rfl (?A)) ?D (fun _ _ _ _=>?D) (fun _ _ _ _=>U5.nil) (fun _ _ _ _=>(X7 (DE.cl (Y0u Z) hr Z.D_comers ?D)))) nd rfl (by trivial) |exact DS.setC (i:=3) rfl (W8 (sc:=C0 Q6g) (N0:=Q8j) (N:=["column","rows"]) rfl rfl (?A)) ?D (fun _ _ _ _=>?D) (fun _ _ _ _=>U5.nil) (fun _ _ _ _=>(X7 (DE.cl (Y0u Z) hr Z.D_comers ?D))) nd rfl (by trivial))) (W2h (i:=4) (kl:=1) (ps:=["states","column"]) (cs:=[("backward",3)]) (clos:=[("backward",s.heap.objs.size+2)]) (wb:=Z3r) nd rfl (by trivial) (hT _ gx) Z.hBM rfl C.hd rfl (Y1f Z) (hr.mono (?K)) rfl Z.D_walked.m Z.D_walked.k Z.D_walked.b (Q3g Z.T.m_tuple (DE.comp rfl (W8 (sc:=C0 Q6g) (N0:=Q8j) (N:=["state","end"]) rfl rfl (?A)) ?D (fun _ _ _ _=>?D) (fun _ _ _ _=>?D) (fun _ _ _ _=>?D))) (pv 4) rfl (aP.mpr ⟨rfl,fun _ h=>nomatch h⟩) (aP.mpr ⟨⟨rfl,rfl,rfl⟩,fun _ h=>nomatch h⟩) ⟨rfl,rfl,rfl,?A,?A,?A,?A,?A⟩ (fun _ _ _ _ _ _ us hl=>match us,hl with |[_,_],_=>rfl) (fun caps f c' A outer s H q hn hr=>(Q3g Z.T.m_tuple (W1t rfl rfl Z.T.m_sorted W4m (W8 (N0:=["states","column","backward"]) (N:=["state","comer","backward","column"]) rfl rfl (by kernel_rfl)) ?D (fun _ _ _ _=>?D) (fun _ _ _ _=>?D) (fun _ _ _ _=>?D) (fun _ _ _ _=>(DE.v 1))))) ?D (A8.one (DS.ret (DE.tup (DA.cons (X7 (Q3g Z.T.m_tuple (DE.comp rfl (W8 (sc:=C0 Q6g) (N0:=Q8j) (N:=["states"]) rfl rfl (?A)) ?D (fun _ _ _ _=>?D) (fun _ _ _ _=>U5.nil) (fun _ _ _ _=>(X7 (DE.cmp (W4z (n:=59) (hu59 hr)) W7a DE.int (DE.v 0) (by with_unfolding_all rfl))))))) ?D)))))))
def W2s:=Z.goC 3 Z.C_least_text Z.D_least_text (ws:=Z9t (D9 P w K mg base 2) (Q7v (D9 P w K mg base 2))) V3s fun nd c Pt C gx _ _ s _ _ hT hr=>(A8.cons ?D (A8.one (DS.ret (W1n (kl:=1) (ps:=["state","column"]) (qs:=["state"]) (cs:=[("rows",2)]) (es:=[("ends",1)]) (clos:=[("rows",s.heap.objs.size+2)]) (clo2:=[("ends",s.heap.objs.size+1)]) (wb:=W1b) (wc:=Y0b) (W2p Z) (hr.mono (?K)) rfl Z.D_first_text.m Z.D_first_text.k Z.D_first_text.b DE.int (hT _ gx) Z.hBM rfl C.hd rfl rfl (aP.mpr ⟨rfl,fun _ h=>nomatch h⟩) (aP.mpr ⟨⟨rfl,rfl,rfl⟩,fun _ h=>nomatch h⟩) ⟨rfl,rfl,rfl,?A,?A,?A,?A,?A⟩ rfl rfl (aP.mpr ⟨rfl,fun _ h=>nomatch h⟩) (aP.mpr ⟨⟨rfl,rfl,rfl⟩,fun _ h=>nomatch h⟩) ⟨rfl,rfl,rfl,?A,?A,?A,?A,?A⟩ (?K) (fun _ _ _ _ _ us hl=>match us,hl with |[_,_],_=>rfl) (fun _ _ _ _ _ us hl=>match us,hl with |[_],_=>rfl) (fun caps f c' A outer s H q hn hr=>?D) (fun caps f c' A outer s H q hn hr=>?D)))))
def W2r:=Z.go 0 Z.D_law_cell V3h fun nd _ _ _ s _ _ hr=>(A8.cons ?D (A8.one (DS.ret (DE.op Q6a Q5k (DE.ix (DE.v 0) (DE.op Q7q Q1j (DE.v 1) ?D) (fun _ _=>rfl)) (DE.op Z6u Z6q DE.int (DE.op Z2b Q1j (DE.v 1) ?D))))))
def Z3z:=Z.go 1 Z.D_law_drawn V3k fun nd _ _ _ s _ _ hr=>(A8.cons (Y6 3 (DE.op Q7q Q1j (DE.op Q6a Q5k (DE.op Z6u Z6q (DE.op Q7q Q1j (DE.cl (W2r Z) hr Z.D_law_cell ?D) DE.int) DE.int) ?D) DE.int) nd) (A8.cons (Y6 3 (DE.op Q7q Q1j (DE.op Q6a Q5k ?D (DE.op Z2b Q1j (DE.v 3) DE.int)) DE.int) nd) (A8.one (DS.ret (DE.op Q7q Q1j (DE.op Z2b Q1j (DE.op Q7q Q1j (DE.op Q6a Q5k ?D (DE.op Z2b Q1j (DE.v 3) DE.int)) DE.int) DE.int) (DE.v 2))))))
def Z4a:=Z.go 2 Z.D_law_machine V3u fun nd _ _ _ s _ _ hr=>(A8.cons (Y6 3 (DE.op Q6a Q5k DE.int (DE.cl (Z3z Z) hr Z.D_law_drawn ?D)) nd) (A8.cons (Y6 4 (Q3g Z.T.m_tuple (DE.comp rfl (W8 (sc:=C0 Z2o) (N0:=Z4c) (N:=["_law_k","_law_script","_law_at"]) rfl rfl (?A)) ?D (fun _ _ _ _=>?D) (fun _ _ _ _=>U5.nil) (fun _ _ _ _=>(X7 (DE.cmp (Z0v (n:=60) (Z1g hr)) Z1a (DE.cl (Z3z Z) hr Z.D_law_drawn ?D) DE.int (P5 _)))))) nd) (A8.cons ?D (A8.cons (DS.for cy rfl ?D ?D (A8.one (DS.append (pv 5) (X7 (Q3g Z.T.m_tuple (DE.comp rfl (W8 (sc:=C0 Z2o) (N0:=Z4c) (N:=["_law_j","_law_script","_law_size","_law_at","_law_k"]) rfl rfl (?A)) ?D (fun _ _ _ _=>?D) (fun _ _ _ _=>U5.nil) (fun _ _ _ _=>(X7 (DE.cl (Z3z Z) hr Z.D_law_drawn ?D))))))))) ?D))))
def W2q:=Z.goT 7 Z.D_law V3p fun nd _ _ _ s _ _ hT hr=>(A8.cons (Y6 1 (E8 (Z1u) (Z0g Z) hr hT Z.D_least_of (DA.one (DE.cl (Z4a Z) hr Z.D_law_machine ?D))) nd) (A8.cons (Y6 2 (E8 (Z1u) (Z0g Z) hr hT Z.D_least_of (DA.one (DE.cl (Z4a Z) hr Z.D_law_machine ?D))) nd) (A8.cons (Y6 3 (E8 (Z6o) (Y0w Z) hr hT Z.D_either (DA.cons (DE.v 2) (DA.one (DE.cl (Z4a Z) hr Z.D_law_machine ?D)))) nd) (A8.cons (DS.ife (DW.t (DW.or (DT.nt (Q0h (E8 (Q1k) (Q1g Z) hr hT Z.D_within ?D) (fun _=>rfl))) (DW.or (DT.nt (Q0h (E8 (Q1k) (Q1g Z) hr hT Z.D_within ?D) (fun _=>rfl))) (DW.or1 (DW.t (DW.and (Q0h (E8 (Q1k) (Q1g Z) hr hT Z.D_within ?D) (fun _=>rfl)) (DW.and1 (DT.nt (Q0h (E8 (Q1k) (Q1g Z) hr hT Z.D_within ?D) (fun _=>rfl)))))))))) ?D A8.nil) (A8.cons (DS.ife (DW.t (DW.or (DT.cmp Q5n Q5v (DE.and (E8 (Q1k) (Q1g Z) hr hT Z.D_within ?D) (DE.and1 (E8 (Q1k) (Q1g Z) hr hT Z.D_within ?D))) ?D (P5 _)) (DW.or1 (DT.cmp Q5n Q5v (DE.cmp Q5m Q3u (E8 (Q2y) (Y1e Z) hr hT Z.D_unlike ?D) DE.non (P5 _)) ?D (P5 _))))) ?D A8.nil) (A8.cons (Y6 4 (E8 (Z6o) (W2m Z) hr hT Z.D_both_of ?D) nd) (A8.cons (DS.ife (DW.t (DW.or (DT.nt (Q0h (E8 (Q1k) (Q1g Z) hr hT Z.D_within ?D) (fun _=>rfl))) (DW.or (DT.nt (Q0h (E8 (Q1k) (Q1g Z) hr hT Z.D_within ?D) (fun _=>rfl))) (DW.or1 (DT.nt (Q0h (E8 (Q1k) (Q1g Z) hr hT Z.D_within (DA.cons (DE.v 2) (DA.one (E8 (Z6o) (Y0w Z) hr hT Z.D_either ?D)))) (fun _=>rfl))))))) ?D A8.nil) (A8.cons (Y6 5 (E8 (Q2y) (Z4b Z) hr hT Z.D_parting ?D) nd) (A8.cons (DS.ife ?D (A8.cons (DS.ife (DW.t (DW.or (DT.nt (Q0h (DE.cl (Z0f Z) hr Z.D_accepts ?D) (fun _=>rfl))) (DW.or1 (Q0h (DE.cl (Z0f Z) hr Z.D_accepts ?D) (fun _=>rfl))))) ?D A8.nil) (A8.cons (Y6 6 (E8 (Q2y) (Z4b Z) hr hT Z.D_parting (DA.cons (E8 (Y6e) (Y1d Z) hr hT Z.D_turned ?D) (DA.one (E8 (Y6e) (Y1d Z) hr hT Z.D_turned ?D)))) nd) (A8.one (DS.ife (DW.t (DW.or ?D (DW.or ?D (DW.or (DT.nt (Q0h (DE.cl (Z0f Z) hr Z.D_accepts (DA.cons (DE.v 1) (DA.one (Y0k (DE.v 6))))) (fun _=>rfl))) (DW.or1 (Q0h (DE.cl (Z0f Z) hr Z.D_accepts (DA.cons (DE.v 2) (DA.one (Y0k (DE.v 6))))) (fun _=>rfl))))))) ?D A8.nil)))) A8.nil) (A8.cons (DS.ife (DW.t (DW.or (DT.cmp Q5n Q5v (E8 (Q2y) (Q8h Z) hr hT Z.D_meeting ?D) (E8 (W9r) (W2s Z) hr hT Z.D_least_text ?D) (P5 _)) (DW.or1 (DT.cmp Q5n Q5v (E8 (Q2y) (Q8h Z) hr hT Z.D_meeting ?D) (E8 (Q2y) (Q8h Z) hr hT Z.D_meeting ?D) (P5 _))))) ?D A8.nil) (A8.cons (W2a (i:=7) (kvs:=[("same",Sum.inr "same"),("less",Sum.inr "more"),("more",Sum.inr "less"),("apart",Sum.inr "apart"),("cross",Sum.inr "cross")]) (Q1f.str (Q1f.str (Q1f.str (Q1f.str (Q1f.str Q1f.nil))))) ?G (?K) (?K) (?A) nd rfl (by trivial)) (A8.cons (DS.ife (DT.cmp Q5n Q5v (E8 (Y6a) (Y0x Z) hr hT Z.D_how_they_lie ?D) (Y0j (Q2l hr) (pv 7) (E8 (Y6a) (Y0x Z) hr hT Z.D_how_they_lie ?D) (fun _ _=>rfl)) (P5 _)) ?D A8.nil) (A8.one (DS.ret (DE.cmp (Z0v (n:=60) (Z1g hr)) Z1a (E8 (Q1k) (Q1g Z) hr hT Z.D_within (DA.cons (DE.v 1) (DA.one (E8 (W9s) (W2t Z) hr hT Z.D_other_than ?D)))) (DE.cmp Q5m Q3u (E8 (Q2y) (Q8h Z) hr hT Z.D_meeting ?D) DE.non (P5 _)) (P5 _))))))))))))))))
end
def W4c {l:PySem.W.OpenLaw}{w:Ak}    {fa:Af}  (X:K.In h)(G:h.Ns mainGlobals mg)(x0:mg "law"=some (.ref fa))
  {f0:Af}{d0:Ai} (H0:Hr K "walked" Y9m f0 d0)
  {f1:Af}{d1:Ai} (H1:Hr K "first_text" Y9f f1 d1)
   {d2:Ai} (H2:HrO K "states_along" Z8l 0 f2 d2)
  {f3:Af}{d3:Ai} (H3:Hr K "comers" Z8e f3 d3)
  {f4:Af}{d4:Ai} (H4:Hr K "all_reached" Z8b f4 d4)
  {f5:Af}{d5:Ai} (H5:Hr K "distances" Q9u f5 d5)
  {f6:Af}{d6:Ai} (H6:Hr K "numbered" Z8i f6 d6)
  {f7:Af}{d7:Ai} (H7:Hr K "told_apart" Z8m f7 d7)
  {f8 c8 p8:Af}{d8:Ai} (H8:HrC K "least" Z2p f8 d8 c8 p8 ts)
  {f9:Af}{d9:Ai} (H9:Hr K "built" Z8d f9 d9)
  {uI y7 tS:Af}{vc:Ai} (qk:HrC K "pair_step" Z2r uI vc y7 tS ts)
  {uH y6 tR:Af}{v9:Ai} (qj:HrC K "pair_end" Z2q uH v9 y6 tR ts)
  {uG:Af}{v6:Ai} (yr:Hr K "side_by_side" Y9l uG v6)
  {uF:Af}{v4:Ai} (yq:Hr K "first_of_both" Y9e uF v4)
  {uE y4 tQ:Af}{uZ:Ai} (qi:HrC K "parting" Z8k uE uZ y4 tQ ts)
  {uD y3 tP:Af}{uY:Ai} (qh:HrC K "meeting" Z8h uD uY y3 tP ts)
  {uC y2 tO:Af}{uX:Ai} (qg:HrC K "unlike" Z8n uC uX y2 tO ts)
  {uB:Af}{uW:Ai} (yp:Hr K "within" Y9n uB uW)
  {uA:Af}{uV:Ai} (yo:Hr K "how_they_lie" Y9g uA uV)
  {uz:Af}{uU:Ai} (yn:Hr K "accepts" Y9d uz uU)
  {p7:Af}{uT:Ai} (ym:Hr K "least_of" Y9k p7 uT)
  {ux y1 tN:Af}{uS:Ai} (qf:HrC K "either" Z8f ux uS y1 tN ts)
  {uw y0 tM:Af}{uR:Ai} (qe:HrC K "both_of" Z8c uw uR y0 tM ts)
  {uv:Af}{uQ:Ai} (yj:Hr K "other_than" Z8j uv uQ)
  {uu xZ tL:Af}{uP:Ai} (qd:HrC K "turned" Q6g uu uP xZ tL ts)
  {ut xY tJ:Af}{uO:Ai} (q9:HrC K "least_text" Z8g ut uO xY tJ ts)
  {ur:Af}{uN:Ai} (yi:Hr K "_law_cell" Y9i ur uN)
  {uq:Af}{uM:Ai} (yh:Hr K "_law_drawn" Y9j uq uM)
  {uo:Af}{uL:Ai} (yg:Hr K "_law_machine" Z2o uo uL)
  {xO:Af}{t4:Ai} (q8:Hr K "law" Y9h xO t4)
  (z0:PySem.W.nsIn K mainGlobals "enumerate"=some none)    (z1:PySem.W.nsIn K mainGlobals "len"=some none)    (z2:PySem.W.nsIn K mainGlobals "list"=some none)    (z3:PySem.W.nsIn K mainGlobals "max"=some none)    (z4:PySem.W.nsIn K mainGlobals "range"=some none)    (z5:PySem.W.nsIn K mainGlobals "sorted"=some none)    (z6:PySem.W.nsIn K mainGlobals "tuple"=some none)    (z7:PySem.W.nsIn K mainGlobals "zip"=some none) {t0:Tok} (s0:PySem.W.nsIn K mainGlobals "SIGNS"=some (some (.str "01ab" t0))) (mw:∀Pt∈ts,Pt=p8\/Pt=tS\/Pt=tR\/Pt=tQ\/Pt=tP\/Pt=tO\/Pt=tN\/Pt=tM\/Pt=tL\/Pt=tJ):
  (∀Pt∈ts,(∃c,PySem.W.codeHdIn K c Pt=true)/\K.lookup Pt=none)/\∃fd:Ai,(∀(s:Ae) (v:Ad),BindsTo s fd ⟨[v],[]⟩ [("_law_script",v)])/\∀base:Heap,K.In base->base.Ns mainGlobals mg->Y5 mg base->O8 l.prog w K mg base G8 8 fa fd ["_law_script"] (Q7o K ts 1 Z2n):=by
 have e:=x0.symm.trans (hV X G q8.1);cases e;refine⟨fun Pt hp=>by
  rcases mw Pt hp with rfl |rfl |rfl |rfl |rfl |rfl |rfl |rfl |rfl |rfl
  ·exact H8.at
  ·exact qk.at
  ·exact qj.at
  ·exact qi.at
  ·exact qh.at
  ·exact qg.at
  ·exact qf.at
  ·exact qe.at
  ·exact qd.at
  ·exact q9.at
  ,?_⟩
 have T:Txt K mg w:={m_enumerate:=bW X G z0,m_len:=bW X G z1,m_list:=bW X G z2,m_max:=bW X G z3,m_range:=bW X G z4,m_sorted:=bW X G z5,m_tuple:=bW X G z6,m_zip:=bW X G z7,c_SIGNS:=⟨t0,hV X G s0⟩}
 have Lw:=q8.df (ps:=["_law_script"]) X G (by x_go);obtain⟨⟨oc,od,kV,dc,pm,an,cd,ct,sl,e,l1,l2⟩,kp⟩:=q8.2;refine⟨t4,fun s v=>by subst e;exact .of_eq rfl,fun base hB _ hBM=>?_⟩;exact W2q (ad:=fun i=>([f0,f1,f2,f3,f4,f5,f6,f7,f8,f9,uI,uH,uG,uF,uE,uD,uC,uB,uA,uz,p7,ux,uw,uv,uu,ut,ur,uq,uo,fa]:M Af).getD i 0) (fn:=fun i=>([d0,d1,d2,d3,d4,d5,d6,d7,d8,d9,vc,v9,v6,v4,uZ,uY,uX,uW,uV,uU,uT,uS,uR,uQ,uP,uO,uN,uM,uL,t4]:M Ai).getD i d0) ⟨T,hBM,
  H0.df X G (by x_go),
  H1.df X G (by x_go),
  H2.df X G fun _ _ _ _ _ _ _ _ _ _ _ _ dl s us hK hl=>match us,(show us.length=2 by simpa using hl)with |[_,_],_=>PySem.W.binds_K hK rfl dl rfl rfl rfl,
  H3.df X G (by x_go),
  H4.df X G (by x_go),
  H5.df X G (by x_go),
  H6.df X G (by x_go),
  H7.df X G (by x_go),
  H8.hr.df X G (by x_go),
  H9.df X G (by x_go),
  qk.hr.df X G (by x_go),
  qj.hr.df X G (by x_go),
  yr.df X G (by x_go),
  yq.df X G (by x_go),
  qi.hr.df X G (by x_go),
  qh.hr.df X G (by x_go),
  qg.hr.df X G (by x_go),
  yp.df X G (by x_go),
  yo.df X G (by x_go),
  yn.df X G (by x_go),
  ym.df X G (by x_go),
  qf.hr.df X G (by x_go),
  qe.hr.df X G (by x_go),
  yj.df X G (by x_go),
  qd.hr.df X G (by x_go),
  q9.hr.df X G (by x_go),
  yi.df X G (by x_go),
  yh.df X G (by x_go),
  yg.df X G (by x_go),
  q8.df X G (by x_go),⟨_,_,H8.fc,H8.tb⟩,⟨_,_,qk.fc,qk.tb⟩,⟨_,_,qj.fc,qj.tb⟩,⟨_,_,qi.fc,qi.tb⟩,⟨_,_,qh.fc,qh.tb⟩,⟨_,_,qg.fc,qg.tb⟩,⟨_,_,qf.fc,qf.tb⟩,⟨_,_,qe.fc,qe.tb⟩,⟨_,_,qd.fc,qd.tb⟩,⟨_,_,q9.fc,q9.tb⟩⟩
def walk {l:PySem.W.OpenLaw}     {d:DefRec}{K:Params->Fg9}  (hn:l.most=some 63)(l7:d.params.defaults=[])
  (hY:∀(w:Ak) (h:Heap),YP w h->(K w.params).In h) (sJ:∀(w:Ak) (h:Heap),YP w h->∀Pt∈ts,h.get? Pt=some (PySem.W.tabObj #[]))
  (F:∀(w:Ak) (mg:Str->Ac Ad) (fa:Af) (h:Heap),(K w.params).In h->h.Ns mainGlobals mg->mg d.name=some (.ref fa) ->
   (∀Pt∈ts,(∃c,PySem.W.codeHdIn (K w.params) c Pt=true)/\(K w.params).lookup Pt=none) /\
   ∃fd:Ai,(∀(s:Ae) (u:Ad),BindsTo s fd ⟨[u],[]⟩ [("_law_script",u)])/\∀base:Heap,(K w.params).In base->base.Ns mainGlobals mg->Y5 mg base->O8 l.prog w (K w.params) mg base G8 8 fa fd ["_law_script"] (Q7o (K w.params) ts 1 Z2n)):
  PySem.W.WalkO q iY XP YP l.row.toRowW d [] (fun f vs=>PySem.call f vs):=
 V8d (n:=63) (k:=8) (x:="_law_script") (sp:=fun w=>Q7o (K w.params) ts 1 Z2n) hn (?K) l7 ⟨rfl,?K,?K⟩ hY sJ F
  (fun w H a ns hl hT hz=>⟨[.st (scr ns)],fun r=>r=.st (.bl true),rfl,⟨_,_,rfl,A3.s_lst hz AllS.ints,rfl⟩,rfl,hT,⟨ns,rfl,hl,rfl⟩,fun r v H' e sm ir=>⟨by subst e;exact ir,fun Pt hp=>sm _ _ (hT Pt hp)⟩⟩)
end
end L2
open PySem PySem.W PyProof.Rows L2
namespace PySem.W.Fast
theorem tw18226119696768049367:1=1:=rfl
theorem tw14777153728488831200:1=1:=rfl
theorem tw4674485533568902677:1=1:=rfl
theorem tw2819960330866887762:1=1:=rfl
theorem tw10297790953437123789:1=1:=rfl
theorem tw13003818445790284950:1=1:=rfl
theorem tw11766933785916306972:1=1:=rfl
theorem tw8318814977928731931:1=1:=rfl
theorem tw3729725238262477229:1=1:=rfl
theorem tw1384515442317824037:1=1:=rfl
theorem tw11514317700667920374:1=1:=rfl
theorem tw9563849907080651545:1=1:=rfl
theorem tw3839070869149103454:1=1:=rfl
theorem tw6805469068089078046:1=1:=rfl
theorem tw7546687498563928378:1=1:=rfl
theorem tw16935926942862850154:1=1:=rfl
theorem tw3430143724089934018:1=1:=rfl
theorem tw13375345488200687914:1=1:=rfl
theorem tw12114763152991753729:1=1:=rfl
theorem tw131904557911031139:1=1:=rfl
theorem tw12676592079990567050:1=1:=rfl
theorem tw5131171582157681222:1=1:=rfl
theorem tw7090232408078267402:1=1:=rfl
theorem tw5700506057967367862:1=1:=rfl
theorem tw11706351447018660124:1=1:=rfl
theorem tw3421053819336572636:1=1:=rfl
theorem tw17996265200522910831:1=1:=rfl
theorem tw1048173239302484901:1=1:=rfl
theorem tw136998968888978011:1=1:=rfl
theorem tw2429919964790035660:1=1:=rfl
theorem tw4279298572746123843:1=1:=rfl
theorem tw12313103948101138009:1=1:=rfl
theorem tw9392951385360727571:1=1:=rfl
theorem tw14204013462262947025:1=1:=rfl
theorem tw321211364993483541:1=1:=rfl
theorem tw2173847057916735388:1=1:=rfl
theorem tw16872012653894624656:1=1:=rfl
theorem tw3852454135484335240:1=1:=rfl
theorem tw16745180014140759388:1=1:=rfl
theorem tw9219172899404248993:1=1:=rfl
theorem tw10862438137150642491:1=1:=rfl
theorem tw17713920682896641260:1=1:=rfl
theorem tw775344505125727906:1=1:=rfl
theorem tw12759346634970177971:1=1:=rfl
theorem tw7713571699613036961:1=1:=rfl
theorem tw4322517803529958840:1=1:=rfl
theorem tw672433201089487731:1=1:=rfl
theorem tw13264839408485018945:1=1:=rfl
theorem tw7444892075888906529:1=1:=rfl
theorem tw3455782482864358242:1=1:=rfl
theorem tw12224127863035667844:1=1:=rfl
theorem tw10944300890261606340:1=1:=rfl
theorem tw4504949747184797434:1=1:=rfl
theorem tw7352437938987001347:1=1:=rfl
theorem tw17736885056455251952:1=1:=rfl
theorem tw7753045428431383030:1=1:=rfl
theorem tw8490910155565682663:1=1:=rfl
theorem tw14209735872985686720:1=1:=rfl
theorem tw8217540761415542065:1=1:=rfl
theorem tw5966072900462471845:1=1:=rfl
theorem tw16912203931442516050:1=1:=rfl
theorem tw14715984587927197878:1=1:=rfl
theorem tw12059087452135439318:1=1:=rfl
theorem tw7984377860953921796:1=1:=rfl
theorem tw5904746661993286759:1=1:=rfl
theorem tw5676548600585677103:1=1:=rfl
theorem tw7605110517153903469:1=1:=rfl
theorem tw11776305001598481929:1=1:=rfl
theorem tw12867170994749354143:1=1:=rfl
theorem tw15338345795523057322:1=1:=rfl
theorem tw1691178641458182260:1=1:=rfl
theorem tw6207572022152566849:1=1:=rfl
theorem tw16957605624286650699:1=1:=rfl
theorem tw2169336049601060797:1=1:=rfl
theorem tw16883764564688842924:1=1:=rfl
theorem tw3869523033632802070:1=1:=rfl
theorem tw8740675385718144617:1=1:=rfl
theorem tw287291986409711019:1=1:=rfl
theorem tw12616463976406617762:1=1:=rfl
end PySem.W.Fast
theorem PySem.Challenge.cw_textkinds_k25_whole_compared_holds : PySem.Challenge.rw_textkinds_k25_whole_compared.Holds := by
 w_on;o_law;k_head;(case hw=>w_witness2)
 k_fill
 refine L2.walk (l:=PySem.Challenge.rw_textkinds_k25_whole_compared) rfl rfl (fun w h Y=>PySem.W.km_in_of Y) (fun w h Y=>PySem.W.km_tabs_of Y) ?F
 case F=>
  intro w mg fa h KX G oq
  refine' L2.W4c KX G oq ?_ ?_ ?_ ?_ ?_ ?_ ?_ ?_ ?_ ?_ ?_ ?_ ?_ ?_ ?_ ?_ ?_ ?_ ?_ ?_ ?_ ?_ ?_ ?_ ?_ ?_ ?_ ?_ ?_ ?_ ?_ ?_ ?_ ?_ ?_ ?_ ?_ ?_ ?_ ?_
  all_goals try first |(refine' W6q ?_ ?_ ?_ ?_;any_goals k_is;done) |(refine' W6s ?_ ?_ ?_ ?_ ?_;any_goals k_is;done) |(refine' W6r ?xa ?xl ?xc ?xk ?xq ?xp ?xh ?xn ?xm;(case xa=>k_is);(case xl=>k_is);(case xc=>k_is);(case xk=>k_is);(case xq=>k_is);(case xp=>rfl);(case xh=>kernel_rfl);(case xn=>kernel_rfl);(case xm=>decide)) |k_is |decide
#print axioms PySem.Challenge.cw_textkinds_k25_whole_compared_holds